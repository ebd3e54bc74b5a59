import PyProof.Rows.All
import Wide.All
import OpenK.AllK
import Wide.FinOn
import Lean
import PyProof.EqAt
import PyProof.EqKinds
import PyProof.TupleCall
import PySem.Challenge.RW_cellways_k31_whole_narrow
set_option Elab.async false
set_option linter.all false
set_option genSizeOf false
set_option maxRecDepth 100000
theorem zzf:¬false=true:=Bool.false_ne_true
namespace L2
open PySem PySem.Spec PyProof.Rows
abbrev Key:=Sum Int Str
def lG:Key→Value→Bool
 |.inl k,v=>Value.isInt k v
 |.inr x,v=>Value.isStrOf x v
def JH(w:World):Key→Int
 |.inl k=>hashInt k
 |.inr x=>hashStr w x
theorem bB:∀{k:Key} {v:Value},lG k v=true→(∃i t,k=Sum.inl i∧v=Value.int i t)∨(∃x t,k=Sum.inr x∧v=Value.str x t)
 |.inl i,v,h=>by
  obtain⟨t,e⟩:=Value.isInt_shape (k:=i) (v:=v) h
  exact .inl ⟨i,t,rfl,e⟩
 |.inr x,v,h=>by
  obtain⟨t,e⟩:=Value.isStrOf_shape (x:=x) (v:=v) h
  exact .inr ⟨x,t,rfl,e⟩
theorem uP(i:Int)(t:Tok):lG (.inl i) (.int i t)=true:=by simp [lG,Value.isInt]
theorem uH(x:Str)(t:Tok):lG (.inr x) (.str x t)=true:=by simp [lG,Value.isStrOf]
theorem B8(a b:Int):decide ((Sum.inl a:Key)=Sum.inl b)=(a==b):=by
 by_cases e:a=b
 ·subst e;simp
 ·have h:¬(Sum.inl a:Key)=Sum.inl b:=fun q=>e (Sum.inl.inj q)
  rw [decide_eq_false h];exact(beq_eq_false_iff_ne.mpr e).symm
theorem Eo(a b:Str):decide ((Sum.inr a:Key)=Sum.inr b)=decide (a=b):=by
 by_cases e:a=b
 ·subst e;simp
 ·have h:¬(Sum.inr a:Key)=Sum.inr b:=fun q=>e (Sum.inr.inj q)
  rw [decide_eq_false h,decide_eq_false e]
theorem Dv(a:Int)(b:Str):decide ((Sum.inl a:Key)=Sum.inr b)=false:=decide_eq_false (fun q=>nomatch q)
theorem CN(a:Str)(b:Int):decide ((Sum.inr a:Key)=Sum.inl b)=false:=decide_eq_false (fun q=>nomatch q)
noncomputable def bH(prog:Program)(w:World):PySem.KeyKind prog w Key where
 is:=lG
 hash:=JH w
 inj:=fun v a b ha hb=>by
  rcases bB ha with⟨i,t,rfl,rfl⟩|⟨x,t,rfl,rfl⟩
  ·rcases bB hb with⟨j,u,rfl,e⟩|⟨y,u,rfl,e⟩
   ·injection e with e1 _;rw [e1]
   ·exact nomatch e
  ·rcases bB hb with⟨j,u,rfl,e⟩|⟨y,u,rfl,e⟩
   ·exact nomatch e
   ·injection e with e1 _;rw [e1]
 byValue:=fun k v h=>by
  rcases bB h with⟨i,t,rfl,rfl⟩|⟨x,t,rfl,rfl⟩<;>rfl
 pyHash:=fun hv h=>by
  rcases bB hv with⟨i,t,rfl,rfl⟩|⟨x,t,rfl,rfl⟩
  ·exact wpAny_pyHash_int h
  ·exact wpAny_pyHash_str h
 eqBool:=fun hu hv h=>by
  rcases bB hu with⟨i,t,rfl,rfl⟩|⟨x,t,rfl,rfl⟩
  ·rcases bB hv with⟨j,u,rfl,rfl⟩|⟨y,u,rfl,rfl⟩
   ·rw [B8] at h;exact wpAny_eqBool_int h
   ·rw [Dv] at h;exact SeqAt.EqAt.int_str i t y u _ _ _ _ h
  ·rcases bB hv with⟨j,u,rfl,rfl⟩|⟨y,u,rfl,rfl⟩
   ·rw [CN] at h;exact SeqAt.EqAt.str_int x t j u _ _ _ _ h
   ·rw [Eo] at h;exact wpAny_eqBool_str h
 «strs»:=fun k x t v h=>by
  rcases bB h with⟨i,u,rfl,e⟩|⟨y,u,rfl,e⟩
  ·exact nomatch e
  ·injection e with e1 _
   subst e1;cases v<;>rfl
theorem oJ(prog:Program)(w:World)(i:Int)(t:Tok):(bH prog w).is (.inl i) (.int i t)=true:=uP i t
theorem o7(prog:Program)(w:World)(x:Str)(t:Tok):(bH prog w).is (.inr x) (.str x t)=true:=uH x t
end L2
namespace L2
open PySem PySem.Spec PyProof.Rows
inductive V where
 |non|bl (b:Bool)|int (i:Int)|str (x:Str)|byt (b:Array UInt8)|flt (b:UInt64)|ref (a:Addr)|ty (n:String)
 deriving DecidableEq
def RelV:V→Value→Prop
 |.non,u=>u=Value.none
 |.bl b,u=>u=Value.bool b
 |.int i,u=>∃t,u=Value.int i t
 |.str x,u=>∃t,u=Value.str x t
 |.byt b,u=>∃t,u=Value.bytes b t
 |.flt b,u=>∃t,u=Value.float b t
 |.ref a,u=>u=Value.ref a
 |.ty n,u=>u=Value.type n
abbrev Vals:List V→List Value→Prop:=Paired RelV
theorem Vals.length{xs:List V}{us:List Value}(r:Vals xs us):xs.length=us.length:=Paired.length r
theorem Vals.get:∀{xs:List V} {us:List Value} {i:Nat} {x:V},Vals xs us→xs[i]?=some x→∃u,us[i]?=some u∧RelV x u
 |_,_,_,_,.nil,e=>by simp at e
 |_,_,0,_,.cons r _,e=>by simp at e;subst e;exact⟨_,rfl,r⟩
 |_,_,i+1,x,.cons _ t,e=>by
  obtain⟨u,h1,h2⟩:=Vals.get (i:=i) (x:=x) t (by simpa using e)
  exact⟨u,by simpa using h1,h2⟩
theorem Vals.append:∀{xs ys:List V} {us ws:List Value},Vals xs us→Vals ys ws→Vals (xs++ys) (us++ws)
 |_,_,_,_,.nil,s=>s
 |_,_,_,_,.cons r t,s=>.cons r (Vals.append t s)
theorem Vals.take:∀{xs:List V} {us:List Value} (n:Nat),Vals xs us→Vals (xs.take n) (us.take n)
 |_,_,0,_=>.nil
 |_,_,_+1,.nil=>.nil
 |_,_,n+1,.cons r t=>.cons r (Vals.take n t)
theorem Vals.drop:∀{xs:List V} {us:List Value} (n:Nat),Vals xs us→Vals (xs.drop n) (us.drop n)
 |_,_,0,r=>r
 |_,_,_+1,.nil=>.nil
 |_,_,n+1,.cons _ t=>Vals.drop n t
def iI:Option V→Option Value→Prop
 |some v,some u=>RelV v u
 |none,none=>True
 |_,_=>False
def KV{κ:Type}:List (κ×V)→List (κ×Value)→Prop:=Paired fun(p:κ×V) (q:κ×Value)=>p.1=q.1∧RelV p.2 q.2
def kV:Key→V
 |.inl i=>.int i
 |.inr x=>.str x
inductive HO where
 |lst (xs:List V)
 |tup (xs:List V)
 |dK (aD:List (Key×V))|dT (aD:List (List Key×V))
 |set (S:Int→Bool) (n:Nat)
 |ins (C dx:Addr) (fs:List (Str×V))
 |own (x:Addr)
 |xd (fs:List (Str×V))
 |met (f x:Addr)
 |rng (lo hi:Int)
 |frz (o:Obj) (u:HO)
 |tbl (ps:Array Value)
 |ext (φ:Heap→Prop)
abbrev Hp:=Addr→Option HO
def upd(H:Hp)(a:Addr)(o:HO):Hp:=fun b=>if b=a then some o else H b
theorem au{H:Hp}{a:Addr}{o:HO}:upd H a o a=some o:=by unfold upd;rw [if_pos rfl]
theorem ah{H:Hp}{a b:Addr}{o:HO}(h:b≠a):upd H a o b=H b:=by unfold upd;rw [if_neg h]
theorem fN{H:Hp}{a b:Addr}{o u:HO}(h:H a=some o)(h':H b=some u)(d:o≠u):a≠b:=by
 intro e;subst e;rw [h] at h';exact d (Option.some.inj h')
theorem cZ{H:Hp}{a b:Addr}{o:HO}(h:H a=some o)(h':H b=none):a≠b:=by
 intro e;subst e;rw [h] at h';cases h'
section
variable(P:Program)(w:World)
def bK(H:Hp)(h:Heap)(a:Addr):HO→Prop
 |.lst xs=>xs.length≤sizeLine∧∃(aE:List Value) (n:Nat),Vals xs aE∧h.get? a=some {cls:=.type "list",data:=.seq aE.toArray n}
 |.tup xs=>xs.length≤sizeLine∧∃aE:List Value,Vals xs aE∧IsTup h a aE.toArray
 |.dK aD=>aD.length≤sizeLine∧(a==sysModules)=false∧∃vs,KV aD vs∧h.DictOf (bH P w) a vs
 |.dT aD=>aD.length≤sizeLine∧(a==sysModules)=false∧∃xs:List (List Key×Addr×Value),
  Paired (fun(p:List Key×V) (q:List Key×Addr×Value)=>p.1=q.1∧H q.2.1=some (.tup (p.1.map kV))∧RelV p.2 q.2.2) aD xs∧
  ∃o es ep,h.get? a=some o∧o.ExactDict∧o.data=.dict es ep∧es.toList=xs.map (entryOfKey (tupleKind (bH P w)))∧(xs.map (·.1)).Nodup
 |.set S n=>h.SetOf (intKind P w) a S n
 |.ins C dx fs=>H dx=some (.own a)∧fs.length≤1000∧dx≠a∧h.get? a=some (PySem.W.instObj C dx)∧
  ∃mA,h.Ns1 dx mA∧(∀f,iI (fs.lookup f) (mA f))∧PySem.Within mA (fs.map (·.1))
 |.own _=>∃o,h.get? a=some o
 |.xd fs=>∃mA,h.Ns1 a mA∧∀f,iI (fs.lookup f) (mA f)
 |.rng lo hi=>∃t u v,h.get? a=some {cls:=.type "range",data:=.fields #[.int lo t,.int hi u,.int 1 v]}
 |.frz o u=>h.get? a=some o∧bK H h a u
 |.tbl ps=>h.get? a=some {cls:=.none,data:=.fields ps}
 |.met f x=>h.get? a=some (PySem.W.methodObj (.ref f) (.ref x))
 |.ext φ=>φ h∧(∃o,h.get? a=some o)∧∀h1 h2:Heap,φ h1→(∀o,h1.get? a=some o→h2.get? a=some o)→φ h2
def dG(H:Hp)(h:Heap):Prop:=∀a o,H a=some o→bK P w H h a o
end
section
variable{P:Program}{w:World}{H H':Hp}{h h':Heap}{a:Addr}{o:HO}
theorem bK.lt(x:bK P w H h a o):a<h.objs.size:=by
 cases o with
 |lst xs=>obtain⟨_,_,_,_,e⟩:=x;exact Heap.lt_size e
 |tup xs=>obtain⟨_,_,_,p⟩:=x;exact p.lt
 |dK aD=>obtain⟨_,_,_,_,o,_,_,e,_⟩:=x;exact Heap.lt_size e
 |dT aD=>obtain⟨_,_,_,_,o,_,_,e,_⟩:=x;exact Heap.lt_size e
 |set S n=>obtain⟨o,_,_,_,e,_⟩:=x;exact Heap.lt_size e
 |ins C dx fs=>obtain⟨_,_,_,e,_⟩:=x;exact Heap.lt_size e
 |own y=>obtain⟨_,e⟩:=x;exact Heap.lt_size e
 |xd fs=>obtain⟨_,⟨_,_,_,e,_⟩,_⟩:=x;exact Heap.lt_size e
 |rng lo hi=>obtain⟨_,_,_,e⟩:=x;exact Heap.lt_size e
 |frz ob u=>obtain⟨e,_⟩:=x;exact Heap.lt_size e
 |tbl ps=>exact Heap.lt_size (show h.get? a=some _ from x)
 |met f y=>exact Heap.lt_size (show h.get? a=some _ from x)
 |ext φ=>obtain⟨_,⟨_,e⟩,_⟩:=x;exact Heap.lt_size e
theorem Paired.mapP{α β:Type}{F G:α→β→Prop}:∀{l₁:List α} {l₂:List β},Paired F l₁ l₂→(∀a b,F a b→G a b)→Paired G l₁ l₂
 |_,_,.nil,_=>.nil
 |_,_,.cons r t,f=>.cons (f _ _ r) (Paired.mapP t f)
theorem bK.stay(x:bK P w H h a o)(k:∀b u,(b=a∨H b=some (.own a))→h.get? b=some u→h'.get? b=some u)
 (ho:∀b,H b=some (.own a)→H' b=some (.own a)) (ht:∀b xs,H b=some (.tup xs)→H' b=some (.tup xs)):bK P w H' h' a o:=by
 induction o with
 |lst xs=>obtain⟨z,aE,n,r,e⟩:=x;exact⟨z,aE,n,r,k _ _ (.inl rfl) e⟩
 |tup xs=>obtain⟨z,aE,r,ob,e,c⟩:=x;exact⟨z,aE,r,ob,k _ _ (.inl rfl) e,c⟩
 |dK aD=>obtain⟨z,y,vs,r,ob,es,ep,e,c⟩:=x;exact⟨z,y,vs,r,ob,es,ep,k _ _ (.inl rfl) e,c⟩
 |dT aD=>
  obtain⟨z,y,xs,r,ob,es,ep,e,c⟩:=x
  exact⟨z,y,xs,Paired.mapP r fun p q z=>⟨z.1,ht _ _ z.2.1,z.2.2⟩,ob,es,ep,k _ _ (.inl rfl) e,c⟩
 |set S n=>obtain⟨ob,es,ep,t,e,c⟩:=x;exact⟨ob,es,ep,t,k _ _ (.inl rfl) e,c⟩
 |ins C dx fs=>
  obtain⟨d,z,ne,e,mA,⟨od,es,ep,e2,c⟩,r⟩:=x
  exact⟨ho _ d,z,ne,k _ _ (.inl rfl) e,mA,⟨od,es,ep,k _ _ (.inr d) e2,c⟩,r⟩
 |own y=>obtain⟨ob,e⟩:=x;exact⟨ob,k _ _ (.inl rfl) e⟩
 |xd fs=>obtain⟨mA,⟨od,es,ep,e,c⟩,r⟩:=x;exact⟨mA,⟨od,es,ep,k _ _ (.inl rfl) e,c⟩,r⟩
 |rng lo hi=>obtain⟨t,u,v,e⟩:=x;exact⟨t,u,v,k _ _ (.inl rfl) e⟩
 |frz ob u ih=>obtain⟨e,q⟩:=x;exact⟨k _ _ (.inl rfl) e,ih q⟩
 |tbl ps=>
  have e:h.get? a=some {cls:=.none,data:=.fields ps}:=x
  show h'.get? a=some {cls:=.none,data:=.fields ps}
  exact k a _ (.inl rfl) e
 |met f y=>
  have e:h.get? a=some (PySem.W.methodObj (.ref f) (.ref y)):=x
  show h'.get? a=some (PySem.W.methodObj (.ref f) (.ref y))
  exact k a _ (.inl rfl) e
 |ext φ=>obtain⟨p,⟨o,e⟩,st⟩:=x;exact⟨st _ _ p fun o q=>k _ _ (.inl rfl) q,⟨o,k _ _ (.inl rfl) e⟩,st⟩
theorem dG.lt(x:dG P w H h)(e:H a=some o):a<h.objs.size:=(x a o e).lt
theorem dG.fresh(x:dG P w H h)(e:h.objs.size≤a):H a=none:=by
 cases q:H a with
 |none=>rfl
 |some u=>exact absurd (Nat.lt_of_lt_of_le (x.lt q) e) (Nat.lt_irrefl _)
theorem dG.kept(x:dG P w H h)(k:∀b u,h.get? b=some u→h'.get? b=some u):dG P w H h':=fun a o e=>
 (x a o e).stay (fun b u _ q=>k b u q) (fun _ q=>q) fun _ _ q=>q
theorem dG.laid(x:dG P w H h)(k:∀b u,h.get? b=some u→h'.get? b=some u)(hp:h.objs.size≤a)(new:bK P w (upd H a o) h' a o):dG P w (upd H a o) h':=fun b u e=>by
 have hn:=x.fresh hp
 by_cases hb:b=a
 ·subst hb;rw [au] at e;cases e;exact new
 ·rw [ah hb] at e;exact(x b u e).stay (fun c v _ q=>k c v q) (fun c q=>by rw [ah (cZ q hn)];exact q) fun c xs q=>by rw [ah (cZ q hn)];exact q
end
def Rd(H:Hp)(a:Addr)(u:HO):Prop:=H a=some u∨∃o,H a=some (.frz o u)
theorem Rd.ok{P:Program}{w:World}{H:Hp}{h:Heap}{a:Addr}{u:HO}(r:Rd H a u)(x:dG P w H h):bK P w H h a u:=by
 rcases r with r|⟨o,r⟩
 ·exact x a u r
 ·obtain⟨_,q⟩:=x a _ r
  exact q
def HD:Option HO→Prop
 |some (.lst _)=>True
 |some (.dK _)=>True
 |some (.dT _)=>True
 |some (.set _ _)=>True
 |some (.ins _ _ _)=>True
 |some (.ext _)=>True
 |_=>False
section
variable{P:Program}{w:World}{H:Hp}{h h':Heap}{x e:Addr}{o':HO}
theorem dG.write(ok:dG P w H h)(mu:HD (H x))(he:e=x∨H e=some (.own x))(k:∀b u,b≠e→h.get? b=some u→h'.get? b=some u)(E9:∃u,h'.get? e=some u)
 (new:bK P w (upd H x o') h' x o'):dG P w (upd H x o') h':=fun b u q=>by
 have Hj:∀c y,H c=some (.own y)→c≠x:=fun c y r z=>by subst z;rw [r] at mu;exact mu
 have JA:∀c xs,H c=some (.tup xs)→c≠x:=fun c xs r z=>by subst z;rw [r] at mu;exact mu
 by_cases hb:b=x
 ·subst hb;rw [au] at q;cases q;exact new
 ·rw [ah hb] at q
  by_cases hbe:b=e
  ·have q':H b=some (.own x):=by
    rcases he with z|z
    ·exact absurd (hbe.trans z) hb
    ·rw [hbe];exact z
   rw [q] at q';cases q';obtain⟨v,hv⟩:=E9
   exact⟨v,by rw [hbe];exact hv⟩
  ·refine(ok b u q).stay (fun c v hc r=>k c v ?_ r) (fun c r=>by rw [ah (Hj c b r)];exact r) fun c xs r=>by rw [ah (JA c xs r)];exact r
   rcases hc with rfl|hc
   ·exact hbe
   ·rintro rfl
    rcases he with z|z
    ·exact Hj c b hc z
    ·rw [hc] at z;cases z;exact hb rfl
end
structure Un(fs ex:List Addr)(H H':Hp)(h h':Heap):Prop where
 keep:∀b o,h.get? b=some o→H b=none→b∉fs→b∉ex→h'.get? b=some o
 slot:∀b o,h.get? b=some o→H b=none→b∈fs→b∉ex→∃sl,h'.get? b=some {o with slots:=sl}
 free:∀b o,h.get? b=some o→H b=none→b∉ex→H' b=none
 there:∀b o,h.get? b=some o→b∉ex→∃o',h'.get? b=some o'
 tups:∀b xs,H b=some (.tup xs)→H' b=some (.tup xs)
 frzs:∀b o u,H b=some (.frz o u)→H' b=some (.frz o u)
 tbls:∀b ps,H b=some (.tbl ps)→∃more,H' b=some (.tbl (ps++more))
section
variable{fs Ji ex Mb:List Addr}{H H1 H2:Hp}{h h1 h2 h':Heap}{a x e:Addr}{o:HO}
theorem Un.any(u:Un fs ex H H1 h h1){b:Addr}{ob:Obj}(q:h.get? b=some ob)(n:H b=none)(hx:b∉ex):∃sl,h1.get? b=some {ob with slots:=sl}:=by
 by_cases hb:b∈fs
 ·exact u.slot b ob q n hb hx
 ·exact⟨ob.slots,u.keep b ob q n hb hx⟩
theorem Un.kept(k:∀b u,h.get? b=some u→h'.get? b=some u):Un fs ex H H h h':=
 ⟨fun b ob q _ _ _=>k b ob q,fun b ob q _ _ _=>⟨ob.slots,k b ob q⟩,fun _ _ _ n _=>n,fun b ob q _=>⟨ob,k b ob q⟩,fun _ _ q=>q,fun _ _ _ q=>q,fun _ ps q=>⟨#[],by rw [q];simp⟩⟩
theorem Un.refl:Un fs ex H H h h:=Un.kept fun _ _ q=>q
theorem Un.laid(k:∀b u,h.get? b=some u→h'.get? b=some u)(hp:h.objs.size≤a)(hn:H a=none):Un fs ex H (upd H a o) h h' where
 keep:=fun b u q _ _ _=>k b u q
 slot:=fun b u q _ _ _=>⟨u.slots,k b u q⟩
 free:=fun b u q n _=>by rw [ah (Nat.ne_of_lt (Nat.lt_of_lt_of_le (Heap.lt_size q) hp))];exact n
 there:=fun b u q _=>⟨u,k b u q⟩
 tups:=fun b xs q=>by rw [ah (cZ q hn)];exact q
 frzs:=fun b u xs q=>by rw [ah (cZ q hn)];exact q
 tbls:=fun b ps q=>⟨#[],by rw [ah (cZ q hn),q];simp⟩
theorem Un.write(mu:HD (H x))(he:e=x∨H e=some (.own x))(k:∀b u,b≠e→h.get? b=some u→h'.get? b=some u)(E9:∃u,h'.get? e=some u):Un fs ex H (upd H x o) h h':=by
 have hx:∀b,H b=none→b≠x:=fun b n z=>by subst z;rw [n] at mu;exact mu
 have hb:∀b,H b=none→b≠e:=fun b n z=>by
  subst z;rcases he with r|r
  ·exact hx b n r
  ·rw [n] at r;cases r
 have hm:∀b u,H b=some u→¬HD (some u)→b≠x:=fun b u q nm z=>by subst z;rw [q] at mu;exact nm mu
 refine⟨fun b u q n _ _=>k b u (hb b n) q,fun b u q n _ _=>⟨u.slots,k b u (hb b n) q⟩,fun b u q n _=>by rw [ah (hx b n)];exact n,fun b u q _=>?_,
  fun b xs q=>by rw [ah (hm b _ q fun z=>z)];exact q,fun b u xs q=>by rw [ah (hm b _ q fun z=>z)];exact q,fun b ps q=>⟨#[],by rw [ah (hm b _ q fun z=>z),q];simp⟩⟩
 by_cases hbe:b=e
 ·subst hbe;exact E9
 ·exact⟨u,k b u hbe q⟩
end
def Ia(h:Heap)(H:Hp):List Addr:=(List.range h.objs.size).filter fun a=>(H a).isSome
def og(h:Heap)(H:Hp):Heap:=PySem.W.hideAll h (Ia h H)
theorem tZ(h:Heap)(H:Hp):(og h H).objs.size=h.objs.size:=PySem.W.hideAll_size _ _
theorem xu{h:Heap}{H:Hp}{b:Addr}{o:Obj}(e:h.get? b=some o)(n:H b=none):(og h H).get? b=some o:=
 PySem.W.hideAll_get _ e fun hm=>by
  have q:(H b).isSome=true:=(List.mem_filter.mp hm).2
  rw [n] at q;simp at q
theorem zE{h:Heap}{H:Hp}{b:Addr}{o:Obj}(e:(og h H).get? b=some o):h.get? b=some o∧H b=none:=by
 have e':h.get? b=some o:=PySem.W.of_hideAll (Ia h H) e
 refine⟨e',?_⟩;cases q:H b with
 |none=>rfl
 |some x=>
  have hm:b∈Ia h H:=List.mem_filter.mpr ⟨List.mem_range.mpr (Heap.lt_size e'),by simp [q]⟩
  have z:(og h H).get? b=none:=PySem.W.hideAll_none (Ia h H) hm
  rw [z] at e;cases e
def Bj(g h:Heap)(L:Addr):List (Addr×Obj):=(List.range h.objs.size).filterMap fun a=>if a=L∨(g.get? a).isSome=true then none else(h.get? a).map fun o=>(a,o)
def rest(g h:Heap)(L d:Addr):List (Addr×Obj):=(Bj g h L).filter fun p=>decide (p.1≠d)
end L2
namespace L2
open PySem PySem.Spec PyProof.Rows
structure Mod(K:PySem.W.Frag)(mg:Str→Option Value)(base:Heap):Prop where
 kin:K.In base
 glob:base.Ns mainGlobals mg
 blt:∃mb,base.Ns builtinsNs mb∧∀x:Str,x≠"__name__"→mb x=bootBuiltins x
 nolimit:base.NoLimit
structure Cx where
 prog:Program
 w:World
 K:PySem.W.Frag
 mg:Str→Option Value
 base:Heap
 A:Around
 N:List Str
 s₀:Shared
 H₀:Hp
 env:Env
 outer:List Env
 stack:List Env
 ex:List Addr
 fn:Str→Bool
 calm:Bool
 pn:List (Addr×Obj)
 xe:Value→Shared→Prop
def dQ(l:List Env):List Addr:=l.filterMap (·.frame)
abbrev Cx.fs(X:Cx):List Addr:=dQ X.outer
def FG(sc:Scope)(x:Str):Prop:=sc.names.lookup x=some .local∨sc.names.lookup x=some .cell∨sc.names.lookup x=some .free
def Loc(sc:Scope)(x:Str):Prop:=sc.names.lookup x=some .local∨sc.names.lookup x=some .cell
def Look(env:Env)(h:Heap)(m:Str→Option Value)(x:Str)(u:Value):Prop:=
 (env.kindOf x=some .local∧m x=some u)∨((env.kindOf x=some .cell∨env.kindOf x=some .free)∧∃c,env.cells.lookup x=some c∧h.IsCell c (some u))
structure Cx.Ok(X:Cx):Prop where
 mod:Mod X.K X.mg X.base
 kind:X.env.scope.kind=.function
 glob:X.env.globals=mainGlobals
 blt:X.env.builtins=builtinsNs
 above:X.s₀.heap.objs.size≤X.env.locals
 inj:∀x y c,X.env.cells.lookup x=some c→X.env.cells.lookup y=some c→x=y
 has:∀x,(X.env.kindOf x=some .cell∨X.env.kindOf x=some .free)→∃c,X.env.cells.lookup x=some c
 cab:∀x c,X.fn x=true→X.env.cells.lookup x=some c→X.s₀.heap.objs.size≤c
 hd:X.calm=true→X.A.handled=none
 frames:X.A.frames=some X.stack
 stk:X.stack=X.outer∨(X.stack=X.env::X.outer∧X.env.frame=some X.env.locals)
 exf:∀b∈X.ex,b≠X.env.locals∧∀x c,X.env.cells.lookup x=some c→c≠b
 bs:∀b o,X.base.get? b=some o→X.s₀.heap.get? b=some o∧X.H₀ b=none
 bsz:X.base.objs.size≤X.s₀.heap.objs.size
 noex:∀b o,X.base.get? b=some o→b∉X.ex
 exfs:∀b∈X.ex,b∉X.fs
 funs:X.s₀.heap.FunFrames X.base X.outer
 frf:∀b∈X.fs,X.H₀ b=none
structure Inv(X:Cx)(pins:List (Addr×Obj))(σ:List (Option V))(H:Hp)(s:Shared):Prop where
 ok:X.Ok
 os:s.os=X.s₀.os
 bare:AllBare s.gens
 base:Un X.fs X.ex X.H₀ H X.s₀.heap s.heap
 loc:∃m,s.heap.Ns X.env.locals m∧∀(i:Nat) (x:Str) (v:V),X.N[i]?=some x→σ[i]?=some (some v)→FG X.env.scope x→∃u,RelV v u∧Look X.env s.heap m x u
 cell:∀x c,X.env.cells.lookup x=some c→∃v,s.heap.IsCell c v
 free:H X.env.locals=none
 freeC:∀x c,X.env.cells.lookup x=some c→H c=none
 pin:∀p∈X.pn++pins,s.heap.get? p.1=some p.2∧H p.1=none∧p.1≠X.env.locals∧p.1∉X.fs∧∀v,p.2.data≠.cell v
 hok:dG X.prog X.w H s.heap
 len:σ.length=X.N.length
section
variable{X:Cx}{pins:List (Addr×Obj)}{σ:List (Option V)}{H H':Hp}{s:Shared}{h':Heap}
theorem Cx.Ok.nofr(ok:X.Ok){b:Addr}{o:Obj}(e:X.base.get? b=some o):b∉X.fs:=fun hb=>by
 have:=(ok.funs.mem hb).1
 rw [e] at this;cases this
theorem Inv.bs(I:Inv X pins σ H s):∀b o,X.base.get? b=some o→s.heap.get? b=some o∧H b=none:=fun b o e=>
 ⟨I.base.keep b o (I.ok.bs b o e).1 (I.ok.bs b o e).2 (I.ok.nofr e) (I.ok.noex b o e),I.base.free b o (I.ok.bs b o e).1 (I.ok.bs b o e).2 (I.ok.noex b o e)⟩
theorem Inv.bk(I:Inv X pins σ H s):∀b o,X.base.get? b=some o→s.heap.get? b=some o:=fun b o e=>(I.bs b o e).1
theorem Inv.mod(I:Inv X pins σ H s):Mod X.K X.mg X.base:=I.ok.mod
theorem Inv.kIn(I:Inv X pins σ H s):X.K.In s.heap:=I.ok.mod.kin.keeps I.bk
theorem Inv.fr(I:Inv X pins σ H s):∃m,Fr X.base X.env.locals s.heap m:=
 let⟨m,hn,_⟩:=I.loc
 ⟨m,hn,I.bk,Nat.le_trans I.ok.bsz I.ok.above⟩
theorem Inv.lt(I:Inv X pins σ H s):X.env.locals<s.heap.objs.size:=let⟨_,hn,_⟩:=I.loc;hn.lt
theorem Inv.sz(I:Inv X pins σ H s):X.s₀.heap.objs.size≤s.heap.objs.size:=Nat.le_trans I.ok.above (Nat.le_of_lt I.lt)
theorem Inv.nofs(I:Inv X pins σ H s){a:Addr}(h:s.heap.objs.size≤a):a∉X.fs:=fun hb=>by
 obtain⟨_,o,ho,_⟩:=I.ok.funs.mem hb
 exact absurd (Nat.lt_of_lt_of_le (Heap.lt_size ho) (Nat.le_trans I.sz h)) (Nat.lt_irrefl _)
theorem Inv.cne(I:Inv X pins σ H s):∀x c,X.env.cells.lookup x=some c→c≠X.env.locals:=fun x c e z=>by
 obtain⟨v,o,ho,hd⟩:=I.cell x c e
 obtain⟨m,⟨o',es,ep,gW,HU,_⟩,_⟩:=I.loc
 rw [z,gW] at ho;cases ho;rw [HU] at hd;cases hd
theorem Inv.funs(I:Inv X pins σ H s):s.heap.FunFrames X.base X.outer:=by
 have all:∀(l:List Env),(∀b∈dQ l,b∈X.fs)→X.s₀.heap.FunFrames X.base l→s.heap.FunFrames X.base l:=by
  intro l
  induction l with
  |nil=>intro _ _;trivial
  |cons env r ih=>
   intro hs hl;obtain⟨hk,⟨L,o,hf,hn,ho,hd⟩,hr⟩:=hl
   have hL:L∈X.fs:=hs L (by unfold dQ;rw [List.filterMap_cons,hf];exact List.mem_cons_self)
   obtain⟨sl,e⟩:=I.base.slot L o ho (I.ok.frf L hL) hL fun z=>I.ok.exfs L z hL
   exact⟨hk,⟨L,_,hf,hn,e,hd⟩,ih (fun b hb=>hs b (by unfold dQ;rw [List.filterMap_cons,hf];exact List.mem_cons_of_mem _ hb)) hr⟩
 exact all X.outer (fun _ hb=>hb) I.ok.funs
theorem Inv.stack(I:Inv X pins σ H s):s.heap.FunFrames X.base X.stack:=by
 rcases I.ok.stk with e|⟨e,hf⟩
 ·rw [e];exact I.funs
 ·rw [e];obtain⟨m,hn,_⟩:=I.loc
  refine .cons (by rw [I.ok.kind];decide) hf hn ?_ I.funs;exact Heap.get?_none_of_le (Nat.le_trans I.ok.bsz I.ok.above)
theorem Inv.stkSub(I:Inv X pins σ H s):∀b∈dQ X.stack,b∈X.env.locals::X.fs:=fun b hb=>by
 rcases I.ok.stk with e|⟨e,hf⟩
 ·rw [e] at hb;exact List.mem_cons_of_mem _ hb
 ·rw [e] at hb;unfold dQ at hb;rw [List.filterMap_cons,hf] at hb;exact hb
theorem Inv.stkFree(I:Inv X pins σ H s):∀b∈dQ X.stack,H b=none:=fun b hb=>by
 rcases List.mem_cons.mp (I.stkSub b hb) with e|hb
 ·rw [e];exact I.free
 ·obtain⟨_,o,ho,_⟩:=I.ok.funs.mem hb
  exact I.base.free b o ho (I.ok.frf b hb) fun z=>I.ok.exfs b z hb
theorem Inv.step{g':Array GenState}{t':Nat}{d':Drawn}{ch:List Addr}(I:Inv X pins σ H s)
 (vy:∀b∈ch,(b∈X.ex∨X.s₀.heap.objs.size≤b)∧b≠X.env.locals∧(∀x c,X.env.cells.lookup x=some c→c≠b)∧∀p∈X.pn++pins,p.1≠b)
 (keep:∀b o,b≠X.env.locals→b∉X.fs→b∉ch→s.heap.get? b=some o→H b=none→h'.get? b=some o)
 (slot:∀b o,b≠X.env.locals→b∈X.fs→b∉ch→s.heap.get? b=some o→H b=none→∃sl,h'.get? b=some {o with slots:=sl}) (free:∀b o,b∉ch→s.heap.get? b=some o→H b=none→H' b=none)
 (there:∀b o,b∉ch→s.heap.get? b=some o→∃o',h'.get? b=some o')
 (tups:∀b xs,H b=some (.tup xs)→H' b=some (.tup xs)) (frzs:∀b o u,H b=some (.frz o u)→H' b=some (.frz o u)) (tbls:∀b ps,H b=some (.tbl ps)→∃more,H' b=some (.tbl (ps++more)))
 (ns:∀m,s.heap.Ns X.env.locals m→h'.Ns X.env.locals m) (hok:dG X.prog X.w H' h') (hg:AllBare g'):
 Inv X pins σ H' {s with heap:=h',gens:=g',drawn:=d',toks:=t'}:=by
 have HL:∀b o,X.s₀.heap.get? b=some o→b≠X.env.locals:=fun b o e=>Nat.ne_of_lt (Nat.lt_of_lt_of_le (Heap.lt_size e) I.ok.above)
 have DF:∀b o,X.s₀.heap.get? b=some o→b∉X.ex→b∉ch:=fun b o e hx hb=>by
  rcases(vy b hb).1 with z|z
  ·exact hx z
  ·exact absurd (Nat.lt_of_lt_of_le (Heap.lt_size e) z) (Nat.lt_irrefl _)
 have cellK:∀x c,X.env.cells.lookup x=some c→∀v,s.heap.IsCell c v→h'.IsCell c v:=fun x c e v ⟨o,ho,hd⟩=>by
  have GG:c∉ch:=fun z=>(vy c z).2.2.1 x c e rfl
  by_cases hc:c∈X.fs
  ·obtain⟨sl,q⟩:=slot c o (I.cne x c e) hc GG ho (I.freeC x c e)
   exact⟨_,q,hd⟩
  ·exact⟨o,keep c o (I.cne x c e) hc GG ho (I.freeC x c e),hd⟩
 refine⟨I.ok,I.os,hg,⟨fun b o e n hb hx=>?_,fun b o e n hb hx=>?_,fun b o e n hx=>?_,fun b o e hx=>?_,fun b xs e=>tups b xs (I.base.tups b xs e),fun b o xs e=>frzs b o xs (I.base.frzs b o xs e),fun b ps e=>?_⟩,?_,fun x c e=>?_,?_,fun x c e=>?_,fun p hp=>?_,hok,I.len⟩
 ·exact keep b o (HL b o e) hb (DF b o e hx) (I.base.keep b o e n hb hx) (I.base.free b o e n hx)
 ·obtain⟨sl,e1⟩:=I.base.slot b o e n hb hx
  obtain⟨sl',e2⟩:=slot b _ (HL b o e) hb (DF b o e hx) e1 (I.base.free b o e n hx)
  exact⟨sl',e2⟩
 ·obtain⟨o',e1⟩:=I.base.there b o e hx
  exact free b o' (DF b o e hx) e1 (I.base.free b o e n hx)
 ·obtain⟨o',e1⟩:=I.base.there b o e hx
  exact there b o' (DF b o e hx) e1
 ·obtain⟨m1,e1⟩:=I.base.tbls b ps e
  obtain⟨m2,e2⟩:=tbls b _ e1
  exact⟨m1++m2,by rw [e2,Array.append_assoc]⟩
 ·obtain⟨m,hn,hl⟩:=I.loc
  refine⟨m,ns m hn,fun i x v e1 e2 e3=>?_⟩
  obtain⟨u,r,l⟩:=hl i x v e1 e2 e3
  refine⟨u,r,?_⟩;rcases l with l|⟨k,c,e,z⟩
  ·exact .inl l
  ·exact .inr ⟨k,c,e,cellK x c e _ z⟩
 ·obtain⟨v,z⟩:=I.cell x c e
  exact⟨v,cellK x c e v z⟩
 ·obtain⟨m,⟨o,_,_,ho,_⟩,_⟩:=I.loc
  exact free _ o (fun z=>(vy _ z).2.1 rfl) ho I.free
 ·obtain⟨v,o,ho,hd⟩:=I.cell x c e
  exact free c o (fun z=>(vy c z).2.2.1 x c e rfl) ho (I.freeC x c e)
 ·obtain⟨e,n,ne,nf,d⟩:=I.pin p hp
  have GG:p.1∉ch:=fun z=>(vy p.1 z).2.2.2 p hp rfl
  exact⟨keep p.1 p.2 ne nf GG e n,free p.1 p.2 GG e n,ne,nf,d⟩
theorem Inv.un{t':Nat}(I:Inv X pins σ H s)(u:Un X.fs [] H H' s.heap h')(hok:dG X.prog X.w H' h'):Inv X pins σ H' {s with heap:=h',toks:=t'}:=by
 obtain⟨m,⟨o,es,ep,ho,r⟩,_⟩:=id I.loc
 obtain⟨sl,hL⟩:=u.any ho I.free (by simp)
 exact I.step (g':=s.gens) (d':=s.drawn) (ch:=[]) (fun _ z=>nomatch z) (fun b o _ hb _ e n=>u.keep b o e n hb (by simp)) (fun b o _ hb _ e n=>u.slot b o e n hb (by simp)) (fun b o _ e n=>u.free b o e n (by simp)) (fun b o _ e=>u.there b o e (by simp)) u.tups u.frzs u.tbls (fun m' hm=>by
  obtain⟨o',es',ep',gW,r'⟩:=hm
  rw [ho] at gW;cases gW;exact⟨_,es',ep',hL,r'⟩) hok I.bare
theorem Inv.call{g':Array GenState}{t':Nat}{d':Drawn}{ch:List Addr}(I:Inv X pins σ H s)(u:Un (dQ X.stack) ch H H' s.heap h')(hok:dG X.prog X.w H' h')(hg:AllBare g')
 (vy:∀b∈ch,(b∈X.ex∨X.s₀.heap.objs.size≤b)∧b≠X.env.locals∧(∀x c,X.env.cells.lookup x=some c→c≠b)∧∀p∈X.pn++pins,p.1≠b):
 Inv X pins σ H' {s with heap:=h',gens:=g',drawn:=d',toks:=t'}:=by
 obtain⟨m,⟨o,es,ep,ho,r⟩,_⟩:=id I.loc
 obtain⟨sl,hL⟩:=u.any ho I.free fun z=>(vy _ z).2.1 rfl
 exact I.step (ch:=ch) vy (fun b o hL hb hc e n=>u.keep b o e n (fun z=>(List.mem_cons.mp (I.stkSub b z)).elim hL hb) hc) (fun b o _ _ hc e n=>u.any e n hc) (fun b o hc e n=>u.free b o e n hc) (fun b o hc e=>u.there b o e hc) u.tups u.frzs u.tbls (fun m' hm=>by
  obtain⟨o',es',ep',gW,r'⟩:=hm
  rw [ho] at gW;cases gW;exact⟨_,es',ep',hL,r'⟩) hok hg
theorem Inv.turned{t':Nat}{it:Addr}(I:Inv X pins σ H s)(k:∀b o,b≠it→s.heap.get? b=some o→h'.get? b=some o)(hn:H it=none)(hL:it≠X.env.locals)
 (h1:it∈X.ex∨X.s₀.heap.objs.size≤it) (h2:∀x c,X.env.cells.lookup x=some c→c≠it) (h3:∀p∈X.pn++pins,p.1≠it):Inv X pins σ H {s with heap:=h',toks:=t'}:=by
 have KC:∀b u,H b=some u→b≠it:=fun b u e z=>by rw [z,hn] at e;cases e
 refine I.step (g':=s.gens) (d':=s.drawn) (ch:=[it]) (fun b hb=>?_) (fun b o _ _ hc e _=>k b o (fun z=>hc (by simp [z])) e) (fun b o _ _ hc e _=>⟨o.slots,k b o (fun z=>hc (by simp [z])) e⟩) (fun _ _ _ _ n=>n)
  (fun b o hc e=>⟨o,k b o (fun z=>hc (by simp [z])) e⟩) (fun _ _ e=>e) (fun _ _ _ e=>e) (fun b ps e=>⟨#[],by rw [e];simp⟩) (fun m hm=>?_) (fun b u e=>?_) I.bare
 ·have e:b=it:=by simpa using hb
  subst e;exact⟨h1,hL,h2,h3⟩
 ·obtain⟨o,es,ep,ho,r⟩:=hm
  exact⟨o,es,ep,k _ o (Ne.symm hL) ho,r⟩
 ·refine(I.hok b u e).stay (fun c v hc q=>k c v ?_ q) (fun _ q=>q) fun _ _ q=>q
  rcases hc with z|z
  ·rw [z];exact KC b u e
  ·exact KC c _ z
theorem Inv.tok(I:Inv X pins σ H s)(t:Nat):Inv X pins σ H {s with toks:=t}:=I.un (h':=s.heap) (t':=t) Un.refl I.hok
theorem Inv.kept{t':Nat}(I:Inv X pins σ H s)(k:∀b u,s.heap.get? b=some u→h'.get? b=some u):Inv X pins σ H {s with heap:=h',toks:=t'}:=I.un (Un.kept k) (I.hok.kept k)
theorem Inv.laid{a:Addr}{o:HO}{t':Nat}(I:Inv X pins σ H s)(k:∀b u,s.heap.get? b=some u→h'.get? b=some u)(hp:s.heap.objs.size≤a)(new:bK X.prog X.w (upd H a o) h' a o):
 Inv X pins σ (upd H a o) {s with heap:=h',toks:=t'}:=I.un (Un.laid k hp (I.hok.fresh hp)) (I.hok.laid k hp new)
theorem Inv.write{x e:Addr}{o:HO}{t':Nat}(I:Inv X pins σ H s)(mu:HD (H x))(he:e=x∨H e=some (.own x))(k:∀b u,b≠e→s.heap.get? b=some u→h'.get? b=some u)(E9:∃u,h'.get? e=some u)
 (new:bK X.prog X.w (upd H x o) h' x o):Inv X pins σ (upd H x o) {s with heap:=h',toks:=t'}:=I.un (Un.write mu he k E9) (I.hok.write mu he k E9 new)
theorem Inv.pins_of{rX:List (Addr×Obj)}(I:Inv X pins σ H s)(h:∀p∈rX,s.heap.get? p.1=some p.2∧H p.1=none∧p.1≠X.env.locals∧p.1∉X.fs∧∀v,p.2.data≠.cell v):Inv X rX σ H s:=
 ⟨I.ok,I.os,I.bare,I.base,I.loc,I.cell,I.free,I.freeC,fun p hp=>(List.mem_append.mp hp).elim (fun z=>I.pin p (List.mem_append_left _ z)) (h p),I.hok,I.len⟩
theorem j0{N:List Str}(hN:N.Nodup){i j:Nat}{x:Str}(a:N[i]?=some x)(b:N[j]?=some x):i=j:=by
 obtain⟨h1,e1⟩:=List.getElem?_eq_some_iff.mp a
 obtain⟨h2,e2⟩:=List.getElem?_eq_some_iff.mp b
 exact(List.getElem_inj hN).mp (e1.trans e2.symm)
theorem iz{M:Model}{A:Around}{E:Value→Shared→Prop}{i:Nat}{x:Str}{v:V}{u:Value}{Q:Unit→Shared→Prop}(I:Inv X pins σ H s)(hN:X.N.Nodup)(hi:X.N[i]?=some x)(hx:Loc X.env.scope x)(r:RelV v u)
 (h:∀s',Inv X pins (σ.set i (some v)) H s'→(∃a,Heap.SameBut a s.heap s'.heap∧(a=X.env.locals∨X.env.cells.lookup x=some a))→Q () s') (hf:X.fn x=true∨X.env.scope.names.lookup x=some .local:=by first|exact .inl rfl|exact .inr rfl|assumption):wpAny M A (storeName X.env x u) Q E s:=by
 obtain⟨m,hn,hl⟩:=id I.loc
 have Jj:(X.env.scope.kind==.class||(X.env.scope.kind==.module&&X.env.locals !=X.env.globals))=false:=by rw [I.ok.kind];rfl
 have hiσ:i<σ.length:=by rw [I.len];exact(List.getElem?_eq_some_iff.mp hi).1
 have cne:=I.cne
 have tracked:∀{a:Addr} {h':Heap},(∃o,s.heap.get? a=some o∧H a=none)→Heap.SameBut a s.heap h'→dG X.prog X.w H h':=fun{a h'} ha hs b ob e=>by
  obtain⟨_,_,hfree⟩:=ha
  refine(I.hok b ob e).stay (fun c w' hc q=>(hs.2 c ?_).trans q) (fun _ q=>q) fun _ _ q=>q
  rintro rfl
  rcases hc with rfl|hc
  ·rw [hfree] at e;cases e
  ·rw [hfree] at hc;cases hc
 rcases hx with hk|hk
 ·refine wpAny_storeName_local hk hn (fun h' MP hs=>?_) Jj;obtain⟨oL,_,_,HS,_⟩:=id hn
  refine h _ ⟨I.ok,I.os,I.bare,⟨fun b o e n hb hx=>?_,fun b o e n hb hx=>?_,I.base.free,fun b o e hx=>?_,I.base.tups,I.base.frzs,I.base.tbls⟩,⟨_,MP,fun j y v' e1 e2 e3=>?_⟩,fun y c e=>?_,I.free,I.freeC,fun p hp=>?_,tracked ⟨oL,HS,I.free⟩ hs,by simpa using I.len⟩ ⟨_,hs,.inl rfl⟩
  ·exact(hs.2 b (Nat.ne_of_lt (Nat.lt_of_lt_of_le (Heap.lt_size e) I.ok.above))).trans (I.base.keep b o e n hb hx)
  ·obtain⟨sl,e1⟩:=I.base.slot b o e n hb hx
   exact⟨sl,(hs.2 b (Nat.ne_of_lt (Nat.lt_of_lt_of_le (Heap.lt_size e) I.ok.above))).trans e1⟩
  ·obtain⟨o',e1⟩:=I.base.there b o e hx
   exact⟨o',(hs.2 b (Nat.ne_of_lt (Nat.lt_of_lt_of_le (Heap.lt_size e) I.ok.above))).trans e1⟩
  ·by_cases hj:j=i
   ·subst hj;rw [hi] at e1;cases e1;rw [List.getElem?_set_self hiσ] at e2;cases e2;exact⟨u,r,.inl ⟨hk,by simp⟩⟩
   ·rw [List.getElem?_set_ne (Ne.symm hj)] at e2;obtain⟨u',r',q⟩:=hl j y v' e1 e2 e3
    refine⟨u',r',?_⟩;rcases q with⟨k,e⟩|⟨k,c,e,z⟩
    ·refine .inl ⟨k,?_⟩;have:y≠x:=fun e=>hj (j0 hN e1 (e▸hi))
     simp [this,e]
    ·exact .inr ⟨k,c,e,z.sameBut hs (cne y c e)⟩
  ·obtain⟨w',z⟩:=I.cell y c e
   exact⟨w',z.sameBut hs (cne y c e)⟩
  ·obtain⟨e,n,ne,nf,d⟩:=I.pin p hp
   exact⟨(hs.2 p.1 ne).trans e,n,ne,nf,d⟩
 ·have oV:X.fn x=true:=by
   rcases hf with z|z
   ·exact z
   ·rw [z] at hk;cases hk
  obtain⟨c,hc⟩:=I.ok.has x (.inl hk)
  obtain⟨w',z⟩:=I.cell x c hc
  refine wpAny_storeName_cell I.ok.kind hk hc z (fun h' fW hs=>?_);obtain⟨oc,hoc,hocd⟩:=id z
  refine h {s with heap:=h'} ⟨I.ok,I.os,I.bare,⟨fun b o e n hb hx=>?_,fun b o e n hb hx=>?_,I.base.free,fun b o e hx=>?_,I.base.tups,I.base.frzs,I.base.tbls⟩,⟨m,hn.sameBut hs (Ne.symm (cne x c hc)),fun j y v' e1 e2 e3=>?_⟩,fun y c' e=>?_,I.free,I.freeC,fun p hp=>?_,tracked ⟨oc,hoc,I.freeC x c hc⟩ hs,by simpa using I.len⟩ ⟨c,hs,.inr hc⟩
  ·exact(hs.2 b (Nat.ne_of_lt (Nat.lt_of_lt_of_le (Heap.lt_size e) (I.ok.cab x c oV hc)))).trans (I.base.keep b o e n hb hx)
  ·obtain⟨sl,e1⟩:=I.base.slot b o e n hb hx
   exact⟨sl,(hs.2 b (Nat.ne_of_lt (Nat.lt_of_lt_of_le (Heap.lt_size e) (I.ok.cab x c oV hc)))).trans e1⟩
  ·obtain⟨o',e1⟩:=I.base.there b o e hx
   exact⟨o',(hs.2 b (Nat.ne_of_lt (Nat.lt_of_lt_of_le (Heap.lt_size e) (I.ok.cab x c oV hc)))).trans e1⟩
  ·by_cases hj:j=i
   ·subst hj;rw [hi] at e1;cases e1;rw [List.getElem?_set_self hiσ] at e2;cases e2;exact⟨u,r,.inr ⟨.inl hk,c,hc,fW⟩⟩
   ·rw [List.getElem?_set_ne (Ne.symm hj)] at e2;obtain⟨u',r',q⟩:=hl j y v' e1 e2 e3
    refine⟨u',r',?_⟩;rcases q with q|⟨k,c',e,z'⟩
    ·exact .inl q
    ·refine .inr ⟨k,c',e,z'.sameBut hs ?_⟩
     rintro rfl
     exact hj (j0 hN e1 (I.ok.inj _ _ _ e hc▸hi))
  ·by_cases hcc:c'=c
   ·subst hcc;exact⟨_,fW⟩
   ·obtain⟨w2,z2⟩:=I.cell y c' e
    exact⟨w2,z2.sameBut hs hcc⟩
  ·obtain⟨e,n,ne,nf,d⟩:=I.pin p hp
   refine⟨(hs.2 p.1 ?_).trans e,n,ne,nf,d⟩;intro q;rw [q,hoc] at e;have q':oc=p.2:=Option.some.inj e
   exact d w' (by rw [←q'];exact hocd)
theorem oU{M:Model}{A:Around}{E:Value→Shared→Prop}{i:Nat}{x:Str}{v:V}{u:Value}{Q:Unit→Shared→Prop}(I:Inv X pins σ H s)(hN:X.N.Nodup)(hi:X.N[i]?=some x)(hx:Loc X.env.scope x)(r:RelV v u)
 (h:∀s',Inv X pins (σ.set i (some v)) H s'→Q () s') (hf:X.fn x=true∨X.env.scope.names.lookup x=some .local:=by first|exact .inl rfl|exact .inr rfl|assumption):wpAny M A (storeName X.env x u) Q E s:=
 iz I hN hi hx r (fun s' I' _=>h s' I') hf
theorem Inv.call'{s':Shared}{ch:List Addr}(I:Inv X pins σ H s)(ho:s'.os=s.os)(u:Un (dQ X.stack) ch H H' s.heap s'.heap)(hok:dG X.prog X.w H' s'.heap)(hg:AllBare s'.gens)
 (vy:∀b∈ch,(b∈X.ex∨X.s₀.heap.objs.size≤b)∧b≠X.env.locals∧(∀x c,X.env.cells.lookup x=some c→c≠b)∧∀p∈X.pn++pins,p.1≠b):Inv X pins σ H' s':=by
 obtain⟨h',g',d',t',o'⟩:=s'
 have e:o'=s.os:=ho
 subst e;exact I.call (g':=g') (t':=t') (d':=d') u hok hg vy
end
abbrev XK:=Value→Option Addr→Hp→Prop
abbrev St:=List (Option V)
abbrev VK:=V→Hp→Prop
abbrev TE:=St→Hp→VK→Prop
abbrev TT:=St→Hp→(Bool→Hp→Prop)→Prop
abbrev TA:=St→Hp→(List V→Hp→Prop)→Prop
structure Ends where
 nx:St→Hp→Prop
 rt:VK
 bk:St→Hp→Prop:=fun _ _=>False
 ct:St→Hp→Prop:=fun _ _=>False
abbrev TS:=Ends→St→Hp→Prop
def EP(X:Cx)(pins:List (Addr×Obj))(σ:St)(Q:VK)(u:Value)(s':Shared):Prop:=∃v H',Inv X pins σ H' s'∧RelV v u∧Q v H'
def TP(X:Cx)(pins:List (Addr×Obj))(σ:St)(Q:Bool→Hp→Prop)(b:Bool)(s':Shared):Prop:=∃H',Inv X pins σ H' s'∧Q b H'
def AP(X:Cx)(pins:List (Addr×Obj))(σ:St)(Q:List V→Hp→Prop)(us:List Value)(s':Shared):Prop:=∃vs H',Inv X pins σ H' s'∧Vals vs us∧Q vs H'
def SP(X:Cx)(pins:List (Addr×Obj))(D:Ends)(f:Flow)(s':Shared):Prop:=
 match f with
 |.next=>∃σ' H',Inv X pins σ' H' s'∧D.nx σ' H'
 |.brk=>∃σ' H',Inv X pins σ' H' s'∧D.bk σ' H'
 |.cont=>∃σ' H',Inv X pins σ' H' s'∧D.ct σ' H'
 |.ret u=>∃v σ' H',Inv X pins σ' H' s'∧RelV v u∧D.rt v H'
def PE(X:Cx)(e:Expr)(t:TE):Prop:=
 ∀(pins:List (Addr×Obj)) (s:Shared) (σ:St) (H:Hp) (Q:VK),Inv X pins σ H s→t σ H Q→wpAny (model X.prog X.w) X.A (eval e X.env) (EP X pins σ Q) X.xe s
def PT(X:Cx)(e:Expr)(t:TT):Prop:=
 ∀(pins:List (Addr×Obj)) (s:Shared) (σ:St) (H:Hp) (Q:Bool→Hp→Prop),Inv X pins σ H s→t σ H Q→wpAny (model X.prog X.w) X.A (isTrue e X.env (eval e X.env)) (TP X pins σ Q) X.xe s
def PW(X:Cx)(e:Expr)(t:TT):Prop:=
 ∀(whole:Sem Value) (pins:List (Addr×Obj)) (s:Shared) (σ:St) (H:Hp) (Q:Bool→Hp→Prop),Inv X pins σ H s→t σ H Q→wpAny (model X.prog X.w) X.A (isTrue e X.env whole) (TP X pins σ Q) X.xe s
theorem PW.pt{X:Cx}{e:Expr}{t:TT}(h:PW X e t):PT X e t:=h _
def PA(X:Cx)(es:List Expr)(t:TA):Prop:=
 ∀(pos:Pos) (pins:List (Addr×Obj)) (s:Shared) (σ:St) (H:Hp) (Q:List V→Hp→Prop),Inv X pins σ H s→t σ H Q→wpAny (model X.prog X.w) X.A (spliced (backTo pos (starEach es X.env))) (AP X pins σ Q) X.xe s
def PS(X:Cx)(st:Stmt)(t:TS):Prop:=
 ∀(pins:List (Addr×Obj)) (s:Shared) (σ:St) (H:Hp) (D:Ends),Inv X pins σ H s→t D σ H→wpAny (model X.prog X.w) X.A (exec st X.env) (SP X pins D) X.xe s
def PSs(X:Cx)(st:List Stmt)(t:TS):Prop:=
 ∀(pins:List (Addr×Obj)) (s:Shared) (σ:St) (H:Hp) (D:Ends),Inv X pins σ H s→t D σ H→wpAny (model X.prog X.w) X.A (execs st X.env) (SP X pins D) X.xe s
theorem bL{α:Type}{t:Sem α}{Q Q':α→Shared→Prop}{M:Model}{A:Around}{E:Value→Shared→Prop}{s:Shared}(h:wpAny M A t Q E s)(hQ:∀a s,Q a s→Q' a s):wpAny M A t Q' E s:=wpAny_mono h hQ fun _ _ x=>x
end L2
namespace L2
open PySem PySem.Spec PyProof.Rows
section
variable{X:Cx}
theorem bin{a b:Expr}{ta tb:TE}(ha:PE X a ta)(hb:PE X b tb){pins:List (Addr×Obj)}{s:Shared}{σ:St}{H:Hp}{R:V→V→Hp→Prop}(I:Inv X pins σ H s)(h:ta σ H fun x H1=>tb σ H1 fun y H2=>R x y H2)
 {α:Type} {Q:α→Shared→Prop} {f:Value→Value→Sem α}
 (hf:∀v u s2 x y H2,Inv X pins σ H2 s2→RelV x v→RelV y u→R x y H2→wpAny (model X.prog X.w) X.A (f v u) Q X.xe s2):
 wpAny (model X.prog X.w) X.A (eval a X.env) (fun v s₁=>wpAny (model X.prog X.w) X.A (eval b X.env) (fun u s₂=>wpAny (model X.prog X.w) X.A (f v u) Q X.xe s₂) X.xe s₁) X.xe s:=by
 refine bL (ha pins s σ H _ I h) fun v s1 ⟨x,H1,I1,r1,q1⟩=>?_
 refine bL (hb pins s1 σ H1 _ I1 q1) fun u s2 ⟨y,H2,I2,r2,q2⟩=>?_
 exact hf v u s2 x y H2 I2 r1 r2 q2
def xQ(i:Nat):TE:=fun σ H Q=>∃v,σ[i]?=some (some v)∧Q v H
def tC(v:V):TE:=fun _ H Q=>Q v H
theorem dR{i:Nat}{x:Str}{pos:Pos}(hN:X.N[i]?=some x)(hv:FG X.env.scope x)(hd:(x==("__debug__":Str))=false:=by decide)(qq:(x==("__classdict__":Str))=false:=by decide):PE X (.Name x pos) (xQ i):=by
 intro pins s σ H Q I h;obtain⟨v,e,h⟩:=h
 obtain⟨m,hn,hl⟩:=I.loc
 obtain⟨u,r,l⟩:=hl i x v hN e hv
 have fin:EP X pins σ Q u s:=⟨v,H,I,r,h⟩
 rcases l with⟨hk,hm⟩|⟨hk,c,hc,dB⟩
 ·exact wpAny_Name (wpAny_loadName_local I.ok.kind hk hn hm fin) hd
 ·rcases hk with hk|hk
  ·exact wpAny_Name (wpAny_loadName_cell I.ok.kind hk hc dB fin) hd
  ·exact wpAny_Name (wpAny_loadName_free I.ok.kind hk hc dB fin qq) hd
theorem xC{i j pos}:PE X (.Constant (.int i) j pos) (tC (.int i)):=fun _ _ _ H _ I h=>wpAny_Constant_int ⟨.int i,H,I.tok _,⟨_,rfl⟩,h⟩
theorem Bu{b j pos}:PE X (.Constant (.bool b) j pos) (tC (.bl b)):=fun _ _ _ H _ I h=>Constant_bool ⟨.bl b,H,I,rfl,h⟩
theorem Dy{j pos}:PE X (.Constant .none j pos) (tC .non):=fun _ _ _ H _ I h=>Constant_none ⟨.non,H,I,rfl,h⟩
theorem yn{x j pos}:PE X (.Constant (.str x) j pos) (tC (.str x)):=fun _ _ _ H _ I h=>Calls.Constant_str ⟨.str x,H,I.tok _,⟨_,rfl⟩,h⟩
def Gl(X:Cx)(x:Str):Prop:=X.env.kindOf x=some .globalImplicit
theorem fu{E:Value→Shared→Prop}{pins:List (Addr×Obj)}{s:Shared}{σ:St}{H:Hp}{x:Str}{u:Value}{pos:Pos}{Q:Value→Shared→Prop}(I:Inv X pins σ H s)(hg:Gl X x)(hm:X.mg x=some u)(h:Q u s)
 (hd:(x==("__debug__":Str))=false:=by decide):wpAny (model X.prog X.w) X.A (eval (.Name x pos) X.env) Q E s:=
 Calls.Name_function_global I.ok.kind hg (Calls.loadGlobal_global (by rw [I.ok.glob];exact I.mod.glob.keeps I.bk) hm h) hd
theorem e9{E:Value→Shared→Prop}{pins:List (Addr×Obj)}{s:Shared}{σ:St}{H:Hp}{x:Str}{u:Value}{pos:Pos}{Q:Value→Shared→Prop}(I:Inv X pins σ H s)(hg:Gl X x)(hm:X.mg x=none)(hv:bootBuiltins x=some u)(h:Q u s)
 (hn:x≠"__name__":=by decide) (hd:(x==("__debug__":Str))=false:=by decide):wpAny (model X.prog X.w) X.A (eval (.Name x pos) X.env) Q E s:=by
 obtain⟨mb,h1,h2⟩:=I.mod.blt
 exact Calls.Name_function_global I.ok.kind hg (Calls.loadGlobal_builtin (by rw [I.ok.glob];exact I.mod.glob.keeps I.bk) hm (by rw [I.ok.blt];exact h1.keeps I.bk) ((h2 x hn).trans hv) h) hd
theorem Aa{x:Str}{v:V}{u:Value}{pos:Pos}(hg:Gl X x)(hm:X.mg x=some u)(r:RelV v u)(hd:(x==("__debug__":Str))=false:=by decide):PE X (.Name x pos) (tC v):=
 fun _ _ _ H _ I h=>fu I hg hm ⟨v,H,I,r,h⟩ hd
theorem AA{x:Str}{v:V}{u:Value}{pos:Pos}(hg:Gl X x)(hm:X.mg x=none)(hv:bootBuiltins x=some u)(r:RelV v u)(hn:x≠"__name__":=by decide)(hd:(x==("__debug__":Str))=false:=by decide):PE X (.Name x pos) (tC v):=
 fun _ _ _ H _ I h=>e9 I hg hm hv ⟨v,H,I,r,h⟩ hn hd
variable{a b:Expr}{ta tb:TE}{pos:Pos}
def tB(t:TE):TT:=fun σ H Q=>t σ H fun x H1=>∃c,x=.bl c∧Q c H1
theorem Co{e:Expr}{t:TE}(h:PE X e t)(he:∀whole,isTrue e X.env whole=(do let v←whole;standAt e.pos;holding [v] (truthy v)):=by intro _;rfl):PT X e (tB t):=by
 intro pins s σ H Q I hw;refine isTrue_plain (bL (h pins s σ H _ I hw) fun v s1 ⟨x,H1,I1,r1,q1⟩=>?_) (he _)
 obtain⟨d,rfl,q⟩:=q1
 cases r1;exact wpAny_truthy_bool ⟨H1,I1,q⟩
variable{tA GN:TT}{rest:List Expr}
def JZ(t u:TT):TT:=fun σ H Q=>t σ H fun c H1=>if c=true then u σ H1 Q else Q false H1
def Mo(t u:TT):TT:=fun σ H Q=>t σ H fun c H1=>if c=true then Q true H1 else u σ H1 Q
def IP(t:TT):TT:=fun σ H Q=>t σ H fun c H1=>Q (!c) H1
theorem pw_and1(ha:PT X a tA):PW X (.BoolOp .And [a] pos) tA:=by
 intro wh pins s σ H Q I h;refine isTrue_and (bL (ha pins s σ H Q I h) fun c s1 e=>?_)
 cases c with
 |true=>exact isTrue_and_nil e
 |false=>exact e
theorem pw_or1(ha:PT X a tA):PW X (.BoolOp .Or [a] pos) tA:=by
 intro wh pins s σ H Q I h;refine isTrue_or (bL (ha pins s σ H Q I h) fun c s1 e=>?_)
 cases c with
 |false=>exact isTrue_or_nil e
 |true=>exact e
theorem pw_and(ha:PT X a tA)(hb:PW X (.BoolOp .And (b::rest) pos) GN):PW X (.BoolOp .And (a::b::rest) pos) (JZ tA GN):=by
 intro wh pins s σ H Q I h;refine isTrue_and (bL (ha pins s σ H _ I h) fun c s1 ⟨H1,I1,q1⟩=>?_)
 cases c with
 |true=>exact hb wh pins s1 σ H1 Q I1 q1
 |false=>exact⟨H1,I1,q1⟩
theorem pw_or(ha:PT X a tA)(hb:PW X (.BoolOp .Or (b::rest) pos) GN):PW X (.BoolOp .Or (a::b::rest) pos) (Mo tA GN):=by
 intro wh pins s σ H Q I h;refine isTrue_or (bL (ha pins s σ H _ I h) fun c s1 ⟨H1,I1,q1⟩=>?_)
 cases c with
 |true=>exact⟨H1,I1,q1⟩
 |false=>exact hb wh pins s1 σ H1 Q I1 q1
theorem D4(ha:PT X a tA):PT X (.UnaryOp .Not a pos) (IP tA):=by
 intro pins s σ H Q I h;exact isTrue_not (ha pins s σ H (fun c H1=>Q (!c) H1) I h)
def Ho(ta tb:TE):TE:=fun σ H Q=>ta σ H fun x H1=>∃c,x=.bl c∧if c=true then tb σ H1 Q else Q (.bl false) H1
def JK(ta tb:TE):TE:=fun σ H Q=>ta σ H fun x H1=>∃c,x=.bl c∧if c=true then Q (.bl true) H1 else tb σ H1 Q
def Fj(ta:TE):TE:=fun σ H Q=>ta σ H fun x H1=>∃c,x=.bl c∧Q (.bl (!c)) H1
theorem wA{op}{t:TE}(h:PE X a t):PE X (.BoolOp op [a] pos) t:=fun pins s σ H Q I hw=>BoolOp_one (h pins s σ H Q I hw)
theorem DT(ha:PE X a ta)(hb:PE X (.BoolOp .And (b::rest) pos) tb):PE X (.BoolOp .And (a::b::rest) pos) (Ho ta tb):=by
 intro pins s σ H Q I h;refine BoolOp_and (bL (ha pins s σ H _ I h) fun v s1 ⟨x,H1,I1,r1,q1⟩=>?_)
 obtain⟨c,rfl,q1⟩:=q1
 cases r1;refine wpAny_truthy_bool ?_;cases c with
 |true=>exact hb pins s1 σ H1 Q I1 q1
 |false=>exact⟨.bl false,H1,I1,rfl,q1⟩
theorem G6(ha:PE X a ta)(hb:PE X (.BoolOp .Or (b::rest) pos) tb):PE X (.BoolOp .Or (a::b::rest) pos) (JK ta tb):=by
 intro pins s σ H Q I h;refine BoolOp_or (bL (ha pins s σ H _ I h) fun v s1 ⟨x,H1,I1,r1,q1⟩=>?_)
 obtain⟨c,rfl,q1⟩:=q1
 cases r1;refine wpAny_truthy_bool ?_;cases c with
 |false=>exact hb pins s1 σ H1 Q I1 q1
 |true=>exact⟨.bl true,H1,I1,rfl,q1⟩
theorem EC(ha:PE X a ta):PE X (.UnaryOp .Not a pos) (Fj ta):=by
 intro pins s σ H Q I h;refine UnaryOp_ (bL (ha pins s σ H _ I h) fun v s1 ⟨x,H1,I1,r1,q1⟩=>?_)
 obtain⟨c,rfl,q1⟩:=q1
 cases r1;exact not_of (wpAny_truthy_bool ⟨.bl (!c),H1,I1,rfl,q1⟩)
def L3(t:TT)(ta tb:TE):TE:=fun σ H Q=>t σ H fun c H1=>if c=true then ta σ H1 Q else tb σ H1 Q
theorem vH{c:Expr}(hc:PT X c tA)(ha:PE X a ta)(hb:PE X b tb):PE X (.IfExp c a b pos) (L3 tA ta tb):=by
 intro pins s σ H Q I h;refine wpAny_IfExp (bL (hc pins s σ H _ I h) fun d s1 ⟨H1,I1,q1⟩=>?_)
 cases d with
 |true=>exact ha pins s1 σ H1 Q I1 q1
 |false=>exact hb pins s1 σ H1 Q I1 q1
end
end L2
namespace L2
open PySem PySem.Spec PyProof.Rows
def lI(K:PySem.W.Frag)(H:Hp)(a:Addr)(xs:List V):Prop:=
 Rd H a (.lst xs)∨
  ∃(o:Obj) (aE:Array Value) (n:Nat),K.lookup a=some o∧o.cls=.type "list"∧o.dict=none∧o.data=.seq aE n∧aE.size≤sizeLine∧Vals xs aE.toList
def fD(K:PySem.W.Frag)(H:Hp)(a:Addr)(xs:List V):Prop:=
 Rd H a (.tup xs)∨
  ∃(o:Obj) (aE:Array Value) (n:Nat),K.lookup a=some o∧o.cls=.type "tuple"∧o.data=.seq aE n∧aE.size≤sizeLine∧Vals xs aE.toList
noncomputable def Kl:Value→Option V
 |.none=>some .non
 |.bool b=>some (.bl b)
 |.int i _=>some (.int i)
 |.str x _=>some (.str x)
 |.bytes b _=>some (.byt b)
 |.float b _=>some (.flt b)
 |.ref a=>some (.ref a)
 |.type n=>some (.ty n)
 |_=>none
theorem RelV.abs{x:V}{u:Value}(r:RelV x u):Kl u=some x:=by
 cases x with
 |non=>cases r;rfl
 |bl _=>cases r;rfl
 |int _=>obtain⟨t,rfl⟩:=r;rfl
 |str _=>obtain⟨t,rfl⟩:=r;rfl
 |byt _=>obtain⟨t,rfl⟩:=r;rfl
 |flt _=>obtain⟨t,rfl⟩:=r;rfl
 |ref _=>cases r;rfl
 |ty _=>cases r;rfl
theorem RelV.inj{x y:V}{u:Value}(r:RelV x u)(q:RelV y u):x=y:=Option.some.inj (r.abs.symm.trans q.abs)
theorem Vals.inj:∀{xs ys:List V} {us:List Value},Vals xs us→Vals ys us→xs=ys
 |_,_,_,.nil,.nil=>rfl
 |_,_,_,.cons r t,.cons r' t'=>by rw [r.inj r',Vals.inj t t']
section
variable{X:Cx}{pins:List (Addr×Obj)}{σ:St}{H:Hp}{s:Shared}{a:Addr}{xs ys:List V}
theorem lI.of{K:PySem.W.Frag}(h:H a=some (.lst xs)):lI K H a xs:=.inl (.inl h)
theorem Inv.list(I:Inv X pins σ H s)(h:lI X.K H a xs):∃aE:List Value,Vals xs aE∧PlainL s.heap a aE.toArray∧xs.length≤sizeLine:=by
 rcases h with h|⟨o,aE,n,hk,hc,hd,hs,hz,r⟩
 ·obtain⟨z,aE,n,r,e⟩:=h.ok I.hok
  exact⟨aE,r,⟨_,n,e,rfl,rfl,rfl⟩,z⟩
 ·refine⟨aE.toList,r,⟨o,n,I.kIn a o hk,hc,hd,by simpa using hs⟩,?_⟩;have e:=r.length
  simp only [Array.length_toList] at e;omega
theorem Inv.tuple(I:Inv X pins σ H s)(h:fD X.K H a xs):∃aE:List Value,Vals xs aE∧IsTup s.heap a aE.toArray∧xs.length≤sizeLine:=by
 rcases h with h|⟨o,aE,n,hk,hc,hs,hz,r⟩
 ·obtain⟨z,aE,r,p⟩:=h.ok I.hok
  exact⟨aE,r,p,z⟩
 ·refine⟨aE.toList,r,⟨o,I.kIn a o hk,hc,n,by simpa using hs⟩,?_⟩;have e:=r.length
  simp only [Array.length_toList] at e;omega
theorem Inv.list_inj(I:Inv X pins σ H s)(h:lI X.K H a xs)(h':lI X.K H a ys):xs=ys:=by
 obtain⟨aE,r,⟨o,n,e,_,_,d⟩,_⟩:=I.list h
 obtain⟨its',r',⟨o',n',e',_,_,d'⟩,_⟩:=I.list h'
 rw [e] at e';cases e';rw [d] at d'
 injection d' with d1 _
 have:aE=its':=by simpa using congrArg Array.toList d1
 subst this;exact r.inj r'
theorem Inv.tuple_inj(I:Inv X pins σ H s)(h:fD X.K H a xs)(h':fD X.K H a ys):xs=ys:=by
 obtain⟨aE,r,⟨o,e,_,n,d⟩,_⟩:=I.tuple h
 obtain⟨its',r',⟨o',e',_,n',d'⟩,_⟩:=I.tuple h'
 rw [e] at e';cases e';rw [d] at d'
 injection d' with d1 _
 have:aE=its':=by simpa using congrArg Array.toList d1
 subst this;exact r.inj r'
end
section
variable{X:Cx}{pins:List (Addr×Obj)}{σ:St}{H:Hp}{s:Shared}{E:Value→Shared→Prop}
end
section
variable{X:Cx}{st:Stmt}{rest:List Stmt}{t u:TS}{e:Expr}{te:TE}{pos:Pos}
def F6:TS:=fun D σ H=>D.nx σ H
def JV(t u:TS):TS:=fun D σ H=>t {D with nx:=u D} σ H
theorem yZ:PSs X [] F6:=fun _ _ σ H _ I h=>wpAny_execs_nil ⟨σ,H,I,h⟩
theorem vI(h1:PS X st t)(h2:PSs X rest u):PSs X (st::rest) (JV t u):=by
 intro pins s σ H D I h;refine wpAny_execs_cons (bL (h1 pins s σ H {D with nx:=u D} I h) fun f s1 q=>?_)
 cases f with
 |next=>
  obtain⟨σ',H',I',q⟩:=q
  exact h2 pins s1 σ' H' D I' q
 |ret v=>exact q
 |brk=>exact q
 |cont=>exact q
theorem Inv.quiet{pins:List (Addr×Obj)}{σ:St}{H:Hp}{s:Shared}(I:Inv X pins σ H s):interactive X.env=false:=by simp [interactive,I.ok.kind]
def Hy(te:TE):TS:=fun D σ H=>te σ H fun _ H1=>D.nx σ H1
theorem oe(he:PE X e te)(hs:swapsWith e none pos.line X.env=pure false:=by rfl):PS X (.Expr e pos) (Hy te):=by
 intro pins s σ H D I h;exact wpAny_Expr_any (bL (he pins s σ H _ I h) fun v s1 ⟨x,H1,I1,r1,q1⟩=>⟨σ,H1,I1,q1⟩) I.quiet hs
def Kt(te:TE):TS:=fun D σ H=>te σ H D.rt
theorem Ep(he:PE X e te):PS X (.Return (some e) pos) (Kt te):=by
 intro pins s σ H D I h;exact wpAny_Return_some (bL (he pins s σ H _ I h) fun v s1 ⟨x,H1,I1,r1,q1⟩=>⟨x,σ,H1,I1,r1,q1⟩)
def ID(c:TT)(t u:TS):TS:=fun D σ H=>c σ H fun b H1=>if b=true then t D σ H1 else u D σ H1
theorem F7{c:Expr}{a b:List Stmt}{tc:TT}(hc:PT X c tc)(ha:PSs X a t)(hb:PSs X b u):PS X (.If c a b pos) (ID tc t u):=by
 intro pins s σ H D I h;refine wpAny_If (bL (hc pins s σ H _ I h) fun d s1 ⟨H1,I1,q1⟩=>?_)
 cases d with
 |true=>exact ha pins s1 σ H1 D I1 q1
 |false=>exact hb pins s1 σ H1 D I1 q1
end
abbrev TG:=V→St→Hp→(St→Hp→Prop)→Prop
abbrev EK:=List V→St→Hp→(St→Hp→Prop)→Prop
def PG(X:Cx)(target:Expr)(t:TG):Prop:=
 ∀(pins:List (Addr×Obj)) (s:Shared) (σ:St) (H:Hp) (v:V) (u:Value) (Q:St→Hp→Prop),Inv X pins σ H s→RelV v u→t v σ H Q→
  wpAny (model X.prog X.w) X.A (assign target X.env u) (fun _ s'=>∃σ' H',Inv X pins σ' H' s'∧Q σ' H') X.xe s
def Ii(X:Cx)(ts:List Expr)(t:EK):Prop:=
 ∀(pins:List (Addr×Obj)) (s:Shared) (σ:St) (H:Hp) (vs:List V) (us:List Value) (Q:St→Hp→Prop),Inv X pins σ H s→Vals vs us→t vs σ H Q→
  wpAny (model X.prog X.w) X.A (assignInOrder ((assignEach ts X.env).map (·.2)) us) (fun _ s'=>∃σ' H',Inv X pins σ' H' s'∧Q σ' H') X.xe s
abbrev CG:=V→V→V→Hp→(Hp→Prop)→Prop
def Gk(X:Cx)(t:CG):Prop:=
 ∀(pins:List (Addr×Obj)) (s:Shared) (σ:St) (H:Hp) (o i v:V) (ov iv u:Value) (Q:Hp→Prop),Inv X pins σ H s→RelV o ov→RelV i iv→RelV v u→t o i v H Q→
  wpAny (model X.prog X.w) X.A (setItem ov iv u) (fun _ s'=>∃H',Inv X pins σ H' s'∧Q H') X.xe s
section
variable{X:Cx}{pos:Pos}
def fM(i:Nat):TG:=fun v σ H Q=>Q (σ.set i (some v)) H
theorem zV{i:Nat}{x:Str}(hN:X.N.Nodup)(hi:X.N[i]?=some x)(hx:Loc X.env.scope x)(hf:X.fn x=true∨X.env.scope.names.lookup x=some .local:=by first|exact .inl rfl|exact .inr rfl|assumption):PG X (.Name x pos) (fM i):=by
 intro pins s σ H v u Q I r h;exact wpAny_assign_Name (oU I hN hi hx r (fun s' I'=>⟨_,H,I',h⟩) hf)
def Fy:EK:=fun vs σ H Q=>vs=[]∧Q σ H
def vL(t:TG)(u:EK):EK:=fun vs σ H Q=>∃v r,vs=v::r∧t v σ H fun σ' H'=>u r σ' H' Q
theorem yP:Ii X [] Fy:=by
 intro pins s σ H vs us Q I r h;obtain⟨e,h⟩:=h
 subst e;cases r;exact assignInOrder_nil ⟨σ,H,I,h⟩
theorem pJ{e:Expr}{es:List Expr}{t:TG}{u:EK}(h1:PG X e t)(h2:Ii X es u)
 (hs:(assignEach (e::es) X.env).map (·.2)=assign e X.env::(assignEach es X.env).map (·.2):=by rfl):Ii X (e::es) (vL t u):=by
 intro pins s σ H vs us Q I r h;obtain⟨v,vr,e1,h⟩:=h
 subst e1;cases r with
 |cons r rr=>
  rw [hs];refine assignInOrder_cons (bL (h1 pins s σ H _ _ _ I r h) fun _ s1 ⟨σ1,H1,I1,q1⟩=>?_)
  exact h2 pins s1 σ1 H1 _ _ Q I1 rr q1
noncomputable def Hq(K:PySem.W.Frag)(n:Nat)(t:EK):TG:=fun v σ H Q=>∃a xs,v=.ref a∧fD K H a xs∧xs.length=n∧t xs σ H Q
theorem DD{es:List Expr}{k:Nat}{t:EK}{n:Nat}(hc:X.calm=true)(h:Ii X es t)
 (hn:(assignEach es X.env).length=n:=by rfl) (dH:(assignEach es X.env).findIdx? (·.1)=none:=by rfl):PG X (.Tuple es k pos) (Hq X.K n t):=by
 intro pins s σ H v u Q I r hw;obtain⟨a,xs,e1,hq,hl,hw⟩:=hw
 subst e1;cases r;obtain⟨aE,rv,ht,hz⟩:=I.tuple hq
 refine assign_Tuple_tuple (I.ok.hd hc) ht (by simp [hn,←hl,rv.length]) dH fun h' hx=>?_
 have I1:Inv X pins σ H {s with heap:=h'}:=I.kept (t':=s.toks) fun b o e=>hx b o (Nat.ne_of_lt (Heap.lt_size e)) e
 exact h pins _ σ H xs _ Q I1 (by simpa using rv) hw
def JL(to ti:TE)(t:CG):TG:=fun v σ H Q=>to σ H fun o H1=>ti σ H1 fun i H2=>t o i v H2 fun H3=>Q σ H3
theorem xj{o i:Expr}{to ti:TE}{t:CG}(ho:PE X o to)(hi:PE X i ti)(hs:Gk X t)
 (ha:∀v,assign (.Subscript o i pos) X.env v=(do
  let ov←holding [v] (eval o X.env)
  let iv←holding [v,ov] (eval i X.env)
  standAt pos
  holding [v,ov,iv] (setItem ov iv v)
  release [v,ov,iv] []):=by intro _;rfl):PG X (.Subscript o i pos) (JL to ti t):=by
 intro pins s σ H v u Q I r h;rw [ha];refine wpAny_bind (wpAny_holding (bL (ho pins s σ H _ I h) fun ov s1 ⟨x,H1,I1,r1,q1⟩=>?_))
 refine wpAny_bind (wpAny_holding (bL (hi pins s1 σ H1 _ I1 q1) fun iv s2 ⟨y,H2,I2,r2,q2⟩=>?_))
 refine wpAny_bind (wpAny_standAt (wpAny_bind (wpAny_holding (bL (hs pins s2 σ H2 x y v ov iv u _ I2 r1 r2 r q2) fun _ s3 ⟨H3,I3,q3⟩=>?_))))
 exact wpAny_release ⟨σ,H3,I3,q3⟩
def Ad(te:TE)(g:TG):TS:=fun D σ H=>te σ H fun x H1=>g x σ H1 D.nx
theorem yq{tg e:Expr}{te:TE}{g:TG}(he:PE X e te)(hg:PG X tg g)(hs:swapsWithSole [tg] e pos.line X.env=pure false:=by rfl)(hw:swappedStores [tg] e X.env=pure none:=by rfl)
 (h1:(assignEach [tg] X.env).map (·.2)=[assign tg X.env]:=by rfl):PS X (.Assign [tg] e pos) (Ad te g):=by
 intro pins s σ H D I h;refine wpAny_Assign_stores (bL (he pins s σ H _ I h) fun v s1 ⟨x,H1,I1,r1,q1⟩=>?_) hs hw
 rw [h1];exact bL (hg pins s1 σ H1 x v _ I1 r1 q1) fun _ s2 q=>q
theorem hW{i:Nat}{x:Str}{e:Expr}{te:TE}{pos':Pos}(hN:X.N.Nodup)(hi:X.N[i]?=some x)(hx:Loc X.env.scope x)(he:PE X e te)(hs:swapsWith e (some (.Name x pos')) pos.line X.env=pure false:=by rfl)(hf:X.fn x=true∨X.env.scope.names.lookup x=some .local:=by first|exact .inl rfl|exact .inr rfl|assumption):
 PS X (.Assign [.Name x pos'] e pos) (Ad te (fM i)):=by
 intro pins s σ H D I h;refine wpAny_Assign_Name (bL (he pins s σ H _ I h) fun v s1 ⟨y,H1,I1,r1,q1⟩=>?_) hs
 exact oU I1 hN hi hx r1 (fun s2 I2=>⟨_,H1,I2,q1⟩) hf
end
section
variable{X:Cx}{pos:Pos}
noncomputable def DN(c:TT)(tb:TS):TS:=fun D σ H=>∃W:Nat→St→Hp→Prop,(∃m,W m σ H)∧∀m σ H,W m σ H→
 c σ H fun b H1=>if b=true then∃N:St→Hp→Prop,(∀σ' H',N σ' H'→∃m',m'<m∧W m' σ' H')∧tb {D with nx:=N,ct:=N,bk:=D.nx} σ H1 else D.nx σ H1
theorem vC{c:Expr}{body:List Stmt}{tc:TT}{tb:TS}(hp:PassesOwn (model X.prog X.w) X.A X.env X.xe)(hc:PT X c tc)(hb:PSs X body tb):PS X (.While c body [] pos) (DN tc tb):=by
 intro pins s σ H D I h;obtain⟨W,⟨m0,w0⟩,turn⟩:=h
 refine wpAny_While (codeAny_whileLoop (fun n s'=>∃σ' H',Inv X pins σ' H' s'∧W n σ' H') ?_ m0 ⟨σ,H,I,w0⟩)
 rintro n s1 ⟨σ1,H1,I1,w1⟩
 refine wpAny_passesOwn hp (bL (hc pins s1 σ1 H1 _ I1 (turn n σ1 H1 w1)) fun b s2 ⟨H2,I2,q2⟩=>?_)
 cases b with
 |true=>
  obtain⟨N,hN,q2⟩:=q2
  rw [if_pos rfl];refine wpAny_passesOwn hp (bL (hb pins s2 σ1 H2 _ I2 q2) fun f s3 q3=>?_)
  cases f with
  |next=>
   obtain⟨σ3,H3,I3,n3⟩:=q3
   obtain⟨m',hm,w3⟩:=hN σ3 H3 n3
   exact⟨m',hm,σ3,H3,I3,w3⟩
  |cont=>
   obtain⟨σ3,H3,I3,n3⟩:=q3
   obtain⟨m',hm,w3⟩:=hN σ3 H3 n3
   exact⟨m',hm,σ3,H3,I3,w3⟩
  |brk=>exact q3
  |ret v=>exact q3
 |false=>
  rw [if_neg zzf];exact wpAny_execs_nil ⟨σ1,H2,I2,q2⟩
end
structure It where
 go:Nat→Hp→Prop
 yld:Nat→Hp→V→Hp→Prop
 stop:Nat→Hp→Prop
def eF(X:Cx)(pins:List (Addr×Obj))(H:Hp)(b:Addr):Prop:=
 H b=none∧b≠X.env.locals∧b∉X.fs∧(b∈X.ex∨X.s₀.heap.objs.size≤b)∧(∀x c,X.env.cells.lookup x=some c→c≠b)∧∀p∈X.pn++pins,p.1≠b
theorem Inv.fpOk{X:Cx}{pins:List (Addr×Obj)}{σ:St}{H H':Hp}{s:Shared}{b:Addr}(I:Inv X pins σ H s)(hb:s.heap.objs.size≤b)(hn:H' b=none):eF X pins H' b:=by
 refine⟨hn,Nat.ne_of_gt (Nat.lt_of_lt_of_le I.lt hb),I.nofs hb,.inr (Nat.le_trans I.sz hb),fun x c e z=>?_,fun p hp z=>?_⟩
 ·obtain⟨v,q⟩:=I.cell x c e
  exact absurd (Nat.lt_of_lt_of_le q.lt (by rw [z];exact hb)) (Nat.lt_irrefl _)
 ·exact absurd (Nat.lt_of_lt_of_le (Heap.lt_size (I.pin p hp).1) (by rw [z];exact hb)) (Nat.lt_irrefl _)
structure Turn(P:Program)(w:World)(K:PySem.W.Frag)(tg:Expr)(J:It)(fp:List Addr)(it:Addr)(tn:Nat→Heap→Prop):Prop where
 mem:it∈fp
 obj:∀i h,tn i h→∀b∈fp,∃o,h.get? b=some o∧∀v,o.data≠.cell v
 keep:∀i h h',tn i h→(∀b∈fp,∀o,h.get? b=some o→h'.get? b=some o)→tn i h'
 item:∀(X:Cx),X.prog=P→X.w=w→X.K=K→X.calm=true→∀(i:Nat) (pins:List (Addr×Obj)) (s:Shared) (σ:St) (H:Hp) (E:Value→Shared→Prop),Inv X pins σ H s→(∀b∈fp,eF X pins H b)→tn i s.heap→J.go i H→
  wpAny (model P w) X.A (pyNext (.ref it)) (fun r s1=>∃u,r=some u∧
   wpAny (model P w) X.A (letOwnedTupleGo tg (.ref it) u) (fun _ s2=>∃x H',Inv X pins σ H' s2∧RelV x u∧J.yld i H x H'∧tn (i+1) s2.heap∧∀b∈fp,H' b=none) E s1) E s
 done:∀(X:Cx),X.prog=P→X.w=w→X.K=K→X.calm=true→∀(i:Nat) (pins:List (Addr×Obj)) (s:Shared) (σ:St) (H:Hp) (E:Value→Shared→Prop),Inv X pins σ H s→(∀b∈fp,eF X pins H b)→tn i s.heap→J.stop i H→
  wpAny (model P w) X.A (pyNext (.ref it)) (fun r s1=>r=none∧Inv X pins σ H s1) E s
 self:∀(A:Around) (i:Nat) (s:Shared) (Q:Value→Shared→Prop) (E:Value→Shared→Prop),tn i s.heap→Q (.ref it) s→wpAny (model P w) A (pyIter (.ref it)) Q E s
abbrev TI:=St→Hp→(It→Hp→Prop)→Prop
def LF(X:Cx)(pins:List (Addr×Obj))(σ:St)(tg:Expr)(R:It→Hp→Prop)(Jn:Value)(s2:Shared):Prop:=
 ∃(it:Addr) (fp:List Addr) (tn:Nat→Heap→Prop) (J:It) (H':Hp),Jn=.ref it∧Inv X pins σ H' s2∧Turn X.prog X.w X.K tg J fp it tn∧tn 0 s2.heap∧(∀b∈fp,eF X pins H' b)∧R J H'
def PI(X:Cx)(tg iter:Expr)(wi:TI):Prop:=
 ∀(pins:List (Addr×Obj)) (s:Shared) (σ:St) (H:Hp) (R:It→Hp→Prop),Inv X pins σ H s→wi σ H R→
  wpAny (model X.prog X.w) X.A (eval iter X.env) (fun v s1=>wpAny (model X.prog X.w) X.A (pyIter v) (LF X pins σ tg R) X.xe s1) X.xe s
theorem Bl{M:Model}{A:Around}{E:Value→Shared→Prop}{s:Shared}{tg:Expr}{it:Addr}{u:Value}{o:Obj}{n:String}{vs:Array Value}{Q:Unit→Shared→Prop}(ho:s.heap.get? it=some o)(hc:o.cls=.type n)(hd:o.data=.fields vs)
 (hn:["enumerate","zip","dict_itemiterator","dict_reverseitemiterator","odict_iterator","itertools.zip_longest","itertools.pairwise"].contains n=false) (hQ:Q () s):wpAny M A (letOwnedTupleGo tg (.ref it) u) Q E s:=by
 unfold letOwnedTupleGo;cases tg<;>first
  |exact wpAny_pure hQ
  |(cases u<;>first
   |exact wpAny_pure hQ
   | (refine wpAny_bind (wpAny_load ho ?_)
      rw [hc,hd];show wpAny M A (if(["enumerate","zip","dict_itemiterator","dict_reverseitemiterator","odict_iterator","itertools.zip_longest","itertools.pairwise"].contains n&&vs[0]?==some (rawInt _))=true then _ else _) Q E s;rw [if_neg (by intro h;rw [hn,Bool.false_and] at h;cases h)];exact wpAny_pure hQ))
noncomputable def Iz(K:PySem.W.Frag)(a:Addr):It:=
 ⟨fun i H=>∃xs x,lI K H a xs∧xs[i]?=some x,fun i H x H'=>H'=H∧∀xs,lI K H a xs→xs[i]?=some x,fun i H=>∃xs,lI K H a xs∧xs.length≤i⟩
def FX(lo:Int)(n:Nat):It:=⟨fun i _=>i<n,fun i H x H'=>H'=H∧x=.int (lo+i),fun i _=>n≤i⟩
theorem uF{P:Program}{w:World}{K:PySem.W.Frag}{tg:Expr}(a it:Addr):Turn P w K tg (Iz K a) [it] it (fun i h=>h.IsListIter it a i) where
 mem:=by simp
 obj:=fun i h st b hb=>by
  have e:b=it:=by simpa using hb
  subst e;obtain⟨o,e,c,d⟩:=st
  exact⟨o,e,fun v z=>by rw [d] at z;cases z⟩
 keep:=fun i h h' st k=>st.at fun o e=>k it (by simp) o e
 item:=by
  intro X hP hw hK hc i pins s σ H E I hf st hg;subst hP hw hK;obtain⟨xs,x,hq,hx⟩:=hg
  obtain⟨aE,rv,p,hz⟩:=I.list hq
  obtain⟨u,hu,ru⟩:=rv.get hx
  obtain⟨f0,f1,f2,f3,f4,f5⟩:=hf it (by simp)
  refine wpAny_pyNext_list_item st p.isList (x:=u) (by simpa using hu) fun h' kA sb=>?_
  have I1:Inv X pins σ H {s with heap:=h'}:=I.turned (t':=s.toks) (fun b o hb e=>(sb.2 b hb).trans e) f0 f1 f3 f4 f5
  obtain⟨o,e,c,d⟩:=id kA
  exact⟨u,rfl,Bl (s:={s with heap:=h'}) e c d (by decide) ⟨x,H,I1,ru,⟨rfl,fun ys hy=>by rw [I.list_inj hy hq];exact hx⟩,kA,fun b hb=>(hf b hb).1⟩⟩
 done:=by
  intro X hP hw hK hc i pins s σ H E I hf st hg;subst hP hw hK;obtain⟨xs,hq,hx⟩:=hg
  obtain⟨aE,rv,p,hz⟩:=I.list hq
  obtain⟨f0,f1,f2,f3,f4,f5⟩:=hf it (by simp)
  have hl:=rv.length
  exact wpAny_pyNext_list_end (I.ok.hd hc) st p.isList (by simp;omega) fun h' eb=>⟨rfl,I.turned (t':=s.toks) (fun b o hb e=>eb b o hb e) f0 f1 f3 f4 f5⟩
 self:=fun _ _ _ _ _ st h=>wpAny_pyIter_listiter st h
theorem qz{P:Program}{w:World}{K:PySem.W.Frag}{tg:Expr}(it:Addr)(lo:Int)(n:Nat):Turn P w K tg (FX lo n) [it] it (fun i h=>IsRangeIter h it (lo+(i:Nat)*1) ((n:Int)-(i:Nat)) 1) where
 mem:=by simp
 obj:=fun i h st b hb=>by
  have e:b=it:=by simpa using hb
  subst e;exact⟨_,st,fun v z=>by
   have z':Data.fields _=Data.cell v:=z
   cases z'⟩
 keep:=fun i h h' st k=>k it (by simp) _ st
 item:=by
  intro X hP hw hK hc i pins s σ H E I hf st hg;subst hP hw hK;obtain⟨f0,f1,f2,f3,f4,f5⟩:=hf it (by simp)
  have W:=Walks.range (prog:=X.prog) (w:=X.w) (I.ok.hd hc) it lo 1 n
  refine W.item i s _ _ hg st fun v h' tk hv kA kk=>?_
  obtain⟨t,rfl⟩:=hv
  have I1:Inv X pins σ H {s with heap:=h',toks:=tk}:=I.turned (fun b o hb e=>kk b o (by simpa using hb) e) f0 f1 f3 f4 f5
  refine⟨_,rfl,Bl (s:={s with heap:=h',toks:=tk}) (n:="range_iterator") kA rfl rfl (by decide) ⟨.int (lo+i),H,I1,⟨t,?_⟩,⟨rfl,rfl⟩,kA,fun b hb=>(hf b hb).1⟩⟩
  rw [Int.mul_one]
 done:=by
  intro X hP hw hK hc i pins s σ H E I hf st hg;subst hP hw hK;obtain⟨f0,f1,f2,f3,f4,f5⟩:=hf it (by simp)
  exact wpAny_pyNext_range_end (I.ok.hd hc) st (by have:n≤i:=hg;omega) fun h' eb=>⟨rfl,I.turned (t':=s.toks) (fun b o hb e=>eb b o hb e) f0 f1 f3 f4 f5⟩
 self:=fun _ _ _ _ _ st h=>wpAny_pyIter_rangeiter st h
end L2
namespace L2
open PySem PySem.Spec PyProof.Rows
section
variable{X:Cx}{tg:Expr}
noncomputable def GR(K:PySem.W.Frag)(tl:TE):TI:=fun σ H R=>tl σ H fun x H1=>∃a,x=.ref a∧(∃xs,lI K H1 a xs)∧R (Iz K a) H1
theorem sR{l:Expr}{tl:TE}(hl:PE X l tl):PI X tg l (GR X.K tl):=by
 intro pins s σ H R I h;refine bL (hl pins s σ H _ I h) fun v s1 ⟨x,H1,I1,r1,q1⟩=>?_
 obtain⟨a,e,⟨xs,hq⟩,q⟩:=q1
 subst e;cases r1;obtain⟨aE,rv,p,hz⟩:=I1.list hq
 refine wpAny_pyIter_list p.isList ?_;refine⟨s1.heap.objs.size,[s1.heap.objs.size],_,_,H1,rfl,I1.kept (t':=s1.toks) fun b o e=>Heap.get?_push_of_some _ e,uF a _,⟨_,Heap.get?_push_size _ rfl,rfl,rfl⟩,fun b hb=>?_,q⟩
 have e:b=s1.heap.objs.size:=by simpa using hb
 subst e;exact I1.fpOk (Nat.le_refl _) (I1.hok.fresh (Nat.le_refl _))
theorem p5{pins:List (Addr×Obj)}{σ:St}{H:Hp}{s:Shared}{R:It→Hp→Prop}{E:Value→Shared→Prop}{lo hi:Int}{t u v:Tok}{tk:Nat}(I:Inv X pins σ H s)(h1: -(2^62)≤lo)(h2:lo<2^62)(h3: -(2^62)≤hi)(h4:hi<2^62)
 (q:R (FX lo (hi-lo).toNat) H):wpAny (model X.prog X.w) X.A (pyIter (.ref s.heap.objs.size)) (LF X pins σ tg R) E {s with heap:=s.heap.push {cls:=.type "range",data:=.fields #[.int lo t,.int hi u,.int 1 v]},toks:=tk}:=by
 refine wpAny_pyIter_range (IsRange.new ..) (small_one h1 h2 h3 h4) ?_;have I1:Inv X pins σ H {s with heap:=s.heap.push {cls:=.type "range",data:=.fields #[.int lo t,.int hi u,.int 1 v]},toks:=tk}:=I.kept fun b o e=>Heap.get?_push_of_some _ e
 refine⟨(s.heap.push {cls:=.type "range",data:=.fields #[.int lo t,.int hi u,.int 1 v]}).objs.size,[(s.heap.push {cls:=.type "range",data:=.fields #[.int lo t,.int hi u,.int 1 v]}).objs.size],_,_,H,rfl,
  I1.kept (t':=tk) fun b o e=>Heap.get?_push_of_some _ e,qz _ lo (hi-lo).toNat,?_,fun b hb=>?_,q⟩
 ·have e1:lo+((0:Nat):Int)*1=lo:=by simp
  have e2:(((hi-lo).toNat:Nat):Int)-((0:Nat):Int)=Builtin.Range.rangeSize lo hi 1:=by rw [rangeSize_one];split<;>omega
  show IsRangeIter _ _ (lo+((0:Nat):Int)*1) ((((hi-lo).toNat:Nat):Int)-((0:Nat):Int)) 1
  rw [e1,e2];exact Heap.get?_push_size _ rfl
 ·have e:b=(s.heap.push {cls:=.type "range",data:=.fields #[.int lo t,.int hi u,.int 1 v]}).objs.size:=by simpa using hb
  subst e;exact I1.fpOk (Nat.le_refl _) (I1.hok.fresh (Nat.le_refl _))
def FH(ta:TA):TI:=fun σ H R=>ta σ H fun vs H1=>∃j:Int,vs=[.int j]∧ -(2^62)≤j∧j<2^62∧R (FX 0 j.toNat) H1
def F9(ta:TA):TI:=fun σ H R=>ta σ H fun vs H1=>∃i j:Int,vs=[.int i,.int j]∧(-(2^62)≤i∧i<2^62∧ -(2^62)≤j∧j<2^62)∧R (FX i (j-i).toNat) H1
theorem uN{a:Expr}{ta:TA}{p pos:Pos}(hg:Gl X "range")(hm:X.mg "range"=none)(ha:PA X [a] ta)(hs:starEach [a] X.env=[(false,eval a X.env)]:=by rfl):PI X tg (.Call (.Name "range" p) [a] [] pos) (FH ta):=by
 intro pins s σ H R I h;refine Call_ (e9 I hg hm boot_range (PyProof.Rows.callWith_type1 (bL (ha pos pins s σ H _ I h) fun us s1 ⟨vs,H1,I1,r1,q1⟩=>?_) hs rfl))
 obtain⟨j,e,q1,q2,q⟩:=q1
 subst e;cases r1 with
 |cons r rr=>
  cases rr;obtain⟨t,rfl⟩:=r
  exact call_range_1 (p5 I1 (by omega) (by omega) q1 q2 (by simpa using q))
theorem tQ{a b:Expr}{ta:TA}{p pos:Pos}(hg:Gl X "range")(hm:X.mg "range"=none)(ha:PA X [a,b] ta)(hs:starEach [a,b] X.env=[(false,eval a X.env),(false,eval b X.env)]:=by rfl)(sW:starEach [b] X.env=[(false,eval b X.env)]:=by rfl):
 PI X tg (.Call (.Name "range" p) [a,b] [] pos) (F9 ta):=by
 intro pins s σ H R I h;refine Call_ (e9 I hg hm boot_range (PyProof.Rows.callWith_type1 (bL (ha pos pins s σ H _ I h) fun us s1 ⟨vs,H1,I1,r1,q1⟩=>?_) (by rw [hs,sW]) (by rw [sW];rfl)))
 obtain⟨i,j,e,⟨q1,q2,q3,q4⟩,q⟩:=q1
 subst e;cases r1 with
 |cons r rr=>
  cases rr with
  |cons r' rr=>
   cases rr;obtain⟨t,rfl⟩:=r
   obtain⟨t',rfl⟩:=r'
   exact call_range_2 (p5 I1 q1 q2 q3 q4 q)
noncomputable def IS(wi:TI)(g:TG)(tb:TS):TS:=fun D σ H=>wi σ H fun J H1=>∃W:Nat→Nat→St→Hp→Prop,(∃m,W 0 m σ H1)∧∀i m σ H,W i m σ H→
 (J.stop i H∧D.nx σ H)∨(J.go i H∧∃N:St→Hp→Prop,(∀σ' H',N σ' H'→∃m',m'<m∧W (i+1) m' σ' H')∧∀x H',J.yld i H x H'→g x σ H' fun σ2 H2=>tb {D with nx:=N,ct:=N,bk:=D.nx} σ2 H2)
def mK(fp:List Addr)(h:Heap):List (Addr×Obj):=fp.filterMap fun b=>(h.get? b).map fun o=>(b,o)
theorem cY{fp:List Addr}{h:Heap}{b:Addr}{o:Obj}(hb:b∈fp)(e:h.get? b=some o):(b,o)∈mK fp h:=List.mem_filterMap.mpr ⟨b,hb,by rw [e];rfl⟩
theorem uO{fp:List Addr}{h:Heap}{p:Addr×Obj}(hp:p∈mK fp h):p.1∈fp∧h.get? p.1=some p.2:=by
 obtain⟨b,hb,e⟩:=List.mem_filterMap.mp hp
 cases q:h.get? b with
 |none=>rw [q] at e;cases e
 |some o=>
  rw [q] at e;have e':(b,o)=p:=Option.some.inj e
  subst e';exact⟨hb,q⟩
theorem Inv.pinned{pins:List (Addr×Obj)}{σ:St}{H:Hp}{s:Shared}{fp:List Addr}(I:Inv X pins σ H s)(hf:∀b∈fp,eF X pins H b)(ho:∀b∈fp,∃o,s.heap.get? b=some o∧∀v,o.data≠.cell v):Inv X (pins++mK fp s.heap) σ H s:=
 I.pins_of fun p hp=>(List.mem_append.mp hp).elim (fun z=>I.pin p (List.mem_append_right _ z)) fun z=>by
  obtain⟨hb,e⟩:=uO z
  obtain⟨f0,f1,f2,_⟩:=hf p.1 hb
  obtain⟨o,e',d⟩:=ho p.1 hb
  rw [e] at e';cases e';exact⟨e,f0,f1,f2,d⟩
theorem Inv.unpinned{pins pl:List (Addr×Obj)}{σ:St}{H:Hp}{s:Shared}(I:Inv X (pins++pl) σ H s):Inv X pins σ H s:=I.pins_of fun p hp=>I.pin p (List.mem_append_right _ (List.mem_append_left _ hp))
theorem DV{iter:Expr}{body:List Stmt}{wi:TI}{g:TG}{tb:TS}{pos:Pos}(hp:PassesOwn (model X.prog X.w) X.A X.env X.xe)(hc:X.calm=true)(hi:PI X tg iter wi)(hg:PG X tg g)(hb:PSs X body tb)
 (hs:∀x,foldedSetIterable iter X.env x=pure x:=by intro _;rfl):PS X (.For tg iter body [] pos) (IS wi g tb):=by
 intro pins s σ H D I h;refine wpAny_For (bL (hi pins s σ H _ I h) fun v s1 h1=>bL h1 fun Jn s2 h2=>?_) hs
 obtain⟨it,fp,tn,J,H2,e,I2,T,Kd,f2,W,⟨m0,w0⟩,turn⟩:=h2
 subst e;have Cc:∀{H':Hp},(∀b∈fp,H' b=none)→∀b∈fp,eF X pins H' b:=fun hn b hb=>⟨hn b hb,(f2 b hb).2⟩
 refine codeAny_forLoop_any (fun n s'=>∃i σ' H',Inv X pins σ' H' s'∧tn i s'.heap∧(∀b∈fp,H' b=none)∧W i n σ' H') ?_ m0 ⟨0,σ,H2,I2,Kd,fun b hb=>(f2 b hb).1,w0⟩
 rintro n s3 ⟨i,σ3,H3,I3,st3,fr3,w3⟩
 rcases turn i n σ3 H3 w3 with⟨stop,qn⟩|⟨go,N,hN,step⟩
 ·refine wpAny_passesOwn hp (bL (T.done X rfl rfl rfl hc i pins s3 σ3 H3 X.xe I3 (Cc fr3) st3 stop) fun r s4 ⟨hr,I4⟩=>?_)
  subst hr;exact wpAny_execs_nil ⟨σ3,H3,I4,qn⟩
 ·refine wpAny_passesOwn hp (bL (T.item X rfl rfl rfl hc i pins s3 σ3 H3 X.xe I3 (Cc fr3) st3 go) fun r s4 ⟨u,hr,h4⟩=>?_)
  subst hr;refine wpAny_passesOwn hp (bL h4 fun _ s5 ⟨x,H5,I5,r5,y5,st5,fr5⟩=>?_);have Kw:=I5.pinned (Cc fr5) (T.obj _ _ st5)
  refine wpAny_passesOwn hp (bL (hg _ s5 σ3 H5 x u _ Kw r5 (step x H5 y5)) fun _ s6 ⟨σ6,H6,I6,q6⟩=>?_)
  refine wpAny_passesOwn hp (bL (hb _ s6 σ6 H6 _ I6 q6) fun f s7 q7=>?_)
  have again:∀{σ7:St} {H7:Hp},Inv X (pins++mK fp s5.heap) σ7 H7 s7→N σ7 H7→∃m,m<n∧∃i σ' H',Inv X pins σ' H' s7∧tn i s7.heap∧(∀b∈fp,H' b=none)∧W i m σ' H':=fun{σ7 H7} I7 n7=>by
   obtain⟨m',hm,w7⟩:=hN σ7 H7 n7
   refine⟨m',hm,i+1,σ7,H7,I7.unpinned,T.keep _ _ _ st5 fun b hb o e=>(I7.pin (b,o) (List.mem_append_right _ (List.mem_append_right _ (cY hb e)))).1,fun b hb=>?_,w7⟩
   obtain⟨o,e,d⟩:=T.obj _ _ st5 b hb
   exact(I7.pin (b,o) (List.mem_append_right _ (List.mem_append_right _ (cY hb e)))).2.1
  cases f with
  |next=>obtain⟨σ7,H7,I7,n7⟩:=q7;exact again I7 n7
  |cont=>obtain⟨σ7,H7,I7,n7⟩:=q7;exact again I7 n7
  |brk=>obtain⟨σ7,H7,I7,q7⟩:=q7;exact⟨σ7,H7,I7.unpinned,q7⟩
  |ret v=>obtain⟨x7,σ7,H7,I7,r7,q7⟩:=q7;exact⟨x7,σ7,H7,I7.unpinned,r7,q7⟩
end
end L2
namespace L2
open PySem PySem.Spec PyProof.Rows
abbrev R2:=V→V→Hp→VK→Prop
def fJ(X:Cx)(f:Value→Value→Sem Value)(r:R2):Prop:=
 ∀(pins:List (Addr×Obj)) (s:Shared) (σ:St) (H:Hp) (x y:V) (v u:Value) (Q:VK),Inv X pins σ H s→RelV x v→RelV y u→r x y H Q→
  wpAny (model X.prog X.w) X.A (f v u) (EP X pins σ Q) X.xe s
def Ij(X:Cx)(f:Value→Sem Value)(r:V→Hp→VK→Prop):Prop:=
 ∀(pins:List (Addr×Obj)) (s:Shared) (σ:St) (H:Hp) (x:V) (v:Value) (Q:VK),Inv X pins σ H s→RelV x v→r x H Q→
  wpAny (model X.prog X.w) X.A (f v) (EP X pins σ Q) X.xe s
def cU(X:Cx)(f:Value)(r:List V→Hp→VK→Prop):Prop:=
 ∀(pins:List (Addr×Obj)) (s:Shared) (σ:St) (H:Hp) (xs:List V) (us:List Value) (Q:VK),Inv X pins σ H s→Vals xs us→r xs H Q→
  wpAny (model X.prog X.w) X.A (call f us) (EP X pins σ Q) X.xe s
noncomputable def Fg(r:R2)(ta tb:TE):TE:=fun σ H Q=>ta σ H fun x H1=>tb σ H1 fun y H2=>r x y H2 Q
def Mx(r:V→Hp→VK→Prop)(ta:TE):TE:=fun σ H Q=>ta σ H fun x H1=>r x H1 Q
noncomputable def rI(C:Int→Int→Prop)(g:Int→Int→V):R2:=fun x y H Q=>∃i j,x=.int i∧y=.int j∧C i j∧Q (g i j) H
noncomputable def Cd(g:Int→Int→V):R2:=fun x y H Q=>∃i j,x=.int i∧y=.int j∧Q (g i j) H
def rU(g:Int→V):V→Hp→VK→Prop:=fun x H Q=>∃i,x=.int i∧Q (g i) H
section
variable{X:Cx}{a b c:Expr}{ta tb tc:TE}{pos:Pos}
theorem EM(ha:PE X a ta)(hb:PE X b tb){pins:List (Addr×Obj)}{s:Shared}{σ:St}{H:Hp}{R:V→V→Hp→Prop}(I:Inv X pins σ H s)
 (h:ta σ H fun x H1=>tb σ H1 fun y H2=>R x y H2) {Q:Value→Shared→Prop} {f:Value→Value→Sem Value}
 (hf:∀v u s2 x y H2,Inv X pins σ H2 s2→RelV x v→RelV y u→R x y H2→wpAny (model X.prog X.w) X.A (f v u) Q X.xe s2):
 wpAny (model X.prog X.w) X.A (eval a X.env) (fun v s₁=>wpAny (model X.prog X.w) X.A (eval b X.env) (fun u s₂=>wpAny (model X.prog X.w) X.A (f v u) Q X.xe s₂) X.xe s₁) X.xe s:=by
 refine bL (ha pins s σ H _ I h) fun v s1 ⟨x,H1,I1,r1,q1⟩=>?_
 refine bL (hb pins s1 σ H1 _ I1 q1) fun u s2 ⟨y,H2,I2,r2,q2⟩=>?_
 exact hf v u s2 x y H2 I2 r1 r2 q2
theorem Fs{op:Operator}{r:R2}(ho:fJ X (binaryOp op) r)(ha:PE X a ta)(hb:PE X b tb):PE X (.BinOp a op b pos) (Fg r ta tb):=by
 intro pins s σ H Q I h;exact wpAny_BinOp (EM ha hb I h fun v u s2 x y H2 I2 rx ry q=>ho pins s2 σ H2 x y v u Q I2 rx ry q)
theorem GJ{op:UnaryOp}{r:V→Hp→VK→Prop}(ho:Ij X (unaryOp op) r)(ha:PE X a ta):PE X (.UnaryOp op a pos) (Mx r ta):=by
 intro pins s σ H Q I h;exact UnaryOp_ (bL (ha pins s σ H _ I h) fun v s1 ⟨x,H1,I1,r1,q1⟩=>ho pins s1 σ H1 x v Q I1 r1 q1)
theorem w8{f:Value→Value→Sem Value}{C:Int→Int→Prop}{g:Int→Int→Int}
 (rule:∀(i j:Int) (t u:Tok) (s:Shared) (Q:Value→Shared→Prop) (E:Value→Shared→Prop),C i j→Q (.int (g i j) s.toks) {s with toks:=s.toks+1}→wpAny (model X.prog X.w) X.A (f (.int i t) (.int j u)) Q E s):
 fJ X f (rI C fun i j=>.int (g i j)):=by
 intro pins s σ H x y v u Q I rx ry h;obtain⟨i,j,rfl,rfl,hc,q⟩:=h
 obtain⟨t,rfl⟩:=rx
 obtain⟨t',rfl⟩:=ry
 exact rule i j t t' s _ _ hc ⟨.int (g i j),H,I.tok _,⟨_,rfl⟩,q⟩
theorem Hn{f:Value→Value→Sem Value}{g:Int→Int→Int}
 (rule:∀(i j:Int) (t u:Tok) (s:Shared) (Q:Value→Shared→Prop) (E:Value→Shared→Prop),Q (.int (g i j) s.toks) {s with toks:=s.toks+1}→wpAny (model X.prog X.w) X.A (f (.int i t) (.int j u)) Q E s):
 fJ X f (Cd fun i j=>.int (g i j)):=by
 intro pins s σ H x y v u Q I rx ry h;obtain⟨i,j,rfl,rfl,q⟩:=h
 obtain⟨t,rfl⟩:=rx
 obtain⟨t',rfl⟩:=ry
 exact rule i j t t' s _ _ ⟨.int (g i j),H,I.tok _,⟨_,rfl⟩,q⟩
theorem Di{f:Value→Value→Sem Value}{g:Int→Int→Bool}
 (rule:∀(i j:Int) (t u:Tok) (s:Shared) (Q:Value→Shared→Prop) (E:Value→Shared→Prop),Q (.bool (g i j)) s→wpAny (model X.prog X.w) X.A (f (.int i t) (.int j u)) Q E s):
 fJ X f (Cd fun i j=>.bl (g i j)):=by
 intro pins s σ H x y v u Q I rx ry h;obtain⟨i,j,rfl,rfl,q⟩:=h
 obtain⟨t,rfl⟩:=rx
 obtain⟨t',rfl⟩:=ry
 exact rule i j t t' s _ _ ⟨.bl (g i j),H,I,rfl,q⟩
def JE(i j:Int):Prop:=0<j∧j<1073741824
def Ey(i j:Int):Prop:=(-(2^64)<i∧i<2^64)∨(-(2^64)<j∧j<2^64)
theorem Ey.ok{i j:Int}(h:Ey i j):IntMulOk i j:=by
 rcases h with⟨h1,h2⟩|⟨h1,h2⟩
 ·exact .of_left (intBits_le_64 h1 h2)
 ·exact .of_right (intBits_le_64 h1 h2)
theorem Ee:fJ X (binaryOp .Add) (Cd fun i j=>.int (i+j)):=Hn fun _ _ _ _ _ _ _ q=>add_int q
theorem CK:fJ X (binaryOp .Sub) (Cd fun i j=>.int (i-j)):=Hn fun _ _ _ _ _ _ _ q=>sub_int q
theorem DS:fJ X (binaryOp .Mult) (rI Ey fun i j=>.int (i*j)):=w8 fun _ _ _ _ _ _ _ hc q=>mul_int q hc.ok
theorem Bg:fJ X (binaryOp .FloorDiv) (rI JE fun i j=>.int (i/j)):=w8 fun i j _ _ _ _ _ hc q=>by
 have h1:(0:Int)<j:=hc.1
 have h2:j<1073741824:=hc.2
 exact floordiv_int (by omega) (by rw [Int.fdiv_eq_ediv_of_nonneg i (by omega)];exact q) (.inl (PyProof.noPylong_small (by omega)))
theorem B2:fJ X (binaryOp .Mod) (rI (fun _ j=>0<j) fun i j=>.int (i%j)):=w8 fun i j _ _ _ _ _ hc q=>by
 have h1:(0:Int)<j:=hc
 exact mod_int' (by omega) (by rw [Int.fmod_eq_emod_of_nonneg i (by omega)];exact q)
theorem Mi{f:Value→Sem Value}{g:Int→Int}
 (rule:∀(i:Int) (t:Tok) (s:Shared) (Q:Value→Shared→Prop) (E:Value→Shared→Prop),Q (.int (g i) s.toks) {s with toks:=s.toks+1}→wpAny (model X.prog X.w) X.A (f (.int i t)) Q E s):
 Ij X f (rU fun i=>.int (g i)):=by
 intro pins s σ H x v Q I rx h;obtain⟨i,rfl,q⟩:=h
 obtain⟨t,rfl⟩:=rx
 exact rule i t s _ _ ⟨.int (g i),H,I.tok _,⟨_,rfl⟩,q⟩
theorem DE:Ij X (unaryOp .USub) (rU fun i=>.int (-i)):=Mi fun _ _ _ _ _ q=>neg_int q
end
section
variable{X:Cx}{a b c:Expr}{ta tb tc:TE}{pos:Pos}
theorem DR{pins:List (Addr×Obj)}{σ:St}{H:Hp}{s:Shared}{Q:VK}{k k':Bool}(I:Inv X pins σ H s)(q:Q (.bl k) H)(e:k=k'):EP X pins σ Q (.bool k') s:=by
 subst e;exact⟨.bl k,H,I,rfl,q⟩
theorem FD:fJ X (compareOp .Lt) (Cd fun i j=>.bl (decide (i<j))):=Di fun _ _ _ _ _ _ _ q=>lt_int q
theorem FJ:fJ X (compareOp .LtE) (Cd fun i j=>.bl (decide (i≤j))):=Di fun _ _ _ _ _ _ _ q=>le_int q
theorem Hh:fJ X (compareOp .Gt) (Cd fun i j=>.bl (decide (j<i))):=Di fun _ _ _ _ _ _ _ q=>gt_int q
theorem zu:fJ X (compareOp .IsNot) (fun x y H Q=>y=.non∧Q (.bl (!decide (x=.non))) H):=by
 intro pins s σ H x y v u Q I rx ry h;obtain⟨rfl,q⟩:=h
 cases ry;refine isnot_none_gen (DR I q ?_);cases x<;>first
  |(cases rx;rfl)
  |(obtain⟨t,rfl⟩:=rx;rfl)
theorem IC(b:Expr){op:CmpOp}(h:op≠.In:=by decide)(h2:op≠.NotIn:=by decide):behindInMarks op b=false:=by
 have e1:(op==CmpOp.In)=false:=by cases op<;>first|rfl|exact absurd rfl h
 have e2:(op==CmpOp.NotIn)=false:=by cases op<;>first|rfl|exact absurd rfl h2
 cases b<;>simp [behindInMarks,e1,e2]
theorem A2{op:CmpOp}{r:R2}(ho:fJ X (compareOp op) r)(ha:PE X a ta)(hb:PE X b tb)(hm:behindInMarks op b=false):PE X (.Compare a [op] [b] pos) (Fg r ta tb):=by
 intro pins s σ H Q I h;exact wpAny_Compare1 (EM ha hb I h fun v u s2 x y H2 I2 rx ry q=>ho pins s2 σ H2 x y v u Q I2 rx ry q) hm
def xr(t:TE):TT:=fun σ H Q=>t σ H fun x H'=>∃k,x=.bl k∧Q k H'
theorem Bk{op:CmpOp}{r:R2}(ho:fJ X (compareOp op) r)(ha:PE X a ta)(hb:PE X b tb)(hm:behindInMarks op b=false):PT X (.Compare a [op] [b] pos) (xr (Fg r ta tb)):=by
 intro pins s σ H Q I h;refine wpAny_isTrue_Compare1 (bL (ha pins s σ H _ I h) fun v s1 ⟨x,H1,I1,r1,q1⟩=>bL (hb pins s1 σ H1 _ I1 q1) fun u s2 ⟨y,H2,I2,r2,q2⟩=>
  bL (ho pins s2 σ H2 x y v u _ I2 r1 r2 q2) fun c s3 ⟨z,H3,I3,r3,k,e,q3⟩=>?_) hm
 subst e;cases r3;exact wpAny_truthy_bool ⟨H3,I3,q3⟩
noncomputable def q8(r r':R2)(ta tb tc:TE):TE:=fun σ H Q=>ta σ H fun x H1=>tb σ H1 fun y H2=>r x y H2 fun z H3=>∃k,z=.bl k∧
 (if k=true then tc σ H3 fun w' H4=>r' y w' H4 Q else Q (.bl false) H3)
theorem w5{op DL:CmpOp}{r r':R2}(ho:fJ X (compareOp op) r)(gW:fJ X (compareOp DL) r')(ha:PE X a ta)(hb:PE X b tb)(hc:PE X c tc)
 (hm:lastMarks [op,DL] [b,c]=false:=by with_unfolding_all rfl):PE X (.Compare a [op,DL] [b,c] pos) (q8 r r' ta tb tc):=by
 intro pins s σ H Q I h;refine Compare_chain (bL (ha pins s σ H _ I h) fun v s1 ⟨x,H1,I1,r1,q1⟩=>chain_link (bL (hb pins s1 σ H1 _ I1 q1) fun u s2 ⟨y,H2,I2,r2,q2⟩=>
  bL (ho pins s2 σ H2 x y v u _ I2 r1 r2 q2) fun d s3 ⟨z,H3,I3,r3,k,e,q3⟩=>?_)) hm
 subst e;cases r3;refine wpAny_truthy_bool ?_;cases k with
 |false=>exact ite_ff ⟨.bl false,H3,I3,rfl,q3⟩
 |true=>exact ite_tt (chain_last (bL (hc pins s3 σ H3 _ I3 q3) fun w' s4 ⟨z',H4,I4,r4,q4⟩=>gW pins s4 σ H4 y z' u w' Q I4 r2 r4 q4))
theorem ya{op DL:CmpOp}{r r':R2}(ho:fJ X (compareOp op) r)(gW:fJ X (compareOp DL) r')(ha:PE X a ta)(hb:PE X b tb)(hc:PE X c tc)
 (hm:lastMarks [op,DL] [b,c]=false:=by with_unfolding_all rfl):PT X (.Compare a [op,DL] [b,c] pos) (xr (q8 r r' ta tb tc)):=by
 intro pins s σ H Q I h;refine isTrue_chain (bL (ha pins s σ H _ I h) fun v s1 ⟨x,H1,I1,r1,q1⟩=>test_link (bL (hb pins s1 σ H1 _ I1 q1) fun u s2 ⟨y,H2,I2,r2,q2⟩=>
  bL (ho pins s2 σ H2 x y v u _ I2 r1 r2 q2) fun d s3 ⟨z,H3,I3,r3,k,e,q3⟩=>?_)) hm
 subst e;cases r3;refine wpAny_truthy_bool ?_;cases k with
 |false=>
  obtain⟨k',e',q'⟩:=q3
  cases e';exact ite_ff ⟨H3,I3,q'⟩
 |true=>
  refine ite_tt (test_last (bL (hc pins s3 σ H3 _ I3 q3) fun w' s4 ⟨z',H4,I4,r4,q4⟩=>bL (gW pins s4 σ H4 y z' u w' _ I4 r2 r4 q4) fun d' s5 ⟨z2,H5,I5,r5,k2,e2,q5⟩=>?_))
  subst e2;cases r5;exact wpAny_truthy_bool ⟨H5,I5,q5⟩
theorem i5:(sizeLine:Nat)<2^63:=by rw [sizeLine_eq];decide
theorem q9:fJ X (binaryOp .Add) (fun x y H Q=>∃i j,x=.str i∧y=.str j∧i.length+j.length≤sizeLine∧Q (.str (i++j)) H):=by
 intro pins s σ H x y v u Q I rx ry h;obtain⟨i,j,rfl,rfl,hz,q⟩:=h
 obtain⟨t,rfl⟩:=rx
 obtain⟨t',rfl⟩:=ry
 exact add_str (fun t' tk=>⟨.str (i++j),H,I.tok _,⟨_,rfl⟩,q⟩) hz
theorem vals1{x:V}{us:List Value}(r:Vals [x] us):∃u,us=[u]∧RelV x u:=by
 cases r with
 |cons r1 r2=>cases r2;exact⟨_,rfl,r1⟩
theorem vals2{x y:V}{us:List Value}(r:Vals [x,y] us):∃u w',us=[u,w']∧RelV x u∧RelV y w':=by
 cases r with
 |cons r1 r2=>
  cases r2 with
  |cons r3 r4=>cases r4;exact⟨_,_,rfl,r1,r3⟩
theorem vD:cU X (.builtin "abs") (fun xs H Q=>∃i,xs=[.int i]∧Q (.int (if i<0 then -i else i)) H):=by
 intro pins s σ H xs us Q I r h;obtain⟨i,rfl,q⟩:=h
 obtain⟨u,rfl,t,rfl⟩:=vals1 r
 exact call_abs_int fun u tk=>⟨.int (if i<0 then -i else i),H,I.tok _,⟨_,rfl⟩,q⟩
theorem tO(hc:X.calm=true):cU X (.builtin "max") (fun xs H Q=>∃i j,xs=[.int i,.int j]∧Q (.int (if j>i then j else i)) H):=by
 intro pins s σ H xs us Q I r h;obtain⟨i,j,rfl,q⟩:=h
 obtain⟨u,w',rfl,⟨t,rfl⟩,⟨t',rfl⟩⟩:=vals2 r
 refine max_two_ints (I.ok.hd hc) fun h' tk k=>⟨_,H,I.kept k,?_,q⟩
 by_cases hj:j>i
 ·rw [if_pos hj,if_pos hj];exact⟨_,rfl⟩
 ·rw [if_neg hj,if_neg hj];exact⟨_,rfl⟩
theorem my:cU X (.type "str") (fun xs H Q=>∃i,xs=[.int i]∧i.natAbs.log2<1920∧Q (.str (toString i)) H):=by
 intro pins s σ H xs us Q I r h;obtain⟨i,rfl,hz,q⟩:=h
 obtain⟨u,rfl,t,rfl⟩:=vals1 r
 exact PySem.P.str_of_int hz ⟨.str _,H,I.tok _,⟨_,rfl⟩,q⟩
end
end L2
namespace L2
open PySem PySem.Spec PyProof.Rows
section
variable{prog:Program}{w:World}{A:Around}{E:Value→Shared→Prop}{s:Shared}{K:PySem.W.Frag}{x dx C f:Addr}{mA:Str→Option Value}{name:Str}{v:Value}
end
theorem iI.some_of{v:V}{o:Option Value}(r:iI (some v) o):∃u,o=some u∧RelV v u:=by
 cases o with
 |none=>exact(show False from r).elim
 |some u=>exact⟨u,rfl,r⟩
section
variable{P:Program}{w:World}{H H':Hp}{h h':Heap}{a C dx:Addr}{fs Ji:List (Str×V)}
end
section
variable{X:Cx}{pins:List (Addr×Obj)}{σ:St}{H:Hp}{s:Shared}{a C dx:Addr}{fs:List (Str×V)}{f:Str}{v:V}{A:Around}{E:Value→Shared→Prop}
end
section
variable{X:Cx}{o e value:Expr}{f:Str}{pos pos' nY:Pos}{ta tv:TE}
end
section
variable{X:Cx}{pins:List (Addr×Obj)}{σ:St}{H:Hp}{s:Shared}{A:Around}{E:Value→Shared→Prop}{Q:Value→Shared→Prop}{c:Value}{b:Bool}
end
end L2
namespace L2
open PySem PySem.Spec PyProof.Rows
structure dc(k:Nat)(A:Around):Prop where
 hd:A.handled=none
 dp:A.depth+3*k+5<recursionLimit
 un:A.units+16*k+200<cLine
theorem dc.mono{j k:Nat}{A:Around}(r:dc k A)(h:j≤k):dc j A:=⟨r.hd,by have:=r.dp;omega,by have:=r.un;omega⟩
theorem dc.deeper{k:Nat}{A:Around}(r:dc (k+1) A)(env:Env):dc k (A.deeper env):=
 ⟨r.hd,by have:=r.dp;show A.depth+1+3*k+5<_;omega,by have:=r.un;show A.units+3+16*k+200<_;omega⟩
theorem dc.in1{k:Nat}{A:Around}(r:dc (k+1) A):dc k A.in1:=
 ⟨r.hd,by have:=r.dp;show A.depth+3*k+5<_;omega,by have:=r.un;show A.units+1+16*k+200<_;omega⟩
theorem dc.depth{k:Nat}{A:Around}(r:dc k A):A.depth<recursionLimit:=by have:=r.dp;omega
theorem dc.units{k:Nat}{A:Around}(r:dc k A):A.units+64<cLine:=by have:=r.un;omega
def Jd:TA:=fun _ H Q=>Q [] H
def FT(ta:TE)(tr:TA):TA:=fun σ H Q=>ta σ H fun x H1=>tr σ H1 fun xs H2=>Q (x::xs) H2
section
variable{X:Cx}{e:Expr}{es:List Expr}{te:TE}{t:TA}{pos:Pos}
theorem dW:PA X [] Jd:=fun _ _ _ _ H Q I h=>Calls.spliced_nil ⟨[],H,I,.nil,h⟩
theorem cH(ha:PE X e te)(hr:PA X es t)(hs:starEach (e::es) X.env=(false,eval e X.env)::starEach es X.env:=by rfl):PA X (e::es) (FT te t):=by
 intro pos pins s σ H Q I h;rw [hs];show wpAny _ _ (spliced ((false,eval e X.env)::backTo pos (starEach es X.env))) _ _ s;refine Calls.spliced_cons (bL (ha pins s σ H _ I h) fun u s1 ⟨x,H1,I1,r1,q1⟩=>?_)
 exact bL (hr pos pins s1 σ H1 _ I1 q1) fun us s2 ⟨xs,H2,I2,r2,q2⟩=>⟨x::xs,H2,I2,.cons r1 r2,q2⟩
def Ka(t:TA):TE:=fun σ H Q=>t σ H fun xs H1=>xs.length≤sizeLine∧∀p,H1 p=none→Q (.ref p) (upd H1 p (.tup xs))
def Kb(t:TA):TE:=fun σ H Q=>t σ H fun xs H1=>xs.length≤sizeLine∧∀p,H1 p=none→Q (.ref p) (upd H1 p (.lst xs))
theorem DQ{x1}(h:PA X es t):PE X (.Tuple es x1 pos) (Ka t):=by
 intro pins s σ H Q I hq;refine wpAny_Tuple_spliced (bL (h pos pins s σ H _ I hq) fun us s1 ⟨xs,H1,I1,r,z,q⟩=>⟨by rw [←r.length];exact z,?_⟩)
 have hf:H1 s1.heap.objs.size=none:=I1.hok.fresh (Nat.le_refl _)
 refine⟨.ref s1.heap.objs.size,upd H1 s1.heap.objs.size (.tup xs),I1.laid (t':=s1.toks) (fun b u e=>Heap.get?_push_of_some _ e) (Nat.le_refl _) ?_,rfl,q _ hf⟩;exact⟨z,us,r,⟨_,Heap.get?_push_size _ rfl,rfl,_,rfl⟩⟩
theorem CT(h:PA X es t):PE X (.List es pos) (Kb t):=by
 intro pins s σ H Q I hq;refine wpAny_List_spliced (bL (h pos pins s σ H _ I hq) fun us s1 ⟨xs,H1,I1,r,z,q⟩=>⟨by rw [←r.length];exact z,?_⟩)
 have hf:H1 s1.heap.objs.size=none:=I1.hok.fresh (Nat.le_refl _)
 refine⟨.ref s1.heap.objs.size,upd H1 s1.heap.objs.size (.lst xs),I1.laid (t':=s1.toks) (fun b u e=>Heap.get?_push_of_some _ e) (Nat.le_refl _) ?_,rfl,q _ hf⟩;exact⟨z,us,0,r,Heap.get?_push_size _ rfl⟩
end
abbrev Sp:=List V→Hp→VK→XK→Prop
abbrev qm:=List Env→Hp→Shared→XK→Value→Shared→Prop
structure gv(P:Program)(w:World)(K:PySem.W.Frag)(mg:Str→Option Value)(base:Heap)(A:Around)(outer:List Env)(s:Shared)(H:Hp):Prop where
 frames:A.frames=some outer
 mod:Mod K mg base
 bs:∀b o,base.get? b=some o→s.heap.get? b=some o∧H b=none
 bsz:base.objs.size≤s.heap.objs.size
 funs:s.heap.FunFrames base outer
 frf:∀b∈dQ outer,H b=none
 hok:dG P w H s.heap
 bare:AllBare s.gens
def CE(outer:List Env)(P:Program)(w:World)(H:Hp)(s:Shared)(Q:VK)(u:Value)(s':Shared):Prop:=
 ∃v H',s'.os=s.os∧AllBare s'.gens∧Un (dQ outer) [] H H' s.heap s'.heap∧dG P w H' s'.heap∧RelV v u∧Q v H'
def CR(CX:qm)(outer:List Env)(P:Program)(w:World)(H:Hp)(s:Shared)(Q:VK)(E:XK)(r:Result)(s':Shared):Prop:=
 match r with
 |.ok (.ret u)=>CE outer P w H s Q u s'
 |.ok _=>False
 |.error e=>CX outer H s E e s'
structure eW(P:Program)(w:World)(K:PySem.W.Frag)(mg:Str→Option Value)(base:Heap)(CX:qm)(k:Nat)(f:Addr)(fd:FuncData)(ps:List Str)(sp:Sp):Prop where
 len:∀vs H Q E,sp vs H Q E→vs.length=ps.length
 run:∀(A:Around) (outer:List Env) (s:Shared) (H:Hp) (args:Args) (us:List Value) (vs:List V) (Q:VK) (E:XK),dc k A→gv P w K mg base A outer s H→BindsTo s fd args (ps.zip us)→Vals vs us→sp vs H Q E→
  codeAny (model P w) A (.call (.ref f) args) (CR CX outer P w H s Q E) s
theorem eW.mono{P:Program}{w:World}{K:PySem.W.Frag}{mg:Str→Option Value}{base:Heap}{CX:qm}{j k:Nat}{f:Addr}{fd:FuncData}{ps:List Str}{sp:Sp}(F:eW P w K mg base CX j f fd ps sp)(h:j≤k):
 eW P w K mg base CX k f fd ps sp:=⟨F.len,fun A outer s H args us vs Q E hr=>F.run A outer s H args us vs Q E (hr.mono h)⟩
theorem eW.imp{P:Program}{w:World}{K:PySem.W.Frag}{mg:Str→Option Value}{base:Heap}{CX:qm}{k:Nat}{f:Addr}{fd:FuncData}{ps:List Str}{sp K8:Sp}(F:eW P w K mg base CX k f fd ps sp)
 (h:∀vs H Q E,K8 vs H Q E→sp vs H Q E):eW P w K mg base CX k f fd ps K8:=
 ⟨fun vs H Q E q=>F.len vs H Q E (h _ _ _ _ q),fun A outer s H args us vs Q E hr he hb hv hs=>F.run A outer s H args us vs Q E hr he hb hv (h _ _ _ _ hs)⟩
theorem gv.in1{P:Program}{w:World}{K:PySem.W.Frag}{mg:Str→Option Value}{base:Heap}{A:Around}{outer:List Env}{s:Shared}{H:Hp}(e:gv P w K mg base A outer s H):
 gv P w K mg base A.in1 outer s H:=⟨e.frames,e.mod,e.bs,e.bsz,e.funs,e.frf,e.hok,e.bare⟩
section
variable{X:Cx}{pins:List (Addr×Obj)}{σ:St}{H:Hp}{s s':Shared}
theorem Inv.env0(I:Inv X pins σ H s):gv X.prog X.w X.K X.mg X.base X.A X.stack s H:=
 ⟨I.ok.frames,I.ok.mod,I.bs,Nat.le_trans I.ok.bsz I.sz,I.stack,I.stkFree,I.hok,I.bare⟩
theorem Inv.after{Q:VK}{u:Value}(I:Inv X pins σ H s)(h:CE X.stack X.prog X.w H s Q u s'):EP X pins σ Q u s':=by
 obtain⟨v,H',os,bare,un,hok,r,q⟩:=h
 obtain⟨hh,g,d,t,os'⟩:=s'
 obtain rfl:os'=s.os:=os
 exact⟨v,H',I.call (h':=hh) (g':=g) (d':=d) (t':=t) (ch:=[]) un hok bare (fun b z=>absurd z (by simp)),r,q⟩
end
def Binds(K:PySem.W.Frag)(fd:FuncData)(ps:List Str)(ds:List Value):Prop:=
 ∀(s:Shared) (us:List Value),K.In s.heap→(us++ds).length=ps.length→BindsTo s fd ⟨us,[]⟩ (ps.zip (us++ds))
theorem Binds.all{K:PySem.W.Frag}{fd:FuncData}{ps:List Str}(h:∀us:List Value,us.length=ps.length→bindArgs fd ⟨us,[]⟩=pure (ps.zip us)):Binds K fd ps []:=fun s us _ hl=>by
 rw [List.append_nil] at hl⊢;exact .of_eq (h us hl)
def Passes(CX:qm)(X:Cx)(E:XK):Prop:=∀(pins:List (Addr×Obj)) (σ:St) (H:Hp) (s:Shared) (e:Value) (s':Shared),Inv X pins σ H s→CX X.stack H s E e s'→X.xe e s'
section
variable{X:Cx}{CX:qm}{k:Nat}{f C:Addr}{fd:FuncData}{ps:List Str}{sp:Sp}{Ml:List V}{ds:List Value}{E:XK}{x m:Str}{p pos apos:Pos}{e o:Expr}{es:List Expr}{ta:TE}{t:TA}
end
section
variable{X:Cx}{CX:qm}{k:Nat}{f C:Addr}{fd:FuncData}{ps ks:List Str}{sp:Sp}{E:XK}{x m:Str}{p pos apos Ky:Pos}{e o:Expr}{es:List Expr}{kQ:List Keyword}{te ta:TE}{t tk:TA}{nm:Option Str}
variable{g:List Value→List Value→List Value}{gV:List V→List V→List V}
end
structure iS(N P:List Str)(sc:Scope):Prop where
 kind:sc.kind=.function
 co:sc.isCoroutine=false
 gen:sc.isGenerator=false
 nd:N.Nodup
 pre:N.take P.length=P
 par:∀x∈P,sc.names.lookup x=some .local∨sc.names.lookup x=some .cell
 nofree:∀y∈sc.names,y.2≠.free
theorem lF{kindOf:Str→Option NameKind}{x:Str}:∀{binds:List (Str×Value)} {m:Str→Option Value},(∀v,(x,v)∉binds)→bindL kindOf binds m x=m x
 |[],_,_=>rfl
 |(n,v)::r,m,h=>by
  unfold bindL;rw [lF fun w hw=>h w (List.mem_cons_of_mem _ hw)]
  split
  ·have:x≠n:=by rintro rfl;exact h v List.mem_cons_self
   simp [this]
  ·rfl
theorem mq{kindOf:Str→Option NameKind}{x:Str}:∀{binds:List (Str×Value)} {m:Str→Option Value},(∀v,(x,v)∉binds)→bindC kindOf binds m x=m x
 |[],_,_=>rfl
 |(n,v)::r,m,h=>by
  unfold bindC;rw [mq fun w hw=>h w (List.mem_cons_of_mem _ hw)]
  split
  ·rfl
  ·have:x≠n:=by rintro rfl;exact h v List.mem_cons_self
   simp [this]
theorem lE{kindOf:Str→Option NameKind}{x:Str}{v:Value}:∀{P:List Str} {vs:List Value} {i:Nat} {m:Str→Option Value},P.Nodup→P[i]?=some x→vs[i]?=some v→kindOf x=some .local→
 bindL kindOf (P.zip vs) m x=some v
 |[],_,_,_,_,h,_,_=>by simp at h
 |_::_,[],_,_,_,_,h,_=>by simp at h
 |p::P,w::vs,0,m,nd,h1,h2,hk=>by
  simp at h1 h2;subst h1;subst h2;show bindL kindOf ((p,w)::P.zip vs) m p=_
  unfold bindL;rw [lF fun v hv=>(List.nodup_cons.mp nd).1 (List.of_mem_zip hv).1,if_pos hk]
  simp
 |p::P,w::vs,i+1,m,nd,h1,h2,hk=>by
  show bindL kindOf ((p,w)::P.zip vs) m x=_
  unfold bindL;exact lE (i:=i) (List.nodup_cons.mp nd).2 (by simpa using h1) (by simpa using h2) hk
theorem lj{kindOf:Str→Option NameKind}{x:Str}{v:Value}:∀{P:List Str} {vs:List Value} {i:Nat} {m:Str→Option Value},P.Nodup→P[i]?=some x→vs[i]?=some v→kindOf x≠some .local→
 bindC kindOf (P.zip vs) m x=some v
 |[],_,_,_,_,h,_,_=>by simp at h
 |_::_,[],_,_,_,_,h,_=>by simp at h
 |p::P,w::vs,0,m,nd,h1,h2,hk=>by
  simp at h1 h2;subst h1;subst h2;show bindC kindOf ((p,w)::P.zip vs) m p=_
  unfold bindC;rw [mq fun v hv=>(List.nodup_cons.mp nd).1 (List.of_mem_zip hv).1,if_neg hk]
  simp
 |p::P,w::vs,i+1,m,nd,h1,h2,hk=>by
  show bindC kindOf ((p,w)::P.zip vs) m x=_
  unfold bindC;exact lj (i:=i) (List.nodup_cons.mp nd).2 (by simpa using h1) (by simpa using h2) hk
def start(N:List Str)(vs:List V):St:=vs.map some++List.replicate (N.length-vs.length) none
noncomputable def dh(CX:qm)(P:Program)(w:World)(K:PySem.W.Frag)(mg:Str→Option Value)(base:Heap)(N:List Str)(qual:Str)(scope:Scope)(f:Addr)(cd:Value)(A:Around)(outer:List Env)(s:Shared)(H:Hp)(E:XK):Cx where
 prog:=P
 w:=w
 K:=K
 mg:=mg
 base:=base
 A:=A.deeper (envOfC qual scope s.heap.objs.size f cd)
 N:=N
 s₀:=s
 H₀:=H
 env:=envOfC qual scope s.heap.objs.size f cd
 outer:=outer
 stack:=envOfC qual scope s.heap.objs.size f cd::outer
 ex:=[]
 calm:=true
 fn:=fun _=>true
 pn:=[]
 xe:=fun e s'=>wpAny (model P w) (A.deeper (envOfC qual scope s.heap.objs.size f cd)) (leaving (envOfC qual scope s.heap.objs.size f cd) e) (fun _ A7=>CX outer H s E e A7) (fun e' A7=>CX outer H s E e' A7) s'
theorem oW{sc:Scope}{n:Nat}{x:Str}(h:sc.names.lookup x=some .cell):∃c,(cellsFrom n sc.names []).lookup x=some c:=by
 have q:=PySem.W.cellsFrom_some sc.names n [] (.inl h)
 exact Option.isSome_iff_exists.mp q
theorem uG{CX:qm}{P:Program}{w:World}{K:PySem.W.Frag}{mg:Str→Option Value}{base:Heap}{N ps:List Str}{qual:Str}{scope:Scope}{f:Addr}{cd:Value}{A:Around}{outer:List Env}{s s1:Shared}{H:Hp}{E:XK}{us:List Value}{vs:List V}
 (S:iS N ps scope) (hd:A.handled=none) (e0:gv P w K mg base A outer s H) (hl:vs.length=ps.length) (r:Vals vs us)
 (x:InCallC s s.heap.objs.size (bindL (envOfC qual scope s.heap.objs.size f cd).kindOf (ps.zip us) fun _=>none) (cellsFrom (s.heap.objs.size+1) scope.names []) (bindC (envOfC qual scope s.heap.objs.size f cd).kindOf (ps.zip us) fun _=>none) s1):
 Inv (dh CX P w K mg base N qual scope f cd A outer s H E) [] (start N vs) H s1:=by
 have hpl:ps.length≤N.length:=by have:=congrArg List.length S.pre;rw [List.length_take] at this;omega
 obtain⟨h1,tk,rfl,hk⟩:=x.done
 have ze:∀b:Addr,b∉(dh CX P w K mg base N qual scope f cd A outer s H E).ex:=fun b z=>absurd (show b∈([]:List Addr) from z) (by simp)
 refine⟨⟨e0.mod,S.kind,rfl,rfl,Nat.le_refl _,fun y z c h1 h2=>?_,fun y hy=>?_,fun y c _ h=>?_,fun _=>hd,Around.frames_deeper e0.frames,.inr ⟨rfl,rfl⟩,fun b z=>absurd z (ze b),e0.bs,e0.bsz,fun b _ _=>ze b,fun b z=>absurd z (ze b),e0.funs,e0.frf⟩,
  rfl,e0.bare,Un.kept hk,⟨_,x.toInCall.ns,fun i y v h1 h2 h3=>?_⟩,fun y c h=>⟨_,x.cell y c h⟩,e0.hok.fresh (Nat.le_refl _),fun y c h=>?_,fun p hp=>absurd (show p∈([]:List (Addr×Obj)) from hp) (by simp),e0.hok.kept hk,?_⟩
 ·exact name_of_addr x.apart (PySem.mem_of_lookup h1) (PySem.mem_of_lookup h2)
 ·have hy:scope.names.lookup y=some .cell∨scope.names.lookup y=some .free:=hy
  rcases hy with hy|hy
  ·exact oW hy
  ·exact absurd rfl (S.nofree _ (PySem.mem_of_lookup hy))
 ·exact Nat.le_of_lt (x.above y c (PySem.mem_of_lookup h))
 ·have hi:i<vs.length:=by
   unfold start at h2
   by_cases hi:i<vs.length
   ·exact hi
   ·rw [List.getElem?_append_right (by simpa using hi)] at h2;rw [List.getElem?_replicate] at h2;split at h2<;>cases h2
  have ha:vs[i]?=some v:=by
   unfold start at h2;rw [List.getElem?_append_left (by simpa using hi),List.getElem?_map] at h2;cases e:vs[i]? with
   |none=>rw [e] at h2;cases h2
   |some a=>rw [e] at h2;cases h2;rfl
  obtain⟨u,hu,rv⟩:=r.get ha
  have hp:ps[i]?=some y:=by
   rw [←S.pre,List.getElem?_take_of_lt (by omega)];exact h1
  have Lw:ps.Nodup:=by rw [←S.pre];exact S.nd.sublist (List.take_sublist _ _)
  refine⟨u,rv,?_⟩;rcases S.par y (List.mem_of_getElem? hp) with k|k
  ·exact .inl ⟨k,lE Lw hp hu k⟩
  ·obtain⟨c,e⟩:=oW (n:=s.heap.objs.size+1) k
   refine .inr ⟨.inl k,c,e,?_⟩;have q:=x.cell y c e
   rw [lj Lw hp hu (by show scope.names.lookup y≠_;rw [k];decide)] at q;exact q
 ·exact e0.hok.fresh (Nat.le_of_lt (x.above y c (PySem.mem_of_lookup h)))
 ·unfold start;show _=N.length
  rw [List.length_append,List.length_map,List.length_replicate];omega
theorem HG{CX:qm}{P:Program}{w:World}{K:PySem.W.Frag}{mg:Str→Option Value}{base:Heap}{k:Nat}{f:Addr}{name qual:Str}{params:Arguments}{body:List Stmt}{scope:Scope}{dV kV doc pm eA ct oc:Value}{an od:Option Addr}
 {qw:Array (Option Value)} {N ps:List Str} {sp:Sp} (lk:K.lookup f=some ⟨oc,od,.func (PySem.W.fnOf name qual params body scope dV kV doc pm an eA ct),qw⟩) (qq:PySem.W.codeIn K eA qual=true) (S:iS N ps scope)
 (len:∀vs H Q E,sp vs H Q E→vs.length=ps.length)
 (GV:∀(A:Around) (outer:List Env) (s:Shared) (H:Hp) (vs:List V) (Q:VK) (E:XK),dc k (A.deeper (envOfC qual scope s.heap.objs.size f eA))→sp vs H Q E→
  ∃t,PSs (dh CX P w K mg base N qual scope f eA A outer s H E) body t∧t {nx:=fun _ H'=>Q .non H',rt:=Q} (start N vs) H):
 eW P w K mg base CX (k+1) f (PySem.W.fnOf name qual params body scope dV kV doc pm an eA ct) ps sp:=by
 refine⟨len,fun A outer s H args us vs Q E hr e0 hb r BH=>?_⟩
 have hl:=len _ _ _ _ BH
 have KX:K.In s.heap:=e0.mod.kin.keeps fun b o e=>(e0.bs b o e).1
 have lim:s.heap.NoLimit:=e0.mod.nolimit.keeps fun b o e=>(e0.bs b o e).1
 have Ga:∀y∈ps.zip us,scope.names.lookup y.1=some .local∨(scope.names.lookup y.1=some .cell∧((cellsFrom (s.heap.objs.size+1) scope.names []).lookup y.1).isSome=true):=fun⟨n,v⟩ hy=>by
  rcases S.par n (List.of_mem_zip hy).1 with q|q
  ·exact .inl q
  ·exact .inr ⟨q,PySem.W.cellsFrom_some _ _ _ (.inl q)⟩
 refine codeAny_call_function hr.depth (KX _ _ lk) rfl S.co S.gen rfl (PySem.W.codeRec_of KX qq) (hb _ _ _ _ ?_);refine wpAny_newFunctionEnv_cells S.kind Ga fun env he s1 x=>?_
 subst he;refine⟨lim.keeps x.toInCall.keep,codeAny_func ?_⟩;obtain⟨t,ht,hq⟩:=GV A outer s H vs Q E (hr.deeper _) BH
 have I:Inv (dh CX P w K mg base N qual scope f eA A outer s H E) [] (start N vs) H s1:=uG S hr.hd e0 hl r x
 refine wpAny_mono (ht [] s1 (start N vs) H _ I hq) (fun fl s' hs=>?_) fun e s' hs=>hs
 have fin:∀{σ':St} {H':Hp} {v:V} {u:Value},Inv (dh CX P w K mg base N qual scope f eA A outer s H E) [] σ' H' s'→RelV v u→Q v H'→CE outer P w H s Q u s':=
  fun{σ' H' v u} J rv q=>⟨v,H',J.os,J.bare,J.base,J.hok,rv,q⟩
 cases fl with
 |ret u=>
  obtain⟨v,σ',H',J,rv,q⟩:=hs
  exact fin J rv q
 |next=>
  obtain⟨σ',H',J,q⟩:=hs
  exact fin (v:=V.non) (u:=Value.none) J rfl q
 |brk=>
  obtain⟨_,_,_,q⟩:=hs
  exact False.elim q
 |cont=>
  obtain⟨_,_,_,q⟩:=hs
  exact False.elim q
end L2
namespace L2
open PySem PySem.Spec PyProof.Rows
section
variable{X:Cx}{x:Str}{p pos:Pos}{e:Expr}{es:List Expr}{t:TA}{id T:String}{r:List V→Hp→VK→Prop}
def Ir(r:List V→Hp→VK→Prop)(t:TA):TE:=fun σ H Q=>t σ H fun vs H1=>r vs H1 Q
theorem fg(hc:cU X (.builtin id) r)(hg:Gl X x)(hm:X.mg x=none)(hv:bootBuiltins x=some (.builtin id))(ha:PA X (e::es) t)(hn:x≠"__name__":=by decide)(GO:(x==("__debug__":Str))=false:=by decide)
 (he:starEach (e::es) X.env=(false,eval e X.env)::starEach es X.env:=by rfl) (hpl:(backTo pos (starEach es X.env)).any (·.1)=false:=by rfl):PE X (.Call (.Name x p) (e::es) [] pos) (Ir r t):=by
 intro pins s σ H Q I h;refine wpAny_Call_Name_kw (e9 I hg hm hv ?_ hn GO);exact PyProof.Rows.callWith_builtin1 (bL (ha pos pins s σ H _ I h) fun us s1 ⟨vs,H1,I1,r1,q1⟩=>hc pins s1 σ H1 vs us Q I1 r1 q1) he hpl
theorem hX(hc:cU X (.type T) r)(hg:Gl X x)(hm:X.mg x=none)(hv:bootBuiltins x=some (.type T))(ha:PA X (e::es) t)(hn:x≠"__name__":=by decide)(GO:(x==("__debug__":Str))=false:=by decide)
 (he:starEach (e::es) X.env=(false,eval e X.env)::starEach es X.env:=by rfl) (hpl:(backTo pos (starEach es X.env)).any (·.1)=false:=by rfl):PE X (.Call (.Name x p) (e::es) [] pos) (Ir r t):=by
 intro pins s σ H Q I h;refine wpAny_Call_Name_kw (e9 I hg hm hv ?_ hn GO);exact PyProof.Rows.callWith_type1 (bL (ha pos pins s σ H _ I h) fun us s1 ⟨vs,H1,I1,r1,q1⟩=>hc pins s1 σ H1 vs us Q I1 r1 q1) he hpl
end
end L2
namespace HT
open PySem PyProof.Rows
def lexLt:List Int→List Int→Bool
 |[],[]=>false
 |[],_::_=>true
 |_::_,[]=>false
 |x::xs,y::ys=>if x=y then lexLt xs ys else decide (x<y)
theorem lexLt_cons(x y:Int)(xs ys:List Int):lexLt (x::xs) (y::ys)=if x=y then lexLt xs ys else decide (x<y):=rfl
theorem lexLt_nil_nil:lexLt [] []=false:=rfl
section
open PySem.SeqAt
open PySem.AutoSeq1 (wpAny_loadPart')
open PySem.MeetsSeq PySem.MeetsSeq2 PySem.MeetsSeq3
end
section
variable{prog:Program}{w:World}{A:Around}{E:Value→Shared→Prop}{s:Shared}
theorem cat_tup{t b:Addr}{vs ws:List Value}{Q:Value→Shared→Prop}(ht:IsTup s.heap t vs.toArray)(hb:IsTup s.heap b ws.toArray)(hv:vs≠[])
 (h1:ws=[]→Q (.ref t) s) (h2:ws≠[]→Q (.ref s.heap.objs.size) {s with heap:=s.heap.push {cls:=.type "tuple",data:=.seq (vs++ws).toArray}})
 (hsz:vs.length+ws.length≤sizeLine):wpAny (model prog w) A (binaryOp .Add (.ref t) (.ref b)) Q E s:=by
 obtain⟨⟨cls,dd,data,sl⟩,ho,hc,n,hd⟩:=id ht
 obtain⟨⟨cls2,dd2,data2,sl2⟩,vz,hc2,n2,hd2⟩:=id hb
 simp only at hc hd hc2 hd2;subst hc hd hc2 hd2;have e:vs.toArray++ws.toArray=(vs++ws).toArray:=by simp
 by_cases hw:ws=[]
 ·exact concat_meets ⟨_,ho,rfl⟩ ⟨_,vz,rfl⟩ noFill_tuple_add seq_tuple_add PySem.F.slot_tuple_add PySem.F.entry_tuple_add (PySem.F.args_tuple_add_2 _ _)
   (tuple_addW1 t b vs.toArray ws.toArray n n2 dd dd2 sl sl2 (by simpa using hv) (by simp [hw])) ⟨ho,vz,h1 hw⟩
 ·refine concat_meets ⟨_,ho,rfl⟩ ⟨_,vz,rfl⟩ noFill_tuple_add seq_tuple_add PySem.F.slot_tuple_add PySem.F.entry_tuple_add (PySem.F.args_tuple_add_2 _ _)
   (tuple_addW2 t b vs.toArray ws.toArray n n2 dd dd2 sl sl2 (by simpa using hv) (by simpa using hw) (by rw [List.size_toArray,List.size_toArray];exact hsz)) ⟨ho,vz,?_⟩
  rw [e];exact h2 hw
def sIx(n d:Nat):Option Int→Nat
 |none=>d
 |some v=>if v<0 then(v+(n:Int)).toNat else min v.toNat n
theorem sIx_none(n d:Nat):sIx n d none=d:=rfl
theorem sIx_nat(n d k:Nat):sIx n d (some (k:Int))=min k n:=by
 show(if(k:Int)<0 then((k:Int)+(n:Int)).toNat else min (k:Int).toNat n)=min k n
 rw [if_neg (by omega),Int.toNat_natCast]
theorem Cs(n d:Nat)(hd:d≤n)(o:Option Int):sIx n d o≤n:=by
 cases o with
 |none=>exact hd
 |some v=>
  show(if v<0 then(v+(n:Int)).toNat else min v.toNat n)≤n
  by_cases hv:v<0
  ·rw [if_pos hv];omega
  ·rw [if_neg hv];exact Nat.min_le_right _ _
theorem rK(v:Int)(n d:Nat):(if v<0 then max (v+(n:Int)) 0 else min v (n:Int))=((sIx n d (some v):Nat):Int):=by
 show(if v<0 then max (v+(n:Int)) 0 else min v (n:Int))=(((if v<0 then(v+(n:Int)).toNat else min v.toNat n):Nat):Int)
 by_cases hv:v<0
 ·simp only [if_pos hv];omega
 ·simp only [if_neg hv];omega
theorem qr(lo hi:Option Int)(n:Nat):Builtin.Slice.sliceAdjust lo hi 1 (n:Int)=(((sIx n 0 lo:Nat):Int),((sIx n n hi:Nat):Int)):=by
 have h1:¬((1:Int)<0):=by omega
 unfold Builtin.Slice.sliceAdjust;simp only [h1,if_false];refine Prod.ext ?_ ?_
 ·cases lo with
  |none=>rfl
  |some v=>exact rK v n 0
 ·cases hi with
  |none=>rfl
  |some v=>exact rK v n n
theorem qJ(i j:Nat):Builtin.Slice.slicePlaces (i:Int) (j:Int) 1=j-i:=by
 unfold Builtin.Slice.slicePlaces;have h1:(1:Int)>0:=by omega
 simp only [h1,if_true,Int.ediv_one];split<;>omega
theorem ju{v:Value}{o:Option Int}{Q:Option Int→Shared→Prop}(p:IsPart v o)(h:Q o s):wpAny (model prog w) A (Builtin.Slice.slicePartIndex v) Q E s:=by
 cases p with
 |none=>exact slicePart_none h
 |int i t=>exact slicePart_int h
theorem hJ{sl:Addr}{vl vu:Value}{lo hi:Option Int}{n:Nat}{Q:Int×Int×Nat→Shared→Prop}(hs:s.heap.IsSliceOf sl vl vu .none)(pl:IsPart vl lo)(pu:IsPart vu hi)
 (h:Q (((sIx n 0 lo:Nat):Int),1,sIx n n hi-sIx n 0 lo) s):wpAny (model prog w) A (Builtin.Slice.sliceApplied (.ref sl) (pure (n:Int))) Q E s:=by
 obtain⟨os,hos,hcs,hds⟩:=id hs
 unfold Builtin.Slice.sliceApplied Builtin.Slice.sliceFields;refine wpAny_bind (wpAny_bind (wpAny_field hos hds (x:=vl) rfl (wpAny_bind (wpAny_field hos hds (x:=vu) rfl (wpAny_bind (wpAny_field hos hds (x:=.none) rfl (wpAny_pure ?_)))))));refine wpAny_bind (slicePart_none ?_);show wpAny _ _ (if((1:Int)==0)=true then _ else _) _ _ s;rw [if_neg (by decide)];refine wpAny_bind (ju pl (wpAny_bind (ju pu (wpAny_bind (wpAny_pure ?_)))));show wpAny _ _ (match Builtin.Slice.sliceAdjust lo hi 1 (n:Int) with|(lo,hi)=>pure (lo,(1:Int),Builtin.Slice.slicePlaces lo hi 1)) _ _ s
 rw [qr lo hi n];show wpAny _ _ (pure (((sIx n 0 lo:Nat):Int),(1:Int),Builtin.Slice.slicePlaces ((sIx n 0 lo:Nat):Int) ((sIx n n hi:Nat):Int) 1)) _ _ s;rw [qJ];exact wpAny_pure h
theorem xf(xs:Array Value)(i k:Nat):((List.range k).filterMap fun(m:Nat)=>xs[((i:Int)+(m:Int)*1).toNat]?).toArray=((xs.toList.drop i).take k).toArray:=by
 have e:(fun(m:Nat)=>xs[((i:Int)+(m:Int)*1).toNat]?)=fun m=>xs[i+m]?:=by
  funext m
  have:((i:Int)+(m:Int)*1).toNat=i+m:=by omega
  rw [this]
 rw [e];have:=pick_run xs i k
 rw [List.filterMap_map] at this;have e2:((fun x=>xs[x]?)∘fun x=>i+x)=fun m=>xs[i+m]?:=rfl
 rw [e2] at this;rw [this]
theorem getItem_tuple_cut{t sl:Addr}{items:Array Value}{vl vu:Value}{lo hi:Option Int}{Q:Value→Shared→Prop}(ht:IsTup s.heap t items)(hs:s.heap.IsSliceOf sl vl vu .none)(pl:IsPart vl lo)(pu:IsPart vu hi)
 (hw:¬(sIx items.size 0 lo=0∧sIx items.size items.size hi=items.size))
 (h:Q (.ref s.heap.objs.size) {s with heap:=s.heap.push {cls:=.type "tuple",data:=.seq ((items.toList.drop (sIx items.size 0 lo)).take (sIx items.size items.size hi-sIx items.size 0 lo)).toArray}})
 (hsz:items.size≤sizeLine):wpAny (model prog w) A (getItem (.ref t) (.ref sl)) Q E s:=by
 have rV:sizeOk (.seq ((items.toList.drop (sIx items.size 0 lo)).take (sIx items.size items.size hi-sIx items.size 0 lo)).toArray):=by
  show((items.toList.drop (sIx items.size 0 lo)).take (sIx items.size items.size hi-sIx items.size 0 lo)).toArray.size≤sizeLine
  rw [List.size_toArray,List.length_take,List.length_drop,Array.length_toList];omega
 have hj:sIx items.size items.size hi≤items.size:=Cs _ _ (Nat.le_refl _) hi
 obtain⟨os,hos,hcs,hds⟩:=id hs
 have MN:s.TypeIs (.ref sl) "slice":=⟨os,hos,hcs⟩
 unfold getItem
 try with_reducible refine wpAny_holding ?_
 first|refine wpAny_bind (wpAny_pure ?_)|skip
 refine wpAny_bind (wpAny_sequenceKey ht.typeIs (by decide) ?_);refine wpAny_bind (wpAny_callSpecial?_slot (name:=Str.ofString "__getitem__") ht.typeIs PyProof.Rows.slot_tuple_getitem
  (wpAny_call_entry PyProof.Rows.slot_tuple_getitem ht.typeIs entry_tuple_getitem ?_ (args_tuple_getitem _ _)))
 show wpAny _ _ (Builtin.Tuple.tupleItemsOf (.ref t)>>=_) _ _ s
 refine wpAny_bind (tupleItemsOf_ ht ?_);refine wpAny_bind (wpAny_typeOf MN ?_);rw [if_pos (by decide)];refine wpAny_bind (hJ hs pl pu ?_);have L5:¬((((sIx items.size 0 lo:Nat):Int)==0&&(1:Int)==1&&(sIx items.size items.size hi-sIx items.size 0 lo)==items.size)=true):=by
  intro q;rw [Bool.and_eq_true,Bool.and_eq_true] at q;have q1:((sIx items.size 0 lo:Nat):Int)=0:=eq_of_beq q.1.1
  have q2:sIx items.size items.size hi-sIx items.size 0 lo=items.size:=eq_of_beq q.2
  exact hw ⟨by omega,by omega⟩
 show wpAny _ _ (if(((sIx items.size 0 lo:Nat):Int)==0&&(1:Int)==1&&(sIx items.size items.size hi-sIx items.size 0 lo)==items.size)=true then _ else _) _ _ s
 rw [if_neg L5,xf]
 first
  |exact wpAny_bind (m:=Builtin.Tuple.tupleExact _) (wpAny_newObj_type (wpAny_pure ⟨_,rfl,wpAny_pure h⟩) rV)
  |exact wpAny_bind (m:=Builtin.Tuple.tupleExact _) (wpAny_newObj_type (wpAny_bind (wpAny_pure (wpAny_pure ⟨_,rfl,wpAny_pure h⟩))) rV)
  |exact wpAny_bind (wpAny_bind (m:=Builtin.Tuple.tupleExact _) (wpAny_newObj_type (wpAny_pure (wpAny_pure ⟨_,rfl,wpAny_pure h⟩)) rV))
  |exact wpAny_bind (wpAny_bind (m:=Builtin.Tuple.tupleExact _) (wpAny_newObj_type (wpAny_pure ⟨_,rfl,wpAny_pure h⟩) rV))
end
end HT
namespace L2
open PySem PySem.Spec PyProof.Rows
abbrev TO:=St→Hp→(Option Int→Hp→Prop)→Prop
def PO(X:Cx)(e:Option Expr)(t:TO):Prop:=
 ∀(pins:List (Addr×Obj)) (s:Shared) (σ:St) (H:Hp) (Q:Option Int→Hp→Prop),Inv X pins σ H s→t σ H Q→
  wpAny (model X.prog X.w) X.A (evalPart e X.env) (fun u s'=>∃o H',Inv X pins σ H' s'∧IsPart u o∧Q o H') X.xe s
def AV:TO:=fun _ H Q=>Q none H
def Gh(t:TE):TO:=fun σ H Q=>t σ H fun x H1=>∃i,x=.int i∧Q (some i) H1
section
variable{X:Cx}{e:Expr}{te:TE}{lo hi:Option Expr}{tl th:TO}{pos p2:Pos}
theorem Aj:PO X none AV:=by
 intro pins s σ H Q I h;rw [evalPart_none];exact wpAny_pure ⟨none,H,I,.none,h⟩
theorem Bc(h:PE X e te):PO X (some e) (Gh te):=by
 intro pins s σ H Q I hw;rw [evalPart_some];refine bL (h pins s σ H _ I hw) fun u s1 ⟨x,H1,I1,r1,q1⟩=>?_
 obtain⟨i,rfl,q⟩:=q1
 obtain⟨t,rfl⟩:=r1
 exact⟨some i,H1,I1,.int i t,q⟩
def SlR(X:Cx)(r:V→Option Int→Option Int→Hp→VK→Prop):Prop:=
 ∀(pins:List (Addr×Obj)) (s:Shared) (σ:St) (H:Hp) (x:V) (v vl vu:Value) (lo hi:Option Int) (sl:Addr) (Q:VK),Inv X pins σ H s→RelV x v→s.heap.IsSliceOf sl vl vu .none→IsPart vl lo→IsPart vu hi→r x lo hi H Q→
  ∃T id,typeLookup (.type T) "__getitem__"=pure (some (.builtin id))∧s.TypeIs v T∧wpAny (model X.prog X.w) X.A (getItem v (.ref sl)) (EP X pins σ Q) X.xe s
def NH(r:V→Option Int→Option Int→Hp→VK→Prop)(te:TE)(tl th:TO):TE:=fun σ H Q=>te σ H fun x H1=>tl σ H1 fun l H2=>th σ H2 fun u H3=>r x l u H3 Q
theorem vY{r:V→Option Int→Option Int→Hp→VK→Prop}(hr:SlR X r)(he:PE X e te)(hl:PO X lo tl)(hu:PO X hi th):PE X (.Subscript e (.Slice lo hi none p2) pos) (NH r te tl th):=by
 intro pins s σ H Q I h;refine Subscript_ (bL (he pins s σ H _ I h) fun v s1 ⟨x,H1,I1,r1,q1⟩=>?_)
 refine wpAny_Slice (bL (hl pins s1 σ H1 _ I1 q1) fun vl s2 ⟨l,H2,I2,pl,q2⟩=>bL (hu pins s2 σ H2 _ I2 q2) fun vu s3 ⟨u,H3,I3,pu,q3⟩=>?_)
 rw [evalPart_none];refine wpAny_pure ?_;have I4:Inv X pins σ H3 {s3 with heap:=s3.heap.push {cls:=.type "slice",data:=.fields #[vl,vu,.none]}}:=I3.kept (t':=s3.toks) fun b ob q=>Heap.get?_push_of_some _ q
 obtain⟨T,id,hT,ht,hg⟩:=hr pins {s3 with heap:=s3.heap.push {cls:=.type "slice",data:=.fields #[vl,vu,.none]}} σ H3 x v vl vu l u s3.heap.objs.size Q I4 r1 (Heap.IsSliceOf.new ..) pl pu q3
 show wpAny (model X.prog X.w) X.A (subscriptTail e (.Slice lo hi none p2) v (.ref s3.heap.objs.size)) (EP X pins σ Q) X.xe {s3 with heap:=s3.heap.push {cls:=.type "slice",data:=.fields #[vl,vu,.none]}}
 exact tail_any (ops:=[.ref s3.heap.objs.size,v]) ht hT hg (by with_unfolding_all rfl)
def t9(xs:List V)(lo hi:Option Int):List V:=(xs.drop (HT.sIx xs.length 0 lo)).take (HT.sIx xs.length xs.length hi-HT.sIx xs.length 0 lo)
theorem pG(xs:List V)(lo hi:Option Int):(t9 xs lo hi).length≤xs.length:=by
 unfold t9;rw [List.length_take,List.length_drop];omega
def Jb(K:PySem.W.Frag):V→Option Int→Option Int→Hp→VK→Prop:=fun x lo hi H Q=>∃a xs,x=.ref a∧fD K H a xs∧
 ¬(HT.sIx xs.length 0 lo=0∧HT.sIx xs.length xs.length hi=xs.length)∧∀p,H p=none→Q (.ref p) (upd H p (.tup (t9 xs lo hi)))
theorem Ec:SlR X (Jb X.K):=by
 intro pins s σ H x v vl vu lo hi sl Q I rx hs pl pu h;obtain⟨a,xs,rfl,hx,hw,q⟩:=h
 cases rx;obtain⟨aE,r,ht,hz⟩:=I.tuple hx
 have hlen:aE.toArray.size=xs.length:=by rw [List.size_toArray];exact r.length.symm
 refine⟨"tuple",_,PyProof.Rows.slot_tuple_getitem.lookup,ht.typeIs,?_⟩;refine HT.getItem_tuple_cut ht hs pl pu (by rw [hlen];exact hw) ?_ (by rw [hlen];exact hz);rw [hlen];refine⟨.ref s.heap.objs.size,_,I.laid (t':=s.toks) (o:=.tup (t9 xs lo hi)) (fun b ob q=>Heap.get?_push_of_some _ q) (Nat.le_refl _) ?_,rfl,q _ (I.hok.fresh (Nat.le_refl _))⟩;exact⟨Nat.le_trans (pG xs lo hi) hz,_,(r.drop (HT.sIx xs.length 0 lo)).take (HT.sIx xs.length xs.length hi-HT.sIx xs.length 0 lo),IsTup.new _ _⟩
noncomputable def Gb(K:PySem.W.Frag):R2:=fun x y H Q=>∃a b xs ys,x=.ref a∧y=.ref b∧fD K H a xs∧fD K H b ys∧xs≠[]∧xs.length+ys.length≤sizeLine∧
 (ys=[]→Q (.ref a) H)∧(ys≠[]→∀p,H p=none→Q (.ref p) (upd H p (.tup (xs++ys))))
theorem Vals.nil_iff{xs:List V}{us:List Value}(r:Vals xs us):us=[]↔xs=[]:=by
 cases r with
 |nil=>simp
 |cons _ _=>simp
theorem yX:fJ X (binaryOp .Add) (Gb X.K):=by
 intro pins s σ H x y v u Q I rx ry h;obtain⟨a,b,xs,ys,rfl,rfl,ha,hb,hx,hz,q1,q2⟩:=h
 cases rx;cases ry;obtain⟨aE,r1,p1,_⟩:=I.tuple ha
 obtain⟨aH,r2,p2,_⟩:=I.tuple hb
 refine HT.cat_tup p1 p2 (fun z=>hx (r1.nil_iff.mp z)) (fun z=>⟨.ref a,H,I,rfl,q1 (r2.nil_iff.mp z)⟩) (fun z=>?_) (by rw [←r1.length,←r2.length];exact hz)
 refine⟨.ref s.heap.objs.size,_,I.laid (t':=s.toks) (o:=.tup (xs++ys)) (fun b ob q=>Heap.get?_push_of_some _ q) (Nat.le_refl _) ?_,rfl,q2 (fun w=>z (r2.nil_iff.mpr w)) _ (I.hok.fresh (Nat.le_refl _))⟩
 exact⟨by rw [List.length_append];exact hz,_,r1.append r2,IsTup.new _ _⟩
end
end L2
namespace L2
open PySem PySem.Spec PyProof.Rows
def Bs(n:Nat)(i:Int):Option Nat:=if 0≤i then(if i<n then some i.toNat else none) else if -(n:Int)≤i then some (i+n).toNat else none
def oE{α:Type}(xs:List α)(i:Int):Option α:=(Bs xs.length i).bind fun j=>xs[j]?
theorem zL{n:Nat}{i:Int}{j:Nat}(h:Bs n i=some j):seqIndex? i n=some j∧j<n∧ -(n:Int)≤i∧i<n:=by
 unfold Bs at h
 by_cases h0:0≤i
 ·rw [if_pos h0] at h
  by_cases h1:i<n
  ·rw [if_pos h1] at h;have e:i.toNat=j:=Option.some.inj h
   exact⟨by rw [seqIndex_of h0 h1,e],by omega,by omega,h1⟩
  ·rw [if_neg h1] at h;cases h
 ·rw [if_neg h0] at h
  by_cases h1: -(n:Int)≤i
  ·rw [if_pos h1] at h;have e:(i+n).toNat=j:=Option.some.inj h
   exact⟨by rw [seqIndex_neg (by omega) h1,e],by omega,h1,by omega⟩
  ·rw [if_neg h1] at h;cases h
theorem mz{α:Type}{xs:List α}{i:Int}{v:α}(h:oE xs i=some v):∃j,seqIndex? i xs.length=some j∧xs[j]?=some v∧j<xs.length∧ -(xs.length:Int)≤i∧i<xs.length:=by
 unfold oE at h;cases e:Bs xs.length i with
 |none=>rw [e] at h;cases h
 |some j=>
  rw [e] at h;obtain⟨h1,h2,h3,h4⟩:=zL e
  exact⟨j,h1,h,h2,h3,h4⟩
def ni(b:Expr):Prop:=∀o i,subscripted b false o i=operate [o,i] (getItem o i)
def E4(X:Cx)(r:R2):Prop:=
 ∀(value slice:Expr) (pins:List (Addr×Obj)) (s:Shared) (σ:St) (H:Hp) (x y:V) (v u:Value) (Q:VK),Inv X pins σ H s→RelV x v→RelV y u→r x y H Q→
  subscripted slice false v u=operate [v,u] (getItem v u)→wpAny (model X.prog X.w) X.A (subscriptTail value slice v u) (EP X pins σ Q) X.xe s
def IW(X:Cx)(id:String)(r:V→List V→Hp→VK→Prop):Prop:=
 ∀(pins:List (Addr×Obj)) (s:Shared) (σ:St) (H:Hp) (x:V) (xs:List V) (v:Value) (us:List Value) (Q:VK),Inv X pins σ H s→RelV x v→Vals xs us→r x xs H Q→
  wpAny (model X.prog X.w) X.A (call (.builtin id) (v::us)) (EP X pins σ Q) X.xe s
section
variable{X:Cx}{a b:Expr}{ta tb:TE}{pos:Pos}
theorem Bo{r:R2}(hr:E4 X r)(ha:PE X a ta)(hb:PE X b tb)(hs:ni b):PE X (.Subscript a b pos) (Fg r ta tb):=by
 intro pins s σ H Q I h;exact Subscript_ (EM ha hb I h fun v u s2 x y H2 I2 rx ry q=>hr a b pins s2 σ H2 x y v u Q I2 rx ry q (hs _ _))
noncomputable def Jy(K:PySem.W.Frag):R2:=fun x y H Q=>∃p xs i v,x=.ref p∧y=.int i∧lI K H p xs∧oE xs i=some v∧Q v H
noncomputable def Gr(K:PySem.W.Frag):R2:=fun x y H Q=>∃p xs i v,x=.ref p∧y=.int i∧fD K H p xs∧oE xs i=some v∧Q v H
noncomputable def Kj:R2:=fun x y H Q=>∃z i c,x=.str z∧y=.int i∧z.length≤sizeLine∧oE z.cps.toList i=some c∧Q (.str ⟨#[c]⟩) H
theorem yS:E4 X (Jy X.K):=by
 intro value slice pins s σ H x y v u Q I rx ry h hs;obtain⟨p,xs,i,z,rfl,rfl,hq,he,q⟩:=h
 cases rx;obtain⟨t,rfl⟩:=ry
 obtain⟨aE,r,pl,hz⟩:=I.list hq
 obtain⟨j,h1,h2,h3,h4,h5⟩:=mz he
 obtain⟨w,ew,gX⟩:=r.get h2
 have hl:=r.length
 have hn:=i5
 have fin:EP X pins σ Q w s:=⟨z,H,I,gX,q⟩
 by_cases h0:0≤i
 ·have hj:i.toNat=j:=by
   rw [seqIndex_of h0 h5] at h1;exact Option.some.inj h1
  exact item_listR pl.isList h0 (by omega) (by rw [hj];simpa using ew) fin hs
 ·have hj:(i+(aE.toArray.size:Int)).toNat=j:=by
   rw [seqIndex_neg (by omega) h4] at h1;rw [List.size_toArray,←hl];exact Option.some.inj h1
  exact subscriptTail_builtinR (x:=w) pl.isList.typeIs slot_list_getitem.lookup
   (wpAny_getItem_list_neg (Q:=fun r s'=>r=w∧EP X pins σ Q r s') pl.isList (by omega) (by rw [List.size_toArray]<;>omega) (by omega) (by rw [hj];simpa using ew) ⟨rfl,fin⟩) hs
theorem v3:E4 X (Gr X.K):=by
 intro value slice pins s σ H x y v u Q I rx ry h hs;obtain⟨p,xs,i,z,rfl,rfl,hq,he,q⟩:=h
 cases rx;obtain⟨t,rfl⟩:=ry
 obtain⟨aE,r,pl,hz⟩:=I.tuple hq
 obtain⟨j,h1,h2,h3,h4,h5⟩:=mz he
 obtain⟨w,ew,gX⟩:=r.get h2
 have hl:=r.length
 have hn:=i5
 have fin:EP X pins σ Q w s:=⟨z,H,I,gX,q⟩
 exact subscriptTail_builtinR (x:=w) pl.typeIs slot_tuple_getitem.lookup
  (getItem_tuple (j:=j) (Q:=fun r s'=>r=w∧EP X pins σ Q r s') pl (by omega) (by omega) (by rw [List.size_toArray,←hl];exact h1) (by simpa using ew) ⟨rfl,fin⟩) hs
theorem D7:E4 X Kj:=by
 intro value slice pins s σ H x y v u Q I rx ry h hs;obtain⟨z,i,c,rfl,rfl,hz,he,q⟩:=h
 obtain⟨t,rfl⟩:=rx
 obtain⟨t',rfl⟩:=ry
 obtain⟨j,h1,h2,h3,h4,h5⟩:=mz he
 have hl:z.cps.toList.length=z.length:=by simp [Str.length]
 rw [hl] at h1 h4 h5;have hn:=i5
 exact tail_any (typeIs_str s z t) slot_str_getitem.lookup (getItem_str (c:=c) (by
  have e1:decide (i< -(2^63:Int))=false:=decide_eq_false (by omega)
  have e2:decide (i≥2^63)=false:=decide_eq_false (by omega)
  rw [e1,e2,Bool.or_false]) (by rw [h1];simpa using h2) ⟨.str ⟨#[c]⟩,H,I.tok _,⟨_,rfl⟩,q⟩) hs
theorem gN:cU X (.builtin "len") (fun xs H Q=>∃p ys,xs=[.ref p]∧(lI X.K H p ys∨fD X.K H p ys)∧Q (.int ys.length) H):=by
 intro pins s σ H xs us Q I r h;obtain⟨p,ys,rfl,hq,q⟩:=h
 obtain⟨u,rfl,rx⟩:=vals1 r
 cases rx;have hn:=i5
 rcases hq with hq|hq
 ·obtain⟨aE,r',pl,hz⟩:=I.list hq
  have hlen:=r'.length
  exact Calls.call_len_list pl.isList (by simp only [List.size_toArray]<;>omega) ⟨.int ys.length,H,I.tok _,⟨s.toks+1,by rw [List.size_toArray,hlen]⟩,q⟩
 ·obtain⟨aE,r',pl,hz⟩:=I.tuple hq
  have hlen:=r'.length
  exact len_tuple pl (by simp only [List.size_toArray]<;>omega) ⟨.int ys.length,H,I.tok _,⟨s.toks+1,by rw [List.size_toArray,hlen]⟩,q⟩
theorem nk:cU X (.builtin "len") (fun xs H Q=>∃z,xs=[.str z]∧z.length≤sizeLine∧Q (.int z.length) H):=by
 intro pins s σ H xs us Q I r h;obtain⟨z,rfl,hz,q⟩:=h
 obtain⟨u,rfl,t,rfl⟩:=vals1 r
 have hn:=i5
 exact len_str (by omega) ⟨.int z.length,H,I.tok _,⟨_,rfl⟩,q⟩
theorem kP:cU X (.type "tuple") (fun xs H Q=>∃p ys,xs=[.ref p]∧((lI X.K H p ys∧∀l,H l=none→Q (.ref l) (upd H l (.tup ys)))∨(fD X.K H p ys∧Q (.ref p) H))):=by
 intro pins s σ H xs us Q I r h;obtain⟨p,ys,rfl,h⟩:=h
 obtain⟨u,rfl,rx⟩:=vals1 r
 cases rx;rcases h with⟨hq,q⟩|⟨hq,q⟩
 ·obtain⟨aE,r',pl,hz⟩:=I.list hq
  have hlen:=r'.length
  refine call_tuple_list pl.isList (fun h' kp=>?_) (by simp only [List.size_toArray]<;>omega);have I1:Inv X pins σ H {s with heap:=h'}:=I.kept (t':=s.toks) kp
  have I2:Inv X pins σ (upd H h'.objs.size (.tup ys)) {s with heap:=h'.push {cls:=.type "tuple",data:=.seq aE.toArray}}:=
   I1.laid (t':=s.toks) (fun b o e=>Heap.get?_push_of_some _ e) (Nat.le_refl _) (show bK X.prog X.w _ _ _ (.tup ys) from⟨hz,aE,r',IsTup.new _ _⟩)
  exact⟨.ref h'.objs.size,_,I2,rfl,q _ (I1.hok.fresh (Nat.le_refl _))⟩
 ·obtain⟨aE,r',pl,hz⟩:=I.tuple hq
  exact call_tuple_same pl ⟨.ref p,H,I,rfl,q⟩
def Kx(K:PySem.W.Frag)(T:String)(x:V)(H:Hp):Prop:=match x with
 |.str _=>T="str"
 |.int _=>T="int"
 |.ref p=>(T="list"∧∃xs,lI K H p xs)∨(T="tuple"∧∃o,K.lookup p=some o∧o.cls=.type "tuple"∧o.dict=none)∨
  (T="dict"∧((∃aD,H p=some (.dK aD))∨∃aD,H p=some (.dT aD)))∨(T="set"∧∃S n,H p=some (.set S n))
 |_=>False
theorem vZ{pins:List (Addr×Obj)}{σ:St}{H:Hp}{s:Shared}{T:String}{x:V}{v:Value}(I:Inv X pins σ H s)(r:RelV x v)(ty:Kx X.K T x H):
 s.TypeIs v T∧∀a,v=.ref a→∃ob,s.heap.get? a=some ob∧ob.dict=none:=by
 cases x with
 |str z=>
  obtain⟨t,rfl⟩:=r
  cases(show T="str" from ty);exact⟨typeIs_str s z t,fun _ e=>nomatch e⟩
 |int i=>
  obtain⟨t,rfl⟩:=r
  cases(show T="int" from ty);exact⟨typeIs_int s i t,fun _ e=>nomatch e⟩
 |ref p=>
  cases r;rcases ty with⟨rfl,xs,hq⟩|⟨rfl,o,hk,hc,hd⟩|⟨rfl,hk⟩|⟨rfl,S,n,hk⟩
  ·obtain⟨aE,_,pl,_⟩:=I.list hq
   refine⟨pl.isList.typeIs,fun a e=>?_⟩
   cases e;obtain⟨o,n,e,c,hd,_⟩:=pl
   exact⟨o,e,hd⟩
  ·refine⟨⟨o,I.kIn p o hk,hc⟩,fun a e=>?_⟩
   cases e;exact⟨o,I.kIn _ o hk,hd⟩
  ·have z:∃o,s.heap.get? p=some o∧o.ExactDict:=by
    rcases hk with⟨aD,hk⟩|⟨aD,hk⟩
    ·obtain⟨_,_,_,_,o,_,_,e,ex,_⟩:=I.hok p _ hk
     exact⟨o,e,ex⟩
    ·obtain⟨_,_,_,_,o,_,_,e,ex,_⟩:=I.hok p _ hk
     exact⟨o,e,ex⟩
   obtain⟨o,e,ex⟩:=z
   refine⟨⟨o,e,ex.1⟩,fun a e2=>?_⟩
   cases e2;exact⟨o,e,ex.2.1⟩
  ·obtain⟨o,_,_,_,e,ex,_⟩:=I.hok p _ hk
   refine⟨⟨o,e,ex.1⟩,fun a e2=>?_⟩
   cases e2;exact⟨o,e,ex.2.1⟩
 |_=>exact False.elim ty
noncomputable def JS(K:PySem.W.Frag)(T:String)(r:V→List V→Hp→VK→Prop)(to:TE):TE:=fun σ H Q=>to σ H fun x H1=>Kx K T x H1∧r x [] H1 Q
noncomputable def M9(K:PySem.W.Frag)(T:String)(r:V→List V→Hp→VK→Prop)(to:TE)(t:TA):TE:=fun σ H Q=>to σ H fun x H1=>Kx K T x H1∧t σ H1 fun xs H2=>r x xs H2 Q
variable{o e:Expr}{es:List Expr}{to:TE}{t:TA}{name:Str}{apos bw:Pos}{T id:String}{r:V→List V→Hp→VK→Prop}
theorem B7(pa:PlainAttrs T)(slot:Slot T name id)(Ja:typeOf (.builtin id)=pure (.type "method_descriptor"))(hm:IW X id r)(ho:PE X o to)
 (eB:attributeBase o name X.env (eval o X.env)=eval o X.env:=by rfl) (eY:(apos.endLine==bw.line)=true:=by rfl):PE X (.Call (.Attribute o name apos) [] [] bw) (JS X.K T r to):=by
 intro pins s σ H Q I h;refine wpAny_Call_method0_late eB eY (bL (ho pins s σ H _ I h) fun v s1 ⟨x,H1,I1,r1,ty,q1⟩=>?_)
 obtain⟨h1,h2⟩:=vZ I1 r1 ty
 exact⟨T,id,pa,slot,Ja,h1,h2,Calls.callWith_builtin rfl (PySem.evalArgs_none (hm pins s1 σ H1 x [] v [] Q I1 r1 .nil q1))⟩
theorem BV(pa:PlainAttrs T)(slot:Slot T name id)(Ja:typeOf (.builtin id)=pure (.type "method_descriptor"))(hm:IW X id r)(ho:PE X o to)(ha:PA X (e::es) t)
 (eB:attributeBase o name X.env (eval o X.env)=eval o X.env:=by rfl)
 (Jf:((backTo bw (starEach (e::es) X.env)).all (fun x=>!x.1)&&(backToKw bw (keywordEach [] X.env)).all (fun x=>x.1.isSome)
  &&decide ((e::es).length+([]:List Keyword).length+(if([]:List Keyword).isEmpty then 0 else 1)<30))=true:=by rfl)
 (eY:(apos.endLine==bw.line)=true:=by rfl) (hs:starEach (e::es) X.env=(false,eval e X.env)::starEach es X.env:=by rfl) (qA:(backTo bw (starEach es X.env)).any (·.1)=false:=by rfl):
 PE X (.Call (.Attribute o name apos) (e::es) [] bw) (M9 X.K T r to t):=by
 intro pins s σ H Q I h;refine wpAny_Call_method_late eB Jf eY rfl (bL (ho pins s σ H _ I h) fun v s1 ⟨x,H1,I1,r1,ty,q1⟩=>?_)
 obtain⟨h1,h2⟩:=vZ I1 r1 ty
 refine⟨T,id,pa,slot,Ja,h1,h2,?_⟩;have hA:=ha bw pins s1 σ H1 _ I1 q1
 rw [hs] at hA⊢;refine Calls.callWith_builtin (by show(false||(backTo bw (starEach es X.env)).any (·.1))=false;rw [qA]<;>rfl) (Calls.evalArgs_plain ?_);exact bL hA fun us s2 ⟨vs,H2,I2,r2,q2⟩=>hm pins s2 σ H2 x vs v us Q I2 r1 r2 q2
end
end L2
namespace L2
open PySem PySem.Spec PyProof.Rows
def LD(X:Cx)(id:String)(r:V→List V→Hp→VK→Prop):Prop:=
 ∀(pins:List (Addr×Obj)) (s:Shared) (σ:St) (H:Hp) (x:V) (xs:List V) (v:Value) (us:List Value) (Q:VK),Inv X pins σ H s→RelV x v→Vals xs us→r x xs H Q→
  wpAny (model X.prog X.w) X.A (call (.builtin id) (v::us)) (EP X pins σ Q) X.xe s
theorem Vals.one:∀{x:V} {us:List Value},Vals [x] us→∃u,us=[u]∧RelV x u
 |_,_,.cons r .nil=>⟨_,rfl,r⟩
theorem Vals.two{x y:V}{us:List Value}(h:Vals [x,y] us):∃u v,us=[u,v]∧RelV x u∧RelV y v:=by
 cases h with
 |cons r q=>
  cases q with
  |cons q n=>cases n;exact⟨_,_,rfl,r,q⟩
theorem Vals.zero:∀{us:List Value},Vals [] us→us=[]
 |_,.nil=>rfl
theorem Vals.dropLast{xs:List V}{us:List Value}(h:Vals xs us):Vals xs.dropLast us.dropLast:=by
 induction h with
 |nil=>exact .nil
 |cons r t ih=>
  cases t with
  |nil=>exact .nil
  |cons q t'=>exact .cons r ih
theorem qt{α:Type}(l:List α):l.eraseIdx (l.length-1)=l.dropLast:=by
 induction l with
 |nil=>rfl
 |cons a r ih=>
  cases r with
  |nil=>rfl
  |cons b r=>
   have e:(a::b::r).length-1=((b::r).length-1)+1:=by
    have h1:(a::b::r).length=r.length+2:=rfl
    have h2:(b::r).length=r.length+1:=rfl
    omega
   rw [e,List.eraseIdx_cons_succ,ih]
   all_goals rfl
section
variable{X:Cx}{pins:List (Addr×Obj)}{σ:St}{H:Hp}{s:Shared}{l b:Addr}{xs ys zs:List V}
theorem Inv.lset{aE its':List Value}{n:Nat}{f:Array Value→Array Value}{t':Nat}(I:Inv X pins σ H s)(hH:H l=some (.lst xs))
 (e:s.heap.get? l=some {cls:=.type "list",data:=.seq aE.toArray n}) (hf:f aE.toArray=its'.toArray) (hv:Vals ys its') (hz:ys.length≤sizeLine):
 Inv X pins σ (upd H l (.lst ys)) {s with heap:=s.heap.update l (Obj.mapSeq f),toks:=t'}:=by
 have q:=PySem.IsL.update e f
 rw [hf] at q;refine I.write (x:=l) (e:=l) (by rw [hH];exact trivial) (.inl rfl) (fun b' u hb hu=>(Heap.get?_update_other s.heap (Obj.mapSeq f) (Ne.symm hb)).trans hu) ⟨_,q⟩ ?_
 exact⟨hz,its',_,hv,q⟩
theorem Inv.lstM(I:Inv X pins σ H s)(hH:H l=some (.lst xs)):xs.length≤sizeLine∧∃(aE:List Value) (n:Nat),Vals xs aE∧xs.length=aE.length∧s.heap.get? l=some {cls:=.type "list",data:=.seq aE.toArray n}:=by
 obtain⟨z,aE,n,r,e⟩:=I.hok l _ hH
 exact⟨z,aE,n,r,r.length,e⟩
theorem wx{n:Nat}(h:n≤sizeLine):Builtin.List.listTooLong n=false:=by
 unfold Builtin.List.listTooLong;exact decide_eq_false (by omega)
end
section
variable{X:Cx}
def An:V→List V→Hp→VK→Prop:=fun x vs H Q=>∃l xs y,x=.ref l∧vs=[y]∧H l=some (.lst xs)∧xs.length<sizeLine∧Q .non (upd H l (.lst (xs++[y])))
theorem tP:LD X "list.append" An:=by
 intro pins s σ H x vs v us Q I rx rv h;obtain⟨l,xs,y,rfl,rfl,hH,hz,q⟩:=h
 cases rx;obtain⟨u,rfl,ru⟩:=rv.one
 obtain⟨z,aE,n,r,hl,e⟩:=I.lstM hH
 refine call_meets F.slot_list_append ⟨_,e,rfl⟩ F.entry_list_append (F.args_list_append_2 _ _) (PySem.list_append l aE.toArray n u (by rw [List.size_toArray];omega)) ⟨e,?_⟩;refine⟨.non,_,I.lset (its':=aE++[u]) hH e (by simp) (r.append (.cons ru .nil)) ?_,rfl,q⟩;rw [List.length_append,List.length_singleton];omega
def J8:V→List V→Hp→VK→Prop:=fun x vs H Q=>∃l xs y,x=.ref l∧vs=[]∧H l=some (.lst xs)∧xs[xs.length-1]?=some y∧Q y (upd H l (.lst xs.dropLast))
theorem Dp:LD X "list.pop" J8:=by
 intro pins s σ H x vs v us Q I rx rv h;obtain⟨l,xs,y,rfl,rfl,hH,hy,q⟩:=h
 cases rx;have L9:=rv.zero
 subst L9;obtain⟨z,aE,n,r,hl,e⟩:=I.lstM hH
 obtain⟨u,hu,ru⟩:=r.get hy
 have Ay:aE.toArray[aE.toArray.size-1]?=some u:=by
  show aE.toArray[aE.length-1]?=some u
  rw [←Array.getElem?_toList,←hl];exact hu
 refine call_meets F.slot_list_pop ⟨_,e,rfl⟩ F.entry_list_pop (F.args_list_pop_1 _) (MeetsSeq.list_pop_last l aE.toArray n u Ay (by rw [List.size_toArray];omega)) ⟨e,?_⟩;refine⟨y,_,I.lset (its':=aE.dropLast) hH e ?_ r.dropLast ?_,ru,q⟩
 ·show aE.toArray.eraseIdxIfInBounds (aE.toArray.size-1)=aE.dropLast.toArray
  rw [List.size_toArray,List.eraseIdxIfInBounds_toArray,qt]
 ·rw [List.length_dropLast];omega
end
section
variable{prog:Program}{w:World}{A:Around}{E:Value→Shared→Prop}{s:Shared}
end
section
variable{X:Cx}
end
end L2
namespace Att
open PySem PySem.W PySem.Calls PyProof.Rows
theorem iL{P:Params}{h:Heap}:∀(ns:List Int) (vs:List Value),WellAll P h vs (ns.map WData.int)→IntsAre vs ns:=by
 intro ns
 induction ns with
 |nil=>
  intro vs w;rw [List.map_nil] at w;cases w;exact .nil
 |cons n ns ih=>
  intro vs w;rw [List.map_cons] at w;cases w with
  |cons a b=>
   cases a;exact .cons _ _ (ih _ b)
theorem tX{l:OpenLaw}{n:Nat}(hn:l.most=some n){P:Params}{h:Heap}{args:List WData}{vals:List Value}
 (AZ:l.row.toRowW.claim.pre args=true) (Jh:WellAll P h vals args):
 ∃a vs ns,vals=[Value.ref a]∧args=[WData.list (ns.map WData.int)]∧h.get? a=some {cls:=.type "list",data:=.seq vs.toArray}∧IntsAre vs ns∧ns.length≤n:=by
 have Nk:WShape.hasAll [] args [.list .int]=true:=(pre_splitW AZ).1
 have hc:l.pre.holds [] {args:=args}=true:=(pre_splitW AZ).2
 obtain⟨d,r,rfl,h1,h2⟩:=hasAllW_cons Nk
 obtain rfl:=hasAllW_nil h2
 obtain⟨xs,rfl,h3⟩:=hasW_list h1
 obtain⟨ns,rfl⟩:=items_int h3
 have hlen:ns.length≤n:=by
  unfold OpenLaw.pre at hc;have h4:(WTm.not (.lt (.lit (.int (n:Int))) (.len (.arg 0)))).holds [] {args:=[.list (ns.map .int)]}=true:=by
   have h4:=(holds_andW hc).1
   rw [hn] at h4;exact h4
  have h5:=condW_of h4 (w_not (w_lt w_lit (w_len_list (w_arg rfl))))
  rw [List.length_map] at h5;refine Nat.le_of_not_lt fun q=>?_
  have q':(n:Int)<((ns.length:Nat):Int):=by omega
  first
   |(rw [decide_eq_true q'] at h5;exact absurd h5 (by decide))
   |(simp at h5;omega)
 cases Jh with
 |cons w1 w2=>
  cases w2;cases w1 with
  |list ho hall=>exact⟨_,_,ns,rfl,rfl,ho,iL ns _ hall,hlen⟩
theorem tR(l:OpenLaw)(args:List WData):l.row.toRowW.claim.post args (.bool true) args=true:=
 postW_of (r:=l.row.toRowW) (X:=(true==true))
  (show WShape.has [] (.bool true) .bool=true by first|rfl|decide|simp [WShape.has,WShape.arms,WShape.armsAll])
  (show(WTm.eq .res (.lit (.bool true))).value [] {args:=args,res:=some (.bool true),after:=args}=some (.bool (true==true)) from w_eq_bool (w_res rfl) w_lit) rfl
theorem attach_call{l:OpenLaw}{n:Nat}{q:Program}{loose:List Str}{XP:(Str→Option Value)→Heap→Prop}{YP:World→Heap→Prop}{d:DefRec}
 (hn:l.most=some n) (FF:d.params.defaults=[])
 (call:∀(w:World) (s₀ s₁:Shared) (mg mb:Str→Option Value) (fa:Addr) (o:Obj) (pm cd doc:Value) (a:Addr) (vs:List Value) (ns:List Int),
  Ground q loose [] XP w s₀ mg mb s₁.heap→YP w s₁.heap→
  s₁.heap.get? fa=some o→o.data=.func (docDef d.name d.params d.body d.scope pm cd doc)→s₁.heap.CodeRec cd d.name→mg d.name=some (.ref fa)→
  s₁.heap.get? a=some {cls:=.type "list",data:=.seq vs.toArray}→IntsAre vs ns→ns.length≤n→s₁.gens=#[]→
  codeAny (model l.prog w) callerA (.call (.ref fa) ⟨[.ref a],[]⟩) (fun r s'=>r=.ok (.ret (.bool true))∧OldK s₁.heap s'.heap∧s'.os=s₁.os∧AllBare s'.gens) s₁):
 WalkO q loose XP YP l.row.toRowW d [] (fun f vs=>PySem.call f vs):=by
 intro w s₀ s₁ mg mb G Y fa o pm cd doc dV kV ho hd qq hD hmg hg args vals as AZ hlay hrd Jh hlo;obtain rfl:dV=.none:=Dflts.none hD FF
 obtain rfl:kV=.none:=Dflts.noKw hD
 obtain⟨a,vs,ns,rfl,rfl,hobj,hints,hlen⟩:=tX hn AZ Jh
 refine enter_call (codeAny_mono (call w s₀ s₁ mg mb fa o pm cd doc a vs ns G Y ho (fd_plain hd) qq hmg hobj hints hlen hg) fun r s' hq=>?_)
 obtain⟨rfl,h2,h3,h4⟩:=hq
 exact⟨.inl ⟨.bool true,.bool true,[],rfl,fun _=>rfl,.bool true,tR l _,fun _=>⟨List.Pairwise.nil,fun _ hm=>(nomatch hm)⟩⟩,h2,h3,h4⟩
section
variable{prog:Program}{w:World}{A:Around}{E:Value→Shared→Prop}{s:Shared}{K:Frag}
def ledger(h:Heap)(L d:Addr):List (Addr×Obj):=(List.range h.objs.size).filterMap fun a=>if a=L∨a=d then none else(h.get? a).map fun o=>(a,o)
end
end Att
namespace L2
open PySem PySem.Spec PyProof.Rows
theorem lP:∀{vs:List Value} {ns:List Int},IntsAre vs ns→Vals (ns.map V.int) vs
 |_,_,.nil=>.nil
 |_,_,.cons n t h=>.cons ⟨t,rfl⟩ (lP h)
end L2
namespace L2
open PySem PySem.Spec PyProof.Rows
end L2
namespace L2
open PySem PySem.Spec PyProof.Rows
noncomputable def defArgs(s:Stmt):Arguments:=match s with
 |.FunctionDef _ a _ _ _ _ _ _ _ _=>a
 |_=>{posonlyargs:=[],args:=[],vararg:=none,kwonlyargs:=[],kw_defaults:=[],kwarg:=none,defaults:=[]}
def defBody(s:Stmt):List Stmt:=match s with
 |.FunctionDef _ _ b _ _ _ _ _ _ _=>b
 |_=>[]
def defScope(s:Stmt):Scope:=match s with
 |.FunctionDef _ _ _ _ _ _ sc _ _ _=>sc
 |_=>{kind:=.function,names:=[],isGenerator:=false,isCoroutine:=false}
structure Ih(K:PySem.W.Frag)(x qual:Str)(st:Stmt)(f:Addr)(fd:FuncData):Prop where
 ex:∃(oc:Value) (od:Option Addr) (kV doc pm:Value) (an:Option Addr) (eA ct:Value) (qw:Array (Option Value)),
  fd=PySem.W.fnOf x qual (defArgs st) (defBody st) (defScope st) .none kV doc pm an eA ct∧K.lookup f=some ⟨oc,od,.func fd,qw⟩∧PySem.W.codeIn K eA qual=true
 kp:PySem.W.keepIn K (.ref f)=true
section
variable{P:Program}{w:World}{K:PySem.W.Frag}{mg:Str→Option Value}{base:Heap}
theorem Ih.binds{x qual:Str}{st:Stmt}{f:Addr}{fd:FuncData}{ps:List Str}(F:Ih K x qual st f fd)
 (h:∀(kV doc pm:Value) (an:Option Addr) (eA ct:Value) (us:List Value),us.length=ps.length→bindArgs (PySem.W.fnOf x qual (defArgs st) (defBody st) (defScope st) .none kV doc pm an eA ct) ⟨us,[]⟩=pure (ps.zip us)):Binds K fd ps []:=by
 obtain⟨oc,od,kV,doc,pm,an,eA,ct,qw,rfl,lk,qq⟩:=F.ex
 exact .all (h kV doc pm an eA ct)
theorem vS{x qual:Str}{st:Stmt}{f:Addr}{oc:Value}{od an:Option Addr}{qw:Array (Option Value)}{kV doc pm eA ct:Value}(l:K.lookup f=some ⟨oc,od,.func (PySem.W.fnOf x qual (defArgs st) (defBody st) (defScope st) .none kV doc pm an eA ct),qw⟩)
 (c:PySem.W.codeIn K eA qual=true) (k:PySem.W.keepIn K (.ref f)=true):Ih K x qual st f (PySem.W.fnOf x qual (defArgs st) (defBody st) (defScope st) .none kV doc pm an eA ct):=⟨⟨oc,od,kV,doc,pm,an,eA,ct,qw,rfl,l,c⟩,k⟩
end
section
variable{X:Cx}
theorem pv(i:Nat){x:Str}{pos:Pos}(hN:X.N[i]?=some x:=by rfl)(hv:FG X.env.scope x:=by first|exact Or.inl rfl|exact Or.inr (Or.inl rfl)|exact Or.inr (Or.inr rfl))(hd:(x==("__debug__":Str))=false:=by decide)
 (qq:(x==("__classdict__":Str))=false:=by decide):PE X (.Name x pos) (xQ i):=dR hN hv hd qq
end
theorem Kh{A B:Prop}(h:B):if false=true then A else B:=by
 rw [if_neg zzf];exact h
theorem IG{A B:Prop}(h:A):if true=true then A else B:=by
 rw [if_pos rfl];exact h
def aF(H H':Hp):Prop:=∀b o,H b=some o→H' b=some o
theorem aF.refl(H:Hp):aF H H:=fun _ _ h=>h
theorem aF.trans{H H1 H2:Hp}(a:aF H H1)(b:aF H1 H2):aF H H2:=fun c o h=>b c o (a c o h)
theorem aF.free{H H':Hp}(e:aF H H'){l:Addr}(h:H' l=Option.none):H l=Option.none:=by
 cases q:H l with
 |none=>rfl
 |some o=>
  rw [e l o q] at h;cases h
end L2
set_option maxHeartbeats 8000000
namespace L2
open PySem PySem.Spec PyProof.Rows
open PySem.W (hideAll hideAll_get of_hideAll funFrames_hide)
structure A1(P:Program)(w:World)(outer:List Env)(H:Hp)(s:Shared)(E:XK)(a C t:Addr)(vs:List Value)(H':Hp)(B:Heap)(s':Shared):Prop where
 os:s'.os=s.os
 bare:AllBare s'.gens
 hok:dG P w H' B
 fly:Heap.FlyingW B outer a (.ref C) (.ref t) s'.heap
 tn:B.get? t=none
 tup:s'.heap.TupAt t vs
 keepB:∀b o,s.heap.get? b=some o→H b=none→b∉dQ outer→B.get? b=some o
 thereB:∀b o,s.heap.get? b=some o→b∉dQ outer→∃o',B.get? b=some o'
 un:Un (dQ outer) [] H H' s.heap s'.heap
 ends:E (.ref C) (some a) H'
def dA(P:Program)(w:World):qm:=fun outer H s E e s'=>∃a C t vs H' B,e=.ref a∧A1 P w outer H s E a C t vs H' B s'
section
variable{P:Program}{w:World}{K:PySem.W.Frag}{mg:Str→Option Value}{base:Heap}{N:List Str}{qual:Str}{scope:Scope}{f:Addr}{cd:Value}{A:Around}{outer:List Env}{s0:Shared}{H0:Hp}{E:XK}
theorem iq{X:Cx}{pins:List (Addr×Obj)}{σ:St}{H:Hp}{s:Shared}(I:Inv X pins σ H s){b:Addr}{o:Obj}(hl:X.env.locals=X.s₀.heap.objs.size)(q:X.s₀.heap.get? b=some o)(hb:b∉X.fs):b∉dQ X.stack:=fun z=>by
 rcases List.mem_cons.mp (I.stkSub b z) with e|e
 ·rw [hl] at e;exact absurd (Heap.lt_size q) (by rw [e];exact Nat.lt_irrefl _)
 ·exact hb e
theorem Hx:Passes (dA P w) (dh (dA P w) P w K mg base N qual scope f cd A outer s0 H0 E) E:=by
 rintro pins σ H s e s' I ⟨a,C,t,vs,H',B,rfl,F⟩
 have nx:∀b:Addr,b∉(dh (dA P w) P w K mg base N qual scope f cd A outer s0 H0 E).ex:=fun b z=>nomatch (show b∈([]:List Addr) from z)
 have keepB:∀b o,s0.heap.get? b=some o→H0 b=none→b∉dQ outer→B.get? b=some o:=fun b o q n hb=>
  F.keepB b o (I.base.keep b o q n hb (nx b)) (I.base.free b o q n (nx b)) (iq I rfl q hb)
 have thereB:∀b o,s0.heap.get? b=some o→b∉dQ outer→∃o',B.get? b=some o':=fun b o q hb=>by
  obtain⟨o1,q1⟩:=I.base.there b o q (nx b)
  exact F.thereB b o1 q1 (iq I rfl q hb)
 refine wpAny_leaves_onW I.ok.frames rfl F.fly fun h' x1 x2=>⟨a,C,t,vs,H',B,rfl,?_⟩
 have slot:∀b o,s0.heap.get? b=some o→H0 b=none→b∈dQ outer→∃sl,h'.get? b=some {o with slots:=sl}:=fun b o q n hb=>by
  obtain⟨sl,q1⟩:=I.base.slot b o q n hb (nx b)
  obtain⟨sl2,q2⟩:=F.un.any q1 (I.base.free b o q n (nx b)) (fun z=>nomatch z)
  obtain⟨_,o',q3,hd⟩:=F.fly.2.2.1.mem (b:=b) (List.mem_filterMap.mpr (let⟨v,h1,h2⟩:=List.mem_filterMap.mp hb;⟨v,.tail _ h1,h2⟩))
  rw [q2] at q3;cases q3;obtain⟨sl3,q4⟩:=x2 b _ q2 hd
  exact⟨sl3,q4⟩
 refine⟨F.os.trans I.os,F.bare,F.hok,x1,F.tn,F.tup.of_slots x2,keepB,thereB,⟨fun b o q n hb _=>x1.1 _ _ (keepB b o q n hb),fun b o q n hb _=>slot b o q n hb,fun b o q n _=>?_,fun b o q _=>?_,fun b xs q=>F.un.tups _ _ (I.base.tups _ _ q),fun b o u q=>F.un.frzs _ _ _ (I.base.frzs _ _ _ q),fun b ps q=>?_⟩,F.ends⟩
 ·obtain⟨sl,q1⟩:=I.base.any q n (nx b)
  exact F.un.free b _ q1 (I.base.free b o q n (nx b)) (fun z=>nomatch z)
 ·by_cases hb:b∈dQ outer
  ·obtain⟨sl,q1⟩:=slot b o q (I.ok.frf b hb) hb
   exact⟨_,q1⟩
  ·obtain⟨o',q1⟩:=thereB b o q hb
   exact⟨o',x1.1 _ _ q1⟩
 ·obtain⟨m1,q1⟩:=I.base.tbls b ps q
  obtain⟨m2,q2⟩:=F.un.tbls b _ q1
  exact⟨m1++m2,by rw [←Array.append_assoc];exact q2⟩
theorem Dm{pins:List (Addr×Obj)}{σ:St}{H:Hp}{s:Shared}{h1:Heap}{e C:Addr}{us:List Value}(I:Inv (dh (dA P w) P w K mg base N qual scope f cd A outer s0 H0 E) pins σ H s)
 (hx:Heap.MadeExcOf s.heap h1 e (.ref C) us) (hE:E (.ref C) (some e) H):(dh (dA P w) P w K mg base N qual scope f cd A outer s0 H0 E).xe (.ref e) {s with heap:=h1}:=by
 have nx:∀b:Addr,b∉(dh (dA P w) P w K mg base N qual scope f cd A outer s0 H0 E).ex:=fun b z=>nomatch (show b∈([]:List Addr) from z)
 have K3:∀env∈(dh (dA P w) P w K mg base N qual scope f cd A outer s0 H0 E).stack,∀b,env.frame=some b→b∈dQ (dh (dA P w) P w K mg base N qual scope f cd A outer s0 H0 E).stack:=fun env he b hb=>List.mem_filterMap.mpr ⟨env,he,hb⟩
 refine wpAny_leaves_madeW (h:=s.heap) I.ok.frames rfl (fun b o q=>of_hideAll _ q) (funFrames_hide I.stack K3) hx fun h' t x1 x2 x3 x4=>⟨e,C,t,us,H,hideAll s.heap (dQ (dh (dA P w) P w K mg base N qual scope f cd A outer s0 H0 E).stack),rfl,?_⟩
 have keepB:∀b o,s0.heap.get? b=some o→H0 b=none→b∉dQ outer→(hideAll s.heap (dQ (dh (dA P w) P w K mg base N qual scope f cd A outer s0 H0 E).stack)).get? b=some o:=fun b o q n hb=>
  hideAll_get _ (I.base.keep b o q n hb (nx b)) (iq I rfl q hb)
 have thereB:∀b o,s0.heap.get? b=some o→b∉dQ outer→∃o',(hideAll s.heap (dQ (dh (dA P w) P w K mg base N qual scope f cd A outer s0 H0 E).stack)).get? b=some o':=fun b o q hb=>by
  obtain⟨o1,q1⟩:=I.base.there b o q (nx b)
  exact⟨o1,hideAll_get _ q1 (iq I rfl q hb)⟩
 have slot:∀b o,s0.heap.get? b=some o→H0 b=none→b∈dQ outer→∃sl,h'.get? b=some {o with slots:=sl}:=fun b o q n hb=>by
  obtain⟨sl,q1⟩:=I.base.slot b o q n hb (nx b)
  obtain⟨_,o',q3,hd⟩:=I.stack.mem (b:=b) (List.mem_filterMap.mpr (let⟨v,h1,h2⟩:=List.mem_filterMap.mp hb;⟨v,.tail _ h1,h2⟩))
  rw [q1] at q3;cases q3;obtain⟨sl3,q4⟩:=x4 b _ (hx.keeps _ _ q1) hd
  exact⟨sl3,q4⟩
 refine⟨I.os,I.bare,fun b o q=>?_,x1,x3,x2,keepB,thereB,⟨fun b o q n hb _=>x1.1 _ _ (keepB b o q n hb),fun b o q n hb _=>slot b o q n hb,fun b o q n _=>I.base.free b o q n (nx b),fun b o q _=>?_,I.base.tups,I.base.frzs,I.base.tbls⟩,hE⟩
 ·refine(I.hok b o q).stay (fun c v hc r=>hideAll_get _ r fun z=>?_) (fun _ q=>q) fun _ _ q=>q
  have z':=I.stkFree c z
  rcases hc with rfl|hc
  ·rw [q] at z';cases z'
  ·rw [hc] at z';cases z'
 ·by_cases hb:b∈dQ outer
  ·obtain⟨sl,q1⟩:=slot b o q (I.ok.frf b hb) hb
   exact⟨_,q1⟩
  ·obtain⟨o',q1⟩:=thereB b o q hb
   exact⟨o',x1.1 _ _ q1⟩
end
end L2
namespace L2
open PySem PySem.Spec PyProof.Rows
theorem iF{P:Program}{w:World}{H:Hp}{h:Heap}{a:Addr}{o:HO}(x:bK P w H h a o):∃o',h.get? a=some o':=by
 cases o with
 |lst xs=>obtain⟨_,_,_,_,e⟩:=x;exact⟨_,e⟩
 |tup xs=>obtain⟨_,_,_,o,e,_⟩:=x;exact⟨_,e⟩
 |dK aD=>obtain⟨_,_,_,_,o,_,_,e,_⟩:=x;exact⟨_,e⟩
 |dT aD=>obtain⟨_,_,_,_,o,_,_,e,_⟩:=x;exact⟨_,e⟩
 |set S n=>obtain⟨o,_,_,_,e,_⟩:=x;exact⟨_,e⟩
 |ins C dx fs=>obtain⟨_,_,_,e,_⟩:=x;exact⟨_,e⟩
 |own y=>exact x
 |xd fs=>obtain⟨_,⟨_,_,_,e,_⟩,_⟩:=x;exact⟨_,e⟩
 |rng lo hi=>obtain⟨_,_,_,e⟩:=x;exact⟨_,e⟩
 |frz ob u=>obtain⟨e,_⟩:=x;exact⟨_,e⟩
 |tbl ps=>exact⟨_,x⟩
 |met f y=>exact⟨_,x⟩
 |ext φ=>exact x.2.1
def El(C:Addr)(E:XK)(ta:TA):TS:=fun _ σ H=>ta σ H fun vs H1=>vs.length≤sizeLine∧∀e,H1 e=none→E (.ref C) (some e) H1
section
variable{P:Program}{w:World}{K:PySem.W.Frag}{mg:Str→Option Value}{base:Heap}{N:List Str}{qual:Str}{scope:Scope}{f:Addr}{cd:Value}{A:Around}{outer:List Env}{s0:Shared}{H0:Hp}{E:XK}
theorem wj{x:Str}{C:Addr}{Bn newId CQ:String}{bm:List Value}{e₀:Expr}{rest:List Expr}{np bw pos:Pos}{ta:TA}(hg:Gl (dh (dA P w) P w K mg base N qual scope f cd A outer s0 H0 E) x)(O:OwnCls x C bm newId mg base)(FB:ExcBaseFacts Bn newId CQ bm)
 (ha:PA (dh (dA P w) P w K mg base N qual scope f cd A outer s0 H0 E) (e₀::rest) ta)
 (he:starEach (e₀::rest) (dh (dA P w) P w K mg base N qual scope f cd A outer s0 H0 E).env=(false,eval e₀ (dh (dA P w) P w K mg base N qual scope f cd A outer s0 H0 E).env)::starEach rest (dh (dA P w) P w K mg base N qual scope f cd A outer s0 H0 E).env:=by rfl)
 (qA:(backTo bw (starEach rest (dh (dA P w) P w K mg base N qual scope f cd A outer s0 H0 E).env)).any (·.1)=false:=by rfl) (hd:(x==("__debug__":Str))=false:=by decide):
 PS (dh (dA P w) P w K mg base N qual scope f cd A outer s0 H0 E) (.Raise (some (.Call (.Name x np) (e₀::rest) [] bw)) none pos) (El C E ta):=by
 intro pins s σ H D I h;obtain⟨tl,Nn,nm,q,bs,hdct,sn,sub,ab,col,dd,k0,k1,k2,k3,k5,mN,hC,hN,hni,T⟩:=O.obj
 refine wpAny_Raise_call_subT (C:=C) (nm:=nm) (q:=q) (N:=Nn) (bs:=bs) (bm:=tl) (hdct:=hdct) (sn:=sn) (sub:=sub) (ab:=ab) (col:=col) (dd:=dd) (k0:=k0) (k1:=k1) (k2:=k2) (k3:=k3) (k5:=k5)
  FB (mN:=mN) (T.hasType FB.hasBase) (I.ok.hd rfl) (by rw [he];show(false||(backTo bw (starEach rest (dh (dA P w) P w K mg base N qual scope f cd A outer s0 H0 E).env)).any (·.1))=false;rw [qA];rfl) hni (fu I hg O.bound ⟨rfl,?_⟩ hd)
 have h2:=ha bw pins s σ H _ I h
 rw [he] at h2⊢;refine Calls.evalArgs_plain (wpAny_mono h2 (fun us s2 ⟨vs,H1,I1,rv,hl,hE⟩=>?_) fun _ _ y=>y)
 refine⟨rfl,by rw [←rv.length];exact hl,I1.bk _ _ hC,hN.keeps I1.bk,T.keeps I1.bk,fun h1 e hx=>Dm I1 hx (hE e ?_)⟩
 cases z:H1 e with
 |none=>rfl
 |some o=>
  obtain⟨o',gW⟩:∃o',s2.heap.get? e=some o':=by
   exact iF (I1.hok _ _ z)
  rw [hx.new] at gW;cases gW
end
end L2
namespace L2
open PySem PySem.Spec PyProof.Rows
def Fz(a C:Addr):HO:=.ext fun h=>∃ob vs,h.get? a=some ob∧ob.cls=.ref C∧ob.data=.fields vs
section
variable{P:Program}{w:World}
theorem A1.fresh{outer:List Env}{H:Hp}{s s':Shared}{E:XK}{a C t:Addr}{vs:List Value}{H':Hp}{B:Heap}(F:A1 P w outer H s E a C t vs H' B s'):H' a=none:=by
 cases z:H' a with
 |none=>rfl
 |some o=>
  obtain⟨o',gW⟩:=iF (F.hok _ _ z)
  rw [F.fly.2.1] at gW;cases gW
end
end L2
namespace L2
open PySem PySem.Spec PyProof.Rows
def bz(env:Env)(ys:List Str):List (Str×Addr):=ys.map fun y=>(y,(env.cells.lookup y).getD 0)
def wu(σ:St)(is:List Nat):St:=is.map fun i=>(σ[i]?).join
def kb(scope:Scope)(x:Str):Bool:=scope.names.lookup x==some .cell
theorem rA{x:Str}{c:Addr}:∀(names:List (Str×NameKind)) (n:Nat) (acc:List (Str×Addr)),(x,c)∈cellsFrom n names acc→(x,c)∈acc∨(x,NameKind.cell)∈names∧n≤c
 |[],n,acc,h=>by rw [cellsFrom.eq_def] at h;exact .inl h
 | (y,k)::r,n,acc,h=>by
  rw [cellsFrom.eq_def] at h;dsimp only at h;split at h
  ·rename_i hk;cases eq_of_beq hk;rcases rA r (n+1) _ h with z|⟨z1,z2⟩
   ·rcases List.mem_cons.mp z with z|z
    ·cases z;exact .inr ⟨List.mem_cons_self ..,Nat.le_refl _⟩
    ·exact .inl z
   ·exact .inr ⟨List.mem_cons_of_mem _ z1,Nat.le_of_succ_le z2⟩
  ·rcases rA r n _ h with z|⟨z1,z2⟩
   ·exact .inl z
   ·exact .inr ⟨List.mem_cons_of_mem _ z1,z2⟩
theorem nN{x:Str}{c:Addr}:∀(names:List (Str×NameKind)) (n:Nat) (acc:List (Str×Addr)),(cellsFrom n names acc).lookup x=some c→acc.lookup x=some c∨(x,NameKind.cell)∈names∧n≤c
 |[],n,acc,h=>by rw [cellsFrom.eq_def] at h;exact .inl h
 | (y,k)::r,n,acc,h=>by
  rw [cellsFrom.eq_def] at h;dsimp only at h;split at h
  ·rename_i hk;cases eq_of_beq hk;rcases nN r (n+1) _ h with z|⟨z1,z2⟩
   ·rw [List.lookup_cons] at z;cases e:x==y with
    |true=>rw [e] at z;cases z;cases eq_of_beq e;exact .inr ⟨List.mem_cons_self ..,Nat.le_refl _⟩
    |false=>rw [e] at z;exact .inl z
   ·exact .inr ⟨List.mem_cons_of_mem _ z1,Nat.le_of_succ_le z2⟩
  ·rcases nN r n _ h with z|⟨z1,z2⟩
   ·exact .inl z
   ·exact .inr ⟨List.mem_cons_of_mem _ z1,z2⟩
theorem n9{x:Str}:∀(names:List (Str×NameKind)) (n:Nat) (acc:List (Str×Addr)),(x,NameKind.cell)∉names→(cellsFrom n names acc).lookup x=acc.lookup x
 |[],n,acc,_=>by rw [cellsFrom.eq_def]
 |(y,k)::r,n,acc,h=>by
  rw [cellsFrom.eq_def];dsimp only;have hr:(x,NameKind.cell)∉r:=fun z=>h (List.mem_cons_of_mem _ z)
  split
  ·rename_i hk;cases eq_of_beq hk;rw [n9 r (n+1) _ hr,List.lookup_cons];cases e:x==y with
   |true=>cases eq_of_beq e;exact absurd (List.mem_cons_self ..) h
   |false=>rfl
  ·exact n9 r n acc hr
theorem C2{x:Str}{c:Addr}:∀(names:List (Str×NameKind)) (n:Nat) (acc:List (Str×Addr)),(x,c)∈cellsFrom n names acc→(∀p∈acc,p.2≠c)→(x,c)∈cellsFrom n names []
 |names,n,acc,h,ha=>by
  have key:∀(names:List (Str×NameKind)) (n:Nat) (acc b:List (Str×Addr)),(x,c)∈cellsFrom n names (b++acc)→(∀p∈acc,p.2≠c)→(x,c)∈cellsFrom n names b:=by
   intro names
   induction names with
   |nil=>
    intro n acc b h ha;rw [cellsFrom.eq_def] at h⊢;rcases List.mem_append.mp h with z|z
    ·exact z
    ·exact absurd rfl (ha _ z)
   |cons y r ih=>
    intro n acc b h ha;obtain⟨y,k⟩:=y
    rw [cellsFrom.eq_def] at h⊢;dsimp only at h⊢;split at h
    ·rename_i hk;rw [if_pos hk];exact ih (n+1) acc ((y,n)::b) h ha
    ·rename_i hk;rw [if_neg hk];exact ih n acc b h ha
  exact key names n acc [] h ha
theorem nC{x y:Str}{c:Addr}:∀(names:List (Str×NameKind)) (n:Nat) (acc:List (Str×Addr)),(∀p∈acc,p.2<n)→n≤c→(x,c)∈cellsFrom n names acc→(y,c)∈cellsFrom n names acc→x=y
 |[],n,acc,ha,hc,h1,h2=>by
  rw [cellsFrom.eq_def] at h1;exact absurd (ha _ h1) (Nat.not_lt.mpr hc)
 | (z,k)::r,n,acc,ha,hc,h1,h2=>by
  rw [cellsFrom.eq_def] at h1 h2;dsimp only at h1 h2;split at h1
  ·rename_i hk;rw [if_pos hk] at h2;have L4:∀p∈(z,n)::acc,p.2<n+1:=fun p hp=>by
    rcases List.mem_cons.mp hp with q|q
    ·rw [q];exact Nat.lt_succ_self _
    ·exact Nat.lt_succ_of_lt (ha p q)
   by_cases hn:n+1≤c
   ·exact nC r (n+1) _ L4 hn h1 h2
   ·have one:∀{w:Str},(w,c)∈cellsFrom (n+1) r ((z,n)::acc)→w=z:=fun{w} h=>by
     rcases rA r (n+1) _ h with q|q
     ·rcases List.mem_cons.mp q with q|q
      ·cases q;rfl
      ·exact absurd (ha _ q) (Nat.not_lt.mpr hc)
     ·exact absurd q.2 hn
    rw [one h1,one h2]
  ·rename_i hk;rw [if_neg hk] at h2;exact nC r n acc ha hc h1 h2
theorem qX{M:Model}{A:Around}{E:Value→Shared→Prop}{s:Shared}{scope:Scope}{g:Addr}{cl:List (Str×Addr)}{qual:Str}{around:Env}{Q:Env→Shared→Prop}
 (h:Q (newEnv scope s.heap.objs.size g (cellsFrom (s.heap.objs.size+1) scope.names cl) qual none .none (some around) builtinsNs) {s with heap:=pushCells (s.heap.push {cls:=.type "dict",data:=.dict #[]}) scope.names}):
 wpAny M A (newFunctionEnv scope g cl [] qual none .none (some around)) Q E s:=by
 unfold newFunctionEnv;refine wpAny_bind (wpAny_alloc ?_);refine wpAny_bind (wpAny_forIn_list _ (fun rest b s'=>s'={s with heap:=s'.heap}∧pushCells s'.heap rest=pushCells (s.heap.push {cls:=.type "dict",data:=.dict #[]}) scope.names∧cellsFrom s'.heap.objs.size rest b=cellsFrom (s.heap.objs.size+1) scope.names cl) _ (fun x rest b s' hI=>?_) (fun b s' hI=>?_) scope.names cl ⟨rfl,rfl,by rw [Heap.size_push]⟩)
 ·obtain⟨h1,h2,h3⟩:=hI
  obtain⟨nm,k⟩:=x
  rw [pushCells.eq_def] at h2;rw [cellsFrom.eq_def] at h3;dsimp only at h2 h3⊢;split
  ·rename_i hk;rw [if_pos hk] at h2 h3;refine wpAny_bind (wpAny_alloc (wpAny_pure ⟨by rw [h1],h2,?_⟩));dsimp only;rw [Heap.size_push];exact h3
  ·rename_i hk;rw [if_neg hk] at h2 h3;exact wpAny_pure ⟨h1,h2,h3⟩
 ·obtain⟨h1,h2,h3⟩:=hI
  rw [pushCells.eq_def] at h2;rw [cellsFrom.eq_def] at h3;dsimp only at h2 h3;subst h3;rw [h1,h2];exact wpAny_bind (wpAny_pure (wpAny_pure h))
noncomputable def bP(X:Cx)(N':List Str)(scope:Scope)(cl:List (Str×Addr))(fp:List Addr)(s₁:Shared)(H₁:Hp)(C:Addr):Cx where
 prog:=X.prog
 w:=X.w
 K:=X.K
 mg:=X.mg
 base:=X.base
 A:=X.A
 N:=N'
 s₀:=s₁
 H₀:=H₁
 env:=compEnvC scope (cellsFrom (C+1) scope.names cl) C X.env
 outer:=X.stack
 stack:=X.stack
 ex:=fp
 fn:=kb scope
 calm:=true
 pn:=[]
 xe:=fun _ _=>False
theorem dJ{env:Env}:∀{ys:List Str},(ys.all fun y=>(env.cells.lookup y).isSome)=true→∀(x:Str) (c:Addr),(bz env ys).lookup x=some c→env.cells.lookup x=some c
 |[],_,_,_,h=>by simp [bz] at h
 |y::ys,ha,x,c,h=>by
  rw [List.all_cons,Bool.and_eq_true] at ha;have ih:=dJ (env:=env) ha.2 x c
  unfold bz at h ih;rw [List.map_cons,List.lookup_cons] at h;cases e:x==y with
  |true=>
   rw [e] at h;have Jc:x=y:=beq_iff_eq.mp e
   subst Jc;obtain⟨c',fW⟩:=Option.isSome_iff_exists.mp ha.1
   rw [fW] at h⊢;exact h
  |false=>
   rw [e] at h;exact ih h
theorem gB{env:Env}:∀{ys:List Str} {x:Str},x∈ys→∃c,(bz env ys).lookup x=some c
 |[],_,h=>nomatch h
 |y::ys,x,h=>by
  unfold bz;rw [List.map_cons,List.lookup_cons];cases e:x==y with
  |true=>exact⟨_,rfl⟩
  |false=>
   have hx:x∈ys:=by
    rcases List.mem_cons.mp h with z|z
    ·rw [z] at e;simp at e
    ·exact z
   exact gB (env:=env) hx
theorem iC{scope:Scope}{env:Env}{x:Str}{k:NameKind}(h:(relabel scope env).names.lookup x=some k)(hk:k=.cell∨k=.free):∃k',(x,k')∈scope.names∧(k'=.cell∨k'=.free):=by
 have hm:=PySem.mem_of_lookup h
 unfold relabel at hm;obtain⟨⟨n,k0⟩,h0,e⟩:=List.mem_map.mp hm
 dsimp only at e;split at e
 ·rename_i hc;cases e;refine⟨k0,h0,.inr ?_⟩;rw [Bool.and_eq_true,Bool.and_eq_true] at hc;exact beq_iff_eq.mp hc.1.1
 ·cases e;exact⟨k,h0,hk⟩
structure dX(X:Cx)(scope:Scope)(xs ys:List Str)(is:List Nat):Prop where
 kind:scope.kind=.function
 clos:closureFor scope X.env=pure (bz X.env ys)
 cells:(ys.all fun y=>(X.env.cells.lookup y).isSome)=true
 cov:(scope.names.all fun y=>(decide (y.2≠.cell)||!ys.contains y.1)&&(decide (y.2≠.free)||ys.contains y.1))=true
 own:(scope.names.all fun y=>decide (y.2≠.cell)||decide (scope.names.lookup y.1=some .cell))=true
 names:(scope.names.all fun y=>decide (y.2≠.local)||decide (scope.names.lookup y.1=some .local))=true
 slots:is.map (fun i=>X.N[i]?)=ys.map some
 kX:(ys.all fun y=>decide (X.env.kindOf y=some .cell))=true
 kY:(ys.all fun y=>decide ((relabel scope X.env).names.lookup y=some .cell))=true
section
variable{X:Cx}{pins:List (Addr×Obj)}{σ:St}{H:Hp}{s:Shared}{scope:Scope}{xs ys:List Str}{is:List Nat}
theorem dX.ownL(S:dX X scope xs ys is){x:Str}(h:(x,NameKind.cell)∈scope.names):scope.names.lookup x=some .cell∧x∉ys:=by
 have q:=List.all_eq_true.mp S.own _ h
 have c:=List.all_eq_true.mp S.cov _ h
 rw [Bool.and_eq_true,Bool.or_eq_true] at c;rw [Bool.or_eq_true] at q;refine⟨of_decide_eq_true (q.resolve_left fun z=>of_decide_eq_true z rfl),fun hy=>?_⟩
 rcases c.1 with z|z
 ·exact of_decide_eq_true z rfl
 ·rw [List.contains_iff_mem.mpr hy] at z;cases z
theorem eT(I:Inv X pins σ H s)(S:dX X scope xs ys is){C:Addr}(hC:s.heap.objs.size≤C){x:Str}{c:Addr}(h:(cellsFrom (C+1) scope.names (bz X.env ys)).lookup x=some c):
 (X.env.cells.lookup x=some c∧c<s.heap.objs.size∧x∈ys)∨((x,NameKind.cell)∈scope.names∧C+1≤c):=by
 rcases nN _ _ _ h with z|z
 ·have e:=dJ S.cells x c z
  obtain⟨v,q⟩:=I.cell x c e
  refine .inl ⟨e,q.lt,?_⟩;have hm:=PySem.mem_of_lookup z
  unfold bz at hm;obtain⟨y,hy,e2⟩:=List.mem_map.mp hm
  cases e2;exact hy
 ·exact .inr z
theorem tM(I:Inv X pins σ H s)(hc:X.calm=true)(S:dX X scope xs ys is){N':List Str}{fp:List Addr}{C:Addr}(hC:s.heap.objs.size≤C)(hf:∀b∈fp,eF X pins H b)(zd:∀b∈fp,b<s.heap.objs.size):
 (bP X N' scope (bz X.env ys) fp s H C).Ok where
 mod:=I.ok.mod
 kind:=S.kind
 glob:=I.ok.glob
 blt:=I.ok.blt
 above:=hC
 inj:=fun x y c h1 h2=>by
  rcases eT I S hC h1 with z1|z1
  ·rcases eT I S hC h2 with z2|z2
   ·exact I.ok.inj x y c z1.1 z2.1
   ·exact absurd z1.2.1 (Nat.not_lt.mpr (Nat.le_trans hC (Nat.le_of_succ_le z2.2)))
  ·refine nC scope.names (C+1) (bz X.env ys) (fun p hp=>?_) z1.2 (PySem.mem_of_lookup h1) (PySem.mem_of_lookup h2);unfold bz at hp;obtain⟨y,hy,rfl⟩:=List.mem_map.mp hp
   obtain⟨c',fW⟩:=Option.isSome_iff_exists.mp (List.all_eq_true.mp S.cells y hy)
   obtain⟨v,q⟩:=I.cell y c' fW
   dsimp only;rw [fW];exact Nat.lt_succ_of_le (Nat.le_trans (Nat.le_of_lt q.lt) hC)
 has:=fun x hx=>by
  have vv:(relabel scope X.env).names.lookup x=some .cell∨(relabel scope X.env).names.lookup x=some .free:=hx
  have:∃k',(x,k')∈scope.names∧(k'=.cell∨k'=.free):=by
   rcases vv with z|z
   ·exact iC z (.inl rfl)
   ·exact iC z (.inr rfl)
  obtain⟨k',hm,hk⟩:=this
  have cv:=List.all_eq_true.mp S.cov _ hm
  rw [Bool.and_eq_true,Bool.or_eq_true,Bool.or_eq_true] at cv;rcases hk with z|z
  ·subst z;exact Option.isSome_iff_exists.mp (PySem.W.cellsFrom_some _ _ _ (.inl (S.ownL hm).1))
  ·rcases cv.2 with q|q
   ·exact absurd z (of_decide_eq_true q)
   ·refine Option.isSome_iff_exists.mp (PySem.W.cellsFrom_some _ _ _ (.inr ?_));obtain⟨c,e⟩:=gB (env:=X.env) (List.contains_iff_mem.mp q)
    rw [e];rfl
 cab:=fun x c h e=>by
  have hm:(x,NameKind.cell)∈scope.names:=PySem.mem_of_lookup (eq_of_beq h)
  rcases eT I S hC e with z|z
  ·exact absurd z.2.2 (S.ownL hm).2
  ·exact Nat.le_trans hC (Nat.le_of_succ_le z.2)
 hd:=fun _=>I.ok.hd hc
 frames:=I.ok.frames
 stk:=.inl rfl
 exf:=fun b hb=>⟨Nat.ne_of_lt (Nat.lt_of_lt_of_le (zd b hb) hC),fun x c h=>(eT I S hC h).elim (fun z=>(hf b hb).2.2.2.2.1 x c z.1) fun z q=>absurd (zd b hb) (Nat.not_lt.mpr (q▸Nat.le_trans hC (Nat.le_of_succ_le z.2)))⟩
 bs:=fun b o e=>I.bs b o e
 bsz:=Nat.le_trans I.ok.bsz I.sz
 noex:=fun b o e hb=>by
  rcases(hf b hb).2.2.2.1 with z|z
  ·exact I.ok.noex b o e z
  ·exact absurd (Nat.lt_of_lt_of_le (Heap.lt_size e) (Nat.le_trans I.ok.bsz z)) (Nat.lt_irrefl _)
 exfs:=fun b hb hs=>(List.mem_cons.mp (I.stkSub b hs)).elim (hf b hb).2.1 (hf b hb).2.2.1
 funs:=I.stack
 frf:=fun b hb=>I.stkFree b hb
theorem r9{N:List Str}:∀{is:List Nat} {ys:List Str},is.map (fun i=>N[i]?)=ys.map some→∀(j:Nat) (y:Str) (v:V),ys[j]?=some y→(wu σ is)[j]?=some (some v)→∃i:Nat,N[i]?=some y∧σ[i]?=some (some v)
 |[],[],_,_,_,_,h,_=>by simp at h
 |[],_::_,h,_,_,_,_,_=>by simp at h
 |_::_,[],h,_,_,_,_,_=>by simp at h
 |i::is,y0::ys,h,0,y,v,h1,h2=>by
  rw [List.map_cons,List.map_cons] at h;have h0:=(List.cons.inj h).1
  simp only [List.getElem?_cons_zero,Option.some.injEq] at h1;subst h1;refine⟨i,h0,?_⟩;unfold wu at h2;simp only [List.map_cons,List.getElem?_cons_zero,Option.some.injEq] at h2;exact Option.join_eq_some_iff.mp h2
 |i::is,y0::ys,h,j+1,y,v,h1,h2=>by
  rw [List.map_cons,List.map_cons] at h;refine r9 (is:=is) (ys:=ys) (List.cons.inj h).2 j y v (by simpa using h1) ?_;unfold wu at h2⊢
  simpa using h2
abbrev lobj(aE:List Value)(n:Nat):Obj:={cls:=.type "list",data:=.seq aE.toArray n}
theorem uL(aE:List Value)(n:Nat)(v:Option Value):(lobj aE n).data≠.cell v:=fun z=>by cases z
abbrev tests(ifs:List Expr)(env:Env):Sem Bool:=forIn ifs true fun c r=>if r=true then do let ok←isTrue c env (eval c env);pure (ForInStep.yield ok) else pure (ForInStep.yield r)
theorem mv{prog:Program}{w:World}{A:Around}{R:Result→Shared→Prop}{s:Shared}{elt target iter:Expr}{ifs:List Expr}{scope:Scope}{pos:Pos}{it acc:Value}{env:Env}(I:Nat→Shared→Prop)
 (turn:∀n s,I n s→wpAny (model prog w) A (pyNext it) (fun r s₁=>match r with
  |none=>R (.ok .next) s₁
  |some v=>wpAny (model prog w) A (letOwnedTupleGo target it v) (fun _ s₁'=>wpAny (model prog w) A (assign target env v) (fun _ s₂=>
   wpAny (model prog w) A (tests ifs env) (fun ok s₃=>if ok=true then wpAny (model prog w) A (eval elt env) (fun x s₄=>
    wpAny (model prog w) A (call (.builtin "list.append") [acc,x]) (fun _ s₅=>∃m,m<n∧I m s₅) (notedBy (model prog w) A env fun e s'=>R (.error e) s') s₄) (notedBy (model prog w) A env fun e s'=>R (.error e) s') s₃
    else∃m,m<n∧I m s₃) (notedBy (model prog w) A env fun e s'=>R (.error e) s') s₂)
   (notedBy (model prog w) A env fun e s'=>R (.error e) s') s₁') (notedBy (model prog w) A env fun e s'=>R (.error e) s') s₁) (notedBy (model prog w) A env fun e s'=>R (.error e) s') s)
 (n:Nat) (h:I n s):
 codeAny (model prog w) A (.compLoop (.ListComp elt [⟨target,iter,ifs,0⟩] scope pos) 0 it acc env) R s:=by
 refine codeAny_loop rfl I (fun n s hI=>?_) n h;show wpAny _ A ((compTurn (.ListComp elt [⟨target,iter,ifs,0⟩] scope pos) 0 it acc env).onRaise (fun x=>do noteFrame x env;theTreesLotGoes x)) _ _ s;refine wpAny_noted ?_;rw [compTurn_list];refine wpAny_bind (wpAny_standAt (wpAny_bind (wpAny_mono (turn n s hI) (fun r s₁ h₁=>?_) fun _ _ h'=>h')))
 cases r with
 |none=>exact wpAny_pure h₁
 |some v=>
  refine wpAny_bind (wpAny_mono h₁ (fun _ s₁' h₁'=>?_) fun _ _ h'=>h')
  refine wpAny_bind (wpAny_mono h₁' (fun _ s₂ h₂=>wpAny_bind (wpAny_mono h₂ (fun ok s₃ h₃=>?_) fun _ _ h'=>h')) fun _ _ h'=>h')
  cases ok with
  |false=>exact wpAny_pure ⟨rfl,h₃⟩
  |true=>exact wpAny_bind (wpAny_bind (wpAny_mono h₃ (fun x s₄ h₄=>wpAny_bind (wpAny_mono h₄ (fun _ s₅ h₅=>wpAny_pure (wpAny_pure ⟨rfl,h₅⟩)) fun _ _ h'=>h')) fun _ _ h'=>h'))
def Kr(X:Cx)(ifs:List Expr)(t:TT):Prop:=
 ∀(pins:List (Addr×Obj)) (s:Shared) (σ:St) (H:Hp) (Q:Bool→Hp→Prop),Inv X pins σ H s→t σ H Q→wpAny (model X.prog X.w) X.A (tests ifs X.env) (TP X pins σ Q) X.xe s
theorem rN{X:Cx}:Kr X [] (fun _ H q=>q true H):=fun _ _ _ H _ I h=>wpAny_tests_nil ⟨H,I,h⟩
theorem sY{X:Cx}{e:Expr}{t:TT}(h:PT X e t):Kr X [e] t:=fun pins s σ H Q I z=>wpAny_tests_one (h pins s σ H Q I z)
def Fw(J:It)(k:Nat)(g:TG)(te:TE)(fs:St)(Q:VK)(H1:Hp):Prop:=∃(n:Nat) (W:Nat→List V→St→Hp→Prop),W 0 [] (List.replicate k none++fs) H1∧
 ∀i ys σ' H',W i ys σ' H'→ys.length<sizeLine∧((J.stop i H'∧∀p,H' p=none→Q (.ref p) (upd H' p (.lst ys)))∨
  (J.go i H'∧i<n∧∀x oB,J.yld i H' x oB→g x σ' oB fun σ2 H2=>te σ2 H2 fun y H3=>W (i+1) (ys++[y]) σ2 H3))
noncomputable def xx(wi:TI)(k:Nat)(g:TG)(te:TE)(is:List Nat):TE:=fun σ H Q=>wi σ H fun J H1=>Fw J k g te (wu σ is) Q H1
def AJ(J:It)(k:Nat)(g:TG)(tt:TT)(te:TE)(fs:St)(Q:VK)(H1:Hp):Prop:=∃(n:Nat) (W:Nat→List V→St→Hp→Prop),W 0 [] (List.replicate k none++fs) H1∧
 ∀i ys σ' H',W i ys σ' H'→ys.length<sizeLine∧((J.stop i H'∧∀p,H' p=none→Q (.ref p) (upd H' p (.lst ys)))∨
  (J.go i H'∧i<n∧∀x oB,J.yld i H' x oB→g x σ' oB fun σ2 H2=>tt σ2 H2 fun b H3=>if b=true then te σ2 H3 (fun y H4=>W (i+1) (ys++[y]) σ2 H4) else W (i+1) ys σ2 H3))
noncomputable def iU(wi:TI)(k:Nat)(g:TG)(tt:TT)(te:TE)(is:List Nat):TE:=fun σ H Q=>wi σ H fun J H1=>AJ J k g tt te (wu σ is) Q H1
theorem fC{elt tg iter:Expr}{ifs:List Expr}{pos pp:Pos}{wi:TI}{g:TG}{te:TE}{tt:TT}{use:Option (Value→Sem Unit)}{QQ:Value→Shared→Prop}{Q:VK}(hc:X.calm=true)(S:dX X scope xs ys is)(hi:PI X tg iter wi)
 (hg:∀fp s1 H1 C,PG (bP X (xs++ys) scope (bz X.env ys) fp s1 H1 C) tg g) (ht:∀fp s1 H1 C,Kr (bP X (xs++ys) scope (bz X.env ys) fp s1 H1 C) ifs tt) (he:∀fp s1 H1 C,PE (bP X (xs++ys) scope (bz X.env ys) fp s1 H1 C) elt te)
 (hs:∀x,foldedSetIterable iter X.env x=pure x) (I:Inv X pins σ H s) (h:iU wi xs.length g tt te is σ H Q)
 (fin:∀(D C:Addr) (s4:Shared) (H4:Hp) (m:Str→Option Value),Inv X pins σ H4 s4→s4.heap.Ns C m→eF X pins H4 C→Q (.ref D) H4→compPost (model X.prog X.w) X.A X.xe use QQ (.ref D) C (.ok .next) s4):
 wpAny (model X.prog X.w) X.A (comprehension (.ListComp elt [⟨tg,iter,ifs,0⟩] scope pos) scope X.env pp (newList []) false (eval iter X.env) use) QQ X.xe s:=by
 have Ei:∀x∈scope.names,x.2=.local→scope.names.lookup x.1=some .local:=fun x hx hl=>by
  have q:=List.all_eq_true.mp S.names x hx
  rw [Bool.or_eq_true] at q;rcases q with q|q
  ·exact absurd hl (of_decide_eq_true q)
  ·exact of_decide_eq_true q
 refine wpAny_comprehension_free (use:=use) (Q:=QQ) (g:=⟨tg,iter,ifs,0⟩) (gs:=[]) rfl hs S.clos S.kind Ei (bL (hi pins s σ H _ I h) fun xv s0 h0=>bL h0 fun Jn s1 h1=>?_)
 obtain⟨it,fp,tn,J,H1,rfl,I1,T,st1,f1,n,W,w0,turn⟩:=h1
 refine wpAny_newObj_type (qX ?_);dsimp only;generalize hH2:s1.heap.push {cls:=.type "list",dict:=none,data:=.seq ([]:List Value).toArray}=G2
 generalize hh₁:pushCells (G2.push {cls:=.type "dict",data:=.dict #[]}) scope.names=h₁
 have Jm:∀b o,(G2.push {cls:=.type "dict",data:=.dict #[]}).get? b=some o→h₁.get? b=some o:=fun b o e=>by rw [←hh₁];exact pushCells_keeps _ _ b o e
 have hns₁:h₁.Ns G2.objs.size fun _=>none:=(Heap.Ns.new G2 (.type "dict")).keeps Jm
 have LI:G2.objs.size=s1.heap.objs.size+1:=by rw [←hH2,Heap.size_push]
 have kH:s1.heap.objs.size≤G2.objs.size:=by rw [LI];exact Nat.le_succ _
 have Ik:s1.heap.objs.size≠G2.objs.size:=by rw [LI];exact Nat.ne_of_lt (Nat.lt_succ_self _)
 have old:∀b o,s1.heap.get? b=some o→h₁.get? b=some o:=fun b o e=>Jm b o (Heap.get?_push_of_some _ (hH2▸Heap.get?_push_of_some _ e))
 have C3:h₁.get? s1.heap.objs.size=some (lobj [] 0):=Jm _ _ (Heap.get?_push_of_some _ (hH2▸Heap.get?_push_size _ rfl))
 have zd:∀b∈fp,b<s1.heap.objs.size:=fun b hb=>by
  obtain⟨o,e,_⟩:=T.obj _ _ st1 b hb
  exact Heap.lt_size e
 generalize hY:bP X (xs++ys) scope (bz X.env ys) fp s1 H1 G2.objs.size=Y
 have M7:Y.Ok:=by rw [←hY];exact tM I1 hc S kH f1 zd
 have LH:∀b∈fp,s1.heap.objs.size≠b:=fun b hb=>Ne.symm (Nat.ne_of_lt (zd b hb))
 have Jr:∀b,b∈Y.fs→b=X.env.locals∨b∈X.fs:=fun b hb=>by
  rw [←hY] at hb;exact List.mem_cons.mp (I1.stkSub b hb)
 have Jv:∀b∈Y.fs,b<s1.heap.objs.size:=fun b hb=>by
  rw [←hY] at hb;obtain⟨_,o,ho,_⟩:=I1.stack.mem hb
  exact Heap.lt_size ho
 have JO:s1.heap.objs.size∉Y.fs:=fun z=>Nat.lt_irrefl _ (Jv _ z)
 have C8:Y.env.locals=G2.objs.size:=by rw [←hY];rfl
 have Ig:∀x c,Y.env.cells.lookup x=some c→(X.env.cells.lookup x=some c∧c<s1.heap.objs.size∧x∈ys)∨((x,NameKind.cell)∈scope.names∧G2.objs.size+1≤c):=fun x c e=>by
  rw [←hY] at e;exact eT I1 S kH e
 have Nj:∀x c,Y.env.cells.lookup x=some c→G2.objs.size+1≤c→h₁.IsCell c none:=fun x c e hle=>by
  rw [←hY] at e;have hm:(x,c)∈cellsFrom (G2.objs.size+1) scope.names []:=C2 scope.names _ _ (PySem.mem_of_lookup e) fun p hp=>by
   unfold bz at hp;obtain⟨y,hy,rfl⟩:=List.mem_map.mp hp
   obtain⟨c',fW⟩:=Option.isSome_iff_exists.mp (List.all_eq_true.mp S.cells y hy)
   obtain⟨v,q⟩:=I1.cell y c' fW
   dsimp only;rw [fW];exact Nat.ne_of_lt (Nat.lt_of_lt_of_le q.lt (Nat.le_trans kH (Nat.le_of_succ_le hle)))
  have ck:=cellsFrom_ok scope.names (G2.push {cls:=.type "dict",data:=.dict #[]}) 0 [] ⟨(fun _ _ z=>nomatch z),.nil⟩ (Nat.zero_le _)
  rw [Heap.size_push,hh₁] at ck;exact(ck.empty x c hm).1
 have Mu:∀x c,Y.env.cells.lookup x=some c→c≠s1.heap.objs.size:=fun x c e=>(Ig x c e).elim (fun z=>Nat.ne_of_lt z.2.1) fun z=>Ne.symm (Nat.ne_of_lt (Nat.lt_of_le_of_lt kH z.2))
 have xT:Y.pn=[]:=by rw [←hY];rfl
 have Gj:Y.ex=fp:=by rw [←hY];rfl
 have GD:Y.s₀=s1:=by rw [←hY];rfl
 have LG:Y.H₀=H1:=by rw [←hY];rfl
 have G7:Y.prog=X.prog:=by rw [←hY];rfl
 have G8:Y.w=X.w:=by rw [←hY];rfl
 have KQ:Y.K=X.K:=by rw [←hY];rfl
 have Kf:Y.A=X.A:=by rw [←hY];rfl
 have NA:compEnvC scope (cellsFrom (G2.objs.size+1) scope.names (bz X.env ys)) G2.objs.size X.env=Y.env:=by rw [←hY];rfl
 have Hv:Y.calm=true:=by rw [←hY];rfl
 have DY:Y.xe=fun _ _=>False:=by rw [←hY];rfl
 have Hr:Y.fs=dQ X.stack:=by rw [←hY];rfl
 have Hm:∀{H':Hp} {s':Shared} {aE:List Value} {k:Nat},s'.heap.get? s1.heap.objs.size=some (lobj aE k)→H' s1.heap.objs.size=none→∀p∈[(s1.heap.objs.size,lobj aE k)],s'.heap.get? p.1=some p.2∧H' p.1=none∧p.1≠Y.env.locals∧p.1∉Y.fs∧∀v,p.2.data≠.cell v:=
  fun{H' s' aE k} e hn p hp=>by
   obtain rfl:=List.mem_singleton.mp hp
   exact⟨e,hn,by rw [C8];exact Ik,JO,fun v=>uL aE k v⟩
 have Ke:∀{H':Hp} {aE:List Value} {k:Nat},(∀b∈fp,H' b=none)→∀b∈fp,eF Y [(s1.heap.objs.size,lobj aE k)] H' b:=fun{H' aE k} hn b hb=>
  ⟨hn b hb,by rw [C8];exact Nat.ne_of_lt (Nat.lt_of_lt_of_le (zd b hb) kH),fun z=>(Jr b z).elim (f1 b hb).2.1 (f1 b hb).2.2.1,.inl (by rw [Gj];exact hb),
   fun x c e=>(Ig x c e).elim (fun z=>(f1 b hb).2.2.2.2.1 x c z.1) (fun z q=>absurd (zd b hb) (Nat.not_lt.mpr (q▸Nat.le_trans kH (Nat.le_of_succ_le z.2)))),fun p hp=>by
    rw [xT,List.nil_append] at hp;obtain rfl:=List.mem_singleton.mp hp
    exact LH b hb⟩
 have F2:H1 s1.heap.objs.size=none:=I1.hok.fresh (Nat.le_refl _)
 have I2:∀tk,Inv Y [(s1.heap.objs.size,lobj [] 0)] (List.replicate xs.length none++wu σ is) H1 {s1 with heap:=h₁,toks:=tk}:=fun tk=>by
  refine⟨M7,by rw [GD],I1.bare,by rw [GD,LG];exact Un.kept old,⟨_,by rw [C8];exact hns₁,fun i x v e1 e2 e3=>?_⟩,fun x c e=>?_,?_,fun x c e=>(Ig x c e).elim (fun z=>I1.freeC x c z.1) (fun z=>I1.hok.fresh (Nat.le_trans kH (Nat.le_of_succ_le z.2))),fun p hp=>?_,by rw [G7,G8];exact I1.hok.kept old,?_⟩
  ·
   have JW:Y.N=xs++ys:=by rw [←hY];rfl
   rw [JW] at e1
   by_cases cm:i<xs.length
   ·rw [List.getElem?_append_left (by rw [List.length_replicate];exact cm),List.getElem?_replicate,if_pos cm] at e2;cases e2
   ·have CD:xs.length≤i:=Nat.not_lt.mp cm
    rw [List.getElem?_append_right (by rw [List.length_replicate];exact CD),List.length_replicate] at e2;rw [List.getElem?_append_right CD] at e1;obtain⟨i0,h0,h1⟩:=r9 S.slots _ x v e1 e2
    have hm:x∈ys:=List.mem_of_getElem? e1
    have kx:X.env.kindOf x=some .cell:=of_decide_eq_true (List.all_eq_true.mp S.kX x hm)
    have ky:(relabel scope X.env).names.lookup x=some .cell:=of_decide_eq_true (List.all_eq_true.mp S.kY x hm)
    obtain⟨m,_,hl⟩:=I1.loc
    obtain⟨u,ru,lk⟩:=hl i0 x v h0 h1 (.inr (.inl kx))
    refine⟨u,ru,.inr ⟨.inl (by rw [←hY];exact ky),?_⟩⟩;rcases lk with⟨z,_⟩|⟨_,c,hc1,hc2⟩
    ·rw [kx] at z;cases z
    ·obtain⟨c',fW⟩:=gB (env:=X.env) hm
     have Gg:=dJ S.cells x c' fW
     rw [hc1] at Gg;cases Gg;refine⟨c,by rw [←hY];exact(n9 _ _ _ fun z=>(S.ownL z).2 hm).trans fW,?_⟩
     obtain⟨o,ho,hd⟩:=hc2
     exact⟨o,old _ _ ho,hd⟩
  ·rcases Ig x c e with z|z
   ·obtain⟨v,o,ho,hd⟩:=I1.cell x c z.1
    exact⟨v,o,old _ _ ho,hd⟩
   ·exact⟨none,Nj x c e z.2⟩
  ·rw [C8];exact I1.hok.fresh kH
  ·rw [xT,List.nil_append] at hp;exact Hm (s':={s1 with heap:=h₁,toks:=tk}) C3 F2 p hp
  ·have JW:Y.N=xs++ys:=by rw [←hY];rfl
   have hl:=congrArg List.length S.slots
   rw [List.length_map,List.length_map] at hl;rw [JW,List.length_append,List.length_append,List.length_replicate];unfold wu;rw [List.length_map,hl]
 have loop:∀s₃:Shared,s₃={s1 with heap:=h₁}→
  codeAny (model X.prog X.w) X.A (.compLoop (.ListComp elt [⟨tg,iter,ifs,0⟩] scope pos) 0 (.ref it) (.ref s1.heap.objs.size) (compEnvC scope (cellsFrom (G2.objs.size+1) scope.names (bz X.env ys)) G2.objs.size X.env))
   (compPost (model X.prog X.w) X.A X.xe use QQ (.ref s1.heap.objs.size) G2.objs.size) s₃:=by
  rintro s₃ rfl
  rw [NA];refine mv (fun k s'=>∃i made σ' H' aE c,Inv Y [(s1.heap.objs.size,lobj aE c)] σ' H' s'∧tn i s'.heap∧(∀b∈fp,H' b=none)∧Vals made aE∧k=n-i∧W i made σ' H') ?_ n
   ⟨0,[],_,H1,[],0,I2 _,T.keep _ _ _ st1 fun b _ o e=>old b o e,fun b hb=>(f1 b hb).1,.nil,rfl,w0⟩
  rintro k s' ⟨i,made,σ',H',aE,c,I3,st3,fr3,rv,rfl,w3⟩
  obtain⟨hz,tw⟩:=turn i made σ' H' w3
  have pD:=I3.pin (s1.heap.objs.size,lobj aE c) (by rw [xT];exact List.mem_singleton.mpr rfl)
  rcases tw with⟨stop,hq⟩|⟨go,K3,step⟩
  ·rw [←Kf];refine bL (T.done Y G7 G8 KQ Hv i _ s' σ' H' _ I3 (Ke fr3) st3 stop) fun r s4 ⟨hr,I4⟩=>?_
   subst hr;obtain⟨m,hn4,_⟩:=I4.loc
   rw [C8] at hn4;have J7:=I4.pin (s1.heap.objs.size,lobj aE c) (by rw [xT];exact List.mem_singleton.mpr rfl)
   have kp:∀b o,b≠G2.objs.size→s4.heap.get? b=some o→s4.heap.get? b=some o:=fun b o hb e=>e
   have Km:∀{b o},s1.heap.get? b=some o→b≠G2.objs.size:=fun{b o} e=>Nat.ne_of_lt (Nat.lt_of_lt_of_le (Heap.lt_size e) kH)
   have eB:=I4.base
   rw [GD,LG,Gj,Hr] at eB;have Js:∀{b o},H1 b=some o→b≠s1.heap.objs.size:=fun{b o} e=>Nat.ne_of_lt (I1.hok.lt e)
   have u:Un (dQ X.stack) fp H1 (upd H' s1.heap.objs.size (.lst made)) s1.heap s4.heap:=by
    refine⟨fun b o e n hb hx=>kp b o (Km e) (eB.keep b o e n hb hx),fun b o e n hb hx=>?_,fun b o e n hx=>?_,fun b o e hx=>?_,fun b xs e=>?_,fun b o u e=>?_,fun b ps e=>?_⟩
    ·obtain⟨sl,q⟩:=eB.slot b o e n hb hx
     exact⟨sl,kp b _ (Km e) q⟩
    ·rw [ah (Nat.ne_of_lt (Heap.lt_size e))];exact eB.free b o e n hx
    ·obtain⟨o',q⟩:=eB.there b o e hx
     exact⟨o',kp b _ (Km e) q⟩
    ·rw [ah (Js e)];exact eB.tups b xs e
    ·rw [ah (Js e)];exact eB.frzs b o u e
    ·obtain⟨more,q⟩:=eB.tbls b ps e
     exact⟨more,by rw [ah (Js e)];exact q⟩
   have K1:H' G2.objs.size=none:=by rw [←C8];exact I4.free
   have Ak:dG X.prog X.w (upd H' s1.heap.objs.size (.lst made)) s4.heap:=fun b o e=>by
    by_cases hb:b=s1.heap.objs.size
    ·subst hb;rw [au] at e;cases e;exact⟨Nat.le_of_lt hz,aE,c,rv,kp _ _ Ik J7.1⟩
    ·rw [ah hb] at e;have x4:=I4.hok b o e
     rw [G7,G8] at x4;have DF:∀b' u,H' b'=some u→b'≠G2.objs.size:=fun b' u q z=>by rw [z,K1] at q;cases q
     have K6:∀b' u,H' b'=some u→b'≠s1.heap.objs.size:=fun b' u q z=>by rw [z,J7.2.1] at q;cases q
     refine x4.stay (fun b' u oF q=>kp b' u ?_ q) (fun b' q=>?_) fun b' xs q=>?_
     ·rcases oF with z|z
      ·rw [z];exact DF b o e
      ·exact DF b' _ z
     ·rw [ah (K6 b' _ q)];exact q
     ·rw [ah (K6 b' _ q)];exact q
   have I5:Inv X pins σ (upd H' s1.heap.objs.size (.lst made)) s4:=I1.call' (by show s4.os=s1.os;rw [I4.os,GD]) u Ak I4.bare fun b hb=>⟨(f1 b hb).2.2.2.1,(f1 b hb).2.1,(f1 b hb).2.2.2.2.1,(f1 b hb).2.2.2.2.2⟩
   dsimp only;rw [Kf];exact fin s1.heap.objs.size G2.objs.size s4 _ m I5 hn4 (I1.fpOk kH (by rw [ah (Ne.symm Ik)];exact K1)) (hq _ J7.2.1)
  ·rw [←Kf];refine bL (T.item Y G7 G8 KQ Hv i _ s' σ' H' _ I3 (Ke fr3) st3 go) fun r s4 ⟨u,hr,h4⟩=>?_
   subst hr;dsimp only;refine bL h4 fun _ s5 ⟨x,H5,I5,r5,y5,st5,fr5⟩=>?_
   have Kw:=I5.pinned (Ke fr5) (T.obj _ _ st5)
   have Lr:=hg fp s1 H1 G2.objs.size
   have LV:=he fp s1 H1 G2.objs.size
   have Ls:=ht fp s1 H1 G2.objs.size
   rw [hY] at Lr LV Ls;rw [←G7,←G8];refine wpAny_mono (Lr _ s5 σ' H5 x u _ Kw r5 (step x H5 y5)) (fun _ s6 ⟨σ6,H6,I6,q6⟩=>?_) (fun _ _ f=>by rw [DY] at f;exact f.elim);refine wpAny_mono (Ls _ s6 σ6 H6 _ I6 q6) (fun okb sT ⟨HT,IT,qT⟩=>?_) (fun _ _ f=>by rw [DY] at f;exact f.elim);have NS:=IT.pin (s1.heap.objs.size,lobj aE c) (List.mem_append_right _ (List.mem_append_left _ (List.mem_singleton.mpr rfl)))
   have Nq:tn (i+1) sT.heap:=T.keep _ _ _ st5 fun b hb o e=>(IT.pin (b,o) (List.mem_append_right _ (List.mem_append_right _ (cY hb e)))).1
   cases okb with
   |false=>
    refine⟨n-(i+1),by omega,i+1,made,σ6,HT,aE,c,IT.unpinned,Nq,fun b hb=>?_,rv,rfl,qT⟩
    obtain⟨o,e,d⟩:=T.obj _ _ st5 b hb
    exact(IT.pin (b,o) (List.mem_append_right _ (List.mem_append_right _ (cY hb e)))).2.1
   |true=>
   refine wpAny_mono (LV _ sT σ6 HT _ IT qT) (fun v s7 ⟨y,H7,I7,r7,q7⟩=>?_) (fun _ _ f=>by rw [DY] at f;exact f.elim);have Kg:=I7.pin (s1.heap.objs.size,lobj aE c) (List.mem_append_right _ (List.mem_append_left _ (List.mem_singleton.mpr rfl)))
   have e7:s7.heap.get? s1.heap.objs.size=some {cls:=.type "list",data:=.seq aE.toArray c}:=Kg.1
   refine append_at (hsz:=by rw [List.size_toArray,←rv.length];exact Nat.le_of_lt hz) e7 fun h' uT LW=>?_
   have I8:Inv Y [] σ6 H7 s7:=I7.pins_of fun _ z=>nomatch z
   have I9:Inv Y [] σ6 H7 {s7 with heap:=h'}:=I8.turned (t':=s7.toks) (it:=s1.heap.objs.size) (fun b o hb e=>uT.extBut b o hb e) Kg.2.1 (by rw [C8];exact Ik) (.inr (by rw [GD];exact Nat.le_refl _))
    (fun x c' e=>Mu x c' e) (fun p hp=>by rw [xT] at hp;cases hp)
   have eD:h'.get? s1.heap.objs.size=some (lobj (aE++[v]) (c+1)):=by rw [LW,List.push_toArray]
   have NL:tn (i+1) s7.heap:=T.keep _ _ _ st5 fun b hb o e=>(I7.pin (b,o) (List.mem_append_right _ (List.mem_append_right _ (cY hb e)))).1
   refine⟨n-(i+1),by omega,i+1,made++[y],σ6,H7,aE++[v],c+1,I9.pins_of (Hm (s':={s7 with heap:=h'}) eD Kg.2.1),T.keep _ _ _ NL fun b hb o e=>uT.extBut b o (Ne.symm (LH b hb)) e,fun b hb=>?_,rv.append (.cons r7 .nil),rfl,q7⟩
   obtain⟨o,e,d⟩:=T.obj _ _ st5 b hb
   exact(I7.pin (b,o) (List.mem_append_right _ (List.mem_append_right _ (cY hb e)))).2.1
 exact codeAny_compStart_list (loop _ rfl) (T.self _ 0 _ _ _ (T.keep _ _ _ st1 fun b _ o e=>old b o e) (loop _ rfl))
theorem zD{elt tg iter:Expr}{pos:Pos}{wi:TI}{g:TG}{te:TE}(hc:X.calm=true)(S:dX X scope xs ys is)(hi:PI X tg iter wi)
 (hg:∀fp s1 H1 C,PG (bP X (xs++ys) scope (bz X.env ys) fp s1 H1 C) tg g) (he:∀fp s1 H1 C,PE (bP X (xs++ys) scope (bz X.env ys) fp s1 H1 C) elt te)
 (hs:∀x,foldedSetIterable iter X.env x=pure x:=by intro _;rfl):
 PE X (.ListComp elt [⟨tg,iter,[],0⟩] scope pos) (xx wi xs.length g te is):=by
 intro pins s σ H Q I h;rw [eval_ListComp];exact fC (use:=none) (Q:=Q) hc S hi hg (fun _ _ _ _=>rN) he hs I h (fun D C s4 H4 m I5 hn ⟨g0,g1,_,g3,g4,g5⟩ q=>⟨m,hn,fun h' uT=>⟨.ref D,H4,I5.turned (t':=s4.toks) (it:=C) (fun b o hb e=>uT.extBut b o hb e) g0 g1 g3 g4 g5,rfl,q⟩⟩)
theorem uC{elt tg iter B6:Expr}{pos:Pos}{wi:TI}{g:TG}{te:TE}{tt:TT}(hc:X.calm=true)(S:dX X scope xs ys is)(hi:PI X tg iter wi)
 (hg:∀fp s1 H1 C,PG (bP X (xs++ys) scope (bz X.env ys) fp s1 H1 C) tg g) (ht:∀fp s1 H1 C,PT (bP X (xs++ys) scope (bz X.env ys) fp s1 H1 C) B6 tt) (he:∀fp s1 H1 C,PE (bP X (xs++ys) scope (bz X.env ys) fp s1 H1 C) elt te)
 (hs:∀x,foldedSetIterable iter X.env x=pure x:=by intro _;rfl):
 PE X (.ListComp elt [⟨tg,iter,[B6],0⟩] scope pos) (iU wi xs.length g tt te is):=by
 intro pins s σ H Q I h;rw [eval_ListComp];exact fC (use:=none) (Q:=Q) hc S hi hg (fun fp s1 H1 C=>sY (ht fp s1 H1 C)) he hs I h (fun D C s4 H4 m I5 hn ⟨g0,g1,_,g3,g4,g5⟩ q=>⟨m,hn,fun h' uT=>⟨.ref D,H4,I5.turned (t':=s4.toks) (it:=C) (fun b o hb e=>uT.extBut b o hb e) g0 g1 g3 g4 g5,rfl,q⟩⟩)
end
end L2
namespace L2
open PySem PySem.Spec PyProof.Rows
theorem bA{H:Hp}{p:Addr}{o:HO}(h:H p=none):aF H (upd H p o):=fun b u e=>by rw [ah (cZ e h)];exact e
section
variable{X:Cx}
def IB:V→Option Int→Option Int→Hp→VK→Prop:=fun x lo hi H Q=>∃z,x=.str z∧z.length≤sizeLine∧Q (.str (Txt.slice z lo hi)) H
theorem DU:SlR X IB:=by
 intro pins s σ H x v vl vu lo hi sl Q I rx hs pl pu h;obtain⟨z,rfl,hz,q⟩:=h
 obtain⟨t,rfl⟩:=rx
 refine⟨"str",_,F.slot_str_getitem.lookup,typeIs_str _ _ _,?_⟩;have fin:∀t' k,EP X pins σ Q (.str (Txt.slice z lo hi) t') {s with toks:=k}:=fun t' k=>⟨.str _,H,I.tok k,⟨t',rfl⟩,q⟩
 cases pl with
 |none=>
  cases pu with
  |none=>exact wpAny_getItem_str_slice (l:=none) (u:=none) (st:=none) hs rfl (post_val_or_str ⟨Nat.le_trans (Txt.slice_le z _ _) hz,fin⟩)
  |int j uj=>exact wpAny_getItem_str_slice (l:=none) (u:=some (j,uj)) (st:=none) hs rfl (post_val_or_str ⟨Nat.le_trans (Txt.slice_le z _ _) hz,fin⟩)
 |int i ui=>
  cases pu with
  |none=>exact wpAny_getItem_str_slice (l:=some (i,ui)) (u:=none) (st:=none) hs rfl (post_val_or_str ⟨Nat.le_trans (Txt.slice_le z _ _) hz,fin⟩)
  |int j uj=>exact wpAny_getItem_str_slice (l:=some (i,ui)) (u:=some (j,uj)) (st:=none) hs rfl (post_val_or_str ⟨Nat.le_trans (Txt.slice_le z _ _) hz,fin⟩)
end
end L2
namespace Cw
open PySem L2
def sgn(c:Nat):Bool:=c==35||(48≤c&&c≤57)
def Mr:V→Bool
 |.str z=>decide (1≤z.cps.toList.length)&&decide (z.cps.toList.length≤12)&&z.cps.toList.all sgn
 |_=>false
def FU:V→Nat
 |.str z=>z.cps.toList.length
 |_=>0
section
variable{K:PySem.W.Frag}
abbrev kit(K:PySem.W.Frag)(t n:String)(b:Bool):Prop:=PySem.W.kitOne K (.type t) (.type n)=some b
theorem kit_same{K:PySem.W.Frag}(t:String):kit K t t true:=by unfold kit PySem.W.kitOne;rw [if_pos (by simp)]
theorem kit_of{t n:String}{b:Bool}(h0:(Value.type t==Value.type n)=false)(h1:PySem.W.kitMeta n=true)(h2:(fastBuiltinMro t).map (·.contains (Value.type n))=some b):kit K t n b:=by
 unfold kit PySem.W.kitOne;rw [if_neg (by rw [h0];exact zzf)];show(if PySem.W.kitMeta n=true then PySem.W.subIn K (.type t) (.type n) else none)=some b
 rw [if_pos h1];exact h2
end
abbrev LL:Str:="#0123456789"
end Cw
namespace L2
open PySem PySem.Spec PyProof.Rows
section
variable{X:Cx}{pos:Pos}
end
end L2
namespace L2
open PySem PySem.Spec PyProof.Rows
structure CP(K:PySem.W.Frag)(C:Addr):Prop where
 ga:PySem.W.findIn K (.ref C) "__getattribute__"=some (some (.builtin "BaseException.__getattribute__"))
 hk:PySem.W.findIn K (.ref C) "__getattr__"=some none
 cl:PySem.W.findIn K (.ref C) "__class__"=some (some (.builtin "object.__class__"))
 mo:PySem.W.mroIn K C (.type "object")=some true
 mb:PySem.W.mroIn K C (.type "BaseException")=some true
 is:(PySem.W.clsIn K C).isSome=true
section
variable{prog:Program}{w:World}{A:Around}{E:Value→Shared→Prop}{h:Heap}{g:Array GenState}{d:Drawn}{t:Nat}{os:OsState}{x C:Addr}{o:Obj}{K:PySem.W.Frag}
end
section
variable{X:Cx}
end
end L2
namespace L2
open PySem PySem.Spec PyProof.Rows
section
variable{X:Cx}{pins:List (Addr×Obj)}{σ:St}{H:Hp}{s:Shared}
end
end L2
namespace L2
open PySem PySem.Spec PyProof.Rows
section
variable{X:Cx}
end
end L2
namespace L2
open PySem PySem.Spec PyProof.Rows
open PySem.AutoSeq1 (wpAny_loadPart')
end L2
namespace Cw
open PySem L2
theorem jk(xs:List Nat)(k:Nat):∀n,(List.range n).filterMap (fun m=>xs[k+m]?)=(xs.drop k).take n
 |0=>by simp
 |n+1=>by
  rw [List.range_succ,List.filterMap_append,jk xs k n,List.take_add_one,List.getElem?_drop];cases h:xs[k+n]?<;>simp [h]
theorem Dw(k n:Nat)(h:k≤n):Builtin.Str.strSliceIndices (some (k:Int)) none 1 n=(List.range (n-k)).map fun m=>k+m:=by
 unfold Builtin.Str.strSliceIndices sliceRange;simp only [show(1:Int)>0 by decide,if_true];have h0:¬((k:Int)<0):=by omega
 rw [if_neg h0];have e1:max 0 (min (k:Int) (n:Int))=k:=by omega
 rw [e1];have e2:(if(k:Int)<(n:Int) then((n:Int)-k+1-1)/1 else 0).toNat=n-k:=by
  split
  ·rw [Int.ediv_one];omega
  ·omega
 rw [e2]
 apply List.map_congr_left
 intro m _;omega
theorem EA(k n:Nat)(h:k≤n):Builtin.Str.strSliceIndices none (some (k:Int)) 1 n=(List.range k).map fun m=>0+m:=by
 unfold Builtin.Str.strSliceIndices sliceRange;simp only [show(1:Int)>0 by decide,if_true];have h0:¬((k:Int)<0):=by omega
 rw [if_neg h0];have e1:max 0 (min (k:Int) (n:Int))=k:=by omega
 rw [e1];have e2:(if(0:Int)<(k:Int) then((k:Int)-0+1-1)/1 else 0).toNat=k:=by
  split
  ·rw [Int.ediv_one];omega
  ·omega
 rw [e2]
 apply List.map_congr_left
 intro m _;omega
theorem slice_hi(x:Str)(k:Nat)(h:k≤x.length):(PySem.Txt.slice x (some (k:Int)) none).cps.toList=x.cps.toList.drop k:=by
 have hl:x.cps.toList.length=x.length:=by simp [Str.length]
 unfold PySem.Txt.slice;rw [Dw k _ h];split
 ·rename_i hc;simp at hc;have:k=0:=by omega
  subst this;simp
 ·show((List.range (x.length-k)).map (fun m=>k+m)).filterMap (x.cps[·]?)=_
  rw [List.filterMap_map];have:((x.cps[·]?)∘fun m=>k+m)=fun m=>x.cps.toList[k+m]?:=by funext m;simp
  rw [this,jk,List.take_of_length_le (by rw [List.length_drop,hl];exact Nat.le_refl _)]
theorem slice_lo(x:Str)(k:Nat)(h:k≤x.length):(PySem.Txt.slice x none (some (k:Int))).cps.toList=x.cps.toList.take k:=by
 have hl:x.cps.toList.length=x.length:=by simp [Str.length]
 unfold PySem.Txt.slice;rw [EA k _ h];split
 ·rename_i hc;simp at hc;rw [hc,←hl,List.take_length]
 ·show((List.range k).map (fun m=>0+m)).filterMap (x.cps[·]?)=_
  rw [List.filterMap_map];have:((x.cps[·]?)∘fun m=>0+m)=fun m=>x.cps.toList[0+m]?:=by funext m;simp
  rw [this,jk,List.drop_zero]
end Cw
namespace L2
open PySem PySem.Spec PyProof.Rows
section
variable{X:Cx}
theorem oh:cU X (.type "int") (fun xs H Q=>∃z n,xs=[.str z]∧PySem.intText? z=some n∧z.length≤640∧Q (.int n) H):=by
 intro pins s σ H xs us Q I r h;obtain⟨z,n,rfl,h1,h2,q⟩:=h
 obtain⟨u,rfl,t,rfl⟩:=vals1 r
 exact PySem.W.KIN.call_text h1 h2 ⟨.int n,H,I.tok _,⟨_,rfl⟩,q⟩
end
end L2
namespace Cw
open PySem L2
end Cw
namespace L2
open PySem PySem.Spec PyProof.Rows
theorem lh{α β:Type}{R:α→β→Prop}:∀{xs:List α} {ys:List β},Paired R xs ys→∀{i:Nat} {x:α},xs[i]?=some x→∃y,ys[i]?=some y∧R x y
 |_,_,.nil,_,_,h=>by simp at h
 |_,_,.cons r t,0,x,h=>by simp at h;subst h;exact⟨_,rfl,r⟩
 |_,_,.cons r t,i+1,x,h=>by
  obtain⟨y,h1,h2⟩:=lh t (i:=i) (x:=x) (by simpa using h)
  exact⟨y,by simpa using h1,h2⟩
theorem j5{α β:Type}{R:α→β→Prop}:∀{xs:List α} {ys:List β},Paired R xs ys→xs.length=ys.length
 |_,_,.nil=>rfl
 |_,_,.cons _ t=>by simp [j5 t]
section
variable{X:Cx}
theorem ib{vs:List V}{aE:List Value}(r:Vals vs aE){j:Nat}(h:j<aE.toArray.size):∃v,vs[j]?=some v∧RelV v aE.toArray[j]:=by
 have hl:=r.length
 rw [List.size_toArray] at h;have hj:j<vs.length:=by omega
 obtain⟨u,hu,ru⟩:=r.get (i:=j) (x:=vs[j]) (List.getElem?_eq_getElem hj)
 rw [List.getElem?_eq_getElem h] at hu;cases hu;exact⟨_,List.getElem?_eq_getElem hj,by simpa using ru⟩
end
end L2
namespace L2
open PySem PySem.Spec PyProof.Rows
abbrev bx:HO:=.ext fun _=>True
theorem jb{P:Program}{w:World}{H:Hp}{h:Heap}{a:Addr}{o:Obj}(e:h.get? a=some o):bK P w H h a (.frz o bx):=⟨e,trivial,⟨o,e⟩,fun _ _ _ _=>trivial⟩
def withZ(Z:List (Addr×Obj))(H:Hp):Hp:=fun b=>match Z.lookup b with
 |some o=>some (.frz o bx)
 |none=>H b
def aY(Z:List (Addr×Obj))(H:Hp):Hp:=fun b=>match Z.lookup b with
 |some _=>none
 |none=>H b
section
variable{Z:List (Addr×Obj)}{H H':Hp}{b:Addr}{o:Obj}
theorem aZ(e:Z.lookup b=some o):withZ Z H b=some (.frz o bx):=by unfold withZ;rw [e]
theorem aj(e:Z.lookup b=none):withZ Z H b=H b:=by unfold withZ;rw [e]
theorem ee(e:Z.lookup b=some o):aY Z H b=none:=by unfold aY;rw [e]
theorem aB(e:Z.lookup b=none):aY Z H b=H b:=by unfold aY;rw [e]
theorem dD{u:HO}(e:aY Z H b=some u):Z.lookup b=none∧H b=some u:=by
 cases q:Z.lookup b with
 |none=>rw [aB q] at e;exact⟨rfl,e⟩
 |some o=>rw [ee q] at e;cases e
theorem f7(h:H b=none):aY Z H b=none:=by
 cases q:Z.lookup b with
 |none=>rw [aB q];exact h
 |some o=>exact ee q
structure qQ(Z:List (Addr×Obj))(H:Hp)(fs:List Addr)(h:Heap):Prop where
 at_:∀b o,Z.lookup b=some o→h.get? b=some o
 no:∀b o,Z.lookup b=some o→H b=none
 fr:∀b o,Z.lookup b=some o→b∉fs
variable{P:Program}{w:World}{fs:List Addr}{h h':Heap}
theorem qQ.hok(z:qQ Z H fs h)(k:dG P w H h):dG P w (withZ Z H) h:=fun b u e=>by
 cases q:Z.lookup b with
 |some o=>rw [aZ q] at e;cases e;exact jb (z.at_ b o q)
 |none=>
  rw [aj q] at e;have nz:∀c v,H c=some v→Z.lookup c=none:=fun c v hv=>by
   cases y:Z.lookup c with
   |none=>rfl
   |some o=>rw [z.no c o y] at hv;cases hv
  exact(k b u e).stay (fun c v _ r=>r) (fun c r=>by rw [aj (nz c _ r)];exact r) fun c xs r=>by rw [aj (nz c _ r)];exact r
theorem qQ.un_less(z:qQ Z H fs h)(u:Un fs [] (withZ Z H) H' h h')(k:dG P w H' h'):Un fs [] H (aY Z H') h h'∧dG P w (aY Z H') h':=by
 have zk:∀b o,Z.lookup b=some o→H' b=some (.frz o bx):=fun b o q=>u.frzs b o _ (aZ q)
 have zh:∀b o,Z.lookup b=some o→h'.get? b=some o:=fun b o q=>(k b _ (zk b o q)).1
 have nz:∀c v,H c=some v→Z.lookup c=none:=fun c v hv=>by
  cases y:Z.lookup c with
  |none=>rfl
  |some o=>rw [z.no c o y] at hv;cases hv
 refine⟨⟨fun b o e n hb hx=>?_,fun b o e n hb hx=>?_,fun b o e n hx=>?_,fun b o e hx=>u.there b o e hx,fun b xs e=>?_,fun b o v e=>?_,fun b ps e=>?_⟩,fun b v e=>?_⟩
 ·cases q:Z.lookup b with
  |some o'=>
   have e2:=z.at_ b o' q
   rw [e] at e2;cases e2;exact zh b o q
  |none=>exact u.keep b o e (by rw [aj q];exact n) hb hx
 ·cases q:Z.lookup b with
  |some o'=>exact absurd hb (z.fr b o' q)
  |none=>exact u.slot b o e (by rw [aj q];exact n) hb hx
 ·cases q:Z.lookup b with
  |some o'=>exact ee q
  |none=>rw [aB q];exact u.free b o e (by rw [aj q];exact n) hx
 ·rw [aB (nz b _ e)];exact u.tups b xs (by rw [aj (nz b _ e)];exact e)
 ·rw [aB (nz b _ e)];exact u.frzs b o v (by rw [aj (nz b _ e)];exact e)
 ·rw [aB (nz b _ e)];exact u.tbls b ps (by rw [aj (nz b _ e)];exact e)
 ·obtain⟨q,e1⟩:=dD e
  refine(k b v e1).stay (fun c y _ r=>r) (fun c r=>?_) fun c xs r=>?_
  ·cases y:Z.lookup c with
   |none=>rw [aB y];exact r
   |some o=>rw [zk c o y] at r;cases r
  ·cases y:Z.lookup c with
   |none=>rw [aB y];exact r
   |some o=>rw [zk c o y] at r;cases r
theorem qQ.un_with(z:qQ Z H fs h)(u:Un fs [] H H' h h')(k:dG P w H' h'):Un fs [] (withZ Z H) (withZ Z H') h h'∧dG P w (withZ Z H') h':=by
 have zh:∀b o,Z.lookup b=some o→h'.get? b=some o:=fun b o q=>u.keep b o (z.at_ b o q) (z.no b o q) (z.fr b o q) (fun y=>nomatch y)
 have zn:∀b o,Z.lookup b=some o→H' b=none:=fun b o q=>u.free b o (z.at_ b o q) (z.no b o q) (fun y=>nomatch y)
 have nz:∀c v,H' c=some v→Z.lookup c=none:=fun c v hv=>by
  cases y:Z.lookup c with
  |none=>rfl
  |some o=>rw [zn c o y] at hv;cases hv
 have nw:∀b,withZ Z H b=none→Z.lookup b=none∧H b=none:=fun b e=>by
  cases q:Z.lookup b with
  |some o=>rw [aZ q] at e;cases e
  |none=>rw [aj q] at e;exact⟨rfl,e⟩
 refine⟨⟨fun b o e n hb hx=>u.keep b o e (nw b n).2 hb hx,fun b o e n hb hx=>u.slot b o e (nw b n).2 hb hx,fun b o e n hx=>?_,fun b o e hx=>u.there b o e hx,fun b xs e=>?_,fun b o v e=>?_,fun b ps e=>?_⟩,fun b v e=>?_⟩
 ·rw [aj (nw b n).1];exact u.free b o e (nw b n).2 hx
 ·cases q:Z.lookup b with
  |some o=>rw [aZ q] at e;cases e
  |none=>rw [aj q] at e⊢;exact u.tups b xs e
 ·cases q:Z.lookup b with
  |some o'=>rw [aZ q] at e⊢;exact e
  |none=>rw [aj q] at e⊢;exact u.frzs b o v e
 ·cases q:Z.lookup b with
  |some o=>rw [aZ q] at e;cases e
  |none=>rw [aj q] at e⊢;exact u.tbls b ps e
 ·cases q:Z.lookup b with
  |some o=>rw [aZ q] at e;cases e;exact jb (zh b o q)
  |none=>
   rw [aj q] at e;exact(k b v e).stay (fun c y _ r=>r) (fun c r=>by rw [aj (nz c _ r)];exact r) fun c xs r=>by rw [aj (nz c _ r)];exact r
end
section
variable{P:Program}{w:World}{K:PySem.W.Frag}{mg:Str→Option Value}{base:Heap}{A:Around}{outer:List Env}{s s':Shared}{H:Hp}{Z:List (Addr×Obj)}
theorem gv.withZ(e:gv P w K mg base A outer s H)(z:qQ Z H (dQ outer) s.heap)(zb:∀b o,Z.lookup b=some o→base.get? b=none):gv P w K mg base A outer s (withZ Z H) where
 frames:=e.frames
 mod:=e.mod
 bs:=fun b o q=>⟨(e.bs b o q).1,by
  cases y:Z.lookup b with
  |some o'=>rw [zb b o' y] at q;cases q
  |none=>rw [aj y];exact(e.bs b o q).2⟩
 bsz:=e.bsz
 funs:=e.funs
 frf:=fun b hb=>by
  cases y:Z.lookup b with
  |some o'=>exact absurd hb (z.fr b o' y)
  |none=>rw [aj y];exact e.frf b hb
 hok:=z.hok e.hok
 bare:=e.bare
theorem CE.less{Q:VK}{u:Value}(z:qQ Z H (dQ outer) s.heap)(h:CE outer P w (withZ Z H) s (fun v H'=>Q v (aY Z H')) u s'):CE outer P w H s Q u s':=by
 obtain⟨v,H',os,bare,un,hok,r,q⟩:=h
 obtain⟨u1,k1⟩:=z.un_less un hok
 exact⟨v,_,os,bare,u1,k1,r,q⟩
theorem CE.more{Q:VK}{u:Value}(z:qQ Z H (dQ outer) s.heap)(h:CE outer P w H s (fun v H'=>(∀b o,Z.lookup b=some o→H' b=none)→Q v (withZ Z H')) u s'):CE outer P w (withZ Z H) s Q u s':=by
 obtain⟨v,H',os,bare,un,hok,r,q⟩:=h
 obtain⟨u1,k1⟩:=z.un_with un hok
 exact⟨v,_,os,bare,u1,k1,r,q fun b o y=>un.free b o (z.at_ b o y) (z.no b o y) (fun y=>nomatch y)⟩
theorem dA.less{E:XK}{e:Value}(z:qQ Z H (dQ outer) s.heap)(h:dA P w outer (withZ Z H) s (fun C a H'=>E C a (aY Z H')) e s'):dA P w outer H s E e s':=by
 obtain⟨a,C,t,vs,H',B,rfl,F⟩:=h
 have zk:∀b o,Z.lookup b=some o→H' b=some (.frz o bx):=fun b o q=>F.un.frzs b o _ (aZ q)
 have kB:∀b o,s.heap.get? b=some o→H b=none→b∉dQ outer→B.get? b=some o:=fun b o e n hb=>by
  cases q:Z.lookup b with
  |some o'=>
   have e2:=z.at_ b o' q
   rw [e] at e2;cases e2;exact(F.hok b _ (zk b o q)).1
  |none=>exact F.keepB b o e (by rw [aj q];exact n) hb
 have hB:dG P w (aY Z H') B:=fun b v e=>by
  obtain⟨q,e1⟩:=dD e
  refine(F.hok b v e1).stay (fun c y _ r=>r) (fun c r=>?_) fun c xs r=>?_
  ·cases y:Z.lookup c with
   |none=>rw [aB y];exact r
   |some o=>rw [zk c o y] at r;cases r
  ·cases y:Z.lookup c with
   |none=>rw [aB y];exact r
   |some o=>rw [zk c o y] at r;cases r
 have hs:dG P w H' s'.heap:=fun b v e=>(F.hok b v e).stay (fun c y _ r=>F.fly.1 _ _ r) (fun _ r=>r) fun _ _ r=>r
 obtain⟨u1,_⟩:=z.un_less (P:=P) (w:=w) F.un hs
 exact⟨a,C,t,vs,_,B,rfl,⟨F.os,F.bare,hB,F.fly,F.tn,F.tup,kB,F.thereB,u1,F.ends⟩⟩
theorem dA.more{E:XK}{e:Value}(z:qQ Z H (dQ outer) s.heap)(h:dA P w outer H s (fun C a H'=>(∀b o,Z.lookup b=some o→H' b=none)→E C a (withZ Z H')) e s'):dA P w outer (withZ Z H) s E e s':=by
 obtain⟨a,C,t,vs,H',B,rfl,F⟩:=h
 have zB:∀b o,Z.lookup b=some o→B.get? b=some o:=fun b o q=>F.keepB b o (z.at_ b o q) (z.no b o q) (z.fr b o q)
 have zn:∀b o,Z.lookup b=some o→H' b=none:=fun b o q=>F.un.free b o (z.at_ b o q) (z.no b o q) (fun y=>nomatch y)
 have nz:∀c v,H' c=some v→Z.lookup c=none:=fun c v hv=>by
  cases y:Z.lookup c with
  |none=>rfl
  |some o=>rw [zn c o y] at hv;cases hv
 have hB:dG P w (withZ Z H') B:=fun b v e=>by
  cases q:Z.lookup b with
  |some o=>rw [aZ q] at e;cases e;exact jb (zB b o q)
  |none=>
   rw [aj q] at e;exact(F.hok b v e).stay (fun c y _ r=>r) (fun c r=>by rw [aj (nz c _ r)];exact r) fun c xs r=>by rw [aj (nz c _ r)];exact r
 have hs:dG P w H' s'.heap:=fun b v e=>(F.hok b v e).stay (fun c y _ r=>F.fly.1 _ _ r) (fun _ r=>r) fun _ _ r=>r
 obtain⟨u1,_⟩:=z.un_with (P:=P) (w:=w) F.un hs
 refine⟨a,C,t,vs,_,B,rfl,⟨F.os,F.bare,hB,F.fly,F.tn,F.tup,fun b o e n hb=>F.keepB b o e ?_ hb,F.thereB,u1,F.ends zn⟩⟩
 cases q:Z.lookup b with
 |some o=>rw [aZ q] at n;cases n
 |none=>rw [aj q] at n;exact n
end
end L2
namespace L2
open PySem PySem.Spec PyProof.Rows
structure o6(ps ys:List Str)(scope:Scope):Prop where
 kind:scope.kind=.function
 co:scope.isCoroutine=false
 gen:scope.isGenerator=false
 nd:(ps++ys).Nodup
 nocell:∀x∈scope.names,x.2≠.cell
 par:∀x∈ps,scope.names.lookup x=some .local
 fre:∀y∈ys,scope.names.lookup y=some .free
 cov:∀x,scope.names.lookup x=some .free→x∈ys
noncomputable def Bw(P:Program)(w:World)(K:PySem.W.Frag)(mg:Str→Option Value)(base:Heap)(N:List Str)(qual:Str)(scope:Scope)(f:Addr)(cd:Value)(cl:List (Str×Addr))(A:Around)(outer:List Env)(s:Shared)(H:Hp)(E:XK):Cx where
 prog:=P
 w:=w
 K:=K
 mg:=mg
 base:=base
 A:=A.deeper (PySem.W.envX qual scope s.heap.objs.size f cd cl)
 N:=N
 s₀:=s
 H₀:=H
 env:=PySem.W.envX qual scope s.heap.objs.size f cd cl
 outer:=outer
 stack:=PySem.W.envX qual scope s.heap.objs.size f cd cl::outer
 ex:=[]
 calm:=true
 fn:=fun _=>false
 pn:=[]
 xe:=fun e s'=>wpAny (model P w) (A.deeper (PySem.W.envX qual scope s.heap.objs.size f cd cl)) (leaving (PySem.W.envX qual scope s.heap.objs.size f cd cl) e) (fun _ A7=>dA P w outer H s E e A7) (fun e' A7=>dA P w outer H s E e' A7) s'
theorem lK{α:Type}:∀{l:List (Str×α)} {x:Str} {v:α},(l.map (·.1)).Nodup→(x,v)∈l→l.lookup x=some v
 |(y,u)::r,x,v,nd,h=>by
  rw [List.map_cons,List.nodup_cons] at nd;rw [List.lookup_cons];rcases List.mem_cons.mp h with e|e
  ·cases e;simp
  ·have fU:(x==y)=false:=beq_eq_false_iff_ne.mpr fun z=>nd.1 (by subst z;exact List.mem_map_of_mem (f:=(·.1)) e)
   rw [fU];exact lK nd.2 e
theorem j1{ps:List Str}{us:List Value}{i:Nat}{x:Str}{u:Value}(nd:ps.Nodup)(h1:ps[i]?=some x)(h2:us[i]?=some u):(ps.zip us).reverse.lookup x=some u:=by
 have hs:∀{ps:List Str} {us:List Value},List.Sublist ((ps.zip us).map (·.1)) ps:=fun{ps us}=>by
  induction ps generalizing us with
  |nil=>simp
  |cons p ps ih=>
   cases us with
   |nil=>simp
   |cons q us=>simpa using ih
 refine lK ?_ ?_
 ·rw [List.map_reverse];exact List.pairwise_reverse.mpr ((nd.sublist hs).imp fun h=>Ne.symm h)
 ·rw [List.mem_reverse];refine List.mem_of_getElem? (i:=i) ?_;rw [List.getElem?_zip_eq_some];exact⟨h1,h2⟩
section
variable{P:Program}{w:World}{K:PySem.W.Frag}{mg:Str→Option Value}{base:Heap}{ps ys:List Str}{qual:Str}{scope:Scope}{f:Addr}{cd:Value}{cl:List (Str×Addr)}{A:Around}{outer:List Env}{s:Shared}{H:Hp}{E:XK}
theorem rD{us:List Value}{vs ws:List V}{h':Heap}{tk:Nat}(S:o6 ps ys scope)(hd:A.handled=none)(e0:gv P w K mg base A outer s H)(E6:∀y∈ys,∃c,cl.lookup y=some c)(inj:∀x y c,cl.lookup x=some c→cl.lookup y=some c→x=y)
 (r:Vals vs us) (hl:vs.length=ps.length) (hw:ws.length=ys.length) (cells:∀(i:Nat) y c,ys[i]?=some y→cl.lookup y=some c→∀v,ws[i]?=some v→∃u,RelV v u∧s.heap.IsCell c (some u)) (Jk:∀x c,cl.lookup x=some c→∃v,s.heap.IsCell c v)
 (Hl:∀x c,cl.lookup x=some c→H c=none) (ns:h'.Ns s.heap.objs.size (fun x=>(ps.zip us).reverse.lookup x)) (hk:∀b o,s.heap.get? b=some o→h'.get? b=some o):
 Inv (Bw P w K mg base (ps++ys) qual scope f cd cl A outer s H E) [] (vs.map some++ws.map some) H {s with heap:=h',toks:=tk}:=by
 have ze:∀b:Addr,b∉(Bw P w K mg base (ps++ys) qual scope f cd cl A outer s H E).ex:=fun b z=>absurd (show b∈([]:List Addr) from z) (by simp)
 have ck:∀c v,s.heap.IsCell c v→h'.IsCell c v:=fun c v ⟨o,ho,hd⟩=>⟨o,hk c o ho,hd⟩
 refine⟨⟨e0.mod,S.kind,rfl,rfl,Nat.le_refl _,inj,fun x hx=>?_,(fun x c z=>nomatch z),fun _=>hd,Around.frames_deeper e0.frames,.inr ⟨rfl,rfl⟩,fun b z=>absurd z (ze b),e0.bs,e0.bsz,fun b _ _=>ze b,fun b z=>absurd z (ze b),e0.funs,e0.frf⟩,
  rfl,e0.bare,Un.kept hk,⟨_,ns,fun i x v h1 h2 h3=>?_⟩,fun x c h=>let⟨v,z⟩:=Jk x c h;⟨v,ck c v z⟩,e0.hok.fresh (Nat.le_refl _),Hl,fun p hp=>absurd (show p∈([]:List (Addr×Obj)) from hp) (by simp),e0.hok.kept hk,?_⟩
 ·have hx:scope.names.lookup x=some .cell∨scope.names.lookup x=some .free:=hx
  rcases hx with hx|hx
  ·exact absurd rfl (S.nocell _ (PySem.mem_of_lookup hx))
  ·exact E6 x (S.cov x hx)
 ·have h1:(ps++ys)[i]?=some x:=h1
  by_cases hi:i<vs.length
  ·rw [List.getElem?_append_left (by simpa using hi),List.getElem?_map] at h2;have ha:vs[i]?=some v:=by
    cases e:vs[i]? with
    |none=>rw [e] at h2;cases h2
    |some a=>rw [e] at h2;cases h2;rfl
   obtain⟨u,hu,rv⟩:=r.get ha
   have hp:ps[i]?=some x:=by rw [List.getElem?_append_left (by omega)] at h1;exact h1
   exact⟨u,rv,.inl ⟨S.par x (List.mem_of_getElem? hp),j1 (S.nd.sublist (List.sublist_append_left _ _)) hp hu⟩⟩
  ·rw [List.getElem?_append_right (by simpa using hi),List.getElem?_map,List.length_map] at h2;rw [List.getElem?_append_right (by omega)] at h1;have ha:ws[i-vs.length]?=some v:=by
    cases e:ws[i-vs.length]? with
    |none=>rw [e] at h2;cases h2
    |some a=>rw [e] at h2;cases h2;rfl
   rw [←hl] at h1;obtain⟨c,hc⟩:=E6 x (List.mem_of_getElem? h1)
   obtain⟨u,rv,z⟩:=cells _ x c h1 hc v ha
   exact⟨u,rv,.inr ⟨.inr (S.fre x (List.mem_of_getElem? h1)),c,hc,ck c _ z⟩⟩
 ·show _=(ps++ys).length
  rw [List.length_append,List.length_append,List.length_map,List.length_map,hl,hw]
theorem Gz{N:List Str}:Passes (dA P w) (Bw P w K mg base N qual scope f cd cl A outer s H E) E:=by
 rintro pins σ H1 s1 e s' I ⟨a,C,t,vs,H',B,rfl,F⟩
 have nx:∀b:Addr,b∉(Bw P w K mg base N qual scope f cd cl A outer s H E).ex:=fun b z=>nomatch (show b∈([]:List Addr) from z)
 have keepB:∀b o,s.heap.get? b=some o→H b=none→b∉dQ outer→B.get? b=some o:=fun b o q n hb=>
  F.keepB b o (I.base.keep b o q n hb (nx b)) (I.base.free b o q n (nx b)) (iq I rfl q hb)
 have thereB:∀b o,s.heap.get? b=some o→b∉dQ outer→∃o',B.get? b=some o':=fun b o q hb=>by
  obtain⟨o1,q1⟩:=I.base.there b o q (nx b)
  exact F.thereB b o1 q1 (iq I rfl q hb)
 refine wpAny_leaves_onW I.ok.frames rfl F.fly fun h' x1 x2=>⟨a,C,t,vs,H',B,rfl,?_⟩
 have slot:∀b o,s.heap.get? b=some o→H b=none→b∈dQ outer→∃sl,h'.get? b=some {o with slots:=sl}:=fun b o q n hb=>by
  obtain⟨sl,q1⟩:=I.base.slot b o q n hb (nx b)
  obtain⟨sl2,q2⟩:=F.un.any q1 (I.base.free b o q n (nx b)) (fun z=>nomatch z)
  obtain⟨_,o',q3,hd⟩:=F.fly.2.2.1.mem (b:=b) (List.mem_filterMap.mpr (let⟨v,h1,h2⟩:=List.mem_filterMap.mp hb;⟨v,.tail _ h1,h2⟩))
  rw [q2] at q3;cases q3;obtain⟨sl3,q4⟩:=x2 b _ q2 hd
  exact⟨sl3,q4⟩
 refine⟨F.os.trans I.os,F.bare,F.hok,x1,F.tn,F.tup.of_slots x2,keepB,thereB,⟨fun b o q n hb _=>x1.1 _ _ (keepB b o q n hb),fun b o q n hb _=>slot b o q n hb,fun b o q n _=>?_,fun b o q _=>?_,fun b xs q=>F.un.tups _ _ (I.base.tups _ _ q),fun b o u q=>F.un.frzs _ _ _ (I.base.frzs _ _ _ q),fun b ps q=>?_⟩,F.ends⟩
 ·obtain⟨sl,q1⟩:=I.base.any q n (nx b)
  exact F.un.free b _ q1 (I.base.free b o q n (nx b)) (fun z=>nomatch z)
 ·by_cases hb:b∈dQ outer
  ·obtain⟨sl,q1⟩:=slot b o q (I.ok.frf b hb) hb
   exact⟨_,q1⟩
  ·obtain⟨o',q1⟩:=thereB b o q hb
   exact⟨o',x1.1 _ _ q1⟩
 ·obtain⟨m1,q1⟩:=I.base.tbls b ps q
  obtain⟨m2,q2⟩:=F.un.tbls b _ q1
  exact⟨m1++m2,by rw [←Array.append_assoc];exact q2⟩
theorem lam_run{k:Nat}{params:Arguments}{body:Expr}{pm er:Value}{c':Addr}{oc:Obj}{cR:Array Value}{ct:Tok}{us:List Value}{vs ws:List V}{Q:VK}{Z:List (Addr×Obj)}{t:TE}
 (S:o6 ps ys scope) (hr:dc k A) (e0:gv P w K mg base A outer s H) (z:qQ Z H (dQ outer) s.heap) (zb:∀b o,Z.lookup b=some o→base.get? b=none)
 (ho:s.heap.get? f=some (PySem.W.kla_obj "<lambda>" qual params body scope cl pm c' er)) (hc:s.heap.get? c'=some oc) (qq:oc.data=.fields cR) (By:cR[1]?=some (.str qual ct))
 (hb:bindArgs (PySem.W.kla_fn "<lambda>" qual params body scope cl pm (.ref c') er) ⟨us,[]⟩=pure (ps.zip us)) (r:Vals vs us) (hl:vs.length=ps.length) (hw:ws.length=ys.length)
 (E6:∀y∈ys,∃c,cl.lookup y=some c) (inj:∀x y c,cl.lookup x=some c→cl.lookup y=some c→x=y)
 (cz:∀x c,cl.lookup x=some c→∃o v,Z.lookup c=some o∧o.data=.cell v)
 (cells:∀(i:Nat) y c,ys[i]?=some y→cl.lookup y=some c→∀v,ws[i]?=some v→∃u,RelV v u∧s.heap.IsCell c (some u))
 (ht:PE (Bw P w K mg base (ps++ys) qual scope f (.ref c') cl A outer s H (fun C a H'=>(∀b o,Z.lookup b=some o→H' b=none)→E C a (withZ Z H'))) body t)
 (hq:t (vs.map some++ws.map some) H fun v H'=>(∀b o,Z.lookup b=some o→H' b=none)→Q v (withZ Z H')):
 codeAny (model P w) A (.call (.ref f) ⟨us,[]⟩) (CR (dA P w) outer P w (withZ Z H) s Q E) s:=by
 have lim:s.heap.NoLimit:=e0.mod.nolimit.keeps fun b o e=>(e0.bs b o e).1
 refine PySem.W.kla_callFunE hr.depth ho rfl S.co S.gen rfl ⟨c',oc,cR,ct,rfl,hc,qq,By⟩ ?_;rw [hb];refine wpAny_pure (wpAny_newFunctionEnv S.nocell (fun y hy=>S.par y.1 (List.of_mem_zip hy).1) (fun h₁ Fb hsb=>?_) S.kind)
 have hk₁:∀b o,s.heap.get? b=some o→h₁.get? b=some o:=fun b o e=>hsb.extBut b o (Nat.ne_of_lt (Heap.lt_size e)) (Heap.get?_push_of_some _ e)
 refine⟨lim.keeps hk₁,?_⟩;show codeAny _ _ (.expr body (PySem.W.envX qual scope s.heap.objs.size f (.ref c') cl)) _ _;have I:=rD (E:=fun C a H'=>(∀b o,Z.lookup b=some o→H' b=none)→E C a (withZ Z H')) (cd:=.ref c') (f:=f) (qual:=qual) (tk:=s.toks+(ps.zip us).length) S hr.hd e0 E6 inj r hl hw cells (fun x c h=>by
  obtain⟨o,v,h1,h2⟩:=cz x c h
  exact⟨v,o,z.at_ c o h1,h2⟩) (fun x c h=>by
  obtain⟨o,v,h1,h2⟩:=cz x c h
  exact z.no c o h1) Fb hk₁
 refine PySem.W.kla_codeExpr (wpAny_mono (ht [] _ _ H _ I hq) (fun u s' hs=>?_) fun e s' hs=>?_)
 ·obtain⟨v,H',J,rv,q⟩:=hs
  exact CE.more z ⟨v,H',J.os,J.bare,J.base,J.hok,rv,q⟩
 ·exact wpAny_mono hs (fun _ A7 y=>dA.more z y) fun e' A7 y=>dA.more z y
end
end L2
namespace L2
open PySem PySem.Spec PyProof.Rows
theorem qx{p:Pos}{a b:Int}{c cv:Value}:∀(l:List Value),TriplesOk l→codeAmong p (l++[rawInt a,rawInt b,c])=some cv→codeAmong p l=some cv∨cv=c:=by
 intro l h e
 fun_induction TriplesOk l with
 |case1=>
  simp only [List.nil_append,codeAmong,rawInt] at e;split at e
  ·cases e;exact .inr rfl
  ·cases e
 |case2 a' t b' u x rest ih=>
  simp only [List.cons_append,codeAmong] at e⊢;split at e
  ·rename_i hc;rw [if_pos hc];exact .inl e
  ·rename_i hc;rw [if_neg hc];exact ih h e
 |case3 l h1 h2=>exact h.elim
def wN(mg:Str→Option Value)(base:Heap):Prop:=∃bm o,mg "__builtins__"=some (.ref bm)∧bm≠builtinsNs∧bm≠mainGlobals∧base.get? bm=some o∧o.cls=.type "module"∧o.dict=some builtinsNs∧o.data=.plain
noncomputable def eV(H:Hp)(P:Addr)(oG:Array Value)(c':Addr)(oc:Obj)(f:Addr)(fo:Obj):Hp:=upd (upd (upd H P (.tbl oG)) c' (.frz oc bx)) f (.frz fo bx)
section
variable{X:Cx}{pins:List (Addr×Obj)}{σ:St}{H:Hp}{s:Shared}{c P c' f:Addr}{ps oG:Array Value}{oc fo:Obj}
theorem Inv.lam{h':Heap}{tk:Nat}(I:Inv X pins σ H s)(hP:H P=some (.tbl ps))(hx:∀b o,b≠P→s.heap.get? b=some o→h'.get? b=some o)(F8:h'.get? P=some (PySem.W.tabObj oG))(more:∃m,oG=ps++m)
 (hc:H c'=none∧s.heap.objs.size≤c'∨H c'=some (.frz oc bx)) (Nr:h'.get? c'=some oc) (hf:s.heap.objs.size≤f) (MZ:h'.get? f=some fo) (Fd:c'≠f):
 Inv X pins σ (eV H P oG c' oc f fo) {s with heap:=h',toks:=tk}:=by
 have fr:H f=none:=I.hok.fresh hf
 have nP:∀b u,H b=some u→(∀q,u≠.tbl q)→b≠P:=fun b u e n z=>by subst z;rw [hP] at e;cases e;exact n _ rfl
 have nf:∀b u,H b=some u→b≠f:=fun b u e z=>by subst z;rw [fr] at e;cases e
 have cP:c'≠P:=fun z=>by
  subst z;rcases hc with⟨e,_⟩|e
  ·rw [hP] at e;cases e
  ·rw [hP] at e;cases e
 have fP:f≠P:=fun z=>by subst z;rw [hP] at fr;cases fr
 have at_:∀b u,H b=some u→(∀q,u≠.tbl q)→eV H P oG c' oc f fo b=some u:=fun b u e n=>by
  unfold eV;rw [ah (nf b u e)]
  by_cases hb:b=c'
  ·subst hb;rw [au];rcases hc with⟨z,_⟩|z
   ·rw [z] at e;cases e
   ·rw [z] at e;exact e
  ·rw [ah hb,ah (nP b u e n)];exact e
 have no:∀b o,s.heap.get? b=some o→H b=none→eV H P oG c' oc f fo b=none:=fun b o e n=>by
  have zm:b≠f:=fun z=>absurd (Heap.lt_size e) (by rw [z];exact Nat.not_lt.mpr hf)
  have Fc:b≠P:=fun z=>by subst z;rw [hP] at n;cases n
  have vn:b≠c':=fun z=>by
   rcases hc with⟨_,y⟩|y
   ·exact absurd (Heap.lt_size e) (by rw [z];exact Nat.not_lt.mpr y)
   ·rw [z,y] at n;cases n
  unfold eV;rw [ah zm,ah vn,ah Fc];exact n
 have kp:∀b o,s.heap.get? b=some o→H b=none→h'.get? b=some o:=fun b o e n=>hx b o (fun z=>by subst z;rw [hP] at n;cases n) e
 refine I.un ⟨fun b o e n _ _=>kp b o e n,fun b o e n _ _=>⟨o.slots,kp b o e n⟩,fun b o e n _=>no b o e n,fun b o e _=>?_,fun b xs e=>at_ b _ e (fun _ z=>nomatch z),fun b o u e=>at_ b _ e (fun _ z=>nomatch z),fun b qs e=>?_⟩ fun b u e=>?_
 ·by_cases hb:b=P
  ·exact⟨_,by rw [hb];exact F8⟩
  ·exact⟨o,hx b o hb e⟩
 ·by_cases hb:b=P
  ·subst hb;rw [hP] at e;cases e;obtain⟨m,rfl⟩:=more
   exact⟨m,by unfold eV;rw [ah (Ne.symm fP),ah (Ne.symm cP),au]⟩
  ·have vn:b≠c':=fun z=>by
    subst z;rcases hc with⟨y,_⟩|y
    ·rw [y] at e;cases e
    ·rw [y] at e;cases e
   exact⟨#[],by unfold eV;rw [ah (nf b _ e),ah vn,ah hb,e];simp⟩
 ·unfold eV at e
  by_cases h1:b=f
  ·subst h1;rw [au] at e;cases e;exact jb MZ
  ·rw [ah h1] at e
   by_cases h2:b=c'
   ·subst h2;rw [au] at e;cases e;exact jb Nr
   ·rw [ah h2] at e
    by_cases h3:b=P
    ·subst h3;rw [au] at e;cases e;exact F8
    ·rw [ah h3] at e;refine(I.hok b u e).stay (fun d v hd q=>hx d v ?_ q) (fun d q=>at_ d _ q (fun _ z=>nomatch z)) fun d xs q=>at_ d _ q (fun _ z=>nomatch z)
     rcases hd with hd|hd
     ·rw [hd];exact h3
     ·exact nP d _ hd (fun _ z=>nomatch z)
theorem lam_make{R:Addr→Obj→Prop}{params:Arguments}{body:Expr}{scope:Scope}{pos:Pos}{cl:List (Str×Addr)}{Q:Value→Shared→Prop}{E:Value→Shared→Prop}(I:Inv X pins σ H s)(hP:H P=some (.tbl ps))(ht:TriplesOk ps.toList)(sE:X.env.code=.ref c)(C:PySem.W.CodeHd X.base c P)
 (LX:wN X.mg X.base) (BY:closureFor scope X.env=pure cl) (DB:defaultsOf params X.env=([],[]))
 (hit:∀cv,codeAmong pos ps.toList=some cv→∃c' oc cR t,cv=.ref c'∧H c'=some (.frz oc bx)∧R c' oc∧oc.data=.fields cR∧cR[1]?=some (.str (X.env.qual++"<lambda>") t))
 (h:∀(f c':Addr) (oc:Obj) (cR:Array Value) (t:Tok) (er:Value) (oG:Array Value) (h':Heap) (tk:Nat),H f=none→(H c'=none∨H c'=some (.frz oc bx)∧R c' oc)→c'≠f→f≠P→c'≠P→oc.data=.fields cR→cR[1]?=some (.str (X.env.qual++"<lambda>") t)→TriplesOk oG.toList→
  (∀p cv,codeAmong p oG.toList=some cv→codeAmong p ps.toList=some cv∨cv=.ref c')→(∃m,oG=ps++m)→
  Inv X pins σ (eV H P oG c' oc f (PySem.W.kla_obj "<lambda>" (X.env.qual++"<lambda>") params body scope cl ((X.mg "__name__").getD .none) c' er)) {s with heap:=h',toks:=tk}→Q (.ref f) {s with heap:=h',toks:=tk}):
 wpAny (model X.prog X.w) X.A (eval (.Lambda params body scope pos) X.env) Q E s:=by
 have IA:s.heap.get? P=some (PySem.W.tabObj ps):=I.hok P _ hP
 have hg:=I.ok.mod.glob.keeps I.bk
 have MV:mainGlobals≠P:=fun q=>by
  obtain⟨o,es,ep,e,_⟩:=I.ok.mod.glob
  have:=(I.bs _ _ e).2
  rw [q,hP] at this;cases this
 obtain⟨bm,ob,b1,b2,b3,b4,b5,b6,b7⟩:=LX
 have hB:s.heap.BuiltinsAt X.mg P:=⟨bm,ob,b1,b2,b3,(fun q=>by
  have:=(I.bs _ _ b4).2
  rw [q,hP] at this;cases this),I.bk _ _ b4,b5,b6,b7⟩
 refine PySem.W.kla_eval DB ?_;cases hm:codeAmong pos ps.toList with
 |none=>
  refine PySem.W.kla_makeFunction (mg:=X.mg) BY I.ok.glob hg sE (C.keeps I.bk) IA ht hm MV hB fun c' er h' tk hx CD cm JM Mf=>?_
  obtain⟨c₂,oc,vs,t,e2,hoc,hd,hv⟩:=JM
  cases e2;have By:H c'=none:=I.hok.fresh CD
  have hsz:s.heap.objs.size≤h'.objs.size:=Nat.le_trans CD (Nat.le_of_lt cm)
  have oV:H h'.objs.size=none:=I.hok.fresh hsz
  refine h h'.objs.size c' oc vs t er _ _ tk oV (.inl By) (Nat.ne_of_lt cm) (fun z=>by rw [z,hP] at oV;cases oV) (fun z=>by rw [z,hP] at By;cases By) hd hv ?_ ?_ ⟨_,rfl⟩
   (I.lam hP (fun b o hb e=>Heap.get?_push_of_some _ (hx b o hb e)) (Heap.get?_push_of_some _ Mf) ⟨_,rfl⟩ (.inl ⟨By,CD⟩) (Heap.get?_push_of_some _ hoc) hsz (Heap.get?_push_size _ rfl) (Nat.ne_of_lt cm))
  ·rw [Array.toList_append];exact TriplesOk_snoc _ _ _ _ ht
  ·intro p cv e;rw [Array.toList_append] at e;exact qx _ ht e
 |some cv=>
  obtain⟨c',oc,cR,t,rfl,fW,hR,hd,hv⟩:=hit cv hm
  refine PySem.W.kla_makeFunctionHit (mg:=X.mg) BY I.ok.glob hg sE (C.keeps I.bk) IA ht hm hB fun er h' tk hk hsz=>?_
  have oV:H h'.objs.size=none:=I.hok.fresh hsz
  have vy:s.heap.get? c'=some oc:=(I.hok c' _ fW).1
  have Fd:c'≠h'.objs.size:=fun z=>by rw [z,oV] at fW;cases fW
  refine h h'.objs.size c' oc cR t er ps _ tk oV (.inr ⟨fW,hR⟩) Fd (fun z=>by rw [z,hP] at oV;cases oV) (fun z=>by rw [z,hP] at fW;cases fW) hd hv ht (fun p cv e=>.inl e) ⟨#[],by simp⟩
   (I.lam hP (fun b o hb e=>Heap.get?_push_of_some _ (hk b o e)) (Heap.get?_push_of_some _ (hk _ _ IA)) ⟨#[],by simp⟩ (.inr fW) (Heap.get?_push_of_some _ (hk _ _ vy)) hsz (Heap.get?_push_size _ rfl) Fd)
end
end L2
namespace L2
open PySem PySem.Spec PyProof.Rows
end L2
namespace L2
open PySem PySem.Spec PyProof.Rows
section
variable(P:Program)(w:World)
end
section
variable{P:Program}{w:World}{H H':Hp}{h h':Heap}{a:Addr}{o:HO}
end
section
variable{P:Program}{w:World}{H:Hp}{h h':Heap}{x e:Addr}{o':HO}
end
section
variable{fs Ji ex Mb:List Addr}{H H1 H2:Hp}{h h1 h2 h':Heap}{a x e:Addr}{o:HO}
end
end L2
namespace L2
open PySem PySem.Spec PyProof.Rows
section
variable{X:Cx}{pins:List (Addr×Obj)}{σ:List (Option V)}{H H':Hp}{s:Shared}{h':Heap}
end
end L2
namespace L2
open PySem PySem.Spec PyProof.Rows
section
variable{X:Cx}
variable{a b:Expr}{ta tb:TE}{pos:Pos}
variable{tA GN:TT}{rest:List Expr}
end
end L2
namespace L2
open PySem PySem.Spec PyProof.Rows
section
variable{X:Cx}{pins:List (Addr×Obj)}{σ:St}{H:Hp}{s:Shared}{a:Addr}{xs ys:List V}
end
section
variable{X:Cx}{pins:List (Addr×Obj)}{σ:St}{H:Hp}{s:Shared}{E:Value→Shared→Prop}
end
section
variable{X:Cx}{st:Stmt}{rest:List Stmt}{t u:TS}{e:Expr}{te:TE}{pos:Pos}
end
section
variable{X:Cx}{pos:Pos}
end
section
variable{X:Cx}{pos:Pos}
end
end L2
namespace L2
open PySem PySem.Spec PyProof.Rows
section
variable{X:Cx}{tg:Expr}
end
end L2
namespace L2
open PySem PySem.Spec PyProof.Rows
section
variable{X:Cx}{a b c:Expr}{ta tb tc:TE}{pos:Pos}
end
section
variable{X:Cx}{a b c:Expr}{ta tb tc:TE}{pos:Pos}
end
end L2
namespace L2
open PySem PySem.Spec PyProof.Rows
section
variable{prog:Program}{w:World}{A:Around}{E:Value→Shared→Prop}{s:Shared}{K:PySem.W.Frag}{x dx C f:Addr}{mA:Str→Option Value}{name:Str}{v:Value}
end
section
variable{P:Program}{w:World}{H H':Hp}{h h':Heap}{a C dx:Addr}{fs Ji:List (Str×V)}
end
section
variable{X:Cx}{pins:List (Addr×Obj)}{σ:St}{H:Hp}{s:Shared}{a C dx:Addr}{fs:List (Str×V)}{f:Str}{v:V}{A:Around}{E:Value→Shared→Prop}
end
section
variable{X:Cx}{o e value:Expr}{f:Str}{pos pos' nY:Pos}{ta tv:TE}
end
section
variable{X:Cx}{pins:List (Addr×Obj)}{σ:St}{H:Hp}{s:Shared}{A:Around}{E:Value→Shared→Prop}{Q:Value→Shared→Prop}{c:Value}{b:Bool}
end
end L2
namespace L2
open PySem PySem.Spec PyProof.Rows
section
variable{X:Cx}{e:Expr}{es:List Expr}{te:TE}{t:TA}{pos:Pos}
end
section
variable{X:Cx}{pins:List (Addr×Obj)}{σ:St}{H:Hp}{s s':Shared}
end
section
variable{X:Cx}{CX:qm}{k:Nat}{f C:Addr}{fd:FuncData}{ps:List Str}{sp:Sp}{Ml:List V}{ds:List Value}{E:XK}{x m:Str}{p pos apos:Pos}{e o:Expr}{es:List Expr}{ta:TE}{t:TA}
end
section
variable{X:Cx}{CX:qm}{k:Nat}{f C:Addr}{fd:FuncData}{ps ks:List Str}{sp:Sp}{E:XK}{x m:Str}{p pos apos Ky:Pos}{e o:Expr}{es:List Expr}{kQ:List Keyword}{te ta:TE}{t tk:TA}{nm:Option Str}
variable{g:List Value→List Value→List Value}{gV:List V→List V→List V}
end
end L2
namespace L2
open PySem PySem.Spec PyProof.Rows
section
variable{X:Cx}{x:Str}{p pos:Pos}{e:Expr}{es:List Expr}{t:TA}{id T:String}{r:List V→Hp→VK→Prop}
end
end L2
namespace L2
open PySem PySem.Spec PyProof.Rows
section
variable{κ:Type} [DecidableEq κ]
def fF(aD:List (κ×V))(k:κ):Option V:=(aD.find? fun kv=>decide (kv.1=k)).map (·.2)
def putK(aD:List (κ×V))(k:κ)(v:V):List (κ×V):=
 if(aD.any fun kv=>decide (kv.1=k))=true then aD.map (fun kv=>if kv.1=k then(kv.1,v) else kv) else aD++[(k,v)]
def eC(aD:List (κ×V))(k:κ):List (κ×V):=aD.filter fun kv=>decide (kv.1≠k)
theorem eR{p:κ×V}{r:List (κ×V)}{k:κ}(e:p.1=k):fF (p::r) k=some p.2:=by simp [fF,List.find?_cons,e]
theorem eX{p:κ×V}{r:List (κ×V)}{k:κ}(e:¬p.1=k):fF (p::r) k=fF r k:=by simp [fF,List.find?_cons,e]
theorem j7(k:κ):∀aD:List (κ×V),(aD.any fun kv=>decide (kv.1=k))=(fF aD k).isSome
 |[]=>rfl
 |p::r=>by
  rw [List.any_cons]
  by_cases e:p.1=k
  ·simp only [eR e,decide_eq_true e,Bool.true_or,Option.isSome_some]
  ·rw [eX e,decide_eq_false e,Bool.false_or];exact j7 k r
theorem ff(aD:List (κ×V))(k:κ)(v:V):(putK aD k v).length≤aD.length+1:=by
 unfold putK;split
 ·rw [List.length_map];omega
 ·rw [List.length_append,List.length_cons,List.length_nil];omega
theorem iI.isSome_eq{o:Option V}{u:Option Value}(r:iI o u):o.isSome=u.isSome:=by
 cases o with
 |none=>cases u with
  |none=>rfl
  |some _=>exact(show False from r).elim
 |some _=>cases u with
  |none=>exact(show False from r).elim
  |some _=>rfl
theorem KV.val{aD:List (κ×V)}{vs:List (κ×Value)}(r:KV aD vs)(k:κ):iI (fF aD k) (valueAt vs k):=by
 unfold KV at r
 induction r with
 |nil=>exact True.intro
 |@cons p q ps qs h t ih=>
  obtain⟨h1,h2⟩:=h
  by_cases e:p.1=k
  ·have e':q.1=k:=h1.symm.trans e
   have b:valueAt (q::qs) k=some q.2:=by simp [valueAt,List.find?_cons,e']
   rw [eR e,b];exact h2
  ·have e':¬q.1=k:=fun z=>e (h1.trans z)
   have b:valueAt (q::qs) k=valueAt qs k:=by simp [valueAt,List.find?_cons,e']
   rw [eX e,b];exact ih
theorem KV.any{aD:List (κ×V)}{vs:List (κ×Value)}(r:KV aD vs)(k:κ):(aD.any fun kv=>decide (kv.1=k))=vs.any fun kv=>decide (kv.1=k):=by
 unfold KV at r
 induction r with
 |nil=>rfl
 |cons h t ih=>rw [List.any_cons,List.any_cons,ih,h.1]
theorem KV.repl{aD:List (κ×V)}{vs:List (κ×Value)}(r:KV aD vs)(k:κ){y:V}{u:Value}(ry:RelV y u):
 KV (aD.map fun kv=>if kv.1=k then(kv.1,y) else kv) (vs.map fun kv=>if kv.1=k then(kv.1,u) else kv):=by
 unfold KV at r⊢
 induction r with
 |nil=>exact .nil
 |@cons p q ps qs h t ih=>
  rw [List.map_cons,List.map_cons];refine .cons ?_ ih;obtain⟨h1,h2⟩:=h
  by_cases e:p.1=k
  ·rw [if_pos e,if_pos (h1.symm.trans e)];exact⟨h1,ry⟩
  ·rw [if_neg e,if_neg (fun z=>e (h1.trans z))];exact⟨h1,h2⟩
theorem KV.put{aD:List (κ×V)}{vs:List (κ×Value)}(r:KV aD vs)(k:κ){y:V}{u:Value}(ry:RelV y u):KV (putK aD k y) (stored vs k u):=by
 unfold putK stored;rw [r.any k]
 by_cases e:(vs.any fun kv=>decide (kv.1=k))=true
 ·rw [if_pos e,if_pos e];exact r.repl k ry
 ·rw [if_neg e,if_neg e];exact Paired.snoc r ⟨rfl,ry⟩
theorem KV.length{aD:List (κ×V)}{vs:List (κ×Value)}(r:KV aD vs):aD.length=vs.length:=Paired.length r
theorem xY(aD:List (κ×V))(k:κ):(eC aD k).length≤aD.length:=List.length_filter_le _ _
end
theorem rP{P:Program}{w:World}{k:Key}{u:Value}(r:RelV (kV k) u):(bH P w).is k u=true:=by
 cases k with
 |inl i=>obtain⟨t,e⟩:=(show∃t,u=Value.int i t from r);subst e;exact oJ P w i t
 |inr x=>obtain⟨t,e⟩:=(show∃t,u=Value.str x t from r);subst e;exact o7 P w x t
theorem lO{P:Program}{w:World}:∀{ks:List Key} {us:List Value},Vals (ks.map kV) us→ItemsAre (bH P w) ks us
 |[],_,r=>by rw [List.map_nil] at r;cases r;exact .nil
 |k::ks,_,r=>by
  rw [List.map_cons] at r;cases r with
  |cons h t=>exact .cons (rP h) (lO t)
abbrev KT(H:Hp):List (List Key×V)→List (List Key×Addr×Value)→Prop:=Paired fun p q=>p.1=q.1∧H q.2.1=some (.tup (p.1.map kV))∧RelV p.2 q.2.2
theorem KT.val{H:Hp}{aD:List (List Key×V)}{xs:List (List Key×Addr×Value)}(r:KT H aD xs)(k:List Key):iI (fF aD k) ((atKey xs k).map (·.2)):=by
 induction r with
 |nil=>exact True.intro
 |@cons p q ps qs h t ih=>
  obtain⟨h1,_,h2⟩:=h
  by_cases e:p.1=k
  ·have e':q.1=k:=h1.symm.trans e
   have b:atKey (q::qs) k=some q.2:=by simp [atKey,List.find?_cons,e']
   rw [eR e,b];exact h2
  ·have e':¬q.1=k:=fun z=>e (h1.trans z)
   have b:atKey (q::qs) k=atKey qs k:=by simp [atKey,List.find?_cons,e']
   rw [eX e,b];exact ih
theorem KT.repl{H:Hp}{aD:List (List Key×V)}{xs:List (List Key×Addr×Value)}(r:KT H aD xs)(k:List Key){y:V}{u:Value}(ry:RelV y u):
 KT H (aD.map fun kv=>if kv.1=k then(kv.1,y) else kv) (xs.map (putAt k u)):=by
 induction r with
 |nil=>exact .nil
 |@cons p q ps qs h t ih=>
  rw [List.map_cons,List.map_cons];refine .cons ?_ ih;obtain⟨h1,h2,h3⟩:=h
  unfold putAt
  by_cases e:p.1=k
  ·rw [if_pos e,if_pos (h1.symm.trans e)];exact⟨h1,h2,ry⟩
  ·rw [if_neg e,if_neg (fun z=>e (h1.trans z))];exact⟨h1,h2,h3⟩
theorem KT.put{H:Hp}{aD:List (List Key×V)}{xs:List (List Key×Addr×Value)}(r:KT H aD xs)(k:List Key){b:Addr}{y:V}{u:Value}(hb:H b=some (.tup (k.map kV)))(ry:RelV y u):
 KT H (putK aD k y) (storedH xs k b u):=by
 have e:(aD.any fun kv=>decide (kv.1=k))=(atKey xs k).isSome:=by
  rw [j7,(r.val k).isSome_eq,Option.isSome_map]
 unfold putK storedH;rw [e]
 by_cases q:(atKey xs k).isSome=true
 ·rw [if_pos q,if_pos q];exact r.repl k ry
 ·rw [if_neg q,if_neg q];exact Paired.snoc r ⟨rfl,hb,ry⟩
theorem KT.keeps{H H':Hp}{aD:List (List Key×V)}{xs:List (List Key×Addr×Value)}(r:KT H aD xs)(ht:∀b ys,H b=some (.tup ys)→H' b=some (.tup ys)):KT H' aD xs:=
 Paired.mapP r fun _ _ z=>⟨z.1,ht _ _ z.2.1,z.2.2⟩
section
variable{P:Program}{w:World}{H:Hp}{h:Heap}{a:Addr}
theorem BQ{u:HO}(ok:dG P w H h)(e:Rd H a u):bK P w H h a u:=e.ok ok
theorem pK{aD:List (Key×V)}(ok:dG P w H h)(e:Rd H a (.dK aD)):aD.length≤sizeLine∧(a==sysModules)=false∧∃vs,KV aD vs∧h.DictOf (bH P w) a vs:=
 show bK P w H h a (.dK aD) from BQ ok e
theorem HF{aD:List (Key×V)}(ok:dG P w H h)(e:H a=some (.dK aD)):aD.length≤sizeLine∧(a==sysModules)=false∧∃vs,KV aD vs∧h.DictOf (bH P w) a vs:=pK ok (.inl e)
theorem fQ{ks:List Key}(ok:dG P w H h)(e:H a=some (.tup (ks.map kV))):(tupleKind (bH P w)).is h ks a:=by
 obtain⟨_,aE,r,o,h1,h2,n,h3⟩:=(show bK P w H h a (.tup (ks.map kV)) from ok a _ e)
 exact⟨o,aE.toArray,n,h1,h2,h3,by simpa using lO r⟩
theorem i8{aD:List (List Key×V)}(ok:dG P w H h)(e:Rd H a (.dT aD)):aD.length≤sizeLine∧(a==sysModules)=false∧
 ∃xs,KT H aD xs∧h.DictOfH (tupleKind (bH P w)) a xs:=by
 obtain⟨z,y,xs,r,o,es,ep,h1,h2,h3,h4,h5⟩:=(show bK P w H h a (.dT aD) from BQ ok e)
 refine⟨z,y,xs,r,o,es,ep,h1,h2,h3,h4,fun x hx=>?_,h5⟩
 have all:∀{l:List (List Key×V)} {m:List (List Key×Addr×Value)},KT H l m→∀x∈m,(tupleKind (bH P w)).is h x.1 x.2.1:=by
  intro l m q
  induction q with
  |nil=>intro x hx;exact nomatch hx
  |@cons p q ps qs hq t ih=>
   intro x hx;rcases List.mem_cons.mp hx with e|hx
   ·subst e;exact fQ ok (by rw [←hq.1];exact hq.2.1)
   ·exact ih x hx
 exact all r x hx
theorem vA{aD:List (List Key×V)}(ok:dG P w H h)(e:H a=some (.dT aD)):aD.length≤sizeLine∧(a==sysModules)=false∧
 ∃xs,KT H aD xs∧h.DictOfH (tupleKind (bH P w)) a xs:=i8 ok (.inl e)
end
def A0(H:Hp)(a:Addr)(y:V)(r:Option V):Prop:=
 (∃aD k,Rd H a (.dK aD)∧y=kV k∧r=fF aD k)∨∃aD k b,Rd H a (.dT aD)∧y=.ref b∧H b=some (.tup (k.map kV))∧r=fF aD k
def uV(H:Hp)(a:Addr)(y v:V)(H':Hp):Prop:=
 (∃aD k,H a=some (.dK aD)∧y=kV k∧aD.length<sizeLine∧H'=upd H a (.dK (putK aD k v)))∨
 ∃aD k b,H a=some (.dT aD)∧y=.ref b∧H b=some (.tup (k.map kV))∧aD.length<sizeLine∧H'=upd H a (.dT (putK aD k v))
theorem uV.t{H:Hp}{a b:Addr}{aD:List (List Key×V)}{k:List Key}{v:V}(e:H a=some (.dT aD))(eb:H b=some (.tup (k.map kV)))(hl:aD.length<sizeLine):
 uV H a (.ref b) v (upd H a (.dT (putK aD k v))):=.inr ⟨aD,k,b,e,rfl,eb,hl,rfl⟩
section
variable{X:Cx}{pins:List (Addr×Obj)}{σ:St}{H:Hp}{s:Shared}{a:Addr}{y v:V}{u r:Value}{o:Option V}{A:Around}{E:Value→Shared→Prop}
theorem Inv.big(I:Inv X pins σ H s):sysModules<s.heap.objs.size:=by
 have h:mainGlobals<s.heap.objs.size:=(I.mod.glob.keeps I.bk).lt
 exact Nat.lt_trans (by decide) h
theorem tU{Q:Value→Shared→Prop}(hu:A.units+1<cLine)(I:Inv X pins σ H s)(g:A0 H a y (some v))(ry:RelV y u)(h:∀w' s',Inv X pins σ H s'→RelV v w'→Q w' s'):
 wpAny (model X.prog X.w) A (getItem (.ref a) u) Q E s:=by
 rcases g with⟨aD,k,e,ey,l⟩|⟨aD,k,b,e,ey,eb,l⟩
 ·subst ey;obtain⟨z,hd,vs,rel,dd⟩:=pK I.hok e
  obtain⟨w',hw,gX⟩:=iI.some_of (v:=v) (o:=valueAt vs k) (by rw [l];exact rel.val k)
  exact wpAny_getItem_of (rP ry) dd.mapOf hw (h w' _ (I.tok _) gX)
 ·subst ey;cases(show u=Value.ref b from ry);obtain⟨z,hd,xs,rel,dd⟩:=i8 I.hok e
  obtain⟨w',hw,gX⟩:=iI.some_of (v:=v) (o:=(atKey xs k).map (·.2)) (by rw [l];exact rel.val k)
  obtain⟨p,hp,hp2⟩:=Option.map_eq_some_iff.mp hw
  refine wpAny_getItem_heap (tupleKind_room_in1 hu) (fQ I.hok eb) dd hp ?_;rw [hp2];exact h w' _ (I.tok _) gX
theorem Ag{Q:Value→Shared→Prop}(hu:A.units+1<cLine)(I:Inv X pins σ H s)(g:A0 H a y o)(ry:RelV y u)(h:∀s',Inv X pins σ H s'→Q (.bool (!o.isSome)) s'):
 wpAny (model X.prog X.w) A (compareOp .NotIn u (.ref a)) Q E s:=by
 rcases g with⟨aD,k,e,ey,l⟩|⟨aD,k,b,e,ey,eb,l⟩
 ·subst ey;obtain⟨z,hd,vs,rel,dd⟩:=pK I.hok e
  refine wpAny_notIn_of (rP ry) hd dd.mapOf ?_;rw [←(rel.val k).isSome_eq,←l];exact h _ (I.tok _)
 ·subst ey;cases(show u=Value.ref b from ry);obtain⟨z,hd,xs,rel,dd⟩:=i8 I.hok e
  refine wpAny_notIn_heap (tupleKind_room_in1 hu) (fQ I.hok eb) hd dd ?_;have q:=(rel.val k).isSome_eq
  rw [Option.isSome_map] at q;rw [←q,←l];exact h _ (I.tok _)
theorem fA{h':Heap}{t':Nat}{ob:HO}(I:Inv X pins σ H s)(mu:HD (H a))(hs:Heap.SameBut a s.heap h')(he:∃q,h'.get? a=some q)(new:bK X.prog X.w (upd H a ob) h' a ob):
 Inv X pins σ (upd H a ob) {s with heap:=h',toks:=t'}:=
 I.write (x:=a) (e:=a) mu (.inl rfl) (fun b q hb z=>(hs.2 b hb).trans z) he new
theorem DG{P:Program}{w:World}{H':Hp}{h':Heap}{aD:List (Key×V)}{vs:List (Key×Value)}(z:aD.length≤sizeLine)(hd:(a==sysModules)=false)(rel:KV aD vs)(dd:h'.DictOf (bH P w) a vs):
 bK P w H' h' a (.dK aD):=⟨z,hd,vs,rel,dd⟩
theorem tH{H':Hp}{Q:Unit→Shared→Prop}(hu:A.units+1<cLine)(I:Inv X pins σ H s)(g:uV H a y v H')(ry:RelV y u)(rv:RelV v r)(h:∀s',Inv X pins σ H' s'→Q () s'):
 wpAny (model X.prog X.w) A (setItem (.ref a) u r) Q E s:=by
 rcases g with⟨aD,k,e,ey,l,eH⟩|⟨aD,k,b,e,ey,eb,l,eH⟩
 ·subst ey eH;obtain⟨z,hd,vs,rel,dd⟩:=HF I.hok e
  have hz:vs.length≤sizeLine:=by rw [←rel.length];exact z
  have hl:(putK aD k v).length≤sizeLine:=by have:=ff aD k v;omega
  refine wpAny_setItem_pairs (hsz:=hz) (rP ry) dd fun h' BU hs=>h _ ?_
  have he:∃q,h'.get? a=some q:=let⟨q,_,_,hq,_⟩:=BU;⟨q,hq⟩
  exact fA I (by rw [e];exact True.intro) hs he (DG hl hd (rel.put k rv) BU)
 ·subst ey eH;cases(show u=Value.ref b from ry);obtain⟨z,hd,xs,rel,dd⟩:=vA I.hok e
  have hz:xs.length≤sizeLine:=by rw [←Paired.length rel];exact z
  have hl:(putK aD k v).length≤sizeLine:=by have:=ff aD k v;omega
  refine wpAny_setItem_heap (hsz:=hz) (tupleKind_room_in1 hu) (fQ I.hok eb) dd fun h' BU hs=>h _ ?_
  obtain⟨q,es,ep,hq,h2,h3,h4,_,h5⟩:=BU
  refine fA I (by rw [e];exact True.intro) hs ⟨q,hq⟩ ⟨hl,hd,_,(rel.put k eb rv).keeps fun c ys ec=>?_,q,es,ep,hq,h2,h3,h4,h5⟩
  rw [ah (fN ec e (fun z=>nomatch z))];exact ec
end
section
variable{X:Cx}{pins:List (Addr×Obj)}{σ:St}{H:Hp}{s:Shared}{a:Addr}{aD:List (Key×V)}{k:Key}{u:Value}{A:Around}{E:Value→Shared→Prop}
end
def Ht(i:Expr):Prop:=∀ov iv,subscripted i false ov iv=operate [ov,iv] (getItem ov iv)
theorem AQ{prog:Program}{w:World}{A:Around}{E:Value→Shared→Prop}{s:Shared}{env:Env}{value slice:Expr}{pos:Pos}{T id:String}{Q:Value→Shared→Prop}
 (hl:typeLookup (.type T) "__getitem__"=pure (some (.builtin id))) (hs:Ht slice)
 (h:wpAny (model prog w) A (eval value env) (fun o s₁=>wpAny (model prog w) A (eval slice env) (fun i s₂=>s₂.TypeIs o T∧wpAny (model prog w) A (getItem o i) Q E s₂) E s₁) E s):
 wpAny (model prog w) A (eval (.Subscript value slice pos) env) Q E s:=by
 refine Subscript_ (wpAny_mono h (fun o s₁ h₁=>wpAny_mono h₁ (fun i s₂ h₂=>?_) fun _ _ x=>x) fun _ _ x=>x)
 obtain⟨hT,h₂⟩:=h₂
 unfold subscriptTail;refine wpAny_bind ?_;rw [getitemInPython_of_ne hT.not_modules];refine wpAny_bind (wpAny_specialOf hT hl ?_);have fin:wpAny (model prog w) A (subscripted slice false o i) (fun r s₃=>wpAny (model prog w) A (letTemporaryGo value o r>>=fun _=>pure r) Q E s₃) E s₂:=by
  rw [hs o i];exact wpAny_operating (wpAny_mono h₂ (fun r s₃ h₃=>wpAny_bind (wpAny_letTemporaryGo (wpAny_pure h₃))) fun _ _ x=>x)
 first
  |exact wpAny_pure (wpAny_bind fin)
  |exact wpAny_bind (wpAny_pure (wpAny_bind fin))
  |exact wpAny_bind fin
theorem pR{X:Cx}{pins:List (Addr×Obj)}{σ:St}{H:Hp}{s:Shared}{a:Addr}{y:V}{o:Option V}(I:Inv X pins σ H s)(g:A0 H a y o):s.TypeIs (.ref a) "dict":=by
 rcases g with⟨aD,k,e,_,_⟩|⟨aD,k,b,e,_,_,_⟩
 ·obtain⟨_,_,vs,_,dd⟩:=pK I.hok e
  exact dd.typeIs
 ·obtain⟨_,_,xs,_,dd⟩:=i8 I.hok e
  exact dd.typeIs
def BG(td ty:TE):TE:=fun σ H Q=>td σ H fun x H1=>ty σ H1 fun y H2=>∃a v,x=.ref a∧A0 H2 a y (some v)∧Q v H2
section
variable{X:Cx}{o i e value:Expr}{pos pos' nY:Pos}{td ty tv:TE}
theorem zS(hu:X.A.units+1<cLine)(ho:PE X o td)(hi:PE X i ty)(hs:Ht i):PE X (.Subscript o i pos) (BG td ty):=by
 intro pins s σ H Q I h;refine AQ PySem.F.slot_dict_getitem.lookup hs (bL (ho pins s σ H _ I h) fun u s1 ⟨x,H1,I1,rx,q1⟩=>bL (hi pins s1 σ H1 _ I1 q1) fun iv s2 ⟨y,H2,I2,ry,a,v,ex,g,q2⟩=>?_)
 subst ex;obtain rfl:u=Value.ref a:=rx
 exact⟨pR I2 g,tU hu I2 g ry fun w' s3 I3 gX=>⟨v,H2,I3,gX,q2⟩⟩
end
theorem oZ{P:Program}{w:World}{H:Hp}(h:Heap)(hb:sysModules<h.objs.size):bK P w H (h.push {cls:=.type "dict",data:=.dict #[]}) h.objs.size (.dT []):=
 ⟨Nat.zero_le _,beq_eq_false_iff_ne.mpr (Ne.symm (Nat.ne_of_lt hb)),[],.nil,_,#[],0,Heap.get?_push_size _ rfl,⟨rfl,rfl,rfl⟩,rfl,rfl,List.nodup_nil⟩
def Et:TE:=fun _ H Q=>∀p,H p=none→Q (.ref p) (upd H p (.dT []))
section
variable{X:Cx}{pos:Pos}
theorem wX:PE X (.Dict [] [] pos) Et:=fun pins s σ H Q I h=>
 wpAny_Dict_empty ⟨.ref s.heap.objs.size,_,I.laid (a:=s.heap.objs.size) (o:=.dT []) (t':=s.toks) (fun _ _ q=>Heap.get?_push_of_some _ q) (Nat.le_refl _) (oZ s.heap I.big),rfl,h _ (I.hok.fresh (Nat.le_refl _))⟩
end
structure M1(X:Cx)(o:Expr)(m:Str)(apos:Pos)(e:Expr)(bw:Pos):Prop where
 base:attributeBase o m X.env (eval o X.env)=eval o X.env
 few:((backTo bw (starEach [e] X.env)).all (fun x=>!x.1)&&(backToKw bw (keywordEach [] X.env)).all (fun x=>x.1.isSome)
  &&decide (([e]:List Expr).length+([]:List Keyword).length+(if([]:List Keyword).isEmpty then 0 else 1)<30))=true
 line:(apos.endLine==bw.line)=true
 trees:backTo bw (starEach [e] X.env)=[(false,eval e X.env)]
structure M2(X:Cx)(o:Expr)(m:Str)(apos:Pos)(e f:Expr)(bw:Pos):Prop where
 base:attributeBase o m X.env (eval o X.env)=eval o X.env
 few:((backTo bw (starEach [e,f] X.env)).all (fun x=>!x.1)&&(backToKw bw (keywordEach [] X.env)).all (fun x=>x.1.isSome)
  &&decide (([e,f]:List Expr).length+([]:List Keyword).length+(if([]:List Keyword).isEmpty then 0 else 1)<30))=true
 line:(apos.endLine==bw.line)=true
 trees:backTo bw (starEach [e,f] X.env)=[(false,eval e X.env),(false,eval f X.env)]
def BR(H:Hp)(a:Addr):Prop:=(∃aD,Rd H a (.dK aD))∨∃aD,Rd H a (.dT aD)
theorem D2{X:Cx}{pins:List (Addr×Obj)}{σ:St}{H:Hp}{s:Shared}{a:Addr}(I:Inv X pins σ H s)(d:BR H a):
 s.TypeIs (.ref a) "dict"∧(∀b,Value.ref a=.ref b→∃ob,s.heap.get? b=some ob∧ob.dict=none)∧(a==sysModules)=false:=by
 rcases d with⟨aD,e⟩|⟨aD,e⟩
 ·obtain⟨_,hd,vs,_,dd⟩:=pK I.hok e
  refine⟨dd.typeIs,fun b q=>?_,hd⟩
  cases q;obtain⟨ob,_,_,h1,h2,_⟩:=dd
  exact⟨ob,h1,h2.2.1⟩
 ·obtain⟨_,hd,xs,_,dd⟩:=i8 I.hok e
  refine⟨dd.typeIs,fun b q=>?_,hd⟩
  cases q;obtain⟨ob,_,_,h1,h2,_⟩:=dd
  exact⟨ob,h1,h2.2.1⟩
section
variable{X:Cx}{pins:List (Addr×Obj)}{σ:St}{H:Hp}{s:Shared}{a:Addr}{y d:V}{u r:Value}{o:Option V}{A:Around}{E:Value→Shared→Prop}
end
section
variable{X:Cx}{o e f:Expr}{apos bw:Pos}{td ty tx:TE}
end
section
variable{X:Cx}{pins:List (Addr×Obj)}{σ:St}{H:Hp}{s:Shared}{a:Addr}{aD:List (Key×V)}{A:Around}{E:Value→Shared→Prop}
end
section
variable{X:Cx}{pins:List (Addr×Obj)}{σ:St}{H:Hp}{s:Shared}{a:Addr}{y:V}{u:Value}{A:Around}{E:Value→Shared→Prop}
end
end L2
namespace Att
open PySem PySem.W PySem.Calls PyProof.Rows
section
variable{prog:Program}{w:World}{A:Around}{E:Value→Shared→Prop}{s:Shared}{K:Frag}
end
end Att
namespace L2
open PySem PySem.Spec PyProof.Rows
end L2
namespace L2
open PySem PySem.Spec PyProof.Rows
end L2
namespace L2
open PySem PySem.Spec PyProof.Rows
section
variable{P:Program}{w:World}{K:PySem.W.Frag}{mg:Str→Option Value}{base:Heap}
end
section
variable{X:Cx}
end
section
variable{κ:Type} [DecidableEq κ]
theorem ug{p:κ×V}{r:List (κ×V)}{k:κ}(e:p.1=k):eC (p::r) k=eC r k:=by
 unfold eC;rw [List.filter_cons,if_neg (by simp [e])]
theorem vb{p:κ×V}{r:List (κ×V)}{k:κ}(e:¬p.1=k):eC (p::r) k=p::eC r k:=by
 unfold eC;rw [List.filter_cons,if_pos (by simp [e])]
end
end L2
namespace L2
open PySem PySem.Spec PyProof.Rows
section
variable{prog:Program}{w:World}{κ:Type} [DecidableEq κ]{knd:HeapKind prog w κ}{A:Around}{E:Value→Shared→Prop}{s:Shared}{d a:Addr}{xs:List (κ×Addr×Value)}{k:κ}
theorem n8(d:Addr)(lo:(d==sysModules)=false):MeetsIn prog w (Builtin.«dict.__len__» ⟨[.ref d],[]⟩) (fun _ R s=>∃xs,s.heap.DictOfH knd d xs∧R (.ok (.ret (.int xs.length s.toks))) {s with toks:=s.toks+1}):=
 .of_wp fun A R s ⟨xs,⟨o,es,ep,h1,_,h2,h3,_⟩,h⟩=>by
  show wpAny _ _ (dictSize d>>=fun n=>_) _ _ s
  unfold dictSize;refine wpAny_bind (wpAny_bind (wpAny_dictEntries h1 h2 (wpAny_pure (wpAny_bind (wpAny_pendingCount_other lo (wpAny_ret_mkInt ?_))))));rw [Nat.add_zero,size_of_entries h3];exact h
theorem Cp{Q:Value→Shared→Prop}(lo:(d==sysModules)=false)(hm:s.heap.DictOfH knd d xs)(hf:(xs.length:Int)<2^63)(h:Q (.int xs.length (s.toks+1)) {s with toks:=s.toks+1+1}):wpAny (model prog w) A (call (.builtin "len") [.ref d]) Q E s:=by
 refine Calls.call_function_entry kind_len plain_len entry_len (args_len1 _) ?_;unfold Builtin.«len»;refine wpAny_bind (m:=oneArg "len" _) (wpAny_pure (wpAny_bind (m:=callSpecial? (.ref d) (Str.ofString "__len__")) (wpAny_callSpecial?_slot (name:=Str.ofString "__len__") hm.typeIs F.slot_dict_len
  (call_meetsIn F.slot_dict_len hm.typeIs F.entry_dict_len (F.args_dict_len_1 _) (n8 (knd:=knd) d lo) ⟨xs,hm,?_⟩))))
 show wpAny _ _ (holding _ _>>=fun z=>_) _ _ {s with toks:=s.toks+1}
 refine wpAny_bind (wpAny_holding (wpAny_pure (wpAny_bind (wpAny_letGo ?_))));show wpAny _ _ (if((xs.length:Nat):Int)<0 then _ else(if((xs.length:Nat):Int)≥2^63 then _ else _)) _ _ _;rw [if_neg (by omega),if_neg (by omega)];exact wpAny_bind (wpAny_mkInt (wpAny_pure ⟨_,rfl,h⟩))
theorem v5{l:List (κ×Addr×Value)}:∀{j:Nat} {p:Addr×Value},(l.map (·.1)).Nodup→l[j]?=some (k,p)→l.eraseIdx j=l.filter fun x=>decide (x.1≠k):=by
 induction l with
 |nil=>intro j p _ h;simp at h
 |cons x r ih=>
  intro j p nd h;rw [List.map_cons,List.nodup_cons] at nd;cases j with
  |zero=>
   simp only [List.getElem?_cons_zero,Option.some.injEq] at h;subst h;simp only [List.eraseIdx_cons_zero,ne_eq,List.filter_cons,not_true,decide_false,Bool.false_eq_true,if_false];refine(List.filter_eq_self.mpr fun y hy=>?_).symm;exact decide_eq_true fun e=>nd.1 (e▸List.mem_map_of_mem (f:=(·.1)) hy)
  |succ j=>
   simp only [List.getElem?_cons_succ] at h;have fU:¬x.1=k:=fun e=>nd.1 (e▸List.mem_map.mpr ⟨(k,p),List.mem_of_getElem? h,rfl⟩)
   rw [List.eraseIdx_cons_succ,List.filter_cons,if_pos (by simpa using fU),ih nd.2 h]
theorem k9{α β:Type}(f:α→β):∀(l:List α) (j:Nat),(l.eraseIdx j).map f=(l.map f).eraseIdx j
 |[],_=>by simp
 |x::r,0=>by simp
 |x::r,j+1=>by simp [k9 f r j]
theorem qV{p:Addr×Value}{Q:Option DictEntry→Shared→Prop}(hu:knd.room A)(hk:knd.is s.heap k a)(hm:s.heap.DictOfH knd d xs)(hp:atKey xs k=some p)(hz:xs.length≤sizeLine)
 (hQ:∀h' e,e.val=p.2→h'.DictOfH knd d (xs.filter fun x=>decide (x.1≠k))→Heap.SameBut d s.heap h'→Q (some e) {s with heap:=h',toks:=s.toks+knd.draws k}):wpAny (model prog w) A (Builtin.Dict.takeOut d (.ref a)) Q E s:=by
 obtain⟨o,es,ep,h1,hc,h2,h3,his,nd⟩:=hm
 unfold Builtin.Dict.takeOut
 try with_reducible refine wpAny_holding ?_
 refine wpAny_bind (knd.pyHash hu hk (wpAny_bind (wpAny_dictFind_heap (s:={s with toks:=s.toks+knd.draws k}) hu hk h1 h2 h3 his nd (fun no=>?_) fun j q hj=>?_)))
 ·rw [atKey_none_of_get no] at hp;cases hp
 ·rw [atKey_of_get nd hj] at hp;cases hp;refine wpAny_bind (wpAny_dictEntries (s:={s with toks:=s.toks+knd.draws k}) h1 h2 ?_);rw [entry_at h3 j,hj];refine wpAny_bind (wpAny_updateDictKeys (hz:=by have e:=size_of_entries h3;omega) (s:={s with toks:=s.toks+knd.draws k}) h1 h2 (wpAny_pure (hQ _ _ rfl ⟨_,_,ep+1,Heap.get?_update_self _ h1 (Obj.isFreed_of_dict (Obj.data_mapDictKeys h2 _)),
   hc.mapDictKeys _,Obj.data_mapDictKeys h2 _,?_,fun x hx=>knd.keeps (his x (List.mem_filter.mp hx).1) h1 h2 (Heap.SameBut.update ..),nd.sublist (List.filter_sublist.map _)⟩ (Heap.SameBut.update ..))))
  rw [←v5 nd hj,k9,←h3];obtain⟨l⟩:=es
  simp [Array.eraseIdxIfInBounds];split
  ·simp
  ·rename_i hh;rw [List.eraseIdx_of_length_le (by simpa using hh)]
theorem nX(d a:Addr):MeetsIn prog w (Builtin.«dict.pop» ⟨[.ref d,.ref a],[]⟩) (fun A R s=>knd.room A.in1∧∃k xs p,knd.is s.heap k a∧s.heap.DictOfH knd d xs∧xs.length≤sizeLine∧atKey xs k=some p∧
 ∀h',h'.DictOfH knd d (xs.filter fun x=>decide (x.1≠k))→Heap.SameBut d s.heap h'→R (.ok (.ret p.2)) {s with heap:=h',toks:=s.toks+knd.draws k}):=
 .of_wp fun A R s ⟨hu,k,xs,p,hk,hm,hz,hp,h⟩=>by
  obtain⟨o,es,ep,h1,_,h2,h3,_⟩:=id hm
  have ne:es.isEmpty=false:=by
   cases xs with
   |nil=>cases hp
   |cons x r=>
    have:=size_of_entries h3
    rw [List.length_cons] at this;rw [Array.isEmpty_eq_false_iff_exists_mem];exact⟨es[0]'(by omega),Array.getElem_mem _⟩
  unfold Builtin.«dict.pop»;refine wpAny_bind ?_;unfold Builtin.Dict.keyAndDefault;refine wpAny_bind (wpAny_notOrdered_dict hm.typeIs ?_);show wpAny _ _ (pure (d,Value.ref a,Option.none)) _ _ s;refine wpAny_pure ?_;have kp:(keyPart (Value.ref a)).isSome=false:=rfl
  simp only [kp,Bool.false_eq_true,if_false];refine wpAny_bind (wpAny_dictEntries h1 h2 (wpAny_bind (wpAny_pure ?_)));rw [ne];simp only [Bool.false_eq_true,if_false];refine wpAny_bind (qV hu hk hm hp hz fun h' e ev qo hs=>?_);simp only [Option.isNone_some,Bool.false_eq_true,if_false];exact wpAny_bind (wpAny_letGo (wpAny_pure ⟨e.val,rfl,by rw [ev];exact h h' qo hs⟩))
theorem rW{o:Obj}{es:Array DictEntry}{ep:Nat}{Q:Value→Shared→Prop}(lo:(d==sysModules)=false)(h1:s.heap.get? d=some o)(hc:o.ExactDict)(h2:o.data=.dict es ep)
 (hQ:Q (.ref s.heap.objs.size) {s with heap:=s.heap.push {cls:=.type "dict_keyiterator",data:=.fields #[.ref d,.int 0 0,.int es.size 0,.int ep 0]}}):wpAny (model prog w) A (pyIter (.ref d)) Q E s:=by
 have T:s.TypeIs (.ref d) "dict":=⟨o,h1,hc.1⟩
 refine wpAny_pyIter_slot T F.slot_dict_iter (wpAny_call_entry F.slot_dict_iter T F.entry_dict_iter ?_ (F.args_dict_iter_1 _));unfold Builtin.«dict.__iter__» Builtin.Dict.dictSlotNone;refine wpAny_bind (wpAny_bind (wpAny_notOrdered_dict T ?_));show wpAny _ _ (pure (Value.ref d):Sem Value) _ _ s;refine wpAny_pure ?_;show wpAny _ _ (Builtin.Dict.showsAll d>>=fun _=>_) _ _ s;unfold Builtin.Dict.showsAll;rw [if_neg (by rw [lo];exact zzf)];refine wpAny_bind (wpAny_pure (wpAny_bind (wpAny_dictEntries h1 h2 (wpAny_bind (wpAny_dictEpoch h1 h2 ?_)))));refine wpAny_bind (wpAny_newObj_type (wpAny_pure ⟨_,rfl,"dict_keyiterator",_,⟨_,Heap.get?_push_size _ rfl,rfl⟩,F.slot_dict_keyiterator_next.lookup,?_⟩))
 simpa [rawInt] using hQ
theorem mY{it:Addr}{i ep:Nat}{o:Obj}{es:Array DictEntry}{Q:Option Value→Shared→Prop}(st:s.heap.IsKeyIter it d i es.size ep)(h1:s.heap.get? d=some o)(h2:o.data=.dict es ep)(hi:i<es.size)
 (hQ:∀h',h'.IsKeyIter it d (i+1) es.size ep→Heap.SameBut it s.heap h'→Q (some es[i].key) {s with heap:=h'}):wpAny (model prog w) A (pyNext (.ref it)) Q E s:=by
 obtain⟨oi,g1,g2,g3⟩:=id st
 have own:Builtin.Dict_items.ownsTuple "dict_keyiterator"=false:=by decide
 unfold pyNext;refine wpAny_bind (wpAny_attempt (wpAny_callSpecial?_slot (name:=Str.ofString "__next__") st.typeIs F.slot_dict_keyiterator_next (wpAny_call_entry F.slot_dict_keyiterator_next st.typeIs F.entry_dict_keyiterator_next ?_ (F.args_dict_keyiterator_next_1 _))));refine wpAny_bind (wpAny_pure (wpAny_bind (wpAny_bind ?_)))
 first|refine wpAny_bind (wpAny_typeNameOfWhole_keyiter st.typeIs (wpAny_pure (wpAny_bind (wpAny_fieldsOf g1 g3 ?_))))|refine wpAny_bind (wpAny_typeNameOf_keyiter st.typeIs (wpAny_pure (wpAny_bind (wpAny_fieldsOf g1 g3 ?_))))
 simp only [own,Bool.false_eq_true,if_false];show wpAny _ _ (if(Value.ref d==Value.none)=true then _ else _:Sem _) _ _ s;rw [if_neg (show¬((Value.ref d==Value.none)=true) from zzf)];refine wpAny_bind (wpAny_pure (wpAny_bind (wpAny_dictEntries h1 h2 ?_)));rw [if_neg (by simp)];refine wpAny_bind (wpAny_pure (wpAny_bind (wpAny_dictEpoch h1 h2 ?_)));rw [if_neg (by simp)];refine wpAny_pure ?_;simp only [show¬((i:Int)<0) from by omega,if_false,Int.toNat_natCast,Array.getElem?_eq_getElem hi];refine wpAny_bind ?_
 first|refine wpAny_bind (wpAny_typeNameOfWhole_keyiter st.typeIs (wpAny_pure (wpAny_bind (wpAny_isOneOf_keyiter st.typeIs ?_))))|refine wpAny_bind (wpAny_typeNameOf_keyiter st.typeIs (wpAny_pure (wpAny_bind (wpAny_isOneOf_keyiter st.typeIs ?_))))
 show wpAny _ _ (setField (.ref it) 1 (rawInt ((i:Int)+1))>>=fun _=>_) _ _ s
 have kA:(s.heap.update it (Obj.mapFields (·.setIfInBounds 1 (rawInt ((i:Int)+1))))).IsKeyIter it d (i+1) es.size ep:=
  ⟨_,Heap.get?_update_self _ g1 (Obj.isFreed_of_fields (Obj.data_mapFields g3 _)),(Obj.cls_mapFields ..).trans g2,by rw [Obj.data_mapFields g3];simp [rawInt]⟩
 refine wpAny_bind (wpAny_setField g1 g3 (by simp) (wpAny_bind (wpAny_holding (wpAny_bind (wpAny_isOneOf_keyiter (s:={s with heap:=s.heap.update it (Obj.mapFields (·.setIfInBounds 1 (rawInt ((i:Int)+1))))}) kA.typeIs ?_)))));show wpAny _ _ (pure es[i].key:Sem Value) _ _ _;exact wpAny_pure (wpAny_pure ⟨_,rfl,wpAny_pure (hQ _ kA (Heap.SameBut.update ..))⟩)
theorem x9{it:Addr}{i ep:Nat}{o:Obj}{es:Array DictEntry}{Q:Option Value→Shared→Prop}(hh:A.handled=none)(st:s.heap.IsKeyIter it d i es.size ep)(h1:s.heap.get? d=some o)(h2:o.data=.dict es ep)(hi:es.size≤i)
 (hQ:∀h',Heap.ExtBut it s.heap h'→Q none {s with heap:=h'}):wpAny (model prog w) A (pyNext (.ref it)) Q E s:=by
 obtain⟨oi,g1,g2,g3⟩:=id st
 have own:Builtin.Dict_items.ownsTuple "dict_keyiterator"=false:=by decide
 unfold pyNext;refine wpAny_bind (wpAny_attempt (wpAny_callSpecial?_slot (name:=Str.ofString "__next__") st.typeIs F.slot_dict_keyiterator_next (wpAny_call_entry F.slot_dict_keyiterator_next st.typeIs F.entry_dict_keyiterator_next ?_ (F.args_dict_keyiterator_next_1 _))));refine wpAny_bind (wpAny_pure (wpAny_bind (wpAny_bind ?_)))
 first|refine wpAny_bind (wpAny_typeNameOfWhole_keyiter st.typeIs (wpAny_pure (wpAny_bind (wpAny_fieldsOf g1 g3 ?_))))|refine wpAny_bind (wpAny_typeNameOf_keyiter st.typeIs (wpAny_pure (wpAny_bind (wpAny_fieldsOf g1 g3 ?_))))
 simp only [own,Bool.false_eq_true,if_false];show wpAny _ _ (if(Value.ref d==Value.none)=true then _ else _:Sem _) _ _ s;rw [if_neg (show¬((Value.ref d==Value.none)=true) from zzf)];refine wpAny_bind (wpAny_pure (wpAny_bind (wpAny_dictEntries h1 h2 ?_)));rw [if_neg (by simp)];refine wpAny_bind (wpAny_pure (wpAny_bind (wpAny_dictEpoch h1 h2 ?_)));rw [if_neg (by simp)];refine wpAny_pure ?_;simp only [show¬((i:Int)<0) from by omega,if_false,Int.toNat_natCast,Array.getElem?_eq_none hi];refine wpAny_bind ?_
 first|refine wpAny_bind (wpAny_typeNameOfWhole_keyiter st.typeIs (wpAny_pure ?_))|refine wpAny_bind (wpAny_typeNameOf_keyiter st.typeIs (wpAny_pure ?_))
 show wpAny _ _ (setField (.ref it) 0 .none>>=fun _=>_) _ _ s
 refine wpAny_bind (wpAny_setField g1 g3 (by simp) ?_);show wpAny _ _ (newExc (.type "StopIteration") []>>=fun _=>_) _ _ _
 refine wpAny_bind ?_;simp only [newExc,newTuple];refine wpAny_bind (wpAny_newObj_type (wpAny_bind (m:=firstArgMember _ _) (wpAny_of_eq (a:=Value.none) (by first|rfl|(simp only [firstArgMember];rfl)) (wpAny_newObj_type ?_ (by size_fits)))) (by size_fits));simp only [raiseNew];refine wpAny_bind (wpAny_handled ?_);rw [show A.in1.handled=none from hh];refine wpAny_bind (wpAny_pure (wpAny_throw ?_));refine wpAny_bind (wpAny_isInstance (T:="StopIteration") (b:=true) ⟨_,Heap.get?_push_size _ rfl,rfl⟩ isSubtype_stop ?_);exact wpAny_pure (hQ _ (((Heap.SameBut.update ..).extBut.push _).push _))
end
end L2
namespace L2
open PySem PySem.Spec PyProof.Rows
theorem KT.drop{H:Hp}{aD:List (List Key×V)}{xs:List (List Key×Addr×Value)}(r:KT H aD xs)(k:List Key):KT H (eC aD k) (xs.filter fun x=>decide (x.1≠k)):=by
 unfold eC
 induction r with
 |nil=>exact .nil
 |@cons p q ps qs h t ih=>
  rw [List.filter_cons,List.filter_cons,←h.1];split
  ·exact .cons h ih
  ·exact ih
theorem KT.len{H:Hp}{aD:List (List Key×V)}{xs:List (List Key×Addr×Value)}(r:KT H aD xs):aD.length=xs.length:=Paired.length r
section
variable{X:Cx}{pins:List (Addr×Obj)}{σ:St}{H:Hp}{s:Shared}{a b:Addr}{aD:List (List Key×V)}{k:List Key}{A:Around}{E:Value→Shared→Prop}
theorem Cq{Q:Value→Shared→Prop}(I:Inv X pins σ H s)(e:Rd H a (.dT aD))(h:∀t s',Inv X pins σ H s'→Q (.int aD.length t) s'):wpAny (model X.prog X.w) A (call (.builtin "len") [.ref a]) Q E s:=by
 obtain⟨z,lo,xs,rel,dd⟩:=i8 I.hok e
 refine Cp lo dd (by rw [←rel.len];rw [sizeLine_eq] at z;omega) ?_;rw [←rel.len];exact h _ _ (I.tok _)
theorem DX{v:V}{Q:Value→Shared→Prop}(hu:A.units+1<cLine)(I:Inv X pins σ H s)(e:H a=some (.dT aD))(eb:H b=some (.tup (k.map kV)))(l:fF aD k=some v)
 (h:∀w' s',Inv X pins σ (upd H a (.dT (eC aD k))) s'→RelV v w'→Q w' s'):wpAny (model X.prog X.w) A (call (.builtin "dict.pop") [.ref a,.ref b]) Q E s:=by
 obtain⟨z,lo,xs,rel,dd⟩:=vA I.hok e
 obtain⟨w',hw,gX⟩:=iI.some_of (v:=v) (o:=(atKey xs k).map (·.2)) (by rw [←l];exact rel.val k)
 obtain⟨p,hp,hp2⟩:=Option.map_eq_some_iff.mp hw
 refine call_meetsIn PySem.F.slot_dict_pop dd.typeIs PySem.F.entry_dict_pop (PySem.F.args_dict_pop_2 _ _) (nX (knd:=tupleKind (bH X.prog X.w)) a b) ⟨tupleKind_room_in1 hu,k,xs,p,fQ I.hok eb,dd,by rw [←rel.len];exact z,hp,fun h' BU hs=>?_⟩
 rw [hp2];obtain⟨q,es,ep,hq,h2,h3,h4,_,h5⟩:=BU
 refine h w' _ (fA I (by rw [e];exact True.intro) hs ⟨q,hq⟩ ⟨Nat.le_trans (xY aD k) z,lo,_,(rel.drop k).keeps fun c ys ec=>?_,q,es,ep,hq,h2,h3,h4,h5⟩) gX
 rw [ah (fN ec e (fun z=>nomatch z))];exact ec
theorem Inv.freeze(I:Inv X pins σ H s)(e:H a=some (.dT aD)):∃o,Inv X pins σ (upd H a (.frz o (.dT aD))) s:=by
 obtain⟨z,lo,xs,rel,o,es,ep,h1,h2,h3,h4,h5⟩:=(show bK X.prog X.w H s.heap a (.dT aD) from I.hok a _ e)
 refine⟨o,fA (h':=s.heap) (t':=s.toks) I (by rw [e];exact True.intro) ⟨rfl,fun _ _=>rfl⟩ ⟨o,h1⟩ ⟨h1,z,lo,xs,?_,o,es,ep,h1,h2,h3,h4,h5⟩⟩
 exact KT.keeps (H:=H) rel fun c ys ec=>by rw [ah (fN ec e (fun z=>nomatch z))];exact ec
end
theorem oK{X:Cx}{pins:List (Addr×Obj)}{σ:St}{H:Hp}{s:Shared}{a:Addr}{o:Obj}{aD:List (List Key×V)}(I:Inv X pins σ H s)(e:H a=some (.frz o (.dT aD))):
 (a==sysModules)=false∧s.heap.get? a=some o∧o.ExactDict∧∃es ep,o.data=.dict es ep∧es.size=aD.length∧∀(i:Nat) (h:i<es.size),∃b k v,es[i].key=.ref b∧aD[i]?=some (k,v)∧H b=some (.tup (k.map kV)):=by
 obtain⟨h0,z,lo,xs,rel,o',es,ep,h1,h2,h3,h4,h5⟩:=(show bK X.prog X.w H s.heap a (.frz o (.dT aD)) from I.hok a _ e)
 rw [h0] at h1;cases h1;have hl:es.size=xs.length:=size_of_entries h4
 refine⟨lo,h0,h2,es,ep,h3,hl.trans (KT.len rel).symm,fun i hi=>?_⟩
 have hx:i<xs.length:=by omega
 have e1:es[i]?=(xs[i]?).map (entryOfKey (tupleKind (bH X.prog X.w))):=entry_at h4 i
 rw [List.getElem?_eq_getElem hx,Array.getElem?_eq_getElem hi] at e1;have hk:i<aD.length:=by have:=KT.len rel;omega
 have pr:∀{l:List (List Key×V)} {m:List (List Key×Addr×Value)},KT H l m→∀(j:Nat) p q,l[j]?=some p→m[j]?=some q→p.1=q.1∧H q.2.1=some (.tup (p.1.map kV)):=by
  intro l m r
  induction r with
  |nil=>intro j p q h;simp at h
  |cons h t ih=>
   intro j p q h1 h2;cases j with
   |zero=>simp at h1 h2;subst h1 h2;exact⟨h.1,h.2.1⟩
   |succ j=>simp at h1 h2;exact ih j p q h1 h2
 obtain⟨g1,g2⟩:=pr (KT.keeps (H':=H) rel fun _ _ z=>z) i aD[i] xs[i] (List.getElem?_eq_getElem hk) (List.getElem?_eq_getElem hx)
 refine⟨xs[i].2.1,aD[i].1,aD[i].2,?_,List.getElem?_eq_getElem hk,g2⟩;have e2:es[i]=entryOfKey (tupleKind (bH X.prog X.w)) xs[i]:=Option.some.inj e1
 rw [e2]
 rfl
section
variable{X:Cx}{o e:Expr}{apos bw:Pos}{td ty:TE}
noncomputable def FK(td ty:TE):TE:=fun σ H Q=>td σ H fun x H1=>∃a,x=.ref a∧BR H1 a∧ty σ H1 fun y H2=>∃aD k b v,H2 a=some (.dT aD)∧y=.ref b∧H2 b=some (.tup (k.map kV))∧fF aD k=some v∧Q v (upd H2 a (.dT (eC aD k)))
theorem y6(hu:X.A.units+1<cLine)(ho:PE X o td)(he:PE X e ty)(m:M1 X o "pop" apos e bw):PE X (.Call (.Attribute o "pop" apos) [e] [] bw) (FK td ty):=by
 intro pins s σ H Q I h;refine wpAny_Call_method m.base m.few m.line PySem.F.plainAttrs_dict PySem.F.slot_dict_pop PySem.F.type_dict_pop (bL (ho pins s σ H _ I h) fun u s1 ⟨x,H1,I1,rx,a,ex,d,q1⟩=>?_)
 subst ex;obtain rfl:u=Value.ref a:=rx
 obtain⟨t1,t2,_⟩:=D2 I1 d
 refine⟨t1,t2,?_⟩;rw [m.trees];refine Calls.callWith_builtin rfl (Calls.evalArgs_plain (Calls.spliced_cons (bL (he pins s1 σ H1 _ I1 q1) fun iv s2 ⟨y,H2,I2,ry,aD,k,b,v,ea,ey,eb,l,q2⟩=>Calls.spliced_nil ?_)))
 subst ey;cases(show iv=Value.ref b from ry);exact DX hu I2 ea eb l fun w' s3 I3 gX=>⟨v,_,I3,gX,q2⟩
end
end L2
namespace L2
open PySem PySem.Spec PyProof.Rows PySem.W
def aM{α:Type}(lt:Nat→Nat→Bool):KasT α→α
 |.ret a=>a
 |.ask i j k=>aM lt (k (lt i j))
def dv{α:Type}(n:Nat)(R:α→Prop):KasT α→Prop
 |.ret a=>R a
 |.ask i j k=>i<n∧j<n∧∀b,dv n R (k b)
theorem dv.bind{α β:Type}{n:Nat}{R:α→Prop}{R':β→Prop}{f:α→KasT β}(hf:∀a,R a→dv n R' (f a)):∀(t:KasT α),dv n R t→dv n R' (t.bind f)
 |.ret a,h=>hf a h
 |.ask i j k,h=>⟨h.1,h.2.1,fun b=>dv.bind hf (k b) (h.2.2 b)⟩
theorem dv.run{α:Type}{n:Nat}{R:α→Prop}(lt:Nat→Nat→Bool):∀(t:KasT α),dv n R t→R (aM lt t)
 |.ret a,h=>h
 |.ask i j k,h=>dv.run lt (k (lt i j)) (h.2.2 _)
theorem w9{α:Type}{n:Nat}{R:α→Prop}{cmp:Nat→Nat→(Bool→Shared→Prop)→Shared→Prop}{lt:Nat→Nat→Bool}{Q:α→Shared→Prop}{s:Shared}
 (hc:∀i j C,i<n→j<n→C (lt i j) s→cmp i j C s):∀(t:KasT α),dv n R t→Q (aM lt t) s→t.kasWp cmp Q s
 |.ret a,_,h=>h
 |.ask i j k,a,h=>hc i j _ a.1 a.2.1 (w9 hc (k (lt i j)) (a.2.2 _) h)
abbrev Pm(n:Nat)(p:Array Nat):Prop:=p.toList.Perm (List.range n)
theorem Pm.lt{n:Nat}{p:Array Nat}(h:Pm n p)(h0:0<n)(i:Nat):p.getD i 0<n:=by
 rw [Array.getD_eq_getD_getElem?];cases e:p[i]? with
 |none=>exact h0
 |some x=>
  have:x∈p.toList:=by rw [Array.mem_toList_iff];exact Array.mem_of_getElem? e
  exact List.mem_range.mp (h.mem_iff.mp this)
theorem Pm.rev{n:Nat}{p:Array Nat}(h:Pm n p)(i j:Nat):Pm n (kas_rev p i j):=(mirror_perm p i j _).toList.trans h
theorem Pm.bub{n:Nat}{p:Array Nat}(h:Pm n p)(i j:Nat):Pm n (bubble p i j):=(bubble_perm p i j).toList.trans h
section
variable{n:Nat}(h0:0<n)
include h0
theorem jo{p:Array Nat}(h:Pm n p):∀f m,dv n (fun _=>True) (kas_asc p f m)
 |0,m=>trivial
 |f+1,m=>⟨h.lt h0 _,h.lt h0 _,fun b=>by dsimp only;split;exact trivial;exact jo h f (m+1)⟩
theorem fv:∀f (p:Array Nat) m q,Pm n p→dv n (fun r=>Pm n r.1) (kas_desc f p m q)
 |0,p,m,q,h=>h
 |f+1,p,m,q,h=>⟨h.lt h0 _,h.lt h0 _,fun b=>by
  cases b with
  |true=>
   dsimp only;rw [if_pos rfl];split
   ·exact fv f _ _ _ (h.rev _ _)
   ·exact fv f _ _ _ h
  |false=>
   dsimp only;rw [if_neg (by simp)];exact⟨h.lt h0 _,h.lt h0 _,fun b=>by dsimp only;split;exact h;exact fv f _ _ _ h⟩⟩
theorem lu{p:Array Nat}(h:Pm n p)(m r:Nat):dv n (fun r=>Pm n r.2) (kas_tail3 m r p):=by
 unfold kas_tail3;refine dv.bind (R:=fun _=>True) (fun a _=>?_) _ (jo h0 (h.rev _ _) _ _);exact h.rev 0 m
theorem mr{p:Array Nat}(h:Pm n p)(m r:Nat):dv n (fun r=>Pm n r.2) (kas_descPart m r p):=dv.bind (fun a ha=>by
 split
 ·exact lu h0 (Pm.rev ha _ _) _ _
 ·exact lu h0 ha _ _) _ (fv h0 _ _ _ _ h)
theorem qU{p:Array Nat}(h:Pm n p)(r:Nat):dv n (fun r=>Pm n r.2) (kas_count r p):=dv.bind (fun a _=>by
 split
 ·exact h
 ·split
  ·exact⟨h.lt h0 _,h.lt h0 _,fun b=>by dsimp only;split;exact h;exact mr h0 (h.rev _ _) _ _⟩
  ·exact mr h0 h _ _) _ (jo h0 h _ _)
theorem gf{p:Array Nat}(h:Pm n p)(k:Nat):∀f l r,dv n (fun _=>True) (kas_place p k f l r)
 |0,l,r=>trivial
 |f+1,l,r=>by
  unfold kas_place;split
  ·exact trivial
  ·exact⟨h.lt h0 _,h.lt h0 _,fun b=>by dsimp only;split;exact gf h k f _ _;exact gf h k f _ _⟩
theorem p6:∀f (p:Array Nat) k,Pm n p→dv n (Pm n) (kas_bin f p k)
 |0,p,k,h=>h
 |f+1,p,k,h=>dv.bind (fun l _=>p6 f _ _ (h.bub _ _)) _ (gf h0 h k _ _ _)
theorem lX:dv n (Pm n) (kas_sort n):=dv.bind (fun a ha=>by
 split
 ·exact p6 h0 _ _ _ ha
 ·exact ha) _ (qU h0 (List.Perm.refl _) n)
end
def f9(n:Nat)(lt:Nat→Nat→Bool):List Nat:=(aM lt (kas_sort n)).toList
theorem fj{n:Nat}(h:0<n)(lt:Nat→Nat→Bool):(f9 n lt).Perm (List.range n):=dv.run lt _ (lX h)
section
variable{prog:Program}{w:World}{A:Around}{E:Value→Shared→Prop}{s:Shared}{a:Addr}{vs:List Value}{nss:List (List Int)}
theorem ko{S:Addr}{h:Heap}{c:Nat}{xs ys:Array Value}(e:h.get? S=some (seqObj "list" xs c)):∃c',(h.update S (Obj.mapSeq fun _=>ys)).get? S=some (seqObj "list" ys c'):=⟨_,get?_update_seq e fun _=>ys⟩
theorem jg{α β:Type}{R:α→β→Prop}{l:List α}{m:List β}(r:Paired R l m):∀{i:Nat} {p:α} {q:β},l[i]?=some p→m[i]?=some q→R p q:=by
 induction r with
 |nil=>intro i p q h;simp at h
 |cons h t ih=>
  intro i p q h1 h2;cases i with
  |zero=>simp at h1 h2;subst h1 h2;exact h
  |succ i=>simp at h1 h2;exact ih h1 h2
def fc(h:Heap)(vs:List Value)(nss:List (List Int)):Prop:=Paired (fun v ns=>∃b o aE n,v=.ref b∧h.get? b=some o∧o.cls=.type "tuple"∧o.data=.seq aE n∧Vals (ns.map V.int) aE.toList∧ns≠[]) vs nss
theorem fc.keep{h h':Heap}(t:fc h vs nss)(k:∀b o,h.get? b=some o→o.cls=.type "tuple"→h'.get? b=some o):fc h' vs nss:=
 Paired.mapP t fun _ _ ⟨b,o,aE,n,e1,e2,e3,e4,e5,e6⟩=>⟨b,o,aE,n,e1,k b o e2 e3,e3,e4,e5,e6⟩
theorem jX{b:Bool}{Q:Bool→Shared→Prop}:∀(ns ms:List Int) (xs ys:List Value) (i:Nat),Vals (ns.map V.int) xs→Vals (ms.map V.int) ys→Q (HT.lexLt ns ms) s→KatLex prog w A b (decide (xs.length<ys.length)) Q (xs.zip ys) i s
 |[],[],_,_,i,.nil,.nil,h=>by simpa [KatLex,HT.lexLt_nil_nil] using h
 |[],m::ms,_,_,i,.nil,.cons _ _,h=>by simpa [KatLex,HT.lexLt] using h
 |n::ns,[],_,_,i,.cons _ _,.nil,h=>by simpa [KatLex,HT.lexLt] using h
 |n::ns,m::ms,_,_,i,.cons (a:=_) (b:=u) h1 t1,.cons (b:=v) h2 t2,h=>by
  obtain⟨t,rfl⟩:=h1
  obtain⟨t',rfl⟩:=h2
  rw [HT.lexLt_cons] at h;refine kat_cons (wpAny_eqBool_int ?_)
  by_cases e:n=m
  ·subst e;rw [if_pos rfl] at h;rw [show(n==n)=true from by simp];refine kat_yes ?_;have:=jX (b:=b) ns ms _ _ (i+1) t1 t2 h
   simp only [List.length_cons,Nat.add_lt_add_iff_right];exact this
  ·rw [if_neg e] at h;rw [show(n==m)=false from by simpa using e];refine kat_no ?_;cases hb:(b&&i==0) with
   |true=>exact oneLt_int h
   |false=>exact kat_one _ _ (PyProof.Rows.lt_int h)
theorem uJ{n:Nat}{P:PySem.Fin→Shared→Prop}(ho:s.heap.get? a=some (seqObj "list" vs.toArray n))(h2:2≤vs.length)(yv:vs.length<64)(t:fc s.heap vs nss)
 (h:∀h' c,(∀b o,b≠a→s.heap.get? b=some o→h'.get? b=some o)→h'.get? a=some (seqObj "list" ((f9 vs.length fun i j=>HT.lexLt (nss.getD i []) (nss.getD j [])).map fun i=>vs.getD i Value.none).toArray c)→P (.done (.ret .none)) {s with heap:=h'}):
 wpAny (model prog w) A (Builtin.«list.sort» ⟨[.ref a],[]⟩) P E s:=by
 have s1:=Heap.SameBut.update s.heap a (Obj.mapSeq fun _=>(#[]:Array Value))
 obtain⟨e1,ho1⟩:∃e1,(s.heap.update a (Obj.mapSeq fun _=>(#[]:Array Value))).get? a=some (seqObj "list" #[] e1):=⟨_,get?_update_seq ho fun _=>#[]⟩
 have hlen:vs.length=nss.length:=Paired.length t
 generalize hH:(((s.heap.update a (Obj.mapSeq fun _=>(#[]:Array Value))).push (seqObj "tuple" vs.toArray 0)).push (seqObj "list" #[] 0))=H1
 have k1:∀b o,b≠a→s.heap.get? b=some o→H1.get? b=some o:=fun b o hb e=>by rw [←hH];exact Heap.get?_push_of_some _ (Heap.get?_push_of_some _ ((s1.2 b hb).trans e))
 have a1:H1.get? a=some (seqObj "list" #[] e1):=by rw [←hH];exact Heap.get?_push_of_some _ (Heap.get?_push_of_some _ ho1)
 have t1:fc H1 vs nss:=t.keep fun b o e c=>k1 b o (fun z=>by rw [z,ho] at e;cases e;exact absurd (show Value.type "list"=Value.type "tuple" from c) (by decide)) e
 rw [list_sort_plain];refine wpAny_bind (listItems_at ho rfl (wpAny_bind (listUpdate_at ho rfl ?_ (by rw [List.size_toArray,sizeLine_eq];omega) (Nat.zero_le _))));refine wpAny_bind (seqEpoch_at ho1 rfl (wpAny_bind (wpAny_newTuple ?_ (by show vs.length≤_;rw [sizeLine_eq];omega))));refine wpAny_bind (wpAny_newList ?_ (Nat.zero_le _));refine wpAny_holding ?_;show wpAny (model prog w) A _ P E {s with heap:=((s.heap.update a (Obj.mapSeq fun _=>(#[]:Array Value))).push (seqObj "tuple" vs.toArray 0)).push (seqObj "list" #[] 0)}
 rw [hH];dsimp only;have Bq:¬vs.toArray.size<2:=by rw [List.size_toArray];omega
 rw [if_neg Bq,if_neg Bq];have kt:∃fs,KatTups H1 vs fs∧fs.length=vs.length∧∀v∈fs,∃i t,v=.int i t:=by
  clear h ho hlen h2 yv k1 a1 hH t Bq
  have go:∀{vs:List Value} {nss:List (List Int)},fc H1 vs nss→∃fs,KatTups H1 vs fs∧fs.length=vs.length∧∀v∈fs,∃i t,v=.int i t:=by
   intro vs nss t
   induction t with
   |nil=>exact⟨[],trivial,rfl,fun v hv=>nomatch hv⟩
   |cons h t ih=>
    obtain⟨fs,i1,i2,i3⟩:=ih
    obtain⟨b,o,aE,n,rfl,g1,g2,g3,g4,g5⟩:=h
    rename_i v ns l l2;cases ns with
    |nil=>exact absurd rfl g5
    |cons m ms=>
     rw [List.map_cons] at g4;cases hi:aE.toList with
     |nil=>rw [hi] at g4;cases g4
     |cons f r=>
      rw [hi] at g4;cases g4 with
      |cons r1 r2=>
       obtain⟨tk,rfl⟩:=r1
       have f0:aE[0]?=some (.int m tk):=by rw [←Array.getElem?_toList,hi];rfl
       exact⟨.int m tk::fs,.cons g1 g2 g3 f0 i1,by simp [i2],fun v hv=>by
        rcases List.mem_cons.mp hv with rfl|hv
        ·exact⟨m,tk,rfl⟩
        ·exact i3 v hv⟩
  exact go t1
 obtain⟨fs,kt1,kt2,kt3⟩:=kt
 refine wpAny_bind (kat_kind (T:=.type "int") (s:={s with heap:=H1}) kt1 (by omega) (fun v hv=>?_) rfl ?_)
 ·obtain⟨i,t,rfl⟩:=kt3 v hv
  exact .now
 have Mv:∀i j (C:Bool→Shared→Prop),i<vs.length→j<vs.length→C (HT.lexLt (nss.getD i []) (nss.getD j [])) {s with heap:=H1}→kas_ask prog w A (tuples' (Value.type "int" !=Value.type "tuple")) vs i j C {s with heap:=H1}:=by
  intro i j C hi hj hC;unfold kas_ask;obtain⟨b,o,aE,n,e1,g1,g2,g3,g4,_⟩:=jg t1 (List.getElem?_eq_getElem hi) (List.getElem?_eq_getElem (show i<nss.length by omega))
  obtain⟨b',o',its',n',J5,Cn,Ha,g3',g4',_⟩:=jg t1 (List.getElem?_eq_getElem hj) (List.getElem?_eq_getElem (show j<nss.length by omega))
  have v1:vs.getD i Value.none=.ref b:=by simp [hi,e1]
  have v2:vs.getD j Value.none=.ref b':=by simp [hj,J5]
  have n1:nss.getD i []=nss[i]'(by omega):=by simp [show i<nss.length by omega]
  have n2:nss.getD j []=nss[j]'(by omega):=by simp [show j<nss.length by omega]
  rw [v1,v2];rw [n1,n2] at hC;refine kat_lt (s:={s with heap:=H1}) g1 g3 Cn g3' ?_;have:=jX (prog:=prog) (w:=w) (A:=A) (b:=(Value.type "int" !=Value.type "tuple")) _ _ _ _ 0 g4 g4' hC
  simpa using this
 refine wpAny_bind (wpAny_mono (kat_run (Q:=fun kA s'=>∃p:Array Nat,p.size=vs.length∧arrOf kA=p.map (kas_item (vs.toArray.zip vs.toArray))∧failedOf kA=none∧p=aM (fun i j=>HT.lexLt (nss.getD i []) (nss.getD j [])) (kas_sort vs.length)∧s'={s with heap:=H1})
  rfl h2 yv (fun p' kA s' a1 a2 a3 a4=>⟨p',a1,a2,a3,a4⟩) (w9 Mv _ (lX (by omega)) ⟨rfl,rfl⟩)) ?_ fun _ _ e=>e)
 rintro ⟨⟨⟩,kA⟩ s' ⟨p,hp,har,hf,rfl,rfl⟩
 dsimp only;have CC:=kat_snds rfl har
 rw [CC];have s2:=Heap.SameBut.update H1 a (Obj.mapSeq fun _=>List.toArray ((aM (fun i j=>HT.lexLt (nss.getD i []) (nss.getD j [])) (kas_sort vs.length)).toList.map fun i=>vs.getD i Value.none))
 obtain⟨c2,hc2⟩:=ko (ys:=List.toArray ((aM (fun i j=>HT.lexLt (nss.getD i []) (nss.getD j [])) (kas_sort vs.length)).toList.map fun i=>vs.getD i Value.none)) a1
 refine wpAny_bind (seqEpoch_at a1 rfl (wpAny_bind (listUpdate_at a1 rfl ?_ (Nat.zero_le _) (by
  show(List.toArray _).size≤_
  rw [List.size_toArray,List.length_map,Array.length_toList,hp,sizeLine_eq];omega))))
 rw [hf];simp only [bne_self_eq_false,Bool.false_eq_true,if_false];exact wpAny_pure (h _ c2 (fun b o hb e=>(s2.2 b hb).trans (k1 b o hb e)) hc2)
end
end L2
namespace L2
open PySem PySem.Spec PyProof.Rows
section
variable{prog:Program}{w:World}{A:Around}{E:Value→Shared→Prop}{s:Shared}{a:Addr}{o:Obj}{xs:Array Value}{k:Nat}
end
section
variable{X:Cx}{pins:List (Addr×Obj)}{σ:St}{l d it:Addr}{vs:List V}{A:Around}{E:Value→Shared→Prop}{R:Result→Shared→Prop}
theorem D8{H:Hp}{s:Shared}{a b:Addr}{aD:List (List Key×V)}{k:List Key}{v:V}{r:Value}{Q:Unit→Shared→Prop}(hu:A.units<cLine)(I:Inv X pins σ H s)(e:H a=some (.dT aD))(eb:H b=some (.tup (k.map kV)))(l:aD.length<sizeLine)(rv:RelV v r)
 (h:∀h' t,Heap.SameBut a s.heap h'→Inv X pins σ (upd H a (.dT (putK aD k v))) {s with heap:=h',toks:=t}→Q () {s with heap:=h',toks:=t}):wpAny (model X.prog X.w) A (dictSet a (.ref b) r) Q E s:=by
 obtain⟨z,lo,xs,rel,dd⟩:=vA I.hok e
 have hz:xs.length≤sizeLine:=by rw [←rel.len];exact z
 have hl:(putK aD k v).length≤sizeLine:=by have:=ff aD k v;omega
 refine wpAny_dictSet_heap (hsz:=hz) (knd:=tupleKind (bH X.prog X.w)) hu (fQ I.hok eb) dd fun h' BU hs=>h h' _ hs ?_
 obtain⟨q,es,ep,hq,h2,h3,h4,_,h5⟩:=BU
 refine fA I (by rw [e];exact True.intro) hs ⟨q,hq⟩ ⟨hl,lo,_,(rel.put k eb rv).keeps fun c ys ec=>?_,q,es,ep,hq,h2,h3,h4,h5⟩
 rw [ah (fN ec e (fun z=>nomatch z))];exact ec
theorem fD.far{K:PySem.W.Frag}{H H':Hp}{a:Addr}{xs:List V}(h:fD K H a xs)(e:∀b,b≠d→H' b=H b){acc:List (List Key×V)}(hd:H d=some (.dT acc)):fD K H' a xs:=by
 rcases h with(h|⟨o,h⟩)|h
 ·exact .inl (.inl (by rw [e a (fN h hd (fun z=>nomatch z))];exact h))
 ·exact .inl (.inr ⟨o,by rw [e a (fN h hd (fun z=>nomatch z))];exact h⟩)
 ·exact .inr h
end
end L2
namespace L2
open PySem PySem.Spec PyProof.Rows
structure wy(H Hw:Hp)(d:Addr)(o:Obj)(aD:List (List Key×V)):Prop where
 at_:Hw d=some (.frz o (.dT aD))
 dt:H d=some (.dT aD)
 same:∀b u,H b=some u→b≠d→Hw b=some u
 new:∀b u,Hw b=some u→H b=none→∃ob,u=.frz ob bx
section
variable{P:Program}{w:World}{H Hw:Hp}{d:Addr}{o:Obj}{aD:List (List Key×V)}{fs:List Addr}{h h':Heap}
theorem wy.back(z:wy H Hw d o aD)(u:Un fs [] Hw Hw h h')(k:dG P w Hw h)(k':dG P w Hw h'):Un fs [] H H h h'∧dG P w H h'∧h'.get? d=some o:=by
 have fz:∀b ob,Hw b=some (.frz ob bx)→∀o,h.get? b=some o→h'.get? b=some o:=fun b ob e o q=>by
  have h1:h.get? b=some ob:=(k b _ e).1
  have h2:h'.get? b=some ob:=(k' b _ e).1
  rw [h1] at q;cases q;exact h2
 have st:∀c v,Hw c=some v→(∀ob u,v≠.frz ob u)→H c=some v:=fun c v e n=>by
  cases q:H c with
  |none=>obtain⟨ob,rfl⟩:=z.new c v e q;exact absurd rfl (n ob _)
  |some u=>
   by_cases hc:c=d
   ·subst hc;rw [z.at_] at e;cases e;exact absurd rfl (n _ _)
   ·rw [z.same c u q hc] at e;exact e
 refine⟨⟨fun b ob e n hb hx=>?_,fun b ob e n hb hx=>?_,fun b ob e n hx=>n,fun b ob e hx=>u.there b ob e hx,fun _ _ e=>e,fun _ _ _ e=>e,fun b ps e=>⟨#[],by simpa using e⟩⟩,fun b v e=>?_,(k' d _ z.at_).1⟩
 ·cases q:Hw b with
  |none=>exact u.keep b ob e q hb hx
  |some v=>obtain⟨o',rfl⟩:=z.new b v q n;exact fz b o' q ob e
 ·cases q:Hw b with
  |none=>exact u.slot b ob e q hb hx
  |some v=>obtain⟨o',rfl⟩:=z.new b v q n;exact⟨ob.slots,fz b o' q ob e⟩
 ·have go:∀v,bK P w Hw h' b v→bK P w H h' b v:=fun v y=>y.stay (fun _ _ _ r=>r) (fun c r=>st c _ r (fun _ _ z=>nomatch z)) fun c xs r=>st c _ r (fun _ _ z=>nomatch z)
  by_cases hb:b=d
  ·subst hb;rw [z.dt] at e;cases e;exact go _ (k' b _ z.at_).2
  ·exact go v (k' b v (z.same b v e hb))
end
structure qP(p y:Str)(params:Arguments)(body:Expr)(scope:Scope):Prop where
 body:∃q1 q2 q3 q4 q5 j,body=.Subscript (.Subscript (.Name y q1) (.Name p q2) q3) (.Constant (.int 0) j q4) q5
 sc:o6 [p] [y] scope
 d1:(p==("__debug__":Str))=false
 d2:(p==("__classdict__":Str))=false
 d3:(y==("__debug__":Str))=false
 d4:(y==("__classdict__":Str))=false
section
variable{X:Cx}{pins:List (Addr×Obj)}{σ:St}{H:Hp}{s:Shared}{d f c c' b:Addr}{o oc:Obj}{aD:List (List Key×V)}{kk:Nat}{p y qual:Str}{params:Arguments}{body:Expr}{scope:Scope}{pm er:Value}{cR:Array Value}{ct:Tok}{k:List Key}{q:Addr}{n:Int}{r:List V}{A:Around}{E:Value→Shared→Prop}
theorem vF(hA:A=X.A.in1)(L:qP p y params body scope)(hr:dc (kk+1) X.A)(I:Inv X pins σ H s)(hd:H d=some (.dT aD))(ho:s.heap.get? d=some o)
 (dB:X.env.cells.lookup y=some c) (vw:X.s₀.heap.objs.size≤c) (M3:s.heap.IsCell c (some (.ref d)))
 (hf:H f=some (.frz (PySem.W.kla_obj "<lambda>" qual params body scope [(y,c)] pm c' er) bx)) (fW:H c'=some (.frz oc bx)) (qq:oc.data=.fields cR) (By:cR[1]?=some (.str qual ct))
 (hb:∀u,bindArgs (PySem.W.kla_fn "<lambda>" qual params body scope [(y,c)] pm (.ref c') er) ⟨[u],[]⟩=pure ([p].zip [u]))
 (Hf:H b=some (.tup (k.map kV))) (hv:fF aD k=some (.ref q)) (hq:fD X.K H q (.int n::r)):
 wpAny (model X.prog X.w) A (call (.ref f) [.ref b]) (fun u s'=>(∃t,u=.int n t)∧Inv X pins σ H s'∧s'.heap.get? d=some o) E s:=by
 subst hA;obtain⟨q1,q2,q3,q4,q5,j,rfl⟩:=L.body
 obtain⟨ocell,g1,g2⟩:=id M3
 have Am:H c=none:=I.freeC y c dB
 obtain⟨z0,lo,xs,rel,o',es,ep,h1,h2,h3,h4,h5⟩:=(show bK X.prog X.w H s.heap d (.dT aD) from I.hok d _ hd)
 rw [ho] at h1;cases h1;have If:Inv X pins σ (upd H d (.frz o (.dT aD))) s:=by
  refine fA (h':=s.heap) (t':=s.toks) I (by rw [hd];exact True.intro) ⟨rfl,fun _ _=>rfl⟩ ⟨o,ho⟩ ⟨ho,z0,lo,xs,?_,o,es,ep,ho,h2,h3,h4,h5⟩
  exact KT.keeps (H:=H) rel fun c ys ec=>by rw [ah (fN ec hd (fun z=>nomatch z))];exact ec
 have MH:c≠d:=fun z=>by rw [z,hd] at Am;cases Am
 have M4:f≠d:=fN hf hd (fun z=>nomatch z)
 have J4:c'≠d:=fN fW hd (fun z=>nomatch z)
 have Bh:qQ [(c,ocell)] (upd H d (.frz o (.dT aD))) (dQ X.stack) s.heap:=by
  have lk:∀b o,List.lookup b [(c,ocell)]=some o→b=c∧o=ocell:=fun b o e=>by
   rw [List.lookup_cons] at e;cases vn:b==c with
   |true=>rw [vn] at e;cases e;exact⟨beq_iff_eq.mp vn,rfl⟩
   |false=>rw [vn] at e;cases e
  refine⟨fun b o e=>?_,fun b o e=>?_,fun b o e=>?_⟩
  ·obtain⟨rfl,rfl⟩:=lk b o e;exact g1
  ·obtain⟨rfl,rfl⟩:=lk b o e;rw [ah MH];exact Am
  ·obtain⟨rfl,rfl⟩:=lk b o e
   intro IV;rcases List.mem_cons.mp (I.stkSub b IV) with z|z
   ·exact I.cne y b dB z
   ·obtain⟨_,o',h4,_⟩:=I.ok.funs.mem z
    exact absurd (Heap.lt_size h4) (Nat.not_lt.mpr vw)
 have zc:List.lookup c [(c,ocell)]=some ocell:=by simp
 have HQ:∀x c1,List.lookup x [(y,c)]=some c1→x=y∧c1=c:=fun x c1 e=>by
  rw [List.lookup_cons] at e;cases hx:x==y with
  |true=>rw [hx] at e;cases e;exact⟨beq_iff_eq.mp hx,rfl⟩
  |false=>rw [hx] at e;cases e
 have zb:∀b o,List.lookup b [(c,ocell)]=some o→X.base.get? b=none:=fun b o e=>by
  rw [List.lookup_cons] at e;cases vn:b==c with
  |true=>
   have:=beq_iff_eq.mp vn;subst this
   cases y':X.base.get? b with
   |none=>rfl
   |some o'=>exact absurd (Heap.lt_size (I.ok.bs b o' y').1) (Nat.not_lt.mpr vw)
  |false=>rw [vn] at e;cases e
 have MK:fD X.K (upd H d (.frz o (.dT aD))) q (.int n::r):=fD.far hq (fun b hb=>ah hb) hd
 have Nl:upd H d (.frz o (.dT aD)) b=some (.tup (k.map kV)):=by rw [ah (fN Hf hd (fun z=>nomatch z))];exact Hf
 have wd:wy H (withZ [(c,ocell)] (upd H d (.frz o (.dT aD)))) d o aD:=by
  have nz:∀b u,H b=some u→List.lookup b [(c,ocell)]=none:=fun b u e=>by
   rw [List.lookup_cons];cases vn:b==c with
   |true=>have:=beq_iff_eq.mp vn;subst this;rw [Am] at e;cases e
   |false=>rfl
  refine⟨by rw [aj (nz d _ hd),au],hd,fun b u e hb=>by rw [aj (nz b u e),ah hb];exact e,fun b u e n=>?_⟩
  cases hz:List.lookup b [(c,ocell)] with
  |some ob=>rw [aZ hz] at e;cases e;exact⟨_,rfl⟩
  |none=>
   rw [aj hz] at e;have Mc:b≠d:=fun z=>by rw [z,hd] at n;cases n
   rw [ah Mc,n] at e;cases e
 refine wpAny_call (codeAny_mono (lam_run (k:=kk) (E:=fun _ _ _=>False) (Q:=fun v H'=>v=.int n∧H'=withZ [(c,ocell)] (upd H d (.frz o (.dT aD)))) (Z:=[(c,ocell)]) (ws:=[.ref d]) (vs:=[.ref b]) (us:=[.ref b])
  (t:=Fg (Gr X.K) (BG (xQ 1) (xQ 0)) (tC (.int 0))) L.sc hr.in1 If.env0.in1 Bh zb ?fo ?co qq By (hb _) (.cons rfl .nil) rfl rfl ?E6 ?inj ?cz ?cells ?ht ?hq) fun rr s' Fe=>?_)
 case fo=>
  have z:upd H d (.frz o (.dT aD)) f=H f:=ah M4
  exact(If.hok f _ (z.trans hf)).1
 case co=>
  have z:upd H d (.frz o (.dT aD)) c'=some (.frz oc bx):=by rw [ah J4];exact fW
  exact(If.hok c' _ z).1
 case E6=>intro y' Ay;exact⟨c,by rw [List.mem_singleton.mp Ay];simp⟩
 case inj=>intro x y' c1 e1 e2;rw [(HQ x c1 e1).1,(HQ y' c1 e2).1]
 case cz=>intro x c1 e;obtain⟨rfl,rfl⟩:=HQ x c1 e;exact⟨ocell,_,zc,g2⟩
 case cells=>
  intro i y' c1 e1 e2 v e3;obtain⟨rfl,rfl⟩:=HQ y' c1 e2
  cases i with
  |zero=>cases e3;exact⟨.ref d,rfl,ocell,g1,g2⟩
  |succ i=>cases e3
 case ht=>
  refine Bo v3 (zS ?_ (dR (i:=1) rfl (.inr (.inr (L.sc.fre y (by simp)))) L.d3 L.d4) (dR (i:=0) rfl (.inl (L.sc.par p (by simp))) L.d1 L.d2) fun _ _=>rfl) xC fun _ _=>rfl
  have:=hr.un
  show X.A.units+1+3+1<cLine
  omega
 case hq=>
  refine⟨_,rfl,_,rfl,d,.ref q,rfl,?_,?_⟩
  ·exact .inr ⟨aD,k,b,.inr ⟨o,au⟩,rfl,Nl,hv.symm⟩
  ·exact⟨q,.int n::r,0,.int n,rfl,rfl,MK,by simp [oE,Bs],fun _=>⟨rfl,rfl⟩⟩
 ·cases rr with
  |error e=>
   obtain⟨a,C,t,vs,H',B,e1,F⟩:=Fe
   exact(F.ends).elim
  |ok fl=>
   cases fl with
   |ret u=>
    obtain⟨v,H',os,bare,un,hok,rv,rfl,rfl⟩:=Fe
    obtain⟨t,rfl⟩:=rv
    obtain⟨u1,k1,at1⟩:=wd.back un (Bh.hok If.hok) hok
    obtain⟨hh,g,dr,tk,os'⟩:=s'
    obtain rfl:os'=s.os:=os
    exact⟨⟨t,rfl⟩,I.call (h':=hh) (g':=g) (d':=dr) (t':=tk) (ch:=[]) u1 k1 bare (fun b z=>absurd z (by simp)),at1⟩
   |_=>exact Fe.elim
end
end L2
namespace L2
open PySem PySem.Spec PyProof.Rows
structure KM(X:Cx)(σ:St)(H:Hp)(kk:Nat)(d f:Addr)(aD:List (List Key×V))(cf:Nat→Int):Prop where
 room:dc (kk+1) X.A
 dt:H d=some (.dT aD)
 lam:∃(p y:Str) (params:Arguments) (body:Expr) (scope:Scope) (qual:Str) (c c':Addr) (oc:Obj) (cR:Array Value) (ct:Tok) (pm er:Value) (iy:Nat),qP p y params body scope∧X.env.cells.lookup y=some c∧X.s₀.heap.objs.size≤c∧H f=some (.frz (PySem.W.kla_obj "<lambda>" qual params body scope [(y,c)] pm c' er) bx)∧
  H c'=some (.frz oc bx)∧oc.data=.fields cR∧cR[1]?=some (.str qual ct)∧(∀u,bindArgs (PySem.W.kla_fn "<lambda>" qual params body scope [(y,c)] pm (.ref c') er) ⟨[u],[]⟩=pure ([p].zip [u]))∧
  X.N[iy]?=some y∧σ[iy]?=some (some (V.ref d))∧X.env.scope.names.lookup y=some .cell
 cost:∀(i:Nat) k v,aD[i]?=some (k,v)→∃q r,v=V.ref q∧fD X.K H q (.int (cf i)::r)
theorem y8{aD:List (List Key×V)}:∀{i:Nat} {k:List Key} {v:V},(aD.map (·.1)).Nodup→aD[i]?=some (k,v)→fF aD k=some v:=by
 induction aD with
 |nil=>intro i k v _ h;simp at h
 |cons x r ih=>
  intro i k v nd h;rw [List.map_cons,List.nodup_cons] at nd;cases i with
  |zero=>simp at h;subst h;exact eR rfl
  |succ i=>
   simp at h;rw [eX fun e=>nd.1 (e▸List.mem_map.mpr ⟨(k,v),List.mem_of_getElem? h,rfl⟩)]
   exact ih nd.2 h
section
variable{X:Cx}{pins:List (Addr×Obj)}{σ:St}{H:Hp}{s:Shared}{d f it S:Addr}{o:Obj}{es:Array DictEntry}{ep:Nat}{aD:List (List Key×V)}{kk:Nat}{cf:Nat→Int}{R:Result→Shared→Prop}
theorem so(I:Inv X pins σ H s)(e:H d=some (.dT aD)):(d==sysModules)=false∧(aD.map (·.1)).Nodup∧∃o es ep,s.heap.get? d=some o∧o.ExactDict∧o.data=.dict es ep∧es.size=aD.length∧∀(i:Nat) (h:i<es.size),∃b k v,es[i].key=.ref b∧aD[i]?=some (k,v)∧H b=some (.tup (k.map kV)):=by
 obtain⟨o,J⟩:=I.freeze e
 obtain⟨lo,h0,hx,es,ep,h3,hl,hk⟩:=oK J au
 obtain⟨z,_,xs,rel,_,_,_,_,_,_,_,h5⟩:=(show bK X.prog X.w H s.heap d (.dT aD) from I.hok d _ e)
 refine⟨lo,?_,o,es,ep,h0,hx,h3,hl,fun i hi=>?_⟩
 ·have keys:∀{l:List (List Key×V)} {m:List (List Key×Addr×Value)},KT H l m→l.map (·.1)=m.map (·.1):=by
   intro l m r
   induction r with
   |nil=>rfl
   |cons h t ih=>rw [List.map_cons,List.map_cons,h.1,ih]
  rw [keys (KT.keeps (H':=H) rel fun _ _ z=>z)];exact h5
 ·obtain⟨b,k,v,e1,e2,e3⟩:=hk i hi
  refine⟨b,k,v,e1,e2,?_⟩
  by_cases hb:b=d
  ·rw [hb,au] at e3;cases e3
  ·rw [ah hb] at e3;exact e3
theorem eF.pin{b:Addr}{ob:Obj}(h:eF X pins H b)(e:s.heap.get? b=some ob)(n:∀v,ob.data≠.cell v):s.heap.get? b=some ob∧H b=none∧b≠X.env.locals∧b∉X.fs∧∀v,ob.data≠.cell v:=⟨e,h.1,h.2.1,h.2.2.1,n⟩
theorem yi(M:KM X σ H kk d f aD cf)(I:Inv X pins σ H s)(fi:eF X pins H it)(fS:eF X pins H S)(ho:s.heap.get? d=some o){oi oS:Obj}(hi:s.heap.get? it=some oi)(ci:∀v,oi.data≠.cell v)(hS:s.heap.get? S=some oS)(cS:∀v,oS.data≠.cell v)
 (nd:(aD.map (·.1)).Nodup) {i:Nat} {k:List Key} {v:V} {b:Addr} (hk:aD[i]?=some (k,v)) (hb:H b=some (.tup (k.map kV))) {E:Value→Shared→Prop} {Q:Value→Shared→Prop}
 (h:∀t s',Inv X pins σ H s'→s'.heap.get? d=some o→s'.heap.get? it=some oi→s'.heap.get? S=some oS→Q (.int (cf i) t) s'):wpAny (model X.prog X.w) X.A.in1 (call (.ref f) [.ref b]) Q E s:=by
 obtain⟨p,y,params,body,scope,qual,c,c',oc,cR,ct,pm,er,iy,L,l1,l2,l3,l4,l5,l6,l7,l8,l9,l10⟩:=M.lam
 obtain⟨q,r,rfl,hq⟩:=M.cost i k v hk
 have I1:Inv X ((it,oi)::(S,oS)::pins) σ H s:=by
  refine I.pins_of fun p hp=>?_
  rcases List.mem_cons.mp hp with rfl|hp
  ·exact fi.pin hi ci
  ·rcases List.mem_cons.mp hp with rfl|hp
   ·exact fS.pin hS cS
   ·exact I.pin p (List.mem_append_right _ hp)
 have cell:s.heap.IsCell c (some (.ref d)):=by
  obtain⟨m,_,hloc⟩:=I.loc
  obtain⟨u,ru,lk⟩:=hloc iy y (.ref d) l8 l9 (.inr (.inl l10))
  cases(show u=Value.ref d from ru);rcases lk with⟨z,_⟩|⟨_,c2,hc2,z⟩
  ·have z2:X.env.scope.names.lookup y=some .local:=z
   rw [l10] at z2;cases z2
  ·rw [l1] at hc2;cases hc2;exact z
 refine wpAny_mono (vF (kk:=kk) rfl L M.room I1 M.dt ho l1 l2 cell l3 l4 l5 l6 l7 hb (y8 nd hk) hq) (fun u s' hu=>?_) fun _ _ z=>z
 obtain⟨⟨t,rfl⟩,J,hd⟩:=hu
 refine h t s' (J.pins_of fun p hp=>J.pin p (List.mem_append_right _ (.tail _ (.tail _ hp)))) hd (J.pin (it,oi) (List.mem_append_right _ (.head _))).1 (J.pin (S,oS) (List.mem_append_right _ (.tail _ (.head _)))).1
theorem tm{h:Heap}{c:Nat}{xs ys:Array Value}(e:h.get? S=some (seqObj "list" xs c)):∃c',(h.update S (Obj.mapSeq fun _=>ys)).get? S=some (seqObj "list" ys c'):=⟨_,get?_update_seq e fun _=>ys⟩
theorem kh{xs:Array Value}{c:Nat}:∀v,(seqObj "list" xs c).data≠.cell v:=fun v z=>nomatch z
theorem wR(M:KM X σ H kk d f aD cf)(hh:X.A.handled=none)(hd:o.data=.dict es ep)(hl:es.size=aD.length)(BB:∀(i:Nat) (h:i<es.size),∃b k v,es[i].key=.ref b∧aD[i]?=some (k,v)∧H b=some (.tup (k.map kV)))(nd:(aD.map (·.1)).Nodup)
 (fi:eF X pins H it) (fS:eF X pins H S) (nS:S≠it) (hR:∀(i:Nat) (h:i<es.size) s',(∀j,j<es.size→cf i≤cf j∧(j<i→cf i<cf j))→Inv X pins σ H s'→R (.ok (.ret es[i].key)) s'):
 ∀(r j i:Nat) (s:Shared) (t:Tok) (c:Nat) (hi:i<es.size),es.size-(j+1)=r→j+1≤es.size→Inv X pins σ H s→s.heap.get? d=some o→s.heap.IsKeyIter it d (j+1) es.size ep→s.heap.get? S=some (seqObj "list" #[es[i].key,.int (cf i) t] c)→i≤j→(∀j',j'≤j→cf i≤cf j'∧(j'<i→cf i<cf j'))→
  codeAny (model X.prog X.w) X.A (.builtin "min.loop" ⟨[.ref it,.ref f,.ref S],[]⟩) R s:=by
 have name:(toString "min"++toString ".loop":String)="min.loop":=by decide
 have Jx:S≠d:=fun z=>by have:=fS.1;rw [z,M.dt] at this;cases this
 have Ju:it≠d:=fun z=>by have:=fi.1;rw [z,M.dt] at this;cases this
 intro r
 induction r with
 |zero=>
  intro j i s t c hi hr hj I ho st hS sP best;refine codeAny_builtin PySem.F.entry_min_loop ?_;rw [Around.under_plainId PySem.F.plain_min_loop _];show wpAny _ X.A.in1 (seqItems? (.ref S)>>=fun z=>_) _ _ _
  refine wpAny_bind (wpAny_seqItems hS rfl ?_);show wpAny _ X.A.in1 (tryCatch (pyNext (.ref it)) _>>=fun z=>_) _ _ _
  refine wpAny_bind (wpAny_tryCatch (x9 hh st ho hd (by omega) fun h' eb=>?_))
  have Af:=eb S _ nS hS
  have I1:=I.turned (h':=h') (t':=s.toks) (fun b o hb e=>eb b o hb e) fi.1 fi.2.1 fi.2.2.2.1 fi.2.2.2.2.1 fi.2.2.2.2.2
  show wpAny _ X.A.in1 (updateSeq S (fun _=>#[])>>=fun z=>_) _ _ _
  refine wpAny_bind (wpAny_updateSeq Af rfl (wpAny_bind (wpAny_letGo (wpAny_pure ?_))));have s1:=Heap.SameBut.update h' S (Obj.mapSeq fun _=>(#[]:Array Value))
  exact hR i hi _ (fun j' Ab=>best j' (by omega)) (I1.turned (t':=s.toks) (fun b o hb e=>(s1.2 b hb).trans e) fS.1 fS.2.1 fS.2.2.2.1 fS.2.2.2.2.1 fS.2.2.2.2.2)
 |succ r ih=>
  intro j i s t c hi hr hj I ho st hS sP best;have cm:j+1<es.size:=by omega
  refine codeAny_builtin PySem.F.entry_min_loop ?_;rw [Around.under_plainId PySem.F.plain_min_loop _];show wpAny _ X.A.in1 (seqItems? (.ref S)>>=fun z=>_) _ _ _
  refine wpAny_bind (wpAny_seqItems hS rfl ?_);show wpAny _ X.A.in1 (tryCatch (pyNext (.ref it)) _>>=fun z=>_) _ _ _
  refine wpAny_bind (wpAny_tryCatch (mY st ho hd cm fun h' kA sb=>?_));have Af:=(sb.2 S nS).trans hS
  have gW:=(sb.2 d (Ne.symm Ju)).trans ho
  have I1:=I.turned (h':=h') (t':=s.toks) (fun b o hb e=>(sb.2 b hb).trans e) fi.1 fi.2.1 fi.2.2.2.1 fi.2.2.2.2.1 fi.2.2.2.2.2
  obtain⟨oi,gi,gc,gd⟩:=id kA
  obtain⟨b,k,v,e1,e2,e3⟩:=BB (j+1) cm
  rw [e1];show wpAny _ X.A.in1 (tryCatch (holding [Value.ref b] (call (.ref f) [Value.ref b])) _>>=fun z=>_) _ _ _
  refine wpAny_bind (wpAny_tryCatch (wpAny_holding (yi M I1 fi fS gW gi (fun v z=>by rw [gd] at z;cases z) Af kh nd e2 e3 fun t2 s2 I2 vz G9 E2=>?_)))
  have Kd:s2.heap.IsKeyIter it d (j+1+1) es.size ep:=⟨oi,G9,gc,gd⟩
  show wpAny _ X.A.in1 (tryCatch (holding [Value.ref b,.int (cf (j+1)) t2] (richCompare .Lt (.int (cf (j+1)) t2) (.int (cf i) t)>>=fun z=>_)) _>>=fun z=>_) _ _ _
  refine wpAny_bind (wpAny_tryCatch (wpAny_holding (wpAny_bind (CmpOf.ints_lt (prog:=X.prog) (w:=X.w) (A:=X.A.in1) (P:=fun i v=>∃t,v=.int (cf i) t) cf (fun i v h=>h) (j+1) i _ _ _ _ _ ⟨t2,rfl⟩ ⟨t,rfl⟩ ?_))))
  refine wpAny_bind (wpAny_holding (wpAny_truthy_bool (wpAny_bind (wpAny_letGo (wpAny_pure ?_)))))
  by_cases oF:cf (j+1)<cf i
  ·obtain⟨c2,hc2⟩:=tm (ys:=#[Value.ref b,.int (cf (j+1)) t2]) E2
   have s1:=Heap.SameBut.update s2.heap S (Obj.mapSeq fun _=>#[Value.ref b,.int (cf (j+1)) t2])
   simp only [oF,decide_true,if_true];refine wpAny_bind (wpAny_updateSeq E2 rfl (wpAny_bind (wpAny_letGo ?_)));rw [name];rw [←e1] at hc2 s1⊢;refine wpAny_pure ⟨plainId_quiet PySem.F.plain_min_loop _,ih (j+1) (j+1) _ t2 c2 cm (by omega) cm (I2.turned (t':=s2.toks) (fun b o hb e=>(s1.2 b hb).trans e) fS.1 fS.2.1 fS.2.2.2.1 fS.2.2.2.2.1 fS.2.2.2.2.2) ?_ ?_ ?_ (Nat.le_refl _) fun j' Ab=>?_⟩
   ·exact(s1.2 d (Ne.symm Jx)).trans vz
   ·exact⟨oi,(s1.2 it (Ne.symm nS)).trans G9,gc,gd⟩
   ·exact hc2
   ·by_cases e:j'=j+1
    ·subst e;exact⟨by omega,fun _=>by omega⟩
    ·have:=best j' (by omega)
     exact⟨by omega,fun _=>by omega⟩
  ·simp only [oF,decide_false,Bool.false_eq_true,if_false];refine wpAny_bind (wpAny_letGo ?_);rw [name];refine wpAny_pure ⟨plainId_quiet PySem.F.plain_min_loop _,ih (j+1) i _ t c hi (by omega) cm I2 vz Kd E2 (by omega) fun j' Ab=>?_⟩
   by_cases e:j'=j+1
   ·subst e;exact⟨by omega,fun _=>by omega⟩
   ·exact best j' (by omega)
theorem vc(M:KM X σ H kk d f aD cf)(fU:0<aD.length)(I:Inv X pins σ H s){Q:VK}
 (q:∀i k v b,aD[i]?=some (k,v)→H b=some (.tup (k.map kV))→(∀j,j<aD.length→cf i≤cf j∧(j<i→cf i<cf j))→Q (.ref b) H):wpAny (model X.prog X.w) X.A (call (.builtin "min") [.ref d] [(Str.ofString "key",.ref f)]) (EP X pins σ Q) X.xe s:=by
 have name:(toString "min"++toString ".loop":String)="min.loop":=by decide
 have hh:X.A.handled=none:=M.room.hd
 obtain⟨lo,nd,o,es,ep,ho,hx,hd,hl,BB⟩:=so I M.dt
 have fin:∀(i:Nat) (h:i<es.size) s',(∀j,j<es.size→cf i≤cf j∧(j<i→cf i<cf j))→Inv X pins σ H s'→EP X pins σ Q es[i].key s':=fun i h s' b J=>by
  obtain⟨a,k,v,e1,e2,e3⟩:=BB i h
  rw [e1];exact⟨.ref a,H,J,rfl,q i k v a e2 e3 fun j hj=>b j (by omega)⟩
 refine kmk_tree PySem.F.kind_min PySem.F.plain_min PySem.F.entry_min (kmk_min_key _ _) ?_;show wpAny _ X.A.in1 (Builtin.Builtins.bindParams "min" ["key","default"] 0 ⟨[],[(Str.ofString "key",.ref f)]⟩>>=fun z=>_) _ _ s
 refine wpAny_bind (wpAny_of_eq (show Builtin.Builtins.bindParams "min" ["key","default"] 0 ⟨[],[(Str.ofString "key",.ref f)]⟩=pure [some (.ref f),none] from rfl) (wpAny_bind (wpAny_pure ?_)));refine wpAny_bind (rW lo ho hx hd (wpAny_bind (wpAny_newList ?_ (Nat.zero_le _))));rw [name];generalize hit:s.heap.objs.size=it
 generalize hSS:(s.heap.push {cls:=.type "dict_keyiterator",data:=.fields #[.ref d,.int 0 0,.int es.size 0,.int ep 0]}).objs.size=S
 have eS:S=it+1:=by rw [←hSS,←hit];exact size_push' ..
 have nS:S≠it:=by omega
 have hH:s.heap.objs.size≤S:=by omega
 have fi:eF X pins H it:=by rw [←hit];exact I.fpOk (Nat.le_refl _) (I.hok.fresh (Nat.le_refl _))
 have fS:eF X pins H S:=I.fpOk hH (I.hok.fresh hH)
 have keep:∀b ob,s.heap.get? b=some ob→((s.heap.push {cls:=.type "dict_keyiterator",data:=.fields #[.ref d,.int 0 0,.int es.size 0,.int ep 0]}).push (seqObj "list" #[] 0)).get? b=some ob:=fun b ob e=>Heap.get?_push_of_some _ (Heap.get?_push_of_some _ e)
 have I1:=I.kept (t':=s.toks) keep
 have gI:((s.heap.push {cls:=.type "dict_keyiterator",data:=.fields #[.ref d,.int 0 0,.int es.size 0,.int ep 0]}).push (seqObj "list" #[] 0)).get? it=some {cls:=.type "dict_keyiterator",data:=.fields #[.ref d,.int 0 0,.int es.size 0,.int ep 0]}:=by
  rw [←hit];exact Heap.get?_push_of_some _ (Heap.get?_push_size _ rfl)
 have gS:((s.heap.push {cls:=.type "dict_keyiterator",data:=.fields #[.ref d,.int 0 0,.int es.size 0,.int ep 0]}).push (seqObj "list" #[] 0)).get? S=some (seqObj "list" #[] 0):=by
  rw [←hSS];exact Heap.get?_push_size _ rfl
 have Jx:S≠d:=fun z=>by have:=fS.1;rw [z,M.dt] at this;cases this
 have Ju:it≠d:=fun z=>by have:=fi.1;rw [z,M.dt] at this;cases this
 refine wpAny_pure ⟨plainId_quiet PySem.F.plain_min_loop _,codeAny_builtin PySem.F.entry_min_loop ?_⟩;rw [Around.under_plainId PySem.F.plain_min_loop _];show wpAny _ X.A.in1 (seqItems? (.ref S)>>=fun z=>_) _ _ _
 refine wpAny_bind (wpAny_seqItems gS rfl ?_);show wpAny _ X.A.in1 (tryCatch (pyNext (.ref it)) _>>=fun z=>_) _ _ _
 have h0:0<es.size:=by omega
 refine wpAny_bind (wpAny_tryCatch (mY (i:=0) ⟨_,gI,rfl,rfl⟩ (keep _ _ ho) hd h0 fun h' kA sb=>?_))
 have Af:=(sb.2 S nS).trans gS
 have gW:=(sb.2 d (Ne.symm Ju)).trans (keep _ _ ho)
 have I2:=I1.turned (h':=h') (t':=s.toks) (fun b o hb e=>(sb.2 b hb).trans e) fi.1 fi.2.1 fi.2.2.2.1 fi.2.2.2.2.1 fi.2.2.2.2.2
 obtain⟨oi,gi,gc,gd⟩:=id kA
 obtain⟨b,k,v,e1,e2,e3⟩:=BB 0 h0
 rw [e1];show wpAny _ X.A.in1 (tryCatch (holding [Value.ref b] (call (.ref f) [Value.ref b])) _>>=fun z=>_) _ _ _
 refine wpAny_bind (wpAny_tryCatch (wpAny_holding (yi M I2 fi fS gW gi (fun v z=>by rw [gd] at z;cases z) Af kh nd e2 e3 fun t2 s2 I3 vz G9 E2=>?_)))
 obtain⟨c2,hc2⟩:=tm (ys:=#[Value.ref b,.int (cf 0) t2]) E2
 have s1:=Heap.SameBut.update s2.heap S (Obj.mapSeq fun _=>#[Value.ref b,.int (cf 0) t2])
 show wpAny _ X.A.in1 (updateSeq S (fun _=>#[Value.ref b,.int (cf 0) t2])>>=fun z=>_) _ _ _
 refine wpAny_bind (wpAny_updateSeq E2 rfl ?_);rw [name];rw [←e1] at hc2 s1⊢;refine wpAny_pure ⟨plainId_quiet PySem.F.plain_min_loop _,wR M hh hd hl BB nd fi fS nS fin _ 0 0 _ t2 c2 h0 rfl h0 (I3.turned (t':=s2.toks) (fun b o hb e=>(s1.2 b hb).trans e) fS.1 fS.2.1 fS.2.2.2.1 fS.2.2.2.2.1 fS.2.2.2.2.2) ((s1.2 d (Ne.symm Jx)).trans vz) ⟨oi,(s1.2 it (Ne.symm nS)).trans G9,gc,gd⟩ hc2 (Nat.le_refl _) fun j' Ab=>?_⟩
 have e:j'=0:=by omega
 subst e;exact⟨by omega,fun h=>absurd h (Nat.lt_irrefl _)⟩
end
end L2
namespace L2
open PySem PySem.Spec PyProof.Rows PySem.W
noncomputable def jx{α:Type}(dflt:α)(l:List α)(nss:List (List Int)):List α:=if l.length<2 then l else(f9 l.length fun i j=>HT.lexLt (nss.getD i []) (nss.getD j [])).map fun i=>l.getD i dflt
section
variable{prog:Program}{w:World}{A:Around}{E:Value→Shared→Prop}{s:Shared}{a:Addr}{vs:List Value}{nss:List (List Int)}
theorem ym{n:Nat}{P:PySem.Fin→Shared→Prop}(ho:s.heap.get? a=some (seqObj "list" vs.toArray n))(h2:vs.length<2)
 (h:∀h' c,(∀b o,b≠a→s.heap.get? b=some o→h'.get? b=some o)→h'.get? a=some (seqObj "list" vs.toArray c)→P (.done (.ret .none)) {s with heap:=h'}):wpAny (model prog w) A (Builtin.«list.sort» ⟨[.ref a],[]⟩) P E s:=by
 have s1:=Heap.SameBut.update s.heap a (Obj.mapSeq fun _=>(#[]:Array Value))
 obtain⟨e1,ho1⟩:=ko (ys:=(#[]:Array Value)) ho
 generalize hH:(((s.heap.update a (Obj.mapSeq fun _=>(#[]:Array Value))).push (seqObj "tuple" vs.toArray 0)).push (seqObj "list" #[] 0))=H1
 have k1:∀b o,b≠a→s.heap.get? b=some o→H1.get? b=some o:=fun b o hb e=>by rw [←hH];exact Heap.get?_push_of_some _ (Heap.get?_push_of_some _ ((s1.2 b hb).trans e))
 have a1:H1.get? a=some (seqObj "list" #[] e1):=by rw [←hH];exact Heap.get?_push_of_some _ (Heap.get?_push_of_some _ ho1)
 rw [list_sort_plain];refine wpAny_bind (listItems_at ho rfl (wpAny_bind (listUpdate_at ho rfl ?_ (by rw [List.size_toArray,sizeLine_eq];omega) (Nat.zero_le _))));refine wpAny_bind (seqEpoch_at ho1 rfl (wpAny_bind (wpAny_newTuple ?_ (by show vs.length≤_;rw [sizeLine_eq];omega))));refine wpAny_bind (wpAny_newList ?_ (Nat.zero_le _));refine wpAny_holding ?_;show wpAny (model prog w) A _ P E {s with heap:=((s.heap.update a (Obj.mapSeq fun _=>(#[]:Array Value))).push (seqObj "tuple" vs.toArray 0)).push (seqObj "list" #[] 0)}
 rw [hH];dsimp only;have Bq:vs.toArray.size<2:=by rw [List.size_toArray];omega
 rw [if_pos Bq,if_pos Bq];refine wpAny_bind (wpAny_pure (wpAny_bind ?_));show wpAny (model prog w) A (pure ((),SortSt.mk' general' (vs.toArray.zip vs.toArray) #[] 7 none)) _ E _;refine wpAny_pure ?_;dsimp only;have CC:(arrOf (SortSt.mk' general' (vs.toArray.zip vs.toArray) #[] 7 none)).map (·.2)=vs.toArray:=by
  show(vs.toArray.zip vs.toArray).map (·.2)=vs.toArray
  apply Array.toList_inj.mp
  simp only [Array.toList_map,Array.toList_zip];exact List.map_snd_zip (Nat.le_refl _)
 rw [CC];have s2:=Heap.SameBut.update H1 a (Obj.mapSeq fun _=>vs.toArray)
 obtain⟨c2,hc2⟩:=ko (ys:=vs.toArray) a1
 refine wpAny_bind (seqEpoch_at a1 rfl (wpAny_bind (listUpdate_at a1 rfl ?_ (Nat.zero_le _) (by rw [List.size_toArray,sizeLine_eq];omega))));simp only [bne_self_eq_false,Bool.false_eq_true,if_false];exact wpAny_pure (h _ c2 (fun b o hb e=>(s2.2 b hb).trans (k1 b o hb e)) hc2)
theorem xR{n:Nat}{P:PySem.Fin→Shared→Prop}(ho:s.heap.get? a=some (seqObj "list" vs.toArray n))(yv:vs.length<64)(t:fc s.heap vs nss)
 (h:∀h' c,(∀b o,b≠a→s.heap.get? b=some o→h'.get? b=some o)→h'.get? a=some (seqObj "list" (jx Value.none vs nss).toArray c)→P (.done (.ret .none)) {s with heap:=h'}):wpAny (model prog w) A (Builtin.«list.sort» ⟨[.ref a],[]⟩) P E s:=by
 by_cases h2:vs.length<2
 ·exact ym ho h2 fun h' c k e=>h h' c k (by unfold jx;rw [if_pos h2];exact e)
 ·exact uJ ho (by omega) yv t fun h' c k e=>h h' c k (by unfold jx;rw [if_neg h2];exact e)
theorem xO{d:Addr}{o:Obj}{es:Array DictEntry}{ep:Nat}(lo:(d==sysModules)=false)(hx:o.ExactDict)(hd:o.data=.dict es ep):KdlSrc prog w "dict" d d es.size (fun i v=>∃h:i<es.size,v=es[i].key) (fun h=>h.get? d=some o) where
 type:=fun s e=>⟨o,e,hx.1⟩
 there:=fun h e=>⟨Heap.lt_size e,Heap.lt_size e⟩
 keep:=fun h h' e k=>k d (.inl rfl) o e
 notList:=by decide
 notTuple:=by decide
 hint:=fun A E s Q e q=>kdl_hint_dict ⟨o,e,hx.1⟩ q
 iter:=fun A s hh e=>⟨_,fun i h=>h.IsKeyIter s.heap.objs.size d i es.size ep∧h.get? d=some o,(fun E Q q=>rW lo e hx hd q),{
  sub:=fun b hb=>by simp at hb;simp [hb]
  frame:=fun _ _ _ st hk=>⟨st.1.at fun o e=>hk _ (by simp) o e,hk d (by simp) o st.2⟩
  item:=fun i s' Q E hi st hQ=>mY st.1 st.2 hd hi fun h' kA sb=>hQ _ h' s'.toks ⟨hi,rfl⟩ ⟨kA,(sb.2 d (Nat.ne_of_lt (Heap.lt_size e))).trans st.2⟩ fun b o hb z=>(sb.2 b (fun y=>hb (by simp [y]))).trans z
  done:=fun s' Q E st hQ=>x9 hh st.1 st.2 hd (Nat.le_refl _) fun h' eb=>hQ h' s'.toks fun b o hb z=>eb b o (fun y=>hb (by simp [y])) z
  self:=fun _ _ _ _ st hQ=>wpAny_pyIter_keyiter st.1 hQ},⟨⟨_,Heap.get?_push_size _ rfl,rfl,rfl⟩,Heap.get?_push_of_some _ e⟩⟩
theorem pV{Q:List Value→Shared→Prop}{T:String}{r d:Addr}{n:Nat}{P:Nat→Value→Prop}{OK:Heap→Prop}(K:KdlSrc prog w T r d n P OK)(hh:A.handled=none)(hok:OK s.heap)(hn:n≤sizeLine)
 (hQ:∀h' tk (acc:Array Value),(∀b o,s.heap.get? b=some o→h'.get? b=some o)→ItemsOf P acc n→Q acc.toList {s with heap:=h',toks:=tk}):wpAny (model prog w) A (collect (.ref r)) Q E s:=by
 have hS:(s.heap.push (seqObj "list" #[] 0)).get? s.heap.objs.size=some {cls:=.type "list",data:=.seq #[] 0}:=Heap.get?_push_size _ rfl
 have cm:=K.there _ hok
 have main:codeAny (model prog w) A (.builtin "proto.collect" ⟨[.ref r],[]⟩) (fun res s'=>∃h' tk oz c',res=.ok (.ret (.ref s.heap.objs.size))∧s'={s with heap:=h',toks:=tk}∧(∀b o,s.heap.get? b=some o→h'.get? b=some o)∧h'.get? s.heap.objs.size=some {cls:=.type "list",dict:=none,data:=.seq oz c',slots:=#[]}∧ItemsOf P oz n) s:=by
  refine codeAny_builtin F.entry_proto_collect ?_;rw [Around.under_plainId F.plain_proto_collect _];show wpAny _ A.in1 (newList []>>=fun l=>again (.builtin "list.__iadd__" ⟨[l,.ref r],[]⟩)) _ _ s
  refine wpAny_bind (wpAny_newList (wpAny_pure ⟨plainId_quiet F.plain_list_iadd _,codeAny_builtin F.entry_list_iadd ?_⟩) (Nat.zero_le _));rw [Around.under_plainId F.plain_list_iadd _];exact kdl_extend (R:=fun res s'=>∃h' tk oz c',res=.ok (.ret (.ref s.heap.objs.size))∧s'={s with heap:=h',toks:=tk}∧(∀b o,s.heap.get? b=some o→h'.get? b=some o)∧h'.get? s.heap.objs.size=some {cls:=.type "list",dict:=none,data:=.seq oz c',slots:=#[]}∧ItemsOf P oz n)
   (s:={s with heap:=s.heap.push (seqObj "list" #[] 0)}) (A:=A) K hh (K.keep _ _ hok fun b _ o e=>Heap.get?_push_of_some _ e) _ (Nat.ne_of_gt cm.1) (Nat.ne_of_gt cm.2) (.ref s.heap.objs.size) 0 hS (fun h' tk oz c' hk Af C3=>⟨h',tk,oz,c',rfl,rfl,fun b o e=>hk b o (Nat.ne_of_lt (Heap.lt_size e)) (Heap.get?_push_of_some _ e),Af,C3⟩) hn
 unfold collect;refine wpAny_bind (wpAny_runValue (codeAny_mono main fun res s' hr=>?_));obtain⟨h',tk,oz,c',rfl,rfl,k1,k2,k3⟩:=hr
 show wpAny _ A (load s.heap.objs.size>>=fun z=>_) _ _ _
 exact wpAny_bind (wpAny_load k2 (wpAny_pure (hQ h' tk oz k1 k3)))
end
abbrev nu(K:PySem.W.Frag)(H:Hp)(vs:List V)(nss:List (List Int)):Prop:=Paired (fun v ns=>∃b,v=V.ref b∧fD K H b (ns.map V.int)∧ns≠[]) vs nss
section
variable{X:Cx}{pins:List (Addr×Obj)}{σ:St}{H:Hp}{s:Shared}{vs:List V}{us:List Value}{nss:List (List Int)}{A:Around}{E:Value→Shared→Prop}{Q:VK}
theorem AL(I:Inv X pins σ H s):∀{vs:List V} {us:List Value} {nss:List (List Int)},Vals vs us→nu X.K H vs nss→fc s.heap us nss:=by
 intro vs us nss r t
 induction t generalizing us with
 |nil=>cases r;exact .nil
 |cons h t ih=>
  obtain⟨b,rfl,hq,fU⟩:=h
  cases r with
  |cons r1 r2=>
   cases(show _=Value.ref b from r1);obtain⟨aE,rv,⟨o,g1,g2,n,g3⟩,_⟩:=I.tuple hq
   exact .cons ⟨b,o,aE.toArray,n,rfl,g1,g2,g3,by simpa using rv,fU⟩ (ih r2)
theorem xX(r:Vals vs us):Vals (jx V.non vs nss) (jx Value.none us nss):=by
 have hl:=r.length
 unfold jx;rw [hl];split
 ·exact r
 ·have go:∀l:List Nat,Vals (l.map fun i=>vs.getD i V.non) (l.map fun i=>us.getD i Value.none):=by
   intro l
   induction l with
   |nil=>exact .nil
   |cons i l ih=>
    refine .cons ?_ ih;dsimp only
    by_cases hi:i<vs.length
    ·obtain⟨u,hu,ru⟩:=r.get (List.getElem?_eq_getElem hi)
     have e1:vs.getD i V.non=vs[i]:=by simp [hi]
     have e2:us.getD i Value.none=u:=by simp [hu]
     rw [e1,e2];exact ru
    ·have e1:vs.getD i V.non=.non:=by simp [Nat.le_of_not_lt hi]
     have e2:us.getD i Value.none=.none:=by simp [Nat.le_of_not_lt (hl▸hi)]
     rw [e1,e2];exact rfl
  exact go _
theorem iM{α:Type}{d:α}{l:List α}:(jx d l nss).length=l.length:=by
 unfold jx;split
 ·rfl
 ·rename_i h;rw [List.length_map,(fj (by omega) _).length_eq,List.length_range]
theorem jZ(I:Inv X pins σ H s)(r:Vals vs us)(t:nu X.K H vs nss)(yv:vs.length<64)(q:∀p,H p=none→Q (.ref p) (upd H p (.lst (jx V.non vs nss)))):
 wpAny (model X.prog X.w) A (newList us>>=fun l=>holding [l] (call (.builtin "list.sort") [l] [])>>=fun _=>ret l) (fun fin s'=>∃v,fin=.done (.ret v)∧EP X pins σ Q v s') E s:=by
 have hl:=r.length
 refine wpAny_bind (wpAny_newList ?_ (by rw [sizeLine_eq];omega));have HS:(s.heap.push (seqObj "list" us.toArray 0)).get? s.heap.objs.size=some (seqObj "list" us.toArray 0):=Heap.get?_push_size _ rfl
 have kp:∀b o,s.heap.get? b=some o→(s.heap.push (seqObj "list" us.toArray 0)).get? b=some o:=fun b o e=>Heap.get?_push_of_some _ e
 refine wpAny_bind (wpAny_holding (wpAny_call_entry slot_list_sort ⟨_,HS,rfl⟩ entry_list_sort ?_ (args_list_sort _)));refine xR (s:={s with heap:=s.heap.push (seqObj "list" us.toArray 0)}) HS (by omega) ((AL I r t).keep fun b o e _=>kp b o e) fun h' c k e=>⟨_,rfl,wpAny_pure ⟨_,rfl,.ref s.heap.objs.size,upd H s.heap.objs.size (.lst (jx V.non vs nss)),?_,rfl,q _ (I.hok.fresh (Nat.le_refl _))⟩⟩
 exact I.laid (a:=s.heap.objs.size) (t':=s.toks) (fun b o z=>k b o (Nat.ne_of_lt (Heap.lt_size z)) (kp b o z)) (Nat.le_refl _) ⟨by rw [iM,sizeLine_eq];omega,_,c,xX r,e⟩
theorem mH:cU X (.builtin "sorted") (fun xs H Q=>∃a vs nss,xs=[V.ref a]∧lI X.K H a vs∧nu X.K H vs nss∧vs.length<64∧∀p,H p=none→Q (.ref p) (upd H p (.lst (jx V.non vs nss)))):=by
 intro pins s σ H xs us Q I r h;obtain⟨a,vs,nss,rfl,hl,t,yv,q⟩:=h
 obtain⟨u,rfl,ru⟩:=vals1 r
 cases ru;obtain⟨aE,rv,p,hz⟩:=I.list hl
 refine Calls.call_function_entry kind_sorted plain_sorted entry_sorted (args_sorted1 _) ?_;unfold Builtin.«sorted»;refine wpAny_bind (m:=checkCount "sorted" 1 1 _) (wpAny_pure (wpAny_bind (collect_list p.isList ?_ (by have:=rv.length;rw [sizeLine_eq];omega))));have I1:=I.kept (t':=s.toks) (h':=(s.heap.push (seqObj "list" #[] 0)).update s.heap.objs.size (Obj.mapSeq (·++aE.toArray))) fun b o e=>by
  have cm:b<s.heap.objs.size:=Heap.lt_size e
  rw [Heap.get?_update_ne _ _ _ _ (Nat.ne_of_lt cm),Heap.get?_push_ne _ _ _ (Nat.ne_of_lt cm)];exact e
 exact jZ I1 rv t yv q
theorem AH{d:Addr}{aD:List (List Key×V)}(I:Inv X pins σ H s)(e:Rd H d (.dT aD)):(d==sysModules)=false∧∃o es ep,s.heap.get? d=some o∧o.ExactDict∧o.data=.dict es ep∧es.size=aD.length∧∀(i:Nat) (h:i<es.size),∃b k v,es[i].key=.ref b∧aD[i]?=some (k,v)∧H b=some (.tup (k.map kV)):=by
 rcases e with e|⟨o,e⟩
 ·obtain⟨h1,_,h2⟩:=so I e
  exact⟨h1,h2⟩
 ·obtain⟨h1,h2,h3,h4⟩:=oK I e
  exact⟨h1,o,let⟨es,ep,r⟩:=h4;⟨es,ep,h2,h3,r⟩⟩
theorem m6(hc:X.calm=true):cU X (.builtin "sorted") (fun xs H Q=>∃a aD nss,xs=[V.ref a]∧Rd H a (.dT aD)∧aD.map (·.1)=nss.map (·.map .inl)∧(∀ns∈nss,ns≠[])∧aD.length<64∧
 ∀p vs,H p=none→Paired (fun v ns=>∃b,v=V.ref b∧H b=some (.tup (ns.map V.int))) vs nss→Q (.ref p) (upd H p (.lst (jx V.non vs nss)))):=by
 intro pins s σ H xs us Q I r h;obtain⟨a,aD,nss,rfl,hl,hk,fU,yv,q⟩:=h
 obtain⟨u,rfl,ru⟩:=vals1 r
 cases ru;obtain⟨lo,o,es,ep,h0,hx,h3,vN,BB⟩:=AH I hl
 refine Calls.call_function_entry kind_sorted plain_sorted entry_sorted (args_sorted1 _) ?_;unfold Builtin.«sorted»;refine wpAny_bind (m:=checkCount "sorted" 1 1 _) (wpAny_pure (wpAny_bind (pV (xO lo hx h3) (show X.A.in1.handled=none from I.ok.hd hc) h0 (by rw [sizeLine_eq];omega) fun h' tk acc kp it=>?_)))
 have I1:=I.kept (t':=tk) (h':=h') kp
 have all:∃vs:List V,Vals vs acc.toList∧Paired (fun v ns=>∃b,v=V.ref b∧H b=some (.tup (ns.map V.int))) vs nss:=by
  have hn:nss.length=aD.length:=by have:=congrArg List.length hk;simpa using this.symm
  have hs:acc.toList.length=nss.length:=by rw [Array.length_toList,it.1];omega
  have ev:∀(i:Nat) v ns,acc.toList[i]?=some v→nss[i]?=some ns→∃b,v=.ref b∧H b=some (.tup (ns.map V.int)):=fun i v ns e1 e2=>by
   obtain⟨hi,ev⟩:=it.2 i v (by rw [←Array.getElem?_toList];exact e1)
   obtain⟨b,k,x,g1,g2,g3⟩:=BB i hi
   refine⟨b,ev.trans g1,?_⟩;have Dk:k=ns.map .inl:=by
    have:=congrArg (fun l=>l[i]?) hk
    simp only [List.getElem?_map,g2,e2,Option.map_some] at this;exact Option.some.inj this
   rw [g3,Dk,List.map_map]
   rfl
  clear it BB hk fU q I1
  generalize acc.toList=us at hs ev
  clear yv hn
  induction nss generalizing us with
  |nil=>cases us with
   |nil=>exact⟨[],.nil,.nil⟩
   |cons u us=>simp at hs
  |cons ns nss ih=>
   cases us with
   |nil=>simp at hs
   |cons u us=>
    obtain⟨vs,h1,h2⟩:=ih us (by simpa using hs) fun i v ns e1 e2=>ev (i+1) v ns (by simpa using e1) (by simpa using e2)
    obtain⟨b,rfl,hb⟩:=ev 0 u ns rfl rfl
    exact⟨.ref b::vs,.cons rfl h1,.cons ⟨b,rfl,hb⟩ h2⟩
 obtain⟨vs,rv,pv⟩:=all
 have hlen:vs.length<64:=by have:=Paired.length pv;have h9:=congrArg List.length hk;simp at h9;omega
 refine jZ I1 rv ?_ hlen fun p hp=>q p vs hp pv
 clear hlen rv hk yv q
 induction pv with
 |nil=>exact .nil
 |cons h t ih=>
  obtain⟨b,rfl,hb⟩:=h
  exact .cons ⟨b,rfl,.inl (.inl hb),fU _ (.head _)⟩ (ih fun ns hm=>fU ns (.tail _ hm))
end
end L2
namespace Ci
open PySem L2
inductive PV where
 |non|bl (b:Bool)|int (i:Int)|str (z:Str)
 |tup (xs:List PV)|lst (xs:List PV)
 |exc (c:Str)
 |dct (ks:List (List Int)) (vs:List PV)
 deriving Inhabited
structure Wd where
 K:PySem.W.Frag
 mg:Str→Option Value
 xs:List Str
 ts:List (Addr×Str):=[]
def LsR(K:PySem.W.Frag)(H:Hp)(a:Addr)(vs:List V):Prop:=
 Rd H a (.lst vs)∨∃(aE:Array Value) (n:Nat),K.lookup a=some {cls:=.type "list",data:=.seq aE n}∧aE.size≤sizeLine∧Vals vs aE.toList
def E8(K:PySem.W.Frag)(G:Hp)(a:Addr)(vs:List V):Prop:=G a=some (.tup vs)∨fD K G a vs∧∃z,V.str z∈vs
theorem E8.sq{K:PySem.W.Frag}{G:Hp}{a:Addr}{vs:List V}:E8 K G a vs→fD K G a vs
 |.inl h=>.inl (.inl h)
 |.inr h=>h.1
def kz(ks:List (List Int))(us:List V):List (List Key×V):=(ks.map fun k=>k.map Sum.inl).zip us
mutual
def Rep(W:Wd)(G:Hp):PV→V→Prop
 |.non,v=>v=.non
 |.bl b,v=>v=.bl b
 |.int i,v=>v=.int i
 |.str z,v=>v=.str z
 |.tup xs,v=>∃a vs,v=.ref a∧E8 W.K G a vs∧aq W G xs vs
 |.lst xs,v=>∃a vs,v=.ref a∧LsR W.K G a vs∧aq W G xs vs
 |.exc c,v=>∃a C,v=.ref a∧c∈W.xs∧W.mg c=some (.ref C)∧G a=some (Fz a C)
 |.dct ks vs,v=>∃a o us,v=.ref a∧ks.length=us.length∧G a=some (.frz o (.dT (kz ks us)))∧aq W G vs us
def aq(W:Wd)(G:Hp):List PV→List V→Prop
 |[],vs=>vs=[]
 |p::ps,vs=>∃v r,vs=v::r∧Rep W G p v∧aq W G ps r
end
theorem aF.tup{K:PySem.W.Frag}{H H':Hp}{a:Addr}{xs:List V}(e:aF H H')(h:fD K H a xs):fD K H' a xs:=by
 rcases h with(h|⟨o,h⟩)|h
 ·exact .inl (.inl (e _ _ h))
 ·exact .inl (.inr ⟨o,e _ _ h⟩)
 ·exact .inr h
theorem aF.tp{K:PySem.W.Frag}{H H':Hp}{a:Addr}{xs:List V}(e:aF H H')(h:E8 K H a xs):E8 K H' a xs:=h.elim (fun z=>.inl (e _ _ z)) fun z=>.inr ⟨aF.tup e z.1,z.2⟩
theorem aF.rd{H H':Hp}{a:Addr}{u:HO}(e:aF H H')(h:Rd H a u):Rd H' a u:=by
 rcases h with h|⟨o,h⟩
 ·exact .inl (e _ _ h)
 ·exact .inr ⟨o,e _ _ h⟩
theorem aF.ls{K:PySem.W.Frag}{H H':Hp}{a:Addr}{vs:List V}(e:aF H H')(h:LsR K H a vs):LsR K H' a vs:=h.elim (fun z=>.inl (aF.rd e z)) .inr
section
variable{W:Wd}{G G':Hp}
mutual
theorem Rep.same(s:aF G G'):∀(p:PV) {v:V},Rep W G p v→Rep W G' p v
 |.non,_,h=>by simpa only [Rep] using h
 |.bl b,_,h=>by simpa only [Rep] using h
 |.int i,_,h=>by simpa only [Rep] using h
 |.str z,_,h=>by simpa only [Rep] using h
 |.tup xs,_,h=>by
  simp only [Rep] at h⊢;obtain⟨a,vs,e,q,l⟩:=h
  exact⟨a,vs,e,aF.tp s q,aq.same s xs l⟩
 |.lst xs,_,h=>by
  simp only [Rep] at h⊢;obtain⟨a,vs,e,q,l⟩:=h
  exact⟨a,vs,e,aF.ls s q,aq.same s xs l⟩
 |.exc c,_,h=>by
  simp only [Rep] at h⊢;obtain⟨a,C,e,x,m,q⟩:=h
  exact⟨a,C,e,x,m,s _ _ q⟩
 |.dct ks vs,_,h=>by
  simp only [Rep] at h⊢;obtain⟨a,o,us,e,n,m,l⟩:=h
  exact⟨a,o,us,e,n,s _ _ m,aq.same s vs l⟩
theorem aq.same(s:aF G G'):∀(ps:List PV) {vs:List V},aq W G ps vs→aq W G' ps vs
 |[],_,h=>by simpa only [aq] using h
 |p::ps,_,h=>by
  simp only [aq] at h⊢;obtain⟨v,r,e,h1,h2⟩:=h
  exact⟨v,r,e,Rep.same s p h1,aq.same s ps h2⟩
end
theorem aq.paired:∀{ps:List PV} {vs:List V},aq W G ps vs→Paired (fun v p=>Rep W G p v) vs ps
 |[],_,h=>by simp only [aq] at h;subst h;exact .nil
 |p::ps,_,h=>by
  simp only [aq] at h;obtain⟨v,r,rfl,h1,h2⟩:=h
  exact .cons h1 (aq.paired h2)
theorem aq.length{ps:List PV}{vs:List V}(h:aq W G ps vs):vs.length=ps.length:=j5 h.paired
theorem aq.nil:aq W G [] []:=by simp only [aq]
theorem aq.cons{p:PV}{v:V}{ps:List PV}{vs:List V}(h:Rep W G p v)(t:aq W G ps vs):aq W G (p::ps) (v::vs):=by simp only [aq];exact⟨_,_,rfl,h,t⟩
theorem aq.uncons{p:PV}{ps:List PV}{vs:List V}(h:aq W G (p::ps) vs):∃v r,vs=v::r∧Rep W G p v∧aq W G ps r:=by simpa only [aq] using h
theorem aq.append:∀{ps qs:List PV} {vs us:List V},aq W G ps vs→aq W G qs us→aq W G (ps++qs) (vs++us)
 |[],_,_,_,h,k=>by simp only [aq] at h;subst h;exact k
 |p::ps,_,_,_,h,k=>by
  obtain⟨v,r,rfl,h1,h2⟩:=h.uncons
  exact .cons h1 (h2.append k)
theorem aq.get:∀{ps:List PV} {vs:List V} {i:Nat} {v:V},aq W G ps vs→vs[i]?=some v→∃p,ps[i]?=some p∧Rep W G p v:=fun h e=>lh h.paired e
theorem aq.getP:∀{ps:List PV} {vs:List V} {i:Nat} {p:PV},aq W G ps vs→ps[i]?=some p→∃v,vs[i]?=some v∧Rep W G p v
 |[],_,_,_,_,e=>by simp at e
 |p::ps,_,0,q,h,e=>by
  obtain⟨v,r,rfl,h1,h2⟩:=h.uncons
  simp at e;subst e;exact⟨v,rfl,h1⟩
 |p::ps,_,i+1,q,h,e=>by
  obtain⟨v,r,rfl,h1,h2⟩:=h.uncons
  obtain⟨u,e1,k⟩:=h2.getP (i:=i) (by simpa using e)
  exact⟨u,by simpa using e1,k⟩
theorem aq.drop:∀{ps:List PV} {vs:List V} (n:Nat),aq W G ps vs→aq W G (ps.drop n) (vs.drop n)
 |_,_,0,h=>by simpa using h
 |[],_,n+1,h=>by simp only [aq] at h;subst h;simp only [List.drop_nil];exact .nil
 |p::ps,_,n+1,h=>by
  obtain⟨v,r,rfl,h1,h2⟩:=h.uncons
  simpa using h2.drop n
theorem aq.take:∀{ps:List PV} {vs:List V} (n:Nat),aq W G ps vs→aq W G (ps.take n) (vs.take n)
 |_,_,0,h=>by simp only [List.take_zero];exact .nil
 |[],_,n+1,h=>by simp only [aq] at h;subst h;simp only [List.take_nil];exact .nil
 |p::ps,_,n+1,h=>by
  obtain⟨v,r,rfl,h1,h2⟩:=h.uncons
  simp only [List.take_succ_cons];exact .cons h1 (h2.take n)
end
def gH(H H':Hp):Prop:=∀b o,H b=some o→(∀ps,o≠.tbl ps)∧H' b=some o∨∃ps m,o=.tbl ps∧H' b=some (.tbl (ps++m))
theorem gH.refl(H:Hp):gH H H:=fun b o h=>by
 cases o with
 |tbl ps=>exact .inr ⟨ps,#[],rfl,by simpa using h⟩
 |_=>exact .inl ⟨(fun _ z=>nomatch z),h⟩
theorem gH.trans{H H1 H2:Hp}(a:gH H H1)(b:gH H1 H2):gH H H2:=fun c o h=>by
 rcases a c o h with⟨n,e⟩|⟨ps,m,rfl,e⟩
 ·rcases b c o e with y|⟨ps,m,rfl,e2⟩
  ·exact .inl y
  ·exact absurd rfl (n ps)
 ·rcases b c _ e with⟨n,_⟩|⟨oG,m',e2,e3⟩
  ·exact absurd rfl (n _)
  ·cases e2;exact .inr ⟨ps,m++m',rfl,by rw [e3,Array.append_assoc]⟩
theorem gH.free{H H':Hp}(e:gH H H'){l:Addr}(h:H' l=Option.none):H l=Option.none:=by
 cases q:H l with
 |none=>rfl
 |some o=>
  rcases e l o q with⟨_,z⟩|⟨_,_,_,z⟩
  ·rw [h] at z;cases z
  ·rw [h] at z;cases z
theorem gH.at{H H':Hp}(e:gH H H'){b:Addr}{o:HO}(h:H b=some o)(n:∀ps,o≠.tbl ps):H' b=some o:=by
 rcases e b o h with⟨_,z⟩|⟨ps,_,rfl,_⟩
 ·exact z
 ·exact absurd rfl (n ps)
theorem gH.notup{H H':Hp}(e:gH H H'){b:Addr}(h:H b≠none)(n:∀vs,H b≠some (.tup vs)):∀vs,H' b≠some (.tup vs):=fun vs z=>by
 cases q:H b with
 |none=>exact h q
 |some o=>
  rcases e b o q with⟨_,y⟩|⟨_,_,_,y⟩
  ·rw [z] at y;cases y;exact n vs q
  ·rw [z] at y;cases y
theorem gH.of{H H':Hp}(e:aF H H'):gH H H':=fun b o h=>by
 cases o with
 |tbl ps=>exact .inr ⟨ps,#[],rfl,by simpa using e _ _ h⟩
 |_=>exact .inl ⟨(fun _ z=>nomatch z),e _ _ h⟩
theorem gH.tup{K:PySem.W.Frag}{H H':Hp}{a:Addr}{xs:List V}(e:gH H H')(h:fD K H a xs):fD K H' a xs:=by
 rcases h with(h|⟨o,h⟩)|h
 ·exact .inl (.inl (e.at h (fun _ z=>nomatch z)))
 ·exact .inl (.inr ⟨o,e.at h (fun _ z=>nomatch z)⟩)
 ·exact .inr h
theorem gH.ls{K:PySem.W.Frag}{H H':Hp}{a:Addr}{vs:List V}(e:gH H H')(h:LsR K H a vs):LsR K H' a vs:=by
 rcases h with(h|⟨o,h⟩)|h
 ·exact .inl (.inl (e.at h (fun _ z=>nomatch z)))
 ·exact .inl (.inr ⟨o,e.at h (fun _ z=>nomatch z)⟩)
 ·exact .inr h
def cy(W:Wd)(G H:Hp):Prop:=∀P q,(P,q)∈W.ts→G P=none∧∃ps,H P=some (.tbl ps)∧TriplesOk ps.toList∧
 ∀pos cv,codeAmong pos ps.toList=some cv→∃c' oc cR t,cv=.ref c'∧G c'=some (.frz oc bx)∧oc.data=.fields cR∧cR[1]?=some (.str q t)
theorem cy.same{W:Wd}{G G' H H':Hp}(t:cy W G H)(g:aF G G')(own:∀a,H a≠none→(∀vs,H a≠some (.tup vs))→G a=none→G' a=none)(h:∀P ps,H P=some (.tbl ps)→H' P=some (.tbl ps)):cy W G' H':=fun P q m=>by
 obtain⟨n,ps,e,tr,al⟩:=t P q m
 refine⟨own P (by rw [e];exact fun z=>nomatch z) (by rw [e];exact fun _ z=>nomatch z) n,ps,h P ps e,tr,fun pos cv y=>?_⟩
 obtain⟨c',oc,cR,t,e1,e2,e3,e4⟩:=al pos cv y
 exact⟨c',oc,cR,t,e1,g _ _ e2,e3,e4⟩
structure aJ(W:Wd)(G H G' H':Hp):Prop where
 g:aF G G'
 h:gH H H'
 sub:aF G' H'
 own:∀a,H a≠none→(∀vs,H a≠some (.tup vs))→G a=none→G' a=none
 tab:cy W G H→cy W G' H'
section
variable{W:Wd}
theorem aJ.refl{G H:Hp}(s:aF G H):aJ W G H G H:=⟨aF.refl _,gH.refl _,s,fun _ _ _ h=>h,id⟩
theorem aJ.trans{G H G1 H1 G2 H2:Hp}(a:aJ W G H G1 H1)(b:aJ W G1 H1 G2 H2):aJ W G H G2 H2:=
 ⟨a.g.trans b.g,a.h.trans b.h,b.sub,fun x hx ht hg=>b.own x (fun z=>hx (a.h.free z)) (a.h.notup hx ht) (a.own x hx ht hg),fun t=>b.tab (a.tab t)⟩
theorem nV{H:Hp}{p:Addr}{o:HO}(h:∀ps,H p≠some (.tbl ps))(P:Addr)(ps:Array Value)(e:H P=some (.tbl ps)):upd H p o P=some (.tbl ps):=by
 rw [ah (fun z=>by subst z;exact h ps e)];exact e
theorem aJ.new{G H:Hp}{p:Addr}{o:HO}(s:aF G H)(h:H p=none):aJ W G H (upd G p o) (upd H p o) where
 g:=bA (s.free h)
 h:=.of (bA h)
 sub:=fun b u e=>by
  by_cases hb:b=p
  ·subst hb;rw [au] at e⊢;exact e
  ·rw [ah hb] at e⊢;exact s _ _ e
 own:=fun a ha _ hg=>by
  have:a≠p:=fun z=>by subst z;exact ha h
  rw [ah this];exact hg
 tab:=fun t=>t.same (bA (s.free h)) (fun a ha _ hg=>by
  have:a≠p:=fun z=>by subst z;exact ha h
  rw [ah this];exact hg) (nV (fun ps z=>by rw [h] at z;cases z))
theorem aJ.adopt{G H:Hp}{b:Addr}{vs:List V}(s:aF G H)(h:H b=some (.tup vs)):aJ W G H (upd G b (.tup vs)) H:=by
 have sm:aF G (upd G b (.tup vs)):=fun c u e=>by
  by_cases hc:c=b
  ·subst hc;rw [au];have:=s _ _ e;rw [h] at this;exact this
  ·rw [ah hc];exact e
 have ow:∀a,H a≠none→(∀vs,H a≠some (.tup vs))→G a=none→upd G b (.tup vs) a=none:=fun a _ n e=>by
  have:a≠b:=fun z=>by subst z;exact n vs h
  rw [ah this];exact e
 exact⟨sm,gH.refl _,fun c u e=>by
  by_cases hc:c=b
  ·subst hc;rw [au] at e;cases e;exact h
  ·rw [ah hc] at e;exact s _ _ e,ow,fun t=>t.same sm ow fun _ _ e=>e⟩
theorem aJ.mine{G H:Hp}{p:Addr}{o:HO}(s:aF G H)(h:H p=none):aJ W G H G (upd H p o):=
 ⟨aF.refl _,.of (bA h),s.trans (bA h),fun _ _ _ hg=>hg,fun t=>t.same (aF.refl _) (fun _ _ _ h=>h) (nV (fun ps z=>by rw [h] at z;cases z))⟩
end
def bh(scope:Scope):List Str:=((scope.names.filter fun p=>p.2==.free).map (·.1)).reverse
def okN(x:Str):Bool:=!(x=="__debug__")&&!(x=="__classdict__")&&!(x=="__name__")
def fY(x:Str):Bool:=x.cps.toList.contains 64
def ou:Arguments→Option (List Str)
 |⟨[],[],none,[],[],none,[]⟩=>some []
 |⟨[],[a],none,[],[],none,[]⟩=>some [a.arg]
 |_=>none
def dU:List Expr→List (Option Str)→Bool
 |[],[]=>true
 |.Name x _::r,some y::t=>x==y&&okN x&&dU r t
 |_,_=>false
noncomputable def HZ(ps:List Str)(scope:Scope):Bool:=
 scope.kind==.function&&!scope.isCoroutine&&!scope.isGenerator&&decide ((ps++bh scope).Nodup)&&(scope.names.all fun y=>decide (y.2≠.cell))&&(ps.all fun x=>decide (scope.names.lookup x=some .local))&&((bh scope).all fun x=>decide (scope.names.lookup x=some .free))
noncomputable def xk(g:Str)(idx:List Nat)(params:Arguments)(body:Expr)(scope:Scope):Bool:=match ou params,body with
 |some ps,.Call (.Name g' _) (a::as) [] _=>decide (idx.head?=some ps.length)&&g==g'&&scope.names.lookup g==some .globalImplicit&&okN g&&!fY g&&dU (a::as) (idx.tail.map fun i=>(ps++bh scope)[i]?)&&HZ ps scope
 |_,_=>false
structure Kc(W:Wd)(G:Hp)(g:Str)(idx:List Nat)(cI:List PV)(f c':Addr)(oc:Obj)(cR:Array Value)(t:Tok)(er pm:Value)(params:Arguments)(body:Expr)(scope:Scope)(qual:Str)(cl:List (Str×Addr))(Z:List (Addr×Obj))(ws:List V):Prop where
 lg:xk g idx params body scope=true
 fo:G f=some (.frz (PySem.W.kla_obj "<lambda>" qual params body scope cl pm c' er) bx)
 co:G c'=some (.frz oc bx)
 cd:oc.data=.fields cR
 cn:cR[1]?=some (.str qual t)
 fz:Z.lookup f=none
 cz:Z.lookup c'=none
 inj:∀x y c,cl.lookup x=some c→cl.lookup y=some c→x=y
 has:∀y∈bh scope,∃c,cl.lookup y=some c
 cells:∀x c,cl.lookup x=some c→∃o v,Z.lookup c=some o∧o.data=.cell v
 zs:∀b o,Z.lookup b=some o→G b=some (.frz o bx)
 zc:∀b o,Z.lookup b=some o→∃v,o.data=.cell v
 vals:∀(i:Nat) y c,(bh scope)[i]?=some y→cl.lookup y=some c→∀v,ws[i]?=some v→∃u o,RelV v u∧Z.lookup c=some o∧o.data=.cell (some u)
 len:ws.length=(bh scope).length
 rep:aq W (aY Z G) cI ws
def mT(W:Wd)(G:Hp)(g:Str)(idx:List Nat)(cI:List PV)(v:V):Prop:=∃f c' oc cR t er pm params body scope qual cl Z ws,v=.ref f∧Kc W G g idx cI f c' oc cR t er pm params body scope qual cl Z ws
theorem lH{Z:List (Addr×Obj)}{G G':Hp}(s:aF G G'):aF (aY Z G) (aY Z G'):=fun b u e=>by
 obtain⟨q,e1⟩:=dD e
 rw [aB q];exact s _ _ e1
theorem mT.same{W:Wd}{G G':Hp}{g:Str}{idx:List Nat}{cI:List PV}{v:V}(s:aF G G')(h:mT W G g idx cI v):mT W G' g idx cI v:=by
 obtain⟨f,c',oc,cR,t,er,pm,params,body,scope,qual,cl,Z,ws,e,d⟩:=h
 exact⟨f,c',oc,cR,t,er,pm,params,body,scope,qual,cl,Z,ws,e,⟨d.lg,s _ _ d.fo,s _ _ d.co,d.cd,d.cn,d.fz,d.cz,d.inj,d.has,d.cells,fun b o q=>s _ _ (d.zs b o q),d.zc,d.vals,d.len,aq.same (lH s) cI d.rep⟩⟩
inductive Slot where
 |no|val (p:PV)|own (p:PV)|fn (g:Str) (idx:List Nat) (cI:List PV)
 deriving Inhabited
abbrev Sl:=List Slot
def Own(W:Wd)(H0 G H:Hp):PV→V→Prop
 |.lst xs,v=>∃a vs,v=.ref a∧H a=some (.lst vs)∧G a=none∧H0 a=none∧aq W G xs vs
 |.dct ks ps,v=>∃a us,v=.ref a∧ks.length=us.length∧H a=some (.dT (kz ks us))∧G a=none∧H0 a=none∧aq W G ps us
 |_,_=>False
def Top(W:Wd)(H0 G H:Hp)(p:PV)(v:V):Prop:=Rep W G p v∨Own W H0 G H p v
def SlR(W:Wd)(H0 G H:Hp):Slot→Option V→Prop
 |.no,_=>True
 |.val p,o=>∃v,o=some v∧Rep W G p v
 |.own p,o=>∃v,o=some v∧Own W H0 G H p v
 |.fn g idx cI,o=>∃v,o=some v∧mT W G g idx cI v
structure SR(W:Wd)(H0:Hp)(env:Sl)(σ:St)(G H:Hp):Prop where
 len:env.length=σ.length
 sub:aF G H
 base:gH H0 H
 slot:∀(i:Nat) (s:Slot),env[i]?=some s→∃o,σ[i]?=some o∧SlR W H0 G H s o
 apart:∀(i j:Nat) (p q:PV) (a:Addr),env[i]?=some (.own p)→env[j]?=some (.own q)→σ[i]?=some (some (.ref a))→σ[j]?=some (some (.ref a))→i=j
 tab:cy W G H
 tab0:cy W G H0
section
variable{W:Wd}{H0 G H G' H':Hp}{env:Sl}{σ:St}
theorem Own.grow(g:aJ W G H G' H'):∀{p:PV} {v:V},Own W H0 G H p v→Own W H0 G' H' p v
 |.lst xs,_,h=>by
  obtain⟨a,vs,e,h1,h2,h3,l⟩:=h
  exact⟨a,vs,e,g.h.at h1 (fun _ z=>nomatch z),g.own a (by rw [h1];exact fun z=>by cases z) (by rw [h1];exact fun _ z=>by cases z) h2,h3,aq.same g.g xs l⟩
 |.dct ks ps,_,h=>by
  obtain⟨a,vs,e,n,h1,h2,h3,l⟩:=h
  exact⟨a,vs,e,n,g.h.at h1 (fun _ z=>nomatch z),g.own a (by rw [h1];exact fun z=>by cases z) (by rw [h1];exact fun _ z=>by cases z) h2,h3,aq.same g.g ps l⟩
 |.non,_,h=>h|.bl _,_,h=>h|.int _,_,h=>h|.str _,_,h=>h|.tup _,_,h=>h|.exc _,_,h=>h
theorem SlR.grow(g:aJ W G H G' H'):∀{s:Slot} {o:Option V},SlR W H0 G H s o→SlR W H0 G' H' s o
 |.no,_,_=>trivial
 |.val p,_,h=>by obtain⟨v,e,r⟩:=h;exact⟨v,e,Rep.same g.g p r⟩
 |.own p,_,h=>by obtain⟨v,e,r⟩:=h;exact⟨v,e,r.grow g⟩
 |.fn _ _ _,_,h=>by obtain⟨v,e,r⟩:=h;exact⟨v,e,r.same g.g⟩
theorem SR.grow(r:SR W H0 env σ G H)(g:aJ W G H G' H'):SR W H0 env σ G' H':=
 ⟨r.len,g.sub,r.base.trans g.h,fun i s e=>by obtain⟨o,h1,h2⟩:=r.slot i s e;exact⟨o,h1,h2.grow g⟩,r.apart,g.tab r.tab,r.tab0.same g.g (fun a h1 h3 h2=>g.own a (fun z=>h1 (r.base.free z)) (r.base.notup h1 h3) h2) fun _ _ h=>h⟩
theorem Top.grow{p:PV}{v:V}(g:aJ W G H G' H')(h:Top W H0 G H p v):Top W H0 G' H' p v:=h.elim (fun z=>.inl (Rep.same g.g p z)) fun z=>.inr (z.grow g)
theorem Top.lst{xs:List PV}{v:V}(s:aF G H)(h:Top W H0 G H (.lst xs) v):∃a vs,v=.ref a∧LsR W.K H a vs∧aq W G xs vs:=by
 rcases h with h|h
 ·simp only [Rep] at h;obtain⟨a,vs,e,q,l⟩:=h
  exact⟨a,vs,e,aF.ls s q,l⟩
 ·obtain⟨a,vs,e,h1,_,_,l⟩:=h
  exact⟨a,vs,e,.inl (.inl h1),l⟩
theorem Top.tup{xs:List PV}{v:V}(s:aF G H)(h:Top W H0 G H (.tup xs) v):∃a vs,v=.ref a∧fD W.K H a vs∧aq W G xs vs:=by
 rcases h with h|h
 ·simp only [Rep] at h;obtain⟨a,vs,e,q,l⟩:=h
  exact⟨a,vs,e,aF.tup s q.sq,l⟩
 ·exact h.elim
theorem Top.tupI{xs:List PV}{v:V}{ns:List Int}(s:aF G H)(hx:xs=ns.map .int)(h:Top W H0 G H (.tup xs) v):∃a,v=.ref a∧G a=some (.tup (ns.map V.int)):=by
 rcases h with h|h
 ·simp only [Rep] at h;obtain⟨a,vs,e,q,l⟩:=h
  have ev:vs=ns.map V.int:=by
   subst hx
   clear q e
   induction ns generalizing vs with
   |nil=>simp only [List.map_nil,aq] at l;exact l
   |cons n ns ih=>
    obtain⟨u,r,rfl,h1,h2⟩:=l.uncons
    simp only [Rep] at h1;rw [h1,ih r h2]
    rfl
  subst ev;rcases q with q|⟨_,z,hz⟩
  ·exact⟨a,e,q⟩
  ·obtain⟨n,_,hn⟩:=List.mem_map.mp hz
   cases hn
 ·exact h.elim
theorem Top.dct{ks:List (List Int)}{ps:List PV}{v:V}(s:aF G H)(h:Top W H0 G H (.dct ks ps) v):∃a us,v=.ref a∧ks.length=us.length∧Rd H a (.dT (kz ks us))∧aq W G ps us:=by
 rcases h with h|h
 ·simp only [Rep] at h;obtain⟨a,o,us,e,n,q,l⟩:=h
  exact⟨a,us,e,n,.inr ⟨o,s _ _ q⟩,l⟩
 ·obtain⟨a,vs,e,n,q,_,_,l⟩:=h
  exact⟨a,vs,e,n,.inl q,l⟩
theorem Top.int{i:Int}{v:V}(h:Top W H0 G H (.int i) v):v=.int i:=h.elim (fun z=>by simpa only [Rep] using z) fun z=>z.elim
theorem Top.bl{b:Bool}{v:V}(h:Top W H0 G H (.bl b) v):v=.bl b:=h.elim (fun z=>by simpa only [Rep] using z) fun z=>z.elim
theorem Top.str{b:Str}{v:V}(h:Top W H0 G H (.str b) v):v=.str b:=h.elim (fun z=>by simpa only [Rep] using z) fun z=>z.elim
theorem Top.non{v:V}(h:Top W H0 G H .non v):v=.non:=h.elim (fun z=>by simpa only [Rep] using z) fun z=>z.elim
theorem Rep.i{i:Int}:Rep W G (.int i) (.int i):=by simp only [Rep]
theorem Rep.b{i:Bool}:Rep W G (.bl i) (.bl i):=by simp only [Rep]
theorem Rep.s{i:Str}:Rep W G (.str i) (.str i):=by simp only [Rep]
theorem Rep.n:Rep W G .non .non:=by simp only [Rep]
theorem Rep.l{a:Addr}{xs:List PV}{vs:List V}(h:LsR W.K G a vs)(l:aq W G xs vs):Rep W G (.lst xs) (.ref a):=by simp only [Rep];exact⟨a,vs,rfl,h,l⟩
theorem Rep.t{a:Addr}{xs:List PV}{vs:List V}(h:E8 W.K G a vs)(l:aq W G xs vs):Rep W G (.tup xs) (.ref a):=by simp only [Rep];exact⟨a,vs,rfl,h,l⟩
end
end Ci
namespace L2
open PySem PySem.Spec PyProof.Rows
section
variable{X:Cx}
end
end L2
namespace Ci
open PySem L2
inductive Res(α:Type) where
 |ok (a:α)|exc (c:Str)|bad
@[inline] def Res.bind{α β:Type}:Res α→(α→Res β)→Res β
 |.ok a,f=>f a
 |.exc c,_=>.exc c
 |.bad,_=>.bad
instance:Monad Res where
 pure:=.ok
 bind:=Res.bind
theorem Res.bind_ok{α β:Type}{r:Res α}{f:α→Res β}{b:β}(h:r.bind f=.ok b):∃a,r=.ok a∧f a=.ok b:=by
 cases r with
 |ok a=>exact⟨a,rfl,h⟩
 |exc c=>cases h
 |bad=>cases h
theorem Res.bind_exc{α β:Type}{r:Res α}{f:α→Res β}{c:Str}(h:r.bind f=.exc c):r=.exc c∨∃a,r=.ok a∧f a=.exc c:=by
 cases r with
 |ok a=>exact .inr ⟨a,rfl,h⟩
 |exc c'=>cases h;exact .inl rfl
 |bad=>cases h
def Res.of{α:Type}:Option α→Res α
 |some a=>.ok a
 |none=>.bad
def Res.well{α:Type}:Res α→Res α
 |.ok a=>.ok a
 |_=>.bad
abbrev dg:Nat:=1000000
def eqs(f:PV→PV→Bool):List PV→List PV→Bool
 |[],[]=>true
 |x::xs,y::ys=>f x y&&eqs f xs ys
 |_,_=>false
noncomputable def ir:Nat→PV→PV→Bool
 |_,.non,.non=>true
 |_,.bl a,.bl b=>a==b
 |_,.bl a,.int i=>(if a then 1 else 0)==i
 |_,.int i,.bl a=>i==(if a then 1 else 0)
 |_,.int i,.int j=>i==j
 |_,.str x,.str y=>x==y
 |n+1,.tup xs,.tup ys=>eqs (ir n) xs ys
 |n+1,.lst xs,.lst ys=>eqs (ir n) xs ys
 |_,_,_=>false
noncomputable def plain:Nat→PV→Bool
 |_,.non=>true
 |_,.bl _=>true
 |_,.int _=>true
 |_,.str _=>true
 |n+1,.tup xs=>xs.all (plain n)
 |n+1,.lst xs=>xs.all (plain n)
 |_,_=>false
abbrev DP:Nat:=9
noncomputable abbrev eqv:PV→PV→Bool:=ir DP
noncomputable abbrev pln:PV→Bool:=plain DP
inductive E5 where|add|sub|mul|mod|fdiv
inductive yk where|eq|ne|lt|le|gt|isn|in_|nin
def aR(i:Int):Bool:=decide (-(2^64)<i)&&decide (i<2^64)
noncomputable def binOp:E5→PV→PV→Res PV
 |.add,.int i,.int j=>.ok (.int (i+j))
 |.add,.str x,.str y=>if x.length+y.length≤dg then .ok (.str (x++y)) else .bad
 |.add,.tup x,.tup y=>if x.length+y.length≤dg then .ok (.tup (x++y)) else .bad
 |.sub,.int i,.int j=>.ok (.int (i-j))
 |.mul,.int i,.int j=>if aR i||aR j then .ok (.int (i*j)) else .bad
 |.mod,.int i,.int j=>if 0<j then .ok (.int (i%j)) else .bad
 |.fdiv,.int i,.int j=>if 0<j∧j<1073741824 then .ok (.int (i/j)) else .bad
 |_,_,_=>.bad
def intsOf:List PV→Option (List Int)
 |[]=>some []
 |.int i::r=>(intsOf r).map (i::·)
 |_=>none
def aC{α:Type}:List (List Int)→List α→List Int→Option α
 |k'::ks,v::vs,k=>if k'=k then some v else aC ks vs k
 |_,_,_=>none
def bV(ks:List (List Int))(k:List Int):Bool:=ks.any fun k'=>decide (k'=k)
def aU(ks:List (List Int))(k:List Int):List (List Int):=if bV ks k then ks else ks++[k]
def bg{α:Type}(ks:List (List Int))(vs:List α)(k:List Int)(p:α):List α:=if bV ks k then List.zipWith (fun k' v=>if k'=k then p else v) ks vs else vs++[p]
def bJ(ks:List (List Int))(k:List Int):List (List Int):=ks.filter fun k'=>decide (k'≠k)
def aV{α:Type}:List (List Int)→List α→List Int→List α
 |k'::ks,v::vs,k=>if k'=k then aV ks vs k else v::aV ks vs k
 |_,_,_=>[]
def ag(k:List Int):PV:=.tup (k.map .int)
def gb:PV→Option (List Int)
 |.tup xs=>intsOf xs
 |_=>none
def jy:List PV→Option (List (List Int))
 |[]=>some []
 |x::r=>(gb x).bind fun k=>(jy r).map (k::·)
noncomputable def uR(x:PV)(ys:List PV):Bool:=ys.any fun y=>eqv y x
noncomputable def fX(a b:PV):Res PV:=if pln a&&pln b then .ok (.bl (eqv a b)) else .bad
noncomputable def gR(a b:PV):Res PV:=if pln a&&pln b then .ok (.bl (!eqv a b)) else .bad
def pO:PV→PV→Res PV
 |.int i,.int j=>.ok (.bl (decide (i<j)))
 |_,_=>.bad
def oR:PV→PV→Res PV
 |.int i,.int j=>.ok (.bl (decide (i≤j)))
 |_,_=>.bad
def rB:PV→PV→Res PV
 |.int i,.int j=>.ok (.bl (decide (j<i)))
 |_,_=>.bad
def BS:PV→Bool
 |.non=>true
 |_=>false
def fK:PV→PV→Res PV
 |a,.non=>.ok (.bl (!BS a))
 |_,_=>.bad
noncomputable def m5:PV→PV→Res PV
 |a,.tup ys=>if pln a&&ys.all pln then .ok (.bl (uR a ys)) else .bad
 |_,_=>.bad
noncomputable def eE:PV→PV→Res PV
 |a,.lst ys=>if pln a&&ys.all pln then .ok (.bl (!uR a ys)) else .bad
 |a,.dct ks _=>(Res.of (gb a)).bind fun k=>.ok (.bl (!bV ks k))
 |_,_=>.bad
noncomputable def da:yk→PV→PV→Res PV
 |.eq=>fX|.ne=>gR|.lt=>pO|.le=>oR|.gt=>rB|.isn=>fK|.in_=>m5|.nin=>eE
noncomputable def aQ:PV→PV→Res PV
 |.lst xs,.int i=>Res.of (oE xs i)
 |.tup xs,.int i=>Res.of (oE xs i)
 |.str z,.int i=>if z.length≤dg then(Res.of (oE z.cps.toList i)).bind fun c=>.ok (.str ⟨#[c]⟩) else .bad
 |.dct ks vs,y=>(Res.of (gb y)).bind fun k=>Res.of (aC ks vs k)
 |_,_=>.bad
def n5{α:Type}(xs:List α)(lo hi:Option Int):List α:=(xs.drop (HT.sIx xs.length 0 lo)).take (HT.sIx xs.length xs.length hi-HT.sIx xs.length 0 lo)
noncomputable def dM:PV→Option Int→Option Int→Res PV
 |.tup xs,lo,hi=>if HT.sIx xs.length 0 lo=0∧HT.sIx xs.length xs.length hi=xs.length then .bad else .ok (.tup (n5 xs lo hi))
 |.str z,lo,hi=>if z.length≤dg then .ok (.str (Txt.slice z lo hi)) else .bad
 |_,_,_=>.bad
inductive B where|len|abs|max2|int|str|tuple|sorted
def chars(z:Str):List PV:=z.cps.toList.map fun c=>.str ⟨#[c]⟩
noncomputable def qH:List PV→Res PV
 |[.lst xs]=>.ok (.int xs.length)
 |[.tup xs]=>.ok (.int xs.length)
 |[.str z]=>if z.length≤dg then .ok (.int z.length) else .bad
 |[.dct ks _]=>.ok (.int ks.length)
 |_=>.bad
def wV:List PV→Res PV
 |[.int i]=>.ok (.int (if i<0 then -i else i))
 |_=>.bad
def v7:List PV→Res PV
 |[.int i,.int j]=>.ok (.int (if j>i then j else i))
 |_=>.bad
def wo:List PV→Res PV
 |[.str z]=>if z.length≤640 then(Res.of (PySem.intText? z)).bind fun n=>.ok (.int n) else .bad
 |_=>.bad
def wW:List PV→Res PV
 |[.int i]=>if i.natAbs.log2<1920 then .ok (.str (toString i)) else .bad
 |_=>.bad
def jf:List PV→Res PV
 |[.lst xs]=>.ok (.tup xs)
 |_=>.bad
noncomputable def gj:List PV→Res PV
 |[.lst xs]=>(Res.of (jy xs)).bind fun nss=>if decide (xs.length<64)&&nss.all (fun k=>!k.isEmpty) then .ok (.lst (jx .non xs nss)) else .bad
 |[.dct ks _]=>if decide (ks.length<64)&&ks.all (fun k=>!k.isEmpty) then .ok (.lst (jx .non (ks.map ag) ks)) else .bad
 |_=>.bad
noncomputable def du:B→List PV→Res PV
 |.len=>qH|.abs=>wV|.max2=>v7|.int=>wo|.str=>wW|.tuple=>jf|.sorted=>gj
inductive Ty where|int|bool|tuple
def aw:Ty→PV→Bool
 |.int,.int _=>true
 |.int,.bl _=>true
 |.bool,.bl _=>true
 |.tuple,.tup _=>true
 |_,_=>false
def ax(t:Ty):PV→Res PV
 |.exc _=>.bad
 |.dct _ _=>.bad
 |p=>.ok (.bl (aw t p))
inductive Tg where
 |one (i:Nat)|two (i j:Nat)
mutual
inductive E where
 |var (i:Nat)|tmp (i:Nat)
 |cst (p:PV)
 |glob (g:Str) (p:PV)
 |call (f:Str) (as:Es)
 |callv (i:Nat) (as:Es)
 |callL (f:Str) (as:Es) (g:Str) (idx:List Nat) (aW:List Nat)
 |blt (b:B) (as:Es)
 |ty (t:Ty) (a:E)
 |bin (o:E5) (a b:E)
 |cmp (o:yk) (a b:E)
 |ch (o1 o2:yk) (a b c:E)
 |not (a:E)
 |neg (a:E)
 |and (a b:E)|or (a b:E)
 |ite (c a b:E)
 |tup (as:Es)|lst (as:Es)
 |sub (a b:E)
 |slice (a:E) (lo hi:Oe)
 |comp (k:Nat) (aW:List Nat) (tg:Tg) (it:I) (elt:E)
 |compIf (k:Nat) (aW:List Nat) (tg:Tg) (it:I) (c elt:E)
inductive Es where
 |nil|cons (e:E) (es:Es)
inductive Oe where
 |no|some (e:E)
inductive I where
 |seq (e:E)|rng (e:E)|rng2 (a b:E)|enum (e:E)
end
mutual
inductive S where
 |expr (e:E)
 |set (i:Nat) (e:E)
 |own (i:Nat) (e:E)
 |frz (i:Nat)
 |app (i:Nat) (e:E)
 |extd (i:Nat) (e:E)
 |put (i:Nat) (k e:E)
 |pop (j i:Nat)
 |ret (e:E)
 |ite (c:E) (a b:Ss)
 |for_ (tg:Tg) (it:I) (b:Ss)
 |whl (c:E) (b:Ss)
 |raise (c:Str) (m:Str)
 |dnew (i:Nat)
 |dnew1 (i n:Nat) (b:Bool)
 |putPop (i j n:Nat)
 |minK (m i:Nat)
inductive Ss where
 |nil|cons (s:S) (ss:Ss)
end
def dO:List Int→Nat→Nat→Int→Nat
 |[],_,b,_=>b
 |c::cs,j,b,m=>if c<m then dO cs (j+1) j c else dO cs (j+1) b m
def x5:List Int→Option Nat
 |[]=>none
 |c::cs=>some (dO cs 1 0 c)
def gh:List PV→Option (List Int)
 |[]=>some []
 |.tup (.int c::_)::r=>(gh r).map (c::·)
 |_=>none
abbrev aS:=Str→List PV→Res PV
def j8:Option Slot→Res PV
 |some (.val p)=>.ok p
 |_=>.bad
def w6:Option Slot→Res PV
 |some (.val p)=>.ok p
 |some (.own p)=>.ok p
 |_=>.bad
def Tg.put:Tg→PV→Sl→Res Sl
 |.one i,p,env=>.ok (env.set i (.val p))
 |.two i j,.tup [a,b],env=>.ok ((env.set i (.val a)).set j (.val b))
 |_,_,_=>.bad
def iH(env:Sl):List Nat→Res (List PV)
 |[]=>.ok []
 |i::r=>(j8 env[i]?).bind fun p=>(iH env r).bind fun ps=>.ok (p::ps)
def fb(l:List PV):List Nat→Res (List PV)
 |[]=>.ok []
 |i::r=>(Res.of l[i]?).bind fun p=>(fb l r).bind fun ps=>.ok (p::ps)
def av(env:Sl)(aW:List Nat):Sl:=aW.map fun i=>env.getD i .no
def itemsOf:PV→Res (List PV)
 |.tup xs=>.ok xs
 |.str z=>.ok (chars z)
 |_=>.bad
def Hc(e:E)(p:PV):Res (List PV):=match p with
 |.lst xs=>.ok xs
 |_=>.bad
def eK(lo:Int)(n:Nat):List PV:=(List.range n).map fun i=>.int (lo+(i:Nat))
def bj(i:Int):Bool:=decide (-(2^62)≤i)&&decide (i<2^62)
def cC(n:Nat):List PV→List PV
 |[]=>[]
 |x::xs=>.tup [.int (n:Nat),x]::cC (n+1) xs
def oc:Option PV→List PV→List PV
 |some y,ys=>y::ys
 |none,ys=>ys
def aX(f:PV→Res (Option PV)):List PV→Res (List PV)
 |[]=>.ok []
 |x::xs=>(f x).well.bind fun o=>(aX f xs).bind fun ys=>.ok (oc o ys)
def qp{α:Type}(p:PV)(f:Bool→Res α):Res α:=match p with
 |.bl b=>f b
 |_=>.bad
section
variable(F:aS)
mutual
noncomputable def ay:E→Sl→Res PV
 |.var i,env=>j8 env[i]?
 |.tmp i,env=>w6 env[i]?
 |.cst p,_=>.ok p
 |.glob _ p,_=>.ok p
 |.call f as,env=>(ak as env).bind fun ps=>F f ps
 |.callv i as,env=>match env[i]? with
  |some (.fn g idx cI)=>(ak as env).bind fun ps=>if idx.head?=some ps.length then(fb (ps++cI) idx.tail).bind fun qs=>F g qs else .bad
  |_=>.bad
 |.callL f as _ _ aW,env=>(ak as env).bind fun ps=>(iH env aW).bind fun cs=>F f (ps++cs)
 |.blt b as,env=>(ak as env).bind fun ps=>du b ps
 |.ty t a,env=>(ay a env).bind fun p=>ax t p
 |.bin o a b,env=>(ay a env).bind fun x=>(ay b env).bind fun y=>binOp o x y
 |.cmp o a b,env=>(ay a env).bind fun x=>(ay b env).bind fun y=>da o x y
 |.ch o1 o2 a b c,env=>(ay a env).bind fun x=>(ay b env).bind fun y=>(da o1 x y).bind fun t=>qp t fun t=>
  if t then(ay c env).bind fun z=>da o2 y z else .ok (.bl false)
 |.not a,env=>(ay a env).bind fun x=>qp x fun b=>.ok (.bl (!b))
 |.neg a,env=>(ay a env).bind fun x=>match x with|.int i=>.ok (.int (-i))|_=>.bad
 |.and a b,env=>(ay a env).bind fun x=>qp x fun t=>if t then ay b env else .ok (.bl false)
 |.or a b,env=>(ay a env).bind fun x=>qp x fun t=>if t then .ok (.bl true) else ay b env
 |.ite c a b,env=>(ay c env).bind fun x=>qp x fun t=>if t then ay a env else ay b env
 |.tup as,env=>(ak as env).bind fun ps=>.ok (.tup ps)
 |.lst as,env=>(ak as env).bind fun ps=>.ok (.lst ps)
 |.sub a b,env=>(ay a env).bind fun x=>(ay b env).bind fun y=>aQ x y
 |.slice a lo hi,env=>(ay a env).bind fun x=>(aP lo env).bind fun l=>(aP hi env).bind fun h=>dM x l h
 |.comp k aW tg it elt,env=>(aO it env).bind fun xs=>if xs.length<dg then(aX (fun x=>(tg.put x (List.replicate k .no++av env aW)).bind fun az=>(ay elt az).bind fun y=>.ok (some y)) xs).bind fun ys=>.ok (.lst ys) else .bad
 |.compIf k aW tg it c elt,env=>(aO it env).bind fun xs=>if xs.length<dg then(aX (fun x=>(tg.put x (List.replicate k .no++av env aW)).bind fun az=>(ay c az).bind fun t=>qp t fun t=>if t then(ay elt az).bind fun y=>.ok (some y) else .ok none) xs).bind fun ys=>.ok (.lst ys) else .bad
noncomputable def ak:Es→Sl→Res (List PV)
 |.nil,_=>.ok []
 |.cons e es,env=>(ay e env).bind fun p=>(ak es env).bind fun ps=>.ok (p::ps)
noncomputable def aP:Oe→Sl→Res (Option Int)
 |.no,_=>.ok none
 |.some e,env=>(ay e env).bind fun p=>match p with|.int i=>.ok (some i)|_=>.bad
noncomputable def aO:I→Sl→Res (List PV)
 |.seq e,env=>(ay e env).bind (Hc e)
 |.rng e,env=>(ay e env).bind fun p=>match p with|.int j=>if bj j then .ok (eK 0 j.toNat) else .bad|_=>.bad
 |.rng2 a b,env=>(ay a env).bind fun p=>(ay b env).bind fun q=>match p,q with|.int i,.int j=>if bj i&&bj j then .ok (eK i (j-i).toNat) else .bad|_,_=>.bad
 |.enum e,env=>(ay e env).bind fun p=>(itemsOf p).bind fun xs=>.ok (cC 0 xs)
end
end
inductive Fl where
 |nx (env:Sl)|bk (env:Sl)|ct (env:Sl)|rt (p:PV)
def Fl.seq(f:Fl)(k:Sl→Res Fl):Res Fl:=match f with
 |.nx env=>k env
 |f=>.ok f
noncomputable def forL(body:PV→Sl→Res Fl):List PV→Sl→Res Fl
 |[],env=>.ok (.nx env)
 |x::xs,env=>(body x env).bind fun f=>match f with
  |.nx az=>forL body xs az
  |.ct az=>forL body xs az
  |.bk az=>.ok (.nx az)
  |.rt p=>.ok (.rt p)
noncomputable def bO(c:Sl→Res PV)(body:Sl→Res Fl):Nat→Sl→Res Fl
 |0,_=>.bad
 |n+1,env=>(c env).bind fun t=>qp t fun t=>if t then(body env).bind fun f=>(match f with
  |.nx az=>bO c body n az
  |.ct az=>bO c body n az
  |.bk az=>.ok (.nx az)
  |.rt p=>.ok (.rt p)) else .ok (.nx env)
abbrev WN:Nat:=1000000
def nF:Slot→Slot
 |.own p=>.val p
 |s=>s
section
variable(F:aS)
mutual
noncomputable def aK:S→Sl→Res Fl
 |.expr e,env=>(ay F e env).bind fun _=>.ok (.nx env)
 |.set i e,env=>(ay F e env).bind fun p=>.ok (.nx (env.set i (.val p)))
 |.own i e,env=>(ay F e env).bind fun p=>.ok (.nx (env.set i (.own p)))
 |.frz i,env=>.ok (.nx (env.modify i nF))
 |.app i e,env=>match env[i]? with
  |some (.own (.lst xs))=>(ay F e env).bind fun p=>if xs.length<dg then .ok (.nx (env.set i (.own (.lst (xs++[p]))))) else .bad
  |_=>.bad
 |.extd i e,env=>match env[i]? with
  |some (.own (.lst xs))=>(ay F e env).bind fun p=>match p with
   |.lst ys=>if xs.length+ys.length≤dg then .ok (.nx (env.set i (.own (.lst (xs++ys))))) else .bad
   |_=>.bad
  |_=>.bad
 |.put i k e,env=>(ay F e env).bind fun p=>match env[i]? with
  |some (.own (.dct ks vs))=>(ay F k env).bind fun kp=>match gb kp with
   |some kk=>if ks.length<dg then .ok (.nx (env.set i (.own (.dct (aU ks kk) (bg ks vs kk p))))) else .bad
   |none=>.bad
  |_=>.bad
 |.pop j i,env=>match env[i]? with
  |some (.own (.lst xs))=>(Res.of xs[xs.length-1]?).bind fun p=>.ok (.nx ((env.set i (.own (.lst xs.dropLast))).set j (.val p)))
  |_=>.bad
 |.ret e,env=>(ay F e env).bind fun p=>.ok (.rt p)
 |.ite c a b,env=>(ay F c env).bind fun p=>qp p fun t=>if t then ai a env else ai b env
 |.for_ tg it b,env=>(aO F it env).bind fun xs=>forL (fun x env=>(tg.put x env).bind fun az=>ai b az) xs env
 |.whl c b,env=>bO (ay F c) (ai b) WN env
 |.raise c _,_=>.exc c
 |.dnew i,env=>.ok (.nx (env.set i (.own (.dct [] []))))
 |.dnew1 i n b,env=>(j8 env[n]?).bind fun kp=>(Res.of (gb kp)).bind fun kk=>.ok (.nx (env.set i (.own (.dct [kk] [.bl b]))))
 |.putPop i j n,env=>match env[j]?,env[i]?,env[n]? with
  |some (.own (.dct ks vs)),some (.own (.dct ks2 vs2)),some (.val kp)=>match gb kp with
   |some kk=>match aC ks vs kk with
    |some p=>if ks2.length<dg∧i≠j then .ok (.nx ((env.set j (.own (.dct (bJ ks kk) (aV ks vs kk)))).set i (.own (.dct (aU ks2 kk) (bg ks2 vs2 kk p))))) else .bad
    |none=>.bad
   |none=>.bad
  |_,_,_=>.bad
 |.minK m i,env=>match env[i]? with
  |some (.own (.dct ks vs))=>match gh vs with
   |some cs=>match(x5 cs).bind fun x=>ks[x]? with
    |some k=>.ok (.nx (env.set m (.val (ag k))))
    |none=>.bad
   |none=>.bad
  |_=>.bad
noncomputable def ai:Ss→Sl→Res Fl
 |.nil,env=>.ok (.nx env)
 |.cons s ss,env=>(aK s env).bind fun f=>f.seq (ai ss)
end
end
structure Def where
 N:List Str
 np:Nat
 body:Ss
 clo:Option (Str×List Nat):=none
noncomputable def aa(d:Def)(as:List PV):Sl:=match d.clo with
 |none=>as.map .val++List.replicate (d.N.length-as.length) .no
 |some q=>(as.take (d.np-1)).map .val++.fn q.1 q.2 (as.drop (d.np-1))::List.replicate (d.N.length-d.np) .no
noncomputable def ae(d:Def)(as:List PV):Bool:=match d.clo with
 |none=>as.length==d.np
 |some _=>decide (0<d.np)&&decide (d.np-1≤as.length)
noncomputable def af(F:aS)(d:Def)(as:List PV):Res PV:=
 if ae d as then(ai F d.body (aa d as)).bind fun f=>match f with
  |.nx _=>.ok .non
  |.rt p=>.ok p
  |_=>.bad
 else .bad
noncomputable def den:List (Str×Def)→aS
 |[],_,_=>.bad
 |(n,d)::r,f,as=>if f==n then af (den r) d as else den r f as
end Ci
namespace Ci
open PySem L2
abbrev ki(k:List Int):List Key:=k.map Sum.inl
theorem qE{a b:List Int}(h:ki a=ki b):a=b:=by
 induction a generalizing b with
 |nil=>cases b with|nil=>rfl|cons=>cases h
 |cons x a ih=>cases b with
  |nil=>cases h
  |cons y b=>simp only [ki,List.map_cons,List.cons.injEq,Sum.inl.injEq] at h;rw [h.1,ih h.2]
theorem qW(k:List Int):(ki k).map kV=k.map V.int:=by
 unfold ki;rw [List.map_map]
 rfl
theorem gO{k:List Int}{ks:List (List Int)}{u:V}{us:List V}:kz (k::ks) (u::us)=(ki k,u)::kz ks us:=rfl
theorem fT{ks:List (List Int)}{us:List V}(h:ks.length=us.length):(kz ks us).length=ks.length:=by
 unfold kz;rw [List.length_zip,List.length_map];omega
theorem tD{ks:List (List Int)}{us:List V}(h:ks.length=us.length):(kz ks us).map (·.1)=ks.map ki:=by
 unfold kz;exact List.map_fst_zip (by rw [List.length_map];omega)
theorem iW(k:List Int):∀(ks:List (List Int)) (us:List V),fF (kz ks us) (ki k)=aC ks us k
 |[],us=>by unfold aC;rfl
 |a::ks,[]=>by unfold aC;rfl
 |a::ks,u::us=>by
  rw [gO];unfold aC
  by_cases h:a=k
  ·subst h;rw [if_pos rfl];exact eR rfl
  ·rw [if_neg h,eX (fun z=>h (qE z))];exact iW k ks us
theorem nt{α:Type}(k:List Int):∀(ks:List (List Int)) (us:List α),ks.length=us.length→(aC ks us k).isSome=bV ks k
 |[],[],_=>rfl
 |a::ks,u::us,h=>by
  unfold aC bV;rw [List.any_cons]
  by_cases e:a=k
  ·simp [e]
  ·rw [if_neg e];have:=nt k ks us (by simpa using h)
   unfold bV at this;rw [this];simp [e]
 |[],_::_,h=>by simp at h
 |_::_,[],h=>by simp at h
theorem Eg(k:List Int):∀(ks:List (List Int)) (us:List V),ks.length=us.length→((kz ks us).any fun kv=>decide (kv.1=ki k))=bV ks k:=fun ks us h=>by
 rw [j7,iW,nt k ks us h]
theorem vG{ks:List (List Int)}{us:List V}(h:ks.length=us.length)(k:List Int)(v:V):putK (kz ks us) (ki k) v=kz (aU ks k) (bg ks us k v):=by
 unfold putK aU bg;rw [Eg k ks us h];split
 ·have go:∀(ks:List (List Int)) (us:List V),(kz ks us).map (fun kv=>if kv.1=ki k then(kv.1,v) else kv)=kz ks (List.zipWith (fun k' u=>if k'=k then v else u) ks us):=by
   intro ks
   induction ks with
   |nil=>intro us;simp [kz]
   |cons a ks ih=>
    intro us;cases us with
    |nil=>simp [kz]
    |cons u us=>
     rw [gO,List.map_cons,List.zipWith_cons_cons,gO,ih]
     by_cases e:a=k
     ·simp [e]
     ·rw [if_neg (fun z=>e (qE z)),if_neg e]
  exact go ks us
 ·unfold kz;rw [List.map_append,List.zip_append (by rw [List.length_map];exact h)]
  rfl
theorem pd{α:Type}{ks:List (List Int)}{us:List α}(h:ks.length=us.length)(k:List Int)(v:α):(aU ks k).length=(bg ks us k v).length:=by
 unfold aU bg;split
 ·rw [List.length_zipWith];omega
 ·simp [h]
theorem rO(k:List Int):∀{ks:List (List Int)} {us:List V},ks.length=us.length→eC (kz ks us) (ki k)=kz (bJ ks k) (aV ks us k)
 |[],[],_=>rfl
 |a::ks,u::us,h=>by
  have ih:=rO k (ks:=ks) (us:=us) (by simpa using h)
  unfold bJ aV;rw [gO,List.filter_cons]
  by_cases e:a=k
  ·subst e;rw [ug rfl,ih];simp [bJ]
  ·rw [vb (fun z=>e (qE z)),ih,if_neg e,if_pos (by simpa using e),gO]
   rfl
 |[],_::_,h=>by simp at h
 |_::_,[],h=>by simp at h
theorem pP{α:Type}(k:List Int):∀{ks:List (List Int)} {us:List α},ks.length=us.length→(bJ ks k).length=(aV ks us k).length
 |[],[],_=>by unfold aV;rfl
 |a::ks,u::us,h=>by
  have ih:=pP k (ks:=ks) (us:=us) (by simpa using h)
  unfold bJ aV;rw [List.filter_cons]
  by_cases e:a=k
  ·subst e;rw [if_neg (by simp),if_pos rfl];exact ih
  ·rw [if_neg e,if_pos (by simpa using e),List.length_cons,List.length_cons];exact congrArg (·+1) ih
 |[],_::_,h=>by simp at h
 |_::_,[],h=>by simp at h
section
variable{W:Wd}{G:Hp}
theorem mD{k:List Int}{p:PV}:∀{ks:List (List Int)} {ps:List PV} {us:List V},aq W G ps us→aC ks ps k=some p→∃v,aC ks us k=some v∧Rep W G p v
 |[],_,_,_,e=>by unfold aC at e;cases e
 |a::ks,[],_,_,e=>by unfold aC at e;cases e
 |a::ks,q::ps,_,l,e=>by
  obtain⟨v,r,rfl,h1,h2⟩:=l.uncons
  unfold aC at e⊢
  by_cases h:a=k
  ·rw [if_pos h] at e⊢;cases e;exact⟨v,rfl,h1⟩
  ·rw [if_neg h] at e⊢;exact mD h2 e
theorem vK{k:List Int}{p:PV}{v:V}(hp:Rep W G p v):∀{ks:List (List Int)} {ps:List PV} {us:List V},aq W G ps us→aq W G (List.zipWith (fun k' v=>if k'=k then p else v) ks ps) (List.zipWith (fun k' u=>if k'=k then v else u) ks us)
 |[],_,_,_=>by simp only [List.zipWith_nil_left];exact .nil
 |a::ks,[],_,l=>by simp only [aq] at l;subst l;simp only [List.zipWith_nil_right];exact .nil
 |a::ks,q::ps,_,l=>by
  obtain⟨u,r,rfl,h1,h2⟩:=l.uncons
  rw [List.zipWith_cons_cons,List.zipWith_cons_cons];refine .cons ?_ (vK hp h2);split
  ·exact hp
  ·exact h1
theorem sx{ks:List (List Int)}{ps:List PV}{us:List V}{k:List Int}{p:PV}{v:V}(l:aq W G ps us)(hp:Rep W G p v):aq W G (bg ks ps k p) (bg ks us k v):=by
 unfold bg;split
 ·exact vK hp l
 ·exact l.append (.cons hp .nil)
theorem iY{k:List Int}:∀{ks:List (List Int)} {ps:List PV} {us:List V},aq W G ps us→aq W G (aV ks ps k) (aV ks us k)
 |[],_,_,_=>by unfold aV;exact .nil
 |a::ks,[],_,l=>by simp only [aq] at l;subst l;unfold aV;exact .nil
 |a::ks,q::ps,_,l=>by
  obtain⟨u,r,rfl,h1,h2⟩:=l.uncons
  unfold aV;split
  ·exact iY h2
  ·exact .cons h1 (iY h2)
end
theorem mn:∀{xs:List PV} {ns:List Int},intsOf xs=some ns→xs=ns.map .int
 |[],_,e=>by cases e;rfl
 |.int i::r,_,e=>by
  unfold intsOf at e;obtain⟨ns,h1,rfl⟩:=Option.map_eq_some_iff.mp e
  rw [mn h1];rfl
 |.non::_,_,e=>by cases e
 |.bl _::_,_,e=>by cases e
 |.str _::_,_,e=>by cases e
 |.tup _::_,_,e=>by cases e
 |.lst _::_,_,e=>by cases e
 |.exc _::_,_,e=>by cases e
 |.dct _ _::_,_,e=>by cases e
theorem fE{p:PV}{k:List Int}(h:gb p=some k):p=ag k:=by
 unfold gb at h;split at h
 ·rw [mn h];rfl
 ·cases h
end Ci
namespace L2
open PySem PySem.Spec PyProof.Rows
section
variable{X:Cx}
end
end L2
namespace L2
open PySem PySem.Spec PyProof.Rows
section
variable{X:Cx}
end
end L2
namespace Ci
open PySem L2
theorem ip{n:Nat}(h:n≤dg):n≤sizeLine:=Nat.le_trans h (by decide)
section
variable{X:Cx}{W:Wd}{H0 G H:Hp}
def dq(W:Wd)(G H:Hp)(r:PV)(Q:VK):Prop:=∀v G' H',aJ W G H G' H'→Rep W G' r v→Q v H'
theorem dq.at{r:PV}{Q:VK}{v:V}(h:dq W G H r Q)(s:aF G H)(k:Rep W G r v):Q v H:=h v G H (.refl s) k
theorem dq.tup{xs:List PV}{Q:VK}{vs:List V}{p:Addr}(h:dq W G H (.tup xs) Q)(s:aF G H)(k:aq W G xs vs)(hp:H p=none):Q (.ref p) (upd H p (.tup vs)):=
 h _ _ _ (.new s hp) (.t (.inl au) (aq.same (bA (s.free hp)) xs k))
theorem gG{f:PV→PV→Bool}:∀{xs ys:List PV},xs.length≠ys.length→eqs f xs ys=false
 |[],[],h=>absurd rfl h
 |_::xs,_::ys,h=>by simp only [eqs];rw [gG (xs:=xs) (ys:=ys) (fun z=>h (by simp [z]))];simp
 |[],_::_,_=>rfl
 |_::_,[],_=>rfl
theorem gP{f:PV→PV→Bool}:∀{xs ys:List PV},xs.length=ys.length→eqs f xs ys=(List.range xs.length).all fun j=>f (xs.getD j .non) (ys.getD j .non)
 |[],[],_=>rfl
 |x::xs,y::ys,h=>by
  simp only [eqs];rw [gP (xs:=xs) (ys:=ys) (by simpa using h),List.length_cons,List.range_succ_eq_map,List.all_cons,List.all_map]
  rfl
 |[],_::_,h=>by simp at h
 |_::_,[],h=>by simp at h
theorem iw{f:PV→PV→Bool}:∀{xs ys:List PV},((List.range (min xs.length ys.length)).all (fun j=>f (xs.getD j .non) (ys.getD j .non))&&xs.length==ys.length)=eqs f xs ys:=fun{xs ys}=>by
 by_cases h:xs.length=ys.length
 ·rw [gP h,h,Nat.min_self,beq_self_eq_true,Bool.and_true]
 ·rw [gG h,beq_eq_false_iff_ne.mpr h,Bool.and_false]
theorem pH{f:PV→PV→Bool}:∀{xs ys:List PV},xs.length=ys.length→(∀(j:Nat) x y,xs[j]?=some x→ys[j]?=some y→f x y=true)→eqs f xs ys=true
 |[],[],_,_=>rfl
 |x::xs,y::ys,h,k=>by
  simp only [eqs];rw [k 0 x y rfl rfl,pH (xs:=xs) (ys:=ys) (by simpa using h) fun j a b ha hb=>k (j+1) a b (by simpa using ha) (by simpa using hb)]
  rfl
 |[],_::_,h,_=>by simp at h
 |_::_,[],h,_=>by simp at h
theorem eO(hK:W.K=X.K){a:Addr}{vs:List V}(h:LsR W.K H a vs):lI X.K H a vs:=by
 rw [hK] at h;rcases h with h|⟨aE,n,h1,h2,h3⟩
 ·exact .inl h
 ·exact .inr ⟨_,aE,n,h1,rfl,rfl,rfl,h2,h3⟩
theorem gq{pins:List (Addr×Obj)}{σ:St}{s:Shared}(I:Inv X pins σ H s){a:Addr}{vs us:List V}(h1:fD X.K H a vs)(h2:lI X.K H a us):False:=by
 obtain⟨aE,_,⟨o,e,hc,_⟩,_⟩:=I.tuple h1
 obtain⟨aH,_,⟨o2,n,e2,hc2,_⟩,_⟩:=I.list h2
 rw [e] at e2;cases e2;rw [hc] at hc2;exact absurd hc2 (by decide)
theorem sV{pins:List (Addr×Obj)}{σ:St}{s:Shared}(I:Inv X pins σ H s)(hK:W.K=X.K)(sg:aF G H):∀(n:Nat) {p q:PV} {v:V},plain n p=true→plain n q=true→Top W H0 G H p v→Top W H0 G H q v→ir n p q=true:=by
 intro n
 induction n with
 |zero=>
  intro p q v hp hq h1 h2;cases p with
  |non=>
   cases h1.non;cases q with
   |non=>cases h2.non;rfl
   |bl y=>cases h2.bl
   |int y=>cases h2.int
   |str y=>cases h2.str
   |exc c=>exact absurd hq zzf
   |dct a b=>exact absurd hq zzf
   |tup xs=>exact absurd hq zzf
   |lst xs=>exact absurd hq zzf
  |bl x=>
   cases h1.bl;cases q with
   |non=>cases h2.non
   |bl y=>cases h2.bl;exact beq_self_eq_true _
   |int y=>cases h2.int
   |str y=>cases h2.str
   |exc c=>exact absurd hq zzf
   |dct a b=>exact absurd hq zzf
   |tup xs=>exact absurd hq zzf
   |lst xs=>exact absurd hq zzf
  |int x=>
   cases h1.int;cases q with
   |non=>cases h2.non
   |bl y=>cases h2.bl
   |int y=>cases h2.int;exact beq_self_eq_true _
   |str y=>cases h2.str
   |exc c=>exact absurd hq zzf
   |dct a b=>exact absurd hq zzf
   |tup xs=>exact absurd hq zzf
   |lst xs=>exact absurd hq zzf
  |str x=>
   cases h1.str;cases q with
   |non=>cases h2.non
   |bl y=>cases h2.bl
   |int y=>cases h2.int
   |str y=>cases h2.str;exact beq_self_eq_true _
   |exc c=>exact absurd hq zzf
   |dct a b=>exact absurd hq zzf
   |tup xs=>exact absurd hq zzf
   |lst xs=>exact absurd hq zzf
  |exc c=>exact absurd hp zzf
  |dct a b=>exact absurd hp zzf
  |tup xs=>exact absurd hp zzf
  |lst xs=>exact absurd hp zzf
 |succ n ih=>
  intro p q v hp hq h1 h2;have el:∀{xs ys:List PV} {vs:List V},xs.all (plain n)=true→ys.all (plain n)=true→aq W G xs vs→aq W G ys vs→eqs (ir n) xs ys=true:=fun{xs ys vs} a1 a2 l1 l2=>
   pH (by rw [←l1.length,l2.length]) fun j x y ex ey=>by
    obtain⟨u,eu,ku⟩:=l1.getP ex
    obtain⟨y',ey',ky⟩:=l2.get eu
    rw [ey] at ey';cases ey';exact ih (List.all_eq_true.mp a1 _ (List.mem_of_getElem? ex)) (List.all_eq_true.mp a2 _ (List.mem_of_getElem? ey)) (.inl ku) (.inl ky)
  cases p with
  |exc c=>exact absurd hp zzf
  |dct a b=>exact absurd hp zzf
  |tup xs=>
   obtain⟨a,vs,rfl,sq,l⟩:=h1.tup sg
   rw [hK] at sq;cases q with
   |exc c=>exact absurd hq zzf
   |dct a b=>exact absurd hq zzf
   |non=>cases h2.non
   |bl b=>cases h2.bl
   |int b=>cases h2.int
   |str b=>cases h2.str
   |lst ys=>
    obtain⟨b,us,e,sq20,l2⟩:=h2.lst sg
    have br:=eO hK sq20
    cases e;exact(gq I sq br).elim
   |tup ys=>
    obtain⟨b,us,e,br,l2⟩:=h2.tup sg
    rw [hK] at br;cases e;cases I.tuple_inj sq br;exact el hp hq l l2
  |lst xs=>
   obtain⟨a,vs,rfl,sq0,l⟩:=h1.lst sg
   have sq:=eO hK sq0
   cases q with
   |exc c=>exact absurd hq zzf
   |dct a b=>exact absurd hq zzf
   |non=>cases h2.non
   |bl b=>cases h2.bl
   |int b=>cases h2.int
   |str b=>cases h2.str
   |tup ys=>
    obtain⟨b,us,e,br,l2⟩:=h2.tup sg
    rw [hK] at br;cases e;exact(gq I br sq).elim
   |lst ys=>
    obtain⟨b,us,e,sq20,l2⟩:=h2.lst sg
    have br:=eO hK sq20
    cases e;cases I.list_inj sq br;exact el hp hq l l2
  |non=>
   cases h1.non;cases q with
   |non=>cases h2.non;rfl
   |bl y=>cases h2.bl
   |int y=>cases h2.int
   |str y=>cases h2.str
   |tup ys=>obtain⟨b,us,e,_⟩:=h2.tup sg;cases e
   |lst ys=>obtain⟨b,us,e,_⟩:=h2.lst sg;cases e
   |exc c=>exact absurd hq zzf
   |dct a b=>exact absurd hq zzf
  |bl x=>
   cases h1.bl;cases q with
   |non=>cases h2.non
   |bl y=>cases h2.bl;exact beq_self_eq_true _
   |int y=>cases h2.int
   |str y=>cases h2.str
   |tup ys=>obtain⟨b,us,e,_⟩:=h2.tup sg;cases e
   |lst ys=>obtain⟨b,us,e,_⟩:=h2.lst sg;cases e
   |exc c=>exact absurd hq zzf
   |dct a b=>exact absurd hq zzf
  |int x=>
   cases h1.int;cases q with
   |non=>cases h2.non
   |bl y=>cases h2.bl
   |int y=>cases h2.int;exact beq_self_eq_true _
   |str y=>cases h2.str
   |tup ys=>obtain⟨b,us,e,_⟩:=h2.tup sg;cases e
   |lst ys=>obtain⟨b,us,e,_⟩:=h2.lst sg;cases e
   |exc c=>exact absurd hq zzf
   |dct a b=>exact absurd hq zzf
  |str x=>
   cases h1.str;cases q with
   |non=>cases h2.non
   |bl y=>cases h2.bl
   |int y=>cases h2.int
   |str y=>cases h2.str;exact beq_self_eq_true _
   |tup ys=>obtain⟨b,us,e,_⟩:=h2.tup sg;cases e
   |lst ys=>obtain⟨b,us,e,_⟩:=h2.lst sg;cases e
   |exc c=>exact absurd hq zzf
   |dct a b=>exact absurd hq zzf
theorem gU{pins:List (Addr×Obj)}{σ:St}{s:Shared}{A:Around}{p q:PV}{v u:V}{v' u':Value}(hp:plain 0 p=true)(hq:plain 0 q=true)(h1:Top W H0 G H p v)(h2:Top W H0 G H q u)(r1:RelV v v')(r2:RelV u u')(n:Nat):SeqAt.EqAt A s v' u' (ir n p q):=by
 cases p with
 |non=>
  cases h1.non;cases r1;cases q with
  |non=>cases h2.non;cases r2;cases n<;>exact SeqAt.EqAt.same _
  |bl y=>cases h2.bl;cases r2;cases n<;>exact SeqAt.EqAt.none_bool _
  |int y=>cases h2.int;obtain⟨t2,rfl⟩:=r2;cases n<;>exact SeqAt.EqAt.none_int _ _
  |str y=>cases h2.str;obtain⟨t2,rfl⟩:=r2;cases n<;>exact SeqAt.EqAt.none_str _ _
  |exc c=>exact absurd hq zzf
  |dct a b=>exact absurd hq zzf
  |tup xs=>exact absurd hq zzf
  |lst xs=>exact absurd hq zzf
 |bl x=>
  cases h1.bl;cases r1;cases q with
  |non=>cases h2.non;cases r2;cases n<;>exact SeqAt.EqAt.bool_none _
  |bl y=>cases h2.bl;cases r2;cases n<;>exact SeqAt.EqAt.bool_bool _ _
  |int y=>cases h2.int;obtain⟨t2,rfl⟩:=r2;cases n<;>exact SeqAt.EqAt.bool_int _ _ _
  |str y=>cases h2.str;obtain⟨t2,rfl⟩:=r2;cases n<;>exact SeqAt.EqAt.bool_str _ _ _
  |exc c=>exact absurd hq zzf
  |dct a b=>exact absurd hq zzf
  |tup xs=>exact absurd hq zzf
  |lst xs=>exact absurd hq zzf
 |int x=>
  cases h1.int;obtain⟨t1,rfl⟩:=r1
  cases q with
  |non=>cases h2.non;cases r2;cases n<;>exact SeqAt.EqAt.int_none _ _
  |bl y=>cases h2.bl;cases r2;cases n<;>exact SeqAt.EqAt.int_bool _ _ _
  |int y=>cases h2.int;obtain⟨t2,rfl⟩:=r2;cases n<;>exact SeqAt.EqAt.int_int _ _ _ _
  |str y=>cases h2.str;obtain⟨t2,rfl⟩:=r2;cases n<;>exact SeqAt.EqAt.int_str _ _ _ _
  |exc c=>exact absurd hq zzf
  |dct a b=>exact absurd hq zzf
  |tup xs=>exact absurd hq zzf
  |lst xs=>exact absurd hq zzf
 |str x=>
  cases h1.str;obtain⟨t1,rfl⟩:=r1
  cases q with
  |non=>cases h2.non;cases r2;cases n<;>exact SeqAt.EqAt.str_none _ _
  |bl y=>cases h2.bl;cases r2;cases n<;>exact SeqAt.EqAt.str_bool _ _ _
  |int y=>cases h2.int;obtain⟨t2,rfl⟩:=r2;cases n<;>exact SeqAt.EqAt.str_int _ _ _ _
  |str y=>cases h2.str;obtain⟨t2,rfl⟩:=r2;cases n<;>exact SeqAt.EqAt.str_str _ _ _ _
  |exc c=>exact absurd hq zzf
  |dct a b=>exact absurd hq zzf
  |tup xs=>exact absurd hq zzf
  |lst xs=>exact absurd hq zzf
 |exc c=>exact absurd hp zzf
 |dct a b=>exact absurd hp zzf
 |tup xs=>exact absurd hp zzf
 |lst xs=>exact absurd hp zzf
theorem yr{pins:List (Addr×Obj)}{σ:St}{s:Shared}(I:Inv X pins σ H s)(hK:W.K=X.K)(sg:aF G H):∀(n:Nat) {A:Around} {p q:PV} {v u:V} {v' u':Value},A.units+(n+1)<cLine→plain n p=true→plain n q=true→Top W H0 G H p v→Top W H0 G H q u→RelV v v'→RelV u u'→
 SeqAt.EqAt A s v' u' (ir n p q):=by
 intro n
 induction n with
 |zero=>
  intro A p q v u v' u' hu hp hq h1 h2 r1 r2;exact gU (pins:=pins) (σ:=σ) hp hq h1 h2 r1 r2 0
 |succ n ih=>
  intro A p q v u v' u' hu hp hq h1 h2 r1 r2;have cJ:A.units<cLine:=by omega
  have el:∀{xs ys:List PV} {vs us:List V} {aE aH:List Value},xs.all (plain n)=true→ys.all (plain n)=true→aq W G xs vs→aq W G ys us→Vals vs aE→Vals us aH→∀j (h1:j<aE.toArray.size) (h2:j<aH.toArray.size),
   SeqAt.EqAt A.in1 s aE.toArray[j] aH.toArray[j] (ir n (xs.getD j .non) (ys.getD j .non)):=fun{xs ys vs us aE aH} a1 a2 l1 l2 q1 q2 j g1 g2=>by
   obtain⟨x,hx,rx⟩:=ib q1 g1
   obtain⟨y,hy,ry⟩:=ib q2 g2
   obtain⟨px,ex,kx⟩:=l1.get hx
   obtain⟨py,ey,ky⟩:=l2.get hy
   rw [List.getD_eq_getElem?_getD,List.getD_eq_getElem?_getD,ex,ey];exact ih (by show A.units+1+(n+1)<_;omega) (List.all_eq_true.mp a1 _ (List.mem_of_getElem? ex)) (List.all_eq_true.mp a2 _ (List.mem_of_getElem? ey)) (.inl kx) (.inl ky) rx ry
  cases p with
  |exc c=>exact absurd hp zzf
  |dct a b=>exact absurd hp zzf
  |tup xs=>
   have nh:=h1
   obtain⟨a,vs,rfl,sq,l⟩:=h1.tup sg
   rw [hK] at sq;cases r1;obtain⟨aE,q1,z1,_⟩:=I.tuple sq
   have eP:s.heap.IsTuple a aE.toArray:=z1
   cases q with
   |exc c=>exact absurd hq zzf
   |dct a b=>exact absurd hq zzf
   |non=>cases h2.non;cases r2;exact SeqAt.EqAt.tuple_none eP cJ
   |bl b=>cases h2.bl;cases r2;exact SeqAt.EqAt.tuple_bool _ eP cJ
   |int b=>cases h2.int;obtain⟨t2,rfl⟩:=r2;exact SeqAt.EqAt.tuple_int _ _ eP cJ
   |str b=>cases h2.str;obtain⟨t2,rfl⟩:=r2;exact SeqAt.EqAt.tuple_str _ _ eP cJ
   |lst ys=>
    obtain⟨b,us,rfl,sq20,l2⟩:=h2.lst sg
    have br:=eO hK sq20
    cases r2;obtain⟨aH,q2,z2,_⟩:=I.list br
    exact SeqAt.EqAt.tuple_list eP z2.isList cJ
   |tup ys=>
    have sC:=h2
    obtain⟨b,us,rfl,br,l2⟩:=h2.tup sg
    rw [hK] at br;cases r2;obtain⟨aH,q2,z2,_⟩:=I.tuple br
    have m1:aE.length=xs.length:=by rw [←q1.length,l.length]
    have m2:aH.length=ys.length:=by rw [←q2.length,l2.length]
    by_cases fU:a=b
    ·subst fU;rw [sV I hK sg (n+1) hp hq nh sC];exact SeqAt.EqAt.same _
    ·refine SeqAt.EqAt.of_refs fU ?_;have:=SeqAt.RcAt.tuples (e:=fun j=>ir n (xs.getD j .non) (ys.getD j .non)) eP (show s.heap.IsTuple b aH.toArray from z2) cJ (el hp hq l l2 q1 q2)
     rw [List.size_toArray,List.size_toArray,m1,m2,iw] at this;exact this
  |lst xs=>
   have nh:=h1
   obtain⟨a,vs,rfl,sq0,l⟩:=h1.lst sg
   have sq:=eO hK sq0
   cases r1;obtain⟨aE,q1,z1,_⟩:=I.list sq
   cases q with
   |exc c=>exact absurd hq zzf
   |dct a b=>exact absurd hq zzf
   |non=>cases h2.non;cases r2;exact SeqAt.EqAt.list_none z1.isList cJ
   |bl b=>cases h2.bl;cases r2;exact SeqAt.EqAt.list_bool _ z1.isList cJ
   |int b=>cases h2.int;obtain⟨t2,rfl⟩:=r2;exact SeqAt.EqAt.list_int _ _ z1.isList cJ
   |str b=>cases h2.str;obtain⟨t2,rfl⟩:=r2;exact SeqAt.EqAt.list_str _ _ z1.isList cJ
   |tup ys=>
    obtain⟨b,us,rfl,br,l2⟩:=h2.tup sg
    rw [hK] at br;cases r2;obtain⟨aH,q2,z2,_⟩:=I.tuple br
    exact SeqAt.EqAt.list_tuple z1.isList (show s.heap.IsTuple b aH.toArray from z2) cJ
   |lst ys=>
    have sC:=h2
    obtain⟨b,us,rfl,sq20,l2⟩:=h2.lst sg
    have br:=eO hK sq20
    cases r2;obtain⟨aH,q2,z2,_⟩:=I.list br
    have m1:aE.length=xs.length:=by rw [←q1.length,l.length]
    have m2:aH.length=ys.length:=by rw [←q2.length,l2.length]
    by_cases fU:a=b
    ·subst fU;rw [sV I hK sg (n+1) hp hq nh sC];exact SeqAt.EqAt.same _
    ·refine SeqAt.EqAt.of_refs fU ?_
     by_cases hl:xs.length=ys.length
     ·have:=SeqAt.RcAt.lists (e:=fun j=>ir n (xs.getD j .non) (ys.getD j .non)) z1.isList z2.isList (by rw [List.size_toArray,List.size_toArray];omega) cJ (el hp hq l l2 q1 q2)
      rw [List.size_toArray,m1,←gP hl] at this;exact this
     ·have:=SeqAt.RcAt.lists_lengths z1.isList z2.isList (by rw [List.size_toArray,List.size_toArray,m1,m2];simp [hl]) cJ
      show SeqAt.RcAt _ _ _ _ (eqs (ir n) xs ys)
      rw [gG hl];exact this
  |non=>
   have nh:=h1
   cases h1.non;cases r1;cases q with
   |tup ys=>
    obtain⟨b,us,rfl,br,l2⟩:=h2.tup sg
    rw [hK] at br;cases r2;obtain⟨aH,q2,z2,_⟩:=I.tuple br
    exact SeqAt.EqAt.none_tuple (show s.heap.IsTuple b aH.toArray from z2) cJ
   |lst ys=>
    obtain⟨b,us,rfl,sq20,l2⟩:=h2.lst sg
    have br:=eO hK sq20
    cases r2;obtain⟨aH,q2,z2,_⟩:=I.list br
    exact SeqAt.EqAt.none_list z2.isList cJ
   |exc c=>exact absurd hq zzf
   |dct a b=>exact absurd hq zzf
   |_=>exact gU (pins:=pins) (σ:=σ) rfl rfl nh h2 rfl r2 (n+1)
  |bl x=>
   have nh:=h1
   cases h1.bl;cases r1;cases q with
   |tup ys=>
    obtain⟨b,us,rfl,br,l2⟩:=h2.tup sg
    rw [hK] at br;cases r2;obtain⟨aH,q2,z2,_⟩:=I.tuple br
    exact SeqAt.EqAt.bool_tuple _ (show s.heap.IsTuple b aH.toArray from z2) cJ
   |lst ys=>
    obtain⟨b,us,rfl,sq20,l2⟩:=h2.lst sg
    have br:=eO hK sq20
    cases r2;obtain⟨aH,q2,z2,_⟩:=I.list br
    exact SeqAt.EqAt.bool_list _ z2.isList cJ
   |exc c=>exact absurd hq zzf
   |dct a b=>exact absurd hq zzf
   |_=>exact gU (pins:=pins) (σ:=σ) rfl rfl nh h2 rfl r2 (n+1)
  |int x=>
   have nh:=h1
   have IH:=r1
   cases h1.int;obtain⟨t,rfl⟩:=r1
   cases q with
   |tup ys=>
    obtain⟨b,us,rfl,br,l2⟩:=h2.tup sg
    rw [hK] at br;cases r2;obtain⟨aH,q2,z2,_⟩:=I.tuple br
    exact SeqAt.EqAt.int_tuple _ _ (show s.heap.IsTuple b aH.toArray from z2) cJ
   |lst ys=>
    obtain⟨b,us,rfl,sq20,l2⟩:=h2.lst sg
    have br:=eO hK sq20
    cases r2;obtain⟨aH,q2,z2,_⟩:=I.list br
    exact SeqAt.EqAt.int_list _ _ z2.isList cJ
   |exc c=>exact absurd hq zzf
   |dct a b=>exact absurd hq zzf
   |_=>exact gU (pins:=pins) (σ:=σ) rfl rfl nh h2 IH r2 (n+1)
  |str x=>
   have nh:=h1
   have IH:=r1
   cases h1.str;obtain⟨t,rfl⟩:=r1
   cases q with
   |tup ys=>
    obtain⟨b,us,rfl,br,l2⟩:=h2.tup sg
    rw [hK] at br;cases r2;obtain⟨aH,q2,z2,_⟩:=I.tuple br
    exact SeqAt.EqAt.str_tuple _ _ (show s.heap.IsTuple b aH.toArray from z2) cJ
   |lst ys=>
    obtain⟨b,us,rfl,sq20,l2⟩:=h2.lst sg
    have br:=eO hK sq20
    cases r2;obtain⟨aH,q2,z2,_⟩:=I.list br
    exact SeqAt.EqAt.str_list _ _ z2.isList cJ
   |exc c=>exact absurd hq zzf
   |dct a b=>exact absurd hq zzf
   |_=>exact gU (pins:=pins) (σ:=σ) rfl rfl nh h2 IH r2 (n+1)
end
end Ci
namespace Ci
open PySem L2
section
variable{X:Cx}{W:Wd}{H0 G H:Hp}
theorem GH{pins:List (Addr×Obj)}{σ:St}{s:Shared}(I:Inv X pins σ H s)(hK:W.K=X.K)(sg:aF G H)(n:Nat){A:Around}{p q:PV}{v u:V}{v' u':Value}(hu:A.units+(n+2)<cLine)(hp:plain (n+1) p=true)(hq:plain (n+1) q=true)(h1:Top W H0 G H p v)(h2:Top W H0 G H q u)(r1:RelV v v')(r2:RelV u u'):
 SeqAt.RcAt A s v' u' (ir (n+1) p q):=by
 have cJ:A.units<cLine:=by omega
 have el:∀{xs ys:List PV} {vs us:List V} {aE aH:List Value},xs.all (plain n)=true→ys.all (plain n)=true→aq W G xs vs→aq W G ys us→Vals vs aE→Vals us aH→∀j (h1:j<aE.toArray.size) (h2:j<aH.toArray.size),
  SeqAt.EqAt A.in1 s aE.toArray[j] aH.toArray[j] (ir n (xs.getD j .non) (ys.getD j .non)):=fun{xs ys vs us aE aH} a1 a2 l1 l2 q1 q2 j g1 g2=>by
  obtain⟨x,hx,rx⟩:=ib q1 g1
  obtain⟨y,hy,ry⟩:=ib q2 g2
  obtain⟨px,ex,kx⟩:=l1.get hx
  obtain⟨py,ey,ky⟩:=l2.get hy
  rw [List.getD_eq_getElem?_getD,List.getD_eq_getElem?_getD,ex,ey];exact yr (H0:=H0) I hK sg n (by show A.units+1+(n+1)<_;omega) (List.all_eq_true.mp a1 _ (List.mem_of_getElem? ex)) (List.all_eq_true.mp a2 _ (List.mem_of_getElem? ey)) (.inl kx) (.inl ky) rx ry
 cases p with
 |non=>
  cases h1.non;cases r1;cases q with
  |non=>cases h2.non;cases r2;exact SeqAt.RcAt.none_none
  |bl y=>cases h2.bl;cases r2;exact SeqAt.RcAt.none_bool _
  |int y=>cases h2.int;obtain⟨t2,rfl⟩:=r2;exact SeqAt.RcAt.none_int _ _
  |str y=>cases h2.str;obtain⟨t2,rfl⟩:=r2;exact SeqAt.RcAt.none_str _ _
  |tup ys=>
   obtain⟨b,us,rfl,br,l2⟩:=h2.tup sg
   rw [hK] at br;cases r2;obtain⟨aH,q2,z2,_⟩:=I.tuple br
   exact SeqAt.RcAt.none_tuple (show s.heap.IsTuple b aH.toArray from z2) cJ
  |lst ys=>
   obtain⟨b,us,rfl,br,l2⟩:=h2.lst sg
   cases r2;obtain⟨aH,q2,z2,_⟩:=I.list (eO hK br)
   exact SeqAt.RcAt.none_list z2.isList cJ
  |exc c=>exact absurd hq zzf
  |dct a b=>exact absurd hq zzf
 |bl x=>
  cases h1.bl;cases r1;cases q with
  |non=>cases h2.non;cases r2;exact SeqAt.RcAt.bool_none _
  |bl y=>cases h2.bl;cases r2;exact SeqAt.RcAt.bool_bool _ _
  |int y=>cases h2.int;obtain⟨t2,rfl⟩:=r2;exact SeqAt.RcAt.bool_int _ _ _
  |str y=>cases h2.str;obtain⟨t2,rfl⟩:=r2;exact SeqAt.RcAt.bool_str _ _ _
  |tup ys=>
   obtain⟨b,us,rfl,br,l2⟩:=h2.tup sg
   rw [hK] at br;cases r2;obtain⟨aH,q2,z2,_⟩:=I.tuple br
   exact SeqAt.RcAt.bool_tuple _ (show s.heap.IsTuple b aH.toArray from z2) cJ
  |lst ys=>
   obtain⟨b,us,rfl,br,l2⟩:=h2.lst sg
   cases r2;obtain⟨aH,q2,z2,_⟩:=I.list (eO hK br)
   exact SeqAt.RcAt.bool_list _ z2.isList cJ
  |exc c=>exact absurd hq zzf
  |dct a b=>exact absurd hq zzf
 |int x=>
  cases h1.int;obtain⟨t1,rfl⟩:=r1
  cases q with
  |non=>cases h2.non;cases r2;exact SeqAt.RcAt.int_none _ _
  |bl y=>cases h2.bl;cases r2;exact SeqAt.RcAt.int_bool _ _ _
  |int y=>cases h2.int;obtain⟨t2,rfl⟩:=r2;exact SeqAt.RcAt.int_int _ _ _ _
  |str y=>cases h2.str;obtain⟨t2,rfl⟩:=r2;exact SeqAt.RcAt.int_str _ _ _ _
  |tup ys=>
   obtain⟨b,us,rfl,br,l2⟩:=h2.tup sg
   rw [hK] at br;cases r2;obtain⟨aH,q2,z2,_⟩:=I.tuple br
   exact SeqAt.RcAt.int_tuple _ _ (show s.heap.IsTuple b aH.toArray from z2) cJ
  |lst ys=>
   obtain⟨b,us,rfl,br,l2⟩:=h2.lst sg
   cases r2;obtain⟨aH,q2,z2,_⟩:=I.list (eO hK br)
   exact SeqAt.RcAt.int_list _ _ z2.isList cJ
  |exc c=>exact absurd hq zzf
  |dct a b=>exact absurd hq zzf
 |str x=>
  cases h1.str;obtain⟨t1,rfl⟩:=r1
  cases q with
  |non=>cases h2.non;cases r2;exact SeqAt.RcAt.str_none _ _
  |bl y=>cases h2.bl;cases r2;exact SeqAt.RcAt.str_bool _ _ _
  |int y=>cases h2.int;obtain⟨t2,rfl⟩:=r2;exact SeqAt.RcAt.str_int _ _ _ _
  |str y=>cases h2.str;obtain⟨t2,rfl⟩:=r2;exact SeqAt.RcAt.str_str _ _ _ _
  |tup ys=>
   obtain⟨b,us,rfl,br,l2⟩:=h2.tup sg
   rw [hK] at br;cases r2;obtain⟨aH,q2,z2,_⟩:=I.tuple br
   exact SeqAt.RcAt.str_tuple _ _ (show s.heap.IsTuple b aH.toArray from z2) cJ
  |lst ys=>
   obtain⟨b,us,rfl,br,l2⟩:=h2.lst sg
   cases r2;obtain⟨aH,q2,z2,_⟩:=I.list (eO hK br)
   exact SeqAt.RcAt.str_list _ _ z2.isList cJ
  |exc c=>exact absurd hq zzf
  |dct a b=>exact absurd hq zzf
 |tup xs=>
  obtain⟨a,vs,rfl,sq,l⟩:=h1.tup sg
  cases r1;rw [hK] at sq;obtain⟨aE,q1,z1,_⟩:=I.tuple sq
  have eP:s.heap.IsTuple a aE.toArray:=z1
  cases q with
  |non=>cases h2.non;cases r2;exact SeqAt.RcAt.tuple_none eP cJ
  |bl y=>cases h2.bl;cases r2;exact SeqAt.RcAt.tuple_bool _ eP cJ
  |int y=>cases h2.int;obtain⟨t2,rfl⟩:=r2;exact SeqAt.RcAt.tuple_int _ _ eP cJ
  |str y=>cases h2.str;obtain⟨t2,rfl⟩:=r2;exact SeqAt.RcAt.tuple_str _ _ eP cJ
  |exc c=>exact absurd hq zzf
  |dct a b=>exact absurd hq zzf
  |lst ys=>
   obtain⟨b,us,rfl,br,l2⟩:=h2.lst sg
   cases r2;obtain⟨aH,q2,z2,_⟩:=I.list (eO hK br)
   have nL:=z2.isList
   exact SeqAt.RcAt.tuple_list eP nL cJ
  |tup ys=>
   obtain⟨b,us,rfl,br,l2⟩:=h2.tup sg
   cases r2;rw [hK] at br;obtain⟨aH,q2,z2,_⟩:=I.tuple br
   have nL:s.heap.IsTuple b aH.toArray:=z2
   have m1:aE.length=xs.length:=by rw [←q1.length,l.length]
   have m2:aH.length=ys.length:=by rw [←q2.length,l2.length]
   have:=SeqAt.RcAt.tuples (e:=fun j=>ir n (xs.getD j .non) (ys.getD j .non)) eP nL cJ (el hp hq l l2 q1 q2)
   rw [List.size_toArray,List.size_toArray,m1,m2,iw] at this;exact this
 |lst xs=>
  obtain⟨a,vs,rfl,sq,l⟩:=h1.lst sg
  cases r1;obtain⟨aE,q1,z1,_⟩:=I.list (eO hK sq)
  have eP:=z1.isList
  cases q with
  |non=>cases h2.non;cases r2;exact SeqAt.RcAt.list_none eP cJ
  |bl y=>cases h2.bl;cases r2;exact SeqAt.RcAt.list_bool _ eP cJ
  |int y=>cases h2.int;obtain⟨t2,rfl⟩:=r2;exact SeqAt.RcAt.list_int _ _ eP cJ
  |str y=>cases h2.str;obtain⟨t2,rfl⟩:=r2;exact SeqAt.RcAt.list_str _ _ eP cJ
  |exc c=>exact absurd hq zzf
  |dct a b=>exact absurd hq zzf
  |tup ys=>
   obtain⟨b,us,rfl,br,l2⟩:=h2.tup sg
   cases r2;rw [hK] at br;obtain⟨aH,q2,z2,_⟩:=I.tuple br
   have nL:s.heap.IsTuple b aH.toArray:=z2
   exact SeqAt.RcAt.list_tuple eP nL cJ
  |lst ys=>
   obtain⟨b,us,rfl,br,l2⟩:=h2.lst sg
   cases r2;obtain⟨aH,q2,z2,_⟩:=I.list (eO hK br)
   have nL:=z2.isList
   have m1:aE.length=xs.length:=by rw [←q1.length,l.length]
   have m2:aH.length=ys.length:=by rw [←q2.length,l2.length]
   by_cases hl:xs.length=ys.length
   ·have:=SeqAt.RcAt.lists (e:=fun j=>ir n (xs.getD j .non) (ys.getD j .non)) eP nL (by rw [List.size_toArray,List.size_toArray];omega) cJ (el hp hq l l2 q1 q2)
    rw [List.size_toArray,m1,←gP hl] at this;exact this
   ·have:=SeqAt.RcAt.lists_lengths eP nL (by rw [List.size_toArray,List.size_toArray,m1,m2];simp [hl]) cJ
    show SeqAt.RcAt _ _ _ _ (eqs (ir n) xs ys)
    rw [gG hl];exact this
 |exc c=>exact absurd hp zzf
 |dct a b=>exact absurd hp zzf
theorem zQ{pins:List (Addr×Obj)}{σ:St}{s:Shared}(I:Inv X pins σ H s)(hK:W.K=X.K)(sg:aF G H)(n:Nat){A:Around}{p q:PV}{v u:V}{v' u':Value}(hu:A.units+(n+2)<cLine)(hp:plain (n+1) p=true)(hq:plain (n+1) q=true)(h1:Top W H0 G H p v)(h2:Top W H0 G H q u)(r1:RelV v v')(r2:RelV u u'):
 SeqAt.RcNeAt A s v' u' (!ir (n+1) p q):=by
 have cJ:A.units<cLine:=by omega
 have el:∀{xs ys:List PV} {vs us:List V} {aE aH:List Value},xs.all (plain n)=true→ys.all (plain n)=true→aq W G xs vs→aq W G ys us→Vals vs aE→Vals us aH→∀j (h1:j<aE.toArray.size) (h2:j<aH.toArray.size),
  SeqAt.EqAt A.in1 s aE.toArray[j] aH.toArray[j] (ir n (xs.getD j .non) (ys.getD j .non)):=fun{xs ys vs us aE aH} a1 a2 l1 l2 q1 q2 j g1 g2=>by
  obtain⟨x,hx,rx⟩:=ib q1 g1
  obtain⟨y,hy,ry⟩:=ib q2 g2
  obtain⟨px,ex,kx⟩:=l1.get hx
  obtain⟨py,ey,ky⟩:=l2.get hy
  rw [List.getD_eq_getElem?_getD,List.getD_eq_getElem?_getD,ex,ey];exact yr (H0:=H0) I hK sg n (by show A.units+1+(n+1)<_;omega) (List.all_eq_true.mp a1 _ (List.mem_of_getElem? ex)) (List.all_eq_true.mp a2 _ (List.mem_of_getElem? ey)) (.inl kx) (.inl ky) rx ry
 cases p with
 |non=>
  cases h1.non;cases r1;cases q with
  |non=>cases h2.non;cases r2;exact SeqAt.RcNeAt.none_none
  |bl y=>cases h2.bl;cases r2;exact SeqAt.RcNeAt.none_bool _
  |int y=>cases h2.int;obtain⟨t2,rfl⟩:=r2;exact SeqAt.RcNeAt.none_int _ _
  |str y=>cases h2.str;obtain⟨t2,rfl⟩:=r2;exact SeqAt.RcNeAt.none_str _ _
  |tup ys=>
   obtain⟨b,us,rfl,br,l2⟩:=h2.tup sg
   rw [hK] at br;cases r2;obtain⟨aH,q2,z2,_⟩:=I.tuple br
   exact SeqAt.RcNeAt.none_tuple (show s.heap.IsTuple b aH.toArray from z2) cJ
  |lst ys=>
   obtain⟨b,us,rfl,br,l2⟩:=h2.lst sg
   cases r2;obtain⟨aH,q2,z2,_⟩:=I.list (eO hK br)
   exact SeqAt.RcNeAt.none_list z2.isList cJ
  |exc c=>exact absurd hq zzf
  |dct a b=>exact absurd hq zzf
 |bl x=>
  cases h1.bl;cases r1;cases q with
  |non=>cases h2.non;cases r2;exact SeqAt.RcNeAt.bool_none _
  |bl y=>cases h2.bl;cases r2;exact SeqAt.RcNeAt.bool_bool _ _
  |int y=>cases h2.int;obtain⟨t2,rfl⟩:=r2;exact SeqAt.RcNeAt.bool_int _ _ _
  |str y=>cases h2.str;obtain⟨t2,rfl⟩:=r2;exact SeqAt.RcNeAt.bool_str _ _ _
  |tup ys=>
   obtain⟨b,us,rfl,br,l2⟩:=h2.tup sg
   rw [hK] at br;cases r2;obtain⟨aH,q2,z2,_⟩:=I.tuple br
   exact SeqAt.RcNeAt.bool_tuple _ (show s.heap.IsTuple b aH.toArray from z2) cJ
  |lst ys=>
   obtain⟨b,us,rfl,br,l2⟩:=h2.lst sg
   cases r2;obtain⟨aH,q2,z2,_⟩:=I.list (eO hK br)
   exact SeqAt.RcNeAt.bool_list _ z2.isList cJ
  |exc c=>exact absurd hq zzf
  |dct a b=>exact absurd hq zzf
 |int x=>
  cases h1.int;obtain⟨t1,rfl⟩:=r1
  cases q with
  |non=>cases h2.non;cases r2;exact SeqAt.RcNeAt.int_none _ _
  |bl y=>cases h2.bl;cases r2;exact SeqAt.RcNeAt.int_bool _ _ _
  |int y=>cases h2.int;obtain⟨t2,rfl⟩:=r2;exact SeqAt.RcNeAt.int_int _ _ _ _
  |str y=>cases h2.str;obtain⟨t2,rfl⟩:=r2;exact SeqAt.RcNeAt.int_str _ _ _ _
  |tup ys=>
   obtain⟨b,us,rfl,br,l2⟩:=h2.tup sg
   rw [hK] at br;cases r2;obtain⟨aH,q2,z2,_⟩:=I.tuple br
   exact SeqAt.RcNeAt.int_tuple _ _ (show s.heap.IsTuple b aH.toArray from z2) cJ
  |lst ys=>
   obtain⟨b,us,rfl,br,l2⟩:=h2.lst sg
   cases r2;obtain⟨aH,q2,z2,_⟩:=I.list (eO hK br)
   exact SeqAt.RcNeAt.int_list _ _ z2.isList cJ
  |exc c=>exact absurd hq zzf
  |dct a b=>exact absurd hq zzf
 |str x=>
  cases h1.str;obtain⟨t1,rfl⟩:=r1
  cases q with
  |non=>cases h2.non;cases r2;exact SeqAt.RcNeAt.str_none _ _
  |bl y=>cases h2.bl;cases r2;exact SeqAt.RcNeAt.str_bool _ _ _
  |int y=>cases h2.int;obtain⟨t2,rfl⟩:=r2;exact SeqAt.RcNeAt.str_int _ _ _ _
  |str y=>cases h2.str;obtain⟨t2,rfl⟩:=r2;exact SeqAt.RcNeAt.str_str _ _ _ _
  |tup ys=>
   obtain⟨b,us,rfl,br,l2⟩:=h2.tup sg
   rw [hK] at br;cases r2;obtain⟨aH,q2,z2,_⟩:=I.tuple br
   exact SeqAt.RcNeAt.str_tuple _ _ (show s.heap.IsTuple b aH.toArray from z2) cJ
  |lst ys=>
   obtain⟨b,us,rfl,br,l2⟩:=h2.lst sg
   cases r2;obtain⟨aH,q2,z2,_⟩:=I.list (eO hK br)
   exact SeqAt.RcNeAt.str_list _ _ z2.isList cJ
  |exc c=>exact absurd hq zzf
  |dct a b=>exact absurd hq zzf
 |tup xs=>
  obtain⟨a,vs,rfl,sq,l⟩:=h1.tup sg
  cases r1;rw [hK] at sq;obtain⟨aE,q1,z1,_⟩:=I.tuple sq
  have eP:s.heap.IsTuple a aE.toArray:=z1
  cases q with
  |non=>cases h2.non;cases r2;exact SeqAt.RcNeAt.tuple_none eP cJ
  |bl y=>cases h2.bl;cases r2;exact SeqAt.RcNeAt.tuple_bool _ eP cJ
  |int y=>cases h2.int;obtain⟨t2,rfl⟩:=r2;exact SeqAt.RcNeAt.tuple_int _ _ eP cJ
  |str y=>cases h2.str;obtain⟨t2,rfl⟩:=r2;exact SeqAt.RcNeAt.tuple_str _ _ eP cJ
  |exc c=>exact absurd hq zzf
  |dct a b=>exact absurd hq zzf
  |lst ys=>
   obtain⟨b,us,rfl,br,l2⟩:=h2.lst sg
   cases r2;obtain⟨aH,q2,z2,_⟩:=I.list (eO hK br)
   have nL:=z2.isList
   exact SeqAt.RcNeAt.tuple_list eP nL cJ
  |tup ys=>
   obtain⟨b,us,rfl,br,l2⟩:=h2.tup sg
   cases r2;rw [hK] at br;obtain⟨aH,q2,z2,_⟩:=I.tuple br
   have nL:s.heap.IsTuple b aH.toArray:=z2
   have m1:aE.length=xs.length:=by rw [←q1.length,l.length]
   have m2:aH.length=ys.length:=by rw [←q2.length,l2.length]
   have:=SeqAt.RcNeAt.tuples (e:=fun j=>ir n (xs.getD j .non) (ys.getD j .non)) eP nL cJ (el hp hq l l2 q1 q2)
   rw [List.size_toArray,List.size_toArray,m1,m2,iw] at this;exact this
 |lst xs=>
  obtain⟨a,vs,rfl,sq,l⟩:=h1.lst sg
  cases r1;obtain⟨aE,q1,z1,_⟩:=I.list (eO hK sq)
  have eP:=z1.isList
  cases q with
  |non=>cases h2.non;cases r2;exact SeqAt.RcNeAt.list_none eP cJ
  |bl y=>cases h2.bl;cases r2;exact SeqAt.RcNeAt.list_bool _ eP cJ
  |int y=>cases h2.int;obtain⟨t2,rfl⟩:=r2;exact SeqAt.RcNeAt.list_int _ _ eP cJ
  |str y=>cases h2.str;obtain⟨t2,rfl⟩:=r2;exact SeqAt.RcNeAt.list_str _ _ eP cJ
  |exc c=>exact absurd hq zzf
  |dct a b=>exact absurd hq zzf
  |tup ys=>
   obtain⟨b,us,rfl,br,l2⟩:=h2.tup sg
   cases r2;rw [hK] at br;obtain⟨aH,q2,z2,_⟩:=I.tuple br
   have nL:s.heap.IsTuple b aH.toArray:=z2
   exact SeqAt.RcNeAt.list_tuple eP nL cJ
  |lst ys=>
   obtain⟨b,us,rfl,br,l2⟩:=h2.lst sg
   cases r2;obtain⟨aH,q2,z2,_⟩:=I.list (eO hK br)
   have nL:=z2.isList
   have m1:aE.length=xs.length:=by rw [←q1.length,l.length]
   have m2:aH.length=ys.length:=by rw [←q2.length,l2.length]
   by_cases hl:xs.length=ys.length
   ·have:=SeqAt.RcNeAt.lists (e:=fun j=>ir n (xs.getD j .non) (ys.getD j .non)) eP nL (by rw [List.size_toArray,List.size_toArray];omega) cJ (el hp hq l l2 q1 q2)
    rw [List.size_toArray,m1,←gP hl] at this;exact this
   ·have:=SeqAt.RcNeAt.lists_lengths eP nL (by rw [List.size_toArray,List.size_toArray,m1,m2];simp [hl]) cJ
    show SeqAt.RcNeAt _ _ _ _ (!eqs (ir n) xs ys)
    rw [gG hl];exact this
 |exc c=>exact absurd hp zzf
 |dct a b=>exact absurd hp zzf
end
end Ci
namespace Ci
open PySem L2
section
variable{X:Cx}{W:Wd}
theorem FC(hK:W.K=X.K){pins:List (Addr×Obj)}{σ:St}{H:Hp}{s:Shared}{a:Addr}{xs:List V}(I:Inv X pins σ H s)(h:LsR W.K H a xs):∃(aE:List Value) (n:Nat),Vals xs aE∧xs.length=aE.length∧xs.length≤sizeLine∧s.heap.get? a=some {cls:=.type "list",data:=.seq aE.toArray n}:=by
 rw [hK] at h;rcases h with h|⟨aE,n,h1,h2,h3⟩
 ·obtain⟨z,aE,n,r,e⟩:=h.ok I.hok
  exact⟨aE,n,r,r.length,z,e⟩
 ·refine⟨aE.toList,n,h3,h3.length,?_,by simpa using I.kIn a _ h1⟩;rw [h3.length,Array.length_toList];exact h2
theorem AI:fJ X (binaryOp .Add) (fun x y H Q=>∃a b xs ys,x=.ref a∧y=.ref b∧fD X.K H a xs∧fD X.K H b ys∧xs.length+ys.length≤sizeLine∧(xs=[]→Q (.ref b) H)∧(ys=[]→Q (.ref a) H)∧∀p,H p=none→Q (.ref p) (upd H p (.tup (xs++ys)))):=by
 intro pins s σ H x y v u Q I rx ry h;obtain⟨a,b,xs,ys,rfl,rfl,ha,hb,hz,q1,q2,q3⟩:=h
 cases rx;cases ry
 by_cases hx:xs=[]
 ·subst hx;obtain⟨aE,r1,p1,_⟩:=I.tuple ha
  obtain⟨aH,r2,p2,_⟩:=I.tuple hb
  have e1:aE=[]:=r1.nil_iff.mpr rfl
  subst e1;obtain⟨⟨cls,dd,data,sl⟩,ho,hc,n,hd⟩:=id p1
  obtain⟨⟨cls2,dd2,data2,sl2⟩,vz,hc2,n2,hd2⟩:=id p2
  simp only at hc hd hc2 hd2;subst hc hd hc2 hd2;exact PySem.concat_meets ⟨_,ho,rfl⟩ ⟨_,vz,rfl⟩ PySem.noFill_tuple_add PySem.seq_tuple_add PySem.F.slot_tuple_add PySem.F.entry_tuple_add (PySem.F.args_tuple_add_2 _ _)
   (PyProof.Rows.tuple_addW0 a b ([]:List Value).toArray aH.toArray n n2 dd dd2 sl sl2 (by simp)) ⟨ho,vz,⟨.ref b,H,I,rfl,q1 rfl⟩⟩
 ·refine yX pins s σ H (.ref a) (.ref b) (.ref a) (.ref b) Q I rfl rfl ⟨a,b,xs,ys,rfl,rfl,ha,hb,hx,hz,fun e=>q2 e,fun _ p hp=>q3 p hp⟩
def Jw:E5→Operator
 |.add=>.Add|.sub=>.Sub|.mul=>.Mult|.mod=>.Mod|.fdiv=>.FloorDiv
noncomputable def sZ(W:Wd)(f:PV→PV→Res PV):R2:=fun x y H Q=>∃H0 G p q r,aF G H∧Top W H0 G H p x∧Top W H0 G H q y∧f p q=.ok r∧dq W G H r Q
theorem EF(hK:W.K=X.K)(o:E5):fJ X (binaryOp (Jw o)) (sZ W (binOp o)):=by
 intro pins s σ H x y v u Q I rx ry h;obtain⟨H0,G,p,q,r,sg,t1,t2,e,wq⟩:=h
 unfold binOp at e;split at e
 ·cases e;exact Ee pins s σ H x y v u Q I rx ry ⟨_,_,t1.int,t2.int,wq.at sg .i⟩
 ·split at e
  ·rename_i hl;cases e;exact q9 pins s σ H x y v u Q I rx ry ⟨_,_,t1.str,t2.str,ip hl,wq.at sg .s⟩
  ·cases e
 ·split at e
  ·rename_i hl;cases e;have ME:=t1
   have MD:=t2
   obtain⟨a,vs,rfl,h1,l1⟩:=t1.tup sg
   obtain⟨b,us,rfl,h2,l2⟩:=t2.tup sg
   rw [hK] at h1 h2;have m1:=l1.length
   have m2:=l2.length
   refine AI pins s σ H _ _ v u Q I rx ry ⟨a,b,vs,us,rfl,rfl,h1,h2,by rw [m1,m2];exact ip hl,fun z=>?_,fun z=>?_,fun p hp=>wq.tup sg (l1.append l2) hp⟩
   ·subst z;rename_i xs ys;have:xs=[]:=List.length_eq_zero_iff.mp m1.symm
    subst this;exact wq.at sg (MD.elim id fun z=>z.elim)
   ·subst z;rename_i xs ys;have:ys=[]:=List.length_eq_zero_iff.mp m2.symm
    subst this;rw [List.append_nil] at wq;exact wq.at sg (ME.elim id fun z=>z.elim)
  ·cases e
 ·cases e;exact CK pins s σ H x y v u Q I rx ry ⟨_,_,t1.int,t2.int,wq.at sg .i⟩
 ·split at e
  ·rename_i hc;cases e;refine DS pins s σ H x y v u Q I rx ry ⟨_,_,t1.int,t2.int,?_,wq.at sg .i⟩;rw [Bool.or_eq_true] at hc;unfold aR at hc;simp only [Bool.and_eq_true,decide_eq_true_eq] at hc;exact hc
  ·cases e
 ·split at e
  ·rename_i hc;cases e;exact B2 pins s σ H x y v u Q I rx ry ⟨_,_,t1.int,t2.int,hc,wq.at sg .i⟩
  ·cases e
 ·split at e
  ·rename_i hc;cases e;exact Bg pins s σ H x y v u Q I rx ry ⟨_,_,t1.int,t2.int,hc,wq.at sg .i⟩
  ·cases e
 ·cases e
theorem zU:Ij X (unaryOp .USub) (fun x H Q=>∃(H0 G:Hp) (i:Int),aF G H∧Top W H0 G H (.int i) x∧dq W G H (.int (-i)) Q):=by
 intro pins s σ H x v Q I rx h;obtain⟨H0,G,i,sg,t,wq⟩:=h
 exact DE pins s σ H x v Q I rx ⟨i,t.int,wq.at sg .i⟩
def oC:yk→CmpOp
 |.eq=>.Eq|.ne=>.NotEq|.lt=>.Lt|.le=>.LtE|.gt=>.Gt|.isn=>.IsNot|.in_=>.In|.nin=>.NotIn
theorem pg{pins:List (Addr×Obj)}{σ:St}{H G:Hp}{s:Shared}{Q:VK}{k:Bool}(I:Inv X pins σ H s)(sg:aF G H)(wq:dq W G H (.bl k) Q):EP X pins σ Q (.bool k) s:=⟨.bl k,H,I,rfl,wq.at sg .b⟩
theorem CF(hK:W.K=X.K)(hu:X.A.units+64<cLine):fJ X (compareOp .Eq) (sZ W fX):=by
 intro pins s σ H x y v u Q I rx ry h;obtain⟨H0,G,p,q,r,sg,t1,t2,e,wq⟩:=h
 unfold fX at e;split at e
 ·rename_i hc;rw [Bool.and_eq_true] at hc;cases e;exact GH I hK sg 8 (by omega) hc.1 hc.2 t1 t2 rx ry _ _ _ _ (pg I sg wq)
 ·cases e
theorem ED(hK:W.K=X.K)(hu:X.A.units+64<cLine):fJ X (compareOp .NotEq) (sZ W gR):=by
 intro pins s σ H x y v u Q I rx ry h;obtain⟨H0,G,p,q,r,sg,t1,t2,e,wq⟩:=h
 unfold gR at e;split at e
 ·rename_i hc;rw [Bool.and_eq_true] at hc;cases e;exact zQ I hK sg 8 (by omega) hc.1 hc.2 t1 t2 rx ry _ _ _ _ (pg I sg wq)
 ·cases e
theorem Res.of_ok{α:Type}{o:Option α}{a:α}(h:Res.of o=.ok a):o=some a:=by
 cases o with
 |none=>cases h
 |some b=>cases h;rfl
theorem Ct(hK:W.K=X.K)(hu:X.A.units+64<cLine):fJ X (compareOp .Lt) (sZ W pO):=by
 intro pins s σ H x y v u Q I rx ry h;obtain⟨H0,G,p,q,r,sg,t1,t2,e,wq⟩:=h
 unfold pO at e;split at e
 ·cases e;exact FD pins s σ H x y v u Q I rx ry ⟨_,_,t1.int,t2.int,wq.at sg .b⟩
 ·cases e
theorem CI:fJ X (compareOp .LtE) (sZ W oR):=by
 intro pins s σ H x y v u Q I rx ry h;obtain⟨H0,G,p,q,r,sg,t1,t2,e,wq⟩:=h
 unfold oR at e;split at e
 ·cases e;exact FJ pins s σ H x y v u Q I rx ry ⟨_,_,t1.int,t2.int,wq.at sg .b⟩
 ·cases e
theorem Ed:fJ X (compareOp .Gt) (sZ W rB):=by
 intro pins s σ H x y v u Q I rx ry h;obtain⟨H0,G,p,q,r,sg,t1,t2,e,wq⟩:=h
 unfold rB at e;split at e
 ·cases e;exact Hh pins s σ H x y v u Q I rx ry ⟨_,_,t1.int,t2.int,wq.at sg .b⟩
 ·cases e
theorem uX{H0 G H:Hp}{p:PV}{x:V}(sg:aF G H)(t:Top W H0 G H p x):decide (x=.non)=BS p:=by
 cases p with
 |non=>cases t.non;rfl
 |bl b=>cases t.bl;rfl
 |int b=>cases t.int;rfl
 |str b=>cases t.str;rfl
 |tup b=>obtain⟨a,vs,rfl,_⟩:=t.tup sg;rfl
 |lst b=>obtain⟨a,vs,rfl,_⟩:=t.lst sg;rfl
 |dct b c=>obtain⟨a,vs,rfl,_⟩:=t.dct sg;rfl
 |exc c=>
  rcases t with t|t
  ·simp only [Rep] at t;obtain⟨a,C,rfl,_⟩:=t
   rfl
  ·exact t.elim
theorem zI:fJ X (compareOp .IsNot) (sZ W fK):=by
 intro pins s σ H x y v u Q I rx ry h;obtain⟨H0,G,p,q,r,sg,t1,t2,e,wq⟩:=h
 unfold fK at e;split at e
 ·cases e;refine zu pins s σ H x y v u Q I rx ry ⟨t2.non,?_⟩;rw [uX sg t1];exact wq.at sg .b
 ·cases e
end
end Ci
namespace Ci
open PySem L2
theorem gZ{α:Type}:∀{xs ys:List α},xs.length=ys.length→(∀(j:Nat) x y,xs[j]?=some x→ys[j]?=some y→x=y)→xs=ys
 |[],[],_,_=>rfl
 |x::xs,y::ys,h,k=>by rw [k 0 x y rfl rfl,gZ (xs:=xs) (ys:=ys) (by simpa using h) fun j a b ha hb=>k (j+1) a b (by simpa using ha) (by simpa using hb)]
 |[],_::_,h,_=>by simp at h
 |_::_,[],h,_=>by simp at h
section
variable{X:Cx}{W:Wd}{H0 G H:Hp}
theorem Be{pins:List (Addr×Obj)}{σ:St}{s:Shared}(I:Inv X pins σ H s)(hK:W.K=X.K)(sg:aF G H):∀(n:Nat) {p q:PV} {v:V},plain n p=true→plain n q=true→Top W H0 G H p v→Top W H0 G H q v→p=q:=by
 intro n
 induction n with
 |zero=>
  intro p q v hp hq h1 h2;cases p with
  |non=>
   cases h1.non;cases q with
   |non=>cases h2.non;rfl
   |bl y=>cases h2.bl
   |int y=>cases h2.int
   |str y=>cases h2.str
   |exc c=>exact absurd hq zzf
   |dct a b=>exact absurd hq zzf
   |tup xs=>exact absurd hq zzf
   |lst xs=>exact absurd hq zzf
  |bl x=>
   cases h1.bl;cases q with
   |non=>cases h2.non
   |bl y=>cases h2.bl;rfl
   |int y=>cases h2.int
   |str y=>cases h2.str
   |exc c=>exact absurd hq zzf
   |dct a b=>exact absurd hq zzf
   |tup xs=>exact absurd hq zzf
   |lst xs=>exact absurd hq zzf
  |int x=>
   cases h1.int;cases q with
   |non=>cases h2.non
   |bl y=>cases h2.bl
   |int y=>cases h2.int;rfl
   |str y=>cases h2.str
   |exc c=>exact absurd hq zzf
   |dct a b=>exact absurd hq zzf
   |tup xs=>exact absurd hq zzf
   |lst xs=>exact absurd hq zzf
  |str x=>
   cases h1.str;cases q with
   |non=>cases h2.non
   |bl y=>cases h2.bl
   |int y=>cases h2.int
   |str y=>cases h2.str;rfl
   |exc c=>exact absurd hq zzf
   |dct a b=>exact absurd hq zzf
   |tup xs=>exact absurd hq zzf
   |lst xs=>exact absurd hq zzf
  |exc c=>exact absurd hp zzf
  |dct a b=>exact absurd hp zzf
  |tup xs=>exact absurd hp zzf
  |lst xs=>exact absurd hp zzf
 |succ n ih=>
  intro p q v hp hq h1 h2;have el:∀{xs ys:List PV} {vs:List V},xs.all (plain n)=true→ys.all (plain n)=true→aq W G xs vs→aq W G ys vs→xs=ys:=fun{xs ys vs} a1 a2 l1 l2=>
   gZ (by rw [←l1.length,l2.length]) fun j x y ex ey=>by
    obtain⟨u,eu,ku⟩:=l1.getP ex
    obtain⟨y',ey',ky⟩:=l2.get eu
    rw [ey] at ey';cases ey';exact ih (List.all_eq_true.mp a1 _ (List.mem_of_getElem? ex)) (List.all_eq_true.mp a2 _ (List.mem_of_getElem? ey)) (.inl ku) (.inl ky)
  cases p with
  |exc c=>exact absurd hp zzf
  |dct a b=>exact absurd hp zzf
  |tup xs=>
   obtain⟨a,vs,rfl,sq,l⟩:=h1.tup sg
   rw [hK] at sq;cases q with
   |exc c=>exact absurd hq zzf
   |dct a b=>exact absurd hq zzf
   |non=>cases h2.non
   |bl b=>cases h2.bl
   |int b=>cases h2.int
   |str b=>cases h2.str
   |lst ys=>
    obtain⟨b,us,e,sq20,l2⟩:=h2.lst sg
    have br:=eO hK sq20
    cases e;exact(gq I sq br).elim
   |tup ys=>
    obtain⟨b,us,e,br,l2⟩:=h2.tup sg
    rw [hK] at br;cases e;cases I.tuple_inj sq br;rw [el hp hq l l2]
  |lst xs=>
   obtain⟨a,vs,rfl,sq0,l⟩:=h1.lst sg
   have sq:=eO hK sq0
   cases q with
   |exc c=>exact absurd hq zzf
   |dct a b=>exact absurd hq zzf
   |non=>cases h2.non
   |bl b=>cases h2.bl
   |int b=>cases h2.int
   |str b=>cases h2.str
   |tup ys=>
    obtain⟨b,us,e,br,l2⟩:=h2.tup sg
    rw [hK] at br;cases e;exact(gq I br sq).elim
   |lst ys=>
    obtain⟨b,us,e,sq20,l2⟩:=h2.lst sg
    have br:=eO hK sq20
    cases e;cases I.list_inj sq br;rw [el hp hq l l2]
  |non=>
   cases h1.non;cases q with
   |non=>cases h2.non;rfl
   |bl y=>cases h2.bl
   |int y=>cases h2.int
   |str y=>cases h2.str
   |tup ys=>obtain⟨b,us,e,_⟩:=h2.tup sg;cases e
   |lst ys=>obtain⟨b,us,e,_⟩:=h2.lst sg;cases e
   |exc c=>exact absurd hq zzf
   |dct a b=>exact absurd hq zzf
  |bl x=>
   cases h1.bl;cases q with
   |non=>cases h2.non
   |bl y=>cases h2.bl;rfl
   |int y=>cases h2.int
   |str y=>cases h2.str
   |tup ys=>obtain⟨b,us,e,_⟩:=h2.tup sg;cases e
   |lst ys=>obtain⟨b,us,e,_⟩:=h2.lst sg;cases e
   |exc c=>exact absurd hq zzf
   |dct a b=>exact absurd hq zzf
  |int x=>
   cases h1.int;cases q with
   |non=>cases h2.non
   |bl y=>cases h2.bl
   |int y=>cases h2.int;rfl
   |str y=>cases h2.str
   |tup ys=>obtain⟨b,us,e,_⟩:=h2.tup sg;cases e
   |lst ys=>obtain⟨b,us,e,_⟩:=h2.lst sg;cases e
   |exc c=>exact absurd hq zzf
   |dct a b=>exact absurd hq zzf
  |str x=>
   cases h1.str;cases q with
   |non=>cases h2.non
   |bl y=>cases h2.bl
   |int y=>cases h2.int
   |str y=>cases h2.str;rfl
   |tup ys=>obtain⟨b,us,e,_⟩:=h2.tup sg;cases e
   |lst ys=>obtain⟨b,us,e,_⟩:=h2.lst sg;cases e
   |exc c=>exact absurd hq zzf
   |dct a b=>exact absurd hq zzf
theorem rT{pins:List (Addr×Obj)}{σ:St}{s:Shared}(I:Inv X pins σ H s)(hK:W.K=X.K)(sg:aF G H){A:Around}{a:PV}{x:V}{x':Value}{ys:List PV}{us:List V}{aE:List Value}(hu:A.units+32<cLine)(ha:pln a=true)(hy:ys.all pln=true)(ta:Top W H0 G H a x)(rx:RelV x x')(l:aq W G ys us)(r:Vals us aE):
 ∃e:Value→Bool,(∀y∈aE,SeqAt.EqAt A s y x' (e y))∧∀(j:Nat) (y:Value) (p:PV),aE[j]?=some y→ys[j]?=some p→e y=eqv p a:=by
 classical
 have key:∀(j:Nat) (y:Value),aE[j]?=some y→∃p u,ys[j]?=some p∧us[j]?=some u∧Rep W G p u∧RelV u y∧pln p=true:=fun j y e=>by
  have hj:=(List.getElem?_eq_some_iff.mp e).1
  have hl:=r.length
  obtain⟨u,EV,HP⟩:=r.get (i:=j) (x:=us[j]'(by omega)) (List.getElem?_eq_getElem (by omega))
  rw [e] at EV;cases EV;obtain⟨p,hp,kp⟩:=l.get (List.getElem?_eq_getElem (show j<us.length by omega))
  exact⟨p,_,hp,List.getElem?_eq_getElem (by omega),kp,HP,List.all_eq_true.mp hy p (List.mem_of_getElem? hp)⟩
 refine⟨fun y=>if h:∃(j:Nat) (p:PV),aE[j]?=some y∧ys[j]?=some p then eqv h.choose_spec.choose a else false,fun y Ay=>?_,fun j y p e1 e2=>?_⟩
 ·obtain⟨j,hj,e⟩:=List.getElem_of_mem Ay
  have ej:aE[j]?=some y:=by rw [List.getElem?_eq_getElem hj,e]
  obtain⟨p,u,h1,h2,h3,h4,h5⟩:=key j y ej
  have hex:∃(j:Nat) (p:PV),aE[j]?=some y∧ys[j]?=some p:=⟨j,p,ej,h1⟩
  dsimp only;rw [dif_pos hex];have sp:=hex.choose_spec.choose_spec
  obtain⟨p2,u2,g1,g2,g3,g4,g5⟩:=key _ y sp.1
  have e3:hex.choose_spec.choose=p2:=Option.some.inj (sp.2.symm.trans g1)
  rw [e3];exact yr (H0:=H0) I hK sg 9 (by omega) g5 ha (.inl g3) ta g4 rx
 ·have hex:∃(j:Nat) (p:PV),aE[j]?=some y∧ys[j]?=some p:=⟨j,p,e1,e2⟩
  dsimp only;rw [dif_pos hex];obtain⟨p1,u1,f1,f2,f3,f4,f5⟩:=key j y e1
  rw [e2] at f1;cases f1;have sp:=hex.choose_spec.choose_spec
  obtain⟨p2,u2,g1,g2,g3,g4,g5⟩:=key _ y sp.1
  have e3:hex.choose_spec.choose=p2:=Option.some.inj (sp.2.symm.trans g1)
  have e4:u1=u2:=f4.inj g4
  subst e4;rw [e3,Be I hK sg DP g5 f5 (.inl g3:Top W H0 G H p2 u1) (.inl f3)]
theorem x8{aE:List Value}{ys:List PV}{e:Value→Bool}{f:PV→Bool}:aE.length=ys.length→(∀(j:Nat) (y:Value) (p:PV),aE[j]?=some y→ys[j]?=some p→e y=f p)→aE.any e=ys.any f:=by
 intro hl h;have:aE.map e=ys.map f:=gZ (by simpa using hl) fun j x y hx hy=>by
  rw [List.getElem?_map] at hx hy;obtain⟨a,ha,rfl⟩:=Option.map_eq_some_iff.mp hx
  obtain⟨b,hb,rfl⟩:=Option.map_eq_some_iff.mp hy
  exact h j a b ha hb
 calc aE.any e=(aE.map e).any id:=by rw [List.any_map];rfl
  _=(ys.map f).any id:=by rw [this]
  _=ys.any f:=by rw [List.any_map];rfl
theorem EG(hK:W.K=X.K)(hu:X.A.units+64<cLine):fJ X (compareOp .In) (sZ W m5):=by
 intro pins s σ H x y v u Q I rx ry h;obtain⟨H0,G,p,q,r,sg,t1,t2,e,wq⟩:=h
 have EV:X.A.in1.units+32<cLine:=by show X.A.units+1+32<_;omega
 unfold m5 at e;split at e
 ·split at e
  ·rename_i hc;rw [Bool.and_eq_true] at hc;cases e;obtain⟨b,us,rfl,q2,l2⟩:=t2.tup sg
   rw [hK] at q2;cases ry;obtain⟨aE,rv,z,_⟩:=I.tuple q2
   obtain⟨e,he,hv⟩:=rT I hK sg EV hc.1 hc.2 t1 rx l2 rv
   refine SeqAt.in_tupleAt e (show s.heap.IsTuple b aE.toArray from z) (fun y hy=>he y (by simpa using hy)) ?_
   have:=x8 (by rw [←rv.length,l2.length]) hv
   rw [List.any_toArray,this];exact pg I sg wq
  ·cases e
 ·cases e
theorem AG(hK:W.K=X.K)(hu:X.A.units+64<cLine):fJ X (compareOp .NotIn) (sZ W eE):=by
 intro pins s σ H x y v u Q I rx ry h;obtain⟨H0,G,p,q,r,sg,t1,t2,e,wq⟩:=h
 have EV:X.A.in1.units+32<cLine:=by show X.A.units+1+32<_;omega
 unfold eE at e;split at e
 ·split at e
  ·rename_i hc;rw [Bool.and_eq_true] at hc;cases e;obtain⟨b,us,rfl,q2,l2⟩:=t2.lst sg
   cases ry;obtain⟨aE,rv,z,_⟩:=I.list (eO hK q2)
   obtain⟨e,he,hv⟩:=rT I hK sg EV hc.1 hc.2 t1 rx l2 rv
   refine SeqAt.notIn_listAt e z.isList (fun y hy=>he y (by simpa using hy)) ?_
   have:=x8 (by rw [←rv.length,l2.length]) hv
   rw [List.any_toArray,this];exact pg I sg wq
  ·cases e
 ·obtain⟨k,hk,e⟩:=Res.bind_ok e
  cases e;have hk:=fE (Res.of_ok hk)
  subst hk;obtain⟨b,rfl,hb⟩:=t1.tupI (ns:=k) sg rfl
  obtain⟨a,us,rfl,n,hd,l⟩:=t2.dct sg
  cases ry;refine Ag (show X.A.units+1<cLine by omega) I (.inr ⟨_,ki k,b,hd,rfl,(by rw [qW];exact sg _ _ hb),rfl⟩) rx fun s' I'=>?_
  rw [iW,nt k _ us n];exact pg I' sg wq
 ·cases e
theorem fw(hK:W.K=X.K)(hu:X.A.units+64<cLine):∀o:yk,fJ X (compareOp (oC o)) (sZ W (da o))
 |.eq=>CF hK hu|.ne=>ED hK hu|.lt=>Ct hK hu|.le=>CI|.gt=>Ed|.isn=>zI|.in_=>EG hK hu|.nin=>AG hK hu
theorem su{ps:List PV}{vs:List V}{i:Int}{p:PV}(l:aq W G ps vs)(h:oE ps i=some p):∃v,oE vs i=some v∧Rep W G p v:=by
 unfold oE at h⊢;rw [l.length];cases e:Bs ps.length i with
 |none=>rw [e] at h;cases h
 |some j=>
  rw [e] at h;exact l.getP h
theorem CM(hu:X.A.units+1<cLine):E4 X (fun x y H Q=>∃a aD k b v,x=.ref a∧Rd H a (.dT aD)∧y=.ref b∧H b=some (.tup (k.map kV))∧fF aD k=some v∧Q v H):=by
 intro value slice pins s σ H x y v u Q I rx ry h hs;obtain⟨a,aD,k,b,z,rfl,hd,rfl,hb,hv,q⟩:=h
 cases rx;cases ry;obtain⟨_,_,xs,rel,dd⟩:=i8 I.hok hd
 obtain⟨w',hw,gX⟩:=iI.some_of (v:=z) (o:=(atKey xs k).map (·.2)) (by rw [←hv];exact rel.val k)
 obtain⟨p,hp,hp2⟩:=Option.map_eq_some_iff.mp hw
 exact PyProof.Rows.subscriptTail_builtinR (x:=w') dd.typeIs PySem.F.slot_dict_getitem.lookup (wpAny_getItem_heap (Q:=fun r s'=>r=w'∧EP X pins σ Q r s') (tupleKind_room_in1 hu) (fQ I.hok hb) dd hp ⟨hp2,by rw [hp2];exact⟨z,H,I.tok _,gX,q⟩⟩) hs
theorem JC(hK:W.K=X.K)(hu:X.A.units+64<cLine):E4 X (sZ W aQ):=by
 intro value slice pins s σ H x y v u Q I rx ry h hs;obtain⟨H0,G,p,q,r,sg,t1,t2,e,wq⟩:=h
 unfold aQ at e;split at e
 ·obtain⟨a,vs,rfl,h1,l1⟩:=t1.lst sg
  obtain⟨w,hw,kw⟩:=su l1 (Res.of_ok e)
  exact yS value slice pins s σ H _ y v u Q I rx ry ⟨a,vs,_,w,rfl,t2.int,eO hK h1,hw,wq.at sg kw⟩ hs
 ·obtain⟨a,vs,rfl,h1,l1⟩:=t1.tup sg
  rw [hK] at h1;obtain⟨w,hw,kw⟩:=su l1 (Res.of_ok e)
  exact v3 value slice pins s σ H _ y v u Q I rx ry ⟨a,vs,_,w,rfl,t2.int,h1,hw,wq.at sg kw⟩ hs
 ·split at e
  ·rename_i hl;obtain⟨c,hc,e⟩:=Res.bind_ok e
   cases e;exact D7 value slice pins s σ H x y v u Q I rx ry ⟨_,_,c,t1.str,t2.int,ip hl,Res.of_ok hc,wq.at sg .s⟩ hs
  ·cases e
 ·obtain⟨k,hk,e2⟩:=Res.bind_ok e
  have hk:=fE (Res.of_ok hk)
  subst hk;obtain⟨b,rfl,hb⟩:=t2.tupI (ns:=k) sg rfl
  obtain⟨a,us,rfl,n,hd,l⟩:=t1.dct sg
  obtain⟨w,hw,kw⟩:=mD l (Res.of_ok e2)
  exact CM (by omega) value slice pins s σ H _ _ v u Q I rx ry ⟨a,_,ki k,b,w,rfl,hd,rfl,(by rw [qW];exact sg _ _ hb),(by rw [iW];exact hw),wq.at sg kw⟩ hs
 ·cases e
theorem zq{ps:List PV}{vs:List V}(lo hi:Option Int)(l:aq W G ps vs):aq W G (n5 ps lo hi) (t9 vs lo hi):=by
 unfold n5 t9;rw [l.length];exact(l.drop _).take _
theorem J9(hK:W.K=X.K):L2.SlR X (fun x lo hi H Q=>∃H0 G p r,aF G H∧Top W H0 G H p x∧dM p lo hi=.ok r∧dq W G H r Q):=by
 intro pins s σ H x v vl vu lo hi sl Q I rx hs pl pu h;obtain⟨H0,G,p,r,sg,t1,e,wq⟩:=h
 unfold dM at e;split at e
 ·split at e
  ·cases e
  ·rename_i hw;cases e;obtain⟨a,vs,rfl,h1,l1⟩:=t1.tup sg
   rw [hK] at h1;exact Ec pins s σ H _ v vl vu _ _ sl Q I rx hs pl pu ⟨a,vs,rfl,h1,by rw [l1.length];exact hw,fun p hp=>wq.tup sg (zq _ _ l1) hp⟩
 ·split at e
  ·rename_i hl;cases e;exact DU pins s σ H _ v vl vu _ _ sl Q I rx hs pl pu ⟨_,t1.str,ip hl,wq.at sg .s⟩
  ·cases e
 ·cases e
end
end Ci
namespace Ci
open PySem L2
section
variable{X:Cx}{W:Wd}
def Aw(W:Wd)(f:List PV→Res PV):List V→Hp→VK→Prop:=fun vs H Q=>∃H0 G ps r,aF G H∧Paired (fun v p=>Top W H0 G H p v) vs ps∧f ps=.ok r∧dq W G H r Q
theorem fL{H0 G H:Hp}{vs:List V}{p:PV}(h:Paired (fun v p=>Top W H0 G H p v) vs [p]):∃v,vs=[v]∧Top W H0 G H p v:=by
 cases h with
 |cons h t=>cases t;exact⟨_,rfl,h⟩
theorem FL{H0 G H:Hp}{vs:List V}{p q:PV}(h:Paired (fun v p=>Top W H0 G H p v) vs [p,q]):∃v u,vs=[v,u]∧Top W H0 G H p v∧Top W H0 G H q u:=by
 cases h with
 |cons h t=>
  cases t with
  |cons h2 t2=>cases t2;exact⟨_,_,rfl,h,h2⟩
theorem vd(hK:W.K=X.K):cU X (.builtin "len") (Aw W qH):=by
 intro pins s σ H xs us Q I r h;obtain⟨H0,G,ps,rr,sg,tp,e,wq⟩:=h
 unfold qH at e;split at e
 ·cases e;obtain⟨v,rfl,t⟩:=fL tp
  obtain⟨a,vs,rfl,h1,l1⟩:=t.lst sg
  exact gN pins s σ H _ us Q I r ⟨a,vs,rfl,.inl (eO hK h1),by rw [l1.length];exact wq.at sg .i⟩
 ·cases e;obtain⟨v,rfl,t⟩:=fL tp
  obtain⟨a,vs,rfl,h1,l1⟩:=t.tup sg
  rw [hK] at h1;exact gN pins s σ H _ us Q I r ⟨a,vs,rfl,.inr h1,by rw [l1.length];exact wq.at sg .i⟩
 ·split at e
  ·rename_i hl;cases e;obtain⟨v,rfl,t⟩:=fL tp
   exact nk pins s σ H _ us Q I r ⟨_,by rw [t.str],ip hl,wq.at sg .i⟩
  ·cases e
 ·cases e;obtain⟨v,rfl,t⟩:=fL tp
  obtain⟨a,us',rfl,n,hd,l⟩:=t.dct sg
  obtain⟨u,rfl,ru⟩:=vals1 r
  cases ru;exact Cq I hd fun t s' I'=>⟨.int _,H,I',⟨t,rfl⟩,by rw [fT n];exact wq.at sg .i⟩
 ·cases e
theorem uw:cU X (.builtin "abs") (Aw W wV):=by
 intro pins s σ H xs us Q I r h;obtain⟨H0,G,ps,rr,sg,tp,e,wq⟩:=h
 unfold wV at e;split at e
 ·cases e;obtain⟨v,rfl,t⟩:=fL tp
  exact vD pins s σ H _ us Q I r ⟨_,by rw [t.int],wq.at sg .i⟩
 ·cases e
theorem uZ(hc:X.calm=true):cU X (.builtin "max") (Aw W v7):=by
 intro pins s σ H xs us Q I r h;obtain⟨H0,G,ps,rr,sg,tp,e,wq⟩:=h
 unfold v7 at e;split at e
 ·cases e;obtain⟨v,u,rfl,t,t2⟩:=FL tp
  exact tO hc pins s σ H _ us Q I r ⟨_,_,by rw [t.int,t2.int],wq.at sg .i⟩
 ·cases e
theorem uU:cU X (.type "int") (Aw W wo):=by
 intro pins s σ H xs us Q I r h;obtain⟨H0,G,ps,rr,sg,tp,e,wq⟩:=h
 unfold wo at e;split at e
 ·split at e
  ·rename_i hl;obtain⟨n,hn,e⟩:=Res.bind_ok e
   cases e;obtain⟨v,rfl,t⟩:=fL tp
   exact oh pins s σ H _ us Q I r ⟨_,n,by rw [t.str],Res.of_ok hn,hl,wq.at sg .i⟩
  ·cases e
 ·cases e
theorem tJ:cU X (.type "str") (Aw W wW):=by
 intro pins s σ H xs us Q I r h;obtain⟨H0,G,ps,rr,sg,tp,e,wq⟩:=h
 unfold wW at e;split at e
 ·split at e
  ·rename_i hl;cases e;obtain⟨v,rfl,t⟩:=fL tp
   exact my pins s σ H _ us Q I r ⟨_,by rw [t.int],hl,wq.at sg .s⟩
  ·cases e
 ·cases e
theorem qi(hK:W.K=X.K):cU X (.type "tuple") (Aw W jf):=by
 intro pins s σ H xs us Q I r h;obtain⟨H0,G,ps,rr,sg,tp,e,wq⟩:=h
 unfold jf at e;split at e
 ·cases e;obtain⟨v,rfl,t⟩:=fL tp
  obtain⟨a,vs,rfl,h1,l1⟩:=t.lst sg
  exact kP pins s σ H _ us Q I r ⟨a,vs,rfl,.inl ⟨eO hK h1,fun p hp=>wq.tup sg l1 hp⟩⟩
 ·cases e
def qv:Ty→String
 |.int=>"int"|.bool=>"bool"|.tuple=>"tuple"
theorem GK{K:PySem.W.Frag}(t:Ty):Cw.kit K "NoneType" (qv t) false∧(∀b,Cw.kit K "bool" (qv t) (aw t (.bl b)))∧(∀i,Cw.kit K "int" (qv t) (aw t (.int i)))∧(∀z,Cw.kit K "str" (qv t) (aw t (.str z)))∧(∀z,Cw.kit K "tuple" (qv t) (aw t (.tup z)))∧(∀z,Cw.kit K "list" (qv t) (aw t (.lst z))):=by
 cases t
 all_goals refine⟨?_,fun b=>?_,fun b=>?_,fun b=>?_,fun b=>?_,fun b=>?_⟩
 all_goals first
  |exact Cw.kit_same _
  |exact Cw.kit_of (b:=false) (by decide+kernel) (by decide+kernel) (by decide+kernel)
  |exact Cw.kit_of (b:=true) (by decide+kernel) (by decide+kernel) (by decide+kernel)
theorem xA(hK:W.K=X.K)(t:Ty):cU X (.builtin "isinstance") (fun xs H Q=>∃v H0 G p r,xs=[v,.ty (qv t)]∧aF G H∧Top W H0 G H p v∧ax t p=.ok r∧dq W G H r Q):=by
 intro pins s σ H xs us Q I rr h;obtain⟨v,H0,G,p,r,rfl,sg,tp,e,wq⟩:=h
 obtain⟨u,u2,rfl,ru,ru2⟩:=Vals.two rr
 cases ru2;obtain⟨k1,k2,k3,k4,k5,k6⟩:=GK (K:=X.K) t
 cases p with
 |exc c=>cases e
 |dct a b=>cases e
 |non=>cases e;cases tp.non;cases ru;cases t<;>exact PySem.W.kia_one PySem.W.kitx_none I.kIn True.intro k1 (fun z=>nomatch z) fun tk=>⟨.bl _,H,I.tok tk,rfl,wq.at sg .b⟩
 |bl b=>cases e;cases tp.bl;cases ru;exact PySem.W.kia_one PySem.W.kitx_bool I.kIn True.intro (k2 b) (fun z=>nomatch z) fun tk=>⟨.bl _,H,I.tok tk,rfl,wq.at sg .b⟩
 |int b=>cases e;cases tp.int;obtain⟨t1,rfl⟩:=ru;exact PySem.W.kia_one PySem.W.kitx_int I.kIn True.intro (k3 b) (fun z=>nomatch z) fun tk=>⟨.bl _,H,I.tok tk,rfl,wq.at sg .b⟩
 |str b=>cases e;cases tp.str;obtain⟨t1,rfl⟩:=ru;exact PySem.W.kia_one PySem.W.kitx_str I.kIn True.intro (k4 b) (fun z=>nomatch z) fun tk=>⟨.bl _,H,I.tok tk,rfl,wq.at sg .b⟩
 |tup b=>
  cases e;obtain⟨a,vs,rfl,h1,l1⟩:=tp.tup sg
  rw [hK] at h1;cases ru;obtain⟨aE,_,⟨o,e1,e2,_⟩,_⟩:=I.tuple h1
  exact PySem.W.kia_one PySem.W.kitx_tuple I.kIn ⟨o,e1,e2⟩ (k5 b) (fun z=>nomatch z) fun tk=>⟨.bl _,H,I.tok tk,rfl,wq.at sg .b⟩
 |lst b=>
  cases e;obtain⟨a,vs,rfl,h1,l1⟩:=tp.lst sg
  cases ru;obtain⟨aE,n,_,_,_,e1⟩:=FC hK I h1
  exact PySem.W.kia_one PySem.W.kitx_list I.kIn ⟨_,e1,rfl⟩ (k6 b) (fun z=>nomatch z) fun tk=>⟨.bl _,H,I.tok tk,rfl,wq.at sg .b⟩
end
end Ci
namespace Ci
open PySem L2
section
variable{W:Wd}{X:Cx}{G H:Hp}
theorem ng{k:List Int}{v:V}(h:Rep W G (ag k) v):∃b,v=.ref b∧G b=some (.tup (k.map V.int)):=Top.tupI (H0:=G) (aF.refl G) rfl (.inl h)
theorem sD{K:PySem.W.Frag}(sg:aF G H):∀{xs:List PV} {nss:List (List Int)} {vs:List V},jy xs=some nss→aq W G xs vs→nss.all (fun k=>!k.isEmpty)=true→nu K H vs nss
 |[],_,_,e,l,_=>by cases e;simp only [aq] at l;subst l;exact .nil
 |x::xs,nss,vs,e,l,ne=>by
  unfold jy at e;obtain⟨k,hk,e⟩:=Option.bind_eq_some_iff.mp e
  obtain⟨r,hr,rfl⟩:=Option.map_eq_some_iff.mp e
  obtain⟨v,vr,rfl,h1,h2⟩:=l.uncons
  rw [List.all_cons,Bool.and_eq_true] at ne;rw [fE hk] at h1;obtain⟨b,rfl,hb⟩:=ng h1
  exact .cons ⟨b,rfl,.inl (.inl (sg _ _ hb)),fun z=>by rw [z] at ne;exact absurd ne.1 (by decide)⟩ (sD sg hr h2 ne.2)
theorem sO{ps:List PV}{vs:List V}{nss:List (List Int)}(l:aq W G ps vs):aq W G (jx .non ps nss) (jx V.non vs nss):=by
 unfold jx;rw [l.length];split
 ·exact l
 ·have go:∀ix:List Nat,aq W G (ix.map fun i=>ps.getD i .non) (ix.map fun i=>vs.getD i V.non):=by
   intro ix
   induction ix with
   |nil=>exact .nil
   |cons i ix ih=>
    refine .cons ?_ ih;dsimp only
    by_cases hi:i<ps.length
    ·obtain⟨v,hv,rv⟩:=l.getP (List.getElem?_eq_getElem hi)
     have e1:ps.getD i .non=ps[i]:=by simp [hi]
     have e2:vs.getD i V.non=v:=by simp [hv]
     rw [e1,e2];exact rv
    ·have e1:ps.getD i .non=.non:=by simp [Nat.le_of_not_lt hi]
     have e2:vs.getD i V.non=.non:=by simp [Nat.le_of_not_lt (l.length▸hi)]
     rw [e1,e2];exact .n
  exact go _
theorem ik:∀{vs:List V} {nss:List (List Int)} {G:Hp},aF G H→Paired (fun v ns=>∃b,v=V.ref b∧H b=some (.tup (ns.map V.int))) vs nss→∃G',aJ W G H G' H∧aq W G' (nss.map ag) vs
 |_,_,G,sg,.nil=>⟨G,.refl sg,.nil⟩
 |_,_,G,sg,.cons (b:=ns) h t=>by
  obtain⟨b,rfl,hb⟩:=h
  have g1:=aJ.adopt (W:=W) sg hb
  obtain⟨G2,g2,l⟩:=ik g1.sub t
  refine⟨G2,g1.trans g2,.cons (Rep.same g2.g _ ?_) l⟩;refine .t (.inl au) ?_;have go:∀ns:List Int,aq W (upd G b (.tup (ns.map V.int))) (ns.map .int) (ns.map V.int)∧True:=fun _=>⟨by
   rename_i ns';have all:∀(G':Hp) (l:List Int),aq W G' (l.map .int) (l.map V.int):=fun G' l=>by
    induction l with
    |nil=>exact .nil
    |cons x l ih=>exact .cons .i ih
   exact all _ _,trivial⟩
  exact(go ns).1
theorem mO(hK:W.K=X.K)(hc:X.calm=true):cU X (.builtin "sorted") (Aw W gj):=by
 intro pins s σ H xs us Q I r h;obtain⟨H0,G,ps,rr,sg,tp,e,wq⟩:=h
 unfold gj at e;split at e
 ·obtain⟨nss,hn,e⟩:=Res.bind_ok e
  split at e
  ·rename_i hb;rw [Bool.and_eq_true,decide_eq_true_eq] at hb;cases e;obtain⟨v,rfl,t⟩:=fL tp
   obtain⟨a,vs,rfl,h1,l1⟩:=t.lst sg
   exact mH pins s σ H _ us Q I r ⟨a,vs,nss,rfl,eO hK h1,sD sg (Res.of_ok hn) l1 hb.2,by rw [l1.length];exact hb.1,fun p hp=>wq _ _ _ (.new sg hp) (.l (.inl (.inl au)) (aq.same (bA (sg.free hp)) _ (sO l1)))⟩
  ·cases e
 ·split at e
  ·rename_i ks oG hb;rw [Bool.and_eq_true,decide_eq_true_eq] at hb;cases e;obtain⟨v,rfl,t⟩:=fL tp
   obtain⟨a,us',rfl,n,hd,l⟩:=t.dct sg
   refine m6 hc pins s σ H _ us Q I r ⟨a,_,ks,rfl,hd,tD n,fun ns hm z=>?_,by rw [fT n];exact hb.1,fun p vs hp pv=>?_⟩
   ·have:=List.all_eq_true.mp hb.2 ns hm
    rw [z] at this;exact absurd this (by decide)
   ·obtain⟨G1,g1,l1⟩:=ik (W:=W) sg pv
    exact wq _ _ _ (g1.trans (.new g1.sub hp)) (.l (.inl (.inl au)) (aq.same (bA (g1.sub.free hp)) _ (sO l1)))
  ·cases e
 ·cases e
end
end Ci
namespace L2
open PySem PySem.Spec PyProof.Rows
section
variable{X:Cx}{scope:Scope}{xs ys:List Str}{is:List Nat}
theorem nq{i₀:Nat}{x₀:Str}{pos' eJ:Pos}{elt tg iter B6:Expr}{pos:Pos}{wi:TI}{g:TG}{te:TE}{tt:TT}(hN₀:X.N.Nodup)(hi₀:X.N[i₀]?=some x₀)(hx₀:Loc X.env.scope x₀)(hc:X.calm=true)(S:dX X scope xs ys is)(hi:PI X tg iter wi)
 (hg:∀fp s1 H1 C,PG (bP X (xs++ys) scope (bz X.env ys) fp s1 H1 C) tg g) (ht:∀fp s1 H1 C,PT (bP X (xs++ys) scope (bz X.env ys) fp s1 H1 C) B6 tt) (he:∀fp s1 H1 C,PE (bP X (xs++ys) scope (bz X.env ys) fp s1 H1 C) elt te)
 (vU:swapsWith (.ListComp elt [⟨tg,iter,[B6],0⟩] scope pos) (some (.Name x₀ pos')) eJ.line X.env=pure true:=by rfl)
 (hs:∀x,foldedSetIterable iter X.env x=pure x:=by intro _;rfl) (hf₀:X.fn x₀=true∨X.env.scope.names.lookup x₀=some .local:=by first|exact .inl rfl|exact .inr rfl|assumption):
 PS X (.Assign [.Name x₀ pos'] (.ListComp elt [⟨tg,iter,[B6],0⟩] scope pos) eJ) (Ad (iU wi xs.length g tt te is) (fM i₀)):=by
 intro pins s σ H D₀ I h;rw [exec_Assign_Name_used _ _ _ _ vU];refine wpAny_bind (wpAny_standAt (wpAny_bind ?_));show wpAny _ X.A (do let _←comprehension (.ListComp elt [⟨tg,iter,[B6],0⟩] scope pos) scope X.env _ (newList []) false (eval iter X.env) (some (assign (.Name x₀ pos') X.env))) _ _ s;refine wpAny_bind (wpAny_mono (fC (QQ:=fun _ s'=>∃σ2 H2,Inv X pins σ2 H2 s'∧D₀.nx σ2 H2) (Q:=fun v H4=>fM i₀ v σ H4 D₀.nx) hc S hi hg (fun fp s1 H1 C=>sY (ht fp s1 H1 C)) he hs I h fun D C s4 H4 m I5 hn ⟨g0,g1,_,g3,g4,g5⟩ q=>?_) (fun _ s' hq=>wpAny_pure (wpAny_pure hq)) fun _ _ e=>e)
 refine wpAny_assign_Name (iz I5 hN₀ hi₀ hx₀ (show RelV (.ref D) (.ref D) from rfl) (fun s6 I6 ⟨a6,sb6,ha6⟩=>?_) hf₀);have Ej:C≠a6:=by
  rcases ha6 with z|z
  ·rw [z];exact g1
  ·exact fun z2=>g4 _ _ z z2.symm
 exact⟨m,hn.sameBut sb6 Ej,fun h' uT=>⟨_,_,I6.turned (t':=s6.toks) (it:=C) (fun b o hb e=>uT.extBut b o hb e) g0 g1 g3 g4 g5,q⟩⟩
end
end L2
namespace L2
open PySem PySem.Spec PyProof.Rows
open PySem.AutoSeq1 (wpAny_loadPart')
section
variable{prog:Program}{w:World}{A:Around}{E:Value→Shared→Prop}{s:Shared}{jt tu:Addr}{i:Nat}{aE:Array Value}{Q:Value→Shared→Prop}
theorem iJ{x:Value}(ih:s.heap.IsTupleIter jt tu i)(th:s.heap.IsTuple tu aE)(hx:aE[i]?=some x)
 (k:∀g,g.IsTupleIter jt tu (i+1)→Heap.SameBut jt s.heap g→Q x {s with heap:=g}):wpAny (model prog w) A (Builtin.SmallTypes.nextOf (.ref jt)) Q E s:=by
 obtain⟨ob,e1,e2,e3⟩:=id ih
 obtain⟨ot,f1,_,nn,f2⟩:=th
 unfold Builtin.SmallTypes.nextOf;refine wpAny_bind (wpAny_callSpecial?_slot (name:=Str.ofString "__next__") ih.typeIs F.slot_tuple_iterator_next (wpAny_call_entry F.slot_tuple_iterator_next ih.typeIs F.entry_tuple_iterator_next ?_ (F.args_tuple_iterator_next_1 _)));show wpAny _ _ (field (.ref jt) 0>>=_) _ _ s;refine wpAny_bind (wpAny_field e1 e3 (x:=.ref tu) rfl ?_);show wpAny _ _ (if(Value.ref tu==Value.none)=true then _ else _) _ _ s;rw [if_neg (show¬((Value.ref tu==Value.none)=true) from zzf)];show wpAny _ _ (field (.ref jt) 1>>=_) _ _ s;refine wpAny_bind (wpAny_field e1 e3 (x:=.int i 0) rfl ?_);show wpAny _ _ (seqItems? (.ref tu)>>=_) _ _ s;refine wpAny_bind (wpAny_seqItems f1 f2 ?_);simp only [Int.toNat_natCast,hx];refine wpAny_bind (wpAny_setField e1 e3 (by simp) (wpAny_pure ⟨x,rfl,wpAny_pure (k _ ?_ (Heap.SameBut.update ..))⟩));exact⟨_,Heap.get?_update_self _ e1 (Obj.isFreed_of_fields (Obj.data_mapFields e3 _)),(Obj.cls_mapFields ..).trans e2,by rw [Obj.data_mapFields e3];simp [rawInt]⟩
theorem jw(hh:A.handled=none)(ih:s.heap.IsTupleIter jt tu i)(th:s.heap.IsTuple tu aE)(hx:aE[i]?=none)
 (k:∀g e,Heap.ExtBut jt s.heap g→(∃o,g.get? e=some o∧o.cls=.type "StopIteration")→E (.ref e) {s with heap:=g}):wpAny (model prog w) A (Builtin.SmallTypes.nextOf (.ref jt)) Q E s:=by
 obtain⟨ob,e1,e2,e3⟩:=id ih
 obtain⟨ot,f1,_,nn,f2⟩:=th
 unfold Builtin.SmallTypes.nextOf;refine wpAny_bind (wpAny_callSpecial?_slot (name:=Str.ofString "__next__") ih.typeIs F.slot_tuple_iterator_next (wpAny_call_entry F.slot_tuple_iterator_next ih.typeIs F.entry_tuple_iterator_next ?_ (F.args_tuple_iterator_next_1 _)));show wpAny _ _ (field (.ref jt) 0>>=_) _ _ s;refine wpAny_bind (wpAny_field e1 e3 (x:=.ref tu) rfl ?_);show wpAny _ _ (if(Value.ref tu==Value.none)=true then _ else _) _ _ s;rw [if_neg (show¬((Value.ref tu==Value.none)=true) from zzf)];show wpAny _ _ (field (.ref jt) 1>>=_) _ _ s;refine wpAny_bind (wpAny_field e1 e3 (x:=.int i 0) rfl ?_);show wpAny _ _ (seqItems? (.ref tu)>>=_) _ _ s;refine wpAny_bind (wpAny_seqItems f1 f2 ?_);simp only [Int.toNat_natCast,hx];refine wpAny_bind (wpAny_rule (wpAny_bind (wpAny_setField e1 e3 (by simp) ?_)));show wpAny _ _ (newExc (.type "StopIteration") []>>=_) _ _ _;refine wpAny_bind ?_;simp only [newExc,newTuple];refine wpAny_bind (wpAny_newObj_type ?_ (by size_fits));refine wpAny_bind (m:=firstArgMember _ _) (wpAny_of_eq (a:=Value.none) (by first|rfl|(simp only [firstArgMember];rfl)) ?_);refine wpAny_newObj_type ?_ (by size_fits);simp only [raiseNew];refine wpAny_bind (wpAny_handled ?_)
 first|rw [show A.in1.handled=none from hh]|rw [hh]
 refine wpAny_bind (wpAny_pure (wpAny_throw ?_));exact k _ _ (((Heap.SameBut.update ..).extBut.push _).push _) ⟨_,Heap.get?_push_size _ rfl,rfl⟩
end
theorem me{prog:Program}{w:World}{A:Around}(hh:A.handled=none)(jt tu:Addr)(fU:tu≠jt)(aE:Array Value):
 Draws prog w A jt [jt,tu] aE.size (fun i v=>aE[i]?=some v) (fun i h=>h.IsTupleIter jt tu i∧h.IsTuple tu aE) where
 live:=fun _ _ st=>let⟨o,ho,_⟩:=st.1;⟨o,ho⟩
 frame:=fun _ _ _ st hk=>⟨st.1.at fun o e=>hk jt (by simp) o e,by obtain⟨o,e,r⟩:=st.2;exact⟨o,hk tu (by simp) o e,r⟩⟩
 item:=fun i s Q E hi st hQ=>iJ st.1 st.2 (x:=aE[i]) (by simp [hi]) fun g ig sb=>hQ _ g s.toks (by simp [hi]) ⟨ig,by obtain⟨o,e,r⟩:=st.2;exact⟨o,sb.extBut _ _ fU e,r⟩⟩ sb
 done:=fun s Q E st hE=>jw hh st.1 st.2 (by simp) hE
theorem ux(l:Addr)(items:Array Value)(n:Nat)(dct:Option Addr)(sl:Array (Option Value)):
 Meets (Builtin.«enumerate.__new__» ⟨[.type "enumerate",.ref l],[]⟩) (fun _ R s=>s.heap.get? l=some {cls:=.type "tuple",dict:=dct,data:=.seq items n,slots:=sl}∧
  R (.ok (.ret (.ref (s.heap.push {cls:=.type "tuple_iterator",data:=.fields #[.ref l,.int 0 0]}).objs.size)))
   {s with heap:=(s.heap.push {cls:=.type "tuple_iterator",data:=.fields #[.ref l,.int 0 0]}).push {cls:=.type "enumerate",data:=.fields #[.none,.bool false,.ref s.heap.objs.size,rawInt 0,.none,.none]}}):=
 .of_wp fun prog w A R s h=>by
  obtain⟨hp,g,d,tk,os⟩:=s
  obtain⟨hl,h⟩:=h
  have LZ:=sub_enumerate
  have hL:Heap.IsTuple (Shared.heap ⟨hp,g,d,tk,os⟩) l items:=⟨_,hl,rfl,n,rfl⟩
  wp_walk using wpAny_loadPart' hl
  refine wpAny_stack_any fun st=>wpAny_pure ?_
  split
  ·rename_i c _ _ _ _ _;cases(c==Value.type "enumerate")<;>(wp_walk using wpAny_loadPart' hl,wpAny_pyIter_tuple hL;exact⟨_,rfl,h⟩)
  ·wp_walk using wpAny_loadPart' hl,wpAny_pyIter_tuple hL
   exact⟨_,rfl,h⟩
end L2
namespace L2
open PySem PySem.Spec PyProof.Rows
theorem jj{h:Heap}{a b:Addr}{o1 o2:Obj}(h1:h.get? a=some o1)(h2:h.get? b=some o2)(hc:o1.cls≠o2.cls):a≠b:=fun z=>by
 subst z;rw [h1] at h2;cases h2;exact hc rfl
theorem dY(z:Str):strIterType z="str_ascii_iterator"∨strIterType z="str_iterator":=by
 unfold strIterType;split
 ·exact .inl rfl
 ·exact .inr rfl
theorem lC{X:Cx}{pins:List (Addr×Obj)}{σ:St}{H:Hp}{s:Shared}{E:Value→Shared→Prop}{e it:Addr}{Lc:List Addr}{n i:Nat}{Pv:Nat→Value→Prop}{Sv:Nat→Heap→Prop}{old:Value}{Gx:V→Prop}{elts:List Expr}{x1:Nat}{pos:Pos}
 (I:Inv X pins σ H s) (D:Draws X.prog X.w X.A.in1 it Lc n Pv Sv) (he:IsEnum s.heap e it i old) (dH:Sv i s.heap) (cm:i<n) (fU:e≠it) (Lx:e∉Lc) (hf:∀b∈[e,it],eF X pins H b) (hP:∀u,Pv i u→∃x,RelV x u∧Gx x):
 wpAny (model X.prog X.w) X.A (pyNext (.ref e)) (fun r s1=>∃u,r=some u∧wpAny (model X.prog X.w) X.A (letOwnedTupleGo (.Tuple elts x1 pos) (.ref e) u) (fun _ s2=>∃x p,u=.ref p∧Gx x∧H p=none∧e≠p∧it≠p∧
  Inv X pins σ (upd H p (.tup [.int i,x])) s2∧(∃IK,IsEnum s2.heap e it ((i:Int)+1) IK)∧Sv (i+1) s2.heap) E s1) E s:=by
 refine wpAny_pyNext_enum_itemD D he dH cm fU Lx fun u h' tk pu ho kA ht hz kk=>?_
 obtain⟨x,rx,gx⟩:=hP u pu
 obtain⟨f0,f1,f2,f3,f4,f5⟩:=hf e (by simp)
 obtain⟨g0,g1,g2,g3,g4,g5⟩:=hf it (by simp)
 have mW:H s.heap.objs.size=none:=I.hok.fresh (Nat.le_refl _)
 obtain⟨oi,hoi⟩:=D.live _ _ dH
 have LB:e≠s.heap.objs.size:=Nat.ne_of_lt (Heap.lt_size he)
 have Nc:it≠s.heap.objs.size:=Nat.ne_of_lt (Heap.lt_size hoi)
 have zw:∀b o,H b=some o→b≠e∧b≠it∧b≠s.heap.objs.size:=fun b o q=>⟨(fun z=>(by rw [z,f0] at q;cases q)),(fun z=>(by rw [z,g0] at q;cases q)),Nat.ne_of_lt (I.hok.lt q)⟩
 have I1:Inv X pins σ (upd H s.heap.objs.size (.tup [.int i,x])) {s with heap:=h',toks:=tk+1}:=by
  refine I.step (g':=s.gens) (d':=s.drawn) (ch:=[e,it]) (fun b hb=>?_) (fun b o _ _ hc q _=>kk b o (fun z=>hc (by simp [z])) (fun z=>hc (by simp [z])) q)
   (fun b o _ _ hc q _=>⟨o.slots,kk b o (fun z=>hc (by simp [z])) (fun z=>hc (by simp [z])) q⟩) (fun b o _ q nb=>by rw [ah (Nat.ne_of_lt (Heap.lt_size q))];exact nb)
   (fun b o hc q=>⟨o,kk b o (fun z=>hc (by simp [z])) (fun z=>hc (by simp [z])) q⟩) (fun b xs q=>by rw [ah (zw b _ q).2.2];exact q) (fun b o u q=>by rw [ah (zw b _ q).2.2];exact q)
   (fun b ps q=>⟨#[],by rw [ah (zw b _ q).2.2,q];simp⟩) (fun m hm=>?_) (fun b o q=>?_) I.bare
  ·rcases List.mem_cons.mp hb with z|z
   ·subst z;exact⟨f3,f1,f4,f5⟩
   ·rw [List.mem_singleton.mp z];exact⟨g3,g1,g4,g5⟩
  ·obtain⟨o,es,ep,q,r⟩:=hm
   exact⟨o,es,ep,kk _ o (Ne.symm f1) (Ne.symm g1) q,r⟩
  ·by_cases hb:b=s.heap.objs.size
   ·subst hb;rw [au] at q;cases q;exact⟨(show 2≤sizeLine by decide),[.int i tk,u],.cons ⟨tk,rfl⟩ (.cons rx .nil),⟨_,ht,rfl,_,rfl⟩⟩
   ·rw [ah hb] at q;refine(I.hok b o q).stay (fun c v hc z=>kk c v ?_ ?_ z) (fun c z=>by rw [ah (zw c _ z).2.2];exact z) fun c xs z=>by rw [ah (zw c _ z).2.2];exact z
    ·rcases hc with z'|z'
     ·rw [z'];exact(zw b o q).1
     ·exact(zw c _ z').1
    ·rcases hc with z'|z'
     ·rw [z'];exact(zw b o q).2.1
     ·exact(zw c _ z').2.1
 refine⟨_,rfl,wpAny_letOwnedTupleGo_enum ho fun h2 J6 sb=>?_⟩
 refine⟨x,s.heap.objs.size,rfl,gx,mW,LB,Nc,I1.turned (t':=tk+1) (it:=e) (fun b o hb q=>sb.extBut b o hb q) (by rw [ah LB];exact f0) f1 f3 f4 f5,⟨_,J6⟩,D.frame _ _ _ kA fun b hb o q=>sb.extBut b o (fun z=>Lx (z▸hb)) q⟩
noncomputable def J0(K:PySem.W.Frag)(a:Addr)(xs:List V):It:=
 ⟨fun i H=>fD K H a xs∧i<xs.length,fun i H v H'=>∃p x,v=.ref p∧H p=none∧H'=upd H p (.tup [.int (i:Nat),x])∧xs[i]?=some x,fun i H=>fD K H a xs∧i=xs.length⟩
noncomputable def Ie(z:Str):It:=
 ⟨fun i _=>i<z.cps.size,fun i H v H'=>∃p c,v=.ref p∧H p=none∧H'=upd H p (.tup [.int (i:Nat),.str ⟨#[c]⟩])∧z.cps[i]?=some c,fun i _=>i=z.cps.size⟩
theorem rj{P:Program}{w:World}{K:PySem.W.Frag}{elts:List Expr}{x1:Nat}{pos:Pos}(a e it:Addr)(xs:List V):Turn P w K (.Tuple elts x1 pos) (J0 K a xs) [e,it] e (fun i h=>(∃old,IsEnum h e it i old)∧h.IsTupleIter it a i) where
 mem:=by simp
 obj:=fun i h st b hb=>by
  obtain⟨⟨old,he⟩,o,ho,_,hd⟩:=st
  rcases List.mem_cons.mp hb with z|z
  ·subst z;exact⟨_,he,fun v q=>by cases q⟩
  ·rw [List.mem_singleton.mp z];exact⟨o,ho,fun v q=>by rw [hd] at q;cases q⟩
 keep:=fun i h h' st k=>⟨by obtain⟨old,he⟩:=st.1;exact⟨old,k e (by simp) _ he⟩,st.2.at fun o q=>k it (by simp) o q⟩
 item:=by
  intro X hP hw hK hc i pins s σ H E I hf st hg;subst hP hw hK;obtain⟨hq,cm⟩:=hg
  obtain⟨⟨old,he⟩,hit⟩:=st
  obtain⟨aE,rv,p,hz⟩:=I.tuple hq
  have hl:=rv.length
  have o9:=hit
  obtain⟨oi,e1,e2,_⟩:=hit
  obtain⟨oa,a1,a2,_⟩:=id p
  have Ej:a≠it:=jj a1 e1 (by rw [a2,e2];decide+kernel)
  have FI:e≠it:=jj he e1 (by rw [e2];show Value.type "enumerate"≠_;decide+kernel)
  have IM:e≠a:=jj he a1 (by rw [a2];show Value.type "enumerate"≠_;decide+kernel)
  refine bL (lC (Gx:=fun x=>xs[i]?=some x) I (me (A:=X.A.in1) (I.ok.hd hc) it a Ej aE.toArray) he ⟨o9,p⟩ (by rw [List.size_toArray];omega) FI (by simp [FI,IM]) hf (fun u hu=>?_)) fun r s1 ⟨u,hr,k⟩=>⟨u,hr,bL k fun _ s2 ⟨x,q,z1,z2,z3,z4,z5,z6,z7,z8⟩=>?_⟩
  ·have KS:xs[i]?=some xs[i]:=List.getElem?_eq_getElem cm
   obtain⟨u',hu',ru'⟩:=rv.get KS
   have:aE.toArray[i]?=some u':=by simpa using hu'
   have HP:aE.toArray[i]?=some u:=hu
   rw [this] at HP;cases HP;exact⟨xs[i],ru',KS⟩
  ·exact⟨.ref q,_,z6,z1.symm▸rfl,⟨q,x,rfl,z3,rfl,z2⟩,⟨z7,z8.1⟩,fun b hb=>by
    rcases List.mem_cons.mp hb with w|w
    ·rw [w,ah z4];exact(hf e (by simp)).1
    ·rw [List.mem_singleton.mp w,ah z5];exact(hf it (by simp)).1⟩
 done:=by
  intro X hP hw hK hc i pins s σ H E I hf st hg;subst hP hw hK;obtain⟨hq,rfl⟩:=hg
  obtain⟨⟨old,he⟩,hit⟩:=st
  obtain⟨aE,rv,p,hz⟩:=I.tuple hq
  have hl:=rv.length
  have o9:=hit
  obtain⟨oi,e1,e2,_⟩:=hit
  obtain⟨oa,a1,a2,_⟩:=id p
  have Ej:a≠it:=jj a1 e1 (by rw [a2,e2];decide+kernel)
  obtain⟨g0,g1,g2,g3,g4,g5⟩:=hf it (by simp)
  refine wpAny_pyNext_enum_endD (me (A:=X.A.in1) (I.ok.hd hc) it a Ej aE.toArray) he ⟨by rw [List.size_toArray,←hl];exact o9,p⟩ fun h' eb=>⟨rfl,I.turned (t':=s.toks) (fun b o hb q=>eb b o hb q) g0 g1 g3 g4 g5⟩
 self:=fun _ _ _ _ _ st h=>by obtain⟨⟨old,he⟩,_⟩:=st;exact wpAny_pyIter_enum he h
end L2
namespace L2
open PySem PySem.Spec PyProof.Rows
theorem kM{prog:Program}{w:World}{A:Around}{E:Value→Shared→Prop}{s:Shared}{l:Addr}{items:Array Value}{Q:Value→Shared→Prop}(hL:IsTup s.heap l items)
 (h:∀g,IsEnum g (s.heap.objs.size+1) s.heap.objs.size 0 .none→g.IsTupleIter s.heap.objs.size l 0→(∀b o,s.heap.get? b=some o→g.get? b=some o)→Q (.ref (s.heap.objs.size+1)) {s with heap:=g}):
 wpAny (model prog w) A (call (.type "enumerate") [.ref l]) Q E s:=by
 obtain⟨⟨cls,dd,data,sl⟩,ho,hc,n,hd⟩:=id hL
 simp only at hc hd;subst hc hd;have hz:(s.heap.push {cls:=.type "tuple_iterator",data:=.fields #[.ref l,.int 0 0]}).objs.size=s.heap.objs.size+1:=Heap.size_push ..
 refine callType_new F.called_enumerate (by decide) (F.typeCall_enumerate_1 _) (F.newCall_enumerate_1 _) (fun obj=>F.args_object_init_2 obj _) F.entry_enumerate_new (ux l items n dd sl) ⟨ho,?_⟩;show _∧_;rw [hz];have he:IsEnum ((s.heap.push {cls:=.type "tuple_iterator",data:=.fields #[.ref l,.int 0 0]}).push {cls:=.type "enumerate",data:=.fields #[.none,.bool false,.ref s.heap.objs.size,rawInt 0,.none,.none]}) (s.heap.objs.size+1) s.heap.objs.size 0 .none:=by
  have q:=Heap.get?_push_size (s.heap.push {cls:=.type "tuple_iterator",data:=.fields #[.ref l,.int 0 0]}) (o:={cls:=.type "enumerate",data:=.fields #[.none,.bool false,.ref s.heap.objs.size,rawInt 0,.none,.none]}) rfl
  rw [hz] at q;exact q
 exact⟨⟨_,he,rfl⟩,h _ he ⟨_,Heap.get?_push_of_some _ (Heap.get?_push_size _ rfl),rfl,rfl⟩ fun b o x=>Heap.get?_push_of_some _ (Heap.get?_push_of_some _ x)⟩
section
variable{X:Cx}{elts:List Expr}{x1:Nat}{nY:Pos}
noncomputable def JP(K:PySem.W.Frag)(ta:TA):TI:=fun σ H R=>ta σ H fun vs H1=>∃a xs,vs=[.ref a]∧fD K H1 a xs∧R (J0 K a xs) H1
theorem o5{a:Expr}{ta:TA}{p pos:Pos}(hg:Gl X "enumerate")(hm:X.mg "enumerate"=none)(ha:PA X [a] ta)(hs:starEach [a] X.env=[(false,eval a X.env)]:=by rfl):PI X (.Tuple elts x1 nY) (.Call (.Name "enumerate" p) [a] [] pos) (JP X.K ta):=by
 intro pins s σ H R I h;refine Call_ (e9 I hg hm boot_enumerate (PyProof.Rows.callWith_type1 (bL (ha pos pins s σ H _ I h) fun us s1 ⟨vs,H1,I1,r1,q1⟩=>?_) hs rfl))
 obtain⟨a,xs,e,hq,q⟩:=q1
 subst e;obtain⟨u,rfl,ru⟩:=vals1 r1
 cases ru;obtain⟨aE,rv,pt,hz⟩:=I1.tuple hq
 refine kM pt fun g he hi kp=>wpAny_pyIter_enum he ?_
 have I2:Inv X pins σ H1 {s1 with heap:=g}:=I1.kept (t':=s1.toks) kp
 refine⟨s1.heap.objs.size+1,[s1.heap.objs.size+1,s1.heap.objs.size],_,_,H1,rfl,I2,rj a _ s1.heap.objs.size xs,⟨⟨_,he⟩,hi⟩,fun b hb=>?_,q⟩
 have oF:s1.heap.objs.size≤b:=by
  rcases List.mem_cons.mp hb with z|z
  ·rw [z];exact Nat.le_succ _
  ·rw [List.mem_singleton.mp z];exact Nat.le_refl _
 exact I1.fpOk oF (I1.hok.fresh oF)
end
theorem qM{P:Program}{w:World}{K:PySem.W.Frag}{elts:List Expr}{x1:Nat}{pos:Pos}(z:Str)(t:Tok)(e it:Addr):Turn P w K (.Tuple elts x1 pos) (Ie z) [e,it] e (fun i h=>(∃old,IsEnum h e it i old)∧h.IsStrIter it (strIterType z) z t i) where
 mem:=by simp
 obj:=fun i h st b hb=>by
  obtain⟨⟨old,he⟩,o,ho,_,hd⟩:=st
  rcases List.mem_cons.mp hb with q|q
  ·subst q;exact⟨_,he,fun v q=>by cases q⟩
  ·rw [List.mem_singleton.mp q];exact⟨o,ho,fun v q=>by rw [hd] at q;cases q⟩
 keep:=fun i h h' st k=>⟨by obtain⟨old,he⟩:=st.1;exact⟨old,k e (by simp) _ he⟩,by obtain⟨o,q,r⟩:=st.2;exact⟨o,k it (by simp) o q,r⟩⟩
 item:=by
  intro X hP hw hK hc i pins s σ H E I hf st hg;subst hP hw hK;have cm:i<z.cps.size:=hg
  obtain⟨⟨old,he⟩,hit⟩:=st
  have o9:=hit
  obtain⟨oi,e1,e2,_⟩:=hit
  have FI:e≠it:=jj he e1 (by
   rw [e2];show Value.type "enumerate"≠_;rcases dY z with q|q<;>rw [q]<;>decide+kernel)
  have fin:∀{Sv:Nat→Heap→Prop},Draws X.prog X.w X.A.in1 it [it] z.cps.size (fun i v=>∃c u,z.cps[i]?=some c∧v=.str ⟨#[c]⟩ u) Sv→Sv i s.heap→(∀h,Sv (i+1) h→h.IsStrIter it (strIterType z) z t (i+1))→
   wpAny (model X.prog X.w) X.A (pyNext (.ref e)) (fun r s1=>∃u,r=some u∧wpAny (model X.prog X.w) X.A (letOwnedTupleGo (.Tuple elts x1 pos) (.ref e) u) (fun _ s2=>∃x H',Inv X pins σ H' s2∧RelV x u∧(Ie z).yld i H x H'∧((∃old,IsEnum s2.heap e it (((i+1:Nat)):Int) old)∧s2.heap.IsStrIter it (strIterType z) z t (i+1))∧∀b∈[e,it],H' b=none) E s1) E s:=by
   intro Sv D dH back;refine bL (lC (Gx:=fun x=>∃c,x=.str ⟨#[c]⟩∧z.cps[i]?=some c) I D he dH cm FI (by simp [FI]) hf (fun u ⟨c,tk,hc,hu⟩=>⟨.str ⟨#[c]⟩,⟨tk,hu⟩,c,rfl,hc⟩)) fun r s1 ⟨u,hr,k⟩=>⟨u,hr,bL k fun _ s2 ⟨x,q,z1,⟨c,z2,nL⟩,z3,z4,z5,z6,z7,z8⟩=>?_⟩
   subst z2;exact⟨.ref q,_,z6,z1.symm▸rfl,⟨q,c,rfl,z3,rfl,nL⟩,⟨z7,back _ z8⟩,fun b hb=>by
    rcases List.mem_cons.mp hb with w|w
    ·rw [w,ah z4];exact(hf e (by simp)).1
    ·rw [List.mem_singleton.mp w,ah z5];exact(hf it (by simp)).1⟩
  rcases dY z with q|q
  ·rw [q] at o9⊢;rw [q] at fin;exact fin (Draws.strAscii (A:=X.A.in1) (I.ok.hd hc) it z t) o9 fun h st=>st
  ·rw [q] at o9⊢;rw [q] at fin;exact fin (Draws.strWide (A:=X.A.in1) (I.ok.hd hc) it z t) o9 fun h st=>st
 done:=by
  intro X hP hw hK hc i pins s σ H E I hf st hg;subst hP hw hK;have hi:i=z.cps.size:=hg
  subst hi;obtain⟨⟨old,he⟩,hit⟩:=st
  obtain⟨g0,g1,g2,g3,g4,g5⟩:=hf it (by simp)
  rcases dY z with q|q
  ·rw [q] at hit;exact wpAny_pyNext_enum_endD (Draws.strAscii (A:=X.A.in1) (I.ok.hd hc) it z t) he hit fun h' eb=>⟨rfl,I.turned (t':=s.toks) (fun b o hb q=>eb b o hb q) g0 g1 g3 g4 g5⟩
  ·rw [q] at hit;exact wpAny_pyNext_enum_endD (Draws.strWide (A:=X.A.in1) (I.ok.hd hc) it z t) he hit fun h' eb=>⟨rfl,I.turned (t':=s.toks) (fun b o hb q=>eb b o hb q) g0 g1 g3 g4 g5⟩
 self:=fun _ _ _ _ _ st h=>by obtain⟨⟨old,he⟩,_⟩:=st;exact wpAny_pyIter_enum he h
section
variable{X:Cx}{elts:List Expr}{x1:Nat}{nY:Pos}
noncomputable def JY(ta:TA):TI:=fun σ H R=>ta σ H fun vs H1=>∃z,vs=[.str z]∧R (Ie z) H1
theorem wZ{a:Expr}{ta:TA}{p pos:Pos}(hg:Gl X "enumerate")(hm:X.mg "enumerate"=none)(ha:PA X [a] ta)(hs:starEach [a] X.env=[(false,eval a X.env)]:=by rfl):PI X (.Tuple elts x1 nY) (.Call (.Name "enumerate" p) [a] [] pos) (JY ta):=by
 intro pins s σ H R I h;refine Call_ (e9 I hg hm boot_enumerate (PyProof.Rows.callWith_type1 (bL (ha pos pins s σ H _ I h) fun us s1 ⟨vs,H1,I1,r1,q1⟩=>?_) hs rfl))
 obtain⟨z,e,q⟩:=q1
 subst e;obtain⟨u,rfl,t,rfl⟩:=vals1 r1
 refine call_enumerate_str fun g he hi hz kp=>wpAny_pyIter_enum he ?_
 have I2:Inv X pins σ H1 {s1 with heap:=g}:=I1.kept (t':=s1.toks) kp
 refine⟨s1.heap.objs.size+1,[s1.heap.objs.size+1,s1.heap.objs.size],_,_,H1,rfl,I2,qM z t _ s1.heap.objs.size,⟨⟨_,he⟩,hi⟩,fun b hb=>?_,q⟩
 have oF:s1.heap.objs.size≤b:=by
  rcases List.mem_cons.mp hb with z|z
  ·rw [z];exact Nat.le_succ _
  ·rw [List.mem_singleton.mp z];exact Nat.le_refl _
 exact I1.fpOk oF (I1.hok.fresh oF)
end
end L2
namespace L2
open PySem PySem.Spec PyProof.Rows
section
variable{X:Cx}{elts:List Expr}{x1:Nat}{nY:Pos}
end
end L2
namespace Ci
open PySem L2
structure Hs where
 f:Str
 h:Str
 g:Str
 idx:List Nat
 np:Nat
structure Pg where
 gs:List (Str×PV)
 bs:List Str
 cs:List Str
 fs:List Str
 rs:List Str
 hs:List Hs:=[]
 hl:Bool:=false
def di(sc:Scope)(x:Str):Bool:=sc.names.lookup x==some .local||sc.names.lookup x==some .cell
def dm(sc:Scope)(x:Str):Bool:=di sc x||sc.names.lookup x==some .free
def ic(sc:Scope)(x:Str):Bool:=sc.names.lookup x==some .globalImplicit
def litS:List PV→List PV→Bool
 |[],[]=>true
 |.str x::xs,.str y::ys=>x==y&&litS xs ys
 |_,_=>false
def se:PV→PV→Bool
 |.int i,.int j=>i==j
 |.str x,.str y=>x==y
 |.tup xs,.tup ys=>litS xs ys
 |_,_=>false
theorem litS_eq:∀{xs ys:List PV},litS xs ys=true→xs=ys
 |[],[],_=>rfl
 |.str x::xs,.str y::ys,h=>by
  unfold litS at h;rw [Bool.and_eq_true] at h;rw [beq_iff_eq.mp h.1,litS_eq h.2]
theorem xH{p q:PV}(h:se p q=true):p=q:=by
 unfold se at h;split at h
 ·rw [beq_iff_eq.mp h]
 ·rw [beq_iff_eq.mp h]
 ·rw [litS_eq h]
 ·cases h
def bN:B→Str
 |.len=>"len"|.abs=>"abs"|.max2=>"max"|.int=>"int"|.str=>"str"|.tuple=>"tuple"|.sorted=>"sorted"
def fH:E→Bool
 |.tmp _=>false
 |_=>true
def fI:Es→Bool
 |.nil=>true
 |.cons e es=>fH e&&fI es
def Ar:I→Bool
 |.seq e=>fH e
 |.rng _=>true
 |.rng2 _ _=>true
 |.enum e=>fH e
def isNil:Es→Bool
 |.nil=>true
 |_=>false
def gM:Es→Nat
 |.nil=>0
 |.cons _ es=>gM es+1
noncomputable def eZ(N:List Str)(sc:Scope)(fn:Str→Bool):Tg→Expr→Bool
 |.one i,.Name x _=>N[i]?==some x&&di sc x&&(fn x||sc.names.lookup x==some .local)
 |.two i j,.Tuple [.Name x _,.Name y _] _ _=>N[i]?==some x&&di sc x&&(fn x||sc.names.lookup x==some .local)&&(N[j]?==some y&&di sc y&&(fn y||sc.names.lookup y==some .local))
 |_,_=>false
def aN:Expr→List Str
 |.Name x _=>[x]
 |.Tuple [.Name x _,.Name y _] _ _=>[x,y]
 |_=>[]
def cT(scope sc:Scope):Scope:=
 {scope with names:=scope.names.map fun(n,k)=>if(k==.free&&sc.kind==.function&&sc.names.lookup n==some .cell) then(n,.cell) else(n,k)}
def freeOf(scope:Scope):List Str:=((scope.names.filter fun p=>p.2==.free).map (·.1)).reverse
noncomputable def sd(N:List Str)(sc scope:Scope)(k:Nat)(aW:List Nat)(xs:List Str):Bool:=
 scope.kind==.function&&xs.length==k&&decide ((xs++freeOf scope).Nodup)
 &&(scope.names.all fun y=>(decide (y.2≠.cell)||!(freeOf scope).contains y.1)&&(decide (y.2≠.free)||(freeOf scope).contains y.1))
 &&(scope.names.all fun y=>decide (y.2≠.cell)||decide (scope.names.lookup y.1=some .cell))
 &&(scope.names.all fun y=>decide (y.2≠.local)||decide (scope.names.lookup y.1=some .local))
 &&decide (aW.map (fun i=>N[i]?)=(freeOf scope).map some)
 &&((freeOf scope).all fun y=>decide (sc.names.lookup y=some .cell))
 &&((freeOf scope).all fun y=>decide ((cT scope sc).names.lookup y=some .cell))
def i9(k:Nat):Tg→Bool
 |.one i=>decide (i<k)
 |.two i j=>decide (i<k)&&decide (j<k)
def dI:E→Bool
 |.ite _ _ _=>false
 |.not a=>dI a
 |.and a b=>dI a&&dI b
 |.or a b=>dI a&&dI b
 |_=>true
def isTup:Expr→Bool
 |.Tuple .. =>true
 |_=>false
noncomputable abbrev Pg.nol(Γ:Pg):Pg:={Γ with hl:=false}
mutual
noncomputable def bf(Γ:Pg)(N:List Str)(sc:Scope):E→Expr→Bool
 |.var i,.Name x _=>N[i]?==some x&&dm sc x&&okN x
 |.tmp i,.Name x _=>N[i]?==some x&&dm sc x&&okN x
 |.cst .non,.Constant .none _ _=>true
 |.cst (.bl b),.Constant (.bool c) _ _=>b==c
 |.cst (.int i),.Constant (.int j) _ _=>i==j
 |.cst (.str z),.Constant (.str y) _ _=>z==y
 |.glob g p,.Name x _=>g==x&&ic sc x&&okN x&&Γ.gs.any fun q=>q.1==g&&se q.2 p
 |.call f as,.Call (.Name g _) args [] _=>f==g&&Γ.fs.contains g&&ic sc g&&okN g&&fI as&&iB Γ N sc as args
 |.callv i as,.Call (.Name x _) args [] _=>N[i]?==some x&&dm sc x&&okN x&&fI as&&!isNil as&&iB Γ N sc as args
 |.callL f as g idx aW,.Call (.Name h _) args [] _=>Γ.hl&&ic sc h&&okN h&&fI as&&!isNil as&&(Γ.hs.any fun q=>q.f==f&&q.h==h&&q.g==g&&q.idx==idx&&decide (q.np=gM as+1))&&rS Γ N sc g idx aW as args
 |.blt b as,.Call (.Name g _) args [] _=>bN b==g&&ic sc g&&Γ.bs.contains g&&!isNil as&&iB Γ N sc as args
 |.ty t a,.Call (.Name g _) [pa,.Name tn _] [] _=>g=="isinstance"&&ic sc g&&Γ.bs.contains g&&tn==Str.ofString (qv t)&&ic sc tn&&Γ.bs.contains tn&&bf Γ N sc a pa
 |.bin o a b,.BinOp pa op pb _=>decide (Jw o=op)&&bf Γ N sc a pa&&bf Γ N sc b pb
 |.cmp o a b,.Compare pa [op] [pb] _=>decide (oC o=op)&&bf Γ N sc a pa&&bf Γ N sc b pb
 |.ch o1 o2 a b c,.Compare pa [op1,op2] [pb,pc] _=>decide (oC o1=op1)&&decide (oC o2=op2)&&bf Γ N sc a pa&&bf Γ N sc b pb&&bf Γ N sc c pc
 |.not a,.UnaryOp .Not pa _=>bf Γ N sc a pa
 |.neg a,.UnaryOp .USub pa _=>bf Γ N sc a pa
 |.and a b,.BoolOp .And [pa,pb] _=>fH b&&bf Γ N sc a pa&&bf Γ N sc b pb
 |.and a b,.BoolOp .And (pa::pb::pc::r) pos=>fH b&&bf Γ N sc a pa&&bf Γ N sc b (.BoolOp .And (pb::pc::r) pos)
 |.or a b,.BoolOp .Or [pa,pb] _=>fH b&&bf Γ N sc a pa&&bf Γ N sc b pb
 |.or a b,.BoolOp .Or (pa::pb::pc::r) pos=>fH b&&bf Γ N sc a pa&&bf Γ N sc b (.BoolOp .Or (pb::pc::r) pos)
 |.ite c a b,.IfExp pc pa pb _=>dI c&&fH a&&fH b&&bf Γ N sc c pc&&bf Γ N sc a pa&&bf Γ N sc b pb
 |.tup as,.Tuple ps _ _=>fI as&&decide (gM as<1000)&&iB Γ N sc as ps
 |.lst as,.List ps _=>fI as&&decide (gM as<1000)&&iB Γ N sc as ps
 |.sub a b,.Subscript pa pb _=>bf Γ N sc a pa&&bf Γ N sc b pb
 |.slice a lo hi,.Subscript pa (.Slice pl ph none _) _=>bf Γ N sc a pa&&Dz Γ N sc lo pl&&Dz Γ N sc hi ph
 |.comp k aW tg it elt,.ListComp dk [⟨cq,en,[],asy⟩] scope _=>sd N sc scope k aW (aN cq)&&i9 k tg&&fH elt&&vk Γ N sc cq it en&&eZ (aN cq++freeOf scope) (cT scope sc) (kb scope) tg cq&&bf Γ.nol (aN cq++freeOf scope) (cT scope sc) elt dk&&decide (asy=0)
 |.compIf k aW tg it c elt,.ListComp dk [⟨cq,en,[pc],asy⟩] scope _=>dI c&&sd N sc scope k aW (aN cq)&&i9 k tg&&fH elt&&vk Γ N sc cq it en&&eZ (aN cq++freeOf scope) (cT scope sc) (kb scope) tg cq&&bf Γ.nol (aN cq++freeOf scope) (cT scope sc) c pc&&bf Γ.nol (aN cq++freeOf scope) (cT scope sc) elt dk&&decide (asy=0)
 |_,_=>false
noncomputable def iB(Γ:Pg)(N:List Str)(sc:Scope):Es→List Expr→Bool
 |.nil,[]=>true
 |.cons e es,p::ps=>bf Γ N sc e p&&iB Γ N sc es ps
 |_,_=>false
noncomputable def rS(Γ:Pg)(N:List Str)(sc:Scope)(g:Str)(idx aW:List Nat):Es→List Expr→Bool
 |.nil,[.Lambda params body scope _]=>xk g idx params body scope&&decide (aW.map (fun i=>N[i]?)=(bh scope).map some)&&((bh scope).all fun y=>decide (sc.names.lookup y=some .cell))
 |.cons e es,p::ps=>bf Γ N sc e p&&rS Γ N sc g idx aW es ps
 |_,_=>false
noncomputable def Dz(Γ:Pg)(N:List Str)(sc:Scope):Oe→Option Expr→Bool
 |.no,none=>true
 |.some e,some p=>bf Γ N sc e p
 |_,_=>false
noncomputable def vk(Γ:Pg)(N:List Str)(sc:Scope)(tg:Expr):I→Expr→Bool
 |.seq e,p=>bf Γ N sc e p
 |.rng e,.Call (.Name g _) [p] [] _=>g=="range"&&ic sc g&&Γ.bs.contains g&&bf Γ N sc e p
 |.rng2 a b,.Call (.Name g _) [p,q] [] _=>g=="range"&&ic sc g&&Γ.bs.contains g&&bf Γ N sc a p&&bf Γ N sc b q
 |.enum e,.Call (.Name g _) [p] [] _=>isTup tg&&g=="enumerate"&&ic sc g&&Γ.bs.contains g&&bf Γ N sc e p
 |_,_=>false
end
theorem aG{a b:Bool}(h:(a&&b)=true):a=true∧b=true:=Bool.and_eq_true_iff.mp h
theorem bI{α:Type}{o:Option α}{f:α→Bool}(h:o.any f=true):∃x,o=some x∧f x=true:=by
 cases o with
 |none=>cases h
 |some x=>exact⟨x,rfl,h⟩
end Ci
namespace Ci
open PySem L2
def XE(W:Wd)(c:Str)(G1 H1:Hp):XK:=fun Cv ao H'=>∃C a G',Cv=.ref C∧ao=some a∧c∈W.xs∧W.mg c=some (.ref C)∧aJ W G1 H1 G' H'
def rF(X:Cx)(W:Wd)(σ:St)(c:Str)(G H:Hp):Prop:=∀(pins:List (Addr×Obj)) (G1 H1:Hp) (s1:Shared) (e:Value) (s':Shared),Inv X pins σ H1 s1→aJ W G H G1 H1→dA X.prog X.w X.stack H1 s1 (XE W c G1 H1) e s'→X.xe e s'
def Out{α:Type}(X:Cx)(W:Wd)(r:Res α)(σ:St)(G H:Hp)(k:α→Prop):Prop:=match r with
 |.ok a=>k a
 |.exc c=>rF X W σ c G H
 |.bad=>False
section
variable{X:Cx}{W:Wd}{F:aS}{σ:St}{G H G1 H1:Hp}{α β:Type}
theorem rF.grow{c:Str}(h:rF X W σ c G H)(g:aJ W G H G1 H1):rF X W σ c G1 H1:=fun pins G2 H2 s1 e s' I g2 x=>h pins G2 H2 s1 e s' I (g.trans g2) x
theorem Out.grow{r:Res α}{k:α→Prop}(h:Out X W r σ G H k)(g:aJ W G H G1 H1):Out X W r σ G1 H1 k:=by
 cases r with
 |ok a=>exact h
 |exc c=>exact rF.grow h g
 |bad=>exact h
theorem Out.imp{r:Res α}{k k':α→Prop}(h:Out X W r σ G H k)(i:∀a,k a→k' a):Out X W r σ G H k':=by
 cases r with
 |ok a=>exact i a h
 |exc c=>exact h
 |bad=>exact h
theorem Out.bind{r:Res α}{f:α→Res β}{k:β→Prop}(h:Out X W (r.bind f) σ G H k):Out X W r σ G H fun a=>Out X W (f a) σ G H k:=by
 cases r with
 |ok a=>exact h
 |exc c=>exact h
 |bad=>exact h
theorem Out.val{r:Res α}{k:α→Prop}(h:Out X W r σ G H k)(n:∀c,r≠.exc c):∃a,r=.ok a∧k a:=by
 cases r with
 |ok a=>exact⟨a,rfl,h⟩
 |exc c=>exact absurd rfl (n c)
 |bad=>exact h.elim
structure Got(W:Wd)(H0 G H:Hp)(e:E)(p:PV)(v:V):Prop where
 top:Top W H0 G H p v
 rep:fH e=true→Rep W G p v
theorem Got.of{H0:Hp}{e:E}{p:PV}{v:V}(h:Rep W G p v):Got W H0 G H e p v:=⟨.inl h,fun _=>h⟩
noncomputable def tE(X:Cx)(W:Wd)(F:aS)(e:E):TE:=fun σ H Q=>∃H0 G env,SR W H0 env σ G H∧Out X W (ay F e env) σ G H fun p=>∀v G' H',aJ W G H G' H'→Got W H0 G' H' e p v→Q v H'
noncomputable def tT(X:Cx)(W:Wd)(F:aS)(e:E):TT:=fun σ H Q=>∃H0 G env,SR W H0 env σ G H∧Out X W (ay F e env) σ G H fun p=>∃b,p=.bl b∧∀G' H',aJ W G H G' H'→Q b H'
structure HI(W:Wd)(H0 G H:Hp)(es:Es)(ps:List PV)(vs:List V):Prop where
 top:Paired (fun v p=>Top W H0 G H p v) vs ps
 rep:fI es=true→aq W G ps vs
noncomputable def tA(X:Cx)(W:Wd)(F:aS)(es:Es):TA:=fun σ H Q=>∃H0 G env,SR W H0 env σ G H∧Out X W (ak F es env) σ G H fun ps=>∀vs G' H',aJ W G H G' H'→HI W H0 G' H' es ps vs→Q vs H'
noncomputable def xP(X:Cx)(W:Wd)(F:aS)(o:Oe):TO:=fun σ H Q=>∃H0 G env,SR W H0 env σ G H∧Out X W (aP F o env) σ G H fun i=>∀G' H',aJ W G H G' H'→Q i H'
theorem one{H0:Hp}{env:Sl}{e:E}{f:PV→Res β}{k:β→Prop}{Q:VK}(sr:SR W H0 env σ G H)(o:Out X W ((ay F e env).bind f) σ G H k)
 (h:∀p v G1 H1,aJ W G H G1 H1→Got W H0 G1 H1 e p v→SR W H0 env σ G1 H1→Out X W (f p) σ G1 H1 k→Q v H1):tE X W F e σ H Q:=
 ⟨H0,G,env,sr,o.bind.imp fun p hp v G1 H1 g t=>h p v G1 H1 g t (sr.grow g) (hp.grow g)⟩
theorem AS{H0:Hp}{env:Sl}{e:E}{f:Bool→Res β}{k:β→Prop}{Q:Bool→Hp→Prop}(sr:SR W H0 env σ G H)(o:Out X W ((ay F e env).bind fun p=>qp p f) σ G H k)
 (h:∀b G1 H1,aJ W G H G1 H1→SR W H0 env σ G1 H1→Out X W (f b) σ G1 H1 k→Q b H1):tT X W F e σ H Q:=by
 refine⟨H0,G,env,sr,o.bind.imp fun p hp=>?_⟩
 cases p with
 |bl b=>exact⟨b,rfl,fun G1 H1 g=>h b G1 H1 g (sr.grow g) (Out.grow hp g)⟩
 |non=>exact False.elim hp
 |int _=>exact False.elim hp
 |str _=>exact False.elim hp
 |tup _=>exact False.elim hp
 |lst _=>exact False.elim hp
 |exc _=>exact False.elim hp
 |dct _ _=>exact False.elim hp
theorem args{H0:Hp}{env:Sl}{es:Es}{f:List PV→Res β}{k:β→Prop}{Q:List V→Hp→Prop}(sr:SR W H0 env σ G H)(o:Out X W ((ak F es env).bind f) σ G H k)
 (h:∀ps vs G1 H1,aJ W G H G1 H1→HI W H0 G1 H1 es ps vs→SR W H0 env σ G1 H1→Out X W (f ps) σ G1 H1 k→Q vs H1):tA X W F es σ H Q:=
 ⟨H0,G,env,sr,o.bind.imp fun p hp v G1 H1 g t=>h p v G1 H1 g t (sr.grow g) (hp.grow g)⟩
def vX(W:Wd)(G:Hp):Option (Str×List Nat)→List PV→List V→Prop
 |none,as,vs=>aq W G as vs
 |some q,as,vs=>∃ua cI rL v,as=ua++cI∧vs=rL++[v]∧aq W G ua rL∧mT W G q.1 q.2 cI v
noncomputable def vq(W:Wd)(F:aS)(f:Str)(n:Nat)(q:Option (Str×List Nat)):Sp:=fun vs H Q E=>vs.length=n∧∃G as,aF G H∧cy W G H∧vX W G q as vs∧(match F f as with
 |.ok p=>∀v G' H',aJ W G H G' H'→Rep W G' p v→Q v H'
 |.exc c=>∀Cv ao H',XE W c G H Cv ao H'→E Cv ao H'
 |.bad=>False)
structure C5(X:Cx)(W:Wd)(F:aS)(k:Nat)(f:Str):Prop where
 ex:∃fa fd ps,eW X.prog X.w X.K X.mg X.base (dA X.prog X.w) k fa fd ps (vq W F f ps.length none)∧X.mg f=some (.ref fa)∧PySem.W.keepIn X.K (.ref fa)=true∧Binds X.K fd ps []∧∀as,F f as≠.bad→as.length=ps.length
structure Fp(X:Cx)(W:Wd)(F:aS)(k:Nat)(q:Hs):Prop where
 ex:∃fa fd ps,eW X.prog X.w X.K X.mg X.base (dA X.prog X.w) k fa fd ps (vq W F q.f ps.length (some (q.g,q.idx)))∧X.mg q.h=some (.ref fa)∧PySem.W.keepIn X.K (.ref fa)=true∧Binds X.K fd ps []∧ps.length=q.np
structure dE(Γ:Pg)(F:aS)(W:Wd)(N:List Str)(sc:Scope)(k:Nat)(X:Cx):Prop where
 hN:X.N=N
 hsc:X.env.scope=sc
 calm:X.calm=true
 nd:N.Nodup
 K:W.K=X.K
 mg:W.mg=X.mg
 gs:∀q∈Γ.gs,∃u v,X.mg q.1=some u∧RelV v u∧∀G,Rep W G q.2 v
 bs:∀g∈Γ.bs,X.mg g=none
 room:dc (k+1) X.A
 fns:∀f,Γ.fs.contains f=true→C5 X W F k f
 nov:Γ.cs.contains "ValueError"=false
 cls:∀c∈Γ.cs,∃C,X.mg c=some (.ref C)
 xc:∀d∈W.xs,∀D,X.mg d=some (.ref D)→CP X.K D∧(∀c∈Γ.cs,∀C,X.mg c=some (.ref C)→PySem.W.kitOne X.K (.ref D) (.ref C)=some (c==d||c=="FloorError"))∧PySem.W.kitOne X.K (.ref D) (.type "ValueError")=some true
 hfs:∀q∈Γ.hs,Fp X W F k q
 any:∀g as,F g as≠.bad→Γ.fs.contains g=true∨fY g=true
 tb:Γ.hl=true→∃c P,X.env.code=.ref c∧PySem.W.CodeHd X.base c P∧(P,X.env.qual++"<lambda>")∈W.ts∧∀q',(P,q')∈W.ts→q'=X.env.qual++"<lambda>"
 bm:Γ.hl=true→wN X.mg X.base
 fl:Γ.hl=true→∀x,X.fn x=true
end
end Ci
namespace Ci
open PySem L2
section
variable{Γ:Pg}{X:Cx}{W:Wd}{F:aS}{N:List Str}{sc:Scope}{k:Nat}
theorem jc(C:dE Γ F W N sc k X){x:Str}(h:dm sc x=true):FG X.env.scope x:=by
 rw [C.hsc];unfold dm di at h;simp only [Bool.or_eq_true,beq_iff_eq] at h;rcases h with(h|h)|h
 ·exact .inl h
 ·exact .inr (.inl h)
 ·exact .inr (.inr h)
theorem eU(C:dE Γ F W N sc k X){x:Str}(h:ic sc x=true):Gl X x:=by
 show X.env.scope.names.lookup x=_
 rw [C.hsc];exact beq_iff_eq.mp h
theorem cV{x:Str}(h:okN x=true):(x==("__debug__":Str))=false∧(x==("__classdict__":Str))=false∧x≠"__name__":=by
 unfold okN at h;simp only [Bool.and_eq_true,Bool.not_eq_true',beq_eq_false_iff_ne] at h;exact⟨beq_eq_false_iff_ne.mpr h.1.1,beq_eq_false_iff_ne.mpr h.1.2,h.2⟩
abbrev GE(X:Cx)(W:Wd)(F:aS)(e:E)(p:Expr):Prop:=PE X p (tE X W F e)
abbrev GT(X:Cx)(W:Wd)(F:aS)(e:E)(p:Expr):Prop:=PT X p (tT X W F e)
abbrev GW(X:Cx)(W:Wd)(F:aS)(e:E)(p:Expr):Prop:=PW X p (tT X W F e)
theorem _root_.L2.PE.imp{p:Expr}{t t':TE}(h:PE X p t)(i:∀σ H Q,t' σ H Q→t σ H Q):PE X p t':=fun pins s σ H Q I hw=>h pins s σ H Q I (i σ H Q hw)
theorem _root_.L2.PT.imp{p:Expr}{t t':TT}(h:PT X p t)(i:∀σ H Q,t' σ H Q→t σ H Q):PT X p t':=fun pins s σ H Q I hw=>h pins s σ H Q I (i σ H Q hw)
theorem _root_.L2.PW.imp{p:Expr}{t t':TT}(h:PW X p t)(i:∀σ H Q,t' σ H Q→t σ H Q):PW X p t':=fun w pins s σ H Q I hw=>h w pins s σ H Q I (i σ H Q hw)
theorem _root_.L2.PA.imp{p:List Expr}{t t':TA}(h:PA X p t)(i:∀σ H Q,t' σ H Q→t σ H Q):PA X p t':=fun pos pins s σ H Q I hw=>h pos pins s σ H Q I (i σ H Q hw)
theorem BX{e:E}(σ:St)(H:Hp)(Q:Bool→Hp→Prop)(h:tT X W F e σ H Q):tB (tE X W F e) σ H Q:=by
 obtain⟨H0,G,env,sr,o⟩:=h
 refine⟨H0,G,env,sr,o.imp fun p hp v G' H' g t=>?_⟩
 obtain⟨b,rfl,q⟩:=hp
 exact⟨b,t.top.bl,q G' H' g⟩
theorem qd{e:E}(σ:St)(H:Hp)(Q:Bool→Hp→Prop)(h:tT X W F e σ H Q):xr (tE X W F e) σ H Q:=BX σ H Q h
theorem Ek(C:dE Γ F W N sc k X){i:Nat}{x:Str}{pos:Pos}(h:(N[i]?==some x&&dm sc x&&okN x)=true):GE X W F (.var i) (.Name x pos):=by
 simp only [Bool.and_eq_true,beq_iff_eq] at h;obtain⟨h1,h2,h3⟩:=cV h.2
 refine(dR (i:=i) (by rw [C.hN];exact h.1.1) (jc C h.1.2) h1 h2).imp fun σ H Q hq=>?_
 obtain⟨H0,G,env,sr,o⟩:=hq
 cases e:env[i]? with
 |none=>unfold ay at o;rw [e] at o;exact o.elim
 |some sl=>
  cases sl with
  |no=>unfold ay at o;rw [e] at o;exact o.elim
  |fn _ _ _=>unfold ay at o;rw [e] at o;exact o.elim
  |own p=>unfold ay at o;rw [e] at o;exact o.elim
  |val p=>
   unfold ay at o;rw [e] at o;obtain⟨o2,hs,v,rfl,r⟩:=sr.slot i _ e
   exact⟨v,hs,o v G H (.refl sr.sub) (.of r)⟩
theorem Dx(C:dE Γ F W N sc k X){i:Nat}{x:Str}{pos:Pos}(h:(N[i]?==some x&&dm sc x&&okN x)=true):GE X W F (.tmp i) (.Name x pos):=by
 simp only [Bool.and_eq_true,beq_iff_eq] at h;obtain⟨h1,h2,h3⟩:=cV h.2
 refine(dR (i:=i) (by rw [C.hN];exact h.1.1) (jc C h.1.2) h1 h2).imp fun σ H Q hq=>?_
 obtain⟨H0,G,env,sr,o⟩:=hq
 cases e:env[i]? with
 |none=>unfold ay at o;rw [e] at o;exact o.elim
 |some sl=>
  cases sl with
  |no=>unfold ay at o;rw [e] at o;exact o.elim
  |fn _ _ _=>unfold ay at o;rw [e] at o;exact o.elim
  |own p=>
   unfold ay at o;rw [e] at o;obtain⟨o2,hs,v,rfl,r⟩:=sr.slot i _ e
   exact⟨v,hs,o v G H (.refl sr.sub) ⟨.inr r,fun z=>nomatch z⟩⟩
  |val p=>
   unfold ay at o;rw [e] at o;obtain⟨o2,hs,v,rfl,r⟩:=sr.slot i _ e
   exact⟨v,hs,o v G H (.refl sr.sub) (.of r)⟩
theorem gF{p:PV}{v:V}{e:Expr}(h:PE X e (tC v))(r:∀G,Rep W G p v):GE X W F (.cst p) e:=by
 refine L2.PE.imp h fun σ H Q hq=>?_
 obtain⟨H0,G,env,sr,o⟩:=hq
 exact o v G H (.refl sr.sub) (.of (r G))
theorem y9(C:dE Γ F W N sc k X){g x:Str}{p:PV}{pos:Pos}(h:(g==x&&ic sc x&&okN x&&Γ.gs.any fun q=>q.1==g&&se q.2 p)=true):GE X W F (.glob g p) (.Name x pos):=by
 simp only [Bool.and_eq_true,beq_iff_eq,List.any_eq_true] at h;obtain⟨⟨⟨rfl,h2⟩,h3⟩,q,hq,e1,e2⟩:=h
 obtain⟨u,v,hm,rv,hr⟩:=C.gs q hq
 rw [e1] at hm;cases xH e2;refine(Aa (eU C h2) hm rv (cV h3).1).imp fun σ H Q hq=>?_
 obtain⟨H0,G,env,sr,o⟩:=hq
 exact o v G H (.refl sr.sub) (.of (hr G))
theorem kZ{o:E5}{p q:PV}(c:Str):binOp o p q≠.exc c:=by
 unfold binOp
 repeat' split
 all_goals exact fun z=>nomatch z
theorem Res.of_noexc{α:Type}{o:Option α}(c:Str):Res.of o≠.exc c:=by cases o<;>exact fun z=>nomatch z
theorem c7{o:yk}{p q:PV}(c:Str):da o p q≠.exc c:=by
 cases o
 case eq=>show fX p q≠_;unfold fX;split<;>exact fun z=>nomatch z
 case ne=>show gR p q≠_;unfold gR;split<;>exact fun z=>nomatch z
 case lt=>
  show pO p q≠_
  unfold pO;split
  ·exact fun z=>nomatch z
  ·exact fun z=>nomatch z
 case le=>show oR p q≠_;unfold oR;split<;>exact fun z=>nomatch z
 case gt=>show rB p q≠_;unfold rB;split<;>exact fun z=>nomatch z
 case isn=>show fK p q≠_;unfold fK;split<;>exact fun z=>nomatch z
 case in_=>
  show m5 p q≠_
  unfold m5;split
  ·split<;>exact fun z=>nomatch z
  ·exact fun z=>nomatch z
 case nin=>
  show eE p q≠_
  unfold eE;split
  ·split<;>exact fun z=>nomatch z
  ·intro z;rcases Res.bind_exc z with z|⟨a,_,z⟩
   ·exact Res.of_noexc c z
   ·cases z
  ·exact fun z=>nomatch z
theorem two{op:PV→PV→Res PV}{ea eb:E}{e:E}{σ:St}{H:Hp}{Q:VK}(hn:∀p q c,op p q≠.exc c)(he:∀env,ay F e env=(ay F ea env).bind fun x=>(ay F eb env).bind fun y=>op x y)
 (h:tE X W F e σ H Q):Fg (sZ W op) (tE X W F ea) (tE X W F eb) σ H Q:=by
 obtain⟨H0,G,env,sr,o⟩:=h
 rw [he] at o;refine one sr o fun p v G1 H1 g1 t1 bR o1=>one bR o1 fun q u G2 H2 g2 t2 eG o2=>?_
 obtain⟨r,hr,kr⟩:=o2.val (hn p q)
 exact⟨H0,G2,p,q,r,eG.sub,t1.top.grow g2,t2.top,hr,fun w G' H' g' gX=>kr w G' H' ((g1.trans g2).trans g') (.of gX)⟩
theorem B4(C:dE Γ F W N sc k X){o:E5}{a b:E}{pa pb:Expr}{pos:Pos}(ha:GE X W F a pa)(hb:GE X W F b pb):GE X W F (.bin o a b) (.BinOp pa (Jw o) pb pos):=
 (Fs (EF C.K o) ha hb).imp fun σ H Q h=>two (fun p q c=>kZ c) (fun env=>by rw [ay]) h
theorem Ck(C:dE Γ F W N sc k X){o:yk}{a b:E}{pa pb:Expr}{pos:Pos}(ha:GE X W F a pa)(hb:GE X W F b pb)(hm:behindInMarks (oC o) pb=false):GE X W F (.cmp o a b) (.Compare pa [oC o] [pb] pos):=
 (A2 (fw C.K C.room.units o) ha hb hm).imp fun σ H Q h=>two (fun p q c=>c7 c) (fun env=>by rw [ay]) h
theorem C9(C:dE Γ F W N sc k X){o:yk}{a b:E}{pa pb:Expr}{pos:Pos}(ha:GE X W F a pa)(hb:GE X W F b pb)(hm:behindInMarks (oC o) pb=false):GT X W F (.cmp o a b) (.Compare pa [oC o] [pb] pos):=
 (Bk (fw C.K C.room.units o) ha hb hm).imp fun σ H Q h=>by
  have h2:=qd σ H Q h
  exact two (fun p q c=>c7 c) (fun env=>by rw [ay]) h2
theorem BF{c1 c2:yk}{a b c:E}(σ:St)(H:Hp)(Q:VK)(h:tE X W F (.ch c1 c2 a b c) σ H Q):q8 (sZ W (da c1)) (sZ W (da c2)) (tE X W F a) (tE X W F b) (tE X W F c) σ H Q:=by
 obtain⟨H0,G,env,sr,o⟩:=h
 rw [ay] at o;refine one sr o fun p v G1 H1 g1 t1 bR o1=>one bR o1 fun q u G2 H2 g2 t2 eG o2=>?_
 obtain⟨r,hr,kr⟩:=o2.bind.val (c7)
 refine⟨H0,G2,p,q,r,eG.sub,t1.top.grow g2,t2.top,hr,fun w G3 H3 g3 gX=>?_⟩
 cases r with
 |bl t=>
  simp only [Rep] at gX;subst gX;refine⟨t,rfl,?_⟩;cases t with
  |false=>
   rw [if_neg zzf];have eL:Out X W (Res.ok (PV.bl false)) σ G2 H2 _:=kr
   exact eL _ G3 H3 ((g1.trans g2).trans g3) (.of .b)
  |true=>
   rw [if_pos rfl];have eL:Out X W ((ay F c env).bind fun z=>da c2 q z) σ G2 H2 _:=kr
   refine one (eG.grow g3) (eL.grow g3) fun z y G4 H4 g4 t4 B9 o4=>?_
   obtain⟨r4,hr4,kr4⟩:=o4.val (c7)
   exact⟨H0,G4,q,z,r4,B9.sub,t2.top.grow (g3.trans g4),t4.top,hr4,fun w G5 H5 g5 Mj=>kr4 w G5 H5 ((((g1.trans g2).trans g3).trans g4).trans g5) (.of Mj)⟩
 |non=>exact False.elim kr
 |int _=>exact False.elim kr
 |str _=>exact False.elim kr
 |tup _=>exact False.elim kr
 |lst _=>exact False.elim kr
 |exc _=>exact False.elim kr
 |dct _ _=>exact False.elim kr
theorem FY(C:dE Γ F W N sc k X){o1 o2:yk}{a b c:E}{pa pb pc:Expr}{pos:Pos}(ha:GE X W F a pa)(hb:GE X W F b pb)(hc:GE X W F c pc)(hm:lastMarks [oC o1,oC o2] [pb,pc]=false):GE X W F (.ch o1 o2 a b c) (.Compare pa [oC o1,oC o2] [pb,pc] pos):=
 (w5 (fw C.K C.room.units o1) (fw C.K C.room.units o2) ha hb hc hm).imp BF
theorem HC(C:dE Γ F W N sc k X){o1 o2:yk}{a b c:E}{pa pb pc:Expr}{pos:Pos}(ha:GE X W F a pa)(hb:GE X W F b pb)(hc:GE X W F c pc)(hm:lastMarks [oC o1,oC o2] [pb,pc]=false):GT X W F (.ch o1 o2 a b c) (.Compare pa [oC o1,oC o2] [pb,pc] pos):=
 (ya (fw C.K C.room.units o1) (fw C.K C.room.units o2) ha hb hc hm).imp fun σ H Q h=>BF σ H _ (qd σ H Q h)
theorem D3{a:E}{pa:Expr}{pos:Pos}(ha:GE X W F a pa):GE X W F (.neg a) (.UnaryOp .USub pa pos):=
 (GJ (zU (W:=W)) ha).imp fun σ H Q h=>by
  obtain⟨H0,G,env,sr,o⟩:=h
  rw [ay] at o;refine one sr o fun p v G1 H1 g1 t1 bR o1=>?_
  cases p with
  |int i=>exact⟨H0,G1,i,bR.sub,t1.top,fun w G' H' g' gX=>o1 w G' H' (g1.trans g') (.of gX)⟩
  |bl _=>exact False.elim o1
  |non=>exact False.elim o1
  |str _=>exact False.elim o1
  |tup _=>exact False.elim o1
  |lst _=>exact False.elim o1
  |exc _=>exact False.elim o1
  |dct _ _=>exact False.elim o1
theorem Cm{a:E}{pa:Expr}{pos:Pos}(ha:GE X W F a pa):GE X W F (.not a) (.UnaryOp .Not pa pos):=
 (EC ha).imp fun σ H Q h=>by
  obtain⟨H0,G,env,sr,o⟩:=h
  rw [ay] at o;refine one sr o fun p v G1 H1 g1 t1 bR o1=>?_
  cases p with
  |bl b=>exact⟨b,t1.top.bl,o1 _ G1 H1 g1 (.of .b)⟩
  |int _=>exact False.elim o1
  |non=>exact False.elim o1
  |str _=>exact False.elim o1
  |tup _=>exact False.elim o1
  |lst _=>exact False.elim o1
  |exc _=>exact False.elim o1
  |dct _ _=>exact False.elim o1
theorem Dq{a:E}{pa:Expr}{pos:Pos}(ha:GT X W F a pa):GT X W F (.not a) (.UnaryOp .Not pa pos):=
 (D4 ha).imp fun σ H Q h=>by
  obtain⟨H0,G,env,sr,o⟩:=h
  rw [ay] at o;refine AS sr o fun b G1 H1 g1 bR o1=>?_
  obtain⟨b',e,q⟩:=o1
  cases e;exact q G1 H1 g1
theorem x6{a b:E}{pa pb:Expr}{r:List Expr}{pos:Pos}(he:fH b=true)(ha:GE X W F a pa)(hb:GE X W F b (.BoolOp .And (pb::r) pos)):GE X W F (.and a b) (.BoolOp .And (pa::pb::r) pos):=
 (DT ha hb).imp fun σ H Q h=>by
  obtain⟨H0,G,env,sr,o⟩:=h
  rw [ay] at o;refine one sr o fun p v G1 H1 g1 t1 bR o1=>?_
  cases p with
  |bl t=>
   refine⟨t,t1.top.bl,?_⟩;cases t with
   |true=>
    rw [if_pos rfl];have pN:Out X W (ay F b env) σ G1 H1 _:=o1
    exact⟨H0,G1,env,bR,pN.imp fun p hp v G' H' g' t'=>hp v G' H' (g1.trans g') (.of (t'.rep he))⟩
   |false=>
    rw [if_neg zzf];have pN:Out X W (Res.ok (PV.bl false)) σ G1 H1 _:=o1
    exact pN _ G1 H1 g1 (.of .b)
  |int _=>exact False.elim o1
  |non=>exact False.elim o1
  |str _=>exact False.elim o1
  |tup _=>exact False.elim o1
  |lst _=>exact False.elim o1
  |exc _=>exact False.elim o1
  |dct _ _=>exact False.elim o1
theorem BO{a b:E}{pa pb:Expr}{r:List Expr}{pos:Pos}(he:fH b=true)(ha:GE X W F a pa)(hb:GE X W F b (.BoolOp .Or (pb::r) pos)):GE X W F (.or a b) (.BoolOp .Or (pa::pb::r) pos):=
 (G6 ha hb).imp fun σ H Q h=>by
  obtain⟨H0,G,env,sr,o⟩:=h
  rw [ay] at o;refine one sr o fun p v G1 H1 g1 t1 bR o1=>?_
  cases p with
  |bl t=>
   refine⟨t,t1.top.bl,?_⟩;cases t with
   |false=>
    rw [if_neg zzf];have pN:Out X W (ay F b env) σ G1 H1 _:=o1
    exact⟨H0,G1,env,bR,pN.imp fun p hp v G' H' g' t'=>hp v G' H' (g1.trans g') (.of (t'.rep he))⟩
   |true=>
    rw [if_pos rfl];have pN:Out X W (Res.ok (PV.bl true)) σ G1 H1 _:=o1
    exact pN _ G1 H1 g1 (.of .b)
  |int _=>exact False.elim o1
  |non=>exact False.elim o1
  |str _=>exact False.elim o1
  |tup _=>exact False.elim o1
  |lst _=>exact False.elim o1
  |exc _=>exact False.elim o1
  |dct _ _=>exact False.elim o1
theorem wM{a b:E}{pa pb:Expr}{r:List Expr}{pos:Pos}(ha:GT X W F a pa)(hb:GW X W F b (.BoolOp .And (pb::r) pos)):GW X W F (.and a b) (.BoolOp .And (pa::pb::r) pos):=
 (pw_and ha hb).imp fun σ H Q h=>by
  obtain⟨H0,G,env,sr,o⟩:=h
  rw [ay] at o;refine AS sr o fun t G1 H1 g1 bR o1=>?_
  cases t with
  |true=>
   rw [if_pos rfl];have pN:Out X W (ay F b env) σ G1 H1 _:=o1
   exact⟨H0,G1,env,bR,pN.imp fun p hp=>by obtain⟨c,rfl,q⟩:=hp;exact⟨c,rfl,fun G' H' g'=>q G' H' (g1.trans g')⟩⟩
  |false=>
   rw [if_neg zzf];obtain⟨c,e,q⟩:=(show Out X W (Res.ok (PV.bl false)) σ G1 H1 _ from o1)
   cases e;exact q G1 H1 g1
theorem BL{a b:E}{pa pb:Expr}{r:List Expr}{pos:Pos}(ha:GT X W F a pa)(hb:GW X W F b (.BoolOp .Or (pb::r) pos)):GW X W F (.or a b) (.BoolOp .Or (pa::pb::r) pos):=
 (pw_or ha hb).imp fun σ H Q h=>by
  obtain⟨H0,G,env,sr,o⟩:=h
  rw [ay] at o;refine AS sr o fun t G1 H1 g1 bR o1=>?_
  cases t with
  |false=>
   rw [if_neg zzf];have pN:Out X W (ay F b env) σ G1 H1 _:=o1
   exact⟨H0,G1,env,bR,pN.imp fun p hp=>by obtain⟨c,rfl,q⟩:=hp;exact⟨c,rfl,fun G' H' g'=>q G' H' (g1.trans g')⟩⟩
  |true=>
   rw [if_pos rfl];obtain⟨c,e,q⟩:=(show Out X W (Res.ok (PV.bl true)) σ G1 H1 _ from o1)
   cases e;exact q G1 H1 g1
theorem CB{c a b:E}{pc pa pb:Expr}{pos:Pos}(MR:fH a=true)(MI:fH b=true)(hc:GT X W F c pc)(ha:GE X W F a pa)(hb:GE X W F b pb):GE X W F (.ite c a b) (.IfExp pc pa pb pos):=
 (vH hc ha hb).imp fun σ H Q h=>by
  obtain⟨H0,G,env,sr,o⟩:=h
  rw [ay] at o;refine AS sr o fun t G1 H1 g1 bR o1=>?_
  cases t with
  |true=>
   rw [if_pos rfl];have pN:Out X W (ay F a env) σ G1 H1 _:=o1
   exact⟨H0,G1,env,bR,pN.imp fun p hp v G' H' g' t'=>hp v G' H' (g1.trans g') (.of (t'.rep MR))⟩
  |false=>
   rw [if_neg zzf];have pN:Out X W (ay F b env) σ G1 H1 _:=o1
   exact⟨H0,G1,env,bR,pN.imp fun p hp v G' H' g' t'=>hp v G' H' (g1.trans g') (.of (t'.rep MI))⟩
end
end Ci
namespace Ci
open PySem L2
section
variable{Γ:Pg}{X:Cx}{W:Wd}{F:aS}{N:List Str}{sc:Scope}{k:Nat}
noncomputable def tF(X:Cx)(W:Wd)(F:aS)(e:E):TE:=fun σ H Q=>∃H0 G env,SR W H0 env σ G H∧Out X W (ay F e env) σ G H fun p=>∃xs,p=.lst xs∧∀a vs G' H',aJ W G H G' H'→H' a=none→aq W G' xs vs→Q (.ref a) (upd H' a (.lst vs))
abbrev GF(X:Cx)(W:Wd)(F:aS)(e:E)(p:Expr):Prop:=PE X p (tF X W F e)
theorem GF.ge{e:E}{p:Expr}(h:GF X W F e p)(hl:∀env q,ay F e env=.ok q→∃xs,q=.lst xs):GE X W F e p:=
 L2.PE.imp h fun σ H Q hq=>by
  obtain⟨H0,G,env,sr,o⟩:=hq
  refine⟨H0,G,env,sr,?_⟩;cases r:ay F e env with
  |bad=>rw [r] at o;exact o
  |exc c=>rw [r] at o;exact o
  |ok q=>
   rw [r] at o;obtain⟨xs,rfl⟩:=hl env q r
   exact⟨xs,rfl,fun a vs G' H' g ha l=>o _ _ _ (g.trans (.new g.sub ha)) (.of (.l (.inl (.inl au)) (aq.same (bA (g.sub.free ha)) xs l)))⟩
theorem notStar{e:E}{p:Expr}(h:bf Γ N sc e p=true):∀env ps,starEach (p::ps) env=(false,eval p env)::starEach ps env:=by
 intro env ps;cases p<;>first|rfl|(cases e<;>first|(exact absurd h zzf)|(rename_i q;cases q<;>exact absurd h zzf))
theorem eo:∀{es:Es} {ps:List Expr},iB Γ N sc es ps=true→∀env pos,(backTo pos (starEach ps env)).any (·.1)=false
 |.nil,[],_,_,_=>rfl
 |.cons e es,p::ps,h,env,pos=>by
  replace h:=aG h
  rw [notStar h.1];show(false||(backTo pos (starEach ps env)).any (·.1))=false
  rw [eo h.2]
  rfl
 |.nil,_::_,h,_,_=>absurd h zzf
 |.cons _ _,[],h,_,_=>absurd h zzf
abbrev GA(X:Cx)(W:Wd)(F:aS)(es:Es)(ps:List Expr):Prop:=PA X ps (tA X W F es)
theorem Dh:GA X W F .nil []:=L2.PA.imp dW fun σ H Q h=>by
 obtain⟨H0,G,env,sr,o⟩:=h
 rw [ak] at o;exact o [] G H (.refl sr.sub) ⟨.nil,fun _=>.nil⟩
theorem AW{e:E}{es:Es}{p:Expr}{ps:List Expr}(he:GE X W F e p)(hs:GA X W F es ps)(dH:starEach (p::ps) X.env=(false,eval p X.env)::starEach ps X.env):GA X W F (.cons e es) (p::ps):=
 L2.PA.imp (cH he hs dH) fun σ H Q h=>by
  obtain⟨H0,G,env,sr,o⟩:=h
  rw [ak] at o;refine one sr o fun q v G1 H1 g1 t1 bR o1=>args bR o1 fun qs vs G2 H2 g2 t2 eG o2=>?_
  refine o2 (v::vs) G2 H2 (g1.trans g2) ⟨.cons (t1.top.grow g2) t2.top,fun z=>?_⟩
  unfold fI at z;rw [Bool.and_eq_true] at z;exact .cons (Rep.same g2.g q (t1.rep z.1)) (t2.rep z.2)
theorem gy:∀{es:Es} {env:Sl} {ps:List PV},ak F es env=.ok ps→ps.length=gM es
 |.nil,env,ps,h=>by rw [ak] at h;cases h;rfl
 |.cons e es,env,ps,h=>by
  rw [ak] at h;obtain⟨p,_,h⟩:=Res.bind_ok h
  obtain⟨qs,hq,h⟩:=Res.bind_ok h
  cases h;rw [List.length_cons,gy hq]
  rfl
theorem C7{es:Es}{ps:List Expr}{x1:Nat}{pos:Pos}(w4:fI es=true)(hl:gM es<1000)(h:GA X W F es ps):GE X W F (.tup es) (.Tuple ps x1 pos):=
 L2.PE.imp (DQ h) fun σ H Q hq=>by
  obtain⟨H0,G,env,sr,o⟩:=hq
  rw [ay] at o;have o':=o
  refine⟨H0,G,env,sr,?_⟩;cases r:ak F es env with
  |bad=>rw [r] at o;exact o
  |exc c=>rw [r] at o;exact o
  |ok qs=>
   rw [r] at o;have hlen:=gy r
   intro vs G1 H1 g1 t;have l:=t.rep w4
   refine⟨by rw [l.length,hlen];exact Nat.le_of_lt (Nat.lt_trans hl (by decide)),fun p hp=>?_⟩
   exact o _ _ _ (g1.trans (.new g1.sub hp)) (.of (.t (.inl au) (aq.same (bA (g1.sub.free hp)) qs l)))
theorem wU{es:Es}{ps:List Expr}{pos:Pos}(w4:fI es=true)(hl:gM es<1000)(h:GA X W F es ps):GF X W F (.lst es) (.List ps pos):=
 L2.PE.imp (CT h) fun σ H Q hq=>by
  obtain⟨H0,G,env,sr,o⟩:=hq
  rw [ay] at o;refine⟨H0,G,env,sr,?_⟩;cases r:ak F es env with
  |bad=>rw [r] at o;exact o
  |exc c=>rw [r] at o;exact o
  |ok qs=>
   rw [r] at o;have hlen:=gy r
   obtain⟨xs,e,o⟩:=o
   cases e;intro vs G1 H1 g1 t;have l:=t.rep w4
   exact⟨by rw [l.length,hlen];exact Nat.le_of_lt (Nat.lt_trans hl (by decide)),fun p hp=>o p vs G1 H1 g1 hp l⟩
theorem lst_is{es:Es}:∀env q,ay F (.lst es) env=.ok q→∃xs,q=.lst xs:=fun env q h=>by
 rw [ay] at h;obtain⟨ps,_,h⟩:=Res.bind_ok h
 cases h;exact⟨_,rfl⟩
theorem uq{p q:PV}(c:Str):aQ p q≠.exc c:=by
 unfold aQ;split
 ·exact Res.of_noexc c
 ·exact Res.of_noexc c
 ·split
  ·intro z;rcases Res.bind_exc z with z|⟨a,_,z⟩
   ·exact Res.of_noexc c z
   ·cases z
  ·exact fun z=>nomatch z
 ·intro z;rcases Res.bind_exc z with z|⟨a,_,z⟩
  ·exact Res.of_noexc c z
  ·exact Res.of_noexc c z
 ·exact fun z=>nomatch z
theorem Ds(C:dE Γ F W N sc k X){a b:E}{pa pb:Expr}{pos:Pos}(ha:GE X W F a pa)(hb:GE X W F b pb)(hs:ni pb):GE X W F (.sub a b) (.Subscript pa pb pos):=
 (Bo (JC C.K C.room.units) ha hb hs).imp fun σ H Q h=>two (fun p q c=>uq c) (fun env=>by rw [ay]) h
theorem yo{e:E}{p:Expr}(h:bf Γ N sc e p=true):ni p:=by
 intro o i;cases p<;>first|rfl|(cases e<;>first|(exact absurd h zzf)|(rename_i q;cases q<;>exact absurd h zzf))
theorem nc{e:E}{p:Expr}(h:bf Γ N sc e p=true)(op:CmpOp):behindInMarks op p=false:=by
 cases p<;>first|rfl|(cases e<;>first|(exact absurd h zzf)|(rename_i q;cases q<;>exact absurd h zzf))
theorem AE:PO X none (xP X W F .no):=fun pins s σ H Q I h=>Aj pins s σ H Q I (by
 obtain⟨H0,G,env,sr,o⟩:=h
 rw [aP] at o;exact o G H (.refl sr.sub))
theorem Av{e:E}{p:Expr}(h:GE X W F e p):PO X (some p) (xP X W F (.some e)):=fun pins s σ H Q I hq=>Bc h pins s σ H Q I (by
 obtain⟨H0,G,env,sr,o⟩:=hq
 rw [aP] at o;refine one sr o fun q v G1 H1 g1 t1 bR o1=>?_
 cases q with
 |int i=>exact⟨i,t1.top.int,o1 G1 H1 g1⟩
 |bl _=>exact False.elim o1
 |non=>exact False.elim o1
 |str _=>exact False.elim o1
 |tup _=>exact False.elim o1
 |lst _=>exact False.elim o1
 |exc _=>exact False.elim o1
 |dct _ _=>exact False.elim o1)
theorem oT{p:PV}{lo hi:Option Int}(c:Str):dM p lo hi≠.exc c:=by
 unfold dM;split
 ·split<;>exact fun z=>nomatch z
 ·split<;>exact fun z=>nomatch z
 ·exact fun z=>nomatch z
theorem xh(C:dE Γ F W N sc k X){a:E}{lo hi:Oe}{pa:Expr}{pl ph:Option Expr}{p2 pos:Pos}(ha:GE X W F a pa)(hl:PO X pl (xP X W F lo))(hh:PO X ph (xP X W F hi)):GE X W F (.slice a lo hi) (.Subscript pa (.Slice pl ph none p2) pos):=
 (vY (J9 C.K) ha hl hh).imp fun σ H Q h=>by
  obtain⟨H0,G,env,sr,o⟩:=h
  rw [ay] at o;refine one sr o fun p v G1 H1 g1 t1 bR o1=>?_
  refine⟨H0,G1,env,bR,o1.bind.imp fun l vN G2 H2 g2=>?_⟩
  refine⟨H0,G2,env,bR.grow g2,(vN.grow g2).bind.imp fun h' Nd G3 H3 g3=>?_⟩
  obtain⟨r,hr,kr⟩:=(Nd.grow g3).val (fun c=>oT c)
  exact⟨H0,G3,p,r,((bR.grow g2).grow g3).sub,t1.top.grow (g2.trans g3),hr,fun w G' H' g' gX=>kr w G' H' (((g1.trans g2).trans g3).trans g') (.of gX)⟩
theorem yM{CX:qm}{f:Addr}{fd:FuncData}{ps:List Str}{sp:Sp}{E:XK}{pins:List (Addr×Obj)}{σ:St}{H:Hp}{s:Shared}{Q:VK}{us:List Value}{vs:List V}(FO:eW X.prog X.w X.K X.mg X.base CX k f fd ps sp)(hr:dc k X.A)(hb:Binds X.K fd ps [])
 (hx:∀e s',CX X.stack H s E e s'→X.xe e s') (I:Inv X pins σ H s) (r:Vals vs us) (h:sp vs H Q E):wpAny (model X.prog X.w) X.A (call (.ref f) us) (EP X pins σ Q) X.xe s:=by
 have hl:us.length=ps.length:=by rw [←r.length];exact FO.len _ _ _ _ h
 have oF:=hb s us I.kIn (by rw [List.append_nil];exact hl)
 rw [List.append_nil] at oF;refine wpAny_call (codeAny_mono (FO.run X.A X.stack s H ⟨us,[]⟩ us vs Q E hr I.env0 oF r h) fun r s' hq=>?_)
 cases r with
 |error e=>exact hx e s' hq
 |ok fl=>
  cases fl with
  |ret u=>exact I.after hq
  |next=>exact False.elim hq
  |brk=>exact False.elim hq
  |cont=>exact False.elim hq
theorem A1.imp{P:Program}{w:World}{outer:List Env}{H:Hp}{s s':Shared}{E E':XK}{e:Value}(h:dA P w outer H s E e s')(i:∀C a H',E C a H'→E' C a H'):dA P w outer H s E' e s':=by
 obtain⟨a,C,t,vs,H',B,rfl,F⟩:=h
 exact⟨a,C,t,vs,H',B,rfl,⟨F.os,F.bare,F.hok,F.fly,F.tn,F.tup,F.keepB,F.thereB,F.un,i _ _ _ F.ends⟩⟩
theorem jd(hr:dc k X.A){f:Str}{fa:Addr}{fd:FuncData}{pn:List Str}{q:Option (Str×List Nat)}{pins:List (Addr×Obj)}{σ:St}{G H:Hp}{s:Shared}{Q:VK}{us:List Value}{vs:List V}{as:List PV}
 (FO:eW X.prog X.w X.K X.mg X.base (dA X.prog X.w) k fa fd pn (vq W F f pn.length q)) (hb:Binds X.K fd pn []) (hlen:F f as≠.bad→vs.length=pn.length)
 (I:Inv X pins σ H s) (sg:aF G H) (tb:cy W G H) (l:vX W G q as vs) (r:Vals vs us) (o:Out X W (F f as) σ G H fun p=>dq W G H p Q):wpAny (model X.prog X.w) X.A (call (.ref fa) us) (EP X pins σ Q) X.xe s:=by
 have xD:F f as≠.bad:=fun z=>by rw [z] at o;exact o
 refine yM (E:=fun Cv ao H'=>∃c,F f as=.exc c∧XE W c G H Cv ao H') FO hr hb (fun e s' x=>?_) I r ⟨hlen xD,G,as,sg,tb,l,?_⟩
 ·cases z:F f as with
  |ok q=>
   obtain⟨a,C',t,vs,H',B,rfl,Fl⟩:=x
   obtain⟨c,e1,_⟩:=Fl.ends
   rw [z] at e1;cases e1
  |exc c=>
   rw [z] at o;refine o pins G H s e s' I (.refl sg) (A1.imp x fun C1 a H' y=>?_);obtain⟨c',e1,y⟩:=y
   rw [z] at e1;cases e1;exact y
  |bad=>exact absurd z xD
 ·cases z:F f as with
  |ok q=>
   rw [z] at o;exact fun v G' H' g' rp=>o v G' H' g' rp
  |exc c=>exact fun Cv ao H' x=>⟨c,rfl,x⟩
  |bad=>exact absurd z xD
theorem dE.rm(C:dE Γ F W N sc k X):dc k X.A:=C.room.mono (Nat.le_succ k)
theorem zR(C:dE Γ F W N sc k X){f:Str}{e:E}{es:Es}{p:Expr}{ps:List Expr}{np pos:Pos}(hf:Γ.fs.contains f=true)(hg:ic sc f=true)(ho:okN f=true)(w4:fI (.cons e es)=true)(ha:GA X W F (.cons e es) (p::ps))
 (dH:starEach (p::ps) X.env=(false,eval p X.env)::starEach ps X.env) (hpl:(backTo pos (starEach ps X.env)).any (·.1)=false):GE X W F (.call f (.cons e es)) (.Call (.Name f np) (p::ps) [] pos):=by
 intro pins s σ H Q I h;obtain⟨H0,G,env,sr,o⟩:=h
 rw [ay] at o;obtain⟨fa,fd,pn,FO,hm,hk,hb,hlen⟩:=(C.fns f hf).ex
 refine wpAny_Call_Name_kw (fu I (eU C hg) hm ?_ (cV ho).1);refine PySem.W.callWith_K (h₀:=X.base) I.ok.mod.kin hk (bL (ha pos pins s σ H (fun vs H1=>∃G1 as,aF G1 H1∧cy W G1 H1∧aq W G1 as vs∧Out X W (F f as) σ G1 H1 fun p=>dq W G1 H1 p Q) I ?_) fun us s1 ⟨vs,H1,I1,r,q⟩=>⟨I1.kIn,?_⟩) dH hpl
 ·refine args sr o fun as vs G1 H1 g1 t bR o1=>⟨G1,as,bR.sub,bR.tab,t.rep w4,o1.imp fun p hp v G' H' g' rp=>hp v G' H' (g1.trans g') (.of rp)⟩
 ·obtain⟨G1,as,sg,tb,l,o1⟩:=q
  exact jd C.rm FO hb (fun z=>by rw [l.length];exact hlen as z) I1 sg tb l r o1
theorem xN(C:dE Γ F W N sc k X){f:Str}{np pos:Pos}(hf:Γ.fs.contains f=true)(hg:ic sc f=true)(ho:okN f=true):GE X W F (.call f .nil) (.Call (.Name f np) [] [] pos):=by
 intro pins s σ H Q I h;obtain⟨H0,G,env,sr,o⟩:=h
 rw [ay,ak] at o;obtain⟨fa,fd,pn,FO,hm,hk,hb,hlen⟩:=(C.fns f hf).ex
 refine wpAny_Call_Name_kw (fu I (eU C hg) hm ?_ (cV ho).1);refine PySem.W.callWith_K0 I.kIn hk ?_;have o':Out X W (F f []) σ G H fun p=>∀v G' H',aJ W G H G' H'→Got W H0 G' H' (.call f .nil) p v→Q v H':=o
 exact jd (us:=[]) (vs:=[]) (as:=[]) (q:=none) C.rm FO hb (fun z=>hlen [] z) I sr.sub sr.tab (show aq W G [] [] from .nil) .nil (o'.imp fun p hp v G' H' g' rp=>hp v G' H' g' (.of rp))
theorem ud{b:B}{ps:List PV}(c:Str):du b ps≠.exc c:=by
 cases b
 case len => show qH ps≠_;unfold qH;repeat' split
             all_goals exact fun z=>nomatch z
 case abs=>show wV ps≠_;unfold wV;split<;>exact fun z=>nomatch z
 case max2=>show v7 ps≠_;unfold v7;split<;>exact fun z=>nomatch z
 case int=>
  show wo ps≠_
  unfold wo;split
  ·split
   ·intro z;rcases Res.bind_exc z with z|⟨a,_,z⟩
    ·exact Res.of_noexc c z
    ·cases z
   ·exact fun z=>nomatch z
  ·exact fun z=>nomatch z
 case str => show wW ps≠_;unfold wW;repeat' split
             all_goals exact fun z=>nomatch z
 case tuple=>show jf ps≠_;unfold jf;split<;>exact fun z=>nomatch z
 case sorted=>
  show gj ps≠_
  unfold gj;split
  ·intro z;rcases Res.bind_exc z with z|⟨a,_,z⟩
   ·exact Res.of_noexc c z
   ·split at z<;>cases z
  ·split<;>exact fun z=>nomatch z
  ·exact fun z=>nomatch z
theorem DW(C:dE Γ F W N sc k X)(b:B){e:Expr}{es:List Expr}{t:TA}{np pos:Pos}(hg:ic sc (bN b)=true)(hm:Γ.bs.contains (bN b)=true)(ha:PA X (e::es) t)
 (he:starEach (e::es) X.env=(false,eval e X.env)::starEach es X.env) (hpl:(backTo pos (starEach es X.env)).any (·.1)=false):PE X (.Call (.Name (bN b) np) (e::es) [] pos) (Ir (Aw W (du b)) t):=by
 have qo:=C.bs _ (List.contains_iff_mem.mp hm)
 have tY:=eU C hg
 cases b
 case len=>exact fg (vd C.K) tY qo PySem.boot_len ha (he:=he) (hpl:=hpl)
 case abs=>exact fg uw tY qo (by decide+kernel) ha (he:=he) (hpl:=hpl)
 case max2=>exact fg (uZ C.calm) tY qo (by decide+kernel) ha (he:=he) (hpl:=hpl)
 case int=>exact hX uU tY qo (by decide+kernel) ha (he:=he) (hpl:=hpl)
 case str=>exact hX tJ tY qo (by decide+kernel) ha (he:=he) (hpl:=hpl)
 case tuple=>exact hX (qi C.K) tY qo (by decide+kernel) ha (he:=he) (hpl:=hpl)
 case sorted=>exact fg (mO C.K C.calm) tY qo (by decide+kernel) ha (he:=he) (hpl:=hpl)
theorem D1{op:List PV→Res PV}{es:Es}{e:E}{σ:St}{H:Hp}{Q:VK}(hn:∀ps c,op ps≠.exc c)(he:∀env,ay F e env=(ak F es env).bind fun ps=>op ps)(h:tE X W F e σ H Q):Ir (Aw W op) (tA X W F es) σ H Q:=by
 obtain⟨H0,G,env,sr,o⟩:=h
 rw [he] at o;refine args sr o fun ps vs G1 H1 g1 t bR o1=>?_
 obtain⟨r,hr,kr⟩:=o1.val (hn ps)
 exact⟨H0,G1,ps,r,bR.sub,t.top,hr,fun w G' H' g' gX=>kr w G' H' (g1.trans g') (.of gX)⟩
theorem EL(C:dE Γ F W N sc k X)(b:B){es:Es}{e:Expr}{ps:List Expr}{np pos:Pos}(hg:ic sc (bN b)=true)(hm:Γ.bs.contains (bN b)=true)(ha:GA X W F es (e::ps))
 (he:starEach (e::ps) X.env=(false,eval e X.env)::starEach ps X.env) (hpl:(backTo pos (starEach ps X.env)).any (·.1)=false):GE X W F (.blt b es) (.Call (.Name (bN b) np) (e::ps) [] pos):=
 (DW C b hg hm ha he hpl).imp fun σ H Q h=>D1 (fun ps c=>ud c) (fun env=>by rw [ay]) h
end
end Ci
namespace Ci
open PySem L2
section
variable{Γ:Pg}{X:Cx}{W:Wd}{F:aS}{N:List Str}{sc:Scope}{k:Nat}
theorem wQ{t:Ty}{p:PV}(c:Str):ax t p≠.exc c:=by
 cases p<;>exact fun z=>nomatch z
theorem Em(C:dE Γ F W N sc k X)(t:Ty){pos:Pos}(hg:ic sc (Str.ofString (qv t))=true)(hm:Γ.bs.contains (Str.ofString (qv t))=true):PE X (.Name (Str.ofString (qv t)) pos) (tC (.ty (qv t))):=by
 have qo:=C.bs _ (List.contains_iff_mem.mp hm)
 have tY:=eU C hg
 cases t
 all_goals exact AA tY qo (u:=.type _) (by decide+kernel) rfl (by decide+kernel) (by decide+kernel)
theorem BD(C:dE Γ F W N sc k X){t:Ty}{a:E}{pa:Expr}{np tp pos:Pos}(hi:ic sc "isinstance"=true)(hb:Γ.bs.contains "isinstance"=true)(hg:ic sc (Str.ofString (qv t))=true)(hm:Γ.bs.contains (Str.ofString (qv t))=true)(ha:GE X W F a pa)
 (dH:∀env ps,starEach (pa::ps) env=(false,eval pa env)::starEach ps env):GE X W F (.ty t a) (.Call (.Name "isinstance" np) [pa,.Name (Str.ofString (qv t)) tp] [] pos):=by
 refine(fg (xA C.K t) (eU C hi) (C.bs _ (List.contains_iff_mem.mp hb)) (by decide+kernel) (cH ha (cH (Em C t hg hm) dW) (dH _ _)) (he:=dH _ _)).imp fun σ H Q h=>?_
 obtain⟨H0,G,env,sr,o⟩:=h
 rw [ay] at o;refine one sr o fun p v G1 H1 g1 t1 bR o1=>?_
 obtain⟨r,hr,kr⟩:=o1.val (fun c=>wQ c)
 exact⟨v,H0,G1,p,r,rfl,bR.sub,t1.top,hr,fun w G' H' g' gX=>kr w G' H' (g1.trans g') (.of gX)⟩
end
end Ci
namespace Ci
open PySem L2
section
variable{Γ:Pg}{X:Cx}{W:Wd}{F:aS}{N:List Str}{sc:Scope}{k:Nat}
theorem SR.set{H0 G H:Hp}{env:Sl}{σ:St}{p:PV}{v:V}(i:Nat)(r:SR W H0 env σ G H)(h:Rep W G p v):SR W H0 (env.set i (.val p)) (σ.set i (some v)) G H where
 len:=by simpa using r.len
 sub:=r.sub
 tab:=r.tab
 tab0:=r.tab0
 base:=r.base
 slot:=fun j s e=>by
  by_cases hj:i=j
  ·subst hj;have cm:i<env.length:=by
    have:=(List.getElem?_eq_some_iff.mp e).1
    simpa using this
   rw [List.getElem?_set_self cm] at e;cases e;exact⟨some v,List.getElem?_set_self (by rw [←r.len];exact cm),v,rfl,h⟩
  ·rw [List.getElem?_set_ne hj] at e;obtain⟨o,h1,h2⟩:=r.slot j s e
   exact⟨o,by rw [List.getElem?_set_ne hj];exact h1,h2⟩
 apart:=fun a b q q' ad e1 e2 e3 e4=>by
  have ne:∀{c:Nat} {q:PV},(env.set i (.val p))[c]?=some (.own q)→i≠c:=fun{c q} e z=>by
   subst z;have cm:i<env.length:=by
    have:=(List.getElem?_eq_some_iff.mp e).1
    simpa using this
   rw [List.getElem?_set_self cm] at e;cases e
  have n1:=ne e1
  have n2:=ne e2
  rw [List.getElem?_set_ne n1] at e1 e3;rw [List.getElem?_set_ne n2] at e2 e4;exact r.apart a b q q' ad e1 e2 e3 e4
noncomputable def gT(K:PySem.W.Frag):Tg→TG
 |.one i=>fM i
 |.two i j=>Hq K 2 (vL (fM i) (vL (fM j) Fy))
theorem qI{K:PySem.W.Frag}(hK:W.K=K){tg:Tg}{H0 G H:Hp}{env az:Sl}{σ:St}{p:PV}{v:V}{Q:St→Hp→Prop}(e:Tg.put tg p env=.ok az)(r:SR W H0 env σ G H)(h:Rep W G p v)(hq:∀σ',SR W H0 az σ' G H→Q σ' H):gT K tg v σ H Q:=by
 unfold Tg.put at e;split at e
 ·cases e;exact hq _ (r.set _ h)
 ·cases e;simp only [Rep] at h;obtain⟨a,vs,rfl,sq,l⟩:=h
  obtain⟨v1,r1,rfl,h1,l⟩:=l.uncons
  obtain⟨v2,r2,rfl,h2,l⟩:=l.uncons
  simp only [aq] at l;subst l;rw [hK] at sq;exact⟨a,_,rfl,aF.tup r.sub sq.sq,rfl,_,_,rfl,_,_,rfl,rfl,hq _ ((r.set _ h1).set _ h2)⟩
 ·cases e
theorem vW{x:Str}(hsc:X.env.scope=sc)(h:di sc x=true):Loc X.env.scope x:=by
 rw [hsc];unfold di at h;simp only [Bool.or_eq_true,beq_iff_eq] at h;exact h
theorem v9{fn:Str→Bool}{tg:Tg}{p:Expr}(hN:X.N=N)(nd:N.Nodup)(hsc:X.env.scope=sc)(hc:X.calm=true)(oV:∀x,fn x=true→X.fn x=true)(h:eZ N sc fn tg p=true):PG X p (gT X.K tg):=by
 have nm:∀{i:Nat} {x:Str} {pos:Pos},(N[i]?==some x&&di sc x&&(fn x||sc.names.lookup x==some .local))=true→PG X (.Name x pos) (fM i):=fun{i x pos} h=>by
  simp only [Bool.and_eq_true,beq_iff_eq,Bool.or_eq_true] at h;refine zV (by rw [hN];exact nd) (by rw [hN];exact h.1.1) (vW hsc h.1.2) ?_;rcases h.2 with z|z
  ·exact .inl (oV x z)
  ·exact .inr (by rw [hsc];exact z)
 unfold eZ at h;split at h
 ·exact nm h
 ·rw [Bool.and_eq_true] at h;exact DD hc (pJ (nm h.1) (pJ (nm h.2) yP))
 ·cases h
def tV(W:Wd)(J:It)(G B:Hp)(ps:List PV):Prop:=∀(i:Nat) (G' H':Hp),aF G G'→gH B H'→aF G' H'→
 (i=ps.length→J.stop i H')∧∀p,ps[i]?=some p→J.go i H'∧∀x oB,J.yld i H' x oB→∃sI,aJ W G' H' sI oB∧Rep W sI p x
structure IU(W:Wd)(G H:Hp)(it:I)(J:It)(ps:List PV):Prop where
 any:tV W J G H ps
 frz:Ar it=true→tV W J G G ps
noncomputable def tI(X:Cx)(W:Wd)(F:aS)(it:I):TI:=fun σ H R=>∃H0 G env,SR W H0 env σ G H∧Out X W (aO F it env) σ G H fun ps=>∀J G' H',aJ W G H G' H'→IU W G' H' it J ps→R J H'
abbrev GI(X:Cx)(W:Wd)(F:aS)(tg:Expr)(it:I)(p:Expr):Prop:=PI X tg p (tI X W F it)
theorem sH(hK:W.K=X.K){G B:Hp}{a:Addr}{vs:List V}{ps:List PV}(h:LsR W.K B a vs)(l:aq W G ps vs):tV W (Iz X.K a) G B ps:=fun i G' H' sG sB sub=>by
 have hq:lI X.K H' a vs:=eO hK (gH.ls sB h)
 refine⟨fun hi=>⟨vs,hq,by rw [l.length];omega⟩,fun p hp=>?_⟩
 obtain⟨v,hv,rv⟩:=l.getP hp
 refine⟨⟨vs,v,hq,hv⟩,fun x oB hy=>?_⟩
 obtain⟨rfl,hy⟩:=hy
 have:=hy vs hq
 rw [hv] at this;cases this;exact⟨G',.refl sub,Rep.same sG p rv⟩
theorem uh{z:Str}{i:Nat}{p:PV}(h:(chars z)[i]?=some p):∃c,z.cps[i]?=some c∧p=.str ⟨#[c]⟩:=by
 unfold chars at h;rw [List.getElem?_map] at h;obtain⟨c,hc,rfl⟩:=Option.map_eq_some_iff.mp h
 rw [Array.getElem?_toList] at hc;exact⟨c,hc,rfl⟩
theorem vh(z:Str):(chars z).length=z.cps.size:=by unfold chars;rw [List.length_map,Array.length_toList]
theorem mZ{G B:Hp}(lo:Int)(n:Nat):tV W (FX lo n) G B (eK lo n):=fun i G' H' sG sB sub=>by
 unfold eK;refine⟨fun hi=>by rw [List.length_map,List.length_range] at hi;exact Nat.le_of_eq hi.symm,fun p hp=>?_⟩
 rw [List.getElem?_map] at hp;obtain⟨c,hc,rfl⟩:=Option.map_eq_some_iff.mp hp
 obtain⟨h1,h2⟩:=List.getElem?_eq_some_iff.mp hc
 rw [List.length_range] at h1;rw [List.getElem_range] at h2;subst h2;refine⟨h1,fun x oB hy=>?_⟩
 obtain⟨rfl,rfl⟩:=hy
 exact⟨G',.refl sub,.i⟩
theorem pC{G H:Hp}{p q:PV}{v u:V}{a:Addr}(sub:aF G H)(ha:H a=none)(h1:Rep W G p v)(h2:Rep W G q u):∃sI,aJ W G H sI (upd H a (.tup [v,u]))∧Rep W sI (.tup [p,q]) (.ref a):=
 ⟨_,.new sub ha,.t (.inl au) (aq.same (bA (sub.free ha)) _ (.cons h1 (.cons h2 .nil)))⟩
theorem jW:∀{xs:List PV} {n i:Nat} {p:PV},(cC n xs)[i]?=some p→∃x,xs[i]?=some x∧p=.tup [.int ((n+i:Nat):Int),x]
 |[],_,_,_,h=>by simp [cC] at h
 |x::xs,n,0,p,h=>by simp [cC] at h;exact⟨x,rfl,by rw [←h];simp⟩
 |x::xs,n,i+1,p,h=>by
  simp only [cC,List.getElem?_cons_succ] at h;obtain⟨y,h1,h2⟩:=jW h
  exact⟨y,by simpa using h1,by rw [h2,show n+1+i=n+(i+1) by omega]⟩
theorem cx:∀(xs:List PV) (n:Nat),(cC n xs).length=xs.length
 |[],_=>rfl
 |_::xs,n=>by simp only [cC,List.length_cons,cx xs]
theorem p7{K:PySem.W.Frag}{G B:Hp}{a:Addr}{vs:List V}{ps:List PV}(h:fD K B a vs)(l:aq W G ps vs):tV W (J0 K a vs) G B (cC 0 ps):=fun i G' H' sG sB sub=>by
 have hq:fD K H' a vs:=gH.tup sB h
 refine⟨fun hi=>⟨hq,by rw [cx] at hi;rw [l.length];exact hi⟩,fun p hp=>?_⟩
 obtain⟨x,hx,rfl⟩:=jW hp
 obtain⟨v,hv,rv⟩:=l.getP hx
 refine⟨⟨hq,(List.getElem?_eq_some_iff.mp hv).1⟩,fun y oB hy=>?_⟩
 obtain⟨b,x',rfl,hb,rfl,vv⟩:=hy
 rw [hv] at vv;cases vv;rw [Nat.zero_add];exact pC sub hb .i (Rep.same sG x rv)
theorem p9{G B:Hp}(z:Str):tV W (Ie z) G B (cC 0 (chars z)):=fun i G' H' sG sB sub=>by
 refine⟨fun hi=>by rw [cx,vh] at hi;exact hi,fun p hp=>?_⟩
 obtain⟨x,hx,rfl⟩:=jW hp
 obtain⟨c,hc,rfl⟩:=uh hx
 refine⟨(Array.getElem?_eq_some_iff.mp hc).1,fun y oB hy=>?_⟩
 obtain⟨b,c',rfl,hb,rfl,fW⟩:=hy
 rw [hc] at fW;cases fW;rw [Nat.zero_add];exact pC sub hb .i .s
theorem jq{e:E}{σ:St}{H0 G H:Hp}{env:Sl}{Q:VK}{p:PV}(sr:SR W H0 env σ G H)(e1:ay F e env=.ok p)(h:∀v G1 H1,aJ W G H G1 H1→Got W H0 G1 H1 e p v→Q v H1):tE X W F e σ H Q:=⟨H0,G,env,sr,by rw [e1];exact h⟩
theorem vO{e:E}{σ:St}{H0 G H:Hp}{env:Sl}{Q:VK}{c:Str}(sr:SR W H0 env σ G H)(e1:ay F e env=.exc c)(h:rF X W σ c G H):tE X W F e σ H Q:=⟨H0,G,env,sr,by rw [e1];exact h⟩
theorem B3(C:dE Γ F W N sc k X){tg p:Expr}{e:E}(he:GE X W F e p):GI X W F tg (.seq e) p:=by
 intro pins s σ H R I h;obtain⟨H0,G,env,sr,o⟩:=h
 rw [aO] at o;cases r:ay F e env with
 |bad=>rw [r] at o;exact o.elim
 |exc c=>rw [r] at o;exact sR he pins s σ H R I (vO sr r o)
 |ok q=>
  rw [r] at o;cases q with
  |lst xs=>
   refine sR he pins s σ H R I (jq sr r fun v G1 H1 g1 t=>?_);have t':=t
   obtain⟨a,vs,rfl,h1,l1⟩:=t.top.lst g1.sub
   refine⟨a,rfl,⟨vs,eO C.K h1⟩,o _ G1 H1 g1 ⟨sH C.K h1 l1,fun z=>?_⟩⟩
   have rp:=t'.rep z
   simp only [Rep] at rp;obtain⟨a',Cb,e1,h2,l2⟩:=rp
   cases e1;exact sH C.K h2 l2
  |tup xs=>exact False.elim o
  |str z=>exact False.elim o
  |int _=>exact False.elim o
  |bl _=>exact False.elim o
  |non=>exact False.elim o
  |exc _=>exact False.elim o
  |dct ks qs=>exact False.elim o
theorem cX{i:Int}(h:bj i=true): -(2^62)≤i∧i<2^62:=by
 unfold bj at h
 simpa using h
theorem DA(C:dE Γ F W N sc k X){tg p:Expr}{e:E}{np pos:Pos}(hg:ic sc "range"=true)(hb:Γ.bs.contains "range"=true)(dH:∀env ps,starEach (p::ps) env=(false,eval p env)::starEach ps env)(he:GE X W F e p):GI X W F tg (.rng e) (.Call (.Name "range" np) [p] [] pos):=by
 intro pins s σ H R I h;refine uN (eU C hg) (C.bs _ (List.contains_iff_mem.mp hb)) (cH he dW (dH _ _)) (dH _ _) pins s σ H R I ?_;obtain⟨H0,G,env,sr,o⟩:=h
 rw [aO] at o;refine one sr o fun q v G1 H1 g1 t bR o1=>?_
 cases q with
 |int j=>
  by_cases hj:bj j=true
  ·have o2:Out X W (if bj j=true then Res.ok (eK 0 j.toNat) else .bad) σ G1 H1 _:=o1
   rw [if_pos hj] at o2;exact⟨j,by rw [t.top.int],(cX hj).1,(cX hj).2,o2 _ G1 H1 g1 ⟨mZ _ _,fun _=>mZ _ _⟩⟩
  ·have o2:Out X W (if bj j=true then Res.ok (eK 0 j.toNat) else .bad) σ G1 H1 _:=o1
   rw [if_neg hj] at o2;exact o2.elim
 |bl _=>exact False.elim o1
 |non=>exact False.elim o1
 |str _=>exact False.elim o1
 |tup _=>exact False.elim o1
 |lst _=>exact False.elim o1
 |exc _=>exact False.elim o1
 |dct _ _=>exact False.elim o1
theorem Al(C:dE Γ F W N sc k X){tg p q:Expr}{a b:E}{np pos:Pos}(hg:ic sc "range"=true)(hb:Γ.bs.contains "range"=true)(dH:∀env ps,starEach (p::ps) env=(false,eval p env)::starEach ps env)(Du:∀env ps,starEach (q::ps) env=(false,eval q env)::starEach ps env)
 (ha:GE X W F a p) (oF:GE X W F b q):GI X W F tg (.rng2 a b) (.Call (.Name "range" np) [p,q] [] pos):=by
 intro pins s σ H R I h;refine tQ (eU C hg) (C.bs _ (List.contains_iff_mem.mp hb)) (cH ha (cH oF dW (Du _ _)) (dH _ _)) (by rw [dH,Du];rfl) (Du _ _) pins s σ H R I ?_;obtain⟨H0,G,env,sr,o⟩:=h
 rw [aO] at o;refine one sr o fun x v G1 H1 g1 t bR o1=>one bR o1 fun y u G2 H2 g2 t2 eG o2=>?_
 cases x<;>cases y<;>first
  |(exact False.elim o2)
  | (rename_i i j
     by_cases hj:(bj i&&bj j)=true
     ·have o3:Out X W (if(bj i&&bj j)=true then Res.ok (eK i (j-i).toNat) else .bad) σ G2 H2 _:=o2
      rw [if_pos hj] at o3;rw [Bool.and_eq_true] at hj;exact⟨i,j,by rw [t.top.int,t2.top.int],⟨(cX hj.1).1,(cX hj.1).2,(cX hj.2).1,(cX hj.2).2⟩,o3 _ G2 H2 (g1.trans g2) ⟨mZ _ _,fun _=>mZ _ _⟩⟩
     ·have o3:Out X W (if(bj i&&bj j)=true then Res.ok (eK i (j-i).toNat) else .bad) σ G2 H2 _:=o2
      rw [if_neg hj] at o3;exact o3.elim)
theorem yF(C:dE Γ F W N sc k X){elts:List Expr}{x1:Nat}{nY:Pos}{p:Expr}{e:E}{np pos:Pos}(hg:ic sc "enumerate"=true)(hb:Γ.bs.contains "enumerate"=true)(dH:∀env ps,starEach (p::ps) env=(false,eval p env)::starEach ps env)(he:GE X W F e p):
 GI X W F (.Tuple elts x1 nY) (.enum e) (.Call (.Name "enumerate" np) [p] [] pos):=by
 intro pins s σ H R I h;have tY:=eU C hg
 have qo:=C.bs _ (List.contains_iff_mem.mp hb)
 have pa:=cH he dW (dH _ _)
 obtain⟨H0,G,env,sr,o⟩:=h
 rw [aO] at o;cases r:ay F e env with
 |bad=>rw [r] at o;exact o.elim
 |exc c=>rw [r] at o;exact o5 tY qo pa (dH _ _) pins s σ H R I (vO sr r o)
 |ok q=>
  rw [r] at o;cases q with
  |lst xs=>exact False.elim o
  |tup xs=>
   refine o5 tY qo pa (dH _ _) pins s σ H R I (jq sr r fun v G1 H1 g1 t=>?_);have t':=t.top
   rcases t' with rp|z
   ·simp only [Rep] at rp;obtain⟨a,vs,rfl,h2,l2⟩:=rp
    rw [C.K] at h2;exact⟨a,vs,rfl,aF.tup g1.sub h2.sq,o _ G1 H1 g1 ⟨p7 (aF.tup g1.sub h2.sq) l2,fun z=>p7 h2.sq l2⟩⟩
   ·exact z.elim
  |str z=>exact wZ tY qo pa (dH _ _) pins s σ H R I (jq sr r fun v G1 H1 g1 t=>⟨z,by rw [t.top.str],o _ G1 H1 g1 ⟨p9 z,fun _=>p9 z⟩⟩)
  |int _=>exact False.elim o
  |bl _=>exact False.elim o
  |non=>exact False.elim o
  |exc _=>exact False.elim o
  |dct _ _=>exact False.elim o
end
end Ci
namespace Ci
open PySem L2
theorem uc{env:Env}{x:Str}{c:Addr}(h:env.cells.lookup x=some c):cellOf env x=pure c:=by
 unfold cellOf;rw [h]
def frees(names:List (Str×NameKind)):List Str:=((names.filter fun p=>p.2==.free).map (·.1)).reverse
theorem fZ{scope:Scope}{env:Env}(h:∀y∈scope.names,y.2=.free→∃c,env.cells.lookup y.1=some c):closureFor scope env=pure (bz env (freeOf scope)):=by
 simp only [closureFor];have key:∀(names:List (Str×NameKind)) (acc:List (Str×Addr)),(∀y∈names,y.2=.free→∃c,env.cells.lookup y.1=some c)→
  (forIn (m:=Sem) names acc fun x r=>if(x.2==NameKind.free)=true then do
   let c←cellOf env x.1
   pure (ForInStep.yield ((x.1,c)::r))
   else pure (ForInStep.yield r))=pure (bz env (frees names)++acc):=by
  intro names
  induction names with
  |nil=>intro acc _;rfl
  |cons p r ih=>
   intro acc hh;obtain⟨n,kd⟩:=p
   rw [List.forIn_cons]
   by_cases hk:(kd==NameKind.free)=true
   ·obtain⟨c,hc⟩:=hh (n,kd) (by simp) (beq_iff_eq.mp hk)
    simp only [hk,if_true,uc hc,pure_bind];rw [ih ((n,c)::acc) fun y hy=>hh y (List.mem_cons_of_mem _ hy)]
    have e:frees ((n,kd)::r)=frees r++[n]:=by
     unfold frees;rw [List.filter_cons,if_pos hk,List.map_cons,List.reverse_cons]
    rw [e];unfold bz;rw [List.map_append,List.map_cons,List.map_nil,List.append_assoc];show _=pure (_++([(n,(env.cells.lookup n).getD 0)]++acc))
    rw [show env.cells.lookup n=some c from hc]
    rfl
   ·simp only [hk,Bool.false_eq_true,if_false,pure_bind];rw [ih acc fun y hy=>hh y (List.mem_cons_of_mem _ hy)]
    have e:frees ((n,kd)::r)=frees r:=by
     unfold frees;rw [List.filter_cons,if_neg hk]
    rw [e]
 have:=key scope.names [] h
 rw [List.append_nil] at this;simp only [bind_pure_comp,map_pure,id_map',bind_pure];exact this
section
variable{Γ:Pg}{X:Cx}{W:Wd}{F:aS}{N:List Str}{sc:Scope}{k:Nat}
theorem d7{scope:Scope}(h:X.env.scope=sc):relabel scope X.env=cT scope sc:=by
 subst h
 rfl
structure jV(N:List Str)(sc scope:Scope)(kk:Nat)(aW:List Nat)(xs:List Str):Prop where
 kind:scope.kind=.function
 len:xs.length=kk
 nd:(xs++freeOf scope).Nodup
 cov:(scope.names.all fun y=>(decide (y.2≠.cell)||!(freeOf scope).contains y.1)&&(decide (y.2≠.free)||(freeOf scope).contains y.1))=true
 own:(scope.names.all fun y=>decide (y.2≠.cell)||decide (scope.names.lookup y.1=some .cell))=true
 names:(scope.names.all fun y=>decide (y.2≠.local)||decide (scope.names.lookup y.1=some .local))=true
 slots:aW.map (fun i=>N[i]?)=(freeOf scope).map some
 kX:((freeOf scope).all fun y=>decide (sc.names.lookup y=some .cell))=true
 kY:((freeOf scope).all fun y=>decide ((cT scope sc).names.lookup y=some .cell))=true
theorem gE{scope:Scope}{kk:Nat}{aW:List Nat}{xs:List Str}(h:sd N sc scope kk aW xs=true):jV N sc scope kk aW xs:=by
 unfold sd at h;simp only [Bool.and_eq_true] at h;obtain⟨⟨⟨⟨⟨⟨⟨⟨h1,h2⟩,h3⟩,h4⟩,h9⟩,h5⟩,h6⟩,h7⟩,h8⟩:=h
 exact⟨beq_iff_eq.mp h1,beq_iff_eq.mp h2,of_decide_eq_true h3,h4,h9,h5,of_decide_eq_true h6,h7,h8⟩
theorem mB(hN:X.N=N)(hsc:X.env.scope=sc)(ok:X.Ok){scope:Scope}{kk:Nat}{aW:List Nat}{xs:List Str}(h:jV N sc scope kk aW xs):dX X scope xs (freeOf scope) aW:=by
 have dB:∀y∈freeOf scope,∃c,X.env.cells.lookup y=some c:=fun y hy=>ok.has y (.inl (by
  have:=of_decide_eq_true (List.all_eq_true.mp h.kX y hy)
  show X.env.scope.names.lookup y=_
  rw [hsc];exact this))
 refine⟨h.kind,fZ fun y hy hf=>?_,List.all_eq_true.mpr fun y hy=>?_,h.cov,h.own,h.names,by rw [hN];exact h.slots,List.all_eq_true.mpr fun y hy=>?_,?_⟩
 ·have c:=List.all_eq_true.mp h.cov y hy
  rw [Bool.and_eq_true,Bool.or_eq_true,Bool.or_eq_true] at c;rcases c.2 with z|z
  ·exact absurd hf (of_decide_eq_true z)
  ·exact dB _ (List.contains_iff_mem.mp z)
 ·obtain⟨c,hc⟩:=dB y hy
  rw [hc];rfl
 ·have:=of_decide_eq_true (List.all_eq_true.mp h.kX y hy)
  refine decide_eq_true ?_;show X.env.scope.names.lookup y=_
  rw [hsc];exact this
 ·rw [d7 hsc];exact h.kY
theorem fR{f:PV→Res (Option PV)}{x:PV}:∀{xs:List PV},aX f (xs++[x])=(aX f xs).bind fun ys=>(f x).well.bind fun o=>.ok (ys++o.toList)
 |[]=>by
  simp only [List.nil_append,aX,Res.bind];cases(f x).well with
  |ok o=>cases o<;>rfl
  |exc c=>rfl
  |bad=>rfl
 |y::xs=>by
  rw [List.cons_append];simp only [aX];rw [fR (xs:=xs)];cases(f y).well with
  |exc c=>rfl
  |bad=>rfl
  |ok o=>
   show(((aX f xs).bind fun ys=>(f x).well.bind fun o=>.ok (ys++o.toList)).bind fun ys=>.ok (oc o ys))=((aX f xs).bind fun ys=>.ok (oc o ys)).bind fun ys=>(f x).well.bind fun o=>.ok (ys++o.toList)
   cases aX f xs with
   |exc c=>rfl
   |bad=>rfl
   |ok zs=>
    show(((f x).well.bind fun o=>.ok (zs++o.toList)).bind fun ys=>.ok (oc o ys))=(f x).well.bind fun o2=>.ok ((oc o zs)++o2.toList)
    cases(f x).well with
    |exc c=>rfl
    |bad=>rfl
    |ok o2=>cases o<;>rfl
theorem je{f:PV→Res (Option PV)}:∀{xs ys:List PV},aX f xs=.ok ys→∀i,∃zs,aX f (xs.take i)=.ok zs∧zs.length≤i
 |_,_,_,0=>⟨[],by simp [aX],Nat.le_refl _⟩
 |[],ys,h,i+1=>⟨[],by simp [aX],Nat.zero_le _⟩
 |x::xs,ys,h,i+1=>by
  simp only [aX] at h;obtain⟨o,ho,h⟩:=Res.bind_ok h
  obtain⟨zs,hz,h⟩:=Res.bind_ok h
  obtain⟨ws,hw,hl⟩:=je hz i
  refine⟨oc o ws,?_,?_⟩
  ·rw [List.take_succ_cons];simp only [aX];rw [ho];show((aX f (xs.take i)).bind fun ys=>.ok (oc o ys))=_
   rw [hw]
   rfl
  ·cases o with
   |none=>exact Nat.le_succ_of_le hl
   |some y=>exact Nat.succ_le_succ hl
theorem yU{α:Type}{r:Res α}{a:α}(h:r.well=.ok a):r=.ok a:=by
 cases r with
 |ok b=>cases h;rfl
 |exc c=>cases h
 |bad=>cases h
theorem qc{f:PV→Res (Option PV)}{xs ys zs:List PV}{i:Nat}{x:PV}(h:aX f xs=.ok ys)(hx:xs[i]?=some x)(hz:aX f (xs.take i)=.ok zs):∃o,f x=.ok o∧aX f (xs.take (i+1))=.ok (zs++o.toList):=by
 have e:xs.take (i+1)=xs.take i++[x]:=by rw [List.take_add_one,hx];rfl
 obtain⟨ws,hw,_⟩:=je h (i+1)
 rw [e,fR,hz] at hw;obtain⟨o,ho,hw⟩:=Res.bind_ok (show((f x).well.bind fun o=>Res.ok (zs++o.toList))=.ok ws from hw)
 refine⟨o,yU ho,?_⟩;rw [e,fR,hz];show((f x).well.bind fun o=>Res.ok (zs++o.toList))=_
 rw [ho]
 rfl
theorem pW{H0 G H:Hp}{env:Sl}{σ:St}{aW:List Nat}{ys:List Str}(kk:Nat)(sr:SR W H0 env σ G H)(hs:aW.map (fun i=>N[i]?)=ys.map some)(nd:ys.Nodup):SR W H0 (List.replicate kk .no++av env aW) (List.replicate kk none++wu σ aW) G H:=by
 have M0:∀(i j:Nat) (a:Nat),aW[i]?=some a→aW[j]?=some a→i=j:=fun i j a h1 h2=>by
  have e1:(ys.map some)[i]?=some (N[a]?):=by rw [←hs,List.getElem?_map,h1];rfl
  have e2:(ys.map some)[j]?=some (N[a]?):=by rw [←hs,List.getElem?_map,h2];rfl
  rw [List.getElem?_map] at e1 e2;obtain⟨y1,g1,q1⟩:=Option.map_eq_some_iff.mp e1
  obtain⟨y2,g2,q2⟩:=Option.map_eq_some_iff.mp e2
  have:y1=y2:=Option.some.inj (q1.trans q2.symm)
  subst this;exact j0 nd g1 g2
 have inner:∀(j:Nat) (s:Slot),(List.replicate kk Slot.no++av env aW)[j]?=some s→(j<kk∧s=.no)∨∃a,kk≤j∧aW[j-kk]?=some a∧s=env.getD a .no:=fun j s e=>by
  by_cases hj:j<kk
  ·rw [List.getElem?_append_left (by simpa using hj),List.getElem?_replicate,if_pos hj] at e;cases e;exact .inl ⟨hj,rfl⟩
  ·rw [List.getElem?_append_right (by simpa using hj),List.length_replicate] at e;unfold av at e;rw [List.getElem?_map] at e;obtain⟨a,ha,rfl⟩:=Option.map_eq_some_iff.mp e
   exact .inr ⟨a,by omega,ha,rfl⟩
 have val:∀(j a:Nat),kk≤j→aW[j-kk]?=some a→(List.replicate kk none++wu σ aW)[j]?=some ((σ[a]?).join):=fun j a hj ha=>by
  rw [List.getElem?_append_right (by simpa using hj),List.length_replicate];unfold wu;rw [List.getElem?_map,ha]
  rfl
 refine⟨by unfold av wu;simp,sr.sub,sr.base,fun j s e=>?_,fun i j p q a e1 e2 e3 e4=>?_,sr.tab,sr.tab0⟩
 ·rcases inner j s e with⟨hj,rfl⟩|⟨a,hj,ha,rfl⟩
  ·exact⟨none,by rw [List.getElem?_append_left (by simpa using hj),List.getElem?_replicate,if_pos hj],trivial⟩
  ·refine⟨_,val j a hj ha,?_⟩;rw [List.getD_eq_getElem?_getD];cases e1:env[a]? with
   |none=>exact trivial
   |some s=>
    obtain⟨o,h1,h2⟩:=sr.slot a s e1
    rw [h1];exact h2
 ·rcases inner i _ e1 with⟨_,z⟩|⟨b,hi,hb,z1⟩
  ·cases z
  rcases inner j _ e2 with⟨_,z⟩|⟨c,hj,hc,z2⟩
  ·cases z
  rw [val i b hi hb] at e3;rw [val j c hj hc] at e4;have f1:env[b]?=some (.own p):=by
   rw [List.getD_eq_getElem?_getD] at z1;cases e:env[b]? with
   |none=>rw [e] at z1;cases z1
   |some s=>rw [e] at z1;exact congrArg some z1.symm
  have f2:env[c]?=some (.own q):=by
   rw [List.getD_eq_getElem?_getD] at z2;cases e:env[c]? with
   |none=>rw [e] at z2;cases z2
   |some s=>rw [e] at z2;exact congrArg some z2.symm
  have g1:σ[b]?=some (some (.ref a)):=Option.join_eq_some_iff.mp (Option.some.inj e3)
  have g2:σ[c]?=some (some (.ref a)):=Option.join_eq_some_iff.mp (Option.some.inj e4)
  have bc:=sr.apart b c p q a f1 f2 g1 g2
  subst bc;have:=M0 _ _ b hb hc
  omega
theorem hZ{H0 G H:Hp}{kk:Nat}{rest az:Sl}{σ:St}{tg:Tg}{p:PV}(cm:i9 kk tg=true)(e:Tg.put tg p (List.replicate kk .no++rest)=.ok az)(r:SR W H0 az σ G H):SR W H0 (List.replicate kk .no++rest) σ G H:=by
 have key:∀(j:Nat) (s:Slot),(List.replicate kk Slot.no++rest)[j]?=some s→s≠.no→az[j]?=some s:=fun j s h hs=>by
  have CD:¬j<kk:=fun z=>by
   rw [List.getElem?_append_left (by simpa using z),List.getElem?_replicate,if_pos z] at h;cases h;exact hs rfl
  unfold Tg.put at e;split at e
  ·cases e;unfold i9 at cm;simp only [decide_eq_true_eq] at cm;rw [List.getElem?_set_ne (by omega)];exact h
  ·cases e;unfold i9 at cm;simp only [Bool.and_eq_true,decide_eq_true_eq] at cm;rw [List.getElem?_set_ne (by omega),List.getElem?_set_ne (by omega)];exact h
  ·cases e
 have hlen:(List.replicate kk Slot.no++rest).length=σ.length:=by
  rw [←r.len];unfold Tg.put at e;split at e<;>first|(cases e;simp;done)|(cases e;done)
 refine⟨hlen,r.sub,r.base,fun j s h=>?_,fun i j p q a e1 e2 e3 e4=>r.apart i j p q a (key i _ e1 (fun z=>nomatch z)) (key j _ e2 (fun z=>nomatch z)) e3 e4,r.tab,r.tab0⟩
 by_cases hs:s=.no
 ·subst hs;have:j<σ.length:=by rw [←hlen];exact(List.getElem?_eq_some_iff.mp h).1
  exact⟨σ[j],List.getElem?_eq_getElem this,trivial⟩
 ·exact r.slot j s (key j s h hs)
end
end Ci
namespace Ci
open PySem L2
section
variable{Γ:Pg}{X:Cx}{W:Wd}{F:aS}{N:List Str}{sc:Scope}{k:Nat}
noncomputable def tN(W:Wd)(F:aS)(e:E):TE:=fun σ H Q=>∃H0 G env,SR W H0 env σ G H∧∃p,ay F e env=.ok p∧∀v G' H',aJ W G H G' H'→Got W H0 G' H' e p v→Q v H'
noncomputable def Iq(W:Wd)(F:aS)(e:E):TT:=fun σ H Q=>∃H0 G env,SR W H0 env σ G H∧∃b,ay F e env=.ok (.bl b)∧∀G' H',aJ W G H G' H'→Q b H'
theorem sL{e:E}(σ:St)(H:Hp)(Q:VK)(h:tN W F e σ H Q):tE X W F e σ H Q:=by
 obtain⟨H0,G,env,sr,p,e1,q⟩:=h
 exact⟨H0,G,env,sr,by rw [e1];exact q⟩
theorem vE{e:E}(σ:St)(H:Hp)(Q:Bool→Hp→Prop)(h:Iq W F e σ H Q):tT X W F e σ H Q:=by
 obtain⟨H0,G,env,sr,p,e1,q⟩:=h
 exact⟨H0,G,env,sr,by rw [e1];exact⟨p,rfl,q⟩⟩
theorem eg(C:dE Γ F W N sc k X){scope:Scope}{kk:Nat}{aW:List Nat}{xs:List Str}(h:jV N sc scope kk aW xs)(fp:List Addr)(s1:Shared)(H1:Hp)(A:Addr):dE Γ.nol F W (xs++freeOf scope) (cT scope sc) k (bP X (xs++freeOf scope) scope (bz X.env (freeOf scope)) fp s1 H1 A):=
 ⟨rfl,d7 C.hsc,rfl,h.nd,C.K,C.mg,C.gs,C.bs,C.room,fun f hf=>⟨(C.fns f hf).ex⟩,C.nov,C.cls,C.xc,fun q hq=>⟨(C.hfs q hq).ex⟩,C.any,(fun z=>nomatch z),(fun z=>nomatch z),(fun z=>nomatch z)⟩
theorem DZ{e:E}{p:Expr}(h:bf Γ N sc e p=true)(env:Env):∀x,foldedSetIterable p env x=pure x:=by
 intro x;cases p<;>first|rfl|(cases e<;>first|(exact absurd h zzf)|(rename_i q;cases q<;>exact absurd h zzf))
theorem gK{tg:Expr}{it:I}{p:Expr}(h:vk Γ N sc tg it p=true)(env:Env):∀x,foldedSetIterable p env x=pure x:=by
 intro x;cases it with
 |seq e=>exact DZ h env x
 |rng e=>cases p<;>first|rfl|(exact absurd h zzf)
 |rng2 a b=>cases p<;>first|rfl|(exact absurd h zzf)
 |enum e=>cases p<;>first|rfl|(exact absurd h zzf)
def CW(W:Wd)(H0 G1 H1:Hp)(env0:Sl)(f:PV→Res (Option PV))(ps:List PV)(i:Nat)(ys:List V)(σ':St)(H':Hp):Prop:=
 i≤ps.length∧∃G',aJ W G1 H1 G' H'∧SR W H0 env0 σ' G' H'∧∃zs,aX f (ps.take i)=.ok zs∧zs.length≤i∧aq W G' zs ys
theorem sJ(hK:W.K=X.K){kk:Nat}{aW:List Nat}{tg:Tg}{it:I}{elt:E}{ys:List Str}(cm:i9 kk tg=true)(c8:fH elt=true)(hs:aW.map (fun i=>N[i]?)=ys.map some)(nd:ys.Nodup)(σ:St)(H:Hp)(Q:VK)(h:tF X W F (.comp kk aW tg it elt) σ H Q):
 xx (tI X W F it) kk (gT X.K tg) (tN W F elt) aW σ H Q:=by
 obtain⟨H0,G,env,sr,o⟩:=h
 rw [ay] at o;refine⟨H0,G,env,sr,o.bind.imp fun ps iP J G1 H1 g1 gi=>?_⟩
 by_cases vN:¬ps.length<dg
 ·rw [if_neg vN] at iP;exact iP.elim
 have hl:=Decidable.not_not.mp vN
 rw [if_pos hl] at iP;generalize hf:(fun x=>(tg.put x (List.replicate kk .no++av env aW)).bind fun az=>(ay F elt az).bind fun y=>Res.ok (some y))=f at iP
 cases hc:aX f ps with
 |bad=>rw [hc] at iP;exact iP.elim
 |exc c=>
  exfalso
  have:∀(l:List PV) (c:Str),aX f l≠.exc c:=fun l=>by
   induction l with
   |nil=>intro c z;cases z
   |cons a l ih=>
    intro c z;simp only [aX] at z;rcases Res.bind_exc z with z|⟨o1,_,z⟩
    ·cases e:f a with
     |ok _=>rw [e] at z;cases z
     |exc _=>rw [e] at z;cases z
     |bad=>rw [e] at z;cases z
    ·rcases Res.bind_exc z with z|⟨o2,_,z⟩
     ·exact ih c z
     ·cases z
  exact this _ _ hc
 |ok all=>
  rw [hc] at iP;obtain⟨xs,e1,fin⟩:=iP
  cases e1;have bR:=sr.grow g1
  refine⟨ps.length,CW W H0 G1 H1 (List.replicate kk .no++av env aW) f ps,⟨Nat.zero_le _,G1,.refl g1.sub,pW kk bR hs nd,[],rfl,Nat.le_refl _,.nil⟩,?_⟩
  rintro i made σ' H' ⟨hi,G',g',sr',zs,hz,EZ,l⟩
  refine⟨by rw [l.length];exact Nat.lt_of_le_of_lt (Nat.le_trans EZ hi) (Nat.lt_of_lt_of_le hl (by decide)),?_⟩;obtain⟨ist,igo⟩:=gi.any i G' H' g'.g g'.h g'.sub
  by_cases hlast:i=ps.length
  ·refine .inl ⟨ist hlast,fun p hp=>?_⟩
   rw [hlast,List.take_length,hc] at hz;cases hz;exact fin p made G' H' (g1.trans g') hp l
  ·have kL:i<ps.length:=by omega
   obtain⟨hgo,hyld⟩:=igo ps[i] (List.getElem?_eq_getElem kL)
   refine .inr ⟨hgo,kL,fun x oB hy=>?_⟩
   obtain⟨sI,g'',rx⟩:=hyld x oB hy
   obtain⟨o1,ho,hnext⟩:=qc hc (List.getElem?_eq_getElem kL) hz
   rw [←hf] at ho;obtain⟨az,he',ho⟩:=Res.bind_ok ho
   obtain⟨y,Ay,ho⟩:=Res.bind_ok ho
   cases ho;refine qI hK he' (sr'.grow g'') rx fun σ2 eG=>⟨H0,sI,az,eG,y,Ay,fun v G3 H3 g3 t=>?_⟩
   refine⟨kL,G3,g'.trans (g''.trans g3),(hZ cm he' eG).grow g3,_,hnext,?_,?_⟩
   ·rw [List.length_append];show zs.length+1≤i+1;omega
   ·exact(aq.same (g''.trans g3).g zs l).append (.cons (t.rep c8) .nil)
theorem lU(hK:W.K=X.K){kk:Nat}{aW:List Nat}{tg:Tg}{it:I}{c elt:E}{ys:List Str}(cm:i9 kk tg=true)(c8:fH elt=true)(hs:aW.map (fun i=>N[i]?)=ys.map some)(nd:ys.Nodup)(σ:St)(H:Hp)(Q:VK)(h:tF X W F (.compIf kk aW tg it c elt) σ H Q):
 iU (tI X W F it) kk (gT X.K tg) (Iq W F c) (tN W F elt) aW σ H Q:=by
 obtain⟨H0,G,env,sr,o⟩:=h
 rw [ay] at o;refine⟨H0,G,env,sr,o.bind.imp fun ps iP J G1 H1 g1 gi=>?_⟩
 by_cases vN:¬ps.length<dg
 ·rw [if_neg vN] at iP;exact iP.elim
 have hl:=Decidable.not_not.mp vN
 rw [if_pos hl] at iP;generalize hf:(fun x=>(tg.put x (List.replicate kk .no++av env aW)).bind fun az=>(ay F c az).bind fun t=>qp t fun t=>if t then(ay F elt az).bind fun y=>Res.ok (some y) else .ok none)=f at iP
 cases hc:aX f ps with
 |bad=>rw [hc] at iP;exact iP.elim
 |exc c=>
  exfalso
  have:∀(l:List PV) (c:Str),aX f l≠.exc c:=fun l=>by
   induction l with
   |nil=>intro c z;cases z
   |cons a l ih=>
    intro c z;simp only [aX] at z;rcases Res.bind_exc z with z|⟨o1,_,z⟩
    ·cases e:f a with
     |ok _=>rw [e] at z;cases z
     |exc _=>rw [e] at z;cases z
     |bad=>rw [e] at z;cases z
    ·rcases Res.bind_exc z with z|⟨o2,_,z⟩
     ·exact ih c z
     ·cases z
  exact this _ _ hc
 |ok all=>
  rw [hc] at iP;obtain⟨xs,e1,fin⟩:=iP
  cases e1;have bR:=sr.grow g1
  refine⟨ps.length,CW W H0 G1 H1 (List.replicate kk .no++av env aW) f ps,⟨Nat.zero_le _,G1,.refl g1.sub,pW kk bR hs nd,[],rfl,Nat.le_refl _,.nil⟩,?_⟩
  rintro i made σ' H' ⟨hi,G',g',sr',zs,hz,EZ,l⟩
  refine⟨by rw [l.length];exact Nat.lt_of_le_of_lt (Nat.le_trans EZ hi) (Nat.lt_of_lt_of_le hl (by decide)),?_⟩;obtain⟨ist,igo⟩:=gi.any i G' H' g'.g g'.h g'.sub
  by_cases hlast:i=ps.length
  ·refine .inl ⟨ist hlast,fun p hp=>?_⟩
   rw [hlast,List.take_length,hc] at hz;cases hz;exact fin p made G' H' (g1.trans g') hp l
  ·have kL:i<ps.length:=by omega
   obtain⟨hgo,hyld⟩:=igo ps[i] (List.getElem?_eq_getElem kL)
   refine .inr ⟨hgo,kL,fun x oB hy=>?_⟩
   obtain⟨sI,g'',rx⟩:=hyld x oB hy
   obtain⟨o1,ho,hnext⟩:=qc hc (List.getElem?_eq_getElem kL) hz
   rw [←hf] at ho;obtain⟨az,he',ho⟩:=Res.bind_ok ho
   obtain⟨t,ht,ho⟩:=Res.bind_ok ho
   obtain⟨b,rfl⟩:∃b,t=.bl b:=by
    cases t<;>first|exact⟨_,rfl⟩|(cases ho)
   refine qI hK he' (sr'.grow g'') rx fun σ2 eG=>⟨H0,sI,az,eG,b,ht,fun G3 H3 g3=>?_⟩
   have gW:(if b=true then(ay F elt az).bind fun y=>Res.ok (some y) else .ok none)=Res.ok o1:=ho
   cases b with
   |true=>
    rw [if_pos rfl] at gW;refine IG ?_;obtain⟨y,Ay,gW⟩:=Res.bind_ok gW
    cases gW;refine⟨H0,G3,az,eG.grow g3,y,Ay,fun v G4 H4 g4 t4=>?_⟩
    refine⟨kL,G4,g'.trans (g''.trans (g3.trans g4)),(hZ cm he' eG).grow (g3.trans g4),_,hnext,?_,?_⟩
    ·rw [List.length_append];show zs.length+1≤i+1;omega
    ·exact(aq.same (g''.trans (g3.trans g4)).g zs l).append (.cons (t4.rep c8) .nil)
   |false=>
    rw [if_neg zzf] at gW;refine Kh ?_;cases gW;refine⟨kL,G3,g'.trans (g''.trans g3),(hZ cm he' eG).grow g3,_,hnext,?_,?_⟩
    ·rw [List.length_append];show zs.length+0≤i+1;omega
    ·show aq W G3 (zs++[]) made
     rw [List.append_nil];exact aq.same (g''.trans g3).g zs l
theorem r8(C:dE Γ F W N sc k X){kk:Nat}{aW:List Nat}{tg:Tg}{it:I}{elt:E}{cq en dk:Expr}{scope:Scope}{pos:Pos}(h:jV N sc scope kk aW (aN cq))(cm:i9 kk tg=true)(c8:fH elt=true)(hi:GI X W F cq it en)(hfs:∀x,foldedSetIterable en X.env x=pure x)
 (wI:eZ (aN cq++freeOf scope) (cT scope sc) (kb scope) tg cq=true) (he:∀Y,dE Γ.nol F W (aN cq++freeOf scope) (cT scope sc) k Y→GE Y W F elt dk):GF X W F (.comp kk aW tg it elt) (.ListComp dk [⟨cq,en,[],0⟩] scope pos):=by
 intro pins s σ H Q I hq;have D9:(freeOf scope).Nodup:=(List.nodup_append.mp h.nd).2.1
 have rd:=sJ (N:=N) C.K cm c8 h.slots D9 σ H Q hq
 have:=zD (g:=gT X.K tg) (te:=tN W F elt) (xs:=aN cq) (ys:=freeOf scope) (is:=aW) (pos:=pos) C.calm (mB C.hN C.hsc I.ok h) hi
  (fun fp s1 H1 A=>v9 (fn:=kb scope) (X:=bP X (aN cq++freeOf scope) scope (bz X.env (freeOf scope)) fp s1 H1 A) rfl h.nd (d7 C.hsc) rfl (fun _ z=>z) wI)
  (fun fp s1 H1 A=>L2.PE.imp (he _ (eg C h fp s1 H1 A)) fun σ H Q z=>sL σ H Q z) hfs pins s σ H Q I
 rw [h.len] at this;exact this rd
theorem lV(C:dE Γ F W N sc k X){kk:Nat}{aW:List Nat}{tg:Tg}{it:I}{c elt:E}{cq en pc dk:Expr}{scope:Scope}{pos:Pos}(h:jV N sc scope kk aW (aN cq))(cm:i9 kk tg=true)(c8:fH elt=true)(hi:GI X W F cq it en)(hfs:∀x,foldedSetIterable en X.env x=pure x)
 (wI:eZ (aN cq++freeOf scope) (cT scope sc) (kb scope) tg cq=true) (hc:∀Y,dE Γ.nol F W (aN cq++freeOf scope) (cT scope sc) k Y→GT Y W F c pc) (he:∀Y,dE Γ.nol F W (aN cq++freeOf scope) (cT scope sc) k Y→GE Y W F elt dk):
 GF X W F (.compIf kk aW tg it c elt) (.ListComp dk [⟨cq,en,[pc],0⟩] scope pos):=by
 intro pins s σ H Q I hq;have D9:(freeOf scope).Nodup:=(List.nodup_append.mp h.nd).2.1
 have rd:=lU (N:=N) C.K cm c8 h.slots D9 σ H Q hq
 have:=uC (g:=gT X.K tg) (tt:=Iq W F c) (te:=tN W F elt) (xs:=aN cq) (ys:=freeOf scope) (is:=aW) (pos:=pos) C.calm (mB C.hN C.hsc I.ok h) hi
  (fun fp s1 H1 A=>v9 (fn:=kb scope) (X:=bP X (aN cq++freeOf scope) scope (bz X.env (freeOf scope)) fp s1 H1 A) rfl h.nd (d7 C.hsc) rfl (fun _ z=>z) wI)
  (fun fp s1 H1 A=>L2.PT.imp (hc _ (eg C h fp s1 H1 A)) fun σ H Q z=>vE σ H Q z)
  (fun fp s1 H1 A=>L2.PE.imp (he _ (eg C h fp s1 H1 A)) fun σ H Q z=>sL σ H Q z) hfs pins s σ H Q I
 rw [h.len] at this;exact this rd
end
end Ci
namespace Ci
open PySem L2
section
variable{W:Wd}{Z:List (Addr×Obj)}{G H:Hp}
mutual
theorem Rep.less(zs:∀b o,Z.lookup b=some o→G b=some (.frz o bx)):∀(p:PV) {v:V},Rep W G p v→Rep W (aY Z G) p v
 |.non,_,h=>by simpa only [Rep] using h
 |.bl b,_,h=>by simpa only [Rep] using h
 |.int i,_,h=>by simpa only [Rep] using h
 |.str z,_,h=>by simpa only [Rep] using h
 |.tup xs,_,h=>by
  simp only [Rep] at h⊢;obtain⟨a,vs,e,q,l⟩:=h
  refine⟨a,vs,e,?_,aq.less zs xs l⟩;rcases q with q|⟨(q|⟨o,q⟩)|q,z⟩
  ·cases y:Z.lookup a with
   |none=>exact .inl (by rw [aB y];exact q)
   |some o'=>rw [zs a o' y] at q;cases q
  ·cases y:Z.lookup a with
   |none=>exact .inl (by rw [aB y];exact q)
   |some o'=>rw [zs a o' y] at q;cases q
  ·cases y:Z.lookup a with
   |none=>exact .inr ⟨.inl (.inr ⟨o,by rw [aB y];exact q⟩),z⟩
   |some o'=>rw [zs a o' y] at q;cases q
  ·exact .inr ⟨.inr q,z⟩
 |.lst xs,_,h=>by
  simp only [Rep] at h⊢;obtain⟨a,vs,e,q,l⟩:=h
  refine⟨a,vs,e,?_,aq.less zs xs l⟩;rcases q with(q|⟨o,q⟩)|q
  ·cases y:Z.lookup a with
   |none=>exact .inl (.inl (by rw [aB y];exact q))
   |some o'=>rw [zs a o' y] at q;cases q
  ·cases y:Z.lookup a with
   |none=>exact .inl (.inr ⟨o,by rw [aB y];exact q⟩)
   |some o'=>rw [zs a o' y] at q;cases q
  ·exact .inr q
 |.exc c,_,h=>by
  simp only [Rep] at h⊢;obtain⟨a,C,e,x,m,q⟩:=h
  cases y:Z.lookup a with
  |none=>exact⟨a,C,e,x,m,by rw [aB y];exact q⟩
  |some o'=>
   rw [zs a o' y] at q;unfold Fz at q;cases q
 |.dct ks vs,_,h=>by
  simp only [Rep] at h⊢;obtain⟨a,o,us,e,n,m,l⟩:=h
  refine⟨a,o,us,e,n,?_,aq.less zs vs l⟩;cases y:Z.lookup a with
  |none=>rw [aB y];exact m
  |some o'=>rw [zs a o' y] at m;cases m
theorem aq.less(zs:∀b o,Z.lookup b=some o→G b=some (.frz o bx)):∀(ps:List PV) {vs:List V},aq W G ps vs→aq W (aY Z G) ps vs
 |[],_,h=>by simpa only [aq] using h
 |p::ps,_,h=>by
  simp only [aq] at h⊢;obtain⟨v,r,e,h1,h2⟩:=h
  exact⟨v,r,e,Rep.less zs p h1,aq.less zs ps h2⟩
end
theorem ji(t:cy W G H)(sg:aF G H)(zs:∀b o,Z.lookup b=some o→G b=some (.frz o bx))(zc:∀b o,Z.lookup b=some o→∃v,o.data=.cell v):cy W (aY Z G) (aY Z H):=fun P q m=>by
 obtain⟨n,ps,e,tr,al⟩:=t P q m
 refine⟨f7 n,ps,?_,tr,fun pos cv y=>?_⟩
 ·cases y:Z.lookup P with
  |none=>rw [aB y];exact e
  |some o=>rw [sg _ _ (zs P o y)] at e;cases e
 ·obtain⟨c',oc,cR,t',e1,e2,e3,e4⟩:=al pos cv y
  refine⟨c',oc,cR,t',e1,?_,e3,e4⟩;cases y:Z.lookup c' with
  |none=>rw [aB y];exact e2
  |some o=>
   rw [zs c' o y] at e2;cases e2;obtain⟨v,hv⟩:=zc c' _ y
   rw [e3] at hv;cases hv
theorem aJ.wz{G3 H3:Hp}(g:aJ W (aY Z G) (aY Z H) G3 H3)(sg:aF G H)(zs:∀b o,Z.lookup b=some o→G b=some (.frz o bx))(zc:∀b o,Z.lookup b=some o→∃v,o.data=.cell v)(zn:∀b o,Z.lookup b=some o→H3 b=none):aJ W G H (withZ Z G3) (withZ Z H3) where
 g:=fun b u e=>by
  cases y:Z.lookup b with
  |none=>rw [aj y];exact g.g _ _ (by rw [aB y];exact e)
  |some o=>rw [aZ y];rw [zs b o y] at e;exact e
 h:=fun b u e=>by
  cases y:Z.lookup b with
  |none=>rw [aj y];exact g.h _ _ (by rw [aB y];exact e)
  |some o=>
   rw [sg _ _ (zs b o y)] at e;cases e;exact .inl ⟨(fun _ z=>nomatch z),aZ y⟩
 sub:=fun b u e=>by
  cases y:Z.lookup b with
  |none=>rw [aj y] at e⊢;exact g.sub _ _ e
  |some o=>rw [aZ y] at e⊢;exact e
 own:=fun a h1 h3 h2=>by
  cases y:Z.lookup a with
  |none=>rw [aj y];exact g.own a (by rw [aB y];exact h1) (by rw [aB y];exact h3) (by rw [aB y];exact h2)
  |some o=>rw [zs a o y] at h2;cases h2
 tab:=fun t P q m=>by
  obtain⟨n,ps,e,tr,al⟩:=g.tab (ji t sg zs zc) P q m
  refine⟨?_,ps,?_,tr,fun pos cv y=>?_⟩
  ·cases y:Z.lookup P with
   |none=>rw [aj y];exact n
   |some o=>rw [zn P o y] at e;cases e
  ·cases y:Z.lookup P with
   |none=>rw [aj y];exact e
   |some o=>rw [zn P o y] at e;cases e
  ·obtain⟨c',oc,cR,t',e1,e2,e3,e4⟩:=al pos cv y
   refine⟨c',oc,cR,t',e1,?_,e3,e4⟩;cases y:Z.lookup c' with
   |none=>rw [aj y];exact e2
   |some o=>have:=g.sub _ _ e2;rw [zn c' o y] at this;cases this
theorem oX(t:cy W G H)(sg:aF G H)(zn:∀b o,Z.lookup b=some o→H b=none):cy W (withZ Z G) (withZ Z H):=fun P q m=>by
 obtain⟨n,ps,e,tr,al⟩:=t P q m
 refine⟨?_,ps,?_,tr,fun pos cv y=>?_⟩
 ·cases y:Z.lookup P with
  |none=>rw [aj y];exact n
  |some o=>rw [zn P o y] at e;cases e
 ·cases y:Z.lookup P with
  |none=>rw [aj y];exact e
  |some o=>rw [zn P o y] at e;cases e
 ·obtain⟨c',oc,cR,t',e1,e2,e3,e4⟩:=al pos cv y
  refine⟨c',oc,cR,t',e1,?_,e3,e4⟩;cases y:Z.lookup c' with
  |none=>rw [aj y];exact e2
  |some o=>have:=sg _ _ e2;rw [zn c' o y] at this;cases this
theorem aJ.lz{G' H':Hp}(g:aJ W (withZ Z G) (withZ Z H) G' H')(sg:aF G H)(zc:∀b o,Z.lookup b=some o→∃v,o.data=.cell v)(zn:∀b o,Z.lookup b=some o→H b=none):aJ W G H (aY Z G') (aY Z H') where
 g:=fun b u e=>by
  cases y:Z.lookup b with
  |none=>rw [aB y];exact g.g _ _ (by rw [aj y];exact e)
  |some o=>have:=sg _ _ e;rw [zn b o y] at this;cases this
 h:=fun b u e=>by
  cases y:Z.lookup b with
  |none=>rw [aB y];exact g.h _ _ (by rw [aj y];exact e)
  |some o=>rw [zn b o y] at e;cases e
 sub:=fun b u e=>by
  obtain⟨q,e1⟩:=dD e
  rw [aB q];exact g.sub _ _ e1
 own:=fun a h1 h3 h2=>by
  cases y:Z.lookup a with
  |none=>rw [aB y];exact g.own a (by rw [aj y];exact h1) (by rw [aj y];exact h3) (by rw [aj y];exact h2)
  |some o=>exact ee y
 tab:=fun t=>ji (g.tab (oX t sg zn)) g.sub (fun b o q=>g.g _ _ (aZ q)) zc
theorem uE(sg:aF G H):aF (withZ Z G) (withZ Z H):=fun b u e=>by
 cases y:Z.lookup b with
 |none=>rw [aj y] at e⊢;exact sg _ _ e
 |some o=>rw [aZ y] at e⊢;exact e
theorem rq{G3 H3:Hp}(s:aF G3 H3)(zn:∀b o,Z.lookup b=some o→H3 b=none):aF G3 (withZ Z G3):=fun b u e=>by
 cases y:Z.lookup b with
 |none=>rw [aj y];exact e
 |some o=>have:=s _ _ e;rw [zn b o y] at this;cases this
theorem o8(zs:∀b o,Z.lookup b=some o→H b=some (.frz o bx)):withZ Z (aY Z H)=H:=by
 funext b
 cases y:Z.lookup b with
 |none=>rw [aj y,aB y]
 |some o=>rw [aZ y,zs b o y]
theorem pZ(zs:∀b o,Z.lookup b=some o→H b=none):aY Z (withZ Z H)=H:=by
 funext b
 cases y:Z.lookup b with
 |none=>rw [aB y,aj y]
 |some o=>rw [ee y,zs b o y]
theorem vP{P:Program}{w:World}{h:Heap}(k:dG P w H h)(zs:∀b o,Z.lookup b=some o→H b=some (.frz o bx)):dG P w (aY Z H) h:=fun b v e=>by
 obtain⟨q,e1⟩:=dD e
 refine(k b v e1).stay (fun c y _ r=>r) (fun c r=>?_) fun c xs r=>?_
 ·cases y:Z.lookup c with
  |none=>rw [aB y];exact r
  |some o=>rw [zs c o y] at r;cases r
 ·cases y:Z.lookup c with
  |none=>rw [aB y];exact r
  |some o=>rw [zs c o y] at r;cases r
theorem uY{P:Program}{w:World}{K:PySem.W.Frag}{mg:Str→Option Value}{base:Heap}{A:Around}{outer:List Env}{s:Shared}(e:gv P w K mg base A outer s H)(zs:∀b o,Z.lookup b=some o→H b=some (.frz o bx)):gv P w K mg base A outer s (aY Z H):=
 ⟨e.frames,e.mod,fun b o q=>⟨(e.bs b o q).1,f7 (e.bs b o q).2⟩,e.bsz,e.funs,fun b hb=>f7 (e.frf b hb),vP e.hok zs,e.bare⟩
theorem yd{ps:List Str}{scope:Scope}(h:HZ ps scope=true):o6 ps (bh scope) scope:=by
 unfold HZ at h;simp only [Bool.and_eq_true,beq_iff_eq,Bool.not_eq_true',decide_eq_true_eq,List.all_eq_true] at h;obtain⟨⟨⟨⟨⟨⟨h1,h2⟩,h3⟩,h4⟩,h5⟩,h6⟩,h7⟩:=h
 refine⟨h1,h2,h3,h4,h5,h6,h7,fun x hx=>?_⟩
 unfold bh;rw [List.mem_reverse,List.mem_map];exact⟨(x,.free),List.mem_filter.mpr ⟨PySem.mem_of_lookup hx,rfl⟩,rfl⟩
theorem sX{params:Arguments}{ps:List Str}{qual:Str}{body:Expr}{scope:Scope}{cl:List (Str×Addr)}{pm eA ct:Value}(h:ou params=some ps)(us:List Value)(hl:us.length=ps.length):bindArgs (PySem.W.kla_fn "<lambda>" qual params body scope cl pm eA ct) ⟨us,[]⟩=pure (ps.zip us):=by
 unfold ou at h;split at h
 ·cases h
  match us,hl with
  |[],_=>rfl
 ·cases h
  match us,hl with
  |[u],_=>
   simp [bindArgs,seqItems?,PySem.W.kla_fn]
   rfl
 ·cases h
theorem zT{params:Arguments}{ps:List Str}{env:Env}(h:ou params=some ps):defaultsOf params env=([],[]):=by
 unfold ou at h;split at h
 ·rfl
 ·rfl
 ·cases h
theorem mj:∀{idx:List Nat} {l qs:List PV} {us:List V},fb l idx=.ok qs→aq W G l us→∃vs:List V,aq W G qs vs∧vs.length=idx.length∧∀(j i:Nat),idx[j]?=some i→∃v,us[i]?=some v∧vs[j]?=some v
 |[],l,qs,us,h,r=>by
  unfold fb at h;cases h;exact⟨[],.nil,rfl,fun j i e=>by simp at e⟩
 |i::idx,l,qs,us,h,r=>by
  unfold fb at h;obtain⟨p,hp,h⟩:=Res.bind_ok h
  obtain⟨ps,iP,h⟩:=Res.bind_ok h
  cases h;obtain⟨v,hv,rv⟩:=r.getP (Res.of_ok hp)
  obtain⟨vs,l1,l2,l3⟩:=mj iP r
  refine⟨v::vs,.cons rv l1,by simp [l2],fun j k e=>?_⟩
  cases j with
  |zero=>simp at e;subst e;exact⟨v,hv,rfl⟩
  |succ j=>simpa using l3 j k (by simpa using e)
theorem iA{l:List PV}(c:Str):∀{idx:List Nat},fb l idx≠.exc c
 |[]=>fun z=>nomatch z
 |i::idx=>fun z=>by
  unfold fb at z;rcases Res.bind_exc z with z|⟨p,_,z⟩
  ·exact Res.of_noexc c z
  ·rcases Res.bind_exc z with z|⟨ps,_,z⟩
   ·exact iA c z
   ·cases z
end
def xa(idx:List Nat):TA:=fun σ H Q=>∃vs:List V,vs.length=idx.length∧(∀(j i:Nat),idx[j]?=some i→∃v,σ[i]?=some (some v)∧vs[j]?=some v)∧Q vs H
theorem qh{a:Expr}{as:List Expr}{xs:List (Option Str)}(h:dU (a::as) xs=true):∃x np,a=.Name x np∧∃FE,dU as FE=true:=by
 cases xs with
 |nil=>cases a<;>exact absurd h zzf
 |cons y ys=>
  cases y with
  |none=>cases a<;>exact absurd h zzf
  |some y=>
   cases a with
   |Name x np=>exact⟨x,np,rfl,ys,(Bool.and_eq_true_iff.mp h).2⟩
   |_=>exact absurd h zzf
theorem kg{env:Env}:∀{as:List Expr} {xs:List (Option Str)} {pos:Pos},dU as xs=true→(backTo pos (starEach as env)).any (·.1)=false
 |[],_,_,_=>rfl
 |a::as,xs,pos,h=>by
  obtain⟨x,np,rfl,FE,h2⟩:=qh h
  show(false||(backTo pos (starEach as env)).any (·.1))=false
  rw [kg h2]
  rfl
theorem pq{X:Cx}(hv:∀(i:Nat) (x:Str),X.N[i]?=some x→FG X.env.scope x):∀{as:List Expr} {idx:List Nat},dU as (idx.map fun i=>X.N[i]?)=true→PA X as (xa idx)
 |[],[],_=>L2.PA.imp dW fun σ H Q h=>by
  obtain⟨vs,h1,_,h3⟩:=h
  cases vs with
  |nil=>exact h3
  |cons _ _=>simp at h1
 |a::as,i::idx,h=>by
  rw [List.map_cons] at h;cases e:X.N[i]? with
  |none=>rw [e] at h;cases a<;>exact absurd h zzf
  |some y=>
   rw [e] at h;cases a<;>first|(exact absurd h zzf)|skip
   rename_i x np;unfold dU at h;rw [Bool.and_eq_true,Bool.and_eq_true] at h;have Jc:=beq_iff_eq.mp h.1.1
   subst Jc;have Lh:(x==("__debug__":Str))=false∧(x==("__classdict__":Str))=false:=by
    have h2:=h.1.2
    unfold okN at h2;simp only [Bool.and_eq_true,Bool.not_eq_true'] at h2;exact⟨h2.1.1,h2.1.2⟩
   refine L2.PA.imp (cH (dR (i:=i) e (hv i x e) Lh.1 Lh.2) (pq hv h.2) rfl) fun σ H Q hq=>?_
   obtain⟨vs,h1,h2,h3⟩:=hq
   cases vs with
   |nil=>simp at h1
   |cons v vs=>
    obtain⟨v',hv1,hv2⟩:=h2 0 i rfl
    simp at hv2;subst hv2;exact⟨v,hv1,vs,by simpa using h1,fun j k ej=>by simpa using h2 (j+1) k (by simpa using ej),h3⟩
 |[],_::_,h=>by cases h
 |a::_,[],h=>by cases a<;>cases h
end Ci
namespace Ci
open PySem L2
section
variable{Γ:Pg}{X:Cx}{W:Wd}{F:aS}{N:List Str}{sc:Scope}{k:Nat}
theorem sk{g:Str}{idx:List Nat}{params:Arguments}{body:Expr}{scope:Scope}(h:xk g idx params body scope=true):∃ps a as np pos,ou params=some ps∧idx.head?=some ps.length∧body=.Call (.Name g np) (a::as) [] pos∧scope.names.lookup g=some .globalImplicit∧okN g=true∧fY g=false∧dU (a::as) (idx.tail.map fun i=>(ps++bh scope)[i]?)=true∧o6 ps (bh scope) scope:=by
 unfold xk at h;split at h
 ·rename_i ps g' np a as pos e1;simp only [Bool.and_eq_true,beq_iff_eq,Bool.not_eq_true',decide_eq_true_eq] at h;obtain⟨⟨⟨⟨⟨⟨h0,h1⟩,h2⟩,h3⟩,h4⟩,h5⟩,h6⟩:=h
  subst h1;exact⟨ps,a,as,np,pos,e1,h0,rfl,h2,h3,h4,h5,yd h6⟩
 ·cases h
theorem qF{a:Expr}{as:List Expr}{xs:List (Option Str)}{env:Env}(h:dU (a::as) xs=true):∃x np,a=.Name x np∧∃FE,dU as FE=true:=qh h
theorem Ao(C:dE Γ F W N sc k X){g:Str}{idx:List Nat}{cI as qs:List PV}{f:Addr}{pins:List (Addr×Obj)}{σ:St}{G H:Hp}{s:Shared}{Q:VK}{us:List Value}{vs:List V}
 (I:Inv X pins σ H s) (sg:aF G H) (tb:cy W G H) (cr:mT W G g idx cI (.ref f)) (l:aq W G as vs) (r:Vals vs us) (hn:idx.head?=some as.length) (hq:fb (as++cI) idx.tail=.ok qs)
 (o:Out X W (F g qs) σ G H fun p=>dq W G H p Q):wpAny (model X.prog X.w) X.A (call (.ref f) us) (EP X pins σ Q) X.xe s:=by
 obtain⟨f',c',oc,cR,t,er,pm,params,body,scope,qual,cl,Z,ws,e,d⟩:=cr
 cases e;obtain⟨ps,a,as',np,pos,e1,e0,rfl,e2,e3,e4,e5,S⟩:=sk d.lg
 have xD:F g qs≠.bad:=fun z=>by rw [z] at o;exact o
 have hlen:as.length=ps.length:=Option.some.inj (hn.symm.trans e0)
 have Gp:∀b o,Z.lookup b=some o→H b=some (.frz o bx):=fun b o q=>sg _ _ (d.zs b o q)
 have ML:withZ Z (aY Z H)=H:=o8 Gp
 have Bh:qQ Z (aY Z H) (dQ X.stack) s.heap:=⟨fun b o q=>(I.hok b _ (Gp b o q)).1,fun b o q=>ee q,fun b o q hb=>by have:=I.stkFree b hb;rw [Gp b o q] at this;cases this⟩
 have rl:aq W (aY Z G) (as++cI) (vs++ws):=(aq.less d.zs as l).append d.rep
 obtain⟨ys,ry,ly,py⟩:=mj hq rl
 have hfs:Γ.fs.contains g=true:=by
  rcases C.any g qs xD with z|z
  ·exact z
  ·rw [e4] at z;cases z
 obtain⟨fa,fd,pn,FO,hm,hk,hb,hal⟩:=(C.fns g hfs).ex
 have Nx:aF (aY Z G) (aY Z H):=lH sg
 refine wpAny_call (codeAny_mono (L2.lam_run (E:=fun Cv ao H'=>∃c,F g qs=.exc c∧XE W c G H Cv ao H') (Q:=Q) (Z:=Z) (ws:=ws) (vs:=vs) (t:=fun σ' H1 Q1=>H1=aY Z H∧xa idx.tail σ' H1 fun zs H2=>H2=H1∧zs=ys∧∀u H3,(match F g qs with
  |.ok p=>∃G3,aJ W (aY Z G) (aY Z H) G3 H3∧Rep W G3 p u
  |_=>False)→Q1 u H3) S C.room (uY I.env0 Gp) Bh ?zb (I.hok _ _ (sg _ _ d.fo)).1 (I.hok _ _ (sg _ _ d.co)).1 d.cd d.cn (sX e1 us (by rw [←r.length,l.length,hlen])) r (by rw [l.length,hlen]) d.len d.has d.inj d.cells ?cells ?ht ?hq) fun rr s' hr=>?end_)
 case zb=>
  intro b o q;cases y:X.base.get? b with
  |none=>rfl
  |some o'=>have:=(I.bs b o' y).2;rw [Gp b o q] at this;cases this
 case cells=>
  intro i y c h1 h2 v h3;obtain⟨u,o',q1,q2,q3⟩:=d.vals i y c h1 h2 v h3
  exact⟨u,q1,o',Bh.at_ c o' q2,q3⟩
 case hq=>
  refine⟨rfl,ys,ly,fun j i ej=>?_,rfl,rfl,fun u H3 h3 zn=>?_⟩
  ·obtain⟨v,h1,h2⟩:=py j i ej
   refine⟨v,?_,h2⟩;rw [←List.map_append,List.getElem?_map,h1]
   rfl
  ·cases z:F g qs with
   |ok p=>
    rw [z] at h3 o;obtain⟨G3,g3,r3⟩:=h3
    exact o u _ _ (g3.wz sg d.zs d.zc zn) (Rep.same (rq g3.sub zn) p r3)
   |exc c=>rw [z] at h3;exact h3.elim
   |bad=>exact absurd z xD
 case ht=>
  intro rX s1 σ' H1 Q1 I1 h1;obtain⟨rfl,h1⟩:=h1
  obtain⟨x0,np0,rfl,FE,hrest⟩:=qF (env:=X.env) e5
  refine wpAny_Call_Name_kw (fu (X:=Bw X.prog X.w X.K X.mg X.base (ps++bh scope) qual scope f (.ref c') cl X.A X.stack s (aY Z H) _) I1 e2 hm ?_ (cV e3).1);refine PySem.W.callWith_K (h₀:=X.base) I.ok.mod.kin hk (bL (pq (X:=Bw X.prog X.w X.K X.mg X.base (ps++bh scope) qual scope f (.ref c') cl X.A X.stack s (aY Z H) _) (fun i x hx=>?_) e5 pos rX s1 σ' _ _ I1 h1) fun us2 s2 ⟨vs2,H2,I2,r2,q2⟩=>⟨I2.kIn,?_⟩) rfl (kg hrest)
  ·rcases List.mem_append.mp (List.mem_of_getElem? hx) with z|z
   ·exact .inl (S.par x z)
   ·exact .inr (.inr (S.fre x z))
  ·obtain⟨rfl,rfl,q2⟩:=q2
   refine jd (X:=Bw X.prog X.w X.K X.mg X.base (ps++bh scope) qual scope f (.ref c') cl X.A X.stack s (aY Z H) _) (q:=none) (as:=qs) (G:=aY Z G) (C.room.deeper _) FO hb (fun z=>by rw [ry.length];exact hal qs z) I2 Nx (ji tb sg d.zs d.zc) ry r2 ?_;cases z:F g qs with
   |ok p=>
    rw [z] at q2;exact fun v G' H' g' rp=>q2 v H' ⟨G',g',rp⟩
   |exc c=>
    intro pins3 G3 H3 s3 e s' I3 g3 x3;refine Gz pins3 σ' H3 s3 e s' I3 (A1.imp x3 fun Cv ao H' y zn=>?_);obtain⟨C4,a4,G4,y1,y2,y3,y4,y5⟩:=y
    exact⟨c,rfl,C4,a4,_,y1,y2,y3,y4,(g3.trans y5).wz sg d.zs d.zc zn⟩
   |bad=>exact absurd z xD
 case end_=>
  rw [ML] at hr;cases rr with
  |error e=>
   have hr:dA X.prog X.w X.stack H s (fun Cv ao H'=>∃c,F g qs=.exc c∧XE W c G H Cv ao H') e s':=hr
   cases z:F g qs with
   |ok q=>
    obtain⟨a,C',t,vs,H',B,rfl,Fl⟩:=hr
    obtain⟨c,e1,_⟩:=Fl.ends
    rw [z] at e1;cases e1
   |exc c=>
    rw [z] at o;refine o pins G H s e s' I (.refl sg) (A1.imp hr fun C1 a H' y=>?_);obtain⟨c',e1,y⟩:=y
    rw [z] at e1;cases e1;exact y
   |bad=>exact absurd z xD
  |ok fl=>
   cases fl with
   |ret u=>exact I.after hr
   |next=>exact False.elim hr
   |brk=>exact False.elim hr
   |cont=>exact False.elim hr
end
end Ci
namespace Ci
open PySem L2
section
variable{Γ:Pg}{X:Cx}{W:Wd}{F:aS}{N:List Str}{sc:Scope}{k:Nat}
theorem wg(C:dE Γ F W N sc k X){i:Nat}{x:Str}{e:E}{es:Es}{p:Expr}{ps:List Expr}{np pos:Pos}(h:(N[i]?==some x&&dm sc x&&okN x)=true)(w4:fI (.cons e es)=true)(ha:GA X W F (.cons e es) (p::ps))
 (dH:starEach (p::ps) X.env=(false,eval p X.env)::starEach ps X.env) (hpl:(backTo pos (starEach ps X.env)).any (·.1)=false):GE X W F (.callv i (.cons e es)) (.Call (.Name x np) (p::ps) [] pos):=by
 simp only [Bool.and_eq_true,beq_iff_eq] at h;obtain⟨h1,h2,h3⟩:=cV h.2
 intro pins s σ H Q I hq;obtain⟨H0,G,env,sr,o⟩:=hq
 rw [ay] at o;cases e1:env[i]? with
 |none=>rw [e1] at o;exact o.elim
 |some sl=>
  cases sl with
  |no=>rw [e1] at o;exact o.elim
  |val _=>rw [e1] at o;exact o.elim
  |own _=>rw [e1] at o;exact o.elim
  |fn g idx cI=>
   rw [e1] at o;obtain⟨o2,hs,v,rfl,cr⟩:=sr.slot i _ e1
   have NJ:=cr
   obtain⟨f,c',oc,cR,t,er,pm,params,body,scope,qual,cl,Z,ws,e2,d⟩:=NJ
   subst e2;refine wpAny_Call_Name_kw (wpAny_mono (dR (i:=i) (by rw [C.hN];exact h.1.1) (jc C h.1.2) h1 h2 pins s σ H (fun v' H1=>v'=.ref f∧H1=H) I ⟨_,hs,rfl,rfl⟩) (fun u s1 hu=>?_) fun _ _ y=>y)
   obtain⟨v',H1,I1,ru,rfl,rfl⟩:=hu
   cases ru;refine PySem.W.callWith_F ⟨_,_,_,_,(I1.hok _ _ (sr.sub _ _ d.fo)).1⟩ (bL (ha pos pins s1 σ H1 (fun vs H2=>∃G2 as qs,aF G2 H2∧cy W G2 H2∧aq W G2 as vs∧mT W G2 g idx cI (.ref f)∧G2 f=some (.frz (PySem.W.kla_obj "<lambda>" qual params body scope cl pm c' er) bx)∧idx.head?=some as.length∧fb (as++cI) idx.tail=.ok qs∧Out X W (F g qs) σ G2 H2 fun p=>dq W G2 H2 p Q) I1 ?_) fun us s2 ⟨vs,H2,I2,r,q⟩=>?_) dH hpl
   ·refine args sr o fun as vs G1 H2 g1 t1 bR o1=>?_
    split at o1
    ·rename_i hn;cases hq:fb (as++cI) idx.tail with
     |ok qs=>
      rw [hq] at o1;have pN:Out X W (F g qs) σ G1 H2 _:=o1
      exact⟨G1,as,qs,bR.sub,bR.tab,t1.rep w4,cr.same g1.g,g1.g _ _ d.fo,hn,hq,pN.imp fun p hp v G' H' g' rp=>hp v G' H' (g1.trans g') (.of rp)⟩
     |exc c=>exact absurd hq (iA c)
     |bad=>rw [hq] at o1;exact o1.elim
    ·exact o1.elim
   ·obtain⟨G2,as,qs,sg,tb,l,cr2,fo2,hn,hqs,o2⟩:=q
    exact⟨⟨_,_,_,_,(I2.hok _ _ (sg _ _ fo2)).1⟩,Ao C I2 sg tb cr2 l r hn hqs o2⟩
def mI(X:Cx)(W:Wd)(params:Arguments)(body:Expr)(scope:Scope)(cl:List (Str×Addr))(G1 H1 G2 H2:Hp)(f:Addr):Prop:=aJ W G1 H1 G2 H2∧∃c' oc cR t er pm,G2 f=some (.frz (PySem.W.kla_obj "<lambda>" (X.env.qual++"<lambda>") params body scope cl pm c' er) bx)∧G2 c'=some (.frz oc bx)∧oc.data=.fields cR∧cR[1]?=some (.str (X.env.qual++"<lambda>") t)
theorem vQ(C:dE Γ F W N sc k X)(hl:Γ.hl=true){params:Arguments}{ps:List Str}{body:Expr}{scope:Scope}{pos:Pos}{cl:List (Str×Addr)}(hp:ou params=some ps)(BY:closureFor scope X.env=pure cl):
 PE X (.Lambda params body scope pos) (fun σ H Q=>∃G,aF G H∧cy W G H∧∀f G2 H2,mI X W params body scope cl G H G2 H2 f→Q (.ref f) H2):=by
 intro pins s σ H Q I h;obtain⟨G,sg,tb,q⟩:=h
 obtain⟨c,P,sE,CH,hts,huq⟩:=C.tb hl
 obtain⟨nG,i4,hP,tr,al⟩:=tb P _ hts
 refine L2.lam_make (R:=fun c' oc=>G c'=some (.frz oc bx)) I hP tr sE CH (C.bm hl) BY (zT hp) (fun cv e=>?_) fun f c' oc cR t er oG h' tk hf hc Fd Mz Nt hd hv Ny Na more I'=>?_
 ·obtain⟨c',oc,cR,t,e1,e2,e3,e4⟩:=al pos cv e
  exact⟨c',oc,cR,t,e1,sg _ _ e2,e2,e3,e4⟩
 ·have Mk:G f=none:=sg.free hf
  have Mt:G c'=none∨G c'=some (.frz oc bx):=by
   rcases hc with z|z
   ·exact .inl (sg.free z)
   ·exact .inr z.2
  have fo:∀fo,eV H P oG c' oc f fo f=some (.frz fo bx):=fun fo=>by unfold eV;rw [au]
  have sG:∀fo,aF G (upd (upd G c' (.frz oc bx)) f (.frz fo bx)):=fun fo b u e=>by
   have zm:b≠f:=fun z=>by rw [z,Mk] at e;cases e
   rw [ah zm]
   by_cases hb:b=c'
   ·subst hb;rw [au];rcases Mt with z|z
    ·rw [z] at e;cases e
    ·rw [z] at e;exact e
   ·rw [ah hb];exact e
  have Jt:∀fo a,H a≠none→(∀vs,H a≠some (.tup vs))→G a=none→(upd (upd G c' (.frz oc bx)) f (.frz fo bx)) a=none:=fun fo a h1 _ h2=>by
   have MG:a≠f:=fun z=>h1 (by rw [z];exact hf)
   rw [ah MG]
   by_cases ha:a=c'
   ·subst ha;rcases hc with z|z
    ·exact absurd z h1
    ·rw [z.2] at h2;cases h2
   ·rw [ah ha];exact h2
  refine⟨.ref f,_,I',rfl,q f (upd (upd G c' (.frz oc bx)) f (.frz _ bx)) _ ⟨⟨sG _,fun b u e=>?_,fun b u e=>?_,Jt _,fun _ P' q' m=>?_⟩,c',oc,cR,t,er,(X.mg "__name__").getD .none,au,by rw [ah Fd,au],hd,hv⟩⟩
  ·have zm:b≠f:=fun z=>by rw [z,hf] at e;cases e
   by_cases Fc:b=P
   ·subst Fc;rw [hP] at e;cases e;obtain⟨m,rfl⟩:=more
    exact .inr ⟨i4,m,rfl,by unfold eV;rw [ah (Ne.symm Mz),ah (Ne.symm Nt),au]⟩
   ·have e2:eV H P oG c' oc f (PySem.W.kla_obj "<lambda>" (X.env.qual++"<lambda>") params body scope cl ((X.mg "__name__").getD .none) c' er) b=H b:=by
     unfold eV;rw [ah zm]
     by_cases hb:b=c'
     ·subst hb;rw [au];rcases hc with z|z
      ·rw [z] at e;cases e
      ·rw [z.1]
     ·rw [ah hb,ah Fc]
    rw [e2];exact gH.refl H b u e
  ·by_cases zm:b=f
   ·subst zm;rw [au] at e;rw [fo];exact e
   ·rw [ah zm] at e;unfold eV;rw [ah zm]
    by_cases hb:b=c'
    ·subst hb;rw [au] at e⊢;exact e
    ·rw [ah hb] at e⊢;have Fc:b≠P:=fun z=>by rw [z,nG] at e;cases e
     rw [ah Fc];exact sg _ _ e
  ·obtain⟨n1,qs,yu,tr1,al1⟩:=tb P' q' m
   have JI:P'≠f:=fun z=>by rw [z,hf] at yu;cases yu
   have fW:P'≠c':=fun z=>by
    rcases hc with y|y
    ·rw [z,y] at yu;cases yu
    ·rw [z,y.1] at yu;cases yu
   refine⟨by rw [ah JI,ah fW];exact n1,?_⟩
   by_cases hPP:P'=P
   ·subst hPP;rw [hP] at yu;cases yu;refine⟨oG,by unfold eV;rw [ah JI,ah fW,au],Ny,fun pos' cv y=>?_⟩
    rcases Na pos' cv y with y|y
    ·obtain⟨c2,oc2,cvs2,t2,e1,e2,e3,e4⟩:=al1 pos' cv y
     exact⟨c2,oc2,cvs2,t2,e1,sG _ _ _ e2,e3,e4⟩
    ·exact⟨c',oc,cR,t,y,by rw [ah Fd,au],hd,by rw [huq q' m];exact hv⟩
   ·refine⟨qs,by unfold eV;rw [ah JI,ah fW,ah hPP];exact yu,tr1,fun pos' cv y=>?_⟩
    obtain⟨c2,oc2,cvs2,t2,e1,e2,e3,e4⟩:=al1 pos' cv y
    exact⟨c2,oc2,cvs2,t2,e1,sG _ _ _ e2,e3,e4⟩
end
end Ci
namespace Ci
open PySem L2
section
variable{Γ:Pg}{X:Cx}{W:Wd}{F:aS}{N:List Str}{sc:Scope}{k:Nat}
structure xF(N:List Str)(sc:Scope)(g:Str)(idx aW:List Nat)(params:Arguments)(body:Expr)(scope:Scope):Prop where
 lb:xk g idx params body scope=true
 cn:aW.map (fun i=>N[i]?)=(bh scope).map some
 cc:∀y∈bh scope,sc.names.lookup y=some .cell
noncomputable def Fq(X:Cx)(W:Wd)(F:aS)(N:List Str)(sc:Scope)(g:Str)(idx aW:List Nat)(es:Es):TA:=fun σ H Q=>∃H0 G env,SR W H0 env σ G H∧Out X W (ak F es env) σ G H fun as=>∀vs G1 H1,aJ W G H G1 H1→aq W G1 as vs→∀params body scope f G2 H2,xF N sc g idx aW params body scope→mI X W params body scope (bz X.env (bh scope)) G1 H1 G2 H2 f→Q (vs++[.ref f]) H2
theorem xJ(C:dE Γ F W N sc k X)(ok:X.Ok){g:Str}{idx aW:List Nat}{params:Arguments}{body:Expr}{scope:Scope}(a:xF N sc g idx aW params body scope):closureFor scope X.env=pure (bz X.env (bh scope)):=by
 refine fZ fun y hy hf=>ok.has y.1 (.inl ?_)
 show X.env.scope.names.lookup y.1=_
 rw [C.hsc];refine a.cc y.1 ?_;unfold bh;rw [List.mem_reverse,List.mem_map];exact⟨y,List.mem_filter.mpr ⟨hy,by rw [hf];rfl⟩,rfl⟩
theorem zv(C:dE Γ F W N sc k X)(hl:Γ.hl=true){g:Str}{idx aW:List Nat}{params:Arguments}{body:Expr}{scope:Scope}{pos:Pos}(a:xF N sc g idx aW params body scope):PA X [.Lambda params body scope pos] (Fq X W F N sc g idx aW .nil):=by
 obtain⟨ps,_,_,_,_,e1,_⟩:=sk a.lb
 intro pos' pins s σ H Q I h;refine cH (vQ C hl e1 (xJ C I.ok a)) dW rfl pos' pins s σ H Q I ?_;obtain⟨H0,G,env,sr,o⟩:=h
 rw [ak] at o;refine⟨G,sr.sub,sr.tab,fun f G2 H2 m=>?_⟩
 exact o [] G H (.refl sr.sub) .nil params body scope f G2 H2 a m
theorem xn{g:Str}{idx aW:List Nat}{e:E}{es:Es}{p:Expr}{ps:List Expr}(w4:fI (.cons e es)=true)(he:GE X W F e p)(hs:PA X ps (Fq X W F N sc g idx aW es))(dH:starEach (p::ps) X.env=(false,eval p X.env)::starEach ps X.env):PA X (p::ps) (Fq X W F N sc g idx aW (.cons e es)):=
 L2.PA.imp (cH he hs dH) fun σ H Q h=>by
  obtain⟨H0,G,env,sr,o⟩:=h
  rw [ak] at o;unfold fI at w4;rw [Bool.and_eq_true] at w4;refine one sr o fun q v G1 H1 g1 t1 bR o1=>⟨H0,G1,env,bR,o1.bind.imp fun as ha vs G2 H2 g2 l=>?_⟩
  intro params body scope f G3 H3 la lm;have:=ha (v::vs) G2 H2 (g1.trans g2) (.cons (Rep.same g2.g q (t1.rep w4.1)) l) params body scope f G3 H3 la lm
  simpa using this
theorem lookup_all{Z:List (Addr×Obj)}{h:Heap}(ha:∀q∈Z,h.get? q.1=some q.2):∀{c:Addr} {o:Obj},(c,o)∈Z→Z.lookup c=some o:=by
 induction Z with
 |nil=>intro c o m;cases m
 |cons q Z ih=>
  intro c o m;obtain⟨c1,o1⟩:=q
  rw [List.lookup_cons];cases e:c==c1 with
  |true=>
   have e2:=beq_iff_eq.mp e
   subst e2;have h1:=ha (c,o1) List.mem_cons_self
   have h2:h.get? c=some o:=ha (c,o) m
   rw [h1] at h2;exact h2
  |false=>
   rcases List.mem_cons.mp m with z|z
   ·cases z;simp at e
   ·exact ih (fun q hq=>ha q (List.mem_cons_of_mem _ hq)) z
theorem qk{H0 G H:Hp}{env:Sl}{σ:St}(sr:SR W H0 env σ G H):∀{aW:List Nat} {cs:List PV},iH env aW=.ok cs→∃ws:List V,aq W G cs ws∧ws.length=aW.length∧∀(j:Nat) (i:Nat),aW[j]?=some i→∃v,ws[j]?=some v∧σ[i]?=some (some v)
 |[],cs,h=>by
  unfold iH at h;cases h;exact⟨[],.nil,rfl,fun j i e=>by simp at e⟩
 |i::aW,cs,h=>by
  unfold iH at h;obtain⟨p,hp,h⟩:=Res.bind_ok h
  obtain⟨ps,iP,h⟩:=Res.bind_ok h
  cases h;have hs:env[i]?=some (.val p):=by
   cases e:env[i]? with
   |none=>rw [e] at hp;cases hp
   |some s=>rw [e] at hp;cases s<;>cases hp;rfl
  obtain⟨o,h1,v,rfl,rv⟩:=sr.slot i _ hs
  obtain⟨ws,l1,l2,l3⟩:=qk sr iP
  refine⟨v::ws,.cons rv l1,by simp [l2],fun j k e=>?_⟩
  cases j with
  |zero=>simp at e;subst e;exact⟨v,rfl,h1⟩
  |succ j=>simpa using l3 j k (by simpa using e)
theorem km{env:Sl}(c:Str):∀{aW:List Nat},iH env aW≠.exc c
 |[]=>fun z=>nomatch z
 |i::aW=>fun z=>by
  unfold iH at z;rcases Res.bind_exc z with z|⟨p,_,z⟩
  ·cases e:env[i]? with
   |none=>rw [e] at z;cases z
   |some s=>rw [e] at z;cases s<;>cases z
  ·rcases Res.bind_exc z with z|⟨ps,_,z⟩
   ·exact km c z
   ·cases z
theorem va(C:dE Γ F W N sc k X)(hl:Γ.hl=true){q:Hs}{aW:List Nat}{fa:Addr}{fd:FuncData}{pn:List Str}(FO:eW X.prog X.w X.K X.mg X.base (dA X.prog X.w) k fa fd pn (vq W F q.f pn.length (some (q.g,q.idx))))(hb:Binds X.K fd pn []){pins:List (Addr×Obj)}{σ:St}{H0 G H:Hp}{env:Sl}{s:Shared}{Q:VK}{us:List Value}{vs:List V}{as cs:List PV}{params:Arguments}{body:Expr}{scope:Scope}{f c':Addr}{oc:Obj}{cR:Array Value}{t:Tok}{er pm:Value}
 (I:Inv X pins σ H s) (sr:SR W H0 env σ G H) (a:xF N sc q.g q.idx aW params body scope) (IQ:iH env aW=.ok cs) (l:aq W G as vs) (fo:G f=some (.frz (PySem.W.kla_obj "<lambda>" (X.env.qual++"<lambda>") params body scope (bz X.env (bh scope)) pm c' er) bx)) (co:G c'=some (.frz oc bx)) (cd:oc.data=.fields cR) (cn:cR[1]?=some (.str (X.env.qual++"<lambda>") t))
 (hlen:(vs++[V.ref f]).length=pn.length) (r:Vals (vs++[.ref f]) us) (o:Out X W (F q.f (as++cs)) σ G H fun p=>dq W G H p Q):wpAny (model X.prog X.w) X.A (call (.ref fa) us) (EP X pins σ Q) X.xe s:=by
 have xD:F q.f (as++cs)≠.bad:=fun z=>by rw [z] at o;exact o
 obtain⟨ws,rws,lws,pws⟩:=qk sr IQ
 have dB:∀y∈bh scope,∃c,X.env.cells.lookup y=some c:=fun y hy=>I.ok.has y (.inl (by show X.env.scope.names.lookup y=_;rw [C.hsc];exact a.cc y hy))
 have call:((bh scope).all fun y=>(X.env.cells.lookup y).isSome)=true:=List.all_eq_true.mpr fun y hy=>by obtain⟨c,e⟩:=dB y hy;rw [e];rfl
 let Z:List (Addr×Obj):=(bh scope).filterMap fun y=>(X.env.cells.lookup y).bind fun c=>(s.heap.get? c).map fun o=>(c,o)
 have Gu:∀q∈Z,∃y,y∈bh scope∧X.env.cells.lookup y=some q.1∧s.heap.get? q.1=some q.2:=fun q hq=>by
  obtain⟨y,hy,e⟩:=List.mem_filterMap.mp hq
  obtain⟨c,hc,e⟩:=Option.bind_eq_some_iff.mp e
  obtain⟨o,ho,rfl⟩:=Option.map_eq_some_iff.mp e
  exact⟨y,hy,hc,ho⟩
 have JT:∀q∈Z,s.heap.get? q.1=some q.2:=fun q hq=>let⟨_,_,_,h⟩:=Gu q hq;h
 have Lj:∀y c o,y∈bh scope→X.env.cells.lookup y=some c→s.heap.get? c=some o→Z.lookup c=some o:=fun y c o hy hc ho=>lookup_all JT (List.mem_filterMap.mpr ⟨y,hy,by rw [hc];show(s.heap.get? c).map _=_;rw [ho];rfl⟩)
 have HA:∀b o,Z.lookup b=some o→∃y,y∈bh scope∧X.env.cells.lookup y=some b∧s.heap.get? b=some o:=fun b o e=>by
  obtain⟨y,h1,h2,h3⟩:=Gu (b,o) (PySem.W.mem_of_lookupK e)
  exact⟨y,h1,h2,h3⟩
 have zc:∀b o,Z.lookup b=some o→∃v,o.data=.cell v:=fun b o e=>by
  obtain⟨y,_,h2,h3⟩:=HA b o e
  obtain⟨v,o',h4,h5⟩:=I.cell y b h2
  rw [h3] at h4;cases h4;exact⟨v,h5⟩
 have FR:∀b o,Z.lookup b=some o→H b=none:=fun b o e=>by obtain⟨y,_,h2,_⟩:=HA b o e;exact I.freeC y b h2
 have KL:∀b o,Z.lookup b=some o→G b=none:=fun b o e=>sr.sub.free (FR b o e)
 have pf:∀b u,G b=some u→Z.lookup b=none:=fun b u e=>by
  cases y:Z.lookup b with
  |none=>rfl
  |some o=>rw [KL b o y] at e;cases e
 have Gn:∀x c,(bz X.env (bh scope)).lookup x=some c→X.env.cells.lookup x=some c:=dJ call
 have IY:∀x c,(bz X.env (bh scope)).lookup x=some c→x∈bh scope:=fun x c e=>by
  have:=PySem.mem_of_lookup e
  unfold bz at this;obtain⟨y,hy,e2⟩:=List.mem_map.mp this
  cases e2;exact hy
 have Ly:∀b o,Z.lookup b=some o→X.s₀.heap.objs.size≤b:=fun b o e=>by
  obtain⟨y,_,h2,_⟩:=HA b o e
  exact I.ok.cab y b (C.fl hl y) h2
 have Bh:qQ Z H (dQ X.stack) s.heap:=⟨fun b o e=>let⟨_,_,_,h⟩:=HA b o e;h,FR,fun b o e IV=>by
  obtain⟨y,_,h2,h3⟩:=HA b o e
  rcases List.mem_cons.mp (I.stkSub b IV) with z|z
  ·exact I.cne y b h2 z
  ·obtain⟨_,o',h4,_⟩:=I.ok.funs.mem z
   exact absurd (Heap.lt_size h4) (Nat.not_lt.mpr (Ly b o e))⟩
 have zb:∀b o,Z.lookup b=some o→X.base.get? b=none:=fun b o e=>by
  cases y:X.base.get? b with
  |none=>rfl
  |some o'=>exact absurd (Heap.lt_size (I.ok.bs b o' y).1) (Nat.not_lt.mpr (Ly b o e))
 have MC:(bh scope).length=aW.length:=by have:=congrArg List.length a.cn;simpa using this.symm
 have cr:mT W (withZ Z G) q.g q.idx cs (.ref f):=by
  refine⟨f,c',oc,cR,t,er,pm,params,body,scope,_,bz X.env (bh scope),Z,ws,rfl,⟨a.lb,by rw [aj (pf f _ fo)];exact fo,by rw [aj (pf c' _ co)];exact co,cd,cn,pf f _ fo,pf c' _ co,fun x y c h1 h2=>I.ok.inj x y c (Gn x c h1) (Gn y c h2),fun y hy=>gB hy,fun x c h=>?_,fun b o e=>aZ e,zc,fun i y c h1 h2 v h3=>?_,by rw [lws,MC],by rw [pZ KL];exact rws⟩⟩
  ·obtain⟨v,o,h1,h2⟩:=I.cell x c (Gn x c h)
   exact⟨o,v,Lj x c o (IY x c h) (Gn x c h) h1,h2⟩
  ·have hi:i<aW.length:=by rw [←lws];exact(List.getElem?_eq_some_iff.mp h3).1
   obtain⟨v',q1,q2⟩:=pws i aW[i] (List.getElem?_eq_getElem hi)
   rw [h3] at q1;cases q1;have M8:X.N[aW[i]]?=some y:=by
    rw [C.hN];have:=congrArg (fun l=>l[i]?) a.cn
    simp only [List.getElem?_map,h1,List.getElem?_eq_getElem hi,Option.map_some] at this;exact Option.some.inj this
   obtain⟨m,_,hloc⟩:=I.loc
   obtain⟨u,ru,lk⟩:=hloc aW[i] y v M8 q2 (.inr (.inl (by rw [C.hsc];exact a.cc y (List.mem_of_getElem? h1))))
   have La:=Gn y c h2
   rcases lk with⟨z,_⟩|⟨_,c2,hc2,o,ho,hd⟩
   ·have z2:X.env.scope.names.lookup y=some .local:=z
    rw [C.hsc,a.cc y (List.mem_of_getElem? h1)] at z2;cases z2
   ·rw [La] at hc2;cases hc2;exact⟨u,o,ru,Lj y c o (List.mem_of_getElem? h1) La ho,hd⟩
 have KG:us.length=pn.length:=by rw [←r.length];exact hlen
 have oF:=hb s us I.kIn (by rw [List.append_nil];exact KG)
 rw [List.append_nil] at oF;have Nb:aq W (withZ Z G) as vs:=aq.same (fun b u e=>by rw [aj (pf b u e)];exact e) as l
 have Np:∀G' H',aJ W (withZ Z G) (withZ Z H) G' H'→∀b o,Z.lookup b=some o→G' b=some (.frz o bx):=fun G' H' g b o e=>g.g _ _ (aZ e)
 refine wpAny_call (codeAny_mono (FO.run X.A X.stack s (withZ Z H) ⟨us,[]⟩ us _ (fun v H'=>Q v (aY Z H')) (fun Cv ao H'=>∃c,F q.f (as++cs)=.exc c∧XE W c G H Cv ao (aY Z H')) C.rm (I.env0.withZ Bh zb) oF r ⟨hlen,withZ Z G,as++cs,uE sr.sub,oX sr.tab sr.sub FR,⟨as,cs,vs,.ref f,rfl,rfl,Nb,cr⟩,?_⟩) fun rr s' hr=>?_)
 ·cases z:F q.f (as++cs) with
  |ok p=>
   rw [z] at o;exact fun v G' H' g' rp=>o v _ _ (g'.lz sr.sub zc FR) (Rep.less (Np G' H' g') p rp)
  |exc c=>
   intro Cv ao H' y;obtain⟨C4,a4,G4,y1,y2,y3,y4,y5⟩:=y
   exact⟨c,rfl,C4,a4,_,y1,y2,y3,y4,y5.lz sr.sub zc FR⟩
  |bad=>exact absurd z xD
 ·cases rr with
  |error e=>
   have hr:dA X.prog X.w X.stack H s (fun Cv ao H'=>∃c,F q.f (as++cs)=.exc c∧XE W c G H Cv ao H') e s':=dA.less Bh hr
   cases z:F q.f (as++cs) with
   |ok q=>
    obtain⟨a,C',t,vs,H',B,rfl,Fl⟩:=hr
    obtain⟨c,e1,_⟩:=Fl.ends
    rw [z] at e1;cases e1
   |exc c=>
    rw [z] at o;refine o pins G H s e s' I (.refl sr.sub) (A1.imp hr fun C1 a H' y=>?_);obtain⟨c',e1,y⟩:=y
    rw [z] at e1;cases e1;exact y
   |bad=>exact absurd z xD
  |ok fl=>
   cases fl with
   |ret u=>exact I.after (CE.less Bh hr)
   |next=>exact False.elim hr
   |brk=>exact False.elim hr
   |cont=>exact False.elim hr
theorem xq(C:dE Γ F W N sc k X)(hl:Γ.hl=true){q:Hs}(hq:q∈Γ.hs){aW:List Nat}{es:Es}{p:Expr}{ps:List Expr}{np pos:Pos}(hg:ic sc q.h=true)(ho:okN q.h=true)(hn:q.np=gM es+1)(ha:PA X (p::ps) (Fq X W F N sc q.g q.idx aW es))
 (dH:starEach (p::ps) X.env=(false,eval p X.env)::starEach ps X.env) (hpl:(backTo pos (starEach ps X.env)).any (·.1)=false):GE X W F (.callL q.f es q.g q.idx aW) (.Call (.Name q.h np) (p::ps) [] pos):=by
 intro pins s σ H Q I h;obtain⟨H0,G,env,sr,o⟩:=h
 rw [ay] at o;obtain⟨fa,fd,pn,FO,hm,hk,hb,hpn⟩:=(C.hfs q hq).ex
 refine wpAny_Call_Name_kw (fu I (eU C hg) hm ?_ (cV ho).1);refine PySem.W.callWith_K (h₀:=X.base) I.ok.mod.kin hk (bL (ha pos pins s σ H (fun vs H2=>∃G2 as cs rL params body scope f c' oc cR t er pm,vs=rL++[.ref f]∧as.length=gM es∧SR W H0 env σ G2 H2∧xF N sc q.g q.idx aW params body scope∧iH env aW=.ok cs∧aq W G2 as rL∧G2 f=some (.frz (PySem.W.kla_obj "<lambda>" (X.env.qual++"<lambda>") params body scope (bz X.env (bh scope)) pm c' er) bx)∧G2 c'=some (.frz oc bx)∧oc.data=.fields cR∧cR[1]?=some (.str (X.env.qual++"<lambda>") t)∧Out X W (F q.f (as++cs)) σ G2 H2 fun p=>dq W G2 H2 p Q) I ?_) fun us s1 ⟨vs,H1,I1,r,y⟩=>⟨I1.kIn,?_⟩) dH hpl
 ·refine⟨H0,G,env,sr,?_⟩;cases e1:ak F es env with
  |bad=>rw [e1] at o;exact o
  |exc c=>rw [e1] at o;exact o
  |ok as=>
   rw [e1] at o;have o:Out X W ((iH env aW).bind fun cs=>F q.f (as++cs)) σ G H _:=o
   cases e2:iH env aW with
   |bad=>rw [e2] at o;exact o.elim
   |exc c=>exact absurd e2 (km c)
   |ok cs=>
    rw [e2] at o;have o:Out X W (F q.f (as++cs)) σ G H _:=o
    intro vs G1 H1 g1 l params body scope f G2 H2 la lm;obtain⟨g2,c',oc,cR,t,er,pm,m1,m2,m3,m4⟩:=lm
    exact⟨G2,as,cs,vs,params,body,scope,f,c',oc,cR,t,er,pm,rfl,gy e1,(sr.grow g1).grow g2,la,rfl,aq.same g2.g as l,m1,m2,m3,m4,(o.grow (g1.trans g2)).imp fun p hp v G' H' g' rp=>hp v G' H' ((g1.trans g2).trans g') (.of rp)⟩
 ·obtain⟨G2,as,cs,rL,params,body,scope,f,c',oc,cR,t,er,pm,rfl,hal,eG,la,hcs,l,m1,m2,m3,m4,o2⟩:=y
  exact va C hl FO hb I1 eG la hcs l m1 m2 m3 m4 (by rw [List.length_append,l.length,hal,hpn,hn];rfl) r o2
end
end Ci
namespace Ci
open PySem L2
section
variable{Γ:Pg}{W:Wd}{F:aS}{k:Nat}
theorem Dt{X:Cx}{e:E}{p:Expr}(h:GE X W F e p)(he:∀whole,isTrue p X.env whole=(do let v←whole;standAt p.pos;holding [v] (truthy v))):GT X W F e p:=
 L2.PT.imp (Co h he) fun σ H Q hq=>BX σ H Q hq
structure Lq(X:Cx)(W:Wd)(F:aS)(e:E)(p:Expr):Prop where
 ge:GE X W F e p
 gt:dI e=true→GT X W F e p
 gw:dI e=true→∀op vs pos,p=.BoolOp op vs pos→GW X W F e p
theorem bo{X:Cx}{e:E}{p:Expr}(h:GE X W F e p)(he:∀whole,isTrue p X.env whole=(do let v←whole;standAt p.pos;holding [v] (truthy v)))(hb:∀op vs pos,p≠.BoolOp op vs pos):Lq X W F e p:=
 ⟨h,fun _=>Dt h he,fun _ op vs pos e=>absurd e (hb op vs pos)⟩
theorem isTrue_plain{p:Expr}{env:Env}(h:(match p with|.UnaryOp .Not _ _=>false|.BoolOp .. =>false|.IfExp .. =>false|.Compare .. =>false|_=>true)=true):∀whole,isTrue p env whole=(do let v←whole;standAt p.pos;holding [v] (truthy v)):=by
 intro whole;cases p with
 |UnaryOp op a pos=>cases op<;>first|rfl|(exact absurd h zzf)
 |BoolOp _ _ _=>exact absurd h zzf
 |IfExp _ _ _ _=>exact absurd h zzf
 |Compare _ _ _ _=>exact absurd h zzf
 |_=>rfl
theorem iE{N:List Str}{sc:Scope}{g:Str}{idx aW:List Nat}:∀{es:Es} {ps:List Expr},rS Γ N sc g idx aW es ps=true→∀env pos,(backTo pos (starEach ps env)).any (·.1)=false
 |.cons e es,p::ps,h,env,pos=>by
  replace h:=aG h
  rw [notStar h.1];show(false||(backTo pos (starEach ps env)).any (·.1))=false
  rw [iE h.2]
  rfl
 |.nil,[p],h,env,pos=>by
  cases p<;>first|(exact absurd h zzf)|rfl
 |.nil,[],h,_,_=>absurd h zzf
 |.nil,p::_::_,h,_,_=>by cases p<;>exact absurd h zzf
 |.cons _ _,[],h,_,_=>absurd h zzf
mutual
theorem bt:∀(e:E) {Γ:Pg} {N:List Str} {sc:Scope} {X:Cx} (C:dE Γ F W N sc k X) (p:Expr),bf Γ N sc e p=true→Lq X W F e p
 |.var i,Γ,N,sc,X,C,p,h=>by
  cases p<;>first|(exact absurd h zzf)|skip
  exact bo (Ek C h) (fun _=>rfl) (fun _ _ _ z=>nomatch z)
 |.tmp i,Γ,N,sc,X,C,p,h=>by
  cases p<;>first|(exact absurd h zzf)|skip
  exact bo (Dx C h) (fun _=>rfl) (fun _ _ _ z=>nomatch z)
 |.cst q,Γ,N,sc,X,C,p,h=>by
  cases p<;>first|(cases q<;>exact absurd h zzf)|skip
  rename_i c _ _;cases q<;>cases c<;>first|(exact absurd h zzf)|skip
  ·exact bo (gF Dy fun G=>.n) (fun _=>rfl) (fun _ _ _ z=>nomatch z)
  ·cases eq_of_beq h;exact bo (gF Bu fun G=>.b) (fun _=>rfl) (fun _ _ _ z=>nomatch z)
  ·cases eq_of_beq h;exact bo (gF xC fun G=>.i) (fun _=>rfl) (fun _ _ _ z=>nomatch z)
  ·cases eq_of_beq h;exact bo (gF yn fun G=>.s) (fun _=>rfl) (fun _ _ _ z=>nomatch z)
 |.glob g q,Γ,N,sc,X,C,p,h=>by
  cases p<;>first|(exact absurd h zzf)|skip
  exact bo (y9 C h) (fun _=>rfl) (fun _ _ _ z=>nomatch z)
 |.call f as,Γ,N,sc,X,C,p,h=>by
  cases p<;>first|(exact absurd h zzf)|skip
  rename_i fn args kQ pos;cases fn<;>first|(exact absurd h zzf)|skip
  rename_i g np;cases kQ with
  |cons _ _=>exact absurd h zzf
  |nil=>
   replace h:=aG h
   try simp only [Bool.and_eq_true,beq_iff_eq] at h
   obtain⟨⟨⟨⟨⟨rfl,h1⟩,h2⟩,h3⟩,h4⟩,h5⟩:=h
   have ga:=i6 as C args h5
   cases as with
   |nil=>
    cases args with
    |nil=>exact bo (xN C h1 h2 h3) (fun _=>rfl) (fun _ _ _ z=>nomatch z)
    |cons _ _=>exact absurd h5 zzf
   |cons e es=>
    cases args with
    |nil=>exact absurd h5 zzf
    |cons q qs=>
     have h6:=h5
     replace h6:=aG h6
     exact bo (zR C h1 h2 h3 h4 ga (notStar h6.1 _ _) (eo h6.2 _ _)) (fun _=>rfl) (fun _ _ _ z=>nomatch z)
 |.callv i as,Γ,N,sc,X,C,p,h=>by
  cases p<;>first|(exact absurd h zzf)|skip
  rename_i fn args kQ pos;cases fn<;>first|(exact absurd h zzf)|skip
  rename_i g np;cases kQ with
  |cons _ _=>exact absurd h zzf
  |nil=>
   replace h:=aG h
   simp only [Bool.and_eq_true] at h;obtain⟨⟨⟨⟨⟨h1,h2⟩,h3⟩,h4⟩,h6⟩,h5⟩:=h
   have ga:=i6 as C args h5
   cases as with
   |nil=>exact absurd h6 zzf
   |cons e es=>
    cases args with
    |nil=>exact absurd h5 zzf
    |cons q qs=>
     have h6:=h5
     replace h6:=aG h6
     exact bo (wg C (by rw [h1,h2,h3];rfl) h4 ga (notStar h6.1 _ _) (eo h6.2 _ _)) (fun _=>rfl) (fun _ _ _ z=>nomatch z)
 |.callL f as g idx aW,Γ,N,sc,X,C,p,h=>by
  cases p<;>first|(exact absurd h zzf)|skip
  rename_i fn args kQ pos;cases fn<;>first|(exact absurd h zzf)|skip
  rename_i hN np;cases kQ with
  |cons _ _=>exact absurd h zzf
  |nil=>
   replace h:=aG h
   simp only [Bool.and_eq_true,List.any_eq_true,beq_iff_eq] at h;obtain⟨⟨⟨⟨⟨⟨h1,h2⟩,h3⟩,h4⟩,h6⟩,q,hq,⟨⟨⟨rfl,rfl⟩,rfl⟩,rfl⟩,hd⟩,h5⟩:=h
   have JX:=of_decide_eq_true hd
   have ga:=BJ as C h1 q.g q.idx aW args h4 h5
   cases as with
   |nil=>exact absurd h6 zzf
   |cons e es=>
    cases args with
    |nil=>exact absurd h5 zzf
    |cons p qs=>
     have h6:=h5
     replace h6:=aG h6
     exact bo (xq C h1 hq h2 h3 JX ga (notStar h6.1 _ _) (iE h6.2 _ _)) (fun _=>rfl) (fun _ _ _ z=>nomatch z)
 |.blt b as,Γ,N,sc,X,C,p,h=>by
  cases p<;>first|(exact absurd h zzf)|skip
  rename_i fn args kQ pos;cases fn<;>first|(exact absurd h zzf)|skip
  rename_i g np;cases kQ with
  |cons _ _=>exact absurd h zzf
  |nil=>
   replace h:=aG h
   try simp only [Bool.and_eq_true,beq_iff_eq] at h
   obtain⟨⟨⟨⟨rfl,h1⟩,h2⟩,h3⟩,h5⟩:=h
   have ga:=i6 as C args h5
   cases as with
   |nil=>exact absurd h3 zzf
   |cons e es=>
    cases args with
    |nil=>exact absurd h5 zzf
    |cons q qs=>
     have h6:=h5
     replace h6:=aG h6
     exact bo (EL C b h1 h2 ga (notStar h6.1 _ _) (eo h6.2 _ _)) (fun _=>rfl) (fun _ _ _ z=>nomatch z)
 |.ty t a,Γ,N,sc,X,C,p,h=>by
  cases p<;>first|(exact absurd h zzf)|skip
  rename_i fn args kQ pos;cases fn<;>first|(exact absurd h zzf)|skip
  rename_i g np
  match args,kQ,h with
  |[pa,.Name tn tp],[],h=>
   replace h:=aG h
   try simp only [Bool.and_eq_true,beq_iff_eq] at h
   obtain⟨⟨⟨⟨⟨⟨rfl,h1⟩,h2⟩,rfl⟩,h3⟩,h4⟩,h5⟩:=h
   exact bo (BD C h1 h2 h3 h4 (bt a C pa h5).ge (notStar h5)) (fun _=>rfl) (fun _ _ _ z=>nomatch z)
  |[],_,h=>exact absurd h zzf
  |[_],_,h=>exact absurd h zzf
  |_::pb::_::_,_,h=>cases pb<;>exact absurd h zzf
  |[pa,pb],_::_,h=>cases pb<;>exact absurd h zzf
  | [pa, pb], [], h => cases pb<;>first|(exact absurd h zzf)|skip
                       rename_i tn tp;replace h:=aG h
                       try simp only [Bool.and_eq_true,beq_iff_eq] at h
                       obtain⟨⟨⟨⟨⟨⟨rfl,h1⟩,h2⟩,rfl⟩,h3⟩,h4⟩,h5⟩:=h
                       exact bo (BD C h1 h2 h3 h4 (bt a C pa h5).ge (notStar h5)) (fun _=>rfl) (fun _ _ _ z=>nomatch z)
 |.bin o a b,Γ,N,sc,X,C,p,h=>by
  cases p<;>first|(exact absurd h zzf)|skip
  replace h:=aG h
  try simp only [Bool.and_eq_true,decide_eq_true_eq] at h
  obtain⟨⟨rfl,h1⟩,h2⟩:=h
  exact bo (B4 C (bt a C _ h1).ge (bt b C _ h2).ge) (fun _=>rfl) (fun _ _ _ z=>nomatch z)
 |.cmp o a b,Γ,N,sc,X,C,p,h=>by
  cases p<;>first|(exact absurd h zzf)|skip
  rename_i pa ops cs pos
  match ops,cs,h with
  |[op],[pb],h=>
   replace h:=aG h
   try simp only [Bool.and_eq_true,decide_eq_true_eq] at h
   obtain⟨⟨rfl,h1⟩,h2⟩:=h
   exact⟨Ck C (bt a C _ h1).ge (bt b C _ h2).ge (nc h2 _),fun _=>C9 C (bt a C _ h1).ge (bt b C _ h2).ge (nc h2 _),(fun _ _ _ _ z=>nomatch z)⟩
  |[],_,h=>exact absurd h zzf
  |_::_::_,_,h=>exact absurd h zzf
  |[_],[],h=>exact absurd h zzf
  |[_],_::_::_,h=>exact absurd h zzf
 |.ch o1 o2 a b c,Γ,N,sc,X,C,p,h=>by
  cases p<;>first|(exact absurd h zzf)|skip
  rename_i pa ops cs pos
  match ops,cs,h with
  |[op1,op2],[pb,pc],h=>
   replace h:=aG h
   try simp only [Bool.and_eq_true,decide_eq_true_eq] at h
   obtain⟨⟨⟨⟨rfl,rfl⟩,h1⟩,h2⟩,h3⟩:=h
   have hm:lastMarks [oC o1,oC o2] [pb,pc]=false:=nc h3 _
   exact⟨FY C (bt a C _ h1).ge (bt b C _ h2).ge (bt c C _ h3).ge hm,fun _=>HC C (bt a C _ h1).ge (bt b C _ h2).ge (bt c C _ h3).ge hm,(fun _ _ _ _ z=>nomatch z)⟩
  |[],_,h=>exact absurd h zzf
  |[_],_,h=>exact absurd h zzf
  |_::_::_::_,_,h=>exact absurd h zzf
  |[_,_],[],h=>exact absurd h zzf
  |[_,_],[_],h=>exact absurd h zzf
  |[_,_],_::_::_::_,h=>exact absurd h zzf
 |.not a,Γ,N,sc,X,C,p,h=>by
  cases p<;>first|(exact absurd h zzf)|skip
  rename_i op pa pos;cases op<;>first|(exact absurd h zzf)|skip
  have h:bf Γ N sc a pa=true:=h
  have s:=bt a C pa h
  exact⟨Cm s.ge,fun z=>Dq (s.gt (by simpa only [dI] using z)),(fun _ _ _ _ z=>nomatch z)⟩
 |.neg a,Γ,N,sc,X,C,p,h=>by
  cases p<;>first|(exact absurd h zzf)|skip
  rename_i op pa pos;cases op<;>first|(exact absurd h zzf)|skip
  have h:bf Γ N sc a pa=true:=h
  exact bo (D3 (bt a C pa h).ge) (fun _=>rfl) (fun _ _ _ z=>nomatch z)
 |.and a b,Γ,N,sc,X,C,p,h=>by
  cases p<;>first|(exact absurd h zzf)|skip
  rename_i op vs pos;cases op with
  |Or=>exact absurd h zzf
  |And=>
   match vs,h with
   |[],h=>exact absurd h zzf
   |[_],h=>exact absurd h zzf
   |[pa,pb],h=>
    replace h:=aG h
    try simp only [Bool.and_eq_true] at h
    obtain⟨⟨he,h1⟩,h2⟩:=h
    have sa:=bt a C pa h1
    have sb:=bt b C pb h2
    have gw:dI (.and a b)=true→GW X W F (.and a b) (.BoolOp .And [pa,pb] pos):=fun z=>by
     simp only [dI,Bool.and_eq_true] at z;exact wM (sa.gt z.1) (pw_and1 (sb.gt z.2))
    exact⟨x6 he sa.ge (wA sb.ge),fun z=>(gw z).pt,fun z _ _ _ _=>gw z⟩
   |pa::pb::pc::r,h=>
    replace h:=aG h
    try simp only [Bool.and_eq_true] at h
    obtain⟨⟨he,h1⟩,h2⟩:=h
    have sa:=bt a C pa h1
    have sb:=bt b C _ h2
    have gw:dI (.and a b)=true→GW X W F (.and a b) (.BoolOp .And (pa::pb::pc::r) pos):=fun z=>by
     simp only [dI,Bool.and_eq_true] at z;exact wM (sa.gt z.1) (sb.gw z.2 _ _ _ rfl)
    exact⟨x6 he sa.ge sb.ge,fun z=>(gw z).pt,fun z _ _ _ _=>gw z⟩
 |.or a b,Γ,N,sc,X,C,p,h=>by
  cases p<;>first|(exact absurd h zzf)|skip
  rename_i op vs pos;cases op with
  |And=>exact absurd h zzf
  |Or=>
   match vs,h with
   |[],h=>exact absurd h zzf
   |[_],h=>exact absurd h zzf
   |[pa,pb],h=>
    replace h:=aG h
    try simp only [Bool.and_eq_true] at h
    obtain⟨⟨he,h1⟩,h2⟩:=h
    have sa:=bt a C pa h1
    have sb:=bt b C pb h2
    have gw:dI (.or a b)=true→GW X W F (.or a b) (.BoolOp .Or [pa,pb] pos):=fun z=>by
     simp only [dI,Bool.and_eq_true] at z;exact BL (sa.gt z.1) (pw_or1 (sb.gt z.2))
    exact⟨BO he sa.ge (wA sb.ge),fun z=>(gw z).pt,fun z _ _ _ _=>gw z⟩
   |pa::pb::pc::r,h=>
    replace h:=aG h
    try simp only [Bool.and_eq_true] at h
    obtain⟨⟨he,h1⟩,h2⟩:=h
    have sa:=bt a C pa h1
    have sb:=bt b C _ h2
    have gw:dI (.or a b)=true→GW X W F (.or a b) (.BoolOp .Or (pa::pb::pc::r) pos):=fun z=>by
     simp only [dI,Bool.and_eq_true] at z;exact BL (sa.gt z.1) (sb.gw z.2 _ _ _ rfl)
    exact⟨BO he sa.ge sb.ge,fun z=>(gw z).pt,fun z _ _ _ _=>gw z⟩
 |.ite c a b,Γ,N,sc,X,C,p,h=>by
  cases p<;>first|(exact absurd h zzf)|skip
  replace h:=aG h
  try simp only [Bool.and_eq_true] at h
  obtain⟨⟨⟨⟨⟨h0,h1⟩,h2⟩,h3⟩,h4⟩,h5⟩:=h
  exact⟨CB h1 h2 ((bt c C _ h3).gt h0) (bt a C _ h4).ge (bt b C _ h5).ge,(fun z=>nomatch z),(fun _ _ _ _ z=>nomatch z)⟩
 |.tup as,Γ,N,sc,X,C,p,h=>by
  cases p<;>first|(exact absurd h zzf)|skip
  replace h:=aG h
  try simp only [Bool.and_eq_true,decide_eq_true_eq] at h
  exact bo (C7 h.1.1 h.1.2 (i6 as C _ h.2)) (fun _=>rfl) (fun _ _ _ z=>nomatch z)
 |.lst as,Γ,N,sc,X,C,p,h=>by
  cases p<;>first|(exact absurd h zzf)|skip
  replace h:=aG h
  try simp only [Bool.and_eq_true,decide_eq_true_eq] at h
  exact bo ((wU h.1.1 h.1.2 (i6 as C _ h.2)).ge lst_is) (fun _=>rfl) (fun _ _ _ z=>nomatch z)
 |.sub a b,Γ,N,sc,X,C,p,h=>by
  cases p<;>first|(exact absurd h zzf)|skip
  replace h:=aG h
  try simp only [Bool.and_eq_true] at h
  exact bo (Ds C (bt a C _ h.1).ge (bt b C _ h.2).ge (yo h.2)) (fun _=>rfl) (fun _ _ _ z=>nomatch z)
 |.slice a lo hi,Γ,N,sc,X,C,p,h=>by
  cases p<;>first|(exact absurd h zzf)|skip
  rename_i pa ps pos;cases ps<;>first|(exact absurd h zzf)|skip
  rename_i pl ph pst p2;cases pst with
  |some _=>exact absurd h zzf
  |none=>
   replace h:=aG h
   try simp only [Bool.and_eq_true] at h
   exact bo (xh C (bt a C _ h.1.1).ge (GC lo C pl h.1.2) (GC hi C ph h.2)) (fun _=>rfl) (fun _ _ _ z=>nomatch z)
 |.comp kk aW tg it elt,Γ,N,sc,X,C,p,h=>by
  cases p<;>first|(exact absurd h zzf)|skip
  rename_i dk gens scope pos
  match gens,h with
  |[⟨cq,en,[],asy⟩],h=>
   replace h:=aG h
   simp only [Bool.and_eq_true] at h;obtain⟨⟨⟨⟨⟨⟨h1,h2⟩,h3⟩,h4⟩,h5⟩,h6⟩,fV⟩:=h
   have fV:=of_decide_eq_true fV
   subst fV;refine bo ((r8 C (gE h1) h2 h3 (wD it C cq en h4) (gK h4 _) h5 fun Y CY=>(bt elt CY dk h6).ge).ge fun env q e=>?_) (fun _=>rfl) (fun _ _ _ z=>nomatch z)
   rw [ay] at e;obtain⟨ps,_,e⟩:=Res.bind_ok e
   split at e
   ·obtain⟨ys,_,e⟩:=Res.bind_ok e
    cases e;exact⟨_,rfl⟩
   ·cases e
  |[],h=>exact absurd h zzf
  |⟨_,_,[],_⟩::_::_,h=>exact absurd h zzf
  |⟨_,_,[_],_⟩::_::_,h=>exact absurd h zzf
  |⟨_,_,_::_::_,_⟩::_::_,h=>exact absurd h zzf
  |[⟨_,_,_::_,_⟩],h=>exact absurd h zzf
 |.compIf kk aW tg it c elt,Γ,N,sc,X,C,p,h=>by
  cases p<;>first|(exact absurd h zzf)|skip
  rename_i dk gens scope pos
  match gens,h with
  |[⟨cq,en,[pc],asy⟩],h=>
   replace h:=aG h
   simp only [Bool.and_eq_true] at h;obtain⟨⟨⟨⟨⟨⟨⟨⟨h0,h1⟩,h2⟩,h3⟩,h4⟩,h5⟩,h6⟩,h7⟩,fV⟩:=h
   have fV:=of_decide_eq_true fV
   subst fV;refine bo ((lV C (gE h1) h2 h3 (wD it C cq en h4) (gK h4 _) h5 (fun Y CY=>(bt c CY pc h6).gt h0) fun Y CY=>(bt elt CY dk h7).ge).ge fun env q e=>?_) (fun _=>rfl) (fun _ _ _ z=>nomatch z)
   rw [ay] at e;obtain⟨ps,_,e⟩:=Res.bind_ok e
   split at e
   ·obtain⟨ys,_,e⟩:=Res.bind_ok e
    cases e;exact⟨_,rfl⟩
   ·cases e
  |[],h=>exact absurd h zzf
  |⟨_,_,[],_⟩::_::_,h=>exact absurd h zzf
  |⟨_,_,[_],_⟩::_::_,h=>exact absurd h zzf
  |⟨_,_,_::_::_,_⟩::_::_,h=>exact absurd h zzf
  |[⟨_,_,[],_⟩],h=>exact absurd h zzf
  |[⟨_,_,_::_::_,_⟩],h=>exact absurd h zzf
theorem i6:∀(es:Es) {Γ:Pg} {N:List Str} {sc:Scope} {X:Cx} (C:dE Γ F W N sc k X) (ps:List Expr),iB Γ N sc es ps=true→GA X W F es ps
 |.nil,Γ,N,sc,X,C,ps,h=>by
  cases ps with
  |nil=>exact Dh
  |cons _ _=>exact absurd h zzf
 |.cons e es,Γ,N,sc,X,C,ps,h=>by
  cases ps with
  |nil=>exact absurd h zzf
  |cons p ps=>
   replace h:=aG h
   exact AW (bt e C p h.1).ge (i6 es C ps h.2) (notStar h.1 _ _)
theorem BJ:∀(es:Es) {Γ:Pg} {N:List Str} {sc:Scope} {X:Cx} (C:dE Γ F W N sc k X) (hl:Γ.hl=true) (g:Str) (idx aW:List Nat) (ps:List Expr),fI es=true→rS Γ N sc g idx aW es ps=true→PA X ps (Fq X W F N sc g idx aW es)
 |.nil,Γ,N,sc,X,C,hl,g,idx,aW,ps,he,h=>by
  match ps,h with
  |[],h=>exact absurd h zzf
  |[p],h=>
   cases p<;>first|(exact absurd h zzf)|skip
   replace h:=aG h
   have h1:=aG h.1
   exact zv C hl ⟨h1.1,of_decide_eq_true h1.2,fun y hy=>of_decide_eq_true (List.all_eq_true.mp h.2 y hy)⟩
  |p::_::_,h=>cases p<;>exact absurd h zzf
 |.cons e es,Γ,N,sc,X,C,hl,g,idx,aW,ps,he,h=>by
  cases ps with
  |nil=>exact absurd h zzf
  |cons p ps=>
   replace h:=aG h
   have J6:=aG (show(fH e&&fI es)=true from he)
   exact xn he (bt e C p h.1).ge (BJ es C hl g idx aW ps J6.2 h.2) (notStar h.1 _ _)
theorem GC:∀(o:Oe) {Γ:Pg} {N:List Str} {sc:Scope} {X:Cx} (C:dE Γ F W N sc k X) (p:Option Expr),Dz Γ N sc o p=true→PO X p (xP X W F o)
 |.no,Γ,N,sc,X,C,p,h=>by
  cases p with
  |none=>exact AE
  |some _=>exact absurd h zzf
 |.some e,Γ,N,sc,X,C,p,h=>by
  cases p with
  |none=>exact absurd h zzf
  |some p=>
   exact Av (bt e C p h).ge
theorem wD:∀(it:I) {Γ:Pg} {N:List Str} {sc:Scope} {X:Cx} (C:dE Γ F W N sc k X) (tg p:Expr),vk Γ N sc tg it p=true→GI X W F tg it p
 |.seq e,Γ,N,sc,X,C,tg,p,h=>by
  exact B3 C (bt e C p h).ge
 |.rng e,Γ,N,sc,X,C,tg,p,h=>by
  cases p<;>first|(exact absurd h zzf)|skip
  rename_i fn args kQ pos;cases fn<;>first|(exact absurd h zzf)|skip
  match args,kQ,h with
  |[q],[],h=>
   replace h:=aG h
   try simp only [Bool.and_eq_true] at h
   obtain⟨⟨⟨e1,h1⟩,h2⟩,h3⟩:=h
   cases beq_iff_eq.mp e1;exact DA C h1 h2 (notStar h3) (bt e C q h3).ge
  |[],_,h=>exact absurd h zzf
  |_::_::_,_,h=>exact absurd h zzf
  |[_],_::_,h=>exact absurd h zzf
 |.rng2 a b,Γ,N,sc,X,C,tg,p,h=>by
  cases p<;>first|(exact absurd h zzf)|skip
  rename_i fn args kQ pos;cases fn<;>first|(exact absurd h zzf)|skip
  match args,kQ,h with
  |[q,r],[],h=>
   replace h:=aG h
   try simp only [Bool.and_eq_true] at h
   obtain⟨⟨⟨⟨e1,h1⟩,h2⟩,h3⟩,h4⟩:=h
   cases beq_iff_eq.mp e1;exact Al C h1 h2 (notStar h3) (notStar h4) (bt a C q h3).ge (bt b C r h4).ge
  |[],_,h=>exact absurd h zzf
  |[_],_,h=>exact absurd h zzf
  |_::_::_::_,_,h=>exact absurd h zzf
  |[_,_],_::_,h=>exact absurd h zzf
 |.enum e,Γ,N,sc,X,C,tg,p,h=>by
  cases p<;>first|(exact absurd h zzf)|skip
  rename_i fn args kQ pos;cases fn<;>first|(exact absurd h zzf)|skip
  match args,kQ,h with
  |[q],[],h=>
   replace h:=aG h
   try simp only [Bool.and_eq_true] at h
   obtain⟨⟨⟨⟨h0,e1⟩,h1⟩,h2⟩,h3⟩:=h
   cases beq_iff_eq.mp e1;cases tg<;>first|(exact absurd h0 zzf)|skip
   exact yF C h1 h2 (notStar h3) (bt e C q h3).ge
  |[],_,h=>exact absurd h zzf
  |_::_::_,_,h=>exact absurd h zzf
  |[_],_::_,h=>exact absurd h zzf
end
end
end Ci
namespace L2
open PySem PySem.Spec PyProof.Rows
section
variable{X:Cx}{scope:Scope}{xs ys:List Str}{is:List Nat}
theorem qZ{i₀:Nat}{x₀:Str}{pos' eJ:Pos}{elt tg iter:Expr}{pos:Pos}{wi:TI}{g:TG}{te:TE}(hN₀:X.N.Nodup)(hi₀:X.N[i₀]?=some x₀)(hx₀:Loc X.env.scope x₀)(hc:X.calm=true)(S:dX X scope xs ys is)(hi:PI X tg iter wi)
 (hg:∀fp s1 H1 C,PG (bP X (xs++ys) scope (bz X.env ys) fp s1 H1 C) tg g) (he:∀fp s1 H1 C,PE (bP X (xs++ys) scope (bz X.env ys) fp s1 H1 C) elt te)
 (vU:swapsWith (.ListComp elt [⟨tg,iter,[],0⟩] scope pos) (some (.Name x₀ pos')) eJ.line X.env=pure true:=by rfl)
 (hs:∀x,foldedSetIterable iter X.env x=pure x:=by intro _;rfl) (hf₀:X.fn x₀=true∨X.env.scope.names.lookup x₀=some .local:=by first|exact .inl rfl|exact .inr rfl|assumption):
 PS X (.Assign [.Name x₀ pos'] (.ListComp elt [⟨tg,iter,[],0⟩] scope pos) eJ) (Ad (xx wi xs.length g te is) (fM i₀)):=by
 intro pins s σ H D₀ I h;rw [exec_Assign_Name_used _ _ _ _ vU];refine wpAny_bind (wpAny_standAt (wpAny_bind ?_));show wpAny _ X.A (do let _←comprehension (.ListComp elt [⟨tg,iter,[],0⟩] scope pos) scope X.env _ (newList []) false (eval iter X.env) (some (assign (.Name x₀ pos') X.env))) _ _ s;refine wpAny_bind (wpAny_mono (fC (QQ:=fun _ s'=>∃σ2 H2,Inv X pins σ2 H2 s'∧D₀.nx σ2 H2) (Q:=fun v H4=>fM i₀ v σ H4 D₀.nx) hc S hi hg (fun _ _ _ _=>rN) he hs I h fun D C s4 H4 m I5 hn ⟨g0,g1,_,g3,g4,g5⟩ q=>?_) (fun _ s' hq=>wpAny_pure (wpAny_pure hq)) fun _ _ e=>e)
 refine wpAny_assign_Name (iz I5 hN₀ hi₀ hx₀ (show RelV (.ref D) (.ref D) from rfl) (fun s6 I6 ⟨a6,sb6,ha6⟩=>?_) hf₀);have Ej:C≠a6:=by
  rcases ha6 with z|z
  ·rw [z];exact g1
  ·exact fun z2=>g4 _ _ z z2.symm
 exact⟨m,hn.sameBut sb6 Ej,fun h' uT=>⟨_,_,I6.turned (t':=s6.toks) (it:=C) (fun b o hb e=>uT.extBut b o hb e) g0 g1 g3 g4 g5,q⟩⟩
end
end L2
namespace Ci
open PySem L2
section
variable{W:Wd}{G0 H0 G H:Hp}{env:Sl}{σ:St}
theorem Own.thing{p:PV}{v:V}(h:Own W H0 G H p v):∃a o,v=.ref a∧H a=some o∧G a=none∧H0 a=none∧((∀G',aF G G'→G' a=some o→Rep W G' p (.ref a))∨∃aD,o=.dT aD∧∀ob G',aF G G'→G' a=some (.frz ob (.dT aD))→Rep W G' p (.ref a)):=by
 cases p with
 |lst xs=>
  obtain⟨a,vs,rfl,h1,h2,h3,l⟩:=h
  exact⟨a,_,rfl,h1,h2,h3,.inl fun G' s e=>.l (.inl (.inl e)) (aq.same s xs l)⟩
 |dct ks ps=>
  obtain⟨a,us,rfl,n,h1,h2,h3,l⟩:=h
  exact⟨a,_,rfl,h1,h2,h3,.inr ⟨_,rfl,fun ob G' s e=>by simp only [Rep];exact⟨a,ob,us,rfl,n,e,aq.same s ps l⟩⟩⟩
 |non=>exact h.elim
 |bl _=>exact h.elim
 |int _=>exact h.elim
 |str _=>exact h.elim
 |tup _=>exact h.elim
 |exc _=>exact h.elim
theorem Own.notbl{p:PV}{a:Addr}(h:Own W H0 G H p (.ref a))(ps:Array Value):H a≠some (.tbl ps):=fun z=>by
 cases p with
 |lst xs=>obtain⟨b,vs,e,h1,_⟩:=h;cases e;rw [z] at h1;cases h1
 |dct ks qs=>
  obtain⟨b,us,e,_,h1,_⟩:=h
  cases e;rw [z] at h1;cases h1
 |non=>exact h.elim
 |bl _=>exact h.elim
 |int _=>exact h.elim
 |str _=>exact h.elim
 |tup _=>exact h.elim
 |exc _=>exact h.elim
theorem m9{a:Addr}{ob:HO}{H':Hp}(t:cy W G H)(hG:G a=none)(n:∀ps,H a≠some (.tbl ps))(hH:∀b,b≠a→H' b=H b):cy W (upd G a ob) H':=fun P q m=>by
 obtain⟨n1,ps,e,tr,al⟩:=t P q m
 have hP:P≠a:=fun z=>by subst z;exact n ps e
 refine⟨by rw [ah hP];exact n1,ps,by rw [hH P hP];exact e,tr,fun pos cv y=>?_⟩
 obtain⟨c',oc,cR,t',e1,e2,e3,e4⟩:=al pos cv y
 exact⟨c',oc,cR,t',e1,bA hG _ _ e2,e3,e4⟩
theorem Own.stay{p:PV}{v:V}{a:Addr}{G' H':Hp}(h:Own W H0 G H p v)(hv:v≠.ref a)(sG:aF G G')(hG:∀b,b≠a→G' b=G b)(hH:∀b,b≠a→H' b=H b):Own W H0 G' H' p v:=by
 cases p with
 |lst xs=>
  obtain⟨b,vs,rfl,h1,h2,h3,l⟩:=h
  have hb:b≠a:=fun z=>hv (by rw [z])
  exact⟨b,vs,rfl,by rw [hH b hb];exact h1,by rw [hG b hb];exact h2,h3,aq.same sG xs l⟩
 |dct ks ps=>
  obtain⟨b,us,rfl,n,h1,h2,h3,l⟩:=h
  have hb:b≠a:=fun z=>hv (by rw [z])
  exact⟨b,us,rfl,n,by rw [hH b hb];exact h1,by rw [hG b hb];exact h2,h3,aq.same sG ps l⟩
 |non=>exact h.elim
 |bl _=>exact h.elim
 |int _=>exact h.elim
 |str _=>exact h.elim
 |tup _=>exact h.elim
 |exc _=>exact h.elim
theorem getElem?_modify{α:Type}(l:List α)(i j:Nat)(f:α→α):(l.modify i f)[j]?=if i=j then(l[j]?).map f else l[j]?:=by
 rw [List.getElem?_modify];split<;>simp_all
theorem oQ(r:SR W H0 env σ G H)(g:aJ W G0 H0 G H){i:Nat}{p:PV}{a:Addr}{ob E7:HO}{H':Hp}(hp:env[i]?=some (.own p))(ho:σ[i]?=some (some (.ref a)))(Hb:Own W H0 G H p (.ref a))(hH:H a=some ob)(hG:G a=none)(yB:H0 a=none)
 (xW:∀G',aF G G'→G' a=some E7→Rep W G' p (.ref a)) (h1:H' a=some E7) (h2:∀b,b≠a→H' b=H b):SR W H0 (env.modify i nF) σ (upd G a E7) H'∧aJ W G0 H0 (upd G a E7) H':=by
 have sG:aF G (upd G a E7):=bA hG
 have sub:aF (upd G a E7) H':=fun b u e=>by
  by_cases hb:b=a
  ·subst hb;rw [au] at e;cases e;exact h1
  ·rw [ah hb] at e;rw [h2 b hb];exact r.sub _ _ e
 have base:∀{B:Hp},B a=none→gH B H→gH B H':=fun hB k b u e=>by
  have hb:b≠a:=fun z=>by rw [z,hB] at e;cases e
  rw [h2 b hb];exact k b u e
 refine⟨⟨by rw [List.length_modify];exact r.len,sub,base yB r.base,fun j s e=>?_,fun j l q q' c e1 e2 e3 e4=>?_,m9 r.tab hG Hb.notbl h2,m9 r.tab0 hG (fun ps z=>by rw [yB] at z;cases z) fun _ _=>rfl⟩,⟨g.g.trans sG,base yB g.h,sub,fun b h3 h5 h4=>?_,fun t=>m9 (g.tab t) hG Hb.notbl h2⟩⟩
 ·rw [getElem?_modify] at e;split at e
  ·rename_i z;subst z;rw [hp] at e;cases e;exact⟨_,ho,_,rfl,xW _ sG au⟩
  ·rename_i z;obtain⟨o2,k1,k2⟩:=r.slot j s e
   refine⟨o2,k1,?_⟩;cases s with
   |no=>exact trivial
   |val q=>
    obtain⟨v2,rfl,rv⟩:=k2
    exact⟨v2,rfl,Rep.same sG q rv⟩
   |fn _ _ _=>
    obtain⟨v2,rfl,rv⟩:=k2
    exact⟨v2,rfl,rv.same sG⟩
   |own q=>
    obtain⟨v2,rfl,ov⟩:=k2
    refine⟨v2,rfl,ov.stay (a:=a) (fun zz=>?_) sG (fun b hb=>ah hb) h2⟩;subst zz;exact z (r.apart i j p q a hp e ho k1)
 ·rw [getElem?_modify] at e1 e2;have ne:∀{j:Nat} {q:PV},(if i=j then(env[j]?).map nF else env[j]?)=some (.own q)→i≠j∧env[j]?=some (.own q):=fun{j q} e=>by
   split at e
   ·rename_i z;subst z;rw [hp] at e;cases e
   ·rename_i z;exact⟨z,e⟩
  exact r.apart j l q q' c (ne e1).2 (ne e2).2 e3 e4
 ·have hb:b≠a:=fun z=>h3 (by rw [z];exact yB)
  rw [ah hb];exact g.own b h3 h5 h4
theorem CV(r:SR W H0 env σ G H)(g:aJ W G0 H0 G H)(i:Nat):(∃G',SR W H0 (env.modify i nF) σ G' H∧aJ W G0 H0 G' H)∨∃a aD,H a=some (.dT aD)∧∀o,∃G',SR W H0 (env.modify i nF) σ G' (upd H a (.frz o (.dT aD)))∧aJ W G0 H0 G' (upd H a (.frz o (.dT aD))):=by
 have same:(∀p,env[i]?≠some (.own p))→env.modify i nF=env:=fun h=>by
  refine List.ext_getElem? fun j=>?_
  rw [getElem?_modify];split
  ·rename_i e;subst e;cases q:env[i]? with
   |none=>rfl
   |some s=>
    cases s with
    |own p=>exact absurd q (h p)
    |no=>rfl
    |val p=>rfl
    |fn _ _ _=>rfl
  ·rfl
 by_cases hx:∃p,env[i]?=some (.own p)
 ·obtain⟨p,hp⟩:=hx
  obtain⟨o,ho,v,rfl,ow⟩:=r.slot i _ hp
  have Hb:=ow
  obtain⟨a,ob,rfl,hH,hG,yB,xW|⟨aD,rfl,xW⟩⟩:=ow.thing
  ·obtain⟨k1,k2⟩:=oQ r g hp ho Hb hH hG yB xW hH fun _ _=>rfl
   exact .inl ⟨_,k1,k2⟩
  ·refine .inr ⟨a,aD,hH,fun o=>?_⟩
   obtain⟨k1,k2⟩:=oQ r g hp ho Hb hH hG yB (xW o) au fun b hb=>ah hb
   exact⟨_,k1,k2⟩
 ·exact .inl ⟨G,by rw [same fun p z=>hx ⟨p,z⟩];exact r,g⟩
theorem gY(r:SR W H0 env σ G H)(g:aJ W G0 H0 G H){i:Nat}{p p':PV}{a:Addr}{ob:HO}(hp:env[i]?=some (.own p))(hs:σ[i]?=some (some (.ref a)))(hG:G a=none)(yB:H0 a=none)(hn:Own W H0 G (upd H a ob) p' (.ref a)):
 SR W H0 (env.set i (.own p')) σ G (upd H a ob)∧aJ W G0 H0 G (upd H a ob):=by
 have cm:i<env.length:=(List.getElem?_eq_some_iff.mp hp).1
 have NF:∀ps,H a≠some (.tbl ps):=by
  obtain⟨o2,h1,v2,rfl,ow⟩:=r.slot i _ hp
  rw [hs] at h1;cases h1;exact ow.notbl
 have tab:∀{G1:Hp},cy W G1 H→cy W G1 (upd H a ob):=fun t=>t.same (aF.refl _) (fun _ _ _ h=>h) (nV NF)
 refine⟨⟨by rw [List.length_set];exact r.len,fun b u e=>?_,fun b u e=>?_,fun j s e=>?_,fun j l q q' c e1 e2 e3 e4=>?_,tab r.tab,r.tab0⟩,⟨g.g,fun b u e=>?_,fun b u e=>?_,g.own,fun t=>tab (g.tab t)⟩⟩
 ·rw [ah (fun z=>by subst z;rw [hG] at e;cases e)];exact r.sub _ _ e
 ·rw [ah (fun z=>by subst z;rw [yB] at e;cases e)];exact r.base _ _ e
 ·by_cases hj:i=j
  ·subst hj;rw [List.getElem?_set_self cm] at e;cases e;exact⟨_,hs,_,rfl,hn⟩
  ·rw [List.getElem?_set_ne hj] at e;obtain⟨o2,h1,h2⟩:=r.slot j s e
   refine⟨o2,h1,?_⟩;cases s with
   |no=>exact trivial
   |val q=>exact h2
   |fn _ _ _=>exact h2
   |own q=>
    obtain⟨v2,rfl,ov⟩:=h2
    refine⟨v2,rfl,ov.stay (a:=a) (fun zz=>?_) (aF.refl _) (fun b hb=>rfl) fun b hb=>ah hb⟩
    subst zz;exact hj (r.apart i j p q a hp e hs h1)
 ·have tr:∀{j:Nat} {q:PV},(env.set i (.own p'))[j]?=some (.own q)→∃q2,env[j]?=some (.own q2):=fun{j q} e=>by
   by_cases hj:i=j
   ·subst hj;exact⟨p,hp⟩
   ·rw [List.getElem?_set_ne hj] at e;exact⟨q,e⟩
  obtain⟨q2,f1⟩:=tr e1
  obtain⟨q3,f2⟩:=tr e2
  exact r.apart j l q2 q3 c f1 f2 e3 e4
 ·rw [ah (fun z=>by subst z;rw [yB] at e;cases e)];exact g.h _ _ e
 ·rw [ah (fun z=>by subst z;rw [hG] at e;cases e)];exact g.sub _ _ e
theorem qO(r:SR W H0 env σ G H)(g:aJ W G0 H0 G H){i:Nat}{p:PV}{a:Addr}{ob:HO}(hi:i<env.length)(ha:H a=none)(hn:Own W H0 G (upd H a ob) p (.ref a)):
 SR W H0 (env.set i (.own p)) (σ.set i (some (.ref a))) G (upd H a ob)∧aJ W G0 H0 G (upd H a ob):=by
 have gm:aJ W G H G (upd H a ob):=.mine r.sub ha
 have r1:=r.grow gm
 have old:∀{j:Nat} {q:PV},env[j]?=some (.own q)→σ[j]?=some (some (.ref a))→False:=fun{j q} e1 e2=>by
  obtain⟨o2,h1,v2,rfl,ov⟩:=r.slot j _ e1
  rw [e2] at h1;cases h1;obtain⟨a',o',e3,hH,_⟩:=ov.thing
  cases e3;rw [ha] at hH;cases hH
 refine⟨⟨by rw [List.length_set,List.length_set];exact r.len,r1.sub,r1.base,fun j s e=>?_,fun j l q q' c e1 e2 e3 e4=>?_,r1.tab,r1.tab0⟩,g.trans gm⟩
 ·by_cases hj:i=j
  ·subst hj;rw [List.getElem?_set_self hi] at e;cases e;exact⟨_,List.getElem?_set_self (by rw [←r.len];exact hi),_,rfl,hn⟩
  ·rw [List.getElem?_set_ne hj] at e;obtain⟨o2,h1,h2⟩:=r1.slot j s e
   exact⟨o2,by rw [List.getElem?_set_ne hj];exact h1,h2⟩
 ·by_cases hj:i=j
  ·by_cases hl:i=l
   ·exact hj.symm.trans hl
   ·exfalso
    subst hj;rw [List.getElem?_set_self (by rw [←r.len];exact hi)] at e3;rw [List.getElem?_set_ne hl] at e2 e4;cases e3;exact old e2 e4
  ·by_cases hl:i=l
   ·exfalso
    subst hl;rw [List.getElem?_set_self (by rw [←r.len];exact hi)] at e4;rw [List.getElem?_set_ne hj] at e1 e3;cases e4;exact old e1 e3
   ·rw [List.getElem?_set_ne hj] at e1 e3;rw [List.getElem?_set_ne hl] at e2 e4;exact r.apart j l q q' c e1 e2 e3 e4
end
end Ci
namespace Ci
open PySem L2
def gA:E→Bool
 |.lst _=>true
 |.comp _ _ _ _ _=>true
 |.compIf _ _ _ _ _ _=>true
 |_=>false
def mQ:Expr→Bool
 |.ListComp .. =>false
 |.SetComp .. =>false
 |.DictComp .. =>false
 |_=>true
noncomputable def IL(sc:Scope)(x:Str)(xp:Pos):Expr→Bool
 |.ListComp _ _ s p=>sc.names.lookup x==some .local&&xp.line==p.line&&!(s.names.any fun(n,k)=>n==x&&(k==.local||k==.cell))
 |_=>false
def BC:List Expr→Option Str
 |[.Name x _]=>some x
 |_=>none
def vB:List Expr→Option Expr
 |[t]=>some t
 |_=>none
def E0:Expr→Option (Str×Str×List Expr)
 |.Call (.Attribute (.Name x _) m apos) args [] bw=>if apos.endLine==bw.line then some (x,m,args) else none
 |_=>none
def Az:Expr→Option Str
 |.Name x _=>some x
 |_=>none
theorem oA{α:Type}{a:α}{p:Prop}(h:(none:Option α)=some a):p:=nomatch h
theorem mS{e:Expr}{x:Str}(h:Az e=some x):∃p,e=.Name x p:=by
 cases e with
 |Name y p=>cases h;exact⟨_,rfl⟩
 |_=>exact oA h
noncomputable def Ln:Expr→Option (Str×Arguments×Expr×Scope)
 |.Call (.Name f _) [.Name x _] [⟨some kw,.Lambda params body scope _,_⟩] _=>if f=="min"&&kw=="key" then some (x,params,body,scope) else none
 |_=>none
theorem Ef{e:Expr}{c:Str×Arguments×Expr×Scope}(h:Ln e=some c):∃q1 q2 q3 q4 q5,e=.Call (.Name "min" q1) [.Name c.1 q2] [⟨some "key",.Lambda c.2.1 c.2.2.1 c.2.2.2 q3,q4⟩] q5:=by
 cases e with
 |Call f args kQ p=>
  cases f with
  |Name f fp=>
   cases args with
   |nil=>exact oA h
   |cons a as=>
    cases a with
    |Name x xp=>
     cases as with
     |cons _ _=>exact oA h
     |nil=>
      cases kQ with
      |nil=>exact oA h
      |cons k ks=>
       obtain⟨kn,kv,kp⟩:=k
       cases kn with
       |none=>exact oA h
       |some kw=>
        cases kv with
        |Lambda params body scope lp=>
         cases ks with
         |cons _ _=>exact oA h
         |nil=>
          have h:(if(f=="min"&&kw=="key")=true then some (x,params,body,scope) else none)=some c:=h
          split at h
          ·rename_i hc;rw [Bool.and_eq_true,beq_iff_eq,beq_iff_eq] at hc;obtain⟨rfl,rfl⟩:=hc
           cases h;exact⟨_,_,_,_,_,rfl⟩
          ·cases h
        |_=>exact oA h
    |_=>exact oA h
  |_=>exact oA h
 |_=>exact oA h
def sM(x p:Str):Expr→Bool
 |.Subscript (.Subscript (.Name y _) (.Name q _) _) (.Constant (.int 0) _ _) _=>y==x&&q==p
 |_=>false
noncomputable def sA(x:Str)(params:Arguments)(body:Expr)(scope:Scope):Bool:=match ou params with
 |some [p]=>sM x p body&&decide (bh scope=[x])&&HZ [p] scope&&okN p&&okN x
 |_=>false
theorem wm{x:Str}{params:Arguments}{body:Expr}{scope:Scope}(h:sA x params body scope=true):∃p,ou params=some [p]∧qP p x params body scope∧bh scope=[x]∧okN x=true:=by
 unfold sA at h;split at h
 ·rename_i p e;simp only [Bool.and_eq_true,decide_eq_true_eq] at h;obtain⟨⟨⟨⟨h1,h2⟩,h3⟩,h4⟩,h5⟩:=h
  refine⟨p,e,⟨?_,by rw [←h2];exact yd h3,(cV h4).1,(cV h4).2.1,(cV h5).1,(cV h5).2.1⟩,h2,h5⟩;unfold sM at h1;split at h1
  ·rw [Bool.and_eq_true,beq_iff_eq,beq_iff_eq] at h1;obtain⟨rfl,rfl⟩:=h1
   exact⟨_,_,_,_,_,_,rfl⟩
  ·cases h1
 ·cases h
def HX:List Expr→Option (Str×Expr)
 |[.Subscript (.Name x _) pk _]=>some (x,pk)
 |_=>none
def Lz:Option Expr→Option (Str×Str)
 |some (.Call (.Name x _) [.Constant (.str z) _ _] [] _)=>some (x,z)
 |_=>none
theorem ie{ts:List Expr}{x:Str}(h:BC ts=some x):∃xp,ts=[.Name x xp]:=by
 unfold BC at h;split at h
 ·cases h;exact⟨_,rfl⟩
 ·cases h
theorem nK{ts:List Expr}{t:Expr}(h:vB ts=some t):ts=[t]:=by
 unfold vB at h;split at h
 ·cases h;rfl
 ·cases h
theorem n6{p:Expr}{x m:Str}{args:List Expr}(h:E0 p=some (x,m,args)):∃np apos bw,p=.Call (.Attribute (.Name x np) m apos) args [] bw∧(apos.endLine==bw.line)=true:=by
 unfold E0 at h;split at h
 ·split at h
  ·rename_i hl;cases h;exact⟨_,_,_,rfl,hl⟩
  ·cases h
 ·cases h
theorem xU{ts:List Expr}{x:Str}{pk:Expr}(h:HX ts=some (x,pk)):∃np sp,ts=[.Subscript (.Name x np) pk sp]:=by
 unfold HX at h;split at h
 ·cases h;exact⟨_,_,rfl⟩
 ·cases h
theorem D5{o:Option Expr}{x z:Str}(h:Lz o=some (x,z)):∃np j zp cp,o=some (.Call (.Name x np) [.Constant (.str z) j zp] [] cp):=by
 cases o with
 |none=>exact oA h
 |some e=>
  cases e with
  |Call f args kQ p=>
   cases f with
   |Name f fp=>
    cases args with
    |nil=>exact oA h
    |cons a as=>
     cases a with
     |Constant k j kp=>
      cases k with
      |str s=>
       cases as with
       |cons _ _=>exact oA h
       |nil=>
        cases kQ with
        |cons _ _=>exact oA h
        |nil=>cases h;exact⟨_,_,_,_,rfl⟩
      |_=>exact oA h
     |_=>exact oA h
   |_=>exact oA h
  |_=>exact oA h
mutual
noncomputable def dS(Γ:Pg)(N:List Str)(sc:Scope):S→Stmt→Bool
 |.expr e,.Expr p _=>mQ p&&bf Γ N sc e p
 |.set i e,.Assign ts p _=>(BC ts).any fun x=>N[i]?==some x&&di sc x&&fH e&&bf Γ N sc e p
 |.own i e,.Assign ts p _=>(BC ts).any fun x=>N[i]?==some x&&di sc x&&gA e&&bf Γ N sc e p
 |.app i e,.Expr v _=>(E0 v).any fun c=>N[i]?==some c.1&&dm sc c.1&&okN c.1&&c.2.1==("append":Str)&&fH e&&(vB c.2.2).any fun p=>bf Γ N sc e p
 |.extd i e,.Expr v _=>(E0 v).any fun c=>N[i]?==some c.1&&dm sc c.1&&okN c.1&&c.2.1==("extend":Str)&&(vB c.2.2).any fun p=>bf Γ N sc e p
 |.put i kk e,.Assign ts p _=>(HX ts).any fun c=>N[i]?==some c.1&&dm sc c.1&&okN c.1&&fH e&&bf Γ N sc kk c.2&&bf Γ N sc e p
 |.pop j i,.Assign ts v _=>(BC ts).any fun y=>(E0 v).any fun c=>N[i]?==some c.1&&dm sc c.1&&okN c.1&&c.2.1==("pop":Str)&&c.2.2.isEmpty&&N[j]?==some y&&di sc y
 |.ret e,.Return (some p) _=>fH e&&bf Γ N sc e p
 |.ite c a b,.If p pa pb _=>dI c&&bf Γ N sc c p&&cW Γ N sc a pa&&cW Γ N sc b pb
 |.for_ tg it b,.For cq en pb els _=>els.isEmpty&&eZ N sc (fun _=>true) tg cq&&Ar it&&vk Γ N sc cq it en&&cW Γ N sc b pb
 |.whl c b,.While p pb els _=>els.isEmpty&&dI c&&bf Γ N sc c p&&cW Γ N sc b pb
 |.raise c m,.Raise ex fr _=>fr.isNone&&(Lz ex).any fun q=>c==q.1&&m==q.2&&Γ.rs.contains c&&ic sc c&&okN c
 |.dnew i,.Assign ts (.Dict [] [] _) _=>(BC ts).any fun x=>N[i]?==some x&&di sc x
 |.dnew1 i n b,.Assign ts (.Dict [some k] [.Constant (.bool c) _ _] _) _=>(BC ts).any fun x=>(Az k).any fun z=>N[i]?==some x&&di sc x&&N[n]?==some z&&dm sc z&&okN z&&b==c
 |.putPop i j n,.Assign ts v _=>(HX ts).any fun c=>(Az c.2).any fun z=>N[i]?==some c.1&&dm sc c.1&&okN c.1&&N[n]?==some z&&dm sc z&&okN z&&(E0 v).any fun d=>d.2.1==("pop":Str)&&(vB d.2.2).any fun e=>(Az e).any fun z2=>z==z2&&N[j]?==some d.1&&dm sc d.1&&okN d.1
 |.minK m i,.Assign ts v _=>(BC ts).any fun y=>(Ln v).any fun c=>N[m]?==some y&&di sc y&&N[i]?==some c.1&&sc.names.lookup c.1==some .cell&&ic sc "min"&&Γ.bs.contains "min"&&Γ.hl&&sA c.1 c.2.1 c.2.2.1 c.2.2.2
 |_,_=>false
noncomputable def cW(Γ:Pg)(N:List Str)(sc:Scope):Ss→List Stmt→Bool
 |.nil,[]=>true
 |.cons (.frz _) ss,ps=>cW Γ N sc ss ps
 |.cons s ss,p::ps=>dS Γ N sc s p&&cW Γ N sc ss ps
 |_,_=>false
end
section
variable{Γ:Pg}{X:Cx}{W:Wd}{F:aS}{N:List Str}{sc:Scope}{k:Nat}{H0:Hp}{E:XK}
theorem SR.go{env:Sl}{σ:St}{G H:Hp}(r:SR W H0 env σ G H):aJ W G H0 G H:=⟨aF.refl _,r.base,r.sub,fun _ _ _ h=>h,fun _=>r.tab⟩
theorem aJ.then{G G1 H1 G2 H2:Hp}(a:aJ W G H0 G1 H1)(b:aJ W G1 H0 G2 H2):aJ W G H0 G2 H2:=⟨a.g.trans b.g,b.h,b.sub,fun x h1 h3 h2=>b.own x h1 h3 (a.own x h1 h3 h2),fun t=>b.tab (t.same a.g a.own fun _ _ h=>h)⟩
theorem SR.on{env:Sl}{σ:St}{G H G1 H1:Hp}(r:SR W H0 env σ G H)(g:aJ W G H G1 H1):aJ W G H0 G1 H1:=⟨g.g,r.base.trans g.h,g.sub,fun x h1 h3 h2=>g.own x (fun z=>h1 (r.base.free z)) (r.base.notup h1 h3) h2,fun _=>g.tab r.tab⟩
def Dn(W:Wd)(H0 G:Hp)(D:Ends):Fl→Prop
 |.nx env=>∀σ G' H',SR W H0 env σ G' H'→aJ W G H0 G' H'→D.nx σ H'
 |.bk env=>∀σ G' H',SR W H0 env σ G' H'→aJ W G H0 G' H'→D.bk σ H'
 |.ct env=>∀σ G' H',SR W H0 env σ G' H'→aJ W G H0 G' H'→D.ct σ H'
 |.rt p=>∀v G' H',Rep W G' p v→aJ W G H0 G' H'→D.rt v H'
def bY(W:Wd)(H0 G:Hp)(E:XK)(r:Res Fl)(D:Ends):Prop:=match r with
 |.ok f=>Dn W H0 G D f
 |.exc c=>∀Cv ao H',XE W c G H0 Cv ao H'→E Cv ao H'
 |.bad=>False
theorem Dn.on{G G1 H1:Hp}{D:Ends}{f:Fl}(h:Dn W H0 G D f)(g:aJ W G H0 G1 H1):Dn W H0 G1 D f:=by
 cases f with
 |nx env=>exact fun σ G' H' r g'=>h σ G' H' r (g.then g')
 |bk env=>exact fun σ G' H' r g'=>h σ G' H' r (g.then g')
 |ct env=>exact fun σ G' H' r g'=>h σ G' H' r (g.then g')
 |rt p=>exact fun v G' H' r g'=>h v G' H' r (g.then g')
theorem bY.on{G G1 H1:Hp}{D:Ends}{r:Res Fl}(h:bY W H0 G E r D)(g:aJ W G H0 G1 H1):bY W H0 G1 E r D:=by
 cases r with
 |ok f=>exact Dn.on h g
 |exc c=>
  intro Cv ao H' x;obtain⟨C,a,G',e1,e2,e3,e4,g2⟩:=x
  exact h Cv ao H' ⟨C,a,G',e1,e2,e3,e4,g.then g2⟩
 |bad=>exact h
noncomputable def tS(W:Wd)(F:aS)(H0:Hp)(E:XK)(s:S):TS:=fun D σ H=>∃G env,SR W H0 env σ G H∧bY W H0 G E (aK F s env) D
noncomputable def LC(W:Wd)(F:aS)(H0:Hp)(E:XK)(ss:Ss):TS:=fun D σ H=>∃G env,SR W H0 env σ G H∧bY W H0 G E (ai F ss env) D
abbrev GS(X:Cx)(W:Wd)(F:aS)(H0:Hp)(E:XK)(s:S)(p:Stmt):Prop:=PS X p (tS W F H0 E s)
abbrev yA(X:Cx)(W:Wd)(F:aS)(H0:Hp)(E:XK)(s:Ss)(p:List Stmt):Prop:=PSs X p (LC W F H0 E s)
theorem _root_.L2.PS.imp{p:Stmt}{t t':TS}(h:PS X p t)(i:∀D σ H,t' D σ H→t D σ H):PS X p t':=fun pins s σ H D I hw=>h pins s σ H D I (i D σ H hw)
theorem _root_.L2.PSs.imp{p:List Stmt}{t t':TS}(h:PSs X p t)(i:∀D σ H,t' D σ H→t D σ H):PSs X p t':=fun pins s σ H D I hw=>h pins s σ H D I (i D σ H hw)
structure dF(Γ:Pg)(F:aS)(W:Wd)(N:List Str)(sc:Scope)(k:Nat)(E:XK)(X:Cx):Prop where
 C:dE Γ F W N sc k X
 fn:∀x,X.fn x=true
 own:PassesOwn (model X.prog X.w) X.A X.env X.xe
 pass:Passes (dA X.prog X.w) X E
 kind:sc.kind=.function
 stk:X.stack=X.env::X.outer
 frame:X.env.frame=some X.env.locals
 xs:∀c,Γ.rs.contains c=true→c∈W.xs
 rm:∀c,Γ.rs.contains c=true→∃C,X.mg c=some (.ref C)
 rz:∀(c z:Str) (j:Nat) (np zp cp pos:Pos),Γ.rs.contains c=true→ic sc c=true→okN c=true→PS X (.Raise (some (.Call (.Name c np) [.Constant (.str z) j zp] [] cp)) none pos) (fun _ _ H=>∀C e,X.mg c=some (.ref C)→H e=none→E (.ref C) (some e) H)
 exm:Γ.cs.contains "FloorError"=true→∀c D,c∈W.xs→X.mg c=some (.ref D)→∀T,X.mg "FloorError"=some (.ref T)→PySem.W.exmOne X.K (.ref D) (.ref T)=some true
theorem yW(S:dF Γ F W N sc k E X){c:Str}{σ:St}{Gs G H:Hp}(g:aJ W Gs H0 G H)(h:∀Cv ao H',XE W c Gs H0 Cv ao H'→E Cv ao H'):rF X W σ c G H:=fun pins G1 H1 s1 e s' I g1 x=>
 S.pass pins σ H1 s1 e s' I (A1.imp x fun Cv a H' y=>h Cv a H' (by
  obtain⟨C,a',G',e1,e2,e3,e4,g2⟩:=y
  have g3:=g1.trans g2
  exact⟨C,a',G',e1,e2,e3,e4,g.g.trans g3.g,g.h.trans g3.h,g3.sub,fun x h1 h3 h2=>g3.own x (fun z=>h1 (g.h.free z)) (g.h.notup h1 h3) (g.own x h1 h3 h2),fun t=>g3.tab (g.tab t)⟩))
theorem bY.bind{α:Type}(S:dF Γ F W N sc k E X){r:Res α}{f:α→Res Fl}{D:Ends}{env:Sl}{σ:St}{G H:Hp}(sr:SR W H0 env σ G H)(h:bY W H0 G E (r.bind f) D):Out X W r σ G H fun a=>bY W H0 G E (f a) D:=by
 cases r with
 |ok a=>exact h
 |exc c=>exact yW S sr.go h
 |bad=>exact h
theorem p8(S:dF Γ F W N sc k E X){env:Sl}{σ:St}{G H:Hp}{e:Ci.E}{f:PV→Res Fl}{D:Ends}{Q:VK}(sr:SR W H0 env σ G H)(o:bY W H0 G E ((ay F e env).bind f) D)
 (h:∀p v G1 H1,aJ W G H G1 H1→Got W H0 G1 H1 e p v→SR W H0 env σ G1 H1→bY W H0 G1 E (f p) D→Q v H1):tE X W F e σ H Q:=
 ⟨H0,G,env,sr,(o.bind S sr).imp fun p hp v G1 H1 g1 t=>h p v G1 H1 g1 t (sr.grow g1) (hp.on (sr.on g1))⟩
theorem B1(S:dF Γ F W N sc k E X){env:Sl}{σ:St}{G H:Hp}{e:Ci.E}{f:Bool→Res Fl}{D:Ends}{Q:Bool→Hp→Prop}(sr:SR W H0 env σ G H)(o:bY W H0 G E ((ay F e env).bind fun p=>qp p f) D)
 (h:∀b G1 H1,aJ W G H G1 H1→SR W H0 env σ G1 H1→bY W H0 G1 E (f b) D→Q b H1):tT X W F e σ H Q:=by
 refine⟨H0,G,env,sr,(o.bind S sr).imp fun p hp=>?_⟩
 cases p with
 |bl b=>exact⟨b,rfl,fun G1 H1 g1=>h b G1 H1 g1 (sr.grow g1) (bY.on hp (sr.on g1))⟩
 |non=>exact False.elim hp
 |int _=>exact False.elim hp
 |str _=>exact False.elim hp
 |tup _=>exact False.elim hp
 |lst _=>exact False.elim hp
 |exc _=>exact False.elim hp
 |dct _ _=>exact False.elim hp
theorem F5(S:dF Γ F W N sc k E X){env:Sl}{σ:St}{G H:Hp}{e:Ci.E}{f:PV→Res Fl}{D:Ends}{Q:VK}(hl:∀env q,ay F e env=.ok q→∃xs,q=.lst xs)(sr:SR W H0 env σ G H)(o:bY W H0 G E ((ay F e env).bind f) D)
 (h:∀xs a vs G1 H1,aJ W G H G1 H1→H1 a=none→aq W G1 xs vs→SR W H0 env σ G1 H1→bY W H0 G1 E (f (.lst xs)) D→Q (.ref a) (upd H1 a (.lst vs))):tF X W F e σ H Q:=by
 refine⟨H0,G,env,sr,?_⟩;have o2:=o.bind S sr
 cases r:ay F e env with
 |bad=>rw [r] at o2;exact o2
 |exc c=>rw [r] at o2;exact o2
 |ok q=>
  rw [r] at o2;obtain⟨xs,rfl⟩:=hl env q r
  exact⟨xs,rfl,fun a vs G' H' g ha l=>h xs a vs G' H' g ha l (sr.grow g) (bY.on o2 (sr.on g))⟩
end
end Ci
namespace Ci
open PySem L2
section
variable{Γ:Pg}{X:Cx}{W:Wd}{F:aS}{N:List Str}{sc:Scope}{k:Nat}{H0:Hp}{E:XK}
theorem nU{p:Expr}{t:Option Expr}{l:Nat}{env:Env}(h:mQ p=true):swapsWith p t l env=pure false:=by
 cases p<;>first|rfl|(exact absurd h zzf)
theorem iT{elt:Expr}{gens:List Comprehension}{s:Scope}{p:Pos}{x:Str}{xp:Pos}{l:Nat}(hsc:X.env.scope=sc)(hk:sc.kind=.function):swapsWith (.ListComp elt gens s p) (some (.Name x xp)) l X.env=pure (IL sc x xp (.ListComp elt gens s p)):=by
 have hb:X.env.blockKind=.function:=by
  unfold Env.blockKind;rw [hsc,hk]
  rfl
 show(pure (X.env.blockKind==.function&&X.env.kindOf x==some .local&&xp.line==p.line&&!(s.names.any fun(n,k)=>n==x&&(k==.local||k==.cell))):Sem Bool)=_
 rw [hb];show(pure (true&&X.env.scope.names.lookup x==some .local&&_&&_):Sem Bool)=_
 rw [hsc]
 rfl
theorem Au(S:dF Γ F W N sc k E X){e:Ci.E}{p:Expr}{pos:Pos}(he:GE X W F e p)(hn:mQ p=true):GS X W F H0 E (.expr e) (.Expr p pos):=
 L2.PS.imp (oe he (nU hn)) fun D σ H h=>by
  obtain⟨G,env,sr,o⟩:=h
  rw [aK] at o;exact p8 S sr o fun q v G1 H1 g t bR o1=>o1 σ G1 H1 bR bR.go
theorem Cr(S:dF Γ F W N sc k E X){e:Ci.E}{p:Expr}{pos:Pos}(c8:fH e=true)(he:GE X W F e p):GS X W F H0 E (.ret e) (.Return (some p) pos):=
 L2.PS.imp (Ep he) fun D σ H h=>by
  obtain⟨G,env,sr,o⟩:=h
  rw [aK] at o;exact p8 S sr o fun q v G1 H1 g t bR o1=>o1 v G1 H1 (t.rep c8) bR.go
theorem xb(S:dF Γ F W N sc k E X){c m:Str}{j:Nat}{np zp cp pos:Pos}(h1:Γ.rs.contains c=true)(h2:ic sc c=true)(h3:okN c=true):GS X W F H0 E (.raise c m) (.Raise (some (.Call (.Name c np) [.Constant (.str m) j zp] [] cp)) none pos):=
 L2.PS.imp (S.rz c m j np zp cp pos h1 h2 h3) fun D σ H h C e hC he=>by
  obtain⟨G,env,sr,o⟩:=h
  rw [aK] at o;exact o _ _ _ ⟨C,e,G,rfl,rfl,S.xs c h1,by rw [S.C.mg];exact hC,sr.go⟩
theorem df(S:dF Γ F W N sc k E X){i:Nat}{x:Str}(h:N[i]?=some x)(hl:di sc x=true):X.N.Nodup∧X.N[i]?=some x∧Loc X.env.scope x:=by
 refine⟨by rw [S.C.hN];exact S.C.nd,by rw [S.C.hN];exact h,vW S.C.hsc hl⟩
theorem DM(S:dF Γ F W N sc k E X){i:Nat}{x:Str}{e:Ci.E}{p:Expr}{xp pos:Pos}(h:N[i]?=some x)(hl:di sc x=true)(c8:fH e=true)(he:GE X W F e p)(hs:swapsWith p (some (.Name x xp)) pos.line X.env=pure false):GS X W F H0 E (.set i e) (.Assign [.Name x xp] p pos):=by
 obtain⟨a1,a2,a3⟩:=df S h hl
 refine L2.PS.imp (hW a1 a2 a3 he hs (.inl (S.fn x))) fun D σ H h=>?_
 obtain⟨G,env,sr,o⟩:=h
 rw [aK] at o;exact p8 S sr o fun q v G1 H1 g t bR o1=>o1 _ G1 H1 (bR.set i (t.rep c8)) bR.go
noncomputable def EU(X:Cx)(W:Wd)(F:aS)(i:Nat)(e:Ci.E):TS:=fun D σ H=>tF X W F e σ H fun v H1=>D.nx (σ.set i (some v)) H1
theorem GU{e:Ci.E}(hl:∀env q,ay F e env=.ok q→∃xs,q=.lst xs)(σ:St)(H:Hp)(Q:VK)(h:tE X W F e σ H Q):tF X W F e σ H Q:=by
 obtain⟨H0,G,env,sr,o⟩:=h
 refine⟨H0,G,env,sr,?_⟩;cases r:ay F e env with
 |bad=>rw [r] at o;exact o
 |exc c=>rw [r] at o;exact o
 |ok q=>
  rw [r] at o;obtain⟨xs,rfl⟩:=hl env q r
  exact⟨xs,rfl,fun a vs G' H' g ha l=>o _ _ _ (g.trans (.new g.sub ha)) (.of (.l (.inl (.inl au)) (aq.same (bA (g.sub.free ha)) xs l)))⟩
theorem zG(S:dF Γ F W N sc k E X){i:Nat}{e:Ci.E}{p:Stmt}(hl:∀env q,ay F e env=.ok q→∃xs,q=.lst xs)(c8:fH e=true)(h:PS X p (EU X W F i e)):GS X W F H0 E (.set i e) p:=
 L2.PS.imp h fun D σ H hq=>by
  obtain⟨G,env,sr,o⟩:=hq
  rw [aK] at o;refine GU hl σ H _ (p8 S sr o fun q v G1 H1 g t bR o1=>?_);exact o1 _ G1 H1 (bR.set i (t.rep c8)) bR.go
theorem zF(S:dF Γ F W N sc k E X){i:Nat}{x:Str}{e:Ci.E}{p:Stmt}(hi:N[i]?=some x)(hl:∀env q,ay F e env=.ok q→∃xs,q=.lst xs)(h:PS X p (EU X W F i e)):GS X W F H0 E (.own i e) p:=by
 intro pins s σ H D I hq;have HK:i<σ.length:=by rw [I.len,S.C.hN];exact(List.getElem?_eq_some_iff.mp hi).1
 refine h pins s σ H D I ?_;obtain⟨G,env,sr,o⟩:=hq
 rw [aK] at o;refine F5 S hl sr o fun xs a vs G1 H1 g ha l bR o1=>?_
 have hO:Own W H0 G1 (upd H1 a (.lst vs)) (.lst xs) (.ref a):=⟨a,vs,rfl,au,bR.sub.free ha,bR.base.free ha,l⟩
 obtain⟨r2,g2⟩:=qO bR bR.go (i:=i) (by rw [bR.len];exact HK) ha hO
 exact o1 _ G1 _ r2 g2
theorem mG{i:Nat}{x:Str}{e:Ci.E}{p:Expr}{xp pos:Pos}(S:dF Γ F W N sc k E X)(h:N[i]?=some x)(hl:di sc x=true)(he:GF X W F e p)(hs:swapsWith p (some (.Name x xp)) pos.line X.env=pure false):PS X (.Assign [.Name x xp] p pos) (EU X W F i e):=by
 obtain⟨a1,a2,a3⟩:=df S h hl
 exact hW a1 a2 a3 he hs (.inl (S.fn x))
theorem xE(S:dF Γ F W N sc k E X){i:Nat}{x:Str}{xp eJ:Pos}(hx:N[i]?=some x)(zi:di sc x=true){kk:Nat}{aW:List Nat}{tg:Tg}{it:I}{elt:Ci.E}{cq en dk:Expr}{scope:Scope}{pos:Pos}(h:jV N sc scope kk aW (aN cq))(cm:i9 kk tg=true)(c8:fH elt=true)(hi:GI X W F cq it en)(hfs:∀x,foldedSetIterable en X.env x=pure x)
 (wI:eZ (aN cq++freeOf scope) (cT scope sc) (kb scope) tg cq=true) (he:∀Y,dE Γ.nol F W (aN cq++freeOf scope) (cT scope sc) k Y→GE Y W F elt dk):PS X (.Assign [.Name x xp] (.ListComp dk [⟨cq,en,[],0⟩] scope pos) eJ) (EU X W F i (.comp kk aW tg it elt)):=by
 obtain⟨a1,a2,a3⟩:=df S hx zi
 cases vU:IL sc x xp (.ListComp dk [⟨cq,en,[],0⟩] scope pos) with
 |false=>exact mG S hx zi (r8 S.C h cm c8 hi hfs wI he) (by rw [iT S.C.hsc S.kind,vU])
 |true=>
  intro pins s σ H D I hq;have D9:(freeOf scope).Nodup:=(List.nodup_append.mp h.nd).2.1
  have rd:=sJ (N:=N) S.C.K cm c8 h.slots D9 σ H _ hq
  have:=qZ (g:=gT X.K tg) (te:=tN W F elt) (xs:=aN cq) (ys:=freeOf scope) (is:=aW) (pos:=pos) a1 a2 a3 S.C.calm (mB S.C.hN S.C.hsc I.ok h) hi
   (fun fp s1 H1 A=>v9 (fn:=kb scope) (X:=bP X (aN cq++freeOf scope) scope (bz X.env (freeOf scope)) fp s1 H1 A) rfl h.nd (d7 S.C.hsc) rfl (fun _ z=>z) wI)
   (fun fp s1 H1 A=>L2.PE.imp (he _ (eg S.C h fp s1 H1 A)) fun σ H Q z=>sL σ H Q z) (by rw [iT (l:=eJ.line) S.C.hsc S.kind,vU]) hfs (.inl (S.fn x)) pins s σ H D I
  rw [h.len] at this;exact this rd
theorem qD(S:dF Γ F W N sc k E X){i:Nat}{x:Str}{xp eJ:Pos}(hx:N[i]?=some x)(zi:di sc x=true){kk:Nat}{aW:List Nat}{tg:Tg}{it:I}{c elt:Ci.E}{cq en pc dk:Expr}{scope:Scope}{pos:Pos}(h:jV N sc scope kk aW (aN cq))(cm:i9 kk tg=true)(c8:fH elt=true)(hi:GI X W F cq it en)(hfs:∀x,foldedSetIterable en X.env x=pure x)
 (wI:eZ (aN cq++freeOf scope) (cT scope sc) (kb scope) tg cq=true) (hc:∀Y,dE Γ.nol F W (aN cq++freeOf scope) (cT scope sc) k Y→GT Y W F c pc) (he:∀Y,dE Γ.nol F W (aN cq++freeOf scope) (cT scope sc) k Y→GE Y W F elt dk):PS X (.Assign [.Name x xp] (.ListComp dk [⟨cq,en,[pc],0⟩] scope pos) eJ) (EU X W F i (.compIf kk aW tg it c elt)):=by
 obtain⟨a1,a2,a3⟩:=df S hx zi
 cases vU:IL sc x xp (.ListComp dk [⟨cq,en,[pc],0⟩] scope pos) with
 |false=>exact mG S hx zi (lV S.C h cm c8 hi hfs wI hc he) (by rw [iT S.C.hsc S.kind,vU])
 |true=>
  intro pins s σ H D I hq;have D9:(freeOf scope).Nodup:=(List.nodup_append.mp h.nd).2.1
  have rd:=lU (N:=N) S.C.K cm c8 h.slots D9 σ H _ hq
  have:=nq (g:=gT X.K tg) (tt:=Iq W F c) (te:=tN W F elt) (xs:=aN cq) (ys:=freeOf scope) (is:=aW) (pos:=pos) a1 a2 a3 S.C.calm (mB S.C.hN S.C.hsc I.ok h) hi
   (fun fp s1 H1 A=>v9 (fn:=kb scope) (X:=bP X (aN cq++freeOf scope) scope (bz X.env (freeOf scope)) fp s1 H1 A) rfl h.nd (d7 S.C.hsc) rfl (fun _ z=>z) wI)
   (fun fp s1 H1 A=>L2.PT.imp (hc _ (eg S.C h fp s1 H1 A)) fun σ H Q z=>vE σ H Q z)
   (fun fp s1 H1 A=>L2.PE.imp (he _ (eg S.C h fp s1 H1 A)) fun σ H Q z=>sL σ H Q z) (by rw [iT (l:=eJ.line) S.C.hsc S.kind,vU]) hfs (.inl (S.fn x)) pins s σ H D I
  rw [h.len] at this;exact this rd
theorem vj{tg:Tg}{p:PV}{env:Sl}(c:Str):Tg.put tg p env≠.exc c:=by
 unfold Tg.put;split<;>exact fun z=>nomatch z
theorem EI(S:dF Γ F W N sc k E X){c:Ci.E}{a b:Ss}{p:Expr}{pa pb:List Stmt}{pos:Pos}(hc:GT X W F c p)(ha:yA X W F H0 E a pa)(hb:yA X W F H0 E b pb):GS X W F H0 E (.ite c a b) (.If p pa pb pos):=
 L2.PS.imp (F7 hc ha hb) fun D σ H h=>by
  obtain⟨G,env,sr,o⟩:=h
  rw [aK] at o;refine B1 S sr o fun t G1 H1 g bR o1=>?_
  cases t with
  |true=>
   rw [if_pos rfl] at o1⊢;exact⟨G1,env,bR,o1⟩
  |false=>
   rw [if_neg zzf] at o1⊢;exact⟨G1,env,bR,o1⟩
theorem Ca(S:dF Γ F W N sc k E X){c:Ci.E}{b:Ss}{p:Expr}{pb:List Stmt}{pos:Pos}(hc:GT X W F c p)(hb:yA X W F H0 E b pb):GS X W F H0 E (.whl c b) (.While p pb [] pos):=
 L2.PS.imp (vC S.own hc hb) fun D σ H h=>by
  obtain⟨G,env,sr,o⟩:=h
  rw [aK] at o;refine⟨fun m σ' H'=>∃G' az,SR W H0 az σ' G' H'∧aJ W G H0 G' H'∧bY W H0 G' E (bO (ay F c) (ai F b) m az) D,⟨_,G,env,sr,sr.go,o⟩,?_⟩
  rintro m σ' H' ⟨G',az,sr',g',o'⟩
  cases m with
  |zero=>exact o'.elim
  |succ m=>
   unfold bO at o';refine B1 S sr' o' fun t G1 H1 g1 bR o1=>?_
   cases t with
   |false=>
    rw [if_neg zzf] at o1⊢;exact o1 σ' G1 H1 bR bR.go
   |true=>
    rw [if_pos rfl] at o1⊢;refine⟨fun σ2 H2=>∃G2 dZ,SR W H0 dZ σ2 G2 H2∧aJ W G H0 G2 H2∧bY W H0 G2 E (bO (ay F c) (ai F b) m dZ) D,fun σ2 H2 h2=>⟨m,Nat.lt_succ_self _,h2⟩,G1,az,bR,?_⟩
    have gg:=g'.then (sr'.on g1)
    cases r:ai F b az with
    |bad=>rw [r] at o1;exact o1.elim
    |exc cc=>rw [r] at o1;exact o1
    |ok f=>
     rw [r] at o1;cases f with
     |nx dZ=>exact fun σ2 G2 H2 eG g2=>⟨G2,dZ,eG,gg.then g2,bY.on (show bY W H0 G1 E (bO (ay F c) (ai F b) m dZ) D from o1) g2⟩
     |ct dZ=>exact fun σ2 G2 H2 eG g2=>⟨G2,dZ,eG,gg.then g2,bY.on (show bY W H0 G1 E (bO (ay F c) (ai F b) m dZ) D from o1) g2⟩
     |bk dZ=>exact fun σ2 G2 H2 eG g2=>o1 σ2 G2 H2 eG g2
     |rt q=>exact fun v G2 H2 rv g2=>o1 v G2 H2 rv g2
theorem Cy(S:dF Γ F W N sc k E X){tg:Tg}{it:I}{b:Ss}{cq en:Expr}{pb:List Stmt}{pos:Pos}(wI:eZ N sc (fun _=>true) tg cq=true)(hit:Ar it=true)(hi:GI X W F cq it en)(hfs:∀x,foldedSetIterable en X.env x=pure x)(hb:yA X W F H0 E b pb):GS X W F H0 E (.for_ tg it b) (.For cq en pb [] pos):=
 L2.PS.imp (DV S.own S.C.calm hi (v9 (fn:=fun _=>true) S.C.hN S.C.nd S.C.hsc S.C.calm (fun x _=>S.fn x) wI) hb hfs) fun D σ H h=>by
  obtain⟨G,env,sr,o⟩:=h
  rw [aK] at o;refine⟨H0,G,env,sr,(o.bind S sr).imp fun ps iP J G1 H1 g1 gi=>?_⟩
  have frz:=gi.frz hit
  generalize hf:(fun(x:PV) (env:Sl)=>(tg.put x env).bind fun az=>ai F b az)=f at iP
  have bR:=sr.grow g1
  refine⟨fun i m σ' H'=>i≤ps.length∧m=ps.length-i∧∃G' az,SR W H0 az σ' G' H'∧aJ W G1 H0 G' H'∧bY W H0 G' E (forL f (ps.drop i) az) D,⟨_,Nat.zero_le _,rfl,G1,env,bR,bR.go,by rw [List.drop_zero];exact bY.on iP (sr.on g1)⟩,?_⟩
  rintro i m σ' H' ⟨G9,hm,G',az,sr',g',o'⟩
  obtain⟨ist,igo⟩:=frz i G' H' g'.g (.of (g'.g.trans sr'.sub)) sr'.sub
  by_cases hlast:i=ps.length
  ·refine .inl ⟨ist hlast,?_⟩;rw [hlast,List.drop_length] at o';exact o' σ' G' H' sr' sr'.go
  ·have cm:i<ps.length:=by omega
   obtain⟨hgo,hyld⟩:=igo ps[i] (List.getElem?_eq_getElem cm)
   refine .inr ⟨hgo,fun σ2 H2=>i+1≤ps.length∧∃G2 dZ,SR W H0 dZ σ2 G2 H2∧aJ W G1 H0 G2 H2∧bY W H0 G2 E (forL f (ps.drop (i+1)) dZ) D,fun σ2 H2 h2=>⟨ps.length-(i+1),by omega,h2.1,rfl,h2.2⟩,fun x oB hy=>?_⟩
   obtain⟨sI,g'',rx⟩:=hyld x oB hy
   rw [List.drop_eq_getElem_cons cm] at o';unfold forL at o';have Iy:f ps[i] az=(tg.put ps[i] az).bind fun az=>ai F b az:=by rw [←hf]
   rw [Iy] at o';have eG:=sr'.grow g''
   have g2:=g'.then (sr'.on g'')
   cases r:tg.put ps[i] az with
   |bad=>rw [r] at o';exact o'.elim
   |exc c=>exact absurd r (vj c)
   |ok dZ=>
    rw [r] at o';refine qI S.C.K r eG rx fun σ2 sr3=>⟨sI,dZ,sr3,?_⟩
    have o2:bY W H0 sI E ((ai F b dZ).bind fun fl=>match fl with
     |.nx az=>forL f (ps.drop (i+1)) az
     |.ct az=>forL f (ps.drop (i+1)) az
     |.bk az=>.ok (.nx az)
     |.rt p=>.ok (.rt p)) D:=bY.on o' (sr'.on g'')
    cases r2:ai F b dZ with
    |bad=>rw [r2] at o2;exact o2.elim
    |exc cc=>rw [r2] at o2;exact o2
    |ok fl=>
     rw [r2] at o2;cases fl with
     |nx env3=>exact fun σ3 G3 H3 B9 g3=>⟨cm,G3,env3,B9,g2.then g3,bY.on (show bY W H0 sI E (forL f (ps.drop (i+1)) env3) D from o2) g3⟩
     |ct env3=>exact fun σ3 G3 H3 B9 g3=>⟨cm,G3,env3,B9,g2.then g3,bY.on (show bY W H0 sI E (forL f (ps.drop (i+1)) env3) D from o2) g3⟩
     |bk env3=>exact fun σ3 G3 H3 B9 g3=>o2 σ3 G3 H3 B9 g3
     |rt q=>exact fun v G3 H3 rv g3=>o2 v G3 H3 rv g3
theorem AR:yA X W F H0 E .nil []:=L2.PSs.imp yZ fun D σ H h=>by
 obtain⟨G,env,sr,o⟩:=h
 rw [ai] at o;exact o σ G H sr sr.go
theorem xt{s:Ci.S}{ss:Ss}{p:Stmt}{ps:List Stmt}(h1:GS X W F H0 E s p)(h2:yA X W F H0 E ss ps):yA X W F H0 E (.cons s ss) (p::ps):=
 L2.PSs.imp (vI h1 h2) fun D σ H h=>by
  obtain⟨G,env,sr,o⟩:=h
  rw [ai] at o;refine⟨G,env,sr,?_⟩;cases r:aK F s env with
  |bad=>rw [r] at o;exact o
  |exc c=>rw [r] at o;exact o
  |ok f=>
   rw [r] at o;cases f with
   |nx dZ=>exact fun σ2 G2 H2 eG g2=>⟨G2,dZ,eG,bY.on (show bY W H0 G E (ai F ss dZ) D from o) g2⟩
   |bk dZ=>exact o
   |ct dZ=>exact o
   |rt q=>exact o
theorem yY{i:Nat}{ss:Ss}{ps:List Stmt}(h:yA X W F H0 E ss ps):yA X W F H0 E (.cons (.frz i) ss) ps:=by
 intro pins s σ H D I hq;obtain⟨G,env,sr,o⟩:=hq
 rw [ai,aK] at o;rcases CV sr sr.go i with⟨G',sr',g'⟩|⟨a,aD,ha,k⟩
 ·exact h pins s σ H D I ⟨G',_,sr',bY.on (show bY W H0 G E (ai F ss (env.modify i nF)) D from o) g'⟩
 ·obtain⟨ob,J⟩:=I.freeze ha
  obtain⟨G',sr',g'⟩:=k ob
  exact h pins s σ _ D J ⟨G',_,sr',bY.on (show bY W H0 G E (ai F ss (env.modify i nF)) D from o) g'⟩
end
end Ci
namespace L2
open PySem PySem.Spec PyProof.Rows
noncomputable def Kv(tk tv:TE):TE:=fun σ H Q=>∀p,H p=none→tk σ (upd H p (.dT [])) fun x H1=>tv σ H1 fun y H2=>∃b ks,x=.ref b∧H2 p=some (.dT [])∧H2 b=some (.tup (ks.map kV))∧Q (.ref p) (upd H2 p (.dT (putK [] ks y)))
theorem Ce{X:Cx}{pos:Pos}{k v:Expr}{tk tv:TE}(hu:X.A.units<cLine)(hk:PE X k tk)(hv:PE X v tv):PE X (.Dict [some k] [v] pos) (Kv tk tv):=by
 intro pins s σ H Q I q;have hn:=I.hok.fresh (Nat.le_refl s.heap.objs.size)
 have I1:=I.laid (a:=s.heap.objs.size) (o:=.dT []) (h':=s.heap.push {cls:=.type "dict",data:=.dict #[]}) (t':=s.toks) (fun _ _ q=>Heap.get?_push_of_some _ q) (Nat.le_refl _) (oZ s.heap I.big)
 refine wpAny_Dict_any rfl rfl (by simp) (show 1≤15 by decide) (pairTrees_cons_walk (bL (hk pins _ σ _ _ I1 (q _ hn)) fun u s1 ⟨x,H1,I1',rx,q1⟩=>bL (hv pins s1 σ H1 _ I1' q1) fun w2 s2 ⟨y,H2,I2,ry,q2⟩=>pairTrees_nil_walk ?_))
 obtain⟨b,ks,rfl,e,hb,q3⟩:=q2
 cases rx;unfold storeAll;refine wpAny_forIn_list _ (fun rest _ s'=>(rest=[(Value.ref b,w2)]∧s'=s2)∨(rest=[]∧∃v' H',Inv X pins σ H' s'∧RelV v' (.ref s.heap.objs.size)∧Q v' H')) _ (fun x rest _ s' hI=>?_) (fun _ s' hI=>?_) _ _ (.inl ⟨rfl,rfl⟩)
 ·rcases hI with⟨h1,rfl⟩|⟨h1,_⟩
  ·cases h1;refine wpAny_bind (D8 hu I2 e hb (by decide) ry fun h' t hs I3=>wpAny_pure (.inr ⟨rfl,.ref _,_,I3,rfl,q3⟩))
  ·cases h1
 ·rcases hI with⟨h1,_⟩|⟨_,v',H',I',r',q'⟩
  ·cases h1
  ·exact⟨v',H',I',r',q'⟩
end L2
namespace Ci
open PySem L2
section
variable{Γ:Pg}{X:Cx}{W:Wd}{F:aS}{N:List Str}{sc:Scope}{k:Nat}{H0:Hp}{E:XK}
theorem rC(hK:W.K=X.K):IW X "list.extend" (fun x vs H Q=>∃l b xs zs,x=.ref l∧vs=[.ref b]∧H l=some (.lst xs)∧LsR W.K H b zs∧xs.length+zs.length≤sizeLine∧Q .non (upd H l (.lst (xs++zs)))):=by
 intro pins s σ H x vs v us Q I rx rv h;obtain⟨l,b,xs,zs,rfl,rfl,hH,hB,hz,q⟩:=h
 cases rx;obtain⟨u,rfl,ru⟩:=Vals.one rv
 cases ru;obtain⟨z,aE,n,r,hl,e⟩:=I.lstM hH
 obtain⟨aH,n2,r2,KG,z2,e2⟩:=FC hK I hB
 have hsz:aE.toArray.size+aH.toArray.size≤sizeLine:=by rw [List.size_toArray,List.size_toArray];omega
 have Gw:¬(!aE.toArray.isEmpty&&Builtin.List.listTooLong (aE.toArray.size+aH.toArray.size))=true:=by
  rw [wx hsz,Bool.and_false];exact zzf
 refine PySem.call_meets PySem.F.slot_list_extend ⟨_,e,rfl⟩ PySem.F.entry_list_extend (PySem.F.args_list_extend_2 _ _)
  (PySem.AutoSeq1.list_extend_list_list_0 l aE.toArray n b aH.toArray n2 Gw (by rw [List.size_toArray];omega) (by omega)) ⟨e,e2,?_⟩
 refine⟨.non,_,I.lset (its':=aE++aH) hH e (by simp) (r.append r2) ?_,rfl,q⟩;rw [List.length_append];omega
theorem fq(S:dF Γ F W N sc k E X){i:Nat}{x:Str}{pos:Pos}(h:N[i]?=some x)(hv:dm sc x=true)(ho:okN x=true):PE X (.Name x pos) (xQ i):=
 dR (by rw [S.C.hN];exact h) (jc S.C hv) (cV ho).1 (cV ho).2.1
theorem mP{env:Sl}{σ:St}{G H:Hp}{i:Nat}{xs:List PV}(sr:SR W H0 env σ G H)(h:env[i]?=some (.own (.lst xs))):∃a vs,σ[i]?=some (some (.ref a))∧H a=some (.lst vs)∧G a=none∧H0 a=none∧aq W G xs vs:=by
 obtain⟨o,ho,v,rfl,a,vs,rfl,h1,h2,h3,l⟩:=sr.slot i _ h
 exact⟨a,vs,ho,h1,h2,h3,l⟩
theorem CJ(S:dF Γ F W N sc k E X){i:Nat}{x:Str}{e:Ci.E}{p:Expr}{np apos bw pos:Pos}(h:N[i]?=some x)(hv:dm sc x=true)(ho:okN x=true)(eY:(apos.endLine==bw.line)=true)(c8:fH e=true)(he:GE X W F e p)
 (dH:∀env ps,starEach (p::ps) env=(false,eval p env)::starEach ps env):GS X W F H0 E (.app i e) (.Expr (.Call (.Attribute (.Name x np) "append" apos) [p] [] bw) pos):=by
 refine L2.PS.imp (oe (BV PySem.F.plainAttrs_list PySem.F.slot_list_append PySem.F.type_list_append tP (fq S h hv ho) (cH he dW (dH _ _)) rfl (by rw [dH];rfl) eY (dH _ _) rfl) rfl) fun D σ H hq=>?_
 obtain⟨G,env,sr,o⟩:=hq
 rw [aK] at o;split at o
 ·rename_i xs hx;obtain⟨a,vs,hs,h1,h2,h3,l⟩:=mP sr hx
  refine⟨.ref a,hs,.inl ⟨rfl,_,lI.of h1⟩,p8 S sr o fun q v G1 H1 g t bR o1=>?_⟩
  split at o1
  ·rename_i hl;have nh:=g.h.at h1 (fun _ z=>nomatch z)
   have sC:=g.own a (by rw [h1];exact fun z=>nomatch z) (by rw [h1];exact fun _ z=>nomatch z) h2
   have l':=aq.same g.g xs l
   refine⟨a,vs,v,rfl,rfl,nh,by rw [l.length];exact Nat.lt_of_lt_of_le hl (by decide),?_⟩;obtain⟨r2,g2⟩:=gY (p':=.lst (xs++[q])) (ob:=.lst (vs++[v])) bR bR.go hx hs sC h3 ⟨a,_,rfl,au,sC,h3,l'.append (.cons (t.rep c8) .nil)⟩
   exact o1 _ G1 _ r2 g2
  ·exact o1.elim
 ·exact o.elim
theorem Ba(S:dF Γ F W N sc k E X){i:Nat}{x:Str}{e:Ci.E}{p:Expr}{np apos bw pos:Pos}(h:N[i]?=some x)(hv:dm sc x=true)(ho:okN x=true)(eY:(apos.endLine==bw.line)=true)(he:GE X W F e p)
 (dH:∀env ps,starEach (p::ps) env=(false,eval p env)::starEach ps env):GS X W F H0 E (.extd i e) (.Expr (.Call (.Attribute (.Name x np) "extend" apos) [p] [] bw) pos):=by
 refine L2.PS.imp (oe (BV PySem.F.plainAttrs_list PySem.F.slot_list_extend PySem.F.type_list_extend (rC S.C.K) (fq S h hv ho) (cH he dW (dH _ _)) rfl (by rw [dH];rfl) eY (dH _ _) rfl) rfl) fun D σ H hq=>?_
 obtain⟨G,env,sr,o⟩:=hq
 rw [aK] at o;split at o
 ·rename_i xs hx;obtain⟨a,vs,hs,h1,h2,h3,l⟩:=mP sr hx
  refine⟨.ref a,hs,.inl ⟨rfl,_,lI.of h1⟩,p8 S sr o fun q v G1 H1 g t bR o1=>?_⟩
  split at o1
  ·rename_i ys;split at o1
   ·rename_i hl;have nh:=g.h.at h1 (fun _ z=>nomatch z)
    have sC:=g.own a (by rw [h1];exact fun z=>nomatch z) (by rw [h1];exact fun _ z=>nomatch z) h2
    have l':=aq.same g.g xs l
    obtain⟨b,us,rfl,hb,lb⟩:=t.top.lst bR.sub
    refine⟨a,b,vs,us,rfl,rfl,nh,hb,by rw [l.length,lb.length];exact ip hl,?_⟩;obtain⟨r2,g2⟩:=gY (p':=.lst (xs++ys)) (ob:=.lst (vs++us)) bR bR.go hx hs sC h3 ⟨a,_,rfl,au,sC,h3,l'.append lb⟩
    exact o1 _ G1 _ r2 g2
   ·exact o1.elim
  ·exact o1.elim
 ·exact o.elim
def Fi:V→V→V→Hp→(Hp→Prop)→Prop:=fun o i v H Q=>∃a H',o=.ref a∧uV H a i v H'∧Q H'
theorem rH(hu:X.A.units+1<cLine):Gk X Fi:=by
 intro pins s σ H o i v ov iv u Q I ro ri rv h;obtain⟨a,H',rfl,g,q⟩:=h
 cases ro;exact tH hu I g ri rv fun s' I'=>⟨H',I',q⟩
theorem gJ{env:Sl}{σ:St}{G H:Hp}{i:Nat}{ks:List (List Int)}{ps:List PV}(sr:SR W H0 env σ G H)(h:env[i]?=some (.own (.dct ks ps))):∃a us,σ[i]?=some (some (.ref a))∧ks.length=us.length∧H a=some (.dT (kz ks us))∧G a=none∧H0 a=none∧aq W G ps us:=by
 obtain⟨o,ho,v,rfl,a,us,rfl,n,h1,h2,h3,l⟩:=sr.slot i _ h
 exact⟨a,us,ho,n,h1,h2,h3,l⟩
theorem C6(S:dF Γ F W N sc k E X){i:Nat}{x:Str}{kk e:Ci.E}{pk p:Expr}{np eJ pos:Pos}(h:N[i]?=some x)(hv:dm sc x=true)(ho:okN x=true)(c8:fH e=true)(LU:bf Γ N sc kk pk=true)(hk:GE X W F kk pk)(he:GE X W F e p):GS X W F H0 E (.put i kk e) (.Assign [.Subscript (.Name x np) pk eJ] p pos):=by
 have vU:swappedStores [.Subscript (.Name x np) pk eJ] p X.env=pure none:=by cases p<;>rfl
 have ha:∀v,assign (.Subscript (.Name x np) pk eJ) X.env v=(do
  let ov←holding [v] (eval (.Name x np) X.env)
  let iv←holding [v,ov] (eval pk X.env)
  standAt eJ
  holding [v,ov,iv] (setItem ov iv v)
  release [v,ov,iv] []):=by
  intro v;cases pk<;>first|rfl|(cases kk<;>first|(exact absurd LU zzf)|(rename_i q;cases q<;>exact absurd LU zzf))
 refine L2.PS.imp (yq he (xj (fq S h hv ho) hk (rH (by have:=S.C.room.un;omega)) ha) (by cases p<;>rfl) vU) fun D σ H hq=>?_
 obtain⟨G,env,sr,o⟩:=hq
 rw [aK] at o;refine p8 S sr o fun q v G1 H1 g t bR o1=>?_
 split at o1
 ·rename_i ks ps hx;obtain⟨a,us,hs,n,h1,h2,h3,l⟩:=gJ bR hx
  refine⟨.ref a,hs,p8 S bR o1 fun q2 v2 G2 H2 g2 t2 eG o2=>?_⟩
  split at o2
  ·rename_i kk Dk;split at o2
   ·rename_i vg;have e2:=fE Dk
    subst e2;obtain⟨b,rfl,hb⟩:=t2.top.tupI (ns:=kk) eG.sub rfl
    have nh:=g2.h.at h1 (fun _ z=>nomatch z)
    have sC:=g2.own a (by rw [h1];exact fun z=>nomatch z) (by rw [h1];exact fun _ z=>nomatch z) h2
    have l':=aq.same g2.g ps l
    refine⟨a,upd H2 a (.dT (putK (kz ks us) (ki kk) v)),rfl,uV.t nh (by rw [qW];exact eG.sub _ _ hb) (by rw [fT n];exact Nat.lt_of_lt_of_le vg (by decide)),?_⟩;rw [vG n];obtain⟨r2,gg⟩:=gY (p':=.dct (aU ks kk) (bg ks ps kk q)) (ob:=.dT (kz (aU ks kk) (bg ks us kk v))) eG eG.go hx hs sC h3 ⟨a,_,rfl,pd n kk v,au,sC,h3,sx l' (Rep.same g2.g q (t.rep c8))⟩
    exact o2 _ G2 _ r2 gg
   ·exact o2.elim
  ·exact o2.elim
 ·exact o1.elim
theorem yH(S:dF Γ F W N sc k E X){i:Nat}{x:Str}{np dp pos:Pos}(h:N[i]?=some x)(hl:di sc x=true):GS X W F H0 E (.dnew i) (.Assign [.Name x np] (.Dict [] [] dp) pos):=by
 obtain⟨a1,a2,a3⟩:=df S h hl
 intro pins s σ H D I hq;have HK:i<σ.length:=by rw [I.len,S.C.hN];exact(List.getElem?_eq_some_iff.mp h).1
 refine hW a1 a2 a3 wX rfl (.inl (S.fn x)) pins s σ H D I ?_;obtain⟨G,env,sr,o⟩:=hq
 rw [aK] at o;intro p hp;obtain⟨r2,g2⟩:=qO (i:=i) (p:=.dct [] []) (ob:=.dT []) sr sr.go (by rw [sr.len];exact HK) hp ⟨p,[],rfl,rfl,au,sr.sub.free hp,sr.base.free hp,.nil⟩
 exact o _ G _ r2 g2
theorem wb(S:dF Γ F W N sc k E X){i n:Nat}{x z:Str}{b:Bool}{np zp dp cp pos:Pos}{j:Nat}(h:N[i]?=some x)(hl:di sc x=true)(hz:N[n]?=some z)(Ic:dm sc z=true)(Ft:okN z=true):GS X W F H0 E (.dnew1 i n b) (.Assign [.Name x np] (.Dict [some (.Name z zp)] [.Constant (.bool b) j cp] dp) pos):=by
 obtain⟨a1,a2,a3⟩:=df S h hl
 intro pins s σ H D I hq;have HK:i<σ.length:=by rw [I.len,S.C.hN];exact(List.getElem?_eq_some_iff.mp h).1
 refine hW a1 a2 a3 (Ce (by have:=S.C.room.un;omega) (dR (by rw [S.C.hN];exact hz) (jc S.C Ic) (cV Ft).1 (cV Ft).2.1) Bu) rfl (.inl (S.fn x)) pins s σ H D I ?_;obtain⟨G,env,sr,o⟩:=hq
 rw [aK] at o;intro p hp;cases e:env[n]? with
 |none=>rw [e] at o;exact o.elim
 |some sl=>
  rw [e] at o;cases sl with
  |val kp=>
   cases hk:gb kp with
   |none=>
    have o':bY W H0 G E ((Res.of (gb kp)).bind fun kk=>Res.ok (Fl.nx (env.set i (.own (.dct [kk] [.bl b]))))) D:=o
    rw [hk] at o';exact o'.elim
   |some kk=>
    have o':bY W H0 G E ((Res.of (gb kp)).bind fun kk=>Res.ok (Fl.nx (env.set i (.own (.dct [kk] [.bl b]))))) D:=o
    rw [hk] at o';have e2:=fE hk
    subst e2;obtain⟨v,hv,rv⟩:=sr.slot n _ e
    obtain⟨v',rfl,rv⟩:=rv
    obtain⟨ad,rfl,hb⟩:=ng rv
    have hH:=sr.sub _ _ hb
    have fU:ad≠p:=fun q=>by rw [q,hp] at hH;cases hH
    refine⟨.ref ad,hv,ad,ki kk,rfl,au,by rw [ah fU,qW];exact hH,?_⟩;obtain⟨r2,g2⟩:=qO (i:=i) (p:=.dct [kk] [.bl b]) (ob:=.dT (kz [kk] [V.bl b])) sr sr.go (by rw [sr.len];exact HK) hp ⟨p,[V.bl b],rfl,rfl,au,sr.sub.free hp,sr.base.free hp,.cons .b .nil⟩
    have uu:upd (upd H p (.dT [])) p (.dT (putK [] (ki kk) (V.bl b)))=upd H p (.dT (kz [kk] [V.bl b])):=by
     funext q
     by_cases hq:q=p
     ·subst hq;rw [au,au];rfl
     ·rw [ah hq,ah hq,ah hq]
    rw [uu];exact o' _ G _ r2 g2
  |no=>exact o.elim
  |own _=>exact o.elim
  |fn _ _ _=>exact o.elim
theorem uo(S:dF Γ F W N sc k E X){i j n:Nat}{x y z:Str}{np zp eJ yp apos KI bw pos:Pos}(h:N[i]?=some x)(hv:dm sc x=true)(ho:okN x=true)(hz:N[n]?=some z)(Ic:dm sc z=true)(Ft:okN z=true)(hy:N[j]?=some y)(Ng:dm sc y=true)(Ma:okN y=true)
 (eY:(apos.endLine==bw.line)=true):GS X W F H0 E (.putPop i j n) (.Assign [.Subscript (.Name x np) (.Name z zp) eJ] (.Call (.Attribute (.Name y yp) "pop" apos) [.Name z KI] [] bw) pos):=by
 have hu:X.A.units+1<cLine:=by have:=S.C.room.un;omega
 refine L2.PS.imp (yq (y6 hu (fq S hy Ng Ma) (fq S hz Ic Ft) ⟨rfl,rfl,eY,rfl⟩) (xj (fq S h hv ho) (fq S hz Ic Ft) (rH hu) fun _=>rfl) (by unfold swapsWithSole;exact nU rfl) rfl) fun D σ H hq=>?_
 obtain⟨G,env,sr,o⟩:=hq
 rw [aK] at o;split at o
 ·rename_i ks ps ks2 ps2 kp e1 e2 e3;split at o
  ·rename_i kk Dk;split at o
   ·rename_i p hp;split at o
    ·rename_i vg;have ek:=fE Dk
     subst ek;obtain⟨a,us,hs,nn,h1,h2,h3,l⟩:=gJ sr e1
     obtain⟨ok,hk1,v,rfl,rv⟩:=sr.slot n _ e3
     obtain⟨b,rfl,hb⟩:=ng rv
     obtain⟨w,hw,kw⟩:=mD l hp
     refine⟨.ref a,hs,a,rfl,.inr ⟨_,.inl h1⟩,.ref b,hk1,_,ki kk,b,w,h1,rfl,(by rw [qW];exact sr.sub _ _ hb),(by rw [iW];exact hw),?_⟩;rw [rO kk nn];obtain⟨r1,g1⟩:=gY (p':=.dct (bJ ks kk) (aV ks ps kk)) (ob:=.dT (kz (bJ ks kk) (aV ks us kk))) sr sr.go e1 hs h2 h3 ⟨a,_,rfl,pP kk nn,au,h2,h3,iY l⟩
     have F4:(env.set j (.own (.dct (bJ ks kk) (aV ks ps kk))))[i]?=some (.own (.dct ks2 ps2)):=by rw [List.getElem?_set_ne (Ne.symm vg.2)];exact e2
     obtain⟨a2,us2,sW,n2,k1,k2,k3,l2⟩:=gJ r1 F4
     refine⟨.ref a2,sW,.ref b,hk1,a2,_,rfl,uV.t k1 (by rw [qW];exact r1.sub _ _ hb) (by rw [fT n2];exact Nat.lt_of_lt_of_le vg.1 (by decide)),?_⟩;rw [vG n2];obtain⟨r2,g2⟩:=gY (p':=.dct (aU ks2 kk) (bg ks2 ps2 kk p)) (ob:=.dT (kz (aU ks2 kk) (bg ks2 us2 kk w))) r1 g1 F4 sW k2 k3 ⟨a2,_,rfl,pd n2 kk w,au,k2,k3,sx l2 kw⟩
     exact o _ G _ r2 g2
    ·exact o.elim
   ·exact o.elim
  ·exact o.elim
 ·exact o.elim
theorem Eu(S:dF Γ F W N sc k E X){i j:Nat}{x y:Str}{np yp apos bw pos:Pos}(h:N[i]?=some x)(hv:dm sc x=true)(ho:okN x=true)(eY:(apos.endLine==bw.line)=true)(hy:N[j]?=some y)(hl:di sc y=true):GS X W F H0 E (.pop j i) (.Assign [.Name y yp] (.Call (.Attribute (.Name x np) "pop" apos) [] [] bw) pos):=by
 obtain⟨a1,a2,a3⟩:=df S hy hl
 refine L2.PS.imp (hW a1 a2 a3 (B7 PySem.F.plainAttrs_list PySem.F.slot_list_pop PySem.F.type_list_pop Dp (fq S h hv ho) rfl eY) rfl (.inl (S.fn y))) fun D σ H hq=>?_
 obtain⟨G,env,sr,o⟩:=hq
 rw [aK] at o;split at o
 ·rename_i xs hx;obtain⟨a,vs,hs,h1,h2,h3,l⟩:=mP sr hx
  cases r:xs[xs.length-1]? with
  |none=>rw [r] at o;exact o.elim
  |some p=>
   rw [r] at o;obtain⟨v,hv2,rv⟩:=l.getP r
   refine⟨.ref a,hs,.inl ⟨rfl,_,lI.of h1⟩,a,vs,v,rfl,rfl,h1,by rw [l.length];exact hv2,?_⟩;have ld:aq W G xs.dropLast vs.dropLast:=by
    rw [List.dropLast_eq_take,List.dropLast_eq_take,l.length];exact l.take _
   obtain⟨r2,gg⟩:=gY (p':=.lst xs.dropLast) (ob:=.lst vs.dropLast) sr sr.go hx hs h2 h3 ⟨a,_,rfl,au,h2,h3,ld⟩
   exact o _ G _ (r2.set j rv) gg
 ·exact o.elim
end
end Ci
namespace Ci
open PySem L2
theorem m8:∀(cs:List Int) (all:List Int) (j b:Nat) (m:Int),all.drop j=cs→all[b]?=some m→b<j→(∀i c,all[i]?=some c→i<j→m≤c∧(i<b→m<c))→
 ∃m',all[dO cs j b m]?=some m'∧∀i c,all[i]?=some c→m'≤c∧(i<dO cs j b m→m'<c)
 |[],all,j,b,m,hd,hb,_,best=>by
  unfold dO;have hl:all.length≤j:=List.drop_eq_nil_iff.mp hd
  exact⟨m,hb,fun i c e=>best i c e (Nat.lt_of_lt_of_le (List.getElem?_eq_some_iff.mp e).1 hl)⟩
 |x::cs,all,j,b,m,hd,hb,hbj,best=>by
  have hx:all[j]?=some x:=by rw [←List.head?_drop,hd];rfl
  have HU:all.drop (j+1)=cs:=by rw [←List.drop_drop,hd];rfl
  unfold dO;split
  ·rename_i cm;refine m8 cs all (j+1) j x HU hx (by omega) fun i c e hi=>?_
   by_cases h:i=j
   ·subst h;rw [hx] at e;cases e;exact⟨Int.le_refl _,fun z=>absurd z (Nat.lt_irrefl _)⟩
   ·have:=best i c e (by omega)
    exact⟨by omega,fun _=>by omega⟩
  ·rename_i cm;refine m8 cs all (j+1) b m HU hb (by omega) fun i c e hi=>?_
   by_cases h:i=j
   ·subst h;rw [hx] at e;cases e;exact⟨by omega,fun z=>by omega⟩
   ·exact best i c e (by omega)
theorem AN{cs:List Int}{x:Nat}(h:x5 cs=some x):∃m,cs[x]?=some m∧∀i c,cs[i]?=some c→m≤c∧(i<x→m<c):=by
 cases cs with
 |nil=>cases h
 |cons c cs=>
  cases h;refine m8 cs (c::cs) 1 0 c rfl rfl (by omega) fun i d e hi=>?_
  have:i=0:=by omega
  subst this;cases e;exact⟨Int.le_refl _,fun z=>absurd z (Nat.not_lt_zero _)⟩
theorem lB{W:Wd}{G H:Hp}{K:PySem.W.Frag}(hK:W.K=K)(sg:aF G H):∀{ps:List PV} {us:List V} {cs:List Int},gh ps=some cs→aq W G ps us→cs.length=ps.length∧∀(i:Nat) v,us[i]?=some v→∃q r,v=V.ref q∧fD K H q (.int (cs.getD i 0)::r)
 |[],_,_,e,l=>by cases e;simp only [aq] at l;subst l;exact⟨rfl,fun i v h=>by simp at h⟩
 |p::ps,us,cs,e,l=>by
  obtain⟨u,ur,rfl,h1,h2⟩:=l.uncons
  unfold gh at e;split at e
  ·rename_i heq;cases heq
  ·rename_i heq;cases heq;obtain⟨r,hr,rfl⟩:=Option.map_eq_some_iff.mp e
   obtain⟨i1,i2⟩:=lB hK sg hr h2
   refine⟨by simp [i1],fun i v hv=>?_⟩
   cases i with
   |zero=>
    cases hv;simp only [Rep] at h1;obtain⟨q,ws,rfl,tq,lq⟩:=h1
    obtain⟨w,wr,rfl,k1,lq⟩:=lq.uncons
    simp only [Rep] at k1;subst k1;exact⟨q,wr,rfl,by rw [←hK];simpa using aF.tup sg tq.sq⟩
   |succ i=>simpa using i2 i v (by simpa using hv)
  ·cases e
section
variable{Γ:Pg}{X:Cx}{W:Wd}{F:aS}{N:List Str}{sc:Scope}{k:Nat}{H0:Hp}{E:XK}
theorem AF(S:dF Γ F W N sc k E X){m i:Nat}{x y:Str}{params:Arguments}{body:Expr}{scope:Scope}{yp q1 q2 q3 q4 q5 pos:Pos}(h1:N[m]?=some y)(h2:di sc y=true)(h3:N[i]?=some x)(h4:sc.names.lookup x=some .cell)(h5:ic sc "min"=true)(h6:Γ.bs.contains "min"=true)(h7:Γ.hl=true)
 (h8:sA x params body scope=true):GS X W F H0 E (.minK m i) (.Assign [.Name y yp] (.Call (.Name "min" q1) [.Name x q2] [⟨some "key",.Lambda params body scope q3,q4⟩] q5) pos):=by
 obtain⟨a1,a2,a3⟩:=df S h1 h2
 obtain⟨p,ep,L,hfr,hox⟩:=wm h8
 have pe:PE X (.Call (.Name "min" q1) [.Name x q2] [⟨some "key",.Lambda params body scope q3,q4⟩] q5) (fun σ H Q=>∃G env ks ps cs ix kk,SR W H0 env σ G H∧env[i]?=some (.own (.dct ks ps))∧gh ps=some cs∧x5 cs=some ix∧ks[ix]?=some kk∧∀v G' H',aJ W G H G' H'→Rep W G' (ag kk) v→Q v H'):=by
  intro pins s σ H Q I hq;obtain⟨G,env,ks,ps,cs,ix,kk,sr,e1,e2,e3,e4,q⟩:=hq
  obtain⟨d,us,hs,n,k1,k2,k3,l⟩:=gJ sr e1
  obtain⟨c,dB⟩:=I.ok.has x (.inl (by show X.env.scope.names.lookup x=_;rw [S.C.hsc];exact h4))
  have BY:closureFor scope X.env=pure [(x,c)]:=by
   rw [fZ fun y hy hf=>?_]
   ·show pure (bz X.env (bh scope))=_
    rw [hfr];simp [bz,dB]
   ·have:y.1∈bh scope:=by
     unfold bh;rw [List.mem_reverse,List.mem_map];exact⟨y,List.mem_filter.mpr ⟨hy,by rw [hf];rfl⟩,rfl⟩
    rw [hfr] at this;rw [List.mem_singleton.mp this];exact⟨c,dB⟩
  refine wpAny_Call_Name_kw (e9 I (eU S.C h5) (S.C.bs _ (List.contains_iff_mem.mp h6)) (u:=.builtin "min") (by decide+kernel) ?_);refine PyProof.Rows.callWith_kw ?_;refine Calls.spliced_cons (bL (dR (i:=i) (by rw [S.C.hN];exact h3) (.inr (.inl (by show X.env.scope.names.lookup x=_;rw [S.C.hsc];exact h4))) (cV hox).1 (cV hox).2.1 pins s σ H (fun v' H1=>v'=.ref d∧H1=H) I ⟨_,hs,rfl,rfl⟩) fun u s1 hu=>Calls.spliced_nil ?_)
  obtain⟨v',H1,I1,ru,rfl,rfl⟩:=hu
  cases ru;refine PyProof.Rows.kws_cons (bL (vQ S.C h7 ep BY pins s1 σ H1 (fun v2 H2=>∃f G2,v2=.ref f∧mI X W params body scope [(x,c)] G H1 G2 H2 f) I1 ⟨G,sr.sub,sr.tab,fun f G2 H2 lm=>⟨f,G2,rfl,lm⟩⟩) fun u s2 hu=>PyProof.Rows.kws_nil ?_)
  obtain⟨v2,H2,I2,ru,f,G2,rfl,g2,c',oc,cR,t,er,pm,fo,co,cd,cn⟩:=hu
  cases ru;have eG:=sr.grow g2
  obtain⟨d',us',uT,n',k1',k2',k3',l'⟩:=gJ eG e1
  rw [hs] at uT;cases uT;obtain⟨cl1,cl2⟩:=lB (K:=X.K) S.C.K eG.sub e2 l'
  have M:KM X σ H2 k d f (kz ks us') (fun i=>cs.getD i 0):=by
   refine⟨S.C.room,k1',⟨p,x,params,body,scope,_,c,c',oc,cR,t,pm,er,i,L,dB,I.ok.cab x c (S.C.fl h7 x) dB,eG.sub _ _ fo,eG.sub _ _ co,cd,cn,fun u=>sX ep [u] rfl,by rw [S.C.hN];exact h3,hs,by rw [S.C.hsc];exact h4⟩,fun j kx v e=>?_⟩
   have:us'[j]?=some v:=by
    unfold kz at e;rw [List.getElem?_zip_eq_some] at e;exact e.2
   exact cl2 j v this
  obtain⟨mm,zM,Hz⟩:=AN e3
  have JJ:ix<ks.length:=(List.getElem?_eq_some_iff.mp e4).1
  have MO:cs.length=ks.length:=by rw [cl1,←l'.length,n']
  refine vc M (by rw [fT n'];omega) I2 fun j kx v b e hb best=>?_
  rw [fT n'] at best;have hj:j<ks.length:=by
   have:=(List.getElem?_eq_some_iff.mp e).1
   rw [fT n'] at this;exact this
  have ej:j=ix:=by
   have ca:∀a,a<cs.length→cs[a]?=some (cs.getD a 0):=fun a ha=>by simp [ha]
   have b1:=best ix JJ
   have b2:=Hz j _ (ca j (by omega))
   have em:mm=cs.getD ix 0:=by rw [ca ix (by omega)] at zM;exact(Option.some.inj zM).symm
   rw [em] at b2;rcases Nat.lt_trichotomy j ix with z|z|z
   ·have:=b2.2 z;have:=b1.1;omega
   ·exact z
   ·have:=b1.2 z;have:=b2.1;omega
  subst ej;have ek:kx=ki kk:=by
   have:=congrArg (fun l=>l[j]?) (tD (us:=us') n')
   simp only [List.getElem?_map,e,e4,Option.map_some] at this;exact Option.some.inj this
  rw [ek,qW] at hb;obtain⟨G3,g3,l3⟩:=ik (W:=W) (vs:=[.ref b]) (nss:=[kk]) eG.sub (.cons ⟨b,rfl,hb⟩ .nil)
  obtain⟨w,r,ew,hw,_⟩:=l3.uncons
  cases ew;exact q _ _ _ (g2.trans g3) hw
 refine L2.PS.imp (hW a1 a2 a3 pe rfl (.inl (S.fn y))) fun D σ H hq=>?_
 obtain⟨G,env,sr,o⟩:=hq
 rw [aK] at o;split at o
 ·rename_i ks ps hx;split at o
  ·rename_i cs hcs;split at o
   ·rename_i kk Dk;obtain⟨ix,hix,I0⟩:=Option.bind_eq_some_iff.mp Dk
    exact⟨G,env,ks,ps,cs,ix,kk,sr,hx,hcs,hix,I0,fun v G' H' g' rp=>o _ G' _ ((sr.grow g').set m rp) (sr.on g')⟩
   ·exact o.elim
  ·exact o.elim
 ·exact o.elim
end
end Ci
namespace Ci
open PySem L2
section
variable{Γ:Pg}{X:Cx}{W:Wd}{F:aS}{N:List Str}{sc:Scope}{k:Nat}{H0:Hp}{E:XK}
theorem zj{kk:Nat}{aW:List Nat}{tg:Tg}{it:I}{elt:Ci.E}:∀env q,ay F (.comp kk aW tg it elt) env=.ok q→∃xs,q=.lst xs:=fun env q e=>by
 rw [ay] at e;obtain⟨ps,_,e⟩:=Res.bind_ok e
 split at e
 ·obtain⟨ys,_,e⟩:=Res.bind_ok e
  cases e;exact⟨_,rfl⟩
 ·cases e
theorem ub{kk:Nat}{aW:List Nat}{tg:Tg}{it:I}{c elt:Ci.E}:∀env q,ay F (.compIf kk aW tg it c elt) env=.ok q→∃xs,q=.lst xs:=fun env q e=>by
 rw [ay] at e;obtain⟨ps,_,e⟩:=Res.bind_ok e
 split at e
 ·obtain⟨ys,_,e⟩:=Res.bind_ok e
  cases e;exact⟨_,rfl⟩
 ·cases e
theorem qf{e:Ci.E}(h:gA e=true):∀env q,ay F e env=.ok q→∃xs,q=.lst xs:=by
 cases e<;>first|(exact absurd h zzf)|exact lst_is|exact zj|exact ub
theorem lx(S:dF Γ F W N sc k E X){i:Nat}{x:Str}{xp pos:Pos}(hx:N[i]?=some x)(zi:di sc x=true):∀(e:Ci.E) (p:Expr),gA e=true→bf Γ N sc e p=true→PS X (.Assign [.Name x xp] p pos) (EU X W F i e)
 |.lst as,p,_,h=>by
  cases p<;>first|(exact absurd h zzf)|skip
  replace h:=aG h
  try simp only [Bool.and_eq_true,decide_eq_true_eq] at h
  exact mG S hx zi (wU h.1.1 h.1.2 (i6 as S.C _ h.2)) rfl
 |.comp kk aW tg it elt,p,_,h=>by
  cases p<;>first|(exact absurd h zzf)|skip
  rename_i dk gens scope ppos
  match gens,h with
  |[⟨cq,en,[],asy⟩],h=>
   replace h:=aG h
   simp only [Bool.and_eq_true] at h;obtain⟨⟨⟨⟨⟨⟨h1,h2⟩,h3⟩,h4⟩,h5⟩,h6⟩,fV⟩:=h
   have fV:=of_decide_eq_true fV
   subst fV;exact xE S hx zi (gE h1) h2 h3 (wD it S.C cq en h4) (gK h4 _) h5 fun Y CY=>(bt elt CY dk h6).ge
  |[],h=>exact absurd h zzf
  |⟨_,_,[],_⟩::_::_,h=>exact absurd h zzf
  |⟨_,_,[_],_⟩::_::_,h=>exact absurd h zzf
  |⟨_,_,_::_::_,_⟩::_::_,h=>exact absurd h zzf
  |[⟨_,_,_::_,_⟩],h=>exact absurd h zzf
 |.compIf kk aW tg it c elt,p,_,h=>by
  cases p<;>first|(exact absurd h zzf)|skip
  rename_i dk gens scope ppos
  match gens,h with
  |[⟨cq,en,[pc],asy⟩],h=>
   replace h:=aG h
   simp only [Bool.and_eq_true] at h;obtain⟨⟨⟨⟨⟨⟨⟨⟨h0,h1⟩,h2⟩,h3⟩,h4⟩,h5⟩,h6⟩,h7⟩,fV⟩:=h
   have fV:=of_decide_eq_true fV
   subst fV;exact qD S hx zi (gE h1) h2 h3 (wD it S.C cq en h4) (gK h4 _) h5 (fun Y CY=>(bt c CY pc h6).gt h0) fun Y CY=>(bt elt CY dk h7).ge
  |[],h=>exact absurd h zzf
  |⟨_,_,[],_⟩::_::_,h=>exact absurd h zzf
  |⟨_,_,[_],_⟩::_::_,h=>exact absurd h zzf
  |⟨_,_,_::_::_,_⟩::_::_,h=>exact absurd h zzf
  |[⟨_,_,[],_⟩],h=>exact absurd h zzf
  |[⟨_,_,_::_::_,_⟩],h=>exact absurd h zzf
 |.var _,_,z,_=>nomatch z
 |.tmp _,_,z,_=>nomatch z
 |.cst _,_,z,_=>nomatch z
 |.glob _ _,_,z,_=>nomatch z
 |.call _ _,_,z,_=>nomatch z
 |.blt _ _,_,z,_=>nomatch z
 |.ty _ _,_,z,_=>nomatch z
 |.bin _ _ _,_,z,_=>nomatch z
 |.cmp _ _ _,_,z,_=>nomatch z
 |.ch _ _ _ _ _,_,z,_=>nomatch z
 |.not _,_,z,_=>nomatch z
 |.neg _,_,z,_=>nomatch z
 |.and _ _,_,z,_=>nomatch z
 |.or _ _,_,z,_=>nomatch z
 |.ite _ _ _,_,z,_=>nomatch z
 |.tup _,_,z,_=>nomatch z
 |.sub _ _,_,z,_=>nomatch z
 |.slice _ _ _,_,z,_=>nomatch z
theorem vf{e:Ci.E}{p:Expr}(h:bf Γ N sc e p=true)(hf:gA e=false):mQ p=true:=by
 cases p<;>first|rfl|(cases e<;>first|(exact absurd h zzf)|(rename_i q;cases q<;>exact absurd h zzf)|(cases hf;done))
theorem uI(S:dF Γ F W N sc k E X){i:Nat}{x:Str}{e:Ci.E}{p:Expr}{xp pos:Pos}(h:N[i]?=some x)(hl:di sc x=true)(c8:fH e=true)(hc:bf Γ N sc e p=true):GS X W F H0 E (.set i e) (.Assign [.Name x xp] p pos):=by
 cases hf:gA e with
 |true=>exact zG S (qf hf) c8 (lx S h hl e p hf hc)
 |false=>exact DM S h hl c8 (bt e S.C p hc).ge (nU (vf hc hf))
theorem wc(S:dF Γ F W N sc k E X)(e:Ci.E)(p:Stmt)(h:dS Γ N sc (.expr e) p=true):GS X W F H0 E (.expr e) p:=by
 cases p<;>first|(exact absurd h zzf)|skip
 replace h:=aG h
 try simp only [Bool.and_eq_true] at h
 exact Au S (bt e S.C _ h.2).ge h.1
theorem Bd(S:dF Γ F W N sc k E X)(i:Nat)(e:Ci.E)(p:Stmt)(h:dS Γ N sc (.set i e) p=true):GS X W F H0 E (.set i e) p:=by
 cases p<;>first|(exact absurd h zzf)|skip
 replace h:=bI h
 simp only [Option.any_eq_true,Bool.and_eq_true,beq_iff_eq] at h;obtain⟨x,h0,h1⟩:=h
 obtain⟨xp,rfl⟩:=ie h0
 exact uI S h1.1.1.1 h1.1.1.2 h1.1.2 h1.2
theorem zy(S:dF Γ F W N sc k E X)(i:Nat)(e:Ci.E)(p:Stmt)(h:dS Γ N sc (.own i e) p=true):GS X W F H0 E (.own i e) p:=by
 cases p<;>first|(exact absurd h zzf)|skip
 replace h:=bI h
 simp only [Option.any_eq_true,Bool.and_eq_true,beq_iff_eq] at h;obtain⟨x,h0,h⟩:=h
 obtain⟨xp,rfl⟩:=ie h0
 exact zF S h.1.1.1 (qf h.1.2) (lx S h.1.1.1 h.1.1.2 e _ h.1.2 h.2)
theorem zW(S:dF Γ F W N sc k E X)(i:Nat)(p:Stmt)(h:dS Γ N sc (.frz i) p=true):GS X W F H0 E (.frz i) p:=by
 cases p<;>exact absurd h zzf
theorem zg(S:dF Γ F W N sc k E X)(i:Nat)(e:Ci.E)(p:Stmt)(h:dS Γ N sc (.app i e) p=true):GS X W F H0 E (.app i e) p:=by
 cases p<;>first|(exact absurd h zzf)|skip
 replace h:=bI h
 simp only [Option.any_eq_true,Bool.and_eq_true,beq_iff_eq] at h;obtain⟨⟨x,m,args⟩,h0,⟨⟨⟨⟨h1,h2⟩,h3⟩,h4⟩,h5⟩,q,h6,h7⟩:=h
 obtain⟨np,apos,bw,rfl,hl⟩:=n6 h0
 cases nK h6;cases h4;exact CJ S h1 h2 h3 hl h5 (bt e S.C q h7).ge (notStar h7)
theorem yh(S:dF Γ F W N sc k E X)(i:Nat)(e:Ci.E)(p:Stmt)(h:dS Γ N sc (.extd i e) p=true):GS X W F H0 E (.extd i e) p:=by
 cases p<;>first|(exact absurd h zzf)|skip
 replace h:=bI h
 simp only [Option.any_eq_true,Bool.and_eq_true,beq_iff_eq] at h;obtain⟨⟨x,m,args⟩,h0,⟨⟨⟨h1,h2⟩,h3⟩,h4⟩,q,h6,h7⟩:=h
 obtain⟨np,apos,bw,rfl,hl⟩:=n6 h0
 cases nK h6;cases h4;exact Ba S h1 h2 h3 hl (bt e S.C q h7).ge (notStar h7)
theorem za(S:dF Γ F W N sc k E X)(i:Nat)(kk e:Ci.E)(p:Stmt)(h:dS Γ N sc (.put i kk e) p=true):GS X W F H0 E (.put i kk e) p:=by
 cases p<;>first|(exact absurd h zzf)|skip
 replace h:=bI h
 simp only [Option.any_eq_true,Bool.and_eq_true,beq_iff_eq] at h;obtain⟨⟨x,pk⟩,h0,⟨⟨⟨⟨h1,h2⟩,h3⟩,h5⟩,h6⟩,h7⟩:=h
 obtain⟨np,sp,rfl⟩:=xU h0
 exact C6 S h1 h2 h3 h5 h6 (bt kk S.C pk h6).ge (bt e S.C _ h7).ge
theorem xi(S:dF Γ F W N sc k E X)(i:Nat)(p:Stmt)(h:dS Γ N sc (.dnew i) p=true):GS X W F H0 E (.dnew i) p:=by
 cases p<;>first|(exact absurd h zzf)|skip
 rename_i ts v pos;cases v<;>first|(exact absurd h zzf)|skip
 rename_i ks vs dp;cases ks<;>first|(exact absurd h zzf)|skip
 cases vs<;>first|(exact absurd h zzf)|skip
 replace h:=bI h
 simp only [Option.any_eq_true,Bool.and_eq_true,beq_iff_eq] at h;obtain⟨x,h0,h1,h2⟩:=h
 obtain⟨yp,rfl⟩:=ie h0
 exact yH S h1 h2
theorem uy(S:dF Γ F W N sc k E X)(i n:Nat)(b:Bool)(p:Stmt)(h:dS Γ N sc (.dnew1 i n b) p=true):GS X W F H0 E (.dnew1 i n b) p:=by
 cases p<;>first|(exact absurd h zzf)|skip
 rename_i ts v pos;cases v<;>first|(exact absurd h zzf)|skip
 rename_i ks vs dp;cases ks with
 |nil=>exact absurd h zzf
 |cons ke ks=>
  cases ke with
  |none=>exact absurd h zzf
  |some ke=>
   cases ks with
   |cons _ _=>exact absurd h zzf
   |nil=>
    cases vs with
    |nil=>exact absurd h zzf
    |cons ve vs=>
     cases ve with
     |Constant c j cp=>
      cases c with
      |bool c=>
       cases vs with
       |cons _ _=>exact absurd h zzf
       |nil=>
        replace h:=bI h
        simp only [Option.any_eq_true,Bool.and_eq_true,beq_iff_eq] at h;obtain⟨x,h0,z,hz,⟨⟨⟨⟨h1,h2⟩,h3⟩,h4⟩,h5⟩,h6⟩:=h
        obtain⟨yp,rfl⟩:=ie h0
        obtain⟨zp,rfl⟩:=mS hz
        subst h6;exact wb S h1 h2 h3 h4 h5
      |_=>exact absurd h zzf
     |_=>exact absurd h zzf
theorem qN(S:dF Γ F W N sc k E X)(i j n:Nat)(p:Stmt)(h:dS Γ N sc (.putPop i j n) p=true):GS X W F H0 E (.putPop i j n) p:=by
 cases p<;>first|(exact absurd h zzf)|skip
 replace h:=bI h
 simp only [Option.any_eq_true,Bool.and_eq_true,beq_iff_eq] at h;obtain⟨⟨x,pk⟩,h0,z,hz,⟨⟨⟨⟨⟨h1,h2⟩,h3⟩,h4⟩,h5⟩,h6⟩,⟨y,m,args⟩,h7,h8,e,he,z2,hz2,⟨⟨h9,h10⟩,h11⟩,h12⟩:=h
 obtain⟨np,sp,rfl⟩:=xU h0
 obtain⟨zp,rfl⟩:=mS hz
 obtain⟨yp,apos,bw,rfl,hl⟩:=n6 h7
 cases h8;cases nK he;obtain⟨KI,rfl⟩:=mS hz2
 subst h9;exact uo S h1 h2 h3 h4 h5 h6 h10 h11 h12 hl
theorem wY(S:dF Γ F W N sc k E X)(m i:Nat)(p:Stmt)(h:dS Γ N sc (.minK m i) p=true):GS X W F H0 E (.minK m i) p:=by
 cases p<;>first|(exact absurd h zzf)|skip
 replace h:=bI h
 simp only [Option.any_eq_true,Bool.and_eq_true,beq_iff_eq] at h;obtain⟨y,hy,c,hc,⟨⟨⟨⟨⟨⟨h1,h2⟩,h3⟩,h4⟩,h5⟩,h6⟩,h7⟩,h8⟩:=h
 obtain⟨yp,rfl⟩:=ie hy
 obtain⟨q1,q2,q3,q4,q5,rfl⟩:=Ef hc
 exact AF S h1 h2 h3 h4 h5 h6 h7 h8
theorem A5(S:dF Γ F W N sc k E X)(j i:Nat)(p:Stmt)(h:dS Γ N sc (.pop j i) p=true):GS X W F H0 E (.pop j i) p:=by
 cases p<;>first|(exact absurd h zzf)|skip
 replace h:=bI h
 simp only [Option.any_eq_true,Bool.and_eq_true,beq_iff_eq] at h;obtain⟨y,hy,⟨x,m,args⟩,h0,⟨⟨⟨⟨⟨h1,h2⟩,h3⟩,h4⟩,h5⟩,h6⟩,h7⟩:=h
 obtain⟨yp,rfl⟩:=ie hy
 obtain⟨np,apos,bw,rfl,hl⟩:=n6 h0
 cases List.isEmpty_iff.mp h5;cases h4;exact Eu S h1 h2 h3 hl h6 h7
theorem yO(S:dF Γ F W N sc k E X)(e:Ci.E)(p:Stmt)(h:dS Γ N sc (.ret e) p=true):GS X W F H0 E (.ret e) p:=by
 cases p<;>first|(exact absurd h zzf)|skip
 rename_i v pos;cases v with
 |none=>exact absurd h zzf
 |some v=>
  replace h:=aG h
  try simp only [Bool.and_eq_true] at h
  exact Cr S h.1 (bt e S.C v h.2).ge
theorem vm(S:dF Γ F W N sc k E X)(c m:Str)(p:Stmt)(h:dS Γ N sc (.raise c m) p=true):GS X W F H0 E (.raise c m) p:=by
 cases p<;>first|(exact absurd h zzf)|skip
 replace h:=aG h
 simp only [Option.any_eq_true,Bool.and_eq_true,beq_iff_eq] at h;obtain⟨hn,⟨x,z⟩,h0,⟨⟨⟨h1,h2⟩,h3⟩,h4⟩,h5⟩:=h
 obtain⟨np,j,zp,cp,rfl⟩:=D5 h0
 cases h1;cases h2;rename_i fr pos;cases Option.isNone_iff_eq_none.mp hn;exact xb S h3 h4 h5
theorem yG{c:Ci.E}{a b:Ss}{p:Stmt}(h:dS Γ N sc (.ite c a b) p=true):∃q pa pb pos,p=.If q pa pb pos∧dI c=true∧bf Γ N sc c q=true∧cW Γ N sc a pa=true∧cW Γ N sc b pb=true:=by
 cases p<;>first|(exact absurd h zzf)|skip
 replace h:=aG h
 try simp only [Bool.and_eq_true] at h
 exact⟨_,_,_,_,rfl,h.1.1.1,h.1.1.2,h.1.2,h.2⟩
theorem A8{tg:Tg}{it:I}{b:Ss}{p:Stmt}(h:dS Γ N sc (.for_ tg it b) p=true):∃cq en pb pos,p=.For cq en pb [] pos∧eZ N sc (fun _=>true) tg cq=true∧Ar it=true∧vk Γ N sc cq it en=true∧cW Γ N sc b pb=true:=by
 cases p<;>first|(exact absurd h zzf)|skip
 replace h:=aG h
 try simp only [Bool.and_eq_true] at h
 cases List.isEmpty_iff.mp h.1.1.1.1;exact⟨_,_,_,_,rfl,h.1.1.1.2,h.1.1.2,h.1.2,h.2⟩
theorem Ap{c:Ci.E}{b:Ss}{p:Stmt}(h:dS Γ N sc (.whl c b) p=true):∃q pb pos,p=.While q pb [] pos∧dI c=true∧bf Γ N sc c q=true∧cW Γ N sc b pb=true:=by
 cases p<;>first|(exact absurd h zzf)|skip
 replace h:=aG h
 try simp only [Bool.and_eq_true] at h
 cases List.isEmpty_iff.mp h.1.1.1;exact⟨_,_,_,rfl,h.1.1.2,h.1.2,h.2⟩
theorem Ah{ps:List Stmt}(h:cW Γ N sc .nil ps=true):ps=[]:=by
 cases ps with
 |nil=>rfl
 |cons _ _=>exact absurd h zzf
theorem xZ{s:Ci.S}{ss:Ss}{ps:List Stmt}(h:cW Γ N sc (.cons s ss) ps=true):(∃i,s=.frz i∧cW Γ N sc ss ps=true)∨∃q qs,ps=q::qs∧dS Γ N sc s q=true∧cW Γ N sc ss qs=true:=by
 by_cases hz:∃i,s=.frz i
 ·obtain⟨i,rfl⟩:=hz
  exact .inl ⟨i,rfl,h⟩
 ·cases ps with
  |nil=>cases s<;>first|(exact absurd ⟨_,rfl⟩ hz)|(exact absurd h zzf)
  |cons p ps=>
   have h2:(dS Γ N sc s p&&cW Γ N sc ss ps)=true:=by
    cases s<;>first|(exact absurd ⟨_,rfl⟩ hz)|(exact h)
   rw [Bool.and_eq_true] at h2;exact .inr ⟨p,ps,rfl,h2.1,h2.2⟩
mutual
theorem IE(S:dF Γ F W N sc k E X):∀(s:Ci.S) (p:Stmt),dS Γ N sc s p=true→GS X W F H0 E s p
 |.expr e,p,h=>wc S e p h
 |.set i e,p,h=>Bd S i e p h
 |.own i e,p,h=>zy S i e p h
 |.frz i,p,h=>zW S i p h
 |.app i e,p,h=>zg S i e p h
 |.extd i e,p,h=>yh S i e p h
 |.put i kk e,p,h=>za S i kk e p h
 |.pop j i,p,h=>A5 S j i p h
 |.dnew i,p,h=>xi S i p h
 |.dnew1 i n b,p,h=>uy S i n b p h
 |.putPop i j n,p,h=>qN S i j n p h
 |.minK m i,p,h=>wY S m i p h
 |.ret e,p,h=>yO S e p h
 |.ite c a b,p,h=>by
  obtain⟨q,pa,pb,pos,rfl,h1,h2,h3,h4⟩:=yG h
  exact EI S ((bt c S.C _ h2).gt h1) (jl S a _ h3) (jl S b _ h4)
 |.for_ tg it b,p,h=>by
  obtain⟨cq,en,pb,pos,rfl,h1,h2,h3,h4⟩:=A8 h
  exact Cy S h1 h2 (wD it S.C cq en h3) (gK h3 _) (jl S b _ h4)
 |.whl c b,p,h=>by
  obtain⟨q,pb,pos,rfl,h1,h2,h3⟩:=Ap h
  exact Ca S ((bt c S.C _ h2).gt h1) (jl S b _ h3)
 |.raise c m,p,h=>vm S c m p h
theorem jl(S:dF Γ F W N sc k E X):∀(ss:Ss) (ps:List Stmt),cW Γ N sc ss ps=true→yA X W F H0 E ss ps
 |.nil,ps,h=>by
  cases Ah h;exact AR
 |.cons s ss,ps,h=>by
  rcases xZ h with⟨i,e,h2⟩|⟨q,qs,e,h1,h2⟩
  ·have:=yY (i:=i) (jl S ss ps h2)
   rw [←e] at this;exact this
  ·rw [e];exact xt (IE S s q h1) (jl S ss qs h2)
end
end
end Ci
namespace L2
open PySem PySem.Spec PyProof.Rows
theorem xI{K:PySem.W.Frag}{C:Addr}{T:String}{b:Bool}(h1:PySem.W.kitMeta T=true)(h3:PySem.W.subIn K (.ref C) (.type T)=some b):PySem.W.kitOne K (.ref C) (.type T)=some b:=by
 unfold PySem.W.kitOne;split
 ·rename_i e;cases beq_iff_eq.mp e
 ·show(if PySem.W.kitMeta T=true then PySem.W.subIn K (.ref C) (.type T) else none)=some b
  rw [if_pos h1];exact h3
theorem Ez{K:PySem.W.Frag}{h:Heap}{mg:Str→Option Value}{x:Str}{C:Addr}{LK:List Value}{newId:String}(X:K.In h)(hm:mg x=some (.ref C))(q:PySem.W.excIn K C LK newId=true):OwnCls x C LK newId mg h:=by
 constructor
 ·exact hm
 ·unfold PySem.W.excIn at q;split at q
  ·rename_i dd cd sl ho;split at q
   ·rename_i C1 bm1 k0 k1 k2 k3 n1 k5 zM BW;simp only [Bool.and_eq_true,beq_iff_eq,Bool.not_eq_true'] at q;obtain⟨⟨⟨⟨⟨q1,q2⟩,q3⟩,q4⟩,q5⟩,q6⟩:=q
    subst q1 q2;obtain⟨nm,bs,mro,ns,qn,hd,sn,sub,ab,col,del⟩:=cd
    have Hz:mro=.ref C1::bm1:=zM
    have hd2:del=false:=q3
    have KA:PySem.W.nsOkIn K ns=true:=q5
    have NB:PySem.W.nsIn K ns "__init__"=some none:=q6
    subst Hz hd2;obtain⟨ls⟩:=sl
    have sW:ls=[k0,k1,k2,k3,some (.builtin n1),k5]:=BW
    subst sW;exact⟨bm1,ns,nm,qn,bs,hd,sn,sub,ab,col,dd,k0,k1,k2,k3,k5,_,X _ _ ho,.of_isNs (PySem.W.isNs_of_in X KA),PySem.W.nsMap_none_of_in X KA NB,PySem.W.tail_of_in X q4⟩
   ·cases q
  ·cases q
end L2
namespace Ci
open PySem L2
abbrev wO:List Value:=[.type "ValueError",.type "Exception",.type "BaseException",.type "object"]
structure rf(K:PySem.W.Frag)(mg:Str→Option Value)(Γ:Pg)(W:Wd):Prop where
 hK:W.K=K
 hm:W.mg=mg
 gs:∀q∈Γ.gs,∃u v,mg q.1=some u∧RelV v u∧∀G,Rep W G q.2 v
 bs:∀g∈Γ.bs,mg g=none
 nov:Γ.cs.contains "ValueError"=false
 cls:∀c∈Γ.cs,∃C,mg c=some (.ref C)
 xc:∀d∈W.xs,∀D,mg d=some (.ref D)→CP K D∧(∀c∈Γ.cs,∀C,mg c=some (.ref C)→PySem.W.kitOne K (.ref D) (.ref C)=some (c==d||c=="FloorError"))∧PySem.W.kitOne K (.ref D) (.type "ValueError")=some true
 xs:∀c,Γ.rs.contains c=true→c∈W.xs
 rm:∀c,Γ.rs.contains c=true→∃C,mg c=some (.ref C)∧PySem.W.excIn K C wO "ValueError.__new__"=true
 exm:Γ.cs.contains "FloorError"=true→∀c D,c∈W.xs→mg c=some (.ref D)→∀T,mg "FloorError"=some (.ref T)→PySem.W.exmOne K (.ref D) (.ref T)=some true
 bm:W.ts≠[]→∃bm o,mg "__builtins__"=some (.ref bm)∧bm≠builtinsNs∧bm≠mainGlobals∧K.lookup bm=some o∧o.cls=.type "module"∧o.dict=some builtinsNs∧o.data=.plain
structure Row where
 f:Str
 h:Str
 d:Def
 st:Stmt
 hl:Bool:=false
abbrev dP:Type:=List Row
def kD(l:dP):List Str:=l.filterMap fun r=>if r.d.clo.isNone then some r.f else none
def uK(l:dP):List Hs:=l.filterMap fun r=>r.d.clo.map fun q=>⟨r.f,r.h,q.1,q.2,r.d.np⟩
def tab(l:dP):List (Str×Def):=l.map fun q=>(q.f,q.d)
noncomputable def Pg.at(Γ:Pg)(l:dP)(hl:Bool):Pg:={Γ with fs:=kD l,hs:=uK l,hl:=hl}
structure cu(Γ:Pg)(n:Str)(d:Def)(st:Stmt):Prop where
 sc:iS d.N (d.N.take d.np) (defScope st)
 np:d.np≤d.N.length
 bind:∀(kV doc pm:Value) (an:Option Addr) (eA ct:Value) (us:List Value),us.length=(d.N.take d.np).length→bindArgs (PySem.W.fnOf n n (defArgs st) (defBody st) (defScope st) .none kV doc pm an eA ct) ⟨us,[]⟩=pure ((d.N.take d.np).zip us)
 chk:cW Γ d.N (defScope st) d.body (defBody st)=true
theorem stM{Γ:Pg}{n:Str}{d:Def}{st:Stmt}(b:∀(kV doc pm:Value) (an:Option Addr) (eA ct:Value) (us:List Value),us.length=(d.N.take d.np).length→bindArgs (PySem.W.fnOf n n (defArgs st) (defBody st) (defScope st) .none kV doc pm an eA ct) ⟨us,[]⟩=pure ((d.N.take d.np).zip us))
 (a1:(defScope st).kind=.function:=by rfl) (a2:(defScope st).isCoroutine=false:=by rfl) (a3:(defScope st).isGenerator=false:=by rfl) (a4:d.N.Nodup:=by decide+kernel) (a5:d.N.take (d.N.take d.np).length=d.N.take d.np:=by rfl)
 (a6:∀x∈d.N.take d.np,(defScope st).names.lookup x=some .local∨(defScope st).names.lookup x=some .cell:=by decide+kernel) (a7:∀y∈(defScope st).names,y.2≠.free:=by decide+kernel) (a8:d.np≤d.N.length:=by decide+kernel) (a9:cW Γ d.N (defScope st) d.body (defBody st)=true:=by decide+kernel):cu Γ n d st:=⟨⟨a1,a2,a3,a4,a5,a6,a7⟩,a8,b,a9⟩
def CodeK(K:PySem.W.Frag)(c P:Addr):Prop:=∃o vs file tf flags tg Jg text tt,K.lookup c=some o∧o.cls=.type "code"∧o.data=.fields vs∧vs[11]?=some (.ref P)∧vs.getD 11 .none=.ref P∧vs.getD 18 .none=.str file tf∧
 vs.getD 7 .none=.int flags tg∧vs.getD 9 .none=.bool Jg∧vs.getD 10 .none=.int text tt∧c≠P
def lamQ(n:Str):Str:=(n++".<locals>.")++"<lambda>"
def EntK(K:PySem.W.Frag)(ts:List (Addr×Str))(hl:Bool)(n:Str)(st:Stmt):Prop:=∃(f:Addr) (oc:Value) (od:Option Addr) (kV doc pm:Value) (an:Option Addr) (eA ct:Value) (qw:Array (Option Value)),
 PySem.W.nsIn K mainGlobals n=some (some (.ref f))∧K.lookup f=some ⟨oc,od,.func (PySem.W.fnOf n n (defArgs st) (defBody st) (defScope st) .none kV doc pm an eA ct),qw⟩∧PySem.W.codeIn K eA n=true∧PySem.W.keepIn K (.ref f)=true∧
 (hl=true→∃c P,eA=.ref c∧CodeK K c P∧(P,lamQ n)∈ts∧∀q',(P,q')∈ts→q'=lamQ n)
theorem entK{K:PySem.W.Frag}{ts:List (Addr×Str)}{n:Str}{st:Stmt}{f:Addr}{oc:Value}{od:Option Addr}{kV doc pm:Value}{an:Option Addr}{eA ct:Value}{qw:Array (Option Value)}(a:PySem.W.nsIn K mainGlobals n=some (some (.ref f)))
 (l:K.lookup f=some ⟨oc,od,.func (PySem.W.fnOf n n (defArgs st) (defBody st) (defScope st) .none kV doc pm an eA ct),qw⟩) (c:PySem.W.codeIn K eA n=true) (k:PySem.W.keepIn K (.ref f)=true):EntK K ts false n st:=⟨f,oc,od,kV,doc,pm,an,eA,ct,qw,a,l,c,k,(fun z=>nomatch z)⟩
structure mC(P:Program)(w:World)(K:PySem.W.Frag)(mg:Str→Option Value)(base:Heap)(W:Wd)(F:aS)(k:Nat)(f:Str):Prop where
 ex:∃fa fd ps,eW P w K mg base (dA P w) k fa fd ps (vq W F f ps.length none)∧mg f=some (.ref fa)∧PySem.W.keepIn K (.ref fa)=true∧Binds K fd ps []∧∀as,F f as≠.bad→as.length=ps.length
structure CS(P:Program)(w:World)(K:PySem.W.Frag)(mg:Str→Option Value)(base:Heap)(W:Wd)(F:aS)(k:Nat)(q:Hs):Prop where
 ex:∃fa fd ps,eW P w K mg base (dA P w) k fa fd ps (vq W F q.f ps.length (some (q.g,q.idx)))∧mg q.h=some (.ref fa)∧PySem.W.keepIn K (.ref fa)=true∧Binds K fd ps []∧ps.length=q.np
section
variable{P:Program}{w:World}{K:PySem.W.Frag}{mg:Str→Option Value}{base:Heap}{Γ:Pg}{W:Wd}
theorem uz{c p:Addr}(KB:K.In base)(h:CodeK K c p):PySem.W.CodeHd base c p:=by
 obtain⟨o,vs,file,tf,flags,tg,Jg,text,tt,e,r⟩:=h
 exact⟨o,vs,file,tf,flags,tg,Jg,text,tt,KB _ _ e,r⟩
theorem Ea(M:rf K mg Γ W)(KB:K.In base){F:aS}{k:Nat}{N ps:List Str}{qual:Str}{sc:Scope}(S:iS N ps sc)(hF:∀f,Γ.fs.contains f=true→mC P w K mg base W F k f)(hH:∀q∈Γ.hs,CS P w K mg base W F k q)(hA:∀g as,F g as≠.bad→Γ.fs.contains g=true∨fY g=true){f:Addr}{cd:Value}
 (hL:Γ.hl=true→∃c p,cd=.ref c∧CodeK K c p∧(p,lamQ qual)∈W.ts∧∀q',(p,q')∈W.ts→q'=lamQ qual) {A:Around} {outer:List Env} {s:Shared} {H:Hp} {E:XK} (hr:dc (k+1) (A.deeper (PyProof.Rows.envOfC qual sc s.heap.objs.size f cd))):
 dF Γ F W N sc k E (dh (dA P w) P w K mg base N qual sc f cd A outer s H E) where
 C:=⟨rfl,rfl,rfl,S.nd,M.hK,M.hm,M.gs,M.bs,hr,fun g hg=>⟨(hF g hg).ex⟩,M.nov,M.cls,M.xc,fun q hq=>⟨(hH q hq).ex⟩,hA,fun z=>by
  obtain⟨c,p,e1,e2,e3,e4⟩:=hL z
  exact⟨c,p,e1,uz KB e2,e3,e4⟩,fun z=>by
  obtain⟨c,p,e1,e2,e3,e4⟩:=hL z
  obtain⟨bm,o,b1,b2,b3,b4,b5⟩:=M.bm (fun y=>by rw [y] at e3;cases e3)
  exact⟨bm,o,b1,b2,b3,KB _ _ b4,b5⟩,fun _ _=>rfl⟩
 fn:=fun _=>rfl
 own:=PassesOwn.leaving
 pass:=Hx
 kind:=S.kind
 stk:=rfl
 frame:=rfl
 xs:=M.xs
 rm:=fun c hc=>let⟨C,h,_⟩:=M.rm c hc;⟨C,h⟩
 rz:=fun c z j np zp cp pos h1 h2 h3=>by
  obtain⟨C,hC,hx⟩:=M.rm c h1
  have hg:Gl (dh (dA P w) P w K mg base N qual sc f cd A outer s H E) c:=beq_iff_eq.mp h2
  refine L2.PS.imp (wj hg (Ez KB hC hx) PySem.F.excBase_ValueError (cH yn dW) rfl rfl (cV h3).1) fun D σ H1 h=>⟨(show 1≤sizeLine by decide),fun e he=>h C e hC he⟩
 exm:=M.exm
theorem pY{H G:Hp}{N:List Str}{as:List PV}{vs:List V}(sg:aF G H)(tb:cy W G H)(l:aq W G as vs)(hn:as.length≤N.length):SR W H (as.map .val++List.replicate (N.length-as.length) .no) (start N vs) G H:=by
 have hl:=l.length
 unfold L2.start;refine⟨by simp;omega,sg,gH.refl _,fun i s e=>?_,fun i j p q a e1 _ _ _=>?_,tb,tb⟩
 ·by_cases hi:i<as.length
  ·rw [List.getElem?_append_left (by simpa using hi),List.getElem?_map] at e;obtain⟨p,hp,rfl⟩:=Option.map_eq_some_iff.mp e
   obtain⟨v,hv,rv⟩:=l.getP hp
   exact⟨some v,by rw [List.getElem?_append_left (by simpa using (show i<vs.length by omega)),List.getElem?_map,hv];rfl,v,rfl,rv⟩
  ·rw [List.getElem?_append_right (by simpa using hi),List.getElem?_replicate] at e;split at e
   ·rename_i h2;cases e;rw [List.length_map] at h2;exact⟨none,by rw [List.getElem?_append_right (by simp;omega),List.getElem?_replicate,if_pos (by rw [List.length_map];omega)],trivial⟩
   ·cases e
 ·exfalso
  by_cases hi:i<as.length
  ·rw [List.getElem?_append_left (by simpa using hi),List.getElem?_map] at e1;obtain⟨p,hp,e⟩:=Option.map_eq_some_iff.mp e1
   cases e
  ·rw [List.getElem?_append_right (by simpa using hi),List.getElem?_replicate] at e1;split at e1<;>cases e1
theorem SR.putFn{H0 G H:Hp}{env:Sl}{σ:St}{g:Str}{idx:List Nat}{cI:List PV}{v:V}(i:Nat)(r:SR W H0 env σ G H)(h:mT W G g idx cI v):SR W H0 (env.set i (.fn g idx cI)) (σ.set i (some v)) G H where
 len:=by simpa using r.len
 sub:=r.sub
 base:=r.base
 tab:=r.tab
 tab0:=r.tab0
 slot:=fun j s e=>by
  by_cases hj:i=j
  ·subst hj;have cm:i<env.length:=by
    have:=(List.getElem?_eq_some_iff.mp e).1
    simpa using this
   rw [List.getElem?_set_self cm] at e;cases e;exact⟨some v,List.getElem?_set_self (by rw [←r.len];exact cm),v,rfl,h⟩
  ·rw [List.getElem?_set_ne hj] at e;obtain⟨o,h1,h2⟩:=r.slot j s e
   exact⟨o,by rw [List.getElem?_set_ne hj];exact h1,h2⟩
 apart:=fun a b q q' ad e1 e2 e3 e4=>by
  have ne:∀{c:Nat} {q:PV},(env.set i (.fn g idx cI))[c]?=some (.own q)→i≠c:=fun{c q} e z=>by
   subst z;have cm:i<env.length:=by
    have:=(List.getElem?_eq_some_iff.mp e).1
    simpa using this
   rw [List.getElem?_set_self cm] at e;cases e
  have n1:=ne e1
  have n2:=ne e2
  rw [List.getElem?_set_ne n1] at e1 e3;rw [List.getElem?_set_ne n2] at e2 e4;exact r.apart a b q q' ad e1 e2 e3 e4
theorem sj{α:Type}{l r:List α}{a b:α}:(l++a::r).set l.length b=l++b::r:=by
 rw [List.set_append_right _ _ (Nat.le_refl _),Nat.sub_self];rfl
theorem ue{d:Def}{H G:Hp}{as:List PV}{vs:List V}(JX:d.np≤d.N.length)(sg:aF G H)(tb:cy W G H)(l:vX W G d.clo as vs)(hv:vs.length=d.np):ae d as=true∧SR W H (aa d as) (start d.N vs) G H:=by
 unfold ae aa;cases hc:d.clo with
 |none=>
  rw [hc] at l;have l:aq W G as vs:=l
  exact⟨by rw [←l.length,hv];simp,pY sg tb l (by rw [←l.length,hv];exact JX)⟩
 |some q=>
  rw [hc] at l;obtain⟨ua,cI,rL,v,rfl,rfl,l1,cr⟩:=l
  have MW:=l1.length
  have hn:rL.length=d.np-1∧0<d.np:=by rw [List.length_append] at hv;simp at hv;omega
  have ha:ua.length=d.np-1:=by omega
  refine⟨by simp;omega,?_⟩;have h0:=pY (N:=d.N) sg tb l1 (by omega)
  have h1:=h0.putFn ua.length cr
  have e1:(ua.map Slot.val++List.replicate (d.N.length-ua.length) Slot.no).set ua.length (.fn q.1 q.2 cI)=((ua++cI).take (d.np-1)).map .val++.fn q.1 q.2 ((ua++cI).drop (d.np-1))::List.replicate (d.N.length-d.np) Slot.no:=by
   rw [←ha,List.take_left',List.drop_left',show d.N.length-ua.length=(d.N.length-d.np)+1 by omega,List.replicate_succ]
   ·have:=sj (l:=ua.map Slot.val) (r:=List.replicate (d.N.length-d.np) Slot.no) (a:=Slot.no) (b:=.fn q.1 q.2 cI)
    rw [List.length_map] at this;exact this
   ·rfl
   ·rfl
  have e2:(start d.N rL).set ua.length (some v)=start d.N (rL++[v]):=by
   unfold L2.start;rw [List.length_append,List.length_singleton,show d.N.length-rL.length=(d.N.length-(rL.length+1))+1 by omega,List.replicate_succ,←MW];have:=sj (l:=rL.map some) (r:=List.replicate (d.N.length-(rL.length+1)) none) (a:=none) (b:=some v)
   rw [List.length_map] at this;rw [this];simp
  rw [e1,e2] at h1;exact h1
theorem Bz(M:rf K mg Γ W)(KB:K.In base){F:aS}{k:Nat}{n nf:Str}{d:Def}{st:Stmt}{fa:Addr}{fd:FuncData}(St:cu Γ n d st)(Fu:Ih K n n st fa fd)(hF:∀f,Γ.fs.contains f=true→mC P w K mg base W F k f)(hH:∀q∈Γ.hs,CS P w K mg base W F k q)(hA:∀g as,F g as≠.bad→Γ.fs.contains g=true∨fY g=true)
 (hL:Γ.hl=true→∃c p,fd.code=.ref c∧CodeK K c p∧(p,lamQ n)∈W.ts∧∀q',(p,q')∈W.ts→q'=lamQ n):
 eW P w K mg base (dA P w) (k+2) fa fd (d.N.take d.np) (vq W (fun _ as=>af F d as) nf (d.N.take d.np).length d.clo):=by
 have hlen:(d.N.take d.np).length=d.np:=by rw [List.length_take];have:=St.np;omega
 obtain⟨oc,od,kV,doc,pm,an,eA,ct,qw,rfl,lk,qq⟩:=Fu.ex
 refine HG lk qq St.sc (fun vs H Q E h=>h.1) fun A outer s H vs Q E hr h=>?_
 obtain⟨hl,G,as,sg,tb,l,o⟩:=h
 rw [hlen] at hl;obtain⟨ar,sr⟩:=ue St.np sg tb l hl
 refine⟨LC W F H E d.body,jl (Ea M KB St.sc hF hH hA hL hr) d.body _ St.chk,G,aa d as,sr,?_⟩;dsimp only at o;unfold af at o;rw [if_pos ar] at o;cases r:ai F d.body (aa d as) with
 |bad=>rw [r] at o;exact o
 |exc c=>rw [r] at o;exact o
 |ok fl=>
  rw [r] at o;cases fl with
  |nx env=>exact fun σ' G' H' sr g=>o .non G' H' g .n
  |rt p=>exact fun v G' H' rv g=>o v G' H' g rv
  |bk env=>exact o.elim
  |ct env=>exact o.elim
def AllK(K:PySem.W.Frag)(ts:List (Addr×Str))(Γ:Pg):dP→Prop
 |[]=>True
 |r::l=>EntK K ts r.hl r.h r.st∧cu (Γ.at l r.hl) r.h r.d r.st∧((l.map (·.f)).contains r.f=false∧(r.d.clo.isNone==!fY r.f)=true∧(r.d.clo.isNone=true→r.f=r.h))∧AllK K ts Γ l
theorem rZ(M:rf K mg Γ W)(l:dP)(hl:Bool):rf K mg (Γ.at l hl) W:=⟨M.hK,M.hm,M.gs,M.bs,M.nov,M.cls,M.xc,M.xs,M.rm,M.exm,M.bm⟩
theorem mC.mono{F:aS}{j k:Nat}{f:Str}(h:mC P w K mg base W F j f)(hk:j≤k):mC P w K mg base W F k f:=by
 obtain⟨fa,fd,ps,h1,h2⟩:=h.ex
 exact⟨fa,fd,ps,h1.mono hk,h2⟩
theorem jv{F F':aS}{f f':Str}{n:Nat}{q:Option (Str×List Nat)}(e:∀as,F' f' as=F f as):vq W F' f' n q=vq W F f n q:=by
 funext vs H Q E
 unfold vq;simp only [e]
theorem mC.swap{F F':aS}{k:Nat}{f:Str}(h:mC P w K mg base W F k f)(e:∀as,F' f as=F f as):mC P w K mg base W F' k f:=by
 obtain⟨fa,fd,ps,h1,h2,h3,h4,h5⟩:=h.ex
 refine⟨fa,fd,ps,?_,h2,h3,h4,fun as hn=>h5 as (by rw [←e];exact hn)⟩
 rw [jv e];exact h1
theorem CS.swap{F F':aS}{j k:Nat}{q:Hs}(h:CS P w K mg base W F j q)(hk:j≤k)(e:∀as,F' q.f as=F q.f as):CS P w K mg base W F' k q:=by
 obtain⟨fa,fd,ps,h1,h2,h3,h4,h5⟩:=h.ex
 refine⟨fa,fd,ps,?_,h2,h3,h4,h5⟩;rw [jv e];exact h1.mono hk
theorem js{r:Row}{l:dP}{g:Str}(h:(g==r.f)=false)(as:List PV):den (tab (r::l)) g as=den (tab l) g as:=by
 show(if(g==r.f)=true then _ else _)=_
 rw [h]
 rfl
theorem qj{r:Row}{l:dP}(as:List PV):den (tab (r::l)) r.f as=af (den (tab l)) r.d as:=by
 show(if(r.f==r.f)=true then _ else _)=_
 rw [beq_self_eq_true]
 rfl
theorem nD:∀(l:dP) {ts:List (Addr×Str)},AllK K ts Γ l→∀g as,den (tab l) g as≠.bad→(kD l).contains g=true∨fY g=true
 |[],_,_,g,as,h=>absurd rfl h
 |r::l,ts,⟨_,_,⟨_,hn,_⟩,hr⟩,g,as,h=>by
  by_cases e:(g==r.f)=true
  ·have e2:=beq_iff_eq.mp e
   subst e2;cases hc:r.d.clo with
   |none=>
    left
    unfold kD;rw [List.filterMap_cons,hc];simp
   |some q=>
    right
    rw [hc] at hn
    simpa using hn
  ·rw [js (by simpa using e)] at h;rcases nD l hr g as h with z|z
   ·left
    unfold kD at z⊢;rw [List.filterMap_cons];split
    ·exact z
    ·rw [List.contains_cons,z,Bool.or_true]
   ·exact .inr z
theorem xm(M:rf K mg Γ W)(KB:K.In base)(G:base.Ns mainGlobals mg):∀(l:dP),AllK K W.ts Γ l→(∀f,(kD l).contains f=true→mC P w K mg base W (den (tab l)) (2*l.length) f)∧∀q∈uK l,CS P w K mg base W (den (tab l)) (2*l.length) q
 |[],_=>⟨fun f hf=>by simp [kD] at hf,fun q hq=>by simp [uK] at hq⟩
 |r::l,hall=>by
  obtain⟨he,hs,⟨hfr,EN,hfh⟩,hr⟩:=hall
  obtain⟨ih,ihH⟩:=xm M KB G l hr
  obtain⟨fa,oc,od,kV,doc,pm,an,eA,ct,qw,e1,e2,e3,e4,e5⟩:=he
  have Fu:=vS (st:=r.st) e2 e3 e4
  have ok:=Bz (P:=P) (w:=w) (nf:=r.f) (rZ M l r.hl) KB (k:=2*l.length) hs Fu (fun g hg=>ih g hg) (fun q hq=>ihH q hq) (nD l hr) e5
  have mW:∀g,(l.map (·.f)).contains g=true→(g==r.f)=false:=fun g hg=>by
   cases z:g==r.f with
   |false=>rfl
   |true=>rw [beq_iff_eq.mp z,hfr] at hg;cases hg
  have sp:vq W (fun _ as=>af (den (tab l)) r.d as) r.f (r.d.N.take r.d.np).length r.d.clo=vq W (den (tab (r::l))) r.f (r.d.N.take r.d.np).length r.d.clo:=jv fun as=>(qj as).symm
  rw [sp] at ok;have hlen:(r.d.N.take r.d.np).length=r.d.np:=by rw [List.length_take];have:=hs.np;omega
  have ml:∀f,(kD l).contains f=true→(l.map (·.f)).contains f=true:=fun f hf=>by
   rw [List.contains_iff_mem] at hf⊢;unfold kD at hf;obtain⟨x,hx,e⟩:=List.mem_filterMap.mp hf
   split at e
   ·cases e;exact List.mem_map_of_mem (f:=(·.f)) hx
   ·cases e
  refine⟨fun f hf=>?_,fun q hq=>?_⟩
  ·by_cases oV:(f==r.f)=true∧r.d.clo=none
   ·obtain⟨h1,h2⟩:=oV
    have e:=beq_iff_eq.mp h1
    subst e;refine⟨fa,_,r.d.N.take r.d.np,by rw [h2] at ok;exact ok,?_,e4,Fu.binds hs.bind,fun as hn=>?_⟩
    ·rw [hfh (by rw [h2];rfl)];exact PySem.W.mg_of KB G e1
    ·rw [qj] at hn;unfold af at hn
     by_cases ha:ae r.d as=true
     ·unfold ae at ha;rw [h2] at ha;rw [hlen];exact beq_iff_eq.mp ha
     ·rw [if_neg ha] at hn;exact absurd rfl hn
   ·have KY:(kD l).contains f=true:=by
     unfold kD at hf⊢;rw [List.filterMap_cons] at hf;split at hf
     ·exact hf
     ·rename_i y hy;split at hy
      ·rename_i hc;cases hy;rw [List.contains_cons,Bool.or_eq_true] at hf;rcases hf with z|z
       ·exact absurd ⟨z,Option.isNone_iff_eq_none.mp hc⟩ oV
       ·exact z
      ·cases hy
    exact((ih f KY).mono (by rw [List.length_cons];omega)).swap fun as=>js (mW f (ml f KY)) as
  ·unfold uK at hq;rw [List.filterMap_cons] at hq;have tail:q∈uK l→CS P w K mg base W (den (tab (r::l))) (2*(r::l).length) q:=fun hq=>by
    refine(ihH q hq).swap (by rw [List.length_cons];omega) fun as=>js (mW q.f ?_) as
    unfold uK at hq;obtain⟨x,hx,e⟩:=List.mem_filterMap.mp hq
    obtain⟨y,_,rfl⟩:=Option.map_eq_some_iff.mp e
    rw [List.contains_iff_mem];exact List.mem_map_of_mem (f:=(·.f)) hx
   cases hc:r.d.clo with
   |none=>rw [hc] at hq;exact tail hq
   |some y=>
    rw [hc] at hq;rcases List.mem_cons.mp hq with z|z
    ·subst z;rw [hc] at ok;exact⟨fa,_,r.d.N.take r.d.np,ok,PySem.W.mg_of KB G e1,e4,Fu.binds hs.bind,hlen⟩
    ·exact tail z
end
end Ci
namespace L2
open PySem PySem.Spec PyProof.Rows
theorem vi{P:Program}{w:World}{K:PySem.W.Frag}{mg mb:Str→Option Value}{CX:qm}{k:Nat}{fa a:Addr}{fd:FuncData}{x:Str}{sp:Sp}{s₁:Shared}{vs:List Value}{ns:List Int}(i4:List Addr)
 (KX:K.In s₁.heap) (Fb:s₁.heap.Ns mainGlobals mg) (hb:s₁.heap.Ns builtinsNs mb) (Mm:∀x:Str,x≠"__name__"→mb x=bootBuiltins x) (vg:s₁.heap.NoLimit) (hg:s₁.gens=#[])
 (hT:∀p∈i4,s₁.heap.get? p=some (PySem.W.tabObj #[])) (hC:∀p∈i4,∃c,Ci.CodeK K c p) (MU:∀p∈i4,K.lookup p=none)
 (ha:s₁.heap.get? a=some {cls:=.type "list",data:=.seq vs.toArray}) (hi:IntsAre vs ns) (hl:ns.length≤sizeLine) (hr:dc k callerA)
 (F:∀base:Heap,K.In base→base.Ns mainGlobals mg→eW P w K mg base CX k fa fd [x] sp) (Fn:∀(s:Shared) (u:Value),BindsTo s fd ⟨[u],[]⟩ [(x,u)])
 (BH:∀H:Hp,(∀p∈i4,H p=some (.tbl #[]))→Ci.LsR K H a (ns.map V.int)→sp [.ref a] H (fun v _=>v=.bl true) fun _ _ _=>False)
 (Jz:∀H e s',CX [] H s₁ (fun _ _ _=>False) e s'→False):
 codeAny (model P w) callerA (.call (.ref fa) ⟨[.ref a],[]⟩) (fun r s'=>r=.ok (.ret (.bool true))∧OldK s₁.heap s'.heap∧s'.os=s₁.os∧AllBare s'.gens) s₁:=by
 have rv:=lP hi
 have FU:=hi.length
 have aT:a∉i4:=fun z=>by have:=hT a z;rw [ha] at this;cases this
 have core:∀H:Hp,(∀p∈i4,H p=some (.tbl #[]))→Ci.LsR K H a (ns.map V.int)→dG P w H s₁.heap→(∀b,H b≠none→b∈i4∨b=a∧∃o xs,H b=some (.frz o xs))→(H a≠none→K.lookup a=none)→
  codeAny (model P w) callerA (.call (.ref fa) ⟨[.ref a],[]⟩) (fun r s'=>r=.ok (.ret (.bool true))∧OldK s₁.heap s'.heap∧s'.os=s₁.os∧AllBare s'.gens) s₁:=by
  intro H hO hS hok hA hK;have tG:∀{b:Addr} {o:Obj},s₁.heap.get? b=some o→H b=none→(og s₁.heap H).get? b=some o:=fun e n=>xu e n
  have ze:∀{b:Addr} {o:Obj} {es:Array DictEntry} {ep:Nat},s₁.heap.get? b=some o→o.data=.dict es ep→H b=none:=fun{b o es ep} e d=>by
   cases q:H b with
   |none=>rfl
   |some u=>
    rcases hA b (by rw [q];simp) with z|⟨z,_⟩
    ·rw [hT b z] at e;cases e;cases d
    ·subst z;rw [ha] at e;cases e;have d':Data.seq vs.toArray _=Data.dict es ep:=d
     cases d'
  have Im:∀{b:Addr} {m:Str→Option Value},s₁.heap.Ns b m→(og s₁.heap H).Ns b m:=fun{b m} ⟨o,es,ep,e,d,r⟩=>⟨o,es,ep,tG e (ze e d),d,r⟩
  have KP:K.In (og s₁.heap H):=fun b o e=>tG (KX b o e) (by
   cases q:H b with
   |none=>rfl
   |some u=>
    rcases hA b (by rw [q];simp) with z|⟨z,_⟩
    ·rw [MU b z] at e;cases e
    ·subst z;rw [hK (by rw [q];simp)] at e;cases e)
  have hM:Mod K mg (og s₁.heap H):=⟨KP,Im Fb,⟨mb,Im hb,Mm⟩,let⟨mc,h1,h2⟩:=vg;⟨mc,Im h1,h2⟩⟩
  have e0:gv P w K mg (og s₁.heap H) callerA [] s₁ H:=⟨rfl,hM,fun b o e=>zE e,Nat.le_of_eq (tZ _ _),trivial,fun b hb=>absurd (show b∈([]:List Addr) from hb) (by simp),hok,.of_eq hg⟩
  refine codeAny_mono ((F _ KP (Im Fb)).run callerA [] s₁ H ⟨[.ref a],[]⟩ [.ref a] [.ref a] _ _ hr e0 (Fn s₁ (.ref a)) (.cons rfl .nil) (BH H hO hS)) fun r s' h=>?_
  cases r with
  |error e=>exact(Jz H e s' h).elim
  |ok fl=>
   cases fl with
   |next=>exact False.elim h
   |brk=>exact False.elim h
   |cont=>exact False.elim h
   |ret u=>
    obtain⟨v,H',os,bare,un,Ak,r',q⟩:=h
    have q':v=.bl true:=q
    subst q';obtain rfl:u=Value.bool true:=r'
    have key:∀b o,s₁.heap.get? b=some o→s'.heap.get? b=some o∨b∈i4∧∃m,s'.heap.get? b=some (PySem.W.tabObj m):=fun b o e=>by
     cases q:H b with
     |none=>exact .inl (un.keep b o e q (by intro z;exact absurd (show b∈([]:List Addr) from z) (by simp)) (by simp))
     |some u=>
      rcases hA b (by rw [q];simp) with z|⟨z,ob,xs,z2⟩
      ·right
       obtain⟨m,hm⟩:=un.tbls b _ (hO b z)
       exact⟨z,_,Ak b _ hm⟩
      ·left
       have z3:=un.frzs b ob _ z2
       obtain⟨e1,_⟩:=hok b _ z2
       obtain⟨e2,_⟩:=Ak b _ z3
       rw [e] at e1;cases e1;exact e2
    refine⟨rfl,⟨fun b o e=>?_,fun b o e=>?_⟩,os,bare⟩
    ·rcases key b o e with z|⟨z,m,z2⟩
     ·exact .inl z
     ·have e':=hT b z
      rw [e] at e';cases e';obtain⟨c,o',Cb,_,_,_,_,_,_,_,k1,k2,k3,k4,_⟩:=hC b z
      have tb:s₁.heap.TableAt c b #[]:=⟨⟨o',Cb,KX _ _ k1,k2,k3,k4⟩,e⟩
      exact .inr (.inl ⟨tb.isCodeTable,rfl,#[],m,rfl,by rw [z2];simp⟩)
    ·rcases key b o e with z|⟨_,m,z⟩
     ·exact⟨_,z⟩
     ·exact⟨_,z⟩
 cases hk:K.lookup a with
 |some o=>
  have e:=KX a o hk
  rw [ha] at e;cases e;refine core (fun b=>if b∈i4 then some (.tbl #[]) else none) (fun p hp=>if_pos hp) (.inr ⟨vs.toArray,_,hk,by rw [List.size_toArray,FU];exact hl,by simpa using rv⟩) (fun b u z=>?_) (fun b z=>?_) fun z=>absurd (if_neg aT) z
  ·by_cases hb:b∈i4
   ·have z':=(if_pos hb).symm.trans z
    cases z';exact hT b hb
   ·have z':=(if_neg hb).symm.trans z
    cases z'
  ·by_cases hb:b∈i4
   ·exact .inl hb
   ·exact absurd (if_neg hb) z
 |none=>
  refine core (fun b=>if b=a then some (.frz {cls:=.type "list",data:=.seq vs.toArray} (.lst (ns.map V.int))) else if b∈i4 then some (.tbl #[]) else none) (fun p hp=>?_) (.inl (.inr ⟨{cls:=.type "list",data:=.seq vs.toArray},if_pos rfl⟩)) (fun b u z=>?_) (fun b z=>?_) fun _=>hk
  ·show(if p=a then _ else _)=_
   rw [if_neg (show¬p=a from fun z=>aT (by rw [←z];exact hp)),if_pos hp]
  ·by_cases hb:b=a
   ·have z':=(if_pos hb).symm.trans z
    cases z';subst hb;exact⟨ha,by rw [List.length_map];exact hl,vs,_,rv,ha⟩
   ·replace z:=(if_neg hb).symm.trans z
    by_cases hc:b∈i4
    ·have z':=(if_pos hc).symm.trans z
     cases z';exact hT b hc
    ·have z':=(if_neg hc).symm.trans z
     cases z'
  ·by_cases hb:b=a
   ·exact .inr ⟨hb,_,_,if_pos hb⟩
   ·by_cases hc:b∈i4
    ·exact .inl hc
    ·exact absurd ((if_neg hb).trans (if_neg hc)) z
theorem walk_L{l:PySem.W.OpenLaw}{n k:Nat}{q:Program}{loose:List Str}{XP:(Str→Option Value)→Heap→Prop}{YP:World→Heap→Prop}{d:DefRec}{K:Params→PySem.W.Frag}{CX:World→qm}{sp:World→Sp}{x:Str}(i4:List Addr)
 (hn:l.most=some n) (Bq:n≤sizeLine) (FF:d.params.defaults=[]) (hr:dc k callerA)
 (hY:∀(w:World) (h:Heap),YP w h→(K w.params).In h∧∀p∈i4,h.get? p=some (PySem.W.tabObj #[])) (hC:∀(w:World),∀p∈i4,(∃c,Ci.CodeK (K w.params) c p)∧(K w.params).lookup p=none)
 (F:∀(w:World) (mg:Str→Option Value) (fa:Addr) (h:Heap),(K w.params).In h→h.Ns mainGlobals mg→mg d.name=some (.ref fa)→
  ∃fd:FuncData,(∀(s:Shared) (u:Value),BindsTo s fd ⟨[u],[]⟩ [(x,u)])∧
   ∀base:Heap,(K w.params).In base→base.Ns mainGlobals mg→eW l.prog w (K w.params) mg base (CX w) k fa fd [x] (sp w))
 (BH:∀(w:World) (H:Hp) (a:Addr) (ns:List Int),ns.length≤n→(∀p∈i4,H p=some (.tbl #[]))→Ci.LsR (K w.params) H a (ns.map V.int)→sp w [.ref a] H (fun v _=>v=.bl true) fun _ _ _=>False)
 (Jz:∀(w:World) (H:Hp) (s:Shared) (e:Value) (s':Shared),CX w [] H s (fun _ _ _=>False) e s'→False):
 PySem.W.WalkO q loose XP YP l.row.toRowW d [] (fun f vs=>PySem.call f vs):=by
 refine Att.attach_call hn FF fun w s₀ s₁ mg mb fa o pm cd doc a vs ns G Y ho hd qq hmg hobj hints hlen hg=>?_
 obtain⟨KX,hT⟩:=hY w _ Y
 obtain⟨fd,hb,hF⟩:=F w mg fa _ KX G.T.g hmg
 exact vi i4 KX G.T.g G.T.b G.T.builtins G.T.nolimit hg hT (fun p hp=>(hC w p hp).1) (fun p hp=>(hC w p hp).2) hobj hints (Nat.le_trans hlen Bq) hr hF hb (fun H hO hS=>BH w H a ns hlen hO hS) fun H e s'=>Jz w H s₁ e s'
end L2
namespace Ci
open PySem L2
theorem jm{W:Wd}{G:Hp}:∀(ns:List Int),aq W G (ns.map PV.int) (ns.map V.int)
 |[]=>.nil
 |n::ns=>.cons .i (jm ns)
def mf(H:Hp):Hp:=fun b=>match H b with
 |some (.tbl _)=>none
 |o=>o
theorem qu(H:Hp):aF (mf H) H:=fun b o e=>by
 unfold mf at e;split at e
 ·cases e
 ·exact e
theorem pw{H:Hp}{b:Addr}{o:HO}(h:H b=some o)(n:∀ps,o≠.tbl ps):mf H b=some o:=by
 unfold mf;rw [h];cases o with
 |tbl ps=>exact absurd rfl (n ps)
 |_=>rfl
noncomputable def Fh(K:PySem.W.Frag)(i4:List Addr):Sp:=fun vs H Q _=>∃(a:Addr) (ns:List Int),vs=[.ref a]∧(∀p∈i4,H p=some (.tbl #[]))∧LsR K H a (ns.map V.int)∧ns.length≤63∧∀H',Q (.bl true) H'
theorem walk{l:PySem.W.OpenLaw}{q:Program}{loose:List Str}{XP:(Str→Option Value)→Heap→Prop}{YP:World→Heap→Prop}{d:DefRec}{K:Params→PySem.W.Frag}(rest:dP)(Γ:Pg)(x:Str)(dl:Def)(xs:List Str)(ts:List (Addr×Str))(st:Stmt)
 (hx:dl.N.take dl.np=[x]) (BY:dl.clo=none) (MX:d.name="law") (hn:l.most=some 63) (FF:d.params.defaults=[]) (hr:dc (2*rest.length+2) callerA) (hY:∀(w:World) (h:Heap),YP w h→(K w.params).In h∧∀p∈ts.map (·.1),h.get? p=some (PySem.W.tabObj #[]))
 (hC:∀(w:World),∀p∈ts.map (·.1),(∃c,CodeK (K w.params) c p)∧(K w.params).lookup p=none)
 (hM:∀(w:World) (mg:Str→Option Value) (h:Heap),(K w.params).In h→h.Ns mainGlobals mg→rf (K w.params) mg Γ ⟨K w.params,mg,xs,ts⟩)
 (hE:∀w:World,EntK (K w.params) ts false "law" st) (hS:cu (Γ.at rest false) "law" dl st)
 (hA:∀w:World,AllK (K w.params) ts Γ rest)
 (Kk:∀ns:List Int,ns.length≤63→af (den (tab rest)) dl [.lst (ns.map .int)]=.ok (.bl true)):
 PySem.W.WalkO q loose XP YP l.row.toRowW d [] (fun f vs=>PySem.call f vs):=by
 refine L2.walk_L (n:=63) (k:=2*rest.length+2) (x:=x) (CX:=fun w=>dA l.prog w) (sp:=fun w=>Fh (K w.params) (ts.map (·.1))) (ts.map (·.1)) hn (by decide) FF hr hY hC ?_ ?_ ?_
 ·intro w mg fa h KX G hmg;rw [MX] at hmg;obtain⟨f,oc,od,kV,doc,pm,an,eA,ct,qw,e1,e2,e3,e4,e5⟩:=hE w
  have hf:fa=f:=by
   have z:=hmg.symm.trans (PySem.W.mg_of KX G e1)
   cases z
   rfl
  subst hf;refine⟨PySem.W.fnOf "law" "law" (defArgs st) (defBody st) (defScope st) .none kV doc pm an eA ct,fun s u=>?_,fun base KB GB=>?_⟩
  ·have hb:=hS.bind kV doc pm an eA ct [u]
   rw [hx] at hb;exact .of_eq (hb rfl)
  ·have M:=hM w mg base KB GB
   obtain⟨a1,a2⟩:=xm (P:=l.prog) (w:=w) M KB GB rest (hA w)
   have ok:=Bz (P:=l.prog) (w:=w) (nf:="law") (rZ M rest false) KB (k:=2*rest.length) hS (vS (st:=st) e2 e3 e4) (fun g hg=>a1 g hg) (fun q hq=>a2 q hq) (nD rest (hA w)) (fun z=>nomatch z)
   rw [hx] at ok;refine ok.imp fun vs H Q E h=>?_
   obtain⟨a,ns,rfl,ht,hl,hlen,q⟩:=h
   refine⟨rfl,mf H,[.lst (ns.map .int)],qu H,fun P q m=>?_,?_,?_⟩
   ·have hP:=ht P (List.mem_map_of_mem (f:=(·.1)) m)
    refine⟨by unfold mf;rw [hP],#[],hP,trivial,fun pos cv e=>nomatch e⟩
   ·rw [BY];refine aq.cons (.l ?_ (jm ns)) .nil;rcases hl with(h|⟨o,h⟩)|h
    ·exact .inl (.inl (pw h (fun _ z=>nomatch z)))
    ·exact .inl (.inr ⟨o,pw h (fun _ z=>nomatch z)⟩)
    ·exact .inr h
   ·dsimp only;rw [Kk ns hlen];intro v G' H' _ rv;simp only [Rep] at rv;subst rv;exact q H'
 ·intro w H a ns hlen hO Af;exact⟨a,ns,rfl,hO,Af,hlen,fun _=>rfl⟩
 ·intro w H s e s' h;obtain⟨a,C,t,vs,H',B,rfl,F⟩:=h
  exact F.ends
end Ci
namespace Hd
open PySem PySem.W PySem.Calls
noncomputable def Dc(st:SharedT→Thread→Option (SharedT×Thread))(ok:Thread→Bool)(n:Nat):SharedT→Thread→Option SharedT:=
 @Nat.rec (fun _=>SharedT→Thread→Option SharedT) (fun _ _=>none) (fun _ ih s t=>match through t with
  |true=>some s
  |false=>match ok t with
   |false=>none
   |true=>match st s t with
    |some (s',t')=>ih s' t'
    |none=>none) n
theorem lA{tb:String→Option Builtin}{p:Program}{w:World}{n₀:Nat}{ann:Option Value}:∀{n:Nat} {s s':SharedT} {t:Thread},Dc (stepT (denote tb) p w) (stepOk n₀ ann) n s t=some s'→topRun tb p w n₀ ann n s.abs t=some s'.abs
 |0,_,_,_,h=>by cases h
 |n+1,s,s',t,h=>by
  have h:(match through t with
   |true=>some s
   |false=>match stepOk n₀ ann t with
    |false=>none
    |true=>match stepT (denote tb) p w s t with
     |some (s',t')=>Dc (stepT (denote tb) p w) (stepOk n₀ ann) n s' t'
     |none=>none)=some s':=h
  unfold topRun;cases ht:through t with
  |true=>rw [ht] at h;cases h;rfl
  |false=>
   rw [ht] at h;cases hk:stepOk n₀ ann t with
   |false=>rw [hk] at h;cases h
   |true=>
    rw [hk] at h;cases hs:stepT (denote tb) p w s t with
    |none=>rw [hs] at h;cases h
    |some r=>obtain⟨s₂,t₂⟩:=r;rw [hs] at h;rw [stepT_spec hs];exact lA h
def treeOf(l:List Obj):BT:=(l.foldl (fun(T,i) o=>(BT.ins T i o,i+1)) (BT.nil,0)).1
theorem left_of{p q:Program}{loose:List Str}{Xt:Shared→Bool}{α:Type}{Yf:Shared→α}{Ya:World→α}{N:Nat}{g0:Bool}{T₀:Params→BT}{life:Life}{m₀:Nat}{ann:Option Value}{M:Nat}
 (e:opening p=plainProg p.main.scope.names) (hN:Nat.ble 600 N=true) (f:∀s,fenceModules? p s=some s)
 (e0:∀P:Params,absHeap (T₀ P) m₀ life=boot_heap P)
 (size:∀w:World,((boot_heap w.params).isNs mainGlobals,(boot_heap w.params).nsMap mainGlobals "__annotations__")=(true,ann))
 (le:Nat.ble M N=true)
 (run:∀(w:World) (os:OsState),(Dc (stepT (denote treeTable) p w) (stepOk m₀ ann) M ⟨T₀ w.params,m₀,life,Array.mk [],boot_drawn,boot_toks,os⟩ (topStub p)).map (fun s=>
  ((staticsOk (importedModules p.main.body) (boot_heap w.params) s.abs.heap&&namesBound p s.abs.heap&&gensDone s.abs&&laidKept (boot_heap w.params) s.abs.heap),openSeen q loose (importedModules p.main.body) Xt g0 s.abs,Yf s.abs))
  =some (true,openGood q loose,Ya w)):LeftO p q loose Xt Yf Ya N g0:=fun w=>by
 obtain⟨⟨h,gs,d,k,os⟩,e1,e'⟩:=Option.map_eq_some_iff.mp (boot_open e hN f w)
 obtain⟨rfl,rfl,rfl,rfl⟩:h=boot_heap w.params∧gs=Array.mk []∧d=boot_drawn∧k=boot_toks:=by simpa using e'
 obtain⟨z1,z3⟩:_∧_:=by simpa only [Prod.mk.injEq] using size w
 obtain⟨s,r,l⟩:=Option.map_eq_some_iff.mp (run w os)
 obtain⟨l1,l2,l3⟩:_∧_∧_:=by simpa only [Prod.mk.injEq] using l
 have r:=lA r
 have r:=topRun_mono (N-M) _ _ _ _ r
 rw [show M+(N-M)=N by have:=Nat.le_of_ble_eq_true le;omega] at r;have hs:(boot_heap w.params).objs.size=m₀:=by rw [←e0 w.params];exact absHeap_size _ _ _
 have r:topRun treeTable p w m₀ ann N ⟨boot_heap w.params,Array.mk [],boot_drawn,boot_toks,os⟩ (topStub p)=some s.abs:=by
  have:(⟨T₀ w.params,m₀,life,Array.mk [],boot_drawn,boot_toks,os⟩:SharedT).abs=⟨boot_heap w.params,Array.mk [],boot_drawn,boot_toks,os⟩:=by
   show Shared.mk _ _ _ _ _=_
   rw [show absHeap (T₀ w.params) m₀ life=boot_heap w.params from e0 w.params]
  rw [←this];exact r
 have t:topFrom treeTable p w N ⟨boot_heap w.params,Array.mk [],boot_drawn,boot_toks,os⟩=some s.abs:=by
  unfold topFrom;dsimp only;rw [z1,z3,hs,r];show(match staticsOk (importedModules p.main.body) (boot_heap w.params) s.abs.heap&&namesBound p s.abs.heap&&gensDone s.abs&&laidKept (boot_heap w.params) s.abs.heap with|true=>_|false=>_)=_
  rw [l1]
 unfold openEnds;rw [e1];show(topFrom treeTable p w N _).map _=_
 rw [t];exact congrArg some (Prod.ext l2 l3)
end Hd
namespace Hd
open PySem PySem.W
theorem boot0:∀P:Params,absHeap (treeOf (boot_heap P).objs.toList) 11 {}=boot_heap P:=fun P=>by kernel_rfl
theorem boot1:∀w:World,((boot_heap w.params).isNs mainGlobals,(boot_heap w.params).nsMap mainGlobals "__annotations__")=(true,some (.ref 6)):=fun w=>by kernel_rfl
abbrev de(P:Params)(x:Str)(t:Tok)(v:Value):DictEntry:={hash:=PyData.keyHash P x,key:=.str x t,val:=v}
theorem holds{l:OpenLaw}{keep:List Nat}{K:Params→Frag}{as:List Addr}{d:DefRec}{N:Nat}(IX:l.wellSaid=true)
 (ka:∀P,as=(K P).map (·.1))
 (left:LeftO l.row.prog (view l.row.prog keep) [] (fun s=>xlAt (view l.row.prog keep) [] s&&recOk l.row.toRowW.records s) (kHook K as ka).obs (kHook K as ka).val N)
 (DB:defOf (view l.row.prog keep) l.row.name=some (d,[])) (hp:l.row.prog.theDef l.row.name=some (d.params,d.body,d.scope)) (hk:kwWritten? d.params.kwonlyargs d.params.kw_defaults=some [])
 (ok:(chainsOk (view l.row.prog keep)&&opensWell l.row.prog&&(frees l.row.toRowW&&l.row.within.isEmpty))=true) (hb:l.row.prog.bare) (hw:l.row.toRowW.promised)
 (call:WalkO (view l.row.prog keep) [] (XL (view l.row.prog keep) []) (kHook K as ka).says l.row.toRowW d [] fun f vs=>PySem.call f vs):l.Holds:=
 holds_law IX fun k1=>holds_open (N:=N) left (Hook.of (kHook K as ka)) (Hook.keeps (kHook K as ka)) (fun s e=>xl_of s (Bool.and_eq_true_iff.mp e).1) XL.keeps DB hp hk (fun s e=>recFacts_of (Bool.and_eq_true_iff.mp e).2) (by cases h:l.row.writes<;>rfl) k1 ok hb hw call
theorem ar1{P:List Value→Prop}(h:∀a0,P [a0]):∀us:List Value,us.length=1→P us
 |[a0],_=>h a0
theorem ar2{P:List Value→Prop}(h:∀a0 a1,P [a0,a1]):∀us:List Value,us.length=2→P us
 |[a0,a1],_=>h a0 a1
theorem ar3{P:List Value→Prop}(h:∀a0 a1 a2,P [a0,a1,a2]):∀us:List Value,us.length=3→P us
 |[a0,a1,a2],_=>h a0 a1 a2
theorem ar4{P:List Value→Prop}(h:∀a0 a1 a2 a3,P [a0,a1,a2,a3]):∀us:List Value,us.length=4→P us
 |[a0,a1,a2,a3],_=>h a0 a1 a2 a3
end Hd
namespace KJ
open PySem L2 Ci
theorem kI{α β:Type}{a:α}{f:α→Res β}:(Res.ok a).bind f=f a:=id rfl
theorem ET{α:Type}{a:α}:(Res.ok a).well=.ok a:=id rfl
theorem L8{α:Type}{a:α}:Res.of (some a)=.ok a:=id rfl
theorem NM{env:Sl}{k:Sl→Res Fl}:(Fl.nx env).seq k=k env:=id rfl
theorem Nw{p:PV}{k:Sl→Res Fl}:(Fl.rt p).seq k=.ok (.rt p):=id rfl
theorem Nu{env:Sl}{k:Sl→Res Fl}:(Fl.bk env).seq k=.ok (.bk env):=id rfl
theorem sv{p:PV}:j8 (some (.val p))=.ok p:=id rfl
theorem M6{p:PV}:w6 (some (.val p))=.ok p:=id rfl
theorem MY{p:PV}:w6 (some (.own p))=.ok p:=id rfl
theorem EO{α:Type}{b:Bool}{f:Bool→Res α}:qp (.bl b) f=f b:=id rfl
theorem Gq{i j:Int}:binOp .add (.int i) (.int j)=.ok (.int (i+j)):=id rfl
theorem HJ{i j:Str}:binOp .add (.str i) (.str j)=if i.length+j.length≤dg then .ok (.str (i++j)) else .bad:=id rfl
theorem IJ{i j:Int}:binOp .sub (.int i) (.int j)=.ok (.int (i-j)):=id rfl
theorem Ko{i j:Int}:binOp .mul (.int i) (.int j)=if aR i||aR j then .ok (.int (i*j)) else .bad:=id rfl
theorem Jp{i j:Int}:binOp .mod (.int i) (.int j)=if 0<j then .ok (.int (i%j)) else .bad:=id rfl
theorem Jq{i j:Int}:binOp .fdiv (.int i) (.int j)=if 0<j∧j<1073741824 then .ok (.int (i/j)) else .bad:=id rfl
theorem NK:da .eq=fX:=id rfl
theorem Me:da .ne=gR:=id rfl
theorem NI:da .lt=pO:=id rfl
theorem Nz:da .le=oR:=id rfl
theorem Nv:da .in_=m5:=id rfl
theorem JF:da .nin=eE:=id rfl
theorem oLt{i j:Int}:pO (.int i) (.int j)=.ok (.bl (decide (i<j))):=id rfl
theorem oLe{i j:Int}:oR (.int i) (.int j)=.ok (.bl (decide (i≤j))):=id rfl
theorem lL{xs:List PV}:du .len [.lst xs]=.ok (.int xs.length):=id rfl
theorem lT{xs:List PV}:du .len [.tup xs]=.ok (.int xs.length):=id rfl
theorem lS{z:Str}:du .len [.str z]=if z.length≤dg then .ok (.int z.length) else .bad:=id rfl
theorem tL{xs:List PV}:du .tuple [.lst xs]=.ok (.tup xs):=id rfl
theorem Mg{i:Nat}{p:PV}{env:Sl}:(Tg.one i).put p env=.ok (env.set i (.val p)):=id rfl
theorem MM{i j:Nat}{a b:PV}{env:Sl}:(Tg.two i j).put (.tup [a,b]) env=.ok ((env.set i (.val a)).set j (.val b)):=id rfl
theorem yt{p:PV}:nF (.own p)=.val p:=id rfl
theorem jA{α:Type}{a:α}{as:List α}:(a::as).length=as.length+1:=id rfl
theorem jB{α:Type}:([]:List α).length=0:=id rfl
theorem jC{α β:Type}{f:α→β}{a:α}{l:List α}:(a::l).map f=f a::l.map f:=id rfl
theorem jD{α β:Type}{f:α→β}:([]:List α).map f=[]:=id rfl
theorem jE{α:Type}{a:α}{as bs:List α}:a::as++bs=a::(as++bs):=id rfl
theorem jF{α:Type}{as:List α}:[]++as=as:=id rfl
theorem jG{α:Type}{a:α}{l:List α}:(a::l)[0]?=some a:=id rfl
theorem jH{α:Type}{a:α}{l:List α}{i:Nat}:(a::l)[i+1]?=l[i]?:=id rfl
theorem jI{α:Type}{a b:α}{l:List α}:(a::l).set 0 b=b::l:=id rfl
theorem jJ{α:Type}{a b:α}{l:List α}{i:Nat}:(a::l).set (i+1) b=a::l.set i b:=id rfl
theorem jK{α:Type}{a d:α}{l:List α}:(a::l).getD 0 d=a:=id rfl
theorem jL{α:Type}{a d:α}{l:List α}{i:Nat}:(a::l).getD (i+1) d=l.getD i d:=id rfl
theorem jM{n:Nat}:0+n=n:=Nat.zero_add _
theorem jN:(!true)=false:=id rfl
theorem jO:(!false)=true:=id rfl
theorem jP:(false=true)=False:=Bool.false_eq_true
theorem eO{e:E}{xs:List PV}:Hc e (.lst xs)=.ok xs:=id rfl
theorem JN{xs:List PV}:itemsOf (.tup xs)=.ok xs:=id rfl
theorem JQ{z:Str}:itemsOf (.str z)=.ok (chars z):=id rfl
theorem Bx{i j:List PV}:binOp .add (.tup i) (.tup j)=if i.length+j.length≤dg then .ok (.tup (i++j)) else .bad:=id rfl
theorem jQ{α:Type}{f:α→α}{a:α}{l:List α}:(a::l).modify 0 f=f a::l:=id rfl
theorem jR{α:Type}{f:α→α}{a:α}{l:List α}{i:Nat}:(a::l).modify (i+1) f=a::l.modify i f:=by simp
theorem jS{α:Type}{a:α}:List.replicate 0 a=[]:=id rfl
theorem jT{α:Type}{a:α}{n:Nat}:List.replicate (n+1) a=a::List.replicate n a:=id rfl
theorem jU{n:Nat}:(n==n)=true:=beq_self_eq_true n
noncomputable def J:=And.intro @jS (And.intro @jT (And.intro @jU (And.intro @kI (And.intro @ET (And.intro @L8 (And.intro @NM (And.intro @Nw (And.intro @Nu (And.intro @sv (And.intro @M6 (And.intro @MY (And.intro @EO (And.intro @Gq (And.intro @HJ (And.intro @IJ (And.intro @Ko (And.intro @Jp (And.intro @Jq (And.intro @NK (And.intro @Me (And.intro @NI (And.intro @Nz (And.intro @Nv (And.intro @JF (And.intro @oLt (And.intro @oLe (And.intro @lL (And.intro @lT (And.intro @lS (And.intro @tL (And.intro @Mg (And.intro @MM (And.intro @yt (And.intro @jA (And.intro @jB (And.intro @jC (And.intro @jD (And.intro @jE (And.intro @jF (And.intro @jG (And.intro @jH (And.intro @jI (And.intro @jJ (And.intro @jK (And.intro @jL (And.intro @jM (And.intro @jN (And.intro @jO (And.intro @jP (And.intro @eO (And.intro @JN (And.intro @JQ (And.intro @Bx (And.intro @jQ (@jR)))))))))))))))))))))))))))))))))))))))))))))))))))))))
theorem aL{n:Str}{d:Def}{r:List (Str×Def)}:den ((n,d)::r) n=af (den r) d:=by
 funext as;simp [den]
theorem DH{n f:Str}{d:Def}{r:List (Str×Def)}(h:(f==n)=false):den ((n,d)::r) f=den r f:=by
 funext as;simp [den,h]
theorem aA{f:Str}:∀(n:Nat) {T:List (Str×Def)},((T.take n).all fun x=>!(f==x.1))=true→den T f=den (T.drop n) f
 |0,_,_=>rfl
 |n+1,[],_=>rfl
 |n+1,(m,d)::r,h=>by
  rw [List.take_succ_cons,List.all_cons,Bool.and_eq_true,Bool.not_eq_true'] at h;exact(DH h.1).trans (aA n h.2)
end KJ
namespace K31
open PySem L2 Ci KJ
noncomputable def cO:Def:=⟨["_law_script","_law_k"],2,(.cons (.ite (.cmp .lt (.var 1) (.blt .len (.cons (.var 0) .nil)))
 (.cons (.ret (.sub (.var 0) (.var 1)))
 .nil)
 .nil)
 (.cons (.ite (.cmp .eq (.var 0) (.lst .nil))
  (.cons (.ret (.cst (.int 0)))
  .nil)
  .nil)
 (.cons (.ret (.bin .add (.bin .mul (.sub (.var 0) (.bin .mod (.var 1) (.blt .len (.cons (.var 0) .nil)))) (.cst (.int 31))) (.var 1)))
 .nil))),none⟩
noncomputable def bS:Def:=⟨["_law_script","_law_k","_law_many","_law_drawn"],3,(.cons (.set 3 (.bin .mod (.bin .mul (.bin .add (.call "_law_cell" (.cons (.var 0) (.cons (.var 1) .nil))) (.bin .mul (.cst (.int 6151)) (.bin .add (.var 1) (.cst (.int 1))))) (.cst (.int 40692))) (.cst (.int 2147483399))))
 (.cons (.ret (.bin .mod (.bin .mod (.bin .add (.bin .mul (.var 3) (.var 3)) (.bin .fdiv (.var 3) (.cst (.int 31)))) (.cst (.int 2147483629))) (.var 2)))
 .nil)),none⟩
noncomputable def bU:Def:=⟨["_law_script","_law_at","_law_most","_law_rows","_law_columns","_law_shuts","_law_top","_law_made","_law_row","_law_signs","_law_column","_law_drawn"],3,(.cons (.set 3 (.bin .add (.cst (.int 1)) (.call "_law_pick" (.cons (.var 0) (.cons (.var 1) (.cons (.var 2) .nil))))))
 (.cons (.set 4 (.bin .add (.cst (.int 1)) (.call "_law_pick" (.cons (.var 0) (.cons (.bin .add (.var 1) (.cst (.int 1))) (.cons (.var 2) .nil))))))
 (.cons (.set 5 (.sub (.lst (.cons (.cst (.int 0)) (.cons (.cst (.int 2)) (.cons (.cst (.int 4)) (.cons (.cst (.int 6)) .nil))))) (.call "_law_pick" (.cons (.var 0) (.cons (.bin .add (.var 1) (.cst (.int 2))) (.cons (.cst (.int 4)) .nil))))))
 (.cons (.set 6 (.sub (.lst (.cons (.cst (.int 1)) (.cons (.cst (.int 2)) (.cons (.cst (.int 3)) (.cons (.cst (.int 10)) .nil))))) (.call "_law_pick" (.cons (.var 0) (.cons (.bin .add (.var 1) (.cst (.int 3))) (.cons (.cst (.int 4)) .nil))))))
 (.cons (.own 7 (.lst .nil))
 (.cons (.for_ (.one 8) (.rng (.var 3))
  (.cons (.set 9 (.cst (.str "")))
  (.cons (.for_ (.one 10) (.rng (.var 4))
   (.cons (.set 11 (.call "_law_pick" (.cons (.var 0) (.cons (.bin .add (.bin .add (.bin .add (.var 1) (.cst (.int 4))) (.bin .mul (.var 2) (.var 8))) (.var 10)) (.cons (.bin .mul (.cst (.int 12)) (.var 6)) .nil)))))
   (.cons (.set 9 (.bin .add (.var 9) (.ite (.cmp .lt (.bin .mod (.var 11) (.cst (.int 12))) (.var 5)) (.cst (.str "#")) (.blt .str (.cons (.bin .fdiv (.var 11) (.cst (.int 12))) .nil)))))
   .nil)))
  (.cons (.app 7 (.var 9))
  .nil))))
 (.cons (.ret (.blt .tuple (.cons (.tmp 7) .nil)))
 .nil))))))),none⟩
noncomputable def b9:Def:=⟨["_law_script","_law_at"],2,(.cons (.ret (.tup (.cons (.cmp .eq (.call "_law_pick" (.cons (.var 0) (.cons (.var 1) (.cons (.cst (.int 2)) .nil)))) (.cst (.int 0))) (.cons (.sub (.lst (.cons (.cst (.int 0)) (.cons (.cst (.int 1)) (.cons (.cst (.int 2)) (.cons (.cst (.int 9)) .nil))))) (.call "_law_pick" (.cons (.var 0) (.cons (.bin .add (.var 1) (.cst (.int 1))) (.cons (.cst (.int 4)) .nil))))) (.cons (.call "_law_pick" (.cons (.var 0) (.cons (.bin .add (.var 1) (.cst (.int 2))) (.cons (.cst (.int 4)) .nil)))) .nil)))))
 .nil),none⟩
noncomputable def bW:Def:=⟨["floor","spots","row","signs","column","sign"],1,(.cons (.own 1 (.lst .nil))
 (.cons (.for_ (.two 2 3) (.enum (.var 0))
  (.cons (.for_ (.two 4 5) (.enum (.var 3))
   (.cons (.ite (.cmp .ne (.var 5) (.glob "WALL" (.str "#")))
    (.cons (.app 1 (.tup (.cons (.var 2) (.cons (.var 4) .nil))))
    .nil)
    .nil)
   .nil))
  .nil))
 (.cons (.frz 1)
 (.cons (.ret (.var 1))
 .nil)))),none⟩
def dC:Def:=⟨["thing"],1,(.cons (.ret (.and (.ty .int (.var 0)) (.not (.ty .bool (.var 0)))))
 .nil),none⟩
noncomputable def dz:Def:=⟨["thing"],1,(.cons (.ret (.and (.ty .tuple (.var 0)) (.and (.cmp .eq (.blt .len (.cons (.var 0) .nil)) (.cst (.int 2))) (.and (.call "is_whole" (.cons (.sub (.var 0) (.cst (.int 0))) .nil)) (.call "is_whole" (.cons (.sub (.var 0) (.cst (.int 1))) .nil))))))
 .nil),none⟩
noncomputable def cg:Def:=⟨["floor","spot"],2,(.cons (.ret (.and (.ch .le .lt (.cst (.int 0)) (.sub (.var 1) (.cst (.int 0))) (.blt .len (.cons (.var 0) .nil))) (.ch .le .lt (.cst (.int 0)) (.sub (.var 1) (.cst (.int 1))) (.blt .len (.cons (.sub (.var 0) (.sub (.var 1) (.cst (.int 0)))) .nil)))))
 .nil),none⟩
noncomputable def cD:Def:=⟨["floor","thing"],2,(.cons (.ret (.and (.call "is_spot" (.cons (.var 1) .nil)) (.and (.call "is_on_floor" (.cons (.var 0) (.cons (.var 1) .nil))) (.cmp .ne (.sub (.sub (.var 0) (.sub (.var 1) (.cst (.int 0)))) (.sub (.var 1) (.cst (.int 1)))) (.glob "WALL" (.str "#"))))))
 .nil),none⟩
noncomputable def bD:Def:=⟨["floor","spot"],2,(.cons (.ite (.not (.call "is_open" (.cons (.var 0) (.cons (.var 1) .nil))))
 (.cons (.raise "NoSpot" "the spot is not on the floor or a wall")
 .nil)
 .nil)
 .nil),none⟩
noncomputable def bb:Def:=⟨["floor","spot","beside","row","column"],2,(.cons (.own 2 (.lst .nil))
 (.cons (.for_ (.one 3) (.rng2 (.bin .sub (.sub (.var 1) (.cst (.int 0))) (.cst (.int 1))) (.bin .add (.sub (.var 1) (.cst (.int 0))) (.cst (.int 2))))
  (.cons (.for_ (.one 4) (.rng2 (.bin .sub (.sub (.var 1) (.cst (.int 1))) (.cst (.int 1))) (.bin .add (.sub (.var 1) (.cst (.int 1))) (.cst (.int 2))))
   (.cons (.ite (.and (.cmp .ne (.tup (.cons (.var 3) (.cons (.var 4) .nil))) (.var 1)) (.call "is_open" (.cons (.var 0) (.cons (.tup (.cons (.var 3) (.cons (.var 4) .nil))) .nil))))
    (.cons (.app 2 (.tup (.cons (.var 3) (.cons (.var 4) .nil))))
    .nil)
    .nil)
   .nil))
  .nil))
 (.cons (.frz 2)
 (.cons (.ret (.var 2))
 .nil)))),none⟩
noncomputable def cG:Def:=⟨["one","other"],2,(.cons (.ret (.and (.cmp .ne (.var 0) (.var 1)) (.and (.cmp .le (.blt .abs (.cons (.bin .sub (.sub (.var 0) (.cst (.int 0))) (.sub (.var 1) (.cst (.int 0)))) .nil)) (.cst (.int 1))) (.cmp .le (.blt .abs (.cons (.bin .sub (.sub (.var 0) (.cst (.int 1))) (.sub (.var 1) (.cst (.int 1)))) .nil)) (.cst (.int 1))))))
 .nil),none⟩
noncomputable def cM:Def:=⟨["floor","spot"],2,(.cons (.expr (.call "need_open" (.cons (.var 0) (.cons (.var 1) .nil))))
 (.cons (.ret (.blt .int (.cons (.sub (.sub (.var 0) (.sub (.var 1) (.cst (.int 0)))) (.sub (.var 1) (.cst (.int 1)))) .nil)))
 .nil)),none⟩
noncomputable def bq:Def:=⟨["floor","one","other"],3,(.cons (.ret (.and (.call "is_open" (.cons (.var 0) (.cons (.tup (.cons (.sub (.var 1) (.cst (.int 0))) (.cons (.sub (.var 2) (.cst (.int 1))) .nil))) .nil))) (.call "is_open" (.cons (.var 0) (.cons (.tup (.cons (.sub (.var 2) (.cst (.int 0))) (.cons (.sub (.var 1) (.cst (.int 1))) .nil))) .nil)))))
 .nil),none⟩
noncomputable def bF:Def:=⟨["floor","walker","one","other","is_slanting","rise","flat_cost"],4,(.cons (.ite (.not (.call "are_beside" (.cons (.var 2) (.cons (.var 3) .nil))))
 (.cons (.ret (.cst .non))
 .nil)
 .nil)
 (.cons (.set 4 (.and (.cmp .ne (.sub (.var 2) (.cst (.int 0))) (.sub (.var 3) (.cst (.int 0)))) (.cmp .ne (.sub (.var 2) (.cst (.int 1))) (.sub (.var 3) (.cst (.int 1))))))
 (.cons (.ite (.and (.var 4) (.not (.and (.sub (.var 1) (.cst (.int 0))) (.call "has_open_corners" (.cons (.var 0) (.cons (.var 2) (.cons (.var 3) .nil)))))))
  (.cons (.ret (.cst .non))
  .nil)
  .nil)
 (.cons (.set 5 (.bin .sub (.call "height_at" (.cons (.var 0) (.cons (.var 3) .nil))) (.call "height_at" (.cons (.var 0) (.cons (.var 2) .nil)))))
 (.cons (.ite (.cmp .gt (.blt .abs (.cons (.var 5) .nil)) (.sub (.var 1) (.cst (.int 1))))
  (.cons (.ret (.cst .non))
  .nil)
  .nil)
 (.cons (.set 6 (.ite (.var 4) (.glob "SLANTING_COST" (.int 3)) (.glob "STRAIGHT_COST" (.int 2))))
 (.cons (.ret (.bin .add (.var 6) (.bin .mul (.sub (.var 1) (.cst (.int 2))) (.blt .max2 (.cons (.var 5) (.cons (.cst (.int 0)) .nil))))))
 .nil))))))),none⟩
noncomputable def bE:Def:=⟨["floor","walker","spot","steps","other","cost"],3,(.cons (.expr (.call "need_open" (.cons (.var 0) (.cons (.var 2) .nil))))
 (.cons (.own 3 (.lst .nil))
 (.cons (.for_ (.one 4) (.seq (.call "open_spots_beside" (.cons (.var 0) (.cons (.var 2) .nil))))
  (.cons (.set 5 (.call "step_cost" (.cons (.var 0) (.cons (.var 1) (.cons (.var 2) (.cons (.var 4) .nil))))))
  (.cons (.ite (.cmp .isn (.var 5) (.cst .non))
   (.cons (.app 3 (.tup (.cons (.var 4) (.cons (.var 5) .nil))))
   .nil)
   .nil)
  .nil)))
 (.cons (.frz 3)
 (.cons (.ret (.var 3))
 .nil))))),none⟩
noncomputable def cF:Def:=⟨["floor","walker","onward","spot"],2,(.cons (.dnew 2)
 (.cons (.for_ (.one 3) (.seq (.call "open_spots" (.cons (.var 0) .nil)))
  (.cons (.put 2 (.var 3) (.comp 1 [] (.one 0) (.seq (.call "steps_from" (.cons (.var 0) (.cons (.var 1) (.cons (.var 3) .nil))))) (.sub (.var 0) (.cst (.int 0)))))
  .nil))
 (.cons (.frz 2)
 (.cons (.ret (.var 2))
 .nil)))),none⟩
noncomputable def ba:Def:=⟨["starts","steps","reached","waiting","start","spot","other","cost","together"],2,(.cons (.dnew 2)
 (.cons (.dnew 3)
 (.cons (.for_ (.one 4) (.seq (.var 0))
  (.cons (.put 3 (.var 4) (.tup (.cons (.cst (.int 0)) (.cons (.cst .non) .nil))))
  .nil))
 (.cons (.whl (.cmp .gt (.blt .len (.cons (.tmp 3) .nil)) (.cst (.int 0)))
  (.cons (.minK 5 3)
  (.cons (.putPop 2 3 5)
  (.cons (.for_ (.two 6 7) (.seq (.callv 1 (.cons (.var 5) .nil)))
   (.cons (.set 8 (.bin .add (.sub (.sub (.tmp 2) (.var 5)) (.cst (.int 0))) (.var 7)))
   (.cons (.ite (.and (.cmp .nin (.var 6) (.tmp 2)) (.or (.cmp .nin (.var 6) (.tmp 3)) (.cmp .lt (.var 8) (.sub (.sub (.tmp 3) (.var 6)) (.cst (.int 0))))))
    (.cons (.put 3 (.var 6) (.tup (.cons (.var 8) (.cons (.var 5) .nil))))
    .nil)
    .nil)
   .nil)))
  .nil))))
 (.cons (.frz 2)
 (.cons (.ret (.var 2))
 .nil)))))),some ("steps_from",[1,2,1,0])⟩
noncomputable def cb:Def:=⟨["floor","walker","start"],3,(.cons (.expr (.call "need_open" (.cons (.var 0) (.cons (.var 2) .nil))))
 (.cons (.ret (.callL "spread@steps_from" (.cons (.lst (.cons (.var 2) .nil)) .nil) "steps_from" [1,2,1,0] [1,0]))
 .nil)),none⟩
def cN:Def:=⟨["floor","walker","spot"],3,(.cons (.ret (.blt .sorted (.cons (.call "spread_from" (.cons (.var 0) (.cons (.var 1) (.cons (.var 2) .nil)))) .nil)))
 .nil),none⟩
noncomputable def fB:Def:=⟨["floor","walker","found","placed","spot","room","member"],2,(.cons (.own 2 (.lst .nil))
 (.cons (.dnew 3)
 (.cons (.for_ (.one 4) (.seq (.call "open_spots" (.cons (.var 0) .nil)))
  (.cons (.ite (.cmp .nin (.var 4) (.tmp 3))
   (.cons (.set 5 (.call "room_with" (.cons (.var 0) (.cons (.var 1) (.cons (.var 4) .nil)))))
   (.cons (.app 2 (.var 5))
   (.cons (.for_ (.one 6) (.seq (.var 5))
    (.cons (.put 3 (.var 6) (.cst (.bl true)))
    .nil))
   .nil)))
   .nil)
  .nil))
 (.cons (.frz 2)
 (.cons (.ret (.var 2))
 .nil))))),none⟩
noncomputable def bX:Def:=⟨["one","other","spot"],3,(.cons (.ret (.cmp .in_ (.var 2) (.tup (.cons (.var 0) (.cons (.var 1) (.cons (.tup (.cons (.sub (.var 0) (.cst (.int 0))) (.cons (.sub (.var 1) (.cst (.int 1))) .nil))) (.cons (.tup (.cons (.sub (.var 1) (.cst (.int 0))) (.cons (.sub (.var 0) (.cst (.int 1))) .nil))) .nil)))))))
 .nil),none⟩
noncomputable def bM:Def:=⟨["onward","start","wall","reached","waiting","one","other"],3,(.cons (.dnew1 3 1 true)
 (.cons (.own 4 (.lst (.cons (.var 1) .nil)))
 (.cons (.whl (.cmp .gt (.blt .len (.cons (.tmp 4) .nil)) (.cst (.int 0)))
  (.cons (.pop 5 4)
  (.cons (.for_ (.one 6) (.seq (.sub (.var 0) (.var 5)))
   (.cons (.ite (.and (.cmp .nin (.var 6) (.tmp 3)) (.not (.call "needs_open" (.cons (.var 5) (.cons (.var 6) (.cons (.var 2) .nil))))))
    (.cons (.put 3 (.var 6) (.cst (.bl true)))
    (.cons (.app 4 (.var 6))
    .nil))
    .nil)
   .nil))
  .nil)))
 (.cons (.frz 3)
 (.cons (.ret (.var 3))
 .nil))))),none⟩
noncomputable def cA:Def:=⟨["onward","room","spot","others"],3,(.cons (.set 3 (.compIf 1 [2] (.one 0) (.seq (.var 1)) (.cmp .ne (.var 0) (.var 1)) (.var 0)))
 (.cons (.ret (.and (.cmp .gt (.blt .len (.cons (.var 3) .nil)) (.cst (.int 0))) (.cmp .lt (.blt .len (.cons (.call "reached_past" (.cons (.var 0) (.cons (.sub (.var 3) (.cst (.int 0))) (.cons (.var 2) .nil)))) .nil)) (.blt .len (.cons (.var 3) .nil)))))
 .nil)),none⟩
noncomputable def bQ:Def:=⟨["floor","walker","onward","narrow","room"],2,(.cons (.set 2 (.call "steps_over" (.cons (.var 0) (.cons (.var 1) .nil))))
 (.cons (.own 3 (.lst .nil))
 (.cons (.for_ (.one 4) (.seq (.call "rooms" (.cons (.var 0) (.cons (.var 1) .nil))))
  (.cons (.extd 3 (.compIf 1 [4,2] (.one 0) (.seq (.var 4)) (.call "is_narrow" (.cons (.var 2) (.cons (.var 1) (.cons (.var 0) .nil)))) (.var 0)))
  .nil))
 (.cons (.ret (.blt .sorted (.cons (.tmp 3) .nil)))
 .nil)))),none⟩
noncomputable def cE:Def:=⟨["_law_floor_here","_law_made","_law_row","_law_signs"],1,(.cons (.own 1 (.lst .nil))
 (.cons (.for_ (.two 2 3) (.enum (.var 0))
  (.cons (.extd 1 (.compIf 2 [2] (.two 0 1) (.enum (.var 3)) (.cmp .ne (.var 1) (.cst (.str "#"))) (.tup (.cons (.var 2) (.cons (.var 0) .nil)))))
  .nil))
 (.cons (.frz 1)
 (.cons (.ret (.var 1))
 .nil)))),none⟩
noncomputable def cj:Def:=⟨["_law_floor_here","_law_spot","_law_row"],2,(.cons (.set 2 (.sub (.var 0) (.sub (.var 1) (.cst (.int 0)))))
 (.cons (.ret (.bin .add (.bin .add (.slice (.var 0) .no (.some (.sub (.var 1) (.cst (.int 0))))) (.tup (.cons (.bin .add (.bin .add (.slice (.var 2) .no (.some (.sub (.var 1) (.cst (.int 1))))) (.cst (.str "#"))) (.slice (.var 2) (.some (.bin .add (.sub (.var 1) (.cst (.int 1))) (.cst (.int 1)))) .no)) .nil))) (.slice (.var 0) (.some (.bin .add (.sub (.var 1) (.cst (.int 0))) (.cst (.int 1)))) .no)))
 .nil)),none⟩
noncomputable def bG:Def:=⟨["_law_floor_here","_law_walker_here","_law_spot","_law_goal","_law_rise","_law_cost_here"],4,(.cons (.set 4 (.bin .sub (.blt .int (.cons (.sub (.sub (.var 0) (.sub (.var 3) (.cst (.int 0)))) (.sub (.var 3) (.cst (.int 1)))) .nil)) (.blt .int (.cons (.sub (.sub (.var 0) (.sub (.var 2) (.cst (.int 0)))) (.sub (.var 2) (.cst (.int 1)))) .nil))))
 (.cons (.set 5 (.cst (.int 2)))
 (.cons (.ite (.or (.cmp .gt (.var 4) (.sub (.var 1) (.cst (.int 1)))) (.cmp .gt (.bin .sub (.cst (.int 0)) (.var 4)) (.sub (.var 1) (.cst (.int 1)))))
  (.cons (.ret (.cst .non))
  .nil)
  .nil)
 (.cons (.ite (.and (.cmp .ne (.sub (.var 2) (.cst (.int 0))) (.sub (.var 3) (.cst (.int 0)))) (.cmp .ne (.sub (.var 2) (.cst (.int 1))) (.sub (.var 3) (.cst (.int 1)))))
  (.cons (.ite (.or (.not (.sub (.var 1) (.cst (.int 0)))) (.or (.cmp .eq (.sub (.sub (.var 0) (.sub (.var 2) (.cst (.int 0)))) (.sub (.var 3) (.cst (.int 1)))) (.cst (.str "#"))) (.cmp .eq (.sub (.sub (.var 0) (.sub (.var 3) (.cst (.int 0)))) (.sub (.var 2) (.cst (.int 1)))) (.cst (.str "#")))))
   (.cons (.ret (.cst .non))
   .nil)
   .nil)
  (.cons (.set 5 (.cst (.int 3)))
  .nil))
  .nil)
 (.cons (.ret (.bin .add (.var 5) (.ite (.cmp .gt (.var 4) (.cst (.int 0))) (.bin .mul (.sub (.var 1) (.cst (.int 2))) (.var 4)) (.cst (.int 0)))))
 .nil))))),none⟩
noncomputable def bC:Def:=⟨["_law_floor_here","_law_walker_here","_law_spot","_law_made","_law_k","_law_row","_law_column","_law_cost_here"],3,(.cons (.own 3 (.lst .nil))
 (.cons (.for_ (.one 4) (.rng (.cst (.int 9)))
  (.cons (.set 5 (.bin .add (.bin .sub (.sub (.var 2) (.cst (.int 0))) (.cst (.int 1))) (.bin .fdiv (.var 4) (.cst (.int 3)))))
  (.cons (.set 6 (.bin .add (.bin .sub (.sub (.var 2) (.cst (.int 1))) (.cst (.int 1))) (.bin .mod (.var 4) (.cst (.int 3)))))
  (.cons (.ite (.and (.ch .le .lt (.cst (.int 0)) (.var 5) (.blt .len (.cons (.var 0) .nil))) (.and (.ch .le .lt (.cst (.int 0)) (.var 6) (.blt .len (.cons (.sub (.var 0) (.cst (.int 0))) .nil))) (.and (.cmp .ne (.var 4) (.cst (.int 4))) (.cmp .ne (.sub (.sub (.var 0) (.var 5)) (.var 6)) (.cst (.str "#"))))))
   (.cons (.set 7 (.call "_law_cost" (.cons (.var 0) (.cons (.var 1) (.cons (.var 2) (.cons (.tup (.cons (.var 5) (.cons (.var 6) .nil))) .nil))))))
   (.cons (.ite (.cmp .isn (.var 7) (.cst .non))
    (.cons (.app 3 (.tup (.cons (.tup (.cons (.var 5) (.cons (.var 6) .nil))) (.cons (.var 7) .nil))))
    .nil)
    .nil)
   .nil))
   .nil)
  .nil))))
 (.cons (.frz 3)
 (.cons (.ret (.var 3))
 .nil)))),none⟩
noncomputable def cQ:Def:=⟨["_law_floor_here","_law_walker_here","_law_spot","_law_met","_law_at"],3,(.cons (.own 3 (.lst (.cons (.var 2) .nil)))
 (.cons (.set 4 (.cst (.int 0)))
 (.cons (.whl (.cmp .lt (.var 4) (.blt .len (.cons (.tmp 3) .nil)))
  (.cons (.extd 3 (.compIf 1 [3] (.one 0) (.seq (.call "_law_steps" (.cons (.var 0) (.cons (.var 1) (.cons (.sub (.tmp 3) (.var 4)) .nil))))) (.cmp .nin (.sub (.var 0) (.cst (.int 0))) (.tmp 1)) (.sub (.var 0) (.cst (.int 0)))))
  (.cons (.set 4 (.bin .add (.var 4) (.cst (.int 1))))
  .nil)))
 (.cons (.ret (.blt .sorted (.cons (.tmp 3) .nil)))
 .nil)))),none⟩
noncomputable def bZ:Def:=⟨["_law_floor_here","_law_walker_here","_law_spot","_law_others","_law_fenced_here","_law_left"],3,(.cons (.set 3 (.compIf 1 [2] (.one 0) (.seq (.call "_law_room" (.cons (.var 0) (.cons (.var 1) (.cons (.var 2) .nil))))) (.cmp .ne (.var 0) (.var 1)) (.var 0)))
 (.cons (.set 4 (.call "_law_fenced" (.cons (.var 0) (.cons (.var 2) .nil))))
 (.cons (.ite (.cmp .eq (.var 3) (.lst .nil))
  (.cons (.ret (.cst (.bl false)))
  .nil)
  .nil)
 (.cons (.set 5 (.call "_law_room" (.cons (.var 4) (.cons (.var 1) (.cons (.sub (.var 3) (.neg (.cst (.int 1)))) .nil)))))
 (.cons (.ret (.cmp .ne (.compIf 1 [5] (.one 0) (.seq (.var 3)) (.cmp .nin (.var 0) (.var 1)) (.var 0)) (.lst .nil)))
 .nil))))),none⟩
noncomputable def d_law:Def:=⟨["_law_script","_law_floor_here","_law_walker_here"],1,(.cons (.set 1 (.call "_law_floor" (.cons (.var 0) (.cons (.cst (.int 0)) (.cons (.cst (.int 5)) .nil)))))
 (.cons (.set 2 (.call "_law_walker" (.cons (.var 0) (.cons (.cst (.int 40)) .nil))))
 (.cons (.ret (.cmp .eq (.call "narrow_spots" (.cons (.var 1) (.cons (.var 2) .nil))) (.compIf 1 [2,1] (.one 0) (.seq (.call "_law_spots" (.cons (.var 1) .nil))) (.call "_law_parts" (.cons (.var 2) (.cons (.var 1) (.cons (.var 0) .nil)))) (.var 0))))
 .nil))),none⟩
def T0:List (Str×Def):=[]
noncomputable def T1:List (Str×Def):=(("_law_cell":Str),cO)::T0
noncomputable def T2:List (Str×Def):=(("_law_pick":Str),bS)::T1
noncomputable def T3:List (Str×Def):=(("_law_floor":Str),bU)::T2
noncomputable def T4:List (Str×Def):=(("_law_walker":Str),b9)::T3
noncomputable def T5:List (Str×Def):=(("open_spots":Str),bW)::T4
noncomputable def T6:List (Str×Def):=(("is_whole":Str),dC)::T5
noncomputable def T7:List (Str×Def):=(("is_spot":Str),dz)::T6
noncomputable def T8:List (Str×Def):=(("is_on_floor":Str),cg)::T7
noncomputable def T9:List (Str×Def):=(("is_open":Str),cD)::T8
noncomputable def Ki:List (Str×Def):=(("need_open":Str),bD)::T9
noncomputable def Ld:List (Str×Def):=(("open_spots_beside":Str),bb)::Ki
noncomputable def JB:List (Str×Def):=(("are_beside":Str),cG)::Ld
noncomputable def Ku:List (Str×Def):=(("height_at":Str),cM)::JB
noncomputable def Gv:List (Str×Def):=(("has_open_corners":Str),bq)::Ku
noncomputable def yV:List (Str×Def):=(("step_cost":Str),bF)::Gv
noncomputable def Iu:List (Str×Def):=(("steps_from":Str),bE)::yV
noncomputable def Kq:List (Str×Def):=(("steps_over":Str),cF)::Iu
noncomputable def Fx:List (Str×Def):=(("spread@steps_from":Str),ba)::Kq
noncomputable def H8:List (Str×Def):=(("spread_from":Str),cb)::Fx
noncomputable def GL:List (Str×Def):=(("room_with":Str),cN)::H8
noncomputable def LN:List (Str×Def):=(("rooms":Str),fB)::GL
noncomputable def HN:List (Str×Def):=(("needs_open":Str),bX)::LN
noncomputable def HM:List (Str×Def):=(("reached_past":Str),bM)::HN
noncomputable def Br:List (Str×Def):=(("is_narrow":Str),cA)::HM
noncomputable def Le:List (Str×Def):=(("narrow_spots":Str),bQ)::Br
noncomputable def Lg:List (Str×Def):=(("_law_spots":Str),cE)::Le
noncomputable def KO:List (Str×Def):=(("_law_fenced":Str),cj)::Lg
noncomputable def JU:List (Str×Def):=(("_law_cost":Str),bG)::KO
noncomputable def Ib:List (Str×Def):=(("_law_steps":Str),bC)::JU
noncomputable def GY:List (Str×Def):=(("_law_room":Str),cQ)::Ib
noncomputable def Dr:List (Str×Def):=(("_law_parts":Str),bZ)::GY
theorem HH:den T1 "_law_cell"=af (den T0) cO:=(aA 0 (by decide+kernel)).trans aL
theorem FW:den T2 "_law_pick"=af (den T1) bS:=(aA 0 (by decide+kernel)).trans aL
theorem FN:den T3 "_law_pick"=af (den T1) bS:=(aA 1 (by decide+kernel)).trans aL
theorem FV:den T6 "is_whole"=af (den T5) dC:=(aA 0 (by decide+kernel)).trans aL
theorem Hu:den T8 "is_spot"=af (den T6) dz:=(aA 1 (by decide+kernel)).trans aL
theorem GZ:den T8 "is_on_floor"=af (den T7) cg:=(aA 0 (by decide+kernel)).trans aL
theorem FZ:den T9 "is_open"=af (den T8) cD:=(aA 0 (by decide+kernel)).trans aL
theorem Cg:den Ki "is_open"=af (den T8) cD:=(aA 1 (by decide+kernel)).trans aL
theorem zY:den JB "need_open"=af (den T9) bD:=(aA 2 (by decide+kernel)).trans aL
theorem DI:den Ku "is_open"=af (den T8) cD:=(aA 4 (by decide+kernel)).trans aL
theorem zP:den Gv "are_beside"=af (den Ld) cG:=(aA 2 (by decide+kernel)).trans aL
theorem zO:den Gv "has_open_corners"=af (den Ku) bq:=(aA 0 (by decide+kernel)).trans aL
theorem Bb:den Gv "height_at"=af (den JB) cM:=(aA 1 (by decide+kernel)).trans aL
theorem yE:den yV "need_open"=af (den T9) bD:=(aA 5 (by decide+kernel)).trans aL
theorem A3:den yV "open_spots_beside"=af (den Ki) bb:=(aA 4 (by decide+kernel)).trans aL
theorem zH:den yV "step_cost"=af (den Gv) bF:=(aA 0 (by decide+kernel)).trans aL
theorem Eh:den Iu "open_spots"=af (den T4) bW:=(aA 11 (by decide+kernel)).trans aL
theorem Bf:den Iu "steps_from"=af (den yV) bE:=(aA 0 (by decide+kernel)).trans aL
theorem AU:den Kq "steps_from"=af (den yV) bE:=(aA 1 (by decide+kernel)).trans aL
theorem yQ:den Fx "need_open"=af (den T9) bD:=(aA 8 (by decide+kernel)).trans aL
theorem yC:den Fx "spread@steps_from"=af (den Kq) ba:=(aA 0 (by decide+kernel)).trans aL
theorem AB:den H8 "spread_from"=af (den Fx) cb:=(aA 0 (by decide+kernel)).trans aL
theorem DJ:den GL "open_spots"=af (den T4) bW:=(aA 15 (by decide+kernel)).trans aL
theorem Ac:den GL "room_with"=af (den H8) cN:=(aA 0 (by decide+kernel)).trans aL
theorem A9:den HN "needs_open"=af (den LN) bX:=(aA 0 (by decide+kernel)).trans aL
theorem AO:den HM "reached_past"=af (den HN) bM:=(aA 0 (by decide+kernel)).trans aL
theorem zZ:den Br "steps_over"=af (den Iu) cF:=(aA 7 (by decide+kernel)).trans aL
theorem Ax:den Br "rooms"=af (den GL) fB:=(aA 3 (by decide+kernel)).trans aL
theorem AD:den Br "is_narrow"=af (den HM) cA:=(aA 0 (by decide+kernel)).trans aL
theorem AX:den JU "_law_cost"=af (den KO) bG:=(aA 0 (by decide+kernel)).trans aL
theorem zo:den Ib "_law_steps"=af (den JU) bC:=(aA 0 (by decide+kernel)).trans aL
theorem z9:den GY "_law_room"=af (den Ib) cQ:=(aA 0 (by decide+kernel)).trans aL
theorem zC:den GY "_law_fenced"=af (den Lg) cj:=(aA 3 (by decide+kernel)).trans aL
theorem D0:den Dr "_law_floor"=af (den T2) bU:=(aA 28 (by decide+kernel)).trans aL
theorem C0:den Dr "_law_walker"=af (den T3) b9:=(aA 27 (by decide+kernel)).trans aL
theorem As:den Dr "narrow_spots"=af (den Br) bQ:=(aA 6 (by decide+kernel)).trans aL
theorem Aq:den Dr "_law_spots"=af (den Le) cE:=(aA 5 (by decide+kernel)).trans aL
theorem yR:den Dr "_law_parts"=af (den GY) bZ:=(aA 0 (by decide+kernel)).trans aL
end K31
namespace K31
open PySem L2 Ci KJ
abbrev sp(r c:Int):PV:=.tup [.int r,.int c]
abbrev jr(ns:List Int):PV:=.lst (ns.map .int)
theorem oq(F:aS)(i:Int):af F dC [.int i]=.ok (.bl true):=by rfl
theorem g9{α:Type}{xs:List α}{k:Nat}(h:k<xs.length):oE xs (k:Int)=some xs[k]:=by
 unfold oE Bs;have:((k:Nat):Int)<(xs.length:Int):=by omega
 simp [this,h]
theorem rR{ns:List Int}{k:Int}(h0:0≤k)(h:k<ns.length):∃m,oE (ns.map PV.int) k=some (.int m):=by
 obtain⟨j,rfl⟩:=Int.eq_ofNat_of_zero_le h0
 refine⟨ns[j]'(by omega),?_⟩;rw [g9 (k:=j) (by simp;omega)];simp
theorem xS(ns:List Int)(n:Nat):Ci.plain (n+1) (.lst (ns.map .int))=true:=by
 simp only [Ci.plain,List.all_eq_true,List.mem_map]
 rintro x ⟨i,_,rfl⟩
 cases n<;>rfl
theorem eq_nil(ns:List Int):fX (jr ns) (.lst [])=.ok (.bl (decide (ns=[]))):=by
 have e:pln (jr ns)=true:=xS ns 8
 unfold fX;rw [e];cases ns<;>rfl
theorem AM(F:aS)(ns:List Int)(k:Int)(hk:0≤k):∃m,af F cO [jr ns,.int k]=.ok (.int m):=by
 simp only [cO,af,aa,ae,ai,aK,ay,ak,aP,aO,av,ax,aw,Nat.reduceAdd,Nat.reduceSub,reduceIte,J,List.length_map,eq_nil]
 by_cases h:k<(ns.length:Int)
 ·obtain⟨m,e⟩:=rR hk h
  refine⟨m,?_⟩;simp only [h,decide_true,af,aa,ae,ai,aK,ay,ak,aP,aO,av,ax,aw,Nat.reduceAdd,Nat.reduceSub,reduceIte,J,aQ,e]
 ·simp only [h,decide_false,af,aa,ae,ai,aK,ay,ak,aP,aO,av,ax,aw,Nat.reduceAdd,Nat.reduceSub,reduceIte,J,eq_nil];cases ns with
  |nil=>exact⟨0,rfl⟩
  |cons n ns=>
   have hl:(0:Int)<((n::ns).length:Int):=by simp only [List.length_cons];omega
   obtain⟨m,e⟩:=rR (ns:=n::ns) (k:=k%((n::ns).length:Int)) (Int.emod_nonneg _ (by omega)) (Int.emod_lt_of_pos _ hl)
   refine⟨m*31+k,?_⟩;have e3:(aR m||aR 31)=true:=by rw [Bool.or_eq_true];exact .inr (by decide)
   have e4:aQ (jr (n::ns)) (.int (k%((n::ns).length:Int)))=.ok (.int m):=by simp only [aQ,e];rfl
   have e5:decide ((n::ns)=[])=false:=rfl
   simp only [List.length_cons] at hl e4;simp only [e5,af,aa,ae,ai,aK,ay,ak,aP,aO,av,ax,aw,Nat.reduceAdd,Nat.reduceSub,reduceIte,J,List.length_map,hl,e4,e3]
theorem Ai(F:aS)(hc:∀ns k,0≤k→∃m,F "_law_cell" [jr ns,.int k]=.ok (.int m))(ns:List Int)(k q:Int)(hk:0≤k)(hq:0<q):∃m,af F bS [jr ns,.int k,.int q]=.ok (.int m)∧0≤m∧m<q:=by
 obtain⟨m,e⟩:=hc ns k hk
 have s1:(aR 6151||aR (k+1))=true:=by rw [Bool.or_eq_true];exact .inl (by decide)
 have s2:(aR (m+6151*(k+1))||aR 40692)=true:=by rw [Bool.or_eq_true];exact .inr (by decide)
 have s3:(0:Int)<2147483399:=by decide
 have s4:(0:Int)<2147483629:=by decide
 have s5:(0:Int)<31∧(31:Int)<1073741824:=by decide
 have a0:=Int.emod_nonneg ((m+6151*(k+1))*40692) (b:=2147483399) (by decide)
 have a1:=Int.emod_lt_of_pos ((m+6151*(k+1))*40692) s3
 refine⟨((((m+6151*(k+1))*40692%2147483399)*((m+6151*(k+1))*40692%2147483399)+((m+6151*(k+1))*40692%2147483399)/31)%2147483629)%q,?_,Int.emod_nonneg _ (by omega),Int.emod_lt_of_pos _ hq⟩;generalize hd:(m+6151*(k+1))*40692%2147483399=d at a0 a1
 have s6:(aR d||aR d)=true:=by
  have:aR d=true:=by simp only [aR,Bool.and_eq_true,decide_eq_true_eq];omega
  rw [this];rfl
 simp only [bS,af,aa,ae,ai,aK,ay,ak,aP,aO,av,ax,aw,Nat.reduceAdd,Nat.reduceSub,reduceIte,J,jr] at e⊢;simp only [e,af,aa,ae,ai,aK,ay,ak,aP,aO,av,ax,aw,Nat.reduceAdd,Nat.reduceSub,reduceIte,J,s1,s2,s3,s4,s5,hd,s6,hq,and_self]
def oy(rows:List Str):Prop:=rows.length≤6∧∀z∈rows,z.length≤6
abbrev fl(rows:List Str):PV:=.tup (rows.map .str)
def cd(rows:List Str)(r c:Nat):Option Nat:=(rows[r]?).bind fun z=>z.cps.toList[c]?
def iX(rows:List Str)(r c:Nat):Bool:=match cd rows r c with|some x=>x !=35|none=>false
def bu(rows:List Str)(r c:Int):Bool:=decide (0≤r)&&decide (0≤c)&&iX rows r.toNat c.toNat
theorem qR(F:aS)(h:∀i,F "is_whole" [.int i]=.ok (.bl true))(r c:Int):af F dz [sp r c]=.ok (.bl true):=by
 have e0:aQ (sp r c) (.int 0)=.ok (.int r):=rfl
 have e1:aQ (sp r c) (.int 1)=.ok (.int c):=rfl
 have e2:fX (.int ((2:Nat):Int)) (.int 2)=.ok (.bl true):=rfl
 simp only [dz,af,aa,ae,ai,aK,ay,ak,aP,aO,av,ax,aw,Nat.reduceAdd,Nat.reduceSub,reduceIte,J,qH,h,e0,e1,e2]
theorem Gm(F:aS)(rows:List Str)(R:oy rows)(r c:Int):af F cg [fl rows,sp r c]=.ok (.bl (decide (0≤r)&&decide (0≤c)&&(cd rows r.toNat c.toNat).isSome)):=by
 have e0:aQ (sp r c) (.int 0)=.ok (.int r):=rfl
 have e1:aQ (sp r c) (.int 1)=.ok (.int c):=rfl
 simp only [cg,af,aa,ae,ai,aK,ay,ak,aP,aO,av,ax,aw,Nat.reduceAdd,Nat.reduceSub,reduceIte,J,qH,e0,e1,oR,pO,List.length_map]
 by_cases h0:0≤r
 ·by_cases h1:r<(rows.length:Int)
  ·obtain⟨j,rfl⟩:=Int.eq_ofNat_of_zero_le h0
   have hj:j<rows.length:=by omega
   have e2:aQ (fl rows) (.int (j:Int))=.ok (.str rows[j]):=by
    simp only [aQ,fl];rw [g9 (k:=j) (by simpa using hj)];simp [Res.of]
   have e3:(rows[j]).length≤dg:=Nat.le_trans (R.2 _ (List.getElem_mem hj)) (by decide)
   have e4:(rows[j]).cps.size=(rows[j]).length:=rfl
   simp only [h0,h1,decide_true,af,aa,ae,ai,aK,ay,ak,aP,aO,av,ax,aw,Nat.reduceAdd,Nat.reduceSub,reduceIte,J,e2,e3]
   by_cases h2:0≤c
   ·obtain⟨i,rfl⟩:=Int.eq_ofNat_of_zero_le h2
    simp only [h2,decide_true,af,aa,ae,ai,aK,ay,ak,aP,aO,av,ax,aw,Nat.reduceAdd,Nat.reduceSub,reduceIte,J,cd,Int.toNat_natCast,List.getElem?_eq_getElem hj,Option.bind_some,Bool.and_self,Bool.true_and,Res.ok.injEq,PV.bl.injEq];rw [Bool.eq_iff_iff];simp [e4]
   ·simp [af,aa,ae,ai,aK,ay,ak,aP,aO,av,ax,aw,Nat.reduceAdd,Nat.reduceSub,reduceIte,J,h2]
  ·have:cd rows r.toNat c.toNat=none:=by
    unfold cd;rw [List.getElem?_eq_none (by omega)];rfl
   simp [af,aa,ae,ai,aK,ay,ak,aP,aO,av,ax,aw,Nat.reduceAdd,Nat.reduceSub,reduceIte,J,h0,h1,this]
 ·simp [af,aa,ae,ai,aK,ay,ak,aP,aO,av,ax,aw,Nat.reduceAdd,Nat.reduceSub,reduceIte,J,h0]
theorem rh{rows:List Str}{j:Nat}{z:Str}(h:rows[j]?=some z):aQ (fl rows) (.int (j:Int))=.ok (.str z):=by
 obtain⟨hj,rfl⟩:=List.getElem?_eq_some_iff.1 h
 simp only [aQ,fl];rw [g9 (k:=j) (by simpa using hj)];simp [Res.of]
theorem yD{z:Str}{i x:Nat}(hz:z.length≤dg)(h:z.cps.toList[i]?=some x):aQ (.str z) (.int (i:Int))=.ok (.str ⟨#[x]⟩):=by
 obtain⟨hj,rfl⟩:=List.getElem?_eq_some_iff.1 h
 simp only [aQ,hz,if_true];rw [g9 (k:=i) hj]
 rfl
theorem yl{rows:List Str}(R:oy rows){j i x:Nat}(h:cd rows j i=some x):∃z,rows[j]?=some z∧aQ (fl rows) (.int (j:Int))=.ok (.str z)∧aQ (.str z) (.int (i:Int))=.ok (.str ⟨#[x]⟩):=by
 unfold cd at h;cases hz:rows[j]? with
 |none=>rw [hz] at h;cases h
 |some z=>
  rw [hz] at h;exact⟨z,rfl,rh hz,yD (Nat.le_trans (R.2 _ (List.mem_of_getElem? hz)) (by decide)) h⟩
theorem qB(x:Nat):gR (.str ⟨#[x]⟩) (.str "#")=.ok (.bl (x !=35)):=by
 have:(("#":Str))=⟨#[35]⟩:=by decide+kernel
 rw [this];show Res.ok (PV.bl (!((⟨#[x]⟩:Str)==⟨#[35]⟩)))=_
 congr 2
 rw [bne,Bool.eq_iff_iff];simp
theorem zA(F:aS)(hs:∀r c,F "is_spot" [sp r c]=.ok (.bl true))(ho:∀rows,oy rows→∀r c,F "is_on_floor" [fl rows,sp r c]=.ok (.bl (decide (0≤r)&&decide (0≤c)&&(cd rows r.toNat c.toNat).isSome)))
 (rows:List Str) (R:oy rows) (r c:Int):af F cD [fl rows,sp r c]=.ok (.bl (bu rows r c)):=by
 have e0:aQ (sp r c) (.int 0)=.ok (.int r):=rfl
 have e1:aQ (sp r c) (.int 1)=.ok (.int c):=rfl
 simp only [cD,af,aa,ae,ai,aK,ay,ak,aP,aO,av,ax,aw,Nat.reduceAdd,Nat.reduceSub,reduceIte,J,hs,ho rows R,e0,e1];unfold bu iX
 by_cases h0:0≤r
 ·by_cases h1:0≤c
  ·obtain⟨j,rfl⟩:=Int.eq_ofNat_of_zero_le h0
   obtain⟨i,rfl⟩:=Int.eq_ofNat_of_zero_le h1
   simp only [h0,h1,decide_true,Bool.true_and,Bool.and_self,Int.toNat_natCast];cases hc:cd rows j i with
   |none=>simp [af,aa,ae,ai,aK,ay,ak,aP,aO,av,ax,aw,Nat.reduceAdd,Nat.reduceSub,reduceIte,J]
   |some x=>
    obtain⟨z,_,e2,e3⟩:=yl R hc
    simp only [Option.isSome_some,af,aa,ae,ai,aK,ay,ak,aP,aO,av,ax,aw,Nat.reduceAdd,Nat.reduceSub,reduceIte,J,e2,e3,qB]
  ·simp [af,aa,ae,ai,aK,ay,ak,aP,aO,av,ax,aw,Nat.reduceAdd,Nat.reduceSub,reduceIte,J,h1]
 ·simp [af,aa,ae,ai,aK,ay,ak,aP,aO,av,ax,aw,Nat.reduceAdd,Nat.reduceSub,reduceIte,J,h0]
theorem nj(F:aS)(ho:∀rows,oy rows→∀r c,F "is_open" [fl rows,sp r c]=.ok (.bl (bu rows r c)))(rows:List Str)(R:oy rows)(r c:Int)(h:bu rows r c=true):af F bD [fl rows,sp r c]=.ok .non:=by
 simp only [bD,af,aa,ae,ai,aK,ay,ak,aP,aO,av,ax,aw,Nat.reduceAdd,Nat.reduceSub,reduceIte,J,ho rows R,h]
abbrev Bt(p:Int×Int):PV:=sp p.1 p.2
theorem lY{α:Type}{f:PV→Res (Option PV)}{p:α→PV}{g:α→PV}:∀{xs:List α},(∀x∈xs,f (p x)=.ok (some (g x)))→aX f (xs.map p)=.ok (xs.map g)
 |[],_=>rfl
 |x::xs,h=>by
  simp only [List.map_cons,aX,h x (List.mem_cons_self ..),Res.well,Res.bind,lY (xs:=xs) fun y hy=>h y (List.mem_cons_of_mem _ hy),oc]
theorem dw{rows:List Str}{r c:Int}:bu rows r c=true↔0≤r∧0≤c∧iX rows r.toNat c.toNat=true:=by
 simp only [bu,Bool.and_eq_true,decide_eq_true_eq,and_assoc]
theorem d9{body:PV→Sl→Res Fl}{P:Nat→Sl→Prop}:∀(xs:List PV) (k:Nat) (env:Sl),P k env→(∀i x env,xs[i]?=some x→P (k+i) env→∃az,body x env=.ok (.nx az)∧P (k+i+1) az)→∃az,forL body xs env=.ok (.nx az)∧P (k+xs.length) az
 |[],k,env,h,_=>⟨env,rfl,h⟩
 |x::xs,k,env,h,g=>by
  obtain⟨e1,b1,p1⟩:=g 0 x env rfl h
  obtain⟨e2,b2,p2⟩:=d9 xs (k+1) e1 p1 fun i y env hy hp=>by
   obtain⟨e3,b3,p3⟩:=g (i+1) y env hy (by rw [show k+(i+1)=k+1+i by omega];exact hp)
   exact⟨e3,b3,by rw [show k+1+i+1=k+(i+1)+1 by omega];exact p3⟩
  refine⟨e2,?_,by rw [List.length_cons,show k+(xs.length+1)=k+1+xs.length by omega];exact p2⟩;simp only [forL,b1,kI,b2]
theorem yc{n i:Nat}{x:PV}(h:(eK 0 n)[i]?=some x):i<n∧x=.int (i:Int):=by
 simp only [eK,List.getElem?_map,Option.map_eq_some_iff] at h;obtain⟨j,hj,rfl⟩:=h
 obtain⟨h1,h2⟩:=List.getElem?_eq_some_iff.1 hj
 simp only [List.getElem_range] at h2;subst h2;simp only [List.length_range] at h1;exact⟨h1,by simp⟩
def nA(F:aS):Prop:=∀(ns:List Int) (k q:Int),0≤k→0<q→∃m,F "_law_pick" [jr ns,.int k,.int q]=.ok (.int m)∧0≤m∧m<q
theorem nJ{a b c d m:Int}(h0:0≤m)(h1:m<4):∃v,aQ (.lst [.int a,.int b,.int c,.int d]) (.int m)=.ok (.int v)∧(v=a∨v=b∨v=c∨v=d):=by
 have:m=0∨m=1∨m=2∨m=3:=by omega
 rcases this with rfl|rfl|rfl|rfl
 ·exact⟨a,rfl,.inl rfl⟩
 ·exact⟨b,rfl,.inr (.inl rfl)⟩
 ·exact⟨c,rfl,.inr (.inr (.inl rfl))⟩
 ·exact⟨d,rfl,.inr (.inr (.inr rfl))⟩
noncomputable def BM:Ss:=(.cons (.set 11 (.call "_law_pick" (.cons (.var 0) (.cons (.bin .add (.bin .add (.bin .add (.var 1) (.cst (.int 4))) (.bin .mul (.var 2) (.var 8))) (.var 10)) (.cons (.bin .mul (.cst (.int 12)) (.var 6)) .nil)))))
 (.cons (.set 9 (.bin .add (.var 9) (.ite (.cmp .lt (.bin .mod (.var 11) (.cst (.int 12))) (.var 5)) (.cst (.str "#")) (.blt .str (.cons (.bin .fdiv (.var 11) (.cst (.int 12))) .nil)))))
 .nil))
noncomputable def Ex:Ss:=(.cons (.set 9 (.cst (.str "")))
 (.cons (.for_ (.one 10) (.rng (.var 4)) BM)
 (.cons (.app 7 (.var 9))
 .nil)))
structure Fl(rows:List Str)(w:Nat):Prop where
 rok:oy rows
 ne:0<rows.length
 w1:1≤w
 rect:∀z∈rows,z.length=w
 dig:∀z∈rows,∀x∈z.cps.toList,x=35∨(48≤x∧x≤57)
theorem aI{i:Int}:du .abs [.int i]=.ok (.int (if i<0 then -i else i)):=id rfl
theorem mX{i j:Int}:du .max2 [.int i,.int j]=.ok (.int (if j>i then j else i)):=id rfl
theorem MS:da .gt=rB:=id rfl
theorem Nh{i j:Int}:rB (.int i) (.int j)=.ok (.bl (decide (j<i))):=id rfl
theorem IZ:da .isn=fK:=id rfl
theorem y7{v:Int}(h0:0≤v)(h1:v<10):du .str [.int v]=.ok (.str ⟨#[48+v.toNat]⟩):=by
 have:v=0∨v=1∨v=2∨v=3∨v=4∨v=5∨v=6∨v=7∨v=8∨v=9:=by omega
 rcases this with rfl|rfl|rfl|rfl|rfl|rfl|rfl|rfl|rfl|rfl<;>(show Res.ok (PV.str _)=_;congr 2)
theorem yK{x:Nat}(h0:48≤x)(h1:x≤57):du .int [.str ⟨#[x]⟩]=.ok (.int ((x:Int)-48)):=by
 have:x=48∨x=49∨x=50∨x=51∨x=52∨x=53∨x=54∨x=55∨x=56∨x=57:=by omega
 have k:∀(y:Nat) (v:Int),PySem.intText? (⟨#[y]⟩:Str)=some v→du .int [.str ⟨#[y]⟩]=.ok (.int v):=fun y v e=>by
  show(if(⟨#[y]⟩:Str).length≤640 then(Res.of (PySem.intText? (⟨#[y]⟩:Str))).bind fun n=>Res.ok (PV.int n) else .bad)=_
  rw [if_pos (show(⟨#[y]⟩:Str).length≤640 from(by show 1≤640;decide)),e]
  rfl
 rcases this with rfl|rfl|rfl|rfl|rfl|rfl|rfl|rfl|rfl|rfl<;>exact k _ _ (by decide+kernel)
theorem Er(F:aS)(hp:nA F)(ns:List Int)(q a b sh tp:Int)(MQ:0≤q)(KW:q≤6)(h1:1≤tp)(h2:tp≤10)(own:PV)(i n:Nat)(hn:n≤6)(Dl B5:Ci.Slot):
 ∃(z:Str) (BZ Bv:Ci.Slot),z.length=n∧(∀x∈z.cps.toList,x=35∨(48≤x∧x≤57))∧forL (fun x env=>((Tg.one 10).put x env).bind fun az=>ai F BM az) (eK 0 n) [.val (jr ns),.val (.int 0),.val (.int q),.val (.int a),.val (.int b),.val (.int sh),.val (.int tp),.own own,.val (.int i),.val (.str ""),Dl,B5]=
  .ok (.nx [.val (jr ns),.val (.int 0),.val (.int q),.val (.int a),.val (.int b),.val (.int sh),.val (.int tp),.own own,.val (.int i),.val (.str z),BZ,Bv]):=by
 obtain⟨az,e,z,BZ,Bv,hz,hd,rfl⟩:=d9 (body:=fun x env=>((Tg.one 10).put x env).bind fun az=>ai F BM az) (P:=fun j env=>∃(z:Str) (BZ Bv:Ci.Slot),z.length=j∧(∀x∈z.cps.toList,x=35∨(48≤x∧x≤57))∧env=[.val (jr ns),.val (.int 0),.val (.int q),.val (.int a),.val (.int b),.val (.int sh),.val (.int tp),.own own,.val (.int i),.val (.str z),BZ,Bv]) (eK 0 n) 0 [.val (jr ns),.val (.int 0),.val (.int q),.val (.int a),.val (.int b),.val (.int sh),.val (.int tp),.own own,.val (.int i),.val (.str ""),Dl,B5] ⟨_,_,_,by decide+kernel,by decide+kernel,rfl⟩ (by
  intro j x env hx hq;obtain⟨hj,rfl⟩:=yc hx
  obtain⟨z,BZ,Bv,hz,hd,rfl⟩:=hq
  obtain⟨m,em,m0,m1⟩:=hp ns (0+4+q*(i:Int)+(j:Int)) (12*tp) (by
   have:=Int.mul_nonneg MQ (Int.natCast_nonneg i)
   omega) (by omega)
  have q1:(aR q||aR (i:Int))=true:=by
   have:aR q=true:=by simp only [aR,Bool.and_eq_true,decide_eq_true_eq];omega
   rw [this];rfl
  have q2:(aR 12||aR tp)=true:=by rw [Bool.or_eq_true];exact .inl (by decide)
  have q3:(0:Int)<12:=by decide
  have q4:(0:Int)<12∧(12:Int)<1073741824:=by decide
  have ew:=y7 (v:=m/12) (by omega) (by omega)
  have Iw:(("#":Str))=⟨#[35]⟩:=by decide+kernel
  by_cases hm:m%12<sh
  ·refine⟨[.val (jr ns),.val (.int 0),.val (.int q),.val (.int a),.val (.int b),.val (.int sh),.val (.int tp),.own own,.val (.int i),.val (.str (z++"#")),.val (.int j),.val (.int m)],?_,_,_,_,?_,?_,rfl⟩
   ·have l:z.length+(("#":Str)).length≤dg:=Nat.le_trans (show _≤8 by rw [Iw];show z.length+1≤8;omega) (by decide)
    simp only [BM,af,aa,ae,ai,aK,ay,ak,aP,aO,av,ax,aw,Nat.reduceAdd,Nat.reduceSub,reduceIte,J,q1,q2,q3,q4,em,hm,decide_true,l,and_self]
   ·rw [Str.length_append,Iw];show z.length+1=_;omega
   ·rw [Iw];show∀x∈(z.cps++#[35]).toList,_;intro x hx;simp only [Array.toList_append,List.mem_append,List.mem_singleton] at hx;rcases hx with hx|hx
    ·exact hd x hx
    ·exact .inl hx
  ·refine⟨[.val (jr ns),.val (.int 0),.val (.int q),.val (.int a),.val (.int b),.val (.int sh),.val (.int tp),.own own,.val (.int i),.val (.str (z++⟨#[48+(m/12).toNat]⟩)),.val (.int j),.val (.int m)],?_,_,_,_,?_,?_,rfl⟩
   ·have l:z.length+(⟨#[48+(m/12).toNat]⟩:Str).length≤dg:=Nat.le_trans (show z.length+1≤8 by omega) (by decide)
    simp only [BM,af,aa,ae,ai,aK,ay,ak,aP,aO,av,ax,aw,Nat.reduceAdd,Nat.reduceSub,reduceIte,J,q1,q2,q3,q4,em,hm,decide_false,l,and_self,ew]
   ·rw [Str.length_append];show z.length+1=_;omega
   ·show∀x∈(z.cps++#[48+(m/12).toNat]).toList,_
    intro x hx;simp only [Array.toList_append,List.mem_append,List.mem_singleton] at hx;rcases hx with hx|hx
    ·exact hd x hx
    ·exact .inr (by omega))
 refine⟨z,BZ,Bv,?_,hd,e⟩
 simpa [eK] using hz
theorem um(F:aS)(hp:nA F)(ns:List Int)(q:Int)(yu:1≤q)(KW:q≤6):∃rows w,Fl rows w∧af F bU [jr ns,.int 0,.int q]=.ok (fl rows):=by
 obtain⟨a,ea,a0,a6⟩:=hp ns 0 q (by decide) (by omega)
 obtain⟨b,eb,b0,b6⟩:=hp ns (0+1) q (by decide) (by omega)
 obtain⟨c,ec,c0,c4⟩:=hp ns (0+2) 4 (by decide) (by decide)
 obtain⟨d,ed,d0,d4⟩:=hp ns (0+3) 4 (by decide) (by decide)
 obtain⟨sh,es,hs⟩:=nJ (a:=0) (b:=2) (c:=4) (d:=6) c0 c4
 obtain⟨tp,et,ht⟩:=nJ (a:=1) (b:=2) (c:=3) (d:=10) d0 d4
 have t1:1≤tp:=by omega
 have t2:tp≤10:=by omega
 have sa:bj (1+a)=true:=by simp only [bj,Bool.and_eq_true,decide_eq_true_eq];omega
 have sb:bj (1+b)=true:=by simp only [bj,Bool.and_eq_true,decide_eq_true_eq];omega
 obtain⟨az,e,rows,s8,s9,Dl,B5,hl,hr,hd,rfl⟩:=d9 (body:=fun x env=>((Tg.one 8).put x env).bind fun az=>ai F Ex az)
  (P:=fun i env=>∃(rows:List Str) (s8 s9 Dl B5:Ci.Slot),rows.length=i∧(∀z∈rows,z.length=(1+b).toNat)∧(∀z∈rows,∀x∈z.cps.toList,x=35∨(48≤x∧x≤57))∧env=[.val (jr ns),.val (.int 0),.val (.int q),.val (.int (1+a)),.val (.int (1+b)),.val (.int sh),.val (.int tp),.own (.lst (rows.map .str)),s8,s9,Dl,B5])
  (eK 0 (1+a).toNat) 0 [.val (jr ns),.val (.int 0),.val (.int q),.val (.int (1+a)),.val (.int (1+b)),.val (.int sh),.val (.int tp),.own (.lst []),.no,.no,.no,.no] ⟨[],_,_,_,_,rfl,(fun z hz=>by cases hz),(fun z hz=>by cases hz),rfl⟩ (by
  intro i x env hx hq;obtain⟨hi,rfl⟩:=yc hx
  obtain⟨rows,s8,s9,Dl,B5,hl,hr,hd,rfl⟩:=hq
  obtain⟨z,BZ,Bv,hz,hzd,e⟩:=Er F hp ns q (1+a) (1+b) sh tp (by omega) KW t1 t2 (.lst (rows.map .str)) i (1+b).toNat (by omega) Dl B5
  have l:(rows.map PV.str).length<dg:=Nat.lt_of_le_of_lt (m:=6) (by simp only [List.length_map];omega) (by decide)
  refine⟨[.val (jr ns),.val (.int 0),.val (.int q),.val (.int (1+a)),.val (.int (1+b)),.val (.int sh),.val (.int tp),.own (.lst ((rows++[z]).map .str)),.val (.int i),.val (.str z),BZ,Bv],?_,rows++[z],_,_,_,_,by simp;omega,?_,?_,rfl⟩
  ·have e':=e
   simp only [BM,af,aa,ae,ai,aK,ay,ak,aP,aO,av,ax,aw,Nat.reduceAdd,Nat.reduceSub,reduceIte,J] at e';simp only [List.length_map] at l;simp only [Ex,BM,af,aa,ae,ai,aK,ay,ak,aP,aO,av,ax,aw,Nat.reduceAdd,Nat.reduceSub,reduceIte,J,sb,e',List.length_map,l,List.map_append]
  ·intro y hy;simp only [List.mem_append,List.mem_singleton] at hy;rcases hy with hy|rfl
   ·exact hr y hy
   ·exact hz
  ·intro y hy;simp only [List.mem_append,List.mem_singleton] at hy;rcases hy with hy|rfl
   ·exact hd y hy
   ·exact hzd)
 have vN:rows.length=(1+a).toNat:=by simpa [eK] using hl
 refine⟨rows,(1+b).toNat,⟨⟨by omega,fun z hz=>by rw [hr z hz];omega⟩,by omega,by omega,hr,hd⟩,?_⟩
 simp only [Ex,BM,af,aa,ae,ai,aK,ay,ak,aP,aO,av,ax,aw,Nat.reduceAdd,Nat.reduceSub,reduceIte,J] at e;simp only [bU,bU,af,aa,ae,ai,aK,ay,ak,aP,aO,av,ax,aw,Nat.reduceAdd,Nat.reduceSub,reduceIte,J,ea,eb,ec,ed,es,et,sa,e]
end K31
namespace K31
open PySem L2 Ci KJ
def bT(rows:List Str)(r c:Int):Int:=match cd rows r.toNat c.toNat with
 |some x=>(x:Int)-48
 |none=>0
theorem xG{rows:List Str}{r c:Int}(h:bu rows r c=true):∃(i j x:Nat),r=i∧c=j∧cd rows i j=some x∧x≠35:=by
 obtain⟨h0,h1,h2⟩:=dw.1 h
 obtain⟨i,rfl⟩:=Int.eq_ofNat_of_zero_le h0
 obtain⟨j,rfl⟩:=Int.eq_ofNat_of_zero_le h1
 simp only [Int.toNat_natCast,iX] at h2;cases hc:cd rows i j with
 |none=>rw [hc] at h2;cases h2
 |some x=>
  rw [hc] at h2;exact⟨i,j,x,rfl,rfl,hc,by simpa using h2⟩
theorem EH{rows:List Str}{w:Nat}(L:Fl rows w){i j x:Nat}(h:cd rows i j=some x):x=35∨(48≤x∧x≤57):=by
 unfold cd at h;cases hz:rows[i]? with
 |none=>rw [hz] at h;cases h
 |some z=>
  rw [hz] at h;exact L.dig z (List.mem_of_getElem? hz) x (List.mem_of_getElem? h)
theorem j9{rows:List Str}{w:Nat}(L:Fl rows w){r c:Int}(h:bu rows r c=true):∃z x,aQ (fl rows) (.int r)=.ok (.str z)∧aQ (.str z) (.int c)=.ok (.str ⟨#[x]⟩)∧du .int [.str ⟨#[x]⟩]=.ok (.int (bT rows r c))∧0≤bT rows r c∧bT rows r c≤9:=by
 obtain⟨i,j,x,rfl,rfl,hc,hx⟩:=xG h
 obtain⟨z,_,e1,e2⟩:=yl L.rok hc
 have hd:=(EH L hc).resolve_left hx
 have hh:bT rows i j=(x:Int)-48:=by simp only [bT,Int.toNat_natCast,hc]
 refine⟨z,x,e1,e2,?_,?_⟩
 ·rw [hh];exact yK hd.1 hd.2
 ·rw [hh];omega
noncomputable def cL(rows:List Str)(sl:Bool)(cl pr:Int)(r c r' c':Int):Option Int:=
 if(r=r'∧c=c')∨1<r-r'∨1<r'-r∨1<c-c'∨1<c'-c then none
 else if(r≠r'∧c≠c')∧¬(sl=true∧bu rows r c'=true∧bu rows r' c=true) then none
 else if cl<bT rows r' c'-bT rows r c∨cl<bT rows r c-bT rows r' c' then none
 else some ((if r≠r'∧c≠c' then 3 else 2)+pr*(if bT rows r' c'-bT rows r c>0 then bT rows r' c'-bT rows r c else 0))
def oP:Option Int→PV
 |none=>.non
 |some i=>.int i
abbrev wk(sl:Bool)(cl pr:Int):PV:=.tup [.bl sl,.int cl,.int pr]
theorem HR{r c:Int}:aQ (sp r c) (.int 0)=.ok (.int r):=id rfl
theorem Io{r c:Int}:aQ (sp r c) (.int 1)=.ok (.int c):=id rfl
theorem Nf{sl:Bool}{cl pr:Int}:aQ (wk sl cl pr) (.int 0)=.ok (.bl sl):=id rfl
theorem MB{sl:Bool}{cl pr:Int}:aQ (wk sl cl pr) (.int 1)=.ok (.int cl):=id rfl
theorem MT{sl:Bool}{cl pr:Int}:aQ (wk sl cl pr) (.int 2)=.ok (.int pr):=id rfl
theorem nI{i j:Int}:gR (.int i) (.int j)=.ok (.bl (!(i==j))):=id rfl
theorem eI{i j:Int}:fX (.int i) (.int j)=.ok (.bl (i==j)):=id rfl
theorem nS{r c r' c':Int}:gR (sp r c) (sp r' c')=.ok (.bl (!((r==r')&&((c==c')&&true)))):=id rfl
theorem eS{r c r' c':Int}:fX (sp r c) (sp r' c')=.ok (.bl ((r==r')&&((c==c')&&true))):=id rfl
noncomputable def J2:=And.intro @HR (And.intro @Io (And.intro @Nf (And.intro @MB (And.intro @MT (And.intro @aI (And.intro @mX (And.intro @MS (And.intro @Nh (And.intro @nI (And.intro @eI (And.intro @nS (And.intro @eS (And.intro @IZ (And.intro @JN (@JQ)))))))))))))))
def far(r c r' c':Int):Prop:=(r=r'∧c=c')∨1<r-r'∨1<r'-r∨1<c-c'∨1<c'-c
instance(r c r' c':Int):Decidable (far r c r' c'):=by unfold far;infer_instance
theorem uB(F:aS)(r c r' c':Int):af F cG [sp r c,sp r' c']=.ok (.bl (!decide (far r c r' c'))):=by
 simp only [cG,af,aa,ae,ai,aK,ay,ak,aP,aO,av,ax,aw,Nat.reduceAdd,Nat.reduceSub,reduceIte,J,HR,Io,aI,nS];have key:∀(a b d:Bool),(Res.ok (PV.bl a)).bind (fun x=>qp x fun t=>if t then(Res.ok (PV.bl b)).bind (fun x=>qp x fun t=>if t then Res.ok (PV.bl d) else Res.ok (PV.bl false)) else Res.ok (PV.bl false))=Res.ok (PV.bl (a&&(b&&d))):=by
  intro a b d;cases a<;>cases b<;>cases d<;>rfl
 by_cases h1:r=r'∧c=c'
 ·obtain⟨rfl,rfl⟩:=h1
  have:far r c r c:=.inl ⟨rfl,rfl⟩
  simp [af,aa,ae,ai,aK,ay,ak,aP,aO,av,ax,aw,Nat.reduceAdd,Nat.reduceSub,reduceIte,J,this]
 ·have b1:(!((r==r')&&((c==c')&&true)))=true:=by
   cases hh:((r==r')&&((c==c')&&true)) with
   |false=>rfl
   |true=>exact absurd (by simpa using hh) h1
  simp only [b1,af,aa,ae,ai,aK,ay,ak,aP,aO,av,ax,aw,Nat.reduceAdd,Nat.reduceSub,reduceIte,J]
  by_cases h2:(if r-r'<0 then -(r-r') else r-r')≤1
  ·by_cases h3:(if c-c'<0 then -(c-c') else c-c')≤1
   ·have:¬far r c r' c':=by
     rintro (h|h|h|h|h)
     ·exact h1 h
     all_goals (split at h2<;>split at h3<;>omega)
    simp only [h2,h3,this,decide_true,decide_false,af,aa,ae,ai,aK,ay,ak,aP,aO,av,ax,aw,Nat.reduceAdd,Nat.reduceSub,reduceIte,J]
   ·have:far r c r' c':=by
     unfold far;split at h3<;>omega
    simp only [h2,h3,this,decide_true,decide_false,af,aa,ae,ai,aK,ay,ak,aP,aO,av,ax,aw,Nat.reduceAdd,Nat.reduceSub,reduceIte,J]
  ·have:far r c r' c':=by
    unfold far;split at h2<;>omega
   simp only [h2,this,decide_true,decide_false,af,aa,ae,ai,aK,ay,ak,aP,aO,av,ax,aw,Nat.reduceAdd,Nat.reduceSub,reduceIte,J]
def rk(F:aS):Prop:=∀rows,oy rows→∀r c,F "is_open" [fl rows,sp r c]=.ok (.bl (bu rows r c))
theorem uS(F:aS)(hn:∀rows,oy rows→∀r c,bu rows r c=true→F "need_open" [fl rows,sp r c]=.ok .non){rows:List Str}{w:Nat}(L:Fl rows w){r c:Int}(h:bu rows r c=true):af F cM [fl rows,sp r c]=.ok (.int (bT rows r c)):=by
 obtain⟨z,x,e1,e2,e3,_⟩:=j9 L h
 simp only [cM,af,aa,ae,ai,aK,ay,ak,aP,aO,av,ax,aw,Nat.reduceAdd,Nat.reduceSub,reduceIte,J,hn rows L.rok r c h,HR,Io,e1,e2,e3]
theorem qL(F:aS)(ho:rk F){rows:List Str}(R:oy rows)(r c r' c':Int):af F bq [fl rows,sp r c,sp r' c']=.ok (.bl (bu rows r c'&&bu rows r' c)):=by
 simp only [bq,af,aa,ae,ai,aK,ay,ak,aP,aO,av,ax,aw,Nat.reduceAdd,Nat.reduceSub,reduceIte,J,HR,Io,ho rows R];cases bu rows r c'<;>simp only [af,aa,ae,ai,aK,ay,ak,aP,aO,av,ax,aw,Nat.reduceAdd,Nat.reduceSub,reduceIte,J,Bool.false_and,Bool.true_and]
theorem lD{i j:Int}(h0:0≤i)(h1:i<4):(aR i||aR j)=true:=by
 have:aR i=true:=by simp only [aR,Bool.and_eq_true,decide_eq_true_eq];omega
 rw [this];rfl
structure Wk(cl pr:Int):Prop where
 c0:0≤cl
 p0:0≤pr
 p4:pr<4
 c9:cl≤9
theorem Bi(F:aS)(hb:∀r c r' c',F "are_beside" [sp r c,sp r' c']=.ok (.bl (!decide (far r c r' c'))))(hk:∀rows,oy rows→∀r c r' c',F "has_open_corners" [fl rows,sp r c,sp r' c']=.ok (.bl (bu rows r c'&&bu rows r' c)))
 (hh:∀rows w,Fl rows w→∀r c,bu rows r c=true→F "height_at" [fl rows,sp r c]=.ok (.int (bT rows r c))) {rows:List Str} {w:Nat} (L:Fl rows w) {sl:Bool} {cl pr:Int} (V:Wk cl pr) {r c r' c':Int} (h:bu rows r c=true) (h':bu rows r' c'=true):
 af F bF [fl rows,wk sl cl pr,sp r c,sp r' c']=.ok (oP (cL rows sl cl pr r c r' c')):=by
 have e1:=hh rows w L r c h
 have e2:=hh rows w L r' c' h'
 have e3:=hk rows L.rok r c r' c'
 have e4:=hb r c r' c'
 by_cases h1:far r c r' c'
 ·have:cL rows sl cl pr r c r' c'=none:=if_pos h1
  simp only [bF,af,aa,ae,ai,aK,ay,ak,aP,aO,av,ax,aw,Nat.reduceAdd,Nat.reduceSub,reduceIte,J,J2,e4,h1,decide_true,this,oP]
 ·have q1:cL rows sl cl pr r c r' c'=_:=if_neg h1
  rw [q1];have ms:=fun j=>lD (j:=j) V.p0 V.p4
  obtain⟨s,hs⟩:∃s,((!(r==r'))&&!(c==c'))=s:=⟨_,rfl⟩
  have HV:s=true↔r≠r'∧c≠c':=by rw [←hs];simp
  have ia:∀{t u:Bool},(if t=true then Res.ok (PV.bl u) else Res.ok (PV.bl false))=Res.ok (PV.bl (t&&u)):=fun{t u}=>by cases t<;>rfl
  have ii:(if s=true then Res.ok (PV.int 3) else Res.ok (PV.int 2))=Res.ok (PV.int (if r≠r'∧c≠c' then 3 else 2)):=by
   by_cases n3:r≠r'∧c≠c'
   ·rw [if_pos (HV.2 n3),if_pos n3]
   ·rw [if_neg (fun z=>n3 (HV.1 z)),if_neg n3]
  have mx:(if(0:Int)>bT rows r' c'-bT rows r c then 0 else bT rows r' c'-bT rows r c)=(if bT rows r' c'-bT rows r c>0 then bT rows r' c'-bT rows r c else 0):=by
   split<;>split<;>omega
  have cc:(if sl=true then Res.ok (PV.bl (bu rows r c'&&bu rows r' c)) else Res.ok (PV.bl false))=Res.ok (PV.bl (sl&&(bu rows r c'&&bu rows r' c))):=ia
  by_cases hblk:(r≠r'∧c≠c')∧¬(sl=true∧bu rows r c'=true∧bu rows r' c=true)
  ·rw [if_pos hblk];have hB:(!(sl&&(bu rows r c'&&bu rows r' c)))=true:=by
    rw [Bool.not_eq_true',Bool.eq_false_iff];intro z;rw [Bool.and_eq_true,Bool.and_eq_true] at z;exact hblk.2 z
   simp only [bF,af,aa,ae,ai,aK,ay,ak,aP,aO,av,ax,aw,Nat.reduceAdd,Nat.reduceSub,reduceIte,J,J2,e4,e3,h1,decide_false,ia,hs,HV.2 hblk.1,hB,Bool.and_self,oP]
  ·rw [if_neg hblk];have hB:(s&&!(sl&&(bu rows r c'&&bu rows r' c)))=false:=by
    rw [Bool.eq_false_iff];intro z;rw [Bool.and_eq_true,Bool.not_eq_true',Bool.eq_false_iff] at z;exact hblk ⟨HV.1 z.1,fun y=>z.2 (by rw [Bool.and_eq_true,Bool.and_eq_true];exact y)⟩
   by_cases hq:cl<(if bT rows r' c'-bT rows r c<0 then -(bT rows r' c'-bT rows r c) else bT rows r' c'-bT rows r c)
   ·have hz:cl<bT rows r' c'-bT rows r c∨cl<bT rows r c-bT rows r' c':=by split at hq<;>omega
    simp only [bF,af,aa,ae,ai,aK,ay,ak,aP,aO,av,ax,aw,Nat.reduceAdd,Nat.reduceSub,reduceIte,J,J2,e4,e3,e1,e2,h1,decide_false,ia,hs,hB,oP,hq,decide_true,if_pos hz]
   ·have hz:¬(cl<bT rows r' c'-bT rows r c∨cl<bT rows r c-bT rows r' c'):=by split at hq<;>omega
    simp only [bF,af,aa,ae,ai,aK,ay,ak,aP,aO,av,ax,aw,Nat.reduceAdd,Nat.reduceSub,reduceIte,J,J2,e4,e3,e1,e2,h1,decide_false,ia,hs,hB,oP,hq,if_neg hz,ii,ms,mx]
theorem HE{rows:List Str}{w:Nat}(L:Fl rows w){i j:Nat}(hi:i<rows.length)(hj:j<w):∃x,cd rows i j=some x:=by
 have hz:rows[i]?=some rows[i]:=List.getElem?_eq_getElem hi
 have hl:=L.rect _ (List.mem_of_getElem? hz)
 refine⟨(rows[i]).cps.toList[j]'(by simp only [Array.length_toList];rw [←hl] at hj;exact hj),?_⟩;unfold cd;rw [hz];exact List.getElem?_eq_getElem _
theorem ij{rows:List Str}{w:Nat}(L:Fl rows w){r c:Int}(h:bu rows r c=true):0≤r∧r<rows.length∧0≤c∧c<w:=by
 obtain⟨i,j,x,rfl,rfl,hc,_⟩:=xG h
 unfold cd at hc;cases hz:rows[i]? with
 |none=>rw [hz] at hc;cases hc
 |some z=>
  rw [hz] at hc;have h1:=(List.getElem?_eq_some_iff.1 hz).1
  have h2:=(List.getElem?_eq_some_iff.1 hc).1
  have hl:=L.rect _ (List.mem_of_getElem? hz)
  simp only [Array.length_toList] at h2;have:z.cps.size=z.length:=rfl
  omega
end K31
namespace K31
open PySem L2 Ci KJ
abbrev kN(p:Nat×Nat):List Int:=[(p.1:Int),(p.2:Int)]
abbrev Up(L:List (Nat×Nat)):Prop:=L.Pairwise fun p q=>HT.lexLt (kN p) (kN q)=true
theorem ra:Up []:=.nil
theorem IF{p q:Nat×Nat}(h:p.1<q.1∨p.1=q.1∧p.2<q.2):HT.lexLt (kN p) (kN q)=true:=by
 simp only [HT.lexLt];rcases h with h|⟨h1,h2⟩
 ·rw [if_neg (by omega)];exact decide_eq_true (by omega)
 ·rw [if_pos (by omega),if_neg (by omega)];exact decide_eq_true (by omega)
abbrev mw(p:Nat×Nat):PV:=sp p.1 p.2
theorem nW:∀{xs:List PV} {k i:Nat} {x:PV},(cC k xs)[i]?=some x→∃y,xs[i]?=some y∧x=.tup [.int ((k+i:Nat):Int),y]
 |[],_,_,_,h=>by cases h
 |y::ys,k,0,x,h=>by
  simp only [cC,List.getElem?_cons_zero,Option.some.injEq] at h;exact⟨y,rfl,h.symm⟩
 |y::ys,k,i+1,x,h=>by
  simp only [cC,List.getElem?_cons_succ] at h;obtain⟨w,h1,h2⟩:=nW h
  refine⟨w,h1,?_⟩;rw [h2,show k+1+i=k+(i+1) by omega]
theorem cx:∀(xs:List PV) (k:Nat),(cC k xs).length=xs.length
 |[],_=>rfl
 |x::xs,k=>by simp only [cC,List.length_cons,cx xs]
theorem kl{f:PV→Res (Option PV)}{r:Nat}(hf:∀c x:Nat,f (.tup [.int c,.str ⟨#[x]⟩])=.ok (if x !=35 then some (sp r c) else none)):∀(xs:List Nat) (k:Nat),∃L:List (Nat×Nat),aX f (cC k (xs.map fun x=>.str ⟨#[x]⟩))=.ok (L.map mw)∧Up L∧L.length≤xs.length∧∀a b,(a,b)∈L↔a=r∧k≤b∧∃x,xs[b-k]?=some x∧x≠35
 |[],k=>⟨[],rfl,ra,Nat.le_refl _,fun a b=>by simp⟩
 |x::xs,k=>by
  obtain⟨L,e,nd,l,h⟩:=kl hf xs (k+1)
  by_cases hx:x=35
  ·refine⟨L,?_,nd,Nat.le_succ_of_le l,fun a b=>?_⟩
   ·have:(x !=35)=false:=by simp [hx]
    simp only [List.map_cons,cC,aX,hf,this,ET,kI,e,oc]
    rfl
   ·rw [h]
    constructor
    ·rintro ⟨h1,h2,y,h3,h4⟩
     refine⟨h1,by omega,y,?_,h4⟩;rw [show b-k=(b-(k+1))+1 by omega];exact h3
    ·rintro ⟨h1,h2,y,h3,h4⟩
     have:b≠k:=by
      rintro rfl
      simp at h3;omega
     refine⟨h1,by omega,y,?_,h4⟩;rw [show b-k=(b-(k+1))+1 by omega] at h3;exact h3
  ·refine⟨(r,k)::L,?_,List.pairwise_cons.2 ⟨(fun p hp=>IF (by have:=(h p.1 p.2).1 hp;omega)),nd⟩,Nat.succ_le_succ l,fun a b=>?_⟩
   ·have:(x !=35)=true:=by simp [hx]
    simp only [List.map_cons,cC,aX,hf,this,ET,kI,e,oc,if_true]
   ·rw [List.mem_cons,h]
    constructor
    ·rintro (h1|⟨h1,h2,y,h3,h4⟩)
     ·cases h1;exact⟨rfl,Nat.le_refl _,x,by simp,hx⟩
     ·refine⟨h1,by omega,y,?_,h4⟩;rw [show b-k=(b-(k+1))+1 by omega];exact h3
    ·rintro ⟨h1,h2,y,h3,h4⟩
     by_cases hb:b=k
     ·subst hb;subst h1;exact .inl rfl
     ·refine .inr ⟨h1,by omega,y,?_,h4⟩;rw [show b-k=(b-(k+1))+1 by omega] at h3;exact h3
theorem gz{rows:List Str}{r c:Nat}:iX rows r c=true↔∃z,rows[r]?=some z∧∃x,z.cps.toList[c]?=some x∧x≠35:=by
 unfold iX cd;cases hz:rows[r]? with
 |none=>simp
 |some z=>
  simp only [Option.bind_some];cases hx:z.cps.toList[c]? with
  |none=>
   refine⟨(fun h=>by cases h),?_⟩
   rintro ⟨w,hw,x,vv,_⟩
   cases hw;rw [hx] at vv;cases vv
  |some x=>
   refine⟨fun h=>⟨z,rfl,x,hx,by simpa using h⟩,?_⟩
   rintro ⟨w,hw,y,hy,h⟩
   cases hw;rw [hx] at hy;cases hy
   simpa using h
def yg:Ss:=(.cons (.extd 1 (.compIf 2 [2] (.two 0 1) (.enum (.var 3)) (.cmp .ne (.var 1) (.cst (.str "#"))) (.tup (.cons (.var 2) (.cons (.var 0) .nil)))))
 .nil)
def zJ(F:aS):Prop:=∀rows,oy rows→∃L:List (Nat×Nat),F "_law_spots" [fl rows]=.ok (.lst (L.map mw))∧Up L∧L.length≤36∧∀r c,(r,c)∈L↔iX rows r c=true
theorem vR(F:aS)(rows:List Str)(R:oy rows):∃L:List (Nat×Nat),af F cE [fl rows]=.ok (.lst (L.map mw))∧Up L∧L.length≤36∧∀r c,(r,c)∈L↔iX rows r c=true:=by
 have Mh:=R.1
 obtain⟨az,e,L,s2,s3,nd,hl,hm,rfl⟩:=d9 (body:=fun x env=>((Tg.two 2 3).put x env).bind fun az=>ai F yg az) (P:=fun i env=>∃(L:List (Nat×Nat)) (s2 s3:Slot),Up L∧L.length≤6*i∧(∀r c,(r,c)∈L↔r<i∧iX rows r c=true)∧env=[.val (fl rows),.own (.lst (L.map mw)),s2,s3])
  (cC 0 (rows.map .str)) 0 [.val (fl rows),.own (.lst []),.no,.no] ⟨[],_,_,ra,Nat.le_refl _,(fun r c=>by simp),rfl⟩ (by
  intro i x env hx hq;obtain⟨y,hy,rfl⟩:=nW hx
  obtain⟨L,s2,s3,nd,hl,hm,rfl⟩:=hq
  simp only [List.getElem?_map,Option.map_eq_some_iff] at hy;obtain⟨z,hz,rfl⟩:=hy
  have EZ:=R.2 z (List.mem_of_getElem? hz)
  have hi:i<rows.length:=(List.getElem?_eq_some_iff.1 hz).1
  obtain⟨M,eM,nM,lM,hM⟩:=kl (f:=fun x=>((Tg.two 0 1).put x [.no,.no,.val (.int i)]).bind fun az=>((j8 az[1]?).bind fun x=>gR x (.str "#")).bind fun t=>qp t fun t=>if t then(((j8 az[2]?).bind fun p=>((j8 az[0]?).bind fun p=>.ok [p]).bind fun ps=>.ok (p::ps)).bind fun ps=>.ok (.tup ps)).bind fun y=>.ok (some y) else .ok none) (r:=i) (fun c x=>by
   simp only [af,aa,ae,ai,aK,ay,ak,aP,aO,av,ax,aw,Nat.reduceAdd,Nat.reduceSub,reduceIte,J,qB];cases(x !=35)<;>rfl) z.cps.toList 0
  have lz:(cC 0 (chars z)).length<dg:=by
   rw [cx];refine Nat.lt_of_le_of_lt (m:=6) ?_ (by decide)
   simpa [chars,Str.length] using EZ
  have ll:(L.map mw).length+(M.map mw).length≤dg:=by
   refine Nat.le_trans (m:=100) ?_ (by decide);simp only [List.length_map];have:z.cps.toList.length=z.length:=by simp [Str.length]
   omega
  refine⟨[.val (fl rows),.own (.lst ((L++M).map mw)),.val (.int i),.val (.str z)],?_,L++M,_,_,List.pairwise_append.2 ⟨nd,nM,fun a ha b hb=>IF (.inl (by have h1:=((hm a.1 a.2).1 ha).1;have h2:=((hM b.1 b.2).1 hb).1;omega))⟩,?_,?_,rfl⟩
  ·simp only [yg,af,aa,ae,ai,aK,ay,ak,aP,aO,av,ax,aw,Nat.reduceAdd,Nat.reduceSub,reduceIte,J,JQ,Nat.zero_add,lz];rw [show chars z=z.cps.toList.map fun x=>PV.str ⟨#[x]⟩ from rfl,eM]
   simp only [af,aa,ae,ai,aK,ay,ak,aP,aO,av,ax,aw,Nat.reduceAdd,Nat.reduceSub,reduceIte,J,ll,List.map_append]
  ·have:z.cps.toList.length=z.length:=by simp [Str.length]
   simp only [List.length_append];omega
  ·intro r c;rw [List.mem_append,hm,hM,gz]
   constructor
   ·rintro (⟨h1,h2⟩|⟨rfl,_,x,h3,h4⟩)
    ·exact⟨by omega,h2⟩
    ·exact⟨by omega,z,hz,x,h3,h4⟩
   ·rintro ⟨h1,w,h2,x,h3,h4⟩
    by_cases hr:r=i
    ·subst hr;rw [hz] at h2;cases h2;exact .inr ⟨rfl,Nat.zero_le _,x,h3,h4⟩
    ·exact .inl ⟨by omega,w,h2,x,h3,h4⟩)
 refine⟨L,?_,nd,(by rw [cx,List.length_map] at hl;omega),fun r c=>?_⟩
 ·simp only [yg,af,aa,ae,ai,aK,ay,ak,aP,aO,av,ax,aw,Nat.reduceAdd,Nat.reduceSub,reduceIte,J] at e;simp only [cE,af,aa,ae,ai,aK,ay,ak,aP,aO,av,ax,aw,Nat.reduceAdd,Nat.reduceSub,reduceIte,J,JN,e,List.modify_succ_cons,List.modify_zero_cons,yt]
 ·rw [hm];refine⟨fun h=>h.2,fun h=>⟨?_,h⟩⟩
  obtain⟨z,hz,_⟩:=gz.1 h
  have:=(List.getElem?_eq_some_iff.1 hz).1
  rw [cx,List.length_map];omega
theorem uQ(F:aS)(hp:nA F)(ns:List Int)(k:Int)(hk:0≤k):∃sl cl pr,Wk cl pr∧af F b9 [jr ns,.int k]=.ok (wk sl cl pr):=by
 obtain⟨a,ea,a0,a2⟩:=hp ns k 2 hk (by decide)
 obtain⟨b,eb,b0,b4⟩:=hp ns (k+1) 4 (by omega) (by decide)
 obtain⟨c,ec,c0,c4⟩:=hp ns (k+2) 4 (by omega) (by decide)
 obtain⟨v,ev,hv⟩:=nJ (a:=0) (b:=1) (c:=2) (d:=9) b0 b4
 refine⟨(a==0),v,c,⟨by omega,c0,c4,by omega⟩,?_⟩;simp only [b9,af,aa,ae,ai,aK,ay,ak,aP,aO,av,ax,aw,Nat.reduceAdd,Nat.reduceSub,reduceIte,J,J2,ea,eb,ec,ev]
end K31
namespace K31
open PySem L2 Ci KJ
theorem d6{α σ:Type}{body:PV→Sl→Res Ci.Fl}{g:α→PV}{mk:List PV→σ→Sl}{app:α→List PV}{m M:Nat}:∀(l:List α) (acc:List PV) (s:σ),(∀a∈l,(app a).length≤m)→(∀a∈l,∀acc s,acc.length+m≤M→∃s',body (g a) (mk acc s)=.ok (.nx (mk (acc++app a) s')))→acc.length+m*l.length≤M→∃s',forL body (l.map g) (mk acc s)=.ok (.nx (mk (acc++l.flatMap app) s'))
 |[],acc,s,_,_,_=>⟨s,by simp [forL]⟩
 |a::l,acc,s,h1,h2,h3=>by
  have ha:=h1 a (List.mem_cons_self ..)
  rw [List.length_cons,Nat.mul_succ] at h3;obtain⟨s1,e1⟩:=h2 a (List.mem_cons_self ..) acc s (by omega)
  obtain⟨s2,e2⟩:=d6 l (acc++app a) s1 (fun b hb=>h1 b (List.mem_cons_of_mem _ hb)) (fun b hb=>h2 b (List.mem_cons_of_mem _ hb)) (by rw [List.length_append];omega)
  refine⟨s2,?_⟩;simp only [List.map_cons,forL,e1,kI,e2,List.flatMap_cons,List.append_assoc]
def fk(x:Int):List Int:=[x-1+(0:Nat),x-1+(1:Nat),x-1+(2:Nat)]
theorem GP(x:Int):eK (x-1) (x+2-(x-1)).toNat=(fk x).map .int:=by
 rw [show(x+2-(x-1)).toNat=3 by omega]
 rfl
noncomputable def oI:Ss:=(.cons (.ite (.and (.cmp .ne (.tup (.cons (.var 3) (.cons (.var 4) .nil))) (.var 1)) (.call "is_open" (.cons (.var 0) (.cons (.tup (.cons (.var 3) (.cons (.var 4) .nil))) .nil))))
 (.cons (.app 2 (.tup (.cons (.var 3) (.cons (.var 4) .nil))))
 .nil)
 .nil)
 .nil)
noncomputable def oO:Ss:=(.cons (.for_ (.one 4) (.rng2 (.bin .sub (.sub (.var 1) (.cst (.int 1))) (.cst (.int 1))) (.bin .add (.sub (.var 1) (.cst (.int 1))) (.cst (.int 2)))) oI) .nil)
def yx(rows:List Str)(r c r' c':Int):Bool:=!((r'==r)&&((c'==c)&&true))&&bu rows r' c'
def pE(rows:List Str)(r c r':Int):List (Int×Int):=(fk c).flatMap fun c'=>if yx rows r c r' c' then [(r',c')] else []
def nO(rows:List Str)(r c:Int):List (Int×Int):=(fk r).flatMap (pE rows r c)
theorem gQ(rows:List Str)(r c r':Int):(pE rows r c r').length≤3:=by
 have:∀c',(if yx rows r c r' c' then [(r',c')] else []).length≤1:=fun c'=>by split<;>simp
 simp only [pE,fk,List.flatMap_cons,List.flatMap_nil,List.length_append,List.length_nil];have h1:=this (c-1+(0:Nat));have h2:=this (c-1+(1:Nat));have h3:=this (c-1+(2:Nat))
 omega
theorem pI(rows:List Str)(r c:Int):(nO rows r c).length≤9:=by
 simp only [nO,fk,List.flatMap_cons,List.flatMap_nil,List.length_append,List.length_nil];have h1:=gQ rows r c (r-1+(0:Nat));have h2:=gQ rows r c (r-1+(1:Nat));have h3:=gQ rows r c (r-1+(2:Nat))
 omega
theorem ja{rows:List Str}{r c r' c':Int}:(r',c')∈nO rows r c↔¬far r c r' c'∧bu rows r' c'=true:=by
 have hn:∀x y:Int,y∈fk x↔¬1<x-y∧¬1<y-x:=by
  intro x y;simp only [fk,List.mem_cons,List.not_mem_nil,or_false];omega
 simp only [nO,pE,List.mem_flatMap,hn]
 constructor
 ·rintro ⟨a,ha,b,hb,h⟩
  split at h
  ·rename_i hk;simp only [List.mem_singleton,Prod.mk.injEq] at h;obtain⟨rfl,rfl⟩:=h
   simp only [yx,Bool.and_eq_true,Bool.not_eq_true',Bool.and_true] at hk;refine⟨?_,hk.2⟩;unfold far;have h1:=hk.1
   rw [Bool.and_eq_false_iff] at h1;simp only [beq_eq_false_iff_ne,ne_eq] at h1;omega
  ·cases h
 ·rintro ⟨hf,ho⟩
  unfold far at hf;refine⟨r',by omega,c',by omega,?_⟩;have:yx rows r c r' c'=true:=by
   simp only [yx,ho,Bool.and_true,Bool.not_eq_true',Bool.and_eq_false_iff,beq_eq_false_iff_ne,ne_eq];omega
  rw [if_pos this];exact List.mem_singleton.2 rfl
theorem kj{r:Int}(h0:0≤r)(h6:r<6):(bj (r-1)&&bj (r+2))=true:=by
 simp only [bj,Bool.and_eq_true,decide_eq_true_eq];omega
theorem CO(F:aS)(ho:rk F){rows:List Str}(R:oy rows){r c:Int}(L1:0≤r)(hr:r<6)(L0:0≤c)(hc:c<6):
 af F bb [fl rows,sp r c]=.ok (.lst ((nO rows r c).map Bt)):=by
 have inner:∀(r':Int) (acc:List PV) (s4:Ci.Slot),acc.length+3≤50→∃Gy,forL (fun x env=>((Tg.one 4).put x env).bind fun az=>ai F oI az) ((fk c).map .int) [.val (fl rows),.val (sp r c),.own (.lst acc),.val (.int r'),s4]=.ok (.nx [.val (fl rows),.val (sp r c),.own (.lst (acc++(pE rows r c r').map Bt)),.val (.int r'),Gy]):=by
  intro r' acc s4 hl;obtain⟨s',e⟩:=d6 (body:=fun x env=>((Tg.one 4).put x env).bind fun az=>ai F oI az) (g:=PV.int) (mk:=fun acc (s:Ci.Slot)=>[.val (fl rows),.val (sp r c),.own (.lst acc),.val (.int r'),s]) (app:=fun c'=>if yx rows r c r' c' then [sp r' c'] else []) (m:=1) (M:=60) (fk c) acc s4 (fun c' _=>by split<;>simp) (fun c' _ acc s hl=>by
   have l:acc.length<dg:=Nat.lt_of_le_of_lt (m:=60) (by omega) (by decide)
   refine⟨.val (.int c'),?_⟩;cases h1:(!((r'==r)&&((c'==c)&&true))) with
   |false=>simp only [oI,af,aa,ae,ai,aK,ay,ak,aP,aO,av,ax,aw,Nat.reduceAdd,Nat.reduceSub,reduceIte,J,J2,h1,yx,Bool.false_and,List.append_nil]
   |true=>
    cases h2:bu rows r' c' with
    |false=>simp only [oI,af,aa,ae,ai,aK,ay,ak,aP,aO,av,ax,aw,Nat.reduceAdd,Nat.reduceSub,reduceIte,J,J2,h1,h2,yx,ho rows R,Bool.and_false,List.append_nil]
    |true=>simp only [oI,af,aa,ae,ai,aK,ay,ak,aP,aO,av,ax,aw,Nat.reduceAdd,Nat.reduceSub,reduceIte,J,J2,h1,h2,yx,ho rows R,Bool.and_self,l]) (by show acc.length+1*3≤60;omega)
  have k:(fk c).flatMap (fun c'=>if yx rows r c r' c' then [sp r' c'] else [])=(pE rows r c r').map Bt:=by
   simp only [pE,List.map_flatMap]
   congr 1
   funext c'
   split<;>rfl
  exact⟨s',by rw [e,k]⟩
 obtain⟨s',e⟩:=d6 (body:=fun x env=>((Tg.one 3).put x env).bind fun az=>ai F oO az) (g:=PV.int) (mk:=fun acc (s:Ci.Slot×Ci.Slot)=>[.val (fl rows),.val (sp r c),.own (.lst acc),s.1,s.2]) (app:=fun r'=>(pE rows r c r').map Bt) (m:=3) (M:=50) (fk r) [] (.no,.no) (fun r' _=>by rw [List.length_map];exact gQ ..) (fun r' _ acc s hl=>by
  obtain⟨Gy,e⟩:=inner r' acc s.2 hl
  refine⟨(.val (.int r'),Gy),?_⟩;simp only [oI,af,aa,ae,ai,aK,ay,ak,aP,aO,av,ax,aw,Nat.reduceAdd,Nat.reduceSub,reduceIte,J,J2] at e;simp only [oO,oI,af,aa,ae,ai,aK,ay,ak,aP,aO,av,ax,aw,Nat.reduceAdd,Nat.reduceSub,reduceIte,J,J2,kj L0 hc,GP,e]) (by show 0+3*3≤50;omega)
 simp only [oO,oI,af,aa,ae,ai,aK,ay,ak,aP,aO,av,ax,aw,Nat.reduceAdd,Nat.reduceSub,reduceIte,J,J2] at e;simp only [bb,af,aa,ae,ai,aK,ay,ak,aP,aO,av,ax,aw,Nat.reduceAdd,Nat.reduceSub,reduceIte,J,J2,kj L1 hr,GP,e,yt,nO,List.map_flatMap]
def E1(rows:List Str)(sl:Bool)(cl pr:Int)(u v:List Int)(e:Int):Prop:=∃r c r' c',u=[r,c]∧v=[r',c']∧bu rows r c=true∧bu rows r' c'=true∧cL rows sl cl pr r c r' c'=some e
abbrev tK(t:List Int×Int):PV:=.tup [ag t.1,.int t.2]
def wa(F:aS):Prop:=∀rows w,Fl rows w→∀sl cl pr,Wk cl pr→∀r c r' c',bu rows r c=true→bu rows r' c'=true→F "step_cost" [fl rows,wk sl cl pr,sp r c,sp r' c']=.ok (oP (cL rows sl cl pr r c r' c'))
def BI(F:aS):Prop:=∀rows,oy rows→∀r c,0≤r→r<6→0≤c→c<6→F "open_spots_beside" [fl rows,sp r c]=.ok (.lst ((nO rows r c).map Bt))
def rb(F:aS):Prop:=∀rows,oy rows→∀r c,bu rows r c=true→F "need_open" [fl rows,sp r c]=.ok .non
def gD(F:aS):Prop:=∀rows w,Fl rows w→∀sl cl pr,Wk cl pr→∀r c,bu rows r c=true→∃T:List (List Int×Int),F "steps_from" [fl rows,wk sl cl pr,ag [r,c]]=.ok (.lst (T.map tK))∧T.length≤9∧∀v e,(v,e)∈T↔E1 rows sl cl pr [r,c] v e
noncomputable def Ip:Ss:=(.cons (.set 5 (.call "step_cost" (.cons (.var 0) (.cons (.var 1) (.cons (.var 2) (.cons (.var 4) .nil))))))
 (.cons (.ite (.cmp .isn (.var 5) (.cst .non))
  (.cons (.app 3 (.tup (.cons (.var 4) (.cons (.var 5) .nil))))
  .nil)
  .nil)
 .nil))
theorem BN{rows:List Str}{w:Nat}(L:Fl rows w){r c:Int}(h:bu rows r c=true):0≤r∧r<6∧0≤c∧c<6:=by
 have h1:=ij L h
 have h2:=L.rok.1
 have h3:=L.rok.2 _ (List.getElem_mem L.ne)
 rw [L.rect _ (List.getElem_mem L.ne)] at h3;omega
theorem vJ(F:aS)(hn:rb F)(hb:BI F)(hs:wa F):∀rows w,Fl rows w→∀sl cl pr,Wk cl pr→∀r c,bu rows r c=true→∃T:List (List Int×Int),af F bE [fl rows,wk sl cl pr,ag [r,c]]=.ok (.lst (T.map tK))∧T.length≤9∧∀v e,(v,e)∈T↔E1 rows sl cl pr [r,c] v e:=by
 intro rows w L sl cl pr V r c h;obtain⟨r0,r6,c0,c6⟩:=BN L h
 have K9:∀p:Int×Int,((cL rows sl cl pr r c p.1 p.2).toList.map fun e=>(([p.1,p.2]:List Int),e)).length≤1:=fun p=>by cases cL rows sl cl pr r c p.1 p.2<;>simp
 refine⟨(nO rows r c).flatMap fun p=>(cL rows sl cl pr r c p.1 p.2).toList.map fun e=>([p.1,p.2],e),?_,?_,?_⟩
 ·obtain⟨s',e⟩:=d6 (body:=fun x env=>((Tg.one 4).put x env).bind fun az=>ai F Ip az) (g:=Bt) (mk:=fun acc (s:Ci.Slot×Ci.Slot)=>[.val (fl rows),.val (wk sl cl pr),.val (sp r c),.own (.lst acc),s.1,s.2]) (app:=fun p=>((cL rows sl cl pr r c p.1 p.2).toList.map fun e=>(([p.1,p.2]:List Int),e)).map tK) (m:=1) (M:=50) (nO rows r c) [] (.no,.no) (fun p _=>by rw [List.length_map];exact K9 p) (fun p hp acc s hl=>by
   have l:acc.length<dg:=Nat.lt_of_le_of_lt (m:=50) (by omega) (by decide)
   have e:=hs rows w L sl cl pr V r c p.1 p.2 h (ja.1 hp).2
   cases hq:cL rows sl cl pr r c p.1 p.2 with
   |none=>
    rw [hq] at e;have e5:fK .non .non=.ok (.bl false):=rfl
    simp only [oP] at e;exact⟨(.val (Bt p),.val .non),by simp only [Ip,af,aa,ae,ai,aK,ay,ak,aP,aO,av,ax,aw,Nat.reduceAdd,Nat.reduceSub,reduceIte,J,J2,e,e5,Option.toList_none,List.append_nil]⟩
   |some v=>
    rw [hq] at e;have e5:fK (.int v) .non=.ok (.bl true):=rfl
    simp only [oP] at e;exact⟨(.val (Bt p),.val (.int v)),by simp only [Ip,af,aa,ae,ai,aK,ay,ak,aP,aO,av,ax,aw,Nat.reduceAdd,Nat.reduceSub,reduceIte,J,J2,e,e5,Option.toList_some,l];rfl⟩) (by
   have:=pI rows r c
   show 0+1*_≤50
   omega)
  have k:ag [r,c]=sp r c:=rfl
  simp only [Ip,af,aa,ae,ai,aK,ay,ak,aP,aO,av,ax,aw,Nat.reduceAdd,Nat.reduceSub,reduceIte,J,J2] at e;simp only [k,bE,af,aa,ae,ai,aK,ay,ak,aP,aO,av,ax,aw,Nat.reduceAdd,Nat.reduceSub,reduceIte,J,J2,hn rows L.rok r c h,hb rows L.rok r c r0 r6 c0 c6,e,yt,List.map_flatMap]
 ·have:=pI rows r c
  have key:∀l:List (Int×Int),(l.flatMap fun p=>(cL rows sl cl pr r c p.1 p.2).toList.map fun e=>(([p.1,p.2]:List Int),e)).length≤l.length:=by
   intro l
   induction l with
   |nil=>exact Nat.le_refl _
   |cons p l ih=>
    have:=K9 p
    simp only [List.flatMap_cons,List.length_append,List.length_cons];omega
  exact Nat.le_trans (key _) this
 ·intro v e;simp only [List.mem_flatMap,List.mem_map,Option.mem_toList,Option.mem_def,Prod.mk.injEq]
  constructor
  ·rintro ⟨p,hp,e',he,rfl,rfl⟩
   exact⟨r,c,p.1,p.2,rfl,rfl,h,(ja.1 hp).2,he⟩
  ·rintro ⟨a,b,r',c',hu,rfl,_,ho,he⟩
   cases hu;refine⟨(r',c'),ja.2 ⟨fun hf=>?_,ho⟩,e,he,rfl,rfl⟩
   rw [show cL rows sl cl pr r c r' c'=none from if_pos hf] at he;cases he
end K31
namespace K31
open PySem L2 Ci KJ
theorem jn:∀k:List Int,intsOf (k.map .int)=some k
 |[]=>rfl
 |i::k=>by simp only [List.map_cons,intsOf,jn k,Option.map_some]
theorem dn(k:List Int):gb (ag k)=some k:=jn k
theorem c5{α:Type}:∀{ks:List (List Int)} {vs:List α} (k:List Int),ks.length=vs.length→bV ks k=(aC ks vs k).isSome
 |[],[],_,_=>rfl
 |k'::ks,v::vs,k,h=>by
  have ih:=c5 (ks:=ks) (vs:=vs) k (by simpa using h)
  by_cases e:k'=k
  ·simp [bV,aC,e]
  ·simp only [bV] at ih;simp [bV,aC,e,ih]
theorem j4{α β:Type}(f:α→β):∀(ks:List (List Int)) (vs:List α) (k:List Int),aC ks (vs.map f) k=(aC ks vs k).map f
 |[],_,_=>by simp [aC]
 |_::_,[],_=>by simp [aC]
 |k'::ks,v::vs,k=>by
  simp only [List.map_cons,aC,j4 f ks vs k];split<;>rfl
theorem jh{α β:Type}(f:α→β):∀(ks:List (List Int)) (vs:List α) (k:List Int),aV ks (vs.map f) k=(aV ks vs k).map f
 |[],_,_=>by simp [aV]
 |_::_,[],_=>by simp [aV]
 |k'::ks,v::vs,k=>by
  simp only [List.map_cons,aV,jh f ks vs k];split<;>rfl
theorem ma{α β:Type}(f:α→β)(ks:List (List Int))(vs:List α)(k:List Int)(p:α):bg ks (vs.map f) k (f p)=(bg ks vs k p).map f:=by
 unfold bg;split
 ·rw [List.zipWith_map_right,List.map_zipWith]
  congr 1
  funext a b
  split<;>rfl
 ·simp
theorem pz{α:Type}(k:List Int)(p:α):∀(ks:List (List Int)) (vs:List α) (x:List Int),aC ks (List.zipWith (fun k' v=>if k'=k then p else v) ks vs) x=(aC ks vs x).map fun v=>if x=k then p else v
 |[],_,_=>by simp [aC]
 |_::_,[],_=>by simp [aC]
 |k'::ks,v::vs,x=>by
  simp only [List.zipWith_cons_cons,aC,pz k p ks vs x]
  by_cases e:k'=x
  ·subst e;simp
  ·simp [e]
theorem mi{α:Type}(k:List Int)(p:α):∀(ks:List (List Int)) (vs:List α) (x:List Int),ks.length=vs.length→aC (ks++[k]) (vs++[p]) x=(aC ks vs x).or (if k=x then some p else none)
 |[],[],x,_=>by simp [aC]
 |k'::ks,v::vs,x,h=>by
  simp only [List.cons_append,aC,mi k p ks vs x (by simpa using h)];split<;>simp
theorem bp{α:Type}{ks:List (List Int)}{vs:List α}(h:ks.length=vs.length)(k:List Int)(p:α)(x:List Int):aC (aU ks k) (bg ks vs k p) x=if k=x then some p else aC ks vs x:=by
 have hh:=c5 (vs:=vs) k h
 unfold aU bg;cases hk:bV ks k with
 |true=>
  rw [hk] at hh;simp only [if_true,pz]
  by_cases e:k=x
  ·subst e;obtain⟨v,hv⟩:=Option.isSome_iff_exists.1 hh.symm
   simp [hv]
  ·rw [if_neg e];have e':¬x=k:=fun z=>e z.symm
   cases aC ks vs x<;>simp [e']
 |false=>
  rw [hk] at hh;simp only [Bool.false_eq_true,if_false,mi k p ks vs x h]
  by_cases e:k=x
  ·subst e;have:aC ks vs k=none:=by simpa using hh.symm
   simp [this]
  ·simp [e]
theorem j6{α:Type}{ks:List (List Int)}{vs:List α}(h:ks.length=vs.length)(k:List Int)(p:α):(aU ks k).length=(bg ks vs k p).length:=by
 unfold aU bg;split<;>simp [h]
theorem fy(ks:List (List Int))(k:List Int):(aU ks k).length≤ks.length+1:=by
 unfold aU;split<;>simp
theorem cK{ks:List (List Int)}{k:List Int}:bV ks k=true↔k∈ks:=by
 simp [bV]
theorem fh{ks:List (List Int)}(h:ks.Nodup)(k:List Int):(aU ks k).Nodup:=by
 unfold aU;split
 ·exact h
 ·rename_i hk;rw [cK] at hk;refine List.nodup_append.2 ⟨h,by simp,?_⟩;intro a ha b hb e;rw [List.mem_singleton] at hb;exact hk (hb▸e▸ha)
theorem dy{α:Type}(k:List Int):∀(ks:List (List Int)) (vs:List α) (x:List Int),ks.length=vs.length→aC (bJ ks k) (aV ks vs k) x=if k=x then none else aC ks vs x
 |[],[],x,_=>by simp [bJ,aV,aC]
 |k'::ks,v::vs,x,h=>by
  have ih:=dy k ks vs x (by simpa using h)
  simp only [bJ] at ih
  by_cases e:k'=k
  ·subst e;simp only [bJ,aV,aC,List.filter_cons,ne_eq,not_true_eq_false,decide_false,Bool.false_eq_true,if_false,if_true,ih];split<;>simp_all
  ·simp only [bJ,aV,aC,List.filter_cons,ne_eq,e,not_false_eq_true,decide_true,if_true,if_false]
   by_cases e2:k'=x
   ·subst e2;have:¬k=k':=fun z=>e z.symm
    simp [aC,this]
   ·simp only [aC,e2,if_false];exact ih
theorem md{α:Type}(k:List Int):∀(ks:List (List Int)) (vs:List α),ks.length=vs.length→(bJ ks k).length=(aV ks vs k).length
 |[],[],_=>rfl
 |k'::ks,v::vs,h=>by
  have ih:=md k ks vs (by simpa using h)
  simp only [bJ] at ih
  by_cases e:k'=k
  ·simpa [bJ,aV,e] using ih
  ·simpa [bJ,aV,e] using ih
theorem sQ{α:Type}:∀{ks:List (List Int)} {vs:List α} {i:Nat} {k:List Int} {q:α},ks.Nodup→ks[i]?=some k→vs[i]?=some q→aC ks vs k=some q
 |[],_,_,_,_,_,h,_=>by simp at h
 |_::_,[],_,_,_,_,_,h=>by simp at h
 |k'::ks,v::vs,0,k,q,_,h1,h2=>by
  simp only [List.getElem?_cons_zero,Option.some.injEq] at h1 h2;simp [aC,h1,h2]
 |k'::ks,v::vs,i+1,k,q,nd,h1,h2=>by
  simp only [List.getElem?_cons_succ] at h1 h2;have Lb:=List.nodup_cons.1 nd
  have:¬k'=k:=fun z=>Lb.1 (z▸List.mem_of_getElem? h1)
  simp only [aC,this,if_false];exact sQ Lb.2 h1 h2
theorem qe{α:Type}:∀{ks:List (List Int)} {vs:List α} {k:List Int} {q:α},aC ks vs k=some q→q∈vs
 |[],_,_,_,h=>by simp [aC] at h
 |_::_,[],_,_,h=>by simp [aC] at h
 |k'::ks,v::vs,k,q,h=>by
  simp only [aC] at h;split at h
  ·cases h;exact List.mem_cons_self ..
  ·exact List.mem_cons_of_mem _ (qe h)
theorem iu:∀(cs:List Int) (b:Nat) (m:Int) (pre:List Int),pre[b]?=some m→(∀x∈pre,m≤x)→∃y,(pre++cs)[dO cs pre.length b m]?=some y∧∀x∈pre++cs,y≤x
 |[],b,m,pre,h1,h2=>⟨m,by simpa [dO] using h1,by simpa using h2⟩
 |c::cs,b,m,pre,h1,h2=>by
  have hb:=(List.getElem?_eq_some_iff.1 h1).1
  simp only [dO];have hl:pre.length+1=(pre++[c]).length:=by simp
  split
  ·rename_i hc;have:=iu cs pre.length c (pre++[c]) (by simp) (fun x hx=>by
    simp only [List.mem_append,List.mem_singleton] at hx;rcases hx with hx|hx
    ·have:=h2 x hx;omega
    ·omega)
   rw [←hl] at this
   simpa using this
  ·rename_i hc;have:=iu cs b m (pre++[c]) (by rw [List.getElem?_append_left hb];exact h1) (fun x hx=>by
    simp only [List.mem_append,List.mem_singleton] at hx;rcases hx with hx|hx
    ·exact h2 x hx
    ·omega)
   rw [←hl] at this
   simpa using this
theorem zN{cs:List Int}(h:cs≠[]):∃i y,x5 cs=some i∧cs[i]?=some y∧∀x∈cs,y≤x:=by
 cases cs with
 |nil=>exact absurd rfl h
 |cons c cs=>
  obtain⟨y,h1,h2⟩:=iu cs 0 c [c] rfl (by simp)
  exact⟨_,y,rfl,h1,h2⟩
abbrev val(q:Int×PV):PV:=.tup [.int q.1,q.2]
theorem lQ:∀V:List (Int×PV),gh (V.map val)=some (V.map (·.1))
 |[]=>rfl
 |q::V=>by simp only [List.map_cons,gh,lQ V,Option.map_some]
theorem u9{ks:List (List Int)}{V:List (Int×PV)}(h:ks.length=V.length)(nd:ks.Nodup)(fU:ks≠[]):∃k q,((x5 (V.map (·.1))).bind fun x=>ks[x]?)=some k∧aC ks V k=some q∧∀x q',aC ks V x=some q'→q.1≤q'.1:=by
 have hV:V.map (·.1)≠[]:=by
  intro z;rw [List.map_eq_nil_iff] at z;rw [z] at h;exact fU (List.eq_nil_of_length_eq_zero h)
 obtain⟨i,y,h1,h2,h3⟩:=zN hV
 rw [List.getElem?_map,Option.map_eq_some_iff] at h2;obtain⟨q,hq,rfl⟩:=h2
 have hi:=(List.getElem?_eq_some_iff.1 hq).1
 have hk:ks[i]?=some (ks[i]'(by omega)):=List.getElem?_eq_getElem _
 refine⟨_,q,by rw [h1];exact hk,sQ nd hk hq,fun x q' hx=>h3 _ (List.mem_map.2 ⟨q',qe hx,rfl⟩)⟩
end K31
namespace K31
open PySem L2 Ci KJ
inductive yy(E:List Int→List Int→Int→Prop)(s:List Int):List Int→Int→Prop
 |here:yy E s s 0
 |go {u v:List Int} {d e:Int}:yy E s u d→E u v e→yy E s v (d+e)
abbrev Ks:=List (List Int)
abbrev Vs:=List (Int×PV)
def Kn(kr:Ks)(Vr:Vs)(kw:Ks)(Vw:Vs)(k:List Int)(c:Int):Prop:=(∃q,aC kr Vr k=some q∧q.1≤c)∨∃q,aC kw Vw k=some q∧q.1≤c
structure oH(E:List Int→List Int→Int→Prop)(O:List Int→Prop)(s:List Int)(kr:Ks)(Vr:Vs)(kw:Ks)(Vw:Vs)(X:List Int→List Int→Int→Prop)(n:Nat)(b:Int):Prop where
 lr:kr.length=Vr.length
 lw:kw.length=Vw.length
 nw:kw.Nodup
 dis:∀k q q',aC kr Vr k=some q→aC kw Vw k=some q'→False
 wr:∀k q,aC kr Vr k=some q→O k∧yy E s k q.1
 ww:∀k q,aC kw Vw k=some q→O k∧yy E s k q.1
 mono:∀k q k' q',aC kr Vr k=some q→aC kw Vw k'=some q'→q.1≤q'.1
 clo:∀u q,aC kr Vr u=some q→∀v e,X u v e→Kn kr Vr kw Vw v (q.1+e)
 st:Kn kr Vr kw Vw s 0
 cw:kw.length≤n
 pre:∀k q,aC kr Vr k=some q∨aC kw Vw k=some q→q.2=.non∨∃y q',q.2=ag y∧aC kr Vr y=some q'∧q'.1<q.1
 bd:∀k q,aC kr Vr k=some q∨aC kw Vw k=some q→0≤q.1∧q.1≤b
 nr:kr.Nodup
theorem Kn.put{kr:Ks}{Vr:Vs}{kw:Ks}{Vw:Vs}(h:kw.length=Vw.length){v:List Int}{c:Int}{p:PV}(hv:∀q,aC kw Vw v=some q→c≤q.1){k:List Int}{x:Int}(H:Kn kr Vr kw Vw k x):Kn kr Vr (aU kw v) (bg kw Vw v (c,p)) k x:=by
 rcases H with H|⟨q,h1,h2⟩
 ·exact .inl H
 ·refine .inr ?_;rw [bp h]
  by_cases e:v=k
  ·subst e;exact⟨(c,p),if_pos rfl,Int.le_trans (hv q h1) h2⟩
  ·exact⟨q,by rw [if_neg e];exact h1,h2⟩
theorem oH.put{E:List Int→List Int→Int→Prop}{O:List Int→Prop}{s:List Int}{kr:Ks}{Vr:Vs}{kw:Ks}{Vw:Vs}{X:List Int→List Int→Int→Prop}{n:Nat}{b:Int}(M:oH E O s kr Vr kw Vw X n b){u v:List Int}{d e:Int}{p0:PV}(hu:aC kr Vr u=some (d,p0))(hd:∀k q,aC kr Vr k=some q→q.1≤d)(he:E u v e)(h0:0<e)(hb:d+e≤b)(ho:O v)
 (hv:aC kr Vr v=none) (hw:∀q,aC kw Vw v=some q→d+e≤q.1):oH E O s kr Vr (aU kw v) (bg kw Vw v (d+e,ag u)) (fun a b c=>X a b c∨a=u∧b=v∧c=e) (n+1) b where
 lr:=M.lr
 lw:=j6 M.lw _ _
 nw:=fh M.nw _
 dis:=fun k q q' h1 h2=>by
  rw [bp M.lw] at h2;split at h2
  ·rename_i z;subst z;rw [hv] at h1;cases h1
  ·exact M.dis k q q' h1 h2
 wr:=M.wr
 ww:=fun k q h=>by
  rw [bp M.lw] at h;split at h
  ·rename_i z;subst z;cases h;exact⟨ho,.go (M.wr u _ hu).2 he⟩
  ·exact M.ww k q h
 mono:=fun k q k' q' h1 h2=>by
  rw [bp M.lw] at h2;split at h2
  ·cases h2;have:=hd k q h1;show q.1≤d+e;omega
  ·exact M.mono k q k' q' h1 h2
 clo:=fun a q h1 b c hx=>by
  rcases hx with hx|⟨rfl,rfl,rfl⟩
  ·exact(M.clo a q h1 b c hx).put M.lw hw
  ·rw [hu] at h1;cases h1;exact .inr ⟨(d+c,ag a),by rw [bp M.lw,if_pos rfl],Int.le_refl _⟩
 st:=M.st.put M.lw hw
 cw:=by have:=fy kw v;have:=M.cw;omega
 pre:=fun k q h=>by
  rcases h with h|h
  ·exact M.pre k q (.inl h)
  ·rw [bp M.lw] at h;split at h
   ·cases h;exact .inr ⟨u,(d,p0),rfl,hu,by show d<d+e;omega⟩
   ·exact M.pre k q (.inr h)
 bd:=fun k q h=>by
  rcases h with h|h
  ·exact M.bd k q (.inl h)
  ·rw [bp M.lw] at h;split at h
   ·cases h;have:=(M.bd u _ (.inl hu)).1;exact⟨by show 0≤d+e;omega,hb⟩
   ·exact M.bd k q (.inr h)
 nr:=M.nr
theorem oH.keep{E:List Int→List Int→Int→Prop}{O:List Int→Prop}{s:List Int}{kr:Ks}{Vr:Vs}{kw:Ks}{Vw:Vs}{X Y:List Int→List Int→Int→Prop}{n m:Nat}{b b':Int}(M:oH E O s kr Vr kw Vw X n b)(hm:n≤m)(hb:b≤b')(h:∀u q,aC kr Vr u=some q→∀v e,Y u v e→Kn kr Vr kw Vw v (q.1+e)):oH E O s kr Vr kw Vw Y m b':=
 ⟨M.lr,M.lw,M.nw,M.dis,M.wr,M.ww,M.mono,h,M.st,Nat.le_trans M.cw hm,M.pre,fun k q z=>⟨(M.bd k q z).1,Int.le_trans (M.bd k q z).2 hb⟩,M.nr⟩
theorem Kn.move{kr:Ks}{Vr:Vs}{kw:Ks}{Vw:Vs}(hr:kr.length=Vr.length)(hw:kw.length=Vw.length){k:List Int}{q0:Int×PV}(h0:aC kw Vw k=some q0)(hk:aC kr Vr k=none){x:List Int}{c:Int}(H:Kn kr Vr kw Vw x c):Kn (aU kr k) (bg kr Vr k q0) (bJ kw k) (aV kw Vw k) x c:=by
 unfold Kn;rw [bp hr,dy k kw Vw x hw]
 by_cases e:k=x
 ·subst e;rcases H with⟨q,h1,_⟩|⟨q,h1,h2⟩
  ·rw [hk] at h1;cases h1
  ·rw [h0] at h1;cases h1;exact .inl ⟨q0,if_pos rfl,h2⟩
 ·simp only [e,if_false];exact H
theorem oH.move{E:List Int→List Int→Int→Prop}{O:List Int→Prop}{s:List Int}{kr:Ks}{Vr:Vs}{kw:Ks}{Vw:Vs}{n:Nat}{b:Int}(M:oH E O s kr Vr kw Vw E n b){k:List Int}{q0:Int×PV}(h0:aC kw Vw k=some q0)(hl:∀x q',aC kw Vw x=some q'→q0.1≤q'.1):
 oH E O s (aU kr k) (bg kr Vr k q0) (bJ kw k) (aV kw Vw k) (fun a b c=>E a b c∧a≠k) n b∧aC (aU kr k) (bg kr Vr k q0) k=some q0∧∀x q,aC (aU kr k) (bg kr Vr k q0) x=some q→q.1≤q0.1:=by
 have hk:aC kr Vr k=none:=by
  cases h:aC kr Vr k with
  |none=>rfl
  |some q=>exact(M.dis k q q0 h h0).elim
 have old:∀x q,aC (aU kr k) (bg kr Vr k q0) x=some q∨aC (bJ kw k) (aV kw Vw k) x=some q→aC kr Vr x=some q∨aC kw Vw x=some q:=fun x q h=>by
  rcases h with h|h
  ·rw [bp M.lr] at h;split at h
   ·rename_i z;subst z;cases h;exact .inr h0
   ·exact .inl h
  ·rw [dy k kw Vw x M.lw] at h;split at h
   ·cases h
   ·exact .inr h
 refine⟨?_,by rw [bp M.lr,if_pos rfl],fun x q h=>?_⟩
 ·refine⟨j6 M.lr _ _,md k kw Vw M.lw,M.nw.filter _,fun x q q' h1 h2=>?_,fun x q h=>?_,fun x q h=>?_,fun x q x' q' h1 h2=>?_,fun u q h1 v e hx=>?_,M.st.move M.lr M.lw h0 hk,Nat.le_trans (List.length_filter_le ..) M.cw,fun x q h=>?_,fun x q h=>M.bd x q (old x q h),fh M.nr _⟩
  ·rw [bp M.lr] at h1;rw [dy k kw Vw x M.lw] at h2;split at h2
   ·cases h2
   ·rename_i z;rw [if_neg z] at h1;exact M.dis x q q' h1 h2
  ·rw [bp M.lr] at h;split at h
   ·rename_i z;subst z;cases h;exact M.ww k _ h0
   ·exact M.wr x q h
  ·rw [dy k kw Vw x M.lw] at h;split at h
   ·cases h
   ·exact M.ww x q h
  ·rw [bp M.lr] at h1;rw [dy k kw Vw x' M.lw] at h2;split at h2
   ·cases h2
   ·split at h1
    ·cases h1;exact hl x' q' h2
    ·exact M.mono x q x' q' h1 h2
  ·rw [bp M.lr,if_neg (fun z=>hx.2 z.symm)] at h1;exact(M.clo u q h1 v e hx.1).move M.lr M.lw h0 hk
  ·rcases M.pre x q (old x q h) with z|⟨y,q',z1,z2,z3⟩
   ·exact .inl z
   ·refine .inr ⟨y,q',z1,?_,z3⟩;rw [bp M.lr,if_neg (fun z=>by rw [←z,hk] at z2;cases z2)];exact z2
 ·rw [bp M.lr] at h;split at h
  ·cases h;exact Int.le_refl _
  ·exact M.mono x q k q0 h h0
theorem Fm{ks:Ks}{V:Vs}{k:List Int}{q:Int×PV}(h:aC ks V k=some q):aQ (.dct ks (V.map val)) (ag k)=.ok (val q):=by
 show(Res.of (gb (ag k))).bind (fun k=>Res.of (aC ks (V.map val) k))=_
 rw [dn];show Res.of (aC ks (V.map val) k)=_
 rw [j4,h]
 rfl
theorem yJ{q:Int×PV}:aQ (val q) (.int 0)=.ok (.int q.1):=id rfl
theorem uk{ks:Ks}{vs:List PV}{k:List Int}:eE (ag k) (.dct ks vs)=.ok (.bl (!bV ks k)):=by
 show(Res.of (gb (ag k))).bind (fun k=>Res.ok (PV.bl (!bV ks k)))=_
 rw [dn]
 rfl
theorem Hk{ks:Ks}{vs:List PV}:du .len [.dct ks vs]=.ok (.int ks.length):=id rfl
noncomputable def wS:Ss:=(.cons (.set 8 (.bin .add (.sub (.sub (.tmp 2) (.var 5)) (.cst (.int 0))) (.var 7)))
 (.cons (.ite (.and (.cmp .nin (.var 6) (.tmp 2)) (.or (.cmp .nin (.var 6) (.tmp 3)) (.cmp .lt (.var 8) (.sub (.sub (.tmp 3) (.var 6)) (.cst (.int 0))))))
  (.cons (.put 3 (.var 6) (.tup (.cons (.var 8) (.cons (.var 5) .nil))))
  .nil)
  .nil)
 .nil))
noncomputable abbrev qa(gn:Str)(A B z:PV)(kr:Ks)(Vr:Vs)(kw:Ks)(Vw:Vs)(s4 s5 s6 s7 s8:Ci.Slot):Sl:=[.val z,.fn gn [1,2,1,0] [B,A],.own (.dct kr (Vr.map val)),.own (.dct kw (Vw.map val)),s4,s5,s6,s7,s8]
theorem sF(kw:Ks)(Vw:Vs)(v:List Int)(c:Int)(p:PV):bg kw (Vw.map val) v (.tup [.int c,p])=(bg kw Vw v (c,p)).map val:=ma val kw Vw v (c,p)
theorem Hi(F:aS){gn:Str}{A B z:PV}{E:List Int→List Int→Int→Prop}{O:List Int→Prop}{s:List Int}{kr:Ks}{Vr:Vs}{kw:Ks}{Vw:Vs}{X:List Int→List Int→Int→Prop}{n:Nat}{b:Int}(M:oH E O s kr Vr kw Vw X n b)(hn:n≤1000){u v:List Int}{d e:Int}{p0:PV}(hu:aC kr Vr u=some (d,p0))(hd:∀k q,aC kr Vr k=some q→q.1≤d)(he:E u v e)(h0:0<e)(hb:d+e≤b)(ho:O v)(s4 s6 s7 s8:Ci.Slot):
 ∃BA B0 iD CZ En,(((Tg.two 6 7).put (tK (v,e)) (qa gn A B z kr Vr kw Vw s4 (.val (ag u)) s6 s7 s8)).bind fun az=>ai F wS az)=.ok (.nx (qa gn A B z kr Vr BA B0 s4 (.val (ag u)) iD CZ En))∧oH E O s kr Vr BA B0 (fun a b c=>X a b c∨a=u∧b=v∧c=e) (n+1) b:=by
 have e1:=Fm hu
 have l:kw.length<dg:=Nat.lt_of_le_of_lt (Nat.le_trans M.cw hn) (by decide)
 have g1:=c5 (vs:=Vr) v M.lr
 have g2:=c5 (vs:=Vw) v M.lw
 cases hv:aC kr Vr v with
 |some q=>
  rw [hv] at g1;have Cn:bV kr v=true:=g1
  refine⟨kw,Vw,.val (ag v),.val (.int e),.val (.int (d+e)),by simp only [wS,qa,af,aa,ae,ai,aK,ay,ak,aP,aO,av,ax,aw,Nat.reduceAdd,Nat.reduceSub,reduceIte,J,J2,e1,yJ,uk,Cn],M.keep (Nat.le_succ n) (Int.le_refl _) ?_⟩
  rintro a q' ha b c (hx|⟨rfl,rfl,rfl⟩)
  ·exact M.clo a q' ha b c hx
  ·rw [hu] at ha;cases ha;refine .inl ⟨q,hv,?_⟩;have:=hd _ q hv
   show q.1≤d+c
   omega
 |none=>
  rw [hv] at g1;have Cn:bV kr v=false:=g1
  cases hw:aC kw Vw v with
  |none=>
   rw [hw] at g2;have Ha:bV kw v=false:=g2
   refine⟨_,_,.val (ag v),.val (.int e),.val (.int (d+e)),?_,M.put hu hd he h0 hb ho hv (fun q h=>by rw [hw] at h;cases h)⟩;simp only [wS,qa,af,aa,ae,ai,aK,ay,ak,aP,aO,av,ax,aw,Nat.reduceAdd,Nat.reduceSub,reduceIte,J,J2,e1,yJ,uk,Cn,Ha,dn,l,sF]
  |some q=>
   rw [hw] at g2;have Ha:bV kw v=true:=g2
   have e2:=Fm hw
   by_cases cm:d+e<q.1
   ·refine⟨_,_,.val (ag v),.val (.int e),.val (.int (d+e)),?_,M.put hu hd he h0 hb ho hv (fun q' h=>by rw [hw] at h;cases h;omega)⟩;simp only [wS,qa,af,aa,ae,ai,aK,ay,ak,aP,aO,av,ax,aw,Nat.reduceAdd,Nat.reduceSub,reduceIte,J,J2,e1,e2,yJ,uk,Cn,Ha,cm,decide_true,dn,l,sF]
   ·refine⟨kw,Vw,.val (ag v),.val (.int e),.val (.int (d+e)),by simp only [wS,qa,af,aa,ae,ai,aK,ay,ak,aP,aO,av,ax,aw,Nat.reduceAdd,Nat.reduceSub,reduceIte,J,J2,e1,e2,yJ,uk,Cn,Ha,cm,decide_false],M.keep (Nat.le_succ n) (Int.le_refl _) ?_⟩
    rintro a q' ha b c (hx|⟨rfl,rfl,rfl⟩)
    ·exact M.clo a q' ha b c hx
    ·rw [hu] at ha;cases ha;exact .inr ⟨q,hw,by show q.1≤d+c;omega⟩
theorem Bm(F:aS){gn:Str}{A B z:PV}{E:List Int→List Int→Int→Prop}{O:List Int→Prop}{s:List Int}{b:Int}(hE:∀u v e,E u v e→0<e∧e≤30∧O v){kr:Ks}{Vr:Vs}{u:List Int}{d:Int}{p0:PV}(hu:aC kr Vr u=some (d,p0))(hd:∀k q,aC kr Vr k=some q→q.1≤d)(GO:d+30≤b)(s4:Ci.Slot):
 ∀(T:List (List Int×Int)) (kw:Ks) (Vw:Vs) (X:List Int→List Int→Int→Prop) (n:Nat) (s6 s7 s8:Ci.Slot),(∀t∈T,E u t.1 t.2)→oH E O s kr Vr kw Vw X n b→n+T.length≤1000→∃BA B0 iD CZ En,forL (fun x env=>((Tg.two 6 7).put x env).bind fun az=>ai F wS az) (T.map tK) (qa gn A B z kr Vr kw Vw s4 (.val (ag u)) s6 s7 s8)=.ok (.nx (qa gn A B z kr Vr BA B0 s4 (.val (ag u)) iD CZ En))∧oH E O s kr Vr BA B0 (fun a b c=>X a b c∨a=u∧(b,c)∈T) (n+T.length) b
 |[],kw,Vw,X,n,s6,s7,s8,_,M,_=>⟨kw,Vw,s6,s7,s8,rfl,M.keep (Nat.le_refl _) (Int.le_refl _) (fun a q ha b c hx=>M.clo a q ha b c (hx.resolve_right fun z=>by cases z.2))⟩
 |t::T,kw,Vw,X,n,s6,s7,s8,hT,M,hn=>by
  have ht:=hT t (List.mem_cons_self ..)
  rw [List.length_cons] at hn;obtain⟨kw1,Vw1,a6,a7,a8,e1,M1⟩:=Hi F (gn:=gn) (A:=A) (B:=B) (z:=z) M (by omega) hu hd ht (hE _ _ _ ht).1 (by have:=(hE _ _ _ ht).2.1;omega) (hE _ _ _ ht).2.2 s4 s6 s7 s8
  obtain⟨kw2,Vw2,b6,b7,b8,e2,M2⟩:=Bm F hE hu hd GO s4 T kw1 Vw1 _ (n+1) a6 a7 a8 (fun x hx=>hT x (List.mem_cons_of_mem _ hx)) M1 (by omega)
  refine⟨kw2,Vw2,b6,b7,b8,?_,M2.keep (by rw [List.length_cons];omega) (Int.le_refl _) fun a q ha b c hx=>M2.clo a q ha b c ?_⟩
  ·rw [List.map_cons,forL,e1,kI];exact e2
  ·rcases hx with hx|⟨h1,h2⟩
   ·exact .inl (.inl hx)
   ·rcases List.mem_cons.1 h2 with h2|h2
    ·exact .inl (.inr ⟨h1,by rw [←h2],by rw [←h2]⟩)
    ·exact .inr ⟨h1,h2⟩
end K31
namespace K31
open PySem L2 Ci KJ
def kW(U kr:Ks):Nat:=(U.filter fun x=>!bV kr x).length
theorem iV{U kr:Ks}{k:List Int}(hk:k∈U)(hn:bV kr k=false):kW U (aU kr k)<kW U kr:=by
 have hh:∀x,bV (aU kr k) x=(bV kr x||decide (x=k)):=by
  intro x;rw [Bool.eq_iff_iff,Bool.or_eq_true,cK,cK,decide_eq_true_eq];unfold aU;rw [hn];simp
 unfold kW;simp only [hh]
 induction U with
 |nil=>cases hk
 |cons y U ih=>
  have mono:(U.filter fun x=>!(bV kr x||decide (x=k))).length≤(U.filter fun x=>!bV kr x).length:=by
   rw [←List.countP_eq_length_filter,←List.countP_eq_length_filter];refine List.countP_mono_left fun x _ h=>?_
   simp only [Bool.not_or,Bool.and_eq_true] at h;exact h.1
  rw [List.filter_cons,List.filter_cons]
  by_cases e:y=k
  ·subst e;simp only [hn,decide_true,Bool.or_true,Bool.not_true,Bool.false_eq_true,if_false,Bool.not_false,if_true,List.length_cons];omega
  ·have:=ih ((List.mem_cons.1 hk).resolve_left fun z=>e z.symm)
   simp only [e,decide_false,Bool.or_false];cases bV kr y<;>simp only [Bool.not_true,Bool.not_false,Bool.false_eq_true,if_true,if_false,List.length_cons]<;>omega
def wC:E:=.cmp .gt (.blt .len (.cons (.tmp 3) .nil)) (.cst (.int 0))
noncomputable def wB:Ss:=(.cons (.minK 5 3)
 (.cons (.putPop 2 3 5)
 (.cons (.for_ (.two 6 7) (.seq (.callv 1 (.cons (.var 5) .nil))) wS)
 .nil)))
theorem My{a b c:PV}:fb [a,b,c] [2,1,0]=.ok [c,b,a]:=id rfl
theorem zt(F:aS){gn:Str}{A B z:PV}{E:List Int→List Int→Int→Prop}{O:List Int→Prop}{s:List Int}{U:Ks}(hU:∀u,O u→u∈U)(xy:U.length≤36)(hE:∀u v e,E u v e→0<e∧e≤30∧O v)(dH:∀u,O u→∃T:List (List Int×Int),F gn [A,B,ag u]=.ok (.lst (T.map tK))∧T.length≤9∧∀v e,(v,e)∈T↔E u v e)
 {kr:Ks} {Vr:Vs} {kw:Ks} {Vw:Vs} (M:oH E O s kr Vr kw Vw E (1+9*kr.length) (30*kr.length)) (hc:kr.length+kW U kr≤U.length) (fU:kw≠[]) (s4 s5 s6 s7 s8:Ci.Slot):
 ∃eL Hg BA B0 wK iD CZ En,ai F wB (qa gn A B z kr Vr kw Vw s4 s5 s6 s7 s8)=.ok (.nx (qa gn A B z eL Hg BA B0 s4 wK iD CZ En))∧oH E O s eL Hg BA B0 E (1+9*eL.length) (30*eL.length)∧eL.length+kW U eL≤U.length∧kW U eL<kW U kr:=by
 obtain⟨k,q,h1,h2,h3⟩:=u9 M.lw M.nw fU
 obtain⟨M1,h4,h5⟩:=M.move h2 h3
 obtain⟨ho,_⟩:=M.ww k q h2
 have hk:bV kr k=false:=by
  rw [c5 (vs:=Vr) k M.lr];cases h:aC kr Vr k with
  |none=>rfl
  |some q'=>exact(M.dis k q' q h h2).elim
 have hl:(aU kr k).length=kr.length+1:=by unfold aU;rw [hk];simp
 have cm:=iV (hU k ho) hk
 obtain⟨T,e1,hT,hT2⟩:=dH k ho
 obtain⟨d,p0⟩:=q
 obtain⟨kw2,Vw2,b6,b7,b8,e2,M2⟩:=Bm F (gn:=gn) (A:=A) (B:=B) (z:=z) (b:=30*kr.length+30) hE h4 h5 (by have:=(M.bd k (d,p0) (.inr h2)).2;show d+30≤_;omega) s4 T _ _ _ _ s6 s7 s8 (fun t ht=>(hT2 t.1 t.2).1 ht) (M1.keep (Nat.le_refl _) (by omega) M1.clo) (by omega)
 refine⟨_,_,kw2,Vw2,.val (ag k),b6,b7,b8,?_,M2.keep (by omega) (by omega) (fun a q ha b c hx=>M2.clo a q ha b c ?_),by omega,cm⟩
 ·have l:kr.length<dg∧2≠3:=⟨Nat.lt_of_le_of_lt (m:=36) (by omega) (by decide),by decide⟩
  have gm:aC kw (Vw.map val) k=some (val (d,p0)):=by rw [j4,h2];rfl
  have gp:bg kr (Vr.map val) k (val (d,p0))=(bg kr Vr k (d,p0)).map val:=ma val kr Vr k (d,p0)
  have hd:([1,2,1,0]:List Nat).head?=some 1:=rfl
  have ht:([1,2,1,0]:List Nat).tail=[2,1,0]:=rfl
  simp only [wS,qa,af,aa,ae,ai,aK,ay,ak,aP,aO,av,ax,aw,Nat.reduceAdd,Nat.reduceSub,reduceIte,J,J2] at e2;simp only [wB,wS,qa,af,aa,ae,ai,aK,ay,ak,aP,aO,av,ax,aw,Nat.reduceAdd,Nat.reduceSub,reduceIte,J,J2,lQ,h1,dn,gm,l,and_self,jh,gp,hd,ht,My,e1,e2,ne_eq,not_false_eq_true]
 ·by_cases e:a=k
  ·subst e;exact .inr ⟨rfl,(hT2 b c).2 hx⟩
  ·exact .inl ⟨hx,e⟩
theorem tj(F:aS){gn:Str}{A B z:PV}{E:List Int→List Int→Int→Prop}{O:List Int→Prop}{s:List Int}{U:Ks}(hU:∀u,O u→u∈U)(xy:U.length≤36)(hE:∀u v e,E u v e→0<e∧e≤30∧O v)(dH:∀u,O u→∃T:List (List Int×Int),F gn [A,B,ag u]=.ok (.lst (T.map tK))∧T.length≤9∧∀v e,(v,e)∈T↔E u v e)(s4:Ci.Slot):
 ∀(n:Nat) (kr:Ks) (Vr:Vs) (kw:Ks) (Vw:Vs) (s5 s6 s7 s8:Ci.Slot),oH E O s kr Vr kw Vw E (1+9*kr.length) (30*kr.length)→kr.length+kW U kr≤U.length→kW U kr<n→∃eL Hg HB wK iD CZ En,bO (ay F wC) (ai F wB) n (qa gn A B z kr Vr kw Vw s4 s5 s6 s7 s8)=.ok (.nx [.val z,.fn gn [1,2,1,0] [B,A],.own (.dct eL (Hg.map val)),HB,s4,wK,iD,CZ,En])∧eL.length≤36∧∃m,oH E O s eL Hg [] [] E m 1080
 |0,_,_,_,_,_,_,_,_,_,_,h=>absurd h (Nat.not_lt_zero _)
 |n+1,kr,Vr,kw,Vw,s5,s6,s7,s8,M,hc,hn=>by
  have ec:ay F wC (qa gn A B z kr Vr kw Vw s4 s5 s6 s7 s8)=.ok (.bl (decide ((0:Int)<kw.length))):=by simp only [wC,qa,af,aa,ae,ai,aK,ay,ak,aP,aO,av,ax,aw,Nat.reduceAdd,Nat.reduceSub,reduceIte,J,J2,Hk]
  by_cases hk:kw=[]
  ·subst hk;have hv:Vw=[]:=List.eq_nil_of_length_eq_zero M.lw.symm
   subst hv;refine⟨kr,Vr,.own (.dct [] []),s5,s6,s7,s8,?_,by omega,_,M.keep (Nat.le_refl _) (by omega) M.clo⟩;have:decide ((0:Int)<(([]:Ks).length:Nat))=false:=rfl
   rw [this] at ec;simp only [bO,ec,kI,EO,Bool.false_eq_true,if_false,qa]
   rfl
  ·obtain⟨kr1,Vr1,kw1,Vw1,t5,t6,t7,t8,e1,M1,hc1,cm⟩:=zt F (gn:=gn) (A:=A) (B:=B) (z:=z) hU xy hE dH M hc hk s4 s5 s6 s7 s8
   obtain⟨kr2,Vr2,u3,u5,u6,u7,u8,e2,h2⟩:=tj F (gn:=gn) (A:=A) (B:=B) (z:=z) hU xy hE dH s4 n kr1 Vr1 kw1 Vw1 t5 t6 t7 t8 M1 hc1 (by omega)
   refine⟨kr2,Vr2,u3,u5,u6,u7,u8,?_,h2⟩;have:decide ((0:Int)<(kw.length:Nat))=true:=by
    have:=List.length_pos_iff.2 hk
    simp;omega
   rw [this] at ec;simp only [bO,ec,kI,EO,if_true,e1,e2]
structure ES(E:List Int→List Int→Int→Prop)(s:List Int)(kr:Ks)(Vr:Vs):Prop where
 len:kr.length=Vr.length
 le:kr.length≤36
 wlk:∀k q,aC kr Vr k=some q→k.length=2∧yy E s k q.1
 clo:∀u q,aC kr Vr u=some q→∀v e,E u v e→∃q',aC kr Vr v=some q'∧q'.1≤q.1+e
 st:∃q,aC kr Vr s=some q∧q.1≤0
 pre:∀k q,aC kr Vr k=some q→q.2=.non∨∃y q',q.2=ag y∧aC kr Vr y=some q'∧q'.1<q.1
 bd:∀k q,aC kr Vr k=some q→0≤q.1∧q.1≤1080
 nr:kr.Nodup
noncomputable def BP(gn:Str):Def:=⟨["starts","steps","reached","waiting","start","spot","other","cost","together"],2,(.cons (.dnew 2)
 (.cons (.dnew 3)
 (.cons (.for_ (.one 4) (.seq (.var 0))
  (.cons (.put 3 (.var 4) (.tup (.cons (.cst (.int 0)) (.cons (.cst .non) .nil))))
  .nil))
 (.cons (.whl (.cmp .gt (.blt .len (.cons (.tmp 3) .nil)) (.cst (.int 0)))
  (.cons (.minK 5 3)
  (.cons (.putPop 2 3 5)
  (.cons (.for_ (.two 6 7) (.seq (.callv 1 (.cons (.var 5) .nil)))
   (.cons (.set 8 (.bin .add (.sub (.sub (.tmp 2) (.var 5)) (.cst (.int 0))) (.var 7)))
   (.cons (.ite (.and (.cmp .nin (.var 6) (.tmp 2)) (.or (.cmp .nin (.var 6) (.tmp 3)) (.cmp .lt (.var 8) (.sub (.sub (.tmp 3) (.var 6)) (.cst (.int 0))))))
    (.cons (.put 3 (.var 6) (.tup (.cons (.var 8) (.cons (.var 5) .nil))))
    .nil)
    .nil)
   .nil)))
  .nil))))
 (.cons (.frz 2)
 (.cons (.ret (.var 2))
 .nil)))))),some (gn,[1,2,1,0])⟩
theorem uf(F:aS)(gn:Str){A B:PV}{E:List Int→List Int→Int→Prop}{O:List Int→Prop}{s:List Int}{U:Ks}(hU:∀u,O u→u∈U)(xy:U.length≤36)(h2:∀u,O u→u.length=2)(hE:∀u v e,E u v e→0<e∧e≤30∧O v)(dH:∀u,O u→∃T:List (List Int×Int),F gn [A,B,ag u]=.ok (.lst (T.map tK))∧T.length≤9∧∀v e,(v,e)∈T↔E u v e)(hs:O s):
 ∃kr Vr,af F (BP gn) [.lst [ag s],B,A]=.ok (.dct kr (Vr.map val))∧ES E s kr Vr:=by
 have g:∀x q,aC [s] [((0:Int),PV.non)] x=some q→s=x∧q=(0,.non):=fun x q h=>by
  simp only [aC] at h;split at h
  ·rename_i z;cases h;exact⟨z,rfl⟩
  ·cases h
 have M:oH E O s [] [] [s] [(0,.non)] E (1+9*([]:Ks).length) (30*(([]:Ks).length:Nat)):=⟨rfl,rfl,by simp,(fun k q q' h=>by simp [aC] at h),(fun k q h=>by simp [aC] at h),(fun k q h=>by obtain⟨rfl,rfl⟩:=g k q h;exact⟨hs,.here⟩),(fun k q k' q' h=>by simp [aC] at h),(fun u q h=>by simp [aC] at h),.inr ⟨(0,.non),by simp [aC],Int.le_refl _⟩,by simp,(fun k q h=>h.elim (fun h=>by simp [aC] at h) fun h=>by obtain⟨_,rfl⟩:=g k q h;exact .inl rfl),(fun k q h=>h.elim (fun h=>by simp [aC] at h) fun h=>by obtain⟨_,rfl⟩:=g k q h;exact⟨Int.le_refl _,Int.le_refl _⟩),List.nodup_nil⟩
 have hl:kW U []≤U.length:=List.length_filter_le ..
 obtain⟨kr,Vr,u3,u5,u6,u7,u8,e,h3,m,M'⟩:=tj F (gn:=gn) (A:=A) (B:=B) (z:=.lst [ag s]) hU xy hE dH (.val (ag s)) WN [] [] [s] [(0,.non)] .no .no .no .no M (by simpa using hl) (Nat.lt_of_le_of_lt (Nat.le_trans hl xy) (by decide))
 refine⟨kr,Vr,?_,M'.lr,h3,fun k q h=>⟨h2 k (M'.wr k q h).1,(M'.wr k q h).2⟩,fun u q h v c hx=>?_,?_,?_,?_,?_⟩
 ·have l:(0:Nat)<dg:=by decide
  have p1:aU [] s=[s]:=rfl
  have p2:∀p:PV,bg ([]:Ks) [] s p=[p]:=fun p=>rfl
  have a2:List.take 1 [PV.lst [ag s],B,A]=[.lst [ag s]]:=rfl
  have a3:List.drop 1 [PV.lst [ag s],B,A]=[B,A]:=rfl
  simp only [wC,wB,wS,qa,af,aa,ae,ai,aK,ay,ak,aP,aO,av,ax,aw,Nat.reduceAdd,Nat.reduceSub,reduceIte,J,J2] at e;simp only [BP,af,aa,ae,ai,aK,ay,ak,aP,aO,av,ax,aw,Nat.reduceAdd,Nat.reduceSub,reduceIte,J,J2,a2,a3,forL,dn,l,p1,p2,e,yt];exact if_pos rfl
 ·rcases M'.clo u q h v c hx with h|⟨q',h,_⟩
  ·exact h
  ·simp [aC] at h
 ·rcases M'.st with h|⟨q',h,_⟩
  ·exact h
  ·simp [aC] at h
 ·exact fun k q h=>M'.pre k q (.inl h)
 ·exact fun k q h=>M'.bd k q (.inl h)
 ·exact M'.nr
end K31
namespace L2
open PySem PySem.Spec PyProof.Rows PySem.W
theorem run_bind{α β:Type}(lt:Nat→Nat→Bool)(f:α→KasT β):∀t:KasT α,aM lt (t.bind f)=aM lt (f (aM lt t))
 |.ret a=>rfl
 |.ask i j k=>run_bind lt f (k (lt i j))
structure Lo(n:Nat)(lt:Nat→Nat→Bool):Prop where
 t:∀a b,a<n→b<n→a≠b→lt a b=true∨lt b a=true
 a:∀a b,lt a b=true→lt b a=false
 r:∀a b c,lt a b=true→lt b c=true→lt a c=true
abbrev gp(p:Array Nat)(i:Nat):Nat:=p.getD i 0
def Sg(lt:Nat→Nat→Bool)(p:Array Nat)(r:Nat):Prop:=∀i j,i<j→j<r→lt (gp p i) (gp p j)=true
section
variable{n:Nat}{lt:Nat→Nat→Bool}
theorem Pm.size{p:Array Nat}(h:Pm n p):p.size=n:=by
 have:=h.length_eq
 simpa using this
theorem Pm.ne{p:Array Nat}(h:Pm n p){i j:Nat}(hi:i<n)(hj:j<n)(hn:i≠j):gp p i≠gp p j:=by
 have nd:p.toList.Nodup:=h.nodup_iff.2 List.nodup_range
 have sz:=h.size
 intro e;rw [gp,gp,Array.getD_eq_getD_getElem?,Array.getD_eq_getD_getElem?,Array.getElem?_eq_getElem (by omega),Array.getElem?_eq_getElem (by omega)] at e;simp only [Option.getD_some] at e;have:=(List.getElem_inj nd (h₀:=by simpa [sz] using hi) (h₁:=by simpa [sz] using hj)).1 (by simpa using e)
 exact hn this
theorem Pm.or{p:Array Nat}(L:Lo n lt)(h:Pm n p){i j:Nat}(hi:i<n)(hj:j<n)(hn:i≠j)(f:lt (gp p i) (gp p j)=false):lt (gp p j) (gp p i)=true:=
 (L.t _ _ (h.lt (by omega) i) (h.lt (by omega) j) (h.ne hi hj hn)).resolve_left (by rw [f];exact zzf)
theorem Sg.one(p:Array Nat):Sg lt p 1:=fun i j h1 h2=>by omega
theorem Sg.snoc(L:Lo n lt){p:Array Nat}{m:Nat}(h1:1≤m)(h:Sg lt p m)(e:lt (gp p (m-1)) (gp p m)=true):Sg lt p (m+1):=fun i j sP hj=>by
 by_cases hm:j=m
 ·subst hm
  by_cases hi:i=j-1
  ·subst hi;exact e
  ·exact L.r _ _ _ (h i (j-1) (by omega) (by omega)) e
 ·exact h i j sP (by omega)
theorem nR(L:Lo n lt){p:Array Nat}(P:Pm n p):∀f m,1≤m→m+f≤n→Sg lt p m→m≤aM lt (kas_asc p f m)∧aM lt (kas_asc p f m)≤m+f∧Sg lt p (aM lt (kas_asc p f m))∧(aM lt (kas_asc p f m)<m+f→lt (gp p (aM lt (kas_asc p f m))) (gp p (aM lt (kas_asc p f m)-1))=true)
 |0,m,h1,h2,h3=>⟨Nat.le_refl _,Nat.le_refl _,h3,fun z=>absurd z (Nat.lt_irrefl _)⟩
 |f+1,m,h1,h2,h3=>by
  unfold kas_asc;simp only [aM];cases e:lt (gp p m) (gp p (m-1)) with
  |true=>rw [if_pos rfl];exact⟨Nat.le_refl _,Nat.le_add_right _ _,h3,fun _=>e⟩
  |false=>
   rw [if_neg zzf];have e2:=P.or L (by omega) (by omega) (by omega) e
   obtain⟨a,b,c,d⟩:=nR L P f (m+1) (by omega) (by omega) (h3.snoc L h1 e2)
   exact⟨by omega,by omega,c,fun z=>d (by omega)⟩
def Dg(lt:Nat→Nat→Bool)(p:Array Nat)(r:Nat):Prop:=∀i j,i<j→j<r→lt (gp p j) (gp p i)=true
theorem oY(L:Lo n lt){p:Array Nat}(P:Pm n p):∀f m,1≤m→m+f≤n→Dg lt p m→∃m',aM lt (kas_desc f p m 0)=(p,m',0)∧m≤m'∧m'≤m+f∧Dg lt p m'
 |0,m,h1,h2,h3=>⟨m,rfl,Nat.le_refl _,Nat.le_refl _,h3⟩
 |f+1,m,h1,h2,h3=>by
  unfold kas_desc;simp only [aM];cases e:lt (gp p m) (gp p (m-1)) with
  |true=>
   rw [if_pos rfl,if_neg (Nat.lt_irrefl 0)];obtain⟨m',a,b,c,d⟩:=oY L P f (m+1) (by omega) (by omega) (fun i j sP hj=>by
    by_cases hm:j=m
    ·subst hm
     by_cases hi:i=j-1
     ·subst hi;exact e
     ·exact L.r _ _ _ e (h3 i (j-1) (by omega) (by omega))
    ·exact h3 i j sP (by omega))
   exact⟨m',a,by omega,by omega,d⟩
  |false=>
   have e2:=P.or L (by omega) (by omega) (by omega) e
   rw [if_neg zzf];simp only [aM];rw [show lt (p.getD (m-1) 0) (p.getD m 0)=true from e2,if_pos rfl];exact⟨m,rfl,Nat.le_refl _,by omega,h3⟩
theorem sN{p:Array Nat}{m:Nat}(h:m≤p.size)(k:Nat):gp (kas_rev p 0 m) k=if k<m then gp p (m-1-k) else gp p k:=by
 unfold kas_rev gp;rw [Array.getD_eq_getD_getElem?,getElem?_mirror_all h];simp only [Nat.zero_le,true_and,Nat.zero_add];split<;>rw [Array.getD_eq_getD_getElem?]
theorem Dg.rev{p:Array Nat}{m:Nat}(h:m≤p.size)(d:Dg lt p m):Sg lt (kas_rev p 0 m) m:=fun i j sP hj=>by
 rw [sN h,sN h,if_pos (by omega),if_pos hj];exact d _ _ (by omega) (by omega)
theorem uv(L:Lo n lt)(h0:0<n){p:Array Nat}(P:Pm n p):Sg lt (aM lt (kas_count n p)).2 (aM lt (kas_count n p)).1∧Pm n (aM lt (kas_count n p)).2∧1≤(aM lt (kas_count n p)).1∧(aM lt (kas_count n p)).1≤n:=by
 unfold kas_count;rw [run_bind];obtain⟨a,b,c,d⟩:=nR L P (n-1) 1 (Nat.le_refl _) (by omega) (Sg.one p)
 generalize aM lt (kas_asc p (n-1) 1)=m at a b c d
 split
 ·exact⟨c,P,a,by show m≤n;omega⟩
 ·rename_i hm;have qo:m≠n:=fun z=>hm (by rw [z];exact beq_self_eq_true n)
  split
  ·rename_i h1;simp only [aM];rw [show lt (p.getD 0 0) (p.getD (m-1) 0)=true from c 0 (m-1) (by omega) (by omega),if_pos rfl];exact⟨c,P,a,by show m≤n;omega⟩
  ·have zM:m=1:=by omega
   subst zM;have e:=d (by omega)
   unfold kas_descPart;rw [run_bind];obtain⟨m',r,r1,r2,r3⟩:=oY L P (n-(1+1)) (1+1) (by omega) (by omega) (fun i j sP hj=>by
    have NG:i=0:=by omega
    have Nm:j=1:=by omega
    subst NG;subst Nm;exact e)
   rw [r];dsimp only;rw [if_neg (Nat.lt_irrefl 0)];unfold kas_tail3;rw [run_bind];have P':=P.rev 0 m'
   obtain⟨a',b',c',_⟩:=nR L P' (n-m') m' (by omega) (by omega) (r3.rev (by rw [P.size];omega))
   simp only [aM];exact⟨c',P',by omega,by omega⟩
theorem il(L:Lo n lt){p:Array Nat}(P:Pm n p){k:Nat}(hk:k<n)(S:Sg lt p k):∀f l r,r-l≤f→l≤r→r≤k→(∀i,i<l→lt (gp p i) (gp p k)=true)→(∀i,r≤i→i<k→lt (gp p k) (gp p i)=true)→
 aM lt (kas_place p k f l r)≤k∧(∀i,i<aM lt (kas_place p k f l r)→lt (gp p i) (gp p k)=true)∧∀i,aM lt (kas_place p k f l r)≤i→i<k→lt (gp p k) (gp p i)=true
 |0,l,r,h1,h2,h3,h4,h5=>by
  have hl:l=r:=by omega
  subst hl;exact⟨h3,h4,h5⟩
 |f+1,l,r,h1,h2,h3,h4,h5=>by
  unfold kas_place;split
  ·have hl:l=r:=by omega
   subst hl;exact⟨h3,h4,h5⟩
  ·simp only [aM];have cm:l<r:=by omega
   have m1:l≤(l+r)/2:=by omega
   have m2:(l+r)/2<r:=by omega
   generalize hm:(l+r)/2=m at m1 m2
   cases e:lt (gp p k) (gp p m) with
   |true=>
    rw [if_pos rfl];refine il L P hk S f l m (by omega) m1 (by omega) h4 fun i hi Ms=>?_
    by_cases z:i=m
    ·subst z;exact e
    ·exact L.r _ _ _ e (S m i (by omega) Ms)
   |false=>
    rw [if_neg zzf];have e2:=P.or L hk (by omega) (by omega) e
    refine il L P hk S f (m+1) r (by omega) (by omega) h3 (fun i hi=>?_) h5
    by_cases z:i=m
    ·subst z;exact e2
    ·exact L.r _ _ _ (S i m (by omega) (by omega)) e2
theorem rM{p:Array Nat}{k x:Nat}(hk:k<p.size)(hx:x≤k)(i:Nat):gp (bubble p k (k-x)) i=if i=x then gp p k else if x<i∧i≤k then gp p (i-1) else gp p i:=by
 have g:∀(q:Array Nat) j,gp q j=(q[j]?).getD 0:=fun q j=>Array.getD_eq_getD_getElem? ..
 rw [g,g,g,g,getElem?_bubble hk (k-x) (by omega),show k-(k-x)=x by omega];split
 ·rfl
 ·split<;>rfl
theorem rQ(L:Lo n lt):∀f (p:Array Nat) k,k+f=n→Pm n p→Sg lt p k→Sg lt (aM lt (kas_bin f p k)) n
 |0,p,k,h,P,S=>by
  have:k=n:=by omega
  subst this;exact S
 |f+1,p,k,h,P,S=>by
  unfold kas_bin;rw [run_bind];obtain⟨a,b,c⟩:=il L P (k:=k) (by omega) S k 0 k (by omega) (Nat.zero_le _) (Nat.le_refl _) (fun i hi=>absurd hi (Nat.not_lt_zero _)) (fun i h1 h2=>by omega)
  generalize aM lt (kas_place p k k 0 k)=x at a b c
  refine rQ L f _ (k+1) (by omega) (P.bub _ _) fun i j sP hj=>?_
  have hs:k<p.size:=by rw [P.size];omega
  rw [rM hs a,rM hs a]
  by_cases hi:i=x
  ·rw [if_pos hi,if_neg (by omega),if_pos (by omega)];exact c _ (by omega) (by omega)
  ·rw [if_neg hi]
   by_cases Ab:j=x
   ·rw [if_pos Ab,if_neg (by omega)];exact b _ (by omega)
   ·rw [if_neg Ab]
    by_cases i2:x<i∧i≤k
    ·rw [if_pos i2,if_pos (by omega)];exact S _ _ (by omega) (by omega)
    ·rw [if_neg i2]
     by_cases j2:x<j∧j≤k
     ·rw [if_pos j2]
      by_cases z:i=j-1
      ·omega
      ·exact S _ _ (by omega) (by omega)
     ·rw [if_neg j2];exact S _ _ sP (by omega)
theorem kU(L:Lo n lt)(h0:0<n):(f9 n lt).Pairwise fun a b=>lt a b=true:=by
 have key:Sg lt (aM lt (kas_sort n)) n:=by
  unfold kas_sort;rw [run_bind];obtain⟨a,b,c,d⟩:=uv L h0 (p:=(List.range n).toArray) (List.Perm.refl _)
  generalize aM lt (kas_count n (List.range n).toArray)=r at a b c d
  split
  ·rw [Nat.max_eq_left c];exact rQ L _ _ _ (by omega) b a
  ·have:r.1=n:=by omega
   rw [this] at a;exact a
 have P:Pm n (aM lt (kas_sort n)):=fj h0 lt
 have sz:=P.size
 rw [List.pairwise_iff_getElem];intro i j hi hj sP;have Ab:j<(aM lt (kas_sort n)).size:=by simpa [f9] using hj
 have:=key i j sP (by omega)
 simpa [gp,f9,Array.getD_eq_getD_getElem?,Array.getElem?_eq_getElem Ab,Array.getElem?_eq_getElem (Nat.lt_trans sP Ab)] using this
end
end L2
namespace K31
open PySem L2 Ci KJ
theorem ql:∀{a b c:List Int},HT.lexLt a b=true→HT.lexLt b c=true→HT.lexLt a c=true
 |[],[],_,h,_=>by cases h
 |[],_::_,[],_,h=>by cases h
 |[],_::_,_::_,_,_=>rfl
 |_::_,[],_,h,_=>by cases h
 |_::_,_::_,[],_,h=>by cases h
 |x::a,y::b,z::c,h,k=>by
  simp only [HT.lexLt] at h k⊢;split at h
  ·subst x;split at k
   ·subst y;rw [if_pos rfl];exact ql h k
   ·rw [if_neg ‹_›];exact k
  ·have h:=of_decide_eq_true h
   split at k
   ·subst y;rw [if_neg ‹_›];exact decide_eq_true h
   ·have k:=of_decide_eq_true k
    rw [if_neg (by omega)];exact decide_eq_true (by omega)
theorem gC:∀{a b:List Int},HT.lexLt a b=true→HT.lexLt b a=false
 |[],[],h=>by cases h
 |[],_::_,_=>rfl
 |_::_,[],h=>by cases h
 |x::a,y::b,h=>by
  simp only [HT.lexLt] at h⊢;split at h
  ·subst x;rw [if_pos rfl];exact gC h
  ·have h:=of_decide_eq_true h
   rw [if_neg (by omega)];exact decide_eq_false (by omega)
theorem xV:∀{a b:List Int},a≠b→HT.lexLt a b=true∨HT.lexLt b a=true
 |[],[],h=>absurd rfl h
 |[],_::_,_=>.inl rfl
 |_::_,[],_=>.inr rfl
 |x::a,y::b,h=>by
  simp only [HT.lexLt]
  by_cases e:x=y
  ·subst x;rw [if_pos rfl,if_pos rfl];exact xV fun z=>h (by rw [z])
  ·rw [if_neg e,if_neg (fun z=>e z.symm)]
   by_cases l:x<y
   ·exact .inl (decide_eq_true l)
   ·exact .inr (decide_eq_true (by omega))
theorem mM(a:List Int):HT.lexLt a a=false:=by
 cases h:HT.lexLt a a with
 |false=>rfl
 |true=>have:=gC h;rw [h] at this;exact this
abbrev mJ(L:Ks):Prop:=L.Pairwise fun a b=>HT.lexLt a b=true
theorem mJ.nodup{L:Ks}(h:mJ L):L.Nodup:=h.imp fun{a b} e z=>by rw [z,mM] at e;cases e
theorem iQ:∀{L M:Ks},mJ L→mJ M→(∀x,x∈L↔x∈M)→L=M
 |[],[],_,_,_=>rfl
 |[],y::M,_,_,h=>absurd ((h y).2 (List.mem_cons_self ..)) (by simp)
 |x::L,[],_,_,h=>absurd ((h x).1 (List.mem_cons_self ..)) (by simp)
 |x::L,y::M,hL,hM,h=>by
  have pL:=List.pairwise_cons.1 hL
  have pM:=List.pairwise_cons.1 hM
  have e:x=y:=by
   rcases List.mem_cons.1 ((h x).1 (List.mem_cons_self ..)) with z|z
   ·exact z
   ·rcases List.mem_cons.1 ((h y).2 (List.mem_cons_self ..)) with w|w
    ·exact w.symm
    ·have:=gC (pM.1 x z)
     rw [pL.1 y w] at this;cases this
  subst e;rw [iQ pL.2 pM.2 fun z=>?_]
  constructor
  ·intro hz;rcases List.mem_cons.1 ((h z).1 (List.mem_cons_of_mem _ hz)) with w|w
   ·subst w;have:=pL.1 z hz;rw [mM] at this;cases this
   ·exact w
  ·intro hz;rcases List.mem_cons.1 ((h z).2 (List.mem_cons_of_mem _ hz)) with w|w
   ·subst w;have:=pM.1 z hz;rw [mM] at this;cases this
   ·exact w
theorem iM:∀{L M:Ks},mJ L→mJ M→(∀x,x∈L→x∈M)→L.length≤M.length
 |[],_,_,_,_=>Nat.zero_le _
 |x::L,M,hL,hM,h=>by
  have pL:=List.pairwise_cons.1 hL
  obtain⟨A,B,rfl⟩:=List.append_of_mem (h x (List.mem_cons_self ..))
  have pM:=List.pairwise_append.1 hM
  have:=iM (M:=B) pL.2 (List.pairwise_cons.1 pM.2.1).2 fun z hz=>by
   rcases List.mem_append.1 (h z (List.mem_cons_of_mem _ hz)) with w|w
   ·have a:=pM.2.2 z w x (List.mem_cons_self ..)
    rw [gC (pL.1 z hz)] at a;cases a
   ·rcases List.mem_cons.1 w with w|w
    ·have a:=pL.1 z hz;rw [w,mM] at a;cases a
    ·exact w
  simp only [List.length_cons,List.length_append];omega
theorem range_getD{α:Type}(d:α)(l:List α):(List.range l.length).map (fun i=>l.getD i d)=l:=by
 refine List.ext_getElem (by simp) fun i h1 h2=>?_
 simp [List.getD_eq_getElem?_getD,List.getElem?_eq_getElem h2]
theorem vT{ks:Ks}(nd:ks.Nodup):∃S:Ks,jx PV.non (ks.map ag) ks=S.map ag∧S.length=ks.length∧(∀k,k∈S↔k∈ks)∧mJ S:=by
 by_cases h:ks.length<2
 ·refine⟨ks,by unfold jx;rw [if_pos (by simpa using h)],rfl,fun k=>Iff.rfl,?_⟩
  match ks,h with
  |[],_=>exact .nil
  |[a],_=>exact List.pairwise_singleton ..
  |_::_::_,h=>simp only [List.length_cons] at h;omega
 ·have P:=fj (n:=ks.length) (by omega) fun i j=>HT.lexLt (ks.getD i []) (ks.getD j [])
  have Q:=P.map fun i=>ks.getD i []
  rw [range_getD] at Q;have U:=kU (n:=ks.length) (lt:=fun i j=>HT.lexLt (ks.getD i []) (ks.getD j [])) ⟨fun a b ha hb hn=>xV fun z=>hn (by
   simp only [List.getD_eq_getElem?_getD,List.getElem?_eq_getElem ha,List.getElem?_eq_getElem hb,Option.getD_some] at z;exact(List.getElem_inj nd).1 z),fun a b=>gC,fun a b c=>ql⟩ (by omega)
  refine⟨(f9 ks.length fun i j=>HT.lexLt (ks.getD i []) (ks.getD j [])).map fun i=>ks.getD i [],?_,?_,fun k=>Q.mem_iff,List.pairwise_map.2 U⟩
  ·unfold jx;rw [if_neg (by simpa using h),List.length_map,List.map_map];refine List.map_congr_left fun i hi=>?_
   have hl:i<ks.length:=List.mem_range.1 (P.mem_iff.1 hi)
   simp [List.getD_eq_getElem?_getD,List.getElem?_eq_getElem hl]
  ·rw [List.length_map,P.length_eq,List.length_range]
theorem lW:∀L:Ks,jy (L.map ag)=some L
 |[]=>rfl
 |k::L=>by simp only [List.map_cons,jy,dn,lW L,Option.bind_some,Option.map_some]
theorem lN{L:Ks}(nd:L.Nodup)(hl:L.length<64)(h2:∀k∈L,k≠[]):∃S:Ks,du .sorted [.lst (L.map ag)]=.ok (.lst (S.map ag))∧(∀k,k∈S↔k∈L)∧mJ S:=by
 obtain⟨S,e,_,hm,hs⟩:=vT nd
 refine⟨S,?_,hm,hs⟩;show(Res.of (jy (L.map ag))).bind (fun nss=>if(decide ((L.map ag).length<64)&&nss.all (fun k=>!k.isEmpty))=true then Res.ok (PV.lst (jx .non (L.map ag) nss)) else .bad)=_
 rw [lW];show(if(decide ((L.map ag).length<64)&&L.all (fun k=>!k.isEmpty))=true then Res.ok (PV.lst (jx .non (L.map ag) L)) else .bad)=_
 rw [if_pos,e];rw [Bool.and_eq_true,List.length_map];refine⟨decide_eq_true hl,List.all_eq_true.2 fun k hk=>?_⟩
 have:=h2 k hk
 cases k with
 |nil=>exact absurd rfl this
 |cons a b=>rfl
theorem rn{ks:Ks}{vs:List PV}(nd:ks.Nodup)(hl:ks.length<64)(h2:∀k∈ks,k≠[]):∃S:Ks,du .sorted [.dct ks vs]=.ok (.lst (S.map ag))∧(∀k,k∈S↔k∈ks)∧mJ S:=by
 obtain⟨S,e,_,hm,hs⟩:=vT nd
 refine⟨S,?_,hm,hs⟩;show(if(decide (ks.length<64)&&ks.all fun k=>!k.isEmpty)=true then Res.ok (PV.lst (jx .non (ks.map ag) ks)) else .bad)=_
 rw [if_pos,e];rw [Bool.and_eq_true];refine⟨decide_eq_true hl,List.all_eq_true.2 fun k hk=>?_⟩
 have:=h2 k hk
 cases k with
 |nil=>exact absurd rfl this
 |cons a b=>rfl
theorem si:∀(n:Nat) (a b:List Int),eqs (ir n) (a.map .int) (b.map .int)=decide (a=b)
 |_,[],[]=>rfl
 |_,[],_::_=>rfl
 |_,_::_,[]=>rfl
 |n,x::a,y::b=>by
  have:ir n (.int x) (.int y)=(x==y):=by cases n<;>rfl
  simp only [List.map_cons,eqs,si n a b,this];rw [Bool.eq_iff_iff];simp
theorem nv(n:Nat)(a b:List Int):ir (n+1) (ag a) (ag b)=decide (a=b):=si n a b
theorem jY:∀(n:Nat) (a b:Ks),eqs (ir (n+1)) (a.map ag) (b.map ag)=decide (a=b)
 |_,[],[]=>rfl
 |_,[],_::_=>rfl
 |_,_::_,[]=>rfl
 |n,x::a,y::b=>by
  simp only [List.map_cons,eqs,jY n a b,nv];rw [Bool.eq_iff_iff];simp
theorem yL(n:Nat)(a:List Int):(a.map PV.int).all (Ci.plain n)=true:=by
 simp only [List.all_eq_true,List.mem_map]
 rintro x ⟨i,_,rfl⟩
 cases n<;>rfl
theorem jz(n:Nat)(a:List Int):Ci.plain (n+1) (ag a)=true:=yL n a
theorem nQ(n:Nat)(a:Ks):(a.map ag).all (Ci.plain (n+1))=true:=by
 simp only [List.all_eq_true,List.mem_map]
 rintro x ⟨i,_,rfl⟩
 exact jz n i
theorem iO(n:Nat)(a:Ks):Ci.plain (n+2) (.lst (a.map ag))=true:=nQ n a
theorem KU(a b:Ks):fX (.lst (a.map ag)) (.lst (b.map ag))=.ok (.bl (decide (a=b))):=by
 show(if(Ci.plain 9 (.lst (a.map ag))&&Ci.plain 9 (.lst (b.map ag)))=true then Res.ok (PV.bl (ir 9 (.lst (a.map ag)) (.lst (b.map ag)))) else .bad)=_
 rw [iO 7,iO 7];exact congrArg (fun z=>Res.ok (PV.bl z)) (jY 7 a b)
theorem HL(a b:Ks):gR (.lst (a.map ag)) (.lst (b.map ag))=.ok (.bl (!decide (a=b))):=by
 show(if(Ci.plain 9 (.lst (a.map ag))&&Ci.plain 9 (.lst (b.map ag)))=true then Res.ok (PV.bl (!ir 9 (.lst (a.map ag)) (.lst (b.map ag)))) else .bad)=_
 rw [iO 7,iO 7];exact congrArg (fun z=>Res.ok (PV.bl (!z))) (jY 7 a b)
theorem mem_keys(k:List Int)(L:Ks):uR (ag k) (L.map ag)=decide (k∈L):=by
 unfold uR;rw [List.any_map,Bool.eq_iff_iff,List.any_eq_true,decide_eq_true_eq]
 constructor
 ·rintro ⟨x,hx,e⟩
  have:decide (x=k)=true:=(nv 8 x k).symm.trans e
  exact of_decide_eq_true this▸hx
 ·intro h;exact⟨k,h,(nv 8 k k).trans (decide_eq_true rfl)⟩
theorem NC(k:List Int)(L:Ks):m5 (ag k) (.tup (L.map ag))=.ok (.bl (decide (k∈L))):=by
 show(if(Ci.plain 9 (ag k)&&(L.map ag).all (Ci.plain 9))=true then Res.ok (PV.bl (uR (ag k) (L.map ag))) else .bad)=_
 rw [jz 8,nQ 8,mem_keys]
 rfl
theorem Cu(k:List Int)(L:Ks):eE (ag k) (.lst (L.map ag))=.ok (.bl (!decide (k∈L))):=by
 show(if(Ci.plain 9 (ag k)&&(L.map ag).all (Ci.plain 9))=true then Res.ok (PV.bl (!uR (ag k) (L.map ag))) else .bad)=_
 rw [jz 8,nQ 8,mem_keys]
 rfl
end K31
namespace K31
open PySem L2 Ci KJ
def RR(E:List Int→List Int→Int→Prop)(u v:List Int):Prop:=∃c,yy E u v c
theorem uW{E:List Int→List Int→Int→Prop}{s u v:List Int}{c d:Int}(h:yy E s u c)(k:yy E u v d):∃x,yy E s v x:=by
 induction k with
 |here=>exact⟨_,h⟩
 |go _ he ih=>obtain⟨x,hx⟩:=ih;exact⟨_,.go hx he⟩
theorem gk(E:List Int→List Int→Int→Prop)(u:List Int):RR E u u:=⟨0,.here⟩
theorem RR.trans{E:List Int→List Int→Int→Prop}{u v w:List Int}(h:RR E u v)(k:RR E v w):RR E u w:=by
 obtain⟨c,h⟩:=h
 obtain⟨d,k⟩:=k
 exact uW h k
theorem RR.of{E E':List Int→List Int→Int→Prop}(hE:∀u v e,E u v e→∃e',E' u v e'){u v:List Int}(h:RR E u v):RR E' u v:=by
 obtain⟨c,h⟩:=h
 induction h with
 |here=>exact gk ..
 |go _ he ih=>obtain⟨x,hx⟩:=ih;obtain⟨e',h'⟩:=hE _ _ _ he;exact⟨_,.go hx h'⟩
theorem RR.symm{E:List Int→List Int→Int→Prop}(hE:∀u v e,E u v e→∃e',E v u e'){u v:List Int}(h:RR E u v):RR E v u:=by
 obtain⟨c,h⟩:=h
 induction h with
 |here=>exact gk ..
 |go _ he ih=>obtain⟨e',h'⟩:=hE _ _ _ he;exact RR.trans ⟨_,.go .here h'⟩ ih
theorem A6{E:List Int→List Int→Int→Prop}{s:List Int}{kr:Ks}{Vr:Vs}(R:ES E s kr Vr){k:List Int}:k∈kr↔RR E s k:=by
 rw [←cK,c5 k R.len]
 constructor
 ·intro h;obtain⟨q,hq⟩:=Option.isSome_iff_exists.1 h
  exact⟨_,(R.wlk k q hq).2⟩
 ·rintro ⟨c,h⟩
  induction h with
  |here=>obtain⟨q,hq,_⟩:=R.st;rw [hq];rfl
  |go _ he ih=>
   obtain⟨q,hq⟩:=Option.isSome_iff_exists.1 ih
   obtain⟨q',hq',_⟩:=R.clo _ q hq _ _ he
   rw [hq'];rfl
def fO(rows:List Str)(u:List Int):Prop:=∃r c,u=[r,c]∧bu rows r c=true
def n0:Ks:=(List.range 6).flatMap fun(r:Nat)=>(List.range 6).map fun(c:Nat)=>[(r:Int),(c:Int)]
theorem gL:n0.length=36:=by decide
theorem De{rows:List Str}{w:Nat}(L:Fl rows w){u:List Int}(h:fO rows u):u∈n0:=by
 obtain⟨r,c,rfl,h⟩:=h
 obtain⟨a,b,d,e⟩:=BN L h
 refine List.mem_flatMap.2 ⟨r.toNat,List.mem_range.2 (by omega),List.mem_map.2 ⟨c.toNat,List.mem_range.2 (by omega),?_⟩⟩;rw [Int.toNat_of_nonneg a,Int.toNat_of_nonneg d]
theorem cB{rows:List Str}{sl:Bool}{cl pr r c r' c' e:Int}:cL rows sl cl pr r c r' c'=some e↔¬far r c r' c'∧(r≠r'∧c≠c'→sl=true∧bu rows r c'=true∧bu rows r' c=true)∧bT rows r' c'-bT rows r c≤cl∧bT rows r c-bT rows r' c'≤cl∧e=(if r≠r'∧c≠c' then 3 else 2)+pr*(if bT rows r' c'-bT rows r c>0 then bT rows r' c'-bT rows r c else 0):=by
 unfold cL
 by_cases h1:far r c r' c'
 ·rw [if_pos (show(r=r'∧c=c')∨1<r-r'∨1<r'-r∨1<c-c'∨1<c'-c from h1)];exact⟨(fun z=>by cases z),fun z=>absurd h1 z.1⟩
 ·have nh:¬((r=r'∧c=c')∨1<r-r'∨1<r'-r∨1<c-c'∨1<c'-c):=h1
  rw [if_neg nh]
  by_cases h2:(r≠r'∧c≠c')∧¬(sl=true∧bu rows r c'=true∧bu rows r' c=true)
  ·rw [if_pos h2];exact⟨(fun z=>by cases z),fun z=>absurd (z.2.1 h2.1) h2.2⟩
  ·rw [if_neg h2];have sC:r≠r'∧c≠c'→sl=true∧bu rows r c'=true∧bu rows r' c=true:=fun a=>Classical.byContradiction fun b=>h2 ⟨a,b⟩
   by_cases h3:cl<bT rows r' c'-bT rows r c∨cl<bT rows r c-bT rows r' c'
   ·rw [if_pos h3];exact⟨(fun z=>by cases z),fun z=>by omega⟩
   ·rw [if_neg h3];refine⟨fun z=>⟨h1,sC,by omega,by omega,by cases z;rfl⟩,fun z=>by rw [z.2.2.2.2]⟩
theorem qC{rows:List Str}{sl:Bool}{cl pr:Int}{u v:List Int}{e:Int}(h:E1 rows sl cl pr u v e):∃e',E1 rows sl cl pr v u e':=by
 obtain⟨r,c,r',c',h1,h2,h3,h4,h5⟩:=h
 rw [cB] at h5;refine⟨_,r',c',r,c,h2,h1,h4,h3,cB.2 ⟨?_,fun z=>?_,h5.2.2.2.1,h5.2.2.1,rfl⟩⟩
 ·have:=h5.1
  unfold far at this⊢;omega
 ·obtain⟨a,b,d⟩:=h5.2.1 ⟨fun x=>z.1 x.symm,fun x=>z.2 x.symm⟩
  exact⟨a,d,b⟩
theorem BE{rows:List Str}{w:Nat}(L:Fl rows w){sl:Bool}{cl pr:Int}(V:Wk cl pr){u v:List Int}{e:Int}(h:E1 rows sl cl pr u v e):0<e∧e≤30∧fO rows v:=by
 obtain⟨r,c,r',c',h1,h2,h3,h4,h5⟩:=h
 rw [cB] at h5;obtain⟨_,_,_,_,_,l1,l2⟩:=j9 L h3
 obtain⟨_,_,_,_,_,m1,m2⟩:=j9 L h4
 have p0:=V.p0
 have p4:=V.p4
 have e5:=h5.2.2.2.2
 generalize hm:(if bT rows r' c'-bT rows r c>0 then bT rows r' c'-bT rows r c else 0)=m at e5
 have JR:0≤m∧m≤9:=by rw [←hm];split<;>omega
 generalize hf:(if r≠r'∧c≠c' then(3:Int) else 2)=f at e5
 have NP:2≤f∧f≤3:=by rw [←hf];split<;>omega
 have a1:=Int.mul_nonneg p0 JR.1
 have a2:pr*m≤3*9:=Int.mul_le_mul (by omega) JR.2 JR.1 (by omega)
 exact⟨by omega,by omega,r',c',h2,h4⟩
def Dd(F:aS):Prop:=∀rows w,Fl rows w→∀sl cl pr,Wk cl pr→∀r c,bu rows r c=true→∃kr Vr,F "spread@steps_from" [.lst [sp r c],wk sl cl pr,fl rows]=.ok (.dct kr (Vr.map val))∧ES (E1 rows sl cl pr) [r,c] kr Vr
theorem zx(F:aS)(hs:gD F):∀rows w,Fl rows w→∀sl cl pr,Wk cl pr→∀r c,bu rows r c=true→∃kr Vr,af F ba [.lst [sp r c],wk sl cl pr,fl rows]=.ok (.dct kr (Vr.map val))∧ES (E1 rows sl cl pr) [r,c] kr Vr:=fun rows w L sl cl pr V r c h=>
 uf F "steps_from" (A:=fl rows) (B:=wk sl cl pr) (E:=E1 rows sl cl pr) (O:=fO rows) (s:=[r,c]) (U:=n0) (fun u hu=>De L hu) (Nat.le_of_eq gL) (fun u hu=>by obtain⟨_,_,rfl,_⟩:=hu;rfl) (fun u v e he=>BE L V he)
  (fun u hu=>by obtain⟨a,b,rfl,ho⟩:=hu;exact hs rows w L sl cl pr V a b ho) ⟨r,c,rfl,h⟩
def d8(E:List Int→List Int→Int→Prop)(u:List Int)(S:Ks):Prop:=mJ S∧∀v,v∈S↔RR E u v
def qG(F:aS):Prop:=∀rows w,Fl rows w→∀sl cl pr,Wk cl pr→∀r c,bu rows r c=true→∃kr Vr,F "spread_from" [fl rows,wk sl cl pr,sp r c]=.ok (.dct kr (Vr.map val))∧ES (E1 rows sl cl pr) [r,c] kr Vr
theorem zX(F:aS)(hn:rb F)(hs:Dd F):∀rows w,Fl rows w→∀sl cl pr,Wk cl pr→∀r c,bu rows r c=true→∃kr Vr,af F cb [fl rows,wk sl cl pr,sp r c]=.ok (.dct kr (Vr.map val))∧ES (E1 rows sl cl pr) [r,c] kr Vr:=fun rows w L sl cl pr V r c h=>by
 obtain⟨kr,Vr,e,R⟩:=hs rows w L sl cl pr V r c h
 exact⟨kr,Vr,by simp only [cb,af,aa,ae,ai,aK,ay,ak,aP,aO,av,ax,aw,Nat.reduceAdd,Nat.reduceSub,reduceIte,J,J2,hn rows L.rok r c h,iH,e],R⟩
def ox(F:aS):Prop:=∀rows w,Fl rows w→∀sl cl pr,Wk cl pr→∀r c,bu rows r c=true→∃S:Ks,F "room_with" [fl rows,wk sl cl pr,sp r c]=.ok (.lst (S.map ag))∧d8 (E1 rows sl cl pr) [r,c] S
theorem zf(F:aS)(hf:qG F):∀rows w,Fl rows w→∀sl cl pr,Wk cl pr→∀r c,bu rows r c=true→∃S:Ks,af F cN [fl rows,wk sl cl pr,sp r c]=.ok (.lst (S.map ag))∧d8 (E1 rows sl cl pr) [r,c] S:=fun rows w L sl cl pr V r c h=>by
 obtain⟨kr,Vr,e,R⟩:=hf rows w L sl cl pr V r c h
 obtain⟨S,e2,hm,hs⟩:=rn (vs:=Vr.map val) R.nr (by have:=R.le;omega) (fun k hk=>by
  have:(aC kr Vr k).isSome=true:=by rw [←c5 k R.len];exact cK.2 hk
  obtain⟨q,hq⟩:=Option.isSome_iff_exists.1 this
  have:=(R.wlk k q hq).1
  rintro rfl
  cases this)
 exact⟨S,by simp only [cN,af,aa,ae,ai,aK,ay,ak,aP,aO,av,ax,aw,Nat.reduceAdd,Nat.reduceSub,reduceIte,J,J2,e,e2],hs,fun v=>(hm v).trans (A6 R)⟩
theorem wL{α:Type}(xs:List α)(x:α):oE (xs++[x]) (-1)=some x:=by
 unfold oE Bs;have h1:¬(0:Int)≤ -1:=by decide
 have h2: -((xs++[x]).length:Int)≤ -1:=by simp only [List.length_append,List.length_singleton];omega
 rw [if_neg h1,if_pos h2];have h3:(-1+((xs++[x]).length:Int)).toNat=xs.length:=by simp only [List.length_append,List.length_singleton];omega
 rw [h3];simp
theorem MA{F:aS}{env:Sl}{i:Int}:ay F (.neg (.cst (.int i))) env=.ok (.int (-i)):=by
 rw [ay,ay]
 rfl
end K31
namespace K31
open PySem L2 Ci KJ
theorem lZ{σ:Type}{f:PV→Res (Option PV)}{body:PV→Sl→Res Ci.Fl}{mk:List PV→σ→Sl}{M:Nat}:∀(xs ys acc:List PV) (s:σ),aX f xs=.ok ys→(∀x∈xs,∀o,f x=.ok o→∀acc s,acc.length+1≤M→∃s',body x (mk acc s)=.ok (.nx (mk (acc++o.toList) s')))→acc.length+xs.length≤M→∃s',forL body xs (mk acc s)=.ok (.nx (mk (acc++ys) s'))
 |[],ys,acc,s,h,_,_=>by cases h;exact⟨s,by simp [forL]⟩
 |x::xs,ys,acc,s,h,hb,hl=>by
  rw [List.length_cons] at hl;simp only [aX] at h;cases hf:f x with
  |bad=>rw [hf] at h;cases h
  |exc c=>rw [hf] at h;cases h
  |ok o=>
   rw [hf,ET,kI] at h;obtain⟨zs,hz,h⟩:=Res.bind_ok h
   cases h;obtain⟨s1,e1⟩:=hb x (List.mem_cons_self ..) o hf acc s (by omega)
   have lo:o.toList.length≤1:=by cases o<;>simp
   obtain⟨s2,e2⟩:=lZ xs zs (acc++o.toList) s1 hz (fun y hy=>hb y (List.mem_cons_of_mem _ hy)) (by rw [List.length_append];omega)
   refine⟨s2,?_⟩;simp only [forL,e1,kI,e2];cases o<;>simp [oc]
def w8:Ss:=(.cons (.ite (.cmp .ne (.var 5) (.glob "WALL" (.str "#")))
 (.cons (.app 1 (.tup (.cons (.var 2) (.cons (.var 4) .nil))))
 .nil)
 .nil)
 .nil)
def JD:Ss:=(.cons (.for_ (.two 4 5) (.enum (.var 3)) w8) .nil)
theorem pB:∀{xs:List PV} {k:Nat} {x:PV},x∈cC k xs→∃(i:Nat) (y:PV),y∈xs∧x=.tup [.int (i:Int),y]
 |[],_,_,h=>by cases h
 |y::ys,k,x,h=>by
  simp only [cC,List.mem_cons] at h;rcases h with h|h
  ·exact⟨k,y,List.mem_cons_self ..,h⟩
  ·obtain⟨i,z,hz,e⟩:=pB h
   exact⟨i,z,List.mem_cons_of_mem _ hz,e⟩
theorem oM(F:aS)(rows:List Str)(R:oy rows):∃L:List (Nat×Nat),af F bW [fl rows]=.ok (.lst (L.map mw))∧Up L∧L.length≤36∧∀r c,(r,c)∈L↔iX rows r c=true:=by
 have Mh:=R.1
 obtain⟨az,e,L,s2,s3,s4,s5,nd,hl,hm,rfl⟩:=d9 (body:=fun x env=>((Tg.two 2 3).put x env).bind fun az=>ai F JD az) (P:=fun i env=>∃(L:List (Nat×Nat)) (s2 s3 s4 s5:Ci.Slot),Up L∧L.length≤6*i∧(∀r c,(r,c)∈L↔r<i∧iX rows r c=true)∧env=[.val (fl rows),.own (.lst (L.map mw)),s2,s3,s4,s5])
  (cC 0 (rows.map .str)) 0 [.val (fl rows),.own (.lst []),.no,.no,.no,.no] ⟨[],_,_,_,_,ra,Nat.le_refl _,(fun r c=>by simp),rfl⟩ (by
  intro i x env hx hq;obtain⟨y,hy,rfl⟩:=nW hx
  obtain⟨L,s2,s3,s4,s5,nd,hl,hm,rfl⟩:=hq
  simp only [List.getElem?_map,Option.map_eq_some_iff] at hy;obtain⟨z,hz,rfl⟩:=hy
  have EZ:=R.2 z (List.mem_of_getElem? hz)
  have hi:i<rows.length:=(List.getElem?_eq_some_iff.1 hz).1
  have zc:z.cps.toList.length=z.length:=by simp [Str.length]
  obtain⟨M,eM,nM,lM,hM⟩:=kl (f:=fun x=>match x with|.tup [.int c,.str y]=>.ok (if y !="#" then some (sp i c) else none)|_=>.bad) (r:=i) (fun c x=>by
   have:((⟨#[x]⟩:Str) !="#")=(x !=35):=by
    have hw:(("#":Str))=⟨#[35]⟩:=by decide+kernel
    rw [hw,bne,bne,Bool.eq_iff_iff];simp
   simp only [this]) z.cps.toList 0
  obtain⟨s',e⟩:=lZ (body:=fun x env=>((Tg.two 4 5).put x env).bind fun az=>ai F w8 az) (mk:=fun acc (s:Ci.Slot×Ci.Slot)=>[.val (fl rows),.own (.lst acc),.val (.int i),.val (.str z),s.1,s.2]) (M:=100) _ _ (L.map mw) (s4,s5) eM (fun x hx o ho acc s hl=>by
   obtain⟨c,y,hy,rfl⟩:=pB hx
   obtain⟨v,_,rfl⟩:=List.mem_map.1 hy
   have l:acc.length<dg:=Nat.lt_of_le_of_lt (m:=100) (by omega) (by decide)
   refine⟨(.val (.int c),.val (.str ⟨#[v]⟩)),?_⟩;have fU:gR (.str ⟨#[v]⟩) (.str "#")=.ok (.bl ((⟨#[v]⟩:Str) !="#")):=rfl
   cases hv:((⟨#[v]⟩:Str) !="#") with
   |true=>
    rw [hv] at fU;simp only [hv,if_true] at ho;cases ho;simp only [w8,af,aa,ae,ai,aK,ay,ak,aP,aO,av,ax,aw,Nat.reduceAdd,Nat.reduceSub,reduceIte,J,J2,fU,l,Option.toList_some]
   |false=>
    rw [hv] at fU;simp only [hv,Bool.false_eq_true,if_false] at ho;cases ho;simp only [w8,af,aa,ae,ai,aK,ay,ak,aP,aO,av,ax,aw,Nat.reduceAdd,Nat.reduceSub,reduceIte,J,J2,fU,Option.toList_none,List.append_nil]) (by rw [cx,List.length_map,List.length_map];omega)
  refine⟨[.val (fl rows),.own (.lst ((L++M).map mw)),.val (.int i),.val (.str z),s'.1,s'.2],?_,L++M,_,_,_,_,List.pairwise_append.2 ⟨nd,nM,fun a ha b hb=>IF (.inl (by have h1:=((hm a.1 a.2).1 ha).1;have h2:=((hM b.1 b.2).1 hb).1;omega))⟩,?_,?_,rfl⟩
  ·rw [show(z.cps.toList.map fun x=>PV.str ⟨#[x]⟩)=chars z from rfl] at e;simp only [w8,af,aa,ae,ai,aK,ay,ak,aP,aO,av,ax,aw,Nat.reduceAdd,Nat.reduceSub,reduceIte,J,J2] at e;simp only [JD,w8,af,aa,ae,ai,aK,ay,ak,aP,aO,av,ax,aw,Nat.reduceAdd,Nat.reduceSub,reduceIte,J,J2,Nat.zero_add,e,List.map_append]
  ·simp only [List.length_append];omega
  ·intro r c;rw [List.mem_append,hm,hM,gz]
   constructor
   ·rintro (⟨h1,h2⟩|⟨rfl,_,x,h3,h4⟩)
    ·exact⟨by omega,h2⟩
    ·exact⟨by omega,z,hz,x,h3,h4⟩
   ·rintro ⟨h1,w,h2,x,h3,h4⟩
    by_cases hr:r=i
    ·subst hr;rw [hz] at h2;cases h2;exact .inr ⟨rfl,Nat.zero_le _,x,h3,h4⟩
    ·exact .inl ⟨by omega,w,h2,x,h3,h4⟩)
 refine⟨L,?_,nd,(by rw [cx,List.length_map] at hl;omega),fun r c=>?_⟩
 ·simp only [JD,w8,af,aa,ae,ai,aK,ay,ak,aP,aO,av,ax,aw,Nat.reduceAdd,Nat.reduceSub,reduceIte,J,J2] at e;simp only [bW,af,aa,ae,ai,aK,ay,ak,aP,aO,av,ax,aw,Nat.reduceAdd,Nat.reduceSub,reduceIte,J,J2,e,yt]
 ·rw [hm];refine⟨fun h=>h.2,fun h=>⟨?_,h⟩⟩
  obtain⟨z,hz,_⟩:=gz.1 h
  have:=(List.getElem?_eq_some_iff.1 hz).1
  rw [cx,List.length_map];omega
end K31
namespace K31
open PySem L2 Ci KJ
theorem dN(ks:Ks)(k x:List Int):x∈aU ks k↔x∈ks∨x=k:=by
 unfold aU;split
 ·rename_i h;rw [cK] at h;exact⟨.inl,fun z=>z.elim id fun z=>z▸h⟩
 ·simp
def EJ:Ss:=(.cons (.put 3 (.var 6) (.cst (.bl true))) .nil)
theorem qg(F:aS){A B C:PV}(s4 s5:Ci.Slot):∀(S:Ks) (kp:Ks) (vp:List PV) (s6:Ci.Slot),kp.length+S.length≤5000→∃A4 EY iD,forL (fun x env=>((Tg.one 6).put x env).bind fun az=>ai F EJ az) (S.map ag) [.val A,.val B,.own C,.own (.dct kp vp),s4,s5,s6]=.ok (.nx [.val A,.val B,.own C,.own (.dct A4 EY),s4,s5,iD])∧A4.length≤kp.length+S.length∧∀x,x∈A4↔x∈kp∨x∈S
 |[],kp,vp,s6,_=>⟨kp,vp,s6,rfl,Nat.le_refl _,fun x=>by simp⟩
 |k::S,kp,vp,s6,hl=>by
  rw [List.length_cons] at hl;have l:kp.length<dg:=Nat.lt_of_le_of_lt (m:=5000) (by omega) (by decide)
  have g:=fy kp k
  obtain⟨A4,EY,iD,e,h1,h2⟩:=qg F (A:=A) (B:=B) (C:=C) s4 s5 S (aU kp k) (bg kp vp k (.bl true)) (.val (ag k)) (by omega)
  refine⟨A4,EY,iD,?_,by rw [List.length_cons];omega,fun x=>?_⟩
  ·have eb:(((Tg.one 6).put (ag k) [.val A,.val B,.own C,.own (.dct kp vp),s4,s5,s6]).bind fun az=>ai F EJ az)=.ok (.nx [.val A,.val B,.own C,.own (.dct (aU kp k) (bg kp vp k (.bl true))),s4,s5,.val (ag k)]):=by simp only [EJ,af,aa,ae,ai,aK,ay,ak,aP,aO,av,ax,aw,Nat.reduceAdd,Nat.reduceSub,reduceIte,J,J2,dn,l]
   rw [List.map_cons,forL,eb,kI];exact e
  ·rw [h2,dN,List.mem_cons,or_assoc]
abbrev uM(M:List Ks):PV:=.lst (M.map fun m=>.lst (m.map ag))
structure GX(E:List Int→List Int→Int→Prop)(K:Ks)(M:List Ks):Prop where
 cov:∀v∈K,∃m∈M,v∈m
 rm:∀m∈M,∃u∈K,d8 E u m
 dj:M.Pairwise fun m m'=>∀v,v∈m→v∉m'
 len:M.length≤K.length
noncomputable def EX:Ss:=(.cons (.ite (.cmp .nin (.var 4) (.tmp 3))
 (.cons (.set 5 (.call "room_with" (.cons (.var 0) (.cons (.var 1) (.cons (.var 4) .nil)))))
 (.cons (.app 2 (.var 5))
 (.cons (.for_ (.one 6) (.seq (.var 5)) EJ)
 .nil)))
 .nil)
 .nil)
theorem Ae:mJ n0:=by decide+kernel
theorem room_in{rows:List Str}{w:Nat}(L:Fl rows w){sl:Bool}{cl pr:Int}{u v:List Int}(hu:fO rows u)(h:RR (E1 rows sl cl pr) u v):fO rows v:=by
 obtain⟨c,h⟩:=h
 cases h with
 |here=>exact hu
 |go _ he=>obtain⟨_,_,r',c',_,h2,_,h4,_⟩:=he;exact⟨r',c',h2,h4⟩
theorem eQ{rows:List Str}{w:Nat}(L:Fl rows w){sl:Bool}{cl pr:Int}{u:List Int}{S:Ks}(hu:fO rows u)(h:d8 (E1 rows sl cl pr) u S):S.length≤36:=by
 rw [←gL];exact iM h.1 Ae fun x hx=>De L (room_in L hu ((h.2 x).1 hx))
theorem f6(F:aS)(hr:ox F){rows:List Str}{w:Nat}(L:Fl rows w){sl:Bool}{cl pr:Int}(V:Wk cl pr){K:Ks}(hK:mJ K)(hO:∀v,v∈K↔fO rows v)(xy:K.length≤36):
 ∀(Q P:Ks) (M:List Ks) (kp:Ks) (vp:List PV) (s4 s5 s6:Ci.Slot),P++Q=K→GX (E1 rows sl cl pr) P M→(∀v,v∈kp↔∃m∈M,v∈m)→kp.length≤36*P.length→∃M' s3 Gy wK iD,forL (fun x env=>((Tg.one 4).put x env).bind fun az=>ai F EX az) (Q.map ag) [.val (fl rows),.val (wk sl cl pr),.own (uM M),.own (.dct kp vp),s4,s5,s6]=.ok (.nx [.val (fl rows),.val (wk sl cl pr),.own (uM M'),s3,Gy,wK,iD])∧GX (E1 rows sl cl pr) K M'
 |[],P,M,kp,vp,s4,s5,s6,hp,R,_,_=>by
  rw [List.append_nil] at hp;subst hp;exact⟨M,_,s4,s5,s6,rfl,R⟩
 |u::Q,P,M,kp,vp,s4,s5,s6,hp,R,hk,hl=>by
  have hu:u∈K:=by rw [←hp];simp
  have NN:P.length+(Q.length+1)≤36:=by rw [←hp,List.length_append,List.length_cons] at xy;exact xy
  have sy:∀{a b:List Int},RR (E1 rows sl cl pr) a b→RR (E1 rows sl cl pr) b a:=fun h=>h.symm fun _ _ _ he=>qC he
  have F8:(P++[u])++Q=K:=by rw [←hp];simp
  have nd:eE (ag u) (.dct kp vp)=.ok (.bl (!bV kp u)):=uk
  by_cases hm:u∈kp
  ·have g:bV kp u=true:=cK.2 hm
   rw [g] at nd;obtain⟨M',s3,t4,t5,t6,e,R'⟩:=f6 F hr L V hK hO xy Q (P++[u]) M kp vp (.val (ag u)) s5 s6 F8 ⟨fun v hv=>(List.mem_append.1 hv).elim (R.cov v) fun z=>by rw [List.mem_singleton.1 z];exact(hk u).1 hm,fun m hm=>by obtain⟨a,b,c⟩:=R.rm m hm;exact⟨a,List.mem_append_left _ b,c⟩,R.dj,by rw [List.length_append];exact Nat.le_trans R.len (Nat.le_add_right _ _)⟩ hk (by rw [List.length_append,List.length_singleton];omega)
   refine⟨M',s3,t4,t5,t6,?_,R'⟩;have eb:(((Tg.one 4).put (ag u) [.val (fl rows),.val (wk sl cl pr),.own (uM M),.own (.dct kp vp),s4,s5,s6]).bind fun az=>ai F EX az)=.ok (.nx [.val (fl rows),.val (wk sl cl pr),.own (uM M),.own (.dct kp vp),.val (ag u),s5,s6]):=by simp only [EX,af,aa,ae,ai,aK,ay,ak,aP,aO,av,ax,aw,Nat.reduceAdd,Nat.reduceSub,reduceIte,J,J2,nd]
   rw [List.map_cons,forL,eb,kI];exact e
  ·have g:bV kp u=false:=by
    cases h:bV kp u with
    |false=>rfl
    |true=>exact absurd (cK.1 h) hm
   rw [g] at nd;obtain⟨a,b,rfl,ho⟩:=(hO u).1 hu
   obtain⟨S,e1,hS⟩:=hr rows w L sl cl pr V a b ho
   have NQ:=eQ L ((hO _).1 hu) hS
   have out:∀v,v∈S→v∉kp:=fun v hv z=>by
    obtain⟨m,zM,Hz⟩:=(hk v).1 z
    obtain⟨u',_,Fe⟩:=R.rm m zM
    refine hm ((hk _).2 ⟨m,zM,(Fe.2 _).2 (((Fe.2 v).1 Hz).trans (sy ((hS.2 v).1 hv)))⟩)
   have lM:M.length<dg:=Nat.lt_of_le_of_lt (m:=36) (by have:=R.len;omega) (by decide)
   obtain⟨A4,EY,t6,e2,k1,k2⟩:=qg F (A:=fl rows) (B:=wk sl cl pr) (C:=uM (M++[S])) (.val (ag [a,b])) (.val (.lst (S.map ag))) S kp vp s6 (by omega)
   have R2:GX (E1 rows sl cl pr) (P++[[a,b]]) (M++[S]):=by
    refine⟨fun v hv=>?_,fun m hm=>?_,?_,?_⟩
    ·rcases List.mem_append.1 hv with z|z
     ·obtain⟨m,h1,h2⟩:=R.cov v z
      exact⟨m,List.mem_append_left _ h1,h2⟩
     ·exact⟨S,List.mem_append_right _ (List.mem_singleton.2 rfl),by rw [List.mem_singleton.1 z];exact(hS.2 _).2 (gk ..)⟩
    ·rcases List.mem_append.1 hm with z|z
     ·obtain⟨x,h1,h2⟩:=R.rm m z
      exact⟨x,List.mem_append_left _ h1,h2⟩
     ·rw [List.mem_singleton.1 z];exact⟨[a,b],List.mem_append_right _ (List.mem_singleton.2 rfl),hS⟩
    ·refine List.pairwise_append.2 ⟨R.dj,List.pairwise_singleton ..,fun x hx y hy v hv z=>?_⟩
     rw [List.mem_singleton] at hy;subst hy;exact out v z ((hk v).2 ⟨x,hx,hv⟩)
    ·rw [List.length_append,List.length_append];have:=R.len
     simp only [List.length_singleton];omega
   have I0:∀v,v∈A4↔∃m∈M++[S],v∈m:=fun v=>by
    rw [k2,hk]
    constructor
    ·rintro (⟨m,h1,h2⟩|h)
     ·exact⟨m,List.mem_append_left _ h1,h2⟩
     ·exact⟨S,List.mem_append_right _ (List.mem_singleton.2 rfl),h⟩
    ·rintro ⟨m,h1,h2⟩
     rcases List.mem_append.1 h1 with z|z
     ·exact .inl ⟨m,z,h2⟩
     ·rw [List.mem_singleton.1 z] at h2;exact .inr h2
   obtain⟨M',s3,u4,u5,u6,e,R'⟩:=f6 F hr L V hK hO xy Q (P++[[a,b]]) (M++[S]) A4 EY (.val (ag [a,b])) (.val (.lst (S.map ag))) t6 F8 R2 I0 (by rw [List.length_append,List.length_singleton];omega)
   refine⟨M',s3,u4,u5,u6,?_,R'⟩;have J5:F "room_with" [fl rows,wk sl cl pr,ag [a,b]]=.ok (.lst (S.map ag)):=e1
   have eb:(((Tg.one 4).put (ag [a,b]) [.val (fl rows),.val (wk sl cl pr),.own (uM M),.own (.dct kp vp),s4,s5,s6]).bind fun az=>ai F EX az)=.ok (.nx [.val (fl rows),.val (wk sl cl pr),.own (uM (M++[S])),.own (.dct A4 EY),.val (ag [a,b]),.val (.lst (S.map ag)),t6]):=by
    simp only [EJ,af,aa,ae,ai,aK,ay,ak,aP,aO,av,ax,aw,Nat.reduceAdd,Nat.reduceSub,reduceIte,J,J2,uM,List.map_append,List.map_cons,List.map_nil] at e2;simp only [EX,EJ,uM,af,aa,ae,ai,aK,ay,ak,aP,aO,av,ax,aw,Nat.reduceAdd,Nat.reduceSub,reduceIte,J,J2,nd,J5,List.length_map,lM,e2,List.map_append,List.map_cons,List.map_nil]
   rw [List.map_cons,forL,eb,kI];exact e
theorem yb{L:List (Nat×Nat)}(h:Up L):mJ (L.map kN):=List.pairwise_map.2 h
theorem mR{rows:List Str}{L:List (Nat×Nat)}(hm:∀r c,(r,c)∈L↔iX rows r c=true)(v:List Int):v∈L.map kN↔fO rows v:=by
 rw [List.mem_map]
 constructor
 ·rintro ⟨p,hp,rfl⟩
  exact⟨_,_,rfl,dw.2 ⟨by omega,by omega,by simpa using (hm p.1 p.2).1 hp⟩⟩
 ·rintro ⟨r,c,rfl,h⟩
  obtain⟨h0,h1,h2⟩:=dw.1 h
  exact⟨(r.toNat,c.toNat),(hm _ _).2 h2,by simp [kN,Int.toNat_of_nonneg h0,Int.toNat_of_nonneg h1]⟩
def om(F:aS):Prop:=∀rows w,Fl rows w→∀sl cl pr,Wk cl pr→∀K,mJ K→(∀v,v∈K↔fO rows v)→∃M,F "rooms" [fl rows,wk sl cl pr]=.ok (uM M)∧GX (E1 rows sl cl pr) K M
theorem wH(F:aS)(hr:ox F)(ho:∀rows,oy rows→∃L:List (Nat×Nat),F "open_spots" [fl rows]=.ok (.lst (L.map mw))∧Up L∧L.length≤36∧∀r c,(r,c)∈L↔iX rows r c=true):∀rows w,Fl rows w→∀sl cl pr,Wk cl pr→∀K,mJ K→(∀v,v∈K↔fO rows v)→∃M,af F fB [fl rows,wk sl cl pr]=.ok (uM M)∧GX (E1 rows sl cl pr) K M:=by
 intro rows w L sl cl pr V K hK hO;obtain⟨Sp,e1,up,Gi,hm⟩:=ho rows L.rok
 have ek:Sp.map kN=K:=iQ (yb up) hK fun v=>(mR hm v).trans (hO v).symm
 have es:Sp.map mw=K.map ag:=by rw [←ek,List.map_map];rfl
 obtain⟨M,s3,s4,s5,s6,e,R⟩:=f6 F hr L (sl:=sl) V hK hO (by rw [←ek,List.length_map];exact Gi) K [] [] [] [] .no .no .no rfl ⟨fun v hv=>by(cases hv),fun m hm=>by(cases hm),.nil,Nat.le_refl _⟩ (fun v=>by simp) (Nat.zero_le _)
 refine⟨M,?_,R⟩;simp only [EX,EJ,af,aa,ae,ai,aK,ay,ak,aP,aO,av,ax,aw,Nat.reduceAdd,Nat.reduceSub,reduceIte,J,J2,uM,List.map_nil] at e;simp only [fB,af,aa,ae,ai,aK,ay,ak,aP,aO,av,ax,aw,Nat.reduceAdd,Nat.reduceSub,reduceIte,J,J2,e1,es,e,yt]
end K31
namespace K31
open PySem L2 Ci KJ
theorem mV{rows:List Str}{w:Nat}(L:Fl rows w){r c:Int}(h0:0≤r)(h1:r<rows.length)(h2:0≤c)(h3:c<w):∃z,aQ (fl rows) (.int r)=.ok (.str z)∧∃x:Nat,aQ (.str z) (.int c)=.ok (.str ⟨#[x]⟩)∧(x !=35)=bu rows r c:=by
 obtain⟨i,rfl⟩:=Int.eq_ofNat_of_zero_le h0
 obtain⟨j,rfl⟩:=Int.eq_ofNat_of_zero_le h2
 obtain⟨x,hx⟩:=HE L (i:=i) (j:=j) (by omega) (by omega)
 obtain⟨z,_,e1,e2⟩:=yl L.rok hx
 exact⟨z,e1,x,e2,by simp [bu,iX,hx]⟩
theorem xo(x:Nat):fX (.str ⟨#[x]⟩) (.str "#")=.ok (.bl (!(x !=35))):=by
 have:(("#":Str))=⟨#[35]⟩:=by decide+kernel
 rw [this];show Res.ok (PV.bl ((⟨#[x]⟩:Str)==⟨#[35]⟩))=_
 congr 2
 rw [bne,Bool.not_not,Bool.eq_iff_iff];simp
theorem zK{t u:Bool}:(if t=true then Res.ok (PV.bl true) else Res.ok (PV.bl u))=Res.ok (PV.bl (t||u)):=by cases t<;>rfl
def HY:Ss:=(.cons (.ret (.bin .add (.var 5) (.ite (.cmp .gt (.var 4) (.cst (.int 0))) (.bin .mul (.sub (.var 1) (.cst (.int 2))) (.var 4)) (.cst (.int 0))))) .nil)
noncomputable def E3:Ss:=(.cons (.ite (.and (.cmp .ne (.sub (.var 2) (.cst (.int 0))) (.sub (.var 3) (.cst (.int 0)))) (.cmp .ne (.sub (.var 2) (.cst (.int 1))) (.sub (.var 3) (.cst (.int 1)))))
 (.cons (.ite (.or (.not (.sub (.var 1) (.cst (.int 0)))) (.or (.cmp .eq (.sub (.sub (.var 0) (.sub (.var 2) (.cst (.int 0)))) (.sub (.var 3) (.cst (.int 1)))) (.cst (.str "#"))) (.cmp .eq (.sub (.sub (.var 0) (.sub (.var 3) (.cst (.int 0)))) (.sub (.var 2) (.cst (.int 1)))) (.cst (.str "#")))))
  (.cons (.ret (.cst .non))
  .nil)
  .nil)
 (.cons (.set 5 (.cst (.int 3)))
 .nil))
 .nil) HY)
noncomputable def Il:Ss:=(.cons (.ite (.or (.cmp .gt (.var 4) (.sub (.var 1) (.cst (.int 1)))) (.cmp .gt (.bin .sub (.cst (.int 0)) (.var 4)) (.sub (.var 1) (.cst (.int 1)))))
 (.cons (.ret (.cst .non))
 .nil)
 .nil) E3)
theorem yI:bG.body=(.cons (.set 4 (.bin .sub (.blt .int (.cons (.sub (.sub (.var 0) (.sub (.var 3) (.cst (.int 0)))) (.sub (.var 3) (.cst (.int 1)))) .nil)) (.blt .int (.cons (.sub (.sub (.var 0) (.sub (.var 2) (.cst (.int 0)))) (.sub (.var 2) (.cst (.int 1)))) .nil)))) (.cons (.set 5 (.cst (.int 2))) Il)):=rfl
abbrev Jl(A:PV)(sl:Bool)(cl pr r c r' c' ri k:Int):Sl:=[.val A,.val (wk sl cl pr),.val (sp r c),.val (sp r' c'),.val (.int ri),.val (.int k)]
theorem vM(F:aS)(A:PV)(sl:Bool){cl pr:Int}(V:Wk cl pr)(r c r' c' ri k:Int):ai F HY (Jl A sl cl pr r c r' c' ri k)=.ok (.rt (.int (k+pr*(if ri>0 then ri else 0)))):=by
 have ms:=lD (j:=ri) V.p0 V.p4
 by_cases hp:0<ri
 ·rw [if_pos hp];simp only [HY,af,aa,ae,ai,aK,ay,ak,aP,aO,av,ax,aw,Nat.reduceAdd,Nat.reduceSub,reduceIte,J,J2,hp,decide_true,ms]
 ·rw [if_neg hp,Int.mul_zero];simp only [HY,af,aa,ae,ai,aK,ay,ak,aP,aO,av,ax,aw,Nat.reduceAdd,Nat.reduceSub,reduceIte,J,J2,hp,decide_false]
theorem Cz(F:aS){rows:List Str}{w:Nat}(L:Fl rows w){sl:Bool}{cl pr:Int}(V:Wk cl pr){r c r' c':Int}(h:bu rows r c=true)(h':bu rows r' c'=true)(ri:Int):
 ai F E3 (Jl (fl rows) sl cl pr r c r' c' ri 2)=.ok (.rt (if(r≠r'∧c≠c')∧¬(sl=true∧bu rows r c'=true∧bu rows r' c=true) then .non else .int ((if r≠r'∧c≠c' then 3 else 2)+pr*(if ri>0 then ri else 0)))):=by
 have i1:=ij L h
 have i2:=ij L h'
 obtain⟨z3,c1,x3,c2,c3⟩:=mV L (r:=r) (c:=c') i1.1 i1.2.1 i2.2.2.1 i2.2.2.2
 obtain⟨z4,d1,x4,d2,d3⟩:=mV L (r:=r') (c:=c) i2.1 i2.2.1 i1.2.2.1 i1.2.2.2
 have e3:=vM F (fl rows) sl V r c r' c' ri 3
 have e2:=vM F (fl rows) sl V r c r' c' ri 2
 by_cases n3:r≠r'∧c≠c'
 ·have BW:(!(r==r'))=true:=by simpa using n3.1
  have sW:(!(c==c'))=true:=by simpa using n3.2
  rw [if_pos n3]
  by_cases hb:sl=true∧bu rows r c'=true∧bu rows r' c=true
  ·rw [if_neg fun z=>z.2 hb]
   have hB:(!sl||(!bu rows r c'||!bu rows r' c))=false:=by rw [hb.1,hb.2.1,hb.2.2];rfl
   simp only [E3,af,aa,ae,ai,aK,ay,ak,aP,aO,av,ax,aw,Nat.reduceAdd,Nat.reduceSub,reduceIte,J,J2,c1,c2,d1,d2,xo,c3,d3,zK,BW,sW,hB,Bool.true_or,e3]
  ·rw [if_pos ⟨n3,hb⟩];have hB:(!sl||(!bu rows r c'||!bu rows r' c))=true:=by
    cases sl with
    |false=>rfl
    |true=>
     cases o1:bu rows r c' with
     |false=>rfl
     |true=>
      cases o2:bu rows r' c with
      |false=>rfl
      |true=>exact absurd ⟨rfl,o1,o2⟩ hb
   simp only [E3,af,aa,ae,ai,aK,ay,ak,aP,aO,av,ax,aw,Nat.reduceAdd,Nat.reduceSub,reduceIte,J,J2,c1,c2,d1,d2,xo,c3,d3,zK,BW,sW,hB,Bool.true_or]
 ·rw [if_neg fun z=>n3 z.1,if_neg n3]
  cases BW:(!(r==r')) with
  |false=>simp only [E3,af,aa,ae,ai,aK,ay,ak,aP,aO,av,ax,aw,Nat.reduceAdd,Nat.reduceSub,reduceIte,J,J2,BW,e2]
  |true=>
   have sW:(!(c==c'))=false:=by
    cases sW:(!(c==c')) with
    |false=>rfl
    |true=>exact absurd ⟨by simpa using BW,by simpa using sW⟩ n3
   simp only [E3,af,aa,ae,ai,aK,ay,ak,aP,aO,av,ax,aw,Nat.reduceAdd,Nat.reduceSub,reduceIte,J,J2,BW,sW,e2]
theorem qK(F:aS){rows:List Str}{w:Nat}(L:Fl rows w){sl:Bool}{cl pr:Int}(V:Wk cl pr){r c r' c':Int}(h:bu rows r c=true)(h':bu rows r' c'=true)(hf:¬far r c r' c'):
 af F bG [fl rows,wk sl cl pr,sp r c,sp r' c']=.ok (oP (cL rows sl cl pr r c r' c')):=by
 obtain⟨z1,x1,a1,a2,a3,_⟩:=j9 L h
 obtain⟨z2,x2,b1,b2,b3,_⟩:=j9 L h'
 have q1:cL rows sl cl pr r c r' c'=_:=if_neg hf
 rw [q1];have st:aa bG [fl rows,wk sl cl pr,sp r c,sp r' c']=[.val (fl rows),.val (wk sl cl pr),.val (sp r c),.val (sp r' c'),.no,.no]:=rfl
 have ar:ae bG [fl rows,wk sl cl pr,sp r c,sp r' c']=true:=rfl
 have e4:=Cz F L V (sl:=sl) h h' (bT rows r' c'-bT rows r c)
 have go:∀x,ai F Il (Jl (fl rows) sl cl pr r c r' c' (bT rows r' c'-bT rows r c) 2)=.ok (.rt x)→af F bG [fl rows,wk sl cl pr,sp r c,sp r' c']=.ok x:=fun x e=>by
  unfold af;rw [ar,if_pos rfl,st,yI];simp only [ai,aK,ay,ak,J,J2,a1,a2,a3,b1,b2,b3,e]
 by_cases hz:cl<bT rows r' c'-bT rows r c∨cl<bT rows r c-bT rows r' c'
 ·have:(if(r≠r'∧c≠c')∧¬(sl=true∧bu rows r c'=true∧bu rows r' c=true) then none else if cl<bT rows r' c'-bT rows r c∨cl<bT rows r c-bT rows r' c' then none else some ((if r≠r'∧c≠c' then 3 else 2)+pr*(if bT rows r' c'-bT rows r c>0 then bT rows r' c'-bT rows r c else 0)))=(none:Option Int):=by
   rw [if_pos hz];split<;>rfl
  rw [this];have hb:(decide (cl<bT rows r' c'-bT rows r c)||decide (cl<0-(bT rows r' c'-bT rows r c)))=true:=by
   rw [Bool.or_eq_true,decide_eq_true_eq,decide_eq_true_eq];omega
  refine go .non ?_;simp only [Il,af,aa,ae,ai,aK,ay,ak,aP,aO,av,ax,aw,Nat.reduceAdd,Nat.reduceSub,reduceIte,J,J2,zK,hb]
 ·have hb:(decide (cl<bT rows r' c'-bT rows r c)||decide (cl<0-(bT rows r' c'-bT rows r c)))=false:=by
   rw [Bool.or_eq_false_iff,decide_eq_false_iff_not,decide_eq_false_iff_not];omega
  rw [if_neg hz];refine(go _ ((?_:_=_).trans e4)).trans ?_
  ·simp only [Il,af,aa,ae,ai,aK,ay,ak,aP,aO,av,ax,aw,Nat.reduceAdd,Nat.reduceSub,reduceIte,J,J2,zK,hb]
  ·split<;>rfl
def lJ(F:aS):Prop:=∀rows w,Fl rows w→∀sl cl pr,Wk cl pr→∀r c r' c',bu rows r c=true→bu rows r' c'=true→¬far r c r' c'→F "_law_cost" [fl rows,wk sl cl pr,sp r c,sp r' c']=.ok (oP (cL rows sl cl pr r c r' c'))
noncomputable def Eb(rows:List Str)(sl:Bool)(cl pr r c:Int)(i:Nat):Option (List Int×Int):=if i≠4∧bu rows (r-1+i/3) (c-1+i%3)=true then(cL rows sl cl pr r c (r-1+i/3) (c-1+i%3)).map fun v=>([r-1+(i:Int)/3,c-1+(i:Int)%3],v) else none
noncomputable def CL(rows:List Str)(sl:Bool)(cl pr r c:Int)(i:Nat):Option PV:=if i≠4∧bu rows (r-1+i/3) (c-1+i%3)=true then(cL rows sl cl pr r c (r-1+i/3) (c-1+i%3)).map fun v=>tK ([r-1+(i:Int)/3,c-1+(i:Int)%3],v) else none
noncomputable def kC:E:=(.and (.ch .le .lt (.cst (.int 0)) (.var 5) (.blt .len (.cons (.var 0) .nil))) (.and (.ch .le .lt (.cst (.int 0)) (.var 6) (.blt .len (.cons (.sub (.var 0) (.cst (.int 0))) .nil))) (.and (.cmp .ne (.var 4) (.cst (.int 4))) (.cmp .ne (.sub (.sub (.var 0) (.var 5)) (.var 6)) (.cst (.str "#"))))))
noncomputable def kT:Ss:=(.cons (.set 7 (.call "_law_cost" (.cons (.var 0) (.cons (.var 1) (.cons (.var 2) (.cons (.tup (.cons (.var 5) (.cons (.var 6) .nil))) .nil))))))
 (.cons (.ite (.cmp .isn (.var 7) (.cst .non))
  (.cons (.app 3 (.tup (.cons (.tup (.cons (.var 5) (.cons (.var 6) .nil))) (.cons (.var 7) .nil))))
  .nil)
  .nil)
 .nil))
noncomputable def kR:Ss:=(.cons (.ite kC kT .nil) .nil)
noncomputable def pF:Ss:=(.cons (.set 5 (.bin .add (.bin .sub (.sub (.var 2) (.cst (.int 0))) (.cst (.int 1))) (.bin .fdiv (.var 4) (.cst (.int 3)))))
 (.cons (.set 6 (.bin .add (.bin .sub (.sub (.var 2) (.cst (.int 1))) (.cst (.int 1))) (.bin .mod (.var 4) (.cst (.int 3))))) kR))
theorem xg{t u:Bool}:(if t=true then Res.ok (PV.bl u) else Res.ok (PV.bl false))=Res.ok (PV.bl (t&&u)):=by cases t<;>rfl
theorem L6{rows:List Str}{w:Nat}(L:Fl rows w):∃z,aQ (fl rows) (.int 0)=.ok (.str z)∧z.length=w∧z.length≤dg:=by
 have hz:rows[0]?=some (rows[0]'L.ne):=List.getElem?_eq_getElem L.ne
 have hm:=List.mem_of_getElem? hz
 exact⟨_,rh (j:=0) hz,L.rect _ hm,Nat.le_trans (L.rok.2 _ hm) (by decide)⟩
theorem Fv(F:aS){rows:List Str}{w:Nat}(L:Fl rows w)(A B:PV)(i:Nat)(s3 s7:Ci.Slot)(r' c':Int):
 ay F kC [.val (fl rows),.val A,.val B,s3,.val (.int i),.val (.int r'),.val (.int c'),s7]=.ok (.bl (decide (i≠4∧bu rows r' c'=true))):=by
 obtain⟨z0,f1,f2,f3⟩:=L6 L
 have Lv:(z0.length:Int)=(w:Int):=by rw [f2]
 by_cases hA:0≤r'∧r'<rows.length
 ·by_cases hB:0≤c'∧c'<w
  ·obtain⟨z,g1,x,g2,g3⟩:=mV L hA.1 hA.2 hB.1 hB.2
   have e:decide (i≠4∧bu rows r' c'=true)=((!((i:Int)==4))&&bu rows r' c'):=by
    rw [Bool.eq_iff_iff,Bool.and_eq_true,decide_eq_true_eq];simp;omega
   rw [e];simp only [kC,af,aa,ae,ai,aK,ay,ak,aP,aO,av,ax,aw,Nat.reduceAdd,Nat.reduceSub,reduceIte,J,J2,hA.1,hA.2,hB.1,hB.2,f1,Lv,f3,decide_true,List.length_map,g1,g2,g3,qB,xg,Bool.true_and]
  ·have e:decide (i≠4∧bu rows r' c'=true)=false:=decide_eq_false fun z=>hB (ij L z.2).2.2
   have q:(decide (0≤c')&&decide (c'<(w:Int)))=false:=by
    rw [←Bool.decide_and];exact decide_eq_false hB
   rw [e];simp only [kC,af,aa,ae,ai,aK,ay,ak,aP,aO,av,ax,aw,Nat.reduceAdd,Nat.reduceSub,reduceIte,J,J2,hA.1,hA.2,f1,Lv,f3,decide_true,List.length_map,xg,q,Bool.true_and,Bool.false_and]
 ·have e:decide (i≠4∧bu rows r' c'=true)=false:=decide_eq_false fun z=>hA ⟨(ij L z.2).1,(ij L z.2).2.1⟩
  have q:(decide (0≤r')&&decide (r'<(rows.length:Int)))=false:=by
   rw [←Bool.decide_and];exact decide_eq_false hA
  rw [e];simp only [kC,af,aa,ae,ai,aK,ay,ak,aP,aO,av,ax,aw,Nat.reduceAdd,Nat.reduceSub,reduceIte,J,J2,List.length_map,xg,q,Bool.true_and,Bool.false_and]
theorem yj(F:aS)(hc:lJ F){rows:List Str}{w:Nat}(L:Fl rows w){sl:Bool}{cl pr:Int}(V:Wk cl pr){r c:Int}(h:bu rows r c=true)(i:Nat)(hi:i<9)(acc:List PV)(hT:acc.length≤100)(t4 t5 t6 t7:Ci.Slot):
 ∃(u:Ci.Slot),(((Tg.one 4).put (.int i) [.val (fl rows),.val (wk sl cl pr),.val (sp r c),.own (.lst acc),t4,t5,t6,t7]).bind fun az=>ai F pF az)=
  .ok (.nx [.val (fl rows),.val (wk sl cl pr),.val (sp r c),.own (.lst (acc++(CL rows sl cl pr r c i).toList)),.val (.int i),.val (.int (r-1+i/3)),.val (.int (c-1+i%3)),u]):=by
 have q3:(0:Int)<3:=by decide
 have q4:(0:Int)<3∧(3:Int)<1073741824:=by decide
 have FQ:acc.length<dg:=Nat.lt_of_le_of_lt hT (by decide)
 have kc:=Fv F L (wk sl cl pr) (sp r c) i (.own (.lst acc)) t7 (r-1+(i:Int)/3) (c-1+(i:Int)%3)
 have go:∀x,ai F kR [.val (fl rows),.val (wk sl cl pr),.val (sp r c),.own (.lst acc),.val (.int i),.val (.int (r-1+i/3)),.val (.int (c-1+i%3)),t7]=x→(((Tg.one 4).put (.int i) [.val (fl rows),.val (wk sl cl pr),.val (sp r c),.own (.lst acc),t4,t5,t6,t7]).bind fun az=>ai F pF az)=x:=fun x e=>by
  simp only [pF,af,aa,ae,ai,aK,ay,ak,aP,aO,av,ax,aw,Nat.reduceAdd,Nat.reduceSub,reduceIte,J,J2,q3,q4,and_self,e]
 unfold CL
 by_cases hq:i≠4∧bu rows (r-1+i/3) (c-1+i%3)=true
 ·rw [if_pos hq];rw [decide_eq_true hq] at kc;have nf:¬far r c (r-1+i/3) (c-1+i%3):=by unfold far;omega
  have e:=hc rows w L sl cl pr V r c _ _ h hq.2 nf
  cases hs:cL rows sl cl pr r c (r-1+i/3) (c-1+i%3) with
  |none=>
   rw [hs] at e;simp only [oP] at e;have e5:fK .non .non=.ok (.bl false):=rfl
   refine⟨.val .non,go _ ?_⟩;rw [kR,ai,aK,kc];simp only [kT,af,aa,ae,ai,aK,ay,ak,aP,aO,av,ax,aw,Nat.reduceAdd,Nat.reduceSub,reduceIte,J,J2,e,e5,Option.map_none,Option.toList_none,List.append_nil]
  |some v=>
   rw [hs] at e;simp only [oP] at e;have e5:fK (.int v) .non=.ok (.bl true):=rfl
   refine⟨.val (.int v),go _ ?_⟩;rw [kR,ai,aK,kc];simp only [kT,af,aa,ae,ai,aK,ay,ak,aP,aO,av,ax,aw,Nat.reduceAdd,Nat.reduceSub,reduceIte,J,J2,e,e5,FQ,Option.map_some,Option.toList_some]
   rfl
 ·rw [if_neg hq];rw [decide_eq_false hq] at kc;refine⟨t7,go _ ?_⟩;rw [kR,ai,aK,kc];simp only [af,aa,ae,ai,aK,ay,ak,aP,aO,av,ax,aw,Nat.reduceAdd,Nat.reduceSub,reduceIte,J,J2,Option.toList_none,List.append_nil]
theorem Df(rows:List Str)(sl:Bool)(cl pr r c:Int)(i:Nat):CL rows sl cl pr r c i=(Eb rows sl cl pr r c i).map tK:=by
 unfold CL Eb;split
 ·rw [Option.map_map];rfl
 ·rfl
theorem rJ{α β:Type}(f:α→Option β):∀l:List α,(l.flatMap fun a=>(f a).toList)=l.filterMap f
 |[]=>rfl
 |a::l=>by
  rw [List.flatMap_cons,rJ f l,List.filterMap_cons];cases f a<;>rfl
def gr(F:aS):Prop:=∀rows w,Fl rows w→∀sl cl pr,Wk cl pr→∀r c,bu rows r c=true→∃T:List (List Int×Int),F "_law_steps" [fl rows,wk sl cl pr,ag [r,c]]=.ok (.lst (T.map tK))∧T.length≤9∧(T.Pairwise fun a b=>a.1≠b.1)∧∀v e,(v,e)∈T↔E1 rows sl cl pr [r,c] v e
theorem uD(F:aS)(hc:lJ F):∀rows w,Fl rows w→∀sl cl pr,Wk cl pr→∀r c,bu rows r c=true→∃T:List (List Int×Int),af F bC [fl rows,wk sl cl pr,ag [r,c]]=.ok (.lst (T.map tK))∧T.length≤9∧(T.Pairwise fun a b=>a.1≠b.1)∧∀v e,(v,e)∈T↔E1 rows sl cl pr [r,c] v e:=by
 intro rows w L sl cl pr V r c h;refine⟨(List.range 9).filterMap (Eb rows sl cl pr r c),?_,Nat.le_trans (List.length_filterMap_le _ _) (by simp),?_,fun v e=>?_⟩
 ·obtain⟨s',e⟩:=d6 (body:=fun x env=>((Tg.one 4).put x env).bind fun az=>ai F pF az) (g:=fun i:Nat=>PV.int (i:Int)) (mk:=fun acc (s:Ci.Slot×Ci.Slot×Ci.Slot×Ci.Slot)=>[.val (fl rows),.val (wk sl cl pr),.val (sp r c),.own (.lst acc),s.1,s.2.1,s.2.2.1,s.2.2.2]) (app:=fun i=>(CL rows sl cl pr r c i).toList) (m:=1) (M:=50) (List.range 9) [] (.no,.no,.no,.no) (fun i _=>by cases CL rows sl cl pr r c i<;>simp) (fun i hi acc s hl=>by
   obtain⟨u,e⟩:=yj F hc L V h i (List.mem_range.1 hi) acc (by omega) s.1 s.2.1 s.2.2.1 s.2.2.2
   exact⟨(_,_,_,u),e⟩) (by decide)
  have k:ag [r,c]=sp r c:=rfl
  have s:bj 9=true:=by decide
  have rg:eK 0 (9:Int).toNat=(List.range 9).map fun i:Nat=>PV.int (i:Int):=by
   unfold eK;refine List.map_congr_left fun i _=>?_
   rw [Int.zero_add]
  have fm:((List.range 9).flatMap fun i=>(CL rows sl cl pr r c i).toList)=((List.range 9).filterMap (Eb rows sl cl pr r c)).map tK:=by
   rw [rJ,List.map_filterMap]
   congr 1
   funext i
   exact Df ..
  rw [fm,←rg] at e;have db:bC.body=.cons (.own 3 (.lst .nil)) (.cons (.for_ (.one 4) (.rng (.cst (.int 9))) pF) (.cons (.frz 3) (.cons (.ret (.var 3)) .nil))):=rfl
  have st:aa bC [fl rows,wk sl cl pr,sp r c]=[.val (fl rows),.val (wk sl cl pr),.val (sp r c),.no,.no,.no,.no,.no]:=rfl
  have ar:ae bC [fl rows,wk sl cl pr,sp r c]=true:=rfl
  rw [k];unfold af;rw [ar,if_pos rfl,st,db];simp only [af,aa,ae,ai,aK,ay,ak,aP,aO,av,ax,aw,Nat.reduceAdd,Nat.reduceSub,reduceIte,J,J2,s] at e⊢;simp only [af,aa,ae,ai,aK,ay,ak,aP,aO,av,ax,aw,Nat.reduceAdd,Nat.reduceSub,reduceIte,J,J2,e,yt]
 ·refine List.Pairwise.filterMap (S:=fun a b:List Int×Int=>a.1≠b.1) (R:=fun i j:Nat=>i≠j) _ (fun i j sP a ha b hb vw=>sP ?_) (List.nodup_range (n:=9));unfold Eb at ha hb;split at ha
  ·split at hb
   ·obtain⟨_,_,rfl⟩:=Option.map_eq_some_iff.1 ha
    obtain⟨_,_,rfl⟩:=Option.map_eq_some_iff.1 hb
    simp only [List.cons.injEq,and_true] at vw;omega
   ·cases hb
  ·cases ha
 ·rw [List.mem_filterMap]
  constructor
  ·rintro ⟨i,hi,g⟩
   unfold Eb at g;split at g
   ·rename_i hh;obtain⟨x,hx,g⟩:=Option.map_eq_some_iff.1 g
    cases g;exact⟨r,c,_,_,rfl,rfl,h,hh.2,hx⟩
   ·cases g
  ·rintro ⟨a,b,r',c',g1,rfl,_,ho,hs⟩
   cases g1;have nf:=(cB.1 hs).1
   unfold far at nf;refine⟨(3*(r'-r+1)+(c'-c+1)).toNat,List.mem_range.2 (by omega),?_⟩;have e1:r-1+((3*(r'-r+1)+(c'-c+1)).toNat:Int)/3=r':=by omega
   have e2:c-1+((3*(r'-r+1)+(c'-c+1)).toNat:Int)%3=c':=by omega
   unfold Eb;rw [e1,e2,if_pos ⟨by omega,ho⟩,hs]
   rfl
theorem iR{U:Ks}:∀(new met:Ks),new.Nodup→(∀x∈new,x∉met∧x∈U)→(met++new).length+kW U (met++new)≤met.length+kW U met
 |[],met,_,_=>by simp
 |x::new,met,nd,h=>by
  have n:=List.nodup_cons.1 nd
  have hx:=h x (List.mem_cons_self ..)
  have g:bV met x=false:=by
   cases e:bV met x with
   |false=>rfl
   |true=>exact absurd (cK.1 e) hx.1
  have p:aU met x=met++[x]:=by unfold aU;rw [g];rfl
  have l:=iV hx.2 g
  rw [p] at l;have ih:=iR new (met++[x]) n.2 fun y hy=>⟨fun z=>(List.mem_append.1 z).elim (h y (List.mem_cons_of_mem _ hy)).1 fun z=>n.1 (List.mem_singleton.1 z▸hy),(h y (List.mem_cons_of_mem _ hy)).2⟩
  rw [show met++x::new=met++[x]++new by simp];have:(met++[x]).length=met.length+1:=by simp
  omega
theorem Bp{E:List Int→List Int→Int→Prop}{met:Ks}{u v:List Int}(hu:u∈met)(hc:∀x∈met,∀v e,E x v e→v∈met)(h:RR E u v):v∈met:=by
 obtain⟨c,h⟩:=h
 induction h with
 |here=>exact hu
 |go _ he ih=>exact hc _ ih _ _ he
def F0:E:=(.cmp .lt (.var 4) (.blt .len (.cons (.tmp 3) .nil)))
noncomputable def He:Ss:=(.cons (.extd 3 (.compIf 1 [3] (.one 0) (.seq (.call "_law_steps" (.cons (.var 0) (.cons (.var 1) (.cons (.sub (.tmp 3) (.var 4)) .nil))))) (.cmp .nin (.sub (.var 0) (.cst (.int 0))) (.tmp 1)) (.sub (.var 0) (.cst (.int 0)))))
 (.cons (.set 4 (.bin .add (.var 4) (.cst (.int 1))))
 .nil))
theorem pX{f:PV→Res (Option PV)}{met:Ks}(hf:∀t,f (tK t)=.ok (if !decide (t.1∈met) then some (ag t.1) else none)):∀T:List (List Int×Int),aX f (T.map tK)=.ok (((T.filter fun t=>!decide (t.1∈met)).map (·.1)).map ag)
 |[]=>rfl
 |t::T=>by
  simp only [List.map_cons,aX,hf,ET,kI,pX hf T,List.filter_cons];cases(!decide (t.1∈met))<;>rfl
theorem j3(F:aS)(hs:gr F){rows:List Str}{w:Nat}(L:Fl rows w){sl:Bool}{cl pr:Int}(V:Wk cl pr){u:List Int}(hu:fO rows u)(z:PV):
 ∀(n i:Nat) (met:Ks),37≤n+i→i≤met.length→met.Nodup→(∀v∈met,RR (E1 rows sl cl pr) u v)→u∈met→(∀(j:Nat) x,j<i→met[j]?=some x→∀v e,E1 rows sl cl pr x v e→v∈met)→met.length+kW n0 met≤36→
 ∃met':Ks,∃s4,bO (ay F F0) (ai F He) n [.val (fl rows),.val (wk sl cl pr),.val z,.own (.lst (met.map ag)),.val (.int i)]=.ok (.nx [.val (fl rows),.val (wk sl cl pr),.val z,.own (.lst (met'.map ag)),s4])∧met'.Nodup∧met'.length≤36∧∀v,v∈met'↔RR (E1 rows sl cl pr) u v
 |0,i,met,hn,hi,_,_,_,_,hl=>by omega
 |n+1,i,met,hn,hi,nd,hr,hu',hc,hl=>by
  have ec:ay F F0 [.val (fl rows),.val (wk sl cl pr),.val z,.own (.lst (met.map ag)),.val (.int i)]=.ok (.bl (decide ((i:Int)<met.length))):=by simp only [F0,af,aa,ae,ai,aK,ay,ak,aP,aO,av,ax,aw,Nat.reduceAdd,Nat.reduceSub,reduceIte,J,J2,List.length_map]
  by_cases cm:i<met.length
  ·have hx:met[i]?=some met[i]:=List.getElem?_eq_getElem cm
   have KH:=List.mem_of_getElem? hx
   obtain⟨a,b,vw,ho⟩:=room_in L hu (hr _ KH)
   obtain⟨T,e1,lT,pT,hT⟩:=hs rows w L sl cl pr V a b ho
   rw [←vw] at e1 hT;have es:aQ (.lst (met.map ag)) (.int i)=.ok (ag met[i]):=by
    simp only [aQ];rw [g9 (k:=i) (by simpa using cm)];simp [Res.of]
   have FQ:T.length<dg:=Nat.lt_of_le_of_lt lT (by decide)
   have t0:∀t:List Int×Int,aQ (tK t) (.int 0)=.ok (ag t.1):=fun t=>rfl
   generalize mW:(T.filter fun t=>!decide (t.1∈met)).map (·.1)=new
   have EN:∀v,v∈new↔v∉met∧∃e,E1 rows sl cl pr met[i] v e:=fun v=>by
    rw [←mW,List.mem_map]
    constructor
    ·rintro ⟨t,ht,rfl⟩
     rw [List.mem_filter] at ht;exact⟨by simpa using ht.2,t.2,(hT _ _).1 ht.1⟩
    ·rintro ⟨h1,e,he⟩
     exact⟨(v,e),List.mem_filter.2 ⟨(hT v e).2 he,by simpa using h1⟩,rfl⟩
   have nn:new.Nodup:=by
    rw [←mW];exact List.pairwise_map.2 (pT.filter _)
   have ll:met.length+new.length≤dg:=by
    have:new.length≤9:=by rw [←mW,List.length_map];exact Nat.le_trans (List.length_filter_le ..) lT
    exact Nat.le_trans (m:=100) (by omega) (by decide)
   have la:=iR (U:=n0) new met nn fun x hx=>⟨((EN x).1 hx).1,by obtain⟨e,he⟩:=((EN x).1 hx).2;exact De L (BE L V he).2.2⟩
   have eb:ai F He [.val (fl rows),.val (wk sl cl pr),.val z,.own (.lst (met.map ag)),.val (.int i)]=.ok (.nx [.val (fl rows),.val (wk sl cl pr),.val z,.own (.lst ((met++new).map ag)),.val (.int ((i:Int)+1))]):=by
    simp only [He,af,aa,ae,ai,aK,ay,ak,aP,aO,av,ax,aw,Nat.reduceAdd,Nat.reduceSub,reduceIte,J,J2,es,e1,List.length_map,FQ];rw [pX (met:=met) (fun t=>by
     cases hd:decide (t.1∈met) with
     |true=>
      have q:eE (ag t.1) (.lst (met.map ag))=.ok (.bl false):=by rw [Cu,hd];rfl
      simp only [af,aa,ae,ai,aK,ay,ak,aP,aO,av,ax,aw,Nat.reduceAdd,Nat.reduceSub,reduceIte,J,J2,t0,q]
     |false=>
      have q:eE (ag t.1) (.lst (met.map ag))=.ok (.bl true):=by rw [Cu,hd];rfl
      simp only [af,aa,ae,ai,aK,ay,ak,aP,aO,av,ax,aw,Nat.reduceAdd,Nat.reduceSub,reduceIte,J,J2,t0,q]),mW]
    simp only [af,aa,ae,ai,aK,ay,ak,aP,aO,av,ax,aw,Nat.reduceAdd,Nat.reduceSub,reduceIte,J,J2,List.length_map,ll,List.map_append]
   have vN:(met++new).length+kW n0 (met++new)≤36:=Nat.le_trans la hl
   obtain⟨met',s4,e,r1,r2,r3⟩:=j3 F hs L V hu z n (i+1) (met++new) (by omega) (by rw [List.length_append];omega) (List.nodup_append.2 ⟨nd,nn,fun a ha b hb vw=>((EN b).1 hb).1 (vw▸ha)⟩) (fun v hv=>(List.mem_append.1 hv).elim (hr v) fun q=>by
    obtain⟨e,he⟩:=((EN v).1 q).2
    obtain⟨c,hw⟩:=hr _ KH
    exact⟨_,.go hw he⟩) (List.mem_append_left _ hu') (fun j x hj vv v e he=>by
    by_cases hm:v∈met
    ·exact List.mem_append_left _ hm
    ·by_cases hji:j=i
     ·subst hji;rw [List.getElem?_append_left cm,hx] at vv;cases vv;exact List.mem_append_right _ ((EN v).2 ⟨hm,e,he⟩)
     ·rw [List.getElem?_append_left (by omega)] at vv;exact List.mem_append_left _ (hc j x (by omega) vv v e he)) vN
   refine⟨met',s4,?_,r1,r2,r3⟩;rw [decide_eq_true (by omega)] at ec;have ei:((i:Int)+1)=((i+1:Nat):Int):=by omega
   rw [ei] at eb;simp only [bO,ec,kI,EO,if_true,eb,e]
  ·refine⟨met,.val (.int i),?_,nd,by omega,fun v=>⟨hr v,fun⟨c,h⟩=>?_⟩⟩
   ·rw [decide_eq_false (by omega)] at ec;simp only [bO,ec,kI,EO,Bool.false_eq_true,if_false]
   ·have NO:i=met.length:=by omega
    refine Bp hu' (fun x hx v e he=>?_) ⟨c,h⟩;obtain⟨j,hj,hx⟩:=List.getElem_of_mem hx
    exact hc j _ (by omega) (by rw [List.getElem?_eq_getElem hj,hx]) _ _ he
def m7(F:aS):Prop:=∀rows w,Fl rows w→∀sl cl pr,Wk cl pr→∀r c,bu rows r c=true→∃S:Ks,F "_law_room" [fl rows,wk sl cl pr,sp r c]=.ok (.lst (S.map ag))∧d8 (E1 rows sl cl pr) [r,c] S
theorem xw(F:aS)(hs:gr F):∀rows w,Fl rows w→∀sl cl pr,Wk cl pr→∀r c,bu rows r c=true→∃S:Ks,af F cQ [fl rows,wk sl cl pr,sp r c]=.ok (.lst (S.map ag))∧d8 (E1 rows sl cl pr) [r,c] S:=by
 intro rows w L sl cl pr V r c h;have hu:fO rows [r,c]:=⟨r,c,rfl,h⟩
 have la:=iR (U:=n0) [[r,c]] [] (by simp) fun x hx=>⟨by simp,by rw [List.mem_singleton.1 hx];exact De L hu⟩
 have l0:kW n0 []≤36:=by rw [←gL];exact List.length_filter_le ..
 obtain⟨met,s4,e,nd,hl,hm⟩:=j3 F hs L V (sl:=sl) hu (sp r c) WN 0 [[r,c]] (by decide) (Nat.zero_le _) (by simp) (fun v hv=>by rw [List.mem_singleton.1 hv];exact gk ..) (by simp) (fun j x hj=>by omega) (by
  simp only [List.nil_append,List.length_nil,Nat.zero_add] at la;omega)
 obtain⟨S,e2,hS,sS⟩:=lN nd (by omega) (fun k hk=>by
  obtain⟨_,_,rfl,_⟩:=room_in L hu ((hm k).1 hk)
  simp)
 refine⟨S,?_,sS,fun v=>(hS v).trans (hm v)⟩
 have e':bO (ay F F0) (ai F He) WN [.val (fl rows),.val (wk sl cl pr),.val (sp r c),.own (.lst [sp r c]),.val (.int 0)]=.ok (.nx [.val (fl rows),.val (wk sl cl pr),.val (sp r c),.own (.lst (met.map ag)),s4]):=e
 simp only [F0,He,af,aa,ae,ai,aK,ay,ak,aP,aO,av,ax,aw,Nat.reduceAdd,Nat.reduceSub,reduceIte,J,J2] at e';simp only [cQ,af,aa,ae,ai,aK,ay,ak,aP,aO,av,ax,aw,Nat.reduceAdd,Nat.reduceSub,reduceIte,J,J2,e',e2]
end K31
namespace K31
open PySem L2 Ci KJ
def pS(z:Str)(j:Nat):Str:=⟨(z.cps.toList.set j 35).toArray⟩
def bar(rows:List Str)(i j:Nat):List Str:=rows.set i (pS (rows.getD i "") j)
theorem qS(rows:List Str)(i j r c:Nat):cd (bar rows i j) r c=if r=i∧c=j then(cd rows r c).map fun _=>35 else cd rows r c:=by
 unfold cd bar;rw [List.getElem?_set]
 by_cases hr:i=r
 ·subst hr;rw [if_pos rfl]
  by_cases hi:i<rows.length
  ·rw [if_pos hi,List.getElem?_eq_getElem hi];simp only [Option.bind_some,pS,List.getD_eq_getElem?_getD,List.getElem?_eq_getElem hi,Option.getD_some,List.getElem?_set,true_and]
   by_cases hc:j=c
   ·subst hc;rw [if_pos rfl,if_pos rfl]
    by_cases hj:j<(rows[i]).cps.toList.length
    ·rw [if_pos hj,List.getElem?_eq_getElem hj];rfl
    ·rw [if_neg hj,List.getElem?_eq_none (by omega)];rfl
   ·rw [if_neg hc,if_neg (fun z=>hc z.symm)]
  ·rw [if_neg hi,List.getElem?_eq_none (by omega)];simp
 ·rw [if_neg hr,if_neg (fun z=>hr z.1.symm)]
theorem fx{rows:List Str}{i j:Nat}{r c:Int}(h:bu (bar rows i j) r c=true):bu rows r c=true∧bT (bar rows i j) r c=bT rows r c:=by
 obtain⟨h0,h1,h2⟩:=dw.1 h
 have e:=qS rows i j r.toNat c.toNat
 by_cases hq:r.toNat=i∧c.toNat=j
 ·rw [if_pos hq] at e;unfold iX at h2;rw [e] at h2;cases hc:cd rows r.toNat c.toNat with
  |none=>rw [hc] at h2;cases h2
  |some x=>rw [hc] at h2;cases h2
 ·rw [if_neg hq] at e;refine⟨dw.2 ⟨h0,h1,?_⟩,?_⟩
  ·unfold iX at h2⊢;rw [e] at h2;exact h2
  ·unfold bT;rw [e]
theorem qb{rows:List Str}{i j:Nat}{r c:Int}(h:bu rows r c=true)(hn:¬(r=i∧c=j)):bu (bar rows i j) r c=true:=by
 obtain⟨h0,h1,h2⟩:=dw.1 h
 refine dw.2 ⟨h0,h1,?_⟩;have e:=qS rows i j r.toNat c.toNat
 rw [if_neg (fun z=>hn ⟨by omega,by omega⟩)] at e;unfold iX at h2⊢;rw [e];exact h2
theorem Cf{rows:List Str}{w:Nat}(L:Fl rows w)(i j:Nat):Fl (bar rows i j) w:=by
 have hb:∀z∈bar rows i j,z.length=w∧∀x∈z.cps.toList,x=35∨(48≤x∧x≤57):=by
  intro z hz;rcases List.mem_or_eq_of_mem_set hz with h|h
  ·exact⟨L.rect z h,L.dig z h⟩
  ·by_cases hi:i<rows.length
   ·have hm:=List.getElem_mem hi
    have e:rows.getD i ""=rows[i]:=by simp [List.getD_eq_getElem?_getD,List.getElem?_eq_getElem hi]
    rw [e] at h;subst h;refine⟨?_,fun x hx=>?_⟩
    ·rw [←L.rect _ hm];show((rows[i]).cps.toList.set j 35).toArray.size=(rows[i]).cps.size
     simp
    ·rcases List.mem_or_eq_of_mem_set (show x∈(rows[i]).cps.toList.set j 35 from by simpa [pS] using hx) with g|g
     ·exact L.dig _ hm x g
     ·exact .inl g
   ·unfold bar at hz;rw [List.set_eq_of_length_le (by omega)] at hz;exact⟨L.rect z hz,L.dig z hz⟩
 have hl:(bar rows i j).length=rows.length:=List.length_set
 have hw:w≤6:=by
  have h3:=L.rok.2 _ (List.getElem_mem L.ne)
  rw [L.rect _ (List.getElem_mem L.ne)] at h3;exact h3
 refine⟨⟨by rw [hl];exact L.rok.1,fun z hz=>by rw [(hb z hz).1];exact hw⟩,by rw [hl];exact L.ne,L.w1,fun z hz=>(hb z hz).1,fun z hz=>(hb z hz).2⟩
theorem EB{α:Type}(xs:List α){k:Nat}(h:k≤xs.length):n5 xs none (some (k:Int))=xs.take k:=by
 unfold n5;rw [HT.sIx_nat,HT.sIx_none,List.drop_zero,Nat.min_eq_left h,Nat.sub_zero]
theorem CU{α:Type}(xs:List α){k:Nat}(h:k≤xs.length):n5 xs (some (k:Int)) none=xs.drop k:=by
 unfold n5;rw [HT.sIx_nat,HT.sIx_none,Nat.min_eq_left h];exact List.take_of_length_le (by simp)
theorem yN{z:Str}{j:Nat}(h:j<z.length):Txt.slice z none (some (j:Int))++("#":Str)++Txt.slice z (some ((j:Int)+1)) none=pS z j:=by
 have e1:=Cw.slice_lo z j (by omega)
 have e2:=Cw.slice_hi z (j+1) (by omega)
 have hw:(("#":Str))=⟨#[35]⟩:=by decide+kernel
 have hl:j<z.cps.toList.length:=by rw [Array.length_toList];exact h
 rw [hw];show Str.mk ((Txt.slice z none (some (j:Int))).cps++#[35]++(Txt.slice z (some ((j:Int)+1)) none).cps)=pS z j
 unfold pS
 congr 1
 apply Array.toList_inj.1
 rw [List.set_eq_take_append_cons_drop,if_pos hl];simp only [Array.toList_append,e1,List.append_assoc,List.cons_append,List.nil_append]
 congr 2
theorem pA{z:Str}{j:Nat}(h:z.length≤6):(Txt.slice z none (some (j:Int))).length+(("#":Str)).length≤dg∧(Txt.slice z none (some (j:Int))++("#":Str)).length+(Txt.slice z (some ((j:Int)+1)) none).length≤dg:=by
 have a:=Txt.slice_le z none (some (j:Int))
 have b:=Txt.slice_le z (some ((j:Int)+1)) none
 have hw:(("#":Str)).length=1:=by decide+kernel
 rw [Str.length_append,hw];exact⟨Nat.le_trans (m:=100) (by omega) (by decide),Nat.le_trans (m:=100) (by omega) (by decide)⟩
theorem Dj{rows:List Str}{i:Nat}(hi:i<rows.length):dM (fl rows) none (some (i:Int))=.ok (.tup ((rows.map .str).take i))∧dM (fl rows) (some ((i:Int)+1)) none=.ok (.tup ((rows.map .str).drop (i+1))):=by
 have hl:(rows.map PV.str).length=rows.length:=List.length_map _
 constructor
 ·show(if HT.sIx (rows.map PV.str).length 0 none=0∧HT.sIx (rows.map PV.str).length (rows.map PV.str).length (some (i:Int))=(rows.map PV.str).length then Res.bad else Res.ok (PV.tup (n5 (rows.map PV.str) none (some (i:Int)))))=_
  rw [EB _ (by omega),if_neg];rw [HT.sIx_nat];omega
 ·show(if HT.sIx (rows.map PV.str).length 0 (some ((i:Int)+1))=0∧HT.sIx (rows.map PV.str).length (rows.map PV.str).length none=(rows.map PV.str).length then Res.bad else Res.ok (PV.tup (n5 (rows.map PV.str) (some ((i:Int)+1)) none)))=_
  have e:=CU (rows.map PV.str) (k:=i+1) (by omega)
  have e':=HT.sIx_nat (rows.map PV.str).length 0 (i+1)
  rw [Int.natCast_add,Int.natCast_one] at e e';rw [e,if_neg];rw [e'];omega
theorem uA{rows:List Str}{i:Nat}(j:Nat)(hi:i<rows.length):PV.tup (((rows.map .str).take i++[.str (pS rows[i] j)])++(rows.map .str).drop (i+1))=fl (bar rows i j):=by
 unfold bar fl;rw [List.set_eq_take_append_cons_drop,if_pos hi];simp [List.getD_eq_getElem?_getD,List.getElem?_eq_getElem hi,List.map_take,List.map_drop]
theorem MF{z:Str}{lo hi:Option Int}:dM (.str z) lo hi=if z.length≤dg then .ok (.str (Txt.slice z lo hi)) else .bad:=id rfl
theorem ye(rows:List Str)(i j:Nat):bu (bar rows i j) i j=false:=by
 cases h:bu (bar rows i j) i j with
 |false=>rfl
 |true=>
  obtain⟨_,_,h2⟩:=dw.1 h
  unfold iX at h2;rw [qS,if_pos ⟨by omega,by omega⟩] at h2;cases hc:cd rows (i:Int).toNat (j:Int).toNat with
  |none=>rw [hc] at h2;cases h2
  |some x=>rw [hc] at h2;cases h2
def yf(u v w:List Int):Bool:=decide (w∈[u,v,[u.headD 0,v.getLastD 0],[v.headD 0,u.getLastD 0]])
theorem gu{r c r' c':Int}{w:List Int}:yf [r,c] [r',c'] w=false↔w≠[r,c]∧w≠[r',c']∧w≠[r,c']∧w≠[r',c]:=by
 unfold yf;simp only [decide_eq_false_iff_not,List.mem_cons,List.not_mem_nil,or_false,not_or]
 rfl
def Ew(rows:List Str)(sl:Bool)(cl pr:Int)(w u v:List Int)(e:Int):Prop:=E1 rows sl cl pr u v e∧yf u v w=false
theorem xK{rows:List Str}{sl:Bool}{cl pr:Int}{i j:Nat}{u v:List Int}{e:Int}:E1 (bar rows i j) sl cl pr u v e↔Ew rows sl cl pr [(i:Int),(j:Int)] u v e:=by
 constructor
 ·rintro ⟨r,c,r',c',rfl,rfl,h3,h4,h5⟩
  have o1:=fx h3
  have o2:=fx h4
  rw [cB,o1.2,o2.2] at h5;have sh:=ye rows i j
  have k:∀a b:Int,bu (bar rows i j) a b=true→[(i:Int),(j:Int)]≠[a,b]:=fun a b h z=>by
   cases z;rw [sh] at h;cases h
  refine⟨⟨r,c,r',c',rfl,rfl,o1.1,o2.1,cB.2 ⟨h5.1,fun z=>⟨(h5.2.1 z).1,(fx (h5.2.1 z).2.1).1,(fx (h5.2.1 z).2.2).1⟩,h5.2.2⟩⟩,gu.2 ⟨k _ _ h3,k _ _ h4,?_,?_⟩⟩
  ·by_cases g:r≠r'∧c≠c'
   ·exact k _ _ (h5.2.1 g).2.1
   ·by_cases g1:r=r'
    ·rw [g1];exact k _ _ h4
    ·rw [←show c=c' from Classical.byContradiction fun y=>g ⟨g1,y⟩];exact k _ _ h3
  ·by_cases g:r≠r'∧c≠c'
   ·exact k _ _ (h5.2.1 g).2.2
   ·by_cases g1:r=r'
    ·rw [←g1];exact k _ _ h3
    ·rw [show c=c' from Classical.byContradiction fun y=>g ⟨g1,y⟩];exact k _ _ h4
 ·rintro ⟨⟨r,c,r',c',rfl,rfl,h3,h4,h5⟩,hn⟩
  obtain⟨n1,n2,n3,n4⟩:=gu.1 hn
  have k:∀a b:Int,bu rows a b=true→[(i:Int),(j:Int)]≠[a,b]→bu (bar rows i j) a b=true:=fun a b h z=>qb h fun y=>z (by rw [y.1,y.2])
  have b1:=k _ _ h3 n1
  have b2:=k _ _ h4 n2
  rw [cB] at h5;exact⟨r,c,r',c',rfl,rfl,b1,b2,cB.2 ⟨h5.1,fun z=>⟨(h5.2.1 z).1,k _ _ (h5.2.1 z).2.1 n3,k _ _ (h5.2.1 z).2.2 n4⟩,by rw [(fx b1).2,(fx b2).2];exact h5.2.2⟩⟩
theorem AK{rows:List Str}{sl:Bool}{cl pr:Int}{w u v:List Int}{e:Int}(h:Ew rows sl cl pr w u v e):∃e',Ew rows sl cl pr w v u e':=by
 obtain⟨h,hn⟩:=h
 obtain⟨e',h'⟩:=qC h
 obtain⟨r,c,r',c',rfl,rfl,_⟩:=h
 obtain⟨n1,n2,n3,n4⟩:=gu.1 hn
 exact⟨e',h',gu.2 ⟨n2,n1,n4,n3⟩⟩
def iN(F:aS):Prop:=∀r c r' c' w,F "needs_open" [ag [r,c],ag [r',c'],ag w]=.ok (.bl (yf [r,c] [r',c'] w))
theorem wG(F:aS)(r c r' c':Int)(w:List Int):af F bX [ag [r,c],ag [r',c'],ag w]=.ok (.bl (yf [r,c] [r',c'] w)):=by
 have e:m5 (ag w) (.tup [sp r c,sp r' c',sp r c',sp r' c])=.ok (.bl (yf [r,c] [r',c'] w)):=NC w [[r,c],[r',c'],[r,c'],[r',c]]
 show af F bX [sp r c,sp r' c',ag w]=_
 have ci:da .in_=m5:=rfl
 simp only [bX,af,aa,ae,ai,aK,ay,ak,aP,aO,av,ax,aw,Nat.reduceAdd,Nat.reduceSub,reduceIte,J,J2,ci,e]
theorem tW(F:aS){rows:List Str}{w:Nat}(L:Fl rows w){i j:Nat}(h:iX rows i j=true):af F cj [fl rows,sp i j]=.ok (fl (bar rows i j)):=by
 obtain⟨z,hz,x,hx,_⟩:=gz.1 h
 obtain⟨hi,rfl⟩:=List.getElem?_eq_some_iff.1 hz
 have hj:=(List.getElem?_eq_some_iff.1 hx).1
 have zl:(rows[i]).length≤6:=L.rok.2 _ (List.getElem_mem hi)
 have Ni:(rows[i]).length≤dg:=Nat.le_trans zl (by decide)
 have g3:=rh hz
 have g4:=pA (j:=j) zl
 have g5:=yN (z:=rows[i]) (j:=j) (by rw [Array.length_toList] at hj;exact hj)
 have g6:=Dj hi
 have g7:=uA j hi
 have g8:((rows.map PV.str).take i).length+1≤dg∧((rows.map PV.str).take i++[PV.str (pS rows[i] j)]).length+((rows.map PV.str).drop (i+1)).length≤dg:=by
  have:=L.rok.1
  refine⟨Nat.le_trans (m:=100) ?_ (by decide),Nat.le_trans (m:=100) ?_ (by decide)⟩<;>simp<;>omega
 simp only [cj,af,aa,ae,ai,aK,ay,ak,aP,aO,av,ax,aw,Nat.reduceAdd,Nat.reduceSub,reduceIte,J,J2,g3,MF,Ni,g4,g5,g6,g7,g8,Bx]
abbrev lp(m:Ks):PV:=.lst (m.map ag)
def Gd(E:List Int→List Int→Int→Prop)(ks:Ks)(vs:List PV)(u:List Int):Prop:=∃T:Ks,aC ks vs u=some (lp T)∧∀v,v∈T↔∃e,E u v e
def HW:Ss:=(.cons (.put 2 (.var 3) (.comp 1 [] (.one 0) (.seq (.call "steps_from" (.cons (.var 0) (.cons (.var 1) (.cons (.var 3) .nil))))) (.sub (.var 0) (.cst (.int 0)))))
 .nil)
theorem mh(F:aS)(hs:gD F){rows:List Str}{w:Nat}(L:Fl rows w){sl:Bool}{cl pr:Int}(V:Wk cl pr):∀(Q:Ks) (ks:Ks) (vs:List PV) (s3:Ci.Slot),(∀u∈Q,fO rows u)→ks.length=vs.length→ks.length+Q.length≤100→∃H9 Cb HB,forL (fun x env=>((Tg.one 3).put x env).bind fun az=>ai F HW az) (Q.map ag) [.val (fl rows),.val (wk sl cl pr),.own (.dct ks vs),s3]=.ok (.nx [.val (fl rows),.val (wk sl cl pr),.own (.dct H9 Cb),HB])∧∀u,u∈Q∨Gd (E1 rows sl cl pr) ks vs u→Gd (E1 rows sl cl pr) H9 Cb u
 |[],ks,vs,s3,_,_,_=>⟨ks,vs,s3,rfl,fun u h=>h.elim (fun z=>by cases z) id⟩
 |k::Q,ks,vs,s3,hO,he,hl=>by
  rw [List.length_cons] at hl;have g:=fy ks k
  obtain⟨a,b,rfl,ho⟩:=hO k (List.mem_cons_self ..)
  obtain⟨T,e1,lT,hT⟩:=hs rows w L sl cl pr V a b ho
  have FQ:T.length<dg:=Nat.lt_of_le_of_lt lT (by decide)
  have lk:ks.length<dg:=Nat.lt_of_le_of_lt (m:=100) (by omega) (by decide)
  have t0:∀t:List Int×Int,aQ (tK t) (.int 0)=.ok (ag t.1):=fun t=>rfl
  have em:(T.map fun t=>ag t.1)=(T.map (·.1)).map ag:=by rw [List.map_map];rfl
  obtain⟨H9,Cb,HB,e,h⟩:=mh F hs L V Q (aU ks [a,b]) (bg ks vs [a,b] (lp (T.map (·.1)))) (.val (ag [a,b])) (fun u hu=>hO u (List.mem_cons_of_mem _ hu)) (j6 he ..) (by omega)
  refine⟨H9,Cb,HB,?_,fun u hu=>h u ?_⟩
  ·have eb:(((Tg.one 3).put (ag [a,b]) [.val (fl rows),.val (wk sl cl pr),.own (.dct ks vs),s3]).bind fun az=>ai F HW az)=.ok (.nx [.val (fl rows),.val (wk sl cl pr),.own (.dct (aU ks [a,b]) (bg ks vs [a,b] (lp (T.map (·.1))))),.val (ag [a,b])]):=by
    simp only [HW,af,aa,ae,ai,aK,ay,ak,aP,aO,av,ax,aw,Nat.reduceAdd,Nat.reduceSub,reduceIte,J,J2,e1,List.length_map,FQ];rw [lY (p:=tK) (g:=fun t=>ag t.1) (fun t _=>by simp only [af,aa,ae,ai,aK,ay,ak,aP,aO,av,ax,aw,Nat.reduceAdd,Nat.reduceSub,reduceIte,J,J2,t0]),em];simp only [af,aa,ae,ai,aK,ay,ak,aP,aO,av,ax,aw,Nat.reduceAdd,Nat.reduceSub,reduceIte,J,J2,dn,lk]
   rw [List.map_cons,forL,eb,kI];exact e
  ·by_cases hk:[a,b]=u
   ·subst hk;refine .inr ⟨T.map (·.1),by rw [bp he,if_pos rfl],fun v=>?_⟩
    rw [List.mem_map];exact⟨fun⟨t,ht,q⟩=>⟨t.2,(hT _ _).1 (q▸ht)⟩,fun⟨e,q⟩=>⟨(v,e),(hT v e).2 q,rfl⟩⟩
   ·rcases hu with hu|⟨T',q1,q2⟩
    ·exact .inl ((List.mem_cons.1 hu).elim (fun z=>absurd z.symm hk) id)
    ·exact .inr ⟨T',by rw [bp he,if_neg hk];exact q1,q2⟩
def qy(F:aS):Prop:=∀rows w,Fl rows w→∀sl cl pr,Wk cl pr→∃ks vs,F "steps_over" [fl rows,wk sl cl pr]=.ok (.dct ks vs)∧∀u,fO rows u→Gd (E1 rows sl cl pr) ks vs u
theorem AY(F:aS)(hs:gD F)(ho:∀rows,oy rows→∃L:List (Nat×Nat),F "open_spots" [fl rows]=.ok (.lst (L.map mw))∧Up L∧L.length≤36∧∀r c,(r,c)∈L↔iX rows r c=true):∀rows w,Fl rows w→∀sl cl pr,Wk cl pr→∃ks vs,af F cF [fl rows,wk sl cl pr]=.ok (.dct ks vs)∧∀u,fO rows u→Gd (E1 rows sl cl pr) ks vs u:=by
 intro rows w L sl cl pr V;obtain⟨Sp,e1,up,Gi,hm⟩:=ho rows L.rok
 have es:Sp.map mw=(Sp.map kN).map ag:=by rw [List.map_map];rfl
 obtain⟨ks,vs,s3,e,h⟩:=mh F hs L (sl:=sl) V (Sp.map kN) [] [] .no (fun u hu=>(mR hm u).1 hu) rfl (by rw [List.length_map,List.length_nil];omega)
 refine⟨ks,vs,?_,fun u hu=>h u (.inl ((mR hm u).2 hu))⟩
 simp only [HW,af,aa,ae,ai,aK,ay,ak,aP,aO,av,ax,aw,Nat.reduceAdd,Nat.reduceSub,reduceIte,J,J2] at e;simp only [cF,af,aa,ae,ai,aK,ay,ak,aP,aO,av,ax,aw,Nat.reduceAdd,Nat.reduceSub,reduceIte,J,J2,e1,es,e,yt]
end K31
namespace K31
open PySem L2 Ci KJ
theorem JG{ks:Ks}{vs:List PV}{k:List Int}{q:PV}(h:aC ks vs k=some q):aQ (.dct ks vs) (ag k)=.ok q:=by
 show(Res.of (gb (ag k))).bind (fun kk=>Res.of (aC ks vs kk))=_
 rw [dn];show Res.of (aC ks vs k)=_
 rw [h]
 rfl
structure Iv(E:List Int→List Int→Int→Prop)(s:List Int)(P:List Int→Prop)(n:Nat)(kr wt:Ks):Prop where
 nd:kr.Nodup
 sub:∀x∈kr,RR E s x
 wk:∀x∈wt,x∈kr
 st:s∈kr
 clo:∀x∈kr,x∈wt∨P x∨∀v e,E x v e→v∈kr
 b1:wt.length+kW n0 kr≤n
 b2:kr.length+kW n0 kr≤36
 bn:n≤100
theorem Iv.put{E:List Int→List Int→Int→Prop}{s:List Int}{P:List Int→Prop}{n:Nat}{kr wt:Ks}(I:Iv E s P n kr wt){v:List Int}(hv:RR E s v)(hu:v∈n0)(hn:bV kr v=false):Iv E s P n (aU kr v) (wt++[v]):=by
 have l:=iV hu hn
 have g:=fy kr v
 have b1:=I.b1
 have b2:=I.b2
 refine⟨fh I.nd v,fun x hx=>((dN ..).1 hx).elim (I.sub x) fun z=>z▸hv,fun x hx=>(dN ..).2 ((List.mem_append.1 hx).elim (fun z=>.inl (I.wk x z)) fun z=>.inr (List.mem_singleton.1 z)),(dN ..).2 (.inl I.st),fun x hx=>?_,?_,?_,I.bn⟩
 ·rcases(dN ..).1 hx with z|z
  ·rcases I.clo x z with y|y|y
   ·exact .inl (List.mem_append_left _ y)
   ·exact .inr (.inl y)
   ·exact .inr (.inr fun v' e he=>(dN ..).2 (.inl (y v' e he)))
  ·exact .inl (List.mem_append_right _ (List.mem_singleton.2 z))
 ·rw [List.length_append,List.length_singleton];omega
 ·omega
noncomputable def yz:Ss:=(.cons (.ite (.and (.cmp .nin (.var 6) (.tmp 3)) (.not (.call "needs_open" (.cons (.var 5) (.cons (.var 6) (.cons (.var 2) .nil))))))
 (.cons (.put 3 (.var 6) (.cst (.bl true)))
 (.cons (.app 4 (.var 6))
 .nil))
 .nil)
 .nil)
abbrev oD(A B:PV)(w:List Int)(kr:Ks)(vr:List PV)(wt:Ks)(s5 s6:Ci.Slot):Sl:=[.val A,.val B,.val (ag w),.own (.dct kr vr),.own (lp wt),s5,s6]
theorem xB(F:aS)(hn:iN F){rows:List Str}{w:Nat}(L:Fl rows w){sl:Bool}{cl pr:Int}{A B:PV}{s z u:List Int}{P:List Int→Prop}{n:Nat}(hu:RR (Ew rows sl cl pr z) s u):∀(T kr wt:Ks) (vr:List PV) (s6:Ci.Slot),(∀v∈T,∃e,E1 rows sl cl pr u v e)→Iv (Ew rows sl cl pr z) s P n kr wt→
 ∃eL yw vo iD,forL (fun x env=>((Tg.one 6).put x env).bind fun az=>ai F yz az) (T.map ag) (oD A B z kr vr wt (.val (ag u)) s6)=.ok (.nx (oD A B z eL vo yw (.val (ag u)) iD))∧Iv (Ew rows sl cl pr z) s P n eL yw∧(∀x∈kr,x∈eL)∧∀v∈T,yf u v z=false→v∈eL
 |[],kr,wt,vr,s6,_,I=>⟨kr,wt,vr,s6,rfl,I,fun _ h=>h,fun v hv=>by cases hv⟩
 |v::T,kr,wt,vr,s6,hT,I=>by
  obtain⟨e,he⟩:=hT v (List.mem_cons_self ..)
  have hq:F "needs_open" [ag u,ag v,ag z]=.ok (.bl (yf u v z)):=by
   obtain⟨r,c,r',c',rfl,rfl,_⟩:=he
   exact hn r c r' c' z
  have nd:eE (ag v) (.dct kr vr)=.ok (.bl (!bV kr v)):=uk
  by_cases hc:bV kr v=false∧yf u v z=false
  ·have hv:RR (Ew rows sl cl pr z) s v:=by
    obtain⟨c,h⟩:=hu
    exact⟨_,.go h ⟨he,hc.2⟩⟩
   have hU:v∈n0:=by
    obtain⟨_,_,r',c',_,h2,_,h4,_⟩:=he
    exact De L ⟨r',c',h2,h4⟩
   have I':=I.put hv hU hc.1
   obtain⟨eL,yw,vo,iD,e2,J1,J2',J3⟩:=xB F hn L (A:=A) (B:=B) hu T (aU kr v) (wt++[v]) (bg kr vr v (.bl true)) (.val (ag v)) (fun x hx=>hT x (List.mem_cons_of_mem _ hx)) I'
   refine⟨eL,yw,vo,iD,?_,J1,fun x hx=>J2' x ((dN ..).2 (.inl hx)),fun x hx hd=>?_⟩
   ·rw [hc.1] at nd;rw [hc.2] at hq;have lk:kr.length<dg:=Nat.lt_of_le_of_lt (m:=100) (by have:=I.b2;omega) (by decide)
    have lw:wt.length<dg:=Nat.lt_of_le_of_lt (m:=100) (by have:=I.b1;have:=I.bn;omega) (by decide)
    have eb:(((Tg.one 6).put (ag v) (oD A B z kr vr wt (.val (ag u)) s6)).bind fun az=>ai F yz az)=.ok (.nx (oD A B z (aU kr v) (bg kr vr v (.bl true)) (wt++[v]) (.val (ag u)) (.val (ag v)))):=by simp only [oD,lp,yz,af,aa,ae,ai,aK,ay,ak,aP,aO,av,ax,aw,Nat.reduceAdd,Nat.reduceSub,reduceIte,J,J2,nd,hq,dn,lk,lw,List.length_map,List.map_append,List.map_cons,List.map_nil]
    rw [List.map_cons,forL,eb,kI];exact e2
   ·rcases List.mem_cons.1 hx with y|y
    ·exact J2' x ((dN ..).2 (.inr y))
    ·exact J3 x y hd
  ·obtain⟨eL,yw,vo,iD,e2,J1,J2',J3⟩:=xB F hn L (A:=A) (B:=B) hu T kr wt vr (.val (ag v)) (fun x hx=>hT x (List.mem_cons_of_mem _ hx)) I
   refine⟨eL,yw,vo,iD,?_,J1,J2',fun x hx hd=>?_⟩
   ·have eb:(((Tg.one 6).put (ag v) (oD A B z kr vr wt (.val (ag u)) s6)).bind fun az=>ai F yz az)=.ok (.nx (oD A B z kr vr wt (.val (ag u)) (.val (ag v)))):=by
     cases h1:bV kr v with
     |true=>
      rw [h1] at nd;simp only [oD,yz,af,aa,ae,ai,aK,ay,ak,aP,aO,av,ax,aw,Nat.reduceAdd,Nat.reduceSub,reduceIte,J,J2,nd]
     |false=>
      have h2:yf u v z=true:=by
       cases h2:yf u v z with
       |true=>rfl
       |false=>exact absurd ⟨h1,h2⟩ hc
      rw [h1] at nd;rw [h2] at hq;simp only [oD,yz,af,aa,ae,ai,aK,ay,ak,aP,aO,av,ax,aw,Nat.reduceAdd,Nat.reduceSub,reduceIte,J,J2,nd,hq]
    rw [List.map_cons,forL,eb,kI];exact e2
   ·rcases List.mem_cons.1 hx with y|y
    ·subst y;refine J2' x (cK.1 ?_);cases h1:bV kr x with
     |true=>rfl
     |false=>exact absurd ⟨h1,hd⟩ hc
    ·exact J3 x y hd
def DO:E:=(.cmp .gt (.blt .len (.cons (.tmp 4) .nil)) (.cst (.int 0)))
noncomputable def ER:Ss:=(.cons (.pop 5 4)
 (.cons (.for_ (.one 6) (.seq (.sub (.var 0) (.var 5))) yz)
 .nil))
theorem EE(F:aS){a b c d s5 s6:Ci.Slot}{wt:Ks}{u:List Int}:aK F (.pop 5 4) [a,b,c,d,.own (lp (wt++[u])),s5,s6]=.ok (.nx [a,b,c,d,.own (lp wt),.val (ag u),s6]):=by
 rw [aK];show((Res.of (((wt++[u]).map ag)[((wt++[u]).map ag).length-1]?)).bind fun p=>Res.ok (Ci.Fl.nx [a,b,c,d,.own (.lst ((wt++[u]).map ag).dropLast),.val p,s6]))=_
 rw [List.map_append,List.map_cons,List.map_nil,List.dropLast_concat,show((wt.map ag++[ag u])[(wt.map ag++[ag u]).length-1]?)=some (ag u) from by simp]
 rfl
theorem sf(F:aS){E:List Int→List Int→Int→Prop}{A B:PV}{s z:List Int}{kr:Ks}{vr:List PV}{s5 s6:Ci.Slot}{n m:Nat}(I:Iv E s (fun _=>False) n kr []):
 ∃eL vo s4 wK iD,bO (ay F DO) (ai F ER) (m+1) (oD A B z kr vr [] s5 s6)=.ok (.nx [.val A,.val B,.val (ag z),.own (.dct eL vo),s4,wK,iD])∧eL.Nodup∧∀x,x∈eL↔RR E s x:=by
 have ec:ay F DO (oD A B z kr vr [] s5 s6)=.ok (.bl false):=by rfl
 refine⟨kr,vr,.own (lp []),s5,s6,?_,I.nd,fun x=>⟨I.sub x,Bp I.st fun y hy v e he=>?_⟩⟩
 ·rw [bO,ec]
  rfl
 ·rcases I.clo y hy with q|q|q
  ·cases q
  ·exact q.elim
  ·exact q v e he
theorem zr(F:aS)(hn:iN F){rows:List Str}{w:Nat}(L:Fl rows w){sl:Bool}{cl pr:Int}{ks:Ks}{vs:List PV}(hG:∀u,fO rows u→Gd (E1 rows sl cl pr) ks vs u){B:PV}{s z:List Int}(hs:fO rows s):∀(n m:Nat) (kr wt:Ks) (vr:List PV) (s5 s6:Ci.Slot),n≤m→Iv (Ew rows sl cl pr z) s (fun _=>False) n kr wt→
 ∃eL vo s4 wK iD,bO (ay F DO) (ai F ER) (m+1) (oD (.dct ks vs) B z kr vr wt s5 s6)=.ok (.nx [.val (.dct ks vs),.val B,.val (ag z),.own (.dct eL vo),s4,wK,iD])∧eL.Nodup∧∀x,x∈eL↔RR (Ew rows sl cl pr z) s x:=by
 intro n
 induction n with
 |zero=>
  intro m kr wt vr s5 s6 hm I;have hw:wt=[]:=by
   have:=I.b1
   exact List.eq_nil_of_length_eq_zero (by omega)
  subst hw;exact sf F I
 |succ n ih=>
  intro m kr wt vr s5 s6 hm I
  by_cases hw:wt=[]
  ·subst hw;exact sf F I
  ·obtain⟨wt,u,rfl⟩:∃a b,wt=a++[b]:=⟨_,_,(List.dropLast_concat_getLast hw).symm⟩
   obtain⟨m,rfl⟩:∃k,m=k+1:=⟨m-1,by omega⟩
   have ec:ay F DO (oD (.dct ks vs) B z kr vr (wt++[u]) s5 s6)=.ok (.bl (decide ((0:Int)<(wt++[u]).length))):=by simp only [DO,oD,af,aa,ae,ai,aK,ay,ak,aP,aO,av,ax,aw,Nat.reduceAdd,Nat.reduceSub,reduceIte,J,J2,List.length_map]
   have hu:=I.sub u (I.wk u (by simp))
   have hE:RR (E1 rows sl cl pr) s u:=hu.of fun _ _ e h=>⟨e,h.1⟩
   obtain⟨T,q1,q2⟩:=hG u (room_in L hs hE)
   have I1:Iv (Ew rows sl cl pr z) s (fun x=>x=u) n kr wt:=by
    refine⟨I.nd,I.sub,fun x hx=>I.wk x (List.mem_append_left _ hx),I.st,fun x hx=>?_,?_,I.b2,by have:=I.bn;omega⟩
    ·rcases I.clo x hx with y|y|y
     ·exact(List.mem_append.1 y).elim .inl fun y=>.inr (.inl (List.mem_singleton.1 y))
     ·exact y.elim
     ·exact .inr (.inr y)
    ·have:=I.b1
     rw [List.length_append,List.length_singleton] at this;omega
   obtain⟨eL,yw,vo,iD,e2,J1,J2',J3⟩:=xB F hn L (A:=.dct ks vs) (B:=B) hu T kr wt vr s6 (fun v hv=>(q2 v).1 hv) I1
   have I2:Iv (Ew rows sl cl pr z) s (fun _=>False) n eL yw:=⟨J1.nd,J1.sub,J1.wk,J1.st,fun x hx=>by
    rcases J1.clo x hx with y|y|y
    ·exact .inl y
    ·exact .inr (.inr fun v e he=>by
      rw [y] at he;exact J3 v ((q2 v).2 ⟨e,he.1⟩) he.2)
    ·exact .inr (.inr y),J1.b1,J1.b2,J1.bn⟩
   obtain⟨kr2,vr2,s4,wK,s6'',e3,r1,r2⟩:=ih m eL yw vo (.val (ag u)) iD (by omega) I2
   refine⟨kr2,vr2,s4,wK,s6'',?_,r1,r2⟩;rw [decide_eq_true (by simp only [List.length_append,List.length_singleton];omega)] at ec;have es:=JG q1
   have eb:ai F ER (oD (.dct ks vs) B z kr vr (wt++[u]) s5 s6)=.ok (.nx (oD (.dct ks vs) B z eL vo yw (.val (ag u)) iD)):=by
    have F4:=e2
    simp only [oD,yz,af,aa,ae,ai,aK,ay,ak,aP,aO,av,ax,aw,Nat.reduceAdd,Nat.reduceSub,reduceIte,J,J2] at F4;rw [ER,ai,EE];simp only [oD,yz,af,aa,ae,ai,aK,ay,ak,aP,aO,av,ax,aw,Nat.reduceAdd,Nat.reduceSub,reduceIte,J,J2,es,F4]
   rw [bO,ec];simp only [kI,EO,if_true,eb,e3]
def oj(F:aS):Prop:=∀rows w,Fl rows w→∀sl cl pr,∀ks vs,(∀u,fO rows u→Gd (E1 rows sl cl pr) ks vs u)→∀s z,fO rows s→∃kr vr,F "reached_past" [.dct ks vs,ag s,ag z]=.ok (.dct kr vr)∧kr.Nodup∧∀x,x∈kr↔RR (Ew rows sl cl pr z) s x
theorem xl(F:aS)(hn:iN F):∀rows w,Fl rows w→∀sl cl pr,∀ks vs,(∀u,fO rows u→Gd (E1 rows sl cl pr) ks vs u)→∀s z,fO rows s→∃kr vr,af F bM [.dct ks vs,ag s,ag z]=.ok (.dct kr vr)∧kr.Nodup∧∀x,x∈kr↔RR (Ew rows sl cl pr z) s x:=by
 intro rows w L sl cl pr ks vs hG s z hs;have la:=iV (U:=n0) (kr:=[]) (De L hs) rfl
 have l0:kW n0 []≤36:=by rw [←gL];exact List.length_filter_le ..
 have NR:kW n0 [s]<kW n0 []:=la
 obtain⟨kr,vr,s4,s5,s6,e,r1,r2⟩:=zr F hn L hG (B:=ag s) (z:=z) hs 36 (WN-1) [s] [s] [.bl true] .no .no (by decide) ⟨by simp,fun x hx=>by rw [List.mem_singleton.1 hx];exact gk ..,fun x hx=>hx,by simp,fun x hx=>.inl hx,by rw [List.length_singleton];omega,by rw [List.length_singleton];omega,by decide⟩
 refine⟨kr,vr,?_,r1,r2⟩;have e':bO (ay F DO) (ai F ER) WN [.val (.dct ks vs),.val (ag s),.val (ag z),.own (.dct [s] [.bl true]),.own (.lst [ag s]),.no,.no]=_:=e
 simp only [DO,ER,yz,af,aa,ae,ai,aK,ay,ak,aP,aO,av,ax,aw,Nat.reduceAdd,Nat.reduceSub,reduceIte,J,J2] at e';simp only [bM,af,aa,ae,ai,aK,ay,ak,aP,aO,av,ax,aw,Nat.reduceAdd,Nat.reduceSub,reduceIte,J,J2,dn,e',yt]
end K31
namespace K31
open PySem L2 Ci KJ
theorem Mn(u:List Int)(t:Ks):aQ (lp (u::t)) (.int 0)=.ok (ag u):=by
 have:=g9 (xs:=(u::t).map ag) (k:=0) (by simp)
 show Res.of (oE ((u::t).map ag) ((0:Nat):Int))=_
 rw [this]
 rfl
theorem d5{α:Type}{f:PV→Res (Option PV)}{p:α→PV}{b:α→Bool}:∀{xs:List α},(∀x∈xs,f (p x)=.ok (if b x then some (p x) else none))→aX f (xs.map p)=.ok ((xs.filter b).map p)
 |[],_=>rfl
 |x::xs,h=>by
  simp only [List.map_cons,aX,h x (List.mem_cons_self ..),ET,kI,d5 (xs:=xs) fun y hy=>h y (List.mem_cons_of_mem _ hy),List.filter_cons]
  cases b x<;>rfl
theorem Mw(a b:List Int):gR (ag a) (ag b)=.ok (.bl (!decide (a=b))):=by
 show(if Ci.pln (ag a)&&Ci.pln (ag b) then Res.ok (PV.bl (!eqv (ag a) (ag b))) else .bad)=_
 rw [show Ci.pln (ag a)=true from jz _ a,show Ci.pln (ag b)=true from jz _ b,show eqv (ag a) (ag b)=decide (a=b) from nv _ a b]
 rfl
section
variable{rows:List Str}{w:Nat}{sl:Bool}{cl pr:Int}
def D6(E:List Int→List Int→Int→Prop)(z:List Int)(m:Ks):Prop:=∃x∈m,∃y∈m,x≠z∧y≠z∧¬RR E x y
open Classical in
noncomputable def nB(rows:List Str)(sl:Bool)(cl pr:Int)(z:List Int)(m:Ks):Bool:=decide (D6 (Ew rows sl cl pr z) z m)
theorem rG{z:List Int}{m:Ks}:nB rows sl cl pr z m=true↔D6 (Ew rows sl cl pr z) z m:=by
 unfold nB;exact @decide_eq_true_iff _ (Classical.propDecidable _)
abbrev nE(z:List Int)(m:Ks):Ks:=m.filter fun x=>!decide (x=z)
theorem ez{z x:List Int}{m:Ks}:x∈nE z m↔x∈m∧x≠z:=by
 rw [List.mem_filter];simp
theorem sU{z o:List Int}{m:Ks}(h:o∈nE z m):D6 (Ew rows sl cl pr z) z m↔∃x∈nE z m,¬RR (Ew rows sl cl pr z) o x:=by
 have ho:=ez.1 h
 constructor
 ·rintro ⟨x,hx,y,hy,h1,h2,h3⟩
  refine Classical.byContradiction fun hc=>h3 ?_
  have k:∀a,a∈m→a≠z→RR (Ew rows sl cl pr z) o a:=fun a ha hz=>Classical.byContradiction fun q=>hc ⟨a,ez.2 ⟨ha,hz⟩,q⟩
  exact((k x hx h1).symm fun _ _ _ he=>AK he).trans (k y hy h2)
 ·rintro ⟨x,hx,hn⟩
  have hx:=ez.1 hx
  exact⟨o,ho.1,x,hx.1,ho.2,hx.2,hn⟩
theorem v8{z:List Int}{m:Ks}(h:nE z m=[]):nB rows sl cl pr z m=false:=by
 cases q:nB rows sl cl pr z m with
 |false=>rfl
 |true=>
  obtain⟨x,hx,_,_,h1,_⟩:=rG.1 q
  have:=ez.2 ⟨hx,h1⟩
  rw [h] at this;cases this
theorem DK{z o x:List Int}(ho:o≠z)(h:RR (Ew rows sl cl pr z) o x):x≠z:=by
 obtain⟨c,h⟩:=h
 cases h with
 |here=>exact ho
 |go _ he=>
  obtain⟨⟨r,c,r',c',rfl,rfl,_⟩,hn⟩:=he
  exact(gu.1 hn).2.1.symm
theorem sub_lt{A B:Ks}(hA:A.Nodup)(hB:B.Nodup)(h:∀x∈A,x∈B):A.length<B.length↔∃x∈B,x∉A:=by
 have p:A.Perm (B.filter fun x=>decide (x∈A)):=(List.perm_ext_iff_of_nodup hA (hB.filter _)).2 fun x=>by
  rw [List.mem_filter,decide_eq_true_eq];exact⟨fun z=>⟨h x z,z⟩,fun z=>z.2⟩
 rw [p.length_eq,List.length_filter_lt_length_iff_exists];simp
theorem pQ{F:aS}{z:List Int}{m:Ks}:aX (fun x=>((Tg.one 0).put x [Ci.Slot.no,.val (ag z)]).bind fun az=>(ay F (.cmp .ne (.var 0) (.var 1)) az).bind fun t=>qp t fun t=>if t then(ay F (.var 0) az).bind fun y=>.ok (some y) else .ok none) (m.map ag)=.ok ((nE z m).map ag):=
 d5 fun x _=>by
  have:=Mw x z
  simp only [af,aa,ae,ai,aK,ay,ak,aP,aO,av,ax,aw,Nat.reduceAdd,Nat.reduceSub,reduceIte,J,J2,this];cases(!decide (x=z))<;>rfl
theorem u0(F:aS)(hr:oj F)(L:Fl rows w){ks:Ks}{vs:List PV}(hG:∀u,fO rows u→Gd (E1 rows sl cl pr) ks vs u){m:Ks}{z u:List Int}(hu:fO rows u)(hm:d8 (E1 rows sl cl pr) u m):af F cA [.dct ks vs,lp m,ag z]=.ok (.bl (nB rows sl cl pr z m)):=by
 have lm:m.length<dg:=Nat.lt_of_le_of_lt (eQ L hu hm) (by decide)
 have ec:=pQ (F:=F) (z:=z) (m:=m)
 simp only [af,aa,ae,ai,aK,ay,ak,aP,aO,av,ax,aw,Nat.reduceAdd,Nat.reduceSub,reduceIte,J,J2] at ec;cases hq:nE z m with
 |nil=>
  rw [v8 hq];rw [hq] at ec;simp only [cA,af,aa,ae,ai,aK,ay,ak,aP,aO,av,ax,aw,Nat.reduceAdd,Nat.reduceSub,reduceIte,J,J2,List.length_map,lm,ec]
  rfl
 |cons o t=>
  have ho:o∈nE z m:=by rw [hq];exact List.mem_cons_self ..
  have EW:=ez.1 ho
  obtain⟨kr,vr,e1,nd,hk⟩:=hr rows w L sl cl pr ks vs hG o z (room_in L hu ((hm.2 o).1 EW.1))
  have e2:aQ (lp (nE z m)) (.int 0)=.ok (ag o):=by rw [hq];exact Mn o t
  have e3:decide ((0:Int)<((nE z m).length:Int))=true:=decide_eq_true (by rw [hq,List.length_cons];omega)
  have e4:decide ((kr.length:Int)<((nE z m).length:Int))=nB rows sl cl pr z m:=by
   rw [Bool.eq_iff_iff,rG,sU ho,decide_eq_true_eq,Int.ofNat_lt,sub_lt nd (hm.1.nodup.filter _) fun x hx=>by
    have:=(hk x).1 hx
    exact ez.2 ⟨(hm.2 x).2 (((hm.2 o).1 EW.1).trans (this.of fun _ _ e h=>⟨e,h.1⟩)),DK EW.2 this⟩]
   constructor
   ·rintro ⟨x,h1,h2⟩
    exact⟨x,h1,fun q=>h2 ((hk x).2 q)⟩
   ·rintro ⟨x,h1,h2⟩
    exact⟨x,h1,fun q=>h2 ((hk x).1 q)⟩
  simp only [cA,af,aa,ae,ai,aK,ay,ak,aP,aO,av,ax,aw,Nat.reduceAdd,Nat.reduceSub,reduceIte,J,J2,List.length_map,lm,ec,e1,e2,e3,Hk,e4]
def pU(F:aS):Prop:=∀rows w,Fl rows w→∀sl cl pr ks vs,(∀u,fO rows u→Gd (E1 rows sl cl pr) ks vs u)→∀m z u,fO rows u→d8 (E1 rows sl cl pr) u m→F "is_narrow" [.dct ks vs,lp m,ag z]=.ok (.bl (nB rows sl cl pr z m))
theorem rY:∀N:List Ks,(∀m∈N,m.Nodup)→(N.Pairwise fun m m'=>∀v,v∈m→v∉m')→N.flatten.Nodup
 |[],_,_=>List.nodup_nil
 |m::N,h,p=>by
  have p:=List.pairwise_cons.1 p
  rw [List.flatten_cons];refine List.nodup_append.2 ⟨h m (List.mem_cons_self ..),rY N (fun x hx=>h x (List.mem_cons_of_mem _ hx)) p.2,fun a ha b hb vw=>?_⟩
  obtain⟨m',h1,h2⟩:=List.mem_flatten.1 hb
  exact p.1 m' h1 a ha (vw▸h2)
theorem FP(L:Fl rows w){N:Ks}(nd:N.Nodup)(h:∀v∈N,fO rows v):N.length≤36:=by
 have a:=iR (U:=n0) N [] nd fun x hx=>⟨by simp,De L (h x hx)⟩
 have l0:kW n0 []≤36:=by rw [←gL];exact List.length_filter_le ..
 simp only [List.nil_append,List.length_nil,Nat.zero_add] at a;omega
def II:Ss:=(.cons (.extd 3 (.compIf 1 [4,2] (.one 0) (.seq (.var 4)) (.call "is_narrow" (.cons (.var 2) (.cons (.var 1) (.cons (.var 0) .nil)))) (.var 0)))
 .nil)
def Cj(F:aS):Prop:=∀rows w,Fl rows w→∀sl cl pr,Wk cl pr→∀K,mJ K→(∀v,v∈K↔fO rows v)→∃S,F "narrow_spots" [fl rows,wk sl cl pr]=.ok (lp S)∧mJ S∧(∀v∈S,v∈K)∧∀v∈K,∀m,d8 (E1 rows sl cl pr) v m→decide (v∈S)=nB rows sl cl pr v m
theorem Fo(F:aS)(ND:qy F)(Md:om F)(M5:pU F):∀rows w,Fl rows w→∀sl cl pr,Wk cl pr→∀K,mJ K→(∀v,v∈K↔fO rows v)→∃S,af F bQ [fl rows,wk sl cl pr]=.ok (lp S)∧mJ S∧(∀v∈S,v∈K)∧∀v∈K,∀m,d8 (E1 rows sl cl pr) v m→decide (v∈S)=nB rows sl cl pr v m:=by
 intro rows w L sl cl pr V K hK hO;obtain⟨ks,vs,e1,hG⟩:=ND rows w L sl cl pr V
 obtain⟨M,e2,R⟩:=Md rows w L sl cl pr V K hK hO
 have Gi:K.length≤36:=FP L hK.nodup fun v hv=>(hO v).1 hv
 have sy:∀{a b:List Int},RR (E1 rows sl cl pr) a b→RR (E1 rows sl cl pr) b a:=fun h=>h.symm fun _ _ _ he=>qC he
 let fm:Ks→Ks:=fun m=>m.filter fun v=>nB rows sl cl pr v m
 have Gf:∀m∈M,∃u,fO rows u∧d8 (E1 rows sl cl pr) u m:=fun m hm=>by
  obtain⟨u,h1,h2⟩:=R.rm m hm
  exact⟨u,(hO u).1 h1,h2⟩
 have Lk:∀m∈M,((fm m).map ag).length≤36:=fun m hm=>by
  obtain⟨u,h1,h2⟩:=Gf m hm
  rw [List.length_map];exact Nat.le_trans (List.length_filter_le ..) (eQ L h1 h2)
 obtain⟨s,e3⟩:=d6 (body:=fun x env=>((Tg.one 4).put x env).bind fun az=>ai F II az) (g:=lp) (mk:=fun acc (s:Ci.Slot)=>[.val (fl rows),.val (wk sl cl pr),.val (.dct ks vs),.own (.lst acc),s]) (app:=fun m=>(fm m).map ag) (m:=36) (M:=2000) M [] .no Lk (fun m hm acc s ha=>by
  obtain⟨u,h1,h2⟩:=Gf m hm
  have lm:m.length<dg:=Nat.lt_of_le_of_lt (eQ L h1 h2) (by decide)
  have la:acc.length+(fm m).length≤dg:=by
   have:=Lk m hm
   rw [List.length_map] at this;exact Nat.le_trans (m:=2000) (by omega) (by decide)
  refine⟨.val (lp m),?_⟩;simp only [II,af,aa,ae,ai,aK,ay,ak,aP,aO,av,ax,aw,Nat.reduceAdd,Nat.reduceSub,reduceIte,J,J2,List.length_map,lm];rw [d5 (p:=ag) (b:=fun v=>nB rows sl cl pr v m) (fun v _=>by
   have q:=M5 rows w L sl cl pr ks vs hG m v u h1 h2
   simp only [af,aa,ae,ai,aK,ay,ak,aP,aO,av,ax,aw,Nat.reduceAdd,Nat.reduceSub,reduceIte,J,J2,q];cases nB rows sl cl pr v m<;>rfl)]
  simp only [af,aa,ae,ai,aK,ay,ak,aP,aO,av,ax,aw,Nat.reduceAdd,Nat.reduceSub,reduceIte,J,J2,List.length_map];rw [if_pos la]
  rfl) (by
  have:=R.len
  rw [List.length_nil];omega)
 have ef:(M.flatMap fun m=>(fm m).map ag)=(M.map fm).flatten.map ag:=by
  rw [List.map_flatten,List.map_map,List.flatMap_def]
  rfl
 have mN:∀v,v∈(M.map fm).flatten↔∃m∈M,v∈m∧nB rows sl cl pr v m=true:=fun v=>by
  rw [List.mem_flatten]
  constructor
  ·rintro ⟨x,hx,hv⟩
   obtain⟨m,hm,rfl⟩:=List.mem_map.1 hx
   exact⟨m,hm,(List.mem_filter.1 hv).1,(List.mem_filter.1 hv).2⟩
  ·rintro ⟨m,hm,h1,h2⟩
   exact⟨fm m,List.mem_map.2 ⟨m,hm,rfl⟩,List.mem_filter.2 ⟨h1,h2⟩⟩
 have oN:∀v∈(M.map fm).flatten,fO rows v:=fun v hv=>by
  obtain⟨m,hm,h1,_⟩:=(mN v).1 hv
  obtain⟨u,h2,h3⟩:=Gf m hm
  exact room_in L h2 ((h3.2 v).1 h1)
 have Lp:(M.map fm).flatten.Nodup:=rY _ (fun x hx=>by
  obtain⟨m,hm,rfl⟩:=List.mem_map.1 hx
  obtain⟨u,_,h3⟩:=Gf m hm
  exact h3.1.nodup.filter _) (List.pairwise_map.2 (R.dj.imp fun h v hv Mq=>h v (List.mem_filter.1 hv).1 (List.mem_filter.1 Mq).1))
 obtain⟨S,e4,hS,sS⟩:=lN Lp (by have:=FP L Lp oN;omega) (fun k hk=>by
  obtain⟨_,_,rfl,_⟩:=oN k hk
  simp)
 refine⟨S,?_,sS,fun v hv=>(hO v).2 (oN v ((hS v).1 hv)),fun v hv m hm=>?_⟩
 ·rw [List.nil_append,ef] at e3;simp only [II,af,aa,ae,ai,aK,ay,ak,aP,aO,av,ax,aw,Nat.reduceAdd,Nat.reduceSub,reduceIte,J,J2] at e3;simp only [bQ,af,aa,ae,ai,aK,ay,ak,aP,aO,av,ax,aw,Nat.reduceAdd,Nat.reduceSub,reduceIte,J,J2,e1,e2,uM,e3,e4]
 ·rw [Bool.eq_iff_iff,decide_eq_true_eq,hS,mN];have un:∀m'∈M,v∈m'→m'=m:=fun m' h1 h2=>by
   obtain⟨u,h3,h4⟩:=Gf m' h1
   refine iQ h4.1 hm.1 fun x=>(h4.2 x).trans (Iff.trans ⟨fun h=>?_,fun h=>?_⟩ (hm.2 x).symm)
   ·exact(sy ((h4.2 v).1 h2)).trans h
   ·exact((h4.2 v).1 h2).trans h
  constructor
  ·rintro ⟨m',h1,h2,h3⟩
   rw [←un m' h1 h2];exact h3
  ·intro h;obtain⟨m',h1,h2⟩:=R.cov v hv
   exact⟨m',h1,h2,by rw [un m' h1 h2];exact h⟩
end
end K31
namespace K31
open PySem L2 Ci KJ
theorem yT(xs:List PV)(x:PV):aQ (.lst (xs++[x])) (.int (-1))=.ok x:=by
 simp only [aQ,wL]
 rfl
section
variable{rows:List Str}{w:Nat}{sl:Bool}{cl pr:Int}
theorem wJ(F:aS)(BK:m7 F)(Iy:∀rows w,Fl rows w→∀i j:Nat,iX rows i j=true→F "_law_fenced" [fl rows,sp i j]=.ok (fl (bar rows i j)))(L:Fl rows w)(V:Wk cl pr){i j:Nat}(h:iX rows i j=true):∃m,d8 (E1 rows sl cl pr) (kN (i,j)) m∧af F bZ [fl rows,wk sl cl pr,sp i j]=.ok (.bl (nB rows sl cl pr (kN (i,j)) m)):=by
 have ho:bu rows i j=true:=dw.2 ⟨by omega,by omega,by simpa using h⟩
 obtain⟨m,e1,hm⟩:=BK rows w L sl cl pr V i j ho
 have hu:fO rows (kN (i,j)):=⟨_,_,rfl,ho⟩
 refine⟨m,hm,?_⟩;have lm:m.length<dg:=Nat.lt_of_le_of_lt (eQ L hu hm) (by decide)
 have ec:aX _ (m.map ag)=.ok ((nE (kN (i,j)) m).map ag):=pQ (F:=F) (z:=kN (i,j)) (m:=m)
 have ek:ag (kN (i,j))=sp i j:=rfl
 rw [ek] at ec;simp only [af,aa,ae,ai,aK,ay,ak,aP,aO,av,ax,aw,Nat.reduceAdd,Nat.reduceSub,reduceIte,J,J2] at ec;have e2:=Iy rows w L i j h
 have eN:fX (lp (nE (kN (i,j)) m)) (.lst [])=.ok (.bl (decide (nE (kN (i,j)) m=[]))):=KU _ []
 by_cases hq:nE (kN (i,j)) m=[]
 ·rw [decide_eq_true hq] at eN;rw [v8 hq];simp only [bZ,af,aa,ae,ai,aK,ay,ak,aP,aO,av,ax,aw,Nat.reduceAdd,Nat.reduceSub,reduceIte,J,J2,e1,List.length_map,lm,ec,e2,eN]
 ·rw [decide_eq_false hq] at eN;obtain⟨os,o,hos⟩:∃a b,nE (kN (i,j)) m=a++[b]:=⟨_,_,(List.dropLast_concat_getLast hq).symm⟩
  have Li:o∈nE (kN (i,j)) m:=by rw [hos];simp
  have EW:=ez.1 Li
  obtain⟨a,b,rfl,vw⟩:=room_in L hu ((hm.2 o).1 EW.1)
  have Kp:bu (bar rows i j) a b=true:=qb vw fun z=>EW.2 (by rw [z.1,z.2])
  obtain⟨S,e3,hS⟩:=BK (bar rows i j) w (Cf L i j) sl cl pr V a b Kp
  have e4:aQ (lp (nE (kN (i,j)) m)) (.int (-1))=.ok (sp a b):=by
   rw [hos,lp,List.map_append];exact yT _ _
  have lo:(nE (kN (i,j)) m).length<dg:=Nat.lt_of_le_of_lt (List.length_filter_le ..) lm
  have e5:gR (lp ((nE (kN (i,j)) m).filter fun x=>!decide (x∈S))) (.lst [])=.ok (.bl (nB rows sl cl pr (kN (i,j)) m)):=by
   refine(HL _ []).trans ?_
   congr 2
   rw [Bool.eq_iff_iff,rG,sU Li,Bool.not_eq_true',decide_eq_false_iff_not,List.filter_eq_nil_iff];have rr:∀x,x∈S↔RR (Ew rows sl cl pr (kN (i,j))) [a,b] x:=fun x=>(hS.2 x).trans ⟨fun q=>q.of fun _ _ e he=>⟨e,xK.1 he⟩,fun q=>q.of fun _ _ e he=>⟨e,xK.2 he⟩⟩
   constructor
   ·intro q;refine Classical.byContradiction fun q2=>q fun x hx=>?_
    have:x∈S:=(rr x).2 (Classical.byContradiction fun q3=>q2 ⟨x,hx,q3⟩)
    simp [this]
   ·rintro ⟨x,hx,hn⟩ q
    have:=q x hx
    simp only [Bool.not_eq_true',decide_eq_false_iff_not,Classical.not_not] at this;exact hn ((rr x).1 this)
  simp only [bZ,af,aa,ae,ai,aK,ay,ak,aP,aO,av,ax,aw,Nat.reduceAdd,Nat.reduceSub,reduceIte,J,J2,e1,List.length_map,lm,ec,e2,eN,MA,e4,e3,lo];rw [d5 (p:=ag) (b:=fun x=>!decide (x∈S)) (fun x _=>by
   have:=Cu x S
   simp only [af,aa,ae,ai,aK,ay,ak,aP,aO,av,ax,aw,Nat.reduceAdd,Nat.reduceSub,reduceIte,J,J2,this];cases(!decide (x∈S))<;>rfl)]
  simp only [af,aa,ae,ai,aK,ay,ak,aP,aO,av,ax,aw,Nat.reduceAdd,Nat.reduceSub,reduceIte,J,J2,e5]
end
theorem CA(F:aS)(zd:∀ns,∃rows w,Fl rows w∧F "_law_floor" [jr ns,.int 0,.int 5]=.ok (fl rows))(Mp:∀ns,∃sl cl pr,Wk cl pr∧F "_law_walker" [jr ns,.int 40]=.ok (wk sl cl pr))(BH:zJ F)(Fb:Cj F)
 (MJ:∀rows w,Fl rows w→∀sl cl pr,Wk cl pr→∀i j:Nat,iX rows i j=true→∃m,d8 (E1 rows sl cl pr) (kN (i,j)) m∧F "_law_parts" [fl rows,wk sl cl pr,sp i j]=.ok (.bl (nB rows sl cl pr (kN (i,j)) m))) (ns:List Int):af F d_law [jr ns]=.ok (.bl true):=by
 obtain⟨rows,w,L,e1⟩:=zd ns
 obtain⟨sl,cl,pr,V,e2⟩:=Mp ns
 obtain⟨Sp,e3,up,Gi,hm⟩:=BH rows L.rok
 obtain⟨S,e4,sS,h1,h2⟩:=Fb rows w L sl cl pr V (Sp.map kN) (yb up) (mR hm)
 have ll:Sp.length<dg:=Nat.lt_of_le_of_lt Gi (by decide)
 have es:(Sp.filter fun p=>decide (kN p∈S)).map kN=S:=by
  have:(Sp.filter fun p=>decide (kN p∈S)).map kN=(Sp.map kN).filter fun v=>decide (v∈S):=by rw [List.filter_map];rfl
  rw [this];exact iQ ((yb up).filter _) sS fun x=>by
   rw [List.mem_filter,decide_eq_true_eq];exact⟨fun z=>z.2,fun z=>⟨h1 x z,z⟩⟩
 have e5:fX (lp S) (.lst ((Sp.filter fun p=>decide (kN p∈S)).map mw))=.ok (.bl true):=by
  have:(Sp.filter fun p=>decide (kN p∈S)).map mw=S.map ag:=by rw [←es,List.map_map];rw [es];rfl
  rw [this];exact(KU S S).trans (by rw [decide_eq_true rfl])
 simp only [d_law,af,aa,ae,ai,aK,ay,ak,aP,aO,av,ax,aw,Nat.reduceAdd,Nat.reduceSub,reduceIte,J,J2,e1,e2,e3,e4,List.length_map,ll];rw [d5 (p:=mw) (b:=fun p=>decide (kN p∈S)) (fun p hp=>by
  obtain⟨m,q1,q2⟩:=MJ rows w L sl cl pr V p.1 p.2 ((hm p.1 p.2).1 hp)
  have q3:=h2 _ (List.mem_map.2 ⟨p,hp,rfl⟩) m q1
  rw [←q3] at q2;simp only [af,aa,ae,ai,aK,ay,ak,aP,aO,av,ax,aw,Nat.reduceAdd,Nat.reduceSub,reduceIte,J,J2,q2];show _=Res.ok (if decide (kN (p.1,p.2)∈S)=true then some (mw p) else none)
  cases(decide (kN (p.1,p.2)∈S))<;>rfl)]
 simp only [af,aa,ae,ai,aK,ay,ak,aP,aO,av,ax,aw,Nat.reduceAdd,Nat.reduceSub,reduceIte,J,J2,e5]
theorem FA(ns:List Int)(hl:ns.length≤63):af (den Dr) d_law [jr ns]=.ok (.bl true):=by
 have pick:∀F:aS,F "_law_pick"=af (den T1) bS→nA F:=fun F hF ns k q hk hq=>by
  rw [hF];exact Ai (den T1) (fun ns k hk=>by rw [HH];exact AM _ ns k hk) ns k q hk hq
 have xM:∀F:aS,F "is_open"=af (den T8) cD→rk F:=fun F hF rows R r c=>by
  rw [hF];exact zA _ (fun r c=>by rw [Hu];exact qR _ (fun i=>by rw [FV];exact oq _ i) r c) (fun rows R r c=>by rw [GZ];exact Gm _ rows R r c) rows R r c
 have wF:∀F:aS,F "need_open"=af (den T9) bD→rb F:=fun F hF rows R r c h=>by
  rw [hF];exact nj _ (xM _ FZ) rows R r c h
 have step:wa (den yV):=fun rows w L sl cl pr V r c r' c' h h'=>by
  rw [zH];exact Bi _ (fun r c r' c'=>by rw [zP];exact uB _ r c r' c') (fun rows R r c r' c'=>by rw [zO];exact qL _ (xM _ DI) R r c r' c') (fun rows w L r c h=>by rw [Bb];exact uS _ (wF _ zY) L h) L V h h'
 have L7:BI (den yV):=fun rows R r c a b d e=>by
  rw [A3];exact CO _ (xM _ Cg) R a b d e
 have steps:∀F:aS,F "steps_from"=af (den yV) bE→gD F:=fun F hF=>by
  unfold gD;rw [hF];exact vJ _ (wF _ yE) L7 step
 have over:qy (den Br):=by
  unfold qy;rw [zZ];exact AY _ (steps _ Bf) (fun rows R=>by rw [Eh];exact oM _ rows R)
 have Je:Dd (den Fx):=by
  unfold Dd;rw [yC];exact zx _ (steps _ AU)
 have F3:qG (den H8):=by
  unfold qG;rw [AB];exact zX _ (wF _ yQ) Je
 have room:ox (den GL):=by
  unfold ox;rw [Ac];exact zf _ F3
 have rooms:om (den Br):=by
  unfold om;rw [Ax];exact wH _ room (fun rows R=>by rw [DJ];exact oM _ rows R)
 have Ge:iN (den HN):=fun r c r' c' z=>by
  rw [A9];exact wG _ r c r' c' z
 have reach:oj (den HM):=by
  unfold oj;rw [AO];exact xl _ Ge
 have narrow:pU (den Br):=fun rows w L sl cl pr ks vs hG m z u hu hm=>by
  rw [AD];exact u0 _ reach L hG hu hm
 have LY:Cj (den Dr):=by
  unfold Cj;rw [As];exact Fo _ over rooms narrow
 have DC:gr (den Ib):=by
  unfold gr;rw [zo];exact uD _ (fun rows w L sl cl pr V r c r' c' h h' hf=>by rw [AX];exact qK _ L V h h' hf)
 have GQ:m7 (den GY):=by
  unfold m7;rw [z9];exact xw _ DC
 exact CA _ (fun ns=>by rw [D0];exact um _ (pick _ FW) ns 5 (by decide) (by decide)) (fun ns=>by rw [C0];exact uQ _ (pick _ FN) ns 40 (by decide)) (fun rows R=>by rw [Aq];exact vR _ rows R) LY
  (fun rows w L sl cl pr V i j h=>by rw [yR];exact wJ _ GQ (fun rows w L i j h=>by rw [zC];exact tW _ L h) L V h) ns
end K31
namespace Hd
open PySem PySem.W L2
noncomputable abbrev fo(n:Str)(st:Stmt)(pm:Value)(c:Addr):Obj:=⟨.type "function",none,.func (fnOf n n (defArgs st) (defBody st) (defScope st) .none .none .none pm none (.ref c) .none),#[]⟩
def dpos(s:Stmt):Pos:=match s with
 |.FunctionDef _ _ _ _ _ _ _ _ _ p=>p
 |_=>⟨0,0,0,0⟩
theorem ent{K:Frag}{ts:List (Addr×Str)}{n:Str}{st:Stmt}(f c:Addr)(pm:Value)(a:nsIn K mainGlobals n=some (some (.ref f)):=by kernel_rfl)(l:K.lookup f=some (fo n st pm c):=by kernel_rfl)(d:codeIn K (.ref c) n=true:=by kernel_rfl)(k:keepIn K (.ref f)=true:=by kernel_rfl):Ci.EntK K ts false n st:=Ci.entK a l d k
theorem entL{K:Frag}{ts:List (Addr×Str)}{n:Str}{st:Stmt}(f c p:Addr)(pm:Value)(ck:Ci.CodeK K c p)(m:(p,Ci.lamQ n)∈ts)(u:∀q∈ts,q.1=p→q.2=Ci.lamQ n)(a:nsIn K mainGlobals n=some (some (.ref f)):=by kernel_rfl)(l:K.lookup f=some (fo n st pm c):=by kernel_rfl)(d:codeIn K (.ref c) n=true:=by kernel_rfl)(k:keepIn K (.ref f)=true:=by kernel_rfl):Ci.EntK K ts true n st:=⟨f,_,_,_,_,_,_,_,_,_,a,l,d,k,fun _=>⟨c,p,rfl,ck,m,fun q' h=>u _ h rfl⟩⟩
theorem look_app{K L:Frag}{b:Addr}{o:Obj}(e:K.lookup b=some o):(K++L).lookup b=some o:=by
 rw [List.lookup_append,e]
 rfl
end Hd
namespace K31
open PySem L2 Ci
abbrev lw:=PySem.Challenge.rw_cellways_k31_whole_narrow
def top(i:Nat):Stmt:=PySem.Challenge.pw_cellways_k31_whole_narrow.main.body.getD i (.Pass ⟨0,0,0,0⟩)
noncomputable def K(P:Params):PySem.W.Frag:=[(2,{cls:=.none,data:=.dict #[]}),
 (3,{cls:=.type "dict",data:=.dict #[Hd.de P "__name__" 165 (.str "law_cellways_k31_whole_narrow" 434),Hd.de P "__doc__" 166 (.none),Hd.de P "__package__" 167 (.none),Hd.de P "__loader__" 168 (.builtin "__main__.__loader__#opaque"),Hd.de P "__spec__" 169 (.none),Hd.de P "__annotations__" 170 (.ref 6),Hd.de P "__builtins__" 171 (.ref 4),Hd.de P "__file__" 173 (.str "/claim/cut.py" 172),Hd.de P "__cached__" 174 (.none),Hd.de P "FloorError" 206 (.ref 24),Hd.de P "NoSpot" 222 (.ref 37),Hd.de P "WALL" 226 (.str "#" 225),Hd.de P "STRAIGHT_COST" 228 (.int 2 227),Hd.de P "SLANTING_COST" 230 (.int 3 229),Hd.de P "is_whole" 237 (.ref 46),Hd.de P "is_spot" 244 (.ref 53),Hd.de P "is_on_floor" 252 (.ref 60),Hd.de P "is_open" 260 (.ref 67),Hd.de P "need_open" 268 (.ref 74),Hd.de P "open_spots" 280 (.ref 81),Hd.de P "height_at" 288 (.ref 88),Hd.de P "open_spots_beside" 299 (.ref 95),Hd.de P "are_beside" 307 (.ref 102),Hd.de P "has_open_corners" 316 (.ref 109),Hd.de P "step_cost" 329 (.ref 116),Hd.de P "steps_from" 341 (.ref 123),Hd.de P "steps_over" 347 (.ref 128),Hd.de P "spread" 364 (.ref 135),Hd.de P "spread_from" 375 (.ref 142),Hd.de P "room_with" 386 (.ref 149),Hd.de P "rooms" 399 (.ref 156),Hd.de P "needs_open" 408 (.ref 163),Hd.de P "reached_past" 421 (.ref 170),Hd.de P "is_narrow" 427 (.ref 175),Hd.de P "narrow_spots" 433 (.ref 180),Hd.de P "_law_cell" 443 (.ref 187),Hd.de P "_law_pick" 453 (.ref 194),Hd.de P "_law_floor" 471 (.ref 201),Hd.de P "_law_walker" 479 (.ref 208),Hd.de P "_law_spots" 485 (.ref 213),Hd.de P "_law_cost" 497 (.ref 220),Hd.de P "_law_steps" 511 (.ref 227),Hd.de P "_law_room" 517 (.ref 232),Hd.de P "_law_fenced" 526 (.ref 239),Hd.de P "_law_parts" 532 (.ref 244),Hd.de P "law" 538 (.ref 249)] 46}),
 (4,{cls:=.type "module",dict:=some builtinsNs,data:=.plain}),
 (23,{cls:=.type "dict",data:=.dict #[Hd.de P "__module__" 196 (.str "cellways.errors" 187),Hd.de P "__firstlineno__" 200 (.int 2 199),Hd.de P "__static_attributes__" 201 (.ref 22),Hd.de P "__weakref__" 203 (.ref 25),Hd.de P "__doc__" 204 (.none)] 3}),
 (24,{cls:=.type "type",data:=.cls {name:="FloorError",bases:=[.type "ValueError"],mro:=[.ref 24,.type "ValueError",.type "Exception",.type "BaseException",.type "object"],ns:=23,qualname:="FloorError",subclasses:=[.ref 37]},slots:=#[some (.ref 15),none,some (.str "FloorError" 189),some (.str "FloorError" 197),some (.builtin "ValueError.__new__"),some (.bool Bool.true)]}),
 (36,{cls:=.type "dict",data:=.dict #[Hd.de P "__module__" 214 (.str "cellways.errors" 187),Hd.de P "__firstlineno__" 218 (.int 4 217),Hd.de P "__static_attributes__" 219 (.ref 35),Hd.de P "__doc__" 220 (.none)] 2}),
 (37,{cls:=.type "type",data:=.cls {name:="NoSpot",bases:=[.ref 24],mro:=[.ref 37,.ref 24,.type "ValueError",.type "Exception",.type "BaseException",.type "object"],ns:=36,qualname:="NoSpot"},slots:=#[some (.ref 28),none,some (.str "NoSpot" 207),some (.str "NoSpot" 215),some (.builtin "ValueError.__new__"),some (.bool Bool.true)]}),
 (45,{cls:=.type "code",data:=.fields #[.str "is_whole" 231,.str "is_whole" 232,.str "/claim/cut.py" 233,.int 10 0,.int 1 0,.int 0 0,.int 0 0,.int 3 0,.ref 40,.bool Bool.true,.int 181 0,.ref 41,.none,.ref 42,.ref 43,.ref 44,.int 235 0,.int 10 0,.str "/claim/cut.py" 236]}),
 (46,Hd.fo "is_whole" (top 7) (.str "cellways.floors" 223) 45),
 (52,{cls:=.type "code",data:=.fields #[.str "is_spot" 238,.str "is_spot" 239,.str "/claim/cut.py" 240,.int 12 0,.int 1 0,.int 0 0,.int 0 0,.int 3 0,.ref 47,.bool Bool.true,.int 181 0,.ref 48,.none,.ref 49,.ref 50,.ref 51,.int 242 0,.int 12 0,.str "/claim/cut.py" 243]}),
 (53,Hd.fo "is_spot" (top 8) (.str "cellways.floors" 223) 52),
 (59,{cls:=.type "code",data:=.fields #[.str "is_on_floor" 245,.str "is_on_floor" 246,.str "/claim/cut.py" 247,.int 14 0,.int 2 0,.int 0 0,.int 0 0,.int 3 0,.ref 54,.bool Bool.true,.int 181 0,.ref 55,.none,.ref 56,.ref 57,.ref 58,.int 250 0,.int 14 0,.str "/claim/cut.py" 251]}),
 (60,Hd.fo "is_on_floor" (top 9) (.str "cellways.floors" 223) 59),
 (66,{cls:=.type "code",data:=.fields #[.str "is_open" 253,.str "is_open" 254,.str "/claim/cut.py" 255,.int 16 0,.int 2 0,.int 0 0,.int 0 0,.int 3 0,.ref 61,.bool Bool.true,.int 181 0,.ref 62,.none,.ref 63,.ref 64,.ref 65,.int 258 0,.int 16 0,.str "/claim/cut.py" 259]}),
 (67,Hd.fo "is_open" (top 10) (.str "cellways.floors" 223) 66),
 (73,{cls:=.type "code",data:=.fields #[.str "need_open" 261,.str "need_open" 262,.str "/claim/cut.py" 263,.int 18 0,.int 2 0,.int 0 0,.int 0 0,.int 3 0,.ref 68,.bool Bool.true,.int 181 0,.ref 69,.none,.ref 70,.ref 71,.ref 72,.int 266 0,.int 18 0,.str "/claim/cut.py" 267]}),
 (74,Hd.fo "need_open" (top 11) (.str "cellways.floors" 223) 73),
 (80,{cls:=.type "code",data:=.fields #[.str "open_spots" 269,.str "open_spots" 270,.str "/claim/cut.py" 271,.int 21 0,.int 1 0,.int 0 0,.int 0 0,.int 3 0,.ref 75,.bool Bool.true,.int 181 0,.ref 76,.none,.ref 77,.ref 78,.ref 79,.int 278 0,.int 21 0,.str "/claim/cut.py" 279]}),
 (81,Hd.fo "open_spots" (top 12) (.str "cellways.floors" 223) 80),
 (87,{cls:=.type "code",data:=.fields #[.str "height_at" 281,.str "height_at" 282,.str "/claim/cut.py" 283,.int 28 0,.int 2 0,.int 0 0,.int 0 0,.int 3 0,.ref 82,.bool Bool.true,.int 181 0,.ref 83,.none,.ref 84,.ref 85,.ref 86,.int 286 0,.int 28 0,.str "/claim/cut.py" 287]}),
 (88,Hd.fo "height_at" (top 13) (.str "cellways.floors" 223) 87),
 (94,{cls:=.type "code",data:=.fields #[.str "open_spots_beside" 289,.str "open_spots_beside" 290,.str "/claim/cut.py" 291,.int 31 0,.int 2 0,.int 0 0,.int 0 0,.int 3 0,.ref 89,.bool Bool.true,.int 181 0,.ref 90,.none,.ref 91,.ref 92,.ref 93,.int 297 0,.int 31 0,.str "/claim/cut.py" 298]}),
 (95,Hd.fo "open_spots_beside" (top 14) (.str "cellways.floors" 223) 94),
 (101,{cls:=.type "code",data:=.fields #[.str "are_beside" 300,.str "are_beside" 301,.str "/claim/cut.py" 302,.int 38 0,.int 2 0,.int 0 0,.int 0 0,.int 3 0,.ref 96,.bool Bool.true,.int 181 0,.ref 97,.none,.ref 98,.ref 99,.ref 100,.int 305 0,.int 38 0,.str "/claim/cut.py" 306]}),
 (102,Hd.fo "are_beside" (top 15) (.str "cellways.floors" 223) 101),
 (108,{cls:=.type "code",data:=.fields #[.str "has_open_corners" 308,.str "has_open_corners" 309,.str "/claim/cut.py" 310,.int 40 0,.int 3 0,.int 0 0,.int 0 0,.int 3 0,.ref 103,.bool Bool.true,.int 181 0,.ref 104,.none,.ref 105,.ref 106,.ref 107,.int 314 0,.int 40 0,.str "/claim/cut.py" 315]}),
 (109,Hd.fo "has_open_corners" (top 16) (.str "cellways.floors" 223) 108),
 (115,{cls:=.type "code",data:=.fields #[.str "step_cost" 317,.str "step_cost" 318,.str "/claim/cut.py" 319,.int 42 0,.int 4 0,.int 0 0,.int 0 0,.int 3 0,.ref 110,.bool Bool.true,.int 181 0,.ref 111,.none,.ref 112,.ref 113,.ref 114,.int 327 0,.int 42 0,.str "/claim/cut.py" 328]}),
 (116,Hd.fo "step_cost" (top 17) (.str "cellways.floors" 223) 115),
 (122,{cls:=.type "code",data:=.fields #[.str "steps_from" 330,.str "steps_from" 331,.str "/claim/cut.py" 332,.int 53 0,.int 3 0,.int 0 0,.int 0 0,.int 3 0,.ref 117,.bool Bool.true,.int 181 0,.ref 118,.none,.ref 119,.ref 120,.ref 121,.int 339 0,.int 53 0,.str "/claim/cut.py" 340]}),
 (123,Hd.fo "steps_from" (top 18) (.str "cellways.floors" 223) 122),
 (127,{cls:=.type "code",data:=.fields #[.str "steps_over" 342,.str "steps_over" 343,.str "/claim/cut.py" 344,.int 61 0,.int 2 0,.int 0 0,.int 0 0,.int 3 0,.ref 124,.bool Bool.true,.int 181 0,.ref 125,.none,.none,.none,.ref 126,.int 345 0,.int 61 0,.str "/claim/cut.py" 346]}),
 (128,Hd.fo "steps_over" (top 19) (.str "cellways.floors" 223) 127),
 (134,{cls:=.type "code",data:=.fields #[.str "spread" 350,.str "spread" 351,.str "/claim/cut.py" 352,.int 67 0,.int 2 0,.int 0 0,.int 0 0,.int 3 0,.ref 129,.bool Bool.true,.int 181 0,.ref 130,.none,.ref 131,.ref 132,.ref 133,.int 362 0,.int 67 0,.str "/claim/cut.py" 363]}),
 (135,Hd.fo "spread" (top 21) (.str "cellways.ways" 348) 134),
 (141,{cls:=.type "code",data:=.fields #[.str "spread_from" 365,.str "spread_from" 366,.str "/claim/cut.py" 367,.int 80 0,.int 3 0,.int 0 0,.int 0 0,.int 3 0,.ref 136,.bool Bool.true,.int 181 0,.ref 137,.none,.ref 138,.ref 139,.ref 140,.int 373 0,.int 80 0,.str "/claim/cut.py" 374]}),
 (142,Hd.fo "spread_from" (top 22) (.str "cellways.ways" 348) 141),
 (148,{cls:=.type "code",data:=.fields #[.str "room_with" 378,.str "room_with" 379,.str "/claim/cut.py" 380,.int 84 0,.int 3 0,.int 0 0,.int 0 0,.int 3 0,.ref 143,.bool Bool.true,.int 181 0,.ref 144,.none,.ref 145,.ref 146,.ref 147,.int 384 0,.int 84 0,.str "/claim/cut.py" 385]}),
 (149,Hd.fo "room_with" (top 24) (.str "cellways.rooms" 376) 148),
 (155,{cls:=.type "code",data:=.fields #[.str "rooms" 387,.str "rooms" 388,.str "/claim/cut.py" 389,.int 86 0,.int 2 0,.int 0 0,.int 0 0,.int 3 0,.ref 150,.bool Bool.true,.int 181 0,.ref 151,.none,.ref 152,.ref 153,.ref 154,.int 397 0,.int 86 0,.str "/claim/cut.py" 398]}),
 (156,Hd.fo "rooms" (top 25) (.str "cellways.rooms" 376) 155),
 (162,{cls:=.type "code",data:=.fields #[.str "needs_open" 400,.str "needs_open" 401,.str "/claim/cut.py" 402,.int 96 0,.int 3 0,.int 0 0,.int 0 0,.int 3 0,.ref 157,.bool Bool.true,.int 181 0,.ref 158,.none,.ref 159,.ref 160,.ref 161,.int 406 0,.int 96 0,.str "/claim/cut.py" 407]}),
 (163,Hd.fo "needs_open" (top 26) (.str "cellways.rooms" 376) 162),
 (169,{cls:=.type "code",data:=.fields #[.str "reached_past" 409,.str "reached_past" 410,.str "/claim/cut.py" 411,.int 98 0,.int 3 0,.int 0 0,.int 0 0,.int 3 0,.ref 164,.bool Bool.true,.int 181 0,.ref 165,.none,.ref 166,.ref 167,.ref 168,.int 419 0,.int 98 0,.str "/claim/cut.py" 420]}),
 (170,Hd.fo "reached_past" (top 27) (.str "cellways.rooms" 376) 169),
 (174,{cls:=.type "code",data:=.fields #[.str "is_narrow" 422,.str "is_narrow" 423,.str "/claim/cut.py" 424,.int 108 0,.int 3 0,.int 0 0,.int 0 0,.int 3 0,.ref 171,.bool Bool.true,.int 181 0,.ref 172,.none,.none,.none,.ref 173,.int 425 0,.int 108 0,.str "/claim/cut.py" 426]}),
 (175,Hd.fo "is_narrow" (top 28) (.str "cellways.rooms" 376) 174),
 (179,{cls:=.type "code",data:=.fields #[.str "narrow_spots" 428,.str "narrow_spots" 429,.str "/claim/cut.py" 430,.int 111 0,.int 2 0,.int 0 0,.int 0 0,.int 3 0,.ref 176,.bool Bool.true,.int 181 0,.ref 177,.none,.none,.none,.ref 178,.int 431 0,.int 111 0,.str "/claim/cut.py" 432]}),
 (180,Hd.fo "narrow_spots" (top 29) (.str "cellways.rooms" 376) 179),
 (186,{cls:=.type "code",data:=.fields #[.str "_law_cell" 436,.str "_law_cell" 437,.str "/claim/cut.py" 438,.int 118 0,.int 2 0,.int 0 0,.int 0 0,.int 3 0,.ref 181,.bool Bool.true,.int 181 0,.ref 182,.none,.ref 183,.ref 184,.ref 185,.int 441 0,.int 118 0,.str "/claim/cut.py" 442]}),
 (187,Hd.fo "_law_cell" (top 31) (.str "law_cellways_k31_whole_narrow" 434) 186),
 (193,{cls:=.type "code",data:=.fields #[.str "_law_pick" 444,.str "_law_pick" 445,.str "/claim/cut.py" 446,.int 124 0,.int 3 0,.int 0 0,.int 0 0,.int 3 0,.ref 188,.bool Bool.true,.int 181 0,.ref 189,.none,.ref 190,.ref 191,.ref 192,.int 451 0,.int 124 0,.str "/claim/cut.py" 452]}),
 (194,Hd.fo "_law_pick" (top 32) (.str "law_cellways_k31_whole_narrow" 434) 193),
 (200,{cls:=.type "code",data:=.fields #[.str "_law_floor" 454,.str "_law_floor" 455,.str "/claim/cut.py" 456,.int 127 0,.int 3 0,.int 0 0,.int 0 0,.int 3 0,.ref 195,.bool Bool.true,.int 181 0,.ref 196,.none,.ref 197,.ref 198,.ref 199,.int 469 0,.int 127 0,.str "/claim/cut.py" 470]}),
 (201,Hd.fo "_law_floor" (top 33) (.str "law_cellways_k31_whole_narrow" 434) 200),
 (207,{cls:=.type "code",data:=.fields #[.str "_law_walker" 472,.str "_law_walker" 473,.str "/claim/cut.py" 474,.int 140 0,.int 2 0,.int 0 0,.int 0 0,.int 3 0,.ref 202,.bool Bool.true,.int 181 0,.ref 203,.none,.ref 204,.ref 205,.ref 206,.int 477 0,.int 140 0,.str "/claim/cut.py" 478]}),
 (208,Hd.fo "_law_walker" (top 34) (.str "law_cellways_k31_whole_narrow" 434) 207),
 (212,{cls:=.type "code",data:=.fields #[.str "_law_spots" 480,.str "_law_spots" 481,.str "/claim/cut.py" 482,.int 142 0,.int 1 0,.int 0 0,.int 0 0,.int 3 0,.ref 209,.bool Bool.true,.int 181 0,.ref 210,.none,.none,.none,.ref 211,.int 483 0,.int 142 0,.str "/claim/cut.py" 484]}),
 (213,Hd.fo "_law_spots" (top 35) (.str "law_cellways_k31_whole_narrow" 434) 212),
 (219,{cls:=.type "code",data:=.fields #[.str "_law_cost" 486,.str "_law_cost" 487,.str "/claim/cut.py" 488,.int 147 0,.int 4 0,.int 0 0,.int 0 0,.int 3 0,.ref 214,.bool Bool.true,.int 181 0,.ref 215,.none,.ref 216,.ref 217,.ref 218,.int 495 0,.int 147 0,.str "/claim/cut.py" 496]}),
 (220,Hd.fo "_law_cost" (top 36) (.str "law_cellways_k31_whole_narrow" 434) 219),
 (226,{cls:=.type "code",data:=.fields #[.str "_law_steps" 498,.str "_law_steps" 499,.str "/claim/cut.py" 500,.int 157 0,.int 3 0,.int 0 0,.int 0 0,.int 3 0,.ref 221,.bool Bool.true,.int 181 0,.ref 222,.none,.ref 223,.ref 224,.ref 225,.int 509 0,.int 157 0,.str "/claim/cut.py" 510]}),
 (227,Hd.fo "_law_steps" (top 37) (.str "law_cellways_k31_whole_narrow" 434) 226),
 (231,{cls:=.type "code",data:=.fields #[.str "_law_room" 512,.str "_law_room" 513,.str "/claim/cut.py" 514,.int 167 0,.int 3 0,.int 0 0,.int 0 0,.int 3 0,.ref 228,.bool Bool.true,.int 181 0,.ref 229,.none,.none,.none,.ref 230,.int 515 0,.int 167 0,.str "/claim/cut.py" 516]}),
 (232,Hd.fo "_law_room" (top 38) (.str "law_cellways_k31_whole_narrow" 434) 231),
 (238,{cls:=.type "code",data:=.fields #[.str "_law_fenced" 518,.str "_law_fenced" 519,.str "/claim/cut.py" 520,.int 174 0,.int 2 0,.int 0 0,.int 0 0,.int 3 0,.ref 233,.bool Bool.true,.int 181 0,.ref 234,.none,.ref 235,.ref 236,.ref 237,.int 524 0,.int 174 0,.str "/claim/cut.py" 525]}),
 (239,Hd.fo "_law_fenced" (top 39) (.str "law_cellways_k31_whole_narrow" 434) 238),
 (243,{cls:=.type "code",data:=.fields #[.str "_law_parts" 527,.str "_law_parts" 528,.str "/claim/cut.py" 529,.int 177 0,.int 3 0,.int 0 0,.int 0 0,.int 3 0,.ref 240,.bool Bool.true,.int 181 0,.ref 241,.none,.none,.none,.ref 242,.int 530 0,.int 177 0,.str "/claim/cut.py" 531]}),
 (244,Hd.fo "_law_parts" (top 40) (.str "law_cellways_k31_whole_narrow" 434) 243),
 (248,{cls:=.type "code",data:=.fields #[.str "law" 533,.str "law" 534,.str "/claim/cut.py" 535,.int 184 0,.int 1 0,.int 0 0,.int 0 0,.int 3 0,.ref 245,.bool Bool.true,.int 181 0,.ref 246,.none,.none,.none,.ref 247,.int 536 0,.int 184 0,.str "/claim/cut.py" 537]}),
 (249,Hd.fo "law" (top 41) (.str "law_cellways_k31_whole_narrow" 434) 248)]
def ts:List (Addr×Str):=[(130,lamQ "spread"),(137,lamQ "spread_from")]
noncomputable def K2(P:Params):PySem.W.Frag:=K P++[(130,PySem.W.tabObj #[]),(137,PySem.W.tabObj #[])]
noncomputable def as:List Addr:=[2,3,4,23,24,36,37,45,46,52,53,59,60,66,67,73,74,80,81,87,88,94,95,101,102,108,109,115,116,122,123,127,128,134,135,141,142,148,149,155,156,162,163,169,170,174,175,179,180,186,187,193,194,200,201,207,208,212,213,219,220,226,227,231,232,238,239,243,244,248,249,130,137]
noncomputable def Γ:Pg:=⟨[("WALL",(.str "#")),("STRAIGHT_COST",(.int 2)),("SLANTING_COST",(.int 3))],["len","abs","max","min","int","str","tuple","isinstance","bool","range","enumerate","sorted"],[],[],["NoSpot"],[],false⟩
def R0:dP:=[]
theorem mU:cu (Γ.at R0 false) "_law_cell" cO (top 31):=stM fun _ _ _ _ _ _=>Hd.ar2 fun _ _=>rfl
noncomputable def R1:dP:=⟨"_law_cell","_law_cell",cO,top 31,false⟩::R0
theorem mL:cu (Γ.at R1 false) "_law_pick" bS (top 32):=stM fun _ _ _ _ _ _=>Hd.ar3 fun _ _ _=>rfl
noncomputable def R2:dP:=⟨"_law_pick","_law_pick",bS,top 32,false⟩::R1
theorem kS:cu (Γ.at R2 false) "_law_floor" bU (top 33):=stM fun _ _ _ _ _ _=>Hd.ar3 fun _ _ _=>rfl
noncomputable def R3:dP:=⟨"_law_floor","_law_floor",bU,top 33,false⟩::R2
theorem kf:cu (Γ.at R3 false) "_law_walker" b9 (top 34):=stM fun _ _ _ _ _ _=>Hd.ar2 fun _ _=>rfl
noncomputable def R4:dP:=⟨"_law_walker","_law_walker",b9,top 34,false⟩::R3
theorem kG:cu (Γ.at R4 false) "open_spots" bW (top 12):=stM fun _ _ _ _ _ _=>Hd.ar1 fun _=>rfl
noncomputable def R5:dP:=⟨"open_spots","open_spots",bW,top 12,false⟩::R4
theorem pj:cu (Γ.at R5 false) "is_whole" dC (top 7):=stM fun _ _ _ _ _ _=>Hd.ar1 fun _=>rfl
noncomputable def R6:dP:=⟨"is_whole","is_whole",dC,top 7,false⟩::R5
theorem qY:cu (Γ.at R6 false) "is_spot" dz (top 8):=stM fun _ _ _ _ _ _=>Hd.ar1 fun _=>rfl
noncomputable def R7:dP:=⟨"is_spot","is_spot",dz,top 8,false⟩::R6
theorem i7:cu (Γ.at R7 false) "is_on_floor" cg (top 9):=stM fun _ _ _ _ _ _=>Hd.ar2 fun _ _=>rfl
noncomputable def R8:dP:=⟨"is_on_floor","is_on_floor",cg,top 9,false⟩::R7
theorem rE:cu (Γ.at R8 false) "is_open" cD (top 10):=stM fun _ _ _ _ _ _=>Hd.ar2 fun _ _=>rfl
noncomputable def R9:dP:=⟨"is_open","is_open",cD,top 10,false⟩::R8
theorem mF:cu (Γ.at R9 false) "need_open" bD (top 11):=stM fun _ _ _ _ _ _=>Hd.ar2 fun _ _=>rfl
noncomputable def LS:dP:=⟨"need_open","need_open",bD,top 11,false⟩::R9
theorem fe:cu (Γ.at LS false) "open_spots_beside" bb (top 14):=stM fun _ _ _ _ _ _=>Hd.ar2 fun _ _=>rfl
noncomputable def K7:dP:=⟨"open_spots_beside","open_spots_beside",bb,top 14,false⟩::LS
theorem kO:cu (Γ.at K7 false) "are_beside" cG (top 15):=stM fun _ _ _ _ _ _=>Hd.ar2 fun _ _=>rfl
noncomputable def Kz:dP:=⟨"are_beside","are_beside",cG,top 15,false⟩::K7
theorem nZ:cu (Γ.at Kz false) "height_at" cM (top 13):=stM fun _ _ _ _ _ _=>Hd.ar2 fun _ _=>rfl
noncomputable def LQ:dP:=⟨"height_at","height_at",cM,top 13,false⟩::Kz
theorem fG:cu (Γ.at LQ false) "has_open_corners" bq (top 16):=stM fun _ _ _ _ _ _=>Hd.ar3 fun _ _ _=>rfl
noncomputable def K4:dP:=⟨"has_open_corners","has_open_corners",bq,top 16,false⟩::LQ
theorem mE:cu (Γ.at K4 false) "step_cost" bF (top 17):=stM fun _ _ _ _ _ _=>Hd.ar4 fun _ _ _ _=>rfl
noncomputable def KD:dP:=⟨"step_cost","step_cost",bF,top 17,false⟩::K4
theorem kJ:cu (Γ.at KD false) "steps_from" bE (top 18):=stM fun _ _ _ _ _ _=>Hd.ar3 fun _ _ _=>rfl
noncomputable def K0:dP:=⟨"steps_from","steps_from",bE,top 18,false⟩::KD
theorem k7:cu (Γ.at K0 false) "steps_over" cF (top 19):=stM fun _ _ _ _ _ _=>Hd.ar2 fun _ _=>rfl
noncomputable def LP:dP:=⟨"steps_over","steps_over",cF,top 19,false⟩::K0
theorem eh:cu (Γ.at LP true) "spread" ba (top 21):=stM fun _ _ _ _ _ _=>Hd.ar2 fun _ _=>rfl
noncomputable def K5:dP:=⟨"spread@steps_from","spread",ba,top 21,true⟩::LP
theorem kq:cu (Γ.at K5 true) "spread_from" cb (top 22):=stM fun _ _ _ _ _ _=>Hd.ar3 fun _ _ _=>rfl
noncomputable def KR:dP:=⟨"spread_from","spread_from",cb,top 22,true⟩::K5
theorem oo:cu (Γ.at KR false) "room_with" cN (top 24):=stM fun _ _ _ _ _ _=>Hd.ar3 fun _ _ _=>rfl
noncomputable def KN:dP:=⟨"room_with","room_with",cN,top 24,false⟩::KR
theorem vV:cu (Γ.at KN false) "rooms" fB (top 25):=stM fun _ _ _ _ _ _=>Hd.ar2 fun _ _=>rfl
noncomputable def LA:dP:=⟨"rooms","rooms",fB,top 25,false⟩::KN
theorem k8:cu (Γ.at LA false) "needs_open" bX (top 26):=stM fun _ _ _ _ _ _=>Hd.ar3 fun _ _ _=>rfl
noncomputable def Ll:dP:=⟨"needs_open","needs_open",bX,top 26,false⟩::LA
theorem iG:cu (Γ.at Ll false) "reached_past" bM (top 27):=stM fun _ _ _ _ _ _=>Hd.ar3 fun _ _ _=>rfl
noncomputable def LR:dP:=⟨"reached_past","reached_past",bM,top 27,false⟩::Ll
theorem ny:cu (Γ.at LR false) "is_narrow" cA (top 28):=stM fun _ _ _ _ _ _=>Hd.ar3 fun _ _ _=>rfl
noncomputable def LO:dP:=⟨"is_narrow","is_narrow",cA,top 28,false⟩::LR
theorem iK:cu (Γ.at LO false) "narrow_spots" bQ (top 29):=stM fun _ _ _ _ _ _=>Hd.ar2 fun _ _=>rfl
noncomputable def Lf:dP:=⟨"narrow_spots","narrow_spots",bQ,top 29,false⟩::LO
theorem kE:cu (Γ.at Lf false) "_law_spots" cE (top 35):=stM fun _ _ _ _ _ _=>Hd.ar1 fun _=>rfl
noncomputable def KZ:dP:=⟨"_law_spots","_law_spots",cE,top 35,false⟩::Lf
theorem iZ:cu (Γ.at KZ false) "_law_fenced" cj (top 39):=stM fun _ _ _ _ _ _=>Hd.ar2 fun _ _=>rfl
noncomputable def Lm:dP:=⟨"_law_fenced","_law_fenced",cj,top 39,false⟩::KZ
theorem nH:cu (Γ.at Lm false) "_law_cost" bG (top 36):=stM fun _ _ _ _ _ _=>Hd.ar4 fun _ _ _ _=>rfl
noncomputable def LM:dP:=⟨"_law_cost","_law_cost",bG,top 36,false⟩::Lm
theorem kK:cu (Γ.at LM false) "_law_steps" bC (top 37):=stM fun _ _ _ _ _ _=>Hd.ar3 fun _ _ _=>rfl
noncomputable def Lu:dP:=⟨"_law_steps","_law_steps",bC,top 37,false⟩::LM
theorem nT:cu (Γ.at Lu false) "_law_room" cQ (top 38):=stM fun _ _ _ _ _ _=>Hd.ar3 fun _ _ _=>rfl
noncomputable def LJ:dP:=⟨"_law_room","_law_room",cQ,top 38,false⟩::Lu
theorem kF:cu (Γ.at LJ false) "_law_parts" bZ (top 40):=stM fun _ _ _ _ _ _=>Hd.ar3 fun _ _ _=>rfl
noncomputable def R31:dP:=⟨"_law_parts","_law_parts",bZ,top 40,false⟩::LJ
theorem st_law:cu (Γ.at R31 false) "law" d_law (top 41):=stM fun _ _ _ _ _ _=>Hd.ar1 fun _=>rfl
theorem lR(P:Params):CodeK (K P) 134 130:=⟨⟨.type "code",none,.fields #[.str "spread" 350,.str "spread" 351,.str "/claim/cut.py" 352,.int 67 0,.int 2 0,.int 0 0,.int 0 0,.int 3 0,.ref 129,.bool Bool.true,.int 181 0,.ref 130,.none,.ref 131,.ref 132,.ref 133,.int 362 0,.int 67 0,.str "/claim/cut.py" 363],#[]⟩,_,_,_,_,_,_,_,_,by kernel_rfl,rfl,rfl,rfl,rfl,rfl,rfl,rfl,rfl,by decide⟩
theorem ft(P:Params):CodeK (K P) 141 137:=⟨⟨.type "code",none,.fields #[.str "spread_from" 365,.str "spread_from" 366,.str "/claim/cut.py" 367,.int 80 0,.int 3 0,.int 0 0,.int 0 0,.int 3 0,.ref 136,.bool Bool.true,.int 181 0,.ref 137,.none,.ref 138,.ref 139,.ref 140,.int 373 0,.int 80 0,.str "/claim/cut.py" 374],#[]⟩,_,_,_,_,_,_,_,_,by kernel_rfl,rfl,rfl,rfl,rfl,rfl,rfl,rfl,rfl,by decide⟩
theorem hlawT(ns:List Int)(hl:ns.length≤63):af (den (tab R31)) d_law [.lst (ns.map .int)]=.ok (.bl true):=FA ns hl
theorem allK(P:Params):AllK (K P) ts Γ R31:=
 ⟨Hd.ent 244 243 (.str "law_cellways_k31_whole_narrow" 434),kF,⟨by decide+kernel,by decide+kernel,fun z=>by first|rfl|exact absurd z (by decide)⟩,⟨Hd.ent 232 231 (.str "law_cellways_k31_whole_narrow" 434),nT,⟨by decide+kernel,by decide+kernel,fun z=>by first|rfl|exact absurd z (by decide)⟩,⟨Hd.ent 227 226 (.str "law_cellways_k31_whole_narrow" 434),kK,⟨by decide+kernel,by decide+kernel,fun z=>by first|rfl|exact absurd z (by decide)⟩,⟨Hd.ent 220 219 (.str "law_cellways_k31_whole_narrow" 434),nH,⟨by decide+kernel,by decide+kernel,fun z=>by first|rfl|exact absurd z (by decide)⟩,⟨Hd.ent 239 238 (.str "law_cellways_k31_whole_narrow" 434),iZ,⟨by decide+kernel,by decide+kernel,fun z=>by first|rfl|exact absurd z (by decide)⟩,⟨Hd.ent 213 212 (.str "law_cellways_k31_whole_narrow" 434),kE,⟨by decide+kernel,by decide+kernel,fun z=>by first|rfl|exact absurd z (by decide)⟩,⟨Hd.ent 180 179 (.str "cellways.rooms" 376),iK,⟨by decide+kernel,by decide+kernel,fun z=>by first|rfl|exact absurd z (by decide)⟩,⟨Hd.ent 175 174 (.str "cellways.rooms" 376),ny,⟨by decide+kernel,by decide+kernel,fun z=>by first|rfl|exact absurd z (by decide)⟩,⟨Hd.ent 170 169 (.str "cellways.rooms" 376),iG,⟨by decide+kernel,by decide+kernel,fun z=>by first|rfl|exact absurd z (by decide)⟩,⟨Hd.ent 163 162 (.str "cellways.rooms" 376),k8,⟨by decide+kernel,by decide+kernel,fun z=>by first|rfl|exact absurd z (by decide)⟩,⟨Hd.ent 156 155 (.str "cellways.rooms" 376),vV,⟨by decide+kernel,by decide+kernel,fun z=>by first|rfl|exact absurd z (by decide)⟩,⟨Hd.ent 149 148 (.str "cellways.rooms" 376),oo,⟨by decide+kernel,by decide+kernel,fun z=>by first|rfl|exact absurd z (by decide)⟩,⟨Hd.entL 142 141 137 (.str "cellways.ways" 348) (ft P) (by decide+kernel) (by decide+kernel),kq,⟨by decide+kernel,by decide+kernel,fun z=>by first|rfl|exact absurd z (by decide)⟩,⟨Hd.entL 135 134 130 (.str "cellways.ways" 348) (lR P) (by decide+kernel) (by decide+kernel),eh,⟨by decide+kernel,by decide+kernel,fun z=>by first|rfl|exact absurd z (by decide)⟩,⟨Hd.ent 128 127 (.str "cellways.floors" 223),k7,⟨by decide+kernel,by decide+kernel,fun z=>by first|rfl|exact absurd z (by decide)⟩,⟨Hd.ent 123 122 (.str "cellways.floors" 223),kJ,⟨by decide+kernel,by decide+kernel,fun z=>by first|rfl|exact absurd z (by decide)⟩,⟨Hd.ent 116 115 (.str "cellways.floors" 223),mE,⟨by decide+kernel,by decide+kernel,fun z=>by first|rfl|exact absurd z (by decide)⟩,⟨Hd.ent 109 108 (.str "cellways.floors" 223),fG,⟨by decide+kernel,by decide+kernel,fun z=>by first|rfl|exact absurd z (by decide)⟩,⟨Hd.ent 88 87 (.str "cellways.floors" 223),nZ,⟨by decide+kernel,by decide+kernel,fun z=>by first|rfl|exact absurd z (by decide)⟩,⟨Hd.ent 102 101 (.str "cellways.floors" 223),kO,⟨by decide+kernel,by decide+kernel,fun z=>by first|rfl|exact absurd z (by decide)⟩,⟨Hd.ent 95 94 (.str "cellways.floors" 223),fe,⟨by decide+kernel,by decide+kernel,fun z=>by first|rfl|exact absurd z (by decide)⟩,⟨Hd.ent 74 73 (.str "cellways.floors" 223),mF,⟨by decide+kernel,by decide+kernel,fun z=>by first|rfl|exact absurd z (by decide)⟩,⟨Hd.ent 67 66 (.str "cellways.floors" 223),rE,⟨by decide+kernel,by decide+kernel,fun z=>by first|rfl|exact absurd z (by decide)⟩,⟨Hd.ent 60 59 (.str "cellways.floors" 223),i7,⟨by decide+kernel,by decide+kernel,fun z=>by first|rfl|exact absurd z (by decide)⟩,⟨Hd.ent 53 52 (.str "cellways.floors" 223),qY,⟨by decide+kernel,by decide+kernel,fun z=>by first|rfl|exact absurd z (by decide)⟩,⟨Hd.ent 46 45 (.str "cellways.floors" 223),pj,⟨by decide+kernel,by decide+kernel,fun z=>by first|rfl|exact absurd z (by decide)⟩,⟨Hd.ent 81 80 (.str "cellways.floors" 223),kG,⟨by decide+kernel,by decide+kernel,fun z=>by first|rfl|exact absurd z (by decide)⟩,⟨Hd.ent 208 207 (.str "law_cellways_k31_whole_narrow" 434),kf,⟨by decide+kernel,by decide+kernel,fun z=>by first|rfl|exact absurd z (by decide)⟩,⟨Hd.ent 201 200 (.str "law_cellways_k31_whole_narrow" 434),kS,⟨by decide+kernel,by decide+kernel,fun z=>by first|rfl|exact absurd z (by decide)⟩,⟨Hd.ent 194 193 (.str "law_cellways_k31_whole_narrow" 434),mL,⟨by decide+kernel,by decide+kernel,fun z=>by first|rfl|exact absurd z (by decide)⟩,⟨Hd.ent 187 186 (.str "law_cellways_k31_whole_narrow" 434),mU,⟨by decide+kernel,by decide+kernel,fun z=>by first|rfl|exact absurd z (by decide)⟩,trivial⟩⟩⟩⟩⟩⟩⟩⟩⟩⟩⟩⟩⟩⟩⟩⟩⟩⟩⟩⟩⟩⟩⟩⟩⟩⟩⟩⟩⟩⟩⟩
structure F1(K:PySem.W.Frag)(d:Str)(D:Addr):Prop where
 e:PySem.W.nsIn K mainGlobals d=some (some (.ref D))
 xc:CP K D
 vt:PySem.W.kitOne K (.ref D) (.type "ValueError")=some true
 ex:PySem.W.excIn K D wO "ValueError.__new__"=true
theorem Jo{K:PySem.W.Frag}{d:Str}{D:Addr}(e:PySem.W.nsIn K mainGlobals d=some (some (.ref D)):=by kernel_rfl)(i:PySem.W.isClsIn K D=true:=by kernel_rfl)(v:PySem.W.subIn K (.ref D) (.type "ValueError")=some true:=by kernel_rfl)(ga:PySem.W.findIn K (.ref D) "__getattribute__"=some (some (.builtin "BaseException.__getattribute__")):=by kernel_rfl)(hk:PySem.W.findIn K (.ref D) "__getattr__"=some none:=by kernel_rfl)
 (cl:PySem.W.findIn K (.ref D) "__class__"=some (some (.builtin "object.__class__")):=by kernel_rfl) (mo:PySem.W.mroIn K D (.type "object")=some true:=by kernel_rfl) (mb:PySem.W.mroIn K D (.type "BaseException")=some true:=by kernel_rfl) (ex:PySem.W.excIn K D wO "ValueError.__new__"=true:=by kernel_rfl):F1 K d D:=
 ⟨e,⟨ga,hk,cl,mo,mb,i⟩,xI (by decide+kernel) v,ex⟩
theorem modK(P:Params){mg:Str→Option Value}{h:Heap}(X:(K P).In h)(G:h.Ns mainGlobals mg):rf (K P) mg Γ ⟨K P,mg,["NoSpot"],ts⟩:=by
 have Ff:∀{x:Str} {u:Value},PySem.W.nsIn (K P) mainGlobals x=some (some u)→mg x=some u:=fun a=>PySem.W.mg_of X G a
 have vx:∀{x:Str},PySem.W.nsIn (K P) mainGlobals x=some none→mg x=none:=fun a=>PySem.W.mg_none_of X G a
 have e8:F1 (K P) "NoSpot" 37:=Jo
 refine⟨rfl,rfl,fun q hq=>?_,fun g hg=>?_,by decide+kernel,fun c hc=>?_,fun d hd D hD=>?_,fun c hc=>?_,fun c hc=>?_,fun z=>absurd z (by decide+kernel),fun _=>⟨4,⟨.type "module",some builtinsNs,.plain,#[]⟩,Ff (by kernel_rfl),by decide,by decide,by kernel_rfl,rfl,rfl,rfl⟩⟩
 ·simp only [Γ,List.mem_cons,List.not_mem_nil,or_false] at hq;rcases hq with rfl|rfl|rfl
  ·exact⟨.str "#" 225,.str "#",Ff (by kernel_rfl),⟨_,rfl⟩,fun G=>.s⟩
  ·exact⟨.int 2 227,.int 2,Ff (by kernel_rfl),⟨_,rfl⟩,fun G=>.i⟩
  ·exact⟨.int 3 229,.int 3,Ff (by kernel_rfl),⟨_,rfl⟩,fun G=>.i⟩
 ·simp only [Γ,List.mem_cons,List.not_mem_nil,or_false] at hg;rcases hg with rfl|rfl|rfl|rfl|rfl|rfl|rfl|rfl|rfl|rfl|rfl|rfl
  ·exact vx (by kernel_rfl)
  ·exact vx (by kernel_rfl)
  ·exact vx (by kernel_rfl)
  ·exact vx (by kernel_rfl)
  ·exact vx (by kernel_rfl)
  ·exact vx (by kernel_rfl)
  ·exact vx (by kernel_rfl)
  ·exact vx (by kernel_rfl)
  ·exact vx (by kernel_rfl)
  ·exact vx (by kernel_rfl)
  ·exact vx (by kernel_rfl)
  ·exact vx (by kernel_rfl)
 ·simp only [Γ,List.mem_cons,List.not_mem_nil,or_false] at hc
 ·simp only [List.mem_cons,List.not_mem_nil,or_false] at hd;rcases hd with rfl
  ·cases(Ff e8.e).symm.trans hD;refine⟨e8.xc,fun c hc C hC=>?_,e8.vt⟩
   simp only [Γ,List.mem_cons,List.not_mem_nil,or_false] at hc
 ·simp only [Γ,List.contains_iff_mem,List.mem_cons,List.not_mem_nil,or_false] at hc⊢;exact hc
 ·simp only [Γ,List.contains_iff_mem,List.mem_cons,List.not_mem_nil,or_false] at hc;rcases hc with rfl
  ·exact⟨_,Ff e8.e,e8.ex⟩
theorem hY{P:Params}{h:Heap}(X:(K2 P).In h):(K P).In h∧∀p∈ts.map (·.1),h.get? p=some (PySem.W.tabObj #[]):=⟨fun b o e=>X b o (Hd.look_app e),fun p hp=>by
 simp only [ts,List.map_cons,List.map_nil,List.mem_cons,List.not_mem_nil,or_false] at hp;rcases hp with rfl|rfl
 ·exact X _ _ (by kernel_rfl)
 ·exact X _ _ (by kernel_rfl)
⟩
theorem hC(P:Params):∀p∈ts.map (·.1),(∃c,CodeK (K P) c p)∧(K P).lookup p=none:=fun p hp=>by
 simp only [ts,List.map_cons,List.map_nil,List.mem_cons,List.not_mem_nil,or_false] at hp;rcases hp with rfl|rfl
 ·exact⟨⟨_,lR P⟩,by kernel_rfl⟩
 ·exact⟨⟨_,ft P⟩,by kernel_rfl⟩
def keep:List Nat:=[1,2,4,5,6,7,8,9,10,11,12,13,14,15,16,17,18,19,21,22,24,25,26,27,28,29,31,32,33,34,35,36,37,38,39,40,41]
theorem ka:∀P,as=(K2 P).map (·.1):=fun _=>by kernel_rfl
theorem left:PySem.W.LeftO lw.row.prog (PySem.W.view lw.row.prog keep) [] (fun s=>PySem.W.xlAt (PySem.W.view lw.row.prog keep) [] s&&PySem.W.recOk lw.row.toRowW.records s) (PySem.W.kHook K2 as ka).obs (PySem.W.kHook K2 as ka).val 3052:=by
 refine Hd.left_of (T₀:=fun P=>Hd.treeOf (PySem.W.boot_heap P).objs.toList) (m₀:=11) (life:={}) (ann:=some (.ref 6)) (M:=3002) (by kernel_rfl) (by kernel_rfl) (fun s=>by kernel_rfl) Hd.boot0 Hd.boot1 (by kernel_rfl) fun w os=>?_
 rw [PySem.W.Fast.te10156331382660048174,PySem.W.Fast.te11892475500146522536,PySem.W.Fast.te14364793385576792824,PySem.W.Fast.te6613529449190102663,PySem.W.Fast.te4187177175401517315,PySem.W.Fast.te5923862056798008813]
 kernel_rfl
end K31
open PySem PySem.W PyProof.Rows
set_option maxRecDepth 100000 in
set_option maxHeartbeats 0 in
theorem PySem.Challenge.cw_cellways_k31_whole_narrow_holds : PySem.Challenge.rw_cellways_k31_whole_narrow.Holds := by
 refine Hd.holds (d:=⟨"law",L2.defArgs (K31.top 41),L2.defBody (K31.top 41),L2.defScope (K31.top 41),Hd.dpos (K31.top 41)⟩) (by kernel_rfl) K31.ka K31.left (by kernel_rfl) (by kernel_rfl) (by kernel_rfl) (by kernel_rfl) ⟨rfl,rfl,rfl,rfl,rfl,by decide+kernel⟩ ?hw ?hc
 case hw=>w_witness2
 case hc=>exact Ci.walk (l:=PySem.Challenge.rw_cellways_k31_whole_narrow) K31.R31 K31.Γ "_law_script" K31.d_law ["NoSpot"] K31.ts (K31.top 41) rfl rfl rfl rfl rfl ⟨rfl,by decide,by decide⟩ (fun w h Y=>K31.hY (PySem.W.kIn_of Y)) (fun w=>K31.hC w.params) (fun w mg h KX G=>K31.modK _ KX G) (fun w=>Hd.ent 249 248 (.str "law_cellways_k31_whole_narrow" 434)) K31.st_law (fun w=>K31.allK _) K31.hlawT
#print axioms PySem.Challenge.cw_cellways_k31_whole_narrow_holds
