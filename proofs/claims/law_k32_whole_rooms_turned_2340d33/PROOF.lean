import PyProof.Rows.All
import Wide.All
import OpenK.AllK
import Wide.FinOn
import Lean
import PyProof.EqAt
import PyProof.EqKinds
import PyProof.TupleCall
import PySem.Challenge.RW_cellways_k32_whole_rooms_turned
set_option Elab.async false
set_option linter.all false
set_option genSizeOf false
set_option maxRecDepth 100000
theorem zzf:¬false=true:=Bool.false_ne_true
theorem zza(a b:Bool):((a&&b)=true)=(a=true∧b=true):=Bool.and_eq_true a b
theorem zzg.{u}{α:Type u}{l:List α}{i:Nat}(h:i<l.length):l[i]?=some l[i]:=List.getElem?_eq_getElem h
theorem zzl.{u,v}{α:Type u}{β:Type v}{l:List α}(f:α→β):(l.map f).length=l.length:=List.length_map f
def zzA:=@PySem.wpAny_bind
def zzB:=@PySem.Heap.get?_push_of_some
def zzC:=@List.size_toArray
def zzD:=@List.mem_of_getElem?
def zzE:=@Nat.le_refl
def zzF:=@List.map_cons
def zzG:=@PySem.wpAny_pure
def zzH:=@List.getElem?_eq_some_iff
def zzI:=@List.mem_cons_of_mem
def zzJ:=@Option.map_eq_some_iff
def zzK:=@List.getD_eq_getElem?_getD
def zzL:=@List.length_cons
def zzM:=@List.length_append
def zzN:=@decide_eq_true_eq
def zzO:=@PySem.Heap.lt_size
def zzP:=@List.mem_cons_self
def zzQ:=@List.getElem?_map
def zzR:=@List.mem_append_right
def zzS:=@List.getElem?_set_ne
def zzT:=@List.all_eq_true
def zzU:=@Nat.le_trans
def zzV:=@Nat.lt_of_le_of_lt
def zzW:=@Nat.lt_of_lt_of_le
def zzX:=@PySem.Heap.get?_push_size
def zzY:=@of_decide_eq_true
def zzZ:=@Option.bind_eq_some_iff
def zzb:=@Nat.ne_of_lt
def zzc:=@List.mem_append_left
def zzd:=@Array.length_toList
def zze:=@Bool.false_eq_true
def zzh:=@decide_eq_true
def zzi:=@List.mem_singleton
def zzj:=@List.any_eq_true
namespace L2
open PySem PySem.Spec PyProof.Rows
abbrev Key:=Sum Int Str
def mF:Key→Value→Bool
 |.inl k,v=>Value.isInt k v
 |.inr x,v=>Value.isStrOf x v
def Mh(w:World):Key→Int
 |.inl k=>hashInt k
 |.inr x=>hashStr w x
theorem bK:∀{k:Key} {v:Value},mF k v=true→(∃i t,k=Sum.inl i∧v=Value.int i t)∨(∃x t,k=Sum.inr x∧v=Value.str x t)
 |.inl i,v,h=>by
  obtain⟨t,e⟩:=Value.isInt_shape (k:=i) (v:=v) h
  exact .inl ⟨i,t,rfl,e⟩
 |.inr x,v,h=>by
  obtain⟨t,e⟩:=Value.isStrOf_shape (x:=x) (v:=v) h
  exact .inr ⟨x,t,rfl,e⟩
theorem vo(i:Int)(t:Tok):mF (.inl i) (.int i t)=true:=by simp [mF,Value.isInt]
theorem wY(x:Str)(t:Tok):mF (.inr x) (.str x t)=true:=by simp [mF,Value.isStrOf]
theorem FL(a b:Int):decide ((Sum.inl a:Key)=Sum.inl b)=(a==b):=by
 by_cases e:a=b
 ·subst e;simp
 ·have h:¬(Sum.inl a:Key)=Sum.inl b:=fun q=>e (Sum.inl.inj q)
  rw [decide_eq_false h];exact(beq_eq_false_iff_ne.mpr e).symm
theorem Fe(a b:Str):decide ((Sum.inr a:Key)=Sum.inr b)=decide (a=b):=by
 by_cases e:a=b
 ·subst e;simp
 ·have h:¬(Sum.inr a:Key)=Sum.inr b:=fun q=>e (Sum.inr.inj q)
  rw [decide_eq_false h,decide_eq_false e]
theorem E3(a:Int)(b:Str):decide ((Sum.inl a:Key)=Sum.inr b)=false:=decide_eq_false (fun q=>nomatch q)
theorem E5(a:Str)(b:Int):decide ((Sum.inr a:Key)=Sum.inl b)=false:=decide_eq_false (fun q=>nomatch q)
noncomputable def bL(prog:Program)(w:World):PySem.KeyKind prog w Key where
 is:=mF
 hash:=Mh w
 inj:=fun v a b ha hb=>by
  rcases bK ha with⟨i,t,rfl,rfl⟩|⟨x,t,rfl,rfl⟩
  ·rcases bK hb with⟨j,u,rfl,e⟩|⟨y,u,rfl,e⟩
   ·injection e with e1 _;rw [e1]
   ·exact nomatch e
  ·rcases bK hb with⟨j,u,rfl,e⟩|⟨y,u,rfl,e⟩
   ·exact nomatch e
   ·injection e with e1 _;rw [e1]
 byValue:=fun k v h=>by
  rcases bK h with⟨i,t,rfl,rfl⟩|⟨x,t,rfl,rfl⟩<;>rfl
 pyHash:=fun hv h=>by
  rcases bK hv with⟨i,t,rfl,rfl⟩|⟨x,t,rfl,rfl⟩
  ·exact wpAny_pyHash_int h
  ·exact wpAny_pyHash_str h
 eqBool:=fun hu hv h=>by
  rcases bK hu with⟨i,t,rfl,rfl⟩|⟨x,t,rfl,rfl⟩
  ·rcases bK hv with⟨j,u,rfl,rfl⟩|⟨y,u,rfl,rfl⟩
   ·rw [FL] at h;exact wpAny_eqBool_int h
   ·rw [E3] at h;exact SeqAt.EqAt.int_str i t y u _ _ _ _ h
  ·rcases bK hv with⟨j,u,rfl,rfl⟩|⟨y,u,rfl,rfl⟩
   ·rw [E5] at h;exact SeqAt.EqAt.str_int x t j u _ _ _ _ h
   ·rw [Fe] at h;exact wpAny_eqBool_str h
 «strs»:=fun k x t v h=>by
  rcases bK h with⟨i,u,rfl,e⟩|⟨y,u,rfl,e⟩
  ·exact nomatch e
  ·injection e with e1 _
   subst e1;cases v<;>rfl
theorem qL(prog:Program)(w:World)(i:Int)(t:Tok):(bL prog w).is (.inl i) (.int i t)=true:=vo i t
theorem rj(prog:Program)(w:World)(x:Str)(t:Tok):(bL prog w).is (.inr x) (.str x t)=true:=wY x t
inductive V where
 |non|bl (b:Bool)|int (i:Int)|str (x:Str)|byt (b:Array UInt8)|flt (b:UInt64)|ref (a:Addr)|ty (n:String)
 deriving DecidableEq
def RelV:V→Value→Prop
 |.non,u=>u=Value.none
 |.bl b,u=>u=Value.bool b
 |.int i,u=>∃t,u=Value.int i t
 |.str x,u=>∃t,u=Value.str x t
 |.byt b,u=>∃t,u=Value.bytes b t
 |.flt b,u=>∃t,u=Value.float b t
 |.ref a,u=>u=Value.ref a
 |.ty n,u=>u=Value.type n
abbrev Vals:List V→List Value→Prop:=Paired RelV
theorem Vals.length{xs:List V}{us:List Value}(r:Vals xs us):xs.length=us.length:=Paired.length r
theorem Vals.get:∀{xs:List V} {us:List Value} {i:Nat} {x:V},Vals xs us→xs[i]?=some x→∃u,us[i]?=some u∧RelV x u
 |_,_,_,_,.nil,e=>by simp at e
 |_,_,0,_,.cons r _,e=>by simp at e;subst e;exact⟨_,rfl,r⟩
 |_,_,i+1,x,.cons _ t,e=>by
  obtain⟨u,h1,h2⟩:=Vals.get (i:=i) (x:=x) t (by simpa using e)
  exact⟨u,by simpa using h1,h2⟩
theorem Vals.append:∀{xs ys:List V} {us ws:List Value},Vals xs us→Vals ys ws→Vals (xs++ys) (us++ws)
 |_,_,_,_,.nil,s=>s
 |_,_,_,_,.cons r t,s=>.cons r (Vals.append t s)
def jl:Option V→Option Value→Prop
 |some v,some u=>RelV v u
 |none,none=>True
 |_,_=>False
def KV{κ:Type}:List (κ×V)→List (κ×Value)→Prop:=Paired fun(p:κ×V) (q:κ×Value)=>p.1=q.1∧RelV p.2 q.2
def kV:Key→V
 |.inl i=>.int i
 |.inr x=>.str x
inductive HO where
 |lst (xs:List V)
 |tup (xs:List V)
 |dK (aB:List (Key×V))|dT (aB:List (List Key×V))
 |set (S:Int→Bool) (n:Nat)
 |ins (C dx:Addr) (fs:List (Str×V))
 |own (x:Addr)
 |xd (fs:List (Str×V))
 |met (f x:Addr)
 |rng (lo hi:Int)
 |frz (o:Obj) (u:HO)
 |tbl (ps:Array Value)
 |ext (φ:Heap→Prop)
abbrev Hp:=Addr→Option HO
def upd(H:Hp)(a:Addr)(o:HO):Hp:=fun b=>if b=a then some o else H b
theorem au{H:Hp}{a:Addr}{o:HO}:upd H a o a=some o:=by unfold upd;rw [if_pos rfl]
theorem af{H:Hp}{a b:Addr}{o:HO}(h:b≠a):upd H a o b=H b:=by unfold upd;rw [if_neg h]
theorem gu{H:Hp}{a b:Addr}{o u:HO}(h:H a=some o)(h':H b=some u)(d:o≠u):a≠b:=by
 intro e;subst e;rw [h] at h';exact d (Option.some.inj h')
theorem dh{H:Hp}{a b:Addr}{o:HO}(h:H a=some o)(h':H b=none):a≠b:=by
 intro e;subst e;rw [h] at h';cases h'
section
variable(P:Program)(w:World)
def bQ(H:Hp)(h:Heap)(a:Addr):HO→Prop
 |.lst xs=>xs.length≤sizeLine∧∃(aA:List Value) (n:Nat),Vals xs aA∧h.get? a=some {cls:=.type "list",data:=.seq aA.toArray n}
 |.tup xs=>xs.length≤sizeLine∧∃aA:List Value,Vals xs aA∧IsTup h a aA.toArray
 |.dK aB=>aB.length≤sizeLine∧(a==sysModules)=false∧∃vs,KV aB vs∧h.DictOf (bL P w) a vs
 |.dT aB=>aB.length≤sizeLine∧(a==sysModules)=false∧∃xs:List (List Key×Addr×Value),
  Paired (fun(p:List Key×V) (q:List Key×Addr×Value)=>p.1=q.1∧H q.2.1=some (.tup (p.1.map kV))∧RelV p.2 q.2.2) aB xs∧
  ∃o es ep,h.get? a=some o∧o.ExactDict∧o.data=.dict es ep∧es.toList=xs.map (entryOfKey (tupleKind (bL P w)))∧(xs.map (·.1)).Nodup
 |.set S n=>h.SetOf (intKind P w) a S n
 |.ins C dx fs=>H dx=some (.own a)∧fs.length≤1000∧dx≠a∧h.get? a=some (PySem.W.instObj C dx)∧
  ∃mA,h.Ns1 dx mA∧(∀f,jl (fs.lookup f) (mA f))∧PySem.Within mA (fs.map (·.1))
 |.own _=>∃o,h.get? a=some o
 |.xd fs=>∃mA,h.Ns1 a mA∧∀f,jl (fs.lookup f) (mA f)
 |.rng lo hi=>∃t u v,h.get? a=some {cls:=.type "range",data:=.fields #[.int lo t,.int hi u,.int 1 v]}
 |.frz o u=>h.get? a=some o∧bQ H h a u
 |.tbl ps=>h.get? a=some {cls:=.none,data:=.fields ps}
 |.met f x=>h.get? a=some (PySem.W.methodObj (.ref f) (.ref x))
 |.ext φ=>φ h∧(∃o,h.get? a=some o)∧∀h1 h2:Heap,φ h1→(∀o,h1.get? a=some o→h2.get? a=some o)→φ h2
def dU(H:Hp)(h:Heap):Prop:=∀a o,H a=some o→bQ P w H h a o
end
section
variable{P:Program}{w:World}{H H':Hp}{h h':Heap}{a:Addr}{o:HO}
theorem bQ.lt(x:bQ P w H h a o):a<h.objs.size:=by
 cases o with
 |lst xs=>obtain⟨_,_,_,_,e⟩:=x;exact zzO e
 |tup xs=>obtain⟨_,_,_,p⟩:=x;exact p.lt
 |dK aB=>obtain⟨_,_,_,_,o,_,_,e,_⟩:=x;exact zzO e
 |dT aB=>obtain⟨_,_,_,_,o,_,_,e,_⟩:=x;exact zzO e
 |set S n=>obtain⟨o,_,_,_,e,_⟩:=x;exact zzO e
 |ins C dx fs=>obtain⟨_,_,_,e,_⟩:=x;exact zzO e
 |own y=>obtain⟨_,e⟩:=x;exact zzO e
 |xd fs=>obtain⟨_,⟨_,_,_,e,_⟩,_⟩:=x;exact zzO e
 |rng lo hi=>obtain⟨_,_,_,e⟩:=x;exact zzO e
 |frz ob u=>obtain⟨e,_⟩:=x;exact zzO e
 |tbl ps=>exact zzO (show h.get? a=some _ from x)
 |met f y=>exact zzO (show h.get? a=some _ from x)
 |ext φ=>obtain⟨_,⟨_,e⟩,_⟩:=x;exact zzO e
theorem Paired.mapP{α β:Type}{F G:α→β→Prop}:∀{l₁:List α} {l₂:List β},Paired F l₁ l₂→(∀a b,F a b→G a b)→Paired G l₁ l₂
 |_,_,.nil,_=>.nil
 |_,_,.cons r t,f=>.cons (f _ _ r) (Paired.mapP t f)
theorem bQ.stay(x:bQ P w H h a o)(k:∀b u,(b=a∨H b=some (.own a))→h.get? b=some u→h'.get? b=some u)
 (ho:∀b,H b=some (.own a)→H' b=some (.own a)) (ht:∀b xs,H b=some (.tup xs)→H' b=some (.tup xs)):bQ P w H' h' a o:=by
 induction o with
 |lst xs=>obtain⟨z,aA,n,r,e⟩:=x;exact⟨z,aA,n,r,k _ _ (.inl rfl) e⟩
 |tup xs=>obtain⟨z,aA,r,ob,e,c⟩:=x;exact⟨z,aA,r,ob,k _ _ (.inl rfl) e,c⟩
 |dK aB=>obtain⟨z,y,vs,r,ob,es,ep,e,c⟩:=x;exact⟨z,y,vs,r,ob,es,ep,k _ _ (.inl rfl) e,c⟩
 |dT aB=>
  obtain⟨z,y,xs,r,ob,es,ep,e,c⟩:=x
  exact⟨z,y,xs,Paired.mapP r fun p q z=>⟨z.1,ht _ _ z.2.1,z.2.2⟩,ob,es,ep,k _ _ (.inl rfl) e,c⟩
 |set S n=>obtain⟨ob,es,ep,t,e,c⟩:=x;exact⟨ob,es,ep,t,k _ _ (.inl rfl) e,c⟩
 |ins C dx fs=>
  obtain⟨d,z,ne,e,mA,⟨od,es,ep,e2,c⟩,r⟩:=x
  exact⟨ho _ d,z,ne,k _ _ (.inl rfl) e,mA,⟨od,es,ep,k _ _ (.inr d) e2,c⟩,r⟩
 |own y=>obtain⟨ob,e⟩:=x;exact⟨ob,k _ _ (.inl rfl) e⟩
 |xd fs=>obtain⟨mA,⟨od,es,ep,e,c⟩,r⟩:=x;exact⟨mA,⟨od,es,ep,k _ _ (.inl rfl) e,c⟩,r⟩
 |rng lo hi=>obtain⟨t,u,v,e⟩:=x;exact⟨t,u,v,k _ _ (.inl rfl) e⟩
 |frz ob u ih=>obtain⟨e,q⟩:=x;exact⟨k _ _ (.inl rfl) e,ih q⟩
 |tbl ps=>
  have e:h.get? a=some {cls:=.none,data:=.fields ps}:=x
  show h'.get? a=some {cls:=.none,data:=.fields ps}
  exact k a _ (.inl rfl) e
 |met f y=>
  have e:h.get? a=some (PySem.W.methodObj (.ref f) (.ref y)):=x
  show h'.get? a=some (PySem.W.methodObj (.ref f) (.ref y))
  exact k a _ (.inl rfl) e
 |ext φ=>obtain⟨p,⟨o,e⟩,st⟩:=x;exact⟨st _ _ p fun o q=>k _ _ (.inl rfl) q,⟨o,k _ _ (.inl rfl) e⟩,st⟩
theorem dU.lt(x:dU P w H h)(e:H a=some o):a<h.objs.size:=(x a o e).lt
theorem dU.fresh(x:dU P w H h)(e:h.objs.size≤a):H a=none:=by
 cases q:H a with
 |none=>rfl
 |some u=>exact absurd (zzW (x.lt q) e) (Nat.lt_irrefl _)
theorem dU.kept(x:dU P w H h)(k:∀b u,h.get? b=some u→h'.get? b=some u):dU P w H h':=fun a o e=>
 (x a o e).stay (fun b u _ q=>k b u q) (fun _ q=>q) fun _ _ q=>q
theorem dU.laid(x:dU P w H h)(k:∀b u,h.get? b=some u→h'.get? b=some u)(hp:h.objs.size≤a)(new:bQ P w (upd H a o) h' a o):dU P w (upd H a o) h':=fun b u e=>by
 have hn:=x.fresh hp
 by_cases hb:b=a
 ·subst hb;rw [au] at e;cases e;exact new
 ·rw [af hb] at e;exact(x b u e).stay (fun c v _ q=>k c v q) (fun c q=>by rw [af (dh q hn)];exact q) fun c xs q=>by rw [af (dh q hn)];exact q
end
def Rd(H:Hp)(a:Addr)(u:HO):Prop:=H a=some u∨∃o,H a=some (.frz o u)
theorem Rd.ok{P:Program}{w:World}{H:Hp}{h:Heap}{a:Addr}{u:HO}(r:Rd H a u)(x:dU P w H h):bQ P w H h a u:=by
 rcases r with r|⟨o,r⟩
 ·exact x a u r
 ·obtain⟨_,q⟩:=x a _ r
  exact q
def Jx:Option HO→Prop
 |some (.lst _)=>True
 |some (.dK _)=>True
 |some (.dT _)=>True
 |some (.set _ _)=>True
 |some (.ins _ _ _)=>True
 |some (.ext _)=>True
 |_=>False
section
variable{P:Program}{w:World}{H:Hp}{h h':Heap}{x e:Addr}{o':HO}
theorem dU.write(ok:dU P w H h)(mu:Jx (H x))(he:e=x∨H e=some (.own x))(k:∀b u,b≠e→h.get? b=some u→h'.get? b=some u)(HC:∃u,h'.get? e=some u)
 (new:bQ P w (upd H x o') h' x o'):dU P w (upd H x o') h':=fun b u q=>by
 have JH:∀c y,H c=some (.own y)→c≠x:=fun c y r z=>by subst z;rw [r] at mu;exact mu
 have L8:∀c xs,H c=some (.tup xs)→c≠x:=fun c xs r z=>by subst z;rw [r] at mu;exact mu
 by_cases hb:b=x
 ·subst hb;rw [au] at q;cases q;exact new
 ·rw [af hb] at q
  by_cases hbe:b=e
  ·have q':H b=some (.own x):=by
    rcases he with z|z
    ·exact absurd (hbe.trans z) hb
    ·rw [hbe];exact z
   rw [q] at q';cases q';obtain⟨v,hv⟩:=HC
   exact⟨v,by rw [hbe];exact hv⟩
  ·refine(ok b u q).stay (fun c v hc r=>k c v ?_ r) (fun c r=>by rw [af (JH c b r)];exact r) fun c xs r=>by rw [af (L8 c xs r)];exact r
   rcases hc with rfl|hc
   ·exact hbe
   ·rintro rfl
    rcases he with z|z
    ·exact JH c b hc z
    ·rw [hc] at z;cases z;exact hb rfl
end
structure Un(fs ex:List Addr)(H H':Hp)(h h':Heap):Prop where
 keep:∀b o,h.get? b=some o→H b=none→b∉fs→b∉ex→h'.get? b=some o
 slot:∀b o,h.get? b=some o→H b=none→b∈fs→b∉ex→∃sl,h'.get? b=some {o with slots:=sl}
 free:∀b o,h.get? b=some o→H b=none→b∉ex→H' b=none
 there:∀b o,h.get? b=some o→b∉ex→∃o',h'.get? b=some o'
 tups:∀b xs,H b=some (.tup xs)→H' b=some (.tup xs)
 frzs:∀b o u,H b=some (.frz o u)→H' b=some (.frz o u)
 tbls:∀b ps,H b=some (.tbl ps)→∃more,H' b=some (.tbl (ps++more))
section
variable{fs Mo ex PK:List Addr}{H H1 H2:Hp}{h h1 h2 h':Heap}{a x e:Addr}{o:HO}
theorem Un.any(u:Un fs ex H H1 h h1){b:Addr}{ob:Obj}(q:h.get? b=some ob)(n:H b=none)(hx:b∉ex):∃sl,h1.get? b=some {ob with slots:=sl}:=by
 by_cases hb:b∈fs
 ·exact u.slot b ob q n hb hx
 ·exact⟨ob.slots,u.keep b ob q n hb hx⟩
theorem Un.kept(k:∀b u,h.get? b=some u→h'.get? b=some u):Un fs ex H H h h':=
 ⟨fun b ob q _ _ _=>k b ob q,fun b ob q _ _ _=>⟨ob.slots,k b ob q⟩,fun _ _ _ n _=>n,fun b ob q _=>⟨ob,k b ob q⟩,fun _ _ q=>q,fun _ _ _ q=>q,fun _ ps q=>⟨#[],by rw [q];simp⟩⟩
theorem Un.refl:Un fs ex H H h h:=Un.kept fun _ _ q=>q
theorem Un.laid(k:∀b u,h.get? b=some u→h'.get? b=some u)(hp:h.objs.size≤a)(hn:H a=none):Un fs ex H (upd H a o) h h' where
 keep:=fun b u q _ _ _=>k b u q
 slot:=fun b u q _ _ _=>⟨u.slots,k b u q⟩
 free:=fun b u q n _=>by rw [af (zzb (zzW (zzO q) hp))];exact n
 there:=fun b u q _=>⟨u,k b u q⟩
 tups:=fun b xs q=>by rw [af (dh q hn)];exact q
 frzs:=fun b u xs q=>by rw [af (dh q hn)];exact q
 tbls:=fun b ps q=>⟨#[],by rw [af (dh q hn),q];simp⟩
theorem Un.write(mu:Jx (H x))(he:e=x∨H e=some (.own x))(k:∀b u,b≠e→h.get? b=some u→h'.get? b=some u)(HC:∃u,h'.get? e=some u):Un fs ex H (upd H x o) h h':=by
 have hx:∀b,H b=none→b≠x:=fun b n z=>by subst z;rw [n] at mu;exact mu
 have hb:∀b,H b=none→b≠e:=fun b n z=>by
  subst z;rcases he with r|r
  ·exact hx b n r
  ·rw [n] at r;cases r
 have hm:∀b u,H b=some u→¬Jx (some u)→b≠x:=fun b u q nm z=>by subst z;rw [q] at mu;exact nm mu
 refine⟨fun b u q n _ _=>k b u (hb b n) q,fun b u q n _ _=>⟨u.slots,k b u (hb b n) q⟩,fun b u q n _=>by rw [af (hx b n)];exact n,fun b u q _=>?_,
  fun b xs q=>by rw [af (hm b _ q fun z=>z)];exact q,fun b u xs q=>by rw [af (hm b _ q fun z=>z)];exact q,fun b ps q=>⟨#[],by rw [af (hm b _ q fun z=>z),q];simp⟩⟩
 by_cases hbe:b=e
 ·subst hbe;exact HC
 ·exact⟨u,k b u hbe q⟩
end
def La(h:Heap)(H:Hp):List Addr:=(List.range h.objs.size).filter fun a=>(H a).isSome
def oQ(h:Heap)(H:Hp):Heap:=PySem.W.hideAll h (La h H)
theorem vi(h:Heap)(H:Hp):(oQ h H).objs.size=h.objs.size:=PySem.W.hideAll_size _ _
theorem xw{h:Heap}{H:Hp}{b:Addr}{o:Obj}(e:h.get? b=some o)(n:H b=none):(oQ h H).get? b=some o:=
 PySem.W.hideAll_get _ e fun hm=>by
  have q:(H b).isSome=true:=(List.mem_filter.mp hm).2
  rw [n] at q;simp at q
theorem CN{h:Heap}{H:Hp}{b:Addr}{o:Obj}(e:(oQ h H).get? b=some o):h.get? b=some o∧H b=none:=by
 have e':h.get? b=some o:=PySem.W.of_hideAll (La h H) e
 refine⟨e',?_⟩;cases q:H b with
 |none=>rfl
 |some x=>
  have hm:b∈La h H:=List.mem_filter.mpr ⟨List.mem_range.mpr (zzO e'),by simp [q]⟩
  have z:(oQ h H).get? b=none:=PySem.W.hideAll_none (La h H) hm
  rw [z] at e;cases e
def CK(g h:Heap)(L:Addr):List (Addr×Obj):=(List.range h.objs.size).filterMap fun a=>if a=L∨(g.get? a).isSome=true then none else(h.get? a).map fun o=>(a,o)
def rest(g h:Heap)(L d:Addr):List (Addr×Obj):=(CK g h L).filter fun p=>decide (p.1≠d)
structure Mod(K:PySem.W.Frag)(mg:Str→Option Value)(base:Heap):Prop where
 kin:K.In base
 glob:base.Ns mainGlobals mg
 blt:∃mb,base.Ns builtinsNs mb∧∀x:Str,x≠"__name__"→mb x=bootBuiltins x
 nolimit:base.NoLimit
structure Cx where
 prog:Program
 w:World
 K:PySem.W.Frag
 mg:Str→Option Value
 base:Heap
 A:Around
 N:List Str
 s₀:Shared
 H₀:Hp
 env:Env
 outer:List Env
 stack:List Env
 ex:List Addr
 fn:Str→Bool
 calm:Bool
 pn:List (Addr×Obj)
 xe:Value→Shared→Prop
def eo(l:List Env):List Addr:=l.filterMap (·.frame)
abbrev Cx.fs(X:Cx):List Addr:=eo X.outer
def IE(sc:Scope)(x:Str):Prop:=sc.names.lookup x=some .local∨sc.names.lookup x=some .cell∨sc.names.lookup x=some .free
def Loc(sc:Scope)(x:Str):Prop:=sc.names.lookup x=some .local∨sc.names.lookup x=some .cell
def Look(env:Env)(h:Heap)(m:Str→Option Value)(x:Str)(u:Value):Prop:=
 (env.kindOf x=some .local∧m x=some u)∨((env.kindOf x=some .cell∨env.kindOf x=some .free)∧∃c,env.cells.lookup x=some c∧h.IsCell c (some u))
structure Cx.Ok(X:Cx):Prop where
 mod:Mod X.K X.mg X.base
 kind:X.env.scope.kind=.function
 glob:X.env.globals=mainGlobals
 blt:X.env.builtins=builtinsNs
 above:X.s₀.heap.objs.size≤X.env.locals
 inj:∀x y c,X.env.cells.lookup x=some c→X.env.cells.lookup y=some c→x=y
 has:∀x,(X.env.kindOf x=some .cell∨X.env.kindOf x=some .free)→∃c,X.env.cells.lookup x=some c
 cab:∀x c,X.fn x=true→X.env.cells.lookup x=some c→X.s₀.heap.objs.size≤c
 hd:X.calm=true→X.A.handled=none
 frames:X.A.frames=some X.stack
 stk:X.stack=X.outer∨(X.stack=X.env::X.outer∧X.env.frame=some X.env.locals)
 exf:∀b∈X.ex,b≠X.env.locals∧∀x c,X.env.cells.lookup x=some c→c≠b
 bs:∀b o,X.base.get? b=some o→X.s₀.heap.get? b=some o∧X.H₀ b=none
 bsz:X.base.objs.size≤X.s₀.heap.objs.size
 noex:∀b o,X.base.get? b=some o→b∉X.ex
 exfs:∀b∈X.ex,b∉X.fs
 funs:X.s₀.heap.FunFrames X.base X.outer
 frf:∀b∈X.fs,X.H₀ b=none
structure Inv(X:Cx)(pins:List (Addr×Obj))(σ:List (Option V))(H:Hp)(s:Shared):Prop where
 ok:X.Ok
 os:s.os=X.s₀.os
 bare:AllBare s.gens
 base:Un X.fs X.ex X.H₀ H X.s₀.heap s.heap
 loc:∃m,s.heap.Ns X.env.locals m∧∀(i:Nat) (x:Str) (v:V),X.N[i]?=some x→σ[i]?=some (some v)→IE X.env.scope x→∃u,RelV v u∧Look X.env s.heap m x u
 cell:∀x c,X.env.cells.lookup x=some c→∃v,s.heap.IsCell c v
 free:H X.env.locals=none
 freeC:∀x c,X.env.cells.lookup x=some c→H c=none
 pin:∀p∈X.pn++pins,s.heap.get? p.1=some p.2∧H p.1=none∧p.1≠X.env.locals∧p.1∉X.fs∧∀v,p.2.data≠.cell v
 hok:dU X.prog X.w H s.heap
 len:σ.length=X.N.length
section
variable{X:Cx}{pins:List (Addr×Obj)}{σ:List (Option V)}{H H':Hp}{s:Shared}{h':Heap}
theorem Cx.Ok.nofr(ok:X.Ok){b:Addr}{o:Obj}(e:X.base.get? b=some o):b∉X.fs:=fun hb=>by
 have:=(ok.funs.mem hb).1
 rw [e] at this;cases this
theorem Inv.bs(I:Inv X pins σ H s):∀b o,X.base.get? b=some o→s.heap.get? b=some o∧H b=none:=fun b o e=>
 ⟨I.base.keep b o (I.ok.bs b o e).1 (I.ok.bs b o e).2 (I.ok.nofr e) (I.ok.noex b o e),I.base.free b o (I.ok.bs b o e).1 (I.ok.bs b o e).2 (I.ok.noex b o e)⟩
theorem Inv.bk(I:Inv X pins σ H s):∀b o,X.base.get? b=some o→s.heap.get? b=some o:=fun b o e=>(I.bs b o e).1
theorem Inv.mod(I:Inv X pins σ H s):Mod X.K X.mg X.base:=I.ok.mod
theorem Inv.kIn(I:Inv X pins σ H s):X.K.In s.heap:=I.ok.mod.kin.keeps I.bk
theorem Inv.fr(I:Inv X pins σ H s):∃m,Fr X.base X.env.locals s.heap m:=
 let⟨m,hn,_⟩:=I.loc
 ⟨m,hn,I.bk,zzU I.ok.bsz I.ok.above⟩
theorem Inv.lt(I:Inv X pins σ H s):X.env.locals<s.heap.objs.size:=let⟨_,hn,_⟩:=I.loc;hn.lt
theorem Inv.sz(I:Inv X pins σ H s):X.s₀.heap.objs.size≤s.heap.objs.size:=zzU I.ok.above (Nat.le_of_lt I.lt)
theorem Inv.nofs(I:Inv X pins σ H s){a:Addr}(h:s.heap.objs.size≤a):a∉X.fs:=fun hb=>by
 obtain⟨_,o,ho,_⟩:=I.ok.funs.mem hb
 exact absurd (zzW (zzO ho) (zzU I.sz h)) (Nat.lt_irrefl _)
theorem Inv.cne(I:Inv X pins σ H s):∀x c,X.env.cells.lookup x=some c→c≠X.env.locals:=fun x c e z=>by
 obtain⟨v,o,ho,hd⟩:=I.cell x c e
 obtain⟨m,⟨o',es,ep,iD,Kp,_⟩,_⟩:=I.loc
 rw [z,iD] at ho;cases ho;rw [Kp] at hd;cases hd
theorem Inv.funs(I:Inv X pins σ H s):s.heap.FunFrames X.base X.outer:=by
 have all:∀(l:List Env),(∀b∈eo l,b∈X.fs)→X.s₀.heap.FunFrames X.base l→s.heap.FunFrames X.base l:=by
  intro l
  induction l with
  |nil=>intro _ _;trivial
  |cons env r ih=>
   intro hs hl;obtain⟨hk,⟨L,o,hf,hn,ho,hd⟩,hr⟩:=hl
   have hL:L∈X.fs:=hs L (by unfold eo;rw [List.filterMap_cons,hf];exact zzP)
   obtain⟨sl,e⟩:=I.base.slot L o ho (I.ok.frf L hL) hL fun z=>I.ok.exfs L z hL
   exact⟨hk,⟨L,_,hf,hn,e,hd⟩,ih (fun b hb=>hs b (by unfold eo;rw [List.filterMap_cons,hf];exact zzI _ hb)) hr⟩
 exact all X.outer (fun _ hb=>hb) I.ok.funs
theorem Inv.stack(I:Inv X pins σ H s):s.heap.FunFrames X.base X.stack:=by
 rcases I.ok.stk with e|⟨e,hf⟩
 ·rw [e];exact I.funs
 ·rw [e];obtain⟨m,hn,_⟩:=I.loc
  refine .cons (by rw [I.ok.kind];decide) hf hn ?_ I.funs;exact Heap.get?_none_of_le (zzU I.ok.bsz I.ok.above)
theorem Inv.stkSub(I:Inv X pins σ H s):∀b∈eo X.stack,b∈X.env.locals::X.fs:=fun b hb=>by
 rcases I.ok.stk with e|⟨e,hf⟩
 ·rw [e] at hb;exact zzI _ hb
 ·rw [e] at hb;unfold eo at hb;rw [List.filterMap_cons,hf] at hb;exact hb
theorem Inv.stkFree(I:Inv X pins σ H s):∀b∈eo X.stack,H b=none:=fun b hb=>by
 rcases List.mem_cons.mp (I.stkSub b hb) with e|hb
 ·rw [e];exact I.free
 ·obtain⟨_,o,ho,_⟩:=I.ok.funs.mem hb
  exact I.base.free b o ho (I.ok.frf b hb) fun z=>I.ok.exfs b z hb
theorem Inv.step{g':Array GenState}{t':Nat}{d':Drawn}{ch:List Addr}(I:Inv X pins σ H s)
 (xf:∀b∈ch,(b∈X.ex∨X.s₀.heap.objs.size≤b)∧b≠X.env.locals∧(∀x c,X.env.cells.lookup x=some c→c≠b)∧∀p∈X.pn++pins,p.1≠b)
 (keep:∀b o,b≠X.env.locals→b∉X.fs→b∉ch→s.heap.get? b=some o→H b=none→h'.get? b=some o)
 (slot:∀b o,b≠X.env.locals→b∈X.fs→b∉ch→s.heap.get? b=some o→H b=none→∃sl,h'.get? b=some {o with slots:=sl}) (free:∀b o,b∉ch→s.heap.get? b=some o→H b=none→H' b=none)
 (there:∀b o,b∉ch→s.heap.get? b=some o→∃o',h'.get? b=some o')
 (tups:∀b xs,H b=some (.tup xs)→H' b=some (.tup xs)) (frzs:∀b o u,H b=some (.frz o u)→H' b=some (.frz o u)) (tbls:∀b ps,H b=some (.tbl ps)→∃more,H' b=some (.tbl (ps++more)))
 (ns:∀m,s.heap.Ns X.env.locals m→h'.Ns X.env.locals m) (hok:dU X.prog X.w H' h') (hg:AllBare g'):
 Inv X pins σ H' {s with heap:=h',gens:=g',drawn:=d',toks:=t'}:=by
 have KI:∀b o,X.s₀.heap.get? b=some o→b≠X.env.locals:=fun b o e=>zzb (zzW (zzO e) I.ok.above)
 have EI:∀b o,X.s₀.heap.get? b=some o→b∉X.ex→b∉ch:=fun b o e hx hb=>by
  rcases(xf b hb).1 with z|z
  ·exact hx z
  ·exact absurd (zzW (zzO e) z) (Nat.lt_irrefl _)
 have cellK:∀x c,X.env.cells.lookup x=some c→∀v,s.heap.IsCell c v→h'.IsCell c v:=fun x c e v ⟨o,ho,hd⟩=>by
  have Jr:c∉ch:=fun z=>(xf c z).2.2.1 x c e rfl
  by_cases hc:c∈X.fs
  ·obtain⟨sl,q⟩:=slot c o (I.cne x c e) hc Jr ho (I.freeC x c e)
   exact⟨_,q,hd⟩
  ·exact⟨o,keep c o (I.cne x c e) hc Jr ho (I.freeC x c e),hd⟩
 refine⟨I.ok,I.os,hg,⟨fun b o e n hb hx=>?_,fun b o e n hb hx=>?_,fun b o e n hx=>?_,fun b o e hx=>?_,fun b xs e=>tups b xs (I.base.tups b xs e),fun b o xs e=>frzs b o xs (I.base.frzs b o xs e),fun b ps e=>?_⟩,?_,fun x c e=>?_,?_,fun x c e=>?_,fun p hp=>?_,hok,I.len⟩
 ·exact keep b o (KI b o e) hb (EI b o e hx) (I.base.keep b o e n hb hx) (I.base.free b o e n hx)
 ·obtain⟨sl,e1⟩:=I.base.slot b o e n hb hx
  obtain⟨sl',e2⟩:=slot b _ (KI b o e) hb (EI b o e hx) e1 (I.base.free b o e n hx)
  exact⟨sl',e2⟩
 ·obtain⟨o',e1⟩:=I.base.there b o e hx
  exact free b o' (EI b o e hx) e1 (I.base.free b o e n hx)
 ·obtain⟨o',e1⟩:=I.base.there b o e hx
  exact there b o' (EI b o e hx) e1
 ·obtain⟨m1,e1⟩:=I.base.tbls b ps e
  obtain⟨m2,e2⟩:=tbls b _ e1
  exact⟨m1++m2,by rw [e2,Array.append_assoc]⟩
 ·obtain⟨m,hn,hl⟩:=I.loc
  refine⟨m,ns m hn,fun i x v e1 e2 e3=>?_⟩
  obtain⟨u,r,l⟩:=hl i x v e1 e2 e3
  refine⟨u,r,?_⟩;rcases l with l|⟨k,c,e,z⟩
  ·exact .inl l
  ·exact .inr ⟨k,c,e,cellK x c e _ z⟩
 ·obtain⟨v,z⟩:=I.cell x c e
  exact⟨v,cellK x c e v z⟩
 ·obtain⟨m,⟨o,_,_,ho,_⟩,_⟩:=I.loc
  exact free _ o (fun z=>(xf _ z).2.1 rfl) ho I.free
 ·obtain⟨v,o,ho,hd⟩:=I.cell x c e
  exact free c o (fun z=>(xf c z).2.2.1 x c e rfl) ho (I.freeC x c e)
 ·obtain⟨e,n,ne,nf,d⟩:=I.pin p hp
  have Jr:p.1∉ch:=fun z=>(xf p.1 z).2.2.2 p hp rfl
  exact⟨keep p.1 p.2 ne nf Jr e n,free p.1 p.2 Jr e n,ne,nf,d⟩
theorem Inv.un{t':Nat}(I:Inv X pins σ H s)(u:Un X.fs [] H H' s.heap h')(hok:dU X.prog X.w H' h'):Inv X pins σ H' {s with heap:=h',toks:=t'}:=by
 obtain⟨m,⟨o,es,ep,ho,r⟩,_⟩:=id I.loc
 obtain⟨sl,hL⟩:=u.any ho I.free (by simp)
 exact I.step (g':=s.gens) (d':=s.drawn) (ch:=[]) (fun _ z=>nomatch z) (fun b o _ hb _ e n=>u.keep b o e n hb (by simp)) (fun b o _ hb _ e n=>u.slot b o e n hb (by simp)) (fun b o _ e n=>u.free b o e n (by simp)) (fun b o _ e=>u.there b o e (by simp)) u.tups u.frzs u.tbls (fun m' hm=>by
  obtain⟨o',es',ep',iD,r'⟩:=hm
  rw [ho] at iD;cases iD;exact⟨_,es',ep',hL,r'⟩) hok I.bare
theorem Inv.call{g':Array GenState}{t':Nat}{d':Drawn}{ch:List Addr}(I:Inv X pins σ H s)(u:Un (eo X.stack) ch H H' s.heap h')(hok:dU X.prog X.w H' h')(hg:AllBare g')
 (xf:∀b∈ch,(b∈X.ex∨X.s₀.heap.objs.size≤b)∧b≠X.env.locals∧(∀x c,X.env.cells.lookup x=some c→c≠b)∧∀p∈X.pn++pins,p.1≠b):
 Inv X pins σ H' {s with heap:=h',gens:=g',drawn:=d',toks:=t'}:=by
 obtain⟨m,⟨o,es,ep,ho,r⟩,_⟩:=id I.loc
 obtain⟨sl,hL⟩:=u.any ho I.free fun z=>(xf _ z).2.1 rfl
 exact I.step (ch:=ch) xf (fun b o hL hb hc e n=>u.keep b o e n (fun z=>(List.mem_cons.mp (I.stkSub b z)).elim hL hb) hc) (fun b o _ _ hc e n=>u.any e n hc) (fun b o hc e n=>u.free b o e n hc) (fun b o hc e=>u.there b o e hc) u.tups u.frzs u.tbls (fun m' hm=>by
  obtain⟨o',es',ep',iD,r'⟩:=hm
  rw [ho] at iD;cases iD;exact⟨_,es',ep',hL,r'⟩) hok hg
theorem Inv.turned{t':Nat}{it:Addr}(I:Inv X pins σ H s)(k:∀b o,b≠it→s.heap.get? b=some o→h'.get? b=some o)(hn:H it=none)(hL:it≠X.env.locals)
 (h1:it∈X.ex∨X.s₀.heap.objs.size≤it) (h2:∀x c,X.env.cells.lookup x=some c→c≠it) (h3:∀p∈X.pn++pins,p.1≠it):Inv X pins σ H {s with heap:=h',toks:=t'}:=by
 have Ni:∀b u,H b=some u→b≠it:=fun b u e z=>by rw [z,hn] at e;cases e
 refine I.step (g':=s.gens) (d':=s.drawn) (ch:=[it]) (fun b hb=>?_) (fun b o _ _ hc e _=>k b o (fun z=>hc (by simp [z])) e) (fun b o _ _ hc e _=>⟨o.slots,k b o (fun z=>hc (by simp [z])) e⟩) (fun _ _ _ _ n=>n)
  (fun b o hc e=>⟨o,k b o (fun z=>hc (by simp [z])) e⟩) (fun _ _ e=>e) (fun _ _ _ e=>e) (fun b ps e=>⟨#[],by rw [e];simp⟩) (fun m hm=>?_) (fun b u e=>?_) I.bare
 ·have e:b=it:=by simpa using hb
  subst e;exact⟨h1,hL,h2,h3⟩
 ·obtain⟨o,es,ep,ho,r⟩:=hm
  exact⟨o,es,ep,k _ o (Ne.symm hL) ho,r⟩
 ·refine(I.hok b u e).stay (fun c v hc q=>k c v ?_ q) (fun _ q=>q) fun _ _ q=>q
  rcases hc with z|z
  ·rw [z];exact Ni b u e
  ·exact Ni c _ z
theorem Inv.tok(I:Inv X pins σ H s)(t:Nat):Inv X pins σ H {s with toks:=t}:=I.un (h':=s.heap) (t':=t) Un.refl I.hok
theorem Inv.kept{t':Nat}(I:Inv X pins σ H s)(k:∀b u,s.heap.get? b=some u→h'.get? b=some u):Inv X pins σ H {s with heap:=h',toks:=t'}:=I.un (Un.kept k) (I.hok.kept k)
theorem Inv.laid{a:Addr}{o:HO}{t':Nat}(I:Inv X pins σ H s)(k:∀b u,s.heap.get? b=some u→h'.get? b=some u)(hp:s.heap.objs.size≤a)(new:bQ X.prog X.w (upd H a o) h' a o):
 Inv X pins σ (upd H a o) {s with heap:=h',toks:=t'}:=I.un (Un.laid k hp (I.hok.fresh hp)) (I.hok.laid k hp new)
theorem Inv.write{x e:Addr}{o:HO}{t':Nat}(I:Inv X pins σ H s)(mu:Jx (H x))(he:e=x∨H e=some (.own x))(k:∀b u,b≠e→s.heap.get? b=some u→h'.get? b=some u)(HC:∃u,h'.get? e=some u)
 (new:bQ X.prog X.w (upd H x o) h' x o):Inv X pins σ (upd H x o) {s with heap:=h',toks:=t'}:=I.un (Un.write mu he k HC) (I.hok.write mu he k HC new)
theorem Inv.pins_of{uQ:List (Addr×Obj)}(I:Inv X pins σ H s)(h:∀p∈uQ,s.heap.get? p.1=some p.2∧H p.1=none∧p.1≠X.env.locals∧p.1∉X.fs∧∀v,p.2.data≠.cell v):Inv X uQ σ H s:=
 ⟨I.ok,I.os,I.bare,I.base,I.loc,I.cell,I.free,I.freeC,fun p hp=>(List.mem_append.mp hp).elim (fun z=>I.pin p (zzc _ z)) (h p),I.hok,I.len⟩
theorem kl{N:List Str}(hN:N.Nodup){i j:Nat}{x:Str}(a:N[i]?=some x)(b:N[j]?=some x):i=j:=by
 obtain⟨h1,e1⟩:=zzH.mp a
 obtain⟨h2,e2⟩:=zzH.mp b
 exact(List.getElem_inj hN).mp (e1.trans e2.symm)
theorem iE{M:Model}{A:Around}{E:Value→Shared→Prop}{i:Nat}{x:Str}{v:V}{u:Value}{Q:Unit→Shared→Prop}(I:Inv X pins σ H s)(hN:X.N.Nodup)(hi:X.N[i]?=some x)(hx:Loc X.env.scope x)(r:RelV v u)
 (h:∀s',Inv X pins (σ.set i (some v)) H s'→(∃a,Heap.SameBut a s.heap s'.heap∧(a=X.env.locals∨X.env.cells.lookup x=some a))→Q () s') (hf:X.fn x=true∨X.env.scope.names.lookup x=some .local:=by first|exact .inl rfl|exact .inr rfl|assumption):wpAny M A (storeName X.env x u) Q E s:=by
 obtain⟨m,hn,hl⟩:=id I.loc
 have MH:(X.env.scope.kind==.class||(X.env.scope.kind==.module&&X.env.locals !=X.env.globals))=false:=by rw [I.ok.kind];rfl
 have hiσ:i<σ.length:=by rw [I.len];exact(zzH.mp hi).1
 have cne:=I.cne
 have tracked:∀{a:Addr} {h':Heap},(∃o,s.heap.get? a=some o∧H a=none)→Heap.SameBut a s.heap h'→dU X.prog X.w H h':=fun{a h'} ha hs b ob e=>by
  obtain⟨_,_,hfree⟩:=ha
  refine(I.hok b ob e).stay (fun c w' hc q=>(hs.2 c ?_).trans q) (fun _ q=>q) fun _ _ q=>q
  rintro rfl
  rcases hc with rfl|hc
  ·rw [hfree] at e;cases e
  ·rw [hfree] at hc;cases hc
 rcases hx with hk|hk
 ·refine wpAny_storeName_local hk hn (fun h' PF hs=>?_) MH;obtain⟨oL,_,_,KC,_⟩:=id hn
  refine h _ ⟨I.ok,I.os,I.bare,⟨fun b o e n hb hx=>?_,fun b o e n hb hx=>?_,I.base.free,fun b o e hx=>?_,I.base.tups,I.base.frzs,I.base.tbls⟩,⟨_,PF,fun j y v' e1 e2 e3=>?_⟩,fun y c e=>?_,I.free,I.freeC,fun p hp=>?_,tracked ⟨oL,KC,I.free⟩ hs,by simpa using I.len⟩ ⟨_,hs,.inl rfl⟩
  ·exact(hs.2 b (zzb (zzW (zzO e) I.ok.above))).trans (I.base.keep b o e n hb hx)
  ·obtain⟨sl,e1⟩:=I.base.slot b o e n hb hx
   exact⟨sl,(hs.2 b (zzb (zzW (zzO e) I.ok.above))).trans e1⟩
  ·obtain⟨o',e1⟩:=I.base.there b o e hx
   exact⟨o',(hs.2 b (zzb (zzW (zzO e) I.ok.above))).trans e1⟩
  ·by_cases hj:j=i
   ·subst hj;rw [hi] at e1;cases e1;rw [List.getElem?_set_self hiσ] at e2;cases e2;exact⟨u,r,.inl ⟨hk,by simp⟩⟩
   ·rw [zzS (Ne.symm hj)] at e2;obtain⟨u',r',q⟩:=hl j y v' e1 e2 e3
    refine⟨u',r',?_⟩;rcases q with⟨k,e⟩|⟨k,c,e,z⟩
    ·refine .inl ⟨k,?_⟩;have:y≠x:=fun e=>hj (kl hN e1 (e▸hi))
     simp [this,e]
    ·exact .inr ⟨k,c,e,z.sameBut hs (cne y c e)⟩
  ·obtain⟨w',z⟩:=I.cell y c e
   exact⟨w',z.sameBut hs (cne y c e)⟩
  ·obtain⟨e,n,ne,nf,d⟩:=I.pin p hp
   exact⟨(hs.2 p.1 ne).trans e,n,ne,nf,d⟩
 ·have jr:X.fn x=true:=by
   rcases hf with z|z
   ·exact z
   ·rw [z] at hk;cases hk
  obtain⟨c,hc⟩:=I.ok.has x (.inl hk)
  obtain⟨w',z⟩:=I.cell x c hc
  refine wpAny_storeName_cell I.ok.kind hk hc z (fun h' f6 hs=>?_);obtain⟨oc,hoc,hocd⟩:=id z
  refine h {s with heap:=h'} ⟨I.ok,I.os,I.bare,⟨fun b o e n hb hx=>?_,fun b o e n hb hx=>?_,I.base.free,fun b o e hx=>?_,I.base.tups,I.base.frzs,I.base.tbls⟩,⟨m,hn.sameBut hs (Ne.symm (cne x c hc)),fun j y v' e1 e2 e3=>?_⟩,fun y c' e=>?_,I.free,I.freeC,fun p hp=>?_,tracked ⟨oc,hoc,I.freeC x c hc⟩ hs,by simpa using I.len⟩ ⟨c,hs,.inr hc⟩
  ·exact(hs.2 b (zzb (zzW (zzO e) (I.ok.cab x c jr hc)))).trans (I.base.keep b o e n hb hx)
  ·obtain⟨sl,e1⟩:=I.base.slot b o e n hb hx
   exact⟨sl,(hs.2 b (zzb (zzW (zzO e) (I.ok.cab x c jr hc)))).trans e1⟩
  ·obtain⟨o',e1⟩:=I.base.there b o e hx
   exact⟨o',(hs.2 b (zzb (zzW (zzO e) (I.ok.cab x c jr hc)))).trans e1⟩
  ·by_cases hj:j=i
   ·subst hj;rw [hi] at e1;cases e1;rw [List.getElem?_set_self hiσ] at e2;cases e2;exact⟨u,r,.inr ⟨.inl hk,c,hc,f6⟩⟩
   ·rw [zzS (Ne.symm hj)] at e2;obtain⟨u',r',q⟩:=hl j y v' e1 e2 e3
    refine⟨u',r',?_⟩;rcases q with q|⟨k,c',e,z'⟩
    ·exact .inl q
    ·refine .inr ⟨k,c',e,z'.sameBut hs ?_⟩
     rintro rfl
     exact hj (kl hN e1 (I.ok.inj _ _ _ e hc▸hi))
  ·by_cases hcc:c'=c
   ·subst hcc;exact⟨_,f6⟩
   ·obtain⟨w2,z2⟩:=I.cell y c' e
    exact⟨w2,z2.sameBut hs hcc⟩
  ·obtain⟨e,n,ne,nf,d⟩:=I.pin p hp
   refine⟨(hs.2 p.1 ?_).trans e,n,ne,nf,d⟩;intro q;rw [q,hoc] at e;have q':oc=p.2:=Option.some.inj e
   exact d w' (by rw [←q'];exact hocd)
theorem qk{M:Model}{A:Around}{E:Value→Shared→Prop}{i:Nat}{x:Str}{v:V}{u:Value}{Q:Unit→Shared→Prop}(I:Inv X pins σ H s)(hN:X.N.Nodup)(hi:X.N[i]?=some x)(hx:Loc X.env.scope x)(r:RelV v u)
 (h:∀s',Inv X pins (σ.set i (some v)) H s'→Q () s') (hf:X.fn x=true∨X.env.scope.names.lookup x=some .local:=by first|exact .inl rfl|exact .inr rfl|assumption):wpAny M A (storeName X.env x u) Q E s:=
 iE I hN hi hx r (fun s' I' _=>h s' I') hf
theorem Inv.call'{s':Shared}{ch:List Addr}(I:Inv X pins σ H s)(ho:s'.os=s.os)(u:Un (eo X.stack) ch H H' s.heap s'.heap)(hok:dU X.prog X.w H' s'.heap)(hg:AllBare s'.gens)
 (xf:∀b∈ch,(b∈X.ex∨X.s₀.heap.objs.size≤b)∧b≠X.env.locals∧(∀x c,X.env.cells.lookup x=some c→c≠b)∧∀p∈X.pn++pins,p.1≠b):Inv X pins σ H' s':=by
 obtain⟨h',g',d',t',o'⟩:=s'
 have e:o'=s.os:=ho
 subst e;exact I.call (g':=g') (t':=t') (d':=d') u hok hg xf
end
abbrev XK:=Value→Option Addr→Hp→Prop
abbrev St:=List (Option V)
abbrev VK:=V→Hp→Prop
abbrev TE:=St→Hp→VK→Prop
abbrev TT:=St→Hp→(Bool→Hp→Prop)→Prop
abbrev TA:=St→Hp→(List V→Hp→Prop)→Prop
structure Ends where
 nx:St→Hp→Prop
 rt:VK
 bk:St→Hp→Prop:=fun _ _=>False
 ct:St→Hp→Prop:=fun _ _=>False
abbrev TS:=Ends→St→Hp→Prop
def EP(X:Cx)(pins:List (Addr×Obj))(σ:St)(Q:VK)(u:Value)(s':Shared):Prop:=∃v H',Inv X pins σ H' s'∧RelV v u∧Q v H'
def TP(X:Cx)(pins:List (Addr×Obj))(σ:St)(Q:Bool→Hp→Prop)(b:Bool)(s':Shared):Prop:=∃H',Inv X pins σ H' s'∧Q b H'
def AP(X:Cx)(pins:List (Addr×Obj))(σ:St)(Q:List V→Hp→Prop)(us:List Value)(s':Shared):Prop:=∃vs H',Inv X pins σ H' s'∧Vals vs us∧Q vs H'
def SP(X:Cx)(pins:List (Addr×Obj))(D:Ends)(f:Flow)(s':Shared):Prop:=
 match f with
 |.next=>∃σ' H',Inv X pins σ' H' s'∧D.nx σ' H'
 |.brk=>∃σ' H',Inv X pins σ' H' s'∧D.bk σ' H'
 |.cont=>∃σ' H',Inv X pins σ' H' s'∧D.ct σ' H'
 |.ret u=>∃v σ' H',Inv X pins σ' H' s'∧RelV v u∧D.rt v H'
def PE(X:Cx)(e:Expr)(t:TE):Prop:=
 ∀(pins:List (Addr×Obj)) (s:Shared) (σ:St) (H:Hp) (Q:VK),Inv X pins σ H s→t σ H Q→wpAny (model X.prog X.w) X.A (eval e X.env) (EP X pins σ Q) X.xe s
def PT(X:Cx)(e:Expr)(t:TT):Prop:=
 ∀(pins:List (Addr×Obj)) (s:Shared) (σ:St) (H:Hp) (Q:Bool→Hp→Prop),Inv X pins σ H s→t σ H Q→wpAny (model X.prog X.w) X.A (isTrue e X.env (eval e X.env)) (TP X pins σ Q) X.xe s
def PW(X:Cx)(e:Expr)(t:TT):Prop:=
 ∀(whole:Sem Value) (pins:List (Addr×Obj)) (s:Shared) (σ:St) (H:Hp) (Q:Bool→Hp→Prop),Inv X pins σ H s→t σ H Q→wpAny (model X.prog X.w) X.A (isTrue e X.env whole) (TP X pins σ Q) X.xe s
theorem PW.pt{X:Cx}{e:Expr}{t:TT}(h:PW X e t):PT X e t:=h _
def PA(X:Cx)(es:List Expr)(t:TA):Prop:=
 ∀(pos:Pos) (pins:List (Addr×Obj)) (s:Shared) (σ:St) (H:Hp) (Q:List V→Hp→Prop),Inv X pins σ H s→t σ H Q→wpAny (model X.prog X.w) X.A (spliced (backTo pos (starEach es X.env))) (AP X pins σ Q) X.xe s
def PS(X:Cx)(st:Stmt)(t:TS):Prop:=
 ∀(pins:List (Addr×Obj)) (s:Shared) (σ:St) (H:Hp) (D:Ends),Inv X pins σ H s→t D σ H→wpAny (model X.prog X.w) X.A (exec st X.env) (SP X pins D) X.xe s
def PSs(X:Cx)(st:List Stmt)(t:TS):Prop:=
 ∀(pins:List (Addr×Obj)) (s:Shared) (σ:St) (H:Hp) (D:Ends),Inv X pins σ H s→t D σ H→wpAny (model X.prog X.w) X.A (execs st X.env) (SP X pins D) X.xe s
theorem bJ{α:Type}{t:Sem α}{Q Q':α→Shared→Prop}{M:Model}{A:Around}{E:Value→Shared→Prop}{s:Shared}(h:wpAny M A t Q E s)(hQ:∀a s,Q a s→Q' a s):wpAny M A t Q' E s:=wpAny_mono h hQ fun _ _ x=>x
section
variable{X:Cx}
theorem bin{a b:Expr}{ta tb:TE}(ha:PE X a ta)(hb:PE X b tb){pins:List (Addr×Obj)}{s:Shared}{σ:St}{H:Hp}{R:V→V→Hp→Prop}(I:Inv X pins σ H s)(h:ta σ H fun x H1=>tb σ H1 fun y H2=>R x y H2)
 {α:Type} {Q:α→Shared→Prop} {f:Value→Value→Sem α}
 (hf:∀v u s2 x y H2,Inv X pins σ H2 s2→RelV x v→RelV y u→R x y H2→wpAny (model X.prog X.w) X.A (f v u) Q X.xe s2):
 wpAny (model X.prog X.w) X.A (eval a X.env) (fun v s₁=>wpAny (model X.prog X.w) X.A (eval b X.env) (fun u s₂=>wpAny (model X.prog X.w) X.A (f v u) Q X.xe s₂) X.xe s₁) X.xe s:=by
 refine bJ (ha pins s σ H _ I h) fun v s1 ⟨x,H1,I1,r1,q1⟩=>?_
 refine bJ (hb pins s1 σ H1 _ I1 q1) fun u s2 ⟨y,H2,I2,r2,q2⟩=>?_
 exact hf v u s2 x y H2 I2 r1 r2 q2
def y9(i:Nat):TE:=fun σ H Q=>∃v,σ[i]?=some (some v)∧Q v H
def tC(v:V):TE:=fun _ H Q=>Q v H
theorem d9{i:Nat}{x:Str}{pos:Pos}(hN:X.N[i]?=some x)(hv:IE X.env.scope x)(hd:(x==("__debug__":Str))=false:=by decide)(rQ:(x==("__classdict__":Str))=false:=by decide):PE X (.Name x pos) (y9 i):=by
 intro pins s σ H Q I h;obtain⟨v,e,h⟩:=h
 obtain⟨m,hn,hl⟩:=I.loc
 obtain⟨u,r,l⟩:=hl i x v hN e hv
 have fin:EP X pins σ Q u s:=⟨v,H,I,r,h⟩
 rcases l with⟨hk,hm⟩|⟨hk,c,hc,dQ⟩
 ·exact wpAny_Name (wpAny_loadName_local I.ok.kind hk hn hm fin) hd
 ·rcases hk with hk|hk
  ·exact wpAny_Name (wpAny_loadName_cell I.ok.kind hk hc dQ fin) hd
  ·exact wpAny_Name (wpAny_loadName_free I.ok.kind hk hc dQ fin rQ) hd
theorem sQ{i j pos}:PE X (.Constant (.int i) j pos) (tC (.int i)):=fun _ _ _ H _ I h=>wpAny_Constant_int ⟨.int i,H,I.tok _,⟨_,rfl⟩,h⟩
theorem DA{b j pos}:PE X (.Constant (.bool b) j pos) (tC (.bl b)):=fun _ _ _ H _ I h=>Constant_bool ⟨.bl b,H,I,rfl,h⟩
theorem Gh{j pos}:PE X (.Constant .none j pos) (tC .non):=fun _ _ _ H _ I h=>Constant_none ⟨.non,H,I,rfl,h⟩
theorem xy{x j pos}:PE X (.Constant (.str x) j pos) (tC (.str x)):=fun _ _ _ H _ I h=>Calls.Constant_str ⟨.str x,H,I.tok _,⟨_,rfl⟩,h⟩
def Gl(X:Cx)(x:Str):Prop:=X.env.kindOf x=some .globalImplicit
theorem fV{E:Value→Shared→Prop}{pins:List (Addr×Obj)}{s:Shared}{σ:St}{H:Hp}{x:Str}{u:Value}{pos:Pos}{Q:Value→Shared→Prop}(I:Inv X pins σ H s)(hg:Gl X x)(hm:X.mg x=some u)(h:Q u s)
 (hd:(x==("__debug__":Str))=false:=by decide):wpAny (model X.prog X.w) X.A (eval (.Name x pos) X.env) Q E s:=
 Calls.Name_function_global I.ok.kind hg (Calls.loadGlobal_global (by rw [I.ok.glob];exact I.mod.glob.keeps I.bk) hm h) hd
theorem eN{E:Value→Shared→Prop}{pins:List (Addr×Obj)}{s:Shared}{σ:St}{H:Hp}{x:Str}{u:Value}{pos:Pos}{Q:Value→Shared→Prop}(I:Inv X pins σ H s)(hg:Gl X x)(hm:X.mg x=none)(hv:bootBuiltins x=some u)(h:Q u s)
 (hn:x≠"__name__":=by decide) (hd:(x==("__debug__":Str))=false:=by decide):wpAny (model X.prog X.w) X.A (eval (.Name x pos) X.env) Q E s:=by
 obtain⟨mb,h1,h2⟩:=I.mod.blt
 exact Calls.Name_function_global I.ok.kind hg (Calls.loadGlobal_builtin (by rw [I.ok.glob];exact I.mod.glob.keeps I.bk) hm (by rw [I.ok.blt];exact h1.keeps I.bk) ((h2 x hn).trans hv) h) hd
theorem B1{x:Str}{v:V}{u:Value}{pos:Pos}(hg:Gl X x)(hm:X.mg x=some u)(r:RelV v u)(hd:(x==("__debug__":Str))=false:=by decide):PE X (.Name x pos) (tC v):=
 fun _ _ _ H _ I h=>fV I hg hm ⟨v,H,I,r,h⟩ hd
theorem B3{x:Str}{v:V}{u:Value}{pos:Pos}(hg:Gl X x)(hm:X.mg x=none)(hv:bootBuiltins x=some u)(r:RelV v u)(hn:x≠"__name__":=by decide)(hd:(x==("__debug__":Str))=false:=by decide):PE X (.Name x pos) (tC v):=
 fun _ _ _ H _ I h=>eN I hg hm hv ⟨v,H,I,r,h⟩ hn hd
variable{a b:Expr}{ta tb:TE}{pos:Pos}
def tB(t:TE):TT:=fun σ H Q=>t σ H fun x H1=>∃c,x=.bl c∧Q c H1
theorem FC{e:Expr}{t:TE}(h:PE X e t)(he:∀whole,isTrue e X.env whole=(do let v←whole;standAt e.pos;holding [v] (truthy v)):=by intro _;rfl):PT X e (tB t):=by
 intro pins s σ H Q I hw;refine isTrue_plain (bJ (h pins s σ H _ I hw) fun v s1 ⟨x,H1,I1,r1,q1⟩=>?_) (he _)
 obtain⟨d,rfl,q⟩:=q1
 cases r1;exact wpAny_truthy_bool ⟨H1,I1,q⟩
variable{tA Ij:TT}{rest:List Expr}
def L9(t u:TT):TT:=fun σ H Q=>t σ H fun c H1=>if c=true then u σ H1 Q else Q false H1
def PU(t u:TT):TT:=fun σ H Q=>t σ H fun c H1=>if c=true then Q true H1 else u σ H1 Q
def MO(t:TT):TT:=fun σ H Q=>t σ H fun c H1=>Q (!c) H1
theorem pw_and1(ha:PT X a tA):PW X (.BoolOp .And [a] pos) tA:=by
 intro wh pins s σ H Q I h;refine isTrue_and (bJ (ha pins s σ H Q I h) fun c s1 e=>?_)
 cases c with
 |true=>exact isTrue_and_nil e
 |false=>exact e
theorem pw_or1(ha:PT X a tA):PW X (.BoolOp .Or [a] pos) tA:=by
 intro wh pins s σ H Q I h;refine isTrue_or (bJ (ha pins s σ H Q I h) fun c s1 e=>?_)
 cases c with
 |false=>exact isTrue_or_nil e
 |true=>exact e
theorem pw_and(ha:PT X a tA)(hb:PW X (.BoolOp .And (b::rest) pos) Ij):PW X (.BoolOp .And (a::b::rest) pos) (L9 tA Ij):=by
 intro wh pins s σ H Q I h;refine isTrue_and (bJ (ha pins s σ H _ I h) fun c s1 ⟨H1,I1,q1⟩=>?_)
 cases c with
 |true=>exact hb wh pins s1 σ H1 Q I1 q1
 |false=>exact⟨H1,I1,q1⟩
theorem pw_or(ha:PT X a tA)(hb:PW X (.BoolOp .Or (b::rest) pos) Ij):PW X (.BoolOp .Or (a::b::rest) pos) (PU tA Ij):=by
 intro wh pins s σ H Q I h;refine isTrue_or (bJ (ha pins s σ H _ I h) fun c s1 ⟨H1,I1,q1⟩=>?_)
 cases c with
 |true=>exact⟨H1,I1,q1⟩
 |false=>exact hb wh pins s1 σ H1 Q I1 q1
theorem Ef(ha:PT X a tA):PT X (.UnaryOp .Not a pos) (MO tA):=by
 intro pins s σ H Q I h;exact isTrue_not (ha pins s σ H (fun c H1=>Q (!c) H1) I h)
def JJ(ta tb:TE):TE:=fun σ H Q=>ta σ H fun x H1=>∃c,x=.bl c∧if c=true then tb σ H1 Q else Q (.bl false) H1
def MT(ta tb:TE):TE:=fun σ H Q=>ta σ H fun x H1=>∃c,x=.bl c∧if c=true then Q (.bl true) H1 else tb σ H1 Q
def IW(ta:TE):TE:=fun σ H Q=>ta σ H fun x H1=>∃c,x=.bl c∧Q (.bl (!c)) H1
theorem x6{op}{t:TE}(h:PE X a t):PE X (.BoolOp op [a] pos) t:=fun pins s σ H Q I hw=>BoolOp_one (h pins s σ H Q I hw)
theorem FH(ha:PE X a ta)(hb:PE X (.BoolOp .And (b::rest) pos) tb):PE X (.BoolOp .And (a::b::rest) pos) (JJ ta tb):=by
 intro pins s σ H Q I h;refine BoolOp_and (bJ (ha pins s σ H _ I h) fun v s1 ⟨x,H1,I1,r1,q1⟩=>?_)
 obtain⟨c,rfl,q1⟩:=q1
 cases r1;refine wpAny_truthy_bool ?_;cases c with
 |true=>exact hb pins s1 σ H1 Q I1 q1
 |false=>exact⟨.bl false,H1,I1,rfl,q1⟩
theorem JI(ha:PE X a ta)(hb:PE X (.BoolOp .Or (b::rest) pos) tb):PE X (.BoolOp .Or (a::b::rest) pos) (MT ta tb):=by
 intro pins s σ H Q I h;refine BoolOp_or (bJ (ha pins s σ H _ I h) fun v s1 ⟨x,H1,I1,r1,q1⟩=>?_)
 obtain⟨c,rfl,q1⟩:=q1
 cases r1;refine wpAny_truthy_bool ?_;cases c with
 |false=>exact hb pins s1 σ H1 Q I1 q1
 |true=>exact⟨.bl true,H1,I1,rfl,q1⟩
theorem EH(ha:PE X a ta):PE X (.UnaryOp .Not a pos) (IW ta):=by
 intro pins s σ H Q I h;refine UnaryOp_ (bJ (ha pins s σ H _ I h) fun v s1 ⟨x,H1,I1,r1,q1⟩=>?_)
 obtain⟨c,rfl,q1⟩:=q1
 cases r1;exact not_of (wpAny_truthy_bool ⟨.bl (!c),H1,I1,rfl,q1⟩)
def OJ(t:TT)(ta tb:TE):TE:=fun σ H Q=>t σ H fun c H1=>if c=true then ta σ H1 Q else tb σ H1 Q
theorem yo{c:Expr}(hc:PT X c tA)(ha:PE X a ta)(hb:PE X b tb):PE X (.IfExp c a b pos) (OJ tA ta tb):=by
 intro pins s σ H Q I h;refine wpAny_IfExp (bJ (hc pins s σ H _ I h) fun d s1 ⟨H1,I1,q1⟩=>?_)
 cases d with
 |true=>exact ha pins s1 σ H1 Q I1 q1
 |false=>exact hb pins s1 σ H1 Q I1 q1
end
def iU(K:PySem.W.Frag)(H:Hp)(a:Addr)(xs:List V):Prop:=
 Rd H a (.lst xs)∨
  ∃(o:Obj) (aA:Array Value) (n:Nat),K.lookup a=some o∧o.cls=.type "list"∧o.dict=none∧o.data=.seq aA n∧aA.size≤sizeLine∧Vals xs aA.toList
def fj(K:PySem.W.Frag)(H:Hp)(a:Addr)(xs:List V):Prop:=
 Rd H a (.tup xs)∨
  ∃(o:Obj) (aA:Array Value) (n:Nat),K.lookup a=some o∧o.cls=.type "tuple"∧o.data=.seq aA n∧aA.size≤sizeLine∧Vals xs aA.toList
noncomputable def MQ:Value→Option V
 |.none=>some .non
 |.bool b=>some (.bl b)
 |.int i _=>some (.int i)
 |.str x _=>some (.str x)
 |.bytes b _=>some (.byt b)
 |.float b _=>some (.flt b)
 |.ref a=>some (.ref a)
 |.type n=>some (.ty n)
 |_=>none
theorem RelV.abs{x:V}{u:Value}(r:RelV x u):MQ u=some x:=by
 cases x with
 |non=>cases r;rfl
 |bl _=>cases r;rfl
 |int _=>obtain⟨t,rfl⟩:=r;rfl
 |str _=>obtain⟨t,rfl⟩:=r;rfl
 |byt _=>obtain⟨t,rfl⟩:=r;rfl
 |flt _=>obtain⟨t,rfl⟩:=r;rfl
 |ref _=>cases r;rfl
 |ty _=>cases r;rfl
theorem RelV.inj{x y:V}{u:Value}(r:RelV x u)(q:RelV y u):x=y:=Option.some.inj (r.abs.symm.trans q.abs)
theorem Vals.inj:∀{xs ys:List V} {us:List Value},Vals xs us→Vals ys us→xs=ys
 |_,_,_,.nil,.nil=>rfl
 |_,_,_,.cons r t,.cons r' t'=>by rw [r.inj r',Vals.inj t t']
section
variable{X:Cx}{pins:List (Addr×Obj)}{σ:St}{H:Hp}{s:Shared}{a:Addr}{xs ys:List V}
theorem iU.of{K:PySem.W.Frag}(h:H a=some (.lst xs)):iU K H a xs:=.inl (.inl h)
theorem Inv.list(I:Inv X pins σ H s)(h:iU X.K H a xs):∃aA:List Value,Vals xs aA∧PlainL s.heap a aA.toArray∧xs.length≤sizeLine:=by
 rcases h with h|⟨o,aA,n,hk,hc,hd,hs,hz,r⟩
 ·obtain⟨z,aA,n,r,e⟩:=h.ok I.hok
  exact⟨aA,r,⟨_,n,e,rfl,rfl,rfl⟩,z⟩
 ·refine⟨aA.toList,r,⟨o,n,I.kIn a o hk,hc,hd,by simpa using hs⟩,?_⟩;have e:=r.length
  simp only [zzd] at e;omega
theorem Inv.tuple(I:Inv X pins σ H s)(h:fj X.K H a xs):∃aA:List Value,Vals xs aA∧IsTup s.heap a aA.toArray∧xs.length≤sizeLine:=by
 rcases h with h|⟨o,aA,n,hk,hc,hs,hz,r⟩
 ·obtain⟨z,aA,r,p⟩:=h.ok I.hok
  exact⟨aA,r,p,z⟩
 ·refine⟨aA.toList,r,⟨o,I.kIn a o hk,hc,n,by simpa using hs⟩,?_⟩;have e:=r.length
  simp only [zzd] at e;omega
theorem Inv.list_inj(I:Inv X pins σ H s)(h:iU X.K H a xs)(h':iU X.K H a ys):xs=ys:=by
 obtain⟨aA,r,⟨o,n,e,_,_,d⟩,_⟩:=I.list h
 obtain⟨its',r',⟨o',n',e',_,_,d'⟩,_⟩:=I.list h'
 rw [e] at e';cases e';rw [d] at d'
 injection d' with d1 _
 have:aA=its':=by simpa using congrArg Array.toList d1
 subst this;exact r.inj r'
theorem Inv.tuple_inj(I:Inv X pins σ H s)(h:fj X.K H a xs)(h':fj X.K H a ys):xs=ys:=by
 obtain⟨aA,r,⟨o,e,_,n,d⟩,_⟩:=I.tuple h
 obtain⟨its',r',⟨o',e',_,n',d'⟩,_⟩:=I.tuple h'
 rw [e] at e';cases e';rw [d] at d'
 injection d' with d1 _
 have:aA=its':=by simpa using congrArg Array.toList d1
 subst this;exact r.inj r'
end
section
variable{X:Cx}{pins:List (Addr×Obj)}{σ:St}{H:Hp}{s:Shared}{E:Value→Shared→Prop}
end
section
variable{X:Cx}{st:Stmt}{rest:List Stmt}{t u:TS}{e:Expr}{te:TE}{pos:Pos}
def II:TS:=fun D σ H=>D.nx σ H
def LD(t u:TS):TS:=fun D σ H=>t {D with nx:=u D} σ H
theorem CC:PSs X [] II:=fun _ _ σ H _ I h=>wpAny_execs_nil ⟨σ,H,I,h⟩
theorem zC(h1:PS X st t)(h2:PSs X rest u):PSs X (st::rest) (LD t u):=by
 intro pins s σ H D I h;refine wpAny_execs_cons (bJ (h1 pins s σ H {D with nx:=u D} I h) fun f s1 q=>?_)
 cases f with
 |next=>
  obtain⟨σ',H',I',q⟩:=q
  exact h2 pins s1 σ' H' D I' q
 |ret v=>exact q
 |brk=>exact q
 |cont=>exact q
theorem Inv.quiet{pins:List (Addr×Obj)}{σ:St}{H:Hp}{s:Shared}(I:Inv X pins σ H s):interactive X.env=false:=by simp [interactive,I.ok.kind]
def Jb(te:TE):TS:=fun D σ H=>te σ H fun _ H1=>D.nx σ H1
theorem nv(he:PE X e te)(hs:swapsWith e none pos.line X.env=pure false:=by rfl):PS X (.Expr e pos) (Jb te):=by
 intro pins s σ H D I h;exact wpAny_Expr_any (bJ (he pins s σ H _ I h) fun v s1 ⟨x,H1,I1,r1,q1⟩=>⟨σ,H1,I1,q1⟩) I.quiet hs
def Lc(te:TE):TS:=fun D σ H=>te σ H D.rt
theorem FU(he:PE X e te):PS X (.Return (some e) pos) (Lc te):=by
 intro pins s σ H D I h;exact wpAny_Return_some (bJ (he pins s σ H _ I h) fun v s1 ⟨x,H1,I1,r1,q1⟩=>⟨x,σ,H1,I1,r1,q1⟩)
def Mt(c:TT)(t u:TS):TS:=fun D σ H=>c σ H fun b H1=>if b=true then t D σ H1 else u D σ H1
theorem Ja{c:Expr}{a b:List Stmt}{tc:TT}(hc:PT X c tc)(ha:PSs X a t)(hb:PSs X b u):PS X (.If c a b pos) (Mt tc t u):=by
 intro pins s σ H D I h;refine wpAny_If (bJ (hc pins s σ H _ I h) fun d s1 ⟨H1,I1,q1⟩=>?_)
 cases d with
 |true=>exact ha pins s1 σ H1 D I1 q1
 |false=>exact hb pins s1 σ H1 D I1 q1
end
abbrev TG:=V→St→Hp→(St→Hp→Prop)→Prop
abbrev DU:=List V→St→Hp→(St→Hp→Prop)→Prop
def PG(X:Cx)(target:Expr)(t:TG):Prop:=
 ∀(pins:List (Addr×Obj)) (s:Shared) (σ:St) (H:Hp) (v:V) (u:Value) (Q:St→Hp→Prop),Inv X pins σ H s→RelV v u→t v σ H Q→
  wpAny (model X.prog X.w) X.A (assign target X.env u) (fun _ s'=>∃σ' H',Inv X pins σ' H' s'∧Q σ' H') X.xe s
def Jg(X:Cx)(ts:List Expr)(t:DU):Prop:=
 ∀(pins:List (Addr×Obj)) (s:Shared) (σ:St) (H:Hp) (vs:List V) (us:List Value) (Q:St→Hp→Prop),Inv X pins σ H s→Vals vs us→t vs σ H Q→
  wpAny (model X.prog X.w) X.A (assignInOrder ((assignEach ts X.env).map (·.2)) us) (fun _ s'=>∃σ' H',Inv X pins σ' H' s'∧Q σ' H') X.xe s
abbrev Ej:=V→V→V→Hp→(Hp→Prop)→Prop
def HW(X:Cx)(t:Ej):Prop:=
 ∀(pins:List (Addr×Obj)) (s:Shared) (σ:St) (H:Hp) (o i v:V) (ov iv u:Value) (Q:Hp→Prop),Inv X pins σ H s→RelV o ov→RelV i iv→RelV v u→t o i v H Q→
  wpAny (model X.prog X.w) X.A (setItem ov iv u) (fun _ s'=>∃H',Inv X pins σ H' s'∧Q H') X.xe s
section
variable{X:Cx}{pos:Pos}
def d7(i:Nat):TG:=fun v σ H Q=>Q (σ.set i (some v)) H
theorem BH{i:Nat}{x:Str}(hN:X.N.Nodup)(hi:X.N[i]?=some x)(hx:Loc X.env.scope x)(hf:X.fn x=true∨X.env.scope.names.lookup x=some .local:=by first|exact .inl rfl|exact .inr rfl|assumption):PG X (.Name x pos) (d7 i):=by
 intro pins s σ H v u Q I r h;exact wpAny_assign_Name (qk I hN hi hx r (fun s' I'=>⟨_,H,I',h⟩) hf)
def Ct:DU:=fun vs σ H Q=>vs=[]∧Q σ H
def kZ(t:TG)(u:DU):DU:=fun vs σ H Q=>∃v r,vs=v::r∧t v σ H fun σ' H'=>u r σ' H' Q
theorem Cy:Jg X [] Ct:=by
 intro pins s σ H vs us Q I r h;obtain⟨e,h⟩:=h
 subst e;cases r;exact assignInOrder_nil ⟨σ,H,I,h⟩
theorem y8{e:Expr}{es:List Expr}{t:TG}{u:DU}(h1:PG X e t)(h2:Jg X es u)
 (hs:(assignEach (e::es) X.env).map (·.2)=assign e X.env::(assignEach es X.env).map (·.2):=by rfl):Jg X (e::es) (kZ t u):=by
 intro pins s σ H vs us Q I r h;obtain⟨v,vr,e1,h⟩:=h
 subst e1;cases r with
 |cons r rr=>
  rw [hs];refine assignInOrder_cons (bJ (h1 pins s σ H _ _ _ I r h) fun _ s1 ⟨σ1,H1,I1,q1⟩=>?_)
  exact h2 pins s1 σ1 H1 _ _ Q I1 rr q1
noncomputable def Hb(K:PySem.W.Frag)(n:Nat)(t:DU):TG:=fun v σ H Q=>∃a xs,v=.ref a∧fj K H a xs∧xs.length=n∧t xs σ H Q
theorem xW{es:List Expr}{k:Nat}{t:DU}{n:Nat}(hc:X.calm=true)(h:Jg X es t)
 (hn:(assignEach es X.env).length=n:=by rfl) (df:(assignEach es X.env).findIdx? (·.1)=none:=by rfl):PG X (.Tuple es k pos) (Hb X.K n t):=by
 intro pins s σ H v u Q I r hw;obtain⟨a,xs,e1,hq,hl,hw⟩:=hw
 subst e1;cases r;obtain⟨aA,rv,ht,hz⟩:=I.tuple hq
 refine assign_Tuple_tuple (I.ok.hd hc) ht (by simp [hn,←hl,rv.length]) df fun h' hx=>?_
 have I1:Inv X pins σ H {s with heap:=h'}:=I.kept (t':=s.toks) fun b o e=>hx b o (zzb (zzO e)) e
 exact h pins _ σ H xs _ Q I1 (by simpa using rv) hw
def LC(to ti:TE)(t:Ej):TG:=fun v σ H Q=>to σ H fun o H1=>ti σ H1 fun i H2=>t o i v H2 fun H3=>Q σ H3
theorem yc{o i:Expr}{to ti:TE}{t:Ej}(ho:PE X o to)(hi:PE X i ti)(hs:HW X t)
 (ha:∀v,assign (.Subscript o i pos) X.env v=(do
  let ov←holding [v] (eval o X.env)
  let iv←holding [v,ov] (eval i X.env)
  standAt pos
  holding [v,ov,iv] (setItem ov iv v)
  release [v,ov,iv] []):=by intro _;rfl):PG X (.Subscript o i pos) (LC to ti t):=by
 intro pins s σ H v u Q I r h;rw [ha];refine zzA (wpAny_holding (bJ (ho pins s σ H _ I h) fun ov s1 ⟨x,H1,I1,r1,q1⟩=>?_))
 refine zzA (wpAny_holding (bJ (hi pins s1 σ H1 _ I1 q1) fun iv s2 ⟨y,H2,I2,r2,q2⟩=>?_))
 refine zzA (wpAny_standAt (zzA (wpAny_holding (bJ (hs pins s2 σ H2 x y v ov iv u _ I2 r1 r2 r q2) fun _ s3 ⟨H3,I3,q3⟩=>?_))))
 exact wpAny_release ⟨σ,H3,I3,q3⟩
def BL(te:TE)(g:TG):TS:=fun D σ H=>te σ H fun x H1=>g x σ H1 D.nx
theorem yI{tg e:Expr}{te:TE}{g:TG}(he:PE X e te)(hg:PG X tg g)(hs:swapsWithSole [tg] e pos.line X.env=pure false:=by rfl)(hw:swappedStores [tg] e X.env=pure none:=by rfl)
 (h1:(assignEach [tg] X.env).map (·.2)=[assign tg X.env]:=by rfl):PS X (.Assign [tg] e pos) (BL te g):=by
 intro pins s σ H D I h;refine wpAny_Assign_stores (bJ (he pins s σ H _ I h) fun v s1 ⟨x,H1,I1,r1,q1⟩=>?_) hs hw
 rw [h1];exact bJ (hg pins s1 σ H1 x v _ I1 r1 q1) fun _ s2 q=>q
theorem iI{i:Nat}{x:Str}{e:Expr}{te:TE}{pos':Pos}(hN:X.N.Nodup)(hi:X.N[i]?=some x)(hx:Loc X.env.scope x)(he:PE X e te)(hs:swapsWith e (some (.Name x pos')) pos.line X.env=pure false:=by rfl)(hf:X.fn x=true∨X.env.scope.names.lookup x=some .local:=by first|exact .inl rfl|exact .inr rfl|assumption):
 PS X (.Assign [.Name x pos'] e pos) (BL te (d7 i)):=by
 intro pins s σ H D I h;refine wpAny_Assign_Name (bJ (he pins s σ H _ I h) fun v s1 ⟨y,H1,I1,r1,q1⟩=>?_) hs
 exact qk I1 hN hi hx r1 (fun s2 I2=>⟨_,H1,I2,q1⟩) hf
end
section
variable{X:Cx}{pos:Pos}
noncomputable def Gf(c:TT)(tb:TS):TS:=fun D σ H=>∃W:Nat→St→Hp→Prop,(∃m,W m σ H)∧∀m σ H,W m σ H→
 c σ H fun b H1=>if b=true then∃N:St→Hp→Prop,(∀σ' H',N σ' H'→∃m',m'<m∧W m' σ' H')∧tb {D with nx:=N,ct:=N,bk:=D.nx} σ H1 else D.nx σ H1
theorem zE{c:Expr}{body:List Stmt}{tc:TT}{tb:TS}(hp:PassesOwn (model X.prog X.w) X.A X.env X.xe)(hc:PT X c tc)(hb:PSs X body tb):PS X (.While c body [] pos) (Gf tc tb):=by
 intro pins s σ H D I h;obtain⟨W,⟨m0,w0⟩,turn⟩:=h
 refine wpAny_While (codeAny_whileLoop (fun n s'=>∃σ' H',Inv X pins σ' H' s'∧W n σ' H') ?_ m0 ⟨σ,H,I,w0⟩)
 rintro n s1 ⟨σ1,H1,I1,w1⟩
 refine wpAny_passesOwn hp (bJ (hc pins s1 σ1 H1 _ I1 (turn n σ1 H1 w1)) fun b s2 ⟨H2,I2,q2⟩=>?_)
 cases b with
 |true=>
  obtain⟨N,hN,q2⟩:=q2
  rw [if_pos rfl];refine wpAny_passesOwn hp (bJ (hb pins s2 σ1 H2 _ I2 q2) fun f s3 q3=>?_)
  cases f with
  |next=>
   obtain⟨σ3,H3,I3,n3⟩:=q3
   obtain⟨m',hm,w3⟩:=hN σ3 H3 n3
   exact⟨m',hm,σ3,H3,I3,w3⟩
  |cont=>
   obtain⟨σ3,H3,I3,n3⟩:=q3
   obtain⟨m',hm,w3⟩:=hN σ3 H3 n3
   exact⟨m',hm,σ3,H3,I3,w3⟩
  |brk=>exact q3
  |ret v=>exact q3
 |false=>
  rw [if_neg zzf];exact wpAny_execs_nil ⟨σ1,H2,I2,q2⟩
end
structure It where
 go:Nat→Hp→Prop
 yld:Nat→Hp→V→Hp→Prop
 stop:Nat→Hp→Prop
def fc(X:Cx)(pins:List (Addr×Obj))(H:Hp)(b:Addr):Prop:=
 H b=none∧b≠X.env.locals∧b∉X.fs∧(b∈X.ex∨X.s₀.heap.objs.size≤b)∧(∀x c,X.env.cells.lookup x=some c→c≠b)∧∀p∈X.pn++pins,p.1≠b
theorem Inv.fpOk{X:Cx}{pins:List (Addr×Obj)}{σ:St}{H H':Hp}{s:Shared}{b:Addr}(I:Inv X pins σ H s)(hb:s.heap.objs.size≤b)(hn:H' b=none):fc X pins H' b:=by
 refine⟨hn,Nat.ne_of_gt (zzW I.lt hb),I.nofs hb,.inr (zzU I.sz hb),fun x c e z=>?_,fun p hp z=>?_⟩
 ·obtain⟨v,q⟩:=I.cell x c e
  exact absurd (zzW q.lt (by rw [z];exact hb)) (Nat.lt_irrefl _)
 ·exact absurd (zzW (zzO (I.pin p hp).1) (by rw [z];exact hb)) (Nat.lt_irrefl _)
structure Turn(P:Program)(w:World)(K:PySem.W.Frag)(tg:Expr)(J:It)(fp:List Addr)(it:Addr)(tn:Nat→Heap→Prop):Prop where
 mem:it∈fp
 obj:∀i h,tn i h→∀b∈fp,∃o,h.get? b=some o∧∀v,o.data≠.cell v
 keep:∀i h h',tn i h→(∀b∈fp,∀o,h.get? b=some o→h'.get? b=some o)→tn i h'
 item:∀(X:Cx),X.prog=P→X.w=w→X.K=K→X.calm=true→∀(i:Nat) (pins:List (Addr×Obj)) (s:Shared) (σ:St) (H:Hp) (E:Value→Shared→Prop),Inv X pins σ H s→(∀b∈fp,fc X pins H b)→tn i s.heap→J.go i H→
  wpAny (model P w) X.A (pyNext (.ref it)) (fun r s1=>∃u,r=some u∧
   wpAny (model P w) X.A (letOwnedTupleGo tg (.ref it) u) (fun _ s2=>∃x H',Inv X pins σ H' s2∧RelV x u∧J.yld i H x H'∧tn (i+1) s2.heap∧∀b∈fp,H' b=none) E s1) E s
 done:∀(X:Cx),X.prog=P→X.w=w→X.K=K→X.calm=true→∀(i:Nat) (pins:List (Addr×Obj)) (s:Shared) (σ:St) (H:Hp) (E:Value→Shared→Prop),Inv X pins σ H s→(∀b∈fp,fc X pins H b)→tn i s.heap→J.stop i H→
  wpAny (model P w) X.A (pyNext (.ref it)) (fun r s1=>r=none∧Inv X pins σ H s1) E s
 self:∀(A:Around) (i:Nat) (s:Shared) (Q:Value→Shared→Prop) (E:Value→Shared→Prop),tn i s.heap→Q (.ref it) s→wpAny (model P w) A (pyIter (.ref it)) Q E s
abbrev TI:=St→Hp→(It→Hp→Prop)→Prop
def Mj(X:Cx)(pins:List (Addr×Obj))(σ:St)(tg:Expr)(R:It→Hp→Prop)(L5:Value)(s2:Shared):Prop:=
 ∃(it:Addr) (fp:List Addr) (tn:Nat→Heap→Prop) (J:It) (H':Hp),L5=.ref it∧Inv X pins σ H' s2∧Turn X.prog X.w X.K tg J fp it tn∧tn 0 s2.heap∧(∀b∈fp,fc X pins H' b)∧R J H'
def PI(X:Cx)(tg iter:Expr)(wi:TI):Prop:=
 ∀(pins:List (Addr×Obj)) (s:Shared) (σ:St) (H:Hp) (R:It→Hp→Prop),Inv X pins σ H s→wi σ H R→
  wpAny (model X.prog X.w) X.A (eval iter X.env) (fun v s1=>wpAny (model X.prog X.w) X.A (pyIter v) (Mj X pins σ tg R) X.xe s1) X.xe s
theorem pR{M:Model}{A:Around}{E:Value→Shared→Prop}{s:Shared}{tg:Expr}{it:Addr}{u:Value}{o:Obj}{n:String}{vs:Array Value}{Q:Unit→Shared→Prop}(ho:s.heap.get? it=some o)(hc:o.cls=.type n)(hd:o.data=.fields vs)
 (hn:["enumerate","zip","dict_itemiterator","dict_reverseitemiterator","odict_iterator","itertools.zip_longest","itertools.pairwise"].contains n=false) (hQ:Q () s):wpAny M A (letOwnedTupleGo tg (.ref it) u) Q E s:=by
 unfold letOwnedTupleGo;cases tg<;>first
  |exact zzG hQ
  |(cases u<;>first
   |exact zzG hQ
   | (refine zzA (wpAny_load ho ?_)
      rw [hc,hd];show wpAny M A (if(["enumerate","zip","dict_itemiterator","dict_reverseitemiterator","odict_iterator","itertools.zip_longest","itertools.pairwise"].contains n&&vs[0]?==some (rawInt _))=true then _ else _) Q E s;rw [if_neg (by intro h;rw [hn,Bool.false_and] at h;cases h)];exact zzG hQ))
noncomputable def LI(K:PySem.W.Frag)(a:Addr):It:=
 ⟨fun i H=>∃xs x,iU K H a xs∧xs[i]?=some x,fun i H x H'=>H'=H∧∀xs,iU K H a xs→xs[i]?=some x,fun i H=>∃xs,iU K H a xs∧xs.length≤i⟩
noncomputable def Mg(K:PySem.W.Frag)(a:Addr):It:=
 ⟨fun i H=>∃xs x,fj K H a xs∧xs[i]?=some x,fun i H x H'=>H'=H∧∀xs,fj K H a xs→xs[i]?=some x,fun i H=>∃xs,fj K H a xs∧xs.length≤i⟩
def Kb(lo:Int)(n:Nat):It:=⟨fun i _=>i<n,fun i H x H'=>H'=H∧x=.int (lo+i),fun i _=>n≤i⟩
theorem vJ{P:Program}{w:World}{K:PySem.W.Frag}{tg:Expr}(a it:Addr):Turn P w K tg (LI K a) [it] it (fun i h=>h.IsListIter it a i) where
 mem:=by simp
 obj:=fun i h st b hb=>by
  have e:b=it:=by simpa using hb
  subst e;obtain⟨o,e,c,d⟩:=st
  exact⟨o,e,fun v z=>by rw [d] at z;cases z⟩
 keep:=fun i h h' st k=>st.at fun o e=>k it (by simp) o e
 item:=by
  intro X hP hw hK hc i pins s σ H E I hf st hg;subst hP hw hK;obtain⟨xs,x,hq,hx⟩:=hg
  obtain⟨aA,rv,p,hz⟩:=I.list hq
  obtain⟨u,hu,ru⟩:=rv.get hx
  obtain⟨f0,f1,f2,f3,f4,f5⟩:=hf it (by simp)
  refine wpAny_pyNext_list_item st p.isList (x:=u) (by simpa using hu) fun h' gb sb=>?_
  have I1:Inv X pins σ H {s with heap:=h'}:=I.turned (t':=s.toks) (fun b o hb e=>(sb.2 b hb).trans e) f0 f1 f3 f4 f5
  obtain⟨o,e,c,d⟩:=id gb
  exact⟨u,rfl,pR (s:={s with heap:=h'}) e c d (by decide) ⟨x,H,I1,ru,⟨rfl,fun ys hy=>by rw [I.list_inj hy hq];exact hx⟩,gb,fun b hb=>(hf b hb).1⟩⟩
 done:=by
  intro X hP hw hK hc i pins s σ H E I hf st hg;subst hP hw hK;obtain⟨xs,hq,hx⟩:=hg
  obtain⟨aA,rv,p,hz⟩:=I.list hq
  obtain⟨f0,f1,f2,f3,f4,f5⟩:=hf it (by simp)
  have hl:=rv.length
  exact wpAny_pyNext_list_end (I.ok.hd hc) st p.isList (by simp;omega) fun h' eb=>⟨rfl,I.turned (t':=s.toks) (fun b o hb e=>eb b o hb e) f0 f1 f3 f4 f5⟩
 self:=fun _ _ _ _ _ st h=>wpAny_pyIter_listiter st h
theorem rB{P:Program}{w:World}{K:PySem.W.Frag}{tg:Expr}(a it:Addr):Turn P w K tg (Mg K a) [it] it (fun i h=>h.IsTupleIter it a i) where
 mem:=by simp
 obj:=fun i h st b hb=>by
  have e:b=it:=by simpa using hb
  subst e;obtain⟨o,e,c,d⟩:=st
  exact⟨o,e,fun v z=>by rw [d] at z;cases z⟩
 keep:=fun i h h' st k=>st.at fun o e=>k it (by simp) o e
 item:=by
  intro X hP hw hK hc i pins s σ H E I hf st hg;subst hP hw hK;obtain⟨xs,x,hq,hx⟩:=hg
  obtain⟨aA,rv,p,hz⟩:=I.tuple hq
  obtain⟨u,hu,ru⟩:=rv.get hx
  obtain⟨f0,f1,f2,f3,f4,f5⟩:=hf it (by simp)
  refine wpAny_pyNext_tuple_item st (show s.heap.IsTuple a aA.toArray from p) (x:=u) (by simpa using hu) fun h' gb sb=>?_
  have I1:Inv X pins σ H {s with heap:=h'}:=I.turned (t':=s.toks) (fun b o hb e=>(sb.2 b hb).trans e) f0 f1 f3 f4 f5
  obtain⟨o,e,c,d⟩:=id gb
  exact⟨u,rfl,pR (s:={s with heap:=h'}) e c d (by decide) ⟨x,H,I1,ru,⟨rfl,fun ys hy=>by rw [I.tuple_inj hy hq];exact hx⟩,gb,fun b hb=>(hf b hb).1⟩⟩
 done:=by
  intro X hP hw hK hc i pins s σ H E I hf st hg;subst hP hw hK;obtain⟨xs,hq,hx⟩:=hg
  obtain⟨aA,rv,p,hz⟩:=I.tuple hq
  obtain⟨f0,f1,f2,f3,f4,f5⟩:=hf it (by simp)
  have hl:=rv.length
  exact wpAny_pyNext_tuple_end (I.ok.hd hc) st (show s.heap.IsTuple a aA.toArray from p) (by simp;omega) fun h' eb=>⟨rfl,I.turned (t':=s.toks) (fun b o hb e=>eb b o hb e) f0 f1 f3 f4 f5⟩
 self:=fun _ _ _ _ _ st h=>wpAny_pyIter_tupleiter st h
theorem rN{P:Program}{w:World}{K:PySem.W.Frag}{tg:Expr}(it:Addr)(lo:Int)(n:Nat):Turn P w K tg (Kb lo n) [it] it (fun i h=>IsRangeIter h it (lo+(i:Nat)*1) ((n:Int)-(i:Nat)) 1) where
 mem:=by simp
 obj:=fun i h st b hb=>by
  have e:b=it:=by simpa using hb
  subst e;exact⟨_,st,fun v z=>by
   have z':Data.fields _=Data.cell v:=z
   cases z'⟩
 keep:=fun i h h' st k=>k it (by simp) _ st
 item:=by
  intro X hP hw hK hc i pins s σ H E I hf st hg;subst hP hw hK;obtain⟨f0,f1,f2,f3,f4,f5⟩:=hf it (by simp)
  have W:=Walks.range (prog:=X.prog) (w:=X.w) (I.ok.hd hc) it lo 1 n
  refine W.item i s _ _ hg st fun v h' tk hv gb kk=>?_
  obtain⟨t,rfl⟩:=hv
  have I1:Inv X pins σ H {s with heap:=h',toks:=tk}:=I.turned (fun b o hb e=>kk b o (by simpa using hb) e) f0 f1 f3 f4 f5
  refine⟨_,rfl,pR (s:={s with heap:=h',toks:=tk}) (n:="range_iterator") gb rfl rfl (by decide) ⟨.int (lo+i),H,I1,⟨t,?_⟩,⟨rfl,rfl⟩,gb,fun b hb=>(hf b hb).1⟩⟩
  rw [Int.mul_one]
 done:=by
  intro X hP hw hK hc i pins s σ H E I hf st hg;subst hP hw hK;obtain⟨f0,f1,f2,f3,f4,f5⟩:=hf it (by simp)
  exact wpAny_pyNext_range_end (I.ok.hd hc) st (by have:n≤i:=hg;omega) fun h' eb=>⟨rfl,I.turned (t':=s.toks) (fun b o hb e=>eb b o hb e) f0 f1 f3 f4 f5⟩
 self:=fun _ _ _ _ _ st h=>wpAny_pyIter_rangeiter st h
section
variable{X:Cx}{tg:Expr}
noncomputable def Ik(K:PySem.W.Frag)(tl:TE):TI:=fun σ H R=>tl σ H fun x H1=>∃a,x=.ref a∧(∃xs,iU K H1 a xs)∧R (LI K a) H1
noncomputable def MJ(K:PySem.W.Frag)(tl:TE):TI:=fun σ H R=>tl σ H fun x H1=>∃a,x=.ref a∧(∃xs,fj K H1 a xs)∧R (Mg K a) H1
theorem vg{l:Expr}{tl:TE}(hl:PE X l tl):PI X tg l (Ik X.K tl):=by
 intro pins s σ H R I h;refine bJ (hl pins s σ H _ I h) fun v s1 ⟨x,H1,I1,r1,q1⟩=>?_
 obtain⟨a,e,⟨xs,hq⟩,q⟩:=q1
 subst e;cases r1;obtain⟨aA,rv,p,hz⟩:=I1.list hq
 refine wpAny_pyIter_list p.isList ?_;refine⟨s1.heap.objs.size,[s1.heap.objs.size],_,_,H1,rfl,I1.kept (t':=s1.toks) fun b o e=>zzB _ e,vJ a _,⟨_,zzX _ rfl,rfl,rfl⟩,fun b hb=>?_,q⟩
 have e:b=s1.heap.objs.size:=by simpa using hb
 subst e;exact I1.fpOk (zzE _) (I1.hok.fresh (zzE _))
theorem FA{l:Expr}{tl:TE}(hl:PE X l tl):PI X tg l (MJ X.K tl):=by
 intro pins s σ H R I h;refine bJ (hl pins s σ H _ I h) fun v s1 ⟨x,H1,I1,r1,q1⟩=>?_
 obtain⟨a,e,⟨xs,hq⟩,q⟩:=q1
 subst e;cases r1;obtain⟨aA,rv,p,hz⟩:=I1.tuple hq
 refine wpAny_pyIter_tuple (show s1.heap.IsTuple a aA.toArray from p) ?_;refine⟨s1.heap.objs.size,[s1.heap.objs.size],_,_,H1,rfl,I1.kept (t':=s1.toks) fun b o e=>zzB _ e,rB a _,⟨_,zzX _ rfl,rfl,rfl⟩,fun b hb=>?_,q⟩
 have e:b=s1.heap.objs.size:=by simpa using hb
 subst e;exact I1.fpOk (zzE _) (I1.hok.fresh (zzE _))
theorem qq{pins:List (Addr×Obj)}{σ:St}{H:Hp}{s:Shared}{R:It→Hp→Prop}{E:Value→Shared→Prop}{lo hi:Int}{t u v:Tok}{tk:Nat}(I:Inv X pins σ H s)(h1: -(2^62)≤lo)(h2:lo<2^62)(h3: -(2^62)≤hi)(h4:hi<2^62)
 (q:R (Kb lo (hi-lo).toNat) H):wpAny (model X.prog X.w) X.A (pyIter (.ref s.heap.objs.size)) (Mj X pins σ tg R) E {s with heap:=s.heap.push {cls:=.type "range",data:=.fields #[.int lo t,.int hi u,.int 1 v]},toks:=tk}:=by
 refine wpAny_pyIter_range (IsRange.new ..) (small_one h1 h2 h3 h4) ?_;have I1:Inv X pins σ H {s with heap:=s.heap.push {cls:=.type "range",data:=.fields #[.int lo t,.int hi u,.int 1 v]},toks:=tk}:=I.kept fun b o e=>zzB _ e
 refine⟨(s.heap.push {cls:=.type "range",data:=.fields #[.int lo t,.int hi u,.int 1 v]}).objs.size,[(s.heap.push {cls:=.type "range",data:=.fields #[.int lo t,.int hi u,.int 1 v]}).objs.size],_,_,H,rfl,
  I1.kept (t':=tk) fun b o e=>zzB _ e,rN _ lo (hi-lo).toNat,?_,fun b hb=>?_,q⟩
 ·have e1:lo+((0:Nat):Int)*1=lo:=by simp
  have e2:(((hi-lo).toNat:Nat):Int)-((0:Nat):Int)=Builtin.Range.rangeSize lo hi 1:=by rw [rangeSize_one];split<;>omega
  show IsRangeIter _ _ (lo+((0:Nat):Int)*1) ((((hi-lo).toNat:Nat):Int)-((0:Nat):Int)) 1
  rw [e1,e2];exact zzX _ rfl
 ·have e:b=(s.heap.push {cls:=.type "range",data:=.fields #[.int lo t,.int hi u,.int 1 v]}).objs.size:=by simpa using hb
  subst e;exact I1.fpOk (zzE _) (I1.hok.fresh (zzE _))
def JV(ta:TA):TI:=fun σ H R=>ta σ H fun vs H1=>∃j:Int,vs=[.int j]∧ -(2^62)≤j∧j<2^62∧R (Kb 0 j.toNat) H1
def Ih(ta:TA):TI:=fun σ H R=>ta σ H fun vs H1=>∃i j:Int,vs=[.int i,.int j]∧(-(2^62)≤i∧i<2^62∧ -(2^62)≤j∧j<2^62)∧R (Kb i (j-i).toNat) H1
theorem wH{a:Expr}{ta:TA}{p pos:Pos}(hg:Gl X "range")(hm:X.mg "range"=none)(ha:PA X [a] ta)(hs:starEach [a] X.env=[(false,eval a X.env)]:=by rfl):PI X tg (.Call (.Name "range" p) [a] [] pos) (JV ta):=by
 intro pins s σ H R I h;refine Call_ (eN I hg hm boot_range (PyProof.Rows.callWith_type1 (bJ (ha pos pins s σ H _ I h) fun us s1 ⟨vs,H1,I1,r1,q1⟩=>?_) hs rfl))
 obtain⟨j,e,q1,q2,q⟩:=q1
 subst e;cases r1 with
 |cons r rr=>
  cases rr;obtain⟨t,rfl⟩:=r
  exact call_range_1 (qq I1 (by omega) (by omega) q1 q2 (by simpa using q))
theorem vj{a b:Expr}{ta:TA}{p pos:Pos}(hg:Gl X "range")(hm:X.mg "range"=none)(ha:PA X [a,b] ta)(hs:starEach [a,b] X.env=[(false,eval a X.env),(false,eval b X.env)]:=by rfl)(FY:starEach [b] X.env=[(false,eval b X.env)]:=by rfl):
 PI X tg (.Call (.Name "range" p) [a,b] [] pos) (Ih ta):=by
 intro pins s σ H R I h;refine Call_ (eN I hg hm boot_range (PyProof.Rows.callWith_type1 (bJ (ha pos pins s σ H _ I h) fun us s1 ⟨vs,H1,I1,r1,q1⟩=>?_) (by rw [hs,FY]) (by rw [FY];rfl)))
 obtain⟨i,j,e,⟨q1,q2,q3,q4⟩,q⟩:=q1
 subst e;cases r1 with
 |cons r rr=>
  cases rr with
  |cons r' rr=>
   cases rr;obtain⟨t,rfl⟩:=r
   obtain⟨t',rfl⟩:=r'
   exact call_range_2 (qq I1 q1 q2 q3 q4 q)
noncomputable def MR(wi:TI)(g:TG)(tb:TS):TS:=fun D σ H=>wi σ H fun J H1=>∃W:Nat→Nat→St→Hp→Prop,(∃m,W 0 m σ H1)∧∀i m σ H,W i m σ H→
 (J.stop i H∧D.nx σ H)∨(J.go i H∧∃N:St→Hp→Prop,(∀σ' H',N σ' H'→∃m',m'<m∧W (i+1) m' σ' H')∧∀x H',J.yld i H x H'→g x σ H' fun σ2 H2=>tb {D with nx:=N,ct:=N,bk:=D.nx} σ2 H2)
def nQ(fp:List Addr)(h:Heap):List (Addr×Obj):=fp.filterMap fun b=>(h.get? b).map fun o=>(b,o)
theorem dc{fp:List Addr}{h:Heap}{b:Addr}{o:Obj}(hb:b∈fp)(e:h.get? b=some o):(b,o)∈nQ fp h:=List.mem_filterMap.mpr ⟨b,hb,by rw [e];rfl⟩
theorem wD{fp:List Addr}{h:Heap}{p:Addr×Obj}(hp:p∈nQ fp h):p.1∈fp∧h.get? p.1=some p.2:=by
 obtain⟨b,hb,e⟩:=List.mem_filterMap.mp hp
 cases q:h.get? b with
 |none=>rw [q] at e;cases e
 |some o=>
  rw [q] at e;have e':(b,o)=p:=Option.some.inj e
  subst e';exact⟨hb,q⟩
theorem Inv.pinned{pins:List (Addr×Obj)}{σ:St}{H:Hp}{s:Shared}{fp:List Addr}(I:Inv X pins σ H s)(hf:∀b∈fp,fc X pins H b)(ho:∀b∈fp,∃o,s.heap.get? b=some o∧∀v,o.data≠.cell v):Inv X (pins++nQ fp s.heap) σ H s:=
 I.pins_of fun p hp=>(List.mem_append.mp hp).elim (fun z=>I.pin p (zzR _ z)) fun z=>by
  obtain⟨hb,e⟩:=wD z
  obtain⟨f0,f1,f2,_⟩:=hf p.1 hb
  obtain⟨o,e',d⟩:=ho p.1 hb
  rw [e] at e';cases e';exact⟨e,f0,f1,f2,d⟩
theorem Inv.unpinned{pins pl:List (Addr×Obj)}{σ:St}{H:Hp}{s:Shared}(I:Inv X (pins++pl) σ H s):Inv X pins σ H s:=I.pins_of fun p hp=>I.pin p (zzR _ (zzc _ hp))
theorem Ge{iter:Expr}{body:List Stmt}{wi:TI}{g:TG}{tb:TS}{pos:Pos}(hp:PassesOwn (model X.prog X.w) X.A X.env X.xe)(hc:X.calm=true)(hi:PI X tg iter wi)(hg:PG X tg g)(hb:PSs X body tb)
 (hs:∀x,foldedSetIterable iter X.env x=pure x:=by intro _;rfl):PS X (.For tg iter body [] pos) (MR wi g tb):=by
 intro pins s σ H D I h;refine wpAny_For (bJ (hi pins s σ H _ I h) fun v s1 h1=>bJ h1 fun L5 s2 h2=>?_) hs
 obtain⟨it,fp,tn,J,H2,e,I2,T,Lp,f2,W,⟨m0,w0⟩,turn⟩:=h2
 subst e;have GY:∀{H':Hp},(∀b∈fp,H' b=none)→∀b∈fp,fc X pins H' b:=fun hn b hb=>⟨hn b hb,(f2 b hb).2⟩
 refine codeAny_forLoop_any (fun n s'=>∃i σ' H',Inv X pins σ' H' s'∧tn i s'.heap∧(∀b∈fp,H' b=none)∧W i n σ' H') ?_ m0 ⟨0,σ,H2,I2,Lp,fun b hb=>(f2 b hb).1,w0⟩
 rintro n s3 ⟨i,σ3,H3,I3,st3,fr3,w3⟩
 rcases turn i n σ3 H3 w3 with⟨stop,qn⟩|⟨go,N,hN,step⟩
 ·refine wpAny_passesOwn hp (bJ (T.done X rfl rfl rfl hc i pins s3 σ3 H3 X.xe I3 (GY fr3) st3 stop) fun r s4 ⟨hr,I4⟩=>?_)
  subst hr;exact wpAny_execs_nil ⟨σ3,H3,I4,qn⟩
 ·refine wpAny_passesOwn hp (bJ (T.item X rfl rfl rfl hc i pins s3 σ3 H3 X.xe I3 (GY fr3) st3 go) fun r s4 ⟨u,hr,h4⟩=>?_)
  subst hr;refine wpAny_passesOwn hp (bJ h4 fun _ s5 ⟨x,H5,I5,r5,y5,st5,fr5⟩=>?_);have Mc:=I5.pinned (GY fr5) (T.obj _ _ st5)
  refine wpAny_passesOwn hp (bJ (hg _ s5 σ3 H5 x u _ Mc r5 (step x H5 y5)) fun _ s6 ⟨σ6,H6,I6,q6⟩=>?_)
  refine wpAny_passesOwn hp (bJ (hb _ s6 σ6 H6 _ I6 q6) fun f s7 q7=>?_)
  have again:∀{σ7:St} {H7:Hp},Inv X (pins++nQ fp s5.heap) σ7 H7 s7→N σ7 H7→∃m,m<n∧∃i σ' H',Inv X pins σ' H' s7∧tn i s7.heap∧(∀b∈fp,H' b=none)∧W i m σ' H':=fun{σ7 H7} I7 n7=>by
   obtain⟨m',hm,w7⟩:=hN σ7 H7 n7
   refine⟨m',hm,i+1,σ7,H7,I7.unpinned,T.keep _ _ _ st5 fun b hb o e=>(I7.pin (b,o) (zzR _ (zzR _ (dc hb e)))).1,fun b hb=>?_,w7⟩
   obtain⟨o,e,d⟩:=T.obj _ _ st5 b hb
   exact(I7.pin (b,o) (zzR _ (zzR _ (dc hb e)))).2.1
  cases f with
  |next=>obtain⟨σ7,H7,I7,n7⟩:=q7;exact again I7 n7
  |cont=>obtain⟨σ7,H7,I7,n7⟩:=q7;exact again I7 n7
  |brk=>obtain⟨σ7,H7,I7,q7⟩:=q7;exact⟨σ7,H7,I7.unpinned,q7⟩
  |ret v=>obtain⟨x7,σ7,H7,I7,r7,q7⟩:=q7;exact⟨x7,σ7,H7,I7.unpinned,r7,q7⟩
end
abbrev R2:=V→V→Hp→VK→Prop
def gG(X:Cx)(f:Value→Value→Sem Value)(r:R2):Prop:=
 ∀(pins:List (Addr×Obj)) (s:Shared) (σ:St) (H:Hp) (x y:V) (v u:Value) (Q:VK),Inv X pins σ H s→RelV x v→RelV y u→r x y H Q→
  wpAny (model X.prog X.w) X.A (f v u) (EP X pins σ Q) X.xe s
def K4(X:Cx)(f:Value→Sem Value)(r:V→Hp→VK→Prop):Prop:=
 ∀(pins:List (Addr×Obj)) (s:Shared) (σ:St) (H:Hp) (x:V) (v:Value) (Q:VK),Inv X pins σ H s→RelV x v→r x H Q→
  wpAny (model X.prog X.w) X.A (f v) (EP X pins σ Q) X.xe s
def cu(X:Cx)(f:Value)(r:List V→Hp→VK→Prop):Prop:=
 ∀(pins:List (Addr×Obj)) (s:Shared) (σ:St) (H:Hp) (xs:List V) (us:List Value) (Q:VK),Inv X pins σ H s→Vals xs us→r xs H Q→
  wpAny (model X.prog X.w) X.A (call f us) (EP X pins σ Q) X.xe s
noncomputable def Hu(r:R2)(ta tb:TE):TE:=fun σ H Q=>ta σ H fun x H1=>tb σ H1 fun y H2=>r x y H2 Q
def Oq(r:V→Hp→VK→Prop)(ta:TE):TE:=fun σ H Q=>ta σ H fun x H1=>r x H1 Q
noncomputable def rI(C:Int→Int→Prop)(g:Int→Int→V):R2:=fun x y H Q=>∃i j,x=.int i∧y=.int j∧C i j∧Q (g i j) H
noncomputable def Eh(g:Int→Int→V):R2:=fun x y H Q=>∃i j,x=.int i∧y=.int j∧Q (g i j) H
def rU(g:Int→V):V→Hp→VK→Prop:=fun x H Q=>∃i,x=.int i∧Q (g i) H
section
variable{X:Cx}{a b c:Expr}{ta tb tc:TE}{pos:Pos}
theorem Fb(ha:PE X a ta)(hb:PE X b tb){pins:List (Addr×Obj)}{s:Shared}{σ:St}{H:Hp}{R:V→V→Hp→Prop}(I:Inv X pins σ H s)
 (h:ta σ H fun x H1=>tb σ H1 fun y H2=>R x y H2) {Q:Value→Shared→Prop} {f:Value→Value→Sem Value}
 (hf:∀v u s2 x y H2,Inv X pins σ H2 s2→RelV x v→RelV y u→R x y H2→wpAny (model X.prog X.w) X.A (f v u) Q X.xe s2):
 wpAny (model X.prog X.w) X.A (eval a X.env) (fun v s₁=>wpAny (model X.prog X.w) X.A (eval b X.env) (fun u s₂=>wpAny (model X.prog X.w) X.A (f v u) Q X.xe s₂) X.xe s₁) X.xe s:=by
 refine bJ (ha pins s σ H _ I h) fun v s1 ⟨x,H1,I1,r1,q1⟩=>?_
 refine bJ (hb pins s1 σ H1 _ I1 q1) fun u s2 ⟨y,H2,I2,r2,q2⟩=>?_
 exact hf v u s2 x y H2 I2 r1 r2 q2
theorem JW{op:Operator}{r:R2}(ho:gG X (binaryOp op) r)(ha:PE X a ta)(hb:PE X b tb):PE X (.BinOp a op b pos) (Hu r ta tb):=by
 intro pins s σ H Q I h;exact wpAny_BinOp (Fb ha hb I h fun v u s2 x y H2 I2 rx ry q=>ho pins s2 σ H2 x y v u Q I2 rx ry q)
theorem JN{op:UnaryOp}{r:V→Hp→VK→Prop}(ho:K4 X (unaryOp op) r)(ha:PE X a ta):PE X (.UnaryOp op a pos) (Oq r ta):=by
 intro pins s σ H Q I h;exact UnaryOp_ (bJ (ha pins s σ H _ I h) fun v s1 ⟨x,H1,I1,r1,q1⟩=>ho pins s1 σ H1 x v Q I1 r1 q1)
theorem zr{f:Value→Value→Sem Value}{C:Int→Int→Prop}{g:Int→Int→Int}
 (rule:∀(i j:Int) (t u:Tok) (s:Shared) (Q:Value→Shared→Prop) (E:Value→Shared→Prop),C i j→Q (.int (g i j) s.toks) {s with toks:=s.toks+1}→wpAny (model X.prog X.w) X.A (f (.int i t) (.int j u)) Q E s):
 gG X f (rI C fun i j=>.int (g i j)):=by
 intro pins s σ H x y v u Q I rx ry h;obtain⟨i,j,rfl,rfl,hc,q⟩:=h
 obtain⟨t,rfl⟩:=rx
 obtain⟨t',rfl⟩:=ry
 exact rule i j t t' s _ _ hc ⟨.int (g i j),H,I.tok _,⟨_,rfl⟩,q⟩
theorem H9{f:Value→Value→Sem Value}{g:Int→Int→Int}
 (rule:∀(i j:Int) (t u:Tok) (s:Shared) (Q:Value→Shared→Prop) (E:Value→Shared→Prop),Q (.int (g i j) s.toks) {s with toks:=s.toks+1}→wpAny (model X.prog X.w) X.A (f (.int i t) (.int j u)) Q E s):
 gG X f (Eh fun i j=>.int (g i j)):=by
 intro pins s σ H x y v u Q I rx ry h;obtain⟨i,j,rfl,rfl,q⟩:=h
 obtain⟨t,rfl⟩:=rx
 obtain⟨t',rfl⟩:=ry
 exact rule i j t t' s _ _ ⟨.int (g i j),H,I.tok _,⟨_,rfl⟩,q⟩
theorem Em{f:Value→Value→Sem Value}{g:Int→Int→Bool}
 (rule:∀(i j:Int) (t u:Tok) (s:Shared) (Q:Value→Shared→Prop) (E:Value→Shared→Prop),Q (.bool (g i j)) s→wpAny (model X.prog X.w) X.A (f (.int i t) (.int j u)) Q E s):
 gG X f (Eh fun i j=>.bl (g i j)):=by
 intro pins s σ H x y v u Q I rx ry h;obtain⟨i,j,rfl,rfl,q⟩:=h
 obtain⟨t,rfl⟩:=rx
 obtain⟨t',rfl⟩:=ry
 exact rule i j t t' s _ _ ⟨.bl (g i j),H,I,rfl,q⟩
def Mu(i j:Int):Prop:=0<j∧j<1073741824
def FX(i j:Int):Prop:=(-(2^64)<i∧i<2^64)∨(-(2^64)<j∧j<2^64)
theorem FX.ok{i j:Int}(h:FX i j):IntMulOk i j:=by
 rcases h with⟨h1,h2⟩|⟨h1,h2⟩
 ·exact .of_left (intBits_le_64 h1 h2)
 ·exact .of_right (intBits_le_64 h1 h2)
theorem Ey:gG X (binaryOp .Add) (Eh fun i j=>.int (i+j)):=H9 fun _ _ _ _ _ _ _ q=>add_int q
theorem Ff:gG X (binaryOp .Sub) (Eh fun i j=>.int (i-j)):=H9 fun _ _ _ _ _ _ _ q=>sub_int q
theorem Hm:gG X (binaryOp .Mult) (rI FX fun i j=>.int (i*j)):=zr fun _ _ _ _ _ _ _ hc q=>mul_int q hc.ok
theorem CB:gG X (binaryOp .FloorDiv) (rI Mu fun i j=>.int (i/j)):=zr fun i j _ _ _ _ _ hc q=>by
 have h1:(0:Int)<j:=hc.1
 have h2:j<1073741824:=hc.2
 exact floordiv_int (by omega) (by rw [Int.fdiv_eq_ediv_of_nonneg i (by omega)];exact q) (.inl (PyProof.noPylong_small (by omega)))
theorem FN:gG X (binaryOp .Mod) (rI (fun _ j=>0<j) fun i j=>.int (i%j)):=zr fun i j _ _ _ _ _ hc q=>by
 have h1:(0:Int)<j:=hc
 exact mod_int' (by omega) (by rw [Int.fmod_eq_emod_of_nonneg i (by omega)];exact q)
theorem OD{f:Value→Sem Value}{g:Int→Int}
 (rule:∀(i:Int) (t:Tok) (s:Shared) (Q:Value→Shared→Prop) (E:Value→Shared→Prop),Q (.int (g i) s.toks) {s with toks:=s.toks+1}→wpAny (model X.prog X.w) X.A (f (.int i t)) Q E s):
 K4 X f (rU fun i=>.int (g i)):=by
 intro pins s σ H x v Q I rx h;obtain⟨i,rfl,q⟩:=h
 obtain⟨t,rfl⟩:=rx
 exact rule i t s _ _ ⟨.int (g i),H,I.tok _,⟨_,rfl⟩,q⟩
theorem FF:K4 X (unaryOp .USub) (rU fun i=>.int (-i)):=OD fun _ _ _ _ _ q=>neg_int q
end
section
variable{X:Cx}{a b c:Expr}{ta tb tc:TE}{pos:Pos}
theorem EG{pins:List (Addr×Obj)}{σ:St}{H:Hp}{s:Shared}{Q:VK}{k k':Bool}(I:Inv X pins σ H s)(q:Q (.bl k) H)(e:k=k'):EP X pins σ Q (.bool k') s:=by
 subst e;exact⟨.bl k,H,I,rfl,q⟩
theorem J5:gG X (compareOp .Lt) (Eh fun i j=>.bl (decide (i<j))):=Em fun _ _ _ _ _ _ _ q=>lt_int q
theorem Js:gG X (compareOp .LtE) (Eh fun i j=>.bl (decide (i≤j))):=Em fun _ _ _ _ _ _ _ q=>le_int q
theorem IF:gG X (compareOp .Gt) (Eh fun i j=>.bl (decide (j<i))):=Em fun _ _ _ _ _ _ _ q=>gt_int q
theorem BX:gG X (compareOp .IsNot) (fun x y H Q=>y=.non∧Q (.bl (!decide (x=.non))) H):=by
 intro pins s σ H x y v u Q I rx ry h;obtain⟨rfl,q⟩:=h
 cases ry;refine isnot_none_gen (EG I q ?_);cases x<;>first
  |(cases rx;rfl)
  |(obtain⟨t,rfl⟩:=rx;rfl)
theorem MP(b:Expr){op:CmpOp}(h:op≠.In:=by decide)(h2:op≠.NotIn:=by decide):behindInMarks op b=false:=by
 have e1:(op==CmpOp.In)=false:=by cases op<;>first|rfl|exact absurd rfl h
 have e2:(op==CmpOp.NotIn)=false:=by cases op<;>first|rfl|exact absurd rfl h2
 cases b<;>simp [behindInMarks,e1,e2]
theorem Dp{op:CmpOp}{r:R2}(ho:gG X (compareOp op) r)(ha:PE X a ta)(hb:PE X b tb)(hm:behindInMarks op b=false):PE X (.Compare a [op] [b] pos) (Hu r ta tb):=by
 intro pins s σ H Q I h;exact wpAny_Compare1 (Fb ha hb I h fun v u s2 x y H2 I2 rx ry q=>ho pins s2 σ H2 x y v u Q I2 rx ry q) hm
def xN(t:TE):TT:=fun σ H Q=>t σ H fun x H'=>∃k,x=.bl k∧Q k H'
theorem BR{op:CmpOp}{r:R2}(ho:gG X (compareOp op) r)(ha:PE X a ta)(hb:PE X b tb)(hm:behindInMarks op b=false):PT X (.Compare a [op] [b] pos) (xN (Hu r ta tb)):=by
 intro pins s σ H Q I h;refine wpAny_isTrue_Compare1 (bJ (ha pins s σ H _ I h) fun v s1 ⟨x,H1,I1,r1,q1⟩=>bJ (hb pins s1 σ H1 _ I1 q1) fun u s2 ⟨y,H2,I2,r2,q2⟩=>
  bJ (ho pins s2 σ H2 x y v u _ I2 r1 r2 q2) fun c s3 ⟨z,H3,I3,r3,k,e,q3⟩=>?_) hm
 subst e;cases r3;exact wpAny_truthy_bool ⟨H3,I3,q3⟩
noncomputable def rF(r r':R2)(ta tb tc:TE):TE:=fun σ H Q=>ta σ H fun x H1=>tb σ H1 fun y H2=>r x y H2 fun z H3=>∃k,z=.bl k∧
 (if k=true then tc σ H3 fun w' H4=>r' y w' H4 Q else Q (.bl false) H3)
theorem xB{op E4:CmpOp}{r r':R2}(ho:gG X (compareOp op) r)(iD:gG X (compareOp E4) r')(ha:PE X a ta)(hb:PE X b tb)(hc:PE X c tc)
 (hm:lastMarks [op,E4] [b,c]=false:=by with_unfolding_all rfl):PE X (.Compare a [op,E4] [b,c] pos) (rF r r' ta tb tc):=by
 intro pins s σ H Q I h;refine Compare_chain (bJ (ha pins s σ H _ I h) fun v s1 ⟨x,H1,I1,r1,q1⟩=>chain_link (bJ (hb pins s1 σ H1 _ I1 q1) fun u s2 ⟨y,H2,I2,r2,q2⟩=>
  bJ (ho pins s2 σ H2 x y v u _ I2 r1 r2 q2) fun d s3 ⟨z,H3,I3,r3,k,e,q3⟩=>?_)) hm
 subst e;cases r3;refine wpAny_truthy_bool ?_;cases k with
 |false=>exact ite_ff ⟨.bl false,H3,I3,rfl,q3⟩
 |true=>exact ite_tt (chain_last (bJ (hc pins s3 σ H3 _ I3 q3) fun w' s4 ⟨z',H4,I4,r4,q4⟩=>iD pins s4 σ H4 y z' u w' Q I4 r2 r4 q4))
theorem yZ{op E4:CmpOp}{r r':R2}(ho:gG X (compareOp op) r)(iD:gG X (compareOp E4) r')(ha:PE X a ta)(hb:PE X b tb)(hc:PE X c tc)
 (hm:lastMarks [op,E4] [b,c]=false:=by with_unfolding_all rfl):PT X (.Compare a [op,E4] [b,c] pos) (xN (rF r r' ta tb tc)):=by
 intro pins s σ H Q I h;refine isTrue_chain (bJ (ha pins s σ H _ I h) fun v s1 ⟨x,H1,I1,r1,q1⟩=>test_link (bJ (hb pins s1 σ H1 _ I1 q1) fun u s2 ⟨y,H2,I2,r2,q2⟩=>
  bJ (ho pins s2 σ H2 x y v u _ I2 r1 r2 q2) fun d s3 ⟨z,H3,I3,r3,k,e,q3⟩=>?_)) hm
 subst e;cases r3;refine wpAny_truthy_bool ?_;cases k with
 |false=>
  obtain⟨k',e',q'⟩:=q3
  cases e';exact ite_ff ⟨H3,I3,q'⟩
 |true=>
  refine ite_tt (test_last (bJ (hc pins s3 σ H3 _ I3 q3) fun w' s4 ⟨z',H4,I4,r4,q4⟩=>bJ (iD pins s4 σ H4 y z' u w' _ I4 r2 r4 q4) fun d' s5 ⟨z2,H5,I5,r5,k2,e2,q5⟩=>?_))
  subst e2;cases r5;exact wpAny_truthy_bool ⟨H5,I5,q5⟩
theorem lH:(sizeLine:Nat)<2^63:=by rw [sizeLine_eq];decide
theorem su:gG X (binaryOp .Add) (fun x y H Q=>∃i j,x=.str i∧y=.str j∧i.length+j.length≤sizeLine∧Q (.str (i++j)) H):=by
 intro pins s σ H x y v u Q I rx ry h;obtain⟨i,j,rfl,rfl,hz,q⟩:=h
 obtain⟨t,rfl⟩:=rx
 obtain⟨t',rfl⟩:=ry
 exact add_str (fun t' tk=>⟨.str (i++j),H,I.tok _,⟨_,rfl⟩,q⟩) hz
theorem vals1{x:V}{us:List Value}(r:Vals [x] us):∃u,us=[u]∧RelV x u:=by
 cases r with
 |cons r1 r2=>cases r2;exact⟨_,rfl,r1⟩
theorem vals2{x y:V}{us:List Value}(r:Vals [x,y] us):∃u w',us=[u,w']∧RelV x u∧RelV y w':=by
 cases r with
 |cons r1 r2=>
  cases r2 with
  |cons r3 r4=>cases r4;exact⟨_,_,rfl,r1,r3⟩
theorem zH:cu X (.builtin "abs") (fun xs H Q=>∃i,xs=[.int i]∧Q (.int (if i<0 then -i else i)) H):=by
 intro pins s σ H xs us Q I r h;obtain⟨i,rfl,q⟩:=h
 obtain⟨u,rfl,t,rfl⟩:=vals1 r
 exact call_abs_int fun u tk=>⟨.int (if i<0 then -i else i),H,I.tok _,⟨_,rfl⟩,q⟩
theorem vB(hc:X.calm=true):cu X (.builtin "max") (fun xs H Q=>∃i j,xs=[.int i,.int j]∧Q (.int (if j>i then j else i)) H):=by
 intro pins s σ H xs us Q I r h;obtain⟨i,j,rfl,q⟩:=h
 obtain⟨u,w',rfl,⟨t,rfl⟩,⟨t',rfl⟩⟩:=vals2 r
 refine max_two_ints (I.ok.hd hc) fun h' tk k=>⟨_,H,I.kept k,?_,q⟩
 by_cases hj:j>i
 ·rw [if_pos hj,if_pos hj];exact⟨_,rfl⟩
 ·rw [if_neg hj,if_neg hj];exact⟨_,rfl⟩
theorem nA:cu X (.type "str") (fun xs H Q=>∃i,xs=[.int i]∧i.natAbs.log2<1920∧Q (.str (toString i)) H):=by
 intro pins s σ H xs us Q I r h;obtain⟨i,rfl,hz,q⟩:=h
 obtain⟨u,rfl,t,rfl⟩:=vals1 r
 exact PySem.P.str_of_int hz ⟨.str _,H,I.tok _,⟨_,rfl⟩,q⟩
end
section
variable{prog:Program}{w:World}{A:Around}{E:Value→Shared→Prop}{s:Shared}{K:PySem.W.Frag}{x dx C f:Addr}{mA:Str→Option Value}{name:Str}{v:Value}
end
theorem jl.some_of{v:V}{o:Option Value}(r:jl (some v) o):∃u,o=some u∧RelV v u:=by
 cases o with
 |none=>exact(show False from r).elim
 |some u=>exact⟨u,rfl,r⟩
section
variable{P:Program}{w:World}{H H':Hp}{h h':Heap}{a C dx:Addr}{fs Mo:List (Str×V)}
end
section
variable{X:Cx}{pins:List (Addr×Obj)}{σ:St}{H:Hp}{s:Shared}{a C dx:Addr}{fs:List (Str×V)}{f:Str}{v:V}{A:Around}{E:Value→Shared→Prop}
end
section
variable{X:Cx}{o e value:Expr}{f:Str}{pos pos' kf:Pos}{ta tv:TE}
end
section
variable{X:Cx}{pins:List (Addr×Obj)}{σ:St}{H:Hp}{s:Shared}{A:Around}{E:Value→Shared→Prop}{Q:Value→Shared→Prop}{c:Value}{b:Bool}
end
structure dw(k:Nat)(A:Around):Prop where
 hd:A.handled=none
 dp:A.depth+3*k+5<recursionLimit
 un:A.units+16*k+200<cLine
theorem dw.mono{j k:Nat}{A:Around}(r:dw k A)(h:j≤k):dw j A:=⟨r.hd,by have:=r.dp;omega,by have:=r.un;omega⟩
theorem dw.deeper{k:Nat}{A:Around}(r:dw (k+1) A)(env:Env):dw k (A.deeper env):=
 ⟨r.hd,by have:=r.dp;show A.depth+1+3*k+5<_;omega,by have:=r.un;show A.units+3+16*k+200<_;omega⟩
theorem dw.in1{k:Nat}{A:Around}(r:dw (k+1) A):dw k A.in1:=
 ⟨r.hd,by have:=r.dp;show A.depth+3*k+5<_;omega,by have:=r.un;show A.units+1+16*k+200<_;omega⟩
theorem dw.depth{k:Nat}{A:Around}(r:dw k A):A.depth<recursionLimit:=by have:=r.dp;omega
theorem dw.units{k:Nat}{A:Around}(r:dw k A):A.units+64<cLine:=by have:=r.un;omega
def Lr:TA:=fun _ H Q=>Q [] H
def Jj(ta:TE)(tr:TA):TA:=fun σ H Q=>ta σ H fun x H1=>tr σ H1 fun xs H2=>Q (x::xs) H2
section
variable{X:Cx}{e:Expr}{es:List Expr}{te:TE}{t:TA}{pos:Pos}
theorem d8:PA X [] Lr:=fun _ _ _ _ H Q I h=>Calls.spliced_nil ⟨[],H,I,.nil,h⟩
theorem cA(ha:PE X e te)(hr:PA X es t)(hs:starEach (e::es) X.env=(false,eval e X.env)::starEach es X.env:=by rfl):PA X (e::es) (Jj te t):=by
 intro pos pins s σ H Q I h;rw [hs];show wpAny _ _ (spliced ((false,eval e X.env)::backTo pos (starEach es X.env))) _ _ s;refine Calls.spliced_cons (bJ (ha pins s σ H _ I h) fun u s1 ⟨x,H1,I1,r1,q1⟩=>?_)
 exact bJ (hr pos pins s1 σ H1 _ I1 q1) fun us s2 ⟨xs,H2,I2,r2,q2⟩=>⟨x::xs,H2,I2,.cons r1 r2,q2⟩
def LA(t:TA):TE:=fun σ H Q=>t σ H fun xs H1=>xs.length≤sizeLine∧∀p,H1 p=none→Q (.ref p) (upd H1 p (.tup xs))
def Lv(t:TA):TE:=fun σ H Q=>t σ H fun xs H1=>xs.length≤sizeLine∧∀p,H1 p=none→Q (.ref p) (upd H1 p (.lst xs))
theorem Fm{x1}(h:PA X es t):PE X (.Tuple es x1 pos) (LA t):=by
 intro pins s σ H Q I hq;refine wpAny_Tuple_spliced (bJ (h pos pins s σ H _ I hq) fun us s1 ⟨xs,H1,I1,r,z,q⟩=>⟨by rw [←r.length];exact z,?_⟩)
 have hf:H1 s1.heap.objs.size=none:=I1.hok.fresh (zzE _)
 refine⟨.ref s1.heap.objs.size,upd H1 s1.heap.objs.size (.tup xs),I1.laid (t':=s1.toks) (fun b u e=>zzB _ e) (zzE _) ?_,rfl,q _ hf⟩;exact⟨z,us,r,⟨_,zzX _ rfl,rfl,_,rfl⟩⟩
theorem Ga(h:PA X es t):PE X (.List es pos) (Lv t):=by
 intro pins s σ H Q I hq;refine wpAny_List_spliced (bJ (h pos pins s σ H _ I hq) fun us s1 ⟨xs,H1,I1,r,z,q⟩=>⟨by rw [←r.length];exact z,?_⟩)
 have hf:H1 s1.heap.objs.size=none:=I1.hok.fresh (zzE _)
 refine⟨.ref s1.heap.objs.size,upd H1 s1.heap.objs.size (.lst xs),I1.laid (t':=s1.toks) (fun b u e=>zzB _ e) (zzE _) ?_,rfl,q _ hf⟩;exact⟨z,us,0,r,zzX _ rfl⟩
end
abbrev Sp:=List V→Hp→VK→XK→Prop
abbrev rn:=List Env→Hp→Shared→XK→Value→Shared→Prop
structure g8(P:Program)(w:World)(K:PySem.W.Frag)(mg:Str→Option Value)(base:Heap)(A:Around)(outer:List Env)(s:Shared)(H:Hp):Prop where
 frames:A.frames=some outer
 mod:Mod K mg base
 bs:∀b o,base.get? b=some o→s.heap.get? b=some o∧H b=none
 bsz:base.objs.size≤s.heap.objs.size
 funs:s.heap.FunFrames base outer
 frf:∀b∈eo outer,H b=none
 hok:dU P w H s.heap
 bare:AllBare s.gens
def CE(outer:List Env)(P:Program)(w:World)(H:Hp)(s:Shared)(Q:VK)(u:Value)(s':Shared):Prop:=
 ∃v H',s'.os=s.os∧AllBare s'.gens∧Un (eo outer) [] H H' s.heap s'.heap∧dU P w H' s'.heap∧RelV v u∧Q v H'
def CR(CX:rn)(outer:List Env)(P:Program)(w:World)(H:Hp)(s:Shared)(Q:VK)(E:XK)(r:Result)(s':Shared):Prop:=
 match r with
 |.ok (.ret u)=>CE outer P w H s Q u s'
 |.ok _=>False
 |.error e=>CX outer H s E e s'
structure fx(P:Program)(w:World)(K:PySem.W.Frag)(mg:Str→Option Value)(base:Heap)(CX:rn)(k:Nat)(f:Addr)(fd:FuncData)(ps:List Str)(sp:Sp):Prop where
 len:∀vs H Q E,sp vs H Q E→vs.length=ps.length
 run:∀(A:Around) (outer:List Env) (s:Shared) (H:Hp) (args:Args) (us:List Value) (vs:List V) (Q:VK) (E:XK),dw k A→g8 P w K mg base A outer s H→BindsTo s fd args (ps.zip us)→Vals vs us→sp vs H Q E→
  codeAny (model P w) A (.call (.ref f) args) (CR CX outer P w H s Q E) s
theorem fx.mono{P:Program}{w:World}{K:PySem.W.Frag}{mg:Str→Option Value}{base:Heap}{CX:rn}{j k:Nat}{f:Addr}{fd:FuncData}{ps:List Str}{sp:Sp}(F:fx P w K mg base CX j f fd ps sp)(h:j≤k):
 fx P w K mg base CX k f fd ps sp:=⟨F.len,fun A outer s H args us vs Q E hr=>F.run A outer s H args us vs Q E (hr.mono h)⟩
theorem fx.imp{P:Program}{w:World}{K:PySem.W.Frag}{mg:Str→Option Value}{base:Heap}{CX:rn}{k:Nat}{f:Addr}{fd:FuncData}{ps:List Str}{sp Ny:Sp}(F:fx P w K mg base CX k f fd ps sp)
 (h:∀vs H Q E,Ny vs H Q E→sp vs H Q E):fx P w K mg base CX k f fd ps Ny:=
 ⟨fun vs H Q E q=>F.len vs H Q E (h _ _ _ _ q),fun A outer s H args us vs Q E hr he hb hv hs=>F.run A outer s H args us vs Q E hr he hb hv (h _ _ _ _ hs)⟩
theorem g8.in1{P:Program}{w:World}{K:PySem.W.Frag}{mg:Str→Option Value}{base:Heap}{A:Around}{outer:List Env}{s:Shared}{H:Hp}(e:g8 P w K mg base A outer s H):
 g8 P w K mg base A.in1 outer s H:=⟨e.frames,e.mod,e.bs,e.bsz,e.funs,e.frf,e.hok,e.bare⟩
section
variable{X:Cx}{pins:List (Addr×Obj)}{σ:St}{H:Hp}{s s':Shared}
theorem Inv.env0(I:Inv X pins σ H s):g8 X.prog X.w X.K X.mg X.base X.A X.stack s H:=
 ⟨I.ok.frames,I.ok.mod,I.bs,zzU I.ok.bsz I.sz,I.stack,I.stkFree,I.hok,I.bare⟩
theorem Inv.after{Q:VK}{u:Value}(I:Inv X pins σ H s)(h:CE X.stack X.prog X.w H s Q u s'):EP X pins σ Q u s':=by
 obtain⟨v,H',os,bare,un,hok,r,q⟩:=h
 obtain⟨hh,g,d,t,os'⟩:=s'
 obtain rfl:os'=s.os:=os
 exact⟨v,H',I.call (h':=hh) (g':=g) (d':=d) (t':=t) (ch:=[]) un hok bare (fun b z=>absurd z (by simp)),r,q⟩
end
def Binds(K:PySem.W.Frag)(fd:FuncData)(ps:List Str)(ds:List Value):Prop:=
 ∀(s:Shared) (us:List Value),K.In s.heap→(us++ds).length=ps.length→BindsTo s fd ⟨us,[]⟩ (ps.zip (us++ds))
theorem Binds.all{K:PySem.W.Frag}{fd:FuncData}{ps:List Str}(h:∀us:List Value,us.length=ps.length→bindArgs fd ⟨us,[]⟩=pure (ps.zip us)):Binds K fd ps []:=fun s us _ hl=>by
 rw [List.append_nil] at hl⊢;exact .of_eq (h us hl)
def Passes(CX:rn)(X:Cx)(E:XK):Prop:=∀(pins:List (Addr×Obj)) (σ:St) (H:Hp) (s:Shared) (e:Value) (s':Shared),Inv X pins σ H s→CX X.stack H s E e s'→X.xe e s'
section
variable{X:Cx}{CX:rn}{k:Nat}{f C:Addr}{fd:FuncData}{ps:List Str}{sp:Sp}{Ql:List V}{ds:List Value}{E:XK}{x m:Str}{p pos apos:Pos}{e o:Expr}{es:List Expr}{ta:TE}{t:TA}
end
section
variable{X:Cx}{CX:rn}{k:Nat}{f C:Addr}{fd:FuncData}{ps ks:List Str}{sp:Sp}{E:XK}{x m:Str}{p pos apos LK:Pos}{e o:Expr}{es:List Expr}{mJ:List Keyword}{te ta:TE}{t tk:TA}{nm:Option Str}
variable{g:List Value→List Value→List Value}{gV:List V→List V→List V}
end
structure jq(N P:List Str)(sc:Scope):Prop where
 kind:sc.kind=.function
 co:sc.isCoroutine=false
 gen:sc.isGenerator=false
 nd:N.Nodup
 pre:N.take P.length=P
 par:∀x∈P,sc.names.lookup x=some .local∨sc.names.lookup x=some .cell
 nofree:∀y∈sc.names,y.2≠.free
theorem mP{kindOf:Str→Option NameKind}{x:Str}:∀{binds:List (Str×Value)} {m:Str→Option Value},(∀v,(x,v)∉binds)→bindL kindOf binds m x=m x
 |[],_,_=>rfl
 |(n,v)::r,m,h=>by
  unfold bindL;rw [mP fun w hw=>h w (zzI _ hw)]
  split
  ·have:x≠n:=by rintro rfl;exact h v zzP
   simp [this]
  ·rfl
theorem nq{kindOf:Str→Option NameKind}{x:Str}:∀{binds:List (Str×Value)} {m:Str→Option Value},(∀v,(x,v)∉binds)→bindC kindOf binds m x=m x
 |[],_,_=>rfl
 |(n,v)::r,m,h=>by
  unfold bindC;rw [nq fun w hw=>h w (zzI _ hw)]
  split
  ·rfl
  ·have:x≠n:=by rintro rfl;exact h v zzP
   simp [this]
theorem mS{kindOf:Str→Option NameKind}{x:Str}{v:Value}:∀{P:List Str} {vs:List Value} {i:Nat} {m:Str→Option Value},P.Nodup→P[i]?=some x→vs[i]?=some v→kindOf x=some .local→
 bindL kindOf (P.zip vs) m x=some v
 |[],_,_,_,_,h,_,_=>by simp at h
 |_::_,[],_,_,_,_,h,_=>by simp at h
 |p::P,w::vs,0,m,nd,h1,h2,hk=>by
  simp at h1 h2;subst h1;subst h2;show bindL kindOf ((p,w)::P.zip vs) m p=_
  unfold bindL;rw [mP fun v hv=>(List.nodup_cons.mp nd).1 (List.of_mem_zip hv).1,if_pos hk]
  simp
 |p::P,w::vs,i+1,m,nd,h1,h2,hk=>by
  show bindL kindOf ((p,w)::P.zip vs) m x=_
  unfold bindL;exact mS (i:=i) (List.nodup_cons.mp nd).2 (by simpa using h1) (by simpa using h2) hk
theorem mV{kindOf:Str→Option NameKind}{x:Str}{v:Value}:∀{P:List Str} {vs:List Value} {i:Nat} {m:Str→Option Value},P.Nodup→P[i]?=some x→vs[i]?=some v→kindOf x≠some .local→
 bindC kindOf (P.zip vs) m x=some v
 |[],_,_,_,_,h,_,_=>by simp at h
 |_::_,[],_,_,_,_,h,_=>by simp at h
 |p::P,w::vs,0,m,nd,h1,h2,hk=>by
  simp at h1 h2;subst h1;subst h2;show bindC kindOf ((p,w)::P.zip vs) m p=_
  unfold bindC;rw [nq fun v hv=>(List.nodup_cons.mp nd).1 (List.of_mem_zip hv).1,if_neg hk]
  simp
 |p::P,w::vs,i+1,m,nd,h1,h2,hk=>by
  show bindC kindOf ((p,w)::P.zip vs) m x=_
  unfold bindC;exact mV (i:=i) (List.nodup_cons.mp nd).2 (by simpa using h1) (by simpa using h2) hk
def start(N:List Str)(vs:List V):St:=vs.map some++List.replicate (N.length-vs.length) none
noncomputable def dC(CX:rn)(P:Program)(w:World)(K:PySem.W.Frag)(mg:Str→Option Value)(base:Heap)(N:List Str)(qual:Str)(scope:Scope)(f:Addr)(cd:Value)(A:Around)(outer:List Env)(s:Shared)(H:Hp)(E:XK):Cx where
 prog:=P
 w:=w
 K:=K
 mg:=mg
 base:=base
 A:=A.deeper (envOfC qual scope s.heap.objs.size f cd)
 N:=N
 s₀:=s
 H₀:=H
 env:=envOfC qual scope s.heap.objs.size f cd
 outer:=outer
 stack:=envOfC qual scope s.heap.objs.size f cd::outer
 ex:=[]
 calm:=true
 fn:=fun _=>true
 pn:=[]
 xe:=fun e s'=>wpAny (model P w) (A.deeper (envOfC qual scope s.heap.objs.size f cd)) (leaving (envOfC qual scope s.heap.objs.size f cd) e) (fun _ C2=>CX outer H s E e C2) (fun e' C2=>CX outer H s E e' C2) s'
theorem pV{sc:Scope}{n:Nat}{x:Str}(h:sc.names.lookup x=some .cell):∃c,(cellsFrom n sc.names []).lookup x=some c:=by
 have q:=PySem.W.cellsFrom_some sc.names n [] (.inl h)
 exact Option.isSome_iff_exists.mp q
theorem vI{CX:rn}{P:Program}{w:World}{K:PySem.W.Frag}{mg:Str→Option Value}{base:Heap}{N ps:List Str}{qual:Str}{scope:Scope}{f:Addr}{cd:Value}{A:Around}{outer:List Env}{s s1:Shared}{H:Hp}{E:XK}{us:List Value}{vs:List V}
 (S:jq N ps scope) (hd:A.handled=none) (e0:g8 P w K mg base A outer s H) (hl:vs.length=ps.length) (r:Vals vs us)
 (x:InCallC s s.heap.objs.size (bindL (envOfC qual scope s.heap.objs.size f cd).kindOf (ps.zip us) fun _=>none) (cellsFrom (s.heap.objs.size+1) scope.names []) (bindC (envOfC qual scope s.heap.objs.size f cd).kindOf (ps.zip us) fun _=>none) s1):
 Inv (dC CX P w K mg base N qual scope f cd A outer s H E) [] (start N vs) H s1:=by
 have hpl:ps.length≤N.length:=by have:=congrArg List.length S.pre;rw [List.length_take] at this;omega
 obtain⟨h1,tk,rfl,hk⟩:=x.done
 have Bp:∀b:Addr,b∉(dC CX P w K mg base N qual scope f cd A outer s H E).ex:=fun b z=>absurd (show b∈([]:List Addr) from z) (by simp)
 refine⟨⟨e0.mod,S.kind,rfl,rfl,zzE _,fun y z c h1 h2=>?_,fun y hy=>?_,fun y c _ h=>?_,fun _=>hd,Around.frames_deeper e0.frames,.inr ⟨rfl,rfl⟩,fun b z=>absurd z (Bp b),e0.bs,e0.bsz,fun b _ _=>Bp b,fun b z=>absurd z (Bp b),e0.funs,e0.frf⟩,
  rfl,e0.bare,Un.kept hk,⟨_,x.toInCall.ns,fun i y v h1 h2 h3=>?_⟩,fun y c h=>⟨_,x.cell y c h⟩,e0.hok.fresh (zzE _),fun y c h=>?_,fun p hp=>absurd (show p∈([]:List (Addr×Obj)) from hp) (by simp),e0.hok.kept hk,?_⟩
 ·exact name_of_addr x.apart (PySem.mem_of_lookup h1) (PySem.mem_of_lookup h2)
 ·have hy:scope.names.lookup y=some .cell∨scope.names.lookup y=some .free:=hy
  rcases hy with hy|hy
  ·exact pV hy
  ·exact absurd rfl (S.nofree _ (PySem.mem_of_lookup hy))
 ·exact Nat.le_of_lt (x.above y c (PySem.mem_of_lookup h))
 ·have hi:i<vs.length:=by
   unfold start at h2
   by_cases hi:i<vs.length
   ·exact hi
   ·rw [List.getElem?_append_right (by simpa using hi)] at h2;rw [List.getElem?_replicate] at h2;split at h2<;>cases h2
  have ha:vs[i]?=some v:=by
   unfold start at h2;rw [List.getElem?_append_left (by simpa using hi),zzQ] at h2;cases e:vs[i]? with
   |none=>rw [e] at h2;cases h2
   |some a=>rw [e] at h2;cases h2;rfl
  obtain⟨u,hu,rv⟩:=r.get ha
  have hp:ps[i]?=some y:=by
   rw [←S.pre,List.getElem?_take_of_lt (by omega)];exact h1
  have N1:ps.Nodup:=by rw [←S.pre];exact S.nd.sublist (List.take_sublist _ _)
  refine⟨u,rv,?_⟩;rcases S.par y (zzD hp) with k|k
  ·exact .inl ⟨k,mS N1 hp hu k⟩
  ·obtain⟨c,e⟩:=pV (n:=s.heap.objs.size+1) k
   refine .inr ⟨.inl k,c,e,?_⟩;have q:=x.cell y c e
   rw [mV N1 hp hu (by show scope.names.lookup y≠_;rw [k];decide)] at q;exact q
 ·exact e0.hok.fresh (Nat.le_of_lt (x.above y c (PySem.mem_of_lookup h)))
 ·unfold start;show _=N.length
  rw [zzM,zzl,List.length_replicate];omega
theorem JQ{CX:rn}{P:Program}{w:World}{K:PySem.W.Frag}{mg:Str→Option Value}{base:Heap}{k:Nat}{f:Addr}{name qual:Str}{params:Arguments}{body:List Stmt}{scope:Scope}{dV kV doc pm e9 ct oc:Value}{an od:Option Addr}
 {sD:Array (Option Value)} {N ps:List Str} {sp:Sp} (lk:K.lookup f=some ⟨oc,od,.func (PySem.W.fnOf name qual params body scope dV kV doc pm an e9 ct),sD⟩) (rQ:PySem.W.codeIn K e9 qual=true) (S:jq N ps scope)
 (len:∀vs H Q E,sp vs H Q E→vs.length=ps.length)
 (JA:∀(A:Around) (outer:List Env) (s:Shared) (H:Hp) (vs:List V) (Q:VK) (E:XK),dw k (A.deeper (envOfC qual scope s.heap.objs.size f e9))→sp vs H Q E→
  ∃t,PSs (dC CX P w K mg base N qual scope f e9 A outer s H E) body t∧t {nx:=fun _ H'=>Q .non H',rt:=Q} (start N vs) H):
 fx P w K mg base CX (k+1) f (PySem.W.fnOf name qual params body scope dV kV doc pm an e9 ct) ps sp:=by
 refine⟨len,fun A outer s H args us vs Q E hr e0 hb r HF=>?_⟩
 have hl:=len _ _ _ _ HF
 have KX:K.In s.heap:=e0.mod.kin.keeps fun b o e=>(e0.bs b o e).1
 have lim:s.heap.NoLimit:=e0.mod.nolimit.keeps fun b o e=>(e0.bs b o e).1
 have Jd:∀y∈ps.zip us,scope.names.lookup y.1=some .local∨(scope.names.lookup y.1=some .cell∧((cellsFrom (s.heap.objs.size+1) scope.names []).lookup y.1).isSome=true):=fun⟨n,v⟩ hy=>by
  rcases S.par n (List.of_mem_zip hy).1 with q|q
  ·exact .inl q
  ·exact .inr ⟨q,PySem.W.cellsFrom_some _ _ _ (.inl q)⟩
 refine codeAny_call_function hr.depth (KX _ _ lk) rfl S.co S.gen rfl (PySem.W.codeRec_of KX rQ) (hb _ _ _ _ ?_);refine wpAny_newFunctionEnv_cells S.kind Jd fun env he s1 x=>?_
 subst he;refine⟨lim.keeps x.toInCall.keep,codeAny_func ?_⟩;obtain⟨t,ht,hq⟩:=JA A outer s H vs Q E (hr.deeper _) HF
 have I:Inv (dC CX P w K mg base N qual scope f e9 A outer s H E) [] (start N vs) H s1:=vI S hr.hd e0 hl r x
 refine wpAny_mono (ht [] s1 (start N vs) H _ I hq) (fun fl s' hs=>?_) fun e s' hs=>hs
 have fin:∀{σ':St} {H':Hp} {v:V} {u:Value},Inv (dC CX P w K mg base N qual scope f e9 A outer s H E) [] σ' H' s'→RelV v u→Q v H'→CE outer P w H s Q u s':=
  fun{σ' H' v u} J rv q=>⟨v,H',J.os,J.bare,J.base,J.hok,rv,q⟩
 cases fl with
 |ret u=>
  obtain⟨v,σ',H',J,rv,q⟩:=hs
  exact fin J rv q
 |next=>
  obtain⟨σ',H',J,q⟩:=hs
  exact fin (v:=V.non) (u:=Value.none) J rfl q
 |brk=>
  obtain⟨_,_,_,q⟩:=hs
  exact False.elim q
 |cont=>
  obtain⟨_,_,_,q⟩:=hs
  exact False.elim q
section
variable{X:Cx}{x:Str}{p pos:Pos}{e:Expr}{es:List Expr}{t:TA}{id T:String}{r:List V→Hp→VK→Prop}
def KW(r:List V→Hp→VK→Prop)(t:TA):TE:=fun σ H Q=>t σ H fun vs H1=>r vs H1 Q
theorem dO(hc:cu X (.builtin id) r)(hg:Gl X x)(hm:X.mg x=none)(hv:bootBuiltins x=some (.builtin id))(ha:PA X (e::es) t)(hn:x≠"__name__":=by decide)(Kl:(x==("__debug__":Str))=false:=by decide)
 (he:starEach (e::es) X.env=(false,eval e X.env)::starEach es X.env:=by rfl) (hpl:(backTo pos (starEach es X.env)).any (·.1)=false:=by rfl):PE X (.Call (.Name x p) (e::es) [] pos) (KW r t):=by
 intro pins s σ H Q I h;refine wpAny_Call_Name_kw (eN I hg hm hv ?_ hn Kl);exact PyProof.Rows.callWith_builtin1 (bJ (ha pos pins s σ H _ I h) fun us s1 ⟨vs,H1,I1,r1,q1⟩=>hc pins s1 σ H1 vs us Q I1 r1 q1) he hpl
theorem iP(hc:cu X (.type T) r)(hg:Gl X x)(hm:X.mg x=none)(hv:bootBuiltins x=some (.type T))(ha:PA X (e::es) t)(hn:x≠"__name__":=by decide)(Kl:(x==("__debug__":Str))=false:=by decide)
 (he:starEach (e::es) X.env=(false,eval e X.env)::starEach es X.env:=by rfl) (hpl:(backTo pos (starEach es X.env)).any (·.1)=false:=by rfl):PE X (.Call (.Name x p) (e::es) [] pos) (KW r t):=by
 intro pins s σ H Q I h;refine wpAny_Call_Name_kw (eN I hg hm hv ?_ hn Kl);exact PyProof.Rows.callWith_type1 (bJ (ha pos pins s σ H _ I h) fun us s1 ⟨vs,H1,I1,r1,q1⟩=>hc pins s1 σ H1 vs us Q I1 r1 q1) he hpl
end
end L2
namespace HT
open PySem PyProof.Rows
def lexLt:List Int→List Int→Bool
 |[],[]=>false
 |[],_::_=>true
 |_::_,[]=>false
 |x::xs,y::ys=>if x=y then lexLt xs ys else decide (x<y)
theorem lexLt_cons(x y:Int)(xs ys:List Int):lexLt (x::xs) (y::ys)=if x=y then lexLt xs ys else decide (x<y):=rfl
theorem lexLt_nil_nil:lexLt [] []=false:=rfl
theorem jX(y:Int)(ys:List Int):lexLt [] (y::ys)=true:=rfl
theorem kC(x:Int)(xs:List Int):lexLt (x::xs) []=false:=rfl
theorem zK(A:Around)(s:Shared)(a:Int)(t:Tok)(c:Int)(u:Tok):∃e,SeqAt.EqAt A s (.int a t) (.int c u) e∧(e=true↔a=c):=
 ⟨(a==c),SeqAt.EqAt.int_int a t c u,by simp⟩
theorem xU(A:Around)(s:Shared)(a:Int)(t:Tok)(c:Int)(u:Tok)(prog:Program)(w:World)(E:Value→Shared→Prop)(Q:Value→Shared→Prop)(h:Q (.bool (decide (a<c))) s):
 wpAny (model prog w) A (richCompare .Lt (.int a t) (.int c u)) Q E s:=
 (PyProof.Rows.lt_int h:wpAny (model prog w) A (compareOp .Lt (.int a t) (.int c u)) Q E s)
section
open PySem.SeqAt
open PySem.AutoSeq1 (wpAny_loadPart')
open PySem.MeetsSeq PySem.MeetsSeq2 PySem.MeetsSeq3
theorem lU(l b:Addr)(items aQ:Array Value)(n n2:Nat)(dd D9:Option Addr)(sl Az:Array (Option Value))(ns ms:List Int)(hi:IntsAre items.toList ns)(hj:IntsAre aQ.toList ms):
 Meets (Builtin.«tuple.__lt__» ⟨[.ref l,.ref b],[]⟩)
  (fun _ R s=>s.heap.get? l=some {cls:=.type "tuple",dict:=dd,data:=.seq items n,slots:=sl}∧s.heap.get? b=some {cls:=.type "tuple",dict:=D9,data:=.seq aQ n2,slots:=Az}∧
   R (.ok (.ret (.bool (lexLt ns ms)))) s):=
 .of_wp fun prog w A R s h=>by
  obtain⟨hp,g,d,tk,os⟩:=s;obtain⟨hl,hb,h⟩:=h
  have f2:=AutoSeq1.sub_tuple_tuple
  have z1:items.size=ns.length:=by rw [←hi.length];simp
  have z2:aQ.size=ms.length:=by rw [←hj.length];simp
  wp_walk using wpAny_loadPart' hl,wpAny_loadPart' hb,wpAny_forIn_list _ (fun rest b s'=>b.1=none∧s'=⟨hp,g,d,tk,os⟩∧∃(vs ws:List Value) (G9 HK:List Int),rest=vs.zip ws∧
   IntsAre vs G9∧IntsAre ws HK∧G9.length+aQ.size=HK.length+items.size∧R (.ok (.ret (.bool (lexLt G9 HK)))) ⟨hp,g,d,tk,os⟩) _
  case turn=>
   rintro ⟨y,x⟩ rest b s' ⟨jg,rfl,vs,ws,G9,HK,hz,hvi,hwi,hlen,hR⟩
   cases hvi with
   |nil=>rw [List.zip_nil_left] at hz;cases hz
   |cons a t hvi'=>
    cases hwi with
    |nil=>rw [List.zip_nil_right] at hz;cases hz
    |cons c u hwi'=>
     rw [List.zip_cons_cons] at hz
     injection hz with hyx hrest
     injection hyx with hy hx
     subst hy hx;rw [lexLt_cons] at hR;simp only [zzL] at hlen;obtain⟨e,he,hiff⟩:=zK A.in1 ⟨hp,g,d,tk,os⟩ a t c u
     refine zzA (he prog w _ _ ?_);cases e with
     |true=>
      rw [if_pos (hiff.mp rfl)] at hR
      wp_walk
      exact⟨rfl,rfl,_,_,_,_,hrest,hvi',hwi',by omega,hR⟩
     |false=>
      rw [if_neg (fun q=>absurd (hiff.mpr q) zzf)] at hR
      have Lx:=xU A.in1 ⟨hp,g,d,tk,os⟩ a t c u prog w
      wp_walk using Lx
      exact⟨_,rfl,by simpa using hR⟩
  case fin=>
   rintro ⟨b1,b2⟩ s' ⟨jg,rfl,vs,ws,G9,HK,hz,hvi,hwi,hlen,hR⟩
   simp only at jg;subst jg;have hv:lexLt G9 HK=decide (items.size<aQ.size):=by
    cases hvi with
    |nil=>
     cases hwi with
     |nil=>
      simp only [List.length_nil] at hlen;rw [lexLt_nil_nil];exact(decide_eq_false (by omega)).symm
     |cons c u hw=>
      simp only [List.length_nil,zzL] at hlen;rw [jX];exact(zzh (by omega)).symm
    |cons a t hv=>
     cases hwi with
     |nil=>
      simp only [List.length_nil,zzL] at hlen;rw [kC];exact(decide_eq_false (by omega)).symm
     |cons c u hw=>
      rw [List.zip_cons_cons] at hz;cases hz
   rw [hv] at hR
   wp_walk
   exact⟨_,rfl,by simpa [Builtin.Tuple.tupleCompareSizes] using hR⟩
  case h=>
   exact⟨rfl,rfl,items.toList,aQ.toList,ns,ms,rfl,hi,hj,by omega,h⟩
end
section
variable{prog:Program}{w:World}{A:Around}{E:Value→Shared→Prop}{s:Shared}
theorem lt_tupInts{l b:Addr}{items aQ:Array Value}{ns ms:List Int}{Q:Value→Shared→Prop}(hl:IsTup s.heap l items)(hb:IsTup s.heap b aQ)(hi:IntsAre items.toList ns)(hj:IntsAre aQ.toList ms)
 (hu:A.units<cLine) (h:Q (.bool (lexLt ns ms)) s):wpAny (model prog w) A (compareOp .Lt (.ref l) (.ref b)) Q E s:=by
 obtain⟨⟨cls,dd,data,sl⟩,ho,hc,n,hd⟩:=id hl
 obtain⟨⟨cls2,D9,data2,Az⟩,EB,hc2,n2,hd2⟩:=id hb
 simp only at hc hd hc2 hd2;subst hc hd hc2 hd2;exact richCompare_meets_room (op:=.Lt) ⟨_,ho,rfl⟩ ⟨_,EB,rfl⟩ PySem.F.slot_tuple_lt PySem.F.entry_tuple_lt (PySem.F.args_tuple_lt_2 _ _) (lU l b items aQ n n2 dd D9 sl Az ns ms hi hj)
  ⟨ho,EB,show Value.bool (lexLt ns ms)≠Value.notImplemented∧Q (.bool (lexLt ns ms)) s from⟨(fun x=>nomatch x),h⟩⟩ hu
theorem sH{v:Value}{o:Option Int}{Q:Option Int→Shared→Prop}(p:IsPart v o)(h:Q o s):wpAny (model prog w) A (Builtin.Slice.slicePartIndex v) Q E s:=by
 cases p with
 |none=>exact slicePart_none h
 |int i t=>exact slicePart_int h
end
end HT
namespace L2
open PySem PySem.Spec PyProof.Rows
abbrev TO:=St→Hp→(Option Int→Hp→Prop)→Prop
theorem intsAre_of{ns:List Int}:∀{us:List Value},Vals (ns.map V.int) us→IntsAre us ns:=by
 induction ns with
 |nil=>intro us r;rw [List.map_nil] at r;cases r;exact .nil
 |cons n ns ih=>
  intro us r;rw [zzF] at r;cases r with
  |cons r1 r2=>
   obtain⟨t,e⟩:=r1
   subst e;exact .cons n t (ih r2)
section
variable{X:Cx}{e:Expr}{te:TE}{lo hi:Option Expr}{tl th:TO}{pos p2:Pos}
end
def Fn(n:Nat)(i:Int):Option Nat:=if 0≤i then(if i<n then some i.toNat else none) else if -(n:Int)≤i then some (i+n).toNat else none
def rk{α:Type}(xs:List α)(i:Int):Option α:=(Fn xs.length i).bind fun j=>xs[j]?
theorem BE{n:Nat}{i:Int}{j:Nat}(h:Fn n i=some j):seqIndex? i n=some j∧j<n∧ -(n:Int)≤i∧i<n:=by
 unfold Fn at h
 by_cases h0:0≤i
 ·rw [if_pos h0] at h
  by_cases h1:i<n
  ·rw [if_pos h1] at h;have e:i.toNat=j:=Option.some.inj h
   exact⟨by rw [seqIndex_of h0 h1,e],by omega,by omega,h1⟩
  ·rw [if_neg h1] at h;cases h
 ·rw [if_neg h0] at h
  by_cases h1: -(n:Int)≤i
  ·rw [if_pos h1] at h;have e:(i+n).toNat=j:=Option.some.inj h
   exact⟨by rw [seqIndex_neg (by omega) h1,e],by omega,h1,by omega⟩
  ·rw [if_neg h1] at h;cases h
theorem oF{α:Type}{xs:List α}{i:Int}{v:α}(h:rk xs i=some v):∃j,seqIndex? i xs.length=some j∧xs[j]?=some v∧j<xs.length∧ -(xs.length:Int)≤i∧i<xs.length:=by
 unfold rk at h;cases e:Fn xs.length i with
 |none=>rw [e] at h;cases h
 |some j=>
  rw [e] at h;obtain⟨h1,h2,h3,h4⟩:=BE e
  exact⟨j,h1,h,h2,h3,h4⟩
def oB(b:Expr):Prop:=∀o i,subscripted b false o i=operate [o,i] (getItem o i)
def HJ(X:Cx)(r:R2):Prop:=
 ∀(value slice:Expr) (pins:List (Addr×Obj)) (s:Shared) (σ:St) (H:Hp) (x y:V) (v u:Value) (Q:VK),Inv X pins σ H s→RelV x v→RelV y u→r x y H Q→
  subscripted slice false v u=operate [v,u] (getItem v u)→wpAny (model X.prog X.w) X.A (subscriptTail value slice v u) (EP X pins σ Q) X.xe s
def KS(X:Cx)(id:String)(r:V→List V→Hp→VK→Prop):Prop:=
 ∀(pins:List (Addr×Obj)) (s:Shared) (σ:St) (H:Hp) (x:V) (xs:List V) (v:Value) (us:List Value) (Q:VK),Inv X pins σ H s→RelV x v→Vals xs us→r x xs H Q→
  wpAny (model X.prog X.w) X.A (call (.builtin id) (v::us)) (EP X pins σ Q) X.xe s
section
variable{X:Cx}{a b:Expr}{ta tb:TE}{pos:Pos}
theorem D3{r:R2}(hr:HJ X r)(ha:PE X a ta)(hb:PE X b tb)(hs:oB b):PE X (.Subscript a b pos) (Hu r ta tb):=by
 intro pins s σ H Q I h;exact Subscript_ (Fb ha hb I h fun v u s2 x y H2 I2 rx ry q=>hr a b pins s2 σ H2 x y v u Q I2 rx ry q (hs _ _))
noncomputable def LS(K:PySem.W.Frag):R2:=fun x y H Q=>∃p xs i v,x=.ref p∧y=.int i∧iU K H p xs∧rk xs i=some v∧Q v H
noncomputable def Iw(K:PySem.W.Frag):R2:=fun x y H Q=>∃p xs i v,x=.ref p∧y=.int i∧fj K H p xs∧rk xs i=some v∧Q v H
noncomputable def LF:R2:=fun x y H Q=>∃z i c,x=.str z∧y=.int i∧z.length≤sizeLine∧rk z.cps.toList i=some c∧Q (.str ⟨#[c]⟩) H
theorem B5:HJ X (LS X.K):=by
 intro value slice pins s σ H x y v u Q I rx ry h hs;obtain⟨p,xs,i,z,rfl,rfl,hq,he,q⟩:=h
 cases rx;obtain⟨t,rfl⟩:=ry
 obtain⟨aA,r,pl,hz⟩:=I.list hq
 obtain⟨j,h1,h2,h3,h4,h5⟩:=oF he
 obtain⟨w,ew,gU⟩:=r.get h2
 have hl:=r.length
 have hn:=lH
 have fin:EP X pins σ Q w s:=⟨z,H,I,gU,q⟩
 by_cases h0:0≤i
 ·have hj:i.toNat=j:=by
   rw [seqIndex_of h0 h5] at h1;exact Option.some.inj h1
  exact item_listR pl.isList h0 (by omega) (by rw [hj];simpa using ew) fin hs
 ·have hj:(i+(aA.toArray.size:Int)).toNat=j:=by
   rw [seqIndex_neg (by omega) h4] at h1;rw [zzC,←hl];exact Option.some.inj h1
  exact subscriptTail_builtinR (x:=w) pl.isList.typeIs slot_list_getitem.lookup
   (wpAny_getItem_list_neg (Q:=fun r s'=>r=w∧EP X pins σ Q r s') pl.isList (by omega) (by rw [zzC]<;>omega) (by omega) (by rw [hj];simpa using ew) ⟨rfl,fin⟩) hs
theorem yx:HJ X (Iw X.K):=by
 intro value slice pins s σ H x y v u Q I rx ry h hs;obtain⟨p,xs,i,z,rfl,rfl,hq,he,q⟩:=h
 cases rx;obtain⟨t,rfl⟩:=ry
 obtain⟨aA,r,pl,hz⟩:=I.tuple hq
 obtain⟨j,h1,h2,h3,h4,h5⟩:=oF he
 obtain⟨w,ew,gU⟩:=r.get h2
 have hl:=r.length
 have hn:=lH
 have fin:EP X pins σ Q w s:=⟨z,H,I,gU,q⟩
 exact subscriptTail_builtinR (x:=w) pl.typeIs slot_tuple_getitem.lookup
  (getItem_tuple (j:=j) (Q:=fun r s'=>r=w∧EP X pins σ Q r s') pl (by omega) (by omega) (by rw [zzC,←hl];exact h1) (by simpa using ew) ⟨rfl,fin⟩) hs
theorem Ep:HJ X LF:=by
 intro value slice pins s σ H x y v u Q I rx ry h hs;obtain⟨z,i,c,rfl,rfl,hz,he,q⟩:=h
 obtain⟨t,rfl⟩:=rx
 obtain⟨t',rfl⟩:=ry
 obtain⟨j,h1,h2,h3,h4,h5⟩:=oF he
 have hl:z.cps.toList.length=z.length:=by simp [Str.length]
 rw [hl] at h1 h4 h5;have hn:=lH
 exact tail_any (typeIs_str s z t) slot_str_getitem.lookup (getItem_str (c:=c) (by
  have e1:decide (i< -(2^63:Int))=false:=decide_eq_false (by omega)
  have e2:decide (i≥2^63)=false:=decide_eq_false (by omega)
  rw [e1,e2,Bool.or_false]) (by rw [h1];simpa using h2) ⟨.str ⟨#[c]⟩,H,I.tok _,⟨_,rfl⟩,q⟩) hs
theorem ij:cu X (.builtin "len") (fun xs H Q=>∃p ys,xs=[.ref p]∧(iU X.K H p ys∨fj X.K H p ys)∧Q (.int ys.length) H):=by
 intro pins s σ H xs us Q I r h;obtain⟨p,ys,rfl,hq,q⟩:=h
 obtain⟨u,rfl,rx⟩:=vals1 r
 cases rx;have hn:=lH
 rcases hq with hq|hq
 ·obtain⟨aA,r',pl,hz⟩:=I.list hq
  have hlen:=r'.length
  exact Calls.call_len_list pl.isList (by simp only [zzC]<;>omega) ⟨.int ys.length,H,I.tok _,⟨s.toks+1,by rw [zzC,hlen]⟩,q⟩
 ·obtain⟨aA,r',pl,hz⟩:=I.tuple hq
  have hlen:=r'.length
  exact len_tuple pl (by simp only [zzC]<;>omega) ⟨.int ys.length,H,I.tok _,⟨s.toks+1,by rw [zzC,hlen]⟩,q⟩
theorem pA:cu X (.builtin "len") (fun xs H Q=>∃z,xs=[.str z]∧z.length≤sizeLine∧Q (.int z.length) H):=by
 intro pins s σ H xs us Q I r h;obtain⟨z,rfl,hz,q⟩:=h
 obtain⟨u,rfl,t,rfl⟩:=vals1 r
 have hn:=lH
 exact len_str (by omega) ⟨.int z.length,H,I.tok _,⟨_,rfl⟩,q⟩
theorem lN:cu X (.type "tuple") (fun xs H Q=>∃p ys,xs=[.ref p]∧((iU X.K H p ys∧∀l,H l=none→Q (.ref l) (upd H l (.tup ys)))∨(fj X.K H p ys∧Q (.ref p) H))):=by
 intro pins s σ H xs us Q I r h;obtain⟨p,ys,rfl,h⟩:=h
 obtain⟨u,rfl,rx⟩:=vals1 r
 cases rx;rcases h with⟨hq,q⟩|⟨hq,q⟩
 ·obtain⟨aA,r',pl,hz⟩:=I.list hq
  have hlen:=r'.length
  refine call_tuple_list pl.isList (fun h' kp=>?_) (by simp only [zzC]<;>omega);have I1:Inv X pins σ H {s with heap:=h'}:=I.kept (t':=s.toks) kp
  have I2:Inv X pins σ (upd H h'.objs.size (.tup ys)) {s with heap:=h'.push {cls:=.type "tuple",data:=.seq aA.toArray}}:=
   I1.laid (t':=s.toks) (fun b o e=>zzB _ e) (zzE _) (show bQ X.prog X.w _ _ _ (.tup ys) from⟨hz,aA,r',IsTup.new _ _⟩)
  exact⟨.ref h'.objs.size,_,I2,rfl,q _ (I1.hok.fresh (zzE _))⟩
 ·obtain⟨aA,r',pl,hz⟩:=I.tuple hq
  exact call_tuple_same pl ⟨.ref p,H,I,rfl,q⟩
def K5(K:PySem.W.Frag)(T:String)(x:V)(H:Hp):Prop:=match x with
 |.str _=>T="str"
 |.int _=>T="int"
 |.ref p=>(T="list"∧∃xs,iU K H p xs)∨(T="tuple"∧∃o,K.lookup p=some o∧o.cls=.type "tuple"∧o.dict=none)∨
  (T="dict"∧((∃aB,H p=some (.dK aB))∨∃aB,H p=some (.dT aB)))∨(T="set"∧∃S n,H p=some (.set S n))
 |_=>False
theorem xP{pins:List (Addr×Obj)}{σ:St}{H:Hp}{s:Shared}{T:String}{x:V}{v:Value}(I:Inv X pins σ H s)(r:RelV x v)(ty:K5 X.K T x H):
 s.TypeIs v T∧∀a,v=.ref a→∃ob,s.heap.get? a=some ob∧ob.dict=none:=by
 cases x with
 |str z=>
  obtain⟨t,rfl⟩:=r
  cases(show T="str" from ty);exact⟨typeIs_str s z t,fun _ e=>nomatch e⟩
 |int i=>
  obtain⟨t,rfl⟩:=r
  cases(show T="int" from ty);exact⟨typeIs_int s i t,fun _ e=>nomatch e⟩
 |ref p=>
  cases r;rcases ty with⟨rfl,xs,hq⟩|⟨rfl,o,hk,hc,hd⟩|⟨rfl,hk⟩|⟨rfl,S,n,hk⟩
  ·obtain⟨aA,_,pl,_⟩:=I.list hq
   refine⟨pl.isList.typeIs,fun a e=>?_⟩
   cases e;obtain⟨o,n,e,c,hd,_⟩:=pl
   exact⟨o,e,hd⟩
  ·refine⟨⟨o,I.kIn p o hk,hc⟩,fun a e=>?_⟩
   cases e;exact⟨o,I.kIn _ o hk,hd⟩
  ·have z:∃o,s.heap.get? p=some o∧o.ExactDict:=by
    rcases hk with⟨aB,hk⟩|⟨aB,hk⟩
    ·obtain⟨_,_,_,_,o,_,_,e,ex,_⟩:=I.hok p _ hk
     exact⟨o,e,ex⟩
    ·obtain⟨_,_,_,_,o,_,_,e,ex,_⟩:=I.hok p _ hk
     exact⟨o,e,ex⟩
   obtain⟨o,e,ex⟩:=z
   refine⟨⟨o,e,ex.1⟩,fun a e2=>?_⟩
   cases e2;exact⟨o,e,ex.2.1⟩
  ·obtain⟨o,_,_,_,e,ex,_⟩:=I.hok p _ hk
   refine⟨⟨o,e,ex.1⟩,fun a e2=>?_⟩
   cases e2;exact⟨o,e,ex.2.1⟩
 |_=>exact False.elim ty
noncomputable def L4(K:PySem.W.Frag)(T:String)(r:V→List V→Hp→VK→Prop)(to:TE):TE:=fun σ H Q=>to σ H fun x H1=>K5 K T x H1∧r x [] H1 Q
noncomputable def NK(K:PySem.W.Frag)(T:String)(r:V→List V→Hp→VK→Prop)(to:TE)(t:TA):TE:=fun σ H Q=>to σ H fun x H1=>K5 K T x H1∧t σ H1 fun xs H2=>r x xs H2 Q
variable{o e:Expr}{es:List Expr}{to:TE}{t:TA}{name:Str}{apos bA:Pos}{T id:String}{r:V→List V→Hp→VK→Prop}
theorem FW(pa:PlainAttrs T)(slot:Slot T name id)(Ax:typeOf (.builtin id)=pure (.type "method_descriptor"))(hm:KS X id r)(ho:PE X o to)
 (d6:attributeBase o name X.env (eval o X.env)=eval o X.env:=by rfl) (eE:(apos.endLine==bA.line)=true:=by rfl):PE X (.Call (.Attribute o name apos) [] [] bA) (L4 X.K T r to):=by
 intro pins s σ H Q I h;refine wpAny_Call_method0_late d6 eE (bJ (ho pins s σ H _ I h) fun v s1 ⟨x,H1,I1,r1,ty,q1⟩=>?_)
 obtain⟨h1,h2⟩:=xP I1 r1 ty
 exact⟨T,id,pa,slot,Ax,h1,h2,Calls.callWith_builtin rfl (PySem.evalArgs_none (hm pins s1 σ H1 x [] v [] Q I1 r1 .nil q1))⟩
theorem yu(pa:PlainAttrs T)(slot:Slot T name id)(Ax:typeOf (.builtin id)=pure (.type "method_descriptor"))(hm:KS X id r)(ho:PE X o to)(ha:PA X (e::es) t)
 (d6:attributeBase o name X.env (eval o X.env)=eval o X.env:=by rfl)
 (Fh:((backTo bA (starEach (e::es) X.env)).all (fun x=>!x.1)&&(backToKw bA (keywordEach [] X.env)).all (fun x=>x.1.isSome)
  &&decide ((e::es).length+([]:List Keyword).length+(if([]:List Keyword).isEmpty then 0 else 1)<30))=true:=by rfl)
 (eE:(apos.endLine==bA.line)=true:=by rfl) (hs:starEach (e::es) X.env=(false,eval e X.env)::starEach es X.env:=by rfl) (k9:(backTo bA (starEach es X.env)).any (·.1)=false:=by rfl):
 PE X (.Call (.Attribute o name apos) (e::es) [] bA) (NK X.K T r to t):=by
 intro pins s σ H Q I h;refine wpAny_Call_method_late d6 Fh eE rfl (bJ (ho pins s σ H _ I h) fun v s1 ⟨x,H1,I1,r1,ty,q1⟩=>?_)
 obtain⟨h1,h2⟩:=xP I1 r1 ty
 refine⟨T,id,pa,slot,Ax,h1,h2,?_⟩;have hA:=ha bA pins s1 σ H1 _ I1 q1
 rw [hs] at hA⊢;refine Calls.callWith_builtin (by show(false||(backTo bA (starEach es X.env)).any (·.1))=false;rw [k9]<;>rfl) (Calls.evalArgs_plain ?_);exact bJ hA fun us s2 ⟨vs,H2,I2,r2,q2⟩=>hm pins s2 σ H2 x vs v us Q I2 r1 r2 q2
end
def N6(X:Cx)(id:String)(r:V→List V→Hp→VK→Prop):Prop:=
 ∀(pins:List (Addr×Obj)) (s:Shared) (σ:St) (H:Hp) (x:V) (xs:List V) (v:Value) (us:List Value) (Q:VK),Inv X pins σ H s→RelV x v→Vals xs us→r x xs H Q→
  wpAny (model X.prog X.w) X.A (call (.builtin id) (v::us)) (EP X pins σ Q) X.xe s
theorem Vals.one:∀{x:V} {us:List Value},Vals [x] us→∃u,us=[u]∧RelV x u
 |_,_,.cons r .nil=>⟨_,rfl,r⟩
theorem Vals.two{x y:V}{us:List Value}(h:Vals [x,y] us):∃u v,us=[u,v]∧RelV x u∧RelV y v:=by
 cases h with
 |cons r q=>
  cases q with
  |cons q n=>cases n;exact⟨_,_,rfl,r,q⟩
theorem Vals.zero:∀{us:List Value},Vals [] us→us=[]
 |_,.nil=>rfl
theorem Vals.dropLast{xs:List V}{us:List Value}(h:Vals xs us):Vals xs.dropLast us.dropLast:=by
 induction h with
 |nil=>exact .nil
 |cons r t ih=>
  cases t with
  |nil=>exact .nil
  |cons q t'=>exact .cons r ih
theorem rV{α:Type}(l:List α):l.eraseIdx (l.length-1)=l.dropLast:=by
 induction l with
 |nil=>rfl
 |cons a r ih=>
  cases r with
  |nil=>rfl
  |cons b r=>
   have e:(a::b::r).length-1=((b::r).length-1)+1:=by
    have h1:(a::b::r).length=r.length+2:=rfl
    have h2:(b::r).length=r.length+1:=rfl
    omega
   rw [e,List.eraseIdx_cons_succ,ih]
   all_goals rfl
section
variable{X:Cx}{pins:List (Addr×Obj)}{σ:St}{H:Hp}{s:Shared}{l b:Addr}{xs ys zs:List V}
theorem Inv.lset{aA its':List Value}{n:Nat}{f:Array Value→Array Value}{t':Nat}(I:Inv X pins σ H s)(hH:H l=some (.lst xs))
 (e:s.heap.get? l=some {cls:=.type "list",data:=.seq aA.toArray n}) (hf:f aA.toArray=its'.toArray) (hv:Vals ys its') (hz:ys.length≤sizeLine):
 Inv X pins σ (upd H l (.lst ys)) {s with heap:=s.heap.update l (Obj.mapSeq f),toks:=t'}:=by
 have q:=PySem.IsL.update e f
 rw [hf] at q;refine I.write (x:=l) (e:=l) (by rw [hH];exact trivial) (.inl rfl) (fun b' u hb hu=>(Heap.get?_update_other s.heap (Obj.mapSeq f) (Ne.symm hb)).trans hu) ⟨_,q⟩ ?_
 exact⟨hz,its',_,hv,q⟩
theorem Inv.lnew{aA:List Value}{t':Nat}(I:Inv X pins σ H s)(hv:Vals ys aA)(hz:ys.length≤sizeLine):
 Inv X pins σ (upd H s.heap.objs.size (.lst ys)) {s with heap:=s.heap.push {cls:=.type "list",data:=.seq aA.toArray},toks:=t'}:=
 I.laid (fun _ _ q=>zzB _ q) (zzE _) ⟨hz,aA,0,hv,zzX _ rfl⟩
theorem Inv.fresh(I:Inv X pins σ H s):H s.heap.objs.size=none:=I.hok.fresh (zzE _)
theorem Inv.lstM(I:Inv X pins σ H s)(hH:H l=some (.lst xs)):xs.length≤sizeLine∧∃(aA:List Value) (n:Nat),Vals xs aA∧xs.length=aA.length∧s.heap.get? l=some {cls:=.type "list",data:=.seq aA.toArray n}:=by
 obtain⟨z,aA,n,r,e⟩:=I.hok l _ hH
 exact⟨z,aA,n,r,r.length,e⟩
theorem zw{n:Nat}(h:n≤sizeLine):Builtin.List.listTooLong n=false:=by
 unfold Builtin.List.listTooLong;exact decide_eq_false (by omega)
end
section
variable{X:Cx}
def Di:V→List V→Hp→VK→Prop:=fun x vs H Q=>∃l xs y,x=.ref l∧vs=[y]∧H l=some (.lst xs)∧xs.length<sizeLine∧Q .non (upd H l (.lst (xs++[y])))
theorem wg:N6 X "list.append" Di:=by
 intro pins s σ H x vs v us Q I rx rv h;obtain⟨l,xs,y,rfl,rfl,hH,hz,q⟩:=h
 cases rx;obtain⟨u,rfl,ru⟩:=rv.one
 obtain⟨z,aA,n,r,hl,e⟩:=I.lstM hH
 refine call_meets F.slot_list_append ⟨_,e,rfl⟩ F.entry_list_append (F.args_list_append_2 _ _) (PySem.list_append l aA.toArray n u (by rw [zzC];omega)) ⟨e,?_⟩;refine⟨.non,_,I.lset (its':=aA++[u]) hH e (by simp) (r.append (.cons ru .nil)) ?_,rfl,q⟩;rw [zzM,List.length_singleton];omega
def LG:V→List V→Hp→VK→Prop:=fun x vs H Q=>∃l xs y,x=.ref l∧vs=[]∧H l=some (.lst xs)∧xs[xs.length-1]?=some y∧Q y (upd H l (.lst xs.dropLast))
theorem Gw:N6 X "list.pop" LG:=by
 intro pins s σ H x vs v us Q I rx rv h;obtain⟨l,xs,y,rfl,rfl,hH,hy,q⟩:=h
 cases rx;have PJ:=rv.zero
 subst PJ;obtain⟨z,aA,n,r,hl,e⟩:=I.lstM hH
 obtain⟨u,hu,ru⟩:=r.get hy
 have AJ:aA.toArray[aA.toArray.size-1]?=some u:=by
  show aA.toArray[aA.length-1]?=some u
  rw [←Array.getElem?_toList,←hl];exact hu
 refine call_meets F.slot_list_pop ⟨_,e,rfl⟩ F.entry_list_pop (F.args_list_pop_1 _) (MeetsSeq.list_pop_last l aA.toArray n u AJ (by rw [zzC];omega)) ⟨e,?_⟩;refine⟨y,_,I.lset (its':=aA.dropLast) hH e ?_ r.dropLast ?_,ru,q⟩
 ·show aA.toArray.eraseIdxIfInBounds (aA.toArray.size-1)=aA.dropLast.toArray
  rw [zzC,List.eraseIdxIfInBounds_toArray,rV]
 ·rw [List.length_dropLast];omega
end
section
variable{prog:Program}{w:World}{A:Around}{E:Value→Shared→Prop}{s:Shared}
end
section
variable{X:Cx}
end
end L2
namespace Att
open PySem PySem.W PySem.Calls PyProof.Rows
theorem jh{P:Params}{h:Heap}:∀(ns:List Int) (vs:List Value),WellAll P h vs (ns.map WData.int)→IntsAre vs ns:=by
 intro ns
 induction ns with
 |nil=>
  intro vs w;rw [List.map_nil] at w;cases w;exact .nil
 |cons n ns ih=>
  intro vs w;rw [zzF] at w;cases w with
  |cons a b=>
   cases a;exact .cons _ _ (ih _ b)
theorem wZ{l:OpenLaw}{n:Nat}(hn:l.most=some n){P:Params}{h:Heap}{args:List WData}{vals:List Value}
 (Dm:l.row.toRowW.claim.pre args=true) (MD:WellAll P h vals args):
 ∃a vs ns,vals=[Value.ref a]∧args=[WData.list (ns.map WData.int)]∧h.get? a=some {cls:=.type "list",data:=.seq vs.toArray}∧IntsAre vs ns∧ns.length≤n:=by
 have P6:WShape.hasAll [] args [.list .int]=true:=(pre_splitW Dm).1
 have hc:l.pre.holds [] {args:=args}=true:=(pre_splitW Dm).2
 obtain⟨d,r,rfl,h1,h2⟩:=hasAllW_cons P6
 obtain rfl:=hasAllW_nil h2
 obtain⟨xs,rfl,h3⟩:=hasW_list h1
 obtain⟨ns,rfl⟩:=items_int h3
 have hlen:ns.length≤n:=by
  unfold OpenLaw.pre at hc;have h4:(WTm.not (.lt (.lit (.int (n:Int))) (.len (.arg 0)))).holds [] {args:=[.list (ns.map .int)]}=true:=by
   have h4:=(holds_andW hc).1
   rw [hn] at h4;exact h4
  have h5:=condW_of h4 (w_not (w_lt w_lit (w_len_list (w_arg rfl))))
  rw [zzl] at h5;refine Nat.le_of_not_lt fun q=>?_
  have q':(n:Int)<((ns.length:Nat):Int):=by omega
  first
   |(rw [zzh q'] at h5;exact absurd h5 (by decide))
   |(simp at h5;omega)
 cases MD with
 |cons w1 w2=>
  cases w2;cases w1 with
  |list ho hall=>exact⟨_,_,ns,rfl,rfl,ho,jh ns _ hall,hlen⟩
theorem vm(l:OpenLaw)(args:List WData):l.row.toRowW.claim.post args (.bool true) args=true:=
 postW_of (r:=l.row.toRowW) (X:=(true==true))
  (show WShape.has [] (.bool true) .bool=true by first|rfl|decide|simp [WShape.has,WShape.arms,WShape.armsAll])
  (show(WTm.eq .res (.lit (.bool true))).value [] {args:=args,res:=some (.bool true),after:=args}=some (.bool (true==true)) from w_eq_bool (w_res rfl) w_lit) rfl
theorem attach_call{l:OpenLaw}{n:Nat}{q:Program}{loose:List Str}{XP:(Str→Option Value)→Heap→Prop}{YP:World→Heap→Prop}{d:DefRec}
 (hn:l.most=some n) (IB:d.params.defaults=[])
 (call:∀(w:World) (s₀ s₁:Shared) (mg mb:Str→Option Value) (fa:Addr) (o:Obj) (pm cd doc:Value) (a:Addr) (vs:List Value) (ns:List Int),
  Ground q loose [] XP w s₀ mg mb s₁.heap→YP w s₁.heap→
  s₁.heap.get? fa=some o→o.data=.func (docDef d.name d.params d.body d.scope pm cd doc)→s₁.heap.CodeRec cd d.name→mg d.name=some (.ref fa)→
  s₁.heap.get? a=some {cls:=.type "list",data:=.seq vs.toArray}→IntsAre vs ns→ns.length≤n→s₁.gens=#[]→
  codeAny (model l.prog w) callerA (.call (.ref fa) ⟨[.ref a],[]⟩) (fun r s'=>r=.ok (.ret (.bool true))∧OldK s₁.heap s'.heap∧s'.os=s₁.os∧AllBare s'.gens) s₁):
 WalkO q loose XP YP l.row.toRowW d [] (fun f vs=>PySem.call f vs):=by
 intro w s₀ s₁ mg mb G Y fa o pm cd doc dV kV ho hd rQ hD hmg hg args vals as Dm hlay hrd MD hlo;obtain rfl:dV=.none:=Dflts.none hD IB
 obtain rfl:kV=.none:=Dflts.noKw hD
 obtain⟨a,vs,ns,rfl,rfl,hobj,hints,hlen⟩:=wZ hn Dm MD
 refine enter_call (codeAny_mono (call w s₀ s₁ mg mb fa o pm cd doc a vs ns G Y ho (fd_plain hd) rQ hmg hobj hints hlen hg) fun r s' hq=>?_)
 obtain⟨rfl,h2,h3,h4⟩:=hq
 exact⟨.inl ⟨.bool true,.bool true,[],rfl,fun _=>rfl,.bool true,vm l _,fun _=>⟨List.Pairwise.nil,fun _ hm=>(nomatch hm)⟩⟩,h2,h3,h4⟩
section
variable{prog:Program}{w:World}{A:Around}{E:Value→Shared→Prop}{s:Shared}{K:Frag}
def ledger(h:Heap)(L d:Addr):List (Addr×Obj):=(List.range h.objs.size).filterMap fun a=>if a=L∨a=d then none else(h.get? a).map fun o=>(a,o)
end
end Att
namespace L2
open PySem PySem.Spec PyProof.Rows
theorem mU:∀{vs:List Value} {ns:List Int},IntsAre vs ns→Vals (ns.map V.int) vs
 |_,_,.nil=>.nil
 |_,_,.cons n t h=>.cons ⟨t,rfl⟩ (mU h)
noncomputable def defArgs(s:Stmt):Arguments:=match s with
 |.FunctionDef _ a _ _ _ _ _ _ _ _=>a
 |_=>{posonlyargs:=[],args:=[],vararg:=none,kwonlyargs:=[],kw_defaults:=[],kwarg:=none,defaults:=[]}
def defBody(s:Stmt):List Stmt:=match s with
 |.FunctionDef _ _ b _ _ _ _ _ _ _=>b
 |_=>[]
def defScope(s:Stmt):Scope:=match s with
 |.FunctionDef _ _ _ _ _ _ sc _ _ _=>sc
 |_=>{kind:=.function,names:=[],isGenerator:=false,isCoroutine:=false}
structure K9(K:PySem.W.Frag)(x qual:Str)(st:Stmt)(f:Addr)(fd:FuncData):Prop where
 ex:∃(oc:Value) (od:Option Addr) (kV doc pm:Value) (an:Option Addr) (e9 ct:Value) (sD:Array (Option Value)),
  fd=PySem.W.fnOf x qual (defArgs st) (defBody st) (defScope st) .none kV doc pm an e9 ct∧K.lookup f=some ⟨oc,od,.func fd,sD⟩∧PySem.W.codeIn K e9 qual=true
 kp:PySem.W.keepIn K (.ref f)=true
section
variable{P:Program}{w:World}{K:PySem.W.Frag}{mg:Str→Option Value}{base:Heap}
theorem K9.binds{x qual:Str}{st:Stmt}{f:Addr}{fd:FuncData}{ps:List Str}(F:K9 K x qual st f fd)
 (h:∀(kV doc pm:Value) (an:Option Addr) (e9 ct:Value) (us:List Value),us.length=ps.length→bindArgs (PySem.W.fnOf x qual (defArgs st) (defBody st) (defScope st) .none kV doc pm an e9 ct) ⟨us,[]⟩=pure (ps.zip us)):Binds K fd ps []:=by
 obtain⟨oc,od,kV,doc,pm,an,e9,ct,sD,rfl,lk,rQ⟩:=F.ex
 exact .all (h kV doc pm an e9 ct)
theorem yl{x qual:Str}{st:Stmt}{f:Addr}{oc:Value}{od an:Option Addr}{sD:Array (Option Value)}{kV doc pm e9 ct:Value}(l:K.lookup f=some ⟨oc,od,.func (PySem.W.fnOf x qual (defArgs st) (defBody st) (defScope st) .none kV doc pm an e9 ct),sD⟩)
 (c:PySem.W.codeIn K e9 qual=true) (k:PySem.W.keepIn K (.ref f)=true):K9 K x qual st f (PySem.W.fnOf x qual (defArgs st) (defBody st) (defScope st) .none kV doc pm an e9 ct):=⟨⟨oc,od,kV,doc,pm,an,e9,ct,sD,rfl,l,c⟩,k⟩
end
section
variable{X:Cx}
theorem pv(i:Nat){x:Str}{pos:Pos}(hN:X.N[i]?=some x:=by rfl)(hv:IE X.env.scope x:=by first|exact Or.inl rfl|exact Or.inr (Or.inl rfl)|exact Or.inr (Or.inr rfl))(hd:(x==("__debug__":Str))=false:=by decide)
 (rQ:(x==("__classdict__":Str))=false:=by decide):PE X (.Name x pos) (y9 i):=d9 hN hv hd rQ
end
theorem MY{A B:Prop}(h:B):if false=true then A else B:=by
 rw [if_neg zzf];exact h
theorem Mn{A B:Prop}(h:A):if true=true then A else B:=by
 rw [if_pos rfl];exact h
def aG(H H':Hp):Prop:=∀b o,H b=some o→H' b=some o
theorem aG.refl(H:Hp):aG H H:=fun _ _ h=>h
theorem aG.trans{H H1 H2:Hp}(a:aG H H1)(b:aG H1 H2):aG H H2:=fun c o h=>b c o (a c o h)
theorem aG.free{H H':Hp}(e:aG H H'){l:Addr}(h:H' l=Option.none):H l=Option.none:=by
 cases q:H l with
 |none=>rfl
 |some o=>
  rw [e l o q] at h;cases h
end L2
set_option maxHeartbeats 8000000
namespace L2
open PySem PySem.Spec PyProof.Rows
open PySem.W (hideAll hideAll_get of_hideAll funFrames_hide)
structure AY(P:Program)(w:World)(outer:List Env)(H:Hp)(s:Shared)(E:XK)(a C t:Addr)(vs:List Value)(H':Hp)(B:Heap)(s':Shared):Prop where
 os:s'.os=s.os
 bare:AllBare s'.gens
 hok:dU P w H' B
 fly:Heap.FlyingW B outer a (.ref C) (.ref t) s'.heap
 tn:B.get? t=none
 tup:s'.heap.TupAt t vs
 keepB:∀b o,s.heap.get? b=some o→H b=none→b∉eo outer→B.get? b=some o
 thereB:∀b o,s.heap.get? b=some o→b∉eo outer→∃o',B.get? b=some o'
 un:Un (eo outer) [] H H' s.heap s'.heap
 ends:E (.ref C) (some a) H'
def dF(P:Program)(w:World):rn:=fun outer H s E e s'=>∃a C t vs H' B,e=.ref a∧AY P w outer H s E a C t vs H' B s'
section
variable{P:Program}{w:World}{K:PySem.W.Frag}{mg:Str→Option Value}{base:Heap}{N:List Str}{qual:Str}{scope:Scope}{f:Addr}{cd:Value}{A:Around}{outer:List Env}{s0:Shared}{H0:Hp}{E:XK}
theorem iJ{X:Cx}{pins:List (Addr×Obj)}{σ:St}{H:Hp}{s:Shared}(I:Inv X pins σ H s){b:Addr}{o:Obj}(hl:X.env.locals=X.s₀.heap.objs.size)(q:X.s₀.heap.get? b=some o)(hb:b∉X.fs):b∉eo X.stack:=fun z=>by
 rcases List.mem_cons.mp (I.stkSub b z) with e|e
 ·rw [hl] at e;exact absurd (zzO q) (by rw [e];exact Nat.lt_irrefl _)
 ·exact hb e
theorem Ii:Passes (dF P w) (dC (dF P w) P w K mg base N qual scope f cd A outer s0 H0 E) E:=by
 rintro pins σ H s e s' I ⟨a,C,t,vs,H',B,rfl,F⟩
 have nx:∀b:Addr,b∉(dC (dF P w) P w K mg base N qual scope f cd A outer s0 H0 E).ex:=fun b z=>nomatch (show b∈([]:List Addr) from z)
 have keepB:∀b o,s0.heap.get? b=some o→H0 b=none→b∉eo outer→B.get? b=some o:=fun b o q n hb=>
  F.keepB b o (I.base.keep b o q n hb (nx b)) (I.base.free b o q n (nx b)) (iJ I rfl q hb)
 have thereB:∀b o,s0.heap.get? b=some o→b∉eo outer→∃o',B.get? b=some o':=fun b o q hb=>by
  obtain⟨o1,q1⟩:=I.base.there b o q (nx b)
  exact F.thereB b o1 q1 (iJ I rfl q hb)
 refine wpAny_leaves_onW I.ok.frames rfl F.fly fun h' x1 x2=>⟨a,C,t,vs,H',B,rfl,?_⟩
 have slot:∀b o,s0.heap.get? b=some o→H0 b=none→b∈eo outer→∃sl,h'.get? b=some {o with slots:=sl}:=fun b o q n hb=>by
  obtain⟨sl,q1⟩:=I.base.slot b o q n hb (nx b)
  obtain⟨Az,q2⟩:=F.un.any q1 (I.base.free b o q n (nx b)) (fun z=>nomatch z)
  obtain⟨_,o',q3,hd⟩:=F.fly.2.2.1.mem (b:=b) (List.mem_filterMap.mpr (let⟨v,h1,h2⟩:=List.mem_filterMap.mp hb;⟨v,.tail _ h1,h2⟩))
  rw [q2] at q3;cases q3;obtain⟨sl3,q4⟩:=x2 b _ q2 hd
  exact⟨sl3,q4⟩
 refine⟨F.os.trans I.os,F.bare,F.hok,x1,F.tn,F.tup.of_slots x2,keepB,thereB,⟨fun b o q n hb _=>x1.1 _ _ (keepB b o q n hb),fun b o q n hb _=>slot b o q n hb,fun b o q n _=>?_,fun b o q _=>?_,fun b xs q=>F.un.tups _ _ (I.base.tups _ _ q),fun b o u q=>F.un.frzs _ _ _ (I.base.frzs _ _ _ q),fun b ps q=>?_⟩,F.ends⟩
 ·obtain⟨sl,q1⟩:=I.base.any q n (nx b)
  exact F.un.free b _ q1 (I.base.free b o q n (nx b)) (fun z=>nomatch z)
 ·by_cases hb:b∈eo outer
  ·obtain⟨sl,q1⟩:=slot b o q (I.ok.frf b hb) hb
   exact⟨_,q1⟩
  ·obtain⟨o',q1⟩:=thereB b o q hb
   exact⟨o',x1.1 _ _ q1⟩
 ·obtain⟨m1,q1⟩:=I.base.tbls b ps q
  obtain⟨m2,q2⟩:=F.un.tbls b _ q1
  exact⟨m1++m2,by rw [←Array.append_assoc];exact q2⟩
theorem EJ{pins:List (Addr×Obj)}{σ:St}{H:Hp}{s:Shared}{h1:Heap}{e C:Addr}{us:List Value}(I:Inv (dC (dF P w) P w K mg base N qual scope f cd A outer s0 H0 E) pins σ H s)
 (hx:Heap.MadeExcOf s.heap h1 e (.ref C) us) (hE:E (.ref C) (some e) H):(dC (dF P w) P w K mg base N qual scope f cd A outer s0 H0 E).xe (.ref e) {s with heap:=h1}:=by
 have nx:∀b:Addr,b∉(dC (dF P w) P w K mg base N qual scope f cd A outer s0 H0 E).ex:=fun b z=>nomatch (show b∈([]:List Addr) from z)
 have CF:∀env∈(dC (dF P w) P w K mg base N qual scope f cd A outer s0 H0 E).stack,∀b,env.frame=some b→b∈eo (dC (dF P w) P w K mg base N qual scope f cd A outer s0 H0 E).stack:=fun env he b hb=>List.mem_filterMap.mpr ⟨env,he,hb⟩
 refine wpAny_leaves_madeW (h:=s.heap) I.ok.frames rfl (fun b o q=>of_hideAll _ q) (funFrames_hide I.stack CF) hx fun h' t x1 x2 x3 x4=>⟨e,C,t,us,H,hideAll s.heap (eo (dC (dF P w) P w K mg base N qual scope f cd A outer s0 H0 E).stack),rfl,?_⟩
 have keepB:∀b o,s0.heap.get? b=some o→H0 b=none→b∉eo outer→(hideAll s.heap (eo (dC (dF P w) P w K mg base N qual scope f cd A outer s0 H0 E).stack)).get? b=some o:=fun b o q n hb=>
  hideAll_get _ (I.base.keep b o q n hb (nx b)) (iJ I rfl q hb)
 have thereB:∀b o,s0.heap.get? b=some o→b∉eo outer→∃o',(hideAll s.heap (eo (dC (dF P w) P w K mg base N qual scope f cd A outer s0 H0 E).stack)).get? b=some o':=fun b o q hb=>by
  obtain⟨o1,q1⟩:=I.base.there b o q (nx b)
  exact⟨o1,hideAll_get _ q1 (iJ I rfl q hb)⟩
 have slot:∀b o,s0.heap.get? b=some o→H0 b=none→b∈eo outer→∃sl,h'.get? b=some {o with slots:=sl}:=fun b o q n hb=>by
  obtain⟨sl,q1⟩:=I.base.slot b o q n hb (nx b)
  obtain⟨_,o',q3,hd⟩:=I.stack.mem (b:=b) (List.mem_filterMap.mpr (let⟨v,h1,h2⟩:=List.mem_filterMap.mp hb;⟨v,.tail _ h1,h2⟩))
  rw [q1] at q3;cases q3;obtain⟨sl3,q4⟩:=x4 b _ (hx.keeps _ _ q1) hd
  exact⟨sl3,q4⟩
 refine⟨I.os,I.bare,fun b o q=>?_,x1,x3,x2,keepB,thereB,⟨fun b o q n hb _=>x1.1 _ _ (keepB b o q n hb),fun b o q n hb _=>slot b o q n hb,fun b o q n _=>I.base.free b o q n (nx b),fun b o q _=>?_,I.base.tups,I.base.frzs,I.base.tbls⟩,hE⟩
 ·refine(I.hok b o q).stay (fun c v hc r=>hideAll_get _ r fun z=>?_) (fun _ q=>q) fun _ _ q=>q
  have z':=I.stkFree c z
  rcases hc with rfl|hc
  ·rw [q] at z';cases z'
  ·rw [hc] at z';cases z'
 ·by_cases hb:b∈eo outer
  ·obtain⟨sl,q1⟩:=slot b o q (I.ok.frf b hb) hb
   exact⟨_,q1⟩
  ·obtain⟨o',q1⟩:=thereB b o q hb
   exact⟨o',x1.1 _ _ q1⟩
end
theorem i5{P:Program}{w:World}{H:Hp}{h:Heap}{a:Addr}{o:HO}(x:bQ P w H h a o):∃o',h.get? a=some o':=by
 cases o with
 |lst xs=>obtain⟨_,_,_,_,e⟩:=x;exact⟨_,e⟩
 |tup xs=>obtain⟨_,_,_,o,e,_⟩:=x;exact⟨_,e⟩
 |dK aB=>obtain⟨_,_,_,_,o,_,_,e,_⟩:=x;exact⟨_,e⟩
 |dT aB=>obtain⟨_,_,_,_,o,_,_,e,_⟩:=x;exact⟨_,e⟩
 |set S n=>obtain⟨o,_,_,_,e,_⟩:=x;exact⟨_,e⟩
 |ins C dx fs=>obtain⟨_,_,_,e,_⟩:=x;exact⟨_,e⟩
 |own y=>exact x
 |xd fs=>obtain⟨_,⟨_,_,_,e,_⟩,_⟩:=x;exact⟨_,e⟩
 |rng lo hi=>obtain⟨_,_,_,e⟩:=x;exact⟨_,e⟩
 |frz ob u=>obtain⟨e,_⟩:=x;exact⟨_,e⟩
 |tbl ps=>exact⟨_,x⟩
 |met f y=>exact⟨_,x⟩
 |ext φ=>exact x.2.1
def Gi(C:Addr)(E:XK)(ta:TA):TS:=fun _ σ H=>ta σ H fun vs H1=>vs.length≤sizeLine∧∀e,H1 e=none→E (.ref C) (some e) H1
section
variable{P:Program}{w:World}{K:PySem.W.Frag}{mg:Str→Option Value}{base:Heap}{N:List Str}{qual:Str}{scope:Scope}{f:Addr}{cd:Value}{A:Around}{outer:List Env}{s0:Shared}{H0:Hp}{E:XK}
theorem xY{x:Str}{C:Addr}{Bn newId Fp:String}{bm:List Value}{e₀:Expr}{rest:List Expr}{np bA pos:Pos}{ta:TA}(hg:Gl (dC (dF P w) P w K mg base N qual scope f cd A outer s0 H0 E) x)(O:OwnCls x C bm newId mg base)(FB:ExcBaseFacts Bn newId Fp bm)
 (ha:PA (dC (dF P w) P w K mg base N qual scope f cd A outer s0 H0 E) (e₀::rest) ta)
 (he:starEach (e₀::rest) (dC (dF P w) P w K mg base N qual scope f cd A outer s0 H0 E).env=(false,eval e₀ (dC (dF P w) P w K mg base N qual scope f cd A outer s0 H0 E).env)::starEach rest (dC (dF P w) P w K mg base N qual scope f cd A outer s0 H0 E).env:=by rfl)
 (k9:(backTo bA (starEach rest (dC (dF P w) P w K mg base N qual scope f cd A outer s0 H0 E).env)).any (·.1)=false:=by rfl) (hd:(x==("__debug__":Str))=false:=by decide):
 PS (dC (dF P w) P w K mg base N qual scope f cd A outer s0 H0 E) (.Raise (some (.Call (.Name x np) (e₀::rest) [] bA)) none pos) (Gi C E ta):=by
 intro pins s σ H D I h;obtain⟨tl,Nn,nm,q,bs,hdct,sn,sub,ab,col,dd,k0,k1,k2,k3,k5,mN,hC,hN,hni,T⟩:=O.obj
 refine wpAny_Raise_call_subT (C:=C) (nm:=nm) (q:=q) (N:=Nn) (bs:=bs) (bm:=tl) (hdct:=hdct) (sn:=sn) (sub:=sub) (ab:=ab) (col:=col) (dd:=dd) (k0:=k0) (k1:=k1) (k2:=k2) (k3:=k3) (k5:=k5)
  FB (mN:=mN) (T.hasType FB.hasBase) (I.ok.hd rfl) (by rw [he];show(false||(backTo bA (starEach rest (dC (dF P w) P w K mg base N qual scope f cd A outer s0 H0 E).env)).any (·.1))=false;rw [k9];rfl) hni (fV I hg O.bound ⟨rfl,?_⟩ hd)
 have h2:=ha bA pins s σ H _ I h
 rw [he] at h2⊢;refine Calls.evalArgs_plain (wpAny_mono h2 (fun us s2 ⟨vs,H1,I1,rv,hl,hE⟩=>?_) fun _ _ y=>y)
 refine⟨rfl,by rw [←rv.length];exact hl,I1.bk _ _ hC,hN.keeps I1.bk,T.keeps I1.bk,fun h1 e hx=>EJ I1 hx (hE e ?_)⟩
 cases z:H1 e with
 |none=>rfl
 |some o=>
  obtain⟨o',iD⟩:∃o',s2.heap.get? e=some o':=by
   exact i5 (I1.hok _ _ z)
  rw [hx.new] at iD;cases iD
end
def Iq(a C:Addr):HO:=.ext fun h=>∃ob vs,h.get? a=some ob∧ob.cls=.ref C∧ob.data=.fields vs
section
variable{P:Program}{w:World}
theorem AY.fresh{outer:List Env}{H:Hp}{s s':Shared}{E:XK}{a C t:Addr}{vs:List Value}{H':Hp}{B:Heap}(F:AY P w outer H s E a C t vs H' B s'):H' a=none:=by
 cases z:H' a with
 |none=>rfl
 |some o=>
  obtain⟨o',iD⟩:=i5 (F.hok _ _ z)
  rw [F.fly.2.1] at iD;cases iD
end
def bF(env:Env)(ys:List Str):List (Str×Addr):=ys.map fun y=>(y,(env.cells.lookup y).getD 0)
def Aq(σ:St)(is:List Nat):St:=is.map fun i=>(σ[i]?).join
def jY(scope:Scope)(x:Str):Bool:=scope.names.lookup x==some .cell
theorem rJ{x:Str}{c:Addr}:∀(names:List (Str×NameKind)) (n:Nat) (acc:List (Str×Addr)),(x,c)∈cellsFrom n names acc→(x,c)∈acc∨(x,NameKind.cell)∈names∧n≤c
 |[],n,acc,h=>by rw [cellsFrom.eq_def] at h;exact .inl h
 | (y,k)::r,n,acc,h=>by
  rw [cellsFrom.eq_def] at h;dsimp only at h;split at h
  ·rename_i hk;cases eq_of_beq hk;rcases rJ r (n+1) _ h with z|⟨z1,z2⟩
   ·rcases List.mem_cons.mp z with z|z
    ·cases z;exact .inr ⟨zzP ..,zzE _⟩
    ·exact .inl z
   ·exact .inr ⟨zzI _ z1,Nat.le_of_succ_le z2⟩
  ·rcases rJ r n _ h with z|⟨z1,z2⟩
   ·exact .inl z
   ·exact .inr ⟨zzI _ z1,z2⟩
theorem pG{x:Str}{c:Addr}:∀(names:List (Str×NameKind)) (n:Nat) (acc:List (Str×Addr)),(cellsFrom n names acc).lookup x=some c→acc.lookup x=some c∨(x,NameKind.cell)∈names∧n≤c
 |[],n,acc,h=>by rw [cellsFrom.eq_def] at h;exact .inl h
 | (y,k)::r,n,acc,h=>by
  rw [cellsFrom.eq_def] at h;dsimp only at h;split at h
  ·rename_i hk;cases eq_of_beq hk;rcases pG r (n+1) _ h with z|⟨z1,z2⟩
   ·rw [List.lookup_cons] at z;cases e:x==y with
    |true=>rw [e] at z;cases z;cases eq_of_beq e;exact .inr ⟨zzP ..,zzE _⟩
    |false=>rw [e] at z;exact .inl z
   ·exact .inr ⟨zzI _ z1,Nat.le_of_succ_le z2⟩
  ·rcases pG r n _ h with z|⟨z1,z2⟩
   ·exact .inl z
   ·exact .inr ⟨zzI _ z1,z2⟩
theorem o5{x:Str}:∀(names:List (Str×NameKind)) (n:Nat) (acc:List (Str×Addr)),(x,NameKind.cell)∉names→(cellsFrom n names acc).lookup x=acc.lookup x
 |[],n,acc,_=>by rw [cellsFrom.eq_def]
 |(y,k)::r,n,acc,h=>by
  rw [cellsFrom.eq_def];dsimp only;have hr:(x,NameKind.cell)∉r:=fun z=>h (zzI _ z)
  split
  ·rename_i hk;cases eq_of_beq hk;rw [o5 r (n+1) _ hr,List.lookup_cons];cases e:x==y with
   |true=>cases eq_of_beq e;exact absurd (zzP ..) h
   |false=>rfl
  ·exact o5 r n acc hr
theorem EX{x:Str}{c:Addr}:∀(names:List (Str×NameKind)) (n:Nat) (acc:List (Str×Addr)),(x,c)∈cellsFrom n names acc→(∀p∈acc,p.2≠c)→(x,c)∈cellsFrom n names []
 |names,n,acc,h,ha=>by
  have key:∀(names:List (Str×NameKind)) (n:Nat) (acc b:List (Str×Addr)),(x,c)∈cellsFrom n names (b++acc)→(∀p∈acc,p.2≠c)→(x,c)∈cellsFrom n names b:=by
   intro names
   induction names with
   |nil=>
    intro n acc b h ha;rw [cellsFrom.eq_def] at h⊢;rcases List.mem_append.mp h with z|z
    ·exact z
    ·exact absurd rfl (ha _ z)
   |cons y r ih=>
    intro n acc b h ha;obtain⟨y,k⟩:=y
    rw [cellsFrom.eq_def] at h⊢;dsimp only at h⊢;split at h
    ·rename_i hk;rw [if_pos hk];exact ih (n+1) acc ((y,n)::b) h ha
    ·rename_i hk;rw [if_neg hk];exact ih n acc b h ha
  exact key names n acc [] h ha
theorem oY{x y:Str}{c:Addr}:∀(names:List (Str×NameKind)) (n:Nat) (acc:List (Str×Addr)),(∀p∈acc,p.2<n)→n≤c→(x,c)∈cellsFrom n names acc→(y,c)∈cellsFrom n names acc→x=y
 |[],n,acc,ha,hc,h1,h2=>by
  rw [cellsFrom.eq_def] at h1;exact absurd (ha _ h1) (Nat.not_lt.mpr hc)
 | (z,k)::r,n,acc,ha,hc,h1,h2=>by
  rw [cellsFrom.eq_def] at h1 h2;dsimp only at h1 h2;split at h1
  ·rename_i hk;rw [if_pos hk] at h2;have O6:∀p∈(z,n)::acc,p.2<n+1:=fun p hp=>by
    rcases List.mem_cons.mp hp with q|q
    ·rw [q];exact Nat.lt_succ_self _
    ·exact Nat.lt_succ_of_lt (ha p q)
   by_cases hn:n+1≤c
   ·exact oY r (n+1) _ O6 hn h1 h2
   ·have one:∀{w:Str},(w,c)∈cellsFrom (n+1) r ((z,n)::acc)→w=z:=fun{w} h=>by
     rcases rJ r (n+1) _ h with q|q
     ·rcases List.mem_cons.mp q with q|q
      ·cases q;rfl
      ·exact absurd (ha _ q) (Nat.not_lt.mpr hc)
     ·exact absurd q.2 hn
    rw [one h1,one h2]
  ·rename_i hk;rw [if_neg hk] at h2;exact oY r n acc ha hc h1 h2
theorem r8{M:Model}{A:Around}{E:Value→Shared→Prop}{s:Shared}{scope:Scope}{g:Addr}{cl:List (Str×Addr)}{qual:Str}{around:Env}{Q:Env→Shared→Prop}
 (h:Q (newEnv scope s.heap.objs.size g (cellsFrom (s.heap.objs.size+1) scope.names cl) qual none .none (some around) builtinsNs) {s with heap:=pushCells (s.heap.push {cls:=.type "dict",data:=.dict #[]}) scope.names}):
 wpAny M A (newFunctionEnv scope g cl [] qual none .none (some around)) Q E s:=by
 unfold newFunctionEnv;refine zzA (wpAny_alloc ?_);refine zzA (wpAny_forIn_list _ (fun rest b s'=>s'={s with heap:=s'.heap}∧pushCells s'.heap rest=pushCells (s.heap.push {cls:=.type "dict",data:=.dict #[]}) scope.names∧cellsFrom s'.heap.objs.size rest b=cellsFrom (s.heap.objs.size+1) scope.names cl) _ (fun x rest b s' hI=>?_) (fun b s' hI=>?_) scope.names cl ⟨rfl,rfl,by rw [Heap.size_push]⟩)
 ·obtain⟨h1,h2,h3⟩:=hI
  obtain⟨nm,k⟩:=x
  rw [pushCells.eq_def] at h2;rw [cellsFrom.eq_def] at h3;dsimp only at h2 h3⊢;split
  ·rename_i hk;rw [if_pos hk] at h2 h3;refine zzA (wpAny_alloc (zzG ⟨by rw [h1],h2,?_⟩));dsimp only;rw [Heap.size_push];exact h3
  ·rename_i hk;rw [if_neg hk] at h2 h3;exact zzG ⟨h1,h2,h3⟩
 ·obtain⟨h1,h2,h3⟩:=hI
  rw [pushCells.eq_def] at h2;rw [cellsFrom.eq_def] at h3;dsimp only at h2 h3;subst h3;rw [h1,h2];exact zzA (zzG (zzG h))
noncomputable def bS(X:Cx)(N':List Str)(scope:Scope)(cl:List (Str×Addr))(fp:List Addr)(s₁:Shared)(H₁:Hp)(C:Addr):Cx where
 prog:=X.prog
 w:=X.w
 K:=X.K
 mg:=X.mg
 base:=X.base
 A:=X.A
 N:=N'
 s₀:=s₁
 H₀:=H₁
 env:=compEnvC scope (cellsFrom (C+1) scope.names cl) C X.env
 outer:=X.stack
 stack:=X.stack
 ex:=fp
 fn:=jY scope
 calm:=true
 pn:=[]
 xe:=fun _ _=>False
theorem dY{env:Env}:∀{ys:List Str},(ys.all fun y=>(env.cells.lookup y).isSome)=true→∀(x:Str) (c:Addr),(bF env ys).lookup x=some c→env.cells.lookup x=some c
 |[],_,_,_,h=>by simp [bF] at h
 |y::ys,ha,x,c,h=>by
  rw [List.all_cons,zza] at ha;have ih:=dY (env:=env) ha.2 x c
  unfold bF at h ih;rw [zzF,List.lookup_cons] at h;cases e:x==y with
  |true=>
   rw [e] at h;have LV:x=y:=beq_iff_eq.mp e
   subst LV;obtain⟨c',f6⟩:=Option.isSome_iff_exists.mp ha.1
   rw [f6] at h⊢;exact h
  |false=>
   rw [e] at h;exact ih h
theorem iA{env:Env}:∀{ys:List Str} {x:Str},x∈ys→∃c,(bF env ys).lookup x=some c
 |[],_,h=>nomatch h
 |y::ys,x,h=>by
  unfold bF;rw [zzF,List.lookup_cons];cases e:x==y with
  |true=>exact⟨_,rfl⟩
  |false=>
   have hx:x∈ys:=by
    rcases List.mem_cons.mp h with z|z
    ·rw [z] at e;simp at e
    ·exact z
   exact iA (env:=env) hx
theorem i8{scope:Scope}{env:Env}{x:Str}{k:NameKind}(h:(relabel scope env).names.lookup x=some k)(hk:k=.cell∨k=.free):∃k',(x,k')∈scope.names∧(k'=.cell∨k'=.free):=by
 have hm:=PySem.mem_of_lookup h
 unfold relabel at hm;obtain⟨⟨n,k0⟩,h0,e⟩:=List.mem_map.mp hm
 dsimp only at e;split at e
 ·rename_i hc;cases e;refine⟨k0,h0,.inr ?_⟩;rw [zza,zza] at hc;exact beq_iff_eq.mp hc.1.1
 ·cases e;exact⟨k,h0,hk⟩
structure en(X:Cx)(scope:Scope)(xs ys:List Str)(is:List Nat):Prop where
 kind:scope.kind=.function
 clos:closureFor scope X.env=pure (bF X.env ys)
 cells:(ys.all fun y=>(X.env.cells.lookup y).isSome)=true
 cov:(scope.names.all fun y=>(decide (y.2≠.cell)||!ys.contains y.1)&&(decide (y.2≠.free)||ys.contains y.1))=true
 own:(scope.names.all fun y=>decide (y.2≠.cell)||decide (scope.names.lookup y.1=some .cell))=true
 names:(scope.names.all fun y=>decide (y.2≠.local)||decide (scope.names.lookup y.1=some .local))=true
 slots:is.map (fun i=>X.N[i]?)=ys.map some
 kX:(ys.all fun y=>decide (X.env.kindOf y=some .cell))=true
 kY:(ys.all fun y=>decide ((relabel scope X.env).names.lookup y=some .cell))=true
section
variable{X:Cx}{pins:List (Addr×Obj)}{σ:St}{H:Hp}{s:Shared}{scope:Scope}{xs ys:List Str}{is:List Nat}
theorem en.ownL(S:en X scope xs ys is){x:Str}(h:(x,NameKind.cell)∈scope.names):scope.names.lookup x=some .cell∧x∉ys:=by
 have q:=zzT.mp S.own _ h
 have c:=zzT.mp S.cov _ h
 rw [zza,Bool.or_eq_true] at c;rw [Bool.or_eq_true] at q;refine⟨zzY (q.resolve_left fun z=>zzY z rfl),fun hy=>?_⟩
 rcases c.1 with z|z
 ·exact zzY z rfl
 ·rw [List.contains_iff_mem.mpr hy] at z;cases z
theorem fN(I:Inv X pins σ H s)(S:en X scope xs ys is){C:Addr}(hC:s.heap.objs.size≤C){x:Str}{c:Addr}(h:(cellsFrom (C+1) scope.names (bF X.env ys)).lookup x=some c):
 (X.env.cells.lookup x=some c∧c<s.heap.objs.size∧x∈ys)∨((x,NameKind.cell)∈scope.names∧C+1≤c):=by
 rcases pG _ _ _ h with z|z
 ·have e:=dY S.cells x c z
  obtain⟨v,q⟩:=I.cell x c e
  refine .inl ⟨e,q.lt,?_⟩;have hm:=PySem.mem_of_lookup z
  unfold bF at hm;obtain⟨y,hy,e2⟩:=List.mem_map.mp hm
  cases e2;exact hy
 ·exact .inr z
theorem vS(I:Inv X pins σ H s)(hc:X.calm=true)(S:en X scope xs ys is){N':List Str}{fp:List Addr}{C:Addr}(hC:s.heap.objs.size≤C)(hf:∀b∈fp,fc X pins H b)(BP:∀b∈fp,b<s.heap.objs.size):
 (bS X N' scope (bF X.env ys) fp s H C).Ok where
 mod:=I.ok.mod
 kind:=S.kind
 glob:=I.ok.glob
 blt:=I.ok.blt
 above:=hC
 inj:=fun x y c h1 h2=>by
  rcases fN I S hC h1 with z1|z1
  ·rcases fN I S hC h2 with z2|z2
   ·exact I.ok.inj x y c z1.1 z2.1
   ·exact absurd z1.2.1 (Nat.not_lt.mpr (zzU hC (Nat.le_of_succ_le z2.2)))
  ·refine oY scope.names (C+1) (bF X.env ys) (fun p hp=>?_) z1.2 (PySem.mem_of_lookup h1) (PySem.mem_of_lookup h2);unfold bF at hp;obtain⟨y,hy,rfl⟩:=List.mem_map.mp hp
   obtain⟨c',f6⟩:=Option.isSome_iff_exists.mp (zzT.mp S.cells y hy)
   obtain⟨v,q⟩:=I.cell y c' f6
   dsimp only;rw [f6];exact Nat.lt_succ_of_le (zzU (Nat.le_of_lt q.lt) hC)
 has:=fun x hx=>by
  have Av:(relabel scope X.env).names.lookup x=some .cell∨(relabel scope X.env).names.lookup x=some .free:=hx
  have:∃k',(x,k')∈scope.names∧(k'=.cell∨k'=.free):=by
   rcases Av with z|z
   ·exact i8 z (.inl rfl)
   ·exact i8 z (.inr rfl)
  obtain⟨k',hm,hk⟩:=this
  have cv:=zzT.mp S.cov _ hm
  rw [zza,Bool.or_eq_true,Bool.or_eq_true] at cv;rcases hk with z|z
  ·subst z;exact Option.isSome_iff_exists.mp (PySem.W.cellsFrom_some _ _ _ (.inl (S.ownL hm).1))
  ·rcases cv.2 with q|q
   ·exact absurd z (zzY q)
   ·refine Option.isSome_iff_exists.mp (PySem.W.cellsFrom_some _ _ _ (.inr ?_));obtain⟨c,e⟩:=iA (env:=X.env) (List.contains_iff_mem.mp q)
    rw [e];rfl
 cab:=fun x c h e=>by
  have hm:(x,NameKind.cell)∈scope.names:=PySem.mem_of_lookup (eq_of_beq h)
  rcases fN I S hC e with z|z
  ·exact absurd z.2.2 (S.ownL hm).2
  ·exact zzU hC (Nat.le_of_succ_le z.2)
 hd:=fun _=>I.ok.hd hc
 frames:=I.ok.frames
 stk:=.inl rfl
 exf:=fun b hb=>⟨zzb (zzW (BP b hb) hC),fun x c h=>(fN I S hC h).elim (fun z=>(hf b hb).2.2.2.2.1 x c z.1) fun z q=>absurd (BP b hb) (Nat.not_lt.mpr (q▸zzU hC (Nat.le_of_succ_le z.2)))⟩
 bs:=fun b o e=>I.bs b o e
 bsz:=zzU I.ok.bsz I.sz
 noex:=fun b o e hb=>by
  rcases(hf b hb).2.2.2.1 with z|z
  ·exact I.ok.noex b o e z
  ·exact absurd (zzW (zzO e) (zzU I.ok.bsz z)) (Nat.lt_irrefl _)
 exfs:=fun b hb hs=>(List.mem_cons.mp (I.stkSub b hs)).elim (hf b hb).2.1 (hf b hb).2.2.1
 funs:=I.stack
 frf:=fun b hb=>I.stkFree b hb
theorem vf{N:List Str}:∀{is:List Nat} {ys:List Str},is.map (fun i=>N[i]?)=ys.map some→∀(j:Nat) (y:Str) (v:V),ys[j]?=some y→(Aq σ is)[j]?=some (some v)→∃i:Nat,N[i]?=some y∧σ[i]?=some (some v)
 |[],[],_,_,_,_,h,_=>by simp at h
 |[],_::_,h,_,_,_,_,_=>by simp at h
 |_::_,[],h,_,_,_,_,_=>by simp at h
 |i::is,y0::ys,h,0,y,v,h1,h2=>by
  rw [zzF,zzF] at h;have h0:=(List.cons.inj h).1
  simp only [List.getElem?_cons_zero,Option.some.injEq] at h1;subst h1;refine⟨i,h0,?_⟩;unfold Aq at h2;simp only [zzF,List.getElem?_cons_zero,Option.some.injEq] at h2;exact Option.join_eq_some_iff.mp h2
 |i::is,y0::ys,h,j+1,y,v,h1,h2=>by
  rw [zzF,zzF] at h;refine vf (is:=is) (ys:=ys) (List.cons.inj h).2 j y v (by simpa using h1) ?_;unfold Aq at h2⊢
  simpa using h2
abbrev lobj(aA:List Value)(n:Nat):Obj:={cls:=.type "list",data:=.seq aA.toArray n}
theorem vq(aA:List Value)(n:Nat)(v:Option Value):(lobj aA n).data≠.cell v:=fun z=>by cases z
abbrev tests(ifs:List Expr)(env:Env):Sem Bool:=forIn ifs true fun c r=>if r=true then do let ok←isTrue c env (eval c env);pure (ForInStep.yield ok) else pure (ForInStep.yield r)
theorem oU{prog:Program}{w:World}{A:Around}{R:Result→Shared→Prop}{s:Shared}{elt target iter:Expr}{ifs:List Expr}{scope:Scope}{pos:Pos}{it acc:Value}{env:Env}(I:Nat→Shared→Prop)
 (turn:∀n s,I n s→wpAny (model prog w) A (pyNext it) (fun r s₁=>match r with
  |none=>R (.ok .next) s₁
  |some v=>wpAny (model prog w) A (letOwnedTupleGo target it v) (fun _ s₁'=>wpAny (model prog w) A (assign target env v) (fun _ s₂=>
   wpAny (model prog w) A (tests ifs env) (fun ok s₃=>if ok=true then wpAny (model prog w) A (eval elt env) (fun x s₄=>
    wpAny (model prog w) A (call (.builtin "list.append") [acc,x]) (fun _ s₅=>∃m,m<n∧I m s₅) (notedBy (model prog w) A env fun e s'=>R (.error e) s') s₄) (notedBy (model prog w) A env fun e s'=>R (.error e) s') s₃
    else∃m,m<n∧I m s₃) (notedBy (model prog w) A env fun e s'=>R (.error e) s') s₂)
   (notedBy (model prog w) A env fun e s'=>R (.error e) s') s₁') (notedBy (model prog w) A env fun e s'=>R (.error e) s') s₁) (notedBy (model prog w) A env fun e s'=>R (.error e) s') s)
 (n:Nat) (h:I n s):
 codeAny (model prog w) A (.compLoop (.ListComp elt [⟨target,iter,ifs,0⟩] scope pos) 0 it acc env) R s:=by
 refine codeAny_loop rfl I (fun n s hI=>?_) n h;show wpAny _ A ((compTurn (.ListComp elt [⟨target,iter,ifs,0⟩] scope pos) 0 it acc env).onRaise (fun x=>do noteFrame x env;theTreesLotGoes x)) _ _ s;refine wpAny_noted ?_;rw [compTurn_list];refine zzA (wpAny_standAt (zzA (wpAny_mono (turn n s hI) (fun r s₁ h₁=>?_) fun _ _ h'=>h')))
 cases r with
 |none=>exact zzG h₁
 |some v=>
  refine zzA (wpAny_mono h₁ (fun _ s₁' h₁'=>?_) fun _ _ h'=>h')
  refine zzA (wpAny_mono h₁' (fun _ s₂ h₂=>zzA (wpAny_mono h₂ (fun ok s₃ h₃=>?_) fun _ _ h'=>h')) fun _ _ h'=>h')
  cases ok with
  |false=>exact zzG ⟨rfl,h₃⟩
  |true=>exact zzA (zzA (wpAny_mono h₃ (fun x s₄ h₄=>zzA (wpAny_mono h₄ (fun _ s₅ h₅=>zzG (zzG ⟨rfl,h₅⟩)) fun _ _ h'=>h')) fun _ _ h'=>h'))
def Lq(X:Cx)(ifs:List Expr)(t:TT):Prop:=
 ∀(pins:List (Addr×Obj)) (s:Shared) (σ:St) (H:Hp) (Q:Bool→Hp→Prop),Inv X pins σ H s→t σ H Q→wpAny (model X.prog X.w) X.A (tests ifs X.env) (TP X pins σ Q) X.xe s
theorem uV{X:Cx}:Lq X [] (fun _ H q=>q true H):=fun _ _ _ H _ I h=>wpAny_tests_nil ⟨H,I,h⟩
theorem uJ{X:Cx}{e:Expr}{t:TT}(h:PT X e t):Lq X [e] t:=fun pins s σ H Q I z=>wpAny_tests_one (h pins s σ H Q I z)
def Kc(J:It)(k:Nat)(g:TG)(te:TE)(fs:St)(Q:VK)(H1:Hp):Prop:=∃(n:Nat) (W:Nat→List V→St→Hp→Prop),W 0 [] (List.replicate k none++fs) H1∧
 ∀i ys σ' H',W i ys σ' H'→ys.length<sizeLine∧((J.stop i H'∧∀p,H' p=none→Q (.ref p) (upd H' p (.lst ys)))∨
  (J.go i H'∧i<n∧∀x lK,J.yld i H' x lK→g x σ' lK fun σ2 H2=>te σ2 H2 fun y H3=>W (i+1) (ys++[y]) σ2 H3))
noncomputable def xJ(wi:TI)(k:Nat)(g:TG)(te:TE)(is:List Nat):TE:=fun σ H Q=>wi σ H fun J H1=>Kc J k g te (Aq σ is) Q H1
def Ce(J:It)(k:Nat)(g:TG)(tt:TT)(te:TE)(fs:St)(Q:VK)(H1:Hp):Prop:=∃(n:Nat) (W:Nat→List V→St→Hp→Prop),W 0 [] (List.replicate k none++fs) H1∧
 ∀i ys σ' H',W i ys σ' H'→ys.length<sizeLine∧((J.stop i H'∧∀p,H' p=none→Q (.ref p) (upd H' p (.lst ys)))∨
  (J.go i H'∧i<n∧∀x lK,J.yld i H' x lK→g x σ' lK fun σ2 H2=>tt σ2 H2 fun b H3=>if b=true then te σ2 H3 (fun y H4=>W (i+1) (ys++[y]) σ2 H4) else W (i+1) ys σ2 H3))
noncomputable def jy(wi:TI)(k:Nat)(g:TG)(tt:TT)(te:TE)(is:List Nat):TE:=fun σ H Q=>wi σ H fun J H1=>Ce J k g tt te (Aq σ is) Q H1
theorem gf{elt tg iter:Expr}{ifs:List Expr}{pos pp:Pos}{wi:TI}{g:TG}{te:TE}{tt:TT}{use:Option (Value→Sem Unit)}{QQ:Value→Shared→Prop}{Q:VK}(hc:X.calm=true)(S:en X scope xs ys is)(hi:PI X tg iter wi)
 (hg:∀fp s1 H1 C,PG (bS X (xs++ys) scope (bF X.env ys) fp s1 H1 C) tg g) (ht:∀fp s1 H1 C,Lq (bS X (xs++ys) scope (bF X.env ys) fp s1 H1 C) ifs tt) (he:∀fp s1 H1 C,PE (bS X (xs++ys) scope (bF X.env ys) fp s1 H1 C) elt te)
 (hs:∀x,foldedSetIterable iter X.env x=pure x) (I:Inv X pins σ H s) (h:jy wi xs.length g tt te is σ H Q)
 (fin:∀(D C:Addr) (s4:Shared) (H4:Hp) (m:Str→Option Value),Inv X pins σ H4 s4→s4.heap.Ns C m→fc X pins H4 C→Q (.ref D) H4→compPost (model X.prog X.w) X.A X.xe use QQ (.ref D) C (.ok .next) s4):
 wpAny (model X.prog X.w) X.A (comprehension (.ListComp elt [⟨tg,iter,ifs,0⟩] scope pos) scope X.env pp (newList []) false (eval iter X.env) use) QQ X.xe s:=by
 have GD:∀x∈scope.names,x.2=.local→scope.names.lookup x.1=some .local:=fun x hx hl=>by
  have q:=zzT.mp S.names x hx
  rw [Bool.or_eq_true] at q;rcases q with q|q
  ·exact absurd hl (zzY q)
  ·exact zzY q
 refine wpAny_comprehension_free (use:=use) (Q:=QQ) (g:=⟨tg,iter,ifs,0⟩) (gs:=[]) rfl hs S.clos S.kind GD (bJ (hi pins s σ H _ I h) fun xv s0 h0=>bJ h0 fun L5 s1 h1=>?_)
 obtain⟨it,fp,tn,J,H1,rfl,I1,T,HS,f1,n,W,w0,turn⟩:=h1
 refine wpAny_newObj_type (r8 ?_);dsimp only;generalize hH2:s1.heap.push {cls:=.type "list",dict:=none,data:=.seq ([]:List Value).toArray}=G2
 generalize hh₁:pushCells (G2.push {cls:=.type "dict",data:=.dict #[]}) scope.names=h₁
 have MK:∀b o,(G2.push {cls:=.type "dict",data:=.dict #[]}).get? b=some o→h₁.get? b=some o:=fun b o e=>by rw [←hh₁];exact pushCells_keeps _ _ b o e
 have hns₁:h₁.Ns G2.objs.size fun _=>none:=(Heap.Ns.new G2 (.type "dict")).keeps MK
 have NX:G2.objs.size=s1.heap.objs.size+1:=by rw [←hH2,Heap.size_push]
 have ma:s1.heap.objs.size≤G2.objs.size:=by rw [NX];exact Nat.le_succ _
 have K7:s1.heap.objs.size≠G2.objs.size:=by rw [NX];exact zzb (Nat.lt_succ_self _)
 have old:∀b o,s1.heap.get? b=some o→h₁.get? b=some o:=fun b o e=>MK b o (zzB _ (hH2▸zzB _ e))
 have En:h₁.get? s1.heap.objs.size=some (lobj [] 0):=MK _ _ (zzB _ (hH2▸zzX _ rfl))
 have BP:∀b∈fp,b<s1.heap.objs.size:=fun b hb=>by
  obtain⟨o,e,_⟩:=T.obj _ _ HS b hb
  exact zzO e
 generalize hY:bS X (xs++ys) scope (bF X.env ys) fp s1 H1 G2.objs.size=Y
 have O7:Y.Ok:=by rw [←hY];exact vS I1 hc S ma f1 BP
 have Ng:∀b∈fp,s1.heap.objs.size≠b:=fun b hb=>Ne.symm (zzb (BP b hb))
 have LR:∀b,b∈Y.fs→b=X.env.locals∨b∈X.fs:=fun b hb=>by
  rw [←hY] at hb;exact List.mem_cons.mp (I1.stkSub b hb)
 have Ma:∀b∈Y.fs,b<s1.heap.objs.size:=fun b hb=>by
  rw [←hY] at hb;obtain⟨_,o,ho,_⟩:=I1.stack.mem hb
  exact zzO ho
 have Mw:s1.heap.objs.size∉Y.fs:=fun z=>Nat.lt_irrefl _ (Ma _ z)
 have EU:Y.env.locals=G2.objs.size:=by rw [←hY];rfl
 have K1:∀x c,Y.env.cells.lookup x=some c→(X.env.cells.lookup x=some c∧c<s1.heap.objs.size∧x∈ys)∨((x,NameKind.cell)∈scope.names∧G2.objs.size+1≤c):=fun x c e=>by
  rw [←hY] at e;exact fN I1 S ma e
 have Qj:∀x c,Y.env.cells.lookup x=some c→G2.objs.size+1≤c→h₁.IsCell c none:=fun x c e hle=>by
  rw [←hY] at e;have hm:(x,c)∈cellsFrom (G2.objs.size+1) scope.names []:=EX scope.names _ _ (PySem.mem_of_lookup e) fun p hp=>by
   unfold bF at hp;obtain⟨y,hy,rfl⟩:=List.mem_map.mp hp
   obtain⟨c',f6⟩:=Option.isSome_iff_exists.mp (zzT.mp S.cells y hy)
   obtain⟨v,q⟩:=I1.cell y c' f6
   dsimp only;rw [f6];exact zzb (zzW q.lt (zzU ma (Nat.le_of_succ_le hle)))
  have ck:=cellsFrom_ok scope.names (G2.push {cls:=.type "dict",data:=.dict #[]}) 0 [] ⟨(fun _ _ z=>nomatch z),.nil⟩ (Nat.zero_le _)
  rw [Heap.size_push,hh₁] at ck;exact(ck.empty x c hm).1
 have Pc:∀x c,Y.env.cells.lookup x=some c→c≠s1.heap.objs.size:=fun x c e=>(K1 x c e).elim (fun z=>zzb z.2.1) fun z=>Ne.symm (zzb (zzV ma z.2))
 have yt:Y.pn=[]:=by rw [←hY];rfl
 have JR:Y.ex=fp:=by rw [←hY];rfl
 have IM:Y.s₀=s1:=by rw [←hY];rfl
 have Nb:Y.H₀=H1:=by rw [←hY];rfl
 have JE:Y.prog=X.prog:=by rw [←hY];rfl
 have J8:Y.w=X.w:=by rw [←hY];rfl
 have NN:Y.K=X.K:=by rw [←hY];rfl
 have Me:Y.A=X.A:=by rw [←hY];rfl
 have OW:compEnvC scope (cellsFrom (G2.objs.size+1) scope.names (bF X.env ys)) G2.objs.size X.env=Y.env:=by rw [←hY];rfl
 have JK:Y.calm=true:=by rw [←hY];rfl
 have Fw:Y.xe=fun _ _=>False:=by rw [←hY];rfl
 have HZ:Y.fs=eo X.stack:=by rw [←hY];rfl
 have Ie:∀{H':Hp} {s':Shared} {aA:List Value} {k:Nat},s'.heap.get? s1.heap.objs.size=some (lobj aA k)→H' s1.heap.objs.size=none→∀p∈[(s1.heap.objs.size,lobj aA k)],s'.heap.get? p.1=some p.2∧H' p.1=none∧p.1≠Y.env.locals∧p.1∉Y.fs∧∀v,p.2.data≠.cell v:=
  fun{H' s' aA k} e hn p hp=>by
   obtain rfl:=zzi.mp hp
   exact⟨e,hn,by rw [EU];exact K7,Mw,fun v=>vq aA k v⟩
 have LH:∀{H':Hp} {aA:List Value} {k:Nat},(∀b∈fp,H' b=none)→∀b∈fp,fc Y [(s1.heap.objs.size,lobj aA k)] H' b:=fun{H' aA k} hn b hb=>
  ⟨hn b hb,by rw [EU];exact zzb (zzW (BP b hb) ma),fun z=>(LR b z).elim (f1 b hb).2.1 (f1 b hb).2.2.1,.inl (by rw [JR];exact hb),
   fun x c e=>(K1 x c e).elim (fun z=>(f1 b hb).2.2.2.2.1 x c z.1) (fun z q=>absurd (BP b hb) (Nat.not_lt.mpr (q▸zzU ma (Nat.le_of_succ_le z.2)))),fun p hp=>by
    rw [yt,List.nil_append] at hp;obtain rfl:=zzi.mp hp
    exact Ng b hb⟩
 have IY:H1 s1.heap.objs.size=none:=I1.hok.fresh (zzE _)
 have I2:∀tk,Inv Y [(s1.heap.objs.size,lobj [] 0)] (List.replicate xs.length none++Aq σ is) H1 {s1 with heap:=h₁,toks:=tk}:=fun tk=>by
  refine⟨O7,by rw [IM],I1.bare,by rw [IM,Nb];exact Un.kept old,⟨_,by rw [EU];exact hns₁,fun i x v e1 e2 e3=>?_⟩,fun x c e=>?_,?_,fun x c e=>(K1 x c e).elim (fun z=>I1.freeC x c z.1) (fun z=>I1.hok.fresh (zzU ma (Nat.le_of_succ_le z.2))),fun p hp=>?_,by rw [JE,J8];exact I1.hok.kept old,?_⟩
  ·
   have MS:Y.N=xs++ys:=by rw [←hY];rfl
   rw [MS] at e1
   by_cases bR:i<xs.length
   ·rw [List.getElem?_append_left (by rw [List.length_replicate];exact bR),List.getElem?_replicate,if_pos bR] at e2;cases e2
   ·have GN:xs.length≤i:=Nat.not_lt.mp bR
    rw [List.getElem?_append_right (by rw [List.length_replicate];exact GN),List.length_replicate] at e2;rw [List.getElem?_append_right GN] at e1;obtain⟨i0,h0,h1⟩:=vf S.slots _ x v e1 e2
    have hm:x∈ys:=zzD e1
    have kx:X.env.kindOf x=some .cell:=zzY (zzT.mp S.kX x hm)
    have ky:(relabel scope X.env).names.lookup x=some .cell:=zzY (zzT.mp S.kY x hm)
    obtain⟨m,_,hl⟩:=I1.loc
    obtain⟨u,ru,lk⟩:=hl i0 x v h0 h1 (.inr (.inl kx))
    refine⟨u,ru,.inr ⟨.inl (by rw [←hY];exact ky),?_⟩⟩;rcases lk with⟨z,_⟩|⟨_,c,hc1,hc2⟩
    ·rw [kx] at z;cases z
    ·obtain⟨c',f6⟩:=iA (env:=X.env) hm
     have IK:=dY S.cells x c' f6
     rw [hc1] at IK;cases IK;refine⟨c,by rw [←hY];exact(o5 _ _ _ fun z=>(S.ownL z).2 hm).trans f6,?_⟩
     obtain⟨o,ho,hd⟩:=hc2
     exact⟨o,old _ _ ho,hd⟩
  ·rcases K1 x c e with z|z
   ·obtain⟨v,o,ho,hd⟩:=I1.cell x c z.1
    exact⟨v,o,old _ _ ho,hd⟩
   ·exact⟨none,Qj x c e z.2⟩
  ·rw [EU];exact I1.hok.fresh ma
  ·rw [yt,List.nil_append] at hp;exact Ie (s':={s1 with heap:=h₁,toks:=tk}) En IY p hp
  ·have MS:Y.N=xs++ys:=by rw [←hY];rfl
   have hl:=congrArg List.length S.slots
   rw [zzl,zzl] at hl;rw [MS,zzM,zzM,List.length_replicate];unfold Aq;rw [zzl,hl]
 have loop:∀s₃:Shared,s₃={s1 with heap:=h₁}→
  codeAny (model X.prog X.w) X.A (.compLoop (.ListComp elt [⟨tg,iter,ifs,0⟩] scope pos) 0 (.ref it) (.ref s1.heap.objs.size) (compEnvC scope (cellsFrom (G2.objs.size+1) scope.names (bF X.env ys)) G2.objs.size X.env))
   (compPost (model X.prog X.w) X.A X.xe use QQ (.ref s1.heap.objs.size) G2.objs.size) s₃:=by
  rintro s₃ rfl
  rw [OW];refine oU (fun k s'=>∃i made σ' H' aA c,Inv Y [(s1.heap.objs.size,lobj aA c)] σ' H' s'∧tn i s'.heap∧(∀b∈fp,H' b=none)∧Vals made aA∧k=n-i∧W i made σ' H') ?_ n
   ⟨0,[],_,H1,[],0,I2 _,T.keep _ _ _ HS fun b _ o e=>old b o e,fun b hb=>(f1 b hb).1,.nil,rfl,w0⟩
  rintro k s' ⟨i,made,σ',H',aA,c,I3,st3,fr3,rv,rfl,w3⟩
  obtain⟨hz,tw⟩:=turn i made σ' H' w3
  have pD:=I3.pin (s1.heap.objs.size,lobj aA c) (by rw [yt];exact zzi.mpr rfl)
  rcases tw with⟨stop,hq⟩|⟨go,CF,step⟩
  ·rw [←Me];refine bJ (T.done Y JE J8 NN JK i _ s' σ' H' _ I3 (LH fr3) st3 stop) fun r s4 ⟨hr,I4⟩=>?_
   subst hr;obtain⟨m,hn4,_⟩:=I4.loc
   rw [EU] at hn4;have LL:=I4.pin (s1.heap.objs.size,lobj aA c) (by rw [yt];exact zzi.mpr rfl)
   have kp:∀b o,b≠G2.objs.size→s4.heap.get? b=some o→s4.heap.get? b=some o:=fun b o hb e=>e
   have Ld:∀{b o},s1.heap.get? b=some o→b≠G2.objs.size:=fun{b o} e=>zzb (zzW (zzO e) ma)
   have d6:=I4.base
   rw [IM,Nb,JR,HZ] at d6;have LB:∀{b o},H1 b=some o→b≠s1.heap.objs.size:=fun{b o} e=>zzb (I1.hok.lt e)
   have u:Un (eo X.stack) fp H1 (upd H' s1.heap.objs.size (.lst made)) s1.heap s4.heap:=by
    refine⟨fun b o e n hb hx=>kp b o (Ld e) (d6.keep b o e n hb hx),fun b o e n hb hx=>?_,fun b o e n hx=>?_,fun b o e hx=>?_,fun b xs e=>?_,fun b o u e=>?_,fun b ps e=>?_⟩
    ·obtain⟨sl,q⟩:=d6.slot b o e n hb hx
     exact⟨sl,kp b _ (Ld e) q⟩
    ·rw [af (zzb (zzO e))];exact d6.free b o e n hx
    ·obtain⟨o',q⟩:=d6.there b o e hx
     exact⟨o',kp b _ (Ld e) q⟩
    ·rw [af (LB e)];exact d6.tups b xs e
    ·rw [af (LB e)];exact d6.frzs b o u e
    ·obtain⟨more,q⟩:=d6.tbls b ps e
     exact⟨more,by rw [af (LB e)];exact q⟩
   have M8:H' G2.objs.size=none:=by rw [←EU];exact I4.free
   have Ck:dU X.prog X.w (upd H' s1.heap.objs.size (.lst made)) s4.heap:=fun b o e=>by
    by_cases hb:b=s1.heap.objs.size
    ·subst hb;rw [au] at e;cases e;exact⟨Nat.le_of_lt hz,aA,c,rv,kp _ _ K7 LL.1⟩
    ·rw [af hb] at e;have x4:=I4.hok b o e
     rw [JE,J8] at x4;have EI:∀b' u,H' b'=some u→b'≠G2.objs.size:=fun b' u q z=>by rw [z,M8] at q;cases q
     have Nu:∀b' u,H' b'=some u→b'≠s1.heap.objs.size:=fun b' u q z=>by rw [z,LL.2.1] at q;cases q
     refine x4.stay (fun b' u jg q=>kp b' u ?_ q) (fun b' q=>?_) fun b' xs q=>?_
     ·rcases jg with z|z
      ·rw [z];exact EI b o e
      ·exact EI b' _ z
     ·rw [af (Nu b' _ q)];exact q
     ·rw [af (Nu b' _ q)];exact q
   have I5:Inv X pins σ (upd H' s1.heap.objs.size (.lst made)) s4:=I1.call' (by show s4.os=s1.os;rw [I4.os,IM]) u Ck I4.bare fun b hb=>⟨(f1 b hb).2.2.2.1,(f1 b hb).2.1,(f1 b hb).2.2.2.2.1,(f1 b hb).2.2.2.2.2⟩
   dsimp only;rw [Me];exact fin s1.heap.objs.size G2.objs.size s4 _ m I5 hn4 (I1.fpOk ma (by rw [af (Ne.symm K7)];exact M8)) (hq _ LL.2.1)
  ·rw [←Me];refine bJ (T.item Y JE J8 NN JK i _ s' σ' H' _ I3 (LH fr3) st3 go) fun r s4 ⟨u,hr,h4⟩=>?_
   subst hr;dsimp only;refine bJ h4 fun _ s5 ⟨x,H5,I5,r5,y5,st5,fr5⟩=>?_
   have Mc:=I5.pinned (LH fr5) (T.obj _ _ st5)
   have NV:=hg fp s1 H1 G2.objs.size
   have NI:=he fp s1 H1 G2.objs.size
   have M5:=ht fp s1 H1 G2.objs.size
   rw [hY] at NV NI M5;rw [←JE,←J8];refine wpAny_mono (NV _ s5 σ' H5 x u _ Mc r5 (step x H5 y5)) (fun _ s6 ⟨σ6,H6,I6,q6⟩=>?_) (fun _ _ f=>by rw [Fw] at f;exact f.elim);refine wpAny_mono (M5 _ s6 σ6 H6 _ I6 q6) (fun okb sT ⟨HT,IT,qT⟩=>?_) (fun _ _ f=>by rw [Fw] at f;exact f.elim);have Qq:=IT.pin (s1.heap.objs.size,lobj aA c) (zzR _ (zzc _ (zzi.mpr rfl)))
   have Oy:tn (i+1) sT.heap:=T.keep _ _ _ st5 fun b hb o e=>(IT.pin (b,o) (zzR _ (zzR _ (dc hb e)))).1
   cases okb with
   |false=>
    refine⟨n-(i+1),by omega,i+1,made,σ6,HT,aA,c,IT.unpinned,Oy,fun b hb=>?_,rv,rfl,qT⟩
    obtain⟨o,e,d⟩:=T.obj _ _ st5 b hb
    exact(IT.pin (b,o) (zzR _ (zzR _ (dc hb e)))).2.1
   |true=>
   refine wpAny_mono (NI _ sT σ6 HT _ IT qT) (fun v s7 ⟨y,H7,I7,r7,q7⟩=>?_) (fun _ _ f=>by rw [Fw] at f;exact f.elim);have MF:=I7.pin (s1.heap.objs.size,lobj aA c) (zzR _ (zzc _ (zzi.mpr rfl)))
   have e7:s7.heap.get? s1.heap.objs.size=some {cls:=.type "list",data:=.seq aA.toArray c}:=MF.1
   refine append_at (hsz:=by rw [zzC,←rv.length];exact Nat.le_of_lt hz) e7 fun h' vG Ow=>?_
   have I8:Inv Y [] σ6 H7 s7:=I7.pins_of fun _ z=>nomatch z
   have I9:Inv Y [] σ6 H7 {s7 with heap:=h'}:=I8.turned (t':=s7.toks) (it:=s1.heap.objs.size) (fun b o hb e=>vG.extBut b o hb e) MF.2.1 (by rw [EU];exact K7) (.inr (by rw [IM];exact zzE _))
    (fun x c' e=>Pc x c' e) (fun p hp=>by rw [yt] at hp;cases hp)
   have eD:h'.get? s1.heap.objs.size=some (lobj (aA++[v]) (c+1)):=by rw [Ow,List.push_toArray]
   have Qk:tn (i+1) s7.heap:=T.keep _ _ _ st5 fun b hb o e=>(I7.pin (b,o) (zzR _ (zzR _ (dc hb e)))).1
   refine⟨n-(i+1),by omega,i+1,made++[y],σ6,H7,aA++[v],c+1,I9.pins_of (Ie (s':={s7 with heap:=h'}) eD MF.2.1),T.keep _ _ _ Qk fun b hb o e=>vG.extBut b o (Ne.symm (Ng b hb)) e,fun b hb=>?_,rv.append (.cons r7 .nil),rfl,q7⟩
   obtain⟨o,e,d⟩:=T.obj _ _ st5 b hb
   exact(I7.pin (b,o) (zzR _ (zzR _ (dc hb e)))).2.1
 exact codeAny_compStart_list (loop _ rfl) (T.self _ 0 _ _ _ (T.keep _ _ _ HS fun b _ o e=>old b o e) (loop _ rfl))
theorem Cr{elt tg iter:Expr}{pos:Pos}{wi:TI}{g:TG}{te:TE}(hc:X.calm=true)(S:en X scope xs ys is)(hi:PI X tg iter wi)
 (hg:∀fp s1 H1 C,PG (bS X (xs++ys) scope (bF X.env ys) fp s1 H1 C) tg g) (he:∀fp s1 H1 C,PE (bS X (xs++ys) scope (bF X.env ys) fp s1 H1 C) elt te)
 (hs:∀x,foldedSetIterable iter X.env x=pure x:=by intro _;rfl):
 PE X (.ListComp elt [⟨tg,iter,[],0⟩] scope pos) (xJ wi xs.length g te is):=by
 intro pins s σ H Q I h;rw [eval_ListComp];exact gf (use:=none) (Q:=Q) hc S hi hg (fun _ _ _ _=>uV) he hs I h (fun D C s4 H4 m I5 hn ⟨g0,g1,_,g3,g4,g5⟩ q=>⟨m,hn,fun h' vG=>⟨.ref D,H4,I5.turned (t':=s4.toks) (it:=C) (fun b o hb e=>vG.extBut b o hb e) g0 g1 g3 g4 g5,rfl,q⟩⟩)
theorem wX{elt tg iter ED:Expr}{pos:Pos}{wi:TI}{g:TG}{te:TE}{tt:TT}(hc:X.calm=true)(S:en X scope xs ys is)(hi:PI X tg iter wi)
 (hg:∀fp s1 H1 C,PG (bS X (xs++ys) scope (bF X.env ys) fp s1 H1 C) tg g) (ht:∀fp s1 H1 C,PT (bS X (xs++ys) scope (bF X.env ys) fp s1 H1 C) ED tt) (he:∀fp s1 H1 C,PE (bS X (xs++ys) scope (bF X.env ys) fp s1 H1 C) elt te)
 (hs:∀x,foldedSetIterable iter X.env x=pure x:=by intro _;rfl):
 PE X (.ListComp elt [⟨tg,iter,[ED],0⟩] scope pos) (jy wi xs.length g tt te is):=by
 intro pins s σ H Q I h;rw [eval_ListComp];exact gf (use:=none) (Q:=Q) hc S hi hg (fun fp s1 H1 C=>uJ (ht fp s1 H1 C)) he hs I h (fun D C s4 H4 m I5 hn ⟨g0,g1,_,g3,g4,g5⟩ q=>⟨m,hn,fun h' vG=>⟨.ref D,H4,I5.turned (t':=s4.toks) (it:=C) (fun b o hb e=>vG.extBut b o hb e) g0 g1 g3 g4 g5,rfl,q⟩⟩)
end
theorem bD{H:Hp}{p:Addr}{o:HO}(h:H p=none):aG H (upd H p o):=fun b u e=>by rw [af (dh e h)];exact e
section
variable{X:Cx}
def KL(z:Str):It:=⟨fun i _=>i<z.cps.size,fun i H x H'=>H'=H∧∃c,z.cps[i]?=some c∧x=.str ⟨#[c]⟩,fun i _=>z.cps.size≤i⟩
theorem yj{P:Program}{w:World}{K:PySem.W.Frag}{tg:Expr}(z:Str)(t:Tok)(it:Addr)(ty:String)(Ax:ty="str_ascii_iterator"∨ty="str_iterator"):Turn P w K tg (KL z) [it] it (fun i h=>h.IsStrIter it ty z t i∧i≤z.cps.size) where
 mem:=by simp
 obj:=fun i h st b hb=>by
  have e:b=it:=by simpa using hb
  subst e;obtain⟨⟨o,e,c,d⟩,_⟩:=st
  exact⟨o,e,fun v z=>by rw [d] at z;cases z⟩
 keep:=fun i h h' st k=>⟨by obtain⟨⟨o,e,r⟩,_⟩:=st;exact⟨o,k it (by simp) o e,r⟩,st.2⟩
 item:=by
  intro X hP hw hK hc i pins s σ H E I hf st hg;subst hP hw hK;obtain⟨f0,f1,f2,f3,f4,f5⟩:=hf it (by simp)
  have hi:i<z.cps.size:=hg
  have fin:∀(v:Value) (h':Heap) (tk:Nat),SignAt z i v→h'.IsStrIter it ty z t (i+1)→(∀b o,b∉[it]→s.heap.get? b=some o→h'.get? b=some o)→
   ∃u,(some v:Option Value)=some u∧wpAny (model X.prog X.w) X.A (letOwnedTupleGo tg (.ref it) u) (fun _ s2=>∃x H',Inv X pins σ H' s2∧RelV x u∧(KL z).yld i H x H'∧(s2.heap.IsStrIter it ty z t (i+1)∧i+1≤z.cps.size)∧∀b∈[it],H' b=none) E {s with heap:=h',toks:=tk}:=by
   intro v h' tk hv gb kk;obtain⟨c,u,hc,rfl⟩:=hv
   have I1:Inv X pins σ H {s with heap:=h',toks:=tk}:=I.turned (fun b o hb e=>kk b o (by simpa using hb) e) f0 f1 f3 f4 f5
   obtain⟨o,e,c',d⟩:=id gb
   exact⟨_,rfl,pR (s:={s with heap:=h',toks:=tk}) e c' d (by rcases Ax with rfl|rfl<;>decide) ⟨.str ⟨#[c]⟩,H,I1,⟨u,rfl⟩,⟨rfl,c,hc,rfl⟩,⟨gb,hi⟩,fun b hb=>(hf b hb).1⟩⟩
  rcases Ax with rfl|rfl
  ·exact(Walks.strAscii (prog:=X.prog) (w:=X.w) (I.ok.hd hc) it z t).item i s _ _ hi st.1 fun v h' tk hv gb kk=>fin v h' tk hv gb kk
  ·exact(Walks.strWide (prog:=X.prog) (w:=X.w) (I.ok.hd hc) it z t).item i s _ _ hi st.1 fun v h' tk hv gb kk=>fin v h' tk hv gb kk
 done:=by
  intro X hP hw hK hc i pins s σ H E I hf st hg;subst hP hw hK;obtain⟨f0,f1,f2,f3,f4,f5⟩:=hf it (by simp)
  have hi:i=z.cps.size:=Nat.le_antisymm st.2 hg
  subst hi;rcases Ax with rfl|rfl
  ·exact(Walks.strAscii (prog:=X.prog) (w:=X.w) (I.ok.hd hc) it z t).done s _ _ st.1 fun h' tk kk=>⟨rfl,I.turned (fun b o hb e=>kk b o (by simpa using hb) e) f0 f1 f3 f4 f5⟩
  ·exact(Walks.strWide (prog:=X.prog) (w:=X.w) (I.ok.hd hc) it z t).done s _ _ st.1 fun h' tk kk=>⟨rfl,I.turned (fun b o hb e=>kk b o (by simpa using hb) e) f0 f1 f3 f4 f5⟩
 self:=fun A i s Q E st h=>by
  rcases Ax with rfl|rfl
  ·exact wpAny_pyIter_striter_ascii st.1 h
  ·exact wpAny_pyIter_striter_wide st.1 h
def Mz(tl:TE):TI:=fun σ H R=>tl σ H fun x H1=>∃z,x=.str z∧R (KL z) H1
theorem Gg{tg l:Expr}{tl:TE}(hl:PE X l tl):PI X tg l (Mz tl):=by
 intro pins s σ H R I h;refine bJ (hl pins s σ H _ I h) fun v s1 ⟨x,H1,I1,r1,q1⟩=>?_
 obtain⟨z,e,q⟩:=q1
 subst e;obtain⟨t,rfl⟩:=r1
 have fin:∀ty:String,(ty="str_ascii_iterator"∨ty="str_iterator")→Mj X pins σ tg R (.ref s1.heap.objs.size) {s1 with heap:=s1.heap.push {cls:=.type ty,data:=.fields #[.str z t,.int 0 0]}}:=fun ty Ax=>by
  refine⟨s1.heap.objs.size,[s1.heap.objs.size],_,_,H1,rfl,I1.kept (t':=s1.toks) fun b o e=>zzB _ e,yj z t _ ty Ax,⟨⟨_,zzX _ rfl,rfl,rfl⟩,Nat.zero_le _⟩,fun b hb=>?_,q⟩
  have e:b=s1.heap.objs.size:=by simpa using hb
  subst e;exact I1.fpOk (zzE _) (I1.hok.fresh (zzE _))
 cases ha:z.cps.all (·<128)
 ·exact wpAny_pyIter_wide ha (fin _ (.inr rfl))
 ·exact wpAny_pyIter_ascii ha (fin _ (.inl rfl))
end
end L2
namespace Cw
open PySem L2
def sgn(c:Nat):Bool:=c==35||(48≤c&&c≤57)
def Pe:V→Bool
 |.str z=>decide (1≤z.cps.toList.length)&&decide (z.cps.toList.length≤12)&&z.cps.toList.all sgn
 |_=>false
def Ki:V→Nat
 |.str z=>z.cps.toList.length
 |_=>0
section
variable{K:PySem.W.Frag}
abbrev kit(K:PySem.W.Frag)(t n:String)(b:Bool):Prop:=PySem.W.kitOne K (.type t) (.type n)=some b
theorem kit_same{K:PySem.W.Frag}(t:String):kit K t t true:=by unfold kit PySem.W.kitOne;rw [if_pos (by simp)]
theorem kit_of{t n:String}{b:Bool}(h0:(Value.type t==Value.type n)=false)(h1:PySem.W.kitMeta n=true)(h2:(fastBuiltinMro t).map (·.contains (Value.type n))=some b):kit K t n b:=by
 unfold kit PySem.W.kitOne;rw [if_neg (by rw [h0];exact zzf)];show(if PySem.W.kitMeta n=true then PySem.W.subIn K (.type t) (.type n) else none)=some b
 rw [if_pos h1];exact h2
end
abbrev Nh:Str:="#0123456789"
end Cw
namespace L2
open PySem PySem.Spec PyProof.Rows
section
variable{X:Cx}{pos:Pos}
end
structure GC(K:PySem.W.Frag)(C:Addr):Prop where
 ga:PySem.W.findIn K (.ref C) "__getattribute__"=some (some (.builtin "BaseException.__getattribute__"))
 hk:PySem.W.findIn K (.ref C) "__getattr__"=some none
 cl:PySem.W.findIn K (.ref C) "__class__"=some (some (.builtin "object.__class__"))
 mo:PySem.W.mroIn K C (.type "object")=some true
 mb:PySem.W.mroIn K C (.type "BaseException")=some true
 is:(PySem.W.clsIn K C).isSome=true
section
variable{prog:Program}{w:World}{A:Around}{E:Value→Shared→Prop}{h:Heap}{g:Array GenState}{d:Drawn}{t:Nat}{os:OsState}{x C:Addr}{o:Obj}{K:PySem.W.Frag}
end
section
variable{X:Cx}
end
section
variable{X:Cx}{pins:List (Addr×Obj)}{σ:St}{H:Hp}{s:Shared}
end
section
variable{X:Cx}
end
open PySem.AutoSeq1 (wpAny_loadPart')
end L2
namespace Cw
open PySem L2
end Cw
namespace L2
open PySem PySem.Spec PyProof.Rows
section
variable{X:Cx}
theorem xt(ns ms:List Int):((List.range (min ns.length ms.length)).all (fun j=>ns.getD j 0==ms.getD j 0)&&ns.length==ms.length)=decide (ns=ms):=by
 rw [Bool.eq_iff_iff,zza,decide_eq_true_iff,zzT,beq_iff_eq]
 constructor
 ·rintro ⟨h1,h2⟩
  apply List.ext_getElem h2
  intro i hi hj;have:=beq_iff_eq.mp (h1 i (List.mem_range.mpr (by omega)))
  rw [zzK,zzK,zzg hi,zzg hj] at this;exact this
 ·rintro rfl
  exact⟨fun j _=>by simp,rfl⟩
theorem int_at{ns:List Int}{aA:List Value}(r:Vals (ns.map V.int) aA)(j:Nat)(h:j<aA.toArray.size):∃t,aA.toArray[j]=Value.int (ns.getD j 0) t:=by
 have hl:=r.length
 rw [zzl] at hl;rw [zzC] at h;have hj:j<ns.length:=by omega
 obtain⟨u,hu,t,rfl⟩:=r.get (i:=j) (x:=V.int ns[j]) (by rw [zzQ,zzg hj];rfl)
 refine⟨t,?_⟩;rw [zzg h] at hu;have e:=Option.some.inj hu
 rw [zzK,zzg hj]
 simpa using e
theorem oC:cu X (.type "int") (fun xs H Q=>∃z n,xs=[.str z]∧PySem.intText? z=some n∧z.length≤640∧Q (.int n) H):=by
 intro pins s σ H xs us Q I r h;obtain⟨z,n,rfl,h1,h2,q⟩:=h
 obtain⟨u,rfl,t,rfl⟩:=vals1 r
 exact PySem.W.KIN.call_text h1 h2 ⟨.int n,H,I.tok _,⟨_,rfl⟩,q⟩
end
end L2
namespace Cw
open PySem L2
end Cw
namespace L2
open PySem PySem.Spec PyProof.Rows
theorem mH{α β:Type}{R:α→β→Prop}:∀{xs:List α} {ys:List β},Paired R xs ys→∀{i:Nat} {x:α},xs[i]?=some x→∃y,ys[i]?=some y∧R x y
 |_,_,.nil,_,_,h=>by simp at h
 |_,_,.cons r t,0,x,h=>by simp at h;subst h;exact⟨_,rfl,r⟩
 |_,_,.cons r t,i+1,x,h=>by
  obtain⟨y,h1,h2⟩:=mH t (i:=i) (x:=x) (by simpa using h)
  exact⟨y,by simpa using h1,h2⟩
theorem lu{α β:Type}{R:α→β→Prop}:∀{xs:List α} {ys:List β},Paired R xs ys→xs.length=ys.length
 |_,_,.nil=>rfl
 |_,_,.cons _ t=>by simp [lu t]
section
variable{X:Cx}
theorem iF{vs:List V}{aA:List Value}(r:Vals vs aA){j:Nat}(h:j<aA.toArray.size):∃v,vs[j]?=some v∧RelV v aA.toArray[j]:=by
 have hl:=r.length
 rw [zzC] at h;have hj:j<vs.length:=by omega
 obtain⟨u,hu,ru⟩:=r.get (i:=j) (x:=vs[j]) (zzg hj)
 rw [zzg h] at hu;cases hu;exact⟨_,zzg hj,by simpa using ru⟩
end
abbrev bG:HO:=.ext fun _=>True
theorem kJ{P:Program}{w:World}{H:Hp}{h:Heap}{a:Addr}{o:Obj}(e:h.get? a=some o):bQ P w H h a (.frz o bG):=⟨e,trivial,⟨o,e⟩,fun _ _ _ _=>trivial⟩
def withZ(Z:List (Addr×Obj))(H:Hp):Hp:=fun b=>match Z.lookup b with
 |some o=>some (.frz o bG)
 |none=>H b
def bg(Z:List (Addr×Obj))(H:Hp):Hp:=fun b=>match Z.lookup b with
 |some _=>none
 |none=>H b
section
variable{Z:List (Addr×Obj)}{H H':Hp}{b:Addr}{o:Obj}
theorem bh(e:Z.lookup b=some o):withZ Z H b=some (.frz o bG):=by unfold withZ;rw [e]
theorem aj(e:Z.lookup b=none):withZ Z H b=H b:=by unfold withZ;rw [e]
theorem eF(e:Z.lookup b=some o):bg Z H b=none:=by unfold bg;rw [e]
theorem aC(e:Z.lookup b=none):bg Z H b=H b:=by unfold bg;rw [e]
theorem dP{u:HO}(e:bg Z H b=some u):Z.lookup b=none∧H b=some u:=by
 cases q:Z.lookup b with
 |none=>rw [aC q] at e;exact⟨rfl,e⟩
 |some o=>rw [eF q] at e;cases e
theorem gM(h:H b=none):bg Z H b=none:=by
 cases q:Z.lookup b with
 |none=>rw [aC q];exact h
 |some o=>exact eF q
structure sO(Z:List (Addr×Obj))(H:Hp)(fs:List Addr)(h:Heap):Prop where
 at_:∀b o,Z.lookup b=some o→h.get? b=some o
 no:∀b o,Z.lookup b=some o→H b=none
 fr:∀b o,Z.lookup b=some o→b∉fs
variable{P:Program}{w:World}{fs:List Addr}{h h':Heap}
theorem sO.hok(z:sO Z H fs h)(k:dU P w H h):dU P w (withZ Z H) h:=fun b u e=>by
 cases q:Z.lookup b with
 |some o=>rw [bh q] at e;cases e;exact kJ (z.at_ b o q)
 |none=>
  rw [aj q] at e;have nz:∀c v,H c=some v→Z.lookup c=none:=fun c v hv=>by
   cases y:Z.lookup c with
   |none=>rfl
   |some o=>rw [z.no c o y] at hv;cases hv
  exact(k b u e).stay (fun c v _ r=>r) (fun c r=>by rw [aj (nz c _ r)];exact r) fun c xs r=>by rw [aj (nz c _ r)];exact r
theorem sO.un_less(z:sO Z H fs h)(u:Un fs [] (withZ Z H) H' h h')(k:dU P w H' h'):Un fs [] H (bg Z H') h h'∧dU P w (bg Z H') h':=by
 have zk:∀b o,Z.lookup b=some o→H' b=some (.frz o bG):=fun b o q=>u.frzs b o _ (bh q)
 have zh:∀b o,Z.lookup b=some o→h'.get? b=some o:=fun b o q=>(k b _ (zk b o q)).1
 have nz:∀c v,H c=some v→Z.lookup c=none:=fun c v hv=>by
  cases y:Z.lookup c with
  |none=>rfl
  |some o=>rw [z.no c o y] at hv;cases hv
 refine⟨⟨fun b o e n hb hx=>?_,fun b o e n hb hx=>?_,fun b o e n hx=>?_,fun b o e hx=>u.there b o e hx,fun b xs e=>?_,fun b o v e=>?_,fun b ps e=>?_⟩,fun b v e=>?_⟩
 ·cases q:Z.lookup b with
  |some o'=>
   have e2:=z.at_ b o' q
   rw [e] at e2;cases e2;exact zh b o q
  |none=>exact u.keep b o e (by rw [aj q];exact n) hb hx
 ·cases q:Z.lookup b with
  |some o'=>exact absurd hb (z.fr b o' q)
  |none=>exact u.slot b o e (by rw [aj q];exact n) hb hx
 ·cases q:Z.lookup b with
  |some o'=>exact eF q
  |none=>rw [aC q];exact u.free b o e (by rw [aj q];exact n) hx
 ·rw [aC (nz b _ e)];exact u.tups b xs (by rw [aj (nz b _ e)];exact e)
 ·rw [aC (nz b _ e)];exact u.frzs b o v (by rw [aj (nz b _ e)];exact e)
 ·rw [aC (nz b _ e)];exact u.tbls b ps (by rw [aj (nz b _ e)];exact e)
 ·obtain⟨q,e1⟩:=dP e
  refine(k b v e1).stay (fun c y _ r=>r) (fun c r=>?_) fun c xs r=>?_
  ·cases y:Z.lookup c with
   |none=>rw [aC y];exact r
   |some o=>rw [zk c o y] at r;cases r
  ·cases y:Z.lookup c with
   |none=>rw [aC y];exact r
   |some o=>rw [zk c o y] at r;cases r
theorem sO.un_with(z:sO Z H fs h)(u:Un fs [] H H' h h')(k:dU P w H' h'):Un fs [] (withZ Z H) (withZ Z H') h h'∧dU P w (withZ Z H') h':=by
 have zh:∀b o,Z.lookup b=some o→h'.get? b=some o:=fun b o q=>u.keep b o (z.at_ b o q) (z.no b o q) (z.fr b o q) (fun y=>nomatch y)
 have zn:∀b o,Z.lookup b=some o→H' b=none:=fun b o q=>u.free b o (z.at_ b o q) (z.no b o q) (fun y=>nomatch y)
 have nz:∀c v,H' c=some v→Z.lookup c=none:=fun c v hv=>by
  cases y:Z.lookup c with
  |none=>rfl
  |some o=>rw [zn c o y] at hv;cases hv
 have nw:∀b,withZ Z H b=none→Z.lookup b=none∧H b=none:=fun b e=>by
  cases q:Z.lookup b with
  |some o=>rw [bh q] at e;cases e
  |none=>rw [aj q] at e;exact⟨rfl,e⟩
 refine⟨⟨fun b o e n hb hx=>u.keep b o e (nw b n).2 hb hx,fun b o e n hb hx=>u.slot b o e (nw b n).2 hb hx,fun b o e n hx=>?_,fun b o e hx=>u.there b o e hx,fun b xs e=>?_,fun b o v e=>?_,fun b ps e=>?_⟩,fun b v e=>?_⟩
 ·rw [aj (nw b n).1];exact u.free b o e (nw b n).2 hx
 ·cases q:Z.lookup b with
  |some o=>rw [bh q] at e;cases e
  |none=>rw [aj q] at e⊢;exact u.tups b xs e
 ·cases q:Z.lookup b with
  |some o'=>rw [bh q] at e⊢;exact e
  |none=>rw [aj q] at e⊢;exact u.frzs b o v e
 ·cases q:Z.lookup b with
  |some o=>rw [bh q] at e;cases e
  |none=>rw [aj q] at e⊢;exact u.tbls b ps e
 ·cases q:Z.lookup b with
  |some o=>rw [bh q] at e;cases e;exact kJ (zh b o q)
  |none=>
   rw [aj q] at e;exact(k b v e).stay (fun c y _ r=>r) (fun c r=>by rw [aj (nz c _ r)];exact r) fun c xs r=>by rw [aj (nz c _ r)];exact r
end
section
variable{P:Program}{w:World}{K:PySem.W.Frag}{mg:Str→Option Value}{base:Heap}{A:Around}{outer:List Env}{s s':Shared}{H:Hp}{Z:List (Addr×Obj)}
theorem g8.withZ(e:g8 P w K mg base A outer s H)(z:sO Z H (eo outer) s.heap)(zb:∀b o,Z.lookup b=some o→base.get? b=none):g8 P w K mg base A outer s (withZ Z H) where
 frames:=e.frames
 mod:=e.mod
 bs:=fun b o q=>⟨(e.bs b o q).1,by
  cases y:Z.lookup b with
  |some o'=>rw [zb b o' y] at q;cases q
  |none=>rw [aj y];exact(e.bs b o q).2⟩
 bsz:=e.bsz
 funs:=e.funs
 frf:=fun b hb=>by
  cases y:Z.lookup b with
  |some o'=>exact absurd hb (z.fr b o' y)
  |none=>rw [aj y];exact e.frf b hb
 hok:=z.hok e.hok
 bare:=e.bare
theorem CE.less{Q:VK}{u:Value}(z:sO Z H (eo outer) s.heap)(h:CE outer P w (withZ Z H) s (fun v H'=>Q v (bg Z H')) u s'):CE outer P w H s Q u s':=by
 obtain⟨v,H',os,bare,un,hok,r,q⟩:=h
 obtain⟨u1,k1⟩:=z.un_less un hok
 exact⟨v,_,os,bare,u1,k1,r,q⟩
theorem CE.more{Q:VK}{u:Value}(z:sO Z H (eo outer) s.heap)(h:CE outer P w H s (fun v H'=>(∀b o,Z.lookup b=some o→H' b=none)→Q v (withZ Z H')) u s'):CE outer P w (withZ Z H) s Q u s':=by
 obtain⟨v,H',os,bare,un,hok,r,q⟩:=h
 obtain⟨u1,k1⟩:=z.un_with un hok
 exact⟨v,_,os,bare,u1,k1,r,q fun b o y=>un.free b o (z.at_ b o y) (z.no b o y) (fun y=>nomatch y)⟩
theorem dF.less{E:XK}{e:Value}(z:sO Z H (eo outer) s.heap)(h:dF P w outer (withZ Z H) s (fun C a H'=>E C a (bg Z H')) e s'):dF P w outer H s E e s':=by
 obtain⟨a,C,t,vs,H',B,rfl,F⟩:=h
 have zk:∀b o,Z.lookup b=some o→H' b=some (.frz o bG):=fun b o q=>F.un.frzs b o _ (bh q)
 have kB:∀b o,s.heap.get? b=some o→H b=none→b∉eo outer→B.get? b=some o:=fun b o e n hb=>by
  cases q:Z.lookup b with
  |some o'=>
   have e2:=z.at_ b o' q
   rw [e] at e2;cases e2;exact(F.hok b _ (zk b o q)).1
  |none=>exact F.keepB b o e (by rw [aj q];exact n) hb
 have hB:dU P w (bg Z H') B:=fun b v e=>by
  obtain⟨q,e1⟩:=dP e
  refine(F.hok b v e1).stay (fun c y _ r=>r) (fun c r=>?_) fun c xs r=>?_
  ·cases y:Z.lookup c with
   |none=>rw [aC y];exact r
   |some o=>rw [zk c o y] at r;cases r
  ·cases y:Z.lookup c with
   |none=>rw [aC y];exact r
   |some o=>rw [zk c o y] at r;cases r
 have hs:dU P w H' s'.heap:=fun b v e=>(F.hok b v e).stay (fun c y _ r=>F.fly.1 _ _ r) (fun _ r=>r) fun _ _ r=>r
 obtain⟨u1,_⟩:=z.un_less (P:=P) (w:=w) F.un hs
 exact⟨a,C,t,vs,_,B,rfl,⟨F.os,F.bare,hB,F.fly,F.tn,F.tup,kB,F.thereB,u1,F.ends⟩⟩
theorem dF.more{E:XK}{e:Value}(z:sO Z H (eo outer) s.heap)(h:dF P w outer H s (fun C a H'=>(∀b o,Z.lookup b=some o→H' b=none)→E C a (withZ Z H')) e s'):dF P w outer (withZ Z H) s E e s':=by
 obtain⟨a,C,t,vs,H',B,rfl,F⟩:=h
 have zB:∀b o,Z.lookup b=some o→B.get? b=some o:=fun b o q=>F.keepB b o (z.at_ b o q) (z.no b o q) (z.fr b o q)
 have zn:∀b o,Z.lookup b=some o→H' b=none:=fun b o q=>F.un.free b o (z.at_ b o q) (z.no b o q) (fun y=>nomatch y)
 have nz:∀c v,H' c=some v→Z.lookup c=none:=fun c v hv=>by
  cases y:Z.lookup c with
  |none=>rfl
  |some o=>rw [zn c o y] at hv;cases hv
 have hB:dU P w (withZ Z H') B:=fun b v e=>by
  cases q:Z.lookup b with
  |some o=>rw [bh q] at e;cases e;exact kJ (zB b o q)
  |none=>
   rw [aj q] at e;exact(F.hok b v e).stay (fun c y _ r=>r) (fun c r=>by rw [aj (nz c _ r)];exact r) fun c xs r=>by rw [aj (nz c _ r)];exact r
 have hs:dU P w H' s'.heap:=fun b v e=>(F.hok b v e).stay (fun c y _ r=>F.fly.1 _ _ r) (fun _ r=>r) fun _ _ r=>r
 obtain⟨u1,_⟩:=z.un_with (P:=P) (w:=w) F.un hs
 refine⟨a,C,t,vs,_,B,rfl,⟨F.os,F.bare,hB,F.fly,F.tn,F.tup,fun b o e n hb=>F.keepB b o e ?_ hb,F.thereB,u1,F.ends zn⟩⟩
 cases q:Z.lookup b with
 |some o=>rw [bh q] at n;cases n
 |none=>rw [aj q] at n;exact n
end
structure qb(ps ys:List Str)(scope:Scope):Prop where
 kind:scope.kind=.function
 co:scope.isCoroutine=false
 gen:scope.isGenerator=false
 nd:(ps++ys).Nodup
 nocell:∀x∈scope.names,x.2≠.cell
 par:∀x∈ps,scope.names.lookup x=some .local
 fre:∀y∈ys,scope.names.lookup y=some .free
 cov:∀x,scope.names.lookup x=some .free→x∈ys
noncomputable def DD(P:Program)(w:World)(K:PySem.W.Frag)(mg:Str→Option Value)(base:Heap)(N:List Str)(qual:Str)(scope:Scope)(f:Addr)(cd:Value)(cl:List (Str×Addr))(A:Around)(outer:List Env)(s:Shared)(H:Hp)(E:XK):Cx where
 prog:=P
 w:=w
 K:=K
 mg:=mg
 base:=base
 A:=A.deeper (PySem.W.envX qual scope s.heap.objs.size f cd cl)
 N:=N
 s₀:=s
 H₀:=H
 env:=PySem.W.envX qual scope s.heap.objs.size f cd cl
 outer:=outer
 stack:=PySem.W.envX qual scope s.heap.objs.size f cd cl::outer
 ex:=[]
 calm:=true
 fn:=fun _=>false
 pn:=[]
 xe:=fun e s'=>wpAny (model P w) (A.deeper (PySem.W.envX qual scope s.heap.objs.size f cd cl)) (leaving (PySem.W.envX qual scope s.heap.objs.size f cd cl) e) (fun _ C2=>dF P w outer H s E e C2) (fun e' C2=>dF P w outer H s E e' C2) s'
theorem mL{α:Type}:∀{l:List (Str×α)} {x:Str} {v:α},(l.map (·.1)).Nodup→(x,v)∈l→l.lookup x=some v
 |(y,u)::r,x,v,nd,h=>by
  rw [zzF,List.nodup_cons] at nd;rw [List.lookup_cons];rcases List.mem_cons.mp h with e|e
  ·cases e;simp
  ·have gH:(x==y)=false:=beq_eq_false_iff_ne.mpr fun z=>nd.1 (by subst z;exact List.mem_map_of_mem (f:=(·.1)) e)
   rw [gH];exact mL nd.2 e
theorem lE{ps:List Str}{us:List Value}{i:Nat}{x:Str}{u:Value}(nd:ps.Nodup)(h1:ps[i]?=some x)(h2:us[i]?=some u):(ps.zip us).reverse.lookup x=some u:=by
 have hs:∀{ps:List Str} {us:List Value},List.Sublist ((ps.zip us).map (·.1)) ps:=fun{ps us}=>by
  induction ps generalizing us with
  |nil=>simp
  |cons p ps ih=>
   cases us with
   |nil=>simp
   |cons q us=>simpa using ih
 refine mL ?_ ?_
 ·rw [List.map_reverse];exact List.pairwise_reverse.mpr ((nd.sublist hs).imp fun h=>Ne.symm h)
 ·rw [List.mem_reverse];refine zzD (i:=i) ?_;rw [List.getElem?_zip_eq_some];exact⟨h1,h2⟩
section
variable{P:Program}{w:World}{K:PySem.W.Frag}{mg:Str→Option Value}{base:Heap}{ps ys:List Str}{qual:Str}{scope:Scope}{f:Addr}{cd:Value}{cl:List (Str×Addr)}{A:Around}{outer:List Env}{s:Shared}{H:Hp}{E:XK}
theorem sZ{us:List Value}{vs ws:List V}{h':Heap}{tk:Nat}(S:qb ps ys scope)(hd:A.handled=none)(e0:g8 P w K mg base A outer s H)(HE:∀y∈ys,∃c,cl.lookup y=some c)(inj:∀x y c,cl.lookup x=some c→cl.lookup y=some c→x=y)
 (r:Vals vs us) (hl:vs.length=ps.length) (hw:ws.length=ys.length) (cells:∀(i:Nat) y c,ys[i]?=some y→cl.lookup y=some c→∀v,ws[i]?=some v→∃u,RelV v u∧s.heap.IsCell c (some u)) (L1:∀x c,cl.lookup x=some c→∃v,s.heap.IsCell c v)
 (IX:∀x c,cl.lookup x=some c→H c=none) (ns:h'.Ns s.heap.objs.size (fun x=>(ps.zip us).reverse.lookup x)) (hk:∀b o,s.heap.get? b=some o→h'.get? b=some o):
 Inv (DD P w K mg base (ps++ys) qual scope f cd cl A outer s H E) [] (vs.map some++ws.map some) H {s with heap:=h',toks:=tk}:=by
 have Bp:∀b:Addr,b∉(DD P w K mg base (ps++ys) qual scope f cd cl A outer s H E).ex:=fun b z=>absurd (show b∈([]:List Addr) from z) (by simp)
 have ck:∀c v,s.heap.IsCell c v→h'.IsCell c v:=fun c v ⟨o,ho,hd⟩=>⟨o,hk c o ho,hd⟩
 refine⟨⟨e0.mod,S.kind,rfl,rfl,zzE _,inj,fun x hx=>?_,(fun x c z=>nomatch z),fun _=>hd,Around.frames_deeper e0.frames,.inr ⟨rfl,rfl⟩,fun b z=>absurd z (Bp b),e0.bs,e0.bsz,fun b _ _=>Bp b,fun b z=>absurd z (Bp b),e0.funs,e0.frf⟩,
  rfl,e0.bare,Un.kept hk,⟨_,ns,fun i x v h1 h2 h3=>?_⟩,fun x c h=>let⟨v,z⟩:=L1 x c h;⟨v,ck c v z⟩,e0.hok.fresh (zzE _),IX,fun p hp=>absurd (show p∈([]:List (Addr×Obj)) from hp) (by simp),e0.hok.kept hk,?_⟩
 ·have hx:scope.names.lookup x=some .cell∨scope.names.lookup x=some .free:=hx
  rcases hx with hx|hx
  ·exact absurd rfl (S.nocell _ (PySem.mem_of_lookup hx))
  ·exact HE x (S.cov x hx)
 ·have h1:(ps++ys)[i]?=some x:=h1
  by_cases hi:i<vs.length
  ·rw [List.getElem?_append_left (by simpa using hi),zzQ] at h2;have ha:vs[i]?=some v:=by
    cases e:vs[i]? with
    |none=>rw [e] at h2;cases h2
    |some a=>rw [e] at h2;cases h2;rfl
   obtain⟨u,hu,rv⟩:=r.get ha
   have hp:ps[i]?=some x:=by rw [List.getElem?_append_left (by omega)] at h1;exact h1
   exact⟨u,rv,.inl ⟨S.par x (zzD hp),lE (S.nd.sublist (List.sublist_append_left _ _)) hp hu⟩⟩
  ·rw [List.getElem?_append_right (by simpa using hi),zzQ,zzl] at h2;rw [List.getElem?_append_right (by omega)] at h1;have ha:ws[i-vs.length]?=some v:=by
    cases e:ws[i-vs.length]? with
    |none=>rw [e] at h2;cases h2
    |some a=>rw [e] at h2;cases h2;rfl
   rw [←hl] at h1;obtain⟨c,hc⟩:=HE x (zzD h1)
   obtain⟨u,rv,z⟩:=cells _ x c h1 hc v ha
   exact⟨u,rv,.inr ⟨.inr (S.fre x (zzD h1)),c,hc,ck c _ z⟩⟩
 ·show _=(ps++ys).length
  rw [zzM,zzM,zzl,zzl,hl,hw]
theorem HY{N:List Str}:Passes (dF P w) (DD P w K mg base N qual scope f cd cl A outer s H E) E:=by
 rintro pins σ H1 s1 e s' I ⟨a,C,t,vs,H',B,rfl,F⟩
 have nx:∀b:Addr,b∉(DD P w K mg base N qual scope f cd cl A outer s H E).ex:=fun b z=>nomatch (show b∈([]:List Addr) from z)
 have keepB:∀b o,s.heap.get? b=some o→H b=none→b∉eo outer→B.get? b=some o:=fun b o q n hb=>
  F.keepB b o (I.base.keep b o q n hb (nx b)) (I.base.free b o q n (nx b)) (iJ I rfl q hb)
 have thereB:∀b o,s.heap.get? b=some o→b∉eo outer→∃o',B.get? b=some o':=fun b o q hb=>by
  obtain⟨o1,q1⟩:=I.base.there b o q (nx b)
  exact F.thereB b o1 q1 (iJ I rfl q hb)
 refine wpAny_leaves_onW I.ok.frames rfl F.fly fun h' x1 x2=>⟨a,C,t,vs,H',B,rfl,?_⟩
 have slot:∀b o,s.heap.get? b=some o→H b=none→b∈eo outer→∃sl,h'.get? b=some {o with slots:=sl}:=fun b o q n hb=>by
  obtain⟨sl,q1⟩:=I.base.slot b o q n hb (nx b)
  obtain⟨Az,q2⟩:=F.un.any q1 (I.base.free b o q n (nx b)) (fun z=>nomatch z)
  obtain⟨_,o',q3,hd⟩:=F.fly.2.2.1.mem (b:=b) (List.mem_filterMap.mpr (let⟨v,h1,h2⟩:=List.mem_filterMap.mp hb;⟨v,.tail _ h1,h2⟩))
  rw [q2] at q3;cases q3;obtain⟨sl3,q4⟩:=x2 b _ q2 hd
  exact⟨sl3,q4⟩
 refine⟨F.os.trans I.os,F.bare,F.hok,x1,F.tn,F.tup.of_slots x2,keepB,thereB,⟨fun b o q n hb _=>x1.1 _ _ (keepB b o q n hb),fun b o q n hb _=>slot b o q n hb,fun b o q n _=>?_,fun b o q _=>?_,fun b xs q=>F.un.tups _ _ (I.base.tups _ _ q),fun b o u q=>F.un.frzs _ _ _ (I.base.frzs _ _ _ q),fun b ps q=>?_⟩,F.ends⟩
 ·obtain⟨sl,q1⟩:=I.base.any q n (nx b)
  exact F.un.free b _ q1 (I.base.free b o q n (nx b)) (fun z=>nomatch z)
 ·by_cases hb:b∈eo outer
  ·obtain⟨sl,q1⟩:=slot b o q (I.ok.frf b hb) hb
   exact⟨_,q1⟩
  ·obtain⟨o',q1⟩:=thereB b o q hb
   exact⟨o',x1.1 _ _ q1⟩
 ·obtain⟨m1,q1⟩:=I.base.tbls b ps q
  obtain⟨m2,q2⟩:=F.un.tbls b _ q1
  exact⟨m1++m2,by rw [←Array.append_assoc];exact q2⟩
theorem lam_run{k:Nat}{params:Arguments}{body:Expr}{pm eX:Value}{c':Addr}{oc:Obj}{cU:Array Value}{ct:Tok}{us:List Value}{vs ws:List V}{Q:VK}{Z:List (Addr×Obj)}{t:TE}
 (S:qb ps ys scope) (hr:dw k A) (e0:g8 P w K mg base A outer s H) (z:sO Z H (eo outer) s.heap) (zb:∀b o,Z.lookup b=some o→base.get? b=none)
 (ho:s.heap.get? f=some (PySem.W.kla_obj "<lambda>" qual params body scope cl pm c' eX)) (hc:s.heap.get? c'=some oc) (rQ:oc.data=.fields cU) (DR:cU[1]?=some (.str qual ct))
 (hb:bindArgs (PySem.W.kla_fn "<lambda>" qual params body scope cl pm (.ref c') eX) ⟨us,[]⟩=pure (ps.zip us)) (r:Vals vs us) (hl:vs.length=ps.length) (hw:ws.length=ys.length)
 (HE:∀y∈ys,∃c,cl.lookup y=some c) (inj:∀x y c,cl.lookup x=some c→cl.lookup y=some c→x=y)
 (cz:∀x c,cl.lookup x=some c→∃o v,Z.lookup c=some o∧o.data=.cell v)
 (cells:∀(i:Nat) y c,ys[i]?=some y→cl.lookup y=some c→∀v,ws[i]?=some v→∃u,RelV v u∧s.heap.IsCell c (some u))
 (ht:PE (DD P w K mg base (ps++ys) qual scope f (.ref c') cl A outer s H (fun C a H'=>(∀b o,Z.lookup b=some o→H' b=none)→E C a (withZ Z H'))) body t)
 (hq:t (vs.map some++ws.map some) H fun v H'=>(∀b o,Z.lookup b=some o→H' b=none)→Q v (withZ Z H')):
 codeAny (model P w) A (.call (.ref f) ⟨us,[]⟩) (CR (dF P w) outer P w (withZ Z H) s Q E) s:=by
 have lim:s.heap.NoLimit:=e0.mod.nolimit.keeps fun b o e=>(e0.bs b o e).1
 refine PySem.W.kla_callFunE hr.depth ho rfl S.co S.gen rfl ⟨c',oc,cU,ct,rfl,hc,rQ,DR⟩ ?_;rw [hb];refine zzG (wpAny_newFunctionEnv S.nocell (fun y hy=>S.par y.1 (List.of_mem_zip hy).1) (fun h₁ uX hsb=>?_) S.kind)
 have hk₁:∀b o,s.heap.get? b=some o→h₁.get? b=some o:=fun b o e=>hsb.extBut b o (zzb (zzO e)) (zzB _ e)
 refine⟨lim.keeps hk₁,?_⟩;show codeAny _ _ (.expr body (PySem.W.envX qual scope s.heap.objs.size f (.ref c') cl)) _ _;have I:=sZ (E:=fun C a H'=>(∀b o,Z.lookup b=some o→H' b=none)→E C a (withZ Z H')) (cd:=.ref c') (f:=f) (qual:=qual) (tk:=s.toks+(ps.zip us).length) S hr.hd e0 HE inj r hl hw cells (fun x c h=>by
  obtain⟨o,v,h1,h2⟩:=cz x c h
  exact⟨v,o,z.at_ c o h1,h2⟩) (fun x c h=>by
  obtain⟨o,v,h1,h2⟩:=cz x c h
  exact z.no c o h1) uX hk₁
 refine PySem.W.kla_codeExpr (wpAny_mono (ht [] _ _ H _ I hq) (fun u s' hs=>?_) fun e s' hs=>?_)
 ·obtain⟨v,H',J,rv,q⟩:=hs
  exact CE.more z ⟨v,H',J.os,J.bare,J.base,J.hok,rv,q⟩
 ·exact wpAny_mono hs (fun _ C2 y=>dF.more z y) fun e' C2 y=>dF.more z y
end
theorem sf{p:Pos}{a b:Int}{c cv:Value}:∀(l:List Value),TriplesOk l→codeAmong p (l++[rawInt a,rawInt b,c])=some cv→codeAmong p l=some cv∨cv=c:=by
 intro l h e
 fun_induction TriplesOk l with
 |case1=>
  simp only [List.nil_append,codeAmong,rawInt] at e;split at e
  ·cases e;exact .inr rfl
  ·cases e
 |case2 a' t b' u x rest ih=>
  simp only [List.cons_append,codeAmong] at e⊢;split at e
  ·rename_i hc;rw [if_pos hc];exact .inl e
  ·rename_i hc;rw [if_neg hc];exact ih h e
 |case3 l h1 h2=>exact h.elim
def yW(mg:Str→Option Value)(base:Heap):Prop:=∃bm o,mg "__builtins__"=some (.ref bm)∧bm≠builtinsNs∧bm≠mainGlobals∧base.get? bm=some o∧o.cls=.type "module"∧o.dict=some builtinsNs∧o.data=.plain
noncomputable def fv(H:Hp)(P:Addr)(pO:Array Value)(c':Addr)(oc:Obj)(f:Addr)(fo:Obj):Hp:=upd (upd (upd H P (.tbl pO)) c' (.frz oc bG)) f (.frz fo bG)
section
variable{X:Cx}{pins:List (Addr×Obj)}{σ:St}{H:Hp}{s:Shared}{c P c' f:Addr}{ps pO:Array Value}{oc fo:Obj}
theorem Inv.lam{h':Heap}{tk:Nat}(I:Inv X pins σ H s)(hP:H P=some (.tbl ps))(hx:∀b o,b≠P→s.heap.get? b=some o→h'.get? b=some o)(Io:h'.get? P=some (PySem.W.tabObj pO))(more:∃m,pO=ps++m)
 (hc:H c'=none∧s.heap.objs.size≤c'∨H c'=some (.frz oc bG)) (Qn:h'.get? c'=some oc) (hf:s.heap.objs.size≤f) (O2:h'.get? f=some fo) (HP:c'≠f):
 Inv X pins σ (fv H P pO c' oc f fo) {s with heap:=h',toks:=tk}:=by
 have fr:H f=none:=I.hok.fresh hf
 have nP:∀b u,H b=some u→(∀q,u≠.tbl q)→b≠P:=fun b u e n z=>by subst z;rw [hP] at e;cases e;exact n _ rfl
 have nf:∀b u,H b=some u→b≠f:=fun b u e z=>by subst z;rw [fr] at e;cases e
 have cP:c'≠P:=fun z=>by
  subst z;rcases hc with⟨e,_⟩|e
  ·rw [hP] at e;cases e
  ·rw [hP] at e;cases e
 have fP:f≠P:=fun z=>by subst z;rw [hP] at fr;cases fr
 have at_:∀b u,H b=some u→(∀q,u≠.tbl q)→fv H P pO c' oc f fo b=some u:=fun b u e n=>by
  unfold fv;rw [af (nf b u e)]
  by_cases hb:b=c'
  ·subst hb;rw [au];rcases hc with⟨z,_⟩|z
   ·rw [z] at e;cases e
   ·rw [z] at e;exact e
  ·rw [af hb,af (nP b u e n)];exact e
 have no:∀b o,s.heap.get? b=some o→H b=none→fv H P pO c' oc f fo b=none:=fun b o e n=>by
  have Cb:b≠f:=fun z=>absurd (zzO e) (by rw [z];exact Nat.not_lt.mpr hf)
  have Hv:b≠P:=fun z=>by subst z;rw [hP] at n;cases n
  have xa:b≠c':=fun z=>by
   rcases hc with⟨_,y⟩|y
   ·exact absurd (zzO e) (by rw [z];exact Nat.not_lt.mpr y)
   ·rw [z,y] at n;cases n
  unfold fv;rw [af Cb,af xa,af Hv];exact n
 have kp:∀b o,s.heap.get? b=some o→H b=none→h'.get? b=some o:=fun b o e n=>hx b o (fun z=>by subst z;rw [hP] at n;cases n) e
 refine I.un ⟨fun b o e n _ _=>kp b o e n,fun b o e n _ _=>⟨o.slots,kp b o e n⟩,fun b o e n _=>no b o e n,fun b o e _=>?_,fun b xs e=>at_ b _ e (fun _ z=>nomatch z),fun b o u e=>at_ b _ e (fun _ z=>nomatch z),fun b qs e=>?_⟩ fun b u e=>?_
 ·by_cases hb:b=P
  ·exact⟨_,by rw [hb];exact Io⟩
  ·exact⟨o,hx b o hb e⟩
 ·by_cases hb:b=P
  ·subst hb;rw [hP] at e;cases e;obtain⟨m,rfl⟩:=more
   exact⟨m,by unfold fv;rw [af (Ne.symm fP),af (Ne.symm cP),au]⟩
  ·have xa:b≠c':=fun z=>by
    subst z;rcases hc with⟨y,_⟩|y
    ·rw [y] at e;cases e
    ·rw [y] at e;cases e
   exact⟨#[],by unfold fv;rw [af (nf b _ e),af xa,af hb,e];simp⟩
 ·unfold fv at e
  by_cases h1:b=f
  ·subst h1;rw [au] at e;cases e;exact kJ O2
  ·rw [af h1] at e
   by_cases h2:b=c'
   ·subst h2;rw [au] at e;cases e;exact kJ Qn
   ·rw [af h2] at e
    by_cases h3:b=P
    ·subst h3;rw [au] at e;cases e;exact Io
    ·rw [af h3] at e;refine(I.hok b u e).stay (fun d v hd q=>hx d v ?_ q) (fun d q=>at_ d _ q (fun _ z=>nomatch z)) fun d xs q=>at_ d _ q (fun _ z=>nomatch z)
     rcases hd with hd|hd
     ·rw [hd];exact h3
     ·exact nP d _ hd (fun _ z=>nomatch z)
theorem lam_make{R:Addr→Obj→Prop}{params:Arguments}{body:Expr}{scope:Scope}{pos:Pos}{cl:List (Str×Addr)}{Q:Value→Shared→Prop}{E:Value→Shared→Prop}(I:Inv X pins σ H s)(hP:H P=some (.tbl ps))(ht:TriplesOk ps.toList)(ux:X.env.code=.ref c)(C:PySem.W.CodeHd X.base c P)
 (PB:yW X.mg X.base) (DC:closureFor scope X.env=pure cl) (EZ:defaultsOf params X.env=([],[]))
 (hit:∀cv,codeAmong pos ps.toList=some cv→∃c' oc cU t,cv=.ref c'∧H c'=some (.frz oc bG)∧R c' oc∧oc.data=.fields cU∧cU[1]?=some (.str (X.env.qual++"<lambda>") t))
 (h:∀(f c':Addr) (oc:Obj) (cU:Array Value) (t:Tok) (eX:Value) (pO:Array Value) (h':Heap) (tk:Nat),H f=none→(H c'=none∨H c'=some (.frz oc bG)∧R c' oc)→c'≠f→f≠P→c'≠P→oc.data=.fields cU→cU[1]?=some (.str (X.env.qual++"<lambda>") t)→TriplesOk pO.toList→
  (∀p cv,codeAmong p pO.toList=some cv→codeAmong p ps.toList=some cv∨cv=.ref c')→(∃m,pO=ps++m)→
  Inv X pins σ (fv H P pO c' oc f (PySem.W.kla_obj "<lambda>" (X.env.qual++"<lambda>") params body scope cl ((X.mg "__name__").getD .none) c' eX)) {s with heap:=h',toks:=tk}→Q (.ref f) {s with heap:=h',toks:=tk}):
 wpAny (model X.prog X.w) X.A (eval (.Lambda params body scope pos) X.env) Q E s:=by
 have LJ:s.heap.get? P=some (PySem.W.tabObj ps):=I.hok P _ hP
 have hg:=I.ok.mod.glob.keeps I.bk
 have PQ:mainGlobals≠P:=fun q=>by
  obtain⟨o,es,ep,e,_⟩:=I.ok.mod.glob
  have:=(I.bs _ _ e).2
  rw [q,hP] at this;cases this
 obtain⟨bm,ob,b1,b2,b3,b4,b5,b6,b7⟩:=PB
 have hB:s.heap.BuiltinsAt X.mg P:=⟨bm,ob,b1,b2,b3,(fun q=>by
  have:=(I.bs _ _ b4).2
  rw [q,hP] at this;cases this),I.bk _ _ b4,b5,b6,b7⟩
 refine PySem.W.kla_eval EZ ?_;cases hm:codeAmong pos ps.toList with
 |none=>
  refine PySem.W.kla_makeFunction (mg:=X.mg) DC I.ok.glob hg ux (C.keeps I.bk) LJ ht hm PQ hB fun c' eX h' tk hx GN bR M0 PY=>?_
  obtain⟨c₂,oc,vs,t,e2,hoc,hd,hv⟩:=M0
  cases e2;have DR:H c'=none:=I.hok.fresh GN
  have hsz:s.heap.objs.size≤h'.objs.size:=zzU GN (Nat.le_of_lt bR)
  have jr:H h'.objs.size=none:=I.hok.fresh hsz
  refine h h'.objs.size c' oc vs t eX _ _ tk jr (.inl DR) (zzb bR) (fun z=>by rw [z,hP] at jr;cases jr) (fun z=>by rw [z,hP] at DR;cases DR) hd hv ?_ ?_ ⟨_,rfl⟩
   (I.lam hP (fun b o hb e=>zzB _ (hx b o hb e)) (zzB _ PY) ⟨_,rfl⟩ (.inl ⟨DR,GN⟩) (zzB _ hoc) hsz (zzX _ rfl) (zzb bR))
  ·rw [Array.toList_append];exact TriplesOk_snoc _ _ _ _ ht
  ·intro p cv e;rw [Array.toList_append] at e;exact sf _ ht e
 |some cv=>
  obtain⟨c',oc,cU,t,rfl,f6,hR,hd,hv⟩:=hit cv hm
  refine PySem.W.kla_makeFunctionHit (mg:=X.mg) DC I.ok.glob hg ux (C.keeps I.bk) LJ ht hm hB fun eX h' tk hk hsz=>?_
  have jr:H h'.objs.size=none:=I.hok.fresh hsz
  have xf:s.heap.get? c'=some oc:=(I.hok c' _ f6).1
  have HP:c'≠h'.objs.size:=fun z=>by rw [z,jr] at f6;cases f6
  refine h h'.objs.size c' oc cU t eX ps _ tk jr (.inr ⟨f6,hR⟩) HP (fun z=>by rw [z,hP] at jr;cases jr) (fun z=>by rw [z,hP] at f6;cases f6) hd hv ht (fun p cv e=>.inl e) ⟨#[],by simp⟩
   (I.lam hP (fun b o hb e=>zzB _ (hk b o e)) (zzB _ (hk _ _ LJ)) ⟨#[],by simp⟩ (.inr f6) (zzB _ (hk _ _ xf)) hsz (zzX _ rfl) HP)
end
section
variable(P:Program)(w:World)
end
section
variable{P:Program}{w:World}{H H':Hp}{h h':Heap}{a:Addr}{o:HO}
end
section
variable{P:Program}{w:World}{H:Hp}{h h':Heap}{x e:Addr}{o':HO}
end
section
variable{fs Mo ex PK:List Addr}{H H1 H2:Hp}{h h1 h2 h':Heap}{a x e:Addr}{o:HO}
end
section
variable{X:Cx}{pins:List (Addr×Obj)}{σ:List (Option V)}{H H':Hp}{s:Shared}{h':Heap}
end
section
variable{X:Cx}
variable{a b:Expr}{ta tb:TE}{pos:Pos}
variable{tA Ij:TT}{rest:List Expr}
end
section
variable{X:Cx}{pins:List (Addr×Obj)}{σ:St}{H:Hp}{s:Shared}{a:Addr}{xs ys:List V}
end
section
variable{X:Cx}{pins:List (Addr×Obj)}{σ:St}{H:Hp}{s:Shared}{E:Value→Shared→Prop}
end
section
variable{X:Cx}{st:Stmt}{rest:List Stmt}{t u:TS}{e:Expr}{te:TE}{pos:Pos}
end
section
variable{X:Cx}{pos:Pos}
end
section
variable{X:Cx}{pos:Pos}
end
section
variable{X:Cx}{tg:Expr}
end
section
variable{X:Cx}{a b c:Expr}{ta tb tc:TE}{pos:Pos}
end
section
variable{X:Cx}{a b c:Expr}{ta tb tc:TE}{pos:Pos}
end
section
variable{prog:Program}{w:World}{A:Around}{E:Value→Shared→Prop}{s:Shared}{K:PySem.W.Frag}{x dx C f:Addr}{mA:Str→Option Value}{name:Str}{v:Value}
end
section
variable{P:Program}{w:World}{H H':Hp}{h h':Heap}{a C dx:Addr}{fs Mo:List (Str×V)}
end
section
variable{X:Cx}{pins:List (Addr×Obj)}{σ:St}{H:Hp}{s:Shared}{a C dx:Addr}{fs:List (Str×V)}{f:Str}{v:V}{A:Around}{E:Value→Shared→Prop}
end
section
variable{X:Cx}{o e value:Expr}{f:Str}{pos pos' kf:Pos}{ta tv:TE}
end
section
variable{X:Cx}{pins:List (Addr×Obj)}{σ:St}{H:Hp}{s:Shared}{A:Around}{E:Value→Shared→Prop}{Q:Value→Shared→Prop}{c:Value}{b:Bool}
end
section
variable{X:Cx}{e:Expr}{es:List Expr}{te:TE}{t:TA}{pos:Pos}
end
section
variable{X:Cx}{pins:List (Addr×Obj)}{σ:St}{H:Hp}{s s':Shared}
end
section
variable{X:Cx}{CX:rn}{k:Nat}{f C:Addr}{fd:FuncData}{ps:List Str}{sp:Sp}{Ql:List V}{ds:List Value}{E:XK}{x m:Str}{p pos apos:Pos}{e o:Expr}{es:List Expr}{ta:TE}{t:TA}
end
section
variable{X:Cx}{CX:rn}{k:Nat}{f C:Addr}{fd:FuncData}{ps ks:List Str}{sp:Sp}{E:XK}{x m:Str}{p pos apos LK:Pos}{e o:Expr}{es:List Expr}{mJ:List Keyword}{te ta:TE}{t tk:TA}{nm:Option Str}
variable{g:List Value→List Value→List Value}{gV:List V→List V→List V}
end
section
variable{X:Cx}{x:Str}{p pos:Pos}{e:Expr}{es:List Expr}{t:TA}{id T:String}{r:List V→Hp→VK→Prop}
end
section
variable{κ:Type} [DecidableEq κ]
def gh(aB:List (κ×V))(k:κ):Option V:=(aB.find? fun kv=>decide (kv.1=k)).map (·.2)
def putK(aB:List (κ×V))(k:κ)(v:V):List (κ×V):=
 if(aB.any fun kv=>decide (kv.1=k))=true then aB.map (fun kv=>if kv.1=k then(kv.1,v) else kv) else aB++[(k,v)]
def e8(aB:List (κ×V))(k:κ):List (κ×V):=aB.filter fun kv=>decide (kv.1≠k)
theorem fB{p:κ×V}{r:List (κ×V)}{k:κ}(e:p.1=k):gh (p::r) k=some p.2:=by simp [gh,List.find?_cons,e]
theorem fu{p:κ×V}{r:List (κ×V)}{k:κ}(e:¬p.1=k):gh (p::r) k=gh r k:=by simp [gh,List.find?_cons,e]
theorem kM(k:κ):∀aB:List (κ×V),(aB.any fun kv=>decide (kv.1=k))=(gh aB k).isSome
 |[]=>rfl
 |p::r=>by
  rw [List.any_cons]
  by_cases e:p.1=k
  ·simp only [fB e,zzh e,Bool.true_or,Option.isSome_some]
  ·rw [fu e,decide_eq_false e,Bool.false_or];exact kM k r
theorem fF(aB:List (κ×V))(k:κ)(v:V):(putK aB k v).length≤aB.length+1:=by
 unfold putK;split
 ·rw [zzl];omega
 ·rw [zzM,zzL,List.length_nil];omega
theorem jl.isSome_eq{o:Option V}{u:Option Value}(r:jl o u):o.isSome=u.isSome:=by
 cases o with
 |none=>cases u with
  |none=>rfl
  |some _=>exact(show False from r).elim
 |some _=>cases u with
  |none=>exact(show False from r).elim
  |some _=>rfl
theorem KV.val{aB:List (κ×V)}{vs:List (κ×Value)}(r:KV aB vs)(k:κ):jl (gh aB k) (valueAt vs k):=by
 unfold KV at r
 induction r with
 |nil=>exact True.intro
 |@cons p q ps qs h t ih=>
  obtain⟨h1,h2⟩:=h
  by_cases e:p.1=k
  ·have e':q.1=k:=h1.symm.trans e
   have b:valueAt (q::qs) k=some q.2:=by simp [valueAt,List.find?_cons,e']
   rw [fB e,b];exact h2
  ·have e':¬q.1=k:=fun z=>e (h1.trans z)
   have b:valueAt (q::qs) k=valueAt qs k:=by simp [valueAt,List.find?_cons,e']
   rw [fu e,b];exact ih
theorem KV.any{aB:List (κ×V)}{vs:List (κ×Value)}(r:KV aB vs)(k:κ):(aB.any fun kv=>decide (kv.1=k))=vs.any fun kv=>decide (kv.1=k):=by
 unfold KV at r
 induction r with
 |nil=>rfl
 |cons h t ih=>rw [List.any_cons,List.any_cons,ih,h.1]
theorem KV.repl{aB:List (κ×V)}{vs:List (κ×Value)}(r:KV aB vs)(k:κ){y:V}{u:Value}(ry:RelV y u):
 KV (aB.map fun kv=>if kv.1=k then(kv.1,y) else kv) (vs.map fun kv=>if kv.1=k then(kv.1,u) else kv):=by
 unfold KV at r⊢
 induction r with
 |nil=>exact .nil
 |@cons p q ps qs h t ih=>
  rw [zzF,zzF];refine .cons ?_ ih;obtain⟨h1,h2⟩:=h
  by_cases e:p.1=k
  ·rw [if_pos e,if_pos (h1.symm.trans e)];exact⟨h1,ry⟩
  ·rw [if_neg e,if_neg (fun z=>e (h1.trans z))];exact⟨h1,h2⟩
theorem KV.put{aB:List (κ×V)}{vs:List (κ×Value)}(r:KV aB vs)(k:κ){y:V}{u:Value}(ry:RelV y u):KV (putK aB k y) (stored vs k u):=by
 unfold putK stored;rw [r.any k]
 by_cases e:(vs.any fun kv=>decide (kv.1=k))=true
 ·rw [if_pos e,if_pos e];exact r.repl k ry
 ·rw [if_neg e,if_neg e];exact Paired.snoc r ⟨rfl,ry⟩
theorem KV.length{aB:List (κ×V)}{vs:List (κ×Value)}(r:KV aB vs):aB.length=vs.length:=Paired.length r
theorem yD(aB:List (κ×V))(k:κ):(e8 aB k).length≤aB.length:=List.length_filter_le _ _
end
theorem uy{P:Program}{w:World}{k:Key}{u:Value}(r:RelV (kV k) u):(bL P w).is k u=true:=by
 cases k with
 |inl i=>obtain⟨t,e⟩:=(show∃t,u=Value.int i t from r);subst e;exact qL P w i t
 |inr x=>obtain⟨t,e⟩:=(show∃t,u=Value.str x t from r);subst e;exact rj P w x t
theorem mW{P:Program}{w:World}:∀{ks:List Key} {us:List Value},Vals (ks.map kV) us→ItemsAre (bL P w) ks us
 |[],_,r=>by rw [List.map_nil] at r;cases r;exact .nil
 |k::ks,_,r=>by
  rw [zzF] at r;cases r with
  |cons h t=>exact .cons (uy h) (mW t)
abbrev KT(H:Hp):List (List Key×V)→List (List Key×Addr×Value)→Prop:=Paired fun p q=>p.1=q.1∧H q.2.1=some (.tup (p.1.map kV))∧RelV p.2 q.2.2
theorem KT.val{H:Hp}{aB:List (List Key×V)}{xs:List (List Key×Addr×Value)}(r:KT H aB xs)(k:List Key):jl (gh aB k) ((atKey xs k).map (·.2)):=by
 induction r with
 |nil=>exact True.intro
 |@cons p q ps qs h t ih=>
  obtain⟨h1,_,h2⟩:=h
  by_cases e:p.1=k
  ·have e':q.1=k:=h1.symm.trans e
   have b:atKey (q::qs) k=some q.2:=by simp [atKey,List.find?_cons,e']
   rw [fB e,b];exact h2
  ·have e':¬q.1=k:=fun z=>e (h1.trans z)
   have b:atKey (q::qs) k=atKey qs k:=by simp [atKey,List.find?_cons,e']
   rw [fu e,b];exact ih
theorem KT.repl{H:Hp}{aB:List (List Key×V)}{xs:List (List Key×Addr×Value)}(r:KT H aB xs)(k:List Key){y:V}{u:Value}(ry:RelV y u):
 KT H (aB.map fun kv=>if kv.1=k then(kv.1,y) else kv) (xs.map (putAt k u)):=by
 induction r with
 |nil=>exact .nil
 |@cons p q ps qs h t ih=>
  rw [zzF,zzF];refine .cons ?_ ih;obtain⟨h1,h2,h3⟩:=h
  unfold putAt
  by_cases e:p.1=k
  ·rw [if_pos e,if_pos (h1.symm.trans e)];exact⟨h1,h2,ry⟩
  ·rw [if_neg e,if_neg (fun z=>e (h1.trans z))];exact⟨h1,h2,h3⟩
theorem KT.put{H:Hp}{aB:List (List Key×V)}{xs:List (List Key×Addr×Value)}(r:KT H aB xs)(k:List Key){b:Addr}{y:V}{u:Value}(hb:H b=some (.tup (k.map kV)))(ry:RelV y u):
 KT H (putK aB k y) (storedH xs k b u):=by
 have e:(aB.any fun kv=>decide (kv.1=k))=(atKey xs k).isSome:=by
  rw [kM,(r.val k).isSome_eq,Option.isSome_map]
 unfold putK storedH;rw [e]
 by_cases q:(atKey xs k).isSome=true
 ·rw [if_pos q,if_pos q];exact r.repl k ry
 ·rw [if_neg q,if_neg q];exact Paired.snoc r ⟨rfl,hb,ry⟩
theorem KT.keeps{H H':Hp}{aB:List (List Key×V)}{xs:List (List Key×Addr×Value)}(r:KT H aB xs)(ht:∀b ys,H b=some (.tup ys)→H' b=some (.tup ys)):KT H' aB xs:=
 Paired.mapP r fun _ _ z=>⟨z.1,ht _ _ z.2.1,z.2.2⟩
section
variable{P:Program}{w:World}{H:Hp}{h:Heap}{a:Addr}
theorem D7{u:HO}(ok:dU P w H h)(e:Rd H a u):bQ P w H h a u:=e.ok ok
theorem qW{aB:List (Key×V)}(ok:dU P w H h)(e:Rd H a (.dK aB)):aB.length≤sizeLine∧(a==sysModules)=false∧∃vs,KV aB vs∧h.DictOf (bL P w) a vs:=
 show bQ P w H h a (.dK aB) from D7 ok e
theorem Jw{aB:List (Key×V)}(ok:dU P w H h)(e:H a=some (.dK aB)):aB.length≤sizeLine∧(a==sysModules)=false∧∃vs,KV aB vs∧h.DictOf (bL P w) a vs:=qW ok (.inl e)
theorem gF{ks:List Key}(ok:dU P w H h)(e:H a=some (.tup (ks.map kV))):(tupleKind (bL P w)).is h ks a:=by
 obtain⟨_,aA,r,o,h1,h2,n,h3⟩:=(show bQ P w H h a (.tup (ks.map kV)) from ok a _ e)
 exact⟨o,aA.toArray,n,h1,h2,h3,by simpa using mW r⟩
theorem lJ{aB:List (List Key×V)}(ok:dU P w H h)(e:Rd H a (.dT aB)):aB.length≤sizeLine∧(a==sysModules)=false∧
 ∃xs,KT H aB xs∧h.DictOfH (tupleKind (bL P w)) a xs:=by
 obtain⟨z,y,xs,r,o,es,ep,h1,h2,h3,h4,h5⟩:=(show bQ P w H h a (.dT aB) from D7 ok e)
 refine⟨z,y,xs,r,o,es,ep,h1,h2,h3,h4,fun x hx=>?_,h5⟩
 have all:∀{l:List (List Key×V)} {m:List (List Key×Addr×Value)},KT H l m→∀x∈m,(tupleKind (bL P w)).is h x.1 x.2.1:=by
  intro l m q
  induction q with
  |nil=>intro x hx;exact nomatch hx
  |@cons p q ps qs hq t ih=>
   intro x hx;rcases List.mem_cons.mp hx with e|hx
   ·subst e;exact gF ok (by rw [←hq.1];exact hq.2.1)
   ·exact ih x hx
 exact all r x hx
theorem ze{aB:List (List Key×V)}(ok:dU P w H h)(e:H a=some (.dT aB)):aB.length≤sizeLine∧(a==sysModules)=false∧
 ∃xs,KT H aB xs∧h.DictOfH (tupleKind (bL P w)) a xs:=lJ ok (.inl e)
end
def AL(H:Hp)(a:Addr)(y:V)(r:Option V):Prop:=
 (∃aB k,Rd H a (.dK aB)∧y=kV k∧r=gh aB k)∨∃aB k b,Rd H a (.dT aB)∧y=.ref b∧H b=some (.tup (k.map kV))∧r=gh aB k
def vL(H:Hp)(a:Addr)(y v:V)(H':Hp):Prop:=
 (∃aB k,H a=some (.dK aB)∧y=kV k∧aB.length<sizeLine∧H'=upd H a (.dK (putK aB k v)))∨
 ∃aB k b,H a=some (.dT aB)∧y=.ref b∧H b=some (.tup (k.map kV))∧aB.length<sizeLine∧H'=upd H a (.dT (putK aB k v))
theorem vL.t{H:Hp}{a b:Addr}{aB:List (List Key×V)}{k:List Key}{v:V}(e:H a=some (.dT aB))(eb:H b=some (.tup (k.map kV)))(hl:aB.length<sizeLine):
 vL H a (.ref b) v (upd H a (.dT (putK aB k v))):=.inr ⟨aB,k,b,e,rfl,eb,hl,rfl⟩
section
variable{X:Cx}{pins:List (Addr×Obj)}{σ:St}{H:Hp}{s:Shared}{a:Addr}{y v:V}{u r:Value}{o:Option V}{A:Around}{E:Value→Shared→Prop}
theorem Inv.big(I:Inv X pins σ H s):sysModules<s.heap.objs.size:=by
 have h:mainGlobals<s.heap.objs.size:=(I.mod.glob.keeps I.bk).lt
 exact Nat.lt_trans (by decide) h
theorem vA{Q:Value→Shared→Prop}(hu:A.units+1<cLine)(I:Inv X pins σ H s)(g:AL H a y (some v))(ry:RelV y u)(h:∀w' s',Inv X pins σ H s'→RelV v w'→Q w' s'):
 wpAny (model X.prog X.w) A (getItem (.ref a) u) Q E s:=by
 rcases g with⟨aB,k,e,ey,l⟩|⟨aB,k,b,e,ey,eb,l⟩
 ·subst ey;obtain⟨z,hd,vs,rel,dd⟩:=qW I.hok e
  obtain⟨w',hw,gU⟩:=jl.some_of (v:=v) (o:=valueAt vs k) (by rw [l];exact rel.val k)
  exact wpAny_getItem_of (uy ry) dd.mapOf hw (h w' _ (I.tok _) gU)
 ·subst ey;cases(show u=Value.ref b from ry);obtain⟨z,hd,xs,rel,dd⟩:=lJ I.hok e
  obtain⟨w',hw,gU⟩:=jl.some_of (v:=v) (o:=(atKey xs k).map (·.2)) (by rw [l];exact rel.val k)
  obtain⟨p,hp,hp2⟩:=zzJ.mp hw
  refine wpAny_getItem_heap (tupleKind_room_in1 hu) (gF I.hok eb) dd hp ?_;rw [hp2];exact h w' _ (I.tok _) gU
theorem Bf{Q:Value→Shared→Prop}(hu:A.units+1<cLine)(I:Inv X pins σ H s)(g:AL H a y o)(ry:RelV y u)(h:∀s',Inv X pins σ H s'→Q (.bool (!o.isSome)) s'):
 wpAny (model X.prog X.w) A (compareOp .NotIn u (.ref a)) Q E s:=by
 rcases g with⟨aB,k,e,ey,l⟩|⟨aB,k,b,e,ey,eb,l⟩
 ·subst ey;obtain⟨z,hd,vs,rel,dd⟩:=qW I.hok e
  refine wpAny_notIn_of (uy ry) hd dd.mapOf ?_;rw [←(rel.val k).isSome_eq,←l];exact h _ (I.tok _)
 ·subst ey;cases(show u=Value.ref b from ry);obtain⟨z,hd,xs,rel,dd⟩:=lJ I.hok e
  refine wpAny_notIn_heap (tupleKind_room_in1 hu) (gF I.hok eb) hd dd ?_;have q:=(rel.val k).isSome_eq
  rw [Option.isSome_map] at q;rw [←q,←l];exact h _ (I.tok _)
theorem f9{h':Heap}{t':Nat}{ob:HO}(I:Inv X pins σ H s)(mu:Jx (H a))(hs:Heap.SameBut a s.heap h')(he:∃q,h'.get? a=some q)(new:bQ X.prog X.w (upd H a ob) h' a ob):
 Inv X pins σ (upd H a ob) {s with heap:=h',toks:=t'}:=
 I.write (x:=a) (e:=a) mu (.inl rfl) (fun b q hb z=>(hs.2 b hb).trans z) he new
theorem FK{P:Program}{w:World}{H':Hp}{h':Heap}{aB:List (Key×V)}{vs:List (Key×Value)}(z:aB.length≤sizeLine)(hd:(a==sysModules)=false)(rel:KV aB vs)(dd:h'.DictOf (bL P w) a vs):
 bQ P w H' h' a (.dK aB):=⟨z,hd,vs,rel,dd⟩
theorem vF{H':Hp}{Q:Unit→Shared→Prop}(hu:A.units+1<cLine)(I:Inv X pins σ H s)(g:vL H a y v H')(ry:RelV y u)(rv:RelV v r)(h:∀s',Inv X pins σ H' s'→Q () s'):
 wpAny (model X.prog X.w) A (setItem (.ref a) u r) Q E s:=by
 rcases g with⟨aB,k,e,ey,l,eH⟩|⟨aB,k,b,e,ey,eb,l,eH⟩
 ·subst ey eH;obtain⟨z,hd,vs,rel,dd⟩:=Jw I.hok e
  have hz:vs.length≤sizeLine:=by rw [←rel.length];exact z
  have hl:(putK aB k v).length≤sizeLine:=by have:=fF aB k v;omega
  refine wpAny_setItem_pairs (hsz:=hz) (uy ry) dd fun h' AB hs=>h _ ?_
  have he:∃q,h'.get? a=some q:=let⟨q,_,_,hq,_⟩:=AB;⟨q,hq⟩
  exact f9 I (by rw [e];exact True.intro) hs he (FK hl hd (rel.put k rv) AB)
 ·subst ey eH;cases(show u=Value.ref b from ry);obtain⟨z,hd,xs,rel,dd⟩:=ze I.hok e
  have hz:xs.length≤sizeLine:=by rw [←Paired.length rel];exact z
  have hl:(putK aB k v).length≤sizeLine:=by have:=fF aB k v;omega
  refine wpAny_setItem_heap (hsz:=hz) (tupleKind_room_in1 hu) (gF I.hok eb) dd fun h' AB hs=>h _ ?_
  obtain⟨q,es,ep,hq,h2,h3,h4,_,h5⟩:=AB
  refine f9 I (by rw [e];exact True.intro) hs ⟨q,hq⟩ ⟨hl,hd,_,(rel.put k eb rv).keeps fun c ys ec=>?_,q,es,ep,hq,h2,h3,h4,h5⟩
  rw [af (gu ec e (fun z=>nomatch z))];exact ec
end
section
variable{X:Cx}{pins:List (Addr×Obj)}{σ:St}{H:Hp}{s:Shared}{a:Addr}{aB:List (Key×V)}{k:Key}{u:Value}{A:Around}{E:Value→Shared→Prop}
end
def Jh(i:Expr):Prop:=∀ov iv,subscripted i false ov iv=operate [ov,iv] (getItem ov iv)
theorem Bd{prog:Program}{w:World}{A:Around}{E:Value→Shared→Prop}{s:Shared}{env:Env}{value slice:Expr}{pos:Pos}{T id:String}{Q:Value→Shared→Prop}
 (hl:typeLookup (.type T) "__getitem__"=pure (some (.builtin id))) (hs:Jh slice)
 (h:wpAny (model prog w) A (eval value env) (fun o s₁=>wpAny (model prog w) A (eval slice env) (fun i s₂=>s₂.TypeIs o T∧wpAny (model prog w) A (getItem o i) Q E s₂) E s₁) E s):
 wpAny (model prog w) A (eval (.Subscript value slice pos) env) Q E s:=by
 refine Subscript_ (wpAny_mono h (fun o s₁ h₁=>wpAny_mono h₁ (fun i s₂ h₂=>?_) fun _ _ x=>x) fun _ _ x=>x)
 obtain⟨hT,h₂⟩:=h₂
 unfold subscriptTail;refine zzA ?_;rw [getitemInPython_of_ne hT.not_modules];refine zzA (wpAny_specialOf hT hl ?_);have fin:wpAny (model prog w) A (subscripted slice false o i) (fun r s₃=>wpAny (model prog w) A (letTemporaryGo value o r>>=fun _=>pure r) Q E s₃) E s₂:=by
  rw [hs o i];exact wpAny_operating (wpAny_mono h₂ (fun r s₃ h₃=>zzA (wpAny_letTemporaryGo (zzG h₃))) fun _ _ x=>x)
 first
  |exact zzG (zzA fin)
  |exact zzA (zzG (zzA fin))
  |exact zzA fin
theorem qR{X:Cx}{pins:List (Addr×Obj)}{σ:St}{H:Hp}{s:Shared}{a:Addr}{y:V}{o:Option V}(I:Inv X pins σ H s)(g:AL H a y o):s.TypeIs (.ref a) "dict":=by
 rcases g with⟨aB,k,e,_,_⟩|⟨aB,k,b,e,_,_,_⟩
 ·obtain⟨_,_,vs,_,dd⟩:=qW I.hok e
  exact dd.typeIs
 ·obtain⟨_,_,xs,_,dd⟩:=lJ I.hok e
  exact dd.typeIs
def DB(td ty:TE):TE:=fun σ H Q=>td σ H fun x H1=>ty σ H1 fun y H2=>∃a v,x=.ref a∧AL H2 a y (some v)∧Q v H2
section
variable{X:Cx}{o i e value:Expr}{pos pos' kf:Pos}{td ty tv:TE}
theorem BG(hu:X.A.units+1<cLine)(ho:PE X o td)(hi:PE X i ty)(hs:Jh i):PE X (.Subscript o i pos) (DB td ty):=by
 intro pins s σ H Q I h;refine Bd PySem.F.slot_dict_getitem.lookup hs (bJ (ho pins s σ H _ I h) fun u s1 ⟨x,H1,I1,rx,q1⟩=>bJ (hi pins s1 σ H1 _ I1 q1) fun iv s2 ⟨y,H2,I2,ry,a,v,ex,g,q2⟩=>?_)
 subst ex;obtain rfl:u=Value.ref a:=rx
 exact⟨qR I2 g,vA hu I2 g ry fun w' s3 I3 gU=>⟨v,H2,I3,gU,q2⟩⟩
end
theorem qf{P:Program}{w:World}{H:Hp}(h:Heap)(hb:sysModules<h.objs.size):bQ P w H (h.push {cls:=.type "dict",data:=.dict #[]}) h.objs.size (.dT []):=
 ⟨Nat.zero_le _,beq_eq_false_iff_ne.mpr (Ne.symm (zzb hb)),[],.nil,_,#[],0,zzX _ rfl,⟨rfl,rfl,rfl⟩,rfl,rfl,List.nodup_nil⟩
def Ee:TE:=fun _ H Q=>∀p,H p=none→Q (.ref p) (upd H p (.dT []))
section
variable{X:Cx}{pos:Pos}
theorem xS:PE X (.Dict [] [] pos) Ee:=fun pins s σ H Q I h=>
 wpAny_Dict_empty ⟨.ref s.heap.objs.size,_,I.laid (a:=s.heap.objs.size) (o:=.dT []) (t':=s.toks) (fun _ _ q=>zzB _ q) (zzE _) (qf s.heap I.big),rfl,h _ (I.hok.fresh (zzE _))⟩
end
structure M1(X:Cx)(o:Expr)(m:Str)(apos:Pos)(e:Expr)(bA:Pos):Prop where
 base:attributeBase o m X.env (eval o X.env)=eval o X.env
 few:((backTo bA (starEach [e] X.env)).all (fun x=>!x.1)&&(backToKw bA (keywordEach [] X.env)).all (fun x=>x.1.isSome)
  &&decide (([e]:List Expr).length+([]:List Keyword).length+(if([]:List Keyword).isEmpty then 0 else 1)<30))=true
 line:(apos.endLine==bA.line)=true
 trees:backTo bA (starEach [e] X.env)=[(false,eval e X.env)]
structure M2(X:Cx)(o:Expr)(m:Str)(apos:Pos)(e f:Expr)(bA:Pos):Prop where
 base:attributeBase o m X.env (eval o X.env)=eval o X.env
 few:((backTo bA (starEach [e,f] X.env)).all (fun x=>!x.1)&&(backToKw bA (keywordEach [] X.env)).all (fun x=>x.1.isSome)
  &&decide (([e,f]:List Expr).length+([]:List Keyword).length+(if([]:List Keyword).isEmpty then 0 else 1)<30))=true
 line:(apos.endLine==bA.line)=true
 trees:backTo bA (starEach [e,f] X.env)=[(false,eval e X.env),(false,eval f X.env)]
def Dt(H:Hp)(a:Addr):Prop:=(∃aB,Rd H a (.dK aB))∨∃aB,Rd H a (.dT aB)
theorem ES{X:Cx}{pins:List (Addr×Obj)}{σ:St}{H:Hp}{s:Shared}{a:Addr}(I:Inv X pins σ H s)(d:Dt H a):
 s.TypeIs (.ref a) "dict"∧(∀b,Value.ref a=.ref b→∃ob,s.heap.get? b=some ob∧ob.dict=none)∧(a==sysModules)=false:=by
 rcases d with⟨aB,e⟩|⟨aB,e⟩
 ·obtain⟨_,hd,vs,_,dd⟩:=qW I.hok e
  refine⟨dd.typeIs,fun b q=>?_,hd⟩
  cases q;obtain⟨ob,_,_,h1,h2,_⟩:=dd
  exact⟨ob,h1,h2.2.1⟩
 ·obtain⟨_,hd,xs,_,dd⟩:=lJ I.hok e
  refine⟨dd.typeIs,fun b q=>?_,hd⟩
  cases q;obtain⟨ob,_,_,h1,h2,_⟩:=dd
  exact⟨ob,h1,h2.2.1⟩
section
variable{X:Cx}{pins:List (Addr×Obj)}{σ:St}{H:Hp}{s:Shared}{a:Addr}{y d:V}{u r:Value}{o:Option V}{A:Around}{E:Value→Shared→Prop}
end
section
variable{X:Cx}{o e f:Expr}{apos bA:Pos}{td ty tx:TE}
end
section
variable{X:Cx}{pins:List (Addr×Obj)}{σ:St}{H:Hp}{s:Shared}{a:Addr}{aB:List (Key×V)}{A:Around}{E:Value→Shared→Prop}
end
section
variable{X:Cx}{pins:List (Addr×Obj)}{σ:St}{H:Hp}{s:Shared}{a:Addr}{y:V}{u:Value}{A:Around}{E:Value→Shared→Prop}
end
end L2
namespace Att
open PySem PySem.W PySem.Calls PyProof.Rows
section
variable{prog:Program}{w:World}{A:Around}{E:Value→Shared→Prop}{s:Shared}{K:Frag}
end
end Att
namespace L2
open PySem PySem.Spec PyProof.Rows
section
variable{P:Program}{w:World}{K:PySem.W.Frag}{mg:Str→Option Value}{base:Heap}
end
section
variable{X:Cx}
end
section
variable{κ:Type} [DecidableEq κ]
theorem wa{p:κ×V}{r:List (κ×V)}{k:κ}(e:p.1=k):e8 (p::r) k=e8 r k:=by
 unfold e8;rw [List.filter_cons,if_neg (by simp [e])]
theorem wL{p:κ×V}{r:List (κ×V)}{k:κ}(e:¬p.1=k):e8 (p::r) k=p::e8 r k:=by
 unfold e8;rw [List.filter_cons,if_pos (by simp [e])]
end
section
variable{prog:Program}{w:World}{κ:Type} [DecidableEq κ]{knd:HeapKind prog w κ}{A:Around}{E:Value→Shared→Prop}{s:Shared}{d a:Addr}{xs:List (κ×Addr×Value)}{k:κ}
theorem oe(d:Addr)(lo:(d==sysModules)=false):MeetsIn prog w (Builtin.«dict.__len__» ⟨[.ref d],[]⟩) (fun _ R s=>∃xs,s.heap.DictOfH knd d xs∧R (.ok (.ret (.int xs.length s.toks))) {s with toks:=s.toks+1}):=
 .of_wp fun A R s ⟨xs,⟨o,es,ep,h1,_,h2,h3,_⟩,h⟩=>by
  show wpAny _ _ (dictSize d>>=fun n=>_) _ _ s
  unfold dictSize;refine zzA (zzA (wpAny_dictEntries h1 h2 (zzG (zzA (wpAny_pendingCount_other lo (wpAny_ret_mkInt ?_))))));rw [Nat.add_zero,size_of_entries h3];exact h
theorem Hk{Q:Value→Shared→Prop}(lo:(d==sysModules)=false)(hm:s.heap.DictOfH knd d xs)(hf:(xs.length:Int)<2^63)(h:Q (.int xs.length (s.toks+1)) {s with toks:=s.toks+1+1}):wpAny (model prog w) A (call (.builtin "len") [.ref d]) Q E s:=by
 refine Calls.call_function_entry kind_len plain_len entry_len (args_len1 _) ?_;unfold Builtin.«len»;refine zzA (m:=oneArg "len" _) (zzG (zzA (m:=callSpecial? (.ref d) (Str.ofString "__len__")) (wpAny_callSpecial?_slot (name:=Str.ofString "__len__") hm.typeIs F.slot_dict_len
  (call_meetsIn F.slot_dict_len hm.typeIs F.entry_dict_len (F.args_dict_len_1 _) (oe (knd:=knd) d lo) ⟨xs,hm,?_⟩))))
 show wpAny _ _ (holding _ _>>=fun z=>_) _ _ {s with toks:=s.toks+1}
 refine zzA (wpAny_holding (zzG (zzA (wpAny_letGo ?_))));show wpAny _ _ (if((xs.length:Nat):Int)<0 then _ else(if((xs.length:Nat):Int)≥2^63 then _ else _)) _ _ _;rw [if_neg (by omega),if_neg (by omega)];exact zzA (wpAny_mkInt (zzG ⟨_,rfl,h⟩))
theorem zG{l:List (κ×Addr×Value)}:∀{j:Nat} {p:Addr×Value},(l.map (·.1)).Nodup→l[j]?=some (k,p)→l.eraseIdx j=l.filter fun x=>decide (x.1≠k):=by
 induction l with
 |nil=>intro j p _ h;simp at h
 |cons x r ih=>
  intro j p nd h;rw [zzF,List.nodup_cons] at nd;cases j with
  |zero=>
   simp only [List.getElem?_cons_zero,Option.some.injEq] at h;subst h;simp only [List.eraseIdx_cons_zero,ne_eq,List.filter_cons,not_true,decide_false,zze,if_false];refine(List.filter_eq_self.mpr fun y hy=>?_).symm;exact zzh fun e=>nd.1 (e▸List.mem_map_of_mem (f:=(·.1)) hy)
  |succ j=>
   simp only [List.getElem?_cons_succ] at h;have gH:¬x.1=k:=fun e=>nd.1 (e▸List.mem_map.mpr ⟨(k,p),zzD h,rfl⟩)
   rw [List.eraseIdx_cons_succ,List.filter_cons,if_pos (by simpa using gH),ih nd.2 h]
theorem ni{α β:Type}(f:α→β):∀(l:List α) (j:Nat),(l.eraseIdx j).map f=(l.map f).eraseIdx j
 |[],_=>by simp
 |x::r,0=>by simp
 |x::r,j+1=>by simp [ni f r j]
theorem rD{p:Addr×Value}{Q:Option DictEntry→Shared→Prop}(hu:knd.room A)(hk:knd.is s.heap k a)(hm:s.heap.DictOfH knd d xs)(hp:atKey xs k=some p)(hz:xs.length≤sizeLine)
 (hQ:∀h' e,e.val=p.2→h'.DictOfH knd d (xs.filter fun x=>decide (x.1≠k))→Heap.SameBut d s.heap h'→Q (some e) {s with heap:=h',toks:=s.toks+knd.draws k}):wpAny (model prog w) A (Builtin.Dict.takeOut d (.ref a)) Q E s:=by
 obtain⟨o,es,ep,h1,hc,h2,h3,his,nd⟩:=hm
 unfold Builtin.Dict.takeOut
 try with_reducible refine wpAny_holding ?_
 refine zzA (knd.pyHash hu hk (zzA (wpAny_dictFind_heap (s:={s with toks:=s.toks+knd.draws k}) hu hk h1 h2 h3 his nd (fun no=>?_) fun j q hj=>?_)))
 ·rw [atKey_none_of_get no] at hp;cases hp
 ·rw [atKey_of_get nd hj] at hp;cases hp;refine zzA (wpAny_dictEntries (s:={s with toks:=s.toks+knd.draws k}) h1 h2 ?_);rw [entry_at h3 j,hj];refine zzA (wpAny_updateDictKeys (hz:=by have e:=size_of_entries h3;omega) (s:={s with toks:=s.toks+knd.draws k}) h1 h2 (zzG (hQ _ _ rfl ⟨_,_,ep+1,Heap.get?_update_self _ h1 (Obj.isFreed_of_dict (Obj.data_mapDictKeys h2 _)),
   hc.mapDictKeys _,Obj.data_mapDictKeys h2 _,?_,fun x hx=>knd.keeps (his x (List.mem_filter.mp hx).1) h1 h2 (Heap.SameBut.update ..),nd.sublist (List.filter_sublist.map _)⟩ (Heap.SameBut.update ..))))
  rw [←zG nd hj,ni,←h3];obtain⟨l⟩:=es
  simp [Array.eraseIdxIfInBounds];split
  ·simp
  ·rename_i hh;rw [List.eraseIdx_of_length_le (by simpa using hh)]
theorem nE(d a:Addr):MeetsIn prog w (Builtin.«dict.pop» ⟨[.ref d,.ref a],[]⟩) (fun A R s=>knd.room A.in1∧∃k xs p,knd.is s.heap k a∧s.heap.DictOfH knd d xs∧xs.length≤sizeLine∧atKey xs k=some p∧
 ∀h',h'.DictOfH knd d (xs.filter fun x=>decide (x.1≠k))→Heap.SameBut d s.heap h'→R (.ok (.ret p.2)) {s with heap:=h',toks:=s.toks+knd.draws k}):=
 .of_wp fun A R s ⟨hu,k,xs,p,hk,hm,hz,hp,h⟩=>by
  obtain⟨o,es,ep,h1,_,h2,h3,_⟩:=id hm
  have ne:es.isEmpty=false:=by
   cases xs with
   |nil=>cases hp
   |cons x r=>
    have:=size_of_entries h3
    rw [zzL] at this;rw [Array.isEmpty_eq_false_iff_exists_mem];exact⟨es[0]'(by omega),Array.getElem_mem _⟩
  unfold Builtin.«dict.pop»;refine zzA ?_;unfold Builtin.Dict.keyAndDefault;refine zzA (wpAny_notOrdered_dict hm.typeIs ?_);show wpAny _ _ (pure (d,Value.ref a,Option.none)) _ _ s;refine zzG ?_;have kp:(keyPart (Value.ref a)).isSome=false:=rfl
  simp only [kp,zze,if_false];refine zzA (wpAny_dictEntries h1 h2 (zzA (zzG ?_)));rw [ne];simp only [zze,if_false];refine zzA (rD hu hk hm hp hz fun h' e ev kQ hs=>?_);simp only [Option.isNone_some,zze,if_false];exact zzA (wpAny_letGo (zzG ⟨e.val,rfl,by rw [ev];exact h h' kQ hs⟩))
theorem oE{o:Obj}{es:Array DictEntry}{ep:Nat}{Q:Value→Shared→Prop}(lo:(d==sysModules)=false)(h1:s.heap.get? d=some o)(hc:o.ExactDict)(h2:o.data=.dict es ep)
 (hQ:Q (.ref s.heap.objs.size) {s with heap:=s.heap.push {cls:=.type "dict_keyiterator",data:=.fields #[.ref d,.int 0 0,.int es.size 0,.int ep 0]}}):wpAny (model prog w) A (pyIter (.ref d)) Q E s:=by
 have T:s.TypeIs (.ref d) "dict":=⟨o,h1,hc.1⟩
 refine wpAny_pyIter_slot T F.slot_dict_iter (wpAny_call_entry F.slot_dict_iter T F.entry_dict_iter ?_ (F.args_dict_iter_1 _));unfold Builtin.«dict.__iter__» Builtin.Dict.dictSlotNone;refine zzA (zzA (wpAny_notOrdered_dict T ?_));show wpAny _ _ (pure (Value.ref d):Sem Value) _ _ s;refine zzG ?_;show wpAny _ _ (Builtin.Dict.showsAll d>>=fun _=>_) _ _ s;unfold Builtin.Dict.showsAll;rw [if_neg (by rw [lo];exact zzf)];refine zzA (zzG (zzA (wpAny_dictEntries h1 h2 (zzA (wpAny_dictEpoch h1 h2 ?_)))));refine zzA (wpAny_newObj_type (zzG ⟨_,rfl,"dict_keyiterator",_,⟨_,zzX _ rfl,rfl⟩,F.slot_dict_keyiterator_next.lookup,?_⟩))
 simpa [rawInt] using hQ
theorem jv{it:Addr}{i ep:Nat}{o:Obj}{es:Array DictEntry}{Q:Option Value→Shared→Prop}(st:s.heap.IsKeyIter it d i es.size ep)(h1:s.heap.get? d=some o)(h2:o.data=.dict es ep)(hi:i<es.size)
 (hQ:∀h',h'.IsKeyIter it d (i+1) es.size ep→Heap.SameBut it s.heap h'→Q (some es[i].key) {s with heap:=h'}):wpAny (model prog w) A (pyNext (.ref it)) Q E s:=by
 obtain⟨oi,g1,g2,g3⟩:=id st
 have own:Builtin.Dict_items.ownsTuple "dict_keyiterator"=false:=by decide
 unfold pyNext;refine zzA (wpAny_attempt (wpAny_callSpecial?_slot (name:=Str.ofString "__next__") st.typeIs F.slot_dict_keyiterator_next (wpAny_call_entry F.slot_dict_keyiterator_next st.typeIs F.entry_dict_keyiterator_next ?_ (F.args_dict_keyiterator_next_1 _))));refine zzA (zzG (zzA (zzA ?_)))
 first|refine zzA (wpAny_typeNameOfWhole_keyiter st.typeIs (zzG (zzA (wpAny_fieldsOf g1 g3 ?_))))|refine zzA (wpAny_typeNameOf_keyiter st.typeIs (zzG (zzA (wpAny_fieldsOf g1 g3 ?_))))
 simp only [own,zze,if_false];show wpAny _ _ (if(Value.ref d==Value.none)=true then _ else _:Sem _) _ _ s;rw [if_neg (show¬((Value.ref d==Value.none)=true) from zzf)];refine zzA (zzG (zzA (wpAny_dictEntries h1 h2 ?_)));rw [if_neg (by simp)];refine zzA (zzG (zzA (wpAny_dictEpoch h1 h2 ?_)));rw [if_neg (by simp)];refine zzG ?_;simp only [show¬((i:Int)<0) from by omega,if_false,Int.toNat_natCast,Array.getElem?_eq_getElem hi];refine zzA ?_
 first|refine zzA (wpAny_typeNameOfWhole_keyiter st.typeIs (zzG (zzA (wpAny_isOneOf_keyiter st.typeIs ?_))))|refine zzA (wpAny_typeNameOf_keyiter st.typeIs (zzG (zzA (wpAny_isOneOf_keyiter st.typeIs ?_))))
 show wpAny _ _ (setField (.ref it) 1 (rawInt ((i:Int)+1))>>=fun _=>_) _ _ s
 have gb:(s.heap.update it (Obj.mapFields (·.setIfInBounds 1 (rawInt ((i:Int)+1))))).IsKeyIter it d (i+1) es.size ep:=
  ⟨_,Heap.get?_update_self _ g1 (Obj.isFreed_of_fields (Obj.data_mapFields g3 _)),(Obj.cls_mapFields ..).trans g2,by rw [Obj.data_mapFields g3];simp [rawInt]⟩
 refine zzA (wpAny_setField g1 g3 (by simp) (zzA (wpAny_holding (zzA (wpAny_isOneOf_keyiter (s:={s with heap:=s.heap.update it (Obj.mapFields (·.setIfInBounds 1 (rawInt ((i:Int)+1))))}) gb.typeIs ?_)))));show wpAny _ _ (pure es[i].key:Sem Value) _ _ _;exact zzG (zzG ⟨_,rfl,zzG (hQ _ gb (Heap.SameBut.update ..))⟩)
theorem se{it:Addr}{i ep:Nat}{o:Obj}{es:Array DictEntry}{Q:Option Value→Shared→Prop}(hh:A.handled=none)(st:s.heap.IsKeyIter it d i es.size ep)(h1:s.heap.get? d=some o)(h2:o.data=.dict es ep)(hi:es.size≤i)
 (hQ:∀h',Heap.ExtBut it s.heap h'→Q none {s with heap:=h'}):wpAny (model prog w) A (pyNext (.ref it)) Q E s:=by
 obtain⟨oi,g1,g2,g3⟩:=id st
 have own:Builtin.Dict_items.ownsTuple "dict_keyiterator"=false:=by decide
 unfold pyNext;refine zzA (wpAny_attempt (wpAny_callSpecial?_slot (name:=Str.ofString "__next__") st.typeIs F.slot_dict_keyiterator_next (wpAny_call_entry F.slot_dict_keyiterator_next st.typeIs F.entry_dict_keyiterator_next ?_ (F.args_dict_keyiterator_next_1 _))));refine zzA (zzG (zzA (zzA ?_)))
 first|refine zzA (wpAny_typeNameOfWhole_keyiter st.typeIs (zzG (zzA (wpAny_fieldsOf g1 g3 ?_))))|refine zzA (wpAny_typeNameOf_keyiter st.typeIs (zzG (zzA (wpAny_fieldsOf g1 g3 ?_))))
 simp only [own,zze,if_false];show wpAny _ _ (if(Value.ref d==Value.none)=true then _ else _:Sem _) _ _ s;rw [if_neg (show¬((Value.ref d==Value.none)=true) from zzf)];refine zzA (zzG (zzA (wpAny_dictEntries h1 h2 ?_)));rw [if_neg (by simp)];refine zzA (zzG (zzA (wpAny_dictEpoch h1 h2 ?_)));rw [if_neg (by simp)];refine zzG ?_;simp only [show¬((i:Int)<0) from by omega,if_false,Int.toNat_natCast,Array.getElem?_eq_none hi];refine zzA ?_
 first|refine zzA (wpAny_typeNameOfWhole_keyiter st.typeIs (zzG ?_))|refine zzA (wpAny_typeNameOf_keyiter st.typeIs (zzG ?_))
 show wpAny _ _ (setField (.ref it) 0 .none>>=fun _=>_) _ _ s
 refine zzA (wpAny_setField g1 g3 (by simp) ?_);show wpAny _ _ (newExc (.type "StopIteration") []>>=fun _=>_) _ _ _
 refine zzA ?_;simp only [newExc,newTuple];refine zzA (wpAny_newObj_type (zzA (m:=firstArgMember _ _) (wpAny_of_eq (a:=Value.none) (by first|rfl|(simp only [firstArgMember];rfl)) (wpAny_newObj_type ?_ (by size_fits)))) (by size_fits));simp only [raiseNew];refine zzA (wpAny_handled ?_);rw [show A.in1.handled=none from hh];refine zzA (zzG (wpAny_throw ?_));refine zzA (wpAny_isInstance (T:="StopIteration") (b:=true) ⟨_,zzX _ rfl,rfl⟩ isSubtype_stop ?_);exact zzG (hQ _ (((Heap.SameBut.update ..).extBut.push _).push _))
end
theorem KT.drop{H:Hp}{aB:List (List Key×V)}{xs:List (List Key×Addr×Value)}(r:KT H aB xs)(k:List Key):KT H (e8 aB k) (xs.filter fun x=>decide (x.1≠k)):=by
 unfold e8
 induction r with
 |nil=>exact .nil
 |@cons p q ps qs h t ih=>
  rw [List.filter_cons,List.filter_cons,←h.1];split
  ·exact .cons h ih
  ·exact ih
theorem KT.len{H:Hp}{aB:List (List Key×V)}{xs:List (List Key×Addr×Value)}(r:KT H aB xs):aB.length=xs.length:=Paired.length r
section
variable{X:Cx}{pins:List (Addr×Obj)}{σ:St}{H:Hp}{s:Shared}{a b:Addr}{aB:List (List Key×V)}{k:List Key}{A:Around}{E:Value→Shared→Prop}
theorem Hg{Q:Value→Shared→Prop}(I:Inv X pins σ H s)(e:Rd H a (.dT aB))(h:∀t s',Inv X pins σ H s'→Q (.int aB.length t) s'):wpAny (model X.prog X.w) A (call (.builtin "len") [.ref a]) Q E s:=by
 obtain⟨z,lo,xs,rel,dd⟩:=lJ I.hok e
 refine Hk lo dd (by rw [←rel.len];rw [sizeLine_eq] at z;omega) ?_;rw [←rel.len];exact h _ _ (I.tok _)
theorem Ek{v:V}{Q:Value→Shared→Prop}(hu:A.units+1<cLine)(I:Inv X pins σ H s)(e:H a=some (.dT aB))(eb:H b=some (.tup (k.map kV)))(l:gh aB k=some v)
 (h:∀w' s',Inv X pins σ (upd H a (.dT (e8 aB k))) s'→RelV v w'→Q w' s'):wpAny (model X.prog X.w) A (call (.builtin "dict.pop") [.ref a,.ref b]) Q E s:=by
 obtain⟨z,lo,xs,rel,dd⟩:=ze I.hok e
 obtain⟨w',hw,gU⟩:=jl.some_of (v:=v) (o:=(atKey xs k).map (·.2)) (by rw [←l];exact rel.val k)
 obtain⟨p,hp,hp2⟩:=zzJ.mp hw
 refine call_meetsIn PySem.F.slot_dict_pop dd.typeIs PySem.F.entry_dict_pop (PySem.F.args_dict_pop_2 _ _) (nE (knd:=tupleKind (bL X.prog X.w)) a b) ⟨tupleKind_room_in1 hu,k,xs,p,gF I.hok eb,dd,by rw [←rel.len];exact z,hp,fun h' AB hs=>?_⟩
 rw [hp2];obtain⟨q,es,ep,hq,h2,h3,h4,_,h5⟩:=AB
 refine h w' _ (f9 I (by rw [e];exact True.intro) hs ⟨q,hq⟩ ⟨zzU (yD aB k) z,lo,_,(rel.drop k).keeps fun c ys ec=>?_,q,es,ep,hq,h2,h3,h4,h5⟩) gU
 rw [af (gu ec e (fun z=>nomatch z))];exact ec
theorem Inv.freeze(I:Inv X pins σ H s)(e:H a=some (.dT aB)):∃o,Inv X pins σ (upd H a (.frz o (.dT aB))) s:=by
 obtain⟨z,lo,xs,rel,o,es,ep,h1,h2,h3,h4,h5⟩:=(show bQ X.prog X.w H s.heap a (.dT aB) from I.hok a _ e)
 refine⟨o,f9 (h':=s.heap) (t':=s.toks) I (by rw [e];exact True.intro) ⟨rfl,fun _ _=>rfl⟩ ⟨o,h1⟩ ⟨h1,z,lo,xs,?_,o,es,ep,h1,h2,h3,h4,h5⟩⟩
 exact KT.keeps (H:=H) rel fun c ys ec=>by rw [af (gu ec e (fun z=>nomatch z))];exact ec
end
noncomputable def Ls(a:Addr)(o:Obj)(aB:List (List Key×V)):It:=
 ⟨fun i H=>H a=some (.frz o (.dT aB))∧i<aB.length,fun i H x H'=>H'=H∧∃b k v,x=.ref b∧aB[i]?=some (k,v)∧H b=some (.tup (k.map kV)),fun i H=>H a=some (.frz o (.dT aB))∧aB.length≤i⟩
theorem fq{X:Cx}{pins:List (Addr×Obj)}{σ:St}{H:Hp}{s:Shared}{a:Addr}{o:Obj}{aB:List (List Key×V)}(I:Inv X pins σ H s)(e:H a=some (.frz o (.dT aB))):
 (a==sysModules)=false∧s.heap.get? a=some o∧o.ExactDict∧∃es ep,o.data=.dict es ep∧es.size=aB.length∧∀(i:Nat) (h:i<es.size),∃b k v,es[i].key=.ref b∧aB[i]?=some (k,v)∧H b=some (.tup (k.map kV)):=by
 obtain⟨h0,z,lo,xs,rel,o',es,ep,h1,h2,h3,h4,h5⟩:=(show bQ X.prog X.w H s.heap a (.frz o (.dT aB)) from I.hok a _ e)
 rw [h0] at h1;cases h1;have hl:es.size=xs.length:=size_of_entries h4
 refine⟨lo,h0,h2,es,ep,h3,hl.trans (KT.len rel).symm,fun i hi=>?_⟩
 have hx:i<xs.length:=by omega
 have e1:es[i]?=(xs[i]?).map (entryOfKey (tupleKind (bL X.prog X.w))):=entry_at h4 i
 rw [zzg hx,Array.getElem?_eq_getElem hi] at e1;have hk:i<aB.length:=by have:=KT.len rel;omega
 have pr:∀{l:List (List Key×V)} {m:List (List Key×Addr×Value)},KT H l m→∀(j:Nat) p q,l[j]?=some p→m[j]?=some q→p.1=q.1∧H q.2.1=some (.tup (p.1.map kV)):=by
  intro l m r
  induction r with
  |nil=>intro j p q h;simp at h
  |cons h t ih=>
   intro j p q h1 h2;cases j with
   |zero=>simp at h1 h2;subst h1 h2;exact⟨h.1,h.2.1⟩
   |succ j=>simp at h1 h2;exact ih j p q h1 h2
 obtain⟨g1,g2⟩:=pr (KT.keeps (H':=H) rel fun _ _ z=>z) i aB[i] xs[i] (zzg hk) (zzg hx)
 refine⟨xs[i].2.1,aB[i].1,aB[i].2,?_,zzg hk,g2⟩;have e2:es[i]=entryOfKey (tupleKind (bL X.prog X.w)) xs[i]:=Option.some.inj e1
 rw [e2]
 rfl
theorem wb{P:Program}{w:World}{K:PySem.W.Frag}{tg:Expr}{a it:Addr}{o:Obj}{es:Array DictEntry}{ep:Nat}{aB:List (List Key×V)}(hd:o.data=.dict es ep)(hl:es.size=aB.length):
 Turn P w K tg (Ls a o aB) [it] it (fun i h=>h.IsKeyIter it a i es.size ep) where
 mem:=by simp
 obj:=fun i h st b hb=>by
  have e:b=it:=by simpa using hb
  subst e;obtain⟨q,e,c,d⟩:=st
  exact⟨q,e,fun v z=>by rw [d] at z;cases z⟩
 keep:=fun i h h' st k=>st.at fun o e=>k it (by simp) o e
 item:=by
  intro X hP hw hK hc i pins s σ H E I hf st hg;subst hP hw hK;obtain⟨g1,g2⟩:=hg
  obtain⟨lo,h0,hx,es',ep',h3,yv,xb⟩:=fq I g1
  rw [hd] at h3;cases h3;obtain⟨f0,f1,f2,f3,f4,f5⟩:=hf it (by simp)
  have hi:i<es.size:=by omega
  refine jv st h0 hd hi fun h' gb sb=>?_
  obtain⟨b,k,v,e1,e2,e3⟩:=xb i hi
  have I1:Inv X pins σ H {s with heap:=h'}:=I.turned (t':=s.toks) (fun b o hb e=>(sb.2 b hb).trans e) f0 f1 f3 f4 f5
  obtain⟨q,e,c,d⟩:=id gb
  refine⟨_,rfl,pR (s:={s with heap:=h'}) e c d (by decide) ⟨.ref b,H,I1,?_,⟨rfl,b,k,v,rfl,e2,e3⟩,gb,fun b hb=>(hf b hb).1⟩⟩
  rw [e1];exact rfl
 done:=by
  intro X hP hw hK hc i pins s σ H E I hf st hg;subst hP hw hK;obtain⟨g1,g2⟩:=hg
  obtain⟨lo,h0,hx,es',ep',h3,yv,xb⟩:=fq I g1
  rw [hd] at h3;cases h3;obtain⟨f0,f1,f2,f3,f4,f5⟩:=hf it (by simp)
  exact se (I.ok.hd hc) st h0 hd (by omega) fun h' eb=>⟨rfl,I.turned (t':=s.toks) (fun b o hb e=>eb b o hb e) f0 f1 f3 f4 f5⟩
 self:=fun _ _ _ _ _ st h=>wpAny_pyIter_keyiter st h
noncomputable def Lm(tl:TE):TI:=fun σ H R=>tl σ H fun x H1=>∃a o aB,x=.ref a∧H1 a=some (.frz o (.dT aB))∧R (Ls a o aB) H1
section
variable{X:Cx}{o e:Expr}{apos bA:Pos}{td ty:TE}
theorem Fx{tg l:Expr}{tl:TE}(hl:PE X l tl):PI X tg l (Lm tl):=by
 intro pins s σ H R I h;refine bJ (hl pins s σ H _ I h) fun v s1 ⟨x,H1,I1,r1,q1⟩=>?_
 obtain⟨a,o,aB,e,hq,q⟩:=q1
 subst e;cases r1;obtain⟨lo,h0,hx,es,ep,h3,yv,xb⟩:=fq I1 hq
 refine oE lo h0 hx h3 ?_;refine⟨s1.heap.objs.size,[s1.heap.objs.size],_,_,H1,rfl,I1.kept (t':=s1.toks) fun b o e=>zzB _ e,wb h3 yv,⟨_,zzX _ rfl,rfl,rfl⟩,fun b hb=>?_,q⟩
 have e:b=s1.heap.objs.size:=by simpa using hb
 subst e;exact I1.fpOk (zzE _) (I1.hok.fresh (zzE _))
noncomputable def J9(td ty:TE):TE:=fun σ H Q=>td σ H fun x H1=>∃a,x=.ref a∧Dt H1 a∧ty σ H1 fun y H2=>∃aB k b v,H2 a=some (.dT aB)∧y=.ref b∧H2 b=some (.tup (k.map kV))∧gh aB k=some v∧Q v (upd H2 a (.dT (e8 aB k)))
theorem BU(hu:X.A.units+1<cLine)(ho:PE X o td)(he:PE X e ty)(m:M1 X o "pop" apos e bA):PE X (.Call (.Attribute o "pop" apos) [e] [] bA) (J9 td ty):=by
 intro pins s σ H Q I h;refine wpAny_Call_method m.base m.few m.line PySem.F.plainAttrs_dict PySem.F.slot_dict_pop PySem.F.type_dict_pop (bJ (ho pins s σ H _ I h) fun u s1 ⟨x,H1,I1,rx,a,ex,d,q1⟩=>?_)
 subst ex;obtain rfl:u=Value.ref a:=rx
 obtain⟨t1,t2,_⟩:=ES I1 d
 refine⟨t1,t2,?_⟩;rw [m.trees];refine Calls.callWith_builtin rfl (Calls.evalArgs_plain (Calls.spliced_cons (bJ (he pins s1 σ H1 _ I1 q1) fun iv s2 ⟨y,H2,I2,ry,aB,k,b,v,ea,ey,eb,l,q2⟩=>Calls.spliced_nil ?_)))
 subst ey;cases(show iv=Value.ref b from ry);exact Ek hu I2 ea eb l fun w' s3 I3 gU=>⟨v,_,I3,gU,q2⟩
end
end L2
namespace L2
open PySem PySem.Spec PyProof.Rows PySem.W
def aM{α:Type}(lt:Nat→Nat→Bool):KasT α→α
 |.ret a=>a
 |.ask i j k=>aM lt (k (lt i j))
def dD{α:Type}(n:Nat)(R:α→Prop):KasT α→Prop
 |.ret a=>R a
 |.ask i j k=>i<n∧j<n∧∀b,dD n R (k b)
theorem dD.bind{α β:Type}{n:Nat}{R:α→Prop}{R':β→Prop}{f:α→KasT β}(hf:∀a,R a→dD n R' (f a)):∀(t:KasT α),dD n R t→dD n R' (t.bind f)
 |.ret a,h=>hf a h
 |.ask i j k,h=>⟨h.1,h.2.1,fun b=>dD.bind hf (k b) (h.2.2 b)⟩
theorem dD.run{α:Type}{n:Nat}{R:α→Prop}(lt:Nat→Nat→Bool):∀(t:KasT α),dD n R t→R (aM lt t)
 |.ret a,h=>h
 |.ask i j k,h=>dD.run lt (k (lt i j)) (h.2.2 _)
theorem yz{α:Type}{n:Nat}{R:α→Prop}{cmp:Nat→Nat→(Bool→Shared→Prop)→Shared→Prop}{lt:Nat→Nat→Bool}{Q:α→Shared→Prop}{s:Shared}
 (hc:∀i j C,i<n→j<n→C (lt i j) s→cmp i j C s):∀(t:KasT α),dD n R t→Q (aM lt t) s→t.kasWp cmp Q s
 |.ret a,_,h=>h
 |.ask i j k,a,h=>hc i j _ a.1 a.2.1 (yz hc (k (lt i j)) (a.2.2 _) h)
abbrev Pm(n:Nat)(p:Array Nat):Prop:=p.toList.Perm (List.range n)
theorem Pm.lt{n:Nat}{p:Array Nat}(h:Pm n p)(h0:0<n)(i:Nat):p.getD i 0<n:=by
 rw [Array.getD_eq_getD_getElem?];cases e:p[i]? with
 |none=>exact h0
 |some x=>
  have:x∈p.toList:=by rw [Array.mem_toList_iff];exact Array.mem_of_getElem? e
  exact List.mem_range.mp (h.mem_iff.mp this)
theorem Pm.rev{n:Nat}{p:Array Nat}(h:Pm n p)(i j:Nat):Pm n (kas_rev p i j):=(mirror_perm p i j _).toList.trans h
theorem Pm.bub{n:Nat}{p:Array Nat}(h:Pm n p)(i j:Nat):Pm n (bubble p i j):=(bubble_perm p i j).toList.trans h
section
variable{n:Nat}(h0:0<n)
include h0
theorem kb{p:Array Nat}(h:Pm n p):∀f m,dD n (fun _=>True) (kas_asc p f m)
 |0,m=>trivial
 |f+1,m=>⟨h.lt h0 _,h.lt h0 _,fun b=>by dsimp only;split;exact trivial;exact kb h f (m+1)⟩
theorem fY:∀f (p:Array Nat) m q,Pm n p→dD n (fun r=>Pm n r.1) (kas_desc f p m q)
 |0,p,m,q,h=>h
 |f+1,p,m,q,h=>⟨h.lt h0 _,h.lt h0 _,fun b=>by
  cases b with
  |true=>
   dsimp only;rw [if_pos rfl];split
   ·exact fY f _ _ _ (h.rev _ _)
   ·exact fY f _ _ _ h
  |false=>
   dsimp only;rw [if_neg (by simp)];exact⟨h.lt h0 _,h.lt h0 _,fun b=>by dsimp only;split;exact h;exact fY f _ _ _ h⟩⟩
theorem mR{p:Array Nat}(h:Pm n p)(m r:Nat):dD n (fun r=>Pm n r.2) (kas_tail3 m r p):=by
 unfold kas_tail3;refine dD.bind (R:=fun _=>True) (fun a _=>?_) _ (kb h0 (h.rev _ _) _ _);exact h.rev 0 m
theorem mG{p:Array Nat}(h:Pm n p)(m r:Nat):dD n (fun r=>Pm n r.2) (kas_descPart m r p):=dD.bind (fun a ha=>by
 split
 ·exact mR h0 (Pm.rev ha _ _) _ _
 ·exact mR h0 ha _ _) _ (fY h0 _ _ _ _ h)
theorem rX{p:Array Nat}(h:Pm n p)(r:Nat):dD n (fun r=>Pm n r.2) (kas_count r p):=dD.bind (fun a _=>by
 split
 ·exact h
 ·split
  ·exact⟨h.lt h0 _,h.lt h0 _,fun b=>by dsimp only;split;exact h;exact mG h0 (h.rev _ _) _ _⟩
  ·exact mG h0 h _ _) _ (kb h0 h _ _)
theorem gN{p:Array Nat}(h:Pm n p)(k:Nat):∀f l r,dD n (fun _=>True) (kas_place p k f l r)
 |0,l,r=>trivial
 |f+1,l,r=>by
  unfold kas_place;split
  ·exact trivial
  ·exact⟨h.lt h0 _,h.lt h0 _,fun b=>by dsimp only;split;exact gN h k f _ _;exact gN h k f _ _⟩
theorem pW:∀f (p:Array Nat) k,Pm n p→dD n (Pm n) (kas_bin f p k)
 |0,p,k,h=>h
 |f+1,p,k,h=>dD.bind (fun l _=>pW f _ _ (h.bub _ _)) _ (gN h0 h k _ _ _)
theorem mB:dD n (Pm n) (kas_sort n):=dD.bind (fun a ha=>by
 split
 ·exact pW h0 _ _ _ ha
 ·exact ha) _ (rX h0 (List.Perm.refl _) n)
end
def iO(n:Nat)(lt:Nat→Nat→Bool):List Nat:=(aM lt (kas_sort n)).toList
theorem fO{n:Nat}(h:0<n)(lt:Nat→Nat→Bool):(iO n lt).Perm (List.range n):=dD.run lt _ (mB h)
section
variable{prog:Program}{w:World}{A:Around}{E:Value→Shared→Prop}{s:Shared}{a:Addr}{vs:List Value}{nss:List (List Int)}
theorem kS{S:Addr}{h:Heap}{c:Nat}{xs ys:Array Value}(e:h.get? S=some (seqObj "list" xs c)):∃c',(h.update S (Obj.mapSeq fun _=>ys)).get? S=some (seqObj "list" ys c'):=⟨_,get?_update_seq e fun _=>ys⟩
theorem cN{α β:Type}{R:α→β→Prop}{l:List α}{m:List β}(r:Paired R l m):∀{i:Nat} {p:α} {q:β},l[i]?=some p→m[i]?=some q→R p q:=by
 induction r with
 |nil=>intro i p q h;simp at h
 |cons h t ih=>
  intro i p q h1 h2;cases i with
  |zero=>simp at h1 h2;subst h1 h2;exact h
  |succ i=>simp at h1 h2;exact ih h1 h2
def iM(h:Heap)(vs:List Value)(nss:List (List Int)):Prop:=Paired (fun v ns=>∃b o aA n,v=.ref b∧h.get? b=some o∧o.cls=.type "tuple"∧o.data=.seq aA n∧Vals (ns.map V.int) aA.toList∧ns≠[]) vs nss
theorem iM.keep{h h':Heap}(t:iM h vs nss)(k:∀b o,h.get? b=some o→o.cls=.type "tuple"→h'.get? b=some o):iM h' vs nss:=
 Paired.mapP t fun _ _ ⟨b,o,aA,n,e1,e2,e3,e4,e5,e6⟩=>⟨b,o,aA,n,e1,k b o e2 e3,e3,e4,e5,e6⟩
theorem j0{b:Bool}{Q:Bool→Shared→Prop}:∀(ns ms:List Int) (xs ys:List Value) (i:Nat),Vals (ns.map V.int) xs→Vals (ms.map V.int) ys→Q (HT.lexLt ns ms) s→KatLex prog w A b (decide (xs.length<ys.length)) Q (xs.zip ys) i s
 |[],[],_,_,i,.nil,.nil,h=>by simpa [KatLex,HT.lexLt_nil_nil] using h
 |[],m::ms,_,_,i,.nil,.cons _ _,h=>by simpa [KatLex,HT.lexLt] using h
 |n::ns,[],_,_,i,.cons _ _,.nil,h=>by simpa [KatLex,HT.lexLt] using h
 |n::ns,m::ms,_,_,i,.cons (a:=_) (b:=u) h1 t1,.cons (b:=v) h2 t2,h=>by
  obtain⟨t,rfl⟩:=h1
  obtain⟨t',rfl⟩:=h2
  rw [HT.lexLt_cons] at h;refine kat_cons (wpAny_eqBool_int ?_)
  by_cases e:n=m
  ·subst e;rw [if_pos rfl] at h;rw [show(n==n)=true from by simp];refine kat_yes ?_;have:=j0 (b:=b) ns ms _ _ (i+1) t1 t2 h
   simp only [zzL,Nat.add_lt_add_iff_right];exact this
  ·rw [if_neg e] at h;rw [show(n==m)=false from by simpa using e];refine kat_no ?_;cases hb:(b&&i==0) with
   |true=>exact oneLt_int h
   |false=>exact kat_one _ _ (PyProof.Rows.lt_int h)
def Hz(prog:Program)(w:World)(A:Around)(E:Value→Shared→Prop)(vs:List Value)(lt:Nat→Nat→Bool)(s:Shared):Prop:=∃κ:SortKind,(∀Q:SortKind→Shared→Prop,Q κ s→wpAny (model prog w) A (keyKind' vs.toArray) Q E s)∧∀i j (C:Bool→Shared→Prop),i<vs.length→j<vs.length→C (lt i j) s→kas_ask prog w A κ vs i j C s
theorem zm(t1:iM s.heap vs nss)(h2:2≤vs.length):Hz prog w A E vs (fun i j=>HT.lexLt (nss.getD i []) (nss.getD j [])) s:=by
 have hlen:vs.length=nss.length:=Paired.length t1
 have kt:∃fs,KatTups s.heap vs fs∧fs.length=vs.length∧∀v∈fs,∃i t,v=.int i t:=by
  clear hlen h2
  induction t1 with
  |nil=>exact⟨[],trivial,rfl,fun v hv=>nomatch hv⟩
  |cons h t ih=>
   obtain⟨fs,i1,i2,i3⟩:=ih
   obtain⟨b,o,aA,n,rfl,g1,g2,g3,g4,g5⟩:=h
   rename_i ns _ _;cases ns with
   |nil=>exact absurd rfl g5
   |cons m ms=>
    rw [zzF] at g4;cases hi:aA.toList with
    |nil=>rw [hi] at g4;cases g4
    |cons f r=>
     rw [hi] at g4;cases g4 with
     |cons r1 r2=>
      obtain⟨tk,rfl⟩:=r1
      have f0:aA[0]?=some (.int m tk):=by rw [←Array.getElem?_toList,hi];rfl
      exact⟨.int m tk::fs,.cons g1 g2 g3 f0 i1,by simp [i2],fun v hv=>by
       rcases List.mem_cons.mp hv with rfl|hv
       ·exact⟨m,tk,rfl⟩
       ·exact i3 v hv⟩
 obtain⟨fs,kt1,kt2,kt3⟩:=kt
 refine⟨_,fun Q q=>kat_kind (T:=.type "int") kt1 (by omega) (fun v hv=>?_) rfl q,fun i j C hi hj hC=>?_⟩
 ·obtain⟨i,t,rfl⟩:=kt3 v hv
  exact .now
 ·unfold kas_ask;obtain⟨b,o,aA,n,e1,g1,g2,g3,g4,_⟩:=cN t1 (zzg hi) (zzg (show i<nss.length by omega))
  obtain⟨b',o',its',n',IP,AQ,DE,g3',g4',_⟩:=cN t1 (zzg hj) (zzg (show j<nss.length by omega))
  have v1:vs.getD i Value.none=.ref b:=by simp [hi,e1]
  have v2:vs.getD j Value.none=.ref b':=by simp [hj,IP]
  have n1:nss.getD i []=nss[i]'(by omega):=by simp [show i<nss.length by omega]
  have n2:nss.getD j []=nss[j]'(by omega):=by simp [show j<nss.length by omega]
  rw [v1,v2];dsimp only at hC;rw [n1,n2] at hC;refine kat_lt g1 g3 AQ g3' ?_;have:=j0 (prog:=prog) (w:=w) (A:=A) (b:=(Value.type "int" !=Value.type "tuple")) _ _ _ _ 0 g4 g4' hC
  simpa using this
theorem w5{n:Nat}{P:PySem.Fin→Shared→Prop}{lt:Nat→Nat→Bool}(ho:s.heap.get? a=some (seqObj "list" vs.toArray n))(h2:2≤vs.length)(yb:vs.length<64)(rd:∀h',(∀b o,b≠a→s.heap.get? b=some o→h'.get? b=some o)→Hz prog w A E vs lt {s with heap:=h'})
 (h:∀h' c,(∀b o,b≠a→s.heap.get? b=some o→h'.get? b=some o)→h'.get? a=some (seqObj "list" ((iO vs.length lt).map fun i=>vs.getD i Value.none).toArray c)→P (.done (.ret .none)) {s with heap:=h'}):
 wpAny (model prog w) A (Builtin.«list.sort» ⟨[.ref a],[]⟩) P E s:=by
 have s1:=Heap.SameBut.update s.heap a (Obj.mapSeq fun _=>(#[]:Array Value))
 obtain⟨e1,ho1⟩:∃e1,(s.heap.update a (Obj.mapSeq fun _=>(#[]:Array Value))).get? a=some (seqObj "list" #[] e1):=⟨_,get?_update_seq ho fun _=>#[]⟩
 generalize hH:(((s.heap.update a (Obj.mapSeq fun _=>(#[]:Array Value))).push (seqObj "tuple" vs.toArray 0)).push (seqObj "list" #[] 0))=H1
 have k1:∀b o,b≠a→s.heap.get? b=some o→H1.get? b=some o:=fun b o hb e=>by rw [←hH];exact zzB _ (zzB _ ((s1.2 b hb).trans e))
 have a1:H1.get? a=some (seqObj "list" #[] e1):=by rw [←hH];exact zzB _ (zzB _ ho1)
 obtain⟨κ,kk,lts⟩:=rd H1 k1
 rw [list_sort_plain];refine zzA (listItems_at ho rfl (zzA (listUpdate_at ho rfl ?_ (by rw [zzC,sizeLine_eq];omega) (Nat.zero_le _))));refine zzA (seqEpoch_at ho1 rfl (zzA (wpAny_newTuple ?_ (by show vs.length≤_;rw [sizeLine_eq];omega))));refine zzA (wpAny_newList ?_ (Nat.zero_le _));refine wpAny_holding ?_;show wpAny (model prog w) A _ P E {s with heap:=((s.heap.update a (Obj.mapSeq fun _=>(#[]:Array Value))).push (seqObj "tuple" vs.toArray 0)).push (seqObj "list" #[] 0)}
 rw [hH];dsimp only;have E6:¬vs.toArray.size<2:=by rw [zzC];omega
 rw [if_neg E6,if_neg E6];refine zzA (kk _ ?_);refine zzA (wpAny_mono (kat_run (Q:=fun gb s'=>∃p:Array Nat,p.size=vs.length∧arrOf gb=p.map (kas_item (vs.toArray.zip vs.toArray))∧failedOf gb=none∧p=aM lt (kas_sort vs.length)∧s'={s with heap:=H1})
  rfl h2 yb (fun p' gb s' a1 a2 a3 a4=>⟨p',a1,a2,a3,a4⟩) (yz lts _ (mB (by omega)) ⟨rfl,rfl⟩)) ?_ fun _ _ e=>e)
 rintro ⟨⟨⟩,gb⟩ s' ⟨p,hp,har,hf,rfl,rfl⟩
 dsimp only;have G7:=kat_snds rfl har
 rw [G7];have s2:=Heap.SameBut.update H1 a (Obj.mapSeq fun _=>List.toArray ((aM lt (kas_sort vs.length)).toList.map fun i=>vs.getD i Value.none))
 obtain⟨c2,hc2⟩:=kS (ys:=List.toArray ((aM lt (kas_sort vs.length)).toList.map fun i=>vs.getD i Value.none)) a1
 refine zzA (seqEpoch_at a1 rfl (zzA (listUpdate_at a1 rfl ?_ (Nat.zero_le _) (by
  show(List.toArray _).size≤_
  rw [zzC,zzl,zzd,hp,sizeLine_eq];omega))))
 rw [hf];simp only [bne_self_eq_false,zze,if_false];exact zzG (h _ c2 (fun b o hb e=>(s2.2 b hb).trans (k1 b o hb e)) hc2)
end
end L2
namespace L2
open PySem PySem.Spec PyProof.Rows
section
variable{prog:Program}{w:World}{A:Around}{E:Value→Shared→Prop}{s:Shared}{a:Addr}{o:Obj}{xs:Array Value}{k:Nat}
end
section
variable{X:Cx}{pins:List (Addr×Obj)}{σ:St}{l d it:Addr}{vs:List V}{A:Around}{E:Value→Shared→Prop}{R:Result→Shared→Prop}
theorem Et{H:Hp}{s:Shared}{a b:Addr}{aB:List (List Key×V)}{k:List Key}{v:V}{r:Value}{Q:Unit→Shared→Prop}(hu:A.units<cLine)(I:Inv X pins σ H s)(e:H a=some (.dT aB))(eb:H b=some (.tup (k.map kV)))(l:aB.length<sizeLine)(rv:RelV v r)
 (h:∀h' t,Heap.SameBut a s.heap h'→Inv X pins σ (upd H a (.dT (putK aB k v))) {s with heap:=h',toks:=t}→Q () {s with heap:=h',toks:=t}):wpAny (model X.prog X.w) A (dictSet a (.ref b) r) Q E s:=by
 obtain⟨z,lo,xs,rel,dd⟩:=ze I.hok e
 have hz:xs.length≤sizeLine:=by rw [←rel.len];exact z
 have hl:(putK aB k v).length≤sizeLine:=by have:=fF aB k v;omega
 refine wpAny_dictSet_heap (hsz:=hz) (knd:=tupleKind (bL X.prog X.w)) hu (gF I.hok eb) dd fun h' AB hs=>h h' _ hs ?_
 obtain⟨q,es,ep,hq,h2,h3,h4,_,h5⟩:=AB
 refine f9 I (by rw [e];exact True.intro) hs ⟨q,hq⟩ ⟨hl,lo,_,(rel.put k eb rv).keeps fun c ys ec=>?_,q,es,ep,hq,h2,h3,h4,h5⟩
 rw [af (gu ec e (fun z=>nomatch z))];exact ec
theorem fj.far{K:PySem.W.Frag}{H H':Hp}{a:Addr}{xs:List V}(h:fj K H a xs)(e:∀b,b≠d→H' b=H b){acc:List (List Key×V)}(hd:H d=some (.dT acc)):fj K H' a xs:=by
 rcases h with(h|⟨o,h⟩)|h
 ·exact .inl (.inl (by rw [e a (gu h hd (fun z=>nomatch z))];exact h))
 ·exact .inl (.inr ⟨o,by rw [e a (gu h hd (fun z=>nomatch z))];exact h⟩)
 ·exact .inr h
end
structure zf(H Hw:Hp)(d:Addr)(o:Obj)(aB:List (List Key×V)):Prop where
 at_:Hw d=some (.frz o (.dT aB))
 dt:H d=some (.dT aB)
 same:∀b u,H b=some u→b≠d→Hw b=some u
 new:∀b u,Hw b=some u→H b=none→∃ob,u=.frz ob bG
section
variable{P:Program}{w:World}{H Hw:Hp}{d:Addr}{o:Obj}{aB:List (List Key×V)}{fs:List Addr}{h h':Heap}
theorem zf.back(z:zf H Hw d o aB)(u:Un fs [] Hw Hw h h')(k:dU P w Hw h)(k':dU P w Hw h'):Un fs [] H H h h'∧dU P w H h'∧h'.get? d=some o:=by
 have fz:∀b ob,Hw b=some (.frz ob bG)→∀o,h.get? b=some o→h'.get? b=some o:=fun b ob e o q=>by
  have h1:h.get? b=some ob:=(k b _ e).1
  have h2:h'.get? b=some ob:=(k' b _ e).1
  rw [h1] at q;cases q;exact h2
 have st:∀c v,Hw c=some v→(∀ob u,v≠.frz ob u)→H c=some v:=fun c v e n=>by
  cases q:H c with
  |none=>obtain⟨ob,rfl⟩:=z.new c v e q;exact absurd rfl (n ob _)
  |some u=>
   by_cases hc:c=d
   ·subst hc;rw [z.at_] at e;cases e;exact absurd rfl (n _ _)
   ·rw [z.same c u q hc] at e;exact e
 refine⟨⟨fun b ob e n hb hx=>?_,fun b ob e n hb hx=>?_,fun b ob e n hx=>n,fun b ob e hx=>u.there b ob e hx,fun _ _ e=>e,fun _ _ _ e=>e,fun b ps e=>⟨#[],by simpa using e⟩⟩,fun b v e=>?_,(k' d _ z.at_).1⟩
 ·cases q:Hw b with
  |none=>exact u.keep b ob e q hb hx
  |some v=>obtain⟨o',rfl⟩:=z.new b v q n;exact fz b o' q ob e
 ·cases q:Hw b with
  |none=>exact u.slot b ob e q hb hx
  |some v=>obtain⟨o',rfl⟩:=z.new b v q n;exact⟨ob.slots,fz b o' q ob e⟩
 ·have go:∀v,bQ P w Hw h' b v→bQ P w H h' b v:=fun v y=>y.stay (fun _ _ _ r=>r) (fun c r=>st c _ r (fun _ _ z=>nomatch z)) fun c xs r=>st c _ r (fun _ _ z=>nomatch z)
  by_cases hb:b=d
  ·subst hb;rw [z.dt] at e;cases e;exact go _ (k' b _ z.at_).2
  ·exact go v (k' b v (z.same b v e hb))
end
structure sW(p y:Str)(params:Arguments)(body:Expr)(scope:Scope):Prop where
 body:∃q1 q2 q3 q4 q5 j,body=.Subscript (.Subscript (.Name y q1) (.Name p q2) q3) (.Constant (.int 0) j q4) q5
 sc:qb [p] [y] scope
 d1:(p==("__debug__":Str))=false
 d2:(p==("__classdict__":Str))=false
 d3:(y==("__debug__":Str))=false
 d4:(y==("__classdict__":Str))=false
section
variable{X:Cx}{pins:List (Addr×Obj)}{σ:St}{H:Hp}{s:Shared}{d f c c' b:Addr}{o oc:Obj}{aB:List (List Key×V)}{kk:Nat}{p y qual:Str}{params:Arguments}{body:Expr}{scope:Scope}{pm eX:Value}{cU:Array Value}{ct:Tok}{k:List Key}{q:Addr}{n:Int}{r:List V}{A:Around}{E:Value→Shared→Prop}
theorem Ap(hA:A=X.A.in1)(L:sW p y params body scope)(hr:dw (kk+1) X.A)(I:Inv X pins σ H s)(hd:H d=some (.dT aB))(ho:s.heap.get? d=some o)
 (dQ:X.env.cells.lookup y=some c) (Kt:X.s₀.heap.objs.size≤c) (P1:s.heap.IsCell c (some (.ref d)))
 (hf:H f=some (.frz (PySem.W.kla_obj "<lambda>" qual params body scope [(y,c)] pm c' eX) bG)) (f6:H c'=some (.frz oc bG)) (rQ:oc.data=.fields cU) (DR:cU[1]?=some (.str qual ct))
 (hb:∀u,bindArgs (PySem.W.kla_fn "<lambda>" qual params body scope [(y,c)] pm (.ref c') eX) ⟨[u],[]⟩=pure ([p].zip [u]))
 (Ko:H b=some (.tup (k.map kV))) (hv:gh aB k=some (.ref q)) (hq:fj X.K H q (.int n::r)):
 wpAny (model X.prog X.w) A (call (.ref f) [.ref b]) (fun u s'=>(∃t,u=.int n t)∧Inv X pins σ H s'∧s'.heap.get? d=some o) E s:=by
 subst hA;obtain⟨q1,q2,q3,q4,q5,j,rfl⟩:=L.body
 obtain⟨ocell,g1,g2⟩:=id P1
 have C0:H c=none:=I.freeC y c dQ
 obtain⟨z0,lo,xs,rel,o',es,ep,h1,h2,h3,h4,h5⟩:=(show bQ X.prog X.w H s.heap d (.dT aB) from I.hok d _ hd)
 rw [ho] at h1;cases h1;have If:Inv X pins σ (upd H d (.frz o (.dT aB))) s:=by
  refine f9 (h':=s.heap) (t':=s.toks) I (by rw [hd];exact True.intro) ⟨rfl,fun _ _=>rfl⟩ ⟨o,ho⟩ ⟨ho,z0,lo,xs,?_,o,es,ep,ho,h2,h3,h4,h5⟩
  exact KT.keeps (H:=H) rel fun c ys ec=>by rw [af (gu ec hd (fun z=>nomatch z))];exact ec
 have P0:c≠d:=fun z=>by rw [z,hd] at C0;cases C0
 have Ol:f≠d:=gu hf hd (fun z=>nomatch z)
 have MV:c'≠d:=gu f6 hd (fun z=>nomatch z)
 have A5:sO [(c,ocell)] (upd H d (.frz o (.dT aB))) (eo X.stack) s.heap:=by
  have lk:∀b o,List.lookup b [(c,ocell)]=some o→b=c∧o=ocell:=fun b o e=>by
   rw [List.lookup_cons] at e;cases xa:b==c with
   |true=>rw [xa] at e;cases e;exact⟨beq_iff_eq.mp xa,rfl⟩
   |false=>rw [xa] at e;cases e
  refine⟨fun b o e=>?_,fun b o e=>?_,fun b o e=>?_⟩
  ·obtain⟨rfl,rfl⟩:=lk b o e;exact g1
  ·obtain⟨rfl,rfl⟩:=lk b o e;rw [af P0];exact C0
  ·obtain⟨rfl,rfl⟩:=lk b o e
   intro My;rcases List.mem_cons.mp (I.stkSub b My) with z|z
   ·exact I.cne y b dQ z
   ·obtain⟨_,o',h4,_⟩:=I.ok.funs.mem z
    exact absurd (zzO h4) (Nat.not_lt.mpr Kt)
 have zc:List.lookup c [(c,ocell)]=some ocell:=by simp
 have Kq:∀x c1,List.lookup x [(y,c)]=some c1→x=y∧c1=c:=fun x c1 e=>by
  rw [List.lookup_cons] at e;cases hx:x==y with
  |true=>rw [hx] at e;cases e;exact⟨beq_iff_eq.mp hx,rfl⟩
  |false=>rw [hx] at e;cases e
 have zb:∀b o,List.lookup b [(c,ocell)]=some o→X.base.get? b=none:=fun b o e=>by
  rw [List.lookup_cons] at e;cases xa:b==c with
  |true=>
   have:=beq_iff_eq.mp xa;subst this
   cases y':X.base.get? b with
   |none=>rfl
   |some o'=>exact absurd (zzO (I.ok.bs b o' y').1) (Nat.not_lt.mpr Kt)
  |false=>rw [xa] at e;cases e
 have Qc:fj X.K (upd H d (.frz o (.dT aB))) q (.int n::r):=fj.far hq (fun b hb=>af hb) hd
 have OB:upd H d (.frz o (.dT aB)) b=some (.tup (k.map kV)):=by rw [af (gu Ko hd (fun z=>nomatch z))];exact Ko
 have wd:zf H (withZ [(c,ocell)] (upd H d (.frz o (.dT aB)))) d o aB:=by
  have nz:∀b u,H b=some u→List.lookup b [(c,ocell)]=none:=fun b u e=>by
   rw [List.lookup_cons];cases xa:b==c with
   |true=>have:=beq_iff_eq.mp xa;subst this;rw [C0] at e;cases e
   |false=>rfl
  refine⟨by rw [aj (nz d _ hd),au],hd,fun b u e hb=>by rw [aj (nz b u e),af hb];exact e,fun b u e n=>?_⟩
  cases hz:List.lookup b [(c,ocell)] with
  |some ob=>rw [bh hz] at e;cases e;exact⟨_,rfl⟩
  |none=>
   rw [aj hz] at e;have OX:b≠d:=fun z=>by rw [z,hd] at n;cases n
   rw [af OX,n] at e;cases e
 refine wpAny_call (codeAny_mono (lam_run (k:=kk) (E:=fun _ _ _=>False) (Q:=fun v H'=>v=.int n∧H'=withZ [(c,ocell)] (upd H d (.frz o (.dT aB)))) (Z:=[(c,ocell)]) (ws:=[.ref d]) (vs:=[.ref b]) (us:=[.ref b])
  (t:=Hu (Iw X.K) (DB (y9 1) (y9 0)) (tC (.int 0))) L.sc hr.in1 If.env0.in1 A5 zb ?fo ?co rQ DR (hb _) (.cons rfl .nil) rfl rfl ?HE ?inj ?cz ?cells ?ht ?hq) fun rr s' Hy=>?_)
 case fo=>
  have z:upd H d (.frz o (.dT aB)) f=H f:=af Ol
  exact(If.hok f _ (z.trans hf)).1
 case co=>
  have z:upd H d (.frz o (.dT aB)) c'=some (.frz oc bG):=by rw [af MV];exact f6
  exact(If.hok c' _ z).1
 case HE=>intro y' AJ;exact⟨c,by rw [zzi.mp AJ];simp⟩
 case inj=>intro x y' c1 e1 e2;rw [(Kq x c1 e1).1,(Kq y' c1 e2).1]
 case cz=>intro x c1 e;obtain⟨rfl,rfl⟩:=Kq x c1 e;exact⟨ocell,_,zc,g2⟩
 case cells=>
  intro i y' c1 e1 e2 v e3;obtain⟨rfl,rfl⟩:=Kq y' c1 e2
  cases i with
  |zero=>cases e3;exact⟨.ref d,rfl,ocell,g1,g2⟩
  |succ i=>cases e3
 case ht=>
  refine D3 yx (BG ?_ (d9 (i:=1) rfl (.inr (.inr (L.sc.fre y (by simp)))) L.d3 L.d4) (d9 (i:=0) rfl (.inl (L.sc.par p (by simp))) L.d1 L.d2) fun _ _=>rfl) sQ fun _ _=>rfl
  have:=hr.un
  show X.A.units+1+3+1<cLine
  omega
 case hq=>
  refine⟨_,rfl,_,rfl,d,.ref q,rfl,?_,?_⟩
  ·exact .inr ⟨aB,k,b,.inr ⟨o,au⟩,rfl,OB,hv.symm⟩
  ·exact⟨q,.int n::r,0,.int n,rfl,rfl,Qc,by simp [rk,Fn],fun _=>⟨rfl,rfl⟩⟩
 ·cases rr with
  |error e=>
   obtain⟨a,C,t,vs,H',B,e1,F⟩:=Hy
   exact(F.ends).elim
  |ok fl=>
   cases fl with
   |ret u=>
    obtain⟨v,H',os,bare,un,hok,rv,rfl,rfl⟩:=Hy
    obtain⟨t,rfl⟩:=rv
    obtain⟨u1,k1,K3⟩:=wd.back un (A5.hok If.hok) hok
    obtain⟨hh,g,dr,tk,os'⟩:=s'
    obtain rfl:os'=s.os:=os
    exact⟨⟨t,rfl⟩,I.call (h':=hh) (g':=g) (d':=dr) (t':=tk) (ch:=[]) u1 k1 bare (fun b z=>absurd z (by simp)),K3⟩
   |_=>exact Hy.elim
end
structure KM(X:Cx)(σ:St)(H:Hp)(kk:Nat)(d f:Addr)(aB:List (List Key×V))(cf:Nat→Int):Prop where
 room:dw (kk+1) X.A
 dt:H d=some (.dT aB)
 lam:∃(p y:Str) (params:Arguments) (body:Expr) (scope:Scope) (qual:Str) (c c':Addr) (oc:Obj) (cU:Array Value) (ct:Tok) (pm eX:Value) (iy:Nat),sW p y params body scope∧X.env.cells.lookup y=some c∧X.s₀.heap.objs.size≤c∧H f=some (.frz (PySem.W.kla_obj "<lambda>" qual params body scope [(y,c)] pm c' eX) bG)∧
  H c'=some (.frz oc bG)∧oc.data=.fields cU∧cU[1]?=some (.str qual ct)∧(∀u,bindArgs (PySem.W.kla_fn "<lambda>" qual params body scope [(y,c)] pm (.ref c') eX) ⟨[u],[]⟩=pure ([p].zip [u]))∧
  X.N[iy]?=some y∧σ[iy]?=some (some (V.ref d))∧X.env.scope.names.lookup y=some .cell
 cost:∀(i:Nat) k v,aB[i]?=some (k,v)→∃q r,v=V.ref q∧fj X.K H q (.int (cf i)::r)
theorem Bk{aB:List (List Key×V)}:∀{i:Nat} {k:List Key} {v:V},(aB.map (·.1)).Nodup→aB[i]?=some (k,v)→gh aB k=some v:=by
 induction aB with
 |nil=>intro i k v _ h;simp at h
 |cons x r ih=>
  intro i k v nd h;rw [zzF,List.nodup_cons] at nd;cases i with
  |zero=>simp at h;subst h;exact fB rfl
  |succ i=>
   simp at h;rw [fu fun e=>nd.1 (e▸List.mem_map.mpr ⟨(k,v),zzD h,rfl⟩)]
   exact ih nd.2 h
section
variable{X:Cx}{pins:List (Addr×Obj)}{σ:St}{H:Hp}{s:Shared}{d f it S:Addr}{o:Obj}{es:Array DictEntry}{ep:Nat}{aB:List (List Key×V)}{kk:Nat}{cf:Nat→Int}{R:Result→Shared→Prop}
theorem uY(I:Inv X pins σ H s)(e:H d=some (.dT aB)):(d==sysModules)=false∧(aB.map (·.1)).Nodup∧∃o es ep,s.heap.get? d=some o∧o.ExactDict∧o.data=.dict es ep∧es.size=aB.length∧∀(i:Nat) (h:i<es.size),∃b k v,es[i].key=.ref b∧aB[i]?=some (k,v)∧H b=some (.tup (k.map kV)):=by
 obtain⟨o,J⟩:=I.freeze e
 obtain⟨lo,h0,hx,es,ep,h3,hl,hk⟩:=fq J au
 obtain⟨z,_,xs,rel,_,_,_,_,_,_,_,h5⟩:=(show bQ X.prog X.w H s.heap d (.dT aB) from I.hok d _ e)
 refine⟨lo,?_,o,es,ep,h0,hx,h3,hl,fun i hi=>?_⟩
 ·have keys:∀{l:List (List Key×V)} {m:List (List Key×Addr×Value)},KT H l m→l.map (·.1)=m.map (·.1):=by
   intro l m r
   induction r with
   |nil=>rfl
   |cons h t ih=>rw [zzF,zzF,h.1,ih]
  rw [keys (KT.keeps (H':=H) rel fun _ _ z=>z)];exact h5
 ·obtain⟨b,k,v,e1,e2,e3⟩:=hk i hi
  refine⟨b,k,v,e1,e2,?_⟩
  by_cases hb:b=d
  ·rw [hb,au] at e3;cases e3
  ·rw [af hb] at e3;exact e3
theorem fc.pin{b:Addr}{ob:Obj}(h:fc X pins H b)(e:s.heap.get? b=some ob)(n:∀v,ob.data≠.cell v):s.heap.get? b=some ob∧H b=none∧b≠X.env.locals∧b∉X.fs∧∀v,ob.data≠.cell v:=⟨e,h.1,h.2.1,h.2.2.1,n⟩
theorem ye(M:KM X σ H kk d f aB cf)(I:Inv X pins σ H s)(fi:fc X pins H it)(fS:fc X pins H S)(ho:s.heap.get? d=some o){oi oS:Obj}(hi:s.heap.get? it=some oi)(ci:∀v,oi.data≠.cell v)(hS:s.heap.get? S=some oS)(cS:∀v,oS.data≠.cell v)
 (nd:(aB.map (·.1)).Nodup) {i:Nat} {k:List Key} {v:V} {b:Addr} (hk:aB[i]?=some (k,v)) (hb:H b=some (.tup (k.map kV))) {E:Value→Shared→Prop} {Q:Value→Shared→Prop}
 (h:∀t s',Inv X pins σ H s'→s'.heap.get? d=some o→s'.heap.get? it=some oi→s'.heap.get? S=some oS→Q (.int (cf i) t) s'):wpAny (model X.prog X.w) X.A.in1 (call (.ref f) [.ref b]) Q E s:=by
 obtain⟨p,y,params,body,scope,qual,c,c',oc,cU,ct,pm,eX,iy,L,l1,l2,l3,l4,l5,l6,l7,l8,l9,l10⟩:=M.lam
 obtain⟨q,r,rfl,hq⟩:=M.cost i k v hk
 have I1:Inv X ((it,oi)::(S,oS)::pins) σ H s:=by
  refine I.pins_of fun p hp=>?_
  rcases List.mem_cons.mp hp with rfl|hp
  ·exact fi.pin hi ci
  ·rcases List.mem_cons.mp hp with rfl|hp
   ·exact fS.pin hS cS
   ·exact I.pin p (zzR _ hp)
 have cell:s.heap.IsCell c (some (.ref d)):=by
  obtain⟨m,_,hloc⟩:=I.loc
  obtain⟨u,ru,lk⟩:=hloc iy y (.ref d) l8 l9 (.inr (.inl l10))
  cases(show u=Value.ref d from ru);rcases lk with⟨z,_⟩|⟨_,c2,hc2,z⟩
  ·have z2:X.env.scope.names.lookup y=some .local:=z
   rw [l10] at z2;cases z2
  ·rw [l1] at hc2;cases hc2;exact z
 refine wpAny_mono (Ap (kk:=kk) rfl L M.room I1 M.dt ho l1 l2 cell l3 l4 l5 l6 l7 hb (Bk nd hk) hq) (fun u s' hu=>?_) fun _ _ z=>z
 obtain⟨⟨t,rfl⟩,J,hd⟩:=hu
 refine h t s' (J.pins_of fun p hp=>J.pin p (zzR _ (.tail _ (.tail _ hp)))) hd (J.pin (it,oi) (zzR _ (.head _))).1 (J.pin (S,oS) (zzR _ (.tail _ (.head _)))).1
theorem tG{h:Heap}{c:Nat}{xs ys:Array Value}(e:h.get? S=some (seqObj "list" xs c)):∃c',(h.update S (Obj.mapSeq fun _=>ys)).get? S=some (seqObj "list" ys c'):=⟨_,get?_update_seq e fun _=>ys⟩
theorem kT{xs:Array Value}{c:Nat}:∀v,(seqObj "list" xs c).data≠.cell v:=fun v z=>nomatch z
theorem xM(M:KM X σ H kk d f aB cf)(hh:X.A.handled=none)(hd:o.data=.dict es ep)(hl:es.size=aB.length)(xb:∀(i:Nat) (h:i<es.size),∃b k v,es[i].key=.ref b∧aB[i]?=some (k,v)∧H b=some (.tup (k.map kV)))(nd:(aB.map (·.1)).Nodup)
 (fi:fc X pins H it) (fS:fc X pins H S) (nS:S≠it) (hR:∀(i:Nat) (h:i<es.size) s',(∀j,j<es.size→cf i≤cf j∧(j<i→cf i<cf j))→Inv X pins σ H s'→R (.ok (.ret es[i].key)) s'):
 ∀(r j i:Nat) (s:Shared) (t:Tok) (c:Nat) (hi:i<es.size),es.size-(j+1)=r→j+1≤es.size→Inv X pins σ H s→s.heap.get? d=some o→s.heap.IsKeyIter it d (j+1) es.size ep→s.heap.get? S=some (seqObj "list" #[es[i].key,.int (cf i) t] c)→i≤j→(∀j',j'≤j→cf i≤cf j'∧(j'<i→cf i<cf j'))→
  codeAny (model X.prog X.w) X.A (.builtin "min.loop" ⟨[.ref it,.ref f,.ref S],[]⟩) R s:=by
 have name:(toString "min"++toString ".loop":String)="min.loop":=by decide
 have LO:S≠d:=fun z=>by have:=fS.1;rw [z,M.dt] at this;cases this
 have MA:it≠d:=fun z=>by have:=fi.1;rw [z,M.dt] at this;cases this
 intro r
 induction r with
 |zero=>
  intro j i s t c hi hr hj I ho st hS w8 best;refine codeAny_builtin PySem.F.entry_min_loop ?_;rw [Around.under_plainId PySem.F.plain_min_loop _];show wpAny _ X.A.in1 (seqItems? (.ref S)>>=fun z=>_) _ _ _
  refine zzA (wpAny_seqItems hS rfl ?_);show wpAny _ X.A.in1 (tryCatch (pyNext (.ref it)) _>>=fun z=>_) _ _ _
  refine zzA (wpAny_tryCatch (se hh st ho hd (by omega) fun h' eb=>?_))
  have wK:=eb S _ nS hS
  have I1:=I.turned (h':=h') (t':=s.toks) (fun b o hb e=>eb b o hb e) fi.1 fi.2.1 fi.2.2.2.1 fi.2.2.2.2.1 fi.2.2.2.2.2
  show wpAny _ X.A.in1 (updateSeq S (fun _=>#[])>>=fun z=>_) _ _ _
  refine zzA (wpAny_updateSeq wK rfl (zzA (wpAny_letGo (zzG ?_))));have s1:=Heap.SameBut.update h' S (Obj.mapSeq fun _=>(#[]:Array Value))
  exact hR i hi _ (fun j' BB=>best j' (by omega)) (I1.turned (t':=s.toks) (fun b o hb e=>(s1.2 b hb).trans e) fS.1 fS.2.1 fS.2.2.2.1 fS.2.2.2.2.1 fS.2.2.2.2.2)
 |succ r ih=>
  intro j i s t c hi hr hj I ho st hS w8 best;have bR:j+1<es.size:=by omega
  refine codeAny_builtin PySem.F.entry_min_loop ?_;rw [Around.under_plainId PySem.F.plain_min_loop _];show wpAny _ X.A.in1 (seqItems? (.ref S)>>=fun z=>_) _ _ _
  refine zzA (wpAny_seqItems hS rfl ?_);show wpAny _ X.A.in1 (tryCatch (pyNext (.ref it)) _>>=fun z=>_) _ _ _
  refine zzA (wpAny_tryCatch (jv st ho hd bR fun h' gb sb=>?_));have wK:=(sb.2 S nS).trans hS
  have iD:=(sb.2 d (Ne.symm MA)).trans ho
  have I1:=I.turned (h':=h') (t':=s.toks) (fun b o hb e=>(sb.2 b hb).trans e) fi.1 fi.2.1 fi.2.2.2.1 fi.2.2.2.2.1 fi.2.2.2.2.2
  obtain⟨oi,gi,gc,gd⟩:=id gb
  obtain⟨b,k,v,e1,e2,e3⟩:=xb (j+1) bR
  rw [e1];show wpAny _ X.A.in1 (tryCatch (holding [Value.ref b] (call (.ref f) [Value.ref b])) _>>=fun z=>_) _ _ _
  refine zzA (wpAny_tryCatch (wpAny_holding (ye M I1 fi fS iD gi (fun v z=>by rw [gd] at z;cases z) wK kT nd e2 e3 fun t2 s2 I2 EB Ez HL=>?_)))
  have Lp:s2.heap.IsKeyIter it d (j+1+1) es.size ep:=⟨oi,Ez,gc,gd⟩
  show wpAny _ X.A.in1 (tryCatch (holding [Value.ref b,.int (cf (j+1)) t2] (richCompare .Lt (.int (cf (j+1)) t2) (.int (cf i) t)>>=fun z=>_)) _>>=fun z=>_) _ _ _
  refine zzA (wpAny_tryCatch (wpAny_holding (zzA (CmpOf.ints_lt (prog:=X.prog) (w:=X.w) (A:=X.A.in1) (P:=fun i v=>∃t,v=.int (cf i) t) cf (fun i v h=>h) (j+1) i _ _ _ _ _ ⟨t2,rfl⟩ ⟨t,rfl⟩ ?_))))
  refine zzA (wpAny_holding (wpAny_truthy_bool (zzA (wpAny_letGo (zzG ?_)))))
  by_cases jg:cf (j+1)<cf i
  ·obtain⟨c2,hc2⟩:=tG (ys:=#[Value.ref b,.int (cf (j+1)) t2]) HL
   have s1:=Heap.SameBut.update s2.heap S (Obj.mapSeq fun _=>#[Value.ref b,.int (cf (j+1)) t2])
   simp only [jg,decide_true,if_true];refine zzA (wpAny_updateSeq HL rfl (zzA (wpAny_letGo ?_)));rw [name];rw [←e1] at hc2 s1⊢;refine zzG ⟨plainId_quiet PySem.F.plain_min_loop _,ih (j+1) (j+1) _ t2 c2 bR (by omega) bR (I2.turned (t':=s2.toks) (fun b o hb e=>(s1.2 b hb).trans e) fS.1 fS.2.1 fS.2.2.2.1 fS.2.2.2.2.1 fS.2.2.2.2.2) ?_ ?_ ?_ (zzE _) fun j' BB=>?_⟩
   ·exact(s1.2 d (Ne.symm LO)).trans EB
   ·exact⟨oi,(s1.2 it (Ne.symm nS)).trans Ez,gc,gd⟩
   ·exact hc2
   ·by_cases e:j'=j+1
    ·subst e;exact⟨by omega,fun _=>by omega⟩
    ·have:=best j' (by omega)
     exact⟨by omega,fun _=>by omega⟩
  ·simp only [jg,decide_false,zze,if_false];refine zzA (wpAny_letGo ?_);rw [name];refine zzG ⟨plainId_quiet PySem.F.plain_min_loop _,ih (j+1) i _ t c hi (by omega) bR I2 EB Lp HL (by omega) fun j' BB=>?_⟩
   by_cases e:j'=j+1
   ·subst e;exact⟨by omega,fun _=>by omega⟩
   ·exact best j' (by omega)
theorem wN(M:KM X σ H kk d f aB cf)(gH:0<aB.length)(I:Inv X pins σ H s){Q:VK}
 (q:∀i k v b,aB[i]?=some (k,v)→H b=some (.tup (k.map kV))→(∀j,j<aB.length→cf i≤cf j∧(j<i→cf i<cf j))→Q (.ref b) H):wpAny (model X.prog X.w) X.A (call (.builtin "min") [.ref d] [(Str.ofString "key",.ref f)]) (EP X pins σ Q) X.xe s:=by
 have name:(toString "min"++toString ".loop":String)="min.loop":=by decide
 have hh:X.A.handled=none:=M.room.hd
 obtain⟨lo,nd,o,es,ep,ho,hx,hd,hl,xb⟩:=uY I M.dt
 have fin:∀(i:Nat) (h:i<es.size) s',(∀j,j<es.size→cf i≤cf j∧(j<i→cf i<cf j))→Inv X pins σ H s'→EP X pins σ Q es[i].key s':=fun i h s' b J=>by
  obtain⟨a,k,v,e1,e2,e3⟩:=xb i h
  rw [e1];exact⟨.ref a,H,J,rfl,q i k v a e2 e3 fun j hj=>b j (by omega)⟩
 refine kmk_tree PySem.F.kind_min PySem.F.plain_min PySem.F.entry_min (kmk_min_key _ _) ?_;show wpAny _ X.A.in1 (Builtin.Builtins.bindParams "min" ["key","default"] 0 ⟨[],[(Str.ofString "key",.ref f)]⟩>>=fun z=>_) _ _ s
 refine zzA (wpAny_of_eq (show Builtin.Builtins.bindParams "min" ["key","default"] 0 ⟨[],[(Str.ofString "key",.ref f)]⟩=pure [some (.ref f),none] from rfl) (zzA (zzG ?_)));refine zzA (oE lo ho hx hd (zzA (wpAny_newList ?_ (Nat.zero_le _))));rw [name];generalize hit:s.heap.objs.size=it
 generalize hSS:(s.heap.push {cls:=.type "dict_keyiterator",data:=.fields #[.ref d,.int 0 0,.int es.size 0,.int ep 0]}).objs.size=S
 have eS:S=it+1:=by rw [←hSS,←hit];exact size_push' ..
 have nS:S≠it:=by omega
 have hH:s.heap.objs.size≤S:=by omega
 have fi:fc X pins H it:=by rw [←hit];exact I.fpOk (zzE _) (I.hok.fresh (zzE _))
 have fS:fc X pins H S:=I.fpOk hH (I.hok.fresh hH)
 have keep:∀b ob,s.heap.get? b=some ob→((s.heap.push {cls:=.type "dict_keyiterator",data:=.fields #[.ref d,.int 0 0,.int es.size 0,.int ep 0]}).push (seqObj "list" #[] 0)).get? b=some ob:=fun b ob e=>zzB _ (zzB _ e)
 have I1:=I.kept (t':=s.toks) keep
 have gI:((s.heap.push {cls:=.type "dict_keyiterator",data:=.fields #[.ref d,.int 0 0,.int es.size 0,.int ep 0]}).push (seqObj "list" #[] 0)).get? it=some {cls:=.type "dict_keyiterator",data:=.fields #[.ref d,.int 0 0,.int es.size 0,.int ep 0]}:=by
  rw [←hit];exact zzB _ (zzX _ rfl)
 have gS:((s.heap.push {cls:=.type "dict_keyiterator",data:=.fields #[.ref d,.int 0 0,.int es.size 0,.int ep 0]}).push (seqObj "list" #[] 0)).get? S=some (seqObj "list" #[] 0):=by
  rw [←hSS];exact zzX _ rfl
 have LO:S≠d:=fun z=>by have:=fS.1;rw [z,M.dt] at this;cases this
 have MA:it≠d:=fun z=>by have:=fi.1;rw [z,M.dt] at this;cases this
 refine zzG ⟨plainId_quiet PySem.F.plain_min_loop _,codeAny_builtin PySem.F.entry_min_loop ?_⟩;rw [Around.under_plainId PySem.F.plain_min_loop _];show wpAny _ X.A.in1 (seqItems? (.ref S)>>=fun z=>_) _ _ _
 refine zzA (wpAny_seqItems gS rfl ?_);show wpAny _ X.A.in1 (tryCatch (pyNext (.ref it)) _>>=fun z=>_) _ _ _
 have h0:0<es.size:=by omega
 refine zzA (wpAny_tryCatch (jv (i:=0) ⟨_,gI,rfl,rfl⟩ (keep _ _ ho) hd h0 fun h' gb sb=>?_))
 have wK:=(sb.2 S nS).trans gS
 have iD:=(sb.2 d (Ne.symm MA)).trans (keep _ _ ho)
 have I2:=I1.turned (h':=h') (t':=s.toks) (fun b o hb e=>(sb.2 b hb).trans e) fi.1 fi.2.1 fi.2.2.2.1 fi.2.2.2.2.1 fi.2.2.2.2.2
 obtain⟨oi,gi,gc,gd⟩:=id gb
 obtain⟨b,k,v,e1,e2,e3⟩:=xb 0 h0
 rw [e1];show wpAny _ X.A.in1 (tryCatch (holding [Value.ref b] (call (.ref f) [Value.ref b])) _>>=fun z=>_) _ _ _
 refine zzA (wpAny_tryCatch (wpAny_holding (ye M I2 fi fS iD gi (fun v z=>by rw [gd] at z;cases z) wK kT nd e2 e3 fun t2 s2 I3 EB Ez HL=>?_)))
 obtain⟨c2,hc2⟩:=tG (ys:=#[Value.ref b,.int (cf 0) t2]) HL
 have s1:=Heap.SameBut.update s2.heap S (Obj.mapSeq fun _=>#[Value.ref b,.int (cf 0) t2])
 show wpAny _ X.A.in1 (updateSeq S (fun _=>#[Value.ref b,.int (cf 0) t2])>>=fun z=>_) _ _ _
 refine zzA (wpAny_updateSeq HL rfl ?_);rw [name];rw [←e1] at hc2 s1⊢;refine zzG ⟨plainId_quiet PySem.F.plain_min_loop _,xM M hh hd hl xb nd fi fS nS fin _ 0 0 _ t2 c2 h0 rfl h0 (I3.turned (t':=s2.toks) (fun b o hb e=>(s1.2 b hb).trans e) fS.1 fS.2.1 fS.2.2.2.1 fS.2.2.2.2.1 fS.2.2.2.2.2) ((s1.2 d (Ne.symm LO)).trans EB) ⟨oi,(s1.2 it (Ne.symm nS)).trans Ez,gc,gd⟩ hc2 (zzE _) fun j' BB=>?_⟩
 have e:j'=0:=by omega
 subst e;exact⟨by omega,fun h=>absurd h (Nat.lt_irrefl _)⟩
end
end L2
namespace L2
open PySem PySem.Spec PyProof.Rows PySem.W
noncomputable def gR{α:Type}(dflt:α)(l:List α)(nss:List (List Int)):List α:=if l.length<2 then l else(iO l.length fun i j=>HT.lexLt (nss.getD i []) (nss.getD j [])).map fun i=>l.getD i dflt
section
variable{prog:Program}{w:World}{A:Around}{E:Value→Shared→Prop}{s:Shared}{a:Addr}{vs:List Value}{nss:List (List Int)}
theorem yM{n:Nat}{P:PySem.Fin→Shared→Prop}(ho:s.heap.get? a=some (seqObj "list" vs.toArray n))(h2:vs.length<2)
 (h:∀h' c,(∀b o,b≠a→s.heap.get? b=some o→h'.get? b=some o)→h'.get? a=some (seqObj "list" vs.toArray c)→P (.done (.ret .none)) {s with heap:=h'}):wpAny (model prog w) A (Builtin.«list.sort» ⟨[.ref a],[]⟩) P E s:=by
 have s1:=Heap.SameBut.update s.heap a (Obj.mapSeq fun _=>(#[]:Array Value))
 obtain⟨e1,ho1⟩:=kS (ys:=(#[]:Array Value)) ho
 generalize hH:(((s.heap.update a (Obj.mapSeq fun _=>(#[]:Array Value))).push (seqObj "tuple" vs.toArray 0)).push (seqObj "list" #[] 0))=H1
 have k1:∀b o,b≠a→s.heap.get? b=some o→H1.get? b=some o:=fun b o hb e=>by rw [←hH];exact zzB _ (zzB _ ((s1.2 b hb).trans e))
 have a1:H1.get? a=some (seqObj "list" #[] e1):=by rw [←hH];exact zzB _ (zzB _ ho1)
 rw [list_sort_plain];refine zzA (listItems_at ho rfl (zzA (listUpdate_at ho rfl ?_ (by rw [zzC,sizeLine_eq];omega) (Nat.zero_le _))));refine zzA (seqEpoch_at ho1 rfl (zzA (wpAny_newTuple ?_ (by show vs.length≤_;rw [sizeLine_eq];omega))));refine zzA (wpAny_newList ?_ (Nat.zero_le _));refine wpAny_holding ?_;show wpAny (model prog w) A _ P E {s with heap:=((s.heap.update a (Obj.mapSeq fun _=>(#[]:Array Value))).push (seqObj "tuple" vs.toArray 0)).push (seqObj "list" #[] 0)}
 rw [hH];dsimp only;have E6:vs.toArray.size<2:=by rw [zzC];omega
 rw [if_pos E6,if_pos E6];refine zzA (zzG (zzA ?_));show wpAny (model prog w) A (pure ((),SortSt.mk' general' (vs.toArray.zip vs.toArray) #[] 7 none)) _ E _;refine zzG ?_;dsimp only;have G7:(arrOf (SortSt.mk' general' (vs.toArray.zip vs.toArray) #[] 7 none)).map (·.2)=vs.toArray:=by
  show(vs.toArray.zip vs.toArray).map (·.2)=vs.toArray
  apply Array.toList_inj.mp
  simp only [Array.toList_map,Array.toList_zip];exact List.map_snd_zip (zzE _)
 rw [G7];have s2:=Heap.SameBut.update H1 a (Obj.mapSeq fun _=>vs.toArray)
 obtain⟨c2,hc2⟩:=kS (ys:=vs.toArray) a1
 refine zzA (seqEpoch_at a1 rfl (zzA (listUpdate_at a1 rfl ?_ (Nat.zero_le _) (by rw [zzC,sizeLine_eq];omega))));simp only [bne_self_eq_false,zze,if_false];exact zzG (h _ c2 (fun b o hb e=>(s2.2 b hb).trans (k1 b o hb e)) hc2)
theorem yh{n:Nat}{P:PySem.Fin→Shared→Prop}(ho:s.heap.get? a=some (seqObj "list" vs.toArray n))(yb:vs.length<64)(rd:2≤vs.length→∀h',(∀b o,b≠a→s.heap.get? b=some o→h'.get? b=some o)→Hz prog w A E vs (fun i j=>HT.lexLt (nss.getD i []) (nss.getD j [])) {s with heap:=h'})
 (h:∀h' c,(∀b o,b≠a→s.heap.get? b=some o→h'.get? b=some o)→h'.get? a=some (seqObj "list" (gR Value.none vs nss).toArray c)→P (.done (.ret .none)) {s with heap:=h'}):wpAny (model prog w) A (Builtin.«list.sort» ⟨[.ref a],[]⟩) P E s:=by
 by_cases h2:vs.length<2
 ·exact yM ho h2 fun h' c k e=>h h' c k (by unfold gR;rw [if_pos h2];exact e)
 ·exact w5 ho (by omega) yb (rd (by omega)) fun h' c k e=>h h' c k (by unfold gR;rw [if_neg h2];exact e)
theorem Ao{d:Addr}{o:Obj}{es:Array DictEntry}{ep:Nat}(lo:(d==sysModules)=false)(hx:o.ExactDict)(hd:o.data=.dict es ep):KdlSrc prog w "dict" d d es.size (fun i v=>∃h:i<es.size,v=es[i].key) (fun h=>h.get? d=some o) where
 type:=fun s e=>⟨o,e,hx.1⟩
 there:=fun h e=>⟨zzO e,zzO e⟩
 keep:=fun h h' e k=>k d (.inl rfl) o e
 notList:=by decide
 notTuple:=by decide
 hint:=fun A E s Q e q=>kdl_hint_dict ⟨o,e,hx.1⟩ q
 iter:=fun A s hh e=>⟨_,fun i h=>h.IsKeyIter s.heap.objs.size d i es.size ep∧h.get? d=some o,(fun E Q q=>oE lo e hx hd q),{
  sub:=fun b hb=>by simp at hb;simp [hb]
  frame:=fun _ _ _ st hk=>⟨st.1.at fun o e=>hk _ (by simp) o e,hk d (by simp) o st.2⟩
  item:=fun i s' Q E hi st hQ=>jv st.1 st.2 hd hi fun h' gb sb=>hQ _ h' s'.toks ⟨hi,rfl⟩ ⟨gb,(sb.2 d (zzb (zzO e))).trans st.2⟩ fun b o hb z=>(sb.2 b (fun y=>hb (by simp [y]))).trans z
  done:=fun s' Q E st hQ=>se hh st.1 st.2 hd (zzE _) fun h' eb=>hQ h' s'.toks fun b o hb z=>eb b o (fun y=>hb (by simp [y])) z
  self:=fun _ _ _ _ st hQ=>wpAny_pyIter_keyiter st.1 hQ},⟨⟨_,zzX _ rfl,rfl,rfl⟩,zzB _ e⟩⟩
theorem rb{Q:List Value→Shared→Prop}{T:String}{r d:Addr}{n:Nat}{P:Nat→Value→Prop}{OK:Heap→Prop}(K:KdlSrc prog w T r d n P OK)(hh:A.handled=none)(hok:OK s.heap)(hn:n≤sizeLine)
 (hQ:∀h' tk (acc:Array Value),(∀b o,s.heap.get? b=some o→h'.get? b=some o)→ItemsOf P acc n→Q acc.toList {s with heap:=h',toks:=tk}):wpAny (model prog w) A (collect (.ref r)) Q E s:=by
 have hS:(s.heap.push (seqObj "list" #[] 0)).get? s.heap.objs.size=some {cls:=.type "list",data:=.seq #[] 0}:=zzX _ rfl
 have bR:=K.there _ hok
 have main:codeAny (model prog w) A (.builtin "proto.collect" ⟨[.ref r],[]⟩) (fun res s'=>∃h' tk ny c',res=.ok (.ret (.ref s.heap.objs.size))∧s'={s with heap:=h',toks:=tk}∧(∀b o,s.heap.get? b=some o→h'.get? b=some o)∧h'.get? s.heap.objs.size=some {cls:=.type "list",dict:=none,data:=.seq ny c',slots:=#[]}∧ItemsOf P ny n) s:=by
  refine codeAny_builtin F.entry_proto_collect ?_;rw [Around.under_plainId F.plain_proto_collect _];show wpAny _ A.in1 (newList []>>=fun l=>again (.builtin "list.__iadd__" ⟨[l,.ref r],[]⟩)) _ _ s
  refine zzA (wpAny_newList (zzG ⟨plainId_quiet F.plain_list_iadd _,codeAny_builtin F.entry_list_iadd ?_⟩) (Nat.zero_le _));rw [Around.under_plainId F.plain_list_iadd _];exact kdl_extend (R:=fun res s'=>∃h' tk ny c',res=.ok (.ret (.ref s.heap.objs.size))∧s'={s with heap:=h',toks:=tk}∧(∀b o,s.heap.get? b=some o→h'.get? b=some o)∧h'.get? s.heap.objs.size=some {cls:=.type "list",dict:=none,data:=.seq ny c',slots:=#[]}∧ItemsOf P ny n)
   (s:={s with heap:=s.heap.push (seqObj "list" #[] 0)}) (A:=A) K hh (K.keep _ _ hok fun b _ o e=>zzB _ e) _ (Nat.ne_of_gt bR.1) (Nat.ne_of_gt bR.2) (.ref s.heap.objs.size) 0 hS (fun h' tk ny c' hk wK En=>⟨h',tk,ny,c',rfl,rfl,fun b o e=>hk b o (zzb (zzO e)) (zzB _ e),wK,En⟩) hn
 unfold collect;refine zzA (wpAny_runValue (codeAny_mono main fun res s' hr=>?_));obtain⟨h',tk,ny,c',rfl,rfl,k1,k2,k3⟩:=hr
 show wpAny _ A (load s.heap.objs.size>>=fun z=>_) _ _ _
 exact zzA (wpAny_load k2 (zzG (hQ h' tk ny k1 k3)))
end
abbrev kq(K:PySem.W.Frag)(H:Hp)(vs:List V)(nss:List (List Int)):Prop:=Paired (fun v ns=>∃b,v=V.ref b∧fj K H b (ns.map V.int)∧ns≠[]) vs nss
section
variable{X:Cx}{pins:List (Addr×Obj)}{σ:St}{H:Hp}{s:Shared}{vs:List V}{us:List Value}{nss:List (List Int)}{A:Around}{E:Value→Shared→Prop}{Q:VK}
theorem u0(I:Inv X pins σ H s):∀{vs:List V} {us:List Value} {nss:List (List Int)},Vals vs us→kq X.K H vs nss→iM s.heap us nss:=by
 intro vs us nss r t
 induction t generalizing us with
 |nil=>cases r;exact .nil
 |cons h t ih=>
  obtain⟨b,rfl,hq,gH⟩:=h
  cases r with
  |cons r1 r2=>
   cases(show _=Value.ref b from r1);obtain⟨aA,rv,⟨o,g1,g2,n,g3⟩,_⟩:=I.tuple hq
   exact .cons ⟨b,o,aA.toArray,n,rfl,g1,g2,g3,by simpa using rv,gH⟩ (ih r2)
theorem za(r:Vals vs us):Vals (gR V.non vs nss) (gR Value.none us nss):=by
 have hl:=r.length
 unfold gR;rw [hl];split
 ·exact r
 ·have go:∀l:List Nat,Vals (l.map fun i=>vs.getD i V.non) (l.map fun i=>us.getD i Value.none):=by
   intro l
   induction l with
   |nil=>exact .nil
   |cons i l ih=>
    refine .cons ?_ ih;dsimp only
    by_cases hi:i<vs.length
    ·obtain⟨u,hu,ru⟩:=r.get (zzg hi)
     have e1:vs.getD i V.non=vs[i]:=by simp [hi]
     have e2:us.getD i Value.none=u:=by simp [hu]
     rw [e1,e2];exact ru
    ·have e1:vs.getD i V.non=.non:=by simp [Nat.le_of_not_lt hi]
     have e2:us.getD i Value.none=.none:=by simp [Nat.le_of_not_lt (hl▸hi)]
     rw [e1,e2];exact rfl
  exact go _
theorem jm{α:Type}{d:α}{l:List α}:(gR d l nss).length=l.length:=by
 unfold gR;split
 ·rfl
 ·rename_i h;rw [zzl,(fO (by omega) _).length_eq,List.length_range]
theorem gy(I:Inv X pins σ H s)(r:Vals vs us)(rd:2≤us.length→∀h',(∀b o,s.heap.get? b=some o→h'.get? b=some o)→Hz X.prog X.w A.in1 E us (fun i j=>HT.lexLt (nss.getD i []) (nss.getD j [])) {s with heap:=h'})(yb:vs.length<64)(q:∀p,H p=none→Q (.ref p) (upd H p (.lst (gR V.non vs nss)))):
 wpAny (model X.prog X.w) A (newList us>>=fun l=>holding [l] (call (.builtin "list.sort") [l] [])>>=fun _=>ret l) (fun fin s'=>∃v,fin=.done (.ret v)∧EP X pins σ Q v s') E s:=by
 have hl:=r.length
 refine zzA (wpAny_newList ?_ (by rw [sizeLine_eq];omega));have KC:(s.heap.push (seqObj "list" us.toArray 0)).get? s.heap.objs.size=some (seqObj "list" us.toArray 0):=zzX _ rfl
 have kp:∀b o,s.heap.get? b=some o→(s.heap.push (seqObj "list" us.toArray 0)).get? b=some o:=fun b o e=>zzB _ e
 refine zzA (wpAny_holding (wpAny_call_entry slot_list_sort ⟨_,KC,rfl⟩ entry_list_sort ?_ (args_list_sort _)));refine yh (s:={s with heap:=s.heap.push (seqObj "list" us.toArray 0)}) KC (by omega) (fun h2 h' k=>rd h2 h' fun b o e=>k b o (zzb (zzO e)) (kp b o e)) fun h' c k e=>⟨_,rfl,zzG ⟨_,rfl,.ref s.heap.objs.size,upd H s.heap.objs.size (.lst (gR V.non vs nss)),?_,rfl,q _ (I.hok.fresh (zzE _))⟩⟩
 exact I.laid (a:=s.heap.objs.size) (t':=s.toks) (fun b o z=>k b o (zzb (zzO z)) (kp b o z)) (zzE _) ⟨by rw [jm,sizeLine_eq];omega,_,c,za r,e⟩
theorem qK(I:Inv X pins σ H s)(r:Vals vs us)(t:kq X.K H vs nss)(h2:2≤us.length)(h':Heap)(k:∀b o,s.heap.get? b=some o→h'.get? b=some o):Hz X.prog X.w A E us (fun i j=>HT.lexLt (nss.getD i []) (nss.getD j [])) {s with heap:=h'}:=zm (s:={s with heap:=h'}) ((u0 I r t).keep fun b o e _=>k b o e) h2
theorem oK:cu X (.builtin "sorted") (fun xs H Q=>∃a vs nss,xs=[V.ref a]∧iU X.K H a vs∧kq X.K H vs nss∧vs.length<64∧∀p,H p=none→Q (.ref p) (upd H p (.lst (gR V.non vs nss)))):=by
 intro pins s σ H xs us Q I r h;obtain⟨a,vs,nss,rfl,hl,t,yb,q⟩:=h
 obtain⟨u,rfl,ru⟩:=vals1 r
 cases ru;obtain⟨aA,rv,p,hz⟩:=I.list hl
 refine Calls.call_function_entry kind_sorted plain_sorted entry_sorted (args_sorted1 _) ?_;unfold Builtin.«sorted»;refine zzA (m:=checkCount "sorted" 1 1 _) (zzG (zzA (collect_list p.isList ?_ (by have:=rv.length;rw [sizeLine_eq];omega))));have I1:=I.kept (t':=s.toks) (h':=(s.heap.push (seqObj "list" #[] 0)).update s.heap.objs.size (Obj.mapSeq (·++aA.toArray))) fun b o e=>by
  have bR:b<s.heap.objs.size:=zzO e
  rw [Heap.get?_update_ne _ _ _ _ (zzb bR),Heap.get?_push_ne _ _ _ (zzb bR)];exact e
 exact gy I1 rv (qK I1 rv t) yb q
theorem BF{d:Addr}{aB:List (List Key×V)}(I:Inv X pins σ H s)(e:Rd H d (.dT aB)):(d==sysModules)=false∧∃o es ep,s.heap.get? d=some o∧o.ExactDict∧o.data=.dict es ep∧es.size=aB.length∧∀(i:Nat) (h:i<es.size),∃b k v,es[i].key=.ref b∧aB[i]?=some (k,v)∧H b=some (.tup (k.map kV)):=by
 rcases e with e|⟨o,e⟩
 ·obtain⟨h1,_,h2⟩:=uY I e
  exact⟨h1,h2⟩
 ·obtain⟨h1,h2,h3,h4⟩:=fq I e
  exact⟨h1,o,let⟨es,ep,r⟩:=h4;⟨es,ep,h2,h3,r⟩⟩
theorem nF(hc:X.calm=true):cu X (.builtin "sorted") (fun xs H Q=>∃a aB nss,xs=[V.ref a]∧Rd H a (.dT aB)∧aB.map (·.1)=nss.map (·.map .inl)∧(∀ns∈nss,ns≠[])∧aB.length<64∧
 ∀p vs,H p=none→Paired (fun v ns=>∃b,v=V.ref b∧H b=some (.tup (ns.map V.int))) vs nss→Q (.ref p) (upd H p (.lst (gR V.non vs nss)))):=by
 intro pins s σ H xs us Q I r h;obtain⟨a,aB,nss,rfl,hl,hk,gH,yb,q⟩:=h
 obtain⟨u,rfl,ru⟩:=vals1 r
 cases ru;obtain⟨lo,o,es,ep,h0,hx,h3,yv,xb⟩:=BF I hl
 refine Calls.call_function_entry kind_sorted plain_sorted entry_sorted (args_sorted1 _) ?_;unfold Builtin.«sorted»;refine zzA (m:=checkCount "sorted" 1 1 _) (zzG (zzA (rb (Ao lo hx h3) (show X.A.in1.handled=none from I.ok.hd hc) h0 (by rw [sizeLine_eq];omega) fun h' tk acc kp it=>?_)))
 have I1:=I.kept (t':=tk) (h':=h') kp
 have all:∃vs:List V,Vals vs acc.toList∧Paired (fun v ns=>∃b,v=V.ref b∧H b=some (.tup (ns.map V.int))) vs nss:=by
  have hn:nss.length=aB.length:=by have:=congrArg List.length hk;simpa using this.symm
  have hs:acc.toList.length=nss.length:=by rw [zzd,it.1];omega
  have ev:∀(i:Nat) v ns,acc.toList[i]?=some v→nss[i]?=some ns→∃b,v=.ref b∧H b=some (.tup (ns.map V.int)):=fun i v ns e1 e2=>by
   obtain⟨hi,ev⟩:=it.2 i v (by rw [←Array.getElem?_toList];exact e1)
   obtain⟨b,k,x,g1,g2,g3⟩:=xb i hi
   refine⟨b,ev.trans g1,?_⟩;have GP:k=ns.map .inl:=by
    have:=congrArg (fun l=>l[i]?) hk
    simp only [zzQ,g2,e2,Option.map_some] at this;exact Option.some.inj this
   rw [g3,GP,List.map_map]
   rfl
  clear it xb hk gH q I1
  generalize acc.toList=us at hs ev
  clear yb hn
  induction nss generalizing us with
  |nil=>cases us with
   |nil=>exact⟨[],.nil,.nil⟩
   |cons u us=>simp at hs
  |cons ns nss ih=>
   cases us with
   |nil=>simp at hs
   |cons u us=>
    obtain⟨vs,h1,h2⟩:=ih us (by simpa using hs) fun i v ns e1 e2=>ev (i+1) v ns (by simpa using e1) (by simpa using e2)
    obtain⟨b,rfl,hb⟩:=ev 0 u ns rfl rfl
    exact⟨.ref b::vs,.cons rfl h1,.cons ⟨b,rfl,hb⟩ h2⟩
 obtain⟨vs,rv,pv⟩:=all
 have hlen:vs.length<64:=by have:=Paired.length pv;have h9:=congrArg List.length hk;simp at h9;omega
 refine gy I1 rv (qK I1 rv ?_) hlen fun p hp=>q p vs hp pv
 clear hlen rv hk yb q
 induction pv with
 |nil=>exact .nil
 |cons h t ih=>
  obtain⟨b,rfl,hb⟩:=h
  exact .cons ⟨b,rfl,.inl (.inl hb),gH _ (.head _)⟩ (ih fun ns hm=>gH ns (.tail _ hm))
end
end L2
namespace Ci
open PySem L2
theorem aq{p:Prop}(h:false=true):p:=absurd h zzf
inductive PV where
 |non|bl (b:Bool)|int (i:Int)|str (z:Str)
 |tup (xs:List PV)|lst (xs:List PV)
 |exc (c:Str)
 |dct (ks:List (List Int)) (vs:List PV)
 deriving Inhabited
structure Wd where
 K:PySem.W.Frag
 mg:Str→Option Value
 xs:List Str
 ts:List (Addr×Str):=[]
def LsR(K:PySem.W.Frag)(H:Hp)(a:Addr)(vs:List V):Prop:=
 Rd H a (.lst vs)∨∃(aA:Array Value) (n:Nat),K.lookup a=some {cls:=.type "list",data:=.seq aA n}∧aA.size≤sizeLine∧Vals vs aA.toList
def HQ(K:PySem.W.Frag)(G:Hp)(a:Addr)(vs:List V):Prop:=G a=some (.tup vs)∨fj K G a vs∧∃z,V.str z∈vs
theorem HQ.sq{K:PySem.W.Frag}{G:Hp}{a:Addr}{vs:List V}:HQ K G a vs→fj K G a vs
 |.inl h=>.inl (.inl h)
 |.inr h=>h.1
def kz(ks:List (List Int))(us:List V):List (List Key×V):=(ks.map fun k=>k.map Sum.inl).zip us
mutual
def Rep(W:Wd)(G:Hp):PV→V→Prop
 |.non,v=>v=.non
 |.bl b,v=>v=.bl b
 |.int i,v=>v=.int i
 |.str z,v=>v=.str z
 |.tup xs,v=>∃a vs,v=.ref a∧HQ W.K G a vs∧ak W G xs vs
 |.lst xs,v=>∃a vs,v=.ref a∧LsR W.K G a vs∧ak W G xs vs
 |.exc c,v=>∃a C,v=.ref a∧c∈W.xs∧W.mg c=some (.ref C)∧G a=some (Iq a C)
 |.dct ks vs,v=>∃a o us,v=.ref a∧ks.length=us.length∧G a=some (.frz o (.dT (kz ks us)))∧ak W G vs us
def ak(W:Wd)(G:Hp):List PV→List V→Prop
 |[],vs=>vs=[]
 |p::ps,vs=>∃v r,vs=v::r∧Rep W G p v∧ak W G ps r
end
theorem aG.tup{K:PySem.W.Frag}{H H':Hp}{a:Addr}{xs:List V}(e:aG H H')(h:fj K H a xs):fj K H' a xs:=by
 rcases h with(h|⟨o,h⟩)|h
 ·exact .inl (.inl (e _ _ h))
 ·exact .inl (.inr ⟨o,e _ _ h⟩)
 ·exact .inr h
theorem aG.tp{K:PySem.W.Frag}{H H':Hp}{a:Addr}{xs:List V}(e:aG H H')(h:HQ K H a xs):HQ K H' a xs:=h.elim (fun z=>.inl (e _ _ z)) fun z=>.inr ⟨aG.tup e z.1,z.2⟩
theorem aG.rd{H H':Hp}{a:Addr}{u:HO}(e:aG H H')(h:Rd H a u):Rd H' a u:=by
 rcases h with h|⟨o,h⟩
 ·exact .inl (e _ _ h)
 ·exact .inr ⟨o,e _ _ h⟩
theorem aG.ls{K:PySem.W.Frag}{H H':Hp}{a:Addr}{vs:List V}(e:aG H H')(h:LsR K H a vs):LsR K H' a vs:=h.elim (fun z=>.inl (aG.rd e z)) .inr
section
variable{W:Wd}{G G':Hp}
mutual
theorem Rep.same(s:aG G G'):∀(p:PV) {v:V},Rep W G p v→Rep W G' p v
 |.non,_,h=>by simpa only [Rep] using h
 |.bl b,_,h=>by simpa only [Rep] using h
 |.int i,_,h=>by simpa only [Rep] using h
 |.str z,_,h=>by simpa only [Rep] using h
 |.tup xs,_,h=>by
  simp only [Rep] at h⊢;obtain⟨a,vs,e,q,l⟩:=h
  exact⟨a,vs,e,aG.tp s q,ak.same s xs l⟩
 |.lst xs,_,h=>by
  simp only [Rep] at h⊢;obtain⟨a,vs,e,q,l⟩:=h
  exact⟨a,vs,e,aG.ls s q,ak.same s xs l⟩
 |.exc c,_,h=>by
  simp only [Rep] at h⊢;obtain⟨a,C,e,x,m,q⟩:=h
  exact⟨a,C,e,x,m,s _ _ q⟩
 |.dct ks vs,_,h=>by
  simp only [Rep] at h⊢;obtain⟨a,o,us,e,n,m,l⟩:=h
  exact⟨a,o,us,e,n,s _ _ m,ak.same s vs l⟩
theorem ak.same(s:aG G G'):∀(ps:List PV) {vs:List V},ak W G ps vs→ak W G' ps vs
 |[],_,h=>by simpa only [ak] using h
 |p::ps,_,h=>by
  simp only [ak] at h⊢;obtain⟨v,r,e,h1,h2⟩:=h
  exact⟨v,r,e,Rep.same s p h1,ak.same s ps h2⟩
end
theorem ak.paired:∀{ps:List PV} {vs:List V},ak W G ps vs→Paired (fun v p=>Rep W G p v) vs ps
 |[],_,h=>by simp only [ak] at h;subst h;exact .nil
 |p::ps,_,h=>by
  simp only [ak] at h;obtain⟨v,r,rfl,h1,h2⟩:=h
  exact .cons h1 (ak.paired h2)
theorem ak.length{ps:List PV}{vs:List V}(h:ak W G ps vs):vs.length=ps.length:=lu h.paired
theorem ak.nil:ak W G [] []:=by simp only [ak]
theorem ak.cons{p:PV}{v:V}{ps:List PV}{vs:List V}(h:Rep W G p v)(t:ak W G ps vs):ak W G (p::ps) (v::vs):=by simp only [ak];exact⟨_,_,rfl,h,t⟩
theorem ak.uncons{p:PV}{ps:List PV}{vs:List V}(h:ak W G (p::ps) vs):∃v r,vs=v::r∧Rep W G p v∧ak W G ps r:=by simpa only [ak] using h
theorem ak.append:∀{ps qs:List PV} {vs us:List V},ak W G ps vs→ak W G qs us→ak W G (ps++qs) (vs++us)
 |[],_,_,_,h,k=>by simp only [ak] at h;subst h;exact k
 |p::ps,_,_,_,h,k=>by
  obtain⟨v,r,rfl,h1,h2⟩:=h.uncons
  exact .cons h1 (h2.append k)
theorem ak.get:∀{ps:List PV} {vs:List V} {i:Nat} {v:V},ak W G ps vs→vs[i]?=some v→∃p,ps[i]?=some p∧Rep W G p v:=fun h e=>mH h.paired e
theorem ak.getP:∀{ps:List PV} {vs:List V} {i:Nat} {p:PV},ak W G ps vs→ps[i]?=some p→∃v,vs[i]?=some v∧Rep W G p v
 |[],_,_,_,_,e=>by simp at e
 |p::ps,_,0,q,h,e=>by
  obtain⟨v,r,rfl,h1,h2⟩:=h.uncons
  simp at e;subst e;exact⟨v,rfl,h1⟩
 |p::ps,_,i+1,q,h,e=>by
  obtain⟨v,r,rfl,h1,h2⟩:=h.uncons
  obtain⟨u,e1,k⟩:=h2.getP (i:=i) (by simpa using e)
  exact⟨u,by simpa using e1,k⟩
theorem ak.drop:∀{ps:List PV} {vs:List V} (n:Nat),ak W G ps vs→ak W G (ps.drop n) (vs.drop n)
 |_,_,0,h=>by simpa using h
 |[],_,n+1,h=>by simp only [ak] at h;subst h;simp only [List.drop_nil];exact .nil
 |p::ps,_,n+1,h=>by
  obtain⟨v,r,rfl,h1,h2⟩:=h.uncons
  simpa using h2.drop n
theorem ak.take:∀{ps:List PV} {vs:List V} (n:Nat),ak W G ps vs→ak W G (ps.take n) (vs.take n)
 |_,_,0,h=>by simp only [List.take_zero];exact .nil
 |[],_,n+1,h=>by simp only [ak] at h;subst h;simp only [List.take_nil];exact .nil
 |p::ps,_,n+1,h=>by
  obtain⟨v,r,rfl,h1,h2⟩:=h.uncons
  simp only [List.take_succ_cons];exact .cons h1 (h2.take n)
end
def gA(H H':Hp):Prop:=∀b o,H b=some o→(∀ps,o≠.tbl ps)∧H' b=some o∨∃ps m,o=.tbl ps∧H' b=some (.tbl (ps++m))
theorem gA.refl(H:Hp):gA H H:=fun b o h=>by
 cases o with
 |tbl ps=>exact .inr ⟨ps,#[],rfl,by simpa using h⟩
 |_=>exact .inl ⟨(fun _ z=>nomatch z),h⟩
theorem gA.trans{H H1 H2:Hp}(a:gA H H1)(b:gA H1 H2):gA H H2:=fun c o h=>by
 rcases a c o h with⟨n,e⟩|⟨ps,m,rfl,e⟩
 ·rcases b c o e with y|⟨ps,m,rfl,e2⟩
  ·exact .inl y
  ·exact absurd rfl (n ps)
 ·rcases b c _ e with⟨n,_⟩|⟨pO,m',e2,e3⟩
  ·exact absurd rfl (n _)
  ·cases e2;exact .inr ⟨ps,m++m',rfl,by rw [e3,Array.append_assoc]⟩
theorem gA.free{H H':Hp}(e:gA H H'){l:Addr}(h:H' l=Option.none):H l=Option.none:=by
 cases q:H l with
 |none=>rfl
 |some o=>
  rcases e l o q with⟨_,z⟩|⟨_,_,_,z⟩
  ·rw [h] at z;cases z
  ·rw [h] at z;cases z
theorem gA.at{H H':Hp}(e:gA H H'){b:Addr}{o:HO}(h:H b=some o)(n:∀ps,o≠.tbl ps):H' b=some o:=by
 rcases e b o h with⟨_,z⟩|⟨ps,_,rfl,_⟩
 ·exact z
 ·exact absurd rfl (n ps)
theorem gA.notup{H H':Hp}(e:gA H H'){b:Addr}(h:H b≠none)(n:∀vs,H b≠some (.tup vs)):∀vs,H' b≠some (.tup vs):=fun vs z=>by
 cases q:H b with
 |none=>exact h q
 |some o=>
  rcases e b o q with⟨_,y⟩|⟨_,_,_,y⟩
  ·rw [z] at y;cases y;exact n vs q
  ·rw [z] at y;cases y
theorem gA.of{H H':Hp}(e:aG H H'):gA H H':=fun b o h=>by
 cases o with
 |tbl ps=>exact .inr ⟨ps,#[],rfl,by simpa using e _ _ h⟩
 |_=>exact .inl ⟨(fun _ z=>nomatch z),e _ _ h⟩
theorem gA.tup{K:PySem.W.Frag}{H H':Hp}{a:Addr}{xs:List V}(e:gA H H')(h:fj K H a xs):fj K H' a xs:=by
 rcases h with(h|⟨o,h⟩)|h
 ·exact .inl (.inl (e.at h (fun _ z=>nomatch z)))
 ·exact .inl (.inr ⟨o,e.at h (fun _ z=>nomatch z)⟩)
 ·exact .inr h
theorem gA.ls{K:PySem.W.Frag}{H H':Hp}{a:Addr}{vs:List V}(e:gA H H')(h:LsR K H a vs):LsR K H' a vs:=by
 rcases h with(h|⟨o,h⟩)|h
 ·exact .inl (.inl (e.at h (fun _ z=>nomatch z)))
 ·exact .inl (.inr ⟨o,e.at h (fun _ z=>nomatch z)⟩)
 ·exact .inr h
def cy(W:Wd)(G H:Hp):Prop:=∀P q,(P,q)∈W.ts→G P=none∧∃ps,H P=some (.tbl ps)∧TriplesOk ps.toList∧
 ∀pos cv,codeAmong pos ps.toList=some cv→∃c' oc cU t,cv=.ref c'∧G c'=some (.frz oc bG)∧oc.data=.fields cU∧cU[1]?=some (.str q t)
theorem cy.same{W:Wd}{G G' H H':Hp}(t:cy W G H)(g:aG G G')(own:∀a,H a≠none→(∀vs,H a≠some (.tup vs))→G a=none→G' a=none)(h:∀P ps,H P=some (.tbl ps)→H' P=some (.tbl ps)):cy W G' H':=fun P q m=>by
 obtain⟨n,ps,e,tr,al⟩:=t P q m
 refine⟨own P (by rw [e];exact fun z=>nomatch z) (by rw [e];exact fun _ z=>nomatch z) n,ps,h P ps e,tr,fun pos cv y=>?_⟩
 obtain⟨c',oc,cU,t,e1,e2,e3,e4⟩:=al pos cv y
 exact⟨c',oc,cU,t,e1,g _ _ e2,e3,e4⟩
structure aK(W:Wd)(G H G' H':Hp):Prop where
 g:aG G G'
 h:gA H H'
 sub:aG G' H'
 own:∀a,H a≠none→(∀vs,H a≠some (.tup vs))→G a=none→G' a=none
 tab:cy W G H→cy W G' H'
section
variable{W:Wd}
theorem aK.refl{G H:Hp}(s:aG G H):aK W G H G H:=⟨aG.refl _,gA.refl _,s,fun _ _ _ h=>h,id⟩
theorem aK.trans{G H G1 H1 G2 H2:Hp}(a:aK W G H G1 H1)(b:aK W G1 H1 G2 H2):aK W G H G2 H2:=
 ⟨a.g.trans b.g,a.h.trans b.h,b.sub,fun x hx ht hg=>b.own x (fun z=>hx (a.h.free z)) (a.h.notup hx ht) (a.own x hx ht hg),fun t=>b.tab (a.tab t)⟩
theorem pH{H:Hp}{p:Addr}{o:HO}(h:∀ps,H p≠some (.tbl ps))(P:Addr)(ps:Array Value)(e:H P=some (.tbl ps)):upd H p o P=some (.tbl ps):=by
 rw [af (fun z=>by subst z;exact h ps e)];exact e
theorem aK.new{G H:Hp}{p:Addr}{o:HO}(s:aG G H)(h:H p=none):aK W G H (upd G p o) (upd H p o) where
 g:=bD (s.free h)
 h:=.of (bD h)
 sub:=fun b u e=>by
  by_cases hb:b=p
  ·subst hb;rw [au] at e⊢;exact e
  ·rw [af hb] at e⊢;exact s _ _ e
 own:=fun a ha _ hg=>by
  have:a≠p:=fun z=>by subst z;exact ha h
  rw [af this];exact hg
 tab:=fun t=>t.same (bD (s.free h)) (fun a ha _ hg=>by
  have:a≠p:=fun z=>by subst z;exact ha h
  rw [af this];exact hg) (pH (fun ps z=>by rw [h] at z;cases z))
theorem aK.adopt{G H:Hp}{b:Addr}{vs:List V}(s:aG G H)(h:H b=some (.tup vs)):aK W G H (upd G b (.tup vs)) H:=by
 have sm:aG G (upd G b (.tup vs)):=fun c u e=>by
  by_cases hc:c=b
  ·subst hc;rw [au];have:=s _ _ e;rw [h] at this;exact this
  ·rw [af hc];exact e
 have ow:∀a,H a≠none→(∀vs,H a≠some (.tup vs))→G a=none→upd G b (.tup vs) a=none:=fun a _ n e=>by
  have:a≠b:=fun z=>by subst z;exact n vs h
  rw [af this];exact e
 exact⟨sm,gA.refl _,fun c u e=>by
  by_cases hc:c=b
  ·subst hc;rw [au] at e;cases e;exact h
  ·rw [af hc] at e;exact s _ _ e,ow,fun t=>t.same sm ow fun _ _ e=>e⟩
theorem aK.mine{G H:Hp}{p:Addr}{o:HO}(s:aG G H)(h:H p=none):aK W G H G (upd H p o):=
 ⟨aG.refl _,.of (bD h),s.trans (bD h),fun _ _ _ hg=>hg,fun t=>t.same (aG.refl _) (fun _ _ _ h=>h) (pH (fun ps z=>by rw [h] at z;cases z))⟩
end
def bt(scope:Scope):List Str:=((scope.names.filter fun p=>p.2==.free).map (·.1)).reverse
def okN(x:Str):Bool:=!(x=="__debug__")&&!(x=="__classdict__")&&!(x=="__name__")
def gO(x:Str):Bool:=x.cps.toList.contains 64
theorem qi{α:Type}{a:α}{p:Prop}(h:(none:Option α)=some a):p:=nomatch h
theorem xG{α:Type}{o:Option α}{f:α→Bool}(h:o.any f=true):∃x,o=some x∧f x=true:=by
 cases o with
 |none=>cases h
 |some x=>exact⟨x,rfl,h⟩
def gY:Expr→Option Str
 |.Name x _=>some x
 |_=>none
theorem cD{e:Expr}{x:Str}(h:gY e=some x):∃p,e=.Name x p:=by
 cases e with
 |Name y p=>cases h;exact⟨_,rfl⟩
 |_=>exact qi h
def Jy:Expr→Option (Expr×List Expr×List Keyword×Pos)
 |.Call f a k p=>some (f,a,k,p)
 |_=>none
theorem o6{e:Expr}{q:Expr×List Expr×List Keyword×Pos}(h:Jy e=some q):e=.Call q.1 q.2.1 q.2.2.1 q.2.2.2:=by
 cases e with
 |Call f a k p=>cases h;rfl
 |_=>exact qi h
def Md:List Arg→Option (List Str)
 |[]=>some []
 |[a]=>some [a.arg]
 |_=>none
noncomputable def o9(p:Arguments):Option (List Str):=if(p.posonlyargs.isEmpty&&p.vararg.isNone&&p.kwonlyargs.isEmpty&&p.kw_defaults.isEmpty&&p.kwarg.isNone&&p.defaults.isEmpty)=true then Md p.args else none
theorem uD{p:Arguments}{ps:List Str}(h:o9 p=some ps):(p=⟨[],[],none,[],[],none,[]⟩∧ps=[])∨∃a,p=⟨[],[a],none,[],[],none,[]⟩∧ps=[a.arg]:=by
 obtain⟨a,b,c,d,e,f,g⟩:=p
 unfold o9 at h;split at h
 ·rename_i q;simp only [zza,List.isEmpty_iff,Option.isNone_iff_eq_none] at q;obtain⟨⟨⟨⟨⟨q1,q2⟩,q3⟩,q4⟩,q5⟩,q6⟩:=q
  subst q1 q2 q3 q4 q5 q6;cases b with
  |nil=>cases h;exact .inl ⟨rfl,rfl⟩
  |cons a b=>
   cases b with
   |nil=>cases h;exact .inr ⟨a,rfl,rfl⟩
   |cons _ _=>exact qi h
 ·exact qi h
def eg:List Expr→List (Option Str)→Bool
 |[],[]=>true
 |.Name x _::r,some y::t=>x==y&&okN x&&eg r t
 |_,_=>false
noncomputable def KR(ps:List Str)(scope:Scope):Bool:=
 scope.kind==.function&&!scope.isCoroutine&&!scope.isGenerator&&decide ((ps++bt scope).Nodup)&&(scope.names.all fun y=>decide (y.2≠.cell))&&(ps.all fun x=>decide (scope.names.lookup x=some .local))&&((bt scope).all fun x=>decide (scope.names.lookup x=some .free))
noncomputable def Bm(g:Str)(idx:List Nat)(params:Arguments)(body:Expr)(scope:Scope):Bool:=(o9 params).any fun ps=>(Jy body).any fun q=>gY q.1==some g&&q.2.2.1.isEmpty&&!q.2.1.isEmpty&&decide (idx.head?=some ps.length)&&scope.names.lookup g==some .globalImplicit&&okN g&&!gO g&&eg q.2.1 (idx.tail.map fun i=>(ps++bt scope)[i]?)&&KR ps scope
structure Ms(W:Wd)(G:Hp)(g:Str)(idx:List Nat)(cK:List PV)(f c':Addr)(oc:Obj)(cU:Array Value)(t:Tok)(eX pm:Value)(params:Arguments)(body:Expr)(scope:Scope)(qual:Str)(cl:List (Str×Addr))(Z:List (Addr×Obj))(ws:List V):Prop where
 lg:Bm g idx params body scope=true
 fo:G f=some (.frz (PySem.W.kla_obj "<lambda>" qual params body scope cl pm c' eX) bG)
 co:G c'=some (.frz oc bG)
 cd:oc.data=.fields cU
 cn:cU[1]?=some (.str qual t)
 fz:Z.lookup f=none
 cz:Z.lookup c'=none
 inj:∀x y c,cl.lookup x=some c→cl.lookup y=some c→x=y
 has:∀y∈bt scope,∃c,cl.lookup y=some c
 cells:∀x c,cl.lookup x=some c→∃o v,Z.lookup c=some o∧o.data=.cell v
 zs:∀b o,Z.lookup b=some o→G b=some (.frz o bG)
 zc:∀b o,Z.lookup b=some o→∃v,o.data=.cell v
 vals:∀(i:Nat) y c,(bt scope)[i]?=some y→cl.lookup y=some c→∀v,ws[i]?=some v→∃u o,RelV v u∧Z.lookup c=some o∧o.data=.cell (some u)
 len:ws.length=(bt scope).length
 rep:ak W (bg Z G) cK ws
def oG(W:Wd)(G:Hp)(g:Str)(idx:List Nat)(cK:List PV)(v:V):Prop:=∃f c' oc cU t eX pm params body scope qual cl Z ws,v=.ref f∧Ms W G g idx cK f c' oc cU t eX pm params body scope qual cl Z ws
theorem mq{Z:List (Addr×Obj)}{G G':Hp}(s:aG G G'):aG (bg Z G) (bg Z G'):=fun b u e=>by
 obtain⟨q,e1⟩:=dP e
 rw [aC q];exact s _ _ e1
theorem oG.same{W:Wd}{G G':Hp}{g:Str}{idx:List Nat}{cK:List PV}{v:V}(s:aG G G')(h:oG W G g idx cK v):oG W G' g idx cK v:=by
 obtain⟨f,c',oc,cU,t,eX,pm,params,body,scope,qual,cl,Z,ws,e,d⟩:=h
 exact⟨f,c',oc,cU,t,eX,pm,params,body,scope,qual,cl,Z,ws,e,⟨d.lg,s _ _ d.fo,s _ _ d.co,d.cd,d.cn,d.fz,d.cz,d.inj,d.has,d.cells,fun b o q=>s _ _ (d.zs b o q),d.zc,d.vals,d.len,ak.same (mq s) cK d.rep⟩⟩
inductive Slot where
 |no|val (p:PV)|own (p:PV)|fn (g:Str) (idx:List Nat) (cK:List PV)
 deriving Inhabited
abbrev Sl:=List Slot
def Own(W:Wd)(H0 G H:Hp):PV→V→Prop
 |.lst xs,v=>∃a vs,v=.ref a∧H a=some (.lst vs)∧G a=none∧H0 a=none∧ak W G xs vs
 |.dct ks ps,v=>∃a us,v=.ref a∧ks.length=us.length∧H a=some (.dT (kz ks us))∧G a=none∧H0 a=none∧ak W G ps us
 |_,_=>False
def Top(W:Wd)(H0 G H:Hp)(p:PV)(v:V):Prop:=Rep W G p v∨Own W H0 G H p v
def KP(W:Wd)(H0 G H:Hp):Slot→Option V→Prop
 |.no,_=>True
 |.val p,o=>∃v,o=some v∧Rep W G p v
 |.own p,o=>∃v,o=some v∧Own W H0 G H p v
 |.fn g idx cK,o=>∃v,o=some v∧oG W G g idx cK v
structure SR(W:Wd)(H0:Hp)(env:Sl)(σ:St)(G H:Hp):Prop where
 len:env.length=σ.length
 sub:aG G H
 base:gA H0 H
 slot:∀(i:Nat) (s:Slot),env[i]?=some s→∃o,σ[i]?=some o∧KP W H0 G H s o
 apart:∀(i j:Nat) (p q:PV) (a:Addr),env[i]?=some (.own p)→env[j]?=some (.own q)→σ[i]?=some (some (.ref a))→σ[j]?=some (some (.ref a))→i=j
 tab:cy W G H
 tab0:cy W G H0
section
variable{W:Wd}{H0 G H G' H':Hp}{env:Sl}{σ:St}
theorem Own.grow(g:aK W G H G' H'):∀{p:PV} {v:V},Own W H0 G H p v→Own W H0 G' H' p v
 |.lst xs,_,h=>by
  obtain⟨a,vs,e,h1,h2,h3,l⟩:=h
  exact⟨a,vs,e,g.h.at h1 (fun _ z=>nomatch z),g.own a (by rw [h1];exact fun z=>by cases z) (by rw [h1];exact fun _ z=>by cases z) h2,h3,ak.same g.g xs l⟩
 |.dct ks ps,_,h=>by
  obtain⟨a,vs,e,n,h1,h2,h3,l⟩:=h
  exact⟨a,vs,e,n,g.h.at h1 (fun _ z=>nomatch z),g.own a (by rw [h1];exact fun z=>by cases z) (by rw [h1];exact fun _ z=>by cases z) h2,h3,ak.same g.g ps l⟩
 |.non,_,h=>h|.bl _,_,h=>h|.int _,_,h=>h|.str _,_,h=>h|.tup _,_,h=>h|.exc _,_,h=>h
theorem KP.grow(g:aK W G H G' H'):∀{s:Slot} {o:Option V},KP W H0 G H s o→KP W H0 G' H' s o
 |.no,_,_=>trivial
 |.val p,_,h=>by obtain⟨v,e,r⟩:=h;exact⟨v,e,Rep.same g.g p r⟩
 |.own p,_,h=>by obtain⟨v,e,r⟩:=h;exact⟨v,e,r.grow g⟩
 |.fn _ _ _,_,h=>by obtain⟨v,e,r⟩:=h;exact⟨v,e,r.same g.g⟩
theorem SR.grow(r:SR W H0 env σ G H)(g:aK W G H G' H'):SR W H0 env σ G' H':=
 ⟨r.len,g.sub,r.base.trans g.h,fun i s e=>by obtain⟨o,h1,h2⟩:=r.slot i s e;exact⟨o,h1,h2.grow g⟩,r.apart,g.tab r.tab,r.tab0.same g.g (fun a h1 h3 h2=>g.own a (fun z=>h1 (r.base.free z)) (r.base.notup h1 h3) h2) fun _ _ h=>h⟩
theorem Top.grow{p:PV}{v:V}(g:aK W G H G' H')(h:Top W H0 G H p v):Top W H0 G' H' p v:=h.elim (fun z=>.inl (Rep.same g.g p z)) fun z=>.inr (z.grow g)
theorem Top.lst{xs:List PV}{v:V}(s:aG G H)(h:Top W H0 G H (.lst xs) v):∃a vs,v=.ref a∧LsR W.K H a vs∧ak W G xs vs:=by
 rcases h with h|h
 ·simp only [Rep] at h;obtain⟨a,vs,e,q,l⟩:=h
  exact⟨a,vs,e,aG.ls s q,l⟩
 ·obtain⟨a,vs,e,h1,_,_,l⟩:=h
  exact⟨a,vs,e,.inl (.inl h1),l⟩
theorem Top.tup{xs:List PV}{v:V}(s:aG G H)(h:Top W H0 G H (.tup xs) v):∃a vs,v=.ref a∧fj W.K H a vs∧ak W G xs vs:=by
 rcases h with h|h
 ·simp only [Rep] at h;obtain⟨a,vs,e,q,l⟩:=h
  exact⟨a,vs,e,aG.tup s q.sq,l⟩
 ·exact h.elim
theorem Top.tupI{xs:List PV}{v:V}{ns:List Int}(s:aG G H)(hx:xs=ns.map .int)(h:Top W H0 G H (.tup xs) v):∃a,v=.ref a∧G a=some (.tup (ns.map V.int)):=by
 rcases h with h|h
 ·simp only [Rep] at h;obtain⟨a,vs,e,q,l⟩:=h
  have ev:vs=ns.map V.int:=by
   subst hx
   clear q e
   induction ns generalizing vs with
   |nil=>simp only [List.map_nil,ak] at l;exact l
   |cons n ns ih=>
    obtain⟨u,r,rfl,h1,h2⟩:=l.uncons
    simp only [Rep] at h1;rw [h1,ih r h2]
    rfl
  subst ev;rcases q with q|⟨_,z,hz⟩
  ·exact⟨a,e,q⟩
  ·obtain⟨n,_,hn⟩:=List.mem_map.mp hz
   cases hn
 ·exact h.elim
theorem Top.dct{ks:List (List Int)}{ps:List PV}{v:V}(s:aG G H)(h:Top W H0 G H (.dct ks ps) v):∃a us,v=.ref a∧ks.length=us.length∧Rd H a (.dT (kz ks us))∧ak W G ps us:=by
 rcases h with h|h
 ·simp only [Rep] at h;obtain⟨a,o,us,e,n,q,l⟩:=h
  exact⟨a,us,e,n,.inr ⟨o,s _ _ q⟩,l⟩
 ·obtain⟨a,vs,e,n,q,_,_,l⟩:=h
  exact⟨a,vs,e,n,.inl q,l⟩
theorem Top.int{i:Int}{v:V}(h:Top W H0 G H (.int i) v):v=.int i:=h.elim (fun z=>by simpa only [Rep] using z) fun z=>z.elim
theorem Top.bl{b:Bool}{v:V}(h:Top W H0 G H (.bl b) v):v=.bl b:=h.elim (fun z=>by simpa only [Rep] using z) fun z=>z.elim
theorem Top.str{b:Str}{v:V}(h:Top W H0 G H (.str b) v):v=.str b:=h.elim (fun z=>by simpa only [Rep] using z) fun z=>z.elim
theorem Top.non{v:V}(h:Top W H0 G H .non v):v=.non:=h.elim (fun z=>by simpa only [Rep] using z) fun z=>z.elim
theorem Rep.i{i:Int}:Rep W G (.int i) (.int i):=by simp only [Rep]
theorem Rep.b{i:Bool}:Rep W G (.bl i) (.bl i):=by simp only [Rep]
theorem Rep.s{i:Str}:Rep W G (.str i) (.str i):=by simp only [Rep]
theorem Rep.n:Rep W G .non .non:=by simp only [Rep]
theorem Rep.l{a:Addr}{xs:List PV}{vs:List V}(h:LsR W.K G a vs)(l:ak W G xs vs):Rep W G (.lst xs) (.ref a):=by simp only [Rep];exact⟨a,vs,rfl,h,l⟩
theorem Rep.t{a:Addr}{xs:List PV}{vs:List V}(h:HQ W.K G a vs)(l:ak W G xs vs):Rep W G (.tup xs) (.ref a):=by simp only [Rep];exact⟨a,vs,rfl,h,l⟩
end
end Ci
namespace L2
open PySem PySem.Spec PyProof.Rows
section
variable{X:Cx}
end
end L2
namespace HT
open PySem PySem.Spec PyProof.Rows
section
variable{prog:Program}{w:World}{A:Around}{E:Value→Shared→Prop}{s:Shared}
theorem qM{sl:Addr}{vk:Value}{n:Nat}{Q:Int×Int×Nat→Shared→Prop}(hs:s.heap.IsSliceOf sl .none .none vk)(pk:IsPart vk (some (-1)))
 (h:Q ((n:Int)-1, -1,n) s):wpAny (model prog w) A (Builtin.Slice.sliceApplied (.ref sl) (pure (n:Int))) Q E s:=by
 obtain⟨os,hos,hcs,hds⟩:=id hs
 unfold Builtin.Slice.sliceApplied Builtin.Slice.sliceFields;refine zzA (zzA (wpAny_field hos hds (x:=.none) rfl (zzA (wpAny_field hos hds (x:=.none) rfl (zzA (wpAny_field hos hds (x:=vk) rfl (zzG ?_)))))));refine zzA (sH pk ?_);show wpAny _ _ (if((-1:Int)==0)=true then _ else _) _ _ s;rw [if_neg (by decide)];refine zzA (slicePart_none (zzA (slicePart_none (zzA (zzG ?_)))));show wpAny _ _ (pure ((n:Int)-1,(-1:Int),Builtin.Slice.slicePlaces ((n:Int)-1) (-1) (-1))) _ _ s;have e:Builtin.Slice.slicePlaces ((n:Int)-1) (-1) (-1)=n:=by
  unfold Builtin.Slice.slicePlaces;rw [if_neg (by decide)];split
  ·have:((n:Int)-1 - -1-1)/(- -1)+1=n:=by rw [show(- -1:Int)=1 from rfl,Int.ediv_one];omega
   rw [this];omega
  ·omega
 rw [e];exact zzG h
theorem q9{α β:Type}{f g:α→Option β}:∀(l:List α),(∀m∈l,f m=g m)→l.filterMap f=l.filterMap g
 |[],_=>rfl
 |a::l,h=>by
  rw [List.filterMap_cons,List.filterMap_cons,h a (zzP ..),q9 l fun m hm=>h m (zzI _ hm)]
theorem xA(xs:Array Value):((List.range xs.size).filterMap fun(m:Nat)=>xs[((xs.size:Int)-1+(m:Int)*(-1)).toNat]?).toArray=xs.toList.reverse.toArray:=by
 congr 1
 refine List.ext_getElem? fun i=>?_
 have key:∀k,k≤xs.size→(List.range k).filterMap (fun(m:Nat)=>xs[((xs.size:Int)-1+(m:Int)*(-1)).toNat]?)=(List.range k).filterMap fun m=>xs.toList.reverse[m]?:=fun k hk=>by
  refine q9 _ fun m hm=>?_
  have:=List.mem_range.1 hm
  rw [List.getElem?_reverse (by simpa using (by omega:m<xs.size)),Array.getElem?_toList,zzd]
  congr 1
  omega
 rw [key _ (zzE _)];have:∀l:List Value,(List.range l.length).filterMap (fun m=>l[m]?)=l:=fun l=>by
  have:=PySem.W.krv_all l.toArray
  simpa using this
 have:=this xs.toList.reverse
 rw [List.length_reverse,zzd] at this;rw [this]
theorem getItem_tuple_rev{t sl:Addr}{items:Array Value}{vk:Value}{Q:Value→Shared→Prop}(ht:IsTup s.heap t items)(hs:s.heap.IsSliceOf sl .none .none vk)(pk:IsPart vk (some (-1)))
 (h:Q (.ref s.heap.objs.size) {s with heap:=s.heap.push {cls:=.type "tuple",data:=.seq items.toList.reverse.toArray}})
 (hsz:items.size≤sizeLine):wpAny (model prog w) A (getItem (.ref t) (.ref sl)) Q E s:=by
 have DO:sizeOk (.seq items.toList.reverse.toArray):=by
  show items.toList.reverse.toArray.size≤sizeLine
  rw [zzC,List.length_reverse,zzd];exact hsz
 obtain⟨os,hos,hcs,hds⟩:=id hs
 have Qm:s.TypeIs (.ref sl) "slice":=⟨os,hos,hcs⟩
 unfold getItem
 try with_reducible refine wpAny_holding ?_
 first|refine zzA (zzG ?_)|skip
 refine zzA (wpAny_sequenceKey ht.typeIs (by decide) ?_);refine zzA (wpAny_callSpecial?_slot (name:=Str.ofString "__getitem__") ht.typeIs PyProof.Rows.slot_tuple_getitem
  (wpAny_call_entry PyProof.Rows.slot_tuple_getitem ht.typeIs entry_tuple_getitem ?_ (args_tuple_getitem _ _)))
 show wpAny _ _ (Builtin.Tuple.tupleItemsOf (.ref t)>>=_) _ _ s
 refine zzA (tupleItemsOf_ ht ?_);refine zzA (wpAny_typeOf Qm ?_);rw [if_pos (by decide)];refine zzA (qM hs pk ?_);have Pw:¬((((items.size:Int)-1)==0&&(-1:Int)==1&&items.size==items.size)=true):=by
  intro q;rw [zza,zza] at q;exact absurd q.1.2 (by decide)
 show wpAny _ _ (if(((items.size:Int)-1)==0&&(-1:Int)==1&&items.size==items.size)=true then _ else _) _ _ s
 rw [if_neg Pw,xA]
 first
  |exact zzA (m:=Builtin.Tuple.tupleExact _) (wpAny_newObj_type (zzG ⟨_,rfl,zzG h⟩) DO)
  |exact zzA (m:=Builtin.Tuple.tupleExact _) (wpAny_newObj_type (zzA (zzG (zzG ⟨_,rfl,zzG h⟩))) DO)
end
end HT
namespace L2
open PySem PySem.Spec PyProof.Rows
def eR(z:Str):Str:=⟨z.cps.toList.reverse.toArray⟩
theorem Bs(n:Nat):Builtin.Str.strSliceIndices none none (-1) n=(List.range n).map fun k=>n-1-k:=by
 show sliceRange ((n:Int)-1) (-1) (-1)=_
 exact PySem.W.krv_sliceRange n
theorem vw{vs:List V}{us:List Value}(r:Vals vs us):Vals vs.reverse us.reverse:=by
 induction r with
 |nil=>exact .nil
 |cons h t ih=>
  rw [List.reverse_cons,List.reverse_cons];exact ih.append (.cons h .nil)
section
variable{X:Cx}{e st:Expr}{te ts:TE}{pos p2:Pos}
def D5(X:Cx)(r:V→Hp→VK→Prop):Prop:=
 ∀(pins:List (Addr×Obj)) (s:Shared) (σ:St) (H:Hp) (x:V) (v vk:Value) (sl:Addr) (Q:VK),Inv X pins σ H s→RelV x v→s.heap.IsSliceOf sl .none .none vk→IsPart vk (some (-1))→r x H Q→
  ∃T id,typeLookup (.type T) "__getitem__"=pure (some (.builtin id))∧s.TypeIs v T∧wpAny (model X.prog X.w) X.A (getItem v (.ref sl)) (EP X pins σ Q) X.xe s
theorem D5.or{r r':V→Hp→VK→Prop}(h:D5 X r)(h':D5 X r'):D5 X (fun x H Q=>r x H Q∨r' x H Q):=by
 intro pins s σ H x v vk sl Q I rx hs pk q;rcases q with q|q
 ·exact h pins s σ H x v vk sl Q I rx hs pk q
 ·exact h' pins s σ H x v vk sl Q I rx hs pk q
theorem F5:D5 X (fun x H Q=>∃a xs,x=.ref a∧fj X.K H a xs∧∀p,H p=none→Q (.ref p) (upd H p (.tup xs.reverse))):=by
 intro pins s σ H x v vk sl Q I rx hs pk h;obtain⟨a,xs,rfl,hx,q⟩:=h
 cases rx;obtain⟨aA,r,ht,hz⟩:=I.tuple hx
 have hlen:aA.toArray.size=xs.length:=by rw [zzC];exact r.length.symm
 refine⟨"tuple",_,PyProof.Rows.slot_tuple_getitem.lookup,ht.typeIs,HT.getItem_tuple_rev ht hs pk ?_ (by rw [hlen];exact hz)⟩;refine⟨.ref s.heap.objs.size,_,I.laid (t':=s.toks) (o:=.tup xs.reverse) (fun b ob q=>zzB _ q) (zzE _) ?_,rfl,q _ (I.hok.fresh (zzE _))⟩;exact⟨by rw [List.length_reverse];exact hz,_,vw r,IsTup.new _ _⟩
theorem Gy:D5 X (fun x H Q=>∃z,x=.str z∧z.length≤sizeLine∧Q (.str (eR z)) H):=by
 intro pins s σ H x v vk sl Q I rx hs pk h;obtain⟨z,rfl,hz,q⟩:=h
 obtain⟨t,rfl⟩:=rx
 refine⟨"str",_,F.slot_str_getitem.lookup,typeIs_str _ _ _,?_⟩;cases pk with
 |int i ui=>
  refine wpAny_getItem_str_slice (l:=none) (u:=none) (st:=some (-1,ui)) hs rfl ?_;have e:sliceMade z t none none (some (-1,ui))=.str (eR z):=by
   unfold sliceMade;rw [if_neg (fun q=>by rw [zza] at q;exact absurd q.1 (show¬((-1:Int)==1)=true by decide))]
   unfold slicePicked eR
   congr 2
   show((Builtin.Str.strSliceIndices none none (-1) z.length).filterMap (z.cps[·]?)).toArray=_
   rw [Bs,PySem.W.krv_range,List.filterMap_reverse]
   congr 2
   have:=PySem.W.krv_all z.cps
   exact this
  rw [e];refine⟨?_,⟨.str _,H,I.tok _,⟨_,rfl⟩,q⟩⟩;show(eR z).cps.size≤sizeLine;have:(eR z).cps.size=z.length:=by simp [eR,Str.length]
  rw [this];exact hz
def Qe(r:V→Hp→VK→Prop)(te ts:TE):TE:=fun σ H Q=>te σ H fun x H1=>ts σ H1 fun k H2=>k=.int (-1)∧r x H2 Q
theorem EK{r:V→Hp→VK→Prop}(hr:D5 X r)(he:PE X e te)(hs:PE X st ts):PE X (.Subscript e (.Slice none none (some st) p2) pos) (Qe r te ts):=by
 intro pins s σ H Q I h;refine Subscript_ (bJ (he pins s σ H _ I h) fun v s1 ⟨x,H1,I1,r1,q1⟩=>?_)
 refine wpAny_Slice ?_;rw [evalPart_none];refine zzG (zzG ?_);rw [evalPart_some];refine bJ (hs pins s1 σ H1 _ I1 q1) fun u s3 ⟨k,H3,I3,r3,q3⟩=>?_
 obtain⟨rfl,q3⟩:=q3
 obtain⟨t,rfl⟩:=r3
 have I4:Inv X pins σ H3 {s3 with heap:=s3.heap.push {cls:=.type "slice",data:=.fields #[.none,.none,.int (-1) t]}}:=I3.kept (t':=s3.toks) fun b ob q=>zzB _ q
 obtain⟨T,id,hT,ht,hg⟩:=hr pins {s3 with heap:=s3.heap.push {cls:=.type "slice",data:=.fields #[.none,.none,.int (-1) t]}} σ H3 x v (.int (-1) t) s3.heap.objs.size Q I4 r1 (Heap.IsSliceOf.new ..) (.int _ _) q3
 show wpAny (model X.prog X.w) X.A (subscriptTail e (.Slice none none (some st) p2) v (.ref s3.heap.objs.size)) (EP X pins σ Q) X.xe {s3 with heap:=s3.heap.push {cls:=.type "slice",data:=.fields #[.none,.none,.int (-1) t]}}
 exact tail_any (ops:=[v,.ref s3.heap.objs.size]) ht hT hg (by with_unfolding_all rfl)
end
end L2
namespace L2
open PySem PySem.Spec PyProof.Rows PySem.W
def qN:List (List Int)→List (List Int)→Bool
 |[],[]=>false
 |[],_::_=>true
 |_::_,[]=>false
 |x::xs,y::ys=>if x=y then qN xs ys else HT.lexLt x y
theorem iR:∀{x y:List Int} (a b:List Int),x.length=y.length→HT.lexLt (x++a) (y++b)=if x=y then HT.lexLt a b else HT.lexLt x y
 |[],[],a,b,_=>by simp
 |[],_::_,_,_,h=>by simp at h
 |_::_,[],_,_,h=>by simp at h
 |x::xs,y::ys,a,b,h=>by
  rw [List.cons_append,List.cons_append,HT.lexLt_cons,HT.lexLt_cons,iR a b (by simpa using h)]
  by_cases e:x=y
  ·subst e;simp
  ·simp [e]
theorem mr:∀(k m:List (List Int)),(∀x∈k,x.length=2)→(∀x∈m,x.length=2)→qN k m=HT.lexLt k.flatten m.flatten
 |[],[],_,_=>rfl
 |[],y::ys,_,h=>by
  have:=h y (.head _)
  match y,this with
  |[_,_],_=>rfl
 |x::xs,[],h,_=>by
  have:=h x (.head _)
  match x,this with
  |[_,_],_=>rfl
 |x::xs,y::ys,h,g=>by
  rw [List.flatten_cons,List.flatten_cons,iR _ _ ((h x (.head _)).trans (g y (.head _)).symm),qN,mr xs ys (fun z hz=>h z (.tail _ hz)) fun z hz=>g z (.tail _ hz)]
section
open PySem.SeqAt
open PySem.AutoSeq1 (wpAny_loadPart')
open PySem.MeetsSeq PySem.MeetsSeq2 PySem.MeetsSeq3
def rK(A:Around)(s:Shared)(y x:Value)(b:Bool):Prop:=∀(prog:Program) (w:World) (E:Value→Shared→Prop) (Q:Value→Shared→Prop),Q (.bool b) s→wpAny (model prog w) A (richCompare .Lt y x) Q E s
theorem vx(l b:Addr)(items aQ:Array Value)(n n2:Nat)(dd D9:Option Addr)(sl Az:Array (Option Value))(ks ms:List (List Int))(hk:items.size=ks.length)(hm:aQ.size=ms.length)(k:Nat):
 ∀i:Nat,items.size-i=k→i≤items.size→i≤aQ.size→Meets (Builtin.«list.__eq__.loop» ⟨[.ref l,.ref b,rawInt i,rawInt 0],[]⟩)
  (fun A R s=>s.heap.get? l=some {cls:=.type "list",dict:=dd,data:=.seq items n,slots:=sl}∧s.heap.get? b=some {cls:=.type "list",dict:=D9,data:=.seq aQ n2,slots:=Az}∧
   (∀j (h1:j<items.size) (h2:j<aQ.size),EqAt A.in1 s items[j] aQ[j] (decide (ks[j]=ms[j]))∧rK A.in1 s items[j] aQ[j] (HT.lexLt ks[j] ms[j]))∧
   R (.ok (.ret (.bool (qN (ks.drop i) (ms.drop i))))) s):=by
 induction k with
 |zero=>
  intro i hk0 hi1 Ez prog w A R s h;obtain⟨hp,g,d,tk,os⟩:=s;obtain⟨hl,hb,he,h⟩:=h
  wp_walk using wpAny_loadPart' hl,wpAny_loadPart' hb
  have e1:items[((i:Nat):Int).toNat]?=none:=by simp;omega
  have d1:ks.drop i=[]:=by simp;omega
  rw [d1] at h;rw [e1];cases e2:aQ[((i:Nat):Int).toNat]? with
  |none=>
   wp_walk using wpAny_loadPart' hl,wpAny_loadPart' hb
   have hz:aQ.size≤i:=by simpa using e2
   have d2:ms.drop i=[]:=by simp;omega
   rw [d2] at h;have:decide (items.size<aQ.size)=false:=by rw [decide_eq_false_iff_not];omega
   show R (.ok (.ret (.bool (decide (items.size<aQ.size))))) _
   rw [this];exact h
  |some y=>
   wp_walk using wpAny_loadPart' hl,wpAny_loadPart' hb
   have hz:i<aQ.size:=by
    have:=(Array.getElem?_eq_some_iff.mp e2).1
    simpa using this
   obtain⟨y',r,d2⟩:∃y' r,ms.drop i=y'::r:=⟨_,_,List.drop_eq_getElem_cons (by omega)⟩
   rw [d2] at h;have:decide (items.size<aQ.size)=true:=by rw [zzN];omega
   show R (.ok (.ret (.bool (decide (items.size<aQ.size))))) _
   rw [this];exact h
 |succ k ih=>
  intro i hk0 hi1 Ez prog w A R s h;obtain⟨hp,g,d,tk,os⟩:=s;obtain⟨hl,hb,he,h⟩:=h
  wp_walk using wpAny_loadPart' hl,wpAny_loadPart' hb
  have bR:i<items.size:=by omega
  have e1:items[((i:Nat):Int).toNat]?=some items[i]:=by simp [bR]
  have hc:((i:Int)+1)=((i+1:Nat):Int):=by push_cast;rfl
  have d1:ks.drop i=ks[i]'(by omega)::ks.drop (i+1):=List.drop_eq_getElem_cons (by omega)
  rw [d1] at h;rw [e1]
  by_cases iG:i<aQ.size
  ·have e2:aQ[((i:Nat):Int).toNat]?=some aQ[i]:=by simp [iG]
   have d2:ms.drop i=ms[i]'(by omega)::ms.drop (i+1):=List.drop_eq_getElem_cons (by omega)
   rw [d2,qN] at h;rw [e2];obtain⟨q1,q2⟩:=he i bR iG
   refine zzA (q1 prog w _ _ ?_)
   by_cases hq:ks[i]'(by omega)=ms[i]'(by omega)
   ·rw [if_pos hq] at h;rw [zzh hq]
    wp_walk
    rw [hc];exact⟨plainId_quiet plain_eq_loop _,codeAny_builtin entry_eq_loop (by
     rw [Around.under_plainId plain_eq_loop _];exact ih (i+1) (by omega) (by omega) (by omega) prog w A R _ ⟨hl,hb,he,h⟩)⟩
   ·rw [if_neg hq] at h;rw [decide_eq_false hq]
    wp_walk using wpAny_loadPart' hl,wpAny_loadPart' hb
    rw [e1,e2];have Lx:=q2 prog w
    wp_walk using Lx
    exact h
  ·have e2:aQ[((i:Nat):Int).toNat]?=none:=by simp;omega
   have d2:ms.drop i=[]:=by simp;omega
   rw [d2] at h;rw [e2]
   wp_walk using wpAny_loadPart' hl,wpAny_loadPart' hb
   have:decide (items.size<aQ.size)=false:=by rw [decide_eq_false_iff_not];omega
   show R (.ok (.ret (.bool (decide (items.size<aQ.size))))) _
   rw [this];exact h
theorem wR(l b:Addr)(items aQ:Array Value)(n n2:Nat)(dd D9:Option Addr)(sl Az:Array (Option Value))(ks ms:List (List Int))(hk:items.size=ks.length)(hm:aQ.size=ms.length):
 Meets (Builtin.«list.__lt__» ⟨[.ref l,.ref b],[]⟩)
  (fun A R s=>s.heap.get? l=some {cls:=.type "list",dict:=dd,data:=.seq items n,slots:=sl}∧s.heap.get? b=some {cls:=.type "list",dict:=D9,data:=.seq aQ n2,slots:=Az}∧
   (∀j (h1:j<items.size) (h2:j<aQ.size),EqAt A.in1 s items[j] aQ[j] (decide (ks[j]=ms[j]))∧rK A.in1 s items[j] aQ[j] (HT.lexLt ks[j] ms[j]))∧
   R (.ok (.ret (.bool (qN ks ms)))) s):=by
 intro prog w A R s h;obtain⟨hp,g,d,tk,os⟩:=s;obtain⟨hl,hb,he,h⟩:=h
 have f3:=AutoSeq1.sub_list_list
 wp_walk using wpAny_loadPart' hl,wpAny_loadPart' hb
 exact⟨plainId_quiet plain_eq_loop _,codeAny_builtin entry_eq_loop (by
  rw [Around.under_plainId plain_eq_loop _];exact vx l b items aQ n n2 dd D9 sl Az ks ms hk hm _ 0 rfl (Nat.zero_le _) (Nat.zero_le _) prog w A R _ ⟨hl,hb,he,by simpa using h⟩)⟩
end
theorem Bb{A:Around}{s:Shared}{b b':Addr}{o o':Obj}{aA its':Array Value}{n n':Nat}{ns ms:List Int}(hu:A.units+2<cLine)(g1:s.heap.get? b=some o)(g2:o.cls=.type "tuple")(g3:o.data=.seq aA n)(g4:Vals (ns.map V.int) aA.toList)(k1:s.heap.get? b'=some o')(k2:o'.cls=.type "tuple")(k3:o'.data=.seq its' n')(k4:Vals (ms.map V.int) its'.toList):
 SeqAt.EqAt A s (.ref b) (.ref b') (decide (ns=ms))∧rK A s (.ref b) (.ref b') (HT.lexLt ns ms):=by
 have p1:IsTup s.heap b aA:=⟨o,g1,g2,n,g3⟩
 have p2:IsTup s.heap b' its':=⟨o',k1,k2,n',k3⟩
 have l1:=g4.length
 have l2:=k4.length
 rw [zzl] at l1 l2;refine⟨?_,fun prog w E Q q=>HT.lt_tupInts p1 p2 (intsAre_of g4) (intsAre_of k4) (by omega) q⟩
 by_cases hb:b=b'
 ·subst hb;rw [g1] at k1;cases k1;rw [g3] at k3;cases k3;have:ns=ms:=by
   refine List.ext_getElem (by omega) fun j h1 h2=>?_
   have hj:j<aA.toList.toArray.size:=by simp only [zzC];omega
   obtain⟨t1,e1⟩:=int_at g4 j hj
   obtain⟨t2,e2⟩:=int_at k4 j hj
   rw [e1] at e2
   injection e2 with e3
   simpa [h1,h2] using e3
  rw [zzh this];exact .same _
 ·refine .of_refs hb ?_;have:=SeqAt.RcAt.tuples (A:=A) (e:=fun j=>ns.getD j 0==ms.getD j 0) (show s.heap.IsTuple b aA from p1) (show s.heap.IsTuple b' its' from p2) (by omega) (fun j h1 h2=>by
   obtain⟨t1,e1⟩:=int_at g4 j h1
   obtain⟨t2,e2⟩:=int_at k4 j h2
   rw [show aA[j]=_ from e1,show its'[j]=_ from e2];exact SeqAt.EqAt.int_int _ _ _ _)
  rw [←zzd,←zzd,←l1,←l2,xt] at this;exact this
def yU(h:Heap)(vs:List Value)(dR:List (List (List Int))):Prop:=Paired (fun v ks=>∃b o aA n,v=.ref b∧h.get? b=some o∧o.cls=.type "list"∧o.data=.seq aA n∧iM h aA.toList ks) vs dR
section
variable{prog:Program}{w:World}{A:Around}{E:Value→Shared→Prop}{s:Shared}{vs:List Value}{dR:List (List (List Int))}
theorem xr(hu:A.units+8<cLine)(t1:yU s.heap vs dR)(h2:2≤vs.length):Hz prog w A E vs (fun i j=>qN (dR.getD i []) (dR.getD j [])) s:=by
 have hlen:vs.length=dR.length:=Paired.length t1
 refine⟨oneType',fun Q q=>kas_kind (T:=.type "list") h2 (fun v hv=>?_) rfl rfl q,fun i j C hi hj hC=>?_⟩
 ·obtain⟨i,hi,rfl⟩:=List.getElem_of_mem hv
  obtain⟨b,o,aA,n,e1,g1,g2,g3,g4⟩:=cN t1 (zzg hi) (zzg (show i<dR.length by omega))
  rw [e1,←g2];exact fun A Q E s' k q=>wpAny_typeOf_ref (k _ _ g1) q
 ·unfold kas_ask;obtain⟨b,⟨cls,dd,data,sl⟩,aA,n,e1,g1,g2,g3,g4⟩:=cN t1 (zzg hi) (zzg (show i<dR.length by omega))
  obtain⟨b',⟨cls',AB,data',sl'⟩,its',n',IP,AQ,DE,g3',g4'⟩:=cN t1 (zzg hj) (zzg (show j<dR.length by omega))
  simp only at g2 g3 DE g3';subst g2 g3 DE g3';have v1:vs.getD i Value.none=.ref b:=by simp [hi,e1]
  have v2:vs.getD j Value.none=.ref b':=by simp [hj,IP]
  have n1:dR.getD i []=dR[i]'(by omega):=by simp [show i<dR.length by omega]
  have n2:dR.getD j []=dR[j]'(by omega):=by simp [show j<dR.length by omega]
  rw [v1,v2,keyLt'_oneType,oneLt'_eq];dsimp only at hC;rw [n1,n2] at hC;simp only [if_true];refine zzA (wpAny_cRoomFor (by omega) ?_);refine zzA (wpAny_callSpecialIfBound?_slot (T:="list") ⟨_,g1,rfl⟩ PySem.F.slot_list_lt (call_meets PySem.F.slot_list_lt ⟨_,g1,rfl⟩ PySem.F.entry_list_lt (PySem.F.args_list_lt_2 _ _) (wR b b' aA its' n n' dd AB sl sl' _ _ (by rw [←zzd];exact Paired.length g4) (by rw [←zzd];exact Paired.length g4')) ⟨g1,AQ,fun k h1 h2=>?_,?_⟩))
  ·obtain⟨x,o,xs,m,q1,q2,q3,q4,q5,_⟩:=cN g4 (i:=k) (by rw [Array.getElem?_toList];exact Array.getElem?_eq_getElem h1) (zzg (by have:=Paired.length g4;rw [zzd] at this;omega))
   obtain⟨x',o',HD,m',q1',q2',q3',q4',Kz,_⟩:=cN g4' (i:=k) (by rw [Array.getElem?_toList];exact Array.getElem?_eq_getElem h2) (zzg (by have:=Paired.length g4';rw [zzd] at this;omega))
   rw [q1,q1'];exact Bb (by show A.units+1+2<_;omega) q2 q3 q4 q5 q2' q3' q4' Kz
  ·exact wpAny_truthy_bool hC
end
abbrev Fi(K:PySem.W.Frag)(H:Hp)(vs:List V)(dR:List (List (List Int))):Prop:=Paired (fun v ks=>∃b us,v=V.ref b∧iU K H b us∧kq K H us ks) vs dR
section
variable{X:Cx}{pins:List (Addr×Obj)}{σ:St}{H:Hp}{s:Shared}{A:Around}{E:Value→Shared→Prop}
theorem BA(I:Inv X pins σ H s):∀{vs:List V} {us:List Value} {dR:List (List (List Int))},Vals vs us→Fi X.K H vs dR→yU s.heap us dR:=by
 intro vs us dR r t
 induction t generalizing us with
 |nil=>cases r;exact .nil
 |cons h t ih=>
  obtain⟨b,xs,rfl,hq,hi⟩:=h
  cases r with
  |cons r1 r2=>
   cases(show _=Value.ref b from r1);obtain⟨aA,rv,p,_⟩:=I.list hq
   obtain⟨o,g1,g2,n,g3⟩:=p.isList
   exact .cons ⟨b,o,aA.toArray,n,rfl,g1,g2,g3,u0 I rv hi⟩ (ih r2)
theorem pU(dR:List (List (List Int)))(i:Nat):(dR.map List.flatten).getD i []=(dR.getD i []).flatten:=by
 rw [zzK,zzK,zzQ];cases dR[i]?<;>rfl
theorem lR(hu:X.A.units+64<cLine):cu X (.builtin "sorted") (fun xs H Q=>∃a vs dR,xs=[V.ref a]∧iU X.K H a vs∧Fi X.K H vs dR∧(∀ks∈dR,∀k∈ks,k.length=2)∧vs.length<64∧∀p,H p=none→Q (.ref p) (upd H p (.lst (gR V.non vs (dR.map List.flatten))))):=by
 intro pins s σ H xs us Q I r h;obtain⟨a,vs,dR,rfl,hl,t,h2,yb,q⟩:=h
 obtain⟨u,rfl,ru⟩:=vals1 r
 cases ru;obtain⟨aA,rv,p,hz⟩:=I.list hl
 refine Calls.call_function_entry kind_sorted plain_sorted entry_sorted (args_sorted1 _) ?_;unfold Builtin.«sorted»;refine zzA (m:=checkCount "sorted" 1 1 _) (zzG (zzA (collect_list p.isList ?_ (by have:=rv.length;rw [sizeLine_eq];omega))));have I1:=I.kept (t':=s.toks) (h':=(s.heap.push (seqObj "list" #[] 0)).update s.heap.objs.size (Obj.mapSeq (·++aA.toArray))) fun b o e=>by
  have bR:b<s.heap.objs.size:=zzO e
  rw [Heap.get?_update_ne _ _ _ _ (zzb bR),Heap.get?_push_ne _ _ _ (zzb bR)];exact e
 refine gy I1 rv (fun hn h' k=>?_) yb q;have hg:∀i,∀x∈dR.getD i [],x.length=2:=fun i x hx=>by
  rw [zzK] at hx;cases e:dR[i]? with
  |none=>rw [e] at hx;cases hx
  |some ks=>rw [e] at hx;exact h2 ks (zzD e) x hx
 have e:(fun i j=>HT.lexLt ((dR.map List.flatten).getD i []) ((dR.map List.flatten).getD j []))=fun i j=>qN (dR.getD i []) (dR.getD j []):=by
  funext i j
  rw [pU,pU,mr _ _ (hg i) (hg j)]
 rw [e];exact xr (by show X.A.units+1+1+8<_;omega) (BA (I1.kept (t':=s.toks) k) rv t) hn
end
end L2
namespace L2
open PySem PySem.Spec PyProof.Rows
section
variable{X:Cx}
end
def eZ(ns:List Int):Nat→Int
 |0=>ns.getD 0 0
 |k+1=>if eZ ns k<ns.getD (k+1) 0 then ns.getD (k+1) 0 else eZ ns k
theorem kh(ns:List Int):∀k,ns.getD (argBest (fun i j=>decide (ns.getD i 0>ns.getD j 0)) k) 0=eZ ns k
 |0=>rfl
 |k+1=>by
  rw [argBest,eZ,kh ns k]
  by_cases h:eZ ns k<ns.getD (k+1) 0
  ·rw [if_pos h,if_pos (zzh h)]
  ·rw [if_neg h,if_neg (fun z=>h (zzY z)),kh ns k]
theorem wx{X:Cx}(hc:X.calm=true):cu X (.builtin "max") (fun xs H Q=>∃(p:Addr) (ns:List Int),xs=[.ref p]∧iU X.K H p (ns.map V.int)∧0<ns.length∧Q (.int (eZ ns (ns.length-1))) H):=by
 intro pins s σ H xs us Q I r h;obtain⟨p,ns,rfl,hp,h0,q⟩:=h
 obtain⟨u,rfl,ru⟩:=vals1 r
 cases ru;obtain⟨aA,rv,pl,hz⟩:=I.list hp
 have bR:p<s.heap.objs.size:=by obtain⟨_,e,_⟩:=pl.isList;exact zzO e
 have hlen:aA.length=ns.length:=by rw [←rv.length,zzl]
 have JP:∀i v,aA.toArray[i]?=some v→∃t,v=Value.int (ns.getD i 0) t:=fun i v hP=>by
  have hv:aA[i]?=some v:=by simpa using hP
  have hi:i<ns.length:=by rw [←hlen];exact(zzH.mp hv).1
  obtain⟨u,hu,t,ru⟩:=rv.get (i:=i) (x:=V.int ns[i]) (by rw [zzQ,zzg hi];rfl)
  rw [hv] at hu;cases hu;refine⟨t,?_⟩;rw [ru,zzK,zzg hi]
  rfl
 refine call_max_walk (wpAny_pyIter_list pl.isList ?_);refine⟨s.heap.objs.size,_,_,aA.toArray.size,_,_,_,rfl,Walks.list (A:=X.A.in1) (I.ok.hd hc) s.heap.objs.size p (zzb bR) aA.toArray,⟨⟨_,zzX _ rfl,rfl,rfl⟩,pl.isList.push _⟩,fun b hb=>?_,by rw [zzC,hlen];exact h0,CmpOf.ints_gt (fun i=>ns.getD i 0) JP,fun v h' tk hP hk=>?_⟩
 ·have:b=s.heap.objs.size∨b=p:=by simpa using hb
  rw [Heap.size_push];rcases this with e|e
  ·rw [e];exact Nat.lt_succ_self _
  ·rw [e];exact Nat.lt_succ_of_lt bR
 ·obtain⟨t,rfl⟩:=JP _ _ hP
  rw [kh,zzC,hlen];exact⟨.int _,H,I.kept fun b o e=>hk b o (by simp;exact zzb (zzO e)) (zzB _ e),⟨_,rfl⟩,q⟩
end L2
namespace Ci
open PySem L2
inductive Res(α:Type) where
 |ok (a:α)|exc (c:Str)|bad
@[inline] def Res.bind{α β:Type}:Res α→(α→Res β)→Res β
 |.ok a,f=>f a
 |.exc c,_=>.exc c
 |.bad,_=>.bad
instance:Monad Res where
 pure:=.ok
 bind:=Res.bind
theorem Res.bind_ok{α β:Type}{r:Res α}{f:α→Res β}{b:β}(h:r.bind f=.ok b):∃a,r=.ok a∧f a=.ok b:=by
 cases r with
 |ok a=>exact⟨a,rfl,h⟩
 |exc c=>cases h
 |bad=>cases h
theorem Res.bind_exc{α β:Type}{r:Res α}{f:α→Res β}{c:Str}(h:r.bind f=.exc c):r=.exc c∨∃a,r=.ok a∧f a=.exc c:=by
 cases r with
 |ok a=>exact .inr ⟨a,rfl,h⟩
 |exc c'=>cases h;exact .inl rfl
 |bad=>cases h
def Res.of{α:Type}:Option α→Res α
 |some a=>.ok a
 |none=>.bad
def Res.well{α:Type}:Res α→Res α
 |.ok a=>.ok a
 |_=>.bad
abbrev c8:Nat:=1000000
def eqs(f:PV→PV→Bool):List PV→List PV→Bool
 |[],[]=>true
 |x::xs,y::ys=>f x y&&eqs f xs ys
 |_,_=>false
noncomputable def ip:Nat→PV→PV→Bool
 |_,.non,.non=>true
 |_,.bl a,.bl b=>a==b
 |_,.bl a,.int i=>(if a then 1 else 0)==i
 |_,.int i,.bl a=>i==(if a then 1 else 0)
 |_,.int i,.int j=>i==j
 |_,.str x,.str y=>x==y
 |n+1,.tup xs,.tup ys=>eqs (ip n) xs ys
 |n+1,.lst xs,.lst ys=>eqs (ip n) xs ys
 |_,_,_=>false
noncomputable def plain:Nat→PV→Bool
 |_,.non=>true
 |_,.bl _=>true
 |_,.int _=>true
 |_,.str _=>true
 |n+1,.tup xs=>xs.all (plain n)
 |n+1,.lst xs=>xs.all (plain n)
 |_,_=>false
abbrev DP:Nat:=9
noncomputable abbrev eqv:PV→PV→Bool:=ip DP
noncomputable abbrev pln:PV→Bool:=plain DP
inductive Hx where|add|sub|mul|mod|fdiv
inductive yd where|eq|ne|lt|le|gt|isn|in_|nin
def aW(i:Int):Bool:=decide (-(2^64)<i)&&decide (i<2^64)
noncomputable def binOp:Hx→PV→PV→Res PV
 |.add,.int i,.int j=>.ok (.int (i+j))
 |.add,.str x,.str y=>if x.length+y.length≤c8 then .ok (.str (x++y)) else .bad
 |.add,.lst x,.lst y=>if x.length+y.length≤c8 then .ok (.lst (x++y)) else .bad
 |.sub,.int i,.int j=>.ok (.int (i-j))
 |.mul,.int i,.int j=>if aW i||aW j then .ok (.int (i*j)) else .bad
 |.mod,.int i,.int j=>if 0<j then .ok (.int (i%j)) else .bad
 |.fdiv,.int i,.int j=>if 0<j∧j<1073741824 then .ok (.int (i/j)) else .bad
 |_,_,_=>.bad
def intsOf:List PV→Option (List Int)
 |[]=>some []
 |.int i::r=>(intsOf r).map (i::·)
 |_=>none
def aD{α:Type}:List (List Int)→List α→List Int→Option α
 |k'::ks,v::vs,k=>if k'=k then some v else aD ks vs k
 |_,_,_=>none
def bW(ks:List (List Int))(k:List Int):Bool:=ks.any fun k'=>decide (k'=k)
def aX(ks:List (List Int))(k:List Int):List (List Int):=if bW ks k then ks else ks++[k]
def bu{α:Type}(ks:List (List Int))(vs:List α)(k:List Int)(p:α):List α:=if bW ks k then List.zipWith (fun k' v=>if k'=k then p else v) ks vs else vs++[p]
def bP(ks:List (List Int))(k:List Int):List (List Int):=ks.filter fun k'=>decide (k'≠k)
def aZ{α:Type}:List (List Int)→List α→List Int→List α
 |k'::ks,v::vs,k=>if k'=k then aZ ks vs k else v::aZ ks vs k
 |_,_,_=>[]
def ah(k:List Int):PV:=.tup (k.map .int)
def gK:PV→Option (List Int)
 |.tup xs=>intsOf xs
 |_=>none
def hW:List PV→Option (List (List Int))
 |[]=>some []
 |x::r=>(gK x).bind fun k=>(hW r).map (k::·)
noncomputable def AM(x:PV)(ys:List PV):Bool:=ys.any fun y=>eqv y x
noncomputable def gq(a b:PV):Res PV:=if pln a&&pln b then .ok (.bl (eqv a b)) else .bad
noncomputable def gP(a b:PV):Res PV:=if pln a&&pln b then .ok (.bl (!eqv a b)) else .bad
def qo:PV→PV→Res PV
 |.int i,.int j=>.ok (.bl (decide (i<j)))
 |_,_=>.bad
def ql:PV→PV→Res PV
 |.int i,.int j=>.ok (.bl (decide (i≤j)))
 |_,_=>.bad
def sj:PV→PV→Res PV
 |.int i,.int j=>.ok (.bl (decide (j<i)))
 |_,_=>.bad
def D6:PV→Bool
 |.non=>true
 |_=>false
def i6:PV→PV→Res PV
 |a,.non=>.ok (.bl (!D6 a))
 |_,_=>.bad
noncomputable def pz:PV→PV→Res PV
 |a,.tup ys=>if pln a&&ys.all pln then .ok (.bl (AM a ys)) else .bad
 |_,_=>.bad
def gX:PV→PV→Res PV
 |a,.dct ks _=>(Res.of (gK a)).bind fun k=>.ok (.bl (!bW ks k))
 |_,_=>.bad
noncomputable def du:yd→PV→PV→Res PV
 |.eq=>gq|.ne=>gP|.lt=>qo|.le=>ql|.gt=>sj|.isn=>i6|.in_=>pz|.nin=>gX
noncomputable def bw:PV→PV→Res PV
 |.lst xs,.int i=>Res.of (rk xs i)
 |.tup xs,.int i=>Res.of (rk xs i)
 |.str z,.int i=>if z.length≤c8 then(Res.of (rk z.cps.toList i)).bind fun c=>.ok (.str ⟨#[c]⟩) else .bad
 |.dct ks vs,y=>(Res.of (gK y)).bind fun k=>Res.of (aD ks vs k)
 |_,_=>.bad
inductive B where|len|abs|max2|int|str|tuple|sorted|sortedL|max1
def chars(z:Str):List PV:=z.cps.toList.map fun c=>.str ⟨#[c]⟩
noncomputable def sP:List PV→Res PV
 |[.lst xs]=>.ok (.int xs.length)
 |[.tup xs]=>.ok (.int xs.length)
 |[.str z]=>if z.length≤c8 then .ok (.int z.length) else .bad
 |[.dct ks _]=>.ok (.int ks.length)
 |_=>.bad
def zi:List PV→Res PV
 |[.int i]=>.ok (.int (if i<0 then -i else i))
 |_=>.bad
def zT:List PV→Res PV
 |[.int i,.int j]=>.ok (.int (if j>i then j else i))
 |_=>.bad
def x9:List PV→Res PV
 |[.str z]=>if z.length≤640 then(Res.of (PySem.intText? z)).bind fun n=>.ok (.int n) else .bad
 |_=>.bad
def Ab:List PV→Res PV
 |[.int i]=>if i.natAbs.log2<1920 then .ok (.str (toString i)) else .bad
 |_=>.bad
def j6:List PV→Res PV
 |[.lst xs]=>.ok (.tup xs)
 |_=>.bad
noncomputable def hJ:List PV→Res PV
 |[.lst xs]=>(Res.of (hW xs)).bind fun nss=>if decide (xs.length<64)&&nss.all (fun k=>!k.isEmpty) then .ok (.lst (gR .non xs nss)) else .bad
 |[.dct ks _]=>if decide (ks.length<64)&&ks.all (fun k=>!k.isEmpty) then .ok (.lst (gR .non (ks.map ah) ks)) else .bad
 |_=>.bad
def rR:List PV→Option (List (List (List Int)))
 |[]=>some []
 |.lst xs::r=>(hW xs).bind fun ks=>(rR r).map (ks::·)
 |_=>none
noncomputable def fC:List PV→Res PV
 |[.lst xs]=>(Res.of (rR xs)).bind fun dR=>if decide (xs.length<64)&&dR.all (fun ks=>ks.all fun k=>k.length==2) then .ok (.lst (gR .non xs (dR.map List.flatten))) else .bad
 |_=>.bad
def qC:List PV→Res PV
 |[.lst xs]=>(Res.of (intsOf xs)).bind fun ns=>if 0<ns.length then .ok (.int (eZ ns (ns.length-1))) else .bad
 |_=>.bad
noncomputable def cJ:B→List PV→Res PV
 |.len=>sP|.abs=>zi|.max2=>zT|.int=>x9|.str=>Ab|.tuple=>j6|.sorted=>hJ|.sortedL=>fC|.max1=>qC
inductive Ty where|int|bool|tuple
def ay:Ty→PV→Bool
 |.int,.int _=>true
 |.int,.bl _=>true
 |.bool,.bl _=>true
 |.tuple,.tup _=>true
 |_,_=>false
def az(t:Ty):PV→Res PV
 |.exc _=>.bad
 |.dct _ _=>.bad
 |p=>.ok (.bl (ay t p))
def strsOf:List PV→Option (List Str)
 |[]=>some []
 |.str z::r=>(strsOf r).map (z::·)
 |_=>none
inductive M where|join
noncomputable def pQ:List PV→Res PV
 |[.str z,.lst xs]=>(Res.of (strsOf xs)).bind fun ys=>if z.length≤16∧(ys.map (·.length)).sum+ys.length≤c8 then .ok (.str (Txt.join z ys)) else .bad
 |[.str z,.tup xs]=>(Res.of (strsOf xs)).bind fun ys=>if z.length≤16∧(ys.map (·.length)).sum+ys.length≤c8 then .ok (.str (Txt.join z ys)) else .bad
 |_=>.bad
noncomputable def mI:M→List PV→Res PV
 |.join=>pQ
def mM:M→PV→Bool
 |.join,.str _=>true
 |_,_=>false
inductive Tg where
 |one (i:Nat)|two (i j:Nat)|three (i j k:Nat)
mutual
inductive E where
 |var (i:Nat)|tmp (i:Nat)
 |cst (p:PV)
 |glob (g:Str) (p:PV)
 |call (f:Str) (as:Es)
 |callv (i:Nat) (as:Es)
 |callL (f:Str) (as:Es) (g:Str) (idx:List Nat) (bf:List Nat)
 |blt (b:B) (as:Es)
 |ty (t:Ty) (a:E)
 |mth (m:M) (o:E) (as:Es)
 |bin (o:Hx) (a b:E)
 |cmp (o:yd) (a b:E)
 |ch (o1 o2:yd) (a b c:E)
 |not (a:E)
 |neg (a:E)
 |and (a b:E)|or (a b:E)
 |ite (c a b:E)
 |tup (as:Es)|lst (as:Es)
 |sub (a b:E)
 |comp (k:Nat) (bf:List Nat) (tg:Tg) (it:I) (elt:E)
 |compIf (k:Nat) (bf:List Nat) (tg:Tg) (it:I) (c elt:E)
 |rev (a:E)
inductive Es where
 |nil|cons (e:E) (es:Es)
inductive Oe where
 |no|some (e:E)
inductive I where
 |seq (e:E)|rng (e:E)|rng2 (a b:E)|enum (e:E)
end
mutual
inductive S where
 |expr (e:E)
 |set (i:Nat) (e:E)
 |own (i:Nat) (e:E)
 |frz (i:Nat)
 |app (i:Nat) (e:E)
 |extd (i:Nat) (e:E)
 |put (i:Nat) (k e:E)
 |pop (j i:Nat)
 |ret (e:E)
 |ite (c:E) (a b:Ss)
 |for_ (tg:Tg) (it:I) (b:Ss)
 |whl (c:E) (b:Ss)
 |raise (c:Str) (m:Str)
 |dnew (i:Nat)
 |dnew1 (i n:Nat) (b:Bool)
 |putPop (i j n:Nat)
 |minK (m i:Nat)
inductive Ss where
 |nil|cons (s:S) (ss:Ss)
end
def ei:List Int→Nat→Nat→Int→Nat
 |[],_,b,_=>b
 |c::cs,j,b,m=>if c<m then ei cs (j+1) j c else ei cs (j+1) b m
def zS:List Int→Option Nat
 |[]=>none
 |c::cs=>some (ei cs 1 0 c)
def gC:List PV→Option (List Int)
 |[]=>some []
 |.tup (.int c::_)::r=>(gC r).map (c::·)
 |_=>none
abbrev ba:=Str→List PV→Res PV
def uj:Option Slot→Res PV
 |some (.val p)=>.ok p
 |_=>.bad
def ym:Option Slot→Res PV
 |some (.val p)=>.ok p
 |some (.own p)=>.ok p
 |_=>.bad
noncomputable def Tg.put:Tg→PV→Sl→Res Sl
 |.one i,p,env=>.ok (env.set i (.val p))
 |.two i j,.tup [a,b],env=>.ok ((env.set i (.val a)).set j (.val b))
 |.three i j k,.tup [a,b,c],env=>.ok (((env.set i (.val a)).set j (.val b)).set k (.val c))
 |_,_,_=>.bad
def ji(env:Sl):List Nat→Res (List PV)
 |[]=>.ok []
 |i::r=>(uj env[i]?).bind fun p=>(ji env r).bind fun ps=>.ok (p::ps)
def fK(l:List PV):List Nat→Res (List PV)
 |[]=>.ok []
 |i::r=>(Res.of l[i]?).bind fun p=>(fK l r).bind fun ps=>.ok (p::ps)
def aw(env:Sl)(bf:List Nat):Sl:=bf.map fun i=>env.getD i .no
def itemsOf:PV→Res (List PV)
 |.lst xs=>.ok xs
 |.tup xs=>.ok xs
 |.str z=>.ok (chars z)
 |_=>.bad
def rM(e:E)(p:PV):Res (List PV):=match p,e with
 |.dct _ _,.tmp _=>.bad
 |.dct ks _,_=>.ok (ks.map ah)
 |p,_=>itemsOf p
def ff(lo:Int)(n:Nat):List PV:=(List.range n).map fun i=>.int (lo+(i:Nat))
def bj(i:Int):Bool:=decide (-(2^62)≤i)&&decide (i<2^62)
def cF(n:Nat):List PV→List PV
 |[]=>[]
 |x::xs=>.tup [.int (n:Nat),x]::cF (n+1) xs
def oc:Option PV→List PV→List PV
 |some y,ys=>y::ys
 |none,ys=>ys
def bb(f:PV→Res (Option PV)):List PV→Res (List PV)
 |[]=>.ok []
 |x::xs=>(f x).well.bind fun o=>(bb f xs).bind fun ys=>.ok (oc o ys)
def rY{α:Type}(p:PV)(f:Bool→Res α):Res α:=match p with
 |.bl b=>f b
 |_=>.bad
section
variable(F:ba)
mutual
noncomputable def ax:E→Sl→Res PV
 |.var i,env=>uj env[i]?
 |.tmp i,env=>ym env[i]?
 |.cst p,_=>.ok p
 |.glob _ p,_=>.ok p
 |.call f as,env=>(av as env).bind fun ps=>F f ps
 |.callv i as,env=>match env[i]? with
  |some (.fn g idx cK)=>(av as env).bind fun ps=>if idx.head?=some ps.length then(fK (ps++cK) idx.tail).bind fun qs=>F g qs else .bad
  |_=>.bad
 |.callL f as _ _ bf,env=>(av as env).bind fun ps=>(ji env bf).bind fun cs=>F f (ps++cs)
 |.blt b as,env=>(av as env).bind fun ps=>cJ b ps
 |.ty t a,env=>(ax a env).bind fun p=>az t p
 |.mth m o as,env=>(ax o env).bind fun p=>if mM m p then(av as env).bind fun ps=>mI m (p::ps) else .bad
 |.bin o a b,env=>(ax a env).bind fun x=>(ax b env).bind fun y=>binOp o x y
 |.cmp o a b,env=>(ax a env).bind fun x=>(ax b env).bind fun y=>du o x y
 |.ch o1 o2 a b c,env=>(ax a env).bind fun x=>(ax b env).bind fun y=>(du o1 x y).bind fun t=>rY t fun t=>
  if t then(ax c env).bind fun z=>du o2 y z else .ok (.bl false)
 |.not a,env=>(ax a env).bind fun x=>rY x fun b=>.ok (.bl (!b))
 |.neg a,env=>(ax a env).bind fun x=>match x with|.int i=>.ok (.int (-i))|_=>.bad
 |.and a b,env=>(ax a env).bind fun x=>rY x fun t=>if t then ax b env else .ok (.bl false)
 |.or a b,env=>(ax a env).bind fun x=>rY x fun t=>if t then .ok (.bl true) else ax b env
 |.ite c a b,env=>(ax c env).bind fun x=>rY x fun t=>if t then ax a env else ax b env
 |.tup as,env=>(av as env).bind fun ps=>.ok (.tup ps)
 |.lst as,env=>(av as env).bind fun ps=>.ok (.lst ps)
 |.sub a b,env=>(ax a env).bind fun x=>(ax b env).bind fun y=>bw x y
 |.comp k bf tg it elt,env=>(aU it env).bind fun xs=>if xs.length<c8 then(bb (fun x=>(tg.put x (List.replicate k .no++aw env bf)).bind fun aF=>(ax elt aF).bind fun y=>.ok (some y)) xs).bind fun ys=>.ok (.lst ys) else .bad
 |.compIf k bf tg it c elt,env=>(aU it env).bind fun xs=>if xs.length<c8 then(bb (fun x=>(tg.put x (List.replicate k .no++aw env bf)).bind fun aF=>(ax c aF).bind fun t=>rY t fun t=>if t then(ax elt aF).bind fun y=>.ok (some y) else .ok none) xs).bind fun ys=>.ok (.lst ys) else .bad
 |.rev a,env=>(ax a env).bind fun p=>match p with|.str z=>(if z.length≤c8 then .ok (.str (eR z)) else .bad)|.tup xs=>.ok (.tup xs.reverse)|_=>.bad
noncomputable def av:Es→Sl→Res (List PV)
 |.nil,_=>.ok []
 |.cons e es,env=>(ax e env).bind fun p=>(av es env).bind fun ps=>.ok (p::ps)
noncomputable def aV:Oe→Sl→Res (Option Int)
 |.no,_=>.ok none
 |.some e,env=>(ax e env).bind fun p=>match p with|.int i=>.ok (some i)|_=>.bad
noncomputable def aU:I→Sl→Res (List PV)
 |.seq e,env=>(ax e env).bind (rM e)
 |.rng e,env=>(ax e env).bind fun p=>match p with|.int j=>if bj j then .ok (ff 0 j.toNat) else .bad|_=>.bad
 |.rng2 a b,env=>(ax a env).bind fun p=>(ax b env).bind fun q=>match p,q with|.int i,.int j=>if bj i&&bj j then .ok (ff i (j-i).toNat) else .bad|_,_=>.bad
 |.enum e,env=>(ax e env).bind fun p=>(itemsOf p).bind fun xs=>.ok (cF 0 xs)
end
end
inductive Fl where
 |nx (env:Sl)|bk (env:Sl)|ct (env:Sl)|rt (p:PV)
def Fl.seq(f:Fl)(k:Sl→Res Fl):Res Fl:=match f with
 |.nx env=>k env
 |f=>.ok f
noncomputable def forL(body:PV→Sl→Res Fl):List PV→Sl→Res Fl
 |[],env=>.ok (.nx env)
 |x::xs,env=>(body x env).bind fun f=>match f with
  |.nx aF=>forL body xs aF
  |.ct aF=>forL body xs aF
  |.bk aF=>.ok (.nx aF)
  |.rt p=>.ok (.rt p)
noncomputable def cH(c:Sl→Res PV)(body:Sl→Res Fl):Nat→Sl→Res Fl
 |0,_=>.bad
 |n+1,env=>(c env).bind fun t=>rY t fun t=>if t then(body env).bind fun f=>(match f with
  |.nx aF=>cH c body n aF
  |.ct aF=>cH c body n aF
  |.bk aF=>.ok (.nx aF)
  |.rt p=>.ok (.rt p)) else .ok (.nx env)
abbrev WN:Nat:=1000000
def oH:Slot→Slot
 |.own p=>.val p
 |s=>s
section
variable(F:ba)
mutual
noncomputable def aN:S→Sl→Res Fl
 |.expr e,env=>(ax F e env).bind fun _=>.ok (.nx env)
 |.set i e,env=>(ax F e env).bind fun p=>.ok (.nx (env.set i (.val p)))
 |.own i e,env=>(ax F e env).bind fun p=>.ok (.nx (env.set i (.own p)))
 |.frz i,env=>.ok (.nx (env.modify i oH))
 |.app i e,env=>match env[i]? with
  |some (.own (.lst xs))=>(ax F e env).bind fun p=>if xs.length<c8 then .ok (.nx (env.set i (.own (.lst (xs++[p]))))) else .bad
  |_=>.bad
 |.extd i e,env=>match env[i]? with
  |some (.own (.lst xs))=>(ax F e env).bind fun p=>match p with
   |.lst ys=>if xs.length+ys.length≤c8 then .ok (.nx (env.set i (.own (.lst (xs++ys))))) else .bad
   |_=>.bad
  |_=>.bad
 |.put i k e,env=>(ax F e env).bind fun p=>match env[i]? with
  |some (.own (.dct ks vs))=>(ax F k env).bind fun kp=>match gK kp with
   |some kk=>if ks.length<c8 then .ok (.nx (env.set i (.own (.dct (aX ks kk) (bu ks vs kk p))))) else .bad
   |none=>.bad
  |_=>.bad
 |.pop j i,env=>match env[i]? with
  |some (.own (.lst xs))=>(Res.of xs[xs.length-1]?).bind fun p=>.ok (.nx ((env.set i (.own (.lst xs.dropLast))).set j (.val p)))
  |_=>.bad
 |.ret e,env=>(ax F e env).bind fun p=>.ok (.rt p)
 |.ite c a b,env=>(ax F c env).bind fun p=>rY p fun t=>if t then ai a env else ai b env
 |.for_ tg it b,env=>(aU F it env).bind fun xs=>forL (fun x env=>(tg.put x env).bind fun aF=>ai b aF) xs env
 |.whl c b,env=>cH (ax F c) (ai b) WN env
 |.raise c _,_=>.exc c
 |.dnew i,env=>.ok (.nx (env.set i (.own (.dct [] []))))
 |.dnew1 i n b,env=>(uj env[n]?).bind fun kp=>(Res.of (gK kp)).bind fun kk=>.ok (.nx (env.set i (.own (.dct [kk] [.bl b]))))
 |.putPop i j n,env=>match env[j]?,env[i]?,env[n]? with
  |some (.own (.dct ks vs)),some (.own (.dct ks2 vs2)),some (.val kp)=>match gK kp with
   |some kk=>match aD ks vs kk with
    |some p=>if ks2.length<c8∧i≠j then .ok (.nx ((env.set j (.own (.dct (bP ks kk) (aZ ks vs kk)))).set i (.own (.dct (aX ks2 kk) (bu ks2 vs2 kk p))))) else .bad
    |none=>.bad
   |none=>.bad
  |_,_,_=>.bad
 |.minK m i,env=>match env[i]? with
  |some (.own (.dct ks vs))=>match gC vs with
   |some cs=>match(zS cs).bind fun x=>ks[x]? with
    |some k=>.ok (.nx (env.set m (.val (ah k))))
    |none=>.bad
   |none=>.bad
  |_=>.bad
noncomputable def ai:Ss→Sl→Res Fl
 |.nil,env=>.ok (.nx env)
 |.cons s ss,env=>(aN s env).bind fun f=>f.seq (ai ss)
end
end
structure Def where
 N:List Str
 np:Nat
 body:Ss
 clo:Option (Str×List Nat):=none
noncomputable def aa(d:Def)(as:List PV):Sl:=match d.clo with
 |none=>as.map .val++List.replicate (d.N.length-as.length) .no
 |some q=>(as.take (d.np-1)).map .val++.fn q.1 q.2 (as.drop (d.np-1))::List.replicate (d.N.length-d.np) .no
noncomputable def ae(d:Def)(as:List PV):Bool:=match d.clo with
 |none=>as.length==d.np
 |some _=>decide (0<d.np)&&decide (d.np-1≤as.length)
noncomputable def ag(F:ba)(d:Def)(as:List PV):Res PV:=
 if ae d as then(ai F d.body (aa d as)).bind fun f=>match f with
  |.nx _=>.ok .non
  |.rt p=>.ok p
  |_=>.bad
 else .bad
noncomputable def den:List (Str×Def)→ba
 |[],_,_=>.bad
 |(n,d)::r,f,as=>if f==n then ag (den r) d as else den r f as
abbrev ki(k:List Int):List Key:=k.map Sum.inl
theorem rT{a b:List Int}(h:ki a=ki b):a=b:=by
 induction a generalizing b with
 |nil=>cases b with|nil=>rfl|cons=>cases h
 |cons x a ih=>cases b with
  |nil=>cases h
  |cons y b=>simp only [ki,zzF,List.cons.injEq,Sum.inl.injEq] at h;rw [h.1,ih h.2]
theorem qh(k:List Int):(ki k).map kV=k.map V.int:=by
 unfold ki;rw [List.map_map]
 rfl
theorem ik{k:List Int}{ks:List (List Int)}{u:V}{us:List V}:kz (k::ks) (u::us)=(ki k,u)::kz ks us:=rfl
theorem eY{ks:List (List Int)}{us:List V}(h:ks.length=us.length):(kz ks us).length=ks.length:=by
 unfold kz;rw [List.length_zip,zzl];omega
theorem og{ks:List (List Int)}{us:List V}(h:ks.length=us.length):(kz ks us).map (·.1)=ks.map ki:=by
 unfold kz;exact List.map_fst_zip (by rw [zzl];omega)
theorem kR(k:List Int):∀(ks:List (List Int)) (us:List V),gh (kz ks us) (ki k)=aD ks us k
 |[],us=>by unfold aD;rfl
 |a::ks,[]=>by unfold aD;rfl
 |a::ks,u::us=>by
  rw [ik];unfold aD
  by_cases h:a=k
  ·subst h;rw [if_pos rfl];exact fB rfl
  ·rw [if_neg h,fu (fun z=>h (rT z))];exact kR k ks us
theorem oD{α:Type}(k:List Int):∀(ks:List (List Int)) (us:List α),ks.length=us.length→(aD ks us k).isSome=bW ks k
 |[],[],_=>rfl
 |a::ks,u::us,h=>by
  unfold aD bW;rw [List.any_cons]
  by_cases e:a=k
  ·simp [e]
  ·rw [if_neg e];have:=oD k ks us (by simpa using h)
   unfold bW at this;rw [this];simp [e]
 |[],_::_,h=>by simp at h
 |_::_,[],h=>by simp at h
theorem FD(k:List Int):∀(ks:List (List Int)) (us:List V),ks.length=us.length→((kz ks us).any fun kv=>decide (kv.1=ki k))=bW ks k:=fun ks us h=>by
 rw [kM,kR,oD k ks us h]
theorem zW{ks:List (List Int)}{us:List V}(h:ks.length=us.length)(k:List Int)(v:V):putK (kz ks us) (ki k) v=kz (aX ks k) (bu ks us k v):=by
 unfold putK aX bu;rw [FD k ks us h];split
 ·have go:∀(ks:List (List Int)) (us:List V),(kz ks us).map (fun kv=>if kv.1=ki k then(kv.1,v) else kv)=kz ks (List.zipWith (fun k' u=>if k'=k then v else u) ks us):=by
   intro ks
   induction ks with
   |nil=>intro us;simp [kz]
   |cons a ks ih=>
    intro us;cases us with
    |nil=>simp [kz]
    |cons u us=>
     rw [ik,zzF,List.zipWith_cons_cons,ik,ih]
     by_cases e:a=k
     ·simp [e]
     ·rw [if_neg (fun z=>e (rT z)),if_neg e]
  exact go ks us
 ·unfold kz;rw [List.map_append,List.zip_append (by rw [zzl];exact h)]
  rfl
theorem qA{α:Type}{ks:List (List Int)}{us:List α}(h:ks.length=us.length)(k:List Int)(v:α):(aX ks k).length=(bu ks us k v).length:=by
 unfold aX bu;split
 ·rw [List.length_zipWith];omega
 ·simp [h]
theorem uO(k:List Int):∀{ks:List (List Int)} {us:List V},ks.length=us.length→e8 (kz ks us) (ki k)=kz (bP ks k) (aZ ks us k)
 |[],[],_=>rfl
 |a::ks,u::us,h=>by
  have ih:=uO k (ks:=ks) (us:=us) (by simpa using h)
  unfold bP aZ;rw [ik,List.filter_cons]
  by_cases e:a=k
  ·subst e;rw [wa rfl,ih];simp [bP]
  ·rw [wL (fun z=>e (rT z)),ih,if_neg e,if_pos (by simpa using e),ik]
   rfl
 |[],_::_,h=>by simp at h
 |_::_,[],h=>by simp at h
theorem pX{α:Type}(k:List Int):∀{ks:List (List Int)} {us:List α},ks.length=us.length→(bP ks k).length=(aZ ks us k).length
 |[],[],_=>by unfold aZ;rfl
 |a::ks,u::us,h=>by
  have ih:=pX k (ks:=ks) (us:=us) (by simpa using h)
  unfold bP aZ;rw [List.filter_cons]
  by_cases e:a=k
  ·subst e;rw [if_neg (by simp),if_pos rfl];exact ih
  ·rw [if_neg e,if_pos (by simpa using e),zzL,zzL];exact congrArg (·+1) ih
 |[],_::_,h=>by simp at h
 |_::_,[],h=>by simp at h
section
variable{W:Wd}{G:Hp}
theorem nN{k:List Int}{p:PV}:∀{ks:List (List Int)} {ps:List PV} {us:List V},ak W G ps us→aD ks ps k=some p→∃v,aD ks us k=some v∧Rep W G p v
 |[],_,_,_,e=>by unfold aD at e;cases e
 |a::ks,[],_,_,e=>by unfold aD at e;cases e
 |a::ks,q::ps,_,l,e=>by
  obtain⟨v,r,rfl,h1,h2⟩:=l.uncons
  unfold aD at e⊢
  by_cases h:a=k
  ·rw [if_pos h] at e⊢;cases e;exact⟨v,rfl,h1⟩
  ·rw [if_neg h] at e⊢;exact nN h2 e
theorem yg{k:List Int}{p:PV}{v:V}(hp:Rep W G p v):∀{ks:List (List Int)} {ps:List PV} {us:List V},ak W G ps us→ak W G (List.zipWith (fun k' v=>if k'=k then p else v) ks ps) (List.zipWith (fun k' u=>if k'=k then v else u) ks us)
 |[],_,_,_=>by simp only [List.zipWith_nil_left];exact .nil
 |a::ks,[],_,l=>by simp only [ak] at l;subst l;simp only [List.zipWith_nil_right];exact .nil
 |a::ks,q::ps,_,l=>by
  obtain⟨u,r,rfl,h1,h2⟩:=l.uncons
  rw [List.zipWith_cons_cons,List.zipWith_cons_cons];refine .cons ?_ (yg hp h2);split
  ·exact hp
  ·exact h1
theorem uI{ks:List (List Int)}{ps:List PV}{us:List V}{k:List Int}{p:PV}{v:V}(l:ak W G ps us)(hp:Rep W G p v):ak W G (bu ks ps k p) (bu ks us k v):=by
 unfold bu;split
 ·exact yg hp l
 ·exact l.append (.cons hp .nil)
theorem ko{k:List Int}:∀{ks:List (List Int)} {ps:List PV} {us:List V},ak W G ps us→ak W G (aZ ks ps k) (aZ ks us k)
 |[],_,_,_=>by unfold aZ;exact .nil
 |a::ks,[],_,l=>by simp only [ak] at l;subst l;unfold aZ;exact .nil
 |a::ks,q::ps,_,l=>by
  obtain⟨u,r,rfl,h1,h2⟩:=l.uncons
  unfold aZ;split
  ·exact ko h2
  ·exact .cons h1 (ko h2)
end
theorem my:∀{xs:List PV} {ns:List Int},intsOf xs=some ns→xs=ns.map .int
 |[],_,e=>by cases e;rfl
 |.int i::r,_,e=>by
  unfold intsOf at e;obtain⟨ns,h1,rfl⟩:=zzJ.mp e
  rw [my h1];rfl
 |.non::_,_,e=>by cases e
 |.bl _::_,_,e=>by cases e
 |.str _::_,_,e=>by cases e
 |.tup _::_,_,e=>by cases e
 |.lst _::_,_,e=>by cases e
 |.exc _::_,_,e=>by cases e
 |.dct _ _::_,_,e=>by cases e
theorem fQ{p:PV}{k:List Int}(h:gK p=some k):p=ah k:=by
 unfold gK at h;split at h
 ·rw [my h];rfl
 ·cases h
end Ci
namespace L2
open PySem PySem.Spec PyProof.Rows
section
variable{X:Cx}
end
end L2
namespace Ci
open PySem L2
theorem iV{n:Nat}(h:n≤c8):n≤sizeLine:=zzU h (by decide)
section
variable{X:Cx}{W:Wd}{H0 G H:Hp}
def c7(W:Wd)(G H:Hp)(r:PV)(Q:VK):Prop:=∀v G' H',aK W G H G' H'→Rep W G' r v→Q v H'
theorem c7.at{r:PV}{Q:VK}{v:V}(h:c7 W G H r Q)(s:aG G H)(k:Rep W G r v):Q v H:=h v G H (.refl s) k
theorem c7.tup{xs:List PV}{Q:VK}{vs:List V}{p:Addr}(h:c7 W G H (.tup xs) Q)(s:aG G H)(k:ak W G xs vs)(hp:H p=none):Q (.ref p) (upd H p (.tup vs)):=
 h _ _ _ (.new s hp) (.t (.inl au) (ak.same (bD (s.free hp)) xs k))
theorem c7.lst{xs:List PV}{Q:VK}{vs:List V}{p:Addr}(h:c7 W G H (.lst xs) Q)(s:aG G H)(k:ak W G xs vs)(hp:H p=none):Q (.ref p) (upd H p (.lst vs)):=
 h _ _ _ (.new s hp) (.l (.inl (.inl au)) (ak.same (bD (s.free hp)) xs k))
theorem ir{f:PV→PV→Bool}:∀{xs ys:List PV},xs.length≠ys.length→eqs f xs ys=false
 |[],[],h=>absurd rfl h
 |_::xs,_::ys,h=>by simp only [eqs];rw [ir (xs:=xs) (ys:=ys) (fun z=>h (by simp [z]))];simp
 |[],_::_,_=>rfl
 |_::_,[],_=>rfl
theorem iB{f:PV→PV→Bool}:∀{xs ys:List PV},xs.length=ys.length→eqs f xs ys=(List.range xs.length).all fun j=>f (xs.getD j .non) (ys.getD j .non)
 |[],[],_=>rfl
 |x::xs,y::ys,h=>by
  simp only [eqs];rw [iB (xs:=xs) (ys:=ys) (by simpa using h),zzL,List.range_succ_eq_map,List.all_cons,List.all_map]
  rfl
 |[],_::_,h=>by simp at h
 |_::_,[],h=>by simp at h
theorem iY{f:PV→PV→Bool}:∀{xs ys:List PV},((List.range (min xs.length ys.length)).all (fun j=>f (xs.getD j .non) (ys.getD j .non))&&xs.length==ys.length)=eqs f xs ys:=fun{xs ys}=>by
 by_cases h:xs.length=ys.length
 ·rw [iB h,h,Nat.min_self,beq_self_eq_true,Bool.and_true]
 ·rw [ir h,beq_eq_false_iff_ne.mpr h,Bool.and_false]
theorem fE{f:PV→PV→Bool}:∀{xs ys:List PV},xs.length=ys.length→(∀(j:Nat) x y,xs[j]?=some x→ys[j]?=some y→f x y=true)→eqs f xs ys=true
 |[],[],_,_=>rfl
 |x::xs,y::ys,h,k=>by
  simp only [eqs];rw [k 0 x y rfl rfl,fE (xs:=xs) (ys:=ys) (by simpa using h) fun j a b ha hb=>k (j+1) a b (by simpa using ha) (by simpa using hb)]
  rfl
 |[],_::_,h,_=>by simp at h
 |_::_,[],h,_=>by simp at h
theorem eA(hK:W.K=X.K){a:Addr}{vs:List V}(h:LsR W.K H a vs):iU X.K H a vs:=by
 rw [hK] at h;rcases h with h|⟨aA,n,h1,h2,h3⟩
 ·exact .inl h
 ·exact .inr ⟨_,aA,n,h1,rfl,rfl,rfl,h2,h3⟩
theorem g6{pins:List (Addr×Obj)}{σ:St}{s:Shared}(I:Inv X pins σ H s){a:Addr}{vs us:List V}(h1:fj X.K H a vs)(h2:iU X.K H a us):False:=by
 obtain⟨aA,_,⟨o,e,hc,_⟩,_⟩:=I.tuple h1
 obtain⟨aL,_,⟨o2,n,e2,hc2,_⟩,_⟩:=I.list h2
 rw [e] at e2;cases e2;rw [hc] at hc2;exact absurd hc2 (by decide)
theorem uL{pins:List (Addr×Obj)}{σ:St}{s:Shared}(I:Inv X pins σ H s)(hK:W.K=X.K)(sg:aG G H):∀(n:Nat) {p q:PV} {v:V},plain n p=true→plain n q=true→Top W H0 G H p v→Top W H0 G H q v→ip n p q=true:=by
 intro n
 induction n with
 |zero=>
  intro p q v hp hq h1 h2;cases p with
  |non=>
   cases h1.non;cases q with
   |non=>cases h2.non;rfl
   |bl y=>cases h2.bl
   |int y=>cases h2.int
   |str y=>cases h2.str
   |exc c=>exact aq hq
   |dct a b=>exact aq hq
   |tup xs=>exact aq hq
   |lst xs=>exact aq hq
  |bl x=>
   cases h1.bl;cases q with
   |non=>cases h2.non
   |bl y=>cases h2.bl;exact beq_self_eq_true _
   |int y=>cases h2.int
   |str y=>cases h2.str
   |exc c=>exact aq hq
   |dct a b=>exact aq hq
   |tup xs=>exact aq hq
   |lst xs=>exact aq hq
  |int x=>
   cases h1.int;cases q with
   |non=>cases h2.non
   |bl y=>cases h2.bl
   |int y=>cases h2.int;exact beq_self_eq_true _
   |str y=>cases h2.str
   |exc c=>exact aq hq
   |dct a b=>exact aq hq
   |tup xs=>exact aq hq
   |lst xs=>exact aq hq
  |str x=>
   cases h1.str;cases q with
   |non=>cases h2.non
   |bl y=>cases h2.bl
   |int y=>cases h2.int
   |str y=>cases h2.str;exact beq_self_eq_true _
   |exc c=>exact aq hq
   |dct a b=>exact aq hq
   |tup xs=>exact aq hq
   |lst xs=>exact aq hq
  |exc c=>exact aq hp
  |dct a b=>exact aq hp
  |tup xs=>exact aq hp
  |lst xs=>exact aq hp
 |succ n ih=>
  intro p q v hp hq h1 h2;have el:∀{xs ys:List PV} {vs:List V},xs.all (plain n)=true→ys.all (plain n)=true→ak W G xs vs→ak W G ys vs→eqs (ip n) xs ys=true:=fun{xs ys vs} a1 a2 l1 l2=>
   fE (by rw [←l1.length,l2.length]) fun j x y ex ey=>by
    obtain⟨u,eu,ku⟩:=l1.getP ex
    obtain⟨y',ey',ky⟩:=l2.get eu
    rw [ey] at ey';cases ey';exact ih (zzT.mp a1 _ (zzD ex)) (zzT.mp a2 _ (zzD ey)) (.inl ku) (.inl ky)
  cases p with
  |exc c=>exact aq hp
  |dct a b=>exact aq hp
  |tup xs=>
   obtain⟨a,vs,rfl,sq,l⟩:=h1.tup sg
   rw [hK] at sq;cases q with
   |exc c=>exact aq hq
   |dct a b=>exact aq hq
   |non=>cases h2.non
   |bl b=>cases h2.bl
   |int b=>cases h2.int
   |str b=>cases h2.str
   |lst ys=>
    obtain⟨b,us,e,sq20,l2⟩:=h2.lst sg
    have bB:=eA hK sq20
    cases e;exact(g6 I sq bB).elim
   |tup ys=>
    obtain⟨b,us,e,bB,l2⟩:=h2.tup sg
    rw [hK] at bB;cases e;cases I.tuple_inj sq bB;exact el hp hq l l2
  |lst xs=>
   obtain⟨a,vs,rfl,sq0,l⟩:=h1.lst sg
   have sq:=eA hK sq0
   cases q with
   |exc c=>exact aq hq
   |dct a b=>exact aq hq
   |non=>cases h2.non
   |bl b=>cases h2.bl
   |int b=>cases h2.int
   |str b=>cases h2.str
   |tup ys=>
    obtain⟨b,us,e,bB,l2⟩:=h2.tup sg
    rw [hK] at bB;cases e;exact(g6 I bB sq).elim
   |lst ys=>
    obtain⟨b,us,e,sq20,l2⟩:=h2.lst sg
    have bB:=eA hK sq20
    cases e;cases I.list_inj sq bB;exact el hp hq l l2
  |non=>
   cases h1.non;cases q with
   |non=>cases h2.non;rfl
   |bl y=>cases h2.bl
   |int y=>cases h2.int
   |str y=>cases h2.str
   |tup ys=>obtain⟨b,us,e,_⟩:=h2.tup sg;cases e
   |lst ys=>obtain⟨b,us,e,_⟩:=h2.lst sg;cases e
   |exc c=>exact aq hq
   |dct a b=>exact aq hq
  |bl x=>
   cases h1.bl;cases q with
   |non=>cases h2.non
   |bl y=>cases h2.bl;exact beq_self_eq_true _
   |int y=>cases h2.int
   |str y=>cases h2.str
   |tup ys=>obtain⟨b,us,e,_⟩:=h2.tup sg;cases e
   |lst ys=>obtain⟨b,us,e,_⟩:=h2.lst sg;cases e
   |exc c=>exact aq hq
   |dct a b=>exact aq hq
  |int x=>
   cases h1.int;cases q with
   |non=>cases h2.non
   |bl y=>cases h2.bl
   |int y=>cases h2.int;exact beq_self_eq_true _
   |str y=>cases h2.str
   |tup ys=>obtain⟨b,us,e,_⟩:=h2.tup sg;cases e
   |lst ys=>obtain⟨b,us,e,_⟩:=h2.lst sg;cases e
   |exc c=>exact aq hq
   |dct a b=>exact aq hq
  |str x=>
   cases h1.str;cases q with
   |non=>cases h2.non
   |bl y=>cases h2.bl
   |int y=>cases h2.int
   |str y=>cases h2.str;exact beq_self_eq_true _
   |tup ys=>obtain⟨b,us,e,_⟩:=h2.tup sg;cases e
   |lst ys=>obtain⟨b,us,e,_⟩:=h2.lst sg;cases e
   |exc c=>exact aq hq
   |dct a b=>exact aq hq
theorem hX{pins:List (Addr×Obj)}{σ:St}{s:Shared}{A:Around}{p q:PV}{v u:V}{v' u':Value}(hp:plain 0 p=true)(hq:plain 0 q=true)(h1:Top W H0 G H p v)(h2:Top W H0 G H q u)(r1:RelV v v')(r2:RelV u u')(n:Nat):SeqAt.EqAt A s v' u' (ip n p q):=by
 cases p with
 |non=>
  cases h1.non;cases r1;cases q with
  |non=>cases h2.non;cases r2;cases n<;>exact SeqAt.EqAt.same _
  |bl y=>cases h2.bl;cases r2;cases n<;>exact SeqAt.EqAt.none_bool _
  |int y=>cases h2.int;obtain⟨t2,rfl⟩:=r2;cases n<;>exact SeqAt.EqAt.none_int _ _
  |str y=>cases h2.str;obtain⟨t2,rfl⟩:=r2;cases n<;>exact SeqAt.EqAt.none_str _ _
  |exc c=>exact aq hq
  |dct a b=>exact aq hq
  |tup xs=>exact aq hq
  |lst xs=>exact aq hq
 |bl x=>
  cases h1.bl;cases r1;cases q with
  |non=>cases h2.non;cases r2;cases n<;>exact SeqAt.EqAt.bool_none _
  |bl y=>cases h2.bl;cases r2;cases n<;>exact SeqAt.EqAt.bool_bool _ _
  |int y=>cases h2.int;obtain⟨t2,rfl⟩:=r2;cases n<;>exact SeqAt.EqAt.bool_int _ _ _
  |str y=>cases h2.str;obtain⟨t2,rfl⟩:=r2;cases n<;>exact SeqAt.EqAt.bool_str _ _ _
  |exc c=>exact aq hq
  |dct a b=>exact aq hq
  |tup xs=>exact aq hq
  |lst xs=>exact aq hq
 |int x=>
  cases h1.int;obtain⟨t1,rfl⟩:=r1
  cases q with
  |non=>cases h2.non;cases r2;cases n<;>exact SeqAt.EqAt.int_none _ _
  |bl y=>cases h2.bl;cases r2;cases n<;>exact SeqAt.EqAt.int_bool _ _ _
  |int y=>cases h2.int;obtain⟨t2,rfl⟩:=r2;cases n<;>exact SeqAt.EqAt.int_int _ _ _ _
  |str y=>cases h2.str;obtain⟨t2,rfl⟩:=r2;cases n<;>exact SeqAt.EqAt.int_str _ _ _ _
  |exc c=>exact aq hq
  |dct a b=>exact aq hq
  |tup xs=>exact aq hq
  |lst xs=>exact aq hq
 |str x=>
  cases h1.str;obtain⟨t1,rfl⟩:=r1
  cases q with
  |non=>cases h2.non;cases r2;cases n<;>exact SeqAt.EqAt.str_none _ _
  |bl y=>cases h2.bl;cases r2;cases n<;>exact SeqAt.EqAt.str_bool _ _ _
  |int y=>cases h2.int;obtain⟨t2,rfl⟩:=r2;cases n<;>exact SeqAt.EqAt.str_int _ _ _ _
  |str y=>cases h2.str;obtain⟨t2,rfl⟩:=r2;cases n<;>exact SeqAt.EqAt.str_str _ _ _ _
  |exc c=>exact aq hq
  |dct a b=>exact aq hq
  |tup xs=>exact aq hq
  |lst xs=>exact aq hq
 |exc c=>exact aq hp
 |dct a b=>exact aq hp
 |tup xs=>exact aq hp
 |lst xs=>exact aq hp
theorem xR{pins:List (Addr×Obj)}{σ:St}{s:Shared}(I:Inv X pins σ H s)(hK:W.K=X.K)(sg:aG G H):∀(n:Nat) {A:Around} {p q:PV} {v u:V} {v' u':Value},A.units+(n+1)<cLine→plain n p=true→plain n q=true→Top W H0 G H p v→Top W H0 G H q u→RelV v v'→RelV u u'→
 SeqAt.EqAt A s v' u' (ip n p q):=by
 intro n
 induction n with
 |zero=>
  intro A p q v u v' u' hu hp hq h1 h2 r1 r2;exact hX (pins:=pins) (σ:=σ) hp hq h1 h2 r1 r2 0
 |succ n ih=>
  intro A p q v u v' u' hu hp hq h1 h2 r1 r2;have cI:A.units<cLine:=by omega
  have el:∀{xs ys:List PV} {vs us:List V} {aA aL:List Value},xs.all (plain n)=true→ys.all (plain n)=true→ak W G xs vs→ak W G ys us→Vals vs aA→Vals us aL→∀j (h1:j<aA.toArray.size) (h2:j<aL.toArray.size),
   SeqAt.EqAt A.in1 s aA.toArray[j] aL.toArray[j] (ip n (xs.getD j .non) (ys.getD j .non)):=fun{xs ys vs us aA aL} a1 a2 l1 l2 q1 q2 j g1 g2=>by
   obtain⟨x,hx,rx⟩:=iF q1 g1
   obtain⟨y,hy,ry⟩:=iF q2 g2
   obtain⟨px,ex,kx⟩:=l1.get hx
   obtain⟨py,ey,ky⟩:=l2.get hy
   rw [zzK,zzK,ex,ey];exact ih (by show A.units+1+(n+1)<_;omega) (zzT.mp a1 _ (zzD ex)) (zzT.mp a2 _ (zzD ey)) (.inl kx) (.inl ky) rx ry
  cases p with
  |exc c=>exact aq hp
  |dct a b=>exact aq hp
  |tup xs=>
   have jo:=h1
   obtain⟨a,vs,rfl,sq,l⟩:=h1.tup sg
   rw [hK] at sq;cases r1;obtain⟨aA,q1,z1,_⟩:=I.tuple sq
   have fh:s.heap.IsTuple a aA.toArray:=z1
   cases q with
   |exc c=>exact aq hq
   |dct a b=>exact aq hq
   |non=>cases h2.non;cases r2;exact SeqAt.EqAt.tuple_none fh cI
   |bl b=>cases h2.bl;cases r2;exact SeqAt.EqAt.tuple_bool _ fh cI
   |int b=>cases h2.int;obtain⟨t2,rfl⟩:=r2;exact SeqAt.EqAt.tuple_int _ _ fh cI
   |str b=>cases h2.str;obtain⟨t2,rfl⟩:=r2;exact SeqAt.EqAt.tuple_str _ _ fh cI
   |lst ys=>
    obtain⟨b,us,rfl,sq20,l2⟩:=h2.lst sg
    have bB:=eA hK sq20
    cases r2;obtain⟨aL,q2,z2,_⟩:=I.list bB
    exact SeqAt.EqAt.tuple_list fh z2.isList cI
   |tup ys=>
    have mZ:=h2
    obtain⟨b,us,rfl,bB,l2⟩:=h2.tup sg
    rw [hK] at bB;cases r2;obtain⟨aL,q2,z2,_⟩:=I.tuple bB
    have m1:aA.length=xs.length:=by rw [←q1.length,l.length]
    have m2:aL.length=ys.length:=by rw [←q2.length,l2.length]
    by_cases gH:a=b
    ·subst gH;rw [uL I hK sg (n+1) hp hq jo mZ];exact SeqAt.EqAt.same _
    ·refine SeqAt.EqAt.of_refs gH ?_;have:=SeqAt.RcAt.tuples (e:=fun j=>ip n (xs.getD j .non) (ys.getD j .non)) fh (show s.heap.IsTuple b aL.toArray from z2) cI (el hp hq l l2 q1 q2)
     rw [zzC,zzC,m1,m2,iY] at this;exact this
  |lst xs=>
   have jo:=h1
   obtain⟨a,vs,rfl,sq0,l⟩:=h1.lst sg
   have sq:=eA hK sq0
   cases r1;obtain⟨aA,q1,z1,_⟩:=I.list sq
   cases q with
   |exc c=>exact aq hq
   |dct a b=>exact aq hq
   |non=>cases h2.non;cases r2;exact SeqAt.EqAt.list_none z1.isList cI
   |bl b=>cases h2.bl;cases r2;exact SeqAt.EqAt.list_bool _ z1.isList cI
   |int b=>cases h2.int;obtain⟨t2,rfl⟩:=r2;exact SeqAt.EqAt.list_int _ _ z1.isList cI
   |str b=>cases h2.str;obtain⟨t2,rfl⟩:=r2;exact SeqAt.EqAt.list_str _ _ z1.isList cI
   |tup ys=>
    obtain⟨b,us,rfl,bB,l2⟩:=h2.tup sg
    rw [hK] at bB;cases r2;obtain⟨aL,q2,z2,_⟩:=I.tuple bB
    exact SeqAt.EqAt.list_tuple z1.isList (show s.heap.IsTuple b aL.toArray from z2) cI
   |lst ys=>
    have mZ:=h2
    obtain⟨b,us,rfl,sq20,l2⟩:=h2.lst sg
    have bB:=eA hK sq20
    cases r2;obtain⟨aL,q2,z2,_⟩:=I.list bB
    have m1:aA.length=xs.length:=by rw [←q1.length,l.length]
    have m2:aL.length=ys.length:=by rw [←q2.length,l2.length]
    by_cases gH:a=b
    ·subst gH;rw [uL I hK sg (n+1) hp hq jo mZ];exact SeqAt.EqAt.same _
    ·refine SeqAt.EqAt.of_refs gH ?_
     by_cases hl:xs.length=ys.length
     ·have:=SeqAt.RcAt.lists (e:=fun j=>ip n (xs.getD j .non) (ys.getD j .non)) z1.isList z2.isList (by rw [zzC,zzC];omega) cI (el hp hq l l2 q1 q2)
      rw [zzC,m1,←iB hl] at this;exact this
     ·have:=SeqAt.RcAt.lists_lengths z1.isList z2.isList (by rw [zzC,zzC,m1,m2];simp [hl]) cI
      show SeqAt.RcAt _ _ _ _ (eqs (ip n) xs ys)
      rw [ir hl];exact this
  |non=>
   have jo:=h1
   cases h1.non;cases r1;cases q with
   |tup ys=>
    obtain⟨b,us,rfl,bB,l2⟩:=h2.tup sg
    rw [hK] at bB;cases r2;obtain⟨aL,q2,z2,_⟩:=I.tuple bB
    exact SeqAt.EqAt.none_tuple (show s.heap.IsTuple b aL.toArray from z2) cI
   |lst ys=>
    obtain⟨b,us,rfl,sq20,l2⟩:=h2.lst sg
    have bB:=eA hK sq20
    cases r2;obtain⟨aL,q2,z2,_⟩:=I.list bB
    exact SeqAt.EqAt.none_list z2.isList cI
   |exc c=>exact aq hq
   |dct a b=>exact aq hq
   |_=>exact hX (pins:=pins) (σ:=σ) rfl rfl jo h2 rfl r2 (n+1)
  |bl x=>
   have jo:=h1
   cases h1.bl;cases r1;cases q with
   |tup ys=>
    obtain⟨b,us,rfl,bB,l2⟩:=h2.tup sg
    rw [hK] at bB;cases r2;obtain⟨aL,q2,z2,_⟩:=I.tuple bB
    exact SeqAt.EqAt.bool_tuple _ (show s.heap.IsTuple b aL.toArray from z2) cI
   |lst ys=>
    obtain⟨b,us,rfl,sq20,l2⟩:=h2.lst sg
    have bB:=eA hK sq20
    cases r2;obtain⟨aL,q2,z2,_⟩:=I.list bB
    exact SeqAt.EqAt.bool_list _ z2.isList cI
   |exc c=>exact aq hq
   |dct a b=>exact aq hq
   |_=>exact hX (pins:=pins) (σ:=σ) rfl rfl jo h2 rfl r2 (n+1)
  |int x=>
   have jo:=h1
   have Mk:=r1
   cases h1.int;obtain⟨t,rfl⟩:=r1
   cases q with
   |tup ys=>
    obtain⟨b,us,rfl,bB,l2⟩:=h2.tup sg
    rw [hK] at bB;cases r2;obtain⟨aL,q2,z2,_⟩:=I.tuple bB
    exact SeqAt.EqAt.int_tuple _ _ (show s.heap.IsTuple b aL.toArray from z2) cI
   |lst ys=>
    obtain⟨b,us,rfl,sq20,l2⟩:=h2.lst sg
    have bB:=eA hK sq20
    cases r2;obtain⟨aL,q2,z2,_⟩:=I.list bB
    exact SeqAt.EqAt.int_list _ _ z2.isList cI
   |exc c=>exact aq hq
   |dct a b=>exact aq hq
   |_=>exact hX (pins:=pins) (σ:=σ) rfl rfl jo h2 Mk r2 (n+1)
  |str x=>
   have jo:=h1
   have Mk:=r1
   cases h1.str;obtain⟨t,rfl⟩:=r1
   cases q with
   |tup ys=>
    obtain⟨b,us,rfl,bB,l2⟩:=h2.tup sg
    rw [hK] at bB;cases r2;obtain⟨aL,q2,z2,_⟩:=I.tuple bB
    exact SeqAt.EqAt.str_tuple _ _ (show s.heap.IsTuple b aL.toArray from z2) cI
   |lst ys=>
    obtain⟨b,us,rfl,sq20,l2⟩:=h2.lst sg
    have bB:=eA hK sq20
    cases r2;obtain⟨aL,q2,z2,_⟩:=I.list bB
    exact SeqAt.EqAt.str_list _ _ z2.isList cI
   |exc c=>exact aq hq
   |dct a b=>exact aq hq
   |_=>exact hX (pins:=pins) (σ:=σ) rfl rfl jo h2 Mk r2 (n+1)
end
section
variable{X:Cx}{W:Wd}{H0 G H:Hp}
theorem JX{pins:List (Addr×Obj)}{σ:St}{s:Shared}(I:Inv X pins σ H s)(hK:W.K=X.K)(sg:aG G H)(n:Nat){A:Around}{p q:PV}{v u:V}{v' u':Value}(hu:A.units+(n+2)<cLine)(hp:plain (n+1) p=true)(hq:plain (n+1) q=true)(h1:Top W H0 G H p v)(h2:Top W H0 G H q u)(r1:RelV v v')(r2:RelV u u'):
 SeqAt.RcAt A s v' u' (ip (n+1) p q):=by
 have cI:A.units<cLine:=by omega
 have el:∀{xs ys:List PV} {vs us:List V} {aA aL:List Value},xs.all (plain n)=true→ys.all (plain n)=true→ak W G xs vs→ak W G ys us→Vals vs aA→Vals us aL→∀j (h1:j<aA.toArray.size) (h2:j<aL.toArray.size),
  SeqAt.EqAt A.in1 s aA.toArray[j] aL.toArray[j] (ip n (xs.getD j .non) (ys.getD j .non)):=fun{xs ys vs us aA aL} a1 a2 l1 l2 q1 q2 j g1 g2=>by
  obtain⟨x,hx,rx⟩:=iF q1 g1
  obtain⟨y,hy,ry⟩:=iF q2 g2
  obtain⟨px,ex,kx⟩:=l1.get hx
  obtain⟨py,ey,ky⟩:=l2.get hy
  rw [zzK,zzK,ex,ey];exact xR (H0:=H0) I hK sg n (by show A.units+1+(n+1)<_;omega) (zzT.mp a1 _ (zzD ex)) (zzT.mp a2 _ (zzD ey)) (.inl kx) (.inl ky) rx ry
 cases p with
 |non=>
  cases h1.non;cases r1;cases q with
  |non=>cases h2.non;cases r2;exact SeqAt.RcAt.none_none
  |bl y=>cases h2.bl;cases r2;exact SeqAt.RcAt.none_bool _
  |int y=>cases h2.int;obtain⟨t2,rfl⟩:=r2;exact SeqAt.RcAt.none_int _ _
  |str y=>cases h2.str;obtain⟨t2,rfl⟩:=r2;exact SeqAt.RcAt.none_str _ _
  |tup ys=>
   obtain⟨b,us,rfl,bB,l2⟩:=h2.tup sg
   rw [hK] at bB;cases r2;obtain⟨aL,q2,z2,_⟩:=I.tuple bB
   exact SeqAt.RcAt.none_tuple (show s.heap.IsTuple b aL.toArray from z2) cI
  |lst ys=>
   obtain⟨b,us,rfl,bB,l2⟩:=h2.lst sg
   cases r2;obtain⟨aL,q2,z2,_⟩:=I.list (eA hK bB)
   exact SeqAt.RcAt.none_list z2.isList cI
  |exc c=>exact aq hq
  |dct a b=>exact aq hq
 |bl x=>
  cases h1.bl;cases r1;cases q with
  |non=>cases h2.non;cases r2;exact SeqAt.RcAt.bool_none _
  |bl y=>cases h2.bl;cases r2;exact SeqAt.RcAt.bool_bool _ _
  |int y=>cases h2.int;obtain⟨t2,rfl⟩:=r2;exact SeqAt.RcAt.bool_int _ _ _
  |str y=>cases h2.str;obtain⟨t2,rfl⟩:=r2;exact SeqAt.RcAt.bool_str _ _ _
  |tup ys=>
   obtain⟨b,us,rfl,bB,l2⟩:=h2.tup sg
   rw [hK] at bB;cases r2;obtain⟨aL,q2,z2,_⟩:=I.tuple bB
   exact SeqAt.RcAt.bool_tuple _ (show s.heap.IsTuple b aL.toArray from z2) cI
  |lst ys=>
   obtain⟨b,us,rfl,bB,l2⟩:=h2.lst sg
   cases r2;obtain⟨aL,q2,z2,_⟩:=I.list (eA hK bB)
   exact SeqAt.RcAt.bool_list _ z2.isList cI
  |exc c=>exact aq hq
  |dct a b=>exact aq hq
 |int x=>
  cases h1.int;obtain⟨t1,rfl⟩:=r1
  cases q with
  |non=>cases h2.non;cases r2;exact SeqAt.RcAt.int_none _ _
  |bl y=>cases h2.bl;cases r2;exact SeqAt.RcAt.int_bool _ _ _
  |int y=>cases h2.int;obtain⟨t2,rfl⟩:=r2;exact SeqAt.RcAt.int_int _ _ _ _
  |str y=>cases h2.str;obtain⟨t2,rfl⟩:=r2;exact SeqAt.RcAt.int_str _ _ _ _
  |tup ys=>
   obtain⟨b,us,rfl,bB,l2⟩:=h2.tup sg
   rw [hK] at bB;cases r2;obtain⟨aL,q2,z2,_⟩:=I.tuple bB
   exact SeqAt.RcAt.int_tuple _ _ (show s.heap.IsTuple b aL.toArray from z2) cI
  |lst ys=>
   obtain⟨b,us,rfl,bB,l2⟩:=h2.lst sg
   cases r2;obtain⟨aL,q2,z2,_⟩:=I.list (eA hK bB)
   exact SeqAt.RcAt.int_list _ _ z2.isList cI
  |exc c=>exact aq hq
  |dct a b=>exact aq hq
 |str x=>
  cases h1.str;obtain⟨t1,rfl⟩:=r1
  cases q with
  |non=>cases h2.non;cases r2;exact SeqAt.RcAt.str_none _ _
  |bl y=>cases h2.bl;cases r2;exact SeqAt.RcAt.str_bool _ _ _
  |int y=>cases h2.int;obtain⟨t2,rfl⟩:=r2;exact SeqAt.RcAt.str_int _ _ _ _
  |str y=>cases h2.str;obtain⟨t2,rfl⟩:=r2;exact SeqAt.RcAt.str_str _ _ _ _
  |tup ys=>
   obtain⟨b,us,rfl,bB,l2⟩:=h2.tup sg
   rw [hK] at bB;cases r2;obtain⟨aL,q2,z2,_⟩:=I.tuple bB
   exact SeqAt.RcAt.str_tuple _ _ (show s.heap.IsTuple b aL.toArray from z2) cI
  |lst ys=>
   obtain⟨b,us,rfl,bB,l2⟩:=h2.lst sg
   cases r2;obtain⟨aL,q2,z2,_⟩:=I.list (eA hK bB)
   exact SeqAt.RcAt.str_list _ _ z2.isList cI
  |exc c=>exact aq hq
  |dct a b=>exact aq hq
 |tup xs=>
  obtain⟨a,vs,rfl,sq,l⟩:=h1.tup sg
  cases r1;rw [hK] at sq;obtain⟨aA,q1,z1,_⟩:=I.tuple sq
  have fh:s.heap.IsTuple a aA.toArray:=z1
  cases q with
  |non=>cases h2.non;cases r2;exact SeqAt.RcAt.tuple_none fh cI
  |bl y=>cases h2.bl;cases r2;exact SeqAt.RcAt.tuple_bool _ fh cI
  |int y=>cases h2.int;obtain⟨t2,rfl⟩:=r2;exact SeqAt.RcAt.tuple_int _ _ fh cI
  |str y=>cases h2.str;obtain⟨t2,rfl⟩:=r2;exact SeqAt.RcAt.tuple_str _ _ fh cI
  |exc c=>exact aq hq
  |dct a b=>exact aq hq
  |lst ys=>
   obtain⟨b,us,rfl,bB,l2⟩:=h2.lst sg
   cases r2;obtain⟨aL,q2,z2,_⟩:=I.list (eA hK bB)
   have oq:=z2.isList
   exact SeqAt.RcAt.tuple_list fh oq cI
  |tup ys=>
   obtain⟨b,us,rfl,bB,l2⟩:=h2.tup sg
   cases r2;rw [hK] at bB;obtain⟨aL,q2,z2,_⟩:=I.tuple bB
   have oq:s.heap.IsTuple b aL.toArray:=z2
   have m1:aA.length=xs.length:=by rw [←q1.length,l.length]
   have m2:aL.length=ys.length:=by rw [←q2.length,l2.length]
   have:=SeqAt.RcAt.tuples (e:=fun j=>ip n (xs.getD j .non) (ys.getD j .non)) fh oq cI (el hp hq l l2 q1 q2)
   rw [zzC,zzC,m1,m2,iY] at this;exact this
 |lst xs=>
  obtain⟨a,vs,rfl,sq,l⟩:=h1.lst sg
  cases r1;obtain⟨aA,q1,z1,_⟩:=I.list (eA hK sq)
  have fh:=z1.isList
  cases q with
  |non=>cases h2.non;cases r2;exact SeqAt.RcAt.list_none fh cI
  |bl y=>cases h2.bl;cases r2;exact SeqAt.RcAt.list_bool _ fh cI
  |int y=>cases h2.int;obtain⟨t2,rfl⟩:=r2;exact SeqAt.RcAt.list_int _ _ fh cI
  |str y=>cases h2.str;obtain⟨t2,rfl⟩:=r2;exact SeqAt.RcAt.list_str _ _ fh cI
  |exc c=>exact aq hq
  |dct a b=>exact aq hq
  |tup ys=>
   obtain⟨b,us,rfl,bB,l2⟩:=h2.tup sg
   cases r2;rw [hK] at bB;obtain⟨aL,q2,z2,_⟩:=I.tuple bB
   have oq:s.heap.IsTuple b aL.toArray:=z2
   exact SeqAt.RcAt.list_tuple fh oq cI
  |lst ys=>
   obtain⟨b,us,rfl,bB,l2⟩:=h2.lst sg
   cases r2;obtain⟨aL,q2,z2,_⟩:=I.list (eA hK bB)
   have oq:=z2.isList
   have m1:aA.length=xs.length:=by rw [←q1.length,l.length]
   have m2:aL.length=ys.length:=by rw [←q2.length,l2.length]
   by_cases hl:xs.length=ys.length
   ·have:=SeqAt.RcAt.lists (e:=fun j=>ip n (xs.getD j .non) (ys.getD j .non)) fh oq (by rw [zzC,zzC];omega) cI (el hp hq l l2 q1 q2)
    rw [zzC,m1,←iB hl] at this;exact this
   ·have:=SeqAt.RcAt.lists_lengths fh oq (by rw [zzC,zzC,m1,m2];simp [hl]) cI
    show SeqAt.RcAt _ _ _ _ (eqs (ip n) xs ys)
    rw [ir hl];exact this
 |exc c=>exact aq hp
 |dct a b=>exact aq hp
theorem AW{pins:List (Addr×Obj)}{σ:St}{s:Shared}(I:Inv X pins σ H s)(hK:W.K=X.K)(sg:aG G H)(n:Nat){A:Around}{p q:PV}{v u:V}{v' u':Value}(hu:A.units+(n+2)<cLine)(hp:plain (n+1) p=true)(hq:plain (n+1) q=true)(h1:Top W H0 G H p v)(h2:Top W H0 G H q u)(r1:RelV v v')(r2:RelV u u'):
 SeqAt.RcNeAt A s v' u' (!ip (n+1) p q):=by
 have cI:A.units<cLine:=by omega
 have el:∀{xs ys:List PV} {vs us:List V} {aA aL:List Value},xs.all (plain n)=true→ys.all (plain n)=true→ak W G xs vs→ak W G ys us→Vals vs aA→Vals us aL→∀j (h1:j<aA.toArray.size) (h2:j<aL.toArray.size),
  SeqAt.EqAt A.in1 s aA.toArray[j] aL.toArray[j] (ip n (xs.getD j .non) (ys.getD j .non)):=fun{xs ys vs us aA aL} a1 a2 l1 l2 q1 q2 j g1 g2=>by
  obtain⟨x,hx,rx⟩:=iF q1 g1
  obtain⟨y,hy,ry⟩:=iF q2 g2
  obtain⟨px,ex,kx⟩:=l1.get hx
  obtain⟨py,ey,ky⟩:=l2.get hy
  rw [zzK,zzK,ex,ey];exact xR (H0:=H0) I hK sg n (by show A.units+1+(n+1)<_;omega) (zzT.mp a1 _ (zzD ex)) (zzT.mp a2 _ (zzD ey)) (.inl kx) (.inl ky) rx ry
 cases p with
 |non=>
  cases h1.non;cases r1;cases q with
  |non=>cases h2.non;cases r2;exact SeqAt.RcNeAt.none_none
  |bl y=>cases h2.bl;cases r2;exact SeqAt.RcNeAt.none_bool _
  |int y=>cases h2.int;obtain⟨t2,rfl⟩:=r2;exact SeqAt.RcNeAt.none_int _ _
  |str y=>cases h2.str;obtain⟨t2,rfl⟩:=r2;exact SeqAt.RcNeAt.none_str _ _
  |tup ys=>
   obtain⟨b,us,rfl,bB,l2⟩:=h2.tup sg
   rw [hK] at bB;cases r2;obtain⟨aL,q2,z2,_⟩:=I.tuple bB
   exact SeqAt.RcNeAt.none_tuple (show s.heap.IsTuple b aL.toArray from z2) cI
  |lst ys=>
   obtain⟨b,us,rfl,bB,l2⟩:=h2.lst sg
   cases r2;obtain⟨aL,q2,z2,_⟩:=I.list (eA hK bB)
   exact SeqAt.RcNeAt.none_list z2.isList cI
  |exc c=>exact aq hq
  |dct a b=>exact aq hq
 |bl x=>
  cases h1.bl;cases r1;cases q with
  |non=>cases h2.non;cases r2;exact SeqAt.RcNeAt.bool_none _
  |bl y=>cases h2.bl;cases r2;exact SeqAt.RcNeAt.bool_bool _ _
  |int y=>cases h2.int;obtain⟨t2,rfl⟩:=r2;exact SeqAt.RcNeAt.bool_int _ _ _
  |str y=>cases h2.str;obtain⟨t2,rfl⟩:=r2;exact SeqAt.RcNeAt.bool_str _ _ _
  |tup ys=>
   obtain⟨b,us,rfl,bB,l2⟩:=h2.tup sg
   rw [hK] at bB;cases r2;obtain⟨aL,q2,z2,_⟩:=I.tuple bB
   exact SeqAt.RcNeAt.bool_tuple _ (show s.heap.IsTuple b aL.toArray from z2) cI
  |lst ys=>
   obtain⟨b,us,rfl,bB,l2⟩:=h2.lst sg
   cases r2;obtain⟨aL,q2,z2,_⟩:=I.list (eA hK bB)
   exact SeqAt.RcNeAt.bool_list _ z2.isList cI
  |exc c=>exact aq hq
  |dct a b=>exact aq hq
 |int x=>
  cases h1.int;obtain⟨t1,rfl⟩:=r1
  cases q with
  |non=>cases h2.non;cases r2;exact SeqAt.RcNeAt.int_none _ _
  |bl y=>cases h2.bl;cases r2;exact SeqAt.RcNeAt.int_bool _ _ _
  |int y=>cases h2.int;obtain⟨t2,rfl⟩:=r2;exact SeqAt.RcNeAt.int_int _ _ _ _
  |str y=>cases h2.str;obtain⟨t2,rfl⟩:=r2;exact SeqAt.RcNeAt.int_str _ _ _ _
  |tup ys=>
   obtain⟨b,us,rfl,bB,l2⟩:=h2.tup sg
   rw [hK] at bB;cases r2;obtain⟨aL,q2,z2,_⟩:=I.tuple bB
   exact SeqAt.RcNeAt.int_tuple _ _ (show s.heap.IsTuple b aL.toArray from z2) cI
  |lst ys=>
   obtain⟨b,us,rfl,bB,l2⟩:=h2.lst sg
   cases r2;obtain⟨aL,q2,z2,_⟩:=I.list (eA hK bB)
   exact SeqAt.RcNeAt.int_list _ _ z2.isList cI
  |exc c=>exact aq hq
  |dct a b=>exact aq hq
 |str x=>
  cases h1.str;obtain⟨t1,rfl⟩:=r1
  cases q with
  |non=>cases h2.non;cases r2;exact SeqAt.RcNeAt.str_none _ _
  |bl y=>cases h2.bl;cases r2;exact SeqAt.RcNeAt.str_bool _ _ _
  |int y=>cases h2.int;obtain⟨t2,rfl⟩:=r2;exact SeqAt.RcNeAt.str_int _ _ _ _
  |str y=>cases h2.str;obtain⟨t2,rfl⟩:=r2;exact SeqAt.RcNeAt.str_str _ _ _ _
  |tup ys=>
   obtain⟨b,us,rfl,bB,l2⟩:=h2.tup sg
   rw [hK] at bB;cases r2;obtain⟨aL,q2,z2,_⟩:=I.tuple bB
   exact SeqAt.RcNeAt.str_tuple _ _ (show s.heap.IsTuple b aL.toArray from z2) cI
  |lst ys=>
   obtain⟨b,us,rfl,bB,l2⟩:=h2.lst sg
   cases r2;obtain⟨aL,q2,z2,_⟩:=I.list (eA hK bB)
   exact SeqAt.RcNeAt.str_list _ _ z2.isList cI
  |exc c=>exact aq hq
  |dct a b=>exact aq hq
 |tup xs=>
  obtain⟨a,vs,rfl,sq,l⟩:=h1.tup sg
  cases r1;rw [hK] at sq;obtain⟨aA,q1,z1,_⟩:=I.tuple sq
  have fh:s.heap.IsTuple a aA.toArray:=z1
  cases q with
  |non=>cases h2.non;cases r2;exact SeqAt.RcNeAt.tuple_none fh cI
  |bl y=>cases h2.bl;cases r2;exact SeqAt.RcNeAt.tuple_bool _ fh cI
  |int y=>cases h2.int;obtain⟨t2,rfl⟩:=r2;exact SeqAt.RcNeAt.tuple_int _ _ fh cI
  |str y=>cases h2.str;obtain⟨t2,rfl⟩:=r2;exact SeqAt.RcNeAt.tuple_str _ _ fh cI
  |exc c=>exact aq hq
  |dct a b=>exact aq hq
  |lst ys=>
   obtain⟨b,us,rfl,bB,l2⟩:=h2.lst sg
   cases r2;obtain⟨aL,q2,z2,_⟩:=I.list (eA hK bB)
   have oq:=z2.isList
   exact SeqAt.RcNeAt.tuple_list fh oq cI
  |tup ys=>
   obtain⟨b,us,rfl,bB,l2⟩:=h2.tup sg
   cases r2;rw [hK] at bB;obtain⟨aL,q2,z2,_⟩:=I.tuple bB
   have oq:s.heap.IsTuple b aL.toArray:=z2
   have m1:aA.length=xs.length:=by rw [←q1.length,l.length]
   have m2:aL.length=ys.length:=by rw [←q2.length,l2.length]
   have:=SeqAt.RcNeAt.tuples (e:=fun j=>ip n (xs.getD j .non) (ys.getD j .non)) fh oq cI (el hp hq l l2 q1 q2)
   rw [zzC,zzC,m1,m2,iY] at this;exact this
 |lst xs=>
  obtain⟨a,vs,rfl,sq,l⟩:=h1.lst sg
  cases r1;obtain⟨aA,q1,z1,_⟩:=I.list (eA hK sq)
  have fh:=z1.isList
  cases q with
  |non=>cases h2.non;cases r2;exact SeqAt.RcNeAt.list_none fh cI
  |bl y=>cases h2.bl;cases r2;exact SeqAt.RcNeAt.list_bool _ fh cI
  |int y=>cases h2.int;obtain⟨t2,rfl⟩:=r2;exact SeqAt.RcNeAt.list_int _ _ fh cI
  |str y=>cases h2.str;obtain⟨t2,rfl⟩:=r2;exact SeqAt.RcNeAt.list_str _ _ fh cI
  |exc c=>exact aq hq
  |dct a b=>exact aq hq
  |tup ys=>
   obtain⟨b,us,rfl,bB,l2⟩:=h2.tup sg
   cases r2;rw [hK] at bB;obtain⟨aL,q2,z2,_⟩:=I.tuple bB
   have oq:s.heap.IsTuple b aL.toArray:=z2
   exact SeqAt.RcNeAt.list_tuple fh oq cI
  |lst ys=>
   obtain⟨b,us,rfl,bB,l2⟩:=h2.lst sg
   cases r2;obtain⟨aL,q2,z2,_⟩:=I.list (eA hK bB)
   have oq:=z2.isList
   have m1:aA.length=xs.length:=by rw [←q1.length,l.length]
   have m2:aL.length=ys.length:=by rw [←q2.length,l2.length]
   by_cases hl:xs.length=ys.length
   ·have:=SeqAt.RcNeAt.lists (e:=fun j=>ip n (xs.getD j .non) (ys.getD j .non)) fh oq (by rw [zzC,zzC];omega) cI (el hp hq l l2 q1 q2)
    rw [zzC,m1,←iB hl] at this;exact this
   ·have:=SeqAt.RcNeAt.lists_lengths fh oq (by rw [zzC,zzC,m1,m2];simp [hl]) cI
    show SeqAt.RcNeAt _ _ _ _ (!eqs (ip n) xs ys)
    rw [ir hl];exact this
 |exc c=>exact aq hp
 |dct a b=>exact aq hp
end
section
variable{X:Cx}{W:Wd}
theorem BZ(hK:W.K=X.K){pins:List (Addr×Obj)}{σ:St}{H:Hp}{s:Shared}{a:Addr}{xs:List V}(I:Inv X pins σ H s)(h:LsR W.K H a xs):∃(aA:List Value) (n:Nat),Vals xs aA∧xs.length=aA.length∧xs.length≤sizeLine∧s.heap.get? a=some {cls:=.type "list",data:=.seq aA.toArray n}:=by
 rw [hK] at h;rcases h with h|⟨aA,n,h1,h2,h3⟩
 ·obtain⟨z,aA,n,r,e⟩:=h.ok I.hok
  exact⟨aA,n,r,r.length,z,e⟩
 ·refine⟨aA.toList,n,h3,h3.length,?_,by simpa using I.kIn a _ h1⟩;rw [h3.length,zzd];exact h2
theorem B7(hK:W.K=X.K):gG X (binaryOp .Add) (fun x y H Q=>∃l b xs zs,x=.ref l∧y=.ref b∧LsR W.K H l xs∧LsR W.K H b zs∧xs.length+zs.length≤sizeLine∧∀p,H p=none→Q (.ref p) (upd H p (.lst (xs++zs)))):=by
 intro pins s σ H x y v u Q I rx ry h;obtain⟨l,b,xs,zs,rfl,rfl,hH,hB,hz,q⟩:=h
 cases rx;cases ry;obtain⟨aA,n,r,hl,_,e⟩:=BZ hK I hH
 obtain⟨aL,n2,r2,Mf,_,e2⟩:=BZ hK I hB
 refine PySem.P.add_list e e2 ?_ (by rw [zzC,zzC];omega);have ea:aA.toArray++aL.toArray=(aA++aL).toArray:=by simp
 rw [ea];exact⟨.ref _,_,I.lnew (t':=s.toks) (r.append r2) (by rw [zzM];omega),rfl,q _ I.fresh⟩
def MX:Hx→Operator
 |.add=>.Add|.sub=>.Sub|.mul=>.Mult|.mod=>.Mod|.fdiv=>.FloorDiv
noncomputable def uG(W:Wd)(f:PV→PV→Res PV):R2:=fun x y H Q=>∃H0 G p q r,aG G H∧Top W H0 G H p x∧Top W H0 G H q y∧f p q=.ok r∧c7 W G H r Q
theorem FI(hK:W.K=X.K)(o:Hx):gG X (binaryOp (MX o)) (uG W (binOp o)):=by
 intro pins s σ H x y v u Q I rx ry h;obtain⟨H0,G,p,q,r,sg,t1,t2,e,wq⟩:=h
 unfold binOp at e;split at e
 ·cases e;exact Ey pins s σ H x y v u Q I rx ry ⟨_,_,t1.int,t2.int,wq.at sg .i⟩
 ·split at e
  ·rename_i hl;cases e;exact su pins s σ H x y v u Q I rx ry ⟨_,_,t1.str,t2.str,iV hl,wq.at sg .s⟩
  ·cases e
 ·split at e
  ·rename_i hl;cases e;obtain⟨a,vs,rfl,h1,l1⟩:=t1.lst sg
   obtain⟨b,us,rfl,h2,l2⟩:=t2.lst sg
   exact B7 hK pins s σ H _ _ v u Q I rx ry ⟨a,b,vs,us,rfl,rfl,h1,h2,by rw [l1.length,l2.length];exact iV hl,fun p hp=>wq.lst sg (l1.append l2) hp⟩
  ·cases e
 ·cases e;exact Ff pins s σ H x y v u Q I rx ry ⟨_,_,t1.int,t2.int,wq.at sg .i⟩
 ·split at e
  ·rename_i hc;cases e;refine Hm pins s σ H x y v u Q I rx ry ⟨_,_,t1.int,t2.int,?_,wq.at sg .i⟩;rw [Bool.or_eq_true] at hc;unfold aW at hc;simp only [zza,zzN] at hc;exact hc
  ·cases e
 ·split at e
  ·rename_i hc;cases e;exact FN pins s σ H x y v u Q I rx ry ⟨_,_,t1.int,t2.int,hc,wq.at sg .i⟩
  ·cases e
 ·split at e
  ·rename_i hc;cases e;exact CB pins s σ H x y v u Q I rx ry ⟨_,_,t1.int,t2.int,hc,wq.at sg .i⟩
  ·cases e
 ·cases e
theorem A3:K4 X (unaryOp .USub) (fun x H Q=>∃(H0 G:Hp) (i:Int),aG G H∧Top W H0 G H (.int i) x∧c7 W G H (.int (-i)) Q):=by
 intro pins s σ H x v Q I rx h;obtain⟨H0,G,i,sg,t,wq⟩:=h
 exact FF pins s σ H x v Q I rx ⟨i,t.int,wq.at sg .i⟩
def pP:yd→CmpOp
 |.eq=>.Eq|.ne=>.NotEq|.lt=>.Lt|.le=>.LtE|.gt=>.Gt|.isn=>.IsNot|.in_=>.In|.nin=>.NotIn
theorem tW{pins:List (Addr×Obj)}{σ:St}{H G:Hp}{s:Shared}{Q:VK}{k:Bool}(I:Inv X pins σ H s)(sg:aG G H)(wq:c7 W G H (.bl k) Q):EP X pins σ Q (.bool k) s:=⟨.bl k,H,I,rfl,wq.at sg .b⟩
theorem Hf(hK:W.K=X.K)(hu:X.A.units+64<cLine):gG X (compareOp .Eq) (uG W gq):=by
 intro pins s σ H x y v u Q I rx ry h;obtain⟨H0,G,p,q,r,sg,t1,t2,e,wq⟩:=h
 unfold gq at e;split at e
 ·rename_i hc;rw [zza] at hc;cases e;exact JX I hK sg 8 (by omega) hc.1 hc.2 t1 t2 rx ry _ _ _ _ (tW I sg wq)
 ·cases e
theorem Gn(hK:W.K=X.K)(hu:X.A.units+64<cLine):gG X (compareOp .NotEq) (uG W gP):=by
 intro pins s σ H x y v u Q I rx ry h;obtain⟨H0,G,p,q,r,sg,t1,t2,e,wq⟩:=h
 unfold gP at e;split at e
 ·rename_i hc;rw [zza] at hc;cases e;exact AW I hK sg 8 (by omega) hc.1 hc.2 t1 t2 rx ry _ _ _ _ (tW I sg wq)
 ·cases e
theorem k8{G:Hp}:∀{xs:List PV} {vs:List V} {ns:List Int},ak W G xs vs→intsOf xs=some ns→vs=ns.map V.int
 |[],vs,ns,h,e=>by simp only [ak] at h;subst h;cases e;rfl
 |.int i::r,vs,ns,h,e=>by
  obtain⟨v,t,rfl,h1,h2⟩:=h.uncons
  simp only [Rep] at h1;subst h1;unfold intsOf at e;obtain⟨m,hm,rfl⟩:=zzJ.mp e
  rw [k8 h2 hm]
  rfl
 |.non::_,_,_,_,e=>by cases e
 |.bl _::_,_,_,_,e=>by cases e
 |.str _::_,_,_,_,e=>by cases e
 |.tup _::_,_,_,_,e=>by cases e
 |.lst _::_,_,_,_,e=>by cases e
 |.exc _::_,_,_,_,e=>by cases e
 |.dct _ _::_,_,_,_,e=>by cases e
theorem gB{G:Hp}:∀{xs:List PV} {vs:List V} {ns:List Str},ak W G xs vs→strsOf xs=some ns→vs=ns.map V.str
 |[],vs,ns,h,e=>by simp only [ak] at h;subst h;cases e;rfl
 |.str i::r,vs,ns,h,e=>by
  obtain⟨v,t,rfl,h1,h2⟩:=h.uncons
  simp only [Rep] at h1;subst h1;unfold strsOf at e;obtain⟨m,hm,rfl⟩:=zzJ.mp e
  rw [gB h2 hm]
  rfl
 |.non::_,_,_,_,e=>by cases e
 |.int _::_,_,_,_,e=>by cases e
 |.bl _::_,_,_,_,e=>by cases e
 |.tup _::_,_,_,_,e=>by cases e
 |.lst _::_,_,_,_,e=>by cases e
 |.exc _::_,_,_,_,e=>by cases e
 |.dct _ _::_,_,_,_,e=>by cases e
theorem Res.of_ok{α:Type}{o:Option α}{a:α}(h:Res.of o=.ok a):o=some a:=by
 cases o with
 |none=>cases h
 |some b=>cases h;rfl
theorem Eo(hK:W.K=X.K)(hu:X.A.units+64<cLine):gG X (compareOp .Lt) (uG W qo):=by
 intro pins s σ H x y v u Q I rx ry h;obtain⟨H0,G,p,q,r,sg,t1,t2,e,wq⟩:=h
 unfold qo at e;split at e
 ·cases e;exact J5 pins s σ H x y v u Q I rx ry ⟨_,_,t1.int,t2.int,wq.at sg .b⟩
 ·cases e
theorem GG:gG X (compareOp .LtE) (uG W ql):=by
 intro pins s σ H x y v u Q I rx ry h;obtain⟨H0,G,p,q,r,sg,t1,t2,e,wq⟩:=h
 unfold ql at e;split at e
 ·cases e;exact Js pins s σ H x y v u Q I rx ry ⟨_,_,t1.int,t2.int,wq.at sg .b⟩
 ·cases e
theorem FG:gG X (compareOp .Gt) (uG W sj):=by
 intro pins s σ H x y v u Q I rx ry h;obtain⟨H0,G,p,q,r,sg,t1,t2,e,wq⟩:=h
 unfold sj at e;split at e
 ·cases e;exact IF pins s σ H x y v u Q I rx ry ⟨_,_,t1.int,t2.int,wq.at sg .b⟩
 ·cases e
theorem vl{H0 G H:Hp}{p:PV}{x:V}(sg:aG G H)(t:Top W H0 G H p x):decide (x=.non)=D6 p:=by
 cases p with
 |non=>cases t.non;rfl
 |bl b=>cases t.bl;rfl
 |int b=>cases t.int;rfl
 |str b=>cases t.str;rfl
 |tup b=>obtain⟨a,vs,rfl,_⟩:=t.tup sg;rfl
 |lst b=>obtain⟨a,vs,rfl,_⟩:=t.lst sg;rfl
 |dct b c=>obtain⟨a,vs,rfl,_⟩:=t.dct sg;rfl
 |exc c=>
  rcases t with t|t
  ·simp only [Rep] at t;obtain⟨a,C,rfl,_⟩:=t
   rfl
  ·exact t.elim
theorem Dd:gG X (compareOp .IsNot) (uG W i6):=by
 intro pins s σ H x y v u Q I rx ry h;obtain⟨H0,G,p,q,r,sg,t1,t2,e,wq⟩:=h
 unfold i6 at e;split at e
 ·cases e;refine BX pins s σ H x y v u Q I rx ry ⟨t2.non,?_⟩;rw [vl sg t1];exact wq.at sg .b
 ·cases e
end
theorem iN{α:Type}:∀{xs ys:List α},xs.length=ys.length→(∀(j:Nat) x y,xs[j]?=some x→ys[j]?=some y→x=y)→xs=ys
 |[],[],_,_=>rfl
 |x::xs,y::ys,h,k=>by rw [k 0 x y rfl rfl,iN (xs:=xs) (ys:=ys) (by simpa using h) fun j a b ha hb=>k (j+1) a b (by simpa using ha) (by simpa using hb)]
 |[],_::_,h,_=>by simp at h
 |_::_,[],h,_=>by simp at h
section
variable{X:Cx}{W:Wd}{H0 G H:Hp}
theorem Ba{pins:List (Addr×Obj)}{σ:St}{s:Shared}(I:Inv X pins σ H s)(hK:W.K=X.K)(sg:aG G H):∀(n:Nat) {p q:PV} {v:V},plain n p=true→plain n q=true→Top W H0 G H p v→Top W H0 G H q v→p=q:=by
 intro n
 induction n with
 |zero=>
  intro p q v hp hq h1 h2;cases p with
  |non=>
   cases h1.non;cases q with
   |non=>cases h2.non;rfl
   |bl y=>cases h2.bl
   |int y=>cases h2.int
   |str y=>cases h2.str
   |exc c=>exact aq hq
   |dct a b=>exact aq hq
   |tup xs=>exact aq hq
   |lst xs=>exact aq hq
  |bl x=>
   cases h1.bl;cases q with
   |non=>cases h2.non
   |bl y=>cases h2.bl;rfl
   |int y=>cases h2.int
   |str y=>cases h2.str
   |exc c=>exact aq hq
   |dct a b=>exact aq hq
   |tup xs=>exact aq hq
   |lst xs=>exact aq hq
  |int x=>
   cases h1.int;cases q with
   |non=>cases h2.non
   |bl y=>cases h2.bl
   |int y=>cases h2.int;rfl
   |str y=>cases h2.str
   |exc c=>exact aq hq
   |dct a b=>exact aq hq
   |tup xs=>exact aq hq
   |lst xs=>exact aq hq
  |str x=>
   cases h1.str;cases q with
   |non=>cases h2.non
   |bl y=>cases h2.bl
   |int y=>cases h2.int
   |str y=>cases h2.str;rfl
   |exc c=>exact aq hq
   |dct a b=>exact aq hq
   |tup xs=>exact aq hq
   |lst xs=>exact aq hq
  |exc c=>exact aq hp
  |dct a b=>exact aq hp
  |tup xs=>exact aq hp
  |lst xs=>exact aq hp
 |succ n ih=>
  intro p q v hp hq h1 h2;have el:∀{xs ys:List PV} {vs:List V},xs.all (plain n)=true→ys.all (plain n)=true→ak W G xs vs→ak W G ys vs→xs=ys:=fun{xs ys vs} a1 a2 l1 l2=>
   iN (by rw [←l1.length,l2.length]) fun j x y ex ey=>by
    obtain⟨u,eu,ku⟩:=l1.getP ex
    obtain⟨y',ey',ky⟩:=l2.get eu
    rw [ey] at ey';cases ey';exact ih (zzT.mp a1 _ (zzD ex)) (zzT.mp a2 _ (zzD ey)) (.inl ku) (.inl ky)
  cases p with
  |exc c=>exact aq hp
  |dct a b=>exact aq hp
  |tup xs=>
   obtain⟨a,vs,rfl,sq,l⟩:=h1.tup sg
   rw [hK] at sq;cases q with
   |exc c=>exact aq hq
   |dct a b=>exact aq hq
   |non=>cases h2.non
   |bl b=>cases h2.bl
   |int b=>cases h2.int
   |str b=>cases h2.str
   |lst ys=>
    obtain⟨b,us,e,sq20,l2⟩:=h2.lst sg
    have bB:=eA hK sq20
    cases e;exact(g6 I sq bB).elim
   |tup ys=>
    obtain⟨b,us,e,bB,l2⟩:=h2.tup sg
    rw [hK] at bB;cases e;cases I.tuple_inj sq bB;rw [el hp hq l l2]
  |lst xs=>
   obtain⟨a,vs,rfl,sq0,l⟩:=h1.lst sg
   have sq:=eA hK sq0
   cases q with
   |exc c=>exact aq hq
   |dct a b=>exact aq hq
   |non=>cases h2.non
   |bl b=>cases h2.bl
   |int b=>cases h2.int
   |str b=>cases h2.str
   |tup ys=>
    obtain⟨b,us,e,bB,l2⟩:=h2.tup sg
    rw [hK] at bB;cases e;exact(g6 I bB sq).elim
   |lst ys=>
    obtain⟨b,us,e,sq20,l2⟩:=h2.lst sg
    have bB:=eA hK sq20
    cases e;cases I.list_inj sq bB;rw [el hp hq l l2]
  |non=>
   cases h1.non;cases q with
   |non=>cases h2.non;rfl
   |bl y=>cases h2.bl
   |int y=>cases h2.int
   |str y=>cases h2.str
   |tup ys=>obtain⟨b,us,e,_⟩:=h2.tup sg;cases e
   |lst ys=>obtain⟨b,us,e,_⟩:=h2.lst sg;cases e
   |exc c=>exact aq hq
   |dct a b=>exact aq hq
  |bl x=>
   cases h1.bl;cases q with
   |non=>cases h2.non
   |bl y=>cases h2.bl;rfl
   |int y=>cases h2.int
   |str y=>cases h2.str
   |tup ys=>obtain⟨b,us,e,_⟩:=h2.tup sg;cases e
   |lst ys=>obtain⟨b,us,e,_⟩:=h2.lst sg;cases e
   |exc c=>exact aq hq
   |dct a b=>exact aq hq
  |int x=>
   cases h1.int;cases q with
   |non=>cases h2.non
   |bl y=>cases h2.bl
   |int y=>cases h2.int;rfl
   |str y=>cases h2.str
   |tup ys=>obtain⟨b,us,e,_⟩:=h2.tup sg;cases e
   |lst ys=>obtain⟨b,us,e,_⟩:=h2.lst sg;cases e
   |exc c=>exact aq hq
   |dct a b=>exact aq hq
  |str x=>
   cases h1.str;cases q with
   |non=>cases h2.non
   |bl y=>cases h2.bl
   |int y=>cases h2.int
   |str y=>cases h2.str;rfl
   |tup ys=>obtain⟨b,us,e,_⟩:=h2.tup sg;cases e
   |lst ys=>obtain⟨b,us,e,_⟩:=h2.lst sg;cases e
   |exc c=>exact aq hq
   |dct a b=>exact aq hq
theorem Cu{pins:List (Addr×Obj)}{σ:St}{s:Shared}(I:Inv X pins σ H s)(hK:W.K=X.K)(sg:aG G H){A:Around}{a:PV}{x:V}{x':Value}{ys:List PV}{us:List V}{aA:List Value}(hu:A.units+32<cLine)(ha:pln a=true)(hy:ys.all pln=true)(ta:Top W H0 G H a x)(rx:RelV x x')(l:ak W G ys us)(r:Vals us aA):
 ∃e:Value→Bool,(∀y∈aA,SeqAt.EqAt A s y x' (e y))∧∀(j:Nat) (y:Value) (p:PV),aA[j]?=some y→ys[j]?=some p→e y=eqv p a:=by
 classical
 have key:∀(j:Nat) (y:Value),aA[j]?=some y→∃p u,ys[j]?=some p∧us[j]?=some u∧Rep W G p u∧RelV u y∧pln p=true:=fun j y e=>by
  have hj:=(zzH.mp e).1
  have hl:=r.length
  obtain⟨u,Je,GH⟩:=r.get (i:=j) (x:=us[j]'(by omega)) (zzg (by omega))
  rw [e] at Je;cases Je;obtain⟨p,hp,kp⟩:=l.get (zzg (show j<us.length by omega))
  exact⟨p,_,hp,zzg (by omega),kp,GH,zzT.mp hy p (zzD hp)⟩
 refine⟨fun y=>if h:∃(j:Nat) (p:PV),aA[j]?=some y∧ys[j]?=some p then eqv h.choose_spec.choose a else false,fun y AJ=>?_,fun j y p e1 e2=>?_⟩
 ·obtain⟨j,hj,e⟩:=List.getElem_of_mem AJ
  have ej:aA[j]?=some y:=by rw [zzg hj,e]
  obtain⟨p,u,h1,h2,h3,h4,h5⟩:=key j y ej
  have hex:∃(j:Nat) (p:PV),aA[j]?=some y∧ys[j]?=some p:=⟨j,p,ej,h1⟩
  dsimp only;rw [dif_pos hex];have sp:=hex.choose_spec.choose_spec
  obtain⟨p2,u2,g1,g2,g3,g4,g5⟩:=key _ y sp.1
  have e3:hex.choose_spec.choose=p2:=Option.some.inj (sp.2.symm.trans g1)
  rw [e3];exact xR (H0:=H0) I hK sg 9 (by omega) g5 ha (.inl g3) ta g4 rx
 ·have hex:∃(j:Nat) (p:PV),aA[j]?=some y∧ys[j]?=some p:=⟨j,p,e1,e2⟩
  dsimp only;rw [dif_pos hex];obtain⟨p1,u1,f1,f2,f3,f4,f5⟩:=key j y e1
  rw [e2] at f1;cases f1;have sp:=hex.choose_spec.choose_spec
  obtain⟨p2,u2,g1,g2,g3,g4,g5⟩:=key _ y sp.1
  have e3:hex.choose_spec.choose=p2:=Option.some.inj (sp.2.symm.trans g1)
  have e4:u1=u2:=f4.inj g4
  subst e4;rw [e3,Ba I hK sg DP g5 f5 (.inl g3:Top W H0 G H p2 u1) (.inl f3)]
theorem Er{aA:List Value}{ys:List PV}{e:Value→Bool}{f:PV→Bool}:aA.length=ys.length→(∀(j:Nat) (y:Value) (p:PV),aA[j]?=some y→ys[j]?=some p→e y=f p)→aA.any e=ys.any f:=by
 intro hl h;have:aA.map e=ys.map f:=iN (by simpa using hl) fun j x y hx hy=>by
  rw [zzQ] at hx hy;obtain⟨a,ha,rfl⟩:=zzJ.mp hx
  obtain⟨b,hb,rfl⟩:=zzJ.mp hy
  exact h j a b ha hb
 calc aA.any e=(aA.map e).any id:=by rw [List.any_map];rfl
  _=(ys.map f).any id:=by rw [this]
  _=ys.any f:=by rw [List.any_map];rfl
theorem Ha(hK:W.K=X.K)(hu:X.A.units+64<cLine):gG X (compareOp .In) (uG W pz):=by
 intro pins s σ H x y v u Q I rx ry h;obtain⟨H0,G,p,q,r,sg,t1,t2,e,wq⟩:=h
 have Je:X.A.in1.units+32<cLine:=by show X.A.units+1+32<_;omega
 unfold pz at e;split at e
 ·split at e
  ·rename_i hc;rw [zza] at hc;cases e;obtain⟨b,us,rfl,q2,l2⟩:=t2.tup sg
   rw [hK] at q2;cases ry;obtain⟨aA,rv,z,_⟩:=I.tuple q2
   obtain⟨e,he,hv⟩:=Cu I hK sg Je hc.1 hc.2 t1 rx l2 rv
   refine SeqAt.in_tupleAt e (show s.heap.IsTuple b aA.toArray from z) (fun y hy=>he y (by simpa using hy)) ?_
   have:=Er (by rw [←rv.length,l2.length]) hv
   rw [List.any_toArray,this];exact tW I sg wq
  ·cases e
 ·cases e
theorem C3(hK:W.K=X.K)(hu:X.A.units+64<cLine):gG X (compareOp .NotIn) (uG W gX):=by
 intro pins s σ H x y v u Q I rx ry h;obtain⟨H0,G,p,q,r,sg,t1,t2,e,wq⟩:=h
 have Je:X.A.in1.units+32<cLine:=by show X.A.units+1+32<_;omega
 unfold gX at e;split at e
 ·obtain⟨k,hk,e⟩:=Res.bind_ok e
  cases e;have hk:=fQ (Res.of_ok hk)
  subst hk;obtain⟨b,rfl,hb⟩:=t1.tupI (ns:=k) sg rfl
  obtain⟨a,us,rfl,n,hd,l⟩:=t2.dct sg
  cases ry;refine Bf (show X.A.units+1<cLine by omega) I (.inr ⟨_,ki k,b,hd,rfl,(by rw [qh];exact sg _ _ hb),rfl⟩) rx fun s' I'=>?_
  rw [kR,oD k _ us n];exact tW I' sg wq
 ·cases e
theorem fU(hK:W.K=X.K)(hu:X.A.units+64<cLine):∀o:yd,gG X (compareOp (pP o)) (uG W (du o))
 |.eq=>Hf hK hu|.ne=>Gn hK hu|.lt=>Eo hK hu|.le=>GG|.gt=>FG|.isn=>Dd|.in_=>Ha hK hu|.nin=>C3 hK hu
theorem uf{ps:List PV}{vs:List V}{i:Int}{p:PV}(l:ak W G ps vs)(h:rk ps i=some p):∃v,rk vs i=some v∧Rep W G p v:=by
 unfold rk at h⊢;rw [l.length];cases e:Fn ps.length i with
 |none=>rw [e] at h;cases h
 |some j=>
  rw [e] at h;exact l.getP h
theorem Gj(hu:X.A.units+1<cLine):HJ X (fun x y H Q=>∃a aB k b v,x=.ref a∧Rd H a (.dT aB)∧y=.ref b∧H b=some (.tup (k.map kV))∧gh aB k=some v∧Q v H):=by
 intro value slice pins s σ H x y v u Q I rx ry h hs;obtain⟨a,aB,k,b,z,rfl,hd,rfl,hb,hv,q⟩:=h
 cases rx;cases ry;obtain⟨_,_,xs,rel,dd⟩:=lJ I.hok hd
 obtain⟨w',hw,gU⟩:=jl.some_of (v:=z) (o:=(atKey xs k).map (·.2)) (by rw [←hv];exact rel.val k)
 obtain⟨p,hp,hp2⟩:=zzJ.mp hw
 exact PyProof.Rows.subscriptTail_builtinR (x:=w') dd.typeIs PySem.F.slot_dict_getitem.lookup (wpAny_getItem_heap (Q:=fun r s'=>r=w'∧EP X pins σ Q r s') (tupleKind_room_in1 hu) (gF I.hok hb) dd hp ⟨hp2,by rw [hp2];exact⟨z,H,I.tok _,gU,q⟩⟩) hs
theorem Lg(hK:W.K=X.K)(hu:X.A.units+64<cLine):HJ X (uG W bw):=by
 intro value slice pins s σ H x y v u Q I rx ry h hs;obtain⟨H0,G,p,q,r,sg,t1,t2,e,wq⟩:=h
 unfold bw at e;split at e
 ·obtain⟨a,vs,rfl,h1,l1⟩:=t1.lst sg
  obtain⟨w,hw,kw⟩:=uf l1 (Res.of_ok e)
  exact B5 value slice pins s σ H _ y v u Q I rx ry ⟨a,vs,_,w,rfl,t2.int,eA hK h1,hw,wq.at sg kw⟩ hs
 ·obtain⟨a,vs,rfl,h1,l1⟩:=t1.tup sg
  rw [hK] at h1;obtain⟨w,hw,kw⟩:=uf l1 (Res.of_ok e)
  exact yx value slice pins s σ H _ y v u Q I rx ry ⟨a,vs,_,w,rfl,t2.int,h1,hw,wq.at sg kw⟩ hs
 ·split at e
  ·rename_i hl;obtain⟨c,hc,e⟩:=Res.bind_ok e
   cases e;exact Ep value slice pins s σ H x y v u Q I rx ry ⟨_,_,c,t1.str,t2.int,iV hl,Res.of_ok hc,wq.at sg .s⟩ hs
  ·cases e
 ·obtain⟨k,hk,e2⟩:=Res.bind_ok e
  have hk:=fQ (Res.of_ok hk)
  subst hk;obtain⟨b,rfl,hb⟩:=t2.tupI (ns:=k) sg rfl
  obtain⟨a,us,rfl,n,hd,l⟩:=t1.dct sg
  obtain⟨w,hw,kw⟩:=nN l (Res.of_ok e2)
  exact Gj (by omega) value slice pins s σ H _ _ v u Q I rx ry ⟨a,_,ki k,b,w,rfl,hd,rfl,(by rw [qh];exact sg _ _ hb),(by rw [kR];exact hw),wq.at sg kw⟩ hs
 ·cases e
end
section
variable{X:Cx}{W:Wd}
def xi(W:Wd)(f:List PV→Res PV):List V→Hp→VK→Prop:=fun vs H Q=>∃H0 G ps r,aG G H∧Paired (fun v p=>Top W H0 G H p v) vs ps∧f ps=.ok r∧c7 W G H r Q
theorem fb{H0 G H:Hp}{vs:List V}{p:PV}(h:Paired (fun v p=>Top W H0 G H p v) vs [p]):∃v,vs=[v]∧Top W H0 G H p v:=by
 cases h with
 |cons h t=>cases t;exact⟨_,rfl,h⟩
theorem yi{H0 G H:Hp}{vs:List V}{p q:PV}(h:Paired (fun v p=>Top W H0 G H p v) vs [p,q]):∃v u,vs=[v,u]∧Top W H0 G H p v∧Top W H0 G H q u:=by
 cases h with
 |cons h t=>
  cases t with
  |cons h2 t2=>cases t2;exact⟨_,_,rfl,h,h2⟩
theorem wj(hK:W.K=X.K):cu X (.builtin "len") (xi W sP):=by
 intro pins s σ H xs us Q I r h;obtain⟨H0,G,ps,rr,sg,tp,e,wq⟩:=h
 unfold sP at e;split at e
 ·cases e;obtain⟨v,rfl,t⟩:=fb tp
  obtain⟨a,vs,rfl,h1,l1⟩:=t.lst sg
  exact ij pins s σ H _ us Q I r ⟨a,vs,rfl,.inl (eA hK h1),by rw [l1.length];exact wq.at sg .i⟩
 ·cases e;obtain⟨v,rfl,t⟩:=fb tp
  obtain⟨a,vs,rfl,h1,l1⟩:=t.tup sg
  rw [hK] at h1;exact ij pins s σ H _ us Q I r ⟨a,vs,rfl,.inr h1,by rw [l1.length];exact wq.at sg .i⟩
 ·split at e
  ·rename_i hl;cases e;obtain⟨v,rfl,t⟩:=fb tp
   exact pA pins s σ H _ us Q I r ⟨_,by rw [t.str],iV hl,wq.at sg .i⟩
  ·cases e
 ·cases e;obtain⟨v,rfl,t⟩:=fb tp
  obtain⟨a,us',rfl,n,hd,l⟩:=t.dct sg
  obtain⟨u,rfl,ru⟩:=vals1 r
  cases ru;exact Hg I hd fun t s' I'=>⟨.int _,H,I',⟨t,rfl⟩,by rw [eY n];exact wq.at sg .i⟩
 ·cases e
theorem wO:cu X (.builtin "abs") (xi W zi):=by
 intro pins s σ H xs us Q I r h;obtain⟨H0,G,ps,rr,sg,tp,e,wq⟩:=h
 unfold zi at e;split at e
 ·cases e;obtain⟨v,rfl,t⟩:=fb tp
  exact zH pins s σ H _ us Q I r ⟨_,by rw [t.int],wq.at sg .i⟩
 ·cases e
theorem vZ(hc:X.calm=true):cu X (.builtin "max") (xi W zT):=by
 intro pins s σ H xs us Q I r h;obtain⟨H0,G,ps,rr,sg,tp,e,wq⟩:=h
 unfold zT at e;split at e
 ·cases e;obtain⟨v,u,rfl,t,t2⟩:=yi tp
  exact vB hc pins s σ H _ us Q I r ⟨_,_,by rw [t.int,t2.int],wq.at sg .i⟩
 ·cases e
theorem wI:cu X (.type "int") (xi W x9):=by
 intro pins s σ H xs us Q I r h;obtain⟨H0,G,ps,rr,sg,tp,e,wq⟩:=h
 unfold x9 at e;split at e
 ·split at e
  ·rename_i hl;obtain⟨n,hn,e⟩:=Res.bind_ok e
   cases e;obtain⟨v,rfl,t⟩:=fb tp
   exact oC pins s σ H _ us Q I r ⟨_,n,by rw [t.str],Res.of_ok hn,hl,wq.at sg .i⟩
  ·cases e
 ·cases e
theorem vP:cu X (.type "str") (xi W Ab):=by
 intro pins s σ H xs us Q I r h;obtain⟨H0,G,ps,rr,sg,tp,e,wq⟩:=h
 unfold Ab at e;split at e
 ·split at e
  ·rename_i hl;cases e;obtain⟨v,rfl,t⟩:=fb tp
   exact nA pins s σ H _ us Q I r ⟨_,by rw [t.int],hl,wq.at sg .s⟩
  ·cases e
 ·cases e
theorem pS(hK:W.K=X.K):cu X (.type "tuple") (xi W j6):=by
 intro pins s σ H xs us Q I r h;obtain⟨H0,G,ps,rr,sg,tp,e,wq⟩:=h
 unfold j6 at e;split at e
 ·cases e;obtain⟨v,rfl,t⟩:=fb tp
  obtain⟨a,vs,rfl,h1,l1⟩:=t.lst sg
  exact lN pins s σ H _ us Q I r ⟨a,vs,rfl,.inl ⟨eA hK h1,fun p hp=>wq.tup sg l1 hp⟩⟩
 ·cases e
def NR(W:Wd)(f:List PV→Res PV):V→List V→Hp→VK→Prop:=fun x vs H Q=>xi W f (x::vs) H Q
theorem oR:∀{ys:List Str} {aA:List Value},Vals (ys.map V.str) aA→PyProof.Rows.StrsAre aA ys
 |[],_,.nil=>.nil
 |y::ys,_,.cons r t=>by
  obtain⟨tk,rfl⟩:=r
  exact .cons y tk (oR t)
theorem yX(hK:W.K=X.K):KS X "str.join" (NR W pQ):=by
 intro pins s σ H x xs v us Q I rx r h;obtain⟨H0,G,ps,rr,sg,tp,e,wq⟩:=h
 unfold pQ at e;split at e
 ·obtain⟨ys,hy,e⟩:=Res.bind_ok e
  split at e
  ·rename_i hc;cases e;obtain⟨v1,u1,e1,t,t2⟩:=yi tp
   cases e1;cases t.str;obtain⟨tk,rfl⟩:=rx
   obtain⟨a,vs,rfl,h1,l1⟩:=t2.lst sg
   obtain⟨u,rfl,ru⟩:=Vals.one r
   cases ru;cases gB l1 (Res.of_ok hy);obtain⟨aA,rv,z,_⟩:=I.list (eA hK h1)
   refine PyProof.Rows.join_listW z.isList (by simpa using oR rv) hc.1 (zzU hc.2 (by decide)) fun t' k=>⟨.str _,H,I.tok _,⟨_,rfl⟩,wq.at sg .s⟩
  ·cases e
 ·obtain⟨ys,hy,e⟩:=Res.bind_ok e
  split at e
  ·rename_i hc;cases e;obtain⟨v1,u1,e1,t,t2⟩:=yi tp
   cases e1;cases t.str;obtain⟨tk,rfl⟩:=rx
   obtain⟨a,vs,rfl,h1,l1⟩:=t2.tup sg
   obtain⟨u,rfl,ru⟩:=Vals.one r
   cases ru;cases gB l1 (Res.of_ok hy);obtain⟨aA,rv,z,_⟩:=I.tuple (hK▸h1)
   refine PyProof.Rows.join_tupleW z (by simpa using oR rv) hc.1 (zzU hc.2 (by decide)) fun t' k=>⟨.str _,H,I.tok _,⟨_,rfl⟩,wq.at sg .s⟩
  ·cases e
 ·cases e
def so:Ty→String
 |.int=>"int"|.bool=>"bool"|.tuple=>"tuple"
theorem JS{K:PySem.W.Frag}(t:Ty):Cw.kit K "NoneType" (so t) false∧(∀b,Cw.kit K "bool" (so t) (ay t (.bl b)))∧(∀i,Cw.kit K "int" (so t) (ay t (.int i)))∧(∀z,Cw.kit K "str" (so t) (ay t (.str z)))∧(∀z,Cw.kit K "tuple" (so t) (ay t (.tup z)))∧(∀z,Cw.kit K "list" (so t) (ay t (.lst z))):=by
 cases t
 all_goals refine⟨?_,fun b=>?_,fun b=>?_,fun b=>?_,fun b=>?_,fun b=>?_⟩
 all_goals first
  |exact Cw.kit_same _
  |exact Cw.kit_of (b:=false) (by decide+kernel) (by decide+kernel) (by decide+kernel)
  |exact Cw.kit_of (b:=true) (by decide+kernel) (by decide+kernel) (by decide+kernel)
theorem zu(hK:W.K=X.K)(t:Ty):cu X (.builtin "isinstance") (fun xs H Q=>∃v H0 G p r,xs=[v,.ty (so t)]∧aG G H∧Top W H0 G H p v∧az t p=.ok r∧c7 W G H r Q):=by
 intro pins s σ H xs us Q I rr h;obtain⟨v,H0,G,p,r,rfl,sg,tp,e,wq⟩:=h
 obtain⟨u,u2,rfl,ru,ru2⟩:=Vals.two rr
 cases ru2;obtain⟨k1,k2,k3,k4,k5,k6⟩:=JS (K:=X.K) t
 cases p with
 |exc c=>cases e
 |dct a b=>cases e
 |non=>cases e;cases tp.non;cases ru;cases t<;>exact PySem.W.kia_one PySem.W.kitx_none I.kIn True.intro k1 (fun z=>nomatch z) fun tk=>⟨.bl _,H,I.tok tk,rfl,wq.at sg .b⟩
 |bl b=>cases e;cases tp.bl;cases ru;exact PySem.W.kia_one PySem.W.kitx_bool I.kIn True.intro (k2 b) (fun z=>nomatch z) fun tk=>⟨.bl _,H,I.tok tk,rfl,wq.at sg .b⟩
 |int b=>cases e;cases tp.int;obtain⟨t1,rfl⟩:=ru;exact PySem.W.kia_one PySem.W.kitx_int I.kIn True.intro (k3 b) (fun z=>nomatch z) fun tk=>⟨.bl _,H,I.tok tk,rfl,wq.at sg .b⟩
 |str b=>cases e;cases tp.str;obtain⟨t1,rfl⟩:=ru;exact PySem.W.kia_one PySem.W.kitx_str I.kIn True.intro (k4 b) (fun z=>nomatch z) fun tk=>⟨.bl _,H,I.tok tk,rfl,wq.at sg .b⟩
 |tup b=>
  cases e;obtain⟨a,vs,rfl,h1,l1⟩:=tp.tup sg
  rw [hK] at h1;cases ru;obtain⟨aA,_,⟨o,e1,e2,_⟩,_⟩:=I.tuple h1
  exact PySem.W.kia_one PySem.W.kitx_tuple I.kIn ⟨o,e1,e2⟩ (k5 b) (fun z=>nomatch z) fun tk=>⟨.bl _,H,I.tok tk,rfl,wq.at sg .b⟩
 |lst b=>
  cases e;obtain⟨a,vs,rfl,h1,l1⟩:=tp.lst sg
  cases ru;obtain⟨aA,n,_,_,_,e1⟩:=BZ hK I h1
  exact PySem.W.kia_one PySem.W.kitx_list I.kIn ⟨_,e1,rfl⟩ (k6 b) (fun z=>nomatch z) fun tk=>⟨.bl _,H,I.tok tk,rfl,wq.at sg .b⟩
end
section
variable{W:Wd}{X:Cx}{G H:Hp}
theorem nW{k:List Int}{v:V}(h:Rep W G (ah k) v):∃b,v=.ref b∧G b=some (.tup (k.map V.int)):=Top.tupI (H0:=G) (aG.refl G) rfl (.inl h)
theorem pg{K:PySem.W.Frag}(sg:aG G H):∀{xs:List PV} {nss:List (List Int)} {vs:List V},hW xs=some nss→ak W G xs vs→nss.all (fun k=>!k.isEmpty)=true→kq K H vs nss
 |[],_,_,e,l,_=>by cases e;simp only [ak] at l;subst l;exact .nil
 |x::xs,nss,vs,e,l,ne=>by
  unfold hW at e;obtain⟨k,hk,e⟩:=zzZ.mp e
  obtain⟨r,hr,rfl⟩:=zzJ.mp e
  obtain⟨v,vr,rfl,h1,h2⟩:=l.uncons
  rw [List.all_cons,zza] at ne;rw [fQ hk] at h1;obtain⟨b,rfl,hb⟩:=nW h1
  exact .cons ⟨b,rfl,.inl (.inl (sg _ _ hb)),fun z=>by rw [z] at ne;exact absurd ne.1 (by decide)⟩ (pg sg hr h2 ne.2)
theorem nK{ps:List PV}{vs:List V}{nss:List (List Int)}(l:ak W G ps vs):ak W G (gR .non ps nss) (gR V.non vs nss):=by
 unfold gR;rw [l.length];split
 ·exact l
 ·have go:∀ix:List Nat,ak W G (ix.map fun i=>ps.getD i .non) (ix.map fun i=>vs.getD i V.non):=by
   intro ix
   induction ix with
   |nil=>exact .nil
   |cons i ix ih=>
    refine .cons ?_ ih;dsimp only
    by_cases hi:i<ps.length
    ·obtain⟨v,hv,rv⟩:=l.getP (zzg hi)
     have e1:ps.getD i .non=ps[i]:=by simp [hi]
     have e2:vs.getD i V.non=v:=by simp [hv]
     rw [e1,e2];exact rv
    ·have e1:ps.getD i .non=.non:=by simp [Nat.le_of_not_lt hi]
     have e2:vs.getD i V.non=.non:=by simp [Nat.le_of_not_lt (l.length▸hi)]
     rw [e1,e2];exact .n
  exact go _
theorem fT:∀{vs:List V} {nss:List (List Int)} {G:Hp},aG G H→Paired (fun v ns=>∃b,v=V.ref b∧H b=some (.tup (ns.map V.int))) vs nss→∃G',aK W G H G' H∧ak W G' (nss.map ah) vs
 |_,_,G,sg,.nil=>⟨G,.refl sg,.nil⟩
 |_,_,G,sg,.cons (b:=ns) h t=>by
  obtain⟨b,rfl,hb⟩:=h
  have g1:=aK.adopt (W:=W) sg hb
  obtain⟨G2,g2,l⟩:=fT g1.sub t
  refine⟨G2,g1.trans g2,.cons (Rep.same g2.g _ ?_) l⟩;refine .t (.inl au) ?_;have go:∀ns:List Int,ak W (upd G b (.tup (ns.map V.int))) (ns.map .int) (ns.map V.int)∧True:=fun _=>⟨by
   rename_i G9;have all:∀(G':Hp) (l:List Int),ak W G' (l.map .int) (l.map V.int):=fun G' l=>by
    induction l with
    |nil=>exact .nil
    |cons x l ih=>exact .cons .i ih
   exact all _ _,trivial⟩
  exact(go ns).1
theorem oW(hK:W.K=X.K)(hc:X.calm=true):cu X (.builtin "sorted") (xi W hJ):=by
 intro pins s σ H xs us Q I r h;obtain⟨H0,G,ps,rr,sg,tp,e,wq⟩:=h
 unfold hJ at e;split at e
 ·obtain⟨nss,hn,e⟩:=Res.bind_ok e
  split at e
  ·rename_i hb;rw [zza,zzN] at hb;cases e;obtain⟨v,rfl,t⟩:=fb tp
   obtain⟨a,vs,rfl,h1,l1⟩:=t.lst sg
   exact oK pins s σ H _ us Q I r ⟨a,vs,nss,rfl,eA hK h1,pg sg (Res.of_ok hn) l1 hb.2,by rw [l1.length];exact hb.1,fun p hp=>wq _ _ _ (.new sg hp) (.l (.inl (.inl au)) (ak.same (bD (sg.free hp)) _ (nK l1)))⟩
  ·cases e
 ·split at e
  ·rename_i ks pO hb;rw [zza,zzN] at hb;cases e;obtain⟨v,rfl,t⟩:=fb tp
   obtain⟨a,us',rfl,n,hd,l⟩:=t.dct sg
   refine nF hc pins s σ H _ us Q I r ⟨a,_,ks,rfl,hd,og n,fun ns hm z=>?_,by rw [eY n];exact hb.1,fun p vs hp pv=>?_⟩
   ·have:=zzT.mp hb.2 ns hm
    rw [z] at this;exact absurd this (by decide)
   ·obtain⟨G1,g1,l1⟩:=fT (W:=W) sg pv
    exact wq _ _ _ (g1.trans (.new g1.sub hp)) (.l (.inl (.inl au)) (ak.same (bD (g1.sub.free hp)) _ (nK l1)))
  ·cases e
 ·cases e
theorem tX(hK:W.K=X.K)(sg:aG G H):∀{xs:List PV} {dR:List (List (List Int))} {vs:List V},rR xs=some dR→ak W G xs vs→dR.all (fun ks=>ks.all fun k=>k.length==2)=true→Fi X.K H vs dR
 |[],_,_,e,l,_=>by cases e;simp only [ak] at l;subst l;exact .nil
 |x::xs,dR,vs,e,l,ne=>by
  obtain⟨v,vr,rfl,h1,h2⟩:=l.uncons
  cases x with
  |lst ys=>
   unfold rR at e;obtain⟨k,hk,e⟩:=zzZ.mp e
   obtain⟨r,hr,rfl⟩:=zzJ.mp e
   rw [List.all_cons,zza] at ne;simp only [Rep] at h1;obtain⟨a,us,rfl,ha,l1⟩:=h1
   refine .cons ⟨a,us,rfl,eA hK (aG.ls sg ha),pg sg hk l1 ?_⟩ (tX hK sg hr h2 ne.2);rw [zzT] at ne⊢;intro z hz;have:=ne.1 z hz
   match z,this with
   |_::_,_=>rfl
  |_=>cases e
theorem md(hK:W.K=X.K)(hu:X.A.units+64<cLine):cu X (.builtin "sorted") (xi W fC):=by
 intro pins s σ H xs us Q I r h;obtain⟨H0,G,ps,rr,sg,tp,e,wq⟩:=h
 unfold fC at e;split at e
 ·obtain⟨dR,hn,e⟩:=Res.bind_ok e
  split at e
  ·rename_i hb;rw [zza,zzN] at hb;cases e;obtain⟨v,rfl,t⟩:=fb tp
   obtain⟨a,vs,rfl,h1,l1⟩:=t.lst sg
   refine lR hu pins s σ H _ us Q I r ⟨a,vs,dR,rfl,eA hK h1,tX hK sg (Res.of_ok hn) l1 hb.2,fun ks hk k HV=>?_,by rw [l1.length];exact hb.1,fun p hp=>wq _ _ _ (.new sg hp) (.l (.inl (.inl au)) (ak.same (bD (sg.free hp)) _ (nK l1)))⟩
   exact beq_iff_eq.mp (zzT.mp (zzT.mp hb.2 ks hk) k HV)
  ·cases e
 ·cases e
theorem rZ(hK:W.K=X.K)(hc:X.calm=true):cu X (.builtin "max") (xi W qC):=by
 intro pins s σ H xs us Q I r h;obtain⟨H0,G,ps,rr,sg,tp,e,wq⟩:=h
 unfold qC at e;split at e
 ·obtain⟨ns,hn,e⟩:=Res.bind_ok e
  split at e
  ·rename_i hb;cases e;obtain⟨v,rfl,t⟩:=fb tp
   obtain⟨a,vs,rfl,h1,l1⟩:=t.lst sg
   cases k8 l1 (Res.of_ok hn);exact wx hc pins s σ H _ us Q I r ⟨a,ns,rfl,eA hK h1,hb,wq.at sg .i⟩
  ·cases e
 ·cases e
end
end Ci
namespace L2
open PySem PySem.Spec PyProof.Rows
section
variable{X:Cx}{scope:Scope}{xs ys:List Str}{is:List Nat}
theorem pC{i₀:Nat}{x₀:Str}{pos' fe:Pos}{elt tg iter ED:Expr}{pos:Pos}{wi:TI}{g:TG}{te:TE}{tt:TT}(hN₀:X.N.Nodup)(hi₀:X.N[i₀]?=some x₀)(hx₀:Loc X.env.scope x₀)(hc:X.calm=true)(S:en X scope xs ys is)(hi:PI X tg iter wi)
 (hg:∀fp s1 H1 C,PG (bS X (xs++ys) scope (bF X.env ys) fp s1 H1 C) tg g) (ht:∀fp s1 H1 C,PT (bS X (xs++ys) scope (bF X.env ys) fp s1 H1 C) ED tt) (he:∀fp s1 H1 C,PE (bS X (xs++ys) scope (bF X.env ys) fp s1 H1 C) elt te)
 (zX:swapsWith (.ListComp elt [⟨tg,iter,[ED],0⟩] scope pos) (some (.Name x₀ pos')) fe.line X.env=pure true:=by rfl)
 (hs:∀x,foldedSetIterable iter X.env x=pure x:=by intro _;rfl) (hf₀:X.fn x₀=true∨X.env.scope.names.lookup x₀=some .local:=by first|exact .inl rfl|exact .inr rfl|assumption):
 PS X (.Assign [.Name x₀ pos'] (.ListComp elt [⟨tg,iter,[ED],0⟩] scope pos) fe) (BL (jy wi xs.length g tt te is) (d7 i₀)):=by
 intro pins s σ H D₀ I h;rw [exec_Assign_Name_used _ _ _ _ zX];refine zzA (wpAny_standAt (zzA ?_));show wpAny _ X.A (do let _←comprehension (.ListComp elt [⟨tg,iter,[ED],0⟩] scope pos) scope X.env _ (newList []) false (eval iter X.env) (some (assign (.Name x₀ pos') X.env))) _ _ s;refine zzA (wpAny_mono (gf (QQ:=fun _ s'=>∃σ2 H2,Inv X pins σ2 H2 s'∧D₀.nx σ2 H2) (Q:=fun v H4=>d7 i₀ v σ H4 D₀.nx) hc S hi hg (fun fp s1 H1 C=>uJ (ht fp s1 H1 C)) he hs I h fun D C s4 H4 m I5 hn ⟨g0,g1,_,g3,g4,g5⟩ q=>?_) (fun _ s' hq=>zzG (zzG hq)) fun _ _ e=>e)
 refine wpAny_assign_Name (iE I5 hN₀ hi₀ hx₀ (show RelV (.ref D) (.ref D) from rfl) (fun s6 I6 ⟨a6,sb6,ha6⟩=>?_) hf₀);have yT:C≠a6:=by
  rcases ha6 with z|z
  ·rw [z];exact g1
  ·exact fun z2=>g4 _ _ z z2.symm
 exact⟨m,hn.sameBut sb6 yT,fun h' vG=>⟨_,_,I6.turned (t':=s6.toks) (it:=C) (fun b o hb e=>vG.extBut b o hb e) g0 g1 g3 g4 g5,q⟩⟩
end
open PySem.AutoSeq1 (wpAny_loadPart')
section
variable{prog:Program}{w:World}{A:Around}{E:Value→Shared→Prop}{s:Shared}{jt tu:Addr}{i:Nat}{aA:Array Value}{Q:Value→Shared→Prop}
theorem je{x:Value}(ih:s.heap.IsTupleIter jt tu i)(th:s.heap.IsTuple tu aA)(hx:aA[i]?=some x)
 (k:∀g,g.IsTupleIter jt tu (i+1)→Heap.SameBut jt s.heap g→Q x {s with heap:=g}):wpAny (model prog w) A (Builtin.SmallTypes.nextOf (.ref jt)) Q E s:=by
 obtain⟨ob,e1,e2,e3⟩:=id ih
 obtain⟨ot,f1,_,nn,f2⟩:=th
 unfold Builtin.SmallTypes.nextOf;refine zzA (wpAny_callSpecial?_slot (name:=Str.ofString "__next__") ih.typeIs F.slot_tuple_iterator_next (wpAny_call_entry F.slot_tuple_iterator_next ih.typeIs F.entry_tuple_iterator_next ?_ (F.args_tuple_iterator_next_1 _)));show wpAny _ _ (field (.ref jt) 0>>=_) _ _ s;refine zzA (wpAny_field e1 e3 (x:=.ref tu) rfl ?_);show wpAny _ _ (if(Value.ref tu==Value.none)=true then _ else _) _ _ s;rw [if_neg (show¬((Value.ref tu==Value.none)=true) from zzf)];show wpAny _ _ (field (.ref jt) 1>>=_) _ _ s;refine zzA (wpAny_field e1 e3 (x:=.int i 0) rfl ?_);show wpAny _ _ (seqItems? (.ref tu)>>=_) _ _ s;refine zzA (wpAny_seqItems f1 f2 ?_);simp only [Int.toNat_natCast,hx];refine zzA (wpAny_setField e1 e3 (by simp) (zzG ⟨x,rfl,zzG (k _ ?_ (Heap.SameBut.update ..))⟩));exact⟨_,Heap.get?_update_self _ e1 (Obj.isFreed_of_fields (Obj.data_mapFields e3 _)),(Obj.cls_mapFields ..).trans e2,by rw [Obj.data_mapFields e3];simp [rawInt]⟩
theorem j8(hh:A.handled=none)(ih:s.heap.IsTupleIter jt tu i)(th:s.heap.IsTuple tu aA)(hx:aA[i]?=none)
 (k:∀g e,Heap.ExtBut jt s.heap g→(∃o,g.get? e=some o∧o.cls=.type "StopIteration")→E (.ref e) {s with heap:=g}):wpAny (model prog w) A (Builtin.SmallTypes.nextOf (.ref jt)) Q E s:=by
 obtain⟨ob,e1,e2,e3⟩:=id ih
 obtain⟨ot,f1,_,nn,f2⟩:=th
 unfold Builtin.SmallTypes.nextOf;refine zzA (wpAny_callSpecial?_slot (name:=Str.ofString "__next__") ih.typeIs F.slot_tuple_iterator_next (wpAny_call_entry F.slot_tuple_iterator_next ih.typeIs F.entry_tuple_iterator_next ?_ (F.args_tuple_iterator_next_1 _)));show wpAny _ _ (field (.ref jt) 0>>=_) _ _ s;refine zzA (wpAny_field e1 e3 (x:=.ref tu) rfl ?_);show wpAny _ _ (if(Value.ref tu==Value.none)=true then _ else _) _ _ s;rw [if_neg (show¬((Value.ref tu==Value.none)=true) from zzf)];show wpAny _ _ (field (.ref jt) 1>>=_) _ _ s;refine zzA (wpAny_field e1 e3 (x:=.int i 0) rfl ?_);show wpAny _ _ (seqItems? (.ref tu)>>=_) _ _ s;refine zzA (wpAny_seqItems f1 f2 ?_);simp only [Int.toNat_natCast,hx];refine zzA (wpAny_rule (zzA (wpAny_setField e1 e3 (by simp) ?_)));show wpAny _ _ (newExc (.type "StopIteration") []>>=_) _ _ _;refine zzA ?_;simp only [newExc,newTuple];refine zzA (wpAny_newObj_type ?_ (by size_fits));refine zzA (m:=firstArgMember _ _) (wpAny_of_eq (a:=Value.none) (by first|rfl|(simp only [firstArgMember];rfl)) ?_);refine wpAny_newObj_type ?_ (by size_fits);simp only [raiseNew];refine zzA (wpAny_handled ?_)
 first|rw [show A.in1.handled=none from hh]|rw [hh]
 refine zzA (zzG (wpAny_throw ?_));exact k _ _ (((Heap.SameBut.update ..).extBut.push _).push _) ⟨_,zzX _ rfl,rfl⟩
end
theorem m6{prog:Program}{w:World}{A:Around}(hh:A.handled=none)(jt tu:Addr)(gH:tu≠jt)(aA:Array Value):
 Draws prog w A jt [jt,tu] aA.size (fun i v=>aA[i]?=some v) (fun i h=>h.IsTupleIter jt tu i∧h.IsTuple tu aA) where
 live:=fun _ _ st=>let⟨o,ho,_⟩:=st.1;⟨o,ho⟩
 frame:=fun _ _ _ st hk=>⟨st.1.at fun o e=>hk jt (by simp) o e,by obtain⟨o,e,r⟩:=st.2;exact⟨o,hk tu (by simp) o e,r⟩⟩
 item:=fun i s Q E hi st hQ=>je st.1 st.2 (x:=aA[i]) (by simp [hi]) fun g ig sb=>hQ _ g s.toks (by simp [hi]) ⟨ig,by obtain⟨o,e,r⟩:=st.2;exact⟨o,sb.extBut _ _ gH e,r⟩⟩ sb
 done:=fun s Q E st hE=>j8 hh st.1 st.2 (by simp) hE
theorem wQ(l:Addr)(items:Array Value)(n:Nat)(dct:Option Addr)(sl:Array (Option Value)):
 Meets (Builtin.«enumerate.__new__» ⟨[.type "enumerate",.ref l],[]⟩) (fun _ R s=>s.heap.get? l=some {cls:=.type "tuple",dict:=dct,data:=.seq items n,slots:=sl}∧
  R (.ok (.ret (.ref (s.heap.push {cls:=.type "tuple_iterator",data:=.fields #[.ref l,.int 0 0]}).objs.size)))
   {s with heap:=(s.heap.push {cls:=.type "tuple_iterator",data:=.fields #[.ref l,.int 0 0]}).push {cls:=.type "enumerate",data:=.fields #[.none,.bool false,.ref s.heap.objs.size,rawInt 0,.none,.none]}}):=
 .of_wp fun prog w A R s h=>by
  obtain⟨hp,g,d,tk,os⟩:=s
  obtain⟨hl,h⟩:=h
  have Qa:=sub_enumerate
  have hL:Heap.IsTuple (Shared.heap ⟨hp,g,d,tk,os⟩) l items:=⟨_,hl,rfl,n,rfl⟩
  wp_walk using wpAny_loadPart' hl
  refine wpAny_stack_any fun st=>zzG ?_
  split
  ·rename_i c _ _ _ _ _;cases(c==Value.type "enumerate")<;>(wp_walk using wpAny_loadPart' hl,wpAny_pyIter_tuple hL;exact⟨_,rfl,h⟩)
  ·wp_walk using wpAny_loadPart' hl,wpAny_pyIter_tuple hL
   exact⟨_,rfl,h⟩
theorem eQ{h:Heap}{a b:Addr}{o1 o2:Obj}(h1:h.get? a=some o1)(h2:h.get? b=some o2)(hc:o1.cls≠o2.cls):a≠b:=fun z=>by
 subst z;rw [h1] at h2;cases h2;exact hc rfl
theorem ee(z:Str):strIterType z="str_ascii_iterator"∨strIterType z="str_iterator":=by
 unfold strIterType;split
 ·exact .inl rfl
 ·exact .inr rfl
theorem iT{X:Cx}{pins:List (Addr×Obj)}{σ:St}{H:Hp}{s:Shared}{E:Value→Shared→Prop}{e it:Addr}{N2:List Addr}{n i:Nat}{Pv:Nat→Value→Prop}{Sv:Nat→Heap→Prop}{old:Value}{Gx:V→Prop}{elts:List Expr}{x1:Nat}{pos:Pos}
 (I:Inv X pins σ H s) (D:Draws X.prog X.w X.A.in1 it N2 n Pv Sv) (he:IsEnum s.heap e it i old) (df:Sv i s.heap) (bR:i<n) (gH:e≠it) (Nx:e∉N2) (hf:∀b∈[e,it],fc X pins H b) (hP:∀u,Pv i u→∃x,RelV x u∧Gx x):
 wpAny (model X.prog X.w) X.A (pyNext (.ref e)) (fun r s1=>∃u,r=some u∧wpAny (model X.prog X.w) X.A (letOwnedTupleGo (.Tuple elts x1 pos) (.ref e) u) (fun _ s2=>∃x p,u=.ref p∧Gx x∧H p=none∧e≠p∧it≠p∧
  Inv X pins σ (upd H p (.tup [.int i,x])) s2∧(∃MZ,IsEnum s2.heap e it ((i:Int)+1) MZ)∧Sv (i+1) s2.heap) E s1) E s:=by
 refine wpAny_pyNext_enum_itemD D he df bR gH Nx fun u h' tk pu ho gb ht hz kk=>?_
 obtain⟨x,rx,gx⟩:=hP u pu
 obtain⟨f0,f1,f2,f3,f4,f5⟩:=hf e (by simp)
 obtain⟨g0,g1,g2,g3,g4,g5⟩:=hf it (by simp)
 have CS:H s.heap.objs.size=none:=I.hok.fresh (zzE _)
 obtain⟨oi,hoi⟩:=D.live _ _ df
 have NH:e≠s.heap.objs.size:=zzb (zzO he)
 have Ph:it≠s.heap.objs.size:=zzb (zzO hoi)
 have B4:∀b o,H b=some o→b≠e∧b≠it∧b≠s.heap.objs.size:=fun b o q=>⟨(fun z=>(by rw [z,f0] at q;cases q)),(fun z=>(by rw [z,g0] at q;cases q)),zzb (I.hok.lt q)⟩
 have I1:Inv X pins σ (upd H s.heap.objs.size (.tup [.int i,x])) {s with heap:=h',toks:=tk+1}:=by
  refine I.step (g':=s.gens) (d':=s.drawn) (ch:=[e,it]) (fun b hb=>?_) (fun b o _ _ hc q _=>kk b o (fun z=>hc (by simp [z])) (fun z=>hc (by simp [z])) q)
   (fun b o _ _ hc q _=>⟨o.slots,kk b o (fun z=>hc (by simp [z])) (fun z=>hc (by simp [z])) q⟩) (fun b o _ q nb=>by rw [af (zzb (zzO q))];exact nb)
   (fun b o hc q=>⟨o,kk b o (fun z=>hc (by simp [z])) (fun z=>hc (by simp [z])) q⟩) (fun b xs q=>by rw [af (B4 b _ q).2.2];exact q) (fun b o u q=>by rw [af (B4 b _ q).2.2];exact q)
   (fun b ps q=>⟨#[],by rw [af (B4 b _ q).2.2,q];simp⟩) (fun m hm=>?_) (fun b o q=>?_) I.bare
  ·rcases List.mem_cons.mp hb with z|z
   ·subst z;exact⟨f3,f1,f4,f5⟩
   ·rw [zzi.mp z];exact⟨g3,g1,g4,g5⟩
  ·obtain⟨o,es,ep,q,r⟩:=hm
   exact⟨o,es,ep,kk _ o (Ne.symm f1) (Ne.symm g1) q,r⟩
  ·by_cases hb:b=s.heap.objs.size
   ·subst hb;rw [au] at q;cases q;exact⟨(show 2≤sizeLine by decide),[.int i tk,u],.cons ⟨tk,rfl⟩ (.cons rx .nil),⟨_,ht,rfl,_,rfl⟩⟩
   ·rw [af hb] at q;refine(I.hok b o q).stay (fun c v hc z=>kk c v ?_ ?_ z) (fun c z=>by rw [af (B4 c _ z).2.2];exact z) fun c xs z=>by rw [af (B4 c _ z).2.2];exact z
    ·rcases hc with z'|z'
     ·rw [z'];exact(B4 b o q).1
     ·exact(B4 c _ z').1
    ·rcases hc with z'|z'
     ·rw [z'];exact(B4 b o q).2.1
     ·exact(B4 c _ z').2.1
 refine⟨_,rfl,wpAny_letOwnedTupleGo_enum ho fun h2 FV sb=>?_⟩
 refine⟨x,s.heap.objs.size,rfl,gx,CS,NH,Ph,I1.turned (t':=tk+1) (it:=e) (fun b o hb q=>sb.extBut b o hb q) (by rw [af NH];exact f0) f1 f3 f4 f5,⟨_,FV⟩,D.frame _ _ _ gb fun b hb o q=>sb.extBut b o (fun z=>Nx (z▸hb)) q⟩
noncomputable def L6(K:PySem.W.Frag)(a:Addr)(xs:List V):It:=
 ⟨fun i H=>fj K H a xs∧i<xs.length,fun i H v H'=>∃p x,v=.ref p∧H p=none∧H'=upd H p (.tup [.int (i:Nat),x])∧xs[i]?=some x,fun i H=>fj K H a xs∧i=xs.length⟩
noncomputable def Ku(z:Str):It:=
 ⟨fun i _=>i<z.cps.size,fun i H v H'=>∃p c,v=.ref p∧H p=none∧H'=upd H p (.tup [.int (i:Nat),.str ⟨#[c]⟩])∧z.cps[i]?=some c,fun i _=>i=z.cps.size⟩
theorem rS{P:Program}{w:World}{K:PySem.W.Frag}{elts:List Expr}{x1:Nat}{pos:Pos}(a e it:Addr)(xs:List V):Turn P w K (.Tuple elts x1 pos) (L6 K a xs) [e,it] e (fun i h=>(∃old,IsEnum h e it i old)∧h.IsTupleIter it a i) where
 mem:=by simp
 obj:=fun i h st b hb=>by
  obtain⟨⟨old,he⟩,o,ho,_,hd⟩:=st
  rcases List.mem_cons.mp hb with z|z
  ·subst z;exact⟨_,he,fun v q=>by cases q⟩
  ·rw [zzi.mp z];exact⟨o,ho,fun v q=>by rw [hd] at q;cases q⟩
 keep:=fun i h h' st k=>⟨by obtain⟨old,he⟩:=st.1;exact⟨old,k e (by simp) _ he⟩,st.2.at fun o q=>k it (by simp) o q⟩
 item:=by
  intro X hP hw hK hc i pins s σ H E I hf st hg;subst hP hw hK;obtain⟨hq,bR⟩:=hg
  obtain⟨⟨old,he⟩,hit⟩:=st
  obtain⟨aA,rv,p,hz⟩:=I.tuple hq
  have hl:=rv.length
  have jj:=hit
  obtain⟨oi,e1,e2,_⟩:=hit
  obtain⟨oa,a1,a2,_⟩:=id p
  have yT:a≠it:=eQ a1 e1 (by rw [a2,e2];decide+kernel)
  have Ds:e≠it:=eQ he e1 (by rw [e2];show Value.type "enumerate"≠_;decide+kernel)
  have FQ:e≠a:=eQ he a1 (by rw [a2];show Value.type "enumerate"≠_;decide+kernel)
  refine bJ (iT (Gx:=fun x=>xs[i]?=some x) I (m6 (A:=X.A.in1) (I.ok.hd hc) it a yT aA.toArray) he ⟨jj,p⟩ (by rw [zzC];omega) Ds (by simp [Ds,FQ]) hf (fun u hu=>?_)) fun r s1 ⟨u,hr,k⟩=>⟨u,hr,bJ k fun _ s2 ⟨x,q,z1,z2,z3,z4,z5,z6,z7,z8⟩=>?_⟩
  ·have JD:xs[i]?=some xs[i]:=zzg bR
   obtain⟨u',hu',ru'⟩:=rv.get JD
   have:aA.toArray[i]?=some u':=by simpa using hu'
   have GH:aA.toArray[i]?=some u:=hu
   rw [this] at GH;cases GH;exact⟨xs[i],ru',JD⟩
  ·exact⟨.ref q,_,z6,z1.symm▸rfl,⟨q,x,rfl,z3,rfl,z2⟩,⟨z7,z8.1⟩,fun b hb=>by
    rcases List.mem_cons.mp hb with w|w
    ·rw [w,af z4];exact(hf e (by simp)).1
    ·rw [zzi.mp w,af z5];exact(hf it (by simp)).1⟩
 done:=by
  intro X hP hw hK hc i pins s σ H E I hf st hg;subst hP hw hK;obtain⟨hq,rfl⟩:=hg
  obtain⟨⟨old,he⟩,hit⟩:=st
  obtain⟨aA,rv,p,hz⟩:=I.tuple hq
  have hl:=rv.length
  have jj:=hit
  obtain⟨oi,e1,e2,_⟩:=hit
  obtain⟨oa,a1,a2,_⟩:=id p
  have yT:a≠it:=eQ a1 e1 (by rw [a2,e2];decide+kernel)
  obtain⟨g0,g1,g2,g3,g4,g5⟩:=hf it (by simp)
  refine wpAny_pyNext_enum_endD (m6 (A:=X.A.in1) (I.ok.hd hc) it a yT aA.toArray) he ⟨by rw [zzC,←hl];exact jj,p⟩ fun h' eb=>⟨rfl,I.turned (t':=s.toks) (fun b o hb q=>eb b o hb q) g0 g1 g3 g4 g5⟩
 self:=fun _ _ _ _ _ st h=>by obtain⟨⟨old,he⟩,_⟩:=st;exact wpAny_pyIter_enum he h
theorem lQ{prog:Program}{w:World}{A:Around}{E:Value→Shared→Prop}{s:Shared}{l:Addr}{items:Array Value}{Q:Value→Shared→Prop}(hL:IsTup s.heap l items)
 (h:∀g,IsEnum g (s.heap.objs.size+1) s.heap.objs.size 0 .none→g.IsTupleIter s.heap.objs.size l 0→(∀b o,s.heap.get? b=some o→g.get? b=some o)→Q (.ref (s.heap.objs.size+1)) {s with heap:=g}):
 wpAny (model prog w) A (call (.type "enumerate") [.ref l]) Q E s:=by
 obtain⟨⟨cls,dd,data,sl⟩,ho,hc,n,hd⟩:=id hL
 simp only at hc hd;subst hc hd;have hz:(s.heap.push {cls:=.type "tuple_iterator",data:=.fields #[.ref l,.int 0 0]}).objs.size=s.heap.objs.size+1:=Heap.size_push ..
 refine callType_new F.called_enumerate (by decide) (F.typeCall_enumerate_1 _) (F.newCall_enumerate_1 _) (fun obj=>F.args_object_init_2 obj _) F.entry_enumerate_new (wQ l items n dd sl) ⟨ho,?_⟩;show _∧_;rw [hz];have he:IsEnum ((s.heap.push {cls:=.type "tuple_iterator",data:=.fields #[.ref l,.int 0 0]}).push {cls:=.type "enumerate",data:=.fields #[.none,.bool false,.ref s.heap.objs.size,rawInt 0,.none,.none]}) (s.heap.objs.size+1) s.heap.objs.size 0 .none:=by
  have q:=zzX (s.heap.push {cls:=.type "tuple_iterator",data:=.fields #[.ref l,.int 0 0]}) (o:={cls:=.type "enumerate",data:=.fields #[.none,.bool false,.ref s.heap.objs.size,rawInt 0,.none,.none]}) rfl
  rw [hz] at q;exact q
 exact⟨⟨_,he,rfl⟩,h _ he ⟨_,zzB _ (zzX _ rfl),rfl,rfl⟩ fun b o x=>zzB _ (zzB _ x)⟩
section
variable{X:Cx}{elts:List Expr}{x1:Nat}{kf:Pos}
noncomputable def L7(K:PySem.W.Frag)(ta:TA):TI:=fun σ H R=>ta σ H fun vs H1=>∃a xs,vs=[.ref a]∧fj K H1 a xs∧R (L6 K a xs) H1
theorem zZ{a:Expr}{ta:TA}{p pos:Pos}(hg:Gl X "enumerate")(hm:X.mg "enumerate"=none)(ha:PA X [a] ta)(hs:starEach [a] X.env=[(false,eval a X.env)]:=by rfl):PI X (.Tuple elts x1 kf) (.Call (.Name "enumerate" p) [a] [] pos) (L7 X.K ta):=by
 intro pins s σ H R I h;refine Call_ (eN I hg hm boot_enumerate (PyProof.Rows.callWith_type1 (bJ (ha pos pins s σ H _ I h) fun us s1 ⟨vs,H1,I1,r1,q1⟩=>?_) hs rfl))
 obtain⟨a,xs,e,hq,q⟩:=q1
 subst e;obtain⟨u,rfl,ru⟩:=vals1 r1
 cases ru;obtain⟨aA,rv,pt,hz⟩:=I1.tuple hq
 refine lQ pt fun g he hi kp=>wpAny_pyIter_enum he ?_
 have I2:Inv X pins σ H1 {s1 with heap:=g}:=I1.kept (t':=s1.toks) kp
 refine⟨s1.heap.objs.size+1,[s1.heap.objs.size+1,s1.heap.objs.size],_,_,H1,rfl,I2,rS a _ s1.heap.objs.size xs,⟨⟨_,he⟩,hi⟩,fun b hb=>?_,q⟩
 have jg:s1.heap.objs.size≤b:=by
  rcases List.mem_cons.mp hb with z|z
  ·rw [z];exact Nat.le_succ _
  ·rw [zzi.mp z];exact zzE _
 exact I1.fpOk jg (I1.hok.fresh jg)
end
theorem sV{P:Program}{w:World}{K:PySem.W.Frag}{elts:List Expr}{x1:Nat}{pos:Pos}(z:Str)(t:Tok)(e it:Addr):Turn P w K (.Tuple elts x1 pos) (Ku z) [e,it] e (fun i h=>(∃old,IsEnum h e it i old)∧h.IsStrIter it (strIterType z) z t i) where
 mem:=by simp
 obj:=fun i h st b hb=>by
  obtain⟨⟨old,he⟩,o,ho,_,hd⟩:=st
  rcases List.mem_cons.mp hb with q|q
  ·subst q;exact⟨_,he,fun v q=>by cases q⟩
  ·rw [zzi.mp q];exact⟨o,ho,fun v q=>by rw [hd] at q;cases q⟩
 keep:=fun i h h' st k=>⟨by obtain⟨old,he⟩:=st.1;exact⟨old,k e (by simp) _ he⟩,by obtain⟨o,q,r⟩:=st.2;exact⟨o,k it (by simp) o q,r⟩⟩
 item:=by
  intro X hP hw hK hc i pins s σ H E I hf st hg;subst hP hw hK;have bR:i<z.cps.size:=hg
  obtain⟨⟨old,he⟩,hit⟩:=st
  have jj:=hit
  obtain⟨oi,e1,e2,_⟩:=hit
  have Ds:e≠it:=eQ he e1 (by
   rw [e2];show Value.type "enumerate"≠_;rcases ee z with q|q<;>rw [q]<;>decide+kernel)
  have fin:∀{Sv:Nat→Heap→Prop},Draws X.prog X.w X.A.in1 it [it] z.cps.size (fun i v=>∃c u,z.cps[i]?=some c∧v=.str ⟨#[c]⟩ u) Sv→Sv i s.heap→(∀h,Sv (i+1) h→h.IsStrIter it (strIterType z) z t (i+1))→
   wpAny (model X.prog X.w) X.A (pyNext (.ref e)) (fun r s1=>∃u,r=some u∧wpAny (model X.prog X.w) X.A (letOwnedTupleGo (.Tuple elts x1 pos) (.ref e) u) (fun _ s2=>∃x H',Inv X pins σ H' s2∧RelV x u∧(Ku z).yld i H x H'∧((∃old,IsEnum s2.heap e it (((i+1:Nat)):Int) old)∧s2.heap.IsStrIter it (strIterType z) z t (i+1))∧∀b∈[e,it],H' b=none) E s1) E s:=by
   intro Sv D df back;refine bJ (iT (Gx:=fun x=>∃c,x=.str ⟨#[c]⟩∧z.cps[i]?=some c) I D he df bR Ds (by simp [Ds]) hf (fun u ⟨c,tk,hc,hu⟩=>⟨.str ⟨#[c]⟩,⟨tk,hu⟩,c,rfl,hc⟩)) fun r s1 ⟨u,hr,k⟩=>⟨u,hr,bJ k fun _ s2 ⟨x,q,z1,⟨c,z2,oq⟩,z3,z4,z5,z6,z7,z8⟩=>?_⟩
   subst z2;exact⟨.ref q,_,z6,z1.symm▸rfl,⟨q,c,rfl,z3,rfl,oq⟩,⟨z7,back _ z8⟩,fun b hb=>by
    rcases List.mem_cons.mp hb with w|w
    ·rw [w,af z4];exact(hf e (by simp)).1
    ·rw [zzi.mp w,af z5];exact(hf it (by simp)).1⟩
  rcases ee z with q|q
  ·rw [q] at jj⊢;rw [q] at fin;exact fin (Draws.strAscii (A:=X.A.in1) (I.ok.hd hc) it z t) jj fun h st=>st
  ·rw [q] at jj⊢;rw [q] at fin;exact fin (Draws.strWide (A:=X.A.in1) (I.ok.hd hc) it z t) jj fun h st=>st
 done:=by
  intro X hP hw hK hc i pins s σ H E I hf st hg;subst hP hw hK;have hi:i=z.cps.size:=hg
  subst hi;obtain⟨⟨old,he⟩,hit⟩:=st
  obtain⟨g0,g1,g2,g3,g4,g5⟩:=hf it (by simp)
  rcases ee z with q|q
  ·rw [q] at hit;exact wpAny_pyNext_enum_endD (Draws.strAscii (A:=X.A.in1) (I.ok.hd hc) it z t) he hit fun h' eb=>⟨rfl,I.turned (t':=s.toks) (fun b o hb q=>eb b o hb q) g0 g1 g3 g4 g5⟩
  ·rw [q] at hit;exact wpAny_pyNext_enum_endD (Draws.strWide (A:=X.A.in1) (I.ok.hd hc) it z t) he hit fun h' eb=>⟨rfl,I.turned (t':=s.toks) (fun b o hb q=>eb b o hb q) g0 g1 g3 g4 g5⟩
 self:=fun _ _ _ _ _ st h=>by obtain⟨⟨old,he⟩,_⟩:=st;exact wpAny_pyIter_enum he h
section
variable{X:Cx}{elts:List Expr}{x1:Nat}{kf:Pos}
noncomputable def Ly(ta:TA):TI:=fun σ H R=>ta σ H fun vs H1=>∃z,vs=[.str z]∧R (Ku z) H1
theorem yH{a:Expr}{ta:TA}{p pos:Pos}(hg:Gl X "enumerate")(hm:X.mg "enumerate"=none)(ha:PA X [a] ta)(hs:starEach [a] X.env=[(false,eval a X.env)]:=by rfl):PI X (.Tuple elts x1 kf) (.Call (.Name "enumerate" p) [a] [] pos) (Ly ta):=by
 intro pins s σ H R I h;refine Call_ (eN I hg hm boot_enumerate (PyProof.Rows.callWith_type1 (bJ (ha pos pins s σ H _ I h) fun us s1 ⟨vs,H1,I1,r1,q1⟩=>?_) hs rfl))
 obtain⟨z,e,q⟩:=q1
 subst e;obtain⟨u,rfl,t,rfl⟩:=vals1 r1
 refine call_enumerate_str fun g he hi hz kp=>wpAny_pyIter_enum he ?_
 have I2:Inv X pins σ H1 {s1 with heap:=g}:=I1.kept (t':=s1.toks) kp
 refine⟨s1.heap.objs.size+1,[s1.heap.objs.size+1,s1.heap.objs.size],_,_,H1,rfl,I2,sV z t _ s1.heap.objs.size,⟨⟨_,he⟩,hi⟩,fun b hb=>?_,q⟩
 have jg:s1.heap.objs.size≤b:=by
  rcases List.mem_cons.mp hb with z|z
  ·rw [z];exact Nat.le_succ _
  ·rw [zzi.mp z];exact zzE _
 exact I1.fpOk jg (I1.hok.fresh jg)
end
noncomputable def E2(K:PySem.W.Frag)(a:Addr)(xs:List V):It:=
 ⟨fun i H=>iU K H a xs∧i<xs.length,fun i H v H'=>∃p x,v=.ref p∧H p=none∧H'=upd H p (.tup [.int (i:Nat),x])∧xs[i]?=some x,fun i H=>iU K H a xs∧i=xs.length⟩
theorem rE{P:Program}{w:World}{K:PySem.W.Frag}{elts:List Expr}{x1:Nat}{pos:Pos}(a e it:Addr)(xs:List V):Turn P w K (.Tuple elts x1 pos) (E2 K a xs) [e,it] e (fun i h=>(∃old,IsEnum h e it i old)∧h.IsListIter it a i) where
 mem:=by simp
 obj:=fun i h st b hb=>by
  obtain⟨⟨old,he⟩,o,ho,_,hd⟩:=st
  rcases List.mem_cons.mp hb with z|z
  ·subst z;exact⟨_,he,fun v q=>by cases q⟩
  ·rw [zzi.mp z];exact⟨o,ho,fun v q=>by rw [hd] at q;cases q⟩
 keep:=fun i h h' st k=>⟨by obtain⟨old,he⟩:=st.1;exact⟨old,k e (by simp) _ he⟩,st.2.at fun o q=>k it (by simp) o q⟩
 item:=by
  intro X hP hw hK hc i pins s σ H E I hf st hg;subst hP hw hK;obtain⟨hq,bR⟩:=hg
  obtain⟨⟨old,he⟩,hit⟩:=st
  obtain⟨aA,rv,p,hz⟩:=I.list hq
  have hl:=rv.length
  have jj:=hit
  obtain⟨oi,e1,e2,_⟩:=hit
  obtain⟨oa,a1,a2,_⟩:=p.isList
  have yT:a≠it:=eQ a1 e1 (by rw [a2,e2];decide+kernel)
  have Ds:e≠it:=eQ he e1 (by rw [e2];show Value.type "enumerate"≠_;decide+kernel)
  have FQ:e≠a:=eQ he a1 (by rw [a2];show Value.type "enumerate"≠_;decide+kernel)
  refine bJ (iT (Gx:=fun x=>xs[i]?=some x) I (Draws.list (A:=X.A.in1) (I.ok.hd hc) it a yT aA.toArray) he ⟨jj,p.isList⟩ (by rw [zzC];omega) Ds (by simp [Ds,FQ]) hf (fun u hu=>?_)) fun r s1 ⟨u,hr,k⟩=>⟨u,hr,bJ k fun _ s2 ⟨x,q,z1,z2,z3,z4,z5,z6,z7,z8⟩=>?_⟩
  ·have JD:xs[i]?=some xs[i]:=zzg bR
   obtain⟨u',hu',ru'⟩:=rv.get JD
   have:aA.toArray[i]?=some u':=by simpa using hu'
   have GH:aA.toArray[i]?=some u:=hu
   rw [this] at GH;cases GH;exact⟨xs[i],ru',JD⟩
  ·exact⟨.ref q,_,z6,z1.symm▸rfl,⟨q,x,rfl,z3,rfl,z2⟩,⟨z7,z8.1⟩,fun b hb=>by
    rcases List.mem_cons.mp hb with w|w
    ·rw [w,af z4];exact(hf e (by simp)).1
    ·rw [zzi.mp w,af z5];exact(hf it (by simp)).1⟩
 done:=by
  intro X hP hw hK hc i pins s σ H E I hf st hg;subst hP hw hK;obtain⟨hq,rfl⟩:=hg
  obtain⟨⟨old,he⟩,hit⟩:=st
  obtain⟨aA,rv,p,hz⟩:=I.list hq
  have hl:=rv.length
  have jj:=hit
  obtain⟨oi,e1,e2,_⟩:=hit
  obtain⟨oa,a1,a2,_⟩:=p.isList
  have yT:a≠it:=eQ a1 e1 (by rw [a2,e2];decide+kernel)
  obtain⟨g0,g1,g2,g3,g4,g5⟩:=hf it (by simp)
  refine wpAny_pyNext_enum_endD (Draws.list (A:=X.A.in1) (I.ok.hd hc) it a yT aA.toArray) he ⟨by rw [zzC,←hl];exact jj,p.isList⟩ fun h' eb=>⟨rfl,I.turned (t':=s.toks) (fun b o hb q=>eb b o hb q) g0 g1 g3 g4 g5⟩
 self:=fun _ _ _ _ _ st h=>by obtain⟨⟨old,he⟩,_⟩:=st;exact wpAny_pyIter_enum he h
section
variable{X:Cx}{elts:List Expr}{x1:Nat}{kf:Pos}
noncomputable def Mv(K:PySem.W.Frag)(ta:TA):TI:=fun σ H R=>ta σ H fun vs H1=>∃a xs,vs=[.ref a]∧iU K H1 a xs∧R (E2 K a xs) H1
theorem qc{a:Expr}{ta:TA}{p pos:Pos}(hg:Gl X "enumerate")(hm:X.mg "enumerate"=none)(ha:PA X [a] ta)(hs:starEach [a] X.env=[(false,eval a X.env)]:=by rfl):PI X (.Tuple elts x1 kf) (.Call (.Name "enumerate" p) [a] [] pos) (Mv X.K ta):=by
 intro pins s σ H R I h;refine Call_ (eN I hg hm boot_enumerate (PyProof.Rows.callWith_type1 (bJ (ha pos pins s σ H _ I h) fun us s1 ⟨vs,H1,I1,r1,q1⟩=>?_) hs rfl))
 obtain⟨a,xs,e,hq,q⟩:=q1
 subst e;obtain⟨u,rfl,ru⟩:=vals1 r1
 cases ru;obtain⟨aA,rv,pt,hz⟩:=I1.list hq
 refine call_enumerate_list pt.isList fun g he hi _ kp=>wpAny_pyIter_enum he ?_
 have I2:Inv X pins σ H1 {s1 with heap:=g}:=I1.kept (t':=s1.toks) kp
 refine⟨s1.heap.objs.size+1,[s1.heap.objs.size+1,s1.heap.objs.size],_,_,H1,rfl,I2,rE a _ s1.heap.objs.size xs,⟨⟨_,he⟩,hi⟩,fun b hb=>?_,q⟩
 have jg:s1.heap.objs.size≤b:=by
  rcases List.mem_cons.mp hb with z|z
  ·rw [z];exact Nat.le_succ _
  ·rw [zzi.mp z];exact zzE _
 exact I1.fpOk jg (I1.hok.fresh jg)
end
end L2
namespace Ci
open PySem L2
structure Hs where
 f:Str
 h:Str
 g:Str
 idx:List Nat
 np:Nat
structure Pg where
 gs:List (Str×PV)
 bs:List Str
 cs:List Str
 fs:List Str
 rs:List Str
 hs:List Hs:=[]
 hl:Bool:=false
def dW(sc:Scope)(x:Str):Bool:=sc.names.lookup x==some .local||sc.names.lookup x==some .cell
def dB(sc:Scope)(x:Str):Bool:=dW sc x||sc.names.lookup x==some .free
def iW(sc:Scope)(x:Str):Bool:=sc.names.lookup x==some .globalImplicit
def litS:List PV→List PV→Bool
 |[],[]=>true
 |.str x::xs,.str y::ys=>x==y&&litS xs ys
 |_,_=>false
def uA:PV→PV→Bool
 |.int i,.int j=>i==j
 |.str x,.str y=>x==y
 |.tup xs,.tup ys=>litS xs ys
 |_,_=>false
theorem litS_eq:∀{xs ys:List PV},litS xs ys=true→xs=ys
 |[],[],_=>rfl
 |.str x::xs,.str y::ys,h=>by
  unfold litS at h;rw [zza] at h;rw [beq_iff_eq.mp h.1,litS_eq h.2]
theorem yR{p q:PV}(h:uA p q=true):p=q:=by
 unfold uA at h;split at h
 ·rw [beq_iff_eq.mp h]
 ·rw [beq_iff_eq.mp h]
 ·rw [litS_eq h]
 ·cases h
def bN:B→Str
 |.len=>"len"|.abs=>"abs"|.max2=>"max"|.int=>"int"|.str=>"str"|.tuple=>"tuple"|.sorted=>"sorted"|.sortedL=>"sorted"|.max1=>"max"
def mN:M→Str
 |.join=>"join"
def fI:E→Bool
 |.tmp _=>false
 |_=>true
def gr:Es→Bool
 |.nil=>true
 |.cons e es=>fI e&&gr es
def Dl:I→Bool
 |.seq e=>fI e
 |.rng _=>true
 |.rng2 _ _=>true
 |.enum e=>fI e
def isNil:Es→Bool
 |.nil=>true
 |_=>false
def fH:Es→Nat
 |.nil=>0
 |.cons _ es=>fH es+1
def Hh:Expr→Option (List Expr)
 |.Tuple es _ _=>some es
 |_=>none
theorem uq{e:Expr}{es:List Expr}(h:Hh e=some es):∃k p,e=.Tuple es k p:=by
 cases e with
 |Tuple es k p=>cases h;exact⟨_,_,rfl⟩
 |_=>exact qi h
def ME(N:List Str)(sc:Scope)(fn:Str→Bool)(i:Nat)(p:Expr):Bool:=(gY p).any fun x=>N[i]?==some x&&dW sc x&&(fn x||sc.names.lookup x==some .local)
noncomputable def BO(N:List Str)(sc:Scope)(fn:Str→Bool):List Nat→List Expr→Bool
 |i::is,a::as=>ME N sc fn i a&&BO N sc fn is as
 |[],[]=>true
 |_,_=>false
noncomputable def gv(N:List Str)(sc:Scope)(fn:Str→Bool):Tg→Expr→Bool
 |.one i,p=>ME N sc fn i p
 |.two i j,p=>(Hh p).any (BO N sc fn [i,j])
 |.three i j k,p=>(Hh p).any (BO N sc fn [i,j,k])
def aR:Expr→List Str
 |.Name x _=>[x]
 |.Tuple [.Name x _,.Name y _] _ _=>[x,y]
 |.Tuple [.Name x _,.Name y _,.Name z _] _ _=>[x,y,z]
 |_=>[]
def cZ(scope sc:Scope):Scope:=
 {scope with names:=scope.names.map fun(n,k)=>if(k==.free&&sc.kind==.function&&sc.names.lookup n==some .cell) then(n,.cell) else(n,k)}
def freeOf(scope:Scope):List Str:=((scope.names.filter fun p=>p.2==.free).map (·.1)).reverse
noncomputable def tJ(N:List Str)(sc scope:Scope)(k:Nat)(bf:List Nat)(xs:List Str):Bool:=
 scope.kind==.function&&xs.length==k&&decide ((xs++freeOf scope).Nodup)
 &&(scope.names.all fun y=>(decide (y.2≠.cell)||!(freeOf scope).contains y.1)&&(decide (y.2≠.free)||(freeOf scope).contains y.1))
 &&(scope.names.all fun y=>decide (y.2≠.cell)||decide (scope.names.lookup y.1=some .cell))
 &&(scope.names.all fun y=>decide (y.2≠.local)||decide (scope.names.lookup y.1=some .local))
 &&decide (bf.map (fun i=>N[i]?)=(freeOf scope).map some)
 &&((freeOf scope).all fun y=>decide (sc.names.lookup y=some .cell))
 &&((freeOf scope).all fun y=>decide ((cZ scope sc).names.lookup y=some .cell))
def jf(k:Nat):Tg→Bool
 |.one i=>decide (i<k)
 |.two i j=>decide (i<k)&&decide (j<k)
 |.three i j l=>decide (i<k)&&decide (j<k)&&decide (l<k)
def dX:E→Bool
 |.ite _ _ _=>false
 |.not a=>dX a
 |.and a b=>dX a&&dX b
 |.or a b=>dX a&&dX b
 |_=>true
def isTup:Expr→Bool
 |.Tuple .. =>true
 |_=>false
noncomputable abbrev Pg.nol(Γ:Pg):Pg:={Γ with hl:=false}
mutual
noncomputable def br(Γ:Pg)(N:List Str)(sc:Scope):E→Expr→Bool
 |.var i,.Name x _=>N[i]?==some x&&dB sc x&&okN x
 |.tmp i,.Name x _=>N[i]?==some x&&dB sc x&&okN x
 |.cst .non,.Constant .none _ _=>true
 |.cst (.bl b),.Constant (.bool c) _ _=>b==c
 |.cst (.int i),.Constant (.int j) _ _=>i==j
 |.cst (.str z),.Constant (.str y) _ _=>z==y
 |.glob g p,.Name x _=>g==x&&iW sc x&&okN x&&Γ.gs.any fun q=>q.1==g&&uA q.2 p
 |.call f as,.Call (.Name g _) args [] _=>f==g&&Γ.fs.contains g&&iW sc g&&okN g&&gr as&&fL Γ N sc as args
 |.callv i as,.Call (.Name x _) args [] _=>N[i]?==some x&&dB sc x&&okN x&&gr as&&!isNil as&&fL Γ N sc as args
 |.callL f as g idx bf,.Call (.Name h _) args [] _=>Γ.hl&&iW sc h&&okN h&&gr as&&!isNil as&&(Γ.hs.any fun q=>q.f==f&&q.h==h&&q.g==g&&q.idx==idx&&decide (q.np=fH as+1))&&ug Γ N sc g idx bf as args
 |.blt b as,.Call (.Name g _) args [] _=>bN b==g&&iW sc g&&Γ.bs.contains g&&!isNil as&&fL Γ N sc as args
 |.ty t a,.Call (.Name g _) [pa,.Name tn _] [] _=>g=="isinstance"&&iW sc g&&Γ.bs.contains g&&tn==Str.ofString (so t)&&iW sc tn&&Γ.bs.contains tn&&br Γ N sc a pa
 |.mth m o as,.Call (.Attribute po attr apos) args [] bA=>mN m==attr&&!isNil as&&decide (fH as<30)&&apos.endLine==bA.line&&br Γ N sc o po&&fL Γ N sc as args&&(match po with|.Call .. =>false|_=>true)
 |.bin o a b,.BinOp pa op pb _=>decide (MX o=op)&&br Γ N sc a pa&&br Γ N sc b pb
 |.cmp o a b,.Compare pa [op] [pb] _=>decide (pP o=op)&&br Γ N sc a pa&&br Γ N sc b pb
 |.ch o1 o2 a b c,.Compare pa [op1,op2] [pb,pc] _=>decide (pP o1=op1)&&decide (pP o2=op2)&&br Γ N sc a pa&&br Γ N sc b pb&&br Γ N sc c pc
 |.not a,.UnaryOp .Not pa _=>br Γ N sc a pa
 |.neg a,.UnaryOp .USub pa _=>br Γ N sc a pa
 |.and a b,.BoolOp .And [pa,pb] _=>fI b&&br Γ N sc a pa&&br Γ N sc b pb
 |.and a b,.BoolOp .And (pa::pb::pc::r) pos=>fI b&&br Γ N sc a pa&&br Γ N sc b (.BoolOp .And (pb::pc::r) pos)
 |.or a b,.BoolOp .Or [pa,pb] _=>fI b&&br Γ N sc a pa&&br Γ N sc b pb
 |.or a b,.BoolOp .Or (pa::pb::pc::r) pos=>fI b&&br Γ N sc a pa&&br Γ N sc b (.BoolOp .Or (pb::pc::r) pos)
 |.ite c a b,.IfExp pc pa pb _=>dX c&&fI a&&fI b&&br Γ N sc c pc&&br Γ N sc a pa&&br Γ N sc b pb
 |.tup as,.Tuple ps _ _=>gr as&&decide (fH as<1000)&&fL Γ N sc as ps
 |.lst as,.List ps _=>gr as&&decide (fH as<1000)&&fL Γ N sc as ps
 |.sub a b,.Subscript pa pb _=>br Γ N sc a pa&&br Γ N sc b pb
 |.comp k bf tg it elt,.ListComp dA [⟨cm,eK,[],asy⟩] scope _=>tJ N sc scope k bf (aR cm)&&jf k tg&&fI elt&&v9 Γ N sc cm it eK&&gv (aR cm++freeOf scope) (cZ scope sc) (jY scope) tg cm&&br Γ.nol (aR cm++freeOf scope) (cZ scope sc) elt dA&&decide (asy=0)
 |.compIf k bf tg it c elt,.ListComp dA [⟨cm,eK,[pc],asy⟩] scope _=>dX c&&tJ N sc scope k bf (aR cm)&&jf k tg&&fI elt&&v9 Γ N sc cm it eK&&gv (aR cm++freeOf scope) (cZ scope sc) (jY scope) tg cm&&br Γ.nol (aR cm++freeOf scope) (cZ scope sc) c pc&&br Γ.nol (aR cm++freeOf scope) (cZ scope sc) elt dA&&decide (asy=0)
 |.rev a,.Subscript pa (.Slice none none (some (.UnaryOp .USub (.Constant (.int i) _ _) _)) _) _=>i==1&&br Γ N sc a pa
 |_,_=>false
noncomputable def fL(Γ:Pg)(N:List Str)(sc:Scope):Es→List Expr→Bool
 |.nil,[]=>true
 |.cons e es,p::ps=>br Γ N sc e p&&fL Γ N sc es ps
 |_,_=>false
noncomputable def ug(Γ:Pg)(N:List Str)(sc:Scope)(g:Str)(idx bf:List Nat):Es→List Expr→Bool
 |.nil,[.Lambda params body scope _]=>Bm g idx params body scope&&decide (bf.map (fun i=>N[i]?)=(bt scope).map some)&&((bt scope).all fun y=>decide (sc.names.lookup y=some .cell))
 |.cons e es,p::ps=>br Γ N sc e p&&ug Γ N sc g idx bf es ps
 |_,_=>false
noncomputable def v9(Γ:Pg)(N:List Str)(sc:Scope)(tg:Expr):I→Expr→Bool
 |.seq e,p=>br Γ N sc e p
 |.rng e,.Call (.Name g _) [p] [] _=>g=="range"&&iW sc g&&Γ.bs.contains g&&br Γ N sc e p
 |.rng2 a b,.Call (.Name g _) [p,q] [] _=>g=="range"&&iW sc g&&Γ.bs.contains g&&br Γ N sc a p&&br Γ N sc b q
 |.enum e,.Call (.Name g _) [p] [] _=>isTup tg&&g=="enumerate"&&iW sc g&&Γ.bs.contains g&&br Γ N sc e p
 |_,_=>false
end
theorem aJ{a b:Bool}(h:(a&&b)=true):a=true∧b=true:=Bool.and_eq_true_iff.mp h
theorem aY{α:Type}{o:Option α}{f:α→Bool}(h:o.any f=true):∃x,o=some x∧f x=true:=by
 cases o with
 |none=>cases h
 |some x=>exact⟨x,rfl,h⟩
def XE(W:Wd)(c:Str)(G1 H1:Hp):XK:=fun Cv ao H'=>∃C a G',Cv=.ref C∧ao=some a∧c∈W.xs∧W.mg c=some (.ref C)∧aK W G1 H1 G' H'
def rW(X:Cx)(W:Wd)(σ:St)(c:Str)(G H:Hp):Prop:=∀(pins:List (Addr×Obj)) (G1 H1:Hp) (s1:Shared) (e:Value) (s':Shared),Inv X pins σ H1 s1→aK W G H G1 H1→dF X.prog X.w X.stack H1 s1 (XE W c G1 H1) e s'→X.xe e s'
def Out{α:Type}(X:Cx)(W:Wd)(r:Res α)(σ:St)(G H:Hp)(k:α→Prop):Prop:=match r with
 |.ok a=>k a
 |.exc c=>rW X W σ c G H
 |.bad=>False
section
variable{X:Cx}{W:Wd}{F:ba}{σ:St}{G H G1 H1:Hp}{α β:Type}
theorem rW.grow{c:Str}(h:rW X W σ c G H)(g:aK W G H G1 H1):rW X W σ c G1 H1:=fun pins G2 H2 s1 e s' I g2 x=>h pins G2 H2 s1 e s' I (g.trans g2) x
theorem Out.grow{r:Res α}{k:α→Prop}(h:Out X W r σ G H k)(g:aK W G H G1 H1):Out X W r σ G1 H1 k:=by
 cases r with
 |ok a=>exact h
 |exc c=>exact rW.grow h g
 |bad=>exact h
theorem Out.imp{r:Res α}{k k':α→Prop}(h:Out X W r σ G H k)(i:∀a,k a→k' a):Out X W r σ G H k':=by
 cases r with
 |ok a=>exact i a h
 |exc c=>exact h
 |bad=>exact h
theorem Out.bind{r:Res α}{f:α→Res β}{k:β→Prop}(h:Out X W (r.bind f) σ G H k):Out X W r σ G H fun a=>Out X W (f a) σ G H k:=by
 cases r with
 |ok a=>exact h
 |exc c=>exact h
 |bad=>exact h
theorem Out.val{r:Res α}{k:α→Prop}(h:Out X W r σ G H k)(n:∀c,r≠.exc c):∃a,r=.ok a∧k a:=by
 cases r with
 |ok a=>exact⟨a,rfl,h⟩
 |exc c=>exact absurd rfl (n c)
 |bad=>exact h.elim
structure Got(W:Wd)(H0 G H:Hp)(e:E)(p:PV)(v:V):Prop where
 top:Top W H0 G H p v
 rep:fI e=true→Rep W G p v
theorem Got.of{H0:Hp}{e:E}{p:PV}{v:V}(h:Rep W G p v):Got W H0 G H e p v:=⟨.inl h,fun _=>h⟩
noncomputable def tE(X:Cx)(W:Wd)(F:ba)(e:E):TE:=fun σ H Q=>∃H0 G env,SR W H0 env σ G H∧Out X W (ax F e env) σ G H fun p=>∀v G' H',aK W G H G' H'→Got W H0 G' H' e p v→Q v H'
noncomputable def tT(X:Cx)(W:Wd)(F:ba)(e:E):TT:=fun σ H Q=>∃H0 G env,SR W H0 env σ G H∧Out X W (ax F e env) σ G H fun p=>∃b,p=.bl b∧∀G' H',aK W G H G' H'→Q b H'
structure Kg(W:Wd)(H0 G H:Hp)(es:Es)(ps:List PV)(vs:List V):Prop where
 top:Paired (fun v p=>Top W H0 G H p v) vs ps
 rep:gr es=true→ak W G ps vs
noncomputable def tA(X:Cx)(W:Wd)(F:ba)(es:Es):TA:=fun σ H Q=>∃H0 G env,SR W H0 env σ G H∧Out X W (av F es env) σ G H fun ps=>∀vs G' H',aK W G H G' H'→Kg W H0 G' H' es ps vs→Q vs H'
theorem one{H0:Hp}{env:Sl}{e:E}{f:PV→Res β}{k:β→Prop}{Q:VK}(sr:SR W H0 env σ G H)(o:Out X W ((ax F e env).bind f) σ G H k)
 (h:∀p v G1 H1,aK W G H G1 H1→Got W H0 G1 H1 e p v→SR W H0 env σ G1 H1→Out X W (f p) σ G1 H1 k→Q v H1):tE X W F e σ H Q:=
 ⟨H0,G,env,sr,o.bind.imp fun p hp v G1 H1 g t=>h p v G1 H1 g t (sr.grow g) (hp.grow g)⟩
theorem CO{H0:Hp}{env:Sl}{e:E}{f:Bool→Res β}{k:β→Prop}{Q:Bool→Hp→Prop}(sr:SR W H0 env σ G H)(o:Out X W ((ax F e env).bind fun p=>rY p f) σ G H k)
 (h:∀b G1 H1,aK W G H G1 H1→SR W H0 env σ G1 H1→Out X W (f b) σ G1 H1 k→Q b H1):tT X W F e σ H Q:=by
 refine⟨H0,G,env,sr,o.bind.imp fun p hp=>?_⟩
 cases p with
 |bl b=>exact⟨b,rfl,fun G1 H1 g=>h b G1 H1 g (sr.grow g) (Out.grow hp g)⟩
 |non=>exact False.elim hp
 |int _=>exact False.elim hp
 |str _=>exact False.elim hp
 |tup _=>exact False.elim hp
 |lst _=>exact False.elim hp
 |exc _=>exact False.elim hp
 |dct _ _=>exact False.elim hp
theorem args{H0:Hp}{env:Sl}{es:Es}{f:List PV→Res β}{k:β→Prop}{Q:List V→Hp→Prop}(sr:SR W H0 env σ G H)(o:Out X W ((av F es env).bind f) σ G H k)
 (h:∀ps vs G1 H1,aK W G H G1 H1→Kg W H0 G1 H1 es ps vs→SR W H0 env σ G1 H1→Out X W (f ps) σ G1 H1 k→Q vs H1):tA X W F es σ H Q:=
 ⟨H0,G,env,sr,o.bind.imp fun p hp v G1 H1 g t=>h p v G1 H1 g t (sr.grow g) (hp.grow g)⟩
theorem Got.grow{H0 G2 H2:Hp}{e:E}{p:PV}{v:V}(h:Got W H0 G H e p v)(g:aK W G H G2 H2):Got W H0 G2 H2 e p v:=⟨h.top.grow g,fun z=>Rep.same g.g p (h.rep z)⟩
def zF(W:Wd)(G:Hp):Option (Str×List Nat)→List PV→List V→Prop
 |none,as,vs=>ak W G as vs
 |some q,as,vs=>∃vR cK vd v,as=vR++cK∧vs=vd++[v]∧ak W G vR vd∧oG W G q.1 q.2 cK v
noncomputable def xh(W:Wd)(F:ba)(f:Str)(n:Nat)(q:Option (Str×List Nat)):Sp:=fun vs H Q E=>vs.length=n∧∃G as,aG G H∧cy W G H∧zF W G q as vs∧(match F f as with
 |.ok p=>∀v G' H',aK W G H G' H'→Rep W G' p v→Q v H'
 |.exc c=>∀Cv ao H',XE W c G H Cv ao H'→E Cv ao H'
 |.bad=>False)
structure Eu(X:Cx)(W:Wd)(F:ba)(k:Nat)(f:Str):Prop where
 ex:∃fa fd ps,fx X.prog X.w X.K X.mg X.base (dF X.prog X.w) k fa fd ps (xh W F f ps.length none)∧X.mg f=some (.ref fa)∧PySem.W.keepIn X.K (.ref fa)=true∧Binds X.K fd ps []∧∀as,F f as≠.bad→as.length=ps.length
structure Jk(X:Cx)(W:Wd)(F:ba)(k:Nat)(q:Hs):Prop where
 ex:∃fa fd ps,fx X.prog X.w X.K X.mg X.base (dF X.prog X.w) k fa fd ps (xh W F q.f ps.length (some (q.g,q.idx)))∧X.mg q.h=some (.ref fa)∧PySem.W.keepIn X.K (.ref fa)=true∧Binds X.K fd ps []∧ps.length=q.np
structure dH(Γ:Pg)(F:ba)(W:Wd)(N:List Str)(sc:Scope)(k:Nat)(X:Cx):Prop where
 hN:X.N=N
 hsc:X.env.scope=sc
 calm:X.calm=true
 nd:N.Nodup
 K:W.K=X.K
 mg:W.mg=X.mg
 gs:∀q∈Γ.gs,∃u v,X.mg q.1=some u∧RelV v u∧∀G,Rep W G q.2 v
 bs:∀g∈Γ.bs,X.mg g=none
 room:dw (k+1) X.A
 fns:∀f,Γ.fs.contains f=true→Eu X W F k f
 nov:Γ.cs.contains "ValueError"=false
 cls:∀c∈Γ.cs,∃C,X.mg c=some (.ref C)
 xc:∀d∈W.xs,∀D,X.mg d=some (.ref D)→GC X.K D∧(∀c∈Γ.cs,∀C,X.mg c=some (.ref C)→PySem.W.kitOne X.K (.ref D) (.ref C)=some (c==d||c=="FloorError"))∧PySem.W.kitOne X.K (.ref D) (.type "ValueError")=some true
 hfs:∀q∈Γ.hs,Jk X W F k q
 any:∀g as,F g as≠.bad→Γ.fs.contains g=true∨gO g=true
 tb:Γ.hl=true→∃c P,X.env.code=.ref c∧PySem.W.CodeHd X.base c P∧(P,X.env.qual++"<lambda>")∈W.ts∧∀q',(P,q')∈W.ts→q'=X.env.qual++"<lambda>"
 bm:Γ.hl=true→yW X.mg X.base
 fl:Γ.hl=true→∀x,X.fn x=true
end
section
variable{Γ:Pg}{X:Cx}{W:Wd}{F:ba}{N:List Str}{sc:Scope}{k:Nat}
theorem lx(C:dH Γ F W N sc k X){x:Str}(h:dB sc x=true):IE X.env.scope x:=by
 rw [C.hsc];unfold dB dW at h;simp only [Bool.or_eq_true,beq_iff_eq] at h;rcases h with(h|h)|h
 ·exact .inl h
 ·exact .inr (.inl h)
 ·exact .inr (.inr h)
theorem fD(C:dH Γ F W N sc k X){x:Str}(h:iW sc x=true):Gl X x:=by
 show X.env.scope.names.lookup x=_
 rw [C.hsc];exact beq_iff_eq.mp h
theorem cY{x:Str}(h:okN x=true):(x==("__debug__":Str))=false∧(x==("__classdict__":Str))=false∧x≠"__name__":=by
 unfold okN at h;simp only [zza,Bool.not_eq_true',beq_eq_false_iff_ne] at h;exact⟨beq_eq_false_iff_ne.mpr h.1.1,beq_eq_false_iff_ne.mpr h.1.2,h.2⟩
abbrev GE(X:Cx)(W:Wd)(F:ba)(e:E)(p:Expr):Prop:=PE X p (tE X W F e)
abbrev GT(X:Cx)(W:Wd)(F:ba)(e:E)(p:Expr):Prop:=PT X p (tT X W F e)
abbrev GW(X:Cx)(W:Wd)(F:ba)(e:E)(p:Expr):Prop:=PW X p (tT X W F e)
theorem _root_.L2.PE.imp{p:Expr}{t t':TE}(h:PE X p t)(i:∀σ H Q,t' σ H Q→t σ H Q):PE X p t':=fun pins s σ H Q I hw=>h pins s σ H Q I (i σ H Q hw)
theorem _root_.L2.PT.imp{p:Expr}{t t':TT}(h:PT X p t)(i:∀σ H Q,t' σ H Q→t σ H Q):PT X p t':=fun pins s σ H Q I hw=>h pins s σ H Q I (i σ H Q hw)
theorem _root_.L2.PW.imp{p:Expr}{t t':TT}(h:PW X p t)(i:∀σ H Q,t' σ H Q→t σ H Q):PW X p t':=fun w pins s σ H Q I hw=>h w pins s σ H Q I (i σ H Q hw)
theorem _root_.L2.PA.imp{p:List Expr}{t t':TA}(h:PA X p t)(i:∀σ H Q,t' σ H Q→t σ H Q):PA X p t':=fun pos pins s σ H Q I hw=>h pos pins s σ H Q I (i σ H Q hw)
theorem DV{e:E}(σ:St)(H:Hp)(Q:Bool→Hp→Prop)(h:tT X W F e σ H Q):tB (tE X W F e) σ H Q:=by
 obtain⟨H0,G,env,sr,o⟩:=h
 refine⟨H0,G,env,sr,o.imp fun p hp v G' H' g t=>?_⟩
 obtain⟨b,rfl,q⟩:=hp
 exact⟨b,t.top.bl,q G' H' g⟩
theorem qY{e:E}(σ:St)(H:Hp)(Q:Bool→Hp→Prop)(h:tT X W F e σ H Q):xN (tE X W F e) σ H Q:=DV σ H Q h
theorem E9(C:dH Γ F W N sc k X){i:Nat}{x:Str}{pos:Pos}(h:(N[i]?==some x&&dB sc x&&okN x)=true):GE X W F (.var i) (.Name x pos):=by
 simp only [zza,beq_iff_eq] at h;obtain⟨h1,h2,h3⟩:=cY h.2
 refine(d9 (i:=i) (by rw [C.hN];exact h.1.1) (lx C h.1.2) h1 h2).imp fun σ H Q hq=>?_
 obtain⟨H0,G,env,sr,o⟩:=hq
 cases e:env[i]? with
 |none=>unfold ax at o;rw [e] at o;exact o.elim
 |some sl=>
  cases sl with
  |no=>unfold ax at o;rw [e] at o;exact o.elim
  |fn _ _ _=>unfold ax at o;rw [e] at o;exact o.elim
  |own p=>unfold ax at o;rw [e] at o;exact o.elim
  |val p=>
   unfold ax at o;rw [e] at o;obtain⟨o2,hs,v,rfl,r⟩:=sr.slot i _ e
   exact⟨v,hs,o v G H (.refl sr.sub) (.of r)⟩
theorem Hi(C:dH Γ F W N sc k X){i:Nat}{x:Str}{pos:Pos}(h:(N[i]?==some x&&dB sc x&&okN x)=true):GE X W F (.tmp i) (.Name x pos):=by
 simp only [zza,beq_iff_eq] at h;obtain⟨h1,h2,h3⟩:=cY h.2
 refine(d9 (i:=i) (by rw [C.hN];exact h.1.1) (lx C h.1.2) h1 h2).imp fun σ H Q hq=>?_
 obtain⟨H0,G,env,sr,o⟩:=hq
 cases e:env[i]? with
 |none=>unfold ax at o;rw [e] at o;exact o.elim
 |some sl=>
  cases sl with
  |no=>unfold ax at o;rw [e] at o;exact o.elim
  |fn _ _ _=>unfold ax at o;rw [e] at o;exact o.elim
  |own p=>
   unfold ax at o;rw [e] at o;obtain⟨o2,hs,v,rfl,r⟩:=sr.slot i _ e
   exact⟨v,hs,o v G H (.refl sr.sub) ⟨.inr r,fun z=>nomatch z⟩⟩
  |val p=>
   unfold ax at o;rw [e] at o;obtain⟨o2,hs,v,rfl,r⟩:=sr.slot i _ e
   exact⟨v,hs,o v G H (.refl sr.sub) (.of r)⟩
theorem fG{p:PV}{v:V}{e:Expr}(h:PE X e (tC v))(r:∀G,Rep W G p v):GE X W F (.cst p) e:=by
 refine L2.PE.imp h fun σ H Q hq=>?_
 obtain⟨H0,G,env,sr,o⟩:=hq
 exact o v G H (.refl sr.sub) (.of (r G))
theorem Bt(C:dH Γ F W N sc k X){g x:Str}{p:PV}{pos:Pos}(h:(g==x&&iW sc x&&okN x&&Γ.gs.any fun q=>q.1==g&&uA q.2 p)=true):GE X W F (.glob g p) (.Name x pos):=by
 simp only [zza,beq_iff_eq,zzj] at h;obtain⟨⟨⟨rfl,h2⟩,h3⟩,q,hq,e1,e2⟩:=h
 obtain⟨u,v,hm,rv,hr⟩:=C.gs q hq
 rw [e1] at hm;cases yR e2;refine(B1 (fD C h2) hm rv (cY h3).1).imp fun σ H Q hq=>?_
 obtain⟨H0,G,env,sr,o⟩:=hq
 exact o v G H (.refl sr.sub) (.of (hr G))
theorem Res.of_noexc{α:Type}{o:Option α}(c:Str):Res.of o≠.exc c:=by cases o<;>exact fun z=>nomatch z
theorem oo{α β:Type}{o:Option α}{f:α→Res β}{c:Str}(h:∀a,f a≠.exc c):(Res.of o).bind f≠.exc c:=by
 cases o with
 |none=>exact fun z=>nomatch z
 |some a=>exact h a
theorem lZ{o:Hx}{p q:PV}(c:Str):binOp o p q≠.exc c:=by
 unfold binOp
 repeat' split
 all_goals exact fun z=>nomatch z
theorem CP{p q:PV}(c:Str):gq p q≠.exc c:=by
 unfold gq
 (repeat' first|split|refine oo fun _=>?_|exact Res.of_noexc c|exact(fun z=>nomatch z))
theorem CD{p q:PV}(c:Str):gP p q≠.exc c:=by
 unfold gP
 (repeat' first|split|refine oo fun _=>?_|exact Res.of_noexc c|exact(fun z=>nomatch z))
theorem CM{p q:PV}(c:Str):qo p q≠.exc c:=by
 unfold qo
 (repeat' first|split|refine oo fun _=>?_|exact Res.of_noexc c|exact(fun z=>nomatch z))
theorem Bi{p q:PV}(c:Str):ql p q≠.exc c:=by
 unfold ql
 (repeat' first|split|refine oo fun _=>?_|exact Res.of_noexc c|exact(fun z=>nomatch z))
theorem Bc{p q:PV}(c:Str):sj p q≠.exc c:=by
 unfold sj
 (repeat' first|split|refine oo fun _=>?_|exact Res.of_noexc c|exact(fun z=>nomatch z))
theorem Al{p q:PV}(c:Str):i6 p q≠.exc c:=by
 unfold i6
 (repeat' first|split|refine oo fun _=>?_|exact Res.of_noexc c|exact(fun z=>nomatch z))
theorem Dk{p q:PV}(c:Str):pz p q≠.exc c:=by
 unfold pz
 (repeat' first|split|refine oo fun _=>?_|exact Res.of_noexc c|exact(fun z=>nomatch z))
theorem xx{p q:PV}(c:Str):gX p q≠.exc c:=by
 unfold gX
 (repeat' first|split|refine oo fun _=>?_|exact Res.of_noexc c|exact(fun z=>nomatch z))
theorem dk{o:yd}{p q:PV}(c:Str):du o p q≠.exc c:=match o with
 |.eq=>CP c|.ne=>CD c|.lt=>CM c|.le=>Bi c|.gt=>Bc c|.isn=>Al c|.in_=>Dk c|.nin=>xx c
theorem two{op:PV→PV→Res PV}{ea eb:E}{e:E}{σ:St}{H:Hp}{Q:VK}(hn:∀p q c,op p q≠.exc c)(he:∀env,ax F e env=(ax F ea env).bind fun x=>(ax F eb env).bind fun y=>op x y)
 (h:tE X W F e σ H Q):Hu (uG W op) (tE X W F ea) (tE X W F eb) σ H Q:=by
 obtain⟨H0,G,env,sr,o⟩:=h
 rw [he] at o;refine one sr o fun p v G1 H1 g1 t1 bV o1=>one bV o1 fun q u G2 H2 g2 t2 eT o2=>?_
 obtain⟨r,hr,kr⟩:=o2.val (hn p q)
 exact⟨H0,G2,p,q,r,eT.sub,t1.top.grow g2,t2.top,hr,fun w G' H' g' gU=>kr w G' H' ((g1.trans g2).trans g') (.of gU)⟩
theorem GJ(C:dH Γ F W N sc k X){o:Hx}{a b:E}{pa pb:Expr}{pos:Pos}(ha:GE X W F a pa)(hb:GE X W F b pb):GE X W F (.bin o a b) (.BinOp pa (MX o) pb pos):=
 (JW (FI C.K o) ha hb).imp fun σ H Q h=>two (fun p q c=>lZ c) (fun env=>by rw [ax]) h
theorem Gk(C:dH Γ F W N sc k X){o:yd}{a b:E}{pa pb:Expr}{pos:Pos}(ha:GE X W F a pa)(hb:GE X W F b pb)(hm:behindInMarks (pP o) pb=false):GE X W F (.cmp o a b) (.Compare pa [pP o] [pb] pos):=
 (Dp (fU C.K C.room.units o) ha hb hm).imp fun σ H Q h=>two (fun p q c=>dk c) (fun env=>by rw [ax]) h
theorem FZ(C:dH Γ F W N sc k X){o:yd}{a b:E}{pa pb:Expr}{pos:Pos}(ha:GE X W F a pa)(hb:GE X W F b pb)(hm:behindInMarks (pP o) pb=false):GT X W F (.cmp o a b) (.Compare pa [pP o] [pb] pos):=
 (BR (fU C.K C.room.units o) ha hb hm).imp fun σ H Q h=>by
  have h2:=qY σ H Q h
  exact two (fun p q c=>dk c) (fun env=>by rw [ax]) h2
theorem D0{c1 c2:yd}{a b c:E}(σ:St)(H:Hp)(Q:VK)(h:tE X W F (.ch c1 c2 a b c) σ H Q):rF (uG W (du c1)) (uG W (du c2)) (tE X W F a) (tE X W F b) (tE X W F c) σ H Q:=by
 obtain⟨H0,G,env,sr,o⟩:=h
 rw [ax] at o;refine one sr o fun p v G1 H1 g1 t1 bV o1=>one bV o1 fun q u G2 H2 g2 t2 eT o2=>?_
 obtain⟨r,hr,kr⟩:=o2.bind.val (dk)
 refine⟨H0,G2,p,q,r,eT.sub,t1.top.grow g2,t2.top,hr,fun w G3 H3 g3 gU=>?_⟩
 cases r with
 |bl t=>
  simp only [Rep] at gU;subst gU;refine⟨t,rfl,?_⟩;cases t with
  |false=>
   rw [if_neg zzf];have fg:Out X W (Res.ok (PV.bl false)) σ G2 H2 _:=kr
   exact fg _ G3 H3 ((g1.trans g2).trans g3) (.of .b)
  |true=>
   rw [if_pos rfl];have fg:Out X W ((ax F c env).bind fun z=>du c2 q z) σ G2 H2 _:=kr
   refine one (eT.grow g3) (fg.grow g3) fun z y G4 H4 g4 t4 Fo o4=>?_
   obtain⟨r4,hr4,kr4⟩:=o4.val (dk)
   exact⟨H0,G4,q,z,r4,Fo.sub,t2.top.grow (g3.trans g4),t4.top,hr4,fun w G5 H5 g5 Oz=>kr4 w G5 H5 ((((g1.trans g2).trans g3).trans g4).trans g5) (.of Oz)⟩
 |non=>exact False.elim kr
 |int _=>exact False.elim kr
 |str _=>exact False.elim kr
 |tup _=>exact False.elim kr
 |lst _=>exact False.elim kr
 |exc _=>exact False.elim kr
 |dct _ _=>exact False.elim kr
theorem Jo(C:dH Γ F W N sc k X){o1 o2:yd}{a b c:E}{pa pb pc:Expr}{pos:Pos}(ha:GE X W F a pa)(hb:GE X W F b pb)(hc:GE X W F c pc)(hm:lastMarks [pP o1,pP o2] [pb,pc]=false):GE X W F (.ch o1 o2 a b c) (.Compare pa [pP o1,pP o2] [pb,pc] pos):=
 (xB (fU C.K C.room.units o1) (fU C.K C.room.units o2) ha hb hc hm).imp D0
theorem J4(C:dH Γ F W N sc k X){o1 o2:yd}{a b c:E}{pa pb pc:Expr}{pos:Pos}(ha:GE X W F a pa)(hb:GE X W F b pb)(hc:GE X W F c pc)(hm:lastMarks [pP o1,pP o2] [pb,pc]=false):GT X W F (.ch o1 o2 a b c) (.Compare pa [pP o1,pP o2] [pb,pc] pos):=
 (yZ (fU C.K C.room.units o1) (fU C.K C.room.units o2) ha hb hc hm).imp fun σ H Q h=>D0 σ H _ (qY σ H Q h)
theorem yB{a:E}{pa:Expr}{pos:Pos}(ha:GE X W F a pa):GE X W F (.neg a) (.UnaryOp .USub pa pos):=
 (JN (A3 (W:=W)) ha).imp fun σ H Q h=>by
  obtain⟨H0,G,env,sr,o⟩:=h
  rw [ax] at o;refine one sr o fun p v G1 H1 g1 t1 bV o1=>?_
  cases p with
  |int i=>exact⟨H0,G1,i,bV.sub,t1.top,fun w G' H' g' gU=>o1 w G' H' (g1.trans g') (.of gU)⟩
  |bl _=>exact False.elim o1
  |non=>exact False.elim o1
  |str _=>exact False.elim o1
  |tup _=>exact False.elim o1
  |lst _=>exact False.elim o1
  |exc _=>exact False.elim o1
  |dct _ _=>exact False.elim o1
theorem Hn{a:E}{pa:Expr}{pos:Pos}(ha:GE X W F a pa):GE X W F (.not a) (.UnaryOp .Not pa pos):=
 (EH ha).imp fun σ H Q h=>by
  obtain⟨H0,G,env,sr,o⟩:=h
  rw [ax] at o;refine one sr o fun p v G1 H1 g1 t1 bV o1=>?_
  cases p with
  |bl b=>exact⟨b,t1.top.bl,o1 _ G1 H1 g1 (.of .b)⟩
  |int _=>exact False.elim o1
  |non=>exact False.elim o1
  |str _=>exact False.elim o1
  |tup _=>exact False.elim o1
  |lst _=>exact False.elim o1
  |exc _=>exact False.elim o1
  |dct _ _=>exact False.elim o1
theorem GV{a:E}{pa:Expr}{pos:Pos}(ha:GT X W F a pa):GT X W F (.not a) (.UnaryOp .Not pa pos):=
 (Ef ha).imp fun σ H Q h=>by
  obtain⟨H0,G,env,sr,o⟩:=h
  rw [ax] at o;refine CO sr o fun b G1 H1 g1 bV o1=>?_
  obtain⟨b',e,q⟩:=o1
  cases e;exact q G1 H1 g1
theorem Ae{a b:E}{pa pb:Expr}{r:List Expr}{pos:Pos}(he:fI b=true)(ha:GE X W F a pa)(hb:GE X W F b (.BoolOp .And (pb::r) pos)):GE X W F (.and a b) (.BoolOp .And (pa::pb::r) pos):=
 (FH ha hb).imp fun σ H Q h=>by
  obtain⟨H0,G,env,sr,o⟩:=h
  rw [ax] at o;refine one sr o fun p v G1 H1 g1 t1 bV o1=>?_
  cases p with
  |bl t=>
   refine⟨t,t1.top.bl,?_⟩;cases t with
   |true=>
    rw [if_pos rfl];have qt:Out X W (ax F b env) σ G1 H1 _:=o1
    exact⟨H0,G1,env,bV,qt.imp fun p hp v G' H' g' t'=>hp v G' H' (g1.trans g') (.of (t'.rep he))⟩
   |false=>
    rw [if_neg zzf];have qt:Out X W (Res.ok (PV.bl false)) σ G1 H1 _:=o1
    exact qt _ G1 H1 g1 (.of .b)
  |int _=>exact False.elim o1
  |non=>exact False.elim o1
  |str _=>exact False.elim o1
  |tup _=>exact False.elim o1
  |lst _=>exact False.elim o1
  |exc _=>exact False.elim o1
  |dct _ _=>exact False.elim o1
theorem Dx{a b:E}{pa pb:Expr}{r:List Expr}{pos:Pos}(he:fI b=true)(ha:GE X W F a pa)(hb:GE X W F b (.BoolOp .Or (pb::r) pos)):GE X W F (.or a b) (.BoolOp .Or (pa::pb::r) pos):=
 (JI ha hb).imp fun σ H Q h=>by
  obtain⟨H0,G,env,sr,o⟩:=h
  rw [ax] at o;refine one sr o fun p v G1 H1 g1 t1 bV o1=>?_
  cases p with
  |bl t=>
   refine⟨t,t1.top.bl,?_⟩;cases t with
   |false=>
    rw [if_neg zzf];have qt:Out X W (ax F b env) σ G1 H1 _:=o1
    exact⟨H0,G1,env,bV,qt.imp fun p hp v G' H' g' t'=>hp v G' H' (g1.trans g') (.of (t'.rep he))⟩
   |true=>
    rw [if_pos rfl];have qt:Out X W (Res.ok (PV.bl true)) σ G1 H1 _:=o1
    exact qt _ G1 H1 g1 (.of .b)
  |int _=>exact False.elim o1
  |non=>exact False.elim o1
  |str _=>exact False.elim o1
  |tup _=>exact False.elim o1
  |lst _=>exact False.elim o1
  |exc _=>exact False.elim o1
  |dct _ _=>exact False.elim o1
theorem x8{a b:E}{pa pb:Expr}{r:List Expr}{pos:Pos}(ha:GT X W F a pa)(hb:GW X W F b (.BoolOp .And (pb::r) pos)):GW X W F (.and a b) (.BoolOp .And (pa::pb::r) pos):=
 (pw_and ha hb).imp fun σ H Q h=>by
  obtain⟨H0,G,env,sr,o⟩:=h
  rw [ax] at o;refine CO sr o fun t G1 H1 g1 bV o1=>?_
  cases t with
  |true=>
   rw [if_pos rfl];have qt:Out X W (ax F b env) σ G1 H1 _:=o1
   exact⟨H0,G1,env,bV,qt.imp fun p hp=>by obtain⟨c,rfl,q⟩:=hp;exact⟨c,rfl,fun G' H' g'=>q G' H' (g1.trans g')⟩⟩
  |false=>
   rw [if_neg zzf];obtain⟨c,e,q⟩:=(show Out X W (Res.ok (PV.bl false)) σ G1 H1 _ from o1)
   cases e;exact q G1 H1 g1
theorem Dw{a b:E}{pa pb:Expr}{r:List Expr}{pos:Pos}(ha:GT X W F a pa)(hb:GW X W F b (.BoolOp .Or (pb::r) pos)):GW X W F (.or a b) (.BoolOp .Or (pa::pb::r) pos):=
 (pw_or ha hb).imp fun σ H Q h=>by
  obtain⟨H0,G,env,sr,o⟩:=h
  rw [ax] at o;refine CO sr o fun t G1 H1 g1 bV o1=>?_
  cases t with
  |false=>
   rw [if_neg zzf];have qt:Out X W (ax F b env) σ G1 H1 _:=o1
   exact⟨H0,G1,env,bV,qt.imp fun p hp=>by obtain⟨c,rfl,q⟩:=hp;exact⟨c,rfl,fun G' H' g'=>q G' H' (g1.trans g')⟩⟩
  |true=>
   rw [if_pos rfl];obtain⟨c,e,q⟩:=(show Out X W (Res.ok (PV.bl true)) σ G1 H1 _ from o1)
   cases e;exact q G1 H1 g1
theorem El{c a b:E}{pc pa pb:Expr}{pos:Pos}(Qf:fI a=true)(O3:fI b=true)(hc:GT X W F c pc)(ha:GE X W F a pa)(hb:GE X W F b pb):GE X W F (.ite c a b) (.IfExp pc pa pb pos):=
 (yo hc ha hb).imp fun σ H Q h=>by
  obtain⟨H0,G,env,sr,o⟩:=h
  rw [ax] at o;refine CO sr o fun t G1 H1 g1 bV o1=>?_
  cases t with
  |true=>
   rw [if_pos rfl];have qt:Out X W (ax F a env) σ G1 H1 _:=o1
   exact⟨H0,G1,env,bV,qt.imp fun p hp v G' H' g' t'=>hp v G' H' (g1.trans g') (.of (t'.rep Qf))⟩
  |false=>
   rw [if_neg zzf];have qt:Out X W (ax F b env) σ G1 H1 _:=o1
   exact⟨H0,G1,env,bV,qt.imp fun p hp v G' H' g' t'=>hp v G' H' (g1.trans g') (.of (t'.rep O3))⟩
end
section
variable{Γ:Pg}{X:Cx}{W:Wd}{F:ba}{N:List Str}{sc:Scope}{k:Nat}
noncomputable def tF(X:Cx)(W:Wd)(F:ba)(e:E):TE:=fun σ H Q=>∃H0 G env,SR W H0 env σ G H∧Out X W (ax F e env) σ G H fun p=>∃xs,p=.lst xs∧∀a vs G' H',aK W G H G' H'→H' a=none→ak W G' xs vs→Q (.ref a) (upd H' a (.lst vs))
abbrev GF(X:Cx)(W:Wd)(F:ba)(e:E)(p:Expr):Prop:=PE X p (tF X W F e)
theorem GF.ge{e:E}{p:Expr}(h:GF X W F e p)(hl:∀env q,ax F e env=.ok q→∃xs,q=.lst xs):GE X W F e p:=
 L2.PE.imp h fun σ H Q hq=>by
  obtain⟨H0,G,env,sr,o⟩:=hq
  refine⟨H0,G,env,sr,?_⟩;cases r:ax F e env with
  |bad=>rw [r] at o;exact o
  |exc c=>rw [r] at o;exact o
  |ok q=>
   rw [r] at o;obtain⟨xs,rfl⟩:=hl env q r
   exact⟨xs,rfl,fun a vs G' H' g ha l=>o _ _ _ (g.trans (.new g.sub ha)) (.of (.l (.inl (.inl au)) (ak.same (bD (g.sub.free ha)) xs l)))⟩
theorem notStar{e:E}{p:Expr}(h:br Γ N sc e p=true):∀env ps,starEach (p::ps) env=(false,eval p env)::starEach ps env:=by
 intro env ps;cases p<;>first|rfl|(cases e<;>first|(exact aq h)|(rename_i q;cases q<;>exact aq h))
theorem dI:∀{es:Es} {ps:List Expr},fL Γ N sc es ps=true→∀env pos,(backTo pos (starEach ps env)).any (·.1)=false
 |.nil,[],_,_,_=>rfl
 |.cons e es,p::ps,h,env,pos=>by
  replace h:=aJ h
  rw [notStar h.1];show(false||(backTo pos (starEach ps env)).any (·.1))=false
  rw [dI h.2]
  rfl
 |.nil,_::_,h,_,_=>aq h
 |.cons _ _,[],h,_,_=>aq h
abbrev GA(X:Cx)(W:Wd)(F:ba)(es:Es)(ps:List Expr):Prop:=PA X ps (tA X W F es)
theorem F1:GA X W F .nil []:=L2.PA.imp d8 fun σ H Q h=>by
 obtain⟨H0,G,env,sr,o⟩:=h
 rw [av] at o;exact o [] G H (.refl sr.sub) ⟨.nil,fun _=>.nil⟩
theorem BK{e:E}{es:Es}{p:Expr}{ps:List Expr}(he:GE X W F e p)(hs:GA X W F es ps)(df:starEach (p::ps) X.env=(false,eval p X.env)::starEach ps X.env):GA X W F (.cons e es) (p::ps):=
 L2.PA.imp (cA he hs df) fun σ H Q h=>by
  obtain⟨H0,G,env,sr,o⟩:=h
  rw [av] at o;refine one sr o fun q v G1 H1 g1 t1 bV o1=>args bV o1 fun qs vs G2 H2 g2 t2 eT o2=>?_
  refine o2 (v::vs) G2 H2 (g1.trans g2) ⟨.cons (t1.top.grow g2) t2.top,fun z=>?_⟩
  unfold gr at z;rw [zza] at z;exact .cons (Rep.same g2.g q (t1.rep z.1)) (t2.rep z.2)
theorem gZ:∀{es:Es} {env:Sl} {ps:List PV},av F es env=.ok ps→ps.length=fH es
 |.nil,env,ps,h=>by rw [av] at h;cases h;rfl
 |.cons e es,env,ps,h=>by
  rw [av] at h;obtain⟨p,_,h⟩:=Res.bind_ok h
  obtain⟨qs,hq,h⟩:=Res.bind_ok h
  cases h;rw [zzL,gZ hq]
  rfl
theorem Ht{es:Es}{ps:List Expr}{x1:Nat}{pos:Pos}(zY:gr es=true)(hl:fH es<1000)(h:GA X W F es ps):GE X W F (.tup es) (.Tuple ps x1 pos):=
 L2.PE.imp (Fm h) fun σ H Q hq=>by
  obtain⟨H0,G,env,sr,o⟩:=hq
  rw [ax] at o;have o':=o
  refine⟨H0,G,env,sr,?_⟩;cases r:av F es env with
  |bad=>rw [r] at o;exact o
  |exc c=>rw [r] at o;exact o
  |ok qs=>
   rw [r] at o;have hlen:=gZ r
   intro vs G1 H1 g1 t;have l:=t.rep zY
   refine⟨by rw [l.length,hlen];exact Nat.le_of_lt (Nat.lt_trans hl (by decide)),fun p hp=>?_⟩
   exact o _ _ _ (g1.trans (.new g1.sub hp)) (.of (.t (.inl au) (ak.same (bD (g1.sub.free hp)) qs l)))
theorem Aa{es:Es}{ps:List Expr}{pos:Pos}(zY:gr es=true)(hl:fH es<1000)(h:GA X W F es ps):GF X W F (.lst es) (.List ps pos):=
 L2.PE.imp (Ga h) fun σ H Q hq=>by
  obtain⟨H0,G,env,sr,o⟩:=hq
  rw [ax] at o;refine⟨H0,G,env,sr,?_⟩;cases r:av F es env with
  |bad=>rw [r] at o;exact o
  |exc c=>rw [r] at o;exact o
  |ok qs=>
   rw [r] at o;have hlen:=gZ r
   obtain⟨xs,e,o⟩:=o
   cases e;intro vs G1 H1 g1 t;have l:=t.rep zY
   exact⟨by rw [l.length,hlen];exact Nat.le_of_lt (Nat.lt_trans hl (by decide)),fun p hp=>o p vs G1 H1 g1 hp l⟩
theorem lst_is{es:Es}:∀env q,ax F (.lst es) env=.ok q→∃xs,q=.lst xs:=fun env q h=>by
 rw [ax] at h;obtain⟨ps,_,h⟩:=Res.bind_ok h
 cases h;exact⟨_,rfl⟩
theorem wW{p q:PV}(c:Str):bw p q≠.exc c:=by
 unfold bw
 (repeat' first|split|refine oo fun _=>?_|exact Res.of_noexc c|exact(fun z=>nomatch z))
theorem GO(C:dH Γ F W N sc k X){a b:E}{pa pb:Expr}{pos:Pos}(ha:GE X W F a pa)(hb:GE X W F b pb)(hs:oB pb):GE X W F (.sub a b) (.Subscript pa pb pos):=
 (D3 (Lg C.K C.room.units) ha hb hs).imp fun σ H Q h=>two (fun p q c=>wW c) (fun env=>by rw [ax]) h
theorem yJ{e:E}{p:Expr}(h:br Γ N sc e p=true):oB p:=by
 intro o i;cases p<;>first|rfl|(cases e<;>first|(exact aq h)|(rename_i q;cases q<;>exact aq h))
theorem nT{e:E}{p:Expr}(h:br Γ N sc e p=true)(op:CmpOp):behindInMarks op p=false:=by
 cases p<;>first|rfl|(cases e<;>first|(exact aq h)|(rename_i q;cases q<;>exact aq h))
theorem Bw{CX:rn}{f:Addr}{fd:FuncData}{ps:List Str}{sp:Sp}{E:XK}{pins:List (Addr×Obj)}{σ:St}{H:Hp}{s:Shared}{Q:VK}{us:List Value}{vs:List V}(FO:fx X.prog X.w X.K X.mg X.base CX k f fd ps sp)(hr:dw k X.A)(hb:Binds X.K fd ps [])
 (hx:∀e s',CX X.stack H s E e s'→X.xe e s') (I:Inv X pins σ H s) (r:Vals vs us) (h:sp vs H Q E):wpAny (model X.prog X.w) X.A (call (.ref f) us) (EP X pins σ Q) X.xe s:=by
 have hl:us.length=ps.length:=by rw [←r.length];exact FO.len _ _ _ _ h
 have jg:=hb s us I.kIn (by rw [List.append_nil];exact hl)
 rw [List.append_nil] at jg;refine wpAny_call (codeAny_mono (FO.run X.A X.stack s H ⟨us,[]⟩ us vs Q E hr I.env0 jg r h) fun r s' hq=>?_)
 cases r with
 |error e=>exact hx e s' hq
 |ok fl=>
  cases fl with
  |ret u=>exact I.after hq
  |next=>exact False.elim hq
  |brk=>exact False.elim hq
  |cont=>exact False.elim hq
theorem AY.imp{P:Program}{w:World}{outer:List Env}{H:Hp}{s s':Shared}{E E':XK}{e:Value}(h:dF P w outer H s E e s')(i:∀C a H',E C a H'→E' C a H'):dF P w outer H s E' e s':=by
 obtain⟨a,C,t,vs,H',B,rfl,F⟩:=h
 exact⟨a,C,t,vs,H',B,rfl,⟨F.os,F.bare,F.hok,F.fly,F.tn,F.tup,F.keepB,F.thereB,F.un,i _ _ _ F.ends⟩⟩
theorem k7(hr:dw k X.A){f:Str}{fa:Addr}{fd:FuncData}{pn:List Str}{q:Option (Str×List Nat)}{pins:List (Addr×Obj)}{σ:St}{G H:Hp}{s:Shared}{Q:VK}{us:List Value}{vs:List V}{as:List PV}
 (FO:fx X.prog X.w X.K X.mg X.base (dF X.prog X.w) k fa fd pn (xh W F f pn.length q)) (hb:Binds X.K fd pn []) (hlen:F f as≠.bad→vs.length=pn.length)
 (I:Inv X pins σ H s) (sg:aG G H) (tb:cy W G H) (l:zF W G q as vs) (r:Vals vs us) (o:Out X W (F f as) σ G H fun p=>c7 W G H p Q):wpAny (model X.prog X.w) X.A (call (.ref fa) us) (EP X pins σ Q) X.xe s:=by
 have zV:F f as≠.bad:=fun z=>by rw [z] at o;exact o
 refine Bw (E:=fun Cv ao H'=>∃c,F f as=.exc c∧XE W c G H Cv ao H') FO hr hb (fun e s' x=>?_) I r ⟨hlen zV,G,as,sg,tb,l,?_⟩
 ·cases z:F f as with
  |ok q=>
   obtain⟨a,C',t,vs,H',B,rfl,Fl⟩:=x
   obtain⟨c,e1,_⟩:=Fl.ends
   rw [z] at e1;cases e1
  |exc c=>
   rw [z] at o;refine o pins G H s e s' I (.refl sg) (AY.imp x fun C1 a H' y=>?_);obtain⟨c',e1,y⟩:=y
   rw [z] at e1;cases e1;exact y
  |bad=>exact absurd z zV
 ·cases z:F f as with
  |ok q=>
   rw [z] at o;exact fun v G' H' g' rp=>o v G' H' g' rp
  |exc c=>exact fun Cv ao H' x=>⟨c,rfl,x⟩
  |bad=>exact absurd z zV
theorem dH.rm(C:dH Γ F W N sc k X):dw k X.A:=C.room.mono (Nat.le_succ k)
theorem B2(C:dH Γ F W N sc k X){f:Str}{e:E}{es:Es}{p:Expr}{ps:List Expr}{np pos:Pos}(hf:Γ.fs.contains f=true)(hg:iW sc f=true)(ho:okN f=true)(zY:gr (.cons e es)=true)(ha:GA X W F (.cons e es) (p::ps))
 (df:starEach (p::ps) X.env=(false,eval p X.env)::starEach ps X.env) (hpl:(backTo pos (starEach ps X.env)).any (·.1)=false):GE X W F (.call f (.cons e es)) (.Call (.Name f np) (p::ps) [] pos):=by
 intro pins s σ H Q I h;obtain⟨H0,G,env,sr,o⟩:=h
 rw [ax] at o;obtain⟨fa,fd,pn,FO,hm,hk,hb,hlen⟩:=(C.fns f hf).ex
 refine wpAny_Call_Name_kw (fV I (fD C hg) hm ?_ (cY ho).1);refine PySem.W.callWith_K (h₀:=X.base) I.ok.mod.kin hk (bJ (ha pos pins s σ H (fun vs H1=>∃G1 as,aG G1 H1∧cy W G1 H1∧ak W G1 as vs∧Out X W (F f as) σ G1 H1 fun p=>c7 W G1 H1 p Q) I ?_) fun us s1 ⟨vs,H1,I1,r,q⟩=>⟨I1.kIn,?_⟩) df hpl
 ·refine args sr o fun as vs G1 H1 g1 t bV o1=>⟨G1,as,bV.sub,bV.tab,t.rep zY,o1.imp fun p hp v G' H' g' rp=>hp v G' H' (g1.trans g') (.of rp)⟩
 ·obtain⟨G1,as,sg,tb,l,o1⟩:=q
  exact k7 C.rm FO hb (fun z=>by rw [l.length];exact hlen as z) I1 sg tb l r o1
theorem Ac(C:dH Γ F W N sc k X){f:Str}{np pos:Pos}(hf:Γ.fs.contains f=true)(hg:iW sc f=true)(ho:okN f=true):GE X W F (.call f .nil) (.Call (.Name f np) [] [] pos):=by
 intro pins s σ H Q I h;obtain⟨H0,G,env,sr,o⟩:=h
 rw [ax,av] at o;obtain⟨fa,fd,pn,FO,hm,hk,hb,hlen⟩:=(C.fns f hf).ex
 refine wpAny_Call_Name_kw (fV I (fD C hg) hm ?_ (cY ho).1);refine PySem.W.callWith_K0 I.kIn hk ?_;have o':Out X W (F f []) σ G H fun p=>∀v G' H',aK W G H G' H'→Got W H0 G' H' (.call f .nil) p v→Q v H':=o
 exact k7 (us:=[]) (vs:=[]) (as:=[]) (q:=none) C.rm FO hb (fun z=>hlen [] z) I sr.sub sr.tab (show ak W G [] [] from .nil) .nil (o'.imp fun p hp v G' H' g' rp=>hp v G' H' g' (.of rp))
theorem De{ps:List PV}(c:Str):sP ps≠.exc c:=by
 unfold sP
 (repeat' first|split|refine oo fun _=>?_|exact Res.of_noexc c|exact(fun z=>nomatch z))
theorem AO{ps:List PV}(c:Str):zi ps≠.exc c:=by
 unfold zi
 (repeat' first|split|refine oo fun _=>?_|exact Res.of_noexc c|exact(fun z=>nomatch z))
theorem CI{ps:List PV}(c:Str):zT ps≠.exc c:=by
 unfold zT
 (repeat' first|split|refine oo fun _=>?_|exact Res.of_noexc c|exact(fun z=>nomatch z))
theorem BJ{ps:List PV}(c:Str):x9 ps≠.exc c:=by
 unfold x9
 (repeat' first|split|refine oo fun _=>?_|exact Res.of_noexc c|exact(fun z=>nomatch z))
theorem Bl{ps:List PV}(c:Str):Ab ps≠.exc c:=by
 unfold Ab
 (repeat' first|split|refine oo fun _=>?_|exact Res.of_noexc c|exact(fun z=>nomatch z))
theorem vK{ps:List PV}(c:Str):j6 ps≠.exc c:=by
 unfold j6
 (repeat' first|split|refine oo fun _=>?_|exact Res.of_noexc c|exact(fun z=>nomatch z))
theorem sX{ps:List PV}(c:Str):hJ ps≠.exc c:=by
 unfold hJ
 (repeat' first|split|refine oo fun _=>?_|exact Res.of_noexc c|exact(fun z=>nomatch z))
theorem qy{ps:List PV}(c:Str):fC ps≠.exc c:=by
 unfold fC
 (repeat' first|split|refine oo fun _=>?_|exact Res.of_noexc c|exact(fun z=>nomatch z))
theorem zg{ps:List PV}(c:Str):qC ps≠.exc c:=by
 unfold qC
 (repeat' first|split|refine oo fun _=>?_|exact Res.of_noexc c|exact(fun z=>nomatch z))
theorem yF{ps:List PV}(c:Str):pQ ps≠.exc c:=by
 unfold pQ
 (repeat' first|split|refine oo fun _=>?_|exact Res.of_noexc c|exact(fun z=>nomatch z))
theorem vT{b:B}{ps:List PV}(c:Str):cJ b ps≠.exc c:=match b with
 |.len=>De c|.abs=>AO c|.max2=>CI c|.int=>BJ c|.str=>Bl c|.tuple=>vK c|.sorted=>sX c|.sortedL=>qy c|.max1=>zg c
theorem vY{m:M}{ps:List PV}(c:Str):mI m ps≠.exc c:=match m with
 |.join=>yF c
theorem Gv(C:dH Γ F W N sc k X)(b:B){e:Expr}{es:List Expr}{t:TA}{np pos:Pos}(hg:iW sc (bN b)=true)(hm:Γ.bs.contains (bN b)=true)(ha:PA X (e::es) t)
 (he:starEach (e::es) X.env=(false,eval e X.env)::starEach es X.env) (hpl:(backTo pos (starEach es X.env)).any (·.1)=false):PE X (.Call (.Name (bN b) np) (e::es) [] pos) (KW (xi W (cJ b)) t):=by
 have kQ:=C.bs _ (List.contains_iff_mem.mp hm)
 have rq:=fD C hg
 cases b
 case len=>exact dO (wj C.K) rq kQ PySem.boot_len ha (he:=he) (hpl:=hpl)
 case abs=>exact dO wO rq kQ (by decide+kernel) ha (he:=he) (hpl:=hpl)
 case max2=>exact dO (vZ C.calm) rq kQ (by decide+kernel) ha (he:=he) (hpl:=hpl)
 case int=>exact iP wI rq kQ (by decide+kernel) ha (he:=he) (hpl:=hpl)
 case str=>exact iP vP rq kQ (by decide+kernel) ha (he:=he) (hpl:=hpl)
 case tuple=>exact iP (pS C.K) rq kQ (by decide+kernel) ha (he:=he) (hpl:=hpl)
 case sorted=>exact dO (oW C.K C.calm) rq kQ (by decide+kernel) ha (he:=he) (hpl:=hpl)
 case sortedL=>exact dO (md C.K C.room.units) rq kQ (by decide+kernel) ha (he:=he) (hpl:=hpl)
 case max1=>exact dO (rZ C.K C.calm) rq kQ (by decide+kernel) ha (he:=he) (hpl:=hpl)
theorem GZ{op:List PV→Res PV}{es:Es}{e:E}{σ:St}{H:Hp}{Q:VK}(hn:∀ps c,op ps≠.exc c)(he:∀env,ax F e env=(av F es env).bind fun ps=>op ps)(h:tE X W F e σ H Q):KW (xi W op) (tA X W F es) σ H Q:=by
 obtain⟨H0,G,env,sr,o⟩:=h
 rw [he] at o;refine args sr o fun ps vs G1 H1 g1 t bV o1=>?_
 obtain⟨r,hr,kr⟩:=o1.val (hn ps)
 exact⟨H0,G1,ps,r,bV.sub,t.top,hr,fun w G' H' g' gU=>kr w G' H' (g1.trans g') (.of gU)⟩
theorem EF(C:dH Γ F W N sc k X)(b:B){es:Es}{e:Expr}{ps:List Expr}{np pos:Pos}(hg:iW sc (bN b)=true)(hm:Γ.bs.contains (bN b)=true)(ha:GA X W F es (e::ps))
 (he:starEach (e::ps) X.env=(false,eval e X.env)::starEach ps X.env) (hpl:(backTo pos (starEach ps X.env)).any (·.1)=false):GE X W F (.blt b es) (.Call (.Name (bN b) np) (e::ps) [] pos):=
 (Gv C b hg hm ha he hpl).imp fun σ H Q h=>GZ (fun ps c=>vT c) (fun env=>by rw [ax]) h
end
section
variable{Γ:Pg}{X:Cx}{W:Wd}{F:ba}{N:List Str}{sc:Scope}{k:Nat}
theorem yV{t:Ty}{p:PV}(c:Str):az t p≠.exc c:=by
 cases p<;>exact fun z=>nomatch z
theorem G6(C:dH Γ F W N sc k X)(t:Ty){pos:Pos}(hg:iW sc (Str.ofString (so t))=true)(hm:Γ.bs.contains (Str.ofString (so t))=true):PE X (.Name (Str.ofString (so t)) pos) (tC (.ty (so t))):=by
 have kQ:=C.bs _ (List.contains_iff_mem.mp hm)
 have rq:=fD C hg
 cases t
 all_goals exact B3 rq kQ (u:=.type _) (by decide+kernel) rfl (by decide+kernel) (by decide+kernel)
theorem Dz(C:dH Γ F W N sc k X){t:Ty}{a:E}{pa:Expr}{np tp pos:Pos}(hi:iW sc "isinstance"=true)(hb:Γ.bs.contains "isinstance"=true)(hg:iW sc (Str.ofString (so t))=true)(hm:Γ.bs.contains (Str.ofString (so t))=true)(ha:GE X W F a pa)
 (df:∀env ps,starEach (pa::ps) env=(false,eval pa env)::starEach ps env):GE X W F (.ty t a) (.Call (.Name "isinstance" np) [pa,.Name (Str.ofString (so t)) tp] [] pos):=by
 refine(dO (zu C.K t) (fD C hi) (C.bs _ (List.contains_iff_mem.mp hb)) (by decide+kernel) (cA ha (cA (G6 C t hg hm) d8) (df _ _)) (he:=df _ _)).imp fun σ H Q h=>?_
 obtain⟨H0,G,env,sr,o⟩:=h
 rw [ax] at o;refine one sr o fun p v G1 H1 g1 t1 bV o1=>?_
 obtain⟨r,hr,kr⟩:=o1.val (fun c=>yV c)
 exact⟨v,H0,G1,p,r,rfl,bV.sub,t1.top,hr,fun w G' H' g' gU=>kr w G' H' (g1.trans g') (.of gU)⟩
def mT:M→String
 |.join=>"str"
theorem LQ(C:dH Γ F W N sc k X){m:M}{p:PV}{v:V}{H0 G H:Hp}(sg:aG G H)(h:mM m p=true)(t:Top W H0 G H p v):K5 X.K (mT m) v H:=by
 cases m<;>cases p<;>first|(exact aq h)|(cases t.str;rfl)|(obtain⟨a,vs,rfl,h1,_⟩:=t.lst sg;exact .inl ⟨rfl,_,eA C.K h1⟩)
theorem Hj(C:dH Γ F W N sc k X){m:M}{o:E}{es:Es}{po p:Expr}{ps:List Expr}{apos bA:Pos}(ho:GE X W F o po)(ha:GA X W F es (p::ps))(d6:attributeBase po (mN m) X.env (eval po X.env)=eval po X.env)
 (Fh:((backTo bA (starEach (p::ps) X.env)).all (fun x=>!x.1)&&(backToKw bA (keywordEach [] X.env)).all (fun x=>x.1.isSome)&&decide ((p::ps).length+([]:List Keyword).length+(if([]:List Keyword).isEmpty then 0 else 1)<30))=true)
 (eE:(apos.endLine==bA.line)=true) (hs:starEach (p::ps) X.env=(false,eval p X.env)::starEach ps X.env) (k9:(backTo bA (starEach ps X.env)).any (·.1)=false):GE X W F (.mth m o es) (.Call (.Attribute po (mN m) apos) (p::ps) [] bA):=by
 have rd:∀σ H Q,tE X W F (.mth m o es) σ H Q→NK X.K (mT m) (NR W (mI m)) (tE X W F o) (tA X W F es) σ H Q:=fun σ H Q h=>by
  obtain⟨H0,G,env,sr,out⟩:=h
  rw [ax] at out;refine one sr out fun p v G1 H1 g1 t1 bV o1=>?_
  by_cases hk:mM m p=true
  ·rw [if_pos hk] at o1;refine⟨LQ C bV.sub hk t1.top,args bV o1 fun ps vs G2 H2 g2 t2 eT o2=>?_⟩
   obtain⟨r,hr,kr⟩:=o2.val (fun c=>vY c)
   exact⟨H0,G2,p::ps,r,eT.sub,.cons (t1.top.grow g2) t2.top,hr,fun w G' H' g' gU=>kr w G' H' ((g1.trans g2).trans g') (.of gU)⟩
  ·rw [if_neg hk] at o1;exact o1.elim
 cases m
 case join=>exact(yu PySem.F.plainAttrs_str PySem.F.slot_str_join PySem.F.type_str_join (yX C.K) ho ha d6 Fh eE hs k9).imp rd
end
section
variable{Γ:Pg}{X:Cx}{W:Wd}{F:ba}{N:List Str}{sc:Scope}{k:Nat}
theorem SR.set{H0 G H:Hp}{env:Sl}{σ:St}{p:PV}{v:V}(i:Nat)(r:SR W H0 env σ G H)(h:Rep W G p v):SR W H0 (env.set i (.val p)) (σ.set i (some v)) G H where
 len:=by simpa using r.len
 sub:=r.sub
 tab:=r.tab
 tab0:=r.tab0
 base:=r.base
 slot:=fun j s e=>by
  by_cases hj:i=j
  ·subst hj;have bR:i<env.length:=by
    have:=(zzH.mp e).1
    simpa using this
   rw [List.getElem?_set_self bR] at e;cases e;exact⟨some v,List.getElem?_set_self (by rw [←r.len];exact bR),v,rfl,h⟩
  ·rw [zzS hj] at e;obtain⟨o,h1,h2⟩:=r.slot j s e
   exact⟨o,by rw [zzS hj];exact h1,h2⟩
 apart:=fun a b q q' ad e1 e2 e3 e4=>by
  have ne:∀{c:Nat} {q:PV},(env.set i (.val p))[c]?=some (.own q)→i≠c:=fun{c q} e z=>by
   subst z;have bR:i<env.length:=by
    have:=(zzH.mp e).1
    simpa using this
   rw [List.getElem?_set_self bR] at e;cases e
  have n1:=ne e1
  have n2:=ne e2
  rw [zzS n1] at e1 e3;rw [zzS n2] at e2 e4;exact r.apart a b q q' ad e1 e2 e3 e4
noncomputable def gT(K:PySem.W.Frag):Tg→TG
 |.one i=>d7 i
 |.two i j=>Hb K 2 (kZ (d7 i) (kZ (d7 j) Ct))
 |.three i j l=>Hb K 3 (kZ (d7 i) (kZ (d7 j) (kZ (d7 l) Ct)))
theorem rL{K:PySem.W.Frag}(hK:W.K=K){tg:Tg}{H0 G H:Hp}{env aF:Sl}{σ:St}{p:PV}{v:V}{Q:St→Hp→Prop}(e:Tg.put tg p env=.ok aF)(r:SR W H0 env σ G H)(h:Rep W G p v)(hq:∀σ',SR W H0 aF σ' G H→Q σ' H):gT K tg v σ H Q:=by
 unfold Tg.put at e;split at e
 ·cases e;exact hq _ (r.set _ h)
 ·cases e;simp only [Rep] at h;obtain⟨a,vs,rfl,sq,l⟩:=h
  obtain⟨v1,r1,rfl,h1,l⟩:=l.uncons
  obtain⟨v2,r2,rfl,h2,l⟩:=l.uncons
  simp only [ak] at l;subst l;rw [hK] at sq;exact⟨a,_,rfl,aG.tup r.sub sq.sq,rfl,_,_,rfl,_,_,rfl,rfl,hq _ ((r.set _ h1).set _ h2)⟩
 ·cases e;simp only [Rep] at h;obtain⟨a,vs,rfl,sq,l⟩:=h
  obtain⟨v1,r1,rfl,h1,l⟩:=l.uncons
  obtain⟨v2,r2,rfl,h2,l⟩:=l.uncons
  obtain⟨v3,r3,rfl,h3,l⟩:=l.uncons
  simp only [ak] at l;subst l;rw [hK] at sq;exact⟨a,_,rfl,aG.tup r.sub sq.sq,rfl,_,_,rfl,_,_,rfl,_,_,rfl,rfl,hq _ (((r.set _ h1).set _ h2).set _ h3)⟩
 ·cases e
theorem yq{x:Str}(hsc:X.env.scope=sc)(h:dW sc x=true):Loc X.env.scope x:=by
 rw [hsc];unfold dW at h;simp only [Bool.or_eq_true,beq_iff_eq] at h;exact h
theorem DX{fn:Str→Bool}{i:Nat}{p:Expr}(hN:X.N=N)(nd:N.Nodup)(hsc:X.env.scope=sc)(jr:∀x,fn x=true→X.fn x=true)(h:ME N sc fn i p=true):PG X p (d7 i)∧∃x q,p=.Name x q:=by
 obtain⟨x,hx,h2⟩:=aY h
 obtain⟨q,rfl⟩:=cD hx
 simp only [zza,beq_iff_eq,Bool.or_eq_true] at h2;refine⟨BH (by rw [hN];exact nd) (by rw [hN];exact h2.1.1) (yq hsc h2.1.2) ?_,x,q,rfl⟩;rcases h2.2 with z|z
 ·exact .inl (jr x z)
 ·exact .inr (by rw [hsc];exact z)
def N0:List Nat→DU
 |[]=>Ct
 |i::is=>kZ (d7 i) (N0 is)
theorem rC{fn:Str→Bool}(hN:X.N=N)(nd:N.Nodup)(hsc:X.env.scope=sc)(jr:∀x,fn x=true→X.fn x=true):∀(is:List Nat) (es:List Expr),BO N sc fn is es=true→Jg X es (N0 is)∧(assignEach es X.env).length=is.length∧(assignEach es X.env).findIdx? (·.1)=none
 |[],[],_=>⟨Cy,rfl,rfl⟩
 |i::is,a::as,h=>by
  have h:=aJ h
  obtain⟨g1,x,p,rfl⟩:=DX hN nd hsc jr h.1
  obtain⟨g,l,f⟩:=rC hN nd hsc jr is as h.2
  have e:assignEach (.Name x p::as) X.env=(false,assign (.Name x p) X.env)::assignEach as X.env:=rfl
  refine⟨y8 g1 g,by rw [e,zzL,l,zzL],?_⟩;rw [e,List.findIdx?_cons,f]
  rfl
 |[],_::_,h=>aq h
 |_::_,[],h=>aq h
theorem zO{fn:Str→Bool}{tg:Tg}{p:Expr}(hN:X.N=N)(nd:N.Nodup)(hsc:X.env.scope=sc)(hc:X.calm=true)(jr:∀x,fn x=true→X.fn x=true)(h:gv N sc fn tg p=true):PG X p (gT X.K tg):=by
 cases tg with
 |one i=>exact(DX hN nd hsc jr h).1
 |two i j=>
  obtain⟨es,h1,h2⟩:=aY h
  obtain⟨k,q,rfl⟩:=uq h1
  obtain⟨g,l,f⟩:=rC hN nd hsc jr _ _ h2
  exact xW hc g l f
 |three i j l=>
  obtain⟨es,h1,h2⟩:=aY h
  obtain⟨k,q,rfl⟩:=uq h1
  obtain⟨g,l,f⟩:=rC hN nd hsc jr _ _ h2
  exact xW hc g l f
def mf(W:Wd)(J:It)(G B:Hp)(ps:List PV):Prop:=∀(i:Nat) (G' H':Hp),aG G G'→gA B H'→aG G' H'→
 (i=ps.length→J.stop i H')∧∀p,ps[i]?=some p→J.go i H'∧∀x lK,J.yld i H' x lK→∃va,aK W G' H' va lK∧Rep W va p x
structure Km(W:Wd)(G H:Hp)(it:I)(J:It)(ps:List PV):Prop where
 any:mf W J G H ps
 frz:Dl it=true→mf W J G G ps
noncomputable def tI(X:Cx)(W:Wd)(F:ba)(it:I):TI:=fun σ H R=>∃H0 G env,SR W H0 env σ G H∧Out X W (aU F it env) σ G H fun ps=>∀J G' H',aK W G H G' H'→Km W G' H' it J ps→R J H'
abbrev GI(X:Cx)(W:Wd)(F:ba)(tg:Expr)(it:I)(p:Expr):Prop:=PI X tg p (tI X W F it)
theorem tP(hK:W.K=X.K){G B:Hp}{a:Addr}{vs:List V}{ps:List PV}(h:LsR W.K B a vs)(l:ak W G ps vs):mf W (LI X.K a) G B ps:=fun i G' H' sG sB sub=>by
 have hq:iU X.K H' a vs:=eA hK (gA.ls sB h)
 refine⟨fun hi=>⟨vs,hq,by rw [l.length];omega⟩,fun p hp=>?_⟩
 obtain⟨v,hv,rv⟩:=l.getP hp
 refine⟨⟨vs,v,hq,hv⟩,fun x lK hy=>?_⟩
 obtain⟨rfl,hy⟩:=hy
 have:=hy vs hq
 rw [hv] at this;cases this;exact⟨G',.refl sub,Rep.same sG p rv⟩
theorem yC{K:PySem.W.Frag}{G B:Hp}{a:Addr}{vs:List V}{ps:List PV}(h:fj K B a vs)(l:ak W G ps vs):mf W (Mg K a) G B ps:=fun i G' H' sG sB sub=>by
 have hq:fj K H' a vs:=gA.tup sB h
 refine⟨fun hi=>⟨vs,hq,by rw [l.length];omega⟩,fun p hp=>?_⟩
 obtain⟨v,hv,rv⟩:=l.getP hp
 refine⟨⟨vs,v,hq,hv⟩,fun x lK hy=>?_⟩
 obtain⟨rfl,hy⟩:=hy
 have:=hy vs hq
 rw [hv] at this;cases this;exact⟨G',.refl sub,Rep.same sG p rv⟩
theorem zJ{G B:Hp}{a:Addr}{o:Obj}{ks:List (List Int)}{us:List V}(n:ks.length=us.length)(h:B a=some (.frz o (.dT (kz ks us)))):mf W (Ls a o (kz ks us)) G B (ks.map ah):=fun i G' H' sG sB sub=>by
 have hq:H' a=some (.frz o (.dT (kz ks us))):=sB.at h (fun _ z=>nomatch z)
 refine⟨fun hi=>⟨hq,by rw [eY n];rw [zzl] at hi;omega⟩,fun p hp=>?_⟩
 rw [zzQ] at hp;obtain⟨k,hk,rfl⟩:=zzJ.mp hp
 have hi:i<ks.length:=(zzH.mp hk).1
 refine⟨⟨hq,by rw [eY n];exact hi⟩,fun x lK hy=>?_⟩
 obtain⟨rfl,b,k',v,rfl,e2,e3⟩:=hy
 have ek:k'=ki k:=by
  have:=congrArg (fun l=>l[i]?) (og (us:=us) n)
  simp only [zzQ,e2,hk,Option.map_some] at this;exact Option.some.inj this
 rw [ek,qh] at e3;obtain⟨G2,g2,l2⟩:=fT (W:=W) (vs:=[.ref b]) (nss:=[k]) sub (.cons ⟨b,rfl,e3⟩ .nil)
 obtain⟨w,r,ew,hw,_⟩:=l2.uncons
 cases ew;exact⟨G2,g2,hw⟩
theorem mD{z:Str}{i:Nat}{p:PV}(h:(chars z)[i]?=some p):∃c,z.cps[i]?=some c∧p=.str ⟨#[c]⟩:=by
 unfold chars at h;rw [zzQ] at h;obtain⟨c,hc,rfl⟩:=zzJ.mp h
 rw [Array.getElem?_toList] at hc;exact⟨c,hc,rfl⟩
theorem m7(z:Str):(chars z).length=z.cps.size:=by unfold chars;rw [zzl,zzd]
theorem yY{G B:Hp}(z:Str):mf W (KL z) G B (chars z):=fun i G' H' sG sB sub=>by
 refine⟨fun hi=>by rw [m7] at hi;exact Nat.le_of_eq hi.symm,fun p hp=>?_⟩
 obtain⟨c,hc,rfl⟩:=mD hp
 refine⟨(Array.getElem?_eq_some_iff.mp hc).1,fun x lK hy=>?_⟩
 obtain⟨rfl,c',f6,rfl⟩:=hy
 rw [hc] at f6;cases f6;exact⟨G',.refl sub,.s⟩
theorem oy{G B:Hp}(lo:Int)(n:Nat):mf W (Kb lo n) G B (ff lo n):=fun i G' H' sG sB sub=>by
 unfold ff;refine⟨fun hi=>by rw [zzl,List.length_range] at hi;exact Nat.le_of_eq hi.symm,fun p hp=>?_⟩
 rw [zzQ] at hp;obtain⟨c,hc,rfl⟩:=zzJ.mp hp
 obtain⟨h1,h2⟩:=zzH.mp hc
 rw [List.length_range] at h1;rw [List.getElem_range] at h2;subst h2;refine⟨h1,fun x lK hy=>?_⟩
 obtain⟨rfl,rfl⟩:=hy
 exact⟨G',.refl sub,.i⟩
theorem kA{G H:Hp}{p q:PV}{v u:V}{a:Addr}(sub:aG G H)(ha:H a=none)(h1:Rep W G p v)(h2:Rep W G q u):∃va,aK W G H va (upd H a (.tup [v,u]))∧Rep W va (.tup [p,q]) (.ref a):=
 ⟨_,.new sub ha,.t (.inl au) (ak.same (bD (sub.free ha)) _ (.cons h1 (.cons h2 .nil)))⟩
theorem ie:∀{xs:List PV} {n i:Nat} {p:PV},(cF n xs)[i]?=some p→∃x,xs[i]?=some x∧p=.tup [.int ((n+i:Nat):Int),x]
 |[],_,_,_,h=>by simp [cF] at h
 |x::xs,n,0,p,h=>by simp [cF] at h;exact⟨x,rfl,by rw [←h];simp⟩
 |x::xs,n,i+1,p,h=>by
  simp only [cF,List.getElem?_cons_succ] at h;obtain⟨y,h1,h2⟩:=ie h
  exact⟨y,by simpa using h1,by rw [h2,show n+1+i=n+(i+1) by omega]⟩
theorem cX:∀(xs:List PV) (n:Nat),(cF n xs).length=xs.length
 |[],_=>rfl
 |_::xs,n=>by simp only [cF,zzL,cX xs]
theorem qp{K:PySem.W.Frag}{G B:Hp}{a:Addr}{vs:List V}{ps:List PV}(h:fj K B a vs)(l:ak W G ps vs):mf W (L6 K a vs) G B (cF 0 ps):=fun i G' H' sG sB sub=>by
 have hq:fj K H' a vs:=gA.tup sB h
 refine⟨fun hi=>⟨hq,by rw [cX] at hi;rw [l.length];exact hi⟩,fun p hp=>?_⟩
 obtain⟨x,hx,rfl⟩:=ie hp
 obtain⟨v,hv,rv⟩:=l.getP hx
 refine⟨⟨hq,(zzH.mp hv).1⟩,fun y lK hy=>?_⟩
 obtain⟨b,x',rfl,hb,rfl,Av⟩:=hy
 rw [hv] at Av;cases Av;rw [Nat.zero_add];exact kA sub hb .i (Rep.same sG x rv)
theorem kL(hK:W.K=X.K){G B:Hp}{a:Addr}{vs:List V}{ps:List PV}(h:LsR W.K B a vs)(l:ak W G ps vs):mf W (E2 X.K a vs) G B (cF 0 ps):=fun i G' H' sG sB sub=>by
 have hq:iU X.K H' a vs:=eA hK (gA.ls sB h)
 refine⟨fun hi=>⟨hq,by rw [cX] at hi;rw [l.length];exact hi⟩,fun p hp=>?_⟩
 obtain⟨x,hx,rfl⟩:=ie hp
 obtain⟨v,hv,rv⟩:=l.getP hx
 refine⟨⟨hq,(zzH.mp hv).1⟩,fun y lK hy=>?_⟩
 obtain⟨b,x',rfl,hb,rfl,Av⟩:=hy
 rw [hv] at Av;cases Av;rw [Nat.zero_add];exact kA sub hb .i (Rep.same sG x rv)
theorem p9{G B:Hp}(z:Str):mf W (Ku z) G B (cF 0 (chars z)):=fun i G' H' sG sB sub=>by
 refine⟨fun hi=>by rw [cX,m7] at hi;exact hi,fun p hp=>?_⟩
 obtain⟨x,hx,rfl⟩:=ie hp
 obtain⟨c,hc,rfl⟩:=mD hx
 refine⟨(Array.getElem?_eq_some_iff.mp hc).1,fun y lK hy=>?_⟩
 obtain⟨b,c',rfl,hb,rfl,f6⟩:=hy
 rw [hc] at f6;cases f6;rw [Nat.zero_add];exact kA sub hb .i .s
theorem dJ{e:E}{σ:St}{H0 G H:Hp}{env:Sl}{Q:VK}{p:PV}(sr:SR W H0 env σ G H)(e1:ax F e env=.ok p)(h:∀v G1 H1,aK W G H G1 H1→Got W H0 G1 H1 e p v→Q v H1):tE X W F e σ H Q:=⟨H0,G,env,sr,by rw [e1];exact h⟩
theorem xH{e:E}{σ:St}{H0 G H:Hp}{env:Sl}{Q:VK}{c:Str}(sr:SR W H0 env σ G H)(e1:ax F e env=.exc c)(h:rW X W σ c G H):tE X W F e σ H Q:=⟨H0,G,env,sr,by rw [e1];exact h⟩
theorem EA(C:dH Γ F W N sc k X){tg p:Expr}{e:E}(he:GE X W F e p):GI X W F tg (.seq e) p:=by
 intro pins s σ H R I h;obtain⟨H0,G,env,sr,o⟩:=h
 rw [aU] at o;cases r:ax F e env with
 |bad=>rw [r] at o;exact o.elim
 |exc c=>rw [r] at o;exact vg he pins s σ H R I (xH sr r o)
 |ok q=>
  rw [r] at o;cases q with
  |lst xs=>
   refine vg he pins s σ H R I (dJ sr r fun v G1 H1 g1 t=>?_);have t':=t
   obtain⟨a,vs,rfl,h1,l1⟩:=t.top.lst g1.sub
   refine⟨a,rfl,⟨vs,eA C.K h1⟩,o _ G1 H1 g1 ⟨tP C.K h1 l1,fun z=>?_⟩⟩
   have rp:=t'.rep z
   simp only [Rep] at rp;obtain⟨a',DL,e1,h2,l2⟩:=rp
   cases e1;exact tP C.K h2 l2
  |tup xs=>
   refine FA he pins s σ H R I (dJ sr r fun v G1 H1 g1 t=>?_);have t':=t
   obtain⟨a,vs,rfl,h1,l1⟩:=t.top.tup g1.sub
   rw [C.K] at h1;refine⟨a,rfl,⟨vs,h1⟩,o _ G1 H1 g1 ⟨yC h1 l1,fun z=>?_⟩⟩
   have rp:=t'.rep z
   simp only [Rep] at rp;obtain⟨a',DL,e1,h2,l2⟩:=rp
   cases e1;rw [C.K] at h2;exact yC h2.sq l2
  |str z=>exact Gg he pins s σ H R I (dJ sr r fun v G1 H1 g1 t=>⟨z,t.top.str,o _ G1 H1 g1 ⟨yY z,fun _=>yY z⟩⟩)
  |int _=>exact False.elim o
  |bl _=>exact False.elim o
  |non=>exact False.elim o
  |exc _=>exact False.elim o
  |dct ks qs=>
   by_cases FV:fI e=true
   ·have OE:rM e (.dct ks qs)=.ok (ks.map ah):=by
     cases e<;>first|rfl|exact aq FV
    have o2:Out X W (rM e (.dct ks qs)) σ G H fun ps=>∀(J:It) (G' H':Hp),aK W G H G' H'→Km W G' H' (Ci.I.seq e) J ps→R J H':=o
    rw [OE] at o2;refine Fx he pins s σ H R I (dJ sr r fun v G1 H1 g1 t=>?_);have rp:=t.rep FV
    simp only [Rep] at rp;obtain⟨a,ob,us,rfl,n,h1,l1⟩:=rp
    exact⟨a,ob,_,rfl,g1.sub _ _ h1,o2 _ G1 H1 g1 ⟨zJ n (g1.sub _ _ h1),fun _=>zJ n h1⟩⟩
   ·have:∃i,e=.tmp i:=by
     cases e<;>first|exact⟨_,rfl⟩|exact absurd rfl FV
    obtain⟨i,rfl⟩:=this
    exact False.elim o
theorem di{i:Int}(h:bj i=true): -(2^62)≤i∧i<2^62:=by
 unfold bj at h
 simpa using h
theorem FE(C:dH Γ F W N sc k X){tg p:Expr}{e:E}{np pos:Pos}(hg:iW sc "range"=true)(hb:Γ.bs.contains "range"=true)(df:∀env ps,starEach (p::ps) env=(false,eval p env)::starEach ps env)(he:GE X W F e p):GI X W F tg (.rng e) (.Call (.Name "range" np) [p] [] pos):=by
 intro pins s σ H R I h;refine wH (fD C hg) (C.bs _ (List.contains_iff_mem.mp hb)) (cA he d8 (df _ _)) (df _ _) pins s σ H R I ?_;obtain⟨H0,G,env,sr,o⟩:=h
 rw [aU] at o;refine one sr o fun q v G1 H1 g1 t bV o1=>?_
 cases q with
 |int j=>
  by_cases hj:bj j=true
  ·have o2:Out X W (if bj j=true then Res.ok (ff 0 j.toNat) else .bad) σ G1 H1 _:=o1
   rw [if_pos hj] at o2;exact⟨j,by rw [t.top.int],(di hj).1,(di hj).2,o2 _ G1 H1 g1 ⟨oy _ _,fun _=>oy _ _⟩⟩
  ·have o2:Out X W (if bj j=true then Res.ok (ff 0 j.toNat) else .bad) σ G1 H1 _:=o1
   rw [if_neg hj] at o2;exact o2.elim
 |bl _=>exact False.elim o1
 |non=>exact False.elim o1
 |str _=>exact False.elim o1
 |tup _=>exact False.elim o1
 |lst _=>exact False.elim o1
 |exc _=>exact False.elim o1
 |dct _ _=>exact False.elim o1
theorem BS(C:dH Γ F W N sc k X){tg p q:Expr}{a b:E}{np pos:Pos}(hg:iW sc "range"=true)(hb:Γ.bs.contains "range"=true)(df:∀env ps,starEach (p::ps) env=(false,eval p env)::starEach ps env)(Fv:∀env ps,starEach (q::ps) env=(false,eval q env)::starEach ps env)
 (ha:GE X W F a p) (jg:GE X W F b q):GI X W F tg (.rng2 a b) (.Call (.Name "range" np) [p,q] [] pos):=by
 intro pins s σ H R I h;refine vj (fD C hg) (C.bs _ (List.contains_iff_mem.mp hb)) (cA ha (cA jg d8 (Fv _ _)) (df _ _)) (by rw [df,Fv];rfl) (Fv _ _) pins s σ H R I ?_;obtain⟨H0,G,env,sr,o⟩:=h
 rw [aU] at o;refine one sr o fun x v G1 H1 g1 t bV o1=>one bV o1 fun y u G2 H2 g2 t2 eT o2=>?_
 cases x<;>cases y<;>first
  |(exact False.elim o2)
  | (rename_i i j
     by_cases hj:(bj i&&bj j)=true
     ·have o3:Out X W (if(bj i&&bj j)=true then Res.ok (ff i (j-i).toNat) else .bad) σ G2 H2 _:=o2
      rw [if_pos hj] at o3;rw [zza] at hj;exact⟨i,j,by rw [t.top.int,t2.top.int],⟨(di hj.1).1,(di hj.1).2,(di hj.2).1,(di hj.2).2⟩,o3 _ G2 H2 (g1.trans g2) ⟨oy _ _,fun _=>oy _ _⟩⟩
     ·have o3:Out X W (if(bj i&&bj j)=true then Res.ok (ff i (j-i).toNat) else .bad) σ G2 H2 _:=o2
      rw [if_neg hj] at o3;exact o3.elim)
theorem Be(C:dH Γ F W N sc k X){elts:List Expr}{x1:Nat}{kf:Pos}{p:Expr}{e:E}{np pos:Pos}(hg:iW sc "enumerate"=true)(hb:Γ.bs.contains "enumerate"=true)(df:∀env ps,starEach (p::ps) env=(false,eval p env)::starEach ps env)(he:GE X W F e p):
 GI X W F (.Tuple elts x1 kf) (.enum e) (.Call (.Name "enumerate" np) [p] [] pos):=by
 intro pins s σ H R I h;have rq:=fD C hg
 have kQ:=C.bs _ (List.contains_iff_mem.mp hb)
 have pa:=cA he d8 (df _ _)
 obtain⟨H0,G,env,sr,o⟩:=h
 rw [aU] at o;cases r:ax F e env with
 |bad=>rw [r] at o;exact o.elim
 |exc c=>rw [r] at o;exact qc rq kQ pa (df _ _) pins s σ H R I (xH sr r o)
 |ok q=>
  rw [r] at o;cases q with
  |lst xs=>
   refine qc rq kQ pa (df _ _) pins s σ H R I (dJ sr r fun v G1 H1 g1 t=>?_)
   by_cases hz:fI e=true
   ·have rp:=t.rep hz
    simp only [Rep] at rp;obtain⟨a,vs,rfl,h2,l2⟩:=rp
    exact⟨a,vs,rfl,eA C.K (aG.ls g1.sub h2),o _ G1 H1 g1 ⟨kL C.K (aG.ls g1.sub h2) l2,fun _=>kL C.K h2 l2⟩⟩
   ·obtain⟨a,vs,rfl,h1,l1⟩:=t.top.lst g1.sub
    exact⟨a,vs,rfl,eA C.K h1,o _ G1 H1 g1 ⟨kL C.K h1 l1,fun z=>absurd z hz⟩⟩
  |tup xs=>
   refine zZ rq kQ pa (df _ _) pins s σ H R I (dJ sr r fun v G1 H1 g1 t=>?_);have t':=t.top
   rcases t' with rp|z
   ·simp only [Rep] at rp;obtain⟨a,vs,rfl,h2,l2⟩:=rp
    rw [C.K] at h2;exact⟨a,vs,rfl,aG.tup g1.sub h2.sq,o _ G1 H1 g1 ⟨qp (aG.tup g1.sub h2.sq) l2,fun z=>qp h2.sq l2⟩⟩
   ·exact z.elim
  |str z=>exact yH rq kQ pa (df _ _) pins s σ H R I (dJ sr r fun v G1 H1 g1 t=>⟨z,by rw [t.top.str],o _ G1 H1 g1 ⟨p9 z,fun _=>p9 z⟩⟩)
  |int _=>exact False.elim o
  |bl _=>exact False.elim o
  |non=>exact False.elim o
  |exc _=>exact False.elim o
  |dct _ _=>exact False.elim o
end
theorem v7{env:Env}{x:Str}{c:Addr}(h:env.cells.lookup x=some c):cellOf env x=pure c:=by
 unfold cellOf;rw [h]
def frees(names:List (Str×NameKind)):List Str:=((names.filter fun p=>p.2==.free).map (·.1)).reverse
theorem gQ{scope:Scope}{env:Env}(h:∀y∈scope.names,y.2=.free→∃c,env.cells.lookup y.1=some c):closureFor scope env=pure (bF env (freeOf scope)):=by
 simp only [closureFor];have key:∀(names:List (Str×NameKind)) (acc:List (Str×Addr)),(∀y∈names,y.2=.free→∃c,env.cells.lookup y.1=some c)→
  (forIn (m:=Sem) names acc fun x r=>if(x.2==NameKind.free)=true then do
   let c←cellOf env x.1
   pure (ForInStep.yield ((x.1,c)::r))
   else pure (ForInStep.yield r))=pure (bF env (frees names)++acc):=by
  intro names
  induction names with
  |nil=>intro acc _;rfl
  |cons p r ih=>
   intro acc hh;obtain⟨n,kd⟩:=p
   rw [List.forIn_cons]
   by_cases hk:(kd==NameKind.free)=true
   ·obtain⟨c,hc⟩:=hh (n,kd) (by simp) (beq_iff_eq.mp hk)
    simp only [hk,if_true,v7 hc,pure_bind];rw [ih ((n,c)::acc) fun y hy=>hh y (zzI _ hy)]
    have e:frees ((n,kd)::r)=frees r++[n]:=by
     unfold frees;rw [List.filter_cons,if_pos hk,zzF,List.reverse_cons]
    rw [e];unfold bF;rw [List.map_append,zzF,List.map_nil,List.append_assoc];show _=pure (_++([(n,(env.cells.lookup n).getD 0)]++acc))
    rw [show env.cells.lookup n=some c from hc]
    rfl
   ·simp only [hk,zze,if_false,pure_bind];rw [ih acc fun y hy=>hh y (zzI _ hy)]
    have e:frees ((n,kd)::r)=frees r:=by
     unfold frees;rw [List.filter_cons,if_neg hk]
    rw [e]
 have:=key scope.names [] h
 rw [List.append_nil] at this;simp only [bind_pure_comp,map_pure,id_map',bind_pure];exact this
section
variable{Γ:Pg}{X:Cx}{W:Wd}{F:ba}{N:List Str}{sc:Scope}{k:Nat}
theorem eC{scope:Scope}(h:X.env.scope=sc):relabel scope X.env=cZ scope sc:=by
 subst h
 rfl
structure kc(N:List Str)(sc scope:Scope)(kk:Nat)(bf:List Nat)(xs:List Str):Prop where
 kind:scope.kind=.function
 len:xs.length=kk
 nd:(xs++freeOf scope).Nodup
 cov:(scope.names.all fun y=>(decide (y.2≠.cell)||!(freeOf scope).contains y.1)&&(decide (y.2≠.free)||(freeOf scope).contains y.1))=true
 own:(scope.names.all fun y=>decide (y.2≠.cell)||decide (scope.names.lookup y.1=some .cell))=true
 names:(scope.names.all fun y=>decide (y.2≠.local)||decide (scope.names.lookup y.1=some .local))=true
 slots:bf.map (fun i=>N[i]?)=(freeOf scope).map some
 kX:((freeOf scope).all fun y=>decide (sc.names.lookup y=some .cell))=true
 kY:((freeOf scope).all fun y=>decide ((cZ scope sc).names.lookup y=some .cell))=true
theorem iq{scope:Scope}{kk:Nat}{bf:List Nat}{xs:List Str}(h:tJ N sc scope kk bf xs=true):kc N sc scope kk bf xs:=by
 unfold tJ at h;simp only [zza] at h;obtain⟨⟨⟨⟨⟨⟨⟨⟨h1,h2⟩,h3⟩,h4⟩,h9⟩,h5⟩,h6⟩,h7⟩,h8⟩:=h
 exact⟨beq_iff_eq.mp h1,beq_iff_eq.mp h2,zzY h3,h4,h9,h5,zzY h6,h7,h8⟩
theorem oA(hN:X.N=N)(hsc:X.env.scope=sc)(ok:X.Ok){scope:Scope}{kk:Nat}{bf:List Nat}{xs:List Str}(h:kc N sc scope kk bf xs):en X scope xs (freeOf scope) bf:=by
 have dQ:∀y∈freeOf scope,∃c,X.env.cells.lookup y=some c:=fun y hy=>ok.has y (.inl (by
  have:=zzY (zzT.mp h.kX y hy)
  show X.env.scope.names.lookup y=_
  rw [hsc];exact this))
 refine⟨h.kind,gQ fun y hy hf=>?_,zzT.mpr fun y hy=>?_,h.cov,h.own,h.names,by rw [hN];exact h.slots,zzT.mpr fun y hy=>?_,?_⟩
 ·have c:=zzT.mp h.cov y hy
  rw [zza,Bool.or_eq_true,Bool.or_eq_true] at c;rcases c.2 with z|z
  ·exact absurd hf (zzY z)
  ·exact dQ _ (List.contains_iff_mem.mp z)
 ·obtain⟨c,hc⟩:=dQ y hy
  rw [hc];rfl
 ·have:=zzY (zzT.mp h.kX y hy)
  refine zzh ?_;show X.env.scope.names.lookup y=_
  rw [hsc];exact this
 ·rw [eC hsc];exact h.kY
theorem gE{f:PV→Res (Option PV)}{x:PV}:∀{xs:List PV},bb f (xs++[x])=(bb f xs).bind fun ys=>(f x).well.bind fun o=>.ok (ys++o.toList)
 |[]=>by
  simp only [List.nil_append,bb,Res.bind];cases(f x).well with
  |ok o=>cases o<;>rfl
  |exc c=>rfl
  |bad=>rfl
 |y::xs=>by
  rw [List.cons_append];simp only [bb];rw [gE (xs:=xs)];cases(f y).well with
  |exc c=>rfl
  |bad=>rfl
  |ok o=>
   show(((bb f xs).bind fun ys=>(f x).well.bind fun o=>.ok (ys++o.toList)).bind fun ys=>.ok (oc o ys))=((bb f xs).bind fun ys=>.ok (oc o ys)).bind fun ys=>(f x).well.bind fun o=>.ok (ys++o.toList)
   cases bb f xs with
   |exc c=>rfl
   |bad=>rfl
   |ok zs=>
    show(((f x).well.bind fun o=>.ok (zs++o.toList)).bind fun ys=>.ok (oc o ys))=(f x).well.bind fun o2=>.ok ((oc o zs)++o2.toList)
    cases(f x).well with
    |exc c=>rfl
    |bad=>rfl
    |ok o2=>cases o<;>rfl
theorem lG{f:PV→Res (Option PV)}:∀{xs ys:List PV},bb f xs=.ok ys→∀i,∃zs,bb f (xs.take i)=.ok zs∧zs.length≤i
 |_,_,_,0=>⟨[],by simp [bb],zzE _⟩
 |[],ys,h,i+1=>⟨[],by simp [bb],Nat.zero_le _⟩
 |x::xs,ys,h,i+1=>by
  simp only [bb] at h;obtain⟨o,ho,h⟩:=Res.bind_ok h
  obtain⟨zs,hz,h⟩:=Res.bind_ok h
  obtain⟨ws,hw,hl⟩:=lG hz i
  refine⟨oc o ws,?_,?_⟩
  ·rw [List.take_succ_cons];simp only [bb];rw [ho];show((bb f (xs.take i)).bind fun ys=>.ok (oc o ys))=_
   rw [hw]
   rfl
  ·cases o with
   |none=>exact Nat.le_succ_of_le hl
   |some y=>exact Nat.succ_le_succ hl
theorem Cj{α:Type}{r:Res α}{a:α}(h:r.well=.ok a):r=.ok a:=by
 cases r with
 |ok b=>cases h;rfl
 |exc c=>cases h
 |bad=>cases h
theorem qZ{f:PV→Res (Option PV)}{xs ys zs:List PV}{i:Nat}{x:PV}(h:bb f xs=.ok ys)(hx:xs[i]?=some x)(hz:bb f (xs.take i)=.ok zs):∃o,f x=.ok o∧bb f (xs.take (i+1))=.ok (zs++o.toList):=by
 have e:xs.take (i+1)=xs.take i++[x]:=by rw [List.take_add_one,hx];rfl
 obtain⟨ws,hw,_⟩:=lG h (i+1)
 rw [e,gE,hz] at hw;obtain⟨o,ho,hw⟩:=Res.bind_ok (show((f x).well.bind fun o=>Res.ok (zs++o.toList))=.ok ws from hw)
 refine⟨o,Cj ho,?_⟩;rw [e,gE,hz];show((f x).well.bind fun o=>Res.ok (zs++o.toList))=_
 rw [ho]
 rfl
theorem rf{H0 G H:Hp}{env:Sl}{σ:St}{bf:List Nat}{ys:List Str}(kk:Nat)(sr:SR W H0 env σ G H)(hs:bf.map (fun i=>N[i]?)=ys.map some)(nd:ys.Nodup):SR W H0 (List.replicate kk .no++aw env bf) (List.replicate kk none++Aq σ bf) G H:=by
 have Pq:∀(i j:Nat) (a:Nat),bf[i]?=some a→bf[j]?=some a→i=j:=fun i j a h1 h2=>by
  have e1:(ys.map some)[i]?=some (N[a]?):=by rw [←hs,zzQ,h1];rfl
  have e2:(ys.map some)[j]?=some (N[a]?):=by rw [←hs,zzQ,h2];rfl
  rw [zzQ] at e1 e2;obtain⟨y1,g1,q1⟩:=zzJ.mp e1
  obtain⟨y2,g2,q2⟩:=zzJ.mp e2
  have:y1=y2:=Option.some.inj (q1.trans q2.symm)
  subst this;exact kl nd g1 g2
 have inner:∀(j:Nat) (s:Slot),(List.replicate kk Slot.no++aw env bf)[j]?=some s→(j<kk∧s=.no)∨∃a,kk≤j∧bf[j-kk]?=some a∧s=env.getD a .no:=fun j s e=>by
  by_cases hj:j<kk
  ·rw [List.getElem?_append_left (by simpa using hj),List.getElem?_replicate,if_pos hj] at e;cases e;exact .inl ⟨hj,rfl⟩
  ·rw [List.getElem?_append_right (by simpa using hj),List.length_replicate] at e;unfold aw at e;rw [zzQ] at e;obtain⟨a,ha,rfl⟩:=zzJ.mp e
   exact .inr ⟨a,by omega,ha,rfl⟩
 have val:∀(j a:Nat),kk≤j→bf[j-kk]?=some a→(List.replicate kk none++Aq σ bf)[j]?=some ((σ[a]?).join):=fun j a hj ha=>by
  rw [List.getElem?_append_right (by simpa using hj),List.length_replicate];unfold Aq;rw [zzQ,ha]
  rfl
 refine⟨by unfold aw Aq;simp,sr.sub,sr.base,fun j s e=>?_,fun i j p q a e1 e2 e3 e4=>?_,sr.tab,sr.tab0⟩
 ·rcases inner j s e with⟨hj,rfl⟩|⟨a,hj,ha,rfl⟩
  ·exact⟨none,by rw [List.getElem?_append_left (by simpa using hj),List.getElem?_replicate,if_pos hj],trivial⟩
  ·refine⟨_,val j a hj ha,?_⟩;rw [zzK];cases e1:env[a]? with
   |none=>exact trivial
   |some s=>
    obtain⟨o,h1,h2⟩:=sr.slot a s e1
    rw [h1];exact h2
 ·rcases inner i _ e1 with⟨_,z⟩|⟨b,hi,hb,z1⟩
  ·cases z
  rcases inner j _ e2 with⟨_,z⟩|⟨c,hj,hc,z2⟩
  ·cases z
  rw [val i b hi hb] at e3;rw [val j c hj hc] at e4;have f1:env[b]?=some (.own p):=by
   rw [zzK] at z1;cases e:env[b]? with
   |none=>rw [e] at z1;cases z1
   |some s=>rw [e] at z1;exact congrArg some z1.symm
  have f2:env[c]?=some (.own q):=by
   rw [zzK] at z2;cases e:env[c]? with
   |none=>rw [e] at z2;cases z2
   |some s=>rw [e] at z2;exact congrArg some z2.symm
  have g1:σ[b]?=some (some (.ref a)):=Option.join_eq_some_iff.mp (Option.some.inj e3)
  have g2:σ[c]?=some (some (.ref a)):=Option.join_eq_some_iff.mp (Option.some.inj e4)
  have bc:=sr.apart b c p q a f1 f2 g1 g2
  subst bc;have:=Pq _ _ b hb hc
  omega
theorem iK{H0 G H:Hp}{kk:Nat}{rest aF:Sl}{σ:St}{tg:Tg}{p:PV}(bR:jf kk tg=true)(e:Tg.put tg p (List.replicate kk .no++rest)=.ok aF)(r:SR W H0 aF σ G H):SR W H0 (List.replicate kk .no++rest) σ G H:=by
 have key:∀(j:Nat) (s:Slot),(List.replicate kk Slot.no++rest)[j]?=some s→s≠.no→aF[j]?=some s:=fun j s h hs=>by
  have GN:¬j<kk:=fun z=>by
   rw [List.getElem?_append_left (by simpa using z),List.getElem?_replicate,if_pos z] at h;cases h;exact hs rfl
  unfold Tg.put at e;split at e
  ·cases e;unfold jf at bR;simp only [zzN] at bR;rw [zzS (by omega)];exact h
  ·cases e;unfold jf at bR;simp only [zza,zzN] at bR;rw [zzS (by omega),zzS (by omega)];exact h
  ·cases e;unfold jf at bR;simp only [zza,zzN] at bR;rw [zzS (by omega),zzS (by omega),zzS (by omega)];exact h
  ·cases e
 have hlen:(List.replicate kk Slot.no++rest).length=σ.length:=by
  rw [←r.len];unfold Tg.put at e;split at e<;>first|(cases e;simp;done)|(cases e;done)
 refine⟨hlen,r.sub,r.base,fun j s h=>?_,fun i j p q a e1 e2 e3 e4=>r.apart i j p q a (key i _ e1 (fun z=>nomatch z)) (key j _ e2 (fun z=>nomatch z)) e3 e4,r.tab,r.tab0⟩
 by_cases hs:s=.no
 ·subst hs;have:j<σ.length:=by rw [←hlen];exact(zzH.mp h).1
  exact⟨σ[j],zzg this,trivial⟩
 ·exact r.slot j s (key j s h hs)
end
section
variable{Γ:Pg}{X:Cx}{W:Wd}{F:ba}{N:List Str}{sc:Scope}{k:Nat}
noncomputable def tN(W:Wd)(F:ba)(e:E):TE:=fun σ H Q=>∃H0 G env,SR W H0 env σ G H∧∃p,ax F e env=.ok p∧∀v G' H',aK W G H G' H'→Got W H0 G' H' e p v→Q v H'
noncomputable def KQ(W:Wd)(F:ba)(e:E):TT:=fun σ H Q=>∃H0 G env,SR W H0 env σ G H∧∃b,ax F e env=.ok (.bl b)∧∀G' H',aK W G H G' H'→Q b H'
theorem uU{e:E}(σ:St)(H:Hp)(Q:VK)(h:tN W F e σ H Q):tE X W F e σ H Q:=by
 obtain⟨H0,G,env,sr,p,e1,q⟩:=h
 exact⟨H0,G,env,sr,by rw [e1];exact q⟩
theorem xV{e:E}(σ:St)(H:Hp)(Q:Bool→Hp→Prop)(h:KQ W F e σ H Q):tT X W F e σ H Q:=by
 obtain⟨H0,G,env,sr,p,e1,q⟩:=h
 exact⟨H0,G,env,sr,by rw [e1];exact⟨p,rfl,q⟩⟩
theorem eB(C:dH Γ F W N sc k X){scope:Scope}{kk:Nat}{bf:List Nat}{xs:List Str}(h:kc N sc scope kk bf xs)(fp:List Addr)(s1:Shared)(H1:Hp)(A:Addr):dH Γ.nol F W (xs++freeOf scope) (cZ scope sc) k (bS X (xs++freeOf scope) scope (bF X.env (freeOf scope)) fp s1 H1 A):=
 ⟨rfl,eC C.hsc,rfl,h.nd,C.K,C.mg,C.gs,C.bs,C.room,fun f hf=>⟨(C.fns f hf).ex⟩,C.nov,C.cls,C.xc,fun q hq=>⟨(C.hfs q hq).ex⟩,C.any,(fun z=>nomatch z),(fun z=>nomatch z),(fun z=>nomatch z)⟩
theorem Gq{e:E}{p:Expr}(h:br Γ N sc e p=true)(env:Env):∀x,foldedSetIterable p env x=pure x:=by
 intro x;cases p<;>first|rfl|(cases e<;>first|(exact aq h)|(rename_i q;cases q<;>exact aq h))
theorem iw{tg:Expr}{it:I}{p:Expr}(h:v9 Γ N sc tg it p=true)(env:Env):∀x,foldedSetIterable p env x=pure x:=by
 intro x;cases it with
 |seq e=>exact Gq h env x
 |rng e=>cases p<;>first|rfl|(exact aq h)
 |rng2 a b=>cases p<;>first|rfl|(exact aq h)
 |enum e=>cases p<;>first|rfl|(exact aq h)
def CW(W:Wd)(H0 G1 H1:Hp)(env0:Sl)(f:PV→Res (Option PV))(ps:List PV)(i:Nat)(ys:List V)(σ':St)(H':Hp):Prop:=
 i≤ps.length∧∃G',aK W G1 H1 G' H'∧SR W H0 env0 σ' G' H'∧∃zs,bb f (ps.take i)=.ok zs∧zs.length≤i∧ak W G' zs ys
theorem tY(hK:W.K=X.K){kk:Nat}{bf:List Nat}{tg:Tg}{it:I}{elt:E}{ys:List Str}(bR:jf kk tg=true)(dv:fI elt=true)(hs:bf.map (fun i=>N[i]?)=ys.map some)(nd:ys.Nodup)(σ:St)(H:Hp)(Q:VK)(h:tF X W F (.comp kk bf tg it elt) σ H Q):
 xJ (tI X W F it) kk (gT X.K tg) (tN W F elt) bf σ H Q:=by
 obtain⟨H0,G,env,sr,o⟩:=h
 rw [ax] at o;refine⟨H0,G,env,sr,o.bind.imp fun ps ju J G1 H1 g1 gi=>?_⟩
 by_cases yv:¬ps.length<c8
 ·rw [if_neg yv] at ju;exact ju.elim
 have hl:=Decidable.not_not.mp yv
 rw [if_pos hl] at ju;generalize hf:(fun x=>(tg.put x (List.replicate kk .no++aw env bf)).bind fun aF=>(ax F elt aF).bind fun y=>Res.ok (some y))=f at ju
 cases hc:bb f ps with
 |bad=>rw [hc] at ju;exact ju.elim
 |exc c=>
  exfalso
  have:∀(l:List PV) (c:Str),bb f l≠.exc c:=fun l=>by
   induction l with
   |nil=>intro c z;cases z
   |cons a l ih=>
    intro c z;simp only [bb] at z;rcases Res.bind_exc z with z|⟨o1,_,z⟩
    ·cases e:f a with
     |ok _=>rw [e] at z;cases z
     |exc _=>rw [e] at z;cases z
     |bad=>rw [e] at z;cases z
    ·rcases Res.bind_exc z with z|⟨o2,_,z⟩
     ·exact ih c z
     ·cases z
  exact this _ _ hc
 |ok all=>
  rw [hc] at ju;obtain⟨xs,e1,fin⟩:=ju
  cases e1;have bV:=sr.grow g1
  refine⟨ps.length,CW W H0 G1 H1 (List.replicate kk .no++aw env bf) f ps,⟨Nat.zero_le _,G1,.refl g1.sub,rf kk bV hs nd,[],rfl,zzE _,.nil⟩,?_⟩
  rintro i made σ' H' ⟨hi,G',g',sr',zs,hz,Kw,l⟩
  refine⟨by rw [l.length];exact zzV (zzU Kw hi) (zzW hl (by decide)),?_⟩;obtain⟨ist,igo⟩:=gi.any i G' H' g'.g g'.h g'.sub
  by_cases hlast:i=ps.length
  ·refine .inl ⟨ist hlast,fun p hp=>?_⟩
   rw [hlast,List.take_length,hc] at hz;cases hz;exact fin p made G' H' (g1.trans g') hp l
  ·have iG:i<ps.length:=by omega
   obtain⟨hgo,hyld⟩:=igo ps[i] (zzg iG)
   refine .inr ⟨hgo,iG,fun x lK hy=>?_⟩
   obtain⟨va,g'',rx⟩:=hyld x lK hy
   obtain⟨o1,ho,hnext⟩:=qZ hc (zzg iG) hz
   rw [←hf] at ho;obtain⟨aF,he',ho⟩:=Res.bind_ok ho
   obtain⟨y,AJ,ho⟩:=Res.bind_ok ho
   cases ho;refine rL hK he' (sr'.grow g'') rx fun σ2 eT=>⟨H0,va,aF,eT,y,AJ,fun v G3 H3 g3 t=>?_⟩
   refine⟨iG,G3,g'.trans (g''.trans g3),(iK bR he' eT).grow g3,_,hnext,?_,?_⟩
   ·rw [zzM];show zs.length+1≤i+1;omega
   ·exact(ak.same (g''.trans g3).g zs l).append (.cons (t.rep dv) .nil)
theorem mK(hK:W.K=X.K){kk:Nat}{bf:List Nat}{tg:Tg}{it:I}{c elt:E}{ys:List Str}(bR:jf kk tg=true)(dv:fI elt=true)(hs:bf.map (fun i=>N[i]?)=ys.map some)(nd:ys.Nodup)(σ:St)(H:Hp)(Q:VK)(h:tF X W F (.compIf kk bf tg it c elt) σ H Q):
 jy (tI X W F it) kk (gT X.K tg) (KQ W F c) (tN W F elt) bf σ H Q:=by
 obtain⟨H0,G,env,sr,o⟩:=h
 rw [ax] at o;refine⟨H0,G,env,sr,o.bind.imp fun ps ju J G1 H1 g1 gi=>?_⟩
 by_cases yv:¬ps.length<c8
 ·rw [if_neg yv] at ju;exact ju.elim
 have hl:=Decidable.not_not.mp yv
 rw [if_pos hl] at ju;generalize hf:(fun x=>(tg.put x (List.replicate kk .no++aw env bf)).bind fun aF=>(ax F c aF).bind fun t=>rY t fun t=>if t then(ax F elt aF).bind fun y=>Res.ok (some y) else .ok none)=f at ju
 cases hc:bb f ps with
 |bad=>rw [hc] at ju;exact ju.elim
 |exc c=>
  exfalso
  have:∀(l:List PV) (c:Str),bb f l≠.exc c:=fun l=>by
   induction l with
   |nil=>intro c z;cases z
   |cons a l ih=>
    intro c z;simp only [bb] at z;rcases Res.bind_exc z with z|⟨o1,_,z⟩
    ·cases e:f a with
     |ok _=>rw [e] at z;cases z
     |exc _=>rw [e] at z;cases z
     |bad=>rw [e] at z;cases z
    ·rcases Res.bind_exc z with z|⟨o2,_,z⟩
     ·exact ih c z
     ·cases z
  exact this _ _ hc
 |ok all=>
  rw [hc] at ju;obtain⟨xs,e1,fin⟩:=ju
  cases e1;have bV:=sr.grow g1
  refine⟨ps.length,CW W H0 G1 H1 (List.replicate kk .no++aw env bf) f ps,⟨Nat.zero_le _,G1,.refl g1.sub,rf kk bV hs nd,[],rfl,zzE _,.nil⟩,?_⟩
  rintro i made σ' H' ⟨hi,G',g',sr',zs,hz,Kw,l⟩
  refine⟨by rw [l.length];exact zzV (zzU Kw hi) (zzW hl (by decide)),?_⟩;obtain⟨ist,igo⟩:=gi.any i G' H' g'.g g'.h g'.sub
  by_cases hlast:i=ps.length
  ·refine .inl ⟨ist hlast,fun p hp=>?_⟩
   rw [hlast,List.take_length,hc] at hz;cases hz;exact fin p made G' H' (g1.trans g') hp l
  ·have iG:i<ps.length:=by omega
   obtain⟨hgo,hyld⟩:=igo ps[i] (zzg iG)
   refine .inr ⟨hgo,iG,fun x lK hy=>?_⟩
   obtain⟨va,g'',rx⟩:=hyld x lK hy
   obtain⟨o1,ho,hnext⟩:=qZ hc (zzg iG) hz
   rw [←hf] at ho;obtain⟨aF,he',ho⟩:=Res.bind_ok ho
   obtain⟨t,ht,ho⟩:=Res.bind_ok ho
   obtain⟨b,rfl⟩:∃b,t=.bl b:=by
    cases t<;>first|exact⟨_,rfl⟩|(cases ho)
   refine rL hK he' (sr'.grow g'') rx fun σ2 eT=>⟨H0,va,aF,eT,b,ht,fun G3 H3 g3=>?_⟩
   have iD:(if b=true then(ax F elt aF).bind fun y=>Res.ok (some y) else .ok none)=Res.ok o1:=ho
   cases b with
   |true=>
    rw [if_pos rfl] at iD;refine Mn ?_;obtain⟨y,AJ,iD⟩:=Res.bind_ok iD
    cases iD;refine⟨H0,G3,aF,eT.grow g3,y,AJ,fun v G4 H4 g4 t4=>?_⟩
    refine⟨iG,G4,g'.trans (g''.trans (g3.trans g4)),(iK bR he' eT).grow (g3.trans g4),_,hnext,?_,?_⟩
    ·rw [zzM];show zs.length+1≤i+1;omega
    ·exact(ak.same (g''.trans (g3.trans g4)).g zs l).append (.cons (t4.rep dv) .nil)
   |false=>
    rw [if_neg zzf] at iD;refine MY ?_;cases iD;refine⟨iG,G3,g'.trans (g''.trans g3),(iK bR he' eT).grow g3,_,hnext,?_,?_⟩
    ·rw [zzM];show zs.length+0≤i+1;omega
    ·show ak W G3 (zs++[]) made
     rw [List.append_nil];exact ak.same (g''.trans g3).g zs l
theorem tO(C:dH Γ F W N sc k X){kk:Nat}{bf:List Nat}{tg:Tg}{it:I}{elt:E}{cm eK dA:Expr}{scope:Scope}{pos:Pos}(h:kc N sc scope kk bf (aR cm))(bR:jf kk tg=true)(dv:fI elt=true)(hi:GI X W F cm it eK)(hfs:∀x,foldedSetIterable eK X.env x=pure x)
 (zN:gv (aR cm++freeOf scope) (cZ scope sc) (jY scope) tg cm=true) (he:∀Y,dH Γ.nol F W (aR cm++freeOf scope) (cZ scope sc) k Y→GE Y W F elt dA):GF X W F (.comp kk bf tg it elt) (.ListComp dA [⟨cm,eK,[],0⟩] scope pos):=by
 intro pins s σ H Q I hq;have Fd:(freeOf scope).Nodup:=(List.nodup_append.mp h.nd).2.1
 have rd:=tY (N:=N) C.K bR dv h.slots Fd σ H Q hq
 have:=Cr (g:=gT X.K tg) (te:=tN W F elt) (xs:=aR cm) (ys:=freeOf scope) (is:=bf) (pos:=pos) C.calm (oA C.hN C.hsc I.ok h) hi
  (fun fp s1 H1 A=>zO (fn:=jY scope) (X:=bS X (aR cm++freeOf scope) scope (bF X.env (freeOf scope)) fp s1 H1 A) rfl h.nd (eC C.hsc) rfl (fun _ z=>z) zN)
  (fun fp s1 H1 A=>L2.PE.imp (he _ (eB C h fp s1 H1 A)) fun σ H Q z=>uU σ H Q z) hfs pins s σ H Q I
 rw [h.len] at this;exact this rd
theorem mw(C:dH Γ F W N sc k X){kk:Nat}{bf:List Nat}{tg:Tg}{it:I}{c elt:E}{cm eK pc dA:Expr}{scope:Scope}{pos:Pos}(h:kc N sc scope kk bf (aR cm))(bR:jf kk tg=true)(dv:fI elt=true)(hi:GI X W F cm it eK)(hfs:∀x,foldedSetIterable eK X.env x=pure x)
 (zN:gv (aR cm++freeOf scope) (cZ scope sc) (jY scope) tg cm=true) (hc:∀Y,dH Γ.nol F W (aR cm++freeOf scope) (cZ scope sc) k Y→GT Y W F c pc) (he:∀Y,dH Γ.nol F W (aR cm++freeOf scope) (cZ scope sc) k Y→GE Y W F elt dA):
 GF X W F (.compIf kk bf tg it c elt) (.ListComp dA [⟨cm,eK,[pc],0⟩] scope pos):=by
 intro pins s σ H Q I hq;have Fd:(freeOf scope).Nodup:=(List.nodup_append.mp h.nd).2.1
 have rd:=mK (N:=N) C.K bR dv h.slots Fd σ H Q hq
 have:=wX (g:=gT X.K tg) (tt:=KQ W F c) (te:=tN W F elt) (xs:=aR cm) (ys:=freeOf scope) (is:=bf) (pos:=pos) C.calm (oA C.hN C.hsc I.ok h) hi
  (fun fp s1 H1 A=>zO (fn:=jY scope) (X:=bS X (aR cm++freeOf scope) scope (bF X.env (freeOf scope)) fp s1 H1 A) rfl h.nd (eC C.hsc) rfl (fun _ z=>z) zN)
  (fun fp s1 H1 A=>L2.PT.imp (hc _ (eB C h fp s1 H1 A)) fun σ H Q z=>xV σ H Q z)
  (fun fp s1 H1 A=>L2.PE.imp (he _ (eB C h fp s1 H1 A)) fun σ H Q z=>uU σ H Q z) hfs pins s σ H Q I
 rw [h.len] at this;exact this rd
end
section
variable{W:Wd}{Z:List (Addr×Obj)}{G H:Hp}
mutual
theorem Rep.less(zs:∀b o,Z.lookup b=some o→G b=some (.frz o bG)):∀(p:PV) {v:V},Rep W G p v→Rep W (bg Z G) p v
 |.non,_,h=>by simpa only [Rep] using h
 |.bl b,_,h=>by simpa only [Rep] using h
 |.int i,_,h=>by simpa only [Rep] using h
 |.str z,_,h=>by simpa only [Rep] using h
 |.tup xs,_,h=>by
  simp only [Rep] at h⊢;obtain⟨a,vs,e,q,l⟩:=h
  refine⟨a,vs,e,?_,ak.less zs xs l⟩;rcases q with q|⟨(q|⟨o,q⟩)|q,z⟩
  ·cases y:Z.lookup a with
   |none=>exact .inl (by rw [aC y];exact q)
   |some o'=>rw [zs a o' y] at q;cases q
  ·cases y:Z.lookup a with
   |none=>exact .inl (by rw [aC y];exact q)
   |some o'=>rw [zs a o' y] at q;cases q
  ·cases y:Z.lookup a with
   |none=>exact .inr ⟨.inl (.inr ⟨o,by rw [aC y];exact q⟩),z⟩
   |some o'=>rw [zs a o' y] at q;cases q
  ·exact .inr ⟨.inr q,z⟩
 |.lst xs,_,h=>by
  simp only [Rep] at h⊢;obtain⟨a,vs,e,q,l⟩:=h
  refine⟨a,vs,e,?_,ak.less zs xs l⟩;rcases q with(q|⟨o,q⟩)|q
  ·cases y:Z.lookup a with
   |none=>exact .inl (.inl (by rw [aC y];exact q))
   |some o'=>rw [zs a o' y] at q;cases q
  ·cases y:Z.lookup a with
   |none=>exact .inl (.inr ⟨o,by rw [aC y];exact q⟩)
   |some o'=>rw [zs a o' y] at q;cases q
  ·exact .inr q
 |.exc c,_,h=>by
  simp only [Rep] at h⊢;obtain⟨a,C,e,x,m,q⟩:=h
  cases y:Z.lookup a with
  |none=>exact⟨a,C,e,x,m,by rw [aC y];exact q⟩
  |some o'=>
   rw [zs a o' y] at q;unfold Iq at q;cases q
 |.dct ks vs,_,h=>by
  simp only [Rep] at h⊢;obtain⟨a,o,us,e,n,m,l⟩:=h
  refine⟨a,o,us,e,n,?_,ak.less zs vs l⟩;cases y:Z.lookup a with
  |none=>rw [aC y];exact m
  |some o'=>rw [zs a o' y] at m;cases m
theorem ak.less(zs:∀b o,Z.lookup b=some o→G b=some (.frz o bG)):∀(ps:List PV) {vs:List V},ak W G ps vs→ak W (bg Z G) ps vs
 |[],_,h=>by simpa only [ak] using h
 |p::ps,_,h=>by
  simp only [ak] at h⊢;obtain⟨v,r,e,h1,h2⟩:=h
  exact⟨v,r,e,Rep.less zs p h1,ak.less zs ps h2⟩
end
theorem kF(t:cy W G H)(sg:aG G H)(zs:∀b o,Z.lookup b=some o→G b=some (.frz o bG))(zc:∀b o,Z.lookup b=some o→∃v,o.data=.cell v):cy W (bg Z G) (bg Z H):=fun P q m=>by
 obtain⟨n,ps,e,tr,al⟩:=t P q m
 refine⟨gM n,ps,?_,tr,fun pos cv y=>?_⟩
 ·cases y:Z.lookup P with
  |none=>rw [aC y];exact e
  |some o=>rw [sg _ _ (zs P o y)] at e;cases e
 ·obtain⟨c',oc,cU,t',e1,e2,e3,e4⟩:=al pos cv y
  refine⟨c',oc,cU,t',e1,?_,e3,e4⟩;cases y:Z.lookup c' with
  |none=>rw [aC y];exact e2
  |some o=>
   rw [zs c' o y] at e2;cases e2;obtain⟨v,hv⟩:=zc c' _ y
   rw [e3] at hv;cases hv
theorem aK.wz{G3 H3:Hp}(g:aK W (bg Z G) (bg Z H) G3 H3)(sg:aG G H)(zs:∀b o,Z.lookup b=some o→G b=some (.frz o bG))(zc:∀b o,Z.lookup b=some o→∃v,o.data=.cell v)(zn:∀b o,Z.lookup b=some o→H3 b=none):aK W G H (withZ Z G3) (withZ Z H3) where
 g:=fun b u e=>by
  cases y:Z.lookup b with
  |none=>rw [aj y];exact g.g _ _ (by rw [aC y];exact e)
  |some o=>rw [bh y];rw [zs b o y] at e;exact e
 h:=fun b u e=>by
  cases y:Z.lookup b with
  |none=>rw [aj y];exact g.h _ _ (by rw [aC y];exact e)
  |some o=>
   rw [sg _ _ (zs b o y)] at e;cases e;exact .inl ⟨(fun _ z=>nomatch z),bh y⟩
 sub:=fun b u e=>by
  cases y:Z.lookup b with
  |none=>rw [aj y] at e⊢;exact g.sub _ _ e
  |some o=>rw [bh y] at e⊢;exact e
 own:=fun a h1 h3 h2=>by
  cases y:Z.lookup a with
  |none=>rw [aj y];exact g.own a (by rw [aC y];exact h1) (by rw [aC y];exact h3) (by rw [aC y];exact h2)
  |some o=>rw [zs a o y] at h2;cases h2
 tab:=fun t P q m=>by
  obtain⟨n,ps,e,tr,al⟩:=g.tab (kF t sg zs zc) P q m
  refine⟨?_,ps,?_,tr,fun pos cv y=>?_⟩
  ·cases y:Z.lookup P with
   |none=>rw [aj y];exact n
   |some o=>rw [zn P o y] at e;cases e
  ·cases y:Z.lookup P with
   |none=>rw [aj y];exact e
   |some o=>rw [zn P o y] at e;cases e
  ·obtain⟨c',oc,cU,t',e1,e2,e3,e4⟩:=al pos cv y
   refine⟨c',oc,cU,t',e1,?_,e3,e4⟩;cases y:Z.lookup c' with
   |none=>rw [aj y];exact e2
   |some o=>have:=g.sub _ _ e2;rw [zn c' o y] at this;cases this
theorem qH(t:cy W G H)(sg:aG G H)(zn:∀b o,Z.lookup b=some o→H b=none):cy W (withZ Z G) (withZ Z H):=fun P q m=>by
 obtain⟨n,ps,e,tr,al⟩:=t P q m
 refine⟨?_,ps,?_,tr,fun pos cv y=>?_⟩
 ·cases y:Z.lookup P with
  |none=>rw [aj y];exact n
  |some o=>rw [zn P o y] at e;cases e
 ·cases y:Z.lookup P with
  |none=>rw [aj y];exact e
  |some o=>rw [zn P o y] at e;cases e
 ·obtain⟨c',oc,cU,t',e1,e2,e3,e4⟩:=al pos cv y
  refine⟨c',oc,cU,t',e1,?_,e3,e4⟩;cases y:Z.lookup c' with
  |none=>rw [aj y];exact e2
  |some o=>have:=sg _ _ e2;rw [zn c' o y] at this;cases this
theorem aK.lz{G' H':Hp}(g:aK W (withZ Z G) (withZ Z H) G' H')(sg:aG G H)(zc:∀b o,Z.lookup b=some o→∃v,o.data=.cell v)(zn:∀b o,Z.lookup b=some o→H b=none):aK W G H (bg Z G') (bg Z H') where
 g:=fun b u e=>by
  cases y:Z.lookup b with
  |none=>rw [aC y];exact g.g _ _ (by rw [aj y];exact e)
  |some o=>have:=sg _ _ e;rw [zn b o y] at this;cases this
 h:=fun b u e=>by
  cases y:Z.lookup b with
  |none=>rw [aC y];exact g.h _ _ (by rw [aj y];exact e)
  |some o=>rw [zn b o y] at e;cases e
 sub:=fun b u e=>by
  obtain⟨q,e1⟩:=dP e
  rw [aC q];exact g.sub _ _ e1
 own:=fun a h1 h3 h2=>by
  cases y:Z.lookup a with
  |none=>rw [aC y];exact g.own a (by rw [aj y];exact h1) (by rw [aj y];exact h3) (by rw [aj y];exact h2)
  |some o=>exact eF y
 tab:=fun t=>kF (g.tab (qH t sg zn)) g.sub (fun b o q=>g.g _ _ (bh q)) zc
theorem vQ(sg:aG G H):aG (withZ Z G) (withZ Z H):=fun b u e=>by
 cases y:Z.lookup b with
 |none=>rw [aj y] at e⊢;exact sg _ _ e
 |some o=>rw [bh y] at e⊢;exact e
theorem rG{G3 H3:Hp}(s:aG G3 H3)(zn:∀b o,Z.lookup b=some o→H3 b=none):aG G3 (withZ Z G3):=fun b u e=>by
 cases y:Z.lookup b with
 |none=>rw [aj y];exact e
 |some o=>have:=s _ _ e;rw [zn b o y] at this;cases this
theorem qU(zs:∀b o,Z.lookup b=some o→H b=some (.frz o bG)):withZ Z (bg Z H)=H:=by
 funext b
 cases y:Z.lookup b with
 |none=>rw [aj y,aC y]
 |some o=>rw [bh y,zs b o y]
theorem qX(zs:∀b o,Z.lookup b=some o→H b=none):bg Z (withZ Z H)=H:=by
 funext b
 cases y:Z.lookup b with
 |none=>rw [aC y,aj y]
 |some o=>rw [eF y,zs b o y]
theorem xm{P:Program}{w:World}{h:Heap}(k:dU P w H h)(zs:∀b o,Z.lookup b=some o→H b=some (.frz o bG)):dU P w (bg Z H) h:=fun b v e=>by
 obtain⟨q,e1⟩:=dP e
 refine(k b v e1).stay (fun c y _ r=>r) (fun c r=>?_) fun c xs r=>?_
 ·cases y:Z.lookup c with
  |none=>rw [aC y];exact r
  |some o=>rw [zs c o y] at r;cases r
 ·cases y:Z.lookup c with
  |none=>rw [aC y];exact r
  |some o=>rw [zs c o y] at r;cases r
theorem v8{P:Program}{w:World}{K:PySem.W.Frag}{mg:Str→Option Value}{base:Heap}{A:Around}{outer:List Env}{s:Shared}(e:g8 P w K mg base A outer s H)(zs:∀b o,Z.lookup b=some o→H b=some (.frz o bG)):g8 P w K mg base A outer s (bg Z H):=
 ⟨e.frames,e.mod,fun b o q=>⟨(e.bs b o q).1,gM (e.bs b o q).2⟩,e.bsz,e.funs,fun b hb=>gM (e.frf b hb),xm e.hok zs,e.bare⟩
theorem xo{ps:List Str}{scope:Scope}(h:KR ps scope=true):qb ps (bt scope) scope:=by
 unfold KR at h;simp only [zza,beq_iff_eq,Bool.not_eq_true',zzN,zzT] at h;obtain⟨⟨⟨⟨⟨⟨h1,h2⟩,h3⟩,h4⟩,h5⟩,h6⟩,h7⟩:=h
 refine⟨h1,h2,h3,h4,h5,h6,h7,fun x hx=>?_⟩
 unfold bt;rw [List.mem_reverse,List.mem_map];exact⟨(x,.free),List.mem_filter.mpr ⟨PySem.mem_of_lookup hx,rfl⟩,rfl⟩
theorem uz{params:Arguments}{ps:List Str}{qual:Str}{body:Expr}{scope:Scope}{cl:List (Str×Addr)}{pm e9 ct:Value}(h:o9 params=some ps)(us:List Value)(hl:us.length=ps.length):bindArgs (PySem.W.kla_fn "<lambda>" qual params body scope cl pm e9 ct) ⟨us,[]⟩=pure (ps.zip us):=by
 rcases uD h with⟨rfl,rfl⟩|⟨a,rfl,rfl⟩
 ·match us,hl with
  |[],_=>rfl
 ·match us,hl with
  |[u],_=>
   simp [bindArgs,seqItems?,PySem.W.kla_fn]
   rfl
theorem AG{params:Arguments}{ps:List Str}{env:Env}(h:o9 params=some ps):defaultsOf params env=([],[]):=by
 rcases uD h with⟨rfl,rfl⟩|⟨a,rfl,rfl⟩
 ·rfl
 ·rfl
theorem mE:∀{idx:List Nat} {l qs:List PV} {us:List V},fK l idx=.ok qs→ak W G l us→∃vs:List V,ak W G qs vs∧vs.length=idx.length∧∀(j i:Nat),idx[j]?=some i→∃v,us[i]?=some v∧vs[j]?=some v
 |[],l,qs,us,h,r=>by
  unfold fK at h;cases h;exact⟨[],.nil,rfl,fun j i e=>by simp at e⟩
 |i::idx,l,qs,us,h,r=>by
  unfold fK at h;obtain⟨p,hp,h⟩:=Res.bind_ok h
  obtain⟨ps,ju,h⟩:=Res.bind_ok h
  cases h;obtain⟨v,hv,rv⟩:=r.getP (Res.of_ok hp)
  obtain⟨vs,l1,l2,l3⟩:=mE ju r
  refine⟨v::vs,.cons rv l1,by simp [l2],fun j k e=>?_⟩
  cases j with
  |zero=>simp at e;subst e;exact⟨v,hv,rfl⟩
  |succ j=>simpa using l3 j k (by simpa using e)
theorem ja{l:List PV}(c:Str):∀{idx:List Nat},fK l idx≠.exc c
 |[]=>fun z=>nomatch z
 |i::idx=>fun z=>by
  unfold fK at z;rcases Res.bind_exc z with z|⟨p,_,z⟩
  ·exact Res.of_noexc c z
  ·rcases Res.bind_exc z with z|⟨ps,_,z⟩
   ·exact ja c z
   ·cases z
end
def yr(idx:List Nat):TA:=fun σ H Q=>∃vs:List V,vs.length=idx.length∧(∀(j i:Nat),idx[j]?=some i→∃v,σ[i]?=some (some v)∧vs[j]?=some v)∧Q vs H
theorem qr{a:Expr}{as:List Expr}{xs:List (Option Str)}(h:eg (a::as) xs=true):∃x np,a=.Name x np∧∃HD,eg as HD=true:=by
 cases xs with
 |nil=>cases a<;>exact aq h
 |cons y ys=>
  cases y with
  |none=>cases a<;>exact aq h
  |some y=>
   cases a with
   |Name x np=>exact⟨x,np,rfl,ys,(Bool.and_eq_true_iff.mp h).2⟩
   |_=>exact aq h
theorem kH{env:Env}:∀{as:List Expr} {xs:List (Option Str)} {pos:Pos},eg as xs=true→(backTo pos (starEach as env)).any (·.1)=false
 |[],_,_,_=>rfl
 |a::as,xs,pos,h=>by
  obtain⟨x,np,rfl,HD,h2⟩:=qr h
  show(false||(backTo pos (starEach as env)).any (·.1))=false
  rw [kH h2]
  rfl
theorem qB{X:Cx}(hv:∀(i:Nat) (x:Str),X.N[i]?=some x→IE X.env.scope x):∀{as:List Expr} {idx:List Nat},eg as (idx.map fun i=>X.N[i]?)=true→PA X as (yr idx)
 |[],[],_=>L2.PA.imp d8 fun σ H Q h=>by
  obtain⟨vs,h1,_,h3⟩:=h
  cases vs with
  |nil=>exact h3
  |cons _ _=>simp at h1
 |a::as,i::idx,h=>by
  rw [zzF] at h;cases e:X.N[i]? with
  |none=>rw [e] at h;cases a<;>exact aq h
  |some y=>
   rw [e] at h;cases a<;>first|(exact aq h)|skip
   rename_i x np;unfold eg at h;rw [zza,zza] at h;have LV:=beq_iff_eq.mp h.1.1
   subst LV;have NZ:(x==("__debug__":Str))=false∧(x==("__classdict__":Str))=false:=by
    have h2:=h.1.2
    unfold okN at h2;simp only [zza,Bool.not_eq_true'] at h2;exact⟨h2.1.1,h2.1.2⟩
   refine L2.PA.imp (cA (d9 (i:=i) e (hv i x e) NZ.1 NZ.2) (qB hv h.2) rfl) fun σ H Q hq=>?_
   obtain⟨vs,h1,h2,h3⟩:=hq
   cases vs with
   |nil=>simp at h1
   |cons v vs=>
    obtain⟨v',hv1,hv2⟩:=h2 0 i rfl
    simp at hv2;subst hv2;exact⟨v,hv1,vs,by simpa using h1,fun j k ej=>by simpa using h2 (j+1) k (by simpa using ej),h3⟩
 |[],_::_,h=>by cases h
 |a::_,[],h=>by cases a<;>cases h
section
variable{Γ:Pg}{X:Cx}{W:Wd}{F:ba}{N:List Str}{sc:Scope}{k:Nat}
theorem uv{g:Str}{idx:List Nat}{params:Arguments}{body:Expr}{scope:Scope}(h:Bm g idx params body scope=true):∃ps a as np pos,o9 params=some ps∧idx.head?=some ps.length∧body=.Call (.Name g np) (a::as) [] pos∧scope.names.lookup g=some .globalImplicit∧okN g=true∧gO g=false∧eg (a::as) (idx.tail.map fun i=>(ps++bt scope)[i]?)=true∧qb ps (bt scope) scope:=by
 obtain⟨ps,e1,h⟩:=xG h
 obtain⟨⟨f,args,mJ,pos⟩,e2,h⟩:=xG h
 simp only [zza,beq_iff_eq,Bool.not_eq_true',zzN] at h;obtain⟨⟨⟨⟨⟨⟨⟨⟨h1,h7⟩,h8⟩,h0⟩,h2⟩,h3⟩,h4⟩,h5⟩,h6⟩:=h
 obtain⟨np,z1⟩:=cD h1
 have z7:=List.isEmpty_iff.1 h7
 try dsimp only at z1 z7
 subst z1 z7;cases args with
 |nil=>cases h8
 |cons a as=>exact⟨ps,a,as,np,pos,e1,h0,o6 e2,h2,h3,h4,h5,xo h6⟩
theorem rH{a:Expr}{as:List Expr}{xs:List (Option Str)}{env:Env}(h:eg (a::as) xs=true):∃x np,a=.Name x np∧∃HD,eg as HD=true:=qr h
theorem A7(C:dH Γ F W N sc k X){g:Str}{idx:List Nat}{cK as qs:List PV}{f:Addr}{pins:List (Addr×Obj)}{σ:St}{G H:Hp}{s:Shared}{Q:VK}{us:List Value}{vs:List V}
 (I:Inv X pins σ H s) (sg:aG G H) (tb:cy W G H) (cr:oG W G g idx cK (.ref f)) (l:ak W G as vs) (r:Vals vs us) (hn:idx.head?=some as.length) (hq:fK (as++cK) idx.tail=.ok qs)
 (o:Out X W (F g qs) σ G H fun p=>c7 W G H p Q):wpAny (model X.prog X.w) X.A (call (.ref f) us) (EP X pins σ Q) X.xe s:=by
 obtain⟨f',c',oc,cU,t,eX,pm,params,body,scope,qual,cl,Z,ws,e,d⟩:=cr
 cases e;obtain⟨ps,a,as',np,pos,e1,e0,rfl,e2,e3,e4,e5,S⟩:=uv d.lg
 have zV:F g qs≠.bad:=fun z=>by rw [z] at o;exact o
 have hlen:as.length=ps.length:=Option.some.inj (hn.symm.trans e0)
 have Jt:∀b o,Z.lookup b=some o→H b=some (.frz o bG):=fun b o q=>sg _ _ (d.zs b o q)
 have OM:withZ Z (bg Z H)=H:=qU Jt
 have A5:sO Z (bg Z H) (eo X.stack) s.heap:=⟨fun b o q=>(I.hok b _ (Jt b o q)).1,fun b o q=>eF q,fun b o q hb=>by have:=I.stkFree b hb;rw [Jt b o q] at this;cases this⟩
 have rl:ak W (bg Z G) (as++cK) (vs++ws):=(ak.less d.zs as l).append d.rep
 obtain⟨ys,ry,ly,py⟩:=mE hq rl
 have hfs:Γ.fs.contains g=true:=by
  rcases C.any g qs zV with z|z
  ·exact z
  ·rw [e4] at z;cases z
 obtain⟨fa,fd,pn,FO,hm,hk,hb,hal⟩:=(C.fns g hfs).ex
 have Ou:aG (bg Z G) (bg Z H):=mq sg
 refine wpAny_call (codeAny_mono (L2.lam_run (E:=fun Cv ao H'=>∃c,F g qs=.exc c∧XE W c G H Cv ao H') (Q:=Q) (Z:=Z) (ws:=ws) (vs:=vs) (t:=fun σ' H1 Q1=>H1=bg Z H∧yr idx.tail σ' H1 fun zs H2=>H2=H1∧zs=ys∧∀u H3,(match F g qs with
  |.ok p=>∃G3,aK W (bg Z G) (bg Z H) G3 H3∧Rep W G3 p u
  |_=>False)→Q1 u H3) S C.room (v8 I.env0 Jt) A5 ?zb (I.hok _ _ (sg _ _ d.fo)).1 (I.hok _ _ (sg _ _ d.co)).1 d.cd d.cn (uz e1 us (by rw [←r.length,l.length,hlen])) r (by rw [l.length,hlen]) d.len d.has d.inj d.cells ?cells ?ht ?hq) fun rr s' hr=>?end_)
 case zb=>
  intro b o q;cases y:X.base.get? b with
  |none=>rfl
  |some o'=>have:=(I.bs b o' y).2;rw [Jt b o q] at this;cases this
 case cells=>
  intro i y c h1 h2 v h3;obtain⟨u,o',q1,q2,q3⟩:=d.vals i y c h1 h2 v h3
  exact⟨u,q1,o',A5.at_ c o' q2,q3⟩
 case hq=>
  refine⟨rfl,ys,ly,fun j i ej=>?_,rfl,rfl,fun u H3 h3 zn=>?_⟩
  ·obtain⟨v,h1,h2⟩:=py j i ej
   refine⟨v,?_,h2⟩;rw [←List.map_append,zzQ,h1]
   rfl
  ·cases z:F g qs with
   |ok p=>
    rw [z] at h3 o;obtain⟨G3,g3,r3⟩:=h3
    exact o u _ _ (g3.wz sg d.zs d.zc zn) (Rep.same (rG g3.sub zn) p r3)
   |exc c=>rw [z] at h3;exact h3.elim
   |bad=>exact absurd z zV
 case ht=>
  intro uQ s1 σ' H1 Q1 I1 h1;obtain⟨rfl,h1⟩:=h1
  obtain⟨x0,np0,rfl,HD,hrest⟩:=rH (env:=X.env) e5
  refine wpAny_Call_Name_kw (fV (X:=DD X.prog X.w X.K X.mg X.base (ps++bt scope) qual scope f (.ref c') cl X.A X.stack s (bg Z H) _) I1 e2 hm ?_ (cY e3).1);refine PySem.W.callWith_K (h₀:=X.base) I.ok.mod.kin hk (bJ (qB (X:=DD X.prog X.w X.K X.mg X.base (ps++bt scope) qual scope f (.ref c') cl X.A X.stack s (bg Z H) _) (fun i x hx=>?_) e5 pos uQ s1 σ' _ _ I1 h1) fun us2 s2 ⟨vs2,H2,I2,r2,q2⟩=>⟨I2.kIn,?_⟩) rfl (kH hrest)
  ·rcases List.mem_append.mp (zzD hx) with z|z
   ·exact .inl (S.par x z)
   ·exact .inr (.inr (S.fre x z))
  ·obtain⟨rfl,rfl,q2⟩:=q2
   refine k7 (X:=DD X.prog X.w X.K X.mg X.base (ps++bt scope) qual scope f (.ref c') cl X.A X.stack s (bg Z H) _) (q:=none) (as:=qs) (G:=bg Z G) (C.room.deeper _) FO hb (fun z=>by rw [ry.length];exact hal qs z) I2 Ou (kF tb sg d.zs d.zc) ry r2 ?_;cases z:F g qs with
   |ok p=>
    rw [z] at q2;exact fun v G' H' g' rp=>q2 v H' ⟨G',g',rp⟩
   |exc c=>
    intro pins3 G3 H3 s3 e s' I3 g3 x3;refine HY pins3 σ' H3 s3 e s' I3 (AY.imp x3 fun Cv ao H' y zn=>?_);obtain⟨C4,a4,G4,y1,y2,y3,y4,y5⟩:=y
    exact⟨c,rfl,C4,a4,_,y1,y2,y3,y4,(g3.trans y5).wz sg d.zs d.zc zn⟩
   |bad=>exact absurd z zV
 case end_=>
  rw [OM] at hr;cases rr with
  |error e=>
   have hr:dF X.prog X.w X.stack H s (fun Cv ao H'=>∃c,F g qs=.exc c∧XE W c G H Cv ao H') e s':=hr
   cases z:F g qs with
   |ok q=>
    obtain⟨a,C',t,vs,H',B,rfl,Fl⟩:=hr
    obtain⟨c,e1,_⟩:=Fl.ends
    rw [z] at e1;cases e1
   |exc c=>
    rw [z] at o;refine o pins G H s e s' I (.refl sg) (AY.imp hr fun C1 a H' y=>?_);obtain⟨c',e1,y⟩:=y
    rw [z] at e1;cases e1;exact y
   |bad=>exact absurd z zV
  |ok fl=>
   cases fl with
   |ret u=>exact I.after hr
   |next=>exact False.elim hr
   |brk=>exact False.elim hr
   |cont=>exact False.elim hr
end
section
variable{Γ:Pg}{X:Cx}{W:Wd}{F:ba}{N:List Str}{sc:Scope}{k:Nat}
theorem y7(C:dH Γ F W N sc k X){i:Nat}{x:Str}{e:E}{es:Es}{p:Expr}{ps:List Expr}{np pos:Pos}(h:(N[i]?==some x&&dB sc x&&okN x)=true)(zY:gr (.cons e es)=true)(ha:GA X W F (.cons e es) (p::ps))
 (df:starEach (p::ps) X.env=(false,eval p X.env)::starEach ps X.env) (hpl:(backTo pos (starEach ps X.env)).any (·.1)=false):GE X W F (.callv i (.cons e es)) (.Call (.Name x np) (p::ps) [] pos):=by
 simp only [zza,beq_iff_eq] at h;obtain⟨h1,h2,h3⟩:=cY h.2
 intro pins s σ H Q I hq;obtain⟨H0,G,env,sr,o⟩:=hq
 rw [ax] at o;cases e1:env[i]? with
 |none=>rw [e1] at o;exact o.elim
 |some sl=>
  cases sl with
  |no=>rw [e1] at o;exact o.elim
  |val _=>rw [e1] at o;exact o.elim
  |own _=>rw [e1] at o;exact o.elim
  |fn g idx cK=>
   rw [e1] at o;obtain⟨o2,hs,v,rfl,cr⟩:=sr.slot i _ e1
   have OA:=cr
   obtain⟨f,c',oc,cU,t,eX,pm,params,body,scope,qual,cl,Z,ws,e2,d⟩:=OA
   subst e2;refine wpAny_Call_Name_kw (wpAny_mono (d9 (i:=i) (by rw [C.hN];exact h.1.1) (lx C h.1.2) h1 h2 pins s σ H (fun v' H1=>v'=.ref f∧H1=H) I ⟨_,hs,rfl,rfl⟩) (fun u s1 hu=>?_) fun _ _ y=>y)
   obtain⟨v',H1,I1,ru,rfl,rfl⟩:=hu
   cases ru;refine PySem.W.callWith_F ⟨_,_,_,_,(I1.hok _ _ (sr.sub _ _ d.fo)).1⟩ (bJ (ha pos pins s1 σ H1 (fun vs H2=>∃G2 as qs,aG G2 H2∧cy W G2 H2∧ak W G2 as vs∧oG W G2 g idx cK (.ref f)∧G2 f=some (.frz (PySem.W.kla_obj "<lambda>" qual params body scope cl pm c' eX) bG)∧idx.head?=some as.length∧fK (as++cK) idx.tail=.ok qs∧Out X W (F g qs) σ G2 H2 fun p=>c7 W G2 H2 p Q) I1 ?_) fun us s2 ⟨vs,H2,I2,r,q⟩=>?_) df hpl
   ·refine args sr o fun as vs G1 H2 g1 t1 bV o1=>?_
    split at o1
    ·rename_i hn;cases hq:fK (as++cK) idx.tail with
     |ok qs=>
      rw [hq] at o1;have qt:Out X W (F g qs) σ G1 H2 _:=o1
      exact⟨G1,as,qs,bV.sub,bV.tab,t1.rep zY,cr.same g1.g,g1.g _ _ d.fo,hn,hq,qt.imp fun p hp v G' H' g' rp=>hp v G' H' (g1.trans g') (.of rp)⟩
     |exc c=>exact absurd hq (ja c)
     |bad=>rw [hq] at o1;exact o1.elim
    ·exact o1.elim
   ·obtain⟨G2,as,qs,sg,tb,l,cr2,fo2,hn,hqs,o2⟩:=q
    exact⟨⟨_,_,_,_,(I2.hok _ _ (sg _ _ fo2)).1⟩,A7 C I2 sg tb cr2 l r hn hqs o2⟩
def oJ(X:Cx)(W:Wd)(params:Arguments)(body:Expr)(scope:Scope)(cl:List (Str×Addr))(G1 H1 G2 H2:Hp)(f:Addr):Prop:=aK W G1 H1 G2 H2∧∃c' oc cU t eX pm,G2 f=some (.frz (PySem.W.kla_obj "<lambda>" (X.env.qual++"<lambda>") params body scope cl pm c' eX) bG)∧G2 c'=some (.frz oc bG)∧oc.data=.fields cU∧cU[1]?=some (.str (X.env.qual++"<lambda>") t)
theorem yN(C:dH Γ F W N sc k X)(hl:Γ.hl=true){params:Arguments}{ps:List Str}{body:Expr}{scope:Scope}{pos:Pos}{cl:List (Str×Addr)}(hp:o9 params=some ps)(DC:closureFor scope X.env=pure cl):
 PE X (.Lambda params body scope pos) (fun σ H Q=>∃G,aG G H∧cy W G H∧∀f G2 H2,oJ X W params body scope cl G H G2 H2 f→Q (.ref f) H2):=by
 intro pins s σ H Q I h;obtain⟨G,sg,tb,q⟩:=h
 obtain⟨c,P,ux,CH,hts,huq⟩:=C.tb hl
 obtain⟨nG,kP,hP,tr,al⟩:=tb P _ hts
 refine L2.lam_make (R:=fun c' oc=>G c'=some (.frz oc bG)) I hP tr ux CH (C.bm hl) DC (AG hp) (fun cv e=>?_) fun f c' oc cU t eX pO h' tk hf hc HP OV ON hd hv Qi O4 more I'=>?_
 ·obtain⟨c',oc,cU,t,e1,e2,e3,e4⟩:=al pos cv e
  exact⟨c',oc,cU,t,e1,sg _ _ e2,e2,e3,e4⟩
 ·have Pn:G f=none:=sg.free hf
  have Oo:G c'=none∨G c'=some (.frz oc bG):=by
   rcases hc with z|z
   ·exact .inl (sg.free z)
   ·exact .inr z.2
  have fo:∀fo,fv H P pO c' oc f fo f=some (.frz fo bG):=fun fo=>by unfold fv;rw [au]
  have sG:∀fo,aG G (upd (upd G c' (.frz oc bG)) f (.frz fo bG)):=fun fo b u e=>by
   have Cb:b≠f:=fun z=>by rw [z,Pn] at e;cases e
   rw [af Cb]
   by_cases hb:b=c'
   ·subst hb;rw [au];rcases Oo with z|z
    ·rw [z] at e;cases e
    ·rw [z] at e;exact e
   ·rw [af hb];exact e
  have Mx:∀fo a,H a≠none→(∀vs,H a≠some (.tup vs))→G a=none→(upd (upd G c' (.frz oc bG)) f (.frz fo bG)) a=none:=fun fo a h1 _ h2=>by
   have Po:a≠f:=fun z=>h1 (by rw [z];exact hf)
   rw [af Po]
   by_cases ha:a=c'
   ·subst ha;rcases hc with z|z
    ·exact absurd z h1
    ·rw [z.2] at h2;cases h2
   ·rw [af ha];exact h2
  refine⟨.ref f,_,I',rfl,q f (upd (upd G c' (.frz oc bG)) f (.frz _ bG)) _ ⟨⟨sG _,fun b u e=>?_,fun b u e=>?_,Mx _,fun _ P' q' m=>?_⟩,c',oc,cU,t,eX,(X.mg "__name__").getD .none,au,by rw [af HP,au],hd,hv⟩⟩
  ·have Cb:b≠f:=fun z=>by rw [z,hf] at e;cases e
   by_cases Hv:b=P
   ·subst Hv;rw [hP] at e;cases e;obtain⟨m,rfl⟩:=more
    exact .inr ⟨kP,m,rfl,by unfold fv;rw [af (Ne.symm OV),af (Ne.symm ON),au]⟩
   ·have e2:fv H P pO c' oc f (PySem.W.kla_obj "<lambda>" (X.env.qual++"<lambda>") params body scope cl ((X.mg "__name__").getD .none) c' eX) b=H b:=by
     unfold fv;rw [af Cb]
     by_cases hb:b=c'
     ·subst hb;rw [au];rcases hc with z|z
      ·rw [z] at e;cases e
      ·rw [z.1]
     ·rw [af hb,af Hv]
    rw [e2];exact gA.refl H b u e
  ·by_cases Cb:b=f
   ·subst Cb;rw [au] at e;rw [fo];exact e
   ·rw [af Cb] at e;unfold fv;rw [af Cb]
    by_cases hb:b=c'
    ·subst hb;rw [au] at e⊢;exact e
    ·rw [af hb] at e⊢;have Hv:b≠P:=fun z=>by rw [z,nG] at e;cases e
     rw [af Hv];exact sg _ _ e
  ·obtain⟨n1,qs,Aw,tr1,al1⟩:=tb P' q' m
   have MU:P'≠f:=fun z=>by rw [z,hf] at Aw;cases Aw
   have f6:P'≠c':=fun z=>by
    rcases hc with y|y
    ·rw [z,y] at Aw;cases Aw
    ·rw [z,y.1] at Aw;cases Aw
   refine⟨by rw [af MU,af f6];exact n1,?_⟩
   by_cases hPP:P'=P
   ·subst hPP;rw [hP] at Aw;cases Aw;refine⟨pO,by unfold fv;rw [af MU,af f6,au],Qi,fun pos' cv y=>?_⟩
    rcases O4 pos' cv y with y|y
    ·obtain⟨c2,oc2,cvs2,t2,e1,e2,e3,e4⟩:=al1 pos' cv y
     exact⟨c2,oc2,cvs2,t2,e1,sG _ _ _ e2,e3,e4⟩
    ·exact⟨c',oc,cU,t,y,by rw [af HP,au],hd,by rw [huq q' m];exact hv⟩
   ·refine⟨qs,by unfold fv;rw [af MU,af f6,af hPP];exact Aw,tr1,fun pos' cv y=>?_⟩
    obtain⟨c2,oc2,cvs2,t2,e1,e2,e3,e4⟩:=al1 pos' cv y
    exact⟨c2,oc2,cvs2,t2,e1,sG _ _ _ e2,e3,e4⟩
end
section
variable{Γ:Pg}{X:Cx}{W:Wd}{F:ba}{N:List Str}{sc:Scope}{k:Nat}
structure zo(N:List Str)(sc:Scope)(g:Str)(idx bf:List Nat)(params:Arguments)(body:Expr)(scope:Scope):Prop where
 lb:Bm g idx params body scope=true
 cn:bf.map (fun i=>N[i]?)=(bt scope).map some
 cc:∀y∈bt scope,sc.names.lookup y=some .cell
noncomputable def Kd(X:Cx)(W:Wd)(F:ba)(N:List Str)(sc:Scope)(g:Str)(idx bf:List Nat)(es:Es):TA:=fun σ H Q=>∃H0 G env,SR W H0 env σ G H∧Out X W (av F es env) σ G H fun as=>∀vs G1 H1,aK W G H G1 H1→ak W G1 as vs→∀params body scope f G2 H2,zo N sc g idx bf params body scope→oJ X W params body scope (bF X.env (bt scope)) G1 H1 G2 H2 f→Q (vs++[.ref f]) H2
theorem zj(C:dH Γ F W N sc k X)(ok:X.Ok){g:Str}{idx bf:List Nat}{params:Arguments}{body:Expr}{scope:Scope}(a:zo N sc g idx bf params body scope):closureFor scope X.env=pure (bF X.env (bt scope)):=by
 refine gQ fun y hy hf=>ok.has y.1 (.inl ?_)
 show X.env.scope.names.lookup y.1=_
 rw [C.hsc];refine a.cc y.1 ?_;unfold bt;rw [List.mem_reverse,List.mem_map];exact⟨y,List.mem_filter.mpr ⟨hy,by rw [hf];rfl⟩,rfl⟩
theorem CV(C:dH Γ F W N sc k X)(hl:Γ.hl=true){g:Str}{idx bf:List Nat}{params:Arguments}{body:Expr}{scope:Scope}{pos:Pos}(a:zo N sc g idx bf params body scope):PA X [.Lambda params body scope pos] (Kd X W F N sc g idx bf .nil):=by
 obtain⟨ps,_,_,_,_,e1,_⟩:=uv a.lb
 intro pos' pins s σ H Q I h;refine cA (yN C hl e1 (zj C I.ok a)) d8 rfl pos' pins s σ H Q I ?_;obtain⟨H0,G,env,sr,o⟩:=h
 rw [av] at o;refine⟨G,sr.sub,sr.tab,fun f G2 H2 m=>?_⟩
 exact o [] G H (.refl sr.sub) .nil params body scope f G2 H2 a m
theorem yL{g:Str}{idx bf:List Nat}{e:E}{es:Es}{p:Expr}{ps:List Expr}(zY:gr (.cons e es)=true)(he:GE X W F e p)(hs:PA X ps (Kd X W F N sc g idx bf es))(df:starEach (p::ps) X.env=(false,eval p X.env)::starEach ps X.env):PA X (p::ps) (Kd X W F N sc g idx bf (.cons e es)):=
 L2.PA.imp (cA he hs df) fun σ H Q h=>by
  obtain⟨H0,G,env,sr,o⟩:=h
  rw [av] at o;unfold gr at zY;rw [zza] at zY;refine one sr o fun q v G1 H1 g1 t1 bV o1=>⟨H0,G1,env,bV,o1.bind.imp fun as ha vs G2 H2 g2 l=>?_⟩
  intro params body scope f G3 H3 la lm;have:=ha (v::vs) G2 H2 (g1.trans g2) (.cons (Rep.same g2.g q (t1.rep zY.1)) l) params body scope f G3 H3 la lm
  simpa using this
theorem lookup_all{Z:List (Addr×Obj)}{h:Heap}(ha:∀q∈Z,h.get? q.1=some q.2):∀{c:Addr} {o:Obj},(c,o)∈Z→Z.lookup c=some o:=by
 induction Z with
 |nil=>intro c o m;cases m
 |cons q Z ih=>
  intro c o m;obtain⟨c1,o1⟩:=q
  rw [List.lookup_cons];cases e:c==c1 with
  |true=>
   have e2:=beq_iff_eq.mp e
   subst e2;have h1:=ha (c,o1) zzP
   have h2:h.get? c=some o:=ha (c,o) m
   rw [h1] at h2;exact h2
  |false=>
   rcases List.mem_cons.mp m with z|z
   ·cases z;simp at e
   ·exact ih (fun q hq=>ha q (zzI _ hq)) z
theorem rh{H0 G H:Hp}{env:Sl}{σ:St}(sr:SR W H0 env σ G H):∀{bf:List Nat} {cs:List PV},ji env bf=.ok cs→∃ws:List V,ak W G cs ws∧ws.length=bf.length∧∀(j:Nat) (i:Nat),bf[j]?=some i→∃v,ws[j]?=some v∧σ[i]?=some (some v)
 |[],cs,h=>by
  unfold ji at h;cases h;exact⟨[],.nil,rfl,fun j i e=>by simp at e⟩
 |i::bf,cs,h=>by
  unfold ji at h;obtain⟨p,hp,h⟩:=Res.bind_ok h
  obtain⟨ps,ju,h⟩:=Res.bind_ok h
  cases h;have hs:env[i]?=some (.val p):=by
   cases e:env[i]? with
   |none=>rw [e] at hp;cases hp
   |some s=>rw [e] at hp;cases s<;>cases hp;rfl
  obtain⟨o,h1,v,rfl,rv⟩:=sr.slot i _ hs
  obtain⟨ws,l1,l2,l3⟩:=rh sr ju
  refine⟨v::ws,.cons rv l1,by simp [l2],fun j k e=>?_⟩
  cases j with
  |zero=>simp at e;subst e;exact⟨v,rfl,h1⟩
  |succ j=>simpa using l3 j k (by simpa using e)
theorem km{env:Sl}(c:Str):∀{bf:List Nat},ji env bf≠.exc c
 |[]=>fun z=>nomatch z
 |i::bf=>fun z=>by
  unfold ji at z;rcases Res.bind_exc z with z|⟨p,_,z⟩
  ·cases e:env[i]? with
   |none=>rw [e] at z;cases z
   |some s=>rw [e] at z;cases s<;>cases z
  ·rcases Res.bind_exc z with z|⟨ps,_,z⟩
   ·exact km c z
   ·cases z
theorem wA(C:dH Γ F W N sc k X)(hl:Γ.hl=true){q:Hs}{bf:List Nat}{fa:Addr}{fd:FuncData}{pn:List Str}(FO:fx X.prog X.w X.K X.mg X.base (dF X.prog X.w) k fa fd pn (xh W F q.f pn.length (some (q.g,q.idx))))(hb:Binds X.K fd pn []){pins:List (Addr×Obj)}{σ:St}{H0 G H:Hp}{env:Sl}{s:Shared}{Q:VK}{us:List Value}{vs:List V}{as cs:List PV}{params:Arguments}{body:Expr}{scope:Scope}{f c':Addr}{oc:Obj}{cU:Array Value}{t:Tok}{eX pm:Value}
 (I:Inv X pins σ H s) (sr:SR W H0 env σ G H) (a:zo N sc q.g q.idx bf params body scope) (MC:ji env bf=.ok cs) (l:ak W G as vs) (fo:G f=some (.frz (PySem.W.kla_obj "<lambda>" (X.env.qual++"<lambda>") params body scope (bF X.env (bt scope)) pm c' eX) bG)) (co:G c'=some (.frz oc bG)) (cd:oc.data=.fields cU) (cn:cU[1]?=some (.str (X.env.qual++"<lambda>") t))
 (hlen:(vs++[V.ref f]).length=pn.length) (r:Vals (vs++[.ref f]) us) (o:Out X W (F q.f (as++cs)) σ G H fun p=>c7 W G H p Q):wpAny (model X.prog X.w) X.A (call (.ref fa) us) (EP X pins σ Q) X.xe s:=by
 have zV:F q.f (as++cs)≠.bad:=fun z=>by rw [z] at o;exact o
 obtain⟨ws,rws,lws,pws⟩:=rh sr MC
 have dQ:∀y∈bt scope,∃c,X.env.cells.lookup y=some c:=fun y hy=>I.ok.has y (.inl (by show X.env.scope.names.lookup y=_;rw [C.hsc];exact a.cc y hy))
 have call:((bt scope).all fun y=>(X.env.cells.lookup y).isSome)=true:=zzT.mpr fun y hy=>by obtain⟨c,e⟩:=dQ y hy;rw [e];rfl
 let Z:List (Addr×Obj):=(bt scope).filterMap fun y=>(X.env.cells.lookup y).bind fun c=>(s.heap.get? c).map fun o=>(c,o)
 have Ju:∀q∈Z,∃y,y∈bt scope∧X.env.cells.lookup y=some q.1∧s.heap.get? q.1=some q.2:=fun q hq=>by
  obtain⟨y,hy,e⟩:=List.mem_filterMap.mp hq
  obtain⟨c,hc,e⟩:=zzZ.mp e
  obtain⟨o,ho,rfl⟩:=zzJ.mp e
  exact⟨y,hy,hc,ho⟩
 have LX:∀q∈Z,s.heap.get? q.1=some q.2:=fun q hq=>let⟨_,_,_,h⟩:=Ju q hq;h
 have N5:∀y c o,y∈bt scope→X.env.cells.lookup y=some c→s.heap.get? c=some o→Z.lookup c=some o:=fun y c o hy hc ho=>lookup_all LX (List.mem_filterMap.mpr ⟨y,hy,by rw [hc];show(s.heap.get? c).map _=_;rw [ho];rfl⟩)
 have Kf:∀b o,Z.lookup b=some o→∃y,y∈bt scope∧X.env.cells.lookup y=some b∧s.heap.get? b=some o:=fun b o e=>by
  obtain⟨y,h1,h2,h3⟩:=Ju (b,o) (PySem.W.mem_of_lookupK e)
  exact⟨y,h1,h2,h3⟩
 have zc:∀b o,Z.lookup b=some o→∃v,o.data=.cell v:=fun b o e=>by
  obtain⟨y,_,h2,h3⟩:=Kf b o e
  obtain⟨v,o',h4,h5⟩:=I.cell y b h2
  rw [h3] at h4;cases h4;exact⟨v,h5⟩
 have Ic:∀b o,Z.lookup b=some o→H b=none:=fun b o e=>by obtain⟨y,_,h2,_⟩:=Kf b o e;exact I.freeC y b h2
 have NA:∀b o,Z.lookup b=some o→G b=none:=fun b o e=>sr.sub.free (Ic b o e)
 have qE:∀b u,G b=some u→Z.lookup b=none:=fun b u e=>by
  cases y:Z.lookup b with
  |none=>rfl
  |some o=>rw [NA b o y] at e;cases e
 have Ia:∀x c,(bF X.env (bt scope)).lookup x=some c→X.env.cells.lookup x=some c:=dY call
 have MN:∀x c,(bF X.env (bt scope)).lookup x=some c→x∈bt scope:=fun x c e=>by
  have:=PySem.mem_of_lookup e
  unfold bF at this;obtain⟨y,hy,e2⟩:=List.mem_map.mp this
  cases e2;exact hy
 have N3:∀b o,Z.lookup b=some o→X.s₀.heap.objs.size≤b:=fun b o e=>by
  obtain⟨y,_,h2,_⟩:=Kf b o e
  exact I.ok.cab y b (C.fl hl y) h2
 have A5:sO Z H (eo X.stack) s.heap:=⟨fun b o e=>let⟨_,_,_,h⟩:=Kf b o e;h,Ic,fun b o e My=>by
  obtain⟨y,_,h2,h3⟩:=Kf b o e
  rcases List.mem_cons.mp (I.stkSub b My) with z|z
  ·exact I.cne y b h2 z
  ·obtain⟨_,o',h4,_⟩:=I.ok.funs.mem z
   exact absurd (zzO h4) (Nat.not_lt.mpr (N3 b o e))⟩
 have zb:∀b o,Z.lookup b=some o→X.base.get? b=none:=fun b o e=>by
  cases y:X.base.get? b with
  |none=>rfl
  |some o'=>exact absurd (zzO (I.ok.bs b o' y).1) (Nat.not_lt.mpr (N3 b o e))
 have OP:(bt scope).length=bf.length:=by have:=congrArg List.length a.cn;simpa using this.symm
 have cr:oG W (withZ Z G) q.g q.idx cs (.ref f):=by
  refine⟨f,c',oc,cU,t,eX,pm,params,body,scope,_,bF X.env (bt scope),Z,ws,rfl,⟨a.lb,by rw [aj (qE f _ fo)];exact fo,by rw [aj (qE c' _ co)];exact co,cd,cn,qE f _ fo,qE c' _ co,fun x y c h1 h2=>I.ok.inj x y c (Ia x c h1) (Ia y c h2),fun y hy=>iA hy,fun x c h=>?_,fun b o e=>bh e,zc,fun i y c h1 h2 v h3=>?_,by rw [lws,OP],by rw [qX NA];exact rws⟩⟩
  ·obtain⟨v,o,h1,h2⟩:=I.cell x c (Ia x c h)
   exact⟨o,v,N5 x c o (MN x c h) (Ia x c h) h1,h2⟩
  ·have hi:i<bf.length:=by rw [←lws];exact(zzH.mp h3).1
   obtain⟨v',q1,q2⟩:=pws i bf[i] (zzg hi)
   rw [h3] at q1;cases q1;have OL:X.N[bf[i]]?=some y:=by
    rw [C.hN];have:=congrArg (fun l=>l[i]?) a.cn
    simp only [zzQ,h1,zzg hi,Option.map_some] at this;exact Option.some.inj this
   obtain⟨m,_,hloc⟩:=I.loc
   obtain⟨u,ru,lk⟩:=hloc bf[i] y v OL q2 (.inr (.inl (by rw [C.hsc];exact a.cc y (zzD h1))))
   have NG:=Ia y c h2
   rcases lk with⟨z,_⟩|⟨_,c2,hc2,o,ho,hd⟩
   ·have z2:X.env.scope.names.lookup y=some .local:=z
    rw [C.hsc,a.cc y (zzD h1)] at z2;cases z2
   ·rw [NG] at hc2;cases hc2;exact⟨u,o,ru,N5 y c o (zzD h1) NG ho,hd⟩
 have Mf:us.length=pn.length:=by rw [←r.length];exact hlen
 have jg:=hb s us I.kIn (by rw [List.append_nil];exact Mf)
 rw [List.append_nil] at jg;have Qg:ak W (withZ Z G) as vs:=ak.same (fun b u e=>by rw [aj (qE b u e)];exact e) as l
 have PZ:∀G' H',aK W (withZ Z G) (withZ Z H) G' H'→∀b o,Z.lookup b=some o→G' b=some (.frz o bG):=fun G' H' g b o e=>g.g _ _ (bh e)
 refine wpAny_call (codeAny_mono (FO.run X.A X.stack s (withZ Z H) ⟨us,[]⟩ us _ (fun v H'=>Q v (bg Z H')) (fun Cv ao H'=>∃c,F q.f (as++cs)=.exc c∧XE W c G H Cv ao (bg Z H')) C.rm (I.env0.withZ A5 zb) jg r ⟨hlen,withZ Z G,as++cs,vQ sr.sub,qH sr.tab sr.sub Ic,⟨as,cs,vs,.ref f,rfl,rfl,Qg,cr⟩,?_⟩) fun rr s' hr=>?_)
 ·cases z:F q.f (as++cs) with
  |ok p=>
   rw [z] at o;exact fun v G' H' g' rp=>o v _ _ (g'.lz sr.sub zc Ic) (Rep.less (PZ G' H' g') p rp)
  |exc c=>
   intro Cv ao H' y;obtain⟨C4,a4,G4,y1,y2,y3,y4,y5⟩:=y
   exact⟨c,rfl,C4,a4,_,y1,y2,y3,y4,y5.lz sr.sub zc Ic⟩
  |bad=>exact absurd z zV
 ·cases rr with
  |error e=>
   have hr:dF X.prog X.w X.stack H s (fun Cv ao H'=>∃c,F q.f (as++cs)=.exc c∧XE W c G H Cv ao H') e s':=dF.less A5 hr
   cases z:F q.f (as++cs) with
   |ok q=>
    obtain⟨a,C',t,vs,H',B,rfl,Fl⟩:=hr
    obtain⟨c,e1,_⟩:=Fl.ends
    rw [z] at e1;cases e1
   |exc c=>
    rw [z] at o;refine o pins G H s e s' I (.refl sr.sub) (AY.imp hr fun C1 a H' y=>?_);obtain⟨c',e1,y⟩:=y
    rw [z] at e1;cases e1;exact y
   |bad=>exact absurd z zV
  |ok fl=>
   cases fl with
   |ret u=>exact I.after (CE.less A5 hr)
   |next=>exact False.elim hr
   |brk=>exact False.elim hr
   |cont=>exact False.elim hr
theorem xK(C:dH Γ F W N sc k X)(hl:Γ.hl=true){q:Hs}(hq:q∈Γ.hs){bf:List Nat}{es:Es}{p:Expr}{ps:List Expr}{np pos:Pos}(hg:iW sc q.h=true)(ho:okN q.h=true)(hn:q.np=fH es+1)(ha:PA X (p::ps) (Kd X W F N sc q.g q.idx bf es))
 (df:starEach (p::ps) X.env=(false,eval p X.env)::starEach ps X.env) (hpl:(backTo pos (starEach ps X.env)).any (·.1)=false):GE X W F (.callL q.f es q.g q.idx bf) (.Call (.Name q.h np) (p::ps) [] pos):=by
 intro pins s σ H Q I h;obtain⟨H0,G,env,sr,o⟩:=h
 rw [ax] at o;obtain⟨fa,fd,pn,FO,hm,hk,hb,hpn⟩:=(C.hfs q hq).ex
 refine wpAny_Call_Name_kw (fV I (fD C hg) hm ?_ (cY ho).1);refine PySem.W.callWith_K (h₀:=X.base) I.ok.mod.kin hk (bJ (ha pos pins s σ H (fun vs H2=>∃G2 as cs vd params body scope f c' oc cU t eX pm,vs=vd++[.ref f]∧as.length=fH es∧SR W H0 env σ G2 H2∧zo N sc q.g q.idx bf params body scope∧ji env bf=.ok cs∧ak W G2 as vd∧G2 f=some (.frz (PySem.W.kla_obj "<lambda>" (X.env.qual++"<lambda>") params body scope (bF X.env (bt scope)) pm c' eX) bG)∧G2 c'=some (.frz oc bG)∧oc.data=.fields cU∧cU[1]?=some (.str (X.env.qual++"<lambda>") t)∧Out X W (F q.f (as++cs)) σ G2 H2 fun p=>c7 W G2 H2 p Q) I ?_) fun us s1 ⟨vs,H1,I1,r,y⟩=>⟨I1.kIn,?_⟩) df hpl
 ·refine⟨H0,G,env,sr,?_⟩;cases e1:av F es env with
  |bad=>rw [e1] at o;exact o
  |exc c=>rw [e1] at o;exact o
  |ok as=>
   rw [e1] at o;have o:Out X W ((ji env bf).bind fun cs=>F q.f (as++cs)) σ G H _:=o
   cases e2:ji env bf with
   |bad=>rw [e2] at o;exact o.elim
   |exc c=>exact absurd e2 (km c)
   |ok cs=>
    rw [e2] at o;have o:Out X W (F q.f (as++cs)) σ G H _:=o
    intro vs G1 H1 g1 l params body scope f G2 H2 la lm;obtain⟨g2,c',oc,cU,t,eX,pm,m1,m2,m3,m4⟩:=lm
    exact⟨G2,as,cs,vs,params,body,scope,f,c',oc,cU,t,eX,pm,rfl,gZ e1,(sr.grow g1).grow g2,la,rfl,ak.same g2.g as l,m1,m2,m3,m4,(o.grow (g1.trans g2)).imp fun p hp v G' H' g' rp=>hp v G' H' ((g1.trans g2).trans g') (.of rp)⟩
 ·obtain⟨G2,as,cs,vd,params,body,scope,f,c',oc,cU,t,eX,pm,rfl,hal,eT,la,hcs,l,m1,m2,m3,m4,o2⟩:=y
  exact wA C hl FO hb I1 eT la hcs l m1 m2 m3 m4 (by rw [zzM,l.length,hal,hpn,hn];rfl) r o2
end
end Ci
namespace L2
open PySem PySem.Spec PyProof.Rows
section
variable{X:Cx}{pins:List (Addr×Obj)}{σ:St}{H:Hp}{s:Shared}{h':Heap}{ch:List Addr}
end
section
variable{X:Cx}{elts:List Expr}{x1:Nat}{kf:Pos}
end
section
variable{prog:Program}{w:World}{A:Around}{E:Value→Shared→Prop}{s:Shared}
end
section
variable{X:Cx}{e:Expr}{te:TE}{p1 p2 pos Pz:Pos}
end
end L2
namespace Ci
open PySem L2
section
variable{Γ:Pg}{X:Cx}{W:Wd}{F:ba}{N:List Str}{sc:Scope}{k:Nat}
theorem wG{G:Hp}{p:PV}{v:V}(h:Rep W G p v):∀{ps:List PV} {vs:List V},ak W G ps vs→ak W G (ps++[p]) (vs++[v]):=by
 intro ps
 induction ps with
 |nil=>
  intro vs t;have:=t.length
  cases vs with
  |nil=>exact .cons h .nil
  |cons _ _=>cases this
 |cons q ps ih=>
  intro vs t;obtain⟨u,r,rfl,h1,t⟩:=t.uncons
  exact .cons h1 (ih t)
theorem Af{G:Hp}:∀{ps:List PV} {vs:List V},ak W G ps vs→ak W G ps.reverse vs.reverse:=by
 intro ps
 induction ps with
 |nil=>
  intro vs t;have:=t.length
  cases vs with
  |nil=>exact .nil
  |cons _ _=>cases this
 |cons q ps ih=>
  intro vs t;obtain⟨u,r,rfl,h1,t⟩:=t.uncons
  rw [List.reverse_cons,List.reverse_cons];exact wG h1 (ih t)
theorem Ec(C:dH Γ F W N sc k X){a:E}{pa st:Expr}{p2 pos:Pos}(ha:GE X W F a pa)(hs:GE X W F (.neg (.cst (.int 1))) st):GE X W F (.rev a) (.Subscript pa (.Slice none none (some st) p2) pos):=
 (EK (D5.or F5 Gy) ha hs).imp fun σ H Q h=>by
  obtain⟨H0,G,env,sr,o⟩:=h
  rw [ax] at o;refine one sr o fun p v G1 H1 g t bV o1=>⟨H0,G1,env,bV,?_⟩
  have e:ax F (.neg (.cst (.int 1))) env=.ok (.int (-1)):=by rw [ax,ax];rfl
  rw [e];intro v2 G2 H2 g2 t2;refine⟨t2.top.int,?_⟩;have t3:=t.grow g2
  cases p with
  |str z=>
   by_cases hl:z.length≤c8
   ·have o2:Out X W (if z.length≤c8 then Res.ok (PV.str (eR z)) else .bad) σ G1 H1 _:=o1
    rw [if_pos hl] at o2;exact .inr ⟨z,t3.top.str,iV hl,o2 _ G2 H2 (g.trans g2) (.of .s)⟩
   ·have o2:Out X W (if z.length≤c8 then Res.ok (PV.str (eR z)) else .bad) σ G1 H1 _:=o1
    rw [if_neg hl] at o2;exact o2.elim
  |tup xs=>
   obtain⟨l,vs,rfl,h1,l1⟩:=t3.top.tup g2.sub
   rw [C.K] at h1;exact .inl ⟨l,vs,rfl,h1,fun p hp=>c7.tup (W:=W) (G:=G2) (H:=H2) (xs:=xs.reverse) (fun w G' H' g' gU=>o1 w G' H' ((g.trans g2).trans g') (.of gU)) g2.sub (Af l1) hp⟩
  |_=>exact False.elim o1
end
section
variable{Γ:Pg}{W:Wd}{F:ba}{k:Nat}
theorem F6{X:Cx}{e:E}{p:Expr}(h:GE X W F e p)(he:∀whole,isTrue p X.env whole=(do let v←whole;standAt p.pos;holding [v] (truthy v))):GT X W F e p:=
 L2.PT.imp (FC h he) fun σ H Q hq=>DV σ H Q hq
theorem Ag{N:List Str}{sc:Scope}:∀{es:Es} {ps:List Expr},fL Γ N sc es ps=true→∀env pos,(backTo pos (starEach ps env)).all (fun x=>!x.1)=true
 |.nil,[],_,_,_=>rfl
 |.cons e es,p::ps,h,env,pos=>by
  replace h:=aJ h
  rw [notStar h.1];show(true&&(backTo pos (starEach ps env)).all (fun x=>!x.1))=true
  rw [Ag h.2]
  rfl
 |.nil,_::_,h,_,_=>aq h
 |.cons _ _,[],h,_,_=>aq h
theorem yw{N:List Str}{sc:Scope}:∀{es:Es} {ps:List Expr},fL Γ N sc es ps=true→ps.length=fH es
 |.nil,[],_=>rfl
 |.cons e es,p::ps,h=>by
  replace h:=aJ h
  rw [zzL,yw h.2]
  rfl
 |.nil,_::_,h=>aq h
 |.cons _ _,[],h=>aq h
structure Nk(X:Cx)(W:Wd)(F:ba)(e:E)(p:Expr):Prop where
 ge:GE X W F e p
 gt:dX e=true→GT X W F e p
 gw:dX e=true→∀op vs pos,p=.BoolOp op vs pos→GW X W F e p
theorem bp{X:Cx}{e:E}{p:Expr}(h:GE X W F e p)(he:∀whole,isTrue p X.env whole=(do let v←whole;standAt p.pos;holding [v] (truthy v)))(hb:∀op vs pos,p≠.BoolOp op vs pos):Nk X W F e p:=
 ⟨h,fun _=>F6 h he,fun _ op vs pos e=>absurd e (hb op vs pos)⟩
theorem isTrue_plain{p:Expr}{env:Env}(h:(match p with|.UnaryOp .Not _ _=>false|.BoolOp .. =>false|.IfExp .. =>false|.Compare .. =>false|_=>true)=true):∀whole,isTrue p env whole=(do let v←whole;standAt p.pos;holding [v] (truthy v)):=by
 intro whole;cases p with
 |UnaryOp op a pos=>cases op<;>first|rfl|(exact aq h)
 |BoolOp _ _ _=>exact aq h
 |IfExp _ _ _ _=>exact aq h
 |Compare _ _ _ _=>exact aq h
 |_=>rfl
theorem sR{po:Expr}{m:Str}{env:Env}(h:(match po with|.Call .. =>false|_=>true)=true):attributeBase po m env (eval po env)=eval po env:=by
 cases po<;>first|rfl|(exact aq h)
theorem jb{N:List Str}{sc:Scope}{g:Str}{idx bf:List Nat}:∀{es:Es} {ps:List Expr},ug Γ N sc g idx bf es ps=true→∀env pos,(backTo pos (starEach ps env)).any (·.1)=false
 |.cons e es,p::ps,h,env,pos=>by
  replace h:=aJ h
  rw [notStar h.1];show(false||(backTo pos (starEach ps env)).any (·.1))=false
  rw [jb h.2]
  rfl
 |.nil,[p],h,env,pos=>by
  cases p<;>first|(exact aq h)|rfl
 |.nil,[],h,_,_=>aq h
 |.nil,p::_::_,h,_,_=>by cases p<;>exact aq h
 |.cons _ _,[],h,_,_=>aq h
mutual
theorem bC:∀(e:E) {Γ:Pg} {N:List Str} {sc:Scope} {X:Cx} (C:dH Γ F W N sc k X) (p:Expr),br Γ N sc e p=true→Nk X W F e p
 |.var i,Γ,N,sc,X,C,p,h=>by
  cases p<;>first|(exact aq h)|skip
  exact bp (E9 C h) (fun _=>rfl) (fun _ _ _ z=>nomatch z)
 |.tmp i,Γ,N,sc,X,C,p,h=>by
  cases p<;>first|(exact aq h)|skip
  exact bp (Hi C h) (fun _=>rfl) (fun _ _ _ z=>nomatch z)
 |.cst q,Γ,N,sc,X,C,p,h=>by
  cases p<;>first|(cases q<;>exact aq h)|skip
  rename_i c _ _;cases q<;>cases c<;>first|(exact aq h)|skip
  ·exact bp (fG Gh fun G=>.n) (fun _=>rfl) (fun _ _ _ z=>nomatch z)
  ·cases eq_of_beq h;exact bp (fG DA fun G=>.b) (fun _=>rfl) (fun _ _ _ z=>nomatch z)
  ·cases eq_of_beq h;exact bp (fG sQ fun G=>.i) (fun _=>rfl) (fun _ _ _ z=>nomatch z)
  ·cases eq_of_beq h;exact bp (fG xy fun G=>.s) (fun _=>rfl) (fun _ _ _ z=>nomatch z)
 |.glob g q,Γ,N,sc,X,C,p,h=>by
  cases p<;>first|(exact aq h)|skip
  exact bp (Bt C h) (fun _=>rfl) (fun _ _ _ z=>nomatch z)
 |.call f as,Γ,N,sc,X,C,p,h=>by
  cases p<;>first|(exact aq h)|skip
  rename_i fn args mJ pos;cases fn<;>first|(exact aq h)|skip
  rename_i g np;cases mJ with
  |cons _ _=>exact aq h
  |nil=>
   replace h:=aJ h
   try simp only [zza,beq_iff_eq] at h
   obtain⟨⟨⟨⟨⟨rfl,h1⟩,h2⟩,h3⟩,h4⟩,h5⟩:=h
   have ga:=jc as C args h5
   cases as with
   |nil=>
    cases args with
    |nil=>exact bp (Ac C h1 h2 h3) (fun _=>rfl) (fun _ _ _ z=>nomatch z)
    |cons _ _=>exact aq h5
   |cons e es=>
    cases args with
    |nil=>exact aq h5
    |cons q qs=>
     have h6:=h5
     replace h6:=aJ h6
     exact bp (B2 C h1 h2 h3 h4 ga (notStar h6.1 _ _) (dI h6.2 _ _)) (fun _=>rfl) (fun _ _ _ z=>nomatch z)
 |.callv i as,Γ,N,sc,X,C,p,h=>by
  cases p<;>first|(exact aq h)|skip
  rename_i fn args mJ pos;cases fn<;>first|(exact aq h)|skip
  rename_i g np;cases mJ with
  |cons _ _=>exact aq h
  |nil=>
   replace h:=aJ h
   simp only [zza] at h;obtain⟨⟨⟨⟨⟨h1,h2⟩,h3⟩,h4⟩,h6⟩,h5⟩:=h
   have ga:=jc as C args h5
   cases as with
   |nil=>exact aq h6
   |cons e es=>
    cases args with
    |nil=>exact aq h5
    |cons q qs=>
     have h6:=h5
     replace h6:=aJ h6
     exact bp (y7 C (by rw [h1,h2,h3];rfl) h4 ga (notStar h6.1 _ _) (dI h6.2 _ _)) (fun _=>rfl) (fun _ _ _ z=>nomatch z)
 |.callL f as g idx bf,Γ,N,sc,X,C,p,h=>by
  cases p<;>first|(exact aq h)|skip
  rename_i fn args mJ pos;cases fn<;>first|(exact aq h)|skip
  rename_i hN np;cases mJ with
  |cons _ _=>exact aq h
  |nil=>
   replace h:=aJ h
   simp only [zza,zzj,beq_iff_eq] at h;obtain⟨⟨⟨⟨⟨⟨h1,h2⟩,h3⟩,h4⟩,h6⟩,q,hq,⟨⟨⟨rfl,rfl⟩,rfl⟩,rfl⟩,hd⟩,h5⟩:=h
   have Lf:=zzY hd
   have ga:=Du as C h1 q.g q.idx bf args h4 h5
   cases as with
   |nil=>exact aq h6
   |cons e es=>
    cases args with
    |nil=>exact aq h5
    |cons p qs=>
     have h6:=h5
     replace h6:=aJ h6
     exact bp (xK C h1 hq h2 h3 Lf ga (notStar h6.1 _ _) (jb h6.2 _ _)) (fun _=>rfl) (fun _ _ _ z=>nomatch z)
 |.blt b as,Γ,N,sc,X,C,p,h=>by
  cases p<;>first|(exact aq h)|skip
  rename_i fn args mJ pos;cases fn<;>first|(exact aq h)|skip
  rename_i g np;cases mJ with
  |cons _ _=>exact aq h
  |nil=>
   replace h:=aJ h
   try simp only [zza,beq_iff_eq] at h
   obtain⟨⟨⟨⟨rfl,h1⟩,h2⟩,h3⟩,h5⟩:=h
   have ga:=jc as C args h5
   cases as with
   |nil=>exact aq h3
   |cons e es=>
    cases args with
    |nil=>exact aq h5
    |cons q qs=>
     have h6:=h5
     replace h6:=aJ h6
     exact bp (EF C b h1 h2 ga (notStar h6.1 _ _) (dI h6.2 _ _)) (fun _=>rfl) (fun _ _ _ z=>nomatch z)
 |.ty t a,Γ,N,sc,X,C,p,h=>by
  cases p<;>first|(exact aq h)|skip
  rename_i fn args mJ pos;cases fn<;>first|(exact aq h)|skip
  rename_i g np
  match args,mJ,h with
  |[pa,.Name tn tp],[],h=>
   replace h:=aJ h
   try simp only [zza,beq_iff_eq] at h
   obtain⟨⟨⟨⟨⟨⟨rfl,h1⟩,h2⟩,rfl⟩,h3⟩,h4⟩,h5⟩:=h
   exact bp (Dz C h1 h2 h3 h4 (bC a C pa h5).ge (notStar h5)) (fun _=>rfl) (fun _ _ _ z=>nomatch z)
  |[],_,h=>exact aq h
  |[_],_,h=>exact aq h
  |_::pb::_::_,_,h=>cases pb<;>exact aq h
  |[pa,pb],_::_,h=>cases pb<;>exact aq h
  | [pa, pb], [], h => cases pb<;>first|(exact aq h)|skip
                       rename_i tn tp;replace h:=aJ h
                       try simp only [zza,beq_iff_eq] at h
                       obtain⟨⟨⟨⟨⟨⟨rfl,h1⟩,h2⟩,rfl⟩,h3⟩,h4⟩,h5⟩:=h
                       exact bp (Dz C h1 h2 h3 h4 (bC a C pa h5).ge (notStar h5)) (fun _=>rfl) (fun _ _ _ z=>nomatch z)
 |.mth m o as,Γ,N,sc,X,C,p,h=>by
  cases p<;>first|(exact aq h)|skip
  rename_i fn args mJ pos;cases fn<;>first|(exact aq h)|skip
  rename_i po attr apos;cases mJ with
  |cons _ _=>exact aq h
  |nil=>
   replace h:=aJ h
   simp only [zza] at h;obtain⟨⟨⟨⟨⟨⟨e1,h1⟩,h2⟩,h3⟩,h4⟩,h5⟩,h6⟩:=h
   cases beq_iff_eq.mp e1;have ga:=jc as C args h5
   cases as with
   |nil=>exact aq h1
   |cons e es=>
    cases args with
    |nil=>exact aq h5
    |cons q qs=>
     have h7:=h5
     replace h7:=aJ h7
     have hl:=yw h5
     refine bp (Hj C (bC o C po h4).ge ga (sR h6) ?_ h3 (notStar h7.1 _ _) (dI h7.2 _ _)) (fun _=>rfl) (fun _ _ _ z=>nomatch z);rw [Ag h5];have mZ:=zzY h2
     refine Bool.and_eq_true_iff.mpr ⟨rfl,zzh ?_⟩;rw [hl];exact mZ
 |.bin o a b,Γ,N,sc,X,C,p,h=>by
  cases p<;>first|(exact aq h)|skip
  replace h:=aJ h
  try simp only [zza,zzN] at h
  obtain⟨⟨rfl,h1⟩,h2⟩:=h
  exact bp (GJ C (bC a C _ h1).ge (bC b C _ h2).ge) (fun _=>rfl) (fun _ _ _ z=>nomatch z)
 |.cmp o a b,Γ,N,sc,X,C,p,h=>by
  cases p<;>first|(exact aq h)|skip
  rename_i pa ops cs pos
  match ops,cs,h with
  |[op],[pb],h=>
   replace h:=aJ h
   try simp only [zza,zzN] at h
   obtain⟨⟨rfl,h1⟩,h2⟩:=h
   exact⟨Gk C (bC a C _ h1).ge (bC b C _ h2).ge (nT h2 _),fun _=>FZ C (bC a C _ h1).ge (bC b C _ h2).ge (nT h2 _),(fun _ _ _ _ z=>nomatch z)⟩
  |[],_,h=>exact aq h
  |_::_::_,_,h=>exact aq h
  |[_],[],h=>exact aq h
  |[_],_::_::_,h=>exact aq h
 |.ch o1 o2 a b c,Γ,N,sc,X,C,p,h=>by
  cases p<;>first|(exact aq h)|skip
  rename_i pa ops cs pos
  match ops,cs,h with
  |[op1,op2],[pb,pc],h=>
   replace h:=aJ h
   try simp only [zza,zzN] at h
   obtain⟨⟨⟨⟨rfl,rfl⟩,h1⟩,h2⟩,h3⟩:=h
   have hm:lastMarks [pP o1,pP o2] [pb,pc]=false:=nT h3 _
   exact⟨Jo C (bC a C _ h1).ge (bC b C _ h2).ge (bC c C _ h3).ge hm,fun _=>J4 C (bC a C _ h1).ge (bC b C _ h2).ge (bC c C _ h3).ge hm,(fun _ _ _ _ z=>nomatch z)⟩
  |[],_,h=>exact aq h
  |[_],_,h=>exact aq h
  |_::_::_::_,_,h=>exact aq h
  |[_,_],[],h=>exact aq h
  |[_,_],[_],h=>exact aq h
  |[_,_],_::_::_::_,h=>exact aq h
 |.not a,Γ,N,sc,X,C,p,h=>by
  cases p<;>first|(exact aq h)|skip
  rename_i op pa pos;cases op<;>first|(exact aq h)|skip
  have h:br Γ N sc a pa=true:=h
  have s:=bC a C pa h
  exact⟨Hn s.ge,fun z=>GV (s.gt (by simpa only [dX] using z)),(fun _ _ _ _ z=>nomatch z)⟩
 |.neg a,Γ,N,sc,X,C,p,h=>by
  cases p<;>first|(exact aq h)|skip
  rename_i op pa pos;cases op<;>first|(exact aq h)|skip
  have h:br Γ N sc a pa=true:=h
  exact bp (yB (bC a C pa h).ge) (fun _=>rfl) (fun _ _ _ z=>nomatch z)
 |.and a b,Γ,N,sc,X,C,p,h=>by
  cases p<;>first|(exact aq h)|skip
  rename_i op vs pos;cases op with
  |Or=>exact aq h
  |And=>
   match vs,h with
   |[],h=>exact aq h
   |[_],h=>exact aq h
   |[pa,pb],h=>
    replace h:=aJ h
    try simp only [zza] at h
    obtain⟨⟨he,h1⟩,h2⟩:=h
    have sa:=bC a C pa h1
    have sb:=bC b C pb h2
    have gw:dX (.and a b)=true→GW X W F (.and a b) (.BoolOp .And [pa,pb] pos):=fun z=>by
     simp only [dX,zza] at z;exact x8 (sa.gt z.1) (pw_and1 (sb.gt z.2))
    exact⟨Ae he sa.ge (x6 sb.ge),fun z=>(gw z).pt,fun z _ _ _ _=>gw z⟩
   |pa::pb::pc::r,h=>
    replace h:=aJ h
    try simp only [zza] at h
    obtain⟨⟨he,h1⟩,h2⟩:=h
    have sa:=bC a C pa h1
    have sb:=bC b C _ h2
    have gw:dX (.and a b)=true→GW X W F (.and a b) (.BoolOp .And (pa::pb::pc::r) pos):=fun z=>by
     simp only [dX,zza] at z;exact x8 (sa.gt z.1) (sb.gw z.2 _ _ _ rfl)
    exact⟨Ae he sa.ge sb.ge,fun z=>(gw z).pt,fun z _ _ _ _=>gw z⟩
 |.or a b,Γ,N,sc,X,C,p,h=>by
  cases p<;>first|(exact aq h)|skip
  rename_i op vs pos;cases op with
  |And=>exact aq h
  |Or=>
   match vs,h with
   |[],h=>exact aq h
   |[_],h=>exact aq h
   |[pa,pb],h=>
    replace h:=aJ h
    try simp only [zza] at h
    obtain⟨⟨he,h1⟩,h2⟩:=h
    have sa:=bC a C pa h1
    have sb:=bC b C pb h2
    have gw:dX (.or a b)=true→GW X W F (.or a b) (.BoolOp .Or [pa,pb] pos):=fun z=>by
     simp only [dX,zza] at z;exact Dw (sa.gt z.1) (pw_or1 (sb.gt z.2))
    exact⟨Dx he sa.ge (x6 sb.ge),fun z=>(gw z).pt,fun z _ _ _ _=>gw z⟩
   |pa::pb::pc::r,h=>
    replace h:=aJ h
    try simp only [zza] at h
    obtain⟨⟨he,h1⟩,h2⟩:=h
    have sa:=bC a C pa h1
    have sb:=bC b C _ h2
    have gw:dX (.or a b)=true→GW X W F (.or a b) (.BoolOp .Or (pa::pb::pc::r) pos):=fun z=>by
     simp only [dX,zza] at z;exact Dw (sa.gt z.1) (sb.gw z.2 _ _ _ rfl)
    exact⟨Dx he sa.ge sb.ge,fun z=>(gw z).pt,fun z _ _ _ _=>gw z⟩
 |.ite c a b,Γ,N,sc,X,C,p,h=>by
  cases p<;>first|(exact aq h)|skip
  replace h:=aJ h
  try simp only [zza] at h
  obtain⟨⟨⟨⟨⟨h0,h1⟩,h2⟩,h3⟩,h4⟩,h5⟩:=h
  exact⟨El h1 h2 ((bC c C _ h3).gt h0) (bC a C _ h4).ge (bC b C _ h5).ge,(fun z=>nomatch z),(fun _ _ _ _ z=>nomatch z)⟩
 |.tup as,Γ,N,sc,X,C,p,h=>by
  cases p<;>first|(exact aq h)|skip
  replace h:=aJ h
  try simp only [zza,zzN] at h
  exact bp (Ht h.1.1 h.1.2 (jc as C _ h.2)) (fun _=>rfl) (fun _ _ _ z=>nomatch z)
 |.lst as,Γ,N,sc,X,C,p,h=>by
  cases p<;>first|(exact aq h)|skip
  replace h:=aJ h
  try simp only [zza,zzN] at h
  exact bp ((Aa h.1.1 h.1.2 (jc as C _ h.2)).ge lst_is) (fun _=>rfl) (fun _ _ _ z=>nomatch z)
 |.sub a b,Γ,N,sc,X,C,p,h=>by
  cases p<;>first|(exact aq h)|skip
  replace h:=aJ h
  try simp only [zza] at h
  exact bp (GO C (bC a C _ h.1).ge (bC b C _ h.2).ge (yJ h.2)) (fun _=>rfl) (fun _ _ _ z=>nomatch z)
 |.rev a,Γ,N,sc,X,C,p,h=>by
  cases p<;>first|(exact aq h)|skip
  rename_i pa ps pos;cases ps<;>first|(exact aq h)|skip
  rename_i pl ph pst p2
  match pl,ph,pst,h with
  |some _,_,_,h=>exact aq h
  |none,some _,_,h=>exact aq h
  |none,none,none,h=>exact aq h
  |none,none,some st,h=>
   cases st<;>first|(exact aq h)|skip
   rename_i uo ue up;cases uo<;>first|(exact aq h)|skip
   cases ue<;>first|(exact aq h)|skip
   rename_i cc c2 c3;cases cc<;>first|(exact aq h)|skip
   replace h:=aJ h
   cases beq_iff_eq.mp h.1;exact bp (Ec C (bC a C pa h.2).ge (yB (fG sQ fun G=>.i))) (fun _=>rfl) (fun _ _ _ z=>nomatch z)
 |.comp kk bf tg it elt,Γ,N,sc,X,C,p,h=>by
  cases p<;>first|(exact aq h)|skip
  rename_i dA gens scope pos
  match gens,h with
  |[⟨cm,eK,[],asy⟩],h=>
   replace h:=aJ h
   simp only [zza] at h;obtain⟨⟨⟨⟨⟨⟨h1,h2⟩,h3⟩,h4⟩,h5⟩,h6⟩,gD⟩:=h
   have gD:=zzY gD
   subst gD;refine bp ((tO C (iq h1) h2 h3 (yy it C cm eK h4) (iw h4 _) h5 fun Y CY=>(bC elt CY dA h6).ge).ge fun env q e=>?_) (fun _=>rfl) (fun _ _ _ z=>nomatch z)
   rw [ax] at e;obtain⟨ps,_,e⟩:=Res.bind_ok e
   split at e
   ·obtain⟨ys,_,e⟩:=Res.bind_ok e
    cases e;exact⟨_,rfl⟩
   ·cases e
  |[],h=>exact aq h
  |⟨_,_,[],_⟩::_::_,h=>exact aq h
  |⟨_,_,[_],_⟩::_::_,h=>exact aq h
  |⟨_,_,_::_::_,_⟩::_::_,h=>exact aq h
  |[⟨_,_,_::_,_⟩],h=>exact aq h
 |.compIf kk bf tg it c elt,Γ,N,sc,X,C,p,h=>by
  cases p<;>first|(exact aq h)|skip
  rename_i dA gens scope pos
  match gens,h with
  |[⟨cm,eK,[pc],asy⟩],h=>
   replace h:=aJ h
   simp only [zza] at h;obtain⟨⟨⟨⟨⟨⟨⟨⟨h0,h1⟩,h2⟩,h3⟩,h4⟩,h5⟩,h6⟩,h7⟩,gD⟩:=h
   have gD:=zzY gD
   subst gD;refine bp ((mw C (iq h1) h2 h3 (yy it C cm eK h4) (iw h4 _) h5 (fun Y CY=>(bC c CY pc h6).gt h0) fun Y CY=>(bC elt CY dA h7).ge).ge fun env q e=>?_) (fun _=>rfl) (fun _ _ _ z=>nomatch z)
   rw [ax] at e;obtain⟨ps,_,e⟩:=Res.bind_ok e
   split at e
   ·obtain⟨ys,_,e⟩:=Res.bind_ok e
    cases e;exact⟨_,rfl⟩
   ·cases e
  |[],h=>exact aq h
  |⟨_,_,[],_⟩::_::_,h=>exact aq h
  |⟨_,_,[_],_⟩::_::_,h=>exact aq h
  |⟨_,_,_::_::_,_⟩::_::_,h=>exact aq h
  |[⟨_,_,[],_⟩],h=>exact aq h
  |[⟨_,_,_::_::_,_⟩],h=>exact aq h
theorem jc:∀(es:Es) {Γ:Pg} {N:List Str} {sc:Scope} {X:Cx} (C:dH Γ F W N sc k X) (ps:List Expr),fL Γ N sc es ps=true→GA X W F es ps
 |.nil,Γ,N,sc,X,C,ps,h=>by
  cases ps with
  |nil=>exact F1
  |cons _ _=>exact aq h
 |.cons e es,Γ,N,sc,X,C,ps,h=>by
  cases ps with
  |nil=>exact aq h
  |cons p ps=>
   replace h:=aJ h
   exact BK (bC e C p h.1).ge (jc es C ps h.2) (notStar h.1 _ _)
theorem Du:∀(es:Es) {Γ:Pg} {N:List Str} {sc:Scope} {X:Cx} (C:dH Γ F W N sc k X) (hl:Γ.hl=true) (g:Str) (idx bf:List Nat) (ps:List Expr),gr es=true→ug Γ N sc g idx bf es ps=true→PA X ps (Kd X W F N sc g idx bf es)
 |.nil,Γ,N,sc,X,C,hl,g,idx,bf,ps,he,h=>by
  match ps,h with
  |[],h=>exact aq h
  |[p],h=>
   cases p<;>first|(exact aq h)|skip
   replace h:=aJ h
   have h1:=aJ h.1
   exact CV C hl ⟨h1.1,zzY h1.2,fun y hy=>zzY (zzT.mp h.2 y hy)⟩
  |p::_::_,h=>cases p<;>exact aq h
 |.cons e es,Γ,N,sc,X,C,hl,g,idx,bf,ps,he,h=>by
  cases ps with
  |nil=>exact aq h
  |cons p ps=>
   replace h:=aJ h
   have FV:=aJ (show(fI e&&gr es)=true from he)
   exact yL he (bC e C p h.1).ge (Du es C hl g idx bf ps FV.2 h.2) (notStar h.1 _ _)
theorem yy:∀(it:I) {Γ:Pg} {N:List Str} {sc:Scope} {X:Cx} (C:dH Γ F W N sc k X) (tg p:Expr),v9 Γ N sc tg it p=true→GI X W F tg it p
 |.seq e,Γ,N,sc,X,C,tg,p,h=>by
  exact EA C (bC e C p h).ge
 |.rng e,Γ,N,sc,X,C,tg,p,h=>by
  cases p<;>first|(exact aq h)|skip
  rename_i fn args mJ pos;cases fn<;>first|(exact aq h)|skip
  match args,mJ,h with
  |[q],[],h=>
   replace h:=aJ h
   try simp only [zza] at h
   obtain⟨⟨⟨e1,h1⟩,h2⟩,h3⟩:=h
   cases beq_iff_eq.mp e1;exact FE C h1 h2 (notStar h3) (bC e C q h3).ge
  |[],_,h=>exact aq h
  |_::_::_,_,h=>exact aq h
  |[_],_::_,h=>exact aq h
 |.rng2 a b,Γ,N,sc,X,C,tg,p,h=>by
  cases p<;>first|(exact aq h)|skip
  rename_i fn args mJ pos;cases fn<;>first|(exact aq h)|skip
  match args,mJ,h with
  |[q,r],[],h=>
   replace h:=aJ h
   try simp only [zza] at h
   obtain⟨⟨⟨⟨e1,h1⟩,h2⟩,h3⟩,h4⟩:=h
   cases beq_iff_eq.mp e1;exact BS C h1 h2 (notStar h3) (notStar h4) (bC a C q h3).ge (bC b C r h4).ge
  |[],_,h=>exact aq h
  |[_],_,h=>exact aq h
  |_::_::_::_,_,h=>exact aq h
  |[_,_],_::_,h=>exact aq h
 |.enum e,Γ,N,sc,X,C,tg,p,h=>by
  cases p<;>first|(exact aq h)|skip
  rename_i fn args mJ pos;cases fn<;>first|(exact aq h)|skip
  match args,mJ,h with
  |[q],[],h=>
   replace h:=aJ h
   try simp only [zza] at h
   obtain⟨⟨⟨⟨h0,e1⟩,h1⟩,h2⟩,h3⟩:=h
   cases beq_iff_eq.mp e1;cases tg<;>first|(exact aq h0)|skip
   exact Be C h1 h2 (notStar h3) (bC e C q h3).ge
  |[],_,h=>exact aq h
  |_::_::_,_,h=>exact aq h
  |[_],_::_,h=>exact aq h
end
end
end Ci
namespace L2
open PySem PySem.Spec PyProof.Rows
section
variable{X:Cx}{scope:Scope}{xs ys:List Str}{is:List Nat}
theorem sY{i₀:Nat}{x₀:Str}{pos' fe:Pos}{elt tg iter:Expr}{pos:Pos}{wi:TI}{g:TG}{te:TE}(hN₀:X.N.Nodup)(hi₀:X.N[i₀]?=some x₀)(hx₀:Loc X.env.scope x₀)(hc:X.calm=true)(S:en X scope xs ys is)(hi:PI X tg iter wi)
 (hg:∀fp s1 H1 C,PG (bS X (xs++ys) scope (bF X.env ys) fp s1 H1 C) tg g) (he:∀fp s1 H1 C,PE (bS X (xs++ys) scope (bF X.env ys) fp s1 H1 C) elt te)
 (zX:swapsWith (.ListComp elt [⟨tg,iter,[],0⟩] scope pos) (some (.Name x₀ pos')) fe.line X.env=pure true:=by rfl)
 (hs:∀x,foldedSetIterable iter X.env x=pure x:=by intro _;rfl) (hf₀:X.fn x₀=true∨X.env.scope.names.lookup x₀=some .local:=by first|exact .inl rfl|exact .inr rfl|assumption):
 PS X (.Assign [.Name x₀ pos'] (.ListComp elt [⟨tg,iter,[],0⟩] scope pos) fe) (BL (xJ wi xs.length g te is) (d7 i₀)):=by
 intro pins s σ H D₀ I h;rw [exec_Assign_Name_used _ _ _ _ zX];refine zzA (wpAny_standAt (zzA ?_));show wpAny _ X.A (do let _←comprehension (.ListComp elt [⟨tg,iter,[],0⟩] scope pos) scope X.env _ (newList []) false (eval iter X.env) (some (assign (.Name x₀ pos') X.env))) _ _ s;refine zzA (wpAny_mono (gf (QQ:=fun _ s'=>∃σ2 H2,Inv X pins σ2 H2 s'∧D₀.nx σ2 H2) (Q:=fun v H4=>d7 i₀ v σ H4 D₀.nx) hc S hi hg (fun _ _ _ _=>uV) he hs I h fun D C s4 H4 m I5 hn ⟨g0,g1,_,g3,g4,g5⟩ q=>?_) (fun _ s' hq=>zzG (zzG hq)) fun _ _ e=>e)
 refine wpAny_assign_Name (iE I5 hN₀ hi₀ hx₀ (show RelV (.ref D) (.ref D) from rfl) (fun s6 I6 ⟨a6,sb6,ha6⟩=>?_) hf₀);have yT:C≠a6:=by
  rcases ha6 with z|z
  ·rw [z];exact g1
  ·exact fun z2=>g4 _ _ z z2.symm
 exact⟨m,hn.sameBut sb6 yT,fun h' vG=>⟨_,_,I6.turned (t':=s6.toks) (it:=C) (fun b o hb e=>vG.extBut b o hb e) g0 g1 g3 g4 g5,q⟩⟩
end
end L2
namespace Ci
open PySem L2
section
variable{W:Wd}{G0 H0 G H:Hp}{env:Sl}{σ:St}
theorem Own.thing{p:PV}{v:V}(h:Own W H0 G H p v):∃a o,v=.ref a∧H a=some o∧G a=none∧H0 a=none∧((∀G',aG G G'→G' a=some o→Rep W G' p (.ref a))∨∃aB,o=.dT aB∧∀ob G',aG G G'→G' a=some (.frz ob (.dT aB))→Rep W G' p (.ref a)):=by
 cases p with
 |lst xs=>
  obtain⟨a,vs,rfl,h1,h2,h3,l⟩:=h
  exact⟨a,_,rfl,h1,h2,h3,.inl fun G' s e=>.l (.inl (.inl e)) (ak.same s xs l)⟩
 |dct ks ps=>
  obtain⟨a,us,rfl,n,h1,h2,h3,l⟩:=h
  exact⟨a,_,rfl,h1,h2,h3,.inr ⟨_,rfl,fun ob G' s e=>by simp only [Rep];exact⟨a,ob,us,rfl,n,e,ak.same s ps l⟩⟩⟩
 |non=>exact h.elim
 |bl _=>exact h.elim
 |int _=>exact h.elim
 |str _=>exact h.elim
 |tup _=>exact h.elim
 |exc _=>exact h.elim
theorem Own.notbl{p:PV}{a:Addr}(h:Own W H0 G H p (.ref a))(ps:Array Value):H a≠some (.tbl ps):=fun z=>by
 cases p with
 |lst xs=>obtain⟨b,vs,e,h1,_⟩:=h;cases e;rw [z] at h1;cases h1
 |dct ks qs=>
  obtain⟨b,us,e,_,h1,_⟩:=h
  cases e;rw [z] at h1;cases h1
 |non=>exact h.elim
 |bl _=>exact h.elim
 |int _=>exact h.elim
 |str _=>exact h.elim
 |tup _=>exact h.elim
 |exc _=>exact h.elim
theorem nX{a:Addr}{ob:HO}{H':Hp}(t:cy W G H)(hG:G a=none)(n:∀ps,H a≠some (.tbl ps))(hH:∀b,b≠a→H' b=H b):cy W (upd G a ob) H':=fun P q m=>by
 obtain⟨n1,ps,e,tr,al⟩:=t P q m
 have hP:P≠a:=fun z=>by subst z;exact n ps e
 refine⟨by rw [af hP];exact n1,ps,by rw [hH P hP];exact e,tr,fun pos cv y=>?_⟩
 obtain⟨c',oc,cU,t',e1,e2,e3,e4⟩:=al pos cv y
 exact⟨c',oc,cU,t',e1,bD hG _ _ e2,e3,e4⟩
theorem Own.stay{p:PV}{v:V}{a:Addr}{G' H':Hp}(h:Own W H0 G H p v)(hv:v≠.ref a)(sG:aG G G')(hG:∀b,b≠a→G' b=G b)(hH:∀b,b≠a→H' b=H b):Own W H0 G' H' p v:=by
 cases p with
 |lst xs=>
  obtain⟨b,vs,rfl,h1,h2,h3,l⟩:=h
  have hb:b≠a:=fun z=>hv (by rw [z])
  exact⟨b,vs,rfl,by rw [hH b hb];exact h1,by rw [hG b hb];exact h2,h3,ak.same sG xs l⟩
 |dct ks ps=>
  obtain⟨b,us,rfl,n,h1,h2,h3,l⟩:=h
  have hb:b≠a:=fun z=>hv (by rw [z])
  exact⟨b,us,rfl,n,by rw [hH b hb];exact h1,by rw [hG b hb];exact h2,h3,ak.same sG ps l⟩
 |non=>exact h.elim
 |bl _=>exact h.elim
 |int _=>exact h.elim
 |str _=>exact h.elim
 |tup _=>exact h.elim
 |exc _=>exact h.elim
theorem getElem?_modify{α:Type}(l:List α)(i j:Nat)(f:α→α):(l.modify i f)[j]?=if i=j then(l[j]?).map f else l[j]?:=by
 rw [List.getElem?_modify];split<;>simp_all
theorem qd(r:SR W H0 env σ G H)(g:aK W G0 H0 G H){i:Nat}{p:PV}{a:Addr}{ob HM:HO}{H':Hp}(hp:env[i]?=some (.own p))(ho:σ[i]?=some (some (.ref a)))(IV:Own W H0 G H p (.ref a))(hH:H a=some ob)(hG:G a=none)(As:H0 a=none)
 (yA:∀G',aG G G'→G' a=some HM→Rep W G' p (.ref a)) (h1:H' a=some HM) (h2:∀b,b≠a→H' b=H b):SR W H0 (env.modify i oH) σ (upd G a HM) H'∧aK W G0 H0 (upd G a HM) H':=by
 have sG:aG G (upd G a HM):=bD hG
 have sub:aG (upd G a HM) H':=fun b u e=>by
  by_cases hb:b=a
  ·subst hb;rw [au] at e;cases e;exact h1
  ·rw [af hb] at e;rw [h2 b hb];exact r.sub _ _ e
 have base:∀{B:Hp},B a=none→gA B H→gA B H':=fun hB k b u e=>by
  have hb:b≠a:=fun z=>by rw [z,hB] at e;cases e
  rw [h2 b hb];exact k b u e
 refine⟨⟨by rw [List.length_modify];exact r.len,sub,base As r.base,fun j s e=>?_,fun j l q q' c e1 e2 e3 e4=>?_,nX r.tab hG IV.notbl h2,nX r.tab0 hG (fun ps z=>by rw [As] at z;cases z) fun _ _=>rfl⟩,⟨g.g.trans sG,base As g.h,sub,fun b h3 h5 h4=>?_,fun t=>nX (g.tab t) hG IV.notbl h2⟩⟩
 ·rw [getElem?_modify] at e;split at e
  ·rename_i z;subst z;rw [hp] at e;cases e;exact⟨_,ho,_,rfl,yA _ sG au⟩
  ·rename_i z;obtain⟨o2,k1,k2⟩:=r.slot j s e
   refine⟨o2,k1,?_⟩;cases s with
   |no=>exact trivial
   |val q=>
    obtain⟨v2,rfl,rv⟩:=k2
    exact⟨v2,rfl,Rep.same sG q rv⟩
   |fn _ _ _=>
    obtain⟨v2,rfl,rv⟩:=k2
    exact⟨v2,rfl,rv.same sG⟩
   |own q=>
    obtain⟨v2,rfl,ov⟩:=k2
    refine⟨v2,rfl,ov.stay (a:=a) (fun zz=>?_) sG (fun b hb=>af hb) h2⟩;subst zz;exact z (r.apart i j p q a hp e ho k1)
 ·rw [getElem?_modify] at e1 e2;have ne:∀{j:Nat} {q:PV},(if i=j then(env[j]?).map oH else env[j]?)=some (.own q)→i≠j∧env[j]?=some (.own q):=fun{j q} e=>by
   split at e
   ·rename_i z;subst z;rw [hp] at e;cases e
   ·rename_i z;exact⟨z,e⟩
  exact r.apart j l q q' c (ne e1).2 (ne e2).2 e3 e4
 ·have hb:b≠a:=fun z=>h3 (by rw [z];exact As)
  rw [af hb];exact g.own b h3 h5 h4
theorem F2(r:SR W H0 env σ G H)(g:aK W G0 H0 G H)(i:Nat):(∃G',SR W H0 (env.modify i oH) σ G' H∧aK W G0 H0 G' H)∨∃a aB,H a=some (.dT aB)∧∀o,∃G',SR W H0 (env.modify i oH) σ G' (upd H a (.frz o (.dT aB)))∧aK W G0 H0 G' (upd H a (.frz o (.dT aB))):=by
 have same:(∀p,env[i]?≠some (.own p))→env.modify i oH=env:=fun h=>by
  refine List.ext_getElem? fun j=>?_
  rw [getElem?_modify];split
  ·rename_i e;subst e;cases q:env[i]? with
   |none=>rfl
   |some s=>
    cases s with
    |own p=>exact absurd q (h p)
    |no=>rfl
    |val p=>rfl
    |fn _ _ _=>rfl
  ·rfl
 by_cases hx:∃p,env[i]?=some (.own p)
 ·obtain⟨p,hp⟩:=hx
  obtain⟨o,ho,v,rfl,ow⟩:=r.slot i _ hp
  have IV:=ow
  obtain⟨a,ob,rfl,hH,hG,As,yA|⟨aB,rfl,yA⟩⟩:=ow.thing
  ·obtain⟨k1,k2⟩:=qd r g hp ho IV hH hG As yA hH fun _ _=>rfl
   exact .inl ⟨_,k1,k2⟩
  ·refine .inr ⟨a,aB,hH,fun o=>?_⟩
   obtain⟨k1,k2⟩:=qd r g hp ho IV hH hG As (yA o) au fun b hb=>af hb
   exact⟨_,k1,k2⟩
 ·exact .inl ⟨G,by rw [same fun p z=>hx ⟨p,z⟩];exact r,g⟩
theorem iX(r:SR W H0 env σ G H)(g:aK W G0 H0 G H){i:Nat}{p p':PV}{a:Addr}{ob:HO}(hp:env[i]?=some (.own p))(hs:σ[i]?=some (some (.ref a)))(hG:G a=none)(As:H0 a=none)(hn:Own W H0 G (upd H a ob) p' (.ref a)):
 SR W H0 (env.set i (.own p')) σ G (upd H a ob)∧aK W G0 H0 G (upd H a ob):=by
 have bR:i<env.length:=(zzH.mp hp).1
 have OG:∀ps,H a≠some (.tbl ps):=by
  obtain⟨o2,h1,v2,rfl,ow⟩:=r.slot i _ hp
  rw [hs] at h1;cases h1;exact ow.notbl
 have tab:∀{G1:Hp},cy W G1 H→cy W G1 (upd H a ob):=fun t=>t.same (aG.refl _) (fun _ _ _ h=>h) (pH OG)
 refine⟨⟨by rw [List.length_set];exact r.len,fun b u e=>?_,fun b u e=>?_,fun j s e=>?_,fun j l q q' c e1 e2 e3 e4=>?_,tab r.tab,r.tab0⟩,⟨g.g,fun b u e=>?_,fun b u e=>?_,g.own,fun t=>tab (g.tab t)⟩⟩
 ·rw [af (fun z=>by subst z;rw [hG] at e;cases e)];exact r.sub _ _ e
 ·rw [af (fun z=>by subst z;rw [As] at e;cases e)];exact r.base _ _ e
 ·by_cases hj:i=j
  ·subst hj;rw [List.getElem?_set_self bR] at e;cases e;exact⟨_,hs,_,rfl,hn⟩
  ·rw [zzS hj] at e;obtain⟨o2,h1,h2⟩:=r.slot j s e
   refine⟨o2,h1,?_⟩;cases s with
   |no=>exact trivial
   |val q=>exact h2
   |fn _ _ _=>exact h2
   |own q=>
    obtain⟨v2,rfl,ov⟩:=h2
    refine⟨v2,rfl,ov.stay (a:=a) (fun zz=>?_) (aG.refl _) (fun b hb=>rfl) fun b hb=>af hb⟩
    subst zz;exact hj (r.apart i j p q a hp e hs h1)
 ·have tr:∀{j:Nat} {q:PV},(env.set i (.own p'))[j]?=some (.own q)→∃q2,env[j]?=some (.own q2):=fun{j q} e=>by
   by_cases hj:i=j
   ·subst hj;exact⟨p,hp⟩
   ·rw [zzS hj] at e;exact⟨q,e⟩
  obtain⟨q2,f1⟩:=tr e1
  obtain⟨q3,f2⟩:=tr e2
  exact r.apart j l q2 q3 c f1 f2 e3 e4
 ·rw [af (fun z=>by subst z;rw [As] at e;cases e)];exact g.h _ _ e
 ·rw [af (fun z=>by subst z;rw [hG] at e;cases e)];exact g.sub _ _ e
theorem rO(r:SR W H0 env σ G H)(g:aK W G0 H0 G H){i:Nat}{p:PV}{a:Addr}{ob:HO}(hi:i<env.length)(ha:H a=none)(hn:Own W H0 G (upd H a ob) p (.ref a)):
 SR W H0 (env.set i (.own p)) (σ.set i (some (.ref a))) G (upd H a ob)∧aK W G0 H0 G (upd H a ob):=by
 have gm:aK W G H G (upd H a ob):=.mine r.sub ha
 have r1:=r.grow gm
 have old:∀{j:Nat} {q:PV},env[j]?=some (.own q)→σ[j]?=some (some (.ref a))→False:=fun{j q} e1 e2=>by
  obtain⟨o2,h1,v2,rfl,ov⟩:=r.slot j _ e1
  rw [e2] at h1;cases h1;obtain⟨a',o',e3,hH,_⟩:=ov.thing
  cases e3;rw [ha] at hH;cases hH
 refine⟨⟨by rw [List.length_set,List.length_set];exact r.len,r1.sub,r1.base,fun j s e=>?_,fun j l q q' c e1 e2 e3 e4=>?_,r1.tab,r1.tab0⟩,g.trans gm⟩
 ·by_cases hj:i=j
  ·subst hj;rw [List.getElem?_set_self hi] at e;cases e;exact⟨_,List.getElem?_set_self (by rw [←r.len];exact hi),_,rfl,hn⟩
  ·rw [zzS hj] at e;obtain⟨o2,h1,h2⟩:=r1.slot j s e
   exact⟨o2,by rw [zzS hj];exact h1,h2⟩
 ·by_cases hj:i=j
  ·by_cases hl:i=l
   ·exact hj.symm.trans hl
   ·exfalso
    subst hj;rw [List.getElem?_set_self (by rw [←r.len];exact hi)] at e3;rw [zzS hl] at e2 e4;cases e3;exact old e2 e4
  ·by_cases hl:i=l
   ·exfalso
    subst hl;rw [List.getElem?_set_self (by rw [←r.len];exact hi)] at e4;rw [zzS hj] at e1 e3;cases e4;exact old e1 e3
   ·rw [zzS hj] at e1 e3;rw [zzS hl] at e2 e4;exact r.apart j l q q' c e1 e2 e3 e4
end
def iz:E→Bool
 |.lst _=>true
 |.comp _ _ _ _ _=>true
 |.compIf _ _ _ _ _ _=>true
 |_=>false
def oj:Expr→Bool
 |.ListComp .. =>false
 |.SetComp .. =>false
 |.DictComp .. =>false
 |_=>true
noncomputable def MI(sc:Scope)(x:Str)(xp:Pos):Expr→Bool
 |.ListComp _ _ s p=>sc.names.lookup x==some .local&&xp.line==p.line&&!(s.names.any fun(n,k)=>n==x&&(k==.local||k==.cell))
 |_=>false
theorem mz{α β:Type}{o:Option α}{f:α→Option β}{b:β}(h:o.bind f=some b):∃a,o=some a∧f a=some b:=zzZ.1 h
theorem if1{α:Type}{c:Bool}{a b:α}(h:(if c=true then some a else none)=some b):c=true∧a=b:=by
 cases c with
 |true=>cases h;exact⟨rfl,rfl⟩
 |false=>exact qi h
def qJ:List Expr→Option Expr
 |[t]=>some t
 |_=>none
def GR(ts:List Expr):Option Str:=(qJ ts).bind gY
def K3:Expr→Option (Expr×Str×Pos)
 |.Attribute o m p=>some (o,m,p)
 |_=>none
theorem Fq{e:Expr}{q:Expr×Str×Pos}(h:K3 e=some q):e=.Attribute q.1 q.2.1 q.2.2:=by
 cases e with
 |Attribute o m p=>cases h;rfl
 |_=>exact qi h
def NJ:Expr→Option (Arguments×Expr×Scope)
 |.Lambda p b s _=>some (p,b,s)
 |_=>none
theorem Fj{e:Expr}{q:Arguments×Expr×Scope}(h:NJ e=some q):∃p,e=.Lambda q.1 q.2.1 q.2.2 p:=by
 cases e with
 |Lambda p b s x=>cases h;exact⟨_,rfl⟩
 |_=>exact qi h
def K0:Expr→Option (Expr×Expr)
 |.Subscript a b _=>some (a,b)
 |_=>none
theorem sU{e:Expr}{q:Expr×Expr}(h:K0 e=some q):∃p,e=.Subscript q.1 q.2 p:=by
 cases e with
 |Subscript a b p=>cases h;exact⟨_,rfl⟩
 |_=>exact qi h
def LW:Expr→Option Const
 |.Constant c _ _=>some c
 |_=>none
theorem zQ{e:Expr}{c:Const}(h:LW e=some c):∃p q,e=.Constant c p q:=by
 cases e with
 |Constant c p q=>cases h;exact⟨_,_,rfl⟩
 |_=>exact qi h
def HS:Const→Option Str
 |.str z=>some z
 |_=>none
theorem Hc{c:Const}{z:Str}(h:HS c=some z):c=.str z:=by
 cases c with
 |str y=>cases h;rfl
 |_=>exact qi h
def N7:Const→Option Int
 |.int n=>some n
 |_=>none
theorem Hq{c:Const}{n:Int}(h:N7 c=some n):c=.int n:=by
 cases c with
 |int y=>cases h;rfl
 |_=>exact qi h
def HI:List Keyword→Option (Str×Expr)
 |[⟨some n,v,_⟩]=>some (n,v)
 |_=>none
theorem EY{ks:List Keyword}{q:Str×Expr}(h:HI ks=some q):∃p,ks=[⟨some q.1,q.2,p⟩]:=by
 cases ks with
 |nil=>exact qi h
 |cons k ks=>
  obtain⟨kn,kv,kp⟩:=k
  cases kn with
  |none=>exact qi h
  |some n=>
   cases ks with
   |cons _ _=>exact qi h
   |nil=>cases h;exact⟨_,rfl⟩
theorem eP{ts:List Expr}{t:Expr}(h:qJ ts=some t):ts=[t]:=by
 cases ts with
 |nil=>exact qi h
 |cons a ts=>
  cases ts with
  |cons _ _=>exact qi h
  |nil=>cases h;rfl
noncomputable def Ji(e:Expr):Option (Str×Str×List Expr):=(Jy e).bind fun q=>(K3 q.1).bind fun r=>(gY r.1).bind fun x=>if(q.2.2.1.isEmpty&&r.2.2.endLine==q.2.2.2.line)=true then some (x,r.2.1,q.2.1) else none
noncomputable def NL(e:Expr):Option (Str×Arguments×Expr×Scope):=(Jy e).bind fun q=>(gY q.1).bind fun f=>(qJ q.2.1).bind fun a=>(gY a).bind fun x=>(HI q.2.2.1).bind fun r=>(NJ r.2).bind fun l=>if(f=="min"&&r.1=="key")=true then some (x,l.1,l.2.1,l.2.2) else none
theorem Fy{e:Expr}{c:Str×Arguments×Expr×Scope}(h:NL e=some c):∃q1 q2 q3 q4 q5,e=.Call (.Name "min" q1) [.Name c.1 q2] [⟨some "key",.Lambda c.2.1 c.2.2.1 c.2.2.2 q3,q4⟩] q5:=by
 obtain⟨⟨f,a,k,p⟩,h1,h⟩:=mz h
 obtain⟨g,h2,h⟩:=mz h
 obtain⟨b,h3,h⟩:=mz h
 obtain⟨x,h4,h⟩:=mz h
 obtain⟨⟨n,v⟩,h5,h⟩:=mz h
 obtain⟨⟨l1,l2,l3⟩,h6,h⟩:=mz h
 obtain⟨h7,rfl⟩:=if1 h
 rw [zza,beq_iff_eq,beq_iff_eq] at h7;obtain⟨rfl,z8⟩:=h7
 obtain⟨p2,z2⟩:=cD h2
 obtain⟨p4,z4⟩:=cD h4
 obtain⟨p5,z5⟩:=EY h5
 obtain⟨p6,z6⟩:=Fj h6
 have z3:=eP h3
 dsimp only at z2 z3 z4 z5 z6 z8;subst z2 z3 z4 z5 z6 z8;exact⟨_,_,_,_,_,o6 h1⟩
def BM(x p:Str)(e:Expr):Bool:=(K0 e).any fun q=>(K0 q.1).any fun r=>gY r.1==some x&&gY r.2==some p&&(LW q.2).bind N7==some 0
noncomputable def tQ(x:Str)(params:Arguments)(body:Expr)(scope:Scope):Bool:=match o9 params with
 |some [p]=>BM x p body&&decide (bt scope=[x])&&KR [p] scope&&okN p&&okN x
 |_=>false
theorem x5{x:Str}{params:Arguments}{body:Expr}{scope:Scope}(h:tQ x params body scope=true):∃p,o9 params=some [p]∧sW p x params body scope∧bt scope=[x]∧okN x=true:=by
 unfold tQ at h;split at h
 ·rename_i p e;simp only [zza,zzN] at h;obtain⟨⟨⟨⟨h1,h2⟩,h3⟩,h4⟩,h5⟩:=h
  refine⟨p,e,⟨?_,by rw [←h2];exact xo h3,(cY h4).1,(cY h4).2.1,(cY h5).1,(cY h5).2.1⟩,h2,h5⟩;obtain⟨⟨a,b⟩,e1,h6⟩:=aY h1
  obtain⟨⟨c,d⟩,e2,h7⟩:=aY h6
  simp only [zza,beq_iff_eq] at h7;obtain⟨p1,rfl⟩:=sU e1
  obtain⟨p2,z2⟩:=sU e2
  obtain⟨p3,z3⟩:=cD h7.1.1
  obtain⟨p4,z4⟩:=cD h7.1.2
  obtain⟨c5,y5,y6⟩:=mz h7.2
  obtain⟨p5,p6,z5⟩:=zQ y5
  cases Hq y6;dsimp only at z2 z3 z4 z5;subst z3 z4 z5 z2;exact⟨_,_,_,_,_,_,rfl⟩
 ·cases h
def LN(ts:List Expr):Option (Str×Expr):=(qJ ts).bind fun t=>(K0 t).bind fun q=>(gY q.1).bind fun x=>some (x,q.2)
noncomputable def Oc(o:Option Expr):Option (Str×Str):=o.bind fun e=>(Jy e).bind fun q=>(gY q.1).bind fun x=>(qJ q.2.1).bind fun a=>(LW a).bind fun c=>(HS c).bind fun z=>if q.2.2.1.isEmpty=true then some (x,z) else none
theorem iH{ts:List Expr}{x:Str}(h:GR ts=some x):∃xp,ts=[.Name x xp]:=by
 obtain⟨t,h1,h2⟩:=mz h
 obtain⟨p,rfl⟩:=cD h2
 exact⟨p,eP h1⟩
theorem nC{p:Expr}{x m:Str}{args:List Expr}(h:Ji p=some (x,m,args)):∃np apos bA,p=.Call (.Attribute (.Name x np) m apos) args [] bA∧(apos.endLine==bA.line)=true:=by
 obtain⟨⟨f,a,k,cp⟩,h1,h⟩:=mz h
 obtain⟨⟨o,m',ap⟩,h2,h⟩:=mz h
 obtain⟨y,h3,h⟩:=mz h
 obtain⟨h4,h⟩:=if1 h
 cases h;rw [zza] at h4;obtain⟨p3,z3⟩:=cD h3
 have z2:=Fq h2
 have z5:=List.isEmpty_iff.1 h4.1
 dsimp only at z2 z3 z5;subst z3 z2 z5;exact⟨_,_,_,o6 h1,h4.2⟩
theorem yK{ts:List Expr}{x:Str}{pk:Expr}(h:LN ts=some (x,pk)):∃np sp,ts=[.Subscript (.Name x np) pk sp]:=by
 obtain⟨t,h1,h⟩:=mz h
 obtain⟨⟨a,b⟩,h2,h⟩:=mz h
 obtain⟨y,h3,h⟩:=mz h
 cases h;obtain⟨p3,z3⟩:=cD h3
 obtain⟨p2,z2⟩:=sU h2
 dsimp only at z3;subst z3 z2;exact⟨_,_,eP h1⟩
theorem ER{o:Option Expr}{x z:Str}(h:Oc o=some (x,z)):∃np j zp cp,o=some (.Call (.Name x np) [.Constant (.str z) j zp] [] cp):=by
 obtain⟨e,h0,h⟩:=mz h
 obtain⟨⟨f,a,k,cp⟩,h1,h⟩:=mz h
 obtain⟨y,h2,h⟩:=mz h
 obtain⟨t,h3,h⟩:=mz h
 obtain⟨c,h4,h⟩:=mz h
 obtain⟨w,h5,h⟩:=mz h
 obtain⟨h6,h⟩:=if1 h
 cases h;obtain⟨p2,z2⟩:=cD h2
 obtain⟨p4,q4,z4⟩:=zQ h4
 have z3:=eP h3
 have z5:=Hc h5
 have z6:=List.isEmpty_iff.1 h6
 dsimp only at z2 z3 z6;subst z2 z5 z4 z3 z6;exact⟨_,_,_,_,h0.trans (congrArg some (o6 h1))⟩
mutual
noncomputable def ez(Γ:Pg)(N:List Str)(sc:Scope):S→Stmt→Bool
 |.expr e,.Expr p _=>oj p&&br Γ N sc e p
 |.set i e,.Assign ts p _=>(GR ts).any fun x=>N[i]?==some x&&dW sc x&&fI e&&br Γ N sc e p
 |.own i e,.Assign ts p _=>(GR ts).any fun x=>N[i]?==some x&&dW sc x&&iz e&&br Γ N sc e p
 |.app i e,.Expr v _=>(Ji v).any fun c=>N[i]?==some c.1&&dB sc c.1&&okN c.1&&c.2.1==("append":Str)&&fI e&&(qJ c.2.2).any fun p=>br Γ N sc e p
 |.extd i e,.Expr v _=>(Ji v).any fun c=>N[i]?==some c.1&&dB sc c.1&&okN c.1&&c.2.1==("extend":Str)&&(qJ c.2.2).any fun p=>br Γ N sc e p
 |.put i kk e,.Assign ts p _=>(LN ts).any fun c=>N[i]?==some c.1&&dB sc c.1&&okN c.1&&fI e&&br Γ N sc kk c.2&&br Γ N sc e p
 |.pop j i,.Assign ts v _=>(GR ts).any fun y=>(Ji v).any fun c=>N[i]?==some c.1&&dB sc c.1&&okN c.1&&c.2.1==("pop":Str)&&c.2.2.isEmpty&&N[j]?==some y&&dW sc y
 |.ret e,.Return (some p) _=>fI e&&br Γ N sc e p
 |.ite c a b,.If p pa pb _=>dX c&&br Γ N sc c p&&da Γ N sc a pa&&da Γ N sc b pb
 |.for_ tg it b,.For cm eK pb els _=>els.isEmpty&&gv N sc (fun _=>true) tg cm&&Dl it&&v9 Γ N sc cm it eK&&da Γ N sc b pb
 |.whl c b,.While p pb els _=>els.isEmpty&&dX c&&br Γ N sc c p&&da Γ N sc b pb
 |.raise c m,.Raise ex fr _=>fr.isNone&&(Oc ex).any fun q=>c==q.1&&m==q.2&&Γ.rs.contains c&&iW sc c&&okN c
 |.dnew i,.Assign ts (.Dict [] [] _) _=>(GR ts).any fun x=>N[i]?==some x&&dW sc x
 |.dnew1 i n b,.Assign ts (.Dict [some k] [.Constant (.bool c) _ _] _) _=>(GR ts).any fun x=>(gY k).any fun z=>N[i]?==some x&&dW sc x&&N[n]?==some z&&dB sc z&&okN z&&b==c
 |.putPop i j n,.Assign ts v _=>(LN ts).any fun c=>(gY c.2).any fun z=>N[i]?==some c.1&&dB sc c.1&&okN c.1&&N[n]?==some z&&dB sc z&&okN z&&(Ji v).any fun d=>d.2.1==("pop":Str)&&(qJ d.2.2).any fun e=>(gY e).any fun z2=>z==z2&&N[j]?==some d.1&&dB sc d.1&&okN d.1
 |.minK m i,.Assign ts v _=>(GR ts).any fun y=>(NL v).any fun c=>N[m]?==some y&&dW sc y&&N[i]?==some c.1&&sc.names.lookup c.1==some .cell&&iW sc "min"&&Γ.bs.contains "min"&&Γ.hl&&tQ c.1 c.2.1 c.2.2.1 c.2.2.2
 |_,_=>false
noncomputable def da(Γ:Pg)(N:List Str)(sc:Scope):Ss→List Stmt→Bool
 |.nil,[]=>true
 |.cons (.frz _) ss,ps=>da Γ N sc ss ps
 |.cons s ss,p::ps=>ez Γ N sc s p&&da Γ N sc ss ps
 |_,_=>false
end
section
variable{Γ:Pg}{X:Cx}{W:Wd}{F:ba}{N:List Str}{sc:Scope}{k:Nat}{H0:Hp}{E:XK}
theorem SR.go{env:Sl}{σ:St}{G H:Hp}(r:SR W H0 env σ G H):aK W G H0 G H:=⟨aG.refl _,r.base,r.sub,fun _ _ _ h=>h,fun _=>r.tab⟩
theorem aK.then{G G1 H1 G2 H2:Hp}(a:aK W G H0 G1 H1)(b:aK W G1 H0 G2 H2):aK W G H0 G2 H2:=⟨a.g.trans b.g,b.h,b.sub,fun x h1 h3 h2=>b.own x h1 h3 (a.own x h1 h3 h2),fun t=>b.tab (t.same a.g a.own fun _ _ h=>h)⟩
theorem SR.on{env:Sl}{σ:St}{G H G1 H1:Hp}(r:SR W H0 env σ G H)(g:aK W G H G1 H1):aK W G H0 G1 H1:=⟨g.g,r.base.trans g.h,g.sub,fun x h1 h3 h2=>g.own x (fun z=>h1 (r.base.free z)) (r.base.notup h1 h3) h2,fun _=>g.tab r.tab⟩
def Dn(W:Wd)(H0 G:Hp)(D:Ends):Fl→Prop
 |.nx env=>∀σ G' H',SR W H0 env σ G' H'→aK W G H0 G' H'→D.nx σ H'
 |.bk env=>∀σ G' H',SR W H0 env σ G' H'→aK W G H0 G' H'→D.bk σ H'
 |.ct env=>∀σ G' H',SR W H0 env σ G' H'→aK W G H0 G' H'→D.ct σ H'
 |.rt p=>∀v G' H',Rep W G' p v→aK W G H0 G' H'→D.rt v H'
def b9(W:Wd)(H0 G:Hp)(E:XK)(r:Res Fl)(D:Ends):Prop:=match r with
 |.ok f=>Dn W H0 G D f
 |.exc c=>∀Cv ao H',XE W c G H0 Cv ao H'→E Cv ao H'
 |.bad=>False
theorem Dn.on{G G1 H1:Hp}{D:Ends}{f:Fl}(h:Dn W H0 G D f)(g:aK W G H0 G1 H1):Dn W H0 G1 D f:=by
 cases f with
 |nx env=>exact fun σ G' H' r g'=>h σ G' H' r (g.then g')
 |bk env=>exact fun σ G' H' r g'=>h σ G' H' r (g.then g')
 |ct env=>exact fun σ G' H' r g'=>h σ G' H' r (g.then g')
 |rt p=>exact fun v G' H' r g'=>h v G' H' r (g.then g')
theorem b9.on{G G1 H1:Hp}{D:Ends}{r:Res Fl}(h:b9 W H0 G E r D)(g:aK W G H0 G1 H1):b9 W H0 G1 E r D:=by
 cases r with
 |ok f=>exact Dn.on h g
 |exc c=>
  intro Cv ao H' x;obtain⟨C,a,G',e1,e2,e3,e4,g2⟩:=x
  exact h Cv ao H' ⟨C,a,G',e1,e2,e3,e4,g.then g2⟩
 |bad=>exact h
noncomputable def tS(W:Wd)(F:ba)(H0:Hp)(E:XK)(s:S):TS:=fun D σ H=>∃G env,SR W H0 env σ G H∧b9 W H0 G E (aN F s env) D
noncomputable def M4(W:Wd)(F:ba)(H0:Hp)(E:XK)(ss:Ss):TS:=fun D σ H=>∃G env,SR W H0 env σ G H∧b9 W H0 G E (ai F ss env) D
abbrev GS(X:Cx)(W:Wd)(F:ba)(H0:Hp)(E:XK)(s:S)(p:Stmt):Prop:=PS X p (tS W F H0 E s)
abbrev Au(X:Cx)(W:Wd)(F:ba)(H0:Hp)(E:XK)(s:Ss)(p:List Stmt):Prop:=PSs X p (M4 W F H0 E s)
theorem _root_.L2.PS.imp{p:Stmt}{t t':TS}(h:PS X p t)(i:∀D σ H,t' D σ H→t D σ H):PS X p t':=fun pins s σ H D I hw=>h pins s σ H D I (i D σ H hw)
theorem _root_.L2.PSs.imp{p:List Stmt}{t t':TS}(h:PSs X p t)(i:∀D σ H,t' D σ H→t D σ H):PSs X p t':=fun pins s σ H D I hw=>h pins s σ H D I (i D σ H hw)
structure dS(Γ:Pg)(F:ba)(W:Wd)(N:List Str)(sc:Scope)(k:Nat)(E:XK)(X:Cx):Prop where
 C:dH Γ F W N sc k X
 fn:∀x,X.fn x=true
 own:PassesOwn (model X.prog X.w) X.A X.env X.xe
 pass:Passes (dF X.prog X.w) X E
 kind:sc.kind=.function
 stk:X.stack=X.env::X.outer
 frame:X.env.frame=some X.env.locals
 xs:∀c,Γ.rs.contains c=true→c∈W.xs
 rm:∀c,Γ.rs.contains c=true→∃C,X.mg c=some (.ref C)
 rz:∀(c z:Str) (j:Nat) (np zp cp pos:Pos),Γ.rs.contains c=true→iW sc c=true→okN c=true→PS X (.Raise (some (.Call (.Name c np) [.Constant (.str z) j zp] [] cp)) none pos) (fun _ _ H=>∀C e,X.mg c=some (.ref C)→H e=none→E (.ref C) (some e) H)
 exm:Γ.cs.contains "FloorError"=true→∀c D,c∈W.xs→X.mg c=some (.ref D)→∀T,X.mg "FloorError"=some (.ref T)→PySem.W.exmOne X.K (.ref D) (.ref T)=some true
theorem A9(S:dS Γ F W N sc k E X){c:Str}{σ:St}{Gs G H:Hp}(g:aK W Gs H0 G H)(h:∀Cv ao H',XE W c Gs H0 Cv ao H'→E Cv ao H'):rW X W σ c G H:=fun pins G1 H1 s1 e s' I g1 x=>
 S.pass pins σ H1 s1 e s' I (AY.imp x fun Cv a H' y=>h Cv a H' (by
  obtain⟨C,a',G',e1,e2,e3,e4,g2⟩:=y
  have g3:=g1.trans g2
  exact⟨C,a',G',e1,e2,e3,e4,g.g.trans g3.g,g.h.trans g3.h,g3.sub,fun x h1 h3 h2=>g3.own x (fun z=>h1 (g.h.free z)) (g.h.notup h1 h3) (g.own x h1 h3 h2),fun t=>g3.tab (g.tab t)⟩))
theorem b9.bind{α:Type}(S:dS Γ F W N sc k E X){r:Res α}{f:α→Res Fl}{D:Ends}{env:Sl}{σ:St}{G H:Hp}(sr:SR W H0 env σ G H)(h:b9 W H0 G E (r.bind f) D):Out X W r σ G H fun a=>b9 W H0 G E (f a) D:=by
 cases r with
 |ok a=>exact h
 |exc c=>exact A9 S sr.go h
 |bad=>exact h
theorem pY(S:dS Γ F W N sc k E X){env:Sl}{σ:St}{G H:Hp}{e:Ci.E}{f:PV→Res Fl}{D:Ends}{Q:VK}(sr:SR W H0 env σ G H)(o:b9 W H0 G E ((ax F e env).bind f) D)
 (h:∀p v G1 H1,aK W G H G1 H1→Got W H0 G1 H1 e p v→SR W H0 env σ G1 H1→b9 W H0 G1 E (f p) D→Q v H1):tE X W F e σ H Q:=
 ⟨H0,G,env,sr,(o.bind S sr).imp fun p hp v G1 H1 g1 t=>h p v G1 H1 g1 t (sr.grow g1) (hp.on (sr.on g1))⟩
theorem DM(S:dS Γ F W N sc k E X){env:Sl}{σ:St}{G H:Hp}{e:Ci.E}{f:Bool→Res Fl}{D:Ends}{Q:Bool→Hp→Prop}(sr:SR W H0 env σ G H)(o:b9 W H0 G E ((ax F e env).bind fun p=>rY p f) D)
 (h:∀b G1 H1,aK W G H G1 H1→SR W H0 env σ G1 H1→b9 W H0 G1 E (f b) D→Q b H1):tT X W F e σ H Q:=by
 refine⟨H0,G,env,sr,(o.bind S sr).imp fun p hp=>?_⟩
 cases p with
 |bl b=>exact⟨b,rfl,fun G1 H1 g1=>h b G1 H1 g1 (sr.grow g1) (b9.on hp (sr.on g1))⟩
 |non=>exact False.elim hp
 |int _=>exact False.elim hp
 |str _=>exact False.elim hp
 |tup _=>exact False.elim hp
 |lst _=>exact False.elim hp
 |exc _=>exact False.elim hp
 |dct _ _=>exact False.elim hp
theorem Im(S:dS Γ F W N sc k E X){env:Sl}{σ:St}{G H:Hp}{e:Ci.E}{f:PV→Res Fl}{D:Ends}{Q:VK}(hl:∀env q,ax F e env=.ok q→∃xs,q=.lst xs)(sr:SR W H0 env σ G H)(o:b9 W H0 G E ((ax F e env).bind f) D)
 (h:∀xs a vs G1 H1,aK W G H G1 H1→H1 a=none→ak W G1 xs vs→SR W H0 env σ G1 H1→b9 W H0 G1 E (f (.lst xs)) D→Q (.ref a) (upd H1 a (.lst vs))):tF X W F e σ H Q:=by
 refine⟨H0,G,env,sr,?_⟩;have o2:=o.bind S sr
 cases r:ax F e env with
 |bad=>rw [r] at o2;exact o2
 |exc c=>rw [r] at o2;exact o2
 |ok q=>
  rw [r] at o2;obtain⟨xs,rfl⟩:=hl env q r
  exact⟨xs,rfl,fun a vs G' H' g ha l=>h xs a vs G' H' g ha l (sr.grow g) (b9.on o2 (sr.on g))⟩
end
section
variable{Γ:Pg}{X:Cx}{W:Wd}{F:ba}{N:List Str}{sc:Scope}{k:Nat}{H0:Hp}{E:XK}
theorem nu{p:Expr}{t:Option Expr}{l:Nat}{env:Env}(h:oj p=true):swapsWith p t l env=pure false:=by
 cases p<;>first|rfl|(exact aq h)
theorem jx{elt:Expr}{gens:List Comprehension}{s:Scope}{p:Pos}{x:Str}{xp:Pos}{l:Nat}(hsc:X.env.scope=sc)(hk:sc.kind=.function):swapsWith (.ListComp elt gens s p) (some (.Name x xp)) l X.env=pure (MI sc x xp (.ListComp elt gens s p)):=by
 have hb:X.env.blockKind=.function:=by
  unfold Env.blockKind;rw [hsc,hk]
  rfl
 show(pure (X.env.blockKind==.function&&X.env.kindOf x==some .local&&xp.line==p.line&&!(s.names.any fun(n,k)=>n==x&&(k==.local||k==.cell))):Sem Bool)=_
 rw [hb];show(pure (true&&X.env.scope.names.lookup x==some .local&&_&&_):Sem Bool)=_
 rw [hsc]
 rfl
theorem C6(S:dS Γ F W N sc k E X){e:Ci.E}{p:Expr}{pos:Pos}(he:GE X W F e p)(hn:oj p=true):GS X W F H0 E (.expr e) (.Expr p pos):=
 L2.PS.imp (nv he (nu hn)) fun D σ H h=>by
  obtain⟨G,env,sr,o⟩:=h
  rw [aN] at o;exact pY S sr o fun q v G1 H1 g t bV o1=>o1 σ G1 H1 bV bV.go
theorem Gr(S:dS Γ F W N sc k E X){e:Ci.E}{p:Expr}{pos:Pos}(dv:fI e=true)(he:GE X W F e p):GS X W F H0 E (.ret e) (.Return (some p) pos):=
 L2.PS.imp (FU he) fun D σ H h=>by
  obtain⟨G,env,sr,o⟩:=h
  rw [aN] at o;exact pY S sr o fun q v G1 H1 g t bV o1=>o1 v G1 H1 (t.rep dv) bV.go
theorem xj(S:dS Γ F W N sc k E X){c m:Str}{j:Nat}{np zp cp pos:Pos}(h1:Γ.rs.contains c=true)(h2:iW sc c=true)(h3:okN c=true):GS X W F H0 E (.raise c m) (.Raise (some (.Call (.Name c np) [.Constant (.str m) j zp] [] cp)) none pos):=
 L2.PS.imp (S.rz c m j np zp cp pos h1 h2 h3) fun D σ H h C e hC he=>by
  obtain⟨G,env,sr,o⟩:=h
  rw [aN] at o;exact o _ _ _ ⟨C,e,G,rfl,rfl,S.xs c h1,by rw [S.C.mg];exact hC,sr.go⟩
theorem dn(S:dS Γ F W N sc k E X){i:Nat}{x:Str}(h:N[i]?=some x)(hl:dW sc x=true):X.N.Nodup∧X.N[i]?=some x∧Loc X.env.scope x:=by
 refine⟨by rw [S.C.hN];exact S.C.nd,by rw [S.C.hN];exact h,yq S.C.hsc hl⟩
theorem Gb(S:dS Γ F W N sc k E X){i:Nat}{x:Str}{e:Ci.E}{p:Expr}{xp pos:Pos}(h:N[i]?=some x)(hl:dW sc x=true)(dv:fI e=true)(he:GE X W F e p)(hs:swapsWith p (some (.Name x xp)) pos.line X.env=pure false):GS X W F H0 E (.set i e) (.Assign [.Name x xp] p pos):=by
 obtain⟨a1,a2,a3⟩:=dn S h hl
 refine L2.PS.imp (iI a1 a2 a3 he hs (.inl (S.fn x))) fun D σ H h=>?_
 obtain⟨G,env,sr,o⟩:=h
 rw [aN] at o;exact pY S sr o fun q v G1 H1 g t bV o1=>o1 _ G1 H1 (bV.set i (t.rep dv)) bV.go
noncomputable def HB(X:Cx)(W:Wd)(F:ba)(i:Nat)(e:Ci.E):TS:=fun D σ H=>tF X W F e σ H fun v H1=>D.nx (σ.set i (some v)) H1
theorem Iu{e:Ci.E}(hl:∀env q,ax F e env=.ok q→∃xs,q=.lst xs)(σ:St)(H:Hp)(Q:VK)(h:tE X W F e σ H Q):tF X W F e σ H Q:=by
 obtain⟨H0,G,env,sr,o⟩:=h
 refine⟨H0,G,env,sr,?_⟩;cases r:ax F e env with
 |bad=>rw [r] at o;exact o
 |exc c=>rw [r] at o;exact o
 |ok q=>
  rw [r] at o;obtain⟨xs,rfl⟩:=hl env q r
  exact⟨xs,rfl,fun a vs G' H' g ha l=>o _ _ _ (g.trans (.new g.sub ha)) (.of (.l (.inl (.inl au)) (ak.same (bD (g.sub.free ha)) xs l)))⟩
theorem BQ(S:dS Γ F W N sc k E X){i:Nat}{e:Ci.E}{p:Stmt}(hl:∀env q,ax F e env=.ok q→∃xs,q=.lst xs)(dv:fI e=true)(h:PS X p (HB X W F i e)):GS X W F H0 E (.set i e) p:=
 L2.PS.imp h fun D σ H hq=>by
  obtain⟨G,env,sr,o⟩:=hq
  rw [aN] at o;refine Iu hl σ H _ (pY S sr o fun q v G1 H1 g t bV o1=>?_);exact o1 _ G1 H1 (bV.set i (t.rep dv)) bV.go
theorem Cz(S:dS Γ F W N sc k E X){i:Nat}{x:Str}{e:Ci.E}{p:Stmt}(hi:N[i]?=some x)(hl:∀env q,ax F e env=.ok q→∃xs,q=.lst xs)(h:PS X p (HB X W F i e)):GS X W F H0 E (.own i e) p:=by
 intro pins s σ H D I hq;have Kj:i<σ.length:=by rw [I.len,S.C.hN];exact(zzH.mp hi).1
 refine h pins s σ H D I ?_;obtain⟨G,env,sr,o⟩:=hq
 rw [aN] at o;refine Im S hl sr o fun xs a vs G1 H1 g ha l bV o1=>?_
 have hO:Own W H0 G1 (upd H1 a (.lst vs)) (.lst xs) (.ref a):=⟨a,vs,rfl,au,bV.sub.free ha,bV.base.free ha,l⟩
 obtain⟨r2,g2⟩:=rO bV bV.go (i:=i) (by rw [bV.len];exact Kj) ha hO
 exact o1 _ G1 _ r2 g2
theorem nt{i:Nat}{x:Str}{e:Ci.E}{p:Expr}{xp pos:Pos}(S:dS Γ F W N sc k E X)(h:N[i]?=some x)(hl:dW sc x=true)(he:GF X W F e p)(hs:swapsWith p (some (.Name x xp)) pos.line X.env=pure false):PS X (.Assign [.Name x xp] p pos) (HB X W F i e):=by
 obtain⟨a1,a2,a3⟩:=dn S h hl
 exact iI a1 a2 a3 he hs (.inl (S.fn x))
theorem zt(S:dS Γ F W N sc k E X){i:Nat}{x:Str}{xp fe:Pos}(hx:N[i]?=some x)(BI:dW sc x=true){kk:Nat}{bf:List Nat}{tg:Tg}{it:I}{elt:Ci.E}{cm eK dA:Expr}{scope:Scope}{pos:Pos}(h:kc N sc scope kk bf (aR cm))(bR:jf kk tg=true)(dv:fI elt=true)(hi:GI X W F cm it eK)(hfs:∀x,foldedSetIterable eK X.env x=pure x)
 (zN:gv (aR cm++freeOf scope) (cZ scope sc) (jY scope) tg cm=true) (he:∀Y,dH Γ.nol F W (aR cm++freeOf scope) (cZ scope sc) k Y→GE Y W F elt dA):PS X (.Assign [.Name x xp] (.ListComp dA [⟨cm,eK,[],0⟩] scope pos) fe) (HB X W F i (.comp kk bf tg it elt)):=by
 obtain⟨a1,a2,a3⟩:=dn S hx BI
 cases zX:MI sc x xp (.ListComp dA [⟨cm,eK,[],0⟩] scope pos) with
 |false=>exact nt S hx BI (tO S.C h bR dv hi hfs zN he) (by rw [jx S.C.hsc S.kind,zX])
 |true=>
  intro pins s σ H D I hq;have Fd:(freeOf scope).Nodup:=(List.nodup_append.mp h.nd).2.1
  have rd:=tY (N:=N) S.C.K bR dv h.slots Fd σ H _ hq
  have:=sY (g:=gT X.K tg) (te:=tN W F elt) (xs:=aR cm) (ys:=freeOf scope) (is:=bf) (pos:=pos) a1 a2 a3 S.C.calm (oA S.C.hN S.C.hsc I.ok h) hi
   (fun fp s1 H1 A=>zO (fn:=jY scope) (X:=bS X (aR cm++freeOf scope) scope (bF X.env (freeOf scope)) fp s1 H1 A) rfl h.nd (eC S.C.hsc) rfl (fun _ z=>z) zN)
   (fun fp s1 H1 A=>L2.PE.imp (he _ (eB S.C h fp s1 H1 A)) fun σ H Q z=>uU σ H Q z) (by rw [jx (l:=fe.line) S.C.hsc S.kind,zX]) hfs (.inl (S.fn x)) pins s σ H D I
  rw [h.len] at this;exact this rd
theorem sE(S:dS Γ F W N sc k E X){i:Nat}{x:Str}{xp fe:Pos}(hx:N[i]?=some x)(BI:dW sc x=true){kk:Nat}{bf:List Nat}{tg:Tg}{it:I}{c elt:Ci.E}{cm eK pc dA:Expr}{scope:Scope}{pos:Pos}(h:kc N sc scope kk bf (aR cm))(bR:jf kk tg=true)(dv:fI elt=true)(hi:GI X W F cm it eK)(hfs:∀x,foldedSetIterable eK X.env x=pure x)
 (zN:gv (aR cm++freeOf scope) (cZ scope sc) (jY scope) tg cm=true) (hc:∀Y,dH Γ.nol F W (aR cm++freeOf scope) (cZ scope sc) k Y→GT Y W F c pc) (he:∀Y,dH Γ.nol F W (aR cm++freeOf scope) (cZ scope sc) k Y→GE Y W F elt dA):PS X (.Assign [.Name x xp] (.ListComp dA [⟨cm,eK,[pc],0⟩] scope pos) fe) (HB X W F i (.compIf kk bf tg it c elt)):=by
 obtain⟨a1,a2,a3⟩:=dn S hx BI
 cases zX:MI sc x xp (.ListComp dA [⟨cm,eK,[pc],0⟩] scope pos) with
 |false=>exact nt S hx BI (mw S.C h bR dv hi hfs zN hc he) (by rw [jx S.C.hsc S.kind,zX])
 |true=>
  intro pins s σ H D I hq;have Fd:(freeOf scope).Nodup:=(List.nodup_append.mp h.nd).2.1
  have rd:=mK (N:=N) S.C.K bR dv h.slots Fd σ H _ hq
  have:=pC (g:=gT X.K tg) (tt:=KQ W F c) (te:=tN W F elt) (xs:=aR cm) (ys:=freeOf scope) (is:=bf) (pos:=pos) a1 a2 a3 S.C.calm (oA S.C.hN S.C.hsc I.ok h) hi
   (fun fp s1 H1 A=>zO (fn:=jY scope) (X:=bS X (aR cm++freeOf scope) scope (bF X.env (freeOf scope)) fp s1 H1 A) rfl h.nd (eC S.C.hsc) rfl (fun _ z=>z) zN)
   (fun fp s1 H1 A=>L2.PT.imp (hc _ (eB S.C h fp s1 H1 A)) fun σ H Q z=>xV σ H Q z)
   (fun fp s1 H1 A=>L2.PE.imp (he _ (eB S.C h fp s1 H1 A)) fun σ H Q z=>uU σ H Q z) (by rw [jx (l:=fe.line) S.C.hsc S.kind,zX]) hfs (.inl (S.fn x)) pins s σ H D I
  rw [h.len] at this;exact this rd
theorem vD{tg:Tg}{p:PV}{env:Sl}(c:Str):Tg.put tg p env≠.exc c:=by
 unfold Tg.put;split<;>exact fun z=>nomatch z
theorem E7(S:dS Γ F W N sc k E X){c:Ci.E}{a b:Ss}{p:Expr}{pa pb:List Stmt}{pos:Pos}(hc:GT X W F c p)(ha:Au X W F H0 E a pa)(hb:Au X W F H0 E b pb):GS X W F H0 E (.ite c a b) (.If p pa pb pos):=
 L2.PS.imp (Ja hc ha hb) fun D σ H h=>by
  obtain⟨G,env,sr,o⟩:=h
  rw [aN] at o;refine DM S sr o fun t G1 H1 g bV o1=>?_
  cases t with
  |true=>
   rw [if_pos rfl] at o1⊢;exact⟨G1,env,bV,o1⟩
  |false=>
   rw [if_neg zzf] at o1⊢;exact⟨G1,env,bV,o1⟩
theorem Fz(S:dS Γ F W N sc k E X){c:Ci.E}{b:Ss}{p:Expr}{pb:List Stmt}{pos:Pos}(hc:GT X W F c p)(hb:Au X W F H0 E b pb):GS X W F H0 E (.whl c b) (.While p pb [] pos):=
 L2.PS.imp (zE S.own hc hb) fun D σ H h=>by
  obtain⟨G,env,sr,o⟩:=h
  rw [aN] at o;refine⟨fun m σ' H'=>∃G' aF,SR W H0 aF σ' G' H'∧aK W G H0 G' H'∧b9 W H0 G' E (cH (ax F c) (ai F b) m aF) D,⟨_,G,env,sr,sr.go,o⟩,?_⟩
  rintro m σ' H' ⟨G',aF,sr',g',o'⟩
  cases m with
  |zero=>exact o'.elim
  |succ m=>
   unfold cH at o';refine DM S sr' o' fun t G1 H1 g1 bV o1=>?_
   cases t with
   |false=>
    rw [if_neg zzf] at o1⊢;exact o1 σ' G1 H1 bV bV.go
   |true=>
    rw [if_pos rfl] at o1⊢;refine⟨fun σ2 H2=>∃G2 eh,SR W H0 eh σ2 G2 H2∧aK W G H0 G2 H2∧b9 W H0 G2 E (cH (ax F c) (ai F b) m eh) D,fun σ2 H2 h2=>⟨m,Nat.lt_succ_self _,h2⟩,G1,aF,bV,?_⟩
    have gg:=g'.then (sr'.on g1)
    cases r:ai F b aF with
    |bad=>rw [r] at o1;exact o1.elim
    |exc cc=>rw [r] at o1;exact o1
    |ok f=>
     rw [r] at o1;cases f with
     |nx eh=>exact fun σ2 G2 H2 eT g2=>⟨G2,eh,eT,gg.then g2,b9.on (show b9 W H0 G1 E (cH (ax F c) (ai F b) m eh) D from o1) g2⟩
     |ct eh=>exact fun σ2 G2 H2 eT g2=>⟨G2,eh,eT,gg.then g2,b9.on (show b9 W H0 G1 E (cH (ax F c) (ai F b) m eh) D from o1) g2⟩
     |bk eh=>exact fun σ2 G2 H2 eT g2=>o1 σ2 G2 H2 eT g2
     |rt q=>exact fun v G2 H2 rv g2=>o1 v G2 H2 rv g2
theorem GL(S:dS Γ F W N sc k E X){tg:Tg}{it:I}{b:Ss}{cm eK:Expr}{pb:List Stmt}{pos:Pos}(zN:gv N sc (fun _=>true) tg cm=true)(hit:Dl it=true)(hi:GI X W F cm it eK)(hfs:∀x,foldedSetIterable eK X.env x=pure x)(hb:Au X W F H0 E b pb):GS X W F H0 E (.for_ tg it b) (.For cm eK pb [] pos):=
 L2.PS.imp (Ge S.own S.C.calm hi (zO (fn:=fun _=>true) S.C.hN S.C.nd S.C.hsc S.C.calm (fun x _=>S.fn x) zN) hb hfs) fun D σ H h=>by
  obtain⟨G,env,sr,o⟩:=h
  rw [aN] at o;refine⟨H0,G,env,sr,(o.bind S sr).imp fun ps ju J G1 H1 g1 gi=>?_⟩
  have frz:=gi.frz hit
  generalize hf:(fun(x:PV) (env:Sl)=>(tg.put x env).bind fun aF=>ai F b aF)=f at ju
  have bV:=sr.grow g1
  refine⟨fun i m σ' H'=>i≤ps.length∧m=ps.length-i∧∃G' aF,SR W H0 aF σ' G' H'∧aK W G1 H0 G' H'∧b9 W H0 G' E (forL f (ps.drop i) aF) D,⟨_,Nat.zero_le _,rfl,G1,env,bV,bV.go,by rw [List.drop_zero];exact b9.on ju (sr.on g1)⟩,?_⟩
  rintro i m σ' H' ⟨Ez,hm,G',aF,sr',g',o'⟩
  obtain⟨ist,igo⟩:=frz i G' H' g'.g (.of (g'.g.trans sr'.sub)) sr'.sub
  by_cases hlast:i=ps.length
  ·refine .inl ⟨ist hlast,?_⟩;rw [hlast,List.drop_length] at o';exact o' σ' G' H' sr' sr'.go
  ·have bR:i<ps.length:=by omega
   obtain⟨hgo,hyld⟩:=igo ps[i] (zzg bR)
   refine .inr ⟨hgo,fun σ2 H2=>i+1≤ps.length∧∃G2 eh,SR W H0 eh σ2 G2 H2∧aK W G1 H0 G2 H2∧b9 W H0 G2 E (forL f (ps.drop (i+1)) eh) D,fun σ2 H2 h2=>⟨ps.length-(i+1),by omega,h2.1,rfl,h2.2⟩,fun x lK hy=>?_⟩
   obtain⟨va,g'',rx⟩:=hyld x lK hy
   rw [List.drop_eq_getElem_cons bR] at o';unfold forL at o';have O8:f ps[i] aF=(tg.put ps[i] aF).bind fun aF=>ai F b aF:=by rw [←hf]
   rw [O8] at o';have eT:=sr'.grow g''
   have g2:=g'.then (sr'.on g'')
   cases r:tg.put ps[i] aF with
   |bad=>rw [r] at o';exact o'.elim
   |exc c=>exact absurd r (vD c)
   |ok eh=>
    rw [r] at o';refine rL S.C.K r eT rx fun σ2 sr3=>⟨va,eh,sr3,?_⟩
    have o2:b9 W H0 va E ((ai F b eh).bind fun fl=>match fl with
     |.nx aF=>forL f (ps.drop (i+1)) aF
     |.ct aF=>forL f (ps.drop (i+1)) aF
     |.bk aF=>.ok (.nx aF)
     |.rt p=>.ok (.rt p)) D:=b9.on o' (sr'.on g'')
    cases r2:ai F b eh with
    |bad=>rw [r2] at o2;exact o2.elim
    |exc cc=>rw [r2] at o2;exact o2
    |ok fl=>
     rw [r2] at o2;cases fl with
     |nx env3=>exact fun σ3 G3 H3 Fo g3=>⟨bR,G3,env3,Fo,g2.then g3,b9.on (show b9 W H0 va E (forL f (ps.drop (i+1)) env3) D from o2) g3⟩
     |ct env3=>exact fun σ3 G3 H3 Fo g3=>⟨bR,G3,env3,Fo,g2.then g3,b9.on (show b9 W H0 va E (forL f (ps.drop (i+1)) env3) D from o2) g3⟩
     |bk env3=>exact fun σ3 G3 H3 Fo g3=>o2 σ3 G3 H3 Fo g3
     |rt q=>exact fun v G3 H3 rv g3=>o2 v G3 H3 rv g3
theorem Dh:Au X W F H0 E .nil []:=L2.PSs.imp CC fun D σ H h=>by
 obtain⟨G,env,sr,o⟩:=h
 rw [ai] at o;exact o σ G H sr sr.go
theorem zM{s:Ci.S}{ss:Ss}{p:Stmt}{ps:List Stmt}(h1:GS X W F H0 E s p)(h2:Au X W F H0 E ss ps):Au X W F H0 E (.cons s ss) (p::ps):=
 L2.PSs.imp (zC h1 h2) fun D σ H h=>by
  obtain⟨G,env,sr,o⟩:=h
  rw [ai] at o;refine⟨G,env,sr,?_⟩;cases r:aN F s env with
  |bad=>rw [r] at o;exact o
  |exc c=>rw [r] at o;exact o
  |ok f=>
   rw [r] at o;cases f with
   |nx eh=>exact fun σ2 G2 H2 eT g2=>⟨G2,eh,eT,b9.on (show b9 W H0 G E (ai F ss eh) D from o) g2⟩
   |bk eh=>exact o
   |ct eh=>exact o
   |rt q=>exact o
theorem A0{i:Nat}{ss:Ss}{ps:List Stmt}(h:Au X W F H0 E ss ps):Au X W F H0 E (.cons (.frz i) ss) ps:=by
 intro pins s σ H D I hq;obtain⟨G,env,sr,o⟩:=hq
 rw [ai,aN] at o;rcases F2 sr sr.go i with⟨G',sr',g'⟩|⟨a,aB,ha,k⟩
 ·exact h pins s σ H D I ⟨G',_,sr',b9.on (show b9 W H0 G E (ai F ss (env.modify i oH)) D from o) g'⟩
 ·obtain⟨ob,J⟩:=I.freeze ha
  obtain⟨G',sr',g'⟩:=k ob
  exact h pins s σ _ D J ⟨G',_,sr',b9.on (show b9 W H0 G E (ai F ss (env.modify i oH)) D from o) g'⟩
end
end Ci
namespace L2
open PySem PySem.Spec PyProof.Rows
noncomputable def MM(tk tv:TE):TE:=fun σ H Q=>∀p,H p=none→tk σ (upd H p (.dT [])) fun x H1=>tv σ H1 fun y H2=>∃b ks,x=.ref b∧H2 p=some (.dT [])∧H2 b=some (.tup (ks.map kV))∧Q (.ref p) (upd H2 p (.dT (putK [] ks y)))
theorem GQ{X:Cx}{pos:Pos}{k v:Expr}{tk tv:TE}(hu:X.A.units<cLine)(hk:PE X k tk)(hv:PE X v tv):PE X (.Dict [some k] [v] pos) (MM tk tv):=by
 intro pins s σ H Q I q;have hn:=I.hok.fresh (zzE s.heap.objs.size)
 have I1:=I.laid (a:=s.heap.objs.size) (o:=.dT []) (h':=s.heap.push {cls:=.type "dict",data:=.dict #[]}) (t':=s.toks) (fun _ _ q=>zzB _ q) (zzE _) (qf s.heap I.big)
 refine wpAny_Dict_any rfl rfl (by simp) (show 1≤15 by decide) (pairTrees_cons_walk (bJ (hk pins _ σ _ _ I1 (q _ hn)) fun u s1 ⟨x,H1,I1',rx,q1⟩=>bJ (hv pins s1 σ H1 _ I1' q1) fun w2 s2 ⟨y,H2,I2,ry,q2⟩=>pairTrees_nil_walk ?_))
 obtain⟨b,ks,rfl,e,hb,q3⟩:=q2
 cases rx;unfold storeAll;refine wpAny_forIn_list _ (fun rest _ s'=>(rest=[(Value.ref b,w2)]∧s'=s2)∨(rest=[]∧∃v' H',Inv X pins σ H' s'∧RelV v' (.ref s.heap.objs.size)∧Q v' H')) _ (fun x rest _ s' hI=>?_) (fun _ s' hI=>?_) _ _ (.inl ⟨rfl,rfl⟩)
 ·rcases hI with⟨h1,rfl⟩|⟨h1,_⟩
  ·cases h1;refine zzA (Et hu I2 e hb (by decide) ry fun h' t hs I3=>zzG (.inr ⟨rfl,.ref _,_,I3,rfl,q3⟩))
  ·cases h1
 ·rcases hI with⟨h1,_⟩|⟨_,v',H',I',r',q'⟩
  ·cases h1
  ·exact⟨v',H',I',r',q'⟩
end L2
namespace Ci
open PySem L2
section
variable{Γ:Pg}{X:Cx}{W:Wd}{F:ba}{N:List Str}{sc:Scope}{k:Nat}{H0:Hp}{E:XK}
theorem rP(hK:W.K=X.K):KS X "list.extend" (fun x vs H Q=>∃l b xs zs,x=.ref l∧vs=[.ref b]∧H l=some (.lst xs)∧LsR W.K H b zs∧xs.length+zs.length≤sizeLine∧Q .non (upd H l (.lst (xs++zs)))):=by
 intro pins s σ H x vs v us Q I rx rv h;obtain⟨l,b,xs,zs,rfl,rfl,hH,hB,hz,q⟩:=h
 cases rx;obtain⟨u,rfl,ru⟩:=Vals.one rv
 cases ru;obtain⟨z,aA,n,r,hl,e⟩:=I.lstM hH
 obtain⟨aL,n2,r2,Mf,z2,e2⟩:=BZ hK I hB
 have hsz:aA.toArray.size+aL.toArray.size≤sizeLine:=by rw [zzC,zzC];omega
 have IG:¬(!aA.toArray.isEmpty&&Builtin.List.listTooLong (aA.toArray.size+aL.toArray.size))=true:=by
  rw [zw hsz,Bool.and_false];exact zzf
 refine PySem.call_meets PySem.F.slot_list_extend ⟨_,e,rfl⟩ PySem.F.entry_list_extend (PySem.F.args_list_extend_2 _ _)
  (PySem.AutoSeq1.list_extend_list_list_0 l aA.toArray n b aL.toArray n2 IG (by rw [zzC];omega) (by omega)) ⟨e,e2,?_⟩
 refine⟨.non,_,I.lset (its':=aA++aL) hH e (by simp) (r.append r2) ?_,rfl,q⟩;rw [zzM];omega
theorem fy(S:dS Γ F W N sc k E X){i:Nat}{x:Str}{pos:Pos}(h:N[i]?=some x)(hv:dB sc x=true)(ho:okN x=true):PE X (.Name x pos) (y9 i):=
 d9 (by rw [S.C.hN];exact h) (lx S.C hv) (cY ho).1 (cY ho).2.1
theorem nU{env:Sl}{σ:St}{G H:Hp}{i:Nat}{xs:List PV}(sr:SR W H0 env σ G H)(h:env[i]?=some (.own (.lst xs))):∃a vs,σ[i]?=some (some (.ref a))∧H a=some (.lst vs)∧G a=none∧H0 a=none∧ak W G xs vs:=by
 obtain⟨o,ho,v,rfl,a,vs,rfl,h1,h2,h3,l⟩:=sr.slot i _ h
 exact⟨a,vs,ho,h1,h2,h3,l⟩
theorem Fg(S:dS Γ F W N sc k E X){i:Nat}{x:Str}{e:Ci.E}{p:Expr}{np apos bA pos:Pos}(h:N[i]?=some x)(hv:dB sc x=true)(ho:okN x=true)(eE:(apos.endLine==bA.line)=true)(dv:fI e=true)(he:GE X W F e p)
 (df:∀env ps,starEach (p::ps) env=(false,eval p env)::starEach ps env):GS X W F H0 E (.app i e) (.Expr (.Call (.Attribute (.Name x np) "append" apos) [p] [] bA) pos):=by
 refine L2.PS.imp (nv (yu PySem.F.plainAttrs_list PySem.F.slot_list_append PySem.F.type_list_append wg (fy S h hv ho) (cA he d8 (df _ _)) rfl (by rw [df];rfl) eE (df _ _) rfl) rfl) fun D σ H hq=>?_
 obtain⟨G,env,sr,o⟩:=hq
 rw [aN] at o;split at o
 ·rename_i xs hx;obtain⟨a,vs,hs,h1,h2,h3,l⟩:=nU sr hx
  refine⟨.ref a,hs,.inl ⟨rfl,_,iU.of h1⟩,pY S sr o fun q v G1 H1 g t bV o1=>?_⟩
  split at o1
  ·rename_i hl;have jo:=g.h.at h1 (fun _ z=>nomatch z)
   have mZ:=g.own a (by rw [h1];exact fun z=>nomatch z) (by rw [h1];exact fun _ z=>nomatch z) h2
   have l':=ak.same g.g xs l
   refine⟨a,vs,v,rfl,rfl,jo,by rw [l.length];exact zzW hl (by decide),?_⟩;obtain⟨r2,g2⟩:=iX (p':=.lst (xs++[q])) (ob:=.lst (vs++[v])) bV bV.go hx hs mZ h3 ⟨a,_,rfl,au,mZ,h3,l'.append (.cons (t.rep dv) .nil)⟩
   exact o1 _ G1 _ r2 g2
  ·exact o1.elim
 ·exact o.elim
theorem Dq(S:dS Γ F W N sc k E X){i:Nat}{x:Str}{e:Ci.E}{p:Expr}{np apos bA pos:Pos}(h:N[i]?=some x)(hv:dB sc x=true)(ho:okN x=true)(eE:(apos.endLine==bA.line)=true)(he:GE X W F e p)
 (df:∀env ps,starEach (p::ps) env=(false,eval p env)::starEach ps env):GS X W F H0 E (.extd i e) (.Expr (.Call (.Attribute (.Name x np) "extend" apos) [p] [] bA) pos):=by
 refine L2.PS.imp (nv (yu PySem.F.plainAttrs_list PySem.F.slot_list_extend PySem.F.type_list_extend (rP S.C.K) (fy S h hv ho) (cA he d8 (df _ _)) rfl (by rw [df];rfl) eE (df _ _) rfl) rfl) fun D σ H hq=>?_
 obtain⟨G,env,sr,o⟩:=hq
 rw [aN] at o;split at o
 ·rename_i xs hx;obtain⟨a,vs,hs,h1,h2,h3,l⟩:=nU sr hx
  refine⟨.ref a,hs,.inl ⟨rfl,_,iU.of h1⟩,pY S sr o fun q v G1 H1 g t bV o1=>?_⟩
  split at o1
  ·rename_i ys;split at o1
   ·rename_i hl;have jo:=g.h.at h1 (fun _ z=>nomatch z)
    have mZ:=g.own a (by rw [h1];exact fun z=>nomatch z) (by rw [h1];exact fun _ z=>nomatch z) h2
    have l':=ak.same g.g xs l
    obtain⟨b,us,rfl,hb,lb⟩:=t.top.lst bV.sub
    refine⟨a,b,vs,us,rfl,rfl,jo,hb,by rw [l.length,lb.length];exact iV hl,?_⟩;obtain⟨r2,g2⟩:=iX (p':=.lst (xs++ys)) (ob:=.lst (vs++us)) bV bV.go hx hs mZ h3 ⟨a,_,rfl,au,mZ,h3,l'.append lb⟩
    exact o1 _ G1 _ r2 g2
   ·exact o1.elim
  ·exact o1.elim
 ·exact o.elim
def ID:V→V→V→Hp→(Hp→Prop)→Prop:=fun o i v H Q=>∃a H',o=.ref a∧vL H a i v H'∧Q H'
theorem uS(hu:X.A.units+1<cLine):HW X ID:=by
 intro pins s σ H o i v ov iv u Q I ro ri rv h;obtain⟨a,H',rfl,g,q⟩:=h
 cases ro;exact vF hu I g ri rv fun s' I'=>⟨H',I',q⟩
theorem g9{env:Sl}{σ:St}{G H:Hp}{i:Nat}{ks:List (List Int)}{ps:List PV}(sr:SR W H0 env σ G H)(h:env[i]?=some (.own (.dct ks ps))):∃a us,σ[i]?=some (some (.ref a))∧ks.length=us.length∧H a=some (.dT (kz ks us))∧G a=none∧H0 a=none∧ak W G ps us:=by
 obtain⟨o,ho,v,rfl,a,us,rfl,n,h1,h2,h3,l⟩:=sr.slot i _ h
 exact⟨a,us,ho,n,h1,h2,h3,l⟩
theorem F3(S:dS Γ F W N sc k E X){i:Nat}{x:Str}{kk e:Ci.E}{pk p:Expr}{np fe pos:Pos}(h:N[i]?=some x)(hv:dB sc x=true)(ho:okN x=true)(dv:fI e=true)(Na:br Γ N sc kk pk=true)(hk:GE X W F kk pk)(he:GE X W F e p):GS X W F H0 E (.put i kk e) (.Assign [.Subscript (.Name x np) pk fe] p pos):=by
 have zX:swappedStores [.Subscript (.Name x np) pk fe] p X.env=pure none:=by cases p<;>rfl
 have ha:∀v,assign (.Subscript (.Name x np) pk fe) X.env v=(do
  let ov←holding [v] (eval (.Name x np) X.env)
  let iv←holding [v,ov] (eval pk X.env)
  standAt fe
  holding [v,ov,iv] (setItem ov iv v)
  release [v,ov,iv] []):=by
  intro v;cases pk<;>first|rfl|(cases kk<;>first|(exact aq Na)|(rename_i q;cases q<;>exact aq Na))
 refine L2.PS.imp (yI he (yc (fy S h hv ho) hk (uS (by have:=S.C.room.un;omega)) ha) (by cases p<;>rfl) zX) fun D σ H hq=>?_
 obtain⟨G,env,sr,o⟩:=hq
 rw [aN] at o;refine pY S sr o fun q v G1 H1 g t bV o1=>?_
 split at o1
 ·rename_i ks ps hx;obtain⟨a,us,hs,n,h1,h2,h3,l⟩:=g9 bV hx
  refine⟨.ref a,hs,pY S bV o1 fun q2 v2 G2 H2 g2 t2 eT o2=>?_⟩
  split at o2
  ·rename_i kk GP;split at o2
   ·rename_i vN;have e2:=fQ GP
    subst e2;obtain⟨b,rfl,hb⟩:=t2.top.tupI (ns:=kk) eT.sub rfl
    have jo:=g2.h.at h1 (fun _ z=>nomatch z)
    have mZ:=g2.own a (by rw [h1];exact fun z=>nomatch z) (by rw [h1];exact fun _ z=>nomatch z) h2
    have l':=ak.same g2.g ps l
    refine⟨a,upd H2 a (.dT (putK (kz ks us) (ki kk) v)),rfl,vL.t jo (by rw [qh];exact eT.sub _ _ hb) (by rw [eY n];exact zzW vN (by decide)),?_⟩;rw [zW n];obtain⟨r2,gg⟩:=iX (p':=.dct (aX ks kk) (bu ks ps kk q)) (ob:=.dT (kz (aX ks kk) (bu ks us kk v))) eT eT.go hx hs mZ h3 ⟨a,_,rfl,qA n kk v,au,mZ,h3,uI l' (Rep.same g2.g q (t.rep dv))⟩
    exact o2 _ G2 _ r2 gg
   ·exact o2.elim
  ·exact o2.elim
 ·exact o1.elim
theorem C9(S:dS Γ F W N sc k E X){i:Nat}{x:Str}{np dp pos:Pos}(h:N[i]?=some x)(hl:dW sc x=true):GS X W F H0 E (.dnew i) (.Assign [.Name x np] (.Dict [] [] dp) pos):=by
 obtain⟨a1,a2,a3⟩:=dn S h hl
 intro pins s σ H D I hq;have Kj:i<σ.length:=by rw [I.len,S.C.hN];exact(zzH.mp h).1
 refine iI a1 a2 a3 xS rfl (.inl (S.fn x)) pins s σ H D I ?_;obtain⟨G,env,sr,o⟩:=hq
 rw [aN] at o;intro p hp;obtain⟨r2,g2⟩:=rO (i:=i) (p:=.dct [] []) (ob:=.dT []) sr sr.go (by rw [sr.len];exact Kj) hp ⟨p,[],rfl,rfl,au,sr.sub.free hp,sr.base.free hp,.nil⟩
 exact o _ G _ r2 g2
theorem Ak(S:dS Γ F W N sc k E X){i n:Nat}{x z:Str}{b:Bool}{np zp dp cp pos:Pos}{j:Nat}(h:N[i]?=some x)(hl:dW sc x=true)(hz:N[n]?=some z)(KD:dB sc z=true)(Ke:okN z=true):GS X W F H0 E (.dnew1 i n b) (.Assign [.Name x np] (.Dict [some (.Name z zp)] [.Constant (.bool b) j cp] dp) pos):=by
 obtain⟨a1,a2,a3⟩:=dn S h hl
 intro pins s σ H D I hq;have Kj:i<σ.length:=by rw [I.len,S.C.hN];exact(zzH.mp h).1
 refine iI a1 a2 a3 (GQ (by have:=S.C.room.un;omega) (d9 (by rw [S.C.hN];exact hz) (lx S.C KD) (cY Ke).1 (cY Ke).2.1) DA) rfl (.inl (S.fn x)) pins s σ H D I ?_;obtain⟨G,env,sr,o⟩:=hq
 rw [aN] at o;intro p hp;cases e:env[n]? with
 |none=>rw [e] at o;exact o.elim
 |some sl=>
  rw [e] at o;cases sl with
  |val kp=>
   cases hk:gK kp with
   |none=>
    have o':b9 W H0 G E ((Res.of (gK kp)).bind fun kk=>Res.ok (Fl.nx (env.set i (.own (.dct [kk] [.bl b]))))) D:=o
    rw [hk] at o';exact o'.elim
   |some kk=>
    have o':b9 W H0 G E ((Res.of (gK kp)).bind fun kk=>Res.ok (Fl.nx (env.set i (.own (.dct [kk] [.bl b]))))) D:=o
    rw [hk] at o';have e2:=fQ hk
    subst e2;obtain⟨v,hv,rv⟩:=sr.slot n _ e
    obtain⟨v',rfl,rv⟩:=rv
    obtain⟨ad,rfl,hb⟩:=nW rv
    have hH:=sr.sub _ _ hb
    have gH:ad≠p:=fun q=>by rw [q,hp] at hH;cases hH
    refine⟨.ref ad,hv,ad,ki kk,rfl,au,by rw [af gH,qh];exact hH,?_⟩;obtain⟨r2,g2⟩:=rO (i:=i) (p:=.dct [kk] [.bl b]) (ob:=.dT (kz [kk] [V.bl b])) sr sr.go (by rw [sr.len];exact Kj) hp ⟨p,[V.bl b],rfl,rfl,au,sr.sub.free hp,sr.base.free hp,.cons .b .nil⟩
    have uu:upd (upd H p (.dT [])) p (.dT (putK [] (ki kk) (V.bl b)))=upd H p (.dT (kz [kk] [V.bl b])):=by
     funext q
     by_cases hq:q=p
     ·subst hq;rw [au,au];rfl
     ·rw [af hq,af hq,af hq]
    rw [uu];exact o' _ G _ r2 g2
  |no=>exact o.elim
  |own _=>exact o.elim
  |fn _ _ _=>exact o.elim
theorem wy(S:dS Γ F W N sc k E X){i j n:Nat}{x y z:Str}{np zp fe yp apos ND bA pos:Pos}(h:N[i]?=some x)(hv:dB sc x=true)(ho:okN x=true)(hz:N[n]?=some z)(KD:dB sc z=true)(Ke:okN z=true)(hy:N[j]?=some y)(Pu:dB sc y=true)(PO:okN y=true)
 (eE:(apos.endLine==bA.line)=true):GS X W F H0 E (.putPop i j n) (.Assign [.Subscript (.Name x np) (.Name z zp) fe] (.Call (.Attribute (.Name y yp) "pop" apos) [.Name z ND] [] bA) pos):=by
 have hu:X.A.units+1<cLine:=by have:=S.C.room.un;omega
 refine L2.PS.imp (yI (BU hu (fy S hy Pu PO) (fy S hz KD Ke) ⟨rfl,rfl,eE,rfl⟩) (yc (fy S h hv ho) (fy S hz KD Ke) (uS hu) fun _=>rfl) (by unfold swapsWithSole;exact nu rfl) rfl) fun D σ H hq=>?_
 obtain⟨G,env,sr,o⟩:=hq
 rw [aN] at o;split at o
 ·rename_i ks ps ks2 ps2 kp e1 e2 e3;split at o
  ·rename_i kk GP;split at o
   ·rename_i p hp;split at o
    ·rename_i vN;have ek:=fQ GP
     subst ek;obtain⟨a,us,hs,nn,h1,h2,h3,l⟩:=g9 sr e1
     obtain⟨ok,hk1,v,rfl,rv⟩:=sr.slot n _ e3
     obtain⟨b,rfl,hb⟩:=nW rv
     obtain⟨w,hw,kw⟩:=nN l hp
     refine⟨.ref a,hs,a,rfl,.inr ⟨_,.inl h1⟩,.ref b,hk1,_,ki kk,b,w,h1,rfl,(by rw [qh];exact sr.sub _ _ hb),(by rw [kR];exact hw),?_⟩;rw [uO kk nn];obtain⟨r1,g1⟩:=iX (p':=.dct (bP ks kk) (aZ ks ps kk)) (ob:=.dT (kz (bP ks kk) (aZ ks us kk))) sr sr.go e1 hs h2 h3 ⟨a,_,rfl,pX kk nn,au,h2,h3,ko l⟩
     have IH:(env.set j (.own (.dct (bP ks kk) (aZ ks ps kk))))[i]?=some (.own (.dct ks2 ps2)):=by rw [zzS (Ne.symm vN.2)];exact e2
     obtain⟨a2,us2,FY,n2,k1,k2,k3,l2⟩:=g9 r1 IH
     refine⟨.ref a2,FY,.ref b,hk1,a2,_,rfl,vL.t k1 (by rw [qh];exact r1.sub _ _ hb) (by rw [eY n2];exact zzW vN.1 (by decide)),?_⟩;rw [zW n2];obtain⟨r2,g2⟩:=iX (p':=.dct (aX ks2 kk) (bu ks2 ps2 kk p)) (ob:=.dT (kz (aX ks2 kk) (bu ks2 us2 kk w))) r1 g1 IH FY k2 k3 ⟨a2,_,rfl,qA n2 kk w,au,k2,k3,uI l2 kw⟩
     exact o _ G _ r2 g2
    ·exact o.elim
   ·exact o.elim
  ·exact o.elim
 ·exact o.elim
theorem He(S:dS Γ F W N sc k E X){i j:Nat}{x y:Str}{np yp apos bA pos:Pos}(h:N[i]?=some x)(hv:dB sc x=true)(ho:okN x=true)(eE:(apos.endLine==bA.line)=true)(hy:N[j]?=some y)(hl:dW sc y=true):GS X W F H0 E (.pop j i) (.Assign [.Name y yp] (.Call (.Attribute (.Name x np) "pop" apos) [] [] bA) pos):=by
 obtain⟨a1,a2,a3⟩:=dn S hy hl
 refine L2.PS.imp (iI a1 a2 a3 (FW PySem.F.plainAttrs_list PySem.F.slot_list_pop PySem.F.type_list_pop Gw (fy S h hv ho) rfl eE) rfl (.inl (S.fn y))) fun D σ H hq=>?_
 obtain⟨G,env,sr,o⟩:=hq
 rw [aN] at o;split at o
 ·rename_i xs hx;obtain⟨a,vs,hs,h1,h2,h3,l⟩:=nU sr hx
  cases r:xs[xs.length-1]? with
  |none=>rw [r] at o;exact o.elim
  |some p=>
   rw [r] at o;obtain⟨v,hv2,rv⟩:=l.getP r
   refine⟨.ref a,hs,.inl ⟨rfl,_,iU.of h1⟩,a,vs,v,rfl,rfl,h1,by rw [l.length];exact hv2,?_⟩;have ld:ak W G xs.dropLast vs.dropLast:=by
    rw [List.dropLast_eq_take,List.dropLast_eq_take,l.length];exact l.take _
   obtain⟨r2,gg⟩:=iX (p':=.lst xs.dropLast) (ob:=.lst vs.dropLast) sr sr.go hx hs h2 h3 ⟨a,_,rfl,au,h2,h3,ld⟩
   exact o _ G _ (r2.set j rv) gg
 ·exact o.elim
end
end Ci
namespace L2
open PySem PySem.Spec PyProof.Rows
section
variable{prog:Program}{w:World}{A:Around}{E:Value→Shared→Prop}
end
section
variable{X:Cx}{pos:Pos}
end
end L2
namespace Ci
open PySem L2
section
variable{Γ:Pg}{X:Cx}{W:Wd}{F:ba}{N:List Str}{sc:Scope}{k:Nat}{H0:Hp}{E:XK}
end
theorem oV:∀(cs:List Int) (all:List Int) (j b:Nat) (m:Int),all.drop j=cs→all[b]?=some m→b<j→(∀i c,all[i]?=some c→i<j→m≤c∧(i<b→m<c))→
 ∃m',all[ei cs j b m]?=some m'∧∀i c,all[i]?=some c→m'≤c∧(i<ei cs j b m→m'<c)
 |[],all,j,b,m,hd,hb,_,best=>by
  unfold ei;have hl:all.length≤j:=List.drop_eq_nil_iff.mp hd
  exact⟨m,hb,fun i c e=>best i c e (zzW (zzH.mp e).1 hl)⟩
 |x::cs,all,j,b,m,hd,hb,hbj,best=>by
  have hx:all[j]?=some x:=by rw [←List.head?_drop,hd];rfl
  have Kp:all.drop (j+1)=cs:=by rw [←List.drop_drop,hd];rfl
  unfold ei;split
  ·rename_i bR;refine oV cs all (j+1) j x Kp hx (by omega) fun i c e hi=>?_
   by_cases h:i=j
   ·subst h;rw [hx] at e;cases e;exact⟨Int.le_refl _,fun z=>absurd z (Nat.lt_irrefl _)⟩
   ·have:=best i c e (by omega)
    exact⟨by omega,fun _=>by omega⟩
  ·rename_i bR;refine oV cs all (j+1) b m Kp hb (by omega) fun i c e hi=>?_
   by_cases h:i=j
   ·subst h;rw [hx] at e;cases e;exact⟨by omega,fun z=>by omega⟩
   ·exact best i c e (by omega)
theorem A4{cs:List Int}{x:Nat}(h:zS cs=some x):∃m,cs[x]?=some m∧∀i c,cs[i]?=some c→m≤c∧(i<x→m<c):=by
 cases cs with
 |nil=>cases h
 |cons c cs=>
  cases h;refine oV cs (c::cs) 1 0 c rfl rfl (by omega) fun i d e hi=>?_
  have:i=0:=by omega
  subst this;cases e;exact⟨Int.le_refl _,fun z=>absurd z (Nat.not_lt_zero _)⟩
theorem m5{W:Wd}{G H:Hp}{K:PySem.W.Frag}(hK:W.K=K)(sg:aG G H):∀{ps:List PV} {us:List V} {cs:List Int},gC ps=some cs→ak W G ps us→cs.length=ps.length∧∀(i:Nat) v,us[i]?=some v→∃q r,v=V.ref q∧fj K H q (.int (cs.getD i 0)::r)
 |[],_,_,e,l=>by cases e;simp only [ak] at l;subst l;exact⟨rfl,fun i v h=>by simp at h⟩
 |p::ps,us,cs,e,l=>by
  obtain⟨u,ur,rfl,h1,h2⟩:=l.uncons
  unfold gC at e;split at e
  ·rename_i heq;cases heq
  ·rename_i heq;cases heq;obtain⟨r,hr,rfl⟩:=zzJ.mp e
   obtain⟨i1,i2⟩:=m5 hK sg hr h2
   refine⟨by simp [i1],fun i v hv=>?_⟩
   cases i with
   |zero=>
    cases hv;simp only [Rep] at h1;obtain⟨q,ws,rfl,tq,lq⟩:=h1
    obtain⟨w,wr,rfl,k1,lq⟩:=lq.uncons
    simp only [Rep] at k1;subst k1;exact⟨q,wr,rfl,by rw [←hK];simpa using aG.tup sg tq.sq⟩
   |succ i=>simpa using i2 i v (by simpa using hv)
  ·cases e
section
variable{Γ:Pg}{X:Cx}{W:Wd}{F:ba}{N:List Str}{sc:Scope}{k:Nat}{H0:Hp}{E:XK}
theorem AN(S:dS Γ F W N sc k E X){m i:Nat}{x y:Str}{params:Arguments}{body:Expr}{scope:Scope}{yp q1 q2 q3 q4 q5 pos:Pos}(h1:N[m]?=some y)(h2:dW sc y=true)(h3:N[i]?=some x)(h4:sc.names.lookup x=some .cell)(h5:iW sc "min"=true)(h6:Γ.bs.contains "min"=true)(h7:Γ.hl=true)
 (h8:tQ x params body scope=true):GS X W F H0 E (.minK m i) (.Assign [.Name y yp] (.Call (.Name "min" q1) [.Name x q2] [⟨some "key",.Lambda params body scope q3,q4⟩] q5) pos):=by
 obtain⟨a1,a2,a3⟩:=dn S h1 h2
 obtain⟨p,ep,L,hfr,hox⟩:=x5 h8
 have pe:PE X (.Call (.Name "min" q1) [.Name x q2] [⟨some "key",.Lambda params body scope q3,q4⟩] q5) (fun σ H Q=>∃G env ks ps cs ix kk,SR W H0 env σ G H∧env[i]?=some (.own (.dct ks ps))∧gC ps=some cs∧zS cs=some ix∧ks[ix]?=some kk∧∀v G' H',aK W G H G' H'→Rep W G' (ah kk) v→Q v H'):=by
  intro pins s σ H Q I hq;obtain⟨G,env,ks,ps,cs,ix,kk,sr,e1,e2,e3,e4,q⟩:=hq
  obtain⟨d,us,hs,n,k1,k2,k3,l⟩:=g9 sr e1
  obtain⟨c,dQ⟩:=I.ok.has x (.inl (by show X.env.scope.names.lookup x=_;rw [S.C.hsc];exact h4))
  have DC:closureFor scope X.env=pure [(x,c)]:=by
   rw [gQ fun y hy hf=>?_]
   ·show pure (bF X.env (bt scope))=_
    rw [hfr];simp [bF,dQ]
   ·have:y.1∈bt scope:=by
     unfold bt;rw [List.mem_reverse,List.mem_map];exact⟨y,List.mem_filter.mpr ⟨hy,by rw [hf];rfl⟩,rfl⟩
    rw [hfr] at this;rw [zzi.mp this];exact⟨c,dQ⟩
  refine wpAny_Call_Name_kw (eN I (fD S.C h5) (S.C.bs _ (List.contains_iff_mem.mp h6)) (u:=.builtin "min") (by decide+kernel) ?_);refine PyProof.Rows.callWith_kw ?_;refine Calls.spliced_cons (bJ (d9 (i:=i) (by rw [S.C.hN];exact h3) (.inr (.inl (by show X.env.scope.names.lookup x=_;rw [S.C.hsc];exact h4))) (cY hox).1 (cY hox).2.1 pins s σ H (fun v' H1=>v'=.ref d∧H1=H) I ⟨_,hs,rfl,rfl⟩) fun u s1 hu=>Calls.spliced_nil ?_)
  obtain⟨v',H1,I1,ru,rfl,rfl⟩:=hu
  cases ru;refine PyProof.Rows.kws_cons (bJ (yN S.C h7 ep DC pins s1 σ H1 (fun v2 H2=>∃f G2,v2=.ref f∧oJ X W params body scope [(x,c)] G H1 G2 H2 f) I1 ⟨G,sr.sub,sr.tab,fun f G2 H2 lm=>⟨f,G2,rfl,lm⟩⟩) fun u s2 hu=>PyProof.Rows.kws_nil ?_)
  obtain⟨v2,H2,I2,ru,f,G2,rfl,g2,c',oc,cU,t,eX,pm,fo,co,cd,cn⟩:=hu
  cases ru;have eT:=sr.grow g2
  obtain⟨d',us',vG,n',k1',k2',k3',l'⟩:=g9 eT e1
  rw [hs] at vG;cases vG;obtain⟨cl1,cl2⟩:=m5 (K:=X.K) S.C.K eT.sub e2 l'
  have M:KM X σ H2 k d f (kz ks us') (fun i=>cs.getD i 0):=by
   refine⟨S.C.room,k1',⟨p,x,params,body,scope,_,c,c',oc,cU,t,pm,eX,i,L,dQ,I.ok.cab x c (S.C.fl h7 x) dQ,eT.sub _ _ fo,eT.sub _ _ co,cd,cn,fun u=>uz ep [u] rfl,by rw [S.C.hN];exact h3,hs,by rw [S.C.hsc];exact h4⟩,fun j kx v e=>?_⟩
   have:us'[j]?=some v:=by
    unfold kz at e;rw [List.getElem?_zip_eq_some] at e;exact e.2
   exact cl2 j v this
  obtain⟨mm,xn,JY⟩:=A4 e3
  have Lw:ix<ks.length:=(zzH.mp e4).1
  have OS:cs.length=ks.length:=by rw [cl1,←l'.length,n']
  refine wN M (by rw [eY n'];omega) I2 fun j kx v b e hb best=>?_
  rw [eY n'] at best;have hj:j<ks.length:=by
   have:=(zzH.mp e).1
   rw [eY n'] at this;exact this
  have ej:j=ix:=by
   have ca:∀a,a<cs.length→cs[a]?=some (cs.getD a 0):=fun a ha=>by simp [ha]
   have b1:=best ix Lw
   have b2:=JY j _ (ca j (by omega))
   have em:mm=cs.getD ix 0:=by rw [ca ix (by omega)] at xn;exact(Option.some.inj xn).symm
   rw [em] at b2;rcases Nat.lt_trichotomy j ix with z|z|z
   ·have:=b2.2 z;have:=b1.1;omega
   ·exact z
   ·have:=b1.2 z;have:=b2.1;omega
  subst ej;have ek:kx=ki kk:=by
   have:=congrArg (fun l=>l[j]?) (og (us:=us') n')
   simp only [zzQ,e,e4,Option.map_some] at this;exact Option.some.inj this
  rw [ek,qh] at hb;obtain⟨G3,g3,l3⟩:=fT (W:=W) (vs:=[.ref b]) (nss:=[kk]) eT.sub (.cons ⟨b,rfl,hb⟩ .nil)
  obtain⟨w,r,ew,hw,_⟩:=l3.uncons
  cases ew;exact q _ _ _ (g2.trans g3) hw
 refine L2.PS.imp (iI a1 a2 a3 pe rfl (.inl (S.fn y))) fun D σ H hq=>?_
 obtain⟨G,env,sr,o⟩:=hq
 rw [aN] at o;split at o
 ·rename_i ks ps hx;split at o
  ·rename_i cs hcs;split at o
   ·rename_i kk GP;obtain⟨ix,hix,HV⟩:=zzZ.mp GP
    exact⟨G,env,ks,ps,cs,ix,kk,sr,hx,hcs,hix,HV,fun v G' H' g' rp=>o _ G' _ ((sr.grow g').set m rp) (sr.on g')⟩
   ·exact o.elim
  ·exact o.elim
 ·exact o.elim
end
section
variable{Γ:Pg}{X:Cx}{W:Wd}{F:ba}{N:List Str}{sc:Scope}{k:Nat}{H0:Hp}{E:XK}
theorem A1{kk:Nat}{bf:List Nat}{tg:Tg}{it:I}{elt:Ci.E}:∀env q,ax F (.comp kk bf tg it elt) env=.ok q→∃xs,q=.lst xs:=fun env q e=>by
 rw [ax] at e;obtain⟨ps,_,e⟩:=Res.bind_ok e
 split at e
 ·obtain⟨ys,_,e⟩:=Res.bind_ok e
  cases e;exact⟨_,rfl⟩
 ·cases e
theorem wc{kk:Nat}{bf:List Nat}{tg:Tg}{it:I}{c elt:Ci.E}:∀env q,ax F (.compIf kk bf tg it c elt) env=.ok q→∃xs,q=.lst xs:=fun env q e=>by
 rw [ax] at e;obtain⟨ps,_,e⟩:=Res.bind_ok e
 split at e
 ·obtain⟨ys,_,e⟩:=Res.bind_ok e
  cases e;exact⟨_,rfl⟩
 ·cases e
theorem qx{e:Ci.E}(h:iz e=true):∀env q,ax F e env=.ok q→∃xs,q=.lst xs:=by
 cases e<;>first|(exact aq h)|exact lst_is|exact A1|exact wc
theorem mO(S:dS Γ F W N sc k E X){i:Nat}{x:Str}{xp pos:Pos}(hx:N[i]?=some x)(BI:dW sc x=true):∀(e:Ci.E) (p:Expr),iz e=true→br Γ N sc e p=true→PS X (.Assign [.Name x xp] p pos) (HB X W F i e)
 |.lst as,p,_,h=>by
  cases p<;>first|(exact aq h)|skip
  replace h:=aJ h
  try simp only [zza,zzN] at h
  exact nt S hx BI (Aa h.1.1 h.1.2 (jc as S.C _ h.2)) rfl
 |.comp kk bf tg it elt,p,_,h=>by
  cases p<;>first|(exact aq h)|skip
  rename_i dA gens scope ppos
  match gens,h with
  |[⟨cm,eK,[],asy⟩],h=>
   replace h:=aJ h
   simp only [zza] at h;obtain⟨⟨⟨⟨⟨⟨h1,h2⟩,h3⟩,h4⟩,h5⟩,h6⟩,gD⟩:=h
   have gD:=zzY gD
   subst gD;exact zt S hx BI (iq h1) h2 h3 (yy it S.C cm eK h4) (iw h4 _) h5 fun Y CY=>(bC elt CY dA h6).ge
  |[],h=>exact aq h
  |⟨_,_,[],_⟩::_::_,h=>exact aq h
  |⟨_,_,[_],_⟩::_::_,h=>exact aq h
  |⟨_,_,_::_::_,_⟩::_::_,h=>exact aq h
  |[⟨_,_,_::_,_⟩],h=>exact aq h
 |.compIf kk bf tg it c elt,p,_,h=>by
  cases p<;>first|(exact aq h)|skip
  rename_i dA gens scope ppos
  match gens,h with
  |[⟨cm,eK,[pc],asy⟩],h=>
   replace h:=aJ h
   simp only [zza] at h;obtain⟨⟨⟨⟨⟨⟨⟨⟨h0,h1⟩,h2⟩,h3⟩,h4⟩,h5⟩,h6⟩,h7⟩,gD⟩:=h
   have gD:=zzY gD
   subst gD;exact sE S hx BI (iq h1) h2 h3 (yy it S.C cm eK h4) (iw h4 _) h5 (fun Y CY=>(bC c CY pc h6).gt h0) fun Y CY=>(bC elt CY dA h7).ge
  |[],h=>exact aq h
  |⟨_,_,[],_⟩::_::_,h=>exact aq h
  |⟨_,_,[_],_⟩::_::_,h=>exact aq h
  |⟨_,_,_::_::_,_⟩::_::_,h=>exact aq h
  |[⟨_,_,[],_⟩],h=>exact aq h
  |[⟨_,_,_::_::_,_⟩],h=>exact aq h
 |.var _,_,z,_=>nomatch z
 |.tmp _,_,z,_=>nomatch z
 |.cst _,_,z,_=>nomatch z
 |.glob _ _,_,z,_=>nomatch z
 |.call _ _,_,z,_=>nomatch z
 |.blt _ _,_,z,_=>nomatch z
 |.ty _ _,_,z,_=>nomatch z
 |.mth _ _ _,_,z,_=>nomatch z
 |.bin _ _ _,_,z,_=>nomatch z
 |.cmp _ _ _,_,z,_=>nomatch z
 |.ch _ _ _ _ _,_,z,_=>nomatch z
 |.not _,_,z,_=>nomatch z
 |.neg _,_,z,_=>nomatch z
 |.and _ _,_,z,_=>nomatch z
 |.or _ _,_,z,_=>nomatch z
 |.ite _ _ _,_,z,_=>nomatch z
 |.tup _,_,z,_=>nomatch z
 |.sub _ _,_,z,_=>nomatch z
 |.rev _,_,z,_=>nomatch z
theorem w4{e:Ci.E}{p:Expr}(h:br Γ N sc e p=true)(hf:iz e=false):oj p=true:=by
 cases p<;>first|rfl|(cases e<;>first|(exact aq h)|(rename_i q;cases q<;>exact aq h)|(cases hf;done))
theorem vv(S:dS Γ F W N sc k E X){i:Nat}{x:Str}{e:Ci.E}{p:Expr}{xp pos:Pos}(h:N[i]?=some x)(hl:dW sc x=true)(dv:fI e=true)(hc:br Γ N sc e p=true):GS X W F H0 E (.set i e) (.Assign [.Name x xp] p pos):=by
 cases hf:iz e with
 |true=>exact BQ S (qx hf) dv (mO S h hl e p hf hc)
 |false=>exact Gb S h hl dv (bC e S.C p hc).ge (nu (w4 hc hf))
theorem z9(S:dS Γ F W N sc k E X)(e:Ci.E)(p:Stmt)(h:ez Γ N sc (.expr e) p=true):GS X W F H0 E (.expr e) p:=by
 cases p<;>first|(exact aq h)|skip
 replace h:=aJ h
 try simp only [zza] at h
 exact C6 S (bC e S.C _ h.2).ge h.1
theorem By(S:dS Γ F W N sc k E X)(i:Nat)(e:Ci.E)(p:Stmt)(h:ez Γ N sc (.set i e) p=true):GS X W F H0 E (.set i e) p:=by
 cases p<;>first|(exact aq h)|skip
 replace h:=aY h
 simp only [Option.any_eq_true,zza,beq_iff_eq] at h;obtain⟨x,h0,h1⟩:=h
 obtain⟨xp,rfl⟩:=iH h0
 exact vv S h1.1.1.1 h1.1.1.2 h1.1.2 h1.2
theorem Bj(S:dS Γ F W N sc k E X)(i:Nat)(e:Ci.E)(p:Stmt)(h:ez Γ N sc (.own i e) p=true):GS X W F H0 E (.own i e) p:=by
 cases p<;>first|(exact aq h)|skip
 replace h:=aY h
 simp only [Option.any_eq_true,zza,beq_iff_eq] at h;obtain⟨x,h0,h⟩:=h
 obtain⟨xp,rfl⟩:=iH h0
 exact Cz S h.1.1.1 (qx h.1.2) (mO S h.1.1.1 h.1.1.2 e _ h.1.2 h.2)
theorem Cn(S:dS Γ F W N sc k E X)(i:Nat)(p:Stmt)(h:ez Γ N sc (.frz i) p=true):GS X W F H0 E (.frz i) p:=by
 cases p<;>exact aq h
theorem AR(S:dS Γ F W N sc k E X)(i:Nat)(e:Ci.E)(p:Stmt)(h:ez Γ N sc (.app i e) p=true):GS X W F H0 E (.app i e) p:=by
 cases p<;>first|(exact aq h)|skip
 replace h:=aY h
 simp only [Option.any_eq_true,zza,beq_iff_eq] at h;obtain⟨⟨x,m,args⟩,h0,⟨⟨⟨⟨h1,h2⟩,h3⟩,h4⟩,h5⟩,q,h6,h7⟩:=h
 obtain⟨np,apos,bA,rfl,hl⟩:=nC h0
 cases eP h6;cases h4;exact Fg S h1 h2 h3 hl h5 (bC e S.C q h7).ge (notStar h7)
theorem Aj(S:dS Γ F W N sc k E X)(i:Nat)(e:Ci.E)(p:Stmt)(h:ez Γ N sc (.extd i e) p=true):GS X W F H0 E (.extd i e) p:=by
 cases p<;>first|(exact aq h)|skip
 replace h:=aY h
 simp only [Option.any_eq_true,zza,beq_iff_eq] at h;obtain⟨⟨x,m,args⟩,h0,⟨⟨⟨h1,h2⟩,h3⟩,h4⟩,q,h6,h7⟩:=h
 obtain⟨np,apos,bA,rfl,hl⟩:=nC h0
 cases eP h6;cases h4;exact Dq S h1 h2 h3 hl (bC e S.C q h7).ge (notStar h7)
theorem Bz(S:dS Γ F W N sc k E X)(i:Nat)(kk e:Ci.E)(p:Stmt)(h:ez Γ N sc (.put i kk e) p=true):GS X W F H0 E (.put i kk e) p:=by
 cases p<;>first|(exact aq h)|skip
 replace h:=aY h
 simp only [Option.any_eq_true,zza,beq_iff_eq] at h;obtain⟨⟨x,pk⟩,h0,⟨⟨⟨⟨h1,h2⟩,h3⟩,h5⟩,h6⟩,h7⟩:=h
 obtain⟨np,sp,rfl⟩:=yK h0
 exact F3 S h1 h2 h3 h5 h6 (bC kk S.C pk h6).ge (bC e S.C _ h7).ge
theorem yf(S:dS Γ F W N sc k E X)(i:Nat)(p:Stmt)(h:ez Γ N sc (.dnew i) p=true):GS X W F H0 E (.dnew i) p:=by
 cases p<;>first|(exact aq h)|skip
 rename_i ts v pos;cases v<;>first|(exact aq h)|skip
 rename_i ks vs dp;cases ks<;>first|(exact aq h)|skip
 cases vs<;>first|(exact aq h)|skip
 replace h:=aY h
 simp only [Option.any_eq_true,zza,beq_iff_eq] at h;obtain⟨x,h0,h1,h2⟩:=h
 obtain⟨yp,rfl⟩:=iH h0
 exact C9 S h1 h2
theorem vO(S:dS Γ F W N sc k E X)(i n:Nat)(b:Bool)(p:Stmt)(h:ez Γ N sc (.dnew1 i n b) p=true):GS X W F H0 E (.dnew1 i n b) p:=by
 cases p<;>first|(exact aq h)|skip
 rename_i ts v pos;cases v<;>first|(exact aq h)|skip
 rename_i ks vs dp;cases ks with
 |nil=>exact aq h
 |cons ke ks=>
  cases ke with
  |none=>exact aq h
  |some ke=>
   cases ks with
   |cons _ _=>exact aq h
   |nil=>
    cases vs with
    |nil=>exact aq h
    |cons ve vs=>
     cases ve with
     |Constant c j cp=>
      cases c with
      |bool c=>
       cases vs with
       |cons _ _=>exact aq h
       |nil=>
        replace h:=aY h
        simp only [Option.any_eq_true,zza,beq_iff_eq] at h;obtain⟨x,h0,z,hz,⟨⟨⟨⟨h1,h2⟩,h3⟩,h4⟩,h5⟩,h6⟩:=h
        obtain⟨yp,rfl⟩:=iH h0
        obtain⟨zp,rfl⟩:=cD hz
        subst h6;exact Ak S h1 h2 h3 h4 h5
      |_=>exact aq h
     |_=>exact aq h
theorem tj(S:dS Γ F W N sc k E X)(i j n:Nat)(p:Stmt)(h:ez Γ N sc (.putPop i j n) p=true):GS X W F H0 E (.putPop i j n) p:=by
 cases p<;>first|(exact aq h)|skip
 replace h:=aY h
 simp only [Option.any_eq_true,zza,beq_iff_eq] at h;obtain⟨⟨x,pk⟩,h0,z,hz,⟨⟨⟨⟨⟨h1,h2⟩,h3⟩,h4⟩,h5⟩,h6⟩,⟨y,m,args⟩,h7,h8,e,he,z2,hz2,⟨⟨h9,h10⟩,h11⟩,h12⟩:=h
 obtain⟨np,sp,rfl⟩:=yK h0
 obtain⟨zp,rfl⟩:=cD hz
 obtain⟨yp,apos,bA,rfl,hl⟩:=nC h7
 cases h8;cases eP he;obtain⟨ND,rfl⟩:=cD hz2
 subst h9;exact wy S h1 h2 h3 h4 h5 h6 h10 h11 h12 hl
theorem Ah(S:dS Γ F W N sc k E X)(m i:Nat)(p:Stmt)(h:ez Γ N sc (.minK m i) p=true):GS X W F H0 E (.minK m i) p:=by
 cases p<;>first|(exact aq h)|skip
 replace h:=aY h
 simp only [Option.any_eq_true,zza,beq_iff_eq] at h;obtain⟨y,hy,c,hc,⟨⟨⟨⟨⟨⟨h1,h2⟩,h3⟩,h4⟩,h5⟩,h6⟩,h7⟩,h8⟩:=h
 obtain⟨yp,rfl⟩:=iH hy
 obtain⟨q1,q2,q3,q4,q5,rfl⟩:=Fy hc
 exact AN S h1 h2 h3 h4 h5 h6 h7 h8
theorem AU(S:dS Γ F W N sc k E X)(j i:Nat)(p:Stmt)(h:ez Γ N sc (.pop j i) p=true):GS X W F H0 E (.pop j i) p:=by
 cases p<;>first|(exact aq h)|skip
 replace h:=aY h
 simp only [Option.any_eq_true,zza,beq_iff_eq] at h;obtain⟨y,hy,⟨x,m,args⟩,h0,⟨⟨⟨⟨⟨h1,h2⟩,h3⟩,h4⟩,h5⟩,h6⟩,h7⟩:=h
 obtain⟨yp,rfl⟩:=iH hy
 obtain⟨np,apos,bA,rfl,hl⟩:=nC h0
 cases List.isEmpty_iff.mp h5;cases h4;exact He S h1 h2 h3 hl h6 h7
theorem BC(S:dS Γ F W N sc k E X)(e:Ci.E)(p:Stmt)(h:ez Γ N sc (.ret e) p=true):GS X W F H0 E (.ret e) p:=by
 cases p<;>first|(exact aq h)|skip
 rename_i v pos;cases v with
 |none=>exact aq h
 |some v=>
  replace h:=aJ h
  try simp only [zza] at h
  exact Gr S h.1 (bC e S.C v h.2).ge
theorem vz(S:dS Γ F W N sc k E X)(c m:Str)(p:Stmt)(h:ez Γ N sc (.raise c m) p=true):GS X W F H0 E (.raise c m) p:=by
 cases p<;>first|(exact aq h)|skip
 replace h:=aJ h
 simp only [Option.any_eq_true,zza,beq_iff_eq] at h;obtain⟨hn,⟨x,z⟩,h0,⟨⟨⟨h1,h2⟩,h3⟩,h4⟩,h5⟩:=h
 obtain⟨np,j,zp,cp,rfl⟩:=ER h0
 cases h1;cases h2;rename_i fr pos;cases Option.isNone_iff_eq_none.mp hn;exact xj S h3 h4 h5
theorem CG{c:Ci.E}{a b:Ss}{p:Stmt}(h:ez Γ N sc (.ite c a b) p=true):∃q pa pb pos,p=.If q pa pb pos∧dX c=true∧br Γ N sc c q=true∧da Γ N sc a pa=true∧da Γ N sc b pb=true:=by
 cases p<;>first|(exact aq h)|skip
 replace h:=aJ h
 try simp only [zza] at h
 exact⟨_,_,_,_,rfl,h.1.1.1,h.1.1.2,h.1.2,h.2⟩
theorem A6{tg:Tg}{it:I}{b:Ss}{p:Stmt}(h:ez Γ N sc (.for_ tg it b) p=true):∃cm eK pb pos,p=.For cm eK pb [] pos∧gv N sc (fun _=>true) tg cm=true∧Dl it=true∧v9 Γ N sc cm it eK=true∧da Γ N sc b pb=true:=by
 cases p<;>first|(exact aq h)|skip
 replace h:=aJ h
 try simp only [zza] at h
 cases List.isEmpty_iff.mp h.1.1.1.1;exact⟨_,_,_,_,rfl,h.1.1.1.2,h.1.1.2,h.1.2,h.2⟩
theorem CZ{c:Ci.E}{b:Ss}{p:Stmt}(h:ez Γ N sc (.whl c b) p=true):∃q pb pos,p=.While q pb [] pos∧dX c=true∧br Γ N sc c q=true∧da Γ N sc b pb=true:=by
 cases p<;>first|(exact aq h)|skip
 replace h:=aJ h
 try simp only [zza] at h
 cases List.isEmpty_iff.mp h.1.1.1;exact⟨_,_,_,rfl,h.1.1.2,h.1.2,h.2⟩
theorem CA{ps:List Stmt}(h:da Γ N sc .nil ps=true):ps=[]:=by
 cases ps with
 |nil=>rfl
 |cons _ _=>exact aq h
theorem yP{s:Ci.S}{ss:Ss}{ps:List Stmt}(h:da Γ N sc (.cons s ss) ps=true):(∃i,s=.frz i∧da Γ N sc ss ps=true)∨∃q qs,ps=q::qs∧ez Γ N sc s q=true∧da Γ N sc ss qs=true:=by
 by_cases hz:∃i,s=.frz i
 ·obtain⟨i,rfl⟩:=hz
  exact .inl ⟨i,rfl,h⟩
 ·cases ps with
  |nil=>cases s<;>first|(exact absurd ⟨_,rfl⟩ hz)|(exact aq h)
  |cons p ps=>
   have h2:(ez Γ N sc s p&&da Γ N sc ss ps)=true:=by
    cases s<;>first|(exact absurd ⟨_,rfl⟩ hz)|(exact h)
   rw [zza] at h2;exact .inr ⟨p,ps,rfl,h2.1,h2.2⟩
mutual
theorem Lu(S:dS Γ F W N sc k E X):∀(s:Ci.S) (p:Stmt),ez Γ N sc s p=true→GS X W F H0 E s p
 |.expr e,p,h=>z9 S e p h
 |.set i e,p,h=>By S i e p h
 |.own i e,p,h=>Bj S i e p h
 |.frz i,p,h=>Cn S i p h
 |.app i e,p,h=>AR S i e p h
 |.extd i e,p,h=>Aj S i e p h
 |.put i kk e,p,h=>Bz S i kk e p h
 |.pop j i,p,h=>AU S j i p h
 |.dnew i,p,h=>yf S i p h
 |.dnew1 i n b,p,h=>vO S i n b p h
 |.putPop i j n,p,h=>tj S i j n p h
 |.minK m i,p,h=>Ah S m i p h
 |.ret e,p,h=>BC S e p h
 |.ite c a b,p,h=>by
  obtain⟨q,pa,pb,pos,rfl,h1,h2,h3,h4⟩:=CG h
  exact E7 S ((bC c S.C _ h2).gt h1) (jW S a _ h3) (jW S b _ h4)
 |.for_ tg it b,p,h=>by
  obtain⟨cm,eK,pb,pos,rfl,h1,h2,h3,h4⟩:=A6 h
  exact GL S h1 h2 (yy it S.C cm eK h3) (iw h3 _) (jW S b _ h4)
 |.whl c b,p,h=>by
  obtain⟨q,pb,pos,rfl,h1,h2,h3⟩:=CZ h
  exact Fz S ((bC c S.C _ h2).gt h1) (jW S b _ h3)
 |.raise c m,p,h=>vz S c m p h
theorem jW(S:dS Γ F W N sc k E X):∀(ss:Ss) (ps:List Stmt),da Γ N sc ss ps=true→Au X W F H0 E ss ps
 |.nil,ps,h=>by
  cases CA h;exact Dh
 |.cons s ss,ps,h=>by
  rcases yP h with⟨i,e,h2⟩|⟨q,qs,e,h1,h2⟩
  ·have:=A0 (i:=i) (jW S ss ps h2)
   rw [←e] at this;exact this
  ·rw [e];exact zM (Lu S s q h1) (jW S ss qs h2)
end
end
end Ci
namespace L2
open PySem PySem.Spec PyProof.Rows
theorem xZ{K:PySem.W.Frag}{C:Addr}{T:String}{b:Bool}(h1:PySem.W.kitMeta T=true)(h3:PySem.W.subIn K (.ref C) (.type T)=some b):PySem.W.kitOne K (.ref C) (.type T)=some b:=by
 unfold PySem.W.kitOne;split
 ·rename_i e;cases beq_iff_eq.mp e
 ·show(if PySem.W.kitMeta T=true then PySem.W.subIn K (.ref C) (.type T) else none)=some b
  rw [if_pos h1];exact h3
theorem F9{K:PySem.W.Frag}{h:Heap}{mg:Str→Option Value}{x:Str}{C:Addr}{Ob:List Value}{newId:String}(X:K.In h)(hm:mg x=some (.ref C))(q:PySem.W.excIn K C Ob newId=true):OwnCls x C Ob newId mg h:=by
 constructor
 ·exact hm
 ·unfold PySem.W.excIn at q;split at q
  ·rename_i dd cd sl ho;split at q
   ·rename_i C1 bm1 k0 k1 k2 k3 n1 k5 xn hs1;simp only [zza,beq_iff_eq,Bool.not_eq_true'] at q;obtain⟨⟨⟨⟨⟨q1,q2⟩,q3⟩,q4⟩,q5⟩,q6⟩:=q
    subst q1 q2;obtain⟨nm,bs,mro,ns,qn,hd,sn,sub,ab,col,del⟩:=cd
    have JY:mro=.ref C1::bm1:=xn
    have hd2:del=false:=q3
    have Kz:PySem.W.nsOkIn K ns=true:=q5
    have Pl:PySem.W.nsIn K ns "__init__"=some none:=q6
    subst JY hd2;obtain⟨ls⟩:=sl
    have FY:ls=[k0,k1,k2,k3,some (.builtin n1),k5]:=hs1
    subst FY;exact⟨bm1,ns,nm,qn,bs,hd,sn,sub,ab,col,dd,k0,k1,k2,k3,k5,_,X _ _ ho,.of_isNs (PySem.W.isNs_of_in X Kz),PySem.W.nsMap_none_of_in X Kz Pl,PySem.W.tail_of_in X q4⟩
   ·cases q
  ·cases q
end L2
namespace Ci
open PySem L2
abbrev zq:List Value:=[.type "ValueError",.type "Exception",.type "BaseException",.type "object"]
structure sN(K:PySem.W.Frag)(mg:Str→Option Value)(Γ:Pg)(W:Wd):Prop where
 hK:W.K=K
 hm:W.mg=mg
 gs:∀q∈Γ.gs,∃u v,mg q.1=some u∧RelV v u∧∀G,Rep W G q.2 v
 bs:∀g∈Γ.bs,mg g=none
 nov:Γ.cs.contains "ValueError"=false
 cls:∀c∈Γ.cs,∃C,mg c=some (.ref C)
 xc:∀d∈W.xs,∀D,mg d=some (.ref D)→GC K D∧(∀c∈Γ.cs,∀C,mg c=some (.ref C)→PySem.W.kitOne K (.ref D) (.ref C)=some (c==d||c=="FloorError"))∧PySem.W.kitOne K (.ref D) (.type "ValueError")=some true
 xs:∀c,Γ.rs.contains c=true→c∈W.xs
 rm:∀c,Γ.rs.contains c=true→∃C,mg c=some (.ref C)∧PySem.W.excIn K C zq "ValueError.__new__"=true
 exm:Γ.cs.contains "FloorError"=true→∀c D,c∈W.xs→mg c=some (.ref D)→∀T,mg "FloorError"=some (.ref T)→PySem.W.exmOne K (.ref D) (.ref T)=some true
 bm:W.ts≠[]→∃bm o,mg "__builtins__"=some (.ref bm)∧bm≠builtinsNs∧bm≠mainGlobals∧K.lookup bm=some o∧o.cls=.type "module"∧o.dict=some builtinsNs∧o.data=.plain
structure Row where
 f:Str
 h:Str
 d:Def
 st:Stmt
 hl:Bool:=false
abbrev eL:Type:=List Row
def mh(l:eL):List Str:=l.filterMap fun r=>if r.d.clo.isNone then some r.f else none
def wu(l:eL):List Hs:=l.filterMap fun r=>r.d.clo.map fun q=>⟨r.f,r.h,q.1,q.2,r.d.np⟩
def tab(l:eL):List (Str×Def):=l.map fun q=>(q.f,q.d)
noncomputable def Pg.at(Γ:Pg)(l:eL)(hl:Bool):Pg:={Γ with fs:=mh l,hs:=wu l,hl:=hl}
structure cG(Γ:Pg)(n:Str)(d:Def)(st:Stmt):Prop where
 sc:jq d.N (d.N.take d.np) (defScope st)
 np:d.np≤d.N.length
 bind:∀(kV doc pm:Value) (an:Option Addr) (e9 ct:Value) (us:List Value),us.length=(d.N.take d.np).length→bindArgs (PySem.W.fnOf n n (defArgs st) (defBody st) (defScope st) .none kV doc pm an e9 ct) ⟨us,[]⟩=pure ((d.N.take d.np).zip us)
 chk:da Γ d.N (defScope st) d.body (defBody st)=true
theorem stM{Γ:Pg}{n:Str}{d:Def}{st:Stmt}(b:∀(kV doc pm:Value) (an:Option Addr) (e9 ct:Value) (us:List Value),us.length=(d.N.take d.np).length→bindArgs (PySem.W.fnOf n n (defArgs st) (defBody st) (defScope st) .none kV doc pm an e9 ct) ⟨us,[]⟩=pure ((d.N.take d.np).zip us))
 (a1:(defScope st).kind=.function:=by rfl) (a2:(defScope st).isCoroutine=false:=by rfl) (a3:(defScope st).isGenerator=false:=by rfl) (a4:d.N.Nodup:=by decide+kernel) (a5:d.N.take (d.N.take d.np).length=d.N.take d.np:=by rfl)
 (a6:∀x∈d.N.take d.np,(defScope st).names.lookup x=some .local∨(defScope st).names.lookup x=some .cell:=by decide+kernel) (a7:∀y∈(defScope st).names,y.2≠.free:=by decide+kernel) (a8:d.np≤d.N.length:=by decide+kernel) (a9:da Γ d.N (defScope st) d.body (defBody st)=true:=by decide+kernel):cG Γ n d st:=⟨⟨a1,a2,a3,a4,a5,a6,a7⟩,a8,b,a9⟩
def CodeK(K:PySem.W.Frag)(c P:Addr):Prop:=∃o vs file tf flags tg Mq text tt,K.lookup c=some o∧o.cls=.type "code"∧o.data=.fields vs∧vs[11]?=some (.ref P)∧vs.getD 11 .none=.ref P∧vs.getD 18 .none=.str file tf∧
 vs.getD 7 .none=.int flags tg∧vs.getD 9 .none=.bool Mq∧vs.getD 10 .none=.int text tt∧c≠P
def lamQ(n:Str):Str:=(n++".<locals>.")++"<lambda>"
def EntK(K:PySem.W.Frag)(ts:List (Addr×Str))(hl:Bool)(n:Str)(st:Stmt):Prop:=∃(f:Addr) (oc:Value) (od:Option Addr) (kV doc pm:Value) (an:Option Addr) (e9 ct:Value) (sD:Array (Option Value)),
 PySem.W.nsIn K mainGlobals n=some (some (.ref f))∧K.lookup f=some ⟨oc,od,.func (PySem.W.fnOf n n (defArgs st) (defBody st) (defScope st) .none kV doc pm an e9 ct),sD⟩∧PySem.W.codeIn K e9 n=true∧PySem.W.keepIn K (.ref f)=true∧
 (hl=true→∃c P,e9=.ref c∧CodeK K c P∧(P,lamQ n)∈ts∧∀q',(P,q')∈ts→q'=lamQ n)
theorem entK{K:PySem.W.Frag}{ts:List (Addr×Str)}{n:Str}{st:Stmt}{f:Addr}{oc:Value}{od:Option Addr}{kV doc pm:Value}{an:Option Addr}{e9 ct:Value}{sD:Array (Option Value)}(a:PySem.W.nsIn K mainGlobals n=some (some (.ref f)))
 (l:K.lookup f=some ⟨oc,od,.func (PySem.W.fnOf n n (defArgs st) (defBody st) (defScope st) .none kV doc pm an e9 ct),sD⟩) (c:PySem.W.codeIn K e9 n=true) (k:PySem.W.keepIn K (.ref f)=true):EntK K ts false n st:=⟨f,oc,od,kV,doc,pm,an,e9,ct,sD,a,l,c,k,(fun z=>nomatch z)⟩
structure nL(P:Program)(w:World)(K:PySem.W.Frag)(mg:Str→Option Value)(base:Heap)(W:Wd)(F:ba)(k:Nat)(f:Str):Prop where
 ex:∃fa fd ps,fx P w K mg base (dF P w) k fa fd ps (xh W F f ps.length none)∧mg f=some (.ref fa)∧PySem.W.keepIn K (.ref fa)=true∧Binds K fd ps []∧∀as,F f as≠.bad→as.length=ps.length
structure EO(P:Program)(w:World)(K:PySem.W.Frag)(mg:Str→Option Value)(base:Heap)(W:Wd)(F:ba)(k:Nat)(q:Hs):Prop where
 ex:∃fa fd ps,fx P w K mg base (dF P w) k fa fd ps (xh W F q.f ps.length (some (q.g,q.idx)))∧mg q.h=some (.ref fa)∧PySem.W.keepIn K (.ref fa)=true∧Binds K fd ps []∧ps.length=q.np
section
variable{P:Program}{w:World}{K:PySem.W.Frag}{mg:Str→Option Value}{base:Heap}{Γ:Pg}{W:Wd}
theorem vU{c p:Addr}(KB:K.In base)(h:CodeK K c p):PySem.W.CodeHd base c p:=by
 obtain⟨o,vs,file,tf,flags,tg,Mq,text,tt,e,r⟩:=h
 exact⟨o,vs,file,tf,flags,tg,Mq,text,tt,KB _ _ e,r⟩
theorem EM(M:sN K mg Γ W)(KB:K.In base){F:ba}{k:Nat}{N ps:List Str}{qual:Str}{sc:Scope}(S:jq N ps sc)(hF:∀f,Γ.fs.contains f=true→nL P w K mg base W F k f)(hH:∀q∈Γ.hs,EO P w K mg base W F k q)(hA:∀g as,F g as≠.bad→Γ.fs.contains g=true∨gO g=true){f:Addr}{cd:Value}
 (hL:Γ.hl=true→∃c p,cd=.ref c∧CodeK K c p∧(p,lamQ qual)∈W.ts∧∀q',(p,q')∈W.ts→q'=lamQ qual) {A:Around} {outer:List Env} {s:Shared} {H:Hp} {E:XK} (hr:dw (k+1) (A.deeper (PyProof.Rows.envOfC qual sc s.heap.objs.size f cd))):
 dS Γ F W N sc k E (dC (dF P w) P w K mg base N qual sc f cd A outer s H E) where
 C:=⟨rfl,rfl,rfl,S.nd,M.hK,M.hm,M.gs,M.bs,hr,fun g hg=>⟨(hF g hg).ex⟩,M.nov,M.cls,M.xc,fun q hq=>⟨(hH q hq).ex⟩,hA,fun z=>by
  obtain⟨c,p,e1,e2,e3,e4⟩:=hL z
  exact⟨c,p,e1,vU KB e2,e3,e4⟩,fun z=>by
  obtain⟨c,p,e1,e2,e3,e4⟩:=hL z
  obtain⟨bm,o,b1,b2,b3,b4,b5⟩:=M.bm (fun y=>by rw [y] at e3;cases e3)
  exact⟨bm,o,b1,b2,b3,KB _ _ b4,b5⟩,fun _ _=>rfl⟩
 fn:=fun _=>rfl
 own:=PassesOwn.leaving
 pass:=Ii
 kind:=S.kind
 stk:=rfl
 frame:=rfl
 xs:=M.xs
 rm:=fun c hc=>let⟨C,h,_⟩:=M.rm c hc;⟨C,h⟩
 rz:=fun c z j np zp cp pos h1 h2 h3=>by
  obtain⟨C,hC,hx⟩:=M.rm c h1
  have hg:Gl (dC (dF P w) P w K mg base N qual sc f cd A outer s H E) c:=beq_iff_eq.mp h2
  refine L2.PS.imp (xY hg (F9 KB hC hx) PySem.F.excBase_ValueError (cA xy d8) rfl rfl (cY h3).1) fun D σ H1 h=>⟨(show 1≤sizeLine by decide),fun e he=>h C e hC he⟩
 exm:=M.exm
theorem qQ{H G:Hp}{N:List Str}{as:List PV}{vs:List V}(sg:aG G H)(tb:cy W G H)(l:ak W G as vs)(hn:as.length≤N.length):SR W H (as.map .val++List.replicate (N.length-as.length) .no) (start N vs) G H:=by
 have hl:=l.length
 unfold L2.start;refine⟨by simp;omega,sg,gA.refl _,fun i s e=>?_,fun i j p q a e1 _ _ _=>?_,tb,tb⟩
 ·by_cases hi:i<as.length
  ·rw [List.getElem?_append_left (by simpa using hi),zzQ] at e;obtain⟨p,hp,rfl⟩:=zzJ.mp e
   obtain⟨v,hv,rv⟩:=l.getP hp
   exact⟨some v,by rw [List.getElem?_append_left (by simpa using (show i<vs.length by omega)),zzQ,hv];rfl,v,rfl,rv⟩
  ·rw [List.getElem?_append_right (by simpa using hi),List.getElem?_replicate] at e;split at e
   ·rename_i h2;cases e;rw [zzl] at h2;exact⟨none,by rw [List.getElem?_append_right (by simp;omega),List.getElem?_replicate,if_pos (by rw [zzl];omega)],trivial⟩
   ·cases e
 ·exfalso
  by_cases hi:i<as.length
  ·rw [List.getElem?_append_left (by simpa using hi),zzQ] at e1;obtain⟨p,hp,e⟩:=zzJ.mp e1
   cases e
  ·rw [List.getElem?_append_right (by simpa using hi),List.getElem?_replicate] at e1;split at e1<;>cases e1
theorem SR.putFn{H0 G H:Hp}{env:Sl}{σ:St}{g:Str}{idx:List Nat}{cK:List PV}{v:V}(i:Nat)(r:SR W H0 env σ G H)(h:oG W G g idx cK v):SR W H0 (env.set i (.fn g idx cK)) (σ.set i (some v)) G H where
 len:=by simpa using r.len
 sub:=r.sub
 base:=r.base
 tab:=r.tab
 tab0:=r.tab0
 slot:=fun j s e=>by
  by_cases hj:i=j
  ·subst hj;have bR:i<env.length:=by
    have:=(zzH.mp e).1
    simpa using this
   rw [List.getElem?_set_self bR] at e;cases e;exact⟨some v,List.getElem?_set_self (by rw [←r.len];exact bR),v,rfl,h⟩
  ·rw [zzS hj] at e;obtain⟨o,h1,h2⟩:=r.slot j s e
   exact⟨o,by rw [zzS hj];exact h1,h2⟩
 apart:=fun a b q q' ad e1 e2 e3 e4=>by
  have ne:∀{c:Nat} {q:PV},(env.set i (.fn g idx cK))[c]?=some (.own q)→i≠c:=fun{c q} e z=>by
   subst z;have bR:i<env.length:=by
    have:=(zzH.mp e).1
    simpa using this
   rw [List.getElem?_set_self bR] at e;cases e
  have n1:=ne e1
  have n2:=ne e2
  rw [zzS n1] at e1 e3;rw [zzS n2] at e2 e4;exact r.apart a b q q' ad e1 e2 e3 e4
theorem ud{α:Type}{l r:List α}{a b:α}:(l++a::r).set l.length b=l++b::r:=by
 rw [List.set_append_right _ _ (zzE _),Nat.sub_self];rfl
theorem wU{d:Def}{H G:Hp}{as:List PV}{vs:List V}(Lf:d.np≤d.N.length)(sg:aG G H)(tb:cy W G H)(l:zF W G d.clo as vs)(hv:vs.length=d.np):ae d as=true∧SR W H (aa d as) (start d.N vs) G H:=by
 unfold ae aa;cases hc:d.clo with
 |none=>
  rw [hc] at l;have l:ak W G as vs:=l
  exact⟨by rw [←l.length,hv];simp,qQ sg tb l (by rw [←l.length,hv];exact Lf)⟩
 |some q=>
  rw [hc] at l;obtain⟨vR,cK,vd,v,rfl,rfl,l1,cr⟩:=l
  have Pa:=l1.length
  have hn:vd.length=d.np-1∧0<d.np:=by rw [zzM] at hv;simp at hv;omega
  have ha:vR.length=d.np-1:=by omega
  refine⟨by simp;omega,?_⟩;have h0:=qQ (N:=d.N) sg tb l1 (by omega)
  have h1:=h0.putFn vR.length cr
  have e1:(vR.map Slot.val++List.replicate (d.N.length-vR.length) Slot.no).set vR.length (.fn q.1 q.2 cK)=((vR++cK).take (d.np-1)).map .val++.fn q.1 q.2 ((vR++cK).drop (d.np-1))::List.replicate (d.N.length-d.np) Slot.no:=by
   rw [←ha,List.take_left',List.drop_left',show d.N.length-vR.length=(d.N.length-d.np)+1 by omega,List.replicate_succ]
   ·have:=ud (l:=vR.map Slot.val) (r:=List.replicate (d.N.length-d.np) Slot.no) (a:=Slot.no) (b:=.fn q.1 q.2 cK)
    rw [zzl] at this;exact this
   ·rfl
   ·rfl
  have e2:(start d.N vd).set vR.length (some v)=start d.N (vd++[v]):=by
   unfold L2.start;rw [zzM,List.length_singleton,show d.N.length-vd.length=(d.N.length-(vd.length+1))+1 by omega,List.replicate_succ,←Pa];have:=ud (l:=vd.map some) (r:=List.replicate (d.N.length-(vd.length+1)) none) (a:=none) (b:=some v)
   rw [zzl] at this;rw [this];simp
  rw [e1,e2] at h1;exact h1
theorem D1(M:sN K mg Γ W)(KB:K.In base){F:ba}{k:Nat}{n nf:Str}{d:Def}{st:Stmt}{fa:Addr}{fd:FuncData}(St:cG Γ n d st)(Fu:K9 K n n st fa fd)(hF:∀f,Γ.fs.contains f=true→nL P w K mg base W F k f)(hH:∀q∈Γ.hs,EO P w K mg base W F k q)(hA:∀g as,F g as≠.bad→Γ.fs.contains g=true∨gO g=true)
 (hL:Γ.hl=true→∃c p,fd.code=.ref c∧CodeK K c p∧(p,lamQ n)∈W.ts∧∀q',(p,q')∈W.ts→q'=lamQ n):
 fx P w K mg base (dF P w) (k+2) fa fd (d.N.take d.np) (xh W (fun _ as=>ag F d as) nf (d.N.take d.np).length d.clo):=by
 have hlen:(d.N.take d.np).length=d.np:=by rw [List.length_take];have:=St.np;omega
 obtain⟨oc,od,kV,doc,pm,an,e9,ct,sD,rfl,lk,rQ⟩:=Fu.ex
 refine JQ lk rQ St.sc (fun vs H Q E h=>h.1) fun A outer s H vs Q E hr h=>?_
 obtain⟨hl,G,as,sg,tb,l,o⟩:=h
 rw [hlen] at hl;obtain⟨ar,sr⟩:=wU St.np sg tb l hl
 refine⟨M4 W F H E d.body,jW (EM M KB St.sc hF hH hA hL hr) d.body _ St.chk,G,aa d as,sr,?_⟩;dsimp only at o;unfold ag at o;rw [if_pos ar] at o;cases r:ai F d.body (aa d as) with
 |bad=>rw [r] at o;exact o
 |exc c=>rw [r] at o;exact o
 |ok fl=>
  rw [r] at o;cases fl with
  |nx env=>exact fun σ' G' H' sr g=>o .non G' H' g .n
  |rt p=>exact fun v G' H' rv g=>o v G' H' g rv
  |bk env=>exact o.elim
  |ct env=>exact o.elim
def AllK(K:PySem.W.Frag)(ts:List (Addr×Str))(Γ:Pg):eL→Prop
 |[]=>True
 |r::l=>EntK K ts r.hl r.h r.st∧cG (Γ.at l r.hl) r.h r.d r.st∧((l.map (·.f)).contains r.f=false∧(r.d.clo.isNone==!gO r.f)=true∧(r.d.clo.isNone=true→r.f=r.h))∧AllK K ts Γ l
theorem uM(M:sN K mg Γ W)(l:eL)(hl:Bool):sN K mg (Γ.at l hl) W:=⟨M.hK,M.hm,M.gs,M.bs,M.nov,M.cls,M.xc,M.xs,M.rm,M.exm,M.bm⟩
theorem nL.mono{F:ba}{j k:Nat}{f:Str}(h:nL P w K mg base W F j f)(hk:j≤k):nL P w K mg base W F k f:=by
 obtain⟨fa,fd,ps,h1,h2⟩:=h.ex
 exact⟨fa,fd,ps,h1.mono hk,h2⟩
theorem kU{F F':ba}{f f':Str}{n:Nat}{q:Option (Str×List Nat)}(e:∀as,F' f' as=F f as):xh W F' f' n q=xh W F f n q:=by
 funext vs H Q E
 unfold xh;simp only [e]
theorem nL.swap{F F':ba}{k:Nat}{f:Str}(h:nL P w K mg base W F k f)(e:∀as,F' f as=F f as):nL P w K mg base W F' k f:=by
 obtain⟨fa,fd,ps,h1,h2,h3,h4,h5⟩:=h.ex
 refine⟨fa,fd,ps,?_,h2,h3,h4,fun as hn=>h5 as (by rw [←e];exact hn)⟩
 rw [kU e];exact h1
theorem EO.swap{F F':ba}{j k:Nat}{q:Hs}(h:EO P w K mg base W F j q)(hk:j≤k)(e:∀as,F' q.f as=F q.f as):EO P w K mg base W F' k q:=by
 obtain⟨fa,fd,ps,h1,h2,h3,h4,h5⟩:=h.ex
 refine⟨fa,fd,ps,?_,h2,h3,h4,h5⟩;rw [kU e];exact h1.mono hk
theorem kG{r:Row}{l:eL}{g:Str}(h:(g==r.f)=false)(as:List PV):den (tab (r::l)) g as=den (tab l) g as:=by
 show(if(g==r.f)=true then _ else _)=_
 rw [h]
 rfl
theorem qG{r:Row}{l:eL}(as:List PV):den (tab (r::l)) r.f as=ag (den (tab l)) r.d as:=by
 show(if(r.f==r.f)=true then _ else _)=_
 rw [beq_self_eq_true]
 rfl
theorem n0:∀(l:eL) {ts:List (Addr×Str)},AllK K ts Γ l→∀g as,den (tab l) g as≠.bad→(mh l).contains g=true∨gO g=true
 |[],_,_,g,as,h=>absurd rfl h
 |r::l,ts,⟨_,_,⟨_,hn,_⟩,hr⟩,g,as,h=>by
  by_cases e:(g==r.f)=true
  ·have e2:=beq_iff_eq.mp e
   subst e2;cases hc:r.d.clo with
   |none=>
    left
    unfold mh;rw [List.filterMap_cons,hc];simp
   |some q=>
    right
    rw [hc] at hn
    simpa using hn
  ·rw [kG (by simpa using e)] at h;rcases n0 l hr g as h with z|z
   ·left
    unfold mh at z⊢;rw [List.filterMap_cons];split
    ·exact z
    ·rw [List.contains_cons,z,Bool.or_true]
   ·exact .inr z
theorem yE(M:sN K mg Γ W)(KB:K.In base)(G:base.Ns mainGlobals mg):∀(l:eL),AllK K W.ts Γ l→(∀f,(mh l).contains f=true→nL P w K mg base W (den (tab l)) (2*l.length) f)∧∀q∈wu l,EO P w K mg base W (den (tab l)) (2*l.length) q
 |[],_=>⟨fun f hf=>by simp [mh] at hf,fun q hq=>by simp [wu] at hq⟩
 |r::l,hall=>by
  obtain⟨he,hs,⟨hfr,hnm,hfh⟩,hr⟩:=hall
  obtain⟨ih,ihH⟩:=yE M KB G l hr
  obtain⟨fa,oc,od,kV,doc,pm,an,e9,ct,sD,e1,e2,e3,e4,e5⟩:=he
  have Fu:=yl (st:=r.st) e2 e3 e4
  have ok:=D1 (P:=P) (w:=w) (nf:=r.f) (uM M l r.hl) KB (k:=2*l.length) hs Fu (fun g hg=>ih g hg) (fun q hq=>ihH q hq) (n0 l hr) e5
  have CS:∀g,(l.map (·.f)).contains g=true→(g==r.f)=false:=fun g hg=>by
   cases z:g==r.f with
   |false=>rfl
   |true=>rw [beq_iff_eq.mp z,hfr] at hg;cases hg
  have sp:xh W (fun _ as=>ag (den (tab l)) r.d as) r.f (r.d.N.take r.d.np).length r.d.clo=xh W (den (tab (r::l))) r.f (r.d.N.take r.d.np).length r.d.clo:=kU fun as=>(qG as).symm
  rw [sp] at ok;have hlen:(r.d.N.take r.d.np).length=r.d.np:=by rw [List.length_take];have:=hs.np;omega
  have ml:∀f,(mh l).contains f=true→(l.map (·.f)).contains f=true:=fun f hf=>by
   rw [List.contains_iff_mem] at hf⊢;unfold mh at hf;obtain⟨x,hx,e⟩:=List.mem_filterMap.mp hf
   split at e
   ·cases e;exact List.mem_map_of_mem (f:=(·.f)) hx
   ·cases e
  refine⟨fun f hf=>?_,fun q hq=>?_⟩
  ·by_cases jr:(f==r.f)=true∧r.d.clo=none
   ·obtain⟨h1,h2⟩:=jr
    have e:=beq_iff_eq.mp h1
    subst e;refine⟨fa,_,r.d.N.take r.d.np,by rw [h2] at ok;exact ok,?_,e4,Fu.binds hs.bind,fun as hn=>?_⟩
    ·rw [hfh (by rw [h2];rfl)];exact PySem.W.mg_of KB G e1
    ·rw [qG] at hn;unfold ag at hn
     by_cases ha:ae r.d as=true
     ·unfold ae at ha;rw [h2] at ha;rw [hlen];exact beq_iff_eq.mp ha
     ·rw [if_neg ha] at hn;exact absurd rfl hn
   ·have Np:(mh l).contains f=true:=by
     unfold mh at hf⊢;rw [List.filterMap_cons] at hf;split at hf
     ·exact hf
     ·rename_i y hy;split at hy
      ·rename_i hc;cases hy;rw [List.contains_cons,Bool.or_eq_true] at hf;rcases hf with z|z
       ·exact absurd ⟨z,Option.isNone_iff_eq_none.mp hc⟩ jr
       ·exact z
      ·cases hy
    exact((ih f Np).mono (by rw [zzL];omega)).swap fun as=>kG (CS f (ml f Np)) as
  ·unfold wu at hq;rw [List.filterMap_cons] at hq;have tail:q∈wu l→EO P w K mg base W (den (tab (r::l))) (2*(r::l).length) q:=fun hq=>by
    refine(ihH q hq).swap (by rw [zzL];omega) fun as=>kG (CS q.f ?_) as
    unfold wu at hq;obtain⟨x,hx,e⟩:=List.mem_filterMap.mp hq
    obtain⟨y,_,rfl⟩:=zzJ.mp e
    rw [List.contains_iff_mem];exact List.mem_map_of_mem (f:=(·.f)) hx
   cases hc:r.d.clo with
   |none=>rw [hc] at hq;exact tail hq
   |some y=>
    rw [hc] at hq;rcases List.mem_cons.mp hq with z|z
    ·subst z;rw [hc] at ok;exact⟨fa,_,r.d.N.take r.d.np,ok,PySem.W.mg_of KB G e1,e4,Fu.binds hs.bind,hlen⟩
    ·exact tail z
end
end Ci
namespace L2
open PySem PySem.Spec PyProof.Rows
theorem wV{P:Program}{w:World}{K:PySem.W.Frag}{mg mb:Str→Option Value}{CX:rn}{k:Nat}{fa a:Addr}{fd:FuncData}{x:Str}{sp:Sp}{s₁:Shared}{vs:List Value}{ns:List Int}(kP:List Addr)
 (KX:K.In s₁.heap) (uX:s₁.heap.Ns mainGlobals mg) (hb:s₁.heap.Ns builtinsNs mb) (Qh:∀x:Str,x≠"__name__"→mb x=bootBuiltins x) (vN:s₁.heap.NoLimit) (hg:s₁.gens=#[])
 (hT:∀p∈kP,s₁.heap.get? p=some (PySem.W.tabObj #[])) (hC:∀p∈kP,∃c,Ci.CodeK K c p) (Ov:∀p∈kP,K.lookup p=none)
 (ha:s₁.heap.get? a=some {cls:=.type "list",data:=.seq vs.toArray}) (hi:IntsAre vs ns) (hl:ns.length≤sizeLine) (hr:dw k callerA)
 (F:∀base:Heap,K.In base→base.Ns mainGlobals mg→fx P w K mg base CX k fa fd [x] sp) (IC:∀(s:Shared) (u:Value),BindsTo s fd ⟨[u],[]⟩ [(x,u)])
 (HF:∀H:Hp,(∀p∈kP,H p=some (.tbl #[]))→Ci.LsR K H a (ns.map V.int)→sp [.ref a] H (fun v _=>v=.bl true) fun _ _ _=>False)
 (ML:∀H e s',CX [] H s₁ (fun _ _ _=>False) e s'→False):
 codeAny (model P w) callerA (.call (.ref fa) ⟨[.ref a],[]⟩) (fun r s'=>r=.ok (.ret (.bool true))∧OldK s₁.heap s'.heap∧s'.os=s₁.os∧AllBare s'.gens) s₁:=by
 have rv:=mU hi
 have Ki:=hi.length
 have aT:a∉kP:=fun z=>by have:=hT a z;rw [ha] at this;cases this
 have core:∀H:Hp,(∀p∈kP,H p=some (.tbl #[]))→Ci.LsR K H a (ns.map V.int)→dU P w H s₁.heap→(∀b,H b≠none→b∈kP∨b=a∧∃o xs,H b=some (.frz o xs))→(H a≠none→K.lookup a=none)→
  codeAny (model P w) callerA (.call (.ref fa) ⟨[.ref a],[]⟩) (fun r s'=>r=.ok (.ret (.bool true))∧OldK s₁.heap s'.heap∧s'.os=s₁.os∧AllBare s'.gens) s₁:=by
  intro H hO hS hok hA hK;have uB:∀{b:Addr} {o:Obj},s₁.heap.get? b=some o→H b=none→(oQ s₁.heap H).get? b=some o:=fun e n=>xw e n
  have Bp:∀{b:Addr} {o:Obj} {es:Array DictEntry} {ep:Nat},s₁.heap.get? b=some o→o.data=.dict es ep→H b=none:=fun{b o es ep} e d=>by
   cases q:H b with
   |none=>rfl
   |some u=>
    rcases hA b (by rw [q];simp) with z|⟨z,_⟩
    ·rw [hT b z] at e;cases e;cases d
    ·subst z;rw [ha] at e;cases e;have d':Data.seq vs.toArray _=Data.dict es ep:=d
     cases d'
  have KY:∀{b:Addr} {m:Str→Option Value},s₁.heap.Ns b m→(oQ s₁.heap H).Ns b m:=fun{b m} ⟨o,es,ep,e,d,r⟩=>⟨o,es,ep,uB e (Bp e d),d,r⟩
  have Of:K.In (oQ s₁.heap H):=fun b o e=>uB (KX b o e) (by
   cases q:H b with
   |none=>rfl
   |some u=>
    rcases hA b (by rw [q];simp) with z|⟨z,_⟩
    ·rw [Ov b z] at e;cases e
    ·subst z;rw [hK (by rw [q];simp)] at e;cases e)
  have hM:Mod K mg (oQ s₁.heap H):=⟨Of,KY uX,⟨mb,KY hb,Qh⟩,let⟨mc,h1,h2⟩:=vN;⟨mc,KY h1,h2⟩⟩
  have e0:g8 P w K mg (oQ s₁.heap H) callerA [] s₁ H:=⟨rfl,hM,fun b o e=>CN e,Nat.le_of_eq (vi _ _),trivial,fun b hb=>absurd (show b∈([]:List Addr) from hb) (by simp),hok,.of_eq hg⟩
  refine codeAny_mono ((F _ Of (KY uX)).run callerA [] s₁ H ⟨[.ref a],[]⟩ [.ref a] [.ref a] _ _ hr e0 (IC s₁ (.ref a)) (.cons rfl .nil) (HF H hO hS)) fun r s' h=>?_
  cases r with
  |error e=>exact(ML H e s' h).elim
  |ok fl=>
   cases fl with
   |next=>exact False.elim h
   |brk=>exact False.elim h
   |cont=>exact False.elim h
   |ret u=>
    obtain⟨v,H',os,bare,un,Ck,r',q⟩:=h
    have q':v=.bl true:=q
    subst q';obtain rfl:u=Value.bool true:=r'
    have key:∀b o,s₁.heap.get? b=some o→s'.heap.get? b=some o∨b∈kP∧∃m,s'.heap.get? b=some (PySem.W.tabObj m):=fun b o e=>by
     cases q:H b with
     |none=>exact .inl (un.keep b o e q (by intro z;exact absurd (show b∈([]:List Addr) from z) (by simp)) (by simp))
     |some u=>
      rcases hA b (by rw [q];simp) with z|⟨z,ob,xs,z2⟩
      ·right
       obtain⟨m,hm⟩:=un.tbls b _ (hO b z)
       exact⟨z,_,Ck b _ hm⟩
      ·left
       have z3:=un.frzs b ob _ z2
       obtain⟨e1,_⟩:=hok b _ z2
       obtain⟨e2,_⟩:=Ck b _ z3
       rw [e] at e1;cases e1;exact e2
    refine⟨rfl,⟨fun b o e=>?_,fun b o e=>?_⟩,os,bare⟩
    ·rcases key b o e with z|⟨z,m,z2⟩
     ·exact .inl z
     ·have e':=hT b z
      rw [e] at e';cases e';obtain⟨c,o',DL,_,_,_,_,_,_,_,k1,k2,k3,k4,_⟩:=hC b z
      have tb:s₁.heap.TableAt c b #[]:=⟨⟨o',DL,KX _ _ k1,k2,k3,k4⟩,e⟩
      exact .inr (.inl ⟨tb.isCodeTable,rfl,#[],m,rfl,by rw [z2];simp⟩)
    ·rcases key b o e with z|⟨_,m,z⟩
     ·exact⟨_,z⟩
     ·exact⟨_,z⟩
 cases hk:K.lookup a with
 |some o=>
  have e:=KX a o hk
  rw [ha] at e;cases e;refine core (fun b=>if b∈kP then some (.tbl #[]) else none) (fun p hp=>if_pos hp) (.inr ⟨vs.toArray,_,hk,by rw [zzC,Ki];exact hl,by simpa using rv⟩) (fun b u z=>?_) (fun b z=>?_) fun z=>absurd (if_neg aT) z
  ·by_cases hb:b∈kP
   ·have z':=(if_pos hb).symm.trans z
    cases z';exact hT b hb
   ·have z':=(if_neg hb).symm.trans z
    cases z'
  ·by_cases hb:b∈kP
   ·exact .inl hb
   ·exact absurd (if_neg hb) z
 |none=>
  refine core (fun b=>if b=a then some (.frz {cls:=.type "list",data:=.seq vs.toArray} (.lst (ns.map V.int))) else if b∈kP then some (.tbl #[]) else none) (fun p hp=>?_) (.inl (.inr ⟨{cls:=.type "list",data:=.seq vs.toArray},if_pos rfl⟩)) (fun b u z=>?_) (fun b z=>?_) fun _=>hk
  ·show(if p=a then _ else _)=_
   rw [if_neg (show¬p=a from fun z=>aT (by rw [←z];exact hp)),if_pos hp]
  ·by_cases hb:b=a
   ·have z':=(if_pos hb).symm.trans z
    cases z';subst hb;exact⟨ha,by rw [zzl];exact hl,vs,_,rv,ha⟩
   ·replace z:=(if_neg hb).symm.trans z
    by_cases hc:b∈kP
    ·have z':=(if_pos hc).symm.trans z
     cases z';exact hT b hc
    ·have z':=(if_neg hc).symm.trans z
     cases z'
  ·by_cases hb:b=a
   ·exact .inr ⟨hb,_,_,if_pos hb⟩
   ·by_cases hc:b∈kP
    ·exact .inl hc
    ·exact absurd ((if_neg hb).trans (if_neg hc)) z
theorem walk_L{l:PySem.W.OpenLaw}{n k:Nat}{q:Program}{loose:List Str}{XP:(Str→Option Value)→Heap→Prop}{YP:World→Heap→Prop}{d:DefRec}{K:Params→PySem.W.Frag}{CX:World→rn}{sp:World→Sp}{x:Str}(kP:List Addr)
 (hn:l.most=some n) (E6:n≤sizeLine) (IB:d.params.defaults=[]) (hr:dw k callerA)
 (hY:∀(w:World) (h:Heap),YP w h→(K w.params).In h∧∀p∈kP,h.get? p=some (PySem.W.tabObj #[])) (hC:∀(w:World),∀p∈kP,(∃c,Ci.CodeK (K w.params) c p)∧(K w.params).lookup p=none)
 (F:∀(w:World) (mg:Str→Option Value) (fa:Addr) (h:Heap),(K w.params).In h→h.Ns mainGlobals mg→mg d.name=some (.ref fa)→
  ∃fd:FuncData,(∀(s:Shared) (u:Value),BindsTo s fd ⟨[u],[]⟩ [(x,u)])∧
   ∀base:Heap,(K w.params).In base→base.Ns mainGlobals mg→fx l.prog w (K w.params) mg base (CX w) k fa fd [x] (sp w))
 (HF:∀(w:World) (H:Hp) (a:Addr) (ns:List Int),ns.length≤n→(∀p∈kP,H p=some (.tbl #[]))→Ci.LsR (K w.params) H a (ns.map V.int)→sp w [.ref a] H (fun v _=>v=.bl true) fun _ _ _=>False)
 (ML:∀(w:World) (H:Hp) (s:Shared) (e:Value) (s':Shared),CX w [] H s (fun _ _ _=>False) e s'→False):
 PySem.W.WalkO q loose XP YP l.row.toRowW d [] (fun f vs=>PySem.call f vs):=by
 refine Att.attach_call hn IB fun w s₀ s₁ mg mb fa o pm cd doc a vs ns G Y ho hd rQ hmg hobj hints hlen hg=>?_
 obtain⟨KX,hT⟩:=hY w _ Y
 obtain⟨fd,hb,hF⟩:=F w mg fa _ KX G.T.g hmg
 exact wV kP KX G.T.g G.T.b G.T.builtins G.T.nolimit hg hT (fun p hp=>(hC w p hp).1) (fun p hp=>(hC w p hp).2) hobj hints (zzU hlen E6) hr hF hb (fun H hO hS=>HF w H a ns hlen hO hS) fun H e s'=>ML w H s₁ e s'
end L2
namespace Ci
open PySem L2
theorem j9{W:Wd}{G:Hp}:∀(ns:List Int),ak W G (ns.map PV.int) (ns.map V.int)
 |[]=>.nil
 |n::ns=>.cons .i (j9 ns)
def mC(H:Hp):Hp:=fun b=>match H b with
 |some (.tbl _)=>none
 |o=>o
theorem r9(H:Hp):aG (mC H) H:=fun b o e=>by
 unfold mC at e;split at e
 ·cases e
 ·exact e
theorem qu{H:Hp}{b:Addr}{o:HO}(h:H b=some o)(n:∀ps,o≠.tbl ps):mC H b=some o:=by
 unfold mC;rw [h];cases o with
 |tbl ps=>exact absurd rfl (n ps)
 |_=>rfl
noncomputable def JG(K:PySem.W.Frag)(kP:List Addr):Sp:=fun vs H Q _=>∃(a:Addr) (ns:List Int),vs=[.ref a]∧(∀p∈kP,H p=some (.tbl #[]))∧LsR K H a (ns.map V.int)∧ns.length≤63∧∀H',Q (.bl true) H'
theorem walk{l:PySem.W.OpenLaw}{q:Program}{loose:List Str}{XP:(Str→Option Value)→Heap→Prop}{YP:World→Heap→Prop}{d:DefRec}{K:Params→PySem.W.Frag}(rest:eL)(Γ:Pg)(x:Str)(dl:Def)(xs:List Str)(ts:List (Addr×Str))(st:Stmt)
 (hx:dl.N.take dl.np=[x]) (DC:dl.clo=none) (P9:d.name="law") (hn:l.most=some 63) (IB:d.params.defaults=[]) (hr:dw (2*rest.length+2) callerA) (hY:∀(w:World) (h:Heap),YP w h→(K w.params).In h∧∀p∈ts.map (·.1),h.get? p=some (PySem.W.tabObj #[]))
 (hC:∀(w:World),∀p∈ts.map (·.1),(∃c,CodeK (K w.params) c p)∧(K w.params).lookup p=none)
 (hM:∀(w:World) (mg:Str→Option Value) (h:Heap),(K w.params).In h→h.Ns mainGlobals mg→sN (K w.params) mg Γ ⟨K w.params,mg,xs,ts⟩)
 (hE:∀w:World,EntK (K w.params) ts false "law" st) (hS:cG (Γ.at rest false) "law" dl st)
 (hA:∀w:World,AllK (K w.params) ts Γ rest)
 (LM:∀ns:List Int,ns.length≤63→ag (den (tab rest)) dl [.lst (ns.map .int)]=.ok (.bl true)):
 PySem.W.WalkO q loose XP YP l.row.toRowW d [] (fun f vs=>PySem.call f vs):=by
 refine L2.walk_L (n:=63) (k:=2*rest.length+2) (x:=x) (CX:=fun w=>dF l.prog w) (sp:=fun w=>JG (K w.params) (ts.map (·.1))) (ts.map (·.1)) hn (by decide) IB hr hY hC ?_ ?_ ?_
 ·intro w mg fa h KX G hmg;rw [P9] at hmg;obtain⟨f,oc,od,kV,doc,pm,an,e9,ct,sD,e1,e2,e3,e4,e5⟩:=hE w
  have hf:fa=f:=by
   have z:=hmg.symm.trans (PySem.W.mg_of KX G e1)
   cases z
   rfl
  subst hf;refine⟨PySem.W.fnOf "law" "law" (defArgs st) (defBody st) (defScope st) .none kV doc pm an e9 ct,fun s u=>?_,fun base KB GB=>?_⟩
  ·have hb:=hS.bind kV doc pm an e9 ct [u]
   rw [hx] at hb;exact .of_eq (hb rfl)
  ·have M:=hM w mg base KB GB
   obtain⟨a1,a2⟩:=yE (P:=l.prog) (w:=w) M KB GB rest (hA w)
   have ok:=D1 (P:=l.prog) (w:=w) (nf:="law") (uM M rest false) KB (k:=2*rest.length) hS (yl (st:=st) e2 e3 e4) (fun g hg=>a1 g hg) (fun q hq=>a2 q hq) (n0 rest (hA w)) (fun z=>nomatch z)
   rw [hx] at ok;refine ok.imp fun vs H Q E h=>?_
   obtain⟨a,ns,rfl,ht,hl,hlen,q⟩:=h
   refine⟨rfl,mC H,[.lst (ns.map .int)],r9 H,fun P q m=>?_,?_,?_⟩
   ·have hP:=ht P (List.mem_map_of_mem (f:=(·.1)) m)
    refine⟨by unfold mC;rw [hP],#[],hP,trivial,fun pos cv e=>nomatch e⟩
   ·rw [DC];refine ak.cons (.l ?_ (j9 ns)) .nil;rcases hl with(h|⟨o,h⟩)|h
    ·exact .inl (.inl (qu h (fun _ z=>nomatch z)))
    ·exact .inl (.inr ⟨o,qu h (fun _ z=>nomatch z)⟩)
    ·exact .inr h
   ·dsimp only;rw [LM ns hlen];intro v G' H' _ rv;simp only [Rep] at rv;subst rv;exact q H'
 ·intro w H a ns hlen hO wK;exact⟨a,ns,rfl,hO,wK,hlen,fun _=>rfl⟩
 ·intro w H s e s' h;obtain⟨a,C,t,vs,H',B,rfl,F⟩:=h
  exact F.ends
end Ci
namespace Hd
open PySem PySem.W PySem.Calls
noncomputable def EL(st:SharedT→Thread→Option (SharedT×Thread))(ok:Thread→Bool)(n:Nat):SharedT→Thread→Option SharedT:=
 @Nat.rec (fun _=>SharedT→Thread→Option SharedT) (fun _ _=>none) (fun _ ih s t=>match through t with
  |true=>some s
  |false=>match ok t with
   |false=>none
   |true=>match st s t with
    |some (s',t')=>ih s' t'
    |none=>none) n
theorem ng{tb:String→Option Builtin}{p:Program}{w:World}{n₀:Nat}{ann:Option Value}:∀{n:Nat} {s s':SharedT} {t:Thread},EL (stepT (denote tb) p w) (stepOk n₀ ann) n s t=some s'→topRun tb p w n₀ ann n s.abs t=some s'.abs
 |0,_,_,_,h=>by cases h
 |n+1,s,s',t,h=>by
  have h:(match through t with
   |true=>some s
   |false=>match stepOk n₀ ann t with
    |false=>none
    |true=>match stepT (denote tb) p w s t with
     |some (s',t')=>EL (stepT (denote tb) p w) (stepOk n₀ ann) n s' t'
     |none=>none)=some s':=h
  unfold topRun;cases ht:through t with
  |true=>rw [ht] at h;cases h;rfl
  |false=>
   rw [ht] at h;cases hk:stepOk n₀ ann t with
   |false=>rw [hk] at h;cases h
   |true=>
    rw [hk] at h;cases hs:stepT (denote tb) p w s t with
    |none=>rw [hs] at h;cases h
    |some r=>obtain⟨s₂,t₂⟩:=r;rw [hs] at h;rw [stepT_spec hs];exact ng h
def treeOf(l:List Obj):BT:=(l.foldl (fun(T,i) o=>(BT.ins T i o,i+1)) (BT.nil,0)).1
theorem left_of{p q:Program}{loose:List Str}{Xt:Shared→Bool}{α:Type}{Yf:Shared→α}{Ya:World→α}{N:Nat}{g0:Bool}{T₀:Params→BT}{life:Life}{m₀:Nat}{ann:Option Value}{M:Nat}
 (e:opening p=plainProg p.main.scope.names) (hN:Nat.ble 600 N=true) (f:∀s,fenceModules? p s=some s)
 (e0:∀P:Params,absHeap (T₀ P) m₀ life=boot_heap P)
 (size:∀w:World,((boot_heap w.params).isNs mainGlobals,(boot_heap w.params).nsMap mainGlobals "__annotations__")=(true,ann))
 (le:Nat.ble M N=true)
 (run:∀(w:World) (os:OsState),(EL (stepT (denote treeTable) p w) (stepOk m₀ ann) M ⟨T₀ w.params,m₀,life,Array.mk [],boot_drawn,boot_toks,os⟩ (topStub p)).map (fun s=>
  ((staticsOk (importedModules p.main.body) (boot_heap w.params) s.abs.heap&&namesBound p s.abs.heap&&gensDone s.abs&&laidKept (boot_heap w.params) s.abs.heap),openSeen q loose (importedModules p.main.body) Xt g0 s.abs,Yf s.abs))
  =some (true,openGood q loose,Ya w)):LeftO p q loose Xt Yf Ya N g0:=fun w=>by
 obtain⟨⟨h,gs,d,k,os⟩,e1,e'⟩:=zzJ.mp (boot_open e hN f w)
 obtain⟨rfl,rfl,rfl,rfl⟩:h=boot_heap w.params∧gs=Array.mk []∧d=boot_drawn∧k=boot_toks:=by simpa using e'
 obtain⟨z1,z3⟩:_∧_:=by simpa only [Prod.mk.injEq] using size w
 obtain⟨s,r,l⟩:=zzJ.mp (run w os)
 obtain⟨l1,l2,l3⟩:_∧_∧_:=by simpa only [Prod.mk.injEq] using l
 have r:=ng r
 have r:=topRun_mono (N-M) _ _ _ _ r
 rw [show M+(N-M)=N by have:=Nat.le_of_ble_eq_true le;omega] at r;have hs:(boot_heap w.params).objs.size=m₀:=by rw [←e0 w.params];exact absHeap_size _ _ _
 have r:topRun treeTable p w m₀ ann N ⟨boot_heap w.params,Array.mk [],boot_drawn,boot_toks,os⟩ (topStub p)=some s.abs:=by
  have:(⟨T₀ w.params,m₀,life,Array.mk [],boot_drawn,boot_toks,os⟩:SharedT).abs=⟨boot_heap w.params,Array.mk [],boot_drawn,boot_toks,os⟩:=by
   show Shared.mk _ _ _ _ _=_
   rw [show absHeap (T₀ w.params) m₀ life=boot_heap w.params from e0 w.params]
  rw [←this];exact r
 have t:topFrom treeTable p w N ⟨boot_heap w.params,Array.mk [],boot_drawn,boot_toks,os⟩=some s.abs:=by
  unfold topFrom;dsimp only;rw [z1,z3,hs,r];show(match staticsOk (importedModules p.main.body) (boot_heap w.params) s.abs.heap&&namesBound p s.abs.heap&&gensDone s.abs&&laidKept (boot_heap w.params) s.abs.heap with|true=>_|false=>_)=_
  rw [l1]
 unfold openEnds;rw [e1];show(topFrom treeTable p w N _).map _=_
 rw [t];exact congrArg some (Prod.ext l2 l3)
end Hd
namespace Hd
open PySem PySem.W
theorem boot0:∀P:Params,absHeap (treeOf (boot_heap P).objs.toList) 11 {}=boot_heap P:=fun P=>by kernel_rfl
theorem boot1:∀w:World,((boot_heap w.params).isNs mainGlobals,(boot_heap w.params).nsMap mainGlobals "__annotations__")=(true,some (.ref 6)):=fun w=>by kernel_rfl
abbrev de(P:Params)(x:Str)(t:Tok)(v:Value):DictEntry:={hash:=PyData.keyHash P x,key:=.str x t,val:=v}
theorem holds{l:OpenLaw}{keep:List Nat}{K:Params→Frag}{as:List Addr}{d:DefRec}{N:Nat}(L0:l.wellSaid=true)
 (ka:∀P,as=(K P).map (·.1))
 (left:LeftO l.row.prog (view l.row.prog keep) [] (fun s=>xlAt (view l.row.prog keep) [] s&&recOk l.row.toRowW.records s) (kHook K as ka).obs (kHook K as ka).val N)
 (EZ:defOf (view l.row.prog keep) l.row.name=some (d,[])) (hp:l.row.prog.theDef l.row.name=some (d.params,d.body,d.scope)) (hk:kwWritten? d.params.kwonlyargs d.params.kw_defaults=some [])
 (ok:(chainsOk (view l.row.prog keep)&&opensWell l.row.prog&&(frees l.row.toRowW&&l.row.within.isEmpty))=true) (hb:l.row.prog.bare) (hw:l.row.toRowW.promised)
 (call:WalkO (view l.row.prog keep) [] (XL (view l.row.prog keep) []) (kHook K as ka).says l.row.toRowW d [] fun f vs=>PySem.call f vs):l.Holds:=
 holds_law L0 fun k1=>holds_open (N:=N) left (Hook.of (kHook K as ka)) (Hook.keeps (kHook K as ka)) (fun s e=>xl_of s (Bool.and_eq_true_iff.mp e).1) XL.keeps EZ hp hk (fun s e=>recFacts_of (Bool.and_eq_true_iff.mp e).2) (by cases h:l.row.writes<;>rfl) k1 ok hb hw call
theorem ar1{P:List Value→Prop}(h:∀a0,P [a0]):∀us:List Value,us.length=1→P us
 |[a0],_=>h a0
theorem ar2{P:List Value→Prop}(h:∀a0 a1,P [a0,a1]):∀us:List Value,us.length=2→P us
 |[a0,a1],_=>h a0 a1
theorem ar3{P:List Value→Prop}(h:∀a0 a1 a2,P [a0,a1,a2]):∀us:List Value,us.length=3→P us
 |[a0,a1,a2],_=>h a0 a1 a2
theorem ar4{P:List Value→Prop}(h:∀a0 a1 a2 a3,P [a0,a1,a2,a3]):∀us:List Value,us.length=4→P us
 |[a0,a1,a2,a3],_=>h a0 a1 a2 a3
end Hd
namespace KJ
open PySem L2 Ci
theorem pf{α β:Type}{a:α}{f:α→Res β}:(Res.ok a).bind f=f a:=id rfl
theorem HG{α:Type}{a:α}:(Res.ok a).well=.ok a:=id rfl
theorem OO{α:Type}{a:α}:Res.of (some a)=.ok a:=id rfl
theorem PH{env:Sl}{k:Sl→Res Fl}:(Fl.nx env).seq k=k env:=id rfl
theorem Pf{p:PV}{k:Sl→Res Fl}:(Fl.rt p).seq k=.ok (.rt p):=id rfl
theorem Pp{env:Sl}{k:Sl→Res Fl}:(Fl.bk env).seq k=.ok (.bk env):=id rfl
theorem sv{p:PV}:uj (some (.val p))=.ok p:=id rfl
theorem Px{p:PV}:ym (some (.val p))=.ok p:=id rfl
theorem O0{p:PV}:ym (some (.own p))=.ok p:=id rfl
theorem KH{α:Type}{b:Bool}{f:Bool→Res α}:rY (.bl b) f=f b:=id rfl
theorem IA{i j:Int}:binOp .add (.int i) (.int j)=.ok (.int (i+j)):=id rfl
theorem JF{i j:Str}:binOp .add (.str i) (.str j)=if i.length+j.length≤c8 then .ok (.str (i++j)) else .bad:=id rfl
theorem IL{i j:List PV}:binOp .add (.lst i) (.lst j)=if i.length+j.length≤c8 then .ok (.lst (i++j)) else .bad:=id rfl
theorem LP{i j:Int}:binOp .sub (.int i) (.int j)=.ok (.int (i-j)):=id rfl
theorem Ml{i j:Int}:binOp .mul (.int i) (.int j)=if aW i||aW j then .ok (.int (i*j)) else .bad:=id rfl
theorem Li{i j:Int}:binOp .mod (.int i) (.int j)=if 0<j then .ok (.int (i%j)) else .bad:=id rfl
theorem Mm{i j:Int}:binOp .fdiv (.int i) (.int j)=if 0<j∧j<1073741824 then .ok (.int (i/j)) else .bad:=id rfl
theorem Qd:du .eq=gq:=id rfl
theorem Ox:du .ne=gP:=id rfl
theorem P5:du .lt=qo:=id rfl
theorem PN:du .le=ql:=id rfl
theorem P7:du .in_=pz:=id rfl
theorem Lh:du .nin=gX:=id rfl
theorem oLt{i j:Int}:qo (.int i) (.int j)=.ok (.bl (decide (i<j))):=id rfl
theorem oLe{i j:Int}:ql (.int i) (.int j)=.ok (.bl (decide (i≤j))):=id rfl
theorem lL{xs:List PV}:cJ .len [.lst xs]=.ok (.int xs.length):=id rfl
theorem lT{xs:List PV}:cJ .len [.tup xs]=.ok (.int xs.length):=id rfl
theorem lS{z:Str}:cJ .len [.str z]=if z.length≤c8 then .ok (.int z.length) else .bad:=id rfl
theorem tL{xs:List PV}:cJ .tuple [.lst xs]=.ok (.tup xs):=id rfl
theorem P8{i:Nat}{p:PV}{env:Sl}:(Tg.one i).put p env=.ok (env.set i (.val p)):=id rfl
theorem PD{i j:Nat}{a b:PV}{env:Sl}:(Tg.two i j).put (.tup [a,b]) env=.ok ((env.set i (.val a)).set j (.val b)):=id rfl
theorem DJ{p:PV}:oH (.own p)=.val p:=id rfl
theorem jA{α:Type}{a:α}{as:List α}:(a::as).length=as.length+1:=id rfl
theorem jB{α:Type}:([]:List α).length=0:=id rfl
theorem jC{α β:Type}{f:α→β}{a:α}{l:List α}:(a::l).map f=f a::l.map f:=id rfl
theorem jD{α β:Type}{f:α→β}:([]:List α).map f=[]:=id rfl
theorem jE{α:Type}{a:α}{as bs:List α}:a::as++bs=a::(as++bs):=id rfl
theorem jF{α:Type}{as:List α}:[]++as=as:=id rfl
theorem jG{α:Type}{a:α}{l:List α}:(a::l)[0]?=some a:=id rfl
theorem jH{α:Type}{a:α}{l:List α}{i:Nat}:(a::l)[i+1]?=l[i]?:=id rfl
theorem jI{α:Type}{a b:α}{l:List α}:(a::l).set 0 b=b::l:=id rfl
theorem jJ{α:Type}{a b:α}{l:List α}{i:Nat}:(a::l).set (i+1) b=a::l.set i b:=id rfl
theorem jK{α:Type}{a d:α}{l:List α}:(a::l).getD 0 d=a:=id rfl
theorem jL{α:Type}{a d:α}{l:List α}{i:Nat}:(a::l).getD (i+1) d=l.getD i d:=id rfl
theorem jM{n:Nat}:0+n=n:=Nat.zero_add _
theorem jN:(!true)=false:=id rfl
theorem jO:(!false)=true:=id rfl
theorem jP:(false=true)=False:=zze
theorem eA{e:E}{xs:List PV}:rM e (.lst xs)=.ok xs:=id rfl
theorem Pd{e:E}{xs:List PV}:rM e (.tup xs)=.ok xs:=id rfl
theorem NW{xs:List PV}:itemsOf (.tup xs)=.ok xs:=id rfl
theorem N8{xs:List PV}:itemsOf (.lst xs)=.ok xs:=id rfl
theorem NO{z:Str}:itemsOf (.str z)=.ok (chars z):=id rfl
theorem OI{i j k:Nat}{a b c:PV}{env:Sl}:(Tg.three i j k).put (.tup [a,b,c]) env=.ok (((env.set i (.val a)).set j (.val b)).set k (.val c)):=id rfl
theorem jQ{α:Type}{f:α→α}{a:α}{l:List α}:(a::l).modify 0 f=f a::l:=id rfl
theorem jR{α:Type}{f:α→α}{a:α}{l:List α}{i:Nat}:(a::l).modify (i+1) f=a::l.modify i f:=by simp
theorem jS{α:Type}{a:α}:List.replicate 0 a=[]:=id rfl
theorem jT{α:Type}{a:α}{n:Nat}:List.replicate (n+1) a=a::List.replicate n a:=id rfl
theorem jU{n:Nat}:(n==n)=true:=beq_self_eq_true n
noncomputable def J:=And.intro @jS (And.intro @jT (And.intro @jU (And.intro @pf (And.intro @HG (And.intro @OO (And.intro @PH (And.intro @Pf (And.intro @Pp (And.intro @sv (And.intro @Px (And.intro @O0 (And.intro @KH (And.intro @IA (And.intro @JF (And.intro @IL (And.intro @LP (And.intro @Ml (And.intro @Li (And.intro @Mm (And.intro @Qd (And.intro @Ox (And.intro @P5 (And.intro @PN (And.intro @P7 (And.intro @Lh (And.intro @oLt (And.intro @oLe (And.intro @lL (And.intro @lT (And.intro @lS (And.intro @tL (And.intro @P8 (And.intro @PD (And.intro @DJ (And.intro @jA (And.intro @jB (And.intro @jC (And.intro @jD (And.intro @jE (And.intro @jF (And.intro @jG (And.intro @jH (And.intro @jI (And.intro @jJ (And.intro @jK (And.intro @jL (And.intro @jM (And.intro @jN (And.intro @jO (And.intro @jP (And.intro @eA (And.intro @Pd (And.intro @NW (And.intro @N8 (And.intro @NO (And.intro @OI (And.intro @jQ (@jR))))))))))))))))))))))))))))))))))))))))))))))))))))))))))
theorem aP{n:Str}{d:Def}{r:List (Str×Def)}:den ((n,d)::r) n=ag (den r) d:=by
 funext as;simp [den]
theorem G8{n f:Str}{d:Def}{r:List (Str×Def)}(h:(f==n)=false):den ((n,d)::r) f=den r f:=by
 funext as;simp [den,h]
theorem aE{f:Str}:∀(n:Nat) {T:List (Str×Def)},((T.take n).all fun x=>!(f==x.1))=true→den T f=den (T.drop n) f
 |0,_,_=>rfl
 |n+1,[],_=>rfl
 |n+1,(m,d)::r,h=>by
  rw [List.take_succ_cons,List.all_cons,zza,Bool.not_eq_true'] at h;exact(G8 h.1).trans (aE n h.2)
end KJ
namespace K32
open PySem L2 Ci KJ
noncomputable def cO:Def:=⟨["_law_script","_law_k"],2,(.cons (.ite (.cmp .lt (.var 1) (.blt .len (.cons (.var 0) .nil)))
 (.cons (.ret (.sub (.var 0) (.var 1)))
 .nil)
 .nil)
 (.cons (.ite (.cmp .eq (.var 0) (.lst .nil))
  (.cons (.ret (.cst (.int 0)))
  .nil)
  .nil)
 (.cons (.ret (.bin .add (.bin .mul (.sub (.var 0) (.bin .mod (.var 1) (.blt .len (.cons (.var 0) .nil)))) (.cst (.int 31))) (.var 1)))
 .nil))),none⟩
noncomputable def bI:Def:=⟨["_law_script","_law_k","_law_many","_law_drawn"],3,(.cons (.set 3 (.bin .mod (.bin .mul (.bin .add (.call "_law_cell" (.cons (.var 0) (.cons (.var 1) .nil))) (.bin .mul (.cst (.int 6151)) (.bin .add (.var 1) (.cst (.int 1))))) (.cst (.int 40692))) (.cst (.int 2147483399))))
 (.cons (.ret (.bin .mod (.bin .mod (.bin .add (.bin .mul (.var 3) (.var 3)) (.bin .fdiv (.var 3) (.cst (.int 31)))) (.cst (.int 2147483629))) (.var 2)))
 .nil)),none⟩
noncomputable def bY:Def:=⟨["_law_script","_law_at","_law_most","_law_rows","_law_columns","_law_shuts","_law_top","_law_made","_law_row","_law_signs","_law_column","_law_drawn"],3,(.cons (.set 3 (.bin .add (.cst (.int 1)) (.call "_law_pick" (.cons (.var 0) (.cons (.var 1) (.cons (.var 2) .nil))))))
 (.cons (.set 4 (.bin .add (.cst (.int 1)) (.call "_law_pick" (.cons (.var 0) (.cons (.bin .add (.var 1) (.cst (.int 1))) (.cons (.var 2) .nil))))))
 (.cons (.set 5 (.sub (.lst (.cons (.cst (.int 0)) (.cons (.cst (.int 2)) (.cons (.cst (.int 4)) (.cons (.cst (.int 6)) .nil))))) (.call "_law_pick" (.cons (.var 0) (.cons (.bin .add (.var 1) (.cst (.int 2))) (.cons (.cst (.int 4)) .nil))))))
 (.cons (.set 6 (.sub (.lst (.cons (.cst (.int 1)) (.cons (.cst (.int 2)) (.cons (.cst (.int 3)) (.cons (.cst (.int 10)) .nil))))) (.call "_law_pick" (.cons (.var 0) (.cons (.bin .add (.var 1) (.cst (.int 3))) (.cons (.cst (.int 4)) .nil))))))
 (.cons (.own 7 (.lst .nil))
 (.cons (.for_ (.one 8) (.rng (.var 3))
  (.cons (.set 9 (.cst (.str "")))
  (.cons (.for_ (.one 10) (.rng (.var 4))
   (.cons (.set 11 (.call "_law_pick" (.cons (.var 0) (.cons (.bin .add (.bin .add (.bin .add (.var 1) (.cst (.int 4))) (.bin .mul (.var 2) (.var 8))) (.var 10)) (.cons (.bin .mul (.cst (.int 12)) (.var 6)) .nil)))))
   (.cons (.set 9 (.bin .add (.var 9) (.ite (.cmp .lt (.bin .mod (.var 11) (.cst (.int 12))) (.var 5)) (.cst (.str "#")) (.blt .str (.cons (.bin .fdiv (.var 11) (.cst (.int 12))) .nil)))))
   .nil)))
  (.cons (.app 7 (.var 9))
  .nil))))
 (.cons (.ret (.blt .tuple (.cons (.tmp 7) .nil)))
 .nil))))))),none⟩
noncomputable def cg:Def:=⟨["_law_script","_law_at"],2,(.cons (.ret (.tup (.cons (.cmp .eq (.call "_law_pick" (.cons (.var 0) (.cons (.var 1) (.cons (.cst (.int 2)) .nil)))) (.cst (.int 0))) (.cons (.sub (.lst (.cons (.cst (.int 0)) (.cons (.cst (.int 1)) (.cons (.cst (.int 2)) (.cons (.cst (.int 9)) .nil))))) (.call "_law_pick" (.cons (.var 0) (.cons (.bin .add (.var 1) (.cst (.int 1))) (.cons (.cst (.int 4)) .nil))))) (.cons (.call "_law_pick" (.cons (.var 0) (.cons (.bin .add (.var 1) (.cst (.int 2))) (.cons (.cst (.int 4)) .nil)))) .nil)))))
 .nil),none⟩
noncomputable def aO:Def:=⟨["_law_floor_here","_law_way"],2,(.cons (.ite (.cmp .eq (.var 1) (.cst (.int 0)))
 (.cons (.ret (.blt .tuple (.cons (.comp 1 [] (.one 0) (.seq (.var 0)) (.rev (.var 0))) .nil)))
 .nil)
 .nil)
 (.cons (.ite (.cmp .eq (.var 1) (.cst (.int 1)))
  (.cons (.ret (.rev (.var 0)))
  .nil)
  .nil)
 (.cons (.ret (.blt .tuple (.cons (.comp 1 [0] (.one 0) (.rng (.blt .len (.cons (.sub (.var 0) (.cst (.int 0))) .nil))) (.mth .join (.cst (.str "")) (.cons (.comp 1 [0] (.one 0) (.seq (.var 1)) (.sub (.var 0) (.var 1))) .nil))) .nil)))
 .nil))),none⟩
noncomputable def bX:Def:=⟨["floor","spots","row","signs","column","sign"],1,(.cons (.own 1 (.lst .nil))
 (.cons (.for_ (.two 2 3) (.enum (.var 0))
  (.cons (.for_ (.two 4 5) (.enum (.var 3))
   (.cons (.ite (.cmp .ne (.var 5) (.glob "WALL" (.str "#")))
    (.cons (.app 1 (.tup (.cons (.var 2) (.cons (.var 4) .nil))))
    .nil)
    .nil)
   .nil))
  .nil))
 (.cons (.frz 1)
 (.cons (.ret (.var 1))
 .nil)))),none⟩
def dN:Def:=⟨["thing"],1,(.cons (.ret (.and (.ty .int (.var 0)) (.not (.ty .bool (.var 0)))))
 .nil),none⟩
noncomputable def dE:Def:=⟨["thing"],1,(.cons (.ret (.and (.ty .tuple (.var 0)) (.and (.cmp .eq (.blt .len (.cons (.var 0) .nil)) (.cst (.int 2))) (.and (.call "is_whole" (.cons (.sub (.var 0) (.cst (.int 0))) .nil)) (.call "is_whole" (.cons (.sub (.var 0) (.cst (.int 1))) .nil))))))
 .nil),none⟩
noncomputable def cb:Def:=⟨["floor","spot"],2,(.cons (.ret (.and (.ch .le .lt (.cst (.int 0)) (.sub (.var 1) (.cst (.int 0))) (.blt .len (.cons (.var 0) .nil))) (.ch .le .lt (.cst (.int 0)) (.sub (.var 1) (.cst (.int 1))) (.blt .len (.cons (.sub (.var 0) (.sub (.var 1) (.cst (.int 0)))) .nil)))))
 .nil),none⟩
noncomputable def cC:Def:=⟨["floor","thing"],2,(.cons (.ret (.and (.call "is_spot" (.cons (.var 1) .nil)) (.and (.call "is_on_floor" (.cons (.var 0) (.cons (.var 1) .nil))) (.cmp .ne (.sub (.sub (.var 0) (.sub (.var 1) (.cst (.int 0)))) (.sub (.var 1) (.cst (.int 1)))) (.glob "WALL" (.str "#"))))))
 .nil),none⟩
noncomputable def bM:Def:=⟨["floor","spot"],2,(.cons (.ite (.not (.call "is_open" (.cons (.var 0) (.cons (.var 1) .nil))))
 (.cons (.raise "NoSpot" "the spot is not on the floor or a wall")
 .nil)
 .nil)
 .nil),none⟩
noncomputable def bq:Def:=⟨["floor","spot","beside","row","column"],2,(.cons (.own 2 (.lst .nil))
 (.cons (.for_ (.one 3) (.rng2 (.bin .sub (.sub (.var 1) (.cst (.int 0))) (.cst (.int 1))) (.bin .add (.sub (.var 1) (.cst (.int 0))) (.cst (.int 2))))
  (.cons (.for_ (.one 4) (.rng2 (.bin .sub (.sub (.var 1) (.cst (.int 1))) (.cst (.int 1))) (.bin .add (.sub (.var 1) (.cst (.int 1))) (.cst (.int 2))))
   (.cons (.ite (.and (.cmp .ne (.tup (.cons (.var 3) (.cons (.var 4) .nil))) (.var 1)) (.call "is_open" (.cons (.var 0) (.cons (.tup (.cons (.var 3) (.cons (.var 4) .nil))) .nil))))
    (.cons (.app 2 (.tup (.cons (.var 3) (.cons (.var 4) .nil))))
    .nil)
    .nil)
   .nil))
  .nil))
 (.cons (.frz 2)
 (.cons (.ret (.var 2))
 .nil)))),none⟩
noncomputable def cE:Def:=⟨["one","other"],2,(.cons (.ret (.and (.cmp .ne (.var 0) (.var 1)) (.and (.cmp .le (.blt .abs (.cons (.bin .sub (.sub (.var 0) (.cst (.int 0))) (.sub (.var 1) (.cst (.int 0)))) .nil)) (.cst (.int 1))) (.cmp .le (.blt .abs (.cons (.bin .sub (.sub (.var 0) (.cst (.int 1))) (.sub (.var 1) (.cst (.int 1)))) .nil)) (.cst (.int 1))))))
 .nil),none⟩
noncomputable def cR:Def:=⟨["floor","spot"],2,(.cons (.expr (.call "need_open" (.cons (.var 0) (.cons (.var 1) .nil))))
 (.cons (.ret (.blt .int (.cons (.sub (.sub (.var 0) (.sub (.var 1) (.cst (.int 0)))) (.sub (.var 1) (.cst (.int 1)))) .nil)))
 .nil)),none⟩
noncomputable def bz:Def:=⟨["floor","one","other"],3,(.cons (.ret (.and (.call "is_open" (.cons (.var 0) (.cons (.tup (.cons (.sub (.var 1) (.cst (.int 0))) (.cons (.sub (.var 2) (.cst (.int 1))) .nil))) .nil))) (.call "is_open" (.cons (.var 0) (.cons (.tup (.cons (.sub (.var 2) (.cst (.int 0))) (.cons (.sub (.var 1) (.cst (.int 1))) .nil))) .nil)))))
 .nil),none⟩
noncomputable def bO:Def:=⟨["floor","walker","one","other","is_slanting","rise","flat_cost"],4,(.cons (.ite (.not (.call "are_beside" (.cons (.var 2) (.cons (.var 3) .nil))))
 (.cons (.ret (.cst .non))
 .nil)
 .nil)
 (.cons (.set 4 (.and (.cmp .ne (.sub (.var 2) (.cst (.int 0))) (.sub (.var 3) (.cst (.int 0)))) (.cmp .ne (.sub (.var 2) (.cst (.int 1))) (.sub (.var 3) (.cst (.int 1))))))
 (.cons (.ite (.and (.var 4) (.not (.and (.sub (.var 1) (.cst (.int 0))) (.call "has_open_corners" (.cons (.var 0) (.cons (.var 2) (.cons (.var 3) .nil)))))))
  (.cons (.ret (.cst .non))
  .nil)
  .nil)
 (.cons (.set 5 (.bin .sub (.call "height_at" (.cons (.var 0) (.cons (.var 3) .nil))) (.call "height_at" (.cons (.var 0) (.cons (.var 2) .nil)))))
 (.cons (.ite (.cmp .gt (.blt .abs (.cons (.var 5) .nil)) (.sub (.var 1) (.cst (.int 1))))
  (.cons (.ret (.cst .non))
  .nil)
  .nil)
 (.cons (.set 6 (.ite (.var 4) (.glob "SLANTING_COST" (.int 3)) (.glob "STRAIGHT_COST" (.int 2))))
 (.cons (.ret (.bin .add (.var 6) (.bin .mul (.sub (.var 1) (.cst (.int 2))) (.blt .max2 (.cons (.var 5) (.cons (.cst (.int 0)) .nil))))))
 .nil))))))),none⟩
noncomputable def bH:Def:=⟨["floor","walker","spot","steps","other","cost"],3,(.cons (.expr (.call "need_open" (.cons (.var 0) (.cons (.var 2) .nil))))
 (.cons (.own 3 (.lst .nil))
 (.cons (.for_ (.one 4) (.seq (.call "open_spots_beside" (.cons (.var 0) (.cons (.var 2) .nil))))
  (.cons (.set 5 (.call "step_cost" (.cons (.var 0) (.cons (.var 1) (.cons (.var 2) (.cons (.var 4) .nil))))))
  (.cons (.ite (.cmp .isn (.var 5) (.cst .non))
   (.cons (.app 3 (.tup (.cons (.var 4) (.cons (.var 5) .nil))))
   .nil)
   .nil)
  .nil)))
 (.cons (.frz 3)
 (.cons (.ret (.var 3))
 .nil))))),none⟩
noncomputable def bo:Def:=⟨["starts","steps","reached","waiting","start","spot","other","cost","together"],2,(.cons (.dnew 2)
 (.cons (.dnew 3)
 (.cons (.for_ (.one 4) (.seq (.var 0))
  (.cons (.put 3 (.var 4) (.tup (.cons (.cst (.int 0)) (.cons (.cst .non) .nil))))
  .nil))
 (.cons (.whl (.cmp .gt (.blt .len (.cons (.tmp 3) .nil)) (.cst (.int 0)))
  (.cons (.minK 5 3)
  (.cons (.putPop 2 3 5)
  (.cons (.for_ (.two 6 7) (.seq (.callv 1 (.cons (.var 5) .nil)))
   (.cons (.set 8 (.bin .add (.sub (.sub (.tmp 2) (.var 5)) (.cst (.int 0))) (.var 7)))
   (.cons (.ite (.and (.cmp .nin (.var 6) (.tmp 2)) (.or (.cmp .nin (.var 6) (.tmp 3)) (.cmp .lt (.var 8) (.sub (.sub (.tmp 3) (.var 6)) (.cst (.int 0))))))
    (.cons (.put 3 (.var 6) (.tup (.cons (.var 8) (.cons (.var 5) .nil))))
    .nil)
    .nil)
   .nil)))
  .nil))))
 (.cons (.frz 2)
 (.cons (.ret (.var 2))
 .nil)))))),some ("steps_from",[1,2,1,0])⟩
noncomputable def cj:Def:=⟨["floor","walker","start"],3,(.cons (.expr (.call "need_open" (.cons (.var 0) (.cons (.var 2) .nil))))
 (.cons (.ret (.callL "spread@steps_from" (.cons (.lst (.cons (.var 2) .nil)) .nil) "steps_from" [1,2,1,0] [1,0]))
 .nil)),none⟩
def cQ:Def:=⟨["floor","walker","spot"],3,(.cons (.ret (.blt .sorted (.cons (.call "spread_from" (.cons (.var 0) (.cons (.var 1) (.cons (.var 2) .nil)))) .nil)))
 .nil),none⟩
noncomputable def d5:Def:=⟨["floor","walker","found","placed","spot","room","member"],2,(.cons (.own 2 (.lst .nil))
 (.cons (.dnew 3)
 (.cons (.for_ (.one 4) (.seq (.call "open_spots" (.cons (.var 0) .nil)))
  (.cons (.ite (.cmp .nin (.var 4) (.tmp 3))
   (.cons (.set 5 (.call "room_with" (.cons (.var 0) (.cons (.var 1) (.cons (.var 4) .nil)))))
   (.cons (.app 2 (.var 5))
   (.cons (.for_ (.one 6) (.seq (.var 5))
    (.cons (.put 3 (.var 6) (.cst (.bl true)))
    .nil))
   .nil)))
   .nil)
  .nil))
 (.cons (.frz 2)
 (.cons (.ret (.var 2))
 .nil))))),none⟩
noncomputable def cB:Def:=⟨["floor","walker","onward","spot"],2,(.cons (.dnew 2)
 (.cons (.for_ (.one 3) (.seq (.call "open_spots" (.cons (.var 0) .nil)))
  (.cons (.put 2 (.var 3) (.comp 1 [] (.one 0) (.seq (.call "steps_from" (.cons (.var 0) (.cons (.var 1) (.cons (.var 3) .nil))))) (.sub (.var 0) (.cst (.int 0)))))
  .nil))
 (.cons (.frz 2)
 (.cons (.ret (.var 2))
 .nil)))),none⟩
noncomputable def bZ:Def:=⟨["one","other","spot"],3,(.cons (.ret (.cmp .in_ (.var 2) (.tup (.cons (.var 0) (.cons (.var 1) (.cons (.tup (.cons (.sub (.var 0) (.cst (.int 0))) (.cons (.sub (.var 1) (.cst (.int 1))) .nil))) (.cons (.tup (.cons (.sub (.var 1) (.cst (.int 0))) (.cons (.sub (.var 0) (.cst (.int 1))) .nil))) .nil)))))))
 .nil),none⟩
noncomputable def bT:Def:=⟨["onward","start","wall","reached","waiting","one","other"],3,(.cons (.dnew1 3 1 true)
 (.cons (.own 4 (.lst (.cons (.var 1) .nil)))
 (.cons (.whl (.cmp .gt (.blt .len (.cons (.tmp 4) .nil)) (.cst (.int 0)))
  (.cons (.pop 5 4)
  (.cons (.for_ (.one 6) (.seq (.sub (.var 0) (.var 5)))
   (.cons (.ite (.and (.cmp .nin (.var 6) (.tmp 3)) (.not (.call "needs_open" (.cons (.var 5) (.cons (.var 6) (.cons (.var 2) .nil))))))
    (.cons (.put 3 (.var 6) (.cst (.bl true)))
    (.cons (.app 4 (.var 6))
    .nil))
    .nil)
   .nil))
  .nil)))
 (.cons (.frz 3)
 (.cons (.ret (.var 3))
 .nil))))),none⟩
noncomputable def cq:Def:=⟨["onward","room","spot","others"],3,(.cons (.set 3 (.compIf 1 [2] (.one 0) (.seq (.var 1)) (.cmp .ne (.var 0) (.var 1)) (.var 0)))
 (.cons (.ret (.and (.cmp .gt (.blt .len (.cons (.var 3) .nil)) (.cst (.int 0))) (.cmp .lt (.blt .len (.cons (.call "reached_past" (.cons (.var 0) (.cons (.sub (.var 3) (.cst (.int 0))) (.cons (.var 2) .nil)))) .nil)) (.blt .len (.cons (.var 3) .nil)))))
 .nil)),none⟩
noncomputable def bU:Def:=⟨["floor","walker","onward","narrow","room"],2,(.cons (.set 2 (.call "steps_over" (.cons (.var 0) (.cons (.var 1) .nil))))
 (.cons (.own 3 (.lst .nil))
 (.cons (.for_ (.one 4) (.seq (.call "rooms" (.cons (.var 0) (.cons (.var 1) .nil))))
  (.cons (.extd 3 (.compIf 1 [4,2] (.one 0) (.seq (.var 4)) (.call "is_narrow" (.cons (.var 2) (.cons (.var 1) (.cons (.var 0) .nil)))) (.var 0)))
  .nil))
 (.cons (.ret (.blt .sorted (.cons (.tmp 3) .nil)))
 .nil)))),none⟩
noncomputable def bE:Def:=⟨["_law_floor_here","_law_highest","_law_made","_law_row"],1,(.cons (.set 1 (.blt .max1 (.cons (.bin .add (.lst (.cons (.cst (.int 0)) .nil)) (.compIf 1 [] (.one 0) (.seq (.mth .join (.cst (.str "")) (.cons (.var 0) .nil))) (.cmp .ne (.var 0) (.cst (.str "#"))) (.blt .int (.cons (.var 0) .nil)))) .nil)))
 (.cons (.own 2 (.lst .nil))
 (.cons (.for_ (.one 3) (.seq (.var 0))
  (.cons (.app 2 (.mth .join (.cst (.str "")) (.cons (.comp 1 [1] (.one 0) (.seq (.var 3)) (.ite (.cmp .eq (.var 0) (.cst (.str "#"))) (.var 0) (.blt .str (.cons (.bin .sub (.bin .add (.blt .int (.cons (.var 0) .nil)) (.cst (.int 9))) (.var 1)) .nil)))) .nil)))
  .nil))
 (.cons (.ret (.blt .tuple (.cons (.tmp 2) .nil)))
 .nil)))),none⟩
noncomputable def aS:Def:=⟨["_law_floor_here","_law_way","_law_spot"],3,(.cons (.ite (.cmp .eq (.var 1) (.cst (.int 0)))
 (.cons (.ret (.tup (.cons (.sub (.var 2) (.cst (.int 0))) (.cons (.bin .sub (.bin .sub (.blt .len (.cons (.sub (.var 0) (.cst (.int 0))) .nil)) (.cst (.int 1))) (.sub (.var 2) (.cst (.int 1)))) .nil))))
 .nil)
 .nil)
 (.cons (.ite (.cmp .eq (.var 1) (.cst (.int 1)))
  (.cons (.ret (.tup (.cons (.bin .sub (.bin .sub (.blt .len (.cons (.var 0) .nil)) (.cst (.int 1))) (.sub (.var 2) (.cst (.int 0)))) (.cons (.sub (.var 2) (.cst (.int 1))) .nil))))
  .nil)
  .nil)
 (.cons (.ret (.tup (.cons (.sub (.var 2) (.cst (.int 1))) (.cons (.sub (.var 2) (.cst (.int 0))) .nil))))
 .nil))),none⟩
noncomputable def d_law:Def:=⟨["_law_script","_law_floor_here","_law_walker_here","_law_way","_law_turned","_law_old","_law_due","_law_narrow","_law_lifted_here"],1,(.cons (.set 1 (.call "_law_floor" (.cons (.var 0) (.cons (.cst (.int 0)) (.cons (.cst (.int 5)) .nil)))))
 (.cons (.set 2 (.call "_law_walker" (.cons (.var 0) (.cons (.cst (.int 40)) .nil))))
 (.cons (.set 3 (.call "_law_pick" (.cons (.var 0) (.cons (.cst (.int 45)) (.cons (.cst (.int 3)) .nil)))))
 (.cons (.set 4 (.call "_law_turned_floor" (.cons (.var 1) (.cons (.var 3) .nil))))
 (.cons (.set 5 (.call "rooms" (.cons (.var 1) (.cons (.var 2) .nil))))
 (.cons (.set 6 (.comp 1 [3,1] (.one 0) (.seq (.var 5)) (.blt .sorted (.cons (.comp 1 [1,2] (.one 0) (.seq (.var 0)) (.call "_law_turned_spot" (.cons (.var 2) (.cons (.var 1) (.cons (.var 0) .nil))))) .nil))))
 (.cons (.ite (.cmp .ne (.blt .sortedL (.cons (.call "rooms" (.cons (.var 4) (.cons (.var 2) .nil))) .nil)) (.blt .sortedL (.cons (.var 6) .nil)))
  (.cons (.ret (.cst (.bl false)))
  .nil)
  .nil)
 (.cons (.set 7 (.call "narrow_spots" (.cons (.var 1) (.cons (.var 2) .nil))))
 (.cons (.ite (.cmp .ne (.call "narrow_spots" (.cons (.var 4) (.cons (.var 2) .nil))) (.blt .sorted (.cons (.comp 1 [3,1] (.one 0) (.seq (.var 7)) (.call "_law_turned_spot" (.cons (.var 2) (.cons (.var 1) (.cons (.var 0) .nil))))) .nil)))
  (.cons (.ret (.cst (.bl false)))
  .nil)
  .nil)
 (.cons (.set 8 (.call "_law_lifted" (.cons (.var 1) .nil)))
 (.cons (.ret (.and (.cmp .eq (.call "rooms" (.cons (.var 8) (.cons (.var 2) .nil))) (.var 5)) (.cmp .eq (.call "narrow_spots" (.cons (.var 8) (.cons (.var 2) .nil))) (.var 7))))
 .nil))))))))))),none⟩
def T0:List (Str×Def):=[]
noncomputable def T1:List (Str×Def):=(("_law_cell":Str),cO)::T0
noncomputable def T2:List (Str×Def):=(("_law_pick":Str),bI)::T1
noncomputable def T3:List (Str×Def):=(("_law_floor":Str),bY)::T2
noncomputable def T4:List (Str×Def):=(("_law_walker":Str),cg)::T3
noncomputable def T5:List (Str×Def):=(("_law_turned_floor":Str),aO)::T4
noncomputable def T6:List (Str×Def):=(("open_spots":Str),bX)::T5
noncomputable def T7:List (Str×Def):=(("is_whole":Str),dN)::T6
noncomputable def T8:List (Str×Def):=(("is_spot":Str),dE)::T7
noncomputable def T9:List (Str×Def):=(("is_on_floor":Str),cb)::T8
noncomputable def HH:List (Str×Def):=(("is_open":Str),cC)::T9
noncomputable def Mr:List (Str×Def):=(("need_open":Str),bM)::HH
noncomputable def Nl:List (Str×Def):=(("open_spots_beside":Str),bq)::Mr
noncomputable def LZ:List (Str×Def):=(("are_beside":Str),cE)::Nl
noncomputable def Ln:List (Str×Def):=(("height_at":Str),cR)::LZ
noncomputable def Ka:List (Str×Def):=(("has_open_corners":Str),bz)::Ln
noncomputable def BN:List (Str×Def):=(("step_cost":Str),bO)::Ka
noncomputable def Mb:List (Str×Def):=(("steps_from":Str),bH)::BN
noncomputable def Ig:List (Str×Def):=(("spread@steps_from":Str),bo)::Mb
noncomputable def Kv:List (Str×Def):=(("spread_from":Str),cj)::Ig
noncomputable def Gm:List (Str×Def):=(("room_with":Str),cQ)::Kv
noncomputable def K6:List (Str×Def):=(("rooms":Str),d5)::Gm
noncomputable def Nf:List (Str×Def):=(("steps_over":Str),cB)::K6
noncomputable def KO:List (Str×Def):=(("needs_open":Str),bZ)::Nf
noncomputable def KA:List (Str×Def):=(("reached_past":Str),bT)::KO
noncomputable def EV:List (Str×Def):=(("is_narrow":Str),cq)::KA
noncomputable def Nm:List (Str×Def):=(("narrow_spots":Str),bU)::EV
noncomputable def Oh:List (Str×Def):=(("_law_lifted":Str),bE)::Nm
noncomputable def AD:List (Str×Def):=(("_law_turned_spot":Str),aS)::Oh
theorem Ir:den T1 "_law_cell"=ag (den T0) cO:=(aE 0 (by decide+kernel)).trans aP
theorem J0:den T2 "_law_pick"=ag (den T1) bI:=(aE 0 (by decide+kernel)).trans aP
theorem IJ:den T3 "_law_pick"=ag (den T1) bI:=(aE 1 (by decide+kernel)).trans aP
theorem JB:den T7 "is_whole"=ag (den T6) dN:=(aE 0 (by decide+kernel)).trans aP
theorem JL:den T9 "is_spot"=ag (den T7) dE:=(aE 1 (by decide+kernel)).trans aP
theorem Jl:den T9 "is_on_floor"=ag (den T8) cb:=(aE 0 (by decide+kernel)).trans aP
theorem AS:den HH "is_open"=ag (den T9) cC:=(aE 0 (by decide+kernel)).trans aP
theorem AK:den Mr "is_open"=ag (den T9) cC:=(aE 1 (by decide+kernel)).trans aP
theorem AH:den LZ "need_open"=ag (den HH) bM:=(aE 2 (by decide+kernel)).trans aP
theorem BW:den Ln "is_open"=ag (den T9) cC:=(aE 4 (by decide+kernel)).trans aP
theorem AI:den Ka "are_beside"=ag (den Nl) cE:=(aE 2 (by decide+kernel)).trans aP
theorem Cs:den Ka "has_open_corners"=ag (den Ln) bz:=(aE 0 (by decide+kernel)).trans aP
theorem Bh:den Ka "height_at"=ag (den LZ) cR:=(aE 1 (by decide+kernel)).trans aP
theorem Bx:den BN "need_open"=ag (den HH) bM:=(aE 5 (by decide+kernel)).trans aP
theorem Cq:den BN "open_spots_beside"=ag (den Mr) bq:=(aE 4 (by decide+kernel)).trans aP
theorem Cg:den BN "step_cost"=ag (den Ka) bO:=(aE 0 (by decide+kernel)).trans aP
theorem C5:den Mb "steps_from"=ag (den BN) bH:=(aE 0 (by decide+kernel)).trans aP
theorem Dj:den Ig "need_open"=ag (den HH) bM:=(aE 7 (by decide+kernel)).trans aP
theorem Df:den Ig "spread@steps_from"=ag (den Mb) bo:=(aE 0 (by decide+kernel)).trans aP
theorem Cp:den Kv "spread_from"=ag (den Ig) cj:=(aE 0 (by decide+kernel)).trans aP
theorem GK:den Gm "open_spots"=ag (den T5) bX:=(aE 14 (by decide+kernel)).trans aP
theorem B9:den Gm "room_with"=ag (den Kv) cQ:=(aE 0 (by decide+kernel)).trans aP
theorem FP:den K6 "open_spots"=ag (den T5) bX:=(aE 15 (by decide+kernel)).trans aP
theorem CL:den K6 "steps_from"=ag (den BN) bH:=(aE 4 (by decide+kernel)).trans aP
theorem C7:den KO "needs_open"=ag (den Nf) bZ:=(aE 0 (by decide+kernel)).trans aP
theorem Cm:den KA "reached_past"=ag (den KO) bT:=(aE 0 (by decide+kernel)).trans aP
theorem Cd:den EV "steps_over"=ag (den K6) cB:=(aE 3 (by decide+kernel)).trans aP
theorem AX:den EV "rooms"=ag (den Gm) d5:=(aE 4 (by decide+kernel)).trans aP
theorem Bo:den EV "is_narrow"=ag (den KA) cq:=(aE 0 (by decide+kernel)).trans aP
theorem Ho:den AD "_law_floor"=ag (den T2) bY:=(aE 25 (by decide+kernel)).trans aP
theorem GU:den AD "_law_walker"=ag (den T3) cg:=(aE 24 (by decide+kernel)).trans aP
theorem Ei:den AD "_law_pick"=ag (den T1) bI:=(aE 26 (by decide+kernel)).trans aP
theorem Gz:den AD "_law_turned_floor"=ag (den T4) aO:=(aE 23 (by decide+kernel)).trans aP
theorem BV:den AD "rooms"=ag (den Gm) d5:=(aE 7 (by decide+kernel)).trans aP
theorem C8:den AD "_law_turned_spot"=ag (den Oh) aS:=(aE 0 (by decide+kernel)).trans aP
theorem BD:den AD "narrow_spots"=ag (den EV) bU:=(aE 2 (by decide+kernel)).trans aP
theorem Br:den AD "_law_lifted"=ag (den Nm) bE:=(aE 1 (by decide+kernel)).trans aP
abbrev sp(r c:Int):PV:=.tup [.int r,.int c]
abbrev i4(ns:List Int):PV:=.lst (ns.map .int)
theorem o7(F:ba)(i:Int):ag F dN [.int i]=.ok (.bl true):=by rfl
theorem kW{α:Type}{xs:List α}{k:Nat}(h:k<xs.length):rk xs (k:Int)=some xs[k]:=by
 unfold rk Fn;have:((k:Nat):Int)<(xs.length:Int):=by omega
 simp [this,h]
theorem uK{ns:List Int}{k:Int}(h0:0≤k)(h:k<ns.length):∃m,rk (ns.map PV.int) k=some (.int m):=by
 obtain⟨j,rfl⟩:=Int.eq_ofNat_of_zero_le h0
 refine⟨ns[j]'(by omega),?_⟩;rw [kW (k:=j) (by simp;omega)];simp
theorem zv(ns:List Int)(n:Nat):Ci.plain (n+1) (.lst (ns.map .int))=true:=by
 simp only [Ci.plain,zzT,List.mem_map]
 rintro x ⟨i,_,rfl⟩
 cases n<;>rfl
theorem eq_nil(ns:List Int):gq (i4 ns) (.lst [])=.ok (.bl (decide (ns=[]))):=by
 have e:pln (i4 ns)=true:=zv ns 8
 unfold gq;rw [e];cases ns<;>rfl
theorem B0(F:ba)(ns:List Int)(k:Int)(hk:0≤k):∃m,ag F cO [i4 ns,.int k]=.ok (.int m):=by
 simp only [cO,ag,aa,ae,ai,aN,ax,av,aV,aU,aw,az,ay,reduceIte,J,zzl,eq_nil]
 by_cases h:k<(ns.length:Int)
 ·obtain⟨m,e⟩:=uK hk h
  refine⟨m,?_⟩;simp only [h,decide_true,ag,aa,ae,ai,aN,ax,av,aV,aU,aw,az,ay,reduceIte,J,bw,e]
 ·simp only [h,decide_false,ag,aa,ae,ai,aN,ax,av,aV,aU,aw,az,ay,reduceIte,J,eq_nil];cases ns with
  |nil=>exact⟨0,rfl⟩
  |cons n ns=>
   have hl:(0:Int)<((n::ns).length:Int):=by simp only [zzL];omega
   obtain⟨m,e⟩:=uK (ns:=n::ns) (k:=k%((n::ns).length:Int)) (Int.emod_nonneg _ (by omega)) (Int.emod_lt_of_pos _ hl)
   refine⟨m*31+k,?_⟩;have e3:(aW m||aW 31)=true:=by rw [Bool.or_eq_true];exact .inr (by decide)
   have e4:bw (i4 (n::ns)) (.int (k%((n::ns).length:Int)))=.ok (.int m):=by simp only [bw,e];rfl
   have e5:decide ((n::ns)=[])=false:=rfl
   simp only [zzL] at hl e4;simp only [e5,ag,aa,ae,ai,aN,ax,av,aV,aU,aw,az,ay,reduceIte,J,zzl,hl,e4,e3]
theorem AZ(F:ba)(hc:∀ns k,0≤k→∃m,F "_law_cell" [i4 ns,.int k]=.ok (.int m))(ns:List Int)(k q:Int)(hk:0≤k)(hq:0<q):∃m,ag F bI [i4 ns,.int k,.int q]=.ok (.int m)∧0≤m∧m<q:=by
 obtain⟨m,e⟩:=hc ns k hk
 have s1:(aW 6151||aW (k+1))=true:=by rw [Bool.or_eq_true];exact .inl (by decide)
 have s2:(aW (m+6151*(k+1))||aW 40692)=true:=by rw [Bool.or_eq_true];exact .inr (by decide)
 have s3:(0:Int)<2147483399:=by decide
 have s4:(0:Int)<2147483629:=by decide
 have s5:(0:Int)<31∧(31:Int)<1073741824:=by decide
 have a0:=Int.emod_nonneg ((m+6151*(k+1))*40692) (b:=2147483399) (by decide)
 have a1:=Int.emod_lt_of_pos ((m+6151*(k+1))*40692) s3
 refine⟨((((m+6151*(k+1))*40692%2147483399)*((m+6151*(k+1))*40692%2147483399)+((m+6151*(k+1))*40692%2147483399)/31)%2147483629)%q,?_,Int.emod_nonneg _ (by omega),Int.emod_lt_of_pos _ hq⟩;generalize hd:(m+6151*(k+1))*40692%2147483399=d at a0 a1
 have s6:(aW d||aW d)=true:=by
  have:aW d=true:=by simp only [aW,zza,zzN];omega
  rw [this];rfl
 simp only [bI,ag,aa,ae,ai,aN,ax,av,aV,aU,aw,az,ay,reduceIte,J,i4] at e⊢;simp only [e,ag,aa,ae,ai,aN,ax,av,aV,aU,aw,az,ay,reduceIte,J,s1,s2,s3,s4,s5,hd,s6,hq,and_self]
def rA(rows:List Str):Prop:=rows.length≤6∧∀z∈rows,z.length≤6
abbrev fl(rows:List Str):PV:=.tup (rows.map .str)
def cd(rows:List Str)(r c:Nat):Option Nat:=(rows[r]?).bind fun z=>z.cps.toList[c]?
def zd(rows:List Str)(r c:Nat):Bool:=match cd rows r c with|some x=>x !=35|none=>false
def cM(rows:List Str)(r c:Int):Bool:=decide (0≤r)&&decide (0≤c)&&zd rows r.toNat c.toNat
theorem sJ(F:ba)(h:∀i,F "is_whole" [.int i]=.ok (.bl true))(r c:Int):ag F dE [sp r c]=.ok (.bl true):=by
 have e0:bw (sp r c) (.int 0)=.ok (.int r):=rfl
 have e1:bw (sp r c) (.int 1)=.ok (.int c):=rfl
 have e2:gq (.int ((2:Nat):Int)) (.int 2)=.ok (.bl true):=rfl
 simp only [dE,ag,aa,ae,ai,aN,ax,av,aV,aU,aw,az,ay,reduceIte,J,sP,h,e0,e1,e2]
theorem Jc(F:ba)(rows:List Str)(R:rA rows)(r c:Int):ag F cb [fl rows,sp r c]=.ok (.bl (decide (0≤r)&&decide (0≤c)&&(cd rows r.toNat c.toNat).isSome)):=by
 have e0:bw (sp r c) (.int 0)=.ok (.int r):=rfl
 have e1:bw (sp r c) (.int 1)=.ok (.int c):=rfl
 simp only [cb,ag,aa,ae,ai,aN,ax,av,aV,aU,aw,az,ay,reduceIte,J,sP,e0,e1,ql,qo,zzl]
 by_cases h0:0≤r
 ·by_cases h1:r<(rows.length:Int)
  ·obtain⟨j,rfl⟩:=Int.eq_ofNat_of_zero_le h0
   have hj:j<rows.length:=by omega
   have e2:bw (fl rows) (.int (j:Int))=.ok (.str rows[j]):=by
    simp only [bw,fl];rw [kW (k:=j) (by simpa using hj)];simp [Res.of]
   have e3:(rows[j]).length≤c8:=zzU (R.2 _ (List.getElem_mem hj)) (by decide)
   have e4:(rows[j]).cps.size=(rows[j]).length:=rfl
   simp only [h0,h1,decide_true,ag,aa,ae,ai,aN,ax,av,aV,aU,aw,az,ay,reduceIte,J,e2,e3]
   by_cases h2:0≤c
   ·obtain⟨i,rfl⟩:=Int.eq_ofNat_of_zero_le h2
    simp only [h2,decide_true,ag,aa,ae,ai,aN,ax,av,aV,aU,aw,az,ay,reduceIte,J,cd,Int.toNat_natCast,zzg hj,Option.bind_some,Bool.and_self,Bool.true_and,Res.ok.injEq,PV.bl.injEq];rw [Bool.eq_iff_iff];simp [e4]
   ·simp [ag,aa,ae,ai,aN,ax,av,aV,aU,aw,az,ay,reduceIte,J,h2]
  ·have:cd rows r.toNat c.toNat=none:=by
    unfold cd;rw [List.getElem?_eq_none (by omega)];rfl
   simp [ag,aa,ae,ai,aN,ax,av,aV,aU,aw,az,ay,reduceIte,J,h0,h1,this]
 ·simp [ag,aa,ae,ai,aN,ax,av,aV,aU,aw,az,ay,reduceIte,J,h0]
theorem Am{rows:List Str}{j:Nat}{z:Str}(h:rows[j]?=some z):bw (fl rows) (.int (j:Int))=.ok (.str z):=by
 obtain⟨hj,rfl⟩:=zzH.1 h
 simp only [bw,fl];rw [kW (k:=j) (by simpa using hj)];simp [Res.of]
theorem tH{z:Str}{i x:Nat}(hz:z.length≤c8)(h:z.cps.toList[i]?=some x):bw (.str z) (.int (i:Int))=.ok (.str ⟨#[x]⟩):=by
 obtain⟨hj,rfl⟩:=zzH.1 h
 simp only [bw,hz,if_true];rw [kW (k:=i) hj]
 rfl
theorem DT{rows:List Str}(R:rA rows){j i x:Nat}(h:cd rows j i=some x):∃z,rows[j]?=some z∧bw (fl rows) (.int (j:Int))=.ok (.str z)∧bw (.str z) (.int (i:Int))=.ok (.str ⟨#[x]⟩):=by
 unfold cd at h;cases hz:rows[j]? with
 |none=>rw [hz] at h;cases h
 |some z=>
  rw [hz] at h;exact⟨z,rfl,Am hz,tH (zzU (R.2 _ (zzD hz)) (by decide)) h⟩
theorem xu(x:Nat):gP (.str ⟨#[x]⟩) (.str "#")=.ok (.bl (x !=35)):=by
 have:(("#":Str))=⟨#[35]⟩:=by decide+kernel
 rw [this];show Res.ok (PV.bl (!((⟨#[x]⟩:Str)==⟨#[35]⟩)))=_
 congr 2
 rw [bne,Bool.eq_iff_iff];simp
theorem A8(F:ba)(hs:∀r c,F "is_spot" [sp r c]=.ok (.bl true))(ho:∀rows,rA rows→∀r c,F "is_on_floor" [fl rows,sp r c]=.ok (.bl (decide (0≤r)&&decide (0≤c)&&(cd rows r.toNat c.toNat).isSome)))
 (rows:List Str) (R:rA rows) (r c:Int):ag F cC [fl rows,sp r c]=.ok (.bl (cM rows r c)):=by
 have e0:bw (sp r c) (.int 0)=.ok (.int r):=rfl
 have e1:bw (sp r c) (.int 1)=.ok (.int c):=rfl
 simp only [cC,ag,aa,ae,ai,aN,ax,av,aV,aU,aw,az,ay,reduceIte,J,hs,ho rows R,e0,e1];unfold cM zd
 by_cases h0:0≤r
 ·by_cases h1:0≤c
  ·obtain⟨j,rfl⟩:=Int.eq_ofNat_of_zero_le h0
   obtain⟨i,rfl⟩:=Int.eq_ofNat_of_zero_le h1
   simp only [h0,h1,decide_true,Bool.true_and,Bool.and_self,Int.toNat_natCast];cases hc:cd rows j i with
   |none=>simp [ag,aa,ae,ai,aN,ax,av,aV,aU,aw,az,ay,reduceIte,J]
   |some x=>
    obtain⟨z,_,e2,e3⟩:=DT R hc
    simp only [Option.isSome_some,ag,aa,ae,ai,aN,ax,av,aV,aU,aw,az,ay,reduceIte,J,e2,e3,xu]
  ·simp [ag,aa,ae,ai,aN,ax,av,aV,aU,aw,az,ay,reduceIte,J,h1]
 ·simp [ag,aa,ae,ai,aN,ax,av,aV,aU,aw,az,ay,reduceIte,J,h0]
theorem nO(F:ba)(ho:∀rows,rA rows→∀r c,F "is_open" [fl rows,sp r c]=.ok (.bl (cM rows r c)))(rows:List Str)(R:rA rows)(r c:Int)(h:cM rows r c=true):ag F bM [fl rows,sp r c]=.ok .non:=by
 simp only [bM,ag,aa,ae,ai,aN,ax,av,aV,aU,aw,az,ay,reduceIte,J,ho rows R,h]
abbrev Dv(p:Int×Int):PV:=sp p.1 p.2
theorem cT{α:Type}{f:PV→Res (Option PV)}{p:α→PV}{g:α→PV}:∀{xs:List α},(∀x∈xs,f (p x)=.ok (some (g x)))→bb f (xs.map p)=.ok (xs.map g)
 |[],_=>rfl
 |x::xs,h=>by
  simp only [zzF,bb,h x (zzP ..),Res.well,Res.bind,cT (xs:=xs) fun y hy=>h y (zzI _ hy),oc]
theorem jw{rows:List Str}{r c:Int}:cM rows r c=true↔0≤r∧0≤c∧zd rows r.toNat c.toNat=true:=by
 simp only [cM,zza,zzN,and_assoc]
theorem fR{body:PV→Sl→Res Fl}{P:Nat→Sl→Prop}:∀(xs:List PV) (k:Nat) (env:Sl),P k env→(∀i x env,xs[i]?=some x→P (k+i) env→∃aF,body x env=.ok (.nx aF)∧P (k+i+1) aF)→∃aF,forL body xs env=.ok (.nx aF)∧P (k+xs.length) aF
 |[],k,env,h,_=>⟨env,rfl,h⟩
 |x::xs,k,env,h,g=>by
  obtain⟨e1,b1,p1⟩:=g 0 x env rfl h
  obtain⟨e2,b2,p2⟩:=fR xs (k+1) e1 p1 fun i y env hy hp=>by
   obtain⟨e3,b3,p3⟩:=g (i+1) y env hy (by rw [show k+(i+1)=k+1+i by omega];exact hp)
   exact⟨e3,b3,by rw [show k+1+i+1=k+(i+1)+1 by omega];exact p3⟩
  refine⟨e2,?_,by rw [zzL,show k+(xs.length+1)=k+1+xs.length by omega];exact p2⟩;simp only [forL,b1,pf,b2]
theorem An{n i:Nat}{x:PV}(h:(ff 0 n)[i]?=some x):i<n∧x=.int (i:Int):=by
 simp only [ff,zzQ,zzJ] at h;obtain⟨j,hj,rfl⟩:=h
 obtain⟨h1,h2⟩:=zzH.1 hj
 simp only [List.getElem_range] at h2;subst h2;simp only [List.length_range] at h1;exact⟨h1,by simp⟩
def j4(F:ba):Prop:=∀(ns:List Int) (k q:Int),0≤k→0<q→∃m,F "_law_pick" [i4 ns,.int k,.int q]=.ok (.int m)∧0≤m∧m<q
theorem oh{a b c d m:Int}(h0:0≤m)(h1:m<4):∃v,bw (.lst [.int a,.int b,.int c,.int d]) (.int m)=.ok (.int v)∧(v=a∨v=b∨v=c∨v=d):=by
 have:m=0∨m=1∨m=2∨m=3:=by omega
 rcases this with rfl|rfl|rfl|rfl
 ·exact⟨a,rfl,.inl rfl⟩
 ·exact⟨b,rfl,.inr (.inl rfl)⟩
 ·exact⟨c,rfl,.inr (.inr (.inl rfl))⟩
 ·exact⟨d,rfl,.inr (.inr (.inr rfl))⟩
noncomputable def D2:Ss:=(.cons (.set 11 (.call "_law_pick" (.cons (.var 0) (.cons (.bin .add (.bin .add (.bin .add (.var 1) (.cst (.int 4))) (.bin .mul (.var 2) (.var 8))) (.var 10)) (.cons (.bin .mul (.cst (.int 12)) (.var 6)) .nil)))))
 (.cons (.set 9 (.bin .add (.var 9) (.ite (.cmp .lt (.bin .mod (.var 11) (.cst (.int 12))) (.var 5)) (.cst (.str "#")) (.blt .str (.cons (.bin .fdiv (.var 11) (.cst (.int 12))) .nil)))))
 .nil))
noncomputable def EC:Ss:=(.cons (.set 9 (.cst (.str "")))
 (.cons (.for_ (.one 10) (.rng (.var 4)) D2)
 (.cons (.app 7 (.var 9))
 .nil)))
structure Fl(rows:List Str)(w:Nat):Prop where
 rok:rA rows
 ne:0<rows.length
 w1:1≤w
 rect:∀z∈rows,z.length=w
 dig:∀z∈rows,∀x∈z.cps.toList,x=35∨(48≤x∧x≤57)
theorem aI{i:Int}:cJ .abs [.int i]=.ok (.int (if i<0 then -i else i)):=id rfl
theorem mX{i j:Int}:cJ .max2 [.int i,.int j]=.ok (.int (if j>i then j else i)):=id rfl
theorem Qo:du .gt=sj:=id rfl
theorem OU{i j:Int}:sj (.int i) (.int j)=.ok (.bl (decide (j<i))):=id rfl
theorem MW:du .isn=i6:=id rfl
theorem vh{v:Int}(h0:0≤v)(h1:v<10):cJ .str [.int v]=.ok (.str ⟨#[48+v.toNat]⟩):=by
 have:v=0∨v=1∨v=2∨v=3∨v=4∨v=5∨v=6∨v=7∨v=8∨v=9:=by omega
 rcases this with rfl|rfl|rfl|rfl|rfl|rfl|rfl|rfl|rfl|rfl<;>(show Res.ok (PV.str _)=_;congr 2)
theorem o8{x:Nat}(h0:48≤x)(h1:x≤57):cJ .int [.str ⟨#[x]⟩]=.ok (.int ((x:Int)-48)):=by
 have:x=48∨x=49∨x=50∨x=51∨x=52∨x=53∨x=54∨x=55∨x=56∨x=57:=by omega
 have k:∀(y:Nat) (v:Int),PySem.intText? (⟨#[y]⟩:Str)=some v→cJ .int [.str ⟨#[y]⟩]=.ok (.int v):=fun y v e=>by
  show(if(⟨#[y]⟩:Str).length≤640 then(Res.of (PySem.intText? (⟨#[y]⟩:Str))).bind fun n=>Res.ok (PV.int n) else .bad)=_
  rw [if_pos (show(⟨#[y]⟩:Str).length≤640 from(by show 1≤640;decide)),e]
  rfl
 rcases this with rfl|rfl|rfl|rfl|rfl|rfl|rfl|rfl|rfl|rfl<;>exact k _ _ (by decide+kernel)
theorem F7(F:ba)(hp:j4 F)(ns:List Int)(q a b sh tp:Int)(PR:0≤q)(Od:q≤6)(h1:1≤tp)(h2:tp≤10)(own:PV)(i n:Nat)(hn:n≤6)(ET E0:Ci.Slot):
 ∃(z:Str) (DK DZ:Ci.Slot),z.length=n∧(∀x∈z.cps.toList,x=35∨(48≤x∧x≤57))∧forL (fun x env=>((Tg.one 10).put x env).bind fun aF=>ai F D2 aF) (ff 0 n) [.val (i4 ns),.val (.int 0),.val (.int q),.val (.int a),.val (.int b),.val (.int sh),.val (.int tp),.own own,.val (.int i),.val (.str ""),ET,E0]=
  .ok (.nx [.val (i4 ns),.val (.int 0),.val (.int q),.val (.int a),.val (.int b),.val (.int sh),.val (.int tp),.own own,.val (.int i),.val (.str z),DK,DZ]):=by
 obtain⟨aF,e,z,DK,DZ,hz,hd,rfl⟩:=fR (body:=fun x env=>((Tg.one 10).put x env).bind fun aF=>ai F D2 aF) (P:=fun j env=>∃(z:Str) (DK DZ:Ci.Slot),z.length=j∧(∀x∈z.cps.toList,x=35∨(48≤x∧x≤57))∧env=[.val (i4 ns),.val (.int 0),.val (.int q),.val (.int a),.val (.int b),.val (.int sh),.val (.int tp),.own own,.val (.int i),.val (.str z),DK,DZ]) (ff 0 n) 0 [.val (i4 ns),.val (.int 0),.val (.int q),.val (.int a),.val (.int b),.val (.int sh),.val (.int tp),.own own,.val (.int i),.val (.str ""),ET,E0] ⟨_,_,_,by decide+kernel,by decide+kernel,rfl⟩ (by
  intro j x env hx hq;obtain⟨hj,rfl⟩:=An hx
  obtain⟨z,DK,DZ,hz,hd,rfl⟩:=hq
  obtain⟨m,em,m0,m1⟩:=hp ns (0+4+q*(i:Int)+(j:Int)) (12*tp) (by
   have:=Int.mul_nonneg PR (Int.natCast_nonneg i)
   omega) (by omega)
  have q1:(aW q||aW (i:Int))=true:=by
   have:aW q=true:=by simp only [aW,zza,zzN];omega
   rw [this];rfl
  have q2:(aW 12||aW tp)=true:=by rw [Bool.or_eq_true];exact .inl (by decide)
  have q3:(0:Int)<12:=by decide
  have q4:(0:Int)<12∧(12:Int)<1073741824:=by decide
  have ew:=vh (v:=m/12) (by omega) (by omega)
  have Ll:(("#":Str))=⟨#[35]⟩:=by decide+kernel
  by_cases hm:m%12<sh
  ·refine⟨[.val (i4 ns),.val (.int 0),.val (.int q),.val (.int a),.val (.int b),.val (.int sh),.val (.int tp),.own own,.val (.int i),.val (.str (z++"#")),.val (.int j),.val (.int m)],?_,_,_,_,?_,?_,rfl⟩
   ·have l:z.length+(("#":Str)).length≤c8:=zzU (show _≤8 by rw [Ll];show z.length+1≤8;omega) (by decide)
    simp only [D2,ag,aa,ae,ai,aN,ax,av,aV,aU,aw,az,ay,reduceIte,J,q1,q2,q3,q4,em,hm,decide_true,l,and_self]
   ·rw [Str.length_append,Ll];show z.length+1=_;omega
   ·rw [Ll];show∀x∈(z.cps++#[35]).toList,_;intro x hx;simp only [Array.toList_append,List.mem_append,zzi] at hx;rcases hx with hx|hx
    ·exact hd x hx
    ·exact .inl hx
  ·refine⟨[.val (i4 ns),.val (.int 0),.val (.int q),.val (.int a),.val (.int b),.val (.int sh),.val (.int tp),.own own,.val (.int i),.val (.str (z++⟨#[48+(m/12).toNat]⟩)),.val (.int j),.val (.int m)],?_,_,_,_,?_,?_,rfl⟩
   ·have l:z.length+(⟨#[48+(m/12).toNat]⟩:Str).length≤c8:=zzU (show z.length+1≤8 by omega) (by decide)
    simp only [D2,ag,aa,ae,ai,aN,ax,av,aV,aU,aw,az,ay,reduceIte,J,q1,q2,q3,q4,em,hm,decide_false,l,and_self,ew]
   ·rw [Str.length_append];show z.length+1=_;omega
   ·show∀x∈(z.cps++#[48+(m/12).toNat]).toList,_
    intro x hx;simp only [Array.toList_append,List.mem_append,zzi] at hx;rcases hx with hx|hx
    ·exact hd x hx
    ·exact .inr (by omega))
 refine⟨z,DK,DZ,?_,hd,e⟩
 simpa [ff] using hz
theorem vC(F:ba)(hp:j4 F)(ns:List Int)(q:Int)(Aw:1≤q)(Od:q≤6):∃rows w,Fl rows w∧ag F bY [i4 ns,.int 0,.int q]=.ok (fl rows):=by
 obtain⟨a,ea,a0,a6⟩:=hp ns 0 q (by decide) (by omega)
 obtain⟨b,eb,b0,b6⟩:=hp ns (0+1) q (by decide) (by omega)
 obtain⟨c,ec,c0,c4⟩:=hp ns (0+2) 4 (by decide) (by decide)
 obtain⟨d,ed,d0,d4⟩:=hp ns (0+3) 4 (by decide) (by decide)
 obtain⟨sh,es,hs⟩:=oh (a:=0) (b:=2) (c:=4) (d:=6) c0 c4
 obtain⟨tp,et,ht⟩:=oh (a:=1) (b:=2) (c:=3) (d:=10) d0 d4
 have t1:1≤tp:=by omega
 have t2:tp≤10:=by omega
 have sa:bj (1+a)=true:=by simp only [bj,zza,zzN];omega
 have sb:bj (1+b)=true:=by simp only [bj,zza,zzN];omega
 obtain⟨aF,e,rows,s8,s9,ET,E0,hl,hr,hd,rfl⟩:=fR (body:=fun x env=>((Tg.one 8).put x env).bind fun aF=>ai F EC aF)
  (P:=fun i env=>∃(rows:List Str) (s8 s9 ET E0:Ci.Slot),rows.length=i∧(∀z∈rows,z.length=(1+b).toNat)∧(∀z∈rows,∀x∈z.cps.toList,x=35∨(48≤x∧x≤57))∧env=[.val (i4 ns),.val (.int 0),.val (.int q),.val (.int (1+a)),.val (.int (1+b)),.val (.int sh),.val (.int tp),.own (.lst (rows.map .str)),s8,s9,ET,E0])
  (ff 0 (1+a).toNat) 0 [.val (i4 ns),.val (.int 0),.val (.int q),.val (.int (1+a)),.val (.int (1+b)),.val (.int sh),.val (.int tp),.own (.lst []),.no,.no,.no,.no] ⟨[],_,_,_,_,rfl,(fun z hz=>by cases hz),(fun z hz=>by cases hz),rfl⟩ (by
  intro i x env hx hq;obtain⟨hi,rfl⟩:=An hx
  obtain⟨rows,s8,s9,ET,E0,hl,hr,hd,rfl⟩:=hq
  obtain⟨z,DK,DZ,hz,hzd,e⟩:=F7 F hp ns q (1+a) (1+b) sh tp (by omega) Od t1 t2 (.lst (rows.map .str)) i (1+b).toNat (by omega) ET E0
  have l:(rows.map PV.str).length<c8:=zzV (m:=6) (by simp only [zzl];omega) (by decide)
  refine⟨[.val (i4 ns),.val (.int 0),.val (.int q),.val (.int (1+a)),.val (.int (1+b)),.val (.int sh),.val (.int tp),.own (.lst ((rows++[z]).map .str)),.val (.int i),.val (.str z),DK,DZ],?_,rows++[z],_,_,_,_,by simp;omega,?_,?_,rfl⟩
  ·have e':=e
   simp only [D2,ag,aa,ae,ai,aN,ax,av,aV,aU,aw,az,ay,reduceIte,J] at e';simp only [zzl] at l;simp only [EC,D2,ag,aa,ae,ai,aN,ax,av,aV,aU,aw,az,ay,reduceIte,J,sb,e',zzl,l,List.map_append]
  ·intro y hy;simp only [List.mem_append,zzi] at hy;rcases hy with hy|rfl
   ·exact hr y hy
   ·exact hz
  ·intro y hy;simp only [List.mem_append,zzi] at hy;rcases hy with hy|rfl
   ·exact hd y hy
   ·exact hzd)
 have yv:rows.length=(1+a).toNat:=by simpa [ff] using hl
 refine⟨rows,(1+b).toNat,⟨⟨by omega,fun z hz=>by rw [hr z hz];omega⟩,by omega,by omega,hr,hd⟩,?_⟩
 simp only [EC,D2,ag,aa,ae,ai,aN,ax,av,aV,aU,aw,az,ay,reduceIte,J] at e;simp only [bY,bY,ag,aa,ae,ai,aN,ax,av,aV,aU,aw,az,ay,reduceIte,J,ea,eb,ec,ed,es,et,sa,e]
def cV(rows:List Str)(r c:Int):Int:=match cd rows r.toNat c.toNat with
 |some x=>(x:Int)-48
 |none=>0
theorem sF{rows:List Str}{r c:Int}(h:cM rows r c=true):∃(i j x:Nat),r=i∧c=j∧cd rows i j=some x∧x≠35:=by
 obtain⟨h0,h1,h2⟩:=jw.1 h
 obtain⟨i,rfl⟩:=Int.eq_ofNat_of_zero_le h0
 obtain⟨j,rfl⟩:=Int.eq_ofNat_of_zero_le h1
 simp only [Int.toNat_natCast,zd] at h2;cases hc:cd rows i j with
 |none=>rw [hc] at h2;cases h2
 |some x=>
  rw [hc] at h2;exact⟨i,j,x,rfl,rfl,hc,by simpa using h2⟩
theorem xq{rows:List Str}{w:Nat}(L:Fl rows w){i j x:Nat}(h:cd rows i j=some x):x=35∨(48≤x∧x≤57):=by
 unfold cd at h;cases hz:rows[i]? with
 |none=>rw [hz] at h;cases h
 |some z=>
  rw [hz] at h;exact L.dig z (zzD hz) x (zzD h)
theorem sC{rows:List Str}{w:Nat}(L:Fl rows w){r c:Int}(h:cM rows r c=true):∃z x,bw (fl rows) (.int r)=.ok (.str z)∧bw (.str z) (.int c)=.ok (.str ⟨#[x]⟩)∧cJ .int [.str ⟨#[x]⟩]=.ok (.int (cV rows r c))∧0≤cV rows r c∧cV rows r c≤9:=by
 obtain⟨i,j,x,rfl,rfl,hc,hx⟩:=sF h
 obtain⟨z,_,e1,e2⟩:=DT L.rok hc
 have hd:=(xq L hc).resolve_left hx
 have hh:cV rows i j=(x:Int)-48:=by simp only [cV,Int.toNat_natCast,hc]
 refine⟨z,x,e1,e2,?_,?_⟩
 ·rw [hh];exact o8 hd.1 hd.2
 ·rw [hh];omega
noncomputable def dm(rows:List Str)(sl:Bool)(cl pr:Int)(r c r' c':Int):Option Int:=
 if(r=r'∧c=c')∨1<r-r'∨1<r'-r∨1<c-c'∨1<c'-c then none
 else if(r≠r'∧c≠c')∧¬(sl=true∧cM rows r c'=true∧cM rows r' c=true) then none
 else if cl<cV rows r' c'-cV rows r c∨cl<cV rows r c-cV rows r' c' then none
 else some ((if r≠r'∧c≠c' then 3 else 2)+pr*(if cV rows r' c'-cV rows r c>0 then cV rows r' c'-cV rows r c else 0))
def oP:Option Int→PV
 |none=>.non
 |some i=>.int i
abbrev wk(sl:Bool)(cl pr:Int):PV:=.tup [.bl sl,.int cl,.int pr]
theorem Kr{r c:Int}:bw (sp r c) (.int 0)=.ok (.int r):=id rfl
theorem KG{r c:Int}:bw (sp r c) (.int 1)=.ok (.int c):=id rfl
theorem OH{sl:Bool}{cl pr:Int}:bw (wk sl cl pr) (.int 0)=.ok (.bl sl):=id rfl
theorem O5{sl:Bool}{cl pr:Int}:bw (wk sl cl pr) (.int 1)=.ok (.int cl):=id rfl
theorem O1{sl:Bool}{cl pr:Int}:bw (wk sl cl pr) (.int 2)=.ok (.int pr):=id rfl
theorem nI{i j:Int}:gP (.int i) (.int j)=.ok (.bl (!(i==j))):=id rfl
theorem eI{i j:Int}:gq (.int i) (.int j)=.ok (.bl (i==j)):=id rfl
theorem nS{r c r' c':Int}:gP (sp r c) (sp r' c')=.ok (.bl (!((r==r')&&((c==c')&&true)))):=id rfl
theorem eS{r c r' c':Int}:gq (sp r c) (sp r' c')=.ok (.bl ((r==r')&&((c==c')&&true))):=id rfl
noncomputable def J2:=And.intro @Kr (And.intro @KG (And.intro @OH (And.intro @O5 (And.intro @O1 (And.intro @aI (And.intro @mX (And.intro @Qo (And.intro @OU (And.intro @nI (And.intro @eI (And.intro @nS (And.intro @eS (And.intro @MW (And.intro @N8 (And.intro @NW (@NO))))))))))))))))
def far(r c r' c':Int):Prop:=(r=r'∧c=c')∨1<r-r'∨1<r'-r∨1<c-c'∨1<c'-c
instance(r c r' c':Int):Decidable (far r c r' c'):=by unfold far;infer_instance
theorem wF(F:ba)(r c r' c':Int):ag F cE [sp r c,sp r' c']=.ok (.bl (!decide (far r c r' c'))):=by
 simp only [cE,ag,aa,ae,ai,aN,ax,av,aV,aU,aw,az,ay,reduceIte,J,Kr,KG,aI,nS];have key:∀(a b d:Bool),(Res.ok (PV.bl a)).bind (fun x=>rY x fun t=>if t then(Res.ok (PV.bl b)).bind (fun x=>rY x fun t=>if t then Res.ok (PV.bl d) else Res.ok (PV.bl false)) else Res.ok (PV.bl false))=Res.ok (PV.bl (a&&(b&&d))):=by
  intro a b d;cases a<;>cases b<;>cases d<;>rfl
 by_cases h1:r=r'∧c=c'
 ·obtain⟨rfl,rfl⟩:=h1
  have:far r c r c:=.inl ⟨rfl,rfl⟩
  simp [ag,aa,ae,ai,aN,ax,av,aV,aU,aw,az,ay,reduceIte,J,this]
 ·have b1:(!((r==r')&&((c==c')&&true)))=true:=by
   cases hh:((r==r')&&((c==c')&&true)) with
   |false=>rfl
   |true=>exact absurd (by simpa using hh) h1
  simp only [b1,ag,aa,ae,ai,aN,ax,av,aV,aU,aw,az,ay,reduceIte,J]
  by_cases h2:(if r-r'<0 then -(r-r') else r-r')≤1
  ·by_cases h3:(if c-c'<0 then -(c-c') else c-c')≤1
   ·have:¬far r c r' c':=by
     rintro (h|h|h|h|h)
     ·exact h1 h
     all_goals (split at h2<;>split at h3<;>omega)
    simp only [h2,h3,this,decide_true,decide_false,ag,aa,ae,ai,aN,ax,av,aV,aU,aw,az,ay,reduceIte,J]
   ·have:far r c r' c':=by
     unfold far;split at h3<;>omega
    simp only [h2,h3,this,decide_true,decide_false,ag,aa,ae,ai,aN,ax,av,aV,aU,aw,az,ay,reduceIte,J]
  ·have:far r c r' c':=by
    unfold far;split at h2<;>omega
   simp only [h2,this,decide_true,decide_false,ag,aa,ae,ai,aN,ax,av,aV,aU,aw,az,ay,reduceIte,J]
def tD(F:ba):Prop:=∀rows,rA rows→∀r c,F "is_open" [fl rows,sp r c]=.ok (.bl (cM rows r c))
theorem vV(F:ba)(hn:∀rows,rA rows→∀r c,cM rows r c=true→F "need_open" [fl rows,sp r c]=.ok .non){rows:List Str}{w:Nat}(L:Fl rows w){r c:Int}(h:cM rows r c=true):ag F cR [fl rows,sp r c]=.ok (.int (cV rows r c)):=by
 obtain⟨z,x,e1,e2,e3,_⟩:=sC L h
 simp only [cR,ag,aa,ae,ai,aN,ax,av,aV,aU,aw,az,ay,reduceIte,J,hn rows L.rok r c h,Kr,KG,e1,e2,e3]
theorem si(F:ba)(ho:tD F){rows:List Str}(R:rA rows)(r c r' c':Int):ag F bz [fl rows,sp r c,sp r' c']=.ok (.bl (cM rows r c'&&cM rows r' c)):=by
 simp only [bz,ag,aa,ae,ai,aN,ax,av,aV,aU,aw,az,ay,reduceIte,J,Kr,KG,ho rows R];cases cM rows r c'<;>simp only [ag,aa,ae,ai,aN,ax,av,aV,aU,aw,az,ay,reduceIte,J,Bool.false_and,Bool.true_and]
theorem vu{i j:Int}(h0:0≤i)(h1:i<4):(aW i||aW j)=true:=by
 have:aW i=true:=by simp only [aW,zza,zzN];omega
 rw [this];rfl
structure Wk(cl pr:Int):Prop where
 c0:0≤cl
 p0:0≤pr
 p4:pr<4
 c9:cl≤9
theorem Cf(F:ba)(hb:∀r c r' c',F "are_beside" [sp r c,sp r' c']=.ok (.bl (!decide (far r c r' c'))))(hk:∀rows,rA rows→∀r c r' c',F "has_open_corners" [fl rows,sp r c,sp r' c']=.ok (.bl (cM rows r c'&&cM rows r' c)))
 (hh:∀rows w,Fl rows w→∀r c,cM rows r c=true→F "height_at" [fl rows,sp r c]=.ok (.int (cV rows r c))) {rows:List Str} {w:Nat} (L:Fl rows w) {sl:Bool} {cl pr:Int} (V:Wk cl pr) {r c r' c':Int} (h:cM rows r c=true) (h':cM rows r' c'=true):
 ag F bO [fl rows,wk sl cl pr,sp r c,sp r' c']=.ok (oP (dm rows sl cl pr r c r' c')):=by
 have e1:=hh rows w L r c h
 have e2:=hh rows w L r' c' h'
 have e3:=hk rows L.rok r c r' c'
 have e4:=hb r c r' c'
 by_cases h1:far r c r' c'
 ·have:dm rows sl cl pr r c r' c'=none:=if_pos h1
  simp only [bO,ag,aa,ae,ai,aN,ax,av,aV,aU,aw,az,ay,reduceIte,J,J2,e4,h1,decide_true,this,oP]
 ·have q1:dm rows sl cl pr r c r' c'=_:=if_neg h1
  rw [q1];have ms:=fun j=>vu (j:=j) V.p0 V.p4
  obtain⟨s,hs⟩:∃s,((!(r==r'))&&!(c==c'))=s:=⟨_,rfl⟩
  have Ky:s=true↔r≠r'∧c≠c':=by rw [←hs];simp
  have ia:∀{t u:Bool},(if t=true then Res.ok (PV.bl u) else Res.ok (PV.bl false))=Res.ok (PV.bl (t&&u)):=fun{t u}=>by cases t<;>rfl
  have ii:(if s=true then Res.ok (PV.int 3) else Res.ok (PV.int 2))=Res.ok (PV.int (if r≠r'∧c≠c' then 3 else 2)):=by
   by_cases n3:r≠r'∧c≠c'
   ·rw [if_pos (Ky.2 n3),if_pos n3]
   ·rw [if_neg (fun z=>n3 (Ky.1 z)),if_neg n3]
  have mx:(if(0:Int)>cV rows r' c'-cV rows r c then 0 else cV rows r' c'-cV rows r c)=(if cV rows r' c'-cV rows r c>0 then cV rows r' c'-cV rows r c else 0):=by
   split<;>split<;>omega
  have cc:(if sl=true then Res.ok (PV.bl (cM rows r c'&&cM rows r' c)) else Res.ok (PV.bl false))=Res.ok (PV.bl (sl&&(cM rows r c'&&cM rows r' c))):=ia
  by_cases hblk:(r≠r'∧c≠c')∧¬(sl=true∧cM rows r c'=true∧cM rows r' c=true)
  ·rw [if_pos hblk];have hB:(!(sl&&(cM rows r c'&&cM rows r' c)))=true:=by
    rw [Bool.not_eq_true',Bool.eq_false_iff];intro z;rw [zza,zza] at z;exact hblk.2 z
   simp only [bO,ag,aa,ae,ai,aN,ax,av,aV,aU,aw,az,ay,reduceIte,J,J2,e4,e3,h1,decide_false,ia,hs,Ky.2 hblk.1,hB,Bool.and_self,oP]
  ·rw [if_neg hblk];have hB:(s&&!(sl&&(cM rows r c'&&cM rows r' c)))=false:=by
    rw [Bool.eq_false_iff];intro z;rw [zza,Bool.not_eq_true',Bool.eq_false_iff] at z;exact hblk ⟨Ky.1 z.1,fun y=>z.2 (by rw [zza,zza];exact y)⟩
   by_cases hq:cl<(if cV rows r' c'-cV rows r c<0 then -(cV rows r' c'-cV rows r c) else cV rows r' c'-cV rows r c)
   ·have hz:cl<cV rows r' c'-cV rows r c∨cl<cV rows r c-cV rows r' c':=by split at hq<;>omega
    simp only [bO,ag,aa,ae,ai,aN,ax,av,aV,aU,aw,az,ay,reduceIte,J,J2,e4,e3,e1,e2,h1,decide_false,ia,hs,hB,oP,hq,decide_true,if_pos hz]
   ·have hz:¬(cl<cV rows r' c'-cV rows r c∨cl<cV rows r c-cV rows r' c'):=by split at hq<;>omega
    simp only [bO,ag,aa,ae,ai,aN,ax,av,aV,aU,aw,az,ay,reduceIte,J,J2,e4,e3,e1,e2,h1,decide_false,ia,hs,hB,oP,hq,if_neg hz,ii,ms,mx]
theorem FT{rows:List Str}{w:Nat}(L:Fl rows w){r c:Int}(h:cM rows r c=true):0≤r∧r<rows.length∧0≤c∧c<w:=by
 obtain⟨i,j,x,rfl,rfl,hc,_⟩:=sF h
 unfold cd at hc;cases hz:rows[i]? with
 |none=>rw [hz] at hc;cases hc
 |some z=>
  rw [hz] at hc;have h1:=(zzH.1 hz).1
  have h2:=(zzH.1 hc).1
  have hl:=L.rect _ (zzD hz)
  simp only [zzd] at h2;have:z.cps.size=z.length:=rfl
  omega
abbrev kN(p:Nat×Nat):List Int:=[(p.1:Int),(p.2:Int)]
abbrev Up(L:List (Nat×Nat)):Prop:=L.Pairwise fun p q=>HT.lexLt (kN p) (kN q)=true
theorem yO:Up []:=.nil
theorem M6{p q:Nat×Nat}(h:p.1<q.1∨p.1=q.1∧p.2<q.2):HT.lexLt (kN p) (kN q)=true:=by
 simp only [HT.lexLt];rcases h with h|⟨h1,h2⟩
 ·rw [if_neg (by omega)];exact zzh (by omega)
 ·rw [if_pos (by omega),if_neg (by omega)];exact zzh (by omega)
abbrev EW(p:Nat×Nat):PV:=sp p.1 p.2
theorem t9:∀{xs:List PV} {k i:Nat} {x:PV},(cF k xs)[i]?=some x→∃y,xs[i]?=some y∧x=.tup [.int ((k+i:Nat):Int),y]
 |[],_,_,_,h=>by cases h
 |y::ys,k,0,x,h=>by
  simp only [cF,List.getElem?_cons_zero,Option.some.injEq] at h;exact⟨y,rfl,h.symm⟩
 |y::ys,k,i+1,x,h=>by
  simp only [cF,List.getElem?_cons_succ] at h;obtain⟨w,h1,h2⟩:=t9 h
  refine⟨w,h1,?_⟩;rw [h2,show k+1+i=k+(i+1) by omega]
theorem cX:∀(xs:List PV) (k:Nat),(cF k xs).length=xs.length
 |[],_=>rfl
 |x::xs,k=>by simp only [cF,zzL,cX xs]
theorem qD{f:PV→Res (Option PV)}{r:Nat}(hf:∀c x:Nat,f (.tup [.int c,.str ⟨#[x]⟩])=.ok (if x !=35 then some (sp r c) else none)):∀(xs:List Nat) (k:Nat),∃L:List (Nat×Nat),bb f (cF k (xs.map fun x=>.str ⟨#[x]⟩))=.ok (L.map EW)∧Up L∧L.length≤xs.length∧∀a b,(a,b)∈L↔a=r∧k≤b∧∃x,xs[b-k]?=some x∧x≠35
 |[],k=>⟨[],rfl,yO,zzE _,fun a b=>by simp⟩
 |x::xs,k=>by
  obtain⟨L,e,nd,l,h⟩:=qD hf xs (k+1)
  by_cases hx:x=35
  ·refine⟨L,?_,nd,Nat.le_succ_of_le l,fun a b=>?_⟩
   ·have:(x !=35)=false:=by simp [hx]
    simp only [zzF,cF,bb,hf,this,HG,pf,e,oc]
    rfl
   ·rw [h]
    constructor
    ·rintro ⟨h1,h2,y,h3,h4⟩
     refine⟨h1,by omega,y,?_,h4⟩;rw [show b-k=(b-(k+1))+1 by omega];exact h3
    ·rintro ⟨h1,h2,y,h3,h4⟩
     have:b≠k:=by
      rintro rfl
      simp at h3;omega
     refine⟨h1,by omega,y,?_,h4⟩;rw [show b-k=(b-(k+1))+1 by omega] at h3;exact h3
  ·refine⟨(r,k)::L,?_,List.pairwise_cons.2 ⟨(fun p hp=>M6 (by have:=(h p.1 p.2).1 hp;omega)),nd⟩,Nat.succ_le_succ l,fun a b=>?_⟩
   ·have:(x !=35)=true:=by simp [hx]
    simp only [zzF,cF,bb,hf,this,HG,pf,e,oc,if_true]
   ·rw [List.mem_cons,h]
    constructor
    ·rintro (h1|⟨h1,h2,y,h3,h4⟩)
     ·cases h1;exact⟨rfl,zzE _,x,by simp,hx⟩
     ·refine⟨h1,by omega,y,?_,h4⟩;rw [show b-k=(b-(k+1))+1 by omega];exact h3
    ·rintro ⟨h1,h2,y,h3,h4⟩
     by_cases hb:b=k
     ·subst hb;subst h1;exact .inl rfl
     ·refine .inr ⟨h1,by omega,y,?_,h4⟩;rw [show b-k=(b-(k+1))+1 by omega] at h3;exact h3
theorem uN{rows:List Str}{r c:Nat}:zd rows r c=true↔∃z,rows[r]?=some z∧∃x,z.cps.toList[c]?=some x∧x≠35:=by
 unfold zd cd;cases hz:rows[r]? with
 |none=>simp
 |some z=>
  simp only [Option.bind_some];cases hx:z.cps.toList[c]? with
  |none=>
   refine⟨(fun h=>by cases h),?_⟩
   rintro ⟨w,hw,x,Av,_⟩
   cases hw;rw [hx] at Av;cases Av
  |some x=>
   refine⟨fun h=>⟨z,rfl,x,hx,by simpa using h⟩,?_⟩
   rintro ⟨w,hw,y,hy,h⟩
   cases hw;rw [hx] at hy;cases hy
   simpa using h
theorem vn(F:ba)(hp:j4 F)(ns:List Int)(k:Int)(hk:0≤k):∃sl cl pr,Wk cl pr∧ag F cg [i4 ns,.int k]=.ok (wk sl cl pr):=by
 obtain⟨a,ea,a0,a2⟩:=hp ns k 2 hk (by decide)
 obtain⟨b,eb,b0,b4⟩:=hp ns (k+1) 4 (by omega) (by decide)
 obtain⟨c,ec,c0,c4⟩:=hp ns (k+2) 4 (by omega) (by decide)
 obtain⟨v,ev,hv⟩:=oh (a:=0) (b:=1) (c:=2) (d:=9) b0 b4
 refine⟨(a==0),v,c,⟨by omega,c0,c4,by omega⟩,?_⟩;simp only [cg,ag,aa,ae,ai,aN,ax,av,aV,aU,aw,az,ay,reduceIte,J,J2,ea,eb,ec,ev]
theorem eG{α σ:Type}{body:PV→Sl→Res Ci.Fl}{g:α→PV}{mk:List PV→σ→Sl}{app:α→List PV}{m M:Nat}:∀(l:List α) (acc:List PV) (s:σ),(∀a∈l,(app a).length≤m)→(∀a∈l,∀acc s,acc.length+m≤M→∃s',body (g a) (mk acc s)=.ok (.nx (mk (acc++app a) s')))→acc.length+m*l.length≤M→∃s',forL body (l.map g) (mk acc s)=.ok (.nx (mk (acc++l.flatMap app) s'))
 |[],acc,s,_,_,_=>⟨s,by simp [forL]⟩
 |a::l,acc,s,h1,h2,h3=>by
  have ha:=h1 a (zzP ..)
  rw [zzL,Nat.mul_succ] at h3;obtain⟨s1,e1⟩:=h2 a (zzP ..) acc s (by omega)
  obtain⟨s2,e2⟩:=eG l (acc++app a) s1 (fun b hb=>h1 b (zzI _ hb)) (fun b hb=>h2 b (zzI _ hb)) (by rw [zzM];omega)
  refine⟨s2,?_⟩;simp only [zzF,forL,e1,pf,e2,List.flatMap_cons,List.append_assoc]
def fw(x:Int):List Int:=[x-1+(0:Nat),x-1+(1:Nat),x-1+(2:Nat)]
theorem IU(x:Int):ff (x-1) (x+2-(x-1)).toNat=(fw x).map .int:=by
 rw [show(x+2-(x-1)).toNat=3 by omega]
 rfl
noncomputable def oI:Ss:=(.cons (.ite (.and (.cmp .ne (.tup (.cons (.var 3) (.cons (.var 4) .nil))) (.var 1)) (.call "is_open" (.cons (.var 0) (.cons (.tup (.cons (.var 3) (.cons (.var 4) .nil))) .nil))))
 (.cons (.app 2 (.tup (.cons (.var 3) (.cons (.var 4) .nil))))
 .nil)
 .nil)
 .nil)
noncomputable def oO:Ss:=(.cons (.for_ (.one 4) (.rng2 (.bin .sub (.sub (.var 1) (.cst (.int 1))) (.cst (.int 1))) (.bin .add (.sub (.var 1) (.cst (.int 1))) (.cst (.int 2)))) oI) .nil)
def AF(rows:List Str)(r c r' c':Int):Bool:=!((r'==r)&&((c'==c)&&true))&&cM rows r' c'
def qa(rows:List Str)(r c r':Int):List (Int×Int):=(fw c).flatMap fun c'=>if AF rows r c r' c' then [(r',c')] else []
def pw(rows:List Str)(r c:Int):List (Int×Int):=(fw r).flatMap (qa rows r c)
theorem iu(rows:List Str)(r c r':Int):(qa rows r c r').length≤3:=by
 have:∀c',(if AF rows r c r' c' then [(r',c')] else []).length≤1:=fun c'=>by split<;>simp
 simp only [qa,fw,List.flatMap_cons,List.flatMap_nil,zzM,List.length_nil];have h1:=this (c-1+(0:Nat));have h2:=this (c-1+(1:Nat));have h3:=this (c-1+(2:Nat))
 omega
theorem qO(rows:List Str)(r c:Int):(pw rows r c).length≤9:=by
 simp only [pw,fw,List.flatMap_cons,List.flatMap_nil,zzM,List.length_nil];have h1:=iu rows r c (r-1+(0:Nat));have h2:=iu rows r c (r-1+(1:Nat));have h3:=iu rows r c (r-1+(2:Nat))
 omega
theorem kK{rows:List Str}{r c r' c':Int}:(r',c')∈pw rows r c↔¬far r c r' c'∧cM rows r' c'=true:=by
 have hn:∀x y:Int,y∈fw x↔¬1<x-y∧¬1<y-x:=by
  intro x y;simp only [fw,List.mem_cons,List.not_mem_nil,or_false];omega
 simp only [pw,qa,List.mem_flatMap,hn]
 constructor
 ·rintro ⟨a,ha,b,hb,h⟩
  split at h
  ·rename_i hk;simp only [zzi,Prod.mk.injEq] at h;obtain⟨rfl,rfl⟩:=h
   simp only [AF,zza,Bool.not_eq_true',Bool.and_true] at hk;refine⟨?_,hk.2⟩;unfold far;have h1:=hk.1
   rw [Bool.and_eq_false_iff] at h1;simp only [beq_eq_false_iff_ne,ne_eq] at h1;omega
  ·cases h
 ·rintro ⟨hf,ho⟩
  unfold far at hf;refine⟨r',by omega,c',by omega,?_⟩;have:AF rows r c r' c'=true:=by
   simp only [AF,ho,Bool.and_true,Bool.not_eq_true',Bool.and_eq_false_iff,beq_eq_false_iff_ne,ne_eq];omega
  rw [if_pos this];exact zzi.2 rfl
theorem j5{r:Int}(h0:0≤r)(h6:r<6):(bj (r-1)&&bj (r+2))=true:=by
 simp only [bj,zza,zzN];omega
theorem GX(F:ba)(ho:tD F){rows:List Str}(R:rA rows){r c:Int}(Qb:0≤r)(hr:r<6)(PM:0≤c)(hc:c<6):
 ag F bq [fl rows,sp r c]=.ok (.lst ((pw rows r c).map Dv)):=by
 have inner:∀(r':Int) (acc:List PV) (s4:Ci.Slot),acc.length+3≤50→∃IQ,forL (fun x env=>((Tg.one 4).put x env).bind fun aF=>ai F oI aF) ((fw c).map .int) [.val (fl rows),.val (sp r c),.own (.lst acc),.val (.int r'),s4]=.ok (.nx [.val (fl rows),.val (sp r c),.own (.lst (acc++(qa rows r c r').map Dv)),.val (.int r'),IQ]):=by
  intro r' acc s4 hl;obtain⟨s',e⟩:=eG (body:=fun x env=>((Tg.one 4).put x env).bind fun aF=>ai F oI aF) (g:=PV.int) (mk:=fun acc (s:Ci.Slot)=>[.val (fl rows),.val (sp r c),.own (.lst acc),.val (.int r'),s]) (app:=fun c'=>if AF rows r c r' c' then [sp r' c'] else []) (m:=1) (M:=60) (fw c) acc s4 (fun c' _=>by split<;>simp) (fun c' _ acc s hl=>by
   have l:acc.length<c8:=zzV (m:=60) (by omega) (by decide)
   refine⟨.val (.int c'),?_⟩;cases h1:(!((r'==r)&&((c'==c)&&true))) with
   |false=>simp only [oI,ag,aa,ae,ai,aN,ax,av,aV,aU,aw,az,ay,reduceIte,J,J2,h1,AF,Bool.false_and,List.append_nil]
   |true=>
    cases h2:cM rows r' c' with
    |false=>simp only [oI,ag,aa,ae,ai,aN,ax,av,aV,aU,aw,az,ay,reduceIte,J,J2,h1,h2,AF,ho rows R,Bool.and_false,List.append_nil]
    |true=>simp only [oI,ag,aa,ae,ai,aN,ax,av,aV,aU,aw,az,ay,reduceIte,J,J2,h1,h2,AF,ho rows R,Bool.and_self,l]) (by show acc.length+1*3≤60;omega)
  have k:(fw c).flatMap (fun c'=>if AF rows r c r' c' then [sp r' c'] else [])=(qa rows r c r').map Dv:=by
   simp only [qa,List.map_flatMap]
   congr 1
   funext c'
   split<;>rfl
  exact⟨s',by rw [e,k]⟩
 obtain⟨s',e⟩:=eG (body:=fun x env=>((Tg.one 3).put x env).bind fun aF=>ai F oO aF) (g:=PV.int) (mk:=fun acc (s:Ci.Slot×Ci.Slot)=>[.val (fl rows),.val (sp r c),.own (.lst acc),s.1,s.2]) (app:=fun r'=>(qa rows r c r').map Dv) (m:=3) (M:=50) (fw r) [] (.no,.no) (fun r' _=>by rw [zzl];exact iu ..) (fun r' _ acc s hl=>by
  obtain⟨IQ,e⟩:=inner r' acc s.2 hl
  refine⟨(.val (.int r'),IQ),?_⟩;simp only [oI,ag,aa,ae,ai,aN,ax,av,aV,aU,aw,az,ay,reduceIte,J,J2] at e;simp only [oO,oI,ag,aa,ae,ai,aN,ax,av,aV,aU,aw,az,ay,reduceIte,J,J2,j5 PM hc,IU,e]) (by show 0+3*3≤50;omega)
 simp only [oO,oI,ag,aa,ae,ai,aN,ax,av,aV,aU,aw,az,ay,reduceIte,J,J2] at e;simp only [bq,ag,aa,ae,ai,aN,ax,av,aV,aU,aw,az,ay,reduceIte,J,J2,j5 Qb hr,IU,e,DJ,pw,List.map_flatMap]
def E1(rows:List Str)(sl:Bool)(cl pr:Int)(u v:List Int)(e:Int):Prop:=∃r c r' c',u=[r,c]∧v=[r',c']∧cM rows r c=true∧cM rows r' c'=true∧dm rows sl cl pr r c r' c'=some e
abbrev tK(t:List Int×Int):PV:=.tup [ah t.1,.int t.2]
def zP(F:ba):Prop:=∀rows w,Fl rows w→∀sl cl pr,Wk cl pr→∀r c r' c',cM rows r c=true→cM rows r' c'=true→F "step_cost" [fl rows,wk sl cl pr,sp r c,sp r' c']=.ok (oP (dm rows sl cl pr r c r' c'))
def DG(F:ba):Prop:=∀rows,rA rows→∀r c,0≤r→r<6→0≤c→c<6→F "open_spots_beside" [fl rows,sp r c]=.ok (.lst ((pw rows r c).map Dv))
def sk(F:ba):Prop:=∀rows,rA rows→∀r c,cM rows r c=true→F "need_open" [fl rows,sp r c]=.ok .non
def qI(f:List PV→Res PV):Prop:=∀rows w,Fl rows w→∀sl cl pr,Wk cl pr→∀r c,cM rows r c=true→∃T:List (List Int×Int),f [fl rows,wk sl cl pr,ah [r,c]]=.ok (.lst (T.map tK))∧T.length≤9∧∀v e,(v,e)∈T↔E1 rows sl cl pr [r,c] v e
def g7(F:ba):Prop:=qI (F "steps_from")
noncomputable def Kx:Ss:=(.cons (.set 5 (.call "step_cost" (.cons (.var 0) (.cons (.var 1) (.cons (.var 2) (.cons (.var 4) .nil))))))
 (.cons (.ite (.cmp .isn (.var 5) (.cst .non))
  (.cons (.app 3 (.tup (.cons (.var 4) (.cons (.var 5) .nil))))
  .nil)
  .nil)
 .nil))
theorem D4{rows:List Str}{w:Nat}(L:Fl rows w){r c:Int}(h:cM rows r c=true):0≤r∧r<6∧0≤c∧c<6:=by
 have h1:=FT L h
 have h2:=L.rok.1
 have h3:=L.rok.2 _ (List.getElem_mem L.ne)
 rw [L.rect _ (List.getElem_mem L.ne)] at h3;omega
theorem ya(F:ba)(hn:sk F)(hb:DG F)(hs:zP F):qI (ag F bH):=by
 intro rows w L sl cl pr V r c h;obtain⟨r0,r6,c0,c6⟩:=D4 L h
 have Nq:∀p:Int×Int,((dm rows sl cl pr r c p.1 p.2).toList.map fun e=>(([p.1,p.2]:List Int),e)).length≤1:=fun p=>by cases dm rows sl cl pr r c p.1 p.2<;>simp
 refine⟨(pw rows r c).flatMap fun p=>(dm rows sl cl pr r c p.1 p.2).toList.map fun e=>([p.1,p.2],e),?_,?_,?_⟩
 ·obtain⟨s',e⟩:=eG (body:=fun x env=>((Tg.one 4).put x env).bind fun aF=>ai F Kx aF) (g:=Dv) (mk:=fun acc (s:Ci.Slot×Ci.Slot)=>[.val (fl rows),.val (wk sl cl pr),.val (sp r c),.own (.lst acc),s.1,s.2]) (app:=fun p=>((dm rows sl cl pr r c p.1 p.2).toList.map fun e=>(([p.1,p.2]:List Int),e)).map tK) (m:=1) (M:=50) (pw rows r c) [] (.no,.no) (fun p _=>by rw [zzl];exact Nq p) (fun p hp acc s hl=>by
   have l:acc.length<c8:=zzV (m:=50) (by omega) (by decide)
   have e:=hs rows w L sl cl pr V r c p.1 p.2 h (kK.1 hp).2
   cases hq:dm rows sl cl pr r c p.1 p.2 with
   |none=>
    rw [hq] at e;have e5:i6 .non .non=.ok (.bl false):=rfl
    simp only [oP] at e;exact⟨(.val (Dv p),.val .non),by simp only [Kx,ag,aa,ae,ai,aN,ax,av,aV,aU,aw,az,ay,reduceIte,J,J2,e,e5,Option.toList_none,List.append_nil]⟩
   |some v=>
    rw [hq] at e;have e5:i6 (.int v) .non=.ok (.bl true):=rfl
    simp only [oP] at e;exact⟨(.val (Dv p),.val (.int v)),by simp only [Kx,ag,aa,ae,ai,aN,ax,av,aV,aU,aw,az,ay,reduceIte,J,J2,e,e5,Option.toList_some,l];rfl⟩) (by
   have:=qO rows r c
   show 0+1*_≤50
   omega)
  have k:ah [r,c]=sp r c:=rfl
  simp only [Kx,ag,aa,ae,ai,aN,ax,av,aV,aU,aw,az,ay,reduceIte,J,J2] at e;simp only [k,bH,ag,aa,ae,ai,aN,ax,av,aV,aU,aw,az,ay,reduceIte,J,J2,hn rows L.rok r c h,hb rows L.rok r c r0 r6 c0 c6,e,DJ,List.map_flatMap]
 ·have:=qO rows r c
  have key:∀l:List (Int×Int),(l.flatMap fun p=>(dm rows sl cl pr r c p.1 p.2).toList.map fun e=>(([p.1,p.2]:List Int),e)).length≤l.length:=by
   intro l
   induction l with
   |nil=>exact zzE _
   |cons p l ih=>
    have:=Nq p
    simp only [List.flatMap_cons,zzM,zzL];omega
  exact zzU (key _) this
 ·intro v e;simp only [List.mem_flatMap,List.mem_map,Option.mem_toList,Option.mem_def,Prod.mk.injEq]
  constructor
  ·rintro ⟨p,hp,e',he,rfl,rfl⟩
   exact⟨r,c,p.1,p.2,rfl,rfl,h,(kK.1 hp).2,he⟩
  ·rintro ⟨a,b,r',c',hu,rfl,_,ho,he⟩
   cases hu;refine⟨(r',c'),kK.2 ⟨fun hf=>?_,ho⟩,e,he,rfl,rfl⟩
   rw [show dm rows sl cl pr r c r' c'=none from if_pos hf] at he;cases he
theorem gz:∀k:List Int,intsOf (k.map .int)=some k
 |[]=>rfl
 |i::k=>by simp only [zzF,intsOf,gz k,Option.map_some]
theorem dz(k:List Int):gK (ah k)=some k:=gz k
theorem dg{α:Type}:∀{ks:List (List Int)} {vs:List α} (k:List Int),ks.length=vs.length→bW ks k=(aD ks vs k).isSome
 |[],[],_,_=>rfl
 |k'::ks,v::vs,k,h=>by
  have ih:=dg (ks:=ks) (vs:=vs) k (by simpa using h)
  by_cases e:k'=k
  ·simp [bW,aD,e]
  ·simp only [bW] at ih;simp [bW,aD,e,ih]
theorem j1{α β:Type}(f:α→β):∀(ks:List (List Int)) (vs:List α) (k:List Int),aD ks (vs.map f) k=(aD ks vs k).map f
 |[],_,_=>by simp [aD]
 |_::_,[],_=>by simp [aD]
 |k'::ks,v::vs,k=>by
  simp only [zzF,aD,j1 f ks vs k];split<;>rfl
theorem lh{α β:Type}(f:α→β):∀(ks:List (List Int)) (vs:List α) (k:List Int),aZ ks (vs.map f) k=(aZ ks vs k).map f
 |[],_,_=>by simp [aZ]
 |_::_,[],_=>by simp [aZ]
 |k'::ks,v::vs,k=>by
  simp only [zzF,aZ,lh f ks vs k];split<;>rfl
theorem m8{α β:Type}(f:α→β)(ks:List (List Int))(vs:List α)(k:List Int)(p:α):bu ks (vs.map f) k (f p)=(bu ks vs k p).map f:=by
 unfold bu;split
 ·rw [List.zipWith_map_right,List.map_zipWith]
  congr 1
  funext a b
  split<;>rfl
 ·simp
theorem qv{α:Type}(k:List Int)(p:α):∀(ks:List (List Int)) (vs:List α) (x:List Int),aD ks (List.zipWith (fun k' v=>if k'=k then p else v) ks vs) x=(aD ks vs x).map fun v=>if x=k then p else v
 |[],_,_=>by simp [aD]
 |_::_,[],_=>by simp [aD]
 |k'::ks,v::vs,x=>by
  simp only [List.zipWith_cons_cons,aD,qv k p ks vs x]
  by_cases e:k'=x
  ·subst e;simp
  ·simp [e]
theorem nj{α:Type}(k:List Int)(p:α):∀(ks:List (List Int)) (vs:List α) (x:List Int),ks.length=vs.length→aD (ks++[k]) (vs++[p]) x=(aD ks vs x).or (if k=x then some p else none)
 |[],[],x,_=>by simp [aD]
 |k'::ks,v::vs,x,h=>by
  simp only [List.cons_append,aD,nj k p ks vs x (by simpa using h)];split<;>simp
theorem bx{α:Type}{ks:List (List Int)}{vs:List α}(h:ks.length=vs.length)(k:List Int)(p:α)(x:List Int):aD (aX ks k) (bu ks vs k p) x=if k=x then some p else aD ks vs x:=by
 have hh:=dg (vs:=vs) k h
 unfold aX bu;cases hk:bW ks k with
 |true=>
  rw [hk] at hh;simp only [if_true,qv]
  by_cases e:k=x
  ·subst e;obtain⟨v,hv⟩:=Option.isSome_iff_exists.1 hh.symm
   simp [hv]
  ·rw [if_neg e];have e':¬x=k:=fun z=>e z.symm
   cases aD ks vs x<;>simp [e']
 |false=>
  rw [hk] at hh;simp only [zze,if_false,nj k p ks vs x h]
  by_cases e:k=x
  ·subst e;have:aD ks vs k=none:=by simpa using hh.symm
   simp [this]
  ·simp [e]
theorem kE{α:Type}{ks:List (List Int)}{vs:List α}(h:ks.length=vs.length)(k:List Int)(p:α):(aX ks k).length=(bu ks vs k p).length:=by
 unfold aX bu;split<;>simp [h]
theorem fW(ks:List (List Int))(k:List Int):(aX ks k).length≤ks.length+1:=by
 unfold aX;split<;>simp
theorem cL{ks:List (List Int)}{k:List Int}:bW ks k=true↔k∈ks:=by
 simp [bW]
theorem fA{ks:List (List Int)}(h:ks.Nodup)(k:List Int):(aX ks k).Nodup:=by
 unfold aX;split
 ·exact h
 ·rename_i hk;rw [cL] at hk;refine List.nodup_append.2 ⟨h,by simp,?_⟩;intro a ha b hb e;rw [zzi] at hb;exact hk (hb▸e▸ha)
theorem dG{α:Type}(k:List Int):∀(ks:List (List Int)) (vs:List α) (x:List Int),ks.length=vs.length→aD (bP ks k) (aZ ks vs k) x=if k=x then none else aD ks vs x
 |[],[],x,_=>by simp [bP,aZ,aD]
 |k'::ks,v::vs,x,h=>by
  have ih:=dG k ks vs x (by simpa using h)
  simp only [bP] at ih
  by_cases e:k'=k
  ·subst e;simp only [bP,aZ,aD,List.filter_cons,ne_eq,not_true_eq_false,decide_false,zze,if_false,if_true,ih];split<;>simp_all
  ·simp only [bP,aZ,aD,List.filter_cons,ne_eq,e,not_false_eq_true,decide_true,if_true,if_false]
   by_cases e2:k'=x
   ·subst e2;have:¬k=k':=fun z=>e z.symm
    simp [aD,this]
   ·simp only [aD,e2,if_false];exact ih
theorem nc{α:Type}(k:List Int):∀(ks:List (List Int)) (vs:List α),ks.length=vs.length→(bP ks k).length=(aZ ks vs k).length
 |[],[],_=>rfl
 |k'::ks,v::vs,h=>by
  have ih:=nc k ks vs (by simpa using h)
  simp only [bP] at ih
  by_cases e:k'=k
  ·simpa [bP,aZ,e] using ih
  ·simpa [bP,aZ,e] using ih
theorem um{α:Type}:∀{ks:List (List Int)} {vs:List α} {i:Nat} {k:List Int} {q:α},ks.Nodup→ks[i]?=some k→vs[i]?=some q→aD ks vs k=some q
 |[],_,_,_,_,_,h,_=>by simp at h
 |_::_,[],_,_,_,_,_,h=>by simp at h
 |k'::ks,v::vs,0,k,q,_,h1,h2=>by
  simp only [List.getElem?_cons_zero,Option.some.injEq] at h1 h2;simp [aD,h1,h2]
 |k'::ks,v::vs,i+1,k,q,nd,h1,h2=>by
  simp only [List.getElem?_cons_succ] at h1 h2;have Nd:=List.nodup_cons.1 nd
  have:¬k'=k:=fun z=>Nd.1 (z▸zzD h1)
  simp only [aD,this,if_false];exact um Nd.2 h1 h2
theorem ra{α:Type}:∀{ks:List (List Int)} {vs:List α} {k:List Int} {q:α},aD ks vs k=some q→q∈vs
 |[],_,_,_,h=>by simp [aD] at h
 |_::_,[],_,_,h=>by simp [aD] at h
 |k'::ks,v::vs,k,q,h=>by
  simp only [aD] at h;split at h
  ·cases h;exact zzP ..
  ·exact zzI _ (ra h)
theorem iQ:∀(cs:List Int) (b:Nat) (m:Int) (pre:List Int),pre[b]?=some m→(∀x∈pre,m≤x)→∃y,(pre++cs)[ei cs pre.length b m]?=some y∧∀x∈pre++cs,y≤x
 |[],b,m,pre,h1,h2=>⟨m,by simpa [ei] using h1,by simpa using h2⟩
 |c::cs,b,m,pre,h1,h2=>by
  have hb:=(zzH.1 h1).1
  simp only [ei];have hl:pre.length+1=(pre++[c]).length:=by simp
  split
  ·rename_i hc;have:=iQ cs pre.length c (pre++[c]) (by simp) (fun x hx=>by
    simp only [List.mem_append,zzi] at hx;rcases hx with hx|hx
    ·have:=h2 x hx;omega
    ·omega)
   rw [←hl] at this
   simpa using this
  ·rename_i hc;have:=iQ cs b m (pre++[c]) (by rw [List.getElem?_append_left hb];exact h1) (fun x hx=>by
    simp only [List.mem_append,zzi] at hx;rcases hx with hx|hx
    ·exact h2 x hx
    ·omega)
   rw [←hl] at this
   simpa using this
theorem Ca{cs:List Int}(h:cs≠[]):∃i y,zS cs=some i∧cs[i]?=some y∧∀x∈cs,y≤x:=by
 cases cs with
 |nil=>exact absurd rfl h
 |cons c cs=>
  obtain⟨y,h1,h2⟩:=iQ cs 0 c [c] rfl (by simp)
  exact⟨_,y,rfl,h1,h2⟩
abbrev val(q:Int×PV):PV:=.tup [.int q.1,q.2]
theorem nh:∀V:List (Int×PV),gC (V.map val)=some (V.map (·.1))
 |[]=>rfl
 |q::V=>by simp only [zzF,gC,nh V,Option.map_some]
theorem wJ{ks:List (List Int)}{V:List (Int×PV)}(h:ks.length=V.length)(nd:ks.Nodup)(gH:ks≠[]):∃k q,((zS (V.map (·.1))).bind fun x=>ks[x]?)=some k∧aD ks V k=some q∧∀x q',aD ks V x=some q'→q.1≤q'.1:=by
 have hV:V.map (·.1)≠[]:=by
  intro z;rw [List.map_eq_nil_iff] at z;rw [z] at h;exact gH (List.eq_nil_of_length_eq_zero h)
 obtain⟨i,y,h1,h2,h3⟩:=Ca hV
 rw [zzQ,zzJ] at h2;obtain⟨q,hq,rfl⟩:=h2
 have hi:=(zzH.1 hq).1
 have hk:ks[i]?=some (ks[i]'(by omega)):=zzg _
 refine⟨_,q,by rw [h1];exact hk,um nd hk hq,fun x q' hx=>h3 _ (List.mem_map.2 ⟨q',ra hx,rfl⟩)⟩
inductive Ar(E:List Int→List Int→Int→Prop)(s:List Int):List Int→Int→Prop
 |here:Ar E s s 0
 |go {u v:List Int} {d e:Int}:Ar E s u d→E u v e→Ar E s v (d+e)
abbrev Ks:=List (List Int)
abbrev Vs:=List (Int×PV)
def Kn(kr:Ks)(Vr:Vs)(kw:Ks)(Vw:Vs)(k:List Int)(c:Int):Prop:=(∃q,aD kr Vr k=some q∧q.1≤c)∨∃q,aD kw Vw k=some q∧q.1≤c
structure pI(E:List Int→List Int→Int→Prop)(O:List Int→Prop)(s:List Int)(kr:Ks)(Vr:Vs)(kw:Ks)(Vw:Vs)(X:List Int→List Int→Int→Prop)(n:Nat)(b:Int):Prop where
 lr:kr.length=Vr.length
 lw:kw.length=Vw.length
 nw:kw.Nodup
 dis:∀k q q',aD kr Vr k=some q→aD kw Vw k=some q'→False
 wr:∀k q,aD kr Vr k=some q→O k∧Ar E s k q.1
 ww:∀k q,aD kw Vw k=some q→O k∧Ar E s k q.1
 mono:∀k q k' q',aD kr Vr k=some q→aD kw Vw k'=some q'→q.1≤q'.1
 clo:∀u q,aD kr Vr u=some q→∀v e,X u v e→Kn kr Vr kw Vw v (q.1+e)
 st:Kn kr Vr kw Vw s 0
 cw:kw.length≤n
 pre:∀k q,aD kr Vr k=some q∨aD kw Vw k=some q→q.2=.non∨∃y q',q.2=ah y∧aD kr Vr y=some q'∧q'.1<q.1
 bd:∀k q,aD kr Vr k=some q∨aD kw Vw k=some q→0≤q.1∧q.1≤b
 nr:kr.Nodup
theorem Kn.put{kr:Ks}{Vr:Vs}{kw:Ks}{Vw:Vs}(h:kw.length=Vw.length){v:List Int}{c:Int}{p:PV}(hv:∀q,aD kw Vw v=some q→c≤q.1){k:List Int}{x:Int}(H:Kn kr Vr kw Vw k x):Kn kr Vr (aX kw v) (bu kw Vw v (c,p)) k x:=by
 rcases H with H|⟨q,h1,h2⟩
 ·exact .inl H
 ·refine .inr ?_;rw [bx h]
  by_cases e:v=k
  ·subst e;exact⟨(c,p),if_pos rfl,Int.le_trans (hv q h1) h2⟩
  ·exact⟨q,by rw [if_neg e];exact h1,h2⟩
theorem pI.put{E:List Int→List Int→Int→Prop}{O:List Int→Prop}{s:List Int}{kr:Ks}{Vr:Vs}{kw:Ks}{Vw:Vs}{X:List Int→List Int→Int→Prop}{n:Nat}{b:Int}(M:pI E O s kr Vr kw Vw X n b){u v:List Int}{d e:Int}{p0:PV}(hu:aD kr Vr u=some (d,p0))(hd:∀k q,aD kr Vr k=some q→q.1≤d)(he:E u v e)(h0:0<e)(hb:d+e≤b)(ho:O v)
 (hv:aD kr Vr v=none) (hw:∀q,aD kw Vw v=some q→d+e≤q.1):pI E O s kr Vr (aX kw v) (bu kw Vw v (d+e,ah u)) (fun a b c=>X a b c∨a=u∧b=v∧c=e) (n+1) b where
 lr:=M.lr
 lw:=kE M.lw _ _
 nw:=fA M.nw _
 dis:=fun k q q' h1 h2=>by
  rw [bx M.lw] at h2;split at h2
  ·rename_i z;subst z;rw [hv] at h1;cases h1
  ·exact M.dis k q q' h1 h2
 wr:=M.wr
 ww:=fun k q h=>by
  rw [bx M.lw] at h;split at h
  ·rename_i z;subst z;cases h;exact⟨ho,.go (M.wr u _ hu).2 he⟩
  ·exact M.ww k q h
 mono:=fun k q k' q' h1 h2=>by
  rw [bx M.lw] at h2;split at h2
  ·cases h2;have:=hd k q h1;show q.1≤d+e;omega
  ·exact M.mono k q k' q' h1 h2
 clo:=fun a q h1 b c hx=>by
  rcases hx with hx|⟨rfl,rfl,rfl⟩
  ·exact(M.clo a q h1 b c hx).put M.lw hw
  ·rw [hu] at h1;cases h1;exact .inr ⟨(d+c,ah a),by rw [bx M.lw,if_pos rfl],Int.le_refl _⟩
 st:=M.st.put M.lw hw
 cw:=by have:=fW kw v;have:=M.cw;omega
 pre:=fun k q h=>by
  rcases h with h|h
  ·exact M.pre k q (.inl h)
  ·rw [bx M.lw] at h;split at h
   ·cases h;exact .inr ⟨u,(d,p0),rfl,hu,by show d<d+e;omega⟩
   ·exact M.pre k q (.inr h)
 bd:=fun k q h=>by
  rcases h with h|h
  ·exact M.bd k q (.inl h)
  ·rw [bx M.lw] at h;split at h
   ·cases h;have:=(M.bd u _ (.inl hu)).1;exact⟨by show 0≤d+e;omega,hb⟩
   ·exact M.bd k q (.inr h)
 nr:=M.nr
theorem pI.keep{E:List Int→List Int→Int→Prop}{O:List Int→Prop}{s:List Int}{kr:Ks}{Vr:Vs}{kw:Ks}{Vw:Vs}{X Y:List Int→List Int→Int→Prop}{n m:Nat}{b b':Int}(M:pI E O s kr Vr kw Vw X n b)(hm:n≤m)(hb:b≤b')(h:∀u q,aD kr Vr u=some q→∀v e,Y u v e→Kn kr Vr kw Vw v (q.1+e)):pI E O s kr Vr kw Vw Y m b':=
 ⟨M.lr,M.lw,M.nw,M.dis,M.wr,M.ww,M.mono,h,M.st,zzU M.cw hm,M.pre,fun k q z=>⟨(M.bd k q z).1,Int.le_trans (M.bd k q z).2 hb⟩,M.nr⟩
theorem Kn.move{kr:Ks}{Vr:Vs}{kw:Ks}{Vw:Vs}(hr:kr.length=Vr.length)(hw:kw.length=Vw.length){k:List Int}{q0:Int×PV}(h0:aD kw Vw k=some q0)(hk:aD kr Vr k=none){x:List Int}{c:Int}(H:Kn kr Vr kw Vw x c):Kn (aX kr k) (bu kr Vr k q0) (bP kw k) (aZ kw Vw k) x c:=by
 unfold Kn;rw [bx hr,dG k kw Vw x hw]
 by_cases e:k=x
 ·subst e;rcases H with⟨q,h1,_⟩|⟨q,h1,h2⟩
  ·rw [hk] at h1;cases h1
  ·rw [h0] at h1;cases h1;exact .inl ⟨q0,if_pos rfl,h2⟩
 ·simp only [e,if_false];exact H
theorem pI.move{E:List Int→List Int→Int→Prop}{O:List Int→Prop}{s:List Int}{kr:Ks}{Vr:Vs}{kw:Ks}{Vw:Vs}{n:Nat}{b:Int}(M:pI E O s kr Vr kw Vw E n b){k:List Int}{q0:Int×PV}(h0:aD kw Vw k=some q0)(hl:∀x q',aD kw Vw x=some q'→q0.1≤q'.1):
 pI E O s (aX kr k) (bu kr Vr k q0) (bP kw k) (aZ kw Vw k) (fun a b c=>E a b c∧a≠k) n b∧aD (aX kr k) (bu kr Vr k q0) k=some q0∧∀x q,aD (aX kr k) (bu kr Vr k q0) x=some q→q.1≤q0.1:=by
 have hk:aD kr Vr k=none:=by
  cases h:aD kr Vr k with
  |none=>rfl
  |some q=>exact(M.dis k q q0 h h0).elim
 have old:∀x q,aD (aX kr k) (bu kr Vr k q0) x=some q∨aD (bP kw k) (aZ kw Vw k) x=some q→aD kr Vr x=some q∨aD kw Vw x=some q:=fun x q h=>by
  rcases h with h|h
  ·rw [bx M.lr] at h;split at h
   ·rename_i z;subst z;cases h;exact .inr h0
   ·exact .inl h
  ·rw [dG k kw Vw x M.lw] at h;split at h
   ·cases h
   ·exact .inr h
 refine⟨?_,by rw [bx M.lr,if_pos rfl],fun x q h=>?_⟩
 ·refine⟨kE M.lr _ _,nc k kw Vw M.lw,M.nw.filter _,fun x q q' h1 h2=>?_,fun x q h=>?_,fun x q h=>?_,fun x q x' q' h1 h2=>?_,fun u q h1 v e hx=>?_,M.st.move M.lr M.lw h0 hk,zzU (List.length_filter_le ..) M.cw,fun x q h=>?_,fun x q h=>M.bd x q (old x q h),fA M.nr _⟩
  ·rw [bx M.lr] at h1;rw [dG k kw Vw x M.lw] at h2;split at h2
   ·cases h2
   ·rename_i z;rw [if_neg z] at h1;exact M.dis x q q' h1 h2
  ·rw [bx M.lr] at h;split at h
   ·rename_i z;subst z;cases h;exact M.ww k _ h0
   ·exact M.wr x q h
  ·rw [dG k kw Vw x M.lw] at h;split at h
   ·cases h
   ·exact M.ww x q h
  ·rw [bx M.lr] at h1;rw [dG k kw Vw x' M.lw] at h2;split at h2
   ·cases h2
   ·split at h1
    ·cases h1;exact hl x' q' h2
    ·exact M.mono x q x' q' h1 h2
  ·rw [bx M.lr,if_neg (fun z=>hx.2 z.symm)] at h1;exact(M.clo u q h1 v e hx.1).move M.lr M.lw h0 hk
  ·rcases M.pre x q (old x q h) with z|⟨y,q',z1,z2,z3⟩
   ·exact .inl z
   ·refine .inr ⟨y,q',z1,?_,z3⟩;rw [bx M.lr,if_neg (fun z=>by rw [←z,hk] at z2;cases z2)];exact z2
 ·rw [bx M.lr] at h;split at h
  ·cases h;exact Int.le_refl _
  ·exact M.mono x q k q0 h h0
theorem Jq{ks:Ks}{V:Vs}{k:List Int}{q:Int×PV}(h:aD ks V k=some q):bw (.dct ks (V.map val)) (ah k)=.ok (val q):=by
 show(Res.of (gK (ah k))).bind (fun k=>Res.of (aD ks (V.map val) k))=_
 rw [dz];show Res.of (aD ks (V.map val) k)=_
 rw [j1,h]
 rfl
theorem CQ{q:Int×PV}:bw (val q) (.int 0)=.ok (.int q.1):=id rfl
theorem vX{ks:Ks}{vs:List PV}{k:List Int}:gX (ah k) (.dct ks vs)=.ok (.bl (!bW ks k)):=by
 show(Res.of (gK (ah k))).bind (fun k=>Res.ok (PV.bl (!bW ks k)))=_
 rw [dz]
 rfl
theorem J6{ks:Ks}{vs:List PV}:cJ .len [.dct ks vs]=.ok (.int ks.length):=id rfl
noncomputable def wS:Ss:=(.cons (.set 8 (.bin .add (.sub (.sub (.tmp 2) (.var 5)) (.cst (.int 0))) (.var 7)))
 (.cons (.ite (.and (.cmp .nin (.var 6) (.tmp 2)) (.or (.cmp .nin (.var 6) (.tmp 3)) (.cmp .lt (.var 8) (.sub (.sub (.tmp 3) (.var 6)) (.cst (.int 0))))))
  (.cons (.put 3 (.var 6) (.tup (.cons (.var 8) (.cons (.var 5) .nil))))
  .nil)
  .nil)
 .nil))
noncomputable abbrev qP(gn:Str)(A B z:PV)(kr:Ks)(Vr:Vs)(kw:Ks)(Vw:Vs)(s4 s5 s6 s7 s8:Ci.Slot):Sl:=[.val z,.fn gn [1,2,1,0] [B,A],.own (.dct kr (Vr.map val)),.own (.dct kw (Vw.map val)),s4,s5,s6,s7,s8]
theorem uT(kw:Ks)(Vw:Vs)(v:List Int)(c:Int)(p:PV):bu kw (Vw.map val) v (.tup [.int c,p])=(bu kw Vw v (c,p)).map val:=m8 val kw Vw v (c,p)
theorem JO(F:ba){gn:Str}{A B z:PV}{E:List Int→List Int→Int→Prop}{O:List Int→Prop}{s:List Int}{kr:Ks}{Vr:Vs}{kw:Ks}{Vw:Vs}{X:List Int→List Int→Int→Prop}{n:Nat}{b:Int}(M:pI E O s kr Vr kw Vw X n b)(hn:n≤1000){u v:List Int}{d e:Int}{p0:PV}(hu:aD kr Vr u=some (d,p0))(hd:∀k q,aD kr Vr k=some q→q.1≤d)(he:E u v e)(h0:0<e)(hb:d+e≤b)(ho:O v)(s4 s6 s7 s8:Ci.Slot):
 ∃DN DW i9 Ex E8,(((Tg.two 6 7).put (tK (v,e)) (qP gn A B z kr Vr kw Vw s4 (.val (ah u)) s6 s7 s8)).bind fun aF=>ai F wS aF)=.ok (.nx (qP gn A B z kr Vr DN DW s4 (.val (ah u)) i9 Ex E8))∧pI E O s kr Vr DN DW (fun a b c=>X a b c∨a=u∧b=v∧c=e) (n+1) b:=by
 have e1:=Jq hu
 have l:kw.length<c8:=zzV (zzU M.cw hn) (by decide)
 have g1:=dg (vs:=Vr) v M.lr
 have g2:=dg (vs:=Vw) v M.lw
 cases hv:aD kr Vr v with
 |some q=>
  rw [hv] at g1;have AQ:bW kr v=true:=g1
  refine⟨kw,Vw,.val (ah v),.val (.int e),.val (.int (d+e)),by simp only [wS,qP,ag,aa,ae,ai,aN,ax,av,aV,aU,aw,az,ay,reduceIte,J,J2,e1,CQ,vX,AQ],M.keep (Nat.le_succ n) (Int.le_refl _) ?_⟩
  rintro a q' ha b c (hx|⟨rfl,rfl,rfl⟩)
  ·exact M.clo a q' ha b c hx
  ·rw [hu] at ha;cases ha;refine .inl ⟨q,hv,?_⟩;have:=hd _ q hv
   show q.1≤d+c
   omega
 |none=>
  rw [hv] at g1;have AQ:bW kr v=false:=g1
  cases hw:aD kw Vw v with
  |none=>
   rw [hw] at g2;have DE:bW kw v=false:=g2
   refine⟨_,_,.val (ah v),.val (.int e),.val (.int (d+e)),?_,M.put hu hd he h0 hb ho hv (fun q h=>by rw [hw] at h;cases h)⟩;simp only [wS,qP,ag,aa,ae,ai,aN,ax,av,aV,aU,aw,az,ay,reduceIte,J,J2,e1,CQ,vX,AQ,DE,dz,l,uT]
  |some q=>
   rw [hw] at g2;have DE:bW kw v=true:=g2
   have e2:=Jq hw
   by_cases bR:d+e<q.1
   ·refine⟨_,_,.val (ah v),.val (.int e),.val (.int (d+e)),?_,M.put hu hd he h0 hb ho hv (fun q' h=>by rw [hw] at h;cases h;omega)⟩;simp only [wS,qP,ag,aa,ae,ai,aN,ax,av,aV,aU,aw,az,ay,reduceIte,J,J2,e1,e2,CQ,vX,AQ,DE,bR,decide_true,dz,l,uT]
   ·refine⟨kw,Vw,.val (ah v),.val (.int e),.val (.int (d+e)),by simp only [wS,qP,ag,aa,ae,ai,aN,ax,av,aV,aU,aw,az,ay,reduceIte,J,J2,e1,e2,CQ,vX,AQ,DE,bR,decide_false],M.keep (Nat.le_succ n) (Int.le_refl _) ?_⟩
    rintro a q' ha b c (hx|⟨rfl,rfl,rfl⟩)
    ·exact M.clo a q' ha b c hx
    ·rw [hu] at ha;cases ha;exact .inr ⟨q,hw,by show q.1≤d+c;omega⟩
theorem DI(F:ba){gn:Str}{A B z:PV}{E:List Int→List Int→Int→Prop}{O:List Int→Prop}{s:List Int}{b:Int}(hE:∀u v e,E u v e→0<e∧e≤30∧O v){kr:Ks}{Vr:Vs}{u:List Int}{d:Int}{p0:PV}(hu:aD kr Vr u=some (d,p0))(hd:∀k q,aD kr Vr k=some q→q.1≤d)(Kl:d+30≤b)(s4:Ci.Slot):
 ∀(T:List (List Int×Int)) (kw:Ks) (Vw:Vs) (X:List Int→List Int→Int→Prop) (n:Nat) (s6 s7 s8:Ci.Slot),(∀t∈T,E u t.1 t.2)→pI E O s kr Vr kw Vw X n b→n+T.length≤1000→∃DN DW i9 Ex E8,forL (fun x env=>((Tg.two 6 7).put x env).bind fun aF=>ai F wS aF) (T.map tK) (qP gn A B z kr Vr kw Vw s4 (.val (ah u)) s6 s7 s8)=.ok (.nx (qP gn A B z kr Vr DN DW s4 (.val (ah u)) i9 Ex E8))∧pI E O s kr Vr DN DW (fun a b c=>X a b c∨a=u∧(b,c)∈T) (n+T.length) b
 |[],kw,Vw,X,n,s6,s7,s8,_,M,_=>⟨kw,Vw,s6,s7,s8,rfl,M.keep (zzE _) (Int.le_refl _) (fun a q ha b c hx=>M.clo a q ha b c (hx.resolve_right fun z=>by cases z.2))⟩
 |t::T,kw,Vw,X,n,s6,s7,s8,hT,M,hn=>by
  have ht:=hT t (zzP ..)
  rw [zzL] at hn;obtain⟨HI,Vw1,a6,a7,a8,e1,M1⟩:=JO F (gn:=gn) (A:=A) (B:=B) (z:=z) M (by omega) hu hd ht (hE _ _ _ ht).1 (by have:=(hE _ _ _ ht).2.1;omega) (hE _ _ _ ht).2.2 s4 s6 s7 s8
  obtain⟨kw2,Vw2,b6,b7,b8,e2,M2⟩:=DI F hE hu hd Kl s4 T HI Vw1 _ (n+1) a6 a7 a8 (fun x hx=>hT x (zzI _ hx)) M1 (by omega)
  refine⟨kw2,Vw2,b6,b7,b8,?_,M2.keep (by rw [zzL];omega) (Int.le_refl _) fun a q ha b c hx=>M2.clo a q ha b c ?_⟩
  ·rw [zzF,forL,e1,pf];exact e2
  ·rcases hx with hx|⟨h1,h2⟩
   ·exact .inl (.inl hx)
   ·rcases List.mem_cons.1 h2 with h2|h2
    ·exact .inl (.inr ⟨h1,by rw [←h2],by rw [←h2]⟩)
    ·exact .inr ⟨h1,h2⟩
def pJ(U kr:Ks):Nat:=(U.filter fun x=>!bW kr x).length
theorem jV{U kr:Ks}{k:List Int}(hk:k∈U)(hn:bW kr k=false):pJ U (aX kr k)<pJ U kr:=by
 have hh:∀x,bW (aX kr k) x=(bW kr x||decide (x=k)):=by
  intro x;rw [Bool.eq_iff_iff,Bool.or_eq_true,cL,cL,zzN];unfold aX;rw [hn];simp
 unfold pJ;simp only [hh]
 induction U with
 |nil=>cases hk
 |cons y U ih=>
  have mono:(U.filter fun x=>!(bW kr x||decide (x=k))).length≤(U.filter fun x=>!bW kr x).length:=by
   rw [←List.countP_eq_length_filter,←List.countP_eq_length_filter];refine List.countP_mono_left fun x _ h=>?_
   simp only [Bool.not_or,zza] at h;exact h.1
  rw [List.filter_cons,List.filter_cons]
  by_cases e:y=k
  ·subst e;simp only [hn,decide_true,Bool.or_true,Bool.not_true,zze,if_false,Bool.not_false,if_true,zzL];omega
  ·have:=ih ((List.mem_cons.1 hk).resolve_left fun z=>e z.symm)
   simp only [e,decide_false,Bool.or_false];cases bW kr y<;>simp only [Bool.not_true,Bool.not_false,zze,if_true,if_false,zzL]<;>omega
def wC:E:=.cmp .gt (.blt .len (.cons (.tmp 3) .nil)) (.cst (.int 0))
noncomputable def wB:Ss:=(.cons (.minK 5 3)
 (.cons (.putPop 2 3 5)
 (.cons (.for_ (.two 6 7) (.seq (.callv 1 (.cons (.var 5) .nil))) wS)
 .nil)))
theorem OT{a b c:PV}:fK [a,b,c] [2,1,0]=.ok [c,b,a]:=id rfl
theorem B8(F:ba){gn:Str}{A B z:PV}{E:List Int→List Int→Int→Prop}{O:List Int→Prop}{s:List Int}{U:Ks}(hU:∀u,O u→u∈U)(xC:U.length≤36)(hE:∀u v e,E u v e→0<e∧e≤30∧O v)(df:∀u,O u→∃T:List (List Int×Int),F gn [A,B,ah u]=.ok (.lst (T.map tK))∧T.length≤9∧∀v e,(v,e)∈T↔E u v e)
 {kr:Ks} {Vr:Vs} {kw:Ks} {Vw:Vs} (M:pI E O s kr Vr kw Vw E (1+9*kr.length) (30*kr.length)) (hc:kr.length+pJ U kr≤U.length) (gH:kw≠[]) (s4 s5 s6 s7 s8:Ci.Slot):
 ∃fg Il DN DW xI i9 Ex E8,ai F wB (qP gn A B z kr Vr kw Vw s4 s5 s6 s7 s8)=.ok (.nx (qP gn A B z fg Il DN DW s4 xI i9 Ex E8))∧pI E O s fg Il DN DW E (1+9*fg.length) (30*fg.length)∧fg.length+pJ U fg≤U.length∧pJ U fg<pJ U kr:=by
 obtain⟨k,q,h1,h2,h3⟩:=wJ M.lw M.nw gH
 obtain⟨M1,h4,h5⟩:=M.move h2 h3
 obtain⟨ho,_⟩:=M.ww k q h2
 have hk:bW kr k=false:=by
  rw [dg (vs:=Vr) k M.lr];cases h:aD kr Vr k with
  |none=>rfl
  |some q'=>exact(M.dis k q' q h h2).elim
 have hl:(aX kr k).length=kr.length+1:=by unfold aX;rw [hk];simp
 have bR:=jV (hU k ho) hk
 obtain⟨T,e1,hT,hT2⟩:=df k ho
 obtain⟨d,p0⟩:=q
 obtain⟨kw2,Vw2,b6,b7,b8,e2,M2⟩:=DI F (gn:=gn) (A:=A) (B:=B) (z:=z) (b:=30*kr.length+30) hE h4 h5 (by have:=(M.bd k (d,p0) (.inr h2)).2;show d+30≤_;omega) s4 T _ _ _ _ s6 s7 s8 (fun t ht=>(hT2 t.1 t.2).1 ht) (M1.keep (zzE _) (by omega) M1.clo) (by omega)
 refine⟨_,_,kw2,Vw2,.val (ah k),b6,b7,b8,?_,M2.keep (by omega) (by omega) (fun a q ha b c hx=>M2.clo a q ha b c ?_),by omega,bR⟩
 ·have l:kr.length<c8∧2≠3:=⟨zzV (m:=36) (by omega) (by decide),by decide⟩
  have gm:aD kw (Vw.map val) k=some (val (d,p0)):=by rw [j1,h2];rfl
  have gp:bu kr (Vr.map val) k (val (d,p0))=(bu kr Vr k (d,p0)).map val:=m8 val kr Vr k (d,p0)
  have hd:([1,2,1,0]:List Nat).head?=some 1:=rfl
  have ht:([1,2,1,0]:List Nat).tail=[2,1,0]:=rfl
  simp only [wS,qP,ag,aa,ae,ai,aN,ax,av,aV,aU,aw,az,ay,reduceIte,J,J2] at e2;simp only [wB,wS,qP,ag,aa,ae,ai,aN,ax,av,aV,aU,aw,az,ay,reduceIte,J,J2,nh,h1,dz,gm,l,and_self,lh,gp,hd,ht,OT,e1,e2,ne_eq,not_false_eq_true]
 ·by_cases e:a=k
  ·subst e;exact .inr ⟨rfl,(hT2 b c).2 hx⟩
  ·exact .inl ⟨hx,e⟩
theorem uR(F:ba){gn:Str}{A B z:PV}{E:List Int→List Int→Int→Prop}{O:List Int→Prop}{s:List Int}{U:Ks}(hU:∀u,O u→u∈U)(xC:U.length≤36)(hE:∀u v e,E u v e→0<e∧e≤30∧O v)(df:∀u,O u→∃T:List (List Int×Int),F gn [A,B,ah u]=.ok (.lst (T.map tK))∧T.length≤9∧∀v e,(v,e)∈T↔E u v e)(s4:Ci.Slot):
 ∀(n:Nat) (kr:Ks) (Vr:Vs) (kw:Ks) (Vw:Vs) (s5 s6 s7 s8:Ci.Slot),pI E O s kr Vr kw Vw E (1+9*kr.length) (30*kr.length)→kr.length+pJ U kr≤U.length→pJ U kr<n→∃fg Il Kk xI i9 Ex E8,cH (ax F wC) (ai F wB) n (qP gn A B z kr Vr kw Vw s4 s5 s6 s7 s8)=.ok (.nx [.val z,.fn gn [1,2,1,0] [B,A],.own (.dct fg (Il.map val)),Kk,s4,xI,i9,Ex,E8])∧fg.length≤36∧∃m,pI E O s fg Il [] [] E m 1080
 |0,_,_,_,_,_,_,_,_,_,_,h=>absurd h (Nat.not_lt_zero _)
 |n+1,kr,Vr,kw,Vw,s5,s6,s7,s8,M,hc,hn=>by
  have ec:ax F wC (qP gn A B z kr Vr kw Vw s4 s5 s6 s7 s8)=.ok (.bl (decide ((0:Int)<kw.length))):=by simp only [wC,qP,ag,aa,ae,ai,aN,ax,av,aV,aU,aw,az,ay,reduceIte,J,J2,J6]
  by_cases hk:kw=[]
  ·subst hk;have hv:Vw=[]:=List.eq_nil_of_length_eq_zero M.lw.symm
   subst hv;refine⟨kr,Vr,.own (.dct [] []),s5,s6,s7,s8,?_,by omega,_,M.keep (zzE _) (by omega) M.clo⟩;have:decide ((0:Int)<(([]:Ks).length:Nat))=false:=rfl
   rw [this] at ec;simp only [cH,ec,pf,KH,zze,if_false,qP]
   rfl
  ·obtain⟨kr1,Vr1,HI,Vw1,t5,t6,t7,t8,e1,M1,hc1,bR⟩:=B8 F (gn:=gn) (A:=A) (B:=B) (z:=z) hU xC hE df M hc hk s4 s5 s6 s7 s8
   obtain⟨kr2,Vr2,u3,u5,u6,u7,u8,e2,h2⟩:=uR F (gn:=gn) (A:=A) (B:=B) (z:=z) hU xC hE df s4 n kr1 Vr1 HI Vw1 t5 t6 t7 t8 M1 hc1 (by omega)
   refine⟨kr2,Vr2,u3,u5,u6,u7,u8,?_,h2⟩;have:decide ((0:Int)<(kw.length:Nat))=true:=by
    have:=List.length_pos_iff.2 hk
    simp;omega
   rw [this] at ec;simp only [cH,ec,pf,KH,if_true,e1,e2]
structure KZ(E:List Int→List Int→Int→Prop)(s:List Int)(kr:Ks)(Vr:Vs):Prop where
 len:kr.length=Vr.length
 le:kr.length≤36
 wlk:∀k q,aD kr Vr k=some q→k.length=2∧Ar E s k q.1
 clo:∀u q,aD kr Vr u=some q→∀v e,E u v e→∃q',aD kr Vr v=some q'∧q'.1≤q.1+e
 st:∃q,aD kr Vr s=some q∧q.1≤0
 pre:∀k q,aD kr Vr k=some q→q.2=.non∨∃y q',q.2=ah y∧aD kr Vr y=some q'∧q'.1<q.1
 bd:∀k q,aD kr Vr k=some q→0≤q.1∧q.1≤1080
 nr:kr.Nodup
noncomputable def Dr(gn:Str):Def:=⟨["starts","steps","reached","waiting","start","spot","other","cost","together"],2,(.cons (.dnew 2)
 (.cons (.dnew 3)
 (.cons (.for_ (.one 4) (.seq (.var 0))
  (.cons (.put 3 (.var 4) (.tup (.cons (.cst (.int 0)) (.cons (.cst .non) .nil))))
  .nil))
 (.cons (.whl (.cmp .gt (.blt .len (.cons (.tmp 3) .nil)) (.cst (.int 0)))
  (.cons (.minK 5 3)
  (.cons (.putPop 2 3 5)
  (.cons (.for_ (.two 6 7) (.seq (.callv 1 (.cons (.var 5) .nil)))
   (.cons (.set 8 (.bin .add (.sub (.sub (.tmp 2) (.var 5)) (.cst (.int 0))) (.var 7)))
   (.cons (.ite (.and (.cmp .nin (.var 6) (.tmp 2)) (.or (.cmp .nin (.var 6) (.tmp 3)) (.cmp .lt (.var 8) (.sub (.sub (.tmp 3) (.var 6)) (.cst (.int 0))))))
    (.cons (.put 3 (.var 6) (.tup (.cons (.var 8) (.cons (.var 5) .nil))))
    .nil)
    .nil)
   .nil)))
  .nil))))
 (.cons (.frz 2)
 (.cons (.ret (.var 2))
 .nil)))))),some (gn,[1,2,1,0])⟩
theorem v5(F:ba)(gn:Str){A B:PV}{E:List Int→List Int→Int→Prop}{O:List Int→Prop}{s:List Int}{U:Ks}(hU:∀u,O u→u∈U)(xC:U.length≤36)(h2:∀u,O u→u.length=2)(hE:∀u v e,E u v e→0<e∧e≤30∧O v)(df:∀u,O u→∃T:List (List Int×Int),F gn [A,B,ah u]=.ok (.lst (T.map tK))∧T.length≤9∧∀v e,(v,e)∈T↔E u v e)(hs:O s):
 ∃kr Vr,ag F (Dr gn) [.lst [ah s],B,A]=.ok (.dct kr (Vr.map val))∧KZ E s kr Vr:=by
 have g:∀x q,aD [s] [((0:Int),PV.non)] x=some q→s=x∧q=(0,.non):=fun x q h=>by
  simp only [aD] at h;split at h
  ·rename_i z;cases h;exact⟨z,rfl⟩
  ·cases h
 have M:pI E O s [] [] [s] [(0,.non)] E (1+9*([]:Ks).length) (30*(([]:Ks).length:Nat)):=⟨rfl,rfl,by simp,(fun k q q' h=>by simp [aD] at h),(fun k q h=>by simp [aD] at h),(fun k q h=>by obtain⟨rfl,rfl⟩:=g k q h;exact⟨hs,.here⟩),(fun k q k' q' h=>by simp [aD] at h),(fun u q h=>by simp [aD] at h),.inr ⟨(0,.non),by simp [aD],Int.le_refl _⟩,by simp,(fun k q h=>h.elim (fun h=>by simp [aD] at h) fun h=>by obtain⟨_,rfl⟩:=g k q h;exact .inl rfl),(fun k q h=>h.elim (fun h=>by simp [aD] at h) fun h=>by obtain⟨_,rfl⟩:=g k q h;exact⟨Int.le_refl _,Int.le_refl _⟩),List.nodup_nil⟩
 have hl:pJ U []≤U.length:=List.length_filter_le ..
 obtain⟨kr,Vr,u3,u5,u6,u7,u8,e,h3,m,M'⟩:=uR F (gn:=gn) (A:=A) (B:=B) (z:=.lst [ah s]) hU xC hE df (.val (ah s)) WN [] [] [s] [(0,.non)] .no .no .no .no M (by simpa using hl) (zzV (zzU hl xC) (by decide))
 refine⟨kr,Vr,?_,M'.lr,h3,fun k q h=>⟨h2 k (M'.wr k q h).1,(M'.wr k q h).2⟩,fun u q h v c hx=>?_,?_,?_,?_,?_⟩
 ·have l:(0:Nat)<c8:=by decide
  have p1:aX [] s=[s]:=rfl
  have p2:∀p:PV,bu ([]:Ks) [] s p=[p]:=fun p=>rfl
  have a2:List.take 1 [PV.lst [ah s],B,A]=[.lst [ah s]]:=rfl
  have a3:List.drop 1 [PV.lst [ah s],B,A]=[B,A]:=rfl
  simp only [wC,wB,wS,qP,ag,aa,ae,ai,aN,ax,av,aV,aU,aw,az,ay,reduceIte,J,J2] at e;simp only [Dr,ag,aa,ae,ai,aN,ax,av,aV,aU,aw,az,ay,reduceIte,J,J2,a2,a3,forL,dz,l,p1,p2,e,DJ];exact if_pos rfl
 ·rcases M'.clo u q h v c hx with h|⟨q',h,_⟩
  ·exact h
  ·simp [aD] at h
 ·rcases M'.st with h|⟨q',h,_⟩
  ·exact h
  ·simp [aD] at h
 ·exact fun k q h=>M'.pre k q (.inl h)
 ·exact fun k q h=>M'.bd k q (.inl h)
 ·exact M'.nr
end K32
namespace L2
open PySem PySem.Spec PyProof.Rows PySem.W
theorem run_bind{α β:Type}(lt:Nat→Nat→Bool)(f:α→KasT β):∀t:KasT α,aM lt (t.bind f)=aM lt (f (aM lt t))
 |.ret a=>rfl
 |.ask i j k=>run_bind lt f (k (lt i j))
structure Lo(n:Nat)(lt:Nat→Nat→Bool):Prop where
 t:∀a b,a<n→b<n→a≠b→lt a b=true∨lt b a=true
 a:∀a b,lt a b=true→lt b a=false
 r:∀a b c,lt a b=true→lt b c=true→lt a c=true
abbrev gp(p:Array Nat)(i:Nat):Nat:=p.getD i 0
def Sg(lt:Nat→Nat→Bool)(p:Array Nat)(r:Nat):Prop:=∀i j,i<j→j<r→lt (gp p i) (gp p j)=true
section
variable{n:Nat}{lt:Nat→Nat→Bool}
theorem Pm.size{p:Array Nat}(h:Pm n p):p.size=n:=by
 have:=h.length_eq
 simpa using this
theorem Pm.ne{p:Array Nat}(h:Pm n p){i j:Nat}(hi:i<n)(hj:j<n)(hn:i≠j):gp p i≠gp p j:=by
 have nd:p.toList.Nodup:=h.nodup_iff.2 List.nodup_range
 have sz:=h.size
 intro e;rw [gp,gp,Array.getD_eq_getD_getElem?,Array.getD_eq_getD_getElem?,Array.getElem?_eq_getElem (by omega),Array.getElem?_eq_getElem (by omega)] at e;simp only [Option.getD_some] at e;have:=(List.getElem_inj nd (h₀:=by simpa [sz] using hi) (h₁:=by simpa [sz] using hj)).1 (by simpa using e)
 exact hn this
theorem Pm.or{p:Array Nat}(L:Lo n lt)(h:Pm n p){i j:Nat}(hi:i<n)(hj:j<n)(hn:i≠j)(f:lt (gp p i) (gp p j)=false):lt (gp p j) (gp p i)=true:=
 (L.t _ _ (h.lt (by omega) i) (h.lt (by omega) j) (h.ne hi hj hn)).resolve_left (by rw [f];exact zzf)
theorem Sg.one(p:Array Nat):Sg lt p 1:=fun i j h1 h2=>by omega
theorem Sg.snoc(L:Lo n lt){p:Array Nat}{m:Nat}(h1:1≤m)(h:Sg lt p m)(e:lt (gp p (m-1)) (gp p m)=true):Sg lt p (m+1):=fun i j w8 hj=>by
 by_cases hm:j=m
 ·subst hm
  by_cases hi:i=j-1
  ·subst hi;exact e
  ·exact L.r _ _ _ (h i (j-1) (by omega) (by omega)) e
 ·exact h i j w8 (by omega)
theorem nV(L:Lo n lt){p:Array Nat}(P:Pm n p):∀f m,1≤m→m+f≤n→Sg lt p m→m≤aM lt (kas_asc p f m)∧aM lt (kas_asc p f m)≤m+f∧Sg lt p (aM lt (kas_asc p f m))∧(aM lt (kas_asc p f m)<m+f→lt (gp p (aM lt (kas_asc p f m))) (gp p (aM lt (kas_asc p f m)-1))=true)
 |0,m,h1,h2,h3=>⟨zzE _,zzE _,h3,fun z=>absurd z (Nat.lt_irrefl _)⟩
 |f+1,m,h1,h2,h3=>by
  unfold kas_asc;simp only [aM];cases e:lt (gp p m) (gp p (m-1)) with
  |true=>rw [if_pos rfl];exact⟨zzE _,Nat.le_add_right _ _,h3,fun _=>e⟩
  |false=>
   rw [if_neg zzf];have e2:=P.or L (by omega) (by omega) (by omega) e
   obtain⟨a,b,c,d⟩:=nV L P f (m+1) (by omega) (by omega) (h3.snoc L h1 e2)
   exact⟨by omega,by omega,c,fun z=>d (by omega)⟩
def Dg(lt:Nat→Nat→Bool)(p:Array Nat)(r:Nat):Prop:=∀i j,i<j→j<r→lt (gp p j) (gp p i)=true
theorem p8(L:Lo n lt){p:Array Nat}(P:Pm n p):∀f m,1≤m→m+f≤n→Dg lt p m→∃m',aM lt (kas_desc f p m 0)=(p,m',0)∧m≤m'∧m'≤m+f∧Dg lt p m'
 |0,m,h1,h2,h3=>⟨m,rfl,zzE _,zzE _,h3⟩
 |f+1,m,h1,h2,h3=>by
  unfold kas_desc;simp only [aM];cases e:lt (gp p m) (gp p (m-1)) with
  |true=>
   rw [if_pos rfl,if_neg (Nat.lt_irrefl 0)];obtain⟨m',a,b,c,d⟩:=p8 L P f (m+1) (by omega) (by omega) (fun i j w8 hj=>by
    by_cases hm:j=m
    ·subst hm
     by_cases hi:i=j-1
     ·subst hi;exact e
     ·exact L.r _ _ _ e (h3 i (j-1) (by omega) (by omega))
    ·exact h3 i j w8 (by omega))
   exact⟨m',a,by omega,by omega,d⟩
  |false=>
   have e2:=P.or L (by omega) (by omega) (by omega) e
   rw [if_neg zzf];simp only [aM];rw [show lt (p.getD (m-1) 0) (p.getD m 0)=true from e2,if_pos rfl];exact⟨m,rfl,zzE _,by omega,h3⟩
theorem uP{p:Array Nat}{m:Nat}(h:m≤p.size)(k:Nat):gp (kas_rev p 0 m) k=if k<m then gp p (m-1-k) else gp p k:=by
 unfold kas_rev gp;rw [Array.getD_eq_getD_getElem?,getElem?_mirror_all h];simp only [Nat.zero_le,true_and,Nat.zero_add];split<;>rw [Array.getD_eq_getD_getElem?]
theorem Dg.rev{p:Array Nat}{m:Nat}(h:m≤p.size)(d:Dg lt p m):Sg lt (kas_rev p 0 m) m:=fun i j w8 hj=>by
 rw [uP h,uP h,if_pos (by omega),if_pos hj];exact d _ _ (by omega) (by omega)
theorem vy(L:Lo n lt)(h0:0<n){p:Array Nat}(P:Pm n p):Sg lt (aM lt (kas_count n p)).2 (aM lt (kas_count n p)).1∧Pm n (aM lt (kas_count n p)).2∧1≤(aM lt (kas_count n p)).1∧(aM lt (kas_count n p)).1≤n:=by
 unfold kas_count;rw [run_bind];obtain⟨a,b,c,d⟩:=nV L P (n-1) 1 (zzE _) (by omega) (Sg.one p)
 generalize aM lt (kas_asc p (n-1) 1)=m at a b c d
 split
 ·exact⟨c,P,a,by show m≤n;omega⟩
 ·rename_i hm;have kQ:m≠n:=fun z=>hm (by rw [z];exact beq_self_eq_true n)
  split
  ·rename_i h1;simp only [aM];rw [show lt (p.getD 0 0) (p.getD (m-1) 0)=true from c 0 (m-1) (by omega) (by omega),if_pos rfl];exact⟨c,P,a,by show m≤n;omega⟩
  ·have xn:m=1:=by omega
   subst xn;have e:=d (by omega)
   unfold kas_descPart;rw [run_bind];obtain⟨m',r,r1,r2,r3⟩:=p8 L P (n-(1+1)) (1+1) (by omega) (by omega) (fun i j w8 hj=>by
    have OQ:i=0:=by omega
    have PC:j=1:=by omega
    subst OQ;subst PC;exact e)
   rw [r];dsimp only;rw [if_neg (Nat.lt_irrefl 0)];unfold kas_tail3;rw [run_bind];have P':=P.rev 0 m'
   obtain⟨a',b',c',_⟩:=nV L P' (n-m') m' (by omega) (by omega) (r3.rev (by rw [P.size];omega))
   simp only [aM];exact⟨c',P',by omega,by omega⟩
theorem iL(L:Lo n lt){p:Array Nat}(P:Pm n p){k:Nat}(hk:k<n)(S:Sg lt p k):∀f l r,r-l≤f→l≤r→r≤k→(∀i,i<l→lt (gp p i) (gp p k)=true)→(∀i,r≤i→i<k→lt (gp p k) (gp p i)=true)→
 aM lt (kas_place p k f l r)≤k∧(∀i,i<aM lt (kas_place p k f l r)→lt (gp p i) (gp p k)=true)∧∀i,aM lt (kas_place p k f l r)≤i→i<k→lt (gp p k) (gp p i)=true
 |0,l,r,h1,h2,h3,h4,h5=>by
  have hl:l=r:=by omega
  subst hl;exact⟨h3,h4,h5⟩
 |f+1,l,r,h1,h2,h3,h4,h5=>by
  unfold kas_place;split
  ·have hl:l=r:=by omega
   subst hl;exact⟨h3,h4,h5⟩
  ·simp only [aM];have bR:l<r:=by omega
   have m1:l≤(l+r)/2:=by omega
   have m2:(l+r)/2<r:=by omega
   generalize hm:(l+r)/2=m at m1 m2
   cases e:lt (gp p k) (gp p m) with
   |true=>
    rw [if_pos rfl];refine iL L P hk S f l m (by omega) m1 (by omega) h4 fun i hi PL=>?_
    by_cases z:i=m
    ·subst z;exact e
    ·exact L.r _ _ _ e (S m i (by omega) PL)
   |false=>
    rw [if_neg zzf];have e2:=P.or L hk (by omega) (by omega) e
    refine iL L P hk S f (m+1) r (by omega) (by omega) h3 (fun i hi=>?_) h5
    by_cases z:i=m
    ·subst z;exact e2
    ·exact L.r _ _ _ (S i m (by omega) (by omega)) e2
theorem uw{p:Array Nat}{k x:Nat}(hk:k<p.size)(hx:x≤k)(i:Nat):gp (bubble p k (k-x)) i=if i=x then gp p k else if x<i∧i≤k then gp p (i-1) else gp p i:=by
 have g:∀(q:Array Nat) j,gp q j=(q[j]?).getD 0:=fun q j=>Array.getD_eq_getD_getElem? ..
 rw [g,g,g,g,getElem?_bubble hk (k-x) (by omega),show k-(k-x)=x by omega];split
 ·rfl
 ·split<;>rfl
theorem tZ(L:Lo n lt):∀f (p:Array Nat) k,k+f=n→Pm n p→Sg lt p k→Sg lt (aM lt (kas_bin f p k)) n
 |0,p,k,h,P,S=>by
  have:k=n:=by omega
  subst this;exact S
 |f+1,p,k,h,P,S=>by
  unfold kas_bin;rw [run_bind];obtain⟨a,b,c⟩:=iL L P (k:=k) (by omega) S k 0 k (by omega) (Nat.zero_le _) (zzE _) (fun i hi=>absurd hi (Nat.not_lt_zero _)) (fun i h1 h2=>by omega)
  generalize aM lt (kas_place p k k 0 k)=x at a b c
  refine tZ L f _ (k+1) (by omega) (P.bub _ _) fun i j w8 hj=>?_
  have hs:k<p.size:=by rw [P.size];omega
  rw [uw hs a,uw hs a]
  by_cases hi:i=x
  ·rw [if_pos hi,if_neg (by omega),if_pos (by omega)];exact c _ (by omega) (by omega)
  ·rw [if_neg hi]
   by_cases BB:j=x
   ·rw [if_pos BB,if_neg (by omega)];exact b _ (by omega)
   ·rw [if_neg BB]
    by_cases i2:x<i∧i≤k
    ·rw [if_pos i2,if_pos (by omega)];exact S _ _ (by omega) (by omega)
    ·rw [if_neg i2]
     by_cases j2:x<j∧j≤k
     ·rw [if_pos j2]
      by_cases z:i=j-1
      ·omega
      ·exact S _ _ (by omega) (by omega)
     ·rw [if_neg j2];exact S _ _ w8 (by omega)
theorem lY(L:Lo n lt)(h0:0<n):(iO n lt).Pairwise fun a b=>lt a b=true:=by
 have key:Sg lt (aM lt (kas_sort n)) n:=by
  unfold kas_sort;rw [run_bind];obtain⟨a,b,c,d⟩:=vy L h0 (p:=(List.range n).toArray) (List.Perm.refl _)
  generalize aM lt (kas_count n (List.range n).toArray)=r at a b c d
  split
  ·rw [Nat.max_eq_left c];exact tZ L _ _ _ (by omega) b a
  ·have:r.1=n:=by omega
   rw [this] at a;exact a
 have P:Pm n (aM lt (kas_sort n)):=fO h0 lt
 have sz:=P.size
 rw [List.pairwise_iff_getElem];intro i j hi hj w8;have BB:j<(aM lt (kas_sort n)).size:=by simpa [iO] using hj
 have:=key i j w8 (by omega)
 simpa [gp,iO,Array.getD_eq_getD_getElem?,Array.getElem?_eq_getElem BB,Array.getElem?_eq_getElem (Nat.lt_trans w8 BB)] using this
end
end L2
namespace K32
open PySem L2 Ci KJ
theorem qV:∀{a b c:List Int},HT.lexLt a b=true→HT.lexLt b c=true→HT.lexLt a c=true
 |[],[],_,h,_=>by cases h
 |[],_::_,[],_,h=>by cases h
 |[],_::_,_::_,_,_=>rfl
 |_::_,[],_,h,_=>by cases h
 |_::_,_::_,[],_,h=>by cases h
 |x::a,y::b,z::c,h,k=>by
  simp only [HT.lexLt] at h k⊢;split at h
  ·subst x;split at k
   ·subst y;rw [if_pos rfl];exact qV h k
   ·rw [if_neg ‹_›];exact k
  ·have h:=zzY h
   split at k
   ·subst y;rw [if_neg ‹_›];exact zzh h
   ·have k:=zzY k
    rw [if_neg (by omega)];exact zzh (by omega)
theorem f7:∀{a b:List Int},HT.lexLt a b=true→HT.lexLt b a=false
 |[],[],h=>by cases h
 |[],_::_,_=>rfl
 |_::_,[],h=>by cases h
 |x::a,y::b,h=>by
  simp only [HT.lexLt] at h⊢;split at h
  ·subst x;rw [if_pos rfl];exact f7 h
  ·have h:=zzY h
   rw [if_neg (by omega)];exact decide_eq_false (by omega)
theorem zL:∀{a b:List Int},a≠b→HT.lexLt a b=true∨HT.lexLt b a=true
 |[],[],h=>absurd rfl h
 |[],_::_,_=>.inl rfl
 |_::_,[],_=>.inr rfl
 |x::a,y::b,h=>by
  simp only [HT.lexLt]
  by_cases e:x=y
  ·subst x;rw [if_pos rfl,if_pos rfl];exact zL fun z=>h (by rw [z])
  ·rw [if_neg e,if_neg (fun z=>e z.symm)]
   by_cases l:x<y
   ·exact .inl (zzh l)
   ·exact .inr (zzh (by omega))
theorem jZ(a:List Int):HT.lexLt a a=false:=by
 cases h:HT.lexLt a a with
 |false=>rfl
 |true=>have:=f7 h;rw [h] at this;exact this
abbrev ic(L:Ks):Prop:=L.Pairwise fun a b=>HT.lexLt a b=true
theorem ic.nodup{L:Ks}(h:ic L):L.Nodup:=h.imp fun{a b} e z=>by rw [z,jZ] at e;cases e
theorem eW:∀{L M:Ks},ic L→ic M→(∀x,x∈L↔x∈M)→L=M
 |[],[],_,_,_=>rfl
 |[],y::M,_,_,h=>absurd ((h y).2 (zzP ..)) (by simp)
 |x::L,[],_,_,h=>absurd ((h x).1 (zzP ..)) (by simp)
 |x::L,y::M,hL,hM,h=>by
  have pL:=List.pairwise_cons.1 hL
  have pM:=List.pairwise_cons.1 hM
  have e:x=y:=by
   rcases List.mem_cons.1 ((h x).1 (zzP ..)) with z|z
   ·exact z
   ·rcases List.mem_cons.1 ((h y).2 (zzP ..)) with w|w
    ·exact w.symm
    ·have:=f7 (pM.1 x z)
     rw [pL.1 y w] at this;cases this
  subst e;rw [eW pL.2 pM.2 fun z=>?_]
  constructor
  ·intro hz;rcases List.mem_cons.1 ((h z).1 (zzI _ hz)) with w|w
   ·subst w;have:=pL.1 z hz;rw [jZ] at this;cases this
   ·exact w
  ·intro hz;rcases List.mem_cons.1 ((h z).2 (zzI _ hz)) with w|w
   ·subst w;have:=pM.1 z hz;rw [jZ] at this;cases this
   ·exact w
theorem jm:∀{L M:Ks},ic L→ic M→(∀x,x∈L→x∈M)→L.length≤M.length
 |[],_,_,_,_=>Nat.zero_le _
 |x::L,M,hL,hM,h=>by
  have pL:=List.pairwise_cons.1 hL
  obtain⟨A,B,rfl⟩:=List.append_of_mem (h x (zzP ..))
  have pM:=List.pairwise_append.1 hM
  have:=jm (M:=B) pL.2 (List.pairwise_cons.1 pM.2.1).2 fun z hz=>by
   rcases List.mem_append.1 (h z (zzI _ hz)) with w|w
   ·have a:=pM.2.2 z w x (zzP ..)
    rw [f7 (pL.1 z hz)] at a;cases a
   ·rcases List.mem_cons.1 w with w|w
    ·have a:=pL.1 z hz;rw [w,jZ] at a;cases a
    ·exact w
  simp only [zzL,zzM];omega
theorem range_getD{α:Type}(d:α)(l:List α):(List.range l.length).map (fun i=>l.getD i d)=l:=by
 refine List.ext_getElem (by simp) fun i h1 h2=>?_
 simp [zzK,zzg h2]
theorem oM{α:Type}(d:α)(f:α→PV)(g:α→List Int){l:List α}(nd:(l.map g).Nodup):gR PV.non (l.map f) (l.map g)=(gR d l (l.map g)).map f∧(gR d l (l.map g)).Perm l∧ic ((gR d l (l.map g)).map g):=by
 by_cases h:l.length<2
 ·unfold gR;rw [if_pos h,if_pos (by simpa using h)];refine⟨rfl,.refl _,?_⟩
  match l,h with
  |[],_=>exact .nil
  |[a],_=>exact List.pairwise_singleton ..
  |_::_::_,h=>simp only [zzL] at h;omega
 ·have gl:∀i,i<l.length→(l.map g).getD i []=g (l.getD i d):=fun i hi=>by simp [zzK,zzg hi]
  have P:=fO (n:=l.length) (by omega) fun i j=>HT.lexLt ((l.map g).getD i []) ((l.map g).getD j [])
  have U:=lY (n:=l.length) (lt:=fun i j=>HT.lexLt ((l.map g).getD i []) ((l.map g).getD j [])) ⟨fun a b ha hb hn=>zL fun z=>hn (by
   have ha:a<(l.map g).length:=by simpa using ha
   have hb:b<(l.map g).length:=by simpa using hb
   simp only [zzK,zzg ha,zzg hb,Option.getD_some] at z;exact(List.getElem_inj nd).1 z),fun a b=>f7,fun a b c=>qV⟩ (by omega)
  unfold gR;rw [if_neg h,if_neg (by simpa using h),zzl,List.map_map];refine⟨List.map_congr_left fun i hi=>?_,?_,List.pairwise_map.2 (List.pairwise_map.2 (List.Pairwise.imp_of_mem (fun{a b} ha hb e=>?_) U))⟩
  ·have hl:i<l.length:=List.mem_range.1 (P.mem_iff.1 hi)
   simp [zzK,zzg hl]
  ·have Q:=P.map fun i=>l.getD i d
   rw [range_getD] at Q;exact Q
  ·rw [gl a (List.mem_range.1 (P.mem_iff.1 ha)),gl b (List.mem_range.1 (P.mem_iff.1 hb))] at e;exact e
theorem zA{ks:Ks}(nd:ks.Nodup):∃S:Ks,gR PV.non (ks.map ah) ks=S.map ah∧S.length=ks.length∧(∀k,k∈S↔k∈ks)∧ic S:=by
 obtain⟨e,P,s⟩:=oM ([]:List Int) ah id (l:=ks) (by rwa [List.map_id])
 simp only [List.map_id] at e s P;exact⟨_,e,P.length_eq,fun k=>P.mem_iff,s⟩
theorem fZ:∀L:Ks,hW (L.map ah)=some L
 |[]=>rfl
 |k::L=>by simp only [zzF,hW,dz,fZ L,Option.bind_some,Option.map_some]
theorem vW{L:Ks}(nd:L.Nodup)(hl:L.length<64)(h2:∀k∈L,k≠[]):∃S:Ks,cJ .sorted [.lst (L.map ah)]=.ok (.lst (S.map ah))∧(∀k,k∈S↔k∈L)∧ic S:=by
 obtain⟨S,e,_,hm,hs⟩:=zA nd
 refine⟨S,?_,hm,hs⟩;show(Res.of (hW (L.map ah))).bind (fun nss=>if(decide ((L.map ah).length<64)&&nss.all (fun k=>!k.isEmpty))=true then Res.ok (PV.lst (gR .non (L.map ah) nss)) else .bad)=_
 rw [fZ];show(if(decide ((L.map ah).length<64)&&L.all (fun k=>!k.isEmpty))=true then Res.ok (PV.lst (gR .non (L.map ah) L)) else .bad)=_
 rw [if_pos,e];rw [zza,zzl];refine⟨zzh hl,zzT.2 fun k hk=>?_⟩
 have:=h2 k hk
 cases k with
 |nil=>exact absurd rfl this
 |cons a b=>rfl
theorem sI{ks:Ks}{vs:List PV}(nd:ks.Nodup)(hl:ks.length<64)(h2:∀k∈ks,k≠[]):∃S:Ks,cJ .sorted [.dct ks vs]=.ok (.lst (S.map ah))∧(∀k,k∈S↔k∈ks)∧ic S:=by
 obtain⟨S,e,_,hm,hs⟩:=zA nd
 refine⟨S,?_,hm,hs⟩;show(if(decide (ks.length<64)&&ks.all fun k=>!k.isEmpty)=true then Res.ok (PV.lst (gR .non (ks.map ah) ks)) else .bad)=_
 rw [if_pos,e];rw [zza];refine⟨zzh hl,zzT.2 fun k hk=>?_⟩
 have:=h2 k hk
 cases k with
 |nil=>exact absurd rfl this
 |cons a b=>rfl
theorem uE:∀(n:Nat) (a b:List Int),eqs (ip n) (a.map .int) (b.map .int)=decide (a=b)
 |_,[],[]=>rfl
 |_,[],_::_=>rfl
 |_,_::_,[]=>rfl
 |n,x::a,y::b=>by
  have:ip n (.int x) (.int y)=(x==y):=by cases n<;>rfl
  simp only [zzF,eqs,uE n a b,this];rw [Bool.eq_iff_iff];simp
theorem pE(n:Nat)(a b:List Int):ip (n+1) (ah a) (ah b)=decide (a=b):=uE n a b
theorem il:∀(n:Nat) (a b:Ks),eqs (ip (n+1)) (a.map ah) (b.map ah)=decide (a=b)
 |_,[],[]=>rfl
 |_,[],_::_=>rfl
 |_,_::_,[]=>rfl
 |n,x::a,y::b=>by
  simp only [zzF,eqs,il n a b,pE];rw [Bool.eq_iff_iff];simp
theorem Dc(n:Nat)(a:List Int):(a.map PV.int).all (Ci.plain n)=true:=by
 simp only [zzT,List.mem_map]
 rintro x ⟨i,_,rfl⟩
 cases n<;>rfl
theorem nJ(n:Nat)(a:List Int):Ci.plain (n+1) (ah a)=true:=Dc n a
theorem uH(n:Nat)(a:Ks):(a.map ah).all (Ci.plain (n+1))=true:=by
 simp only [zzT,List.mem_map]
 rintro x ⟨i,_,rfl⟩
 exact nJ n i
theorem hZ(n:Nat)(a:Ks):Ci.plain (n+2) (.lst (a.map ah))=true:=uH n a
theorem OF(a b:Ks):gq (.lst (a.map ah)) (.lst (b.map ah))=.ok (.bl (decide (a=b))):=by
 show(if(Ci.plain 9 (.lst (a.map ah))&&Ci.plain 9 (.lst (b.map ah)))=true then Res.ok (PV.bl (ip 9 (.lst (a.map ah)) (.lst (b.map ah)))) else .bad)=_
 rw [hZ 7,hZ 7];exact congrArg (fun z=>Res.ok (PV.bl z)) (il 7 a b)
theorem KI(a b:Ks):gP (.lst (a.map ah)) (.lst (b.map ah))=.ok (.bl (!decide (a=b))):=by
 show(if(Ci.plain 9 (.lst (a.map ah))&&Ci.plain 9 (.lst (b.map ah)))=true then Res.ok (PV.bl (!ip 9 (.lst (a.map ah)) (.lst (b.map ah)))) else .bad)=_
 rw [hZ 7,hZ 7];exact congrArg (fun z=>Res.ok (PV.bl (!z))) (il 7 a b)
theorem mem_keys(k:List Int)(L:Ks):AM (ah k) (L.map ah)=decide (k∈L):=by
 unfold AM;rw [List.any_map,Bool.eq_iff_iff,zzj,zzN]
 constructor
 ·rintro ⟨x,hx,e⟩
  have:decide (x=k)=true:=(pE 8 x k).symm.trans e
  exact zzY this▸hx
 ·intro h;exact⟨k,h,(pE 8 k k).trans (zzh rfl)⟩
theorem OZ(k:List Int)(L:Ks):pz (ah k) (.tup (L.map ah))=.ok (.bl (decide (k∈L))):=by
 show(if(Ci.plain 9 (ah k)&&(L.map ah).all (Ci.plain 9))=true then Res.ok (PV.bl (AM (ah k) (L.map ah))) else .bad)=_
 rw [nJ 8,uH 8,mem_keys]
 rfl
def RR(E:List Int→List Int→Int→Prop)(u v:List Int):Prop:=∃c,Ar E u v c
theorem wo{E:List Int→List Int→Int→Prop}{s u v:List Int}{c d:Int}(h:Ar E s u c)(k:Ar E u v d):∃x,Ar E s v x:=by
 induction k with
 |here=>exact⟨_,h⟩
 |go _ he ih=>obtain⟨x,hx⟩:=ih;exact⟨_,.go hx he⟩
theorem eU(E:List Int→List Int→Int→Prop)(u:List Int):RR E u u:=⟨0,.here⟩
theorem RR.trans{E:List Int→List Int→Int→Prop}{u v w:List Int}(h:RR E u v)(k:RR E v w):RR E u w:=by
 obtain⟨c,h⟩:=h
 obtain⟨d,k⟩:=k
 exact wo h k
theorem RR.of{E E':List Int→List Int→Int→Prop}(hE:∀u v e,E u v e→∃e',E' u v e'){u v:List Int}(h:RR E u v):RR E' u v:=by
 obtain⟨c,h⟩:=h
 induction h with
 |here=>exact eU ..
 |go _ he ih=>obtain⟨x,hx⟩:=ih;obtain⟨e',h'⟩:=hE _ _ _ he;exact⟨_,.go hx h'⟩
theorem RR.symm{E:List Int→List Int→Int→Prop}(hE:∀u v e,E u v e→∃e',E v u e'){u v:List Int}(h:RR E u v):RR E v u:=by
 obtain⟨c,h⟩:=h
 induction h with
 |here=>exact eU ..
 |go _ he ih=>obtain⟨e',h'⟩:=hE _ _ _ he;exact RR.trans ⟨_,.go .here h'⟩ ih
theorem A2{E:List Int→List Int→Int→Prop}{s:List Int}{kr:Ks}{Vr:Vs}(R:KZ E s kr Vr){k:List Int}:k∈kr↔RR E s k:=by
 rw [←cL,dg k R.len]
 constructor
 ·intro h;obtain⟨q,hq⟩:=Option.isSome_iff_exists.1 h
  exact⟨_,(R.wlk k q hq).2⟩
 ·rintro ⟨c,h⟩
  induction h with
  |here=>obtain⟨q,hq,_⟩:=R.st;rw [hq];rfl
  |go _ he ih=>
   obtain⟨q,hq⟩:=Option.isSome_iff_exists.1 ih
   obtain⟨q',hq',_⟩:=R.clo _ q hq _ _ he
   rw [hq'];rfl
def dy(rows:List Str)(u:List Int):Prop:=∃r c,u=[r,c]∧cM rows r c=true
def uk:Ks:=(List.range 6).flatMap fun(r:Nat)=>(List.range 6).map fun(c:Nat)=>[(r:Int),(c:Int)]
theorem js:uk.length=36:=by decide
theorem Ib{rows:List Str}{w:Nat}(L:Fl rows w){u:List Int}(h:dy rows u):u∈uk:=by
 obtain⟨r,c,rfl,h⟩:=h
 obtain⟨a,b,d,e⟩:=D4 L h
 refine List.mem_flatMap.2 ⟨r.toNat,List.mem_range.2 (by omega),List.mem_map.2 ⟨c.toNat,List.mem_range.2 (by omega),?_⟩⟩;rw [Int.toNat_of_nonneg a,Int.toNat_of_nonneg d]
theorem dM{rows:List Str}{sl:Bool}{cl pr r c r' c' e:Int}:dm rows sl cl pr r c r' c'=some e↔¬far r c r' c'∧(r≠r'∧c≠c'→sl=true∧cM rows r c'=true∧cM rows r' c=true)∧cV rows r' c'-cV rows r c≤cl∧cV rows r c-cV rows r' c'≤cl∧e=(if r≠r'∧c≠c' then 3 else 2)+pr*(if cV rows r' c'-cV rows r c>0 then cV rows r' c'-cV rows r c else 0):=by
 unfold dm
 by_cases h1:far r c r' c'
 ·rw [if_pos (show(r=r'∧c=c')∨1<r-r'∨1<r'-r∨1<c-c'∨1<c'-c from h1)];exact⟨(fun z=>by cases z),fun z=>absurd h1 z.1⟩
 ·have jo:¬((r=r'∧c=c')∨1<r-r'∨1<r'-r∨1<c-c'∨1<c'-c):=h1
  rw [if_neg jo]
  by_cases h2:(r≠r'∧c≠c')∧¬(sl=true∧cM rows r c'=true∧cM rows r' c=true)
  ·rw [if_pos h2];exact⟨(fun z=>by cases z),fun z=>absurd (z.2.1 h2.1) h2.2⟩
  ·rw [if_neg h2];have mZ:r≠r'∧c≠c'→sl=true∧cM rows r c'=true∧cM rows r' c=true:=fun a=>Classical.byContradiction fun b=>h2 ⟨a,b⟩
   by_cases h3:cl<cV rows r' c'-cV rows r c∨cl<cV rows r c-cV rows r' c'
   ·rw [if_pos h3];exact⟨(fun z=>by cases z),fun z=>by omega⟩
   ·rw [if_neg h3];refine⟨fun z=>⟨h1,mZ,by omega,by omega,by cases z;rfl⟩,fun z=>by rw [z.2.2.2.2]⟩
theorem oX{rows:List Str}{sl:Bool}{cl pr:Int}{u v:List Int}{e:Int}(h:E1 rows sl cl pr u v e):∃e',E1 rows sl cl pr v u e':=by
 obtain⟨r,c,r',c',h1,h2,h3,h4,h5⟩:=h
 rw [dM] at h5;refine⟨_,r',c',r,c,h2,h1,h4,h3,dM.2 ⟨?_,fun z=>?_,h5.2.2.2.1,h5.2.2.1,rfl⟩⟩
 ·have:=h5.1
  unfold far at this⊢;omega
 ·obtain⟨a,b,d⟩:=h5.2.1 ⟨fun x=>z.1 x.symm,fun x=>z.2 x.symm⟩
  exact⟨a,d,b⟩
theorem Jf{rows:List Str}{w:Nat}(L:Fl rows w){sl:Bool}{cl pr:Int}(V:Wk cl pr){u v:List Int}{e:Int}(h:E1 rows sl cl pr u v e):0<e∧e≤30∧dy rows v:=by
 obtain⟨r,c,r',c',h1,h2,h3,h4,h5⟩:=h
 rw [dM] at h5;obtain⟨_,_,_,_,_,l1,l2⟩:=sC L h3
 obtain⟨_,_,_,_,_,m1,m2⟩:=sC L h4
 have p0:=V.p0
 have p4:=V.p4
 have e5:=h5.2.2.2.2
 generalize hm:(if cV rows r' c'-cV rows r c>0 then cV rows r' c'-cV rows r c else 0)=m at e5
 have Le:0≤m∧m≤9:=by rw [←hm];split<;>omega
 generalize hf:(if r≠r'∧c≠c' then(3:Int) else 2)=f at e5
 have Qs:2≤f∧f≤3:=by rw [←hf];split<;>omega
 have a1:=Int.mul_nonneg p0 Le.1
 have a2:pr*m≤3*9:=Int.mul_le_mul (by omega) Le.2 Le.1 (by omega)
 exact⟨by omega,by omega,r',c',h2,h4⟩
def Dy(f:List PV→Res PV):Prop:=∀rows w,Fl rows w→∀sl cl pr,Wk cl pr→∀r c,cM rows r c=true→∃kr Vr,f [.lst [sp r c],wk sl cl pr,fl rows]=.ok (.dct kr (Vr.map val))∧KZ (E1 rows sl cl pr) [r,c] kr Vr
def F4(F:ba):Prop:=Dy (F "spread@steps_from")
theorem Co(F:ba)(hs:g7 F):Dy (ag F bo):=fun rows w L sl cl pr V r c h=>
 v5 F "steps_from" (A:=fl rows) (B:=wk sl cl pr) (E:=E1 rows sl cl pr) (O:=dy rows) (s:=[r,c]) (U:=uk) (fun u hu=>Ib L hu) (Nat.le_of_eq js) (fun u hu=>by obtain⟨_,_,rfl,_⟩:=hu;rfl) (fun u v e he=>Jf L V he)
  (fun u hu=>by obtain⟨a,b,rfl,ho⟩:=hu;exact hs rows w L sl cl pr V a b ho) ⟨r,c,rfl,h⟩
def cW(E:List Int→List Int→Int→Prop)(u:List Int)(S:Ks):Prop:=ic S∧∀v,v∈S↔RR E u v
def vc(f:List PV→Res PV):Prop:=∀rows w,Fl rows w→∀sl cl pr,Wk cl pr→∀r c,cM rows r c=true→∃kr Vr,f [fl rows,wk sl cl pr,sp r c]=.ok (.dct kr (Vr.map val))∧KZ (E1 rows sl cl pr) [r,c] kr Vr
def sd(F:ba):Prop:=vc (F "spread_from")
theorem CJ(F:ba)(hn:sk F)(hs:F4 F):vc (ag F cj):=fun rows w L sl cl pr V r c h=>by
 obtain⟨kr,Vr,e,R⟩:=hs rows w L sl cl pr V r c h
 exact⟨kr,Vr,by simp only [cj,ag,aa,ae,ai,aN,ax,av,aV,aU,aw,az,ay,reduceIte,J,J2,hn rows L.rok r c h,ji,e],R⟩
def uW(f:List PV→Res PV):Prop:=∀rows w,Fl rows w→∀sl cl pr,Wk cl pr→∀r c,cM rows r c=true→∃S:Ks,f [fl rows,wk sl cl pr,sp r c]=.ok (.lst (S.map ah))∧cW (E1 rows sl cl pr) [r,c] S
def oT(F:ba):Prop:=uW (F "room_with")
theorem AV(F:ba)(hf:sd F):uW (ag F cQ):=fun rows w L sl cl pr V r c h=>by
 obtain⟨kr,Vr,e,R⟩:=hf rows w L sl cl pr V r c h
 obtain⟨S,e2,hm,hs⟩:=sI (vs:=Vr.map val) R.nr (by have:=R.le;omega) (fun k hk=>by
  have:(aD kr Vr k).isSome=true:=by rw [←dg k R.len];exact cL.2 hk
  obtain⟨q,hq⟩:=Option.isSome_iff_exists.1 this
  have:=(R.wlk k q hq).1
  rintro rfl
  cases this)
 exact⟨S,by simp only [cQ,ag,aa,ae,ai,aN,ax,av,aV,aU,aw,az,ay,reduceIte,J,J2,e,e2],hs,fun v=>(hm v).trans (A2 R)⟩
theorem mQ{σ:Type}{f:PV→Res (Option PV)}{body:PV→Sl→Res Ci.Fl}{mk:List PV→σ→Sl}{M:Nat}:∀(xs ys acc:List PV) (s:σ),bb f xs=.ok ys→(∀x∈xs,∀o,f x=.ok o→∀acc s,acc.length+1≤M→∃s',body x (mk acc s)=.ok (.nx (mk (acc++o.toList) s')))→acc.length+xs.length≤M→∃s',forL body xs (mk acc s)=.ok (.nx (mk (acc++ys) s'))
 |[],ys,acc,s,h,_,_=>by cases h;exact⟨s,by simp [forL]⟩
 |x::xs,ys,acc,s,h,hb,hl=>by
  rw [zzL] at hl;simp only [bb] at h;cases hf:f x with
  |bad=>rw [hf] at h;cases h
  |exc c=>rw [hf] at h;cases h
  |ok o=>
   rw [hf,HG,pf] at h;obtain⟨zs,hz,h⟩:=Res.bind_ok h
   cases h;obtain⟨s1,e1⟩:=hb x (zzP ..) o hf acc s (by omega)
   have lo:o.toList.length≤1:=by cases o<;>simp
   obtain⟨s2,e2⟩:=mQ xs zs (acc++o.toList) s1 hz (fun y hy=>hb y (zzI _ hy)) (by rw [zzM];omega)
   refine⟨s2,?_⟩;simp only [forL,e1,pf,e2];cases o<;>simp [oc]
def zr:Ss:=(.cons (.ite (.cmp .ne (.var 5) (.glob "WALL" (.str "#")))
 (.cons (.app 1 (.tup (.cons (.var 2) (.cons (.var 4) .nil))))
 .nil)
 .nil)
 .nil)
def Lk:Ss:=(.cons (.for_ (.two 4 5) (.enum (.var 3)) zr) .nil)
theorem qe:∀{xs:List PV} {k:Nat} {x:PV},x∈cF k xs→∃(i:Nat) (y:PV),y∈xs∧x=.tup [.int (i:Int),y]
 |[],_,_,h=>by cases h
 |y::ys,k,x,h=>by
  simp only [cF,List.mem_cons] at h;rcases h with h|h
  ·exact⟨k,y,zzP ..,h⟩
  ·obtain⟨i,z,hz,e⟩:=qe h
   exact⟨i,z,zzI _ hz,e⟩
def sL(f:List PV→Res PV):Prop:=∀rows,rA rows→∃L:List (Nat×Nat),f [fl rows]=.ok (.lst (L.map EW))∧Up L∧L.length≤36∧∀r c,(r,c)∈L↔zd rows r c=true
theorem lF(F:ba):sL (ag F bX):=by
 intro rows R;have Qv:=R.1
 obtain⟨aF,e,L,s2,s3,s4,s5,nd,hl,hm,rfl⟩:=fR (body:=fun x env=>((Tg.two 2 3).put x env).bind fun aF=>ai F Lk aF) (P:=fun i env=>∃(L:List (Nat×Nat)) (s2 s3 s4 s5:Ci.Slot),Up L∧L.length≤6*i∧(∀r c,(r,c)∈L↔r<i∧zd rows r c=true)∧env=[.val (fl rows),.own (.lst (L.map EW)),s2,s3,s4,s5])
  (cF 0 (rows.map .str)) 0 [.val (fl rows),.own (.lst []),.no,.no,.no,.no] ⟨[],_,_,_,_,yO,zzE _,(fun r c=>by simp),rfl⟩ (by
  intro i x env hx hq;obtain⟨y,hy,rfl⟩:=t9 hx
  obtain⟨L,s2,s3,s4,s5,nd,hl,hm,rfl⟩:=hq
  simp only [zzQ,zzJ] at hy;obtain⟨z,hz,rfl⟩:=hy
  have Kw:=R.2 z (zzD hz)
  have hi:i<rows.length:=(zzH.1 hz).1
  have zc:z.cps.toList.length=z.length:=by simp [Str.length]
  obtain⟨M,eM,nM,lM,hM⟩:=qD (f:=fun x=>match x with|.tup [.int c,.str y]=>.ok (if y !="#" then some (sp i c) else none)|_=>.bad) (r:=i) (fun c x=>by
   have:((⟨#[x]⟩:Str) !="#")=(x !=35):=by
    have hw:(("#":Str))=⟨#[35]⟩:=by decide+kernel
    rw [hw,bne,bne,Bool.eq_iff_iff];simp
   simp only [this]) z.cps.toList 0
  obtain⟨s',e⟩:=mQ (body:=fun x env=>((Tg.two 4 5).put x env).bind fun aF=>ai F zr aF) (mk:=fun acc (s:Ci.Slot×Ci.Slot)=>[.val (fl rows),.own (.lst acc),.val (.int i),.val (.str z),s.1,s.2]) (M:=100) _ _ (L.map EW) (s4,s5) eM (fun x hx o ho acc s hl=>by
   obtain⟨c,y,hy,rfl⟩:=qe hx
   obtain⟨v,_,rfl⟩:=List.mem_map.1 hy
   have l:acc.length<c8:=zzV (m:=100) (by omega) (by decide)
   refine⟨(.val (.int c),.val (.str ⟨#[v]⟩)),?_⟩;have gH:gP (.str ⟨#[v]⟩) (.str "#")=.ok (.bl ((⟨#[v]⟩:Str) !="#")):=rfl
   cases hv:((⟨#[v]⟩:Str) !="#") with
   |true=>
    rw [hv] at gH;simp only [hv,if_true] at ho;cases ho;simp only [zr,ag,aa,ae,ai,aN,ax,av,aV,aU,aw,az,ay,reduceIte,J,J2,gH,l,Option.toList_some]
   |false=>
    rw [hv] at gH;simp only [hv,zze,if_false] at ho;cases ho;simp only [zr,ag,aa,ae,ai,aN,ax,av,aV,aU,aw,az,ay,reduceIte,J,J2,gH,Option.toList_none,List.append_nil]) (by rw [cX,zzl,zzl];omega)
  refine⟨[.val (fl rows),.own (.lst ((L++M).map EW)),.val (.int i),.val (.str z),s'.1,s'.2],?_,L++M,_,_,_,_,List.pairwise_append.2 ⟨nd,nM,fun a ha b hb=>M6 (.inl (by have h1:=((hm a.1 a.2).1 ha).1;have h2:=((hM b.1 b.2).1 hb).1;omega))⟩,?_,?_,rfl⟩
  ·rw [show(z.cps.toList.map fun x=>PV.str ⟨#[x]⟩)=chars z from rfl] at e;simp only [zr,ag,aa,ae,ai,aN,ax,av,aV,aU,aw,az,ay,reduceIte,J,J2] at e;simp only [Lk,zr,ag,aa,ae,ai,aN,ax,av,aV,aU,aw,az,ay,reduceIte,J,J2,Nat.zero_add,e,List.map_append]
  ·simp only [zzM];omega
  ·intro r c;rw [List.mem_append,hm,hM,uN]
   constructor
   ·rintro (⟨h1,h2⟩|⟨rfl,_,x,h3,h4⟩)
    ·exact⟨by omega,h2⟩
    ·exact⟨by omega,z,hz,x,h3,h4⟩
   ·rintro ⟨h1,w,h2,x,h3,h4⟩
    by_cases hr:r=i
    ·subst hr;rw [hz] at h2;cases h2;exact .inr ⟨rfl,Nat.zero_le _,x,h3,h4⟩
    ·exact .inl ⟨by omega,w,h2,x,h3,h4⟩)
 refine⟨L,?_,nd,(by rw [cX,zzl] at hl;omega),fun r c=>?_⟩
 ·simp only [Lk,zr,ag,aa,ae,ai,aN,ax,av,aV,aU,aw,az,ay,reduceIte,J,J2] at e;simp only [bX,ag,aa,ae,ai,aN,ax,av,aV,aU,aw,az,ay,reduceIte,J,J2,e,DJ]
 ·rw [hm];refine⟨fun h=>h.2,fun h=>⟨?_,h⟩⟩
  obtain⟨z,hz,_⟩:=uN.1 h
  have:=(zzH.1 hz).1
  rw [cX,zzl];omega
theorem dZ(ks:Ks)(k x:List Int):x∈aX ks k↔x∈ks∨x=k:=by
 unfold aX;split
 ·rename_i h;rw [cL] at h;exact⟨.inl,fun z=>z.elim id fun z=>z▸h⟩
 ·simp
noncomputable def Fc:Ss:=(.cons (.put 3 (.var 6) (.cst (.bl true))) .nil)
theorem qm(F:ba){A B C:PV}(s4 s5:Ci.Slot):∀(S:Ks) (kp:Ks) (vp:List PV) (s6:Ci.Slot),kp.length+S.length≤5000→∃CT HR i9,forL (fun x env=>((Tg.one 6).put x env).bind fun aF=>ai F Fc aF) (S.map ah) [.val A,.val B,.own C,.own (.dct kp vp),s4,s5,s6]=.ok (.nx [.val A,.val B,.own C,.own (.dct CT HR),s4,s5,i9])∧CT.length≤kp.length+S.length∧∀x,x∈CT↔x∈kp∨x∈S
 |[],kp,vp,s6,_=>⟨kp,vp,s6,rfl,zzE _,fun x=>by simp⟩
 |k::S,kp,vp,s6,hl=>by
  rw [zzL] at hl;have l:kp.length<c8:=zzV (m:=5000) (by omega) (by decide)
  have g:=fW kp k
  obtain⟨CT,HR,i9,e,h1,h2⟩:=qm F (A:=A) (B:=B) (C:=C) s4 s5 S (aX kp k) (bu kp vp k (.bl true)) (.val (ah k)) (by omega)
  refine⟨CT,HR,i9,?_,by rw [zzL];omega,fun x=>?_⟩
  ·have eb:(((Tg.one 6).put (ah k) [.val A,.val B,.own C,.own (.dct kp vp),s4,s5,s6]).bind fun aF=>ai F Fc aF)=.ok (.nx [.val A,.val B,.own C,.own (.dct (aX kp k) (bu kp vp k (.bl true))),s4,s5,.val (ah k)]):=by simp only [Fc,ag,aa,ae,ai,aN,ax,av,aV,aU,aw,az,ay,reduceIte,J,J2,dz,l]
   rw [zzF,forL,eb,pf];exact e
  ·rw [h2,dZ,List.mem_cons,or_assoc]
abbrev iC(M:List Ks):PV:=.lst (M.map fun m=>.lst (m.map ah))
structure mY(E:List Int→List Int→Int→Prop)(K:Ks)(M:List Ks):Prop where
 cov:∀v∈K,∃m∈M,v∈m
 rm:∀m∈M,∃u∈K,m.head?=some u∧cW E u m
 hs:ic (M.map fun m=>m.headD [])
 dj:M.Pairwise fun m m'=>∀v,v∈m→v∉m'
 len:M.length≤K.length
noncomputable def HU:Ss:=(.cons (.ite (.cmp .nin (.var 4) (.tmp 3))
 (.cons (.set 5 (.call "room_with" (.cons (.var 0) (.cons (.var 1) (.cons (.var 4) .nil)))))
 (.cons (.app 2 (.var 5))
 (.cons (.for_ (.one 6) (.seq (.var 5)) Fc)
 .nil)))
 .nil)
 .nil)
theorem Bg:ic uk:=by decide+kernel
theorem room_in{rows:List Str}{w:Nat}(L:Fl rows w){sl:Bool}{cl pr:Int}{u v:List Int}(hu:dy rows u)(h:RR (E1 rows sl cl pr) u v):dy rows v:=by
 obtain⟨c,h⟩:=h
 cases h with
 |here=>exact hu
 |go _ he=>obtain⟨_,_,r',c',_,h2,_,h4,_⟩:=he;exact⟨r',c',h2,h4⟩
theorem dq{rows:List Str}{w:Nat}(L:Fl rows w){sl:Bool}{cl pr:Int}{u:List Int}{S:Ks}(hu:dy rows u)(h:cW (E1 rows sl cl pr) u S):S.length≤36:=by
 rw [←js];exact jm h.1 Bg fun x hx=>Ib L (room_in L hu ((h.2 x).1 hx))
theorem gJ(F:ba)(hr:oT F){rows:List Str}{w:Nat}(L:Fl rows w){sl:Bool}{cl pr:Int}(V:Wk cl pr){K:Ks}(hK:ic K)(hO:∀v,v∈K↔dy rows v)(xC:K.length≤36):
 ∀(Q P:Ks) (M:List Ks) (kp:Ks) (vp:List PV) (s4 s5 s6:Ci.Slot),P++Q=K→mY (E1 rows sl cl pr) P M→(∀v,v∈kp↔∃m∈M,v∈m)→kp.length≤36*P.length→∃M' s3 IQ xI i9,forL (fun x env=>((Tg.one 4).put x env).bind fun aF=>ai F HU aF) (Q.map ah) [.val (fl rows),.val (wk sl cl pr),.own (iC M),.own (.dct kp vp),s4,s5,s6]=.ok (.nx [.val (fl rows),.val (wk sl cl pr),.own (iC M'),s3,IQ,xI,i9])∧mY (E1 rows sl cl pr) K M'
 |[],P,M,kp,vp,s4,s5,s6,hp,R,_,_=>by
  rw [List.append_nil] at hp;subst hp;exact⟨M,_,s4,s5,s6,rfl,R⟩
 |u::Q,P,M,kp,vp,s4,s5,s6,hp,R,hk,hl=>by
  have hu:u∈K:=by rw [←hp];simp
  have Qt:P.length+(Q.length+1)≤36:=by rw [←hp,zzM,zzL] at xC;exact xC
  have sy:∀{a b:List Int},RR (E1 rows sl cl pr) a b→RR (E1 rows sl cl pr) b a:=fun h=>h.symm fun _ _ _ he=>oX he
  have Io:(P++[u])++Q=K:=by rw [←hp];simp
  have nd:gX (ah u) (.dct kp vp)=.ok (.bl (!bW kp u)):=vX
  by_cases hm:u∈kp
  ·have g:bW kp u=true:=cL.2 hm
   rw [g] at nd;obtain⟨M',s3,t4,t5,t6,e,R'⟩:=gJ F hr L V hK hO xC Q (P++[u]) M kp vp (.val (ah u)) s5 s6 Io ⟨fun v hv=>(List.mem_append.1 hv).elim (R.cov v) fun z=>by rw [zzi.1 z];exact(hk u).1 hm,fun m hm=>by obtain⟨a,b,c⟩:=R.rm m hm;exact⟨a,zzc _ b,c⟩,R.hs,R.dj,by rw [zzM];exact zzU R.len (Nat.le_add_right _ _)⟩ hk (by rw [zzM,List.length_singleton];omega)
   refine⟨M',s3,t4,t5,t6,?_,R'⟩;have eb:(((Tg.one 4).put (ah u) [.val (fl rows),.val (wk sl cl pr),.own (iC M),.own (.dct kp vp),s4,s5,s6]).bind fun aF=>ai F HU aF)=.ok (.nx [.val (fl rows),.val (wk sl cl pr),.own (iC M),.own (.dct kp vp),.val (ah u),s5,s6]):=by simp only [HU,ag,aa,ae,ai,aN,ax,av,aV,aU,aw,az,ay,reduceIte,J,J2,nd]
   rw [zzF,forL,eb,pf];exact e
  ·have g:bW kp u=false:=by
    cases h:bW kp u with
    |false=>rfl
    |true=>exact absurd (cL.1 h) hm
   rw [g] at nd;obtain⟨a,b,rfl,ho⟩:=(hO u).1 hu
   obtain⟨S,e1,hS⟩:=hr rows w L sl cl pr V a b ho
   have Qu:=dq L ((hO _).1 hu) hS
   have out:∀v,v∈S→v∉kp:=fun v hv z=>by
    obtain⟨m,xn,JY⟩:=(hk v).1 z
    obtain⟨u',_,_,Hy⟩:=R.rm m xn
    refine hm ((hk _).2 ⟨m,xn,(Hy.2 _).2 (((Hy.2 v).1 JY).trans (sy ((hS.2 v).1 hv)))⟩)
   have hd:S.head?=some [a,b]:=by
    have CF:[a,b]∈S:=(hS.2 _).2 (eU ..)
    cases wK:S with
    |nil=>rw [wK] at CF;cases CF
    |cons x S'=>
     have hx:x∈S:=by rw [wK];exact zzP ..
     have Nj:x∈K:=(hO x).2 (room_in L ((hO _).1 hu) ((hS.2 x).1 hx))
     have hs:=hS.1
     rw [wK] at hs CF;rcases List.mem_cons.1 CF with z|z
     ·rw [←z];rfl
     ·have l1:=(List.pairwise_cons.1 hs).1 _ z
      rw [←hp] at Nj hK;rcases List.mem_append.1 Nj with y|y
      ·exact absurd ((hk x).2 (R.cov x y)) (out x hx)
      ·rcases List.mem_cons.1 y with y|y
       ·rw [y];rfl
       ·have l2:=(List.pairwise_cons.1 (List.pairwise_append.1 hK).2.1).1 x y
        rw [f7 l1] at l2;cases l2
   have lM:M.length<c8:=zzV (m:=36) (by have:=R.len;omega) (by decide)
   obtain⟨CT,HR,t6,e2,k1,k2⟩:=qm F (A:=fl rows) (B:=wk sl cl pr) (C:=iC (M++[S])) (.val (ah [a,b])) (.val (.lst (S.map ah))) S kp vp s6 (by omega)
   have R2:mY (E1 rows sl cl pr) (P++[[a,b]]) (M++[S]):=by
    refine⟨fun v hv=>?_,fun m hm=>?_,?_,?_,?_⟩
    ·rcases List.mem_append.1 hv with z|z
     ·obtain⟨m,h1,h2⟩:=R.cov v z
      exact⟨m,zzc _ h1,h2⟩
     ·exact⟨S,zzR _ (zzi.2 rfl),by rw [zzi.1 z];exact(hS.2 _).2 (eU ..)⟩
    ·rcases List.mem_append.1 hm with z|z
     ·obtain⟨x,h1,h2⟩:=R.rm m z
      exact⟨x,zzc _ h1,h2⟩
     ·rw [zzi.1 z];exact⟨[a,b],zzR _ (zzi.2 rfl),hd,hS⟩
    ·rw [List.map_append];refine List.pairwise_append.2 ⟨R.hs,List.pairwise_singleton ..,fun x hx y hy=>?_⟩
     obtain⟨m,xn,rfl⟩:=List.mem_map.1 hx
     rw [zzF,List.map_nil,zzi] at hy;subst hy;obtain⟨x,h1,h2,_⟩:=R.rm m xn
     rw [List.headD_eq_head?_getD,List.headD_eq_head?_getD,h2,hd];rw [←hp] at hK;exact(List.pairwise_append.1 hK).2.2 x h1 _ (zzP ..)
    ·refine List.pairwise_append.2 ⟨R.dj,List.pairwise_singleton ..,fun x hx y hy v hv z=>?_⟩
     rw [zzi] at hy;subst hy;exact out v z ((hk v).2 ⟨x,hx,hv⟩)
    ·rw [zzM,zzM];have:=R.len
     simp only [List.length_singleton];omega
   have HV:∀v,v∈CT↔∃m∈M++[S],v∈m:=fun v=>by
    rw [k2,hk]
    constructor
    ·rintro (⟨m,h1,h2⟩|h)
     ·exact⟨m,zzc _ h1,h2⟩
     ·exact⟨S,zzR _ (zzi.2 rfl),h⟩
    ·rintro ⟨m,h1,h2⟩
     rcases List.mem_append.1 h1 with z|z
     ·exact .inl ⟨m,z,h2⟩
     ·rw [zzi.1 z] at h2;exact .inr h2
   obtain⟨M',s3,u4,u5,u6,e,R'⟩:=gJ F hr L V hK hO xC Q (P++[[a,b]]) (M++[S]) CT HR (.val (ah [a,b])) (.val (.lst (S.map ah))) t6 Io R2 HV (by rw [zzM,List.length_singleton];omega)
   refine⟨M',s3,u4,u5,u6,?_,R'⟩;have IP:F "room_with" [fl rows,wk sl cl pr,ah [a,b]]=.ok (.lst (S.map ah)):=e1
   have eb:(((Tg.one 4).put (ah [a,b]) [.val (fl rows),.val (wk sl cl pr),.own (iC M),.own (.dct kp vp),s4,s5,s6]).bind fun aF=>ai F HU aF)=.ok (.nx [.val (fl rows),.val (wk sl cl pr),.own (iC (M++[S])),.own (.dct CT HR),.val (ah [a,b]),.val (.lst (S.map ah)),t6]):=by
    simp only [Fc,ag,aa,ae,ai,aN,ax,av,aV,aU,aw,az,ay,reduceIte,J,J2,iC,List.map_append,zzF,List.map_nil] at e2;simp only [HU,Fc,iC,ag,aa,ae,ai,aN,ax,av,aV,aU,aw,az,ay,reduceIte,J,J2,nd,IP,zzl,lM,e2,List.map_append,zzF,List.map_nil]
   rw [zzF,forL,eb,pf];exact e
theorem DQ{L:List (Nat×Nat)}(h:Up L):ic (L.map kN):=List.pairwise_map.2 h
theorem pd{rows:List Str}{L:List (Nat×Nat)}(hm:∀r c,(r,c)∈L↔zd rows r c=true)(v:List Int):v∈L.map kN↔dy rows v:=by
 rw [List.mem_map]
 constructor
 ·rintro ⟨p,hp,rfl⟩
  exact⟨_,_,rfl,jw.2 ⟨by omega,by omega,by simpa using (hm p.1 p.2).1 hp⟩⟩
 ·rintro ⟨r,c,rfl,h⟩
  obtain⟨h0,h1,h2⟩:=jw.1 h
  exact⟨(r.toNat,c.toNat),(hm _ _).2 h2,by simp [kN,Int.toNat_of_nonneg h0,Int.toNat_of_nonneg h1]⟩
def pT(f:List PV→Res PV):Prop:=∀rows w,Fl rows w→∀sl cl pr,Wk cl pr→∀K,ic K→(∀v,v∈K↔dy rows v)→∃M,f [fl rows,wk sl cl pr]=.ok (iC M)∧mY (E1 rows sl cl pr) K M
def eV(F:ba):Prop:=pT (F "rooms")
theorem zD(F:ba)(hr:oT F)(ho:sL (F "open_spots")):pT (ag F d5):=by
 intro rows w L sl cl pr V K hK hO;obtain⟨Sp,e1,up,J7,hm⟩:=ho rows L.rok
 have ek:Sp.map kN=K:=eW (DQ up) hK fun v=>(pd hm v).trans (hO v).symm
 have es:Sp.map EW=K.map ah:=by rw [←ek,List.map_map];rfl
 obtain⟨M,s3,s4,s5,s6,e,R⟩:=gJ F hr L (sl:=sl) V hK hO (by rw [←ek,zzl];exact J7) K [] [] [] [] .no .no .no rfl ⟨fun v hv=>by(cases hv),fun m hm=>by(cases hm),.nil,.nil,zzE _⟩ (fun v=>by simp) (Nat.zero_le _)
 refine⟨M,?_,R⟩;simp only [HU,Fc,ag,aa,ae,ai,aN,ax,av,aV,aU,aw,az,ay,reduceIte,J,J2,iC,List.map_nil] at e;simp only [d5,ag,aa,ae,ai,aN,ax,av,aV,aU,aw,az,ay,reduceIte,J,J2,e1,es,e,DJ]
theorem tU{U:Ks}:∀(new met:Ks),new.Nodup→(∀x∈new,x∉met∧x∈U)→(met++new).length+pJ U (met++new)≤met.length+pJ U met
 |[],met,_,_=>by simp
 |x::new,met,nd,h=>by
  have n:=List.nodup_cons.1 nd
  have hx:=h x (zzP ..)
  have g:bW met x=false:=by
   cases e:bW met x with
   |false=>rfl
   |true=>exact absurd (cL.1 e) hx.1
  have p:aX met x=met++[x]:=by unfold aX;rw [g];rfl
  have l:=jV hx.2 g
  rw [p] at l;have ih:=tU new (met++[x]) n.2 fun y hy=>⟨fun z=>(List.mem_append.1 z).elim (h y (zzI _ hy)).1 fun z=>n.1 (zzi.1 z▸hy),(h y (zzI _ hy)).2⟩
  rw [show met++x::new=met++[x]++new by simp];have:(met++[x]).length=met.length+1:=by simp
  omega
theorem Jv{E:List Int→List Int→Int→Prop}{met:Ks}{u v:List Int}(hu:u∈met)(hc:∀x∈met,∀v e,E x v e→v∈met)(h:RR E u v):v∈met:=by
 obtain⟨c,h⟩:=h
 induction h with
 |here=>exact hu
 |go _ he ih=>exact hc _ ih _ _ he
def vM(u v w:List Int):Bool:=decide (w∈[u,v,[u.headD 0,v.getLastD 0],[v.headD 0,u.getLastD 0]])
theorem ib{r c r' c':Int}{w:List Int}:vM [r,c] [r',c'] w=false↔w≠[r,c]∧w≠[r',c']∧w≠[r,c']∧w≠[r',c]:=by
 unfold vM;simp only [decide_eq_false_iff_not,List.mem_cons,List.not_mem_nil,or_false,not_or]
 rfl
def Ew(rows:List Str)(sl:Bool)(cl pr:Int)(w u v:List Int)(e:Int):Prop:=E1 rows sl cl pr u v e∧vM u v w=false
theorem Bq{rows:List Str}{sl:Bool}{cl pr:Int}{w u v:List Int}{e:Int}(h:Ew rows sl cl pr w u v e):∃e',Ew rows sl cl pr w v u e':=by
 obtain⟨h,hn⟩:=h
 obtain⟨e',h'⟩:=oX h
 obtain⟨r,c,r',c',rfl,rfl,_⟩:=h
 obtain⟨n1,n2,n3,n4⟩:=ib.1 hn
 exact⟨e',h',ib.2 ⟨n2,n1,n4,n3⟩⟩
def jz(F:ba):Prop:=∀r c r' c' w,F "needs_open" [ah [r,c],ah [r',c'],ah w]=.ok (.bl (vM [r,c] [r',c'] w))
theorem yk(F:ba)(r c r' c':Int)(w:List Int):ag F bZ [ah [r,c],ah [r',c'],ah w]=.ok (.bl (vM [r,c] [r',c'] w)):=by
 have e:pz (ah w) (.tup [sp r c,sp r' c',sp r c',sp r' c])=.ok (.bl (vM [r,c] [r',c'] w)):=OZ w [[r,c],[r',c'],[r,c'],[r',c]]
 show ag F bZ [sp r c,sp r' c',ah w]=_
 have ci:du .in_=pz:=rfl
 simp only [bZ,ag,aa,ae,ai,aN,ax,av,aV,aU,aw,az,ay,reduceIte,J,J2,ci,e]
abbrev lp(m:Ks):PV:=.lst (m.map ah)
def Gd(E:List Int→List Int→Int→Prop)(ks:Ks)(vs:List PV)(u:List Int):Prop:=∃T:Ks,aD ks vs u=some (lp T)∧∀v,v∈T↔∃e,E u v e
noncomputable def KN:Ss:=(.cons (.put 2 (.var 3) (.comp 1 [] (.one 0) (.seq (.call "steps_from" (.cons (.var 0) (.cons (.var 1) (.cons (.var 3) .nil))))) (.sub (.var 0) (.cst (.int 0)))))
 .nil)
theorem nk(F:ba)(hs:g7 F){rows:List Str}{w:Nat}(L:Fl rows w){sl:Bool}{cl pr:Int}(V:Wk cl pr):∀(Q:Ks) (ks:Ks) (vs:List PV) (s3:Ci.Slot),(∀u∈Q,dy rows u)→ks.length=vs.length→ks.length+Q.length≤100→∃KU DL Kk,forL (fun x env=>((Tg.one 3).put x env).bind fun aF=>ai F KN aF) (Q.map ah) [.val (fl rows),.val (wk sl cl pr),.own (.dct ks vs),s3]=.ok (.nx [.val (fl rows),.val (wk sl cl pr),.own (.dct KU DL),Kk])∧∀u,u∈Q∨Gd (E1 rows sl cl pr) ks vs u→Gd (E1 rows sl cl pr) KU DL u
 |[],ks,vs,s3,_,_,_=>⟨ks,vs,s3,rfl,fun u h=>h.elim (fun z=>by cases z) id⟩
 |k::Q,ks,vs,s3,hO,he,hl=>by
  rw [zzL] at hl;have g:=fW ks k
  obtain⟨a,b,rfl,ho⟩:=hO k (zzP ..)
  obtain⟨T,e1,lT,hT⟩:=hs rows w L sl cl pr V a b ho
  have P4:T.length<c8:=zzV lT (by decide)
  have lk:ks.length<c8:=zzV (m:=100) (by omega) (by decide)
  have t0:∀t:List Int×Int,bw (tK t) (.int 0)=.ok (ah t.1):=fun t=>rfl
  have em:(T.map fun t=>ah t.1)=(T.map (·.1)).map ah:=by rw [List.map_map];rfl
  obtain⟨KU,DL,Kk,e,h⟩:=nk F hs L V Q (aX ks [a,b]) (bu ks vs [a,b] (lp (T.map (·.1)))) (.val (ah [a,b])) (fun u hu=>hO u (zzI _ hu)) (kE he ..) (by omega)
  refine⟨KU,DL,Kk,?_,fun u hu=>h u ?_⟩
  ·have eb:(((Tg.one 3).put (ah [a,b]) [.val (fl rows),.val (wk sl cl pr),.own (.dct ks vs),s3]).bind fun aF=>ai F KN aF)=.ok (.nx [.val (fl rows),.val (wk sl cl pr),.own (.dct (aX ks [a,b]) (bu ks vs [a,b] (lp (T.map (·.1))))),.val (ah [a,b])]):=by
    simp only [KN,ag,aa,ae,ai,aN,ax,av,aV,aU,aw,az,ay,reduceIte,J,J2,e1,zzl,P4];rw [cT (p:=tK) (g:=fun t=>ah t.1) (fun t _=>by simp only [ag,aa,ae,ai,aN,ax,av,aV,aU,aw,az,ay,reduceIte,J,J2,t0]),em];simp only [ag,aa,ae,ai,aN,ax,av,aV,aU,aw,az,ay,reduceIte,J,J2,dz,lk]
   rw [zzF,forL,eb,pf];exact e
  ·by_cases hk:[a,b]=u
   ·subst hk;refine .inr ⟨T.map (·.1),by rw [bx he,if_pos rfl],fun v=>?_⟩
    rw [List.mem_map];exact⟨fun⟨t,ht,q⟩=>⟨t.2,(hT _ _).1 (q▸ht)⟩,fun⟨e,q⟩=>⟨(v,e),(hT v e).2 q,rfl⟩⟩
   ·rcases hu with hu|⟨T',q1,q2⟩
    ·exact .inl ((List.mem_cons.1 hu).elim (fun z=>absurd z.symm hk) id)
    ·exact .inr ⟨T',by rw [bx he,if_neg hk];exact q1,q2⟩
def vb(f:List PV→Res PV):Prop:=∀rows w,Fl rows w→∀sl cl pr,Wk cl pr→∃ks vs,f [fl rows,wk sl cl pr]=.ok (.dct ks vs)∧∀u,dy rows u→Gd (E1 rows sl cl pr) ks vs u
def sM(F:ba):Prop:=vb (F "steps_over")
theorem Bv(F:ba)(hs:g7 F)(ho:sL (F "open_spots")):vb (ag F cB):=by
 intro rows w L sl cl pr V;obtain⟨Sp,e1,up,J7,hm⟩:=ho rows L.rok
 have es:Sp.map EW=(Sp.map kN).map ah:=by rw [List.map_map];rfl
 obtain⟨ks,vs,s3,e,h⟩:=nk F hs L (sl:=sl) V (Sp.map kN) [] [] .no (fun u hu=>(pd hm u).1 hu) rfl (by rw [zzl,List.length_nil];omega)
 refine⟨ks,vs,?_,fun u hu=>h u (.inl ((pd hm u).2 hu))⟩
 simp only [KN,ag,aa,ae,ai,aN,ax,av,aV,aU,aw,az,ay,reduceIte,J,J2] at e;simp only [cB,ag,aa,ae,ai,aN,ax,av,aV,aU,aw,az,ay,reduceIte,J,J2,e1,es,e,DJ]
theorem Mp{ks:Ks}{vs:List PV}{k:List Int}{q:PV}(h:aD ks vs k=some q):bw (.dct ks vs) (ah k)=.ok q:=by
 show(Res.of (gK (ah k))).bind (fun kk=>Res.of (aD ks vs kk))=_
 rw [dz];show Res.of (aD ks vs k)=_
 rw [h]
 rfl
structure Iv(E:List Int→List Int→Int→Prop)(s:List Int)(P:List Int→Prop)(n:Nat)(kr wt:Ks):Prop where
 nd:kr.Nodup
 sub:∀x∈kr,RR E s x
 wk:∀x∈wt,x∈kr
 st:s∈kr
 clo:∀x∈kr,x∈wt∨P x∨∀v e,E x v e→v∈kr
 b1:wt.length+pJ uk kr≤n
 b2:kr.length+pJ uk kr≤36
 bn:n≤100
theorem Iv.put{E:List Int→List Int→Int→Prop}{s:List Int}{P:List Int→Prop}{n:Nat}{kr wt:Ks}(I:Iv E s P n kr wt){v:List Int}(hv:RR E s v)(hu:v∈uk)(hn:bW kr v=false):Iv E s P n (aX kr v) (wt++[v]):=by
 have l:=jV hu hn
 have g:=fW kr v
 have b1:=I.b1
 have b2:=I.b2
 refine⟨fA I.nd v,fun x hx=>((dZ ..).1 hx).elim (I.sub x) fun z=>z▸hv,fun x hx=>(dZ ..).2 ((List.mem_append.1 hx).elim (fun z=>.inl (I.wk x z)) fun z=>.inr (zzi.1 z)),(dZ ..).2 (.inl I.st),fun x hx=>?_,?_,?_,I.bn⟩
 ·rcases(dZ ..).1 hx with z|z
  ·rcases I.clo x z with y|y|y
   ·exact .inl (zzc _ y)
   ·exact .inr (.inl y)
   ·exact .inr (.inr fun v' e he=>(dZ ..).2 (.inl (y v' e he)))
  ·exact .inl (zzR _ (zzi.2 z))
 ·rw [zzM,List.length_singleton];omega
 ·omega
noncomputable def AA:Ss:=(.cons (.ite (.and (.cmp .nin (.var 6) (.tmp 3)) (.not (.call "needs_open" (.cons (.var 5) (.cons (.var 6) (.cons (.var 2) .nil))))))
 (.cons (.put 3 (.var 6) (.cst (.bl true)))
 (.cons (.app 4 (.var 6))
 .nil))
 .nil)
 .nil)
abbrev pK(A B:PV)(w:List Int)(kr:Ks)(vr:List PV)(wt:Ks)(s5 s6:Ci.Slot):Sl:=[.val A,.val B,.val (ah w),.own (.dct kr vr),.own (lp wt),s5,s6]
theorem zy(F:ba)(hn:jz F){rows:List Str}{w:Nat}(L:Fl rows w){sl:Bool}{cl pr:Int}{A B:PV}{s z u:List Int}{P:List Int→Prop}{n:Nat}(hu:RR (Ew rows sl cl pr z) s u):∀(T kr wt:Ks) (vr:List PV) (s6:Ci.Slot),(∀v∈T,∃e,E1 rows sl cl pr u v e)→Iv (Ew rows sl cl pr z) s P n kr wt→
 ∃fg Ay w9 i9,forL (fun x env=>((Tg.one 6).put x env).bind fun aF=>ai F AA aF) (T.map ah) (pK A B z kr vr wt (.val (ah u)) s6)=.ok (.nx (pK A B z fg w9 Ay (.val (ah u)) i9))∧Iv (Ew rows sl cl pr z) s P n fg Ay∧(∀x∈kr,x∈fg)∧∀v∈T,vM u v z=false→v∈fg
 |[],kr,wt,vr,s6,_,I=>⟨kr,wt,vr,s6,rfl,I,fun _ h=>h,fun v hv=>by cases hv⟩
 |v::T,kr,wt,vr,s6,hT,I=>by
  obtain⟨e,he⟩:=hT v (zzP ..)
  have hq:F "needs_open" [ah u,ah v,ah z]=.ok (.bl (vM u v z)):=by
   obtain⟨r,c,r',c',rfl,rfl,_⟩:=he
   exact hn r c r' c' z
  have nd:gX (ah v) (.dct kr vr)=.ok (.bl (!bW kr v)):=vX
  by_cases hc:bW kr v=false∧vM u v z=false
  ·have hv:RR (Ew rows sl cl pr z) s v:=by
    obtain⟨c,h⟩:=hu
    exact⟨_,.go h ⟨he,hc.2⟩⟩
   have hU:v∈uk:=by
    obtain⟨_,_,r',c',_,h2,_,h4,_⟩:=he
    exact Ib L ⟨r',c',h2,h4⟩
   have I':=I.put hv hU hc.1
   obtain⟨fg,Ay,w9,i9,e2,J1,J2',J3⟩:=zy F hn L (A:=A) (B:=B) hu T (aX kr v) (wt++[v]) (bu kr vr v (.bl true)) (.val (ah v)) (fun x hx=>hT x (zzI _ hx)) I'
   refine⟨fg,Ay,w9,i9,?_,J1,fun x hx=>J2' x ((dZ ..).2 (.inl hx)),fun x hx hd=>?_⟩
   ·rw [hc.1] at nd;rw [hc.2] at hq;have lk:kr.length<c8:=zzV (m:=100) (by have:=I.b2;omega) (by decide)
    have lw:wt.length<c8:=zzV (m:=100) (by have:=I.b1;have:=I.bn;omega) (by decide)
    have eb:(((Tg.one 6).put (ah v) (pK A B z kr vr wt (.val (ah u)) s6)).bind fun aF=>ai F AA aF)=.ok (.nx (pK A B z (aX kr v) (bu kr vr v (.bl true)) (wt++[v]) (.val (ah u)) (.val (ah v)))):=by simp only [pK,lp,AA,ag,aa,ae,ai,aN,ax,av,aV,aU,aw,az,ay,reduceIte,J,J2,nd,hq,dz,lk,lw,zzl,List.map_append,zzF,List.map_nil]
    rw [zzF,forL,eb,pf];exact e2
   ·rcases List.mem_cons.1 hx with y|y
    ·exact J2' x ((dZ ..).2 (.inr y))
    ·exact J3 x y hd
  ·obtain⟨fg,Ay,w9,i9,e2,J1,J2',J3⟩:=zy F hn L (A:=A) (B:=B) hu T kr wt vr (.val (ah v)) (fun x hx=>hT x (zzI _ hx)) I
   refine⟨fg,Ay,w9,i9,?_,J1,J2',fun x hx hd=>?_⟩
   ·have eb:(((Tg.one 6).put (ah v) (pK A B z kr vr wt (.val (ah u)) s6)).bind fun aF=>ai F AA aF)=.ok (.nx (pK A B z kr vr wt (.val (ah u)) (.val (ah v)))):=by
     cases h1:bW kr v with
     |true=>
      rw [h1] at nd;simp only [pK,AA,ag,aa,ae,ai,aN,ax,av,aV,aU,aw,az,ay,reduceIte,J,J2,nd]
     |false=>
      have h2:vM u v z=true:=by
       cases h2:vM u v z with
       |true=>rfl
       |false=>exact absurd ⟨h1,h2⟩ hc
      rw [h1] at nd;rw [h2] at hq;simp only [pK,AA,ag,aa,ae,ai,aN,ax,av,aV,aU,aw,az,ay,reduceIte,J,J2,nd,hq]
    rw [zzF,forL,eb,pf];exact e2
   ·rcases List.mem_cons.1 hx with y|y
    ·subst y;refine J2' x (cL.1 ?_);cases h1:bW kr x with
     |true=>rfl
     |false=>exact absurd ⟨h1,hd⟩ hc
    ·exact J3 x y hd
def Ft:E:=(.cmp .gt (.blt .len (.cons (.tmp 4) .nil)) (.cst (.int 0)))
noncomputable def HN:Ss:=(.cons (.pop 5 4)
 (.cons (.for_ (.one 6) (.seq (.sub (.var 0) (.var 5))) AA)
 .nil))
theorem Hl(F:ba){a b c d s5 s6:Ci.Slot}{wt:Ks}{u:List Int}:aN F (.pop 5 4) [a,b,c,d,.own (lp (wt++[u])),s5,s6]=.ok (.nx [a,b,c,d,.own (lp wt),.val (ah u),s6]):=by
 rw [aN];show((Res.of (((wt++[u]).map ah)[((wt++[u]).map ah).length-1]?)).bind fun p=>Res.ok (Ci.Fl.nx [a,b,c,d,.own (.lst ((wt++[u]).map ah).dropLast),.val p,s6]))=_
 rw [List.map_append,zzF,List.map_nil,List.dropLast_concat,show((wt.map ah++[ah u])[(wt.map ah++[ah u]).length-1]?)=some (ah u) from by simp]
 rfl
theorem uh(F:ba){E:List Int→List Int→Int→Prop}{A B:PV}{s z:List Int}{kr:Ks}{vr:List PV}{s5 s6:Ci.Slot}{n m:Nat}(I:Iv E s (fun _=>False) n kr []):
 ∃fg w9 s4 xI i9,cH (ax F Ft) (ai F HN) (m+1) (pK A B z kr vr [] s5 s6)=.ok (.nx [.val A,.val B,.val (ah z),.own (.dct fg w9),s4,xI,i9])∧fg.Nodup∧∀x,x∈fg↔RR E s x:=by
 have ec:ax F Ft (pK A B z kr vr [] s5 s6)=.ok (.bl false):=by rfl
 refine⟨kr,vr,.own (lp []),s5,s6,?_,I.nd,fun x=>⟨I.sub x,Jv I.st fun y hy v e he=>?_⟩⟩
 ·rw [cH,ec]
  rfl
 ·rcases I.clo y hy with q|q|q
  ·cases q
  ·exact q.elim
  ·exact q v e he
theorem BY(F:ba)(hn:jz F){rows:List Str}{w:Nat}(L:Fl rows w){sl:Bool}{cl pr:Int}{ks:Ks}{vs:List PV}(hG:∀u,dy rows u→Gd (E1 rows sl cl pr) ks vs u){B:PV}{s z:List Int}(hs:dy rows s):∀(n m:Nat) (kr wt:Ks) (vr:List PV) (s5 s6:Ci.Slot),n≤m→Iv (Ew rows sl cl pr z) s (fun _=>False) n kr wt→
 ∃fg w9 s4 xI i9,cH (ax F Ft) (ai F HN) (m+1) (pK (.dct ks vs) B z kr vr wt s5 s6)=.ok (.nx [.val (.dct ks vs),.val B,.val (ah z),.own (.dct fg w9),s4,xI,i9])∧fg.Nodup∧∀x,x∈fg↔RR (Ew rows sl cl pr z) s x:=by
 intro n
 induction n with
 |zero=>
  intro m kr wt vr s5 s6 hm I;have hw:wt=[]:=by
   have:=I.b1
   exact List.eq_nil_of_length_eq_zero (by omega)
  subst hw;exact uh F I
 |succ n ih=>
  intro m kr wt vr s5 s6 hm I
  by_cases hw:wt=[]
  ·subst hw;exact uh F I
  ·obtain⟨wt,u,rfl⟩:∃a b,wt=a++[b]:=⟨_,_,(List.dropLast_concat_getLast hw).symm⟩
   obtain⟨m,rfl⟩:∃k,m=k+1:=⟨m-1,by omega⟩
   have ec:ax F Ft (pK (.dct ks vs) B z kr vr (wt++[u]) s5 s6)=.ok (.bl (decide ((0:Int)<(wt++[u]).length))):=by simp only [Ft,pK,ag,aa,ae,ai,aN,ax,av,aV,aU,aw,az,ay,reduceIte,J,J2,zzl]
   have hu:=I.sub u (I.wk u (by simp))
   have hE:RR (E1 rows sl cl pr) s u:=hu.of fun _ _ e h=>⟨e,h.1⟩
   obtain⟨T,q1,q2⟩:=hG u (room_in L hs hE)
   have I1:Iv (Ew rows sl cl pr z) s (fun x=>x=u) n kr wt:=by
    refine⟨I.nd,I.sub,fun x hx=>I.wk x (zzc _ hx),I.st,fun x hx=>?_,?_,I.b2,by have:=I.bn;omega⟩
    ·rcases I.clo x hx with y|y|y
     ·exact(List.mem_append.1 y).elim .inl fun y=>.inr (.inl (zzi.1 y))
     ·exact y.elim
     ·exact .inr (.inr y)
    ·have:=I.b1
     rw [zzM,List.length_singleton] at this;omega
   obtain⟨fg,Ay,w9,i9,e2,J1,J2',J3⟩:=zy F hn L (A:=.dct ks vs) (B:=B) hu T kr wt vr s6 (fun v hv=>(q2 v).1 hv) I1
   have I2:Iv (Ew rows sl cl pr z) s (fun _=>False) n fg Ay:=⟨J1.nd,J1.sub,J1.wk,J1.st,fun x hx=>by
    rcases J1.clo x hx with y|y|y
    ·exact .inl y
    ·exact .inr (.inr fun v e he=>by
      rw [y] at he;exact J3 v ((q2 v).2 ⟨e,he.1⟩) he.2)
    ·exact .inr (.inr y),J1.b1,J1.b2,J1.bn⟩
   obtain⟨kr2,vr2,s4,xI,s6'',e3,r1,r2⟩:=ih m fg Ay w9 (.val (ah u)) i9 (by omega) I2
   refine⟨kr2,vr2,s4,xI,s6'',?_,r1,r2⟩;rw [zzh (by simp only [zzM,List.length_singleton];omega)] at ec;have es:=Mp q1
   have eb:ai F HN (pK (.dct ks vs) B z kr vr (wt++[u]) s5 s6)=.ok (.nx (pK (.dct ks vs) B z fg w9 Ay (.val (ah u)) i9)):=by
    have IH:=e2
    simp only [pK,AA,ag,aa,ae,ai,aN,ax,av,aV,aU,aw,az,ay,reduceIte,J,J2] at IH;rw [HN,ai,Hl];simp only [pK,AA,ag,aa,ae,ai,aN,ax,av,aV,aU,aw,az,ay,reduceIte,J,J2,es,IH]
   rw [cH,ec];simp only [pf,KH,if_true,eb,e3]
def qz(f:List PV→Res PV):Prop:=∀rows w,Fl rows w→∀sl cl pr,∀ks vs,(∀u,dy rows u→Gd (E1 rows sl cl pr) ks vs u)→∀s z,dy rows s→∃kr vr,f [.dct ks vs,ah s,ah z]=.ok (.dct kr vr)∧kr.Nodup∧∀x,x∈kr↔RR (Ew rows sl cl pr z) s x
def pq(F:ba):Prop:=qz (F "reached_past")
theorem xl(F:ba)(hn:jz F):qz (ag F bT):=by
 intro rows w L sl cl pr ks vs hG s z hs;have la:=jV (U:=uk) (kr:=[]) (Ib L hs) rfl
 have l0:pJ uk []≤36:=by rw [←js];exact List.length_filter_le ..
 have Qw:pJ uk [s]<pJ uk []:=la
 obtain⟨kr,vr,s4,s5,s6,e,r1,r2⟩:=BY F hn L hG (B:=ah s) (z:=z) hs 36 (WN-1) [s] [s] [.bl true] .no .no (by decide) ⟨by simp,fun x hx=>by rw [zzi.1 hx];exact eU ..,fun x hx=>hx,by simp,fun x hx=>.inl hx,by rw [List.length_singleton];omega,by rw [List.length_singleton];omega,by decide⟩
 refine⟨kr,vr,?_,r1,r2⟩;have e':cH (ax F Ft) (ai F HN) WN [.val (.dct ks vs),.val (ah s),.val (ah z),.own (.dct [s] [.bl true]),.own (.lst [ah s]),.no,.no]=_:=e
 simp only [Ft,HN,AA,ag,aa,ae,ai,aN,ax,av,aV,aU,aw,az,ay,reduceIte,J,J2] at e';simp only [bT,ag,aa,ae,ai,aN,ax,av,aV,aU,aw,az,ay,reduceIte,J,J2,dz,e',DJ]
theorem Pj(u:List Int)(t:Ks):bw (lp (u::t)) (.int 0)=.ok (ah u):=by
 have:=kW (xs:=(u::t).map ah) (k:=0) (by simp)
 show Res.of (rk ((u::t).map ah) ((0:Nat):Int))=_
 rw [this]
 rfl
theorem iS{α:Type}{f:PV→Res (Option PV)}{p:α→PV}{b:α→Bool}:∀{xs:List α},(∀x∈xs,f (p x)=.ok (if b x then some (p x) else none))→bb f (xs.map p)=.ok ((xs.filter b).map p)
 |[],_=>rfl
 |x::xs,h=>by
  simp only [zzF,bb,h x (zzP ..),HG,pf,iS (xs:=xs) fun y hy=>h y (zzI _ hy),List.filter_cons]
  cases b x<;>rfl
theorem Ot(a b:List Int):gP (ah a) (ah b)=.ok (.bl (!decide (a=b))):=by
 show(if Ci.pln (ah a)&&Ci.pln (ah b) then Res.ok (PV.bl (!eqv (ah a) (ah b))) else .bad)=_
 rw [show Ci.pln (ah a)=true from nJ _ a,show Ci.pln (ah b)=true from nJ _ b,show eqv (ah a) (ah b)=decide (a=b) from pE _ a b]
 rfl
section
variable{rows:List Str}{w:Nat}{sl:Bool}{cl pr:Int}
def yn(E:List Int→List Int→Int→Prop)(z:List Int)(m:Ks):Prop:=∃x∈m,∃y∈m,x≠z∧y≠z∧¬RR E x y
open Classical in
noncomputable def nB(rows:List Str)(sl:Bool)(cl pr:Int)(z:List Int)(m:Ks):Bool:=decide (yn (Ew rows sl cl pr z) z m)
theorem iZ{z:List Int}{m:Ks}:nB rows sl cl pr z m=true↔yn (Ew rows sl cl pr z) z m:=by
 unfold nB;exact @decide_eq_true_iff _ (Classical.propDecidable _)
abbrev AE(z:List Int)(m:Ks):Ks:=m.filter fun x=>!decide (x=z)
theorem fX{z x:List Int}{m:Ks}:x∈AE z m↔x∈m∧x≠z:=by
 rw [List.mem_filter];simp
theorem Bu{z o:List Int}{m:Ks}(h:o∈AE z m):yn (Ew rows sl cl pr z) z m↔∃x∈AE z m,¬RR (Ew rows sl cl pr z) o x:=by
 have ho:=fX.1 h
 constructor
 ·rintro ⟨x,hx,y,hy,h1,h2,h3⟩
  refine Classical.byContradiction fun hc=>h3 ?_
  have k:∀a,a∈m→a≠z→RR (Ew rows sl cl pr z) o a:=fun a ha hz=>Classical.byContradiction fun q=>hc ⟨a,fX.2 ⟨ha,hz⟩,q⟩
  exact((k x hx h1).symm fun _ _ _ he=>Bq he).trans (k y hy h2)
 ·rintro ⟨x,hx,hn⟩
  have hx:=fX.1 hx
  exact⟨o,ho.1,x,hx.1,ho.2,hx.2,hn⟩
theorem Gp{z:List Int}{m:Ks}(h:AE z m=[]):nB rows sl cl pr z m=false:=by
 cases q:nB rows sl cl pr z m with
 |false=>rfl
 |true=>
  obtain⟨x,hx,_,_,h1,_⟩:=iZ.1 q
  have:=fX.2 ⟨hx,h1⟩
  rw [h] at this;cases this
theorem Gu{z o x:List Int}(ho:o≠z)(h:RR (Ew rows sl cl pr z) o x):x≠z:=by
 obtain⟨c,h⟩:=h
 cases h with
 |here=>exact ho
 |go _ he=>
  obtain⟨⟨r,c,r',c',rfl,rfl,_⟩,hn⟩:=he
  exact(ib.1 hn).2.1.symm
theorem sub_lt{A B:Ks}(hA:A.Nodup)(hB:B.Nodup)(h:∀x∈A,x∈B):A.length<B.length↔∃x∈B,x∉A:=by
 have p:A.Perm (B.filter fun x=>decide (x∈A)):=(List.perm_ext_iff_of_nodup hA (hB.filter _)).2 fun x=>by
  rw [List.mem_filter,zzN];exact⟨fun z=>⟨h x z,z⟩,fun z=>z.2⟩
 rw [p.length_eq,List.length_filter_lt_length_iff_exists];simp
theorem xD{F:ba}{z:List Int}{m:Ks}:bb (fun x=>((Tg.one 0).put x [Ci.Slot.no,.val (ah z)]).bind fun aF=>(ax F (.cmp .ne (.var 0) (.var 1)) aF).bind fun t=>rY t fun t=>if t then(ax F (.var 0) aF).bind fun y=>.ok (some y) else .ok none) (m.map ah)=.ok ((AE z m).map ah):=
 iS fun x _=>by
  have:=Ot x z
  simp only [ag,aa,ae,ai,aN,ax,av,aV,aU,aw,az,ay,reduceIte,J,J2,this];cases(!decide (x=z))<;>rfl
theorem vH(F:ba)(hr:pq F)(L:Fl rows w){ks:Ks}{vs:List PV}(hG:∀u,dy rows u→Gd (E1 rows sl cl pr) ks vs u){m:Ks}{z u:List Int}(hu:dy rows u)(hm:cW (E1 rows sl cl pr) u m):ag F cq [.dct ks vs,lp m,ah z]=.ok (.bl (nB rows sl cl pr z m)):=by
 have lm:m.length<c8:=zzV (dq L hu hm) (by decide)
 have ec:=xD (F:=F) (z:=z) (m:=m)
 simp only [ag,aa,ae,ai,aN,ax,av,aV,aU,aw,az,ay,reduceIte,J,J2] at ec;cases hq:AE z m with
 |nil=>
  rw [Gp hq];rw [hq] at ec;simp only [cq,ag,aa,ae,ai,aN,ax,av,aV,aU,aw,az,ay,reduceIte,J,J2,zzl,lm,ec]
  rfl
 |cons o t=>
  have ho:o∈AE z m:=by rw [hq];exact zzP ..
  have Lb:=fX.1 ho
  obtain⟨kr,vr,e1,nd,hk⟩:=hr rows w L sl cl pr ks vs hG o z (room_in L hu ((hm.2 o).1 Lb.1))
  have e2:bw (lp (AE z m)) (.int 0)=.ok (ah o):=by rw [hq];exact Pj o t
  have e3:decide ((0:Int)<((AE z m).length:Int))=true:=zzh (by rw [hq,zzL];omega)
  have e4:decide ((kr.length:Int)<((AE z m).length:Int))=nB rows sl cl pr z m:=by
   rw [Bool.eq_iff_iff,iZ,Bu ho,zzN,Int.ofNat_lt,sub_lt nd (hm.1.nodup.filter _) fun x hx=>by
    have:=(hk x).1 hx
    exact fX.2 ⟨(hm.2 x).2 (((hm.2 o).1 Lb.1).trans (this.of fun _ _ e h=>⟨e,h.1⟩)),Gu Lb.2 this⟩]
   constructor
   ·rintro ⟨x,h1,h2⟩
    exact⟨x,h1,fun q=>h2 ((hk x).2 q)⟩
   ·rintro ⟨x,h1,h2⟩
    exact⟨x,h1,fun q=>h2 ((hk x).1 q)⟩
  simp only [cq,ag,aa,ae,ai,aN,ax,av,aV,aU,aw,az,ay,reduceIte,J,J2,zzl,lm,ec,e1,e2,e3,J6,e4]
def pZ(F:ba):Prop:=∀rows w,Fl rows w→∀sl cl pr ks vs,(∀u,dy rows u→Gd (E1 rows sl cl pr) ks vs u)→∀m z u,dy rows u→cW (E1 rows sl cl pr) u m→F "is_narrow" [.dct ks vs,lp m,ah z]=.ok (.bl (nB rows sl cl pr z m))
theorem u9:∀N:List Ks,(∀m∈N,m.Nodup)→(N.Pairwise fun m m'=>∀v,v∈m→v∉m')→N.flatten.Nodup
 |[],_,_=>List.nodup_nil
 |m::N,h,p=>by
  have p:=List.pairwise_cons.1 p
  rw [List.flatten_cons];refine List.nodup_append.2 ⟨h m (zzP ..),u9 N (fun x hx=>h x (zzI _ hx)) p.2,fun a ha b hb Kt=>?_⟩
  obtain⟨m',h1,h2⟩:=List.mem_flatten.1 hb
  exact p.1 m' h1 a ha (Kt▸h2)
theorem xk(L:Fl rows w){N:Ks}(nd:N.Nodup)(h:∀v∈N,dy rows v):N.length≤36:=by
 have a:=tU (U:=uk) N [] nd fun x hx=>⟨by simp,Ib L (h x hx)⟩
 have l0:pJ uk []≤36:=by rw [←js];exact List.length_filter_le ..
 simp only [List.nil_append,List.length_nil,Nat.zero_add] at a;omega
def MG:Ss:=(.cons (.extd 3 (.compIf 1 [4,2] (.one 0) (.seq (.var 4)) (.call "is_narrow" (.cons (.var 2) (.cons (.var 1) (.cons (.var 0) .nil)))) (.var 0)))
 .nil)
def DS(f:List PV→Res PV):Prop:=∀rows w,Fl rows w→∀sl cl pr,Wk cl pr→∀K,ic K→(∀v,v∈K↔dy rows v)→∃S,f [fl rows,wk sl cl pr]=.ok (lp S)∧ic S∧(∀v∈S,v∈K)∧∀v∈K,∀m,cW (E1 rows sl cl pr) v m→decide (v∈S)=nB rows sl cl pr v m
def vE(F:ba):Prop:=DS (F "narrow_spots")
theorem Iz(F:ba)(OR:sM F)(xE:eV F)(Pr:pZ F):DS (ag F bU):=by
 intro rows w L sl cl pr V K hK hO;obtain⟨ks,vs,e1,hG⟩:=OR rows w L sl cl pr V
 obtain⟨M,e2,R⟩:=xE rows w L sl cl pr V K hK hO
 have J7:K.length≤36:=xk L hK.nodup fun v hv=>(hO v).1 hv
 have sy:∀{a b:List Int},RR (E1 rows sl cl pr) a b→RR (E1 rows sl cl pr) b a:=fun h=>h.symm fun _ _ _ he=>oX he
 let fm:Ks→Ks:=fun m=>m.filter fun v=>nB rows sl cl pr v m
 have Jn:∀m∈M,∃u,dy rows u∧cW (E1 rows sl cl pr) u m:=fun m hm=>by
  obtain⟨u,h1,_,h2⟩:=R.rm m hm
  exact⟨u,(hO u).1 h1,h2⟩
 have NT:∀m∈M,((fm m).map ah).length≤36:=fun m hm=>by
  obtain⟨u,h1,h2⟩:=Jn m hm
  rw [zzl];exact zzU (List.length_filter_le ..) (dq L h1 h2)
 obtain⟨s,e3⟩:=eG (body:=fun x env=>((Tg.one 4).put x env).bind fun aF=>ai F MG aF) (g:=lp) (mk:=fun acc (s:Ci.Slot)=>[.val (fl rows),.val (wk sl cl pr),.val (.dct ks vs),.own (.lst acc),s]) (app:=fun m=>(fm m).map ah) (m:=36) (M:=2000) M [] .no NT (fun m hm acc s ha=>by
  obtain⟨u,h1,h2⟩:=Jn m hm
  have lm:m.length<c8:=zzV (dq L h1 h2) (by decide)
  have la:acc.length+(fm m).length≤c8:=by
   have:=NT m hm
   rw [zzl] at this;exact zzU (m:=2000) (by omega) (by decide)
  refine⟨.val (lp m),?_⟩;simp only [MG,ag,aa,ae,ai,aN,ax,av,aV,aU,aw,az,ay,reduceIte,J,J2,zzl,lm];rw [iS (p:=ah) (b:=fun v=>nB rows sl cl pr v m) (fun v _=>by
   have q:=Pr rows w L sl cl pr ks vs hG m v u h1 h2
   simp only [ag,aa,ae,ai,aN,ax,av,aV,aU,aw,az,ay,reduceIte,J,J2,q];cases nB rows sl cl pr v m<;>rfl)]
  simp only [ag,aa,ae,ai,aN,ax,av,aV,aU,aw,az,ay,reduceIte,J,J2,zzl];rw [if_pos la]
  rfl) (by
  have:=R.len
  rw [List.length_nil];omega)
 have ef:(M.flatMap fun m=>(fm m).map ah)=(M.map fm).flatten.map ah:=by
  rw [List.map_flatten,List.map_map,List.flatMap_def]
  rfl
 have mN:∀v,v∈(M.map fm).flatten↔∃m∈M,v∈m∧nB rows sl cl pr v m=true:=fun v=>by
  rw [List.mem_flatten]
  constructor
  ·rintro ⟨x,hx,hv⟩
   obtain⟨m,hm,rfl⟩:=List.mem_map.1 hx
   exact⟨m,hm,(List.mem_filter.1 hv).1,(List.mem_filter.1 hv).2⟩
  ·rintro ⟨m,hm,h1,h2⟩
   exact⟨fm m,List.mem_map.2 ⟨m,hm,rfl⟩,List.mem_filter.2 ⟨h1,h2⟩⟩
 have oN:∀v∈(M.map fm).flatten,dy rows v:=fun v hv=>by
  obtain⟨m,hm,h1,_⟩:=(mN v).1 hv
  obtain⟨u,h2,h3⟩:=Jn m hm
  exact room_in L h2 ((h3.2 v).1 h1)
 have NU:(M.map fm).flatten.Nodup:=u9 _ (fun x hx=>by
  obtain⟨m,hm,rfl⟩:=List.mem_map.1 hx
  obtain⟨u,_,h3⟩:=Jn m hm
  exact h3.1.nodup.filter _) (List.pairwise_map.2 (R.dj.imp fun h v hv Pt=>h v (List.mem_filter.1 hv).1 (List.mem_filter.1 Pt).1))
 obtain⟨S,e4,hS,sS⟩:=vW NU (by have:=xk L NU oN;omega) (fun k hk=>by
  obtain⟨_,_,rfl,_⟩:=oN k hk
  simp)
 refine⟨S,?_,sS,fun v hv=>(hO v).2 (oN v ((hS v).1 hv)),fun v hv m hm=>?_⟩
 ·rw [List.nil_append,ef] at e3;simp only [MG,ag,aa,ae,ai,aN,ax,av,aV,aU,aw,az,ay,reduceIte,J,J2] at e3;simp only [bU,ag,aa,ae,ai,aN,ax,av,aV,aU,aw,az,ay,reduceIte,J,J2,e1,e2,iC,e3,e4]
 ·rw [Bool.eq_iff_iff,zzN,hS,mN];have un:∀m'∈M,v∈m'→m'=m:=fun m' h1 h2=>by
   obtain⟨u,h3,h4⟩:=Jn m' h1
   refine eW h4.1 hm.1 fun x=>(h4.2 x).trans (Iff.trans ⟨fun h=>?_,fun h=>?_⟩ (hm.2 x).symm)
   ·exact(sy ((h4.2 v).1 h2)).trans h
   ·exact((h4.2 v).1 h2).trans h
  constructor
  ·rintro ⟨m',h1,h2,h3⟩
   rw [←un m' h1 h2];exact h3
  ·intro h;obtain⟨m',h1,h2⟩:=R.cov v hv
   exact⟨m',h1,h2,by rw [un m' h1 h2];exact h⟩
end
def cz(rows:List Str)(r c:Int):Option Nat:=if 0≤r∧0≤c then cd rows r.toNat c.toNat else none
theorem zU{rows:List Str}{r c:Int}:cM rows r c=match cz rows r c with|some x=>x !=35|none=>false:=by
 unfold cz cM zd
 by_cases h0:0≤r
 ·by_cases h1:0≤c
  ·rw [zzh h0,zzh h1,if_pos ⟨h0,h1⟩]
   rfl
  ·rw [decide_eq_false h1,if_neg fun z=>h1 z.2,Bool.and_false]
   rfl
 ·rw [decide_eq_false h0,if_neg fun z=>h0 z.1]
  rfl
theorem zI{rows:List Str}{r c:Int}(h:cM rows r c=true):cV rows r c=match cz rows r c with|some x=>(x:Int)-48|none=>0:=by
 obtain⟨a,b,_⟩:=jw.1 h
 unfold cz;rw [if_pos ⟨a,b⟩]
 rfl
def gT(y H W r c:Int):Int×Int:=if y=0 then(r,W-1-c) else if y=1 then(H-1-r,c) else(c,r)
noncomputable def gL(y H W:Int):List Int→List Int
 |[r,c]=>[(gT y H W r c).1,(gT y H W r c).2]
 |l=>l
structure Tw(y H W:Int)(rows aH:List Str):Prop where
 pt:∀r c,cz aH (gT y H W r c).1 (gT y H W r c).2=cz rows r c
theorem DH(y H W r c:Int):gT y H W (gT y H W r c).1 (gT y H W r c).2=(r,c):=by
 unfold gT
 by_cases h0:y=0
 ·simp only [h0,if_true,Prod.mk.injEq,true_and];omega
 ·by_cases h1:y=1
  ·simp only [h1,if_true,show((1:Int)=0)=False by decide,if_false,Prod.mk.injEq,and_true];omega
  ·simp only [h0,h1,if_false]
theorem Tw.symm{y H W:Int}{rows aH:List Str}(T:Tw y H W rows aH):Tw y H W aH rows:=⟨fun r c=>by
 have:=T.pt (gT y H W r c).1 (gT y H W r c).2
 rw [DH] at this;exact this.symm⟩
theorem Tw.op{y H W:Int}{rows aH:List Str}(T:Tw y H W rows aH)(r c:Int):cM aH (gT y H W r c).1 (gT y H W r c).2=cM rows r c:=by
 rw [zU,zU,T.pt]
theorem Tw.hg{y H W:Int}{rows aH:List Str}(T:Tw y H W rows aH){r c:Int}(h:cM rows r c=true):cV aH (gT y H W r c).1 (gT y H W r c).2=cV rows r c:=by
 rw [zI h,zI (by rw [T.op];exact h),T.pt]
theorem Tw.e{y H W:Int}{rows aH:List Str}(T:Tw y H W rows aH){sl:Bool}{cl pr:Int}{u v:List Int}{e:Int}(h:E1 rows sl cl pr u v e):E1 aH sl cl pr (gL y H W u) (gL y H W v) e:=by
 obtain⟨r,c,r',c',rfl,rfl,h3,h4,h5⟩:=h
 rw [dM] at h5;obtain⟨a1,a2,a3,a4,a5⟩:=h5
 refine⟨_,_,_,_,rfl,rfl,by rw [T.op];exact h3,by rw [T.op];exact h4,?_⟩;have hd:((gT y H W r c).1≠(gT y H W r' c').1∧(gT y H W r c).2≠(gT y H W r' c').2)↔(r≠r'∧c≠c'):=by
  unfold gT;split
  ·simp only [];omega
  ·split
   ·simp only [];omega
   ·exact And.comm
 rw [dM,T.hg h3,T.hg h4];refine⟨?_,fun z=>?_,a3,a4,?_⟩
 ·unfold far at a1⊢;unfold gT;split
  ·simp only [];omega
  ·split
   ·simp only [];omega
   ·simp only [];omega
 ·obtain⟨b1,b2,b3⟩:=a2 (hd.1 z)
  rw [←T.op] at b2 b3;refine⟨b1,?_⟩
  clear z hd a5
  unfold gT at b2 b3⊢;split at b2
  ·rename_i q;simp only [q,if_true] at b3⊢;exact⟨b2,b3⟩
  ·rename_i q;split at b2
   ·rename_i q1;simp only [q1,if_true,show((1:Int)=0)=False by decide,if_false] at b3⊢;exact⟨b2,b3⟩
   ·rename_i q1;simp only [q,q1,if_false] at b3⊢;exact⟨b3,b2⟩
 ·rw [a5]
  by_cases hq:r≠r'∧c≠c'
  ·rw [if_pos hq,if_pos (hd.2 hq)]
  ·rw [if_neg hq,if_neg fun z=>hq (hd.1 z)]
theorem EE(y H W r c:Int):gL y H W (gL y H W [r,c])=[r,c]:=by
 show [(gT y H W (gT y H W r c).1 (gT y H W r c).2).1,(gT y H W (gT y H W r c).1 (gT y H W r c).2).2]=_
 rw [DH]
theorem Nt{rows:List Str}{w:Nat}(L:Fl rows w):∃z,bw (fl rows) (.int 0)=.ok (.str z)∧z.length=w∧z.length≤c8:=by
 have hz:rows[0]?=some (rows[0]'L.ne):=zzg L.ne
 have hm:=zzD hz
 exact⟨_,Am (j:=0) hz,L.rect _ hm,zzU (L.rok.2 _ hm) (by decide)⟩
theorem F8(x:Nat):gq (.str ⟨#[x]⟩) (.str "#")=.ok (.bl (!(x !=35))):=by
 have:(("#":Str))=⟨#[35]⟩:=by decide+kernel
 rw [this];show Res.ok (PV.bl ((⟨#[x]⟩:Str)==⟨#[35]⟩))=_
 congr 2
 rw [bne,Bool.not_not,Bool.eq_iff_iff];simp
theorem FJ{rows:List Str}(i j:Nat):cz rows i j=cd rows i j:=by
 unfold cz;rw [if_pos ⟨Int.natCast_nonneg _,Int.natCast_nonneg _⟩]
 rfl
theorem xT{rows:List Str}{w:Nat}(L:Fl rows w){r c:Int}(h:¬(0≤r∧r<rows.length∧0≤c∧c<w)):cz rows r c=none:=by
 unfold cz
 by_cases h0:0≤r∧0≤c
 ·rw [if_pos h0];unfold cd;cases hz:rows[r.toNat]? with
  |none=>rfl
  |some z=>
   have h1:=(zzH.1 hz).1
   have hl:=L.rect _ (zzD hz)
   show z.cps.toList[c.toNat]?=none
   rw [List.getElem?_eq_none_iff,zzd];have:z.cps.size=w:=hl
   omega
 ·rw [if_neg h0]
theorem xQ{y:Int}{rows aH:List Str}{w w':Nat}(L:Fl rows w)(L':Fl aH w')(hb:∀r c:Int,(0≤r∧r<rows.length∧0≤c∧c<w)↔(0≤(gT y rows.length w r c).1∧(gT y rows.length w r c).1<aH.length∧0≤(gT y rows.length w r c).2∧(gT y rows.length w r c).2<w'))(hi:∀i j:Nat,i<rows.length→j<w→cd aH (gT y rows.length w i j).1.toNat (gT y rows.length w i j).2.toNat=cd rows i j):Tw y rows.length w rows aH:=⟨fun r c=>by
 by_cases h:0≤r∧r<rows.length∧0≤c∧c<w
 ·have h':=(hb r c).1 h
  obtain⟨i,rfl⟩:=Int.eq_ofNat_of_zero_le h.1
  obtain⟨j,rfl⟩:=Int.eq_ofNat_of_zero_le h.2.2.1
  rw [FJ,←hi i j (by omega) (by omega)];unfold cz;rw [if_pos ⟨h'.1,h'.2.2.1⟩]
 ·rw [xT L h,xT L' fun z=>h ((hb r c).2 z)]⟩
theorem qj(z:Str):(eR z).length=z.length:=by simp [eR,Str.length]
theorem xX{rows:List Str}{w:Nat}(L:Fl rows w):Fl rows.reverse w:=⟨⟨by rw [List.length_reverse];exact L.rok.1,fun z hz=>L.rok.2 z (List.mem_reverse.1 hz)⟩,by rw [List.length_reverse];exact L.ne,L.w1,fun z hz=>L.rect z (List.mem_reverse.1 hz),fun z hz=>L.dig z (List.mem_reverse.1 hz)⟩
theorem zR{rows:List Str}{w:Nat}(L:Fl rows w):Fl (rows.map eR) w:=by
 refine⟨⟨by rw [zzl];exact L.rok.1,fun z hz=>?_⟩,by rw [zzl];exact L.ne,L.w1,fun z hz=>?_,fun z hz x hx=>?_⟩<;>obtain⟨y,hy,rfl⟩:=List.mem_map.1 hz
 ·rw [qj];exact L.rok.2 y hy
 ·rw [qj];exact L.rect y hy
 ·refine L.dig y hy x ?_
  simpa [eR] using hx
theorem Qp{rows:List Str}{w:Nat}(L:Fl rows w):Tw 1 rows.length w rows rows.reverse:=by
 refine xQ L (xX L) (fun r c=>?_) fun i j hi hj=>?_
 ·simp only [gT,show((1:Int)=0)=False by decide,if_false,if_true,List.length_reverse];omega
 ·simp only [gT,show((1:Int)=0)=False by decide,if_false,if_true,Int.toNat_natCast];unfold cd;have:((rows.length:Int)-1-i).toNat=rows.length-1-i:=by omega
  rw [this,List.getElem?_reverse (by omega)]
  congr 2
  omega
theorem OC{rows:List Str}{w:Nat}(L:Fl rows w):Tw 0 rows.length w rows (rows.map eR):=by
 refine xQ L (zR L) (fun r c=>?_) fun i j hi hj=>?_
 ·simp only [gT,if_true,zzl];omega
 ·simp only [gT,if_true,Int.toNat_natCast];unfold cd;rw [zzQ];cases hz:rows[i]? with
  |none=>rfl
  |some z=>
   have hl:z.cps.size=w:=L.rect _ (zzD hz)
   have:((w:Int)-1-j).toNat=w-1-j:=by omega
   show(eR z).cps.toList[_]?=z.cps.toList[j]?
   rw [this];show z.cps.toList.reverse[_]?=_
   rw [List.getElem?_reverse (by rw [zzd];omega),zzd]
   congr 1
   omega
def kg(rows:List Str)(j:Nat):List Nat:=rows.map fun z=>(z.cps.toList[j]?).getD 0
def i7(rows:List Str)(w:Nat):List Str:=(List.range w).map fun j=>⟨(kg rows j).toArray⟩
theorem q8:∀(xs:List Nat) (acc:Array Nat),(xs.map fun x=>(⟨#[x]⟩:Str)).foldl (fun acc p=>acc++("":Str).cps++p.cps) acc=acc++xs.toArray
 |[],acc=>by simp
 |x::xs,acc=>by
  rw [zzF,List.foldl_cons,q8 xs];have:(("":Str)).cps=#[]:=by decide+kernel
  rw [this]
  apply Array.ext'
  simp
theorem join_one(xs:List Nat):Txt.join "" (xs.map fun x=>(⟨#[x]⟩:Str))=⟨xs.toArray⟩:=by
 cases xs with
 |nil=>rfl
 |cons x xs=>
  show(⟨List.foldl _ (#[x]:Array Nat) (xs.map _)⟩:Str)=_
  rw [q8]
  congr 1
  apply Array.ext'
  simp
theorem strs_map{α:Type}(f:α→Str):∀xs:List α,strsOf (xs.map fun x=>PV.str (f x))=some (xs.map f)
 |[]=>rfl
 |x::xs=>by simp only [zzF,strsOf,strs_map f xs,Option.map_some]
theorem nH{rows:List Str}{w:Nat}(L:Fl rows w){j:Nat}(hj:j<w){z:Str}(hz:z∈rows):z.cps.toList[j]?=some ((z.cps.toList[j]?).getD 0):=by
 have hl:z.cps.size=w:=L.rect _ hz
 have:j<z.cps.toList.length:=by rw [zzd];omega
 rw [zzg this]
 rfl
theorem xF{rows:List Str}{w:Nat}(L:Fl rows w):Fl (i7 rows w) rows.length:=by
 have w6:w≤6:=by
  have h:=List.getElem_mem L.ne
  rw [←L.rect _ h];exact L.rok.2 _ h
 have len:∀j,(⟨(kg rows j).toArray⟩:Str).length=rows.length:=fun j=>by simp [Str.length,kg]
 refine⟨⟨by simpa [i7] using w6,fun z hz=>?_⟩,by simp only [i7,zzl,List.length_range];exact L.w1,L.ne,fun z hz=>?_,fun z hz x hx=>?_⟩<;>obtain⟨j,hj,rfl⟩:=List.mem_map.1 hz
 ·rw [len];exact L.rok.1
 ·exact len j
 ·obtain⟨y,hy,rfl⟩:=List.mem_map.1 (show x∈kg rows j by simpa using hx)
  exact L.dig y hy _ (zzD (nH L (List.mem_range.1 hj) hy))
theorem Pb{rows:List Str}{w:Nat}(L:Fl rows w):Tw 2 rows.length w rows (i7 rows w):=by
 have g2:∀r c:Int,gT 2 rows.length w r c=(c,r):=fun r c=>rfl
 refine xQ L (xF L) (fun r c=>?_) fun i j hi hj=>?_
 ·rw [g2];simp only [i7,zzl,List.length_range];omega
 ·rw [g2];simp only [Int.toNat_natCast];unfold cd i7;rw [zzQ,List.getElem?_range hj];show(kg rows j).toArray.toList[i]?=_
  show(kg rows j)[i]?=_
  unfold kg;rw [zzQ];cases hz:rows[i]? with
  |none=>rfl
  |some z=>exact(nH L hj (zzD hz)).symm
theorem wM(F:ba){rows:List Str}{w:Nat}(L:Fl rows w){y:Int}(h0:0≤y)(h3:y<3):∃aH w',ag F aO [fl rows,.int y]=.ok (fl aH)∧Fl aH w'∧Tw y rows.length w rows aH:=by
 have l6:rows.length<c8:=zzV L.rok.1 (by decide)
 have tl:cJ .tuple [.lst ((rows.map eR).map PV.str)]=.ok (fl (rows.map eR)):=rfl
 obtain rfl|rfl|rfl:y=0∨y=1∨y=2:=by omega
 ·refine⟨_,_,?_,zR L,OC L⟩;simp only [aO,ag,aa,ae,ai,aN,ax,av,aV,aU,aw,az,ay,reduceIte,J,J2,zzl,l6];rw [cT (p:=PV.str) (g:=fun z=>PV.str (eR z)) (fun z hz=>by
   have hz:z.length≤c8:=zzU (L.rok.2 z hz) (by decide)
   simp only [ag,aa,ae,ai,aN,ax,av,aV,aU,aw,az,ay,reduceIte,J,J2,hz])]
  simp only [ag,aa,ae,ai,aN,ax,av,aV,aU,aw,az,ay,reduceIte,J,J2];show Res.ok (PV.tup _)=Res.ok (PV.tup ((rows.map eR).map PV.str))
  rw [List.map_map]
  rfl
 ·refine⟨_,_,?_,xX L,Qp L⟩;have e1:((1:Int)==0)=false:=by decide
  simp only [aO,ag,aa,ae,ai,aN,ax,av,aV,aU,aw,az,ay,reduceIte,J,J2,e1];show Res.ok (PV.tup (rows.map PV.str).reverse)=Res.ok (PV.tup (rows.reverse.map PV.str))
  rw [List.map_reverse]
 ·refine⟨_,_,?_,xF L,Pb L⟩;have e1:((2:Int)==0)=false:=by decide
  have e2:((2:Int)==1)=false:=by decide
  obtain⟨z0,f1,f2,f3⟩:=Nt L
  have w6:z0.length≤6:=by
   rw [f2];have h:=List.getElem_mem L.ne
   rw [←L.rect _ h];exact L.rok.2 _ h
  have s6:bj (z0.length:Int)=true:=by
   unfold bj;rw [zza,zzN,zzN];omega
  have rg:ff 0 ((z0.length:Int)).toNat=(List.range w).map fun i:Nat=>PV.int (i:Int):=by
   rw [f2];unfold ff;refine List.map_congr_left fun i _=>?_
   rw [Int.zero_add]
  have wl:w<c8:=zzV (m:=6) (by omega) (by decide)
  simp only [aO,ag,aa,ae,ai,aN,ax,av,aV,aU,aw,az,ay,reduceIte,J,J2,e1,e2,f1,f3,s6,rg,zzl,List.length_range,wl];rw [cT (p:=fun i:Nat=>PV.int (i:Int)) (g:=fun j:Nat=>PV.str ⟨(kg rows j).toArray⟩) (fun j hj=>by
   have hj:=List.mem_range.1 hj
   simp only [ag,aa,ae,ai,aN,ax,av,aV,aU,aw,az,ay,reduceIte,J,J2,zzl,l6];rw [cT (p:=PV.str) (g:=fun z=>PV.str ⟨#[(z.cps.toList[j]?).getD 0]⟩) (fun z hz=>by
    have e:=tH (z:=z) (i:=j) (zzU (L.rok.2 z hz) (by decide)) (nH L hj hz)
    simp only [ag,aa,ae,ai,aN,ax,av,aV,aU,aw,az,ay,reduceIte,J,J2,e])]
   have st:=strs_map (fun z:Str=>(⟨#[(z.cps.toList[j]?).getD 0]⟩:Str)) rows
   have ln:("":Str).length≤16∧((rows.map fun z:Str=>(⟨#[(z.cps.toList[j]?).getD 0]⟩:Str)).map (·.length)).sum+(rows.map fun z:Str=>(⟨#[(z.cps.toList[j]?).getD 0]⟩:Str)).length≤c8:=by
    refine⟨by decide+kernel,?_⟩;have h1:∀l:List Str,((l.map fun z:Str=>(⟨#[(z.cps.toList[j]?).getD 0]⟩:Str)).map (·.length)).sum=l.length:=fun l=>by
     induction l with
     |nil=>rfl
     |cons a l ih=>
      rw [zzF,zzF,List.sum_cons,ih,zzL];show 1+l.length=_
      omega
    rw [h1,zzl];exact zzU (m:=12) (by have:=L.rok.1;omega) (by decide)
   have jn:Txt.join "" (rows.map fun z:Str=>(⟨#[(z.cps.toList[j]?).getD 0]⟩:Str))=⟨(kg rows j).toArray⟩:=by
    rw [←join_one];unfold kg;rw [List.map_map]
    rfl
   have mj:mI .join [.str "",.lst (rows.map fun z:Str=>PV.str ⟨#[(z.cps.toList[j]?).getD 0]⟩)]=.ok (.str ⟨(kg rows j).toArray⟩):=by
    show(Res.of (strsOf _)).bind _=_
    rw [st];show(if _ then _ else _)=_
    rw [if_pos ln,jn]
   simp only [ag,aa,ae,ai,aN,ax,av,aV,aU,aw,az,ay,reduceIte,J,J2,mM,mj])]
  simp only [ag,aa,ae,ai,aN,ax,av,aV,aU,aw,az,ay,reduceIte,J,J2];show Res.ok (PV.tup _)=Res.ok (PV.tup ((i7 rows w).map PV.str))
  unfold i7;rw [List.map_map]
  rfl
theorem CU(F:ba){rows:List Str}{w:Nat}(L:Fl rows w){y:Int}(h0:0≤y)(h3:y<3)(r c:Int):ag F aS [fl rows,.int y,sp r c]=.ok (ah (gL y rows.length w [r,c])):=by
 obtain⟨z0,f1,f2,f3⟩:=Nt L
 have Om:(z0.length:Int)=(w:Int):=by rw [f2]
 obtain rfl|rfl|rfl:y=0∨y=1∨y=2:=by omega
 ·simp only [aS,ag,aa,ae,ai,aN,ax,av,aV,aU,aw,az,ay,reduceIte,J,J2,f1,Om,f3]
  rfl
 ·have e1:((1:Int)==0)=false:=by decide
  simp only [aS,ag,aa,ae,ai,aN,ax,av,aV,aU,aw,az,ay,reduceIte,J,J2,e1,zzl]
  rfl
 ·have e1:((2:Int)==0)=false:=by decide
  have e2:((2:Int)==1)=false:=by decide
  simp only [aS,ag,aa,ae,ai,aN,ax,av,aV,aU,aw,az,ay,reduceIte,J,J2,e1,e2]
  rfl
abbrev P2(m:Ks):Prop:=∀k∈m,k.length=2
theorem j7:∀{a b:Ks},P2 a→P2 b→a.flatten=b.flatten→a=b
 |[],[],_,_,_=>rfl
 |[],y::ys,_,h,e=>by
  match y,h y (.head _),e with
  |[_,_],_,e=>cases e
 |x::xs,[],h,_,e=>by
  match x,h x (.head _),e with
  |[_,_],_,e=>cases e
 |x::xs,y::ys,h,k,e=>by
  have t:=j7 (a:=xs) (b:=ys) (fun z hz=>h z (.tail _ hz)) fun z hz=>k z (.tail _ hz)
  match x,h x (.head _),y,k y (.head _),e with
  |[p,q],_,[r,s],_,e=>
   simp only [List.flatten_cons,List.cons_append,List.nil_append,List.cons.injEq] at e;rw [e.1,e.2.1,t e.2.2]
theorem map_inj:∀{S T:List Ks},(∀m∈S,P2 m)→(∀m∈T,P2 m)→S.map List.flatten=T.map List.flatten→S=T
 |[],[],_,_,_=>rfl
 |[],_::_,_,_,e=>by cases e
 |_::_,[],_,_,e=>by cases e
 |x::S,y::T,h,k,e=>by
  rw [zzF,zzF,List.cons.injEq] at e;rw [j7 (h x (.head _)) (k y (.head _)) e.1,map_inj (fun m hm=>h m (.tail _ hm)) (fun m hm=>k m (.tail _ hm)) e.2]
theorem lI{S T:List Ks}(h:∀m∈S,P2 m)(k:∀m∈T,P2 m)(s:ic (S.map List.flatten))(t:ic (T.map List.flatten))(e:∀m,m∈S↔m∈T):S=T:=
 map_inj h k (eW s t fun x=>by simp only [List.mem_map,e])
theorem tM:∀M:List Ks,rR (M.map fun m=>.lst (m.map ah))=some M
 |[]=>rfl
 |m::M=>by simp only [zzF,rR,fZ,tM M,Option.bind_some,Option.map_some]
theorem kI{M:List Ks}(h:∀m∈M,P2 m)(nd:M.Nodup)(hl:M.length<64):∃S:List Ks,cJ .sortedL [iC M]=.ok (iC S)∧(∀m,m∈S↔m∈M)∧ic (S.map List.flatten):=by
 have nf:(M.map List.flatten).Nodup:=List.pairwise_map.2 (List.Pairwise.imp_of_mem (fun ha hb hn z=>hn (j7 (h _ ha) (h _ hb) z)) nd)
 obtain⟨e,P,s⟩:=oM ([]:Ks) (fun m:Ks=>PV.lst (m.map ah)) List.flatten nf
 refine⟨_,?_,fun m=>P.mem_iff,s⟩
 show(Res.of (rR (M.map fun m=>.lst (m.map ah)))).bind _=_
 rw [tM];show(if _ then Res.ok (PV.lst _) else _)=_
 rw [if_pos (by
  rw [zza,zzN,zzl,zzT];exact⟨hl,fun m hm=>zzT.2 fun k hk=>beq_iff_eq.2 (h m hm k hk)⟩),e]
theorem fE{f:PV→PV→Bool}:∀xs:List PV,(∀x∈xs,f x x=true)→eqs f xs xs=true
 |[],_=>rfl
 |x::xs,h=>by rw [eqs,h x (.head _),fE xs fun y hy=>h y (.tail _ hy)];rfl
theorem DF(M:List Ks):pln (iC M)=true:=by
 show(M.map fun m=>PV.lst (m.map ah)).all (Ci.plain 8)=true
 rw [List.all_map,zzT];exact fun m _=>hZ 6 m
theorem D8(M:List Ks):eqv (iC M) (iC M)=true:=by
 show eqs (ip 8) _ _=true
 refine fE _ fun x hx=>?_
 obtain⟨m,_,rfl⟩:=List.mem_map.1 hx
 show eqs (ip 7) _ _=true
 rw [il,zzh rfl]
theorem JC(M:List Ks):gP (iC M) (iC M)=.ok (.bl false):=by
 unfold gP;rw [DF,D8]
 rfl
theorem B6(M:List Ks):gq (iC M) (iC M)=.ok (.bl true):=by
 unfold gq;rw [DF,D8]
 rfl
theorem nY{rows:List Str}{w:Nat}(L:Fl rows w){sl:Bool}{cl pr:Int}{K:Ks}{M:List Ks}(hO:∀v,v∈K↔dy rows v)(R:mY (E1 rows sl cl pr) K M):∀m∈M,P2 m:=fun m hm k hk=>by
 obtain⟨u,hu,_,h⟩:=R.rm m hm
 obtain⟨r,c,rfl,_⟩:=room_in L ((hO u).1 hu) ((h.2 k).1 hk)
 rfl
theorem Ed{E:List Int→List Int→Int→Prop}{K:Ks}{M:List Ks}(R:mY E K M):M.Nodup:=
 List.Pairwise.imp_of_mem (fun{a b} ha hb hn z=>by
  obtain⟨u,_,h,_⟩:=R.rm a ha
  have:u∈a:=List.mem_of_mem_head? (by rw [h];rfl)
  exact hn u this (z▸this)) R.dj
theorem uF{rows:List Str}{w:Nat}(L:Fl rows w){sl:Bool}{cl pr:Int}{K:Ks}{M:List Ks}(hO:∀v,v∈K↔dy rows v)(R:mY (E1 rows sl cl pr) K M):ic (M.map List.flatten):=by
 refine List.pairwise_map.2 (List.Pairwise.imp_of_mem (fun{a b} ha hb hn=>?_) (List.pairwise_map.1 R.hs));have go:∀m∈M,∃k t,m=k::t∧k.length=2:=fun m hm=>by
  obtain⟨u,_,h,_⟩:=R.rm m hm
  cases m with
  |nil=>cases h
  |cons k t=>exact⟨k,t,rfl,nY L hO R _ hm k (.head _)⟩
 obtain⟨k,t,rfl,hk⟩:=go a ha
 obtain⟨k',t',rfl,hk'⟩:=go b hb
 rw [List.flatten_cons,List.flatten_cons,iR _ _ (hk.trans hk'.symm)];have hn:HT.lexLt k k'=true:=hn
 rw [if_neg (fun z=>by rw [z,jZ] at hn;cases hn)];exact hn
section
variable{rows:List Str}{w:Nat}{sl:Bool}{cl pr:Int}
theorem L3{a b:List Int}(h:RR (E1 rows sl cl pr) a b):RR (E1 rows sl cl pr) b a:=h.symm fun _ _ _ he=>oX he
theorem gW{K:Ks}{M:List Ks}(R:mY (E1 rows sl cl pr) K M){u:List Int}(hu:u∈K):∃m∈M,cW (E1 rows sl cl pr) u m:=by
 obtain⟨m,hm,h⟩:=R.cov u hu
 obtain⟨x,_,_,hr⟩:=R.rm m hm
 exact⟨m,hm,hr.1,fun v=>(hr.2 v).trans ⟨fun z=>(L3 ((hr.2 u).1 h)).trans z,fun z=>((hr.2 u).1 h).trans z⟩⟩
theorem mn{E:List Int→List Int→Int→Prop}{u:List Int}{m m':Ks}(h:cW E u m)(k:cW E u m'):m=m':=eW h.1 k.1 fun v=>(h.2 v).trans (k.2 v).symm
theorem n5{K:Ks}{M:List Ks}(R:mY (E1 rows sl cl pr) K M){u:List Int}(hu:u∈K){m:Ks}(h:cW (E1 rows sl cl pr) u m):m∈M:=by
 obtain⟨m',hm,h'⟩:=gW R hu
 rw [mn h h'];exact hm
theorem Ai(L:Fl rows w){K:Ks}{M M':List Ks}(hO:∀v,v∈K↔dy rows v)(R:mY (E1 rows sl cl pr) K M)(R':mY (E1 rows sl cl pr) K M'):M=M':=
 lI (nY L hO R) (nY L hO R') (uF L hO R) (uF L hO R') fun m=>⟨fun h=>by
  obtain⟨u,hu,_,hr⟩:=R.rm m h
  exact n5 R' hu hr,fun h=>by
  obtain⟨u,hu,_,hr⟩:=R'.rm m h
  exact n5 R hu hr⟩
end
theorem RR.map{E E':List Int→List Int→Int→Prop}(g:List Int→List Int)(hE:∀u v e,E u v e→E' (g u) (g v) e){u v:List Int}(h:RR E u v):RR E' (g u) (g v):=by
 obtain⟨c,h⟩:=h
 induction h with
 |here=>exact eU ..
 |go _ he ih=>obtain⟨x,hx⟩:=ih;exact⟨_,.go hx (hE _ _ _ he)⟩
theorem IS(y H W r c r' c' a b:Int)(h:vM [r,c] [r',c'] [a,b]=false):vM (gL y H W [r,c]) (gL y H W [r',c']) (gL y H W [a,b])=false:=by
 rw [ib] at h;simp only [gL];rw [ib];simp only [ne_eq,List.cons.injEq,and_true] at h⊢;unfold gT;split
 ·dsimp only;omega
 ·split
  ·dsimp only;omega
  ·dsimp only;omega
section
variable{y H W:Int}{rows aH:List Str}{w w':Nat}{sl:Bool}{cl pr:Int}
theorem Tw.ew(T:Tw y H W rows aH){z u v:List Int}{e:Int}(hz:dy rows z)(h:Ew rows sl cl pr z u v e):Ew aH sl cl pr (gL y H W z) (gL y H W u) (gL y H W v) e:=by
 refine⟨T.e h.1,?_⟩;obtain⟨a,b,rfl,_⟩:=hz
 obtain⟨r,c,r',c',rfl,rfl,_⟩:=h.1
 exact IS _ _ _ _ _ _ _ _ _ h.2
theorem Tw.opl(T:Tw y H W rows aH){u:List Int}(h:dy rows u):dy aH (gL y H W u):=by
 obtain⟨r,c,rfl,h⟩:=h
 exact⟨_,_,rfl,by rw [T.op];exact h⟩
theorem cx{u:List Int}(h:dy rows u):gL y H W (gL y H W u)=u:=by
 obtain⟨r,c,rfl,h⟩:=h
 exact EE ..
theorem Tw.rr(T:Tw y H W rows aH){u v:List Int}(h:RR (E1 rows sl cl pr) u v):RR (E1 aH sl cl pr) (gL y H W u) (gL y H W v):=h.map (gL y H W) fun _ _ _=>T.e
noncomputable def tm(y H W:Int)(m:Ks):Ks:=gR [] (m.map (gL y H W)) (m.map (gL y H W))
theorem qg{m:Ks}(hm:m.Nodup)(h:∀v∈m,dy rows v)(hl:m.length≤36):cJ .sorted [lp (m.map (gL y H W))]=.ok (lp (tm y H W m))∧ic (tm y H W m)∧∀v,v∈tm y H W m↔v∈m.map (gL y H W):=by
 have nd:(m.map (gL y H W)).Nodup:=List.pairwise_map.2 (List.Pairwise.imp_of_mem (fun{a b} ha hb hn z=>hn (by rw [←cx (y:=y) (H:=H) (W:=W) (h a ha),z,cx (h b hb)])) hm)
 obtain⟨e,P,s⟩:=oM ([]:List Int) ah id (l:=m.map (gL y H W)) (by rwa [List.map_id])
 simp only [List.map_id] at e s P;refine⟨?_,s,fun v=>P.mem_iff⟩
 show(Res.of (hW ((m.map (gL y H W)).map ah))).bind _=_
 rw [fZ];show(if _ then Res.ok (PV.lst _) else _)=_
 rw [if_pos (by
  rw [zza,zzN,zzl,zzl,zzT];refine⟨by omega,fun k hk=>?_⟩
  obtain⟨v,hv,rfl⟩:=List.mem_map.1 hk
  obtain⟨r,c,rfl,_⟩:=h v hv
  rfl),e]
 rfl
theorem eO(L:Fl rows w){u:List Int}{m:Ks}(hu:dy rows u)(h:cW (E1 rows sl cl pr) u m):∀v∈m,dy rows v:=fun v hv=>room_in L hu ((h.2 v).1 hv)
theorem uC(T:Tw y H W rows aH)(L:Fl rows w)(L':Fl aH w'){u:List Int}{m:Ks}(hu:dy rows u)(h:cW (E1 rows sl cl pr) u m):cW (E1 aH sl cl pr) (gL y H W u) (tm y H W m):=by
 have t:=qg (y:=y) (H:=H) (W:=W) h.1.nodup (eO L hu h) (dq L hu h)
 refine⟨t.2.1,fun v=>(t.2.2 v).trans ?_⟩
 rw [List.mem_map]
 constructor
 ·rintro ⟨x,hx,rfl⟩
  exact T.rr ((h.2 x).1 hx)
 ·intro z;have ho:=room_in L' (T.opl hu) z
  refine⟨gL y H W v,(h.2 _).2 ?_,cx ho⟩;have:=T.symm.rr z
  rwa [cx hu] at this
theorem pj(T:Tw y H W rows aH)(L:Fl rows w)(L':Fl aH w'){K K':Ks}{M M':List Ks}(hO:∀v,v∈K↔dy rows v)(tR:∀v,v∈K'↔dy aH v)(R:mY (E1 rows sl cl pr) K M)(R':mY (E1 aH sl cl pr) K' M')(m:Ks):m∈M'↔m∈M.map (tm y H W):=by
 rw [List.mem_map]
 constructor
 ·intro hm;obtain⟨u,hu,_,h⟩:=R'.rm m hm
  have ou:=(tR u).1 hu
  have ov:=T.symm.opl ou
  obtain⟨n,hn,hr⟩:=gW R ((hO _).2 ov)
  refine⟨n,hn,?_⟩;have:=uC T L L' ov hr
  rw [cx ou] at this;exact mn this h
 ·rintro ⟨n,hn,rfl⟩
  obtain⟨u,hu,_,h⟩:=R.rm n hn
  have ou:=(hO u).1 hu
  exact n5 R' ((tR _).2 (T.opl ou)) (uC T L L' ou h)
theorem JZ(L:Fl rows w){K:Ks}{M:List Ks}(hO:∀v,v∈K↔dy rows v)(R:mY (E1 rows sl cl pr) K M):(M.map (tm y H W)).Nodup:=by
 refine List.pairwise_map.2 (List.Pairwise.imp_of_mem (fun{a b} ha hb hn z=>?_) R.dj);obtain⟨u,hu,hh,h⟩:=R.rm a ha
 obtain⟨x,hx,_,k⟩:=R.rm b hb
 have ou:=(hO u).1 hu
 have ox:=(hO x).1 hx
 have ua:u∈a:=(h.2 u).2 (eU ..)
 have t:=qg (y:=y) (H:=H) (W:=W) h.1.nodup (eO L ou h) (dq L ou h)
 have t':=qg (y:=y) (H:=H) (W:=W) k.1.nodup (eO L ox k) (dq L ox k)
 have:gL y H W u∈tm y H W b:=by rw [←z,t.2.2];exact List.mem_map.2 ⟨u,ua,rfl⟩
 rw [t'.2.2,List.mem_map] at this;obtain⟨v,hv,e⟩:=this
 have:v=u:=by rw [←cx (y:=y) (H:=H) (W:=W) (eO L ox k v hv),e,cx ou]
 exact hn u ua (this▸hv)
theorem Eb(T:Tw y H W rows aH)(L:Fl rows w)(L':Fl aH w'){z:List Int}{m m':Ks}(hz:dy rows z)(h:cW (E1 rows sl cl pr) z m)(h':cW (E1 aH sl cl pr) (gL y H W z) m')(n:yn (Ew rows sl cl pr z) z m):yn (Ew aH sl cl pr (gL y H W z)) (gL y H W z) m':=by
 obtain⟨a,ha,b,hb,na,nb,no⟩:=n
 have oa:=eO L hz h a ha
 have ob:=eO L hz h b hb
 have ne:∀{x:List Int},dy rows x→x≠z→gL y H W x≠gL y H W z:=fun ox hn e=>hn (by rw [←cx (y:=y) (H:=H) (W:=W) ox,e,cx hz])
 refine⟨_,(h'.2 _).2 (T.rr ((h.2 a).1 ha)),_,(h'.2 _).2 (T.rr ((h.2 b).1 hb)),ne oa na,ne ob nb,fun q=>no ?_⟩
 have:=q.map (gL y H W) fun u v e he=>T.symm.ew (T.opl hz) he
 rwa [cx hz,cx oa,cx ob] at this
theorem lP(T:Tw y H W rows aH)(L:Fl rows w)(L':Fl aH w'){K K' S S':Ks}{M M':List Ks}(hO:∀v,v∈K↔dy rows v)(tR:∀v,v∈K'↔dy aH v)(R:mY (E1 rows sl cl pr) K M)(R':mY (E1 aH sl cl pr) K' M')
 (h1:∀v∈S,v∈K) (h2:∀v∈K,∀m,cW (E1 rows sl cl pr) v m→decide (v∈S)=nB rows sl cl pr v m) (jo:∀v∈S',v∈K') (mZ:∀v∈K',∀m,cW (E1 aH sl cl pr) v m→decide (v∈S')=nB aH sl cl pr v m) (v:List Int):v∈S.map (gL y H W)↔v∈S':=by
 have key:∀z∈K,gL y H W z∈K'→(z∈S↔gL y H W z∈S'):=fun z hz NP=>by
  have oz:=(hO z).1 hz
  obtain⟨m,_,hm⟩:=gW R hz
  obtain⟨m',_,kQ⟩:=gW R' NP
  have a:=h2 z hz m hm
  have b:=mZ _ NP m' kQ
  rw [←decide_eq_true_iff (p:=z∈S),←decide_eq_true_iff (p:=gL y H W z∈S'),a,b,iZ,iZ];refine⟨Eb T L L' oz hm kQ,fun q=>?_⟩
  have:=Eb T.symm L' L (T.opl oz) kQ (m':=m) (by rw [cx oz];exact hm) q
  rwa [cx oz] at this
 rw [List.mem_map]
 constructor
 ·rintro ⟨z,hz,rfl⟩
  have hk:=h1 z hz
  exact(key z hk ((tR _).2 (T.opl ((hO z).1 hk)))).1 hz
 ·intro hv;have ov:=(tR v).1 (jo v hv)
  have hk:=(hO _).2 (T.symm.opl ov)
  refine⟨gL y H W v,(key _ hk (by rw [cx ov];exact jo v hv)).2 (by rw [cx ov];exact hv),cx ov⟩
end
def pN(k x:Nat):Nat:=if x=35 then 35 else x+k
def Cc(k:Nat)(z:Str):Str:=⟨(z.cps.toList.map (pN k)).toArray⟩
abbrev lf(k:Nat)(rows:List Str):List Str:=rows.map (Cc k)
theorem Ea(k:Nat)(rows:List Str)(r c:Nat):cd (lf k rows) r c=(cd rows r c).map (pN k):=by
 unfold cd;rw [zzQ];cases rows[r]? with
 |none=>rfl
 |some z=>exact zzQ
section
variable{rows:List Str}{w:Nat}{sl:Bool}{cl pr:Int}{k:Nat}
theorem oZ(L:Fl rows w)(r c:Int):cM (lf k rows) r c=cM rows r c:=by
 unfold cM zd;rw [Ea]
 congr 1
 cases h:cd rows r.toNat c.toNat with
 |none=>rfl
 |some x=>
  show(pN k x !=35)=(x !=35)
  unfold pN;rcases xq L h with rfl|h
  ·rfl
  ·rw [if_neg (by omega),Bool.eq_iff_iff,bne_iff_ne,bne_iff_ne];omega
theorem yG{r c:Int}(h:cM rows r c=true):cV (lf k rows) r c=cV rows r c+k:=by
 obtain⟨i,j,x,rfl,rfl,e,hx⟩:=sF h
 unfold cV;rw [Int.toNat_natCast,Int.toNat_natCast,Ea,e];show((pN k x:Nat):Int)-48=(x:Int)-48+k
 rw [pN,if_neg hx];omega
theorem DY(L:Fl rows w){r c r' c':Int}(h:cM rows r c=true)(h':cM rows r' c'=true):dm (lf k rows) sl cl pr r c r' c'=dm rows sl cl pr r c r' c':=by
 unfold dm;simp only [oZ L,yG h,yG h',Int.add_sub_add_right]
theorem Jp(L:Fl rows w):E1 (lf k rows) sl cl pr=E1 rows sl cl pr:=by
 funext u v e
 refine propext ⟨?_,?_⟩
 ·rintro ⟨r,c,r',c',rfl,rfl,h3,h4,h5⟩
  rw [oZ L] at h3 h4;rw [DY L h3 h4] at h5;exact⟨r,c,r',c',rfl,rfl,h3,h4,h5⟩
 ·rintro ⟨r,c,r',c',rfl,rfl,h3,h4,h5⟩
  rw [←DY (k:=k) L h3 h4] at h5;rw [←oZ (k:=k) L] at h3 h4;exact⟨r,c,r',c',rfl,rfl,h3,h4,h5⟩
theorem JU(L:Fl rows w)(u:List Int):dy (lf k rows) u↔dy rows u:=by
 unfold dy;simp only [oZ L]
theorem Iy(L:Fl rows w):nB (lf k rows) sl cl pr=nB rows sl cl pr:=by
 funext z m
 rw [Bool.eq_iff_iff,iZ,iZ];have:Ew (lf k rows) sl cl pr z=Ew rows sl cl pr z:=by
  funext u v e
  unfold Ew;rw [Jp L]
 rw [this]
theorem uZ(z:Str):(Cc k z).length=z.length:=by simp [Cc,Str.length]
theorem JM(L:Fl rows w)(hk:∀z∈rows,∀x∈z.cps.toList,x≠35→x+k≤57):Fl (lf k rows) w:=by
 have all:∀{P:Str→Prop},(∀z∈rows,P (Cc k z))→∀z∈lf k rows,P z:=fun h z hz=>by
  obtain⟨y,hy,rfl⟩:=List.mem_map.1 hz
  exact h y hy
 refine⟨⟨by rw [zzl];exact L.rok.1,all fun z hz=>by rw [uZ];exact L.rok.2 z hz⟩,by rw [zzl];exact L.ne,L.w1,all fun z hz=>by rw [uZ];exact L.rect z hz,all fun z hz x hx=>?_⟩
 obtain⟨y,hy,rfl⟩:=List.mem_map.1 (show x∈z.cps.toList.map (pN k) from hx)
 unfold pN;rcases L.dig z hz y hy with rfl|h
 ·exact .inl rfl
 ·have:=hk z hz y hy (by omega)
  rw [if_neg (by omega)];exact .inr (by omega)
theorem qw{ns:List Int}{B:Int}:∀j,(∀i,i≤j→ns.getD i 0≤B)→eZ ns j≤B
 |0,h=>h 0 (zzE _)
 |j+1,h=>by
  rw [eZ];split
  ·exact h _ (zzE _)
  ·exact qw j fun i hi=>h i (by omega)
theorem kj{ns:List Int}:∀j i,i≤j→ns.getD i 0≤eZ ns j
 |0,i,h=>by
  obtain rfl:i=0:=by omega
  exact Int.le_refl _
 |j+1,i,h=>by
  rw [eZ]
  by_cases hi:i=j+1
  ·subst hi;split<;>omega
  ·have:=kj (ns:=ns) j i (by omega)
   split<;>omega
theorem F0{l:List Int}(h:∀x∈l,0≤x∧x≤9):∃m:Int,cJ .max1 [.lst ((0::l).map .int)]=.ok (.int m)∧0≤m∧m≤9∧∀x∈l,x≤m:=by
 refine⟨eZ (0::l) l.length,?_,kj l.length 0 (Nat.zero_le _),qw _ fun i hi=>?_,fun x hx=>?_⟩
 ·show(Res.of (intsOf ((0::l).map .int))).bind _=_
  rw [gz]
  rfl
 ·cases i with
  |zero=>exact(show(0:Int)≤9 by decide)
  |succ i=>
   rw [List.getD_cons_succ,zzK,zzg (by omega)];exact(h _ (List.getElem_mem _)).2
 ·obtain⟨i,hi,rfl⟩:=List.getElem_of_mem hx
  have:=kj (ns:=0::l) l.length (i+1) hi
  rwa [List.getD_cons_succ,zzK,zzg hi] at this
theorem p7:∀(xs:List Str) (acc:Array Nat),(xs.foldl (fun acc p=>acc++("":Str).cps++p.cps) acc).toList=acc.toList++xs.flatMap (·.cps.toList)
 |[],acc=>by simp
 |x::xs,acc=>by
  have:(("":Str)).cps=#[]:=by decide+kernel
  rw [List.foldl_cons,p7 xs,this];simp
theorem yQ(xs:List Str):(Txt.join "" xs).cps.toList=xs.flatMap (·.cps.toList):=by
 cases xs with
 |nil=>rfl
 |cons x xs=>exact p7 xs x.cps
theorem uc{α:Type}{f:PV→Res (Option PV)}{p q:α→PV}{b:α→Bool}:∀{xs:List α},(∀x∈xs,f (p x)=.ok (if b x then some (q x) else none))→bb f (xs.map p)=.ok ((xs.filter b).map q)
 |[],_=>rfl
 |x::xs,h=>by
  simp only [zzF,bb,h x (zzP ..),HG,pf,uc (xs:=xs) fun y hy=>h y (zzI _ hy),List.filter_cons]
  cases b x<;>rfl
theorem n6(l:List Str)(h:∀z∈l,z.length≤6):(l.map (·.length)).sum≤6*l.length:=by
 induction l with
 |nil=>exact zzE _
 |cons a l ih=>
  have:=ih fun z hz=>h z (.tail _ hz)
  have:=h a (.head _)
  simp only [zzF,List.sum_cons,zzL];omega
theorem qF(l:List Str)(h:∀z∈l,z.length≤6):(l.flatMap (·.cps.toList)).length≤6*l.length:=by
 rw [List.length_flatMap];exact n6 l h
def LU:E:=(.compIf 1 [] (.one 0) (.seq (.mth .join (.cst (.str "")) (.cons (.var 0) .nil))) (.cmp .ne (.var 0) (.cst (.str "#"))) (.blt .int (.cons (.var 0) .nil)))
noncomputable def Mi:E:=(.mth .join (.cst (.str "")) (.cons (.comp 1 [1] (.one 0) (.seq (.var 3)) (.ite (.cmp .eq (.var 0) (.cst (.str "#"))) (.var 0) (.blt .str (.cons (.bin .sub (.bin .add (.blt .int (.cons (.var 0) .nil)) (.cst (.int 9))) (.var 1)) .nil)))) .nil))
noncomputable def LY:Ss:=(.cons (.app 2 Mi) .nil)
theorem Ip(F:ba)(L:Fl rows w)(s1 s2 s3:Ci.Slot):ax F LU [.val (fl rows),s1,s2,s3]=.ok (.lst ((((rows.flatMap (·.cps.toList)).filter fun x=>x !=35).map fun x:Nat=>(x:Int)-48).map .int)):=by
 have hm:mI .join [.str "",fl rows]=.ok (.str (Txt.join "" rows)):=by
  show(Res.of (strsOf (rows.map PV.str))).bind _=_
  rw [strs_map (fun z=>z) rows,List.map_id'];show(if _ then _ else _)=_
  have ln:("":Str).length≤16∧(rows.map (·.length)).sum+rows.length≤c8:=⟨by decide+kernel,by
   have:=n6 rows L.rok.2
   have:=L.rok.1
   exact zzU (m:=48) (by omega) (by decide)⟩
  rw [if_pos ln]
 have hc:chars (Txt.join "" rows)=(rows.flatMap (·.cps.toList)).map fun x=>PV.str ⟨#[x]⟩:=by
  unfold chars;rw [yQ]
 have hl:(rows.flatMap (·.cps.toList)).length<c8:=by
  have:=qF rows L.rok.2
  have:=L.rok.1
  exact zzV (m:=36) (by omega) (by decide)
 have hs:rM (.mth .join (.cst (.str "")) (.cons (.var 0) .nil)) (.str (Txt.join "" rows))=.ok (chars (Txt.join "" rows)):=rfl
 simp only [LU,ag,aa,ae,ai,aN,ax,av,aV,aU,aw,az,ay,reduceIte,J,J2,mM,hm,hs,hc,zzl,hl];rw [uc (p:=fun x:Nat=>PV.str ⟨#[x]⟩) (q:=fun x:Nat=>PV.int ((x:Int)-48)) (b:=fun x=>x !=35) (fun x hx=>by
  obtain⟨z,hz,hx⟩:=List.mem_flatMap.1 hx
  simp only [ag,aa,ae,ai,aN,ax,av,aV,aU,aw,az,ay,reduceIte,J,J2,xu];rcases L.dig z hz x hx with rfl|h
  ·rfl
  ·have:(x !=35)=true:=by rw [bne_iff_ne];omega
   simp only [this,ag,aa,ae,ai,aN,ax,av,aV,aU,aw,az,ay,reduceIte,J,J2,o8 h.1 h.2])]
 rw [List.map_map]
 rfl
theorem FR(F:ba){z:Str}(hd:∀x∈z.cps.toList,x=35∨(48≤x∧x≤57))(hz:z.length≤6){m:Int}(h0:0≤m)(h9:m≤9)(hm:∀x∈z.cps.toList,x≠35→(x:Int)-48≤m)(A:PV)(s2:Ci.Slot):ax F Mi [.val A,.val (.int m),s2,.val (.str z)]=.ok (.str (Cc (9-m).toNat z)):=by
 have zl:z.cps.toList.length≤6:=by rw [zzd];exact hz
 have hl:z.cps.toList.length<c8:=zzV zl (by decide)
 have hs:rM (.var 3) (.str z)=.ok (z.cps.toList.map fun x=>PV.str ⟨#[x]⟩):=rfl
 have hj:mI .join [.str "",.lst (z.cps.toList.map fun x=>PV.str ⟨#[pN (9-m).toNat x]⟩)]=.ok (.str (Cc (9-m).toNat z)):=by
  show(Res.of (strsOf _)).bind _=_
  rw [strs_map (fun x:Nat=>(⟨#[pN (9-m).toNat x]⟩:Str))]
  show(if _ then _ else _)=_
  have e:(z.cps.toList.map fun x:Nat=>(⟨#[pN (9-m).toNat x]⟩:Str))=(z.cps.toList.map (pN (9-m).toNat)).map fun x=>(⟨#[x]⟩:Str):=by rw [List.map_map];rfl
  have ln:("":Str).length≤16∧((z.cps.toList.map fun x:Nat=>(⟨#[pN (9-m).toNat x]⟩:Str)).map (·.length)).sum+(z.cps.toList.map fun x:Nat=>(⟨#[pN (9-m).toNat x]⟩:Str)).length≤c8:=⟨by decide+kernel,by
   have:=n6 (z.cps.toList.map fun x:Nat=>(⟨#[pN (9-m).toNat x]⟩:Str)) fun y hy=>by
    obtain⟨x,_,rfl⟩:=List.mem_map.1 hy
    exact(show 1≤6 by decide)
   rw [zzl] at this⊢;exact zzU (m:=48) (by omega) (by decide)⟩
  rw [if_pos ln,e,join_one]
  rfl
 simp only [Mi,ag,aa,ae,ai,aN,ax,av,aV,aU,aw,az,ay,reduceIte,J,J2,hs,zzl,hl];rw [cT (p:=fun x:Nat=>PV.str ⟨#[x]⟩) (g:=fun x:Nat=>PV.str ⟨#[pN (9-m).toNat x]⟩) (fun x hx=>by
  simp only [ag,aa,ae,ai,aN,ax,av,aV,aU,aw,az,ay,reduceIte,J,J2,F8];rcases hd x hx with rfl|h
  ·rfl
  ·have Eg:x≠35:=by omega
   have e:(x !=35)=true:=bne_iff_ne.2 Eg
   have Qr:=hm x hx Eg
   have e2:48+((x:Int)-48+9-m).toNat=pN (9-m).toNat x:=by
    rw [pN,if_neg Eg];omega
   simp only [e,ag,aa,ae,ai,aN,ax,av,aV,aU,aw,az,ay,reduceIte,J,J2,o8 h.1 h.2,vh (v:=(x:Int)-48+9-m) (by omega) (by omega),e2])]
 simp only [ag,aa,ae,ai,aN,ax,av,aV,aU,aw,az,ay,reduceIte,J,J2,mM,hj]
theorem wm(F:ba)(L:Fl rows w):∃k,ag F bE [fl rows]=.ok (fl (lf k rows))∧Fl (lf k rows) w:=by
 have CF:∀x∈((rows.flatMap (·.cps.toList)).filter fun x=>x !=35).map fun x:Nat=>(x:Int)-48,0≤x∧x≤9:=fun x hx=>by
  obtain⟨y,hy,rfl⟩:=List.mem_map.1 hx
  rw [List.mem_filter,bne_iff_ne] at hy;obtain⟨z,hz,hy2⟩:=List.mem_flatMap.1 hy.1
  rcases L.dig z hz y hy2 with rfl|h
  ·exact absurd rfl hy.2
  ·omega
 obtain⟨m,e,h0,h9,hm⟩:=F0 CF
 have Nr:∀z∈rows,∀x∈z.cps.toList,x≠35→(x:Int)-48≤m:=fun z hz x hx hn=>hm _ (List.mem_map.2 ⟨x,List.mem_filter.2 ⟨List.mem_flatMap.2 ⟨z,hz,hx⟩,bne_iff_ne.2 hn⟩,rfl⟩)
 refine⟨(9-m).toNat,?_,JM L fun z hz x hx hn=>by have:=Nr z hz x hx hn;omega⟩
 have hlen:(((rows.flatMap (·.cps.toList)).filter fun x=>x !=35).map fun x:Nat=>(x:Int)-48).length≤36:=by
  rw [zzl];have:=qF rows L.rok.2
  have:=L.rok.1
  exact zzU (List.length_filter_le ..) (by omega)
 have hh:=fun s1 s2 s3=>Ip F L s1 s2 s3
 generalize (((rows.flatMap (·.cps.toList)).filter fun x=>x !=35).map fun x:Nat=>(x:Int)-48)=l at hlen e hh
 have l2:1+(l.map PV.int).length≤c8:=by
  rw [zzl];exact zzU (m:=37) (by omega) (by decide)
 have e:cJ .max1 [.lst (PV.int 0::l.map .int)]=.ok (.int m):=e
 obtain⟨s',ef⟩:=eG (g:=PV.str) (body:=fun x env=>ai F LY (List.set env 3 (.val x))) (mk:=fun acc (s:Ci.Slot)=>[.val (fl rows),.val (.int m),.own (.lst acc),s]) (app:=fun z=>[PV.str (Cc (9-m).toNat z)]) (m:=1) (M:=100) rows [] .no (fun a _=>zzE _) (fun z hz acc s ha=>by
  have er:=FR F (L.dig z hz) (L.rok.2 z hz) h0 h9 (Nr z hz) (fl rows) (.own (.lst acc))
  have la:acc.length<c8:=zzV (m:=100) (by omega) (by decide)
  exact⟨.val (.str z),by simp only [LY,ag,aa,ae,ai,aN,ax,av,aV,aU,aw,az,ay,reduceIte,J,J2,er,la]⟩) (by simp only [List.length_nil];have:=L.rok.1;omega)
 have eb:bE.body=.cons (.set 1 (.blt .max1 (.cons (.bin .add (.lst (.cons (.cst (.int 0)) .nil)) LU) .nil))) (.cons (.own 2 (.lst .nil)) (.cons (.for_ (.one 3) (.seq (.var 0)) LY) (.cons (.ret (.blt .tuple (.cons (.tmp 2) .nil))) .nil))):=rfl
 have st:aa bE [fl rows]=[.val (fl rows),.no,.no,.no]:=rfl
 have ar:ae bE [fl rows]=true:=rfl
 have fm:rows.flatMap (fun z=>[PV.str (Cc (9-m).toNat z)])=(lf (9-m).toNat rows).map .str:=by
  have go:∀l:List Str,l.flatMap (fun z=>[PV.str (Cc (9-m).toNat z)])=(lf (9-m).toNat l).map .str:=fun l=>by
   induction l with
   |nil=>rfl
   |cons a l ih=>rw [List.flatMap_cons,ih];rfl
  exact go rows
 unfold ag;rw [ar,if_pos rfl,st,eb];simp only [ag,aa,ae,ai,aN,ax,av,aV,aU,aw,az,ay,reduceIte,J,J2,hh,l2,e,ef,fm]
end
def tV(F:ba):Prop:=∀rows w,Fl rows w→∀y:Int,0≤y→y<3→∀r c,F "_law_turned_spot" [fl rows,.int y,sp r c]=.ok (ah (gL y rows.length w [r,c]))
def Fs(F:ba):Prop:=∀rows w,Fl rows w→∀y:Int,0≤y→y<3→∃aH w',F "_law_turned_floor" [fl rows,.int y]=.ok (fl aH)∧Fl aH w'∧Tw y rows.length w rows aH
def ub(F:ba):Prop:=∀rows w,Fl rows w→∃k,F "_law_lifted" [fl rows]=.ok (fl (lf k rows))∧Fl (lf k rows) w
def K8:E:=(.comp 1 [1,2] (.one 0) (.seq (.var 0)) (.call "_law_turned_spot" (.cons (.var 2) (.cons (.var 1) (.cons (.var 0) .nil)))))
def MB:E:=(.comp 1 [3,1] (.one 0) (.seq (.var 7)) (.call "_law_turned_spot" (.cons (.var 2) (.cons (.var 1) (.cons (.var 0) .nil)))))
noncomputable def lD:Ss:=(.cons (.set 8 (.call "_law_lifted" (.cons (.var 1) .nil)))
 (.cons (.ret (.and (.cmp .eq (.call "rooms" (.cons (.var 8) (.cons (.var 2) .nil))) (.var 5)) (.cmp .eq (.call "narrow_spots" (.cons (.var 8) (.cons (.var 2) .nil))) (.var 7))))
 .nil))
noncomputable def lC:Ss:=(.cons (.set 7 (.call "narrow_spots" (.cons (.var 1) (.cons (.var 2) .nil))))
 (.cons (.ite (.cmp .ne (.call "narrow_spots" (.cons (.var 4) (.cons (.var 2) .nil))) (.blt .sorted (.cons MB .nil)))
  (.cons (.ret (.cst (.bl false)))
  .nil)
  .nil) lD))
noncomputable def lB:Ss:=(.cons (.ite (.cmp .ne (.blt .sortedL (.cons (.call "rooms" (.cons (.var 4) (.cons (.var 2) .nil))) .nil)) (.blt .sortedL (.cons (.var 6) .nil)))
 (.cons (.ret (.cst (.bl false)))
 .nil)
 .nil) lC)
noncomputable def lA:Ss:=(.cons (.set 6 (.comp 1 [3,1] (.one 0) (.seq (.var 5)) (.blt .sorted (.cons K8 .nil)))) lB)
theorem Ad:d_law.body=.cons (.set 1 (.call "_law_floor" (.cons (.var 0) (.cons (.cst (.int 0)) (.cons (.cst (.int 5)) .nil))))) (.cons (.set 2 (.call "_law_walker" (.cons (.var 0) (.cons (.cst (.int 40)) .nil)))) (.cons (.set 3 (.call "_law_pick" (.cons (.var 0) (.cons (.cst (.int 45)) (.cons (.cst (.int 3)) .nil))))) (.cons (.set 4 (.call "_law_turned_floor" (.cons (.var 1) (.cons (.var 3) .nil)))) (.cons (.set 5 (.call "rooms" (.cons (.var 1) (.cons (.var 2) .nil)))) lA)))):=rfl
theorem opens{rows:List Str}(R:rA rows):∃K:Ks,ic K∧∀v,v∈K↔dy rows v:=by
 obtain⟨l,_,up,_,hm⟩:=lF (fun _ _=>.bad) rows R
 exact⟨_,DQ up,pd hm⟩
section
variable{rows aH:List Str}{w w':Nat}{sl:Bool}{cl pr y:Int}
theorem mv(F:ba)(df:tV F)(L:Fl rows w)(h0:0≤y)(h3:y<3){m:Ks}(h:∀v∈m,dy rows v):bb (fun x=>(ax F (.call "_law_turned_spot" (.cons (.var 2) (.cons (.var 1) (.cons (.var 0) .nil)))) [.val x,.val (.int y),.val (fl rows)]).bind fun y=>.ok (some y)) (m.map ah)=.ok ((m.map (gL y rows.length w)).map ah):=by
 rw [cT (p:=ah) (g:=fun v=>ah (gL y rows.length w v)) (fun v hv=>by
  obtain⟨r,c,rfl,_⟩:=h v hv
  have e:=df rows w L y h0 h3 r c
  simp only [ag,aa,ae,ai,aN,ax,av,aV,aU,aw,az,ay,reduceIte,J,J2];rw [show ah [r,c]=sp r c from rfl,e]
  rfl),List.map_map]
 rfl
theorem I0(F:ba)(xE:eV F)(uX:vE F)(Hr:ub F)(L:Fl rows w)(V:Wk cl pr){K S:Ks}{M:List Ks}(sK:ic K)(hO:∀v,v∈K↔dy rows v)(R:mY (E1 rows sl cl pr) K M)(sS:ic S)(h1:∀v∈S,v∈K)(h2:∀v∈K,∀m,cW (E1 rows sl cl pr) v m→decide (v∈S)=nB rows sl cl pr v m)
 (s0 s3 s4 s6 s8:Ci.Slot):ai F lD [s0,.val (fl rows),.val (wk sl cl pr),s3,s4,.val (iC M),s6,.val (lp S),s8]=.ok (.rt (.bl true)):=by
 obtain⟨k,e1,L2⟩:=Hr rows w L
 have Og:∀v,v∈K↔dy (lf k rows) v:=fun v=>(hO v).trans (JU L v).symm
 obtain⟨M2,e2,R2⟩:=xE _ w L2 sl cl pr V K sK Og
 obtain⟨S2,e3,sS2,k1,k2⟩:=uX _ w L2 sl cl pr V K sK Og
 rw [Jp L] at R2 k2;rw [Iy L] at k2;have hM:M2=M:=Ai L hO R2 R
 have hS:S2=S:=eW sS2 sS fun v=>by
  have key:v∈K→(v∈S2↔v∈S):=fun hv=>by
   obtain⟨m,_,hm⟩:=gW R hv
   rw [←decide_eq_true_iff (p:=v∈S2),←decide_eq_true_iff (p:=v∈S),h2 v hv m hm,k2 v hv m hm]
  exact⟨fun z=>(key (k1 v z)).1 z,fun z=>(key (h1 v z)).2 z⟩
 subst hM hS;have e4:=B6 M2
 have e5:gq (lp S2) (lp S2)=.ok (.bl true):=(OF S2 S2).trans (by rw [zzh rfl])
 simp only [lD,ag,aa,ae,ai,aN,ax,av,aV,aU,aw,az,ay,reduceIte,J,J2,e1,e2,e3,e4,e5]
theorem HX(F:ba)(df:tV F)(xE:eV F)(uX:vE F)(Hr:ub F)(L:Fl rows w)(L':Fl aH w')(h0:0≤y)(h3:y<3)(T:Tw y rows.length w rows aH)(V:Wk cl pr){K K':Ks}{M M':List Ks}(sK:ic K)(Kh:ic K')(hO:∀v,v∈K↔dy rows v)(tR:∀v,v∈K'↔dy aH v)(R:mY (E1 rows sl cl pr) K M)(R':mY (E1 aH sl cl pr) K' M')
 (s0 s6 s7 s8:Ci.Slot):ai F lC [s0,.val (fl rows),.val (wk sl cl pr),.val (.int y),.val (fl aH),.val (iC M),s6,s7,s8]=.ok (.rt (.bl true)):=by
 obtain⟨S,e1,sS,h1,h2⟩:=uX rows w L sl cl pr V K sK hO
 obtain⟨S',e2,sS',jo,mZ⟩:=uX aH w' L' sl cl pr V K' Kh tR
 have oS:∀v∈S,dy rows v:=fun v hv=>(hO v).1 (h1 v hv)
 have lS:S.length≤36:=xk L sS.nodup oS
 have t:=qg (y:=y) (H:=rows.length) (W:=w) sS.nodup oS lS
 have hS:S'=tm y rows.length w S:=eW sS' t.2.1 fun v=>((t.2.2 v).trans (lP T L L' hO tR R R' h1 h2 jo mZ v)).symm
 have ll:S.length<c8:=zzV lS (by decide)
 have ec:ax F MB [s0,.val (fl rows),.val (wk sl cl pr),.val (.int y),.val (fl aH),.val (iC M),s6,.val (lp S),s8]=.ok (lp (S.map (gL y rows.length w))):=by
  have:=mv F df L h0 h3 oS
  simp only [ax,av] at this;simp only [MB,ag,aa,ae,ai,aN,ax,av,aV,aU,aw,az,ay,reduceIte,J,J2,zzl,ll];simp only [ag,aa,ae,ai,aN,ax,av,aV,aU,aw,az,ay,reduceIte,J,J2] at this;rw [this]
  rfl
 have e4:gP (lp S') (lp S')=.ok (.bl false):=(KI S' S').trans (by rw [zzh rfl];rfl)
 have e5:=I0 F xE uX Hr L V sK hO R sS h1 h2 s0 (.val (.int y)) (.val (fl aH)) s6 s8
 have e3:=t.1
 rw [←hS] at e3;simp only [lC,ag,aa,ae,ai,aN,ax,av,aV,aU,aw,az,ay,reduceIte,J,J2,e1,e2,ec,e3,e4,e5]
theorem H8(F:ba)(df:tV F)(xE:eV F)(uX:vE F)(Hr:ub F)(L:Fl rows w)(L':Fl aH w')(h0:0≤y)(h3:y<3)(T:Tw y rows.length w rows aH)(V:Wk cl pr){K:Ks}{M:List Ks}(sK:ic K)(hO:∀v,v∈K↔dy rows v)(R:mY (E1 rows sl cl pr) K M)
 (s0 s6 s7 s8:Ci.Slot):ai F lA [s0,.val (fl rows),.val (wk sl cl pr),.val (.int y),.val (fl aH),.val (iC M),s6,s7,s8]=.ok (.rt (.bl true)):=by
 obtain⟨K',Kh,tR⟩:=opens L'.rok
 obtain⟨M',e1,R'⟩:=xE aH w' L' sl cl pr V K' Kh tR
 have J7:M.length≤36:=zzU R.len (xk L sK.nodup fun v hv=>(hO v).1 hv)
 have Py:M'.length≤36:=zzU R'.len (xk L' Kh.nodup fun v hv=>(tR v).1 hv)
 have ll:M.length<c8:=zzV J7 (by decide)
 have rt:=pj T L L' hO tR R R'
 have Lj:=nY L' tR R'
 have p2:∀m∈M.map (tm y rows.length w),P2 m:=fun m hm=>Lj m ((rt m).2 hm)
 obtain⟨S1,f1,g1,k1⟩:=kI Lj (Ed R') (by omega)
 obtain⟨S2,f2,g2,k2⟩:=kI p2 (JZ L hO R) (by rw [zzl];omega)
 have hS:S1=S2:=lI (fun m hm=>Lj m ((g1 m).1 hm)) (fun m hm=>p2 m ((g2 m).1 hm)) k1 k2 fun m=>(g1 m).trans ((rt m).trans (g2 m).symm)
 subst hS;have ec:ax F (.comp 1 [3,1] (.one 0) (.seq (.var 5)) (.blt .sorted (.cons K8 .nil))) [s0,.val (fl rows),.val (wk sl cl pr),.val (.int y),.val (fl aH),.val (iC M),s6,s7,s8]=.ok (iC (M.map (tm y rows.length w))):=by
  simp only [ag,aa,ae,ai,aN,ax,av,aV,aU,aw,az,ay,reduceIte,J,J2,zzl,ll];rw [cT (p:=fun m:Ks=>lp m) (g:=fun m=>lp (tm y rows.length w m)) (fun m hm=>by
   obtain⟨u,hu,_,hr⟩:=R.rm m hm
   have ou:=(hO u).1 hu
   have om:=eO L ou hr
   have lm:=dq L ou hr
   have t:=qg (y:=y) (H:=rows.length) (W:=w) hr.1.nodup om lm
   have hl:m.length<c8:=zzV lm (by decide)
   have e:ax F K8 [.val (lp m),.val (.int y),.val (fl rows)]=.ok (lp (m.map (gL y rows.length w))):=by
    have:=mv F df L h0 h3 om
    simp only [K8,ag,aa,ae,ai,aN,ax,av,aV,aU,aw,az,ay,reduceIte,J,J2,zzl,hl];simp only [ag,aa,ae,ai,aN,ax,av,aV,aU,aw,az,ay,reduceIte,J,J2] at this;rw [this]
    rfl
   simp only [ag,aa,ae,ai,aN,ax,av,aV,aU,aw,az,ay,reduceIte,J,J2,e,t.1])]
  simp only [ag,aa,ae,ai,aN,ax,av,aV,aU,aw,az,ay,reduceIte,J,J2];show Res.ok (PV.lst _)=Res.ok (PV.lst _)
  rw [List.map_map]
  rfl
 have e5:=HX F df xE uX Hr L L' h0 h3 T V sK Kh hO tR R R' s0 (.val (iC (M.map (tm y rows.length w)))) s7 s8
 have e6:=JC S1
 rw [lA,ai,aN,ec];simp only [lB,ag,aa,ae,ai,aN,ax,av,aV,aU,aw,az,ay,reduceIte,J,J2,e1,f1,f2,e6,e5]
theorem EN(F:ba)(hp:j4 F)(BP:∀ns,∃rows w,Fl rows w∧F "_law_floor" [i4 ns,.int 0,.int 5]=.ok (fl rows))(Pk:∀ns,∃sl cl pr,Wk cl pr∧F "_law_walker" [i4 ns,.int 40]=.ok (wk sl cl pr))(OY:Fs F)(df:tV F)(xE:eV F)(uX:vE F)(Hr:ub F)(ns:List Int):ag F d_law [i4 ns]=.ok (.bl true):=by
 obtain⟨rows,w,L,e1⟩:=BP ns
 obtain⟨sl,cl,pr,V,e2⟩:=Pk ns
 obtain⟨y,e3,h0,h3⟩:=hp ns 45 3 (by decide) (by decide)
 obtain⟨aH,w',e4,L',T⟩:=OY rows w L y h0 h3
 obtain⟨K,sK,hO⟩:=opens L.rok
 obtain⟨M,e5,R⟩:=xE rows w L sl cl pr V K sK hO
 have e6:=H8 F df xE uX Hr L L' h0 h3 T V sK hO R (.val (i4 ns)) .no .no .no
 have st:aa d_law [i4 ns]=[.val (i4 ns),.no,.no,.no,.no,.no,.no,.no,.no]:=rfl
 have ar:ae d_law [i4 ns]=true:=rfl
 unfold ag;rw [ar,if_pos rfl,st,Ad];simp only [ag,aa,ae,ai,aN,ax,av,aV,aU,aw,az,ay,reduceIte,J,J2,e1,e2,e3,e4,e5,e6]
end
theorem Jm(ns:List Int)(hl:ns.length≤63):ag (den AD) d_law [i4 ns]=.ok (.bl true):=by
 have pick:∀F:ba,F "_law_pick"=ag (den T1) bI→j4 F:=fun F hF ns k q hk hq=>by
  rw [hF];exact AZ (den T1) (fun ns k hk=>by rw [Ir];exact B0 _ ns k hk) ns k q hk hq
 have yS:∀F:ba,F "is_open"=ag (den T9) cC→tD F:=fun F hF rows R r c=>by
  rw [hF];exact A8 _ (fun r c=>by rw [JL];exact sJ _ (fun i=>by rw [JB];exact o7 _ i) r c) (fun rows R r c=>by rw [Jl];exact Jc _ rows R r c) rows R r c
 have zx:∀F:ba,F "need_open"=ag (den HH) bM→sk F:=fun F hF rows R r c h=>by
  rw [hF];exact nO _ (yS _ AS) rows R r c h
 have step:zP (den BN):=fun rows w L sl cl pr V r c r' c' h h'=>by
  rw [Cg];exact Cf _ (fun r c r' c'=>by rw [AI];exact wF _ r c r' c') (fun rows R r c r' c'=>by rw [Cs];exact si _ (yS _ BW) R r c r' c') (fun rows w L r c h=>by rw [Bh];exact vV _ (zx _ AH) L h) L V h h'
 have O9:DG (den BN):=fun rows R r c a b d e=>by
  rw [Cq];exact GX _ (yS _ AK) R a b d e
 have steps:∀F:ba,F "steps_from"=ag (den BN) bH→g7 F:=fun F hF=>by
  unfold g7;rw [hF];exact ya _ (zx _ Bx) O9 step
 have Lz:F4 (den Ig):=by
  unfold F4;rw [Df];exact Co _ (steps _ C5)
 have Jz:sd (den Kv):=by
  unfold sd;rw [Cp];exact CJ _ (zx _ Dj) Lz
 have room:oT (den Gm):=by
  unfold oT;rw [B9];exact AV _ Jz
 have rooms:∀F:ba,F "rooms"=ag (den Gm) d5→eV F:=fun F hF=>by
  unfold eV;rw [hF];exact zD _ room (by rw [GK];exact lF _)
 have over:sM (den EV):=by
  unfold sM;rw [Cd];exact Bv _ (steps _ CL) (by rw [FP];exact lF _)
 have IZ:jz (den KO):=fun r c r' c' z=>by
  rw [C7];exact yk _ r c r' c' z
 have reach:pq (den KA):=by
  unfold pq;rw [Cm];exact xl _ IZ
 have narrow:pZ (den EV):=fun rows w L sl cl pr ks vs hG m z u hu hm=>by
  rw [Bo];exact vH _ reach L hG hu hm
 have PX:vE (den AD):=by
  unfold vE;rw [BD];exact Iz _ over (rooms _ AX) narrow
 exact EN _ (pick _ Ei) (fun ns=>by rw [Ho];exact vC _ (pick _ J0) ns 5 (by decide) (by decide)) (fun ns=>by rw [GU];exact vn _ (pick _ IJ) ns 40 (by decide))
  (fun rows w L y h0 h3=>by rw [Gz];exact wM _ L h0 h3) (fun rows w L y h0 h3 r c=>by rw [C8];exact CU _ L h0 h3 r c) (rooms _ BV) PX (fun rows w L=>by rw [Br];exact wm _ L) ns
end K32
namespace Hd
open PySem PySem.W L2
noncomputable abbrev fo(n:Str)(st:Stmt)(pm:Value)(c:Addr):Obj:=⟨.type "function",none,.func (fnOf n n (defArgs st) (defBody st) (defScope st) .none .none .none pm none (.ref c) .none),#[]⟩
def dpos(s:Stmt):Pos:=match s with
 |.FunctionDef _ _ _ _ _ _ _ _ _ p=>p
 |_=>⟨0,0,0,0⟩
theorem ent{K:Frag}{ts:List (Addr×Str)}{n:Str}{st:Stmt}(f c:Addr)(pm:Value)(a:nsIn K mainGlobals n=some (some (.ref f)):=by kernel_rfl)(l:K.lookup f=some (fo n st pm c):=by kernel_rfl)(d:codeIn K (.ref c) n=true:=by kernel_rfl)(k:keepIn K (.ref f)=true:=by kernel_rfl):Ci.EntK K ts false n st:=Ci.entK a l d k
theorem entL{K:Frag}{ts:List (Addr×Str)}{n:Str}{st:Stmt}(f c p:Addr)(pm:Value)(ck:Ci.CodeK K c p)(m:(p,Ci.lamQ n)∈ts)(u:∀q∈ts,q.1=p→q.2=Ci.lamQ n)(a:nsIn K mainGlobals n=some (some (.ref f)):=by kernel_rfl)(l:K.lookup f=some (fo n st pm c):=by kernel_rfl)(d:codeIn K (.ref c) n=true:=by kernel_rfl)(k:keepIn K (.ref f)=true:=by kernel_rfl):Ci.EntK K ts true n st:=⟨f,_,_,_,_,_,_,_,_,_,a,l,d,k,fun _=>⟨c,p,rfl,ck,m,fun q' h=>u _ h rfl⟩⟩
theorem look_app{K L:Frag}{b:Addr}{o:Obj}(e:K.lookup b=some o):(K++L).lookup b=some o:=by
 rw [List.lookup_append,e]
 rfl
end Hd
namespace K32
open PySem L2 Ci
abbrev lw:=PySem.Challenge.rw_cellways_k32_whole_rooms_turned
def top(i:Nat):Stmt:=PySem.Challenge.pw_cellways_k32_whole_rooms_turned.main.body.getD i (.Pass ⟨0,0,0,0⟩)
noncomputable def K(P:Params):PySem.W.Frag:=[(2,{cls:=.none,data:=.dict #[]}),
 (3,{cls:=.type "dict",data:=.dict #[Hd.de P "__name__" 165 (.str "law_cellways_k32_whole_rooms_turned" 434),Hd.de P "__doc__" 166 (.none),Hd.de P "__package__" 167 (.none),Hd.de P "__loader__" 168 (.builtin "__main__.__loader__#opaque"),Hd.de P "__spec__" 169 (.none),Hd.de P "__annotations__" 170 (.ref 6),Hd.de P "__builtins__" 171 (.ref 4),Hd.de P "__file__" 173 (.str "/claim/cut.py" 172),Hd.de P "__cached__" 174 (.none),Hd.de P "FloorError" 206 (.ref 24),Hd.de P "NoSpot" 222 (.ref 37),Hd.de P "WALL" 226 (.str "#" 225),Hd.de P "STRAIGHT_COST" 228 (.int 2 227),Hd.de P "SLANTING_COST" 230 (.int 3 229),Hd.de P "is_whole" 237 (.ref 46),Hd.de P "is_spot" 244 (.ref 53),Hd.de P "is_on_floor" 252 (.ref 60),Hd.de P "is_open" 260 (.ref 67),Hd.de P "need_open" 268 (.ref 74),Hd.de P "open_spots" 280 (.ref 81),Hd.de P "height_at" 288 (.ref 88),Hd.de P "open_spots_beside" 299 (.ref 95),Hd.de P "are_beside" 307 (.ref 102),Hd.de P "has_open_corners" 316 (.ref 109),Hd.de P "step_cost" 329 (.ref 116),Hd.de P "steps_from" 341 (.ref 123),Hd.de P "steps_over" 347 (.ref 128),Hd.de P "spread" 364 (.ref 135),Hd.de P "spread_from" 375 (.ref 142),Hd.de P "room_with" 386 (.ref 149),Hd.de P "rooms" 399 (.ref 156),Hd.de P "needs_open" 408 (.ref 163),Hd.de P "reached_past" 421 (.ref 170),Hd.de P "is_narrow" 427 (.ref 175),Hd.de P "narrow_spots" 433 (.ref 180),Hd.de P "_law_cell" 443 (.ref 187),Hd.de P "_law_pick" 453 (.ref 194),Hd.de P "_law_floor" 471 (.ref 201),Hd.de P "_law_walker" 479 (.ref 208),Hd.de P "_law_turned_floor" 485 (.ref 213),Hd.de P "_law_turned_spot" 494 (.ref 220),Hd.de P "_law_lifted" 500 (.ref 225),Hd.de P "law" 506 (.ref 230)] 43}),
 (4,{cls:=.type "module",dict:=some builtinsNs,data:=.plain}),
 (23,{cls:=.type "dict",data:=.dict #[Hd.de P "__module__" 196 (.str "cellways.errors" 187),Hd.de P "__firstlineno__" 200 (.int 2 199),Hd.de P "__static_attributes__" 201 (.ref 22),Hd.de P "__weakref__" 203 (.ref 25),Hd.de P "__doc__" 204 (.none)] 3}),
 (24,{cls:=.type "type",data:=.cls {name:="FloorError",bases:=[.type "ValueError"],mro:=[.ref 24,.type "ValueError",.type "Exception",.type "BaseException",.type "object"],ns:=23,qualname:="FloorError",subclasses:=[.ref 37]},slots:=#[some (.ref 15),none,some (.str "FloorError" 189),some (.str "FloorError" 197),some (.builtin "ValueError.__new__"),some (.bool Bool.true)]}),
 (36,{cls:=.type "dict",data:=.dict #[Hd.de P "__module__" 214 (.str "cellways.errors" 187),Hd.de P "__firstlineno__" 218 (.int 4 217),Hd.de P "__static_attributes__" 219 (.ref 35),Hd.de P "__doc__" 220 (.none)] 2}),
 (37,{cls:=.type "type",data:=.cls {name:="NoSpot",bases:=[.ref 24],mro:=[.ref 37,.ref 24,.type "ValueError",.type "Exception",.type "BaseException",.type "object"],ns:=36,qualname:="NoSpot"},slots:=#[some (.ref 28),none,some (.str "NoSpot" 207),some (.str "NoSpot" 215),some (.builtin "ValueError.__new__"),some (.bool Bool.true)]}),
 (45,{cls:=.type "code",data:=.fields #[.str "is_whole" 231,.str "is_whole" 232,.str "/claim/cut.py" 233,.int 10 0,.int 1 0,.int 0 0,.int 0 0,.int 3 0,.ref 40,.bool Bool.true,.int 181 0,.ref 41,.none,.ref 42,.ref 43,.ref 44,.int 235 0,.int 10 0,.str "/claim/cut.py" 236]}),
 (46,Hd.fo "is_whole" (top 7) (.str "cellways.floors" 223) 45),
 (52,{cls:=.type "code",data:=.fields #[.str "is_spot" 238,.str "is_spot" 239,.str "/claim/cut.py" 240,.int 12 0,.int 1 0,.int 0 0,.int 0 0,.int 3 0,.ref 47,.bool Bool.true,.int 181 0,.ref 48,.none,.ref 49,.ref 50,.ref 51,.int 242 0,.int 12 0,.str "/claim/cut.py" 243]}),
 (53,Hd.fo "is_spot" (top 8) (.str "cellways.floors" 223) 52),
 (59,{cls:=.type "code",data:=.fields #[.str "is_on_floor" 245,.str "is_on_floor" 246,.str "/claim/cut.py" 247,.int 14 0,.int 2 0,.int 0 0,.int 0 0,.int 3 0,.ref 54,.bool Bool.true,.int 181 0,.ref 55,.none,.ref 56,.ref 57,.ref 58,.int 250 0,.int 14 0,.str "/claim/cut.py" 251]}),
 (60,Hd.fo "is_on_floor" (top 9) (.str "cellways.floors" 223) 59),
 (66,{cls:=.type "code",data:=.fields #[.str "is_open" 253,.str "is_open" 254,.str "/claim/cut.py" 255,.int 16 0,.int 2 0,.int 0 0,.int 0 0,.int 3 0,.ref 61,.bool Bool.true,.int 181 0,.ref 62,.none,.ref 63,.ref 64,.ref 65,.int 258 0,.int 16 0,.str "/claim/cut.py" 259]}),
 (67,Hd.fo "is_open" (top 10) (.str "cellways.floors" 223) 66),
 (73,{cls:=.type "code",data:=.fields #[.str "need_open" 261,.str "need_open" 262,.str "/claim/cut.py" 263,.int 18 0,.int 2 0,.int 0 0,.int 0 0,.int 3 0,.ref 68,.bool Bool.true,.int 181 0,.ref 69,.none,.ref 70,.ref 71,.ref 72,.int 266 0,.int 18 0,.str "/claim/cut.py" 267]}),
 (74,Hd.fo "need_open" (top 11) (.str "cellways.floors" 223) 73),
 (80,{cls:=.type "code",data:=.fields #[.str "open_spots" 269,.str "open_spots" 270,.str "/claim/cut.py" 271,.int 21 0,.int 1 0,.int 0 0,.int 0 0,.int 3 0,.ref 75,.bool Bool.true,.int 181 0,.ref 76,.none,.ref 77,.ref 78,.ref 79,.int 278 0,.int 21 0,.str "/claim/cut.py" 279]}),
 (81,Hd.fo "open_spots" (top 12) (.str "cellways.floors" 223) 80),
 (87,{cls:=.type "code",data:=.fields #[.str "height_at" 281,.str "height_at" 282,.str "/claim/cut.py" 283,.int 28 0,.int 2 0,.int 0 0,.int 0 0,.int 3 0,.ref 82,.bool Bool.true,.int 181 0,.ref 83,.none,.ref 84,.ref 85,.ref 86,.int 286 0,.int 28 0,.str "/claim/cut.py" 287]}),
 (88,Hd.fo "height_at" (top 13) (.str "cellways.floors" 223) 87),
 (94,{cls:=.type "code",data:=.fields #[.str "open_spots_beside" 289,.str "open_spots_beside" 290,.str "/claim/cut.py" 291,.int 31 0,.int 2 0,.int 0 0,.int 0 0,.int 3 0,.ref 89,.bool Bool.true,.int 181 0,.ref 90,.none,.ref 91,.ref 92,.ref 93,.int 297 0,.int 31 0,.str "/claim/cut.py" 298]}),
 (95,Hd.fo "open_spots_beside" (top 14) (.str "cellways.floors" 223) 94),
 (101,{cls:=.type "code",data:=.fields #[.str "are_beside" 300,.str "are_beside" 301,.str "/claim/cut.py" 302,.int 38 0,.int 2 0,.int 0 0,.int 0 0,.int 3 0,.ref 96,.bool Bool.true,.int 181 0,.ref 97,.none,.ref 98,.ref 99,.ref 100,.int 305 0,.int 38 0,.str "/claim/cut.py" 306]}),
 (102,Hd.fo "are_beside" (top 15) (.str "cellways.floors" 223) 101),
 (108,{cls:=.type "code",data:=.fields #[.str "has_open_corners" 308,.str "has_open_corners" 309,.str "/claim/cut.py" 310,.int 40 0,.int 3 0,.int 0 0,.int 0 0,.int 3 0,.ref 103,.bool Bool.true,.int 181 0,.ref 104,.none,.ref 105,.ref 106,.ref 107,.int 314 0,.int 40 0,.str "/claim/cut.py" 315]}),
 (109,Hd.fo "has_open_corners" (top 16) (.str "cellways.floors" 223) 108),
 (115,{cls:=.type "code",data:=.fields #[.str "step_cost" 317,.str "step_cost" 318,.str "/claim/cut.py" 319,.int 42 0,.int 4 0,.int 0 0,.int 0 0,.int 3 0,.ref 110,.bool Bool.true,.int 181 0,.ref 111,.none,.ref 112,.ref 113,.ref 114,.int 327 0,.int 42 0,.str "/claim/cut.py" 328]}),
 (116,Hd.fo "step_cost" (top 17) (.str "cellways.floors" 223) 115),
 (122,{cls:=.type "code",data:=.fields #[.str "steps_from" 330,.str "steps_from" 331,.str "/claim/cut.py" 332,.int 53 0,.int 3 0,.int 0 0,.int 0 0,.int 3 0,.ref 117,.bool Bool.true,.int 181 0,.ref 118,.none,.ref 119,.ref 120,.ref 121,.int 339 0,.int 53 0,.str "/claim/cut.py" 340]}),
 (123,Hd.fo "steps_from" (top 18) (.str "cellways.floors" 223) 122),
 (127,{cls:=.type "code",data:=.fields #[.str "steps_over" 342,.str "steps_over" 343,.str "/claim/cut.py" 344,.int 61 0,.int 2 0,.int 0 0,.int 0 0,.int 3 0,.ref 124,.bool Bool.true,.int 181 0,.ref 125,.none,.none,.none,.ref 126,.int 345 0,.int 61 0,.str "/claim/cut.py" 346]}),
 (128,Hd.fo "steps_over" (top 19) (.str "cellways.floors" 223) 127),
 (134,{cls:=.type "code",data:=.fields #[.str "spread" 350,.str "spread" 351,.str "/claim/cut.py" 352,.int 67 0,.int 2 0,.int 0 0,.int 0 0,.int 3 0,.ref 129,.bool Bool.true,.int 181 0,.ref 130,.none,.ref 131,.ref 132,.ref 133,.int 362 0,.int 67 0,.str "/claim/cut.py" 363]}),
 (135,Hd.fo "spread" (top 21) (.str "cellways.ways" 348) 134),
 (141,{cls:=.type "code",data:=.fields #[.str "spread_from" 365,.str "spread_from" 366,.str "/claim/cut.py" 367,.int 80 0,.int 3 0,.int 0 0,.int 0 0,.int 3 0,.ref 136,.bool Bool.true,.int 181 0,.ref 137,.none,.ref 138,.ref 139,.ref 140,.int 373 0,.int 80 0,.str "/claim/cut.py" 374]}),
 (142,Hd.fo "spread_from" (top 22) (.str "cellways.ways" 348) 141),
 (148,{cls:=.type "code",data:=.fields #[.str "room_with" 378,.str "room_with" 379,.str "/claim/cut.py" 380,.int 84 0,.int 3 0,.int 0 0,.int 0 0,.int 3 0,.ref 143,.bool Bool.true,.int 181 0,.ref 144,.none,.ref 145,.ref 146,.ref 147,.int 384 0,.int 84 0,.str "/claim/cut.py" 385]}),
 (149,Hd.fo "room_with" (top 24) (.str "cellways.rooms" 376) 148),
 (155,{cls:=.type "code",data:=.fields #[.str "rooms" 387,.str "rooms" 388,.str "/claim/cut.py" 389,.int 86 0,.int 2 0,.int 0 0,.int 0 0,.int 3 0,.ref 150,.bool Bool.true,.int 181 0,.ref 151,.none,.ref 152,.ref 153,.ref 154,.int 397 0,.int 86 0,.str "/claim/cut.py" 398]}),
 (156,Hd.fo "rooms" (top 25) (.str "cellways.rooms" 376) 155),
 (162,{cls:=.type "code",data:=.fields #[.str "needs_open" 400,.str "needs_open" 401,.str "/claim/cut.py" 402,.int 96 0,.int 3 0,.int 0 0,.int 0 0,.int 3 0,.ref 157,.bool Bool.true,.int 181 0,.ref 158,.none,.ref 159,.ref 160,.ref 161,.int 406 0,.int 96 0,.str "/claim/cut.py" 407]}),
 (163,Hd.fo "needs_open" (top 26) (.str "cellways.rooms" 376) 162),
 (169,{cls:=.type "code",data:=.fields #[.str "reached_past" 409,.str "reached_past" 410,.str "/claim/cut.py" 411,.int 98 0,.int 3 0,.int 0 0,.int 0 0,.int 3 0,.ref 164,.bool Bool.true,.int 181 0,.ref 165,.none,.ref 166,.ref 167,.ref 168,.int 419 0,.int 98 0,.str "/claim/cut.py" 420]}),
 (170,Hd.fo "reached_past" (top 27) (.str "cellways.rooms" 376) 169),
 (174,{cls:=.type "code",data:=.fields #[.str "is_narrow" 422,.str "is_narrow" 423,.str "/claim/cut.py" 424,.int 108 0,.int 3 0,.int 0 0,.int 0 0,.int 3 0,.ref 171,.bool Bool.true,.int 181 0,.ref 172,.none,.none,.none,.ref 173,.int 425 0,.int 108 0,.str "/claim/cut.py" 426]}),
 (175,Hd.fo "is_narrow" (top 28) (.str "cellways.rooms" 376) 174),
 (179,{cls:=.type "code",data:=.fields #[.str "narrow_spots" 428,.str "narrow_spots" 429,.str "/claim/cut.py" 430,.int 111 0,.int 2 0,.int 0 0,.int 0 0,.int 3 0,.ref 176,.bool Bool.true,.int 181 0,.ref 177,.none,.none,.none,.ref 178,.int 431 0,.int 111 0,.str "/claim/cut.py" 432]}),
 (180,Hd.fo "narrow_spots" (top 29) (.str "cellways.rooms" 376) 179),
 (186,{cls:=.type "code",data:=.fields #[.str "_law_cell" 436,.str "_law_cell" 437,.str "/claim/cut.py" 438,.int 118 0,.int 2 0,.int 0 0,.int 0 0,.int 3 0,.ref 181,.bool Bool.true,.int 181 0,.ref 182,.none,.ref 183,.ref 184,.ref 185,.int 441 0,.int 118 0,.str "/claim/cut.py" 442]}),
 (187,Hd.fo "_law_cell" (top 31) (.str "law_cellways_k32_whole_rooms_turned" 434) 186),
 (193,{cls:=.type "code",data:=.fields #[.str "_law_pick" 444,.str "_law_pick" 445,.str "/claim/cut.py" 446,.int 124 0,.int 3 0,.int 0 0,.int 0 0,.int 3 0,.ref 188,.bool Bool.true,.int 181 0,.ref 189,.none,.ref 190,.ref 191,.ref 192,.int 451 0,.int 124 0,.str "/claim/cut.py" 452]}),
 (194,Hd.fo "_law_pick" (top 32) (.str "law_cellways_k32_whole_rooms_turned" 434) 193),
 (200,{cls:=.type "code",data:=.fields #[.str "_law_floor" 454,.str "_law_floor" 455,.str "/claim/cut.py" 456,.int 127 0,.int 3 0,.int 0 0,.int 0 0,.int 3 0,.ref 195,.bool Bool.true,.int 181 0,.ref 196,.none,.ref 197,.ref 198,.ref 199,.int 469 0,.int 127 0,.str "/claim/cut.py" 470]}),
 (201,Hd.fo "_law_floor" (top 33) (.str "law_cellways_k32_whole_rooms_turned" 434) 200),
 (207,{cls:=.type "code",data:=.fields #[.str "_law_walker" 472,.str "_law_walker" 473,.str "/claim/cut.py" 474,.int 140 0,.int 2 0,.int 0 0,.int 0 0,.int 3 0,.ref 202,.bool Bool.true,.int 181 0,.ref 203,.none,.ref 204,.ref 205,.ref 206,.int 477 0,.int 140 0,.str "/claim/cut.py" 478]}),
 (208,Hd.fo "_law_walker" (top 34) (.str "law_cellways_k32_whole_rooms_turned" 434) 207),
 (212,{cls:=.type "code",data:=.fields #[.str "_law_turned_floor" 480,.str "_law_turned_floor" 481,.str "/claim/cut.py" 482,.int 142 0,.int 2 0,.int 0 0,.int 0 0,.int 3 0,.ref 209,.bool Bool.true,.int 181 0,.ref 210,.none,.none,.none,.ref 211,.int 483 0,.int 142 0,.str "/claim/cut.py" 484]}),
 (213,Hd.fo "_law_turned_floor" (top 35) (.str "law_cellways_k32_whole_rooms_turned" 434) 212),
 (219,{cls:=.type "code",data:=.fields #[.str "_law_turned_spot" 486,.str "_law_turned_spot" 487,.str "/claim/cut.py" 488,.int 148 0,.int 3 0,.int 0 0,.int 0 0,.int 3 0,.ref 214,.bool Bool.true,.int 181 0,.ref 215,.none,.ref 216,.ref 217,.ref 218,.int 492 0,.int 148 0,.str "/claim/cut.py" 493]}),
 (220,Hd.fo "_law_turned_spot" (top 36) (.str "law_cellways_k32_whole_rooms_turned" 434) 219),
 (224,{cls:=.type "code",data:=.fields #[.str "_law_lifted" 495,.str "_law_lifted" 496,.str "/claim/cut.py" 497,.int 154 0,.int 1 0,.int 0 0,.int 0 0,.int 3 0,.ref 221,.bool Bool.true,.int 181 0,.ref 222,.none,.none,.none,.ref 223,.int 498 0,.int 154 0,.str "/claim/cut.py" 499]}),
 (225,Hd.fo "_law_lifted" (top 37) (.str "law_cellways_k32_whole_rooms_turned" 434) 224),
 (229,{cls:=.type "code",data:=.fields #[.str "law" 501,.str "law" 502,.str "/claim/cut.py" 503,.int 160 0,.int 1 0,.int 0 0,.int 0 0,.int 3 0,.ref 226,.bool Bool.true,.int 181 0,.ref 227,.none,.none,.none,.ref 228,.int 504 0,.int 160 0,.str "/claim/cut.py" 505]}),
 (230,Hd.fo "law" (top 38) (.str "law_cellways_k32_whole_rooms_turned" 434) 229)]
def ts:List (Addr×Str):=[(130,lamQ "spread"),(137,lamQ "spread_from")]
noncomputable def K2(P:Params):PySem.W.Frag:=K P++[(130,PySem.W.tabObj #[]),(137,PySem.W.tabObj #[])]
noncomputable def as:List Addr:=[2,3,4,23,24,36,37,45,46,52,53,59,60,66,67,73,74,80,81,87,88,94,95,101,102,108,109,115,116,122,123,127,128,134,135,141,142,148,149,155,156,162,163,169,170,174,175,179,180,186,187,193,194,200,201,207,208,212,213,219,220,224,225,229,230,130,137]
noncomputable def Γ:Pg:=⟨[("WALL",(.str "#")),("STRAIGHT_COST",(.int 2)),("SLANTING_COST",(.int 3))],["len","abs","max","min","int","str","tuple","isinstance","bool","range","enumerate","sorted"],[],[],["NoSpot"],[],false⟩
def R0:eL:=[]
theorem n8:cG (Γ.at R0 false) "_law_cell" cO (top 31):=stM fun _ _ _ _ _ _=>Hd.ar2 fun _ _=>rfl
noncomputable def R1:eL:=⟨"_law_cell","_law_cell",cO,top 31,false⟩::R0
theorem n9:cG (Γ.at R1 false) "_law_pick" bI (top 32):=stM fun _ _ _ _ _ _=>Hd.ar3 fun _ _ _=>rfl
noncomputable def R2:eL:=⟨"_law_pick","_law_pick",bI,top 32,false⟩::R1
theorem me:cG (Γ.at R2 false) "_law_floor" bY (top 33):=stM fun _ _ _ _ _ _=>Hd.ar3 fun _ _ _=>rfl
noncomputable def R3:eL:=⟨"_law_floor","_law_floor",bY,top 33,false⟩::R2
theorem j3:cG (Γ.at R3 false) "_law_walker" cg (top 34):=stM fun _ _ _ _ _ _=>Hd.ar2 fun _ _=>rfl
noncomputable def R4:eL:=⟨"_law_walker","_law_walker",cg,top 34,false⟩::R3
theorem fM:cG (Γ.at R4 false) "_law_turned_floor" aO (top 35):=stM fun _ _ _ _ _ _=>Hd.ar2 fun _ _=>rfl
noncomputable def R5:eL:=⟨"_law_turned_floor","_law_turned_floor",aO,top 35,false⟩::R4
theorem mi:cG (Γ.at R5 false) "open_spots" bX (top 12):=stM fun _ _ _ _ _ _=>Hd.ar1 fun _=>rfl
noncomputable def R6:eL:=⟨"open_spots","open_spots",bX,top 12,false⟩::R5
theorem qS:cG (Γ.at R6 false) "is_whole" dN (top 7):=stM fun _ _ _ _ _ _=>Hd.ar1 fun _=>rfl
noncomputable def R7:eL:=⟨"is_whole","is_whole",dN,top 7,false⟩::R6
theorem sx:cG (Γ.at R7 false) "is_spot" dE (top 8):=stM fun _ _ _ _ _ _=>Hd.ar1 fun _=>rfl
noncomputable def R8:eL:=⟨"is_spot","is_spot",dE,top 8,false⟩::R7
theorem kO:cG (Γ.at R8 false) "is_on_floor" cb (top 9):=stM fun _ _ _ _ _ _=>Hd.ar2 fun _ _=>rfl
noncomputable def R9:eL:=⟨"is_on_floor","is_on_floor",cb,top 9,false⟩::R8
theorem sA:cG (Γ.at R9 false) "is_open" cC (top 10):=stM fun _ _ _ _ _ _=>Hd.ar2 fun _ _=>rfl
noncomputable def NF:eL:=⟨"is_open","is_open",cC,top 10,false⟩::R9
theorem nR:cG (Γ.at NF false) "need_open" bM (top 11):=stM fun _ _ _ _ _ _=>Hd.ar2 fun _ _=>rfl
noncomputable def NY:eL:=⟨"need_open","need_open",bM,top 11,false⟩::NF
theorem fJ:cG (Γ.at NY false) "open_spots_beside" bq (top 14):=stM fun _ _ _ _ _ _=>Hd.ar2 fun _ _=>rfl
noncomputable def NB:eL:=⟨"open_spots_beside","open_spots_beside",bq,top 14,false⟩::NY
theorem lO:cG (Γ.at NB false) "are_beside" cE (top 15):=stM fun _ _ _ _ _ _=>Hd.ar2 fun _ _=>rfl
noncomputable def NQ:eL:=⟨"are_beside","are_beside",cE,top 15,false⟩::NB
theorem nD:cG (Γ.at NQ false) "height_at" cR (top 13):=stM fun _ _ _ _ _ _=>Hd.ar2 fun _ _=>rfl
noncomputable def Oi:eL:=⟨"height_at","height_at",cR,top 13,false⟩::NQ
theorem gk:cG (Γ.at Oi false) "has_open_corners" bz (top 16):=stM fun _ _ _ _ _ _=>Hd.ar3 fun _ _ _=>rfl
noncomputable def M7:eL:=⟨"has_open_corners","has_open_corners",bz,top 16,false⟩::Oi
theorem pF:cG (Γ.at M7 false) "step_cost" bO (top 17):=stM fun _ _ _ _ _ _=>Hd.ar4 fun _ _ _ _=>rfl
noncomputable def N4:eL:=⟨"step_cost","step_cost",bO,top 17,false⟩::M7
theorem lW:cG (Γ.at N4 false) "steps_from" bH (top 18):=stM fun _ _ _ _ _ _=>Hd.ar3 fun _ _ _=>rfl
noncomputable def Nc:eL:=⟨"steps_from","steps_from",bH,top 18,false⟩::N4
theorem eJ:cG (Γ.at Nc true) "spread" bo (top 21):=stM fun _ _ _ _ _ _=>Hd.ar2 fun _ _=>rfl
noncomputable def NM:eL:=⟨"spread@steps_from","spread",bo,top 21,true⟩::Nc
theorem lj:cG (Γ.at NM true) "spread_from" cj (top 22):=stM fun _ _ _ _ _ _=>Hd.ar3 fun _ _ _=>rfl
noncomputable def Nz:eL:=⟨"spread_from","spread_from",cj,top 22,true⟩::NM
theorem nZ:cG (Γ.at Nz false) "room_with" cQ (top 24):=stM fun _ _ _ _ _ _=>Hd.ar3 fun _ _ _=>rfl
noncomputable def Nw:eL:=⟨"room_with","room_with",cQ,top 24,false⟩::Nz
theorem xO:cG (Γ.at Nw false) "rooms" d5 (top 25):=stM fun _ _ _ _ _ _=>Hd.ar2 fun _ _=>rfl
noncomputable def Nv:eL:=⟨"rooms","rooms",d5,top 25,false⟩::Nw
theorem lX:cG (Γ.at Nv false) "steps_over" cB (top 19):=stM fun _ _ _ _ _ _=>Hd.ar2 fun _ _=>rfl
noncomputable def N9:eL:=⟨"steps_over","steps_over",cB,top 19,false⟩::Nv
theorem lV:cG (Γ.at N9 false) "needs_open" bZ (top 26):=stM fun _ _ _ _ _ _=>Hd.ar3 fun _ _ _=>rfl
noncomputable def Oa:eL:=⟨"needs_open","needs_open",bZ,top 26,false⟩::N9
theorem jd:cG (Γ.at Oa false) "reached_past" bT (top 27):=stM fun _ _ _ _ _ _=>Hd.ar3 fun _ _ _=>rfl
noncomputable def NC:eL:=⟨"reached_past","reached_past",bT,top 27,false⟩::Oa
theorem pB:cG (Γ.at NC false) "is_narrow" cq (top 28):=stM fun _ _ _ _ _ _=>Hd.ar3 fun _ _ _=>rfl
noncomputable def M9:eL:=⟨"is_narrow","is_narrow",cq,top 28,false⟩::NC
theorem jk:cG (Γ.at M9 false) "narrow_spots" bU (top 29):=stM fun _ _ _ _ _ _=>Hd.ar2 fun _ _=>rfl
noncomputable def Oj:eL:=⟨"narrow_spots","narrow_spots",bU,top 29,false⟩::M9
theorem kD:cG (Γ.at Oj false) "_law_lifted" bE (top 37):=stM fun _ _ _ _ _ _=>Hd.ar1 fun _=>rfl
noncomputable def NS:eL:=⟨"_law_lifted","_law_lifted",bE,top 37,false⟩::Oj
theorem gj:cG (Γ.at NS false) "_law_turned_spot" aS (top 36):=stM fun _ _ _ _ _ _=>Hd.ar3 fun _ _ _=>rfl
noncomputable def R28:eL:=⟨"_law_turned_spot","_law_turned_spot",aS,top 36,false⟩::NS
theorem st_law:cG (Γ.at R28 false) "law" d_law (top 38):=stM fun _ _ _ _ _ _=>Hd.ar1 fun _=>rfl
theorem m9(P:Params):CodeK (K P) 134 130:=⟨⟨.type "code",none,.fields #[.str "spread" 350,.str "spread" 351,.str "/claim/cut.py" 352,.int 67 0,.int 2 0,.int 0 0,.int 0 0,.int 3 0,.ref 129,.bool Bool.true,.int 181 0,.ref 130,.none,.ref 131,.ref 132,.ref 133,.int 362 0,.int 67 0,.str "/claim/cut.py" 363],#[]⟩,_,_,_,_,_,_,_,_,by kernel_rfl,rfl,rfl,rfl,rfl,rfl,rfl,rfl,rfl,by decide⟩
theorem ft(P:Params):CodeK (K P) 141 137:=⟨⟨.type "code",none,.fields #[.str "spread_from" 365,.str "spread_from" 366,.str "/claim/cut.py" 367,.int 80 0,.int 3 0,.int 0 0,.int 0 0,.int 3 0,.ref 136,.bool Bool.true,.int 181 0,.ref 137,.none,.ref 138,.ref 139,.ref 140,.int 373 0,.int 80 0,.str "/claim/cut.py" 374],#[]⟩,_,_,_,_,_,_,_,_,by kernel_rfl,rfl,rfl,rfl,rfl,rfl,rfl,rfl,rfl,by decide⟩
theorem hlawT(ns:List Int)(hl:ns.length≤63):ag (den (tab R28)) d_law [.lst (ns.map .int)]=.ok (.bl true):=Jm ns hl
theorem allK(P:Params):AllK (K P) ts Γ R28:=
 ⟨Hd.ent 220 219 (.str "law_cellways_k32_whole_rooms_turned" 434),gj,⟨by decide+kernel,by decide+kernel,fun z=>by first|rfl|exact absurd z (by decide)⟩,⟨Hd.ent 225 224 (.str "law_cellways_k32_whole_rooms_turned" 434),kD,⟨by decide+kernel,by decide+kernel,fun z=>by first|rfl|exact absurd z (by decide)⟩,⟨Hd.ent 180 179 (.str "cellways.rooms" 376),jk,⟨by decide+kernel,by decide+kernel,fun z=>by first|rfl|exact absurd z (by decide)⟩,⟨Hd.ent 175 174 (.str "cellways.rooms" 376),pB,⟨by decide+kernel,by decide+kernel,fun z=>by first|rfl|exact absurd z (by decide)⟩,⟨Hd.ent 170 169 (.str "cellways.rooms" 376),jd,⟨by decide+kernel,by decide+kernel,fun z=>by first|rfl|exact absurd z (by decide)⟩,⟨Hd.ent 163 162 (.str "cellways.rooms" 376),lV,⟨by decide+kernel,by decide+kernel,fun z=>by first|rfl|exact absurd z (by decide)⟩,⟨Hd.ent 128 127 (.str "cellways.floors" 223),lX,⟨by decide+kernel,by decide+kernel,fun z=>by first|rfl|exact absurd z (by decide)⟩,⟨Hd.ent 156 155 (.str "cellways.rooms" 376),xO,⟨by decide+kernel,by decide+kernel,fun z=>by first|rfl|exact absurd z (by decide)⟩,⟨Hd.ent 149 148 (.str "cellways.rooms" 376),nZ,⟨by decide+kernel,by decide+kernel,fun z=>by first|rfl|exact absurd z (by decide)⟩,⟨Hd.entL 142 141 137 (.str "cellways.ways" 348) (ft P) (by decide+kernel) (by decide+kernel),lj,⟨by decide+kernel,by decide+kernel,fun z=>by first|rfl|exact absurd z (by decide)⟩,⟨Hd.entL 135 134 130 (.str "cellways.ways" 348) (m9 P) (by decide+kernel) (by decide+kernel),eJ,⟨by decide+kernel,by decide+kernel,fun z=>by first|rfl|exact absurd z (by decide)⟩,⟨Hd.ent 123 122 (.str "cellways.floors" 223),lW,⟨by decide+kernel,by decide+kernel,fun z=>by first|rfl|exact absurd z (by decide)⟩,⟨Hd.ent 116 115 (.str "cellways.floors" 223),pF,⟨by decide+kernel,by decide+kernel,fun z=>by first|rfl|exact absurd z (by decide)⟩,⟨Hd.ent 109 108 (.str "cellways.floors" 223),gk,⟨by decide+kernel,by decide+kernel,fun z=>by first|rfl|exact absurd z (by decide)⟩,⟨Hd.ent 88 87 (.str "cellways.floors" 223),nD,⟨by decide+kernel,by decide+kernel,fun z=>by first|rfl|exact absurd z (by decide)⟩,⟨Hd.ent 102 101 (.str "cellways.floors" 223),lO,⟨by decide+kernel,by decide+kernel,fun z=>by first|rfl|exact absurd z (by decide)⟩,⟨Hd.ent 95 94 (.str "cellways.floors" 223),fJ,⟨by decide+kernel,by decide+kernel,fun z=>by first|rfl|exact absurd z (by decide)⟩,⟨Hd.ent 74 73 (.str "cellways.floors" 223),nR,⟨by decide+kernel,by decide+kernel,fun z=>by first|rfl|exact absurd z (by decide)⟩,⟨Hd.ent 67 66 (.str "cellways.floors" 223),sA,⟨by decide+kernel,by decide+kernel,fun z=>by first|rfl|exact absurd z (by decide)⟩,⟨Hd.ent 60 59 (.str "cellways.floors" 223),kO,⟨by decide+kernel,by decide+kernel,fun z=>by first|rfl|exact absurd z (by decide)⟩,⟨Hd.ent 53 52 (.str "cellways.floors" 223),sx,⟨by decide+kernel,by decide+kernel,fun z=>by first|rfl|exact absurd z (by decide)⟩,⟨Hd.ent 46 45 (.str "cellways.floors" 223),qS,⟨by decide+kernel,by decide+kernel,fun z=>by first|rfl|exact absurd z (by decide)⟩,⟨Hd.ent 81 80 (.str "cellways.floors" 223),mi,⟨by decide+kernel,by decide+kernel,fun z=>by first|rfl|exact absurd z (by decide)⟩,⟨Hd.ent 213 212 (.str "law_cellways_k32_whole_rooms_turned" 434),fM,⟨by decide+kernel,by decide+kernel,fun z=>by first|rfl|exact absurd z (by decide)⟩,⟨Hd.ent 208 207 (.str "law_cellways_k32_whole_rooms_turned" 434),j3,⟨by decide+kernel,by decide+kernel,fun z=>by first|rfl|exact absurd z (by decide)⟩,⟨Hd.ent 201 200 (.str "law_cellways_k32_whole_rooms_turned" 434),me,⟨by decide+kernel,by decide+kernel,fun z=>by first|rfl|exact absurd z (by decide)⟩,⟨Hd.ent 194 193 (.str "law_cellways_k32_whole_rooms_turned" 434),n9,⟨by decide+kernel,by decide+kernel,fun z=>by first|rfl|exact absurd z (by decide)⟩,⟨Hd.ent 187 186 (.str "law_cellways_k32_whole_rooms_turned" 434),n8,⟨by decide+kernel,by decide+kernel,fun z=>by first|rfl|exact absurd z (by decide)⟩,trivial⟩⟩⟩⟩⟩⟩⟩⟩⟩⟩⟩⟩⟩⟩⟩⟩⟩⟩⟩⟩⟩⟩⟩⟩⟩⟩⟩⟩
structure JT(K:PySem.W.Frag)(d:Str)(D:Addr):Prop where
 e:PySem.W.nsIn K mainGlobals d=some (some (.ref D))
 xc:GC K D
 vt:PySem.W.kitOne K (.ref D) (.type "ValueError")=some true
 ex:PySem.W.excIn K D zq "ValueError.__new__"=true
theorem M3{K:PySem.W.Frag}{d:Str}{D:Addr}(e:PySem.W.nsIn K mainGlobals d=some (some (.ref D)):=by kernel_rfl)(i:PySem.W.isClsIn K D=true:=by kernel_rfl)(v:PySem.W.subIn K (.ref D) (.type "ValueError")=some true:=by kernel_rfl)(ga:PySem.W.findIn K (.ref D) "__getattribute__"=some (some (.builtin "BaseException.__getattribute__")):=by kernel_rfl)(hk:PySem.W.findIn K (.ref D) "__getattr__"=some none:=by kernel_rfl)
 (cl:PySem.W.findIn K (.ref D) "__class__"=some (some (.builtin "object.__class__")):=by kernel_rfl) (mo:PySem.W.mroIn K D (.type "object")=some true:=by kernel_rfl) (mb:PySem.W.mroIn K D (.type "BaseException")=some true:=by kernel_rfl) (ex:PySem.W.excIn K D zq "ValueError.__new__"=true:=by kernel_rfl):JT K d D:=
 ⟨e,⟨ga,hk,cl,mo,mb,i⟩,xZ (by decide+kernel) v,ex⟩
theorem modK(P:Params){mg:Str→Option Value}{h:Heap}(X:(K P).In h)(G:h.Ns mainGlobals mg):sN (K P) mg Γ ⟨K P,mg,["NoSpot"],ts⟩:=by
 have HA:∀{x:Str} {u:Value},PySem.W.nsIn (K P) mainGlobals x=some (some u)→mg x=some u:=fun a=>PySem.W.mg_of X G a
 have xg:∀{x:Str},PySem.W.nsIn (K P) mainGlobals x=some none→mg x=none:=fun a=>PySem.W.mg_none_of X G a
 have fk:JT (K P) "NoSpot" 37:=M3
 refine⟨rfl,rfl,fun q hq=>?_,fun g hg=>?_,by decide+kernel,fun c hc=>?_,fun d hd D hD=>?_,fun c hc=>?_,fun c hc=>?_,fun z=>absurd z (by decide+kernel),fun _=>⟨4,⟨.type "module",some builtinsNs,.plain,#[]⟩,HA (by kernel_rfl),by decide,by decide,by kernel_rfl,rfl,rfl,rfl⟩⟩
 ·simp only [Γ,List.mem_cons,List.not_mem_nil,or_false] at hq;rcases hq with rfl|rfl|rfl
  ·exact⟨.str "#" 225,.str "#",HA (by kernel_rfl),⟨_,rfl⟩,fun G=>.s⟩
  ·exact⟨.int 2 227,.int 2,HA (by kernel_rfl),⟨_,rfl⟩,fun G=>.i⟩
  ·exact⟨.int 3 229,.int 3,HA (by kernel_rfl),⟨_,rfl⟩,fun G=>.i⟩
 ·simp only [Γ,List.mem_cons,List.not_mem_nil,or_false] at hg;rcases hg with rfl|rfl|rfl|rfl|rfl|rfl|rfl|rfl|rfl|rfl|rfl|rfl
  ·exact xg (by kernel_rfl)
  ·exact xg (by kernel_rfl)
  ·exact xg (by kernel_rfl)
  ·exact xg (by kernel_rfl)
  ·exact xg (by kernel_rfl)
  ·exact xg (by kernel_rfl)
  ·exact xg (by kernel_rfl)
  ·exact xg (by kernel_rfl)
  ·exact xg (by kernel_rfl)
  ·exact xg (by kernel_rfl)
  ·exact xg (by kernel_rfl)
  ·exact xg (by kernel_rfl)
 ·simp only [Γ,List.mem_cons,List.not_mem_nil,or_false] at hc
 ·simp only [List.mem_cons,List.not_mem_nil,or_false] at hd;rcases hd with rfl
  ·cases(HA fk.e).symm.trans hD;refine⟨fk.xc,fun c hc C hC=>?_,fk.vt⟩
   simp only [Γ,List.mem_cons,List.not_mem_nil,or_false] at hc
 ·simp only [Γ,List.contains_iff_mem,List.mem_cons,List.not_mem_nil,or_false] at hc⊢;exact hc
 ·simp only [Γ,List.contains_iff_mem,List.mem_cons,List.not_mem_nil,or_false] at hc;rcases hc with rfl
  ·exact⟨_,HA fk.e,fk.ex⟩
theorem hY{P:Params}{h:Heap}(X:(K2 P).In h):(K P).In h∧∀p∈ts.map (·.1),h.get? p=some (PySem.W.tabObj #[]):=⟨fun b o e=>X b o (Hd.look_app e),fun p hp=>by
 simp only [ts,zzF,List.map_nil,List.mem_cons,List.not_mem_nil,or_false] at hp;rcases hp with rfl|rfl
 ·exact X _ _ (by kernel_rfl)
 ·exact X _ _ (by kernel_rfl)
⟩
theorem hC(P:Params):∀p∈ts.map (·.1),(∃c,CodeK (K P) c p)∧(K P).lookup p=none:=fun p hp=>by
 simp only [ts,zzF,List.map_nil,List.mem_cons,List.not_mem_nil,or_false] at hp;rcases hp with rfl|rfl
 ·exact⟨⟨_,m9 P⟩,by kernel_rfl⟩
 ·exact⟨⟨_,ft P⟩,by kernel_rfl⟩
def keep:List Nat:=[1,2,4,5,6,7,8,9,10,11,12,13,14,15,16,17,18,19,21,22,24,25,26,27,28,29,31,32,33,34,35,36,37,38]
theorem ka:∀P,as=(K2 P).map (·.1):=fun _=>by kernel_rfl
theorem left:PySem.W.LeftO lw.row.prog (PySem.W.view lw.row.prog keep) [] (fun s=>PySem.W.xlAt (PySem.W.view lw.row.prog keep) [] s&&PySem.W.recOk lw.row.toRowW.records s) (PySem.W.kHook K2 as ka).obs (PySem.W.kHook K2 as ka).val 2860:=by
 refine Hd.left_of (T₀:=fun P=>Hd.treeOf (PySem.W.boot_heap P).objs.toList) (m₀:=11) (life:={}) (ann:=some (.ref 6)) (M:=2810) (by kernel_rfl) (by kernel_rfl) (fun s=>by kernel_rfl) Hd.boot0 Hd.boot1 (by kernel_rfl) fun w os=>?_
 rw [PySem.W.Fast.te10156331382660048174,PySem.W.Fast.te11892475500146522536,PySem.W.Fast.te14364793385576792824,PySem.W.Fast.te6613529449190102663,PySem.W.Fast.te4187177175401517315,PySem.W.Fast.te5923862056798008813]
 kernel_rfl
end K32
open PySem PySem.W PyProof.Rows
set_option maxRecDepth 100000 in
set_option maxHeartbeats 0 in
theorem PySem.Challenge.cw_cellways_k32_whole_rooms_turned_holds : PySem.Challenge.rw_cellways_k32_whole_rooms_turned.Holds := by
 refine Hd.holds (d:=⟨"law",L2.defArgs (K32.top 38),L2.defBody (K32.top 38),L2.defScope (K32.top 38),Hd.dpos (K32.top 38)⟩) (by kernel_rfl) K32.ka K32.left (by kernel_rfl) (by kernel_rfl) (by kernel_rfl) (by kernel_rfl) ⟨rfl,rfl,rfl,rfl,rfl,by decide+kernel⟩ ?hw ?hc
 case hw=>w_witness2
 case hc=>exact Ci.walk (l:=PySem.Challenge.rw_cellways_k32_whole_rooms_turned) K32.R28 K32.Γ "_law_script" K32.d_law ["NoSpot"] K32.ts (K32.top 38) rfl rfl rfl rfl rfl ⟨rfl,by decide,by decide⟩ (fun w h Y=>K32.hY (PySem.W.kIn_of Y)) (fun w=>K32.hC w.params) (fun w mg h KX G=>K32.modK _ KX G) (fun w=>Hd.ent 230 229 (.str "law_cellways_k32_whole_rooms_turned" 434)) K32.st_law (fun w=>K32.allK _) K32.hlawT
#print axioms PySem.Challenge.cw_cellways_k32_whole_rooms_turned_holds
