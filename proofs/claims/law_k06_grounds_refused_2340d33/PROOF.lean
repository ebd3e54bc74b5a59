import PyProof.Rows.All
import Wide.All
import OpenK.AllK
import Wide.FinOn
import Lean
import PyProof.EqAt
import PyProof.EqKinds
import PyProof.TupleCall
import PySem.Challenge.RW_cellways_k06_grounds_refused
set_option Elab.async false
set_option linter.all false
set_option genSizeOf false
set_option genSizeOfSpec false
set_option bootstrap.genMatcherCode false
set_option compiler.extract_closed false
set_option compiler.reuse false
set_option maxRecDepth 100000
abbrev zz8:=PySem.W.Frag
local macro_rules | `(zz9 $x) => `(($x).heap.objs.size)
local macro_rules | `(tactic| simp! [$x,*] $[$l:location]?) => `(tactic| simp only [$x,*] $[$l]?)
theorem zzf:¬false=true:=Bool.false_ne_true
theorem zza(a b:Bool):((a&&b)=true)=(a=true/\b=true):=Bool.and_eq_true a b
theorem zzg.{u}{α:Type u}{l:List α}{i:Nat}(h:i<l.length):l[i]?=some l[i]:=List.getElem?_eq_getElem h
theorem zzl.{u,v}{α:Type u}{β:Type v}{l:List α}(f:α->β):(l.map f).length=l.length:=List.length_map f
def zzA:=@PySem.wpAny_bind
def zzB:=@PySem.Heap.get?_push_of_some
def zzC:=@List.size_toArray
def zzD:=@List.mem_of_getElem?
def zzE:=@Nat.le_refl
def zzF:=@List.map_cons
def zzG:=@PySem.wpAny_pure
def zzH:=@List.getElem?_eq_some_iff
def zzI:=@List.mem_cons_of_mem
def zzJ:=@Option.map_eq_some_iff
def zzK:=@List.getD_eq_getElem?_getD
def zzL:=@List.length_cons
def zzM:=@List.length_append
def zzN:=@decide_eq_true_eq
def zzO:=@PySem.Heap.lt_size
def zzP:=@List.mem_cons_self
def zzQ:=@List.getElem?_map
def zzR:=@List.mem_append_right
def zzS:=@List.getElem?_set_ne
def zzT:=@List.all_eq_true
def zzU:=@Nat.le_trans
def zzV:=@Nat.lt_of_le_of_lt
def zzW:=@Nat.lt_of_lt_of_le
def zzX:=@PySem.Heap.get?_push_size
def zzY:=@of_decide_eq_true
def zzZ:=@Option.bind_eq_some_iff
def zzb:=@Nat.ne_of_lt
def zzc:=@List.mem_append_left
def zzd:=@Array.length_toList
def zze:=@Bool.false_eq_true
def zzi:=@List.mem_singleton
def zzj:=@List.any_eq_true
def zzk:=@False.elim
def zzm:=@List.mem_cons
def zzn:=@List.contains_iff_mem
def zzo:=@List.getElem?_set_self
def zzp:=@Option.isSome_iff_exists
def zzq:=@Option.some.inj
def zzr:=@List.getElem?_append_left
def zzs:=@List.getElem?_append_right
def zzt:=@Bool.or_eq_true
def zzu:=@PySem.Heap.SameBut.update
def zzw:=@Int.eq_ofNat_of_zero_le
def zzx:=@List.mem_map
def zzy:=@beq_iff_eq
def zz0:=@decide_eq_false
def zz1:=@List.mem_filterMap
def zz4:=@Int.toNat_natCast
def zz5:=@List.lookup_cons
def zz6:=@List.append_nil
namespace L2
open PySem PySem.Spec PyProof.Rows
abbrev Key:=Sum Int Str
noncomputable def j3:Key->Value->Bool
 |.inl k,v=>Value.isInt k v
 |.inr x,v=>Value.isStrOf x v
noncomputable def Ij(w:World):Key->Int
 |.inl k=>hashInt k
 |.inr x=>hashStr w x
theorem bx:∀{k:Key} {v:Value},j3 k v=true->(∃i t,k=Sum.inl i/\v=Value.int i t)\/(∃x t,k=Sum.inr x/\v=Value.str x t)
 |.inl i,v,h=>by
  obtain⟨t,e⟩:=Value.isInt_shape (k:=i) (v:=v) h
  exact .inl ⟨i,t,rfl,e⟩
 |.inr x,v,h=>by
  obtain⟨t,e⟩:=Value.isStrOf_shape (x:=x) (v:=v) h
  exact .inr ⟨x,t,rfl,e⟩
def q0(i:Int)(t:Tok):j3 (.inl i) (.int i t)=true:=by simp [j3,Value.isInt]
def rN(x:Str)(t:Tok):j3 (.inr x) (.str x t)=true:=by simp [j3,Value.isStrOf]
def A8(a b:Int):decide ((Sum.inl a:Key)=Sum.inl b)=(a==b):=by
 by_cases e:a=b
 ·subst e;simp
 ·have h:¬(Sum.inl a:Key)=Sum.inl b:=λq=>e (Sum.inl.inj q)
  rw [zz0 h];exact(beq_eq_false_iff_ne.mpr e).symm
def Bv(a b:Str):decide ((Sum.inr a:Key)=Sum.inr b)=decide (a=b):=by
 by_cases e:a=b
 ·subst e;simp
 ·have h:¬(Sum.inr a:Key)=Sum.inr b:=λq=>e (Sum.inr.inj q)
  rw [zz0 h,zz0 e]
def A2(a:Int)(b:Str):decide ((Sum.inl a:Key)=Sum.inr b)=false:=zz0 (λq=>nomatch q)
def AA(a:Str)(b:Int):decide ((Sum.inr a:Key)=Sum.inl b)=false:=zz0 (λq=>nomatch q)
noncomputable def cE(prog:Program)(w:World):PySem.KeyKind prog w Key where
 is:=j3
 hash:=Ij w
 inj:=λv a b ha hb=>by
  rcases bx ha with⟨i,t,rfl,rfl⟩|⟨x,t,rfl,rfl⟩
  ·rcases bx hb with⟨j,u,rfl,e⟩|⟨y,u,rfl,e⟩
   ·injection e with e1 _;rw [e1]
   ·exact nomatch e
  ·rcases bx hb with⟨j,u,rfl,e⟩|⟨y,u,rfl,e⟩
   ·exact nomatch e
   ·injection e with e1 _;rw [e1]
 byValue:=λk v h=>by
  rcases bx h with⟨i,t,rfl,rfl⟩|⟨x,t,rfl,rfl⟩<;>rfl
 pyHash:=λhv h=>by
  rcases bx hv with⟨i,t,rfl,rfl⟩|⟨x,t,rfl,rfl⟩
  ·exact wpAny_pyHash_int h
  ·exact wpAny_pyHash_str h
 eqBool:=λhu hv h=>by
  rcases bx hu with⟨i,t,rfl,rfl⟩|⟨x,t,rfl,rfl⟩
  ·rcases bx hv with⟨j,u,rfl,rfl⟩|⟨y,u,rfl,rfl⟩
   ·rw [A8] at h;exact wpAny_eqBool_int h
   ·rw [A2] at h;exact SeqAt.EqAt.int_str i t y u _ _ _ _ h
  ·rcases bx hv with⟨j,u,rfl,rfl⟩|⟨y,u,rfl,rfl⟩
   ·rw [AA] at h;exact SeqAt.EqAt.str_int x t j u _ _ _ _ h
   ·rw [Bv] at h;exact wpAny_eqBool_str h
 «strs»:=λk x t v h=>by
  rcases bx h with⟨i,u,rfl,e⟩|⟨y,u,rfl,e⟩
  ·exact nomatch e
  ·injection e with e1 _
   subst e1;cases v<;>rfl
def l8(prog:Program)(w:World)(i:Int)(t:Tok):(cE prog w).is (.inl i) (.int i t)=true:=q0 i t
def my(prog:Program)(w:World)(x:Str)(t:Tok):(cE prog w).is (.inr x) (.str x t)=true:=rN x t
inductive V where
 |bO|bl (b:Bool)|int (i:Int)|str (x:Str)|GH (b:Array UInt8)|Gr (b:UInt64)|ref (a:Addr)|ty (n:String)
 deriving DecidableEq
def RelV:V->Value->Prop
 |.bO,u=>u=Value.none
 |.bl b,u=>u=Value.bool b
 |.int i,u=>∃t,u=Value.int i t
 |.str x,u=>∃t,u=Value.str x t
 |.GH b,u=>∃t,u=Value.bytes b t
 |.Gr b,u=>∃t,u=Value.float b t
 |.ref a,u=>u=Value.ref a
 |.ty n,u=>u=Value.type n
abbrev Vals:List V->List Value->Prop:=Paired RelV
def Vals.length{xs:List V}{us:List Value}(r:Vals xs us):xs.length=us.length:=Paired.length r
theorem Vals.get:∀{xs:List V} {us:List Value} {i:Nat} {x:V},Vals xs us->xs[i]?=some x->∃u,us[i]?=some u/\RelV x u
 |_,_,_,_,.nil,e=>by simp at e
 |_,_,0,_,.cons r _,e=>by simp at e;subst e;exact⟨_,rfl,r⟩
 |_,_,i+1,x,.cons _ t,e=>by
  obtain⟨u,h1,h2⟩:=Vals.get (i:=i) (x:=x) t (by simpa using e)
  exact⟨u,by simpa using h1,h2⟩
theorem Vals.set{x:V}{u:Value}(r:RelV x u):∀{xs:List V} {us:List Value} (i:Nat),Vals xs us->Vals (xs.set i x) (us.set i u)
 |_,_,_,.nil=>.nil
 |_,_,0,.cons _ t=>.cons r t
 |_,_,i+1,.cons q t=>.cons q (Vals.set r i t)
theorem Vals.append:∀{xs ys:List V} {us ws:List Value},Vals xs us->Vals ys ws->Vals (xs++ys) (us++ws)
 |_,_,_,_,.nil,s=>s
 |_,_,_,_,.cons r t,s=>.cons r (Vals.append t s)
theorem Vals.take:∀{xs:List V} {us:List Value} (n:Nat),Vals xs us->Vals (xs.take n) (us.take n)
 |_,_,0,_=>.nil
 |_,_,_+1,.nil=>.nil
 |_,_,n+1,.cons r t=>.cons r (Vals.take n t)
theorem Vals.drop:∀{xs:List V} {us:List Value} (n:Nat),Vals xs us->Vals (xs.drop n) (us.drop n)
 |_,_,0,r=>r
 |_,_,_+1,.nil=>.nil
 |_,_,n+1,.cons _ t=>Vals.drop n t
def qM:Option V->Option Value->Prop
 |some v,some u=>RelV v u
 |none,none=>True
 |_,_=>False
def KV{κ:Type}:List (κ×V)->List (κ×Value)->Prop:=Paired λ(p:κ×V) (q:κ×Value)=>p.1=q.1/\RelV p.2 q.2
noncomputable def kV:Key->V
 |.inl i=>.int i
 |.inr x=>.str x
inductive HO where
 |lst (xs:List V)
 |tup (xs:List V)
 |dK (bo:List (Key×V))|dT (bo:List (List Key×V))
 |set (S:Int->Bool) (n:Nat)
 |ins (C dx:Addr) (fs:List (Str×V))
 |own (x:Addr)
 |xd (fs:List (Str×V))
 |met (f x:Addr)
 |nj (lo hi:Int)
 |bI (o:Obj) (u:HO)
 |ei (ps:Array Value)
 |ext (φ:Heap->Prop)
abbrev Hp:=Addr->Option HO
noncomputable def upd(H:Hp)(a:Addr)(o:HO):Hp:=λb=>if b=a then some o else H b
def aq{H:Hp}{a:Addr}{o:HO}:upd H a o a=some o:=by unfold upd;rw [if_pos rfl]
def af{H:Hp}{a b:Addr}{o:HO}(h:b≠a):upd H a o b=H b:=by unfold upd;rw [if_neg h]
def EA{H:Hp}{a b:Addr}{o u:HO}(h:H a=some o)(h':H b=some u)(d:o≠u):a≠b:=by
 intro e;subst e;rw [h] at h';exact d (zzq h')
def bh{H:Hp}{a b:Addr}{o:HO}(h:H a=some o)(h':H b=none):a≠b:=by
 intro e;subst e;rw [h] at h';cases h'
section
variable(P:Program)(w:World)
def bS(H:Hp)(h:Heap)(a:Addr):HO->Prop
 |.lst xs=>xs.length<=sizeLine/\∃(aj:List Value) (n:Nat),Vals xs aj/\h.get? a=some {cls:=.type "list",data:=.seq aj.toArray n}
 |.tup xs=>xs.length<=sizeLine/\∃aj:List Value,Vals xs aj/\IsTup h a aj.toArray
 |.dK bo=>bo.length<=sizeLine/\(a==sysModules)=false/\∃vs,KV bo vs/\h.DictOf (cE P w) a vs
 |.dT bo=>bo.length<=sizeLine/\(a==sysModules)=false/\∃xs:List (List Key×Addr×Value),
  Paired (λ(p:List Key×V) (q:List Key×Addr×Value)=>p.1=q.1/\H q.2.1=some (.tup (p.1.map kV))/\RelV p.2 q.2.2) bo xs/\
  ∃o es ep,h.get? a=some o/\o.ExactDict/\o.data=.dict es ep/\es.toList=xs.map (entryOfKey (tupleKind (cE P w)))/\(xs.map (·.1)).Nodup
 |.set S n=>h.SetOf (intKind P w) a S n
 |.ins C dx fs=>H dx=some (.own a)/\fs.length<=1000/\dx≠a/\h.get? a=some (PySem.W.instObj C dx)/\
  ∃mA,h.Ns1 dx mA/\(∀f,qM (fs.lookup f) (mA f))/\PySem.Within mA (fs.map (·.1))
 |.own _=>∃o,h.get? a=some o
 |.xd fs=>∃mA,h.Ns1 a mA/\∀f,qM (fs.lookup f) (mA f)
 |.nj lo hi=>∃t u v,h.get? a=some {cls:=.type "range",data:=.fields #[.int lo t,.int hi u,.int 1 v]}
 |.bI o u=>h.get? a=some o/\bS H h a u
 |.ei ps=>h.get? a=some {cls:=.none,data:=.fields ps}
 |.met f x=>h.get? a=some (PySem.W.methodObj (.ref f) (.ref x))
 |.ext φ=>φ h/\(∃o,h.get? a=some o)/\∀h1 h2:Heap,φ h1->(∀o,h1.get? a=some o->h2.get? a=some o)->φ h2
def dF(H:Hp)(h:Heap):Prop:=∀a o,H a=some o->bS P w H h a o
end
section
variable{P:Program}{w:World}{H H':Hp}{h h':Heap}{a:Addr}{o:HO}
def bS.lt(x:bS P w H h a o):a<h.objs.size:=by
 cases o with
 |lst xs=>obtain⟨_,_,_,_,e⟩:=x;exact zzO e
 |tup xs=>obtain⟨_,_,_,p⟩:=x;exact p.lt
 |dK bo=>obtain⟨_,_,_,_,o,_,_,e,_⟩:=x;exact zzO e
 |dT bo=>obtain⟨_,_,_,_,o,_,_,e,_⟩:=x;exact zzO e
 |set S n=>obtain⟨o,_,_,_,e,_⟩:=x;exact zzO e
 |ins C dx fs=>obtain⟨_,_,_,e,_⟩:=x;exact zzO e
 |own y=>obtain⟨_,e⟩:=x;exact zzO e
 |xd fs=>obtain⟨_,⟨_,_,_,e,_⟩,_⟩:=x;exact zzO e
 |nj lo hi=>obtain⟨_,_,_,e⟩:=x;exact zzO e
 |bI ob u=>obtain⟨e,_⟩:=x;exact zzO e
 |ei ps=>exact zzO (show h.get? a=some _ from x)
 |met f y=>exact zzO (show h.get? a=some _ from x)
 |ext φ=>obtain⟨_,⟨_,e⟩,_⟩:=x;exact zzO e
theorem Paired.AZ{α β:Type}{F G:α->β->Prop}:∀{l₁:List α} {l₂:List β},Paired F l₁ l₂->(∀a b,F a b->G a b)->Paired G l₁ l₂
 |_,_,.nil,_=>.nil
 |_,_,.cons r t,f=>.cons (f _ _ r) (Paired.AZ t f)
def bS.cU(x:bS P w H h a o)(k:∀b u,(b=a\/H b=some (.own a))->h.get? b=some u->h'.get? b=some u)
 (ho:∀b,H b=some (.own a)->H' b=some (.own a)) (ht:∀b xs,H b=some (.tup xs)->H' b=some (.tup xs)):bS P w H' h' a o:=by
 induction o with
 |lst xs=>obtain⟨z,aj,n,r,e⟩:=x;exact⟨z,aj,n,r,k _ _ (.inl rfl) e⟩
 |tup xs=>obtain⟨z,aj,r,ob,e,c⟩:=x;exact⟨z,aj,r,ob,k _ _ (.inl rfl) e,c⟩
 |dK bo=>obtain⟨z,y,vs,r,ob,es,ep,e,c⟩:=x;exact⟨z,y,vs,r,ob,es,ep,k _ _ (.inl rfl) e,c⟩
 |dT bo=>
  obtain⟨z,y,xs,r,ob,es,ep,e,c⟩:=x
  exact⟨z,y,xs,Paired.AZ r λp q z=>⟨z.1,ht _ _ z.2.1,z.2.2⟩,ob,es,ep,k _ _ (.inl rfl) e,c⟩
 |set S n=>obtain⟨ob,es,ep,t,e,c⟩:=x;exact⟨ob,es,ep,t,k _ _ (.inl rfl) e,c⟩
 |ins C dx fs=>
  obtain⟨d,z,ne,e,mA,⟨od,es,ep,e2,c⟩,r⟩:=x
  exact⟨ho _ d,z,ne,k _ _ (.inl rfl) e,mA,⟨od,es,ep,k _ _ (.inr d) e2,c⟩,r⟩
 |own y=>obtain⟨ob,e⟩:=x;exact⟨ob,k _ _ (.inl rfl) e⟩
 |xd fs=>obtain⟨mA,⟨od,es,ep,e,c⟩,r⟩:=x;exact⟨mA,⟨od,es,ep,k _ _ (.inl rfl) e,c⟩,r⟩
 |nj lo hi=>obtain⟨t,u,v,e⟩:=x;exact⟨t,u,v,k _ _ (.inl rfl) e⟩
 |bI ob u ih=>obtain⟨e,q⟩:=x;exact⟨k _ _ (.inl rfl) e,ih q⟩
 |ei ps=>
  have e:h.get? a=some {cls:=.none,data:=.fields ps}:=x
  show h'.get? a=some {cls:=.none,data:=.fields ps}
  exact k a _ (.inl rfl) e
 |met f y=>
  have e:h.get? a=some (PySem.W.methodObj (.ref f) (.ref y)):=x
  show h'.get? a=some (PySem.W.methodObj (.ref f) (.ref y))
  exact k a _ (.inl rfl) e
 |ext φ=>obtain⟨p,⟨o,e⟩,st⟩:=x;exact⟨st _ _ p λo q=>k _ _ (.inl rfl) q,⟨o,k _ _ (.inl rfl) e⟩,st⟩
def dF.lt(x:dF P w H h)(e:H a=some o):a<h.objs.size:=(x a o e).lt
def dF.fresh(x:dF P w H h)(e:h.objs.size<=a):H a=none:=by
 cases q:H a with
 |none=>rfl
 |some u=>exact absurd (zzW (x.lt q) e) (Nat.lt_irrefl _)
def dF.kept(x:dF P w H h)(k:∀b u,h.get? b=some u->h'.get? b=some u):dF P w H h':=λa o e=>
 (x a o e).cU (λb u _ q=>k b u q) (λ_ q=>q) λ_ _ q=>q
theorem dF.laid(x:dF P w H h)(k:∀b u,h.get? b=some u->h'.get? b=some u)(hp:h.objs.size<=a)(new:bS P w (upd H a o) h' a o):dF P w (upd H a o) h':=λb u e=>by
 have hn:=x.fresh hp
 by_cases hb:b=a
 ·subst hb;rw [aq] at e;cases e;exact new
 ·rw [af hb] at e;exact(x b u e).cU (λc v _ q=>k c v q) (λc q=>by rw [af (bh q hn)];exact q) λc xs q=>by rw [af (bh q hn)];exact q
end
def Rd(H:Hp)(a:Addr)(u:HO):Prop:=H a=some u\/∃o,H a=some (.bI o u)
def Rd.ok{P:Program}{w:World}{H:Hp}{h:Heap}{a:Addr}{u:HO}(r:Rd H a u)(x:dF P w H h):bS P w H h a u:=by
 rcases r with r|⟨o,r⟩
 ·exact x a u r
 ·obtain⟨_,q⟩:=x a _ r
  exact q
def EM:Option HO->Prop
 |some (.lst _)=>True
 |some (.dK _)=>True
 |some (.dT _)=>True
 |some (.set _ _)=>True
 |some (.ins _ _ _)=>True
 |some (.ext _)=>True
 |_=>False
section
variable{P:Program}{w:World}{H:Hp}{h h':Heap}{x e:Addr}{o':HO}
def dF.write(ok:dF P w H h)(mu:EM (H x))(he:e=x\/H e=some (.own x))(k:∀b u,b≠e->h.get? b=some u->h'.get? b=some u)(Co:∃u,h'.get? e=some u)
 (new:bS P w (upd H x o') h' x o'):dF P w (upd H x o') h':=λb u q=>by
 have Ep:∀c y,H c=some (.own y)->c≠x:=λc y r z=>by subst z;rw [r] at mu;exact mu
 have Ib:∀c xs,H c=some (.tup xs)->c≠x:=λc xs r z=>by subst z;rw [r] at mu;exact mu
 by_cases hb:b=x
 ·subst hb;rw [aq] at q;cases q;exact new
 ·rw [af hb] at q
  by_cases hbe:b=e
  ·have q':H b=some (.own x):=by
    rcases he with z|z
    ·exact absurd (hbe.trans z) hb
    ·rw [hbe];exact z
   rw [q] at q';cases q';obtain⟨v,hv⟩:=Co
   exact⟨v,by rw [hbe];exact hv⟩
  ·refine(ok b u q).cU (λc v hc r=>k c v ?_ r) (λc r=>by rw [af (Ep c b r)];exact r) λc xs r=>by rw [af (Ib c xs r)];exact r
   rcases hc with rfl|hc
   ·exact hbe
   ·rintro rfl
    rcases he with z|z
    ·exact Ep c b hc z
    ·rw [hc] at z;cases z;exact hb rfl
end
structure Un(fs ex:List Addr)(H H':Hp)(h h':Heap):Prop where
 keep:∀b o,h.get? b=some o->H b=none->b∉fs->b∉ex->h'.get? b=some o
 slot:∀b o,h.get? b=some o->H b=none->b∈fs->b∉ex->∃sl,h'.get? b=some {o with slots:=sl}
 free:∀b o,h.get? b=some o->H b=none->b∉ex->H' b=none
 there:∀b o,h.get? b=some o->b∉ex->∃o',h'.get? b=some o'
 d9:∀b xs,H b=some (.tup xs)->H' b=some (.tup xs)
 dA:∀b o u,H b=some (.bI o u)->H' b=some (.bI o u)
 dX:∀b ps,H b=some (.ei ps)->∃more,H' b=some (.ei (ps++more))
section
variable{fs ex:List Addr}{H H1:Hp}{h h1 h':Heap}{a x e:Addr}{o:HO}
def Un.any(u:Un fs ex H H1 h h1){b:Addr}{ob:Obj}(q:h.get? b=some ob)(n:H b=none)(hx:b∉ex):∃sl,h1.get? b=some {ob with slots:=sl}:=by
 by_cases hb:b∈fs
 ·exact u.slot b ob q n hb hx
 ·exact⟨ob.slots,u.keep b ob q n hb hx⟩
def Un.kept(k:∀b u,h.get? b=some u->h'.get? b=some u):Un fs ex H H h h':=
 ⟨λb ob q _ _ _=>k b ob q,λb ob q _ _ _=>⟨ob.slots,k b ob q⟩,λ_ _ _ n _=>n,λb ob q _=>⟨ob,k b ob q⟩,λ_ _ q=>q,λ_ _ _ q=>q,λ_ ps q=>⟨#[],by rw [q];simp⟩⟩
def Un.refl:Un fs ex H H h h:=Un.kept λ_ _ q=>q
theorem Un.laid(k:∀b u,h.get? b=some u->h'.get? b=some u)(hp:h.objs.size<=a)(hn:H a=none):Un fs ex H (upd H a o) h h' where
 keep:=λb u q _ _ _=>k b u q
 slot:=λb u q _ _ _=>⟨u.slots,k b u q⟩
 free:=λb u q n _=>by rw [af (zzb (zzW (zzO q) hp))];exact n
 there:=λb u q _=>⟨u,k b u q⟩
 d9:=λb xs q=>by rw [af (bh q hn)];exact q
 dA:=λb u xs q=>by rw [af (bh q hn)];exact q
 dX:=λb ps q=>⟨#[],by rw [af (bh q hn),q];simp⟩
def Un.write(mu:EM (H x))(he:e=x\/H e=some (.own x))(k:∀b u,b≠e->h.get? b=some u->h'.get? b=some u)(Co:∃u,h'.get? e=some u):Un fs ex H (upd H x o) h h':=by
 have hx:∀b,H b=none->b≠x:=λb n z=>by subst z;rw [n] at mu;exact mu
 have hb:∀b,H b=none->b≠e:=λb n z=>by
  subst z;rcases he with r|r
  ·exact hx b n r
  ·rw [n] at r;cases r
 have hm:∀b u,H b=some u->¬EM (some u)->b≠x:=λb u q nm z=>by subst z;rw [q] at mu;exact nm mu
 refine⟨λb u q n _ _=>k b u (hb b n) q,λb u q n _ _=>⟨u.slots,k b u (hb b n) q⟩,λb u q n _=>by rw [af (hx b n)];exact n,λb u q _=>?_,
  λb xs q=>by rw [af (hm b _ q λz=>z)];exact q,λb u xs q=>by rw [af (hm b _ q λz=>z)];exact q,λb ps q=>⟨#[],by rw [af (hm b _ q λz=>z),q];simp⟩⟩
 by_cases hbe:b=e
 ·subst hbe;exact Co
 ·exact⟨u,k b u hbe q⟩
end
noncomputable def Fp(h:Heap)(H:Hp):List Addr:=(List.range h.objs.size).filter λa=>(H a).isSome
noncomputable def kS(h:Heap)(H:Hp):Heap:=PySem.W.hideAll h (Fp h H)
def qP(h:Heap)(H:Hp):(kS h H).objs.size=h.objs.size:=PySem.W.hideAll_size _ _
theorem u0{h:Heap}{H:Hp}{b:Addr}{o:Obj}(e:h.get? b=some o)(n:H b=none):(kS h H).get? b=some o:=
 PySem.W.hideAll_get _ e λhm=>by
  have q:(H b).isSome=true:=(List.mem_filter.mp hm).2
  rw [n] at q;simp at q
def wH{h:Heap}{H:Hp}{b:Addr}{o:Obj}(e:(kS h H).get? b=some o):h.get? b=some o/\H b=none:=by
 have e':h.get? b=some o:=PySem.W.of_hideAll (Fp h H) e
 refine⟨e',?_⟩;cases q:H b with
 |none=>rfl
 |some x=>
  have hm:b∈Fp h H:=List.mem_filter.mpr ⟨List.mem_range.mpr (zzO e'),by simp [q]⟩
  have z:(kS h H).get? b=none:=PySem.W.hideAll_none (Fp h H) hm
  rw [z] at e;cases e
noncomputable def xR(g h:Heap)(L:Addr):List (Addr×Obj):=(List.range h.objs.size).filterMap λa=>if a=L\/(g.get? a).isSome=true then none else(h.get? a).map λo=>(a,o)
noncomputable def rest(g h:Heap)(L d:Addr):List (Addr×Obj):=(xR g h L).filter λp=>decide (p.1≠d)
structure Mod(K:zz8)(mg:Str->Option Value)(base:Heap):Prop where
 Cb:K.In base
 glob:base.Ns mainGlobals mg
 blt:∃mb,base.Ns builtinsNs mb/\∀x:Str,x≠"__name__"->mb x=bootBuiltins x
 nolimit:base.NoLimit
structure Cx where
 prog:Program
 w:World
 K:zz8
 mg:Str->Option Value
 base:Heap
 A:Around
 N:List Str
 s₀:Shared
 H₀:Hp
 env:Env
 outer:List Env
 stack:List Env
 ex:List Addr
 fn:Str->Bool
 calm:Bool
 pn:List (Addr×Obj)
 xe:Value->Shared->Prop
noncomputable def df(l:List Env):List Addr:=l.filterMap (·.frame)
noncomputable abbrev Cx.fs(X:Cx):List Addr:=df X.outer
def B6(sc:Scope)(x:Str):Prop:=sc.names.lookup x=some .local\/sc.names.lookup x=some .cell\/sc.names.lookup x=some .free
def Loc(sc:Scope)(x:Str):Prop:=sc.names.lookup x=some .local\/sc.names.lookup x=some .cell
def Look(env:Env)(h:Heap)(m:Str->Option Value)(x:Str)(u:Value):Prop:=
 (env.kindOf x=some .local/\m x=some u)\/((env.kindOf x=some .cell\/env.kindOf x=some .free)/\∃c,env.cells.lookup x=some c/\h.IsCell c (some u))
structure Cx.Ok(X:Cx):Prop where
 mod:Mod X.K X.mg X.base
 kind:X.env.scope.kind=.function
 glob:X.env.globals=mainGlobals
 blt:X.env.builtins=builtinsNs
 above:X.s₀.heap.objs.size<=X.env.locals
 inj:∀x y c,X.env.cells.lookup x=some c->X.env.cells.lookup y=some c->x=y
 has:∀x,(X.env.kindOf x=some .cell\/X.env.kindOf x=some .free)->∃c,X.env.cells.lookup x=some c
 AH:∀x c,X.fn x=true->X.env.cells.lookup x=some c->X.s₀.heap.objs.size<=c
 hd:X.calm=true->X.A.handled=none
 frames:X.A.frames=some X.stack
 u5:X.stack=X.outer\/(X.stack=X.env::X.outer/\X.env.frame=some X.env.locals)
 Hb:∀b∈X.ex,b≠X.env.locals/\∀x c,X.env.cells.lookup x=some c->c≠b
 bs:∀b o,X.base.get? b=some o->X.s₀.heap.get? b=some o/\X.H₀ b=none
 pT:X.base.objs.size<=X.s₀.heap.objs.size
 qw:∀b o,X.base.get? b=some o->b∉X.ex
 vb:∀b∈X.ex,b∉X.fs
 eC:X.s₀.heap.FunFrames X.base X.outer
 qm:∀b∈X.fs,X.H₀ b=none
structure Inv(X:Cx)(aa:List (Addr×Obj))(σ:List (Option V))(H:Hp)(s:Shared):Prop where
 ok:X.Ok
 os:s.os=X.s₀.os
 bare:AllBare s.gens
 base:Un X.fs X.ex X.H₀ H X.s₀.heap s.heap
 loc:∃m,s.heap.Ns X.env.locals m/\∀(i:Nat) (x:Str) (v:V),X.N[i]?=some x->σ[i]?=some (some v)->B6 X.env.scope x->∃u,RelV v u/\Look X.env s.heap m x u
 cell:∀x c,X.env.cells.lookup x=some c->∃v,s.heap.IsCell c v
 free:H X.env.locals=none
 dt:∀x c,X.env.cells.lookup x=some c->H c=none
 pin:∀p∈X.pn++aa,s.heap.get? p.1=some p.2/\H p.1=none/\p.1≠X.env.locals/\p.1∉X.fs/\∀v,p.2.data≠.cell v
 aO:dF X.prog X.w H s.heap
 len:σ.length=X.N.length
section
variable{X:Cx}{aa:List (Addr×Obj)}{σ:List (Option V)}{H H':Hp}{s:Shared}{h':Heap}
theorem Cx.Ok.FZ(ok:X.Ok){b:Addr}{o:Obj}(e:X.base.get? b=some o):b∉X.fs:=λhb=>by
 have:=(ok.eC.mem hb).1
 rw [e] at this;cases this
def Inv.bs(I:Inv X aa σ H s):∀b o,X.base.get? b=some o->s.heap.get? b=some o/\H b=none:=λb o e=>
 ⟨I.base.keep b o (I.ok.bs b o e).1 (I.ok.bs b o e).2 (I.ok.FZ e) (I.ok.qw b o e),I.base.free b o (I.ok.bs b o e).1 (I.ok.bs b o e).2 (I.ok.qw b o e)⟩
def Inv.bk(I:Inv X aa σ H s):∀b o,X.base.get? b=some o->s.heap.get? b=some o:=λb o e=>(I.bs b o e).1
def Inv.mod(I:Inv X aa σ H s):Mod X.K X.mg X.base:=I.ok.mod
def Inv.jn(I:Inv X aa σ H s):X.K.In s.heap:=I.ok.mod.Cb.keeps I.bk
theorem Inv.fr(I:Inv X aa σ H s):∃m,Fr X.base X.env.locals s.heap m:=
 let⟨m,hn,_⟩:=I.loc
 ⟨m,hn,I.bk,zzU I.ok.pT I.ok.above⟩
theorem Inv.lt(I:Inv X aa σ H s):X.env.locals<(zz9 s):=let⟨_,hn,_⟩:=I.loc;hn.lt
def Inv.sz(I:Inv X aa σ H s):X.s₀.heap.objs.size<=(zz9 s):=zzU I.ok.above (Nat.le_of_lt I.lt)
theorem Inv.Gw(I:Inv X aa σ H s){a:Addr}(h:(zz9 s)<=a):a∉X.fs:=λhb=>by
 obtain⟨_,o,ho,_⟩:=I.ok.eC.mem hb
 exact absurd (zzW (zzO ho) (zzU I.sz h)) (Nat.lt_irrefl _)
theorem Inv.se(I:Inv X aa σ H s):∀x c,X.env.cells.lookup x=some c->c≠X.env.locals:=λx c e z=>by
 obtain⟨v,o,ho,hd⟩:=I.cell x c e
 obtain⟨m,⟨o',es,ep,hJ,hd',_⟩,_⟩:=I.loc
 rw [z,hJ] at ho;cases ho;rw [hd'] at hd;cases hd
def Inv.eC(I:Inv X aa σ H s):s.heap.FunFrames X.base X.outer:=by
 have all:∀(l:List Env),(∀b∈df l,b∈X.fs)->X.s₀.heap.FunFrames X.base l->s.heap.FunFrames X.base l:=by
  intro l
  induction l with
  |nil=>intro _ _;trivial
  |cons env r ih=>
   intro hs hl;obtain⟨hk,⟨L,o,hf,hn,ho,hd⟩,hr⟩:=hl
   have hL:L∈X.fs:=hs L (by unfold df;rw [List.filterMap_cons,hf];exact zzP)
   obtain⟨sl,e⟩:=I.base.slot L o ho (I.ok.qm L hL) hL λz=>I.ok.vb L z hL
   exact⟨hk,⟨L,_,hf,hn,e,hd⟩,ih (λb hb=>hs b (by unfold df;rw [List.filterMap_cons,hf];exact zzI _ hb)) hr⟩
 exact all X.outer (λ_ hb=>hb) I.ok.eC
def Inv.stack(I:Inv X aa σ H s):s.heap.FunFrames X.base X.stack:=by
 rcases I.ok.u5 with e|⟨e,hf⟩
 ·rw [e];exact I.eC
 ·rw [e];obtain⟨m,hn,_⟩:=I.loc
  refine .cons (by rw [I.ok.kind];decide) hf hn ?_ I.eC;exact Heap.get?_none_of_le (zzU I.ok.pT I.ok.above)
def Inv.gj(I:Inv X aa σ H s):∀b∈df X.stack,b∈X.env.locals::X.fs:=λb hb=>by
 rcases I.ok.u5 with e|⟨e,hf⟩
 ·rw [e] at hb;exact zzI _ hb
 ·rw [e] at hb;unfold df at hb;rw [List.filterMap_cons,hf] at hb;exact hb
theorem Inv.gV(I:Inv X aa σ H s):∀b∈df X.stack,H b=none:=λb hb=>by
 rcases zzm.mp (I.gj b hb) with e|hb
 ·rw [e];exact I.free
 ·obtain⟨_,o,ho,_⟩:=I.ok.eC.mem hb
  exact I.base.free b o ho (I.ok.qm b hb) λz=>I.ok.vb b z hb
def Inv.step{g':Array GenState}{t':Nat}{d':Drawn}{ch:List Addr}(I:Inv X aa σ H s)
 (sf:∀b∈ch,(b∈X.ex\/X.s₀.heap.objs.size<=b)/\b≠X.env.locals/\(∀x c,X.env.cells.lookup x=some c->c≠b)/\∀p∈X.pn++aa,p.1≠b)
 (keep:∀b o,b≠X.env.locals->b∉X.fs->b∉ch->s.heap.get? b=some o->H b=none->h'.get? b=some o)
 (slot:∀b o,b≠X.env.locals->b∈X.fs->b∉ch->s.heap.get? b=some o->H b=none->∃sl,h'.get? b=some {o with slots:=sl}) (free:∀b o,b∉ch->s.heap.get? b=some o->H b=none->H' b=none)
 (there:∀b o,b∉ch->s.heap.get? b=some o->∃o',h'.get? b=some o')
 (d9:∀b xs,H b=some (.tup xs)->H' b=some (.tup xs)) (dA:∀b o u,H b=some (.bI o u)->H' b=some (.bI o u)) (dX:∀b ps,H b=some (.ei ps)->∃more,H' b=some (.ei (ps++more)))
 (ns:∀m,s.heap.Ns X.env.locals m->h'.Ns X.env.locals m) (aO:dF X.prog X.w H' h') (hg:AllBare g'):
 Inv X aa σ H' {s with heap:=h',gens:=g',drawn:=d',toks:=t'}:=by
 have JD:∀b o,X.s₀.heap.get? b=some o->b≠X.env.locals:=λb o e=>zzb (zzW (zzO e) I.ok.above)
 have zL:∀b o,X.s₀.heap.get? b=some o->b∉X.ex->b∉ch:=λb o e hx hb=>by
  rcases(sf b hb).1 with z|z
  ·exact hx z
  ·exact absurd (zzW (zzO e) z) (Nat.lt_irrefl _)
 have cellK:∀x c,X.env.cells.lookup x=some c->∀v,s.heap.IsCell c v->h'.IsCell c v:=λx c e v ⟨o,ho,hd⟩=>by
  have EG:c∉ch:=λz=>(sf c z).2.2.1 x c e rfl
  by_cases hc:c∈X.fs
  ·obtain⟨sl,q⟩:=slot c o (I.se x c e) hc EG ho (I.dt x c e)
   exact⟨_,q,hd⟩
  ·exact⟨o,keep c o (I.se x c e) hc EG ho (I.dt x c e),hd⟩
 refine⟨I.ok,I.os,hg,⟨λb o e n hb hx=>?_,λb o e n hb hx=>?_,λb o e n hx=>?_,λb o e hx=>?_,λb xs e=>d9 b xs (I.base.d9 b xs e),λb o xs e=>dA b o xs (I.base.dA b o xs e),λb ps e=>?_⟩,?_,λx c e=>?_,?_,λx c e=>?_,λp hp=>?_,aO,I.len⟩
 ·exact keep b o (JD b o e) hb (zL b o e hx) (I.base.keep b o e n hb hx) (I.base.free b o e n hx)
 ·obtain⟨sl,e1⟩:=I.base.slot b o e n hb hx
  obtain⟨sl',e2⟩:=slot b _ (JD b o e) hb (zL b o e hx) e1 (I.base.free b o e n hx)
  exact⟨sl',e2⟩
 ·obtain⟨o',e1⟩:=I.base.there b o e hx
  exact free b o' (zL b o e hx) e1 (I.base.free b o e n hx)
 ·obtain⟨o',e1⟩:=I.base.there b o e hx
  exact there b o' (zL b o e hx) e1
 ·obtain⟨m1,e1⟩:=I.base.dX b ps e
  obtain⟨m2,e2⟩:=dX b _ e1
  exact⟨m1++m2,by rw [e2,Array.append_assoc]⟩
 ·obtain⟨m,hn,hl⟩:=I.loc
  refine⟨m,ns m hn,λi x v e1 e2 e3=>?_⟩
  obtain⟨u,r,l⟩:=hl i x v e1 e2 e3
  refine⟨u,r,?_⟩;rcases l with l|⟨k,c,e,z⟩
  ·exact .inl l
  ·exact .inr ⟨k,c,e,cellK x c e _ z⟩
 ·obtain⟨v,z⟩:=I.cell x c e
  exact⟨v,cellK x c e v z⟩
 ·obtain⟨m,⟨o,_,_,ho,_⟩,_⟩:=I.loc
  exact free _ o (λz=>(sf _ z).2.1 rfl) ho I.free
 ·obtain⟨v,o,ho,hd⟩:=I.cell x c e
  exact free c o (λz=>(sf c z).2.2.1 x c e rfl) ho (I.dt x c e)
 ·obtain⟨e,n,ne,nf,d⟩:=I.pin p hp
  have EG:p.1∉ch:=λz=>(sf p.1 z).2.2.2 p hp rfl
  exact⟨keep p.1 p.2 ne nf EG e n,free p.1 p.2 EG e n,ne,nf,d⟩
def Inv.un{t':Nat}(I:Inv X aa σ H s)(u:Un X.fs [] H H' s.heap h')(aO:dF X.prog X.w H' h'):Inv X aa σ H' {s with heap:=h',toks:=t'}:=by
 obtain⟨m,⟨o,es,ep,ho,r⟩,_⟩:=id I.loc
 obtain⟨sl,hL⟩:=u.any ho I.free (by simp)
 exact I.step (g':=s.gens) (d':=s.drawn) (ch:=[]) (λ_ z=>nomatch z) (λb o _ hb _ e n=>u.keep b o e n hb (by simp)) (λb o _ hb _ e n=>u.slot b o e n hb (by simp)) (λb o _ e n=>u.free b o e n (by simp)) (λb o _ e=>u.there b o e (by simp)) u.d9 u.dA u.dX (λm' hm=>by
  obtain⟨o',es',ep',hJ,r'⟩:=hm
  rw [ho] at hJ;cases hJ;exact⟨_,es',ep',hL,r'⟩) aO I.bare
def Inv.call{g':Array GenState}{t':Nat}{d':Drawn}{ch:List Addr}(I:Inv X aa σ H s)(u:Un (df X.stack) ch H H' s.heap h')(aO:dF X.prog X.w H' h')(hg:AllBare g')
 (sf:∀b∈ch,(b∈X.ex\/X.s₀.heap.objs.size<=b)/\b≠X.env.locals/\(∀x c,X.env.cells.lookup x=some c->c≠b)/\∀p∈X.pn++aa,p.1≠b):
 Inv X aa σ H' {s with heap:=h',gens:=g',drawn:=d',toks:=t'}:=by
 obtain⟨m,⟨o,es,ep,ho,r⟩,_⟩:=id I.loc
 obtain⟨sl,hL⟩:=u.any ho I.free λz=>(sf _ z).2.1 rfl
 exact I.step (ch:=ch) sf (λb o hL hb hc e n=>u.keep b o e n (λz=>(zzm.mp (I.gj b z)).elim hL hb) hc) (λb o _ _ hc e n=>u.any e n hc) (λb o hc e n=>u.free b o e n hc) (λb o hc e=>u.there b o e hc) u.d9 u.dA u.dX (λm' hm=>by
  obtain⟨o',es',ep',hJ,r'⟩:=hm
  rw [ho] at hJ;cases hJ;exact⟨_,es',ep',hL,r'⟩) aO hg
def Inv.turned{t':Nat}{it:Addr}(I:Inv X aa σ H s)(k:∀b o,b≠it->s.heap.get? b=some o->h'.get? b=some o)(hn:H it=none)(hL:it≠X.env.locals)
 (h1:it∈X.ex\/X.s₀.heap.objs.size<=it) (h2:∀x c,X.env.cells.lookup x=some c->c≠it) (h3:∀p∈X.pn++aa,p.1≠it):Inv X aa σ H {s with heap:=h',toks:=t'}:=by
 have JU:∀b u,H b=some u->b≠it:=λb u e z=>by rw [z,hn] at e;cases e
 refine I.step (g':=s.gens) (d':=s.drawn) (ch:=[it]) (λb hb=>?_) (λb o _ _ hc e _=>k b o (λz=>hc (by simp [z])) e) (λb o _ _ hc e _=>⟨o.slots,k b o (λz=>hc (by simp [z])) e⟩) (λ_ _ _ _ n=>n)
  (λb o hc e=>⟨o,k b o (λz=>hc (by simp [z])) e⟩) (λ_ _ e=>e) (λ_ _ _ e=>e) (λb ps e=>⟨#[],by rw [e];simp⟩) (λm hm=>?_) (λb u e=>?_) I.bare
 ·have e:b=it:=by simpa using hb
  subst e;exact⟨h1,hL,h2,h3⟩
 ·obtain⟨o,es,ep,ho,r⟩:=hm
  exact⟨o,es,ep,k _ o (Ne.symm hL) ho,r⟩
 ·refine(I.aO b u e).cU (λc v hc q=>k c v ?_ q) (λ_ q=>q) λ_ _ q=>q
  rcases hc with z|z
  ·rw [z];exact JU b u e
  ·exact JU c _ z
theorem Inv.tok(I:Inv X aa σ H s)(t:Nat):Inv X aa σ H {s with toks:=t}:=I.un (h':=s.heap) (t':=t) Un.refl I.aO
theorem Inv.kept{t':Nat}(I:Inv X aa σ H s)(k:∀b u,s.heap.get? b=some u->h'.get? b=some u):Inv X aa σ H {s with heap:=h',toks:=t'}:=I.un (Un.kept k) (I.aO.kept k)
theorem Inv.laid{a:Addr}{o:HO}{t':Nat}(I:Inv X aa σ H s)(k:∀b u,s.heap.get? b=some u->h'.get? b=some u)(hp:(zz9 s)<=a)(new:bS X.prog X.w (upd H a o) h' a o):
 Inv X aa σ (upd H a o) {s with heap:=h',toks:=t'}:=I.un (Un.laid k hp (I.aO.fresh hp)) (I.aO.laid k hp new)
theorem Inv.write{x e:Addr}{o:HO}{t':Nat}(I:Inv X aa σ H s)(mu:EM (H x))(he:e=x\/H e=some (.own x))(k:∀b u,b≠e->s.heap.get? b=some u->h'.get? b=some u)(Co:∃u,h'.get? e=some u)
 (new:bS X.prog X.w (upd H x o) h' x o):Inv X aa σ (upd H x o) {s with heap:=h',toks:=t'}:=I.un (Un.write mu he k Co) (I.aO.write mu he k Co new)
def Inv.g9{fR:List (Addr×Obj)}(I:Inv X aa σ H s)(h:∀p∈fR,s.heap.get? p.1=some p.2/\H p.1=none/\p.1≠X.env.locals/\p.1∉X.fs/\∀v,p.2.data≠.cell v):Inv X fR σ H s:=
 ⟨I.ok,I.os,I.bare,I.base,I.loc,I.cell,I.free,I.dt,λp hp=>(List.mem_append.mp hp).elim (λz=>I.pin p (zzc _ z)) (h p),I.aO,I.len⟩
def fZ{N:List Str}(hN:N.Nodup){i j:Nat}{x:Str}(a:N[i]?=some x)(b:N[j]?=some x):i=j:=by
 obtain⟨h1,e1⟩:=zzH.mp a
 obtain⟨h2,e2⟩:=zzH.mp b
 exact(List.getElem_inj hN).mp (e1.trans e2.symm)
def gF{M:Model}{A:Around}{E:Value->Shared->Prop}{i:Nat}{x:Str}{v:V}{u:Value}{Q:Unit->Shared->Prop}(I:Inv X aa σ H s)(hN:X.N.Nodup)(hi:X.N[i]?=some x)(hx:Loc X.env.scope x)(r:RelV v u)
 (h:∀s',Inv X aa (σ.set i (some v)) H s'->(∃a,Heap.SameBut a s.heap s'.heap/\(a=X.env.locals\/X.env.cells.lookup x=some a))->Q () s') (hf:X.fn x=true\/X.env.scope.names.lookup x=some .local:=by first|exact .inl rfl|exact .inr rfl|assumption):wpAny M A (storeName X.env x u) Q E s:=by
 obtain⟨m,hn,hl⟩:=id I.loc
 have AB:(X.env.scope.kind==.class||(X.env.scope.kind==.module&&X.env.locals !=X.env.globals))=false:=by rw [I.ok.kind];rfl
 have hiσ:i<σ.length:=by rw [I.len];exact(zzH.mp hi).1
 have se:=I.se
 have tracked:∀{a:Addr} {h':Heap},(∃o,s.heap.get? a=some o/\H a=none)->Heap.SameBut a s.heap h'->dF X.prog X.w H h':=λ{a h'} ha hs b ob e=>by
  obtain⟨_,_,hfree⟩:=ha
  refine(I.aO b ob e).cU (λc w' hc q=>(hs.2 c ?_).trans q) (λ_ q=>q) λ_ _ q=>q
  rintro rfl
  rcases hc with rfl|hc
  ·rw [hfree] at e;cases e
  ·rw [hfree] at hc;cases hc
 rcases hx with hk|hk
 ·refine wpAny_storeName_local hk hn (λh' Ey hs=>?_) AB;obtain⟨oL,_,_,hoL,_⟩:=id hn
  refine h _ ⟨I.ok,I.os,I.bare,⟨λb o e n hb hx=>?_,λb o e n hb hx=>?_,I.base.free,λb o e hx=>?_,I.base.d9,I.base.dA,I.base.dX⟩,⟨_,Ey,λj y v' e1 e2 e3=>?_⟩,λy c e=>?_,I.free,I.dt,λp hp=>?_,tracked ⟨oL,hoL,I.free⟩ hs,by simpa using I.len⟩ ⟨_,hs,.inl rfl⟩
  ·exact(hs.2 b (zzb (zzW (zzO e) I.ok.above))).trans (I.base.keep b o e n hb hx)
  ·obtain⟨sl,e1⟩:=I.base.slot b o e n hb hx
   exact⟨sl,(hs.2 b (zzb (zzW (zzO e) I.ok.above))).trans e1⟩
  ·obtain⟨o',e1⟩:=I.base.there b o e hx
   exact⟨o',(hs.2 b (zzb (zzW (zzO e) I.ok.above))).trans e1⟩
  ·by_cases hj:j=i
   ·subst hj;rw [hi] at e1;cases e1;rw [zzo hiσ] at e2;cases e2;exact⟨u,r,.inl ⟨hk,by simp⟩⟩
   ·rw [zzS (Ne.symm hj)] at e2;obtain⟨u',r',q⟩:=hl j y v' e1 e2 e3
    refine⟨u',r',?_⟩;rcases q with⟨k,e⟩|⟨k,c,e,z⟩
    ·refine .inl ⟨k,?_⟩;have:y≠x:=λe=>hj (fZ hN e1 (e▸hi))
     simp [this,e]
    ·exact .inr ⟨k,c,e,z.sameBut hs (se y c e)⟩
  ·obtain⟨w',z⟩:=I.cell y c e
   exact⟨w',z.sameBut hs (se y c e)⟩
  ·obtain⟨e,n,ne,nf,d⟩:=I.pin p hp
   exact⟨(hs.2 p.1 ne).trans e,n,ne,nf,d⟩
 ·have iM:X.fn x=true:=by
   rcases hf with z|z
   ·exact z
   ·rw [z] at hk;cases hk
  obtain⟨c,hc⟩:=I.ok.has x (.inl hk)
  obtain⟨w',z⟩:=I.cell x c hc
  refine wpAny_storeName_cell I.ok.kind hk hc z (λh' fG hs=>?_);obtain⟨oc,hoc,hocd⟩:=id z
  refine h {s with heap:=h'} ⟨I.ok,I.os,I.bare,⟨λb o e n hb hx=>?_,λb o e n hb hx=>?_,I.base.free,λb o e hx=>?_,I.base.d9,I.base.dA,I.base.dX⟩,⟨m,hn.sameBut hs (Ne.symm (se x c hc)),λj y v' e1 e2 e3=>?_⟩,λy c' e=>?_,I.free,I.dt,λp hp=>?_,tracked ⟨oc,hoc,I.dt x c hc⟩ hs,by simpa using I.len⟩ ⟨c,hs,.inr hc⟩
  ·exact(hs.2 b (zzb (zzW (zzO e) (I.ok.AH x c iM hc)))).trans (I.base.keep b o e n hb hx)
  ·obtain⟨sl,e1⟩:=I.base.slot b o e n hb hx
   exact⟨sl,(hs.2 b (zzb (zzW (zzO e) (I.ok.AH x c iM hc)))).trans e1⟩
  ·obtain⟨o',e1⟩:=I.base.there b o e hx
   exact⟨o',(hs.2 b (zzb (zzW (zzO e) (I.ok.AH x c iM hc)))).trans e1⟩
  ·by_cases hj:j=i
   ·subst hj;rw [hi] at e1;cases e1;rw [zzo hiσ] at e2;cases e2;exact⟨u,r,.inr ⟨.inl hk,c,hc,fG⟩⟩
   ·rw [zzS (Ne.symm hj)] at e2;obtain⟨u',r',q⟩:=hl j y v' e1 e2 e3
    refine⟨u',r',?_⟩;rcases q with q|⟨k,c',e,z'⟩
    ·exact .inl q
    ·refine .inr ⟨k,c',e,z'.sameBut hs ?_⟩
     rintro rfl
     exact hj (fZ hN e1 (I.ok.inj _ _ _ e hc▸hi))
  ·by_cases DN:c'=c
   ·subst DN;exact⟨_,fG⟩
   ·obtain⟨w2,z2⟩:=I.cell y c' e
    exact⟨w2,z2.sameBut hs DN⟩
  ·obtain⟨e,n,ne,nf,d⟩:=I.pin p hp
   refine⟨(hs.2 p.1 ?_).trans e,n,ne,nf,d⟩;intro q;rw [q,hoc] at e;have q':oc=p.2:=zzq e
   exact d w' (by rw [<-q'];exact hocd)
def eN{M:Model}{A:Around}{E:Value->Shared->Prop}{i:Nat}{x:Str}{v:V}{u:Value}{Q:Unit->Shared->Prop}(I:Inv X aa σ H s)(hN:X.N.Nodup)(hi:X.N[i]?=some x)(hx:Loc X.env.scope x)(r:RelV v u)
 (h:∀s',Inv X aa (σ.set i (some v)) H s'->Q () s') (hf:X.fn x=true\/X.env.scope.names.lookup x=some .local:=by first|exact .inl rfl|exact .inr rfl|assumption):wpAny M A (storeName X.env x u) Q E s:=
 gF I hN hi hx r (λs' I' _=>h s' I') hf
def Inv.DV{s':Shared}{ch:List Addr}(I:Inv X aa σ H s)(ho:s'.os=s.os)(u:Un (df X.stack) ch H H' s.heap s'.heap)(aO:dF X.prog X.w H' s'.heap)(hg:AllBare s'.gens)
 (sf:∀b∈ch,(b∈X.ex\/X.s₀.heap.objs.size<=b)/\b≠X.env.locals/\(∀x c,X.env.cells.lookup x=some c->c≠b)/\∀p∈X.pn++aa,p.1≠b):Inv X aa σ H' s':=by
 obtain⟨h',g',d',t',o'⟩:=s'
 have e:o'=s.os:=ho
 subst e;exact I.call (g':=g') (t':=t') (d':=d') u aO hg sf
end
noncomputable abbrev XK:=Value->Option Addr->Hp->Prop
abbrev St:=List (Option V)
abbrev VK:=V->Hp->Prop
abbrev TE:=St->Hp->VK->Prop
noncomputable abbrev TT:=St->Hp->(Bool->Hp->Prop)->Prop
noncomputable abbrev TA:=St->Hp->(List V->Hp->Prop)->Prop
structure Ends where
 nx:St->Hp->Prop
 rt:VK
 bk:St->Hp->Prop:=λ_ _=>False
 ct:St->Hp->Prop:=λ_ _=>False
abbrev TS:=Ends->St->Hp->Prop
def EP(X:Cx)(aa:List (Addr×Obj))(σ:St)(Q:VK)(u:Value)(s':Shared):Prop:=∃v H',Inv X aa σ H' s'/\RelV v u/\Q v H'
def TP(X:Cx)(aa:List (Addr×Obj))(σ:St)(Q:Bool->Hp->Prop)(b:Bool)(s':Shared):Prop:=∃H',Inv X aa σ H' s'/\Q b H'
def AP(X:Cx)(aa:List (Addr×Obj))(σ:St)(Q:List V->Hp->Prop)(us:List Value)(s':Shared):Prop:=∃vs H',Inv X aa σ H' s'/\Vals vs us/\Q vs H'
def SP(X:Cx)(aa:List (Addr×Obj))(D:Ends)(f:Flow)(s':Shared):Prop:=
 match f with
 |.next=>∃σ' H',Inv X aa σ' H' s'/\D.nx σ' H'
 |.brk=>∃σ' H',Inv X aa σ' H' s'/\D.bk σ' H'
 |.cont=>∃σ' H',Inv X aa σ' H' s'/\D.ct σ' H'
 |.ret u=>∃v σ' H',Inv X aa σ' H' s'/\RelV v u/\D.rt v H'
def PE(X:Cx)(e:Expr)(t:TE):Prop:=
 ∀(aa:List (Addr×Obj)) (s:Shared) (σ:St) (H:Hp) (Q:VK),Inv X aa σ H s->t σ H Q->wpAny (model X.prog X.w) X.A (eval e X.env) (EP X aa σ Q) X.xe s
def PT(X:Cx)(e:Expr)(t:TT):Prop:=
 ∀(aa:List (Addr×Obj)) (s:Shared) (σ:St) (H:Hp) (Q:Bool->Hp->Prop),Inv X aa σ H s->t σ H Q->wpAny (model X.prog X.w) X.A (isTrue e X.env (eval e X.env)) (TP X aa σ Q) X.xe s
def PW(X:Cx)(e:Expr)(t:TT):Prop:=
 ∀(whole:Sem Value) (aa:List (Addr×Obj)) (s:Shared) (σ:St) (H:Hp) (Q:Bool->Hp->Prop),Inv X aa σ H s->t σ H Q->wpAny (model X.prog X.w) X.A (isTrue e X.env whole) (TP X aa σ Q) X.xe s
def PW.pt{X:Cx}{e:Expr}{t:TT}(h:PW X e t):PT X e t:=h _
def PA(X:Cx)(es:List Expr)(t:TA):Prop:=
 ∀(pos:Pos) (aa:List (Addr×Obj)) (s:Shared) (σ:St) (H:Hp) (Q:List V->Hp->Prop),Inv X aa σ H s->t σ H Q->wpAny (model X.prog X.w) X.A (spliced (backTo pos (starEach es X.env))) (AP X aa σ Q) X.xe s
def PS(X:Cx)(st:Stmt)(t:TS):Prop:=
 ∀(aa:List (Addr×Obj)) (s:Shared) (σ:St) (H:Hp) (D:Ends),Inv X aa σ H s->t D σ H->wpAny (model X.prog X.w) X.A (exec st X.env) (SP X aa D) X.xe s
def md(X:Cx)(st:List Stmt)(t:TS):Prop:=
 ∀(aa:List (Addr×Obj)) (s:Shared) (σ:St) (H:Hp) (D:Ends),Inv X aa σ H s->t D σ H->wpAny (model X.prog X.w) X.A (execs st X.env) (SP X aa D) X.xe s
def bD{α:Type}{t:Sem α}{Q Q':α->Shared->Prop}{M:Model}{A:Around}{E:Value->Shared->Prop}{s:Shared}(h:wpAny M A t Q E s)(hQ:∀a s,Q a s->Q' a s):wpAny M A t Q' E s:=wpAny_mono h hQ λ_ _ x=>x
section
variable{X:Cx}
def bin{a b:Expr}{ta tb:TE}(ha:PE X a ta)(hb:PE X b tb){aa:List (Addr×Obj)}{s:Shared}{σ:St}{H:Hp}{R:V->V->Hp->Prop}(I:Inv X aa σ H s)(h:ta σ H λx H1=>tb σ H1 λy H2=>R x y H2)
 {α:Type} {Q:α->Shared->Prop} {f:Value->Value->Sem α}
 (hf:∀v u s2 x y H2,Inv X aa σ H2 s2->RelV x v->RelV y u->R x y H2->wpAny (model X.prog X.w) X.A (f v u) Q X.xe s2):
 wpAny (model X.prog X.w) X.A (eval a X.env) (λv s₁=>wpAny (model X.prog X.w) X.A (eval b X.env) (λu s₂=>wpAny (model X.prog X.w) X.A (f v u) Q X.xe s₂) X.xe s₁) X.xe s:=by
 refine bD (ha aa s σ H _ I h) λv s1 ⟨x,H1,I1,r1,q1⟩=>?_
 refine bD (hb aa s1 σ H1 _ I1 q1) λu s2 ⟨y,H2,I2,r2,q2⟩=>?_
 exact hf v u s2 x y H2 I2 r1 r2 q2
noncomputable def zd(i:Nat):TE:=λσ H Q=>∃v,σ[i]?=some (some v)/\Q v H
noncomputable def tC(v:V):TE:=λ_ H Q=>Q v H
def fD{i:Nat}{x:Str}{pos:Pos}(hN:X.N[i]?=some x)(hv:B6 X.env.scope x)(hd:(x==("__debug__":Str))=false:=by decide)(jy:(x==("__classdict__":Str))=false:=by decide):PE X (.Name x pos) (zd i):=by
 intro aa s σ H Q I h;obtain⟨v,e,h⟩:=h
 obtain⟨m,hn,hl⟩:=I.loc
 obtain⟨u,r,l⟩:=hl i x v hN e hv
 have fin:EP X aa σ Q u s:=⟨v,H,I,r,h⟩
 rcases l with⟨hk,hm⟩|⟨hk,c,hc,iL⟩
 ·exact wpAny_Name (wpAny_loadName_local I.ok.kind hk hn hm fin) hd
 ·rcases hk with hk|hk
  ·exact wpAny_Name (wpAny_loadName_cell I.ok.kind hk hc iL fin) hd
  ·exact wpAny_Name (wpAny_loadName_free I.ok.kind hk hc iL fin jy) hd
def sI{i j pos}:PE X (.Constant (.int i) j pos) (tC (.int i)):=λ_ _ _ H _ I h=>wpAny_Constant_int ⟨.int i,H,I.tok _,⟨_,rfl⟩,h⟩
def CC{b j pos}:PE X (.Constant (.bool b) j pos) (tC (.bl b)):=λ_ _ _ H _ I h=>Constant_bool ⟨.bl b,H,I,rfl,h⟩
def zM{j pos}:PE X (.Constant .none j pos) (tC .bO):=λ_ _ _ H _ I h=>Constant_none ⟨.bO,H,I,rfl,h⟩
def kF{x j pos}:PE X (.Constant (.str x) j pos) (tC (.str x)):=λ_ _ _ H _ I h=>Calls.Constant_str ⟨.str x,H,I.tok _,⟨_,rfl⟩,h⟩
def Gl(X:Cx)(x:Str):Prop:=X.env.kindOf x=some .globalImplicit
def dq{E:Value->Shared->Prop}{aa:List (Addr×Obj)}{s:Shared}{σ:St}{H:Hp}{x:Str}{u:Value}{pos:Pos}{Q:Value->Shared->Prop}(I:Inv X aa σ H s)(hg:Gl X x)(hm:X.mg x=some u)(h:Q u s)
 (hd:(x==("__debug__":Str))=false:=by decide):wpAny (model X.prog X.w) X.A (eval (.Name x pos) X.env) Q E s:=
 Calls.Name_function_global I.ok.kind hg (Calls.loadGlobal_global (by rw [I.ok.glob];exact I.mod.glob.keeps I.bk) hm h) hd
def dZ{E:Value->Shared->Prop}{aa:List (Addr×Obj)}{s:Shared}{σ:St}{H:Hp}{x:Str}{u:Value}{pos:Pos}{Q:Value->Shared->Prop}(I:Inv X aa σ H s)(hg:Gl X x)(hm:X.mg x=none)(hv:bootBuiltins x=some u)(h:Q u s)
 (hn:x≠"__name__":=by decide) (hd:(x==("__debug__":Str))=false:=by decide):wpAny (model X.prog X.w) X.A (eval (.Name x pos) X.env) Q E s:=by
 obtain⟨mb,h1,h2⟩:=I.mod.blt
 exact Calls.Name_function_global I.ok.kind hg (Calls.loadGlobal_builtin (by rw [I.ok.glob];exact I.mod.glob.keeps I.bk) hm (by rw [I.ok.blt];exact h1.keeps I.bk) ((h2 x hn).trans hv) h) hd
def pW{x:Str}{v:V}{u:Value}{pos:Pos}(hg:Gl X x)(hm:X.mg x=some u)(r:RelV v u)(hd:(x==("__debug__":Str))=false:=by decide):PE X (.Name x pos) (tC v):=
 λ_ _ _ H _ I h=>dq I hg hm ⟨v,H,I,r,h⟩ hd
def pz{x:Str}{v:V}{u:Value}{pos:Pos}(hg:Gl X x)(hm:X.mg x=none)(hv:bootBuiltins x=some u)(r:RelV v u)(hn:x≠"__name__":=by decide)(hd:(x==("__debug__":Str))=false:=by decide):PE X (.Name x pos) (tC v):=
 λ_ _ _ H _ I h=>dZ I hg hm hv ⟨v,H,I,r,h⟩ hn hd
variable{a b:Expr}{ta tb:TE}{pos:Pos}
noncomputable def tB(t:TE):TT:=λσ H Q=>t σ H λx H1=>∃c,x=.bl c/\Q c H1
def yW{e:Expr}{t:TE}(h:PE X e t)(he:∀whole,isTrue e X.env whole=(do let v<-whole;standAt e.pos;holding [v] (truthy v)):=by intro _;rfl):PT X e (tB t):=by
 intro aa s σ H Q I hw;refine isTrue_plain (bD (h aa s σ H _ I hw) λv s1 ⟨x,H1,I1,r1,q1⟩=>?_) (he _)
 obtain⟨d,rfl,q⟩:=q1
 cases r1;exact wpAny_truthy_bool ⟨H1,I1,q⟩
variable{tA Fh:TT}{rest:List Expr}
noncomputable def Hr(t u:TT):TT:=λσ H Q=>t σ H λc H1=>if c=true then u σ H1 Q else Q false H1
noncomputable def Kz(t u:TT):TT:=λσ H Q=>t σ H λc H1=>if c=true then Q true H1 else u σ H1 Q
noncomputable def HB(t:TT):TT:=λσ H Q=>t σ H λc H1=>Q (!c) H1
def pw_and1(ha:PT X a tA):PW X (.BoolOp .And [a] pos) tA:=by
 intro wh aa s σ H Q I h;refine isTrue_and (bD (ha aa s σ H Q I h) λc s1 e=>?_)
 cases c with
 |true=>exact isTrue_and_nil e
 |false=>exact e
def pw_or1(ha:PT X a tA):PW X (.BoolOp .Or [a] pos) tA:=by
 intro wh aa s σ H Q I h;refine isTrue_or (bD (ha aa s σ H Q I h) λc s1 e=>?_)
 cases c with
 |false=>exact isTrue_or_nil e
 |true=>exact e
def pw_and(ha:PT X a tA)(hb:PW X (.BoolOp .And (b::rest) pos) Fh):PW X (.BoolOp .And (a::b::rest) pos) (Hr tA Fh):=by
 intro wh aa s σ H Q I h;refine isTrue_and (bD (ha aa s σ H _ I h) λc s1 ⟨H1,I1,q1⟩=>?_)
 cases c with
 |true=>exact hb wh aa s1 σ H1 Q I1 q1
 |false=>exact⟨H1,I1,q1⟩
def pw_or(ha:PT X a tA)(hb:PW X (.BoolOp .Or (b::rest) pos) Fh):PW X (.BoolOp .Or (a::b::rest) pos) (Kz tA Fh):=by
 intro wh aa s σ H Q I h;refine isTrue_or (bD (ha aa s σ H _ I h) λc s1 ⟨H1,I1,q1⟩=>?_)
 cases c with
 |true=>exact⟨H1,I1,q1⟩
 |false=>exact hb wh aa s1 σ H1 Q I1 q1
def zw(ha:PT X a tA):PT X (.UnaryOp .Not a pos) (HB tA):=by
 intro aa s σ H Q I h;exact isTrue_not (ha aa s σ H (λc H1=>Q (!c) H1) I h)
noncomputable def ED(ta tb:TE):TE:=λσ H Q=>ta σ H λx H1=>∃c,x=.bl c/\if c=true then tb σ H1 Q else Q (.bl false) H1
noncomputable def Gu(ta tb:TE):TE:=λσ H Q=>ta σ H λx H1=>∃c,x=.bl c/\if c=true then Q (.bl true) H1 else tb σ H1 Q
noncomputable def CD(ta:TE):TE:=λσ H Q=>ta σ H λx H1=>∃c,x=.bl c/\Q (.bl (!c)) H1
def tM{op}{t:TE}(h:PE X a t):PE X (.BoolOp op [a] pos) t:=λaa s σ H Q I hw=>BoolOp_one (h aa s σ H Q I hw)
def Aw(ha:PE X a ta)(hb:PE X (.BoolOp .And (b::rest) pos) tb):PE X (.BoolOp .And (a::b::rest) pos) (ED ta tb):=by
 intro aa s σ H Q I h;refine BoolOp_and (bD (ha aa s σ H _ I h) λv s1 ⟨x,H1,I1,r1,q1⟩=>?_)
 obtain⟨c,rfl,q1⟩:=q1
 cases r1;refine wpAny_truthy_bool ?_;cases c with
 |true=>exact hb aa s1 σ H1 Q I1 q1
 |false=>exact⟨.bl false,H1,I1,rfl,q1⟩
def CO(ha:PE X a ta)(hb:PE X (.BoolOp .Or (b::rest) pos) tb):PE X (.BoolOp .Or (a::b::rest) pos) (Gu ta tb):=by
 intro aa s σ H Q I h;refine BoolOp_or (bD (ha aa s σ H _ I h) λv s1 ⟨x,H1,I1,r1,q1⟩=>?_)
 obtain⟨c,rfl,q1⟩:=q1
 cases r1;refine wpAny_truthy_bool ?_;cases c with
 |false=>exact hb aa s1 σ H1 Q I1 q1
 |true=>exact⟨.bl true,H1,I1,rfl,q1⟩
def BU(ha:PE X a ta):PE X (.UnaryOp .Not a pos) (CD ta):=by
 intro aa s σ H Q I h;refine UnaryOp_ (bD (ha aa s σ H _ I h) λv s1 ⟨x,H1,I1,r1,q1⟩=>?_)
 obtain⟨c,rfl,q1⟩:=q1
 cases r1;exact not_of (wpAny_truthy_bool ⟨.bl (!c),H1,I1,rfl,q1⟩)
noncomputable def KW(t:TT)(ta tb:TE):TE:=λσ H Q=>t σ H λc H1=>if c=true then ta σ H1 Q else tb σ H1 Q
def sZ{c:Expr}(hc:PT X c tA)(ha:PE X a ta)(hb:PE X b tb):PE X (.IfExp c a b pos) (KW tA ta tb):=by
 intro aa s σ H Q I h;refine wpAny_IfExp (bD (hc aa s σ H _ I h) λd s1 ⟨H1,I1,q1⟩=>?_)
 cases d with
 |true=>exact ha aa s1 σ H1 Q I1 q1
 |false=>exact hb aa s1 σ H1 Q I1 q1
end
def gL(K:zz8)(H:Hp)(a:Addr)(xs:List V):Prop:=
 Rd H a (.lst xs)\/
  ∃(o:Obj) (aj:Array Value) (n:Nat),K.lookup a=some o/\o.cls=.type "list"/\o.dict=none/\o.data=.seq aj n/\aj.size<=sizeLine/\Vals xs aj.toList
def eg(K:zz8)(H:Hp)(a:Addr)(xs:List V):Prop:=
 Rd H a (.tup xs)\/
  ∃(o:Obj) (aj:Array Value) (n:Nat),K.lookup a=some o/\o.cls=.type "tuple"/\o.data=.seq aj n/\aj.size<=sizeLine/\Vals xs aj.toList
noncomputable def Ie:Value->Option V
 |.none=>some .bO
 |.bool b=>some (.bl b)
 |.int i _=>some (.int i)
 |.str x _=>some (.str x)
 |.bytes b _=>some (.GH b)
 |.float b _=>some (.Gr b)
 |.ref a=>some (.ref a)
 |.type n=>some (.ty n)
 |_=>none
def RelV.abs{x:V}{u:Value}(r:RelV x u):Ie u=some x:=by
 cases x with
 |bO=>cases r;rfl
 |bl _=>cases r;rfl
 |int _=>obtain⟨t,rfl⟩:=r;rfl
 |str _=>obtain⟨t,rfl⟩:=r;rfl
 |GH _=>obtain⟨t,rfl⟩:=r;rfl
 |Gr _=>obtain⟨t,rfl⟩:=r;rfl
 |ref _=>cases r;rfl
 |ty _=>cases r;rfl
def RelV.inj{x y:V}{u:Value}(r:RelV x u)(q:RelV y u):x=y:=zzq (r.abs.symm.trans q.abs)
theorem Vals.inj:∀{xs ys:List V} {us:List Value},Vals xs us->Vals ys us->xs=ys
 |_,_,_,.nil,.nil=>rfl
 |_,_,_,.cons r t,.cons r' t'=>by rw [r.inj r',Vals.inj t t']
section
variable{X:Cx}{aa:List (Addr×Obj)}{σ:St}{H:Hp}{s:Shared}{a:Addr}{xs ys:List V}
def gL.of{K:zz8}(h:H a=some (.lst xs)):gL K H a xs:=.inl (.inl h)
def Inv.list(I:Inv X aa σ H s)(h:gL X.K H a xs):∃aj:List Value,Vals xs aj/\PlainL s.heap a aj.toArray/\xs.length<=sizeLine:=by
 rcases h with h|⟨o,aj,n,hk,hc,hd,hs,hz,r⟩
 ·obtain⟨z,aj,n,r,e⟩:=h.ok I.aO
  exact⟨aj,r,⟨_,n,e,rfl,rfl,rfl⟩,z⟩
 ·refine⟨aj.toList,r,⟨o,n,I.jn a o hk,hc,hd,by simpa using hs⟩,?_⟩;have e:=r.length
  simp! [zzd] at e;omega
def Inv.tuple(I:Inv X aa σ H s)(h:eg X.K H a xs):∃aj:List Value,Vals xs aj/\IsTup s.heap a aj.toArray/\xs.length<=sizeLine:=by
 rcases h with h|⟨o,aj,n,hk,hc,hs,hz,r⟩
 ·obtain⟨z,aj,r,p⟩:=h.ok I.aO
  exact⟨aj,r,p,z⟩
 ·refine⟨aj.toList,r,⟨o,I.jn a o hk,hc,n,by simpa using hs⟩,?_⟩;have e:=r.length
  simp! [zzd] at e;omega
def Inv.mZ(I:Inv X aa σ H s)(h:gL X.K H a xs)(h':gL X.K H a ys):xs=ys:=by
 obtain⟨aj,r,⟨o,n,e,_,_,d⟩,_⟩:=I.list h
 obtain⟨its',r',⟨o',n',e',_,_,d'⟩,_⟩:=I.list h'
 rw [e] at e';cases e';rw [d] at d'
 injection d' with d1 _
 have:aj=its':=by simpa using congrArg Array.toList d1
 subst this;exact r.inj r'
def Inv.j9(I:Inv X aa σ H s)(h:eg X.K H a xs)(h':eg X.K H a ys):xs=ys:=by
 obtain⟨aj,r,⟨o,e,_,n,d⟩,_⟩:=I.tuple h
 obtain⟨its',r',⟨o',e',_,n',d'⟩,_⟩:=I.tuple h'
 rw [e] at e';cases e';rw [d] at d'
 injection d' with d1 _
 have:aj=its':=by simpa using congrArg Array.toList d1
 subst this;exact r.inj r'
variable{st:Stmt}{rest:List Stmt}{t u:TS}{e:Expr}{te:TE}{pos:Pos}
def C7:TS:=λD σ H=>D.nx σ H
noncomputable def FN(t u:TS):TS:=λD σ H=>t {D with nx:=u D} σ H
def pj:md X [] C7:=λ_ _ σ H _ I h=>wpAny_execs_nil ⟨σ,H,I,h⟩
def vq(h1:PS X st t)(h2:md X rest u):md X (st::rest) (FN t u):=by
 intro aa s σ H D I h;refine wpAny_execs_cons (bD (h1 aa s σ H {D with nx:=u D} I h) λf s1 q=>?_)
 cases f with
 |next=>
  obtain⟨σ',H',I',q⟩:=q
  exact h2 aa s1 σ' H' D I' q
 |ret v=>exact q
 |brk=>exact q
 |cont=>exact q
def qc(h1:PS X st t):md X [st] t:=by
 intro aa s σ H D I h;refine wpAny_execs_cons (bD (h1 aa s σ H D I h) λf s1 q=>?_)
 cases f with
 |next=>exact wpAny_execs_nil q
 |ret v=>exact q
 |brk=>exact q
 |cont=>exact q
def Inv.quiet{aa:List (Addr×Obj)}{σ:St}{H:Hp}{s:Shared}(I:Inv X aa σ H s):interactive X.env=false:=by simp [interactive,I.ok.kind]
noncomputable def EE(te:TE):TS:=λD σ H=>te σ H λ_ H1=>D.nx σ H1
theorem kR(he:PE X e te)(hs:swapsWith e none pos.line X.env=pure false:=by rfl):PS X (.Expr e pos) (EE te):=by
 intro aa s σ H D I h;exact wpAny_Expr_any (bD (he aa s σ H _ I h) λv s1 ⟨x,H1,I1,r1,q1⟩=>⟨σ,H1,I1,q1⟩) I.quiet hs
noncomputable def Gk(te:TE):TS:=λD σ H=>te σ H D.rt
def oI(he:PE X e te):PS X (.Return (some e) pos) (Gk te):=by
 intro aa s σ H D I h;exact wpAny_Return_some (bD (he aa s σ H _ I h) λv s1 ⟨x,H1,I1,r1,q1⟩=>⟨x,σ,H1,I1,r1,q1⟩)
noncomputable def Ih(c:TT)(t u:TS):TS:=λD σ H=>c σ H λb H1=>if b=true then t D σ H1 else u D σ H1
def yl{c:Expr}{a b:List Stmt}{tc:TT}(hc:PT X c tc)(ha:md X a t)(hb:md X b u):PS X (.If c a b pos) (Ih tc t u):=by
 intro aa s σ H D I h;refine wpAny_If (bD (hc aa s σ H _ I h) λd s1 ⟨H1,I1,q1⟩=>?_)
 cases d with
 |true=>exact ha aa s1 σ H1 D I1 q1
 |false=>exact hb aa s1 σ H1 D I1 q1
end
noncomputable abbrev TG:=V->St->Hp->(St->Hp->Prop)->Prop
noncomputable abbrev yC:=List V->St->Hp->(St->Hp->Prop)->Prop
def PG(X:Cx)(target:Expr)(t:TG):Prop:=
 ∀(aa:List (Addr×Obj)) (s:Shared) (σ:St) (H:Hp) (v:V) (u:Value) (Q:St->Hp->Prop),Inv X aa σ H s->RelV v u->t v σ H Q->
  wpAny (model X.prog X.w) X.A (assign target X.env u) (λ_ s'=>∃σ' H',Inv X aa σ' H' s'/\Q σ' H') X.xe s
def Dw(X:Cx)(ts:List Expr)(t:yC):Prop:=
 ∀(aa:List (Addr×Obj)) (s:Shared) (σ:St) (H:Hp) (vs:List V) (us:List Value) (Q:St->Hp->Prop),Inv X aa σ H s->Vals vs us->t vs σ H Q->
  wpAny (model X.prog X.w) X.A (assignInOrder ((assignEach ts X.env).map (·.2)) us) (λ_ s'=>∃σ' H',Inv X aa σ' H' s'/\Q σ' H') X.xe s
section
variable{X:Cx}{pos:Pos}
noncomputable def eJ(i:Nat):TG:=λv σ H Q=>Q (σ.set i (some v)) H
def vX{i:Nat}{x:Str}(hN:X.N.Nodup)(hi:X.N[i]?=some x)(hx:Loc X.env.scope x)(hf:X.fn x=true\/X.env.scope.names.lookup x=some .local:=by first|exact .inl rfl|exact .inr rfl|assumption):PG X (.Name x pos) (eJ i):=by
 intro aa s σ H v u Q I r h;exact wpAny_assign_Name (eN I hN hi hx r (λs' I'=>⟨_,H,I',h⟩) hf)
noncomputable def An:yC:=λvs σ H Q=>vs=[]/\Q σ H
noncomputable def qe(t:TG)(u:yC):yC:=λvs σ H Q=>∃v r,vs=v::r/\t v σ H λσ' H'=>u r σ' H' Q
def vK:Dw X [] An:=by
 intro aa s σ H vs us Q I r h;obtain⟨e,h⟩:=h
 subst e;cases r;exact assignInOrder_nil ⟨σ,H,I,h⟩
theorem vy{e:Expr}{es:List Expr}{t:TG}{u:yC}(h1:PG X e t)(h2:Dw X es u)
 (hs:(assignEach (e::es) X.env).map (·.2)=assign e X.env::(assignEach es X.env).map (·.2):=by rfl):Dw X (e::es) (qe t u):=by
 intro aa s σ H vs us Q I r h;obtain⟨v,vr,e1,h⟩:=h
 subst e1;cases r with
 |cons r rr=>
  rw [hs];refine assignInOrder_cons (bD (h1 aa s σ H _ _ _ I r h) λ_ s1 ⟨σ1,H1,I1,q1⟩=>?_)
  exact h2 aa s1 σ1 H1 _ _ Q I1 rr q1
noncomputable def Dd(K:zz8)(n:Nat)(t:yC):TG:=λv σ H Q=>∃a xs,v=.ref a/\eg K H a xs/\xs.length=n/\t xs σ H Q
theorem BN{es:List Expr}{k:Nat}{t:yC}{n:Nat}(hc:X.calm=true)(h:Dw X es t)
 (hn:(assignEach es X.env).length=n:=by rfl) (dj:(assignEach es X.env).findIdx? (·.1)=none:=by rfl):PG X (.Tuple es k pos) (Dd X.K n t):=by
 intro aa s σ H v u Q I r hw;obtain⟨a,xs,e1,hq,hl,hw⟩:=hw
 subst e1;cases r;obtain⟨aj,rv,ht,hz⟩:=I.tuple hq
 refine assign_Tuple_tuple (I.ok.hd hc) ht (by simp [hn,<-hl,rv.length]) dj λh' hx=>?_
 have I1:Inv X aa σ H {s with heap:=h'}:=I.kept (t':=s.toks) λb o e=>hx b o (zzb (zzO e)) e
 exact h aa _ σ H xs _ Q I1 (by simpa using rv) hw
noncomputable def wg(te:TE)(g:TG):TS:=λD σ H=>te σ H λx H1=>g x σ H1 D.nx
theorem yQ{tg e:Expr}{te:TE}{g:TG}(he:PE X e te)(hg:PG X tg g)(hs:swapsWithSole [tg] e pos.line X.env=pure false:=by rfl)(hw:swappedStores [tg] e X.env=pure none:=by rfl)
 (h1:(assignEach [tg] X.env).map (·.2)=[assign tg X.env]:=by rfl):PS X (.Assign [tg] e pos) (wg te g):=by
 intro aa s σ H D I h;refine wpAny_Assign_stores (bD (he aa s σ H _ I h) λv s1 ⟨x,H1,I1,r1,q1⟩=>?_) hs hw
 rw [h1];exact bD (hg aa s1 σ H1 x v _ I1 r1 q1) λ_ s2 q=>q
theorem oA{i:Nat}{x:Str}{e:Expr}{te:TE}{pos':Pos}(hN:X.N.Nodup)(hi:X.N[i]?=some x)(hx:Loc X.env.scope x)(he:PE X e te)(hs:swapsWith e (some (.Name x pos')) pos.line X.env=pure false:=by rfl)(hf:X.fn x=true\/X.env.scope.names.lookup x=some .local:=by first|exact .inl rfl|exact .inr rfl|assumption):
 PS X (.Assign [.Name x pos'] e pos) (wg te (eJ i)):=by
 intro aa s σ H D I h;refine wpAny_Assign_Name (bD (he aa s σ H _ I h) λv s1 ⟨y,H1,I1,r1,q1⟩=>?_) hs
 exact eN I1 hN hi hx r1 (λs2 I2=>⟨_,H1,I2,q1⟩) hf
noncomputable def GD(i j:Nat)(ta:TA):TS:=λD σ H=>ta σ H λvs H1=>∃v w,vs=[v,w]/\D.nx ((σ.set i (some v)).set j (some w)) H1
theorem zt{i j:Nat}{x y:Str}{a b:Expr}{ta:TA}{px py pt:Pos}{kt k2 B9}(hc:X.calm=true)(hN:X.N.Nodup)(hi:X.N[i]?=some x)(hj:X.N[j]?=some y)(IM:i≠j)
 (hx:X.env.scope.names.lookup x=some .local) (hy:X.env.scope.names.lookup y=some .local) (ha:PA X [a,b] ta)
 (hw:swappedStores [.Tuple [.Name x px,.Name y py] kt pt] (.Tuple [a,b] k2 B9) X.env=pure (some [x,y]))
 (hs:swapsWithSole [.Tuple [.Name x px,.Name y py] kt pt] (.Tuple [a,b] k2 B9) pos.line X.env=pure false:=by rfl):
 PS X (.Assign [.Tuple [.Name x px,.Name y py] kt pt] (.Tuple [a,b] k2 B9) pos) (GD i j ta):=by
 intro aa s σ H D I h;rw [exec_Assign_arm];refine zzA (wpAny_standAt ?_);rw [hs];refine zzA (zzG ?_);rw [if_neg (by decide)];refine zzA (Tuple_ (bD (ha _ aa s σ H _ I h) λus s1 ⟨vs,H1,I1,r1,q1⟩=>?_))
 obtain⟨v,w,e1,q1⟩:=q1
 subst e1;obtain⟨u1,u2,rfl,rv,jd⟩:∃u1 u2,us=[u1,u2]/\RelV v u1/\RelV w u2:=by
  cases r1 with
  |cons p q=>
   cases q with
   |cons p' q'=>
    cases q';exact⟨_,_,rfl,p,p'⟩
 refine wpAny_newObj_type ?_ (by show 2<=sizeLine;decide);have I2:Inv X aa σ H1 {s1 with heap:=s1.heap.push {cls:=.type "tuple",data:=.seq [u1,u2].toArray}}:=I1.kept (t':=s1.toks) λb o e=>zzB _ e
 rw [hw];refine zzA (zzG ?_);show wpAny (model X.prog X.w) X.A (do rule "assign.swapped-stores";let items<-unpackItems (.ref (zz9 s1)) 2 none;assignInOrder [λv=>bindName X.env y v,λv=>bindName X.env x v] items.reverse;pure Flow.next) _ _ _
 refine zzA (wpAny_rule (zzA (unpackItems_tuple (items:=#[u1,u2]) (I.ok.hd hc) (IsTup.new s1.heap _) λh' wM=>?_)))
 have I3:=I2.kept (h':=h') (t':=s1.toks) λb o e=>wM b o (zzb (zzO e)) e
 show wpAny _ _ (assignInOrder [λv=>bindName X.env y v,λv=>bindName X.env x v] [u2,u1]>>=λ_=>pure Flow.next) _ _ _
 refine zzA (assignInOrder_cons (wpAny_bindName (eN I3 hN hj (.inl hy) jd (λs2 I4=>?_) (.inr hy))));refine assignInOrder_cons (wpAny_bindName (eN I4 hN hi (.inl hx) rv (λs3 I5=>assignInOrder_nil (zzG ?_)) (.inr hx)))
 rw [List.set_comm _ _ (Ne.symm IM)] at I5;exact⟨_,H1,I5,q1⟩
end
structure It where
 go:Nat->Hp->Prop
 B1:Nat->Hp->V->Hp->Prop
 stop:Nat->Hp->Prop
def f7(X:Cx)(aa:List (Addr×Obj))(H:Hp)(b:Addr):Prop:=
 H b=none/\b≠X.env.locals/\b∉X.fs/\(b∈X.ex\/X.s₀.heap.objs.size<=b)/\(∀x c,X.env.cells.lookup x=some c->c≠b)/\∀p∈X.pn++aa,p.1≠b
def Inv.kM{X:Cx}{aa:List (Addr×Obj)}{σ:St}{H H':Hp}{s:Shared}{b:Addr}(I:Inv X aa σ H s)(hb:(zz9 s)<=b)(hn:H' b=none):f7 X aa H' b:=by
 refine⟨hn,Nat.ne_of_gt (zzW I.lt hb),I.Gw hb,.inr (zzU I.sz hb),λx c e z=>?_,λp hp z=>?_⟩
 ·obtain⟨v,q⟩:=I.cell x c e
  exact absurd (zzW q.lt (by rw [z];exact hb)) (Nat.lt_irrefl _)
 ·exact absurd (zzW (zzO (I.pin p hp).1) (by rw [z];exact hb)) (Nat.lt_irrefl _)
structure Turn(P:Program)(w:World)(K:zz8)(tg:Expr)(J:It)(fp:List Addr)(it:Addr)(tn:Nat->Heap->Prop):Prop where
 mem:it∈fp
 obj:∀i h,tn i h->∀b∈fp,∃o,h.get? b=some o/\∀v,o.data≠.cell v
 keep:∀i h h',tn i h->(∀b∈fp,∀o,h.get? b=some o->h'.get? b=some o)->tn i h'
 item:∀(X:Cx),X.prog=P->X.w=w->X.K=K->X.calm=true->∀(i:Nat) (aa:List (Addr×Obj)) (s:Shared) (σ:St) (H:Hp) (E:Value->Shared->Prop),Inv X aa σ H s->(∀b∈fp,f7 X aa H b)->tn i s.heap->J.go i H->
  wpAny (model P w) X.A (pyNext (.ref it)) (λr s1=>∃u,r=some u/\
   wpAny (model P w) X.A (letOwnedTupleGo tg (.ref it) u) (λ_ s2=>∃x H',Inv X aa σ H' s2/\RelV x u/\J.B1 i H x H'/\tn (i+1) s2.heap/\∀b∈fp,H' b=none) E s1) E s
 done:∀(X:Cx),X.prog=P->X.w=w->X.K=K->X.calm=true->∀(i:Nat) (aa:List (Addr×Obj)) (s:Shared) (σ:St) (H:Hp) (E:Value->Shared->Prop),Inv X aa σ H s->(∀b∈fp,f7 X aa H b)->tn i s.heap->J.stop i H->
  wpAny (model P w) X.A (pyNext (.ref it)) (λr s1=>r=none/\Inv X aa σ H s1) E s
 self:∀(A:Around) (i:Nat) (s:Shared) (Q:Value->Shared->Prop) (E:Value->Shared->Prop),tn i s.heap->Q (.ref it) s->wpAny (model P w) A (pyIter (.ref it)) Q E s
noncomputable abbrev TI:=St->Hp->(It->Hp->Prop)->Prop
def JN(X:Cx)(aa:List (Addr×Obj))(σ:St)(tg:Expr)(R:It->Hp->Prop)(EW:Value)(s2:Shared):Prop:=
 ∃(it:Addr) (fp:List Addr) (tn:Nat->Heap->Prop) (J:It) (H':Hp),EW=.ref it/\Inv X aa σ H' s2/\Turn X.prog X.w X.K tg J fp it tn/\tn 0 s2.heap/\(∀b∈fp,f7 X aa H' b)/\R J H'
def PI(X:Cx)(tg iter:Expr)(wi:TI):Prop:=
 ∀(aa:List (Addr×Obj)) (s:Shared) (σ:St) (H:Hp) (R:It->Hp->Prop),Inv X aa σ H s->wi σ H R->
  wpAny (model X.prog X.w) X.A (eval iter X.env) (λv s1=>wpAny (model X.prog X.w) X.A (pyIter v) (JN X aa σ tg R) X.xe s1) X.xe s
def o5{M:Model}{A:Around}{E:Value->Shared->Prop}{s:Shared}{tg:Expr}{it:Addr}{u:Value}{o:Obj}{n:String}{vs:Array Value}{Q:Unit->Shared->Prop}(ho:s.heap.get? it=some o)(hc:o.cls=.type n)(hd:o.data=.fields vs)
 (hn:["enumerate","zip","dict_itemiterator","dict_reverseitemiterator","odict_iterator","itertools.zip_longest","itertools.pairwise"].contains n=false) (hQ:Q () s):wpAny M A (letOwnedTupleGo tg (.ref it) u) Q E s:=by
 unfold letOwnedTupleGo;cases tg<;>first
  |exact zzG hQ
  |(cases u<;>first
   |exact zzG hQ
   | (refine zzA (wpAny_load ho ?_)
      rw [hc,hd];show wpAny M A (if(["enumerate","zip","dict_itemiterator","dict_reverseitemiterator","odict_iterator","itertools.zip_longest","itertools.pairwise"].contains n&&vs[0]?==some (rawInt _))=true then _ else _) Q E s;rw [if_neg (by intro h;rw [hn,Bool.false_and] at h;cases h)];exact zzG hQ))
noncomputable def FJ(K:zz8)(a:Addr):It:=
 ⟨λi H=>∃xs x,gL K H a xs/\xs[i]?=some x,λi H x H'=>H'=H/\∀xs,gL K H a xs->xs[i]?=some x,λi H=>∃xs,gL K H a xs/\xs.length<=i⟩
noncomputable def F2(K:zz8)(a:Addr):It:=
 ⟨λi H=>∃xs x,eg K H a xs/\xs[i]?=some x,λi H x H'=>H'=H/\∀xs,eg K H a xs->xs[i]?=some x,λi H=>∃xs,eg K H a xs/\xs.length<=i⟩
noncomputable def DR(lo:Int)(n:Nat):It:=⟨λi _=>i<n,λi H x H'=>H'=H/\x=.int (lo+i),λi _=>n<=i⟩
def qZ{P:Program}{w:World}{K:zz8}{tg:Expr}(a it:Addr):Turn P w K tg (FJ K a) [it] it (λi h=>h.IsListIter it a i) where
 mem:=by simp
 obj:=λi h st b hb=>by
  have e:b=it:=by simpa using hb
  subst e;obtain⟨o,e,c,d⟩:=st
  exact⟨o,e,λv z=>by rw [d] at z;cases z⟩
 keep:=λi h h' st k=>st.at λo e=>k it (by simp) o e
 item:=by
  intro X hP hw hK hc i aa s σ H E I hf st hg;subst hP hw hK;obtain⟨xs,x,hq,hx⟩:=hg
  obtain⟨aj,rv,p,hz⟩:=I.list hq
  obtain⟨u,hu,ru⟩:=rv.get hx
  obtain⟨f0,f1,f2,f3,f4,f5⟩:=hf it (by simp)
  refine wpAny_pyNext_list_item st p.isList (x:=u) (by simpa using hu) λh' ni sb=>?_
  have I1:Inv X aa σ H {s with heap:=h'}:=I.turned (t':=s.toks) (λb o hb e=>(sb.2 b hb).trans e) f0 f1 f3 f4 f5
  obtain⟨o,e,c,d⟩:=id ni
  exact⟨u,rfl,o5 (s:={s with heap:=h'}) e c d (by decide) ⟨x,H,I1,ru,⟨rfl,λys hy=>by rw [I.mZ hy hq];exact hx⟩,ni,λb hb=>(hf b hb).1⟩⟩
 done:=by
  intro X hP hw hK hc i aa s σ H E I hf st hg;subst hP hw hK;obtain⟨xs,hq,hx⟩:=hg
  obtain⟨aj,rv,p,hz⟩:=I.list hq
  obtain⟨f0,f1,f2,f3,f4,f5⟩:=hf it (by simp)
  have hl:=rv.length
  exact wpAny_pyNext_list_end (I.ok.hd hc) st p.isList (by simp;omega) λh' eb=>⟨rfl,I.turned (t':=s.toks) (λb o hb e=>eb b o hb e) f0 f1 f3 f4 f5⟩
 self:=λ_ _ _ _ _ st h=>wpAny_pyIter_listiter st h
def nO{P:Program}{w:World}{K:zz8}{tg:Expr}(a it:Addr):Turn P w K tg (F2 K a) [it] it (λi h=>h.IsTupleIter it a i) where
 mem:=by simp
 obj:=λi h st b hb=>by
  have e:b=it:=by simpa using hb
  subst e;obtain⟨o,e,c,d⟩:=st
  exact⟨o,e,λv z=>by rw [d] at z;cases z⟩
 keep:=λi h h' st k=>st.at λo e=>k it (by simp) o e
 item:=by
  intro X hP hw hK hc i aa s σ H E I hf st hg;subst hP hw hK;obtain⟨xs,x,hq,hx⟩:=hg
  obtain⟨aj,rv,p,hz⟩:=I.tuple hq
  obtain⟨u,hu,ru⟩:=rv.get hx
  obtain⟨f0,f1,f2,f3,f4,f5⟩:=hf it (by simp)
  refine wpAny_pyNext_tuple_item st (show s.heap.IsTuple a aj.toArray from p) (x:=u) (by simpa using hu) λh' ni sb=>?_
  have I1:Inv X aa σ H {s with heap:=h'}:=I.turned (t':=s.toks) (λb o hb e=>(sb.2 b hb).trans e) f0 f1 f3 f4 f5
  obtain⟨o,e,c,d⟩:=id ni
  exact⟨u,rfl,o5 (s:={s with heap:=h'}) e c d (by decide) ⟨x,H,I1,ru,⟨rfl,λys hy=>by rw [I.j9 hy hq];exact hx⟩,ni,λb hb=>(hf b hb).1⟩⟩
 done:=by
  intro X hP hw hK hc i aa s σ H E I hf st hg;subst hP hw hK;obtain⟨xs,hq,hx⟩:=hg
  obtain⟨aj,rv,p,hz⟩:=I.tuple hq
  obtain⟨f0,f1,f2,f3,f4,f5⟩:=hf it (by simp)
  have hl:=rv.length
  exact wpAny_pyNext_tuple_end (I.ok.hd hc) st (show s.heap.IsTuple a aj.toArray from p) (by simp;omega) λh' eb=>⟨rfl,I.turned (t':=s.toks) (λb o hb e=>eb b o hb e) f0 f1 f3 f4 f5⟩
 self:=λ_ _ _ _ _ st h=>wpAny_pyIter_tupleiter st h
def nU{P:Program}{w:World}{K:zz8}{tg:Expr}(it:Addr)(lo:Int)(n:Nat):Turn P w K tg (DR lo n) [it] it (λi h=>IsRangeIter h it (lo+(i:Nat)*1) ((n:Int)-(i:Nat)) 1) where
 mem:=by simp
 obj:=λi h st b hb=>by
  have e:b=it:=by simpa using hb
  subst e;exact⟨_,st,λv z=>by
   have z':Data.fields _=Data.cell v:=z
   cases z'⟩
 keep:=λi h h' st k=>k it (by simp) _ st
 item:=by
  intro X hP hw hK hc i aa s σ H E I hf st hg;subst hP hw hK;obtain⟨f0,f1,f2,f3,f4,f5⟩:=hf it (by simp)
  have W:=Walks.range (prog:=X.prog) (w:=X.w) (I.ok.hd hc) it lo 1 n
  refine W.item i s _ _ hg st λv h' tk hv ni kk=>?_
  obtain⟨t,rfl⟩:=hv
  have I1:Inv X aa σ H {s with heap:=h',toks:=tk}:=I.turned (λb o hb e=>kk b o (by simpa using hb) e) f0 f1 f3 f4 f5
  refine⟨_,rfl,o5 (s:={s with heap:=h',toks:=tk}) (n:="range_iterator") ni rfl rfl (by decide) ⟨.int (lo+i),H,I1,⟨t,?_⟩,⟨rfl,rfl⟩,ni,λb hb=>(hf b hb).1⟩⟩
  rw [Int.mul_one]
 done:=by
  intro X hP hw hK hc i aa s σ H E I hf st hg;subst hP hw hK;obtain⟨f0,f1,f2,f3,f4,f5⟩:=hf it (by simp)
  exact wpAny_pyNext_range_end (I.ok.hd hc) st (by have:n<=i:=hg;omega) λh' eb=>⟨rfl,I.turned (t':=s.toks) (λb o hb e=>eb b o hb e) f0 f1 f3 f4 f5⟩
 self:=λ_ _ _ _ _ st h=>wpAny_pyIter_rangeiter st h
section
variable{X:Cx}{tg:Expr}
noncomputable def DU(K:zz8)(tl:TE):TI:=λσ H R=>tl σ H λx H1=>∃a,x=.ref a/\(∃xs,gL K H1 a xs)/\R (FJ K a) H1
noncomputable def Ht(K:zz8)(tl:TE):TI:=λσ H R=>tl σ H λx H1=>∃a,x=.ref a/\(∃xs,eg K H1 a xs)/\R (F2 K a) H1
def pQ{l:Expr}{tl:TE}(hl:PE X l tl):PI X tg l (DU X.K tl):=by
 intro aa s σ H R I h;refine bD (hl aa s σ H _ I h) λv s1 ⟨x,H1,I1,r1,q1⟩=>?_
 obtain⟨a,e,⟨xs,hq⟩,q⟩:=q1
 subst e;cases r1;obtain⟨aj,rv,p,hz⟩:=I1.list hq
 refine wpAny_pyIter_list p.isList ?_;refine⟨(zz9 s1),[(zz9 s1)],_,_,H1,rfl,I1.kept (t':=s1.toks) λb o e=>zzB _ e,qZ a _,⟨_,zzX _ rfl,rfl,rfl⟩,λb hb=>?_,q⟩
 have e:b=(zz9 s1):=by simpa using hb
 subst e;exact I1.kM (zzE _) (I1.aO.fresh (zzE _))
def Bi{l:Expr}{tl:TE}(hl:PE X l tl):PI X tg l (Ht X.K tl):=by
 intro aa s σ H R I h;refine bD (hl aa s σ H _ I h) λv s1 ⟨x,H1,I1,r1,q1⟩=>?_
 obtain⟨a,e,⟨xs,hq⟩,q⟩:=q1
 subst e;cases r1;obtain⟨aj,rv,p,hz⟩:=I1.tuple hq
 refine wpAny_pyIter_tuple (show s1.heap.IsTuple a aj.toArray from p) ?_;refine⟨(zz9 s1),[(zz9 s1)],_,_,H1,rfl,I1.kept (t':=s1.toks) λb o e=>zzB _ e,nO a _,⟨_,zzX _ rfl,rfl,rfl⟩,λb hb=>?_,q⟩
 have e:b=(zz9 s1):=by simpa using hb
 subst e;exact I1.kM (zzE _) (I1.aO.fresh (zzE _))
def mv{aa:List (Addr×Obj)}{σ:St}{H:Hp}{s:Shared}{R:It->Hp->Prop}{E:Value->Shared->Prop}{lo hi:Int}{t u v:Tok}{tk:Nat}(I:Inv X aa σ H s)(h1: -(2^62)<=lo)(h2:lo<2^62)(h3: -(2^62)<=hi)(h4:hi<2^62)
 (q:R (DR lo (hi-lo).toNat) H):wpAny (model X.prog X.w) X.A (pyIter (.ref (zz9 s))) (JN X aa σ tg R) E {s with heap:=s.heap.push {cls:=.type "range",data:=.fields #[.int lo t,.int hi u,.int 1 v]},toks:=tk}:=by
 refine wpAny_pyIter_range (IsRange.new ..) (small_one h1 h2 h3 h4) ?_;have I1:Inv X aa σ H {s with heap:=s.heap.push {cls:=.type "range",data:=.fields #[.int lo t,.int hi u,.int 1 v]},toks:=tk}:=I.kept λb o e=>zzB _ e
 refine⟨(s.heap.push {cls:=.type "range",data:=.fields #[.int lo t,.int hi u,.int 1 v]}).objs.size,[(s.heap.push {cls:=.type "range",data:=.fields #[.int lo t,.int hi u,.int 1 v]}).objs.size],_,_,H,rfl,
  I1.kept (t':=tk) λb o e=>zzB _ e,nU _ lo (hi-lo).toNat,?_,λb hb=>?_,q⟩
 ·have e1:lo+((0:Nat):Int)*1=lo:=by simp
  have e2:(((hi-lo).toNat:Nat):Int)-((0:Nat):Int)=Builtin.Range.rangeSize lo hi 1:=by rw [rangeSize_one];split<;>omega
  show IsRangeIter _ _ (lo+((0:Nat):Int)*1) ((((hi-lo).toNat:Nat):Int)-((0:Nat):Int)) 1
  rw [e1,e2];exact zzX _ rfl
 ·have e:b=(s.heap.push {cls:=.type "range",data:=.fields #[.int lo t,.int hi u,.int 1 v]}).objs.size:=by simpa using hb
  subst e;exact I1.kM (zzE _) (I1.aO.fresh (zzE _))
noncomputable def C2(ta:TA):TI:=λσ H R=>ta σ H λvs H1=>∃j:Int,vs=[.int j]/\ -(2^62)<=j/\j<2^62/\R (DR 0 j.toNat) H1
noncomputable def DJ(ta:TA):TI:=λσ H R=>ta σ H λvs H1=>∃i j:Int,vs=[.int i,.int j]/\(-(2^62)<=i/\i<2^62/\ -(2^62)<=j/\j<2^62)/\R (DR i (j-i).toNat) H1
theorem qy{a:Expr}{ta:TA}{p pos:Pos}(hg:Gl X "range")(hm:X.mg "range"=none)(ha:PA X [a] ta)(hs:starEach [a] X.env=[(false,eval a X.env)]:=by rfl):PI X tg (.Call (.Name "range" p) [a] [] pos) (C2 ta):=by
 intro aa s σ H R I h;refine Call_ (dZ I hg hm boot_range (PyProof.Rows.callWith_type1 (bD (ha pos aa s σ H _ I h) λus s1 ⟨vs,H1,I1,r1,q1⟩=>?_) hs rfl))
 obtain⟨j,e,q1,q2,q⟩:=q1
 subst e;cases r1 with
 |cons r rr=>
  cases rr;obtain⟨t,rfl⟩:=r
  exact call_range_1 (mv I1 (by omega) (by omega) q1 q2 (by simpa using q))
theorem rO{a b:Expr}{ta:TA}{p pos:Pos}(hg:Gl X "range")(hm:X.mg "range"=none)(ha:PA X [a,b] ta)(hs:starEach [a,b] X.env=[(false,eval a X.env),(false,eval b X.env)]:=by rfl)(E4:starEach [b] X.env=[(false,eval b X.env)]:=by rfl):
 PI X tg (.Call (.Name "range" p) [a,b] [] pos) (DJ ta):=by
 intro aa s σ H R I h;refine Call_ (dZ I hg hm boot_range (PyProof.Rows.callWith_type1 (bD (ha pos aa s σ H _ I h) λus s1 ⟨vs,H1,I1,r1,q1⟩=>?_) (by rw [hs,E4]) (by rw [E4];rfl)))
 obtain⟨i,j,e,⟨q1,q2,q3,q4⟩,q⟩:=q1
 subst e;cases r1 with
 |cons r rr=>
  cases rr with
  |cons r' rr=>
   cases rr;obtain⟨t,rfl⟩:=r
   obtain⟨t',rfl⟩:=r'
   exact call_range_2 (mv I1 q1 q2 q3 q4 q)
noncomputable def Ha(wi:TI)(g:TG)(tb:TS):TS:=λD σ H=>wi σ H λJ H1=>∃W:Nat->Nat->St->Hp->Prop,(∃m,W 0 m σ H1)/\∀i m σ H,W i m σ H->
 (J.stop i H/\D.nx σ H)\/(J.go i H/\∃N:St->Hp->Prop,(∀σ' H',N σ' H'->∃m',m'<m/\W (i+1) m' σ' H')/\∀x H',J.B1 i H x H'->g x σ H' λσ2 H2=>tb {D with nx:=N,ct:=N,bk:=D.nx} σ2 H2)
noncomputable def lP(fp:List Addr)(h:Heap):List (Addr×Obj):=fp.filterMap λb=>(h.get? b).map λo=>(b,o)
def cq{fp:List Addr}{h:Heap}{b:Addr}{o:Obj}(hb:b∈fp)(e:h.get? b=some o):(b,o)∈lP fp h:=zz1.mpr ⟨b,hb,by rw [e];rfl⟩
def rG{fp:List Addr}{h:Heap}{p:Addr×Obj}(hp:p∈lP fp h):p.1∈fp/\h.get? p.1=some p.2:=by
 obtain⟨b,hb,e⟩:=zz1.mp hp
 cases q:h.get? b with
 |none=>rw [q] at e;cases e
 |some o=>
  rw [q] at e;have e':(b,o)=p:=zzq e
  subst e';exact⟨hb,q⟩
theorem Inv.pinned{aa:List (Addr×Obj)}{σ:St}{H:Hp}{s:Shared}{fp:List Addr}(I:Inv X aa σ H s)(hf:∀b∈fp,f7 X aa H b)(ho:∀b∈fp,∃o,s.heap.get? b=some o/\∀v,o.data≠.cell v):Inv X (aa++lP fp s.heap) σ H s:=
 I.g9 λp hp=>(List.mem_append.mp hp).elim (λz=>I.pin p (zzR _ z)) λz=>by
  obtain⟨hb,e⟩:=rG z
  obtain⟨f0,f1,f2,_⟩:=hf p.1 hb
  obtain⟨o,e',d⟩:=ho p.1 hb
  rw [e] at e';cases e';exact⟨e,f0,f1,f2,d⟩
def Inv.fN{aa pl:List (Addr×Obj)}{σ:St}{H:Hp}{s:Shared}(I:Inv X (aa++pl) σ H s):Inv X aa σ H s:=I.g9 λp hp=>I.pin p (zzR _ (zzc _ hp))
def AS{iter:Expr}{body:List Stmt}{wi:TI}{g:TG}{tb:TS}{pos:Pos}(hp:PassesOwn (model X.prog X.w) X.A X.env X.xe)(hc:X.calm=true)(hi:PI X tg iter wi)(hg:PG X tg g)(hb:md X body tb)
 (hs:∀x,foldedSetIterable iter X.env x=pure x:=by intro _;rfl):PS X (.For tg iter body [] pos) (Ha wi g tb):=by
 intro aa s σ H D I h;refine wpAny_For (bD (hi aa s σ H _ I h) λv s1 h1=>bD h1 λEW s2 h2=>?_) hs
 obtain⟨it,fp,tn,J,H2,e,I2,T,HA,f2,W,⟨m0,w0⟩,turn⟩:=h2
 subst e;have zV:∀{H':Hp},(∀b∈fp,H' b=none)->∀b∈fp,f7 X aa H' b:=λhn b hb=>⟨hn b hb,(f2 b hb).2⟩
 refine codeAny_forLoop_any (λn s'=>∃i σ' H',Inv X aa σ' H' s'/\tn i s'.heap/\(∀b∈fp,H' b=none)/\W i n σ' H') ?_ m0 ⟨0,σ,H2,I2,HA,λb hb=>(f2 b hb).1,w0⟩
 rintro n s3 ⟨i,σ3,H3,I3,st3,fr3,w3⟩
 rcases turn i n σ3 H3 w3 with⟨stop,qn⟩|⟨go,N,hN,step⟩
 ·refine wpAny_passesOwn hp (bD (T.done X rfl rfl rfl hc i aa s3 σ3 H3 X.xe I3 (zV fr3) st3 stop) λr s4 ⟨hr,I4⟩=>?_)
  subst hr;exact wpAny_execs_nil ⟨σ3,H3,I4,qn⟩
 ·refine wpAny_passesOwn hp (bD (T.item X rfl rfl rfl hc i aa s3 σ3 H3 X.xe I3 (zV fr3) st3 go) λr s4 ⟨u,hr,h4⟩=>?_)
  subst hr;refine wpAny_passesOwn hp (bD h4 λ_ s5 ⟨x,H5,I5,r5,y5,st5,fr5⟩=>?_);have GG:=I5.pinned (zV fr5) (T.obj _ _ st5)
  refine wpAny_passesOwn hp (bD (hg _ s5 σ3 H5 x u _ GG r5 (step x H5 y5)) λ_ s6 ⟨σ6,H6,I6,q6⟩=>?_)
  refine wpAny_passesOwn hp (bD (hb _ s6 σ6 H6 _ I6 q6) λf s7 q7=>?_)
  have again:∀{σ7:St} {H7:Hp},Inv X (aa++lP fp s5.heap) σ7 H7 s7->N σ7 H7->∃m,m<n/\∃i σ' H',Inv X aa σ' H' s7/\tn i s7.heap/\(∀b∈fp,H' b=none)/\W i m σ' H':=λ{σ7 H7} I7 n7=>by
   obtain⟨m',hm,w7⟩:=hN σ7 H7 n7
   refine⟨m',hm,i+1,σ7,H7,I7.fN,T.keep _ _ _ st5 λb hb o e=>(I7.pin (b,o) (zzR _ (zzR _ (cq hb e)))).1,λb hb=>?_,w7⟩
   obtain⟨o,e,d⟩:=T.obj _ _ st5 b hb
   exact(I7.pin (b,o) (zzR _ (zzR _ (cq hb e)))).2.1
  cases f with
  |next=>obtain⟨σ7,H7,I7,n7⟩:=q7;exact again I7 n7
  |cont=>obtain⟨σ7,H7,I7,n7⟩:=q7;exact again I7 n7
  |brk=>obtain⟨σ7,H7,I7,q7⟩:=q7;exact⟨σ7,H7,I7.fN,q7⟩
  |ret v=>obtain⟨x7,σ7,H7,I7,r7,q7⟩:=q7;exact⟨x7,σ7,H7,I7.fN,r7,q7⟩
end
noncomputable abbrev R2:=V->V->Hp->VK->Prop
def fg(X:Cx)(f:Value->Value->Sem Value)(r:R2):Prop:=
 ∀(aa:List (Addr×Obj)) (s:Shared) (σ:St) (H:Hp) (x y:V) (v u:Value) (Q:VK),Inv X aa σ H s->RelV x v->RelV y u->r x y H Q->
  wpAny (model X.prog X.w) X.A (f v u) (EP X aa σ Q) X.xe s
def Fg(X:Cx)(f:Value->Sem Value)(r:V->Hp->VK->Prop):Prop:=
 ∀(aa:List (Addr×Obj)) (s:Shared) (σ:St) (H:Hp) (x:V) (v:Value) (Q:VK),Inv X aa σ H s->RelV x v->r x H Q->
  wpAny (model X.prog X.w) X.A (f v) (EP X aa σ Q) X.xe s
def du(X:Cx)(f:Value)(r:List V->Hp->VK->Prop):Prop:=
 ∀(aa:List (Addr×Obj)) (s:Shared) (σ:St) (H:Hp) (xs:List V) (us:List Value) (Q:VK),Inv X aa σ H s->Vals xs us->r xs H Q->
  wpAny (model X.prog X.w) X.A (call f us) (EP X aa σ Q) X.xe s
noncomputable def EI(r:R2)(ta tb:TE):TE:=λσ H Q=>ta σ H λx H1=>tb σ H1 λy H2=>r x y H2 Q
noncomputable def K3(r:V->Hp->VK->Prop)(ta:TE):TE:=λσ H Q=>ta σ H λx H1=>r x H1 Q
noncomputable def rI(C:Int->Int->Prop)(g:Int->Int->V):R2:=λx y H Q=>∃i j,x=.int i/\y=.int j/\C i j/\Q (g i j) H
noncomputable def BY(g:Int->Int->V):R2:=λx y H Q=>∃i j,x=.int i/\y=.int j/\Q (g i j) H
def rU(g:Int->V):V->Hp->VK->Prop:=λx H Q=>∃i,x=.int i/\Q (g i) H
section
variable{X:Cx}{a b:Expr}{ta tb:TE}{pos:Pos}
def Bk(ha:PE X a ta)(hb:PE X b tb){aa:List (Addr×Obj)}{s:Shared}{σ:St}{H:Hp}{R:V->V->Hp->Prop}(I:Inv X aa σ H s)
 (h:ta σ H λx H1=>tb σ H1 λy H2=>R x y H2) {Q:Value->Shared->Prop} {f:Value->Value->Sem Value}
 (hf:∀v u s2 x y H2,Inv X aa σ H2 s2->RelV x v->RelV y u->R x y H2->wpAny (model X.prog X.w) X.A (f v u) Q X.xe s2):
 wpAny (model X.prog X.w) X.A (eval a X.env) (λv s₁=>wpAny (model X.prog X.w) X.A (eval b X.env) (λu s₂=>wpAny (model X.prog X.w) X.A (f v u) Q X.xe s₂) X.xe s₁) X.xe s:=by
 refine bD (ha aa s σ H _ I h) λv s1 ⟨x,H1,I1,r1,q1⟩=>?_
 refine bD (hb aa s1 σ H1 _ I1 q1) λu s2 ⟨y,H2,I2,r2,q2⟩=>?_
 exact hf v u s2 x y H2 I2 r1 r2 q2
def D7{op:Operator}{r:R2}(ho:fg X (binaryOp op) r)(ha:PE X a ta)(hb:PE X b tb):PE X (.BinOp a op b pos) (EI r ta tb):=by
 intro aa s σ H Q I h;exact wpAny_BinOp (Bk ha hb I h λv u s2 x y H2 I2 rx ry q=>ho aa s2 σ H2 x y v u Q I2 rx ry q)
def DY{op:UnaryOp}{r:V->Hp->VK->Prop}(ho:Fg X (unaryOp op) r)(ha:PE X a ta):PE X (.UnaryOp op a pos) (K3 r ta):=by
 intro aa s σ H Q I h;exact UnaryOp_ (bD (ha aa s σ H _ I h) λv s1 ⟨x,H1,I1,r1,q1⟩=>ho aa s1 σ H1 x v Q I1 r1 q1)
def HH{f:Value->Value->Sem Value}{C:Int->Int->Prop}{g:Int->Int->Int}
 (rule:∀(i j:Int) (t u:Tok) (s:Shared) (Q:Value->Shared->Prop) (E:Value->Shared->Prop),C i j->Q (.int (g i j) s.toks) {s with toks:=s.toks+1}->wpAny (model X.prog X.w) X.A (f (.int i t) (.int j u)) Q E s):
 fg X f (rI C λi j=>.int (g i j)):=by
 intro aa s σ H x y v u Q I rx ry h;obtain⟨i,j,rfl,rfl,hc,q⟩:=h
 obtain⟨t,rfl⟩:=rx
 obtain⟨t',rfl⟩:=ry
 exact rule i j t t' s _ _ hc ⟨.int (g i j),H,I.tok _,⟨_,rfl⟩,q⟩
def CG{f:Value->Value->Sem Value}{g:Int->Int->Int}
 (rule:∀(i j:Int) (t u:Tok) (s:Shared) (Q:Value->Shared->Prop) (E:Value->Shared->Prop),Q (.int (g i j) s.toks) {s with toks:=s.toks+1}->wpAny (model X.prog X.w) X.A (f (.int i t) (.int j u)) Q E s):
 fg X f (BY λi j=>.int (g i j)):=by
 intro aa s σ H x y v u Q I rx ry h;obtain⟨i,j,rfl,rfl,q⟩:=h
 obtain⟨t,rfl⟩:=rx
 obtain⟨t',rfl⟩:=ry
 exact rule i j t t' s _ _ ⟨.int (g i j),H,I.tok _,⟨_,rfl⟩,q⟩
def Bj{f:Value->Value->Sem Value}{g:Int->Int->Bool}
 (rule:∀(i j:Int) (t u:Tok) (s:Shared) (Q:Value->Shared->Prop) (E:Value->Shared->Prop),Q (.bool (g i j)) s->wpAny (model X.prog X.w) X.A (f (.int i t) (.int j u)) Q E s):
 fg X f (BY λi j=>.bl (g i j)):=by
 intro aa s σ H x y v u Q I rx ry h;obtain⟨i,j,rfl,rfl,q⟩:=h
 obtain⟨t,rfl⟩:=rx
 obtain⟨t',rfl⟩:=ry
 exact rule i j t t' s _ _ ⟨.bl (g i j),H,I,rfl,q⟩
def Gq(i j:Int):Prop:=0<j/\j<1073741824
def Aj(i j:Int):Prop:=(-(2^64)<i/\i<2^64)\/(-(2^64)<j/\j<2^64)
def Aj.ok{i j:Int}(h:Aj i j):IntMulOk i j:=by
 rcases h with⟨h1,h2⟩|⟨h1,h2⟩
 ·exact .of_left (intBits_le_64 h1 h2)
 ·exact .of_right (intBits_le_64 h1 h2)
def AU:fg X (binaryOp .Add) (BY λi j=>.int (i+j)):=CG λ_ _ _ _ _ _ _ q=>add_int q
def ze:fg X (binaryOp .Sub) (BY λi j=>.int (i-j)):=CG λ_ _ _ _ _ _ _ q=>sub_int q
def zm:fg X (binaryOp .Mult) (rI Aj λi j=>.int (i*j)):=HH λ_ _ _ _ _ _ _ hc q=>mul_int q hc.ok
theorem v8:fg X (binaryOp .FloorDiv) (rI Gq λi j=>.int (i/j)):=HH λi j _ _ _ _ _ hc q=>by
 have h1:(0:Int)<j:=hc.1
 have h2:j<1073741824:=hc.2
 exact floordiv_int (by omega) (by rw [Int.fdiv_eq_ediv_of_nonneg i (by omega)];exact q) (.inl (PyProof.noPylong_small (by omega)))
theorem yT:fg X (binaryOp .Mod) (rI (λ_ j=>0<j) λi j=>.int (i%j)):=HH λi j _ _ _ _ _ hc q=>by
 have h1:(0:Int)<j:=hc
 exact mod_int' (by omega) (by rw [Int.fmod_eq_emod_of_nonneg i (by omega)];exact q)
def Kg{f:Value->Sem Value}{g:Int->Int}
 (rule:∀(i:Int) (t:Tok) (s:Shared) (Q:Value->Shared->Prop) (E:Value->Shared->Prop),Q (.int (g i) s.toks) {s with toks:=s.toks+1}->wpAny (model X.prog X.w) X.A (f (.int i t)) Q E s):
 Fg X f (rU λi=>.int (g i)):=by
 intro aa s σ H x v Q I rx h;obtain⟨i,rfl,q⟩:=h
 obtain⟨t,rfl⟩:=rx
 exact rule i t s _ _ ⟨.int (g i),H,I.tok _,⟨_,rfl⟩,q⟩
def AR:Fg X (unaryOp .USub) (rU λi=>.int (-i)):=Kg λ_ _ _ _ _ q=>neg_int q
variable{c:Expr}{tc:TE}
def CF:fg X (compareOp .Lt) (BY λi j=>.bl (decide (i<j))):=Bj λ_ _ _ _ _ _ _ q=>lt_int q
def Ed:fg X (compareOp .LtE) (BY λi j=>.bl (decide (i<=j))):=Bj λ_ _ _ _ _ _ _ q=>le_int q
def EK:fg X (compareOp .Gt) (BY λi j=>.bl (decide (j<i))):=Bj λ_ _ _ _ _ _ _ q=>gt_int q
def Gg(b:Expr){op:CmpOp}(h:op≠.In:=by decide)(h2:op≠.NotIn:=by decide):behindInMarks op b=false:=by
 have e1:(op==CmpOp.In)=false:=by cases op<;>first|rfl|exact absurd rfl h
 have e2:(op==CmpOp.NotIn)=false:=by cases op<;>first|rfl|exact absurd rfl h2
 cases b<;>simp [behindInMarks,e1,e2]
def xD{op:CmpOp}{r:R2}(ho:fg X (compareOp op) r)(ha:PE X a ta)(hb:PE X b tb)(hm:behindInMarks op b=false):PE X (.Compare a [op] [b] pos) (EI r ta tb):=by
 intro aa s σ H Q I h;exact wpAny_Compare1 (Bk ha hb I h λv u s2 x y H2 I2 rx ry q=>ho aa s2 σ H2 x y v u Q I2 rx ry q) hm
noncomputable def u3(t:TE):TT:=λσ H Q=>t σ H λx H'=>∃k,x=.bl k/\Q k H'
def xI{op:CmpOp}{r:R2}(ho:fg X (compareOp op) r)(ha:PE X a ta)(hb:PE X b tb)(hm:behindInMarks op b=false):PT X (.Compare a [op] [b] pos) (u3 (EI r ta tb)):=by
 intro aa s σ H Q I h;refine wpAny_isTrue_Compare1 (bD (ha aa s σ H _ I h) λv s1 ⟨x,H1,I1,r1,q1⟩=>bD (hb aa s1 σ H1 _ I1 q1) λu s2 ⟨y,H2,I2,r2,q2⟩=>
  bD (ho aa s2 σ H2 x y v u _ I2 r1 r2 q2) λc s3 ⟨z,H3,I3,r3,k,e,q3⟩=>?_) hm
 subst e;cases r3;exact wpAny_truthy_bool ⟨H3,I3,q3⟩
noncomputable def nJ(r r':R2)(ta tb tc:TE):TE:=λσ H Q=>ta σ H λx H1=>tb σ H1 λy H2=>r x y H2 λz H3=>∃k,z=.bl k/\
 (if k=true then tc σ H3 λw' H4=>r' y w' H4 Q else Q (.bl false) H3)
def vk{op Bq:CmpOp}{r r':R2}(ho:fg X (compareOp op) r)(hJ:fg X (compareOp Bq) r')(ha:PE X a ta)(hb:PE X b tb)(hc:PE X c tc)
 (hm:lastMarks [op,Bq] [b,c]=false:=by with_unfolding_all rfl):PE X (.Compare a [op,Bq] [b,c] pos) (nJ r r' ta tb tc):=by
 intro aa s σ H Q I h;refine Compare_chain (bD (ha aa s σ H _ I h) λv s1 ⟨x,H1,I1,r1,q1⟩=>chain_link (bD (hb aa s1 σ H1 _ I1 q1) λu s2 ⟨y,H2,I2,r2,q2⟩=>
  bD (ho aa s2 σ H2 x y v u _ I2 r1 r2 q2) λd s3 ⟨z,H3,I3,r3,k,e,q3⟩=>?_)) hm
 subst e;cases r3;refine wpAny_truthy_bool ?_;cases k with
 |false=>exact ite_ff ⟨.bl false,H3,I3,rfl,q3⟩
 |true=>exact ite_tt (chain_last (bD (hc aa s3 σ H3 _ I3 q3) λw' s4 ⟨z',H4,I4,r4,q4⟩=>hJ aa s4 σ H4 y z' u w' Q I4 r2 r4 q4))
def ue{op Bq:CmpOp}{r r':R2}(ho:fg X (compareOp op) r)(hJ:fg X (compareOp Bq) r')(ha:PE X a ta)(hb:PE X b tb)(hc:PE X c tc)
 (hm:lastMarks [op,Bq] [b,c]=false:=by with_unfolding_all rfl):PT X (.Compare a [op,Bq] [b,c] pos) (u3 (nJ r r' ta tb tc)):=by
 intro aa s σ H Q I h;refine isTrue_chain (bD (ha aa s σ H _ I h) λv s1 ⟨x,H1,I1,r1,q1⟩=>test_link (bD (hb aa s1 σ H1 _ I1 q1) λu s2 ⟨y,H2,I2,r2,q2⟩=>
  bD (ho aa s2 σ H2 x y v u _ I2 r1 r2 q2) λd s3 ⟨z,H3,I3,r3,k,e,q3⟩=>?_)) hm
 subst e;cases r3;refine wpAny_truthy_bool ?_;cases k with
 |false=>
  obtain⟨k',e',q'⟩:=q3
  cases e';exact ite_ff ⟨H3,I3,q'⟩
 |true=>
  refine ite_tt (test_last (bD (hc aa s3 σ H3 _ I3 q3) λw' s4 ⟨z',H4,I4,r4,q4⟩=>bD (hJ aa s4 σ H4 y z' u w' _ I4 r2 r4 q4) λd' s5 ⟨z2,H5,I5,r5,k2,e2,q5⟩=>?_))
  subst e2;cases r5;exact wpAny_truthy_bool ⟨H5,I5,q5⟩
def iC:(sizeLine:Nat)<2^63:=by rw [sizeLine_eq];decide
def nk:fg X (binaryOp .Add) (λx y H Q=>∃i j,x=.str i/\y=.str j/\i.length+j.length<=sizeLine/\Q (.str (i++j)) H):=by
 intro aa s σ H x y v u Q I rx ry h;obtain⟨i,j,rfl,rfl,hz,q⟩:=h
 obtain⟨t,rfl⟩:=rx
 obtain⟨t',rfl⟩:=ry
 exact add_str (λt' tk=>⟨.str (i++j),H,I.tok _,⟨_,rfl⟩,q⟩) hz
def vals1{x:V}{us:List Value}(r:Vals [x] us):∃u,us=[u]/\RelV x u:=by
 cases r with
 |cons r1 r2=>cases r2;exact⟨_,rfl,r1⟩
def vals2{x y:V}{us:List Value}(r:Vals [x,y] us):∃u w',us=[u,w']/\RelV x u/\RelV y w':=by
 cases r with
 |cons r1 r2=>
  cases r2 with
  |cons r3 r4=>cases r4;exact⟨_,_,rfl,r1,r3⟩
def kU:du X (.type "str") (λxs H Q=>∃i,xs=[.int i]/\i.natAbs.log2<1920/\Q (.str (toString i)) H):=by
 intro aa s σ H xs us Q I r h;obtain⟨i,rfl,hz,q⟩:=h
 obtain⟨u,rfl,t,rfl⟩:=vals1 r
 exact PySem.P.str_of_int hz ⟨.str _,H,I.tok _,⟨_,rfl⟩,q⟩
end
def qM.some_of{v:V}{o:Option Value}(r:qM (some v) o):∃u,o=some u/\RelV v u:=by
 cases o with
 |none=>exact(show False from r).elim
 |some u=>exact⟨u,rfl,r⟩
structure dz(k:Nat)(A:Around):Prop where
 hd:3<=k->A.handled=none
 dp:A.depth+3*k+5<recursionLimit
 un:A.units+16*k+200<cLine
theorem dz.mono{j k:Nat}{A:Around}(r:dz k A)(h:j<=k):dz j A:=⟨λz=>r.hd (by omega),by have:=r.dp;omega,by have:=r.un;omega⟩
theorem dz.deeper{k:Nat}{A:Around}(r:dz (k+1) A)(env:Env):dz k (A.deeper env):=
 ⟨λz=>r.hd (by omega),by have:=r.dp;show A.depth+1+3*k+5<_;omega,by have:=r.un;show A.units+3+16*k+200<_;omega⟩
def dz.depth{k:Nat}{A:Around}(r:dz k A):A.depth<recursionLimit:=by have:=r.dp;omega
def dz.units{k:Nat}{A:Around}(r:dz k A):A.units+64<cLine:=by have:=r.un;omega
noncomputable def F7:TA:=λ_ H Q=>Q [] H
noncomputable def Dk(ta:TE)(tr:TA):TA:=λσ H Q=>ta σ H λx H1=>tr σ H1 λxs H2=>Q (x::xs) H2
section
variable{X:Cx}{e:Expr}{es:List Expr}{te:TE}{t:TA}{pos:Pos}
def cQ:PA X [] F7:=λ_ _ _ _ H Q I h=>Calls.spliced_nil ⟨[],H,I,.nil,h⟩
theorem bu(ha:PE X e te)(hr:PA X es t)(hs:starEach (e::es) X.env=(false,eval e X.env)::starEach es X.env:=by rfl):PA X (e::es) (Dk te t):=by
 intro pos aa s σ H Q I h;rw [hs];show wpAny _ _ (spliced ((false,eval e X.env)::backTo pos (starEach es X.env))) _ _ s;refine Calls.spliced_cons (bD (ha aa s σ H _ I h) λu s1 ⟨x,H1,I1,r1,q1⟩=>?_)
 exact bD (hr pos aa s1 σ H1 _ I1 q1) λus s2 ⟨xs,H2,I2,r2,q2⟩=>⟨x::xs,H2,I2,.cons r1 r2,q2⟩
noncomputable def Gp(t:TA):TE:=λσ H Q=>t σ H λxs H1=>xs.length<=sizeLine/\∀p,H1 p=none->Q (.ref p) (upd H1 p (.tup xs))
noncomputable def Gz(t:TA):TE:=λσ H Q=>t σ H λxs H1=>xs.length<=sizeLine/\∀p,H1 p=none->Q (.ref p) (upd H1 p (.lst xs))
def zI{x1}(h:PA X es t):PE X (.Tuple es x1 pos) (Gp t):=by
 intro aa s σ H Q I hq;refine wpAny_Tuple_spliced (bD (h pos aa s σ H _ I hq) λus s1 ⟨xs,H1,I1,r,z,q⟩=>⟨by rw [<-r.length];exact z,?_⟩)
 have hf:H1 (zz9 s1)=none:=I1.aO.fresh (zzE _)
 refine⟨.ref (zz9 s1),upd H1 (zz9 s1) (.tup xs),I1.laid (t':=s1.toks) (λb u e=>zzB _ e) (zzE _) ?_,rfl,q _ hf⟩;exact⟨z,us,r,⟨_,zzX _ rfl,rfl,_,rfl⟩⟩
def AM(h:PA X es t):PE X (.List es pos) (Gz t):=by
 intro aa s σ H Q I hq;refine wpAny_List_spliced (bD (h pos aa s σ H _ I hq) λus s1 ⟨xs,H1,I1,r,z,q⟩=>⟨by rw [<-r.length];exact z,?_⟩)
 have hf:H1 (zz9 s1)=none:=I1.aO.fresh (zzE _)
 refine⟨.ref (zz9 s1),upd H1 (zz9 s1) (.lst xs),I1.laid (t':=s1.toks) (λb u e=>zzB _ e) (zzE _) ?_,rfl,q _ hf⟩;exact⟨z,us,0,r,zzX _ rfl⟩
end
noncomputable abbrev Sp:=List V->Hp->VK->XK->Prop
noncomputable abbrev rX:=List Env->Hp->Shared->XK->Value->Shared->Prop
structure iw(P:Program)(w:World)(K:zz8)(mg:Str->Option Value)(base:Heap)(A:Around)(outer:List Env)(s:Shared)(H:Hp):Prop where
 frames:A.frames=some outer
 mod:Mod K mg base
 bs:∀b o,base.get? b=some o->s.heap.get? b=some o/\H b=none
 pT:base.objs.size<=(zz9 s)
 eC:s.heap.FunFrames base outer
 qm:∀b∈df outer,H b=none
 aO:dF P w H s.heap
 bare:AllBare s.gens
def CE(outer:List Env)(P:Program)(w:World)(H:Hp)(s:Shared)(Q:VK)(u:Value)(s':Shared):Prop:=
 ∃v H',s'.os=s.os/\AllBare s'.gens/\Un (df outer) [] H H' s.heap s'.heap/\dF P w H' s'.heap/\RelV v u/\Q v H'
def CR(CX:rX)(outer:List Env)(P:Program)(w:World)(H:Hp)(s:Shared)(Q:VK)(E:XK)(r:Result)(s':Shared):Prop:=
 match r with
 |.ok (.ret u)=>CE outer P w H s Q u s'
 |.ok _=>False
 |.error e=>CX outer H s E e s'
structure eT(P:Program)(w:World)(K:zz8)(mg:Str->Option Value)(base:Heap)(CX:rX)(k:Nat)(f:Addr)(fd:FuncData)(ps:List Str)(sp:Sp):Prop where
 len:∀vs H Q E,sp vs H Q E->vs.length=ps.length
 run:∀(A:Around) (outer:List Env) (s:Shared) (H:Hp) (args:Args) (us:List Value) (vs:List V) (Q:VK) (E:XK),dz k A->iw P w K mg base A outer s H->BindsTo s fd args (ps.zip us)->Vals vs us->sp vs H Q E->
  codeAny (model P w) A (.call (.ref f) args) (CR CX outer P w H s Q E) s
def eT.mono{P:Program}{w:World}{K:zz8}{mg:Str->Option Value}{base:Heap}{CX:rX}{j k:Nat}{f:Addr}{fd:FuncData}{ps:List Str}{sp:Sp}(F:eT P w K mg base CX j f fd ps sp)(h:j<=k):
 eT P w K mg base CX k f fd ps sp:=⟨F.len,λA outer s H args us vs Q E hr=>F.run A outer s H args us vs Q E (hr.mono h)⟩
def eT.imp{P:Program}{w:World}{K:zz8}{mg:Str->Option Value}{base:Heap}{CX:rX}{k:Nat}{f:Addr}{fd:FuncData}{ps:List Str}{sp JJ:Sp}(F:eT P w K mg base CX k f fd ps sp)
 (h:∀vs H Q E,JJ vs H Q E->sp vs H Q E):eT P w K mg base CX k f fd ps JJ:=
 ⟨λvs H Q E q=>F.len vs H Q E (h _ _ _ _ q),λA outer s H args us vs Q E hr he hb hv hs=>F.run A outer s H args us vs Q E hr he hb hv (h _ _ _ _ hs)⟩
section
variable{X:Cx}{aa:List (Addr×Obj)}{σ:St}{H:Hp}{s s':Shared}
def Inv.uX(I:Inv X aa σ H s):iw X.prog X.w X.K X.mg X.base X.A X.stack s H:=
 ⟨I.ok.frames,I.ok.mod,I.bs,zzU I.ok.pT I.sz,I.stack,I.gV,I.aO,I.bare⟩
def Inv.after{Q:VK}{u:Value}(I:Inv X aa σ H s)(h:CE X.stack X.prog X.w H s Q u s'):EP X aa σ Q u s':=by
 obtain⟨v,H',os,bare,un,aO,r,q⟩:=h
 obtain⟨hh,g,d,t,os'⟩:=s'
 obtain rfl:os'=s.os:=os
 exact⟨v,H',I.call (h':=hh) (g':=g) (d':=d) (t':=t) (ch:=[]) un aO bare (λb z=>absurd z (by simp)),r,q⟩
end
def Binds(K:zz8)(fd:FuncData)(ps:List Str)(ds:List Value):Prop:=
 ∀(s:Shared) (us:List Value),K.In s.heap->(us++ds).length=ps.length->BindsTo s fd ⟨us,[]⟩ (ps.zip (us++ds))
def Binds.all{K:zz8}{fd:FuncData}{ps:List Str}(h:∀us:List Value,us.length=ps.length->bindArgs fd ⟨us,[]⟩=pure (ps.zip us)):Binds K fd ps []:=λs us _ hl=>by
 rw [zz6] at hl⊢;exact .of_eq (h us hl)
def Passes(CX:rX)(X:Cx)(E:XK):Prop:=∀(aa:List (Addr×Obj)) (σ:St) (H:Hp) (s:Shared) (e:Value) (s':Shared),Inv X aa σ H s->CX X.stack H s E e s'->X.xe e s'
structure gZ(N P:List Str)(sc:Scope):Prop where
 kind:sc.kind=.function
 co:sc.isCoroutine=false
 gen:sc.isGenerator=false
 nd:N.Nodup
 pre:N.take P.length=P
 par:∀x∈P,sc.names.lookup x=some .local\/sc.names.lookup x=some .cell
 BW:∀y∈sc.names,y.2≠.free
theorem kf{kindOf:Str->Option NameKind}{x:Str}:∀{binds:List (Str×Value)} {m:Str->Option Value},(∀v,(x,v)∉binds)->bindL kindOf binds m x=m x
 |[],_,_=>rfl
 |(n,v)::r,m,h=>by
  unfold bindL;rw [kf λw hw=>h w (zzI _ hw)]
  split
  ·have:x≠n:=by rintro rfl;exact h v zzP
   simp [this]
  ·rfl
theorem jW{kindOf:Str->Option NameKind}{x:Str}:∀{binds:List (Str×Value)} {m:Str->Option Value},(∀v,(x,v)∉binds)->bindC kindOf binds m x=m x
 |[],_,_=>rfl
 |(n,v)::r,m,h=>by
  unfold bindC;rw [jW λw hw=>h w (zzI _ hw)]
  split
  ·rfl
  ·have:x≠n:=by rintro rfl;exact h v zzP
   simp [this]
theorem kE{kindOf:Str->Option NameKind}{x:Str}{v:Value}:∀{P:List Str} {vs:List Value} {i:Nat} {m:Str->Option Value},P.Nodup->P[i]?=some x->vs[i]?=some v->kindOf x=some .local->
 bindL kindOf (P.zip vs) m x=some v
 |[],_,_,_,_,h,_,_=>by simp at h
 |_::_,[],_,_,_,_,h,_=>by simp at h
 |p::P,w::vs,0,m,nd,h1,h2,hk=>by
  simp at h1 h2;subst h1;subst h2;show bindL kindOf ((p,w)::P.zip vs) m p=_
  unfold bindL;rw [kf λv hv=>(List.nodup_cons.mp nd).1 (List.of_mem_zip hv).1,if_pos hk]
  simp
 |p::P,w::vs,i+1,m,nd,h1,h2,hk=>by
  show bindL kindOf ((p,w)::P.zip vs) m x=_
  unfold bindL;exact kE (i:=i) (List.nodup_cons.mp nd).2 (by simpa using h1) (by simpa using h2) hk
theorem ke{kindOf:Str->Option NameKind}{x:Str}{v:Value}:∀{P:List Str} {vs:List Value} {i:Nat} {m:Str->Option Value},P.Nodup->P[i]?=some x->vs[i]?=some v->kindOf x≠some .local->
 bindC kindOf (P.zip vs) m x=some v
 |[],_,_,_,_,h,_,_=>by simp at h
 |_::_,[],_,_,_,_,h,_=>by simp at h
 |p::P,w::vs,0,m,nd,h1,h2,hk=>by
  simp at h1 h2;subst h1;subst h2;show bindC kindOf ((p,w)::P.zip vs) m p=_
  unfold bindC;rw [jW λv hv=>(List.nodup_cons.mp nd).1 (List.of_mem_zip hv).1,if_neg hk]
  simp
 |p::P,w::vs,i+1,m,nd,h1,h2,hk=>by
  show bindC kindOf ((p,w)::P.zip vs) m x=_
  unfold bindC;exact ke (i:=i) (List.nodup_cons.mp nd).2 (by simpa using h1) (by simpa using h2) hk
noncomputable def start(N:List Str)(vs:List V):St:=vs.map some++List.replicate (N.length-vs.length) none
noncomputable def cO(CX:rX)(P:Program)(w:World)(K:zz8)(mg:Str->Option Value)(base:Heap)(N:List Str)(qual:Str)(scope:Scope)(f:Addr)(cd:Value)(A:Around)(outer:List Env)(s:Shared)(H:Hp)(E:XK):Cx where
 prog:=P
 w:=w
 K:=K
 mg:=mg
 base:=base
 A:=A.deeper (envOfC qual scope (zz9 s) f cd)
 N:=N
 s₀:=s
 H₀:=H
 env:=envOfC qual scope (zz9 s) f cd
 outer:=outer
 stack:=envOfC qual scope (zz9 s) f cd::outer
 ex:=[]
 calm:=A.handled.isNone
 fn:=λ_=>true
 pn:=[]
 xe:=λe s'=>wpAny (model P w) (A.deeper (envOfC qual scope (zz9 s) f cd)) (leaving (envOfC qual scope (zz9 s) f cd) e) (λ_ xO=>CX outer H s E e xO) (λe' xO=>CX outer H s E e' xO) s'
def nc{sc:Scope}{n:Nat}{x:Str}(h:sc.names.lookup x=some .cell):∃c,(cellsFrom n sc.names []).lookup x=some c:=by
 have q:=PySem.W.cellsFrom_some sc.names n [] (.inl h)
 exact zzp.mp q
def qE{CX:rX}{P:Program}{w:World}{K:zz8}{mg:Str->Option Value}{base:Heap}{N ps:List Str}{qual:Str}{scope:Scope}{f:Addr}{cd:Value}{A:Around}{outer:List Env}{s s1:Shared}{H:Hp}{E:XK}{us:List Value}{vs:List V}
 (S:gZ N ps scope) (e0:iw P w K mg base A outer s H) (hl:vs.length=ps.length) (r:Vals vs us)
 (x:InCallC s (zz9 s) (bindL (envOfC qual scope (zz9 s) f cd).kindOf (ps.zip us) λ_=>none) (cellsFrom ((zz9 s)+1) scope.names []) (bindC (envOfC qual scope (zz9 s) f cd).kindOf (ps.zip us) λ_=>none) s1):
 Inv (cO CX P w K mg base N qual scope f cd A outer s H E) [] (start N vs) H s1:=by
 have hpl:ps.length<=N.length:=by have:=congrArg List.length S.pre;rw [List.length_take] at this;omega
 obtain⟨h1,tk,rfl,hk⟩:=x.done
 have wN:∀b:Addr,b∉(cO CX P w K mg base N qual scope f cd A outer s H E).ex:=λb z=>absurd (show b∈([]:List Addr) from z) (by simp)
 refine⟨⟨e0.mod,S.kind,rfl,rfl,zzE _,λy z c h1 h2=>?_,λy hy=>?_,λy c _ h=>?_,λz=>Option.isNone_iff_eq_none.mp z,Around.frames_deeper e0.frames,.inr ⟨rfl,rfl⟩,λb z=>absurd z (wN b),e0.bs,e0.pT,λb _ _=>wN b,λb z=>absurd z (wN b),e0.eC,e0.qm⟩,
  rfl,e0.bare,Un.kept hk,⟨_,x.toInCall.ns,λi y v h1 h2 h3=>?_⟩,λy c h=>⟨_,x.cell y c h⟩,e0.aO.fresh (zzE _),λy c h=>?_,λp hp=>absurd (show p∈([]:List (Addr×Obj)) from hp) (by simp),e0.aO.kept hk,?_⟩
 ·exact name_of_addr x.apart (PySem.mem_of_lookup h1) (PySem.mem_of_lookup h2)
 ·have hy:scope.names.lookup y=some .cell\/scope.names.lookup y=some .free:=hy
  rcases hy with hy|hy
  ·exact nc hy
  ·exact absurd rfl (S.BW _ (PySem.mem_of_lookup hy))
 ·exact Nat.le_of_lt (x.above y c (PySem.mem_of_lookup h))
 ·have hi:i<vs.length:=by
   unfold start at h2
   by_cases hi:i<vs.length
   ·exact hi
   ·rw [zzs (by simpa using hi)] at h2;rw [List.getElem?_replicate] at h2;split at h2<;>cases h2
  have ha:vs[i]?=some v:=by
   unfold start at h2;rw [zzr (by simpa using hi),zzQ] at h2;cases e:vs[i]? with
   |none=>rw [e] at h2;cases h2
   |some a=>rw [e] at h2;cases h2;rfl
  obtain⟨u,hu,rv⟩:=r.get ha
  have hp:ps[i]?=some y:=by
   rw [<-S.pre,List.getElem?_take_of_lt (by omega)];exact h1
  have Jh:ps.Nodup:=by rw [<-S.pre];exact S.nd.sublist (List.take_sublist _ _)
  refine⟨u,rv,?_⟩;rcases S.par y (zzD hp) with k|k
  ·exact .inl ⟨k,kE Jh hp hu k⟩
  ·obtain⟨c,e⟩:=nc (n:=(zz9 s)+1) k
   refine .inr ⟨.inl k,c,e,?_⟩;have q:=x.cell y c e
   rw [ke Jh hp hu (by show scope.names.lookup y≠_;rw [k];decide)] at q;exact q
 ·exact e0.aO.fresh (Nat.le_of_lt (x.above y c (PySem.mem_of_lookup h)))
 ·unfold start;show _=N.length
  rw [zzM,zzl,List.length_replicate];omega
def Dp{CX:rX}{P:Program}{w:World}{K:zz8}{mg:Str->Option Value}{base:Heap}{k:Nat}{f:Addr}{name qual:Str}{params:Arguments}{body:List Stmt}{scope:Scope}{dV kV doc pm d7 ct oc:Value}{an od:Option Addr}
 {n9:Array (Option Value)} {N ps:List Str} {sp:Sp} (lk:K.lookup f=some ⟨oc,od,.func (PySem.W.fnOf name qual params body scope dV kV doc pm an d7 ct),n9⟩) (jy:PySem.W.codeIn K d7 qual=true) (S:gZ N ps scope)
 (len:∀vs H Q E,sp vs H Q E->vs.length=ps.length)
 (Dx:∀(A:Around) (outer:List Env) (s:Shared) (H:Hp) (vs:List V) (Q:VK) (E:XK),dz k (A.deeper (envOfC qual scope (zz9 s) f d7))->sp vs H Q E->
  ∃t,md (cO CX P w K mg base N qual scope f d7 A outer s H E) body t/\t {nx:=λ_ H'=>Q .bO H',rt:=Q} (start N vs) H):
 eT P w K mg base CX (k+1) f (PySem.W.fnOf name qual params body scope dV kV doc pm an d7 ct) ps sp:=by
 refine⟨len,λA outer s H args us vs Q E hr e0 hb r B5=>?_⟩
 have hl:=len _ _ _ _ B5
 have KX:K.In s.heap:=e0.mod.Cb.keeps λb o e=>(e0.bs b o e).1
 have lim:s.heap.NoLimit:=e0.mod.nolimit.keeps λb o e=>(e0.bs b o e).1
 have EB:∀y∈ps.zip us,scope.names.lookup y.1=some .local\/(scope.names.lookup y.1=some .cell/\((cellsFrom ((zz9 s)+1) scope.names []).lookup y.1).isSome=true):=λ⟨n,v⟩ hy=>by
  rcases S.par n (List.of_mem_zip hy).1 with q|q
  ·exact .inl q
  ·exact .inr ⟨q,PySem.W.cellsFrom_some _ _ _ (.inl q)⟩
 refine codeAny_call_function hr.depth (KX _ _ lk) rfl S.co S.gen rfl (PySem.W.codeRec_of KX jy) (hb _ _ _ _ ?_);refine wpAny_newFunctionEnv_cells S.kind EB λenv he s1 x=>?_
 subst he;refine⟨lim.keeps x.toInCall.keep,codeAny_func ?_⟩;obtain⟨t,ht,hq⟩:=Dx A outer s H vs Q E (hr.deeper _) B5
 have I:Inv (cO CX P w K mg base N qual scope f d7 A outer s H E) [] (start N vs) H s1:=qE S e0 hl r x
 refine wpAny_mono (ht [] s1 (start N vs) H _ I hq) (λfl s' hs=>?_) λe s' hs=>hs
 have fin:∀{σ':St} {H':Hp} {v:V} {u:Value},Inv (cO CX P w K mg base N qual scope f d7 A outer s H E) [] σ' H' s'->RelV v u->Q v H'->CE outer P w H s Q u s':=
  λ{σ' H' v u} J rv q=>⟨v,H',J.os,J.bare,J.base,J.aO,rv,q⟩
 cases fl with
 |ret u=>
  obtain⟨v,σ',H',J,rv,q⟩:=hs
  exact fin J rv q
 |next=>
  obtain⟨σ',H',J,q⟩:=hs
  exact fin (v:=V.bO) (u:=Value.none) J rfl q
 |brk=>
  obtain⟨_,_,_,q⟩:=hs
  exact zzk q
 |cont=>
  obtain⟨_,_,_,q⟩:=hs
  exact zzk q
section
variable{X:Cx}{x:Str}{p pos:Pos}{e:Expr}{es:List Expr}{t:TA}{id T:String}{r:List V->Hp->VK->Prop}
noncomputable def EY(r:List V->Hp->VK->Prop)(t:TA):TE:=λσ H Q=>t σ H λvs H1=>r vs H1 Q
def fM(hc:du X (.builtin id) r)(hg:Gl X x)(hm:X.mg x=none)(hv:bootBuiltins x=some (.builtin id))(ha:PA X (e::es) t)(hn:x≠"__name__":=by decide)(GL:(x==("__debug__":Str))=false:=by decide)
 (he:starEach (e::es) X.env=(false,eval e X.env)::starEach es X.env:=by rfl) (hpl:(backTo pos (starEach es X.env)).any (·.1)=false:=by rfl):PE X (.Call (.Name x p) (e::es) [] pos) (EY r t):=by
 intro aa s σ H Q I h;refine wpAny_Call_Name_kw (dZ I hg hm hv ?_ hn GL);exact PyProof.Rows.callWith_builtin1 (bD (ha pos aa s σ H _ I h) λus s1 ⟨vs,H1,I1,r1,q1⟩=>hc aa s1 σ H1 vs us Q I1 r1 q1) he hpl
def gA(hc:du X (.type T) r)(hg:Gl X x)(hm:X.mg x=none)(hv:bootBuiltins x=some (.type T))(ha:PA X (e::es) t)(hn:x≠"__name__":=by decide)(GL:(x==("__debug__":Str))=false:=by decide)
 (he:starEach (e::es) X.env=(false,eval e X.env)::starEach es X.env:=by rfl) (hpl:(backTo pos (starEach es X.env)).any (·.1)=false:=by rfl):PE X (.Call (.Name x p) (e::es) [] pos) (EY r t):=by
 intro aa s σ H Q I h;refine wpAny_Call_Name_kw (dZ I hg hm hv ?_ hn GL);exact PyProof.Rows.callWith_type1 (bD (ha pos aa s σ H _ I h) λus s1 ⟨vs,H1,I1,r1,q1⟩=>hc aa s1 σ H1 vs us Q I1 r1 q1) he hpl
end
end L2
namespace HT
open PySem PyProof.Rows
section
variable{prog:Program}{w:World}{A:Around}{E:Value->Shared->Prop}{s:Shared}
def wk{t b:Addr}{vs ws:List Value}{Q:Value->Shared->Prop}(ht:IsTup s.heap t vs.toArray)(hb:IsTup s.heap b ws.toArray)(hv:vs≠[])
 (h1:ws=[]->Q (.ref t) s) (h2:ws≠[]->Q (.ref (zz9 s)) {s with heap:=s.heap.push {cls:=.type "tuple",data:=.seq (vs++ws).toArray}})
 (hsz:vs.length+ws.length<=sizeLine):wpAny (model prog w) A (binaryOp .Add (.ref t) (.ref b)) Q E s:=by
 obtain⟨⟨cls,dd,data,sl⟩,ho,hc,n,hd⟩:=id ht
 obtain⟨⟨cls2,dd2,data2,sl2⟩,ho2,hc2,n2,hd2⟩:=id hb
 simp only at hc hd hc2 hd2;subst hc hd hc2 hd2;have e:vs.toArray++ws.toArray=(vs++ws).toArray:=by simp
 by_cases hw:ws=[]
 ·exact concat_meets ⟨_,ho,rfl⟩ ⟨_,ho2,rfl⟩ noFill_tuple_add seq_tuple_add PySem.F.slot_tuple_add PySem.F.entry_tuple_add (PySem.F.args_tuple_add_2 _ _)
   (tuple_addW1 t b vs.toArray ws.toArray n n2 dd dd2 sl sl2 (by simpa using hv) (by simp [hw])) ⟨ho,ho2,h1 hw⟩
 ·refine concat_meets ⟨_,ho,rfl⟩ ⟨_,ho2,rfl⟩ noFill_tuple_add seq_tuple_add PySem.F.slot_tuple_add PySem.F.entry_tuple_add (PySem.F.args_tuple_add_2 _ _)
   (tuple_addW2 t b vs.toArray ws.toArray n n2 dd dd2 sl sl2 (by simpa using hv) (by simpa using hw) (by rw [zzC,zzC];exact hsz)) ⟨ho,ho2,?_⟩
  rw [e];exact h2 hw
noncomputable def cj(n d:Nat):Option Int->Nat
 |none=>d
 |some v=>if v<0 then(v+(n:Int)).toNat else min v.toNat n
def Am(n d:Nat)(hd:d<=n)(o:Option Int):cj n d o<=n:=by
 cases o with
 |none=>exact hd
 |some v=>
  show(if v<0 then(v+(n:Int)).toNat else min v.toNat n)<=n
  by_cases hv:v<0
  ·rw [if_pos hv];omega
  ·rw [if_neg hv];exact Nat.min_le_right _ _
def oP(v:Int)(n d:Nat):(if v<0 then max (v+(n:Int)) 0 else min v (n:Int))=((cj n d (some v):Nat):Int):=by
 show(if v<0 then max (v+(n:Int)) 0 else min v (n:Int))=(((if v<0 then(v+(n:Int)).toNat else min v.toNat n):Nat):Int)
 by_cases hv:v<0
 ·simp! [if_pos hv];omega
 ·simp! [if_neg hv];omega
def n6(lo hi:Option Int)(n:Nat):Builtin.Slice.sliceAdjust lo hi 1 (n:Int)=(((cj n 0 lo:Nat):Int),((cj n n hi:Nat):Int)):=by
 have h1:¬((1:Int)<0):=by omega
 unfold Builtin.Slice.sliceAdjust;simp! [h1,if_false];refine Prod.ext ?_ ?_
 ·cases lo with
  |none=>rfl
  |some v=>exact oP v n 0
 ·cases hi with
  |none=>rfl
  |some v=>exact oP v n n
def nC(i j:Nat):Builtin.Slice.slicePlaces (i:Int) (j:Int) 1=j-i:=by
 unfold Builtin.Slice.slicePlaces;have h1:(1:Int)>0:=by omega
 simp! [h1,if_true,Int.ediv_one];split<;>omega
def i3{v:Value}{o:Option Int}{Q:Option Int->Shared->Prop}(p:IsPart v o)(h:Q o s):wpAny (model prog w) A (Builtin.Slice.slicePartIndex v) Q E s:=by
 cases p with
 |none=>exact slicePart_none h
 |int i t=>exact slicePart_int h
def dH{sl:Addr}{vl vu:Value}{lo hi:Option Int}{n:Nat}{Q:Int×Int×Nat->Shared->Prop}(hs:s.heap.IsSliceOf sl vl vu .none)(pl:IsPart vl lo)(pu:IsPart vu hi)
 (h:Q (((cj n 0 lo:Nat):Int),1,cj n n hi-cj n 0 lo) s):wpAny (model prog w) A (Builtin.Slice.sliceApplied (.ref sl) (pure (n:Int))) Q E s:=by
 obtain⟨os,hos,uY,hds⟩:=id hs
 unfold Builtin.Slice.sliceApplied Builtin.Slice.sliceFields;refine zzA (zzA (wpAny_field hos hds (x:=vl) rfl (zzA (wpAny_field hos hds (x:=vu) rfl (zzA (wpAny_field hos hds (x:=.none) rfl (zzG ?_)))))));refine zzA (slicePart_none ?_);show wpAny _ _ (if((1:Int)==0)=true then _ else _) _ _ s;rw [if_neg (by decide)];refine zzA (i3 pl (zzA (i3 pu (zzA (zzG ?_)))));show wpAny _ _ (match Builtin.Slice.sliceAdjust lo hi 1 (n:Int) with|(lo,hi)=>pure (lo,(1:Int),Builtin.Slice.slicePlaces lo hi 1)) _ _ s
 rw [n6 lo hi n];show wpAny _ _ (pure (((cj n 0 lo:Nat):Int),(1:Int),Builtin.Slice.slicePlaces ((cj n 0 lo:Nat):Int) ((cj n n hi:Nat):Int) 1)) _ _ s;rw [nC];exact zzG h
def uS(xs:Array Value)(i k:Nat):((List.range k).filterMap λ(m:Nat)=>xs[((i:Int)+(m:Int)*1).toNat]?).toArray=((xs.toList.drop i).take k).toArray:=by
 have e:(λ(m:Nat)=>xs[((i:Int)+(m:Int)*1).toNat]?)=λm=>xs[i+m]?:=by
  funext m
  have:((i:Int)+(m:Int)*1).toNat=i+m:=by omega
  rw [this]
 rw [e];have:=pick_run xs i k
 rw [List.filterMap_map] at this;have e2:((λx=>xs[x]?)∘λx=>i+x)=λm=>xs[i+m]?:=rfl
 rw [e2] at this;rw [this]
def fQ{t sl:Addr}{items:Array Value}{vl vu:Value}{lo hi:Option Int}{Q:Value->Shared->Prop}(ht:IsTup s.heap t items)(hs:s.heap.IsSliceOf sl vl vu .none)(pl:IsPart vl lo)(pu:IsPart vu hi)
 (hw:¬(cj items.size 0 lo=0/\cj items.size items.size hi=items.size))
 (h:Q (.ref (zz9 s)) {s with heap:=s.heap.push {cls:=.type "tuple",data:=.seq ((items.toList.drop (cj items.size 0 lo)).take (cj items.size items.size hi-cj items.size 0 lo)).toArray}})
 (hsz:items.size<=sizeLine):wpAny (model prog w) A (getItem (.ref t) (.ref sl)) Q E s:=by
 have qg:sizeOk (.seq ((items.toList.drop (cj items.size 0 lo)).take (cj items.size items.size hi-cj items.size 0 lo)).toArray):=by
  show((items.toList.drop (cj items.size 0 lo)).take (cj items.size items.size hi-cj items.size 0 lo)).toArray.size<=sizeLine
  rw [zzC,List.length_take,List.length_drop,zzd];omega
 have hj:cj items.size items.size hi<=items.size:=Am _ _ (zzE _) hi
 obtain⟨os,hos,uY,hds⟩:=id hs
 have Gv:s.TypeIs (.ref sl) "slice":=⟨os,hos,uY⟩
 unfold getItem
 try with_reducible refine wpAny_holding ?_
 first|refine zzA (zzG ?_)|skip
 refine zzA (wpAny_sequenceKey ht.typeIs (by decide) ?_);refine zzA (wpAny_callSpecial?_slot (name:=Str.ofString "__getitem__") ht.typeIs PyProof.Rows.slot_tuple_getitem
  (wpAny_call_entry PyProof.Rows.slot_tuple_getitem ht.typeIs entry_tuple_getitem ?_ (args_tuple_getitem _ _)))
 show wpAny _ _ (Builtin.Tuple.tupleItemsOf (.ref t)>>=_) _ _ s
 refine zzA (tupleItemsOf_ ht ?_);refine zzA (wpAny_typeOf Gv ?_);rw [if_pos (by decide)];refine zzA (dH hs pl pu ?_);have GZ:¬((((cj items.size 0 lo:Nat):Int)==0&&(1:Int)==1&&(cj items.size items.size hi-cj items.size 0 lo)==items.size)=true):=by
  intro q;rw [zza,zza] at q;have q1:((cj items.size 0 lo:Nat):Int)=0:=eq_of_beq q.1.1
  have q2:cj items.size items.size hi-cj items.size 0 lo=items.size:=eq_of_beq q.2
  exact hw ⟨by omega,by omega⟩
 show wpAny _ _ (if(((cj items.size 0 lo:Nat):Int)==0&&(1:Int)==1&&(cj items.size items.size hi-cj items.size 0 lo)==items.size)=true then _ else _) _ _ s
 rw [if_neg GZ,uS]
 first
  |exact zzA (m:=Builtin.Tuple.tupleExact _) (wpAny_newObj_type (zzG ⟨_,rfl,zzG h⟩) qg)
  |exact zzA (m:=Builtin.Tuple.tupleExact _) (wpAny_newObj_type (zzA (zzG (zzG ⟨_,rfl,zzG h⟩))) qg)
  |exact zzA (zzA (m:=Builtin.Tuple.tupleExact _) (wpAny_newObj_type (zzG (zzG ⟨_,rfl,zzG h⟩)) qg))
  |exact zzA (zzA (m:=Builtin.Tuple.tupleExact _) (wpAny_newObj_type (zzG ⟨_,rfl,zzG h⟩) qg))
end
end HT
namespace L2
open PySem PySem.Spec PyProof.Rows
noncomputable abbrev TO:=St->Hp->(Option Int->Hp->Prop)->Prop
def PO(X:Cx)(e:Option Expr)(t:TO):Prop:=
 ∀(aa:List (Addr×Obj)) (s:Shared) (σ:St) (H:Hp) (Q:Option Int->Hp->Prop),Inv X aa σ H s->t σ H Q->
  wpAny (model X.prog X.w) X.A (evalPart e X.env) (λu s'=>∃o H',Inv X aa σ H' s'/\IsPart u o/\Q o H') X.xe s
noncomputable def wC:TO:=λ_ H Q=>Q none H
noncomputable def CP(t:TE):TO:=λσ H Q=>t σ H λx H1=>∃i,x=.int i/\Q (some i) H1
section
variable{X:Cx}{e:Expr}{te:TE}{lo hi:Option Expr}{tl th:TO}{pos p2:Pos}
def xU:PO X none wC:=by
 intro aa s σ H Q I h;rw [evalPart_none];exact zzG ⟨none,H,I,.none,h⟩
def wR(h:PE X e te):PO X (some e) (CP te):=by
 intro aa s σ H Q I hw;rw [evalPart_some];refine bD (h aa s σ H _ I hw) λu s1 ⟨x,H1,I1,r1,q1⟩=>?_
 obtain⟨i,rfl,q⟩:=q1
 obtain⟨t,rfl⟩:=r1
 exact⟨some i,H1,I1,.int i t,q⟩
def wF(X:Cx)(r:V->Option Int->Option Int->Hp->VK->Prop):Prop:=
 ∀(aa:List (Addr×Obj)) (s:Shared) (σ:St) (H:Hp) (x:V) (v vl vu:Value) (lo hi:Option Int) (sl:Addr) (Q:VK),Inv X aa σ H s->RelV x v->s.heap.IsSliceOf sl vl vu .none->IsPart vl lo->IsPart vu hi->r x lo hi H Q->
  ∃T id,typeLookup (.type T) "__getitem__"=pure (some (.builtin id))/\s.TypeIs v T/\wpAny (model X.prog X.w) X.A (getItem v (.ref sl)) (EP X aa σ Q) X.xe s
noncomputable def KQ(r:V->Option Int->Option Int->Hp->VK->Prop)(te:TE)(tl th:TO):TE:=λσ H Q=>te σ H λx H1=>tl σ H1 λl H2=>th σ H2 λu H3=>r x l u H3 Q
def tG{r:V->Option Int->Option Int->Hp->VK->Prop}(hr:wF X r)(he:PE X e te)(hl:PO X lo tl)(hu:PO X hi th):PE X (.Subscript e (.Slice lo hi none p2) pos) (KQ r te tl th):=by
 intro aa s σ H Q I h;refine Subscript_ (bD (he aa s σ H _ I h) λv s1 ⟨x,H1,I1,r1,q1⟩=>?_)
 refine wpAny_Slice (bD (hl aa s1 σ H1 _ I1 q1) λvl s2 ⟨l,H2,I2,pl,q2⟩=>bD (hu aa s2 σ H2 _ I2 q2) λvu s3 ⟨u,H3,I3,pu,q3⟩=>?_)
 rw [evalPart_none];refine zzG ?_;have I4:Inv X aa σ H3 {s3 with heap:=s3.heap.push {cls:=.type "slice",data:=.fields #[vl,vu,.none]}}:=I3.kept (t':=s3.toks) λb ob q=>zzB _ q
 obtain⟨T,id,hT,ht,hg⟩:=hr aa {s3 with heap:=s3.heap.push {cls:=.type "slice",data:=.fields #[vl,vu,.none]}} σ H3 x v vl vu l u (zz9 s3) Q I4 r1 (Heap.IsSliceOf.new ..) pl pu q3
 show wpAny (model X.prog X.w) X.A (subscriptTail e (.Slice lo hi none p2) v (.ref (zz9 s3))) (EP X aa σ Q) X.xe {s3 with heap:=s3.heap.push {cls:=.type "slice",data:=.fields #[vl,vu,.none]}}
 exact tail_any (ops:=[.ref (zz9 s3),v]) ht hT hg (by with_unfolding_all rfl)
noncomputable def rK(xs:List V)(lo hi:Option Int):List V:=(xs.drop (HT.cj xs.length 0 lo)).take (HT.cj xs.length xs.length hi-HT.cj xs.length 0 lo)
def mX(xs:List V)(lo hi:Option Int):(rK xs lo hi).length<=xs.length:=by
 unfold rK;rw [List.length_take,List.length_drop];omega
def F0(K:zz8):V->Option Int->Option Int->Hp->VK->Prop:=λx lo hi H Q=>∃a xs,x=.ref a/\eg K H a xs/\
 ¬(HT.cj xs.length 0 lo=0/\HT.cj xs.length xs.length hi=xs.length)/\∀p,H p=none->Q (.ref p) (upd H p (.tup (rK xs lo hi)))
def A9:wF X (F0 X.K):=by
 intro aa s σ H x v vl vu lo hi sl Q I rx hs pl pu h;obtain⟨a,xs,rfl,hx,hw,q⟩:=h
 cases rx;obtain⟨aj,r,ht,hz⟩:=I.tuple hx
 have hlen:aj.toArray.size=xs.length:=by rw [zzC];exact r.length.symm
 refine⟨"tuple",_,PyProof.Rows.slot_tuple_getitem.lookup,ht.typeIs,?_⟩;refine HT.fQ ht hs pl pu (by rw [hlen];exact hw) ?_ (by rw [hlen];exact hz);rw [hlen];refine⟨.ref (zz9 s),_,I.laid (t':=s.toks) (o:=.tup (rK xs lo hi)) (λb ob q=>zzB _ q) (zzE _) ?_,rfl,q _ (I.aO.fresh (zzE _))⟩;exact⟨zzU (mX xs lo hi) hz,_,(r.drop (HT.cj xs.length 0 lo)).take (HT.cj xs.length xs.length hi-HT.cj xs.length 0 lo),IsTup.new _ _⟩
noncomputable def D1(K:zz8):R2:=λx y H Q=>∃a b xs ys,x=.ref a/\y=.ref b/\eg K H a xs/\eg K H b ys/\xs≠[]/\xs.length+ys.length<=sizeLine/\
 (ys=[]->Q (.ref a) H)/\(ys≠[]->∀p,H p=none->Q (.ref p) (upd H p (.tup (xs++ys))))
def Vals.hW{xs:List V}{us:List Value}(r:Vals xs us):us=[]↔xs=[]:=by
 cases r with
 |nil=>simp
 |cons _ _=>simp
def xK:fg X (binaryOp .Add) (D1 X.K):=by
 intro aa s σ H x y v u Q I rx ry h;obtain⟨a,b,xs,ys,rfl,rfl,ha,hb,hx,hz,q1,q2⟩:=h
 cases rx;cases ry;obtain⟨aj,r1,p1,_⟩:=I.tuple ha
 obtain⟨cW,r2,p2,_⟩:=I.tuple hb
 refine HT.wk p1 p2 (λz=>hx (r1.hW.mp z)) (λz=>⟨.ref a,H,I,rfl,q1 (r2.hW.mp z)⟩) (λz=>?_) (by rw [<-r1.length,<-r2.length];exact hz)
 refine⟨.ref (zz9 s),_,I.laid (t':=s.toks) (o:=.tup (xs++ys)) (λb ob q=>zzB _ q) (zzE _) ?_,rfl,q2 (λw=>z (r2.hW.mpr w)) _ (I.aO.fresh (zzE _))⟩
 exact⟨by rw [zzM];exact hz,_,r1.append r2,IsTup.new _ _⟩
end
noncomputable def B7(n:Nat)(i:Int):Option Nat:=if 0<=i then(if i<n then some i.toNat else none) else if -(n:Int)<=i then some (i+n).toNat else none
noncomputable def nE{α:Type}(xs:List α)(i:Int):Option α:=(B7 xs.length i).bind λj=>xs[j]?
def wL{n:Nat}{i:Int}{j:Nat}(h:B7 n i=some j):seqIndex? i n=some j/\j<n/\ -(n:Int)<=i/\i<n:=by
 unfold B7 at h
 by_cases h0:0<=i
 ·rw [if_pos h0] at h
  by_cases h1:i<n
  ·rw [if_pos h1] at h;have e:i.toNat=j:=zzq h
   exact⟨by rw [seqIndex_of h0 h1,e],by omega,by omega,h1⟩
  ·rw [if_neg h1] at h;cases h
 ·rw [if_neg h0] at h
  by_cases h1: -(n:Int)<=i
  ·rw [if_pos h1] at h;have e:(i+n).toNat=j:=zzq h
   exact⟨by rw [seqIndex_neg (by omega) h1,e],by omega,h1,by omega⟩
  ·rw [if_neg h1] at h;cases h
def lK{α:Type}{xs:List α}{i:Int}{v:α}(h:nE xs i=some v):∃j,seqIndex? i xs.length=some j/\xs[j]?=some v/\j<xs.length/\ -(xs.length:Int)<=i/\i<xs.length:=by
 unfold nE at h;cases e:B7 xs.length i with
 |none=>rw [e] at h;cases h
 |some j=>
  rw [e] at h;obtain⟨h1,h2,h3,h4⟩:=wL e
  exact⟨j,h1,h,h2,h3,h4⟩
def kL(b:Expr):Prop:=∀o i,subscripted b false o i=operate [o,i] (getItem o i)
def Cp(X:Cx)(r:R2):Prop:=
 ∀(value slice:Expr) (aa:List (Addr×Obj)) (s:Shared) (σ:St) (H:Hp) (x y:V) (v u:Value) (Q:VK),Inv X aa σ H s->RelV x v->RelV y u->r x y H Q->
  subscripted slice false v u=operate [v,u] (getItem v u)->wpAny (model X.prog X.w) X.A (subscriptTail value slice v u) (EP X aa σ Q) X.xe s
def Fe(X:Cx)(id:String)(r:V->List V->Hp->VK->Prop):Prop:=
 ∀(aa:List (Addr×Obj)) (s:Shared) (σ:St) (H:Hp) (x:V) (xs:List V) (v:Value) (us:List Value) (Q:VK),Inv X aa σ H s->RelV x v->Vals xs us->r x xs H Q->
  wpAny (model X.prog X.w) X.A (call (.builtin id) (v::us)) (EP X aa σ Q) X.xe s
section
variable{X:Cx}{a b:Expr}{ta tb:TE}{pos:Pos}
def ES{r:R2}(hr:Cp X r)(ha:PE X a ta)(hb:PE X b tb)(hs:kL b):PE X (.Subscript a b pos) (EI r ta tb):=by
 intro aa s σ H Q I h;exact Subscript_ (Bk ha hb I h λv u s2 x y H2 I2 rx ry q=>hr a b aa s2 σ H2 x y v u Q I2 rx ry q (hs _ _))
noncomputable def Gi(K:zz8):R2:=λx y H Q=>∃p xs i v,x=.ref p/\y=.int i/\gL K H p xs/\nE xs i=some v/\Q v H
noncomputable def HP(K:zz8):R2:=λx y H Q=>∃p xs i v,x=.ref p/\y=.int i/\eg K H p xs/\nE xs i=some v/\Q v H
noncomputable def F5:R2:=λx y H Q=>∃z i c,x=.str z/\y=.int i/\z.length<=sizeLine/\nE z.cps.toList i=some c/\Q (.str ⟨#[c]⟩) H
def vU:Cp X (Gi X.K):=by
 intro value slice aa s σ H x y v u Q I rx ry h hs;obtain⟨p,xs,i,z,rfl,rfl,hq,he,q⟩:=h
 cases rx;obtain⟨t,rfl⟩:=ry
 obtain⟨aj,r,pl,hz⟩:=I.list hq
 obtain⟨j,h1,h2,h3,h4,h5⟩:=lK he
 obtain⟨w,ew,jd⟩:=r.get h2
 have hl:=r.length
 have hn:=iC
 have fin:EP X aa σ Q w s:=⟨z,H,I,jd,q⟩
 by_cases h0:0<=i
 ·have hj:i.toNat=j:=by
   rw [seqIndex_of h0 h5] at h1;exact zzq h1
  exact item_listR pl.isList h0 (by omega) (by rw [hj];simpa using ew) fin hs
 ·have hj:(i+(aj.toArray.size:Int)).toNat=j:=by
   rw [seqIndex_neg (by omega) h4] at h1;rw [zzC,<-hl];exact zzq h1
  exact subscriptTail_builtinR (x:=w) pl.isList.typeIs slot_list_getitem.lookup
   (wpAny_getItem_list_neg (Q:=λr s'=>r=w/\EP X aa σ Q r s') pl.isList (by omega) (by rw [zzC]<;>omega) (by omega) (by rw [hj];simpa using ew) ⟨rfl,fin⟩) hs
def A3:Cp X (HP X.K):=by
 intro value slice aa s σ H x y v u Q I rx ry h hs;obtain⟨p,xs,i,z,rfl,rfl,hq,he,q⟩:=h
 cases rx;obtain⟨t,rfl⟩:=ry
 obtain⟨aj,r,pl,hz⟩:=I.tuple hq
 obtain⟨j,h1,h2,h3,h4,h5⟩:=lK he
 obtain⟨w,ew,jd⟩:=r.get h2
 have hl:=r.length
 have hn:=iC
 have fin:EP X aa σ Q w s:=⟨z,H,I,jd,q⟩
 exact subscriptTail_builtinR (x:=w) pl.typeIs slot_tuple_getitem.lookup
  (getItem_tuple (j:=j) (Q:=λr s'=>r=w/\EP X aa σ Q r s') pl (by omega) (by omega) (by rw [zzC,<-hl];exact h1) (by simpa using ew) ⟨rfl,fin⟩) hs
def yN:Cp X F5:=by
 intro value slice aa s σ H x y v u Q I rx ry h hs;obtain⟨z,i,c,rfl,rfl,hz,he,q⟩:=h
 obtain⟨t,rfl⟩:=rx
 obtain⟨t',rfl⟩:=ry
 obtain⟨j,h1,h2,h3,h4,h5⟩:=lK he
 have hl:z.cps.toList.length=z.length:=by simp [Str.length]
 rw [hl] at h1 h4 h5;have hn:=iC
 exact tail_any (typeIs_str s z t) slot_str_getitem.lookup (getItem_str (c:=c) (by
  have e1:decide (i< -(2^63:Int))=false:=zz0 (by omega)
  have e2:decide (i>=2^63)=false:=zz0 (by omega)
  rw [e1,e2,Bool.or_false]) (by rw [h1];simpa using h2) ⟨.str ⟨#[c]⟩,H,I.tok _,⟨_,rfl⟩,q⟩) hs
def fT:du X (.builtin "len") (λxs H Q=>∃p ys,xs=[.ref p]/\(gL X.K H p ys\/eg X.K H p ys)/\Q (.int ys.length) H):=by
 intro aa s σ H xs us Q I r h;obtain⟨p,ys,rfl,hq,q⟩:=h
 obtain⟨u,rfl,rx⟩:=vals1 r
 cases rx;have hn:=iC
 rcases hq with hq|hq
 ·obtain⟨aj,r',pl,hz⟩:=I.list hq
  have hlen:=r'.length
  exact Calls.call_len_list pl.isList (by simp! [zzC]<;>omega) ⟨.int ys.length,H,I.tok _,⟨s.toks+1,by rw [zzC,hlen]⟩,q⟩
 ·obtain⟨aj,r',pl,hz⟩:=I.tuple hq
  have hlen:=r'.length
  exact len_tuple pl (by simp! [zzC]<;>omega) ⟨.int ys.length,H,I.tok _,⟨s.toks+1,by rw [zzC,hlen]⟩,q⟩
def kN:du X (.builtin "len") (λxs H Q=>∃z,xs=[.str z]/\z.length<=sizeLine/\Q (.int z.length) H):=by
 intro aa s σ H xs us Q I r h;obtain⟨z,rfl,hz,q⟩:=h
 obtain⟨u,rfl,t,rfl⟩:=vals1 r
 have hn:=iC
 exact len_str (by omega) ⟨.int z.length,H,I.tok _,⟨_,rfl⟩,q⟩
def js:du X (.type "tuple") (λxs H Q=>∃p ys,xs=[.ref p]/\((gL X.K H p ys/\∀l,H l=none->Q (.ref l) (upd H l (.tup ys)))\/(eg X.K H p ys/\Q (.ref p) H))):=by
 intro aa s σ H xs us Q I r h;obtain⟨p,ys,rfl,h⟩:=h
 obtain⟨u,rfl,rx⟩:=vals1 r
 cases rx;rcases h with⟨hq,q⟩|⟨hq,q⟩
 ·obtain⟨aj,r',pl,hz⟩:=I.list hq
  have hlen:=r'.length
  refine call_tuple_list pl.isList (λh' kp=>?_) (by simp! [zzC]<;>omega);have I1:Inv X aa σ H {s with heap:=h'}:=I.kept (t':=s.toks) kp
  have I2:Inv X aa σ (upd H h'.objs.size (.tup ys)) {s with heap:=h'.push {cls:=.type "tuple",data:=.seq aj.toArray}}:=
   I1.laid (t':=s.toks) (λb o e=>zzB _ e) (zzE _) (show bS X.prog X.w _ _ _ (.tup ys) from⟨hz,aj,r',IsTup.new _ _⟩)
  exact⟨.ref h'.objs.size,_,I2,rfl,q _ (I1.aO.fresh (zzE _))⟩
 ·obtain⟨aj,r',pl,hz⟩:=I.tuple hq
  exact call_tuple_same pl ⟨.ref p,H,I,rfl,q⟩
def HZ(K:zz8)(T:String)(x:V)(H:Hp):Prop:=match x with
 |.str _=>T="str"
 |.int _=>T="int"
 |.ref p=>(T="list"/\∃xs,gL K H p xs)\/(T="tuple"/\∃o,K.lookup p=some o/\o.cls=.type "tuple"/\o.dict=none)\/
  (T="dict"/\((∃bo,H p=some (.dK bo))\/∃bo,H p=some (.dT bo)))\/(T="set"/\∃S n,H p=some (.set S n))
 |_=>False
def Ao{aa:List (Addr×Obj)}{σ:St}{H:Hp}{s:Shared}{T:String}{x:V}{v:Value}(I:Inv X aa σ H s)(r:RelV x v)(ty:HZ X.K T x H):
 s.TypeIs v T/\∀a,v=.ref a->∃ob,s.heap.get? a=some ob/\ob.dict=none:=by
 cases x with
 |str z=>
  obtain⟨t,rfl⟩:=r
  cases(show T="str" from ty);exact⟨typeIs_str s z t,λ_ e=>nomatch e⟩
 |int i=>
  obtain⟨t,rfl⟩:=r
  cases(show T="int" from ty);exact⟨typeIs_int s i t,λ_ e=>nomatch e⟩
 |ref p=>
  cases r;rcases ty with⟨rfl,xs,hq⟩|⟨rfl,o,hk,hc,hd⟩|⟨rfl,hk⟩|⟨rfl,S,n,hk⟩
  ·obtain⟨aj,_,pl,_⟩:=I.list hq
   refine⟨pl.isList.typeIs,λa e=>?_⟩
   cases e;obtain⟨o,n,e,c,hd,_⟩:=pl
   exact⟨o,e,hd⟩
  ·refine⟨⟨o,I.jn p o hk,hc⟩,λa e=>?_⟩
   cases e;exact⟨o,I.jn _ o hk,hd⟩
  ·have z:∃o,s.heap.get? p=some o/\o.ExactDict:=by
    rcases hk with⟨bo,hk⟩|⟨bo,hk⟩
    ·obtain⟨_,_,_,_,o,_,_,e,ex,_⟩:=I.aO p _ hk
     exact⟨o,e,ex⟩
    ·obtain⟨_,_,_,_,o,_,_,e,ex,_⟩:=I.aO p _ hk
     exact⟨o,e,ex⟩
   obtain⟨o,e,ex⟩:=z
   refine⟨⟨o,e,ex.1⟩,λa e2=>?_⟩
   cases e2;exact⟨o,e,ex.2.1⟩
  ·obtain⟨o,_,_,_,e,ex,_⟩:=I.aO p _ hk
   refine⟨⟨o,e,ex.1⟩,λa e2=>?_⟩
   cases e2;exact⟨o,e,ex.2.1⟩
 |_=>exact zzk ty
noncomputable def Jw(K:zz8)(T:String)(r:V->List V->Hp->VK->Prop)(to:TE)(t:TA):TE:=λσ H Q=>to σ H λx H1=>HZ K T x H1/\t σ H1 λxs H2=>r x xs H2 Q
variable{o e:Expr}{es:List Expr}{to:TE}{t:TA}{name:Str}{apos bY:Pos}{T id:String}{r:V->List V->Hp->VK->Prop}
theorem oZ(pa:PlainAttrs T)(slot:Slot T name id)(KR:typeOf (.builtin id)=pure (.type "method_descriptor"))(hm:Fe X id r)(ho:PE X o to)(ha:PA X (e::es) t)
 (dI:attributeBase o name X.env (eval o X.env)=eval o X.env:=by rfl)
 (xC:((backTo bY (starEach (e::es) X.env)).all (λx=>!x.1)&&(backToKw bY (keywordEach [] X.env)).all (λx=>x.1.isSome)
  &&decide ((e::es).length+([]:List Keyword).length+(if([]:List Keyword).isEmpty then 0 else 1)<30))=true:=by rfl)
 (gH:(apos.endLine==bY.line)=true:=by rfl) (hs:starEach (e::es) X.env=(false,eval e X.env)::starEach es X.env:=by rfl) (gn:(backTo bY (starEach es X.env)).any (·.1)=false:=by rfl):
 PE X (.Call (.Attribute o name apos) (e::es) [] bY) (Jw X.K T r to t):=by
 intro aa s σ H Q I h;refine wpAny_Call_method_late dI xC gH rfl (bD (ho aa s σ H _ I h) λv s1 ⟨x,H1,I1,r1,ty,q1⟩=>?_)
 obtain⟨h1,h2⟩:=Ao I1 r1 ty
 refine⟨T,id,pa,slot,KR,h1,h2,?_⟩;have hA:=ha bY aa s1 σ H1 _ I1 q1
 rw [hs] at hA⊢;refine Calls.callWith_builtin (by show(false||(backTo bY (starEach es X.env)).any (·.1))=false;rw [gn]<;>rfl) (Calls.evalArgs_plain ?_);exact bD hA λus s2 ⟨vs,H2,I2,r2,q2⟩=>hm aa s2 σ H2 x vs v us Q I2 r1 r2 q2
end
def KA(X:Cx)(id:String)(r:V->List V->Hp->VK->Prop):Prop:=
 ∀(aa:List (Addr×Obj)) (s:Shared) (σ:St) (H:Hp) (x:V) (xs:List V) (v:Value) (us:List Value) (Q:VK),Inv X aa σ H s->RelV x v->Vals xs us->r x xs H Q->
  wpAny (model X.prog X.w) X.A (call (.builtin id) (v::us)) (EP X aa σ Q) X.xe s
theorem Vals.one:∀{x:V} {us:List Value},Vals [x] us->∃u,us=[u]/\RelV x u
 |_,_,.cons r .nil=>⟨_,rfl,r⟩
def Vals.two{x y:V}{us:List Value}(h:Vals [x,y] us):∃u v,us=[u,v]/\RelV x u/\RelV y v:=by
 cases h with
 |cons r q=>
  cases q with
  |cons q n=>cases n;exact⟨_,_,rfl,r,q⟩
theorem Vals.rep{xs:List V}{us:List Value}(h:Vals xs us):∀k:Nat,Vals (List.replicate k xs).flatten (List.replicate k us).flatten
 |0=>.nil
 |k+1=>by
  rw [List.replicate_succ,List.replicate_succ,List.flatten_cons,List.flatten_cons];exact Vals.append h (Vals.rep h k)
theorem foldl_rep(aj:List Value):∀(k:Nat) (acc:List Value),
 List.foldl (λx1 x2=>x1++x2) acc.toArray (List.replicate k aj.toArray)=(acc++(List.replicate k aj).flatten).toArray
 |0,acc=>by simp
 |k+1,acc=>by
  have e:acc.toArray++aj.toArray=(acc++aj).toArray:=by simp
  have e2:(acc++aj)++(List.replicate k aj).flatten=acc++(List.replicate (k+1) aj).flatten:=by
   rw [List.replicate_succ,List.flatten_cons,List.append_assoc]
  rw [<-e2,<-foldl_rep aj k (acc++aj),<-e,List.replicate_succ,List.foldl_cons]
section
variable{X:Cx}{aa:List (Addr×Obj)}{σ:St}{H:Hp}{s:Shared}{l:Addr}{xs ys:List V}
def Inv.CQ{aj its':List Value}{n:Nat}{f:Array Value->Array Value}{t':Nat}(I:Inv X aa σ H s)(hH:H l=some (.lst xs))
 (e:s.heap.get? l=some {cls:=.type "list",data:=.seq aj.toArray n}) (hf:f aj.toArray=its'.toArray) (hv:Vals ys its') (hz:ys.length<=sizeLine):
 Inv X aa σ (upd H l (.lst ys)) {s with heap:=s.heap.update l (Obj.mapSeq f),toks:=t'}:=by
 have q:=PySem.IsL.update e f
 rw [hf] at q;refine I.write (x:=l) (e:=l) (by rw [hH];exact trivial) (.inl rfl) (λb' u hb hu=>(Heap.get?_update_other s.heap (Obj.mapSeq f) (Ne.symm hb)).trans hu) ⟨_,q⟩ ?_
 exact⟨hz,its',_,hv,q⟩
theorem Inv.DT{aj:List Value}{t':Nat}(I:Inv X aa σ H s)(hv:Vals ys aj)(hz:ys.length<=sizeLine):
 Inv X aa σ (upd H (zz9 s) (.lst ys)) {s with heap:=s.heap.push {cls:=.type "list",data:=.seq aj.toArray},toks:=t'}:=
 I.laid (λ_ _ q=>zzB _ q) (zzE _) ⟨hz,aj,0,hv,zzX _ rfl⟩
def Inv.fresh(I:Inv X aa σ H s):H (zz9 s)=none:=I.aO.fresh (zzE _)
def Inv.D0(I:Inv X aa σ H s)(hH:H l=some (.lst xs)):xs.length<=sizeLine/\∃(aj:List Value) (n:Nat),Vals xs aj/\xs.length=aj.length/\s.heap.get? l=some {cls:=.type "list",data:=.seq aj.toArray n}:=by
 obtain⟨z,aj,n,r,e⟩:=I.aO l _ hH
 exact⟨z,aj,n,r,r.length,e⟩
def lZ{n:Nat}(h:n<=sizeLine):Builtin.List.listTooLong n=false:=by
 unfold Builtin.List.listTooLong;exact zz0 (by omega)
def xQ:V->List V->Hp->VK->Prop:=λx vs H Q=>∃l xs y,x=.ref l/\vs=[y]/\H l=some (.lst xs)/\xs.length<sizeLine/\Q .bO (upd H l (.lst (xs++[y])))
def rV:KA X "list.append" xQ:=by
 intro aa s σ H x vs v us Q I rx rv h;obtain⟨l,xs,y,rfl,rfl,hH,hz,q⟩:=h
 cases rx;obtain⟨u,rfl,ru⟩:=rv.one
 obtain⟨z,aj,n,r,hl,e⟩:=I.D0 hH
 refine call_meets F.slot_list_append ⟨_,e,rfl⟩ F.entry_list_append (F.args_list_append_2 _ _) (PySem.list_append l aj.toArray n u (by rw [zzC];omega)) ⟨e,?_⟩;refine⟨.bO,_,I.CQ (its':=aj++[u]) hH e (by simp) (r.append (.cons ru .nil)) ?_,rfl,q⟩;rw [zzM,List.length_singleton];omega
def len_rep{α:Type}(xs:List α)(k:Nat):(List.replicate k xs).flatten.length=k*xs.length:=by
 induction k with
 |zero=>simp
 |succ k ih=>rw [List.replicate_succ,List.flatten_cons,zzM,ih,Nat.succ_mul,Nat.add_comm]
end
end L2
namespace Att
open PySem PySem.W PySem.Calls PyProof.Rows
def gR{P:Params}{h:Heap}:∀(ns:List Int) (vs:List Value),WellAll P h vs (ns.map WData.int)->IntsAre vs ns:=by
 intro ns
 induction ns with
 |nil=>
  intro vs w;rw [List.map_nil] at w;cases w;exact .nil
 |cons n ns ih=>
  intro vs w;rw [zzF] at w;cases w with
  |cons a b=>
   cases a;exact .cons _ _ (ih _ b)
def rT{l:OpenLaw}{n:Nat}(hn:l.most=some n){P:Params}{h:Heap}{args:List WData}{vals:List Value}
 (x5:l.row.toRowW.claim.pre args=true) (FQ:WellAll P h vals args):
 ∃a vs ns,vals=[Value.ref a]/\args=[WData.list (ns.map WData.int)]/\h.get? a=some {cls:=.type "list",data:=.seq vs.toArray}/\IntsAre vs ns/\ns.length<=n:=by
 have Lh:WShape.hasAll [] args [.list .int]=true:=(pre_splitW x5).1
 have hc:l.pre.holds [] {args:=args}=true:=(pre_splitW x5).2
 obtain⟨d,r,rfl,h1,h2⟩:=hasAllW_cons Lh
 obtain rfl:=hasAllW_nil h2
 obtain⟨xs,rfl,h3⟩:=hasW_list h1
 obtain⟨ns,rfl⟩:=items_int h3
 have hlen:ns.length<=n:=by
  unfold OpenLaw.pre at hc;have h4:(WTm.not (.lt (.lit (.int (n:Int))) (.len (.arg 0)))).holds [] {args:=[.list (ns.map .int)]}=true:=by
   have h4:=(holds_andW hc).1
   rw [hn] at h4;exact h4
  have h5:=condW_of h4 (w_not (w_lt w_lit (w_len_list (w_arg rfl))))
  rw [zzl] at h5;refine Nat.le_of_not_lt λq=>?_
  have q':(n:Int)<((ns.length:Nat):Int):=by omega
  first
   |(rw [decide_eq_true q'] at h5;exact absurd h5 (by decide))
   |(simp at h5;omega)
 cases FQ with
 |cons w1 w2=>
  cases w2;cases w1 with
  |list ho hall=>exact⟨_,_,ns,rfl,rfl,ho,gR ns _ hall,hlen⟩
theorem rL(l:OpenLaw)(args:List WData):l.row.toRowW.claim.post args (.bool true) args=true:=
 postW_of (r:=l.row.toRowW) (X:=(true==true))
  (show WShape.has [] (.bool true) .bool=true by first|rfl|decide|simp [WShape.has,WShape.arms,WShape.armsAll])
  (show(WTm.eq .res (.lit (.bool true))).value [] {args:=args,res:=some (.bool true),after:=args}=some (.bool (true==true)) from w_eq_bool (w_res rfl) w_lit) rfl
def mH{l:OpenLaw}{n:Nat}{q:Program}{loose:List Str}{XP:(Str->Option Value)->Heap->Prop}{YP:World->Heap->Prop}{d:DefRec}
 (hn:l.most=some n) (Dz:d.params.defaults=[])
 (call:∀(w:World) (s₀ s₁:Shared) (mg mb:Str->Option Value) (fa:Addr) (o:Obj) (pm cd doc:Value) (a:Addr) (vs:List Value) (ns:List Int),
  Ground q loose [] XP w s₀ mg mb s₁.heap->YP w s₁.heap->
  s₁.heap.get? fa=some o->o.data=.func (docDef d.name d.params d.body d.scope pm cd doc)->s₁.heap.CodeRec cd d.name->mg d.name=some (.ref fa)->
  s₁.heap.get? a=some {cls:=.type "list",data:=.seq vs.toArray}->IntsAre vs ns->ns.length<=n->s₁.gens=#[]->
  codeAny (model l.prog w) callerA (.call (.ref fa) ⟨[.ref a],[]⟩) (λr s'=>r=.ok (.ret (.bool true))/\OldK s₁.heap s'.heap/\s'.os=s₁.os/\AllBare s'.gens) s₁):
 WalkO q loose XP YP l.row.toRowW d [] (λf vs=>PySem.call f vs):=by
 intro w s₀ s₁ mg mb G Y fa o pm cd doc dV kV ho hd jy hD hmg hg args vals as x5 hlay hrd FQ hlo;obtain rfl:dV=.none:=Dflts.none hD Dz
 obtain rfl:kV=.none:=Dflts.noKw hD
 obtain⟨a,vs,ns,rfl,rfl,hobj,hints,hlen⟩:=rT hn x5 FQ
 refine enter_call (codeAny_mono (call w s₀ s₁ mg mb fa o pm cd doc a vs ns G Y ho (fd_plain hd) jy hmg hobj hints hlen hg) λr s' hq=>?_)
 obtain⟨rfl,h2,h3,h4⟩:=hq
 exact⟨.inl ⟨.bool true,.bool true,[],rfl,λ_=>rfl,.bool true,rL l _,λ_=>⟨List.Pairwise.nil,λ_ hm=>(nomatch hm)⟩⟩,h2,h3,h4⟩
section
noncomputable def ledger(h:Heap)(L d:Addr):List (Addr×Obj):=(List.range h.objs.size).filterMap λa=>if a=L\/a=d then none else(h.get? a).map λo=>(a,o)
end
end Att
namespace L2
open PySem PySem.Spec PyProof.Rows
theorem kA:∀{vs:List Value} {ns:List Int},IntsAre vs ns->Vals (ns.map V.int) vs
 |_,_,.nil=>.nil
 |_,_,.cons n t h=>.cons ⟨t,rfl⟩ (kA h)
noncomputable def bZ(s:Stmt):Arguments:=match s with
 |.FunctionDef _ a _ _ _ _ _ _ _ _=>a
 |_=>{posonlyargs:=[],args:=[],vararg:=none,kwonlyargs:=[],kw_defaults:=[],kwarg:=none,defaults:=[]}
noncomputable def bR(s:Stmt):List Stmt:=match s with
 |.FunctionDef _ _ b _ _ _ _ _ _ _=>b
 |_=>[]
noncomputable def aK(s:Stmt):Scope:=match s with
 |.FunctionDef _ _ _ _ _ _ sc _ _ _=>sc
 |_=>{kind:=.function,names:=[],isGenerator:=false,isCoroutine:=false}
structure E3(K:zz8)(x qual:Str)(st:Stmt)(f:Addr)(fd:FuncData):Prop where
 ex:∃(oc:Value) (od:Option Addr) (kV doc pm:Value) (an:Option Addr) (d7 ct:Value) (n9:Array (Option Value)),
  fd=PySem.W.fnOf x qual (bZ st) (bR st) (aK st) .none kV doc pm an d7 ct/\K.lookup f=some ⟨oc,od,.func fd,n9⟩/\PySem.W.codeIn K d7 qual=true
 kp:PySem.W.keepIn K (.ref f)=true
section
variable{K:zz8}
def E3.binds{x qual:Str}{st:Stmt}{f:Addr}{fd:FuncData}{ps:List Str}(F:E3 K x qual st f fd)
 (h:∀(kV doc pm:Value) (an:Option Addr) (d7 ct:Value) (us:List Value),us.length=ps.length->bindArgs (PySem.W.fnOf x qual (bZ st) (bR st) (aK st) .none kV doc pm an d7 ct) ⟨us,[]⟩=pure (ps.zip us)):Binds K fd ps []:=by
 obtain⟨oc,od,kV,doc,pm,an,d7,ct,n9,rfl,lk,jy⟩:=F.ex
 exact .all (h kV doc pm an d7 ct)
def sA{x qual:Str}{st:Stmt}{f:Addr}{oc:Value}{od an:Option Addr}{n9:Array (Option Value)}{kV doc pm d7 ct:Value}(l:K.lookup f=some ⟨oc,od,.func (PySem.W.fnOf x qual (bZ st) (bR st) (aK st) .none kV doc pm an d7 ct),n9⟩)
 (c:PySem.W.codeIn K d7 qual=true) (k:PySem.W.keepIn K (.ref f)=true):E3 K x qual st f (PySem.W.fnOf x qual (bZ st) (bR st) (aK st) .none kV doc pm an d7 ct):=⟨⟨oc,od,kV,doc,pm,an,d7,ct,n9,rfl,l,c⟩,k⟩
variable{X:Cx}
theorem pv(i:Nat){x:Str}{pos:Pos}(hN:X.N[i]?=some x:=by rfl)(hv:B6 X.env.scope x:=by first|exact Or.inl rfl|exact Or.inr (Or.inl rfl)|exact Or.inr (Or.inr rfl))(hd:(x==("__debug__":Str))=false:=by decide)
 (jy:(x==("__classdict__":Str))=false:=by decide):PE X (.Name x pos) (zd i):=fD hN hv hd jy
end
def FH{A B:Prop}(h:B):if false=true then A else B:=by
 rw [if_neg zzf];exact h
def Hx{A B:Prop}(h:A):if true=true then A else B:=by
 rw [if_pos rfl];exact h
def av(H H':Hp):Prop:=∀b o,H b=some o->H' b=some o
def av.refl(H:Hp):av H H:=λ_ _ h=>h
def av.trans{H H1 H2:Hp}(a:av H H1)(b:av H1 H2):av H H2:=λc o h=>b c o (a c o h)
def av.free{H H':Hp}(e:av H H'){l:Addr}(h:H' l=Option.none):H l=Option.none:=by
 cases q:H l with
 |none=>rfl
 |some o=>
  rw [e l o q] at h;cases h
end L2
set_option maxHeartbeats 8000000
namespace L2
open PySem PySem.Spec PyProof.Rows
noncomputable def bw(env:Env)(ys:List Str):List (Str×Addr):=ys.map λy=>(y,(env.cells.lookup y).getD 0)
noncomputable def vo(σ:St)(is:List Nat):St:=is.map λi=>(σ[i]?).join
noncomputable def iA(scope:Scope)(x:Str):Bool:=scope.names.lookup x==some .cell
theorem nR{x:Str}{c:Addr}:∀(names:List (Str×NameKind)) (n:Nat) (acc:List (Str×Addr)),(x,c)∈cellsFrom n names acc->(x,c)∈acc\/(x,NameKind.cell)∈names/\n<=c
 |[],n,acc,h=>by rw [cellsFrom.eq_def] at h;exact .inl h
 | (y,k)::r,n,acc,h=>by
  rw [cellsFrom.eq_def] at h;dsimp only at h;split at h
  ·rename_i hk;cases eq_of_beq hk;rcases nR r (n+1) _ h with z|⟨z1,z2⟩
   ·rcases zzm.mp z with z|z
    ·cases z;exact .inr ⟨zzP ..,zzE _⟩
    ·exact .inl z
   ·exact .inr ⟨zzI _ z1,Nat.le_of_succ_le z2⟩
  ·rcases nR r n _ h with z|⟨z1,z2⟩
   ·exact .inl z
   ·exact .inr ⟨zzI _ z1,z2⟩
theorem lp{x:Str}{c:Addr}:∀(names:List (Str×NameKind)) (n:Nat) (acc:List (Str×Addr)),(cellsFrom n names acc).lookup x=some c->acc.lookup x=some c\/(x,NameKind.cell)∈names/\n<=c
 |[],n,acc,h=>by rw [cellsFrom.eq_def] at h;exact .inl h
 | (y,k)::r,n,acc,h=>by
  rw [cellsFrom.eq_def] at h;dsimp only at h;split at h
  ·rename_i hk;cases eq_of_beq hk;rcases lp r (n+1) _ h with z|⟨z1,z2⟩
   ·rw [zz5] at z;cases e:x==y with
    |true=>rw [e] at z;cases z;cases eq_of_beq e;exact .inr ⟨zzP ..,zzE _⟩
    |false=>rw [e] at z;exact .inl z
   ·exact .inr ⟨zzI _ z1,Nat.le_of_succ_le z2⟩
  ·rcases lp r n _ h with z|⟨z1,z2⟩
   ·exact .inl z
   ·exact .inr ⟨zzI _ z1,z2⟩
theorem lr{x:Str}:∀(names:List (Str×NameKind)) (n:Nat) (acc:List (Str×Addr)),(x,NameKind.cell)∉names->(cellsFrom n names acc).lookup x=acc.lookup x
 |[],n,acc,_=>by rw [cellsFrom.eq_def]
 |(y,k)::r,n,acc,h=>by
  rw [cellsFrom.eq_def];dsimp only;have hr:(x,NameKind.cell)∉r:=λz=>h (zzI _ z)
  split
  ·rename_i hk;cases eq_of_beq hk;rw [lr r (n+1) _ hr,zz5];cases e:x==y with
   |true=>cases eq_of_beq e;exact absurd (zzP ..) h
   |false=>rfl
  ·exact lr r n acc hr
theorem zG{x:Str}{c:Addr}:∀(names:List (Str×NameKind)) (n:Nat) (acc:List (Str×Addr)),(x,c)∈cellsFrom n names acc->(∀p∈acc,p.2≠c)->(x,c)∈cellsFrom n names []
 |names,n,acc,h,ha=>by
  have key:∀(names:List (Str×NameKind)) (n:Nat) (acc b:List (Str×Addr)),(x,c)∈cellsFrom n names (b++acc)->(∀p∈acc,p.2≠c)->(x,c)∈cellsFrom n names b:=by
   intro names
   induction names with
   |nil=>
    intro n acc b h ha;rw [cellsFrom.eq_def] at h⊢;rcases List.mem_append.mp h with z|z
    ·exact z
    ·exact absurd rfl (ha _ z)
   |cons y r ih=>
    intro n acc b h ha;obtain⟨y,k⟩:=y
    rw [cellsFrom.eq_def] at h⊢;dsimp only at h⊢;split at h
    ·rename_i hk;rw [if_pos hk];exact ih (n+1) acc ((y,n)::b) h ha
    ·rename_i hk;rw [if_neg hk];exact ih n acc b h ha
  exact key names n acc [] h ha
theorem kI{x y:Str}{c:Addr}:∀(names:List (Str×NameKind)) (n:Nat) (acc:List (Str×Addr)),(∀p∈acc,p.2<n)->n<=c->(x,c)∈cellsFrom n names acc->(y,c)∈cellsFrom n names acc->x=y
 |[],n,acc,ha,hc,h1,h2=>by
  rw [cellsFrom.eq_def] at h1;exact absurd (ha _ h1) (Nat.not_lt.mpr hc)
 | (z,k)::r,n,acc,ha,hc,h1,h2=>by
  rw [cellsFrom.eq_def] at h1 h2;dsimp only at h1 h2;split at h1
  ·rename_i hk;rw [if_pos hk] at h2;have Kr:∀p∈(z,n)::acc,p.2<n+1:=λp hp=>by
    rcases zzm.mp hp with q|q
    ·rw [q];exact Nat.lt_succ_self _
    ·exact Nat.lt_succ_of_lt (ha p q)
   by_cases hn:n+1<=c
   ·exact kI r (n+1) _ Kr hn h1 h2
   ·have one:∀{w:Str},(w,c)∈cellsFrom (n+1) r ((z,n)::acc)->w=z:=λ{w} h=>by
     rcases nR r (n+1) _ h with q|q
     ·rcases zzm.mp q with q|q
      ·cases q;rfl
      ·exact absurd (ha _ q) (Nat.not_lt.mpr hc)
     ·exact absurd q.2 hn
    rw [one h1,one h2]
  ·rename_i hk;rw [if_neg hk] at h2;exact kI r n acc ha hc h1 h2
def ox{M:Model}{A:Around}{E:Value->Shared->Prop}{s:Shared}{scope:Scope}{g:Addr}{cl:List (Str×Addr)}{qual:Str}{around:Env}{Q:Env->Shared->Prop}
 (h:Q (newEnv scope (zz9 s) g (cellsFrom ((zz9 s)+1) scope.names cl) qual none .none (some around) builtinsNs) {s with heap:=pushCells (s.heap.push {cls:=.type "dict",data:=.dict #[]}) scope.names}):
 wpAny M A (newFunctionEnv scope g cl [] qual none .none (some around)) Q E s:=by
 unfold newFunctionEnv;refine zzA (wpAny_alloc ?_);refine zzA (wpAny_forIn_list _ (λrest b s'=>s'={s with heap:=s'.heap}/\pushCells s'.heap rest=pushCells (s.heap.push {cls:=.type "dict",data:=.dict #[]}) scope.names/\cellsFrom (zz9 s') rest b=cellsFrom ((zz9 s)+1) scope.names cl) _ (λx rest b s' hI=>?_) (λb s' hI=>?_) scope.names cl ⟨rfl,rfl,by rw [Heap.size_push]⟩)
 ·obtain⟨h1,h2,h3⟩:=hI
  obtain⟨nm,k⟩:=x
  rw [pushCells.eq_def] at h2;rw [cellsFrom.eq_def] at h3;dsimp only at h2 h3⊢;split
  ·rename_i hk;rw [if_pos hk] at h2 h3;refine zzA (wpAny_alloc (zzG ⟨by rw [h1],h2,?_⟩));dsimp only;rw [Heap.size_push];exact h3
  ·rename_i hk;rw [if_neg hk] at h2 h3;exact zzG ⟨h1,h2,h3⟩
 ·obtain⟨h1,h2,h3⟩:=hI
  rw [pushCells.eq_def] at h2;rw [cellsFrom.eq_def] at h3;dsimp only at h2 h3;subst h3;rw [h1,h2];exact zzA (zzG (zzG h))
noncomputable def bC(X:Cx)(N':List Str)(scope:Scope)(cl:List (Str×Addr))(fp:List Addr)(s₁:Shared)(H₁:Hp)(C:Addr):Cx where
 prog:=X.prog
 w:=X.w
 K:=X.K
 mg:=X.mg
 base:=X.base
 A:=X.A
 N:=N'
 s₀:=s₁
 H₀:=H₁
 env:=compEnvC scope (cellsFrom (C+1) scope.names cl) C X.env
 outer:=X.stack
 stack:=X.stack
 ex:=fp
 fn:=iA scope
 calm:=true
 pn:=[]
 xe:=λ_ _=>False
theorem dw{env:Env}:∀{ys:List Str},(ys.all λy=>(env.cells.lookup y).isSome)=true->∀(x:Str) (c:Addr),(bw env ys).lookup x=some c->env.cells.lookup x=some c
 |[],_,_,_,h=>by simp [bw] at h
 |y::ys,ha,x,c,h=>by
  rw [List.all_cons,zza] at ha;have ih:=dw (env:=env) ha.2 x c
  unfold bw at h ih;rw [zzF,zz5] at h;cases e:x==y with
  |true=>
   rw [e] at h;have K1:x=y:=zzy.mp e
   subst K1;obtain⟨c',fG⟩:=zzp.mp ha.1
   rw [fG] at h⊢;exact h
  |false=>
   rw [e] at h;exact ih h
theorem fY{env:Env}:∀{ys:List Str} {x:Str},x∈ys->∃c,(bw env ys).lookup x=some c
 |[],_,h=>nomatch h
 |y::ys,x,h=>by
  unfold bw;rw [zzF,zz5];cases e:x==y with
  |true=>exact⟨_,rfl⟩
  |false=>
   have hx:x∈ys:=by
    rcases zzm.mp h with z|z
    ·rw [z] at e;simp at e
    ·exact z
   exact fY (env:=env) hx
def gG{scope:Scope}{env:Env}{x:Str}{k:NameKind}(h:(relabel scope env).names.lookup x=some k)(hk:k=.cell\/k=.free):∃k',(x,k')∈scope.names/\(k'=.cell\/k'=.free):=by
 have hm:=PySem.mem_of_lookup h
 unfold relabel at hm;obtain⟨⟨n,k0⟩,h0,e⟩:=zzx.mp hm
 dsimp only at e;split at e
 ·rename_i hc;cases e;refine⟨k0,h0,.inr ?_⟩;rw [zza,zza] at hc;exact zzy.mp hc.1.1
 ·cases e;exact⟨k,h0,hk⟩
structure dD(X:Cx)(scope:Scope)(xs ys:List Str)(is:List Nat):Prop where
 kind:scope.kind=.function
 He:closureFor scope X.env=pure (bw X.env ys)
 cells:(ys.all λy=>(X.env.cells.lookup y).isSome)=true
 As:(scope.names.all λy=>(decide (y.2≠.cell)||!ys.contains y.1)&&(decide (y.2≠.free)||ys.contains y.1))=true
 own:(scope.names.all λy=>decide (y.2≠.cell)||decide (scope.names.lookup y.1=some .cell))=true
 names:(scope.names.all λy=>decide (y.2≠.local)||decide (scope.names.lookup y.1=some .local))=true
 slots:is.map (λi=>X.N[i]?)=ys.map some
 kX:(ys.all λy=>decide (X.env.kindOf y=some .cell))=true
 kY:(ys.all λy=>decide ((relabel scope X.env).names.lookup y=some .cell))=true
section
variable{X:Cx}{aa:List (Addr×Obj)}{σ:St}{H:Hp}{s:Shared}{scope:Scope}{xs ys:List Str}{is:List Nat}
def dD.zr(S:dD X scope xs ys is){x:Str}(h:(x,NameKind.cell)∈scope.names):scope.names.lookup x=some .cell/\x∉ys:=by
 have q:=zzT.mp S.own _ h
 have c:=zzT.mp S.As _ h
 rw [zza,zzt] at c;rw [zzt] at q;refine⟨zzY (q.resolve_left λz=>zzY z rfl),λhy=>?_⟩
 rcases c.1 with z|z
 ·exact zzY z rfl
 ·rw [zzn.mpr hy] at z;cases z
def ez(I:Inv X aa σ H s)(S:dD X scope xs ys is){C:Addr}(hC:(zz9 s)<=C){x:Str}{c:Addr}(h:(cellsFrom (C+1) scope.names (bw X.env ys)).lookup x=some c):
 (X.env.cells.lookup x=some c/\c<(zz9 s)/\x∈ys)\/((x,NameKind.cell)∈scope.names/\C+1<=c):=by
 rcases lp _ _ _ h with z|z
 ·have e:=dw S.cells x c z
  obtain⟨v,q⟩:=I.cell x c e
  refine .inl ⟨e,q.lt,?_⟩;have hm:=PySem.mem_of_lookup z
  unfold bw at hm;obtain⟨y,hy,e2⟩:=zzx.mp hm
  cases e2;exact hy
 ·exact .inr z
def rP(I:Inv X aa σ H s)(hc:X.calm=true)(S:dD X scope xs ys is){N':List Str}{fp:List Addr}{C:Addr}(hC:(zz9 s)<=C)(hf:∀b∈fp,f7 X aa H b)(vA:∀b∈fp,b<(zz9 s)):
 (bC X N' scope (bw X.env ys) fp s H C).Ok where
 mod:=I.ok.mod
 kind:=S.kind
 glob:=I.ok.glob
 blt:=I.ok.blt
 above:=hC
 inj:=λx y c h1 h2=>by
  rcases ez I S hC h1 with z1|z1
  ·rcases ez I S hC h2 with z2|z2
   ·exact I.ok.inj x y c z1.1 z2.1
   ·exact absurd z1.2.1 (Nat.not_lt.mpr (zzU hC (Nat.le_of_succ_le z2.2)))
  ·refine kI scope.names (C+1) (bw X.env ys) (λp hp=>?_) z1.2 (PySem.mem_of_lookup h1) (PySem.mem_of_lookup h2);unfold bw at hp;obtain⟨y,hy,rfl⟩:=zzx.mp hp
   obtain⟨c',fG⟩:=zzp.mp (zzT.mp S.cells y hy)
   obtain⟨v,q⟩:=I.cell y c' fG
   dsimp only;rw [fG];exact Nat.lt_succ_of_le (zzU (Nat.le_of_lt q.lt) hC)
 has:=λx hx=>by
  have wM:(relabel scope X.env).names.lookup x=some .cell\/(relabel scope X.env).names.lookup x=some .free:=hx
  have:∃k',(x,k')∈scope.names/\(k'=.cell\/k'=.free):=by
   rcases wM with z|z
   ·exact gG z (.inl rfl)
   ·exact gG z (.inr rfl)
  obtain⟨k',hm,hk⟩:=this
  have cv:=zzT.mp S.As _ hm
  rw [zza,zzt,zzt] at cv;rcases hk with z|z
  ·subst z;exact zzp.mp (PySem.W.cellsFrom_some _ _ _ (.inl (S.zr hm).1))
  ·rcases cv.2 with q|q
   ·exact absurd z (zzY q)
   ·refine zzp.mp (PySem.W.cellsFrom_some _ _ _ (.inr ?_));obtain⟨c,e⟩:=fY (env:=X.env) (zzn.mp q)
    rw [e];rfl
 AH:=λx c h e=>by
  have hm:(x,NameKind.cell)∈scope.names:=PySem.mem_of_lookup (eq_of_beq h)
  rcases ez I S hC e with z|z
  ·exact absurd z.2.2 (S.zr hm).2
  ·exact zzU hC (Nat.le_of_succ_le z.2)
 hd:=λ_=>I.ok.hd hc
 frames:=I.ok.frames
 u5:=.inl rfl
 Hb:=λb hb=>⟨zzb (zzW (vA b hb) hC),λx c h=>(ez I S hC h).elim (λz=>(hf b hb).2.2.2.2.1 x c z.1) λz q=>absurd (vA b hb) (Nat.not_lt.mpr (q▸zzU hC (Nat.le_of_succ_le z.2)))⟩
 bs:=λb o e=>I.bs b o e
 pT:=zzU I.ok.pT I.sz
 qw:=λb o e hb=>by
  rcases(hf b hb).2.2.2.1 with z|z
  ·exact I.ok.qw b o e z
  ·exact absurd (zzW (zzO e) (zzU I.ok.pT z)) (Nat.lt_irrefl _)
 vb:=λb hb hs=>(zzm.mp (I.gj b hs)).elim (hf b hb).2.1 (hf b hb).2.2.1
 eC:=I.stack
 qm:=λb hb=>I.gV b hb
theorem pO{N:List Str}:∀{is:List Nat} {ys:List Str},is.map (λi=>N[i]?)=ys.map some->∀(j:Nat) (y:Str) (v:V),ys[j]?=some y->(vo σ is)[j]?=some (some v)->∃i:Nat,N[i]?=some y/\σ[i]?=some (some v)
 |[],[],_,_,_,_,h,_=>by simp at h
 |[],_::_,h,_,_,_,_,_=>by simp at h
 |_::_,[],h,_,_,_,_,_=>by simp at h
 |i::is,y0::ys,h,0,y,v,h1,h2=>by
  rw [zzF,zzF] at h;have h0:=(List.cons.inj h).1
  simp! [List.getElem?_cons_zero,Option.some.injEq] at h1;subst h1;refine⟨i,h0,?_⟩;unfold vo at h2;simp! [zzF,List.getElem?_cons_zero,Option.some.injEq] at h2;exact Option.join_eq_some_iff.mp h2
 |i::is,y0::ys,h,j+1,y,v,h1,h2=>by
  rw [zzF,zzF] at h;refine pO (is:=is) (ys:=ys) (List.cons.inj h).2 j y v (by simpa using h1) ?_;unfold vo at h2⊢
  simpa using h2
noncomputable abbrev lobj(aj:List Value)(n:Nat):Obj:={cls:=.type "list",data:=.seq aj.toArray n}
def rF(aj:List Value)(n:Nat)(v:Option Value):(lobj aj n).data≠.cell v:=λz=>by cases z
noncomputable abbrev tests(ifs:List Expr)(env:Env):Sem Bool:=forIn ifs true λc r=>if r=true then do let ok<-isTrue c env (eval c env);pure (ForInStep.yield ok) else pure (ForInStep.yield r)
theorem k8{prog:Program}{w:World}{A:Around}{R:Result->Shared->Prop}{s:Shared}{elt target iter:Expr}{ifs:List Expr}{scope:Scope}{pos:Pos}{it acc:Value}{env:Env}(I:Nat->Shared->Prop)
 (turn:∀n s,I n s->wpAny (model prog w) A (pyNext it) (λr s₁=>match r with
  |none=>R (.ok .next) s₁
  |some v=>wpAny (model prog w) A (letOwnedTupleGo target it v) (λ_ s₁'=>wpAny (model prog w) A (assign target env v) (λ_ s₂=>
   wpAny (model prog w) A (tests ifs env) (λok s₃=>if ok=true then wpAny (model prog w) A (eval elt env) (λx s₄=>
    wpAny (model prog w) A (call (.builtin "list.append") [acc,x]) (λ_ s₅=>∃m,m<n/\I m s₅) (notedBy (model prog w) A env λe s'=>R (.error e) s') s₄) (notedBy (model prog w) A env λe s'=>R (.error e) s') s₃
    else∃m,m<n/\I m s₃) (notedBy (model prog w) A env λe s'=>R (.error e) s') s₂)
   (notedBy (model prog w) A env λe s'=>R (.error e) s') s₁') (notedBy (model prog w) A env λe s'=>R (.error e) s') s₁) (notedBy (model prog w) A env λe s'=>R (.error e) s') s)
 (n:Nat) (h:I n s):
 codeAny (model prog w) A (.compLoop (.ListComp elt [⟨target,iter,ifs,0⟩] scope pos) 0 it acc env) R s:=by
 refine codeAny_loop rfl I (λn s hI=>?_) n h;show wpAny _ A ((compTurn (.ListComp elt [⟨target,iter,ifs,0⟩] scope pos) 0 it acc env).onRaise (λx=>do noteFrame x env;theTreesLotGoes x)) _ _ s;refine wpAny_noted ?_;rw [compTurn_list];refine zzA (wpAny_standAt (zzA (wpAny_mono (turn n s hI) (λr s₁ h₁=>?_) λ_ _ h'=>h')))
 cases r with
 |none=>exact zzG h₁
 |some v=>
  refine zzA (wpAny_mono h₁ (λ_ s₁' h₁'=>?_) λ_ _ h'=>h')
  refine zzA (wpAny_mono h₁' (λ_ s₂ h₂=>zzA (wpAny_mono h₂ (λok s₃ h₃=>?_) λ_ _ h'=>h')) λ_ _ h'=>h')
  cases ok with
  |false=>exact zzG ⟨rfl,h₃⟩
  |true=>exact zzA (zzA (wpAny_mono h₃ (λx s₄ h₄=>zzA (wpAny_mono h₄ (λ_ s₅ h₅=>zzG (zzG ⟨rfl,h₅⟩)) λ_ _ h'=>h')) λ_ _ h'=>h'))
def FV(X:Cx)(ifs:List Expr)(t:TT):Prop:=
 ∀(aa:List (Addr×Obj)) (s:Shared) (σ:St) (H:Hp) (Q:Bool->Hp->Prop),Inv X aa σ H s->t σ H Q->wpAny (model X.prog X.w) X.A (tests ifs X.env) (TP X aa σ Q) X.xe s
def p6{X:Cx}:FV X [] (λ_ H q=>q true H):=λ_ _ _ H _ I h=>wpAny_tests_nil ⟨H,I,h⟩
def p5{X:Cx}{e:Expr}{t:TT}(h:PT X e t):FV X [e] t:=λaa s σ H Q I z=>wpAny_tests_one (h aa s σ H Q I z)
def C9(J:It)(k:Nat)(g:TG)(te:TE)(fs:St)(Q:VK)(H1:Hp):Prop:=∃(n:Nat) (W:Nat->List V->St->Hp->Prop),W 0 [] (List.replicate k none++fs) H1/\
 ∀i ys σ' H',W i ys σ' H'->ys.length<sizeLine/\((J.stop i H'/\∀p,H' p=none->Q (.ref p) (upd H' p (.lst ys)))\/
  (J.go i H'/\i<n/\∀x je,J.B1 i H' x je->g x σ' je λσ2 H2=>te σ2 H2 λy H3=>W (i+1) (ys++[y]) σ2 H3))
noncomputable def sR(wi:TI)(k:Nat)(g:TG)(te:TE)(is:List Nat):TE:=λσ H Q=>wi σ H λJ H1=>C9 J k g te (vo σ is) Q H1
def xl(J:It)(k:Nat)(g:TG)(tt:TT)(te:TE)(fs:St)(Q:VK)(H1:Hp):Prop:=∃(n:Nat) (W:Nat->List V->St->Hp->Prop),W 0 [] (List.replicate k none++fs) H1/\
 ∀i ys σ' H',W i ys σ' H'->ys.length<sizeLine/\((J.stop i H'/\∀p,H' p=none->Q (.ref p) (upd H' p (.lst ys)))\/
  (J.go i H'/\i<n/\∀x je,J.B1 i H' x je->g x σ' je λσ2 H2=>tt σ2 H2 λb H3=>if b=true then te σ2 H3 (λy H4=>W (i+1) (ys++[y]) σ2 H4) else W (i+1) ys σ2 H3))
noncomputable def gS(wi:TI)(k:Nat)(g:TG)(tt:TT)(te:TE)(is:List Nat):TE:=λσ H Q=>wi σ H λJ H1=>xl J k g tt te (vo σ is) Q H1
def eW{elt tg iter:Expr}{ifs:List Expr}{pos pp:Pos}{wi:TI}{g:TG}{te:TE}{tt:TT}{use:Option (Value->Sem Unit)}{QQ:Value->Shared->Prop}{Q:VK}(hc:X.calm=true)(S:dD X scope xs ys is)(hi:PI X tg iter wi)
 (hg:∀fp s1 H1 C,PG (bC X (xs++ys) scope (bw X.env ys) fp s1 H1 C) tg g) (ht:∀fp s1 H1 C,FV (bC X (xs++ys) scope (bw X.env ys) fp s1 H1 C) ifs tt) (he:∀fp s1 H1 C,PE (bC X (xs++ys) scope (bw X.env ys) fp s1 H1 C) elt te)
 (hs:∀x,foldedSetIterable iter X.env x=pure x) (I:Inv X aa σ H s) (h:gS wi xs.length g tt te is σ H Q)
 (fin:∀(D C:Addr) (s4:Shared) (H4:Hp) (m:Str->Option Value),Inv X aa σ H4 s4->s4.heap.Ns C m->f7 X aa H4 C->Q (.ref D) H4->compPost (model X.prog X.w) X.A X.xe use QQ (.ref D) C (.ok .next) s4):
 wpAny (model X.prog X.w) X.A (comprehension (.ListComp elt [⟨tg,iter,ifs,0⟩] scope pos) scope X.env pp (newList []) false (eval iter X.env) use) QQ X.xe s:=by
 have Bc:∀x∈scope.names,x.2=.local->scope.names.lookup x.1=some .local:=λx hx hl=>by
  have q:=zzT.mp S.names x hx
  rw [zzt] at q;rcases q with q|q
  ·exact absurd hl (zzY q)
  ·exact zzY q
 refine wpAny_comprehension_free (use:=use) (Q:=QQ) (g:=⟨tg,iter,ifs,0⟩) (gs:=[]) rfl hs S.He S.kind Bc (bD (hi aa s σ H _ I h) λxv s0 h0=>bD h0 λEW s1 h1=>?_)
 obtain⟨it,fp,tn,J,H1,rfl,I1,T,A5,f1,n,W,w0,turn⟩:=h1
 refine wpAny_newObj_type (ox ?_);dsimp only;generalize hH2:s1.heap.push {cls:=.type "list",dict:=none,data:=.seq ([]:List Value).toArray}=G2
 generalize hh₁:pushCells (G2.push {cls:=.type "dict",data:=.dict #[]}) scope.names=h₁
 have Ia:∀b o,(G2.push {cls:=.type "dict",data:=.dict #[]}).get? b=some o->h₁.get? b=some o:=λb o e=>by rw [<-hh₁];exact pushCells_keeps _ _ b o e
 have hns₁:h₁.Ns G2.objs.size λ_=>none:=(Heap.Ns.new G2 (.type "dict")).keeps Ia
 have J4:G2.objs.size=(zz9 s1)+1:=by rw [<-hH2,Heap.size_push]
 have jg:(zz9 s1)<=G2.objs.size:=by rw [J4];exact Nat.le_succ _
 have EU:(zz9 s1)≠G2.objs.size:=by rw [J4];exact zzb (Nat.lt_succ_self _)
 have old:∀b o,s1.heap.get? b=some o->h₁.get? b=some o:=λb o e=>Ia b o (zzB _ (hH2▸zzB _ e))
 have Hn:h₁.get? (zz9 s1)=some (lobj [] 0):=Ia _ _ (zzB _ (hH2▸zzX _ rfl))
 have vA:∀b∈fp,b<(zz9 s1):=λb hb=>by
  obtain⟨o,e,_⟩:=T.obj _ _ A5 b hb
  exact zzO e
 generalize hY:bC X (xs++ys) scope (bw X.env ys) fp s1 H1 G2.objs.size=Y
 have Lp:Y.Ok:=by rw [<-hY];exact rP I1 hc S jg f1 vA
 have Jf:∀b∈fp,(zz9 s1)≠b:=λb hb=>Ne.symm (zzb (vA b hb))
 have F9:∀b,b∈Y.fs->b=X.env.locals\/b∈X.fs:=λb hb=>by
  rw [<-hY] at hb;exact zzm.mp (I1.gj b hb)
 have FK:∀b∈Y.fs,b<(zz9 s1):=λb hb=>by
  rw [<-hY] at hb;obtain⟨_,o,ho,_⟩:=I1.stack.mem hb
  exact zzO ho
 have Gb:(zz9 s1)∉Y.fs:=λz=>Nat.lt_irrefl _ (FK _ z)
 have zR:Y.env.locals=G2.objs.size:=by rw [<-hY];rfl
 have Ff:∀x c,Y.env.cells.lookup x=some c->(X.env.cells.lookup x=some c/\c<(zz9 s1)/\x∈ys)\/((x,NameKind.cell)∈scope.names/\G2.objs.size+1<=c):=λx c e=>by
  rw [<-hY] at e;exact ez I1 S jg e
 have K6:∀x c,Y.env.cells.lookup x=some c->G2.objs.size+1<=c->h₁.IsCell c none:=λx c e hle=>by
  rw [<-hY] at e;have hm:(x,c)∈cellsFrom (G2.objs.size+1) scope.names []:=zG scope.names _ _ (PySem.mem_of_lookup e) λp hp=>by
   unfold bw at hp;obtain⟨y,hy,rfl⟩:=zzx.mp hp
   obtain⟨c',fG⟩:=zzp.mp (zzT.mp S.cells y hy)
   obtain⟨v,q⟩:=I1.cell y c' fG
   dsimp only;rw [fG];exact zzb (zzW q.lt (zzU jg (Nat.le_of_succ_le hle)))
  have ck:=cellsFrom_ok scope.names (G2.push {cls:=.type "dict",data:=.dict #[]}) 0 [] ⟨(λ_ _ z=>nomatch z),.nil⟩ (Nat.zero_le _)
  rw [Heap.size_push,hh₁] at ck;exact(ck.empty x c hm).1
 have Kh:∀x c,Y.env.cells.lookup x=some c->c≠(zz9 s1):=λx c e=>(Ff x c e).elim (λz=>zzb z.2.1) λz=>Ne.symm (zzb (zzV jg z.2))
 have uQ:Y.pn=[]:=by rw [<-hY];rfl
 have Dg:Y.ex=fp:=by rw [<-hY];rfl
 have DC:Y.s₀=s1:=by rw [<-hY];rfl
 have J1:Y.H₀=H1:=by rw [<-hY];rfl
 have Eg:Y.prog=X.prog:=by rw [<-hY];rfl
 have El:Y.w=X.w:=by rw [<-hY];rfl
 have IZ:Y.K=X.K:=by rw [<-hY];rfl
 have G8:Y.A=X.A:=by rw [<-hY];rfl
 have Kx:compEnvC scope (cellsFrom (G2.objs.size+1) scope.names (bw X.env ys)) G2.objs.size X.env=Y.env:=by rw [<-hY];rfl
 have Cz:Y.calm=true:=by rw [<-hY];rfl
 have BE:Y.xe=λ_ _=>False:=by rw [<-hY];rfl
 have DL:Y.fs=df X.stack:=by rw [<-hY];rfl
 have Ec:∀{H':Hp} {s':Shared} {aj:List Value} {k:Nat},s'.heap.get? (zz9 s1)=some (lobj aj k)->H' (zz9 s1)=none->∀p∈[((zz9 s1),lobj aj k)],s'.heap.get? p.1=some p.2/\H' p.1=none/\p.1≠Y.env.locals/\p.1∉Y.fs/\∀v,p.2.data≠.cell v:=
  λ{H' s' aj k} e hn p hp=>by
   obtain rfl:=zzi.mp hp
   exact⟨e,hn,by rw [zR];exact EU,Gb,λv=>rF aj k v⟩
 have F8:∀{H':Hp} {aj:List Value} {k:Nat},(∀b∈fp,H' b=none)->∀b∈fp,f7 Y [((zz9 s1),lobj aj k)] H' b:=λ{H' aj k} hn b hb=>
  ⟨hn b hb,by rw [zR];exact zzb (zzW (vA b hb) jg),λz=>(F9 b z).elim (f1 b hb).2.1 (f1 b hb).2.2.1,.inl (by rw [Dg];exact hb),
   λx c e=>(Ff x c e).elim (λz=>(f1 b hb).2.2.2.2.1 x c z.1) (λz q=>absurd (vA b hb) (Nat.not_lt.mpr (q▸zzU jg (Nat.le_of_succ_le z.2)))),λp hp=>by
    rw [uQ,List.nil_append] at hp;obtain rfl:=zzi.mp hp
    exact Jf b hb⟩
 have DA:H1 (zz9 s1)=none:=I1.aO.fresh (zzE _)
 have I2:∀tk,Inv Y [((zz9 s1),lobj [] 0)] (List.replicate xs.length none++vo σ is) H1 {s1 with heap:=h₁,toks:=tk}:=λtk=>by
  refine⟨Lp,by rw [DC],I1.bare,by rw [DC,J1];exact Un.kept old,⟨_,by rw [zR];exact hns₁,λi x v e1 e2 e3=>?_⟩,λx c e=>?_,?_,λx c e=>(Ff x c e).elim (λz=>I1.dt x c z.1) (λz=>I1.aO.fresh (zzU jg (Nat.le_of_succ_le z.2))),λp hp=>?_,by rw [Eg,El];exact I1.aO.kept old,?_⟩
  ·
   have Gd:Y.N=xs++ys:=by rw [<-hY];rfl
   rw [Gd] at e1
   by_cases cD:i<xs.length
   ·rw [zzr (by rw [List.length_replicate];exact cD),List.getElem?_replicate,if_pos cD] at e2;cases e2
   ·have zi:xs.length<=i:=Nat.not_lt.mp cD
    rw [zzs (by rw [List.length_replicate];exact zi),List.length_replicate] at e2;rw [zzs zi] at e1;obtain⟨i0,h0,h1⟩:=pO S.slots _ x v e1 e2
    have hm:x∈ys:=zzD e1
    have kx:X.env.kindOf x=some .cell:=zzY (zzT.mp S.kX x hm)
    have ky:(relabel scope X.env).names.lookup x=some .cell:=zzY (zzT.mp S.kY x hm)
    obtain⟨m,_,hl⟩:=I1.loc
    obtain⟨u,ru,lk⟩:=hl i0 x v h0 h1 (.inr (.inl kx))
    refine⟨u,ru,.inr ⟨.inl (by rw [<-hY];exact ky),?_⟩⟩;rcases lk with⟨z,_⟩|⟨_,c,hc1,hc2⟩
    ·rw [kx] at z;cases z
    ·obtain⟨c',fG⟩:=fY (env:=X.env) hm
     have EC:=dw S.cells x c' fG
     rw [hc1] at EC;cases EC;refine⟨c,by rw [<-hY];exact(lr _ _ _ λz=>(S.zr z).2 hm).trans fG,?_⟩
     obtain⟨o,ho,hd⟩:=hc2
     exact⟨o,old _ _ ho,hd⟩
  ·rcases Ff x c e with z|z
   ·obtain⟨v,o,ho,hd⟩:=I1.cell x c z.1
    exact⟨v,o,old _ _ ho,hd⟩
   ·exact⟨none,K6 x c e z.2⟩
  ·rw [zR];exact I1.aO.fresh jg
  ·rw [uQ,List.nil_append] at hp;exact Ec (s':={s1 with heap:=h₁,toks:=tk}) Hn DA p hp
  ·have Gd:Y.N=xs++ys:=by rw [<-hY];rfl
   have hl:=congrArg List.length S.slots
   rw [zzl,zzl] at hl;rw [Gd,zzM,zzM,List.length_replicate];unfold vo;rw [zzl,hl]
 have loop:∀s₃:Shared,s₃={s1 with heap:=h₁}->
  codeAny (model X.prog X.w) X.A (.compLoop (.ListComp elt [⟨tg,iter,ifs,0⟩] scope pos) 0 (.ref it) (.ref (zz9 s1)) (compEnvC scope (cellsFrom (G2.objs.size+1) scope.names (bw X.env ys)) G2.objs.size X.env))
   (compPost (model X.prog X.w) X.A X.xe use QQ (.ref (zz9 s1)) G2.objs.size) s₃:=by
  rintro s₃ rfl
  rw [Kx];refine k8 (λk s'=>∃i made σ' H' aj c,Inv Y [((zz9 s1),lobj aj c)] σ' H' s'/\tn i s'.heap/\(∀b∈fp,H' b=none)/\Vals made aj/\k=n-i/\W i made σ' H') ?_ n
   ⟨0,[],_,H1,[],0,I2 _,T.keep _ _ _ A5 λb _ o e=>old b o e,λb hb=>(f1 b hb).1,.nil,rfl,w0⟩
  rintro k s' ⟨i,made,σ',H',aj,c,I3,st3,fr3,rv,rfl,w3⟩
  obtain⟨hz,tw⟩:=turn i made σ' H' w3
  have pD:=I3.pin ((zz9 s1),lobj aj c) (by rw [uQ];exact zzi.mpr rfl)
  rcases tw with⟨stop,hq⟩|⟨go,Kb,step⟩
  ·rw [<-G8];refine bD (T.done Y Eg El IZ Cz i _ s' σ' H' _ I3 (F8 fr3) st3 stop) λr s4 ⟨hr,I4⟩=>?_
   subst hr;obtain⟨m,hn4,_⟩:=I4.loc
   rw [zR] at hn4;have HN:=I4.pin ((zz9 s1),lobj aj c) (by rw [uQ];exact zzi.mpr rfl)
   have kp:∀b o,b≠G2.objs.size->s4.heap.get? b=some o->s4.heap.get? b=some o:=λb o hb e=>e
   have Hz:∀{b o},s1.heap.get? b=some o->b≠G2.objs.size:=λ{b o} e=>zzb (zzW (zzO e) jg)
   have dI:=I4.base
   rw [DC,J1,Dg,DL] at dI;have Gj:∀{b o},H1 b=some o->b≠(zz9 s1):=λ{b o} e=>zzb (I1.aO.lt e)
   have u:Un (df X.stack) fp H1 (upd H' (zz9 s1) (.lst made)) s1.heap s4.heap:=by
    refine⟨λb o e n hb hx=>kp b o (Hz e) (dI.keep b o e n hb hx),λb o e n hb hx=>?_,λb o e n hx=>?_,λb o e hx=>?_,λb xs e=>?_,λb o u e=>?_,λb ps e=>?_⟩
    ·obtain⟨sl,q⟩:=dI.slot b o e n hb hx
     exact⟨sl,kp b _ (Hz e) q⟩
    ·rw [af (zzb (zzO e))];exact dI.free b o e n hx
    ·obtain⟨o',q⟩:=dI.there b o e hx
     exact⟨o',kp b _ (Hz e) q⟩
    ·rw [af (Gj e)];exact dI.d9 b xs e
    ·rw [af (Gj e)];exact dI.dA b o u e
    ·obtain⟨more,q⟩:=dI.dX b ps e
     exact⟨more,by rw [af (Gj e)];exact q⟩
   have JV:H' G2.objs.size=none:=by rw [<-zR];exact I4.free
   have wm:dF X.prog X.w (upd H' (zz9 s1) (.lst made)) s4.heap:=λb o e=>by
    by_cases hb:b=(zz9 s1)
    ·subst hb;rw [aq] at e;cases e;exact⟨Nat.le_of_lt hz,aj,c,rv,kp _ _ EU HN.1⟩
    ·rw [af hb] at e;have x4:=I4.aO b o e
     rw [Eg,El] at x4;have zL:∀b' u,H' b'=some u->b'≠G2.objs.size:=λb' u q z=>by rw [z,JV] at q;cases q
     have Jy:∀b' u,H' b'=some u->b'≠(zz9 s1):=λb' u q z=>by rw [z,HN.2.1] at q;cases q
     refine x4.cU (λb' u g6 q=>kp b' u ?_ q) (λb' q=>?_) λb' xs q=>?_
     ·rcases g6 with z|z
      ·rw [z];exact zL b o e
      ·exact zL b' _ z
     ·rw [af (Jy b' _ q)];exact q
     ·rw [af (Jy b' _ q)];exact q
   have I5:Inv X aa σ (upd H' (zz9 s1) (.lst made)) s4:=I1.DV (by show s4.os=s1.os;rw [I4.os,DC]) u wm I4.bare λb hb=>⟨(f1 b hb).2.2.2.1,(f1 b hb).2.1,(f1 b hb).2.2.2.2.1,(f1 b hb).2.2.2.2.2⟩
   dsimp only;rw [G8];exact fin (zz9 s1) G2.objs.size s4 _ m I5 hn4 (I1.kM jg (by rw [af (Ne.symm EU)];exact JV)) (hq _ HN.2.1)
  ·rw [<-G8];refine bD (T.item Y Eg El IZ Cz i _ s' σ' H' _ I3 (F8 fr3) st3 go) λr s4 ⟨u,hr,h4⟩=>?_
   subst hr;dsimp only;refine bD h4 λ_ s5 ⟨x,H5,I5,r5,y5,st5,fr5⟩=>?_
   have GG:=I5.pinned (F8 fr5) (T.obj _ _ st5)
   have JM:=hg fp s1 H1 G2.objs.size
   have JB:=he fp s1 H1 G2.objs.size
   have IJ:=ht fp s1 H1 G2.objs.size
   rw [hY] at JM JB IJ;rw [<-Eg,<-El];refine wpAny_mono (JM _ s5 σ' H5 x u _ GG r5 (step x H5 y5)) (λ_ s6 ⟨σ6,H6,I6,q6⟩=>?_) (λ_ _ f=>by rw [BE] at f;exact f.elim);refine wpAny_mono (IJ _ s6 σ6 H6 _ I6 q6) (λokb sT ⟨HT,IT,qT⟩=>?_) (λ_ _ f=>by rw [BE] at f;exact f.elim);have LD:=IT.pin ((zz9 s1),lobj aj c) (zzR _ (zzc _ (zzi.mpr rfl)))
   have KI:tn (i+1) sT.heap:=T.keep _ _ _ st5 λb hb o e=>(IT.pin (b,o) (zzR _ (zzR _ (cq hb e)))).1
   cases okb with
   |false=>
    refine⟨n-(i+1),by omega,i+1,made,σ6,HT,aj,c,IT.fN,KI,λb hb=>?_,rv,rfl,qT⟩
    obtain⟨o,e,d⟩:=T.obj _ _ st5 b hb
    exact(IT.pin (b,o) (zzR _ (zzR _ (cq hb e)))).2.1
   |true=>
   refine wpAny_mono (JB _ sT σ6 HT _ IT qT) (λv s7 ⟨y,H7,I7,r7,q7⟩=>?_) (λ_ _ f=>by rw [BE] at f;exact f.elim);have HL:=I7.pin ((zz9 s1),lobj aj c) (zzR _ (zzc _ (zzi.mpr rfl)))
   have e7:s7.heap.get? (zz9 s1)=some {cls:=.type "list",data:=.seq aj.toArray c}:=HL.1
   refine append_at (hsz:=by rw [zzC,<-rv.length];exact Nat.le_of_lt hz) e7 λh' vI K0=>?_
   have I8:Inv Y [] σ6 H7 s7:=I7.g9 λ_ z=>nomatch z
   have I9:Inv Y [] σ6 H7 {s7 with heap:=h'}:=I8.turned (t':=s7.toks) (it:=(zz9 s1)) (λb o hb e=>vI.extBut b o hb e) HL.2.1 (by rw [zR];exact EU) (.inr (by rw [DC];exact zzE _))
    (λx c' e=>Kh x c' e) (λp hp=>by rw [uQ] at hp;cases hp)
   have eD:h'.get? (zz9 s1)=some (lobj (aj++[v]) (c+1)):=by rw [K0,List.push_toArray]
   have Lz:tn (i+1) s7.heap:=T.keep _ _ _ st5 λb hb o e=>(I7.pin (b,o) (zzR _ (zzR _ (cq hb e)))).1
   refine⟨n-(i+1),by omega,i+1,made++[y],σ6,H7,aj++[v],c+1,I9.g9 (Ec (s':={s7 with heap:=h'}) eD HL.2.1),T.keep _ _ _ Lz λb hb o e=>vI.extBut b o (Ne.symm (Jf b hb)) e,λb hb=>?_,rv.append (.cons r7 .nil),rfl,q7⟩
   obtain⟨o,e,d⟩:=T.obj _ _ st5 b hb
   exact(I7.pin (b,o) (zzR _ (zzR _ (cq hb e)))).2.1
 exact codeAny_compStart_list (loop _ rfl) (T.self _ 0 _ _ _ (T.keep _ _ _ A5 λb _ o e=>old b o e) (loop _ rfl))
def xM{elt tg iter:Expr}{pos:Pos}{wi:TI}{g:TG}{te:TE}(hc:X.calm=true)(S:dD X scope xs ys is)(hi:PI X tg iter wi)
 (hg:∀fp s1 H1 C,PG (bC X (xs++ys) scope (bw X.env ys) fp s1 H1 C) tg g) (he:∀fp s1 H1 C,PE (bC X (xs++ys) scope (bw X.env ys) fp s1 H1 C) elt te)
 (hs:∀x,foldedSetIterable iter X.env x=pure x:=by intro _;rfl):
 PE X (.ListComp elt [⟨tg,iter,[],0⟩] scope pos) (sR wi xs.length g te is):=by
 intro aa s σ H Q I h;rw [eval_ListComp];exact eW (use:=none) (Q:=Q) hc S hi hg (λ_ _ _ _=>p6) he hs I h (λD C s4 H4 m I5 hn ⟨g0,g1,_,g3,g4,g5⟩ q=>⟨m,hn,λh' vI=>⟨.ref D,H4,I5.turned (t':=s4.toks) (it:=C) (λb o hb e=>vI.extBut b o hb e) g0 g1 g3 g4 g5,rfl,q⟩⟩)
def rB{elt tg iter Ag:Expr}{pos:Pos}{wi:TI}{g:TG}{te:TE}{tt:TT}(hc:X.calm=true)(S:dD X scope xs ys is)(hi:PI X tg iter wi)
 (hg:∀fp s1 H1 C,PG (bC X (xs++ys) scope (bw X.env ys) fp s1 H1 C) tg g) (ht:∀fp s1 H1 C,PT (bC X (xs++ys) scope (bw X.env ys) fp s1 H1 C) Ag tt) (he:∀fp s1 H1 C,PE (bC X (xs++ys) scope (bw X.env ys) fp s1 H1 C) elt te)
 (hs:∀x,foldedSetIterable iter X.env x=pure x:=by intro _;rfl):
 PE X (.ListComp elt [⟨tg,iter,[Ag],0⟩] scope pos) (gS wi xs.length g tt te is):=by
 intro aa s σ H Q I h;rw [eval_ListComp];exact eW (use:=none) (Q:=Q) hc S hi hg (λfp s1 H1 C=>p5 (ht fp s1 H1 C)) he hs I h (λD C s4 H4 m I5 hn ⟨g0,g1,_,g3,g4,g5⟩ q=>⟨m,hn,λh' vI=>⟨.ref D,H4,I5.turned (t':=s4.toks) (it:=C) (λb o hb e=>vI.extBut b o hb e) g0 g1 g3 g4 g5,rfl,q⟩⟩)
end
def bq{H:Hp}{p:Addr}{o:HO}(h:H p=none):av H (upd H p o):=λb u e=>by rw [af (bh e h)];exact e
section
end
end L2
namespace HT
open PySem PyProof.Rows
def fh{prog:Program}{w:World}{A:Around}{s:Shared}{E:Value->Shared->Prop}{t sl:Addr}{items:Array Value}{vl vu:Value}{lo hi:Option Int}{Q:Value->Shared->Prop}(ht:IsTup s.heap t items)(hs:s.heap.IsSliceOf sl vl vu .none)(pl:IsPart vl lo)(pu:IsPart vu hi)
 (hw:cj items.size 0 lo=0/\cj items.size items.size hi=items.size) (h:Q (.ref t) s):wpAny (model prog w) A (getItem (.ref t) (.ref sl)) Q E s:=by
 obtain⟨os,hos,uY,hds⟩:=id hs
 have Gv:s.TypeIs (.ref sl) "slice":=⟨os,hos,uY⟩
 unfold getItem
 try with_reducible refine wpAny_holding ?_
 first|refine zzA (zzG ?_)|skip
 refine zzA (wpAny_sequenceKey ht.typeIs (by decide) ?_);refine zzA (wpAny_callSpecial?_slot (name:=Str.ofString "__getitem__") ht.typeIs PyProof.Rows.slot_tuple_getitem
  (wpAny_call_entry PyProof.Rows.slot_tuple_getitem ht.typeIs entry_tuple_getitem ?_ (args_tuple_getitem _ _)))
 show wpAny _ _ (Builtin.Tuple.tupleItemsOf (.ref t)>>=_) _ _ s
 refine zzA (tupleItemsOf_ ht ?_);refine zzA (wpAny_typeOf Gv ?_);rw [if_pos (by decide)];refine zzA (dH hs pl pu ?_);have AL:(((cj items.size 0 lo:Nat):Int)==0&&(1:Int)==1&&(cj items.size items.size hi-cj items.size 0 lo)==items.size)=true:=by
  rw [hw.1,hw.2];simp
 show wpAny _ _ (if(((cj items.size 0 lo:Nat):Int)==0&&(1:Int)==1&&(cj items.size items.size hi-cj items.size 0 lo)==items.size)=true then _ else _) _ _ s
 rw [if_pos AL];refine zzA (zzA (wpAny_typeOf ht.typeIs ?_));refine zzG ?_;rw [if_pos (by decide)]
 first
  |exact zzA (wpAny_rule (zzG ⟨_,rfl,zzG h⟩))
  |exact wpAny_rule (zzG ⟨_,rfl,zzG h⟩)
  |exact zzA (wpAny_rule (zzA (zzG ⟨_,rfl,zzG h⟩)))
end HT
namespace L2
open PySem PySem.Spec PyProof.Rows
variable{X:Cx}
def xb:wF X (λx lo hi H Q=>∃a xs,x=.ref a/\eg X.K H a xs/\(HT.cj xs.length 0 lo=0/\HT.cj xs.length xs.length hi=xs.length)/\Q x H):=by
 intro aa s σ H x v vl vu lo hi sl Q I rx hs pl pu h;obtain⟨a,xs,rfl,hx,hw,q⟩:=h
 cases rx;obtain⟨aj,r,ht,hz⟩:=I.tuple hx
 have hlen:aj.toArray.size=xs.length:=by rw [zzC];exact r.length.symm
 refine⟨"tuple",_,PyProof.Rows.slot_tuple_getitem.lookup,ht.typeIs,?_⟩;exact HT.fh ht hs pl pu (by rw [hlen];exact hw) ⟨.ref a,H,I,rfl,q⟩
open PySem.W (hideAll hideAll_get of_hideAll funFrames_hide)
structure sD(P:Program)(w:World)(outer:List Env)(H:Hp)(s:Shared)(E:XK)(a C t:Addr)(vs:List Value)(H':Hp)(B:Heap)(s':Shared):Prop where
 os:s'.os=s.os
 bare:AllBare s'.gens
 aO:dF P w H' B
 rJ:Heap.FlyingW B outer a (.ref C) (.ref t) s'.heap
 tn:B.get? t=none
 tup:s'.heap.TupAt t vs
 cR:∀b o,s.heap.get? b=some o->H b=none->b∉df outer->B.get? b=some o
 bT:∀b o,s.heap.get? b=some o->b∉df outer->∃o',B.get? b=some o'
 un:Un (df outer) [] H H' s.heap s'.heap
 ends:E (.ref C) (some a) H'
noncomputable def cS(P:Program)(w:World):rX:=λouter H s E e s'=>∃a C t vs H' B,e=.ref a/\sD P w outer H s E a C t vs H' B s'
section
variable{P:Program}{w:World}{K:zz8}{mg:Str->Option Value}{base:Heap}{N:List Str}{qual:Str}{scope:Scope}{f:Addr}{cd:Value}{A:Around}{outer:List Env}{s0:Shared}{H0:Hp}{E:XK}
def gD{X:Cx}{aa:List (Addr×Obj)}{σ:St}{H:Hp}{s:Shared}(I:Inv X aa σ H s){b:Addr}{o:Obj}(hl:X.env.locals=X.s₀.heap.objs.size)(q:X.s₀.heap.get? b=some o)(hb:b∉X.fs):b∉df X.stack:=λz=>by
 rcases zzm.mp (I.gj b z) with e|e
 ·rw [hl] at e;exact absurd (zzO q) (by rw [e];exact Nat.lt_irrefl _)
 ·exact hb e
def DD:Passes (cS P w) (cO (cS P w) P w K mg base N qual scope f cd A outer s0 H0 E) E:=by
 rintro aa σ H s e s' I ⟨a,C,t,vs,H',B,rfl,F⟩
 have nx:∀b:Addr,b∉(cO (cS P w) P w K mg base N qual scope f cd A outer s0 H0 E).ex:=λb z=>nomatch (show b∈([]:List Addr) from z)
 have cR:∀b o,s0.heap.get? b=some o->H0 b=none->b∉df outer->B.get? b=some o:=λb o q n hb=>
  F.cR b o (I.base.keep b o q n hb (nx b)) (I.base.free b o q n (nx b)) (gD I rfl q hb)
 have bT:∀b o,s0.heap.get? b=some o->b∉df outer->∃o',B.get? b=some o':=λb o q hb=>by
  obtain⟨o1,q1⟩:=I.base.there b o q (nx b)
  exact F.bT b o1 q1 (gD I rfl q hb)
 refine wpAny_leaves_onW I.ok.frames rfl F.rJ λh' x1 x2=>⟨a,C,t,vs,H',B,rfl,?_⟩
 have slot:∀b o,s0.heap.get? b=some o->H0 b=none->b∈df outer->∃sl,h'.get? b=some {o with slots:=sl}:=λb o q n hb=>by
  obtain⟨sl,q1⟩:=I.base.slot b o q n hb (nx b)
  obtain⟨sl2,q2⟩:=F.un.any q1 (I.base.free b o q n (nx b)) (λz=>nomatch z)
  obtain⟨_,o',q3,hd⟩:=F.rJ.2.2.1.mem (b:=b) (zz1.mpr (let⟨v,h1,h2⟩:=zz1.mp hb;⟨v,.tail _ h1,h2⟩))
  rw [q2] at q3;cases q3;obtain⟨sl3,q4⟩:=x2 b _ q2 hd
  exact⟨sl3,q4⟩
 refine⟨F.os.trans I.os,F.bare,F.aO,x1,F.tn,F.tup.of_slots x2,cR,bT,⟨λb o q n hb _=>x1.1 _ _ (cR b o q n hb),λb o q n hb _=>slot b o q n hb,λb o q n _=>?_,λb o q _=>?_,λb xs q=>F.un.d9 _ _ (I.base.d9 _ _ q),λb o u q=>F.un.dA _ _ _ (I.base.dA _ _ _ q),λb ps q=>?_⟩,F.ends⟩
 ·obtain⟨sl,q1⟩:=I.base.any q n (nx b)
  exact F.un.free b _ q1 (I.base.free b o q n (nx b)) (λz=>nomatch z)
 ·by_cases hb:b∈df outer
  ·obtain⟨sl,q1⟩:=slot b o q (I.ok.qm b hb) hb
   exact⟨_,q1⟩
  ·obtain⟨o',q1⟩:=bT b o q hb
   exact⟨o',x1.1 _ _ q1⟩
 ·obtain⟨m1,q1⟩:=I.base.dX b ps q
  obtain⟨m2,q2⟩:=F.un.dX b _ q1
  exact⟨m1++m2,by rw [<-Array.append_assoc];exact q2⟩
def Bo{aa:List (Addr×Obj)}{σ:St}{H:Hp}{s:Shared}{h1:Heap}{e C:Addr}{us:List Value}(I:Inv (cO (cS P w) P w K mg base N qual scope f cd A outer s0 H0 E) aa σ H s)
 (hx:Heap.MadeExcOf s.heap h1 e (.ref C) us) (hE:E (.ref C) (some e) H):(cO (cS P w) P w K mg base N qual scope f cd A outer s0 H0 E).xe (.ref e) {s with heap:=h1}:=by
 have nx:∀b:Addr,b∉(cO (cS P w) P w K mg base N qual scope f cd A outer s0 H0 E).ex:=λb z=>nomatch (show b∈([]:List Addr) from z)
 have Kb:∀env∈(cO (cS P w) P w K mg base N qual scope f cd A outer s0 H0 E).stack,∀b,env.frame=some b->b∈df (cO (cS P w) P w K mg base N qual scope f cd A outer s0 H0 E).stack:=λenv he b hb=>zz1.mpr ⟨env,he,hb⟩
 refine wpAny_leaves_madeW (h:=s.heap) I.ok.frames rfl (λb o q=>of_hideAll _ q) (funFrames_hide I.stack Kb) hx λh' t x1 x2 x3 x4=>⟨e,C,t,us,H,hideAll s.heap (df (cO (cS P w) P w K mg base N qual scope f cd A outer s0 H0 E).stack),rfl,?_⟩
 have cR:∀b o,s0.heap.get? b=some o->H0 b=none->b∉df outer->(hideAll s.heap (df (cO (cS P w) P w K mg base N qual scope f cd A outer s0 H0 E).stack)).get? b=some o:=λb o q n hb=>
  hideAll_get _ (I.base.keep b o q n hb (nx b)) (gD I rfl q hb)
 have bT:∀b o,s0.heap.get? b=some o->b∉df outer->∃o',(hideAll s.heap (df (cO (cS P w) P w K mg base N qual scope f cd A outer s0 H0 E).stack)).get? b=some o':=λb o q hb=>by
  obtain⟨o1,q1⟩:=I.base.there b o q (nx b)
  exact⟨o1,hideAll_get _ q1 (gD I rfl q hb)⟩
 have slot:∀b o,s0.heap.get? b=some o->H0 b=none->b∈df outer->∃sl,h'.get? b=some {o with slots:=sl}:=λb o q n hb=>by
  obtain⟨sl,q1⟩:=I.base.slot b o q n hb (nx b)
  obtain⟨_,o',q3,hd⟩:=I.stack.mem (b:=b) (zz1.mpr (let⟨v,h1,h2⟩:=zz1.mp hb;⟨v,.tail _ h1,h2⟩))
  rw [q1] at q3;cases q3;obtain⟨sl3,q4⟩:=x4 b _ (hx.keeps _ _ q1) hd
  exact⟨sl3,q4⟩
 refine⟨I.os,I.bare,λb o q=>?_,x1,x3,x2,cR,bT,⟨λb o q n hb _=>x1.1 _ _ (cR b o q n hb),λb o q n hb _=>slot b o q n hb,λb o q n _=>I.base.free b o q n (nx b),λb o q _=>?_,I.base.d9,I.base.dA,I.base.dX⟩,hE⟩
 ·refine(I.aO b o q).cU (λc v hc r=>hideAll_get _ r λz=>?_) (λ_ q=>q) λ_ _ q=>q
  have z':=I.gV c z
  rcases hc with rfl|hc
  ·rw [q] at z';cases z'
  ·rw [hc] at z';cases z'
 ·by_cases hb:b∈df outer
  ·obtain⟨sl,q1⟩:=slot b o q (I.ok.qm b hb) hb
   exact⟨_,q1⟩
  ·obtain⟨o',q1⟩:=bT b o q hb
   exact⟨o',x1.1 _ _ q1⟩
end
def gI{P:Program}{w:World}{H:Hp}{h:Heap}{a:Addr}{o:HO}(x:bS P w H h a o):∃o',h.get? a=some o':=by
 cases o with
 |lst xs=>obtain⟨_,_,_,_,e⟩:=x;exact⟨_,e⟩
 |tup xs=>obtain⟨_,_,_,o,e,_⟩:=x;exact⟨_,e⟩
 |dK bo=>obtain⟨_,_,_,_,o,_,_,e,_⟩:=x;exact⟨_,e⟩
 |dT bo=>obtain⟨_,_,_,_,o,_,_,e,_⟩:=x;exact⟨_,e⟩
 |set S n=>obtain⟨o,_,_,_,e,_⟩:=x;exact⟨_,e⟩
 |ins C dx fs=>obtain⟨_,_,_,e,_⟩:=x;exact⟨_,e⟩
 |own y=>exact x
 |xd fs=>obtain⟨_,⟨_,_,_,e,_⟩,_⟩:=x;exact⟨_,e⟩
 |nj lo hi=>obtain⟨_,_,_,e⟩:=x;exact⟨_,e⟩
 |bI ob u=>obtain⟨e,_⟩:=x;exact⟨_,e⟩
 |ei ps=>exact⟨_,x⟩
 |met f y=>exact⟨_,x⟩
 |ext φ=>exact x.2.1
noncomputable def Bz(C:Addr)(E:XK)(ta:TA):TS:=λ_ σ H=>ta σ H λvs H1=>vs.length<=sizeLine/\∀e,H1 e=none->E (.ref C) (some e) H1
section
variable{P:Program}{w:World}{K:zz8}{mg:Str->Option Value}{base:Heap}{N:List Str}{qual:Str}{scope:Scope}{f:Addr}{cd:Value}{A:Around}{outer:List Env}{s0:Shared}{H0:Hp}{E:XK}
theorem t8{x:Str}{C:Addr}{Bn newId AF:String}{bm:List Value}{e₀:Expr}{rest:List Expr}{np bY pos:Pos}{ta:TA}(hg:Gl (cO (cS P w) P w K mg base N qual scope f cd A outer s0 H0 E) x)(O:OwnCls x C bm newId mg base)(FB:ExcBaseFacts Bn newId AF bm)
 (ha:PA (cO (cS P w) P w K mg base N qual scope f cd A outer s0 H0 E) (e₀::rest) ta)
 (he:starEach (e₀::rest) (cO (cS P w) P w K mg base N qual scope f cd A outer s0 H0 E).env=(false,eval e₀ (cO (cS P w) P w K mg base N qual scope f cd A outer s0 H0 E).env)::starEach rest (cO (cS P w) P w K mg base N qual scope f cd A outer s0 H0 E).env:=by rfl)
 (gn:(backTo bY (starEach rest (cO (cS P w) P w K mg base N qual scope f cd A outer s0 H0 E).env)).any (·.1)=false:=by rfl) (hd:(x==("__debug__":Str))=false:=by decide) (hA:A.handled.isNone=true):
 PS (cO (cS P w) P w K mg base N qual scope f cd A outer s0 H0 E) (.Raise (some (.Call (.Name x np) (e₀::rest) [] bY)) none pos) (Bz C E ta):=by
 intro aa s σ H D I h;obtain⟨tl,Nn,nm,q,bs,hdct,sn,sub,ab,col,dd,k0,k1,k2,k3,k5,mN,hC,hN,hni,T⟩:=O.obj
 refine wpAny_Raise_call_subT (C:=C) (nm:=nm) (q:=q) (N:=Nn) (bs:=bs) (bm:=tl) (hdct:=hdct) (sn:=sn) (sub:=sub) (ab:=ab) (col:=col) (dd:=dd) (k0:=k0) (k1:=k1) (k2:=k2) (k3:=k3) (k5:=k5)
  FB (mN:=mN) (T.hasType FB.hasBase) (I.ok.hd hA) (by rw [he];show(false||(backTo bY (starEach rest (cO (cS P w) P w K mg base N qual scope f cd A outer s0 H0 E).env)).any (·.1))=false;rw [gn];rfl) hni (dq I hg O.bound ⟨rfl,?_⟩ hd)
 have h2:=ha bY aa s σ H _ I h
 rw [he] at h2⊢;refine Calls.evalArgs_plain (wpAny_mono h2 (λus s2 ⟨vs,H1,I1,rv,hl,hE⟩=>?_) λ_ _ y=>y)
 refine⟨rfl,by rw [<-rv.length];exact hl,I1.bk _ _ hC,hN.keeps I1.bk,T.keeps I1.bk,λh1 e hx=>Bo I1 hx (hE e ?_)⟩
 cases z:H1 e with
 |none=>rfl
 |some o=>
  obtain⟨o',hJ⟩:∃o',s2.heap.get? e=some o':=by
   exact gI (I1.aO _ _ z)
  rw [hx.new] at hJ;cases hJ
end
noncomputable def eL(a C:Addr):HO:=.ext λh=>∃ob vs,h.get? a=some ob/\ob.cls=.ref C/\ob.data=.fields vs
section
variable{P:Program}{w:World}
def sD.fresh{outer:List Env}{H:Hp}{s s':Shared}{E:XK}{a C t:Addr}{vs:List Value}{H':Hp}{B:Heap}(F:sD P w outer H s E a C t vs H' B s'):H' a=none:=by
 cases z:H' a with
 |none=>rfl
 |some o=>
  obtain⟨o',hJ⟩:=gI (F.aO _ _ z)
  rw [F.rJ.2.1] at hJ;cases hJ
def Inv.sS{X:Cx}{aa:List (Addr×Obj)}{σ:St}{H:Hp}{s s':Shared}{E:XK}{a C t:Addr}{vs:List Value}{H':Hp}{B h6:Heap}{tk:Nat}(I:Inv X aa σ H s)(F:sD X.prog X.w X.stack H s E a C t vs H' B s')
 (hf:Heap.FlyingW B X.stack a (.ref C) (.ref t) h6) (hs:s'.heap.UpToSlots h6):Inv X aa σ (upd H' a (eL a C)) {s' with heap:=h6,toks:=tk}:=by
 have ha:=F.fresh
 obtain⟨oa,va,ea,ca,da,_⟩:=hf.first
 have frame:∀b,b∈df X.stack->∃o,h6.get? b=some o/\∀vs,o.data≠.fields vs:=λb hb=>(hf.2.2.1.mem hb).2
 have ne:∀b o,s.heap.get? b=some o->b≠a:=λb o q z=>by
  subst z
  by_cases hb:b∈df X.stack
  ·obtain⟨o',q',hd⟩:=frame b hb
   rw [ea] at q';cases q';exact hd _ da
  ·obtain⟨o',q'⟩:=F.bT b o q hb
   rw [F.rJ.2.1] at q';cases q'
 have slot:∀b o,s.heap.get? b=some o->H b=none->b∈df X.stack->∃sl,h6.get? b=some {o with slots:=sl}:=λb o q n hb=>by
  obtain⟨sl2,q2⟩:=F.un.any q n (λz=>nomatch z)
  obtain⟨_,o',q3,hd⟩:=F.rJ.2.2.1.mem (b:=b) hb
  rw [q2] at q3;cases q3;obtain⟨sl3,q4⟩:=hs b _ q2 hd
  exact⟨sl3,q4⟩
 have un:Un (df X.stack) [] H (upd H' a (eL a C)) s.heap h6:=by
  refine⟨λb o q n hb _=>hf.1 _ _ (F.cR b o q n hb),λb o q n hb _=>slot b o q n hb,λb o q n _=>?_,λb o q _=>?_,λb xs q=>?_,λb o u q=>?_,λb ps q=>?_⟩
  ·rw [af (ne b o q)];exact F.un.free b o q n (λz=>nomatch z)
  ·by_cases hb:b∈df X.stack
   ·obtain⟨o',q',_⟩:=frame b hb
    exact⟨o',q'⟩
   ·obtain⟨o',q1⟩:=F.bT b o q hb
    exact⟨o',hf.1 _ _ q1⟩
  ·have q1:=F.un.d9 b xs q
   rw [af (bh q1 ha)];exact q1
  ·have q1:=F.un.dA b o u q
   rw [af (bh q1 ha)];exact q1
  ·obtain⟨m,q1⟩:=F.un.dX b ps q
   exact⟨m,by rw [af (bh q1 ha)];exact q1⟩
 have aO:dF X.prog X.w (upd H' a (eL a C)) h6:=λb o q=>by
  by_cases hb:b=a
  ·subst hb;rw [aq] at q;cases q;exact⟨⟨oa,va,ea,ca,da⟩,⟨oa,ea⟩,λh1 h2 ⟨ob,vs,e1,e2,e3⟩ k=>⟨ob,vs,k _ e1,e2,e3⟩⟩
  ·rw [af hb] at q;exact(F.aO b o q).cU (λc v hc r=>hf.1 _ _ r) (λc r=>by rw [af (bh r ha)];exact r) λc xs r=>by rw [af (bh r ha)];exact r
 obtain⟨hh,g,d,tt,os'⟩:=s'
 obtain rfl:os'=s.os:=F.os
 have fin:=I.call (h':=h6) (g':=g) (d':=d) (t':=tk) (ch:=[]) un aO F.bare (λb z=>absurd z (by simp))
 exact fin
end
end L2
namespace Cw
open PySem L2
noncomputable def sgn(c:Nat):Bool:=c==35||(48<=c&&c<=57)
noncomputable def K5:V->Bool
 |.str z=>decide (1<=z.cps.toList.length)&&decide (z.cps.toList.length<=12)&&z.cps.toList.all sgn
 |_=>false
noncomputable def D4:V->Nat
 |.str z=>z.cps.toList.length
 |_=>0
section
variable{K:zz8}
abbrev vB(K:zz8)(t n:String)(b:Bool):Prop:=PySem.W.kitOne K (.type t) (.type n)=some b
def t9{K:zz8}(t:String):vB K t t true:=by unfold vB PySem.W.kitOne;rw [if_pos (by simp)]
def sV{t n:String}{b:Bool}(h0:(Value.type t==Value.type n)=false)(h1:PySem.W.kitMeta n=true)(h2:(fastBuiltinMro t).map (·.contains (Value.type n))=some b):vB K t n b:=by
 unfold vB PySem.W.kitOne;rw [if_neg (by rw [h0];exact zzf)];show(if PySem.W.kitMeta n=true then PySem.W.subIn K (.type t) (.type n) else none)=some b
 rw [if_pos h1];exact h2
end
abbrev IB:Str:="#0123456789"
end Cw
namespace L2
open PySem PySem.Spec PyProof.Rows
structure jc(K:zz8)(C:Addr):Prop where
 ga:PySem.W.findIn K (.ref C) "__getattribute__"=some (some (.builtin "BaseException.__getattribute__"))
 hk:PySem.W.findIn K (.ref C) "__getattr__"=some none
 cl:PySem.W.findIn K (.ref C) "__class__"=some (some (.builtin "object.__class__"))
 mo:PySem.W.mroIn K C (.type "object")=some true
 mb:PySem.W.mroIn K C (.type "BaseException")=some true
 is:(PySem.W.clsIn K C).isSome=true
section
variable{prog:Program}{w:World}{A:Around}{E:Value->Shared->Prop}{h:Heap}{g:Array GenState}{d:Drawn}{t:Nat}{os:OsState}{x C:Addr}{o:Obj}{K:zz8}
def Bb{R:Result->Shared->Prop}(X:K.In h)(Z:jc K C)(hx:h.get? x=some o)(hc:o.cls=.ref C)(hq:R (.ok (.ret (.ref C))) ⟨h,g,d,t,os⟩):
 codeAny (model prog w) A (.call (.builtin "getset_descriptor.__get__") ⟨[.builtin "object.__class__",.ref x,.ref C],[]⟩) R ⟨h,g,d,t,os⟩:=by
 have hY:(⟨h,g,d,t,os⟩:Shared).TypeIs (.builtin "object.__class__") "getset_descriptor":=F.typeOf_object_class
 have LM:PySem.W.Looks (model prog w) h (isSubtype (.ref C) (.type (".".intercalate ("object.__class__".cutAt '.').dropLast))) true:=by
  rw [F.owner_object_class];exact PySem.W.looks_mroIn X Z.mo
 refine codeAny_call_builtin F.slot_gs_get.plain F.entry_gs_get (F.slot_gs_get.check _ _ _ _ _ _ _ _ hY (F.args_gs_get _ _ _) ?_)
 repeat (any_goals (first|assumption|(with_reducible refine wpAny_loadPart_at hx ?_;rw [hc])|(with_reducible refine LM.at ?_)|wp_step))
 refine⟨Code.quiet_builtin _ (show _ by decide+kernel),codeAny_builtin F.entry_object_class ?_⟩
 repeat (any_goals (first|assumption|(with_reducible refine wpAny_loadPart_at hx ?_;rw [hc])|wp_step))
def uT{tk:Tok}{Q:Fin->Shared->Prop}(X:K.In h)(Z:jc K C)(hx:h.get? x=some o)(hc:o.cls=.ref C)(hq:Q (.done (.ret (.ref C))) ⟨h,g,d,t,os⟩):
 wpAny (model prog w) A (Builtin.«object.__getattribute__» ⟨[.ref x,.str "__class__" tk],[]⟩) Q E ⟨h,g,d,t,os⟩:=by
 have hY:(⟨h,g,d,t,os⟩:Shared).TypeIs (.builtin "object.__class__") "getset_descriptor":=F.typeOf_object_class
 have y5:=F.typeOf_object_class
 have y6:=F.slot_gs_get.lookup
 have y7:=F.slot_gs_set.lookup
 have LC:=PySem.W.looks_findIn (M:=model prog w) X Z.cl
 repeat (any_goals (first|assumption|(with_reducible refine wpAny_loadPart_at hx ?_;rw [hc])|(with_reducible refine LC.at ?_)|wp_step))
 refine Bb X Z hx hc ?_
 repeat (any_goals (first|assumption|wp_step))
def uA{M:Model}{yE:Value}{Q:Unit->Shared->Prop}(X:K.In h)(Z:jc K C)(hx:h.get? x=some o)(hc:o.cls=.ref C)(hq:Q () ⟨h,g,d,t,os⟩):
 wpAny M A (checkBuiltinCall "BaseException.__getattribute__" ⟨[.ref x,yE],[]⟩) Q E ⟨h,g,d,t,os⟩:=by
 have h1:builtinKind "BaseException.__getattribute__"=some .slot:=by decide+kernel
 have h2:splitId "BaseException.__getattribute__"=some ("BaseException","__getattribute__"):=by decide+kernel
 have LB:=PySem.W.looks_mroIn (M:=M) X Z.mb
 have h3:=F.args_bexc_ga (.ref x) yE
 simp! [checkBuiltinCall,h1,h2];refine zzA ?_;unfold isInstance
 repeat (first|(with_reducible refine wpAny_loadPart_at hx ?_;rw [hc])|(with_reducible refine LB.at ?_)|wp_step)
 exact hq
def Em{tk:Tok}{Q:Value->Shared->Prop}(X:K.In h)(Z:jc K C)(hx:h.get? x=some o)(hc:o.cls=.ref C)(hq:Q (.ref C) ⟨h,g,d,t,os⟩):
 wpAny (model prog w) A (getAttrBy (.ref x) (.str "__class__" tk) false) Q E ⟨h,g,d,t,os⟩:=by
 have y3:=F.excAttr_ValueError.ga.bind (.ref x)
 have y4:(Value.builtin "BaseException.__getattribute__"==Value.builtin "object.__getattribute__")=false:=by decide+kernel
 have y5:(onTheHeap (Value.ref C)&&Value.builtin "BaseException.__getattribute__"==Value.builtin "object.__getattribute__")=false:=by rw [y4];rfl
 have LG:=PySem.W.looks_findIn (M:=model prog w) X Z.ga
 have LH:=PySem.W.looks_findIn (M:=model prog w) X Z.hk
 repeat (any_goals (first|assumption|(with_reducible refine wpAny_loadPart_at hx ?_;rw [hc])|(with_reducible refine LG.at ?_)|(with_reducible refine LH.at ?_)|wp_step))
 refine codeAny_call_builtin F.excAttr_ValueError.ga.plain F.entry_bexc_ga (uA X Z hx hc (uT X Z hx hc ?_))
 repeat (any_goals (first|assumption|wp_step))
def wO{Q:Option Value->Shared->Prop}(X:K.In h)(Z:jc K C)(hx:h.get? x=some o)(hc:o.cls=.ref C)(hq:Q (some (.ref C)) ⟨h,g,d,t+1,os⟩):
 wpAny (model prog w) A (getAttr? (.ref x) "__class__") Q E ⟨h,g,d,t,os⟩:=by
 unfold getAttr? getAttrBy?
 repeat (any_goals (first|assumption|with_reducible apply Em X Z hx hc|wp_step))
end
theorem mF{K:zz8}{x C:Addr}(Z:jc K C):PySem.W.KitX K (.ref x) (.ref C) (λh=>∃ob,h.get? x=some ob/\ob.cls=.ref C) where
 ty:=λM h _ p=>by
  obtain⟨ob,h1,h2⟩:=p
  exact h2▸(PySem.W.Looks.ld h1).andThen .now
 it:=λM h X _=>by
  obtain⟨cd,jy⟩:=zzp.mp Z.is
  unfold PySem.W.clsIn at jy;split at jy
  ·rename_i c1 d1 cd1 ER ho;intro A' Q' E' s' k q;unfold isType loadHead;exact zzA (wpAny_loadPart (k _ _ (X _ _ ho)) (zzG q))
  ·cases jy
 ne:=λh tp dd aj n sl X Km=>by
  obtain⟨cd,jy⟩:=zzp.mp Z.is
  refine Bool.eq_false_iff.mpr λq=>?_
  have e:C=tp:=Value.ref.inj (zzy.mp q)
  subst e;unfold PySem.W.clsIn at jy;split at jy
  ·rename_i c1 d1 cd1 ER ho;have z:=(X _ _ ho).symm.trans Km
   cases z
  ·cases jy
 ca:=λ{prog w A E Q s} X p k=>by
  obtain⟨ob,h1,h2⟩:=p
  obtain⟨hh,gg,dd,tt,oo⟩:=s
  exact wO X Z h1 h2 k
section
variable{X:Cx}
def qL:du X (.builtin "isinstance") (λxs H Q=>∃(a C D:Addr) (b:Bool),xs=[.ref a,.ref D]/\H a=some (eL a C)/\jc X.K C/\PySem.W.kitOne X.K (.ref C) (.ref D)=some b/\Q (.bl b) H):=by
 intro aa s σ H xs us Q I r h;obtain⟨a,C,D,b,rfl,ha,Z,e,q⟩:=h
 obtain⟨u,u2,rfl,ru,ru2⟩:=vals2 r
 cases ru;cases ru2;obtain⟨⟨ob,vs,h1,h2,_⟩,_⟩:=I.aO _ _ ha
 exact PySem.W.kia_one (mF Z) I.jn ⟨ob,h1,h2⟩ e (λz=>nomatch z) λtk=>⟨.bl b,H,I.tok tk,rfl,q⟩
def qJ:du X (.builtin "isinstance") (λxs H Q=>∃(a C:Addr) (n:String) (b:Bool),xs=[.ref a,.ty n]/\H a=some (eL a C)/\jc X.K C/\PySem.W.kitOne X.K (.ref C) (.type n)=some b/\Q (.bl b) H):=by
 intro aa s σ H xs us Q I r h;obtain⟨a,C,n,b,rfl,ha,Z,e,q⟩:=h
 obtain⟨u,u2,rfl,ru,ru2⟩:=vals2 r
 cases ru;cases ru2;obtain⟨⟨ob,vs,h1,h2,_⟩,_⟩:=I.aO _ _ ha
 exact PySem.W.kia_one (mF Z) I.jn ⟨ob,h1,h2⟩ e (λz=>nomatch z) λtk=>⟨.bl b,H,I.tok tk,rfl,q⟩
def uq{x:Str}{a:Addr}{pos:Pos}(hg:Gl X x)(hm:X.mg x=some (.ref a))(hd:(x==("__debug__":Str))=false:=by decide):PE X (.Name x pos) (tC (.ref a)):=pW hg hm rfl hd
theorem gQ{pos:Pos}(hg:Gl X "ValueError")(hm:X.mg "ValueError"=none):PE X (.Name "ValueError" pos) (tC (.ty "ValueError")):=pz hg hm (u:=.type "ValueError") (by decide+kernel) rfl
variable{aa:List (Addr×Obj)}{σ:St}{H:Hp}{s:Shared}
def gU{M:Model}{A:Around}{E:Value->Shared->Prop}{i:Nat}{x:Str}{pos:Pos}{Q:Unit->Shared->Prop}(I:Inv X aa σ H s)(hN:X.N.Nodup)(hi:X.N[i]?=some x)(hk:X.env.scope.names.lookup x=some .local)
 (h:∀s',Inv X aa (σ.set i none) H s'->Q () s'):wpAny M A (do bindName X.env x .none;unbindBehindTheSuite X.env x pos) Q E s:=by
 obtain⟨m,hn,hl⟩:=id I.loc
 have AB:(X.env.scope.kind==.class||(X.env.scope.kind==.module&&X.env.locals !=X.env.globals))=false:=by rw [I.ok.kind];rfl
 have hiσ:i<σ.length:=by rw [I.len];exact(zzH.mp hi).1
 have se:=I.se
 have tracked:∀{a:Addr} {h':Heap},(∃o,s.heap.get? a=some o/\H a=none)->Heap.SameBut a s.heap h'->dF X.prog X.w H h':=λ{a h'} ha hs b ob e=>by
  obtain⟨_,_,hfree⟩:=ha
  refine(I.aO b ob e).cU (λc w' hc q=>(hs.2 c ?_).trans q) (λ_ q=>q) λ_ _ q=>q
  rintro rfl
  rcases hc with rfl|hc
  ·rw [hfree] at e;cases e
  ·rw [hfree] at hc;cases hc
 refine wpAny_nameGoes_keeps hk hn AB λh' v0 Ey hs=>?_
 obtain⟨oL,_,_,hoL,_⟩:=id hn
 refine h _ ⟨I.ok,I.os,I.bare,⟨λb o e n hb hx=>?_,λb o e n hb hx=>?_,I.base.free,λb o e hx=>?_,I.base.d9,I.base.dA,I.base.dX⟩,⟨_,Ey,λj y v' e1 e2 e3=>?_⟩,λy c e=>?_,I.free,I.dt,λp hp=>?_,tracked ⟨oL,hoL,I.free⟩ hs,by simpa using I.len⟩
 ·exact(hs.2 b (zzb (zzW (zzO e) I.ok.above))).trans (I.base.keep b o e n hb hx)
 ·obtain⟨sl,e1⟩:=I.base.slot b o e n hb hx
  exact⟨sl,(hs.2 b (zzb (zzW (zzO e) I.ok.above))).trans e1⟩
 ·obtain⟨o',e1⟩:=I.base.there b o e hx
  exact⟨o',(hs.2 b (zzb (zzW (zzO e) I.ok.above))).trans e1⟩
 ·by_cases hj:j=i
  ·subst hj;rw [zzo hiσ] at e2;cases e2
  ·rw [zzS (Ne.symm hj)] at e2;obtain⟨u',r',q⟩:=hl j y v' e1 e2 e3
   refine⟨u',r',?_⟩;rcases q with⟨k,e⟩|⟨k,c,e,z⟩
   ·refine .inl ⟨k,?_⟩;have:y≠x:=λe=>hj (fZ hN e1 (e▸hi))
    simp [this,e]
   ·exact .inr ⟨k,c,e,z.sameBut hs (se y c e)⟩
 ·obtain⟨w',z⟩:=I.cell y c e
  exact⟨w',z.sameBut hs (se y c e)⟩
 ·obtain⟨e,n,ne,nf,d⟩:=I.pin p hp
  exact⟨(hs.2 p.1 ne).trans e,n,ne,nf,d⟩
noncomputable abbrev Cx.with1(X:Cx)(pn:List (Addr×Obj))(xe:Value->Shared->Prop):Cx:={X with pn:=pn,xe:=xe}
noncomputable abbrev Cx.marked(X:Cx)(a:Addr)(pn:List (Addr×Obj)):Cx:={X with A:=X.A.mark (some (.ref a)),calm:=false,pn:=pn,xe:=λ_ _=>False}
def vw{pn:List (Addr×Obj)}{xe:Value->Shared->Prop}(o:X.Ok):(X.with1 pn xe).Ok:=⟨o.mod,o.kind,o.glob,o.blt,o.above,o.inj,o.has,o.AH,o.hd,o.frames,o.u5,o.Hb,o.bs,o.pT,o.qw,o.vb,o.eC,o.qm⟩
def rb{a:Addr}{pn:List (Addr×Obj)}(o:X.Ok):(X.marked a pn).Ok:=⟨o.mod,o.kind,o.glob,o.blt,o.above,o.inj,o.has,o.AH,(λh=>nomatch h),o.frames,o.u5,o.Hb,o.bs,o.pT,o.qw,o.vb,o.eC,o.qm⟩
def Inv.with1{xe:Value->Shared->Prop}(I:Inv X aa σ H s):Inv (X.with1 (X.pn++aa) xe) [] σ H s:=⟨vw I.ok,I.os,I.bare,I.base,I.loc,I.cell,I.free,I.dt,λp hp=>I.pin p (by rwa [zz6] at hp),I.aO,I.len⟩
def Inv.fW{xe:Value->Shared->Prop}(o:X.Ok){fR:List (Addr×Obj)}(I:Inv (X.with1 (X.pn++aa) xe) fR σ H s):Inv X aa σ H s:=⟨o,I.os,I.bare,I.base,I.loc,I.cell,I.free,I.dt,λp hp=>I.pin p (zzc _ hp),I.aO,I.len⟩
def Inv.mark{a:Addr}(I:Inv X aa σ H s):Inv (X.marked a (X.pn++aa)) [] σ H s:=⟨rb I.ok,I.os,I.bare,I.base,I.loc,I.cell,I.free,I.dt,λp hp=>I.pin p (by rwa [zz6] at hp),I.aO,I.len⟩
def Inv.unmark{a:Addr}(o:X.Ok){fR:List (Addr×Obj)}(I:Inv (X.marked a (X.pn++aa)) fR σ H s):Inv X aa σ H s:=⟨o,I.os,I.bare,I.base,I.loc,I.cell,I.free,I.dt,λp hp=>I.pin p (zzc _ hp),I.aO,I.len⟩
end
open PySem.AutoSeq1 (wpAny_loadPart')
theorem dS:fillsNumberSlot (.type "tuple") "mul"=pure false:=
 PySem.fillsNumberSlot_seq (id:="tuple.__mul__") (r:=some (.builtin "tuple.__rmul__")) PySem.F.slot_tuple_mul.lookup (by decide+kernel) PySem.F.slot_tuple_rmul.lookup (by decide+kernel)
def fJ:seqRepeat? (.type "tuple")=pure (some (.builtin "tuple.__mul__")):=by
 unfold seqRepeat?;rw [PySem.seqSlot_of (T:="tuple") (name:="__mul__") (id:="tuple.__mul__") PySem.F.slot_tuple_mul.lookup (by decide+kernel),PySem.seqSlot_of (T:="tuple") (name:="__rmul__") (id:="tuple.__rmul__") PySem.F.slot_tuple_rmul.lookup (by decide+kernel)]
 rfl
theorem eP(a:Int)(t:Tok)(l:Addr)(items:Array Value)(n:Nat)(dd:Option Addr)(sl:Array (Option Value)):
 Meets (Builtin.«int.__rmul__» ⟨[.int a t,.ref l],[]⟩) (λ_ R s=>s.heap.get? l=some {cls:=.type "tuple",dict:=dd,data:=.seq items n,slots:=sl}/\R (.ok (.ret Value.notImplemented)) s):=
 .of_wp λprog w A R s h=>by obtain⟨hp,g,d,tk,os⟩:=s;obtain⟨hl,h⟩:=h;wp_walk;exact⟨_,rfl,h⟩
def oJ(l:Addr)(items:Array Value)(n:Nat)(dd:Option Addr)(sl:Array (Option Value))(x:Int)(u:Tok)(x1:1<x)(x2:x<1000)(i1:0<items.size)(i2:items.size<1000):
 Meets (Builtin.«tuple.__mul__» ⟨[.ref l,.int x u],[]⟩) (λ_ R s=>s.heap.get? l=some {cls:=.type "tuple",dict:=dd,data:=.seq items n,slots:=sl}/\
  R (.ok (.ret (Value.ref (zz9 s)))) {s with heap:=s.heap.push {cls:=Value.type "tuple",data:=Data.seq (List.foldl (λx1 x2=>x1++x2) #[] (List.replicate x.toNat items))},toks:=s.toks}):=
 .of_wp λprog w A R s h=>by
  obtain⟨hp,g,d,tk,os⟩:=s
  obtain⟨hl,h⟩:=h
  have f1:=PySem.AutoSeq1.idx_int
  have f2:=PySem.AutoSeq1.sub_tuple_tuple
  have ie:items.isEmpty=false:=by
   cases h:items.isEmpty with
   |false=>rfl
   |true=>
    have:=Array.isEmpty_iff.mp h
    subst this;exact absurd i1 (by simp)
  wp_walk using wpAny_loadPart' hl
  refine wpAny_ite_false (zz0 (by rw [zzt,zzN,zzN];omega)) ?_;dsimp only
  wp_walk using wpAny_loadPart' hl
  refine wpAny_ite_false (zz0 (by rw [ie,Bool.false_or,zzy];omega)) ?_;refine wpAny_ite_false (zz0 (by rw [ie,Bool.or_false,zzN];omega)) ?_;have hm:(items.size:Int)*x<=1000*1000:=by
   have e1:(items.size:Int)*x<=1000*x:=Int.mul_le_mul_of_nonneg_right (by omega) (by omega)
   omega
  have Cq:items.size*x.toNat<=1000*1000:=Nat.mul_le_mul (by omega) (by omega)
  have Fb:(1000000:Nat)<=sizeLine:=by decide
  have lU:(List.foldl (λx1 x2=>x1++x2) #[] (List.replicate x.toNat items)).size<=sizeLine:=by
   have e:=foldl_rep items.toList x.toNat []
   have e':(items.toList).toArray=items:=by simp
   rw [e',List.nil_append] at e;have e2:(List.foldl (λx1 x2=>x1++x2) #[] (List.replicate x.toNat items))=(List.replicate x.toNat items.toList).flatten.toArray:=e
   rw [e2,zzC,len_rep,zzd,Nat.mul_comm];omega
  refine wpAny_ite_false (zz0 (by omega)) ?_;refine wpAny_ite_false (zz0 (by unfold Builtin.Tuple.tupleTooMany;simp;omega)) ?_
  wp_walk
  exact⟨_,rfl,h⟩
def vQ{X:Cx}:fg X (binaryOp .Mult) (λx y H Q=>∃a n xs,x=.ref a/\y=.int n/\eg X.K H a xs/\1<n/\n<1000/\0<xs.length/\xs.length<1000/\∀p,H p=none->Q (.ref p) (upd H p (.tup (List.replicate n.toNat xs).flatten))):=by
 intro aa s σ H x y v u Q I rx ry h;obtain⟨a,n,xs,rfl,rfl,ha,h1,h2,h3,h4,q⟩:=h
 cases rx;obtain⟨t,rfl⟩:=ry
 obtain⟨aj,r,p1,_⟩:=I.tuple ha
 have hl:=r.length
 obtain⟨⟨cls,dd,data,sl⟩,ho,hc,k,hd⟩:=id p1
 simp only at hc hd;subst hc hd;have i9:List.foldl (λx1 x2=>x1++x2) #[] (List.replicate n.toNat aj.toArray)=(List.replicate n.toNat aj).flatten.toArray:=by
  have:=foldl_rep aj n.toNat []
  rw [List.nil_append] at this;exact this
 refine wpAny_binaryOp_repeat_ref (T:="tuple") (U:="int") (by decide) ⟨_,ho,rfl⟩ (λs'=>typeIs_int s' n t) dS PySem.F.fills_int_mul PySem.F.slot_int_rmul fJ PySem.F.slot_int_index.lookup
  (call_meets PySem.F.slot_int_rmul (typeIs_int s n t) PySem.F.entry_int_rmul (PySem.F.args_int_rmul_2 _ _) (eP n t a aj.toArray k dd sl)
   ⟨ho,rfl,⟨_,ho,rfl⟩,call_meets PySem.F.slot_tuple_mul ⟨_,ho,rfl⟩ PySem.F.entry_tuple_mul (PySem.F.args_tuple_mul_2 _ _) (oJ a aj.toArray k dd sl n t h1 h2 (by rw [zzC];omega) (by rw [zzC];omega)) ⟨ho,?_⟩⟩)
 rw [i9];have hz:(List.replicate n.toNat xs).flatten.length<=sizeLine:=by
  rw [len_rep];have:n.toNat*xs.length<=1000*1000:=Nat.mul_le_mul (by omega) (by omega)
  have Fb:(1000000:Nat)<=sizeLine:=by decide
  omega
 refine⟨.ref (zz9 s),_,I.laid (t':=s.toks) (o:=.tup (List.replicate n.toNat xs).flatten) (λb ob q=>zzB _ q) (zzE _) ?_,rfl,q _ (I.aO.fresh (zzE _))⟩;exact⟨hz,_,r.rep n.toNat,IsTup.new _ _⟩
end L2
namespace Cw
open PySem L2
end Cw
namespace L2
open PySem PySem.Spec PyProof.Rows
section
variable{X:Cx}
def kW:du X (.type "int") (λxs H Q=>∃z n,xs=[.str z]/\PySem.intText? z=some n/\z.length<=640/\Q (.int n) H):=by
 intro aa s σ H xs us Q I r h;obtain⟨z,n,rfl,h1,h2,q⟩:=h
 obtain⟨u,rfl,t,rfl⟩:=vals1 r
 exact PySem.W.KIN.call_text h1 h2 ⟨.int n,H,I.tok _,⟨_,rfl⟩,q⟩
end
end L2
namespace Cw
open PySem L2
end Cw
namespace L2
open PySem PySem.Spec PyProof.Rows
theorem km{α β:Type}{R:α->β->Prop}:∀{xs:List α} {ys:List β},Paired R xs ys->∀{i:Nat} {x:α},xs[i]?=some x->∃y,ys[i]?=some y/\R x y
 |_,_,.nil,_,_,h=>by simp at h
 |_,_,.cons r t,0,x,h=>by simp at h;subst h;exact⟨_,rfl,r⟩
 |_,_,.cons r t,i+1,x,h=>by
  obtain⟨y,h1,h2⟩:=km t (i:=i) (x:=x) (by simpa using h)
  exact⟨y,by simpa using h1,h2⟩
theorem iD{α β:Type}{R:α->β->Prop}:∀{xs:List α} {ys:List β},Paired R xs ys->xs.length=ys.length
 |_,_,.nil=>rfl
 |_,_,.cons _ t=>by simp [iD t]
section
def u7{vs:List V}{aj:List Value}(r:Vals vs aj){j:Nat}(h:j<aj.toArray.size):∃v,vs[j]?=some v/\RelV v aj.toArray[j]:=by
 have hl:=r.length
 rw [zzC] at h;have hj:j<vs.length:=by omega
 obtain⟨u,hu,ru⟩:=r.get (i:=j) (x:=vs[j]) (zzg hj)
 rw [zzg h] at hu;cases hu;exact⟨_,zzg hj,by simpa using ru⟩
end
abbrev bH:HO:=.ext λ_=>True
def iI{P:Program}{w:World}{H:Hp}{h:Heap}{a:Addr}{o:Obj}(e:h.get? a=some o):bS P w H h a (.bI o bH):=⟨e,trivial,⟨o,e⟩,λ_ _ _ _=>trivial⟩
noncomputable def aI(Z:List (Addr×Obj))(H:Hp):Hp:=λb=>match Z.lookup b with
 |some o=>some (.bI o bH)
 |none=>H b
noncomputable def aD(Z:List (Addr×Obj))(H:Hp):Hp:=λb=>match Z.lookup b with
 |some _=>none
 |none=>H b
section
variable{Z:List (Addr×Obj)}{H H':Hp}{b:Addr}{o:Obj}
def aR(e:Z.lookup b=some o):aI Z H b=some (.bI o bH):=by unfold aI;rw [e]
def ag(e:Z.lookup b=none):aI Z H b=H b:=by unfold aI;rw [e]
def dM(e:Z.lookup b=some o):aD Z H b=none:=by unfold aD;rw [e]
def au(e:Z.lookup b=none):aD Z H b=H b:=by unfold aD;rw [e]
def c7{u:HO}(e:aD Z H b=some u):Z.lookup b=none/\H b=some u:=by
 cases q:Z.lookup b with
 |none=>rw [au q] at e;exact⟨rfl,e⟩
 |some o=>rw [dM q] at e;cases e
def fx(h:H b=none):aD Z H b=none:=by
 cases q:Z.lookup b with
 |none=>rw [au q];exact h
 |some o=>exact dM q
structure oV(Z:List (Addr×Obj))(H:Hp)(fs:List Addr)(h:Heap):Prop where
 at_:∀b o,Z.lookup b=some o->h.get? b=some o
 no:∀b o,Z.lookup b=some o->H b=none
 fr:∀b o,Z.lookup b=some o->b∉fs
variable{P:Program}{w:World}{fs:List Addr}{h h':Heap}
theorem oV.aO(z:oV Z H fs h)(k:dF P w H h):dF P w (aI Z H) h:=λb u e=>by
 cases q:Z.lookup b with
 |some o=>rw [aR q] at e;cases e;exact iI (z.at_ b o q)
 |none=>
  rw [ag q] at e;have nz:∀c v,H c=some v->Z.lookup c=none:=λc v hv=>by
   cases y:Z.lookup c with
   |none=>rfl
   |some o=>rw [z.no c o y] at hv;cases hv
  exact(k b u e).cU (λc v _ r=>r) (λc r=>by rw [ag (nz c _ r)];exact r) λc xs r=>by rw [ag (nz c _ r)];exact r
def oV.oR(z:oV Z H fs h)(u:Un fs [] (aI Z H) H' h h')(k:dF P w H' h'):Un fs [] H (aD Z H') h h'/\dF P w (aD Z H') h':=by
 have zk:∀b o,Z.lookup b=some o->H' b=some (.bI o bH):=λb o q=>u.dA b o _ (aR q)
 have zh:∀b o,Z.lookup b=some o->h'.get? b=some o:=λb o q=>(k b _ (zk b o q)).1
 have nz:∀c v,H c=some v->Z.lookup c=none:=λc v hv=>by
  cases y:Z.lookup c with
  |none=>rfl
  |some o=>rw [z.no c o y] at hv;cases hv
 refine⟨⟨λb o e n hb hx=>?_,λb o e n hb hx=>?_,λb o e n hx=>?_,λb o e hx=>u.there b o e hx,λb xs e=>?_,λb o v e=>?_,λb ps e=>?_⟩,λb v e=>?_⟩
 ·cases q:Z.lookup b with
  |some o'=>
   have e2:=z.at_ b o' q
   rw [e] at e2;cases e2;exact zh b o q
  |none=>exact u.keep b o e (by rw [ag q];exact n) hb hx
 ·cases q:Z.lookup b with
  |some o'=>exact absurd hb (z.fr b o' q)
  |none=>exact u.slot b o e (by rw [ag q];exact n) hb hx
 ·cases q:Z.lookup b with
  |some o'=>exact dM q
  |none=>rw [au q];exact u.free b o e (by rw [ag q];exact n) hx
 ·rw [au (nz b _ e)];exact u.d9 b xs (by rw [ag (nz b _ e)];exact e)
 ·rw [au (nz b _ e)];exact u.dA b o v (by rw [ag (nz b _ e)];exact e)
 ·rw [au (nz b _ e)];exact u.dX b ps (by rw [ag (nz b _ e)];exact e)
 ·obtain⟨q,e1⟩:=c7 e
  refine(k b v e1).cU (λc y _ r=>r) (λc r=>?_) λc xs r=>?_
  ·cases y:Z.lookup c with
   |none=>rw [au y];exact r
   |some o=>rw [zk c o y] at r;cases r
  ·cases y:Z.lookup c with
   |none=>rw [au y];exact r
   |some o=>rw [zk c o y] at r;cases r
def oV.oQ(z:oV Z H fs h)(u:Un fs [] H H' h h')(k:dF P w H' h'):Un fs [] (aI Z H) (aI Z H') h h'/\dF P w (aI Z H') h':=by
 have zh:∀b o,Z.lookup b=some o->h'.get? b=some o:=λb o q=>u.keep b o (z.at_ b o q) (z.no b o q) (z.fr b o q) (λy=>nomatch y)
 have zn:∀b o,Z.lookup b=some o->H' b=none:=λb o q=>u.free b o (z.at_ b o q) (z.no b o q) (λy=>nomatch y)
 have nz:∀c v,H' c=some v->Z.lookup c=none:=λc v hv=>by
  cases y:Z.lookup c with
  |none=>rfl
  |some o=>rw [zn c o y] at hv;cases hv
 have nw:∀b,aI Z H b=none->Z.lookup b=none/\H b=none:=λb e=>by
  cases q:Z.lookup b with
  |some o=>rw [aR q] at e;cases e
  |none=>rw [ag q] at e;exact⟨rfl,e⟩
 refine⟨⟨λb o e n hb hx=>u.keep b o e (nw b n).2 hb hx,λb o e n hb hx=>u.slot b o e (nw b n).2 hb hx,λb o e n hx=>?_,λb o e hx=>u.there b o e hx,λb xs e=>?_,λb o v e=>?_,λb ps e=>?_⟩,λb v e=>?_⟩
 ·rw [ag (nw b n).1];exact u.free b o e (nw b n).2 hx
 ·cases q:Z.lookup b with
  |some o=>rw [aR q] at e;cases e
  |none=>rw [ag q] at e⊢;exact u.d9 b xs e
 ·cases q:Z.lookup b with
  |some o'=>rw [aR q] at e⊢;exact e
  |none=>rw [ag q] at e⊢;exact u.dA b o v e
 ·cases q:Z.lookup b with
  |some o=>rw [aR q] at e;cases e
  |none=>rw [ag q] at e⊢;exact u.dX b ps e
 ·cases q:Z.lookup b with
  |some o=>rw [aR q] at e;cases e;exact iI (zh b o q)
  |none=>
   rw [ag q] at e;exact(k b v e).cU (λc y _ r=>r) (λc r=>by rw [ag (nz c _ r)];exact r) λc xs r=>by rw [ag (nz c _ r)];exact r
variable{K:zz8}{mg:Str->Option Value}{base:Heap}{A:Around}{outer:List Env}{s s':Shared}
theorem iw.aI(e:iw P w K mg base A outer s H)(z:oV Z H (df outer) s.heap)(zb:∀b o,Z.lookup b=some o->base.get? b=none):iw P w K mg base A outer s (aI Z H) where
 frames:=e.frames
 mod:=e.mod
 bs:=λb o q=>⟨(e.bs b o q).1,by
  cases y:Z.lookup b with
  |some o'=>rw [zb b o' y] at q;cases q
  |none=>rw [ag y];exact(e.bs b o q).2⟩
 pT:=e.pT
 eC:=e.eC
 qm:=λb hb=>by
  cases y:Z.lookup b with
  |some o'=>exact absurd hb (z.fr b o' y)
  |none=>rw [ag y];exact e.qm b hb
 aO:=z.aO e.aO
 bare:=e.bare
def CE.less{Q:VK}{u:Value}(z:oV Z H (df outer) s.heap)(h:CE outer P w (aI Z H) s (λv H'=>Q v (aD Z H')) u s'):CE outer P w H s Q u s':=by
 obtain⟨v,H',os,bare,un,aO,r,q⟩:=h
 obtain⟨u1,k1⟩:=z.oR un aO
 exact⟨v,_,os,bare,u1,k1,r,q⟩
def CE.more{Q:VK}{u:Value}(z:oV Z H (df outer) s.heap)(h:CE outer P w H s (λv H'=>(∀b o,Z.lookup b=some o->H' b=none)->Q v (aI Z H')) u s'):CE outer P w (aI Z H) s Q u s':=by
 obtain⟨v,H',os,bare,un,aO,r,q⟩:=h
 obtain⟨u1,k1⟩:=z.oQ un aO
 exact⟨v,_,os,bare,u1,k1,r,q λb o y=>un.free b o (z.at_ b o y) (z.no b o y) (λy=>nomatch y)⟩
def cS.less{E:XK}{e:Value}(z:oV Z H (df outer) s.heap)(h:cS P w outer (aI Z H) s (λC a H'=>E C a (aD Z H')) e s'):cS P w outer H s E e s':=by
 obtain⟨a,C,t,vs,H',B,rfl,F⟩:=h
 have zk:∀b o,Z.lookup b=some o->H' b=some (.bI o bH):=λb o q=>F.un.dA b o _ (aR q)
 have kB:∀b o,s.heap.get? b=some o->H b=none->b∉df outer->B.get? b=some o:=λb o e n hb=>by
  cases q:Z.lookup b with
  |some o'=>
   have e2:=z.at_ b o' q
   rw [e] at e2;cases e2;exact(F.aO b _ (zk b o q)).1
  |none=>exact F.cR b o e (by rw [ag q];exact n) hb
 have hB:dF P w (aD Z H') B:=λb v e=>by
  obtain⟨q,e1⟩:=c7 e
  refine(F.aO b v e1).cU (λc y _ r=>r) (λc r=>?_) λc xs r=>?_
  ·cases y:Z.lookup c with
   |none=>rw [au y];exact r
   |some o=>rw [zk c o y] at r;cases r
  ·cases y:Z.lookup c with
   |none=>rw [au y];exact r
   |some o=>rw [zk c o y] at r;cases r
 have hs:dF P w H' s'.heap:=λb v e=>(F.aO b v e).cU (λc y _ r=>F.rJ.1 _ _ r) (λ_ r=>r) λ_ _ r=>r
 obtain⟨u1,_⟩:=z.oR (P:=P) (w:=w) F.un hs
 exact⟨a,C,t,vs,_,B,rfl,⟨F.os,F.bare,hB,F.rJ,F.tn,F.tup,kB,F.bT,u1,F.ends⟩⟩
def cS.more{E:XK}{e:Value}(z:oV Z H (df outer) s.heap)(h:cS P w outer H s (λC a H'=>(∀b o,Z.lookup b=some o->H' b=none)->E C a (aI Z H')) e s'):cS P w outer (aI Z H) s E e s':=by
 obtain⟨a,C,t,vs,H',B,rfl,F⟩:=h
 have zB:∀b o,Z.lookup b=some o->B.get? b=some o:=λb o q=>F.cR b o (z.at_ b o q) (z.no b o q) (z.fr b o q)
 have zn:∀b o,Z.lookup b=some o->H' b=none:=λb o q=>F.un.free b o (z.at_ b o q) (z.no b o q) (λy=>nomatch y)
 have nz:∀c v,H' c=some v->Z.lookup c=none:=λc v hv=>by
  cases y:Z.lookup c with
  |none=>rfl
  |some o=>rw [zn c o y] at hv;cases hv
 have hB:dF P w (aI Z H') B:=λb v e=>by
  cases q:Z.lookup b with
  |some o=>rw [aR q] at e;cases e;exact iI (zB b o q)
  |none=>
   rw [ag q] at e;exact(F.aO b v e).cU (λc y _ r=>r) (λc r=>by rw [ag (nz c _ r)];exact r) λc xs r=>by rw [ag (nz c _ r)];exact r
 have hs:dF P w H' s'.heap:=λb v e=>(F.aO b v e).cU (λc y _ r=>F.rJ.1 _ _ r) (λ_ r=>r) λ_ _ r=>r
 obtain⟨u1,_⟩:=z.oQ (P:=P) (w:=w) F.un hs
 refine⟨a,C,t,vs,_,B,rfl,⟨F.os,F.bare,hB,F.rJ,F.tn,F.tup,λb o e n hb=>F.cR b o e ?_ hb,F.bT,u1,F.ends zn⟩⟩
 cases q:Z.lookup b with
 |some o=>rw [aR q] at n;cases n
 |none=>rw [ag q] at n;exact n
end
structure qp(ps ys:List Str)(scope:Scope):Prop where
 kind:scope.kind=.function
 co:scope.isCoroutine=false
 gen:scope.isGenerator=false
 nd:(ps++ys).Nodup
 tD:∀x∈scope.names,x.2≠.cell
 par:∀x∈ps,scope.names.lookup x=some .local
 JQ:∀y∈ys,scope.names.lookup y=some .free
 As:∀x,scope.names.lookup x=some .free->x∈ys
noncomputable def yf(P:Program)(w:World)(K:zz8)(mg:Str->Option Value)(base:Heap)(N:List Str)(qual:Str)(scope:Scope)(f:Addr)(cd:Value)(cl:List (Str×Addr))(A:Around)(outer:List Env)(s:Shared)(H:Hp)(E:XK):Cx where
 prog:=P
 w:=w
 K:=K
 mg:=mg
 base:=base
 A:=A.deeper (PySem.W.envX qual scope (zz9 s) f cd cl)
 N:=N
 s₀:=s
 H₀:=H
 env:=PySem.W.envX qual scope (zz9 s) f cd cl
 outer:=outer
 stack:=PySem.W.envX qual scope (zz9 s) f cd cl::outer
 ex:=[]
 calm:=A.handled.isNone
 fn:=λ_=>false
 pn:=[]
 xe:=λe s'=>wpAny (model P w) (A.deeper (PySem.W.envX qual scope (zz9 s) f cd cl)) (leaving (PySem.W.envX qual scope (zz9 s) f cd cl) e) (λ_ xO=>cS P w outer H s E e xO) (λe' xO=>cS P w outer H s E e' xO) s'
theorem j5{α:Type}:∀{l:List (Str×α)} {x:Str} {v:α},(l.map (·.1)).Nodup->(x,v)∈l->l.lookup x=some v
 |(y,u)::r,x,v,nd,h=>by
  rw [zzF,List.nodup_cons] at nd;rw [zz5];rcases zzm.mp h with e|e
  ·cases e;simp
  ·have ic:(x==y)=false:=beq_eq_false_iff_ne.mpr λz=>nd.1 (by subst z;exact List.mem_map_of_mem (f:=(·.1)) e)
   rw [ic];exact j5 nd.2 e
def iH{ps:List Str}{us:List Value}{i:Nat}{x:Str}{u:Value}(nd:ps.Nodup)(h1:ps[i]?=some x)(h2:us[i]?=some u):(ps.zip us).reverse.lookup x=some u:=by
 have hs:∀{ps:List Str} {us:List Value},List.Sublist ((ps.zip us).map (·.1)) ps:=λ{ps us}=>by
  induction ps generalizing us with
  |nil=>simp
  |cons p ps ih=>
   cases us with
   |nil=>simp
   |cons q us=>simpa using ih
 refine j5 ?_ ?_
 ·rw [List.map_reverse];exact List.pairwise_reverse.mpr ((nd.sublist hs).imp λh=>Ne.symm h)
 ·rw [List.mem_reverse];refine zzD (i:=i) ?_;rw [List.getElem?_zip_eq_some];exact⟨h1,h2⟩
section
variable{P:Program}{w:World}{K:zz8}{mg:Str->Option Value}{base:Heap}{ps ys:List Str}{qual:Str}{scope:Scope}{f:Addr}{cd:Value}{cl:List (Str×Addr)}{A:Around}{outer:List Env}{s:Shared}{H:Hp}{E:XK}
def nY{us:List Value}{vs ws:List V}{h':Heap}{tk:Nat}(S:qp ps ys scope)(e0:iw P w K mg base A outer s H)(Fo:∀y∈ys,∃c,cl.lookup y=some c)(inj:∀x y c,cl.lookup x=some c->cl.lookup y=some c->x=y)
 (r:Vals vs us) (hl:vs.length=ps.length) (hw:ws.length=ys.length) (cells:∀(i:Nat) y c,ys[i]?=some y->cl.lookup y=some c->∀v,ws[i]?=some v->∃u,RelV v u/\s.heap.IsCell c (some u)) (Iv:∀x c,cl.lookup x=some c->∃v,s.heap.IsCell c v)
 (DH:∀x c,cl.lookup x=some c->H c=none) (ns:h'.Ns (zz9 s) (λx=>(ps.zip us).reverse.lookup x)) (hk:∀b o,s.heap.get? b=some o->h'.get? b=some o):
 Inv (yf P w K mg base (ps++ys) qual scope f cd cl A outer s H E) [] (vs.map some++ws.map some) H {s with heap:=h',toks:=tk}:=by
 have wN:∀b:Addr,b∉(yf P w K mg base (ps++ys) qual scope f cd cl A outer s H E).ex:=λb z=>absurd (show b∈([]:List Addr) from z) (by simp)
 have ck:∀c v,s.heap.IsCell c v->h'.IsCell c v:=λc v ⟨o,ho,hd⟩=>⟨o,hk c o ho,hd⟩
 refine⟨⟨e0.mod,S.kind,rfl,rfl,zzE _,inj,λx hx=>?_,(λx c z=>nomatch z),λz=>Option.isNone_iff_eq_none.mp z,Around.frames_deeper e0.frames,.inr ⟨rfl,rfl⟩,λb z=>absurd z (wN b),e0.bs,e0.pT,λb _ _=>wN b,λb z=>absurd z (wN b),e0.eC,e0.qm⟩,
  rfl,e0.bare,Un.kept hk,⟨_,ns,λi x v h1 h2 h3=>?_⟩,λx c h=>let⟨v,z⟩:=Iv x c h;⟨v,ck c v z⟩,e0.aO.fresh (zzE _),DH,λp hp=>absurd (show p∈([]:List (Addr×Obj)) from hp) (by simp),e0.aO.kept hk,?_⟩
 ·have hx:scope.names.lookup x=some .cell\/scope.names.lookup x=some .free:=hx
  rcases hx with hx|hx
  ·exact absurd rfl (S.tD _ (PySem.mem_of_lookup hx))
  ·exact Fo x (S.As x hx)
 ·have h1:(ps++ys)[i]?=some x:=h1
  by_cases hi:i<vs.length
  ·rw [zzr (by simpa using hi),zzQ] at h2;have ha:vs[i]?=some v:=by
    cases e:vs[i]? with
    |none=>rw [e] at h2;cases h2
    |some a=>rw [e] at h2;cases h2;rfl
   obtain⟨u,hu,rv⟩:=r.get ha
   have hp:ps[i]?=some x:=by rw [zzr (by omega)] at h1;exact h1
   exact⟨u,rv,.inl ⟨S.par x (zzD hp),iH (S.nd.sublist (List.sublist_append_left _ _)) hp hu⟩⟩
  ·rw [zzs (by simpa using hi),zzQ,zzl] at h2;rw [zzs (by omega)] at h1;have ha:ws[i-vs.length]?=some v:=by
    cases e:ws[i-vs.length]? with
    |none=>rw [e] at h2;cases h2
    |some a=>rw [e] at h2;cases h2;rfl
   rw [<-hl] at h1;obtain⟨c,hc⟩:=Fo x (zzD h1)
   obtain⟨u,rv,z⟩:=cells _ x c h1 hc v ha
   exact⟨u,rv,.inr ⟨.inr (S.JQ x (zzD h1)),c,hc,ck c _ z⟩⟩
 ·show _=(ps++ys).length
  rw [zzM,zzM,zzl,zzl,hl,hw]
def D6{N:List Str}:Passes (cS P w) (yf P w K mg base N qual scope f cd cl A outer s H E) E:=by
 rintro aa σ H1 s1 e s' I ⟨a,C,t,vs,H',B,rfl,F⟩
 have nx:∀b:Addr,b∉(yf P w K mg base N qual scope f cd cl A outer s H E).ex:=λb z=>nomatch (show b∈([]:List Addr) from z)
 have cR:∀b o,s.heap.get? b=some o->H b=none->b∉df outer->B.get? b=some o:=λb o q n hb=>
  F.cR b o (I.base.keep b o q n hb (nx b)) (I.base.free b o q n (nx b)) (gD I rfl q hb)
 have bT:∀b o,s.heap.get? b=some o->b∉df outer->∃o',B.get? b=some o':=λb o q hb=>by
  obtain⟨o1,q1⟩:=I.base.there b o q (nx b)
  exact F.bT b o1 q1 (gD I rfl q hb)
 refine wpAny_leaves_onW I.ok.frames rfl F.rJ λh' x1 x2=>⟨a,C,t,vs,H',B,rfl,?_⟩
 have slot:∀b o,s.heap.get? b=some o->H b=none->b∈df outer->∃sl,h'.get? b=some {o with slots:=sl}:=λb o q n hb=>by
  obtain⟨sl,q1⟩:=I.base.slot b o q n hb (nx b)
  obtain⟨sl2,q2⟩:=F.un.any q1 (I.base.free b o q n (nx b)) (λz=>nomatch z)
  obtain⟨_,o',q3,hd⟩:=F.rJ.2.2.1.mem (b:=b) (zz1.mpr (let⟨v,h1,h2⟩:=zz1.mp hb;⟨v,.tail _ h1,h2⟩))
  rw [q2] at q3;cases q3;obtain⟨sl3,q4⟩:=x2 b _ q2 hd
  exact⟨sl3,q4⟩
 refine⟨F.os.trans I.os,F.bare,F.aO,x1,F.tn,F.tup.of_slots x2,cR,bT,⟨λb o q n hb _=>x1.1 _ _ (cR b o q n hb),λb o q n hb _=>slot b o q n hb,λb o q n _=>?_,λb o q _=>?_,λb xs q=>F.un.d9 _ _ (I.base.d9 _ _ q),λb o u q=>F.un.dA _ _ _ (I.base.dA _ _ _ q),λb ps q=>?_⟩,F.ends⟩
 ·obtain⟨sl,q1⟩:=I.base.any q n (nx b)
  exact F.un.free b _ q1 (I.base.free b o q n (nx b)) (λz=>nomatch z)
 ·by_cases hb:b∈df outer
  ·obtain⟨sl,q1⟩:=slot b o q (I.ok.qm b hb) hb
   exact⟨_,q1⟩
  ·obtain⟨o',q1⟩:=bT b o q hb
   exact⟨o',x1.1 _ _ q1⟩
 ·obtain⟨m1,q1⟩:=I.base.dX b ps q
  obtain⟨m2,q2⟩:=F.un.dX b _ q1
  exact⟨m1++m2,by rw [<-Array.append_assoc];exact q2⟩
def vW{k:Nat}{params:Arguments}{body:Expr}{pm fA:Value}{c':Addr}{oc:Obj}{cM:Array Value}{ct:Tok}{us:List Value}{vs ws:List V}{Q:VK}{Z:List (Addr×Obj)}{t:TE}
 (S:qp ps ys scope) (hr:dz k A) (e0:iw P w K mg base A outer s H) (z:oV Z H (df outer) s.heap) (zb:∀b o,Z.lookup b=some o->base.get? b=none)
 (ho:s.heap.get? f=some (PySem.W.kla_obj "<lambda>" qual params body scope cl pm c' fA)) (hc:s.heap.get? c'=some oc) (jy:oc.data=.fields cM) (Cm:cM[1]?=some (.str qual ct))
 (hb:bindArgs (PySem.W.kla_fn "<lambda>" qual params body scope cl pm (.ref c') fA) ⟨us,[]⟩=pure (ps.zip us)) (r:Vals vs us) (hl:vs.length=ps.length) (hw:ws.length=ys.length)
 (Fo:∀y∈ys,∃c,cl.lookup y=some c) (inj:∀x y c,cl.lookup x=some c->cl.lookup y=some c->x=y)
 (cz:∀x c,cl.lookup x=some c->∃o v,Z.lookup c=some o/\o.data=.cell v)
 (cells:∀(i:Nat) y c,ys[i]?=some y->cl.lookup y=some c->∀v,ws[i]?=some v->∃u,RelV v u/\s.heap.IsCell c (some u))
 (ht:PE (yf P w K mg base (ps++ys) qual scope f (.ref c') cl A outer s H (λC a H'=>(∀b o,Z.lookup b=some o->H' b=none)->E C a (aI Z H'))) body t)
 (hq:t (vs.map some++ws.map some) H λv H'=>(∀b o,Z.lookup b=some o->H' b=none)->Q v (aI Z H')):
 codeAny (model P w) A (.call (.ref f) ⟨us,[]⟩) (CR (cS P w) outer P w (aI Z H) s Q E) s:=by
 have lim:s.heap.NoLimit:=e0.mod.nolimit.keeps λb o e=>(e0.bs b o e).1
 refine PySem.W.kla_callFunE hr.depth ho rfl S.co S.gen rfl ⟨c',oc,cM,ct,rfl,hc,jy,Cm⟩ ?_;rw [hb];refine zzG (wpAny_newFunctionEnv S.tD (λy hy=>S.par y.1 (List.of_mem_zip hy).1) (λh₁ Ft hsb=>?_) S.kind)
 have hk₁:∀b o,s.heap.get? b=some o->h₁.get? b=some o:=λb o e=>hsb.extBut b o (zzb (zzO e)) (zzB _ e)
 refine⟨lim.keeps hk₁,?_⟩;show codeAny _ _ (.expr body (PySem.W.envX qual scope (zz9 s) f (.ref c') cl)) _ _;have I:=nY (E:=λC a H'=>(∀b o,Z.lookup b=some o->H' b=none)->E C a (aI Z H')) (cd:=.ref c') (f:=f) (qual:=qual) (tk:=s.toks+(ps.zip us).length) S e0 Fo inj r hl hw cells (λx c h=>by
  obtain⟨o,v,h1,h2⟩:=cz x c h
  exact⟨v,o,z.at_ c o h1,h2⟩) (λx c h=>by
  obtain⟨o,v,h1,h2⟩:=cz x c h
  exact z.no c o h1) Ft hk₁
 refine PySem.W.kla_codeExpr (wpAny_mono (ht [] _ _ H _ I hq) (λu s' hs=>?_) λe s' hs=>?_)
 ·obtain⟨v,H',J,rv,q⟩:=hs
  exact CE.more z ⟨v,H',J.os,J.bare,J.base,J.aO,rv,q⟩
 ·exact wpAny_mono hs (λ_ xO y=>cS.more z y) λe' xO y=>cS.more z y
end
def oC{p:Pos}{a b:Int}{c cv:Value}:∀(l:List Value),TriplesOk l->codeAmong p (l++[rawInt a,rawInt b,c])=some cv->codeAmong p l=some cv\/cv=c:=by
 intro l h e
 fun_induction TriplesOk l with
 |case1=>
  simp! [List.nil_append,codeAmong,rawInt] at e;split at e
  ·cases e;exact .inr rfl
  ·cases e
 |case2 a' t b' u x rest ih=>
  simp! [List.cons_append,codeAmong] at e⊢;split at e
  ·rename_i hc;rw [if_pos hc];exact .inl e
  ·rename_i hc;rw [if_neg hc];exact ih h e
 |case3 l h1 h2=>exact h.elim
def sy(mg:Str->Option Value)(base:Heap):Prop:=∃bm o,mg "__builtins__"=some (.ref bm)/\bm≠builtinsNs/\bm≠mainGlobals/\base.get? bm=some o/\o.cls=.type "module"/\o.dict=some builtinsNs/\o.data=.plain
noncomputable def eR(H:Hp)(P:Addr)(mJ:Array Value)(c':Addr)(oc:Obj)(f:Addr)(fo:Obj):Hp:=upd (upd (upd H P (.ei mJ)) c' (.bI oc bH)) f (.bI fo bH)
section
variable{X:Cx}{aa:List (Addr×Obj)}{σ:St}{H:Hp}{s:Shared}{c P c' f:Addr}{ps mJ:Array Value}{oc fo:Obj}
def Inv.lam{h':Heap}{tk:Nat}(I:Inv X aa σ H s)(hP:H P=some (.ei ps))(hx:∀b o,b≠P->s.heap.get? b=some o->h'.get? b=some o)(B2:h'.get? P=some (PySem.W.tabObj mJ))(more:∃m,mJ=ps++m)
 (hc:H c'=none/\(zz9 s)<=c'\/H c'=some (.bI oc bH)) (Kp:h'.get? c'=some oc) (hf:(zz9 s)<=f) (KP:h'.get? f=some fo) (B3:c'≠f):
 Inv X aa σ (eR H P mJ c' oc f fo) {s with heap:=h',toks:=tk}:=by
 have fr:H f=none:=I.aO.fresh hf
 have nP:∀b u,H b=some u->(∀q,u≠.ei q)->b≠P:=λb u e n z=>by subst z;rw [hP] at e;cases e;exact n _ rfl
 have nf:∀b u,H b=some u->b≠f:=λb u e z=>by subst z;rw [fr] at e;cases e
 have cP:c'≠P:=λz=>by
  subst z;rcases hc with⟨e,_⟩|e
  ·rw [hP] at e;cases e
  ·rw [hP] at e;cases e
 have fP:f≠P:=λz=>by subst z;rw [hP] at fr;cases fr
 have at_:∀b u,H b=some u->(∀q,u≠.ei q)->eR H P mJ c' oc f fo b=some u:=λb u e n=>by
  unfold eR;rw [af (nf b u e)]
  by_cases hb:b=c'
  ·subst hb;rw [aq];rcases hc with⟨z,_⟩|z
   ·rw [z] at e;cases e
   ·rw [z] at e;exact e
  ·rw [af hb,af (nP b u e n)];exact e
 have no:∀b o,s.heap.get? b=some o->H b=none->eR H P mJ c' oc f fo b=none:=λb o e n=>by
  have vT:b≠f:=λz=>absurd (zzO e) (by rw [z];exact Nat.not_lt.mpr hf)
  have Ce:b≠P:=λz=>by subst z;rw [hP] at n;cases n
  have Hw:b≠c':=λz=>by
   rcases hc with⟨_,y⟩|y
   ·exact absurd (zzO e) (by rw [z];exact Nat.not_lt.mpr y)
   ·rw [z,y] at n;cases n
  unfold eR;rw [af vT,af Hw,af Ce];exact n
 have kp:∀b o,s.heap.get? b=some o->H b=none->h'.get? b=some o:=λb o e n=>hx b o (λz=>by subst z;rw [hP] at n;cases n) e
 refine I.un ⟨λb o e n _ _=>kp b o e n,λb o e n _ _=>⟨o.slots,kp b o e n⟩,λb o e n _=>no b o e n,λb o e _=>?_,λb xs e=>at_ b _ e (λ_ z=>nomatch z),λb o u e=>at_ b _ e (λ_ z=>nomatch z),λb qs e=>?_⟩ λb u e=>?_
 ·by_cases hb:b=P
  ·exact⟨_,by rw [hb];exact B2⟩
  ·exact⟨o,hx b o hb e⟩
 ·by_cases hb:b=P
  ·subst hb;rw [hP] at e;cases e;obtain⟨m,rfl⟩:=more
   exact⟨m,by unfold eR;rw [af (Ne.symm fP),af (Ne.symm cP),aq]⟩
  ·have Hw:b≠c':=λz=>by
    subst z;rcases hc with⟨y,_⟩|y
    ·rw [y] at e;cases e
    ·rw [y] at e;cases e
   exact⟨#[],by unfold eR;rw [af (nf b _ e),af Hw,af hb,e];simp⟩
 ·unfold eR at e
  by_cases h1:b=f
  ·subst h1;rw [aq] at e;cases e;exact iI KP
  ·rw [af h1] at e
   by_cases h2:b=c'
   ·subst h2;rw [aq] at e;cases e;exact iI Kp
   ·rw [af h2] at e
    by_cases h3:b=P
    ·subst h3;rw [aq] at e;cases e;exact B2
    ·rw [af h3] at e;refine(I.aO b u e).cU (λd v hd q=>hx d v ?_ q) (λd q=>at_ d _ q (λ_ z=>nomatch z)) λd xs q=>at_ d _ q (λ_ z=>nomatch z)
     rcases hd with hd|hd
     ·rw [hd];exact h3
     ·exact nP d _ hd (λ_ z=>nomatch z)
def u6{R:Addr->Obj->Prop}{params:Arguments}{body:Expr}{scope:Scope}{pos:Pos}{cl:List (Str×Addr)}{Q:Value->Shared->Prop}{E:Value->Shared->Prop}(I:Inv X aa σ H s)(hP:H P=some (.ei ps))(ht:TriplesOk ps.toList)(pR:X.env.code=.ref c)(C:PySem.W.CodeHd X.base c P)
 (KZ:sy X.mg X.base) (yy:closureFor scope X.env=pure cl) (BD:defaultsOf params X.env=([],[]))
 (hit:∀cv,codeAmong pos ps.toList=some cv->∃c' oc cM t,cv=.ref c'/\H c'=some (.bI oc bH)/\R c' oc/\oc.data=.fields cM/\cM[1]?=some (.str (X.env.qual++"<lambda>") t))
 (h:∀(f c':Addr) (oc:Obj) (cM:Array Value) (t:Tok) (fA:Value) (mJ:Array Value) (h':Heap) (tk:Nat),H f=none->(H c'=none\/H c'=some (.bI oc bH)/\R c' oc)->c'≠f->f≠P->c'≠P->oc.data=.fields cM->cM[1]?=some (.str (X.env.qual++"<lambda>") t)->TriplesOk mJ.toList->
  (∀p cv,codeAmong p mJ.toList=some cv->codeAmong p ps.toList=some cv\/cv=.ref c')->(∃m,mJ=ps++m)->
  Inv X aa σ (eR H P mJ c' oc f (PySem.W.kla_obj "<lambda>" (X.env.qual++"<lambda>") params body scope cl ((X.mg "__name__").getD .none) c' fA)) {s with heap:=h',toks:=tk}->Q (.ref f) {s with heap:=h',toks:=tk}):
 wpAny (model X.prog X.w) X.A (eval (.Lambda params body scope pos) X.env) Q E s:=by
 have HX:s.heap.get? P=some (PySem.W.tabObj ps):=I.aO P _ hP
 have hg:=I.ok.mod.glob.keeps I.bk
 have Ko:mainGlobals≠P:=λq=>by
  obtain⟨o,es,ep,e,_⟩:=I.ok.mod.glob
  have:=(I.bs _ _ e).2
  rw [q,hP] at this;cases this
 obtain⟨bm,ob,b1,b2,b3,b4,b5,b6,b7⟩:=KZ
 have hB:s.heap.BuiltinsAt X.mg P:=⟨bm,ob,b1,b2,b3,(λq=>by
  have:=(I.bs _ _ b4).2
  rw [q,hP] at this;cases this),I.bk _ _ b4,b5,b6,b7⟩
 refine PySem.W.kla_eval BD ?_;cases hm:codeAmong pos ps.toList with
 |none=>
  refine PySem.W.kla_makeFunction (mg:=X.mg) yy I.ok.glob hg pR (C.keeps I.bk) HX ht hm Ko hB λc' fA h' tk hx zi cD Iq Lc=>?_
  obtain⟨c₂,oc,vs,t,e2,hoc,hd,hv⟩:=Iq
  cases e2;have Cm:H c'=none:=I.aO.fresh zi
  have hsz:(zz9 s)<=h'.objs.size:=zzU zi (Nat.le_of_lt cD)
  have iM:H h'.objs.size=none:=I.aO.fresh hsz
  refine h h'.objs.size c' oc vs t fA _ _ tk iM (.inl Cm) (zzb cD) (λz=>by rw [z,hP] at iM;cases iM) (λz=>by rw [z,hP] at Cm;cases Cm) hd hv ?_ ?_ ⟨_,rfl⟩
   (I.lam hP (λb o hb e=>zzB _ (hx b o hb e)) (zzB _ Lc) ⟨_,rfl⟩ (.inl ⟨Cm,zi⟩) (zzB _ hoc) hsz (zzX _ rfl) (zzb cD))
  ·rw [Array.toList_append];exact TriplesOk_snoc _ _ _ _ ht
  ·intro p cv e;rw [Array.toList_append] at e;exact oC _ ht e
 |some cv=>
  obtain⟨c',oc,cM,t,rfl,fG,hR,hd,hv⟩:=hit cv hm
  refine PySem.W.kla_makeFunctionHit (mg:=X.mg) yy I.ok.glob hg pR (C.keeps I.bk) HX ht hm hB λfA h' tk hk hsz=>?_
  have iM:H h'.objs.size=none:=I.aO.fresh hsz
  have sf:s.heap.get? c'=some oc:=(I.aO c' _ fG).1
  have B3:c'≠h'.objs.size:=λz=>by rw [z,iM] at fG;cases fG
  refine h h'.objs.size c' oc cM t fA ps _ tk iM (.inr ⟨fG,hR⟩) B3 (λz=>by rw [z,hP] at iM;cases iM) (λz=>by rw [z,hP] at fG;cases fG) hd hv ht (λp cv e=>.inl e) ⟨#[],by simp⟩
   (I.lam hP (λb o hb e=>zzB _ (hk b o e)) (zzB _ (hk _ _ HX)) ⟨#[],by simp⟩ (.inr fG) (zzB _ (hk _ _ sf)) hsz (zzX _ rfl) B3)
end
section
end
section
end
section
variable{a b:Expr}
end
section
end
section
variable{κ:Type} [DecidableEq κ]
noncomputable def mU(bo:List (κ×V))(k:κ):Option V:=(bo.find? λkv=>decide (kv.1=k)).map (·.2)
noncomputable def putK(bo:List (κ×V))(k:κ)(v:V):List (κ×V):=
 if(bo.any λkv=>decide (kv.1=k))=true then bo.map (λkv=>if kv.1=k then(kv.1,v) else kv) else bo++[(k,v)]
def m5{p:κ×V}{r:List (κ×V)}{k:κ}(e:p.1=k):mU (p::r) k=some p.2:=by simp [mU,List.find?_cons,e]
def l6{p:κ×V}{r:List (κ×V)}{k:κ}(e:¬p.1=k):mU (p::r) k=mU r k:=by simp [mU,List.find?_cons,e]
def KV.any{bo:List (κ×V)}{vs:List (κ×Value)}(r:KV bo vs)(k:κ):(bo.any λkv=>decide (kv.1=k))=vs.any λkv=>decide (kv.1=k):=by
 unfold KV at r
 induction r with
 |nil=>rfl
 |cons h t ih=>rw [List.any_cons,List.any_cons,ih,h.1]
def KV.FG{bo:List (κ×V)}{vs:List (κ×Value)}(r:KV bo vs)(k:κ){y:V}{u:Value}(ry:RelV y u):
 KV (bo.map λkv=>if kv.1=k then(kv.1,y) else kv) (vs.map λkv=>if kv.1=k then(kv.1,u) else kv):=by
 unfold KV at r⊢
 induction r with
 |nil=>exact .nil
 |@cons p q ps qs h t ih=>
  rw [zzF,zzF];refine .cons ?_ ih;obtain⟨h1,h2⟩:=h
  by_cases e:p.1=k
  ·rw [if_pos e,if_pos (h1.symm.trans e)];exact⟨h1,ry⟩
  ·rw [if_neg e,if_neg (λz=>e (h1.trans z))];exact⟨h1,h2⟩
def KV.put{bo:List (κ×V)}{vs:List (κ×Value)}(r:KV bo vs)(k:κ){y:V}{u:Value}(ry:RelV y u):KV (putK bo k y) (stored vs k u):=by
 unfold putK stored;rw [r.any k]
 by_cases e:(vs.any λkv=>decide (kv.1=k))=true
 ·rw [if_pos e,if_pos e];exact r.FG k ry
 ·rw [if_neg e,if_neg e];exact Paired.snoc r ⟨rfl,ry⟩
end
def DI{P:Program}{w:World}{k:Key}{u:Value}(r:RelV (kV k) u):(cE P w).is k u=true:=by
 cases k with
 |inl i=>obtain⟨t,e⟩:=(show∃t,u=Value.int i t from r);subst e;exact l8 P w i t
 |inr x=>obtain⟨t,e⟩:=(show∃t,u=Value.str x t from r);subst e;exact my P w x t
theorem kq{P:Program}{w:World}:∀{ks:List Key} {us:List Value},Vals (ks.map kV) us->ItemsAre (cE P w) ks us
 |[],_,r=>by rw [List.map_nil] at r;cases r;exact .nil
 |k::ks,_,r=>by
  rw [zzF] at r;cases r with
  |cons h t=>exact .cons (DI h) (kq t)
abbrev KT(H:Hp):List (List Key×V)->List (List Key×Addr×Value)->Prop:=Paired λp q=>p.1=q.1/\H q.2.1=some (.tup (p.1.map kV))/\RelV p.2 q.2.2
def KT.val{H:Hp}{bo:List (List Key×V)}{xs:List (List Key×Addr×Value)}(r:KT H bo xs)(k:List Key):qM (mU bo k) ((atKey xs k).map (·.2)):=by
 induction r with
 |nil=>exact True.intro
 |@cons p q ps qs h t ih=>
  obtain⟨h1,_,h2⟩:=h
  by_cases e:p.1=k
  ·have e':q.1=k:=h1.symm.trans e
   have b:atKey (q::qs) k=some q.2:=by simp [atKey,List.find?_cons,e']
   rw [m5 e,b];exact h2
  ·have e':¬q.1=k:=λz=>e (h1.trans z)
   have b:atKey (q::qs) k=atKey qs k:=by simp [atKey,List.find?_cons,e']
   rw [l6 e,b];exact ih
def KT.keeps{H H':Hp}{bo:List (List Key×V)}{xs:List (List Key×Addr×Value)}(r:KT H bo xs)(ht:∀b ys,H b=some (.tup ys)->H' b=some (.tup ys)):KT H' bo xs:=
 Paired.AZ r λ_ _ z=>⟨z.1,ht _ _ z.2.1,z.2.2⟩
section
variable{P:Program}{w:World}{H:Hp}{h:Heap}{a:Addr}
def Ds{u:HO}(ok:dF P w H h)(e:Rd H a u):bS P w H h a u:=e.ok ok
def t6{ks:List Key}(ok:dF P w H h)(e:H a=some (.tup (ks.map kV))):(tupleKind (cE P w)).is h ks a:=by
 obtain⟨_,aj,r,o,h1,h2,n,h3⟩:=(show bS P w H h a (.tup (ks.map kV)) from ok a _ e)
 exact⟨o,aj.toArray,n,h1,h2,h3,by simpa using kq r⟩
def yi{bo:List (List Key×V)}(ok:dF P w H h)(e:Rd H a (.dT bo)):bo.length<=sizeLine/\(a==sysModules)=false/\
 ∃xs,KT H bo xs/\h.DictOfH (tupleKind (cE P w)) a xs:=by
 obtain⟨z,y,xs,r,o,es,ep,h1,h2,h3,h4,h5⟩:=(show bS P w H h a (.dT bo) from Ds ok e)
 refine⟨z,y,xs,r,o,es,ep,h1,h2,h3,h4,λx hx=>?_,h5⟩
 have all:∀{l:List (List Key×V)} {m:List (List Key×Addr×Value)},KT H l m->∀x∈m,(tupleKind (cE P w)).is h x.1 x.2.1:=by
  intro l m q
  induction q with
  |nil=>intro x hx;exact nomatch hx
  |@cons p q ps qs hq t ih=>
   intro x hx;rcases zzm.mp hx with e|hx
   ·subst e;exact t6 ok (by rw [<-hq.1];exact hq.2.1)
   ·exact ih x hx
 exact all r x hx
variable{X:Cx}{aa:List (Addr×Obj)}{σ:St}{s:Shared}
theorem wJ{h':Heap}{t':Nat}{ob:HO}(I:Inv X aa σ H s)(mu:EM (H a))(hs:Heap.SameBut a s.heap h')(he:∃q,h'.get? a=some q)(new:bS X.prog X.w (upd H a ob) h' a ob):
 Inv X aa σ (upd H a ob) {s with heap:=h',toks:=t'}:=
 I.write (x:=a) (e:=a) mu (.inl rfl) (λb q hb z=>(hs.2 b hb).trans z) he new
end
end L2
namespace Att
open PySem PySem.W PySem.Calls PyProof.Rows
section
end
end Att
namespace L2
open PySem PySem.Spec PyProof.Rows
section
variable{prog:Program}{w:World}{κ:Type} [DecidableEq κ]{knd:HeapKind prog w κ}{A:Around}{E:Value->Shared->Prop}{s:Shared}{d a:Addr}{xs:List (κ×Addr×Value)}
theorem kO(d:Addr)(lo:(d==sysModules)=false):MeetsIn prog w (Builtin.«dict.__len__» ⟨[.ref d],[]⟩) (λ_ R s=>∃xs,s.heap.DictOfH knd d xs/\R (.ok (.ret (.int xs.length s.toks))) {s with toks:=s.toks+1}):=
 .of_wp λA R s ⟨xs,⟨o,es,ep,h1,_,h2,h3,_⟩,h⟩=>by
  show wpAny _ _ (dictSize d>>=λn=>_) _ _ s
  unfold dictSize;refine zzA (zzA (wpAny_dictEntries h1 h2 (zzG (zzA (wpAny_pendingCount_other lo (wpAny_ret_mkInt ?_))))));rw [Nat.add_zero,size_of_entries h3];exact h
def zW{Q:Value->Shared->Prop}(lo:(d==sysModules)=false)(hm:s.heap.DictOfH knd d xs)(hf:(xs.length:Int)<2^63)(h:Q (.int xs.length (s.toks+1)) {s with toks:=s.toks+1+1}):wpAny (model prog w) A (call (.builtin "len") [.ref d]) Q E s:=by
 refine Calls.call_function_entry kind_len plain_len entry_len (args_len1 _) ?_;unfold Builtin.«len»;refine zzA (m:=oneArg "len" _) (zzG (zzA (m:=callSpecial? (.ref d) (Str.ofString "__len__")) (wpAny_callSpecial?_slot (name:=Str.ofString "__len__") hm.typeIs F.slot_dict_len
  (call_meetsIn F.slot_dict_len hm.typeIs F.entry_dict_len (F.args_dict_len_1 _) (kO (knd:=knd) d lo) ⟨xs,hm,?_⟩))))
 show wpAny _ _ (holding _ _>>=λz=>_) _ _ {s with toks:=s.toks+1}
 refine zzA (wpAny_holding (zzG (zzA (wpAny_letGo ?_))));show wpAny _ _ (if((xs.length:Nat):Int)<0 then _ else(if((xs.length:Nat):Int)>=2^63 then _ else _)) _ _ _;rw [if_neg (by omega),if_neg (by omega)];exact zzA (wpAny_mkInt (zzG ⟨_,rfl,h⟩))
def xx{o:Obj}{es:Array DictEntry}{ep:Nat}{Q:Value->Shared->Prop}(lo:(d==sysModules)=false)(h1:s.heap.get? d=some o)(hc:o.ExactDict)(h2:o.data=.dict es ep)
 (hQ:Q (.ref (zz9 s)) {s with heap:=s.heap.push {cls:=.type "dict_keyiterator",data:=.fields #[.ref d,.int 0 0,.int es.size 0,.int ep 0]}}):wpAny (model prog w) A (pyIter (.ref d)) Q E s:=by
 have T:s.TypeIs (.ref d) "dict":=⟨o,h1,hc.1⟩
 refine wpAny_pyIter_slot T F.slot_dict_iter (wpAny_call_entry F.slot_dict_iter T F.entry_dict_iter ?_ (F.args_dict_iter_1 _));unfold Builtin.«dict.__iter__» Builtin.Dict.dictSlotNone;refine zzA (zzA (wpAny_notOrdered_dict T ?_));show wpAny _ _ (pure (Value.ref d):Sem Value) _ _ s;refine zzG ?_;show wpAny _ _ (Builtin.Dict.showsAll d>>=λ_=>_) _ _ s;unfold Builtin.Dict.showsAll;rw [if_neg (by rw [lo];exact zzf)];refine zzA (zzG (zzA (wpAny_dictEntries h1 h2 (zzA (wpAny_dictEpoch h1 h2 ?_)))));refine zzA (wpAny_newObj_type (zzG ⟨_,rfl,"dict_keyiterator",_,⟨_,zzX _ rfl,rfl⟩,F.slot_dict_keyiterator_next.lookup,?_⟩))
 simpa [rawInt] using hQ
def wW{it:Addr}{i ep:Nat}{o:Obj}{es:Array DictEntry}{Q:Option Value->Shared->Prop}(st:s.heap.IsKeyIter it d i es.size ep)(h1:s.heap.get? d=some o)(h2:o.data=.dict es ep)(hi:i<es.size)
 (hQ:∀h',h'.IsKeyIter it d (i+1) es.size ep->Heap.SameBut it s.heap h'->Q (some es[i].key) {s with heap:=h'}):wpAny (model prog w) A (pyNext (.ref it)) Q E s:=by
 obtain⟨oi,g1,g2,g3⟩:=id st
 have own:Builtin.Dict_items.ownsTuple "dict_keyiterator"=false:=by decide
 unfold pyNext;refine zzA (wpAny_attempt (wpAny_callSpecial?_slot (name:=Str.ofString "__next__") st.typeIs F.slot_dict_keyiterator_next (wpAny_call_entry F.slot_dict_keyiterator_next st.typeIs F.entry_dict_keyiterator_next ?_ (F.args_dict_keyiterator_next_1 _))));refine zzA (zzG (zzA (zzA ?_)))
 first|refine zzA (wpAny_typeNameOfWhole_keyiter st.typeIs (zzG (zzA (wpAny_fieldsOf g1 g3 ?_))))|refine zzA (wpAny_typeNameOf_keyiter st.typeIs (zzG (zzA (wpAny_fieldsOf g1 g3 ?_))))
 simp! [own,zze,if_false];show wpAny _ _ (if(Value.ref d==Value.none)=true then _ else _:Sem _) _ _ s;rw [if_neg (show¬((Value.ref d==Value.none)=true) from zzf)];refine zzA (zzG (zzA (wpAny_dictEntries h1 h2 ?_)));rw [if_neg (by simp)];refine zzA (zzG (zzA (wpAny_dictEpoch h1 h2 ?_)));rw [if_neg (by simp)];refine zzG ?_;simp! [show¬((i:Int)<0) from by omega,if_false,zz4,Array.getElem?_eq_getElem hi];refine zzA ?_
 first|refine zzA (wpAny_typeNameOfWhole_keyiter st.typeIs (zzG (zzA (wpAny_isOneOf_keyiter st.typeIs ?_))))|refine zzA (wpAny_typeNameOf_keyiter st.typeIs (zzG (zzA (wpAny_isOneOf_keyiter st.typeIs ?_))))
 show wpAny _ _ (setField (.ref it) 1 (rawInt ((i:Int)+1))>>=λ_=>_) _ _ s
 have ni:(s.heap.update it (Obj.mapFields (·.setIfInBounds 1 (rawInt ((i:Int)+1))))).IsKeyIter it d (i+1) es.size ep:=
  ⟨_,Heap.get?_update_self _ g1 (Obj.isFreed_of_fields (Obj.data_mapFields g3 _)),(Obj.cls_mapFields ..).trans g2,by rw [Obj.data_mapFields g3];simp [rawInt]⟩
 refine zzA (wpAny_setField g1 g3 (by simp) (zzA (wpAny_holding (zzA (wpAny_isOneOf_keyiter (s:={s with heap:=s.heap.update it (Obj.mapFields (·.setIfInBounds 1 (rawInt ((i:Int)+1))))}) ni.typeIs ?_)))));show wpAny _ _ (pure es[i].key:Sem Value) _ _ _;exact zzG (zzG ⟨_,rfl,zzG (hQ _ ni (zzu ..))⟩)
def za{it:Addr}{i ep:Nat}{o:Obj}{es:Array DictEntry}{Q:Option Value->Shared->Prop}(hh:A.handled=none)(st:s.heap.IsKeyIter it d i es.size ep)(h1:s.heap.get? d=some o)(h2:o.data=.dict es ep)(hi:es.size<=i)
 (hQ:∀h',Heap.ExtBut it s.heap h'->Q none {s with heap:=h'}):wpAny (model prog w) A (pyNext (.ref it)) Q E s:=by
 obtain⟨oi,g1,g2,g3⟩:=id st
 have own:Builtin.Dict_items.ownsTuple "dict_keyiterator"=false:=by decide
 unfold pyNext;refine zzA (wpAny_attempt (wpAny_callSpecial?_slot (name:=Str.ofString "__next__") st.typeIs F.slot_dict_keyiterator_next (wpAny_call_entry F.slot_dict_keyiterator_next st.typeIs F.entry_dict_keyiterator_next ?_ (F.args_dict_keyiterator_next_1 _))));refine zzA (zzG (zzA (zzA ?_)))
 first|refine zzA (wpAny_typeNameOfWhole_keyiter st.typeIs (zzG (zzA (wpAny_fieldsOf g1 g3 ?_))))|refine zzA (wpAny_typeNameOf_keyiter st.typeIs (zzG (zzA (wpAny_fieldsOf g1 g3 ?_))))
 simp! [own,zze,if_false];show wpAny _ _ (if(Value.ref d==Value.none)=true then _ else _:Sem _) _ _ s;rw [if_neg (show¬((Value.ref d==Value.none)=true) from zzf)];refine zzA (zzG (zzA (wpAny_dictEntries h1 h2 ?_)));rw [if_neg (by simp)];refine zzA (zzG (zzA (wpAny_dictEpoch h1 h2 ?_)));rw [if_neg (by simp)];refine zzG ?_;simp! [show¬((i:Int)<0) from by omega,if_false,zz4,Array.getElem?_eq_none hi];refine zzA ?_
 first|refine zzA (wpAny_typeNameOfWhole_keyiter st.typeIs (zzG ?_))|refine zzA (wpAny_typeNameOf_keyiter st.typeIs (zzG ?_))
 show wpAny _ _ (setField (.ref it) 0 .none>>=λ_=>_) _ _ s
 refine zzA (wpAny_setField g1 g3 (by simp) ?_);show wpAny _ _ (newExc (.type "StopIteration") []>>=λ_=>_) _ _ _
 refine zzA ?_;simp! [newExc,newTuple];refine zzA (wpAny_newObj_type (zzA (m:=firstArgMember _ _) (wpAny_of_eq (a:=Value.none) (by first|rfl|(simp! [firstArgMember];rfl)) (wpAny_newObj_type ?_ (by size_fits)))) (by size_fits));simp! [raiseNew];refine zzA (wpAny_handled ?_);rw [show A.in1.handled=none from hh];refine zzA (zzG (wpAny_throw ?_));refine zzA (wpAny_isInstance (T:="StopIteration") (b:=true) ⟨_,zzX _ rfl,rfl⟩ isSubtype_stop ?_);exact zzG (hQ _ (((zzu ..).extBut.push _).push _))
end
def KT.len{H:Hp}{bo:List (List Key×V)}{xs:List (List Key×Addr×Value)}(r:KT H bo xs):bo.length=xs.length:=Paired.length r
section
variable{X:Cx}{aa:List (Addr×Obj)}{σ:St}{H:Hp}{s:Shared}{a:Addr}{bo:List (List Key×V)}{A:Around}{E:Value->Shared->Prop}
def BS{Q:Value->Shared->Prop}(I:Inv X aa σ H s)(e:Rd H a (.dT bo))(h:∀t s',Inv X aa σ H s'->Q (.int bo.length t) s'):wpAny (model X.prog X.w) A (call (.builtin "len") [.ref a]) Q E s:=by
 obtain⟨z,lo,xs,rel,dd⟩:=yi I.aO e
 refine zW lo dd (by rw [<-rel.len];rw [sizeLine_eq] at z;omega) ?_;rw [<-rel.len];exact h _ _ (I.tok _)
def Inv.freeze(I:Inv X aa σ H s)(e:H a=some (.dT bo)):∃o,Inv X aa σ (upd H a (.bI o (.dT bo))) s:=by
 obtain⟨z,lo,xs,rel,o,es,ep,h1,h2,h3,h4,h5⟩:=(show bS X.prog X.w H s.heap a (.dT bo) from I.aO a _ e)
 refine⟨o,wJ (h':=s.heap) (t':=s.toks) I (by rw [e];exact True.intro) ⟨rfl,λ_ _=>rfl⟩ ⟨o,h1⟩ ⟨h1,z,lo,xs,?_,o,es,ep,h1,h2,h3,h4,h5⟩⟩
 exact KT.keeps (H:=H) rel λc ys ec=>by rw [af (EA ec e (λz=>nomatch z))];exact ec
end
noncomputable def HY(a:Addr)(o:Obj)(bo:List (List Key×V)):It:=
 ⟨λi H=>H a=some (.bI o (.dT bo))/\i<bo.length,λi H x H'=>H'=H/\∃b k v,x=.ref b/\bo[i]?=some (k,v)/\H b=some (.tup (k.map kV)),λi H=>H a=some (.bI o (.dT bo))/\bo.length<=i⟩
def ou{α β:Type}{R:α->β->Prop}{l:List α}{m:List β}(r:Paired R l m):∀{i:Nat} {p:α} {q:β},l[i]?=some p->m[i]?=some q->R p q:=by
 induction r with
 |nil=>intro i p q h;simp at h
 |cons h t ih=>
  intro i p q h1 h2;cases i with
  |zero=>simp at h1 h2;subst h1 h2;exact h
  |succ i=>simp at h1 h2;exact ih h1 h2
def D2{P:Program}{w:World}{H:Hp}{h:Heap}{a:Addr}{bo:List (List Key×V)}(x:bS P w H h a (.dT bo)):(a==sysModules)=false/\(bo.map (·.1)).Nodup/\∃o es ep,h.get? a=some o/\o.ExactDict/\o.data=.dict es ep/\es.size=bo.length/\∀(i:Nat) (hi:i<es.size),∃b k v,es[i].key=.ref b/\bo[i]?=some (k,v)/\H b=some (.tup (k.map kV))/\RelV v es[i].val:=by
 obtain⟨z,lo,xs,rel,o,es,ep,h1,h2,h3,h4,h5⟩:=x
 have hl:es.size=xs.length:=size_of_entries h4
 have hx:bo.length=xs.length:=Paired.length rel
 have ks:bo.map (·.1)=xs.map (·.1):=by
  clear hl hx h4 h5 z
  induction rel with
  |nil=>rfl
  |cons h t ih=>rw [zzF,zzF,h.1,ih]
 refine⟨lo,ks▸h5,o,es,ep,h1,h2,h3,hl.trans hx.symm,λi hi=>?_⟩
 have e1:es[i]?=(xs[i]?).map (entryOfKey (tupleKind (cE P w))):=entry_at h4 i
 rw [zzg (show i<xs.length by omega),Array.getElem?_eq_getElem hi] at e1;have q:=ou rel (zzg (show i<bo.length by omega)) (zzg (show i<xs.length by omega))
 rw [zzq e1];exact⟨_,_,_,rfl,zzg (show i<bo.length by omega),q.2.1,q.2.2⟩
def iT{X:Cx}{aa:List (Addr×Obj)}{σ:St}{H:Hp}{s:Shared}{a:Addr}{o:Obj}{bo:List (List Key×V)}(I:Inv X aa σ H s)(e:H a=some (.bI o (.dT bo))):
 (a==sysModules)=false/\s.heap.get? a=some o/\o.ExactDict/\∃es ep,o.data=.dict es ep/\es.size=bo.length/\∀(i:Nat) (h:i<es.size),∃b k v,es[i].key=.ref b/\bo[i]?=some (k,v)/\H b=some (.tup (k.map kV)):=by
 obtain⟨h0,ok⟩:=(show bS X.prog X.w H s.heap a (.bI o (.dT bo)) from I.aO a _ e)
 obtain⟨lo,_,o',es,ep,h1,h2,h3,hl,hk⟩:=D2 ok
 rw [h0] at h1;cases h1;exact⟨lo,h0,h2,es,ep,h3,hl,λi hi=>let⟨b,k,v,e1,e2,e3,_⟩:=hk i hi;⟨b,k,v,e1,e2,e3⟩⟩
def rM{P:Program}{w:World}{K:zz8}{tg:Expr}{a it:Addr}{o:Obj}{es:Array DictEntry}{ep:Nat}{bo:List (List Key×V)}(hd:o.data=.dict es ep)(hl:es.size=bo.length):
 Turn P w K tg (HY a o bo) [it] it (λi h=>h.IsKeyIter it a i es.size ep) where
 mem:=by simp
 obj:=λi h st b hb=>by
  have e:b=it:=by simpa using hb
  subst e;obtain⟨q,e,c,d⟩:=st
  exact⟨q,e,λv z=>by rw [d] at z;cases z⟩
 keep:=λi h h' st k=>st.at λo e=>k it (by simp) o e
 item:=by
  intro X hP hw hK hc i aa s σ H E I hf st hg;subst hP hw hK;obtain⟨g1,g2⟩:=hg
  obtain⟨lo,h0,hx,es',ep',h3,rZ,hks⟩:=iT I g1
  rw [hd] at h3;cases h3;obtain⟨f0,f1,f2,f3,f4,f5⟩:=hf it (by simp)
  have hi:i<es.size:=by omega
  refine wW st h0 hd hi λh' ni sb=>?_
  obtain⟨b,k,v,e1,e2,e3⟩:=hks i hi
  have I1:Inv X aa σ H {s with heap:=h'}:=I.turned (t':=s.toks) (λb o hb e=>(sb.2 b hb).trans e) f0 f1 f3 f4 f5
  obtain⟨q,e,c,d⟩:=id ni
  refine⟨_,rfl,o5 (s:={s with heap:=h'}) e c d (by decide) ⟨.ref b,H,I1,?_,⟨rfl,b,k,v,rfl,e2,e3⟩,ni,λb hb=>(hf b hb).1⟩⟩
  rw [e1];exact rfl
 done:=by
  intro X hP hw hK hc i aa s σ H E I hf st hg;subst hP hw hK;obtain⟨g1,g2⟩:=hg
  obtain⟨lo,h0,hx,es',ep',h3,rZ,hks⟩:=iT I g1
  rw [hd] at h3;cases h3;obtain⟨f0,f1,f2,f3,f4,f5⟩:=hf it (by simp)
  exact za (I.ok.hd hc) st h0 hd (by omega) λh' eb=>⟨rfl,I.turned (t':=s.toks) (λb o hb e=>eb b o hb e) f0 f1 f3 f4 f5⟩
 self:=λ_ _ _ _ _ st h=>wpAny_pyIter_keyiter st h
noncomputable def F6(tl:TE):TI:=λσ H R=>tl σ H λx H1=>∃a o bo,x=.ref a/\H1 a=some (.bI o (.dT bo))/\R (HY a o bo) H1
section
variable{X:Cx}{o e:Expr}
def yV{tg l:Expr}{tl:TE}(hl:PE X l tl):PI X tg l (F6 tl):=by
 intro aa s σ H R I h;refine bD (hl aa s σ H _ I h) λv s1 ⟨x,H1,I1,r1,q1⟩=>?_
 obtain⟨a,o,bo,e,hq,q⟩:=q1
 subst e;cases r1;obtain⟨lo,h0,hx,es,ep,h3,rZ,hks⟩:=iT I1 hq
 refine xx lo h0 hx h3 ?_;refine⟨(zz9 s1),[(zz9 s1)],_,_,H1,rfl,I1.kept (t':=s1.toks) λb o e=>zzB _ e,rM h3 rZ,⟨_,zzX _ rfl,rfl,rfl⟩,λb hb=>?_,q⟩
 have e:b=(zz9 s1):=by simpa using hb
 subst e;exact I1.kM (zzE _) (I1.aO.fresh (zzE _))
end
end L2
namespace L2
open PySem PySem.Spec PyProof.Rows PySem.W
section
variable{n:Nat}(h0:0<n)
include h0
end
end L2
namespace L2
open PySem PySem.Spec PyProof.Rows
end L2
namespace L2
open PySem PySem.Spec PyProof.Rows PySem.W
section
variable{a:Addr}
end
end L2
namespace L2
open PySem PySem.Spec PyProof.Rows
end L2
namespace Ci
open PySem L2
def aC{p:Prop}(h:false=true):p:=absurd h zzf
inductive PV where
 |bO|bl (b:Bool)|int (i:Int)|str (z:Str)
 |tup (xs:List PV)|lst (xs:List PV)
 |exc (c:Str)
 |d8 (ks:List (List Int)) (vs:List PV)
 deriving Inhabited
structure Wd where
 K:zz8
 mg:Str->Option Value
 xs:List Str
 ts:List (Addr×Str):=[]
def j8(K:zz8)(H:Hp)(a:Addr)(vs:List V):Prop:=
 Rd H a (.lst vs)\/∃(aj:Array Value) (n:Nat),K.lookup a=some {cls:=.type "list",data:=.seq aj n}/\aj.size<=sizeLine/\Vals vs aj.toList
def yP(K:zz8)(G:Hp)(a:Addr)(vs:List V):Prop:=G a=some (.tup vs)\/eg K G a vs/\∃z,V.str z∈vs
theorem yP.sq{K:zz8}{G:Hp}{a:Addr}{vs:List V}:yP K G a vs->eg K G a vs
 |.inl h=>.inl (.inl h)
 |.inr h=>h.1
noncomputable def kz(ks:List (List Int))(us:List V):List (List Key×V):=(ks.map λk=>k.map Sum.inl).zip us
mutual
def Rep(W:Wd)(G:Hp):PV->V->Prop
 |.bO,v=>v=.bO
 |.bl b,v=>v=.bl b
 |.int i,v=>v=.int i
 |.str z,v=>v=.str z
 |.tup xs,v=>∃a vs,v=.ref a/\yP W.K G a vs/\ai W G xs vs
 |.lst xs,v=>∃a vs,v=.ref a/\j8 W.K G a vs/\ai W G xs vs
 |.exc c,v=>∃a C,v=.ref a/\c∈W.xs/\W.mg c=some (.ref C)/\G a=some (eL a C)
 |.d8 ks vs,v=>∃a o us,v=.ref a/\ks.length=us.length/\G a=some (.bI o (.dT (kz ks us)))/\ai W G vs us
def ai(W:Wd)(G:Hp):List PV->List V->Prop
 |[],vs=>vs=[]
 |p::ps,vs=>∃v r,vs=v::r/\Rep W G p v/\ai W G ps r
end
def av.tup{K:zz8}{H H':Hp}{a:Addr}{xs:List V}(e:av H H')(h:eg K H a xs):eg K H' a xs:=by
 rcases h with(h|⟨o,h⟩)|h
 ·exact .inl (.inl (e _ _ h))
 ·exact .inl (.inr ⟨o,e _ _ h⟩)
 ·exact .inr h
def av.tp{K:zz8}{H H':Hp}{a:Addr}{xs:List V}(e:av H H')(h:yP K H a xs):yP K H' a xs:=h.elim (λz=>.inl (e _ _ z)) λz=>.inr ⟨av.tup e z.1,z.2⟩
def av.rd{H H':Hp}{a:Addr}{u:HO}(e:av H H')(h:Rd H a u):Rd H' a u:=by
 rcases h with h|⟨o,h⟩
 ·exact .inl (e _ _ h)
 ·exact .inr ⟨o,e _ _ h⟩
def av.ls{K:zz8}{H H':Hp}{a:Addr}{vs:List V}(e:av H H')(h:j8 K H a vs):j8 K H' a vs:=h.elim (λz=>.inl (av.rd e z)) .inr
section
variable{W:Wd}{G G':Hp}
mutual
theorem Rep.same(s:av G G'):∀(p:PV) {v:V},Rep W G p v->Rep W G' p v
 |.bO,_,h=>by simpa only [Rep] using h
 |.bl b,_,h=>by simpa only [Rep] using h
 |.int i,_,h=>by simpa only [Rep] using h
 |.str z,_,h=>by simpa only [Rep] using h
 |.tup xs,_,h=>by
  simp! [Rep] at h⊢;obtain⟨a,vs,e,q,l⟩:=h
  exact⟨a,vs,e,av.tp s q,ai.same s xs l⟩
 |.lst xs,_,h=>by
  simp! [Rep] at h⊢;obtain⟨a,vs,e,q,l⟩:=h
  exact⟨a,vs,e,av.ls s q,ai.same s xs l⟩
 |.exc c,_,h=>by
  simp! [Rep] at h⊢;obtain⟨a,C,e,x,m,q⟩:=h
  exact⟨a,C,e,x,m,s _ _ q⟩
 |.d8 ks vs,_,h=>by
  simp! [Rep] at h⊢;obtain⟨a,o,us,e,n,m,l⟩:=h
  exact⟨a,o,us,e,n,s _ _ m,ai.same s vs l⟩
theorem ai.same(s:av G G'):∀(ps:List PV) {vs:List V},ai W G ps vs->ai W G' ps vs
 |[],_,h=>by simpa only [ai] using h
 |p::ps,_,h=>by
  simp! [ai] at h⊢;obtain⟨v,r,e,h1,h2⟩:=h
  exact⟨v,r,e,Rep.same s p h1,ai.same s ps h2⟩
end
theorem ai.paired:∀{ps:List PV} {vs:List V},ai W G ps vs->Paired (λv p=>Rep W G p v) vs ps
 |[],_,h=>by simp! [ai] at h;subst h;exact .nil
 |p::ps,_,h=>by
  simp! [ai] at h;obtain⟨v,r,rfl,h1,h2⟩:=h
  exact .cons h1 (ai.paired h2)
def ai.length{ps:List PV}{vs:List V}(h:ai W G ps vs):vs.length=ps.length:=iD h.paired
def ai.nil:ai W G [] []:=by simp! [ai]
def ai.cons{p:PV}{v:V}{ps:List PV}{vs:List V}(h:Rep W G p v)(t:ai W G ps vs):ai W G (p::ps) (v::vs):=by simp! [ai];exact⟨_,_,rfl,h,t⟩
def ai.cx{p:PV}{ps:List PV}{vs:List V}(h:ai W G (p::ps) vs):∃v r,vs=v::r/\Rep W G p v/\ai W G ps r:=by simpa only [ai] using h
theorem ai.append:∀{ps qs:List PV} {vs us:List V},ai W G ps vs->ai W G qs us->ai W G (ps++qs) (vs++us)
 |[],_,_,_,h,k=>by simp! [ai] at h;subst h;exact k
 |p::ps,_,_,_,h,k=>by
  obtain⟨v,r,rfl,h1,h2⟩:=h.cx
  exact .cons h1 (h2.append k)
def ai.get:∀{ps:List PV} {vs:List V} {i:Nat} {v:V},ai W G ps vs->vs[i]?=some v->∃p,ps[i]?=some p/\Rep W G p v:=λh e=>km h.paired e
theorem ai.lF:∀{ps:List PV} {vs:List V} {i:Nat} {p:PV},ai W G ps vs->ps[i]?=some p->∃v,vs[i]?=some v/\Rep W G p v
 |[],_,_,_,_,e=>by simp at e
 |p::ps,_,0,q,h,e=>by
  obtain⟨v,r,rfl,h1,h2⟩:=h.cx
  simp at e;subst e;exact⟨v,rfl,h1⟩
 |p::ps,_,i+1,q,h,e=>by
  obtain⟨v,r,rfl,h1,h2⟩:=h.cx
  obtain⟨u,e1,k⟩:=h2.lF (i:=i) (by simpa using e)
  exact⟨u,by simpa using e1,k⟩
theorem ai.drop:∀{ps:List PV} {vs:List V} (n:Nat),ai W G ps vs->ai W G (ps.drop n) (vs.drop n)
 |_,_,0,h=>by simpa using h
 |[],_,n+1,h=>by simp! [ai] at h;subst h;simp! [List.drop_nil];exact .nil
 |p::ps,_,n+1,h=>by
  obtain⟨v,r,rfl,h1,h2⟩:=h.cx
  simpa using h2.drop n
theorem ai.take:∀{ps:List PV} {vs:List V} (n:Nat),ai W G ps vs->ai W G (ps.take n) (vs.take n)
 |_,_,0,h=>by simp! [List.take_zero];exact .nil
 |[],_,n+1,h=>by simp! [ai] at h;subst h;simp! [List.take_nil];exact .nil
 |p::ps,_,n+1,h=>by
  obtain⟨v,r,rfl,h1,h2⟩:=h.cx
  simp! [List.take_succ_cons];exact .cons h1 (h2.take n)
end
def er(H H':Hp):Prop:=∀b o,H b=some o->(∀ps,o≠.ei ps)/\H' b=some o\/∃ps m,o=.ei ps/\H' b=some (.ei (ps++m))
def er.refl(H:Hp):er H H:=λb o h=>by
 cases o with
 |ei ps=>exact .inr ⟨ps,#[],rfl,by simpa using h⟩
 |_=>exact .inl ⟨(λ_ z=>nomatch z),h⟩
def er.trans{H H1 H2:Hp}(a:er H H1)(b:er H1 H2):er H H2:=λc o h=>by
 rcases a c o h with⟨n,e⟩|⟨ps,m,rfl,e⟩
 ·rcases b c o e with y|⟨ps,m,rfl,e2⟩
  ·exact .inl y
  ·exact absurd rfl (n ps)
 ·rcases b c _ e with⟨n,_⟩|⟨mJ,m',e2,e3⟩
  ·exact absurd rfl (n _)
  ·cases e2;exact .inr ⟨ps,m++m',rfl,by rw [e3,Array.append_assoc]⟩
def er.free{H H':Hp}(e:er H H'){l:Addr}(h:H' l=Option.none):H l=Option.none:=by
 cases q:H l with
 |none=>rfl
 |some o=>
  rcases e l o q with⟨_,z⟩|⟨_,_,_,z⟩
  ·rw [h] at z;cases z
  ·rw [h] at z;cases z
def er.at{H H':Hp}(e:er H H'){b:Addr}{o:HO}(h:H b=some o)(n:∀ps,o≠.ei ps):H' b=some o:=by
 rcases e b o h with⟨_,z⟩|⟨ps,_,rfl,_⟩
 ·exact z
 ·exact absurd rfl (n ps)
def er.lY{H H':Hp}(e:er H H'){b:Addr}(h:H b≠none)(n:∀vs,H b≠some (.tup vs)):∀vs,H' b≠some (.tup vs):=λvs z=>by
 cases q:H b with
 |none=>exact h q
 |some o=>
  rcases e b o q with⟨_,y⟩|⟨_,_,_,y⟩
  ·rw [z] at y;cases y;exact n vs q
  ·rw [z] at y;cases y
def er.of{H H':Hp}(e:av H H'):er H H':=λb o h=>by
 cases o with
 |ei ps=>exact .inr ⟨ps,#[],rfl,by simpa using e _ _ h⟩
 |_=>exact .inl ⟨(λ_ z=>nomatch z),e _ _ h⟩
def er.tup{K:zz8}{H H':Hp}{a:Addr}{xs:List V}(e:er H H')(h:eg K H a xs):eg K H' a xs:=by
 rcases h with(h|⟨o,h⟩)|h
 ·exact .inl (.inl (e.at h (λ_ z=>nomatch z)))
 ·exact .inl (.inr ⟨o,e.at h (λ_ z=>nomatch z)⟩)
 ·exact .inr h
def er.ls{K:zz8}{H H':Hp}{a:Addr}{vs:List V}(e:er H H')(h:j8 K H a vs):j8 K H' a vs:=by
 rcases h with(h|⟨o,h⟩)|h
 ·exact .inl (.inl (e.at h (λ_ z=>nomatch z)))
 ·exact .inl (.inr ⟨o,e.at h (λ_ z=>nomatch z)⟩)
 ·exact .inr h
theorem er.upd{H H':Hp}{a:Addr}{o:HO}(e:er H H')(h:H a=none):er H (upd H' a o):=λb u q=>by
 have hb:b≠a:=λz=>by rw [z,h] at q;cases q
 rw [af hb];exact e b u q
def bM(W:Wd)(G H:Hp):Prop:=∀P q,(P,q)∈W.ts->G P=none/\∃ps,H P=some (.ei ps)/\TriplesOk ps.toList/\
 ∀pos cv,codeAmong pos ps.toList=some cv->∃c' oc cM t,cv=.ref c'/\G c'=some (.bI oc bH)/\oc.data=.fields cM/\cM[1]?=some (.str q t)
theorem bM.same{W:Wd}{G G' H H':Hp}(t:bM W G H)(g:av G G')(own:∀a,H a≠none->(∀vs,H a≠some (.tup vs))->G a=none->G' a=none)(h:∀P ps,H P=some (.ei ps)->H' P=some (.ei ps)):bM W G' H':=λP q m=>by
 obtain⟨n,ps,e,tr,al⟩:=t P q m
 refine⟨own P (by rw [e];exact λz=>nomatch z) (by rw [e];exact λ_ z=>nomatch z) n,ps,h P ps e,tr,λpos cv y=>?_⟩
 obtain⟨c',oc,cM,t,e1,e2,e3,e4⟩:=al pos cv y
 exact⟨c',oc,cM,t,e1,g _ _ e2,e3,e4⟩
structure aw(W:Wd)(G H G' H':Hp):Prop where
 g:av G G'
 h:er H H'
 sub:av G' H'
 own:∀a,H a≠none->(∀vs,H a≠some (.tup vs))->G a=none->G' a=none
 tab:bM W G H->bM W G' H'
section
variable{W:Wd}
def aw.refl{G H:Hp}(s:av G H):aw W G H G H:=⟨av.refl _,er.refl _,s,λ_ _ _ h=>h,id⟩
def aw.trans{G H G1 H1 G2 H2:Hp}(a:aw W G H G1 H1)(b:aw W G1 H1 G2 H2):aw W G H G2 H2:=
 ⟨a.g.trans b.g,a.h.trans b.h,b.sub,λx hx ht hg=>b.own x (λz=>hx (a.h.free z)) (a.h.lY hx ht) (a.own x hx ht hg),λt=>b.tab (a.tab t)⟩
def hX{H:Hp}{p:Addr}{o:HO}(h:∀ps,H p≠some (.ei ps))(P:Addr)(ps:Array Value)(e:H P=some (.ei ps)):upd H p o P=some (.ei ps):=by
 rw [af (λz=>by subst z;exact h ps e)];exact e
theorem aw.new{G H:Hp}{p:Addr}{o:HO}(s:av G H)(h:H p=none):aw W G H (upd G p o) (upd H p o) where
 g:=bq (s.free h)
 h:=.of (bq h)
 sub:=λb u e=>by
  by_cases hb:b=p
  ·subst hb;rw [aq] at e⊢;exact e
  ·rw [af hb] at e⊢;exact s _ _ e
 own:=λa ha _ hg=>by
  have:a≠p:=λz=>by subst z;exact ha h
  rw [af this];exact hg
 tab:=λt=>t.same (bq (s.free h)) (λa ha _ hg=>by
  have:a≠p:=λz=>by subst z;exact ha h
  rw [af this];exact hg) (hX (λps z=>by rw [h] at z;cases z))
def aw.adopt{G H:Hp}{b:Addr}{vs:List V}(s:av G H)(h:H b=some (.tup vs)):aw W G H (upd G b (.tup vs)) H:=by
 have sm:av G (upd G b (.tup vs)):=λc u e=>by
  by_cases hc:c=b
  ·subst hc;rw [aq];have:=s _ _ e;rw [h] at this;exact this
  ·rw [af hc];exact e
 have ow:∀a,H a≠none->(∀vs,H a≠some (.tup vs))->G a=none->upd G b (.tup vs) a=none:=λa _ n e=>by
  have:a≠b:=λz=>by subst z;exact n vs h
  rw [af this];exact e
 exact⟨sm,er.refl _,λc u e=>by
  by_cases hc:c=b
  ·subst hc;rw [aq] at e;cases e;exact h
  ·rw [af hc] at e;exact s _ _ e,ow,λt=>t.same sm ow λ_ _ e=>e⟩
def aw.Ip{G H:Hp}{p:Addr}{o:HO}(s:av G H)(h:H p=none):aw W G H G (upd H p o):=
 ⟨av.refl _,.of (bq h),s.trans (bq h),λ_ _ _ hg=>hg,λt=>t.same (av.refl _) (λ_ _ _ h=>h) (hX (λps z=>by rw [h] at z;cases z))⟩
end
noncomputable def ba(scope:Scope):List Str:=((scope.names.filter λp=>p.2==.free).map (·.1)).reverse
noncomputable def okN(x:Str):Bool:=!(x=="__debug__")&&!(x=="__classdict__")&&!(x=="__name__")
noncomputable def eO(x:Str):Bool:=x.cps.toList.contains 64
def gf{α:Type}{a:α}{p:Prop}(h:(none:Option α)=some a):p:=nomatch h
def uw{α:Type}{o:Option α}{f:α->Bool}(h:o.any f=true):∃x,o=some x/\f x=true:=by
 cases o with
 |none=>cases h
 |some x=>exact⟨x,rfl,h⟩
noncomputable def fe:Expr->Option Str
 |.Name x _=>some x
 |_=>none
def bW{e:Expr}{x:Str}(h:fe e=some x):∃p,e=.Name x p:=by
 cases e with
 |Name y p=>cases h;exact⟨_,rfl⟩
 |_=>exact gf h
noncomputable def AJ:Expr->Option (Expr×List Expr×List Keyword×Pos)
 |.Call f a k p=>some (f,a,k,p)
 |_=>none
def iS{e:Expr}{q:Expr×List Expr×List Keyword×Pos}(h:AJ e=some q):e=.Call q.1 q.2.1 q.2.2.1 q.2.2.2:=by
 cases e with
 |Call f a k p=>cases h;rfl
 |_=>exact gf h
noncomputable def FL:List Arg->Option (List Str)
 |[]=>some []
 |[a]=>some [a.arg]
 |_=>none
noncomputable def ny(p:Arguments):Option (List Str):=if(p.posonlyargs.isEmpty&&p.vararg.isNone&&p.kwonlyargs.isEmpty&&p.kw_defaults.isEmpty&&p.kwarg.isNone&&p.defaults.isEmpty)=true then FL p.args else none
def oO{p:Arguments}{ps:List Str}(h:ny p=some ps):(p=⟨[],[],none,[],[],none,[]⟩/\ps=[])\/∃a,p=⟨[],[a],none,[],[],none,[]⟩/\ps=[a.arg]:=by
 obtain⟨a,b,c,d,e,f,g⟩:=p
 unfold ny at h;split at h
 ·rename_i q;simp! [zza,List.isEmpty_iff,Option.isNone_iff_eq_none] at q;obtain⟨⟨⟨⟨⟨q1,q2⟩,q3⟩,q4⟩,q5⟩,q6⟩:=q
  subst q1 q2 q3 q4 q5 q6;cases b with
  |nil=>cases h;exact .inl ⟨rfl,rfl⟩
  |cons a b=>
   cases b with
   |nil=>cases h;exact .inr ⟨a,rfl,rfl⟩
   |cons _ _=>exact gf h
 ·exact gf h
noncomputable def yg(i:Nat):Nat:=(i-10000)/1000
noncomputable def Ee(i:Nat):Str:=⟨(List.replicate ((i-10000)%1000/10) (48+i%10)).toArray⟩
noncomputable def Fc:Expr->Option Str
 |.Tuple [.Constant (.str z) _ _] _ _=>some z
 |_=>none
def nV{e:Expr}{z:Str}(h:Fc e=some z):∃a b c d,e=.Tuple [.Constant (.str z) a b] c d:=by
 unfold Fc at h;split at h
 ·cases h;exact⟨_,_,_,_,rfl⟩
 ·cases h
noncomputable def zv:Expr->Option (Str×Int)
 |.BinOp a .Mult (.Constant (.int k) _ _) _=>(Fc a).map λz=>(z,k)
 |_=>none
def pY{e:Expr}{q:Str×Int}(h:zv e=some q):∃a b c d p1 p2 p3,e=.BinOp (.Tuple [.Constant (.str q.1) a b] c d) .Mult (.Constant (.int q.2) p1 p2) p3:=by
 unfold zv at h;split at h
 ·obtain⟨z,h1,rfl⟩:=zzJ.mp h
  obtain⟨a,b,c,d,rfl⟩:=nV h1
  exact⟨_,_,_,_,_,_,_,rfl⟩
 ·cases h
noncomputable def Ca(i:Nat)(e:Expr):Bool:=if yg i=1 then Fc e==some (Ee i) else decide (2<=yg i)&&decide (yg i<1000)&&zv e==some (Ee i,(yg i:Int))
noncomputable def sQ(N:List Str)(i:Nat)(a:Expr):Bool:=if i<10000 then(fe a).any λx=>N[i]?==some x&&okN x else Ca i a
noncomputable def fm(N:List Str):List Expr->List Nat->Bool
 |[],[]=>true
 |a::r,i::t=>sQ N i a&&fm N r t
 |_,_=>false
noncomputable def HW(ps:List Str)(scope:Scope):Bool:=
 scope.kind==.function&&!scope.isCoroutine&&!scope.isGenerator&&decide ((ps++ba scope).Nodup)&&(scope.names.all λy=>decide (y.2≠.cell))&&(ps.all λx=>decide (scope.names.lookup x=some .local))&&((ba scope).all λx=>decide (scope.names.lookup x=some .free))
noncomputable def xg(g:Str)(idx:List Nat)(params:Arguments)(body:Expr)(scope:Scope):Bool:=(ny params).any λps=>(AJ body).any λq=>fe q.1==some g&&q.2.2.1.isEmpty&&!q.2.1.isEmpty&&decide (idx.head?=some ps.length)&&scope.names.lookup g==some .globalImplicit&&okN g&&!eO g&&fm (ps++ba scope) q.2.1 idx.tail&&HW ps scope
structure Hj(W:Wd)(G:Hp)(g:Str)(idx:List Nat)(bg:List PV)(f c':Addr)(oc:Obj)(cM:Array Value)(t:Tok)(fA pm:Value)(params:Arguments)(body:Expr)(scope:Scope)(qual:Str)(cl:List (Str×Addr))(Z:List (Addr×Obj))(ws:List V):Prop where
 lg:xg g idx params body scope=true
 fo:G f=some (.bI (PySem.W.kla_obj "<lambda>" qual params body scope cl pm c' fA) bH)
 co:G c'=some (.bI oc bH)
 cd:oc.data=.fields cM
 cn:cM[1]?=some (.str qual t)
 fz:Z.lookup f=none
 cz:Z.lookup c'=none
 inj:∀x y c,cl.lookup x=some c->cl.lookup y=some c->x=y
 has:∀y∈ba scope,∃c,cl.lookup y=some c
 cells:∀x c,cl.lookup x=some c->∃o v,Z.lookup c=some o/\o.data=.cell v
 zs:∀b o,Z.lookup b=some o->G b=some (.bI o bH)
 zc:∀b o,Z.lookup b=some o->∃v,o.data=.cell v
 vals:∀(i:Nat) y c,(ba scope)[i]?=some y->cl.lookup y=some c->∀v,ws[i]?=some v->∃u o,RelV v u/\Z.lookup c=some o/\o.data=.cell (some u)
 len:ws.length=(ba scope).length
 rep:ai W (aD Z G) bg ws
def lG(W:Wd)(G:Hp)(g:Str)(idx:List Nat)(bg:List PV)(v:V):Prop:=∃f c' oc cM t fA pm params body scope qual cl Z ws,v=.ref f/\Hj W G g idx bg f c' oc cM t fA pm params body scope qual cl Z ws
theorem jZ{Z:List (Addr×Obj)}{G G':Hp}(s:av G G'):av (aD Z G) (aD Z G'):=λb u e=>by
 obtain⟨q,e1⟩:=c7 e
 rw [au q];exact s _ _ e1
def lG.same{W:Wd}{G G':Hp}{g:Str}{idx:List Nat}{bg:List PV}{v:V}(s:av G G')(h:lG W G g idx bg v):lG W G' g idx bg v:=by
 obtain⟨f,c',oc,cM,t,fA,pm,params,body,scope,qual,cl,Z,ws,e,d⟩:=h
 exact⟨f,c',oc,cM,t,fA,pm,params,body,scope,qual,cl,Z,ws,e,⟨d.lg,s _ _ d.fo,s _ _ d.co,d.cd,d.cn,d.fz,d.cz,d.inj,d.has,d.cells,λb o q=>s _ _ (d.zs b o q),d.zc,d.vals,d.len,ai.same (jZ s) bg d.rep⟩⟩
inductive Slot where
 |no|val (p:PV)|own (p:PV)|fn (g:Str) (idx:List Nat) (bg:List PV)
 deriving Inhabited
abbrev Sl:=List Slot
def Own(W:Wd)(H0 G H:Hp):PV->V->Prop
 |.lst xs,v=>∃a vs,v=.ref a/\H a=some (.lst vs)/\G a=none/\H0 a=none/\ai W G xs vs
 |.d8 ks ps,v=>∃a us,v=.ref a/\ks.length=us.length/\H a=some (.dT (kz ks us))/\G a=none/\H0 a=none/\ai W G ps us
 |_,_=>False
def Top(W:Wd)(H0 G H:Hp)(p:PV)(v:V):Prop:=Rep W G p v\/Own W H0 G H p v
def wF(W:Wd)(H0 G H:Hp):Slot->Option V->Prop
 |.no,_=>True
 |.val p,o=>∃v,o=some v/\Rep W G p v
 |.own p,o=>∃v,o=some v/\Own W H0 G H p v
 |.fn g idx bg,o=>∃v,o=some v/\lG W G g idx bg v
structure SR(W:Wd)(H0:Hp)(env:Sl)(σ:St)(G H:Hp):Prop where
 len:env.length=σ.length
 sub:av G H
 base:er H0 H
 slot:∀(i:Nat) (s:Slot),env[i]?=some s->∃o,σ[i]?=some o/\wF W H0 G H s o
 apart:∀(i j:Nat) (p q:PV) (a:Addr),env[i]?=some (.own p)->env[j]?=some (.own q)->σ[i]?=some (some (.ref a))->σ[j]?=some (some (.ref a))->i=j
 tab:bM W G H
 iU:bM W G H0
section
variable{W:Wd}{H0 G H G' H':Hp}{env:Sl}{σ:St}
theorem Own.grow(g:aw W G H G' H'):∀{p:PV} {v:V},Own W H0 G H p v->Own W H0 G' H' p v
 |.lst xs,_,h=>by
  obtain⟨a,vs,e,h1,h2,h3,l⟩:=h
  exact⟨a,vs,e,g.h.at h1 (λ_ z=>nomatch z),g.own a (by rw [h1];exact λz=>by cases z) (by rw [h1];exact λ_ z=>by cases z) h2,h3,ai.same g.g xs l⟩
 |.d8 ks ps,_,h=>by
  obtain⟨a,vs,e,n,h1,h2,h3,l⟩:=h
  exact⟨a,vs,e,n,g.h.at h1 (λ_ z=>nomatch z),g.own a (by rw [h1];exact λz=>by cases z) (by rw [h1];exact λ_ z=>by cases z) h2,h3,ai.same g.g ps l⟩
 |.bO,_,h=>h|.bl _,_,h=>h|.int _,_,h=>h|.str _,_,h=>h|.tup _,_,h=>h|.exc _,_,h=>h
theorem wF.grow(g:aw W G H G' H'):∀{s:Slot} {o:Option V},wF W H0 G H s o->wF W H0 G' H' s o
 |.no,_,_=>trivial
 |.val p,_,h=>by obtain⟨v,e,r⟩:=h;exact⟨v,e,Rep.same g.g p r⟩
 |.own p,_,h=>by obtain⟨v,e,r⟩:=h;exact⟨v,e,r.grow g⟩
 |.fn _ _ _,_,h=>by obtain⟨v,e,r⟩:=h;exact⟨v,e,r.same g.g⟩
theorem SR.grow(r:SR W H0 env σ G H)(g:aw W G H G' H'):SR W H0 env σ G' H':=
 ⟨r.len,g.sub,r.base.trans g.h,λi s e=>by obtain⟨o,h1,h2⟩:=r.slot i s e;exact⟨o,h1,h2.grow g⟩,r.apart,g.tab r.tab,r.iU.same g.g (λa h1 h3 h2=>g.own a (λz=>h1 (r.base.free z)) (r.base.lY h1 h3) h2) λ_ _ h=>h⟩
def Top.grow{p:PV}{v:V}(g:aw W G H G' H')(h:Top W H0 G H p v):Top W H0 G' H' p v:=h.elim (λz=>.inl (Rep.same g.g p z)) λz=>.inr (z.grow g)
def Top.lst{xs:List PV}{v:V}(s:av G H)(h:Top W H0 G H (.lst xs) v):∃a vs,v=.ref a/\j8 W.K H a vs/\ai W G xs vs:=by
 rcases h with h|h
 ·simp! [Rep] at h;obtain⟨a,vs,e,q,l⟩:=h
  exact⟨a,vs,e,av.ls s q,l⟩
 ·obtain⟨a,vs,e,h1,_,_,l⟩:=h
  exact⟨a,vs,e,.inl (.inl h1),l⟩
def Top.tup{xs:List PV}{v:V}(s:av G H)(h:Top W H0 G H (.tup xs) v):∃a vs,v=.ref a/\eg W.K H a vs/\ai W G xs vs:=by
 rcases h with h|h
 ·simp! [Rep] at h;obtain⟨a,vs,e,q,l⟩:=h
  exact⟨a,vs,e,av.tup s q.sq,l⟩
 ·exact h.elim
def Top.tupI{xs:List PV}{v:V}{ns:List Int}(s:av G H)(hx:xs=ns.map .int)(h:Top W H0 G H (.tup xs) v):∃a,v=.ref a/\G a=some (.tup (ns.map V.int)):=by
 rcases h with h|h
 ·simp! [Rep] at h;obtain⟨a,vs,e,q,l⟩:=h
  have ev:vs=ns.map V.int:=by
   subst hx
   clear q e
   induction ns generalizing vs with
   |nil=>simp! [List.map_nil,ai] at l;exact l
   |cons n ns ih=>
    obtain⟨u,r,rfl,h1,h2⟩:=l.cx
    simp! [Rep] at h1;rw [h1,ih r h2]
    rfl
  subst ev;rcases q with q|⟨_,z,hz⟩
  ·exact⟨a,e,q⟩
  ·obtain⟨n,_,hn⟩:=zzx.mp hz
   cases hn
 ·exact h.elim
def Top.d8{ks:List (List Int)}{ps:List PV}{v:V}(s:av G H)(h:Top W H0 G H (.d8 ks ps) v):∃a us,v=.ref a/\ks.length=us.length/\Rd H a (.dT (kz ks us))/\ai W G ps us:=by
 rcases h with h|h
 ·simp! [Rep] at h;obtain⟨a,o,us,e,n,q,l⟩:=h
  exact⟨a,us,e,n,.inr ⟨o,s _ _ q⟩,l⟩
 ·obtain⟨a,vs,e,n,q,_,_,l⟩:=h
  exact⟨a,vs,e,n,.inl q,l⟩
def Top.int{i:Int}{v:V}(h:Top W H0 G H (.int i) v):v=.int i:=h.elim (λz=>by simpa only [Rep] using z) λz=>z.elim
def Top.bl{b:Bool}{v:V}(h:Top W H0 G H (.bl b) v):v=.bl b:=h.elim (λz=>by simpa only [Rep] using z) λz=>z.elim
def Top.str{b:Str}{v:V}(h:Top W H0 G H (.str b) v):v=.str b:=h.elim (λz=>by simpa only [Rep] using z) λz=>z.elim
def Top.bO{v:V}(h:Top W H0 G H .bO v):v=.bO:=h.elim (λz=>by simpa only [Rep] using z) λz=>z.elim
def Rep.i{i:Int}:Rep W G (.int i) (.int i):=by simp! [Rep]
def Rep.b{i:Bool}:Rep W G (.bl i) (.bl i):=by simp! [Rep]
def Rep.s{i:Str}:Rep W G (.str i) (.str i):=by simp! [Rep]
def Rep.n:Rep W G .bO .bO:=by simp! [Rep]
def Rep.l{a:Addr}{xs:List PV}{vs:List V}(h:j8 W.K G a vs)(l:ai W G xs vs):Rep W G (.lst xs) (.ref a):=by simp! [Rep];exact⟨a,vs,rfl,h,l⟩
def Rep.t{a:Addr}{xs:List PV}{vs:List V}(h:yP W.K G a vs)(l:ai W G xs vs):Rep W G (.tup xs) (.ref a):=by simp! [Rep];exact⟨a,vs,rfl,h,l⟩
end
end Ci
namespace L2
open PySem PySem.Spec PyProof.Rows
end L2
namespace HT
open PySem PySem.Spec PyProof.Rows
section
end
end HT
namespace L2
open PySem PySem.Spec PyProof.Rows
end L2
namespace L2
open PySem PySem.Spec PyProof.Rows PySem.W
end L2
namespace Ci
open PySem L2
inductive Res(α:Type) where
 |ok (a:α)|exc (c:Str)|bad
noncomputable def Res.bind{α β:Type}:Res α->(α->Res β)->Res β
 |.ok a,f=>f a
 |.exc c,_=>.exc c
 |.bad,_=>.bad
noncomputable instance:Monad Res where
 pure:=.ok
 bind:=Res.bind
def Res.aZ{α β:Type}{r:Res α}{f:α->Res β}{b:β}(h:r.bind f=.ok b):∃a,r=.ok a/\f a=.ok b:=by
 cases r with
 |ok a=>exact⟨a,rfl,h⟩
 |exc c=>cases h
 |bad=>cases h
def Res.cG{α β:Type}{r:Res α}{f:α->Res β}{c:Str}(h:r.bind f=.exc c):r=.exc c\/∃a,r=.ok a/\f a=.exc c:=by
 cases r with
 |ok a=>exact .inr ⟨a,rfl,h⟩
 |exc c'=>cases h;exact .inl rfl
 |bad=>cases h
noncomputable def Res.of{α:Type}:Option α->Res α
 |some a=>.ok a
 |none=>.bad
noncomputable def Res.well{α:Type}:Res α->Res α
 |.ok a=>.ok a
 |_=>.bad
abbrev eH:Nat:=1000000
noncomputable def eqs(f:PV->PV->Bool):List PV->List PV->Bool
 |[],[]=>true
 |x::xs,y::ys=>f x y&&eqs f xs ys
 |_,_=>false
noncomputable def jr:Nat->PV->PV->Bool
 |_,.bO,.bO=>true
 |_,.bl a,.bl b=>a==b
 |_,.bl a,.int i=>(if a then 1 else 0)==i
 |_,.int i,.bl a=>i==(if a then 1 else 0)
 |_,.int i,.int j=>i==j
 |_,.str x,.str y=>x==y
 |n+1,.tup xs,.tup ys=>eqs (jr n) xs ys
 |n+1,.lst xs,.lst ys=>eqs (jr n) xs ys
 |_,_,_=>false
noncomputable def plain:Nat->PV->Bool
 |_,.bO=>true
 |_,.bl _=>true
 |_,.int _=>true
 |_,.str _=>true
 |n+1,.tup xs=>xs.all (plain n)
 |n+1,.lst xs=>xs.all (plain n)
 |_,_=>false
abbrev DP:Nat:=9
noncomputable abbrev eqv:PV->PV->Bool:=jr DP
noncomputable abbrev l4:PV->Bool:=plain DP
inductive yB where|add|sub|mul|mod|fdiv
inductive r9 where|eq|ne|lt|le|gt|D3
noncomputable def aW(i:Int):Bool:=decide (-(2^64)<i)&&decide (i<2^64)
noncomputable def binOp:yB->PV->PV->Res PV
 |.add,.int i,.int j=>.ok (.int (i+j))
 |.add,.str x,.str y=>if x.length+y.length<=eH then .ok (.str (x++y)) else .bad
 |.add,.lst x,.lst y=>if x.length+y.length<=eH then .ok (.lst (x++y)) else .bad
 |.add,.tup x,.tup y=>if x.length+y.length<=eH then .ok (.tup (x++y)) else .bad
 |.sub,.int i,.int j=>.ok (.int (i-j))
 |.mul,.int i,.int j=>if aW i||aW j then .ok (.int (i*j)) else .bad
 |.mul,.lst x,.int j=>if 0<=j/\j<1000/\x.length<1000 then .ok (.lst (List.replicate j.toNat x).flatten) else .bad
 |.mul,.tup x,.int j=>if 1<=j/\j<1000/\0<x.length/\x.length<1000 then .ok (.tup (List.replicate j.toNat x).flatten) else .bad
 |.mod,.int i,.int j=>if 0<j then .ok (.int (i%j)) else .bad
 |.fdiv,.int i,.int j=>if 0<j/\j<1073741824 then .ok (.int (i/j)) else .bad
 |_,_,_=>.bad
noncomputable def intsOf:List PV->Option (List Int)
 |[]=>some []
 |.int i::r=>(intsOf r).map (i::·)
 |_=>none
noncomputable def jb{α:Type}:List (List Int)->List α->List Int->Option α
 |k'::ks,v::vs,k=>if k'=k then some v else jb ks vs k
 |_,_,_=>none
noncomputable def ub(k:List Int):PV:=.tup (k.map .int)
noncomputable def zO:PV->Option (List Int)
 |.tup xs=>intsOf xs
 |_=>none
noncomputable def Il(x:PV)(ys:List PV):Bool:=ys.any λy=>eqv y x
noncomputable def fL(a b:PV):Res PV:=if l4 a&&l4 b then .ok (.bl (eqv a b)) else .bad
noncomputable def gC(a b:PV):Res PV:=if l4 a&&l4 b then .ok (.bl (!eqv a b)) else .bad
noncomputable def mE:PV->PV->Res PV
 |.int i,.int j=>.ok (.bl (decide (i<j)))
 |_,_=>.bad
noncomputable def m7:PV->PV->Res PV
 |.int i,.int j=>.ok (.bl (decide (i<=j)))
 |_,_=>.bad
noncomputable def nT:PV->PV->Res PV
 |.int i,.int j=>.ok (.bl (decide (j<i)))
 |_,_=>.bad
noncomputable def j1:PV->PV->Res PV
 |a,.lst ys=>if l4 a&&ys.all l4 then .ok (.bl (!Il a ys)) else .bad
 |_,_=>.bad
noncomputable def c8:r9->PV->PV->Res PV
 |.eq=>fL|.ne=>gC|.lt=>mE|.le=>m7|.gt=>nT|.D3=>j1
noncomputable def bf:PV->PV->Res PV
 |.lst xs,.int i=>Res.of (nE xs i)
 |.tup xs,.int i=>Res.of (nE xs i)
 |.str z,.int i=>if z.length<=eH then(Res.of (nE z.cps.toList i)).bind λc=>.ok (.str ⟨#[c]⟩) else .bad
 |.d8 ks vs,y=>(Res.of (zO y)).bind λk=>Res.of (jb ks vs k)
 |_,_=>.bad
noncomputable def mC{α:Type}(xs:List α)(lo hi:Option Int):List α:=(xs.drop (HT.cj xs.length 0 lo)).take (HT.cj xs.length xs.length hi-HT.cj xs.length 0 lo)
noncomputable def fb:PV->Option Int->Option Int->Res PV
 |.tup xs,lo,hi=>.ok (.tup (mC xs lo hi))
 |_,_,_=>.bad
inductive B where|len|int|str|tuple
noncomputable def chars(z:Str):List PV:=z.cps.toList.map λc=>.str ⟨#[c]⟩
noncomputable def oB:List PV->Res PV
 |[.lst xs]=>.ok (.int xs.length)
 |[.tup xs]=>.ok (.int xs.length)
 |[.str z]=>if z.length<=eH then .ok (.int z.length) else .bad
 |[.d8 ks _]=>.ok (.int ks.length)
 |_=>.bad
noncomputable def uW:List PV->Res PV
 |[.str z]=>if z.length<=640 then(Res.of (PySem.intText? z)).bind λn=>.ok (.int n) else .bad
 |_=>.bad
noncomputable def so:List PV->Res PV
 |[.int i]=>if i.natAbs.log2<1920 then .ok (.str (toString i)) else .bad
 |_=>.bad
noncomputable def iE:List PV->Res PV
 |[.lst xs]=>.ok (.tup xs)
 |_=>.bad
noncomputable def gJ:B->List PV->Res PV
 |.len=>oB|.int=>uW|.str=>so|.tuple=>iE
inductive Ty where|int|bool|tuple
noncomputable def f6:Ty->PV->Bool
 |.int,.int _=>true
 |.int,.bl _=>true
 |.bool,.bl _=>true
 |.tuple,.tup _=>true
 |_,_=>false
noncomputable def i6(t:Ty):PV->Res PV
 |.exc _=>.bad
 |.d8 _ _=>.bad
 |p=>.ok (.bl (f6 t p))
inductive M where|fv|index
noncomputable def fI:List PV->Res PV
 |[.lst xs,v]=>if l4 v&&xs.all l4 then .ok (.int ((xs.countP λy=>eqv y v:Nat):Int)) else .bad
 |_=>.bad
noncomputable def ik:List PV->Res PV
 |[.lst xs,v]=>if l4 v&&xs.all l4&&decide (xs.length<1000) then(match xs.findIdx? λy=>eqv y v with|some j=>.ok (.int (j:Nat))|none=>.bad) else .bad
 |_=>.bad
noncomputable def uI:M->List PV->Res PV
 |.fv=>fI|.index=>ik
noncomputable def sM:M->PV->Bool
 |.fv,.lst _=>true
 |.index,.lst _=>true
 |_,_=>false
inductive Tg where
 |one (i:Nat)|two (i j:Nat)
mutual
inductive E where
 |var (i:Nat)|oY (i:Nat)
 |cst (p:PV)
 |glob (g:Str) (p:PV)
 |call (f:Str) (as:Es)
 |dP (i:Nat) (as:Es)
 |cT (f:Str) (as:Es) (g:Str) (idx:List Nat) (aL:List Nat)
 |blt (b:B) (as:Es)
 |ty (t:Ty) (a:E)
 |pS (c:Str) (a:E)
 |BO (m:M) (o:E) (as:Es)
 |bin (o:yB) (a b:E)
 |cmp (o:r9) (a b:E)
 |ch (o1 o2:r9) (a b c:E)
 |not (a:E)
 |neg (a:E)
 |and (a b:E)|or (a b:E)
 |ite (c a b:E)
 |tup (as:Es)|lst (as:Es)
 |sub (a b:E)
 |slice (a:E) (lo hi:Oe)
 |comp (k:Nat) (aL:List Nat) (tg:Tg) (it:I) (elt:E)
 |dc (k:Nat) (aL:List Nat) (tg:Tg) (it:I) (c elt:E)
inductive Es where
 |nil|cons (e:E) (es:Es)
inductive Oe where
 |no|some (e:E)
inductive I where
 |seq (e:E)|nj (e:E)|qx (a b:E)|enum (e:E)|zip (as:Es)
end
mutual
inductive S where
 |expr (e:E)
 |set (i:Nat) (e:E)
 |vE (tg:Tg) (e:E)
 |own (i:Nat) (e:E)
 |bI (i:Nat)
 |app (i:Nat) (e:E)
 |ji (i:Nat) (e:E)
 |ret (e:E)
 |ite (c:E) (a b:Ss)
 |gb (tg:Tg) (it:I) (b:Ss)
 |raise (c:Str) (m:Str)
 |f9 (b:Ss) (c:Str) (i:Nat) (g:Str)
 |par (i j:Nat) (as:Es)
inductive Ss where
 |nil|cons (s:S) (ss:Ss)
end
abbrev bz:=Str->List PV->Res PV
noncomputable def sO:Option Slot->Res PV
 |some (.val p)=>.ok p
 |_=>.bad
noncomputable def tQ:Option Slot->Res PV
 |some (.val p)=>.ok p
 |some (.own p)=>.ok p
 |_=>.bad
noncomputable def Tg.put:Tg->PV->Sl->Res Sl
 |.one i,p,env=>.ok (env.set i (.val p))
 |.two i j,.tup [a,b],env=>.ok ((env.set i (.val a)).set j (.val b))
 |_,_,_=>.bad
noncomputable def gu(env:Sl):List Nat->Res (List PV)
 |[]=>.ok []
 |i::r=>(sO env[i]?).bind λp=>(gu env r).bind λps=>.ok (p::ps)
noncomputable def dB(i:Nat):PV:=.tup (List.replicate (yg i) (.str (Ee i)))
noncomputable def atC(l:List PV)(i:Nat):Res PV:=if i<10000 then Res.of l[i]? else .ok (dB i)
noncomputable def dr(l:List PV):List Nat->Res (List PV)
 |[]=>.ok []
 |i::r=>(atC l i).bind λp=>(dr l r).bind λps=>.ok (p::ps)
noncomputable def eh(env:Sl)(aL:List Nat):Sl:=aL.map λi=>env.getD i .no
noncomputable def itemsOf:PV->Res (List PV)
 |.lst xs=>.ok xs
 |.tup xs=>.ok xs
 |.str z=>.ok (chars z)
 |_=>.bad
noncomputable def sL(e:E)(p:PV):Res (List PV):=match p,e with
 |.d8 _ _,.oY _=>.bad
 |.d8 ks _,_=>.ok (ks.map ub)
 |.lst xs,_=>.ok xs
 |.tup xs,_=>.ok xs
 |_,_=>.bad
noncomputable def dO(lo:Int)(n:Nat):List PV:=(List.range n).map λi=>.int (lo+(i:Nat))
noncomputable def aY(i:Int):Bool:=decide (-(2^62)<=i)&&decide (i<2^62)
noncomputable def C0:PV->Option (List PV)
 |.lst xs=>some xs
 |.tup xs=>some xs
 |_=>none
noncomputable def j2:List PV->Option (List (List PV))
 |[]=>some []
 |p::r=>(C0 p).bind λxs=>(j2 r).map (xs::·)
noncomputable def jk:List (List PV)->Nat
 |[]=>0
 |[xs]=>xs.length
 |xs::r=>min xs.length (jk r)
noncomputable def rQ(xss:List (List PV)):List PV:=(List.range (jk xss)).map λi=>.tup (xss.map λxs=>xs.getD i .bO)
noncomputable def bQ(n:Nat):List PV->List PV
 |[]=>[]
 |x::xs=>.tup [.int (n:Nat),x]::bQ (n+1) xs
noncomputable def oc:Option PV->List PV->List PV
 |some y,ys=>y::ys
 |none,ys=>ys
noncomputable def br(f:PV->Res (Option PV)):List PV->Res (List PV)
 |[]=>.ok []
 |x::xs=>(f x).well.bind λo=>(br f xs).bind λys=>.ok (oc o ys)
noncomputable def pf{α:Type}(p:PV)(f:Bool->Res α):Res α:=match p with
 |.bl b=>f b
 |_=>.bad
section
variable(F:bz)
mutual
noncomputable def ax:E->Sl->Res PV
 |.var i,env=>sO env[i]?
 |.oY i,env=>tQ env[i]?
 |.cst p,_=>.ok p
 |.glob _ p,_=>.ok p
 |.call f as,env=>(bj as env).bind λps=>F f ps
 |.dP i as,env=>match env[i]? with
  |some (.fn g idx bg)=>(bj as env).bind λps=>if idx.head?=some ps.length then(dr (ps++bg) idx.tail).bind λqs=>F g qs else .bad
  |_=>.bad
 |.cT f as _ _ aL,env=>(bj as env).bind λps=>(gu env aL).bind λcs=>F f (ps++cs)
 |.blt b as,env=>(bj as env).bind λps=>gJ b ps
 |.ty t a,env=>(ax a env).bind λp=>i6 t p
 |.pS c a,env=>(ax a env).bind λp=>match p with
  |.exc d=>.ok (.bl (if c=="ValueError" then true else(c==d||c=="FloorError")))
  |_=>.bad
 |.BO m o as,env=>(ax o env).bind λp=>if sM m p then(bj as env).bind λps=>uI m (p::ps) else .bad
 |.bin o a b,env=>(ax a env).bind λx=>(ax b env).bind λy=>binOp o x y
 |.cmp o a b,env=>(ax a env).bind λx=>(ax b env).bind λy=>c8 o x y
 |.ch o1 o2 a b c,env=>(ax a env).bind λx=>(ax b env).bind λy=>(c8 o1 x y).bind λt=>pf t λt=>
  if t then(ax c env).bind λz=>c8 o2 y z else .ok (.bl false)
 |.not a,env=>(ax a env).bind λx=>pf x λb=>.ok (.bl (!b))
 |.neg a,env=>(ax a env).bind λx=>match x with|.int i=>.ok (.int (-i))|_=>.bad
 |.and a b,env=>(ax a env).bind λx=>pf x λt=>if t then ax b env else .ok (.bl false)
 |.or a b,env=>(ax a env).bind λx=>pf x λt=>if t then .ok (.bl true) else ax b env
 |.ite c a b,env=>(ax c env).bind λx=>pf x λt=>if t then ax a env else ax b env
 |.tup as,env=>(bj as env).bind λps=>.ok (.tup ps)
 |.lst as,env=>(bj as env).bind λps=>.ok (.lst ps)
 |.sub a b,env=>(ax a env).bind λx=>(ax b env).bind λy=>bf x y
 |.slice a lo hi,env=>(ax a env).bind λx=>(qS lo env).bind λl=>(qS hi env).bind λh=>fb x l h
 |.comp k aL tg it elt,env=>(lW it env).bind λxs=>if xs.length<eH then(br (λx=>(tg.put x (List.replicate k .no++eh env aL)).bind λay=>(ax elt ay).bind λy=>.ok (some y)) xs).bind λys=>.ok (.lst ys) else .bad
 |.dc k aL tg it c elt,env=>(lW it env).bind λxs=>if xs.length<eH then(br (λx=>(tg.put x (List.replicate k .no++eh env aL)).bind λay=>(ax c ay).bind λt=>pf t λt=>if t then(ax elt ay).bind λy=>.ok (some y) else .ok none) xs).bind λys=>.ok (.lst ys) else .bad
noncomputable def bj:Es->Sl->Res (List PV)
 |.nil,_=>.ok []
 |.cons e es,env=>(ax e env).bind λp=>(bj es env).bind λps=>.ok (p::ps)
noncomputable def qS:Oe->Sl->Res (Option Int)
 |.no,_=>.ok none
 |.some e,env=>(ax e env).bind λp=>match p with|.int i=>.ok (some i)|_=>.bad
noncomputable def lW:I->Sl->Res (List PV)
 |.seq e,env=>(ax e env).bind (sL e)
 |.nj e,env=>(ax e env).bind λp=>match p with|.int j=>if aY j then .ok (dO 0 j.toNat) else .bad|_=>.bad
 |.qx a b,env=>(ax a env).bind λp=>(ax b env).bind λq=>match p,q with|.int i,.int j=>if aY i&&aY j then .ok (dO i (j-i).toNat) else .bad|_,_=>.bad
 |.enum e,env=>(ax e env).bind λp=>(itemsOf p).bind λxs=>.ok (bQ 0 xs)
 |.zip as,env=>(bj as env).bind λps=>(Res.of (j2 ps)).bind λxss=>.ok (rQ xss)
end
end
inductive Fl where
 |nx (env:Sl)|bk (env:Sl)|ct (env:Sl)|rt (p:PV)
noncomputable def Fl.seq(f:Fl)(k:Sl->Res Fl):Res Fl:=match f with
 |.nx env=>k env
 |f=>.ok f
noncomputable def forL(body:PV->Sl->Res Fl):List PV->Sl->Res Fl
 |[],env=>.ok (.nx env)
 |x::xs,env=>(body x env).bind λf=>match f with
  |.nx ay=>forL body xs ay
  |.ct ay=>forL body xs ay
  |.bk ay=>.ok (.nx ay)
  |.rt p=>.ok (.rt p)
noncomputable def Slot.uy:Slot->Bool
 |.own _=>true
 |_=>false
noncomputable def ly:Slot->Slot
 |.own p=>.val p
 |s=>s
section
variable(F:bz)
mutual
noncomputable def eQ:S->Sl->Res Fl
 |.expr e,env=>(ax F e env).bind λ_=>.ok (.nx env)
 |.set i e,env=>(ax F e env).bind λp=>.ok (.nx (env.set i (.val p)))
 |.vE tg e,env=>(ax F e env).bind λp=>(tg.put p env).bind λay=>.ok (.nx ay)
 |.own i e,env=>(ax F e env).bind λp=>.ok (.nx (env.set i (.own p)))
 |.bI i,env=>.ok (.nx (env.modify i ly))
 |.app i e,env=>match env[i]? with
  |some (.own (.lst xs))=>(ax F e env).bind λp=>if xs.length<eH then .ok (.nx (env.set i (.own (.lst (xs++[p]))))) else .bad
  |_=>.bad
 |.ji i e,env=>match env[i]? with
  |some (.own (.lst xs))=>(ax F e env).bind λp=>match p with
   |.lst ys=>if xs.length+ys.length<=eH then .ok (.nx (env.set i (.own (.lst (xs++ys))))) else .bad
   |_=>.bad
  |_=>.bad
 |.ret e,env=>(ax F e env).bind λp=>.ok (.rt p)
 |.ite c a b,env=>(ax F c env).bind λp=>pf p λt=>if t then aS a env else aS b env
 |.gb tg it b,env=>(lW F it env).bind λxs=>forL (λx env=>(tg.put x env).bind λay=>aS b ay) xs env
 |.raise c _,_=>.exc c
 |.f9 b c i g,env=>if env.any Slot.uy then .bad else match aS b env with
  |.exc d=>(match F g [.exc d] with|.ok p=>.ok (.rt p)|_=>.bad)
  |r=>r
 |.par i j as,env=>(bj F as env).bind λps=>match ps with
  |[p,q]=>.ok (.nx ((env.set i (.val p)).set j (.val q)))
  |_=>.bad
noncomputable def aS:Ss->Sl->Res Fl
 |.nil,env=>.ok (.nx env)
 |.cons s ss,env=>(eQ s env).bind λf=>f.seq (aS ss)
end
end
structure Def where
 N:List Str
 np:Nat
 body:Ss
 lR:Option (Str×List Nat):=none
noncomputable def cw(d:Def)(as:List PV):Sl:=match d.lR with
 |none=>as.map .val++List.replicate (d.N.length-as.length) .no
 |some q=>(as.take (d.np-1)).map .val++.fn q.1 q.2 (as.drop (d.np-1))::List.replicate (d.N.length-d.np) .no
noncomputable def cA(d:Def)(as:List PV):Bool:=match d.lR with
 |none=>as.length==d.np
 |some _=>decide (0<d.np)&&decide (d.np-1<=as.length)
noncomputable def az(F:bz)(d:Def)(as:List PV):Res PV:=
 if cA d as then(aS F d.body (cw d as)).bind λf=>match f with
  |.nx _=>.ok .bO
  |.rt p=>.ok p
  |_=>.bad
 else .bad
noncomputable def den:List (Str×Def)->bz
 |[],_,_=>.bad
 |(n,d)::r,f,as=>if f==n then az (den r) d as else den r f as
noncomputable abbrev ki(k:List Int):List Key:=k.map Sum.inl
def Bf{a b:List Int}(h:ki a=ki b):a=b:=by
 induction a generalizing b with
 |nil=>cases b with|nil=>rfl|cons=>cases h
 |cons x a ih=>cases b with
  |nil=>cases h
  |cons y b=>simp! [ki,zzF,List.cons.injEq,Sum.inl.injEq] at h;rw [h.1,ih h.2]
def EJ(k:List Int):(ki k).map kV=k.map V.int:=by
 unfold ki;rw [List.map_map]
 rfl
theorem xt{k:List Int}{ks:List (List Int)}{u:V}{us:List V}:kz (k::ks) (u::us)=(ki k,u)::kz ks us:=rfl
def nN{ks:List (List Int)}{us:List V}(h:ks.length=us.length):(kz ks us).length=ks.length:=by
 unfold kz;rw [List.length_zip,zzl];omega
def wa{ks:List (List Int)}{us:List V}(h:ks.length=us.length):(kz ks us).map (·.1)=ks.map ki:=by
 unfold kz;exact List.map_fst_zip (by rw [zzl];omega)
theorem tJ(k:List Int):∀(ks:List (List Int)) (us:List V),mU (kz ks us) (ki k)=jb ks us k
 |[],us=>by unfold jb;rfl
 |a::ks,[]=>by unfold jb;rfl
 |a::ks,u::us=>by
  rw [xt];unfold jb
  by_cases h:a=k
  ·subst h;rw [if_pos rfl];exact m5 rfl
  ·rw [if_neg h,l6 (λz=>h (Bf z))];exact tJ k ks us
section
variable{W:Wd}{G:Hp}
theorem pF{k:List Int}{p:PV}:∀{ks:List (List Int)} {ps:List PV} {us:List V},ai W G ps us->jb ks ps k=some p->∃v,jb ks us k=some v/\Rep W G p v
 |[],_,_,_,e=>by unfold jb at e;cases e
 |a::ks,[],_,_,e=>by unfold jb at e;cases e
 |a::ks,q::ps,_,l,e=>by
  obtain⟨v,r,rfl,h1,h2⟩:=l.cx
  unfold jb at e⊢
  by_cases h:a=k
  ·rw [if_pos h] at e⊢;cases e;exact⟨v,rfl,h1⟩
  ·rw [if_neg h] at e⊢;exact pF h2 e
end
theorem kC:∀{xs:List PV} {ns:List Int},intsOf xs=some ns->xs=ns.map .int
 |[],_,e=>by cases e;rfl
 |.int i::r,_,e=>by
  unfold intsOf at e;obtain⟨ns,h1,rfl⟩:=zzJ.mp e
  rw [kC h1];rfl
 |.bO::_,_,e=>by cases e
 |.bl _::_,_,e=>by cases e
 |.str _::_,_,e=>by cases e
 |.tup _::_,_,e=>by cases e
 |.lst _::_,_,e=>by cases e
 |.exc _::_,_,e=>by cases e
 |.d8 _ _::_,_,e=>by cases e
def wQ{p:PV}{k:List Int}(h:zO p=some k):p=ub k:=by
 unfold zO at h;split at h
 ·rw [kC h];rfl
 ·cases h
end Ci
namespace L2
open PySem PySem.Spec PyProof.Rows
end L2
namespace Ci
open PySem L2
def gB{n:Nat}(h:n<=eH):n<=sizeLine:=zzU h (by decide)
section
variable{X:Cx}{W:Wd}{H0 G H:Hp}
def cm(W:Wd)(G H:Hp)(r:PV)(Q:VK):Prop:=∀v G' H',aw W G H G' H'->Rep W G' r v->Q v H'
def cm.at{r:PV}{Q:VK}{v:V}(h:cm W G H r Q)(s:av G H)(k:Rep W G r v):Q v H:=h v G H (.refl s) k
def cm.tup{xs:List PV}{Q:VK}{vs:List V}{p:Addr}(h:cm W G H (.tup xs) Q)(s:av G H)(k:ai W G xs vs)(hp:H p=none):Q (.ref p) (upd H p (.tup vs)):=
 h _ _ _ (.new s hp) (.t (.inl aq) (ai.same (bq (s.free hp)) xs k))
def cm.lst{xs:List PV}{Q:VK}{vs:List V}{p:Addr}(h:cm W G H (.lst xs) Q)(s:av G H)(k:ai W G xs vs)(hp:H p=none):Q (.ref p) (upd H p (.lst vs)):=
 h _ _ _ (.new s hp) (.l (.inl (.inl aq)) (ai.same (bq (s.free hp)) xs k))
theorem hU{f:PV->PV->Bool}:∀{xs ys:List PV},xs.length≠ys.length->eqs f xs ys=false
 |[],[],h=>absurd rfl h
 |_::xs,_::ys,h=>by simp! [eqs];rw [hU (xs:=xs) (ys:=ys) (λz=>h (by simp [z]))];simp
 |[],_::_,_=>rfl
 |_::_,[],_=>rfl
theorem g7{f:PV->PV->Bool}:∀{xs ys:List PV},xs.length=ys.length->eqs f xs ys=(List.range xs.length).all λj=>f (xs.getD j .bO) (ys.getD j .bO)
 |[],[],_=>rfl
 |x::xs,y::ys,h=>by
  simp! [eqs];rw [g7 (xs:=xs) (ys:=ys) (by simpa using h),zzL,List.range_succ_eq_map,List.all_cons,List.all_map]
  rfl
 |[],_::_,h=>by simp at h
 |_::_,[],h=>by simp at h
def j4{f:PV->PV->Bool}:∀{xs ys:List PV},((List.range (min xs.length ys.length)).all (λj=>f (xs.getD j .bO) (ys.getD j .bO))&&xs.length==ys.length)=eqs f xs ys:=λ{xs ys}=>by
 by_cases h:xs.length=ys.length
 ·rw [g7 h,h,Nat.min_self,beq_self_eq_true,Bool.and_true]
 ·rw [hU h,beq_eq_false_iff_ne.mpr h,Bool.and_false]
theorem ng{f:PV->PV->Bool}:∀{xs ys:List PV},xs.length=ys.length->(∀(j:Nat) x y,xs[j]?=some x->ys[j]?=some y->f x y=true)->eqs f xs ys=true
 |[],[],_,_=>rfl
 |x::xs,y::ys,h,k=>by
  simp! [eqs];rw [k 0 x y rfl rfl,ng (xs:=xs) (ys:=ys) (by simpa using h) λj a b ha hb=>k (j+1) a b (by simpa using ha) (by simpa using hb)]
  rfl
 |[],_::_,h,_=>by simp at h
 |_::_,[],h,_=>by simp at h
def nh(hK:W.K=X.K){a:Addr}{vs:List V}(h:j8 W.K H a vs):gL X.K H a vs:=by
 rw [hK] at h;rcases h with h|⟨aj,n,h1,h2,h3⟩
 ·exact .inl h
 ·exact .inr ⟨_,aj,n,h1,rfl,rfl,rfl,h2,h3⟩
def lX{aa:List (Addr×Obj)}{σ:St}{s:Shared}(I:Inv X aa σ H s){a:Addr}{vs us:List V}(h1:eg X.K H a vs)(h2:gL X.K H a us):False:=by
 obtain⟨aj,_,⟨o,e,hc,_⟩,_⟩:=I.tuple h1
 obtain⟨cW,_,⟨o2,n,e2,hc2,_⟩,_⟩:=I.list h2
 rw [e] at e2;cases e2;rw [hc] at hc2;exact absurd hc2 (by decide)
theorem eZ{α:Type}:∀{xs ys:List α},xs.length=ys.length->(∀(j:Nat) x y,xs[j]?=some x->ys[j]?=some y->x=y)->xs=ys
 |[],[],_,_=>rfl
 |x::xs,y::ys,h,k=>by rw [k 0 x y rfl rfl,eZ (xs:=xs) (ys:=ys) (by simpa using h) λj a b ha hb=>k (j+1) a b (by simpa using ha) (by simpa using hb)]
 |[],_::_,h,_=>by simp at h
 |_::_,[],h,_=>by simp at h
def KD(X:Cx)(W:Wd)(G H:Hp):PV->V->Prop
 |.bO,v=>v=.bO
 |.bl b,v=>v=.bl b
 |.int i,v=>v=.int i
 |.str z,v=>v=.str z
 |.tup xs,v=>∃a,v=.ref a/\∃vs,eg X.K H a vs/\ai W G xs vs
 |.lst xs,v=>∃a,v=.ref a/\∃vs,gL X.K H a vs/\ai W G xs vs
 |_,_=>False
def FC(hK:W.K=X.K)(sg:av G H){n:Nat}{p:PV}{v:V}(hp:plain n p=true)(h:Top W H0 G H p v):KD X W G H p v:=by
 cases p with
 |bO=>exact h.bO
 |bl b=>exact h.bl
 |int i=>exact h.int
 |str z=>exact h.str
 |tup xs=>
  obtain⟨a,vs,e,sq,l⟩:=h.tup sg
  rw [hK] at sq;exact⟨a,e,vs,sq,l⟩
 |lst xs=>
  obtain⟨a,vs,e,sq,l⟩:=h.lst sg
  exact⟨a,e,vs,nh hK sq,l⟩
 |exc c=>cases n<;>exact aC hp
 |d8 a b=>cases n<;>exact aC hp
def pq{aa:List (Addr×Obj)}{σ:St}{s:Shared}(I:Inv X aa σ H s)(hK:W.K=X.K)(sg:av G H):∀(n:Nat) {p q:PV} {v:V},plain n p=true->plain n q=true->Top W H0 G H p v->Top W H0 G H q v->p=q:=by
 intro n
 induction n with
 |zero=>
  intro p q v hp hq h1 h2;have a:=FC hK sg hp h1
  have b:=FC hK sg hq h2
  cases p<;>cases q<;>first|exact aC hp|exact aC hq|(cases a;cases b;rfl)|(cases a;cases b)
 |succ n ih=>
  intro p q v hp hq h1 h2;have a:=FC hK sg hp h1
  have b:=FC hK sg hq h2
  have el:∀{xs ys:List PV} {vs:List V},xs.all (plain n)=true->ys.all (plain n)=true->ai W G xs vs->ai W G ys vs->xs=ys:=λ{xs ys vs} a1 a2 l1 l2=>
   eZ (by rw [<-l1.length,l2.length]) λj x y ex ey=>by
    obtain⟨u,eu,ku⟩:=l1.lF ex
    obtain⟨y',ey',ky⟩:=l2.get eu
    rw [ey] at ey';cases ey';exact ih (zzT.mp a1 _ (zzD ex)) (zzT.mp a2 _ (zzD ey)) (.inl ku) (.inl ky)
  cases p<;>cases q<;>first|exact aC hp|exact aC hq|(cases a;cases b;done)|(cases a;cases b;rfl)|(obtain⟨_,e1,_⟩:=a;cases b;cases e1;done)|(obtain⟨_,e2,_⟩:=b;cases a;cases e2;done)|(obtain⟨x,rfl,vs,s1,l1⟩:=a;obtain⟨y,e2,us,s2,l2⟩:=b;cases e2;first|exact(lX I s1 s2).elim|exact(lX I s2 s1).elim|(cases I.j9 s1 s2;rw [el hp hq l1 l2])|(cases I.mZ s1 s2;rw [el hp hq l1 l2]))
def uB:∀{n:Nat} {p:PV},plain n p=true->jr n p p=true:=by
 intro n
 induction n with
 |zero=>intro p h;cases p<;>first|exact aC h|rfl|exact beq_self_eq_true _
 |succ n ih=>
  intro p h;cases p<;>first|exact aC h|rfl|exact beq_self_eq_true _|exact ng rfl λj x y e1 e2=>by rw [e1] at e2;cases e2;exact ih (zzT.mp h _ (zzD e1))
def qq{aa:List (Addr×Obj)}{σ:St}{s:Shared}(I:Inv X aa σ H s)(hK:W.K=X.K)(sg:av G H):∀(n:Nat) {p q:PV} {v:V},plain n p=true->plain n q=true->Top W H0 G H p v->Top W H0 G H q v->jr n p q=true:=λn {p q v} hp hq h1 h2=>by
 cases pq I hK sg n hp hq h1 h2;exact uB hp
def gY{x:V}{a:Addr}(r:RelV x (.ref a)):x=.ref a:=by
 cases x<;>first|(cases r;rfl)|(obtain⟨_,h⟩:=r;cases h)|cases r
def Ld(W:Wd)(G:Hp)(h:Heap):PV->Value->Prop
 |.bO,v=>∃_t:Nat,v=.none/\True
 |.bl b,v=>∃_t:Nat,v=.bool b/\True
 |.int i,v=>∃t,v=.int i t/\True
 |.str z,v=>∃t,v=.str z t/\True
 |.tup xs,v=>∃a,v=.ref a/\∃aj vs,ai W G xs vs/\Vals vs aj/\h.IsTuple a aj.toArray
 |.lst xs,v=>∃a,v=.ref a/\∃aj vs,ai W G xs vs/\Vals vs aj/\h.IsList a aj.toArray
 |_,_=>False
def yv{aa:List (Addr×Obj)}{σ:St}{s:Shared}(I:Inv X aa σ H s)(hK:W.K=X.K)(sg:av G H){n:Nat}{p:PV}{v:V}{v':Value}(hp:plain n p=true)(h:Top W H0 G H p v)(r:RelV v v'):Ld W G s.heap p v':=by
 cases p with
 |bO=>cases h.bO;cases r;exact⟨0,rfl,trivial⟩
 |bl b=>cases h.bl;cases r;exact⟨0,rfl,trivial⟩
 |int i=>cases h.int;obtain⟨t,rfl⟩:=r;exact⟨t,rfl,trivial⟩
 |str z=>cases h.str;obtain⟨t,rfl⟩:=r;exact⟨t,rfl,trivial⟩
 |tup xs=>
  obtain⟨a,vs,rfl,sq,l⟩:=h.tup sg
  rw [hK] at sq;cases r;obtain⟨aj,q,z,_⟩:=I.tuple sq
  exact⟨a,rfl,aj,vs,l,q,z⟩
 |lst xs=>
  obtain⟨a,vs,rfl,sq,l⟩:=h.lst sg
  cases r;obtain⟨aj,q,z,_⟩:=I.list (nh hK sq)
  exact⟨a,rfl,aj,vs,l,q,z.isList⟩
 |exc c=>cases n<;>exact aC hp
 |d8 a b=>cases n<;>exact aC hp
def mj(W:Wd)(G:Hp)(s:Shared)(n:Nat)(A:Around)(xs ys:List PV):Prop:=∀{vs us:List V} {aj cW:List Value},ai W G xs vs->ai W G ys us->Vals vs aj->Vals us cW->∀j (h1:j<aj.toArray.size) (h2:j<cW.toArray.size),SeqAt.EqAt A s aj.toArray[j] cW.toArray[j] (jr n (xs.getD j .bO) (ys.getD j .bO))
theorem uE{s:Shared}{n:Nat}{A:Around}{xs ys:List PV}(h:∀{p q:PV} {v u:V} {v' u':Value},plain n p=true->plain n q=true->Rep W G p v->Rep W G q u->RelV v v'->RelV u u'->SeqAt.EqAt A s v' u' (jr n p q))(a1:xs.all (plain n)=true)(a2:ys.all (plain n)=true):mj W G s n A xs ys:=λ{vs us aj cW} l1 l2 q1 q2 j g1 g2=>by
 obtain⟨x,hx,rx⟩:=u7 q1 g1
 obtain⟨y,hy,ry⟩:=u7 q2 g2
 obtain⟨px,ex,kx⟩:=l1.get hx
 obtain⟨py,ey,ky⟩:=l2.get hy
 rw [zzK,zzK,ex,ey];exact h (zzT.mp a1 _ (zzD ex)) (zzT.mp a2 _ (zzD ey)) kx ky rx ry
def p7{s:Shared}{n:Nat}{A:Around}{a b:Addr}{xs ys:List PV}(hu:A.units<cLine)(el:mj W G s n A.in1 xs ys)(k1:∃aj vs,ai W G xs vs/\Vals vs aj/\s.heap.IsTuple a aj.toArray)(k2:∃aj vs,ai W G ys vs/\Vals vs aj/\s.heap.IsTuple b aj.toArray):SeqAt.RcAt A s (.ref a) (.ref b) (eqs (jr n) xs ys):=by
 obtain⟨aj,vs,l,q1,z1⟩:=k1
 obtain⟨cW,us,l2,q2,z2⟩:=k2
 have m1:aj.length=xs.length:=by rw [<-q1.length,l.length]
 have m2:cW.length=ys.length:=by rw [<-q2.length,l2.length]
 have:=SeqAt.RcAt.tuples (e:=λj=>jr n (xs.getD j .bO) (ys.getD j .bO)) z1 z2 hu (el l l2 q1 q2)
 rw [zzC,zzC,m1,m2,j4] at this;exact this
def p8{s:Shared}{n:Nat}{A:Around}{a b:Addr}{xs ys:List PV}(hu:A.units<cLine)(el:mj W G s n A.in1 xs ys)(k1:∃aj vs,ai W G xs vs/\Vals vs aj/\s.heap.IsList a aj.toArray)(k2:∃aj vs,ai W G ys vs/\Vals vs aj/\s.heap.IsList b aj.toArray):SeqAt.RcAt A s (.ref a) (.ref b) (eqs (jr n) xs ys):=by
 obtain⟨aj,vs,l,q1,z1⟩:=k1
 obtain⟨cW,us,l2,q2,z2⟩:=k2
 have m1:aj.length=xs.length:=by rw [<-q1.length,l.length]
 have m2:cW.length=ys.length:=by rw [<-q2.length,l2.length]
 by_cases hl:xs.length=ys.length
 ·have:=SeqAt.RcAt.lists (e:=λj=>jr n (xs.getD j .bO) (ys.getD j .bO)) z1 z2 (by rw [zzC,zzC];omega) hu (el l l2 q1 q2)
  rw [zzC,m1,<-g7 hl] at this;exact this
 ·have:=SeqAt.RcAt.lists_lengths z1 z2 (by rw [zzC,zzC,m1,m2];simp [hl]) hu
  rw [hU hl];exact this
open SeqAt.EqAt in
def tX{aa:List (Addr×Obj)}{σ:St}{s:Shared}(I:Inv X aa σ H s)(hK:W.K=X.K)(sg:av G H):∀(n:Nat) {A:Around} {p q:PV} {v u:V} {v' u':Value},A.units+(n+1)<cLine->plain n p=true->plain n q=true->Top W H0 G H p v->Top W H0 G H q u->RelV v v'->RelV u u'->
 SeqAt.EqAt A s v' u' (jr n p q):=by
 intro n
 induction n with
 |zero=>
  intro A p q v u v' u' hu hp hq h1 h2 r1 r2;have a:=yv I hK sg hp h1 r1
  have b:=yv I hK sg hq h2 r2
  cases p<;>cases q<;>first|exact aC hp|exact aC hq|(obtain⟨t1,rfl,_⟩:=a;obtain⟨t2,rfl,_⟩:=b)
  exact same _
  exact none_bool _
  exact none_int _ _
  exact none_str _ _
  exact bool_none _
  exact bool_bool _ _
  exact bool_int _ _ _
  exact bool_str _ _ _
  exact int_none _ _
  exact int_bool _ _ _
  exact int_int _ _ _ _
  exact int_str _ _ _ _
  exact str_none _ _
  exact str_bool _ _ _
  exact str_int _ _ _ _
  exact str_str _ _ _ _
 |succ n ih=>
  intro A p q v u v' u' hu hp hq h1 h2 r1 r2;have bU:A.units<cLine:=by omega
  have a:=yv I hK sg hp h1 r1
  have b:=yv I hK sg hq h2 r2
  have el:∀{xs ys:List PV},xs.all (plain n)=true->ys.all (plain n)=true->mj W G s n A.in1 xs ys:=λa1 a2=>uE (λhp hq h1 h2 r1 r2=>ih (by show A.units+1+(n+1)<_;omega) hp hq (.inl h1) (.inl h2) r1 r2) a1 a2
  cases p<;>cases q<;>first|exact aC hp|exact aC hq|(obtain⟨t1,rfl,k1⟩:=a;obtain⟨t2,rfl,k2⟩:=b;try obtain⟨_,_,_,_,z1⟩:=id k1;try obtain⟨_,_,_,_,z2⟩:=id k2)
  exact same _
  exact none_bool _
  exact none_int _ _
  exact none_str _ _
  exact none_tuple z2 bU
  exact none_list z2 bU
  exact bool_none _
  exact bool_bool _ _
  exact bool_int _ _ _
  exact bool_str _ _ _
  exact bool_tuple _ z2 bU
  exact bool_list _ z2 bU
  exact int_none _ _
  exact int_bool _ _ _
  exact int_int _ _ _ _
  exact int_str _ _ _ _
  exact int_tuple _ _ z2 bU
  exact int_list _ _ z2 bU
  exact str_none _ _
  exact str_bool _ _ _
  exact str_int _ _ _ _
  exact str_str _ _ _ _
  exact str_tuple _ _ z2 bU
  exact str_list _ _ z2 bU
  exact tuple_none z1 bU
  exact tuple_bool _ z1 bU
  exact tuple_int _ _ z1 bU
  exact tuple_str _ _ z1 bU
  by_cases ic:t1=t2
  ·subst ic;cases gY r1;cases gY r2;rw [qq I hK sg (n+1) hp hq h1 h2];exact same _
  ·exact of_refs ic (p7 bU (el hp hq) k1 k2)
  exact tuple_list z1 z2 bU
  exact list_none z1 bU
  exact list_bool _ z1 bU
  exact list_int _ _ z1 bU
  exact list_str _ _ z1 bU
  exact list_tuple z1 z2 bU
  by_cases ic:t1=t2
  ·subst ic;cases gY r1;cases gY r2;rw [qq I hK sg (n+1) hp hq h1 h2];exact same _
  ·exact of_refs ic (p8 bU (el hp hq) k1 k2)
end
section
variable{X:Cx}{W:Wd}{H0 G H:Hp}
open SeqAt.RcAt in
def EL{aa:List (Addr×Obj)}{σ:St}{s:Shared}(I:Inv X aa σ H s)(hK:W.K=X.K)(sg:av G H)(n:Nat){A:Around}{p q:PV}{v u:V}{v' u':Value}(hu:A.units+(n+2)<cLine)(hp:plain (n+1) p=true)(hq:plain (n+1) q=true)(h1:Top W H0 G H p v)(h2:Top W H0 G H q u)(r1:RelV v v')(r2:RelV u u'):
 SeqAt.RcAt A s v' u' (jr (n+1) p q):=by
 have bU:A.units<cLine:=by omega
 have a:=yv I hK sg hp h1 r1
 have b:=yv I hK sg hq h2 r2
 have el:∀{xs ys:List PV},xs.all (plain n)=true->ys.all (plain n)=true->mj W G s n A.in1 xs ys:=λa1 a2=>uE (λhp hq h1 h2 r1 r2=>tX (H0:=H0) I hK sg n (by show A.units+1+(n+1)<_;omega) hp hq (.inl h1) (.inl h2) r1 r2) a1 a2
 cases p<;>cases q<;>first|exact aC hp|exact aC hq|(obtain⟨t1,rfl,k1⟩:=a;obtain⟨t2,rfl,k2⟩:=b;try obtain⟨_,_,_,_,z1⟩:=id k1;try obtain⟨_,_,_,_,z2⟩:=id k2)
 exact none_none
 exact none_bool _
 exact none_int _ _
 exact none_str _ _
 exact none_tuple z2 bU
 exact none_list z2 bU
 exact bool_none _
 exact bool_bool _ _
 exact bool_int _ _ _
 exact bool_str _ _ _
 exact bool_tuple _ z2 bU
 exact bool_list _ z2 bU
 exact int_none _ _
 exact int_bool _ _ _
 exact int_int _ _ _ _
 exact int_str _ _ _ _
 exact int_tuple _ _ z2 bU
 exact int_list _ _ z2 bU
 exact str_none _ _
 exact str_bool _ _ _
 exact str_int _ _ _ _
 exact str_str _ _ _ _
 exact str_tuple _ _ z2 bU
 exact str_list _ _ z2 bU
 exact tuple_none z1 bU
 exact tuple_bool _ z1 bU
 exact tuple_int _ _ z1 bU
 exact tuple_str _ _ z1 bU
 exact p7 bU (el hp hq) k1 k2
 exact tuple_list z1 z2 bU
 exact list_none z1 bU
 exact list_bool _ z1 bU
 exact list_int _ _ z1 bU
 exact list_str _ _ z1 bU
 exact list_tuple z1 z2 bU
 exact p8 bU (el hp hq) k1 k2
def qD{s:Shared}{n:Nat}{A:Around}{a b:Addr}{xs ys:List PV}(hu:A.units<cLine)(el:mj W G s n A.in1 xs ys)(k1:∃aj vs,ai W G xs vs/\Vals vs aj/\s.heap.IsTuple a aj.toArray)(k2:∃aj vs,ai W G ys vs/\Vals vs aj/\s.heap.IsTuple b aj.toArray):SeqAt.RcNeAt A s (.ref a) (.ref b) (!eqs (jr n) xs ys):=by
 obtain⟨aj,vs,l,q1,z1⟩:=k1
 obtain⟨cW,us,l2,q2,z2⟩:=k2
 have m1:aj.length=xs.length:=by rw [<-q1.length,l.length]
 have m2:cW.length=ys.length:=by rw [<-q2.length,l2.length]
 have:=SeqAt.RcNeAt.tuples (e:=λj=>jr n (xs.getD j .bO) (ys.getD j .bO)) z1 z2 hu (el l l2 q1 q2)
 rw [zzC,zzC,m1,m2,j4] at this;exact this
def ri{s:Shared}{n:Nat}{A:Around}{a b:Addr}{xs ys:List PV}(hu:A.units<cLine)(el:mj W G s n A.in1 xs ys)(k1:∃aj vs,ai W G xs vs/\Vals vs aj/\s.heap.IsList a aj.toArray)(k2:∃aj vs,ai W G ys vs/\Vals vs aj/\s.heap.IsList b aj.toArray):SeqAt.RcNeAt A s (.ref a) (.ref b) (!eqs (jr n) xs ys):=by
 obtain⟨aj,vs,l,q1,z1⟩:=k1
 obtain⟨cW,us,l2,q2,z2⟩:=k2
 have m1:aj.length=xs.length:=by rw [<-q1.length,l.length]
 have m2:cW.length=ys.length:=by rw [<-q2.length,l2.length]
 by_cases hl:xs.length=ys.length
 ·have:=SeqAt.RcNeAt.lists (e:=λj=>jr n (xs.getD j .bO) (ys.getD j .bO)) z1 z2 (by rw [zzC,zzC];omega) hu (el l l2 q1 q2)
  rw [zzC,m1,<-g7 hl] at this;exact this
 ·have:=SeqAt.RcNeAt.lists_lengths z1 z2 (by rw [zzC,zzC,m1,m2];simp [hl]) hu
  rw [hU hl];exact this
open SeqAt.RcNeAt in
def wK{aa:List (Addr×Obj)}{σ:St}{s:Shared}(I:Inv X aa σ H s)(hK:W.K=X.K)(sg:av G H)(n:Nat){A:Around}{p q:PV}{v u:V}{v' u':Value}(hu:A.units+(n+2)<cLine)(hp:plain (n+1) p=true)(hq:plain (n+1) q=true)(h1:Top W H0 G H p v)(h2:Top W H0 G H q u)(r1:RelV v v')(r2:RelV u u'):
 SeqAt.RcNeAt A s v' u' (!jr (n+1) p q):=by
 have bU:A.units<cLine:=by omega
 have a:=yv I hK sg hp h1 r1
 have b:=yv I hK sg hq h2 r2
 have el:∀{xs ys:List PV},xs.all (plain n)=true->ys.all (plain n)=true->mj W G s n A.in1 xs ys:=λa1 a2=>uE (λhp hq h1 h2 r1 r2=>tX (H0:=H0) I hK sg n (by show A.units+1+(n+1)<_;omega) hp hq (.inl h1) (.inl h2) r1 r2) a1 a2
 cases p<;>cases q<;>first|exact aC hp|exact aC hq|(obtain⟨t1,rfl,k1⟩:=a;obtain⟨t2,rfl,k2⟩:=b;try obtain⟨_,_,_,_,z1⟩:=id k1;try obtain⟨_,_,_,_,z2⟩:=id k2)
 exact none_none
 exact none_bool _
 exact none_int _ _
 exact none_str _ _
 exact none_tuple z2 bU
 exact none_list z2 bU
 exact bool_none _
 exact bool_bool _ _
 exact bool_int _ _ _
 exact bool_str _ _ _
 exact bool_tuple _ z2 bU
 exact bool_list _ z2 bU
 exact int_none _ _
 exact int_bool _ _ _
 exact int_int _ _ _ _
 exact int_str _ _ _ _
 exact int_tuple _ _ z2 bU
 exact int_list _ _ z2 bU
 exact str_none _ _
 exact str_bool _ _ _
 exact str_int _ _ _ _
 exact str_str _ _ _ _
 exact str_tuple _ _ z2 bU
 exact str_list _ _ z2 bU
 exact tuple_none z1 bU
 exact tuple_bool _ z1 bU
 exact tuple_int _ _ z1 bU
 exact tuple_str _ _ z1 bU
 exact qD bU (el hp hq) k1 k2
 exact tuple_list z1 z2 bU
 exact list_none z1 bU
 exact list_bool _ z1 bU
 exact list_int _ _ z1 bU
 exact list_str _ _ z1 bU
 exact list_tuple z1 z2 bU
 exact ri bU (el hp hq) k1 k2
end
end Ci
namespace L2
open PySem PySem.Spec PyProof.Rows
open PySem.AutoSeq1 (wpAny_loadPart')
theorem oz(l:Addr)(items:Array Value)(n:Nat)(dd:Option Addr)(sl:Array (Option Value))(u:Tok):
 Meets (Builtin.«tuple.__mul__» ⟨[.ref l,.int 1 u],[]⟩) (λ_ R s=>s.heap.get? l=some {cls:=.type "tuple",dict:=dd,data:=.seq items n,slots:=sl}/\R (.ok (.ret (Value.ref l))) s):=
 .of_wp λprog w A R s h=>by
  obtain⟨hp,g,d,tk,os⟩:=s
  obtain⟨hl,h⟩:=h
  have f1:=PySem.AutoSeq1.idx_int
  have f2:=PySem.AutoSeq1.sub_tuple_tuple
  wp_walk using wpAny_loadPart' hl
  exact⟨_,rfl,h⟩
def tq{X:Cx}:fg X (binaryOp .Mult) (λx y H Q=>∃a xs,x=.ref a/\y=.int 1/\eg X.K H a xs/\Q (.ref a) H):=by
 intro aa s σ H x y v u Q I rx ry h;obtain⟨a,xs,rfl,rfl,ha,q⟩:=h
 cases rx;obtain⟨t,rfl⟩:=ry
 obtain⟨aj,r,p1,_⟩:=I.tuple ha
 obtain⟨⟨cls,dd,data,sl⟩,ho,hc,k,hd⟩:=id p1
 simp only at hc hd;subst hc hd;refine wpAny_binaryOp_repeat_ref (T:="tuple") (U:="int") (by decide) ⟨_,ho,rfl⟩ (λs'=>typeIs_int s' 1 t) dS PySem.F.fills_int_mul PySem.F.slot_int_rmul fJ PySem.F.slot_int_index.lookup
  (call_meets PySem.F.slot_int_rmul (typeIs_int s 1 t) PySem.F.entry_int_rmul (PySem.F.args_int_rmul_2 _ _) (eP 1 t a aj.toArray k dd sl)
   ⟨ho,rfl,⟨_,ho,rfl⟩,call_meets PySem.F.slot_tuple_mul ⟨_,ho,rfl⟩ PySem.F.entry_tuple_mul (PySem.F.args_tuple_mul_2 _ _) (oz a aj.toArray k dd sl t) ⟨ho,?_⟩⟩)
 exact⟨.ref a,H,I,rfl,q⟩
end L2
namespace Ci
open PySem L2
section
variable{X:Cx}{W:Wd}
def nr(hK:W.K=X.K){aa:List (Addr×Obj)}{σ:St}{H:Hp}{s:Shared}{a:Addr}{xs:List V}(I:Inv X aa σ H s)(h:j8 W.K H a xs):∃(aj:List Value) (n:Nat),Vals xs aj/\xs.length=aj.length/\xs.length<=sizeLine/\s.heap.get? a=some {cls:=.type "list",data:=.seq aj.toArray n}:=by
 rw [hK] at h;rcases h with h|⟨aj,n,h1,h2,h3⟩
 ·obtain⟨z,aj,n,r,e⟩:=h.ok I.aO
  exact⟨aj,n,r,r.length,z,e⟩
 ·refine⟨aj.toList,n,h3,h3.length,?_,by simpa using I.jn a _ h1⟩;rw [h3.length,zzd];exact h2
def xa(hK:W.K=X.K):fg X (binaryOp .Add) (λx y H Q=>∃l b xs zs,x=.ref l/\y=.ref b/\j8 W.K H l xs/\j8 W.K H b zs/\xs.length+zs.length<=sizeLine/\∀p,H p=none->Q (.ref p) (upd H p (.lst (xs++zs)))):=by
 intro aa s σ H x y v u Q I rx ry h;obtain⟨l,b,xs,zs,rfl,rfl,hH,hB,hz,q⟩:=h
 cases rx;cases ry;obtain⟨aj,n,r,hl,_,e⟩:=nr hK I hH
 obtain⟨cW,n2,r2,HI,_,e2⟩:=nr hK I hB
 refine PySem.P.add_list e e2 ?_ (by rw [zzC,zzC];omega);have ea:aj.toArray++cW.toArray=(aj++cW).toArray:=by simp
 rw [ea];exact⟨.ref _,_,I.DT (t':=s.toks) (r.append r2) (by rw [zzM];omega),rfl,q _ I.fresh⟩
def vL(hK:W.K=X.K):fg X (binaryOp .Mult) (λx y H Q=>∃l k xs,x=.ref l/\y=.int k/\j8 W.K H l xs/\0<=k/\k<1000/\xs.length<1000/\∀p,H p=none->Q (.ref p) (upd H p (.lst (List.replicate k.toNat xs).flatten))):=by
 intro aa s σ H x y v u Q I rx ry h;obtain⟨l,k,xs,rfl,rfl,hH,h1,h2,h3,q⟩:=h
 cases rx;obtain⟨t,rfl⟩:=ry
 obtain⟨aj,n,r,hl,_,e⟩:=nr hK I hH
 have hz:xs.length*k.toNat<=sizeLine:=by
  have:xs.length*k.toNat<=1000*1000:=Nat.mul_le_mul (by omega) (by omega)
  have Fb:(1000000:Nat)<=sizeLine:=by decide
  omega
 have hlen:aj.toArray.size*k.toNat<=sizeLine:=by rw [zzC,<-hl];exact hz
 have AW:¬aj.toArray.size*k.toNat>(2^63-1)/8:=by
  have:(sizeLine:Nat)<=(2^63-1)/8:=by decide
  omega
 have HR:¬(!Builtin.List.listFitsIndex k)=true:=by
  rw [fitsIndex_both (by omega) (by omega)];exact zzf
 have ui:¬Builtin.List.listTooLong (aj.toArray.size*k.toNat)=true:=by
  rw [lZ hlen];exact zzf
 have i9:List.foldl (λx1 x2=>x1++x2) #[] (List.replicate (if aj.toArray.isEmpty=true then 0 else k.toNat) aj.toArray)=(List.replicate k.toNat aj).flatten.toArray:=by
  have f0:∀m:Nat,List.foldl (λx1 x2=>x1++x2) #[] (List.replicate m aj.toArray)=(List.replicate m aj).flatten.toArray:=λm=>by
   have:=foldl_rep aj m []
   rw [List.nil_append] at this;exact this
  rw [f0];cases aj with
  |nil=>simp
  |cons a r'=>rw [if_neg (by simp)]
 refine wpAny_binaryOp_repeat_ref (T:="list") (U:="int") (by decide) ⟨_,e,rfl⟩ (λs'=>typeIs_int s' k t) noFill_list_mul PySem.F.fills_int_mul PySem.F.slot_int_rmul repeat_list PySem.F.slot_int_index.lookup
  (call_meets PySem.F.slot_int_rmul (typeIs_int s k t) PySem.F.entry_int_rmul (PySem.F.args_int_rmul_2 _ _) (int___rmul___int_list k t l aj.toArray n)
   ⟨e,rfl,⟨_,e,rfl⟩,call_meets PySem.F.slot_list_mul ⟨_,e,rfl⟩ PySem.F.entry_list_mul (PySem.F.args_list_mul_2 _ _) (AutoListH.list___mul___list_int_3 l aj.toArray n k t HR AW ui) ⟨e,?_⟩⟩)
 rw [i9];exact⟨.ref _,_,I.DT (t':=s.toks) (r.rep k.toNat) (by rw [len_rep,Nat.mul_comm];exact hz),rfl,q _ I.fresh⟩
theorem ai.rep{G:Hp}{ps:List PV}{vs:List V}(h:ai W G ps vs):∀k:Nat,ai W G (List.replicate k ps).flatten (List.replicate k vs).flatten
 |0=>.nil
 |k+1=>by
  rw [List.replicate_succ,List.replicate_succ,List.flatten_cons,List.flatten_cons];exact h.append (h.rep k)
def vP:fg X (binaryOp .Add) (λx y H Q=>∃a b xs ys,x=.ref a/\y=.ref b/\eg X.K H a xs/\eg X.K H b ys/\xs.length+ys.length<=sizeLine/\(xs=[]->Q (.ref b) H)/\(ys=[]->Q (.ref a) H)/\∀p,H p=none->Q (.ref p) (upd H p (.tup (xs++ys)))):=by
 intro aa s σ H x y v u Q I rx ry h;obtain⟨a,b,xs,ys,rfl,rfl,ha,hb,hz,q1,q2,q3⟩:=h
 cases rx;cases ry
 by_cases hx:xs=[]
 ·subst hx;obtain⟨aj,r1,p1,_⟩:=I.tuple ha
  obtain⟨cW,r2,p2,_⟩:=I.tuple hb
  have e1:aj=[]:=r1.hW.mpr rfl
  subst e1;obtain⟨⟨cls,dd,data,sl⟩,ho,hc,n,hd⟩:=id p1
  obtain⟨⟨cls2,dd2,data2,sl2⟩,ho2,hc2,n2,hd2⟩:=id p2
  simp only at hc hd hc2 hd2;subst hc hd hc2 hd2;exact PySem.concat_meets ⟨_,ho,rfl⟩ ⟨_,ho2,rfl⟩ PySem.noFill_tuple_add PySem.seq_tuple_add PySem.F.slot_tuple_add PySem.F.entry_tuple_add (PySem.F.args_tuple_add_2 _ _)
   (PyProof.Rows.tuple_addW0 a b ([]:List Value).toArray cW.toArray n n2 dd dd2 sl sl2 (by simp)) ⟨ho,ho2,⟨.ref b,H,I,rfl,q1 rfl⟩⟩
 ·refine xK aa s σ H (.ref a) (.ref b) (.ref a) (.ref b) Q I rfl rfl ⟨a,b,xs,ys,rfl,rfl,ha,hb,hx,hz,λe=>q2 e,λ_ p hp=>q3 p hp⟩
noncomputable def EV:yB->Operator
 |.add=>.Add|.sub=>.Sub|.mul=>.Mult|.mod=>.Mod|.fdiv=>.FloorDiv
noncomputable def rY(W:Wd)(f:PV->PV->Res PV):R2:=λx y H Q=>∃H0 G p q r,av G H/\Top W H0 G H p x/\Top W H0 G H q y/\f p q=.ok r/\cm W G H r Q
def Aa(hK:W.K=X.K)(o:yB):fg X (binaryOp (EV o)) (rY W (binOp o)):=by
 intro aa s σ H x y v u Q I rx ry h;obtain⟨H0,G,p,q,r,sg,t1,t2,e,wq⟩:=h
 unfold binOp at e;split at e
 ·cases e;exact AU aa s σ H x y v u Q I rx ry ⟨_,_,t1.int,t2.int,wq.at sg .i⟩
 ·split at e
  ·rename_i hl;cases e;exact nk aa s σ H x y v u Q I rx ry ⟨_,_,t1.str,t2.str,gB hl,wq.at sg .s⟩
  ·cases e
 ·split at e
  ·rename_i hl;cases e;obtain⟨a,vs,rfl,h1,l1⟩:=t1.lst sg
   obtain⟨b,us,rfl,h2,l2⟩:=t2.lst sg
   exact xa hK aa s σ H _ _ v u Q I rx ry ⟨a,b,vs,us,rfl,rfl,h1,h2,by rw [l1.length,l2.length];exact gB hl,λp hp=>wq.lst sg (l1.append l2) hp⟩
  ·cases e
 ·split at e
  ·rename_i hl;cases e;have GV:=t1
   have Kj:=t2
   obtain⟨a,vs,rfl,h1,l1⟩:=t1.tup sg
   obtain⟨b,us,rfl,h2,l2⟩:=t2.tup sg
   rw [hK] at h1 h2;have m1:=l1.length
   have m2:=l2.length
   refine vP aa s σ H _ _ v u Q I rx ry ⟨a,b,vs,us,rfl,rfl,h1,h2,by rw [m1,m2];exact gB hl,λz=>?_,λz=>?_,λp hp=>wq.tup sg (l1.append l2) hp⟩
   ·subst z;rename_i xs ys;have:xs=[]:=List.length_eq_zero_iff.mp m1.symm
    subst this;exact wq.at sg (Kj.elim id λz=>z.elim)
   ·subst z;rename_i xs ys;have:ys=[]:=List.length_eq_zero_iff.mp m2.symm
    subst this;rw [zz6] at wq;exact wq.at sg (GV.elim id λz=>z.elim)
  ·cases e
 ·cases e;exact ze aa s σ H x y v u Q I rx ry ⟨_,_,t1.int,t2.int,wq.at sg .i⟩
 ·split at e
  ·rename_i hc;cases e;refine zm aa s σ H x y v u Q I rx ry ⟨_,_,t1.int,t2.int,?_,wq.at sg .i⟩;rw [zzt] at hc;unfold aW at hc;simp! [zza,zzN] at hc;exact hc
  ·cases e
 ·split at e
  ·rename_i hc;cases e;obtain⟨a,vs,rfl,h1,l1⟩:=t1.lst sg
   exact vL hK aa s σ H _ _ v u Q I rx ry ⟨a,_,vs,rfl,t2.int,h1,hc.1,hc.2.1,by rw [l1.length];exact hc.2.2,λp hp=>wq.lst sg (l1.rep _) hp⟩
  ·cases e
 ·split at e
  ·rename_i hc;cases e;have GV:=t1
   obtain⟨a,vs,rfl,h1,l1⟩:=t1.tup sg
   rw [hK] at h1;have m1:=l1.length
   rename_i xs jj
   by_cases hj:jj=1
   ·subst hj;refine tq aa s σ H _ _ v u Q I rx ry ⟨a,vs,rfl,t2.int,h1,?_⟩;have ex:(List.replicate (1:Int).toNat xs).flatten=xs:=by
     show(List.replicate 1 xs).flatten=xs
     simp
    rw [ex] at wq;exact wq.at sg (GV.elim id λz=>z.elim)
   ·exact vQ aa s σ H _ _ v u Q I rx ry ⟨a,_,vs,rfl,t2.int,h1,by omega,hc.2.1,by rw [m1];exact hc.2.2.1,by rw [m1];exact hc.2.2.2,λp hp=>wq.tup sg (l1.rep _) hp⟩
  ·cases e
 ·split at e
  ·rename_i hc;cases e;exact yT aa s σ H x y v u Q I rx ry ⟨_,_,t1.int,t2.int,hc,wq.at sg .i⟩
  ·cases e
 ·split at e
  ·rename_i hc;cases e;exact v8 aa s σ H x y v u Q I rx ry ⟨_,_,t1.int,t2.int,hc,wq.at sg .i⟩
  ·cases e
 ·cases e
def wY:Fg X (unaryOp .USub) (λx H Q=>∃(H0 G:Hp) (i:Int),av G H/\Top W H0 G H (.int i) x/\cm W G H (.int (-i)) Q):=by
 intro aa s σ H x v Q I rx h;obtain⟨H0,G,i,sg,t,wq⟩:=h
 exact AR aa s σ H x v Q I rx ⟨i,t.int,wq.at sg .i⟩
noncomputable def lQ:r9->CmpOp
 |.eq=>.Eq|.ne=>.NotEq|.lt=>.Lt|.le=>.LtE|.gt=>.Gt|.D3=>.NotIn
def vd{aa:List (Addr×Obj)}{σ:St}{H G:Hp}{s:Shared}{Q:VK}{k:Bool}(I:Inv X aa σ H s)(sg:av G H)(wq:cm W G H (.bl k) Q):EP X aa σ Q (.bool k) s:=⟨.bl k,H,I,rfl,wq.at sg .b⟩
def zy(hK:W.K=X.K)(hu:X.A.units+64<cLine):fg X (compareOp .Eq) (rY W fL):=by
 intro aa s σ H x y v u Q I rx ry h;obtain⟨H0,G,p,q,r,sg,t1,t2,e,wq⟩:=h
 unfold fL at e;split at e
 ·rename_i hc;rw [zza] at hc;cases e;exact EL I hK sg 8 (by omega) hc.1 hc.2 t1 t2 rx ry _ _ _ _ (vd I sg wq)
 ·cases e
def BC(hK:W.K=X.K)(hu:X.A.units+64<cLine):fg X (compareOp .NotEq) (rY W gC):=by
 intro aa s σ H x y v u Q I rx ry h;obtain⟨H0,G,p,q,r,sg,t1,t2,e,wq⟩:=h
 unfold gC at e;split at e
 ·rename_i hc;rw [zza] at hc;cases e;exact wK I hK sg 8 (by omega) hc.1 hc.2 t1 t2 rx ry _ _ _ _ (vd I sg wq)
 ·cases e
def Res.of_ok{α:Type}{o:Option α}{a:α}(h:Res.of o=.ok a):o=some a:=by
 cases o with
 |none=>cases h
 |some b=>cases h;rfl
def zU(hK:W.K=X.K)(hu:X.A.units+64<cLine):fg X (compareOp .Lt) (rY W mE):=by
 intro aa s σ H x y v u Q I rx ry h;obtain⟨H0,G,p,q,r,sg,t1,t2,e,wq⟩:=h
 unfold mE at e;split at e
 ·cases e;exact CF aa s σ H x y v u Q I rx ry ⟨_,_,t1.int,t2.int,wq.at sg .b⟩
 ·cases e
def Az:fg X (compareOp .LtE) (rY W m7):=by
 intro aa s σ H x y v u Q I rx ry h;obtain⟨H0,G,p,q,r,sg,t1,t2,e,wq⟩:=h
 unfold m7 at e;split at e
 ·cases e;exact Ed aa s σ H x y v u Q I rx ry ⟨_,_,t1.int,t2.int,wq.at sg .b⟩
 ·cases e
def zH:fg X (compareOp .Gt) (rY W nT):=by
 intro aa s σ H x y v u Q I rx ry h;obtain⟨H0,G,p,q,r,sg,t1,t2,e,wq⟩:=h
 unfold nT at e;split at e
 ·cases e;exact EK aa s σ H x y v u Q I rx ry ⟨_,_,t1.int,t2.int,wq.at sg .b⟩
 ·cases e
variable{H0 G H:Hp}
def kH{aa:List (Addr×Obj)}{σ:St}{s:Shared}(I:Inv X aa σ H s)(hK:W.K=X.K)(sg:av G H){A:Around}{a:PV}{x:V}{x':Value}{ys:List PV}{us:List V}{aj:List Value}(hu:A.units+32<cLine)(ha:l4 a=true)(hy:ys.all l4=true)(ta:Top W H0 G H a x)(rx:RelV x x')(l:ai W G ys us)(r:Vals us aj):
 ∃e:Value->Bool,(∀y∈aj,SeqAt.EqAt A s y x' (e y))/\∀(j:Nat) (y:Value) (p:PV),aj[j]?=some y->ys[j]?=some p->e y=eqv p a:=by
 classical
 have key:∀(j:Nat) (y:Value),aj[j]?=some y->∃p u,ys[j]?=some p/\us[j]?=some u/\Rep W G p u/\RelV u y/\l4 p=true:=λj y e=>by
  have hj:=(zzH.mp e).1
  have hl:=r.length
  obtain⟨u,Fq,yK⟩:=r.get (i:=j) (x:=us[j]'(by omega)) (zzg (by omega))
  rw [e] at Fq;cases Fq;obtain⟨p,hp,kp⟩:=l.get (zzg (show j<us.length by omega))
  exact⟨p,_,hp,zzg (by omega),kp,yK,zzT.mp hy p (zzD hp)⟩
 refine⟨λy=>if h:∃(j:Nat) (p:PV),aj[j]?=some y/\ys[j]?=some p then eqv h.choose_spec.choose a else false,λy Ct=>?_,λj y p e1 e2=>?_⟩
 ·obtain⟨j,hj,e⟩:=List.getElem_of_mem Ct
  have ej:aj[j]?=some y:=by rw [zzg hj,e]
  obtain⟨p,u,h1,h2,h3,h4,h5⟩:=key j y ej
  have hex:∃(j:Nat) (p:PV),aj[j]?=some y/\ys[j]?=some p:=⟨j,p,ej,h1⟩
  dsimp only;rw [dif_pos hex];have sp:=hex.choose_spec.choose_spec
  obtain⟨p2,u2,g1,g2,g3,g4,g5⟩:=key _ y sp.1
  have e3:hex.choose_spec.choose=p2:=zzq (sp.2.symm.trans g1)
  rw [e3];exact tX (H0:=H0) I hK sg 9 (by omega) g5 ha (.inl g3) ta g4 rx
 ·have hex:∃(j:Nat) (p:PV),aj[j]?=some y/\ys[j]?=some p:=⟨j,p,e1,e2⟩
  dsimp only;rw [dif_pos hex];obtain⟨p1,u1,f1,f2,f3,f4,f5⟩:=key j y e1
  rw [e2] at f1;cases f1;have sp:=hex.choose_spec.choose_spec
  obtain⟨p2,u2,g1,g2,g3,g4,g5⟩:=key _ y sp.1
  have e3:hex.choose_spec.choose=p2:=zzq (sp.2.symm.trans g1)
  have e4:u1=u2:=f4.inj g4
  subst e4;rw [e3,pq I hK sg DP g5 f5 (.inl g3:Top W H0 G H p2 u1) (.inl f3)]
def AN{aj:List Value}{ys:List PV}{e:Value->Bool}{f:PV->Bool}:aj.length=ys.length->(∀(j:Nat) (y:Value) (p:PV),aj[j]?=some y->ys[j]?=some p->e y=f p)->aj.any e=ys.any f:=by
 intro hl h;have:aj.map e=ys.map f:=eZ (by simpa using hl) λj x y hx hy=>by
  rw [zzQ] at hx hy;obtain⟨a,ha,rfl⟩:=zzJ.mp hx
  obtain⟨b,hb,rfl⟩:=zzJ.mp hy
  exact h j a b ha hb
 calc aj.any e=(aj.map e).any id:=by rw [List.any_map];rfl
  _=(ys.map f).any id:=by rw [this]
  _=ys.any f:=by rw [List.any_map];rfl
def uM{aj:List Value}{ys:List PV}{e:Value->Bool}{f:PV->Bool}:aj.length=ys.length->(∀(j:Nat) (y:Value) (p:PV),aj[j]?=some y->ys[j]?=some p->e y=f p)->aj.countP e=ys.countP f:=by
 intro hl h;have:aj.map e=ys.map f:=eZ (by simpa using hl) λj x y hx hy=>by
  rw [zzQ] at hx hy;obtain⟨a,ha,rfl⟩:=zzJ.mp hx
  obtain⟨b,hb,rfl⟩:=zzJ.mp hy
  exact h j a b ha hb
 calc aj.countP e=(aj.map e).countP id:=by rw [List.countP_map];rfl
  _=(ys.map f).countP id:=by rw [this]
  _=ys.countP f:=by rw [List.countP_map];rfl
def wI(hK:W.K=X.K)(hu:X.A.units+64<cLine):fg X (compareOp .NotIn) (rY W j1):=by
 intro aa s σ H x y v u Q I rx ry h;obtain⟨H0,G,p,q,r,sg,t1,t2,e,wq⟩:=h
 have Fq:X.A.in1.units+32<cLine:=by show X.A.units+1+32<_;omega
 unfold j1 at e;split at e
 ·split at e
  ·rename_i hc;rw [zza] at hc;cases e;obtain⟨b,us,rfl,q2,l2⟩:=t2.lst sg
   cases ry;obtain⟨aj,rv,z,_⟩:=I.list (nh hK q2)
   obtain⟨e,he,hv⟩:=kH I hK sg Fq hc.1 hc.2 t1 rx l2 rv
   refine SeqAt.notIn_listAt e z.isList (λy hy=>he y (by simpa using hy)) ?_
   have:=AN (by rw [<-rv.length,l2.length]) hv
   rw [List.any_toArray,this];exact vd I sg wq
  ·cases e
 ·cases e
theorem eV(hK:W.K=X.K)(hu:X.A.units+64<cLine):∀o:r9,fg X (compareOp (lQ o)) (rY W (c8 o))
 |.eq=>zy hK hu|.ne=>BC hK hu|.lt=>zU hK hu|.le=>Az|.gt=>zH|.D3=>wI hK hu
def qj{ps:List PV}{vs:List V}{i:Int}{p:PV}(l:ai W G ps vs)(h:nE ps i=some p):∃v,nE vs i=some v/\Rep W G p v:=by
 unfold nE at h⊢;rw [l.length];cases e:B7 ps.length i with
 |none=>rw [e] at h;cases h
 |some j=>
  rw [e] at h;exact l.lF h
def BB(hu:X.A.units+1<cLine):Cp X (λx y H Q=>∃a bo k b v,x=.ref a/\Rd H a (.dT bo)/\y=.ref b/\H b=some (.tup (k.map kV))/\mU bo k=some v/\Q v H):=by
 intro value slice aa s σ H x y v u Q I rx ry h hs;obtain⟨a,bo,k,b,z,rfl,hd,rfl,hb,hv,q⟩:=h
 cases rx;cases ry;obtain⟨_,_,xs,rel,dd⟩:=yi I.aO hd
 obtain⟨w',hw,jd⟩:=qM.some_of (v:=z) (o:=(atKey xs k).map (·.2)) (by rw [<-hv];exact rel.val k)
 obtain⟨p,hp,hp2⟩:=zzJ.mp hw
 exact PyProof.Rows.subscriptTail_builtinR (x:=w') dd.typeIs PySem.F.slot_dict_getitem.lookup (wpAny_getItem_heap (Q:=λr s'=>r=w'/\EP X aa σ Q r s') (tupleKind_room_in1 hu) (t6 I.aO hb) dd hp ⟨hp2,by rw [hp2];exact⟨z,H,I.tok _,jd,q⟩⟩) hs
def FE(hK:W.K=X.K)(hu:X.A.units+64<cLine):Cp X (rY W bf):=by
 intro value slice aa s σ H x y v u Q I rx ry h hs;obtain⟨H0,G,p,q,r,sg,t1,t2,e,wq⟩:=h
 unfold bf at e;split at e
 ·obtain⟨a,vs,rfl,h1,l1⟩:=t1.lst sg
  obtain⟨w,hw,kw⟩:=qj l1 (Res.of_ok e)
  exact vU value slice aa s σ H _ y v u Q I rx ry ⟨a,vs,_,w,rfl,t2.int,nh hK h1,hw,wq.at sg kw⟩ hs
 ·obtain⟨a,vs,rfl,h1,l1⟩:=t1.tup sg
  rw [hK] at h1;obtain⟨w,hw,kw⟩:=qj l1 (Res.of_ok e)
  exact A3 value slice aa s σ H _ y v u Q I rx ry ⟨a,vs,_,w,rfl,t2.int,h1,hw,wq.at sg kw⟩ hs
 ·split at e
  ·rename_i hl;obtain⟨c,hc,e⟩:=Res.aZ e
   cases e;exact yN value slice aa s σ H x y v u Q I rx ry ⟨_,_,c,t1.str,t2.int,gB hl,Res.of_ok hc,wq.at sg .s⟩ hs
  ·cases e
 ·obtain⟨k,hk,e2⟩:=Res.aZ e
  have hk:=wQ (Res.of_ok hk)
  subst hk;obtain⟨b,rfl,hb⟩:=t2.tupI (ns:=k) sg rfl
  obtain⟨a,us,rfl,n,hd,l⟩:=t1.d8 sg
  obtain⟨w,hw,kw⟩:=pF l (Res.of_ok e2)
  exact BB (by omega) value slice aa s σ H _ _ v u Q I rx ry ⟨a,_,ki k,b,w,rfl,hd,rfl,(by rw [EJ];exact sg _ _ hb),(by rw [tJ];exact hw),wq.at sg kw⟩ hs
 ·cases e
def wA{ps:List PV}{vs:List V}(lo hi:Option Int)(l:ai W G ps vs):ai W G (mC ps lo hi) (rK vs lo hi):=by
 unfold mC rK;rw [l.length];exact(l.drop _).take _
def GP(hK:W.K=X.K):L2.wF X (λx lo hi H Q=>∃H0 G p r,av G H/\Top W H0 G H p x/\fb p lo hi=.ok r/\cm W G H r Q):=by
 intro aa s σ H x v vl vu lo hi sl Q I rx hs pl pu h;obtain⟨H0,G,p,r,sg,t1,e,wq⟩:=h
 unfold fb at e;split at e
 ·cases e;have rp:=t1.elim id λz=>z.elim
  obtain⟨a,vs,rfl,h1,l1⟩:=t1.tup sg
  rw [hK] at h1
  by_cases hw:HT.cj vs.length 0 lo=0/\HT.cj vs.length vs.length hi=vs.length
  ·have ec:∀ys:List PV,ys.length=vs.length->mC ys lo hi=ys:=λys hy=>by
    unfold mC;rw [hy,hw.1,hw.2,<-hy];simp
   rw [ec _ l1.length.symm] at wq;exact xb aa s σ H _ v vl vu _ _ sl Q I rx hs pl pu ⟨a,vs,rfl,h1,hw,wq.at sg rp⟩
  ·exact A9 aa s σ H _ v vl vu _ _ sl Q I rx hs pl pu ⟨a,vs,rfl,h1,hw,λp hp=>wq.tup sg (wA _ _ l1) hp⟩
 ·cases e
def Bh(W:Wd)(f:List PV->Res PV):List V->Hp->VK->Prop:=λvs H Q=>∃H0 G ps r,av G H/\Paired (λv p=>Top W H0 G H p v) vs ps/\f ps=.ok r/\cm W G H r Q
def iK{H0 G H:Hp}{vs:List V}{p:PV}(h:Paired (λv p=>Top W H0 G H p v) vs [p]):∃v,vs=[v]/\Top W H0 G H p v:=by
 cases h with
 |cons h t=>cases t;exact⟨_,rfl,h⟩
def yz{H0 G H:Hp}{vs:List V}{p q:PV}(h:Paired (λv p=>Top W H0 G H p v) vs [p,q]):∃v u,vs=[v,u]/\Top W H0 G H p v/\Top W H0 G H q u:=by
 cases h with
 |cons h t=>
  cases t with
  |cons h2 t2=>cases t2;exact⟨_,_,rfl,h,h2⟩
def qF(hK:W.K=X.K):du X (.builtin "len") (Bh W oB):=by
 intro aa s σ H xs us Q I r h;obtain⟨H0,G,ps,rr,sg,tp,e,wq⟩:=h
 unfold oB at e;split at e
 ·cases e;obtain⟨v,rfl,t⟩:=iK tp
  obtain⟨a,vs,rfl,h1,l1⟩:=t.lst sg
  exact fT aa s σ H _ us Q I r ⟨a,vs,rfl,.inl (nh hK h1),by rw [l1.length];exact wq.at sg .i⟩
 ·cases e;obtain⟨v,rfl,t⟩:=iK tp
  obtain⟨a,vs,rfl,h1,l1⟩:=t.tup sg
  rw [hK] at h1;exact fT aa s σ H _ us Q I r ⟨a,vs,rfl,.inr h1,by rw [l1.length];exact wq.at sg .i⟩
 ·split at e
  ·rename_i hl;cases e;obtain⟨v,rfl,t⟩:=iK tp
   exact kN aa s σ H _ us Q I r ⟨_,by rw [t.str],gB hl,wq.at sg .i⟩
  ·cases e
 ·cases e;obtain⟨v,rfl,t⟩:=iK tp
  obtain⟨a,us',rfl,n,hd,l⟩:=t.d8 sg
  obtain⟨u,rfl,ru⟩:=vals1 r
  cases ru;exact BS I hd λt s' I'=>⟨.int _,H,I',⟨t,rfl⟩,by rw [nN n];exact wq.at sg .i⟩
 ·cases e
def rq:du X (.type "int") (Bh W uW):=by
 intro aa s σ H xs us Q I r h;obtain⟨H0,G,ps,rr,sg,tp,e,wq⟩:=h
 unfold uW at e;split at e
 ·split at e
  ·rename_i hl;obtain⟨n,hn,e⟩:=Res.aZ e
   cases e;obtain⟨v,rfl,t⟩:=iK tp
   exact kW aa s σ H _ us Q I r ⟨_,n,by rw [t.str],Res.of_ok hn,hl,wq.at sg .i⟩
  ·cases e
 ·cases e
def qV:du X (.type "str") (Bh W so):=by
 intro aa s σ H xs us Q I r h;obtain⟨H0,G,ps,rr,sg,tp,e,wq⟩:=h
 unfold so at e;split at e
 ·split at e
  ·rename_i hl;cases e;obtain⟨v,rfl,t⟩:=iK tp
   exact kU aa s σ H _ us Q I r ⟨_,by rw [t.int],hl,wq.at sg .s⟩
  ·cases e
 ·cases e
def mf(hK:W.K=X.K):du X (.type "tuple") (Bh W iE):=by
 intro aa s σ H xs us Q I r h;obtain⟨H0,G,ps,rr,sg,tp,e,wq⟩:=h
 unfold iE at e;split at e
 ·cases e;obtain⟨v,rfl,t⟩:=iK tp
  obtain⟨a,vs,rfl,h1,l1⟩:=t.lst sg
  exact js aa s σ H _ us Q I r ⟨a,vs,rfl,.inl ⟨nh hK h1,λp hp=>wq.tup sg l1 hp⟩⟩
 ·cases e
def GU(W:Wd)(f:List PV->Res PV):V->List V->Hp->VK->Prop:=λx vs H Q=>Bh W f (x::vs) H Q
def oD(hK:W.K=X.K)(hu:X.A.units+64<cLine):Fe X "list.count" (GU W fI):=by
 intro aa s σ H x xs v us Q I rx r h;obtain⟨H0,G,ps,rr,sg,tp,e,wq⟩:=h
 unfold fI at e;split at e
 ·split at e
  ·rename_i hc;rw [zza] at hc;cases e;obtain⟨v1,u1,e1,t,t2⟩:=yz tp
   cases e1;obtain⟨a,vs,rfl,h1,l1⟩:=t.lst sg
   cases rx;obtain⟨u,rfl,ru⟩:=Vals.one r
   obtain⟨aj,n,rv,hl,_,e⟩:=nr hK I h1
   obtain⟨f,he,hv⟩:=kH (A:=X.A.in1) I hK sg (by show X.A.units+1+32<_;omega) hc.1 hc.2 t2 ru l1 rv
   refine PySem.call_meets PySem.F.slot_list_count ⟨_,e,rfl⟩ PySem.F.entry_list_count (PySem.F.args_list_count_2 _ _) (SeqAt.list_countAt a aj.toArray n none #[] u f) ⟨e,λy hy=>he y (by simpa using hy),?_⟩
   refine⟨.int _,H,I.tok _,⟨_,rfl⟩,?_⟩;rw [uM (by rw [<-hl,l1.length]) hv];exact wq.at sg .i
  ·cases e
 ·cases e
def rC(hK:W.K=X.K)(hu:X.A.units+64<cLine):Fe X "list.index" (GU W ik):=by
 intro aa s σ H x xs v us Q I rx r h;obtain⟨H0,G,ps,rr,sg,tp,e,wq⟩:=h
 unfold ik at e;split at e
 ·rename_i ys w;split at e
  ·rename_i hc;rw [zza,zza] at hc;split at e
   ·rename_i j hj;cases e;obtain⟨v1,u1,e1,t,t2⟩:=yz tp
    cases e1;obtain⟨a,vs,rfl,h1,l1⟩:=t.lst sg
    cases rx;obtain⟨u,rfl,ru⟩:=Vals.one r
    obtain⟨aj,n,rv,hl,_,e⟩:=nr hK I h1
    have hlen:aj.length=ys.length:=by rw [<-hl,l1.length]
    have IW:ys.length<1000:=zzY hc.2
    obtain⟨f,he,hv⟩:=kH (A:=X.A.in1) I hK sg (by show X.A.units+1+32<_;omega) hc.1.1 hc.1.2 t2 ru l1 rv
    rw [List.findIdx?_eq_some_iff_getElem] at hj;obtain⟨cD,AL,GZ⟩:=hj
    refine PySem.call_meets PySem.F.slot_list_index ⟨_,e,rfl⟩ PySem.F.entry_list_index (PySem.F.args_list_index_2 _ _) (SeqAt.list_indexAt a aj.toArray n none #[] u f j (by simpa using (by omega:j<aj.length)) (by omega) ?_ λm Je Cq=>?_) ⟨e,λy hy=>he y (by simpa using hy),⟨.int _,H,I.tok _,⟨_,rfl⟩,wq.at sg .i⟩⟩
    ·have:=hv j (aj[j]'(by omega)) ys[j] (zzg (by omega)) (zzg cD)
     simpa using this.trans AL
    ·have hm:m<ys.length:=by omega
     have:=hv m (aj[m]'(by omega)) ys[m] (zzg (by omega)) (zzg hm)
     have z:=GZ m Cq
     simp! [Bool.not_eq_true] at z
     simpa using this.trans z
   ·cases e
  ·cases e
 ·cases e
noncomputable def nZ:Ty->String
 |.int=>"int"|.bool=>"bool"|.tuple=>"tuple"
def Dq{K:zz8}(t:Ty):Cw.vB K "NoneType" (nZ t) false/\(∀b,Cw.vB K "bool" (nZ t) (f6 t (.bl b)))/\(∀i,Cw.vB K "int" (nZ t) (f6 t (.int i)))/\(∀z,Cw.vB K "str" (nZ t) (f6 t (.str z)))/\(∀z,Cw.vB K "tuple" (nZ t) (f6 t (.tup z)))/\(∀z,Cw.vB K "list" (nZ t) (f6 t (.lst z))):=by
 cases t
 all_goals refine⟨?_,λb=>?_,λb=>?_,λb=>?_,λb=>?_,λb=>?_⟩
 all_goals first
  |exact Cw.t9 _
  |exact Cw.sV (b:=false) (by decide+kernel) (by decide+kernel) (by decide+kernel)
  |exact Cw.sV (b:=true) (by decide+kernel) (by decide+kernel) (by decide+kernel)
def u9(hK:W.K=X.K)(t:Ty):du X (.builtin "isinstance") (λxs H Q=>∃v H0 G p r,xs=[v,.ty (nZ t)]/\av G H/\Top W H0 G H p v/\i6 t p=.ok r/\cm W G H r Q):=by
 intro aa s σ H xs us Q I rr h;obtain⟨v,H0,G,p,r,rfl,sg,tp,e,wq⟩:=h
 obtain⟨u,u2,rfl,ru,ru2⟩:=Vals.two rr
 cases ru2;obtain⟨k1,k2,k3,k4,k5,k6⟩:=Dq (K:=X.K) t
 cases p with
 |exc c=>cases e
 |d8 a b=>cases e
 |bO=>cases e;cases tp.bO;cases ru;cases t<;>exact PySem.W.kia_one PySem.W.kitx_none I.jn True.intro k1 (λz=>nomatch z) λtk=>⟨.bl _,H,I.tok tk,rfl,wq.at sg .b⟩
 |bl b=>cases e;cases tp.bl;cases ru;exact PySem.W.kia_one PySem.W.kitx_bool I.jn True.intro (k2 b) (λz=>nomatch z) λtk=>⟨.bl _,H,I.tok tk,rfl,wq.at sg .b⟩
 |int b=>cases e;cases tp.int;obtain⟨t1,rfl⟩:=ru;exact PySem.W.kia_one PySem.W.kitx_int I.jn True.intro (k3 b) (λz=>nomatch z) λtk=>⟨.bl _,H,I.tok tk,rfl,wq.at sg .b⟩
 |str b=>cases e;cases tp.str;obtain⟨t1,rfl⟩:=ru;exact PySem.W.kia_one PySem.W.kitx_str I.jn True.intro (k4 b) (λz=>nomatch z) λtk=>⟨.bl _,H,I.tok tk,rfl,wq.at sg .b⟩
 |tup b=>
  cases e;obtain⟨a,vs,rfl,h1,l1⟩:=tp.tup sg
  rw [hK] at h1;cases ru;obtain⟨aj,_,⟨o,e1,e2,_⟩,_⟩:=I.tuple h1
  exact PySem.W.kia_one PySem.W.kitx_tuple I.jn ⟨o,e1,e2⟩ (k5 b) (λz=>nomatch z) λtk=>⟨.bl _,H,I.tok tk,rfl,wq.at sg .b⟩
 |lst b=>
  cases e;obtain⟨a,vs,rfl,h1,l1⟩:=tp.lst sg
  cases ru;obtain⟨aj,n,_,_,_,e1⟩:=nr hK I h1
  exact PySem.W.kia_one PySem.W.kitx_list I.jn ⟨_,e1,rfl⟩ (k6 b) (λz=>nomatch z) λtk=>⟨.bl _,H,I.tok tk,rfl,wq.at sg .b⟩
theorem kb:∀{vs:List V} {nss:List (List Int)} {G:Hp},av G H->Paired (λv ns=>∃b,v=V.ref b/\H b=some (.tup (ns.map V.int))) vs nss->∃G',aw W G H G' H/\ai W G' (nss.map ub) vs
 |_,_,G,sg,.nil=>⟨G,.refl sg,.nil⟩
 |_,_,G,sg,.cons (b:=ns) h t=>by
  obtain⟨b,rfl,hb⟩:=h
  have g1:=aw.adopt (W:=W) sg hb
  obtain⟨G2,g2,l⟩:=kb g1.sub t
  refine⟨G2,g1.trans g2,.cons (Rep.same g2.g _ ?_) l⟩;refine .t (.inl aq) ?_;have go:∀ns:List Int,ai W (upd G b (.tup (ns.map V.int))) (ns.map .int) (ns.map V.int)/\True:=λ_=>⟨by
   rename_i ns';have all:∀(G':Hp) (l:List Int),ai W G' (l.map .int) (l.map V.int):=λG' l=>by
    induction l with
    |nil=>exact .nil
    |cons x l ih=>exact .cons .i ih
   exact all _ _,trivial⟩
  exact(go ns).1
end
end Ci
namespace L2
open PySem PySem.Spec PyProof.Rows
section
variable{X:Cx}{scope:Scope}{xs ys:List Str}{is:List Nat}
theorem lj{i₀:Nat}{x₀:Str}{pos' i5:Pos}{elt tg iter Ag:Expr}{pos:Pos}{wi:TI}{g:TG}{te:TE}{tt:TT}(hN₀:X.N.Nodup)(hi₀:X.N[i₀]?=some x₀)(hx₀:Loc X.env.scope x₀)(hc:X.calm=true)(S:dD X scope xs ys is)(hi:PI X tg iter wi)
 (hg:∀fp s1 H1 C,PG (bC X (xs++ys) scope (bw X.env ys) fp s1 H1 C) tg g) (ht:∀fp s1 H1 C,PT (bC X (xs++ys) scope (bw X.env ys) fp s1 H1 C) Ag tt) (he:∀fp s1 H1 C,PE (bC X (xs++ys) scope (bw X.env ys) fp s1 H1 C) elt te)
 (vh:swapsWith (.ListComp elt [⟨tg,iter,[Ag],0⟩] scope pos) (some (.Name x₀ pos')) i5.line X.env=pure true:=by rfl)
 (hs:∀x,foldedSetIterable iter X.env x=pure x:=by intro _;rfl) (hf₀:X.fn x₀=true\/X.env.scope.names.lookup x₀=some .local:=by first|exact .inl rfl|exact .inr rfl|assumption):
 PS X (.Assign [.Name x₀ pos'] (.ListComp elt [⟨tg,iter,[Ag],0⟩] scope pos) i5) (wg (gS wi xs.length g tt te is) (eJ i₀)):=by
 intro aa s σ H D₀ I h;rw [exec_Assign_Name_used _ _ _ _ vh];refine zzA (wpAny_standAt (zzA ?_));show wpAny _ X.A (do let _<-comprehension (.ListComp elt [⟨tg,iter,[Ag],0⟩] scope pos) scope X.env _ (newList []) false (eval iter X.env) (some (assign (.Name x₀ pos') X.env))) _ _ s;refine zzA (wpAny_mono (eW (QQ:=λ_ s'=>∃σ2 H2,Inv X aa σ2 H2 s'/\D₀.nx σ2 H2) (Q:=λv H4=>eJ i₀ v σ H4 D₀.nx) hc S hi hg (λfp s1 H1 C=>p5 (ht fp s1 H1 C)) he hs I h λD C s4 H4 m I5 hn ⟨g0,g1,_,g3,g4,g5⟩ q=>?_) (λ_ s' hq=>zzG (zzG hq)) λ_ _ e=>e)
 refine wpAny_assign_Name (gF I5 hN₀ hi₀ hx₀ (show RelV (.ref D) (.ref D) from rfl) (λs6 I6 ⟨a6,sb6,ha6⟩=>?_) hf₀);have ua:C≠a6:=by
  rcases ha6 with z|z
  ·rw [z];exact g1
  ·exact λz2=>g4 _ _ z z2.symm
 exact⟨m,hn.sameBut sb6 ua,λh' vI=>⟨_,_,I6.turned (t':=s6.toks) (it:=C) (λb o hb e=>vI.extBut b o hb e) g0 g1 g3 g4 g5,q⟩⟩
end
open PySem.AutoSeq1 (wpAny_loadPart')
section
variable{prog:Program}{w:World}{A:Around}{E:Value->Shared->Prop}{s:Shared}{jt tu:Addr}{i:Nat}{aj:Array Value}{Q:Value->Shared->Prop}
def gO{x:Value}(ih:s.heap.IsTupleIter jt tu i)(th:s.heap.IsTuple tu aj)(hx:aj[i]?=some x)
 (k:∀g,g.IsTupleIter jt tu (i+1)->Heap.SameBut jt s.heap g->Q x {s with heap:=g}):wpAny (model prog w) A (Builtin.SmallTypes.nextOf (.ref jt)) Q E s:=by
 obtain⟨ob,e1,e2,e3⟩:=id ih
 obtain⟨ot,f1,_,nn,f2⟩:=th
 unfold Builtin.SmallTypes.nextOf;refine zzA (wpAny_callSpecial?_slot (name:=Str.ofString "__next__") ih.typeIs F.slot_tuple_iterator_next (wpAny_call_entry F.slot_tuple_iterator_next ih.typeIs F.entry_tuple_iterator_next ?_ (F.args_tuple_iterator_next_1 _)));show wpAny _ _ (field (.ref jt) 0>>=_) _ _ s;refine zzA (wpAny_field e1 e3 (x:=.ref tu) rfl ?_);show wpAny _ _ (if(Value.ref tu==Value.none)=true then _ else _) _ _ s;rw [if_neg (show¬((Value.ref tu==Value.none)=true) from zzf)];show wpAny _ _ (field (.ref jt) 1>>=_) _ _ s;refine zzA (wpAny_field e1 e3 (x:=.int i 0) rfl ?_);show wpAny _ _ (seqItems? (.ref tu)>>=_) _ _ s;refine zzA (wpAny_seqItems f1 f2 ?_);simp! [zz4,hx];refine zzA (wpAny_setField e1 e3 (by simp) (zzG ⟨x,rfl,zzG (k _ ?_ (zzu ..))⟩));exact⟨_,Heap.get?_update_self _ e1 (Obj.isFreed_of_fields (Obj.data_mapFields e3 _)),(Obj.cls_mapFields ..).trans e2,by rw [Obj.data_mapFields e3];simp [rawInt]⟩
def ix(hh:A.handled=none)(ih:s.heap.IsTupleIter jt tu i)(th:s.heap.IsTuple tu aj)(hx:aj[i]?=none)
 (k:∀g e,Heap.ExtBut jt s.heap g->(∃o,g.get? e=some o/\o.cls=.type "StopIteration")->E (.ref e) {s with heap:=g}):wpAny (model prog w) A (Builtin.SmallTypes.nextOf (.ref jt)) Q E s:=by
 obtain⟨ob,e1,e2,e3⟩:=id ih
 obtain⟨ot,f1,_,nn,f2⟩:=th
 unfold Builtin.SmallTypes.nextOf;refine zzA (wpAny_callSpecial?_slot (name:=Str.ofString "__next__") ih.typeIs F.slot_tuple_iterator_next (wpAny_call_entry F.slot_tuple_iterator_next ih.typeIs F.entry_tuple_iterator_next ?_ (F.args_tuple_iterator_next_1 _)));show wpAny _ _ (field (.ref jt) 0>>=_) _ _ s;refine zzA (wpAny_field e1 e3 (x:=.ref tu) rfl ?_);show wpAny _ _ (if(Value.ref tu==Value.none)=true then _ else _) _ _ s;rw [if_neg (show¬((Value.ref tu==Value.none)=true) from zzf)];show wpAny _ _ (field (.ref jt) 1>>=_) _ _ s;refine zzA (wpAny_field e1 e3 (x:=.int i 0) rfl ?_);show wpAny _ _ (seqItems? (.ref tu)>>=_) _ _ s;refine zzA (wpAny_seqItems f1 f2 ?_);simp! [zz4,hx];refine zzA (wpAny_rule (zzA (wpAny_setField e1 e3 (by simp) ?_)));show wpAny _ _ (newExc (.type "StopIteration") []>>=_) _ _ _;refine zzA ?_;simp! [newExc,newTuple];refine zzA (wpAny_newObj_type ?_ (by size_fits));refine zzA (m:=firstArgMember _ _) (wpAny_of_eq (a:=Value.none) (by first|rfl|(simp! [firstArgMember];rfl)) ?_);refine wpAny_newObj_type ?_ (by size_fits);simp! [raiseNew];refine zzA (wpAny_handled ?_)
 first|rw [show A.in1.handled=none from hh]|rw [hh]
 refine zzA (zzG (wpAny_throw ?_));exact k _ _ (((zzu ..).extBut.push _).push _) ⟨_,zzX _ rfl,rfl⟩
end
theorem gv{prog:Program}{w:World}{A:Around}(hh:A.handled=none)(jt tu:Addr)(ic:tu≠jt)(aj:Array Value):
 Draws prog w A jt [jt,tu] aj.size (λi v=>aj[i]?=some v) (λi h=>h.IsTupleIter jt tu i/\h.IsTuple tu aj) where
 live:=λ_ _ st=>let⟨o,ho,_⟩:=st.1;⟨o,ho⟩
 frame:=λ_ _ _ st hk=>⟨st.1.at λo e=>hk jt (by simp) o e,by obtain⟨o,e,r⟩:=st.2;exact⟨o,hk tu (by simp) o e,r⟩⟩
 item:=λi s Q E hi st hQ=>gO st.1 st.2 (x:=aj[i]) (by simp [hi]) λg ig sb=>hQ _ g s.toks (by simp [hi]) ⟨ig,by obtain⟨o,e,r⟩:=st.2;exact⟨o,sb.extBut _ _ ic e,r⟩⟩ sb
 done:=λs Q E st hE=>ix hh st.1 st.2 (by simp) hE
theorem qY(l:Addr)(items:Array Value)(n:Nat)(d8:Option Addr)(sl:Array (Option Value)):
 Meets (Builtin.«enumerate.__new__» ⟨[.type "enumerate",.ref l],[]⟩) (λ_ R s=>s.heap.get? l=some {cls:=.type "tuple",dict:=d8,data:=.seq items n,slots:=sl}/\
  R (.ok (.ret (.ref (s.heap.push {cls:=.type "tuple_iterator",data:=.fields #[.ref l,.int 0 0]}).objs.size)))
   {s with heap:=(s.heap.push {cls:=.type "tuple_iterator",data:=.fields #[.ref l,.int 0 0]}).push {cls:=.type "enumerate",data:=.fields #[.none,.bool false,.ref (zz9 s),rawInt 0,.none,.none]}}):=
 .of_wp λprog w A R s h=>by
  obtain⟨hp,g,d,tk,os⟩:=s
  obtain⟨hl,h⟩:=h
  have Hk:=sub_enumerate
  have hL:Heap.IsTuple (Shared.heap ⟨hp,g,d,tk,os⟩) l items:=⟨_,hl,rfl,n,rfl⟩
  wp_walk using wpAny_loadPart' hl
  refine wpAny_stack_any λst=>zzG ?_
  split
  ·rename_i c _ _ _ _ _;cases(c==Value.type "enumerate")<;>(wp_walk using wpAny_loadPart' hl,wpAny_pyIter_tuple hL;exact⟨_,rfl,h⟩)
  ·wp_walk using wpAny_loadPart' hl,wpAny_pyIter_tuple hL
   exact⟨_,rfl,h⟩
def d3{h:Heap}{a b:Addr}{o1 o2:Obj}(h1:h.get? a=some o1)(h2:h.get? b=some o2)(hc:o1.cls≠o2.cls):a≠b:=λz=>by
 subst z;rw [h1] at h2;cases h2;exact hc rfl
def dC(z:Str):strIterType z="str_ascii_iterator"\/strIterType z="str_iterator":=by
 unfold strIterType;split
 ·exact .inl rfl
 ·exact .inr rfl
def gz{X:Cx}{aa:List (Addr×Obj)}{σ:St}{H:Hp}{s:Shared}{E:Value->Shared->Prop}{e it:Addr}{II:List Addr}{n i:Nat}{Pv:Nat->Value->Prop}{Sv:Nat->Heap->Prop}{old:Value}{Gx:V->Prop}{elts:List Expr}{x1:Nat}{pos:Pos}
 (I:Inv X aa σ H s) (D:Draws X.prog X.w X.A.in1 it II n Pv Sv) (he:IsEnum s.heap e it i old) (dj:Sv i s.heap) (cD:i<n) (ic:e≠it) (Jn:e∉II) (hf:∀b∈[e,it],f7 X aa H b) (hP:∀u,Pv i u->∃x,RelV x u/\Gx x):
 wpAny (model X.prog X.w) X.A (pyNext (.ref e)) (λr s1=>∃u,r=some u/\wpAny (model X.prog X.w) X.A (letOwnedTupleGo (.Tuple elts x1 pos) (.ref e) u) (λ_ s2=>∃x p,u=.ref p/\Gx x/\H p=none/\e≠p/\it≠p/\
  Inv X aa σ (upd H p (.tup [.int i,x])) s2/\(∃G6,IsEnum s2.heap e it ((i:Int)+1) G6)/\Sv (i+1) s2.heap) E s1) E s:=by
 refine wpAny_pyNext_enum_itemD D he dj cD ic Jn λu h' tk pu ho ni ht hz kk=>?_
 obtain⟨x,rx,gx⟩:=hP u pu
 obtain⟨f0,f1,f2,f3,f4,f5⟩:=hf e (by simp)
 obtain⟨g0,g1,g2,g3,g4,g5⟩:=hf it (by simp)
 have i9:H (zz9 s)=none:=I.aO.fresh (zzE _)
 obtain⟨oi,hoi⟩:=D.live _ _ dj
 have ID:e≠(zz9 s):=zzb (zzO he)
 have Kk:it≠(zz9 s):=zzb (zzO hoi)
 have jX:∀b o,H b=some o->b≠e/\b≠it/\b≠(zz9 s):=λb o q=>⟨(λz=>(by rw [z,f0] at q;cases q)),(λz=>(by rw [z,g0] at q;cases q)),zzb (I.aO.lt q)⟩
 have I1:Inv X aa σ (upd H (zz9 s) (.tup [.int i,x])) {s with heap:=h',toks:=tk+1}:=by
  refine I.step (g':=s.gens) (d':=s.drawn) (ch:=[e,it]) (λb hb=>?_) (λb o _ _ hc q _=>kk b o (λz=>hc (by simp [z])) (λz=>hc (by simp [z])) q)
   (λb o _ _ hc q _=>⟨o.slots,kk b o (λz=>hc (by simp [z])) (λz=>hc (by simp [z])) q⟩) (λb o _ q nb=>by rw [af (zzb (zzO q))];exact nb)
   (λb o hc q=>⟨o,kk b o (λz=>hc (by simp [z])) (λz=>hc (by simp [z])) q⟩) (λb xs q=>by rw [af (jX b _ q).2.2];exact q) (λb o u q=>by rw [af (jX b _ q).2.2];exact q)
   (λb ps q=>⟨#[],by rw [af (jX b _ q).2.2,q];simp⟩) (λm hm=>?_) (λb o q=>?_) I.bare
  ·rcases zzm.mp hb with z|z
   ·subst z;exact⟨f3,f1,f4,f5⟩
   ·rw [zzi.mp z];exact⟨g3,g1,g4,g5⟩
  ·obtain⟨o,es,ep,q,r⟩:=hm
   exact⟨o,es,ep,kk _ o (Ne.symm f1) (Ne.symm g1) q,r⟩
  ·by_cases hb:b=(zz9 s)
   ·subst hb;rw [aq] at q;cases q;exact⟨(show 2<=sizeLine by decide),[.int i tk,u],.cons ⟨tk,rfl⟩ (.cons rx .nil),⟨_,ht,rfl,_,rfl⟩⟩
   ·rw [af hb] at q;refine(I.aO b o q).cU (λc v hc z=>kk c v ?_ ?_ z) (λc z=>by rw [af (jX c _ z).2.2];exact z) λc xs z=>by rw [af (jX c _ z).2.2];exact z
    ·rcases hc with z'|z'
     ·rw [z'];exact(jX b o q).1
     ·exact(jX c _ z').1
    ·rcases hc with z'|z'
     ·rw [z'];exact(jX b o q).2.1
     ·exact(jX c _ z').2.1
 refine⟨_,rfl,wpAny_letOwnedTupleGo_enum ho λh2 yL sb=>?_⟩
 refine⟨x,(zz9 s),rfl,gx,i9,ID,Kk,I1.turned (t':=tk+1) (it:=e) (λb o hb q=>sb.extBut b o hb q) (by rw [af ID];exact f0) f1 f3 f4 f5,⟨_,yL⟩,D.frame _ _ _ ni λb hb o q=>sb.extBut b o (λz=>Jn (z▸hb)) q⟩
noncomputable def Ic(K:zz8)(a:Addr)(xs:List V):It:=
 ⟨λi H=>eg K H a xs/\i<xs.length,λi H v H'=>∃p x,v=.ref p/\H p=none/\H'=upd H p (.tup [.int (i:Nat),x])/\xs[i]?=some x,λi H=>eg K H a xs/\i=xs.length⟩
noncomputable def EZ(z:Str):It:=
 ⟨λi _=>i<z.cps.size,λi H v H'=>∃p c,v=.ref p/\H p=none/\H'=upd H p (.tup [.int (i:Nat),.str ⟨#[c]⟩])/\z.cps[i]?=some c,λi _=>i=z.cps.size⟩
def oh{P:Program}{w:World}{K:zz8}{elts:List Expr}{x1:Nat}{pos:Pos}(a e it:Addr)(xs:List V):Turn P w K (.Tuple elts x1 pos) (Ic K a xs) [e,it] e (λi h=>(∃old,IsEnum h e it i old)/\h.IsTupleIter it a i) where
 mem:=by simp
 obj:=λi h st b hb=>by
  obtain⟨⟨old,he⟩,o,ho,_,hd⟩:=st
  rcases zzm.mp hb with z|z
  ·subst z;exact⟨_,he,λv q=>by cases q⟩
  ·rw [zzi.mp z];exact⟨o,ho,λv q=>by rw [hd] at q;cases q⟩
 keep:=λi h h' st k=>⟨by obtain⟨old,he⟩:=st.1;exact⟨old,k e (by simp) _ he⟩,st.2.at λo q=>k it (by simp) o q⟩
 item:=by
  intro X hP hw hK hc i aa s σ H E I hf st hg;subst hP hw hK;obtain⟨hq,cD⟩:=hg
  obtain⟨⟨old,he⟩,hit⟩:=st
  obtain⟨aj,rv,p,hz⟩:=I.tuple hq
  have hl:=rv.length
  have gP:=hit
  obtain⟨oi,e1,e2,_⟩:=hit
  obtain⟨oa,a1,a2,_⟩:=id p
  have ua:a≠it:=d3 a1 e1 (by rw [a2,e2];decide+kernel)
  have yh:e≠it:=d3 he e1 (by rw [e2];show Value.type "enumerate"≠_;decide+kernel)
  have Au:e≠a:=d3 he a1 (by rw [a2];show Value.type "enumerate"≠_;decide+kernel)
  refine bD (gz (Gx:=λx=>xs[i]?=some x) I (gv (A:=X.A.in1) (I.ok.hd hc) it a ua aj.toArray) he ⟨gP,p⟩ (by rw [zzC];omega) yh (by simp [yh,Au]) hf (λu hu=>?_)) λr s1 ⟨u,hr,k⟩=>⟨u,hr,bD k λ_ s2 ⟨x,q,z1,z2,z3,z4,z5,z6,z7,z8⟩=>?_⟩
  ·have Et:xs[i]?=some xs[i]:=zzg cD
   obtain⟨u',hu',ru'⟩:=rv.get Et
   have:aj.toArray[i]?=some u':=by simpa using hu'
   have yK:aj.toArray[i]?=some u:=hu
   rw [this] at yK;cases yK;exact⟨xs[i],ru',Et⟩
  ·exact⟨.ref q,_,z6,z1.symm▸rfl,⟨q,x,rfl,z3,rfl,z2⟩,⟨z7,z8.1⟩,λb hb=>by
    rcases zzm.mp hb with w|w
    ·rw [w,af z4];exact(hf e (by simp)).1
    ·rw [zzi.mp w,af z5];exact(hf it (by simp)).1⟩
 done:=by
  intro X hP hw hK hc i aa s σ H E I hf st hg;subst hP hw hK;obtain⟨hq,rfl⟩:=hg
  obtain⟨⟨old,he⟩,hit⟩:=st
  obtain⟨aj,rv,p,hz⟩:=I.tuple hq
  have hl:=rv.length
  have gP:=hit
  obtain⟨oi,e1,e2,_⟩:=hit
  obtain⟨oa,a1,a2,_⟩:=id p
  have ua:a≠it:=d3 a1 e1 (by rw [a2,e2];decide+kernel)
  obtain⟨g0,g1,g2,g3,g4,g5⟩:=hf it (by simp)
  refine wpAny_pyNext_enum_endD (gv (A:=X.A.in1) (I.ok.hd hc) it a ua aj.toArray) he ⟨by rw [zzC,<-hl];exact gP,p⟩ λh' eb=>⟨rfl,I.turned (t':=s.toks) (λb o hb q=>eb b o hb q) g0 g1 g3 g4 g5⟩
 self:=λ_ _ _ _ _ st h=>by obtain⟨⟨old,he⟩,_⟩:=st;exact wpAny_pyIter_enum he h
def jv{prog:Program}{w:World}{A:Around}{E:Value->Shared->Prop}{s:Shared}{l:Addr}{items:Array Value}{Q:Value->Shared->Prop}(hL:IsTup s.heap l items)
 (h:∀g,IsEnum g ((zz9 s)+1) (zz9 s) 0 .none->g.IsTupleIter (zz9 s) l 0->(∀b o,s.heap.get? b=some o->g.get? b=some o)->Q (.ref ((zz9 s)+1)) {s with heap:=g}):
 wpAny (model prog w) A (call (.type "enumerate") [.ref l]) Q E s:=by
 obtain⟨⟨cls,dd,data,sl⟩,ho,hc,n,hd⟩:=id hL
 simp only at hc hd;subst hc hd;have hz:(s.heap.push {cls:=.type "tuple_iterator",data:=.fields #[.ref l,.int 0 0]}).objs.size=(zz9 s)+1:=Heap.size_push ..
 refine callType_new F.called_enumerate (by decide) (F.typeCall_enumerate_1 _) (F.newCall_enumerate_1 _) (λobj=>F.args_object_init_2 obj _) F.entry_enumerate_new (qY l items n dd sl) ⟨ho,?_⟩;show _/\_;rw [hz];have he:IsEnum ((s.heap.push {cls:=.type "tuple_iterator",data:=.fields #[.ref l,.int 0 0]}).push {cls:=.type "enumerate",data:=.fields #[.none,.bool false,.ref (zz9 s),rawInt 0,.none,.none]}) ((zz9 s)+1) (zz9 s) 0 .none:=by
  have q:=zzX (s.heap.push {cls:=.type "tuple_iterator",data:=.fields #[.ref l,.int 0 0]}) (o:={cls:=.type "enumerate",data:=.fields #[.none,.bool false,.ref (zz9 s),rawInt 0,.none,.none]}) rfl
  rw [hz] at q;exact q
 exact⟨⟨_,he,rfl⟩,h _ he ⟨_,zzB _ (zzX _ rfl),rfl,rfl⟩ λb o x=>zzB _ (zzB _ x)⟩
section
variable{X:Cx}{elts:List Expr}{x1:Nat}{gN:Pos}
noncomputable def FW(K:zz8)(ta:TA):TI:=λσ H R=>ta σ H λvs H1=>∃a xs,vs=[.ref a]/\eg K H1 a xs/\R (Ic K a xs) H1
theorem uR{a:Expr}{ta:TA}{p pos:Pos}(hg:Gl X "enumerate")(hm:X.mg "enumerate"=none)(ha:PA X [a] ta)(hs:starEach [a] X.env=[(false,eval a X.env)]:=by rfl):PI X (.Tuple elts x1 gN) (.Call (.Name "enumerate" p) [a] [] pos) (FW X.K ta):=by
 intro aa s σ H R I h;refine Call_ (dZ I hg hm boot_enumerate (PyProof.Rows.callWith_type1 (bD (ha pos aa s σ H _ I h) λus s1 ⟨vs,H1,I1,r1,q1⟩=>?_) hs rfl))
 obtain⟨a,xs,e,hq,q⟩:=q1
 subst e;obtain⟨u,rfl,ru⟩:=vals1 r1
 cases ru;obtain⟨aj,rv,pt,hz⟩:=I1.tuple hq
 refine jv pt λg he hi kp=>wpAny_pyIter_enum he ?_
 have I2:Inv X aa σ H1 {s1 with heap:=g}:=I1.kept (t':=s1.toks) kp
 refine⟨(zz9 s1)+1,[(zz9 s1)+1,(zz9 s1)],_,_,H1,rfl,I2,oh a _ (zz9 s1) xs,⟨⟨_,he⟩,hi⟩,λb hb=>?_,q⟩
 have g6:(zz9 s1)<=b:=by
  rcases zzm.mp hb with z|z
  ·rw [z];exact Nat.le_succ _
  ·rw [zzi.mp z];exact zzE _
 exact I1.kM g6 (I1.aO.fresh g6)
end
def oG{P:Program}{w:World}{K:zz8}{elts:List Expr}{x1:Nat}{pos:Pos}(z:Str)(t:Tok)(e it:Addr):Turn P w K (.Tuple elts x1 pos) (EZ z) [e,it] e (λi h=>(∃old,IsEnum h e it i old)/\h.IsStrIter it (strIterType z) z t i) where
 mem:=by simp
 obj:=λi h st b hb=>by
  obtain⟨⟨old,he⟩,o,ho,_,hd⟩:=st
  rcases zzm.mp hb with q|q
  ·subst q;exact⟨_,he,λv q=>by cases q⟩
  ·rw [zzi.mp q];exact⟨o,ho,λv q=>by rw [hd] at q;cases q⟩
 keep:=λi h h' st k=>⟨by obtain⟨old,he⟩:=st.1;exact⟨old,k e (by simp) _ he⟩,by obtain⟨o,q,r⟩:=st.2;exact⟨o,k it (by simp) o q,r⟩⟩
 item:=by
  intro X hP hw hK hc i aa s σ H E I hf st hg;subst hP hw hK;have cD:i<z.cps.size:=hg
  obtain⟨⟨old,he⟩,hit⟩:=st
  have gP:=hit
  obtain⟨oi,e1,e2,_⟩:=hit
  have yh:e≠it:=d3 he e1 (by
   rw [e2];show Value.type "enumerate"≠_;rcases dC z with q|q<;>rw [q]<;>decide+kernel)
  have fin:∀{Sv:Nat->Heap->Prop},Draws X.prog X.w X.A.in1 it [it] z.cps.size (λi v=>∃c u,z.cps[i]?=some c/\v=.str ⟨#[c]⟩ u) Sv->Sv i s.heap->(∀h,Sv (i+1) h->h.IsStrIter it (strIterType z) z t (i+1))->
   wpAny (model X.prog X.w) X.A (pyNext (.ref e)) (λr s1=>∃u,r=some u/\wpAny (model X.prog X.w) X.A (letOwnedTupleGo (.Tuple elts x1 pos) (.ref e) u) (λ_ s2=>∃x H',Inv X aa σ H' s2/\RelV x u/\(EZ z).B1 i H x H'/\((∃old,IsEnum s2.heap e it (((i+1:Nat)):Int) old)/\s2.heap.IsStrIter it (strIterType z) z t (i+1))/\∀b∈[e,it],H' b=none) E s1) E s:=by
   intro Sv D dj back;refine bD (gz (Gx:=λx=>∃c,x=.str ⟨#[c]⟩/\z.cps[i]?=some c) I D he dj cD yh (by simp [yh]) hf (λu ⟨c,tk,hc,hu⟩=>⟨.str ⟨#[c]⟩,⟨tk,hu⟩,c,rfl,hc⟩)) λr s1 ⟨u,hr,k⟩=>⟨u,hr,bD k λ_ s2 ⟨x,q,z1,⟨c,z2,z2'⟩,z3,z4,z5,z6,z7,z8⟩=>?_⟩
   subst z2;exact⟨.ref q,_,z6,z1.symm▸rfl,⟨q,c,rfl,z3,rfl,z2'⟩,⟨z7,back _ z8⟩,λb hb=>by
    rcases zzm.mp hb with w|w
    ·rw [w,af z4];exact(hf e (by simp)).1
    ·rw [zzi.mp w,af z5];exact(hf it (by simp)).1⟩
  rcases dC z with q|q
  ·rw [q] at gP⊢;rw [q] at fin;exact fin (Draws.strAscii (A:=X.A.in1) (I.ok.hd hc) it z t) gP λh st=>st
  ·rw [q] at gP⊢;rw [q] at fin;exact fin (Draws.strWide (A:=X.A.in1) (I.ok.hd hc) it z t) gP λh st=>st
 done:=by
  intro X hP hw hK hc i aa s σ H E I hf st hg;subst hP hw hK;have hi:i=z.cps.size:=hg
  subst hi;obtain⟨⟨old,he⟩,hit⟩:=st
  obtain⟨g0,g1,g2,g3,g4,g5⟩:=hf it (by simp)
  rcases dC z with q|q
  ·rw [q] at hit;exact wpAny_pyNext_enum_endD (Draws.strAscii (A:=X.A.in1) (I.ok.hd hc) it z t) he hit λh' eb=>⟨rfl,I.turned (t':=s.toks) (λb o hb q=>eb b o hb q) g0 g1 g3 g4 g5⟩
  ·rw [q] at hit;exact wpAny_pyNext_enum_endD (Draws.strWide (A:=X.A.in1) (I.ok.hd hc) it z t) he hit λh' eb=>⟨rfl,I.turned (t':=s.toks) (λb o hb q=>eb b o hb q) g0 g1 g3 g4 g5⟩
 self:=λ_ _ _ _ _ st h=>by obtain⟨⟨old,he⟩,_⟩:=st;exact wpAny_pyIter_enum he h
section
variable{X:Cx}{elts:List Expr}{x1:Nat}{gN:Pos}
noncomputable def Hq(ta:TA):TI:=λσ H R=>ta σ H λvs H1=>∃z,vs=[.str z]/\R (EZ z) H1
theorem sJ{a:Expr}{ta:TA}{p pos:Pos}(hg:Gl X "enumerate")(hm:X.mg "enumerate"=none)(ha:PA X [a] ta)(hs:starEach [a] X.env=[(false,eval a X.env)]:=by rfl):PI X (.Tuple elts x1 gN) (.Call (.Name "enumerate" p) [a] [] pos) (Hq ta):=by
 intro aa s σ H R I h;refine Call_ (dZ I hg hm boot_enumerate (PyProof.Rows.callWith_type1 (bD (ha pos aa s σ H _ I h) λus s1 ⟨vs,H1,I1,r1,q1⟩=>?_) hs rfl))
 obtain⟨z,e,q⟩:=q1
 subst e;obtain⟨u,rfl,t,rfl⟩:=vals1 r1
 refine call_enumerate_str λg he hi hz kp=>wpAny_pyIter_enum he ?_
 have I2:Inv X aa σ H1 {s1 with heap:=g}:=I1.kept (t':=s1.toks) kp
 refine⟨(zz9 s1)+1,[(zz9 s1)+1,(zz9 s1)],_,_,H1,rfl,I2,oG z t _ (zz9 s1),⟨⟨_,he⟩,hi⟩,λb hb=>?_,q⟩
 have g6:(zz9 s1)<=b:=by
  rcases zzm.mp hb with z|z
  ·rw [z];exact Nat.le_succ _
  ·rw [zzi.mp z];exact zzE _
 exact I1.kM g6 (I1.aO.fresh g6)
end
noncomputable def Bs(K:zz8)(a:Addr)(xs:List V):It:=
 ⟨λi H=>gL K H a xs/\i<xs.length,λi H v H'=>∃p x,v=.ref p/\H p=none/\H'=upd H p (.tup [.int (i:Nat),x])/\xs[i]?=some x,λi H=>gL K H a xs/\i=xs.length⟩
def og{P:Program}{w:World}{K:zz8}{elts:List Expr}{x1:Nat}{pos:Pos}(a e it:Addr)(xs:List V):Turn P w K (.Tuple elts x1 pos) (Bs K a xs) [e,it] e (λi h=>(∃old,IsEnum h e it i old)/\h.IsListIter it a i) where
 mem:=by simp
 obj:=λi h st b hb=>by
  obtain⟨⟨old,he⟩,o,ho,_,hd⟩:=st
  rcases zzm.mp hb with z|z
  ·subst z;exact⟨_,he,λv q=>by cases q⟩
  ·rw [zzi.mp z];exact⟨o,ho,λv q=>by rw [hd] at q;cases q⟩
 keep:=λi h h' st k=>⟨by obtain⟨old,he⟩:=st.1;exact⟨old,k e (by simp) _ he⟩,st.2.at λo q=>k it (by simp) o q⟩
 item:=by
  intro X hP hw hK hc i aa s σ H E I hf st hg;subst hP hw hK;obtain⟨hq,cD⟩:=hg
  obtain⟨⟨old,he⟩,hit⟩:=st
  obtain⟨aj,rv,p,hz⟩:=I.list hq
  have hl:=rv.length
  have gP:=hit
  obtain⟨oi,e1,e2,_⟩:=hit
  obtain⟨oa,a1,a2,_⟩:=p.isList
  have ua:a≠it:=d3 a1 e1 (by rw [a2,e2];decide+kernel)
  have yh:e≠it:=d3 he e1 (by rw [e2];show Value.type "enumerate"≠_;decide+kernel)
  have Au:e≠a:=d3 he a1 (by rw [a2];show Value.type "enumerate"≠_;decide+kernel)
  refine bD (gz (Gx:=λx=>xs[i]?=some x) I (Draws.list (A:=X.A.in1) (I.ok.hd hc) it a ua aj.toArray) he ⟨gP,p.isList⟩ (by rw [zzC];omega) yh (by simp [yh,Au]) hf (λu hu=>?_)) λr s1 ⟨u,hr,k⟩=>⟨u,hr,bD k λ_ s2 ⟨x,q,z1,z2,z3,z4,z5,z6,z7,z8⟩=>?_⟩
  ·have Et:xs[i]?=some xs[i]:=zzg cD
   obtain⟨u',hu',ru'⟩:=rv.get Et
   have:aj.toArray[i]?=some u':=by simpa using hu'
   have yK:aj.toArray[i]?=some u:=hu
   rw [this] at yK;cases yK;exact⟨xs[i],ru',Et⟩
  ·exact⟨.ref q,_,z6,z1.symm▸rfl,⟨q,x,rfl,z3,rfl,z2⟩,⟨z7,z8.1⟩,λb hb=>by
    rcases zzm.mp hb with w|w
    ·rw [w,af z4];exact(hf e (by simp)).1
    ·rw [zzi.mp w,af z5];exact(hf it (by simp)).1⟩
 done:=by
  intro X hP hw hK hc i aa s σ H E I hf st hg;subst hP hw hK;obtain⟨hq,rfl⟩:=hg
  obtain⟨⟨old,he⟩,hit⟩:=st
  obtain⟨aj,rv,p,hz⟩:=I.list hq
  have hl:=rv.length
  have gP:=hit
  obtain⟨oi,e1,e2,_⟩:=hit
  obtain⟨oa,a1,a2,_⟩:=p.isList
  have ua:a≠it:=d3 a1 e1 (by rw [a2,e2];decide+kernel)
  obtain⟨g0,g1,g2,g3,g4,g5⟩:=hf it (by simp)
  refine wpAny_pyNext_enum_endD (Draws.list (A:=X.A.in1) (I.ok.hd hc) it a ua aj.toArray) he ⟨by rw [zzC,<-hl];exact gP,p.isList⟩ λh' eb=>⟨rfl,I.turned (t':=s.toks) (λb o hb q=>eb b o hb q) g0 g1 g3 g4 g5⟩
 self:=λ_ _ _ _ _ st h=>by obtain⟨⟨old,he⟩,_⟩:=st;exact wpAny_pyIter_enum he h
section
variable{X:Cx}{elts:List Expr}{x1:Nat}{gN:Pos}
noncomputable def HQ(K:zz8)(ta:TA):TI:=λσ H R=>ta σ H λvs H1=>∃a xs,vs=[.ref a]/\gL K H1 a xs/\R (Bs K a xs) H1
theorem m9{a:Expr}{ta:TA}{p pos:Pos}(hg:Gl X "enumerate")(hm:X.mg "enumerate"=none)(ha:PA X [a] ta)(hs:starEach [a] X.env=[(false,eval a X.env)]:=by rfl):PI X (.Tuple elts x1 gN) (.Call (.Name "enumerate" p) [a] [] pos) (HQ X.K ta):=by
 intro aa s σ H R I h;refine Call_ (dZ I hg hm boot_enumerate (PyProof.Rows.callWith_type1 (bD (ha pos aa s σ H _ I h) λus s1 ⟨vs,H1,I1,r1,q1⟩=>?_) hs rfl))
 obtain⟨a,xs,e,hq,q⟩:=q1
 subst e;obtain⟨u,rfl,ru⟩:=vals1 r1
 cases ru;obtain⟨aj,rv,pt,hz⟩:=I1.list hq
 refine call_enumerate_list pt.isList λg he hi _ kp=>wpAny_pyIter_enum he ?_
 have I2:Inv X aa σ H1 {s1 with heap:=g}:=I1.kept (t':=s1.toks) kp
 refine⟨(zz9 s1)+1,[(zz9 s1)+1,(zz9 s1)],_,_,H1,rfl,I2,og a _ (zz9 s1) xs,⟨⟨_,he⟩,hi⟩,λb hb=>?_,q⟩
 have g6:(zz9 s1)<=b:=by
  rcases zzm.mp hb with z|z
  ·rw [z];exact Nat.le_succ _
  ·rw [zzi.mp z];exact zzE _
 exact I1.kM g6 (I1.aO.fresh g6)
variable{aa:List (Addr×Obj)}{σ:St}{H:Hp}{s:Shared}{h':Heap}{ch:List Addr}
def Inv.moved{tk:Nat}(I:Inv X aa σ H s)(hf:∀b∈ch,f7 X aa H b)(kk:∀b o,b∉ch->s.heap.get? b=some o->h'.get? b=some o):Inv X aa σ H {s with heap:=h',toks:=tk}:=by
 have jX:∀b o,H b=some o->b∉ch:=λb o q z=>by rw [(hf b z).1] at q;cases q
 refine I.step (g':=s.gens) (d':=s.drawn) (ch:=ch) (λb hb=>?_) (λb o _ _ hc q _=>kk b o hc q) (λb o _ _ hc q _=>⟨o.slots,kk b o hc q⟩) (λ_ _ _ _ n=>n)
  (λb o hc q=>⟨o,kk b o hc q⟩) (λb xs q=>q) (λb o u q=>q) (λb ps q=>⟨#[],by rw [q];simp⟩) (λm hm=>?_) (λb o q=>?_) I.bare
 ·obtain⟨f0,f1,f2,f3,f4,f5⟩:=hf b hb
  exact⟨f3,f1,f4,f5⟩
 ·obtain⟨o,es,ep,q,r⟩:=hm
  exact⟨o,es,ep,kk _ o (λz=>(hf _ z).2.1 rfl) q,r⟩
 ·refine(I.aO b o q).cU (λc v hc z=>kk c v ?_ z) (λc z=>z) λc xs z=>z
  rcases hc with z'|z'
  ·rw [z'];exact jX b o q
  ·exact jX c _ z'
end
structure Zd where
 it:Addr
 fp:List Addr
 n:Nat
 P:Nat->Value->Prop
 St:Nat->Heap->Prop
structure DZ(prog:Program)(w:World)(A:Around)(z TI TO:Addr)(ds:List Zd):Prop where
 D:∀d∈ds,Draws prog w A d.it d.fp d.n d.P d.St
 zf:∀d∈ds,z∉d.fp/\TO∉d.fp/\d.it≠z/\d.it≠TO/\d.it≠TI
 ap:ds.Pairwise λa b=>a.it∉b.fp/\b.it∉a.fp
 tz:TI≠z/\TO≠z/\TI≠TO
abbrev fE(h:Heap)(T:Addr)(xs:Array Value):Prop:=h.get? T=some {cls:=.type "tuple",data:=.seq xs}
section
variable{prog:Program}{w:World}{A:Around}{E:Value->Shared->Prop}{s:Shared}{z TI TO:Addr}{ds:List Zd}{k:Nat}
def Hg(z TI TO:Addr)(k:Nat)(h0:Heap)(ds:List Zd)(rest:List (Value×Nat))(h:Heap):Prop:=
 ∃dn lf xs ys,ds=dn++lf/\rest=(lf.map λd=>Value.ref d.it).zipIdx dn.length/\Paired (λd x=>d.P k x) dn xs/\ys.length=lf.length/\IsZip h z TI TO .ellipsis/\fE h TO (xs++ys).toArray/\
  (∀d∈dn,d.St (k+1) h)/\(∀d∈lf,d.St k h)/\h.objs.size=h0.objs.size/\∀c o,c≠z->c≠TO->(∀d∈ds,c≠d.it)->h0.get? c=some o->h.get? c=some o
def mY{Q:Fin->Shared->Prop}(Z:DZ prog w A z TI TO ds)(hl:ds.length<=9)(ic:ds≠[])(hz:IsZip s.heap z TI TO .none)(Lf:fE s.heap TI (ds.map λd=>Value.ref d.it).toArray)(Lk:∃c,fE s.heap TO c/\c.size=ds.length)(hs:∀d∈ds,d.St k s.heap/\k<=d.n)
 (hQ:∀h' tk xs,Paired (λd x=>d.P k x) ds xs->IsZip h' z TI TO (rawInt (zz9 s))->(∃c,fE h' TO c/\c.size=ds.length)->(∀d∈ds,d.St (k+1) h')->fE h' (zz9 s) xs.toArray->h'.objs.size=(zz9 s)+1->
  (∀c o,c≠z->c≠TO->(∀d∈ds,c≠d.it)->s.heap.get? c=some o->h'.get? c=some o)->Q (.done (.ret (.ref (zz9 s)))) {s with heap:=h',toks:=tk})
 (hE:∀h' tk e,(∃d∈ds,d.n<=k)->(∀c o,c≠z->c≠TO->(∀d∈ds,c≠d.it)->s.heap.get? c=some o->h'.get? c=some o)->(∃o,h'.get? e=some o/\o.cls=.type "StopIteration")->E (.ref e) {s with heap:=h',toks:=tk}):
 wpAny (model prog w) A (Builtin.«zip.__next__» ⟨[.ref z],[]⟩) Q E s:=by
 obtain⟨t1,t2,t3⟩:=Z.tz
 show wpAny _ _ (field (.ref z) 2>>=_) _ _ _
 refine zzA (wpAny_field hz rfl (x:=.bool false) rfl ?_);show wpAny _ _ (field (.ref z) 3>>=_) _ _ _;refine zzA (wpAny_field hz rfl (x:=.ref TI) rfl ?_);refine zzA (wpAny_seqItems Lf rfl ?_);have GK:(ds.map λd=>Value.ref d.it).toArray.isEmpty=false:=by cases ds<;>simp_all
 simp! [GK,zze,if_false];show wpAny _ _ (Builtin.SmallTypes.ownedTupleIsFree (.ref z)>>=_) _ _ _;refine zzA ?_;unfold Builtin.SmallTypes.ownedTupleIsFree;refine zzA (wpAny_field hz rfl (x:=.none) rfl (zzG ?_));simp! [if_true];refine zzA (wpAny_rule ?_);refine zzA (wpAny_field hz rfl (x:=.ref TO) rfl ?_);refine zzA (wpAny_setField_rec hz (by simp) λh₁ hz₁ hs₁=>?_)
 replace hz₁:IsZip h₁ z TI TO .ellipsis:=hz₁
 refine zzA ?_;obtain⟨c,hc,yy⟩:=Lk
 have De:∀{h h':Heap},Heap.SameBut z h h'->∀d∈ds,∀{i},d.St i h->d.St i h':=λsb d hd i q=>(Z.D d hd).frame _ _ _ q λb hb o e=>sb.extBut b o (λx=>(Z.zf d hd).1 (x▸hb)) e
 refine wpAny_forIn_list _ (λrest b s'=>b=⟨none,PUnit.unit⟩/\∃h tk,s'={s with heap:=h,toks:=tk}/\Hg z TI TO k s.heap ds rest h) _ ?_ ?_ _ _ ⟨rfl,h₁,s.toks,rfl,[],ds,[],c.toList,rfl,rfl,.nil,by simpa using yy,hz₁,?_,(λd hd=>nomatch hd),(λd hd=>De hs₁ d hd (hs d hd).1),hs₁.1,λc o h1 _ _ e=>hs₁.extBut _ _ h1 e⟩
 ·rintro ⟨EW,j⟩ rest b s' ⟨rfl,h,tk,rfl,dn,lf,xs,ys,rfl,hr,pr,hyl,hzh,hto,sd,sl,hsz,kk⟩
  cases lf with
  |nil=>cases hr
  |cons d lf=>
   simp! [zzF,List.zipIdx_cons,List.cons.injEq,Prod.mk.injEq] at hr;obtain⟨⟨rfl,rfl⟩,rfl⟩:=hr
   have hd:d∈dn++d::lf:=by simp
   have D:=Z.D d hd
   obtain⟨f1,f2,f3,f4,f5⟩:=Z.zf d hd
   refine zzA (wpAny_onRaise ?_);show wpAny _ _ (Builtin.SmallTypes.nextOf (.ref d.it)>>=_) _ _ _;have IE:∀a∈dn++lf,d.it∉a.fp/\a.it∉d.fp:=λa ha=>by
    have q:=List.pairwise_append.1 Z.ap
    rcases List.mem_append.1 ha with ha|ha
    ·exact(q.2.2 a ha d (zzP ..)).symm
    ·exact(List.pairwise_cons.1 q.2.1).1 a ha
   by_cases hk:k<d.n
   ·refine zzA (D.item k _ _ _ hk (sl d (zzP ..)) λx h2 Kd px HA sb=>zzG ?_)
    have Al:fE h2 TO (xs++ys).toArray:=sb.extBut _ _ (Ne.symm f4) hto
    refine zzA (wpAny_seqItems Al rfl ?_);have lx:=Paired.length pr
    obtain⟨y,yr,rfl⟩:∃y yr,ys=y::yr:=by cases ys with|nil=>cases hyl|cons y yr=>exact⟨y,yr,rfl⟩
    have D8:(xs++y::yr).toArray.size<=sizeLine:=by
     have:(xs++y::yr).toArray.size<=9:=by simp! [zzC,zzM,zzL] at hyl hl⊢;omega
     exact zzU this (by decide)
    refine zzA (wpAny_updateSeq Al rfl ?_ D8 (by rw [Array.size_setIfInBounds];exact Nat.le_succ_of_le D8));refine zzA (wpAny_letGo (zzG ?_));have Cf:Heap.SameBut TO h2 (h2.update TO (Obj.mapSeq λv=>v.setIfInBounds dn.length x)):=zzu ..
    have HD:fE (h2.update TO (Obj.mapSeq λv=>v.setIfInBounds dn.length x)) TO (xs++[x]++yr).toArray:=by
     show Heap.get? _ TO=_
     rw [Heap.get?_update_self _ Al rfl];have:(xs++y::yr).toArray.setIfInBounds dn.length x=(xs++[x]++yr).toArray:=by
      rw [List.setIfInBounds_toArray,lx,List.set_append_right _ _ (zzE _),Nat.sub_self,List.set_cons_zero];simp
     have ls:((xs++[x]++yr).toArray.size==(xs++y::yr).toArray.size)=true:=by simp
     simp! [Obj.mapSeq,this,ls,if_true]
    refine⟨rfl,_,Kd,rfl,dn++[d],lf,xs++[x],yr,by simp,by simp,Paired.snoc pr px,by simpa using hyl,?_,HD,λa ha=>?_,λa ha=>?_,?_,λc o c1 c2 c3 e=>?_⟩
    ·exact Cf.extBut _ _ (Ne.symm t2) (sb.extBut _ _ (Ne.symm f3) hzh)
    ·rcases List.mem_append.1 ha with ha|ha
     ·refine(Z.D a (by simp [ha])).frame _ _ _ (sd a ha) λb hb o e=>Cf.extBut _ _ (λq=>(Z.zf a (by simp [ha])).2.1 (q▸hb)) (sb.extBut _ _ (λq=>(IE a (by simp [ha])).1 (q▸hb)) e)
     ·rw [zzi.1 ha];exact D.frame _ _ _ HA λb hb o e=>Cf.extBut _ _ (λq=>f2 (q▸hb)) e
    ·refine(Z.D a (by simp [ha])).frame _ _ _ (sl a (zzI _ ha)) λb hb o e=>Cf.extBut _ _ (λq=>(Z.zf a (by simp [ha])).2.1 (q▸hb)) (sb.extBut _ _ (λq=>(IE a (by simp [ha])).1 (q▸hb)) e)
    ·rw [Cf.1,sb.1,hsz]
    ·exact Cf.extBut _ _ c2 (sb.extBut _ _ (c3 d hd) (kk c o c1 c2 c3 e))
   ·have hn:d.n=k:=Nat.le_antisymm (Nat.le_of_not_lt hk) (hs d hd).2
    refine zzA (D.done _ _ _ (by rw [hn];exact sl d (zzP ..)) λh2 e eb he=>?_)
    obtain⟨oe,hoe,Dm⟩:=he
    have E6:IsZip h2 z TI TO .ellipsis:=eb _ _ (Ne.symm f3) hzh
    have Ll:e≠z:=λq=>by subst q;rw [E6] at hoe;cases hoe;simp at Dm
    exact wpAny_setField_rec E6 (by simp) λh3 _ IX=>hE h3 tk e ⟨d,hd,Nat.le_of_eq hn⟩ (λc o c1 c2 c3 q=>IX.extBut _ _ c1 (eb _ _ (c3 d hd) (kk c o c1 c2 c3 q))) ⟨oe,IX.extBut _ _ Ll hoe,Dm⟩
 ·rintro b s' ⟨rfl,h,tk,rfl,dn,lf,xs,ys,rfl,hr,pr,hyl,hzh,hto,sd,sl,hsz,kk⟩
  obtain rfl:lf=[]:=by cases lf with|nil=>rfl|cons d lf=>cases hr
  obtain rfl:ys=[]:=List.eq_nil_of_length_eq_zero hyl
  simp! [zz6] at hto hQ Z kk hl;have lx:=Paired.length pr
  refine zzA (wpAny_seqItems hto rfl ?_);refine zzA (wpAny_newTuple ?_ (zzU (m:=9) (by show xs.length<=9;omega) (by decide)));show wpAny _ _ (Builtin.SmallTypes.ownedTupleHandOut (.ref z) (.ref h.objs.size)>>=_) _ _ _;refine zzA ?_;unfold Builtin.SmallTypes.ownedTupleHandOut;have J7:z<h.objs.size:=zzO hzh
  have E5:IsZip (h.push {cls:=.type "tuple",data:=.seq xs.toArray}) z TI TO .ellipsis:=zzB _ hzh
  refine zzA (wpAny_setField_rec E5 (by simp) λh7 HJ Hv=>?_)
  replace HJ:IsZip h7 z TI TO (rawInt h.objs.size):=HJ
  refine wpAny_setField_rec HJ (by simp) λh8 E0 GY=>?_
  replace E0:IsZip h8 z TI TO (rawInt h.objs.size):=E0
  have up:∀c o,c≠z->h.get? c=some o->h8.get? c=some o:=λc o c1 e=>GY.extBut _ _ c1 (Hv.extBut _ _ c1 (zzB _ e))
  have J0:fE h8 h.objs.size xs.toArray:=GY.extBut _ _ (Nat.ne_of_gt J7) (Hv.extBut _ _ (Nat.ne_of_gt J7) (zzX _ rfl))
  have IF:h8.objs.size=h.objs.size+1:=by rw [GY.1,Hv.1,Heap.size_push]
  rw [hsz] at E0 J0 IF;refine zzG ?_;show Q (.done (.ret (.ref h.objs.size))) _;rw [hsz];exact hQ h8 tk xs pr E0 ⟨_,up _ _ t2 hto,by simp [lx]⟩ (λd hd=>(Z.D d hd).frame _ _ _ (sd d hd) λb hb o e=>up b o (λq=>(Z.zf d hd).1 (q▸hb)) e) J0 IF λc o c1 c2 c3 e=>up c o c1 (kk c o c1 c2 c3 e)
 ·show fE h₁ TO _
  exact hs₁.extBut _ _ t2 (by simpa using hc)
variable{X:Cx}{aa:List (Addr×Obj)}{σ:St}{H:Hp}{h':Heap}{ch:List Addr}
def Inv.uc{tk:Nat}{xs:List V}{us:List Value}{ob:Obj}{n:Nat}(I:Inv X aa σ H s)(hf:∀b∈ch,f7 X aa H b)(kk:∀b o,b∉ch->s.heap.get? b=some o->h'.get? b=some o)
 (hp:h'.get? (zz9 s)=some ob) (hc:ob.cls=.type "tuple") (hd:ob.data=.seq us.toArray n) (rx:Vals xs us) (hl:xs.length<=sizeLine):Inv X aa σ (upd H (zz9 s) (.tup xs)) {s with heap:=h',toks:=tk}:=by
 have jX:∀b o,H b=some o->b∉ch/\b≠(zz9 s):=λb o q=>⟨(λz=>(by rw [(hf b z).1] at q;cases q)),zzb (I.aO.lt q)⟩
 refine I.step (g':=s.gens) (d':=s.drawn) (ch:=ch) (λb hb=>?_) (λb o _ _ hc q _=>kk b o hc q) (λb o _ _ hc q _=>⟨o.slots,kk b o hc q⟩) (λb o _ q nb=>by rw [af (zzb (zzO q))];exact nb)
  (λb o hc q=>⟨o,kk b o hc q⟩) (λb xs q=>by rw [af (jX b _ q).2];exact q) (λb o u q=>by rw [af (jX b _ q).2];exact q) (λb ps q=>⟨#[],by rw [af (jX b _ q).2,q];simp⟩) (λm hm=>?_) (λb o q=>?_) I.bare
 ·obtain⟨f0,f1,f2,f3,f4,f5⟩:=hf b hb
  exact⟨f3,f1,f4,f5⟩
 ·obtain⟨o,es,ep,q,r⟩:=hm
  exact⟨o,es,ep,kk _ o (λz=>(hf _ z).2.1 rfl) q,r⟩
 ·by_cases hb:b=(zz9 s)
  ·subst hb;rw [aq] at q;cases q;exact⟨hl,us,rx,⟨_,hp,hc,_,hd⟩⟩
  ·rw [af hb] at q;refine(I.aO b o q).cU (λc v hc z=>kk c v ?_ z) (λc z=>by rw [af (jX c _ z).2];exact z) λc xs z=>by rw [af (jX c _ z).2];exact z
   rcases hc with z'|z'
   ·rw [z'];exact(jX b o q).1
   ·exact(jX c _ z').1
end
structure Zs where
 it:Addr
 b:Bool
 a:Addr
 xs:List V
def Zs.iter(q:Zs)(i:Nat)(h:Heap):Prop:=if q.b=true then h.IsListIter q.it q.a i else h.IsTupleIter q.it q.a i
abbrev Zt:=Bool×Addr×List V
noncomputable def Zs.t(q:Zs):Zt:=(q.b,q.a,q.xs)
def Zq(K:zz8)(H:Hp)(q:Zt):Prop:=if q.1=true then gL K H q.2.1 q.2.2 else eg K H q.2.1 q.2.2
def Zs.sq(K:zz8)(H:Hp)(q:Zs):Prop:=if q.b=true then gL K H q.a q.xs else eg K H q.a q.xs
def Zs.oN{q:Zs}{i:Nat}{h h':Heap}(st:q.iter i h)(k:∀o,h.get? q.it=some o->h'.get? q.it=some o):q.iter i h':=by
 unfold Zs.iter at st⊢;split
 ·rename_i e;rw [if_pos e] at st;exact st.at k
 ·rename_i e;rw [if_neg e] at st;exact st.at k
def Zs.mn{q:Zs}{i:Nat}{h:Heap}(st:q.iter i h):∃o,h.get? q.it=some o/\∀v,o.data≠.cell v:=by
 unfold Zs.iter at st;split at st
 ·obtain⟨o,ho,_,hd⟩:=st;exact⟨o,ho,λv z=>by rw [hd] at z;cases z⟩
 ·obtain⟨o,ho,_,hd⟩:=st;exact⟨o,ho,λv z=>by rw [hd] at z;cases z⟩
noncomputable def Gy(K:zz8)(ts:List Zt):It:=
 ⟨λi H=>∀q∈ts,Zq K H q/\i<q.2.2.length,λi H v H'=>∃p ys,v=.ref p/\H p=none/\H'=upd H p (.tup ys)/\Paired (λ(q:Zt) y=>q.2.2[i]?=some y) ts ys,
  λi H=>(∀q∈ts,Zq K H q/\i<=q.2.2.length)/\∃q∈ts,q.2.2.length=i⟩
structure uL(prog:Program)(w:World)(A:Around)(i:Nat)(h:Heap)(q:Zs)(d:Zd):Prop where
 it:d.it=q.it
 fp:d.fp=[q.it,q.a]
 n:d.n=q.xs.length
 D:Draws prog w A d.it d.fp d.n d.P d.St
 st:d.St i h
 back:∀j g,d.St j g->q.iter j g
 val:∀j u,d.P j u->∃x,RelV x u/\q.xs[j]?=some x
section
variable{X:Cx}{aa:List (Addr×Obj)}{σ:St}{H:Hp}{s:Shared}
def uo{xs:List V}{aj:List Value}(rv:Vals xs aj)(j:Nat)(u:Value)(hu:aj.toArray[j]?=some u):∃x,RelV x u/\xs[j]?=some x:=by
 have hu:aj[j]?=some u:=by simpa using hu
 have hj:j<xs.length:=by rw [rv.length];exact(zzH.mp hu).1
 obtain⟨u',hu',ru'⟩:=rv.get (zzg hj)
 rw [hu] at hu';cases hu';exact⟨_,ru',zzg hj⟩
def DB(hc:X.calm=true)(I:Inv X aa σ H s){q:Zs}{i:Nat}(ic:q.a≠q.it)(h:q.sq X.K H)(st:q.iter i s.heap):∃d,uL X.prog X.w X.A.in1 i s.heap q d:=by
 unfold Zs.sq at h;unfold Zs.iter at st;cases hb:q.b with
 |true=>
  rw [if_pos hb] at h st;obtain⟨aj,rv,p,_⟩:=I.list h
  refine⟨⟨q.it,[q.it,q.a],aj.toArray.size,_,_⟩,rfl,rfl,?_,Draws.list (A:=X.A.in1) (I.ok.hd hc) q.it q.a ic aj.toArray,⟨st,p.isList⟩,λj g z=>?_,uo rv⟩
  ·rw [zzC,<-rv.length]
  ·unfold Zs.iter;rw [if_pos hb];exact z.1
 |false=>
  have g6:¬q.b=true:=by rw [hb];exact zzf
  rw [if_neg g6] at h st;obtain⟨aj,rv,p,_⟩:=I.tuple h
  refine⟨⟨q.it,[q.it,q.a],aj.toArray.size,_,_⟩,rfl,rfl,?_,gv (A:=X.A.in1) (I.ok.hd hc) q.it q.a ic aj.toArray,⟨st,p⟩,λj g z=>?_,uo rv⟩
  ·rw [zzC,<-rv.length]
  ·unfold Zs.iter;rw [if_neg g6];exact z.1
theorem oK(hc:X.calm=true)(I:Inv X aa σ H s){i:Nat}:∀{qs:List Zs},(∀q∈qs,q.a≠q.it/\q.sq X.K H/\q.iter i s.heap)->∃ds,Paired (uL X.prog X.w X.A.in1 i s.heap) qs ds
 |[],_=>⟨[],.nil⟩
 |q::qs,h=>by
  obtain⟨h1,h2,h3⟩:=h q (zzP ..)
  obtain⟨d,hd⟩:=DB hc I h1 h2 h3
  obtain⟨ds,hds⟩:=oK hc I (qs:=qs) λr hr=>h r (zzI _ hr)
  exact⟨d::ds,.cons hd hds⟩
variable{α β:Type}{R:α->β->Prop}
theorem bP:∀{l:List α} {m:List β},Paired R l m->∀b∈m,∃a∈l,R a b
 |_,_,.cons h t,b,hb=>by
  rcases zzm.1 hb with rfl|hb
  ·exact⟨_,zzP ..,h⟩
  ·obtain⟨a,h1,h2⟩:=bP t b hb
   exact⟨a,zzI _ h1,h2⟩
theorem dG:∀{l:List α} {m:List β},Paired R l m->∀a∈l,∃b∈m,R a b
 |_,_,.cons h t,b,hb=>by
  rcases zzm.1 hb with rfl|hb
  ·exact⟨_,zzP ..,h⟩
  ·obtain⟨a,h1,h2⟩:=dG t b hb
   exact⟨a,zzI _ h1,h2⟩
theorem kc{S:α->α->Prop}{T:β->β->Prop}(h:∀a a' b b',R a b->R a' b'->S a a'->T b b'):∀{l:List α} {m:List β},Paired R l m->l.Pairwise S->m.Pairwise T
 |_,_,.nil,_=>.nil
 |_,_,.cons r t,p=>by
  obtain⟨p1,p2⟩:=List.pairwise_cons.1 p
  refine List.pairwise_cons.2 ⟨λb hb=>?_,kc h t p2⟩
  obtain⟨a,h1,h2⟩:=bP t b hb
  exact h _ _ _ _ r h2 (p1 a h1)
end
structure Ge(z TI TO:Addr)(qs:List Zs):Prop where
 tz:TI≠z/\TO≠z/\TI≠TO
 ne:qs≠[]
 len:qs.length<=9
 it:∀q∈qs,q.it≠z/\q.it≠TO/\q.it≠TI
 a:∀q∈qs,q.a≠z/\q.a≠TO/\∀r∈qs,q.a≠r.it
 pw:qs.Pairwise λa b=>a.it≠b.it
def Ly(z TI TO:Addr)(qs:List Zs)(i:Nat)(h:Heap):Prop:=IsZip h z TI TO .none/\fE h TI (qs.map λq=>Value.ref q.it).toArray/\(∃c,fE h TO c/\c.size=qs.length)/\∀q∈qs,q.iter i h
def vn{prog:Program}{w:World}{A:Around}{i:Nat}{h:Heap}{z TI TO:Addr}{qs:List Zs}{ds:List Zd}(Z:Ge z TI TO qs)(p:Paired (uL prog w A i h) qs ds):DZ prog w A z TI TO ds where
 D:=λd hd=>by obtain⟨q,_,r⟩:=bP p d hd;exact r.D
 zf:=λd hd=>by
  obtain⟨q,hq,r⟩:=bP p d hd
  obtain⟨a1,a2,a3⟩:=Z.it q hq
  obtain⟨b1,b2,_⟩:=Z.a q hq
  rw [r.fp,r.it];simp! [zzm,List.not_mem_nil,or_false,not_or];exact⟨⟨Ne.symm a1,Ne.symm b1⟩,⟨Ne.symm a2,Ne.symm b2⟩,a1,a2,a3⟩
 ap:=by
  have q:qs.Pairwise λa b=>a.it≠b.it/\a.it≠b.a/\b.it≠a.a:=by
   refine List.Pairwise.imp_of_mem (λ{a b} ha hb h=>⟨h,λz=>(Z.a b hb).2.2 a ha z.symm,λz=>(Z.a a ha).2.2 b hb z.symm⟩) Z.pw
  refine kc (λa a' b b' r r' ⟨h1,h2,h3⟩=>?_) p q;rw [r.fp,r'.fp,r.it,r'.it];simp! [zzm,List.not_mem_nil,or_false,not_or];exact⟨⟨h1,h2⟩,Ne.symm h1,h3⟩
 tz:=Z.tz
theorem fy{prog:Program}{w:World}{A:Around}{i:Nat}{h:Heap}:∀{qs:List Zs} {ds:List Zd},Paired (uL prog w A i h) qs ds->(qs.map λq=>Value.ref q.it)=ds.map λd=>Value.ref d.it
 |_,_,.nil=>rfl
 |_,_,.cons r t=>by rw [zzF,zzF,r.it,fy t]
theorem iW{prog:Program}{w:World}{A:Around}{i:Nat}{h:Heap}:∀{qs:List Zs} {ds:List Zd} {us:List Value},Paired (uL prog w A i h) qs ds->Paired (λd x=>d.P i x) ds us->∃ys,Vals ys us/\Paired (λ(q:Zt) y=>q.2.2[i]?=some y) (qs.map Zs.t) ys
 |_,_,_,.nil,.nil=>⟨[],.nil,.nil⟩
 |_,_,_,.cons r t,.cons u v=>by
  obtain⟨x,h1,h2⟩:=r.val i _ u
  obtain⟨ys,h3,h4⟩:=iW t v
  exact⟨x::ys,.cons h1 h3,.cons h2 h4⟩
def qv{P:Program}{w:World}{K:zz8}{elts:List Expr}{x1:Nat}{pos:Pos}{z TI TO:Addr}{qs:List Zs}(Z:Ge z TI TO qs):
 Turn P w K (.Tuple elts x1 pos) (Gy K (qs.map Zs.t)) (z::TI::TO::qs.map (·.it)) z (Ly z TI TO qs) where
 mem:=by simp
 obj:=λi h st c hc=>by
  obtain⟨q1,q2,⟨_,q3,_⟩,q4⟩:=st
  simp! [zzm,zzx] at hc;rcases hc with rfl|rfl|rfl|⟨q,hq,rfl⟩
  ·exact⟨_,q1,λv q=>by cases q⟩
  ·exact⟨_,q2,λv q=>by cases q⟩
  ·exact⟨_,q3,λv q=>by cases q⟩
  ·exact Zs.mn (q4 q hq)
 keep:=λi h h' st k=>by
  obtain⟨q1,q2,⟨c,q3,q5⟩,q4⟩:=st
  exact⟨k z (by simp) _ q1,k TI (by simp) _ q2,⟨c,k TO (by simp) _ q3,q5⟩,λq hq=>Zs.oN (q4 q hq) λo e=>k q.it (by simp;exact .inr (.inr (.inr ⟨q,hq,rfl⟩))) o e⟩
 item:=by
  intro X hP hw hK hc i aa s σ H E I hf st hg;subst hP hw hK;replace hg:∀q∈qs,q.sq X.K H/\i<q.xs.length:=λq hq=>hg q.t (List.mem_map_of_mem hq)
  obtain⟨q1,q2,⟨c,q3,q5⟩,q4⟩:=st
  obtain⟨ds,pd⟩:=oK hc I λq hq=>⟨(Z.a q hq).2.2 q hq,(hg q hq).1,q4 q hq⟩
  have hT:s.TypeIs (.ref z) "zip":=⟨_,q1,rfl⟩
  have len:=Paired.length pd
  have i9:H (zz9 s)=none:=I.aO.fresh (zzE _)
  have lt:∀b∈z::TI::TO::qs.map (·.it),b<(zz9 s):=λb hb=>by
   simp! [zzm,zzx] at hb;rcases hb with rfl|rfl|rfl|⟨q,hq,rfl⟩
   ·exact zzO q1
   ·exact zzO q2
   ·exact zzO q3
   ·obtain⟨o,ho,_⟩:=Zs.mn (q4 q hq);exact zzO ho
  unfold pyNext;refine zzA (wpAny_attempt (wpAny_callSpecial?_slot (name:=Str.ofString "__next__") hT PySem.F.slot_zip_next (wpAny_call_entry PySem.F.slot_zip_next hT PySem.F.entry_zip_next
   (mY (k:=i) (vn Z pd) (by rw [<-len];exact Z.len) (by have:=Z.ne;intro e;subst e;cases pd;exact this rfl) q1 (by rw [<-fy pd];exact q2) ⟨c,q3,by rw [<-len];exact q5⟩ (λd hd=>by obtain⟨q,hq,r⟩:=bP pd d hd;exact⟨r.st,by rw [r.n];exact Nat.le_of_lt (hg q hq).2⟩)
    (λh' tk us pu z1 z2 z3 z4 z5 kk=>⟨_,rfl,zzG ?_⟩) λh' tk e hex _ _=>?_) (PySem.F.args_zip_next_1 _))))
  ·obtain⟨ys,rv,py⟩:=iW pd pu
   have Gm:∀b∈z::TO::qs.map (·.it),f7 X aa H b:=λb hb=>hf b (by simp! [zzm] at hb⊢;rcases hb with h|h|h<;>simp [h])
   have I1:=Inv.uc (tk:=tk) (xs:=ys) I Gm (λb o hb e=>kk b o (λq=>hb (by simp [q])) (λq=>hb (by simp [q])) (λd hd q=>hb (by obtain⟨q',nD,r⟩:=bP pd d hd;simp! [zzm,zzx];exact .inr (.inr ⟨q',nD,by rw [q,r.it]⟩))) e) z4 rfl rfl rv (zzU (m:=9) (by have h1:=Paired.length py;have:=Z.len;rw [zzl] at h1;omega) (by decide))
   refine⟨_,rfl,wpAny_letOwnedTupleGo_zip z1 λh2 E6 sb=>?_⟩
   obtain⟨f0,f1,f2,f3,f4,f5⟩:=hf z (by simp)
   have nz:z≠(zz9 s):=zzb (lt z (by simp))
   refine⟨.ref (zz9 s),_,I1.turned (t':=tk) (it:=z) (λb o hb q=>sb.extBut b o hb q) (by rw [af nz];exact f0) f1 f3 f4 f5,rfl,⟨_,_,rfl,i9,rfl,py⟩,⟨E6,?_,?_,λq hq=>?_⟩,λb hb=>?_⟩
   ·exact sb.extBut _ _ Z.tz.1 (kk _ _ Z.tz.1 Z.tz.2.2 (λd hd=>by obtain⟨q,hq,r⟩:=bP pd d hd;rw [r.it];exact Ne.symm (Z.it q hq).2.2) q2)
   ·obtain⟨c',e1,e2⟩:=z2
    exact⟨c',sb.extBut _ _ Z.tz.2.1 e1,by rw [e2,len]⟩
   ·obtain⟨d,hd,r⟩:=dG pd q hq
    exact Zs.oN (r.back _ _ (z3 d hd)) λo e=>sb.extBut _ _ (Z.it q hq).1 e
   ·rw [af (zzb (lt b hb))];exact(hf b hb).1
  ·obtain⟨d,hd,hn⟩:=hex
   obtain⟨q,hq,r⟩:=bP pd d hd
   have:=(hg q hq).2
   rw [r.n] at hn;omega
 done:=by
  intro X hP hw hK hc i aa s σ H E I hf st hg;subst hP hw hK;obtain⟨hg,t0,ht0,hn0⟩:=hg
  replace hg:∀q∈qs,q.sq X.K H/\i<=q.xs.length:=λq hq=>hg q.t (List.mem_map_of_mem hq)
  obtain⟨q1,q2,⟨c,q3,q5⟩,q4⟩:=st
  obtain⟨ds,pd⟩:=oK hc I λq hq=>⟨(Z.a q hq).2.2 q hq,(hg q hq).1,q4 q hq⟩
  have hT:s.TypeIs (.ref z) "zip":=⟨_,q1,rfl⟩
  have len:=Paired.length pd
  unfold pyNext;refine zzA (wpAny_attempt (wpAny_callSpecial?_slot (name:=Str.ofString "__next__") hT PySem.F.slot_zip_next (wpAny_call_entry PySem.F.slot_zip_next hT PySem.F.entry_zip_next
   (mY (k:=i) (vn Z pd) (by rw [<-len];exact Z.len) (by have:=Z.ne;intro e;subst e;cases pd;exact this rfl) q1 (by rw [<-fy pd];exact q2) ⟨c,q3,by rw [<-len];exact q5⟩ (λd hd=>by obtain⟨q,hq,r⟩:=bP pd d hd;exact⟨r.st,by rw [r.n];exact(hg q hq).2⟩)
    (λh' tk us pu z1 z2 z3 z4 z5 kk=>?_) λh' tk e hex kk he=>?_) (PySem.F.args_zip_next_1 _))))
  ·obtain⟨ys,rv,py⟩:=iW pd pu
   obtain⟨y,_,hy⟩:=dG py t0 ht0
   have:=(zzH.1 hy).1
   omega
  ·obtain⟨o,ho,fG⟩:=he
   refine zzA (wpAny_isInstance (T:="StopIteration") (b:=true) ⟨o,ho,fG⟩ isSubtype_stop ?_);have Gm:∀b∈z::TO::qs.map (·.it),f7 X aa H b:=λb hb=>hf b (by simp! [zzm] at hb⊢;rcases hb with h|h|h<;>simp [h])
   exact zzG ⟨rfl,Inv.moved (tk:=tk) I Gm λb o hb e=>kk b o (λq=>hb (by simp [q])) (λq=>hb (by simp [q])) (λd hd q=>hb (by obtain⟨q',nD,r⟩:=bP pd d hd;simp! [zzm,zzx];exact .inr (.inr ⟨q',nD,by rw [q,r.it]⟩))) e⟩
 self:=λ_ _ _ _ _ st h=>wpAny_pyIter_zip st.1 h
def iv(a b c:Value):checkTypeCall "zip" ⟨[a,b,c],[]⟩=pure ():=by kernel_rfl
def jo(a b c:Value):checkBuiltinCall "zip.__new__" ⟨[.type "zip",a,b,c],[]⟩=pure ():=by kernel_rfl
def fu(a b c d:Value):argsOk "object.__init__" ⟨[a,b,c,d],[]⟩:=by
 unfold argsOk;rw [signature?_of (n:=['_','_','t','i','n','i','_','_']) (by kernel_rfl) PySem.F.owner_object]
 kernel_rfl
def Src(h:Heap)(b:Bool)(a:Addr):Prop:=if b=true then∃aj,h.IsList a aj else∃aj,h.IsTuple a aj
noncomputable def Lv(b:Bool):String:=if b=true then "list_iterator" else "tuple_iterator"
def Src.push{h:Heap}{b:Bool}{a:Addr}(q:Src h b a)(o:Obj):Src (h.push o) b a:=by
 unfold Src at q⊢;split
 ·rename_i e;rw [if_pos e] at q;obtain⟨aj,q⟩:=q;exact⟨aj,q.push o⟩
 ·rename_i e;rw [if_neg e] at q;obtain⟨aj,o',e1,r⟩:=q;exact⟨aj,o',zzB _ e1,r⟩
noncomputable def DM(b:Bool)(a:Addr):Obj:={cls:=.type (Lv b),data:=.fields #[.ref a,.int 0 0]}
section
variable{prog:Program}{w:World}{A:Around}{E:Value->Shared->Prop}{s:Shared}
def n8{b:Bool}{a:Addr}{Q:Value->Shared->Prop}(h:Src s.heap b a)(q:Q (.ref (zz9 s)) {s with heap:=s.heap.push (DM b a)}):wpAny (model prog w) A (pyIter (.ref a)) Q E s:=by
 cases b with
 |true=>obtain⟨aj,h⟩:=h;exact wpAny_pyIter_list h q
 |false=>obtain⟨aj,h⟩:=h;exact wpAny_pyIter_tuple h q
end
noncomputable def eG(h:Heap)(qs:List (Bool×Addr)):Heap:=qs.foldl (λg q=>g.push (DM q.1 q.2)) h
def fC(qs:List (Bool×Addr)):∀h:Heap,(eG h qs).objs.size=h.objs.size+qs.length:=by
 induction qs with
 |nil=>exact λh=>rfl
 |cons q qs ih=>intro h;rw [eG,List.foldl_cons,<-eG,ih,Heap.size_push,zzL];omega
section
variable{prog:Program}{w:World}{A:Around}{E:Value->Shared->Prop}{s:Shared}
def mx{Q:List Value->Shared->Prop}:∀(qs:List (Bool×Addr)),(∀q∈qs,Src s.heap q.1 q.2)->Q ((List.range qs.length).map λi=>Value.ref ((zz9 s)+i)) {s with heap:=eG s.heap qs}->
 wpAny (model prog w) A (Builtin.SmallTypes.iterAll (qs.map λq=>Value.ref q.2)) Q E s:=by
 intro qs hq h;unfold Builtin.SmallTypes.iterAll;refine zzA ?_;refine wpAny_forIn_list _ (λrest (b:Array Value) s'=>∃dn lf,qs=dn++lf/\rest=lf.map (λq=>Value.ref q.2)/\b.toList=(List.range dn.length).map (λi=>Value.ref ((zz9 s)+i))/\s'={s with heap:=eG s.heap dn}) _ ?_ ?_ _ _ ⟨[],qs,rfl,rfl,rfl,rfl⟩
 ·rintro x rest b s' ⟨dn,lf,rfl,hr,hb,rfl⟩
  cases lf with
  |nil=>cases hr
  |cons q lf=>
   simp! [zzF,List.cons.injEq] at hr;obtain⟨rfl,rfl⟩:=hr
   have hs:∀(l:List (Bool×Addr)) (g:Heap),Src g q.1 q.2->Src (eG g l) q.1 q.2:=λl=>by
    induction l with
    |nil=>exact λg h=>h
    |cons r l ih=>exact λg h=>ih _ (h.push _)
   refine zzA (wpAny_holding (n8 (hs dn _ (hq q (by simp))) ?_));refine zzG ⟨dn++[q],lf,by simp,rfl,?_,?_⟩
   ·rw [Array.toList_push,hb,zzM,List.length_singleton,List.range_succ,List.map_append];simp [fC]
   ·simp [eG,List.foldl_append]
 ·rintro b s' ⟨dn,lf,rfl,hr,hb,rfl⟩
  obtain rfl:lf=[]:=by cases lf with|nil=>rfl|cons q lf=>cases hr
  refine zzG ?_;rw [hb]
  simpa using h
end
theorem k7{h:Heap}{o:Obj}{n:Addr}(e:h.objs.size=n)(f:o.isFreed=false:=by rfl):(h.push o).get? n=some o:=e▸zzX h f
noncomputable def d6(h:Heap)(qs:List (Bool×Addr)):Heap:=
 (((eG h qs).push {cls:=.type "tuple",data:=.seq ((List.range qs.length).map λi=>Value.ref (h.objs.size+i)).toArray}).push {cls:=.type "tuple",data:=.seq (((List.range qs.length).map λi=>Value.ref (h.objs.size+i)).map λ_=>Value.none).toArray}).push
   {cls:=.type "zip",data:=.fields #[.none,.bool false,.bool false,.ref (h.objs.size+qs.length),.ref (h.objs.size+qs.length+1)]}
theorem uk(qs:List (Bool×Addr))(hl:qs.length<=9):
 Meets (Builtin.«zip.__new__» ⟨.type "zip"::qs.map (λq=>Value.ref q.2),[]⟩) (λ_ R s=>(∀q∈qs,Src s.heap q.1 q.2)/\R (.ok (.ret (.ref ((zz9 s)+qs.length+2)))) {s with heap:=d6 s.heap qs}):=
 .of_wp λprog w A R s h=>by
  obtain⟨hs,h⟩:=h
  have Hk:=sub_zip
  have fit:∀l:List Value,l.length=qs.length->l.length<=sizeLine:=λl e=>zzU (m:=9) (by omega) (by decide)
  show wpAny _ _ (Builtin.SmallTypes.newClass "zip" _>>=_) _ _ s
  unfold Builtin.SmallTypes.newClass
  wp_walk using mx qs hs
  rw [if_neg (by rw [zzC];exact Nat.not_lt.2 (fit _ (by simp)))]
  wp_walk
  rw [if_neg (by rw [zzC];exact Nat.not_lt.2 (fit _ (by simp)))]
  wp_walk
  refine⟨_,rfl,?_⟩;simp! [Heap.size_push,fC];exact h
def jz(qs:List (Bool×Addr)):∀(h:Heap) (c:Addr) (o:Obj),h.get? c=some o->(eG h qs).get? c=some o:=by
 induction qs with
 |nil=>exact λh c o e=>e
 |cons q qs ih=>exact λh c o e=>ih _ c o (zzB _ e)
theorem l0:∀(qs:List (Bool×Addr)) (h:Heap) (i:Nat) (q:Bool×Addr),qs[i]?=some q->(eG h qs).get? (h.objs.size+i)=some (DM q.1 q.2)
 |q::qs,h,0,r,e=>by
  cases e;exact jz qs _ _ _ (zzX _ rfl)
 |q::qs,h,i+1,r,e=>by
  have:=l0 qs (h.push (DM q.1 q.2)) i r (by simpa using e)
  rw [Heap.size_push] at this;rw [show h.objs.size+(i+1)=h.objs.size+1+i by omega];exact this
section
variable{prog:Program}{w:World}{A:Around}{E:Value->Shared->Prop}{s:Shared}
def qW{qs:List (Bool×Addr)}{Q:Value->Shared->Prop}(hl:qs.length<=9)(hs:∀q∈qs,Src s.heap q.1 q.2)(h1:checkTypeCall "zip" ⟨qs.map (λq=>Value.ref q.2),[]⟩=pure ())(h2:checkBuiltinCall "zip.__new__" ⟨.type "zip"::qs.map (λq=>Value.ref q.2),[]⟩=pure ())(h3:∀obj,argsOk "object.__init__" ⟨obj::qs.map (λq=>Value.ref q.2),[]⟩)
 (h:IsZip (d6 s.heap qs) ((zz9 s)+qs.length+2) ((zz9 s)+qs.length) ((zz9 s)+qs.length+1) .none->fE (d6 s.heap qs) ((zz9 s)+qs.length) ((List.range qs.length).map λi=>Value.ref ((zz9 s)+i)).toArray->(∃c,fE (d6 s.heap qs) ((zz9 s)+qs.length+1) c/\c.size=qs.length)->
  (∀i q,qs[i]?=some q->(d6 s.heap qs).get? ((zz9 s)+i)=some (DM q.1 q.2))->(∀c o,s.heap.get? c=some o->(d6 s.heap qs).get? c=some o)->Q (.ref ((zz9 s)+qs.length+2)) {s with heap:=d6 s.heap qs}):
 wpAny (model prog w) A (call (.type "zip") (qs.map λq=>Value.ref q.2)) Q E s:=by
 have z0:=fC qs s.heap
 have up:∀c o,(eG s.heap qs).get? c=some o->(d6 s.heap qs).get? c=some o:=λc o e=>zzB _ (zzB _ (zzB _ e))
 have g5:IsZip (d6 s.heap qs) ((zz9 s)+qs.length+2) ((zz9 s)+qs.length) ((zz9 s)+qs.length+1) .none:=k7 (by rw [Heap.size_push,Heap.size_push,z0])
 have g3:fE (d6 s.heap qs) ((zz9 s)+qs.length) ((List.range qs.length).map λi=>Value.ref ((zz9 s)+i)).toArray:=zzB _ (zzB _ (k7 z0))
 have g4:fE (d6 s.heap qs) ((zz9 s)+qs.length+1) (((List.range qs.length).map λi=>Value.ref ((zz9 s)+i)).map λ_=>Value.none).toArray:=zzB _ (k7 (by rw [Heap.size_push,z0]))
 exact callType_new PySem.F.called_zip (by decide) h1 h2 h3 PySem.F.entry_zip_new (uk qs hl) ⟨hs,⟨_,g5,rfl⟩,h g5 g3 ⟨_,g4,by simp⟩ (λi q e=>up _ _ (l0 qs _ i q e)) λc o e=>up _ _ (jz qs _ c o e)⟩
end
theorem kh:∀{ts:List Zt} {us:List Value},Vals (ts.map λt=>V.ref t.2.1) us->us=ts.map λt=>Value.ref t.2.1
 |[],_,.nil=>rfl
 |t::ts,_,.cons h r=>by
  cases h;rw [kh r]
  rfl
section
variable{X:Cx}{elts:List Expr}{x1:Nat}{gN:Pos}
noncomputable def CJ(K:zz8)(ta:TA):TI:=λσ H R=>ta σ H λvs H1=>∃ts:List Zt,vs=ts.map (λt=>.ref t.2.1)/\(ts.length=2\/ts.length=3)/\(∀t∈ts,Zq K H1 t)/\R (Gy K ts) H1
def xY{e:Expr}{es:List Expr}{ta:TA}{p pos:Pos}(hg:Gl X "zip")(hm:X.mg "zip"=none)(ha:PA X (e::es) ta)(he:starEach (e::es) X.env=(false,eval e X.env)::starEach es X.env)(hp:(backTo pos (starEach es X.env)).any (·.1)=false):
 PI X (.Tuple elts x1 gN) (.Call (.Name "zip" p) (e::es) [] pos) (CJ X.K ta):=by
 intro aa s σ H R I h;refine Call_ (dZ I hg hm (show bootBuiltins "zip"=some (.type "zip") by decide+kernel) (PyProof.Rows.callWith_type1 (bD (ha pos aa s σ H _ I h) λus s1 ⟨vs,H1,I1,r1,q1⟩=>?_) he hp))
 obtain⟨ts,rfl,hn,hq,q⟩:=q1
 obtain rfl:=kh r1
 have l9:ts.length<=9:=by omega
 have lm:(ts.map λt=>(t.1,t.2.1)).length=ts.length:=zzl ..
 have em:(ts.map λt=>Value.ref t.2.1)=(ts.map λt=>(t.1,t.2.1)).map λq=>Value.ref q.2:=by rw [List.map_map];rfl
 have src:∀t∈ts,Src s1.heap t.1 t.2.1/\t.2.1<(zz9 s1):=λt ht=>by
  have:=hq t ht
  unfold Zq at this;unfold Src;cases hb:t.1 with
  |true=>
   rw [if_pos hb] at this;obtain⟨aj,_,pl,_⟩:=I1.list this
   exact⟨⟨_,pl.isList⟩,by obtain⟨_,e,_⟩:=pl.isList;exact zzO e⟩
  |false=>
   rw [if_neg (by rw [hb];exact zzf)] at this;obtain⟨aj,_,pl,_⟩:=I1.tuple this
   exact⟨⟨_,pl⟩,by obtain⟨_,e,_⟩:=pl;exact zzO e⟩
 have go:∀l,(l=2\/l=3)->ts.length=l->checkTypeCall "zip" ⟨ts.map (λt=>Value.ref t.2.1),[]⟩=pure ()/\checkBuiltinCall "zip.__new__" ⟨.type "zip"::ts.map (λt=>Value.ref t.2.1),[]⟩=pure ()/\∀obj,argsOk "object.__init__" ⟨obj::ts.map (λt=>Value.ref t.2.1),[]⟩:=λl hl e=>by
  rcases hl with rfl|rfl
  ·match ts,e with
   |[a,b],_=>exact⟨PySem.F.typeCall_zip_2 _ _,PySem.F.newCall_zip_2 _ _,λobj=>PySem.F.args_object_init_3 obj _ _⟩
  ·match ts,e with
   |[a,b,c],_=>exact⟨iv _ _ _,jo _ _ _,λobj=>fu obj _ _ _⟩
 obtain⟨c1,c2,c3⟩:=go _ hn rfl
 rw [em] at c1 c2 c3⊢;refine qW (by rw [lm];exact l9) (λq nD=>by obtain⟨t,ht,rfl⟩:=zzx.1 nD;exact(src t ht).1) c1 c2 c3 λa1 a2 a3 a4 kk=>wpAny_pyIter_zip a1 ?_
 rw [lm] at a1 a2 a3;have I2:Inv X aa σ H1 {s1 with heap:=d6 s1.heap (ts.map λt=>(t.1,t.2.1))}:=I1.kept (t':=s1.toks) kk
 have eqs:(ts.zipIdx.map λp=>(⟨(zz9 s1)+p.2,p.1.1,p.1.2.1,p.1.2.2⟩:Zs)).map Zs.t=ts:=by
  rw [List.map_map];refine List.ext_getElem (by simp) λi h1 h2=>?_
  simp [Zs.t]
 have mq:∀q∈ts.zipIdx.map λp=>(⟨(zz9 s1)+p.2,p.1.1,p.1.2.1,p.1.2.2⟩:Zs),∃i,i<ts.length/\ts[i]?=some q.t/\q.it=(zz9 s1)+i:=λq nD=>by
  obtain⟨⟨t,i⟩,B2,rfl⟩:=zzx.1 nD
  have:=List.mem_zipIdx_iff_getElem?.1 B2
  exact⟨i,(zzH.1 this).1,this,rfl⟩
 have Z:Ge ((zz9 s1)+ts.length+2) ((zz9 s1)+ts.length) ((zz9 s1)+ts.length+1) (ts.zipIdx.map λp=>(⟨(zz9 s1)+p.2,p.1.1,p.1.2.1,p.1.2.2⟩:Zs)):=by
  refine⟨⟨zzb (by show _<_;omega),zzb (by show _<_;omega),zzb (by show _<_;omega)⟩,λz=>?_,by simpa using l9,λq nD=>?_,λq nD=>?_,?_⟩
  ·have:=congrArg List.length z
   simp! [zzl,List.length_zipIdx,List.length_nil] at this;omega
  ·obtain⟨i,h1,_,h3⟩:=mq q nD
   rw [h3];exact⟨zzb (by show _<_;omega),zzb (by show _<_;omega),zzb (by show _<_;omega)⟩
  ·obtain⟨i,h1,h2,h3⟩:=mq q nD
   have h4:q.a<(zz9 s1):=(src q.t (zzD h2)).2
   refine⟨zzb (zzW h4 (by show _<=_;omega)),zzb (zzW h4 (by show _<=_;omega)),λr hr=>?_⟩
   obtain⟨j,_,_,h5⟩:=mq r hr
   rw [h5];exact zzb (zzW h4 (by show _<=_;omega))
  ·refine List.pairwise_map.2 ?_;refine List.pairwise_iff_getElem.2 λi j hi hj IM=>?_
   simp! [List.getElem_zipIdx];exact zzb (by show _<_;omega)
 have T:=qv (P:=X.prog) (w:=X.w) (K:=X.K) (elts:=elts) (x1:=x1) (pos:=gN) Z
 rw [eqs] at T;refine⟨_,_,_,_,H1,by rw [lm],I2,T,⟨a1,?_,?_,λq nD=>?_⟩,λb hb=>?_,q⟩
 ·have:(ts.zipIdx.map λp=>(⟨(zz9 s1)+p.2,p.1.1,p.1.2.1,p.1.2.2⟩:Zs)).map (λq=>Value.ref q.it)=(List.range ts.length).map λi=>Value.ref ((zz9 s1)+i):=by
   refine List.ext_getElem (by simp) λi h1 h2=>?_
   simp
  rw [this];exact a2
 ·obtain⟨c,h1,h2⟩:=a3
  exact⟨c,h1,by simpa using h2⟩
 ·obtain⟨i,h1,h2,h3⟩:=mq q nD
  have:=a4 i (q.b,q.a) (by rw [zzQ,h2];rfl)
  unfold Zs.iter;rw [h3];cases hb:q.b with
  |true=>rw [hb] at this;exact⟨_,this,rfl,rfl⟩
  |false=>rw [hb] at this;exact⟨_,this,rfl,rfl⟩
 ·have g6:(zz9 s1)<=b:=by
   simp! [zzm,zzx] at hb;rcases hb with e|e|e|⟨q,nD,e⟩
   ·rw [e];exact zzU (Nat.le_add_right _ _) (Nat.le_add_right _ _)
   ·rw [e];exact Nat.le_add_right _ _
   ·rw [e];exact zzU (Nat.le_add_right _ _) (Nat.le_add_right _ _)
   ·obtain⟨i,_,_,h3⟩:=mq q (zzx.2 nD)
    rw [<-e,h3];exact Nat.le_add_right _ _
  exact I1.kM g6 (I1.aO.fresh g6)
end
end L2
namespace Ci
open PySem L2
structure Hs where
 f:Str
 h:Str
 g:Str
 idx:List Nat
 np:Nat
structure Pg where
 gs:List (Str×PV)
 bs:List Str
 cs:List Str
 fs:List Str
 rs:List Str
 hs:List Hs:=[]
 hl:Bool:=false
 qt:Bool:=false
 qs:List Str:=[]
noncomputable def nq(Γ:Pg)(b:Bool):Bool:=b&&!Γ.qt
def mh{Γ:Pg}{b:Bool}(h:nq Γ b=true):Γ.qt=false/\b=true:=by
 unfold nq at h;rw [zza,Bool.not_eq_true'] at h;exact⟨h.2,h.1⟩
noncomputable def fq(sc:Scope)(x:Str):Bool:=sc.names.lookup x==some .local||sc.names.lookup x==some .cell
noncomputable def fU(sc:Scope)(x:Str):Bool:=fq sc x||sc.names.lookup x==some .free
noncomputable def ff(sc:Scope)(x:Str):Bool:=sc.names.lookup x==some .globalImplicit
noncomputable def litS:List PV->List PV->Bool
 |[],[]=>true
 |.str x::xs,.str y::ys=>x==y&&litS xs ys
 |_,_=>false
noncomputable def pK:PV->PV->Bool
 |.int i,.int j=>i==j
 |.str x,.str y=>x==y
 |.tup xs,.tup ys=>litS xs ys
 |_,_=>false
theorem litS_eq:∀{xs ys:List PV},litS xs ys=true->xs=ys
 |[],[],_=>rfl
 |.str x::xs,.str y::ys,h=>by
  unfold litS at h;rw [zza] at h;rw [zzy.mp h.1,litS_eq h.2]
def uU{p q:PV}(h:pK p q=true):p=q:=by
 unfold pK at h;split at h
 ·rw [zzy.mp h]
 ·rw [zzy.mp h]
 ·rw [litS_eq h]
 ·cases h
noncomputable def bN:B->Str
 |.len=>"len"|.int=>"int"|.str=>"str"|.tuple=>"tuple"
noncomputable def mN:M->Str
 |.fv=>"count"|.index=>"index"
noncomputable def eo:E->Bool
 |.oY _=>false
 |_=>true
noncomputable def dy:Es->Bool
 |.nil=>true
 |.cons e es=>eo e&&dy es
noncomputable def wG:I->Bool
 |.seq e=>eo e
 |.nj _=>true
 |.qx _ _=>true
 |.enum e=>eo e
 |.zip _=>true
noncomputable def isNil:Es->Bool
 |.nil=>true
 |_=>false
noncomputable def dg:Es->Nat
 |.nil=>0
 |.cons _ es=>dg es+1
noncomputable def yd:Expr->Option (List Expr)
 |.Tuple es _ _=>some es
 |_=>none
def oW{e:Expr}{es:List Expr}(h:yd e=some es):∃k p,e=.Tuple es k p:=by
 cases e with
 |Tuple es k p=>cases h;exact⟨_,_,rfl⟩
 |_=>exact gf h
noncomputable def oE{α:Type}:List α->Option (α×α)
 |[a,b]=>some (a,b)
 |_=>none
def xG{α:Type}{ts:List α}{q:α×α}(h:oE ts=some q):ts=[q.1,q.2]:=by
 cases ts with
 |nil=>exact gf h
 |cons a ts=>
  cases ts with
  |nil=>exact gf h
  |cons b ts=>
   cases ts with
   |cons _ _=>exact gf h
   |nil=>cases h;rfl
noncomputable def HC(N:List Str)(sc:Scope)(fn:Str->Bool)(i:Nat)(p:Expr):Bool:=(fe p).any λx=>N[i]?==some x&&fq sc x&&(fn x||sc.names.lookup x==some .local)
noncomputable def BL(N:List Str)(sc:Scope)(fn:Str->Bool):List Nat->List Expr->Bool
 |i::is,a::as=>HC N sc fn i a&&BL N sc fn is as
 |[],[]=>true
 |_,_=>false
noncomputable def d5(N:List Str)(sc:Scope)(fn:Str->Bool):Tg->Expr->Bool
 |.one i,p=>HC N sc fn i p
 |.two i j,p=>(yd p).any (BL N sc fn [i,j])
noncomputable def aA:Expr->List Str
 |.Name x _=>[x]
 |.Tuple [.Name x _,.Name y _] _ _=>[x,y]
 |.Tuple [.Name x _,.Name y _,.Name z _] _ _=>[x,y,z]
 |.Tuple [.Name x _,.Tuple [.Name y _,.Name z _] _ _] _ _=>[x,y,z]
 |_=>[]
noncomputable def b9(scope sc:Scope):Scope:=
 {scope with names:=scope.names.map λ(n,k)=>if(k==.free&&sc.kind==.function&&sc.names.lookup n==some .cell) then(n,.cell) else(n,k)}
noncomputable def freeOf(scope:Scope):List Str:=((scope.names.filter λp=>p.2==.free).map (·.1)).reverse
noncomputable def p9(N:List Str)(sc scope:Scope)(k:Nat)(aL:List Nat)(xs:List Str):Bool:=
 scope.kind==.function&&xs.length==k&&decide ((xs++freeOf scope).Nodup)
 &&(scope.names.all λy=>(decide (y.2≠.cell)||!(freeOf scope).contains y.1)&&(decide (y.2≠.free)||(freeOf scope).contains y.1))
 &&(scope.names.all λy=>decide (y.2≠.cell)||decide (scope.names.lookup y.1=some .cell))
 &&(scope.names.all λy=>decide (y.2≠.local)||decide (scope.names.lookup y.1=some .local))
 &&decide (aL.map (λi=>N[i]?)=(freeOf scope).map some)
 &&((freeOf scope).all λy=>decide (sc.names.lookup y=some .cell))
 &&((freeOf scope).all λy=>decide ((b9 scope sc).names.lookup y=some .cell))
noncomputable def iu(k:Nat):Tg->Bool
 |.one i=>decide (i<k)
 |.two i j=>decide (i<k)&&decide (j<k)
noncomputable def eK:E->Bool
 |.ite _ _ _=>false
 |.not a=>eK a
 |.and a b=>eK a&&eK b
 |.or a b=>eK a&&eK b
 |_=>true
noncomputable def isTup:Expr->Bool
 |.Tuple .. =>true
 |_=>false
noncomputable abbrev Pg.vC(Γ:Pg):Pg:={Γ with hl:=false}
def jm{α β:Type}{o:Option α}{f:α->Option β}{b:β}(h:o.bind f=some b):∃a,o=some a/\f a=some b:=zzZ.1 h
def if1{α:Type}{c:Bool}{a b:α}(h:(if c=true then some a else none)=some b):c=true/\a=b:=by
 cases c with
 |true=>cases h;exact⟨rfl,rfl⟩
 |false=>exact gf h
noncomputable def dY{α:Type}:List α->Option α
 |[t]=>some t
 |_=>none
def b8{α:Type}{ts:List α}{t:α}(h:dY ts=some t):ts=[t]:=by
 cases ts with
 |nil=>exact gf h
 |cons a ts=>
  cases ts with
  |cons _ _=>exact gf h
  |nil=>cases h;rfl
noncomputable def FP:Expr->Option (Expr×Str×Pos)
 |.Attribute o m p=>some (o,m,p)
 |_=>none
def vf{e:Expr}{q:Expr×Str×Pos}(h:FP e=some q):e=.Attribute q.1 q.2.1 q.2.2:=by
 cases e with
 |Attribute o m p=>cases h;rfl
 |_=>exact gf h
noncomputable def JA:Expr->Option (Arguments×Expr×Scope)
 |.Lambda p b s _=>some (p,b,s)
 |_=>none
def oM{e:Expr}{q:Arguments×Expr×Scope}(h:JA e=some q):∃p,e=.Lambda q.1 q.2.1 q.2.2 p:=by
 cases e with
 |Lambda p b s x=>cases h;exact⟨_,rfl⟩
 |_=>exact gf h
noncomputable def Fw:Expr->Option (Expr×Expr)
 |.Subscript a b _=>some (a,b)
 |_=>none
def AO{e:Expr}{q:Expr×Expr}(h:Fw e=some q):∃p,e=.Subscript q.1 q.2 p:=by
 cases e with
 |Subscript a b p=>cases h;exact⟨_,rfl⟩
 |_=>exact gf h
noncomputable def Fd:Expr->Option Const
 |.Constant c _ _=>some c
 |_=>none
def uV{e:Expr}{c:Const}(h:Fd e=some c):∃p q,e=.Constant c p q:=by
 cases e with
 |Constant c p q=>cases h;exact⟨_,_,rfl⟩
 |_=>exact gf h
noncomputable def A5:Const->Option Str
 |.str z=>some z
 |_=>none
def vx{c:Const}{z:Str}(h:A5 c=some z):c=.str z:=by
 cases c with
 |str y=>cases h;rfl
 |_=>exact gf h
noncomputable def Iw:Const->Option Int
 |.int n=>some n
 |_=>none
def Ai{c:Const}{n:Int}(h:Iw c=some n):c=.int n:=by
 cases c with
 |int y=>cases h;rfl
 |_=>exact gf h
def ye{α:Type}{l:List α}(h:l.isEmpty=true):l=[]:=by
 cases l with
 |nil=>rfl
 |cons _ _=>exact aC h
def HM{α:Type}{o:Option α}(h:o.isNone=true):o=none:=by
 cases o with
 |none=>rfl
 |some _=>exact aC h
noncomputable def I0:Const->Option Bool
 |.bool b=>some b
 |_=>none
def A0{c:Const}{b:Bool}(h:I0 c=some b):c=.bool b:=by
 cases c with
 |bool y=>cases h;rfl
 |_=>exact gf h
noncomputable def Jc:Const->Bool
 |.none=>true
 |_=>false
def AG{c:Const}(h:Jc c=true):c=.none:=by
 cases c with
 |none=>rfl
 |_=>exact aC h
noncomputable def JX:Expr->Option (Expr×Operator×Expr)
 |.BinOp a o b _=>some (a,o,b)
 |_=>none
def Ae{e:Expr}{q:Expr×Operator×Expr}(h:JX e=some q):∃p,e=.BinOp q.1 q.2.1 q.2.2 p:=by
 cases e with
 |BinOp a o b p=>cases h;exact⟨_,rfl⟩
 |_=>exact gf h
noncomputable def E2:Expr->Option (Expr×List CmpOp×List Expr)
 |.Compare a o b _=>some (a,o,b)
 |_=>none
def AD{e:Expr}{q:Expr×List CmpOp×List Expr}(h:E2 e=some q):∃p,e=.Compare q.1 q.2.1 q.2.2 p:=by
 cases e with
 |Compare a o b p=>cases h;exact⟨_,rfl⟩
 |_=>exact gf h
noncomputable def Fj:Expr->Option (UnaryOp×Expr)
 |.UnaryOp o a _=>some (o,a)
 |_=>none
def AY{e:Expr}{q:UnaryOp×Expr}(h:Fj e=some q):∃p,e=.UnaryOp q.1 q.2 p:=by
 cases e with
 |UnaryOp o a p=>cases h;exact⟨_,rfl⟩
 |_=>exact gf h
noncomputable def yp:UnaryOp->Bool
 |.Not=>true
 |_=>false
def uN{o:UnaryOp}(h:yp o=true):o=.Not:=by
 cases o with
 |Not=>rfl
 |_=>exact aC h
noncomputable def isNeg:UnaryOp->Bool
 |.USub=>true
 |_=>false
def sW{o:UnaryOp}(h:isNeg o=true):o=.USub:=by
 cases o with
 |USub=>rfl
 |_=>exact aC h
noncomputable def qh:BoolOp->Bool
 |.And=>true
 |.Or=>false
def uD{o:BoolOp}(h:qh o=true):o=.And:=by
 cases o with
 |And=>rfl
 |Or=>exact aC h
def wU{o:BoolOp}(h:(!qh o)=true):o=.Or:=by
 cases o with
 |Or=>rfl
 |And=>exact aC h
noncomputable def FD:Expr->Option (BoolOp×List Expr×Pos)
 |.BoolOp o vs p=>some (o,vs,p)
 |_=>none
def y9{e:Expr}{q:BoolOp×List Expr×Pos}(h:FD e=some q):e=.BoolOp q.1 q.2.1 q.2.2:=by
 cases e with
 |BoolOp o vs p=>cases h;rfl
 |_=>exact gf h
noncomputable def Gh(o:BoolOp)(pos:Pos):List Expr->Option (Expr×Expr)
 |a::b::[]=>some (a,b)
 |a::b::c::r=>some (a,.BoolOp o (b::c::r) pos)
 |_=>none
def si{o:BoolOp}{pos:Pos}{vs:List Expr}{q:Expr×Expr}(h:Gh o pos vs=some q):vs=[q.1,q.2]\/∃b c r,vs=q.1::b::c::r/\q.2=.BoolOp o (b::c::r) pos:=by
 cases vs with
 |nil=>exact gf h
 |cons a vs=>
  cases vs with
  |nil=>exact gf h
  |cons b vs=>
   cases vs with
   |nil=>cases h;exact .inl rfl
   |cons c r=>cases h;exact .inr ⟨b,c,r,rfl,rfl⟩
noncomputable def IC:Expr->Option (Expr×Expr×Expr)
 |.IfExp c a b _=>some (c,a,b)
 |_=>none
def AE{e:Expr}{q:Expr×Expr×Expr}(h:IC e=some q):∃p,e=.IfExp q.1 q.2.1 q.2.2 p:=by
 cases e with
 |IfExp c a b p=>cases h;exact⟨_,rfl⟩
 |_=>exact gf h
noncomputable def JO:Expr->Option (List Expr)
 |.List es _=>some es
 |_=>none
def tv{e:Expr}{es:List Expr}(h:JO e=some es):∃p,e=.List es p:=by
 cases e with
 |List es p=>cases h;exact⟨_,rfl⟩
 |_=>exact gf h
noncomputable def ER:Expr->Option (Option Expr×Option Expr×Option Expr)
 |.Slice a b c _=>some (a,b,c)
 |_=>none
def y8{e:Expr}{q:Option Expr×Option Expr×Option Expr}(h:ER e=some q):∃p,e=.Slice q.1 q.2.1 q.2.2 p:=by
 cases e with
 |Slice a b c p=>cases h;exact⟨_,rfl⟩
 |_=>exact gf h
noncomputable def Fs:Expr->Option (Expr×List Comprehension×Scope)
 |.ListComp e gs s _=>some (e,gs,s)
 |_=>none
def zK{e:Expr}{q:Expr×List Comprehension×Scope}(h:Fs e=some q):∃p,e=.ListComp q.1 q.2.1 q.2.2 p:=by
 cases e with
 |ListComp e gs s p=>cases h;exact⟨_,rfl⟩
 |_=>exact gf h
noncomputable def qA(e:Expr):Option (Str×List Expr):=(AJ e).bind λq=>(fe q.1).bind λg=>if q.2.2.1.isEmpty=true then some (g,q.2.1) else none
def vv{e:Expr}{q:Str×List Expr}(h:qA e=some q):∃np p,e=.Call (.Name q.1 np) q.2 [] p:=by
 obtain⟨⟨f,a,k,p⟩,h1,h⟩:=jm h
 obtain⟨g,h2,h⟩:=jm h
 obtain⟨h3,rfl⟩:=if1 h
 obtain⟨np,z⟩:=bW h2
 have z3:=ye h3
 dsimp only at z z3;subst z z3;exact⟨np,p,iS h1⟩
noncomputable def DO:PV->Const->Bool
 |.bO,c=>Jc c
 |.bl b,c=>(I0 c).any λx=>b==x
 |.int i,c=>(Iw c).any λx=>i==x
 |.str z,c=>(A5 c).any λx=>z==x
 |_,_=>false
noncomputable def qf(p:Expr):Bool:=(AJ p).isNone
def ak{a b:Bool}(h:(a&&b)=true):a=true/\b=true:=Bool.and_eq_true_iff.mp h
def ah{α:Type}{o:Option α}{f:α->Bool}(h:o.any f=true):∃x,o=some x/\f x=true:=by
 cases o with
 |none=>cases h
 |some x=>exact⟨x,rfl,h⟩
theorem iZ{α:Type}{l:List α}{f:α->Bool}(h:(dY l).any f=true):∃a,l=[a]/\f a=true:=let⟨a,e,h1⟩:=ah h;⟨a,b8 e,h1⟩
theorem ud{α:Type}{l:List α}{f:α×α->Bool}(h:(oE l).any f=true):∃a b,l=[a,b]/\f (a,b)=true:=let⟨q,e,h1⟩:=ah h;⟨q.1,q.2,xG e,h1⟩
theorem Cu{p:Expr}{f:Str->Bool}(h:(fe p).any f=true):∃x np,p=.Name x np/\f x=true:=let⟨x,e,h1⟩:=ah h;let⟨np,z⟩:=bW e;⟨x,np,z,h1⟩
theorem KH{p:Expr}{f:Const->Bool}(h:(Fd p).any f=true):∃x a b,p=.Constant x a b/\f x=true:=let⟨x,e,h1⟩:=ah h;let⟨a,b,z⟩:=uV e;⟨x,a,b,z,h1⟩
theorem vH{p:Expr}{f:Str×List Expr->Bool}(h:(qA p).any f=true):∃g as np pos,p=.Call (.Name g np) as [] pos/\f (g,as)=true:=let⟨q,e,h1⟩:=ah h;let⟨a,b,z⟩:=vv e;⟨q.1,q.2,a,b,z,h1⟩
theorem J5{p:Expr}{f:Expr×Expr->Bool}(h:(Fw p).any f=true):∃a b pos,p=.Subscript a b pos/\f (a,b)=true:=let⟨q,e,h1⟩:=ah h;let⟨x,z⟩:=AO e;⟨q.1,q.2,x,z,h1⟩
theorem Lx{p:Expr}{f:Option Expr×Option Expr×Option Expr->Bool}(h:(ER p).any f=true):∃a b c pos,p=.Slice a b c pos/\f (a,b,c)=true:=let⟨q,e,h1⟩:=ah h;let⟨x,z⟩:=y8 e;⟨q.1,q.2.1,q.2.2,x,z,h1⟩
theorem Jt{p:Expr}{f:UnaryOp×Expr->Bool}(h:(Fj p).any f=true):∃o a pos,p=.UnaryOp o a pos/\f (o,a)=true:=let⟨q,e,h1⟩:=ah h;let⟨x,z⟩:=AY e;⟨q.1,q.2,x,z,h1⟩
theorem Iy{p:Expr}{f:Expr×List CmpOp×List Expr->Bool}(h:(E2 p).any f=true):∃a o b pos,p=.Compare a o b pos/\f (a,o,b)=true:=let⟨q,e,h1⟩:=ah h;let⟨x,z⟩:=AD e;⟨q.1,q.2.1,q.2.2,x,z,h1⟩
theorem E7{p:Expr}{f:Expr×List Comprehension×Scope->Bool}(h:(Fs p).any f=true):∃a g s pos,p=.ListComp a g s pos/\f (a,g,s)=true:=let⟨q,e,h1⟩:=ah h;let⟨x,z⟩:=zK e;⟨q.1,q.2.1,q.2.2,x,z,h1⟩
theorem IH{p:Expr}{f:BoolOp×List Expr×Pos->Bool}(h:(FD p).any f=true):∃o vs pos,p=.BoolOp o vs pos/\f (o,vs,pos)=true:=let⟨q,e,h1⟩:=ah h;⟨q.1,q.2.1,q.2.2,y9 e,h1⟩
mutual
noncomputable def aU(Γ:Pg)(N:List Str)(sc:Scope):E->Expr->Bool
 |.var i,p=>(fe p).any λx=>N[i]?==some x&&fU sc x&&okN x
 |.oY i,p=>(fe p).any λx=>N[i]?==some x&&fU sc x&&okN x
 |.cst q,p=>(Fd p).any (DO q)
 |.glob g p,e=>(fe e).any λx=>g==x&&ff sc x&&okN x&&Γ.gs.any λq=>q.1==g&&pK q.2 p
 |.call f as,p=>(qA p).any λq=>f==q.1&&Γ.fs.contains q.1&&ff sc q.1&&okN q.1&&dy as&&dv Γ N sc as q.2
 |.dP i as,p=>(qA p).any λq=>N[i]?==some q.1&&fU sc q.1&&okN q.1&&dy as&&dv Γ N sc as q.2
 |.cT f as g idx aL,p=>(qA p).any λr=>Γ.hl&&ff sc r.1&&okN r.1&&dy as&&(Γ.hs.any λq=>q.f==f&&q.h==r.1&&q.g==g&&q.idx==idx&&decide (q.np=dg as+1))&&pP Γ N sc g idx aL as r.2
 |.blt b as,p=>nq Γ ((qA p).any λq=>bN b==q.1&&ff sc q.1&&Γ.bs.contains q.1&&!isNil as&&dv Γ N sc as q.2)
 |.ty t a,p=>(qA p).any λq=>(oE q.2).any λr=>(fe r.2).any λtn=>q.1==("isinstance":Str)&&ff sc q.1&&Γ.bs.contains q.1&&tn==Str.ofString (nZ t)&&ff sc tn&&Γ.bs.contains tn&&aU Γ N sc a r.1
 |.pS c a,p=>(qA p).any λq=>(oE q.2).any λr=>(fe r.2).any λcn=>q.1==("isinstance":Str)&&ff sc q.1&&Γ.bs.contains q.1&&cn==c&&ff sc cn&&okN cn&&(Γ.cs.contains c||(c=="ValueError"&&Γ.bs.contains c))&&aU Γ N sc a r.1
 |.BO m o as,p=>(AJ p).any λq=>(FP q.1).any λr=>q.2.2.1.isEmpty&&(mN m==r.2.1&&!isNil as&&decide (dg as<30)&&r.2.2.endLine==q.2.2.2.line&&aU Γ N sc o r.1&&dv Γ N sc as q.2.1&&qf r.1)
 |.bin o a b,p=>(JX p).any λq=>decide (EV o=q.2.1)&&aU Γ N sc a q.1&&aU Γ N sc b q.2.2
 |.cmp o a b,p=>(E2 p).any λq=>(dY q.2.1).any λop=>(dY q.2.2).any λpb=>decide (lQ o=op)&&aU Γ N sc a q.1&&aU Γ N sc b pb
 |.ch o1 o2 a b c,p=>(E2 p).any λq=>(oE q.2.1).any λop=>(oE q.2.2).any λpb=>decide (lQ o1=op.1)&&decide (lQ o2=op.2)&&aU Γ N sc a q.1&&aU Γ N sc b pb.1&&aU Γ N sc c pb.2
 |.not a,p=>(Fj p).any λq=>yp q.1&&aU Γ N sc a q.2
 |.neg a,p=>(Fj p).any λq=>isNeg q.1&&aU Γ N sc a q.2
 |.and a b,p=>(FD p).any λq=>(Gh q.1 q.2.2 q.2.1).any λr=>qh q.1&&eo b&&aU Γ N sc a r.1&&aU Γ N sc b r.2
 |.or a b,p=>(FD p).any λq=>(Gh q.1 q.2.2 q.2.1).any λr=>!qh q.1&&eo b&&aU Γ N sc a r.1&&aU Γ N sc b r.2
 |.ite c a b,p=>(IC p).any λq=>eK c&&eo a&&eo b&&aU Γ N sc c q.1&&aU Γ N sc a q.2.1&&aU Γ N sc b q.2.2
 |.tup as,p=>(yd p).any λps=>dy as&&decide (dg as<1000)&&dv Γ N sc as ps
 |.lst as,p=>(JO p).any λps=>dy as&&decide (dg as<1000)&&dv Γ N sc as ps
 |.sub a b,p=>(Fw p).any λq=>aU Γ N sc a q.1&&aU Γ N sc b q.2
 |.slice a lo hi,p=>(Fw p).any λq=>(ER q.2).any λr=>r.2.2.isNone&&aU Γ N sc a q.1&&BG Γ N sc lo r.1&&BG Γ N sc hi r.2.1
 |.comp k aL tg it elt,p=>nq Γ ((Fs p).any λq=>(dY q.2.1).any λg=>g.ifs.isEmpty&&(p9 N sc q.2.2 k aL (aA g.target)&&iu k tg&&eo elt&&qU Γ N sc g.target it g.iter&&d5 (aA g.target++freeOf q.2.2) (b9 q.2.2 sc) (iA q.2.2) tg g.target&&aU Γ.vC (aA g.target++freeOf q.2.2) (b9 q.2.2 sc) elt q.1&&decide (g.is_async=0)))
 |.dc k aL tg it c elt,p=>nq Γ ((Fs p).any λq=>(dY q.2.1).any λg=>(dY g.ifs).any λpc=>eK c&&p9 N sc q.2.2 k aL (aA g.target)&&iu k tg&&eo elt&&qU Γ N sc g.target it g.iter&&d5 (aA g.target++freeOf q.2.2) (b9 q.2.2 sc) (iA q.2.2) tg g.target&&aU Γ.vC (aA g.target++freeOf q.2.2) (b9 q.2.2 sc) c pc&&aU Γ.vC (aA g.target++freeOf q.2.2) (b9 q.2.2 sc) elt q.1&&decide (g.is_async=0))
noncomputable def dv(Γ:Pg)(N:List Str)(sc:Scope):Es->List Expr->Bool
 |.nil,[]=>true
 |.cons e es,p::ps=>aU Γ N sc e p&&dv Γ N sc es ps
 |_,_=>false
noncomputable def pP(Γ:Pg)(N:List Str)(sc:Scope)(g:Str)(idx aL:List Nat):Es->List Expr->Bool
 |.nil,ps=>(dY ps).any λp=>(JA p).any λl=>xg g idx l.1 l.2.1 l.2.2&&decide (aL.map (λi=>N[i]?)=(ba l.2.2).map some)&&((ba l.2.2).all λy=>decide (sc.names.lookup y=some .cell))
 |.cons e es,p::ps=>aU Γ N sc e p&&pP Γ N sc g idx aL es ps
 |_,_=>false
noncomputable def BG(Γ:Pg)(N:List Str)(sc:Scope):Oe->Option Expr->Bool
 |.no,none=>true
 |.some e,some p=>aU Γ N sc e p
 |_,_=>false
noncomputable def qU(Γ:Pg)(N:List Str)(sc:Scope)(tg:Expr):I->Expr->Bool
 |.seq e,p=>aU Γ N sc e p
 |.nj e,p=>(qA p).any λq=>(dY q.2).any λr=>q.1==("range":Str)&&ff sc q.1&&Γ.bs.contains q.1&&aU Γ N sc e r
 |.qx a b,p=>(qA p).any λq=>(oE q.2).any λr=>q.1==("range":Str)&&ff sc q.1&&Γ.bs.contains q.1&&aU Γ N sc a r.1&&aU Γ N sc b r.2
 |.enum e,p=>(qA p).any λq=>(dY q.2).any λr=>isTup tg&&q.1==("enumerate":Str)&&ff sc q.1&&Γ.bs.contains q.1&&aU Γ N sc e r
 |.zip as,p=>(qA p).any λq=>isTup tg&&q.1==("zip":Str)&&ff sc q.1&&Γ.bs.contains q.1&&dy as&&(dg as==2||dg as==3)&&dv Γ N sc as q.2
end
noncomputable def XE(W:Wd)(c:Str)(G1 H1:Hp):XK:=λCv ao H'=>∃C a G',Cv=.ref C/\ao=some a/\c∈W.xs/\W.mg c=some (.ref C)/\aw W G1 H1 G' H'
def mI(X:Cx)(W:Wd)(σ:St)(c:Str)(G H:Hp):Prop:=∀(aa:List (Addr×Obj)) (G1 H1:Hp) (s1:Shared) (e:Value) (s':Shared),Inv X aa σ H1 s1->aw W G H G1 H1->cS X.prog X.w X.stack H1 s1 (XE W c G1 H1) e s'->X.xe e s'
def Out{α:Type}(X:Cx)(W:Wd)(r:Res α)(σ:St)(G H:Hp)(k:α->Prop):Prop:=match r with
 |.ok a=>k a
 |.exc c=>mI X W σ c G H
 |.bad=>False
section
variable{X:Cx}{W:Wd}{F:bz}{σ:St}{G H G1 H1:Hp}{α β:Type}
def mI.grow{c:Str}(h:mI X W σ c G H)(g:aw W G H G1 H1):mI X W σ c G1 H1:=λaa G2 H2 s1 e s' I g2 x=>h aa G2 H2 s1 e s' I (g.trans g2) x
def Out.grow{r:Res α}{k:α->Prop}(h:Out X W r σ G H k)(g:aw W G H G1 H1):Out X W r σ G1 H1 k:=by
 cases r with
 |ok a=>exact h
 |exc c=>exact mI.grow h g
 |bad=>exact h
def Out.imp{r:Res α}{k k':α->Prop}(h:Out X W r σ G H k)(i:∀a,k a->k' a):Out X W r σ G H k':=by
 cases r with
 |ok a=>exact i a h
 |exc c=>exact h
 |bad=>exact h
def Out.bind{r:Res α}{f:α->Res β}{k:β->Prop}(h:Out X W (r.bind f) σ G H k):Out X W r σ G H λa=>Out X W (f a) σ G H k:=by
 cases r with
 |ok a=>exact h
 |exc c=>exact h
 |bad=>exact h
def Out.val{r:Res α}{k:α->Prop}(h:Out X W r σ G H k)(n:∀c,r≠.exc c):∃a,r=.ok a/\k a:=by
 cases r with
 |ok a=>exact⟨a,rfl,h⟩
 |exc c=>exact absurd rfl (n c)
 |bad=>exact h.elim
structure Got(W:Wd)(H0 G H:Hp)(e:E)(p:PV)(v:V):Prop where
 top:Top W H0 G H p v
 rep:eo e=true->Rep W G p v
def Got.of{H0:Hp}{e:E}{p:PV}{v:V}(h:Rep W G p v):Got W H0 G H e p v:=⟨.inl h,λ_=>h⟩
noncomputable def tE(X:Cx)(W:Wd)(F:bz)(e:E):TE:=λσ H Q=>∃H0 G env,SR W H0 env σ G H/\Out X W (ax F e env) σ G H λp=>∀v G' H',aw W G H G' H'->Got W H0 G' H' e p v->Q v H'
noncomputable def tT(X:Cx)(W:Wd)(F:bz)(e:E):TT:=λσ H Q=>∃H0 G env,SR W H0 env σ G H/\Out X W (ax F e env) σ G H λp=>∃b,p=.bl b/\∀G' H',aw W G H G' H'->Q b H'
structure Bp(W:Wd)(H0 G H:Hp)(es:Es)(ps:List PV)(vs:List V):Prop where
 top:Paired (λv p=>Top W H0 G H p v) vs ps
 rep:dy es=true->ai W G ps vs
noncomputable def tA(X:Cx)(W:Wd)(F:bz)(es:Es):TA:=λσ H Q=>∃H0 G env,SR W H0 env σ G H/\Out X W (bj F es env) σ G H λps=>∀vs G' H',aw W G H G' H'->Bp W H0 G' H' es ps vs->Q vs H'
noncomputable def tY(X:Cx)(W:Wd)(F:bz)(o:Oe):TO:=λσ H Q=>∃H0 G env,SR W H0 env σ G H/\Out X W (qS F o env) σ G H λi=>∀G' H',aw W G H G' H'->Q i H'
def one{H0:Hp}{env:Sl}{e:E}{f:PV->Res β}{k:β->Prop}{Q:VK}(sr:SR W H0 env σ G H)(o:Out X W ((ax F e env).bind f) σ G H k)
 (h:∀p v G1 H1,aw W G H G1 H1->Got W H0 G1 H1 e p v->SR W H0 env σ G1 H1->Out X W (f p) σ G1 H1 k->Q v H1):tE X W F e σ H Q:=
 ⟨H0,G,env,sr,o.bind.imp λp hp v G1 H1 g t=>h p v G1 H1 g t (sr.grow g) (hp.grow g)⟩
def wb{H0:Hp}{env:Sl}{e:E}{f:Bool->Res β}{k:β->Prop}{Q:Bool->Hp->Prop}(sr:SR W H0 env σ G H)(o:Out X W ((ax F e env).bind λp=>pf p f) σ G H k)
 (h:∀b G1 H1,aw W G H G1 H1->SR W H0 env σ G1 H1->Out X W (f b) σ G1 H1 k->Q b H1):tT X W F e σ H Q:=by
 refine⟨H0,G,env,sr,o.bind.imp λp hp=>?_⟩
 cases p with
 |bl b=>exact⟨b,rfl,λG1 H1 g=>h b G1 H1 g (sr.grow g) (Out.grow hp g)⟩
 |bO=>exact zzk hp
 |int _=>exact zzk hp
 |str _=>exact zzk hp
 |tup _=>exact zzk hp
 |lst _=>exact zzk hp
 |exc _=>exact zzk hp
 |d8 _ _=>exact zzk hp
def args{H0:Hp}{env:Sl}{es:Es}{f:List PV->Res β}{k:β->Prop}{Q:List V->Hp->Prop}(sr:SR W H0 env σ G H)(o:Out X W ((bj F es env).bind f) σ G H k)
 (h:∀ps vs G1 H1,aw W G H G1 H1->Bp W H0 G1 H1 es ps vs->SR W H0 env σ G1 H1->Out X W (f ps) σ G1 H1 k->Q vs H1):tA X W F es σ H Q:=
 ⟨H0,G,env,sr,o.bind.imp λp hp v G1 H1 g t=>h p v G1 H1 g t (sr.grow g) (hp.grow g)⟩
def uJ(W:Wd)(G:Hp):Option (Str×List Nat)->List PV->List V->Prop
 |none,as,vs=>ai W G as vs
 |some q,as,vs=>∃pN bg pL v,as=pN++bg/\vs=pL++[v]/\ai W G pN pL/\lG W G q.1 q.2 bg v
noncomputable def rW(W:Wd)(F:bz)(f:Str)(n:Nat)(q:Option (Str×List Nat)):Sp:=λvs H Q E=>vs.length=n/\∃G as,av G H/\bM W G H/\uJ W G q as vs/\(match F f as with
 |.ok p=>∀v G' H',aw W G H G' H'->Rep W G' p v->Q v H'
 |.exc c=>∀Cv ao H',XE W c G H Cv ao H'->E Cv ao H'
 |.bad=>False)
structure tj(X:Cx)(W:Wd)(F:bz)(k:Nat)(f:Str):Prop where
 ex:∃fa fd ps,eT X.prog X.w X.K X.mg X.base (cS X.prog X.w) k fa fd ps (rW W F f ps.length none)/\X.mg f=some (.ref fa)/\PySem.W.keepIn X.K (.ref fa)=true/\Binds X.K fd ps []/\∀as,F f as≠.bad->as.length=ps.length
structure CN(X:Cx)(W:Wd)(F:bz)(k:Nat)(q:Hs):Prop where
 ex:∃fa fd ps,eT X.prog X.w X.K X.mg X.base (cS X.prog X.w) k fa fd ps (rW W F q.f ps.length (some (q.g,q.idx)))/\X.mg q.h=some (.ref fa)/\PySem.W.keepIn X.K (.ref fa)=true/\Binds X.K fd ps []/\ps.length=q.np
structure cb(Γ:Pg)(F:bz)(W:Wd)(N:List Str)(sc:Scope)(k:Nat)(X:Cx):Prop where
 hN:X.N=N
 cZ:X.env.scope=sc
 calm:Γ.qt=false->X.calm=true
 nd:N.Nodup
 K:W.K=X.K
 mg:W.mg=X.mg
 gs:∀q∈Γ.gs,∃u v,X.mg q.1=some u/\RelV v u/\∀G,Rep W G q.2 v
 bs:∀g∈Γ.bs,X.mg g=none
 room:dz (k+1) X.A
 fns:∀f,Γ.fs.contains f=true->tj X W F k f
 Cj:Γ.cs.contains "ValueError"=false
 cls:∀c∈Γ.cs,∃C,X.mg c=some (.ref C)
 xc:∀d∈W.xs,∀D,X.mg d=some (.ref D)->jc X.K D/\(∀c∈Γ.cs,∀C,X.mg c=some (.ref C)->PySem.W.kitOne X.K (.ref D) (.ref C)=some (c==d||c=="FloorError"))/\PySem.W.kitOne X.K (.ref D) (.type "ValueError")=some true
 lU:∀q∈Γ.hs,CN X W F k q
 Eb:∀f,Γ.qs.contains f=true->2<=k/\tj X W F 2 f
 any:∀g as,F g as≠.bad->Γ.fs.contains g=true\/eO g=true
 tb:Γ.hl=true->∃c P,X.env.code=.ref c/\PySem.W.CodeHd X.base c P/\(P,X.env.qual++"<lambda>")∈W.ts/\∀q',(P,q')∈W.ts->q'=X.env.qual++"<lambda>"
 bm:Γ.hl=true->sy X.mg X.base
 fl:Γ.hl=true->∀x,X.fn x=true
variable{Γ:Pg}{N:List Str}{sc:Scope}{k:Nat}
def ja(C:cb Γ F W N sc k X){x:Str}(h:fU sc x=true):B6 X.env.scope x:=by
 rw [C.cZ];unfold fU fq at h;simp! [zzt,zzy] at h;rcases h with(h|h)|h
 ·exact .inl h
 ·exact .inr (.inl h)
 ·exact .inr (.inr h)
def cJ(C:cb Γ F W N sc k X){x:Str}(h:ff sc x=true):Gl X x:=by
 show X.env.scope.names.lookup x=_
 rw [C.cZ];exact zzy.mp h
def cI{x:Str}(h:okN x=true):(x==("__debug__":Str))=false/\(x==("__classdict__":Str))=false/\x≠"__name__":=by
 unfold okN at h;simp! [zza,Bool.not_eq_true',beq_eq_false_iff_ne] at h;exact⟨beq_eq_false_iff_ne.mpr h.1.1,beq_eq_false_iff_ne.mpr h.1.2,h.2⟩
abbrev GE(X:Cx)(W:Wd)(F:bz)(e:E)(p:Expr):Prop:=PE X p (tE X W F e)
abbrev GT(X:Cx)(W:Wd)(F:bz)(e:E)(p:Expr):Prop:=PT X p (tT X W F e)
abbrev GW(X:Cx)(W:Wd)(F:bz)(e:E)(p:Expr):Prop:=PW X p (tT X W F e)
def _root_.L2.PE.imp{p:Expr}{t t':TE}(h:PE X p t)(i:∀σ H Q,t' σ H Q->t σ H Q):PE X p t':=λaa s σ H Q I hw=>h aa s σ H Q I (i σ H Q hw)
def _root_.L2.PT.imp{p:Expr}{t t':TT}(h:PT X p t)(i:∀σ H Q,t' σ H Q->t σ H Q):PT X p t':=λaa s σ H Q I hw=>h aa s σ H Q I (i σ H Q hw)
def _root_.L2.PW.imp{p:Expr}{t t':TT}(h:PW X p t)(i:∀σ H Q,t' σ H Q->t σ H Q):PW X p t':=λw aa s σ H Q I hw=>h w aa s σ H Q I (i σ H Q hw)
def _root_.L2.PA.imp{p:List Expr}{t t':TA}(h:PA X p t)(i:∀σ H Q,t' σ H Q->t σ H Q):PA X p t':=λpos aa s σ H Q I hw=>h pos aa s σ H Q I (i σ H Q hw)
def yA{e:E}(σ:St)(H:Hp)(Q:Bool->Hp->Prop)(h:tT X W F e σ H Q):tB (tE X W F e) σ H Q:=by
 obtain⟨H0,G,env,sr,o⟩:=h
 refine⟨H0,G,env,sr,o.imp λp hp v G' H' g t=>?_⟩
 obtain⟨b,rfl,q⟩:=hp
 exact⟨b,t.top.bl,q G' H' g⟩
def l7{e:E}(σ:St)(H:Hp)(Q:Bool->Hp->Prop)(h:tT X W F e σ H Q):u3 (tE X W F e) σ H Q:=yA σ H Q h
def pX{i:Nat}{x:Str}{pos:Pos}(hn:X.N[i]?=some x)(hv:B6 X.env.scope x)(h:okN x=true):GE X W F (.var i) (.Name x pos):=by
 obtain⟨h1,h2,h3⟩:=cI h
 refine(fD (i:=i) hn hv h1 h2).imp λσ H Q hq=>?_
 obtain⟨H0,G,env,sr,o⟩:=hq
 cases e:env[i]? with
 |none=>unfold ax at o;rw [e] at o;exact o.elim
 |some sl=>
  cases sl with
  |no=>unfold ax at o;rw [e] at o;exact o.elim
  |fn _ _ _=>unfold ax at o;rw [e] at o;exact o.elim
  |own p=>unfold ax at o;rw [e] at o;exact o.elim
  |val p=>
   unfold ax at o;rw [e] at o;obtain⟨o2,hs,v,rfl,r⟩:=sr.slot i _ e
   exact⟨v,hs,o v G H (.refl sr.sub) (.of r)⟩
def Aq(C:cb Γ F W N sc k X){i:Nat}{x:Str}{pos:Pos}(h:(N[i]?==some x&&fU sc x&&okN x)=true):GE X W F (.var i) (.Name x pos):=by
 simp! [zza,zzy] at h;exact pX (by rw [C.hN];exact h.1.1) (ja C h.1.2) h.2
def zP(C:cb Γ F W N sc k X){i:Nat}{x:Str}{pos:Pos}(h:(N[i]?==some x&&fU sc x&&okN x)=true):GE X W F (.oY i) (.Name x pos):=by
 simp! [zza,zzy] at h;obtain⟨h1,h2,h3⟩:=cI h.2
 refine(fD (i:=i) (by rw [C.hN];exact h.1.1) (ja C h.1.2) h1 h2).imp λσ H Q hq=>?_
 obtain⟨H0,G,env,sr,o⟩:=hq
 cases e:env[i]? with
 |none=>unfold ax at o;rw [e] at o;exact o.elim
 |some sl=>
  cases sl with
  |no=>unfold ax at o;rw [e] at o;exact o.elim
  |fn _ _ _=>unfold ax at o;rw [e] at o;exact o.elim
  |own p=>
   unfold ax at o;rw [e] at o;obtain⟨o2,hs,v,rfl,r⟩:=sr.slot i _ e
   exact⟨v,hs,o v G H (.refl sr.sub) ⟨.inr r,λz=>nomatch z⟩⟩
  |val p=>
   unfold ax at o;rw [e] at o;obtain⟨o2,hs,v,rfl,r⟩:=sr.slot i _ e
   exact⟨v,hs,o v G H (.refl sr.sub) (.of r)⟩
def c9{p:PV}{v:V}{e:Expr}(h:PE X e (tC v))(r:∀G,Rep W G p v):GE X W F (.cst p) e:=by
 refine L2.PE.imp h λσ H Q hq=>?_
 obtain⟨H0,G,env,sr,o⟩:=hq
 exact o v G H (.refl sr.sub) (.of (r G))
def xJ(C:cb Γ F W N sc k X){g x:Str}{p:PV}{pos:Pos}(h:(g==x&&ff sc x&&okN x&&Γ.gs.any λq=>q.1==g&&pK q.2 p)=true):GE X W F (.glob g p) (.Name x pos):=by
 simp! [zza,zzy,zzj] at h;obtain⟨⟨⟨rfl,h2⟩,h3⟩,q,hq,e1,e2⟩:=h
 obtain⟨u,v,hm,rv,hr⟩:=C.gs q hq
 rw [e1] at hm;cases uU e2;refine(pW (cJ C h2) hm rv (cI h3).1).imp λσ H Q hq=>?_
 obtain⟨H0,G,env,sr,o⟩:=hq
 exact o v G H (.refl sr.sub) (.of (hr G))
def Res.bp{α:Type}{o:Option α}(c:Str):Res.of o≠.exc c:=by cases o<;>exact λz=>nomatch z
def qu{α β:Type}{o:Option α}{f:α->Res β}{c:Str}(h:∀a,f a≠.exc c):(Res.of o).bind f≠.exc c:=by
 cases o with
 |none=>exact λz=>nomatch z
 |some a=>exact h a
def jx{o:yB}{p q:PV}(c:Str):binOp o p q≠.exc c:=by
 unfold binOp
 repeat' split
 all_goals exact λz=>nomatch z
def w6{p q:PV}(c:Str):fL p q≠.exc c:=by
 unfold fL
 (repeat' first|split|refine qu λ_=>?_|exact Res.bp c|exact(λz=>nomatch z))
def wD{p q:PV}(c:Str):gC p q≠.exc c:=by
 unfold gC
 (repeat' first|split|refine qu λ_=>?_|exact Res.bp c|exact(λz=>nomatch z))
def xo{p q:PV}(c:Str):mE p q≠.exc c:=by
 unfold mE
 (repeat' first|split|refine qu λ_=>?_|exact Res.bp c|exact(λz=>nomatch z))
def xu{p q:PV}(c:Str):m7 p q≠.exc c:=by
 unfold m7
 (repeat' first|split|refine qu λ_=>?_|exact Res.bp c|exact(λz=>nomatch z))
def xH{p q:PV}(c:Str):nT p q≠.exc c:=by
 unfold nT
 (repeat' first|split|refine qu λ_=>?_|exact Res.bp c|exact(λz=>nomatch z))
def sC{p q:PV}(c:Str):j1 p q≠.exc c:=by
 unfold j1
 (repeat' first|split|refine qu λ_=>?_|exact Res.bp c|exact(λz=>nomatch z))
def cC{o:r9}{p q:PV}(c:Str):c8 o p q≠.exc c:=match o with
 |.eq=>w6 c|.ne=>wD c|.lt=>xo c|.le=>xu c|.gt=>xH c|.D3=>sC c
def two{op:PV->PV->Res PV}{ea eb:E}{e:E}{σ:St}{H:Hp}{Q:VK}(hn:∀p q c,op p q≠.exc c)(he:∀env,ax F e env=(ax F ea env).bind λx=>(ax F eb env).bind λy=>op x y)
 (h:tE X W F e σ H Q):EI (rY W op) (tE X W F ea) (tE X W F eb) σ H Q:=by
 obtain⟨H0,G,env,sr,o⟩:=h
 rw [he] at o;refine one sr o λp v G1 H1 g1 t1 bb o1=>one bb o1 λq u G2 H2 g2 t2 gX o2=>?_
 obtain⟨r,hr,kr⟩:=o2.val (hn p q)
 exact⟨H0,G2,p,q,r,gX.sub,t1.top.grow g2,t2.top,hr,λw G' H' g' jd=>kr w G' H' ((g1.trans g2).trans g') (.of jd)⟩
def pZ(hK:W.K=X.K){o:yB}{a b:E}{pa pb:Expr}{pos:Pos}(ha:GE X W F a pa)(hb:GE X W F b pb):GE X W F (.bin o a b) (.BinOp pa (EV o) pb pos):=
 (D7 (Aa hK o) ha hb).imp λσ H Q h=>two (λp q c=>jx c) (λenv=>by rw [ax]) h
def Ac(C:cb Γ F W N sc k X){o:yB}{a b:E}{pa pb:Expr}{pos:Pos}(ha:GE X W F a pa)(hb:GE X W F b pb):GE X W F (.bin o a b) (.BinOp pa (EV o) pb pos):=pZ C.K ha hb
def Br(C:cb Γ F W N sc k X){o:r9}{a b:E}{pa pb:Expr}{pos:Pos}(ha:GE X W F a pa)(hb:GE X W F b pb)(hm:behindInMarks (lQ o) pb=false):GE X W F (.cmp o a b) (.Compare pa [lQ o] [pb] pos):=
 (xD (eV C.K C.room.units o) ha hb hm).imp λσ H Q h=>two (λp q c=>cC c) (λenv=>by rw [ax]) h
theorem zT(C:cb Γ F W N sc k X){o:r9}{a b:E}{pa pb:Expr}{pos:Pos}(ha:GE X W F a pa)(hb:GE X W F b pb)(hm:behindInMarks (lQ o) pb=false):GT X W F (.cmp o a b) (.Compare pa [lQ o] [pb] pos):=
 (xI (eV C.K C.room.units o) ha hb hm).imp λσ H Q h=>by
  have h2:=l7 σ H Q h
  exact two (λp q c=>cC c) (λenv=>by rw [ax]) h2
def yk{c1 c2:r9}{a b c:E}(σ:St)(H:Hp)(Q:VK)(h:tE X W F (.ch c1 c2 a b c) σ H Q):nJ (rY W (c8 c1)) (rY W (c8 c2)) (tE X W F a) (tE X W F b) (tE X W F c) σ H Q:=by
 obtain⟨H0,G,env,sr,o⟩:=h
 rw [ax] at o;refine one sr o λp v G1 H1 g1 t1 bb o1=>one bb o1 λq u G2 H2 g2 t2 gX o2=>?_
 obtain⟨r,hr,kr⟩:=o2.bind.val (cC)
 refine⟨H0,G2,p,q,r,gX.sub,t1.top.grow g2,t2.top,hr,λw G3 H3 g3 jd=>?_⟩
 cases r with
 |bl t=>
  simp! [Rep] at jd;subst jd;refine⟨t,rfl,?_⟩;cases t with
  |false=>
   rw [if_neg zzf];have FF:Out X W (Res.ok (PV.bl false)) σ G2 H2 _:=kr
   exact FF _ G3 H3 ((g1.trans g2).trans g3) (.of .b)
  |true=>
   rw [if_pos rfl];have FF:Out X W ((ax F c env).bind λz=>c8 c2 q z) σ G2 H2 _:=kr
   refine one (gX.grow g3) (FF.grow g3) λz y G4 H4 g4 t4 zx o4=>?_
   obtain⟨r4,hr4,kr4⟩:=o4.val (cC)
   exact⟨H0,G4,q,z,r4,zx.sub,t2.top.grow (g3.trans g4),t4.top,hr4,λw G5 H5 g5 Ks=>kr4 w G5 H5 ((((g1.trans g2).trans g3).trans g4).trans g5) (.of Ks)⟩
 |bO=>exact zzk kr
 |int _=>exact zzk kr
 |str _=>exact zzk kr
 |tup _=>exact zzk kr
 |lst _=>exact zzk kr
 |exc _=>exact zzk kr
 |d8 _ _=>exact zzk kr
def CU(C:cb Γ F W N sc k X){o1 o2:r9}{a b c:E}{pa pb pc:Expr}{pos:Pos}(ha:GE X W F a pa)(hb:GE X W F b pb)(hc:GE X W F c pc)(hm:lastMarks [lQ o1,lQ o2] [pb,pc]=false):GE X W F (.ch o1 o2 a b c) (.Compare pa [lQ o1,lQ o2] [pb,pc] pos):=
 (vk (eV C.K C.room.units o1) (eV C.K C.room.units o2) ha hb hc hm).imp yk
def DE(C:cb Γ F W N sc k X){o1 o2:r9}{a b c:E}{pa pb pc:Expr}{pos:Pos}(ha:GE X W F a pa)(hb:GE X W F b pb)(hc:GE X W F c pc)(hm:lastMarks [lQ o1,lQ o2] [pb,pc]=false):GT X W F (.ch o1 o2 a b c) (.Compare pa [lQ o1,lQ o2] [pb,pc] pos):=
 (ue (eV C.K C.room.units o1) (eV C.K C.room.units o2) ha hb hc hm).imp λσ H Q h=>yk σ H _ (l7 σ H Q h)
theorem BZ{a:E}{pa:Expr}{pos:Pos}(ha:GE X W F a pa):GE X W F (.neg a) (.UnaryOp .USub pa pos):=
 (DY (wY (W:=W)) ha).imp λσ H Q h=>by
  obtain⟨H0,G,env,sr,o⟩:=h
  rw [ax] at o;refine one sr o λp v G1 H1 g1 t1 bb o1=>?_
  cases p with
  |int i=>exact⟨H0,G1,i,bb.sub,t1.top,λw G' H' g' jd=>o1 w G' H' (g1.trans g') (.of jd)⟩
  |bl _=>exact zzk o1
  |bO=>exact zzk o1
  |str _=>exact zzk o1
  |tup _=>exact zzk o1
  |lst _=>exact zzk o1
  |exc _=>exact zzk o1
  |d8 _ _=>exact zzk o1
theorem zA{a:E}{pa:Expr}{pos:Pos}(ha:GE X W F a pa):GE X W F (.not a) (.UnaryOp .Not pa pos):=
 (BU ha).imp λσ H Q h=>by
  obtain⟨H0,G,env,sr,o⟩:=h
  rw [ax] at o;refine one sr o λp v G1 H1 g1 t1 bb o1=>?_
  cases p with
  |bl b=>exact⟨b,t1.top.bl,o1 _ G1 H1 g1 (.of .b)⟩
  |int _=>exact zzk o1
  |bO=>exact zzk o1
  |str _=>exact zzk o1
  |tup _=>exact zzk o1
  |lst _=>exact zzk o1
  |exc _=>exact zzk o1
  |d8 _ _=>exact zzk o1
theorem zg{a:E}{pa:Expr}{pos:Pos}(ha:GT X W F a pa):GT X W F (.not a) (.UnaryOp .Not pa pos):=
 (zw ha).imp λσ H Q h=>by
  obtain⟨H0,G,env,sr,o⟩:=h
  rw [ax] at o;refine wb sr o λb G1 H1 g1 bb o1=>?_
  obtain⟨b',e,q⟩:=o1
  cases e;exact q G1 H1 g1
theorem u4{a b:E}{pa pb:Expr}{r:List Expr}{pos:Pos}(he:eo b=true)(ha:GE X W F a pa)(hb:GE X W F b (.BoolOp .And (pb::r) pos)):GE X W F (.and a b) (.BoolOp .And (pa::pb::r) pos):=
 (Aw ha hb).imp λσ H Q h=>by
  obtain⟨H0,G,env,sr,o⟩:=h
  rw [ax] at o;refine one sr o λp v G1 H1 g1 t1 bb o1=>?_
  cases p with
  |bl t=>
   refine⟨t,t1.top.bl,?_⟩;cases t with
   |true=>
    rw [if_pos rfl];have mP:Out X W (ax F b env) σ G1 H1 _:=o1
    exact⟨H0,G1,env,bb,mP.imp λp hp v G' H' g' t'=>hp v G' H' (g1.trans g') (.of (t'.rep he))⟩
   |false=>
    rw [if_neg zzf];have mP:Out X W (Res.ok (PV.bl false)) σ G1 H1 _:=o1
    exact mP _ G1 H1 g1 (.of .b)
  |int _=>exact zzk o1
  |bO=>exact zzk o1
  |str _=>exact zzk o1
  |tup _=>exact zzk o1
  |lst _=>exact zzk o1
  |exc _=>exact zzk o1
  |d8 _ _=>exact zzk o1
theorem yJ{a b:E}{pa pb:Expr}{r:List Expr}{pos:Pos}(he:eo b=true)(ha:GE X W F a pa)(hb:GE X W F b (.BoolOp .Or (pb::r) pos)):GE X W F (.or a b) (.BoolOp .Or (pa::pb::r) pos):=
 (CO ha hb).imp λσ H Q h=>by
  obtain⟨H0,G,env,sr,o⟩:=h
  rw [ax] at o;refine one sr o λp v G1 H1 g1 t1 bb o1=>?_
  cases p with
  |bl t=>
   refine⟨t,t1.top.bl,?_⟩;cases t with
   |false=>
    rw [if_neg zzf];have mP:Out X W (ax F b env) σ G1 H1 _:=o1
    exact⟨H0,G1,env,bb,mP.imp λp hp v G' H' g' t'=>hp v G' H' (g1.trans g') (.of (t'.rep he))⟩
   |true=>
    rw [if_pos rfl];have mP:Out X W (Res.ok (PV.bl true)) σ G1 H1 _:=o1
    exact mP _ G1 H1 g1 (.of .b)
  |int _=>exact zzk o1
  |bO=>exact zzk o1
  |str _=>exact zzk o1
  |tup _=>exact zzk o1
  |lst _=>exact zzk o1
  |exc _=>exact zzk o1
  |d8 _ _=>exact zzk o1
theorem sY{a b:E}{pa pb:Expr}{r:List Expr}{pos:Pos}(ha:GT X W F a pa)(hb:GW X W F b (.BoolOp .And (pb::r) pos)):GW X W F (.and a b) (.BoolOp .And (pa::pb::r) pos):=
 (pw_and ha hb).imp λσ H Q h=>by
  obtain⟨H0,G,env,sr,o⟩:=h
  rw [ax] at o;refine wb sr o λt G1 H1 g1 bb o1=>?_
  cases t with
  |true=>
   rw [if_pos rfl];have mP:Out X W (ax F b env) σ G1 H1 _:=o1
   exact⟨H0,G1,env,bb,mP.imp λp hp=>by obtain⟨c,rfl,q⟩:=hp;exact⟨c,rfl,λG' H' g'=>q G' H' (g1.trans g')⟩⟩
  |false=>
   rw [if_neg zzf];obtain⟨c,e,q⟩:=(show Out X W (Res.ok (PV.bl false)) σ G1 H1 _ from o1)
   cases e;exact q G1 H1 g1
theorem yu{a b:E}{pa pb:Expr}{r:List Expr}{pos:Pos}(ha:GT X W F a pa)(hb:GW X W F b (.BoolOp .Or (pb::r) pos)):GW X W F (.or a b) (.BoolOp .Or (pa::pb::r) pos):=
 (pw_or ha hb).imp λσ H Q h=>by
  obtain⟨H0,G,env,sr,o⟩:=h
  rw [ax] at o;refine wb sr o λt G1 H1 g1 bb o1=>?_
  cases t with
  |false=>
   rw [if_neg zzf];have mP:Out X W (ax F b env) σ G1 H1 _:=o1
   exact⟨H0,G1,env,bb,mP.imp λp hp=>by obtain⟨c,rfl,q⟩:=hp;exact⟨c,rfl,λG' H' g'=>q G' H' (g1.trans g')⟩⟩
  |true=>
   rw [if_pos rfl];obtain⟨c,e,q⟩:=(show Out X W (Res.ok (PV.bl true)) σ G1 H1 _ from o1)
   cases e;exact q G1 H1 g1
theorem Ap{c a b:E}{pc pa pb:Expr}{pos:Pos}(Kv:eo a=true)(Lo:eo b=true)(hc:GT X W F c pc)(ha:GE X W F a pa)(hb:GE X W F b pb):GE X W F (.ite c a b) (.IfExp pc pa pb pos):=
 (sZ hc ha hb).imp λσ H Q h=>by
  obtain⟨H0,G,env,sr,o⟩:=h
  rw [ax] at o;refine wb sr o λt G1 H1 g1 bb o1=>?_
  cases t with
  |true=>
   rw [if_pos rfl];have mP:Out X W (ax F a env) σ G1 H1 _:=o1
   exact⟨H0,G1,env,bb,mP.imp λp hp v G' H' g' t'=>hp v G' H' (g1.trans g') (.of (t'.rep Kv))⟩
  |false=>
   rw [if_neg zzf];have mP:Out X W (ax F b env) σ G1 H1 _:=o1
   exact⟨H0,G1,env,bb,mP.imp λp hp v G' H' g' t'=>hp v G' H' (g1.trans g') (.of (t'.rep Lo))⟩
noncomputable def tF(X:Cx)(W:Wd)(F:bz)(e:E):TE:=λσ H Q=>∃H0 G env,SR W H0 env σ G H/\Out X W (ax F e env) σ G H λp=>∃xs,p=.lst xs/\∀a vs G' H',aw W G H G' H'->H' a=none->ai W G' xs vs->Q (.ref a) (upd H' a (.lst vs))
abbrev GF(X:Cx)(W:Wd)(F:bz)(e:E)(p:Expr):Prop:=PE X p (tF X W F e)
theorem GF.ge{e:E}{p:Expr}(h:GF X W F e p)(hl:∀env q,ax F e env=.ok q->∃xs,q=.lst xs):GE X W F e p:=
 L2.PE.imp h λσ H Q hq=>by
  obtain⟨H0,G,env,sr,o⟩:=hq
  refine⟨H0,G,env,sr,?_⟩;cases r:ax F e env with
  |bad=>rw [r] at o;exact o
  |exc c=>rw [r] at o;exact o
  |ok q=>
   rw [r] at o;obtain⟨xs,rfl⟩:=hl env q r
   exact⟨xs,rfl,λa vs G' H' g ha l=>o _ _ _ (g.trans (.new g.sub ha)) (.of (.l (.inl (.inl aq)) (ai.same (bq (g.sub.free ha)) xs l)))⟩
def notStar{e:E}{p:Expr}(h:aU Γ N sc e p=true):∀env ps,starEach (p::ps) env=(false,eval p env)::starEach ps env:=by
 intro env ps;cases p<;>first|rfl|(cases e<;>first|(exact aC h)|(rename_i q;cases q<;>exact aC h))
theorem cu:∀{es:Es} {ps:List Expr},dv Γ N sc es ps=true->∀env pos,(backTo pos (starEach ps env)).any (·.1)=false
 |.nil,[],_,_,_=>rfl
 |.cons e es,p::ps,h,env,pos=>by
  replace h:=ak h
  rw [notStar h.1];show(false||(backTo pos (starEach ps env)).any (·.1))=false
  rw [cu h.2]
  rfl
 |.nil,_::_,h,_,_=>aC h
 |.cons _ _,[],h,_,_=>aC h
abbrev GA(X:Cx)(W:Wd)(F:bz)(es:Es)(ps:List Expr):Prop:=PA X ps (tA X W F es)
theorem lI:GA X W F .nil []:=L2.PA.imp cQ λσ H Q h=>by
 obtain⟨H0,G,env,sr,o⟩:=h
 rw [bj] at o;exact o [] G H (.refl sr.sub) ⟨.nil,λ_=>.nil⟩
theorem fO{e:E}{es:Es}{p:Expr}{ps:List Expr}(he:GE X W F e p)(hs:GA X W F es ps)(dj:starEach (p::ps) X.env=(false,eval p X.env)::starEach ps X.env):GA X W F (.cons e es) (p::ps):=
 L2.PA.imp (bu he hs dj) λσ H Q h=>by
  obtain⟨H0,G,env,sr,o⟩:=h
  rw [bj] at o;refine one sr o λq v G1 H1 g1 t1 bb o1=>args bb o1 λqs vs G2 H2 g2 t2 gX o2=>?_
  refine o2 (v::vs) G2 H2 (g1.trans g2) ⟨.cons (t1.top.grow g2) t2.top,λz=>?_⟩
  unfold dy at z;rw [zza] at z;exact .cons (Rep.same g2.g q (t1.rep z.1)) (t2.rep z.2)
theorem eE:∀{es:Es} {env:Sl} {ps:List PV},bj F es env=.ok ps->ps.length=dg es
 |.nil,env,ps,h=>by rw [bj] at h;cases h;rfl
 |.cons e es,env,ps,h=>by
  rw [bj] at h;obtain⟨p,_,h⟩:=Res.aZ h
  obtain⟨qs,hq,h⟩:=Res.aZ h
  cases h;rw [zzL,eE hq]
  rfl
theorem nB{es:Es}{ps:List Expr}{x1:Nat}{pos:Pos}(rA:dy es=true)(hl:dg es<1000)(h:GA X W F es ps):GE X W F (.tup es) (.Tuple ps x1 pos):=
 L2.PE.imp (zI h) λσ H Q hq=>by
  obtain⟨H0,G,env,sr,o⟩:=hq
  rw [ax] at o;have o':=o
  refine⟨H0,G,env,sr,?_⟩;cases r:bj F es env with
  |bad=>rw [r] at o;exact o
  |exc c=>rw [r] at o;exact o
  |ok qs=>
   rw [r] at o;have hlen:=eE r
   intro vs G1 H1 g1 t;have l:=t.rep rA
   refine⟨by rw [l.length,hlen];exact Nat.le_of_lt (Nat.lt_trans hl (by decide)),λp hp=>?_⟩
   exact o _ _ _ (g1.trans (.new g1.sub hp)) (.of (.t (.inl aq) (ai.same (bq (g1.sub.free hp)) qs l)))
theorem ur{es:Es}{ps:List Expr}{pos:Pos}(rA:dy es=true)(hl:dg es<1000)(h:GA X W F es ps):GF X W F (.lst es) (.List ps pos):=
 L2.PE.imp (AM h) λσ H Q hq=>by
  obtain⟨H0,G,env,sr,o⟩:=hq
  rw [ax] at o;refine⟨H0,G,env,sr,?_⟩;cases r:bj F es env with
  |bad=>rw [r] at o;exact o
  |exc c=>rw [r] at o;exact o
  |ok qs=>
   rw [r] at o;have hlen:=eE r
   obtain⟨xs,e,o⟩:=o
   cases e;intro vs G1 H1 g1 t;have l:=t.rep rA
   exact⟨by rw [l.length,hlen];exact Nat.le_of_lt (Nat.lt_trans hl (by decide)),λp hp=>o p vs G1 H1 g1 hp l⟩
theorem lst_is{es:Es}:∀env q,ax F (.lst es) env=.ok q->∃xs,q=.lst xs:=λenv q h=>by
 rw [ax] at h;obtain⟨ps,_,h⟩:=Res.aZ h
 cases h;exact⟨_,rfl⟩
def rk{p q:PV}(c:Str):bf p q≠.exc c:=by
 unfold bf
 (repeat' first|split|refine qu λ_=>?_|exact Res.bp c|exact(λz=>nomatch z))
def BQ(C:cb Γ F W N sc k X){a b:E}{pa pb:Expr}{pos:Pos}(ha:GE X W F a pa)(hb:GE X W F b pb)(hs:kL pb):GE X W F (.sub a b) (.Subscript pa pb pos):=
 (ES (FE C.K C.room.units) ha hb hs).imp λσ H Q h=>two (λp q c=>rk c) (λenv=>by rw [ax]) h
def vi{e:E}{p:Expr}(h:aU Γ N sc e p=true):kL p:=by
 intro o i;cases p<;>first|rfl|(cases e<;>first|(exact aC h)|(rename_i q;cases q<;>exact aC h))
def lh{e:E}{p:Expr}(h:aU Γ N sc e p=true)(op:CmpOp):behindInMarks op p=false:=by
 cases p<;>first|rfl|(cases e<;>first|(exact aC h)|(rename_i q;cases q<;>exact aC h))
theorem xy:PO X none (tY X W F .no):=λaa s σ H Q I h=>xU aa s σ H Q I (by
 obtain⟨H0,G,env,sr,o⟩:=h
 rw [qS] at o;exact o G H (.refl sr.sub))
theorem vR{e:E}{p:Expr}(h:GE X W F e p):PO X (some p) (tY X W F (.some e)):=λaa s σ H Q I hq=>wR h aa s σ H Q I (by
 obtain⟨H0,G,env,sr,o⟩:=hq
 rw [qS] at o;refine one sr o λq v G1 H1 g1 t1 bb o1=>?_
 cases q with
 |int i=>exact⟨i,t1.top.int,o1 G1 H1 g1⟩
 |bl _=>exact zzk o1
 |bO=>exact zzk o1
 |str _=>exact zzk o1
 |tup _=>exact zzk o1
 |lst _=>exact zzk o1
 |exc _=>exact zzk o1
 |d8 _ _=>exact zzk o1)
def mz{p:PV}{lo hi:Option Int}(c:Str):fb p lo hi≠.exc c:=by
 unfold fb
 (repeat' first|split|refine qu λ_=>?_|exact Res.bp c|exact(λz=>nomatch z))
theorem uK(C:cb Γ F W N sc k X){a:E}{lo hi:Oe}{pa:Expr}{pl ph:Option Expr}{p2 pos:Pos}(ha:GE X W F a pa)(hl:PO X pl (tY X W F lo))(hh:PO X ph (tY X W F hi)):GE X W F (.slice a lo hi) (.Subscript pa (.Slice pl ph none p2) pos):=
 (tG (GP C.K) ha hl hh).imp λσ H Q h=>by
  obtain⟨H0,G,env,sr,o⟩:=h
  rw [ax] at o;refine one sr o λp v G1 H1 g1 t1 bb o1=>?_
  refine⟨H0,G1,env,bb,o1.bind.imp λl rZ G2 H2 g2=>?_⟩
  refine⟨H0,G2,env,bb.grow g2,(rZ.grow g2).bind.imp λh' KU G3 H3 g3=>?_⟩
  obtain⟨r,hr,kr⟩:=(KU.grow g3).val (λc=>mz c)
  exact⟨H0,G3,p,r,((bb.grow g2).grow g3).sub,t1.top.grow (g2.trans g3),hr,λw G' H' g' jd=>kr w G' H' (((g1.trans g2).trans g3).trans g') (.of jd)⟩
def ya{CX:rX}{f:Addr}{fd:FuncData}{ps:List Str}{sp:Sp}{E:XK}{aa:List (Addr×Obj)}{σ:St}{H:Hp}{s:Shared}{Q:VK}{us:List Value}{vs:List V}(FO:eT X.prog X.w X.K X.mg X.base CX k f fd ps sp)(hr:dz k X.A)(hb:Binds X.K fd ps [])
 (hx:∀e s',CX X.stack H s E e s'->X.xe e s') (I:Inv X aa σ H s) (r:Vals vs us) (h:sp vs H Q E):wpAny (model X.prog X.w) X.A (call (.ref f) us) (EP X aa σ Q) X.xe s:=by
 have hl:us.length=ps.length:=by rw [<-r.length];exact FO.len _ _ _ _ h
 have g6:=hb s us I.jn (by rw [zz6];exact hl)
 rw [zz6] at g6;refine wpAny_call (codeAny_mono (FO.run X.A X.stack s H ⟨us,[]⟩ us vs Q E hr I.uX g6 r h) λr s' hq=>?_)
 cases r with
 |error e=>exact hx e s' hq
 |ok fl=>
  cases fl with
  |ret u=>exact I.after hq
  |next=>exact zzk hq
  |brk=>exact zzk hq
  |cont=>exact zzk hq
def sD.imp{P:Program}{w:World}{outer:List Env}{H:Hp}{s s':Shared}{E E':XK}{e:Value}(h:cS P w outer H s E e s')(i:∀C a H',E C a H'->E' C a H'):cS P w outer H s E' e s':=by
 obtain⟨a,C,t,vs,H',B,rfl,F⟩:=h
 exact⟨a,C,t,vs,H',B,rfl,⟨F.os,F.bare,F.aO,F.rJ,F.tn,F.tup,F.cR,F.bT,F.un,i _ _ _ F.ends⟩⟩
def gc(hr:dz k X.A){f:Str}{fa:Addr}{fd:FuncData}{pn:List Str}{q:Option (Str×List Nat)}{aa:List (Addr×Obj)}{σ:St}{G H:Hp}{s:Shared}{Q:VK}{us:List Value}{vs:List V}{as:List PV}
 (FO:eT X.prog X.w X.K X.mg X.base (cS X.prog X.w) k fa fd pn (rW W F f pn.length q)) (hb:Binds X.K fd pn []) (hlen:F f as≠.bad->vs.length=pn.length)
 (I:Inv X aa σ H s) (sg:av G H) (tb:bM W G H) (l:uJ W G q as vs) (r:Vals vs us) (o:Out X W (F f as) σ G H λp=>cm W G H p Q):wpAny (model X.prog X.w) X.A (call (.ref fa) us) (EP X aa σ Q) X.xe s:=by
 have ti:F f as≠.bad:=λz=>by rw [z] at o;exact o
 refine ya (E:=λCv ao H'=>∃c,F f as=.exc c/\XE W c G H Cv ao H') FO hr hb (λe s' x=>?_) I r ⟨hlen ti,G,as,sg,tb,l,?_⟩
 ·cases z:F f as with
  |ok q=>
   obtain⟨a,C',t,vs,H',B,rfl,Fl⟩:=x
   obtain⟨c,e1,_⟩:=Fl.ends
   rw [z] at e1;cases e1
  |exc c=>
   rw [z] at o;refine o aa G H s e s' I (.refl sg) (sD.imp x λC1 a H' y=>?_);obtain⟨c',e1,y⟩:=y
   rw [z] at e1;cases e1;exact y
  |bad=>exact absurd z ti
 ·cases z:F f as with
  |ok q=>
   rw [z] at o;exact λv G' H' g' rp=>o v G' H' g' rp
  |exc c=>exact λCv ao H' x=>⟨c,rfl,x⟩
  |bad=>exact absurd z ti
def cb.rm(C:cb Γ F W N sc k X):dz k X.A:=C.room.mono (Nat.le_succ k)
def wy(C:cb Γ F W N sc k X){f:Str}{e:E}{es:Es}{p:Expr}{ps:List Expr}{np pos:Pos}(hf:Γ.fs.contains f=true)(hg:ff sc f=true)(ho:okN f=true)(rA:dy (.cons e es)=true)(ha:GA X W F (.cons e es) (p::ps))
 (dj:starEach (p::ps) X.env=(false,eval p X.env)::starEach ps X.env) (hpl:(backTo pos (starEach ps X.env)).any (·.1)=false):GE X W F (.call f (.cons e es)) (.Call (.Name f np) (p::ps) [] pos):=by
 intro aa s σ H Q I h;obtain⟨H0,G,env,sr,o⟩:=h
 rw [ax] at o;obtain⟨fa,fd,pn,FO,hm,hk,hb,hlen⟩:=(C.fns f hf).ex
 refine wpAny_Call_Name_kw (dq I (cJ C hg) hm ?_ (cI ho).1);refine PySem.W.callWith_K (h₀:=X.base) I.ok.mod.Cb hk (bD (ha pos aa s σ H (λvs H1=>∃G1 as,av G1 H1/\bM W G1 H1/\ai W G1 as vs/\Out X W (F f as) σ G1 H1 λp=>cm W G1 H1 p Q) I ?_) λus s1 ⟨vs,H1,I1,r,q⟩=>⟨I1.jn,?_⟩) dj hpl
 ·refine args sr o λas vs G1 H1 g1 t bb o1=>⟨G1,as,bb.sub,bb.tab,t.rep rA,o1.imp λp hp v G' H' g' rp=>hp v G' H' (g1.trans g') (.of rp)⟩
 ·obtain⟨G1,as,sg,tb,l,o1⟩:=q
  exact gc C.rm FO hb (λz=>by rw [l.length];exact hlen as z) I1 sg tb l r o1
def uZ(C:cb Γ F W N sc k X){f:Str}{np pos:Pos}(hf:Γ.fs.contains f=true)(hg:ff sc f=true)(ho:okN f=true):GE X W F (.call f .nil) (.Call (.Name f np) [] [] pos):=by
 intro aa s σ H Q I h;obtain⟨H0,G,env,sr,o⟩:=h
 rw [ax,bj] at o;obtain⟨fa,fd,pn,FO,hm,hk,hb,hlen⟩:=(C.fns f hf).ex
 refine wpAny_Call_Name_kw (dq I (cJ C hg) hm ?_ (cI ho).1);refine PySem.W.callWith_K0 I.jn hk ?_;have o':Out X W (F f []) σ G H λp=>∀v G' H',aw W G H G' H'->Got W H0 G' H' (.call f .nil) p v->Q v H':=o
 exact gc (us:=[]) (vs:=[]) (as:=[]) (q:=none) C.rm FO hb (λz=>hlen [] z) I sr.sub sr.tab (show ai W G [] [] from .nil) .nil (o'.imp λp hp v G' H' g' rp=>hp v G' H' g' (.of rp))
def vM{ps:List PV}(c:Str):oB ps≠.exc c:=by
 unfold oB
 (repeat' first|split|refine qu λ_=>?_|exact Res.bp c|exact(λz=>nomatch z))
def v9{ps:List PV}(c:Str):uW ps≠.exc c:=by
 unfold uW
 (repeat' first|split|refine qu λ_=>?_|exact Res.bp c|exact(λz=>nomatch z))
def xT{ps:List PV}(c:Str):so ps≠.exc c:=by
 unfold so
 (repeat' first|split|refine qu λ_=>?_|exact Res.bp c|exact(λz=>nomatch z))
def qK{ps:List PV}(c:Str):iE ps≠.exc c:=by
 unfold iE
 (repeat' first|split|refine qu λ_=>?_|exact Res.bp c|exact(λz=>nomatch z))
def nu{ps:List PV}(c:Str):fI ps≠.exc c:=by
 unfold fI
 (repeat' first|split|refine qu λ_=>?_|exact Res.bp c|exact(λz=>nomatch z))
def qQ{ps:List PV}(c:Str):ik ps≠.exc c:=by
 unfold ik
 (repeat' first|split|refine qu λ_=>?_|exact Res.bp c|exact(λz=>nomatch z))
def qO{b:B}{ps:List PV}(c:Str):gJ b ps≠.exc c:=match b with
 |.len=>vM c|.int=>v9 c|.str=>xT c|.tuple=>qK c
def rg{m:M}{ps:List PV}(c:Str):uI m ps≠.exc c:=match m with
 |.fv=>nu c|.index=>qQ c
def AX(C:cb Γ F W N sc k X)(hq:Γ.qt=false)(b:B){e:Expr}{es:List Expr}{t:TA}{np pos:Pos}(hg:ff sc (bN b)=true)(hm:Γ.bs.contains (bN b)=true)(ha:PA X (e::es) t)
 (he:starEach (e::es) X.env=(false,eval e X.env)::starEach es X.env) (hpl:(backTo pos (starEach es X.env)).any (·.1)=false):PE X (.Call (.Name (bN b) np) (e::es) [] pos) (EY (Bh W (gJ b)) t):=by
 have uF:=C.bs _ (zzn.mp hm)
 have vg:=cJ C hg
 cases b
 case len=>exact fM (qF C.K) vg uF PySem.boot_len ha (he:=he) (hpl:=hpl)
 case int=>exact gA rq vg uF (by decide+kernel) ha (he:=he) (hpl:=hpl)
 case str=>exact gA qV vg uF (by decide+kernel) ha (he:=he) (hpl:=hpl)
 case tuple=>exact gA (mf C.K) vg uF (by decide+kernel) ha (he:=he) (hpl:=hpl)
def AV{op:List PV->Res PV}{es:Es}{e:E}{σ:St}{H:Hp}{Q:VK}(hn:∀ps c,op ps≠.exc c)(he:∀env,ax F e env=(bj F es env).bind λps=>op ps)(h:tE X W F e σ H Q):EY (Bh W op) (tA X W F es) σ H Q:=by
 obtain⟨H0,G,env,sr,o⟩:=h
 rw [he] at o;refine args sr o λps vs G1 H1 g1 t bb o1=>?_
 obtain⟨r,hr,kr⟩:=o1.val (hn ps)
 exact⟨H0,G1,ps,r,bb.sub,t.top,hr,λw G' H' g' jd=>kr w G' H' (g1.trans g') (.of jd)⟩
def By(C:cb Γ F W N sc k X)(hq:Γ.qt=false)(b:B){es:Es}{e:Expr}{ps:List Expr}{np pos:Pos}(hg:ff sc (bN b)=true)(hm:Γ.bs.contains (bN b)=true)(ha:GA X W F es (e::ps))
 (he:starEach (e::ps) X.env=(false,eval e X.env)::starEach ps X.env) (hpl:(backTo pos (starEach ps X.env)).any (·.1)=false):GE X W F (.blt b es) (.Call (.Name (bN b) np) (e::ps) [] pos):=
 (AX C hq b hg hm ha he hpl).imp λσ H Q h=>AV (λps c=>qO c) (λenv=>by rw [ax]) h
def tR{t:Ty}{p:PV}(c:Str):i6 t p≠.exc c:=by
 cases p<;>exact λz=>nomatch z
def zE(C:cb Γ F W N sc k X)(t:Ty){pos:Pos}(hg:ff sc (Str.ofString (nZ t))=true)(hm:Γ.bs.contains (Str.ofString (nZ t))=true):PE X (.Name (Str.ofString (nZ t)) pos) (tC (.ty (nZ t))):=by
 have uF:=C.bs _ (zzn.mp hm)
 have vg:=cJ C hg
 cases t
 all_goals exact pz vg uF (u:=.type _) (by decide+kernel) rfl (by decide+kernel) (by decide+kernel)
def Ex(C:cb Γ F W N sc k X){t:Ty}{a:E}{pa:Expr}{np tp pos:Pos}(hi:ff sc "isinstance"=true)(hb:Γ.bs.contains "isinstance"=true)(hg:ff sc (Str.ofString (nZ t))=true)(hm:Γ.bs.contains (Str.ofString (nZ t))=true)(ha:GE X W F a pa)
 (dj:∀env ps,starEach (pa::ps) env=(false,eval pa env)::starEach ps env):GE X W F (.ty t a) (.Call (.Name "isinstance" np) [pa,.Name (Str.ofString (nZ t)) tp] [] pos):=by
 refine(fM (u9 C.K t) (cJ C hi) (C.bs _ (zzn.mp hb)) (by decide+kernel) (bu ha (bu (zE C t hg hm) cQ) (dj _ _)) (he:=dj _ _)).imp λσ H Q h=>?_
 obtain⟨H0,G,env,sr,o⟩:=h
 rw [ax] at o;refine one sr o λp v G1 H1 g1 t1 bb o1=>?_
 obtain⟨r,hr,kr⟩:=o1.val (λc=>tR c)
 exact⟨v,H0,G1,p,r,rfl,bb.sub,t1.top,hr,λw G' H' g' jd=>kr w G' H' (g1.trans g') (.of jd)⟩
def zq(C:cb Γ F W N sc k X){c:Str}{a:E}{pa:Expr}{np tp pos:Pos}(hi:ff sc "isinstance"=true)(hb:Γ.bs.contains "isinstance"=true)(hg:ff sc c=true)(aO:okN c=true)(hm:(Γ.cs.contains c||(c=="ValueError"&&Γ.bs.contains c))=true)(ha:GE X W F a pa)
 (dj:∀env ps,starEach (pa::ps) env=(false,eval pa env)::starEach ps env) (uY:Γ.cs.contains "ValueError"=false):GE X W F (.pS c a) (.Call (.Name "isinstance" np) [pa,.Name c tp] [] pos):=by
 have key:∀{p:PV} {H0 G H:Hp} {v:V} {σ:St} {kk:PV->Prop} {env:Sl},Top W H0 G H p v->av G H->Out X W (match p with|.exc d=>Res.ok (PV.bl (if c=="ValueError" then true else(c==d||c=="FloorError")))|_=>.bad) σ G H kk->∃a d D,p=.exc d/\v=.ref a/\d∈W.xs/\X.mg d=some (.ref D)/\H a=some (eL a D):=λ{p H0 G H v σ kk env} t sg o=>by
  cases p with
  |exc d=>
   rcases t with t|t
   ·simp! [Rep] at t;obtain⟨a,D,rfl,hx,hm,ha⟩:=t
    exact⟨a,d,D,rfl,rfl,hx,by rw [<-C.mg];exact hm,sg _ _ ha⟩
   ·exact t.elim
  |int _=>exact zzk o
  |bl _=>exact zzk o
  |bO=>exact zzk o
  |str _=>exact zzk o
  |tup _=>exact zzk o
  |lst _=>exact zzk o
  |d8 _ _=>exact zzk o
 by_cases hv:(c==("ValueError":Str))=true
 ·have ec:c="ValueError":=zzy.mp hv
  have GQ:Γ.bs.contains c=true:=by
   rw [zzt,zza] at hm;rcases hm with h|h
   ·rw [ec,uY] at h;cases h
   ·exact h.2
  subst ec;refine(fM qJ (cJ C hi) (C.bs _ (zzn.mp hb)) (by decide+kernel) (bu ha (bu (gQ (cJ C hg) (C.bs _ (zzn.mp GQ))) cQ) (dj _ _)) (he:=dj _ _)).imp λσ H Q h=>?_
  obtain⟨H0,G,env,sr,o⟩:=h
  rw [ax] at o;refine one sr o λp v G1 H1 g1 t1 bb o1=>?_
  obtain⟨a1,d,D,rfl,rfl,hx,hmd,hH⟩:=key (env:=env) t1.top bb.sub o1
  obtain⟨xc,_,hk⟩:=C.xc d hx D hmd
  exact⟨a1,D,"ValueError",true,rfl,hH,xc,hk,o1 _ G1 H1 g1 (.of .b)⟩
 ·have DN:Γ.cs.contains c=true:=by
   rw [zzt,zza] at hm;rcases hm with h|h
   ·exact h
   ·exact absurd h.1 hv
  obtain⟨Cc,hCc⟩:=C.cls c (zzn.mp DN)
  refine(fM qL (cJ C hi) (C.bs _ (zzn.mp hb)) (by decide+kernel) (bu ha (bu (uq (cJ C hg) hCc (cI aO).1) cQ) (dj _ _)) (he:=dj _ _)).imp λσ H Q h=>?_
  obtain⟨H0,G,env,sr,o⟩:=h
  rw [ax] at o;refine one sr o λp v G1 H1 g1 t1 bb o1=>?_
  obtain⟨a1,d,D,rfl,rfl,hx,hmd,hH⟩:=key (env:=env) t1.top bb.sub o1
  obtain⟨xc,hk,_⟩:=C.xc d hx D hmd
  have o2:Out X W (Res.ok (PV.bl (if c=="ValueError" then true else(c==d||c=="FloorError")))) σ G1 H1 _:=o1
  rw [if_neg hv] at o2;exact⟨a1,D,Cc,_,rfl,hH,xc,hk c (zzn.mp DN) Cc hCc,o2 _ G1 H1 g1 (.of .b)⟩
noncomputable def mT:M->String
 |.fv=>"list"|.index=>"list"
def GJ(C:cb Γ F W N sc k X){m:M}{p:PV}{v:V}{H0 G H:Hp}(sg:av G H)(h:sM m p=true)(t:Top W H0 G H p v):HZ X.K (mT m) v H:=by
 cases m<;>cases p<;>first|(exact aC h)|(cases t.str;rfl)|(obtain⟨a,vs,rfl,h1,_⟩:=t.lst sg;exact .inl ⟨rfl,_,nh C.K h1⟩)
def AI(C:cb Γ F W N sc k X){m:M}{o:E}{es:Es}{po p:Expr}{ps:List Expr}{apos bY:Pos}(ho:GE X W F o po)(ha:GA X W F es (p::ps))(dI:attributeBase po (mN m) X.env (eval po X.env)=eval po X.env)
 (xC:((backTo bY (starEach (p::ps) X.env)).all (λx=>!x.1)&&(backToKw bY (keywordEach [] X.env)).all (λx=>x.1.isSome)&&decide ((p::ps).length+([]:List Keyword).length+(if([]:List Keyword).isEmpty then 0 else 1)<30))=true)
 (gH:(apos.endLine==bY.line)=true) (hs:starEach (p::ps) X.env=(false,eval p X.env)::starEach ps X.env) (gn:(backTo bY (starEach ps X.env)).any (·.1)=false):GE X W F (.BO m o es) (.Call (.Attribute po (mN m) apos) (p::ps) [] bY):=by
 have rd:∀σ H Q,tE X W F (.BO m o es) σ H Q->Jw X.K (mT m) (GU W (uI m)) (tE X W F o) (tA X W F es) σ H Q:=λσ H Q h=>by
  obtain⟨H0,G,env,sr,out⟩:=h
  rw [ax] at out;refine one sr out λp v G1 H1 g1 t1 bb o1=>?_
  by_cases hk:sM m p=true
  ·rw [if_pos hk] at o1;refine⟨GJ C bb.sub hk t1.top,args bb o1 λps vs G2 H2 g2 t2 gX o2=>?_⟩
   obtain⟨r,hr,kr⟩:=o2.val (λc=>rg c)
   exact⟨H0,G2,p::ps,r,gX.sub,.cons (t1.top.grow g2) t2.top,hr,λw G' H' g' jd=>kr w G' H' ((g1.trans g2).trans g') (.of jd)⟩
  ·rw [if_neg hk] at o1;exact o1.elim
 cases m
 case fv=>exact(oZ PySem.F.plainAttrs_list PySem.F.slot_list_count PySem.F.type_list_count (oD C.K C.room.units) ho ha dI xC gH hs gn).imp rd
 case index=>exact(oZ PySem.F.plainAttrs_list PySem.F.slot_list_index PySem.F.type_list_index (rC C.K C.room.units) ho ha dI xC gH hs gn).imp rd
def SR.set{H0 G H:Hp}{env:Sl}{σ:St}{p:PV}{v:V}(i:Nat)(r:SR W H0 env σ G H)(h:Rep W G p v):SR W H0 (env.set i (.val p)) (σ.set i (some v)) G H where
 len:=by simpa using r.len
 sub:=r.sub
 tab:=r.tab
 iU:=r.iU
 base:=r.base
 slot:=λj s e=>by
  by_cases hj:i=j
  ·subst hj;have cD:i<env.length:=by
    have:=(zzH.mp e).1
    simpa using this
   rw [zzo cD] at e;cases e;exact⟨some v,zzo (by rw [<-r.len];exact cD),v,rfl,h⟩
  ·rw [zzS hj] at e;obtain⟨o,h1,h2⟩:=r.slot j s e
   exact⟨o,by rw [zzS hj];exact h1,h2⟩
 apart:=λa b q q' ad e1 e2 e3 e4=>by
  have ne:∀{c:Nat} {q:PV},(env.set i (.val p))[c]?=some (.own q)->i≠c:=λ{c q} e z=>by
   subst z;have cD:i<env.length:=by
    have:=(zzH.mp e).1
    simpa using this
   rw [zzo cD] at e;cases e
  have n1:=ne e1
  have n2:=ne e2
  rw [zzS n1] at e1 e3;rw [zzS n2] at e2 e4;exact r.apart a b q q' ad e1 e2 e3 e4
noncomputable def gT(K:zz8):Tg->TG
 |.one i=>eJ i
 |.two i j=>Dd K 2 (qe (eJ i) (qe (eJ j) An))
def lN{K:zz8}(hK:W.K=K){tg:Tg}{H0 G H:Hp}{env ay:Sl}{σ:St}{p:PV}{v:V}{Q:St->Hp->Prop}(e:Tg.put tg p env=.ok ay)(r:SR W H0 env σ G H)(h:Rep W G p v)(hq:∀σ',SR W H0 ay σ' G H->Q σ' H):gT K tg v σ H Q:=by
 unfold Tg.put at e;split at e
 ·cases e;exact hq _ (r.set _ h)
 ·cases e;simp! [Rep] at h;obtain⟨a,vs,rfl,sq,l⟩:=h
  obtain⟨v1,r1,rfl,h1,l⟩:=l.cx
  obtain⟨v2,r2,rfl,h2,l⟩:=l.cx
  simp! [ai] at l;subst l;rw [hK] at sq;exact⟨a,_,rfl,av.tup r.sub sq.sq,rfl,_,_,rfl,_,_,rfl,rfl,hq _ ((r.set _ h1).set _ h2)⟩
 ·cases e
def nA{x:Str}(cZ:X.env.scope=sc)(h:fq sc x=true):Loc X.env.scope x:=by
 rw [cZ];unfold fq at h;simp! [zzt,zzy] at h;exact h
def ym{fn:Str->Bool}{i:Nat}{p:Expr}(hN:X.N=N)(nd:N.Nodup)(cZ:X.env.scope=sc)(iM:∀x,fn x=true->X.fn x=true)(h:HC N sc fn i p=true):PG X p (eJ i)/\∃x q,p=.Name x q:=by
 obtain⟨x,hx,h2⟩:=ah h
 obtain⟨q,rfl⟩:=bW hx
 simp! [zza,zzy,zzt] at h2;refine⟨vX (by rw [hN];exact nd) (by rw [hN];exact h2.1.1) (nA cZ h2.1.2) ?_,x,q,rfl⟩;rcases h2.2 with z|z
 ·exact .inl (iM x z)
 ·exact .inr (by rw [cZ];exact z)
noncomputable def J9:List Nat->yC
 |[]=>An
 |i::is=>qe (eJ i) (J9 is)
theorem um{fn:Str->Bool}(hN:X.N=N)(nd:N.Nodup)(cZ:X.env.scope=sc)(iM:∀x,fn x=true->X.fn x=true):∀(is:List Nat) (es:List Expr),BL N sc fn is es=true->Dw X es (J9 is)/\(assignEach es X.env).length=is.length/\(assignEach es X.env).findIdx? (·.1)=none
 |[],[],_=>⟨vK,rfl,rfl⟩
 |i::is,a::as,h=>by
  have h:=ak h
  obtain⟨g1,x,p,rfl⟩:=ym hN nd cZ iM h.1
  obtain⟨g,l,f⟩:=um hN nd cZ iM is as h.2
  have e:assignEach (.Name x p::as) X.env=(false,assign (.Name x p) X.env)::assignEach as X.env:=rfl
  refine⟨vy g1 g,by rw [e,zzL,l,zzL],?_⟩;rw [e,List.findIdx?_cons,f]
  rfl
 |[],_::_,h=>aC h
 |_::_,[],h=>aC h
def q9{fn:Str->Bool}{tg:Tg}{p:Expr}(hN:X.N=N)(nd:N.Nodup)(cZ:X.env.scope=sc)(hc:X.calm=true)(iM:∀x,fn x=true->X.fn x=true)(h:d5 N sc fn tg p=true):PG X p (gT X.K tg):=by
 cases tg with
 |one i=>exact(ym hN nd cZ iM h).1
 |two i j=>
  obtain⟨es,h1,h2⟩:=ah h
  obtain⟨k,q,rfl⟩:=oW h1
  obtain⟨g,l,f⟩:=um hN nd cZ iM _ _ h2
  exact BN hc g l f
def jh(W:Wd)(J:It)(G B:Hp)(ps:List PV):Prop:=∀(i:Nat) (G' H':Hp),av G G'->er B H'->av G' H'->
 (i=ps.length->J.stop i H')/\∀p,ps[i]?=some p->J.go i H'/\∀x je,J.B1 i H' x je->∃qk,aw W G' H' qk je/\Rep W qk p x
structure Bw(W:Wd)(G H:Hp)(it:I)(J:It)(ps:List PV):Prop where
 any:jh W J G H ps
 bI:wG it=true->jh W J G G ps
noncomputable def tI(X:Cx)(W:Wd)(F:bz)(it:I):TI:=λσ H R=>∃H0 G env,SR W H0 env σ G H/\Out X W (lW F it env) σ G H λps=>∀J G' H',aw W G H G' H'->Bw W G' H' it J ps->R J H'
abbrev GI(X:Cx)(W:Wd)(F:bz)(tg:Expr)(it:I)(p:Expr):Prop:=PI X tg p (tI X W F it)
theorem pM(hK:W.K=X.K){G B:Hp}{a:Addr}{vs:List V}{ps:List PV}(h:j8 W.K B a vs)(l:ai W G ps vs):jh W (FJ X.K a) G B ps:=λi G' H' sG sB sub=>by
 have hq:gL X.K H' a vs:=nh hK (er.ls sB h)
 refine⟨λhi=>⟨vs,hq,by rw [l.length];omega⟩,λp hp=>?_⟩
 obtain⟨v,hv,rv⟩:=l.lF hp
 refine⟨⟨vs,v,hq,hv⟩,λx je hy=>?_⟩
 obtain⟨rfl,hy⟩:=hy
 have:=hy vs hq
 rw [hv] at this;cases this;exact⟨G',.refl sub,Rep.same sG p rv⟩
theorem vj{K:zz8}{G B:Hp}{a:Addr}{vs:List V}{ps:List PV}(h:eg K B a vs)(l:ai W G ps vs):jh W (F2 K a) G B ps:=λi G' H' sG sB sub=>by
 have hq:eg K H' a vs:=er.tup sB h
 refine⟨λhi=>⟨vs,hq,by rw [l.length];omega⟩,λp hp=>?_⟩
 obtain⟨v,hv,rv⟩:=l.lF hp
 refine⟨⟨vs,v,hq,hv⟩,λx je hy=>?_⟩
 obtain⟨rfl,hy⟩:=hy
 have:=hy vs hq
 rw [hv] at this;cases this;exact⟨G',.refl sub,Rep.same sG p rv⟩
def uH{G B:Hp}{a:Addr}{o:Obj}{ks:List (List Int)}{us:List V}(n:ks.length=us.length)(h:B a=some (.bI o (.dT (kz ks us)))):jh W (HY a o (kz ks us)) G B (ks.map ub):=λi G' H' sG sB sub=>by
 have hq:H' a=some (.bI o (.dT (kz ks us))):=sB.at h (λ_ z=>nomatch z)
 refine⟨λhi=>⟨hq,by rw [nN n];rw [zzl] at hi;omega⟩,λp hp=>?_⟩
 rw [zzQ] at hp;obtain⟨k,hk,rfl⟩:=zzJ.mp hp
 have hi:i<ks.length:=(zzH.mp hk).1
 refine⟨⟨hq,by rw [nN n];exact hi⟩,λx je hy=>?_⟩
 obtain⟨rfl,b,k',v,rfl,e2,e3⟩:=hy
 have ek:k'=ki k:=by
  have:=congrArg (λl=>l[i]?) (wa (us:=us) n)
  simp! [zzQ,e2,hk,Option.map_some] at this;exact zzq this
 rw [ek,EJ] at e3;obtain⟨G2,g2,l2⟩:=kb (W:=W) (vs:=[.ref b]) (nss:=[k]) sub (.cons ⟨b,rfl,e3⟩ .nil)
 obtain⟨w,r,ew,hw,_⟩:=l2.cx
 cases ew;exact⟨G2,g2,hw⟩
def qz{z:Str}{i:Nat}{p:PV}(h:(chars z)[i]?=some p):∃c,z.cps[i]?=some c/\p=.str ⟨#[c]⟩:=by
 unfold chars at h;rw [zzQ] at h;obtain⟨c,hc,rfl⟩:=zzJ.mp h
 rw [Array.getElem?_toList] at hc;exact⟨c,hc,rfl⟩
def qX(z:Str):(chars z).length=z.cps.size:=by unfold chars;rw [zzl,zzd]
theorem lH{G B:Hp}(lo:Int)(n:Nat):jh W (DR lo n) G B (dO lo n):=λi G' H' sG sB sub=>by
 unfold dO;refine⟨λhi=>by rw [zzl,List.length_range] at hi;exact Nat.le_of_eq hi.symm,λp hp=>?_⟩
 rw [zzQ] at hp;obtain⟨c,hc,rfl⟩:=zzJ.mp hp
 obtain⟨h1,h2⟩:=zzH.mp hc
 rw [List.length_range] at h1;rw [List.getElem_range] at h2;subst h2;refine⟨h1,λx je hy=>?_⟩
 obtain⟨rfl,rfl⟩:=hy
 exact⟨G',.refl sub,.i⟩
def iY{G H:Hp}{p q:PV}{v u:V}{a:Addr}(sub:av G H)(ha:H a=none)(h1:Rep W G p v)(h2:Rep W G q u):∃qk,aw W G H qk (upd H a (.tup [v,u]))/\Rep W qk (.tup [p,q]) (.ref a):=
 ⟨_,.new sub ha,.t (.inl aq) (ai.same (bq (sub.free ha)) _ (.cons h1 (.cons h2 .nil)))⟩
theorem gd:∀{xs:List PV} {n i:Nat} {p:PV},(bQ n xs)[i]?=some p->∃x,xs[i]?=some x/\p=.tup [.int ((n+i:Nat):Int),x]
 |[],_,_,_,h=>by simp [bQ] at h
 |x::xs,n,0,p,h=>by simp [bQ] at h;exact⟨x,rfl,by rw [<-h];simp⟩
 |x::xs,n,i+1,p,h=>by
  simp! [bQ,List.getElem?_cons_succ] at h;obtain⟨y,h1,h2⟩:=gd h
  exact⟨y,by simpa using h1,by rw [h2,show n+1+i=n+(i+1) by omega]⟩
theorem cF:∀(xs:List PV) (n:Nat),(bQ n xs).length=xs.length
 |[],_=>rfl
 |_::xs,n=>by simp! [bQ,zzL,cF xs]
theorem mD{K:zz8}{G B:Hp}{a:Addr}{vs:List V}{ps:List PV}(h:eg K B a vs)(l:ai W G ps vs):jh W (Ic K a vs) G B (bQ 0 ps):=λi G' H' sG sB sub=>by
 have hq:eg K H' a vs:=er.tup sB h
 refine⟨λhi=>⟨hq,by rw [cF] at hi;rw [l.length];exact hi⟩,λp hp=>?_⟩
 obtain⟨x,hx,rfl⟩:=gd hp
 obtain⟨v,hv,rv⟩:=l.lF hx
 refine⟨⟨hq,(zzH.mp hv).1⟩,λy je hy=>?_⟩
 obtain⟨b,x',rfl,hb,rfl,wM⟩:=hy
 rw [hv] at wM;cases wM;rw [Nat.zero_add];exact iY sub hb .i (Rep.same sG x rv)
theorem ir(hK:W.K=X.K){G B:Hp}{a:Addr}{vs:List V}{ps:List PV}(h:j8 W.K B a vs)(l:ai W G ps vs):jh W (Bs X.K a vs) G B (bQ 0 ps):=λi G' H' sG sB sub=>by
 have hq:gL X.K H' a vs:=nh hK (er.ls sB h)
 refine⟨λhi=>⟨hq,by rw [cF] at hi;rw [l.length];exact hi⟩,λp hp=>?_⟩
 obtain⟨x,hx,rfl⟩:=gd hp
 obtain⟨v,hv,rv⟩:=l.lF hx
 refine⟨⟨hq,(zzH.mp hv).1⟩,λy je hy=>?_⟩
 obtain⟨b,x',rfl,hb,rfl,wM⟩:=hy
 rw [hv] at wM;cases wM;rw [Nat.zero_add];exact iY sub hb .i (Rep.same sG x rv)
theorem ma{G B:Hp}(z:Str):jh W (EZ z) G B (bQ 0 (chars z)):=λi G' H' sG sB sub=>by
 refine⟨λhi=>by rw [cF,qX] at hi;exact hi,λp hp=>?_⟩
 obtain⟨x,hx,rfl⟩:=gd hp
 obtain⟨c,hc,rfl⟩:=qz hx
 refine⟨(Array.getElem?_eq_some_iff.mp hc).1,λy je hy=>?_⟩
 obtain⟨b,c',rfl,hb,rfl,fG⟩:=hy
 rw [hc] at fG;cases fG;rw [Nat.zero_add];exact iY sub hb .i .s
def FX(W:Wd)(G:Hp)(t:Zt)(xs:List PV):Prop:=(if t.1=true then j8 W.K G t.2.1 t.2.2 else yP W.K G t.2.1 t.2.2)/\ai W G xs t.2.2
theorem uC{G:Hp}:∀{ps:List PV} {vs:List V} {xss:List (List PV)},ai W G ps vs->j2 ps=some xss->∃ts:List Zt,vs=ts.map (λt=>V.ref t.2.1)/\Paired (FX W G) ts xss
 |[],vs,xss,l,h=>by
  simp! [ai] at l;subst l;cases h;exact⟨[],rfl,.nil⟩
 |p::ps,vs,xss,l,h=>by
  obtain⟨v,r,rfl,h1,h2⟩:=l.cx
  obtain⟨xs,e1,h⟩:=zzZ.1 (show(C0 p).bind (λxs=>(j2 ps).map (xs::·))=some xss from h)
  obtain⟨yss,e2,rfl⟩:=zzJ.1 h
  obtain⟨ts,rfl,pd⟩:=uC h2 e2
  cases p with
  |lst ys=>
   cases e1;simp! [Rep] at h1;obtain⟨a,us,rfl,k,m⟩:=h1
   exact⟨(true,a,us)::ts,rfl,.cons ⟨k,m⟩ pd⟩
  |tup ys=>
   cases e1;simp! [Rep] at h1;obtain⟨a,us,rfl,k,m⟩:=h1
   exact⟨(false,a,us)::ts,rfl,.cons ⟨k,m⟩ pd⟩
  |_=>cases e1
theorem pV:∀{xss:List (List PV)},∀xs∈xss,jk xss<=xs.length
 |[xs],ys,h=>by rw [zzi.1 h];exact zzE _
 |xs::y::r,ys,h=>by
  show min xs.length (jk (y::r))<=_
  rcases zzm.1 h with rfl|h
  ·exact Nat.min_le_left ..
  ·exact zzU (Nat.min_le_right ..) (pV ys h)
theorem oX:∀{xss:List (List PV)},xss≠[]->∃xs∈xss,xs.length=jk xss
 |[xs],_=>⟨xs,zzi.2 rfl,rfl⟩
 |xs::y::r,_=>by
  show∃zs∈xs::y::r,zs.length=min xs.length (jk (y::r))
  rcases Nat.le_total xs.length (jk (y::r)) with h|h
  ·exact⟨xs,zzP ..,(Nat.min_eq_left h).symm⟩
  ·obtain⟨zs,h1,h2⟩:=oX (xss:=y::r) (List.cons_ne_nil _ _)
   exact⟨zs,zzI _ h1,by rw [h2,Nat.min_eq_right h]⟩
theorem qa{G:Hp}{i:Nat}:∀{ts:List Zt} {xss:List (List PV)} {ys:List V},Paired (FX W G) ts xss->Paired (λ(q:Zt) y=>q.2.2[i]?=some y) ts ys->ai W G (xss.map λxs=>xs.getD i .bO) ys
 |_,_,_,.nil,.nil=>.nil
 |_,_,_,.cons r t,.cons u v=>by
  obtain⟨p,hp,rp⟩:=r.2.get u
  refine .cons ?_ (qa t v);dsimp only;rw [zzK,hp];exact rp
def uh(hK:W.K=X.K){G B:Hp}{ts:List Zt}{xss:List (List PV)}(hn:ts≠[])(h:Paired (FX W G) ts xss)(hB:av G B):jh W (Gy X.K ts) G B (rQ xss):=λi G' H' sG sB sub=>by
 have sq:∀t∈ts,Zq X.K H' t:=λt ht=>by
  obtain⟨xs,_,r⟩:=dG h t ht
  have:=r.1
  unfold Zq;split
  ·rename_i e;rw [if_pos e] at this;exact nh hK (av.ls (λa o z=>sub a o (sG a o z)) this)
  ·rename_i e;rw [if_neg e] at this;exact hK▸av.tup (λa o z=>sub a o (sG a o z)) this.sq
 have len:∀t∈ts,jk xss<=t.2.2.length:=λt ht=>by
  obtain⟨xs,h1,r⟩:=dG h t ht
  rw [r.2.length];exact pV xs h1
 have zl:(rQ xss).length=jk xss:=by simp [rQ]
 refine⟨λhi=>?_,λp hp=>?_⟩
 ·rw [zl] at hi;subst hi;refine⟨λt ht=>⟨sq t ht,len t ht⟩,?_⟩
  have hx:xss≠[]:=λz=>by subst z;cases h;exact hn rfl
  obtain⟨xs,h1,h2⟩:=oX hx
  obtain⟨t,ht,r⟩:=bP h xs h1
  exact⟨t,ht,by rw [r.2.length,h2]⟩
 ·have hi:i<jk xss:=by rw [<-zl];exact(zzH.1 hp).1
  have B2:p=.tup (xss.map λxs=>xs.getD i .bO):=by
   unfold rQ at hp;rw [zzQ,List.getElem?_range hi] at hp;exact(zzq hp).symm
  refine⟨λt ht=>⟨sq t ht,zzW hi (len t ht)⟩,λx je hy=>?_⟩
  obtain⟨a,ys,rfl,ha,rfl,py⟩:=hy
  subst B2;refine⟨_,.new sub ha,.t (.inl aq) (ai.same (bq (sub.free ha)) _ (ai.same sG _ (qa h py)))⟩
def dR{e:E}{σ:St}{H0 G H:Hp}{env:Sl}{Q:VK}{p:PV}(sr:SR W H0 env σ G H)(e1:ax F e env=.ok p)(h:∀v G1 H1,aw W G H G1 H1->Got W H0 G1 H1 e p v->Q v H1):tE X W F e σ H Q:=⟨H0,G,env,sr,by rw [e1];exact h⟩
def ug{e:E}{σ:St}{H0 G H:Hp}{env:Sl}{Q:VK}{c:Str}(sr:SR W H0 env σ G H)(e1:ax F e env=.exc c)(h:mI X W σ c G H):tE X W F e σ H Q:=⟨H0,G,env,sr,by rw [e1];exact h⟩
def zj(C:cb Γ F W N sc k X){tg p:Expr}{e:E}(he:GE X W F e p):GI X W F tg (.seq e) p:=by
 intro aa s σ H R I h;obtain⟨H0,G,env,sr,o⟩:=h
 rw [lW] at o;cases r:ax F e env with
 |bad=>rw [r] at o;exact o.elim
 |exc c=>rw [r] at o;exact pQ he aa s σ H R I (ug sr r o)
 |ok q=>
  rw [r] at o;cases q with
  |lst xs=>
   refine pQ he aa s σ H R I (dR sr r λv G1 H1 g1 t=>?_);have t':=t
   obtain⟨a,vs,rfl,h1,l1⟩:=t.top.lst g1.sub
   refine⟨a,rfl,⟨vs,nh C.K h1⟩,o _ G1 H1 g1 ⟨pM C.K h1 l1,λz=>?_⟩⟩
   have rp:=t'.rep z
   simp! [Rep] at rp;obtain⟨a',vs',e1,h2,l2⟩:=rp
   cases e1;exact pM C.K h2 l2
  |tup xs=>
   refine Bi he aa s σ H R I (dR sr r λv G1 H1 g1 t=>?_);have t':=t
   obtain⟨a,vs,rfl,h1,l1⟩:=t.top.tup g1.sub
   rw [C.K] at h1;refine⟨a,rfl,⟨vs,h1⟩,o _ G1 H1 g1 ⟨vj h1 l1,λz=>?_⟩⟩
   have rp:=t'.rep z
   simp! [Rep] at rp;obtain⟨a',vs',e1,h2,l2⟩:=rp
   cases e1;rw [C.K] at h2;exact vj h2.sq l2
  |str z=>exact zzk o
  |int _=>exact zzk o
  |bl _=>exact zzk o
  |bO=>exact zzk o
  |exc _=>exact zzk o
  |d8 ks qs=>
   by_cases yL:eo e=true
   ·have KL:sL e (.d8 ks qs)=.ok (ks.map ub):=by
     cases e<;>first|rfl|exact aC yL
    have o2:Out X W (sL e (.d8 ks qs)) σ G H λps=>∀(J:It) (G' H':Hp),aw W G H G' H'->Bw W G' H' (Ci.I.seq e) J ps->R J H':=o
    rw [KL] at o2;refine yV he aa s σ H R I (dR sr r λv G1 H1 g1 t=>?_);have rp:=t.rep yL
    simp! [Rep] at rp;obtain⟨a,ob,us,rfl,n,h1,l1⟩:=rp
    exact⟨a,ob,_,rfl,g1.sub _ _ h1,o2 _ G1 H1 g1 ⟨uH n (g1.sub _ _ h1),λ_=>uH n h1⟩⟩
   ·have:∃i,e=.oY i:=by
     cases e<;>first|exact⟨_,rfl⟩|exact absurd rfl yL
    obtain⟨i,rfl⟩:=this
    exact zzk o
def cy{i:Int}(h:aY i=true): -(2^62)<=i/\i<2^62:=by
 unfold aY at h
 simpa using h
def Ak(C:cb Γ F W N sc k X){tg p:Expr}{e:E}{np pos:Pos}(hg:ff sc "range"=true)(hb:Γ.bs.contains "range"=true)(dj:∀env ps,starEach (p::ps) env=(false,eval p env)::starEach ps env)(he:GE X W F e p):GI X W F tg (.nj e) (.Call (.Name "range" np) [p] [] pos):=by
 intro aa s σ H R I h;refine qy (cJ C hg) (C.bs _ (zzn.mp hb)) (bu he cQ (dj _ _)) (dj _ _) aa s σ H R I ?_;obtain⟨H0,G,env,sr,o⟩:=h
 rw [lW] at o;refine one sr o λq v G1 H1 g1 t bb o1=>?_
 cases q with
 |int j=>
  by_cases hj:aY j=true
  ·have o2:Out X W (if aY j=true then Res.ok (dO 0 j.toNat) else .bad) σ G1 H1 _:=o1
   rw [if_pos hj] at o2;exact⟨j,by rw [t.top.int],(cy hj).1,(cy hj).2,o2 _ G1 H1 g1 ⟨lH _ _,λ_=>lH _ _⟩⟩
  ·have o2:Out X W (if aY j=true then Res.ok (dO 0 j.toNat) else .bad) σ G1 H1 _:=o1
   rw [if_neg hj] at o2;exact o2.elim
 |bl _=>exact zzk o1
 |bO=>exact zzk o1
 |str _=>exact zzk o1
 |tup _=>exact zzk o1
 |lst _=>exact zzk o1
 |exc _=>exact zzk o1
 |d8 _ _=>exact zzk o1
def wX(C:cb Γ F W N sc k X){tg p q:Expr}{a b:E}{np pos:Pos}(hg:ff sc "range"=true)(hb:Γ.bs.contains "range"=true)(dj:∀env ps,starEach (p::ps) env=(false,eval p env)::starEach ps env)(BI:∀env ps,starEach (q::ps) env=(false,eval q env)::starEach ps env)
 (ha:GE X W F a p) (g6:GE X W F b q):GI X W F tg (.qx a b) (.Call (.Name "range" np) [p,q] [] pos):=by
 intro aa s σ H R I h;refine rO (cJ C hg) (C.bs _ (zzn.mp hb)) (bu ha (bu g6 cQ (BI _ _)) (dj _ _)) (by rw [dj,BI];rfl) (BI _ _) aa s σ H R I ?_;obtain⟨H0,G,env,sr,o⟩:=h
 rw [lW] at o;refine one sr o λx v G1 H1 g1 t bb o1=>one bb o1 λy u G2 H2 g2 t2 gX o2=>?_
 cases x<;>cases y<;>first
  |(exact zzk o2)
  | (rename_i i j
     by_cases hj:(aY i&&aY j)=true
     ·have o3:Out X W (if(aY i&&aY j)=true then Res.ok (dO i (j-i).toNat) else .bad) σ G2 H2 _:=o2
      rw [if_pos hj] at o3;rw [zza] at hj;exact⟨i,j,by rw [t.top.int,t2.top.int],⟨(cy hj.1).1,(cy hj.1).2,(cy hj.2).1,(cy hj.2).2⟩,o3 _ G2 H2 (g1.trans g2) ⟨lH _ _,λ_=>lH _ _⟩⟩
     ·have o3:Out X W (if(aY i&&aY j)=true then Res.ok (dO i (j-i).toNat) else .bad) σ G2 H2 _:=o2
      rw [if_neg hj] at o3;exact o3.elim)
def xf(C:cb Γ F W N sc k X){elts:List Expr}{x1:Nat}{gN:Pos}{p:Expr}{e:E}{np pos:Pos}(hg:ff sc "enumerate"=true)(hb:Γ.bs.contains "enumerate"=true)(dj:∀env ps,starEach (p::ps) env=(false,eval p env)::starEach ps env)(he:GE X W F e p):
 GI X W F (.Tuple elts x1 gN) (.enum e) (.Call (.Name "enumerate" np) [p] [] pos):=by
 intro aa s σ H R I h;have vg:=cJ C hg
 have uF:=C.bs _ (zzn.mp hb)
 have pa:=bu he cQ (dj _ _)
 obtain⟨H0,G,env,sr,o⟩:=h
 rw [lW] at o;cases r:ax F e env with
 |bad=>rw [r] at o;exact o.elim
 |exc c=>rw [r] at o;exact m9 vg uF pa (dj _ _) aa s σ H R I (ug sr r o)
 |ok q=>
  rw [r] at o;cases q with
  |lst xs=>
   refine m9 vg uF pa (dj _ _) aa s σ H R I (dR sr r λv G1 H1 g1 t=>?_)
   by_cases hz:eo e=true
   ·have rp:=t.rep hz
    simp! [Rep] at rp;obtain⟨a,vs,rfl,h2,l2⟩:=rp
    exact⟨a,vs,rfl,nh C.K (av.ls g1.sub h2),o _ G1 H1 g1 ⟨ir C.K (av.ls g1.sub h2) l2,λ_=>ir C.K h2 l2⟩⟩
   ·obtain⟨a,vs,rfl,h1,l1⟩:=t.top.lst g1.sub
    exact⟨a,vs,rfl,nh C.K h1,o _ G1 H1 g1 ⟨ir C.K h1 l1,λz=>absurd z hz⟩⟩
  |tup xs=>
   refine uR vg uF pa (dj _ _) aa s σ H R I (dR sr r λv G1 H1 g1 t=>?_);have t':=t.top
   rcases t' with rp|z
   ·simp! [Rep] at rp;obtain⟨a,vs,rfl,h2,l2⟩:=rp
    rw [C.K] at h2;exact⟨a,vs,rfl,av.tup g1.sub h2.sq,o _ G1 H1 g1 ⟨mD (av.tup g1.sub h2.sq) l2,λz=>mD h2.sq l2⟩⟩
   ·exact z.elim
  |str z=>exact sJ vg uF pa (dj _ _) aa s σ H R I (dR sr r λv G1 H1 g1 t=>⟨z,by rw [t.top.str],o _ G1 H1 g1 ⟨ma z,λ_=>ma z⟩⟩)
  |int _=>exact zzk o
  |bl _=>exact zzk o
  |bO=>exact zzk o
  |exc _=>exact zzk o
  |d8 _ _=>exact zzk o
def yZ(C:cb Γ F W N sc k X){elts:List Expr}{x1:Nat}{gN:Pos}{p:Expr}{ps:List Expr}{as:Es}{np pos:Pos}(hg:ff sc "zip"=true)(hb:Γ.bs.contains "zip"=true)(rA:dy as=true)(hn:dg as=2\/dg as=3)(ha:GA X W F as (p::ps))
 (dj:starEach (p::ps) X.env=(false,eval p X.env)::starEach ps X.env) (hpl:(backTo pos (starEach ps X.env)).any (·.1)=false):GI X W F (.Tuple elts x1 gN) (.zip as) (.Call (.Name "zip" np) (p::ps) [] pos):=by
 intro aa s σ H R I h;refine xY (cJ C hg) (C.bs _ (zzn.mp hb)) ha dj hpl aa s σ H R I ?_;obtain⟨H0,G,env,sr,o⟩:=h
 rw [lW] at o;refine⟨H0,G,env,sr,?_⟩;cases r:bj F as env with
 |bad=>rw [r] at o;exact o
 |exc c=>rw [r] at o;exact o
 |ok qs=>
  rw [r] at o;have hlen:=eE r
  intro vs G1 H1 g1 t;have l:=t.rep rA
  have o:Out X W ((Res.of (j2 qs)).bind λxss=>.ok (rQ xss)) σ G H λps=>∀J G' H',aw W G H G' H'->Bw W G' H' (.zip as) J ps->R J H':=o
  cases e:j2 qs with
  |none=>rw [e] at o;exact zzk o
  |some xss=>
   rw [e] at o;obtain⟨ts,rfl,pd⟩:=uC l e
   have lt:ts.length=qs.length:=by have:=l.length;rwa [zzl] at this
   have ic:ts≠[]:=λz=>by subst z;simp at lt;omega
   refine⟨ts,rfl,by omega,λq hq=>?_,o _ G1 H1 g1 ⟨uh C.K ic pd g1.sub,λ_=>uh C.K ic pd (av.refl _)⟩⟩
   obtain⟨xs,_,r⟩:=dG pd q hq
   have:=r.1
   unfold Zq;split
   ·rename_i e;rw [if_pos e] at this;exact nh C.K (av.ls g1.sub this)
   ·rename_i e;rw [if_neg e] at this;exact C.K▸av.tup g1.sub this.sq
end
def qG{env:Env}{x:Str}{c:Addr}(h:env.cells.lookup x=some c):cellOf env x=pure c:=by
 unfold cellOf;rw [h]
noncomputable def frees(names:List (Str×NameKind)):List Str:=((names.filter λp=>p.2==.free).map (·.1)).reverse
def ia{scope:Scope}{env:Env}(h:∀y∈scope.names,y.2=.free->∃c,env.cells.lookup y.1=some c):closureFor scope env=pure (bw env (freeOf scope)):=by
 simp! [closureFor];have key:∀(names:List (Str×NameKind)) (acc:List (Str×Addr)),(∀y∈names,y.2=.free->∃c,env.cells.lookup y.1=some c)->
  (forIn (m:=Sem) names acc λx r=>if(x.2==NameKind.free)=true then do
   let c<-cellOf env x.1
   pure (ForInStep.yield ((x.1,c)::r))
   else pure (ForInStep.yield r))=pure (bw env (frees names)++acc):=by
  intro names
  induction names with
  |nil=>intro acc _;rfl
  |cons p r ih=>
   intro acc hh;obtain⟨n,kd⟩:=p
   rw [List.forIn_cons]
   by_cases hk:(kd==NameKind.free)=true
   ·obtain⟨c,hc⟩:=hh (n,kd) (by simp) (zzy.mp hk)
    simp! [hk,if_true,qG hc,pure_bind];rw [ih ((n,c)::acc) λy hy=>hh y (zzI _ hy)]
    have e:frees ((n,kd)::r)=frees r++[n]:=by
     unfold frees;rw [List.filter_cons,if_pos hk,zzF,List.reverse_cons]
    rw [e];unfold bw;rw [List.map_append,zzF,List.map_nil,List.append_assoc];show _=pure (_++([(n,(env.cells.lookup n).getD 0)]++acc))
    rw [show env.cells.lookup n=some c from hc]
    rfl
   ·simp! [hk,zze,if_false,pure_bind];rw [ih acc λy hy=>hh y (zzI _ hy)]
    have e:frees ((n,kd)::r)=frees r:=by
     unfold frees;rw [List.filter_cons,if_neg hk]
    rw [e]
 have:=key scope.names [] h
 rw [zz6] at this;simp! [bind_pure_comp,map_pure,id_map',bind_pure];exact this
section
variable{X:Cx}{W:Wd}{N:List Str}{sc:Scope}
def dQ{scope:Scope}(h:X.env.scope=sc):relabel scope X.env=b9 scope sc:=by
 subst h
 rfl
structure iO(N:List Str)(sc scope:Scope)(kk:Nat)(aL:List Nat)(xs:List Str):Prop where
 kind:scope.kind=.function
 len:xs.length=kk
 nd:(xs++freeOf scope).Nodup
 As:(scope.names.all λy=>(decide (y.2≠.cell)||!(freeOf scope).contains y.1)&&(decide (y.2≠.free)||(freeOf scope).contains y.1))=true
 own:(scope.names.all λy=>decide (y.2≠.cell)||decide (scope.names.lookup y.1=some .cell))=true
 names:(scope.names.all λy=>decide (y.2≠.local)||decide (scope.names.lookup y.1=some .local))=true
 slots:aL.map (λi=>N[i]?)=(freeOf scope).map some
 kX:((freeOf scope).all λy=>decide (sc.names.lookup y=some .cell))=true
 kY:((freeOf scope).all λy=>decide ((b9 scope sc).names.lookup y=some .cell))=true
def fX{scope:Scope}{kk:Nat}{aL:List Nat}{xs:List Str}(h:p9 N sc scope kk aL xs=true):iO N sc scope kk aL xs:=by
 unfold p9 at h;simp! [zza] at h;obtain⟨⟨⟨⟨⟨⟨⟨⟨h1,h2⟩,h3⟩,h4⟩,h9⟩,h5⟩,h6⟩,h7⟩,h8⟩:=h
 exact⟨zzy.mp h1,zzy.mp h2,zzY h3,h4,h9,h5,zzY h6,h7,h8⟩
def kG(hN:X.N=N)(cZ:X.env.scope=sc)(ok:X.Ok){scope:Scope}{kk:Nat}{aL:List Nat}{xs:List Str}(h:iO N sc scope kk aL xs):dD X scope xs (freeOf scope) aL:=by
 have iL:∀y∈freeOf scope,∃c,X.env.cells.lookup y=some c:=λy hy=>ok.has y (.inl (by
  have:=zzY (zzT.mp h.kX y hy)
  show X.env.scope.names.lookup y=_
  rw [cZ];exact this))
 refine⟨h.kind,ia λy hy hf=>?_,zzT.mpr λy hy=>?_,h.As,h.own,h.names,by rw [hN];exact h.slots,zzT.mpr λy hy=>?_,?_⟩
 ·have c:=zzT.mp h.As y hy
  rw [zza,zzt,zzt] at c;rcases c.2 with z|z
  ·exact absurd hf (zzY z)
  ·exact iL _ (zzn.mp z)
 ·obtain⟨c,hc⟩:=iL y hy
  rw [hc];rfl
 ·have:=zzY (zzT.mp h.kX y hy)
  refine decide_eq_true ?_;show X.env.scope.names.lookup y=_
  rw [cZ];exact this
 ·rw [dQ cZ];exact h.kY
theorem fw{f:PV->Res (Option PV)}{x:PV}:∀{xs:List PV},br f (xs++[x])=(br f xs).bind λys=>(f x).well.bind λo=>.ok (ys++o.toList)
 |[]=>by
  simp! [List.nil_append,br,Res.bind];cases(f x).well with
  |ok o=>cases o<;>rfl
  |exc c=>rfl
  |bad=>rfl
 |y::xs=>by
  rw [List.cons_append];simp! [br];rw [fw (xs:=xs)];cases(f y).well with
  |exc c=>rfl
  |bad=>rfl
  |ok o=>
   show(((br f xs).bind λys=>(f x).well.bind λo=>.ok (ys++o.toList)).bind λys=>.ok (oc o ys))=((br f xs).bind λys=>.ok (oc o ys)).bind λys=>(f x).well.bind λo=>.ok (ys++o.toList)
   cases br f xs with
   |exc c=>rfl
   |bad=>rfl
   |ok zs=>
    show(((f x).well.bind λo=>.ok (zs++o.toList)).bind λys=>.ok (oc o ys))=(f x).well.bind λo2=>.ok ((oc o zs)++o2.toList)
    cases(f x).well with
    |exc c=>rfl
    |bad=>rfl
    |ok o2=>cases o<;>rfl
theorem i8{f:PV->Res (Option PV)}:∀{xs ys:List PV},br f xs=.ok ys->∀i,∃zs,br f (xs.take i)=.ok zs/\zs.length<=i
 |_,_,_,0=>⟨[],by simp [br],zzE _⟩
 |[],ys,h,i+1=>⟨[],by simp [br],Nat.zero_le _⟩
 |x::xs,ys,h,i+1=>by
  simp! [br] at h;obtain⟨o,ho,h⟩:=Res.aZ h
  obtain⟨zs,hz,h⟩:=Res.aZ h
  obtain⟨ws,hw,hl⟩:=i8 hz i
  refine⟨oc o ws,?_,?_⟩
  ·rw [List.take_succ_cons];simp! [br];rw [ho];show((br f (xs.take i)).bind λys=>.ok (oc o ys))=_
   rw [hw]
   rfl
  ·cases o with
   |none=>exact Nat.le_succ_of_le hl
   |some y=>exact Nat.succ_le_succ hl
def xW{α:Type}{r:Res α}{a:α}(h:r.well=.ok a):r=.ok a:=by
 cases r with
 |ok b=>cases h;rfl
 |exc c=>cases h
 |bad=>cases h
def m6{f:PV->Res (Option PV)}{xs ys zs:List PV}{i:Nat}{x:PV}(h:br f xs=.ok ys)(hx:xs[i]?=some x)(hz:br f (xs.take i)=.ok zs):∃o,f x=.ok o/\br f (xs.take (i+1))=.ok (zs++o.toList):=by
 have e:xs.take (i+1)=xs.take i++[x]:=by rw [List.take_add_one,hx];rfl
 obtain⟨ws,hw,_⟩:=i8 h (i+1)
 rw [e,fw,hz] at hw;obtain⟨o,ho,hw⟩:=Res.aZ (show((f x).well.bind λo=>Res.ok (zs++o.toList))=.ok ws from hw)
 refine⟨o,xW ho,?_⟩;rw [e,fw,hz];show((f x).well.bind λo=>Res.ok (zs++o.toList))=_
 rw [ho]
 rfl
def mG{H0 G H:Hp}{env:Sl}{σ:St}{aL:List Nat}{ys:List Str}(kk:Nat)(sr:SR W H0 env σ G H)(hs:aL.map (λi=>N[i]?)=ys.map some)(nd:ys.Nodup):SR W H0 (List.replicate kk .no++eh env aL) (List.replicate kk none++vo σ aL) G H:=by
 have Ln:∀(i j:Nat) (a:Nat),aL[i]?=some a->aL[j]?=some a->i=j:=λi j a h1 h2=>by
  have e1:(ys.map some)[i]?=some (N[a]?):=by rw [<-hs,zzQ,h1];rfl
  have e2:(ys.map some)[j]?=some (N[a]?):=by rw [<-hs,zzQ,h2];rfl
  rw [zzQ] at e1 e2;obtain⟨y1,g1,q1⟩:=zzJ.mp e1
  obtain⟨y2,g2,q2⟩:=zzJ.mp e2
  have:y1=y2:=zzq (q1.trans q2.symm)
  subst this;exact fZ nd g1 g2
 have inner:∀(j:Nat) (s:Slot),(List.replicate kk Slot.no++eh env aL)[j]?=some s->(j<kk/\s=.no)\/∃a,kk<=j/\aL[j-kk]?=some a/\s=env.getD a .no:=λj s e=>by
  by_cases hj:j<kk
  ·rw [zzr (by simpa using hj),List.getElem?_replicate,if_pos hj] at e;cases e;exact .inl ⟨hj,rfl⟩
  ·rw [zzs (by simpa using hj),List.length_replicate] at e;unfold eh at e;rw [zzQ] at e;obtain⟨a,ha,rfl⟩:=zzJ.mp e
   exact .inr ⟨a,by omega,ha,rfl⟩
 have val:∀(j a:Nat),kk<=j->aL[j-kk]?=some a->(List.replicate kk none++vo σ aL)[j]?=some ((σ[a]?).join):=λj a hj ha=>by
  rw [zzs (by simpa using hj),List.length_replicate];unfold vo;rw [zzQ,ha]
  rfl
 refine⟨by unfold eh vo;simp,sr.sub,sr.base,λj s e=>?_,λi j p q a e1 e2 e3 e4=>?_,sr.tab,sr.iU⟩
 ·rcases inner j s e with⟨hj,rfl⟩|⟨a,hj,ha,rfl⟩
  ·exact⟨none,by rw [zzr (by simpa using hj),List.getElem?_replicate,if_pos hj],trivial⟩
  ·refine⟨_,val j a hj ha,?_⟩;rw [zzK];cases e1:env[a]? with
   |none=>exact trivial
   |some s=>
    obtain⟨o,h1,h2⟩:=sr.slot a s e1
    rw [h1];exact h2
 ·rcases inner i _ e1 with⟨_,z⟩|⟨b,hi,hb,z1⟩
  ·cases z
  rcases inner j _ e2 with⟨_,z⟩|⟨c,hj,hc,z2⟩
  ·cases z
  rw [val i b hi hb] at e3;rw [val j c hj hc] at e4;have f1:env[b]?=some (.own p):=by
   rw [zzK] at z1;cases e:env[b]? with
   |none=>rw [e] at z1;cases z1
   |some s=>rw [e] at z1;exact congrArg some z1.symm
  have f2:env[c]?=some (.own q):=by
   rw [zzK] at z2;cases e:env[c]? with
   |none=>rw [e] at z2;cases z2
   |some s=>rw [e] at z2;exact congrArg some z2.symm
  have g1:σ[b]?=some (some (.ref a)):=Option.join_eq_some_iff.mp (zzq e3)
  have g2:σ[c]?=some (some (.ref a)):=Option.join_eq_some_iff.mp (zzq e4)
  have bc:=sr.apart b c p q a f1 f2 g1 g2
  subst bc;have:=Ln _ _ b hb hc
  omega
def gq{H0 G H:Hp}{kk:Nat}{rest ay:Sl}{σ:St}{tg:Tg}{p:PV}(cD:iu kk tg=true)(e:Tg.put tg p (List.replicate kk .no++rest)=.ok ay)(r:SR W H0 ay σ G H):SR W H0 (List.replicate kk .no++rest) σ G H:=by
 have key:∀(j:Nat) (s:Slot),(List.replicate kk Slot.no++rest)[j]?=some s->s≠.no->ay[j]?=some s:=λj s h hs=>by
  have zi:¬j<kk:=λz=>by
   rw [zzr (by simpa using z),List.getElem?_replicate,if_pos z] at h;cases h;exact hs rfl
  unfold Tg.put at e;split at e
  ·cases e;unfold iu at cD;simp! [zzN] at cD;rw [zzS (by omega)];exact h
  ·cases e;unfold iu at cD;simp! [zza,zzN] at cD;rw [zzS (by omega),zzS (by omega)];exact h
  ·cases e
 have hlen:(List.replicate kk Slot.no++rest).length=σ.length:=by
  rw [<-r.len];unfold Tg.put at e;split at e<;>first|(cases e;simp;done)|(cases e;done)
 refine⟨hlen,r.sub,r.base,λj s h=>?_,λi j p q a e1 e2 e3 e4=>r.apart i j p q a (key i _ e1 (λz=>nomatch z)) (key j _ e2 (λz=>nomatch z)) e3 e4,r.tab,r.iU⟩
 by_cases hs:s=.no
 ·subst hs;have:j<σ.length:=by rw [<-hlen];exact(zzH.mp h).1
  exact⟨σ[j],zzg this,trivial⟩
 ·exact r.slot j s (key j s h hs)
variable{Γ:Pg}{F:bz}{k:Nat}
noncomputable def tN(W:Wd)(F:bz)(e:E):TE:=λσ H Q=>∃H0 G env,SR W H0 env σ G H/\∃p,ax F e env=.ok p/\∀v G' H',aw W G H G' H'->Got W H0 G' H' e p v->Q v H'
noncomputable def Fi(W:Wd)(F:bz)(e:E):TT:=λσ H Q=>∃H0 G env,SR W H0 env σ G H/\∃b,ax F e env=.ok (.bl b)/\∀G' H',aw W G H G' H'->Q b H'
def o7{e:E}(σ:St)(H:Hp)(Q:VK)(h:tN W F e σ H Q):tE X W F e σ H Q:=by
 obtain⟨H0,G,env,sr,p,e1,q⟩:=h
 exact⟨H0,G,env,sr,by rw [e1];exact q⟩
def tO{e:E}(σ:St)(H:Hp)(Q:Bool->Hp->Prop)(h:Fi W F e σ H Q):tT X W F e σ H Q:=by
 obtain⟨H0,G,env,sr,p,e1,q⟩:=h
 exact⟨H0,G,env,sr,by rw [e1];exact⟨p,rfl,q⟩⟩
def dJ(C:cb Γ F W N sc k X){scope:Scope}{kk:Nat}{aL:List Nat}{xs:List Str}(h:iO N sc scope kk aL xs)(fp:List Addr)(s1:Shared)(H1:Hp)(A:Addr):cb Γ.vC F W (xs++freeOf scope) (b9 scope sc) k (bC X (xs++freeOf scope) scope (bw X.env (freeOf scope)) fp s1 H1 A):=
 ⟨rfl,dQ C.cZ,λ_=>rfl,h.nd,C.K,C.mg,C.gs,C.bs,C.room,λf hf=>⟨(C.fns f hf).ex⟩,C.Cj,C.cls,C.xc,λq hq=>⟨(C.lU q hq).ex⟩,λf hf=>⟨(C.Eb f hf).1,⟨(C.Eb f hf).2.ex⟩⟩,C.any,(λz=>nomatch z),(λz=>nomatch z),(λz=>nomatch z)⟩
def Af{e:E}{p:Expr}(h:aU Γ N sc e p=true)(env:Env):∀x,foldedSetIterable p env x=pure x:=by
 intro x;cases p<;>first|rfl|(cases e<;>first|(exact aC h)|(rename_i q;cases q<;>exact aC h))
def fK{tg:Expr}{it:I}{p:Expr}(h:qU Γ N sc tg it p=true)(env:Env):∀x,foldedSetIterable p env x=pure x:=by
 intro x;cases it with
 |seq e=>exact Af h env x
 |nj e=>cases p<;>first|rfl|(exact aC h)
 |qx a b=>cases p<;>first|rfl|(exact aC h)
 |enum e=>cases p<;>first|rfl|(exact aC h)
 |zip as=>cases p<;>first|rfl|(exact aC h)
def CW(W:Wd)(H0 G1 H1:Hp)(uX:Sl)(f:PV->Res (Option PV))(ps:List PV)(i:Nat)(ys:List V)(σ':St)(H':Hp):Prop:=
 i<=ps.length/\∃G',aw W G1 H1 G' H'/\SR W H0 uX σ' G' H'/\∃zs,br f (ps.take i)=.ok zs/\zs.length<=i/\ai W G' zs ys
def ql(hK:W.K=X.K){kk:Nat}{aL:List Nat}{tg:Tg}{it:I}{elt:E}{ys:List Str}(cD:iu kk tg=true)(cL:eo elt=true)(hs:aL.map (λi=>N[i]?)=ys.map some)(nd:ys.Nodup)(σ:St)(H:Hp)(Q:VK)(h:tF X W F (.comp kk aL tg it elt) σ H Q):
 sR (tI X W F it) kk (gT X.K tg) (tN W F elt) aL σ H Q:=by
 obtain⟨H0,G,env,sr,o⟩:=h
 rw [ax] at o;refine⟨H0,G,env,sr,o.bind.imp λps g8 J G1 H1 g1 gi=>?_⟩
 by_cases rZ:¬ps.length<eH
 ·rw [if_neg rZ] at g8;exact g8.elim
 have hl:=Decidable.not_not.mp rZ
 rw [if_pos hl] at g8;generalize hf:(λx=>(tg.put x (List.replicate kk .no++eh env aL)).bind λay=>(ax F elt ay).bind λy=>Res.ok (some y))=f at g8
 cases hc:br f ps with
 |bad=>rw [hc] at g8;exact g8.elim
 |exc c=>
  exfalso
  have:∀(l:List PV) (c:Str),br f l≠.exc c:=λl=>by
   induction l with
   |nil=>intro c z;cases z
   |cons a l ih=>
    intro c z;simp! [br] at z;rcases Res.cG z with z|⟨o1,_,z⟩
    ·cases e:f a with
     |ok _=>rw [e] at z;cases z
     |exc _=>rw [e] at z;cases z
     |bad=>rw [e] at z;cases z
    ·rcases Res.cG z with z|⟨o2,_,z⟩
     ·exact ih c z
     ·cases z
  exact this _ _ hc
 |ok all=>
  rw [hc] at g8;obtain⟨xs,e1,fin⟩:=g8
  cases e1;have bb:=sr.grow g1
  refine⟨ps.length,CW W H0 G1 H1 (List.replicate kk .no++eh env aL) f ps,⟨Nat.zero_le _,G1,.refl g1.sub,mG kk bb hs nd,[],rfl,zzE _,.nil⟩,?_⟩
  rintro i made σ' H' ⟨hi,G',g',sr',zs,hz,w4,l⟩
  refine⟨by rw [l.length];exact zzV (zzU w4 hi) (zzW hl (by decide)),?_⟩;obtain⟨ist,igo⟩:=gi.any i G' H' g'.g g'.h g'.sub
  by_cases hlast:i=ps.length
  ·refine .inl ⟨ist hlast,λp hp=>?_⟩
   rw [hlast,List.take_length,hc] at hz;cases hz;exact fin p made G' H' (g1.trans g') hp l
  ·have jf:i<ps.length:=by omega
   obtain⟨hgo,hyld⟩:=igo ps[i] (zzg jf)
   refine .inr ⟨hgo,jf,λx je hy=>?_⟩
   obtain⟨qk,g'',rx⟩:=hyld x je hy
   obtain⟨o1,ho,hnext⟩:=m6 hc (zzg jf) hz
   rw [<-hf] at ho;obtain⟨ay,he',ho⟩:=Res.aZ ho
   obtain⟨y,Ct,ho⟩:=Res.aZ ho
   cases ho;refine lN hK he' (sr'.grow g'') rx λσ2 gX=>⟨H0,qk,ay,gX,y,Ct,λv G3 H3 g3 t=>?_⟩
   refine⟨jf,G3,g'.trans (g''.trans g3),(gq cD he' gX).grow g3,_,hnext,?_,?_⟩
   ·rw [zzM];show zs.length+1<=i+1;omega
   ·exact(ai.same (g''.trans g3).g zs l).append (.cons (t.rep cL) .nil)
def kj(hK:W.K=X.K){kk:Nat}{aL:List Nat}{tg:Tg}{it:I}{c elt:E}{ys:List Str}(cD:iu kk tg=true)(cL:eo elt=true)(hs:aL.map (λi=>N[i]?)=ys.map some)(nd:ys.Nodup)(σ:St)(H:Hp)(Q:VK)(h:tF X W F (.dc kk aL tg it c elt) σ H Q):
 gS (tI X W F it) kk (gT X.K tg) (Fi W F c) (tN W F elt) aL σ H Q:=by
 obtain⟨H0,G,env,sr,o⟩:=h
 rw [ax] at o;refine⟨H0,G,env,sr,o.bind.imp λps g8 J G1 H1 g1 gi=>?_⟩
 by_cases rZ:¬ps.length<eH
 ·rw [if_neg rZ] at g8;exact g8.elim
 have hl:=Decidable.not_not.mp rZ
 rw [if_pos hl] at g8;generalize hf:(λx=>(tg.put x (List.replicate kk .no++eh env aL)).bind λay=>(ax F c ay).bind λt=>pf t λt=>if t then(ax F elt ay).bind λy=>Res.ok (some y) else .ok none)=f at g8
 cases hc:br f ps with
 |bad=>rw [hc] at g8;exact g8.elim
 |exc c=>
  exfalso
  have:∀(l:List PV) (c:Str),br f l≠.exc c:=λl=>by
   induction l with
   |nil=>intro c z;cases z
   |cons a l ih=>
    intro c z;simp! [br] at z;rcases Res.cG z with z|⟨o1,_,z⟩
    ·cases e:f a with
     |ok _=>rw [e] at z;cases z
     |exc _=>rw [e] at z;cases z
     |bad=>rw [e] at z;cases z
    ·rcases Res.cG z with z|⟨o2,_,z⟩
     ·exact ih c z
     ·cases z
  exact this _ _ hc
 |ok all=>
  rw [hc] at g8;obtain⟨xs,e1,fin⟩:=g8
  cases e1;have bb:=sr.grow g1
  refine⟨ps.length,CW W H0 G1 H1 (List.replicate kk .no++eh env aL) f ps,⟨Nat.zero_le _,G1,.refl g1.sub,mG kk bb hs nd,[],rfl,zzE _,.nil⟩,?_⟩
  rintro i made σ' H' ⟨hi,G',g',sr',zs,hz,w4,l⟩
  refine⟨by rw [l.length];exact zzV (zzU w4 hi) (zzW hl (by decide)),?_⟩;obtain⟨ist,igo⟩:=gi.any i G' H' g'.g g'.h g'.sub
  by_cases hlast:i=ps.length
  ·refine .inl ⟨ist hlast,λp hp=>?_⟩
   rw [hlast,List.take_length,hc] at hz;cases hz;exact fin p made G' H' (g1.trans g') hp l
  ·have jf:i<ps.length:=by omega
   obtain⟨hgo,hyld⟩:=igo ps[i] (zzg jf)
   refine .inr ⟨hgo,jf,λx je hy=>?_⟩
   obtain⟨qk,g'',rx⟩:=hyld x je hy
   obtain⟨o1,ho,hnext⟩:=m6 hc (zzg jf) hz
   rw [<-hf] at ho;obtain⟨ay,he',ho⟩:=Res.aZ ho
   obtain⟨t,ht,ho⟩:=Res.aZ ho
   obtain⟨b,rfl⟩:∃b,t=.bl b:=by
    cases t<;>first|exact⟨_,rfl⟩|(cases ho)
   refine lN hK he' (sr'.grow g'') rx λσ2 gX=>⟨H0,qk,ay,gX,b,ht,λG3 H3 g3=>?_⟩
   have hJ:(if b=true then(ax F elt ay).bind λy=>Res.ok (some y) else .ok none)=Res.ok o1:=ho
   cases b with
   |true=>
    rw [if_pos rfl] at hJ;refine Hx ?_;obtain⟨y,Ct,hJ⟩:=Res.aZ hJ
    cases hJ;refine⟨H0,G3,ay,gX.grow g3,y,Ct,λv G4 H4 g4 t4=>?_⟩
    refine⟨jf,G4,g'.trans (g''.trans (g3.trans g4)),(gq cD he' gX).grow (g3.trans g4),_,hnext,?_,?_⟩
    ·rw [zzM];show zs.length+1<=i+1;omega
    ·exact(ai.same (g''.trans (g3.trans g4)).g zs l).append (.cons (t4.rep cL) .nil)
   |false=>
    rw [if_neg zzf] at hJ;refine FH ?_;cases hJ;refine⟨jf,G3,g'.trans (g''.trans g3),(gq cD he' gX).grow g3,_,hnext,?_,?_⟩
    ·rw [zzM];show zs.length+0<=i+1;omega
    ·show ai W G3 (zs++[]) made
     rw [zz6];exact ai.same (g''.trans g3).g zs l
def pg(C:cb Γ F W N sc k X)(hq:Γ.qt=false){kk:Nat}{aL:List Nat}{tg:Tg}{it:I}{elt:E}{bL en dE:Expr}{scope:Scope}{pos:Pos}(h:iO N sc scope kk aL (aA bL))(cD:iu kk tg=true)(cL:eo elt=true)(hi:GI X W F bL it en)(lU:∀x,foldedSetIterable en X.env x=pure x)
 (rj:d5 (aA bL++freeOf scope) (b9 scope sc) (iA scope) tg bL=true) (he:∀Y,cb Γ.vC F W (aA bL++freeOf scope) (b9 scope sc) k Y->GE Y W F elt dE):GF X W F (.comp kk aL tg it elt) (.ListComp dE [⟨bL,en,[],0⟩] scope pos):=by
 intro aa s σ H Q I hqq;have Bu:(freeOf scope).Nodup:=(List.nodup_append.mp h.nd).2.1
 have rd:=ql (N:=N) C.K cD cL h.slots Bu σ H Q hqq
 have:=xM (g:=gT X.K tg) (te:=tN W F elt) (xs:=aA bL) (ys:=freeOf scope) (is:=aL) (pos:=pos) (C.calm hq) (kG C.hN C.cZ I.ok h) hi
  (λfp s1 H1 A=>q9 (fn:=iA scope) (X:=bC X (aA bL++freeOf scope) scope (bw X.env (freeOf scope)) fp s1 H1 A) rfl h.nd (dQ C.cZ) rfl (λ_ z=>z) rj)
  (λfp s1 H1 A=>L2.PE.imp (he _ (dJ C h fp s1 H1 A)) λσ H Q z=>o7 σ H Q z) lU aa s σ H Q I
 rw [h.len] at this;exact this rd
def jY(C:cb Γ F W N sc k X)(hq:Γ.qt=false){kk:Nat}{aL:List Nat}{tg:Tg}{it:I}{c elt:E}{bL en pc dE:Expr}{scope:Scope}{pos:Pos}(h:iO N sc scope kk aL (aA bL))(cD:iu kk tg=true)(cL:eo elt=true)(hi:GI X W F bL it en)(lU:∀x,foldedSetIterable en X.env x=pure x)
 (rj:d5 (aA bL++freeOf scope) (b9 scope sc) (iA scope) tg bL=true) (hc:∀Y,cb Γ.vC F W (aA bL++freeOf scope) (b9 scope sc) k Y->GT Y W F c pc) (he:∀Y,cb Γ.vC F W (aA bL++freeOf scope) (b9 scope sc) k Y->GE Y W F elt dE):
 GF X W F (.dc kk aL tg it c elt) (.ListComp dE [⟨bL,en,[pc],0⟩] scope pos):=by
 intro aa s σ H Q I hqq;have Bu:(freeOf scope).Nodup:=(List.nodup_append.mp h.nd).2.1
 have rd:=kj (N:=N) C.K cD cL h.slots Bu σ H Q hqq
 have:=rB (g:=gT X.K tg) (tt:=Fi W F c) (te:=tN W F elt) (xs:=aA bL) (ys:=freeOf scope) (is:=aL) (pos:=pos) (C.calm hq) (kG C.hN C.cZ I.ok h) hi
  (λfp s1 H1 A=>q9 (fn:=iA scope) (X:=bC X (aA bL++freeOf scope) scope (bw X.env (freeOf scope)) fp s1 H1 A) rfl h.nd (dQ C.cZ) rfl (λ_ z=>z) rj)
  (λfp s1 H1 A=>L2.PT.imp (hc _ (dJ C h fp s1 H1 A)) λσ H Q z=>tO σ H Q z)
  (λfp s1 H1 A=>L2.PE.imp (he _ (dJ C h fp s1 H1 A)) λσ H Q z=>o7 σ H Q z) lU aa s σ H Q I
 rw [h.len] at this;exact this rd
variable{Z:List (Addr×Obj)}{G H:Hp}
mutual
theorem Rep.less(zs:∀b o,Z.lookup b=some o->G b=some (.bI o bH)):∀(p:PV) {v:V},Rep W G p v->Rep W (aD Z G) p v
 |.bO,_,h=>by simpa only [Rep] using h
 |.bl b,_,h=>by simpa only [Rep] using h
 |.int i,_,h=>by simpa only [Rep] using h
 |.str z,_,h=>by simpa only [Rep] using h
 |.tup xs,_,h=>by
  simp! [Rep] at h⊢;obtain⟨a,vs,e,q,l⟩:=h
  refine⟨a,vs,e,?_,ai.less zs xs l⟩;rcases q with q|⟨(q|⟨o,q⟩)|q,z⟩
  ·cases y:Z.lookup a with
   |none=>exact .inl (by rw [au y];exact q)
   |some o'=>rw [zs a o' y] at q;cases q
  ·cases y:Z.lookup a with
   |none=>exact .inl (by rw [au y];exact q)
   |some o'=>rw [zs a o' y] at q;cases q
  ·cases y:Z.lookup a with
   |none=>exact .inr ⟨.inl (.inr ⟨o,by rw [au y];exact q⟩),z⟩
   |some o'=>rw [zs a o' y] at q;cases q
  ·exact .inr ⟨.inr q,z⟩
 |.lst xs,_,h=>by
  simp! [Rep] at h⊢;obtain⟨a,vs,e,q,l⟩:=h
  refine⟨a,vs,e,?_,ai.less zs xs l⟩;rcases q with(q|⟨o,q⟩)|q
  ·cases y:Z.lookup a with
   |none=>exact .inl (.inl (by rw [au y];exact q))
   |some o'=>rw [zs a o' y] at q;cases q
  ·cases y:Z.lookup a with
   |none=>exact .inl (.inr ⟨o,by rw [au y];exact q⟩)
   |some o'=>rw [zs a o' y] at q;cases q
  ·exact .inr q
 |.exc c,_,h=>by
  simp! [Rep] at h⊢;obtain⟨a,C,e,x,m,q⟩:=h
  cases y:Z.lookup a with
  |none=>exact⟨a,C,e,x,m,by rw [au y];exact q⟩
  |some o'=>
   rw [zs a o' y] at q;unfold eL at q;cases q
 |.d8 ks vs,_,h=>by
  simp! [Rep] at h⊢;obtain⟨a,o,us,e,n,m,l⟩:=h
  refine⟨a,o,us,e,n,?_,ai.less zs vs l⟩;cases y:Z.lookup a with
  |none=>rw [au y];exact m
  |some o'=>rw [zs a o' y] at m;cases m
theorem ai.less(zs:∀b o,Z.lookup b=some o->G b=some (.bI o bH)):∀(ps:List PV) {vs:List V},ai W G ps vs->ai W (aD Z G) ps vs
 |[],_,h=>by simpa only [ai] using h
 |p::ps,_,h=>by
  simp! [ai] at h⊢;obtain⟨v,r,e,h1,h2⟩:=h
  exact⟨v,r,e,Rep.less zs p h1,ai.less zs ps h2⟩
end
theorem fV(t:bM W G H)(sg:av G H)(zs:∀b o,Z.lookup b=some o->G b=some (.bI o bH))(zc:∀b o,Z.lookup b=some o->∃v,o.data=.cell v):bM W (aD Z G) (aD Z H):=λP q m=>by
 obtain⟨n,ps,e,tr,al⟩:=t P q m
 refine⟨fx n,ps,?_,tr,λpos cv y=>?_⟩
 ·cases y:Z.lookup P with
  |none=>rw [au y];exact e
  |some o=>rw [sg _ _ (zs P o y)] at e;cases e
 ·obtain⟨c',oc,cM,t',e1,e2,e3,e4⟩:=al pos cv y
  refine⟨c',oc,cM,t',e1,?_,e3,e4⟩;cases y:Z.lookup c' with
  |none=>rw [au y];exact e2
  |some o=>
   rw [zs c' o y] at e2;cases e2;obtain⟨v,hv⟩:=zc c' _ y
   rw [e3] at hv;cases hv
theorem aw.wz{G3 H3:Hp}(g:aw W (aD Z G) (aD Z H) G3 H3)(sg:av G H)(zs:∀b o,Z.lookup b=some o->G b=some (.bI o bH))(zc:∀b o,Z.lookup b=some o->∃v,o.data=.cell v)(zn:∀b o,Z.lookup b=some o->H3 b=none):aw W G H (aI Z G3) (aI Z H3) where
 g:=λb u e=>by
  cases y:Z.lookup b with
  |none=>rw [ag y];exact g.g _ _ (by rw [au y];exact e)
  |some o=>rw [aR y];rw [zs b o y] at e;exact e
 h:=λb u e=>by
  cases y:Z.lookup b with
  |none=>rw [ag y];exact g.h _ _ (by rw [au y];exact e)
  |some o=>
   rw [sg _ _ (zs b o y)] at e;cases e;exact .inl ⟨(λ_ z=>nomatch z),aR y⟩
 sub:=λb u e=>by
  cases y:Z.lookup b with
  |none=>rw [ag y] at e⊢;exact g.sub _ _ e
  |some o=>rw [aR y] at e⊢;exact e
 own:=λa h1 h3 h2=>by
  cases y:Z.lookup a with
  |none=>rw [ag y];exact g.own a (by rw [au y];exact h1) (by rw [au y];exact h3) (by rw [au y];exact h2)
  |some o=>rw [zs a o y] at h2;cases h2
 tab:=λt P q m=>by
  obtain⟨n,ps,e,tr,al⟩:=g.tab (fV t sg zs zc) P q m
  refine⟨?_,ps,?_,tr,λpos cv y=>?_⟩
  ·cases y:Z.lookup P with
   |none=>rw [ag y];exact n
   |some o=>rw [zn P o y] at e;cases e
  ·cases y:Z.lookup P with
   |none=>rw [ag y];exact e
   |some o=>rw [zn P o y] at e;cases e
  ·obtain⟨c',oc,cM,t',e1,e2,e3,e4⟩:=al pos cv y
   refine⟨c',oc,cM,t',e1,?_,e3,e4⟩;cases y:Z.lookup c' with
   |none=>rw [ag y];exact e2
   |some o=>have:=g.sub _ _ e2;rw [zn c' o y] at this;cases this
theorem mm(t:bM W G H)(sg:av G H)(zn:∀b o,Z.lookup b=some o->H b=none):bM W (aI Z G) (aI Z H):=λP q m=>by
 obtain⟨n,ps,e,tr,al⟩:=t P q m
 refine⟨?_,ps,?_,tr,λpos cv y=>?_⟩
 ·cases y:Z.lookup P with
  |none=>rw [ag y];exact n
  |some o=>rw [zn P o y] at e;cases e
 ·cases y:Z.lookup P with
  |none=>rw [ag y];exact e
  |some o=>rw [zn P o y] at e;cases e
 ·obtain⟨c',oc,cM,t',e1,e2,e3,e4⟩:=al pos cv y
  refine⟨c',oc,cM,t',e1,?_,e3,e4⟩;cases y:Z.lookup c' with
  |none=>rw [ag y];exact e2
  |some o=>have:=sg _ _ e2;rw [zn c' o y] at this;cases this
theorem aw.lz{G' H':Hp}(g:aw W (aI Z G) (aI Z H) G' H')(sg:av G H)(zc:∀b o,Z.lookup b=some o->∃v,o.data=.cell v)(zn:∀b o,Z.lookup b=some o->H b=none):aw W G H (aD Z G') (aD Z H') where
 g:=λb u e=>by
  cases y:Z.lookup b with
  |none=>rw [au y];exact g.g _ _ (by rw [ag y];exact e)
  |some o=>have:=sg _ _ e;rw [zn b o y] at this;cases this
 h:=λb u e=>by
  cases y:Z.lookup b with
  |none=>rw [au y];exact g.h _ _ (by rw [ag y];exact e)
  |some o=>rw [zn b o y] at e;cases e
 sub:=λb u e=>by
  obtain⟨q,e1⟩:=c7 e
  rw [au q];exact g.sub _ _ e1
 own:=λa h1 h3 h2=>by
  cases y:Z.lookup a with
  |none=>rw [au y];exact g.own a (by rw [ag y];exact h1) (by rw [ag y];exact h3) (by rw [ag y];exact h2)
  |some o=>exact dM y
 tab:=λt=>fV (g.tab (mm t sg zn)) g.sub (λb o q=>g.g _ _ (aR q)) zc
def rh(sg:av G H):av (aI Z G) (aI Z H):=λb u e=>by
 cases y:Z.lookup b with
 |none=>rw [ag y] at e⊢;exact sg _ _ e
 |some o=>rw [aR y] at e⊢;exact e
theorem oy{G3 H3:Hp}(s:av G3 H3)(zn:∀b o,Z.lookup b=some o->H3 b=none):av G3 (aI Z G3):=λb u e=>by
 cases y:Z.lookup b with
 |none=>rw [ag y];exact e
 |some o=>have:=s _ _ e;rw [zn b o y] at this;cases this
def mL(zs:∀b o,Z.lookup b=some o->H b=some (.bI o bH)):aI Z (aD Z H)=H:=by
 funext b
 cases y:Z.lookup b with
 |none=>rw [ag y,au y]
 |some o=>rw [aR y,zs b o y]
def mB(zs:∀b o,Z.lookup b=some o->H b=none):aD Z (aI Z H)=H:=by
 funext b
 cases y:Z.lookup b with
 |none=>rw [au y,ag y]
 |some o=>rw [dM y,zs b o y]
theorem vp{P:Program}{w:World}{h:Heap}(k:dF P w H h)(zs:∀b o,Z.lookup b=some o->H b=some (.bI o bH)):dF P w (aD Z H) h:=λb v e=>by
 obtain⟨q,e1⟩:=c7 e
 refine(k b v e1).cU (λc y _ r=>r) (λc r=>?_) λc xs r=>?_
 ·cases y:Z.lookup c with
  |none=>rw [au y];exact r
  |some o=>rw [zs c o y] at r;cases r
 ·cases y:Z.lookup c with
  |none=>rw [au y];exact r
  |some o=>rw [zs c o y] at r;cases r
def qC{P:Program}{w:World}{K:zz8}{mg:Str->Option Value}{base:Heap}{A:Around}{outer:List Env}{s:Shared}(e:iw P w K mg base A outer s H)(zs:∀b o,Z.lookup b=some o->H b=some (.bI o bH)):iw P w K mg base A outer s (aD Z H):=
 ⟨e.frames,e.mod,λb o q=>⟨(e.bs b o q).1,fx (e.bs b o q).2⟩,e.pT,e.eC,λb hb=>fx (e.qm b hb),vp e.aO zs,e.bare⟩
def Bl{ps:List Str}{scope:Scope}(h:HW ps scope=true):qp ps (ba scope) scope:=by
 unfold HW at h;simp! [zza,zzy,Bool.not_eq_true',zzN,zzT] at h;obtain⟨⟨⟨⟨⟨⟨h1,h2⟩,h3⟩,h4⟩,h5⟩,h6⟩,h7⟩:=h
 refine⟨h1,h2,h3,h4,h5,h6,h7,λx hx=>?_⟩
 unfold ba;rw [List.mem_reverse,zzx];exact⟨(x,.free),List.mem_filter.mpr ⟨PySem.mem_of_lookup hx,rfl⟩,rfl⟩
def vN{params:Arguments}{ps:List Str}{qual:Str}{body:Expr}{scope:Scope}{cl:List (Str×Addr)}{pm d7 ct:Value}(h:ny params=some ps)(us:List Value)(hl:us.length=ps.length):bindArgs (PySem.W.kla_fn "<lambda>" qual params body scope cl pm d7 ct) ⟨us,[]⟩=pure (ps.zip us):=by
 rcases oO h with⟨rfl,rfl⟩|⟨a,rfl,rfl⟩
 ·match us,hl with
  |[],_=>rfl
 ·match us,hl with
  |[u],_=>
   simp [bindArgs,seqItems?,PySem.W.kla_fn]
   rfl
def xZ{params:Arguments}{ps:List Str}{env:Env}(h:ny params=some ps):defaultsOf params env=([],[]):=by
 rcases oO h with⟨rfl,rfl⟩|⟨a,rfl,rfl⟩
 ·rfl
 ·rfl
theorem eF{l:List PV}(c:Str):∀{idx:List Nat},dr l idx≠.exc c
 |[]=>λz=>nomatch z
 |i::idx=>λz=>by
  unfold dr at z;rcases Res.cG z with z|⟨p,_,z⟩
  ·unfold atC at z;split at z;exact Res.bp c z;cases z
  ·rcases Res.cG z with z|⟨ps,_,z⟩
   ·exact eF c z
   ·cases z
end
noncomputable def B4(i:Nat):E:=if yg i=1 then .tup (.cons (.cst (.str (Ee i))) .nil) else .bin .mul (.tup (.cons (.cst (.str (Ee i))) .nil)) (.cst (.int (yg i)))
noncomputable def rS(i:Nat):E:=if i<10000 then .var i else B4 i
noncomputable def k9:List Nat->Es
 |[]=>.nil
 |i::r=>.cons (rS i) (k9 r)
def xr(i:Nat):eo (rS i)=true:=by
 unfold rS B4;split
 ·rfl
 ·split<;>rfl
theorem pE:∀idx:List Nat,dy (k9 idx)=true
 |[]=>rfl
 |i::r=>by
  unfold k9 dy;rw [xr,pE r]
  rfl
theorem m8{α:Type}{a:α}:∀n:Nat,(List.replicate n [a]).flatten=List.replicate n a
 |0=>rfl
 |n+1=>by rw [List.replicate_succ,List.flatten_cons,m8 n];rfl
def zS{F:bz}{i:Nat}{e:Expr}{env:Sl}(h:Ca i e=true):ax F (B4 i) env=.ok (dB i):=by
 unfold Ca at h;unfold B4 dB
 by_cases h1:yg i=1
 ·rw [if_pos h1,h1];simp! [ax,bj,Res.bind]
  rfl
 ·rw [if_neg h1] at h⊢;simp! [zza,zzN] at h;simp! [ax,bj,Res.bind,binOp];rw [if_pos ⟨by omega,by omega,by simp,by simp⟩,zz4,m8]
theorem pB{F:bz}{N:List Str}{l:List PV}:∀{as:List Expr} {idx:List Nat} {qs:List PV},fm N as idx=true->dr l idx=.ok qs->bj F (k9 idx) (l.map .val)=.ok qs
 |[],[],qs,_,h=>by
  cases h;unfold k9;rw [bj]
 |a::as,i::idx,qs,hb,h=>by
  unfold fm at hb;rw [zza] at hb;unfold dr at h;obtain⟨p,hp,h⟩:=Res.aZ h
  obtain⟨ps,g8,h⟩:=Res.aZ h
  cases h;unfold k9;rw [bj];have e1:ax F (rS i) (l.map .val)=.ok p:=by
   unfold rS;have Hi:=hb.1
   unfold sQ at Hi;unfold atC at hp
   by_cases hi:i<10000
   ·rw [if_pos hi] at hp⊢;have:=Res.of_ok hp
    rw [ax,zzQ,this]
    rfl
   ·rw [if_neg hi] at hp Hi⊢;cases hp;exact zS Hi
  rw [e1];show(bj F (k9 idx) (l.map .val)).bind _=_
  rw [pB hb.2 g8]
  rfl
 |[],_::_,_,h,_=>aC h
 |_::_,[],_,h,_=>aC h
def il{N:List Str}{a:Expr}{i:Nat}(h:sQ N i a=true)(as:List Expr)(env:Env):starEach (a::as) env=(false,eval a env)::starEach as env:=by
 unfold sQ at h;split at h
 ·obtain⟨x,e,_⟩:=ah h
  obtain⟨p,rfl⟩:=bW e
  rfl
 ·unfold Ca at h;split at h
  ·obtain⟨_,_,_,_,rfl⟩:=nV (zzy.mp h)
   rfl
  ·rw [zza] at h;obtain⟨_,_,_,_,_,_,_,rfl⟩:=pY (zzy.mp h.2)
   rfl
theorem kD{N:List Str}{env:Env}:∀{as:List Expr} {idx:List Nat} {pos:Pos},fm N as idx=true->(backTo pos (starEach as env)).any (·.1)=false
 |[],_,_,_=>rfl
 |a::as,[],_,h=>aC h
 |a::as,i::idx,pos,h=>by
  unfold fm at h;rw [zza] at h;rw [il h.1];show(false||(backTo pos (starEach as env)).any (·.1))=false
  rw [kD h.2]
  rfl
def EN{X:Cx}{W:Wd}{F:bz}(hK:W.K=X.K){i:Nat}{a:Expr}(h:Ca i a=true):GE X W F (B4 i) a:=by
 unfold Ca at h;unfold B4;split at h
 ·rename_i h1;rw [if_pos h1];obtain⟨_,_,_,_,rfl⟩:=nV (zzy.mp h)
  exact nB rfl (show 1<1000 by decide) (fO (c9 kF λG=>.s) lI rfl)
 ·rename_i h1;rw [if_neg h1];rw [zza] at h;obtain⟨_,_,_,_,_,_,_,rfl⟩:=pY (zzy.mp h.2)
  exact pZ (o:=.mul) hK (nB rfl (show 1<1000 by decide) (fO (c9 kF λG=>.s) lI rfl)) (c9 sI λG=>.i)
theorem kP{X:Cx}{W:Wd}{F:bz}(hK:W.K=X.K)(hv:∀(i:Nat) (x:Str),X.N[i]?=some x->B6 X.env.scope x):∀{as:List Expr} {idx:List Nat},fm X.N as idx=true->GA X W F (k9 idx) as
 |[],[],_=>lI
 |a::as,i::idx,h=>by
  unfold fm at h;rw [zza] at h;have hs:=il h.1 as X.env
  have h1:=h.1
  unfold sQ at h1;unfold k9 rS
  by_cases hi:i<10000
  ·rw [if_pos hi] at h1⊢;obtain⟨x,e,h2⟩:=ah h1
   obtain⟨p,rfl⟩:=bW e
   rw [zza,zzy] at h2;exact fO (pX h2.1 (hv i x h2.1) h2.2) (kP hK hv h.2) hs
  ·rw [if_neg hi] at h1⊢;exact fO (EN hK h1) (kP hK hv h.2) hs
 |[],_::_,h=>aC h
 |_::_,[],h=>aC h
def xE{W:Wd}{H G:Hp}{as:List PV}{vs:List V}(sg:av G H)(tb:bM W G H)(l:ai W G as vs):SR W H (as.map .val) (vs.map some) G H:=by
 refine⟨by rw [zzl,zzl];exact l.length.symm,sg,er.refl _,λi s e=>?_,λi j p q a e1 _ _ _=>?_,tb,tb⟩
 ·rw [zzQ] at e;obtain⟨p,hp,rfl⟩:=zzJ.mp e
  obtain⟨v,hv,rv⟩:=l.lF hp
  exact⟨some v,by rw [zzQ,hv];rfl,v,rfl,rv⟩
 ·rw [zzQ] at e1;obtain⟨p,hp,e⟩:=zzJ.mp e1
  cases e
section
variable{Γ:Pg}{X:Cx}{W:Wd}{F:bz}{N:List Str}{sc:Scope}{k:Nat}
def qo{g:Str}{idx:List Nat}{params:Arguments}{body:Expr}{scope:Scope}(h:xg g idx params body scope=true):∃ps a as np pos,ny params=some ps/\idx.head?=some ps.length/\body=.Call (.Name g np) (a::as) [] pos/\scope.names.lookup g=some .globalImplicit/\okN g=true/\eO g=false/\fm (ps++ba scope) (a::as) idx.tail=true/\qp ps (ba scope) scope:=by
 obtain⟨ps,e1,h⟩:=uw h
 obtain⟨⟨f,args,kws,pos⟩,e2,h⟩:=uw h
 simp! [zza,zzy,Bool.not_eq_true',zzN] at h;obtain⟨⟨⟨⟨⟨⟨⟨⟨h1,h7⟩,h8⟩,h0⟩,h2⟩,h3⟩,h4⟩,h5⟩,h6⟩:=h
 obtain⟨np,z1⟩:=bW h1
 have z7:=List.isEmpty_iff.1 h7
 try dsimp only at z1 z7
 subst z1 z7;cases args with
 |nil=>cases h8
 |cons a as=>exact⟨ps,a,as,np,pos,e1,h0,iS e2,h2,h3,h4,h5,Bl h6⟩
def qd(C:cb Γ F W N sc k X){g:Str}{idx:List Nat}{bg as qs:List PV}{f:Addr}{aa:List (Addr×Obj)}{σ:St}{G H:Hp}{s:Shared}{Q:VK}{us:List Value}{vs:List V}
 (I:Inv X aa σ H s) (sg:av G H) (tb:bM W G H) (cr:lG W G g idx bg (.ref f)) (l:ai W G as vs) (r:Vals vs us) (hn:idx.head?=some as.length) (hq:dr (as++bg) idx.tail=.ok qs)
 (o:Out X W (F g qs) σ G H λp=>cm W G H p Q):wpAny (model X.prog X.w) X.A (call (.ref f) us) (EP X aa σ Q) X.xe s:=by
 obtain⟨f',c',oc,cM,t,fA,pm,params,body,scope,qual,cl,Z,ws,e,d⟩:=cr
 cases e;obtain⟨ps,a,as',np,pos,e1,e0,rfl,e2,e3,e4,e5,S⟩:=qo d.lg
 have ti:F g qs≠.bad:=λz=>by rw [z] at o;exact o
 have hlen:as.length=ps.length:=zzq (hn.symm.trans e0)
 have C3:∀b o,Z.lookup b=some o->H b=some (.bI o bH):=λb o q=>sg _ _ (d.zs b o q)
 have KY:aI Z (aD Z H)=H:=mL C3
 have Ck:oV Z (aD Z H) (df X.stack) s.heap:=⟨λb o q=>(I.aO b _ (C3 b o q)).1,λb o q=>dM q,λb o q hb=>by have:=I.gV b hb;rw [C3 b o q] at this;cases this⟩
 have rl:ai W (aD Z G) (as++bg) (vs++ws):=(ai.less d.zs as l).append d.rep
 have lU:Γ.fs.contains g=true:=by
  rcases C.any g qs ti with z|z
  ·exact z
  ·rw [e4] at z;cases z
 obtain⟨fa,fd,pn,FO,hm,hk,hb,hal⟩:=(C.fns g lU).ex
 have Lg:av (aD Z G) (aD Z H):=jZ sg
 refine wpAny_call (codeAny_mono (L2.vW (E:=λCv ao H'=>∃c,F g qs=.exc c/\XE W c G H Cv ao H') (Q:=Q) (Z:=Z) (ws:=ws) (vs:=vs) (t:=λσ' H1 Q1=>H1=aD Z H/\σ'=vs.map some++ws.map some/\∀u H3,(match F g qs with
  |.ok p=>∃G3,aw W (aD Z G) (aD Z H) G3 H3/\Rep W G3 p u
  |_=>False)->Q1 u H3) S C.room (qC I.uX C3) Ck ?zb (I.aO _ _ (sg _ _ d.fo)).1 (I.aO _ _ (sg _ _ d.co)).1 d.cd d.cn (vN e1 us (by rw [<-r.length,l.length,hlen])) r (by rw [l.length,hlen]) d.len d.has d.inj d.cells ?cells ?ht ?hq) λrr s' hr=>?end_)
 case zb=>
  intro b o q;cases y:X.base.get? b with
  |none=>rfl
  |some o'=>have:=(I.bs b o' y).2;rw [C3 b o q] at this;cases this
 case cells=>
  intro i y c h1 h2 v h3;obtain⟨u,o',q1,q2,q3⟩:=d.vals i y c h1 h2 v h3
  exact⟨u,q1,o',Ck.at_ c o' q2,q3⟩
 case hq=>
  refine⟨rfl,rfl,λu H3 h3 zn=>?_⟩
  ·cases z:F g qs with
   |ok p=>
    rw [z] at h3 o;obtain⟨G3,g3,r3⟩:=h3
    exact o u _ _ (g3.wz sg d.zs d.zc zn) (Rep.same (oy g3.sub zn) p r3)
   |exc c=>rw [z] at h3;exact h3.elim
   |bad=>exact absurd z ti
 case ht=>
  intro fR s1 σ' H1 Q1 I1 h1;obtain⟨rfl,rfl,q2⟩:=h1
  have Ku:=xE Lg (fV tb sg d.zs d.zc) rl
  have e6:=e5
  cases hi:idx.tail with
  |nil=>rw [hi] at e6;exact aC e6
  |cons i0 idx'=>
  rw [hi] at e6;unfold fm at e6;rw [zza] at e6;refine wpAny_Call_Name_kw (dq (X:=yf X.prog X.w X.K X.mg X.base (ps++ba scope) qual scope f (.ref c') cl X.A X.stack s (aD Z H) _) I1 e2 hm ?_ (cI e3).1);refine PySem.W.callWith_K (h₀:=X.base) I.ok.mod.Cb hk (bD (kP (F:=F) (X:=yf X.prog X.w X.K X.mg X.base (ps++ba scope) qual scope f (.ref c') cl X.A X.stack s (aD Z H) _) C.K (λi x hx=>?_) e5 pos fR s1 _ (aD Z H) (λF4 H2=>∃G2,aw W (aD Z G) (aD Z H) G2 H2/\ai W G2 qs F4) I1 ⟨aD Z H,aD Z G,(as++bg).map .val,(by rw [<-List.map_append];exact Ku),?_⟩) λus2 s2 ⟨F4,H2,I2,r2,G2,g2,ry⟩=>⟨I2.jn,?_⟩) (il e6.1 _ _) (kD e6.2)
  ·rcases List.mem_append.mp (zzD hx) with z|z
   ·exact .inl (S.par x z)
   ·exact .inr (.inr (S.JQ x z))
  ·rw [pB e5 hq];exact λF4 G1 H1 g1 t1=>⟨G1,g1,t1.rep (pE _)⟩
  ·refine gc (X:=yf X.prog X.w X.K X.mg X.base (ps++ba scope) qual scope f (.ref c') cl X.A X.stack s (aD Z H) _) (q:=none) (as:=qs) (G:=G2) (C.room.deeper _) FO hb (λz=>by rw [ry.length];exact hal qs z) I2 g2.sub (g2.tab (fV tb sg d.zs d.zc)) ry r2 ?_;cases z:F g qs with
   |ok p=>
    rw [z] at q2;exact λv G' H' g' rp=>q2 v H' ⟨G',g2.trans g',rp⟩
   |exc c=>
    intro pins3 G3 H3 s3 e s' I3 g3 x3;refine D6 pins3 _ H3 s3 e s' I3 (sD.imp x3 λCv ao H' y zn=>?_);obtain⟨C4,a4,G4,y1,y2,y3,y4,y5⟩:=y
    exact⟨c,rfl,C4,a4,_,y1,y2,y3,y4,((g2.trans g3).trans y5).wz sg d.zs d.zc zn⟩
   |bad=>exact absurd z ti
 case end_=>
  rw [KY] at hr;cases rr with
  |error e=>
   have hr:cS X.prog X.w X.stack H s (λCv ao H'=>∃c,F g qs=.exc c/\XE W c G H Cv ao H') e s':=hr
   cases z:F g qs with
   |ok q=>
    obtain⟨a,C',t,vs,H',B,rfl,Fl⟩:=hr
    obtain⟨c,e1,_⟩:=Fl.ends
    rw [z] at e1;cases e1
   |exc c=>
    rw [z] at o;refine o aa G H s e s' I (.refl sg) (sD.imp hr λC1 a H' y=>?_);obtain⟨c',e1,y⟩:=y
    rw [z] at e1;cases e1;exact y
   |bad=>exact absurd z ti
  |ok fl=>
   cases fl with
   |ret u=>exact I.after hr
   |next=>exact zzk hr
   |brk=>exact zzk hr
   |cont=>exact zzk hr
def sk(C:cb Γ F W N sc k X){i:Nat}{x:Str}{e:E}{es:Es}{p:Expr}{ps:List Expr}{np pos:Pos}(h:(N[i]?==some x&&fU sc x&&okN x)=true)(rA:dy (.cons e es)=true)(ha:GA X W F (.cons e es) (p::ps))
 (dj:starEach (p::ps) X.env=(false,eval p X.env)::starEach ps X.env) (hpl:(backTo pos (starEach ps X.env)).any (·.1)=false):GE X W F (.dP i (.cons e es)) (.Call (.Name x np) (p::ps) [] pos):=by
 simp! [zza,zzy] at h;obtain⟨h1,h2,h3⟩:=cI h.2
 intro aa s σ H Q I hq;obtain⟨H0,G,env,sr,o⟩:=hq
 rw [ax] at o;cases e1:env[i]? with
 |none=>rw [e1] at o;exact o.elim
 |some sl=>
  cases sl with
  |no=>rw [e1] at o;exact o.elim
  |val _=>rw [e1] at o;exact o.elim
  |own _=>rw [e1] at o;exact o.elim
  |fn g idx bg=>
   rw [e1] at o;obtain⟨o2,hs,v,rfl,cr⟩:=sr.slot i _ e1
   have HU:=cr
   obtain⟨f,c',oc,cM,t,fA,pm,params,body,scope,qual,cl,Z,ws,e2,d⟩:=HU
   subst e2;refine wpAny_Call_Name_kw (wpAny_mono (fD (i:=i) (by rw [C.hN];exact h.1.1) (ja C h.1.2) h1 h2 aa s σ H (λv' H1=>v'=.ref f/\H1=H) I ⟨_,hs,rfl,rfl⟩) (λu s1 hu=>?_) λ_ _ y=>y)
   obtain⟨v',H1,I1,ru,rfl,rfl⟩:=hu
   cases ru;refine PySem.W.callWith_F ⟨_,_,_,_,(I1.aO _ _ (sr.sub _ _ d.fo)).1⟩ (bD (ha pos aa s1 σ H1 (λvs H2=>∃G2 as qs,av G2 H2/\bM W G2 H2/\ai W G2 as vs/\lG W G2 g idx bg (.ref f)/\G2 f=some (.bI (PySem.W.kla_obj "<lambda>" qual params body scope cl pm c' fA) bH)/\idx.head?=some as.length/\dr (as++bg) idx.tail=.ok qs/\Out X W (F g qs) σ G2 H2 λp=>cm W G2 H2 p Q) I1 ?_) λus s2 ⟨vs,H2,I2,r,q⟩=>?_) dj hpl
   ·refine args sr o λas vs G1 H2 g1 t1 bb o1=>?_
    split at o1
    ·rename_i hn;cases hq:dr (as++bg) idx.tail with
     |ok qs=>
      rw [hq] at o1;have mP:Out X W (F g qs) σ G1 H2 _:=o1
      exact⟨G1,as,qs,bb.sub,bb.tab,t1.rep rA,cr.same g1.g,g1.g _ _ d.fo,hn,hq,mP.imp λp hp v G' H' g' rp=>hp v G' H' (g1.trans g') (.of rp)⟩
     |exc c=>exact absurd hq (eF c)
     |bad=>rw [hq] at o1;exact o1.elim
    ·exact o1.elim
   ·obtain⟨G2,as,qs,sg,tb,l,cr2,fo2,hn,hqs,o2⟩:=q
    exact⟨⟨_,_,_,_,(I2.aO _ _ (sg _ _ fo2)).1⟩,qd C I2 sg tb cr2 l r hn hqs o2⟩
def qI(C:cb Γ F W N sc k X){i:Nat}{x:Str}{np pos:Pos}(h:(N[i]?==some x&&fU sc x&&okN x)=true):GE X W F (.dP i .nil) (.Call (.Name x np) [] [] pos):=by
 simp! [zza,zzy] at h;obtain⟨h1,h2,h3⟩:=cI h.2
 intro aa s σ H Q I hq;obtain⟨H0,G,env,sr,o⟩:=hq
 rw [ax] at o;cases e1:env[i]? with
 |none=>rw [e1] at o;exact o.elim
 |some sl=>
  cases sl with
  |no=>rw [e1] at o;exact o.elim
  |val _=>rw [e1] at o;exact o.elim
  |own _=>rw [e1] at o;exact o.elim
  |fn g idx bg=>
   rw [e1] at o;obtain⟨o2,hs,v,rfl,cr⟩:=sr.slot i _ e1
   have HU:=cr
   obtain⟨f,c',oc,cM,t,fA,pm,params,body,scope,qual,cl,Z,ws,e2,d⟩:=HU
   subst e2;refine wpAny_Call_Name_kw (wpAny_mono (fD (i:=i) (by rw [C.hN];exact h.1.1) (ja C h.1.2) h1 h2 aa s σ H (λv' H1=>v'=.ref f/\H1=H) I ⟨_,hs,rfl,rfl⟩) (λu s1 hu=>?_) λ_ _ y=>y)
   obtain⟨v',H1,I1,ru,rfl,rfl⟩:=hu
   cases ru;refine PySem.W.callWith_F0 ⟨_,_,_,_,(I1.aO _ _ (sr.sub _ _ d.fo)).1⟩ ?_;rw [bj] at o;have o:Out X W (if idx.head?=some 0 then(dr ([]++bg) idx.tail).bind λqs=>F g qs else .bad) σ G H1 _:=o
   split at o
   ·rename_i hn;cases hq:dr ([]++bg) idx.tail with
    |ok qs=>
     rw [hq] at o;have o':Out X W (F g qs) σ G H1 _:=o
     exact qd C I1 sr.sub sr.tab cr (show ai W G [] [] from .nil) .nil hn hq (o'.imp λp hp v G' H' g' rp=>hp v G' H' g' (.of rp))
    |exc c=>exact absurd hq (eF c)
    |bad=>rw [hq] at o;exact o.elim
   ·exact o.elim
def qb(X:Cx)(W:Wd)(params:Arguments)(body:Expr)(scope:Scope)(cl:List (Str×Addr))(G1 H1 G2 H2:Hp)(f:Addr):Prop:=aw W G1 H1 G2 H2/\∃c' oc cM t fA pm,G2 f=some (.bI (PySem.W.kla_obj "<lambda>" (X.env.qual++"<lambda>") params body scope cl pm c' fA) bH)/\G2 c'=some (.bI oc bH)/\oc.data=.fields cM/\cM[1]?=some (.str (X.env.qual++"<lambda>") t)
def BX(C:cb Γ F W N sc k X)(hl:Γ.hl=true){params:Arguments}{ps:List Str}{body:Expr}{scope:Scope}{pos:Pos}{cl:List (Str×Addr)}(hp:ny params=some ps)(yy:closureFor scope X.env=pure cl):
 PE X (.Lambda params body scope pos) (λσ H Q=>∃G,av G H/\bM W G H/\∀f G2 H2,qb X W params body scope cl G H G2 H2 f->Q (.ref f) H2):=by
 intro aa s σ H Q I h;obtain⟨G,sg,tb,q⟩:=h
 obtain⟨c,P,pR,CH,hts,huq⟩:=C.tb hl
 obtain⟨nG,iq,hP,tr,al⟩:=tb P _ hts
 refine L2.u6 (R:=λc' oc=>G c'=some (.bI oc bH)) I hP tr pR CH (C.bm hl) yy (xZ hp) (λcv e=>?_) λf c' oc cM t fA mJ h' tk hf hc B3 KC Lu hd hv KN Kw more I'=>?_
 ·obtain⟨c',oc,cM,t,e1,e2,e3,e4⟩:=al pos cv e
  exact⟨c',oc,cM,t,e1,sg _ _ e2,e2,e3,e4⟩
 ·have Lm:G f=none:=sg.free hf
  have Kq:G c'=none\/G c'=some (.bI oc bH):=by
   rcases hc with z|z
   ·exact .inl (sg.free z)
   ·exact .inr z.2
  have fo:∀fo,eR H P mJ c' oc f fo f=some (.bI fo bH):=λfo=>by unfold eR;rw [aq]
  have sG:∀fo,av G (upd (upd G c' (.bI oc bH)) f (.bI fo bH)):=λfo b u e=>by
   have vT:b≠f:=λz=>by rw [z,Lm] at e;cases e
   rw [af vT]
   by_cases hb:b=c'
   ·subst hb;rw [aq];rcases Kq with z|z
    ·rw [z] at e;cases e
    ·rw [z] at e;exact e
   ·rw [af hb];exact e
  have Gn:∀fo a,H a≠none->(∀vs,H a≠some (.tup vs))->G a=none->(upd (upd G c' (.bI oc bH)) f (.bI fo bH)) a=none:=λfo a h1 _ h2=>by
   have KO:a≠f:=λz=>h1 (by rw [z];exact hf)
   rw [af KO]
   by_cases ha:a=c'
   ·subst ha;rcases hc with z|z
    ·exact absurd z h1
    ·rw [z.2] at h2;cases h2
   ·rw [af ha];exact h2
  refine⟨.ref f,_,I',rfl,q f (upd (upd G c' (.bI oc bH)) f (.bI _ bH)) _ ⟨⟨sG _,λb u e=>?_,λb u e=>?_,Gn _,λ_ P' q' m=>?_⟩,c',oc,cM,t,fA,(X.mg "__name__").getD .none,aq,by rw [af B3,aq],hd,hv⟩⟩
  ·have vT:b≠f:=λz=>by rw [z,hf] at e;cases e
   by_cases Ce:b=P
   ·subst Ce;rw [hP] at e;cases e;obtain⟨m,rfl⟩:=more
    exact .inr ⟨iq,m,rfl,by unfold eR;rw [af (Ne.symm KC),af (Ne.symm Lu),aq]⟩
   ·have e2:eR H P mJ c' oc f (PySem.W.kla_obj "<lambda>" (X.env.qual++"<lambda>") params body scope cl ((X.mg "__name__").getD .none) c' fA) b=H b:=by
     unfold eR;rw [af vT]
     by_cases hb:b=c'
     ·subst hb;rw [aq];rcases hc with z|z
      ·rw [z] at e;cases e
      ·rw [z.1]
     ·rw [af hb,af Ce]
    rw [e2];exact er.refl H b u e
  ·by_cases vT:b=f
   ·subst vT;rw [aq] at e;rw [fo];exact e
   ·rw [af vT] at e;unfold eR;rw [af vT]
    by_cases hb:b=c'
    ·subst hb;rw [aq] at e⊢;exact e
    ·rw [af hb] at e⊢;have Ce:b≠P:=λz=>by rw [z,nG] at e;cases e
     rw [af Ce];exact sg _ _ e
  ·obtain⟨n1,qs,vG,tr1,al1⟩:=tb P' q' m
   have Hl:P'≠f:=λz=>by rw [z,hf] at vG;cases vG
   have fG:P'≠c':=λz=>by
    rcases hc with y|y
    ·rw [z,y] at vG;cases vG
    ·rw [z,y.1] at vG;cases vG
   refine⟨by rw [af Hl,af fG];exact n1,?_⟩
   by_cases hPP:P'=P
   ·subst hPP;rw [hP] at vG;cases vG;refine⟨mJ,by unfold eR;rw [af Hl,af fG,aq],KN,λpos' cv y=>?_⟩
    rcases Kw pos' cv y with y|y
    ·obtain⟨c2,oc2,cvs2,t2,e1,e2,e3,e4⟩:=al1 pos' cv y
     exact⟨c2,oc2,cvs2,t2,e1,sG _ _ _ e2,e3,e4⟩
    ·exact⟨c',oc,cM,t,y,by rw [af B3,aq],hd,by rw [huq q' m];exact hv⟩
   ·refine⟨qs,by unfold eR;rw [af Hl,af fG,af hPP];exact vG,tr1,λpos' cv y=>?_⟩
    obtain⟨c2,oc2,cvs2,t2,e1,e2,e3,e4⟩:=al1 pos' cv y
    exact⟨c2,oc2,cvs2,t2,e1,sG _ _ _ e2,e3,e4⟩
structure su(N:List Str)(sc:Scope)(g:Str)(idx aL:List Nat)(params:Arguments)(body:Expr)(scope:Scope):Prop where
 lb:xg g idx params body scope=true
 cn:aL.map (λi=>N[i]?)=(ba scope).map some
 cc:∀y∈ba scope,sc.names.lookup y=some .cell
noncomputable def CL(X:Cx)(W:Wd)(F:bz)(N:List Str)(sc:Scope)(g:Str)(idx aL:List Nat)(es:Es):TA:=λσ H Q=>∃H0 G env,SR W H0 env σ G H/\Out X W (bj F es env) σ G H λas=>∀vs G1 H1,aw W G H G1 H1->ai W G1 as vs->∀params body scope f G2 H2,su N sc g idx aL params body scope->qb X W params body scope (bw X.env (ba scope)) G1 H1 G2 H2 f->Q (vs++[.ref f]) H2
def tm(C:cb Γ F W N sc k X)(ok:X.Ok){g:Str}{idx aL:List Nat}{params:Arguments}{body:Expr}{scope:Scope}(a:su N sc g idx aL params body scope):closureFor scope X.env=pure (bw X.env (ba scope)):=by
 refine ia λy hy hf=>ok.has y.1 (.inl ?_)
 show X.env.scope.names.lookup y.1=_
 rw [C.cZ];refine a.cc y.1 ?_;unfold ba;rw [List.mem_reverse,zzx];exact⟨y,List.mem_filter.mpr ⟨hy,by rw [hf];rfl⟩,rfl⟩
def vV(C:cb Γ F W N sc k X)(hl:Γ.hl=true){g:Str}{idx aL:List Nat}{params:Arguments}{body:Expr}{scope:Scope}{pos:Pos}(a:su N sc g idx aL params body scope):PA X [.Lambda params body scope pos] (CL X W F N sc g idx aL .nil):=by
 obtain⟨ps,_,_,_,_,e1,_⟩:=qo a.lb
 intro pos' aa s σ H Q I h;refine bu (BX C hl e1 (tm C I.ok a)) cQ rfl pos' aa s σ H Q I ?_;obtain⟨H0,G,env,sr,o⟩:=h
 rw [bj] at o;refine⟨G,sr.sub,sr.tab,λf G2 H2 m=>?_⟩
 exact o [] G H (.refl sr.sub) .nil params body scope f G2 H2 a m
theorem sF{g:Str}{idx aL:List Nat}{e:E}{es:Es}{p:Expr}{ps:List Expr}(rA:dy (.cons e es)=true)(he:GE X W F e p)(hs:PA X ps (CL X W F N sc g idx aL es))(dj:starEach (p::ps) X.env=(false,eval p X.env)::starEach ps X.env):PA X (p::ps) (CL X W F N sc g idx aL (.cons e es)):=
 L2.PA.imp (bu he hs dj) λσ H Q h=>by
  obtain⟨H0,G,env,sr,o⟩:=h
  rw [bj] at o;unfold dy at rA;rw [zza] at rA;refine one sr o λq v G1 H1 g1 t1 bb o1=>⟨H0,G1,env,bb,o1.bind.imp λas ha vs G2 H2 g2 l=>?_⟩
  intro params body scope f G3 H3 la lm;have:=ha (v::vs) G2 H2 (g1.trans g2) (.cons (Rep.same g2.g q (t1.rep rA.1)) l) params body scope f G3 H3 la lm
  simpa using this
def lookup_all{Z:List (Addr×Obj)}{h:Heap}(ha:∀q∈Z,h.get? q.1=some q.2):∀{c:Addr} {o:Obj},(c,o)∈Z->Z.lookup c=some o:=by
 induction Z with
 |nil=>intro c o m;cases m
 |cons q Z ih=>
  intro c o m;obtain⟨c1,o1⟩:=q
  rw [zz5];cases e:c==c1 with
  |true=>
   have e2:=zzy.mp e
   subst e2;have h1:=ha (c,o1) zzP
   have h2:h.get? c=some o:=ha (c,o) m
   rw [h1] at h2;exact h2
  |false=>
   rcases zzm.mp m with z|z
   ·cases z;simp at e
   ·exact ih (λq hq=>ha q (zzI _ hq)) z
theorem mQ{H0 G H:Hp}{env:Sl}{σ:St}(sr:SR W H0 env σ G H):∀{aL:List Nat} {cs:List PV},gu env aL=.ok cs->∃ws:List V,ai W G cs ws/\ws.length=aL.length/\∀(j:Nat) (i:Nat),aL[j]?=some i->∃v,ws[j]?=some v/\σ[i]?=some (some v)
 |[],cs,h=>by
  unfold gu at h;cases h;exact⟨[],.nil,rfl,λj i e=>by simp at e⟩
 |i::aL,cs,h=>by
  unfold gu at h;obtain⟨p,hp,h⟩:=Res.aZ h
  obtain⟨ps,g8,h⟩:=Res.aZ h
  cases h;have hs:env[i]?=some (.val p):=by
   cases e:env[i]? with
   |none=>rw [e] at hp;cases hp
   |some s=>rw [e] at hp;cases s<;>cases hp;rfl
  obtain⟨o,h1,v,rfl,rv⟩:=sr.slot i _ hs
  obtain⟨ws,l1,l2,l3⟩:=mQ sr g8
  refine⟨v::ws,.cons rv l1,by simp [l2],λj k e=>?_⟩
  cases j with
  |zero=>simp at e;subst e;exact⟨v,rfl,h1⟩
  |succ j=>simpa using l3 j k (by simpa using e)
theorem iQ{env:Sl}(c:Str):∀{aL:List Nat},gu env aL≠.exc c
 |[]=>λz=>nomatch z
 |i::aL=>λz=>by
  unfold gu at z;rcases Res.cG z with z|⟨p,_,z⟩
  ·cases e:env[i]? with
   |none=>rw [e] at z;cases z
   |some s=>rw [e] at z;cases s<;>cases z
  ·rcases Res.cG z with z|⟨ps,_,z⟩
   ·exact iQ c z
   ·cases z
def rD(C:cb Γ F W N sc k X)(hl:Γ.hl=true){q:Hs}{aL:List Nat}{fa:Addr}{fd:FuncData}{pn:List Str}(FO:eT X.prog X.w X.K X.mg X.base (cS X.prog X.w) k fa fd pn (rW W F q.f pn.length (some (q.g,q.idx))))(hb:Binds X.K fd pn []){aa:List (Addr×Obj)}{σ:St}{H0 G H:Hp}{env:Sl}{s:Shared}{Q:VK}{us:List Value}{vs:List V}{as cs:List PV}{params:Arguments}{body:Expr}{scope:Scope}{f c':Addr}{oc:Obj}{cM:Array Value}{t:Tok}{fA pm:Value}
 (I:Inv X aa σ H s) (sr:SR W H0 env σ G H) (a:su N sc q.g q.idx aL params body scope) (AW:gu env aL=.ok cs) (l:ai W G as vs) (fo:G f=some (.bI (PySem.W.kla_obj "<lambda>" (X.env.qual++"<lambda>") params body scope (bw X.env (ba scope)) pm c' fA) bH)) (co:G c'=some (.bI oc bH)) (cd:oc.data=.fields cM) (cn:cM[1]?=some (.str (X.env.qual++"<lambda>") t))
 (hlen:(vs++[V.ref f]).length=pn.length) (r:Vals (vs++[.ref f]) us) (o:Out X W (F q.f (as++cs)) σ G H λp=>cm W G H p Q):wpAny (model X.prog X.w) X.A (call (.ref fa) us) (EP X aa σ Q) X.xe s:=by
 have ti:F q.f (as++cs)≠.bad:=λz=>by rw [z] at o;exact o
 obtain⟨ws,rws,lws,pws⟩:=mQ sr AW
 have iL:∀y∈ba scope,∃c,X.env.cells.lookup y=some c:=λy hy=>I.ok.has y (.inl (by show X.env.scope.names.lookup y=_;rw [C.cZ];exact a.cc y hy))
 have call:((ba scope).all λy=>(X.env.cells.lookup y).isSome)=true:=zzT.mpr λy hy=>by obtain⟨c,e⟩:=iL y hy;rw [e];rfl
 let Z:List (Addr×Obj):=(ba scope).filterMap λy=>(X.env.cells.lookup y).bind λc=>(s.heap.get? c).map λo=>(c,o)
 have Ei:∀q∈Z,∃y,y∈ba scope/\X.env.cells.lookup y=some q.1/\s.heap.get? q.1=some q.2:=λq hq=>by
  obtain⟨y,hy,e⟩:=zz1.mp hq
  obtain⟨c,hc,e⟩:=zzZ.mp e
  obtain⟨o,ho,rfl⟩:=zzJ.mp e
  exact⟨y,hy,hc,ho⟩
 have HE:∀q∈Z,s.heap.get? q.1=some q.2:=λq hq=>let⟨_,_,_,h⟩:=Ei q hq;h
 have IK:∀y c o,y∈ba scope->X.env.cells.lookup y=some c->s.heap.get? c=some o->Z.lookup c=some o:=λy c o hy hc ho=>lookup_all HE (zz1.mpr ⟨y,hy,by rw [hc];show(s.heap.get? c).map _=_;rw [ho];rfl⟩)
 have CZ:∀b o,Z.lookup b=some o->∃y,y∈ba scope/\X.env.cells.lookup y=some b/\s.heap.get? b=some o:=λb o e=>by
  obtain⟨y,h1,h2,h3⟩:=Ei (b,o) (PySem.W.mem_of_lookupK e)
  exact⟨y,h1,h2,h3⟩
 have zc:∀b o,Z.lookup b=some o->∃v,o.data=.cell v:=λb o e=>by
  obtain⟨y,_,h2,h3⟩:=CZ b o e
  obtain⟨v,o',h4,h5⟩:=I.cell y b h2
  rw [h3] at h4;cases h4;exact⟨v,h5⟩
 have Dv:∀b o,Z.lookup b=some o->H b=none:=λb o e=>by obtain⟨y,_,h2,_⟩:=CZ b o e;exact I.dt y b h2
 have JE:∀b o,Z.lookup b=some o->G b=none:=λb o e=>sr.sub.free (Dv b o e)
 have l5:∀b u,G b=some u->Z.lookup b=none:=λb u e=>by
  cases y:Z.lookup b with
  |none=>rfl
  |some o=>rw [JE b o y] at e;cases e
 have EO:∀x c,(bw X.env (ba scope)).lookup x=some c->X.env.cells.lookup x=some c:=dw call
 have Io:∀x c,(bw X.env (ba scope)).lookup x=some c->x∈ba scope:=λx c e=>by
  have:=PySem.mem_of_lookup e
  unfold bw at this;obtain⟨y,hy,e2⟩:=zzx.mp this
  cases e2;exact hy
 have JZ:∀b o,Z.lookup b=some o->X.s₀.heap.objs.size<=b:=λb o e=>by
  obtain⟨y,_,h2,_⟩:=CZ b o e
  exact I.ok.AH y b (C.fl hl y) h2
 have Ck:oV Z H (df X.stack) s.heap:=⟨λb o e=>let⟨_,_,_,h⟩:=CZ b o e;h,Dv,λb o e GQ=>by
  obtain⟨y,_,h2,h3⟩:=CZ b o e
  rcases zzm.mp (I.gj b GQ) with z|z
  ·exact I.se y b h2 z
  ·obtain⟨_,o',h4,_⟩:=I.ok.eC.mem z
   exact absurd (zzO h4) (Nat.not_lt.mpr (JZ b o e))⟩
 have zb:∀b o,Z.lookup b=some o->X.base.get? b=none:=λb o e=>by
  cases y:X.base.get? b with
  |none=>rfl
  |some o'=>exact absurd (zzO (I.ok.bs b o' y).1) (Nat.not_lt.mpr (JZ b o e))
 have KG:(ba scope).length=aL.length:=by have:=congrArg List.length a.cn;simpa using this.symm
 have cr:lG W (aI Z G) q.g q.idx cs (.ref f):=by
  refine⟨f,c',oc,cM,t,fA,pm,params,body,scope,_,bw X.env (ba scope),Z,ws,rfl,⟨a.lb,by rw [ag (l5 f _ fo)];exact fo,by rw [ag (l5 c' _ co)];exact co,cd,cn,l5 f _ fo,l5 c' _ co,λx y c h1 h2=>I.ok.inj x y c (EO x c h1) (EO y c h2),λy hy=>fY hy,λx c h=>?_,λb o e=>aR e,zc,λi y c h1 h2 v h3=>?_,by rw [lws,KG],by rw [mB JE];exact rws⟩⟩
  ·obtain⟨v,o,h1,h2⟩:=I.cell x c (EO x c h)
   exact⟨o,v,IK x c o (Io x c h) (EO x c h) h1,h2⟩
  ·have hi:i<aL.length:=by rw [<-lws];exact(zzH.mp h3).1
   obtain⟨v',q1,q2⟩:=pws i aL[i] (zzg hi)
   rw [h3] at q1;cases q1;have Kf:X.N[aL[i]]?=some y:=by
    rw [C.hN];have:=congrArg (λl=>l[i]?) a.cn
    simp! [zzQ,h1,zzg hi,Option.map_some] at this;exact zzq this
   obtain⟨m,_,hloc⟩:=I.loc
   obtain⟨u,ru,lk⟩:=hloc aL[i] y v Kf q2 (.inr (.inl (by rw [C.cZ];exact a.cc y (zzD h1))))
   have Dm:=EO y c h2
   rcases lk with⟨z,_⟩|⟨_,c2,hc2,o,ho,hd⟩
   ·have z2:X.env.scope.names.lookup y=some .local:=z
    rw [C.cZ,a.cc y (zzD h1)] at z2;cases z2
   ·rw [Dm] at hc2;cases hc2;exact⟨u,o,ru,IK y c o (zzD h1) Dm ho,hd⟩
 have HI:us.length=pn.length:=by rw [<-r.length];exact hlen
 have g6:=hb s us I.jn (by rw [zz6];exact HI)
 rw [zz6] at g6;have La:ai W (aI Z G) as vs:=ai.same (λb u e=>by rw [ag (l5 b u e)];exact e) as l
 have Kl:∀G' H',aw W (aI Z G) (aI Z H) G' H'->∀b o,Z.lookup b=some o->G' b=some (.bI o bH):=λG' H' g b o e=>g.g _ _ (aR e)
 refine wpAny_call (codeAny_mono (FO.run X.A X.stack s (aI Z H) ⟨us,[]⟩ us _ (λv H'=>Q v (aD Z H')) (λCv ao H'=>∃c,F q.f (as++cs)=.exc c/\XE W c G H Cv ao (aD Z H')) C.rm (I.uX.aI Ck zb) g6 r ⟨hlen,aI Z G,as++cs,rh sr.sub,mm sr.tab sr.sub Dv,⟨as,cs,vs,.ref f,rfl,rfl,La,cr⟩,?_⟩) λrr s' hr=>?_)
 ·cases z:F q.f (as++cs) with
  |ok p=>
   rw [z] at o;exact λv G' H' g' rp=>o v _ _ (g'.lz sr.sub zc Dv) (Rep.less (Kl G' H' g') p rp)
  |exc c=>
   intro Cv ao H' y;obtain⟨C4,a4,G4,y1,y2,y3,y4,y5⟩:=y
   exact⟨c,rfl,C4,a4,_,y1,y2,y3,y4,y5.lz sr.sub zc Dv⟩
  |bad=>exact absurd z ti
 ·cases rr with
  |error e=>
   have hr:cS X.prog X.w X.stack H s (λCv ao H'=>∃c,F q.f (as++cs)=.exc c/\XE W c G H Cv ao H') e s':=cS.less Ck hr
   cases z:F q.f (as++cs) with
   |ok q=>
    obtain⟨a,C',t,vs,H',B,rfl,Fl⟩:=hr
    obtain⟨c,e1,_⟩:=Fl.ends
    rw [z] at e1;cases e1
   |exc c=>
    rw [z] at o;refine o aa G H s e s' I (.refl sr.sub) (sD.imp hr λC1 a H' y=>?_);obtain⟨c',e1,y⟩:=y
    rw [z] at e1;cases e1;exact y
   |bad=>exact absurd z ti
  |ok fl=>
   cases fl with
   |ret u=>exact I.after (CE.less Ck hr)
   |next=>exact zzk hr
   |brk=>exact zzk hr
   |cont=>exact zzk hr
def mW(C:cb Γ F W N sc k X)(hl:Γ.hl=true){q:Hs}(hq:q∈Γ.hs){aL:List Nat}{es:Es}{p:Expr}{ps:List Expr}{np pos:Pos}(hg:ff sc q.h=true)(ho:okN q.h=true)(hn:q.np=dg es+1)(ha:PA X (p::ps) (CL X W F N sc q.g q.idx aL es))
 (dj:starEach (p::ps) X.env=(false,eval p X.env)::starEach ps X.env) (hpl:(backTo pos (starEach ps X.env)).any (·.1)=false):GE X W F (.cT q.f es q.g q.idx aL) (.Call (.Name q.h np) (p::ps) [] pos):=by
 intro aa s σ H Q I h;obtain⟨H0,G,env,sr,o⟩:=h
 rw [ax] at o;obtain⟨fa,fd,pn,FO,hm,hk,hb,hpn⟩:=(C.lU q hq).ex
 refine wpAny_Call_Name_kw (dq I (cJ C hg) hm ?_ (cI ho).1);refine PySem.W.callWith_K (h₀:=X.base) I.ok.mod.Cb hk (bD (ha pos aa s σ H (λvs H2=>∃G2 as cs pL params body scope f c' oc cM t fA pm,vs=pL++[.ref f]/\as.length=dg es/\SR W H0 env σ G2 H2/\su N sc q.g q.idx aL params body scope/\gu env aL=.ok cs/\ai W G2 as pL/\G2 f=some (.bI (PySem.W.kla_obj "<lambda>" (X.env.qual++"<lambda>") params body scope (bw X.env (ba scope)) pm c' fA) bH)/\G2 c'=some (.bI oc bH)/\oc.data=.fields cM/\cM[1]?=some (.str (X.env.qual++"<lambda>") t)/\Out X W (F q.f (as++cs)) σ G2 H2 λp=>cm W G2 H2 p Q) I ?_) λus s1 ⟨vs,H1,I1,r,y⟩=>⟨I1.jn,?_⟩) dj hpl
 ·refine⟨H0,G,env,sr,?_⟩;cases e1:bj F es env with
  |bad=>rw [e1] at o;exact o
  |exc c=>rw [e1] at o;exact o
  |ok as=>
   rw [e1] at o;have o:Out X W ((gu env aL).bind λcs=>F q.f (as++cs)) σ G H _:=o
   cases e2:gu env aL with
   |bad=>rw [e2] at o;exact o.elim
   |exc c=>exact absurd e2 (iQ c)
   |ok cs=>
    rw [e2] at o;have o:Out X W (F q.f (as++cs)) σ G H _:=o
    intro vs G1 H1 g1 l params body scope f G2 H2 la lm;obtain⟨g2,c',oc,cM,t,fA,pm,m1,m2,m3,m4⟩:=lm
    exact⟨G2,as,cs,vs,params,body,scope,f,c',oc,cM,t,fA,pm,rfl,eE e1,(sr.grow g1).grow g2,la,rfl,ai.same g2.g as l,m1,m2,m3,m4,(o.grow (g1.trans g2)).imp λp hp v G' H' g' rp=>hp v G' H' ((g1.trans g2).trans g') (.of rp)⟩
 ·obtain⟨G2,as,cs,pL,params,body,scope,f,c',oc,cM,t,fA,pm,rfl,hal,gX,la,uY,l,m1,m2,m3,m4,o2⟩:=y
  exact rD C hl FO hb I1 gX la uY l m1 m2 m3 m4 (by rw [zzM,l.length,hal,hpn,hn];rfl) r o2
end
end Ci
namespace L2
open PySem PySem.Spec PyProof.Rows
end L2
namespace Ci
open PySem L2
section
variable{Γ:Pg}{W:Wd}{F:bz}{k:Nat}
def yS{X:Cx}{e:E}{p:Expr}(h:GE X W F e p)(he:∀whole,isTrue p X.env whole=(do let v<-whole;standAt p.pos;holding [v] (truthy v))):GT X W F e p:=
 L2.PT.imp (yW h he) λσ H Q hq=>yA σ H Q hq
theorem t7{N:List Str}{sc:Scope}:∀{es:Es} {ps:List Expr},dv Γ N sc es ps=true->∀env pos,(backTo pos (starEach ps env)).all (λx=>!x.1)=true
 |.nil,[],_,_,_=>rfl
 |.cons e es,p::ps,h,env,pos=>by
  replace h:=ak h
  rw [notStar h.1];show(true&&(backTo pos (starEach ps env)).all (λx=>!x.1))=true
  rw [t7 h.2]
  rfl
 |.nil,_::_,h,_,_=>aC h
 |.cons _ _,[],h,_,_=>aC h
theorem sU{N:List Str}{sc:Scope}:∀{es:Es} {ps:List Expr},dv Γ N sc es ps=true->ps.length=dg es
 |.nil,[],_=>rfl
 |.cons e es,p::ps,h=>by
  replace h:=ak h
  rw [zzL,sU h.2]
  rfl
 |.nil,_::_,h=>aC h
 |.cons _ _,[],h=>aC h
structure Jj(X:Cx)(W:Wd)(F:bz)(e:E)(p:Expr):Prop where
 ge:GE X W F e p
 gt:eK e=true->GT X W F e p
 gw:eK e=true->∀op vs pos,p=.BoolOp op vs pos->GW X W F e p
def aQ{X:Cx}{e:E}{p:Expr}(h:GE X W F e p)(he:∀whole,isTrue p X.env whole=(do let v<-whole;standAt p.pos;holding [v] (truthy v)))(hb:∀op vs pos,p≠.BoolOp op vs pos):Jj X W F e p:=
 ⟨h,λ_=>yS h he,λ_ op vs pos e=>absurd e (hb op vs pos)⟩
def isTrue_plain{p:Expr}{env:Env}(h:(match p with|.UnaryOp .Not _ _=>false|.BoolOp .. =>false|.IfExp .. =>false|.Compare .. =>false|_=>true)=true):∀whole,isTrue p env whole=(do let v<-whole;standAt p.pos;holding [v] (truthy v)):=by
 intro whole;cases p with
 |UnaryOp op a pos=>cases op<;>first|rfl|(exact aC h)
 |BoolOp _ _ _=>exact aC h
 |IfExp _ _ _ _=>exact aC h
 |Compare _ _ _ _=>exact aC h
 |_=>rfl
def nt{po:Expr}{m:Str}{env:Env}(h:qf po=true):attributeBase po m env (eval po env)=eval po env:=by
 cases po<;>first|rfl|(exact aC h)
theorem gK{N:List Str}{sc:Scope}{g:Str}{idx aL:List Nat}:∀{es:Es} {ps:List Expr},pP Γ N sc g idx aL es ps=true->∀env pos,(backTo pos (starEach ps env)).any (·.1)=false
 |.cons e es,p::ps,h,env,pos=>by
  replace h:=ak h
  rw [notStar h.1];show(false||(backTo pos (starEach ps env)).any (·.1))=false
  rw [gK h.2]
  rfl
 |.nil,ps,h,env,pos=>by
  obtain⟨p,e1,h⟩:=ah h
  obtain⟨l,e2,_⟩:=ah h
  rw [b8 e1];obtain⟨_,rfl⟩:=oM e2
  rfl
 |.cons _ _,[],h,_,_=>aC h
def BF{X:Cx}{q:PV}{c:Const}{kk:Nat}{pos:Pos}(h:DO q c=true):GE X W F (.cst q) (.Constant c kk pos):=by
 cases q with
 |bO=>cases AG h;exact c9 zM λG=>.n
 |bl b=>
  obtain⟨x,e,h⟩:=ah h
  cases A0 e;cases eq_of_beq h;exact c9 CC λG=>.b
 |int i=>
  obtain⟨x,e,h⟩:=ah h
  cases Ai e;cases eq_of_beq h;exact c9 sI λG=>.i
 |str z=>
  obtain⟨x,e,h⟩:=ah h
  cases vx e;cases eq_of_beq h;exact c9 kF λG=>.s
 |_=>exact aC h
def sx{α:Type}{r:Res α}{c:α->Prop} [∀a,Decidable (c a)]{f:α->Res (List PV)}{q:PV}(e:(r.bind λa=>if c a then(f a).bind λys=>.ok (.lst ys) else .bad)=.ok q):∃ys,q=.lst ys:=by
 obtain⟨ps,_,e⟩:=Res.aZ e
 split at e
 ·obtain⟨ys,_,e⟩:=Res.aZ e
  cases e;exact⟨_,rfl⟩
 ·cases e
def qi{kk:Nat}{aL:List Nat}{tg:Tg}{it:I}{elt:E}(env:Sl)(q:PV)(e:ax F (.comp kk aL tg it elt) env=.ok q):∃ys,q=.lst ys:=by
 rw [ax] at e;exact sx e
def j7{kk:Nat}{aL:List Nat}{tg:Tg}{it:I}{c elt:E}(env:Sl)(q:PV)(e:ax F (.dc kk aL tg it c elt) env=.ok q):∃ys,q=.lst ys:=by
 rw [ax] at e;exact sx e
mutual
theorem aX:∀(e:E) {Γ:Pg} {N:List Str} {sc:Scope} {X:Cx} (C:cb Γ F W N sc k X) (p:Expr),aU Γ N sc e p=true->Jj X W F e p
 |.var i,Γ,N,sc,X,C,p,h=>by
  obtain⟨x,_,rfl,h9⟩:=Cu h
  clear h
  have h:=h9
  clear h9
  exact aQ (Aq C h) (λ_=>rfl) (λ_ _ _ z=>nomatch z)
 |.oY i,Γ,N,sc,X,C,p,h=>by
  obtain⟨x,_,rfl,h9⟩:=Cu h
  clear h
  have h:=h9
  clear h9
  exact aQ (zP C h) (λ_=>rfl) (λ_ _ _ z=>nomatch z)
 |.cst q,Γ,N,sc,X,C,p,h=>by
  obtain⟨c,_,_,rfl,h9⟩:=KH h
  clear h
  have h:=h9
  clear h9
  refine aQ (BF h) (λ_=>rfl) (λ_ _ _ z=>nomatch z)
 |.glob g q,Γ,N,sc,X,C,p,h=>by
  obtain⟨x,_,rfl,h9⟩:=Cu h
  clear h
  have h:=h9
  clear h9
  exact aQ (xJ C h) (λ_=>rfl) (λ_ _ _ z=>nomatch z)
 |.call f as,Γ,N,sc,X,C,p,h=>by
  obtain⟨g,args,_,_,rfl,h9⟩:=vH h
  clear h
  have h:=h9
  clear h9
  replace h:=ak h
  try simp! [zza,zzy] at h
  obtain⟨⟨⟨⟨⟨rfl,h1⟩,h2⟩,h3⟩,h4⟩,h5⟩:=h
  have ga:=fj as C args h5
  cases as with
  |nil=>
   cases args with
   |nil=>exact aQ (uZ C h1 h2 h3) (λ_=>rfl) (λ_ _ _ z=>nomatch z)
   |cons _ _=>exact aC h5
  |cons e es=>
   cases args with
   |nil=>exact aC h5
   |cons q qs=>
    have h6:=ak h5
    exact aQ (wy C h1 h2 h3 h4 ga (notStar h6.1 _ _) (cu h6.2 _ _)) (λ_=>rfl) (λ_ _ _ z=>nomatch z)
 |.dP i as,Γ,N,sc,X,C,p,h=>by
  obtain⟨g,args,_,_,rfl,h9⟩:=vH h
  clear h
  have h:=h9
  clear h9
  replace h:=ak h
  simp! [zza] at h;obtain⟨⟨⟨⟨h1,h2⟩,h3⟩,h4⟩,h5⟩:=h
  have ga:=fj as C args h5
  cases as with
  |nil=>
   cases args with
   |nil=>exact aQ (qI C (by rw [h1,h2,h3];rfl)) (λ_=>rfl) (λ_ _ _ z=>nomatch z)
   |cons _ _=>exact aC h5
  |cons e es=>
   cases args with
   |nil=>exact aC h5
   |cons q qs=>
    have h6:=ak h5
    exact aQ (sk C (by rw [h1,h2,h3];rfl) h4 ga (notStar h6.1 _ _) (cu h6.2 _ _)) (λ_=>rfl) (λ_ _ _ z=>nomatch z)
 |.cT f as g idx aL,Γ,N,sc,X,C,p,h=>by
  obtain⟨hN,args,_,_,rfl,h9⟩:=vH h
  clear h
  have h:=h9
  clear h9
  replace h:=ak h
  simp! [zza,zzj,zzy] at h;obtain⟨⟨⟨⟨⟨h1,h2⟩,h3⟩,h4⟩,q,hq,⟨⟨⟨rfl,rfl⟩,rfl⟩,rfl⟩,hd⟩,h5⟩:=h
  have Fm:=zzY hd
  have ga:=yn as C h1 q.g q.idx aL args h4 h5
  cases as with
  |nil=>
   have h7:((dY args).any _)=true:=h5
   obtain⟨pl,e7,h8⟩:=iZ h7
   subst e7;obtain⟨l,e8,_⟩:=ah h8
   obtain⟨_,rfl⟩:=oM e8
   exact aQ (mW C h1 hq h2 h3 Fm ga rfl rfl) (λ_=>rfl) (λ_ _ _ z=>nomatch z)
  |cons e es=>
   cases args with
   |nil=>exact aC h5
   |cons p qs=>
    have h6:=ak h5
    exact aQ (mW C h1 hq h2 h3 Fm ga (notStar h6.1 _ _) (gK h6.2 _ _)) (λ_=>rfl) (λ_ _ _ z=>nomatch z)
 |.blt b as,Γ,N,sc,X,C,p,h=>by
  obtain⟨hq,h⟩:=mh h
  obtain⟨g,args,_,_,rfl,h9⟩:=vH h
  clear h
  have h:=h9
  clear h9
  replace h:=ak h
  try simp! [zza,zzy] at h
  obtain⟨⟨⟨⟨rfl,h1⟩,h2⟩,h3⟩,h5⟩:=h
  have ga:=fj as C args h5
  cases as with
  |nil=>exact aC h3
  |cons e es=>
   cases args with
   |nil=>exact aC h5
   |cons q qs=>
    have h6:=ak h5
    exact aQ (By C hq b h1 h2 ga (notStar h6.1 _ _) (cu h6.2 _ _)) (λ_=>rfl) (λ_ _ _ z=>nomatch z)
 |.ty t a,Γ,N,sc,X,C,p,h=>by
  obtain⟨g,args,_,_,rfl,h9⟩:=vH h
  clear h
  have h:=h9
  clear h9
  obtain⟨pa,pb,z2,h2⟩:=ud h
  obtain⟨tn,_,z3,h3⟩:=Cu h2
  dsimp only at z2 z3;subst z2 z3
  clear h h2
  have h:=h3
  clear h3
  replace h:=ak h
  try simp! [zza,zzy] at h
  obtain⟨⟨⟨⟨⟨⟨rfl,h1⟩,h2⟩,rfl⟩,h3⟩,h4⟩,h5⟩:=h
  exact aQ (Ex C h1 h2 h3 h4 (aX a C pa h5).ge (notStar h5)) (λ_=>rfl) (λ_ _ _ z=>nomatch z)
 |.pS c a,Γ,N,sc,X,C,p,h=>by
  obtain⟨g,args,_,_,rfl,h9⟩:=vH h
  clear h
  have h:=h9
  clear h9
  obtain⟨pa,pb,z2,h2⟩:=ud h
  obtain⟨tn,_,z3,h3⟩:=Cu h2
  dsimp only at z2 z3;subst z2 z3
  clear h h2
  have h:=h3
  clear h3
  replace h:=ak h
  try simp! [zza] at h
  obtain⟨⟨⟨⟨⟨⟨⟨e1,h1⟩,h2⟩,e2⟩,h3⟩,h4⟩,h5⟩,h6⟩:=h
  cases zzy.mp e1;cases zzy.mp e2;exact aQ (zq C h1 h2 h3 h4 h5 (aX a C pa h6).ge (notStar h6) C.Cj) (λ_=>rfl) (λ_ _ _ z=>nomatch z)
 |.BO m o as,Γ,N,sc,X,C,p,h=>by
  obtain⟨⟨f,args,kws,pos⟩,e,h1⟩:=ah h
  have z:=iS e
  obtain⟨⟨po,attr,apos⟩,e2,h2⟩:=ah h1
  have z2:=vf e2
  have h3:=ak h2
  have z3:=ye h3.1
  dsimp only at z z2 z3;subst z z2 z3
  clear h h1 h2
  have h:=ak h3.2
  clear h3
  simp! [zza] at h;obtain⟨⟨⟨⟨⟨⟨e1,h1⟩,h2⟩,h3⟩,h4⟩,h5⟩,h6⟩:=h
  cases zzy.mp e1;have ga:=fj as C args h5
  cases as with
  |nil=>exact aC h1
  |cons e es=>
   cases args with
   |nil=>exact aC h5
   |cons q qs=>
    have h7:=ak h5
    have hl:=sU h5
    refine aQ (AI C (aX o C po h4).ge ga (nt h6) ?_ h3 (notStar h7.1 _ _) (cu h7.2 _ _)) (λ_=>rfl) (λ_ _ _ z=>nomatch z);rw [t7 h5];have Be:=zzY h2
    refine Bool.and_eq_true_iff.mpr ⟨rfl,decide_eq_true ?_⟩;rw [hl];exact Be
 |.bin o a b,Γ,N,sc,X,C,p,h=>by
  obtain⟨q,e,h1⟩:=ah h
  obtain⟨_,rfl⟩:=Ae e
  clear h
  have h:=ak h1
  have h0:=ak h.1
  rw [<-zzY h0.1];exact aQ (Ac C (aX a C _ h0.2).ge (aX b C _ h.2).ge) (λ_=>rfl) (λ_ _ _ z=>nomatch z)
 |.cmp o a b,Γ,N,sc,X,C,p,h=>by
  obtain⟨pa,ops,cs,_,rfl,h1⟩:=Iy h
  obtain⟨op,z2,h2⟩:=iZ h1
  obtain⟨pb,z3,h3⟩:=iZ h2
  dsimp only at z2 z3;subst z2 z3
  clear h h1 h2
  have h:=h3
  clear h3
  replace h:=ak h
  have h0:=ak h.1
  cases zzY h0.1;have h1:=h0.2
  have h2:=h.2
  exact⟨Br C (aX a C _ h1).ge (aX b C _ h2).ge (lh h2 _),λ_=>zT C (aX a C _ h1).ge (aX b C _ h2).ge (lh h2 _),(λ_ _ _ _ z=>nomatch z)⟩
 |.ch o1 o2 a b c,Γ,N,sc,X,C,p,h=>by
  obtain⟨pa,ops,cs,_,rfl,h1⟩:=Iy h
  obtain⟨op1,op2,z2,h2⟩:=ud h1
  obtain⟨pb,pc,z3,h3⟩:=ud h2
  dsimp only at z2 z3;subst z2 z3
  clear h h1 h2
  have h:=h3
  clear h3
  replace h:=ak h
  try simp! [zza,zzN] at h
  obtain⟨⟨⟨⟨rfl,rfl⟩,h1⟩,h2⟩,h3⟩:=h
  have hm:lastMarks [lQ o1,lQ o2] [pb,pc]=false:=lh h3 _
  exact⟨CU C (aX a C _ h1).ge (aX b C _ h2).ge (aX c C _ h3).ge hm,λ_=>DE C (aX a C _ h1).ge (aX b C _ h2).ge (aX c C _ h3).ge hm,(λ_ _ _ _ z=>nomatch z)⟩
 |.not a,Γ,N,sc,X,C,p,h=>by
  obtain⟨o,pa,_,rfl,h1⟩:=Jt h
  clear h
  have h:=ak h1
  cases uN h.1;have s:=aX a C pa h.2
  exact⟨zA s.ge,λz=>zg (s.gt (by simpa only [eK] using z)),(λ_ _ _ _ z=>nomatch z)⟩
 |.neg a,Γ,N,sc,X,C,p,h=>by
  obtain⟨o,pa,_,rfl,h1⟩:=Jt h
  clear h
  have h:=ak h1
  cases sW h.1;exact aQ (BZ (aX a C pa h.2).ge) (λ_=>rfl) (λ_ _ _ z=>nomatch z)
 |.and a b,Γ,N,sc,X,C,p,h=>by
  obtain⟨o,vs,pos,rfl,h1⟩:=IH h
  obtain⟨⟨pa,pb⟩,e2,h2⟩:=ah h1
  clear h h1
  have h:=ak h2
  clear h2
  try simp! [zza] at h
  obtain⟨⟨⟨h0,he⟩,h1⟩,h2⟩:=h
  cases uD h0;have sa:=aX a C pa h1
  have sb:=aX b C pb h2
  rcases si e2 with z|⟨q,c,r,z,z2⟩
  ·dsimp only at z;subst z;have gw:eK (.and a b)=true->GW X W F (.and a b) (.BoolOp .And [pa,pb] pos):=λz=>by
    have z:=ak z
    exact sY (sa.gt z.1) (pw_and1 (sb.gt z.2))
   exact⟨u4 he sa.ge (tM sb.ge),λz=>(gw z).pt,λz _ _ _ _=>gw z⟩
  ·dsimp only at z z2;subst z z2;have gw:eK (.and a b)=true->GW X W F (.and a b) (.BoolOp .And (pa::q::c::r) pos):=λz=>by
    have z:=ak z
    exact sY (sa.gt z.1) (sb.gw z.2 _ _ _ rfl)
   exact⟨u4 he sa.ge sb.ge,λz=>(gw z).pt,λz _ _ _ _=>gw z⟩
 |.or a b,Γ,N,sc,X,C,p,h=>by
  obtain⟨o,vs,pos,rfl,h1⟩:=IH h
  obtain⟨⟨pa,pb⟩,e2,h2⟩:=ah h1
  clear h h1
  have h:=ak h2
  clear h2
  try simp! [zza] at h
  obtain⟨⟨⟨h0,he⟩,h1⟩,h2⟩:=h
  cases wU h0;have sa:=aX a C pa h1
  have sb:=aX b C pb h2
  rcases si e2 with z|⟨q,c,r,z,z2⟩
  ·dsimp only at z;subst z;have gw:eK (.or a b)=true->GW X W F (.or a b) (.BoolOp .Or [pa,pb] pos):=λz=>by
    have z:=ak z
    exact yu (sa.gt z.1) (pw_or1 (sb.gt z.2))
   exact⟨yJ he sa.ge (tM sb.ge),λz=>(gw z).pt,λz _ _ _ _=>gw z⟩
  ·dsimp only at z z2;subst z z2;have gw:eK (.or a b)=true->GW X W F (.or a b) (.BoolOp .Or (pa::q::c::r) pos):=λz=>by
    have z:=ak z
    exact yu (sa.gt z.1) (sb.gw z.2 _ _ _ rfl)
   exact⟨yJ he sa.ge sb.ge,λz=>(gw z).pt,λz _ _ _ _=>gw z⟩
 |.ite c a b,Γ,N,sc,X,C,p,h=>by
  obtain⟨q,e,h1⟩:=ah h
  obtain⟨_,rfl⟩:=AE e
  clear h
  have h:=ak h1
  clear h1
  try simp! [zza] at h
  obtain⟨⟨⟨⟨⟨h0,h1⟩,h2⟩,h3⟩,h4⟩,h5⟩:=h
  exact⟨Ap h1 h2 ((aX c C _ h3).gt h0) (aX a C _ h4).ge (aX b C _ h5).ge,(λz=>nomatch z),(λ_ _ _ _ z=>nomatch z)⟩
 |.tup as,Γ,N,sc,X,C,p,h=>by
  obtain⟨ps,e,h1⟩:=ah h
  obtain⟨_,_,rfl⟩:=oW e
  clear h
  have h:=ak h1
  have h0:=ak h.1
  exact aQ (nB h0.1 (zzY h0.2) (fj as C _ h.2)) (λ_=>rfl) (λ_ _ _ z=>nomatch z)
 |.lst as,Γ,N,sc,X,C,p,h=>by
  obtain⟨ps,e,h1⟩:=ah h
  obtain⟨_,rfl⟩:=tv e
  clear h
  have h:=ak h1
  have h0:=ak h.1
  exact aQ ((ur h0.1 (zzY h0.2) (fj as C _ h.2)).ge lst_is) (λ_=>rfl) (λ_ _ _ z=>nomatch z)
 |.sub a b,Γ,N,sc,X,C,p,h=>by
  obtain⟨pa,pb,_,rfl,h9⟩:=J5 h
  clear h
  have h:=h9
  clear h9
  replace h:=ak h
  exact aQ (BQ C (aX a C _ h.1).ge (aX b C _ h.2).ge (vi h.2)) (λ_=>rfl) (λ_ _ _ z=>nomatch z)
 |.slice a lo hi,Γ,N,sc,X,C,p,h=>by
  obtain⟨pa,ps,_,rfl,h1⟩:=J5 h
  obtain⟨pl,ph,pst,_,z2,h2⟩:=Lx h1
  clear h h1
  have h:=ak h2
  simp! [zza] at h;have w:=HM h.1.1.1
  dsimp only at z2 w;subst z2 w;exact aQ (uK C (aX a C _ h.1.1.2).ge (Dh lo C pl h.1.2) (Dh hi C ph h.2)) (λ_=>rfl) (λ_ _ _ z=>nomatch z)
 |.comp kk aL tg it elt,Γ,N,sc,X,C,p,h=>by
  obtain⟨hq,h⟩:=mh h
  obtain⟨dE,gens,scope,_,rfl,h1⟩:=E7 h
  obtain⟨⟨bL,en,ifs,asy⟩,z2,h2⟩:=iZ h1
  have h3:=ak h2
  have z3:=ye h3.1
  dsimp only at z2 z3;subst z2 z3
  clear h h1 h2
  have h:=ak h3.2
  clear h3
  simp! [zza] at h;obtain⟨⟨⟨⟨⟨⟨h1,h2⟩,h3⟩,h4⟩,h5⟩,h6⟩,fB⟩:=h
  have fB:=zzY fB
  subst fB;exact aQ ((pg C hq (fX h1) h2 h3 (t5 it C bL en h4) (fK h4 _) h5 λY CY=>(aX elt CY dE h6).ge).ge qi) (λ_=>rfl) (λ_ _ _ z=>nomatch z)
 |.dc kk aL tg it c elt,Γ,N,sc,X,C,p,h=>by
  obtain⟨hq,h⟩:=mh h
  obtain⟨dE,gens,scope,_,rfl,h1⟩:=E7 h
  obtain⟨⟨bL,en,ifs,asy⟩,z2,h2⟩:=iZ h1
  obtain⟨pc,z3,h3⟩:=iZ h2
  dsimp only at z2 z3;subst z2 z3
  clear h h1 h2
  have h:=ak h3
  clear h3
  simp! [zza] at h;obtain⟨⟨⟨⟨⟨⟨⟨⟨h0,h1⟩,h2⟩,h3⟩,h4⟩,h5⟩,h6⟩,h7⟩,fB⟩:=h
  have fB:=zzY fB
  subst fB;exact aQ ((jY C hq (fX h1) h2 h3 (t5 it C bL en h4) (fK h4 _) h5 (λY CY=>(aX c CY pc h6).gt h0) λY CY=>(aX elt CY dE h7).ge).ge j7) (λ_=>rfl) (λ_ _ _ z=>nomatch z)
theorem fj:∀(es:Es) {Γ:Pg} {N:List Str} {sc:Scope} {X:Cx} (C:cb Γ F W N sc k X) (ps:List Expr),dv Γ N sc es ps=true->GA X W F es ps
 |.nil,Γ,N,sc,X,C,ps,h=>by
  cases ps with
  |nil=>exact lI
  |cons _ _=>exact aC h
 |.cons e es,Γ,N,sc,X,C,ps,h=>by
  cases ps with
  |nil=>exact aC h
  |cons p ps=>
   replace h:=ak h
   exact fO (aX e C p h.1).ge (fj es C ps h.2) (notStar h.1 _ _)
theorem yn:∀(es:Es) {Γ:Pg} {N:List Str} {sc:Scope} {X:Cx} (C:cb Γ F W N sc k X) (hl:Γ.hl=true) (g:Str) (idx aL:List Nat) (ps:List Expr),dy es=true->pP Γ N sc g idx aL es ps=true->PA X ps (CL X W F N sc g idx aL es)
 |.nil,Γ,N,sc,X,C,hl,g,idx,aL,ps,he,h=>by
  obtain⟨p,e1,h⟩:=ah h
  obtain⟨l,e2,h⟩:=ah h
  rw [b8 e1];obtain⟨_,rfl⟩:=oM e2
  replace h:=ak h
  have h1:=ak h.1
  exact vV C hl ⟨h1.1,zzY h1.2,λy hy=>zzY (zzT.mp h.2 y hy)⟩
 |.cons e es,Γ,N,sc,X,C,hl,g,idx,aL,ps,he,h=>by
  cases ps with
  |nil=>exact aC h
  |cons p ps=>
   replace h:=ak h
   have yL:=ak (show(eo e&&dy es)=true from he)
   exact sF he (aX e C p h.1).ge (yn es C hl g idx aL ps yL.2 h.2) (notStar h.1 _ _)
theorem Dh:∀(o:Oe) {Γ:Pg} {N:List Str} {sc:Scope} {X:Cx} (C:cb Γ F W N sc k X) (p:Option Expr),BG Γ N sc o p=true->PO X p (tY X W F o)
 |.no,Γ,N,sc,X,C,p,h=>by
  cases p with
  |none=>exact xy
  |some _=>exact aC h
 |.some e,Γ,N,sc,X,C,p,h=>by
  cases p with
  |none=>exact aC h
  |some p=>
   exact vR (aX e C p h).ge
theorem t5:∀(it:I) {Γ:Pg} {N:List Str} {sc:Scope} {X:Cx} (C:cb Γ F W N sc k X) (tg p:Expr),qU Γ N sc tg it p=true->GI X W F tg it p
 |.seq e,Γ,N,sc,X,C,tg,p,h=>by
  exact zj C (aX e C p h).ge
 |.nj e,Γ,N,sc,X,C,tg,p,h=>by
  obtain⟨g,args,_,_,rfl,h9⟩:=vH h
  clear h
  have h:=h9
  clear h9
  obtain⟨q,z2,h2⟩:=iZ h
  dsimp only at z2;subst z2
  clear h
  have h:=ak h2
  clear h2
  simp! [zza] at h;obtain⟨⟨⟨e1,h1⟩,h2⟩,h3⟩:=h
  cases zzy.mp e1;exact Ak C h1 h2 (notStar h3) (aX e C q h3).ge
 |.qx a b,Γ,N,sc,X,C,tg,p,h=>by
  obtain⟨g,args,_,_,rfl,h9⟩:=vH h
  clear h
  have h:=h9
  clear h9
  obtain⟨q,r,z2,h2⟩:=ud h
  dsimp only at z2;subst z2
  clear h
  have h:=ak h2
  clear h2
  simp! [zza] at h;obtain⟨⟨⟨⟨e1,h1⟩,h2⟩,h3⟩,h4⟩:=h
  cases zzy.mp e1;exact wX C h1 h2 (notStar h3) (notStar h4) (aX a C q h3).ge (aX b C r h4).ge
 |.enum e,Γ,N,sc,X,C,tg,p,h=>by
  obtain⟨g,args,_,_,rfl,h9⟩:=vH h
  clear h
  have h:=h9
  clear h9
  obtain⟨q,z2,h2⟩:=iZ h
  dsimp only at z2;subst z2
  clear h
  have h:=ak h2
  clear h2
  simp! [zza] at h;obtain⟨⟨⟨⟨h0,e1⟩,h1⟩,h2⟩,h3⟩:=h
  cases zzy.mp e1;cases tg<;>first|(exact aC h0)|skip
  exact xf C h1 h2 (notStar h3) (aX e C q h3).ge
 |.zip as,Γ,N,sc,X,C,tg,p,h=>by
  obtain⟨g,args,_,_,rfl,h9⟩:=vH h
  clear h
  replace h:=ak h9
  clear h9
  simp! [zza] at h;obtain⟨⟨⟨⟨⟨⟨h0,e1⟩,h1⟩,h2⟩,h3⟩,h4⟩,h5⟩:=h
  cases zzy.mp e1;cases tg<;>first|(exact aC h0)|skip
  rw [zzt,zzy,zzy] at h4;cases as with
  |nil=>exact absurd h4 (by show¬(0=2\/0=3);omega)
  |cons a as=>
   cases args with
   |nil=>exact aC h5
   |cons q qs=>
    have h6:=ak (show(aU Γ N sc a q&&dv Γ N sc as qs)=true from h5)
    exact yZ C h1 h2 h3 h4 (fj (.cons a as) C (q::qs) h5) (notStar h6.1 _ _) (cu h6.2 _ _)
end
end
end Ci
namespace L2
open PySem PySem.Spec PyProof.Rows
section
variable{X:Cx}{scope:Scope}{xs ys:List Str}{is:List Nat}
theorem oq{i₀:Nat}{x₀:Str}{pos' i5:Pos}{elt tg iter:Expr}{pos:Pos}{wi:TI}{g:TG}{te:TE}(hN₀:X.N.Nodup)(hi₀:X.N[i₀]?=some x₀)(hx₀:Loc X.env.scope x₀)(hc:X.calm=true)(S:dD X scope xs ys is)(hi:PI X tg iter wi)
 (hg:∀fp s1 H1 C,PG (bC X (xs++ys) scope (bw X.env ys) fp s1 H1 C) tg g) (he:∀fp s1 H1 C,PE (bC X (xs++ys) scope (bw X.env ys) fp s1 H1 C) elt te)
 (vh:swapsWith (.ListComp elt [⟨tg,iter,[],0⟩] scope pos) (some (.Name x₀ pos')) i5.line X.env=pure true:=by rfl)
 (hs:∀x,foldedSetIterable iter X.env x=pure x:=by intro _;rfl) (hf₀:X.fn x₀=true\/X.env.scope.names.lookup x₀=some .local:=by first|exact .inl rfl|exact .inr rfl|assumption):
 PS X (.Assign [.Name x₀ pos'] (.ListComp elt [⟨tg,iter,[],0⟩] scope pos) i5) (wg (sR wi xs.length g te is) (eJ i₀)):=by
 intro aa s σ H D₀ I h;rw [exec_Assign_Name_used _ _ _ _ vh];refine zzA (wpAny_standAt (zzA ?_));show wpAny _ X.A (do let _<-comprehension (.ListComp elt [⟨tg,iter,[],0⟩] scope pos) scope X.env _ (newList []) false (eval iter X.env) (some (assign (.Name x₀ pos') X.env))) _ _ s;refine zzA (wpAny_mono (eW (QQ:=λ_ s'=>∃σ2 H2,Inv X aa σ2 H2 s'/\D₀.nx σ2 H2) (Q:=λv H4=>eJ i₀ v σ H4 D₀.nx) hc S hi hg (λ_ _ _ _=>p6) he hs I h λD C s4 H4 m I5 hn ⟨g0,g1,_,g3,g4,g5⟩ q=>?_) (λ_ s' hq=>zzG (zzG hq)) λ_ _ e=>e)
 refine wpAny_assign_Name (gF I5 hN₀ hi₀ hx₀ (show RelV (.ref D) (.ref D) from rfl) (λs6 I6 ⟨a6,sb6,ha6⟩=>?_) hf₀);have ua:C≠a6:=by
  rcases ha6 with z|z
  ·rw [z];exact g1
  ·exact λz2=>g4 _ _ z z2.symm
 exact⟨m,hn.sameBut sb6 ua,λh' vI=>⟨_,_,I6.turned (t':=s6.toks) (it:=C) (λb o hb e=>vI.extBut b o hb e) g0 g1 g3 g4 g5,q⟩⟩
end
end L2
namespace Ci
open PySem L2
section
variable{W:Wd}{G0 H0 G H:Hp}{env:Sl}{σ:St}
def Own.yo{p:PV}{v:V}(h:Own W H0 G H p v):∃a o,v=.ref a/\H a=some o/\G a=none/\H0 a=none/\((∀G',av G G'->G' a=some o->Rep W G' p (.ref a))\/∃bo,o=.dT bo/\∀ob G',av G G'->G' a=some (.bI ob (.dT bo))->Rep W G' p (.ref a)):=by
 cases p with
 |lst xs=>
  obtain⟨a,vs,rfl,h1,h2,h3,l⟩:=h
  exact⟨a,_,rfl,h1,h2,h3,.inl λG' s e=>.l (.inl (.inl e)) (ai.same s xs l)⟩
 |d8 ks ps=>
  obtain⟨a,us,rfl,n,h1,h2,h3,l⟩:=h
  exact⟨a,_,rfl,h1,h2,h3,.inr ⟨_,rfl,λob G' s e=>by simp! [Rep];exact⟨a,ob,us,rfl,n,e,ai.same s ps l⟩⟩⟩
 |bO=>exact h.elim
 |bl _=>exact h.elim
 |int _=>exact h.elim
 |str _=>exact h.elim
 |tup _=>exact h.elim
 |exc _=>exact h.elim
theorem Own.td{p:PV}{a:Addr}(h:Own W H0 G H p (.ref a))(ps:Array Value):H a≠some (.ei ps):=λz=>by
 cases p with
 |lst xs=>obtain⟨b,vs,e,h1,_⟩:=h;cases e;rw [z] at h1;cases h1
 |d8 ks qs=>
  obtain⟨b,us,e,_,h1,_⟩:=h
  cases e;rw [z] at h1;cases h1
 |bO=>exact h.elim
 |bl _=>exact h.elim
 |int _=>exact h.elim
 |str _=>exact h.elim
 |tup _=>exact h.elim
 |exc _=>exact h.elim
theorem kQ{a:Addr}{ob:HO}{H':Hp}(t:bM W G H)(hG:G a=none)(n:∀ps,H a≠some (.ei ps))(hH:∀b,b≠a->H' b=H b):bM W (upd G a ob) H':=λP q m=>by
 obtain⟨n1,ps,e,tr,al⟩:=t P q m
 have hP:P≠a:=λz=>by subst z;exact n ps e
 refine⟨by rw [af hP];exact n1,ps,by rw [hH P hP];exact e,tr,λpos cv y=>?_⟩
 obtain⟨c',oc,cM,t',e1,e2,e3,e4⟩:=al pos cv y
 exact⟨c',oc,cM,t',e1,bq hG _ _ e2,e3,e4⟩
def Own.cU{p:PV}{v:V}{a:Addr}{G' H':Hp}(h:Own W H0 G H p v)(hv:v≠.ref a)(sG:av G G')(hG:∀b,b≠a->G' b=G b)(hH:∀b,b≠a->H' b=H b):Own W H0 G' H' p v:=by
 cases p with
 |lst xs=>
  obtain⟨b,vs,rfl,h1,h2,h3,l⟩:=h
  have hb:b≠a:=λz=>hv (by rw [z])
  exact⟨b,vs,rfl,by rw [hH b hb];exact h1,by rw [hG b hb];exact h2,h3,ai.same sG xs l⟩
 |d8 ks ps=>
  obtain⟨b,us,rfl,n,h1,h2,h3,l⟩:=h
  have hb:b≠a:=λz=>hv (by rw [z])
  exact⟨b,us,rfl,n,by rw [hH b hb];exact h1,by rw [hG b hb];exact h2,h3,ai.same sG ps l⟩
 |bO=>exact h.elim
 |bl _=>exact h.elim
 |int _=>exact h.elim
 |str _=>exact h.elim
 |tup _=>exact h.elim
 |exc _=>exact h.elim
def getElem?_modify{α:Type}(l:List α)(i j:Nat)(f:α->α):(l.modify i f)[j]?=if i=j then(l[j]?).map f else l[j]?:=by
 rw [List.getElem?_modify];split<;>simp_all
def mO(r:SR W H0 env σ G H)(g:aw W G0 H0 G H){i:Nat}{p:PV}{a:Addr}{ob B8:HO}{H':Hp}(hp:env[i]?=some (.own p))(ho:σ[i]?=some (some (.ref a)))(D9:Own W H0 G H p (.ref a))(hH:H a=some ob)(hG:G a=none)(qN:H0 a=none)
 (uP:∀G',av G G'->G' a=some B8->Rep W G' p (.ref a)) (h1:H' a=some B8) (h2:∀b,b≠a->H' b=H b):SR W H0 (env.modify i ly) σ (upd G a B8) H'/\aw W G0 H0 (upd G a B8) H':=by
 have sG:av G (upd G a B8):=bq hG
 have sub:av (upd G a B8) H':=λb u e=>by
  by_cases hb:b=a
  ·subst hb;rw [aq] at e;cases e;exact h1
  ·rw [af hb] at e;rw [h2 b hb];exact r.sub _ _ e
 have base:∀{B:Hp},B a=none->er B H->er B H':=λhB k b u e=>by
  have hb:b≠a:=λz=>by rw [z,hB] at e;cases e
  rw [h2 b hb];exact k b u e
 refine⟨⟨by rw [List.length_modify];exact r.len,sub,base qN r.base,λj s e=>?_,λj l q q' c e1 e2 e3 e4=>?_,kQ r.tab hG D9.td h2,kQ r.iU hG (λps z=>by rw [qN] at z;cases z) λ_ _=>rfl⟩,⟨g.g.trans sG,base qN g.h,sub,λb h3 h5 h4=>?_,λt=>kQ (g.tab t) hG D9.td h2⟩⟩
 ·rw [getElem?_modify] at e;split at e
  ·rename_i z;subst z;rw [hp] at e;cases e;exact⟨_,ho,_,rfl,uP _ sG aq⟩
  ·rename_i z;obtain⟨o2,k1,k2⟩:=r.slot j s e
   refine⟨o2,k1,?_⟩;cases s with
   |no=>exact trivial
   |val q=>
    obtain⟨v2,rfl,rv⟩:=k2
    exact⟨v2,rfl,Rep.same sG q rv⟩
   |fn _ _ _=>
    obtain⟨v2,rfl,rv⟩:=k2
    exact⟨v2,rfl,rv.same sG⟩
   |own q=>
    obtain⟨v2,rfl,ov⟩:=k2
    refine⟨v2,rfl,ov.cU (a:=a) (λzz=>?_) sG (λb hb=>af hb) h2⟩;subst zz;exact z (r.apart i j p q a hp e ho k1)
 ·rw [getElem?_modify] at e1 e2;have ne:∀{j:Nat} {q:PV},(if i=j then(env[j]?).map ly else env[j]?)=some (.own q)->i≠j/\env[j]?=some (.own q):=λ{j q} e=>by
   split at e
   ·rename_i z;subst z;rw [hp] at e;cases e
   ·rename_i z;exact⟨z,e⟩
  exact r.apart j l q q' c (ne e1).2 (ne e2).2 e3 e4
 ·have hb:b≠a:=λz=>h3 (by rw [z];exact qN)
  rw [af hb];exact g.own b h3 h5 h4
def AQ(r:SR W H0 env σ G H)(g:aw W G0 H0 G H)(i:Nat):(∃G',SR W H0 (env.modify i ly) σ G' H/\aw W G0 H0 G' H)\/∃a bo,H a=some (.dT bo)/\∀o,∃G',SR W H0 (env.modify i ly) σ G' (upd H a (.bI o (.dT bo)))/\aw W G0 H0 G' (upd H a (.bI o (.dT bo))):=by
 have same:(∀p,env[i]?≠some (.own p))->env.modify i ly=env:=λh=>by
  refine List.ext_getElem? λj=>?_
  rw [getElem?_modify];split
  ·rename_i e;subst e;cases q:env[i]? with
   |none=>rfl
   |some s=>
    cases s with
    |own p=>exact absurd q (h p)
    |no=>rfl
    |val p=>rfl
    |fn _ _ _=>rfl
  ·rfl
 by_cases hx:∃p,env[i]?=some (.own p)
 ·obtain⟨p,hp⟩:=hx
  obtain⟨o,ho,v,rfl,ow⟩:=r.slot i _ hp
  have D9:=ow
  obtain⟨a,ob,rfl,hH,hG,qN,uP|⟨bo,rfl,uP⟩⟩:=ow.yo
  ·obtain⟨k1,k2⟩:=mO r g hp ho D9 hH hG qN uP hH λ_ _=>rfl
   exact .inl ⟨_,k1,k2⟩
  ·refine .inr ⟨a,bo,hH,λo=>?_⟩
   obtain⟨k1,k2⟩:=mO r g hp ho D9 hH hG qN (uP o) aq λb hb=>af hb
   exact⟨_,k1,k2⟩
 ·exact .inl ⟨G,by rw [same λp z=>hx ⟨p,z⟩];exact r,g⟩
def uj(r:SR W H0 env σ G H)(g:aw W G0 H0 G H){i:Nat}{p p':PV}{a:Addr}{ob:HO}(hp:env[i]?=some (.own p))(hs:σ[i]?=some (some (.ref a)))(hG:G a=none)(qN:H0 a=none)(hn:Own W H0 G (upd H a ob) p' (.ref a)):
 SR W H0 (env.set i (.own p')) σ G (upd H a ob)/\aw W G0 H0 G (upd H a ob):=by
 have cD:i<env.length:=(zzH.mp hp).1
 have Lr:∀ps,H a≠some (.ei ps):=by
  obtain⟨o2,h1,v2,rfl,ow⟩:=r.slot i _ hp
  rw [hs] at h1;cases h1;exact ow.td
 have tab:∀{G1:Hp},bM W G1 H->bM W G1 (upd H a ob):=λt=>t.same (av.refl _) (λ_ _ _ h=>h) (hX Lr)
 refine⟨⟨by rw [List.length_set];exact r.len,λb u e=>?_,λb u e=>?_,λj s e=>?_,λj l q q' c e1 e2 e3 e4=>?_,tab r.tab,r.iU⟩,⟨g.g,λb u e=>?_,λb u e=>?_,g.own,λt=>tab (g.tab t)⟩⟩
 ·rw [af (λz=>by subst z;rw [hG] at e;cases e)];exact r.sub _ _ e
 ·rw [af (λz=>by subst z;rw [qN] at e;cases e)];exact r.base _ _ e
 ·by_cases hj:i=j
  ·subst hj;rw [zzo cD] at e;cases e;exact⟨_,hs,_,rfl,hn⟩
  ·rw [zzS hj] at e;obtain⟨o2,h1,h2⟩:=r.slot j s e
   refine⟨o2,h1,?_⟩;cases s with
   |no=>exact trivial
   |val q=>exact h2
   |fn _ _ _=>exact h2
   |own q=>
    obtain⟨v2,rfl,ov⟩:=h2
    refine⟨v2,rfl,ov.cU (a:=a) (λzz=>?_) (av.refl _) (λb hb=>rfl) λb hb=>af hb⟩
    subst zz;exact hj (r.apart i j p q a hp e hs h1)
 ·have tr:∀{j:Nat} {q:PV},(env.set i (.own p'))[j]?=some (.own q)->∃q2,env[j]?=some (.own q2):=λ{j q} e=>by
   by_cases hj:i=j
   ·subst hj;exact⟨p,hp⟩
   ·rw [zzS hj] at e;exact⟨q,e⟩
  obtain⟨q2,f1⟩:=tr e1
  obtain⟨q3,f2⟩:=tr e2
  exact r.apart j l q2 q3 c f1 f2 e3 e4
 ·rw [af (λz=>by subst z;rw [qN] at e;cases e)];exact g.h _ _ e
 ·rw [af (λz=>by subst z;rw [hG] at e;cases e)];exact g.sub _ _ e
def Bt(r:SR W H0 env σ G H)(g:aw W G0 H0 G H){i:Nat}{p:PV}{a:Addr}{ob:HO}(hi:i<env.length)(ha:H a=none)(hn:Own W H0 G (upd H a ob) p (.ref a)):
 SR W H0 (env.set i (.own p)) (σ.set i (some (.ref a))) G (upd H a ob)/\aw W G0 H0 G (upd H a ob):=by
 have gm:aw W G H G (upd H a ob):=.Ip r.sub ha
 have r1:=r.grow gm
 have old:∀{j:Nat} {q:PV},env[j]?=some (.own q)->σ[j]?=some (some (.ref a))->False:=λ{j q} e1 e2=>by
  obtain⟨o2,h1,v2,rfl,ov⟩:=r.slot j _ e1
  rw [e2] at h1;cases h1;obtain⟨a',o',e3,hH,_⟩:=ov.yo
  cases e3;rw [ha] at hH;cases hH
 refine⟨⟨by rw [List.length_set,List.length_set];exact r.len,r1.sub,r1.base,λj s e=>?_,λj l q q' c e1 e2 e3 e4=>?_,r1.tab,r1.iU⟩,g.trans gm⟩
 ·by_cases hj:i=j
  ·subst hj;rw [zzo hi] at e;cases e;exact⟨_,zzo (by rw [<-r.len];exact hi),_,rfl,hn⟩
  ·rw [zzS hj] at e;obtain⟨o2,h1,h2⟩:=r1.slot j s e
   exact⟨o2,by rw [zzS hj];exact h1,h2⟩
 ·by_cases hj:i=j
  ·by_cases hl:i=l
   ·exact hj.symm.trans hl
   ·exfalso
    subst hj;rw [zzo (by rw [<-r.len];exact hi)] at e3;rw [zzS hl] at e2 e4;cases e3;exact old e2 e4
  ·by_cases hl:i=l
   ·exfalso
    subst hl;rw [zzo (by rw [<-r.len];exact hi)] at e4;rw [zzS hj] at e1 e3;cases e4;exact old e1 e3
   ·rw [zzS hj] at e1 e3;rw [zzS hl] at e2 e4;exact r.apart j l q q' c e1 e2 e3 e4
end
noncomputable def d2:E->Bool
 |.lst _=>true
 |.comp _ _ _ _ _=>true
 |.dc _ _ _ _ _ _=>true
 |_=>false
noncomputable def fF:Expr->Bool
 |.ListComp .. =>false
 |.SetComp .. =>false
 |.DictComp .. =>false
 |_=>true
noncomputable def C6:Expr->Bool
 |.Tuple es _ _=>decide (3<es.length)
 |_=>true
noncomputable def Eo(sc:Scope):Expr->Bool
 |.Name x _=>sc.names.lookup x==some .local
 |_=>false
noncomputable def DX(sc:Scope)(t p:Expr):Bool:=C6 p||(yd t).any λts=>ts.any λe=>!Eo sc e
noncomputable def Ir(sc:Scope)(x:Str)(xp:Pos):Expr->Bool
 |.ListComp _ _ s p=>sc.names.lookup x==some .local&&xp.line==p.line&&!(s.names.any λ(n,k)=>n==x&&(k==.local||k==.cell))
 |_=>false
noncomputable def Fz(ts:List Expr):Option Str:=(dY ts).bind fe
noncomputable def Hu(e:Expr):Option (Str×Str×List Expr):=(AJ e).bind λq=>(FP q.1).bind λr=>(fe r.1).bind λx=>if(q.2.2.1.isEmpty&&r.2.2.endLine==q.2.2.2.line)=true then some (x,r.2.1,q.2.1) else none
noncomputable def Jx(o:Option Expr):Option (Str×Str):=o.bind λe=>(AJ e).bind λq=>(fe q.1).bind λx=>(dY q.2.1).bind λa=>(Fd a).bind λc=>(A5 c).bind λz=>if q.2.2.1.isEmpty=true then some (x,z) else none
noncomputable def pN:Stmt->Option (List Expr×Expr×Pos)
 |.Assign ts v p=>some (ts,v,p)
 |_=>none
noncomputable def EX:ExceptHandler->Option Expr×Option Str×List Stmt×Pos
 |.ExceptHandler t n b p=>(t,n,b,p)
noncomputable def HG:Stmt->Option Expr
 |.Return (some p) _=>some p
 |_=>none
def Ay{b:Stmt}{p:Expr}(h:HG b=some p):∃ps,b=.Return (some p) ps:=by
 unfold HG at h;split at h
 ·cases h;exact⟨_,rfl⟩
 ·cases h
noncomputable def Jg(hs:List ExceptHandler):Option (Str×Str×Str):=(dY hs).bind λk=>(EX k).1.bind λte=>(fe te).bind λx=>(EX k).2.1.bind λn=>(dY (EX k).2.2.1).bind λb=>(HG b).bind λq=>(qA q).bind λc=>(dY c.2).bind λa=>(fe a).bind λn2=>if(n2==n)=true then some (x,n,c.1) else none
def nv{ts:List Expr}{x:Str}(h:Fz ts=some x):∃xp,ts=[.Name x xp]:=by
 obtain⟨t,h1,h2⟩:=jm h
 obtain⟨p,rfl⟩:=bW h2
 exact⟨p,b8 h1⟩
def sH{p:Expr}{x m:Str}{args:List Expr}(h:Hu p=some (x,m,args)):∃np apos bY,p=.Call (.Attribute (.Name x np) m apos) args [] bY/\(apos.endLine==bY.line)=true:=by
 obtain⟨⟨f,a,k,cp⟩,h1,h⟩:=jm h
 obtain⟨⟨o,m',ap⟩,h2,h⟩:=jm h
 obtain⟨y,h3,h⟩:=jm h
 obtain⟨h4,h⟩:=if1 h
 cases h;rw [zza] at h4;obtain⟨p3,z3⟩:=bW h3
 have z2:=vf h2
 have z5:=List.isEmpty_iff.1 h4.1
 dsimp only at z2 z3 z5;subst z3 z2 z5;exact⟨_,_,_,iS h1,h4.2⟩
def zu{o:Option Expr}{x z:Str}(h:Jx o=some (x,z)):∃np j zp cp,o=some (.Call (.Name x np) [.Constant (.str z) j zp] [] cp):=by
 obtain⟨e,h0,h⟩:=jm h
 obtain⟨⟨f,a,k,cp⟩,h1,h⟩:=jm h
 obtain⟨y,h2,h⟩:=jm h
 obtain⟨t,h3,h⟩:=jm h
 obtain⟨c,h4,h⟩:=jm h
 obtain⟨w,h5,h⟩:=jm h
 obtain⟨h6,h⟩:=if1 h
 cases h;obtain⟨p2,z2⟩:=bW h2
 obtain⟨p4,q4,z4⟩:=uV h4
 have z3:=b8 h3
 have z5:=vx h5
 have z6:=List.isEmpty_iff.1 h6
 dsimp only at z2 z3 z6;subst z2 z5 z4 z3 z6;exact⟨_,_,_,_,h0.trans (congrArg some (iS h1))⟩
def BR{hs:List ExceptHandler}{x n g:Str}(h:Jg hs=some (x,n,g)):∃xp gp np cp rp hp,hs=[.ExceptHandler (some (.Name x xp)) (some n) [.Return (some (.Call (.Name g gp) [.Name n np] [] cp)) rp] hp]:=by
 obtain⟨k,h1,h⟩:=jm h
 obtain⟨te,h2,h⟩:=jm h
 obtain⟨x',h3,h⟩:=jm h
 obtain⟨n',h4,h⟩:=jm h
 obtain⟨b,h5,h⟩:=jm h
 obtain⟨q,h6,h⟩:=jm h
 obtain⟨c,h7,h⟩:=jm h
 obtain⟨a,h8,h⟩:=jm h
 obtain⟨n2,h9,h⟩:=jm h
 obtain⟨h10,h⟩:=if1 h
 cases h;obtain⟨xp,z3⟩:=bW h3
 obtain⟨rp,z6⟩:=Ay h6
 obtain⟨gp,cp,z7⟩:=vv h7
 have z8:=b8 h8
 obtain⟨np,z9⟩:=bW h9
 have z5:=b8 h5
 have z1:=b8 h1
 have Jz:=zzy.mp h10
 obtain⟨t0,n0,b0,p0⟩:=k
 obtain⟨cg,ca⟩:=c
 dsimp only [EX] at h2 h4 z3 z5 z6 z7 z8 z9 Jz;subst h2 h4 z3 z9 Jz z8 z7 z6 z5;exact⟨_,_,_,_,_,_,z1⟩
mutual
noncomputable def uv(Γ:Pg)(N:List Str)(sc:Scope):S->Stmt->Bool
 |.set i e,.Assign ts p _=>(Fz ts).any λx=>N[i]?==some x&&fq sc x&&eo e&&!d2 e&&aU Γ N sc e p
 |.ret e,.Return (some p) _=>eo e&&aU Γ N sc e p
 |.ite c a b,.If p pa pb _=>eK c&&aU Γ N sc c p&&yc Γ N sc a pa&&yc Γ N sc b pb
 |_,_=>false
noncomputable def yc(Γ:Pg)(N:List Str)(sc:Scope):Ss->List Stmt->Bool
 |.cons s .nil,[p]=>uv Γ N sc s p
 |_,_=>false
end
noncomputable def BK:List Expr->Option (Str×Pos×Str×Pos)
 |[.Tuple [.Name x px,.Name y py] _ _]=>some (x,px,y,py)
 |_=>none
def x6{ts:List Expr}{q:Str×Pos×Str×Pos}(h:BK ts=some q):∃kt pt,ts=[.Tuple [.Name q.1 q.2.1,.Name q.2.2.1 q.2.2.2] kt pt]:=by
 unfold BK at h;split at h
 ·cases h;exact⟨_,_,rfl⟩
 ·cases h
noncomputable def isStar:Expr->Bool
 |.Starred .. =>true
 |_=>false
noncomputable def BJ(a b:Expr):Bool:=!isStar a&&!isStar b&&!(foldedForSure 8 a&&foldedForSure 8 b)&&!(constantsAlone 8 a&&constantsAlone 8 b)
mutual
noncomputable def ee(Γ:Pg)(N:List Str)(sc:Scope):S->Stmt->Bool
 |.expr e,.Expr p _=>fF p&&aU Γ N sc e p
 |.set i e,.Assign ts p _=>(Fz ts).any λx=>N[i]?==some x&&fq sc x&&eo e&&aU Γ N sc e p
 |.own i e,.Assign ts p _=>(Fz ts).any λx=>N[i]?==some x&&fq sc x&&d2 e&&aU Γ N sc e p
 |.vE tg e,.Assign ts p _=>(dY ts).any λbL=>isTup bL&&d5 N sc (λ_=>true) tg bL&&fF p&&DX sc bL p&&eo e&&aU Γ N sc e p
 |.app i e,.Expr v _=>(Hu v).any λc=>N[i]?==some c.1&&fU sc c.1&&okN c.1&&c.2.1==("append":Str)&&eo e&&(dY c.2.2).any λp=>aU Γ N sc e p
 |.ji i e,.Expr v _=>(Hu v).any λc=>N[i]?==some c.1&&fU sc c.1&&okN c.1&&c.2.1==("extend":Str)&&(dY c.2.2).any λp=>aU Γ N sc e p
 |.ret e,.Return (some p) _=>eo e&&aU Γ N sc e p
 |.ite c a b,.If p pa pb _=>eK c&&aU Γ N sc c p&&cK Γ N sc a pa&&cK Γ N sc b pb
 |.gb tg it b,.For bL en pb els _=>els.isEmpty&&d5 N sc (λ_=>true) tg bL&&wG it&&qU Γ N sc bL it en&&cK Γ N sc b pb
 |.raise c m,.Raise ex fr _=>fr.isNone&&(Jx ex).any λq=>c==q.1&&m==q.2&&Γ.rs.contains c&&ff sc c&&okN c
 |.f9 b c i g,.Try pb hs o1 o2 _=>o1.isEmpty&&o2.isEmpty&&yc Γ N sc b pb&&(Jg hs).any λq=>q.1==c&&Γ.cs.contains c&&c=="FloorError"&&ff sc c&&okN c&&N[i]?==some q.2.1&&sc.names.lookup q.2.1==some .local&&okN q.2.1&&q.2.2==g&&Γ.qs.contains g&&ff sc g&&okN g
 |.par i j as,.Assign ts (.Tuple [a,b] _ _) _=>(BK ts).any λq=>N[i]?==some q.1&&N[j]?==some q.2.2.1&&decide (i≠j)&&q.1 !=q.2.2.1&&q.2.2.2.line==q.2.1.line&&sc.names.lookup q.1==some .local&&sc.names.lookup q.2.2.1==some .local&&BJ a b&&dy as&&dv Γ N sc as [a,b]
 |_,_=>false
noncomputable def cK(Γ:Pg)(N:List Str)(sc:Scope):Ss->List Stmt->Bool
 |.nil,[]=>true
 |.cons (.bI _) ss,ps=>cK Γ N sc ss ps
 |.cons s ss,p::ps=>ee Γ N sc s p&&cK Γ N sc ss ps
 |_,_=>false
end
section
variable{Γ:Pg}{X:Cx}{W:Wd}{F:bz}{N:List Str}{sc:Scope}{k:Nat}{H0:Hp}{E:XK}
def SR.go{env:Sl}{σ:St}{G H:Hp}(r:SR W H0 env σ G H):aw W G H0 G H:=⟨av.refl _,r.base,r.sub,λ_ _ _ h=>h,λ_=>r.tab⟩
def aw.then{G G1 H1 G2 H2:Hp}(a:aw W G H0 G1 H1)(b:aw W G1 H0 G2 H2):aw W G H0 G2 H2:=⟨a.g.trans b.g,b.h,b.sub,λx h1 h3 h2=>b.own x h1 h3 (a.own x h1 h3 h2),λt=>b.tab (t.same a.g a.own λ_ _ h=>h)⟩
def SR.on{env:Sl}{σ:St}{G H G1 H1:Hp}(r:SR W H0 env σ G H)(g:aw W G H G1 H1):aw W G H0 G1 H1:=⟨g.g,r.base.trans g.h,g.sub,λx h1 h3 h2=>g.own x (λz=>h1 (r.base.free z)) (r.base.lY h1 h3) h2,λ_=>g.tab r.tab⟩
def Dn(W:Wd)(H0 G:Hp)(D:Ends):Fl->Prop
 |.nx env=>∀σ G' H',SR W H0 env σ G' H'->aw W G H0 G' H'->D.nx σ H'
 |.bk env=>∀σ G' H',SR W H0 env σ G' H'->aw W G H0 G' H'->D.bk σ H'
 |.ct env=>∀σ G' H',SR W H0 env σ G' H'->aw W G H0 G' H'->D.ct σ H'
 |.rt p=>∀v G' H',Rep W G' p v->aw W G H0 G' H'->D.rt v H'
def bA(W:Wd)(H0 G:Hp)(E:XK)(r:Res Fl)(D:Ends):Prop:=match r with
 |.ok f=>Dn W H0 G D f
 |.exc c=>∀Cv ao H',XE W c G H0 Cv ao H'->E Cv ao H'
 |.bad=>False
def Dn.on{G G1 H1:Hp}{D:Ends}{f:Fl}(h:Dn W H0 G D f)(g:aw W G H0 G1 H1):Dn W H0 G1 D f:=by
 cases f with
 |nx env=>exact λσ G' H' r g'=>h σ G' H' r (g.then g')
 |bk env=>exact λσ G' H' r g'=>h σ G' H' r (g.then g')
 |ct env=>exact λσ G' H' r g'=>h σ G' H' r (g.then g')
 |rt p=>exact λv G' H' r g'=>h v G' H' r (g.then g')
def bA.on{G G1 H1:Hp}{D:Ends}{r:Res Fl}(h:bA W H0 G E r D)(g:aw W G H0 G1 H1):bA W H0 G1 E r D:=by
 cases r with
 |ok f=>exact Dn.on h g
 |exc c=>
  intro Cv ao H' x;obtain⟨C,a,G',e1,e2,e3,e4,g2⟩:=x
  exact h Cv ao H' ⟨C,a,G',e1,e2,e3,e4,g.then g2⟩
 |bad=>exact h
noncomputable def tS(W:Wd)(F:bz)(H0:Hp)(E:XK)(s:S):TS:=λD σ H=>∃G env,SR W H0 env σ G H/\bA W H0 G E (eQ F s env) D
noncomputable def G7(W:Wd)(F:bz)(H0:Hp)(E:XK)(ss:Ss):TS:=λD σ H=>∃G env,SR W H0 env σ G H/\bA W H0 G E (aS F ss env) D
abbrev GS(X:Cx)(W:Wd)(F:bz)(H0:Hp)(E:XK)(s:S)(p:Stmt):Prop:=PS X p (tS W F H0 E s)
abbrev vF(X:Cx)(W:Wd)(F:bz)(H0:Hp)(E:XK)(s:Ss)(p:List Stmt):Prop:=md X p (G7 W F H0 E s)
def _root_.L2.PS.imp{p:Stmt}{t t':TS}(h:PS X p t)(i:∀D σ H,t' D σ H->t D σ H):PS X p t':=λaa s σ H D I hw=>h aa s σ H D I (i D σ H hw)
def _root_.L2.md.imp{p:List Stmt}{t t':TS}(h:md X p t)(i:∀D σ H,t' D σ H->t D σ H):md X p t':=λaa s σ H D I hw=>h aa s σ H D I (i D σ H hw)
structure dU(Γ:Pg)(F:bz)(W:Wd)(N:List Str)(sc:Scope)(k:Nat)(E:XK)(X:Cx):Prop where
 C:cb Γ F W N sc k X
 fn:∀x,X.fn x=true
 own:PassesOwn (model X.prog X.w) X.A X.env X.xe
 pass:Passes (cS X.prog X.w) X E
 kind:sc.kind=.function
 u5:X.stack=X.env::X.outer
 frame:X.env.frame=some X.env.locals
 xs:∀c,Γ.rs.contains c=true->c∈W.xs
 rm:∀c,Γ.rs.contains c=true->∃C,X.mg c=some (.ref C)
 rz:Γ.qt=false->∀(c z:Str) (j:Nat) (np zp cp pos:Pos),Γ.rs.contains c=true->ff sc c=true->okN c=true->PS X (.Raise (some (.Call (.Name c np) [.Constant (.str z) j zp] [] cp)) none pos) (λ_ _ H=>∀C e,X.mg c=some (.ref C)->H e=none->E (.ref C) (some e) H)
 Dj:Γ.cs.contains "FloorError"=true->∀c D,c∈W.xs->X.mg c=some (.ref D)->∀T,X.mg "FloorError"=some (.ref T)->PySem.W.exmOne X.K (.ref D) (.ref T)=some true
theorem wj(S:dU Γ F W N sc k E X){c:Str}{σ:St}{Gs G H:Hp}(g:aw W Gs H0 G H)(h:∀Cv ao H',XE W c Gs H0 Cv ao H'->E Cv ao H'):mI X W σ c G H:=λaa G1 H1 s1 e s' I g1 x=>
 S.pass aa σ H1 s1 e s' I (sD.imp x λCv a H' y=>h Cv a H' (by
  obtain⟨C,a',G',e1,e2,e3,e4,g2⟩:=y
  have g3:=g1.trans g2
  exact⟨C,a',G',e1,e2,e3,e4,g.g.trans g3.g,g.h.trans g3.h,g3.sub,λx h1 h3 h2=>g3.own x (λz=>h1 (g.h.free z)) (g.h.lY h1 h3) (g.own x h1 h3 h2),λt=>g3.tab (g.tab t)⟩))
def bA.bind{α:Type}(S:dU Γ F W N sc k E X){r:Res α}{f:α->Res Fl}{D:Ends}{env:Sl}{σ:St}{G H:Hp}(sr:SR W H0 env σ G H)(h:bA W H0 G E (r.bind f) D):Out X W r σ G H λa=>bA W H0 G E (f a) D:=by
 cases r with
 |ok a=>exact h
 |exc c=>exact wj S sr.go h
 |bad=>exact h
def n5(S:dU Γ F W N sc k E X){env:Sl}{σ:St}{G H:Hp}{e:Ci.E}{f:PV->Res Fl}{D:Ends}{Q:VK}(sr:SR W H0 env σ G H)(o:bA W H0 G E ((ax F e env).bind f) D)
 (h:∀p v G1 H1,aw W G H G1 H1->Got W H0 G1 H1 e p v->SR W H0 env σ G1 H1->bA W H0 G1 E (f p) D->Q v H1):tE X W F e σ H Q:=
 ⟨H0,G,env,sr,(o.bind S sr).imp λp hp v G1 H1 g1 t=>h p v G1 H1 g1 t (sr.grow g1) (hp.on (sr.on g1))⟩
def DK(S:dU Γ F W N sc k E X){env:Sl}{σ:St}{G H:Hp}{e:Ci.E}{f:Bool->Res Fl}{D:Ends}{Q:Bool->Hp->Prop}(sr:SR W H0 env σ G H)(o:bA W H0 G E ((ax F e env).bind λp=>pf p f) D)
 (h:∀b G1 H1,aw W G H G1 H1->SR W H0 env σ G1 H1->bA W H0 G1 E (f b) D->Q b H1):tT X W F e σ H Q:=by
 refine⟨H0,G,env,sr,(o.bind S sr).imp λp hp=>?_⟩
 cases p with
 |bl b=>exact⟨b,rfl,λG1 H1 g1=>h b G1 H1 g1 (sr.grow g1) (bA.on hp (sr.on g1))⟩
 |bO=>exact zzk hp
 |int _=>exact zzk hp
 |str _=>exact zzk hp
 |tup _=>exact zzk hp
 |lst _=>exact zzk hp
 |exc _=>exact zzk hp
 |d8 _ _=>exact zzk hp
def C5(S:dU Γ F W N sc k E X){env:Sl}{σ:St}{G H:Hp}{e:Ci.E}{f:PV->Res Fl}{D:Ends}{Q:VK}(hl:∀env q,ax F e env=.ok q->∃xs,q=.lst xs)(sr:SR W H0 env σ G H)(o:bA W H0 G E ((ax F e env).bind f) D)
 (h:∀xs a vs G1 H1,aw W G H G1 H1->H1 a=none->ai W G1 xs vs->SR W H0 env σ G1 H1->bA W H0 G1 E (f (.lst xs)) D->Q (.ref a) (upd H1 a (.lst vs))):tF X W F e σ H Q:=by
 refine⟨H0,G,env,sr,?_⟩;have o2:=o.bind S sr
 cases r:ax F e env with
 |bad=>rw [r] at o2;exact o2
 |exc c=>rw [r] at o2;exact o2
 |ok q=>
  rw [r] at o2;obtain⟨xs,rfl⟩:=hl env q r
  exact⟨xs,rfl,λa vs G' H' g ha l=>h xs a vs G' H' g ha l (sr.grow g) (bA.on o2 (sr.on g))⟩
def gW{p:Expr}{t:Option Expr}{l:Nat}{env:Env}(h:fF p=true):swapsWith p t l env=pure false:=by
 cases p<;>first|rfl|(exact aC h)
def hV{elt:Expr}{gens:List Comprehension}{s:Scope}{p:Pos}{x:Str}{xp:Pos}{l:Nat}(cZ:X.env.scope=sc)(hk:sc.kind=.function):swapsWith (.ListComp elt gens s p) (some (.Name x xp)) l X.env=pure (Ir sc x xp (.ListComp elt gens s p)):=by
 have hb:X.env.blockKind=.function:=by
  unfold Env.blockKind;rw [cZ,hk]
  rfl
 show(pure (X.env.blockKind==.function&&X.env.kindOf x==some .local&&xp.line==p.line&&!(s.names.any λ(n,k)=>n==x&&(k==.local||k==.cell))):Sem Bool)=_
 rw [hb];show(pure (true&&X.env.scope.names.lookup x==some .local&&_&&_):Sem Bool)=_
 rw [cZ]
 rfl
theorem xw(S:dU Γ F W N sc k E X){e:Ci.E}{p:Expr}{pos:Pos}(he:GE X W F e p)(hn:fF p=true):GS X W F H0 E (.expr e) (.Expr p pos):=
 L2.PS.imp (kR he (gW hn)) λD σ H h=>by
  obtain⟨G,env,sr,o⟩:=h
  rw [eQ] at o;exact n5 S sr o λq v G1 H1 g t bb o1=>o1 σ G1 H1 bb bb.go
theorem yM(S:dU Γ F W N sc k E X){e:Ci.E}{p:Expr}{pos:Pos}(cL:eo e=true)(he:GE X W F e p):GS X W F H0 E (.ret e) (.Return (some p) pos):=
 L2.PS.imp (oI he) λD σ H h=>by
  obtain⟨G,env,sr,o⟩:=h
  rw [eQ] at o;exact n5 S sr o λq v G1 H1 g t bb o1=>o1 v G1 H1 (t.rep cL) bb.go
theorem tZ(S:dU Γ F W N sc k E X)(pH:Γ.qt=false){c m:Str}{j:Nat}{np zp cp pos:Pos}(h1:Γ.rs.contains c=true)(h2:ff sc c=true)(h3:okN c=true):GS X W F H0 E (.raise c m) (.Raise (some (.Call (.Name c np) [.Constant (.str m) j zp] [] cp)) none pos):=
 L2.PS.imp (S.rz pH c m j np zp cp pos h1 h2 h3) λD σ H h C e hC he=>by
  obtain⟨G,env,sr,o⟩:=h
  rw [eQ] at o;exact o _ _ _ ⟨C,e,G,rfl,rfl,S.xs c h1,by rw [S.C.mg];exact hC,sr.go⟩
def fH(S:dU Γ F W N sc k E X){i:Nat}{x:Str}(h:N[i]?=some x)(hl:fq sc x=true):X.N.Nodup/\X.N[i]?=some x/\Loc X.env.scope x:=by
 refine⟨by rw [S.C.hN];exact S.C.nd,by rw [S.C.hN];exact h,nA S.C.cZ hl⟩
def yX(S:dU Γ F W N sc k E X){i:Nat}{x:Str}{e:Ci.E}{p:Expr}{xp pos:Pos}(h:N[i]?=some x)(hl:fq sc x=true)(cL:eo e=true)(he:GE X W F e p)(hs:swapsWith p (some (.Name x xp)) pos.line X.env=pure false):GS X W F H0 E (.set i e) (.Assign [.Name x xp] p pos):=by
 obtain⟨a1,a2,a3⟩:=fH S h hl
 refine L2.PS.imp (oA a1 a2 a3 he hs (.inl (S.fn x))) λD σ H h=>?_
 obtain⟨G,env,sr,o⟩:=h
 rw [eQ] at o;exact n5 S sr o λq v G1 H1 g t bb o1=>o1 _ G1 H1 (bb.set i (t.rep cL)) bb.go
noncomputable def Cd(X:Cx)(W:Wd)(F:bz)(i:Nat)(e:Ci.E):TS:=λD σ H=>tF X W F e σ H λv H1=>D.nx (σ.set i (some v)) H1
def Eu{e:Ci.E}(hl:∀env q,ax F e env=.ok q->∃xs,q=.lst xs)(σ:St)(H:Hp)(Q:VK)(h:tE X W F e σ H Q):tF X W F e σ H Q:=by
 obtain⟨H0,G,env,sr,o⟩:=h
 refine⟨H0,G,env,sr,?_⟩;cases r:ax F e env with
 |bad=>rw [r] at o;exact o
 |exc c=>rw [r] at o;exact o
 |ok q=>
  rw [r] at o;obtain⟨xs,rfl⟩:=hl env q r
  exact⟨xs,rfl,λa vs G' H' g ha l=>o _ _ _ (g.trans (.new g.sub ha)) (.of (.l (.inl (.inl aq)) (ai.same (bq (g.sub.free ha)) xs l)))⟩
theorem vZ(S:dU Γ F W N sc k E X){i:Nat}{e:Ci.E}{p:Stmt}(hl:∀env q,ax F e env=.ok q->∃xs,q=.lst xs)(cL:eo e=true)(h:PS X p (Cd X W F i e)):GS X W F H0 E (.set i e) p:=
 L2.PS.imp h λD σ H hq=>by
  obtain⟨G,env,sr,o⟩:=hq
  rw [eQ] at o;refine Eu hl σ H _ (n5 S sr o λq v G1 H1 g t bb o1=>?_);exact o1 _ G1 H1 (bb.set i (t.rep cL)) bb.go
def xF(S:dU Γ F W N sc k E X){i:Nat}{x:Str}{e:Ci.E}{p:Stmt}(hi:N[i]?=some x)(hl:∀env q,ax F e env=.ok q->∃xs,q=.lst xs)(h:PS X p (Cd X W F i e)):GS X W F H0 E (.own i e) p:=by
 intro aa s σ H D I hq;have Hc:i<σ.length:=by rw [I.len,S.C.hN];exact(zzH.mp hi).1
 refine h aa s σ H D I ?_;obtain⟨G,env,sr,o⟩:=hq
 rw [eQ] at o;refine C5 S hl sr o λxs a vs G1 H1 g ha l bb o1=>?_
 have hO:Own W H0 G1 (upd H1 a (.lst vs)) (.lst xs) (.ref a):=⟨a,vs,rfl,aq,bb.sub.free ha,bb.base.free ha,l⟩
 obtain⟨r2,g2⟩:=Bt bb bb.go (i:=i) (by rw [bb.len];exact Hc) ha hO
 exact o1 _ G1 _ r2 g2
def lu{i:Nat}{x:Str}{e:Ci.E}{p:Expr}{xp pos:Pos}(S:dU Γ F W N sc k E X)(h:N[i]?=some x)(hl:fq sc x=true)(he:GF X W F e p)(hs:swapsWith p (some (.Name x xp)) pos.line X.env=pure false):PS X (.Assign [.Name x xp] p pos) (Cd X W F i e):=by
 obtain⟨a1,a2,a3⟩:=fH S h hl
 exact oA a1 a2 a3 he hs (.inl (S.fn x))
def tx(S:dU Γ F W N sc k E X)(pH:Γ.qt=false){i:Nat}{x:Str}{xp i5:Pos}(hx:N[i]?=some x)(x9:fq sc x=true){kk:Nat}{aL:List Nat}{tg:Tg}{it:I}{elt:Ci.E}{bL en dE:Expr}{scope:Scope}{pos:Pos}(h:iO N sc scope kk aL (aA bL))(cD:iu kk tg=true)(cL:eo elt=true)(hi:GI X W F bL it en)(lU:∀x,foldedSetIterable en X.env x=pure x)
 (rj:d5 (aA bL++freeOf scope) (b9 scope sc) (iA scope) tg bL=true) (he:∀Y,cb Γ.vC F W (aA bL++freeOf scope) (b9 scope sc) k Y->GE Y W F elt dE):PS X (.Assign [.Name x xp] (.ListComp dE [⟨bL,en,[],0⟩] scope pos) i5) (Cd X W F i (.comp kk aL tg it elt)):=by
 obtain⟨a1,a2,a3⟩:=fH S hx x9
 cases vh:Ir sc x xp (.ListComp dE [⟨bL,en,[],0⟩] scope pos) with
 |false=>exact lu S hx x9 (pg S.C pH h cD cL hi lU rj he) (by rw [hV S.C.cZ S.kind,vh])
 |true=>
  intro aa s σ H D I hq;have Bu:(freeOf scope).Nodup:=(List.nodup_append.mp h.nd).2.1
  have rd:=ql (N:=N) S.C.K cD cL h.slots Bu σ H _ hq
  have:=oq (g:=gT X.K tg) (te:=tN W F elt) (xs:=aA bL) (ys:=freeOf scope) (is:=aL) (pos:=pos) a1 a2 a3 (S.C.calm pH) (kG S.C.hN S.C.cZ I.ok h) hi
   (λfp s1 H1 A=>q9 (fn:=iA scope) (X:=bC X (aA bL++freeOf scope) scope (bw X.env (freeOf scope)) fp s1 H1 A) rfl h.nd (dQ S.C.cZ) rfl (λ_ z=>z) rj)
   (λfp s1 H1 A=>L2.PE.imp (he _ (dJ S.C h fp s1 H1 A)) λσ H Q z=>o7 σ H Q z) (by rw [hV (l:=i5.line) S.C.cZ S.kind,vh]) lU (.inl (S.fn x)) aa s σ H D I
  rw [h.len] at this;exact this rd
def nM(S:dU Γ F W N sc k E X)(pH:Γ.qt=false){i:Nat}{x:Str}{xp i5:Pos}(hx:N[i]?=some x)(x9:fq sc x=true){kk:Nat}{aL:List Nat}{tg:Tg}{it:I}{c elt:Ci.E}{bL en pc dE:Expr}{scope:Scope}{pos:Pos}(h:iO N sc scope kk aL (aA bL))(cD:iu kk tg=true)(cL:eo elt=true)(hi:GI X W F bL it en)(lU:∀x,foldedSetIterable en X.env x=pure x)
 (rj:d5 (aA bL++freeOf scope) (b9 scope sc) (iA scope) tg bL=true) (hc:∀Y,cb Γ.vC F W (aA bL++freeOf scope) (b9 scope sc) k Y->GT Y W F c pc) (he:∀Y,cb Γ.vC F W (aA bL++freeOf scope) (b9 scope sc) k Y->GE Y W F elt dE):PS X (.Assign [.Name x xp] (.ListComp dE [⟨bL,en,[pc],0⟩] scope pos) i5) (Cd X W F i (.dc kk aL tg it c elt)):=by
 obtain⟨a1,a2,a3⟩:=fH S hx x9
 cases vh:Ir sc x xp (.ListComp dE [⟨bL,en,[pc],0⟩] scope pos) with
 |false=>exact lu S hx x9 (jY S.C pH h cD cL hi lU rj hc he) (by rw [hV S.C.cZ S.kind,vh])
 |true=>
  intro aa s σ H D I hq;have Bu:(freeOf scope).Nodup:=(List.nodup_append.mp h.nd).2.1
  have rd:=kj (N:=N) S.C.K cD cL h.slots Bu σ H _ hq
  have:=lj (g:=gT X.K tg) (tt:=Fi W F c) (te:=tN W F elt) (xs:=aA bL) (ys:=freeOf scope) (is:=aL) (pos:=pos) a1 a2 a3 (S.C.calm pH) (kG S.C.hN S.C.cZ I.ok h) hi
   (λfp s1 H1 A=>q9 (fn:=iA scope) (X:=bC X (aA bL++freeOf scope) scope (bw X.env (freeOf scope)) fp s1 H1 A) rfl h.nd (dQ S.C.cZ) rfl (λ_ z=>z) rj)
   (λfp s1 H1 A=>L2.PT.imp (hc _ (dJ S.C h fp s1 H1 A)) λσ H Q z=>tO σ H Q z)
   (λfp s1 H1 A=>L2.PE.imp (he _ (dJ S.C h fp s1 H1 A)) λσ H Q z=>o7 σ H Q z) (by rw [hV (l:=i5.line) S.C.cZ S.kind,vh]) lU (.inl (S.fn x)) aa s σ H D I
  rw [h.len] at this;exact this rd
def jV{tg:Tg}{p:PV}{env:Sl}(c:Str):Tg.put tg p env≠.exc c:=by
 unfold Tg.put;split<;>exact λz=>nomatch z
def zC{ts vs:List Expr}{k1 k2:Nat}{p1 p2:Pos}{env:Env}(h:3<vs.length):swappedStores [.Tuple ts k1 p1] (.Tuple vs k2 p2) env=pure none:=by
 have c:(!(ts.length==2||ts.length==3)||vs.length !=ts.length||env.blockKind !=.function)=true:=by
  by_cases h2:ts.length=vs.length
  ·have a:(ts.length==2)=false:=beq_eq_false_iff_ne.mpr (by omega)
   have b:(ts.length==3)=false:=beq_eq_false_iff_ne.mpr (by omega)
   rw [a,b]
   rfl
  ·have a:(vs.length !=ts.length)=true:=bne_iff_ne.mpr λz=>h2 z.symm
   rw [a,Bool.or_true,Bool.true_or]
 unfold swappedStores;simp! [pure_bind];rw [if_pos c]
def wZ{ts vs:List Expr}{k1 k2:Nat}{p1 p2:Pos}{env:Env}(h:(ts.any λe=>!Eo env.scope e)=true):swappedStores [.Tuple ts k1 p1] (.Tuple vs k2 p2) env=pure none:=by
 obtain⟨e,he,hn⟩:=zzj.1 h
 unfold swappedStores;simp! [pure_bind];split
 ·rfl
 ·split
  ·rfl
  ·rw [if_pos];refine Bool.or_eq_true_iff.mpr (.inl (bne_iff_ne.mpr λz=>?_));have:=List.filterMap_length_eq_length.1 z e he
   cases e with
   |Name x p=>
    have q:(env.kindOf x==some .local)=false:=by
     have Ey:(!(env.scope.names.lookup x==some .local))=true:=hn
     rwa [Bool.not_eq_true'] at Ey
    simp! [q,Bool.false_and,zze,if_false] at this;cases this
   |_=>cases this
def A4(S:dU Γ F W N sc k E X)(pH:Γ.qt=false){tg:Tg}{e:Ci.E}{bL p:Expr}{pos:Pos}(ht:isTup bL=true)(rj:d5 N sc (λ_=>true) tg bL=true)(hn:fF p=true)(hp:DX sc bL p=true)(cL:eo e=true)(he:GE X W F e p):GS X W F H0 E (.vE tg e) (.Assign [bL] p pos):=by
 have vh:swappedStores [bL] p X.env=pure none:=by
  cases bL<;>first|(exact aC ht)|skip
  cases p<;>first|rfl|skip
  rcases Bool.or_eq_true_iff.mp hp with hp|hp
  ·exact zC (zzY hp)
  ·exact wZ (by rw [S.C.cZ];exact hp)
 have h1:(assignEach [bL] X.env).map (·.2)=[assign bL X.env]:=by
  cases bL<;>first|rfl|(exact aC ht)
 refine L2.PS.imp (yQ he (q9 (fn:=λ_=>true) S.C.hN S.C.nd S.C.cZ (S.C.calm pH) (λx _=>S.fn x) rj) (gW hn) vh h1) λD σ H h=>?_
 obtain⟨G,env,sr,o⟩:=h
 rw [eQ] at o;refine n5 S sr o λq v G1 H1 g t bb o1=>?_
 cases r:tg.put q env with
 |bad=>rw [r] at o1;exact o1.elim
 |exc c=>exact absurd r (jV c)
 |ok ay=>
  rw [r] at o1;exact lN S.C.K r bb (t.rep cL) λσ' gX=>o1 σ' G1 H1 gX bb.go
theorem tK(S:dU Γ F W N sc k E X){c:Ci.E}{a b:Ss}{p:Expr}{pa pb:List Stmt}{pos:Pos}(hc:GT X W F c p)(ha:vF X W F H0 E a pa)(hb:vF X W F H0 E b pb):GS X W F H0 E (.ite c a b) (.If p pa pb pos):=
 L2.PS.imp (yl hc ha hb) λD σ H h=>by
  obtain⟨G,env,sr,o⟩:=h
  rw [eQ] at o;refine DK S sr o λt G1 H1 g bb o1=>?_
  cases t with
  |true=>
   rw [if_pos rfl] at o1⊢;exact⟨G1,env,bb,o1⟩
  |false=>
   rw [if_neg zzf] at o1⊢;exact⟨G1,env,bb,o1⟩
def Bm(S:dU Γ F W N sc k E X)(pH:Γ.qt=false){tg:Tg}{it:I}{b:Ss}{bL en:Expr}{pb:List Stmt}{pos:Pos}(rj:d5 N sc (λ_=>true) tg bL=true)(hit:wG it=true)(hi:GI X W F bL it en)(lU:∀x,foldedSetIterable en X.env x=pure x)(hb:vF X W F H0 E b pb):GS X W F H0 E (.gb tg it b) (.For bL en pb [] pos):=
 L2.PS.imp (AS S.own (S.C.calm pH) hi (q9 (fn:=λ_=>true) S.C.hN S.C.nd S.C.cZ (S.C.calm pH) (λx _=>S.fn x) rj) hb lU) λD σ H h=>by
  obtain⟨G,env,sr,o⟩:=h
  rw [eQ] at o;refine⟨H0,G,env,sr,(o.bind S sr).imp λps g8 J G1 H1 g1 gi=>?_⟩
  have bI:=gi.bI hit
  generalize hf:(λ(x:PV) (env:Sl)=>(tg.put x env).bind λay=>aS F b ay)=f at g8
  have bb:=sr.grow g1
  refine⟨λi m σ' H'=>i<=ps.length/\m=ps.length-i/\∃G' ay,SR W H0 ay σ' G' H'/\aw W G1 H0 G' H'/\bA W H0 G' E (forL f (ps.drop i) ay) D,⟨_,Nat.zero_le _,rfl,G1,env,bb,bb.go,by rw [List.drop_zero];exact bA.on g8 (sr.on g1)⟩,?_⟩
  rintro i m σ' H' ⟨hi2,hm,G',ay,sr',g',o'⟩
  obtain⟨ist,igo⟩:=bI i G' H' g'.g (.of (g'.g.trans sr'.sub)) sr'.sub
  by_cases hlast:i=ps.length
  ·refine .inl ⟨ist hlast,?_⟩;rw [hlast,List.drop_length] at o';exact o' σ' G' H' sr' sr'.go
  ·have cD:i<ps.length:=by omega
   obtain⟨hgo,hyld⟩:=igo ps[i] (zzg cD)
   refine .inr ⟨hgo,λσ2 H2=>i+1<=ps.length/\∃G2 iB,SR W H0 iB σ2 G2 H2/\aw W G1 H0 G2 H2/\bA W H0 G2 E (forL f (ps.drop (i+1)) iB) D,λσ2 H2 h2=>⟨ps.length-(i+1),by omega,h2.1,rfl,h2.2⟩,λx je hy=>?_⟩
   obtain⟨qk,g'',rx⟩:=hyld x je hy
   rw [List.drop_eq_getElem_cons cD] at o';unfold forL at o';have KS:f ps[i] ay=(tg.put ps[i] ay).bind λay=>aS F b ay:=by rw [<-hf]
   rw [KS] at o';have gX:=sr'.grow g''
   have g2:=g'.then (sr'.on g'')
   cases r:tg.put ps[i] ay with
   |bad=>rw [r] at o';exact o'.elim
   |exc c=>exact absurd r (jV c)
   |ok iB=>
    rw [r] at o';refine lN S.C.K r gX rx λσ2 sr3=>⟨qk,iB,sr3,?_⟩
    have o2:bA W H0 qk E ((aS F b iB).bind λfl=>match fl with
     |.nx ay=>forL f (ps.drop (i+1)) ay
     |.ct ay=>forL f (ps.drop (i+1)) ay
     |.bk ay=>.ok (.nx ay)
     |.rt p=>.ok (.rt p)) D:=bA.on o' (sr'.on g'')
    cases r2:aS F b iB with
    |bad=>rw [r2] at o2;exact o2.elim
    |exc cc=>rw [r2] at o2;exact o2
    |ok fl=>
     rw [r2] at o2;cases fl with
     |nx env3=>exact λσ3 G3 H3 zx g3=>⟨cD,G3,env3,zx,g2.then g3,bA.on (show bA W H0 qk E (forL f (ps.drop (i+1)) env3) D from o2) g3⟩
     |ct env3=>exact λσ3 G3 H3 zx g3=>⟨cD,G3,env3,zx,g2.then g3,bA.on (show bA W H0 qk E (forL f (ps.drop (i+1)) env3) D from o2) g3⟩
     |bk env3=>exact λσ3 G3 H3 zx g3=>o2 σ3 G3 H3 zx g3
     |rt q=>exact λv G3 H3 rv g3=>o2 v G3 H3 rv g3
theorem oS:vF X W F H0 E .nil []:=L2.md.imp pj λD σ H h=>by
 obtain⟨G,env,sr,o⟩:=h
 rw [aS] at o;exact o σ G H sr sr.go
theorem mS{s:Ci.S}{ss:Ss}{p:Stmt}{ps:List Stmt}(h1:GS X W F H0 E s p)(h2:vF X W F H0 E ss ps):vF X W F H0 E (.cons s ss) (p::ps):=
 L2.md.imp (vq h1 h2) λD σ H h=>by
  obtain⟨G,env,sr,o⟩:=h
  rw [aS] at o;refine⟨G,env,sr,?_⟩;cases r:eQ F s env with
  |bad=>rw [r] at o;exact o
  |exc c=>rw [r] at o;exact o
  |ok f=>
   rw [r] at o;cases f with
   |nx iB=>exact λσ2 G2 H2 gX g2=>⟨G2,iB,gX,bA.on (show bA W H0 G E (aS F ss iB) D from o) g2⟩
   |bk iB=>exact o
   |ct iB=>exact o
   |rt q=>exact o
def vO{i:Nat}{ss:Ss}{ps:List Stmt}(h:vF X W F H0 E ss ps):vF X W F H0 E (.cons (.bI i) ss) ps:=by
 intro aa s σ H D I hq;obtain⟨G,env,sr,o⟩:=hq
 rw [aS,eQ] at o;rcases AQ sr sr.go i with⟨G',sr',g'⟩|⟨a,bo,ha,k⟩
 ·exact h aa s σ H D I ⟨G',_,sr',bA.on (show bA W H0 G E (aS F ss (env.modify i ly)) D from o) g'⟩
 ·obtain⟨ob,J⟩:=I.freeze ha
  obtain⟨G',sr',g'⟩:=k ob
  exact h aa s σ _ D J ⟨G',_,sr',bA.on (show bA W H0 G E (aS F ss (env.modify i ly)) D from o) g'⟩
def nW(hK:W.K=X.K):Fe X "list.extend" (λx vs H Q=>∃l b xs zs,x=.ref l/\vs=[.ref b]/\H l=some (.lst xs)/\j8 W.K H b zs/\xs.length+zs.length<=sizeLine/\Q .bO (upd H l (.lst (xs++zs)))):=by
 intro aa s σ H x vs v us Q I rx rv h;obtain⟨l,b,xs,zs,rfl,rfl,hH,hB,hz,q⟩:=h
 cases rx;obtain⟨u,rfl,ru⟩:=Vals.one rv
 cases ru;obtain⟨z,aj,n,r,hl,e⟩:=I.D0 hH
 obtain⟨cW,n2,r2,HI,z2,e2⟩:=nr hK I hB
 have hsz:aj.toArray.size+cW.toArray.size<=sizeLine:=by rw [zzC,zzC];omega
 have ui:¬(!aj.toArray.isEmpty&&Builtin.List.listTooLong (aj.toArray.size+cW.toArray.size))=true:=by
  rw [lZ hsz,Bool.and_false];exact zzf
 refine PySem.call_meets PySem.F.slot_list_extend ⟨_,e,rfl⟩ PySem.F.entry_list_extend (PySem.F.args_list_extend_2 _ _)
  (PySem.AutoSeq1.list_extend_list_list_0 l aj.toArray n b cW.toArray n2 ui (by rw [zzC];omega) (by omega)) ⟨e,e2,?_⟩
 refine⟨.bO,_,I.CQ (its':=aj++cW) hH e (by simp) (r.append r2) ?_,rfl,q⟩;rw [zzM];omega
def sE(S:dU Γ F W N sc k E X){i:Nat}{x:Str}{pos:Pos}(h:N[i]?=some x)(hv:fU sc x=true)(ho:okN x=true):PE X (.Name x pos) (zd i):=
 fD (by rw [S.C.hN];exact h) (ja S.C hv) (cI ho).1 (cI ho).2.1
def pA{env:Sl}{σ:St}{G H:Hp}{i:Nat}{xs:List PV}(sr:SR W H0 env σ G H)(h:env[i]?=some (.own (.lst xs))):∃a vs,σ[i]?=some (some (.ref a))/\H a=some (.lst vs)/\G a=none/\H0 a=none/\ai W G xs vs:=by
 obtain⟨o,ho,v,rfl,a,vs,rfl,h1,h2,h3,l⟩:=sr.slot i _ h
 exact⟨a,vs,ho,h1,h2,h3,l⟩
def zX(S:dU Γ F W N sc k E X){i:Nat}{x:Str}{e:Ci.E}{p:Expr}{np apos bY pos:Pos}(h:N[i]?=some x)(hv:fU sc x=true)(ho:okN x=true)(gH:(apos.endLine==bY.line)=true)(cL:eo e=true)(he:GE X W F e p)
 (dj:∀env ps,starEach (p::ps) env=(false,eval p env)::starEach ps env):GS X W F H0 E (.app i e) (.Expr (.Call (.Attribute (.Name x np) "append" apos) [p] [] bY) pos):=by
 refine L2.PS.imp (kR (oZ PySem.F.plainAttrs_list PySem.F.slot_list_append PySem.F.type_list_append rV (sE S h hv ho) (bu he cQ (dj _ _)) rfl (by rw [dj];rfl) gH (dj _ _) rfl) rfl) λD σ H hq=>?_
 obtain⟨G,env,sr,o⟩:=hq
 rw [eQ] at o;split at o
 ·rename_i xs hx;obtain⟨a,vs,hs,h1,h2,h3,l⟩:=pA sr hx
  refine⟨.ref a,hs,.inl ⟨rfl,_,gL.of h1⟩,n5 S sr o λq v G1 H1 g t bb o1=>?_⟩
  split at o1
  ·rename_i hl;have HK:=g.h.at h1 (λ_ z=>nomatch z)
   have Be:=g.own a (by rw [h1];exact λz=>nomatch z) (by rw [h1];exact λ_ z=>nomatch z) h2
   have l':=ai.same g.g xs l
   refine⟨a,vs,v,rfl,rfl,HK,by rw [l.length];exact zzW hl (by decide),?_⟩;obtain⟨r2,g2⟩:=uj (p':=.lst (xs++[q])) (ob:=.lst (vs++[v])) bb bb.go hx hs Be h3 ⟨a,_,rfl,aq,Be,h3,l'.append (.cons (t.rep cL) .nil)⟩
   exact o1 _ G1 _ r2 g2
  ·exact o1.elim
 ·exact o.elim
def xN(S:dU Γ F W N sc k E X){i:Nat}{x:Str}{e:Ci.E}{p:Expr}{np apos bY pos:Pos}(h:N[i]?=some x)(hv:fU sc x=true)(ho:okN x=true)(gH:(apos.endLine==bY.line)=true)(he:GE X W F e p)
 (dj:∀env ps,starEach (p::ps) env=(false,eval p env)::starEach ps env):GS X W F H0 E (.ji i e) (.Expr (.Call (.Attribute (.Name x np) "extend" apos) [p] [] bY) pos):=by
 refine L2.PS.imp (kR (oZ PySem.F.plainAttrs_list PySem.F.slot_list_extend PySem.F.type_list_extend (nW S.C.K) (sE S h hv ho) (bu he cQ (dj _ _)) rfl (by rw [dj];rfl) gH (dj _ _) rfl) rfl) λD σ H hq=>?_
 obtain⟨G,env,sr,o⟩:=hq
 rw [eQ] at o;split at o
 ·rename_i xs hx;obtain⟨a,vs,hs,h1,h2,h3,l⟩:=pA sr hx
  refine⟨.ref a,hs,.inl ⟨rfl,_,gL.of h1⟩,n5 S sr o λq v G1 H1 g t bb o1=>?_⟩
  split at o1
  ·rename_i ys;split at o1
   ·rename_i hl;have HK:=g.h.at h1 (λ_ z=>nomatch z)
    have Be:=g.own a (by rw [h1];exact λz=>nomatch z) (by rw [h1];exact λ_ z=>nomatch z) h2
    have l':=ai.same g.g xs l
    obtain⟨b,us,rfl,hb,lb⟩:=t.top.lst bb.sub
    refine⟨a,b,vs,us,rfl,rfl,HK,hb,by rw [l.length,lb.length];exact gB hl,?_⟩;obtain⟨r2,g2⟩:=uj (p':=.lst (xs++ys)) (ob:=.lst (vs++us)) bb bb.go hx hs Be h3 ⟨a,_,rfl,aq,Be,h3,l'.append lb⟩
    exact o1 _ G1 _ r2 g2
   ·exact o1.elim
  ·exact o1.elim
 ·exact o.elim
end
end Ci
namespace L2
open PySem PySem.Spec PyProof.Rows
end L2
namespace Ci
open PySem L2
section
variable{Γ:Pg}{X:Cx}{W:Wd}{F:bz}{N:List Str}{sc:Scope}{k:Nat}{H0:Hp}{E:XK}
def Ar{env:Env}{x y:Str}{px py pt B9:Pos}{kt k2}{a b:Expr}(hk:env.scope.kind=.function)(hx:env.scope.names.lookup x=some .local)(hy:env.scope.names.lookup y=some .local)(hl:py.line=px.line)(ic:x≠y)(hp:BJ a b=true):
 swappedStores [.Tuple [.Name x px,.Name y py] kt pt] (.Tuple [a,b] k2 B9) env=pure (some [x,y]):=by
 unfold BJ at hp;simp! [zza] at hp;obtain⟨⟨⟨h1,h2⟩,h3⟩,h4⟩:=hp
 have s1:isStar a=false:=by simpa using h1
 have s2:isStar b=false:=by simpa using h2
 have b1:env.blockKind=.function:=by unfold Env.blockKind;rw [hk];rfl
 have k1:env.kindOf x=some .local:=hx
 have k2:env.kindOf y=some .local:=hy
 simp! [Bool.not_eq_true'] at h3 h4;have GN:(y==x)=false:=beq_eq_false_iff_ne.mpr (Ne.symm ic)
 have K4:(x==y)=false:=beq_eq_false_iff_ne.mpr ic
 have n2:[x,y].eraseDups=[x,y]:=by simp [List.eraseDups_cons,GN]
 have n3:[a,b].all (foldedForSure 8)=false:=by simpa using h3
 have n4:[a,b].all (constantsAlone 8)=false:=by simpa using h4
 unfold swappedStores;simp! [List.any_cons,List.any_nil,Bool.or_false,pure_bind,List.filterMap_cons,List.filterMap_nil,k1,k2,Expr.pos,hl,List.head?_cons,Option.map_some,Option.getD_some,BEq.rfl,Bool.and_self,if_true,n2,n3,n4,b1];refine(if_neg zzf).trans ((if_neg λz=>?_).trans rfl);rcases Bool.or_eq_true_iff.mp z with z|z
 ·split at z
  ·cases s1
  ·cases z
 ·split at z
  ·cases s2
  ·cases z
def CM(S:dU Γ F W N sc k E X){env:Sl}{σ:St}{G H:Hp}{es:Es}{f:List PV->Res Fl}{D:Ends}{Q:List V->Hp->Prop}(sr:SR W H0 env σ G H)(o:bA W H0 G E ((bj F es env).bind f) D)
 (h:∀ps vs G1 H1,aw W G H G1 H1->Bp W H0 G1 H1 es ps vs->SR W H0 env σ G1 H1->bA W H0 G1 E (f ps) D->Q vs H1):tA X W F es σ H Q:=
 ⟨H0,G,env,sr,(o.bind S sr).imp λp hp v G1 H1 g1 t=>h p v G1 H1 g1 t (sr.grow g1) (hp.on (sr.on g1))⟩
def wo(S:dU Γ F W N sc k E X)(pH:Γ.qt=false)(i j:Nat)(as:Es)(p:Stmt)(h:ee Γ N sc (.par i j as) p=true):GS X W F H0 E (.par i j as) p:=by
 cases p<;>first|(exact aC h)|skip
 rename_i ts v pos;cases v<;>first|(exact aC h)|skip
 rename_i es kt2 B9
 match es,h with
 |[],h=>exact aC h
 |[_],h=>exact aC h
 |_::_::_::_,h=>exact aC h
 |[a,b],h=>
 replace h:=ah h
 simp! [zza,zzy,bne_iff_ne,ne_eq] at h;obtain⟨⟨x,px,y,py⟩,h0,⟨⟨⟨⟨⟨⟨⟨⟨h1,h2⟩,h3⟩,h4⟩,h5⟩,h6⟩,h7⟩,h8⟩,h9⟩,h10⟩:=h
 obtain⟨kt,pt,rfl⟩:=x6 h0
 dsimp only at h1 h2 h4 h5 h6 h7;have ga:=fj as S.C [a,b] h10
 intro aa s σ H D I hq;refine zt (S.C.calm pH) (by rw [S.C.hN];exact S.C.nd) (by rw [S.C.hN];exact h1) (by rw [S.C.hN];exact h2) (zzY h3) (by rw [S.C.cZ];exact h6) (by rw [S.C.cZ];exact h7) ga (Ar I.ok.kind (by rw [S.C.cZ];exact h6) (by rw [S.C.cZ];exact h7) h5 h4 h8) rfl aa s σ H D I ?_;obtain⟨G,env,sr,o⟩:=hq
 rw [eQ] at o;refine CM S sr o λps vs G1 H1 g t bb o1=>?_
 have rl:=t.rep h9
 match ps,rl,o1 with
 |[],_,o1=>exact o1.elim
 |[_],_,o1=>exact o1.elim
 |_::_::_::_,_,o1=>exact o1.elim
 |[p,q],rl,o1=>
  obtain⟨v,r,rfl,hv,rl⟩:=rl.cx
  obtain⟨w,r2,rfl,hw,rl⟩:=rl.cx
  have:=rl.length
  cases r2 with
  |cons _ _=>cases this
  |nil=>exact⟨v,w,rfl,o1 _ G1 H1 ((bb.set i hv).set j hw) bb.go⟩
def ft(X:Cx)(E:XK)(σ:St):Prop:=∀(aa:List (Addr×Obj)) (H:Hp) (s:Shared) (e:Value) (s':Shared),Inv X aa σ H s->cS X.prog X.w X.stack H s E e s'->X.xe e s'
theorem w9{σ:St}(S:ft X E σ){c:Str}{Gs G H:Hp}(g:aw W Gs H0 G H)(h:∀Cv ao H',XE W c Gs H0 Cv ao H'->E Cv ao H'):mI X W σ c G H:=λaa G1 H1 s1 e s' I g1 x=>
 S aa H1 s1 e s' I (sD.imp x λCv a H' y=>h Cv a H' (by
  obtain⟨C,a',G',e1,e2,e3,e4,g2⟩:=y
  have g3:=g1.trans g2
  exact⟨C,a',G',e1,e2,e3,e4,g.g.trans g3.g,g.h.trans g3.h,g3.sub,λx h1 h3 h2=>g3.own x (λz=>h1 (g.h.free z)) (g.h.lY h1 h3) (g.own x h1 h3 h2),λt=>g3.tab (g.tab t)⟩))
def bA.sP{α:Type}{σ:St}(S:ft X E σ){r:Res α}{f:α->Res Fl}{D:Ends}{env:Sl}{G H:Hp}(sr:SR W H0 env σ G H)(h:bA W H0 G E (r.bind f) D):Out X W r σ G H λa=>bA W H0 G E (f a) D:=by
 cases r with
 |ok a=>exact h
 |exc c=>exact w9 S sr.go h
 |bad=>exact h
def oneAt{σ:St}(S:ft X E σ){env:Sl}{G H:Hp}{e:Ci.E}{f:PV->Res Fl}{D:Ends}{Q:VK}(sr:SR W H0 env σ G H)(o:bA W H0 G E ((ax F e env).bind f) D)
 (h:∀p v G1 H1,aw W G H G1 H1->Got W H0 G1 H1 e p v->SR W H0 env σ G1 H1->bA W H0 G1 E (f p) D->Q v H1):tE X W F e σ H Q:=
 ⟨H0,G,env,sr,(o.sP S sr).imp λp hp v G1 H1 g1 t=>h p v G1 H1 g1 t (sr.grow g1) (hp.on (sr.on g1))⟩
def zF{σ:St}(S:ft X E σ){env:Sl}{G H:Hp}{e:Ci.E}{f:Bool->Res Fl}{D:Ends}{Q:Bool->Hp->Prop}(sr:SR W H0 env σ G H)(o:bA W H0 G E ((ax F e env).bind λp=>pf p f) D)
 (h:∀b G1 H1,aw W G H G1 H1->SR W H0 env σ G1 H1->bA W H0 G1 E (f b) D->Q b H1):tT X W F e σ H Q:=by
 refine⟨H0,G,env,sr,(o.sP S sr).imp λp hp=>?_⟩
 cases p with
 |bl b=>exact⟨b,rfl,λG1 H1 g1=>h b G1 H1 g1 (sr.grow g1) (bA.on hp (sr.on g1))⟩
 |bO=>exact zzk hp
 |int _=>exact zzk hp
 |str _=>exact zzk hp
 |tup _=>exact zzk hp
 |lst _=>exact zzk hp
 |exc _=>exact zzk hp
 |d8 _ _=>exact zzk hp
def uu{s:Ci.S}{env:Sl}:aS F (.cons s .nil) env=eQ F s env:=by
 rw [aS];cases eQ F s env with
 |ok f=>
  cases f with
  |nx e=>show aS F .nil e=_;rw [aS]
  |bk e=>rfl
  |ct e=>rfl
  |rt p=>rfl
 |exc c=>rfl
 |bad=>rfl
def v3{e:Ci.E}{p:Expr}(h:aU Γ N sc e p=true)(hf:d2 e=false):fF p=true:=by
 cases p<;>first|rfl|(cases e<;>first|(exact aC h)|(rename_i q;cases q<;>exact aC h)|(cases hf;done))
noncomputable abbrev Jp(σ0:St)(t:TS):TS:=λD σ H=>σ=σ0/\t D σ H
mutual
theorem Lj{σ0:St}(C:cb Γ F W N sc k X)(fn:∀x,X.fn x=true)(hp:ft X E σ0):∀(s:Ci.S) (p:Stmt),uv Γ N sc s p=true->PS X p (Jp σ0 (tS W F H0 E s))
 |.set i e,p,h=>by
  cases p<;>first|(exact aC h)|skip
  replace h:=ah h
  simp! [zza,zzy,Bool.not_eq_true'] at h;obtain⟨x,h0,⟨⟨⟨h1,h2⟩,h3⟩,h4⟩,h5⟩:=h
  obtain⟨xp,rfl⟩:=nv h0
  refine L2.PS.imp (oA (by rw [C.hN];exact C.nd) (by rw [C.hN];exact h1) (nA C.cZ h2) (aX e C _ h5).ge (gW (v3 h5 h4)) (.inl (fn x))) λD σ H q=>?_
  obtain⟨rfl,G,env,sr,o⟩:=q
  rw [eQ] at o;exact oneAt hp sr o λq v G1 H1 g t bb o1=>o1 _ G1 H1 (bb.set i (t.rep h3)) bb.go
 |.ret e,p,h=>by
  cases p<;>first|(exact aC h)|skip
  rename_i v pos;cases v with
  |none=>exact aC h
  |some v=>
   replace h:=ak h
   refine L2.PS.imp (oI (aX e C v h.2).ge) λD σ H q=>?_
   obtain⟨rfl,G,env,sr,o⟩:=q
   rw [eQ] at o;exact oneAt hp sr o λq v G1 H1 g t bb o1=>o1 v G1 H1 (t.rep h.1) bb.go
 |.ite c a b,p,h=>by
  cases p<;>first|(exact aC h)|skip
  replace h:=ak h
  simp! [zza] at h;obtain⟨⟨⟨h1,h2⟩,h3⟩,h4⟩:=h
  refine L2.PS.imp (yl ((aX c C _ h2).gt h1) (Ga C fn hp a _ h3) (Ga C fn hp b _ h4)) λD σ H q=>?_
  obtain⟨rfl,G,env,sr,o⟩:=q
  rw [eQ] at o;refine zF hp sr o λt G1 H1 g bb o1=>?_
  cases t with
  |true=>
   rw [if_pos rfl] at o1⊢;exact⟨rfl,G1,env,bb,o1⟩
  |false=>
   rw [if_neg zzf] at o1⊢;exact⟨rfl,G1,env,bb,o1⟩
 |.expr _,_,h=>aC h
 |.vE _ _,_,h=>aC h
 |.own _ _,_,h=>aC h
 |.bI _,_,h=>aC h
 |.app _ _,_,h=>aC h
 |.ji _ _,_,h=>aC h
 |.gb _ _ _,_,h=>aC h
 |.raise _ _,_,h=>aC h
 |.f9 _ _ _ _,_,h=>aC h
 |.par _ _ _,_,h=>aC h
theorem Ga{σ0:St}(C:cb Γ F W N sc k X)(fn:∀x,X.fn x=true)(hp:ft X E σ0):∀(ss:Ss) (ps:List Stmt),yc Γ N sc ss ps=true->md X ps (Jp σ0 (G7 W F H0 E ss))
 |.nil,ps,h=>aC h
 |.cons s (.cons _ _),ps,h=>aC h
 |.cons s .nil,ps,h=>by
  match ps,h with
  |[],h=>exact aC h
  |_::_::_,h=>exact aC h
  |[p],h=>
   have h:uv Γ N sc s p=true:=h
   refine L2.md.imp (qc (Lj C fn hp s p h)) λD σ H q=>?_
   obtain⟨e,G,env,sr,o⟩:=q
   rw [uu] at o;exact⟨e,G,env,sr,o⟩
end
def cb.with1(C:cb Γ F W N sc k X)(pn:List (Addr×Obj))(xe:Value->Shared->Prop):cb Γ F W N sc k (X.with1 pn xe):=
 ⟨C.hN,C.cZ,C.calm,C.nd,C.K,C.mg,C.gs,C.bs,C.room,λf h=>⟨(C.fns f h).ex⟩,C.Cj,C.cls,C.xc,λq h=>⟨(C.lU q h).ex⟩,λf h=>⟨(C.Eb f h).1,⟨(C.Eb f h).2.ex⟩⟩,C.any,C.tb,C.bm,C.fl⟩
def av.put{G G':Hp}{a:Addr}{o:HO}(h:av G G')(ha:G a=none):av G (upd G' a o):=λb u e=>by
 rw [af (λz=>by subst z;rw [ha] at e;cases e)];exact h b u e
def xq(S:dU Γ F W N sc k E X)(b:Ss)(c:Str)(i:Nat)(g:Str)(p:Stmt)(h:ee Γ N sc (.f9 b c i g) p=true):GS X W F H0 E (.f9 b c i g) p:=by
 cases p<;>first|(exact aC h)|skip
 rename_i pb hs o1 o2 pos;replace h:=ak h
 simp! [zza,Option.any_eq_true,zzy] at h;obtain⟨⟨⟨z1,z2⟩,hb⟩,⟨x,n,y⟩,hh,⟨⟨⟨⟨⟨⟨⟨⟨⟨⟨e1,e2⟩,e3⟩,e4⟩,e5⟩,e6⟩,e7⟩,e8⟩,e9⟩,e10⟩,e11⟩,e12⟩:=h
 cases List.isEmpty_iff.mp z1;cases List.isEmpty_iff.mp z2;obtain⟨np,gp,n2p,cp,rps,hpos,rfl⟩:=BR hh
 dsimp only at e1 e2 e3 e4 e5 e6 e7 e8 e9 e10 e11 e12;subst e1;subst e3;subst e9;have uY:Γ.cs.contains "FloorError"=true:=e2
 obtain⟨Dc,hm⟩:=S.C.cls _ (zzn.mp uY)
 have hN:X.N.Nodup:=by rw [S.C.hN];exact S.C.nd
 have hi:X.N[i]?=some n:=by rw [S.C.hN];exact e6
 have zJ:X.env.scope.names.lookup n=some .local:=by rw [S.C.cZ];exact e7
 intro aa s σ H D I hq;obtain⟨G,env,sr,o⟩:=hq
 rw [eQ] at o;cases hn:env.any Slot.uy with
 |true=>rw [if_pos hn] at o;exact o.elim
 |false=>
 rw [if_neg (by rw [hn];exact zzf)] at o
 let E1:XK:=λCv ao H'=>∃d,aS F b env=.exc d/\XE W d G H0 Cv ao H'
 let xe:Value->Shared->Prop:=λe s'=>∃H1 s1,Inv X aa σ H1 s1/\cS X.prog X.w X.stack H1 s1 E1 e s'
 have hP:ft (X.with1 (X.pn++aa) xe) E1 σ:=λfR H1 s1 e s' I1 c=>⟨H1,s1,I1.fW I.ok,c⟩
 have ob:bA W H0 G E1 (aS F b env) D:=by
  cases r:aS F b env with
  |ok f=>rw [r] at o;exact o
  |exc d=>exact λCv ao H' x=>⟨d,r,x⟩
  |bad=>rw [r] at o;exact o
 refine wpAny_Try_except (wpAny_mono (Ga (H0:=H0) (S.C.with1 (X.pn++aa) xe) S.fn hP b pb hb [] s σ H D I.with1 ⟨rfl,G,env,sr,ob⟩) (λf s1 hf=>?_) λe s1 hx=>?_)
 ·cases f with
  |next=>
   obtain⟨σ',H',I',q⟩:=hf
   exact pj aa s1 σ' H' D (I'.fW I.ok) q
  |brk=>
   obtain⟨σ',H',I',q⟩:=hf
   exact⟨σ',H',I'.fW I.ok,q⟩
  |cont=>
   obtain⟨σ',H',I',q⟩:=hf
   exact⟨σ',H',I'.fW I.ok,q⟩
  |ret u=>
   obtain⟨v,σ',H',I',r,q⟩:=hf
   exact⟨v,σ',H',I'.fW I.ok,r,q⟩
 ·obtain⟨H1,s2,I1,a,C,t,vs,H',B,rfl,Fy⟩:=hx
  have vA:=Fy.rJ
  rw [S.u5] at vA;refine wpAny_looks_onW (by rw [<-S.u5];exact I1.ok.frames) S.frame vA λh4 Ew JT=>?_
  refine wpAny_landsW Ew λh5 yF IS=>?_
  have Ik:=yF
  rw [<-S.u5] at Ik;have I5:=I1.sS (tk:=s1.toks) Fy Ik (JT.trans IS)
  obtain⟨oa,va,ea,ca,da,_⟩:=Ik.first
  obtain⟨d,ed,C',a',G',q1,q2,hdx,hdm,gr⟩:=Fy.ends
  cases q1;cases q2;have hx:PySem.W.exmOne X.K (.ref C) (.ref Dc)=some true:=S.Dj uY d C hdx (by rw [<-S.C.mg];exact hdm) Dc hm
  refine wpAny_handleBy_cons (codeAny_handlers_test (dq (X:=X.marked a (X.pn++aa)) I5.mark (cJ S.C e4) hm ?_ (cI e5).1)) (by intro q;cases q);have LT:PySem.W.Looks (model X.prog X.w) h5 (typeOf (.ref a)) (.ref C):=by
   rw [<-ca];exact(PySem.W.Looks.ld ea).andThen .now
  refine PySem.W.exm_one (K:=X.K) I5.jn LT hx _ _ _ _ (λ_ _ e=>e) ?_;refine codeAny_handlers_suite_as ?_;refine PyProof.Rows.lands_againW yF λh6 J3 K8=>?_
  rw [<-S.u5] at J3;have I6:=I1.sS (tk:=s1.toks) Fy J3 ((JT.trans IS).trans K8)
  have ha:H' a=none:=Fy.fresh
  have JC:G' a=none:=gr.sub.free ha
  have qN:H0 a=none:=gr.h.free ha
  have hG:G a=none:=gr.g.free JC
  have GR:aw W G H0 (upd G' a (eL a C)) (upd H' a (eL a C)):=⟨av.put gr.g hG,gr.h.upd qN,(λq u e=>by
   by_cases hq:q=a
   ·subst hq;rw [aq] at e⊢;exact e
   ·rw [af hq] at e⊢;exact gr.sub q u e),(λq w1 w3 w2=>by
   rw [af (λz=>by subst z;exact w1 qN)];exact gr.own q w1 w3 w2),λtt=>(gr.tab tt).same (bq JC) (λq w1 _ w2=>by
   rw [af (λz=>by subst z;exact w1 ha)];exact w2) (hX (λps z=>by rw [ha] at z;cases z))⟩
  have rp:Rep W (upd G' a (eL a C)) (.exc d) (.ref a):=by
   simp! [Rep];exact⟨a,C,rfl,hdx,hdm,aq⟩
  rw [ed] at o;have o:bA W H0 G E (match F y [.exc d] with|.ok p=>Res.ok (Ci.Fl.rt p)|_=>.bad) D:=o
  cases hgv:F y [.exc d] with
  |bad=>rw [hgv] at o;exact o.elim
  |exc _=>rw [hgv] at o;exact o.elim
  |ok pv=>
  rw [hgv] at o;have o:∀v G1 H1,Rep W G1 pv v->aw W G H0 G1 H1->D.rt v H1:=o
  have Hc:i<σ.length:=by rw [I1.len];exact(zzH.mp hi).1
  refine eN (X:=X.marked a (X.pn++aa)) (i:=i) (v:=.ref a) I6.mark hN hi (.inl zJ) rfl (λs7 I7=>?_) (.inr zJ);obtain⟨k2,⟨fa,fd,pn,FO,Cq,hk2,hb2,hal⟩⟩:=S.C.Eb y e10
  have pe:PE (X.marked a (X.pn++aa)) (.Call (.Name y gp) [.Name n n2p] [] cp) (λσ1 H1 Q=>σ1[i]?=some (some (.ref a))/\H1=upd H' a (eL a C)/\∀v G3 H3,aw W (upd G' a (eL a C)) (upd H' a (eL a C)) G3 H3->Rep W G3 pv v->Q v H3):=by
   intro pins1 s1 σ1 H1 Q1 I1 h1;obtain⟨h1,rfl,h3⟩:=h1
   refine wpAny_Call_Name_kw (dq (X:=X.marked a (X.pn++aa)) I1 (cJ S.C e11) Cq ?_ (cI e12).1);refine PySem.W.callWith_K (h₀:=X.base) I1.ok.mod.Cb hk2 (bD ((bu (X:=X.marked a (X.pn++aa)) (fD (X:=X.marked a (X.pn++aa)) hi (.inl zJ) (cI e8).1 (cI e8).2.1) cQ rfl) cp pins1 s1 σ1 (upd H' a (eL a C)) (λvs H2=>vs=[.ref a]/\H2=upd H' a (eL a C)) I1 ⟨.ref a,h1,rfl,rfl⟩) λus s2 ⟨vs,H2,I2,r,q1,q2⟩=>⟨I2.jn,?_⟩) rfl rfl
   subst q1 q2;refine gc (X:=X.marked a (X.pn++aa)) (k:=2) (q:=none) (as:=[.exc d]) (G:=upd G' a (eL a C)) ⟨λz=>absurd z (by decide),(S.C.room.mono (Nat.le_succ_of_le k2)).dp,(S.C.room.mono (Nat.le_succ_of_le k2)).un⟩ FO hb2 (λz=>hal _ z) I2 GR.sub (GR.tab sr.iU) (show ai W _ [.exc d] [V.ref a] from .cons rp .nil) r ?_
   rw [hgv];exact h3
  have hs:md (X.marked a (X.pn++aa)) [.Return (some (.Call (.Name y gp) [.Name n n2p] [] cp)) rps] _:=qc (oI (X:=X.marked a (X.pn++aa)) pe)
  refine wpAny_mono (hs [] s7 _ _ {nx:=λσ2 H2=>D.nx (σ2.set i none) H2,rt:=λv H2=>D.rt v H2,bk:=λσ2 H2=>D.bk (σ2.set i none) H2,ct:=λσ2 H2=>D.ct (σ2.set i none) H2} I7 ?hq) (λf s8 hf=>?_) λ_ _ z=>z.elim
  case hq=>exact⟨zzo Hc,rfl,λv G3 H3 g3 r3=>o v G3 H3 r3 (GR.trans g3)⟩
  cases f with
  |next=>
   obtain⟨σ8,H8,I8,q8⟩:=hf
   exact gU (I8.unmark I.ok) hN hi zJ λs9 I9=>⟨_,H8,I9,q8⟩
  |brk=>
   obtain⟨σ8,H8,I8,q8⟩:=hf
   exact gU (I8.unmark I.ok) hN hi zJ λs9 I9=>⟨_,H8,I9,q8⟩
  |cont=>
   obtain⟨σ8,H8,I8,q8⟩:=hf
   exact gU (I8.unmark I.ok) hN hi zJ λs9 I9=>⟨_,H8,I9,q8⟩
  |ret u=>
   obtain⟨v,σ8,H8,I8,r8,q8⟩:=hf
   exact gU (I8.unmark I.ok) hN hi zJ λs9 I9=>⟨v,_,H8,I9,r8,q8⟩
end
section
variable{Γ:Pg}{X:Cx}{W:Wd}{F:bz}{N:List Str}{sc:Scope}{k:Nat}{H0:Hp}{E:XK}
def mR{e:Ci.E}(h:d2 e=true):∀env q,ax F e env=.ok q->∃xs,q=.lst xs:=by
 cases e<;>first|(exact aC h)|exact lst_is|exact qi|exact j7
def kn(S:dU Γ F W N sc k E X){i:Nat}{x:Str}{xp pos:Pos}(hx:N[i]?=some x)(x9:fq sc x=true)(e:Ci.E)(p:Expr)(hf:d2 e=true)(h:aU Γ N sc e p=true):PS X (.Assign [.Name x xp] p pos) (Cd X W F i e):=by
 cases e with
 |lst as=>
  obtain⟨ps,e,h1⟩:=ah h
  obtain⟨_,rfl⟩:=tv e
  have h2:=ak h1
  have h0:=ak h2.1
  exact lu S hx x9 (ur h0.1 (zzY h0.2) (fj as S.C _ h2.2)) rfl
 |comp kk aL tg it elt=>
  obtain⟨hq,h⟩:=mh h
  obtain⟨dE,gens,scope,_,rfl,h1⟩:=E7 h
  obtain⟨⟨bL,en,ifs,asy⟩,z2,h2⟩:=iZ h1
  have h3:=ak h2
  have z3:=ye h3.1
  dsimp only at z2 z3;subst z2 z3
  clear h h1 h2
  have h:=ak h3.2
  clear h3
  simp! [zza] at h;obtain⟨⟨⟨⟨⟨⟨h1,h2⟩,h3⟩,h4⟩,h5⟩,h6⟩,fB⟩:=h
  have fB:=zzY fB
  subst fB;exact tx S hq hx x9 (fX h1) h2 h3 (t5 it S.C bL en h4) (fK h4 _) h5 λY CY=>(aX elt CY dE h6).ge
 |dc kk aL tg it c elt=>
  obtain⟨hq,h⟩:=mh h
  obtain⟨dE,gens,scope,_,rfl,h1⟩:=E7 h
  obtain⟨⟨bL,en,ifs,asy⟩,z2,h2⟩:=iZ h1
  obtain⟨pc,z3,h3⟩:=iZ h2
  dsimp only at z2 z3;subst z2 z3
  clear h h1 h2
  have h:=ak h3
  clear h3
  simp! [zza] at h;obtain⟨⟨⟨⟨⟨⟨⟨⟨h0,h1⟩,h2⟩,h3⟩,h4⟩,h5⟩,h6⟩,h7⟩,fB⟩:=h
  have fB:=zzY fB
  subst fB;exact nM S hq hx x9 (fX h1) h2 h3 (t5 it S.C bL en h4) (fK h4 _) h5 (λY CY=>(aX c CY pc h6).gt h0) λY CY=>(aX elt CY dE h7).ge
 |_=>exact aC hf
def rE{e:Ci.E}{p:Expr}(h:aU Γ N sc e p=true)(hf:d2 e=false):fF p=true:=by
 cases p<;>first|rfl|(cases e<;>first|(exact aC h)|(rename_i q;cases q<;>exact aC h)|(cases hf;done))
def rn(S:dU Γ F W N sc k E X){i:Nat}{x:Str}{e:Ci.E}{p:Expr}{xp pos:Pos}(h:N[i]?=some x)(hl:fq sc x=true)(cL:eo e=true)(hc:aU Γ N sc e p=true):GS X W F H0 E (.set i e) (.Assign [.Name x xp] p pos):=by
 cases hf:d2 e with
 |true=>exact vZ S (mR hf) cL (kn S h hl e p hf hc)
 |false=>exact yX S h hl cL (aX e S.C p hc).ge (gW (rE hc hf))
def tW(S:dU Γ F W N sc k E X)(e:Ci.E)(p:Stmt)(h:ee Γ N sc (.expr e) p=true):GS X W F H0 E (.expr e) p:=by
 cases p<;>first|(exact aC h)|skip
 replace h:=ak h
 try simp! [zza] at h
 exact xw S (aX e S.C _ h.2).ge h.1
def qr(S:dU Γ F W N sc k E X)(i:Nat)(e:Ci.E)(p:Stmt)(h:ee Γ N sc (.set i e) p=true):GS X W F H0 E (.set i e) p:=by
 cases p<;>first|(exact aC h)|skip
 replace h:=ah h
 simp! [Option.any_eq_true,zza,zzy] at h;obtain⟨x,h0,h1⟩:=h
 obtain⟨xp,rfl⟩:=nv h0
 exact rn S h1.1.1.1 h1.1.1.2 h1.1.2 h1.2
def vS(S:dU Γ F W N sc k E X)(i:Nat)(e:Ci.E)(p:Stmt)(h:ee Γ N sc (.own i e) p=true):GS X W F H0 E (.own i e) p:=by
 cases p<;>first|(exact aC h)|skip
 replace h:=ah h
 simp! [Option.any_eq_true,zza,zzy] at h;obtain⟨x,h0,h⟩:=h
 obtain⟨xp,rfl⟩:=nv h0
 exact xF S h.1.1.1 (mR h.1.2) (kn S h.1.1.1 h.1.1.2 e _ h.1.2 h.2)
def xh(S:dU Γ F W N sc k E X)(hq:Γ.qt=false)(tg:Tg)(e:Ci.E)(p:Stmt)(h:ee Γ N sc (.vE tg e) p=true):GS X W F H0 E (.vE tg e) p:=by
 cases p<;>first|(exact aC h)|skip
 replace h:=ah h
 simp! [Option.any_eq_true,zza] at h;obtain⟨t,h0,⟨⟨⟨⟨h1,h2⟩,h3⟩,h4⟩,h5⟩,h6⟩:=h
 cases b8 h0;exact A4 S hq h1 h2 h3 h4 h5 (aX e S.C _ h6).ge
def x8(S:dU Γ F W N sc k E X)(i:Nat)(p:Stmt)(h:ee Γ N sc (.bI i) p=true):GS X W F H0 E (.bI i) p:=by
 cases p<;>exact aC h
def xA(S:dU Γ F W N sc k E X)(i:Nat)(e:Ci.E)(p:Stmt)(h:ee Γ N sc (.app i e) p=true):GS X W F H0 E (.app i e) p:=by
 cases p<;>first|(exact aC h)|skip
 replace h:=ah h
 simp! [Option.any_eq_true,zza,zzy] at h;obtain⟨⟨x,m,args⟩,h0,⟨⟨⟨⟨h1,h2⟩,h3⟩,h4⟩,h5⟩,q,h6,h7⟩:=h
 obtain⟨np,apos,bY,rfl,hl⟩:=sH h0
 cases b8 h6;cases h4;exact zX S h1 h2 h3 hl h5 (aX e S.C q h7).ge (notStar h7)
def ve(S:dU Γ F W N sc k E X)(i:Nat)(e:Ci.E)(p:Stmt)(h:ee Γ N sc (.ji i e) p=true):GS X W F H0 E (.ji i e) p:=by
 cases p<;>first|(exact aC h)|skip
 replace h:=ah h
 simp! [Option.any_eq_true,zza,zzy] at h;obtain⟨⟨x,m,args⟩,h0,⟨⟨⟨h1,h2⟩,h3⟩,h4⟩,q,h6,h7⟩:=h
 obtain⟨np,apos,bY,rfl,hl⟩:=sH h0
 cases b8 h6;cases h4;exact xN S h1 h2 h3 hl (aX e S.C q h7).ge (notStar h7)
def pC(S:dU Γ F W N sc k E X)(e:Ci.E)(p:Stmt)(h:ee Γ N sc (.ret e) p=true):GS X W F H0 E (.ret e) p:=by
 cases p<;>first|(exact aC h)|skip
 rename_i v pos;cases v with
 |none=>exact aC h
 |some v=>
  replace h:=ak h
  try simp! [zza] at h
  exact yM S h.1 (aX e S.C v h.2).ge
def qH(S:dU Γ F W N sc k E X)(hq:Γ.qt=false)(c m:Str)(p:Stmt)(h:ee Γ N sc (.raise c m) p=true):GS X W F H0 E (.raise c m) p:=by
 cases p<;>first|(exact aC h)|skip
 replace h:=ak h
 simp! [Option.any_eq_true,zza,zzy] at h;obtain⟨hn,⟨x,z⟩,h0,⟨⟨⟨h1,h2⟩,h3⟩,h4⟩,h5⟩:=h
 obtain⟨np,j,zp,cp,rfl⟩:=zu h0
 cases h1;cases h2;rename_i fr pos;cases Option.isNone_iff_eq_none.mp hn;exact tZ S hq h3 h4 h5
def pG{c:Ci.E}{a b:Ss}{p:Stmt}(h:ee Γ N sc (.ite c a b) p=true):∃q pa pb pos,p=.If q pa pb pos/\eK c=true/\aU Γ N sc c q=true/\cK Γ N sc a pa=true/\cK Γ N sc b pb=true:=by
 cases p<;>first|(exact aC h)|skip
 replace h:=ak h
 try simp! [zza] at h
 exact⟨_,_,_,_,rfl,h.1.1.1,h.1.1.2,h.1.2,h.2⟩
def xP{tg:Tg}{it:I}{b:Ss}{p:Stmt}(h:ee Γ N sc (.gb tg it b) p=true):∃bL en pb pos,p=.For bL en pb [] pos/\d5 N sc (λ_=>true) tg bL=true/\wG it=true/\qU Γ N sc bL it en=true/\cK Γ N sc b pb=true:=by
 cases p<;>first|(exact aC h)|skip
 replace h:=ak h
 try simp! [zza] at h
 cases List.isEmpty_iff.mp h.1.1.1.1;exact⟨_,_,_,_,rfl,h.1.1.1.2,h.1.1.2,h.1.2,h.2⟩
def pk{ps:List Stmt}(h:cK Γ N sc .nil ps=true):ps=[]:=by
 cases ps with
 |nil=>rfl
 |cons _ _=>exact aC h
def mi{s:Ci.S}{ss:Ss}{ps:List Stmt}(h:cK Γ N sc (.cons s ss) ps=true):(∃i,s=.bI i/\cK Γ N sc ss ps=true)\/∃q qs,ps=q::qs/\ee Γ N sc s q=true/\cK Γ N sc ss qs=true:=by
 by_cases hz:∃i,s=.bI i
 ·obtain⟨i,rfl⟩:=hz
  exact .inl ⟨i,rfl,h⟩
 ·cases ps with
  |nil=>cases s<;>first|(exact absurd ⟨_,rfl⟩ hz)|(exact aC h)
  |cons p ps=>
   have h2:(ee Γ N sc s p&&cK Γ N sc ss ps)=true:=by
    cases s<;>first|(exact absurd ⟨_,rfl⟩ hz)|(exact h)
   rw [zza] at h2;exact .inr ⟨p,ps,rfl,h2.1,h2.2⟩
mutual
theorem HS(S:dU Γ F W N sc k E X)(hq:Γ.qt=false):∀(s:Ci.S) (p:Stmt),ee Γ N sc s p=true->GS X W F H0 E s p
 |.expr e,p,h=>tW S e p h
 |.set i e,p,h=>qr S i e p h
 |.own i e,p,h=>vS S i e p h
 |.vE tg e,p,h=>xh S hq tg e p h
 |.bI i,p,h=>x8 S i p h
 |.app i e,p,h=>xA S i e p h
 |.ji i e,p,h=>ve S i e p h
 |.par i j as,p,h=>wo S hq i j as p h
 |.ret e,p,h=>pC S e p h
 |.ite c a b,p,h=>by
  obtain⟨q,pa,pb,pos,rfl,h1,h2,h3,h4⟩:=pG h
  exact tK S ((aX c S.C _ h2).gt h1) (j0 S hq a _ h3) (j0 S hq b _ h4)
 |.gb tg it b,p,h=>by
  obtain⟨bL,en,pb,pos,rfl,h1,h2,h3,h4⟩:=xP h
  exact Bm S hq h1 h2 (t5 it S.C bL en h3) (fK h3 _) (j0 S hq b _ h4)
 |.raise c m,p,h=>qH S hq c m p h
 |.f9 b c i g,p,h=>xq S b c i g p h
theorem j0(S:dU Γ F W N sc k E X)(hq:Γ.qt=false):∀(ss:Ss) (ps:List Stmt),cK Γ N sc ss ps=true->vF X W F H0 E ss ps
 |.nil,ps,h=>by
  cases pk h;exact oS
 |.cons s ss,ps,h=>by
  rcases mi h with⟨i,e,h2⟩|⟨q,qs,e,h1,h2⟩
  ·have:=vO (i:=i) (j0 S hq ss ps h2)
   rw [<-e] at this;exact this
  ·rw [e];exact mS (HS S hq s q h1) (j0 S hq ss qs h2)
end
mutual
noncomputable def Ah:Ci.S->Bool
 |.set _ _=>true
 |.ret _=>true
 |.ite _ a b=>ip a&&ip b
 |_=>false
noncomputable def ip:Ss->Bool
 |.nil=>true
 |.cons s ss=>Ah s&&ip ss
end
mutual
theorem FY(S:dU Γ F W N sc k E X):∀(s:Ci.S) (p:Stmt),Ah s=true->ee Γ N sc s p=true->GS X W F H0 E s p
 |.set i e,p,_,h=>qr S i e p h
 |.ret e,p,_,h=>pC S e p h
 |.ite c a b,p,hz,h=>by
  unfold Ah at hz;rw [zza] at hz;obtain⟨q,pa,pb,pos,rfl,h1,h2,h3,h4⟩:=pG h
  exact tK S ((aX c S.C _ h2).gt h1) (pI S a _ hz.1 h3) (pI S b _ hz.2 h4)
 |.expr _,_,h,_=>aC h
 |.own _ _,_,h,_=>aC h
 |.vE _ _,_,h,_=>aC h
 |.bI _,_,h,_=>aC h
 |.app _ _,_,h,_=>aC h
 |.ji _ _,_,h,_=>aC h
 |.par _ _ _,_,h,_=>aC h
 |.gb _ _ _,_,h,_=>aC h
 |.raise _ _,_,h,_=>aC h
 |.f9 _ _ _ _,_,h,_=>aC h
theorem pI(S:dU Γ F W N sc k E X):∀(ss:Ss) (ps:List Stmt),ip ss=true->cK Γ N sc ss ps=true->vF X W F H0 E ss ps
 |.nil,ps,_,h=>by
  cases pk h;exact oS
 |.cons s ss,ps,hz,h=>by
  unfold ip at hz;rw [zza] at hz;rcases mi h with⟨i,e,h2⟩|⟨q,qs,e,h1,h2⟩
  ·rw [e] at hz;exact aC hz.1
  ·rw [e];exact mS (FY S s q hz.1 h1) (pI S ss qs hz.2 h2)
end
end
end Ci
namespace L2
open PySem PySem.Spec PyProof.Rows
def aJ{K:zz8}{C c:Addr}{b:Bool}(h1:PySem.W.isClsIn K c=true)(h2:PySem.W.typeIn K (.ref c)=some (.type "type"))(h3:PySem.W.subIn K (.ref C) (.ref c)=some b)(h4:b=true\/(C==c)=false):PySem.W.kitOne K (.ref C) (.ref c)=some b:=by
 have k:PySem.W.kitCls K (.ref C) (.ref c)=some b:=by
  show(if((PySem.W.clsIn K c).isSome&&PySem.W.typeIn K (.ref c)==some (.type "type"))=true then PySem.W.subIn K (.ref C) (.ref c) else none)=some b
  rw [show(PySem.W.clsIn K c).isSome=true from h1,h2,h3]
  rfl
 unfold PySem.W.kitOne;split
 ·rename_i e;rcases h4 with rfl|h4
  ·rfl
  ·have e2:C=c:=Value.ref.inj (zzy.mp e)
   rw [e2,beq_self_eq_true] at h4;cases h4
 ·exact k
def sN{K:zz8}{C:Addr}{T:String}{b:Bool}(h1:PySem.W.kitMeta T=true)(h3:PySem.W.subIn K (.ref C) (.type T)=some b):PySem.W.kitOne K (.ref C) (.type T)=some b:=by
 unfold PySem.W.kitOne;split
 ·rename_i e;cases zzy.mp e
 ·show(if PySem.W.kitMeta T=true then PySem.W.subIn K (.ref C) (.type T) else none)=some b
  rw [if_pos h1];exact h3
def mr{K:zz8}{C c:Addr}{b:Bool}(h0:PySem.W.subIn K (.ref c) (.type "BaseException")=some true)(h1:PySem.W.isClsIn K c=true)(h2:PySem.W.typeIn K (.ref c)=some (.type "type"))(h3:PySem.W.subIn K (.ref C) (.ref c)=some b):PySem.W.exmOne K (.ref C) (.ref c)=some b:=by
 unfold PySem.W.exmOne;rw [h0];show PySem.W.kitCls K (.ref C) (.ref c)=some b
 show(if((PySem.W.clsIn K c).isSome&&PySem.W.typeIn K (.ref c)==some (.type "type"))=true then PySem.W.subIn K (.ref C) (.ref c) else none)=some b
 rw [show(PySem.W.clsIn K c).isSome=true from h1,h2,h3]
 rfl
def zQ{K:zz8}{h:Heap}{mg:Str->Option Value}{x:Str}{C:Addr}{IY:List Value}{newId:String}(X:K.In h)(hm:mg x=some (.ref C))(q:PySem.W.excIn K C IY newId=true):OwnCls x C IY newId mg h:=by
 constructor
 ·exact hm
 ·unfold PySem.W.excIn at q;split at q
  ·rename_i dd cd sl ho;split at q
   ·rename_i C1 bm1 k0 k1 k2 k3 n1 k5 Je Fb;simp! [zza,zzy,Bool.not_eq_true'] at q;obtain⟨⟨⟨⟨⟨q1,q2⟩,q3⟩,q4⟩,q5⟩,q6⟩:=q
    subst q1 q2;obtain⟨nm,bs,mro,ns,qn,hd,sn,sub,ab,col,del⟩:=cd
    have Cq:mro=.ref C1::bm1:=Je
    have hd2:del=false:=q3
    have IQ:PySem.W.nsOkIn K ns=true:=q5
    have Li:PySem.W.nsIn K ns "__init__"=some none:=q6
    subst Cq hd2;obtain⟨ls⟩:=sl
    have E4:ls=[k0,k1,k2,k3,some (.builtin n1),k5]:=Fb
    subst E4;exact⟨bm1,ns,nm,qn,bs,hd,sn,sub,ab,col,dd,k0,k1,k2,k3,k5,_,X _ _ ho,.of_isNs (PySem.W.isNs_of_in X IQ),PySem.W.nsMap_none_of_in X IQ Li,PySem.W.tail_of_in X q4⟩
   ·cases q
  ·cases q
end L2
namespace Ci
open PySem L2
noncomputable abbrev tP:List Value:=[.type "ValueError",.type "Exception",.type "BaseException",.type "object"]
structure nF(K:zz8)(mg:Str->Option Value)(Γ:Pg)(W:Wd):Prop where
 hK:W.K=K
 hm:W.mg=mg
 gs:∀q∈Γ.gs,∃u v,mg q.1=some u/\RelV v u/\∀G,Rep W G q.2 v
 bs:∀g∈Γ.bs,mg g=none
 Cj:Γ.cs.contains "ValueError"=false
 cls:∀c∈Γ.cs,∃C,mg c=some (.ref C)
 xc:∀d∈W.xs,∀D,mg d=some (.ref D)->jc K D/\(∀c∈Γ.cs,∀C,mg c=some (.ref C)->PySem.W.kitOne K (.ref D) (.ref C)=some (c==d||c=="FloorError"))/\PySem.W.kitOne K (.ref D) (.type "ValueError")=some true
 xs:∀c,Γ.rs.contains c=true->c∈W.xs
 rm:∀c,Γ.rs.contains c=true->∃C,mg c=some (.ref C)/\PySem.W.excIn K C tP "ValueError.__new__"=true
 Dj:Γ.cs.contains "FloorError"=true->∀c D,c∈W.xs->mg c=some (.ref D)->∀T,mg "FloorError"=some (.ref T)->PySem.W.exmOne K (.ref D) (.ref T)=some true
 bm:W.ts≠[]->∃bm o,mg "__builtins__"=some (.ref bm)/\bm≠builtinsNs/\bm≠mainGlobals/\K.lookup bm=some o/\o.cls=.type "module"/\o.dict=some builtinsNs/\o.data=.plain
structure Row where
 f:Str
 h:Str
 d:Def
 st:Stmt
 hl:Bool:=false
abbrev eY:Type:=List Row
noncomputable def gM(l:eY):List Str:=l.filterMap λr=>if r.d.lR.isNone then some r.f else none
noncomputable def ro(l:eY):List Hs:=l.filterMap λr=>r.d.lR.map λq=>⟨r.f,r.h,q.1,q.2,r.d.np⟩
noncomputable def tab(l:eY):List (Str×Def):=l.map λq=>(q.f,q.d)
noncomputable def iR(l:eY):List Str:=match l.getLast? with|some r=>if r.d.lR.isNone then [r.f] else []|none=>[]
noncomputable def Pg.at(Γ:Pg)(l:eY)(hl:Bool):Pg:={Γ with fs:=gM l,hs:=ro l,hl:=hl,qt:=l.isEmpty,qs:=iR l}
structure cN(Γ:Pg)(n:Str)(d:Def)(st:Stmt):Prop where
 sc:gZ d.N (d.N.take d.np) (aK st)
 np:d.np<=d.N.length
 bind:∀(kV doc pm:Value) (an:Option Addr) (d7 ct:Value) (us:List Value),us.length=(d.N.take d.np).length->bindArgs (PySem.W.fnOf n n (bZ st) (bR st) (aK st) .none kV doc pm an d7 ct) ⟨us,[]⟩=pure ((d.N.take d.np).zip us)
 JI:cK Γ d.N (aK st) d.body (bR st)=true
 Ky:(!Γ.qt||ip d.body)=true
theorem stM{Γ:Pg}{n:Str}{d:Def}{st:Stmt}(b:∀(kV doc pm:Value) (an:Option Addr) (d7 ct:Value) (us:List Value),us.length=(d.N.take d.np).length->bindArgs (PySem.W.fnOf n n (bZ st) (bR st) (aK st) .none kV doc pm an d7 ct) ⟨us,[]⟩=pure ((d.N.take d.np).zip us))
 (a1:(aK st).kind=.function:=by rfl) (a2:(aK st).isCoroutine=false:=by rfl) (a3:(aK st).isGenerator=false:=by rfl) (a4:d.N.Nodup:=by decide+kernel) (a5:d.N.take (d.N.take d.np).length=d.N.take d.np:=by rfl)
 (a6:∀x∈d.N.take d.np,(aK st).names.lookup x=some .local\/(aK st).names.lookup x=some .cell:=by decide+kernel) (a7:∀y∈(aK st).names,y.2≠.free:=by decide+kernel) (a8:d.np<=d.N.length:=by decide+kernel) (a9:cK Γ d.N (aK st) d.body (bR st)=true:=by decide+kernel) (a10:(!Γ.qt||ip d.body)=true:=by decide+kernel):cN Γ n d st:=⟨⟨a1,a2,a3,a4,a5,a6,a7⟩,a8,b,a9,a10⟩
def fi(K:zz8)(c P:Addr):Prop:=∃o vs file tf flags tg Ho text tt,K.lookup c=some o/\o.cls=.type "code"/\o.data=.fields vs/\vs[11]?=some (.ref P)/\vs.getD 11 .none=.ref P/\vs.getD 18 .none=.str file tf/\
 vs.getD 7 .none=.int flags tg/\vs.getD 9 .none=.bool Ho/\vs.getD 10 .none=.int text tt/\c≠P
noncomputable def kK(n:Str):Str:=(n++".<locals>.")++"<lambda>"
def rH(K:zz8)(ts:List (Addr×Str))(hl:Bool)(n:Str)(st:Stmt):Prop:=∃(f:Addr) (oc:Value) (od:Option Addr) (kV doc pm:Value) (an:Option Addr) (d7 ct:Value) (n9:Array (Option Value)),
 PySem.W.nsIn K mainGlobals n=some (some (.ref f))/\K.lookup f=some ⟨oc,od,.func (PySem.W.fnOf n n (bZ st) (bR st) (aK st) .none kV doc pm an d7 ct),n9⟩/\PySem.W.codeIn K d7 n=true/\PySem.W.keepIn K (.ref f)=true/\
 (hl=true->∃c P,d7=.ref c/\fi K c P/\(P,kK n)∈ts/\∀q',(P,q')∈ts->q'=kK n)
def FI{K:zz8}{ts:List (Addr×Str)}{n:Str}{st:Stmt}{f:Addr}{oc:Value}{od:Option Addr}{kV doc pm:Value}{an:Option Addr}{d7 ct:Value}{n9:Array (Option Value)}(a:PySem.W.nsIn K mainGlobals n=some (some (.ref f)))
 (l:K.lookup f=some ⟨oc,od,.func (PySem.W.fnOf n n (bZ st) (bR st) (aK st) .none kV doc pm an d7 ct),n9⟩) (c:PySem.W.codeIn K d7 n=true) (k:PySem.W.keepIn K (.ref f)=true):rH K ts false n st:=⟨f,oc,od,kV,doc,pm,an,d7,ct,n9,a,l,c,k,(λz=>nomatch z)⟩
structure gk(P:Program)(w:World)(K:zz8)(mg:Str->Option Value)(base:Heap)(W:Wd)(F:bz)(k:Nat)(f:Str):Prop where
 ex:∃fa fd ps,eT P w K mg base (cS P w) k fa fd ps (rW W F f ps.length none)/\mg f=some (.ref fa)/\PySem.W.keepIn K (.ref fa)=true/\Binds K fd ps []/\∀as,F f as≠.bad->as.length=ps.length
structure Ax(P:Program)(w:World)(K:zz8)(mg:Str->Option Value)(base:Heap)(W:Wd)(F:bz)(k:Nat)(q:Hs):Prop where
 ex:∃fa fd ps,eT P w K mg base (cS P w) k fa fd ps (rW W F q.f ps.length (some (q.g,q.idx)))/\mg q.h=some (.ref fa)/\PySem.W.keepIn K (.ref fa)=true/\Binds K fd ps []/\ps.length=q.np
section
variable{P:Program}{w:World}{K:zz8}{mg:Str->Option Value}{base:Heap}{Γ:Pg}{W:Wd}
def rR{c p:Addr}(KB:K.In base)(h:fi K c p):PySem.W.CodeHd base c p:=by
 obtain⟨o,vs,file,tf,flags,tg,Ho,text,tt,e,r⟩:=h
 exact⟨o,vs,file,tf,flags,tg,Ho,text,tt,KB _ _ e,r⟩
theorem Ab(M:nF K mg Γ W)(KB:K.In base){F:bz}{k:Nat}{N ps:List Str}{qual:Str}{sc:Scope}(S:gZ N ps sc)(hF:∀f,Γ.fs.contains f=true->gk P w K mg base W F k f)(hH:∀q∈Γ.hs,Ax P w K mg base W F k q)(hQ:∀f,Γ.qs.contains f=true->2<=k/\gk P w K mg base W F 2 f)(hk:Γ.qt=false->2<=k)(hA:∀g as,F g as≠.bad->Γ.fs.contains g=true\/eO g=true){f:Addr}{cd:Value}
 (hL:Γ.hl=true->∃c p,cd=.ref c/\fi K c p/\(p,kK qual)∈W.ts/\∀q',(p,q')∈W.ts->q'=kK qual) {A:Around} {outer:List Env} {s:Shared} {H:Hp} {E:XK} (hr:dz (k+1) (A.deeper (PyProof.Rows.envOfC qual sc (zz9 s) f cd))):
 dU Γ F W N sc k E (cO (cS P w) P w K mg base N qual sc f cd A outer s H E) where
 C:=⟨rfl,rfl,λz=>Option.isNone_iff_eq_none.mpr (hr.hd (by have:=hk z;omega)),S.nd,M.hK,M.hm,M.gs,M.bs,hr,λg hg=>⟨(hF g hg).ex⟩,M.Cj,M.cls,M.xc,λq hq=>⟨(hH q hq).ex⟩,λf hf=>⟨(hQ f hf).1,⟨(hQ f hf).2.ex⟩⟩,hA,λz=>by
  obtain⟨c,p,e1,e2,e3,e4⟩:=hL z
  exact⟨c,p,e1,rR KB e2,e3,e4⟩,λz=>by
  obtain⟨c,p,e1,e2,e3,e4⟩:=hL z
  obtain⟨bm,o,b1,b2,b3,b4,b5⟩:=M.bm (λy=>by rw [y] at e3;cases e3)
  exact⟨bm,o,b1,b2,b3,KB _ _ b4,b5⟩,λ_ _=>rfl⟩
 fn:=λ_=>rfl
 own:=PassesOwn.leaving
 pass:=DD
 kind:=S.kind
 u5:=rfl
 frame:=rfl
 xs:=M.xs
 rm:=λc hc=>let⟨C,h,_⟩:=M.rm c hc;⟨C,h⟩
 rz:=λhq c z j np zp cp pos h1 h2 h3=>by
  obtain⟨C,hC,hx⟩:=M.rm c h1
  have hg:Gl (cO (cS P w) P w K mg base N qual sc f cd A outer s H E) c:=zzy.mp h2
  refine L2.PS.imp (t8 hg (zQ KB hC hx) PySem.F.excBase_ValueError (bu kF cQ) rfl rfl (cI h3).1 (Option.isNone_iff_eq_none.mpr (hr.hd (by have:=hk hq;omega)))) λD σ H1 h=>⟨(show 1<=sizeLine by decide),λe he=>h C e hC he⟩
 Dj:=M.Dj
def me{H G:Hp}{N:List Str}{as:List PV}{vs:List V}(sg:av G H)(tb:bM W G H)(l:ai W G as vs)(hn:as.length<=N.length):SR W H (as.map .val++List.replicate (N.length-as.length) .no) (start N vs) G H:=by
 have hl:=l.length
 unfold L2.start;refine⟨by simp;omega,sg,er.refl _,λi s e=>?_,λi j p q a e1 _ _ _=>?_,tb,tb⟩
 ·by_cases hi:i<as.length
  ·rw [zzr (by simpa using hi),zzQ] at e;obtain⟨p,hp,rfl⟩:=zzJ.mp e
   obtain⟨v,hv,rv⟩:=l.lF hp
   exact⟨some v,by rw [zzr (by simpa using (show i<vs.length by omega)),zzQ,hv];rfl,v,rfl,rv⟩
  ·rw [zzs (by simpa using hi),List.getElem?_replicate] at e;split at e
   ·rename_i h2;cases e;rw [zzl] at h2;exact⟨none,by rw [zzs (by simp;omega),List.getElem?_replicate,if_pos (by rw [zzl];omega)],trivial⟩
   ·cases e
 ·exfalso
  by_cases hi:i<as.length
  ·rw [zzr (by simpa using hi),zzQ] at e1;obtain⟨p,hp,e⟩:=zzJ.mp e1
   cases e
  ·rw [zzs (by simpa using hi),List.getElem?_replicate] at e1;split at e1<;>cases e1
def SR.Cs{H0 G H:Hp}{env:Sl}{σ:St}{g:Str}{idx:List Nat}{bg:List PV}{v:V}(i:Nat)(r:SR W H0 env σ G H)(h:lG W G g idx bg v):SR W H0 (env.set i (.fn g idx bg)) (σ.set i (some v)) G H where
 len:=by simpa using r.len
 sub:=r.sub
 base:=r.base
 tab:=r.tab
 iU:=r.iU
 slot:=λj s e=>by
  by_cases hj:i=j
  ·subst hj;have cD:i<env.length:=by
    have:=(zzH.mp e).1
    simpa using this
   rw [zzo cD] at e;cases e;exact⟨some v,zzo (by rw [<-r.len];exact cD),v,rfl,h⟩
  ·rw [zzS hj] at e;obtain⟨o,h1,h2⟩:=r.slot j s e
   exact⟨o,by rw [zzS hj];exact h1,h2⟩
 apart:=λa b q q' ad e1 e2 e3 e4=>by
  have ne:∀{c:Nat} {q:PV},(env.set i (.fn g idx bg))[c]?=some (.own q)->i≠c:=λ{c q} e z=>by
   subst z;have cD:i<env.length:=by
    have:=(zzH.mp e).1
    simpa using this
   rw [zzo cD] at e;cases e
  have n1:=ne e1
  have n2:=ne e2
  rw [zzS n1] at e1 e3;rw [zzS n2] at e2 e4;exact r.apart a b q q' ad e1 e2 e3 e4
def o9{α:Type}{l r:List α}{a b:α}:(l++a::r).set l.length b=l++b::r:=by
 rw [List.set_append_right _ _ (zzE _),Nat.sub_self];rfl
def qR{d:Def}{H G:Hp}{as:List PV}{vs:List V}(Fm:d.np<=d.N.length)(sg:av G H)(tb:bM W G H)(l:uJ W G d.lR as vs)(hv:vs.length=d.np):cA d as=true/\SR W H (cw d as) (start d.N vs) G H:=by
 unfold cA cw;cases hc:d.lR with
 |none=>
  rw [hc] at l;have l:ai W G as vs:=l
  exact⟨by rw [<-l.length,hv];simp,me sg tb l (by rw [<-l.length,hv];exact Fm)⟩
 |some q=>
  rw [hc] at l;obtain⟨pN,bg,pL,v,rfl,rfl,l1,cr⟩:=l
  have Kt:=l1.length
  have hn:pL.length=d.np-1/\0<d.np:=by rw [zzM] at hv;simp at hv;omega
  have ha:pN.length=d.np-1:=by omega
  refine⟨by simp;omega,?_⟩;have h0:=me (N:=d.N) sg tb l1 (by omega)
  have h1:=h0.Cs pN.length cr
  have e1:(pN.map Slot.val++List.replicate (d.N.length-pN.length) Slot.no).set pN.length (.fn q.1 q.2 bg)=((pN++bg).take (d.np-1)).map .val++.fn q.1 q.2 ((pN++bg).drop (d.np-1))::List.replicate (d.N.length-d.np) Slot.no:=by
   rw [<-ha,List.take_left',List.drop_left',show d.N.length-pN.length=(d.N.length-d.np)+1 by omega,List.replicate_succ]
   ·have:=o9 (l:=pN.map Slot.val) (r:=List.replicate (d.N.length-d.np) Slot.no) (a:=Slot.no) (b:=.fn q.1 q.2 bg)
    rw [zzl] at this;exact this
   ·rfl
   ·rfl
  have e2:(start d.N pL).set pN.length (some v)=start d.N (pL++[v]):=by
   unfold L2.start;rw [zzM,List.length_singleton,show d.N.length-pL.length=(d.N.length-(pL.length+1))+1 by omega,List.replicate_succ,<-Kt];have:=o9 (l:=pL.map some) (r:=List.replicate (d.N.length-(pL.length+1)) none) (a:=none) (b:=some v)
   rw [zzl] at this;rw [this];simp
  rw [e1,e2] at h1;exact h1
def yI(M:nF K mg Γ W)(KB:K.In base){F:bz}{k:Nat}{n nf:Str}{d:Def}{st:Stmt}{fa:Addr}{fd:FuncData}(St:cN Γ n d st)(Fu:E3 K n n st fa fd)(hF:∀f,Γ.fs.contains f=true->gk P w K mg base W F k f)(hH:∀q∈Γ.hs,Ax P w K mg base W F k q)(hQ:∀f,Γ.qs.contains f=true->2<=k/\gk P w K mg base W F 2 f)(hk:Γ.qt=false->2<=k)(hA:∀g as,F g as≠.bad->Γ.fs.contains g=true\/eO g=true)
 (hL:Γ.hl=true->∃c p,fd.code=.ref c/\fi K c p/\(p,kK n)∈W.ts/\∀q',(p,q')∈W.ts->q'=kK n):
 eT P w K mg base (cS P w) (k+2) fa fd (d.N.take d.np) (rW W (λ_ as=>az F d as) nf (d.N.take d.np).length d.lR):=by
 have hlen:(d.N.take d.np).length=d.np:=by rw [List.length_take];have:=St.np;omega
 obtain⟨oc,od,kV,doc,pm,an,d7,ct,n9,rfl,lk,jy⟩:=Fu.ex
 refine Dp lk jy St.sc (λvs H Q E h=>h.1) λA outer s H vs Q E hr h=>?_
 obtain⟨hl,G,as,sg,tb,l,o⟩:=h
 rw [hlen] at hl;obtain⟨ar,sr⟩:=qR St.np sg tb l hl
 have CS:=Ab (outer:=outer) (s:=s) (H:=H) (E:=E) M KB St.sc hF hH hQ hk hA hL hr
 refine⟨G7 W F H E d.body,(by
  cases hz:Γ.qt with
  |false=>exact j0 CS hz d.body _ St.JI
  |true=>exact pI CS d.body _ (by have:=St.Ky;rw [hz] at this;exact this) St.JI),G,cw d as,sr,?_⟩
 dsimp only at o;unfold az at o;rw [if_pos ar] at o;cases r:aS F d.body (cw d as) with
 |bad=>rw [r] at o;exact o
 |exc c=>rw [r] at o;exact o
 |ok fl=>
  rw [r] at o;cases fl with
  |nx env=>exact λσ' G' H' sr g=>o .bO G' H' g .n
  |rt p=>exact λv G' H' rv g=>o v G' H' g rv
  |bk env=>exact o.elim
  |ct env=>exact o.elim
def AllK(K:zz8)(ts:List (Addr×Str))(Γ:Pg):eY->Prop
 |[]=>True
 |r::l=>rH K ts r.hl r.h r.st/\cN (Γ.at l r.hl) r.h r.d r.st/\((l.map (·.f)).contains r.f=false/\(r.d.lR.isNone==!eO r.f)=true/\(r.d.lR.isNone=true->r.f=r.h))/\AllK K ts Γ l
def o6(M:nF K mg Γ W)(l:eY)(hl:Bool):nF K mg (Γ.at l hl) W:=⟨M.hK,M.hm,M.gs,M.bs,M.Cj,M.cls,M.xc,M.xs,M.rm,M.Dj,M.bm⟩
def gk.mono{F:bz}{j k:Nat}{f:Str}(h:gk P w K mg base W F j f)(hk:j<=k):gk P w K mg base W F k f:=by
 obtain⟨fa,fd,ps,h1,h2⟩:=h.ex
 exact⟨fa,fd,ps,h1.mono hk,h2⟩
def iX{F F':bz}{f f':Str}{n:Nat}{q:Option (Str×List Nat)}(e:∀as,F' f' as=F f as):rW W F' f' n q=rW W F f n q:=by
 funext vs H Q E
 unfold rW;simp! [e]
def gk.swap{F F':bz}{k:Nat}{f:Str}(h:gk P w K mg base W F k f)(e:∀as,F' f as=F f as):gk P w K mg base W F' k f:=by
 obtain⟨fa,fd,ps,h1,h2,h3,h4,h5⟩:=h.ex
 refine⟨fa,fd,ps,?_,h2,h3,h4,λas hn=>h5 as (by rw [<-e];exact hn)⟩
 rw [iX e];exact h1
def Ax.swap{F F':bz}{j k:Nat}{q:Hs}(h:Ax P w K mg base W F j q)(hk:j<=k)(e:∀as,F' q.f as=F q.f as):Ax P w K mg base W F' k q:=by
 obtain⟨fa,fd,ps,h1,h2,h3,h4,h5⟩:=h.ex
 refine⟨fa,fd,ps,?_,h2,h3,h4,h5⟩;rw [iX e];exact h1.mono hk
def fS{r:Row}{l:eY}{g:Str}(h:(g==r.f)=false)(as:List PV):den (tab (r::l)) g as=den (tab l) g as:=by
 show(if(g==r.f)=true then _ else _)=_
 rw [h]
 rfl
def mM{r:Row}{l:eY}(as:List PV):den (tab (r::l)) r.f as=az (den (tab l)) r.d as:=by
 show(if(r.f==r.f)=true then _ else _)=_
 rw [beq_self_eq_true]
 rfl
theorem kZ:∀(l:eY) {ts:List (Addr×Str)},AllK K ts Γ l->∀g as,den (tab l) g as≠.bad->(gM l).contains g=true\/eO g=true
 |[],_,_,g,as,h=>absurd rfl h
 |r::l,ts,⟨_,_,⟨_,hn,_⟩,hr⟩,g,as,h=>by
  by_cases e:(g==r.f)=true
  ·have e2:=zzy.mp e
   subst e2;cases hc:r.d.lR with
   |none=>
    left
    unfold gM;rw [List.filterMap_cons,hc];simp
   |some q=>
    right
    rw [hc] at hn
    simpa using hn
  ·rw [fS (by simpa using e)] at h;rcases kZ l hr g as h with z|z
   ·left
    unfold gM at z⊢;rw [List.filterMap_cons];split
    ·exact z
    ·rw [List.contains_cons,z,Bool.or_true]
   ·exact .inr z
def fc:∀{l:eY} {f:Str},(iR l).contains f=true->l≠[]/\(gM l).contains f=true:=by
 intro l f h;unfold iR at h;cases e:l.getLast? with
 |none=>rw [e] at h;cases h
 |some r=>
  rw [e] at h;have hm:=List.mem_of_getLast? e
  refine⟨λz=>(by rw [z] at hm;cases hm),?_⟩
  dsimp only at h;split at h
  ·rename_i hc;have hf:f=r.f:=by simpa using h
   rw [zzn,hf];exact zz1.mpr ⟨r,hm,if_pos hc⟩
  ·cases h
theorem tV(M:nF K mg Γ W)(KB:K.In base)(G:base.Ns mainGlobals mg):∀(l:eY),AllK K W.ts Γ l->(∀f,(gM l).contains f=true->gk P w K mg base W (den (tab l)) (2*l.length) f)/\(∀q∈ro l,Ax P w K mg base W (den (tab l)) (2*l.length) q)/\∀f,(iR l).contains f=true->gk P w K mg base W (den (tab l)) 2 f
 |[],_=>⟨λf hf=>by simp [gM] at hf,λq hq=>by simp [ro] at hq,λf hf=>absurd rfl (fc hf).1⟩
 |r::l,hall=>by
  obtain⟨he,hs,⟨hfr,hnm,hfh⟩,hr⟩:=hall
  obtain⟨ih,ihH,ihQ⟩:=tV M KB G l hr
  have ne2:l≠[]->2<=2*l.length:=λz=>by have:=List.length_pos_iff.mpr z;omega
  obtain⟨fa,oc,od,kV,doc,pm,an,d7,ct,n9,e1,e2,e3,e4,e5⟩:=he
  have Fu:=sA (st:=r.st) e2 e3 e4
  have ok:=yI (P:=P) (w:=w) (nf:=r.f) (o6 M l r.hl) KB (k:=2*l.length) hs Fu (λg hg=>ih g hg) (λq hq=>ihH q hq) (λf hf=>⟨ne2 (fc hf).1,ihQ f hf⟩) (λz=>ne2 λy=>by subst y;cases z) (kZ l hr) e5
  have i9:∀g,(l.map (·.f)).contains g=true->(g==r.f)=false:=λg hg=>by
   cases z:g==r.f with
   |false=>rfl
   |true=>rw [zzy.mp z,hfr] at hg;cases hg
  have sp:rW W (λ_ as=>az (den (tab l)) r.d as) r.f (r.d.N.take r.d.np).length r.d.lR=rW W (den (tab (r::l))) r.f (r.d.N.take r.d.np).length r.d.lR:=iX λas=>(mM as).symm
  rw [sp] at ok;have hlen:(r.d.N.take r.d.np).length=r.d.np:=by rw [List.length_take];have:=hs.np;omega
  have ml:∀f,(gM l).contains f=true->(l.map (·.f)).contains f=true:=λf hf=>by
   rw [zzn] at hf⊢;unfold gM at hf;obtain⟨x,hx,e⟩:=zz1.mp hf
   split at e
   ·cases e;exact List.mem_map_of_mem (f:=(·.f)) hx
   ·cases e
  have main:∀f,(gM (r::l)).contains f=true->gk P w K mg base W (den (tab (r::l))) (2*(r::l).length) f:=λf hf=>by
   by_cases iM:(f==r.f)=true/\r.d.lR=none
   ·obtain⟨h1,h2⟩:=iM
    have e:=zzy.mp h1
    subst e;refine⟨fa,_,r.d.N.take r.d.np,by rw [h2] at ok;exact ok,?_,e4,Fu.binds hs.bind,λas hn=>?_⟩
    ·rw [hfh (by rw [h2];rfl)];exact PySem.W.mg_of KB G e1
    ·rw [mM] at hn;unfold az at hn
     by_cases ha:cA r.d as=true
     ·unfold cA at ha;rw [h2] at ha;rw [hlen];exact zzy.mp ha
     ·rw [if_neg ha] at hn;exact absurd rfl hn
   ·have Jb:(gM l).contains f=true:=by
     unfold gM at hf⊢;rw [List.filterMap_cons] at hf;split at hf
     ·exact hf
     ·rename_i y hy;split at hy
      ·rename_i hc;cases hy;rw [List.contains_cons,zzt] at hf;rcases hf with z|z
       ·exact absurd ⟨z,Option.isNone_iff_eq_none.mp hc⟩ iM
       ·exact z
      ·cases hy
    exact((ih f Jb).mono (by rw [zzL];omega)).swap λas=>fS (i9 f (ml f Jb)) as
  refine⟨main,λq hq=>?_,λf hf=>?_⟩
  rotate_left
  ·cases l with
   |nil=>exact main f (fc hf).2
   |cons x l'=>
    have e:iR (r::x::l')=iR (x::l'):=by unfold iR;rw [List.getLast?_cons_cons]
    rw [e] at hf;exact(ihQ f hf).swap λas=>fS (i9 f (ml f (fc hf).2)) as
  ·unfold ro at hq;rw [List.filterMap_cons] at hq;have tail:q∈ro l->Ax P w K mg base W (den (tab (r::l))) (2*(r::l).length) q:=λhq=>by
    refine(ihH q hq).swap (by rw [zzL];omega) λas=>fS (i9 q.f ?_) as
    unfold ro at hq;obtain⟨x,hx,e⟩:=zz1.mp hq
    obtain⟨y,_,rfl⟩:=zzJ.mp e
    rw [zzn];exact List.mem_map_of_mem (f:=(·.f)) hx
   cases hc:r.d.lR with
   |none=>rw [hc] at hq;exact tail hq
   |some y=>
    rw [hc] at hq;rcases zzm.mp hq with z|z
    ·subst z;rw [hc] at ok;exact⟨fa,_,r.d.N.take r.d.np,ok,PySem.W.mg_of KB G e1,e4,Fu.binds hs.bind,hlen⟩
    ·exact tail z
end
end Ci
namespace L2
open PySem PySem.Spec PyProof.Rows
def rf{P:Program}{w:World}{K:zz8}{mg mb:Str->Option Value}{CX:rX}{k:Nat}{fa a:Addr}{fd:FuncData}{x:Str}{sp:Sp}{s₁:Shared}{vs:List Value}{ns:List Int}(iq:List Addr)
 (KX:K.In s₁.heap) (Ft:s₁.heap.Ns mainGlobals mg) (hb:s₁.heap.Ns builtinsNs mb) (Ls:∀x:Str,x≠"__name__"->mb x=bootBuiltins x) (Ig:s₁.heap.NoLimit) (hg:s₁.gens=#[])
 (hT:∀p∈iq,s₁.heap.get? p=some (PySem.W.tabObj #[])) (hC:∀p∈iq,∃c,Ci.fi K c p) (Ke:∀p∈iq,K.lookup p=none)
 (ha:s₁.heap.get? a=some {cls:=.type "list",data:=.seq vs.toArray}) (hi:IntsAre vs ns) (hl:ns.length<=sizeLine) (hr:dz k callerA)
 (F:∀base:Heap,K.In base->base.Ns mainGlobals mg->eT P w K mg base CX k fa fd [x] sp) (Cr:∀(s:Shared) (u:Value),BindsTo s fd ⟨[u],[]⟩ [(x,u)])
 (B5:∀H:Hp,(∀p∈iq,H p=some (.ei #[]))->Ci.j8 K H a (ns.map V.int)->sp [.ref a] H (λv _=>v=.bl true) λ_ _ _=>False)
 (GC:∀H e s',CX [] H s₁ (λ_ _ _=>False) e s'->False):
 codeAny (model P w) callerA (.call (.ref fa) ⟨[.ref a],[]⟩) (λr s'=>r=.ok (.ret (.bool true))/\OldK s₁.heap s'.heap/\s'.os=s₁.os/\AllBare s'.gens) s₁:=by
 have rv:=kA hi
 have D4:=hi.length
 have aT:a∉iq:=λz=>by have:=hT a z;rw [ha] at this;cases this
 have core:∀H:Hp,(∀p∈iq,H p=some (.ei #[]))->Ci.j8 K H a (ns.map V.int)->dF P w H s₁.heap->(∀b,H b≠none->b∈iq\/b=a/\∃o xs,H b=some (.bI o xs))->(H a≠none->K.lookup a=none)->
  codeAny (model P w) callerA (.call (.ref fa) ⟨[.ref a],[]⟩) (λr s'=>r=.ok (.ret (.bool true))/\OldK s₁.heap s'.heap/\s'.os=s₁.os/\AllBare s'.gens) s₁:=by
  intro H hO hS aO hA hK;have oU:∀{b:Addr} {o:Obj},s₁.heap.get? b=some o->H b=none->(kS s₁.heap H).get? b=some o:=λe n=>u0 e n
  have wN:∀{b:Addr} {o:Obj} {es:Array DictEntry} {ep:Nat},s₁.heap.get? b=some o->o.data=.dict es ep->H b=none:=λ{b o es ep} e d=>by
   cases q:H b with
   |none=>rfl
   |some u=>
    rcases hA b (by rw [q];simp) with z|⟨z,_⟩
    ·rw [hT b z] at e;cases e;cases d
    ·subst z;rw [ha] at e;cases e;have d':Data.seq vs.toArray _=Data.dict es ep:=d
     cases d'
  have Fx:∀{b:Addr} {m:Str->Option Value},s₁.heap.Ns b m->(kS s₁.heap H).Ns b m:=λ{b m} ⟨o,es,ep,e,d,r⟩=>⟨o,es,ep,oU e (wN e d),d,r⟩
  have Ja:K.In (kS s₁.heap H):=λb o e=>oU (KX b o e) (by
   cases q:H b with
   |none=>rfl
   |some u=>
    rcases hA b (by rw [q];simp) with z|⟨z,_⟩
    ·rw [Ke b z] at e;cases e
    ·subst z;rw [hK (by rw [q];simp)] at e;cases e)
  have hM:Mod K mg (kS s₁.heap H):=⟨Ja,Fx Ft,⟨mb,Fx hb,Ls⟩,let⟨mc,h1,h2⟩:=Ig;⟨mc,Fx h1,h2⟩⟩
  have e0:iw P w K mg (kS s₁.heap H) callerA [] s₁ H:=⟨rfl,hM,λb o e=>wH e,Nat.le_of_eq (qP _ _),trivial,λb hb=>absurd (show b∈([]:List Addr) from hb) (by simp),aO,.of_eq hg⟩
  refine codeAny_mono ((F _ Ja (Fx Ft)).run callerA [] s₁ H ⟨[.ref a],[]⟩ [.ref a] [.ref a] _ _ hr e0 (Cr s₁ (.ref a)) (.cons rfl .nil) (B5 H hO hS)) λr s' h=>?_
  cases r with
  |error e=>exact(GC H e s' h).elim
  |ok fl=>
   cases fl with
   |next=>exact zzk h
   |brk=>exact zzk h
   |cont=>exact zzk h
   |ret u=>
    obtain⟨v,H',os,bare,un,wm,r',q⟩:=h
    have q':v=.bl true:=q
    subst q';obtain rfl:u=Value.bool true:=r'
    have key:∀b o,s₁.heap.get? b=some o->s'.heap.get? b=some o\/b∈iq/\∃m,s'.heap.get? b=some (PySem.W.tabObj m):=λb o e=>by
     cases q:H b with
     |none=>exact .inl (un.keep b o e q (by intro z;exact absurd (show b∈([]:List Addr) from z) (by simp)) (by simp))
     |some u=>
      rcases hA b (by rw [q];simp) with z|⟨z,ob,xs,z2⟩
      ·right
       obtain⟨m,hm⟩:=un.dX b _ (hO b z)
       exact⟨z,_,wm b _ hm⟩
      ·left
       have z3:=un.dA b ob _ z2
       obtain⟨e1,_⟩:=aO b _ z2
       obtain⟨e2,_⟩:=wm b _ z3
       rw [e] at e1;cases e1;exact e2
    refine⟨rfl,⟨λb o e=>?_,λb o e=>?_⟩,os,bare⟩
    ·rcases key b o e with z|⟨z,m,z2⟩
     ·exact .inl z
     ·have e':=hT b z
      rw [e] at e';cases e';obtain⟨c,o',vs',_,_,_,_,_,_,_,k1,k2,k3,k4,_⟩:=hC b z
      have tb:s₁.heap.TableAt c b #[]:=⟨⟨o',vs',KX _ _ k1,k2,k3,k4⟩,e⟩
      exact .inr (.inl ⟨tb.isCodeTable,rfl,#[],m,rfl,by rw [z2];simp⟩)
    ·rcases key b o e with z|⟨_,m,z⟩
     ·exact⟨_,z⟩
     ·exact⟨_,z⟩
 cases hk:K.lookup a with
 |some o=>
  have e:=KX a o hk
  rw [ha] at e;cases e;refine core (λb=>if b∈iq then some (.ei #[]) else none) (λp hp=>if_pos hp) (.inr ⟨vs.toArray,_,hk,by rw [zzC,D4];exact hl,by simpa using rv⟩) (λb u z=>?_) (λb z=>?_) λz=>absurd (if_neg aT) z
  ·by_cases hb:b∈iq
   ·have z':=(if_pos hb).symm.trans z
    cases z';exact hT b hb
   ·have z':=(if_neg hb).symm.trans z
    cases z'
  ·by_cases hb:b∈iq
   ·exact .inl hb
   ·exact absurd (if_neg hb) z
 |none=>
  refine core (λb=>if b=a then some (.bI {cls:=.type "list",data:=.seq vs.toArray} (.lst (ns.map V.int))) else if b∈iq then some (.ei #[]) else none) (λp hp=>?_) (.inl (.inr ⟨{cls:=.type "list",data:=.seq vs.toArray},if_pos rfl⟩)) (λb u z=>?_) (λb z=>?_) λ_=>hk
  ·show(if p=a then _ else _)=_
   rw [if_neg (show¬p=a from λz=>aT (by rw [<-z];exact hp)),if_pos hp]
  ·by_cases hb:b=a
   ·have z':=(if_pos hb).symm.trans z
    cases z';subst hb;exact⟨ha,by rw [zzl];exact hl,vs,_,rv,ha⟩
   ·replace z:=(if_neg hb).symm.trans z
    by_cases hc:b∈iq
    ·have z':=(if_pos hc).symm.trans z
     cases z';exact hT b hc
    ·have z':=(if_neg hc).symm.trans z
     cases z'
  ·by_cases hb:b=a
   ·exact .inr ⟨hb,_,_,if_pos hb⟩
   ·by_cases hc:b∈iq
    ·exact .inl hc
    ·exact absurd ((if_neg hb).trans (if_neg hc)) z
def Bd{l:PySem.W.OpenLaw}{n k:Nat}{q:Program}{loose:List Str}{XP:(Str->Option Value)->Heap->Prop}{YP:World->Heap->Prop}{d:DefRec}{K:Params->zz8}{CX:World->rX}{sp:World->Sp}{x:Str}(iq:List Addr)
 (hn:l.most=some n) (K9:n<=sizeLine) (Dz:d.params.defaults=[]) (hr:dz k callerA)
 (hY:∀(w:World) (h:Heap),YP w h->(K w.params).In h/\∀p∈iq,h.get? p=some (PySem.W.tabObj #[])) (hC:∀(w:World),∀p∈iq,(∃c,Ci.fi (K w.params) c p)/\(K w.params).lookup p=none)
 (F:∀(w:World) (mg:Str->Option Value) (fa:Addr) (h:Heap),(K w.params).In h->h.Ns mainGlobals mg->mg d.name=some (.ref fa)->
  ∃fd:FuncData,(∀(s:Shared) (u:Value),BindsTo s fd ⟨[u],[]⟩ [(x,u)])/\
   ∀base:Heap,(K w.params).In base->base.Ns mainGlobals mg->eT l.prog w (K w.params) mg base (CX w) k fa fd [x] (sp w))
 (B5:∀(w:World) (H:Hp) (a:Addr) (ns:List Int),ns.length<=n->(∀p∈iq,H p=some (.ei #[]))->Ci.j8 (K w.params) H a (ns.map V.int)->sp w [.ref a] H (λv _=>v=.bl true) λ_ _ _=>False)
 (GC:∀(w:World) (H:Hp) (s:Shared) (e:Value) (s':Shared),CX w [] H s (λ_ _ _=>False) e s'->False):
 PySem.W.WalkO q loose XP YP l.row.toRowW d [] (λf vs=>PySem.call f vs):=by
 refine Att.mH hn Dz λw s₀ s₁ mg mb fa o pm cd doc a vs ns G Y ho hd jy hmg hobj hints hlen hg=>?_
 obtain⟨KX,hT⟩:=hY w _ Y
 obtain⟨fd,hb,hF⟩:=F w mg fa _ KX G.T.g hmg
 exact rf iq KX G.T.g G.T.b G.T.builtins G.T.nolimit hg hT (λp hp=>(hC w p hp).1) (λp hp=>(hC w p hp).2) hobj hints (zzU hlen K9) hr hF hb (λH hO hS=>B5 w H a ns hlen hO hS) λH e s'=>GC w H s₁ e s'
end L2
namespace Ci
open PySem L2
theorem iF{W:Wd}{G:Hp}:∀(ns:List Int),ai W G (ns.map PV.int) (ns.map V.int)
 |[]=>.nil
 |n::ns=>.cons .i (iF ns)
noncomputable def kl(H:Hp):Hp:=λb=>match H b with
 |some (.ei _)=>none
 |o=>o
def nH(H:Hp):av (kl H) H:=λb o e=>by
 unfold kl at e;split at e
 ·cases e
 ·exact e
def mV{H:Hp}{b:Addr}{o:HO}(h:H b=some o)(n:∀ps,o≠.ei ps):kl H b=some o:=by
 unfold kl;rw [h];cases o with
 |ei ps=>exact absurd rfl (n ps)
 |_=>rfl
noncomputable def DS(K:zz8)(iq:List Addr):Sp:=λvs H Q _=>∃(a:Addr) (ns:List Int),vs=[.ref a]/\(∀p∈iq,H p=some (.ei #[]))/\j8 K H a (ns.map V.int)/\ns.length<=63/\∀H',Q (.bl true) H'
def walk{l:PySem.W.OpenLaw}{q:Program}{loose:List Str}{XP:(Str->Option Value)->Heap->Prop}{YP:World->Heap->Prop}{d:DefRec}{K:Params->zz8}(rest:eY)(Γ:Pg)(x:Str)(dl:Def)(xs:List Str)(ts:List (Addr×Str))(st:Stmt)(HF:Bool)
 (hx:dl.N.take dl.np=[x]) (yy:dl.lR=none) (Lb:d.name="law") (hn:l.most=some 63) (Dz:d.params.defaults=[]) (hr:dz (2*rest.length+2) callerA) (hY:∀(w:World) (h:Heap),YP w h->(K w.params).In h/\∀p∈ts.map (·.1),h.get? p=some (PySem.W.tabObj #[]))
 (hC:∀(w:World),∀p∈ts.map (·.1),(∃c,fi (K w.params) c p)/\(K w.params).lookup p=none)
 (hM:∀(w:World) (mg:Str->Option Value) (h:Heap),(K w.params).In h->h.Ns mainGlobals mg->nF (K w.params) mg Γ ⟨K w.params,mg,xs,ts⟩)
 (hE:∀w:World,rH (K w.params) ts HF "law" st) (hS:cN (Γ.at rest HF) "law" dl st) (ic:rest≠[])
 (hA:∀w:World,AllK (K w.params) ts Γ rest)
 (HV:∀ns:List Int,ns.length<=63->az (den (tab rest)) dl [.lst (ns.map .int)]=.ok (.bl true)):
 PySem.W.WalkO q loose XP YP l.row.toRowW d [] (λf vs=>PySem.call f vs):=by
 refine L2.Bd (n:=63) (k:=2*rest.length+2) (x:=x) (CX:=λw=>cS l.prog w) (sp:=λw=>DS (K w.params) (ts.map (·.1))) (ts.map (·.1)) hn (by decide) Dz hr hY hC ?_ ?_ ?_
 ·intro w mg fa h KX G hmg;rw [Lb] at hmg;obtain⟨f,oc,od,kV,doc,pm,an,d7,ct,n9,e1,e2,e3,e4,e5⟩:=hE w
  have hf:fa=f:=by
   have z:=hmg.symm.trans (PySem.W.mg_of KX G e1)
   cases z
   rfl
  subst hf;refine⟨PySem.W.fnOf "law" "law" (bZ st) (bR st) (aK st) .none kV doc pm an d7 ct,λs u=>?_,λbase KB GB=>?_⟩
  ·have hb:=hS.bind kV doc pm an d7 ct [u]
   rw [hx] at hb;exact .of_eq (hb rfl)
  ·have M:=hM w mg base KB GB
   have ne2:2<=2*rest.length:=by have:=List.length_pos_iff.mpr ic;omega
   obtain⟨a1,a2,a3⟩:=tV (P:=l.prog) (w:=w) M KB GB rest (hA w)
   have ok:=yI (P:=l.prog) (w:=w) (nf:="law") (o6 M rest HF) KB (k:=2*rest.length) hS (sA (st:=st) e2 e3 e4) (λg hg=>a1 g hg) (λq hq=>a2 q hq) (λf hf=>⟨ne2,a3 f hf⟩) (λ_=>ne2) (kZ rest (hA w)) e5
   rw [hx] at ok;refine ok.imp λvs H Q E h=>?_
   obtain⟨a,ns,rfl,ht,hl,hlen,q⟩:=h
   refine⟨rfl,kl H,[.lst (ns.map .int)],nH H,λP q m=>?_,?_,?_⟩
   ·have hP:=ht P (List.mem_map_of_mem (f:=(·.1)) m)
    refine⟨by unfold kl;rw [hP],#[],hP,trivial,λpos cv e=>nomatch e⟩
   ·rw [yy];refine ai.cons (.l ?_ (iF ns)) .nil;rcases hl with(h|⟨o,h⟩)|h
    ·exact .inl (.inl (mV h (λ_ z=>nomatch z)))
    ·exact .inl (.inr ⟨o,mV h (λ_ z=>nomatch z)⟩)
    ·exact .inr h
   ·dsimp only;rw [HV ns hlen];intro v G' H' _ rv;simp! [Rep] at rv;subst rv;exact q H'
 ·intro w H a ns hlen hO hS';exact⟨a,ns,rfl,hO,hS',hlen,λ_=>rfl⟩
 ·intro w H s e s' h;obtain⟨a,C,t,vs,H',B,rfl,F⟩:=h
  exact F.ends
end Ci
namespace Hd
open PySem PySem.W PySem.Calls
noncomputable def yU(st:SharedT->Thread->Option (SharedT×Thread))(ok:Thread->Bool)(n:Nat):SharedT->Thread->Option SharedT:=
 @Nat.rec (λ_=>SharedT->Thread->Option SharedT) (λ_ _=>none) (λ_ ih s t=>match through t with
  |true=>some s
  |false=>match ok t with
   |false=>none
   |true=>match st s t with
    |some (s',t')=>ih s' t'
    |none=>none) n
theorem ko{tb:String->Option Builtin}{p:Program}{w:World}{n₀:Nat}{ann:Option Value}:∀{n:Nat} {s s':SharedT} {t:Thread},yU (stepT (denote tb) p w) (stepOk n₀ ann) n s t=some s'->topRun tb p w n₀ ann n s.abs t=some s'.abs
 |0,_,_,_,h=>by cases h
 |n+1,s,s',t,h=>by
  have h:(match through t with
   |true=>some s
   |false=>match stepOk n₀ ann t with
    |false=>none
    |true=>match stepT (denote tb) p w s t with
     |some (s',t')=>yU (stepT (denote tb) p w) (stepOk n₀ ann) n s' t'
     |none=>none)=some s':=h
  unfold topRun;cases ht:through t with
  |true=>rw [ht] at h;cases h;rfl
  |false=>
   rw [ht] at h;cases hk:stepOk n₀ ann t with
   |false=>rw [hk] at h;cases h
   |true=>
    rw [hk] at h;cases hs:stepT (denote tb) p w s t with
    |none=>rw [hs] at h;cases h
    |some r=>obtain⟨s₂,t₂⟩:=r;rw [hs] at h;rw [stepT_spec hs];exact ko h
noncomputable def treeOf(l:List Obj):BT:=(l.foldl (λ(T,i) o=>(BT.ins T i o,i+1)) (BT.nil,0)).1
def wc{p q:Program}{loose:List Str}{Xt:Shared->Bool}{α:Type}{Yf:Shared->α}{Ya:World->α}{N:Nat}{g0:Bool}{T₀:Params->BT}{life:Life}{m₀:Nat}{ann:Option Value}{M:Nat}
 (e:opening p=plainProg p.main.scope.names) (hN:Nat.ble 600 N=true) (f:∀s,fenceModules? p s=some s)
 (e0:∀P:Params,absHeap (T₀ P) m₀ life=boot_heap P)
 (size:∀w:World,((boot_heap w.params).isNs mainGlobals,(boot_heap w.params).nsMap mainGlobals "__annotations__")=(true,ann))
 (le:Nat.ble M N=true)
 (run:∀(w:World) (os:OsState),(yU (stepT (denote treeTable) p w) (stepOk m₀ ann) M ⟨T₀ w.params,m₀,life,Array.mk [],boot_drawn,boot_toks,os⟩ (topStub p)).map (λs=>
  ((staticsOk (importedModules p.main.body) (boot_heap w.params) s.abs.heap&&namesBound p s.abs.heap&&gensDone s.abs&&laidKept (boot_heap w.params) s.abs.heap),openSeen q loose (importedModules p.main.body) Xt g0 s.abs,Yf s.abs))
  =some (true,openGood q loose,Ya w)):LeftO p q loose Xt Yf Ya N g0:=λw=>by
 obtain⟨⟨h,gs,d,k,os⟩,e1,e'⟩:=zzJ.mp (boot_open e hN f w)
 obtain⟨rfl,rfl,rfl,rfl⟩:h=boot_heap w.params/\gs=Array.mk []/\d=boot_drawn/\k=boot_toks:=by simpa using e'
 obtain⟨z1,z3⟩:_/\_:=by simpa only [Prod.mk.injEq] using size w
 obtain⟨s,r,l⟩:=zzJ.mp (run w os)
 obtain⟨l1,l2,l3⟩:_/\_/\_:=by simpa only [Prod.mk.injEq] using l
 have r:=ko r
 have r:=topRun_mono (N-M) _ _ _ _ r
 rw [show M+(N-M)=N by have:=Nat.le_of_ble_eq_true le;omega] at r;have hs:(boot_heap w.params).objs.size=m₀:=by rw [<-e0 w.params];exact absHeap_size _ _ _
 have r:topRun treeTable p w m₀ ann N ⟨boot_heap w.params,Array.mk [],boot_drawn,boot_toks,os⟩ (topStub p)=some s.abs:=by
  have:(⟨T₀ w.params,m₀,life,Array.mk [],boot_drawn,boot_toks,os⟩:SharedT).abs=⟨boot_heap w.params,Array.mk [],boot_drawn,boot_toks,os⟩:=by
   show Shared.mk _ _ _ _ _=_
   rw [show absHeap (T₀ w.params) m₀ life=boot_heap w.params from e0 w.params]
  rw [<-this];exact r
 have t:topFrom treeTable p w N ⟨boot_heap w.params,Array.mk [],boot_drawn,boot_toks,os⟩=some s.abs:=by
  unfold topFrom;dsimp only;rw [z1,z3,hs,r];show(match staticsOk (importedModules p.main.body) (boot_heap w.params) s.abs.heap&&namesBound p s.abs.heap&&gensDone s.abs&&laidKept (boot_heap w.params) s.abs.heap with|true=>_|false=>_)=_
  rw [l1]
 unfold openEnds;rw [e1];show(topFrom treeTable p w N _).map _=_
 rw [t];exact congrArg some (Prod.ext l2 l3)
end Hd
namespace Hd
open PySem PySem.W
def CB:∀P:Params,absHeap (treeOf (boot_heap P).objs.toList) 11 {}=boot_heap P:=λP=>by kernel_rfl
def Eh:∀w:World,((boot_heap w.params).isNs mainGlobals,(boot_heap w.params).nsMap mainGlobals "__annotations__")=(true,some (.ref 6)):=λw=>by kernel_rfl
noncomputable abbrev de(P:Params)(x:Str)(t:Tok)(v:Value):DictEntry:={hash:=PyData.keyHash P x,key:=.str x t,val:=v}
theorem holds{l:OpenLaw}{keep:List Nat}{K:Params->Frag}{as:List Addr}{d:DefRec}{N:Nat}(Hm:l.wellSaid=true)
 (ka:∀P,as=(K P).map (·.1))
 (left:LeftO l.row.prog (view l.row.prog keep) [] (λs=>xlAt (view l.row.prog keep) [] s&&recOk l.row.toRowW.records s) (kHook K as ka).obs (kHook K as ka).val N)
 (BD:defOf (view l.row.prog keep) l.row.name=some (d,[])) (hp:l.row.prog.theDef l.row.name=some (d.params,d.body,d.scope)) (hk:kwWritten? d.params.kwonlyargs d.params.kw_defaults=some [])
 (ok:(chainsOk (view l.row.prog keep)&&opensWell l.row.prog&&(frees l.row.toRowW&&l.row.within.isEmpty))=true) (hb:l.row.prog.bare) (hw:l.row.toRowW.promised)
 (call:WalkO (view l.row.prog keep) [] (XL (view l.row.prog keep) []) (kHook K as ka).says l.row.toRowW d [] λf vs=>PySem.call f vs):l.Holds:=
 holds_law Hm λk1=>holds_open (N:=N) left (Hook.of (kHook K as ka)) (Hook.keeps (kHook K as ka)) (λs e=>xl_of s (Bool.and_eq_true_iff.mp e).1) XL.keeps BD hp hk (λs e=>recFacts_of (Bool.and_eq_true_iff.mp e).2) (by cases h:l.row.writes<;>rfl) k1 ok hb hw call
theorem vz{P:List Value->Prop}(h:∀a0,P [a0]):∀us:List Value,us.length=1->P us
 |[a0],_=>h a0
theorem yH{P:List Value->Prop}(h:∀a0 a1,P [a0,a1]):∀us:List Value,us.length=2->P us
 |[a0,a1],_=>h a0 a1
theorem JS{P:List Value->Prop}(h:∀a0 a1 a2,P [a0,a1,a2]):∀us:List Value,us.length=3->P us
 |[a0,a1,a2],_=>h a0 a1 a2
end Hd
namespace KJ
open PySem L2 Ci
theorem lV{α β:Type}{a:α}{f:α->Res β}:(Res.ok a).bind f=f a:=rfl
theorem Ji{α:Type}{a:α}:(Res.ok a).well=.ok a:=rfl
theorem Js{α:Type}{a:α}:Res.of (some a)=.ok a:=rfl
theorem ET{env:Sl}{k:Sl->Res Fl}:(Fl.nx env).seq k=k env:=rfl
theorem Iz{p:PV}{k:Sl->Res Fl}:(Fl.rt p).seq k=.ok (.rt p):=rfl
theorem IV{env:Sl}{k:Sl->Res Fl}:(Fl.bk env).seq k=.ok (.bk env):=rfl
theorem sv{p:PV}:sO (some (.val p))=.ok p:=rfl
theorem Jv{p:PV}:tQ (some (.val p))=.ok p:=rfl
theorem IU{p:PV}:tQ (some (.own p))=.ok p:=rfl
theorem FA{α:Type}{b:Bool}{f:Bool->Res α}:pf (.bl b) f=f b:=rfl
theorem yj{i j:Int}:binOp .add (.int i) (.int j)=.ok (.int (i+j)):=rfl
theorem yt{i j:Str}:binOp .add (.str i) (.str j)=if i.length+j.length<=eH then .ok (.str (i++j)) else .bad:=rfl
theorem yD{i j:List PV}:binOp .add (.lst i) (.lst j)=if i.length+j.length<=eH then .ok (.lst (i++j)) else .bad:=rfl
theorem DG{i j:Int}:binOp .sub (.int i) (.int j)=.ok (.int (i-j)):=rfl
theorem Ek{i j:Int}:binOp .mul (.int i) (.int j)=if aW i||aW j then .ok (.int (i*j)) else .bad:=rfl
theorem Di{i j:Int}:binOp .mod (.int i) (.int j)=if 0<j then .ok (.int (i%j)) else .bad:=rfl
theorem Dr{i j:Int}:binOp .fdiv (.int i) (.int j)=if 0<j/\j<1073741824 then .ok (.int (i/j)) else .bad:=rfl
theorem Jd:c8 .eq=fL:=rfl
theorem Jo:c8 .ne=gC:=rfl
theorem IA:c8 .lt=mE:=rfl
theorem JP:c8 .le=m7:=rfl
theorem D5:c8 .D3=j1:=rfl
theorem oLt{i j:Int}:mE (.int i) (.int j)=.ok (.bl (decide (i<j))):=rfl
theorem oLe{i j:Int}:m7 (.int i) (.int j)=.ok (.bl (decide (i<=j))):=rfl
theorem lL{xs:List PV}:gJ .len [.lst xs]=.ok (.int xs.length):=rfl
theorem lT{xs:List PV}:gJ .len [.tup xs]=.ok (.int xs.length):=rfl
theorem lS{z:Str}:gJ .len [.str z]=if z.length<=eH then .ok (.int z.length) else .bad:=rfl
theorem tL{xs:List PV}:gJ .tuple [.lst xs]=.ok (.tup xs):=rfl
theorem JF{i:Nat}{p:PV}{env:Sl}:(Tg.one i).put p env=.ok (env.set i (.val p)):=rfl
theorem Jr{i j:Nat}{a b:PV}{env:Sl}:(Tg.two i j).put (.tup [a,b]) env=.ok ((env.set i (.val a)).set j (.val b)):=rfl
theorem Jk{p:PV}:ly (.own p)=.val p:=rfl
theorem jA{α:Type}{a:α}{as:List α}:(a::as).length=as.length+1:=rfl
theorem jB{α:Type}:([]:List α).length=0:=rfl
theorem jC{α β:Type}{f:α->β}{a:α}{l:List α}:(a::l).map f=f a::l.map f:=rfl
theorem jD{α β:Type}{f:α->β}:([]:List α).map f=[]:=rfl
theorem jE{α:Type}{a:α}{as bs:List α}:a::as++bs=a::(as++bs):=rfl
theorem jF{α:Type}{as:List α}:[]++as=as:=rfl
theorem jG{α:Type}{a:α}{l:List α}:(a::l)[0]?=some a:=rfl
theorem jH{α:Type}{a:α}{l:List α}{i:Nat}:(a::l)[i+1]?=l[i]?:=rfl
theorem jI{α:Type}{a b:α}{l:List α}:(a::l).set 0 b=b::l:=rfl
theorem jJ{α:Type}{a b:α}{l:List α}{i:Nat}:(a::l).set (i+1) b=a::l.set i b:=rfl
theorem jK{α:Type}{a d:α}{l:List α}:(a::l).getD 0 d=a:=rfl
theorem jL{α:Type}{a d:α}{l:List α}{i:Nat}:(a::l).getD (i+1) d=l.getD i d:=rfl
def jM{n:Nat}:0+n=n:=Nat.zero_add _
theorem jN:(!true)=false:=rfl
theorem jO:(!false)=true:=rfl
def jP:(false=true)=False:=zze
theorem nh{e:E}{xs:List PV}:sL e (.lst xs)=.ok xs:=rfl
theorem IP{e:E}{xs:List PV}:sL e (.tup xs)=.ok xs:=rfl
theorem Ii{xs:List PV}:itemsOf (.tup xs)=.ok xs:=rfl
theorem H9{xs:List PV}:itemsOf (.lst xs)=.ok xs:=rfl
theorem GX{z:Str}:itemsOf (.str z)=.ok (chars z):=rfl
theorem yw{i j:List PV}:binOp .add (.tup i) (.tup j)=if i.length+j.length<=eH then .ok (.tup (i++j)) else .bad:=rfl
theorem jQ{α:Type}{f:α->α}{a:α}{l:List α}:(a::l).modify 0 f=f a::l:=rfl
def jR{α:Type}{f:α->α}{a:α}{l:List α}{i:Nat}:(a::l).modify (i+1) f=a::l.modify i f:=by simp
theorem jS{α:Type}{a:α}:List.replicate 0 a=[]:=id rfl
theorem jT{α:Type}{a:α}{n:Nat}:List.replicate (n+1) a=a::List.replicate n a:=id rfl
def jU{n:Nat}:(n==n)=true:=beq_self_eq_true n
noncomputable def J:=And.intro @jS (And.intro @jT (And.intro @jU (And.intro @lV (And.intro @Ji (And.intro @Js (And.intro @ET (And.intro @Iz (And.intro @IV (And.intro @sv (And.intro @Jv (And.intro @IU (And.intro @FA (And.intro @yj (And.intro @yt (And.intro @yD (And.intro @DG (And.intro @Ek (And.intro @Di (And.intro @Dr (And.intro @Jd (And.intro @Jo (And.intro @IA (And.intro @JP (And.intro @D5 (And.intro @oLt (And.intro @oLe (And.intro @lL (And.intro @lT (And.intro @lS (And.intro @tL (And.intro @JF (And.intro @Jr (And.intro @Jk (And.intro @jA (And.intro @jB (And.intro @jC (And.intro @jD (And.intro @jE (And.intro @jF (And.intro @jG (And.intro @jH (And.intro @jI (And.intro @jJ (And.intro @jK (And.intro @jL (And.intro @jM (And.intro @jN (And.intro @jO (And.intro @jP (And.intro @nh (And.intro @IP (And.intro @Ii (And.intro @H9 (And.intro @GX (And.intro @yw (And.intro @jQ (@jR)))))))))))))))))))))))))))))))))))))))))))))))))))))))))
def Av{n:Str}{d:Def}{r:List (Str×Def)}:den ((n,d)::r) n=az (den r) d:=by
 funext as;simp [den]
def Ba{n f:Str}{d:Def}{r:List (Str×Def)}(h:(f==n)=false):den ((n,d)::r) f=den r f:=by
 funext as;simp [den,h]
theorem mw{f:Str}:∀(n:Nat) {T:List (Str×Def)},((T.take n).all λx=>!(f==x.1))=true->den T f=den (T.drop n) f
 |0,_,_=>rfl
 |n+1,[],_=>rfl
 |n+1,(m,d)::r,h=>by
  rw [List.take_succ_cons,List.all_cons,zza,Bool.not_eq_true'] at h;exact(Ba h.1).trans (mw n h.2)
def dk{f:Str}{d:Def}{r T:List (Str×Def)}(k:Nat)(h:((T.take k).all λx=>!(f==x.1))=true:=by decide+kernel)(e:T.drop k=(f,d)::r:=by rfl):den T f=az (den r) d:=by
 rw [mw k h,e];exact Av
end KJ
local macro_rules | `(#v[]) => `(.nil) | `(#v[$x]) => `(.cons $x .nil) | `(#v[$x, $xs,*]) => `(.cons $x #v[$xs,*]) | `(!$n:num) => `(.var $n) | `(¬$n:num) => `(.cst (.int $n))
namespace K06
open PySem L2 Ci KJ
noncomputable def aM:Def:=⟨["_law_kept","_law_kinds","_law_some"],1,#v[.set 1 (.lst #v[.pS "NoBack" (!0),.pS "NoFit" (!0),.pS "NoFloor" (!0),.pS "NoName" (!0)]),.set 1 (.bin .add (!1) (.lst #v[.pS "NoSign" (!0),.pS "NoSize" (!0),.pS "NoSpot" (!0)])),.set 1 (.bin .add (!1) (.lst #v[.pS "NoText" (!0),.pS "NoWay" (!0)])),.ite (.or (.cmp .ne (.BO .fv (!1) #v[.cst (.bl true)]) (¬1)) (.not (.pS "ValueError" (!0)))) #v[.ret (.cst (.str "wrong"))] .nil,.set 2 (.lst #v[.cst (.str "no back"),.cst (.str "no fit"),.cst (.str "no floor"),.cst (.str "no name"),.cst (.str "no sign"),.cst (.str "no size"),.cst (.str "no spot"),.cst (.str "no text"),.cst (.str "no way")]),.ret (.sub (!2) (.BO .index (!1) #v[.cst (.bl true)]))],none⟩
noncomputable def aF:Def:=⟨["one","other"],2,#v[.ite (.cmp .ne (.blt .len #v[.sub (!0) (¬0)]) (.blt .len #v[.sub (!1) (¬0)])) #v[.raise "NoFit" "the floors have not as many columns"] .nil,.ite (.cmp .gt (.bin .add (.blt .len #v[!0]) (.blt .len #v[!1])) (.glob "LONGEST" (.int 12))) #v[.raise "NoFit" "there were more than 12 rows"] .nil,.ret (.bin .add (!0) (!1))],none⟩
noncomputable def aV:Def:=⟨["_law_deed","e"],1,#v[.f9 #v[.ret (.dP 0 .nil)] "FloorError" 1 "_law_class"],some ("set_below",[0,1,0])⟩
noncomputable def aH:Def:=⟨["one","other"],2,#v[.ite (.cmp .ne (.blt .len #v[!0]) (.blt .len #v[!1])) #v[.raise "NoFit" "the floors have not as many rows"] .nil,.ite (.cmp .gt (.bin .add (.blt .len #v[.sub (!0) (¬0)]) (.blt .len #v[.sub (!1) (¬0)])) (.glob "LONGEST" (.int 12))) #v[.raise "NoFit" "there were more than 12 columns"] .nil,.ret (.blt .tuple #v[.comp 2 [] (.two 0 1) (.zip #v[!0,!1]) (.bin .add (!0) (!1))])],none⟩
noncomputable def aP:Def:=⟨["_law_deed","e"],1,#v[.f9 #v[.ret (.dP 0 .nil)] "FloorError" 1 "_law_class"],some ("set_beside",[0,0,1])⟩
noncomputable def aE:Def:=⟨["_law_deed","e"],1,#v[.f9 #v[.ret (.dP 0 .nil)] "FloorError" 1 "_law_class"],some ("set_below",[0,17010,16011])⟩
noncomputable def aB:Def:=⟨["_law_deed","e"],1,#v[.f9 #v[.ret (.dP 0 .nil)] "FloorError" 1 "_law_class"],some ("set_beside",[0,11070,11061])⟩
noncomputable def di:Def:=⟨["thing"],1,#v[.ret (.and (.ty .int (!0)) (.not (.ty .bool (!0))))],none⟩
noncomputable def c6:Def:=⟨["thing"],1,#v[.ret (.and (.ty .tuple (!0)) (.and (.cmp .eq (.blt .len #v[!0]) (¬2)) (.and (.call "is_whole" #v[.sub (!0) (¬0)]) (.call "is_whole" #v[.sub (!0) (¬1)]))))],none⟩
noncomputable def bK:Def:=⟨["floor","spot"],2,#v[.ret (.and (.ch .le .lt (¬0) (.sub (!1) (¬0)) (.blt .len #v[!0])) (.ch .le .lt (¬0) (.sub (!1) (¬1)) (.blt .len #v[.sub (!0) (.sub (!1) (¬0))])))],none⟩
noncomputable def c5:Def:=⟨["floor","thing"],2,#v[.ret (.and (.call "is_spot" #v[!1]) (.and (.call "is_on_floor" #v[!0,!1]) (.cmp .ne (.sub (.sub (!0) (.sub (!1) (¬0))) (.sub (!1) (¬1))) (.glob "WALL" (.str "#")))))],none⟩
noncomputable def bF:Def:=⟨["floor","spot"],2,#v[.ite (.not (.call "is_open" #v[!0,!1])) #v[.raise "NoSpot" "the spot is not on the floor or a wall"] .nil],none⟩
noncomputable def bJ:Def:=⟨["floor","spot"],2,#v[.expr (.call "need_open" #v[!0,!1]),.ret (.tup #v[.sub (!1) (¬1),.bin .sub (.bin .sub (.blt .len #v[!0]) (¬1)) (.sub (!1) (¬0))])],none⟩
noncomputable def aN:Def:=⟨["_law_deed","e"],1,#v[.f9 #v[.ret (.dP 0 .nil)] "FloorError" 1 "_law_class"],some ("spot_turned",[0,1,0])⟩
noncomputable def bt:Def:=⟨["floor","spot"],2,#v[.expr (.call "need_open" #v[!0,!1]),.ret (.tup #v[.sub (!1) (¬0),.bin .sub (.bin .sub (.blt .len #v[.sub (!0) (¬0)]) (¬1)) (.sub (!1) (¬1))])],none⟩
noncomputable def aG:Def:=⟨["_law_deed","e"],1,#v[.f9 #v[.ret (.dP 0 .nil)] "FloorError" 1 "_law_class"],some ("spot_mirrored",[0,1,0])⟩
noncomputable def bV:Def:=⟨["_law_script","_law_k"],2,#v[.ite (.cmp .lt (!1) (.blt .len #v[!0])) #v[.ret (.sub (!0) (!1))] .nil,.ite (.cmp .eq (!0) (.lst .nil)) #v[.ret (¬0)] .nil,.ret (.bin .add (.bin .mul (.sub (!0) (.bin .mod (!1) (.blt .len #v[!0]))) (¬31)) (!1))],none⟩
noncomputable def bE:Def:=⟨["_law_script","_law_k","_law_many","_law_drawn"],3,#v[.set 3 (.bin .mod (.bin .mul (.bin .add (.call "_law_cell" #v[!0,!1]) (.bin .mul (¬6151) (.bin .add (!1) (¬1)))) (¬40692)) (¬2147483399)),.ret (.bin .mod (.bin .mod (.bin .add (.bin .mul (!3) (!3)) (.bin .fdiv (!3) (¬31))) (¬2147483629)) (!2))],none⟩
noncomputable def bG:Def:=⟨["_law_script","_law_at","_law_most","_law_rows","_law_columns","_law_shuts","_law_top","_law_made","_law_row","_law_signs","_law_column","_law_drawn"],3,#v[.set 3 (.bin .add (¬1) (.call "_law_pick" #v[!0,!1,!2])),.set 4 (.bin .add (¬1) (.call "_law_pick" #v[!0,.bin .add (!1) (¬1),!2])),.set 5 (.sub (.lst #v[¬0,¬2,¬4,¬6]) (.call "_law_pick" #v[!0,.bin .add (!1) (¬2),¬4])),.set 6 (.sub (.lst #v[¬1,¬2,¬3,¬10]) (.call "_law_pick" #v[!0,.bin .add (!1) (¬3),¬4])),.own 7 (.lst .nil),.gb (.one 8) (.nj (!3)) #v[.set 9 (.cst (.str "")),.gb (.one 10) (.nj (!4)) #v[.set 11 (.call "_law_pick" #v[!0,.bin .add (.bin .add (.bin .add (!1) (¬4)) (.bin .mul (!2) (!8))) (!10),.bin .mul (¬12) (!6)]),.set 9 (.bin .add (!9) (.ite (.cmp .lt (.bin .mod (!11) (¬12)) (!5)) (.cst (.str "#")) (.blt .str #v[.bin .fdiv (!11) (¬12)])))],.app 7 (!9)],.ret (.blt .tuple #v[.oY 7])],none⟩
noncomputable def j6:Def:=⟨["_law_script","_law_floor_here","_law_rows","_law_columns","_law_bad","_law_row","_law_signs","_law_k","_law_spot","_law_wide","_law_deep","_law_told_here"],1,#v[.set 1 (.call "_law_floor" #v[!0,¬0,¬6]),.par 2 3 #v[.blt .len #v[!1],.blt .len #v[.sub (!1) (¬0)]],.own 4 (.lst #v[.tup #v[!2,¬0],.tup #v[¬0,!3],.tup #v[.neg (¬1),¬0],.tup #v[¬0,.neg (¬1)],.tup #v[¬99,¬99]]),.gb (.two 5 6) (.enum (!1)) #v[.ji 4 (.dc 2 [5] (.two 0 1) (.enum (!6)) (.cmp .eq (!1) (.cst (.str "#"))) (.tup #v[!2,!0]))],.gb (.one 7) (.nj (¬4)) #v[.set 8 (.sub (.oY 4) (.call "_law_pick" #v[!0,.bin .add (¬200) (!7),.blt .len #v[.oY 4]])),.ite (.cmp .ne (.cT "_law_told@spot_turned" .nil "spot_turned" [0,1,0] [8,1]) (.cst (.str "no spot"))) #v[.ret (.cst (.bl false))] .nil,.ite (.cmp .ne (.cT "_law_told@spot_mirrored" .nil "spot_mirrored" [0,1,0] [8,1]) (.cst (.str "no spot"))) #v[.ret (.cst (.bl false))] .nil],.vE (.two 9 10) (.tup #v[.bin .mul (.tup #v[.bin .add (.sub (!1) (¬0)) (.cst (.str "0"))]) (!2),.bin .add (!1) (.slice (!1) .no (.some (¬1)))]),.own 11 (.lst #v[.cT "_law_told@set_below" .nil "set_below" [0,1,0] [9,1]]),.app 11 (.cT "_law_told@set_beside" .nil "set_beside" [0,0,1] [1,10]),.app 11 (.cT "_law_told@set_below@c" .nil "set_below" [0,17010,16011] []),.app 11 (.cT "_law_told@set_beside@c" .nil "set_beside" [0,11070,11061] []),.ite (.cmp .ne (.oY 11) (.bin .mul (.lst #v[.cst (.str "no fit")]) (¬4))) #v[.ret (.cst (.bl false))] .nil,.ite (.cmp .ne (.call "set_below" #v[.bin .mul (.tup #v[.cst (.str "0")]) (¬6),.bin .mul (.tup #v[.cst (.str "1")]) (¬6)]) (.bin .add (.bin .mul (.tup #v[.cst (.str "0")]) (¬6)) (.bin .mul (.tup #v[.cst (.str "1")]) (¬6)))) #v[.ret (.cst (.bl false))] .nil,.ret (.and (.cmp .eq (.call "set_beside" #v[.tup #v[.cst (.str "000000")],.tup #v[.cst (.str "111111")]]) (.tup #v[.cst (.str "000000111111")])) (.cmp .eq (.call "set_below" #v[!1,!1]) (.bin .add (!1) (!1))))],none⟩
def T0:List (Str×Def):=[]
noncomputable def T1:List (Str×Def):=(("_law_class":Str),aM)::T0
noncomputable def T2:List (Str×Def):=(("set_below":Str),aF)::T1
noncomputable def T3:List (Str×Def):=(("_law_told@set_below":Str),aV)::T2
noncomputable def T4:List (Str×Def):=(("set_beside":Str),aH)::T3
noncomputable def T5:List (Str×Def):=(("_law_told@set_beside":Str),aP)::T4
noncomputable def T6:List (Str×Def):=(("_law_told@set_below@c":Str),aE)::T5
noncomputable def T7:List (Str×Def):=(("_law_told@set_beside@c":Str),aB)::T6
noncomputable def T8:List (Str×Def):=(("is_whole":Str),di)::T7
noncomputable def T9:List (Str×Def):=(("is_spot":Str),c6)::T8
noncomputable def E8:List (Str×Def):=(("is_on_floor":Str),bK)::T9
noncomputable def Cg:List (Str×Def):=(("is_open":Str),c5)::E8
noncomputable def FR:List (Str×Def):=(("need_open":Str),bF)::Cg
noncomputable def CK:List (Str×Def):=(("spot_turned":Str),bJ)::FR
noncomputable def Iu:List (Str×Def):=(("_law_told@spot_turned":Str),aN)::CK
noncomputable def CT:List (Str×Def):=(("spot_mirrored":Str),bt)::Iu
noncomputable def Kc:List (Str×Def):=(("_law_told@spot_mirrored":Str),aG)::CT
noncomputable def Cn:List (Str×Def):=(("_law_cell":Str),bV)::Kc
noncomputable def FT:List (Str×Def):=(("_law_pick":Str),bE)::Cn
noncomputable def r6:List (Str×Def):=(("_law_floor":Str),bG)::FT
def Cy:den T2 "_law_class"=az (den T0) aM:=dk 1
def Df:den T2 "set_below"=az (den T1) aF:=dk 0
def Ej:den T4 "_law_class"=az (den T0) aM:=dk 3
def DW:den T4 "set_beside"=az (den T3) aH:=dk 0
def Er:den T5 "_law_class"=az (den T0) aM:=dk 4
def CA:den T5 "set_below"=az (den T1) aF:=dk 3
def CV:den T6 "_law_class"=az (den T0) aM:=dk 5
def Ez:den T6 "set_beside"=az (den T3) aH:=dk 2
def C8:den T8 "is_whole"=az (den T7) di:=dk 0
def yO:den E8 "is_spot"=az (den T8) c6:=dk 1
def xS:den E8 "is_on_floor"=az (den T9) bK:=dk 0
def wu:den Cg "is_open"=az (den E8) c5:=dk 0
def wd:den FR "need_open"=az (den Cg) bF:=dk 0
def BM:den CK "_law_class"=az (den T0) aM:=dk 12
def wx:den CK "spot_turned"=az (den FR) bJ:=dk 0
def yb:den Iu "need_open"=az (den Cg) bF:=dk 2
def BA:den CT "_law_class"=az (den T0) aM:=dk 14
def vY:den CT "spot_mirrored"=az (den Iu) bt:=dk 0
def xX:den Cn "_law_cell"=az (den Kc) bV:=dk 0
def xk:den FT "_law_pick"=az (den Cn) bE:=dk 0
def wt:den r6 "_law_floor"=az (den FT) bG:=dk 0
def xV:den r6 "_law_pick"=az (den Cn) bE:=dk 1
def w5:den r6 "_law_told@spot_turned"=az (den CK) aN:=dk 5
def v5:den r6 "_law_told@spot_mirrored"=az (den CT) aG:=dk 3
def Bx:den r6 "_law_told@set_below"=az (den T2) aV:=dk 16
def AK:den r6 "_law_told@set_beside"=az (den T4) aP:=dk 14
def A1:den r6 "_law_told@set_below@c"=az (den T5) aE:=dk 13
def Bg:den r6 "_law_told@set_beside@c"=az (den T6) aB:=dk 12
def zD:den r6 "set_below"=az (den T1) aF:=dk 17
def A7:den r6 "set_beside"=az (den T3) aH:=dk 15
noncomputable abbrev sp(r c:Int):PV:=.tup [.int r,.int c]
noncomputable abbrev fk(ns:List Int):PV:=.lst (ns.map .int)
theorem JH:c8 .gt=nT:=rfl
theorem J6{i j:Int}:nT (.int i) (.int j)=.ok (.bl (decide (j<i))):=rfl
theorem Ju{r c:Int}:bf (sp r c) (.int 0)=.ok (.int r):=rfl
theorem Jl{r c:Int}:bf (sp r c) (.int 1)=.ok (.int c):=rfl
theorem nI{i j:Int}:gC (.int i) (.int j)=.ok (.bl (!(i==j))):=rfl
theorem eI{i j:Int}:fL (.int i) (.int j)=.ok (.bl (i==j)):=rfl
theorem nS{r c r' c':Int}:gC (sp r c) (sp r' c')=.ok (.bl (!((r==r')&&((c==c')&&true)))):=rfl
theorem eS{r c r' c':Int}:fL (sp r c) (sp r' c')=.ok (.bl ((r==r')&&((c==c')&&true))):=rfl
theorem CI{α β:Type}{c:Str}{f:α->Res β}:(Res.exc c:Res α).bind f=.exc c:=rfl
noncomputable def J2:=And.intro @Ju (And.intro @Jl (And.intro @JH (And.intro @J6 (And.intro @nI (And.intro @eI (And.intro @nS (And.intro @eS (And.intro @CI (And.intro @H9 (And.intro @Ii (@GX)))))))))))
set_option hygiene false
local macro_rules | `(tactic| simp! only [$x,*] $[$l:location]?) => `(tactic| simp only [az, cw, cA, aS, eQ, ax, bj, qS, lW, eh, i6, f6, List.replicate, Nat.reduceAdd, Nat.reduceSub, reduceIte, ite_true, ite_false, BEq.rfl, beq_self_eq_true, lV, Ji, Js, ET, Iz, IV, sv, Jv, IU, FA, yj, yt, yD, DG, Ek, Di, Dr, Jd, Jo, IA, JP, D5, oLt, oLe, lL, lT, lS, tL, JF, Jr, Jk, jA, jB, jC, jD, jE, jF, jG, jH, jI, jJ, jK, jL, jM, jN, jO, jP, KJ.nh, IP, Ii, H9, GX, yw, jQ, jR, Ju, Jl, JH, J6, nI, eI, nS, eS, CI, $x,*] $[$l]?)
local macro_rules | `(tactic| dsimp! only [$x,*] $[$l:location]?) => `(tactic| simp only [az, cw, cA, aS, eQ, ax, bj, qS, lW, eh, i6, f6, List.replicate, Nat.reduceAdd, Nat.reduceSub, reduceIte, ite_true, ite_false, BEq.rfl, beq_self_eq_true, J, J2, $x,*] $[$l]?)
set_option hygiene true
theorem lE(F:bz)(i:Int):az F di [.int i]=.ok (.bl true):=by rfl
def iG{α:Type}{xs:List α}{k:Nat}(h:k<xs.length):nE xs (k:Int)=some xs[k]:=by
 unfold nE B7;have:((k:Nat):Int)<(xs.length:Int):=by omega
 simp [this,h]
def pU{ns:List Int}{k:Int}(h0:0<=k)(h:k<ns.length):∃m,nE (ns.map PV.int) k=some (.int m):=by
 obtain⟨j,rfl⟩:=zzw h0
 refine⟨ns[j]'(by omega),?_⟩;rw [iG (k:=j) (by simp;omega)];simp
def vc(ns:List Int)(n:Nat):Ci.plain (n+1) (.lst (ns.map .int))=true:=by
 simp! [Ci.plain,zzT,zzx]
 rintro x ⟨i,_,rfl⟩
 cases n<;>rfl
def eq_nil(ns:List Int):fL (fk ns) (.lst [])=.ok (.bl (decide (ns=[]))):=by
 have e:l4 (fk ns)=true:=vc ns 8
 unfold fL;rw [e];cases ns<;>rfl
def xB(F:bz)(ns:List Int)(k:Int)(hk:0<=k):∃m,az F bV [fk ns,.int k]=.ok (.int m):=by
 simp! only [bV,zzl,eq_nil]
 by_cases h:k<(ns.length:Int)
 ·obtain⟨m,e⟩:=pU hk h
  refine⟨m,?_⟩;simp! only [h,decide_true,bf,e]
 ·simp! only [h,decide_false,eq_nil];cases ns with
  |nil=>exact⟨0,rfl⟩
  |cons n ns=>
   have hl:(0:Int)<((n::ns).length:Int):=by simp! [zzL];omega
   obtain⟨m,e⟩:=pU (ns:=n::ns) (k:=k%((n::ns).length:Int)) (Int.emod_nonneg _ (by omega)) (Int.emod_lt_of_pos _ hl)
   refine⟨m*31+k,?_⟩;have e3:(aW m||aW 31)=true:=by rw [zzt];exact .inr (by decide)
   have e4:bf (fk (n::ns)) (.int (k%((n::ns).length:Int)))=.ok (.int m):=by simp! [bf,e];rfl
   have e5:decide ((n::ns)=[])=false:=rfl
   simp! [zzL] at hl e4;simp! only [e5,zzl,hl,e4,e3]
def xj(F:bz)(hc:∀ns k,0<=k->∃m,F "_law_cell" [fk ns,.int k]=.ok (.int m))(ns:List Int)(k q:Int)(hk:0<=k)(hq:0<q):∃m,az F bE [fk ns,.int k,.int q]=.ok (.int m)/\0<=m/\m<q:=by
 obtain⟨m,e⟩:=hc ns k hk
 have s1:(aW 6151||aW (k+1))=true:=by rw [zzt];exact .inl (by decide)
 have s2:(aW (m+6151*(k+1))||aW 40692)=true:=by rw [zzt];exact .inr (by decide)
 have s3:(0:Int)<2147483399:=by decide
 have s4:(0:Int)<2147483629:=by decide
 have s5:(0:Int)<31/\(31:Int)<1073741824:=by decide
 have a0:=Int.emod_nonneg ((m+6151*(k+1))*40692) (b:=2147483399) (by decide)
 have a1:=Int.emod_lt_of_pos ((m+6151*(k+1))*40692) s3
 refine⟨((((m+6151*(k+1))*40692%2147483399)*((m+6151*(k+1))*40692%2147483399)+((m+6151*(k+1))*40692%2147483399)/31)%2147483629)%q,?_,Int.emod_nonneg _ (by omega),Int.emod_lt_of_pos _ hq⟩;generalize hd:(m+6151*(k+1))*40692%2147483399=d at a0 a1
 have s6:(aW d||aW d)=true:=by
  have:aW d=true:=by simp! [aW,zza,zzN];omega
  rw [this];rfl
 simp! only [bE,fk] at e⊢;simp! only [e,s1,s2,s3,s4,s5,hd,s6,hq,and_self]
def sj(ae:List Str):Prop:=ae.length<=6/\∀z∈ae,z.length<=6
noncomputable abbrev fl(ae:List Str):PV:=.tup (ae.map .str)
noncomputable def cd(ae:List Str)(r c:Nat):Option Nat:=(ae[r]?).bind λz=>z.cps.toList[c]?
noncomputable def Fn(ae:List Str)(r c:Nat):Bool:=match cd ae r c with|some x=>x !=35|none=>false
noncomputable def nL(ae:List Str)(r c:Int):Bool:=decide (0<=r)&&decide (0<=c)&&Fn ae r.toNat c.toNat
def nK(F:bz)(h:∀i,F "is_whole" [.int i]=.ok (.bl true))(r c:Int):az F c6 [sp r c]=.ok (.bl true):=by
 have e0:bf (sp r c) (.int 0)=.ok (.int r):=rfl
 have e1:bf (sp r c) (.int 1)=.ok (.int c):=rfl
 have e2:fL (.int ((2:Nat):Int)) (.int 2)=.ok (.bl true):=rfl
 simp! only [c6,oB,h,e0,e1,e2]
def Ef(F:bz)(ae:List Str)(R:sj ae)(r c:Int):az F bK [fl ae,sp r c]=.ok (.bl (decide (0<=r)&&decide (0<=c)&&(cd ae r.toNat c.toNat).isSome)):=by
 have e0:bf (sp r c) (.int 0)=.ok (.int r):=rfl
 have e1:bf (sp r c) (.int 1)=.ok (.int c):=rfl
 simp! only [bK,oB,e0,e1,m7,mE,zzl]
 by_cases h0:0<=r
 ·by_cases h1:r<(ae.length:Int)
  ·obtain⟨j,rfl⟩:=zzw h0
   have hj:j<ae.length:=by omega
   have e2:bf (fl ae) (.int (j:Int))=.ok (.str ae[j]):=by
    simp! [bf,fl];rw [iG (k:=j) (by simpa using hj)];simp [Res.of]
   have e3:(ae[j]).length<=eH:=zzU (R.2 _ (List.getElem_mem hj)) (by decide)
   have e4:(ae[j]).cps.size=(ae[j]).length:=rfl
   simp! only [h0,h1,decide_true,e2,e3]
   by_cases h2:0<=c
   ·obtain⟨i,rfl⟩:=zzw h2
    simp! only [h2,decide_true,cd,zz4,zzg hj,Option.bind_some,Bool.and_self,Bool.true_and,Res.ok.injEq,PV.bl.injEq];rw [Bool.eq_iff_iff];simp [e4]
   ·simp [az,cw,cA,aS,eQ,ax,bj,qS,lW,eh,i6,f6,List.replicate,Nat.reduceAdd,Nat.reduceSub,reduceIte,ite_true,ite_false,BEq.rfl,beq_self_eq_true,J,h2]
  ·have:cd ae r.toNat c.toNat=none:=by
    unfold cd;rw [List.getElem?_eq_none (by omega)];rfl
   simp [az,cw,cA,aS,eQ,ax,bj,qS,lW,eh,i6,f6,List.replicate,Nat.reduceAdd,Nat.reduceSub,reduceIte,ite_true,ite_false,BEq.rfl,beq_self_eq_true,J,h0,h1,this]
 ·simp [az,cw,cA,aS,eQ,ax,bj,qS,lW,eh,i6,f6,List.replicate,Nat.reduceAdd,Nat.reduceSub,reduceIte,ite_true,ite_false,BEq.rfl,beq_self_eq_true,J,h0]
def gE{ae:List Str}{j:Nat}{z:Str}(h:ae[j]?=some z):bf (fl ae) (.int (j:Int))=.ok (.str z):=by
 obtain⟨hj,rfl⟩:=zzH.1 h
 simp! [bf,fl];rw [iG (k:=j) (by simpa using hj)];simp [Res.of]
def wV{z:Str}{i x:Nat}(hz:z.length<=eH)(h:z.cps.toList[i]?=some x):bf (.str z) (.int (i:Int))=.ok (.str ⟨#[x]⟩):=by
 obtain⟨hj,rfl⟩:=zzH.1 h
 simp! [bf,hz,if_true];rw [iG (k:=i) hj]
 rfl
def Dl{ae:List Str}(R:sj ae){j i x:Nat}(h:cd ae j i=some x):∃z,ae[j]?=some z/\bf (fl ae) (.int (j:Int))=.ok (.str z)/\bf (.str z) (.int (i:Int))=.ok (.str ⟨#[x]⟩):=by
 unfold cd at h;cases hz:ae[j]? with
 |none=>rw [hz] at h;cases h
 |some z=>
  rw [hz] at h;exact⟨z,rfl,gE hz,wV (zzU (R.2 _ (zzD hz)) (by decide)) h⟩
def tH(x:Nat):gC (.str ⟨#[x]⟩) (.str "#")=.ok (.bl (x !=35)):=by
 have:(("#":Str))=⟨#[35]⟩:=by decide+kernel
 rw [this];show Res.ok (PV.bl (!((⟨#[x]⟩:Str)==⟨#[35]⟩)))=_
 congr 2
 rw [bne,Bool.eq_iff_iff];simp
def xi(F:bz)(hs:∀r c,F "is_spot" [sp r c]=.ok (.bl true))(ho:∀ae,sj ae->∀r c,F "is_on_floor" [fl ae,sp r c]=.ok (.bl (decide (0<=r)&&decide (0<=c)&&(cd ae r.toNat c.toNat).isSome)))
 (ae:List Str) (R:sj ae) (r c:Int):az F c5 [fl ae,sp r c]=.ok (.bl (nL ae r c)):=by
 have e0:bf (sp r c) (.int 0)=.ok (.int r):=rfl
 have e1:bf (sp r c) (.int 1)=.ok (.int c):=rfl
 simp! only [c5,hs,ho ae R,e0,e1];unfold nL Fn
 by_cases h0:0<=r
 ·by_cases h1:0<=c
  ·obtain⟨j,rfl⟩:=zzw h0
   obtain⟨i,rfl⟩:=zzw h1
   simp! [h0,h1,decide_true,Bool.true_and,Bool.and_self,zz4];cases hc:cd ae j i with
   |none=>simp [az,cw,cA,aS,eQ,ax,bj,qS,lW,eh,i6,f6,List.replicate,Nat.reduceAdd,Nat.reduceSub,reduceIte,ite_true,ite_false,BEq.rfl,beq_self_eq_true,J]
   |some x=>
    obtain⟨z,_,e2,e3⟩:=Dl R hc
    simp! only [Option.isSome_some,e2,e3,tH]
  ·simp [az,cw,cA,aS,eQ,ax,bj,qS,lW,eh,i6,f6,List.replicate,Nat.reduceAdd,Nat.reduceSub,reduceIte,ite_true,ite_false,BEq.rfl,beq_self_eq_true,J,h1]
 ·simp [az,cw,cA,aS,eQ,ax,bj,qS,lW,eh,i6,f6,List.replicate,Nat.reduceAdd,Nat.reduceSub,reduceIte,ite_true,ite_false,BEq.rfl,beq_self_eq_true,J,h0]
noncomputable abbrev ju(p:Int×Int):PV:=sp p.1 p.2
def xm{ae:List Str}{r c:Int}:nL ae r c=true↔0<=r/\0<=c/\Fn ae r.toNat c.toNat=true:=by
 simp! [nL,zza,zzN,and_assoc]
theorem dN{body:PV->Sl->Res Fl}{P:Nat->Sl->Prop}:∀(xs:List PV) (k:Nat) (env:Sl),P k env->(∀i x env,xs[i]?=some x->P (k+i) env->∃ay,body x env=.ok (.nx ay)/\P (k+i+1) ay)->∃ay,forL body xs env=.ok (.nx ay)/\P (k+xs.length) ay
 |[],k,env,h,_=>⟨env,rfl,h⟩
 |x::xs,k,env,h,g=>by
  obtain⟨e1,b1,p1⟩:=g 0 x env rfl h
  obtain⟨e2,b2,p2⟩:=dN xs (k+1) e1 p1 λi y env hy hp=>by
   obtain⟨e3,b3,p3⟩:=g (i+1) y env hy (by rw [show k+(i+1)=k+1+i by omega];exact hp)
   exact⟨e3,b3,by rw [show k+1+i+1=k+(i+1)+1 by omega];exact p3⟩
  refine⟨e2,?_,by rw [zzL,show k+(xs.length+1)=k+1+xs.length by omega];exact p2⟩;simp! [forL,b1,lV,b2]
def oH{n i:Nat}{x:PV}(h:(dO 0 n)[i]?=some x):i<n/\x=.int (i:Int):=by
 simp! [dO,zzQ,zzJ] at h;obtain⟨j,hj,rfl⟩:=h
 obtain⟨h1,h2⟩:=zzH.1 hj
 simp! [List.getElem_range] at h2;subst h2;simp! [List.length_range] at h1;exact⟨h1,by simp⟩
def iz(F:bz):Prop:=∀(ns:List Int) (k q:Int),0<=k->0<q->∃m,F "_law_pick" [fk ns,.int k,.int q]=.ok (.int m)/\0<=m/\m<q
def pJ{a b c d m:Int}(h0:0<=m)(h1:m<4):∃v,bf (.lst [.int a,.int b,.int c,.int d]) (.int m)=.ok (.int v)/\(v=a\/v=b\/v=c\/v=d):=by
 have:m=0\/m=1\/m=2\/m=3:=by omega
 rcases this with rfl|rfl|rfl|rfl
 ·exact⟨a,rfl,.inl rfl⟩
 ·exact⟨b,rfl,.inr (.inl rfl)⟩
 ·exact⟨c,rfl,.inr (.inr (.inl rfl))⟩
 ·exact⟨d,rfl,.inr (.inr (.inr rfl))⟩
noncomputable def yq:Ss:=#v[.set 11 (.call "_law_pick" #v[!0,.bin .add (.bin .add (.bin .add (!1) (¬4)) (.bin .mul (!2) (!8))) (!10),.bin .mul (¬12) (!6)]),.set 9 (.bin .add (!9) (.ite (.cmp .lt (.bin .mod (!11) (¬12)) (!5)) (.cst (.str "#")) (.blt .str #v[.bin .fdiv (!11) (¬12)])))]
noncomputable def BP:Ss:=#v[.set 9 (.cst (.str "")),.gb (.one 10) (.nj (!4)) yq,.app 7 (!9)]
structure Fl(ae:List Str)(w:Nat):Prop where
 vJ:sj ae
 ne:0<ae.length
 w1:1<=w
 Du:∀z∈ae,z.length=w
 dig:∀z∈ae,∀x∈z.cps.toList,x=35\/(48<=x/\x<=57)
def xn{v:Int}(h0:0<=v)(h1:v<10):gJ .str [.int v]=.ok (.str ⟨#[48+v.toNat]⟩):=by
 obtain⟨n,rfl⟩:=zzw h0
 have key:∀k:Fin 10,(((k.1:Nat):Int).natAbs.log2<1920)/\((toString ((k.1:Nat):Int)):Str)=⟨#[48+k.1]⟩:=by decide+kernel
 have k:=key ⟨n,Int.ofNat_lt.1 h1⟩
 show(if _ then Res.ok (PV.str _) else _)=_
 rw [if_pos k.1,zz4,k.2]
def zZ(F:bz)(hp:iz F)(ns:List Int)(q a b sh tp:Int)(Lq:0<=q)(Jm:q<=6)(h1:1<=tp)(h2:tp<=10)(own:PV)(i n:Nat)(hn:n<=6)(BH zN:Ci.Slot):
 ∃(z:Str) (yx yG:Ci.Slot),z.length=n/\(∀x∈z.cps.toList,x=35\/(48<=x/\x<=57))/\forL (λx env=>((Tg.one 10).put x env).bind λay=>aS F yq ay) (dO 0 n) [.val (fk ns),.val (.int 0),.val (.int q),.val (.int a),.val (.int b),.val (.int sh),.val (.int tp),.own own,.val (.int i),.val (.str ""),BH,zN]=
  .ok (.nx [.val (fk ns),.val (.int 0),.val (.int q),.val (.int a),.val (.int b),.val (.int sh),.val (.int tp),.own own,.val (.int i),.val (.str z),yx,yG]):=by
 obtain⟨ay,e,z,yx,yG,hz,hd,rfl⟩:=dN (body:=λx env=>((Tg.one 10).put x env).bind λay=>aS F yq ay) (P:=λj env=>∃(z:Str) (yx yG:Ci.Slot),z.length=j/\(∀x∈z.cps.toList,x=35\/(48<=x/\x<=57))/\env=[.val (fk ns),.val (.int 0),.val (.int q),.val (.int a),.val (.int b),.val (.int sh),.val (.int tp),.own own,.val (.int i),.val (.str z),yx,yG]) (dO 0 n) 0 [.val (fk ns),.val (.int 0),.val (.int q),.val (.int a),.val (.int b),.val (.int sh),.val (.int tp),.own own,.val (.int i),.val (.str ""),BH,zN] ⟨_,_,_,by decide+kernel,by decide+kernel,rfl⟩ (by
  intro j x env hx hq;obtain⟨hj,rfl⟩:=oH hx
  obtain⟨z,yx,yG,hz,hd,rfl⟩:=hq
  obtain⟨m,em,m0,m1⟩:=hp ns (0+4+q*(i:Int)+(j:Int)) (12*tp) (by
   have:=Int.mul_nonneg Lq (Int.natCast_nonneg i)
   omega) (by omega)
  have q1:(aW q||aW (i:Int))=true:=by
   have:aW q=true:=by simp! [aW,zza,zzN];omega
   rw [this];rfl
  have q2:(aW 12||aW tp)=true:=by rw [zzt];exact .inl (by decide)
  have q3:(0:Int)<12:=by decide
  have q4:(0:Int)<12/\(12:Int)<1073741824:=by decide
  have ew:=xn (v:=m/12) (by omega) (by omega)
  have FU:(("#":Str))=⟨#[35]⟩:=by decide+kernel
  by_cases hm:m%12<sh
  ·refine⟨[.val (fk ns),.val (.int 0),.val (.int q),.val (.int a),.val (.int b),.val (.int sh),.val (.int tp),.own own,.val (.int i),.val (.str (z++"#")),.val (.int j),.val (.int m)],?_,_,_,_,?_,?_,rfl⟩
   ·have l:z.length+(("#":Str)).length<=eH:=zzU (show _<=8 by rw [FU];show z.length+1<=8;omega) (by decide)
    simp! only [yq,q1,q2,q3,q4,em,hm,decide_true,l,and_self]
   ·rw [Str.length_append,FU];show z.length+1=_;omega
   ·rw [FU];show∀x∈(z.cps++#[35]).toList,_;intro x hx;simp! [Array.toList_append,List.mem_append,zzi] at hx;rcases hx with hx|hx
    ·exact hd x hx
    ·exact .inl hx
  ·refine⟨[.val (fk ns),.val (.int 0),.val (.int q),.val (.int a),.val (.int b),.val (.int sh),.val (.int tp),.own own,.val (.int i),.val (.str (z++⟨#[48+(m/12).toNat]⟩)),.val (.int j),.val (.int m)],?_,_,_,_,?_,?_,rfl⟩
   ·have l:z.length+(⟨#[48+(m/12).toNat]⟩:Str).length<=eH:=zzU (show z.length+1<=8 by omega) (by decide)
    simp! only [yq,q1,q2,q3,q4,em,hm,decide_false,l,and_self,ew]
   ·rw [Str.length_append];show z.length+1=_;omega
   ·show∀x∈(z.cps++#[48+(m/12).toNat]).toList,_
    intro x hx;simp! [Array.toList_append,List.mem_append,zzi] at hx;rcases hx with hx|hx
    ·exact hd x hx
    ·exact .inr (by omega))
 refine⟨z,yx,yG,?_,hd,e⟩
 simpa [dO] using hz
def qB(F:bz)(hp:iz F)(ns:List Int)(q:Int)(vG:1<=q)(Jm:q<=6):∃ae w,Fl ae w/\az F bG [fk ns,.int 0,.int q]=.ok (fl ae):=by
 obtain⟨a,ea,a0,a6⟩:=hp ns 0 q (by decide) (by omega)
 obtain⟨b,eb,b0,b6⟩:=hp ns (0+1) q (by decide) (by omega)
 obtain⟨c,ec,c0,c4⟩:=hp ns (0+2) 4 (by decide) (by decide)
 obtain⟨d,ed,d0,d4⟩:=hp ns (0+3) 4 (by decide) (by decide)
 obtain⟨sh,es,hs⟩:=pJ (a:=0) (b:=2) (c:=4) (d:=6) c0 c4
 obtain⟨tp,et,ht⟩:=pJ (a:=1) (b:=2) (c:=3) (d:=10) d0 d4
 have t1:1<=tp:=by omega
 have t2:tp<=10:=by omega
 have sa:aY (1+a)=true:=by simp! [aY,zza,zzN];omega
 have sb:aY (1+b)=true:=by simp! [aY,zza,zzN];omega
 obtain⟨ay,e,ae,s8,s9,BH,zN,hl,hr,hd,rfl⟩:=dN (body:=λx env=>((Tg.one 8).put x env).bind λay=>aS F BP ay)
  (P:=λi env=>∃(ae:List Str) (s8 s9 BH zN:Ci.Slot),ae.length=i/\(∀z∈ae,z.length=(1+b).toNat)/\(∀z∈ae,∀x∈z.cps.toList,x=35\/(48<=x/\x<=57))/\env=[.val (fk ns),.val (.int 0),.val (.int q),.val (.int (1+a)),.val (.int (1+b)),.val (.int sh),.val (.int tp),.own (.lst (ae.map .str)),s8,s9,BH,zN])
  (dO 0 (1+a).toNat) 0 [.val (fk ns),.val (.int 0),.val (.int q),.val (.int (1+a)),.val (.int (1+b)),.val (.int sh),.val (.int tp),.own (.lst []),.no,.no,.no,.no] ⟨[],_,_,_,_,rfl,(λz hz=>by cases hz),(λz hz=>by cases hz),rfl⟩ (by
  intro i x env hx hq;obtain⟨hi,rfl⟩:=oH hx
  obtain⟨ae,s8,s9,BH,zN,hl,hr,hd,rfl⟩:=hq
  obtain⟨z,yx,yG,hz,hzd,e⟩:=zZ F hp ns q (1+a) (1+b) sh tp (by omega) Jm t1 t2 (.lst (ae.map .str)) i (1+b).toNat (by omega) BH zN
  have l:(ae.map PV.str).length<eH:=zzV (m:=6) (by simp! [zzl];omega) (by decide)
  refine⟨[.val (fk ns),.val (.int 0),.val (.int q),.val (.int (1+a)),.val (.int (1+b)),.val (.int sh),.val (.int tp),.own (.lst ((ae++[z]).map .str)),.val (.int i),.val (.str z),yx,yG],?_,ae++[z],_,_,_,_,by simp;omega,?_,?_,rfl⟩
  ·have e':=e
   simp! only [yq] at e';simp! [zzl] at l;simp! only [BP,yq,sb,e',zzl,l,List.map_append]
  ·intro y hy;simp! [List.mem_append,zzi] at hy;rcases hy with hy|rfl
   ·exact hr y hy
   ·exact hz
  ·intro y hy;simp! [List.mem_append,zzi] at hy;rcases hy with hy|rfl
   ·exact hd y hy
   ·exact hzd)
 have rZ:ae.length=(1+a).toNat:=by simpa [dO] using hl
 refine⟨ae,(1+b).toNat,⟨⟨by omega,λz hz=>by rw [hr z hz];omega⟩,by omega,by omega,hr,hd⟩,?_⟩
 simp! only [BP,yq] at e;simp! only [bG,bG,ea,eb,ec,ed,es,et,sa,e]
def uf{ae:List Str}{r c:Int}(h:nL ae r c=true):∃(i j x:Nat),r=i/\c=j/\cd ae i j=some x/\x≠35:=by
 obtain⟨h0,h1,h2⟩:=xm.1 h
 obtain⟨i,rfl⟩:=zzw h0
 obtain⟨j,rfl⟩:=zzw h1
 simp! [zz4,Fn] at h2;cases hc:cd ae i j with
 |none=>rw [hc] at h2;cases h2
 |some x=>
  rw [hc] at h2;exact⟨i,j,x,rfl,rfl,hc,by simpa using h2⟩
def BV{ae:List Str}{w:Nat}(L:Fl ae w){r c:Int}(h:nL ae r c=true):0<=r/\r<ae.length/\0<=c/\c<w:=by
 obtain⟨i,j,x,rfl,rfl,hc,_⟩:=uf h
 unfold cd at hc;cases hz:ae[i]? with
 |none=>rw [hz] at hc;cases hc
 |some z=>
  rw [hz] at hc;have h1:=(zzH.1 hz).1
  have h2:=(zzH.1 hc).1
  have hl:=L.Du _ (zzD hz)
  simp! [zzd] at h2;have:z.cps.size=z.length:=rfl
  omega
noncomputable abbrev Im(p:Nat×Nat):PV:=sp p.1 p.2
theorem oT:∀{xs:List PV} {k i:Nat} {x:PV},(bQ k xs)[i]?=some x->∃y,xs[i]?=some y/\x=.tup [.int ((k+i:Nat):Int),y]
 |[],_,_,_,h=>by cases h
 |y::ys,k,0,x,h=>by
  simp! [bQ,List.getElem?_cons_zero,Option.some.injEq] at h;exact⟨y,rfl,h.symm⟩
 |y::ys,k,i+1,x,h=>by
  simp! [bQ,List.getElem?_cons_succ] at h;obtain⟨w,h1,h2⟩:=oT h
  refine⟨w,h1,?_⟩;rw [h2,show k+1+i=k+(i+1) by omega]
theorem cF:∀(xs:List PV) (k:Nat),(bQ k xs).length=xs.length
 |[],_=>rfl
 |x::xs,k=>by simp! [bQ,zzL,cF xs]
def ij(F:bz):az F aM [.exc "NoSpot"]=.ok (.str "no spot"):=by kernel_rfl
def eU(F:bz):az F aM [.exc "NoFit"]=.ok (.str "no fit"):=by kernel_rfl
noncomputable def tB:Ss:=#v[.f9 #v[.ret (.dP 0 .nil)] "FloorError" 1 "_law_class"]
def eX(F:bz){g:Str}{idx:List Nat}{bg qs:List PV}{c t:Str}(h0:idx.head?=some 0)(ha:dr bg idx.tail=.ok qs)(hg:F g qs=.exc c)(hc:F "_law_class" [.exc c]=.ok (.str t)):
 az F ⟨["_law_deed","e"],1,tB,some (g,idx)⟩ bg=.ok (.str t):=by
 have e1:aS F (.cons (.ret (.dP 0 .nil)) .nil) [.fn g idx bg,.no]=.exc c:=by
  rw [aS,eQ,ax];show(Res.bind (match(some (Slot.fn g idx bg):Option Slot) with
   |some (.fn g idx bg)=>(bj F .nil _).bind λps=>if idx.head?=some ps.length then(dr (ps++bg) idx.tail).bind λqs=>F g qs else .bad
   |_=>.bad) _).bind _=_
  rw [bj];show(Res.bind (if idx.head?=some 0 then(dr bg idx.tail).bind λqs=>F g qs else .bad) _).bind _=_
  rw [if_pos h0,ha];show(Res.bind (F g qs) _).bind _=_
  rw [hg]
  rfl
 have e2:aS F tB [.fn g idx bg,.no]=.ok (.rt (.str t)):=by
  unfold tB;have hn:([.fn g idx bg,.no]:Sl).any Slot.uy=false:=rfl
  rw [aS,eQ,hn,if_neg zzf,e1];show((match F "_law_class" [.exc c] with|.ok p=>Res.ok (Ci.Fl.rt p)|_=>.bad)).bind _=_
  rw [hc]
  rfl
 show(aS F tB [.fn g idx bg,.no]).bind _=_
 rw [e2]
 rfl
def sX(F:bz)(ho:∀ae,sj ae->∀r c,F "is_open" [fl ae,sp r c]=.ok (.bl (nL ae r c)))(ae:List Str)(R:sj ae)(r c:Int)(h:nL ae r c=false):az F bF [fl ae,sp r c]=.exc "NoSpot":=by
 dsimp! only [bF,ho ae R r c,h]
def oF(F:bz){ae:List Str}{r c:Int}(h:F "need_open" [fl ae,sp r c]=.exc "NoSpot"):az F bJ [fl ae,sp r c]=.exc "NoSpot":=by
 dsimp! only [bJ,h]
def lq(F:bz){ae:List Str}{r c:Int}(h:F "need_open" [fl ae,sp r c]=.exc "NoSpot"):az F bt [fl ae,sp r c]=.exc "NoSpot":=by
 dsimp! only [bt,h]
theorem kg{f:PV->Res (Option PV)}{r:Nat}(hf:∀c x:Nat,f (.tup [.int c,.str ⟨#[x]⟩])=.ok (if x==35 then some (sp r c) else none)):∀(xs:List Nat) (k:Nat),∃L:List (Nat×Nat),br f (bQ k (xs.map λx=>.str ⟨#[x]⟩))=.ok (L.map Im)/\L.length<=xs.length/\∀p∈L,p.1=r/\k<=p.2/\xs[p.2-k]?=some 35
 |[],k=>⟨[],rfl,zzE _,λp h=>nomatch h⟩
 |x::xs,k=>by
  obtain⟨L,e,hl,hm⟩:=kg hf xs (k+1)
  have h1:=hf k x
  have tl:∀p∈L,p.1=r/\k<=p.2/\(x::xs)[p.2-k]?=some 35:=λp hp=>by
   obtain⟨a,b,c⟩:=hm p hp
   refine⟨a,by omega,?_⟩;rw [show p.2-k=(p.2-(k+1))+1 by omega,List.getElem?_cons_succ];exact c
  cases hx:(x==35) with
  |true=>
   rw [hx] at h1;refine⟨(r,k)::L,?_,by simpa using hl,λp hp=>?_⟩
   ·simp! [zzF,bQ,br,h1,if_true,Res.well,Res.bind,e,oc]
   ·rcases zzm.1 hp with z|z
    ·subst z;refine⟨rfl,zzE _,?_⟩;rw [Nat.sub_self,List.getElem?_cons_zero,zzy.1 hx]
    ·exact tl p z
  |false=>
   rw [hx] at h1;refine⟨L,?_,Nat.le_succ_of_le hl,tl⟩;simp! [zzF,bQ,br,h1,zze,if_false,Res.well,Res.bind,e,oc]
def yY(x:Nat):fL (.str ⟨#[x]⟩) (.str "#")=.ok (.bl (x==35)):=by
 have:=tH x
 have e:gC (.str ⟨#[x]⟩) (.str "#")=.ok (.bl (!eqv (.str ⟨#[x]⟩) (.str "#"))):=rfl
 rw [e] at this;have h2:(!eqv (.str ⟨#[x]⟩) (.str "#"))=(x !=35):=by
  injection this with h
  injection h
 show Res.ok (PV.bl (eqv (.str ⟨#[x]⟩) (.str "#")))=_
 have h3:eqv (.str ⟨#[x]⟩) (.str "#")=(x==35):=by
  have:=congrArg (λb=>!b) h2
  simpa [bne] using this
 rw [h3]
def ra(F:bz){ae i7:List Str}{z z':Str}(h:ae[0]?=some z)(h':i7[0]?=some z')(hz:z.length<=eH)(Le:z'.length<=eH)(hn:z.length≠z'.length):az F aF [fl ae,fl i7]=.exc "NoFit":=by
 have r0:bf (fl ae) (.int 0)=.ok (.str z):=gE (j:=0) h
 have r1:bf (fl i7) (.int 0)=.ok (.str z'):=gE (j:=0) h'
 have hb:((z.length:Int)==(z'.length:Int))=false:=by rw [beq_eq_false_iff_ne];omega
 dsimp! only [aF,r0,r1,hz,Le,hb]
def uz(F:bz){ae:List Str}{z:Str}(h:ae[0]?=some z)(hz:z.length<=eH)(hn:ae.length<=6):az F aF [fl ae,fl ae]=.ok (fl (ae++ae)):=by
 have r0:bf (fl ae) (.int 0)=.ok (.str z):=gE (j:=0) h
 have h1:decide ((12:Int)<(ae.map PV.str).length+(ae.map PV.str).length)=false:=by rw [decide_eq_false_iff_not,zzl];omega
 have h2:(ae.map PV.str).length+(ae.map PV.str).length<=eH:=zzU (m:=12) (by rw [zzl];omega) (by decide)
 have e:binOp .add (fl ae) (fl ae)=.ok (fl (ae++ae)):=by
  show(if _ then _ else _)=_
  rw [if_pos h2];show _=Res.ok (PV.tup ((ae++ae).map .str))
  rw [List.map_append]
 dsimp! only [aF,r0,hz,BEq.rfl,h1,e]
def nX(F:bz){ae i7:List Str}(hn:ae.length≠i7.length):az F aH [fl ae,fl i7]=.exc "NoFit":=by
 have hb:(((ae.map PV.str).length:Int)==((i7.map PV.str).length:Int))=false:=by rw [beq_eq_false_iff_ne,zzl,zzl];omega
 dsimp! only [aH,hb]
def w8(F:bz):az F aF [dB 17010,dB 16011]=.exc "NoFit":=by kernel_rfl
def uG(F:bz):az F aH [dB 11070,dB 11061]=.exc "NoFit":=by kernel_rfl
def below_6(F:bz):az F aF [dB 16010,dB 16011]=.ok (.tup (List.replicate 6 (.str "0")++List.replicate 6 (.str "1"))):=by kernel_rfl
def uO(F:bz):az F aH [dB 11060,dB 11061]=.ok (.tup [.str "000000111111"]):=by kernel_rfl
noncomputable def bB:Ss:=#v[.ji 4 (.dc 2 [5] (.two 0 1) (.enum (!6)) (.cmp .eq (!1) (.cst (.str "#"))) (.tup #v[!2,!0]))]
noncomputable def kB:Ss:=#v[.set 8 (.sub (.oY 4) (.call "_law_pick" #v[!0,.bin .add (¬200) (!7),.blt .len #v[.oY 4]])),.ite (.cmp .ne (.cT "_law_told@spot_turned" .nil "spot_turned" [0,1,0] [8,1]) (.cst (.str "no spot"))) #v[.ret (.cst (.bl false))] .nil,.ite (.cmp .ne (.cT "_law_told@spot_mirrored" .nil "spot_mirrored" [0,1,0] [8,1]) (.cst (.str "no spot"))) #v[.ret (.cst (.bl false))] .nil]
noncomputable def lD:Ss:=#v[.ite (.cmp .ne (.call "set_below" #v[.bin .mul (.tup #v[.cst (.str "0")]) (¬6),.bin .mul (.tup #v[.cst (.str "1")]) (¬6)]) (.bin .add (.bin .mul (.tup #v[.cst (.str "0")]) (¬6)) (.bin .mul (.tup #v[.cst (.str "1")]) (¬6)))) #v[.ret (.cst (.bl false))] .nil,.ret (.and (.cmp .eq (.call "set_beside" #v[.tup #v[.cst (.str "000000")],.tup #v[.cst (.str "111111")]]) (.tup #v[.cst (.str "000000111111")])) (.cmp .eq (.call "set_below" #v[!1,!1]) (.bin .add (!1) (!1))))]
noncomputable def lC:Ss:=.cons (.vE (.two 9 10) (.tup #v[.bin .mul (.tup #v[.bin .add (.sub (!1) (¬0)) (.cst (.str "0"))]) (!2),.bin .add (!1) (.slice (!1) .no (.some (¬1)))])) (.cons (.own 11 (.lst #v[.cT "_law_told@set_below" .nil "set_below" [0,1,0] [9,1]])) (.cons (.app 11 (.cT "_law_told@set_beside" .nil "set_beside" [0,0,1] [1,10])) (.cons (.app 11 (.cT "_law_told@set_below@c" .nil "set_below" [0,17010,16011] [])) (.cons (.app 11 (.cT "_law_told@set_beside@c" .nil "set_beside" [0,11070,11061] [])) (.cons (.ite (.cmp .ne (.oY 11) (.bin .mul (.lst #v[.cst (.str "no fit")]) (¬4))) #v[.ret (.cst (.bl false))] .nil) lD)))))
noncomputable def lB:Ss:=.cons (.gb (.one 7) (.nj (¬4)) kB) lC
noncomputable def lA:Ss:=.cons (.set 1 (.call "_law_floor" #v[!0,¬0,¬6])) (.cons (.par 2 3 #v[.blt .len #v[!1],.blt .len #v[.sub (!1) (¬0)]]) (.cons (.own 4 (.lst #v[.tup #v[!2,¬0],.tup #v[¬0,!3],.tup #v[.neg (¬1),¬0],.tup #v[¬0,.neg (¬1)],.tup #v[¬99,¬99]])) (.cons (.gb (.two 5 6) (.enum (!1)) bB) lB)))
theorem yR:j6=⟨["_law_script","_law_floor_here","_law_rows","_law_columns","_law_bad","_law_row","_law_signs","_law_k","_law_spot","_law_wide","_law_deep","_law_told_here"],1,lA,none⟩:=rfl
section
variable{F:bz}{a b:E}{env:Sl}{x y:PV}
def om{o:r9}(h1:ax F a env=.ok x)(h2:ax F b env=.ok y):ax F (.cmp o a b) env=c8 o x y:=by rw [ax,h1,lV,h2,lV]
def vm{o:yB}(h1:ax F a env=.ok x)(h2:ax F b env=.ok y):ax F (.bin o a b) env=binOp o x y:=by rw [ax,h1,lV,h2,lV]
def iV{f:Str}(h1:ax F a env=.ok x)(h2:ax F b env=.ok y):ax F (.call f (.cons a (.cons b .nil))) env=F f [x,y]:=by
 rw [ax,bj,h1,lV,bj,h2,lV,bj,lV,lV,lV]
end
def Hy{ae:List Str}:fL (fl ae) (fl ae)=.ok (.bl true):=by
 have p:l4 (fl ae)=true:=by
  show(ae.map PV.str).all (Ci.plain 8)=true
  rw [List.all_map,zzT];exact λ_ _=>rfl
 have q:∀l:List Str,eqs (jr 8) (l.map .str) (l.map .str)=true:=λl=>by
  induction l with
  |nil=>rfl
  |cons a l ih=>
   show(a==a&&eqs (jr 8) (l.map .str) (l.map .str))=true
   rw [ih,beq_self_eq_true]
   rfl
 show(if(l4 (fl ae)&&l4 (fl ae))=true then Res.ok (PV.bl (eqv (fl ae) (fl ae))) else .bad)=_
 rw [p];show Res.ok (PV.bl (eqs (jr 8) (ae.map .str) (ae.map .str)))=_
 rw [q]
def EH(F F1 F3:bz)(h1:F "set_below"=az F1 aF)(h3:F "set_beside"=az F3 aH){ae:List Str}{z:Str}(h:ae[0]?=some z)(hz:z.length<=eH)(hn:ae.length<=6){a0 a2 a3 a4 a5 a6 a7 a8 a9 a10 a11:Ci.Slot}:aS F lD [a0,.val (fl ae),a2,a3,a4,a5,a6,a7,a8,a9,a10,a11]=.ok (.rt (.bl true)):=by
 generalize he:([a0,.val (fl ae),a2,a3,a4,a5,a6,a7,a8,a9,a10,a11]:Sl)=env
 have hv:ax F (.var 1) env=.ok (fl ae):=by subst he;rfl
 have m0:ax F (.bin .mul (.tup (.cons (.cst (.str "0")) .nil)) (.cst (.int 6))) env=.ok (dB 16010):=by kernel_rfl
 have m1:ax F (.bin .mul (.tup (.cons (.cst (.str "1")) .nil)) (.cst (.int 6))) env=.ok (dB 16011):=by kernel_rfl
 have n0:ax F (.tup (.cons (.cst (.str "000000")) .nil)) env=.ok (dB 11060):=by kernel_rfl
 have n1:ax F (.tup (.cons (.cst (.str "111111")) .nil)) env=.ok (dB 11061):=by kernel_rfl
 have n2:ax F (.tup (.cons (.cst (.str "000000111111")) .nil)) env=.ok (.tup [.str "000000111111"]):=by kernel_rfl
 have s1:binOp .add (dB 16010) (dB 16011)=.ok (.tup (List.replicate 6 (.str "0")++List.replicate 6 (.str "1"))):=by kernel_rfl
 have c1:gC (.tup (List.replicate 6 (.str "0")++List.replicate 6 (.str "1"))) (.tup (List.replicate 6 (.str "0")++List.replicate 6 (.str "1")))=.ok (.bl false):=by kernel_rfl
 have c2:fL (.tup [.str "000000111111"]) (.tup [.str "000000111111"])=.ok (.bl true):=by kernel_rfl
 have h2:(ae.map PV.str).length+(ae.map PV.str).length<=eH:=zzU (m:=12) (by rw [zzl];omega) (by decide)
 have e:binOp .add (fl ae) (fl ae)=.ok (fl (ae++ae)):=by
  show(if _ then _ else _)=_
  rw [if_pos h2];show _=Res.ok (PV.tup ((ae++ae).map .str))
  rw [List.map_append]
 have t1:=(om (o:=.ne) ((iV (f:="set_below") m0 m1).trans (by rw [h1];exact below_6 F1)) ((vm (o:=.add) m0 m1).trans s1)).trans c1
 have t2:=(om (o:=.eq) ((iV (f:="set_beside") n0 n1).trans (by rw [h3];exact uO F3)) n2).trans c2
 have t3:=(om (o:=.eq) ((iV (f:="set_below") hv hv).trans (by rw [h1];exact uz F1 h hz hn)) ((vm (o:=.add) hv hv).trans e)).trans Hy
 unfold lD;rw [aS,eQ,t1,lV,FA,if_neg zzf,aS];rw [lV,ET,aS,eQ,ax,t2,lV,FA,if_pos rfl,t3]
 rfl
noncomputable abbrev B0(n w:Int):List (Int×Int):=[(n,0),(0,w),(-1,0),(0, -1),(99,99)]
def v7(ae:List Str)(B:List (Int×Int)):Prop:=∀p∈B,nL ae p.1 p.2=false
theorem DF{ae:List Str}{w:Nat}(L:Fl ae w):v7 ae (B0 ae.length w):=λp hp=>by
 cases h:nL ae p.1 p.2 with
 |false=>rfl
 |true=>
  obtain⟨h1,h2,h3,h4⟩:=BV L h
  have:=L.vJ.1
  simp! [B0,zzm,List.not_mem_nil,or_false] at hp;rcases hp with rfl|rfl|rfl|rfl|rfl<;>simp only at h1 h2 h3 h4<;>omega
def EF{ae:List Str}{r c:Nat}{z:Str}(hz:ae[r]?=some z)(hc:z.cps.toList[c]?=some 35):nL ae r c=false:=by
 cases h:nL ae r c with
 |false=>rfl
 |true=>
  obtain⟨i,j,x,h1,h2,h3,h4⟩:=uf h
  have e1:r=i:=by omega
  have e2:c=j:=by omega
  subst e1 e2;unfold cd at h3;rw [hz] at h3;have h5:z.cps.toList[c]?=some x:=h3
  rw [hc] at h5;cases h5;exact absurd rfl h4
def wB(F:bz){ae:List Str}{w:Nat}(L:Fl ae w){a0 a2 a3 a7 a8 a9 a10 a11:Ci.Slot}:∃(B:List (Int×Int)) (s5 s6:Ci.Slot),forL (λx env=>((Tg.two 5 6).put x env).bind λay=>aS F bB ay) (bQ 0 (ae.map .str)) [a0,.val (fl ae),a2,a3,.own (.lst ((B0 ae.length w).map ju)),.no,.no,a7,a8,a9,a10,a11]=.ok (.nx [a0,.val (fl ae),a2,a3,.own (.lst (B.map ju)),s5,s6,a7,a8,a9,a10,a11])/\v7 ae B/\0<B.length/\B.length<=41:=by
 have Kn:=L.vJ.1
 obtain⟨ay,e,B,s5,s6,hS,h0,hl,rfl⟩:=dN (body:=λx env=>((Tg.two 5 6).put x env).bind λay=>aS F bB ay) (P:=λi env=>∃(B:List (Int×Int)) (s5 s6:Ci.Slot),v7 ae B/\0<B.length/\B.length<=5+6*i/\env=[a0,.val (fl ae),a2,a3,.own (.lst (B.map ju)),s5,s6,a7,a8,a9,a10,a11])
  (bQ 0 (ae.map .str)) 0 [a0,.val (fl ae),a2,a3,.own (.lst ((B0 ae.length w).map ju)),.no,.no,a7,a8,a9,a10,a11] ⟨_,_,_,DF L,(show 0<5 by decide),(show 5<=5 by decide),rfl⟩ (by
  intro i x env hx hq;obtain⟨y,hy,rfl⟩:=oT hx
  obtain⟨B,s5,s6,hS,h0,hl,rfl⟩:=hq
  simp! [zzQ,zzJ] at hy;obtain⟨z,hz,rfl⟩:=hy
  have w4:=L.vJ.2 z (zzD hz)
  have hi:i<ae.length:=(zzH.1 hz).1
  obtain⟨M,eM,lM,hM⟩:=kg (f:=λx=>((Tg.two 0 1).put x [.no,.no,.val (.int i)]).bind λay=>(ax F (.cmp .eq (.var 1) (.cst (.str "#"))) ay).bind λt=>pf t λt=>if t then(ax F (.tup (.cons (.var 2) (.cons (.var 0) .nil))) ay).bind λy=>.ok (some y) else .ok none) (r:=i) (λc x=>by
   dsimp! only [yY];cases(x==35)<;>rfl) z.cps.toList 0
  have lz:(bQ 0 (chars z)).length<eH:=by
   rw [cF];refine zzV (m:=6) ?_ (by decide);show(z.cps.toList.map _).length<=6;rw [zzl];exact w4
  have LA:M.length<=6:=zzU lM (by rw [zzd];exact w4)
  have lb:(B.map ju).length+(M.map Im).length<=eH:=zzU (m:=47) (by rw [zzl,zzl];omega) (by decide)
  have JR:br (λx=>((Tg.two 0 1).put x [.no,.no,.val (.int i)]).bind λay=>(ax F (.cmp .eq (.var 1) (.cst (.str "#"))) ay).bind λt=>pf t λt=>if t then(ax F (.tup (.cons (.var 2) (.cons (.var 0) .nil))) ay).bind λy=>.ok (some y) else .ok none) (bQ 0 (chars z))=.ok (M.map Im):=eM
  dsimp! only [J] at JR;refine⟨[a0,.val (fl ae),a2,a3,.own (.lst ((B++M.map λp=>((p.1:Int),(p.2:Int))).map ju)),.val (.int i),.val (.str z),a7,a8,a9,a10,a11],?_,_,_,_,λp hp=>?_,?_,?_,rfl⟩
  ·dsimp! only [bB,Nat.zero_add,lz,JR,lb,List.map_append,List.map_map]
   rfl
  ·rcases List.mem_append.1 hp with z'|z'
   ·exact hS p z'
   ·obtain⟨q,hq,rfl⟩:=zzx.1 z'
    obtain⟨h1,_,h3⟩:=hM q hq
    have h3:z.cps.toList[q.2]?=some 35:=h3
    rw [<-h1] at hz;exact EF hz h3
  ·rw [zzM];omega
  ·rw [zzM,zzl];omega)
 refine⟨B,s5,s6,e,hS,h0,?_⟩;rw [cF,zzl] at hl;omega
def Ki:gC (.str "no spot") (.str "no spot")=.ok (.bl false):=by kernel_rfl
def o8(F:bz)(f:Str)(ae:List Str):Prop:=∀r c,nL ae r c=false->F f [sp r c,fl ae]=.ok (.str "no spot")
def zo(F:bz)(hp:iz F){ns:List Int}{ae:List Str}(ht:o8 F "_law_told@spot_turned" ae)(hm:o8 F "_law_told@spot_mirrored" ae){B:List (Int×Int)}(hS:v7 ae B)(h0:0<B.length){a2 a3 a5 a6 a9 a10 a11:Ci.Slot}:
 ∃s7 s8,forL (λx env=>((Tg.one 7).put x env).bind λay=>aS F kB ay) (dO 0 4) [.val (fk ns),.val (fl ae),a2,a3,.own (.lst (B.map ju)),a5,a6,.no,.no,a9,a10,a11]=.ok (.nx [.val (fk ns),.val (fl ae),a2,a3,.own (.lst (B.map ju)),a5,a6,s7,s8,a9,a10,a11]):=by
 obtain⟨ay,e,s7,s8,rfl⟩:=dN (body:=λx env=>((Tg.one 7).put x env).bind λay=>aS F kB ay) (P:=λi env=>∃(s7 s8:Ci.Slot),env=[.val (fk ns),.val (fl ae),a2,a3,.own (.lst (B.map ju)),a5,a6,s7,s8,a9,a10,a11])
  (dO 0 4) 0 [.val (fk ns),.val (fl ae),a2,a3,.own (.lst (B.map ju)),a5,a6,.no,.no,a9,a10,a11] ⟨_,_,rfl⟩ (by
  intro i x env hx hq;obtain⟨hi,rfl⟩:=oH hx
  obtain⟨s7,s8,rfl⟩:=hq
  obtain⟨m,em,m0,m1⟩:=hp ns (200+(i:Int)) ((B.map ju).length:Int) (by omega) (by rw [zzl];omega)
  rw [zzl] at m1;have J8:m.toNat<B.length:=by omega
  have es:bf (.lst (B.map ju)) (.int m)=.ok (ju B[m.toNat]):=by
   have h:=iG (xs:=B.map ju) (k:=m.toNat) (by rw [zzl];exact J8)
   rw [Int.toNat_of_nonneg m0] at h;show Res.of (nE (B.map ju) m)=_
   rw [h,List.getElem_map]
   rfl
  have hc:=hS _ (List.getElem_mem J8)
  have e1:=ht _ _ hc
  have e2:=hm _ _ hc
  refine⟨[.val (fk ns),.val (fl ae),a2,a3,.own (.lst (B.map ju)),a5,a6,.val (.int i),.val (ju B[m.toNat]),a9,a10,a11],?_,_,_,rfl⟩;dsimp! only [kB,gu,em,es,e1,e2,Ki])
 exact⟨s7,s8,e⟩
def Lw:gC (.lst [.str "no fit",.str "no fit",.str "no fit",.str "no fit"]) (.lst [.str "no fit",.str "no fit",.str "no fit",.str "no fit"])=.ok (.bl false):=by kernel_rfl
def G9:binOp .mul (.lst [.str "no fit"]) (.int 4)=.ok (.lst [.str "no fit",.str "no fit",.str "no fit",.str "no fit"]):=by kernel_rfl
def Dy(F:bz){ae:List Str}{w:Nat}(L:Fl ae w){z:Str}(h:ae[0]?=some z)(h1:F "_law_told@set_below" [fl (List.replicate ae.length (z++"0")),fl ae]=.ok (.str "no fit"))(h2:F "_law_told@set_beside" [fl ae,fl (ae++[z])]=.ok (.str "no fit"))
 (h3:F "_law_told@set_below@c" []=.ok (.str "no fit")) (h4:F "_law_told@set_beside@c" []=.ok (.str "no fit")) {a0 a3 a4 a5 a6 a7 a8:Ci.Slot}:
 ∃a9 a10 a11,aS F lC [a0,.val (fl ae),.val (.int (ae.map PV.str).length),a3,a4,a5,a6,a7,a8,.no,.no,.no]=aS F lD [a0,.val (fl ae),.val (.int (ae.map PV.str).length),a3,a4,a5,a6,a7,a8,a9,a10,a11]:=by
 have hn:=L.ne
 have Kn:=L.vJ.1
 have Fv:z∈ae:=zzD h
 have E5:=L.vJ.2 z Fv
 have r0:bf (fl ae) (.int 0)=.ok (.str z):=gE (j:=0) h
 have z1:("0":Str).length=1:=by decide
 have l1:z.length+("0":Str).length<=eH:=zzU (m:=7) (by omega) (by decide)
 have e1:binOp .mul (.tup [.str (z++"0")]) (.int (ae.map PV.str).length)=.ok (fl (List.replicate ae.length (z++"0"))):=by
  show(if _ then _ else _)=_
  rw [if_pos ⟨by rw [zzl];omega,by rw [zzl];omega,(show 0<1 by decide),(show 1<1000 by decide)⟩,zz4,zzl];show Res.ok (PV.tup _)=Res.ok (PV.tup ((List.replicate ae.length (z++"0")).map .str))
  rw [List.map_replicate];have fr:∀n:Nat,(List.replicate n [PV.str (z++"0")]).flatten=List.replicate n (PV.str (z++"0")):=λn=>by
   induction n with
   |zero=>rfl
   |succ n ih=>rw [List.replicate_succ,List.flatten_cons,ih];rfl
  rw [fr]
 have e2:fb (fl ae) none (some 1)=.ok (fl [z]):=by
  cases ae with
  |nil=>cases h
  |cons a rs=>
   have:a=z:=by simpa using h
   subst this;show Res.ok (PV.tup (mC ((a::rs).map PV.str) none (some 1)))=_
   have:mC ((a::rs).map PV.str) none (some 1)=[PV.str a]:=by
    unfold mC;show(((a::rs).map PV.str).drop 0).take _=_
    have hx:HT.cj ((a::rs).map PV.str).length ((a::rs).map PV.str).length (some 1)=1:=by
     unfold HT.cj;simp
    rw [hx]
    rfl
   rw [this]
   rfl
 have l2:(ae.map PV.str).length+([z].map PV.str).length<=eH:=zzU (m:=7) (by simp;omega) (by decide)
 have e3:binOp .add (fl ae) (fl [z])=.ok (fl (ae++[z])):=by
  show(if _ then _ else _)=_
  rw [if_pos l2];show _=Res.ok (PV.tup ((ae++[z]).map .str))
  rw [List.map_append]
 refine⟨.val (fl (List.replicate ae.length (z++"0"))),.val (fl (ae++[z])),.own (.lst [.str "no fit",.str "no fit",.str "no fit",.str "no fit"]),?_⟩;have q1:1<eH:=by decide
 have q2:2<eH:=by decide
 have q3:3<eH:=by decide
 dsimp! only [lC,gu,q1,q2,q3,r0,l1,e1,e2,e3,h1,h2,h3,h4,G9,Lw]
def zY(F F1 F3:bz)(hb:F "set_below"=az F1 aF)(hd:F "set_beside"=az F3 aH)(hp:iz F)(ns:List Int)(hf:∃ae w,Fl ae w/\F "_law_floor" [fk ns,.int 0,.int 6]=.ok (fl ae))(ht:∀ae,sj ae->o8 F "_law_told@spot_turned" ae)(hm:∀ae,sj ae->o8 F "_law_told@spot_mirrored" ae)
 (h1:∀ae w,Fl ae w->∀z,ae[0]?=some z->F "_law_told@set_below" [fl (List.replicate ae.length (z++"0")),fl ae]=.ok (.str "no fit")) (h2:∀(ae:List Str) z,F "_law_told@set_beside" [fl ae,fl (ae++[z])]=.ok (.str "no fit"))
 (h3:F "_law_told@set_below@c" []=.ok (.str "no fit")) (h4:F "_law_told@set_beside@c" []=.ok (.str "no fit")):az F j6 [fk ns]=.ok (.bl true):=by
 obtain⟨ae,w,L,ef⟩:=hf
 have hn:=L.ne
 obtain⟨z,hz⟩:∃z,ae[0]?=some z:=⟨ae[0],zzg hn⟩
 have Fv:z∈ae:=zzD hz
 have w4:z.length<=eH:=zzU (L.vJ.2 z Fv) (by decide)
 have K7:=L.Du z Fv
 have r0:bf (fl ae) (.int 0)=.ok (.str z):=gE (j:=0) hz
 obtain⟨B,s5,s6,e1,hS,h0,_⟩:=wB F L (a0:=.val (fk ns)) (a2:=.val (.int (ae.map PV.str).length)) (a3:=.val (.int z.length)) (a7:=.no) (a8:=.no) (a9:=.no) (a10:=.no) (a11:=.no)
 obtain⟨s7,s8,e2⟩:=zo F hp (ns:=ns) (ht ae L.vJ) (hm ae L.vJ) hS h0 (a2:=.val (.int (ae.map PV.str).length)) (a3:=.val (.int z.length)) (a5:=s5) (a6:=s6) (a9:=.no) (a10:=.no) (a11:=.no)
 obtain⟨a9,a10,a11,e3⟩:=Dy F L hz (h1 ae w L z hz) (h2 ae z) h3 h4 (a0:=.val (fk ns)) (a3:=.val (.int z.length)) (a4:=.own (.lst (B.map ju))) (a5:=s5) (a6:=s6) (a7:=s7) (a8:=s8)
 have e4:=EH F F1 F3 hb hd hz w4 L.vJ.1 (a0:=.val (fk ns)) (a2:=.val (.int (ae.map PV.str).length)) (a3:=.val (.int z.length)) (a4:=.own (.lst (B.map ju))) (a5:=s5) (a6:=s6) (a7:=s7) (a8:=s8) (a9:=a9) (a10:=a10) (a11:=a11)
 rw [<-e3] at e4;have hB:(B0 ae.length w).map ju=[sp (ae.map PV.str).length 0,sp 0 z.length,sp (-1) 0,sp 0 (-1),sp 99 99]:=by
  rw [zzl,K7]
  rfl
 rw [hB] at e1;have k4:dO 0 (4:Int).toNat=dO 0 4:=rfl
 have s4:aY 4=true:=by decide
 have eB:aS F lB [.val (fk ns),.val (fl ae),.val (.int (ae.map PV.str).length),.val (.int z.length),.own (.lst (B.map ju)),s5,s6,.no,.no,.no,.no,.no]=.ok (.rt (.bl true)):=by
  unfold lB;rw [aS,eQ,lW,ax,lV];show((if aY 4 then Res.ok (dO 0 (4:Int).toNat) else .bad).bind _).bind _=_
  rw [s4,if_pos rfl,lV,k4,e2,lV,ET,e4]
 rw [yR];show(aS F lA [.val (fk ns),.no,.no,.no,.no,.no,.no,.no,.no,.no,.no,.no]).bind _=_
 have eA:aS F lA [.val (fk ns),.no,.no,.no,.no,.no,.no,.no,.no,.no,.no,.no]=.ok (.rt (.bl true)):=by
  have e1:=e1
  dsimp! only [bB] at e1;dsimp! only [lA,bB,ef,r0,w4,e1,eB]
 rw [eA]
 rfl
def En(ns:List Int)(hl:ns.length<=63):az (den r6) j6 [fk ns]=.ok (.bl true):=by
 have pick:∀F:bz,F "_law_pick"=az (den Cn) bE->iz F:=λF hF ns k q hk hq=>by
  rw [hF];exact xj (den Cn) (λns k hk=>by rw [xX];exact xB _ ns k hk) ns k q hk hq
 have Dt:∀ae,sj ae->∀r c,den Cg "is_open" [fl ae,sp r c]=.ok (.bl (nL ae r c)):=λae R r c=>by
  rw [wu];exact xi _ (λr c=>by rw [yO];exact nK _ (λi=>by rw [C8];exact lE _ i) r c) (λae R r c=>by rw [xS];exact Ef _ ae R r c) ae R r c
 have need:∀F:bz,F "need_open"=az (den Cg) bF->∀ae,sj ae->∀r c,nL ae r c=false->F "need_open" [fl ae,sp r c]=.exc "NoSpot":=λF hF ae R r c h=>by
  rw [hF];exact sX _ Dt ae R r c h
 refine zY (den r6) (den T1) (den T3) zD A7 (pick _ xV) ns (by rw [wt];exact qB _ (pick _ xk) ns 6 (by decide) (by decide)) (λae R r c h=>?_) (λae R r c h=>?_) (λae w L z hz=>?_) (λae z=>?_) ?_ ?_
 ·rw [w5];exact eX (den CK) (g:="spot_turned") (idx:=[0,1,0]) (qs:=[fl ae,sp r c]) rfl rfl (by rw [wx];exact oF _ (need _ wd ae R r c h)) (by rw [BM];exact ij _)
 ·rw [v5];exact eX (den CT) (g:="spot_mirrored") (idx:=[0,1,0]) (qs:=[fl ae,sp r c]) rfl rfl (by rw [vY];exact lq _ (need _ yb ae R r c h)) (by rw [BA];exact ij _)
 ·rw [Bx];have E5:=L.vJ.2 z (zzD hz)
  have z1:(z++"0":Str).length=z.length+1:=by
   show(z.cps++_).size=z.cps.size+1
   rw [Array.size_append]
   rfl
  have hr:(List.replicate ae.length (z++("0":Str)))[0]?=some (z++"0"):=by
   rw [List.getElem?_replicate,if_pos L.ne]
  exact eX (den T2) (g:="set_below") (idx:=[0,1,0]) (qs:=[fl ae,fl (List.replicate ae.length (z++"0"))]) rfl rfl (by rw [Df];exact ra _ hz hr (zzU E5 (by decide)) (zzU (m:=7) (by omega) (by decide)) (by omega)) (by rw [Cy];exact eU _)
 ·rw [AK];exact eX (den T4) (g:="set_beside") (idx:=[0,0,1]) (qs:=[fl ae,fl (ae++[z])]) rfl rfl (by rw [DW];exact nX _ (by rw [zzM,List.length_singleton];omega)) (by rw [Ej];exact eU _)
 ·rw [A1];exact eX (den T5) (g:="set_below") (idx:=[0,17010,16011]) (qs:=[dB 17010,dB 16011]) rfl rfl (by rw [CA];exact w8 _) (by rw [Er];exact eU _)
 ·rw [Bg];exact eX (den T6) (g:="set_beside") (idx:=[0,11070,11061]) (qs:=[dB 11070,dB 11061]) rfl rfl (by rw [Ez];exact uG _) (by rw [CV];exact eU _)
end K06
namespace Hd
open PySem PySem.W L2
noncomputable abbrev fo(n:Str)(st:Stmt)(pm:Value)(c:Addr):Obj:=⟨.type "function",none,.func (fnOf n n (bZ st) (bR st) (aK st) .none .none .none pm none (.ref c) .none),#[]⟩
noncomputable abbrev co(n:Str)(a:Nat)(L A:Int)(r:Nat)(x y:Value)(q z:Nat):Obj:={cls:=.type "code",data:=.fields #[.str n a,.str n (a+1),.str "/claim/cut.py" (a+2),.int L 0,.int A 0,.int 0 0,.int 0 0,.int 3 0,.ref r,.bool Bool.true,.int 181 0,.ref (r+1),.none,x,y,.ref q,.int z 0,.int L 0,.str "/claim/cut.py" (z+1)]}
noncomputable def Hh(s:Stmt):Pos:=match s with
 |.FunctionDef _ _ _ _ _ _ _ _ _ p=>p
 |_=>⟨0,0,0,0⟩
def ent{K:Frag}{ts:List (Addr×Str)}{n:Str}{st:Stmt}(f c:Addr)(pm:Value)(a:nsIn K mainGlobals n=some (some (.ref f)):=by kernel_rfl)(l:K.lookup f=some (fo n st pm c):=by kernel_rfl)(d:codeIn K (.ref c) n=true:=by kernel_rfl)(k:keepIn K (.ref f)=true:=by kernel_rfl):Ci.rH K ts false n st:=Ci.FI a l d k
def GO{K:Frag}{ts:List (Addr×Str)}{n:Str}{st:Stmt}(f c p:Addr)(pm:Value)(ck:Ci.fi K c p)(m:(p,Ci.kK n)∈ts)(u:∀q∈ts,q.1=p->q.2=Ci.kK n)(a:nsIn K mainGlobals n=some (some (.ref f)):=by kernel_rfl)(l:K.lookup f=some (fo n st pm c):=by kernel_rfl)(d:codeIn K (.ref c) n=true:=by kernel_rfl)(k:keepIn K (.ref f)=true:=by kernel_rfl):Ci.rH K ts true n st:=⟨f,_,_,_,_,_,_,_,_,_,a,l,d,k,λ_=>⟨c,p,rfl,ck,m,λq' h=>u _ h rfl⟩⟩
def ac{K:Frag}{ts:List (Addr×Str)}{Γ:Ci.Pg}{r:Ci.Row}{l:Ci.eY}(e:Ci.rH K ts r.hl r.h r.st)(s:Ci.cN (Γ.at l r.hl) r.h r.d r.st)(t:Ci.AllK K ts Γ l)(a:(l.map (·.f)).contains r.f=false:=by decide+kernel)(b:(r.d.lR.isNone==!Ci.eO r.f)=true:=by decide+kernel)(c:r.d.lR.isNone=true->r.f=r.h:=by first|exact λ_=>rfl|exact λz=>absurd z (by decide)):Ci.AllK K ts Γ (r::l):=⟨e,s,⟨a,b,c⟩,t⟩
def tU{K L:Frag}{b:Addr}{o:Obj}(e:K.lookup b=some o):(K++L).lookup b=some o:=by
 rw [List.lookup_append,e]
 rfl
end Hd
namespace K06
open PySem L2 Ci
noncomputable abbrev lw:=PySem.Challenge.rw_cellways_k06_grounds_refused
noncomputable def top(i:Nat):Stmt:=PySem.Challenge.pw_cellways_k06_grounds_refused.main.body.getD i (.Pass ⟨0,0,0,0⟩)
noncomputable abbrev m1:Value:=.str "cellways.floors" 351
noncomputable abbrev m2:Value:=.str "cellways.grounds" 395
noncomputable abbrev m3:Value:=.str "law_cellways_k06_grounds_refused" 427
noncomputable def K(P:Params):zz8:=[(2,{cls:=.none,data:=.dict #[]}),
 (3,{cls:=.type "dict",data:=.dict #[Hd.de P "__name__" 165 (.str "law_cellways_k06_grounds_refused" 427),Hd.de P "__doc__" 166 (.none),Hd.de P "__package__" 167 (.none),Hd.de P "__loader__" 168 (.builtin "__main__.__loader__#opaque"),Hd.de P "__spec__" 169 (.none),Hd.de P "__annotations__" 170 (.ref 6),Hd.de P "__builtins__" 171 (.ref 4),Hd.de P "__file__" 173 (.str "/claim/cut.py" 172),Hd.de P "__cached__" 174 (.none),Hd.de P "FloorError" 206 (.ref 24),Hd.de P "NoSpot" 222 (.ref 37),Hd.de P "NoWay" 238 (.ref 49),Hd.de P "NoSign" 254 (.ref 61),Hd.de P "NoSize" 270 (.ref 73),Hd.de P "NoText" 286 (.ref 85),Hd.de P "NoFloor" 302 (.ref 97),Hd.de P "NoName" 318 (.ref 109),Hd.de P "NoFit" 334 (.ref 121),Hd.de P "NoBack" 350 (.ref 133),Hd.de P "WALL" 354 (.str "#" 353),Hd.de P "LONGEST" 356 (.int 12 355),Hd.de P "is_whole" 363 (.ref 142),Hd.de P "is_spot" 370 (.ref 149),Hd.de P "is_on_floor" 378 (.ref 156),Hd.de P "is_open" 386 (.ref 163),Hd.de P "need_open" 394 (.ref 170),Hd.de P "spot_turned" 404 (.ref 177),Hd.de P "spot_mirrored" 412 (.ref 184),Hd.de P "set_below" 420 (.ref 191),Hd.de P "set_beside" 426 (.ref 196),Hd.de P "_law_cell" 436 (.ref 203),Hd.de P "_law_pick" 446 (.ref 210),Hd.de P "_law_floor" 464 (.ref 217),Hd.de P "_law_class" 473 (.ref 224),Hd.de P "_law_told" 481 (.ref 231),Hd.de P "law" 487 (.ref 236)] 36}),
 (4,{cls:=.type "module",dict:=some builtinsNs,data:=.plain}),
 (23,{cls:=.type "dict",data:=.dict #[Hd.de P "__module__" 196 (.str "cellways.errors" 187),Hd.de P "__firstlineno__" 200 (.int 2 199),Hd.de P "__static_attributes__" 201 (.ref 22),Hd.de P "__weakref__" 203 (.ref 25),Hd.de P "__doc__" 204 (.none)] 3}),
 (24,{cls:=.type "type",data:=.cls {name:="FloorError",bases:=[.type "ValueError"],mro:=[.ref 24,.type "ValueError",.type "Exception",.type "BaseException",.type "object"],ns:=23,qualname:="FloorError",subclasses:=[.ref 37,.ref 49,.ref 61,.ref 73,.ref 85,.ref 97,.ref 109,.ref 121,.ref 133]},slots:=#[some (.ref 15),none,some (.str "FloorError" 189),some (.str "FloorError" 197),some (.builtin "ValueError.__new__"),some (.bool Bool.true)]}),
 (36,{cls:=.type "dict",data:=.dict #[Hd.de P "__module__" 214 (.str "cellways.errors" 187),Hd.de P "__firstlineno__" 218 (.int 4 217),Hd.de P "__static_attributes__" 219 (.ref 35),Hd.de P "__doc__" 220 (.none)] 2}),
 (37,{cls:=.type "type",data:=.cls {name:="NoSpot",bases:=[.ref 24],mro:=[.ref 37,.ref 24,.type "ValueError",.type "Exception",.type "BaseException",.type "object"],ns:=36,qualname:="NoSpot"},slots:=#[some (.ref 28),none,some (.str "NoSpot" 207),some (.str "NoSpot" 215),some (.builtin "ValueError.__new__"),some (.bool Bool.true)]}),
 (48,{cls:=.type "dict",data:=.dict #[Hd.de P "__module__" 230 (.str "cellways.errors" 187),Hd.de P "__firstlineno__" 234 (.int 6 233),Hd.de P "__static_attributes__" 235 (.ref 47),Hd.de P "__doc__" 236 (.none)] 2}),
 (49,{cls:=.type "type",data:=.cls {name:="NoWay",bases:=[.ref 24],mro:=[.ref 49,.ref 24,.type "ValueError",.type "Exception",.type "BaseException",.type "object"],ns:=48,qualname:="NoWay"},slots:=#[some (.ref 40),none,some (.str "NoWay" 223),some (.str "NoWay" 231),some (.builtin "ValueError.__new__"),some (.bool Bool.true)]}),
 (60,{cls:=.type "dict",data:=.dict #[Hd.de P "__module__" 246 (.str "cellways.errors" 187),Hd.de P "__firstlineno__" 250 (.int 8 249),Hd.de P "__static_attributes__" 251 (.ref 59),Hd.de P "__doc__" 252 (.none)] 2}),
 (61,{cls:=.type "type",data:=.cls {name:="NoSign",bases:=[.ref 24],mro:=[.ref 61,.ref 24,.type "ValueError",.type "Exception",.type "BaseException",.type "object"],ns:=60,qualname:="NoSign"},slots:=#[some (.ref 52),none,some (.str "NoSign" 239),some (.str "NoSign" 247),some (.builtin "ValueError.__new__"),some (.bool Bool.true)]}),
 (72,{cls:=.type "dict",data:=.dict #[Hd.de P "__module__" 262 (.str "cellways.errors" 187),Hd.de P "__firstlineno__" 266 (.int 10 265),Hd.de P "__static_attributes__" 267 (.ref 71),Hd.de P "__doc__" 268 (.none)] 2}),
 (73,{cls:=.type "type",data:=.cls {name:="NoSize",bases:=[.ref 24],mro:=[.ref 73,.ref 24,.type "ValueError",.type "Exception",.type "BaseException",.type "object"],ns:=72,qualname:="NoSize"},slots:=#[some (.ref 64),none,some (.str "NoSize" 255),some (.str "NoSize" 263),some (.builtin "ValueError.__new__"),some (.bool Bool.true)]}),
 (84,{cls:=.type "dict",data:=.dict #[Hd.de P "__module__" 278 (.str "cellways.errors" 187),Hd.de P "__firstlineno__" 282 (.int 12 281),Hd.de P "__static_attributes__" 283 (.ref 83),Hd.de P "__doc__" 284 (.none)] 2}),
 (85,{cls:=.type "type",data:=.cls {name:="NoText",bases:=[.ref 24],mro:=[.ref 85,.ref 24,.type "ValueError",.type "Exception",.type "BaseException",.type "object"],ns:=84,qualname:="NoText"},slots:=#[some (.ref 76),none,some (.str "NoText" 271),some (.str "NoText" 279),some (.builtin "ValueError.__new__"),some (.bool Bool.true)]}),
 (96,{cls:=.type "dict",data:=.dict #[Hd.de P "__module__" 294 (.str "cellways.errors" 187),Hd.de P "__firstlineno__" 298 (.int 14 297),Hd.de P "__static_attributes__" 299 (.ref 95),Hd.de P "__doc__" 300 (.none)] 2}),
 (97,{cls:=.type "type",data:=.cls {name:="NoFloor",bases:=[.ref 24],mro:=[.ref 97,.ref 24,.type "ValueError",.type "Exception",.type "BaseException",.type "object"],ns:=96,qualname:="NoFloor"},slots:=#[some (.ref 88),none,some (.str "NoFloor" 287),some (.str "NoFloor" 295),some (.builtin "ValueError.__new__"),some (.bool Bool.true)]}),
 (108,{cls:=.type "dict",data:=.dict #[Hd.de P "__module__" 310 (.str "cellways.errors" 187),Hd.de P "__firstlineno__" 314 (.int 16 313),Hd.de P "__static_attributes__" 315 (.ref 107),Hd.de P "__doc__" 316 (.none)] 2}),
 (109,{cls:=.type "type",data:=.cls {name:="NoName",bases:=[.ref 24],mro:=[.ref 109,.ref 24,.type "ValueError",.type "Exception",.type "BaseException",.type "object"],ns:=108,qualname:="NoName"},slots:=#[some (.ref 100),none,some (.str "NoName" 303),some (.str "NoName" 311),some (.builtin "ValueError.__new__"),some (.bool Bool.true)]}),
 (120,{cls:=.type "dict",data:=.dict #[Hd.de P "__module__" 326 (.str "cellways.errors" 187),Hd.de P "__firstlineno__" 330 (.int 18 329),Hd.de P "__static_attributes__" 331 (.ref 119),Hd.de P "__doc__" 332 (.none)] 2}),
 (121,{cls:=.type "type",data:=.cls {name:="NoFit",bases:=[.ref 24],mro:=[.ref 121,.ref 24,.type "ValueError",.type "Exception",.type "BaseException",.type "object"],ns:=120,qualname:="NoFit"},slots:=#[some (.ref 112),none,some (.str "NoFit" 319),some (.str "NoFit" 327),some (.builtin "ValueError.__new__"),some (.bool Bool.true)]}),
 (132,{cls:=.type "dict",data:=.dict #[Hd.de P "__module__" 342 (.str "cellways.errors" 187),Hd.de P "__firstlineno__" 346 (.int 20 345),Hd.de P "__static_attributes__" 347 (.ref 131),Hd.de P "__doc__" 348 (.none)] 2}),
 (133,{cls:=.type "type",data:=.cls {name:="NoBack",bases:=[.ref 24],mro:=[.ref 133,.ref 24,.type "ValueError",.type "Exception",.type "BaseException",.type "object"],ns:=132,qualname:="NoBack"},slots:=#[some (.ref 124),none,some (.str "NoBack" 335),some (.str "NoBack" 343),some (.builtin "ValueError.__new__"),some (.bool Bool.true)]}),
 (141,Hd.co "is_whole" 357 25 1 136 (.ref 138) (.ref 139) 140 361),
 (142,Hd.fo "is_whole" (top 14) m1 141),
 (148,Hd.co "is_spot" 364 27 1 143 (.ref 145) (.ref 146) 147 368),
 (149,Hd.fo "is_spot" (top 15) m1 148),
 (155,Hd.co "is_on_floor" 371 29 2 150 (.ref 152) (.ref 153) 154 376),
 (156,Hd.fo "is_on_floor" (top 16) m1 155),
 (162,Hd.co "is_open" 379 31 2 157 (.ref 159) (.ref 160) 161 384),
 (163,Hd.fo "is_open" (top 17) m1 162),
 (169,Hd.co "need_open" 387 33 2 164 (.ref 166) (.ref 167) 168 392),
 (170,Hd.fo "need_open" (top 18) m1 169),
 (176,Hd.co "spot_turned" 397 37 2 171 (.ref 173) (.ref 174) 175 402),
 (177,Hd.fo "spot_turned" (top 20) m2 176),
 (183,Hd.co "spot_mirrored" 405 40 2 178 (.ref 180) (.ref 181) 182 410),
 (184,Hd.fo "spot_mirrored" (top 21) m2 183),
 (190,Hd.co "set_below" 413 43 2 185 (.ref 187) (.ref 188) 189 418),
 (191,Hd.fo "set_below" (top 22) m2 190),
 (195,Hd.co "set_beside" 421 49 2 192 .none .none 194 424),
 (196,Hd.fo "set_beside" (top 23) m2 195),
 (202,Hd.co "_law_cell" 429 56 2 197 (.ref 199) (.ref 200) 201 434),
 (203,Hd.fo "_law_cell" (top 25) m3 202),
 (209,Hd.co "_law_pick" 437 62 3 204 (.ref 206) (.ref 207) 208 444),
 (210,Hd.fo "_law_pick" (top 26) m3 209),
 (216,Hd.co "_law_floor" 447 65 3 211 (.ref 213) (.ref 214) 215 462),
 (217,Hd.fo "_law_floor" (top 27) m3 216),
 (223,Hd.co "_law_class" 465 78 1 218 (.ref 220) (.ref 221) 222 471),
 (224,Hd.fo "_law_class" (top 28) m3 223),
 (230,Hd.co "_law_told" 474 86 1 225 (.ref 227) (.ref 228) 229 479),
 (231,Hd.fo "_law_told" (top 29) m3 230),
 (235,Hd.co "law" 482 91 1 232 .none .none 234 485),
 (236,Hd.fo "law" (top 30) m3 235)]
noncomputable def ts:List (Addr×Str):=[(233,kK "law")]
noncomputable def K2(P:Params):zz8:=K P++[(233,PySem.W.tabObj #[])]
noncomputable def as:List Addr:=[2,3,4,23,24,36,37,48,49,60,61,72,73,84,85,96,97,108,109,120,121,132,133,141,142,148,149,155,156,162,163,169,170,176,177,183,184,190,191,195,196,202,203,209,210,216,217,223,224,230,231,235,236,233]
noncomputable def Γ:Pg:=⟨[("WALL",(.str "#")),("LONGEST",(.int 12))],["len","int","str","tuple","isinstance","bool","range","enumerate","zip","ValueError"],["FloorError","NoBack","NoFit","NoFloor","NoName","NoSign","NoSize","NoSpot","NoText","NoWay"],[],["NoFit","NoSpot"],[],false,false,[]⟩
def R0:eY:=[]
def jl:cN (Γ.at R0 false) "_law_class" aM (top 28):=stM λ_ _ _ _ _ _=>Hd.vz λ_=>rfl
noncomputable def R1:eY:=⟨"_law_class","_law_class",aM,top 28,false⟩::R0
def ll:cN (Γ.at R1 false) "set_below" aF (top 22):=stM λ_ _ _ _ _ _=>Hd.yH λ_ _=>rfl
noncomputable def R2:eY:=⟨"set_below","set_below",aF,top 22,false⟩::R1
def dm:cN (Γ.at R2 false) "_law_told" aV (top 29):=stM λ_ _ _ _ _ _=>Hd.vz λ_=>rfl
noncomputable def R3:eY:=⟨"_law_told@set_below","_law_told",aV,top 29,false⟩::R2
def jw:cN (Γ.at R3 false) "set_beside" aH (top 23):=stM λ_ _ _ _ _ _=>Hd.yH λ_ _=>rfl
noncomputable def R4:eY:=⟨"set_beside","set_beside",aH,top 23,false⟩::R3
def dh:cN (Γ.at R4 false) "_law_told" aP (top 29):=stM λ_ _ _ _ _ _=>Hd.vz λ_=>rfl
noncomputable def R5:eY:=⟨"_law_told@set_beside","_law_told",aP,top 29,false⟩::R4
def cB:cN (Γ.at R5 false) "_law_told" aE (top 29):=stM λ_ _ _ _ _ _=>Hd.vz λ_=>rfl
noncomputable def R6:eY:=⟨"_law_told@set_below@c","_law_told",aE,top 29,false⟩::R5
def cf:cN (Γ.at R6 false) "_law_told" aB (top 29):=stM λ_ _ _ _ _ _=>Hd.vz λ_=>rfl
noncomputable def R7:eY:=⟨"_law_told@set_beside@c","_law_told",aB,top 29,false⟩::R6
def mK:cN (Γ.at R7 false) "is_whole" di (top 14):=stM λ_ _ _ _ _ _=>Hd.vz λ_=>rfl
noncomputable def R8:eY:=⟨"is_whole","is_whole",di,top 14,false⟩::R7
def nQ:cN (Γ.at R8 false) "is_spot" c6 (top 15):=stM λ_ _ _ _ _ _=>Hd.vz λ_=>rfl
noncomputable def R9:eY:=⟨"is_spot","is_spot",c6,top 15,false⟩::R8
def i4:cN (Γ.at R9 false) "is_on_floor" bK (top 16):=stM λ_ _ _ _ _ _=>Hd.yH λ_ _=>rfl
noncomputable def Ka:eY:=⟨"is_on_floor","is_on_floor",bK,top 16,false⟩::R9
def oj:cN (Γ.at Ka false) "is_open" c5 (top 17):=stM λ_ _ _ _ _ _=>Hd.yH λ_ _=>rfl
noncomputable def IL:eY:=⟨"is_open","is_open",c5,top 17,false⟩::Ka
def lO:cN (Γ.at IL false) "need_open" bF (top 18):=stM λ_ _ _ _ _ _=>Hd.yH λ_ _=>rfl
noncomputable def JW:eY:=⟨"need_open","need_open",bF,top 18,false⟩::IL
def iJ:cN (Γ.at JW false) "spot_turned" bJ (top 20):=stM λ_ _ _ _ _ _=>Hd.yH λ_ _=>rfl
noncomputable def Jq:eY:=⟨"spot_turned","spot_turned",bJ,top 20,false⟩::JW
def cY:cN (Γ.at Jq false) "_law_told" aN (top 29):=stM λ_ _ _ _ _ _=>Hd.vz λ_=>rfl
noncomputable def JK:eY:=⟨"_law_told@spot_turned","_law_told",aN,top 29,false⟩::Jq
def gy:cN (Γ.at JK false) "spot_mirrored" bt (top 21):=stM λ_ _ _ _ _ _=>Hd.yH λ_ _=>rfl
noncomputable def IG:eY:=⟨"spot_mirrored","spot_mirrored",bt,top 21,false⟩::JK
def cH:cN (Γ.at IG false) "_law_told" aG (top 29):=stM λ_ _ _ _ _ _=>Hd.vz λ_=>rfl
noncomputable def JY:eY:=⟨"_law_told@spot_mirrored","_law_told",aG,top 29,false⟩::IG
def kT:cN (Γ.at JY false) "_law_cell" bV (top 25):=stM λ_ _ _ _ _ _=>Hd.yH λ_ _=>rfl
noncomputable def JG:eY:=⟨"_law_cell","_law_cell",bV,top 25,false⟩::JY
def kJ:cN (Γ.at JG false) "_law_pick" bE (top 26):=stM λ_ _ _ _ _ _=>Hd.JS λ_ _ _=>rfl
noncomputable def JL:eY:=⟨"_law_pick","_law_pick",bE,top 26,false⟩::JG
def jq:cN (Γ.at JL false) "_law_floor" bG (top 27):=stM λ_ _ _ _ _ _=>Hd.JS λ_ _ _=>rfl
noncomputable def E9:eY:=⟨"_law_floor","_law_floor",bG,top 27,false⟩::JL
def Ad:cN (Γ.at E9 true) "law" j6 (top 30):=stM λ_ _ _ _ _ _=>Hd.vz λ_=>rfl
def ux(P:Params):fi (K P) 235 233:=⟨Hd.co "law" 482 91 1 232 .none .none 234 485,_,_,_,_,_,_,_,_,by kernel_rfl,rfl,rfl,rfl,rfl,rfl,rfl,rfl,rfl,by decide⟩
def Ea(ns:List Int)(hl:ns.length<=63):az (den (tab E9)) j6 [.lst (ns.map .int)]=.ok (.bl true):=En ns hl
def Gf(P:Params):AllK (K P) ts Γ E9:=
 Hd.ac (Hd.ent 217 216 m3) jq <| Hd.ac (Hd.ent 210 209 m3) kJ <| Hd.ac (Hd.ent 203 202 m3) kT <| Hd.ac (Hd.ent 231 230 m3) cH <| Hd.ac (Hd.ent 184 183 m2) gy <| Hd.ac (Hd.ent 231 230 m3) cY <| Hd.ac (Hd.ent 177 176 m2) iJ <| Hd.ac (Hd.ent 170 169 m1) lO <| Hd.ac (Hd.ent 163 162 m1) oj <| Hd.ac (Hd.ent 156 155 m1) i4 <| Hd.ac (Hd.ent 149 148 m1) nQ <| Hd.ac (Hd.ent 142 141 m1) mK <| Hd.ac (Hd.ent 231 230 m3) cf <| Hd.ac (Hd.ent 231 230 m3) cB <| Hd.ac (Hd.ent 231 230 m3) dh <| Hd.ac (Hd.ent 196 195 m2) jw <| Hd.ac (Hd.ent 231 230 m3) dm <| Hd.ac (Hd.ent 191 190 m2) ll <| Hd.ac (Hd.ent 224 223 m3) jl trivial
structure A6(K:zz8)(d:Str)(D:Addr):Prop where
 e:PySem.W.nsIn K mainGlobals d=some (some (.ref D))
 xc:jc K D
 vt:PySem.W.kitOne K (.ref D) (.type "ValueError")=some true
 ex:PySem.W.excIn K D tP "ValueError.__new__"=true
def DQ{K:zz8}{d:Str}{D:Addr}(e:PySem.W.nsIn K mainGlobals d=some (some (.ref D)):=by kernel_rfl)(i:PySem.W.isClsIn K D=true:=by kernel_rfl)(v:PySem.W.subIn K (.ref D) (.type "ValueError")=some true:=by kernel_rfl)(ga:PySem.W.findIn K (.ref D) "__getattribute__"=some (some (.builtin "BaseException.__getattribute__")):=by kernel_rfl)(hk:PySem.W.findIn K (.ref D) "__getattr__"=some none:=by kernel_rfl)
 (cl:PySem.W.findIn K (.ref D) "__class__"=some (some (.builtin "object.__class__")):=by kernel_rfl) (mo:PySem.W.mroIn K D (.type "object")=some true:=by kernel_rfl) (mb:PySem.W.mroIn K D (.type "BaseException")=some true:=by kernel_rfl) (ex:PySem.W.excIn K D tP "ValueError.__new__"=true:=by kernel_rfl):A6 K d D:=
 ⟨e,⟨ga,hk,cl,mo,mb,i⟩,sN (by decide+kernel) v,ex⟩
def Hf(P:Params){mg:Str->Option Value}{h:Heap}(X:(K P).In h)(G:h.Ns mainGlobals mg):nF (K P) mg Γ ⟨K P,mg,["NoFit","NoSpot"],ts⟩:=by
 have dW:∀{x:Str} {u:Value},PySem.W.nsIn (K P) mainGlobals x=some (some u)->mg x=some u:=λa=>PySem.W.mg_of X G a
 have vD:∀{x:Str},PySem.W.nsIn (K P) mainGlobals x=some none->mg x=none:=λa=>PySem.W.mg_none_of X G a
 have cX:A6 (K P) "NoFit" 121:=DQ
 have bX:A6 (K P) "NoSpot" 37:=DQ
 have cV:PySem.W.nsIn (K P) mainGlobals "FloorError"=some (some (.ref 24)):=by kernel_rfl
 have hZ:PySem.W.nsIn (K P) mainGlobals "NoBack"=some (some (.ref 133)):=by kernel_rfl
 have gh:PySem.W.nsIn (K P) mainGlobals "NoFloor"=some (some (.ref 97)):=by kernel_rfl
 have iN:PySem.W.nsIn (K P) mainGlobals "NoName"=some (some (.ref 109)):=by kernel_rfl
 have ib:PySem.W.nsIn (K P) mainGlobals "NoSign"=some (some (.ref 61)):=by kernel_rfl
 have iy:PySem.W.nsIn (K P) mainGlobals "NoSize"=some (some (.ref 73)):=by kernel_rfl
 have iP:PySem.W.nsIn (K P) mainGlobals "NoText"=some (some (.ref 85)):=by kernel_rfl
 have lJ:PySem.W.nsIn (K P) mainGlobals "NoWay"=some (some (.ref 49)):=by kernel_rfl
 refine⟨rfl,rfl,λq hq=>?_,λg hg=>?_,by decide+kernel,λc hc=>?_,λd hd D hD=>?_,λc hc=>?_,λc hc=>?_,λ_ c D hc hD T hT=>?_,λ_=>⟨4,⟨.type "module",some builtinsNs,.plain,#[]⟩,dW (by kernel_rfl),by decide,by decide,by kernel_rfl,rfl,rfl,rfl⟩⟩
 ·simp! [Γ,zzm,List.not_mem_nil,or_false] at hq;rcases hq with rfl|rfl
  ·exact⟨.str "#" 353,.str "#",dW (by kernel_rfl),⟨_,rfl⟩,λG=>.s⟩
  ·exact⟨.int 12 355,.int 12,dW (by kernel_rfl),⟨_,rfl⟩,λG=>.i⟩
 ·simp! [Γ,zzm,List.not_mem_nil,or_false] at hg;rcases hg with rfl|rfl|rfl|rfl|rfl|rfl|rfl|rfl|rfl|rfl
  ·exact vD (by kernel_rfl)
  ·exact vD (by kernel_rfl)
  ·exact vD (by kernel_rfl)
  ·exact vD (by kernel_rfl)
  ·exact vD (by kernel_rfl)
  ·exact vD (by kernel_rfl)
  ·exact vD (by kernel_rfl)
  ·exact vD (by kernel_rfl)
  ·exact vD (by kernel_rfl)
  ·exact vD (by kernel_rfl)
 ·simp! [Γ,zzm,List.not_mem_nil,or_false] at hc;rcases hc with rfl|rfl|rfl|rfl|rfl|rfl|rfl|rfl|rfl|rfl
  ·exact⟨_,dW cV⟩
  ·exact⟨_,dW hZ⟩
  ·exact⟨_,dW cX.e⟩
  ·exact⟨_,dW gh⟩
  ·exact⟨_,dW iN⟩
  ·exact⟨_,dW ib⟩
  ·exact⟨_,dW iy⟩
  ·exact⟨_,dW bX.e⟩
  ·exact⟨_,dW iP⟩
  ·exact⟨_,dW lJ⟩
 ·simp! [zzm,List.not_mem_nil,or_false] at hd;rcases hd with rfl|rfl
  ·cases(dW cX.e).symm.trans hD;refine⟨cX.xc,λc hc C hC=>?_,cX.vt⟩
   simp! [Γ,zzm,List.not_mem_nil,or_false] at hc;rcases hc with rfl|rfl|rfl|rfl|rfl|rfl|rfl|rfl|rfl|rfl
   ·cases(dW cV).symm.trans hC;exact aJ (by kernel_rfl) (by kernel_rfl) (by kernel_rfl) (.inl rfl)
   ·cases(dW hZ).symm.trans hC;exact aJ (by kernel_rfl) (by kernel_rfl) (by kernel_rfl) (.inr (by decide))
   ·cases(dW cX.e).symm.trans hC;exact aJ (by kernel_rfl) (by kernel_rfl) (by kernel_rfl) (.inl rfl)
   ·cases(dW gh).symm.trans hC;exact aJ (by kernel_rfl) (by kernel_rfl) (by kernel_rfl) (.inr (by decide))
   ·cases(dW iN).symm.trans hC;exact aJ (by kernel_rfl) (by kernel_rfl) (by kernel_rfl) (.inr (by decide))
   ·cases(dW ib).symm.trans hC;exact aJ (by kernel_rfl) (by kernel_rfl) (by kernel_rfl) (.inr (by decide))
   ·cases(dW iy).symm.trans hC;exact aJ (by kernel_rfl) (by kernel_rfl) (by kernel_rfl) (.inr (by decide))
   ·cases(dW bX.e).symm.trans hC;exact aJ (by kernel_rfl) (by kernel_rfl) (by kernel_rfl) (.inr (by decide))
   ·cases(dW iP).symm.trans hC;exact aJ (by kernel_rfl) (by kernel_rfl) (by kernel_rfl) (.inr (by decide))
   ·cases(dW lJ).symm.trans hC;exact aJ (by kernel_rfl) (by kernel_rfl) (by kernel_rfl) (.inr (by decide))
  ·cases(dW bX.e).symm.trans hD;refine⟨bX.xc,λc hc C hC=>?_,bX.vt⟩
   simp! [Γ,zzm,List.not_mem_nil,or_false] at hc;rcases hc with rfl|rfl|rfl|rfl|rfl|rfl|rfl|rfl|rfl|rfl
   ·cases(dW cV).symm.trans hC;exact aJ (by kernel_rfl) (by kernel_rfl) (by kernel_rfl) (.inl rfl)
   ·cases(dW hZ).symm.trans hC;exact aJ (by kernel_rfl) (by kernel_rfl) (by kernel_rfl) (.inr (by decide))
   ·cases(dW cX.e).symm.trans hC;exact aJ (by kernel_rfl) (by kernel_rfl) (by kernel_rfl) (.inr (by decide))
   ·cases(dW gh).symm.trans hC;exact aJ (by kernel_rfl) (by kernel_rfl) (by kernel_rfl) (.inr (by decide))
   ·cases(dW iN).symm.trans hC;exact aJ (by kernel_rfl) (by kernel_rfl) (by kernel_rfl) (.inr (by decide))
   ·cases(dW ib).symm.trans hC;exact aJ (by kernel_rfl) (by kernel_rfl) (by kernel_rfl) (.inr (by decide))
   ·cases(dW iy).symm.trans hC;exact aJ (by kernel_rfl) (by kernel_rfl) (by kernel_rfl) (.inr (by decide))
   ·cases(dW bX.e).symm.trans hC;exact aJ (by kernel_rfl) (by kernel_rfl) (by kernel_rfl) (.inl rfl)
   ·cases(dW iP).symm.trans hC;exact aJ (by kernel_rfl) (by kernel_rfl) (by kernel_rfl) (.inr (by decide))
   ·cases(dW lJ).symm.trans hC;exact aJ (by kernel_rfl) (by kernel_rfl) (by kernel_rfl) (.inr (by decide))
 ·simp! [Γ,zzn,zzm,List.not_mem_nil,or_false] at hc⊢;exact hc
 ·simp! [Γ,zzn,zzm,List.not_mem_nil,or_false] at hc;rcases hc with rfl|rfl
  ·exact⟨_,dW cX.e,cX.ex⟩
  ·exact⟨_,dW bX.e,bX.ex⟩
 ·simp! [zzm,List.not_mem_nil,or_false] at hc;cases(dW cV).symm.trans hT;rcases hc with rfl|rfl
  ·cases(dW cX.e).symm.trans hD;exact mr (by kernel_rfl) (by kernel_rfl) (by kernel_rfl) (by kernel_rfl)
  ·cases(dW bX.e).symm.trans hD;exact mr (by kernel_rfl) (by kernel_rfl) (by kernel_rfl) (by kernel_rfl)
def hY{P:Params}{h:Heap}(X:(K2 P).In h):(K P).In h/\∀p∈ts.map (·.1),h.get? p=some (PySem.W.tabObj #[]):=⟨λb o e=>X b o (Hd.tU e),λp hp=>by
 simp! [ts,zzF,List.map_nil,zzm,List.not_mem_nil,or_false] at hp;rcases hp with rfl
 ·exact X _ _ (by kernel_rfl)
⟩
def hC(P:Params):∀p∈ts.map (·.1),(∃c,fi (K P) c p)/\(K P).lookup p=none:=λp hp=>by
 simp! [ts,zzF,List.map_nil,zzm,List.not_mem_nil,or_false] at hp;rcases hp with rfl
 ·exact⟨⟨_,ux P⟩,by kernel_rfl⟩
noncomputable def keep:List Nat:=[1,2,3,4,5,6,7,8,9,10,12,13,14,15,16,17,18,20,21,22,23,25,26,27,28,29,30]
def ka:∀P,as=(K2 P).map (·.1):=λ_=>by kernel_rfl
def left:PySem.W.LeftO lw.row.prog (PySem.W.view lw.row.prog keep) [] (λs=>PySem.W.xlAt (PySem.W.view lw.row.prog keep) [] s&&PySem.W.recOk lw.row.toRowW.records s) (PySem.W.kHook K2 as ka).obs (PySem.W.kHook K2 as ka).val 5346:=by
 refine Hd.wc (T₀:=λP=>Hd.treeOf (PySem.W.boot_heap P).objs.toList) (m₀:=11) (life:={}) (ann:=some (.ref 6)) (M:=5296) (by kernel_rfl) (by kernel_rfl) (λs=>by kernel_rfl) Hd.CB Hd.Eh (by kernel_rfl) λw os=>?_
 rw [PySem.W.Fast.te10156331382660048174,PySem.W.Fast.te11892475500146522536,PySem.W.Fast.te14364793385576792824,PySem.W.Fast.te6613529449190102663,PySem.W.Fast.te4187177175401517315,PySem.W.Fast.te5923862056798008813]
 kernel_rfl
end K06
open PySem PySem.W PyProof.Rows
set_option maxRecDepth 100000 in
set_option maxHeartbeats 0 in
theorem PySem.Challenge.cw_cellways_k06_grounds_refused_holds : PySem.Challenge.rw_cellways_k06_grounds_refused.Holds := by
 refine Hd.holds (d:=⟨"law",L2.bZ (K06.top 30),L2.bR (K06.top 30),L2.aK (K06.top 30),Hd.Hh (K06.top 30)⟩) (by kernel_rfl) K06.ka K06.left (by kernel_rfl) (by kernel_rfl) (by kernel_rfl) (by kernel_rfl) ⟨rfl,rfl,rfl,rfl,rfl,by decide+kernel⟩ ?hw ?hc
 case hw=>w_witness2
 case hc=>exact Ci.walk (l:=PySem.Challenge.rw_cellways_k06_grounds_refused) K06.E9 K06.Γ "_law_script" K06.j6 ["NoFit","NoSpot"] K06.ts (K06.top 30) true rfl rfl rfl rfl rfl ⟨λ_=>rfl,by decide,by decide⟩ (λw h Y=>K06.hY (PySem.W.kIn_of Y)) (λw=>K06.hC w.params) (λw mg h KX G=>K06.Hf _ KX G) (λw=>Hd.GO 236 235 233 K06.m3 (K06.ux w.params) (by decide+kernel) (by decide+kernel)) K06.Ad (List.cons_ne_nil _ _) (λw=>K06.Gf _) K06.Ea
#print axioms PySem.Challenge.cw_cellways_k06_grounds_refused_holds
