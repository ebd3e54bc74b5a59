import PyProof.Rows.All
import Wide.All
import OpenK.AllK
import Wide.FinOn
import Lean
import PyProof.EqAt
import PyProof.EqKinds
import PyProof.TupleCall
import PySem.Challenge.RW_cellways_k81_whole_by_gates
set_option Elab.async false
set_option linter.all false
set_option genSizeOf false
set_option genSizeOfSpec false
set_option bootstrap.genMatcherCode false
set_option compiler.extract_closed false
set_option compiler.reuse false
set_option maxRecDepth 100000
abbrev zz8:=PySem.W.Frag
local macro_rules | `(zz9 $x) => `(($x).heap.objs.size)
local macro_rules | `(tactic| simp! [$x,*] $[$l:location]?) => `(tactic| simp only [$x,*] $[$l]?)
theorem zzf:¬false=true:=Bool.false_ne_true
theorem zza(a b:Bool):((a&&b)=true)=(a=true/\b=true):=Bool.and_eq_true a b
theorem zzg.{u}{α:Type u}{l:List α}{i:Nat}(h:i<l.length):l[i]?=some l[i]:=List.getElem?_eq_getElem h
theorem zzl.{u,v}{α:Type u}{β:Type v}{l:List α}(f:α->β):(l.map f).length=l.length:=List.length_map f
def zzA:=@PySem.wpAny_bind
def zzB:=@PySem.Heap.get?_push_of_some
def zzC:=@List.size_toArray
def zzD:=@List.mem_of_getElem?
def zzE:=@Nat.le_refl
def zzF:=@List.map_cons
def zzG:=@PySem.wpAny_pure
def zzH:=@List.getElem?_eq_some_iff
def zzI:=@List.mem_cons_of_mem
def zzJ:=@Option.map_eq_some_iff
def zzK:=@List.getD_eq_getElem?_getD
def zzL:=@List.length_cons
def zzM:=@List.length_append
def zzN:=@decide_eq_true_eq
def zzO:=@PySem.Heap.lt_size
def zzP:=@List.mem_cons_self
def zzQ:=@List.getElem?_map
def zzR:=@List.mem_append_right
def zzS:=@List.getElem?_set_ne
def zzT:=@List.all_eq_true
def zzU:=@Nat.le_trans
def zzV:=@Nat.lt_of_le_of_lt
def zzW:=@Nat.lt_of_lt_of_le
def zzX:=@PySem.Heap.get?_push_size
def zzY:=@of_decide_eq_true
def zzZ:=@Option.bind_eq_some_iff
def zzb:=@Nat.ne_of_lt
def zzc:=@List.mem_append_left
def zzd:=@Array.length_toList
def zze:=@Bool.false_eq_true
def zzh:=@decide_eq_true
def zzi:=@List.mem_singleton
def zzj:=@List.any_eq_true
def zzk:=@False.elim
def zzm:=@List.mem_cons
def zzn:=@List.contains_iff_mem
def zzo:=@List.getElem?_set_self
def zzp:=@Option.isSome_iff_exists
def zzq:=@Option.some.inj
def zzr:=@List.getElem?_append_left
def zzs:=@List.getElem?_append_right
def zzt:=@Bool.or_eq_true
def zzu:=@PySem.Heap.SameBut.update
def zzw:=@Int.eq_ofNat_of_zero_le
def zzx:=@List.mem_map
def zzy:=@beq_iff_eq
def zz0:=@decide_eq_false
def zz1:=@List.mem_filterMap
def zz2:=@Array.getElem?_eq_getElem
def zz3:=@List.filter_cons
def zz4:=@Int.toNat_natCast
def zz5:=@List.lookup_cons
def zz6:=@List.append_nil
def zz7:=@PySem.Around.under_plainId
namespace L2
open PySem PySem.Spec PyProof.Rows
abbrev Key:=Sum Int Str
def nW:Key->Value->Bool
 |.inl k,v=>Value.isInt k v
 |.inr x,v=>Value.isStrOf x v
def NP(w:World):Key->Int
 |.inl k=>hashInt k
 |.inr x=>hashStr w x
theorem bO:∀{k:Key} {v:Value},nW k v=true->(∃i t,k=Sum.inl i/\v=Value.int i t)\/(∃x t,k=Sum.inr x/\v=Value.str x t)
 |.inl i,v,h=>by
  obtain⟨t,e⟩:=Value.isInt_shape (k:=i) (v:=v) h
  exact .inl ⟨i,t,rfl,e⟩
 |.inr x,v,h=>by
  obtain⟨t,e⟩:=Value.isStrOf_shape (x:=x) (v:=v) h
  exact .inr ⟨x,t,rfl,e⟩
def xy(i:Int)(t:Tok):nW (.inl i) (.int i t)=true:=by simp [nW,Value.isInt]
def wN(x:Str)(t:Tok):nW (.inr x) (.str x t)=true:=by simp [nW,Value.isStrOf]
def ID(a b:Int):decide ((Sum.inl a:Key)=Sum.inl b)=(a==b):=by
 by_cases e:a=b
 ·subst e;simp
 ·have h:¬(Sum.inl a:Key)=Sum.inl b:=λq=>e (Sum.inl.inj q)
  rw [zz0 h];exact(beq_eq_false_iff_ne.mpr e).symm
def Hz(a b:Str):decide ((Sum.inr a:Key)=Sum.inr b)=decide (a=b):=by
 by_cases e:a=b
 ·subst e;simp
 ·have h:¬(Sum.inr a:Key)=Sum.inr b:=λq=>e (Sum.inr.inj q)
  rw [zz0 h,zz0 e]
def HU(a:Int)(b:Str):decide ((Sum.inl a:Key)=Sum.inr b)=false:=zz0 (λq=>nomatch q)
def Je(a:Str)(b:Int):decide ((Sum.inr a:Key)=Sum.inl b)=false:=zz0 (λq=>nomatch q)
noncomputable def bE(prog:Program)(w:World):PySem.KeyKind prog w Key where
 is:=nW
 hash:=NP w
 inj:=λv a b ha hb=>by
  rcases bO ha with⟨i,t,rfl,rfl⟩|⟨x,t,rfl,rfl⟩
  ·rcases bO hb with⟨j,u,rfl,e⟩|⟨y,u,rfl,e⟩
   ·injection e with e1 _;rw [e1]
   ·exact nomatch e
  ·rcases bO hb with⟨j,u,rfl,e⟩|⟨y,u,rfl,e⟩
   ·exact nomatch e
   ·injection e with e1 _;rw [e1]
 byValue:=λk v h=>by
  rcases bO h with⟨i,t,rfl,rfl⟩|⟨x,t,rfl,rfl⟩<;>rfl
 pyHash:=λhv h=>by
  rcases bO hv with⟨i,t,rfl,rfl⟩|⟨x,t,rfl,rfl⟩
  ·exact wpAny_pyHash_int h
  ·exact wpAny_pyHash_str h
 eqBool:=λhu hv h=>by
  rcases bO hu with⟨i,t,rfl,rfl⟩|⟨x,t,rfl,rfl⟩
  ·rcases bO hv with⟨j,u,rfl,rfl⟩|⟨y,u,rfl,rfl⟩
   ·rw [ID] at h;exact wpAny_eqBool_int h
   ·rw [HU] at h;exact SeqAt.EqAt.int_str i t y u _ _ _ _ h
  ·rcases bO hv with⟨j,u,rfl,rfl⟩|⟨y,u,rfl,rfl⟩
   ·rw [Je] at h;exact SeqAt.EqAt.str_int x t j u _ _ _ _ h
   ·rw [Hz] at h;exact wpAny_eqBool_str h
 «strs»:=λk x t v h=>by
  rcases bO h with⟨i,u,rfl,e⟩|⟨y,u,rfl,e⟩
  ·exact nomatch e
  ·injection e with e1 _
   subst e1;cases v<;>rfl
def qm(prog:Program)(w:World)(i:Int)(t:Tok):(bE prog w).is (.inl i) (.int i t)=true:=xy i t
def qQ(prog:Program)(w:World)(x:Str)(t:Tok):(bE prog w).is (.inr x) (.str x t)=true:=wN x t
inductive V where
 |aC|bl (b:Bool)|int (i:Int)|str (x:Str)|Oq (b:Array UInt8)|Oc (b:UInt64)|ref (a:Addr)|ty (n:String)
 deriving DecidableEq
def RelV:V->Value->Prop
 |.aC,u=>u=Value.none
 |.bl b,u=>u=Value.bool b
 |.int i,u=>∃t,u=Value.int i t
 |.str x,u=>∃t,u=Value.str x t
 |.Oq b,u=>∃t,u=Value.bytes b t
 |.Oc b,u=>∃t,u=Value.float b t
 |.ref a,u=>u=Value.ref a
 |.ty n,u=>u=Value.type n
abbrev Vals:List V->List Value->Prop:=Paired RelV
def Vals.length{xs:List V}{us:List Value}(r:Vals xs us):xs.length=us.length:=Paired.length r
theorem Vals.get:∀{xs:List V} {us:List Value} {i:Nat} {x:V},Vals xs us->xs[i]?=some x->∃u,us[i]?=some u/\RelV x u
 |_,_,_,_,.nil,e=>by simp at e
 |_,_,0,_,.cons r _,e=>by simp at e;subst e;exact⟨_,rfl,r⟩
 |_,_,i+1,x,.cons _ t,e=>by
  obtain⟨u,h1,h2⟩:=Vals.get (i:=i) (x:=x) t (by simpa using e)
  exact⟨u,by simpa using h1,h2⟩
theorem Vals.append:∀{xs ys:List V} {us ws:List Value},Vals xs us->Vals ys ws->Vals (xs++ys) (us++ws)
 |_,_,_,_,.nil,s=>s
 |_,_,_,_,.cons r t,s=>.cons r (Vals.append t s)
theorem Vals.take:∀{xs:List V} {us:List Value} (n:Nat),Vals xs us->Vals (xs.take n) (us.take n)
 |_,_,0,_=>.nil
 |_,_,_+1,.nil=>.nil
 |_,_,n+1,.cons r t=>.cons r (Vals.take n t)
theorem Vals.drop:∀{xs:List V} {us:List Value} (n:Nat),Vals xs us->Vals (xs.drop n) (us.drop n)
 |_,_,0,r=>r
 |_,_,_+1,.nil=>.nil
 |_,_,n+1,.cons _ t=>Vals.drop n t
def iI:Option V->Option Value->Prop
 |some v,some u=>RelV v u
 |none,none=>True
 |_,_=>False
def KV{κ:Type}:List (κ×V)->List (κ×Value)->Prop:=Paired λ(p:κ×V) (q:κ×Value)=>p.1=q.1/\RelV p.2 q.2
def kV:Key->V
 |.inl i=>.int i
 |.inr x=>.str x
inductive HO where
 |lst (xs:List V)
 |tup (xs:List V)
 |dK (aw:List (Key×V))|dT (aw:List (List Key×V))
 |set (S:Int->Bool) (n:Nat)
 |ins (C dx:Addr) (fs:List (Str×V))
 |own (x:Addr)
 |xd (fs:List (Str×V))
 |met (f x:Addr)
 |qR (lo hi:Int)
 |bp (o:Obj) (u:HO)
 |fY (ps:Array Value)
 |ext (φ:Heap->Prop)
abbrev Hp:=Addr->Option HO
def upd(H:Hp)(a:Addr)(o:HO):Hp:=λb=>if b=a then some o else H b
def aq{H:Hp}{a:Addr}{o:HO}:upd H a o a=some o:=by unfold upd;rw [if_pos rfl]
def ag{H:Hp}{a b:Addr}{o:HO}(h:b≠a):upd H a o b=H b:=by unfold upd;rw [if_neg h]
def fy{H:Hp}{a b:Addr}{o u:HO}(h:H a=some o)(h':H b=some u)(d:o≠u):a≠b:=by
 intro e;subst e;rw [h] at h';exact d (zzq h')
def dz{H:Hp}{a b:Addr}{o:HO}(h:H a=some o)(h':H b=none):a≠b:=by
 intro e;subst e;rw [h] at h';cases h'
section
variable(P:Program)(w:World)
def bJ(H:Hp)(h:Heap)(a:Addr):HO->Prop
 |.lst xs=>xs.length<=sizeLine/\∃(ax:List Value) (n:Nat),Vals xs ax/\h.get? a=some {cls:=.type "list",data:=.seq ax.toArray n}
 |.tup xs=>xs.length<=sizeLine/\∃ax:List Value,Vals xs ax/\IsTup h a ax.toArray
 |.dK aw=>aw.length<=sizeLine/\(a==sysModules)=false/\∃vs,KV aw vs/\h.DictOf (bE P w) a vs
 |.dT aw=>aw.length<=sizeLine/\(a==sysModules)=false/\∃xs:List (List Key×Addr×Value),
  Paired (λ(p:List Key×V) (q:List Key×Addr×Value)=>p.1=q.1/\H q.2.1=some (.tup (p.1.map kV))/\RelV p.2 q.2.2) aw xs/\
  ∃o es ep,h.get? a=some o/\o.ExactDict/\o.data=.dict es ep/\es.toList=xs.map (entryOfKey (tupleKind (bE P w)))/\(xs.map (·.1)).Nodup
 |.set S n=>h.SetOf (intKind P w) a S n
 |.ins C dx fs=>H dx=some (.own a)/\fs.length<=1000/\dx≠a/\h.get? a=some (PySem.W.instObj C dx)/\
  ∃mA,h.Ns1 dx mA/\(∀f,iI (fs.lookup f) (mA f))/\PySem.Within mA (fs.map (·.1))
 |.own _=>∃o,h.get? a=some o
 |.xd fs=>∃mA,h.Ns1 a mA/\∀f,iI (fs.lookup f) (mA f)
 |.qR lo hi=>∃t u v,h.get? a=some {cls:=.type "range",data:=.fields #[.int lo t,.int hi u,.int 1 v]}
 |.bp o u=>h.get? a=some o/\bJ H h a u
 |.fY ps=>h.get? a=some {cls:=.none,data:=.fields ps}
 |.met f x=>h.get? a=some (PySem.W.methodObj (.ref f) (.ref x))
 |.ext φ=>φ h/\(∃o,h.get? a=some o)/\∀h1 h2:Heap,φ h1->(∀o,h1.get? a=some o->h2.get? a=some o)->φ h2
def eA(H:Hp)(h:Heap):Prop:=∀a o,H a=some o->bJ P w H h a o
end
section
variable{P:Program}{w:World}{H H':Hp}{h h':Heap}{a:Addr}{o:HO}
def bJ.lt(x:bJ P w H h a o):a<h.objs.size:=by
 cases o with
 |lst xs=>obtain⟨_,_,_,_,e⟩:=x;exact zzO e
 |tup xs=>obtain⟨_,_,_,p⟩:=x;exact p.lt
 |dK aw=>obtain⟨_,_,_,_,o,_,_,e,_⟩:=x;exact zzO e
 |dT aw=>obtain⟨_,_,_,_,o,_,_,e,_⟩:=x;exact zzO e
 |set S n=>obtain⟨o,_,_,_,e,_⟩:=x;exact zzO e
 |ins C dx fs=>obtain⟨_,_,_,e,_⟩:=x;exact zzO e
 |own y=>obtain⟨_,e⟩:=x;exact zzO e
 |xd fs=>obtain⟨_,⟨_,_,_,e,_⟩,_⟩:=x;exact zzO e
 |qR lo hi=>obtain⟨_,_,_,e⟩:=x;exact zzO e
 |bp ob u=>obtain⟨e,_⟩:=x;exact zzO e
 |fY ps=>exact zzO (show h.get? a=some _ from x)
 |met f y=>exact zzO (show h.get? a=some _ from x)
 |ext φ=>obtain⟨_,⟨_,e⟩,_⟩:=x;exact zzO e
theorem Paired.zt{α β:Type}{F G:α->β->Prop}:∀{l₁:List α} {l₂:List β},Paired F l₁ l₂->(∀a b,F a b->G a b)->Paired G l₁ l₂
 |_,_,.nil,_=>.nil
 |_,_,.cons r t,f=>.cons (f _ _ r) (Paired.zt t f)
def bJ.eP(x:bJ P w H h a o)(k:∀b u,(b=a\/H b=some (.own a))->h.get? b=some u->h'.get? b=some u)
 (ho:∀b,H b=some (.own a)->H' b=some (.own a)) (ht:∀b xs,H b=some (.tup xs)->H' b=some (.tup xs)):bJ P w H' h' a o:=by
 induction o with
 |lst xs=>obtain⟨z,ax,n,r,e⟩:=x;exact⟨z,ax,n,r,k _ _ (.inl rfl) e⟩
 |tup xs=>obtain⟨z,ax,r,ob,e,c⟩:=x;exact⟨z,ax,r,ob,k _ _ (.inl rfl) e,c⟩
 |dK aw=>obtain⟨z,y,vs,r,ob,es,ep,e,c⟩:=x;exact⟨z,y,vs,r,ob,es,ep,k _ _ (.inl rfl) e,c⟩
 |dT aw=>
  obtain⟨z,y,xs,r,ob,es,ep,e,c⟩:=x
  exact⟨z,y,xs,Paired.zt r λp q z=>⟨z.1,ht _ _ z.2.1,z.2.2⟩,ob,es,ep,k _ _ (.inl rfl) e,c⟩
 |set S n=>obtain⟨ob,es,ep,t,e,c⟩:=x;exact⟨ob,es,ep,t,k _ _ (.inl rfl) e,c⟩
 |ins C dx fs=>
  obtain⟨d,z,ne,e,mA,⟨od,es,ep,e2,c⟩,r⟩:=x
  exact⟨ho _ d,z,ne,k _ _ (.inl rfl) e,mA,⟨od,es,ep,k _ _ (.inr d) e2,c⟩,r⟩
 |own y=>obtain⟨ob,e⟩:=x;exact⟨ob,k _ _ (.inl rfl) e⟩
 |xd fs=>obtain⟨mA,⟨od,es,ep,e,c⟩,r⟩:=x;exact⟨mA,⟨od,es,ep,k _ _ (.inl rfl) e,c⟩,r⟩
 |qR lo hi=>obtain⟨t,u,v,e⟩:=x;exact⟨t,u,v,k _ _ (.inl rfl) e⟩
 |bp ob u ih=>obtain⟨e,q⟩:=x;exact⟨k _ _ (.inl rfl) e,ih q⟩
 |fY ps=>
  have e:h.get? a=some {cls:=.none,data:=.fields ps}:=x
  show h'.get? a=some {cls:=.none,data:=.fields ps}
  exact k a _ (.inl rfl) e
 |met f y=>
  have e:h.get? a=some (PySem.W.methodObj (.ref f) (.ref y)):=x
  show h'.get? a=some (PySem.W.methodObj (.ref f) (.ref y))
  exact k a _ (.inl rfl) e
 |ext φ=>obtain⟨p,⟨o,e⟩,st⟩:=x;exact⟨st _ _ p λo q=>k _ _ (.inl rfl) q,⟨o,k _ _ (.inl rfl) e⟩,st⟩
def eA.lt(x:eA P w H h)(e:H a=some o):a<h.objs.size:=(x a o e).lt
def eA.fresh(x:eA P w H h)(e:h.objs.size<=a):H a=none:=by
 cases q:H a with
 |none=>rfl
 |some u=>exact absurd (zzW (x.lt q) e) (Nat.lt_irrefl _)
def eA.kept(x:eA P w H h)(k:∀b u,h.get? b=some u->h'.get? b=some u):eA P w H h':=λa o e=>
 (x a o e).eP (λb u _ q=>k b u q) (λ_ q=>q) λ_ _ q=>q
theorem eA.laid(x:eA P w H h)(k:∀b u,h.get? b=some u->h'.get? b=some u)(hp:h.objs.size<=a)(new:bJ P w (upd H a o) h' a o):eA P w (upd H a o) h':=λb u e=>by
 have hn:=x.fresh hp
 by_cases hb:b=a
 ·subst hb;rw [aq] at e;cases e;exact new
 ·rw [ag hb] at e;exact(x b u e).eP (λc v _ q=>k c v q) (λc q=>by rw [ag (dz q hn)];exact q) λc xs q=>by rw [ag (dz q hn)];exact q
end
def Rd(H:Hp)(a:Addr)(u:HO):Prop:=H a=some u\/∃o,H a=some (.bp o u)
def Rd.ok{P:Program}{w:World}{H:Hp}{h:Heap}{a:Addr}{u:HO}(r:Rd H a u)(x:eA P w H h):bJ P w H h a u:=by
 rcases r with r|⟨o,r⟩
 ·exact x a u r
 ·obtain⟨_,q⟩:=x a _ r
  exact q
def Kd:Option HO->Prop
 |some (.lst _)=>True
 |some (.dK _)=>True
 |some (.dT _)=>True
 |some (.set _ _)=>True
 |some (.ins _ _ _)=>True
 |some (.ext _)=>True
 |_=>False
section
variable{P:Program}{w:World}{H:Hp}{h h':Heap}{x e:Addr}{o':HO}
def eA.write(ok:eA P w H h)(mu:Kd (H x))(he:e=x\/H e=some (.own x))(k:∀b u,b≠e->h.get? b=some u->h'.get? b=some u)(JL:∃u,h'.get? e=some u)
 (new:bJ P w (upd H x o') h' x o'):eA P w (upd H x o') h':=λb u q=>by
 have Mr:∀c y,H c=some (.own y)->c≠x:=λc y r z=>by subst z;rw [r] at mu;exact mu
 have Ot:∀c xs,H c=some (.tup xs)->c≠x:=λc xs r z=>by subst z;rw [r] at mu;exact mu
 by_cases hb:b=x
 ·subst hb;rw [aq] at q;cases q;exact new
 ·rw [ag hb] at q
  by_cases hbe:b=e
  ·have q':H b=some (.own x):=by
    rcases he with z|z
    ·exact absurd (hbe.trans z) hb
    ·rw [hbe];exact z
   rw [q] at q';cases q';obtain⟨v,hv⟩:=JL
   exact⟨v,by rw [hbe];exact hv⟩
  ·refine(ok b u q).eP (λc v hc r=>k c v ?_ r) (λc r=>by rw [ag (Mr c b r)];exact r) λc xs r=>by rw [ag (Ot c xs r)];exact r
   rcases hc with rfl|hc
   ·exact hbe
   ·rintro rfl
    rcases he with z|z
    ·exact Mr c b hc z
    ·rw [hc] at z;cases z;exact hb rfl
end
structure Un(fs ex:List Addr)(H H':Hp)(h h':Heap):Prop where
 keep:∀b o,h.get? b=some o->H b=none->b∉fs->b∉ex->h'.get? b=some o
 slot:∀b o,h.get? b=some o->H b=none->b∈fs->b∉ex->∃sl,h'.get? b=some {o with slots:=sl}
 free:∀b o,h.get? b=some o->H b=none->b∉ex->H' b=none
 there:∀b o,h.get? b=some o->b∉ex->∃o',h'.get? b=some o'
 g7:∀b xs,H b=some (.tup xs)->H' b=some (.tup xs)
 fI:∀b o u,H b=some (.bp o u)->H' b=some (.bp o u)
 gr:∀b ps,H b=some (.fY ps)->∃more,H' b=some (.fY (ps++more))
section
variable{fs ex:List Addr}{H H1:Hp}{h h1 h':Heap}{a x e:Addr}{o:HO}
def Un.any(u:Un fs ex H H1 h h1){b:Addr}{ob:Obj}(q:h.get? b=some ob)(n:H b=none)(hx:b∉ex):∃sl,h1.get? b=some {ob with slots:=sl}:=by
 by_cases hb:b∈fs
 ·exact u.slot b ob q n hb hx
 ·exact⟨ob.slots,u.keep b ob q n hb hx⟩
def Un.kept(k:∀b u,h.get? b=some u->h'.get? b=some u):Un fs ex H H h h':=
 ⟨λb ob q _ _ _=>k b ob q,λb ob q _ _ _=>⟨ob.slots,k b ob q⟩,λ_ _ _ n _=>n,λb ob q _=>⟨ob,k b ob q⟩,λ_ _ q=>q,λ_ _ _ q=>q,λ_ ps q=>⟨#[],by rw [q];simp⟩⟩
def Un.refl:Un fs ex H H h h:=Un.kept λ_ _ q=>q
theorem Un.laid(k:∀b u,h.get? b=some u->h'.get? b=some u)(hp:h.objs.size<=a)(hn:H a=none):Un fs ex H (upd H a o) h h' where
 keep:=λb u q _ _ _=>k b u q
 slot:=λb u q _ _ _=>⟨u.slots,k b u q⟩
 free:=λb u q n _=>by rw [ag (zzb (zzW (zzO q) hp))];exact n
 there:=λb u q _=>⟨u,k b u q⟩
 g7:=λb xs q=>by rw [ag (dz q hn)];exact q
 fI:=λb u xs q=>by rw [ag (dz q hn)];exact q
 gr:=λb ps q=>⟨#[],by rw [ag (dz q hn),q];simp⟩
def Un.write(mu:Kd (H x))(he:e=x\/H e=some (.own x))(k:∀b u,b≠e->h.get? b=some u->h'.get? b=some u)(JL:∃u,h'.get? e=some u):Un fs ex H (upd H x o) h h':=by
 have hx:∀b,H b=none->b≠x:=λb n z=>by subst z;rw [n] at mu;exact mu
 have hb:∀b,H b=none->b≠e:=λb n z=>by
  subst z;rcases he with r|r
  ·exact hx b n r
  ·rw [n] at r;cases r
 have hm:∀b u,H b=some u->¬Kd (some u)->b≠x:=λb u q nm z=>by subst z;rw [q] at mu;exact nm mu
 refine⟨λb u q n _ _=>k b u (hb b n) q,λb u q n _ _=>⟨u.slots,k b u (hb b n) q⟩,λb u q n _=>by rw [ag (hx b n)];exact n,λb u q _=>?_,
  λb xs q=>by rw [ag (hm b _ q λz=>z)];exact q,λb u xs q=>by rw [ag (hm b _ q λz=>z)];exact q,λb ps q=>⟨#[],by rw [ag (hm b _ q λz=>z),q];simp⟩⟩
 by_cases hbe:b=e
 ·subst hbe;exact JL
 ·exact⟨u,k b u hbe q⟩
end
def Nk(h:Heap)(H:Hp):List Addr:=(List.range h.objs.size).filter λa=>(H a).isSome
def oH(h:Heap)(H:Hp):Heap:=PySem.W.hideAll h (Nk h H)
def wU(h:Heap)(H:Hp):(oH h H).objs.size=h.objs.size:=PySem.W.hideAll_size _ _
theorem AU{h:Heap}{H:Hp}{b:Addr}{o:Obj}(e:h.get? b=some o)(n:H b=none):(oH h H).get? b=some o:=
 PySem.W.hideAll_get _ e λhm=>by
  have q:(H b).isSome=true:=(List.mem_filter.mp hm).2
  rw [n] at q;simp at q
def C5{h:Heap}{H:Hp}{b:Addr}{o:Obj}(e:(oH h H).get? b=some o):h.get? b=some o/\H b=none:=by
 have e':h.get? b=some o:=PySem.W.of_hideAll (Nk h H) e
 refine⟨e',?_⟩;cases q:H b with
 |none=>rfl
 |some x=>
  have hm:b∈Nk h H:=List.mem_filter.mpr ⟨List.mem_range.mpr (zzO e'),by simp [q]⟩
  have z:(oH h H).get? b=none:=PySem.W.hideAll_none (Nk h H) hm
  rw [z] at e;cases e
def Cu(g h:Heap)(L:Addr):List (Addr×Obj):=(List.range h.objs.size).filterMap λa=>if a=L\/(g.get? a).isSome=true then none else(h.get? a).map λo=>(a,o)
def rest(g h:Heap)(L d:Addr):List (Addr×Obj):=(Cu g h L).filter λp=>decide (p.1≠d)
structure Mod(K:zz8)(mg:Str->Option Value)(base:Heap):Prop where
 Kp:K.In base
 glob:base.Ns mainGlobals mg
 blt:∃mb,base.Ns builtinsNs mb/\∀x:Str,x≠"__name__"->mb x=bootBuiltins x
 nolimit:base.NoLimit
structure Cx where
 prog:Program
 w:World
 K:zz8
 mg:Str->Option Value
 base:Heap
 A:Around
 N:List Str
 s₀:Shared
 H₀:Hp
 env:Env
 outer:List Env
 stack:List Env
 ex:List Addr
 fn:Str->Bool
 calm:Bool
 pn:List (Addr×Obj)
 xe:Value->Shared->Prop
def eO(l:List Env):List Addr:=l.filterMap (·.frame)
abbrev Cx.fs(X:Cx):List Addr:=eO X.outer
def La(sc:Scope)(x:Str):Prop:=sc.names.lookup x=some .local\/sc.names.lookup x=some .cell\/sc.names.lookup x=some .free
def Loc(sc:Scope)(x:Str):Prop:=sc.names.lookup x=some .local\/sc.names.lookup x=some .cell
def Look(env:Env)(h:Heap)(m:Str->Option Value)(x:Str)(u:Value):Prop:=
 (env.kindOf x=some .local/\m x=some u)\/((env.kindOf x=some .cell\/env.kindOf x=some .free)/\∃c,env.cells.lookup x=some c/\h.IsCell c (some u))
structure Cx.Ok(X:Cx):Prop where
 mod:Mod X.K X.mg X.base
 kind:X.env.scope.kind=.function
 glob:X.env.globals=mainGlobals
 blt:X.env.builtins=builtinsNs
 above:X.s₀.heap.objs.size<=X.env.locals
 inj:∀x y c,X.env.cells.lookup x=some c->X.env.cells.lookup y=some c->x=y
 has:∀x,(X.env.kindOf x=some .cell\/X.env.kindOf x=some .free)->∃c,X.env.cells.lookup x=some c
 JM:∀x c,X.fn x=true->X.env.cells.lookup x=some c->X.s₀.heap.objs.size<=c
 hd:X.calm=true->X.A.handled=none
 frames:X.A.frames=some X.stack
 Lc:X.stack=X.outer\/(X.stack=X.env::X.outer/\X.env.frame=some X.env.locals)
 exf:∀b∈X.ex,b≠X.env.locals/\∀x c,X.env.cells.lookup x=some c->c≠b
 bs:∀b o,X.base.get? b=some o->X.s₀.heap.get? b=some o/\X.H₀ b=none
 wI:X.base.objs.size<=X.s₀.heap.objs.size
 BZ:∀b o,X.base.get? b=some o->b∉X.ex
 HM:∀b∈X.ex,b∉X.fs
 gk:X.s₀.heap.FunFrames X.base X.outer
 xH:∀b∈X.fs,X.H₀ b=none
structure Inv(X:Cx)(ae:List (Addr×Obj))(σ:List (Option V))(H:Hp)(s:Shared):Prop where
 ok:X.Ok
 os:s.os=X.s₀.os
 bare:AllBare s.gens
 base:Un X.fs X.ex X.H₀ H X.s₀.heap s.heap
 loc:∃m,s.heap.Ns X.env.locals m/\∀(i:Nat) (x:Str) (v:V),X.N[i]?=some x->σ[i]?=some (some v)->La X.env.scope x->∃u,RelV v u/\Look X.env s.heap m x u
 cell:∀x c,X.env.cells.lookup x=some c->∃v,s.heap.IsCell c v
 free:H X.env.locals=none
 ib:∀x c,X.env.cells.lookup x=some c->H c=none
 pin:∀p∈X.pn++ae,s.heap.get? p.1=some p.2/\H p.1=none/\p.1≠X.env.locals/\p.1∉X.fs/\∀v,p.2.data≠.cell v
 aL:eA X.prog X.w H s.heap
 len:σ.length=X.N.length
section
variable{X:Cx}{ae:List (Addr×Obj)}{σ:List (Option V)}{H H':Hp}{s:Shared}{h':Heap}
theorem Cx.Ok.Pt(ok:X.Ok){b:Addr}{o:Obj}(e:X.base.get? b=some o):b∉X.fs:=λhb=>by
 have:=(ok.gk.mem hb).1
 rw [e] at this;cases this
def Inv.bs(I:Inv X ae σ H s):∀b o,X.base.get? b=some o->s.heap.get? b=some o/\H b=none:=λb o e=>
 ⟨I.base.keep b o (I.ok.bs b o e).1 (I.ok.bs b o e).2 (I.ok.Pt e) (I.ok.BZ b o e),I.base.free b o (I.ok.bs b o e).1 (I.ok.bs b o e).2 (I.ok.BZ b o e)⟩
def Inv.bk(I:Inv X ae σ H s):∀b o,X.base.get? b=some o->s.heap.get? b=some o:=λb o e=>(I.bs b o e).1
def Inv.mod(I:Inv X ae σ H s):Mod X.K X.mg X.base:=I.ok.mod
def Inv.ql(I:Inv X ae σ H s):X.K.In s.heap:=I.ok.mod.Kp.keeps I.bk
theorem Inv.fr(I:Inv X ae σ H s):∃m,Fr X.base X.env.locals s.heap m:=
 let⟨m,hn,_⟩:=I.loc
 ⟨m,hn,I.bk,zzU I.ok.wI I.ok.above⟩
theorem Inv.lt(I:Inv X ae σ H s):X.env.locals<(zz9 s):=let⟨_,hn,_⟩:=I.loc;hn.lt
def Inv.sz(I:Inv X ae σ H s):X.s₀.heap.objs.size<=(zz9 s):=zzU I.ok.above (Nat.le_of_lt I.lt)
theorem Inv.NM(I:Inv X ae σ H s){a:Addr}(h:(zz9 s)<=a):a∉X.fs:=λhb=>by
 obtain⟨_,o,ho,_⟩:=I.ok.gk.mem hb
 exact absurd (zzW (zzO ho) (zzU I.sz h)) (Nat.lt_irrefl _)
theorem Inv.CS(I:Inv X ae σ H s):∀x c,X.env.cells.lookup x=some c->c≠X.env.locals:=λx c e z=>by
 obtain⟨v,o,ho,hd⟩:=I.cell x c e
 obtain⟨m,⟨o',es,ep,iF,Bl,_⟩,_⟩:=I.loc
 rw [z,iF] at ho;cases ho;rw [Bl] at hd;cases hd
def Inv.gk(I:Inv X ae σ H s):s.heap.FunFrames X.base X.outer:=by
 have all:∀(l:List Env),(∀b∈eO l,b∈X.fs)->X.s₀.heap.FunFrames X.base l->s.heap.FunFrames X.base l:=by
  intro l
  induction l with
  |nil=>intro _ _;trivial
  |cons env r ih=>
   intro hs hl;obtain⟨hk,⟨L,o,hf,hn,ho,hd⟩,hr⟩:=hl
   have hL:L∈X.fs:=hs L (by unfold eO;rw [List.filterMap_cons,hf];exact zzP)
   obtain⟨sl,e⟩:=I.base.slot L o ho (I.ok.xH L hL) hL λz=>I.ok.HM L z hL
   exact⟨hk,⟨L,_,hf,hn,e,hd⟩,ih (λb hb=>hs b (by unfold eO;rw [List.filterMap_cons,hf];exact zzI _ hb)) hr⟩
 exact all X.outer (λ_ hb=>hb) I.ok.gk
def Inv.stack(I:Inv X ae σ H s):s.heap.FunFrames X.base X.stack:=by
 rcases I.ok.Lc with e|⟨e,hf⟩
 ·rw [e];exact I.gk
 ·rw [e];obtain⟨m,hn,_⟩:=I.loc
  refine .cons (by rw [I.ok.kind];decide) hf hn ?_ I.gk;exact Heap.get?_none_of_le (zzU I.ok.wI I.ok.above)
def Inv.iE(I:Inv X ae σ H s):∀b∈eO X.stack,b∈X.env.locals::X.fs:=λb hb=>by
 rcases I.ok.Lc with e|⟨e,hf⟩
 ·rw [e] at hb;exact zzI _ hb
 ·rw [e] at hb;unfold eO at hb;rw [List.filterMap_cons,hf] at hb;exact hb
theorem Inv.j4(I:Inv X ae σ H s):∀b∈eO X.stack,H b=none:=λb hb=>by
 rcases zzm.mp (I.iE b hb) with e|hb
 ·rw [e];exact I.free
 ·obtain⟨_,o,ho,_⟩:=I.ok.gk.mem hb
  exact I.base.free b o ho (I.ok.xH b hb) λz=>I.ok.HM b z hb
def Inv.step{g':Array GenState}{t':Nat}{d':Drawn}{ch:List Addr}(I:Inv X ae σ H s)
 (xP:∀b∈ch,(b∈X.ex\/X.s₀.heap.objs.size<=b)/\b≠X.env.locals/\(∀x c,X.env.cells.lookup x=some c->c≠b)/\∀p∈X.pn++ae,p.1≠b)
 (keep:∀b o,b≠X.env.locals->b∉X.fs->b∉ch->s.heap.get? b=some o->H b=none->h'.get? b=some o)
 (slot:∀b o,b≠X.env.locals->b∈X.fs->b∉ch->s.heap.get? b=some o->H b=none->∃sl,h'.get? b=some {o with slots:=sl}) (free:∀b o,b∉ch->s.heap.get? b=some o->H b=none->H' b=none)
 (there:∀b o,b∉ch->s.heap.get? b=some o->∃o',h'.get? b=some o')
 (g7:∀b xs,H b=some (.tup xs)->H' b=some (.tup xs)) (fI:∀b o u,H b=some (.bp o u)->H' b=some (.bp o u)) (gr:∀b ps,H b=some (.fY ps)->∃more,H' b=some (.fY (ps++more)))
 (ns:∀m,s.heap.Ns X.env.locals m->h'.Ns X.env.locals m) (aL:eA X.prog X.w H' h') (hg:AllBare g'):
 Inv X ae σ H' {s with heap:=h',gens:=g',drawn:=d',toks:=t'}:=by
 have Nd:∀b o,X.s₀.heap.get? b=some o->b≠X.env.locals:=λb o e=>zzb (zzW (zzO e) I.ok.above)
 have Hg:∀b o,X.s₀.heap.get? b=some o->b∉X.ex->b∉ch:=λb o e hx hb=>by
  rcases(xP b hb).1 with z|z
  ·exact hx z
  ·exact absurd (zzW (zzO e) z) (Nat.lt_irrefl _)
 have cellK:∀x c,X.env.cells.lookup x=some c->∀v,s.heap.IsCell c v->h'.IsCell c v:=λx c e v ⟨o,ho,hd⟩=>by
  have LU:c∉ch:=λz=>(xP c z).2.2.1 x c e rfl
  by_cases hc:c∈X.fs
  ·obtain⟨sl,q⟩:=slot c o (I.CS x c e) hc LU ho (I.ib x c e)
   exact⟨_,q,hd⟩
  ·exact⟨o,keep c o (I.CS x c e) hc LU ho (I.ib x c e),hd⟩
 refine⟨I.ok,I.os,hg,⟨λb o e n hb hx=>?_,λb o e n hb hx=>?_,λb o e n hx=>?_,λb o e hx=>?_,λb xs e=>g7 b xs (I.base.g7 b xs e),λb o xs e=>fI b o xs (I.base.fI b o xs e),λb ps e=>?_⟩,?_,λx c e=>?_,?_,λx c e=>?_,λp hp=>?_,aL,I.len⟩
 ·exact keep b o (Nd b o e) hb (Hg b o e hx) (I.base.keep b o e n hb hx) (I.base.free b o e n hx)
 ·obtain⟨sl,e1⟩:=I.base.slot b o e n hb hx
  obtain⟨sl',e2⟩:=slot b _ (Nd b o e) hb (Hg b o e hx) e1 (I.base.free b o e n hx)
  exact⟨sl',e2⟩
 ·obtain⟨o',e1⟩:=I.base.there b o e hx
  exact free b o' (Hg b o e hx) e1 (I.base.free b o e n hx)
 ·obtain⟨o',e1⟩:=I.base.there b o e hx
  exact there b o' (Hg b o e hx) e1
 ·obtain⟨m1,e1⟩:=I.base.gr b ps e
  obtain⟨m2,e2⟩:=gr b _ e1
  exact⟨m1++m2,by rw [e2,Array.append_assoc]⟩
 ·obtain⟨m,hn,hl⟩:=I.loc
  refine⟨m,ns m hn,λi x v e1 e2 e3=>?_⟩
  obtain⟨u,r,l⟩:=hl i x v e1 e2 e3
  refine⟨u,r,?_⟩;rcases l with l|⟨k,c,e,z⟩
  ·exact .inl l
  ·exact .inr ⟨k,c,e,cellK x c e _ z⟩
 ·obtain⟨v,z⟩:=I.cell x c e
  exact⟨v,cellK x c e v z⟩
 ·obtain⟨m,⟨o,_,_,ho,_⟩,_⟩:=I.loc
  exact free _ o (λz=>(xP _ z).2.1 rfl) ho I.free
 ·obtain⟨v,o,ho,hd⟩:=I.cell x c e
  exact free c o (λz=>(xP c z).2.2.1 x c e rfl) ho (I.ib x c e)
 ·obtain⟨e,n,ne,nf,d⟩:=I.pin p hp
  have LU:p.1∉ch:=λz=>(xP p.1 z).2.2.2 p hp rfl
  exact⟨keep p.1 p.2 ne nf LU e n,free p.1 p.2 LU e n,ne,nf,d⟩
def Inv.un{t':Nat}(I:Inv X ae σ H s)(u:Un X.fs [] H H' s.heap h')(aL:eA X.prog X.w H' h'):Inv X ae σ H' {s with heap:=h',toks:=t'}:=by
 obtain⟨m,⟨o,es,ep,ho,r⟩,_⟩:=id I.loc
 obtain⟨sl,hL⟩:=u.any ho I.free (by simp)
 exact I.step (g':=s.gens) (d':=s.drawn) (ch:=[]) (λ_ z=>nomatch z) (λb o _ hb _ e n=>u.keep b o e n hb (by simp)) (λb o _ hb _ e n=>u.slot b o e n hb (by simp)) (λb o _ e n=>u.free b o e n (by simp)) (λb o _ e=>u.there b o e (by simp)) u.g7 u.fI u.gr (λm' hm=>by
  obtain⟨o',es',ep',iF,r'⟩:=hm
  rw [ho] at iF;cases iF;exact⟨_,es',ep',hL,r'⟩) aL I.bare
def Inv.call{g':Array GenState}{t':Nat}{d':Drawn}{ch:List Addr}(I:Inv X ae σ H s)(u:Un (eO X.stack) ch H H' s.heap h')(aL:eA X.prog X.w H' h')(hg:AllBare g')
 (xP:∀b∈ch,(b∈X.ex\/X.s₀.heap.objs.size<=b)/\b≠X.env.locals/\(∀x c,X.env.cells.lookup x=some c->c≠b)/\∀p∈X.pn++ae,p.1≠b):
 Inv X ae σ H' {s with heap:=h',gens:=g',drawn:=d',toks:=t'}:=by
 obtain⟨m,⟨o,es,ep,ho,r⟩,_⟩:=id I.loc
 obtain⟨sl,hL⟩:=u.any ho I.free λz=>(xP _ z).2.1 rfl
 exact I.step (ch:=ch) xP (λb o hL hb hc e n=>u.keep b o e n (λz=>(zzm.mp (I.iE b z)).elim hL hb) hc) (λb o _ _ hc e n=>u.any e n hc) (λb o hc e n=>u.free b o e n hc) (λb o hc e=>u.there b o e hc) u.g7 u.fI u.gr (λm' hm=>by
  obtain⟨o',es',ep',iF,r'⟩:=hm
  rw [ho] at iF;cases iF;exact⟨_,es',ep',hL,r'⟩) aL hg
def Inv.turned{t':Nat}{it:Addr}(I:Inv X ae σ H s)(k:∀b o,b≠it->s.heap.get? b=some o->h'.get? b=some o)(hn:H it=none)(hL:it≠X.env.locals)
 (h1:it∈X.ex\/X.s₀.heap.objs.size<=it) (h2:∀x c,X.env.cells.lookup x=some c->c≠it) (h3:∀p∈X.pn++ae,p.1≠it):Inv X ae σ H {s with heap:=h',toks:=t'}:=by
 have Qx:∀b u,H b=some u->b≠it:=λb u e z=>by rw [z,hn] at e;cases e
 refine I.step (g':=s.gens) (d':=s.drawn) (ch:=[it]) (λb hb=>?_) (λb o _ _ hc e _=>k b o (λz=>hc (by simp [z])) e) (λb o _ _ hc e _=>⟨o.slots,k b o (λz=>hc (by simp [z])) e⟩) (λ_ _ _ _ n=>n)
  (λb o hc e=>⟨o,k b o (λz=>hc (by simp [z])) e⟩) (λ_ _ e=>e) (λ_ _ _ e=>e) (λb ps e=>⟨#[],by rw [e];simp⟩) (λm hm=>?_) (λb u e=>?_) I.bare
 ·have e:b=it:=by simpa using hb
  subst e;exact⟨h1,hL,h2,h3⟩
 ·obtain⟨o,es,ep,ho,r⟩:=hm
  exact⟨o,es,ep,k _ o (Ne.symm hL) ho,r⟩
 ·refine(I.aL b u e).eP (λc v hc q=>k c v ?_ q) (λ_ q=>q) λ_ _ q=>q
  rcases hc with z|z
  ·rw [z];exact Qx b u e
  ·exact Qx c _ z
theorem Inv.tok(I:Inv X ae σ H s)(t:Nat):Inv X ae σ H {s with toks:=t}:=I.un (h':=s.heap) (t':=t) Un.refl I.aL
theorem Inv.kept{t':Nat}(I:Inv X ae σ H s)(k:∀b u,s.heap.get? b=some u->h'.get? b=some u):Inv X ae σ H {s with heap:=h',toks:=t'}:=I.un (Un.kept k) (I.aL.kept k)
theorem Inv.laid{a:Addr}{o:HO}{t':Nat}(I:Inv X ae σ H s)(k:∀b u,s.heap.get? b=some u->h'.get? b=some u)(hp:(zz9 s)<=a)(new:bJ X.prog X.w (upd H a o) h' a o):
 Inv X ae σ (upd H a o) {s with heap:=h',toks:=t'}:=I.un (Un.laid k hp (I.aL.fresh hp)) (I.aL.laid k hp new)
theorem Inv.write{x e:Addr}{o:HO}{t':Nat}(I:Inv X ae σ H s)(mu:Kd (H x))(he:e=x\/H e=some (.own x))(k:∀b u,b≠e->s.heap.get? b=some u->h'.get? b=some u)(JL:∃u,h'.get? e=some u)
 (new:bJ X.prog X.w (upd H x o) h' x o):Inv X ae σ (upd H x o) {s with heap:=h',toks:=t'}:=I.un (Un.write mu he k JL) (I.aL.write mu he k JL new)
def Inv.gZ{u0:List (Addr×Obj)}(I:Inv X ae σ H s)(h:∀p∈u0,s.heap.get? p.1=some p.2/\H p.1=none/\p.1≠X.env.locals/\p.1∉X.fs/\∀v,p.2.data≠.cell v):Inv X u0 σ H s:=
 ⟨I.ok,I.os,I.bare,I.base,I.loc,I.cell,I.free,I.ib,λp hp=>(List.mem_append.mp hp).elim (λz=>I.pin p (zzc _ z)) (h p),I.aL,I.len⟩
def lW{N:List Str}(hN:N.Nodup){i j:Nat}{x:Str}(a:N[i]?=some x)(b:N[j]?=some x):i=j:=by
 obtain⟨h1,e1⟩:=zzH.mp a
 obtain⟨h2,e2⟩:=zzH.mp b
 exact(List.getElem_inj hN).mp (e1.trans e2.symm)
def jk{M:Model}{A:Around}{E:Value->Shared->Prop}{i:Nat}{x:Str}{v:V}{u:Value}{Q:Unit->Shared->Prop}(I:Inv X ae σ H s)(hN:X.N.Nodup)(hi:X.N[i]?=some x)(hx:Loc X.env.scope x)(r:RelV v u)
 (h:∀s',Inv X ae (σ.set i (some v)) H s'->(∃a,Heap.SameBut a s.heap s'.heap/\(a=X.env.locals\/X.env.cells.lookup x=some a))->Q () s') (hf:X.fn x=true\/X.env.scope.names.lookup x=some .local:=by first|exact .inl rfl|exact .inr rfl|assumption):wpAny M A (storeName X.env x u) Q E s:=by
 obtain⟨m,hn,hl⟩:=id I.loc
 have PK:(X.env.scope.kind==.class||(X.env.scope.kind==.module&&X.env.locals !=X.env.globals))=false:=by rw [I.ok.kind];rfl
 have hiσ:i<σ.length:=by rw [I.len];exact(zzH.mp hi).1
 have CS:=I.CS
 have tracked:∀{a:Addr} {h':Heap},(∃o,s.heap.get? a=some o/\H a=none)->Heap.SameBut a s.heap h'->eA X.prog X.w H h':=λ{a h'} ha hs b ob e=>by
  obtain⟨_,_,hfree⟩:=ha
  refine(I.aL b ob e).eP (λc w' hc q=>(hs.2 c ?_).trans q) (λ_ q=>q) λ_ _ q=>q
  rintro rfl
  rcases hc with rfl|hc
  ·rw [hfree] at e;cases e
  ·rw [hfree] at hc;cases hc
 rcases hx with hk|hk
 ·refine wpAny_storeName_local hk hn (λh' SM hs=>?_) PK;obtain⟨oL,_,_,hoL,_⟩:=id hn
  refine h _ ⟨I.ok,I.os,I.bare,⟨λb o e n hb hx=>?_,λb o e n hb hx=>?_,I.base.free,λb o e hx=>?_,I.base.g7,I.base.fI,I.base.gr⟩,⟨_,SM,λj y v' e1 e2 e3=>?_⟩,λy c e=>?_,I.free,I.ib,λp hp=>?_,tracked ⟨oL,hoL,I.free⟩ hs,by simpa using I.len⟩ ⟨_,hs,.inl rfl⟩
  ·exact(hs.2 b (zzb (zzW (zzO e) I.ok.above))).trans (I.base.keep b o e n hb hx)
  ·obtain⟨sl,e1⟩:=I.base.slot b o e n hb hx
   exact⟨sl,(hs.2 b (zzb (zzW (zzO e) I.ok.above))).trans e1⟩
  ·obtain⟨o',e1⟩:=I.base.there b o e hx
   exact⟨o',(hs.2 b (zzb (zzW (zzO e) I.ok.above))).trans e1⟩
  ·by_cases hj:j=i
   ·subst hj;rw [hi] at e1;cases e1;rw [zzo hiσ] at e2;cases e2;exact⟨u,r,.inl ⟨hk,by simp⟩⟩
   ·rw [zzS (Ne.symm hj)] at e2;obtain⟨u',r',q⟩:=hl j y v' e1 e2 e3
    refine⟨u',r',?_⟩;rcases q with⟨k,e⟩|⟨k,c,e,z⟩
    ·refine .inl ⟨k,?_⟩;have:y≠x:=λe=>hj (lW hN e1 (e▸hi))
     simp [this,e]
    ·exact .inr ⟨k,c,e,z.sameBut hs (CS y c e)⟩
  ·obtain⟨w',z⟩:=I.cell y c e
   exact⟨w',z.sameBut hs (CS y c e)⟩
  ·obtain⟨e,n,ne,nf,d⟩:=I.pin p hp
   exact⟨(hs.2 p.1 ne).trans e,n,ne,nf,d⟩
 ·have lH:X.fn x=true:=by
   rcases hf with z|z
   ·exact z
   ·rw [z] at hk;cases hk
  obtain⟨c,hc⟩:=I.ok.has x (.inl hk)
  obtain⟨w',z⟩:=I.cell x c hc
  refine wpAny_storeName_cell I.ok.kind hk hc z (λh' ip hs=>?_);obtain⟨oc,hoc,hocd⟩:=id z
  refine h {s with heap:=h'} ⟨I.ok,I.os,I.bare,⟨λb o e n hb hx=>?_,λb o e n hb hx=>?_,I.base.free,λb o e hx=>?_,I.base.g7,I.base.fI,I.base.gr⟩,⟨m,hn.sameBut hs (Ne.symm (CS x c hc)),λj y v' e1 e2 e3=>?_⟩,λy c' e=>?_,I.free,I.ib,λp hp=>?_,tracked ⟨oc,hoc,I.ib x c hc⟩ hs,by simpa using I.len⟩ ⟨c,hs,.inr hc⟩
  ·exact(hs.2 b (zzb (zzW (zzO e) (I.ok.JM x c lH hc)))).trans (I.base.keep b o e n hb hx)
  ·obtain⟨sl,e1⟩:=I.base.slot b o e n hb hx
   exact⟨sl,(hs.2 b (zzb (zzW (zzO e) (I.ok.JM x c lH hc)))).trans e1⟩
  ·obtain⟨o',e1⟩:=I.base.there b o e hx
   exact⟨o',(hs.2 b (zzb (zzW (zzO e) (I.ok.JM x c lH hc)))).trans e1⟩
  ·by_cases hj:j=i
   ·subst hj;rw [hi] at e1;cases e1;rw [zzo hiσ] at e2;cases e2;exact⟨u,r,.inr ⟨.inl hk,c,hc,ip⟩⟩
   ·rw [zzS (Ne.symm hj)] at e2;obtain⟨u',r',q⟩:=hl j y v' e1 e2 e3
    refine⟨u',r',?_⟩;rcases q with q|⟨k,c',e,z'⟩
    ·exact .inl q
    ·refine .inr ⟨k,c',e,z'.sameBut hs ?_⟩
     rintro rfl
     exact hj (lW hN e1 (I.ok.inj _ _ _ e hc▸hi))
  ·by_cases hcc:c'=c
   ·subst hcc;exact⟨_,ip⟩
   ·obtain⟨w2,z2⟩:=I.cell y c' e
    exact⟨w2,z2.sameBut hs hcc⟩
  ·obtain⟨e,n,ne,nf,d⟩:=I.pin p hp
   refine⟨(hs.2 p.1 ?_).trans e,n,ne,nf,d⟩;intro q;rw [q,hoc] at e;have q':oc=p.2:=zzq e
   exact d w' (by rw [<-q'];exact hocd)
def rH{M:Model}{A:Around}{E:Value->Shared->Prop}{i:Nat}{x:Str}{v:V}{u:Value}{Q:Unit->Shared->Prop}(I:Inv X ae σ H s)(hN:X.N.Nodup)(hi:X.N[i]?=some x)(hx:Loc X.env.scope x)(r:RelV v u)
 (h:∀s',Inv X ae (σ.set i (some v)) H s'->Q () s') (hf:X.fn x=true\/X.env.scope.names.lookup x=some .local:=by first|exact .inl rfl|exact .inr rfl|assumption):wpAny M A (storeName X.env x u) Q E s:=
 jk I hN hi hx r (λs' I' _=>h s' I') hf
def Inv.LH{s':Shared}{ch:List Addr}(I:Inv X ae σ H s)(ho:s'.os=s.os)(u:Un (eO X.stack) ch H H' s.heap s'.heap)(aL:eA X.prog X.w H' s'.heap)(hg:AllBare s'.gens)
 (xP:∀b∈ch,(b∈X.ex\/X.s₀.heap.objs.size<=b)/\b≠X.env.locals/\(∀x c,X.env.cells.lookup x=some c->c≠b)/\∀p∈X.pn++ae,p.1≠b):Inv X ae σ H' s':=by
 obtain⟨h',g',d',t',o'⟩:=s'
 have e:o'=s.os:=ho
 subst e;exact I.call (g':=g') (t':=t') (d':=d') u aL hg xP
end
abbrev XK:=Value->Option Addr->Hp->Prop
abbrev St:=List (Option V)
abbrev VK:=V->Hp->Prop
abbrev TE:=St->Hp->VK->Prop
abbrev TT:=St->Hp->(Bool->Hp->Prop)->Prop
abbrev TA:=St->Hp->(List V->Hp->Prop)->Prop
structure Ends where
 nx:St->Hp->Prop
 rt:VK
 bk:St->Hp->Prop:=λ_ _=>False
 ct:St->Hp->Prop:=λ_ _=>False
abbrev TS:=Ends->St->Hp->Prop
def EP(X:Cx)(ae:List (Addr×Obj))(σ:St)(Q:VK)(u:Value)(s':Shared):Prop:=∃v H',Inv X ae σ H' s'/\RelV v u/\Q v H'
def TP(X:Cx)(ae:List (Addr×Obj))(σ:St)(Q:Bool->Hp->Prop)(b:Bool)(s':Shared):Prop:=∃H',Inv X ae σ H' s'/\Q b H'
def AP(X:Cx)(ae:List (Addr×Obj))(σ:St)(Q:List V->Hp->Prop)(us:List Value)(s':Shared):Prop:=∃vs H',Inv X ae σ H' s'/\Vals vs us/\Q vs H'
def SP(X:Cx)(ae:List (Addr×Obj))(D:Ends)(f:Flow)(s':Shared):Prop:=
 match f with
 |.next=>∃σ' H',Inv X ae σ' H' s'/\D.nx σ' H'
 |.brk=>∃σ' H',Inv X ae σ' H' s'/\D.bk σ' H'
 |.cont=>∃σ' H',Inv X ae σ' H' s'/\D.ct σ' H'
 |.ret u=>∃v σ' H',Inv X ae σ' H' s'/\RelV v u/\D.rt v H'
def PE(X:Cx)(e:Expr)(t:TE):Prop:=
 ∀(ae:List (Addr×Obj)) (s:Shared) (σ:St) (H:Hp) (Q:VK),Inv X ae σ H s->t σ H Q->wpAny (model X.prog X.w) X.A (eval e X.env) (EP X ae σ Q) X.xe s
def PT(X:Cx)(e:Expr)(t:TT):Prop:=
 ∀(ae:List (Addr×Obj)) (s:Shared) (σ:St) (H:Hp) (Q:Bool->Hp->Prop),Inv X ae σ H s->t σ H Q->wpAny (model X.prog X.w) X.A (isTrue e X.env (eval e X.env)) (TP X ae σ Q) X.xe s
def PW(X:Cx)(e:Expr)(t:TT):Prop:=
 ∀(whole:Sem Value) (ae:List (Addr×Obj)) (s:Shared) (σ:St) (H:Hp) (Q:Bool->Hp->Prop),Inv X ae σ H s->t σ H Q->wpAny (model X.prog X.w) X.A (isTrue e X.env whole) (TP X ae σ Q) X.xe s
def PW.pt{X:Cx}{e:Expr}{t:TT}(h:PW X e t):PT X e t:=h _
def PA(X:Cx)(es:List Expr)(t:TA):Prop:=
 ∀(pos:Pos) (ae:List (Addr×Obj)) (s:Shared) (σ:St) (H:Hp) (Q:List V->Hp->Prop),Inv X ae σ H s->t σ H Q->wpAny (model X.prog X.w) X.A (spliced (backTo pos (starEach es X.env))) (AP X ae σ Q) X.xe s
def PS(X:Cx)(st:Stmt)(t:TS):Prop:=
 ∀(ae:List (Addr×Obj)) (s:Shared) (σ:St) (H:Hp) (D:Ends),Inv X ae σ H s->t D σ H->wpAny (model X.prog X.w) X.A (exec st X.env) (SP X ae D) X.xe s
def vm(X:Cx)(st:List Stmt)(t:TS):Prop:=
 ∀(ae:List (Addr×Obj)) (s:Shared) (σ:St) (H:Hp) (D:Ends),Inv X ae σ H s->t D σ H->wpAny (model X.prog X.w) X.A (execs st X.env) (SP X ae D) X.xe s
def bI{α:Type}{t:Sem α}{Q Q':α->Shared->Prop}{M:Model}{A:Around}{E:Value->Shared->Prop}{s:Shared}(h:wpAny M A t Q E s)(hQ:∀a s,Q a s->Q' a s):wpAny M A t Q' E s:=wpAny_mono h hQ λ_ _ x=>x
section
variable{X:Cx}
def bin{a b:Expr}{ta tb:TE}(ha:PE X a ta)(hb:PE X b tb){ae:List (Addr×Obj)}{s:Shared}{σ:St}{H:Hp}{R:V->V->Hp->Prop}(I:Inv X ae σ H s)(h:ta σ H λx H1=>tb σ H1 λy H2=>R x y H2)
 {α:Type} {Q:α->Shared->Prop} {f:Value->Value->Sem α}
 (hf:∀v u s2 x y H2,Inv X ae σ H2 s2->RelV x v->RelV y u->R x y H2->wpAny (model X.prog X.w) X.A (f v u) Q X.xe s2):
 wpAny (model X.prog X.w) X.A (eval a X.env) (λv s₁=>wpAny (model X.prog X.w) X.A (eval b X.env) (λu s₂=>wpAny (model X.prog X.w) X.A (f v u) Q X.xe s₂) X.xe s₁) X.xe s:=by
 refine bI (ha ae s σ H _ I h) λv s1 ⟨x,H1,I1,r1,q1⟩=>?_
 refine bI (hb ae s1 σ H1 _ I1 q1) λu s2 ⟨y,H2,I2,r2,q2⟩=>?_
 exact hf v u s2 x y H2 I2 r1 r2 q2
def yc(i:Nat):TE:=λσ H Q=>∃v,σ[i]?=some (some v)/\Q v H
def tC(v:V):TE:=λ_ H Q=>Q v H
def eX{i:Nat}{x:Str}{pos:Pos}(hN:X.N[i]?=some x)(hv:La X.env.scope x)(hd:(x==("__debug__":Str))=false:=by decide)(sk:(x==("__classdict__":Str))=false:=by decide):PE X (.Name x pos) (yc i):=by
 intro ae s σ H Q I h;obtain⟨v,e,h⟩:=h
 obtain⟨m,hn,hl⟩:=I.loc
 obtain⟨u,r,l⟩:=hl i x v hN e hv
 have fin:EP X ae σ Q u s:=⟨v,H,I,r,h⟩
 rcases l with⟨hk,hm⟩|⟨hk,c,hc,ef⟩
 ·exact wpAny_Name (wpAny_loadName_local I.ok.kind hk hn hm fin) hd
 ·rcases hk with hk|hk
  ·exact wpAny_Name (wpAny_loadName_cell I.ok.kind hk hc ef fin) hd
  ·exact wpAny_Name (wpAny_loadName_free I.ok.kind hk hc ef fin sk) hd
def sC{i j pos}:PE X (.Constant (.int i) j pos) (tC (.int i)):=λ_ _ _ H _ I h=>wpAny_Constant_int ⟨.int i,H,I.tok _,⟨_,rfl⟩,h⟩
def Fd{b j pos}:PE X (.Constant (.bool b) j pos) (tC (.bl b)):=λ_ _ _ H _ I h=>Constant_bool ⟨.bl b,H,I,rfl,h⟩
def Ge{j pos}:PE X (.Constant .none j pos) (tC .aC):=λ_ _ _ H _ I h=>Constant_none ⟨.aC,H,I,rfl,h⟩
def AL{x j pos}:PE X (.Constant (.str x) j pos) (tC (.str x)):=λ_ _ _ H _ I h=>Calls.Constant_str ⟨.str x,H,I.tok _,⟨_,rfl⟩,h⟩
def Gl(X:Cx)(x:Str):Prop:=X.env.kindOf x=some .globalImplicit
def gX{E:Value->Shared->Prop}{ae:List (Addr×Obj)}{s:Shared}{σ:St}{H:Hp}{x:Str}{u:Value}{pos:Pos}{Q:Value->Shared->Prop}(I:Inv X ae σ H s)(hg:Gl X x)(hm:X.mg x=some u)(h:Q u s)
 (hd:(x==("__debug__":Str))=false:=by decide):wpAny (model X.prog X.w) X.A (eval (.Name x pos) X.env) Q E s:=
 Calls.Name_function_global I.ok.kind hg (Calls.loadGlobal_global (by rw [I.ok.glob];exact I.mod.glob.keeps I.bk) hm h) hd
def dX{E:Value->Shared->Prop}{ae:List (Addr×Obj)}{s:Shared}{σ:St}{H:Hp}{x:Str}{u:Value}{pos:Pos}{Q:Value->Shared->Prop}(I:Inv X ae σ H s)(hg:Gl X x)(hm:X.mg x=none)(hv:bootBuiltins x=some u)(h:Q u s)
 (hn:x≠"__name__":=by decide) (hd:(x==("__debug__":Str))=false:=by decide):wpAny (model X.prog X.w) X.A (eval (.Name x pos) X.env) Q E s:=by
 obtain⟨mb,h1,h2⟩:=I.mod.blt
 exact Calls.Name_function_global I.ok.kind hg (Calls.loadGlobal_builtin (by rw [I.ok.glob];exact I.mod.glob.keeps I.bk) hm (by rw [I.ok.blt];exact h1.keeps I.bk) ((h2 x hn).trans hv) h) hd
def Cb{x:Str}{v:V}{u:Value}{pos:Pos}(hg:Gl X x)(hm:X.mg x=some u)(r:RelV v u)(hd:(x==("__debug__":Str))=false:=by decide):PE X (.Name x pos) (tC v):=
 λ_ _ _ H _ I h=>gX I hg hm ⟨v,H,I,r,h⟩ hd
def EA{x:Str}{v:V}{u:Value}{pos:Pos}(hg:Gl X x)(hm:X.mg x=none)(hv:bootBuiltins x=some u)(r:RelV v u)(hn:x≠"__name__":=by decide)(hd:(x==("__debug__":Str))=false:=by decide):PE X (.Name x pos) (tC v):=
 λ_ _ _ H _ I h=>dX I hg hm hv ⟨v,H,I,r,h⟩ hn hd
variable{a b:Expr}{ta tb:TE}{pos:Pos}
def tB(t:TE):TT:=λσ H Q=>t σ H λx H1=>∃c,x=.bl c/\Q c H1
def Hu{e:Expr}{t:TE}(h:PE X e t)(he:∀whole,isTrue e X.env whole=(do let v<-whole;standAt e.pos;holding [v] (truthy v)):=by intro _;rfl):PT X e (tB t):=by
 intro ae s σ H Q I hw;refine isTrue_plain (bI (h ae s σ H _ I hw) λv s1 ⟨x,H1,I1,r1,q1⟩=>?_) (he _)
 obtain⟨d,rfl,q⟩:=q1
 cases r1;exact wpAny_truthy_bool ⟨H1,I1,q⟩
variable{tA MD:TT}{rest:List Expr}
def OY(t u:TT):TT:=λσ H Q=>t σ H λc H1=>if c=true then u σ H1 Q else Q false H1
def Su(t u:TT):TT:=λσ H Q=>t σ H λc H1=>if c=true then Q true H1 else u σ H1 Q
def NR(t:TT):TT:=λσ H Q=>t σ H λc H1=>Q (!c) H1
def pw_and1(ha:PT X a tA):PW X (.BoolOp .And [a] pos) tA:=by
 intro wh ae s σ H Q I h;refine isTrue_and (bI (ha ae s σ H Q I h) λc s1 e=>?_)
 cases c with
 |true=>exact isTrue_and_nil e
 |false=>exact e
def pw_or1(ha:PT X a tA):PW X (.BoolOp .Or [a] pos) tA:=by
 intro wh ae s σ H Q I h;refine isTrue_or (bI (ha ae s σ H Q I h) λc s1 e=>?_)
 cases c with
 |false=>exact isTrue_or_nil e
 |true=>exact e
def pw_and(ha:PT X a tA)(hb:PW X (.BoolOp .And (b::rest) pos) MD):PW X (.BoolOp .And (a::b::rest) pos) (OY tA MD):=by
 intro wh ae s σ H Q I h;refine isTrue_and (bI (ha ae s σ H _ I h) λc s1 ⟨H1,I1,q1⟩=>?_)
 cases c with
 |true=>exact hb wh ae s1 σ H1 Q I1 q1
 |false=>exact⟨H1,I1,q1⟩
def pw_or(ha:PT X a tA)(hb:PW X (.BoolOp .Or (b::rest) pos) MD):PW X (.BoolOp .Or (a::b::rest) pos) (Su tA MD):=by
 intro wh ae s σ H Q I h;refine isTrue_or (bI (ha ae s σ H _ I h) λc s1 ⟨H1,I1,q1⟩=>?_)
 cases c with
 |true=>exact⟨H1,I1,q1⟩
 |false=>exact hb wh ae s1 σ H1 Q I1 q1
def Ip(ha:PT X a tA):PT X (.UnaryOp .Not a pos) (NR tA):=by
 intro ae s σ H Q I h;exact isTrue_not (ha ae s σ H (λc H1=>Q (!c) H1) I h)
def Lo(ta tb:TE):TE:=λσ H Q=>ta σ H λx H1=>∃c,x=.bl c/\if c=true then tb σ H1 Q else Q (.bl false) H1
def Pc(ta tb:TE):TE:=λσ H Q=>ta σ H λx H1=>∃c,x=.bl c/\if c=true then Q (.bl true) H1 else tb σ H1 Q
def Ke(ta:TE):TE:=λσ H Q=>ta σ H λx H1=>∃c,x=.bl c/\Q (.bl (!c)) H1
def x9{op}{t:TE}(h:PE X a t):PE X (.BoolOp op [a] pos) t:=λae s σ H Q I hw=>BoolOp_one (h ae s σ H Q I hw)
def GQ(ha:PE X a ta)(hb:PE X (.BoolOp .And (b::rest) pos) tb):PE X (.BoolOp .And (a::b::rest) pos) (Lo ta tb):=by
 intro ae s σ H Q I h;refine BoolOp_and (bI (ha ae s σ H _ I h) λv s1 ⟨x,H1,I1,r1,q1⟩=>?_)
 obtain⟨c,rfl,q1⟩:=q1
 cases r1;refine wpAny_truthy_bool ?_;cases c with
 |true=>exact hb ae s1 σ H1 Q I1 q1
 |false=>exact⟨.bl false,H1,I1,rfl,q1⟩
def LN(ha:PE X a ta)(hb:PE X (.BoolOp .Or (b::rest) pos) tb):PE X (.BoolOp .Or (a::b::rest) pos) (Pc ta tb):=by
 intro ae s σ H Q I h;refine BoolOp_or (bI (ha ae s σ H _ I h) λv s1 ⟨x,H1,I1,r1,q1⟩=>?_)
 obtain⟨c,rfl,q1⟩:=q1
 cases r1;refine wpAny_truthy_bool ?_;cases c with
 |false=>exact hb ae s1 σ H1 Q I1 q1
 |true=>exact⟨.bl true,H1,I1,rfl,q1⟩
def HZ(ha:PE X a ta):PE X (.UnaryOp .Not a pos) (Ke ta):=by
 intro ae s σ H Q I h;refine UnaryOp_ (bI (ha ae s σ H _ I h) λv s1 ⟨x,H1,I1,r1,q1⟩=>?_)
 obtain⟨c,rfl,q1⟩:=q1
 cases r1;exact not_of (wpAny_truthy_bool ⟨.bl (!c),H1,I1,rfl,q1⟩)
def S3(t:TT)(ta tb:TE):TE:=λσ H Q=>t σ H λc H1=>if c=true then ta σ H1 Q else tb σ H1 Q
def AB{c:Expr}(hc:PT X c tA)(ha:PE X a ta)(hb:PE X b tb):PE X (.IfExp c a b pos) (S3 tA ta tb):=by
 intro ae s σ H Q I h;refine wpAny_IfExp (bI (hc ae s σ H _ I h) λd s1 ⟨H1,I1,q1⟩=>?_)
 cases d with
 |true=>exact ha ae s1 σ H1 Q I1 q1
 |false=>exact hb ae s1 σ H1 Q I1 q1
end
def fV(K:zz8)(H:Hp)(a:Addr)(xs:List V):Prop:=
 Rd H a (.lst xs)\/
  ∃(o:Obj) (ax:Array Value) (n:Nat),K.lookup a=some o/\o.cls=.type "list"/\o.dict=none/\o.data=.seq ax n/\ax.size<=sizeLine/\Vals xs ax.toList
def fF(K:zz8)(H:Hp)(a:Addr)(xs:List V):Prop:=
 Rd H a (.tup xs)\/
  ∃(o:Obj) (ax:Array Value) (n:Nat),K.lookup a=some o/\o.cls=.type "tuple"/\o.data=.seq ax n/\ax.size<=sizeLine/\Vals xs ax.toList
noncomputable def N4:Value->Option V
 |.none=>some .aC
 |.bool b=>some (.bl b)
 |.int i _=>some (.int i)
 |.str x _=>some (.str x)
 |.bytes b _=>some (.Oq b)
 |.float b _=>some (.Oc b)
 |.ref a=>some (.ref a)
 |.type n=>some (.ty n)
 |_=>none
def RelV.abs{x:V}{u:Value}(r:RelV x u):N4 u=some x:=by
 cases x with
 |aC=>cases r;rfl
 |bl _=>cases r;rfl
 |int _=>obtain⟨t,rfl⟩:=r;rfl
 |str _=>obtain⟨t,rfl⟩:=r;rfl
 |Oq _=>obtain⟨t,rfl⟩:=r;rfl
 |Oc _=>obtain⟨t,rfl⟩:=r;rfl
 |ref _=>cases r;rfl
 |ty _=>cases r;rfl
def RelV.inj{x y:V}{u:Value}(r:RelV x u)(q:RelV y u):x=y:=zzq (r.abs.symm.trans q.abs)
theorem Vals.inj:∀{xs ys:List V} {us:List Value},Vals xs us->Vals ys us->xs=ys
 |_,_,_,.nil,.nil=>rfl
 |_,_,_,.cons r t,.cons r' t'=>by rw [r.inj r',Vals.inj t t']
section
variable{X:Cx}{ae:List (Addr×Obj)}{σ:St}{H:Hp}{s:Shared}{a:Addr}{xs ys:List V}
def fV.of{K:zz8}(h:H a=some (.lst xs)):fV K H a xs:=.inl (.inl h)
def Inv.list(I:Inv X ae σ H s)(h:fV X.K H a xs):∃ax:List Value,Vals xs ax/\PlainL s.heap a ax.toArray/\xs.length<=sizeLine:=by
 rcases h with h|⟨o,ax,n,hk,hc,hd,hs,hz,r⟩
 ·obtain⟨z,ax,n,r,e⟩:=h.ok I.aL
  exact⟨ax,r,⟨_,n,e,rfl,rfl,rfl⟩,z⟩
 ·refine⟨ax.toList,r,⟨o,n,I.ql a o hk,hc,hd,by simpa using hs⟩,?_⟩;have e:=r.length
  simp! [zzd] at e;omega
def Inv.tuple(I:Inv X ae σ H s)(h:fF X.K H a xs):∃ax:List Value,Vals xs ax/\IsTup s.heap a ax.toArray/\xs.length<=sizeLine:=by
 rcases h with h|⟨o,ax,n,hk,hc,hs,hz,r⟩
 ·obtain⟨z,ax,r,p⟩:=h.ok I.aL
  exact⟨ax,r,p,z⟩
 ·refine⟨ax.toList,r,⟨o,I.ql a o hk,hc,n,by simpa using hs⟩,?_⟩;have e:=r.length
  simp! [zzd] at e;omega
def Inv.qr(I:Inv X ae σ H s)(h:fV X.K H a xs)(h':fV X.K H a ys):xs=ys:=by
 obtain⟨ax,r,⟨o,n,e,_,_,d⟩,_⟩:=I.list h
 obtain⟨its',r',⟨o',n',e',_,_,d'⟩,_⟩:=I.list h'
 rw [e] at e';cases e';rw [d] at d'
 injection d' with d1 _
 have:ax=its':=by simpa using congrArg Array.toList d1
 subst this;exact r.inj r'
def Inv.nT(I:Inv X ae σ H s)(h:fF X.K H a xs)(h':fF X.K H a ys):xs=ys:=by
 obtain⟨ax,r,⟨o,e,_,n,d⟩,_⟩:=I.tuple h
 obtain⟨its',r',⟨o',e',_,n',d'⟩,_⟩:=I.tuple h'
 rw [e] at e';cases e';rw [d] at d'
 injection d' with d1 _
 have:ax=its':=by simpa using congrArg Array.toList d1
 subst this;exact r.inj r'
variable{st:Stmt}{rest:List Stmt}{t u:TS}{e:Expr}{te:TE}{pos:Pos}
def K8:TS:=λD σ H=>D.nx σ H
def N7(t u:TS):TS:=λD σ H=>t {D with nx:=u D} σ H
def DL:vm X [] K8:=λ_ _ σ H _ I h=>wpAny_execs_nil ⟨σ,H,I,h⟩
def AM(h1:PS X st t)(h2:vm X rest u):vm X (st::rest) (N7 t u):=by
 intro ae s σ H D I h;refine wpAny_execs_cons (bI (h1 ae s σ H {D with nx:=u D} I h) λf s1 q=>?_)
 cases f with
 |next=>
  obtain⟨σ',H',I',q⟩:=q
  exact h2 ae s1 σ' H' D I' q
 |ret v=>exact q
 |brk=>exact q
 |cont=>exact q
def GC:TS:=λD σ H=>D.bk σ H
def yn:PS X (.Break pos) GC:=λ_ _ σ H _ I h=>wpAny_Break ⟨σ,H,I,h⟩
def Inv.quiet{ae:List (Addr×Obj)}{σ:St}{H:Hp}{s:Shared}(I:Inv X ae σ H s):interactive X.env=false:=by simp [interactive,I.ok.kind]
def Lm(te:TE):TS:=λD σ H=>te σ H λ_ H1=>D.nx σ H1
theorem oj(he:PE X e te)(hs:swapsWith e none pos.line X.env=pure false:=by rfl):PS X (.Expr e pos) (Lm te):=by
 intro ae s σ H D I h;exact wpAny_Expr_any (bI (he ae s σ H _ I h) λv s1 ⟨x,H1,I1,r1,q1⟩=>⟨σ,H1,I1,q1⟩) I.quiet hs
def Ob(te:TE):TS:=λD σ H=>te σ H D.rt
def HP(he:PE X e te):PS X (.Return (some e) pos) (Ob te):=by
 intro ae s σ H D I h;exact wpAny_Return_some (bI (he ae s σ H _ I h) λv s1 ⟨x,H1,I1,r1,q1⟩=>⟨x,σ,H1,I1,r1,q1⟩)
def N8(c:TT)(t u:TS):TS:=λD σ H=>c σ H λb H1=>if b=true then t D σ H1 else u D σ H1
def K9{c:Expr}{a b:List Stmt}{tc:TT}(hc:PT X c tc)(ha:vm X a t)(hb:vm X b u):PS X (.If c a b pos) (N8 tc t u):=by
 intro ae s σ H D I h;refine wpAny_If (bI (hc ae s σ H _ I h) λd s1 ⟨H1,I1,q1⟩=>?_)
 cases d with
 |true=>exact ha ae s1 σ H1 D I1 q1
 |false=>exact hb ae s1 σ H1 D I1 q1
end
abbrev TG:=V->St->Hp->(St->Hp->Prop)->Prop
abbrev Fn:=List V->St->Hp->(St->Hp->Prop)->Prop
def PG(X:Cx)(target:Expr)(t:TG):Prop:=
 ∀(ae:List (Addr×Obj)) (s:Shared) (σ:St) (H:Hp) (v:V) (u:Value) (Q:St->Hp->Prop),Inv X ae σ H s->RelV v u->t v σ H Q->
  wpAny (model X.prog X.w) X.A (assign target X.env u) (λ_ s'=>∃σ' H',Inv X ae σ' H' s'/\Q σ' H') X.xe s
def KZ(X:Cx)(ts:List Expr)(t:Fn):Prop:=
 ∀(ae:List (Addr×Obj)) (s:Shared) (σ:St) (H:Hp) (vs:List V) (us:List Value) (Q:St->Hp->Prop),Inv X ae σ H s->Vals vs us->t vs σ H Q->
  wpAny (model X.prog X.w) X.A (assignInOrder ((assignEach ts X.env).map (·.2)) us) (λ_ s'=>∃σ' H',Inv X ae σ' H' s'/\Q σ' H') X.xe s
abbrev Gk:=V->V->V->Hp->(Hp->Prop)->Prop
def Kv(X:Cx)(t:Gk):Prop:=
 ∀(ae:List (Addr×Obj)) (s:Shared) (σ:St) (H:Hp) (o i v:V) (ov iv u:Value) (Q:Hp->Prop),Inv X ae σ H s->RelV o ov->RelV i iv->RelV v u->t o i v H Q->
  wpAny (model X.prog X.w) X.A (setItem ov iv u) (λ_ s'=>∃H',Inv X ae σ H' s'/\Q H') X.xe s
section
variable{X:Cx}{pos:Pos}
def gH(i:Nat):TG:=λv σ H Q=>Q (σ.set i (some v)) H
def CJ{i:Nat}{x:Str}(hN:X.N.Nodup)(hi:X.N[i]?=some x)(hx:Loc X.env.scope x)(hf:X.fn x=true\/X.env.scope.names.lookup x=some .local:=by first|exact .inl rfl|exact .inr rfl|assumption):PG X (.Name x pos) (gH i):=by
 intro ae s σ H v u Q I r h;exact wpAny_assign_Name (rH I hN hi hx r (λs' I'=>⟨_,H,I',h⟩) hf)
def Hr:Fn:=λvs σ H Q=>vs=[]/\Q σ H
def uH(t:TG)(u:Fn):Fn:=λvs σ H Q=>∃v r,vs=v::r/\t v σ H λσ' H'=>u r σ' H' Q
def BU:KZ X [] Hr:=by
 intro ae s σ H vs us Q I r h;obtain⟨e,h⟩:=h
 subst e;cases r;exact assignInOrder_nil ⟨σ,H,I,h⟩
theorem yv{e:Expr}{es:List Expr}{t:TG}{u:Fn}(h1:PG X e t)(h2:KZ X es u)
 (hs:(assignEach (e::es) X.env).map (·.2)=assign e X.env::(assignEach es X.env).map (·.2):=by rfl):KZ X (e::es) (uH t u):=by
 intro ae s σ H vs us Q I r h;obtain⟨v,vr,e1,h⟩:=h
 subst e1;cases r with
 |cons r rr=>
  rw [hs];refine assignInOrder_cons (bI (h1 ae s σ H _ _ _ I r h) λ_ s1 ⟨σ1,H1,I1,q1⟩=>?_)
  exact h2 ae s1 σ1 H1 _ _ Q I1 rr q1
noncomputable def LQ(K:zz8)(n:Nat)(t:Fn):TG:=λv σ H Q=>∃a xs,v=.ref a/\fF K H a xs/\xs.length=n/\t xs σ H Q
theorem IZ{es:List Expr}{k:Nat}{t:Fn}{n:Nat}(hc:X.calm=true)(h:KZ X es t)
 (hn:(assignEach es X.env).length=n:=by rfl) (ez:(assignEach es X.env).findIdx? (·.1)=none:=by rfl):PG X (.Tuple es k pos) (LQ X.K n t):=by
 intro ae s σ H v u Q I r hw;obtain⟨a,xs,e1,hq,hl,hw⟩:=hw
 subst e1;cases r;obtain⟨ax,rv,ht,hz⟩:=I.tuple hq
 refine assign_Tuple_tuple (I.ok.hd hc) ht (by simp [hn,<-hl,rv.length]) ez λh' hx=>?_
 have I1:Inv X ae σ H {s with heap:=h'}:=I.kept (t':=s.toks) λb o e=>hx b o (zzb (zzO e)) e
 exact h ae _ σ H xs _ Q I1 (by simpa using rv) hw
def PL(to ti:TE)(t:Gk):TG:=λv σ H Q=>to σ H λo H1=>ti σ H1 λi H2=>t o i v H2 λH3=>Q σ H3
def yO{o i:Expr}{to ti:TE}{t:Gk}(ho:PE X o to)(hi:PE X i ti)(hs:Kv X t)
 (ha:∀v,assign (.Subscript o i pos) X.env v=(do
  let ov<-holding [v] (eval o X.env)
  let iv<-holding [v,ov] (eval i X.env)
  standAt pos
  holding [v,ov,iv] (setItem ov iv v)
  release [v,ov,iv] []):=by intro _;rfl):PG X (.Subscript o i pos) (PL to ti t):=by
 intro ae s σ H v u Q I r h;rw [ha];refine zzA (wpAny_holding (bI (ho ae s σ H _ I h) λov s1 ⟨x,H1,I1,r1,q1⟩=>?_))
 refine zzA (wpAny_holding (bI (hi ae s1 σ H1 _ I1 q1) λiv s2 ⟨y,H2,I2,r2,q2⟩=>?_))
 refine zzA (wpAny_standAt (zzA (wpAny_holding (bI (hs ae s2 σ H2 x y v ov iv u _ I2 r1 r2 r q2) λ_ s3 ⟨H3,I3,q3⟩=>?_))))
 exact wpAny_release ⟨σ,H3,I3,q3⟩
def B3(te:TE)(g:TG):TS:=λD σ H=>te σ H λx H1=>g x σ H1 D.nx
theorem tm{tg e:Expr}{te:TE}{g:TG}(he:PE X e te)(hg:PG X tg g)(hs:swapsWithSole [tg] e pos.line X.env=pure false:=by rfl)(hw:swappedStores [tg] e X.env=pure none:=by rfl)
 (h1:(assignEach [tg] X.env).map (·.2)=[assign tg X.env]:=by rfl):PS X (.Assign [tg] e pos) (B3 te g):=by
 intro ae s σ H D I h;refine wpAny_Assign_stores (bI (he ae s σ H _ I h) λv s1 ⟨x,H1,I1,r1,q1⟩=>?_) hs hw
 rw [h1];exact bI (hg ae s1 σ H1 x v _ I1 r1 q1) λ_ s2 q=>q
theorem me{i:Nat}{x:Str}{e:Expr}{te:TE}{pos':Pos}(hN:X.N.Nodup)(hi:X.N[i]?=some x)(hx:Loc X.env.scope x)(he:PE X e te)(hs:swapsWith e (some (.Name x pos')) pos.line X.env=pure false:=by rfl)(hf:X.fn x=true\/X.env.scope.names.lookup x=some .local:=by first|exact .inl rfl|exact .inr rfl|assumption):
 PS X (.Assign [.Name x pos'] e pos) (B3 te (gH i)):=by
 intro ae s σ H D I h;refine wpAny_Assign_Name (bI (he ae s σ H _ I h) λv s1 ⟨y,H1,I1,r1,q1⟩=>?_) hs
 exact rH I1 hN hi hx r1 (λs2 I2=>⟨_,H1,I2,q1⟩) hf
noncomputable def Il(c:TT)(tb:TS):TS:=λD σ H=>∃W:Nat->St->Hp->Prop,(∃m,W m σ H)/\∀m σ H,W m σ H->
 c σ H λb H1=>if b=true then∃N:St->Hp->Prop,(∀σ' H',N σ' H'->∃m',m'<m/\W m' σ' H')/\tb {D with nx:=N,ct:=N,bk:=D.nx} σ H1 else D.nx σ H1
def yR{c:Expr}{body:List Stmt}{tc:TT}{tb:TS}(hp:PassesOwn (model X.prog X.w) X.A X.env X.xe)(hc:PT X c tc)(hb:vm X body tb):PS X (.While c body [] pos) (Il tc tb):=by
 intro ae s σ H D I h;obtain⟨W,⟨m0,w0⟩,turn⟩:=h
 refine wpAny_While (codeAny_whileLoop (λn s'=>∃σ' H',Inv X ae σ' H' s'/\W n σ' H') ?_ m0 ⟨σ,H,I,w0⟩)
 rintro n s1 ⟨σ1,H1,I1,w1⟩
 refine wpAny_passesOwn hp (bI (hc ae s1 σ1 H1 _ I1 (turn n σ1 H1 w1)) λb s2 ⟨H2,I2,q2⟩=>?_)
 cases b with
 |true=>
  obtain⟨N,hN,q2⟩:=q2
  rw [if_pos rfl];refine wpAny_passesOwn hp (bI (hb ae s2 σ1 H2 _ I2 q2) λf s3 q3=>?_)
  cases f with
  |next=>
   obtain⟨σ3,H3,I3,n3⟩:=q3
   obtain⟨m',hm,w3⟩:=hN σ3 H3 n3
   exact⟨m',hm,σ3,H3,I3,w3⟩
  |cont=>
   obtain⟨σ3,H3,I3,n3⟩:=q3
   obtain⟨m',hm,w3⟩:=hN σ3 H3 n3
   exact⟨m',hm,σ3,H3,I3,w3⟩
  |brk=>exact q3
  |ret v=>exact q3
 |false=>
  rw [if_neg zzf];exact wpAny_execs_nil ⟨σ1,H2,I2,q2⟩
end
structure It where
 go:Nat->Hp->Prop
 JN:Nat->Hp->V->Hp->Prop
 stop:Nat->Hp->Prop
def fu(X:Cx)(ae:List (Addr×Obj))(H:Hp)(b:Addr):Prop:=
 H b=none/\b≠X.env.locals/\b∉X.fs/\(b∈X.ex\/X.s₀.heap.objs.size<=b)/\(∀x c,X.env.cells.lookup x=some c->c≠b)/\∀p∈X.pn++ae,p.1≠b
def Inv.lA{X:Cx}{ae:List (Addr×Obj)}{σ:St}{H H':Hp}{s:Shared}{b:Addr}(I:Inv X ae σ H s)(hb:(zz9 s)<=b)(hn:H' b=none):fu X ae H' b:=by
 refine⟨hn,Nat.ne_of_gt (zzW I.lt hb),I.NM hb,.inr (zzU I.sz hb),λx c e z=>?_,λp hp z=>?_⟩
 ·obtain⟨v,q⟩:=I.cell x c e
  exact absurd (zzW q.lt (by rw [z];exact hb)) (Nat.lt_irrefl _)
 ·exact absurd (zzW (zzO (I.pin p hp).1) (by rw [z];exact hb)) (Nat.lt_irrefl _)
structure Turn(P:Program)(w:World)(K:zz8)(tg:Expr)(J:It)(fp:List Addr)(it:Addr)(tn:Nat->Heap->Prop):Prop where
 mem:it∈fp
 obj:∀i h,tn i h->∀b∈fp,∃o,h.get? b=some o/\∀v,o.data≠.cell v
 keep:∀i h h',tn i h->(∀b∈fp,∀o,h.get? b=some o->h'.get? b=some o)->tn i h'
 item:∀(X:Cx),X.prog=P->X.w=w->X.K=K->X.calm=true->∀(i:Nat) (ae:List (Addr×Obj)) (s:Shared) (σ:St) (H:Hp) (E:Value->Shared->Prop),Inv X ae σ H s->(∀b∈fp,fu X ae H b)->tn i s.heap->J.go i H->
  wpAny (model P w) X.A (pyNext (.ref it)) (λr s1=>∃u,r=some u/\
   wpAny (model P w) X.A (letOwnedTupleGo tg (.ref it) u) (λ_ s2=>∃x H',Inv X ae σ H' s2/\RelV x u/\J.JN i H x H'/\tn (i+1) s2.heap/\∀b∈fp,H' b=none) E s1) E s
 done:∀(X:Cx),X.prog=P->X.w=w->X.K=K->X.calm=true->∀(i:Nat) (ae:List (Addr×Obj)) (s:Shared) (σ:St) (H:Hp) (E:Value->Shared->Prop),Inv X ae σ H s->(∀b∈fp,fu X ae H b)->tn i s.heap->J.stop i H->
  wpAny (model P w) X.A (pyNext (.ref it)) (λr s1=>r=none/\Inv X ae σ H s1) E s
 self:∀(A:Around) (i:Nat) (s:Shared) (Q:Value->Shared->Prop) (E:Value->Shared->Prop),tn i s.heap->Q (.ref it) s->wpAny (model P w) A (pyIter (.ref it)) Q E s
abbrev TI:=St->Hp->(It->Hp->Prop)->Prop
def QE(X:Cx)(ae:List (Addr×Obj))(σ:St)(tg:Expr)(R:It->Hp->Prop)(Oy:Value)(s2:Shared):Prop:=
 ∃(it:Addr) (fp:List Addr) (tn:Nat->Heap->Prop) (J:It) (H':Hp),Oy=.ref it/\Inv X ae σ H' s2/\Turn X.prog X.w X.K tg J fp it tn/\tn 0 s2.heap/\(∀b∈fp,fu X ae H' b)/\R J H'
def PI(X:Cx)(tg iter:Expr)(wi:TI):Prop:=
 ∀(ae:List (Addr×Obj)) (s:Shared) (σ:St) (H:Hp) (R:It->Hp->Prop),Inv X ae σ H s->wi σ H R->
  wpAny (model X.prog X.w) X.A (eval iter X.env) (λv s1=>wpAny (model X.prog X.w) X.A (pyIter v) (QE X ae σ tg R) X.xe s1) X.xe s
def vE{M:Model}{A:Around}{E:Value->Shared->Prop}{s:Shared}{tg:Expr}{it:Addr}{u:Value}{o:Obj}{n:String}{vs:Array Value}{Q:Unit->Shared->Prop}(ho:s.heap.get? it=some o)(hc:o.cls=.type n)(hd:o.data=.fields vs)
 (hn:["enumerate","zip","dict_itemiterator","dict_reverseitemiterator","odict_iterator","itertools.zip_longest","itertools.pairwise"].contains n=false) (hQ:Q () s):wpAny M A (letOwnedTupleGo tg (.ref it) u) Q E s:=by
 unfold letOwnedTupleGo;cases tg<;>first
  |exact zzG hQ
  |(cases u<;>first
   |exact zzG hQ
   | (refine zzA (wpAny_load ho ?_)
      rw [hc,hd];show wpAny M A (if(["enumerate","zip","dict_itemiterator","dict_reverseitemiterator","odict_iterator","itertools.zip_longest","itertools.pairwise"].contains n&&vs[0]?==some (rawInt _))=true then _ else _) Q E s;rw [if_neg (by intro h;rw [hn,Bool.false_and] at h;cases h)];exact zzG hQ))
noncomputable def Px(K:zz8)(a:Addr):It:=
 ⟨λi H=>∃xs x,fV K H a xs/\xs[i]?=some x,λi H x H'=>H'=H/\∀xs,fV K H a xs->xs[i]?=some x,λi H=>∃xs,fV K H a xs/\xs.length<=i⟩
noncomputable def O4(K:zz8)(a:Addr):It:=
 ⟨λi H=>∃xs x,fF K H a xs/\xs[i]?=some x,λi H x H'=>H'=H/\∀xs,fF K H a xs->xs[i]?=some x,λi H=>∃xs,fF K H a xs/\xs.length<=i⟩
def L8(lo:Int)(n:Nat):It:=⟨λi _=>i<n,λi H x H'=>H'=H/\x=.int (lo+i),λi _=>n<=i⟩
def wX{P:Program}{w:World}{K:zz8}{tg:Expr}(a it:Addr):Turn P w K tg (Px K a) [it] it (λi h=>h.IsListIter it a i) where
 mem:=by simp
 obj:=λi h st b hb=>by
  have e:b=it:=by simpa using hb
  subst e;obtain⟨o,e,c,d⟩:=st
  exact⟨o,e,λv z=>by rw [d] at z;cases z⟩
 keep:=λi h h' st k=>st.at λo e=>k it (by simp) o e
 item:=by
  intro X hP hw hK hc i ae s σ H E I hf st hg;subst hP hw hK;obtain⟨xs,x,hq,hx⟩:=hg
  obtain⟨ax,rv,p,hz⟩:=I.list hq
  obtain⟨u,hu,ru⟩:=rv.get hx
  obtain⟨f0,f1,f2,f3,f4,f5⟩:=hf it (by simp)
  refine wpAny_pyNext_list_item st p.isList (x:=u) (by simpa using hu) λh' kl sb=>?_
  have I1:Inv X ae σ H {s with heap:=h'}:=I.turned (t':=s.toks) (λb o hb e=>(sb.2 b hb).trans e) f0 f1 f3 f4 f5
  obtain⟨o,e,c,d⟩:=id kl
  exact⟨u,rfl,vE (s:={s with heap:=h'}) e c d (by decide) ⟨x,H,I1,ru,⟨rfl,λys hy=>by rw [I.qr hy hq];exact hx⟩,kl,λb hb=>(hf b hb).1⟩⟩
 done:=by
  intro X hP hw hK hc i ae s σ H E I hf st hg;subst hP hw hK;obtain⟨xs,hq,hx⟩:=hg
  obtain⟨ax,rv,p,hz⟩:=I.list hq
  obtain⟨f0,f1,f2,f3,f4,f5⟩:=hf it (by simp)
  have hl:=rv.length
  exact wpAny_pyNext_list_end (I.ok.hd hc) st p.isList (by simp;omega) λh' eb=>⟨rfl,I.turned (t':=s.toks) (λb o hb e=>eb b o hb e) f0 f1 f3 f4 f5⟩
 self:=λ_ _ _ _ _ st h=>wpAny_pyIter_listiter st h
def ud{P:Program}{w:World}{K:zz8}{tg:Expr}(a it:Addr):Turn P w K tg (O4 K a) [it] it (λi h=>h.IsTupleIter it a i) where
 mem:=by simp
 obj:=λi h st b hb=>by
  have e:b=it:=by simpa using hb
  subst e;obtain⟨o,e,c,d⟩:=st
  exact⟨o,e,λv z=>by rw [d] at z;cases z⟩
 keep:=λi h h' st k=>st.at λo e=>k it (by simp) o e
 item:=by
  intro X hP hw hK hc i ae s σ H E I hf st hg;subst hP hw hK;obtain⟨xs,x,hq,hx⟩:=hg
  obtain⟨ax,rv,p,hz⟩:=I.tuple hq
  obtain⟨u,hu,ru⟩:=rv.get hx
  obtain⟨f0,f1,f2,f3,f4,f5⟩:=hf it (by simp)
  refine wpAny_pyNext_tuple_item st (show s.heap.IsTuple a ax.toArray from p) (x:=u) (by simpa using hu) λh' kl sb=>?_
  have I1:Inv X ae σ H {s with heap:=h'}:=I.turned (t':=s.toks) (λb o hb e=>(sb.2 b hb).trans e) f0 f1 f3 f4 f5
  obtain⟨o,e,c,d⟩:=id kl
  exact⟨u,rfl,vE (s:={s with heap:=h'}) e c d (by decide) ⟨x,H,I1,ru,⟨rfl,λys hy=>by rw [I.nT hy hq];exact hx⟩,kl,λb hb=>(hf b hb).1⟩⟩
 done:=by
  intro X hP hw hK hc i ae s σ H E I hf st hg;subst hP hw hK;obtain⟨xs,hq,hx⟩:=hg
  obtain⟨ax,rv,p,hz⟩:=I.tuple hq
  obtain⟨f0,f1,f2,f3,f4,f5⟩:=hf it (by simp)
  have hl:=rv.length
  exact wpAny_pyNext_tuple_end (I.ok.hd hc) st (show s.heap.IsTuple a ax.toArray from p) (by simp;omega) λh' eb=>⟨rfl,I.turned (t':=s.toks) (λb o hb e=>eb b o hb e) f0 f1 f3 f4 f5⟩
 self:=λ_ _ _ _ _ st h=>wpAny_pyIter_tupleiter st h
def sj{P:Program}{w:World}{K:zz8}{tg:Expr}(it:Addr)(lo:Int)(n:Nat):Turn P w K tg (L8 lo n) [it] it (λi h=>IsRangeIter h it (lo+(i:Nat)*1) ((n:Int)-(i:Nat)) 1) where
 mem:=by simp
 obj:=λi h st b hb=>by
  have e:b=it:=by simpa using hb
  subst e;exact⟨_,st,λv z=>by
   have z':Data.fields _=Data.cell v:=z
   cases z'⟩
 keep:=λi h h' st k=>k it (by simp) _ st
 item:=by
  intro X hP hw hK hc i ae s σ H E I hf st hg;subst hP hw hK;obtain⟨f0,f1,f2,f3,f4,f5⟩:=hf it (by simp)
  have W:=Walks.range (prog:=X.prog) (w:=X.w) (I.ok.hd hc) it lo 1 n
  refine W.item i s _ _ hg st λv h' tk hv kl kk=>?_
  obtain⟨t,rfl⟩:=hv
  have I1:Inv X ae σ H {s with heap:=h',toks:=tk}:=I.turned (λb o hb e=>kk b o (by simpa using hb) e) f0 f1 f3 f4 f5
  refine⟨_,rfl,vE (s:={s with heap:=h',toks:=tk}) (n:="range_iterator") kl rfl rfl (by decide) ⟨.int (lo+i),H,I1,⟨t,?_⟩,⟨rfl,rfl⟩,kl,λb hb=>(hf b hb).1⟩⟩
  rw [Int.mul_one]
 done:=by
  intro X hP hw hK hc i ae s σ H E I hf st hg;subst hP hw hK;obtain⟨f0,f1,f2,f3,f4,f5⟩:=hf it (by simp)
  exact wpAny_pyNext_range_end (I.ok.hd hc) st (by have:n<=i:=hg;omega) λh' eb=>⟨rfl,I.turned (t':=s.toks) (λb o hb e=>eb b o hb e) f0 f1 f3 f4 f5⟩
 self:=λ_ _ _ _ _ st h=>wpAny_pyIter_rangeiter st h
section
variable{X:Cx}{tg:Expr}
noncomputable def KY(K:zz8)(tl:TE):TI:=λσ H R=>tl σ H λx H1=>∃a,x=.ref a/\(∃xs,fV K H1 a xs)/\R (Px K a) H1
noncomputable def Oh(K:zz8)(tl:TE):TI:=λσ H R=>tl σ H λx H1=>∃a,x=.ref a/\(∃xs,fF K H1 a xs)/\R (O4 K a) H1
def vd{l:Expr}{tl:TE}(hl:PE X l tl):PI X tg l (KY X.K tl):=by
 intro ae s σ H R I h;refine bI (hl ae s σ H _ I h) λv s1 ⟨x,H1,I1,r1,q1⟩=>?_
 obtain⟨a,e,⟨xs,hq⟩,q⟩:=q1
 subst e;cases r1;obtain⟨ax,rv,p,hz⟩:=I1.list hq
 refine wpAny_pyIter_list p.isList ?_;refine⟨(zz9 s1),[(zz9 s1)],_,_,H1,rfl,I1.kept (t':=s1.toks) λb o e=>zzB _ e,wX a _,⟨_,zzX _ rfl,rfl,rfl⟩,λb hb=>?_,q⟩
 have e:b=(zz9 s1):=by simpa using hb
 subst e;exact I1.lA (zzE _) (I1.aL.fresh (zzE _))
def Gr{l:Expr}{tl:TE}(hl:PE X l tl):PI X tg l (Oh X.K tl):=by
 intro ae s σ H R I h;refine bI (hl ae s σ H _ I h) λv s1 ⟨x,H1,I1,r1,q1⟩=>?_
 obtain⟨a,e,⟨xs,hq⟩,q⟩:=q1
 subst e;cases r1;obtain⟨ax,rv,p,hz⟩:=I1.tuple hq
 refine wpAny_pyIter_tuple (show s1.heap.IsTuple a ax.toArray from p) ?_;refine⟨(zz9 s1),[(zz9 s1)],_,_,H1,rfl,I1.kept (t':=s1.toks) λb o e=>zzB _ e,ud a _,⟨_,zzX _ rfl,rfl,rfl⟩,λb hb=>?_,q⟩
 have e:b=(zz9 s1):=by simpa using hb
 subst e;exact I1.lA (zzE _) (I1.aL.fresh (zzE _))
def rR{ae:List (Addr×Obj)}{σ:St}{H:Hp}{s:Shared}{R:It->Hp->Prop}{E:Value->Shared->Prop}{lo hi:Int}{t u v:Tok}{tk:Nat}(I:Inv X ae σ H s)(h1: -(2^62)<=lo)(h2:lo<2^62)(h3: -(2^62)<=hi)(h4:hi<2^62)
 (q:R (L8 lo (hi-lo).toNat) H):wpAny (model X.prog X.w) X.A (pyIter (.ref (zz9 s))) (QE X ae σ tg R) E {s with heap:=s.heap.push {cls:=.type "range",data:=.fields #[.int lo t,.int hi u,.int 1 v]},toks:=tk}:=by
 refine wpAny_pyIter_range (IsRange.new ..) (small_one h1 h2 h3 h4) ?_;have I1:Inv X ae σ H {s with heap:=s.heap.push {cls:=.type "range",data:=.fields #[.int lo t,.int hi u,.int 1 v]},toks:=tk}:=I.kept λb o e=>zzB _ e
 refine⟨(s.heap.push {cls:=.type "range",data:=.fields #[.int lo t,.int hi u,.int 1 v]}).objs.size,[(s.heap.push {cls:=.type "range",data:=.fields #[.int lo t,.int hi u,.int 1 v]}).objs.size],_,_,H,rfl,
  I1.kept (t':=tk) λb o e=>zzB _ e,sj _ lo (hi-lo).toNat,?_,λb hb=>?_,q⟩
 ·have e1:lo+((0:Nat):Int)*1=lo:=by simp
  have e2:(((hi-lo).toNat:Nat):Int)-((0:Nat):Int)=Builtin.Range.rangeSize lo hi 1:=by rw [rangeSize_one];split<;>omega
  show IsRangeIter _ _ (lo+((0:Nat):Int)*1) ((((hi-lo).toNat:Nat):Int)-((0:Nat):Int)) 1
  rw [e1,e2];exact zzX _ rfl
 ·have e:b=(s.heap.push {cls:=.type "range",data:=.fields #[.int lo t,.int hi u,.int 1 v]}).objs.size:=by simpa using hb
  subst e;exact I1.lA (zzE _) (I1.aL.fresh (zzE _))
def Md(ta:TA):TI:=λσ H R=>ta σ H λvs H1=>∃j:Int,vs=[.int j]/\ -(2^62)<=j/\j<2^62/\R (L8 0 j.toNat) H1
def K6(ta:TA):TI:=λσ H R=>ta σ H λvs H1=>∃i j:Int,vs=[.int i,.int j]/\(-(2^62)<=i/\i<2^62/\ -(2^62)<=j/\j<2^62)/\R (L8 i (j-i).toNat) H1
theorem wZ{a:Expr}{ta:TA}{p pos:Pos}(hg:Gl X "range")(hm:X.mg "range"=none)(ha:PA X [a] ta)(hs:starEach [a] X.env=[(false,eval a X.env)]:=by rfl):PI X tg (.Call (.Name "range" p) [a] [] pos) (Md ta):=by
 intro ae s σ H R I h;refine Call_ (dX I hg hm boot_range (PyProof.Rows.callWith_type1 (bI (ha pos ae s σ H _ I h) λus s1 ⟨vs,H1,I1,r1,q1⟩=>?_) hs rfl))
 obtain⟨j,e,q1,q2,q⟩:=q1
 subst e;cases r1 with
 |cons r rr=>
  cases rr;obtain⟨t,rfl⟩:=r
  exact call_range_1 (rR I1 (by omega) (by omega) q1 q2 (by simpa using q))
theorem wj{a b:Expr}{ta:TA}{p pos:Pos}(hg:Gl X "range")(hm:X.mg "range"=none)(ha:PA X [a,b] ta)(hs:starEach [a,b] X.env=[(false,eval a X.env),(false,eval b X.env)]:=by rfl)(vh:starEach [b] X.env=[(false,eval b X.env)]:=by rfl):
 PI X tg (.Call (.Name "range" p) [a,b] [] pos) (K6 ta):=by
 intro ae s σ H R I h;refine Call_ (dX I hg hm boot_range (PyProof.Rows.callWith_type1 (bI (ha pos ae s σ H _ I h) λus s1 ⟨vs,H1,I1,r1,q1⟩=>?_) (by rw [hs,vh]) (by rw [vh];rfl)))
 obtain⟨i,j,e,⟨q1,q2,q3,q4⟩,q⟩:=q1
 subst e;cases r1 with
 |cons r rr=>
  cases rr with
  |cons r' rr=>
   cases rr;obtain⟨t,rfl⟩:=r
   obtain⟨t',rfl⟩:=r'
   exact call_range_2 (rR I1 q1 q2 q3 q4 q)
noncomputable def NX(wi:TI)(g:TG)(tb:TS):TS:=λD σ H=>wi σ H λJ H1=>∃W:Nat->Nat->St->Hp->Prop,(∃m,W 0 m σ H1)/\∀i m σ H,W i m σ H->
 (J.stop i H/\D.nx σ H)\/(J.go i H/\∃N:St->Hp->Prop,(∀σ' H',N σ' H'->∃m',m'<m/\W (i+1) m' σ' H')/\∀x H',J.JN i H x H'->g x σ H' λσ2 H2=>tb {D with nx:=N,ct:=N,bk:=D.nx} σ2 H2)
def pN(fp:List Addr)(h:Heap):List (Addr×Obj):=fp.filterMap λb=>(h.get? b).map λo=>(b,o)
def dC{fp:List Addr}{h:Heap}{b:Addr}{o:Obj}(hb:b∈fp)(e:h.get? b=some o):(b,o)∈pN fp h:=zz1.mpr ⟨b,hb,by rw [e];rfl⟩
def v7{fp:List Addr}{h:Heap}{p:Addr×Obj}(hp:p∈pN fp h):p.1∈fp/\h.get? p.1=some p.2:=by
 obtain⟨b,hb,e⟩:=zz1.mp hp
 cases q:h.get? b with
 |none=>rw [q] at e;cases e
 |some o=>
  rw [q] at e;have e':(b,o)=p:=zzq e
  subst e';exact⟨hb,q⟩
theorem Inv.pinned{ae:List (Addr×Obj)}{σ:St}{H:Hp}{s:Shared}{fp:List Addr}(I:Inv X ae σ H s)(hf:∀b∈fp,fu X ae H b)(ho:∀b∈fp,∃o,s.heap.get? b=some o/\∀v,o.data≠.cell v):Inv X (ae++pN fp s.heap) σ H s:=
 I.gZ λp hp=>(List.mem_append.mp hp).elim (λz=>I.pin p (zzR _ z)) λz=>by
  obtain⟨hb,e⟩:=v7 z
  obtain⟨f0,f1,f2,_⟩:=hf p.1 hb
  obtain⟨o,e',d⟩:=ho p.1 hb
  rw [e] at e';cases e';exact⟨e,f0,f1,f2,d⟩
def Inv.iJ{ae pl:List (Addr×Obj)}{σ:St}{H:Hp}{s:Shared}(I:Inv X (ae++pl) σ H s):Inv X ae σ H s:=I.gZ λp hp=>I.pin p (zzR _ (zzc _ hp))
def FW{iter:Expr}{body:List Stmt}{wi:TI}{g:TG}{tb:TS}{pos:Pos}(hp:PassesOwn (model X.prog X.w) X.A X.env X.xe)(hc:X.calm=true)(hi:PI X tg iter wi)(hg:PG X tg g)(hb:vm X body tb)
 (hs:∀x,foldedSetIterable iter X.env x=pure x:=by intro _;rfl):PS X (.For tg iter body [] pos) (NX wi g tb):=by
 intro ae s σ H D I h;refine wpAny_For (bI (hi ae s σ H _ I h) λv s1 h1=>bI h1 λOy s2 h2=>?_) hs
 obtain⟨it,fp,tn,J,H2,e,I2,T,NQ,f2,W,⟨m0,w0⟩,turn⟩:=h2
 subst e;have HL:∀{H':Hp},(∀b∈fp,H' b=none)->∀b∈fp,fu X ae H' b:=λhn b hb=>⟨hn b hb,(f2 b hb).2⟩
 refine codeAny_forLoop_any (λn s'=>∃i σ' H',Inv X ae σ' H' s'/\tn i s'.heap/\(∀b∈fp,H' b=none)/\W i n σ' H') ?_ m0 ⟨0,σ,H2,I2,NQ,λb hb=>(f2 b hb).1,w0⟩
 rintro n s3 ⟨i,σ3,H3,I3,st3,fr3,w3⟩
 rcases turn i n σ3 H3 w3 with⟨stop,qn⟩|⟨go,N,hN,step⟩
 ·refine wpAny_passesOwn hp (bI (T.done X rfl rfl rfl hc i ae s3 σ3 H3 X.xe I3 (HL fr3) st3 stop) λr s4 ⟨hr,I4⟩=>?_)
  subst hr;exact wpAny_execs_nil ⟨σ3,H3,I4,qn⟩
 ·refine wpAny_passesOwn hp (bI (T.item X rfl rfl rfl hc i ae s3 σ3 H3 X.xe I3 (HL fr3) st3 go) λr s4 ⟨u,hr,h4⟩=>?_)
  subst hr;refine wpAny_passesOwn hp (bI h4 λ_ s5 ⟨x,H5,I5,r5,y5,st5,fr5⟩=>?_);have OL:=I5.pinned (HL fr5) (T.obj _ _ st5)
  refine wpAny_passesOwn hp (bI (hg _ s5 σ3 H5 x u _ OL r5 (step x H5 y5)) λ_ s6 ⟨σ6,H6,I6,q6⟩=>?_)
  refine wpAny_passesOwn hp (bI (hb _ s6 σ6 H6 _ I6 q6) λf s7 q7=>?_)
  have again:∀{σ7:St} {H7:Hp},Inv X (ae++pN fp s5.heap) σ7 H7 s7->N σ7 H7->∃m,m<n/\∃i σ' H',Inv X ae σ' H' s7/\tn i s7.heap/\(∀b∈fp,H' b=none)/\W i m σ' H':=λ{σ7 H7} I7 n7=>by
   obtain⟨m',hm,w7⟩:=hN σ7 H7 n7
   refine⟨m',hm,i+1,σ7,H7,I7.iJ,T.keep _ _ _ st5 λb hb o e=>(I7.pin (b,o) (zzR _ (zzR _ (dC hb e)))).1,λb hb=>?_,w7⟩
   obtain⟨o,e,d⟩:=T.obj _ _ st5 b hb
   exact(I7.pin (b,o) (zzR _ (zzR _ (dC hb e)))).2.1
  cases f with
  |next=>obtain⟨σ7,H7,I7,n7⟩:=q7;exact again I7 n7
  |cont=>obtain⟨σ7,H7,I7,n7⟩:=q7;exact again I7 n7
  |brk=>obtain⟨σ7,H7,I7,q7⟩:=q7;exact⟨σ7,H7,I7.iJ,q7⟩
  |ret v=>obtain⟨x7,σ7,H7,I7,r7,q7⟩:=q7;exact⟨x7,σ7,H7,I7.iJ,r7,q7⟩
end
abbrev R2:=V->V->Hp->VK->Prop
def hJ(X:Cx)(f:Value->Value->Sem Value)(r:R2):Prop:=
 ∀(ae:List (Addr×Obj)) (s:Shared) (σ:St) (H:Hp) (x y:V) (v u:Value) (Q:VK),Inv X ae σ H s->RelV x v->RelV y u->r x y H Q->
  wpAny (model X.prog X.w) X.A (f v u) (EP X ae σ Q) X.xe s
def Na(X:Cx)(f:Value->Sem Value)(r:V->Hp->VK->Prop):Prop:=
 ∀(ae:List (Addr×Obj)) (s:Shared) (σ:St) (H:Hp) (x:V) (v:Value) (Q:VK),Inv X ae σ H s->RelV x v->r x H Q->
  wpAny (model X.prog X.w) X.A (f v) (EP X ae σ Q) X.xe s
def cN(X:Cx)(f:Value)(r:List V->Hp->VK->Prop):Prop:=
 ∀(ae:List (Addr×Obj)) (s:Shared) (σ:St) (H:Hp) (xs:List V) (us:List Value) (Q:VK),Inv X ae σ H s->Vals xs us->r xs H Q->
  wpAny (model X.prog X.w) X.A (call f us) (EP X ae σ Q) X.xe s
noncomputable def JZ(r:R2)(ta tb:TE):TE:=λσ H Q=>ta σ H λx H1=>tb σ H1 λy H2=>r x y H2 Q
def RO(r:V->Hp->VK->Prop)(ta:TE):TE:=λσ H Q=>ta σ H λx H1=>r x H1 Q
noncomputable def rI(C:Int->Int->Prop)(g:Int->Int->V):R2:=λx y H Q=>∃i j,x=.int i/\y=.int j/\C i j/\Q (g i j) H
noncomputable def F0(g:Int->Int->V):R2:=λx y H Q=>∃i j,x=.int i/\y=.int j/\Q (g i j) H
def rU(g:Int->V):V->Hp->VK->Prop:=λx H Q=>∃i,x=.int i/\Q (g i) H
section
variable{X:Cx}{a b:Expr}{ta tb:TE}{pos:Pos}
def F8(ha:PE X a ta)(hb:PE X b tb){ae:List (Addr×Obj)}{s:Shared}{σ:St}{H:Hp}{R:V->V->Hp->Prop}(I:Inv X ae σ H s)
 (h:ta σ H λx H1=>tb σ H1 λy H2=>R x y H2) {Q:Value->Shared->Prop} {f:Value->Value->Sem Value}
 (hf:∀v u s2 x y H2,Inv X ae σ H2 s2->RelV x v->RelV y u->R x y H2->wpAny (model X.prog X.w) X.A (f v u) Q X.xe s2):
 wpAny (model X.prog X.w) X.A (eval a X.env) (λv s₁=>wpAny (model X.prog X.w) X.A (eval b X.env) (λu s₂=>wpAny (model X.prog X.w) X.A (f v u) Q X.xe s₂) X.xe s₁) X.xe s:=by
 refine bI (ha ae s σ H _ I h) λv s1 ⟨x,H1,I1,r1,q1⟩=>?_
 refine bI (hb ae s1 σ H1 _ I1 q1) λu s2 ⟨y,H2,I2,r2,q2⟩=>?_
 exact hf v u s2 x y H2 I2 r1 r2 q2
def LS{op:Operator}{r:R2}(ho:hJ X (binaryOp op) r)(ha:PE X a ta)(hb:PE X b tb):PE X (.BinOp a op b pos) (JZ r ta tb):=by
 intro ae s σ H Q I h;exact wpAny_BinOp (F8 ha hb I h λv u s2 x y H2 I2 rx ry q=>ho ae s2 σ H2 x y v u Q I2 rx ry q)
def Kk{op:UnaryOp}{r:V->Hp->VK->Prop}(ho:Na X (unaryOp op) r)(ha:PE X a ta):PE X (.UnaryOp op a pos) (RO r ta):=by
 intro ae s σ H Q I h;exact UnaryOp_ (bI (ha ae s σ H _ I h) λv s1 ⟨x,H1,I1,r1,q1⟩=>ho ae s1 σ H1 x v Q I1 r1 q1)
def yT{f:Value->Value->Sem Value}{C:Int->Int->Prop}{g:Int->Int->Int}
 (rule:∀(i j:Int) (t u:Tok) (s:Shared) (Q:Value->Shared->Prop) (E:Value->Shared->Prop),C i j->Q (.int (g i j) s.toks) {s with toks:=s.toks+1}->wpAny (model X.prog X.w) X.A (f (.int i t) (.int j u)) Q E s):
 hJ X f (rI C λi j=>.int (g i j)):=by
 intro ae s σ H x y v u Q I rx ry h;obtain⟨i,j,rfl,rfl,hc,q⟩:=h
 obtain⟨t,rfl⟩:=rx
 obtain⟨t',rfl⟩:=ry
 exact rule i j t t' s _ _ hc ⟨.int (g i j),H,I.tok _,⟨_,rfl⟩,q⟩
def LP{f:Value->Value->Sem Value}{g:Int->Int->Int}
 (rule:∀(i j:Int) (t u:Tok) (s:Shared) (Q:Value->Shared->Prop) (E:Value->Shared->Prop),Q (.int (g i j) s.toks) {s with toks:=s.toks+1}->wpAny (model X.prog X.w) X.A (f (.int i t) (.int j u)) Q E s):
 hJ X f (F0 λi j=>.int (g i j)):=by
 intro ae s σ H x y v u Q I rx ry h;obtain⟨i,j,rfl,rfl,q⟩:=h
 obtain⟨t,rfl⟩:=rx
 obtain⟨t',rfl⟩:=ry
 exact rule i j t t' s _ _ ⟨.int (g i j),H,I.tok _,⟨_,rfl⟩,q⟩
def Ja{f:Value->Value->Sem Value}{g:Int->Int->Bool}
 (rule:∀(i j:Int) (t u:Tok) (s:Shared) (Q:Value->Shared->Prop) (E:Value->Shared->Prop),Q (.bool (g i j)) s->wpAny (model X.prog X.w) X.A (f (.int i t) (.int j u)) Q E s):
 hJ X f (F0 λi j=>.bl (g i j)):=by
 intro ae s σ H x y v u Q I rx ry h;obtain⟨i,j,rfl,rfl,q⟩:=h
 obtain⟨t,rfl⟩:=rx
 obtain⟨t',rfl⟩:=ry
 exact rule i j t t' s _ _ ⟨.bl (g i j),H,I,rfl,q⟩
def Py(i j:Int):Prop:=0<j/\j<1073741824
def IK(i j:Int):Prop:=(-(2^64)<i/\i<2^64)\/(-(2^64)<j/\j<2^64)
def IK.ok{i j:Int}(h:IK i j):IntMulOk i j:=by
 rcases h with⟨h1,h2⟩|⟨h1,h2⟩
 ·exact .of_left (intBits_le_64 h1 h2)
 ·exact .of_right (intBits_le_64 h1 h2)
def HB:hJ X (binaryOp .Add) (F0 λi j=>.int (i+j)):=LP λ_ _ _ _ _ _ _ q=>add_int q
def Hl:hJ X (binaryOp .Sub) (F0 λi j=>.int (i-j)):=LP λ_ _ _ _ _ _ _ q=>sub_int q
def Hc:hJ X (binaryOp .Mult) (rI IK λi j=>.int (i*j)):=yT λ_ _ _ _ _ _ _ hc q=>mul_int q hc.ok
theorem EV:hJ X (binaryOp .FloorDiv) (rI Py λi j=>.int (i/j)):=yT λi j _ _ _ _ _ hc q=>by
 have h1:(0:Int)<j:=hc.1
 have h2:j<1073741824:=hc.2
 exact floordiv_int (by omega) (by rw [Int.fdiv_eq_ediv_of_nonneg i (by omega)];exact q) (.inl (PyProof.noPylong_small (by omega)))
theorem Jz:hJ X (binaryOp .Mod) (rI (λ_ j=>0<j) λi j=>.int (i%j)):=yT λi j _ _ _ _ _ hc q=>by
 have h1:(0:Int)<j:=hc
 exact mod_int' (by omega) (by rw [Int.fmod_eq_emod_of_nonneg i (by omega)];exact q)
def RG{f:Value->Sem Value}{g:Int->Int}
 (rule:∀(i:Int) (t:Tok) (s:Shared) (Q:Value->Shared->Prop) (E:Value->Shared->Prop),Q (.int (g i) s.toks) {s with toks:=s.toks+1}->wpAny (model X.prog X.w) X.A (f (.int i t)) Q E s):
 Na X f (rU λi=>.int (g i)):=by
 intro ae s σ H x v Q I rx h;obtain⟨i,rfl,q⟩:=h
 obtain⟨t,rfl⟩:=rx
 exact rule i t s _ _ ⟨.int (g i),H,I.tok _,⟨_,rfl⟩,q⟩
def Iy:Na X (unaryOp .USub) (rU λi=>.int (-i)):=RG λ_ _ _ _ _ q=>neg_int q
variable{c:Expr}{tc:TE}
def yi{ae:List (Addr×Obj)}{σ:St}{H:Hp}{s:Shared}{Q:VK}{k k':Bool}(I:Inv X ae σ H s)(q:Q (.bl k) H)(e:k=k'):EP X ae σ Q (.bool k') s:=by
 subst e;exact⟨.bl k,H,I,rfl,q⟩
def K7:hJ X (compareOp .Lt) (F0 λi j=>.bl (decide (i<j))):=Ja λ_ _ _ _ _ _ _ q=>lt_int q
def Lu:hJ X (compareOp .LtE) (F0 λi j=>.bl (decide (i<=j))):=Ja λ_ _ _ _ _ _ _ q=>le_int q
def Ms:hJ X (compareOp .Gt) (F0 λi j=>.bl (decide (j<i))):=Ja λ_ _ _ _ _ _ _ q=>gt_int q
def Hn:hJ X (compareOp .Is) (λx y H Q=>y=.aC/\Q (.bl (decide (x=.aC))) H):=by
 intro ae s σ H x y v u Q I rx ry h;obtain⟨rfl,q⟩:=h
 cases ry;refine is_none_gen (yi I q ?_);cases x<;>first
  |(cases rx;rfl)
  |(obtain⟨t,rfl⟩:=rx;rfl)
def Ct:hJ X (compareOp .IsNot) (λx y H Q=>y=.aC/\Q (.bl (!decide (x=.aC))) H):=by
 intro ae s σ H x y v u Q I rx ry h;obtain⟨rfl,q⟩:=h
 cases ry;refine isnot_none_gen (yi I q ?_);cases x<;>first
  |(cases rx;rfl)
  |(obtain⟨t,rfl⟩:=rx;rfl)
def Pj(b:Expr){op:CmpOp}(h:op≠.In:=by decide)(h2:op≠.NotIn:=by decide):behindInMarks op b=false:=by
 have e1:(op==CmpOp.In)=false:=by cases op<;>first|rfl|exact absurd rfl h
 have e2:(op==CmpOp.NotIn)=false:=by cases op<;>first|rfl|exact absurd rfl h2
 cases b<;>simp [behindInMarks,e1,e2]
def DJ{op:CmpOp}{r:R2}(ho:hJ X (compareOp op) r)(ha:PE X a ta)(hb:PE X b tb)(hm:behindInMarks op b=false):PE X (.Compare a [op] [b] pos) (JZ r ta tb):=by
 intro ae s σ H Q I h;exact wpAny_Compare1 (F8 ha hb I h λv u s2 x y H2 I2 rx ry q=>ho ae s2 σ H2 x y v u Q I2 rx ry q) hm
def A9(t:TE):TT:=λσ H Q=>t σ H λx H'=>∃k,x=.bl k/\Q k H'
def En{op:CmpOp}{r:R2}(ho:hJ X (compareOp op) r)(ha:PE X a ta)(hb:PE X b tb)(hm:behindInMarks op b=false):PT X (.Compare a [op] [b] pos) (A9 (JZ r ta tb)):=by
 intro ae s σ H Q I h;refine wpAny_isTrue_Compare1 (bI (ha ae s σ H _ I h) λv s1 ⟨x,H1,I1,r1,q1⟩=>bI (hb ae s1 σ H1 _ I1 q1) λu s2 ⟨y,H2,I2,r2,q2⟩=>
  bI (ho ae s2 σ H2 x y v u _ I2 r1 r2 q2) λc s3 ⟨z,H3,I3,r3,k,e,q3⟩=>?_) hm
 subst e;cases r3;exact wpAny_truthy_bool ⟨H3,I3,q3⟩
noncomputable def ua(r r':R2)(ta tb tc:TE):TE:=λσ H Q=>ta σ H λx H1=>tb σ H1 λy H2=>r x y H2 λz H3=>∃k,z=.bl k/\
 (if k=true then tc σ H3 λw' H4=>r' y w' H4 Q else Q (.bl false) H3)
def yb{op HI:CmpOp}{r r':R2}(ho:hJ X (compareOp op) r)(iF:hJ X (compareOp HI) r')(ha:PE X a ta)(hb:PE X b tb)(hc:PE X c tc)
 (hm:lastMarks [op,HI] [b,c]=false:=by with_unfolding_all rfl):PE X (.Compare a [op,HI] [b,c] pos) (ua r r' ta tb tc):=by
 intro ae s σ H Q I h;refine Compare_chain (bI (ha ae s σ H _ I h) λv s1 ⟨x,H1,I1,r1,q1⟩=>chain_link (bI (hb ae s1 σ H1 _ I1 q1) λu s2 ⟨y,H2,I2,r2,q2⟩=>
  bI (ho ae s2 σ H2 x y v u _ I2 r1 r2 q2) λd s3 ⟨z,H3,I3,r3,k,e,q3⟩=>?_)) hm
 subst e;cases r3;refine wpAny_truthy_bool ?_;cases k with
 |false=>exact ite_ff ⟨.bl false,H3,I3,rfl,q3⟩
 |true=>exact ite_tt (chain_last (bI (hc ae s3 σ H3 _ I3 q3) λw' s4 ⟨z',H4,I4,r4,q4⟩=>iF ae s4 σ H4 y z' u w' Q I4 r2 r4 q4))
def yV{op HI:CmpOp}{r r':R2}(ho:hJ X (compareOp op) r)(iF:hJ X (compareOp HI) r')(ha:PE X a ta)(hb:PE X b tb)(hc:PE X c tc)
 (hm:lastMarks [op,HI] [b,c]=false:=by with_unfolding_all rfl):PT X (.Compare a [op,HI] [b,c] pos) (A9 (ua r r' ta tb tc)):=by
 intro ae s σ H Q I h;refine isTrue_chain (bI (ha ae s σ H _ I h) λv s1 ⟨x,H1,I1,r1,q1⟩=>test_link (bI (hb ae s1 σ H1 _ I1 q1) λu s2 ⟨y,H2,I2,r2,q2⟩=>
  bI (ho ae s2 σ H2 x y v u _ I2 r1 r2 q2) λd s3 ⟨z,H3,I3,r3,k,e,q3⟩=>?_)) hm
 subst e;cases r3;refine wpAny_truthy_bool ?_;cases k with
 |false=>
  obtain⟨k',e',q'⟩:=q3
  cases e';exact ite_ff ⟨H3,I3,q'⟩
 |true=>
  refine ite_tt (test_last (bI (hc ae s3 σ H3 _ I3 q3) λw' s4 ⟨z',H4,I4,r4,q4⟩=>bI (iF ae s4 σ H4 y z' u w' _ I4 r2 r4 q4) λd' s5 ⟨z2,H5,I5,r5,k2,e2,q5⟩=>?_))
  subst e2;cases r5;exact wpAny_truthy_bool ⟨H5,I5,q5⟩
def kJ:(sizeLine:Nat)<2^63:=by rw [sizeLine_eq];decide
def tJ:hJ X (binaryOp .Add) (λx y H Q=>∃i j,x=.str i/\y=.str j/\i.length+j.length<=sizeLine/\Q (.str (i++j)) H):=by
 intro ae s σ H x y v u Q I rx ry h;obtain⟨i,j,rfl,rfl,hz,q⟩:=h
 obtain⟨t,rfl⟩:=rx
 obtain⟨t',rfl⟩:=ry
 exact add_str (λt' tk=>⟨.str (i++j),H,I.tok _,⟨_,rfl⟩,q⟩) hz
def vals1{x:V}{us:List Value}(r:Vals [x] us):∃u,us=[u]/\RelV x u:=by
 cases r with
 |cons r1 r2=>cases r2;exact⟨_,rfl,r1⟩
def vals2{x y:V}{us:List Value}(r:Vals [x,y] us):∃u w',us=[u,w']/\RelV x u/\RelV y w':=by
 cases r with
 |cons r1 r2=>
  cases r2 with
  |cons r3 r4=>cases r4;exact⟨_,_,rfl,r1,r3⟩
def ze:cN X (.builtin "abs") (λxs H Q=>∃i,xs=[.int i]/\Q (.int (if i<0 then -i else i)) H):=by
 intro ae s σ H xs us Q I r h;obtain⟨i,rfl,q⟩:=h
 obtain⟨u,rfl,t,rfl⟩:=vals1 r
 exact call_abs_int λu tk=>⟨.int (if i<0 then -i else i),H,I.tok _,⟨_,rfl⟩,q⟩
def vY(hc:X.calm=true):cN X (.builtin "max") (λxs H Q=>∃i j,xs=[.int i,.int j]/\Q (.int (if j>i then j else i)) H):=by
 intro ae s σ H xs us Q I r h;obtain⟨i,j,rfl,q⟩:=h
 obtain⟨u,w',rfl,⟨t,rfl⟩,⟨t',rfl⟩⟩:=vals2 r
 refine max_two_ints (I.ok.hd hc) λh' tk k=>⟨_,H,I.kept k,?_,q⟩
 by_cases hj:j>i
 ·rw [if_pos hj,if_pos hj];exact⟨_,rfl⟩
 ·rw [if_neg hj,if_neg hj];exact⟨_,rfl⟩
def oW:cN X (.type "str") (λxs H Q=>∃i,xs=[.int i]/\i.natAbs.log2<1920/\Q (.str (toString i)) H):=by
 intro ae s σ H xs us Q I r h;obtain⟨i,rfl,hz,q⟩:=h
 obtain⟨u,rfl,t,rfl⟩:=vals1 r
 exact PySem.P.str_of_int hz ⟨.str _,H,I.tok _,⟨_,rfl⟩,q⟩
end
def iI.some_of{v:V}{o:Option Value}(r:iI (some v) o):∃u,o=some u/\RelV v u:=by
 cases o with
 |none=>exact(show False from r).elim
 |some u=>exact⟨u,rfl,r⟩
structure dG(k:Nat)(A:Around):Prop where
 hd:A.handled=none
 dp:A.depth+3*k+5<recursionLimit
 un:A.units+16*k+200<cLine
theorem dG.mono{j k:Nat}{A:Around}(r:dG k A)(h:j<=k):dG j A:=⟨r.hd,by have:=r.dp;omega,by have:=r.un;omega⟩
theorem dG.deeper{k:Nat}{A:Around}(r:dG (k+1) A)(env:Env):dG k (A.deeper env):=
 ⟨r.hd,by have:=r.dp;show A.depth+1+3*k+5<_;omega,by have:=r.un;show A.units+3+16*k+200<_;omega⟩
theorem dG.in1{k:Nat}{A:Around}(r:dG (k+1) A):dG k A.in1:=
 ⟨r.hd,by have:=r.dp;show A.depth+3*k+5<_;omega,by have:=r.un;show A.units+1+16*k+200<_;omega⟩
def dG.depth{k:Nat}{A:Around}(r:dG k A):A.depth<recursionLimit:=by have:=r.dp;omega
def dG.units{k:Nat}{A:Around}(r:dG k A):A.units+64<cLine:=by have:=r.un;omega
def Nv:TA:=λ_ H Q=>Q [] H
def KS(ta:TE)(tr:TA):TA:=λσ H Q=>ta σ H λx H1=>tr σ H1 λxs H2=>Q (x::xs) H2
section
variable{X:Cx}{e:Expr}{es:List Expr}{te:TE}{t:TA}{pos:Pos}
def dY:PA X [] Nv:=λ_ _ _ _ H Q I h=>Calls.spliced_nil ⟨[],H,I,.nil,h⟩
theorem cB(ha:PE X e te)(hr:PA X es t)(hs:starEach (e::es) X.env=(false,eval e X.env)::starEach es X.env:=by rfl):PA X (e::es) (KS te t):=by
 intro pos ae s σ H Q I h;rw [hs];show wpAny _ _ (spliced ((false,eval e X.env)::backTo pos (starEach es X.env))) _ _ s;refine Calls.spliced_cons (bI (ha ae s σ H _ I h) λu s1 ⟨x,H1,I1,r1,q1⟩=>?_)
 exact bI (hr pos ae s1 σ H1 _ I1 q1) λus s2 ⟨xs,H2,I2,r2,q2⟩=>⟨x::xs,H2,I2,.cons r1 r2,q2⟩
def OI(t:TA):TE:=λσ H Q=>t σ H λxs H1=>xs.length<=sizeLine/\∀p,H1 p=none->Q (.ref p) (upd H1 p (.tup xs))
def NO(t:TA):TE:=λσ H Q=>t σ H λxs H1=>xs.length<=sizeLine/\∀p,H1 p=none->Q (.ref p) (upd H1 p (.lst xs))
def Jl{x1}(h:PA X es t):PE X (.Tuple es x1 pos) (OI t):=by
 intro ae s σ H Q I hq;refine wpAny_Tuple_spliced (bI (h pos ae s σ H _ I hq) λus s1 ⟨xs,H1,I1,r,z,q⟩=>⟨by rw [<-r.length];exact z,?_⟩)
 have hf:H1 (zz9 s1)=none:=I1.aL.fresh (zzE _)
 refine⟨.ref (zz9 s1),upd H1 (zz9 s1) (.tup xs),I1.laid (t':=s1.toks) (λb u e=>zzB _ e) (zzE _) ?_,rfl,q _ hf⟩;exact⟨z,us,r,⟨_,zzX _ rfl,rfl,_,rfl⟩⟩
def HV(h:PA X es t):PE X (.List es pos) (NO t):=by
 intro ae s σ H Q I hq;refine wpAny_List_spliced (bI (h pos ae s σ H _ I hq) λus s1 ⟨xs,H1,I1,r,z,q⟩=>⟨by rw [<-r.length];exact z,?_⟩)
 have hf:H1 (zz9 s1)=none:=I1.aL.fresh (zzE _)
 refine⟨.ref (zz9 s1),upd H1 (zz9 s1) (.lst xs),I1.laid (t':=s1.toks) (λb u e=>zzB _ e) (zzE _) ?_,rfl,q _ hf⟩;exact⟨z,us,0,r,zzX _ rfl⟩
end
abbrev Sp:=List V->Hp->VK->XK->Prop
abbrev xQ:=List Env->Hp->Shared->XK->Value->Shared->Prop
structure iP(P:Program)(w:World)(K:zz8)(mg:Str->Option Value)(base:Heap)(A:Around)(outer:List Env)(s:Shared)(H:Hp):Prop where
 frames:A.frames=some outer
 mod:Mod K mg base
 bs:∀b o,base.get? b=some o->s.heap.get? b=some o/\H b=none
 wI:base.objs.size<=(zz9 s)
 gk:s.heap.FunFrames base outer
 xH:∀b∈eO outer,H b=none
 aL:eA P w H s.heap
 bare:AllBare s.gens
def CE(outer:List Env)(P:Program)(w:World)(H:Hp)(s:Shared)(Q:VK)(u:Value)(s':Shared):Prop:=
 ∃v H',s'.os=s.os/\AllBare s'.gens/\Un (eO outer) [] H H' s.heap s'.heap/\eA P w H' s'.heap/\RelV v u/\Q v H'
def CR(CX:xQ)(outer:List Env)(P:Program)(w:World)(H:Hp)(s:Shared)(Q:VK)(E:XK)(r:Result)(s':Shared):Prop:=
 match r with
 |.ok (.ret u)=>CE outer P w H s Q u s'
 |.ok _=>False
 |.error e=>CX outer H s E e s'
structure f9(P:Program)(w:World)(K:zz8)(mg:Str->Option Value)(base:Heap)(CX:xQ)(k:Nat)(f:Addr)(fd:FuncData)(ps:List Str)(sp:Sp):Prop where
 len:∀vs H Q E,sp vs H Q E->vs.length=ps.length
 run:∀(A:Around) (outer:List Env) (s:Shared) (H:Hp) (args:Args) (us:List Value) (vs:List V) (Q:VK) (E:XK),dG k A->iP P w K mg base A outer s H->BindsTo s fd args (ps.zip us)->Vals vs us->sp vs H Q E->
  codeAny (model P w) A (.call (.ref f) args) (CR CX outer P w H s Q E) s
def f9.mono{P:Program}{w:World}{K:zz8}{mg:Str->Option Value}{base:Heap}{CX:xQ}{j k:Nat}{f:Addr}{fd:FuncData}{ps:List Str}{sp:Sp}(F:f9 P w K mg base CX j f fd ps sp)(h:j<=k):
 f9 P w K mg base CX k f fd ps sp:=⟨F.len,λA outer s H args us vs Q E hr=>F.run A outer s H args us vs Q E (hr.mono h)⟩
def f9.imp{P:Program}{w:World}{K:zz8}{mg:Str->Option Value}{base:Heap}{CX:xQ}{k:Nat}{f:Addr}{fd:FuncData}{ps:List Str}{sp Qj:Sp}(F:f9 P w K mg base CX k f fd ps sp)
 (h:∀vs H Q E,Qj vs H Q E->sp vs H Q E):f9 P w K mg base CX k f fd ps Qj:=
 ⟨λvs H Q E q=>F.len vs H Q E (h _ _ _ _ q),λA outer s H args us vs Q E hr he hb hv hs=>F.run A outer s H args us vs Q E hr he hb hv (h _ _ _ _ hs)⟩
def iP.in1{P:Program}{w:World}{K:zz8}{mg:Str->Option Value}{base:Heap}{A:Around}{outer:List Env}{s:Shared}{H:Hp}(e:iP P w K mg base A outer s H):
 iP P w K mg base A.in1 outer s H:=⟨e.frames,e.mod,e.bs,e.wI,e.gk,e.xH,e.aL,e.bare⟩
section
variable{X:Cx}{ae:List (Addr×Obj)}{σ:St}{H:Hp}{s s':Shared}
def Inv.wa(I:Inv X ae σ H s):iP X.prog X.w X.K X.mg X.base X.A X.stack s H:=
 ⟨I.ok.frames,I.ok.mod,I.bs,zzU I.ok.wI I.sz,I.stack,I.j4,I.aL,I.bare⟩
def Inv.after{Q:VK}{u:Value}(I:Inv X ae σ H s)(h:CE X.stack X.prog X.w H s Q u s'):EP X ae σ Q u s':=by
 obtain⟨v,H',os,bare,un,aL,r,q⟩:=h
 obtain⟨hh,g,d,t,os'⟩:=s'
 obtain rfl:os'=s.os:=os
 exact⟨v,H',I.call (h':=hh) (g':=g) (d':=d) (t':=t) (ch:=[]) un aL bare (λb z=>absurd z (by simp)),r,q⟩
end
def Binds(K:zz8)(fd:FuncData)(ps:List Str)(ds:List Value):Prop:=
 ∀(s:Shared) (us:List Value),K.In s.heap->(us++ds).length=ps.length->BindsTo s fd ⟨us,[]⟩ (ps.zip (us++ds))
def Binds.all{K:zz8}{fd:FuncData}{ps:List Str}(h:∀us:List Value,us.length=ps.length->bindArgs fd ⟨us,[]⟩=pure (ps.zip us)):Binds K fd ps []:=λs us _ hl=>by
 rw [zz6] at hl⊢;exact .of_eq (h us hl)
def Passes(CX:xQ)(X:Cx)(E:XK):Prop:=∀(ae:List (Addr×Obj)) (σ:St) (H:Hp) (s:Shared) (e:Value) (s':Shared),Inv X ae σ H s->CX X.stack H s E e s'->X.xe e s'
structure kh(N P:List Str)(sc:Scope):Prop where
 kind:sc.kind=.function
 co:sc.isCoroutine=false
 gen:sc.isGenerator=false
 nd:N.Nodup
 pre:N.take P.length=P
 par:∀x∈P,sc.names.lookup x=some .local\/sc.names.lookup x=some .cell
 JC:∀y∈sc.names,y.2≠.free
theorem nQ{kindOf:Str->Option NameKind}{x:Str}:∀{binds:List (Str×Value)} {m:Str->Option Value},(∀v,(x,v)∉binds)->bindL kindOf binds m x=m x
 |[],_,_=>rfl
 |(n,v)::r,m,h=>by
  unfold bindL;rw [nQ λw hw=>h w (zzI _ hw)]
  split
  ·have:x≠n:=by rintro rfl;exact h v zzP
   simp [this]
  ·rfl
theorem nC{kindOf:Str->Option NameKind}{x:Str}:∀{binds:List (Str×Value)} {m:Str->Option Value},(∀v,(x,v)∉binds)->bindC kindOf binds m x=m x
 |[],_,_=>rfl
 |(n,v)::r,m,h=>by
  unfold bindC;rw [nC λw hw=>h w (zzI _ hw)]
  split
  ·rfl
  ·have:x≠n:=by rintro rfl;exact h v zzP
   simp [this]
theorem n4{kindOf:Str->Option NameKind}{x:Str}{v:Value}:∀{P:List Str} {vs:List Value} {i:Nat} {m:Str->Option Value},P.Nodup->P[i]?=some x->vs[i]?=some v->kindOf x=some .local->
 bindL kindOf (P.zip vs) m x=some v
 |[],_,_,_,_,h,_,_=>by simp at h
 |_::_,[],_,_,_,_,h,_=>by simp at h
 |p::P,w::vs,0,m,nd,h1,h2,hk=>by
  simp at h1 h2;subst h1;subst h2;show bindL kindOf ((p,w)::P.zip vs) m p=_
  unfold bindL;rw [nQ λv hv=>(List.nodup_cons.mp nd).1 (List.of_mem_zip hv).1,if_pos hk]
  simp
 |p::P,w::vs,i+1,m,nd,h1,h2,hk=>by
  show bindL kindOf ((p,w)::P.zip vs) m x=_
  unfold bindL;exact n4 (i:=i) (List.nodup_cons.mp nd).2 (by simpa using h1) (by simpa using h2) hk
theorem nH{kindOf:Str->Option NameKind}{x:Str}{v:Value}:∀{P:List Str} {vs:List Value} {i:Nat} {m:Str->Option Value},P.Nodup->P[i]?=some x->vs[i]?=some v->kindOf x≠some .local->
 bindC kindOf (P.zip vs) m x=some v
 |[],_,_,_,_,h,_,_=>by simp at h
 |_::_,[],_,_,_,_,h,_=>by simp at h
 |p::P,w::vs,0,m,nd,h1,h2,hk=>by
  simp at h1 h2;subst h1;subst h2;show bindC kindOf ((p,w)::P.zip vs) m p=_
  unfold bindC;rw [nC λv hv=>(List.nodup_cons.mp nd).1 (List.of_mem_zip hv).1,if_neg hk]
  simp
 |p::P,w::vs,i+1,m,nd,h1,h2,hk=>by
  show bindC kindOf ((p,w)::P.zip vs) m x=_
  unfold bindC;exact nH (i:=i) (List.nodup_cons.mp nd).2 (by simpa using h1) (by simpa using h2) hk
def start(N:List Str)(vs:List V):St:=vs.map some++List.replicate (N.length-vs.length) none
noncomputable def dM(CX:xQ)(P:Program)(w:World)(K:zz8)(mg:Str->Option Value)(base:Heap)(N:List Str)(qual:Str)(scope:Scope)(f:Addr)(cd:Value)(A:Around)(outer:List Env)(s:Shared)(H:Hp)(E:XK):Cx where
 prog:=P
 w:=w
 K:=K
 mg:=mg
 base:=base
 A:=A.deeper (envOfC qual scope (zz9 s) f cd)
 N:=N
 s₀:=s
 H₀:=H
 env:=envOfC qual scope (zz9 s) f cd
 outer:=outer
 stack:=envOfC qual scope (zz9 s) f cd::outer
 ex:=[]
 calm:=true
 fn:=λ_=>true
 pn:=[]
 xe:=λe s'=>wpAny (model P w) (A.deeper (envOfC qual scope (zz9 s) f cd)) (leaving (envOfC qual scope (zz9 s) f cd) e) (λ_ BF=>CX outer H s E e BF) (λe' BF=>CX outer H s E e' BF) s'
def rk{sc:Scope}{n:Nat}{x:Str}(h:sc.names.lookup x=some .cell):∃c,(cellsFrom n sc.names []).lookup x=some c:=by
 have q:=PySem.W.cellsFrom_some sc.names n [] (.inl h)
 exact zzp.mp q
def vV{CX:xQ}{P:Program}{w:World}{K:zz8}{mg:Str->Option Value}{base:Heap}{N ps:List Str}{qual:Str}{scope:Scope}{f:Addr}{cd:Value}{A:Around}{outer:List Env}{s s1:Shared}{H:Hp}{E:XK}{us:List Value}{vs:List V}
 (S:kh N ps scope) (hd:A.handled=none) (e0:iP P w K mg base A outer s H) (hl:vs.length=ps.length) (r:Vals vs us)
 (x:InCallC s (zz9 s) (bindL (envOfC qual scope (zz9 s) f cd).kindOf (ps.zip us) λ_=>none) (cellsFrom ((zz9 s)+1) scope.names []) (bindC (envOfC qual scope (zz9 s) f cd).kindOf (ps.zip us) λ_=>none) s1):
 Inv (dM CX P w K mg base N qual scope f cd A outer s H E) [] (start N vs) H s1:=by
 have hpl:ps.length<=N.length:=by have:=congrArg List.length S.pre;rw [List.length_take] at this;omega
 obtain⟨h1,tk,rfl,hk⟩:=x.done
 have CP:∀b:Addr,b∉(dM CX P w K mg base N qual scope f cd A outer s H E).ex:=λb z=>absurd (show b∈([]:List Addr) from z) (by simp)
 refine⟨⟨e0.mod,S.kind,rfl,rfl,zzE _,λy z c h1 h2=>?_,λy hy=>?_,λy c _ h=>?_,λ_=>hd,Around.frames_deeper e0.frames,.inr ⟨rfl,rfl⟩,λb z=>absurd z (CP b),e0.bs,e0.wI,λb _ _=>CP b,λb z=>absurd z (CP b),e0.gk,e0.xH⟩,
  rfl,e0.bare,Un.kept hk,⟨_,x.toInCall.ns,λi y v h1 h2 h3=>?_⟩,λy c h=>⟨_,x.cell y c h⟩,e0.aL.fresh (zzE _),λy c h=>?_,λp hp=>absurd (show p∈([]:List (Addr×Obj)) from hp) (by simp),e0.aL.kept hk,?_⟩
 ·exact name_of_addr x.apart (PySem.mem_of_lookup h1) (PySem.mem_of_lookup h2)
 ·have hy:scope.names.lookup y=some .cell\/scope.names.lookup y=some .free:=hy
  rcases hy with hy|hy
  ·exact rk hy
  ·exact absurd rfl (S.JC _ (PySem.mem_of_lookup hy))
 ·exact Nat.le_of_lt (x.above y c (PySem.mem_of_lookup h))
 ·have hi:i<vs.length:=by
   unfold start at h2
   by_cases hi:i<vs.length
   ·exact hi
   ·rw [zzs (by simpa using hi)] at h2;rw [List.getElem?_replicate] at h2;split at h2<;>cases h2
  have ha:vs[i]?=some v:=by
   unfold start at h2;rw [zzr (by simpa using hi),zzQ] at h2;cases e:vs[i]? with
   |none=>rw [e] at h2;cases h2
   |some a=>rw [e] at h2;cases h2;rfl
  obtain⟨u,hu,rv⟩:=r.get ha
  have hp:ps[i]?=some y:=by
   rw [<-S.pre,List.getElem?_take_of_lt (by omega)];exact h1
  have Ro:ps.Nodup:=by rw [<-S.pre];exact S.nd.sublist (List.take_sublist _ _)
  refine⟨u,rv,?_⟩;rcases S.par y (zzD hp) with k|k
  ·exact .inl ⟨k,n4 Ro hp hu k⟩
  ·obtain⟨c,e⟩:=rk (n:=(zz9 s)+1) k
   refine .inr ⟨.inl k,c,e,?_⟩;have q:=x.cell y c e
   rw [nH Ro hp hu (by show scope.names.lookup y≠_;rw [k];decide)] at q;exact q
 ·exact e0.aL.fresh (Nat.le_of_lt (x.above y c (PySem.mem_of_lookup h)))
 ·unfold start;show _=N.length
  rw [zzM,zzl,List.length_replicate];omega
def Kt{CX:xQ}{P:Program}{w:World}{K:zz8}{mg:Str->Option Value}{base:Heap}{k:Nat}{f:Addr}{name qual:Str}{params:Arguments}{body:List Stmt}{scope:Scope}{dV kV doc pm fU ct oc:Value}{an od:Option Addr}
 {sS:Array (Option Value)} {N ps:List Str} {sp:Sp} (lk:K.lookup f=some ⟨oc,od,.func (PySem.W.fnOf name qual params body scope dV kV doc pm an fU ct),sS⟩) (sk:PySem.W.codeIn K fU qual=true) (S:kh N ps scope)
 (len:∀vs H Q E,sp vs H Q E->vs.length=ps.length)
 (KH:∀(A:Around) (outer:List Env) (s:Shared) (H:Hp) (vs:List V) (Q:VK) (E:XK),dG k (A.deeper (envOfC qual scope (zz9 s) f fU))->sp vs H Q E->
  ∃t,vm (dM CX P w K mg base N qual scope f fU A outer s H E) body t/\t {nx:=λ_ H'=>Q .aC H',rt:=Q} (start N vs) H):
 f9 P w K mg base CX (k+1) f (PySem.W.fnOf name qual params body scope dV kV doc pm an fU ct) ps sp:=by
 refine⟨len,λA outer s H args us vs Q E hr e0 hb r JK=>?_⟩
 have hl:=len _ _ _ _ JK
 have KX:K.In s.heap:=e0.mod.Kp.keeps λb o e=>(e0.bs b o e).1
 have lim:s.heap.NoLimit:=e0.mod.nolimit.keeps λb o e=>(e0.bs b o e).1
 have Mf:∀y∈ps.zip us,scope.names.lookup y.1=some .local\/(scope.names.lookup y.1=some .cell/\((cellsFrom ((zz9 s)+1) scope.names []).lookup y.1).isSome=true):=λ⟨n,v⟩ hy=>by
  rcases S.par n (List.of_mem_zip hy).1 with q|q
  ·exact .inl q
  ·exact .inr ⟨q,PySem.W.cellsFrom_some _ _ _ (.inl q)⟩
 refine codeAny_call_function hr.depth (KX _ _ lk) rfl S.co S.gen rfl (PySem.W.codeRec_of KX sk) (hb _ _ _ _ ?_);refine wpAny_newFunctionEnv_cells S.kind Mf λenv he s1 x=>?_
 subst he;refine⟨lim.keeps x.toInCall.keep,codeAny_func ?_⟩;obtain⟨t,ht,hq⟩:=KH A outer s H vs Q E (hr.deeper _) JK
 have I:Inv (dM CX P w K mg base N qual scope f fU A outer s H E) [] (start N vs) H s1:=vV S hr.hd e0 hl r x
 refine wpAny_mono (ht [] s1 (start N vs) H _ I hq) (λfl s' hs=>?_) λe s' hs=>hs
 have fin:∀{σ':St} {H':Hp} {v:V} {u:Value},Inv (dM CX P w K mg base N qual scope f fU A outer s H E) [] σ' H' s'->RelV v u->Q v H'->CE outer P w H s Q u s':=
  λ{σ' H' v u} J rv q=>⟨v,H',J.os,J.bare,J.base,J.aL,rv,q⟩
 cases fl with
 |ret u=>
  obtain⟨v,σ',H',J,rv,q⟩:=hs
  exact fin J rv q
 |next=>
  obtain⟨σ',H',J,q⟩:=hs
  exact fin (v:=V.aC) (u:=Value.none) J rfl q
 |brk=>
  obtain⟨_,_,_,q⟩:=hs
  exact zzk q
 |cont=>
  obtain⟨_,_,_,q⟩:=hs
  exact zzk q
section
variable{X:Cx}{x:Str}{p pos:Pos}{e:Expr}{es:List Expr}{t:TA}{id T:String}{r:List V->Hp->VK->Prop}
def ME(r:List V->Hp->VK->Prop)(t:TA):TE:=λσ H Q=>t σ H λvs H1=>r vs H1 Q
def gv(hc:cN X (.builtin id) r)(hg:Gl X x)(hm:X.mg x=none)(hv:bootBuiltins x=some (.builtin id))(ha:PA X (e::es) t)(hn:x≠"__name__":=by decide)(KW:(x==("__debug__":Str))=false:=by decide)
 (he:starEach (e::es) X.env=(false,eval e X.env)::starEach es X.env:=by rfl) (hpl:(backTo pos (starEach es X.env)).any (·.1)=false:=by rfl):PE X (.Call (.Name x p) (e::es) [] pos) (ME r t):=by
 intro ae s σ H Q I h;refine wpAny_Call_Name_kw (dX I hg hm hv ?_ hn KW);exact PyProof.Rows.callWith_builtin1 (bI (ha pos ae s σ H _ I h) λus s1 ⟨vs,H1,I1,r1,q1⟩=>hc ae s1 σ H1 vs us Q I1 r1 q1) he hpl
def fB(hc:cN X (.type T) r)(hg:Gl X x)(hm:X.mg x=none)(hv:bootBuiltins x=some (.type T))(ha:PA X (e::es) t)(hn:x≠"__name__":=by decide)(KW:(x==("__debug__":Str))=false:=by decide)
 (he:starEach (e::es) X.env=(false,eval e X.env)::starEach es X.env:=by rfl) (hpl:(backTo pos (starEach es X.env)).any (·.1)=false:=by rfl):PE X (.Call (.Name x p) (e::es) [] pos) (ME r t):=by
 intro ae s σ H Q I h;refine wpAny_Call_Name_kw (dX I hg hm hv ?_ hn KW);exact PyProof.Rows.callWith_type1 (bI (ha pos ae s σ H _ I h) λus s1 ⟨vs,H1,I1,r1,q1⟩=>hc ae s1 σ H1 vs us Q I1 r1 q1) he hpl
end
end L2
namespace HT
open PySem PyProof.Rows
def lexLt:List Int->List Int->Bool
 |[],[]=>false
 |[],_::_=>true
 |_::_,[]=>false
 |x::xs,y::ys=>if x=y then lexLt xs ys else decide (x<y)
section
def mv(n d:Nat):Option Int->Nat
 |none=>d
 |some v=>if v<0 then(v+(n:Int)).toNat else min v.toNat n
def CN(n d k:Nat):mv n d (some (k:Int))=min k n:=by
 show(if(k:Int)<0 then((k:Int)+(n:Int)).toNat else min (k:Int).toNat n)=min k n
 rw [if_neg (by omega),zz4]
end
end HT
namespace L2
open PySem PySem.Spec PyProof.Rows
abbrev TO:=St->Hp->(Option Int->Hp->Prop)->Prop
def PO(X:Cx)(e:Option Expr)(t:TO):Prop:=
 ∀(ae:List (Addr×Obj)) (s:Shared) (σ:St) (H:Hp) (Q:Option Int->Hp->Prop),Inv X ae σ H s->t σ H Q->
  wpAny (model X.prog X.w) X.A (evalPart e X.env) (λu s'=>∃o H',Inv X ae σ H' s'/\IsPart u o/\Q o H') X.xe s
def DS:TO:=λ_ H Q=>Q none H
def LI(t:TE):TO:=λσ H Q=>t σ H λx H1=>∃i,x=.int i/\Q (some i) H1
section
variable{X:Cx}{e:Expr}{te:TE}{lo hi:Option Expr}{tl th:TO}{pos p2:Pos}
def Bx:PO X none DS:=by
 intro ae s σ H Q I h;rw [evalPart_none];exact zzG ⟨none,H,I,.none,h⟩
def C8(h:PE X e te):PO X (some e) (LI te):=by
 intro ae s σ H Q I hw;rw [evalPart_some];refine bI (h ae s σ H _ I hw) λu s1 ⟨x,H1,I1,r1,q1⟩=>?_
 obtain⟨i,rfl,q⟩:=q1
 obtain⟨t,rfl⟩:=r1
 exact⟨some i,H1,I1,.int i t,q⟩
def Fb(X:Cx)(r:V->Option Int->Option Int->Hp->VK->Prop):Prop:=
 ∀(ae:List (Addr×Obj)) (s:Shared) (σ:St) (H:Hp) (x:V) (v vl vu:Value) (lo hi:Option Int) (sl:Addr) (Q:VK),Inv X ae σ H s->RelV x v->s.heap.IsSliceOf sl vl vu .none->IsPart vl lo->IsPart vu hi->r x lo hi H Q->
  ∃T id,typeLookup (.type T) "__getitem__"=pure (some (.builtin id))/\s.TypeIs v T/\wpAny (model X.prog X.w) X.A (getItem v (.ref sl)) (EP X ae σ Q) X.xe s
def Sx(r:V->Option Int->Option Int->Hp->VK->Prop)(te:TE)(tl th:TO):TE:=λσ H Q=>te σ H λx H1=>tl σ H1 λl H2=>th σ H2 λu H3=>r x l u H3 Q
def ye{r:V->Option Int->Option Int->Hp->VK->Prop}(hr:Fb X r)(he:PE X e te)(hl:PO X lo tl)(hu:PO X hi th):PE X (.Subscript e (.Slice lo hi none p2) pos) (Sx r te tl th):=by
 intro ae s σ H Q I h;refine Subscript_ (bI (he ae s σ H _ I h) λv s1 ⟨x,H1,I1,r1,q1⟩=>?_)
 refine wpAny_Slice (bI (hl ae s1 σ H1 _ I1 q1) λvl s2 ⟨l,H2,I2,pl,q2⟩=>bI (hu ae s2 σ H2 _ I2 q2) λvu s3 ⟨u,H3,I3,pu,q3⟩=>?_)
 rw [evalPart_none];refine zzG ?_;have I4:Inv X ae σ H3 {s3 with heap:=s3.heap.push {cls:=.type "slice",data:=.fields #[vl,vu,.none]}}:=I3.kept (t':=s3.toks) λb ob q=>zzB _ q
 obtain⟨T,id,hT,ht,hg⟩:=hr ae {s3 with heap:=s3.heap.push {cls:=.type "slice",data:=.fields #[vl,vu,.none]}} σ H3 x v vl vu l u (zz9 s3) Q I4 r1 (Heap.IsSliceOf.new ..) pl pu q3
 show wpAny (model X.prog X.w) X.A (subscriptTail e (.Slice lo hi none p2) v (.ref (zz9 s3))) (EP X ae σ Q) X.xe {s3 with heap:=s3.heap.push {cls:=.type "slice",data:=.fields #[vl,vu,.none]}}
 exact tail_any (ops:=[.ref (zz9 s3),v]) ht hT hg (by with_unfolding_all rfl)
def xf(xs:List V)(lo hi:Option Int):List V:=(xs.drop (HT.mv xs.length 0 lo)).take (HT.mv xs.length xs.length hi-HT.mv xs.length 0 lo)
def qL(xs:List V)(lo hi:Option Int):(xf xs lo hi).length<=xs.length:=by
 unfold xf;rw [List.length_take,List.length_drop];omega
end
def E8(n:Nat)(i:Int):Option Nat:=if 0<=i then(if i<n then some i.toNat else none) else if -(n:Int)<=i then some (i+n).toNat else none
def pS{α:Type}(xs:List α)(i:Int):Option α:=(E8 xs.length i).bind λj=>xs[j]?
def Dj{n:Nat}{i:Int}{j:Nat}(h:E8 n i=some j):seqIndex? i n=some j/\j<n/\ -(n:Int)<=i/\i<n:=by
 unfold E8 at h
 by_cases h0:0<=i
 ·rw [if_pos h0] at h
  by_cases h1:i<n
  ·rw [if_pos h1] at h;have e:i.toNat=j:=zzq h
   exact⟨by rw [seqIndex_of h0 h1,e],by omega,by omega,h1⟩
  ·rw [if_neg h1] at h;cases h
 ·rw [if_neg h0] at h
  by_cases h1: -(n:Int)<=i
  ·rw [if_pos h1] at h;have e:(i+n).toNat=j:=zzq h
   exact⟨by rw [seqIndex_neg (by omega) h1,e],by omega,h1,by omega⟩
  ·rw [if_neg h1] at h;cases h
def oh{α:Type}{xs:List α}{i:Int}{v:α}(h:pS xs i=some v):∃j,seqIndex? i xs.length=some j/\xs[j]?=some v/\j<xs.length/\ -(xs.length:Int)<=i/\i<xs.length:=by
 unfold pS at h;cases e:E8 xs.length i with
 |none=>rw [e] at h;cases h
 |some j=>
  rw [e] at h;obtain⟨h1,h2,h3,h4⟩:=Dj e
  exact⟨j,h1,h,h2,h3,h4⟩
def oU(b:Expr):Prop:=∀o i,subscripted b false o i=operate [o,i] (getItem o i)
def Ka(X:Cx)(r:R2):Prop:=
 ∀(value slice:Expr) (ae:List (Addr×Obj)) (s:Shared) (σ:St) (H:Hp) (x y:V) (v u:Value) (Q:VK),Inv X ae σ H s->RelV x v->RelV y u->r x y H Q->
  subscripted slice false v u=operate [v,u] (getItem v u)->wpAny (model X.prog X.w) X.A (subscriptTail value slice v u) (EP X ae σ Q) X.xe s
def QT(X:Cx)(id:String)(r:V->List V->Hp->VK->Prop):Prop:=
 ∀(ae:List (Addr×Obj)) (s:Shared) (σ:St) (H:Hp) (x:V) (xs:List V) (v:Value) (us:List Value) (Q:VK),Inv X ae σ H s->RelV x v->Vals xs us->r x xs H Q->
  wpAny (model X.prog X.w) X.A (call (.builtin id) (v::us)) (EP X ae σ Q) X.xe s
section
variable{X:Cx}{a b:Expr}{ta tb:TE}{pos:Pos}
def Fs{r:R2}(hr:Ka X r)(ha:PE X a ta)(hb:PE X b tb)(hs:oU b):PE X (.Subscript a b pos) (JZ r ta tb):=by
 intro ae s σ H Q I h;exact Subscript_ (F8 ha hb I h λv u s2 x y H2 I2 rx ry q=>hr a b ae s2 σ H2 x y v u Q I2 rx ry q (hs _ _))
noncomputable def NG(K:zz8):R2:=λx y H Q=>∃p xs i v,x=.ref p/\y=.int i/\fV K H p xs/\pS xs i=some v/\Q v H
noncomputable def Mw(K:zz8):R2:=λx y H Q=>∃p xs i v,x=.ref p/\y=.int i/\fF K H p xs/\pS xs i=some v/\Q v H
noncomputable def NL:R2:=λx y H Q=>∃z i c,x=.str z/\y=.int i/\z.length<=sizeLine/\pS z.cps.toList i=some c/\Q (.str ⟨#[c]⟩) H
def CG:Ka X (NG X.K):=by
 intro value slice ae s σ H x y v u Q I rx ry h hs;obtain⟨p,xs,i,z,rfl,rfl,hq,he,q⟩:=h
 cases rx;obtain⟨t,rfl⟩:=ry
 obtain⟨ax,r,pl,hz⟩:=I.list hq
 obtain⟨j,h1,h2,h3,h4,h5⟩:=oh he
 obtain⟨w,ew,gP⟩:=r.get h2
 have hl:=r.length
 have hn:=kJ
 have fin:EP X ae σ Q w s:=⟨z,H,I,gP,q⟩
 by_cases h0:0<=i
 ·have hj:i.toNat=j:=by
   rw [seqIndex_of h0 h5] at h1;exact zzq h1
  exact item_listR pl.isList h0 (by omega) (by rw [hj];simpa using ew) fin hs
 ·have hj:(i+(ax.toArray.size:Int)).toNat=j:=by
   rw [seqIndex_neg (by omega) h4] at h1;rw [zzC,<-hl];exact zzq h1
  exact subscriptTail_builtinR (x:=w) pl.isList.typeIs slot_list_getitem.lookup
   (wpAny_getItem_list_neg (Q:=λr s'=>r=w/\EP X ae σ Q r s') pl.isList (by omega) (by rw [zzC]<;>omega) (by omega) (by rw [hj];simpa using ew) ⟨rfl,fin⟩) hs
def z9:Ka X (Mw X.K):=by
 intro value slice ae s σ H x y v u Q I rx ry h hs;obtain⟨p,xs,i,z,rfl,rfl,hq,he,q⟩:=h
 cases rx;obtain⟨t,rfl⟩:=ry
 obtain⟨ax,r,pl,hz⟩:=I.tuple hq
 obtain⟨j,h1,h2,h3,h4,h5⟩:=oh he
 obtain⟨w,ew,gP⟩:=r.get h2
 have hl:=r.length
 have hn:=kJ
 have fin:EP X ae σ Q w s:=⟨z,H,I,gP,q⟩
 exact subscriptTail_builtinR (x:=w) pl.typeIs slot_tuple_getitem.lookup
  (getItem_tuple (j:=j) (Q:=λr s'=>r=w/\EP X ae σ Q r s') pl (by omega) (by omega) (by rw [zzC,<-hl];exact h1) (by simpa using ew) ⟨rfl,fin⟩) hs
def Ht:Ka X NL:=by
 intro value slice ae s σ H x y v u Q I rx ry h hs;obtain⟨z,i,c,rfl,rfl,hz,he,q⟩:=h
 obtain⟨t,rfl⟩:=rx
 obtain⟨t',rfl⟩:=ry
 obtain⟨j,h1,h2,h3,h4,h5⟩:=oh he
 have hl:z.cps.toList.length=z.length:=by simp [Str.length]
 rw [hl] at h1 h4 h5;have hn:=kJ
 exact tail_any (typeIs_str s z t) slot_str_getitem.lookup (getItem_str (c:=c) (by
  have e1:decide (i< -(2^63:Int))=false:=zz0 (by omega)
  have e2:decide (i>=2^63)=false:=zz0 (by omega)
  rw [e1,e2,Bool.or_false]) (by rw [h1];simpa using h2) ⟨.str ⟨#[c]⟩,H,I.tok _,⟨_,rfl⟩,q⟩) hs
def pC(lo hi:Option Int)(n:Nat):(sliceBounds lo hi none n).1=((HT.mv n 0 lo:Nat):Int)/\(sliceBounds lo hi none n).2.1=((HT.mv n n hi:Nat):Int)/\(sliceBounds lo hi none n).2.2=1:=by
 refine⟨?_,?_,rfl⟩
 ·cases lo with
  |none=>simp [sliceBounds,HT.mv]
  |some i=>
   simp! [sliceBounds,HT.mv,Option.getD_none,show(1:Int)>0 by decide,if_true]
   by_cases h:i<0
   ·simp! [h,if_true]<;>omega
   ·simp! [h,if_false]<;>omega
 ·cases hi with
  |none=>simp [sliceBounds,HT.mv]
  |some i=>
   simp! [sliceBounds,HT.mv,Option.getD_none,show(1:Int)>0 by decide,if_true]
   by_cases h:i<0
   ·simp! [h,if_true]<;>omega
   ·simp! [h,if_false]<;>omega
def mT(ax:List Value)(lo hi:Option Int):slicePick ax.toArray lo hi none=((ax.drop (HT.mv ax.length 0 lo)).take (HT.mv ax.length ax.length hi-HT.mv ax.length 0 lo)).toArray:=by
 obtain⟨h1,h2,h3⟩:=pC lo hi ax.toArray.size
 unfold slicePick;rw [h1,h2,h3];simp! [sliceRange_one,pick_run,zzC]<;>rfl
def OO(K:zz8):V->Option Int->Option Int->Hp->VK->Prop:=λx lo hi H Q=>∃a xs,x=.ref a/\fV K H a xs/\∀p,H p=none->Q (.ref p) (upd H p (.lst (xf xs lo hi)))
def DQ:Fb X (OO X.K):=by
 intro ae s σ H x v vl vu lo hi sl Q I rx hs pl pu h;obtain⟨a,xs,rfl,hx,q⟩:=h
 cases rx;obtain⟨ax,r,ht,hz⟩:=I.list hx
 have hlen:=r.length
 refine⟨"list",_,slot_list_getitem.lookup,ht.isList.typeIs,?_⟩;refine wpAny_getItem_list_slice ht.isList hs pl pu .none (by simp) ?_ (by rw [zzC]<;>omega);rw [mT,<-hlen];refine⟨.ref (zz9 s),_,I.laid (t':=s.toks) (o:=.lst (xf xs lo hi)) (λb ob q=>zzB _ q) (zzE _) ?_,rfl,q _ (I.aL.fresh (zzE _))⟩;exact⟨zzU (qL xs lo hi) hz,_,0,(r.drop (HT.mv xs.length 0 lo)).take (HT.mv xs.length xs.length hi-HT.mv xs.length 0 lo),zzX _ rfl⟩
def iL:cN X (.builtin "len") (λxs H Q=>∃p ys,xs=[.ref p]/\(fV X.K H p ys\/fF X.K H p ys)/\Q (.int ys.length) H):=by
 intro ae s σ H xs us Q I r h;obtain⟨p,ys,rfl,hq,q⟩:=h
 obtain⟨u,rfl,rx⟩:=vals1 r
 cases rx;have hn:=kJ
 rcases hq with hq|hq
 ·obtain⟨ax,r',pl,hz⟩:=I.list hq
  have hlen:=r'.length
  exact Calls.call_len_list pl.isList (by simp! [zzC]<;>omega) ⟨.int ys.length,H,I.tok _,⟨s.toks+1,by rw [zzC,hlen]⟩,q⟩
 ·obtain⟨ax,r',pl,hz⟩:=I.tuple hq
  have hlen:=r'.length
  exact len_tuple pl (by simp! [zzC]<;>omega) ⟨.int ys.length,H,I.tok _,⟨s.toks+1,by rw [zzC,hlen]⟩,q⟩
def pj:cN X (.builtin "len") (λxs H Q=>∃z,xs=[.str z]/\z.length<=sizeLine/\Q (.int z.length) H):=by
 intro ae s σ H xs us Q I r h;obtain⟨z,rfl,hz,q⟩:=h
 obtain⟨u,rfl,t,rfl⟩:=vals1 r
 have hn:=kJ
 exact len_str (by omega) ⟨.int z.length,H,I.tok _,⟨_,rfl⟩,q⟩
def mF:cN X (.type "tuple") (λxs H Q=>∃p ys,xs=[.ref p]/\((fV X.K H p ys/\∀l,H l=none->Q (.ref l) (upd H l (.tup ys)))\/(fF X.K H p ys/\Q (.ref p) H))):=by
 intro ae s σ H xs us Q I r h;obtain⟨p,ys,rfl,h⟩:=h
 obtain⟨u,rfl,rx⟩:=vals1 r
 cases rx;rcases h with⟨hq,q⟩|⟨hq,q⟩
 ·obtain⟨ax,r',pl,hz⟩:=I.list hq
  have hlen:=r'.length
  refine call_tuple_list pl.isList (λh' kp=>?_) (by simp! [zzC]<;>omega);have I1:Inv X ae σ H {s with heap:=h'}:=I.kept (t':=s.toks) kp
  have I2:Inv X ae σ (upd H h'.objs.size (.tup ys)) {s with heap:=h'.push {cls:=.type "tuple",data:=.seq ax.toArray}}:=
   I1.laid (t':=s.toks) (λb o e=>zzB _ e) (zzE _) (show bJ X.prog X.w _ _ _ (.tup ys) from⟨hz,ax,r',IsTup.new _ _⟩)
  exact⟨.ref h'.objs.size,_,I2,rfl,q _ (I1.aL.fresh (zzE _))⟩
 ·obtain⟨ax,r',pl,hz⟩:=I.tuple hq
  exact call_tuple_same pl ⟨.ref p,H,I,rfl,q⟩
def Qv(K:zz8)(T:String)(x:V)(H:Hp):Prop:=match x with
 |.str _=>T="str"
 |.int _=>T="int"
 |.ref p=>(T="list"/\∃xs,fV K H p xs)\/(T="tuple"/\∃o,K.lookup p=some o/\o.cls=.type "tuple"/\o.dict=none)\/
  (T="dict"/\((∃aw,H p=some (.dK aw))\/∃aw,H p=some (.dT aw)))\/(T="set"/\∃S n,H p=some (.set S n))
 |_=>False
def IP{ae:List (Addr×Obj)}{σ:St}{H:Hp}{s:Shared}{T:String}{x:V}{v:Value}(I:Inv X ae σ H s)(r:RelV x v)(ty:Qv X.K T x H):
 s.TypeIs v T/\∀a,v=.ref a->∃ob,s.heap.get? a=some ob/\ob.dict=none:=by
 cases x with
 |str z=>
  obtain⟨t,rfl⟩:=r
  cases(show T="str" from ty);exact⟨typeIs_str s z t,λ_ e=>nomatch e⟩
 |int i=>
  obtain⟨t,rfl⟩:=r
  cases(show T="int" from ty);exact⟨typeIs_int s i t,λ_ e=>nomatch e⟩
 |ref p=>
  cases r;rcases ty with⟨rfl,xs,hq⟩|⟨rfl,o,hk,hc,hd⟩|⟨rfl,hk⟩|⟨rfl,S,n,hk⟩
  ·obtain⟨ax,_,pl,_⟩:=I.list hq
   refine⟨pl.isList.typeIs,λa e=>?_⟩
   cases e;obtain⟨o,n,e,c,hd,_⟩:=pl
   exact⟨o,e,hd⟩
  ·refine⟨⟨o,I.ql p o hk,hc⟩,λa e=>?_⟩
   cases e;exact⟨o,I.ql _ o hk,hd⟩
  ·have z:∃o,s.heap.get? p=some o/\o.ExactDict:=by
    rcases hk with⟨aw,hk⟩|⟨aw,hk⟩
    ·obtain⟨_,_,_,_,o,_,_,e,ex,_⟩:=I.aL p _ hk
     exact⟨o,e,ex⟩
    ·obtain⟨_,_,_,_,o,_,_,e,ex,_⟩:=I.aL p _ hk
     exact⟨o,e,ex⟩
   obtain⟨o,e,ex⟩:=z
   refine⟨⟨o,e,ex.1⟩,λa e2=>?_⟩
   cases e2;exact⟨o,e,ex.2.1⟩
  ·obtain⟨o,_,_,_,e,ex,_⟩:=I.aL p _ hk
   refine⟨⟨o,e,ex.1⟩,λa e2=>?_⟩
   cases e2;exact⟨o,e,ex.2.1⟩
 |_=>exact zzk ty
noncomputable def S2(K:zz8)(T:String)(r:V->List V->Hp->VK->Prop)(to:TE)(t:TA):TE:=λσ H Q=>to σ H λx H1=>Qv K T x H1/\t σ H1 λxs H2=>r x xs H2 Q
variable{o e:Expr}{es:List Expr}{to:TE}{t:TA}{name:Str}{apos bG:Pos}{T id:String}{r:V->List V->Hp->VK->Prop}
theorem FR(pa:PlainAttrs T)(slot:Slot T name id)(Tc:typeOf (.builtin id)=pure (.type "method_descriptor"))(hm:QT X id r)(ho:PE X o to)(ha:PA X (e::es) t)
 (hX:attributeBase o name X.env (eval o X.env)=eval o X.env:=by rfl)
 (NZ:((backTo bG (starEach (e::es) X.env)).all (λx=>!x.1)&&(backToKw bG (keywordEach [] X.env)).all (λx=>x.1.isSome)
  &&decide ((e::es).length+([]:List Keyword).length+(if([]:List Keyword).isEmpty then 0 else 1)<30))=true:=by rfl)
 (kD:(apos.endLine==bG.line)=true:=by rfl) (hs:starEach (e::es) X.env=(false,eval e X.env)::starEach es X.env:=by rfl) (sA:(backTo bG (starEach es X.env)).any (·.1)=false:=by rfl):
 PE X (.Call (.Attribute o name apos) (e::es) [] bG) (S2 X.K T r to t):=by
 intro ae s σ H Q I h;refine wpAny_Call_method_late hX NZ kD rfl (bI (ho ae s σ H _ I h) λv s1 ⟨x,H1,I1,r1,ty,q1⟩=>?_)
 obtain⟨h1,h2⟩:=IP I1 r1 ty
 refine⟨T,id,pa,slot,Tc,h1,h2,?_⟩;have hA:=ha bG ae s1 σ H1 _ I1 q1
 rw [hs] at hA⊢;refine Calls.callWith_builtin (by show(false||(backTo bG (starEach es X.env)).any (·.1))=false;rw [sA]<;>rfl) (Calls.evalArgs_plain ?_);exact bI hA λus s2 ⟨vs,H2,I2,r2,q2⟩=>hm ae s2 σ H2 x vs v us Q I2 r1 r2 q2
end
def SN(X:Cx)(id:String)(r:V->List V->Hp->VK->Prop):Prop:=
 ∀(ae:List (Addr×Obj)) (s:Shared) (σ:St) (H:Hp) (x:V) (xs:List V) (v:Value) (us:List Value) (Q:VK),Inv X ae σ H s->RelV x v->Vals xs us->r x xs H Q->
  wpAny (model X.prog X.w) X.A (call (.builtin id) (v::us)) (EP X ae σ Q) X.xe s
theorem Vals.one:∀{x:V} {us:List Value},Vals [x] us->∃u,us=[u]/\RelV x u
 |_,_,.cons r .nil=>⟨_,rfl,r⟩
def Vals.two{x y:V}{us:List Value}(h:Vals [x,y] us):∃u v,us=[u,v]/\RelV x u/\RelV y v:=by
 cases h with
 |cons r q=>
  cases q with
  |cons q n=>cases n;exact⟨_,_,rfl,r,q⟩
section
variable{X:Cx}{ae:List (Addr×Obj)}{σ:St}{H:Hp}{s:Shared}{l:Addr}{xs ys:List V}
def Inv.Lb{ax its':List Value}{n:Nat}{f:Array Value->Array Value}{t':Nat}(I:Inv X ae σ H s)(hH:H l=some (.lst xs))
 (e:s.heap.get? l=some {cls:=.type "list",data:=.seq ax.toArray n}) (hf:f ax.toArray=its'.toArray) (hv:Vals ys its') (hz:ys.length<=sizeLine):
 Inv X ae σ (upd H l (.lst ys)) {s with heap:=s.heap.update l (Obj.mapSeq f),toks:=t'}:=by
 have q:=PySem.IsL.update e f
 rw [hf] at q;refine I.write (x:=l) (e:=l) (by rw [hH];exact trivial) (.inl rfl) (λb' u hb hu=>(Heap.get?_update_other s.heap (Obj.mapSeq f) (Ne.symm hb)).trans hu) ⟨_,q⟩ ?_
 exact⟨hz,its',_,hv,q⟩
theorem Inv.PB{ax:List Value}{t':Nat}(I:Inv X ae σ H s)(hv:Vals ys ax)(hz:ys.length<=sizeLine):
 Inv X ae σ (upd H (zz9 s) (.lst ys)) {s with heap:=s.heap.push {cls:=.type "list",data:=.seq ax.toArray},toks:=t'}:=
 I.laid (λ_ _ q=>zzB _ q) (zzE _) ⟨hz,ax,0,hv,zzX _ rfl⟩
def Inv.fresh(I:Inv X ae σ H s):H (zz9 s)=none:=I.aL.fresh (zzE _)
def Inv.Kq(I:Inv X ae σ H s)(hH:H l=some (.lst xs)):xs.length<=sizeLine/\∃(ax:List Value) (n:Nat),Vals xs ax/\xs.length=ax.length/\s.heap.get? l=some {cls:=.type "list",data:=.seq ax.toArray n}:=by
 obtain⟨z,ax,n,r,e⟩:=I.aL l _ hH
 exact⟨z,ax,n,r,r.length,e⟩
def zW{n:Nat}(h:n<=sizeLine):Builtin.List.listTooLong n=false:=by
 unfold Builtin.List.listTooLong;exact zz0 (by omega)
def BD:V->List V->Hp->VK->Prop:=λx vs H Q=>∃l xs y,x=.ref l/\vs=[y]/\H l=some (.lst xs)/\xs.length<sizeLine/\Q .aC (upd H l (.lst (xs++[y])))
def xm:SN X "list.append" BD:=by
 intro ae s σ H x vs v us Q I rx rv h;obtain⟨l,xs,y,rfl,rfl,hH,hz,q⟩:=h
 cases rx;obtain⟨u,rfl,ru⟩:=rv.one
 obtain⟨z,ax,n,r,hl,e⟩:=I.Kq hH
 refine call_meets F.slot_list_append ⟨_,e,rfl⟩ F.entry_list_append (F.args_list_append_2 _ _) (PySem.list_append l ax.toArray n u (by rw [zzC];omega)) ⟨e,?_⟩;refine⟨.aC,_,I.Lb (its':=ax++[u]) hH e (by simp) (r.append (.cons ru .nil)) ?_,rfl,q⟩;rw [zzM,List.length_singleton];omega
end
end L2
namespace Att
open PySem PySem.W PySem.Calls PyProof.Rows
def jV{P:Params}{h:Heap}:∀(ns:List Int) (vs:List Value),WellAll P h vs (ns.map WData.int)->IntsAre vs ns:=by
 intro ns
 induction ns with
 |nil=>
  intro vs w;rw [List.map_nil] at w;cases w;exact .nil
 |cons n ns ih=>
  intro vs w;rw [zzF] at w;cases w with
  |cons a b=>
   cases a;exact .cons _ _ (ih _ b)
def v3{l:OpenLaw}{n:Nat}(hn:l.most=some n){P:Params}{h:Heap}{args:List WData}{vals:List Value}
 (D4:l.row.toRowW.claim.pre args=true) (OJ:WellAll P h vals args):
 ∃a vs ns,vals=[Value.ref a]/\args=[WData.list (ns.map WData.int)]/\h.get? a=some {cls:=.type "list",data:=.seq vs.toArray}/\IntsAre vs ns/\ns.length<=n:=by
 have RP:WShape.hasAll [] args [.list .int]=true:=(pre_splitW D4).1
 have hc:l.pre.holds [] {args:=args}=true:=(pre_splitW D4).2
 obtain⟨d,r,rfl,h1,h2⟩:=hasAllW_cons RP
 obtain rfl:=hasAllW_nil h2
 obtain⟨xs,rfl,h3⟩:=hasW_list h1
 obtain⟨ns,rfl⟩:=items_int h3
 have hlen:ns.length<=n:=by
  unfold OpenLaw.pre at hc;have h4:(WTm.not (.lt (.lit (.int (n:Int))) (.len (.arg 0)))).holds [] {args:=[.list (ns.map .int)]}=true:=by
   have h4:=(holds_andW hc).1
   rw [hn] at h4;exact h4
  have h5:=condW_of h4 (w_not (w_lt w_lit (w_len_list (w_arg rfl))))
  rw [zzl] at h5;refine Nat.le_of_not_lt λq=>?_
  have q':(n:Int)<((ns.length:Nat):Int):=by omega
  first
   |(rw [zzh q'] at h5;exact absurd h5 (by decide))
   |(simp at h5;omega)
 cases OJ with
 |cons w1 w2=>
  cases w2;cases w1 with
  |list ho hall=>exact⟨_,_,ns,rfl,rfl,ho,jV ns _ hall,hlen⟩
theorem vU(l:OpenLaw)(args:List WData):l.row.toRowW.claim.post args (.bool true) args=true:=
 postW_of (r:=l.row.toRowW) (X:=(true==true))
  (show WShape.has [] (.bool true) .bool=true by first|rfl|decide|simp [WShape.has,WShape.arms,WShape.armsAll])
  (show(WTm.eq .res (.lit (.bool true))).value [] {args:=args,res:=some (.bool true),after:=args}=some (.bool (true==true)) from w_eq_bool (w_res rfl) w_lit) rfl
def rB{l:OpenLaw}{n:Nat}{q:Program}{loose:List Str}{XP:(Str->Option Value)->Heap->Prop}{YP:World->Heap->Prop}{d:DefRec}
 (hn:l.most=some n) (Ml:d.params.defaults=[])
 (call:∀(w:World) (s₀ s₁:Shared) (mg mb:Str->Option Value) (fa:Addr) (o:Obj) (pm cd doc:Value) (a:Addr) (vs:List Value) (ns:List Int),
  Ground q loose [] XP w s₀ mg mb s₁.heap->YP w s₁.heap->
  s₁.heap.get? fa=some o->o.data=.func (docDef d.name d.params d.body d.scope pm cd doc)->s₁.heap.CodeRec cd d.name->mg d.name=some (.ref fa)->
  s₁.heap.get? a=some {cls:=.type "list",data:=.seq vs.toArray}->IntsAre vs ns->ns.length<=n->s₁.gens=#[]->
  codeAny (model l.prog w) callerA (.call (.ref fa) ⟨[.ref a],[]⟩) (λr s'=>r=.ok (.ret (.bool true))/\OldK s₁.heap s'.heap/\s'.os=s₁.os/\AllBare s'.gens) s₁):
 WalkO q loose XP YP l.row.toRowW d [] (λf vs=>PySem.call f vs):=by
 intro w s₀ s₁ mg mb G Y fa o pm cd doc dV kV ho hd sk hD hmg hg args vals as D4 hlay hrd OJ hlo;obtain rfl:dV=.none:=Dflts.none hD Ml
 obtain rfl:kV=.none:=Dflts.noKw hD
 obtain⟨a,vs,ns,rfl,rfl,hobj,hints,hlen⟩:=v3 hn D4 OJ
 refine enter_call (codeAny_mono (call w s₀ s₁ mg mb fa o pm cd doc a vs ns G Y ho (fd_plain hd) sk hmg hobj hints hlen hg) λr s' hq=>?_)
 obtain⟨rfl,h2,h3,h4⟩:=hq
 exact⟨.inl ⟨.bool true,.bool true,[],rfl,λ_=>rfl,.bool true,vU l _,λ_=>⟨List.Pairwise.nil,λ_ hm=>(nomatch hm)⟩⟩,h2,h3,h4⟩
section
def ledger(h:Heap)(L d:Addr):List (Addr×Obj):=(List.range h.objs.size).filterMap λa=>if a=L\/a=d then none else(h.get? a).map λo=>(a,o)
end
end Att
namespace L2
open PySem PySem.Spec PyProof.Rows
theorem m6:∀{vs:List Value} {ns:List Int},IntsAre vs ns->Vals (ns.map V.int) vs
 |_,_,.nil=>.nil
 |_,_,.cons n t h=>.cons ⟨t,rfl⟩ (m6 h)
noncomputable def di(s:Stmt):Arguments:=match s with
 |.FunctionDef _ a _ _ _ _ _ _ _ _=>a
 |_=>{posonlyargs:=[],args:=[],vararg:=none,kwonlyargs:=[],kw_defaults:=[],kwarg:=none,defaults:=[]}
def cU(s:Stmt):List Stmt:=match s with
 |.FunctionDef _ _ b _ _ _ _ _ _ _=>b
 |_=>[]
def aR(s:Stmt):Scope:=match s with
 |.FunctionDef _ _ _ _ _ _ sc _ _ _=>sc
 |_=>{kind:=.function,names:=[],isGenerator:=false,isCoroutine:=false}
structure M3(K:zz8)(x qual:Str)(st:Stmt)(f:Addr)(fd:FuncData):Prop where
 ex:∃(oc:Value) (od:Option Addr) (kV doc pm:Value) (an:Option Addr) (fU ct:Value) (sS:Array (Option Value)),
  fd=PySem.W.fnOf x qual (di st) (cU st) (aR st) .none kV doc pm an fU ct/\K.lookup f=some ⟨oc,od,.func fd,sS⟩/\PySem.W.codeIn K fU qual=true
 kp:PySem.W.keepIn K (.ref f)=true
section
variable{K:zz8}
def M3.binds{x qual:Str}{st:Stmt}{f:Addr}{fd:FuncData}{ps:List Str}(F:M3 K x qual st f fd)
 (h:∀(kV doc pm:Value) (an:Option Addr) (fU ct:Value) (us:List Value),us.length=ps.length->bindArgs (PySem.W.fnOf x qual (di st) (cU st) (aR st) .none kV doc pm an fU ct) ⟨us,[]⟩=pure (ps.zip us)):Binds K fd ps []:=by
 obtain⟨oc,od,kV,doc,pm,an,fU,ct,sS,rfl,lk,sk⟩:=F.ex
 exact .all (h kV doc pm an fU ct)
def Ag{x qual:Str}{st:Stmt}{f:Addr}{oc:Value}{od an:Option Addr}{sS:Array (Option Value)}{kV doc pm fU ct:Value}(l:K.lookup f=some ⟨oc,od,.func (PySem.W.fnOf x qual (di st) (cU st) (aR st) .none kV doc pm an fU ct),sS⟩)
 (c:PySem.W.codeIn K fU qual=true) (k:PySem.W.keepIn K (.ref f)=true):M3 K x qual st f (PySem.W.fnOf x qual (di st) (cU st) (aR st) .none kV doc pm an fU ct):=⟨⟨oc,od,kV,doc,pm,an,fU,ct,sS,rfl,l,c⟩,k⟩
variable{X:Cx}
theorem pv(i:Nat){x:Str}{pos:Pos}(hN:X.N[i]?=some x:=by rfl)(hv:La X.env.scope x:=by first|exact Or.inl rfl|exact Or.inr (Or.inl rfl)|exact Or.inr (Or.inr rfl))(hd:(x==("__debug__":Str))=false:=by decide)
 (sk:(x==("__classdict__":Str))=false:=by decide):PE X (.Name x pos) (yc i):=eX hN hv hd sk
end
def Pa{A B:Prop}(h:B):if false=true then A else B:=by
 rw [if_neg zzf];exact h
def PN{A B:Prop}(h:A):if true=true then A else B:=by
 rw [if_pos rfl];exact h
def aA(H H':Hp):Prop:=∀b o,H b=some o->H' b=some o
def aA.refl(H:Hp):aA H H:=λ_ _ h=>h
def aA.trans{H H1 H2:Hp}(a:aA H H1)(b:aA H1 H2):aA H H2:=λc o h=>b c o (a c o h)
def aA.free{H H':Hp}(e:aA H H'){l:Addr}(h:H' l=Option.none):H l=Option.none:=by
 cases q:H l with
 |none=>rfl
 |some o=>
  rw [e l o q] at h;cases h
def aA.seq{K:zz8}{H H':Hp}{a:Addr}{xs:List V}(e:aA H H')(h:fV K H a xs):fV K H' a xs:=by
 rcases h with(h|⟨o,h⟩)|h
 ·exact .inl (.inl (e _ _ h))
 ·exact .inl (.inr ⟨o,e _ _ h⟩)
 ·exact .inr h
end L2
set_option maxHeartbeats 8000000
namespace L2
open PySem PySem.Spec PyProof.Rows
open PySem.W (hideAll hideAll_get of_hideAll funFrames_hide)
structure ER(P:Program)(w:World)(outer:List Env)(H:Hp)(s:Shared)(E:XK)(a C t:Addr)(vs:List Value)(H':Hp)(B:Heap)(s':Shared):Prop where
 os:s'.os=s.os
 bare:AllBare s'.gens
 aL:eA P w H' B
 Bg:Heap.FlyingW B outer a (.ref C) (.ref t) s'.heap
 tn:B.get? t=none
 tup:s'.heap.TupAt t vs
 dW:∀b o,s.heap.get? b=some o->H b=none->b∉eO outer->B.get? b=some o
 dg:∀b o,s.heap.get? b=some o->b∉eO outer->∃o',B.get? b=some o'
 un:Un (eO outer) [] H H' s.heap s'.heap
 ends:E (.ref C) (some a) H'
def dR(P:Program)(w:World):xQ:=λouter H s E e s'=>∃a C t vs H' B,e=.ref a/\ER P w outer H s E a C t vs H' B s'
section
variable{P:Program}{w:World}{K:zz8}{mg:Str->Option Value}{base:Heap}{N:List Str}{qual:Str}{scope:Scope}{f:Addr}{cd:Value}{A:Around}{outer:List Env}{s0:Shared}{H0:Hp}{E:XK}
def ji{X:Cx}{ae:List (Addr×Obj)}{σ:St}{H:Hp}{s:Shared}(I:Inv X ae σ H s){b:Addr}{o:Obj}(hl:X.env.locals=X.s₀.heap.objs.size)(q:X.s₀.heap.get? b=some o)(hb:b∉X.fs):b∉eO X.stack:=λz=>by
 rcases zzm.mp (I.iE b z) with e|e
 ·rw [hl] at e;exact absurd (zzO q) (by rw [e];exact Nat.lt_irrefl _)
 ·exact hb e
def LB:Passes (dR P w) (dM (dR P w) P w K mg base N qual scope f cd A outer s0 H0 E) E:=by
 rintro ae σ H s e s' I ⟨a,C,t,vs,H',B,rfl,F⟩
 have nx:∀b:Addr,b∉(dM (dR P w) P w K mg base N qual scope f cd A outer s0 H0 E).ex:=λb z=>nomatch (show b∈([]:List Addr) from z)
 have dW:∀b o,s0.heap.get? b=some o->H0 b=none->b∉eO outer->B.get? b=some o:=λb o q n hb=>
  F.dW b o (I.base.keep b o q n hb (nx b)) (I.base.free b o q n (nx b)) (ji I rfl q hb)
 have dg:∀b o,s0.heap.get? b=some o->b∉eO outer->∃o',B.get? b=some o':=λb o q hb=>by
  obtain⟨o1,q1⟩:=I.base.there b o q (nx b)
  exact F.dg b o1 q1 (ji I rfl q hb)
 refine wpAny_leaves_onW I.ok.frames rfl F.Bg λh' x1 x2=>⟨a,C,t,vs,H',B,rfl,?_⟩
 have slot:∀b o,s0.heap.get? b=some o->H0 b=none->b∈eO outer->∃sl,h'.get? b=some {o with slots:=sl}:=λb o q n hb=>by
  obtain⟨sl,q1⟩:=I.base.slot b o q n hb (nx b)
  obtain⟨sl2,q2⟩:=F.un.any q1 (I.base.free b o q n (nx b)) (λz=>nomatch z)
  obtain⟨_,o',q3,hd⟩:=F.Bg.2.2.1.mem (b:=b) (zz1.mpr (let⟨v,h1,h2⟩:=zz1.mp hb;⟨v,.tail _ h1,h2⟩))
  rw [q2] at q3;cases q3;obtain⟨sl3,q4⟩:=x2 b _ q2 hd
  exact⟨sl3,q4⟩
 refine⟨F.os.trans I.os,F.bare,F.aL,x1,F.tn,F.tup.of_slots x2,dW,dg,⟨λb o q n hb _=>x1.1 _ _ (dW b o q n hb),λb o q n hb _=>slot b o q n hb,λb o q n _=>?_,λb o q _=>?_,λb xs q=>F.un.g7 _ _ (I.base.g7 _ _ q),λb o u q=>F.un.fI _ _ _ (I.base.fI _ _ _ q),λb ps q=>?_⟩,F.ends⟩
 ·obtain⟨sl,q1⟩:=I.base.any q n (nx b)
  exact F.un.free b _ q1 (I.base.free b o q n (nx b)) (λz=>nomatch z)
 ·by_cases hb:b∈eO outer
  ·obtain⟨sl,q1⟩:=slot b o q (I.ok.xH b hb) hb
   exact⟨_,q1⟩
  ·obtain⟨o',q1⟩:=dg b o q hb
   exact⟨o',x1.1 _ _ q1⟩
 ·obtain⟨m1,q1⟩:=I.base.gr b ps q
  obtain⟨m2,q2⟩:=F.un.gr b _ q1
  exact⟨m1++m2,by rw [<-Array.append_assoc];exact q2⟩
def Jv{ae:List (Addr×Obj)}{σ:St}{H:Hp}{s:Shared}{h1:Heap}{e C:Addr}{us:List Value}(I:Inv (dM (dR P w) P w K mg base N qual scope f cd A outer s0 H0 E) ae σ H s)
 (hx:Heap.MadeExcOf s.heap h1 e (.ref C) us) (hE:E (.ref C) (some e) H):(dM (dR P w) P w K mg base N qual scope f cd A outer s0 H0 E).xe (.ref e) {s with heap:=h1}:=by
 have nx:∀b:Addr,b∉(dM (dR P w) P w K mg base N qual scope f cd A outer s0 H0 E).ex:=λb z=>nomatch (show b∈([]:List Addr) from z)
 have QH:∀env∈(dM (dR P w) P w K mg base N qual scope f cd A outer s0 H0 E).stack,∀b,env.frame=some b->b∈eO (dM (dR P w) P w K mg base N qual scope f cd A outer s0 H0 E).stack:=λenv he b hb=>zz1.mpr ⟨env,he,hb⟩
 refine wpAny_leaves_madeW (h:=s.heap) I.ok.frames rfl (λb o q=>of_hideAll _ q) (funFrames_hide I.stack QH) hx λh' t x1 x2 x3 x4=>⟨e,C,t,us,H,hideAll s.heap (eO (dM (dR P w) P w K mg base N qual scope f cd A outer s0 H0 E).stack),rfl,?_⟩
 have dW:∀b o,s0.heap.get? b=some o->H0 b=none->b∉eO outer->(hideAll s.heap (eO (dM (dR P w) P w K mg base N qual scope f cd A outer s0 H0 E).stack)).get? b=some o:=λb o q n hb=>
  hideAll_get _ (I.base.keep b o q n hb (nx b)) (ji I rfl q hb)
 have dg:∀b o,s0.heap.get? b=some o->b∉eO outer->∃o',(hideAll s.heap (eO (dM (dR P w) P w K mg base N qual scope f cd A outer s0 H0 E).stack)).get? b=some o':=λb o q hb=>by
  obtain⟨o1,q1⟩:=I.base.there b o q (nx b)
  exact⟨o1,hideAll_get _ q1 (ji I rfl q hb)⟩
 have slot:∀b o,s0.heap.get? b=some o->H0 b=none->b∈eO outer->∃sl,h'.get? b=some {o with slots:=sl}:=λb o q n hb=>by
  obtain⟨sl,q1⟩:=I.base.slot b o q n hb (nx b)
  obtain⟨_,o',q3,hd⟩:=I.stack.mem (b:=b) (zz1.mpr (let⟨v,h1,h2⟩:=zz1.mp hb;⟨v,.tail _ h1,h2⟩))
  rw [q1] at q3;cases q3;obtain⟨sl3,q4⟩:=x4 b _ (hx.keeps _ _ q1) hd
  exact⟨sl3,q4⟩
 refine⟨I.os,I.bare,λb o q=>?_,x1,x3,x2,dW,dg,⟨λb o q n hb _=>x1.1 _ _ (dW b o q n hb),λb o q n hb _=>slot b o q n hb,λb o q n _=>I.base.free b o q n (nx b),λb o q _=>?_,I.base.g7,I.base.fI,I.base.gr⟩,hE⟩
 ·refine(I.aL b o q).eP (λc v hc r=>hideAll_get _ r λz=>?_) (λ_ q=>q) λ_ _ q=>q
  have z':=I.j4 c z
  rcases hc with rfl|hc
  ·rw [q] at z';cases z'
  ·rw [hc] at z';cases z'
 ·by_cases hb:b∈eO outer
  ·obtain⟨sl,q1⟩:=slot b o q (I.ok.xH b hb) hb
   exact⟨_,q1⟩
  ·obtain⟨o',q1⟩:=dg b o q hb
   exact⟨o',x1.1 _ _ q1⟩
end
def jr{P:Program}{w:World}{H:Hp}{h:Heap}{a:Addr}{o:HO}(x:bJ P w H h a o):∃o',h.get? a=some o':=by
 cases o with
 |lst xs=>obtain⟨_,_,_,_,e⟩:=x;exact⟨_,e⟩
 |tup xs=>obtain⟨_,_,_,o,e,_⟩:=x;exact⟨_,e⟩
 |dK aw=>obtain⟨_,_,_,_,o,_,_,e,_⟩:=x;exact⟨_,e⟩
 |dT aw=>obtain⟨_,_,_,_,o,_,_,e,_⟩:=x;exact⟨_,e⟩
 |set S n=>obtain⟨o,_,_,_,e,_⟩:=x;exact⟨_,e⟩
 |ins C dx fs=>obtain⟨_,_,_,e,_⟩:=x;exact⟨_,e⟩
 |own y=>exact x
 |xd fs=>obtain⟨_,⟨_,_,_,e,_⟩,_⟩:=x;exact⟨_,e⟩
 |qR lo hi=>obtain⟨_,_,_,e⟩:=x;exact⟨_,e⟩
 |bp ob u=>obtain⟨e,_⟩:=x;exact⟨_,e⟩
 |fY ps=>exact⟨_,x⟩
 |met f y=>exact⟨_,x⟩
 |ext φ=>exact x.2.1
def HY(C:Addr)(E:XK)(ta:TA):TS:=λ_ σ H=>ta σ H λvs H1=>vs.length<=sizeLine/\∀e,H1 e=none->E (.ref C) (some e) H1
section
variable{P:Program}{w:World}{K:zz8}{mg:Str->Option Value}{base:Heap}{N:List Str}{qual:Str}{scope:Scope}{f:Addr}{cd:Value}{A:Around}{outer:List Env}{s0:Shared}{H0:Hp}{E:XK}
theorem Af{x:Str}{C:Addr}{Bn newId HW:String}{bm:List Value}{e₀:Expr}{rest:List Expr}{np bG pos:Pos}{ta:TA}(hg:Gl (dM (dR P w) P w K mg base N qual scope f cd A outer s0 H0 E) x)(O:OwnCls x C bm newId mg base)(FB:ExcBaseFacts Bn newId HW bm)
 (ha:PA (dM (dR P w) P w K mg base N qual scope f cd A outer s0 H0 E) (e₀::rest) ta)
 (he:starEach (e₀::rest) (dM (dR P w) P w K mg base N qual scope f cd A outer s0 H0 E).env=(false,eval e₀ (dM (dR P w) P w K mg base N qual scope f cd A outer s0 H0 E).env)::starEach rest (dM (dR P w) P w K mg base N qual scope f cd A outer s0 H0 E).env:=by rfl)
 (sA:(backTo bG (starEach rest (dM (dR P w) P w K mg base N qual scope f cd A outer s0 H0 E).env)).any (·.1)=false:=by rfl) (hd:(x==("__debug__":Str))=false:=by decide):
 PS (dM (dR P w) P w K mg base N qual scope f cd A outer s0 H0 E) (.Raise (some (.Call (.Name x np) (e₀::rest) [] bG)) none pos) (HY C E ta):=by
 intro ae s σ H D I h;obtain⟨tl,Nn,nm,q,bs,hdct,sn,sub,ab,col,dd,k0,k1,k2,k3,k5,mN,hC,hN,hni,T⟩:=O.obj
 refine wpAny_Raise_call_subT (C:=C) (nm:=nm) (q:=q) (N:=Nn) (bs:=bs) (bm:=tl) (hdct:=hdct) (sn:=sn) (sub:=sub) (ab:=ab) (col:=col) (dd:=dd) (k0:=k0) (k1:=k1) (k2:=k2) (k3:=k3) (k5:=k5)
  FB (mN:=mN) (T.hasType FB.hasBase) (I.ok.hd rfl) (by rw [he];show(false||(backTo bG (starEach rest (dM (dR P w) P w K mg base N qual scope f cd A outer s0 H0 E).env)).any (·.1))=false;rw [sA];rfl) hni (gX I hg O.bound ⟨rfl,?_⟩ hd)
 have h2:=ha bG ae s σ H _ I h
 rw [he] at h2⊢;refine Calls.evalArgs_plain (wpAny_mono h2 (λus s2 ⟨vs,H1,I1,rv,hl,hE⟩=>?_) λ_ _ y=>y)
 refine⟨rfl,by rw [<-rv.length];exact hl,I1.bk _ _ hC,hN.keeps I1.bk,T.keeps I1.bk,λh1 e hx=>Jv I1 hx (hE e ?_)⟩
 cases z:H1 e with
 |none=>rfl
 |some o=>
  obtain⟨o',iF⟩:∃o',s2.heap.get? e=some o':=by
   exact jr (I1.aL _ _ z)
  rw [hx.new] at iF;cases iF
end
def Ku(a C:Addr):HO:=.ext λh=>∃ob vs,h.get? a=some ob/\ob.cls=.ref C/\ob.data=.fields vs
section
variable{P:Program}{w:World}
def ER.fresh{outer:List Env}{H:Hp}{s s':Shared}{E:XK}{a C t:Addr}{vs:List Value}{H':Hp}{B:Heap}(F:ER P w outer H s E a C t vs H' B s'):H' a=none:=by
 cases z:H' a with
 |none=>rfl
 |some o=>
  obtain⟨o',iF⟩:=jr (F.aL _ _ z)
  rw [F.Bg.2.1] at iF;cases iF
end
def bH(env:Env)(ys:List Str):List (Str×Addr):=ys.map λy=>(y,(env.cells.lookup y).getD 0)
def zG(σ:St)(is:List Nat):St:=is.map λi=>(σ[i]?).join
def lD(scope:Scope)(x:Str):Bool:=scope.names.lookup x==some .cell
theorem sf{x:Str}{c:Addr}:∀(names:List (Str×NameKind)) (n:Nat) (acc:List (Str×Addr)),(x,c)∈cellsFrom n names acc->(x,c)∈acc\/(x,NameKind.cell)∈names/\n<=c
 |[],n,acc,h=>by rw [cellsFrom.eq_def] at h;exact .inl h
 | (y,k)::r,n,acc,h=>by
  rw [cellsFrom.eq_def] at h;dsimp only at h;split at h
  ·rename_i hk;cases eq_of_beq hk;rcases sf r (n+1) _ h with z|⟨z1,z2⟩
   ·rcases zzm.mp z with z|z
    ·cases z;exact .inr ⟨zzP ..,zzE _⟩
    ·exact .inl z
   ·exact .inr ⟨zzI _ z1,Nat.le_of_succ_le z2⟩
  ·rcases sf r n _ h with z|⟨z1,z2⟩
   ·exact .inl z
   ·exact .inr ⟨zzI _ z1,z2⟩
theorem oD{x:Str}{c:Addr}:∀(names:List (Str×NameKind)) (n:Nat) (acc:List (Str×Addr)),(cellsFrom n names acc).lookup x=some c->acc.lookup x=some c\/(x,NameKind.cell)∈names/\n<=c
 |[],n,acc,h=>by rw [cellsFrom.eq_def] at h;exact .inl h
 | (y,k)::r,n,acc,h=>by
  rw [cellsFrom.eq_def] at h;dsimp only at h;split at h
  ·rename_i hk;cases eq_of_beq hk;rcases oD r (n+1) _ h with z|⟨z1,z2⟩
   ·rw [zz5] at z;cases e:x==y with
    |true=>rw [e] at z;cases z;cases eq_of_beq e;exact .inr ⟨zzP ..,zzE _⟩
    |false=>rw [e] at z;exact .inl z
   ·exact .inr ⟨zzI _ z1,Nat.le_of_succ_le z2⟩
  ·rcases oD r n _ h with z|⟨z1,z2⟩
   ·exact .inl z
   ·exact .inr ⟨zzI _ z1,z2⟩
theorem n9{x:Str}:∀(names:List (Str×NameKind)) (n:Nat) (acc:List (Str×Addr)),(x,NameKind.cell)∉names->(cellsFrom n names acc).lookup x=acc.lookup x
 |[],n,acc,_=>by rw [cellsFrom.eq_def]
 |(y,k)::r,n,acc,h=>by
  rw [cellsFrom.eq_def];dsimp only;have hr:(x,NameKind.cell)∉r:=λz=>h (zzI _ z)
  split
  ·rename_i hk;cases eq_of_beq hk;rw [n9 r (n+1) _ hr,zz5];cases e:x==y with
   |true=>cases eq_of_beq e;exact absurd (zzP ..) h
   |false=>rfl
  ·exact n9 r n acc hr
theorem Hi{x:Str}{c:Addr}:∀(names:List (Str×NameKind)) (n:Nat) (acc:List (Str×Addr)),(x,c)∈cellsFrom n names acc->(∀p∈acc,p.2≠c)->(x,c)∈cellsFrom n names []
 |names,n,acc,h,ha=>by
  have key:∀(names:List (Str×NameKind)) (n:Nat) (acc b:List (Str×Addr)),(x,c)∈cellsFrom n names (b++acc)->(∀p∈acc,p.2≠c)->(x,c)∈cellsFrom n names b:=by
   intro names
   induction names with
   |nil=>
    intro n acc b h ha;rw [cellsFrom.eq_def] at h⊢;rcases List.mem_append.mp h with z|z
    ·exact z
    ·exact absurd rfl (ha _ z)
   |cons y r ih=>
    intro n acc b h ha;obtain⟨y,k⟩:=y
    rw [cellsFrom.eq_def] at h⊢;dsimp only at h⊢;split at h
    ·rename_i hk;rw [if_pos hk];exact ih (n+1) acc ((y,n)::b) h ha
    ·rename_i hk;rw [if_neg hk];exact ih n acc b h ha
  exact key names n acc [] h ha
theorem pE{x y:Str}{c:Addr}:∀(names:List (Str×NameKind)) (n:Nat) (acc:List (Str×Addr)),(∀p∈acc,p.2<n)->n<=c->(x,c)∈cellsFrom n names acc->(y,c)∈cellsFrom n names acc->x=y
 |[],n,acc,ha,hc,h1,h2=>by
  rw [cellsFrom.eq_def] at h1;exact absurd (ha _ h1) (Nat.not_lt.mpr hc)
 | (z,k)::r,n,acc,ha,hc,h1,h2=>by
  rw [cellsFrom.eq_def] at h1 h2;dsimp only at h1 h2;split at h1
  ·rename_i hk;rw [if_pos hk] at h2;have RM:∀p∈(z,n)::acc,p.2<n+1:=λp hp=>by
    rcases zzm.mp hp with q|q
    ·rw [q];exact Nat.lt_succ_self _
    ·exact Nat.lt_succ_of_lt (ha p q)
   by_cases hn:n+1<=c
   ·exact pE r (n+1) _ RM hn h1 h2
   ·have one:∀{w:Str},(w,c)∈cellsFrom (n+1) r ((z,n)::acc)->w=z:=λ{w} h=>by
     rcases sf r (n+1) _ h with q|q
     ·rcases zzm.mp q with q|q
      ·cases q;rfl
      ·exact absurd (ha _ q) (Nat.not_lt.mpr hc)
     ·exact absurd q.2 hn
    rw [one h1,one h2]
  ·rename_i hk;rw [if_neg hk] at h2;exact pE r n acc ha hc h1 h2
def uo{M:Model}{A:Around}{E:Value->Shared->Prop}{s:Shared}{scope:Scope}{g:Addr}{cl:List (Str×Addr)}{qual:Str}{around:Env}{Q:Env->Shared->Prop}
 (h:Q (newEnv scope (zz9 s) g (cellsFrom ((zz9 s)+1) scope.names cl) qual none .none (some around) builtinsNs) {s with heap:=pushCells (s.heap.push {cls:=.type "dict",data:=.dict #[]}) scope.names}):
 wpAny M A (newFunctionEnv scope g cl [] qual none .none (some around)) Q E s:=by
 unfold newFunctionEnv;refine zzA (wpAny_alloc ?_);refine zzA (wpAny_forIn_list _ (λrest b s'=>s'={s with heap:=s'.heap}/\pushCells s'.heap rest=pushCells (s.heap.push {cls:=.type "dict",data:=.dict #[]}) scope.names/\cellsFrom (zz9 s') rest b=cellsFrom ((zz9 s)+1) scope.names cl) _ (λx rest b s' hI=>?_) (λb s' hI=>?_) scope.names cl ⟨rfl,rfl,by rw [Heap.size_push]⟩)
 ·obtain⟨h1,h2,h3⟩:=hI
  obtain⟨nm,k⟩:=x
  rw [pushCells.eq_def] at h2;rw [cellsFrom.eq_def] at h3;dsimp only at h2 h3⊢;split
  ·rename_i hk;rw [if_pos hk] at h2 h3;refine zzA (wpAny_alloc (zzG ⟨by rw [h1],h2,?_⟩));dsimp only;rw [Heap.size_push];exact h3
  ·rename_i hk;rw [if_neg hk] at h2 h3;exact zzG ⟨h1,h2,h3⟩
 ·obtain⟨h1,h2,h3⟩:=hI
  rw [pushCells.eq_def] at h2;rw [cellsFrom.eq_def] at h3;dsimp only at h2 h3;subst h3;rw [h1,h2];exact zzA (zzG (zzG h))
noncomputable def bW(X:Cx)(N':List Str)(scope:Scope)(cl:List (Str×Addr))(fp:List Addr)(s₁:Shared)(H₁:Hp)(C:Addr):Cx where
 prog:=X.prog
 w:=X.w
 K:=X.K
 mg:=X.mg
 base:=X.base
 A:=X.A
 N:=N'
 s₀:=s₁
 H₀:=H₁
 env:=compEnvC scope (cellsFrom (C+1) scope.names cl) C X.env
 outer:=X.stack
 stack:=X.stack
 ex:=fp
 fn:=lD scope
 calm:=true
 pn:=[]
 xe:=λ_ _=>False
theorem eJ{env:Env}:∀{ys:List Str},(ys.all λy=>(env.cells.lookup y).isSome)=true->∀(x:Str) (c:Addr),(bH env ys).lookup x=some c->env.cells.lookup x=some c
 |[],_,_,_,h=>by simp [bH] at h
 |y::ys,ha,x,c,h=>by
  rw [List.all_cons,zza] at ha;have ih:=eJ (env:=env) ha.2 x c
  unfold bH at h ih;rw [zzF,zz5] at h;cases e:x==y with
  |true=>
   rw [e] at h;have PD:x=y:=zzy.mp e
   subst PD;obtain⟨c',ip⟩:=zzp.mp ha.1
   rw [ip] at h⊢;exact h
  |false=>
   rw [e] at h;exact ih h
theorem iU{env:Env}:∀{ys:List Str} {x:Str},x∈ys->∃c,(bH env ys).lookup x=some c
 |[],_,h=>nomatch h
 |y::ys,x,h=>by
  unfold bH;rw [zzF,zz5];cases e:x==y with
  |true=>exact⟨_,rfl⟩
  |false=>
   have hx:x∈ys:=by
    rcases zzm.mp h with z|z
    ·rw [z] at e;simp at e
    ·exact z
   exact iU (env:=env) hx
def jq{scope:Scope}{env:Env}{x:Str}{k:NameKind}(h:(relabel scope env).names.lookup x=some k)(hk:k=.cell\/k=.free):∃k',(x,k')∈scope.names/\(k'=.cell\/k'=.free):=by
 have hm:=PySem.mem_of_lookup h
 unfold relabel at hm;obtain⟨⟨n,k0⟩,h0,e⟩:=zzx.mp hm
 dsimp only at e;split at e
 ·rename_i hc;cases e;refine⟨k0,h0,.inr ?_⟩;rw [zza,zza] at hc;exact zzy.mp hc.1.1
 ·cases e;exact⟨k,h0,hk⟩
structure eV(X:Cx)(scope:Scope)(xs ys:List Str)(is:List Nat):Prop where
 kind:scope.kind=.function
 NF:closureFor scope X.env=pure (bH X.env ys)
 cells:(ys.all λy=>(X.env.cells.lookup y).isSome)=true
 Jg:(scope.names.all λy=>(decide (y.2≠.cell)||!ys.contains y.1)&&(decide (y.2≠.free)||ys.contains y.1))=true
 own:(scope.names.all λy=>decide (y.2≠.cell)||decide (scope.names.lookup y.1=some .cell))=true
 names:(scope.names.all λy=>decide (y.2≠.local)||decide (scope.names.lookup y.1=some .local))=true
 slots:is.map (λi=>X.N[i]?)=ys.map some
 kX:(ys.all λy=>decide (X.env.kindOf y=some .cell))=true
 kY:(ys.all λy=>decide ((relabel scope X.env).names.lookup y=some .cell))=true
section
variable{X:Cx}{ae:List (Addr×Obj)}{σ:St}{H:Hp}{s:Shared}{scope:Scope}{xs ys:List Str}{is:List Nat}
def eV.IF(S:eV X scope xs ys is){x:Str}(h:(x,NameKind.cell)∈scope.names):scope.names.lookup x=some .cell/\x∉ys:=by
 have q:=zzT.mp S.own _ h
 have c:=zzT.mp S.Jg _ h
 rw [zza,zzt] at c;rw [zzt] at q;refine⟨zzY (q.resolve_left λz=>zzY z rfl),λhy=>?_⟩
 rcases c.1 with z|z
 ·exact zzY z rfl
 ·rw [zzn.mpr hy] at z;cases z
def gF(I:Inv X ae σ H s)(S:eV X scope xs ys is){C:Addr}(hC:(zz9 s)<=C){x:Str}{c:Addr}(h:(cellsFrom (C+1) scope.names (bH X.env ys)).lookup x=some c):
 (X.env.cells.lookup x=some c/\c<(zz9 s)/\x∈ys)\/((x,NameKind.cell)∈scope.names/\C+1<=c):=by
 rcases oD _ _ _ h with z|z
 ·have e:=eJ S.cells x c z
  obtain⟨v,q⟩:=I.cell x c e
  refine .inl ⟨e,q.lt,?_⟩;have hm:=PySem.mem_of_lookup z
  unfold bH at hm;obtain⟨y,hy,e2⟩:=zzx.mp hm
  cases e2;exact hy
 ·exact .inr z
def wD(I:Inv X ae σ H s)(hc:X.calm=true)(S:eV X scope xs ys is){N':List Str}{fp:List Addr}{C:Addr}(hC:(zz9 s)<=C)(hf:∀b∈fp,fu X ae H b)(Gb:∀b∈fp,b<(zz9 s)):
 (bW X N' scope (bH X.env ys) fp s H C).Ok where
 mod:=I.ok.mod
 kind:=S.kind
 glob:=I.ok.glob
 blt:=I.ok.blt
 above:=hC
 inj:=λx y c h1 h2=>by
  rcases gF I S hC h1 with z1|z1
  ·rcases gF I S hC h2 with z2|z2
   ·exact I.ok.inj x y c z1.1 z2.1
   ·exact absurd z1.2.1 (Nat.not_lt.mpr (zzU hC (Nat.le_of_succ_le z2.2)))
  ·refine pE scope.names (C+1) (bH X.env ys) (λp hp=>?_) z1.2 (PySem.mem_of_lookup h1) (PySem.mem_of_lookup h2);unfold bH at hp;obtain⟨y,hy,rfl⟩:=zzx.mp hp
   obtain⟨c',ip⟩:=zzp.mp (zzT.mp S.cells y hy)
   obtain⟨v,q⟩:=I.cell y c' ip
   dsimp only;rw [ip];exact Nat.lt_succ_of_le (zzU (Nat.le_of_lt q.lt) hC)
 has:=λx hx=>by
  have wR:(relabel scope X.env).names.lookup x=some .cell\/(relabel scope X.env).names.lookup x=some .free:=hx
  have:∃k',(x,k')∈scope.names/\(k'=.cell\/k'=.free):=by
   rcases wR with z|z
   ·exact jq z (.inl rfl)
   ·exact jq z (.inr rfl)
  obtain⟨k',hm,hk⟩:=this
  have cv:=zzT.mp S.Jg _ hm
  rw [zza,zzt,zzt] at cv;rcases hk with z|z
  ·subst z;exact zzp.mp (PySem.W.cellsFrom_some _ _ _ (.inl (S.IF hm).1))
  ·rcases cv.2 with q|q
   ·exact absurd z (zzY q)
   ·refine zzp.mp (PySem.W.cellsFrom_some _ _ _ (.inr ?_));obtain⟨c,e⟩:=iU (env:=X.env) (zzn.mp q)
    rw [e];rfl
 JM:=λx c h e=>by
  have hm:(x,NameKind.cell)∈scope.names:=PySem.mem_of_lookup (eq_of_beq h)
  rcases gF I S hC e with z|z
  ·exact absurd z.2.2 (S.IF hm).2
  ·exact zzU hC (Nat.le_of_succ_le z.2)
 hd:=λ_=>I.ok.hd hc
 frames:=I.ok.frames
 Lc:=.inl rfl
 exf:=λb hb=>⟨zzb (zzW (Gb b hb) hC),λx c h=>(gF I S hC h).elim (λz=>(hf b hb).2.2.2.2.1 x c z.1) λz q=>absurd (Gb b hb) (Nat.not_lt.mpr (q▸zzU hC (Nat.le_of_succ_le z.2)))⟩
 bs:=λb o e=>I.bs b o e
 wI:=zzU I.ok.wI I.sz
 BZ:=λb o e hb=>by
  rcases(hf b hb).2.2.2.1 with z|z
  ·exact I.ok.BZ b o e z
  ·exact absurd (zzW (zzO e) (zzU I.ok.wI z)) (Nat.lt_irrefl _)
 HM:=λb hb hs=>(zzm.mp (I.iE b hs)).elim (hf b hb).2.1 (hf b hb).2.2.1
 gk:=I.stack
 xH:=λb hb=>I.j4 b hb
theorem uU{N:List Str}:∀{is:List Nat} {ys:List Str},is.map (λi=>N[i]?)=ys.map some->∀(j:Nat) (y:Str) (v:V),ys[j]?=some y->(zG σ is)[j]?=some (some v)->∃i:Nat,N[i]?=some y/\σ[i]?=some (some v)
 |[],[],_,_,_,_,h,_=>by simp at h
 |[],_::_,h,_,_,_,_,_=>by simp at h
 |_::_,[],h,_,_,_,_,_=>by simp at h
 |i::is,y0::ys,h,0,y,v,h1,h2=>by
  rw [zzF,zzF] at h;have h0:=(List.cons.inj h).1
  simp! [List.getElem?_cons_zero,Option.some.injEq] at h1;subst h1;refine⟨i,h0,?_⟩;unfold zG at h2;simp! [zzF,List.getElem?_cons_zero,Option.some.injEq] at h2;exact Option.join_eq_some_iff.mp h2
 |i::is,y0::ys,h,j+1,y,v,h1,h2=>by
  rw [zzF,zzF] at h;refine uU (is:=is) (ys:=ys) (List.cons.inj h).2 j y v (by simpa using h1) ?_;unfold zG at h2⊢
  simpa using h2
abbrev lobj(ax:List Value)(n:Nat):Obj:={cls:=.type "list",data:=.seq ax.toArray n}
def xi(ax:List Value)(n:Nat)(v:Option Value):(lobj ax n).data≠.cell v:=λz=>by cases z
abbrev tests(ifs:List Expr)(env:Env):Sem Bool:=forIn ifs true λc r=>if r=true then do let ok<-isTrue c env (eval c env);pure (ForInStep.yield ok) else pure (ForInStep.yield r)
theorem qb{prog:Program}{w:World}{A:Around}{R:Result->Shared->Prop}{s:Shared}{elt target iter:Expr}{ifs:List Expr}{scope:Scope}{pos:Pos}{it acc:Value}{env:Env}(I:Nat->Shared->Prop)
 (turn:∀n s,I n s->wpAny (model prog w) A (pyNext it) (λr s₁=>match r with
  |none=>R (.ok .next) s₁
  |some v=>wpAny (model prog w) A (letOwnedTupleGo target it v) (λ_ s₁'=>wpAny (model prog w) A (assign target env v) (λ_ s₂=>
   wpAny (model prog w) A (tests ifs env) (λok s₃=>if ok=true then wpAny (model prog w) A (eval elt env) (λx s₄=>
    wpAny (model prog w) A (call (.builtin "list.append") [acc,x]) (λ_ s₅=>∃m,m<n/\I m s₅) (notedBy (model prog w) A env λe s'=>R (.error e) s') s₄) (notedBy (model prog w) A env λe s'=>R (.error e) s') s₃
    else∃m,m<n/\I m s₃) (notedBy (model prog w) A env λe s'=>R (.error e) s') s₂)
   (notedBy (model prog w) A env λe s'=>R (.error e) s') s₁') (notedBy (model prog w) A env λe s'=>R (.error e) s') s₁) (notedBy (model prog w) A env λe s'=>R (.error e) s') s)
 (n:Nat) (h:I n s):
 codeAny (model prog w) A (.compLoop (.ListComp elt [⟨target,iter,ifs,0⟩] scope pos) 0 it acc env) R s:=by
 refine codeAny_loop rfl I (λn s hI=>?_) n h;show wpAny _ A ((compTurn (.ListComp elt [⟨target,iter,ifs,0⟩] scope pos) 0 it acc env).onRaise (λx=>do noteFrame x env;theTreesLotGoes x)) _ _ s;refine wpAny_noted ?_;rw [compTurn_list];refine zzA (wpAny_standAt (zzA (wpAny_mono (turn n s hI) (λr s₁ h₁=>?_) λ_ _ h'=>h')))
 cases r with
 |none=>exact zzG h₁
 |some v=>
  refine zzA (wpAny_mono h₁ (λ_ s₁' h₁'=>?_) λ_ _ h'=>h')
  refine zzA (wpAny_mono h₁' (λ_ s₂ h₂=>zzA (wpAny_mono h₂ (λok s₃ h₃=>?_) λ_ _ h'=>h')) λ_ _ h'=>h')
  cases ok with
  |false=>exact zzG ⟨rfl,h₃⟩
  |true=>exact zzA (zzA (wpAny_mono h₃ (λx s₄ h₄=>zzA (wpAny_mono h₄ (λ_ s₅ h₅=>zzG (zzG ⟨rfl,h₅⟩)) λ_ _ h'=>h')) λ_ _ h'=>h'))
def PJ(X:Cx)(ifs:List Expr)(t:TT):Prop:=
 ∀(ae:List (Addr×Obj)) (s:Shared) (σ:St) (H:Hp) (Q:Bool->Hp->Prop),Inv X ae σ H s->t σ H Q->wpAny (model X.prog X.w) X.A (tests ifs X.env) (TP X ae σ Q) X.xe s
def uN{X:Cx}:PJ X [] (λ_ H q=>q true H):=λ_ _ _ H _ I h=>wpAny_tests_nil ⟨H,I,h⟩
def vG{X:Cx}{e:Expr}{t:TT}(h:PT X e t):PJ X [e] t:=λae s σ H Q I z=>wpAny_tests_one (h ae s σ H Q I z)
def KO(J:It)(k:Nat)(g:TG)(te:TE)(fs:St)(Q:VK)(H1:Hp):Prop:=∃(n:Nat) (W:Nat->List V->St->Hp->Prop),W 0 [] (List.replicate k none++fs) H1/\
 ∀i ys σ' H',W i ys σ' H'->ys.length<sizeLine/\((J.stop i H'/\∀p,H' p=none->Q (.ref p) (upd H' p (.lst ys)))\/
  (J.go i H'/\i<n/\∀x mz,J.JN i H' x mz->g x σ' mz λσ2 H2=>te σ2 H2 λy H3=>W (i+1) (ys++[y]) σ2 H3))
noncomputable def AZ(wi:TI)(k:Nat)(g:TG)(te:TE)(is:List Nat):TE:=λσ H Q=>wi σ H λJ H1=>KO J k g te (zG σ is) Q H1
def B5(J:It)(k:Nat)(g:TG)(tt:TT)(te:TE)(fs:St)(Q:VK)(H1:Hp):Prop:=∃(n:Nat) (W:Nat->List V->St->Hp->Prop),W 0 [] (List.replicate k none++fs) H1/\
 ∀i ys σ' H',W i ys σ' H'->ys.length<sizeLine/\((J.stop i H'/\∀p,H' p=none->Q (.ref p) (upd H' p (.lst ys)))\/
  (J.go i H'/\i<n/\∀x mz,J.JN i H' x mz->g x σ' mz λσ2 H2=>tt σ2 H2 λb H3=>if b=true then te σ2 H3 (λy H4=>W (i+1) (ys++[y]) σ2 H4) else W (i+1) ys σ2 H3))
noncomputable def jZ(wi:TI)(k:Nat)(g:TG)(tt:TT)(te:TE)(is:List Nat):TE:=λσ H Q=>wi σ H λJ H1=>B5 J k g tt te (zG σ is) Q H1
def gW{elt tg iter:Expr}{ifs:List Expr}{pos pp:Pos}{wi:TI}{g:TG}{te:TE}{tt:TT}{use:Option (Value->Sem Unit)}{QQ:Value->Shared->Prop}{Q:VK}(hc:X.calm=true)(S:eV X scope xs ys is)(hi:PI X tg iter wi)
 (hg:∀fp s1 H1 C,PG (bW X (xs++ys) scope (bH X.env ys) fp s1 H1 C) tg g) (ht:∀fp s1 H1 C,PJ (bW X (xs++ys) scope (bH X.env ys) fp s1 H1 C) ifs tt) (he:∀fp s1 H1 C,PE (bW X (xs++ys) scope (bH X.env ys) fp s1 H1 C) elt te)
 (hs:∀x,foldedSetIterable iter X.env x=pure x) (I:Inv X ae σ H s) (h:jZ wi xs.length g tt te is σ H Q)
 (fin:∀(D C:Addr) (s4:Shared) (H4:Hp) (m:Str->Option Value),Inv X ae σ H4 s4->s4.heap.Ns C m->fu X ae H4 C->Q (.ref D) H4->compPost (model X.prog X.w) X.A X.xe use QQ (.ref D) C (.ok .next) s4):
 wpAny (model X.prog X.w) X.A (comprehension (.ListComp elt [⟨tg,iter,ifs,0⟩] scope pos) scope X.env pp (newList []) false (eval iter X.env) use) QQ X.xe s:=by
 have Gg:∀x∈scope.names,x.2=.local->scope.names.lookup x.1=some .local:=λx hx hl=>by
  have q:=zzT.mp S.names x hx
  rw [zzt] at q;rcases q with q|q
  ·exact absurd hl (zzY q)
  ·exact zzY q
 refine wpAny_comprehension_free (use:=use) (Q:=QQ) (g:=⟨tg,iter,ifs,0⟩) (gs:=[]) rfl hs S.NF S.kind Gg (bI (hi ae s σ H _ I h) λxv s0 h0=>bI h0 λOy s1 h1=>?_)
 obtain⟨it,fp,tn,J,H1,rfl,I1,T,Gy,f1,n,W,w0,turn⟩:=h1
 refine wpAny_newObj_type (uo ?_);dsimp only;generalize hH2:s1.heap.push {cls:=.type "list",dict:=none,data:=.seq ([]:List Value).toArray}=G2
 generalize hh₁:pushCells (G2.push {cls:=.type "dict",data:=.dict #[]}) scope.names=h₁
 have N1:∀b o,(G2.push {cls:=.type "dict",data:=.dict #[]}).get? b=some o->h₁.get? b=some o:=λb o e=>by rw [<-hh₁];exact pushCells_keeps _ _ b o e
 have hns₁:h₁.Ns G2.objs.size λ_=>none:=(Heap.Ns.new G2 (.type "dict")).keeps N1
 have Ra:G2.objs.size=(zz9 s1)+1:=by rw [<-hH2,Heap.size_push]
 have mI:(zz9 s1)<=G2.objs.size:=by rw [Ra];exact Nat.le_succ _
 have M6:(zz9 s1)≠G2.objs.size:=by rw [Ra];exact zzb (Nat.lt_succ_self _)
 have old:∀b o,s1.heap.get? b=some o->h₁.get? b=some o:=λb o e=>N1 b o (zzB _ (hH2▸zzB _ e))
 have pQ:h₁.get? (zz9 s1)=some (lobj [] 0):=N1 _ _ (zzB _ (hH2▸zzX _ rfl))
 have Gb:∀b∈fp,b<(zz9 s1):=λb hb=>by
  obtain⟨o,e,_⟩:=T.obj _ _ Gy b hb
  exact zzO e
 generalize hY:bW X (xs++ys) scope (bH X.env ys) fp s1 H1 G2.objs.size=Y
 have SA:Y.Ok:=by rw [<-hY];exact wD I1 hc S mI f1 Gb
 have Rn:∀b∈fp,(zz9 s1)≠b:=λb hb=>Ne.symm (zzb (Gb b hb))
 have N6:∀b,b∈Y.fs->b=X.env.locals\/b∈X.fs:=λb hb=>by
  rw [<-hY] at hb;exact zzm.mp (I1.iE b hb)
 have Oj:∀b∈Y.fs,b<(zz9 s1):=λb hb=>by
  rw [<-hY] at hb;obtain⟨_,o,ho,_⟩:=I1.stack.mem hb
  exact zzO ho
 have Pd:(zz9 s1)∉Y.fs:=λz=>Nat.lt_irrefl _ (Oj _ z)
 have Jn:Y.env.locals=G2.objs.size:=by rw [<-hY];rfl
 have MK:∀x c,Y.env.cells.lookup x=some c->(X.env.cells.lookup x=some c/\c<(zz9 s1)/\x∈ys)\/((x,NameKind.cell)∈scope.names/\G2.objs.size+1<=c):=λx c e=>by
  rw [<-hY] at e;exact gF I1 S mI e
 have Sj:∀x c,Y.env.cells.lookup x=some c->G2.objs.size+1<=c->h₁.IsCell c none:=λx c e hle=>by
  rw [<-hY] at e;have hm:(x,c)∈cellsFrom (G2.objs.size+1) scope.names []:=Hi scope.names _ _ (PySem.mem_of_lookup e) λp hp=>by
   unfold bH at hp;obtain⟨y,hy,rfl⟩:=zzx.mp hp
   obtain⟨c',ip⟩:=zzp.mp (zzT.mp S.cells y hy)
   obtain⟨v,q⟩:=I1.cell y c' ip
   dsimp only;rw [ip];exact zzb (zzW q.lt (zzU mI (Nat.le_of_succ_le hle)))
  have ck:=cellsFrom_ok scope.names (G2.push {cls:=.type "dict",data:=.dict #[]}) 0 [] ⟨(λ_ _ z=>nomatch z),.nil⟩ (Nat.zero_le _)
  rw [Heap.size_push,hh₁] at ck;exact(ck.empty x c hm).1
 have S7:∀x c,Y.env.cells.lookup x=some c->c≠(zz9 s1):=λx c e=>(MK x c e).elim (λz=>zzb z.2.1) λz=>Ne.symm (zzb (zzV mI z.2))
 have zT:Y.pn=[]:=by rw [<-hY];rfl
 have L9:Y.ex=fp:=by rw [<-hY];rfl
 have Mt:Y.s₀=s1:=by rw [<-hY];rfl
 have Rm:Y.H₀=H1:=by rw [<-hY];rfl
 have LL:Y.prog=X.prog:=by rw [<-hY];rfl
 have KR:Y.w=X.w:=by rw [<-hY];rfl
 have Rj:Y.K=X.K:=by rw [<-hY];rfl
 have PF:Y.A=X.A:=by rw [<-hY];rfl
 have Sk:compEnvC scope (cellsFrom (G2.objs.size+1) scope.names (bH X.env ys)) G2.objs.size X.env=Y.env:=by rw [<-hY];rfl
 have LM:Y.calm=true:=by rw [<-hY];rfl
 have HX:Y.xe=λ_ _=>False:=by rw [<-hY];rfl
 have Ld:Y.fs=eO X.stack:=by rw [<-hY];rfl
 have LA:∀{H':Hp} {s':Shared} {ax:List Value} {k:Nat},s'.heap.get? (zz9 s1)=some (lobj ax k)->H' (zz9 s1)=none->∀p∈[((zz9 s1),lobj ax k)],s'.heap.get? p.1=some p.2/\H' p.1=none/\p.1≠Y.env.locals/\p.1∉Y.fs/\∀v,p.2.data≠.cell v:=
  λ{H' s' ax k} e hn p hp=>by
   obtain rfl:=zzi.mp hp
   exact⟨e,hn,by rw [Jn];exact M6,Pd,λv=>xi ax k v⟩
 have Pm:∀{H':Hp} {ax:List Value} {k:Nat},(∀b∈fp,H' b=none)->∀b∈fp,fu Y [((zz9 s1),lobj ax k)] H' b:=λ{H' ax k} hn b hb=>
  ⟨hn b hb,by rw [Jn];exact zzb (zzW (Gb b hb) mI),λz=>(N6 b z).elim (f1 b hb).2.1 (f1 b hb).2.2.1,.inl (by rw [L9];exact hb),
   λx c e=>(MK x c e).elim (λz=>(f1 b hb).2.2.2.2.1 x c z.1) (λz q=>absurd (Gb b hb) (Nat.not_lt.mpr (q▸zzU mI (Nat.le_of_succ_le z.2)))),λp hp=>by
    rw [zT,List.nil_append] at hp;obtain rfl:=zzi.mp hp
    exact Rn b hb⟩
 have Kg:H1 (zz9 s1)=none:=I1.aL.fresh (zzE _)
 have I2:∀tk,Inv Y [((zz9 s1),lobj [] 0)] (List.replicate xs.length none++zG σ is) H1 {s1 with heap:=h₁,toks:=tk}:=λtk=>by
  refine⟨SA,by rw [Mt],I1.bare,by rw [Mt,Rm];exact Un.kept old,⟨_,by rw [Jn];exact hns₁,λi x v e1 e2 e3=>?_⟩,λx c e=>?_,?_,λx c e=>(MK x c e).elim (λz=>I1.ib x c z.1) (λz=>I1.aL.fresh (zzU mI (Nat.le_of_succ_le z.2))),λp hp=>?_,by rw [LL,KR];exact I1.aL.kept old,?_⟩
  ·
   have Ou:Y.N=xs++ys:=by rw [<-hY];rfl
   rw [Ou] at e1
   by_cases cC:i<xs.length
   ·rw [zzr (by rw [List.length_replicate];exact cC),List.getElem?_replicate,if_pos cC] at e2;cases e2
   ·have Jo:xs.length<=i:=Nat.not_lt.mp cC
    rw [zzs (by rw [List.length_replicate];exact Jo),List.length_replicate] at e2;rw [zzs Jo] at e1;obtain⟨i0,h0,h1⟩:=uU S.slots _ x v e1 e2
    have hm:x∈ys:=zzD e1
    have kx:X.env.kindOf x=some .cell:=zzY (zzT.mp S.kX x hm)
    have ky:(relabel scope X.env).names.lookup x=some .cell:=zzY (zzT.mp S.kY x hm)
    obtain⟨m,_,hl⟩:=I1.loc
    obtain⟨u,ru,lk⟩:=hl i0 x v h0 h1 (.inr (.inl kx))
    refine⟨u,ru,.inr ⟨.inl (by rw [<-hY];exact ky),?_⟩⟩;rcases lk with⟨z,_⟩|⟨_,c,hc1,hc2⟩
    ·rw [kx] at z;cases z
    ·obtain⟨c',ip⟩:=iU (env:=X.env) hm
     have KG:=eJ S.cells x c' ip
     rw [hc1] at KG;cases KG;refine⟨c,by rw [<-hY];exact(n9 _ _ _ λz=>(S.IF z).2 hm).trans ip,?_⟩
     obtain⟨o,ho,hd⟩:=hc2
     exact⟨o,old _ _ ho,hd⟩
  ·rcases MK x c e with z|z
   ·obtain⟨v,o,ho,hd⟩:=I1.cell x c z.1
    exact⟨v,o,old _ _ ho,hd⟩
   ·exact⟨none,Sj x c e z.2⟩
  ·rw [Jn];exact I1.aL.fresh mI
  ·rw [zT,List.nil_append] at hp;exact LA (s':={s1 with heap:=h₁,toks:=tk}) pQ Kg p hp
  ·have Ou:Y.N=xs++ys:=by rw [<-hY];rfl
   have hl:=congrArg List.length S.slots
   rw [zzl,zzl] at hl;rw [Ou,zzM,zzM,List.length_replicate];unfold zG;rw [zzl,hl]
 have loop:∀s₃:Shared,s₃={s1 with heap:=h₁}->
  codeAny (model X.prog X.w) X.A (.compLoop (.ListComp elt [⟨tg,iter,ifs,0⟩] scope pos) 0 (.ref it) (.ref (zz9 s1)) (compEnvC scope (cellsFrom (G2.objs.size+1) scope.names (bH X.env ys)) G2.objs.size X.env))
   (compPost (model X.prog X.w) X.A X.xe use QQ (.ref (zz9 s1)) G2.objs.size) s₃:=by
  rintro s₃ rfl
  rw [Sk];refine qb (λk s'=>∃i made σ' H' ax c,Inv Y [((zz9 s1),lobj ax c)] σ' H' s'/\tn i s'.heap/\(∀b∈fp,H' b=none)/\Vals made ax/\k=n-i/\W i made σ' H') ?_ n
   ⟨0,[],_,H1,[],0,I2 _,T.keep _ _ _ Gy λb _ o e=>old b o e,λb hb=>(f1 b hb).1,.nil,rfl,w0⟩
  rintro k s' ⟨i,made,σ',H',ax,c,I3,st3,fr3,rv,rfl,w3⟩
  obtain⟨hz,tw⟩:=turn i made σ' H' w3
  have pD:=I3.pin ((zz9 s1),lobj ax c) (by rw [zT];exact zzi.mpr rfl)
  rcases tw with⟨stop,hq⟩|⟨go,QH,step⟩
  ·rw [<-PF];refine bI (T.done Y LL KR Rj LM i _ s' σ' H' _ I3 (Pm fr3) st3 stop) λr s4 ⟨hr,I4⟩=>?_
   subst hr;obtain⟨m,hn4,_⟩:=I4.loc
   rw [Jn] at hn4;have NY:=I4.pin ((zz9 s1),lobj ax c) (by rw [zT];exact zzi.mpr rfl)
   have kp:∀b o,b≠G2.objs.size->s4.heap.get? b=some o->s4.heap.get? b=some o:=λb o hb e=>e
   have Pu:∀{b o},s1.heap.get? b=some o->b≠G2.objs.size:=λ{b o} e=>zzb (zzW (zzO e) mI)
   have hX:=I4.base
   rw [Mt,Rm,L9,Ld] at hX;have Pp:∀{b o},H1 b=some o->b≠(zz9 s1):=λ{b o} e=>zzb (I1.aL.lt e)
   have u:Un (eO X.stack) fp H1 (upd H' (zz9 s1) (.lst made)) s1.heap s4.heap:=by
    refine⟨λb o e n hb hx=>kp b o (Pu e) (hX.keep b o e n hb hx),λb o e n hb hx=>?_,λb o e n hx=>?_,λb o e hx=>?_,λb xs e=>?_,λb o u e=>?_,λb ps e=>?_⟩
    ·obtain⟨sl,q⟩:=hX.slot b o e n hb hx
     exact⟨sl,kp b _ (Pu e) q⟩
    ·rw [ag (zzb (zzO e))];exact hX.free b o e n hx
    ·obtain⟨o',q⟩:=hX.there b o e hx
     exact⟨o',kp b _ (Pu e) q⟩
    ·rw [ag (Pp e)];exact hX.g7 b xs e
    ·rw [ag (Pp e)];exact hX.fI b o u e
    ·obtain⟨more,q⟩:=hX.gr b ps e
     exact⟨more,by rw [ag (Pp e)];exact q⟩
   have Q2:H' G2.objs.size=none:=by rw [<-Jn];exact I4.free
   have BP:eA X.prog X.w (upd H' (zz9 s1) (.lst made)) s4.heap:=λb o e=>by
    by_cases hb:b=(zz9 s1)
    ·subst hb;rw [aq] at e;cases e;exact⟨Nat.le_of_lt hz,ax,c,rv,kp _ _ M6 NY.1⟩
    ·rw [ag hb] at e;have x4:=I4.aL b o e
     rw [LL,KR] at x4;have Hg:∀b' u,H' b'=some u->b'≠G2.objs.size:=λb' u q z=>by rw [z,Q2] at q;cases q
     have QN:∀b' u,H' b'=some u->b'≠(zz9 s1):=λb' u q z=>by rw [z,NY.2.1] at q;cases q
     refine x4.eP (λb' u kj q=>kp b' u ?_ q) (λb' q=>?_) λb' xs q=>?_
     ·rcases kj with z|z
      ·rw [z];exact Hg b o e
      ·exact Hg b' _ z
     ·rw [ag (QN b' _ q)];exact q
     ·rw [ag (QN b' _ q)];exact q
   have I5:Inv X ae σ (upd H' (zz9 s1) (.lst made)) s4:=I1.LH (by show s4.os=s1.os;rw [I4.os,Mt]) u BP I4.bare λb hb=>⟨(f1 b hb).2.2.2.1,(f1 b hb).2.1,(f1 b hb).2.2.2.2.1,(f1 b hb).2.2.2.2.2⟩
   dsimp only;rw [PF];exact fin (zz9 s1) G2.objs.size s4 _ m I5 hn4 (I1.lA mI (by rw [ag (Ne.symm M6)];exact Q2)) (hq _ NY.2.1)
  ·rw [<-PF];refine bI (T.item Y LL KR Rj LM i _ s' σ' H' _ I3 (Pm fr3) st3 go) λr s4 ⟨u,hr,h4⟩=>?_
   subst hr;dsimp only;refine bI h4 λ_ s5 ⟨x,H5,I5,r5,y5,st5,fr5⟩=>?_
   have OL:=I5.pinned (Pm fr5) (T.obj _ _ st5)
   have QJ:=hg fp s1 H1 G2.objs.size
   have RD:=he fp s1 H1 G2.objs.size
   have Q4:=ht fp s1 H1 G2.objs.size
   rw [hY] at QJ RD Q4;rw [<-LL,<-KR];refine wpAny_mono (QJ _ s5 σ' H5 x u _ OL r5 (step x H5 y5)) (λ_ s6 ⟨σ6,H6,I6,q6⟩=>?_) (λ_ _ f=>by rw [HX] at f;exact f.elim);refine wpAny_mono (Q4 _ s6 σ6 H6 _ I6 q6) (λokb sT ⟨HT,IT,qT⟩=>?_) (λ_ _ f=>by rw [HX] at f;exact f.elim);have Tx:=IT.pin ((zz9 s1),lobj ax c) (zzR _ (zzc _ (zzi.mpr rfl)))
   have SF:tn (i+1) sT.heap:=T.keep _ _ _ st5 λb hb o e=>(IT.pin (b,o) (zzR _ (zzR _ (dC hb e)))).1
   cases okb with
   |false=>
    refine⟨n-(i+1),by omega,i+1,made,σ6,HT,ax,c,IT.iJ,SF,λb hb=>?_,rv,rfl,qT⟩
    obtain⟨o,e,d⟩:=T.obj _ _ st5 b hb
    exact(IT.pin (b,o) (zzR _ (zzR _ (dC hb e)))).2.1
   |true=>
   refine wpAny_mono (RD _ sT σ6 HT _ IT qT) (λv s7 ⟨y,H7,I7,r7,q7⟩=>?_) (λ_ _ f=>by rw [HX] at f;exact f.elim);have Po:=I7.pin ((zz9 s1),lobj ax c) (zzR _ (zzc _ (zzi.mpr rfl)))
   have e7:s7.heap.get? (zz9 s1)=some {cls:=.type "list",data:=.seq ax.toArray c}:=Po.1
   refine append_at (hsz:=by rw [zzC,<-rv.length];exact Nat.le_of_lt hz) e7 λh' xh RK=>?_
   have I8:Inv Y [] σ6 H7 s7:=I7.gZ λ_ z=>nomatch z
   have I9:Inv Y [] σ6 H7 {s7 with heap:=h'}:=I8.turned (t':=s7.toks) (it:=(zz9 s1)) (λb o hb e=>xh.extBut b o hb e) Po.2.1 (by rw [Jn];exact M6) (.inr (by rw [Mt];exact zzE _))
    (λx c' e=>S7 x c' e) (λp hp=>by rw [zT] at hp;cases hp)
   have eD:h'.get? (zz9 s1)=some (lobj (ax++[v]) (c+1)):=by rw [RK,List.push_toArray]
   have Te:tn (i+1) s7.heap:=T.keep _ _ _ st5 λb hb o e=>(I7.pin (b,o) (zzR _ (zzR _ (dC hb e)))).1
   refine⟨n-(i+1),by omega,i+1,made++[y],σ6,H7,ax++[v],c+1,I9.gZ (LA (s':={s7 with heap:=h'}) eD Po.2.1),T.keep _ _ _ Te λb hb o e=>xh.extBut b o (Ne.symm (Rn b hb)) e,λb hb=>?_,rv.append (.cons r7 .nil),rfl,q7⟩
   obtain⟨o,e,d⟩:=T.obj _ _ st5 b hb
   exact(I7.pin (b,o) (zzR _ (zzR _ (dC hb e)))).2.1
 exact codeAny_compStart_list (loop _ rfl) (T.self _ 0 _ _ _ (T.keep _ _ _ Gy λb _ o e=>old b o e) (loop _ rfl))
def DU{elt tg iter:Expr}{pos:Pos}{wi:TI}{g:TG}{te:TE}(hc:X.calm=true)(S:eV X scope xs ys is)(hi:PI X tg iter wi)
 (hg:∀fp s1 H1 C,PG (bW X (xs++ys) scope (bH X.env ys) fp s1 H1 C) tg g) (he:∀fp s1 H1 C,PE (bW X (xs++ys) scope (bH X.env ys) fp s1 H1 C) elt te)
 (hs:∀x,foldedSetIterable iter X.env x=pure x:=by intro _;rfl):
 PE X (.ListComp elt [⟨tg,iter,[],0⟩] scope pos) (AZ wi xs.length g te is):=by
 intro ae s σ H Q I h;rw [eval_ListComp];exact gW (use:=none) (Q:=Q) hc S hi hg (λ_ _ _ _=>uN) he hs I h (λD C s4 H4 m I5 hn ⟨g0,g1,_,g3,g4,g5⟩ q=>⟨m,hn,λh' xh=>⟨.ref D,H4,I5.turned (t':=s4.toks) (it:=C) (λb o hb e=>xh.extBut b o hb e) g0 g1 g3 g4 g5,rfl,q⟩⟩)
def vR{elt tg iter HR:Expr}{pos:Pos}{wi:TI}{g:TG}{te:TE}{tt:TT}(hc:X.calm=true)(S:eV X scope xs ys is)(hi:PI X tg iter wi)
 (hg:∀fp s1 H1 C,PG (bW X (xs++ys) scope (bH X.env ys) fp s1 H1 C) tg g) (ht:∀fp s1 H1 C,PT (bW X (xs++ys) scope (bH X.env ys) fp s1 H1 C) HR tt) (he:∀fp s1 H1 C,PE (bW X (xs++ys) scope (bH X.env ys) fp s1 H1 C) elt te)
 (hs:∀x,foldedSetIterable iter X.env x=pure x:=by intro _;rfl):
 PE X (.ListComp elt [⟨tg,iter,[HR],0⟩] scope pos) (jZ wi xs.length g tt te is):=by
 intro ae s σ H Q I h;rw [eval_ListComp];exact gW (use:=none) (Q:=Q) hc S hi hg (λfp s1 H1 C=>vG (ht fp s1 H1 C)) he hs I h (λD C s4 H4 m I5 hn ⟨g0,g1,_,g3,g4,g5⟩ q=>⟨m,hn,λh' xh=>⟨.ref D,H4,I5.turned (t':=s4.toks) (it:=C) (λb o hb e=>xh.extBut b o hb e) g0 g1 g3 g4 g5,rfl,q⟩⟩)
end
def bB{H:Hp}{p:Addr}{o:HO}(h:H p=none):aA H (upd H p o):=λb u e=>by rw [ag (dz e h)];exact e
section
end
end L2
namespace Cw
open PySem L2
def sgn(c:Nat):Bool:=c==35||(48<=c&&c<=57)
def SS:V->Bool
 |.str z=>decide (1<=z.cps.toList.length)&&decide (z.cps.toList.length<=12)&&z.cps.toList.all sgn
 |_=>false
def KI:V->Nat
 |.str z=>z.cps.toList.length
 |_=>0
section
variable{K:zz8}
abbrev Bh(K:zz8)(t n:String)(b:Bool):Prop:=PySem.W.kitOne K (.type t) (.type n)=some b
def Ar{K:zz8}(t:String):Bh K t t true:=by unfold Bh PySem.W.kitOne;rw [if_pos (by simp)]
def zI{t n:String}{b:Bool}(h0:(Value.type t==Value.type n)=false)(h1:PySem.W.kitMeta n=true)(h2:(fastBuiltinMro t).map (·.contains (Value.type n))=some b):Bh K t n b:=by
 unfold Bh PySem.W.kitOne;rw [if_neg (by rw [h0];exact zzf)];show(if PySem.W.kitMeta n=true then PySem.W.subIn K (.type t) (.type n) else none)=some b
 rw [if_pos h1];exact h2
end
abbrev Ri:Str:="#0123456789"
end Cw
namespace L2
open PySem PySem.Spec PyProof.Rows
structure Gd(K:zz8)(C:Addr):Prop where
 ga:PySem.W.findIn K (.ref C) "__getattribute__"=some (some (.builtin "BaseException.__getattribute__"))
 hk:PySem.W.findIn K (.ref C) "__getattr__"=some none
 cl:PySem.W.findIn K (.ref C) "__class__"=some (some (.builtin "object.__class__"))
 mo:PySem.W.mroIn K C (.type "object")=some true
 mb:PySem.W.mroIn K C (.type "BaseException")=some true
 is:(PySem.W.clsIn K C).isSome=true
open PySem.AutoSeq1 (wpAny_loadPart')
end L2
namespace Cw
open PySem L2
end Cw
namespace L2
open PySem PySem.Spec PyProof.Rows
section
variable{X:Cx}
def oq:cN X (.type "int") (λxs H Q=>∃z n,xs=[.str z]/\PySem.intText? z=some n/\z.length<=640/\Q (.int n) H):=by
 intro ae s σ H xs us Q I r h;obtain⟨z,n,rfl,h1,h2,q⟩:=h
 obtain⟨u,rfl,t,rfl⟩:=vals1 r
 exact PySem.W.KIN.call_text h1 h2 ⟨.int n,H,I.tok _,⟨_,rfl⟩,q⟩
end
end L2
namespace Cw
open PySem L2
end Cw
namespace L2
open PySem PySem.Spec PyProof.Rows
theorem n6{α β:Type}{R:α->β->Prop}:∀{xs:List α} {ys:List β},Paired R xs ys->∀{i:Nat} {x:α},xs[i]?=some x->∃y,ys[i]?=some y/\R x y
 |_,_,.nil,_,_,h=>by simp at h
 |_,_,.cons r t,0,x,h=>by simp at h;subst h;exact⟨_,rfl,r⟩
 |_,_,.cons r t,i+1,x,h=>by
  obtain⟨y,h1,h2⟩:=n6 t (i:=i) (x:=x) (by simpa using h)
  exact⟨y,by simpa using h1,h2⟩
theorem km{α β:Type}{R:α->β->Prop}:∀{xs:List α} {ys:List β},Paired R xs ys->xs.length=ys.length
 |_,_,.nil=>rfl
 |_,_,.cons _ t=>by simp [km t]
section
def yS{vs:List V}{ax:List Value}(r:Vals vs ax){j:Nat}(h:j<ax.toArray.size):∃v,vs[j]?=some v/\RelV v ax.toArray[j]:=by
 have hl:=r.length
 rw [zzC] at h;have hj:j<vs.length:=by omega
 obtain⟨u,hu,ru⟩:=r.get (i:=j) (x:=vs[j]) (zzg hj)
 rw [zzg h] at hu;cases hu;exact⟨_,zzg hj,by simpa using ru⟩
end
abbrev bF:HO:=.ext λ_=>True
def lj{P:Program}{w:World}{H:Hp}{h:Heap}{a:Addr}{o:Obj}(e:h.get? a=some o):bJ P w H h a (.bp o bF):=⟨e,trivial,⟨o,e⟩,λ_ _ _ _=>trivial⟩
def aM(Z:List (Addr×Obj))(H:Hp):Hp:=λb=>match Z.lookup b with
 |some o=>some (.bp o bF)
 |none=>H b
def aV(Z:List (Addr×Obj))(H:Hp):Hp:=λb=>match Z.lookup b with
 |some _=>none
 |none=>H b
section
variable{Z:List (Addr×Obj)}{H H':Hp}{b:Addr}{o:Obj}
def aX(e:Z.lookup b=some o):aM Z H b=some (.bp o bF):=by unfold aM;rw [e]
def ah(e:Z.lookup b=none):aM Z H b=H b:=by unfold aM;rw [e]
def fj(e:Z.lookup b=some o):aV Z H b=none:=by unfold aV;rw [e]
def ay(e:Z.lookup b=none):aV Z H b=H b:=by unfold aV;rw [e]
def eo{u:HO}(e:aV Z H b=some u):Z.lookup b=none/\H b=some u:=by
 cases q:Z.lookup b with
 |none=>rw [ay q] at e;exact⟨rfl,e⟩
 |some o=>rw [fj q] at e;cases e
def ie(h:H b=none):aV Z H b=none:=by
 cases q:Z.lookup b with
 |none=>rw [ay q];exact h
 |some o=>exact fj q
structure sy(Z:List (Addr×Obj))(H:Hp)(fs:List Addr)(h:Heap):Prop where
 at_:∀b o,Z.lookup b=some o->h.get? b=some o
 no:∀b o,Z.lookup b=some o->H b=none
 fr:∀b o,Z.lookup b=some o->b∉fs
variable{P:Program}{w:World}{fs:List Addr}{h h':Heap}
theorem sy.aL(z:sy Z H fs h)(k:eA P w H h):eA P w (aM Z H) h:=λb u e=>by
 cases q:Z.lookup b with
 |some o=>rw [aX q] at e;cases e;exact lj (z.at_ b o q)
 |none=>
  rw [ah q] at e;have nz:∀c v,H c=some v->Z.lookup c=none:=λc v hv=>by
   cases y:Z.lookup c with
   |none=>rfl
   |some o=>rw [z.no c o y] at hv;cases hv
  exact(k b u e).eP (λc v _ r=>r) (λc r=>by rw [ah (nz c _ r)];exact r) λc xs r=>by rw [ah (nz c _ r)];exact r
def sy.uI(z:sy Z H fs h)(u:Un fs [] (aM Z H) H' h h')(k:eA P w H' h'):Un fs [] H (aV Z H') h h'/\eA P w (aV Z H') h':=by
 have zk:∀b o,Z.lookup b=some o->H' b=some (.bp o bF):=λb o q=>u.fI b o _ (aX q)
 have zh:∀b o,Z.lookup b=some o->h'.get? b=some o:=λb o q=>(k b _ (zk b o q)).1
 have nz:∀c v,H c=some v->Z.lookup c=none:=λc v hv=>by
  cases y:Z.lookup c with
  |none=>rfl
  |some o=>rw [z.no c o y] at hv;cases hv
 refine⟨⟨λb o e n hb hx=>?_,λb o e n hb hx=>?_,λb o e n hx=>?_,λb o e hx=>u.there b o e hx,λb xs e=>?_,λb o v e=>?_,λb ps e=>?_⟩,λb v e=>?_⟩
 ·cases q:Z.lookup b with
  |some o'=>
   have e2:=z.at_ b o' q
   rw [e] at e2;cases e2;exact zh b o q
  |none=>exact u.keep b o e (by rw [ah q];exact n) hb hx
 ·cases q:Z.lookup b with
  |some o'=>exact absurd hb (z.fr b o' q)
  |none=>exact u.slot b o e (by rw [ah q];exact n) hb hx
 ·cases q:Z.lookup b with
  |some o'=>exact fj q
  |none=>rw [ay q];exact u.free b o e (by rw [ah q];exact n) hx
 ·rw [ay (nz b _ e)];exact u.g7 b xs (by rw [ah (nz b _ e)];exact e)
 ·rw [ay (nz b _ e)];exact u.fI b o v (by rw [ah (nz b _ e)];exact e)
 ·rw [ay (nz b _ e)];exact u.gr b ps (by rw [ah (nz b _ e)];exact e)
 ·obtain⟨q,e1⟩:=eo e
  refine(k b v e1).eP (λc y _ r=>r) (λc r=>?_) λc xs r=>?_
  ·cases y:Z.lookup c with
   |none=>rw [ay y];exact r
   |some o=>rw [zk c o y] at r;cases r
  ·cases y:Z.lookup c with
   |none=>rw [ay y];exact r
   |some o=>rw [zk c o y] at r;cases r
def sy.uV(z:sy Z H fs h)(u:Un fs [] H H' h h')(k:eA P w H' h'):Un fs [] (aM Z H) (aM Z H') h h'/\eA P w (aM Z H') h':=by
 have zh:∀b o,Z.lookup b=some o->h'.get? b=some o:=λb o q=>u.keep b o (z.at_ b o q) (z.no b o q) (z.fr b o q) (λy=>nomatch y)
 have zn:∀b o,Z.lookup b=some o->H' b=none:=λb o q=>u.free b o (z.at_ b o q) (z.no b o q) (λy=>nomatch y)
 have nz:∀c v,H' c=some v->Z.lookup c=none:=λc v hv=>by
  cases y:Z.lookup c with
  |none=>rfl
  |some o=>rw [zn c o y] at hv;cases hv
 have nw:∀b,aM Z H b=none->Z.lookup b=none/\H b=none:=λb e=>by
  cases q:Z.lookup b with
  |some o=>rw [aX q] at e;cases e
  |none=>rw [ah q] at e;exact⟨rfl,e⟩
 refine⟨⟨λb o e n hb hx=>u.keep b o e (nw b n).2 hb hx,λb o e n hb hx=>u.slot b o e (nw b n).2 hb hx,λb o e n hx=>?_,λb o e hx=>u.there b o e hx,λb xs e=>?_,λb o v e=>?_,λb ps e=>?_⟩,λb v e=>?_⟩
 ·rw [ah (nw b n).1];exact u.free b o e (nw b n).2 hx
 ·cases q:Z.lookup b with
  |some o=>rw [aX q] at e;cases e
  |none=>rw [ah q] at e⊢;exact u.g7 b xs e
 ·cases q:Z.lookup b with
  |some o'=>rw [aX q] at e⊢;exact e
  |none=>rw [ah q] at e⊢;exact u.fI b o v e
 ·cases q:Z.lookup b with
  |some o=>rw [aX q] at e;cases e
  |none=>rw [ah q] at e⊢;exact u.gr b ps e
 ·cases q:Z.lookup b with
  |some o=>rw [aX q] at e;cases e;exact lj (zh b o q)
  |none=>
   rw [ah q] at e;exact(k b v e).eP (λc y _ r=>r) (λc r=>by rw [ah (nz c _ r)];exact r) λc xs r=>by rw [ah (nz c _ r)];exact r
variable{K:zz8}{mg:Str->Option Value}{base:Heap}{A:Around}{outer:List Env}{s s':Shared}
theorem iP.aM(e:iP P w K mg base A outer s H)(z:sy Z H (eO outer) s.heap)(zb:∀b o,Z.lookup b=some o->base.get? b=none):iP P w K mg base A outer s (aM Z H) where
 frames:=e.frames
 mod:=e.mod
 bs:=λb o q=>⟨(e.bs b o q).1,by
  cases y:Z.lookup b with
  |some o'=>rw [zb b o' y] at q;cases q
  |none=>rw [ah y];exact(e.bs b o q).2⟩
 wI:=e.wI
 gk:=e.gk
 xH:=λb hb=>by
  cases y:Z.lookup b with
  |some o'=>exact absurd hb (z.fr b o' y)
  |none=>rw [ah y];exact e.xH b hb
 aL:=z.aL e.aL
 bare:=e.bare
def CE.less{Q:VK}{u:Value}(z:sy Z H (eO outer) s.heap)(h:CE outer P w (aM Z H) s (λv H'=>Q v (aV Z H')) u s'):CE outer P w H s Q u s':=by
 obtain⟨v,H',os,bare,un,aL,r,q⟩:=h
 obtain⟨u1,k1⟩:=z.uI un aL
 exact⟨v,_,os,bare,u1,k1,r,q⟩
def CE.more{Q:VK}{u:Value}(z:sy Z H (eO outer) s.heap)(h:CE outer P w H s (λv H'=>(∀b o,Z.lookup b=some o->H' b=none)->Q v (aM Z H')) u s'):CE outer P w (aM Z H) s Q u s':=by
 obtain⟨v,H',os,bare,un,aL,r,q⟩:=h
 obtain⟨u1,k1⟩:=z.uV un aL
 exact⟨v,_,os,bare,u1,k1,r,q λb o y=>un.free b o (z.at_ b o y) (z.no b o y) (λy=>nomatch y)⟩
def dR.less{E:XK}{e:Value}(z:sy Z H (eO outer) s.heap)(h:dR P w outer (aM Z H) s (λC a H'=>E C a (aV Z H')) e s'):dR P w outer H s E e s':=by
 obtain⟨a,C,t,vs,H',B,rfl,F⟩:=h
 have zk:∀b o,Z.lookup b=some o->H' b=some (.bp o bF):=λb o q=>F.un.fI b o _ (aX q)
 have kB:∀b o,s.heap.get? b=some o->H b=none->b∉eO outer->B.get? b=some o:=λb o e n hb=>by
  cases q:Z.lookup b with
  |some o'=>
   have e2:=z.at_ b o' q
   rw [e] at e2;cases e2;exact(F.aL b _ (zk b o q)).1
  |none=>exact F.dW b o e (by rw [ah q];exact n) hb
 have hB:eA P w (aV Z H') B:=λb v e=>by
  obtain⟨q,e1⟩:=eo e
  refine(F.aL b v e1).eP (λc y _ r=>r) (λc r=>?_) λc xs r=>?_
  ·cases y:Z.lookup c with
   |none=>rw [ay y];exact r
   |some o=>rw [zk c o y] at r;cases r
  ·cases y:Z.lookup c with
   |none=>rw [ay y];exact r
   |some o=>rw [zk c o y] at r;cases r
 have hs:eA P w H' s'.heap:=λb v e=>(F.aL b v e).eP (λc y _ r=>F.Bg.1 _ _ r) (λ_ r=>r) λ_ _ r=>r
 obtain⟨u1,_⟩:=z.uI (P:=P) (w:=w) F.un hs
 exact⟨a,C,t,vs,_,B,rfl,⟨F.os,F.bare,hB,F.Bg,F.tn,F.tup,kB,F.dg,u1,F.ends⟩⟩
def dR.more{E:XK}{e:Value}(z:sy Z H (eO outer) s.heap)(h:dR P w outer H s (λC a H'=>(∀b o,Z.lookup b=some o->H' b=none)->E C a (aM Z H')) e s'):dR P w outer (aM Z H) s E e s':=by
 obtain⟨a,C,t,vs,H',B,rfl,F⟩:=h
 have zB:∀b o,Z.lookup b=some o->B.get? b=some o:=λb o q=>F.dW b o (z.at_ b o q) (z.no b o q) (z.fr b o q)
 have zn:∀b o,Z.lookup b=some o->H' b=none:=λb o q=>F.un.free b o (z.at_ b o q) (z.no b o q) (λy=>nomatch y)
 have nz:∀c v,H' c=some v->Z.lookup c=none:=λc v hv=>by
  cases y:Z.lookup c with
  |none=>rfl
  |some o=>rw [zn c o y] at hv;cases hv
 have hB:eA P w (aM Z H') B:=λb v e=>by
  cases q:Z.lookup b with
  |some o=>rw [aX q] at e;cases e;exact lj (zB b o q)
  |none=>
   rw [ah q] at e;exact(F.aL b v e).eP (λc y _ r=>r) (λc r=>by rw [ah (nz c _ r)];exact r) λc xs r=>by rw [ah (nz c _ r)];exact r
 have hs:eA P w H' s'.heap:=λb v e=>(F.aL b v e).eP (λc y _ r=>F.Bg.1 _ _ r) (λ_ r=>r) λ_ _ r=>r
 obtain⟨u1,_⟩:=z.uV (P:=P) (w:=w) F.un hs
 refine⟨a,C,t,vs,_,B,rfl,⟨F.os,F.bare,hB,F.Bg,F.tn,F.tup,λb o e n hb=>F.dW b o e ?_ hb,F.dg,u1,F.ends zn⟩⟩
 cases q:Z.lookup b with
 |some o=>rw [aX q] at n;cases n
 |none=>rw [ah q] at n;exact n
end
structure qv(ps ys:List Str)(scope:Scope):Prop where
 kind:scope.kind=.function
 co:scope.isCoroutine=false
 gen:scope.isGenerator=false
 nd:(ps++ys).Nodup
 A2:∀x∈scope.names,x.2≠.cell
 par:∀x∈ps,scope.names.lookup x=some .local
 O6:∀y∈ys,scope.names.lookup y=some .free
 Jg:∀x,scope.names.lookup x=some .free->x∈ys
noncomputable def E7(P:Program)(w:World)(K:zz8)(mg:Str->Option Value)(base:Heap)(N:List Str)(qual:Str)(scope:Scope)(f:Addr)(cd:Value)(cl:List (Str×Addr))(A:Around)(outer:List Env)(s:Shared)(H:Hp)(E:XK):Cx where
 prog:=P
 w:=w
 K:=K
 mg:=mg
 base:=base
 A:=A.deeper (PySem.W.envX qual scope (zz9 s) f cd cl)
 N:=N
 s₀:=s
 H₀:=H
 env:=PySem.W.envX qual scope (zz9 s) f cd cl
 outer:=outer
 stack:=PySem.W.envX qual scope (zz9 s) f cd cl::outer
 ex:=[]
 calm:=true
 fn:=λ_=>false
 pn:=[]
 xe:=λe s'=>wpAny (model P w) (A.deeper (PySem.W.envX qual scope (zz9 s) f cd cl)) (leaving (PySem.W.envX qual scope (zz9 s) f cd cl) e) (λ_ BF=>dR P w outer H s E e BF) (λe' BF=>dR P w outer H s E e' BF) s'
theorem nN{α:Type}:∀{l:List (Str×α)} {x:Str} {v:α},(l.map (·.1)).Nodup->(x,v)∈l->l.lookup x=some v
 |(y,u)::r,x,v,nd,h=>by
  rw [zzF,List.nodup_cons] at nd;rw [zz5];rcases zzm.mp h with e|e
  ·cases e;simp
  ·have g9:(x==y)=false:=beq_eq_false_iff_ne.mpr λz=>nd.1 (by subst z;exact List.mem_map_of_mem (f:=(·.1)) e)
   rw [g9];exact nN nd.2 e
def kZ{ps:List Str}{us:List Value}{i:Nat}{x:Str}{u:Value}(nd:ps.Nodup)(h1:ps[i]?=some x)(h2:us[i]?=some u):(ps.zip us).reverse.lookup x=some u:=by
 have hs:∀{ps:List Str} {us:List Value},List.Sublist ((ps.zip us).map (·.1)) ps:=λ{ps us}=>by
  induction ps generalizing us with
  |nil=>simp
  |cons p ps ih=>
   cases us with
   |nil=>simp
   |cons q us=>simpa using ih
 refine nN ?_ ?_
 ·rw [List.map_reverse];exact List.pairwise_reverse.mpr ((nd.sublist hs).imp λh=>Ne.symm h)
 ·rw [List.mem_reverse];refine zzD (i:=i) ?_;rw [List.getElem?_zip_eq_some];exact⟨h1,h2⟩
section
variable{P:Program}{w:World}{K:zz8}{mg:Str->Option Value}{base:Heap}{ps ys:List Str}{qual:Str}{scope:Scope}{f:Addr}{cd:Value}{cl:List (Str×Addr)}{A:Around}{outer:List Env}{s:Shared}{H:Hp}{E:XK}
def uk{us:List Value}{vs ws:List V}{h':Heap}{tk:Nat}(S:qv ps ys scope)(hd:A.handled=none)(e0:iP P w K mg base A outer s H)(JT:∀y∈ys,∃c,cl.lookup y=some c)(inj:∀x y c,cl.lookup x=some c->cl.lookup y=some c->x=y)
 (r:Vals vs us) (hl:vs.length=ps.length) (hw:ws.length=ys.length) (cells:∀(i:Nat) y c,ys[i]?=some y->cl.lookup y=some c->∀v,ws[i]?=some v->∃u,RelV v u/\s.heap.IsCell c (some u)) (OX:∀x c,cl.lookup x=some c->∃v,s.heap.IsCell c v)
 (Lh:∀x c,cl.lookup x=some c->H c=none) (ns:h'.Ns (zz9 s) (λx=>(ps.zip us).reverse.lookup x)) (hk:∀b o,s.heap.get? b=some o->h'.get? b=some o):
 Inv (E7 P w K mg base (ps++ys) qual scope f cd cl A outer s H E) [] (vs.map some++ws.map some) H {s with heap:=h',toks:=tk}:=by
 have CP:∀b:Addr,b∉(E7 P w K mg base (ps++ys) qual scope f cd cl A outer s H E).ex:=λb z=>absurd (show b∈([]:List Addr) from z) (by simp)
 have ck:∀c v,s.heap.IsCell c v->h'.IsCell c v:=λc v ⟨o,ho,hd⟩=>⟨o,hk c o ho,hd⟩
 refine⟨⟨e0.mod,S.kind,rfl,rfl,zzE _,inj,λx hx=>?_,(λx c z=>nomatch z),λ_=>hd,Around.frames_deeper e0.frames,.inr ⟨rfl,rfl⟩,λb z=>absurd z (CP b),e0.bs,e0.wI,λb _ _=>CP b,λb z=>absurd z (CP b),e0.gk,e0.xH⟩,
  rfl,e0.bare,Un.kept hk,⟨_,ns,λi x v h1 h2 h3=>?_⟩,λx c h=>let⟨v,z⟩:=OX x c h;⟨v,ck c v z⟩,e0.aL.fresh (zzE _),Lh,λp hp=>absurd (show p∈([]:List (Addr×Obj)) from hp) (by simp),e0.aL.kept hk,?_⟩
 ·have hx:scope.names.lookup x=some .cell\/scope.names.lookup x=some .free:=hx
  rcases hx with hx|hx
  ·exact absurd rfl (S.A2 _ (PySem.mem_of_lookup hx))
  ·exact JT x (S.Jg x hx)
 ·have h1:(ps++ys)[i]?=some x:=h1
  by_cases hi:i<vs.length
  ·rw [zzr (by simpa using hi),zzQ] at h2;have ha:vs[i]?=some v:=by
    cases e:vs[i]? with
    |none=>rw [e] at h2;cases h2
    |some a=>rw [e] at h2;cases h2;rfl
   obtain⟨u,hu,rv⟩:=r.get ha
   have hp:ps[i]?=some x:=by rw [zzr (by omega)] at h1;exact h1
   exact⟨u,rv,.inl ⟨S.par x (zzD hp),kZ (S.nd.sublist (List.sublist_append_left _ _)) hp hu⟩⟩
  ·rw [zzs (by simpa using hi),zzQ,zzl] at h2;rw [zzs (by omega)] at h1;have ha:ws[i-vs.length]?=some v:=by
    cases e:ws[i-vs.length]? with
    |none=>rw [e] at h2;cases h2
    |some a=>rw [e] at h2;cases h2;rfl
   rw [<-hl] at h1;obtain⟨c,hc⟩:=JT x (zzD h1)
   obtain⟨u,rv,z⟩:=cells _ x c h1 hc v ha
   exact⟨u,rv,.inr ⟨.inr (S.O6 x (zzD h1)),c,hc,ck c _ z⟩⟩
 ·show _=(ps++ys).length
  rw [zzM,zzM,zzl,zzl,hl,hw]
def KP{N:List Str}:Passes (dR P w) (E7 P w K mg base N qual scope f cd cl A outer s H E) E:=by
 rintro ae σ H1 s1 e s' I ⟨a,C,t,vs,H',B,rfl,F⟩
 have nx:∀b:Addr,b∉(E7 P w K mg base N qual scope f cd cl A outer s H E).ex:=λb z=>nomatch (show b∈([]:List Addr) from z)
 have dW:∀b o,s.heap.get? b=some o->H b=none->b∉eO outer->B.get? b=some o:=λb o q n hb=>
  F.dW b o (I.base.keep b o q n hb (nx b)) (I.base.free b o q n (nx b)) (ji I rfl q hb)
 have dg:∀b o,s.heap.get? b=some o->b∉eO outer->∃o',B.get? b=some o':=λb o q hb=>by
  obtain⟨o1,q1⟩:=I.base.there b o q (nx b)
  exact F.dg b o1 q1 (ji I rfl q hb)
 refine wpAny_leaves_onW I.ok.frames rfl F.Bg λh' x1 x2=>⟨a,C,t,vs,H',B,rfl,?_⟩
 have slot:∀b o,s.heap.get? b=some o->H b=none->b∈eO outer->∃sl,h'.get? b=some {o with slots:=sl}:=λb o q n hb=>by
  obtain⟨sl,q1⟩:=I.base.slot b o q n hb (nx b)
  obtain⟨sl2,q2⟩:=F.un.any q1 (I.base.free b o q n (nx b)) (λz=>nomatch z)
  obtain⟨_,o',q3,hd⟩:=F.Bg.2.2.1.mem (b:=b) (zz1.mpr (let⟨v,h1,h2⟩:=zz1.mp hb;⟨v,.tail _ h1,h2⟩))
  rw [q2] at q3;cases q3;obtain⟨sl3,q4⟩:=x2 b _ q2 hd
  exact⟨sl3,q4⟩
 refine⟨F.os.trans I.os,F.bare,F.aL,x1,F.tn,F.tup.of_slots x2,dW,dg,⟨λb o q n hb _=>x1.1 _ _ (dW b o q n hb),λb o q n hb _=>slot b o q n hb,λb o q n _=>?_,λb o q _=>?_,λb xs q=>F.un.g7 _ _ (I.base.g7 _ _ q),λb o u q=>F.un.fI _ _ _ (I.base.fI _ _ _ q),λb ps q=>?_⟩,F.ends⟩
 ·obtain⟨sl,q1⟩:=I.base.any q n (nx b)
  exact F.un.free b _ q1 (I.base.free b o q n (nx b)) (λz=>nomatch z)
 ·by_cases hb:b∈eO outer
  ·obtain⟨sl,q1⟩:=slot b o q (I.ok.xH b hb) hb
   exact⟨_,q1⟩
  ·obtain⟨o',q1⟩:=dg b o q hb
   exact⟨o',x1.1 _ _ q1⟩
 ·obtain⟨m1,q1⟩:=I.base.gr b ps q
  obtain⟨m2,q2⟩:=F.un.gr b _ q1
  exact⟨m1++m2,by rw [<-Array.append_assoc];exact q2⟩
def uJ{k:Nat}{params:Arguments}{body:Expr}{pm fJ:Value}{c':Addr}{oc:Obj}{df:Array Value}{ct:Tok}{us:List Value}{vs ws:List V}{Q:VK}{Z:List (Addr×Obj)}{t:TE}
 (S:qv ps ys scope) (hr:dG k A) (e0:iP P w K mg base A outer s H) (z:sy Z H (eO outer) s.heap) (zb:∀b o,Z.lookup b=some o->base.get? b=none)
 (ho:s.heap.get? f=some (PySem.W.kla_obj "<lambda>" qual params body scope cl pm c' fJ)) (hc:s.heap.get? c'=some oc) (sk:oc.data=.fields df) (Fi:df[1]?=some (.str qual ct))
 (hb:bindArgs (PySem.W.kla_fn "<lambda>" qual params body scope cl pm (.ref c') fJ) ⟨us,[]⟩=pure (ps.zip us)) (r:Vals vs us) (hl:vs.length=ps.length) (hw:ws.length=ys.length)
 (JT:∀y∈ys,∃c,cl.lookup y=some c) (inj:∀x y c,cl.lookup x=some c->cl.lookup y=some c->x=y)
 (cz:∀x c,cl.lookup x=some c->∃o v,Z.lookup c=some o/\o.data=.cell v)
 (cells:∀(i:Nat) y c,ys[i]?=some y->cl.lookup y=some c->∀v,ws[i]?=some v->∃u,RelV v u/\s.heap.IsCell c (some u))
 (ht:PE (E7 P w K mg base (ps++ys) qual scope f (.ref c') cl A outer s H (λC a H'=>(∀b o,Z.lookup b=some o->H' b=none)->E C a (aM Z H'))) body t)
 (hq:t (vs.map some++ws.map some) H λv H'=>(∀b o,Z.lookup b=some o->H' b=none)->Q v (aM Z H')):
 codeAny (model P w) A (.call (.ref f) ⟨us,[]⟩) (CR (dR P w) outer P w (aM Z H) s Q E) s:=by
 have lim:s.heap.NoLimit:=e0.mod.nolimit.keeps λb o e=>(e0.bs b o e).1
 refine PySem.W.kla_callFunE hr.depth ho rfl S.co S.gen rfl ⟨c',oc,df,ct,rfl,hc,sk,Fi⟩ ?_;rw [hb];refine zzG (wpAny_newFunctionEnv S.A2 (λy hy=>S.par y.1 (List.of_mem_zip hy).1) (λh₁ Ng hsb=>?_) S.kind)
 have hk₁:∀b o,s.heap.get? b=some o->h₁.get? b=some o:=λb o e=>hsb.extBut b o (zzb (zzO e)) (zzB _ e)
 refine⟨lim.keeps hk₁,?_⟩;show codeAny _ _ (.expr body (PySem.W.envX qual scope (zz9 s) f (.ref c') cl)) _ _;have I:=uk (E:=λC a H'=>(∀b o,Z.lookup b=some o->H' b=none)->E C a (aM Z H')) (cd:=.ref c') (f:=f) (qual:=qual) (tk:=s.toks+(ps.zip us).length) S hr.hd e0 JT inj r hl hw cells (λx c h=>by
  obtain⟨o,v,h1,h2⟩:=cz x c h
  exact⟨v,o,z.at_ c o h1,h2⟩) (λx c h=>by
  obtain⟨o,v,h1,h2⟩:=cz x c h
  exact z.no c o h1) Ng hk₁
 refine PySem.W.kla_codeExpr (wpAny_mono (ht [] _ _ H _ I hq) (λu s' hs=>?_) λe s' hs=>?_)
 ·obtain⟨v,H',J,rv,q⟩:=hs
  exact CE.more z ⟨v,H',J.os,J.bare,J.base,J.aL,rv,q⟩
 ·exact wpAny_mono hs (λ_ BF y=>dR.more z y) λe' BF y=>dR.more z y
end
def ui{p:Pos}{a b:Int}{c cv:Value}:∀(l:List Value),TriplesOk l->codeAmong p (l++[rawInt a,rawInt b,c])=some cv->codeAmong p l=some cv\/cv=c:=by
 intro l h e
 fun_induction TriplesOk l with
 |case1=>
  simp! [List.nil_append,codeAmong,rawInt] at e;split at e
  ·cases e;exact .inr rfl
  ·cases e
 |case2 a' t b' u x rest ih=>
  simp! [List.cons_append,codeAmong] at e⊢;split at e
  ·rename_i hc;rw [if_pos hc];exact .inl e
  ·rename_i hc;rw [if_neg hc];exact ih h e
 |case3 l h1 h2=>exact h.elim
def y7(mg:Str->Option Value)(base:Heap):Prop:=∃bm o,mg "__builtins__"=some (.ref bm)/\bm≠builtinsNs/\bm≠mainGlobals/\base.get? bm=some o/\o.cls=.type "module"/\o.dict=some builtinsNs/\o.data=.plain
noncomputable def gz(H:Hp)(P:Addr)(qj:Array Value)(c':Addr)(oc:Obj)(f:Addr)(fo:Obj):Hp:=upd (upd (upd H P (.fY qj)) c' (.bp oc bF)) f (.bp fo bF)
section
variable{X:Cx}{ae:List (Addr×Obj)}{σ:St}{H:Hp}{s:Shared}{c P c' f:Addr}{ps qj:Array Value}{oc fo:Obj}
def Inv.lam{h':Heap}{tk:Nat}(I:Inv X ae σ H s)(hP:H P=some (.fY ps))(hx:∀b o,b≠P->s.heap.get? b=some o->h'.get? b=some o)(Qy:h'.get? P=some (PySem.W.tabObj qj))(more:∃m,qj=ps++m)
 (hc:H c'=none/\(zz9 s)<=c'\/H c'=some (.bp oc bF)) (SO:h'.get? c'=some oc) (hf:(zz9 s)<=f) (Tt:h'.get? f=some fo) (Bk:c'≠f):
 Inv X ae σ (gz H P qj c' oc f fo) {s with heap:=h',toks:=tk}:=by
 have fr:H f=none:=I.aL.fresh hf
 have nP:∀b u,H b=some u->(∀q,u≠.fY q)->b≠P:=λb u e n z=>by subst z;rw [hP] at e;cases e;exact n _ rfl
 have nf:∀b u,H b=some u->b≠f:=λb u e z=>by subst z;rw [fr] at e;cases e
 have cP:c'≠P:=λz=>by
  subst z;rcases hc with⟨e,_⟩|e
  ·rw [hP] at e;cases e
  ·rw [hP] at e;cases e
 have fP:f≠P:=λz=>by subst z;rw [hP] at fr;cases fr
 have at_:∀b u,H b=some u->(∀q,u≠.fY q)->gz H P qj c' oc f fo b=some u:=λb u e n=>by
  unfold gz;rw [ag (nf b u e)]
  by_cases hb:b=c'
  ·subst hb;rw [aq];rcases hc with⟨z,_⟩|z
   ·rw [z] at e;cases e
   ·rw [z] at e;exact e
  ·rw [ag hb,ag (nP b u e n)];exact e
 have no:∀b o,s.heap.get? b=some o->H b=none->gz H P qj c' oc f fo b=none:=λb o e n=>by
  have Ck:b≠f:=λz=>absurd (zzO e) (by rw [z];exact Nat.not_lt.mpr hf)
  have JY:b≠P:=λz=>by subst z;rw [hP] at n;cases n
  have xM:b≠c':=λz=>by
   rcases hc with⟨_,y⟩|y
   ·exact absurd (zzO e) (by rw [z];exact Nat.not_lt.mpr y)
   ·rw [z,y] at n;cases n
  unfold gz;rw [ag Ck,ag xM,ag JY];exact n
 have kp:∀b o,s.heap.get? b=some o->H b=none->h'.get? b=some o:=λb o e n=>hx b o (λz=>by subst z;rw [hP] at n;cases n) e
 refine I.un ⟨λb o e n _ _=>kp b o e n,λb o e n _ _=>⟨o.slots,kp b o e n⟩,λb o e n _=>no b o e n,λb o e _=>?_,λb xs e=>at_ b _ e (λ_ z=>nomatch z),λb o u e=>at_ b _ e (λ_ z=>nomatch z),λb qs e=>?_⟩ λb u e=>?_
 ·by_cases hb:b=P
  ·exact⟨_,by rw [hb];exact Qy⟩
  ·exact⟨o,hx b o hb e⟩
 ·by_cases hb:b=P
  ·subst hb;rw [hP] at e;cases e;obtain⟨m,rfl⟩:=more
   exact⟨m,by unfold gz;rw [ag (Ne.symm fP),ag (Ne.symm cP),aq]⟩
  ·have xM:b≠c':=λz=>by
    subst z;rcases hc with⟨y,_⟩|y
    ·rw [y] at e;cases e
    ·rw [y] at e;cases e
   exact⟨#[],by unfold gz;rw [ag (nf b _ e),ag xM,ag hb,e];simp⟩
 ·unfold gz at e
  by_cases h1:b=f
  ·subst h1;rw [aq] at e;cases e;exact lj Tt
  ·rw [ag h1] at e
   by_cases h2:b=c'
   ·subst h2;rw [aq] at e;cases e;exact lj SO
   ·rw [ag h2] at e
    by_cases h3:b=P
    ·subst h3;rw [aq] at e;cases e;exact Qy
    ·rw [ag h3] at e;refine(I.aL b u e).eP (λd v hd q=>hx d v ?_ q) (λd q=>at_ d _ q (λ_ z=>nomatch z)) λd xs q=>at_ d _ q (λ_ z=>nomatch z)
     rcases hd with hd|hd
     ·rw [hd];exact h3
     ·exact nP d _ hd (λ_ z=>nomatch z)
def zu{R:Addr->Obj->Prop}{params:Arguments}{body:Expr}{scope:Scope}{pos:Pos}{cl:List (Str×Addr)}{Q:Value->Shared->Prop}{E:Value->Shared->Prop}(I:Inv X ae σ H s)(hP:H P=some (.fY ps))(ht:TriplesOk ps.toList)(u4:X.env.code=.ref c)(C:PySem.W.CodeHd X.base c P)
 (RZ:y7 X.mg X.base) (FH:closureFor scope X.env=pure cl) (Gz:defaultsOf params X.env=([],[]))
 (hit:∀cv,codeAmong pos ps.toList=some cv->∃c' oc df t,cv=.ref c'/\H c'=some (.bp oc bF)/\R c' oc/\oc.data=.fields df/\df[1]?=some (.str (X.env.qual++"<lambda>") t))
 (h:∀(f c':Addr) (oc:Obj) (df:Array Value) (t:Tok) (fJ:Value) (qj:Array Value) (h':Heap) (tk:Nat),H f=none->(H c'=none\/H c'=some (.bp oc bF)/\R c' oc)->c'≠f->f≠P->c'≠P->oc.data=.fields df->df[1]?=some (.str (X.env.qual++"<lambda>") t)->TriplesOk qj.toList->
  (∀p cv,codeAmong p qj.toList=some cv->codeAmong p ps.toList=some cv\/cv=.ref c')->(∃m,qj=ps++m)->
  Inv X ae σ (gz H P qj c' oc f (PySem.W.kla_obj "<lambda>" (X.env.qual++"<lambda>") params body scope cl ((X.mg "__name__").getD .none) c' fJ)) {s with heap:=h',toks:=tk}->Q (.ref f) {s with heap:=h',toks:=tk}):
 wpAny (model X.prog X.w) X.A (eval (.Lambda params body scope pos) X.env) Q E s:=by
 have Nu:s.heap.get? P=some (PySem.W.tabObj ps):=I.aL P _ hP
 have hg:=I.ok.mod.glob.keeps I.bk
 have Sy:mainGlobals≠P:=λq=>by
  obtain⟨o,es,ep,e,_⟩:=I.ok.mod.glob
  have:=(I.bs _ _ e).2
  rw [q,hP] at this;cases this
 obtain⟨bm,ob,b1,b2,b3,b4,b5,b6,b7⟩:=RZ
 have hB:s.heap.BuiltinsAt X.mg P:=⟨bm,ob,b1,b2,b3,(λq=>by
  have:=(I.bs _ _ b4).2
  rw [q,hP] at this;cases this),I.bk _ _ b4,b5,b6,b7⟩
 refine PySem.W.kla_eval Gz ?_;cases hm:codeAmong pos ps.toList with
 |none=>
  refine PySem.W.kla_makeFunction (mg:=X.mg) FH I.ok.glob hg u4 (C.keeps I.bk) Nu ht hm Sy hB λc' fJ h' tk hx Jo cC O8 Tb=>?_
  obtain⟨c₂,oc,vs,t,e2,hoc,hd,hv⟩:=O8
  cases e2;have Fi:H c'=none:=I.aL.fresh Jo
  have hsz:(zz9 s)<=h'.objs.size:=zzU Jo (Nat.le_of_lt cC)
  have lH:H h'.objs.size=none:=I.aL.fresh hsz
  refine h h'.objs.size c' oc vs t fJ _ _ tk lH (.inl Fi) (zzb cC) (λz=>by rw [z,hP] at lH;cases lH) (λz=>by rw [z,hP] at Fi;cases Fi) hd hv ?_ ?_ ⟨_,rfl⟩
   (I.lam hP (λb o hb e=>zzB _ (hx b o hb e)) (zzB _ Tb) ⟨_,rfl⟩ (.inl ⟨Fi,Jo⟩) (zzB _ hoc) hsz (zzX _ rfl) (zzb cC))
  ·rw [Array.toList_append];exact TriplesOk_snoc _ _ _ _ ht
  ·intro p cv e;rw [Array.toList_append] at e;exact ui _ ht e
 |some cv=>
  obtain⟨c',oc,df,t,rfl,ip,hR,hd,hv⟩:=hit cv hm
  refine PySem.W.kla_makeFunctionHit (mg:=X.mg) FH I.ok.glob hg u4 (C.keeps I.bk) Nu ht hm hB λfJ h' tk hk hsz=>?_
  have lH:H h'.objs.size=none:=I.aL.fresh hsz
  have xP:s.heap.get? c'=some oc:=(I.aL c' _ ip).1
  have Bk:c'≠h'.objs.size:=λz=>by rw [z,lH] at ip;cases ip
  refine h h'.objs.size c' oc df t fJ ps _ tk lH (.inr ⟨ip,hR⟩) Bk (λz=>by rw [z,hP] at lH;cases lH) (λz=>by rw [z,hP] at ip;cases ip) hd hv ht (λp cv e=>.inl e) ⟨#[],by simp⟩
   (I.lam hP (λb o hb e=>zzB _ (hk b o e)) (zzB _ (hk _ _ Nu)) ⟨#[],by simp⟩ (.inr ip) (zzB _ (hk _ _ xP)) hsz (zzX _ rfl) Bk)
end
section
end
section
end
section
variable{a b:Expr}
end
section
end
section
variable{κ:Type} [DecidableEq κ]
def gG(aw:List (κ×V))(k:κ):Option V:=(aw.find? λkv=>decide (kv.1=k)).map (·.2)
def putK(aw:List (κ×V))(k:κ)(v:V):List (κ×V):=
 if(aw.any λkv=>decide (kv.1=k))=true then aw.map (λkv=>if kv.1=k then(kv.1,v) else kv) else aw++[(k,v)]
def fT(aw:List (κ×V))(k:κ):List (κ×V):=aw.filter λkv=>decide (kv.1≠k)
def gy{p:κ×V}{r:List (κ×V)}{k:κ}(e:p.1=k):gG (p::r) k=some p.2:=by simp [gG,List.find?_cons,e]
def gJ{p:κ×V}{r:List (κ×V)}{k:κ}(e:¬p.1=k):gG (p::r) k=gG r k:=by simp [gG,List.find?_cons,e]
theorem lJ(k:κ):∀aw:List (κ×V),(aw.any λkv=>decide (kv.1=k))=(gG aw k).isSome
 |[]=>rfl
 |p::r=>by
  rw [List.any_cons]
  by_cases e:p.1=k
  ·simp! [gy e,zzh e,Bool.true_or,Option.isSome_some]
  ·rw [gJ e,zz0 e,Bool.false_or];exact lJ k r
def eF(aw:List (κ×V))(k:κ)(v:V):(putK aw k v).length<=aw.length+1:=by
 unfold putK;split
 ·rw [zzl];omega
 ·rw [zzM,zzL,List.length_nil];omega
def iI.jl{o:Option V}{u:Option Value}(r:iI o u):o.isSome=u.isSome:=by
 cases o with
 |none=>cases u with
  |none=>rfl
  |some _=>exact(show False from r).elim
 |some _=>cases u with
  |none=>exact(show False from r).elim
  |some _=>rfl
def iI.getD{o:Option V}{u:Option Value}{d:V}{d':Value}(r:iI o u)(rd:RelV d d'):RelV (o.getD d) (u.getD d'):=by
 cases o with
 |none=>cases u with
  |none=>exact rd
  |some _=>exact(show False from r).elim
 |some _=>cases u with
  |none=>exact(show False from r).elim
  |some _=>exact r
def KV.val{aw:List (κ×V)}{vs:List (κ×Value)}(r:KV aw vs)(k:κ):iI (gG aw k) (valueAt vs k):=by
 unfold KV at r
 induction r with
 |nil=>exact True.intro
 |@cons p q ps qs h t ih=>
  obtain⟨h1,h2⟩:=h
  by_cases e:p.1=k
  ·have e':q.1=k:=h1.symm.trans e
   have b:valueAt (q::qs) k=some q.2:=by simp [valueAt,List.find?_cons,e']
   rw [gy e,b];exact h2
  ·have e':¬q.1=k:=λz=>e (h1.trans z)
   have b:valueAt (q::qs) k=valueAt qs k:=by simp [valueAt,List.find?_cons,e']
   rw [gJ e,b];exact ih
def KV.any{aw:List (κ×V)}{vs:List (κ×Value)}(r:KV aw vs)(k:κ):(aw.any λkv=>decide (kv.1=k))=vs.any λkv=>decide (kv.1=k):=by
 unfold KV at r
 induction r with
 |nil=>rfl
 |cons h t ih=>rw [List.any_cons,List.any_cons,ih,h.1]
def KV.GU{aw:List (κ×V)}{vs:List (κ×Value)}(r:KV aw vs)(k:κ){y:V}{u:Value}(ry:RelV y u):
 KV (aw.map λkv=>if kv.1=k then(kv.1,y) else kv) (vs.map λkv=>if kv.1=k then(kv.1,u) else kv):=by
 unfold KV at r⊢
 induction r with
 |nil=>exact .nil
 |@cons p q ps qs h t ih=>
  rw [zzF,zzF];refine .cons ?_ ih;obtain⟨h1,h2⟩:=h
  by_cases e:p.1=k
  ·rw [if_pos e,if_pos (h1.symm.trans e)];exact⟨h1,ry⟩
  ·rw [if_neg e,if_neg (λz=>e (h1.trans z))];exact⟨h1,h2⟩
def KV.put{aw:List (κ×V)}{vs:List (κ×Value)}(r:KV aw vs)(k:κ){y:V}{u:Value}(ry:RelV y u):KV (putK aw k y) (stored vs k u):=by
 unfold putK stored;rw [r.any k]
 by_cases e:(vs.any λkv=>decide (kv.1=k))=true
 ·rw [if_pos e,if_pos e];exact r.GU k ry
 ·rw [if_neg e,if_neg e];exact Paired.snoc r ⟨rfl,ry⟩
def KV.length{aw:List (κ×V)}{vs:List (κ×Value)}(r:KV aw vs):aw.length=vs.length:=Paired.length r
def Az(aw:List (κ×V))(k:κ):(fT aw k).length<=aw.length:=List.length_filter_le _ _
end
def rC{P:Program}{w:World}{k:Key}{u:Value}(r:RelV (kV k) u):(bE P w).is k u=true:=by
 cases k with
 |inl i=>obtain⟨t,e⟩:=(show∃t,u=Value.int i t from r);subst e;exact qm P w i t
 |inr x=>obtain⟨t,e⟩:=(show∃t,u=Value.str x t from r);subst e;exact qQ P w x t
theorem nV{P:Program}{w:World}:∀{ks:List Key} {us:List Value},Vals (ks.map kV) us->ItemsAre (bE P w) ks us
 |[],_,r=>by rw [List.map_nil] at r;cases r;exact .nil
 |k::ks,_,r=>by
  rw [zzF] at r;cases r with
  |cons h t=>exact .cons (rC h) (nV t)
abbrev KT(H:Hp):List (List Key×V)->List (List Key×Addr×Value)->Prop:=Paired λp q=>p.1=q.1/\H q.2.1=some (.tup (p.1.map kV))/\RelV p.2 q.2.2
def KT.val{H:Hp}{aw:List (List Key×V)}{xs:List (List Key×Addr×Value)}(r:KT H aw xs)(k:List Key):iI (gG aw k) ((atKey xs k).map (·.2)):=by
 induction r with
 |nil=>exact True.intro
 |@cons p q ps qs h t ih=>
  obtain⟨h1,_,h2⟩:=h
  by_cases e:p.1=k
  ·have e':q.1=k:=h1.symm.trans e
   have b:atKey (q::qs) k=some q.2:=by simp [atKey,List.find?_cons,e']
   rw [gy e,b];exact h2
  ·have e':¬q.1=k:=λz=>e (h1.trans z)
   have b:atKey (q::qs) k=atKey qs k:=by simp [atKey,List.find?_cons,e']
   rw [gJ e,b];exact ih
def KT.GU{H:Hp}{aw:List (List Key×V)}{xs:List (List Key×Addr×Value)}(r:KT H aw xs)(k:List Key){y:V}{u:Value}(ry:RelV y u):
 KT H (aw.map λkv=>if kv.1=k then(kv.1,y) else kv) (xs.map (putAt k u)):=by
 induction r with
 |nil=>exact .nil
 |@cons p q ps qs h t ih=>
  rw [zzF,zzF];refine .cons ?_ ih;obtain⟨h1,h2,h3⟩:=h
  unfold putAt
  by_cases e:p.1=k
  ·rw [if_pos e,if_pos (h1.symm.trans e)];exact⟨h1,h2,ry⟩
  ·rw [if_neg e,if_neg (λz=>e (h1.trans z))];exact⟨h1,h2,h3⟩
def KT.put{H:Hp}{aw:List (List Key×V)}{xs:List (List Key×Addr×Value)}(r:KT H aw xs)(k:List Key){b:Addr}{y:V}{u:Value}(hb:H b=some (.tup (k.map kV)))(ry:RelV y u):
 KT H (putK aw k y) (storedH xs k b u):=by
 have e:(aw.any λkv=>decide (kv.1=k))=(atKey xs k).isSome:=by
  rw [lJ,(r.val k).jl,Option.isSome_map]
 unfold putK storedH;rw [e]
 by_cases q:(atKey xs k).isSome=true
 ·rw [if_pos q,if_pos q];exact r.GU k ry
 ·rw [if_neg q,if_neg q];exact Paired.snoc r ⟨rfl,hb,ry⟩
def KT.keeps{H H':Hp}{aw:List (List Key×V)}{xs:List (List Key×Addr×Value)}(r:KT H aw xs)(ht:∀b ys,H b=some (.tup ys)->H' b=some (.tup ys)):KT H' aw xs:=
 Paired.zt r λ_ _ z=>⟨z.1,ht _ _ z.2.1,z.2.2⟩
section
variable{P:Program}{w:World}{H:Hp}{h:Heap}{a:Addr}
def Fh{u:HO}(ok:eA P w H h)(e:Rd H a u):bJ P w H h a u:=e.ok ok
def nK{aw:List (Key×V)}(ok:eA P w H h)(e:Rd H a (.dK aw)):aw.length<=sizeLine/\(a==sysModules)=false/\∃vs,KV aw vs/\h.DictOf (bE P w) a vs:=
 show bJ P w H h a (.dK aw) from Fh ok e
def LG{aw:List (Key×V)}(ok:eA P w H h)(e:H a=some (.dK aw)):aw.length<=sizeLine/\(a==sysModules)=false/\∃vs,KV aw vs/\h.DictOf (bE P w) a vs:=nK ok (.inl e)
def gq{ks:List Key}(ok:eA P w H h)(e:H a=some (.tup (ks.map kV))):(tupleKind (bE P w)).is h ks a:=by
 obtain⟨_,ax,r,o,h1,h2,n,h3⟩:=(show bJ P w H h a (.tup (ks.map kV)) from ok a _ e)
 exact⟨o,ax.toArray,n,h1,h2,h3,by simpa using nV r⟩
def jo{aw:List (List Key×V)}(ok:eA P w H h)(e:Rd H a (.dT aw)):aw.length<=sizeLine/\(a==sysModules)=false/\
 ∃xs,KT H aw xs/\h.DictOfH (tupleKind (bE P w)) a xs:=by
 obtain⟨z,y,xs,r,o,es,ep,h1,h2,h3,h4,h5⟩:=(show bJ P w H h a (.dT aw) from Fh ok e)
 refine⟨z,y,xs,r,o,es,ep,h1,h2,h3,h4,λx hx=>?_,h5⟩
 have all:∀{l:List (List Key×V)} {m:List (List Key×Addr×Value)},KT H l m->∀x∈m,(tupleKind (bE P w)).is h x.1 x.2.1:=by
  intro l m q
  induction q with
  |nil=>intro x hx;exact nomatch hx
  |@cons p q ps qs hq t ih=>
   intro x hx;rcases zzm.mp hx with e|hx
   ·subst e;exact gq ok (by rw [<-hq.1];exact hq.2.1)
   ·exact ih x hx
 exact all r x hx
def yh{aw:List (List Key×V)}(ok:eA P w H h)(e:H a=some (.dT aw)):aw.length<=sizeLine/\(a==sysModules)=false/\
 ∃xs,KT H aw xs/\h.DictOfH (tupleKind (bE P w)) a xs:=jo ok (.inl e)
end
def wH(H:Hp)(a:Addr)(y:V)(r:Option V):Prop:=
 (∃aw k,Rd H a (.dK aw)/\y=kV k/\r=gG aw k)\/∃aw k b,Rd H a (.dT aw)/\y=.ref b/\H b=some (.tup (k.map kV))/\r=gG aw k
def wx(H:Hp)(a:Addr)(y v:V)(H':Hp):Prop:=
 (∃aw k,H a=some (.dK aw)/\y=kV k/\aw.length<sizeLine/\H'=upd H a (.dK (putK aw k v)))\/
 ∃aw k b,H a=some (.dT aw)/\y=.ref b/\H b=some (.tup (k.map kV))/\aw.length<sizeLine/\H'=upd H a (.dT (putK aw k v))
def wx.t{H:Hp}{a b:Addr}{aw:List (List Key×V)}{k:List Key}{v:V}(e:H a=some (.dT aw))(eb:H b=some (.tup (k.map kV)))(hl:aw.length<sizeLine):
 wx H a (.ref b) v (upd H a (.dT (putK aw k v))):=.inr ⟨aw,k,b,e,rfl,eb,hl,rfl⟩
section
variable{X:Cx}{ae:List (Addr×Obj)}{σ:St}{H:Hp}{s:Shared}{a:Addr}{y v:V}{u r:Value}{o:Option V}{A:Around}{E:Value->Shared->Prop}
def Inv.big(I:Inv X ae σ H s):sysModules<(zz9 s):=by
 have h:mainGlobals<(zz9 s):=(I.mod.glob.keeps I.bk).lt
 exact Nat.lt_trans (by decide) h
def w8{Q:Value->Shared->Prop}(hu:A.units+1<cLine)(I:Inv X ae σ H s)(g:wH H a y (some v))(ry:RelV y u)(h:∀w' s',Inv X ae σ H s'->RelV v w'->Q w' s'):
 wpAny (model X.prog X.w) A (getItem (.ref a) u) Q E s:=by
 rcases g with⟨aw,k,e,ey,l⟩|⟨aw,k,b,e,ey,eb,l⟩
 ·subst ey;obtain⟨z,hd,vs,rel,dd⟩:=nK I.aL e
  obtain⟨w',hw,gP⟩:=iI.some_of (v:=v) (o:=valueAt vs k) (by rw [l];exact rel.val k)
  exact wpAny_getItem_of (rC ry) dd.mapOf hw (h w' _ (I.tok _) gP)
 ·subst ey;cases(show u=Value.ref b from ry);obtain⟨z,hd,xs,rel,dd⟩:=jo I.aL e
  obtain⟨w',hw,gP⟩:=iI.some_of (v:=v) (o:=(atKey xs k).map (·.2)) (by rw [l];exact rel.val k)
  obtain⟨p,hp,hp2⟩:=zzJ.mp hw
  refine wpAny_getItem_heap (tupleKind_room_in1 hu) (gq I.aL eb) dd hp ?_;rw [hp2];exact h w' _ (I.tok _) gP
def Co{Q:Value->Shared->Prop}(hu:A.units+1<cLine)(I:Inv X ae σ H s)(g:wH H a y o)(ry:RelV y u)(h:∀s',Inv X ae σ H s'->Q (.bool (!o.isSome)) s'):
 wpAny (model X.prog X.w) A (compareOp .NotIn u (.ref a)) Q E s:=by
 rcases g with⟨aw,k,e,ey,l⟩|⟨aw,k,b,e,ey,eb,l⟩
 ·subst ey;obtain⟨z,hd,vs,rel,dd⟩:=nK I.aL e
  refine wpAny_notIn_of (rC ry) hd dd.mapOf ?_;rw [<-(rel.val k).jl,<-l];exact h _ (I.tok _)
 ·subst ey;cases(show u=Value.ref b from ry);obtain⟨z,hd,xs,rel,dd⟩:=jo I.aL e
  refine wpAny_notIn_heap (tupleKind_room_in1 hu) (gq I.aL eb) hd dd ?_;have q:=(rel.val k).jl
  rw [Option.isSome_map] at q;rw [<-q,<-l];exact h _ (I.tok _)
theorem gY{h':Heap}{t':Nat}{ob:HO}(I:Inv X ae σ H s)(mu:Kd (H a))(hs:Heap.SameBut a s.heap h')(he:∃q,h'.get? a=some q)(new:bJ X.prog X.w (upd H a ob) h' a ob):
 Inv X ae σ (upd H a ob) {s with heap:=h',toks:=t'}:=
 I.write (x:=a) (e:=a) mu (.inl rfl) (λb q hb z=>(hs.2 b hb).trans z) he new
def GN{P:Program}{w:World}{H':Hp}{h':Heap}{aw:List (Key×V)}{vs:List (Key×Value)}(z:aw.length<=sizeLine)(hd:(a==sysModules)=false)(rel:KV aw vs)(dd:h'.DictOf (bE P w) a vs):
 bJ P w H' h' a (.dK aw):=⟨z,hd,vs,rel,dd⟩
def v9{H':Hp}{Q:Unit->Shared->Prop}(hu:A.units+1<cLine)(I:Inv X ae σ H s)(g:wx H a y v H')(ry:RelV y u)(rv:RelV v r)(h:∀s',Inv X ae σ H' s'->Q () s'):
 wpAny (model X.prog X.w) A (setItem (.ref a) u r) Q E s:=by
 rcases g with⟨aw,k,e,ey,l,eH⟩|⟨aw,k,b,e,ey,eb,l,eH⟩
 ·subst ey eH;obtain⟨z,hd,vs,rel,dd⟩:=LG I.aL e
  have hz:vs.length<=sizeLine:=by rw [<-rel.length];exact z
  have hl:(putK aw k v).length<=sizeLine:=by have:=eF aw k v;omega
  refine wpAny_setItem_pairs (hsz:=hz) (rC ry) dd λh' Fv hs=>h _ ?_
  have he:∃q,h'.get? a=some q:=let⟨q,_,_,hq,_⟩:=Fv;⟨q,hq⟩
  exact gY I (by rw [e];exact True.intro) hs he (GN hl hd (rel.put k rv) Fv)
 ·subst ey eH;cases(show u=Value.ref b from ry);obtain⟨z,hd,xs,rel,dd⟩:=yh I.aL e
  have hz:xs.length<=sizeLine:=by rw [<-Paired.length rel];exact z
  have hl:(putK aw k v).length<=sizeLine:=by have:=eF aw k v;omega
  refine wpAny_setItem_heap (hsz:=hz) (tupleKind_room_in1 hu) (gq I.aL eb) dd λh' Fv hs=>h _ ?_
  obtain⟨q,es,ep,hq,h2,h3,h4,_,h5⟩:=Fv
  refine gY I (by rw [e];exact True.intro) hs ⟨q,hq⟩ ⟨hl,hd,_,(rel.put k eb rv).keeps λc ys ec=>?_,q,es,ep,hq,h2,h3,h4,h5⟩
  rw [ag (fy ec e (λz=>nomatch z))];exact ec
end
def Ls(i:Expr):Prop:=∀ov iv,subscripted i false ov iv=operate [ov,iv] (getItem ov iv)
def DX{prog:Program}{w:World}{A:Around}{E:Value->Shared->Prop}{s:Shared}{env:Env}{value slice:Expr}{pos:Pos}{T id:String}{Q:Value->Shared->Prop}
 (hl:typeLookup (.type T) "__getitem__"=pure (some (.builtin id))) (hs:Ls slice)
 (h:wpAny (model prog w) A (eval value env) (λo s₁=>wpAny (model prog w) A (eval slice env) (λi s₂=>s₂.TypeIs o T/\wpAny (model prog w) A (getItem o i) Q E s₂) E s₁) E s):
 wpAny (model prog w) A (eval (.Subscript value slice pos) env) Q E s:=by
 refine Subscript_ (wpAny_mono h (λo s₁ h₁=>wpAny_mono h₁ (λi s₂ h₂=>?_) λ_ _ x=>x) λ_ _ x=>x)
 obtain⟨hT,h₂⟩:=h₂
 unfold subscriptTail;refine zzA ?_;rw [getitemInPython_of_ne hT.not_modules];refine zzA (wpAny_specialOf hT hl ?_);have fin:wpAny (model prog w) A (subscripted slice false o i) (λr s₃=>wpAny (model prog w) A (letTemporaryGo value o r>>=λ_=>pure r) Q E s₃) E s₂:=by
  rw [hs o i];exact wpAny_operating (wpAny_mono h₂ (λr s₃ h₃=>zzA (wpAny_letTemporaryGo (zzG h₃))) λ_ _ x=>x)
 first
  |exact zzG (zzA fin)
  |exact zzA (zzG (zzA fin))
  |exact zzA fin
def qM{X:Cx}{ae:List (Addr×Obj)}{σ:St}{H:Hp}{s:Shared}{a:Addr}{y:V}{o:Option V}(I:Inv X ae σ H s)(g:wH H a y o):s.TypeIs (.ref a) "dict":=by
 rcases g with⟨aw,k,e,_,_⟩|⟨aw,k,b,e,_,_,_⟩
 ·obtain⟨_,_,vs,_,dd⟩:=nK I.aL e
  exact dd.typeIs
 ·obtain⟨_,_,xs,_,dd⟩:=jo I.aL e
  exact dd.typeIs
def Fc(td ty:TE):TE:=λσ H Q=>td σ H λx H1=>ty σ H1 λy H2=>∃a v,x=.ref a/\wH H2 a y (some v)/\Q v H2
section
variable{X:Cx}{o i:Expr}{pos:Pos}{td ty:TE}
def BS(hu:X.A.units+1<cLine)(ho:PE X o td)(hi:PE X i ty)(hs:Ls i):PE X (.Subscript o i pos) (Fc td ty):=by
 intro ae s σ H Q I h;refine DX PySem.F.slot_dict_getitem.lookup hs (bI (ho ae s σ H _ I h) λu s1 ⟨x,H1,I1,rx,q1⟩=>bI (hi ae s1 σ H1 _ I1 q1) λiv s2 ⟨y,H2,I2,ry,a,v,ex,g,q2⟩=>?_)
 subst ex;obtain rfl:u=Value.ref a:=rx
 exact⟨qM I2 g,w8 hu I2 g ry λw' s3 I3 gP=>⟨v,H2,I3,gP,q2⟩⟩
end
theorem kH{P:Program}{w:World}{H:Hp}(h:Heap)(hb:sysModules<h.objs.size):bJ P w H (h.push {cls:=.type "dict",data:=.dict #[]}) h.objs.size (.dT []):=
 ⟨Nat.zero_le _,beq_eq_false_iff_ne.mpr (Ne.symm (zzb hb)),[],.nil,_,#[],0,zzX _ rfl,⟨rfl,rfl,rfl⟩,rfl,rfl,List.nodup_nil⟩
def IS:TE:=λ_ H Q=>∀p,H p=none->Q (.ref p) (upd H p (.dT []))
section
variable{X:Cx}{pos:Pos}
theorem zQ:PE X (.Dict [] [] pos) IS:=λae s σ H Q I h=>
 wpAny_Dict_empty ⟨.ref (zz9 s),_,I.laid (a:=(zz9 s)) (o:=.dT []) (t':=s.toks) (λ_ _ q=>zzB _ q) (zzE _) (kH s.heap I.big),rfl,h _ (I.aL.fresh (zzE _))⟩
end
structure M1(X:Cx)(o:Expr)(m:Str)(apos:Pos)(e:Expr)(bG:Pos):Prop where
 base:attributeBase o m X.env (eval o X.env)=eval o X.env
 OH:((backTo bG (starEach [e] X.env)).all (λx=>!x.1)&&(backToKw bG (keywordEach [] X.env)).all (λx=>x.1.isSome)
  &&decide (([e]:List Expr).length+([]:List Keyword).length+(if([]:List Keyword).isEmpty then 0 else 1)<30))=true
 line:(apos.endLine==bG.line)=true
 trees:backTo bG (starEach [e] X.env)=[(false,eval e X.env)]
structure M2(X:Cx)(o:Expr)(m:Str)(apos:Pos)(e f:Expr)(bG:Pos):Prop where
 base:attributeBase o m X.env (eval o X.env)=eval o X.env
 OH:((backTo bG (starEach [e,f] X.env)).all (λx=>!x.1)&&(backToKw bG (keywordEach [] X.env)).all (λx=>x.1.isSome)
  &&decide (([e,f]:List Expr).length+([]:List Keyword).length+(if([]:List Keyword).isEmpty then 0 else 1)<30))=true
 line:(apos.endLine==bG.line)=true
 trees:backTo bG (starEach [e,f] X.env)=[(false,eval e X.env),(false,eval f X.env)]
def yI(H:Hp)(a:Addr):Prop:=(∃aw,Rd H a (.dK aw))\/∃aw,Rd H a (.dT aw)
def xX{X:Cx}{ae:List (Addr×Obj)}{σ:St}{H:Hp}{s:Shared}{a:Addr}(I:Inv X ae σ H s)(d:yI H a):
 s.TypeIs (.ref a) "dict"/\(∀b,Value.ref a=.ref b->∃ob,s.heap.get? b=some ob/\ob.dict=none)/\(a==sysModules)=false:=by
 rcases d with⟨aw,e⟩|⟨aw,e⟩
 ·obtain⟨_,hd,vs,_,dd⟩:=nK I.aL e
  refine⟨dd.typeIs,λb q=>?_,hd⟩
  cases q;obtain⟨ob,_,_,h1,h2,_⟩:=dd
  exact⟨ob,h1,h2.2.1⟩
 ·obtain⟨_,hd,xs,_,dd⟩:=jo I.aL e
  refine⟨dd.typeIs,λb q=>?_,hd⟩
  cases q;obtain⟨ob,_,_,h1,h2,_⟩:=dd
  exact⟨ob,h1,h2.2.1⟩
section
variable{X:Cx}{ae:List (Addr×Obj)}{σ:St}{H:Hp}{s:Shared}{a:Addr}{y:V}{u:Value}{o:Option V}{A:Around}{E:Value->Shared->Prop}
def JA{Q:Value->Shared->Prop}(hu:A.units+1<cLine)(I:Inv X ae σ H s)(g:wH H a y o)(ry:RelV y u)(h:∀w' s',Inv X ae σ H s'->RelV (o.getD .aC) w'->Q w' s'):
 wpAny (model X.prog X.w) A (call (.builtin "dict.get") [.ref a,u]) Q E s:=by
 rcases g with⟨aw,k,e,ey,l⟩|⟨aw,k,b,e,ey,eb,l⟩
 ·subst ey;obtain⟨z,hd,vs,rel,dd⟩:=nK I.aL e
  refine call_meetsIn PySem.F.slot_dict_get dd.typeIs PySem.F.entry_dict_get (PySem.F.args_dict_get_2 _ _) (meets_dict_get (bE X.prog X.w) a (rC ry) hd) ⟨_,dd.mapOf,h _ _ (I.tok _) ?_⟩;rw [l];exact(rel.val k).getD rfl
 ·subst ey;cases(show u=Value.ref b from ry);obtain⟨z,hd,xs,rel,dd⟩:=jo I.aL e
  refine call_meetsIn PySem.F.slot_dict_get dd.typeIs PySem.F.entry_dict_get (PySem.F.args_dict_get_2 _ _) (meetsH_dict_get (tupleKind (bE X.prog X.w)) a b hd) ⟨tupleKind_room_in1 hu,k,xs,gq I.aL eb,dd,h _ _ (I.tok _) ?_⟩;rw [l];exact(rel.val k).getD rfl
end
def FX(td ty:TE):TE:=λσ H Q=>td σ H λx H1=>∃a,x=.ref a/\yI H1 a/\ty σ H1 λy H2=>∃o,wH H2 a y o/\Q (o.getD .aC) H2
section
variable{X:Cx}{o e:Expr}{apos bG:Pos}{td ty:TE}
def As(hu:X.A.units+1<cLine)(ho:PE X o td)(he:PE X e ty)(m:M1 X o "get" apos e bG):PE X (.Call (.Attribute o "get" apos) [e] [] bG) (FX td ty):=by
 intro ae s σ H Q I h;refine wpAny_Call_method m.base m.OH m.line PySem.F.plainAttrs_dict PySem.F.slot_dict_get PySem.F.type_dict_get (bI (ho ae s σ H _ I h) λu s1 ⟨x,H1,I1,rx,a,ex,d,q1⟩=>?_)
 subst ex;obtain rfl:u=Value.ref a:=rx
 obtain⟨t1,t2,_⟩:=xX I1 d
 refine⟨t1,t2,?_⟩;rw [m.trees];refine Calls.callWith_builtin rfl (Calls.evalArgs_plain (Calls.spliced_cons (bI (he ae s1 σ H1 _ I1 q1) λiv s2 ⟨y,H2,I2,ry,ov,g,q2⟩=>Calls.spliced_nil ?_)))
 exact JA hu I2 g ry λw' s3 I3 gP=>⟨_,H2,I3,gP,q2⟩
end
end L2
namespace Att
open PySem PySem.W PySem.Calls PyProof.Rows
section
end
end Att
namespace L2
open PySem PySem.Spec PyProof.Rows
section
variable{κ:Type} [DecidableEq κ]
def wg{p:κ×V}{r:List (κ×V)}{k:κ}(e:p.1=k):fT (p::r) k=fT r k:=by
 unfold fT;rw [zz3,if_neg (by simp [e])]
def xC{p:κ×V}{r:List (κ×V)}{k:κ}(e:¬p.1=k):fT (p::r) k=p::fT r k:=by
 unfold fT;rw [zz3,if_pos (by simp [e])]
end
section
variable{prog:Program}{w:World}{κ:Type} [DecidableEq κ]{knd:HeapKind prog w κ}{A:Around}{E:Value->Shared->Prop}{s:Shared}{d a:Addr}{xs:List (κ×Addr×Value)}{k:κ}
theorem oM(d:Addr)(lo:(d==sysModules)=false):MeetsIn prog w (Builtin.«dict.__len__» ⟨[.ref d],[]⟩) (λ_ R s=>∃xs,s.heap.DictOfH knd d xs/\R (.ok (.ret (.int xs.length s.toks))) {s with toks:=s.toks+1}):=
 .of_wp λA R s ⟨xs,⟨o,es,ep,h1,_,h2,h3,_⟩,h⟩=>by
  show wpAny _ _ (dictSize d>>=λn=>_) _ _ s
  unfold dictSize;refine zzA (zzA (wpAny_dictEntries h1 h2 (zzG (zzA (wpAny_pendingCount_other lo (wpAny_ret_mkInt ?_))))));rw [Nat.add_zero,size_of_entries h3];exact h
def Jk{Q:Value->Shared->Prop}(lo:(d==sysModules)=false)(hm:s.heap.DictOfH knd d xs)(hf:(xs.length:Int)<2^63)(h:Q (.int xs.length (s.toks+1)) {s with toks:=s.toks+1+1}):wpAny (model prog w) A (call (.builtin "len") [.ref d]) Q E s:=by
 refine Calls.call_function_entry kind_len plain_len entry_len (args_len1 _) ?_;unfold Builtin.«len»;refine zzA (m:=oneArg "len" _) (zzG (zzA (m:=callSpecial? (.ref d) (Str.ofString "__len__")) (wpAny_callSpecial?_slot (name:=Str.ofString "__len__") hm.typeIs F.slot_dict_len
  (call_meetsIn F.slot_dict_len hm.typeIs F.entry_dict_len (F.args_dict_len_1 _) (oM (knd:=knd) d lo) ⟨xs,hm,?_⟩))))
 show wpAny _ _ (holding _ _>>=λz=>_) _ _ {s with toks:=s.toks+1}
 refine zzA (wpAny_holding (zzG (zzA (wpAny_letGo ?_))));show wpAny _ _ (if((xs.length:Nat):Int)<0 then _ else(if((xs.length:Nat):Int)>=2^63 then _ else _)) _ _ _;rw [if_neg (by omega),if_neg (by omega)];exact zzA (wpAny_mkInt (zzG ⟨_,rfl,h⟩))
def x5{l:List (κ×Addr×Value)}:∀{j:Nat} {p:Addr×Value},(l.map (·.1)).Nodup->l[j]?=some (k,p)->l.eraseIdx j=l.filter λx=>decide (x.1≠k):=by
 induction l with
 |nil=>intro j p _ h;simp at h
 |cons x r ih=>
  intro j p nd h;rw [zzF,List.nodup_cons] at nd;cases j with
  |zero=>
   simp! [List.getElem?_cons_zero,Option.some.injEq] at h;subst h;simp! [List.eraseIdx_cons_zero,ne_eq,zz3,not_true,decide_false,zze,if_false];refine(List.filter_eq_self.mpr λy hy=>?_).symm;exact zzh λe=>nd.1 (e▸List.mem_map_of_mem (f:=(·.1)) hy)
  |succ j=>
   simp! [List.getElem?_cons_succ] at h;have g9:¬x.1=k:=λe=>nd.1 (e▸zzx.mpr ⟨(k,p),zzD h,rfl⟩)
   rw [List.eraseIdx_cons_succ,zz3,if_pos (by simpa using g9),ih nd.2 h]
theorem nZ{α β:Type}(f:α->β):∀(l:List α) (j:Nat),(l.eraseIdx j).map f=(l.map f).eraseIdx j
 |[],_=>by simp
 |x::r,0=>by simp
 |x::r,j+1=>by simp [nZ f r j]
def uv{p:Addr×Value}{Q:Option DictEntry->Shared->Prop}(hu:knd.room A)(hk:knd.is s.heap k a)(hm:s.heap.DictOfH knd d xs)(hp:atKey xs k=some p)(hz:xs.length<=sizeLine)
 (hQ:∀h' e,e.val=p.2->h'.DictOfH knd d (xs.filter λx=>decide (x.1≠k))->Heap.SameBut d s.heap h'->Q (some e) {s with heap:=h',toks:=s.toks+knd.draws k}):wpAny (model prog w) A (Builtin.Dict.takeOut d (.ref a)) Q E s:=by
 obtain⟨o,es,ep,h1,hc,h2,h3,his,nd⟩:=hm
 unfold Builtin.Dict.takeOut
 try with_reducible refine wpAny_holding ?_
 refine zzA (knd.pyHash hu hk (zzA (wpAny_dictFind_heap (s:={s with toks:=s.toks+knd.draws k}) hu hk h1 h2 h3 his nd (λno=>?_) λj q hj=>?_)))
 ·rw [atKey_none_of_get no] at hp;cases hp
 ·rw [atKey_of_get nd hj] at hp;cases hp;refine zzA (wpAny_dictEntries (s:={s with toks:=s.toks+knd.draws k}) h1 h2 ?_);rw [entry_at h3 j,hj];refine zzA (wpAny_updateDictKeys (hz:=by have e:=size_of_entries h3;omega) (s:={s with toks:=s.toks+knd.draws k}) h1 h2 (zzG (hQ _ _ rfl ⟨_,_,ep+1,Heap.get?_update_self _ h1 (Obj.isFreed_of_dict (Obj.data_mapDictKeys h2 _)),
   hc.mapDictKeys _,Obj.data_mapDictKeys h2 _,?_,λx hx=>knd.keeps (his x (List.mem_filter.mp hx).1) h1 h2 (zzu ..),nd.sublist (List.filter_sublist.map _)⟩ (zzu ..))))
  rw [<-x5 nd hj,nZ,<-h3];obtain⟨l⟩:=es
  simp [Array.eraseIdxIfInBounds];split
  ·simp
  ·rename_i hh;rw [List.eraseIdx_of_length_le (by simpa using hh)]
def oz(d a:Addr):MeetsIn prog w (Builtin.«dict.pop» ⟨[.ref d,.ref a],[]⟩) (λA R s=>knd.room A.in1/\∃k xs p,knd.is s.heap k a/\s.heap.DictOfH knd d xs/\xs.length<=sizeLine/\atKey xs k=some p/\
 ∀h',h'.DictOfH knd d (xs.filter λx=>decide (x.1≠k))->Heap.SameBut d s.heap h'->R (.ok (.ret p.2)) {s with heap:=h',toks:=s.toks+knd.draws k}):=
 .of_wp λA R s ⟨hu,k,xs,p,hk,hm,hz,hp,h⟩=>by
  obtain⟨o,es,ep,h1,_,h2,h3,_⟩:=id hm
  have ne:es.isEmpty=false:=by
   cases xs with
   |nil=>cases hp
   |cons x r=>
    have:=size_of_entries h3
    rw [zzL] at this;rw [Array.isEmpty_eq_false_iff_exists_mem];exact⟨es[0]'(by omega),Array.getElem_mem _⟩
  unfold Builtin.«dict.pop»;refine zzA ?_;unfold Builtin.Dict.keyAndDefault;refine zzA (wpAny_notOrdered_dict hm.typeIs ?_);show wpAny _ _ (pure (d,Value.ref a,Option.none)) _ _ s;refine zzG ?_;have kp:(keyPart (Value.ref a)).isSome=false:=rfl
  simp! [kp,zze,if_false];refine zzA (wpAny_dictEntries h1 h2 (zzA (zzG ?_)));rw [ne];simp! [zze,if_false];refine zzA (uv hu hk hm hp hz λh' e ev qf hs=>?_);simp! [Option.isNone_some,zze,if_false];exact zzA (wpAny_letGo (zzG ⟨e.val,rfl,by rw [ev];exact h h' qf hs⟩))
def pB{o:Obj}{es:Array DictEntry}{ep:Nat}{Q:Value->Shared->Prop}(lo:(d==sysModules)=false)(h1:s.heap.get? d=some o)(hc:o.ExactDict)(h2:o.data=.dict es ep)
 (hQ:Q (.ref (zz9 s)) {s with heap:=s.heap.push {cls:=.type "dict_keyiterator",data:=.fields #[.ref d,.int 0 0,.int es.size 0,.int ep 0]}}):wpAny (model prog w) A (pyIter (.ref d)) Q E s:=by
 have T:s.TypeIs (.ref d) "dict":=⟨o,h1,hc.1⟩
 refine wpAny_pyIter_slot T F.slot_dict_iter (wpAny_call_entry F.slot_dict_iter T F.entry_dict_iter ?_ (F.args_dict_iter_1 _));unfold Builtin.«dict.__iter__» Builtin.Dict.dictSlotNone;refine zzA (zzA (wpAny_notOrdered_dict T ?_));show wpAny _ _ (pure (Value.ref d):Sem Value) _ _ s;refine zzG ?_;show wpAny _ _ (Builtin.Dict.showsAll d>>=λ_=>_) _ _ s;unfold Builtin.Dict.showsAll;rw [if_neg (by rw [lo];exact zzf)];refine zzA (zzG (zzA (wpAny_dictEntries h1 h2 (zzA (wpAny_dictEpoch h1 h2 ?_)))));refine zzA (wpAny_newObj_type (zzG ⟨_,rfl,"dict_keyiterator",_,⟨_,zzX _ rfl,rfl⟩,F.slot_dict_keyiterator_next.lookup,?_⟩))
 simpa [rawInt] using hQ
def j5{it:Addr}{i ep:Nat}{o:Obj}{es:Array DictEntry}{Q:Option Value->Shared->Prop}(st:s.heap.IsKeyIter it d i es.size ep)(h1:s.heap.get? d=some o)(h2:o.data=.dict es ep)(hi:i<es.size)
 (hQ:∀h',h'.IsKeyIter it d (i+1) es.size ep->Heap.SameBut it s.heap h'->Q (some es[i].key) {s with heap:=h'}):wpAny (model prog w) A (pyNext (.ref it)) Q E s:=by
 obtain⟨oi,g1,g2,g3⟩:=id st
 have own:Builtin.Dict_items.ownsTuple "dict_keyiterator"=false:=by decide
 unfold pyNext;refine zzA (wpAny_attempt (wpAny_callSpecial?_slot (name:=Str.ofString "__next__") st.typeIs F.slot_dict_keyiterator_next (wpAny_call_entry F.slot_dict_keyiterator_next st.typeIs F.entry_dict_keyiterator_next ?_ (F.args_dict_keyiterator_next_1 _))));refine zzA (zzG (zzA (zzA ?_)))
 first|refine zzA (wpAny_typeNameOfWhole_keyiter st.typeIs (zzG (zzA (wpAny_fieldsOf g1 g3 ?_))))|refine zzA (wpAny_typeNameOf_keyiter st.typeIs (zzG (zzA (wpAny_fieldsOf g1 g3 ?_))))
 simp! [own,zze,if_false];show wpAny _ _ (if(Value.ref d==Value.none)=true then _ else _:Sem _) _ _ s;rw [if_neg (show¬((Value.ref d==Value.none)=true) from zzf)];refine zzA (zzG (zzA (wpAny_dictEntries h1 h2 ?_)));rw [if_neg (by simp)];refine zzA (zzG (zzA (wpAny_dictEpoch h1 h2 ?_)));rw [if_neg (by simp)];refine zzG ?_;simp! [show¬((i:Int)<0) from by omega,if_false,zz4,zz2 hi];refine zzA ?_
 first|refine zzA (wpAny_typeNameOfWhole_keyiter st.typeIs (zzG (zzA (wpAny_isOneOf_keyiter st.typeIs ?_))))|refine zzA (wpAny_typeNameOf_keyiter st.typeIs (zzG (zzA (wpAny_isOneOf_keyiter st.typeIs ?_))))
 show wpAny _ _ (setField (.ref it) 1 (rawInt ((i:Int)+1))>>=λ_=>_) _ _ s
 have kl:(s.heap.update it (Obj.mapFields (·.setIfInBounds 1 (rawInt ((i:Int)+1))))).IsKeyIter it d (i+1) es.size ep:=
  ⟨_,Heap.get?_update_self _ g1 (Obj.isFreed_of_fields (Obj.data_mapFields g3 _)),(Obj.cls_mapFields ..).trans g2,by rw [Obj.data_mapFields g3];simp [rawInt]⟩
 refine zzA (wpAny_setField g1 g3 (by simp) (zzA (wpAny_holding (zzA (wpAny_isOneOf_keyiter (s:={s with heap:=s.heap.update it (Obj.mapFields (·.setIfInBounds 1 (rawInt ((i:Int)+1))))}) kl.typeIs ?_)))));show wpAny _ _ (pure es[i].key:Sem Value) _ _ _;exact zzG (zzG ⟨_,rfl,zzG (hQ _ kl (zzu ..))⟩)
def tx{it:Addr}{i ep:Nat}{o:Obj}{es:Array DictEntry}{Q:Option Value->Shared->Prop}(hh:A.handled=none)(st:s.heap.IsKeyIter it d i es.size ep)(h1:s.heap.get? d=some o)(h2:o.data=.dict es ep)(hi:es.size<=i)
 (hQ:∀h',Heap.ExtBut it s.heap h'->Q none {s with heap:=h'}):wpAny (model prog w) A (pyNext (.ref it)) Q E s:=by
 obtain⟨oi,g1,g2,g3⟩:=id st
 have own:Builtin.Dict_items.ownsTuple "dict_keyiterator"=false:=by decide
 unfold pyNext;refine zzA (wpAny_attempt (wpAny_callSpecial?_slot (name:=Str.ofString "__next__") st.typeIs F.slot_dict_keyiterator_next (wpAny_call_entry F.slot_dict_keyiterator_next st.typeIs F.entry_dict_keyiterator_next ?_ (F.args_dict_keyiterator_next_1 _))));refine zzA (zzG (zzA (zzA ?_)))
 first|refine zzA (wpAny_typeNameOfWhole_keyiter st.typeIs (zzG (zzA (wpAny_fieldsOf g1 g3 ?_))))|refine zzA (wpAny_typeNameOf_keyiter st.typeIs (zzG (zzA (wpAny_fieldsOf g1 g3 ?_))))
 simp! [own,zze,if_false];show wpAny _ _ (if(Value.ref d==Value.none)=true then _ else _:Sem _) _ _ s;rw [if_neg (show¬((Value.ref d==Value.none)=true) from zzf)];refine zzA (zzG (zzA (wpAny_dictEntries h1 h2 ?_)));rw [if_neg (by simp)];refine zzA (zzG (zzA (wpAny_dictEpoch h1 h2 ?_)));rw [if_neg (by simp)];refine zzG ?_;simp! [show¬((i:Int)<0) from by omega,if_false,zz4,Array.getElem?_eq_none hi];refine zzA ?_
 first|refine zzA (wpAny_typeNameOfWhole_keyiter st.typeIs (zzG ?_))|refine zzA (wpAny_typeNameOf_keyiter st.typeIs (zzG ?_))
 show wpAny _ _ (setField (.ref it) 0 .none>>=λ_=>_) _ _ s
 refine zzA (wpAny_setField g1 g3 (by simp) ?_);show wpAny _ _ (newExc (.type "StopIteration") []>>=λ_=>_) _ _ _
 refine zzA ?_;simp! [newExc,newTuple];refine zzA (wpAny_newObj_type (zzA (m:=firstArgMember _ _) (wpAny_of_eq (a:=Value.none) (by first|rfl|(simp! [firstArgMember];rfl)) (wpAny_newObj_type ?_ (by size_fits)))) (by size_fits));simp! [raiseNew];refine zzA (wpAny_handled ?_);rw [show A.in1.handled=none from hh];refine zzA (zzG (wpAny_throw ?_));refine zzA (wpAny_isInstance (T:="StopIteration") (b:=true) ⟨_,zzX _ rfl,rfl⟩ isSubtype_stop ?_);exact zzG (hQ _ (((zzu ..).extBut.push _).push _))
end
def KT.drop{H:Hp}{aw:List (List Key×V)}{xs:List (List Key×Addr×Value)}(r:KT H aw xs)(k:List Key):KT H (fT aw k) (xs.filter λx=>decide (x.1≠k)):=by
 unfold fT
 induction r with
 |nil=>exact .nil
 |@cons p q ps qs h t ih=>
  rw [zz3,zz3,<-h.1];split
  ·exact .cons h ih
  ·exact ih
def KT.len{H:Hp}{aw:List (List Key×V)}{xs:List (List Key×Addr×Value)}(r:KT H aw xs):aw.length=xs.length:=Paired.length r
section
variable{X:Cx}{ae:List (Addr×Obj)}{σ:St}{H:Hp}{s:Shared}{a b:Addr}{aw:List (List Key×V)}{k:List Key}{A:Around}{E:Value->Shared->Prop}
def IX{Q:Value->Shared->Prop}(I:Inv X ae σ H s)(e:Rd H a (.dT aw))(h:∀t s',Inv X ae σ H s'->Q (.int aw.length t) s'):wpAny (model X.prog X.w) A (call (.builtin "len") [.ref a]) Q E s:=by
 obtain⟨z,lo,xs,rel,dd⟩:=jo I.aL e
 refine Jk lo dd (by rw [<-rel.len];rw [sizeLine_eq] at z;omega) ?_;rw [<-rel.len];exact h _ _ (I.tok _)
def II{v:V}{Q:Value->Shared->Prop}(hu:A.units+1<cLine)(I:Inv X ae σ H s)(e:H a=some (.dT aw))(eb:H b=some (.tup (k.map kV)))(l:gG aw k=some v)
 (h:∀w' s',Inv X ae σ (upd H a (.dT (fT aw k))) s'->RelV v w'->Q w' s'):wpAny (model X.prog X.w) A (call (.builtin "dict.pop") [.ref a,.ref b]) Q E s:=by
 obtain⟨z,lo,xs,rel,dd⟩:=yh I.aL e
 obtain⟨w',hw,gP⟩:=iI.some_of (v:=v) (o:=(atKey xs k).map (·.2)) (by rw [<-l];exact rel.val k)
 obtain⟨p,hp,hp2⟩:=zzJ.mp hw
 refine call_meetsIn PySem.F.slot_dict_pop dd.typeIs PySem.F.entry_dict_pop (PySem.F.args_dict_pop_2 _ _) (oz (knd:=tupleKind (bE X.prog X.w)) a b) ⟨tupleKind_room_in1 hu,k,xs,p,gq I.aL eb,dd,by rw [<-rel.len];exact z,hp,λh' Fv hs=>?_⟩
 rw [hp2];obtain⟨q,es,ep,hq,h2,h3,h4,_,h5⟩:=Fv
 refine h w' _ (gY I (by rw [e];exact True.intro) hs ⟨q,hq⟩ ⟨zzU (Az aw k) z,lo,_,(rel.drop k).keeps λc ys ec=>?_,q,es,ep,hq,h2,h3,h4,h5⟩) gP
 rw [ag (fy ec e (λz=>nomatch z))];exact ec
def Inv.freeze(I:Inv X ae σ H s)(e:H a=some (.dT aw)):∃o,Inv X ae σ (upd H a (.bp o (.dT aw))) s:=by
 obtain⟨z,lo,xs,rel,o,es,ep,h1,h2,h3,h4,h5⟩:=(show bJ X.prog X.w H s.heap a (.dT aw) from I.aL a _ e)
 refine⟨o,gY (h':=s.heap) (t':=s.toks) I (by rw [e];exact True.intro) ⟨rfl,λ_ _=>rfl⟩ ⟨o,h1⟩ ⟨h1,z,lo,xs,?_,o,es,ep,h1,h2,h3,h4,h5⟩⟩
 exact KT.keeps (H:=H) rel λc ys ec=>by rw [ag (fy ec e (λz=>nomatch z))];exact ec
end
noncomputable def Oz(a:Addr)(o:Obj)(aw:List (List Key×V)):It:=
 ⟨λi H=>H a=some (.bp o (.dT aw))/\i<aw.length,λi H x H'=>H'=H/\∃b k v,x=.ref b/\aw[i]?=some (k,v)/\H b=some (.tup (k.map kV)),λi H=>H a=some (.bp o (.dT aw))/\aw.length<=i⟩
def uq{α β:Type}{R:α->β->Prop}{l:List α}{m:List β}(r:Paired R l m):∀{i:Nat} {p:α} {q:β},l[i]?=some p->m[i]?=some q->R p q:=by
 induction r with
 |nil=>intro i p q h;simp at h
 |cons h t ih=>
  intro i p q h1 h2;cases i with
  |zero=>simp at h1 h2;subst h1 h2;exact h
  |succ i=>simp at h1 h2;exact ih h1 h2
def yx{P:Program}{w:World}{H:Hp}{h:Heap}{a:Addr}{aw:List (List Key×V)}(x:bJ P w H h a (.dT aw)):(a==sysModules)=false/\(aw.map (·.1)).Nodup/\∃o es ep,h.get? a=some o/\o.ExactDict/\o.data=.dict es ep/\es.size=aw.length/\∀(i:Nat) (hi:i<es.size),∃b k v,es[i].key=.ref b/\aw[i]?=some (k,v)/\H b=some (.tup (k.map kV))/\RelV v es[i].val:=by
 obtain⟨z,lo,xs,rel,o,es,ep,h1,h2,h3,h4,h5⟩:=x
 have hl:es.size=xs.length:=size_of_entries h4
 have hx:aw.length=xs.length:=Paired.length rel
 have ks:aw.map (·.1)=xs.map (·.1):=by
  clear hl hx h4 h5 z
  induction rel with
  |nil=>rfl
  |cons h t ih=>rw [zzF,zzF,h.1,ih]
 refine⟨lo,ks▸h5,o,es,ep,h1,h2,h3,hl.trans hx.symm,λi hi=>?_⟩
 have e1:es[i]?=(xs[i]?).map (entryOfKey (tupleKind (bE P w))):=entry_at h4 i
 rw [zzg (show i<xs.length by omega),zz2 hi] at e1;have q:=uq rel (zzg (show i<aw.length by omega)) (zzg (show i<xs.length by omega))
 rw [zzq e1];exact⟨_,_,_,rfl,zzg (show i<aw.length by omega),q.2.1,q.2.2⟩
def kS{X:Cx}{ae:List (Addr×Obj)}{σ:St}{H:Hp}{s:Shared}{a:Addr}{o:Obj}{aw:List (List Key×V)}(I:Inv X ae σ H s)(e:H a=some (.bp o (.dT aw))):
 (a==sysModules)=false/\s.heap.get? a=some o/\o.ExactDict/\∃es ep,o.data=.dict es ep/\es.size=aw.length/\∀(i:Nat) (h:i<es.size),∃b k v,es[i].key=.ref b/\aw[i]?=some (k,v)/\H b=some (.tup (k.map kV)):=by
 obtain⟨h0,ok⟩:=(show bJ X.prog X.w H s.heap a (.bp o (.dT aw)) from I.aL a _ e)
 obtain⟨lo,_,o',es,ep,h1,h2,h3,hl,hk⟩:=yx ok
 rw [h0] at h1;cases h1;exact⟨lo,h0,h2,es,ep,h3,hl,λi hi=>let⟨b,k,v,e1,e2,e3,_⟩:=hk i hi;⟨b,k,v,e1,e2,e3⟩⟩
def wJ{P:Program}{w:World}{K:zz8}{tg:Expr}{a it:Addr}{o:Obj}{es:Array DictEntry}{ep:Nat}{aw:List (List Key×V)}(hd:o.data=.dict es ep)(hl:es.size=aw.length):
 Turn P w K tg (Oz a o aw) [it] it (λi h=>h.IsKeyIter it a i es.size ep) where
 mem:=by simp
 obj:=λi h st b hb=>by
  have e:b=it:=by simpa using hb
  subst e;obtain⟨q,e,c,d⟩:=st
  exact⟨q,e,λv z=>by rw [d] at z;cases z⟩
 keep:=λi h h' st k=>st.at λo e=>k it (by simp) o e
 item:=by
  intro X hP hw hK hc i ae s σ H E I hf st hg;subst hP hw hK;obtain⟨g1,g2⟩:=hg
  obtain⟨lo,h0,hx,es',ep',h3,uw,uL⟩:=kS I g1
  rw [hd] at h3;cases h3;obtain⟨f0,f1,f2,f3,f4,f5⟩:=hf it (by simp)
  have hi:i<es.size:=by omega
  refine j5 st h0 hd hi λh' kl sb=>?_
  obtain⟨b,k,v,e1,e2,e3⟩:=uL i hi
  have I1:Inv X ae σ H {s with heap:=h'}:=I.turned (t':=s.toks) (λb o hb e=>(sb.2 b hb).trans e) f0 f1 f3 f4 f5
  obtain⟨q,e,c,d⟩:=id kl
  refine⟨_,rfl,vE (s:={s with heap:=h'}) e c d (by decide) ⟨.ref b,H,I1,?_,⟨rfl,b,k,v,rfl,e2,e3⟩,kl,λb hb=>(hf b hb).1⟩⟩
  rw [e1];exact rfl
 done:=by
  intro X hP hw hK hc i ae s σ H E I hf st hg;subst hP hw hK;obtain⟨g1,g2⟩:=hg
  obtain⟨lo,h0,hx,es',ep',h3,uw,uL⟩:=kS I g1
  rw [hd] at h3;cases h3;obtain⟨f0,f1,f2,f3,f4,f5⟩:=hf it (by simp)
  exact tx (I.ok.hd hc) st h0 hd (by omega) λh' eb=>⟨rfl,I.turned (t':=s.toks) (λb o hb e=>eb b o hb e) f0 f1 f3 f4 f5⟩
 self:=λ_ _ _ _ _ st h=>wpAny_pyIter_keyiter st h
noncomputable def NV(tl:TE):TI:=λσ H R=>tl σ H λx H1=>∃a o aw,x=.ref a/\H1 a=some (.bp o (.dT aw))/\R (Oz a o aw) H1
section
variable{X:Cx}{o e:Expr}{apos bG:Pos}{td ty:TE}
def Jb{tg l:Expr}{tl:TE}(hl:PE X l tl):PI X tg l (NV tl):=by
 intro ae s σ H R I h;refine bI (hl ae s σ H _ I h) λv s1 ⟨x,H1,I1,r1,q1⟩=>?_
 obtain⟨a,o,aw,e,hq,q⟩:=q1
 subst e;cases r1;obtain⟨lo,h0,hx,es,ep,h3,uw,uL⟩:=kS I1 hq
 refine pB lo h0 hx h3 ?_;refine⟨(zz9 s1),[(zz9 s1)],_,_,H1,rfl,I1.kept (t':=s1.toks) λb o e=>zzB _ e,wJ h3 uw,⟨_,zzX _ rfl,rfl,rfl⟩,λb hb=>?_,q⟩
 have e:b=(zz9 s1):=by simpa using hb
 subst e;exact I1.lA (zzE _) (I1.aL.fresh (zzE _))
noncomputable def KN(td ty:TE):TE:=λσ H Q=>td σ H λx H1=>∃a,x=.ref a/\yI H1 a/\ty σ H1 λy H2=>∃aw k b v,H2 a=some (.dT aw)/\y=.ref b/\H2 b=some (.tup (k.map kV))/\gG aw k=some v/\Q v (upd H2 a (.dT (fT aw k)))
def Ce(hu:X.A.units+1<cLine)(ho:PE X o td)(he:PE X e ty)(m:M1 X o "pop" apos e bG):PE X (.Call (.Attribute o "pop" apos) [e] [] bG) (KN td ty):=by
 intro ae s σ H Q I h;refine wpAny_Call_method m.base m.OH m.line PySem.F.plainAttrs_dict PySem.F.slot_dict_pop PySem.F.type_dict_pop (bI (ho ae s σ H _ I h) λu s1 ⟨x,H1,I1,rx,a,ex,d,q1⟩=>?_)
 subst ex;obtain rfl:u=Value.ref a:=rx
 obtain⟨t1,t2,_⟩:=xX I1 d
 refine⟨t1,t2,?_⟩;rw [m.trees];refine Calls.callWith_builtin rfl (Calls.evalArgs_plain (Calls.spliced_cons (bI (he ae s1 σ H1 _ I1 q1) λiv s2 ⟨y,H2,I2,ry,aw,k,b,v,ea,ey,eb,l,q2⟩=>Calls.spliced_nil ?_)))
 subst ey;cases(show iv=Value.ref b from ry);exact II hu I2 ea eb l λw' s3 I3 gP=>⟨v,_,I3,gP,q2⟩
end
end L2
namespace L2
open PySem PySem.Spec PyProof.Rows PySem.W
section
variable{n:Nat}(h0:0<n)
include h0
end
end L2
namespace L2
open PySem PySem.Spec PyProof.Rows
def xn:typeLookup (.type "list") "keys"=pure none:=by rw [typeLookup_type,builtinLookup_eq_fast];kernel_rfl
def q9:entryFor table "dict.update.loop"=some Builtin.«dict.update.loop»:=entryFor_of_tree (by kernel_rfl)
def iY:plainId "dict.update.loop"=true:=by decide+kernel
section
variable{prog:Program}{w:World}{A:Around}{E:Value->Shared->Prop}{s:Shared}{a:Addr}{o:Obj}{xs:Array Value}{k:Nat}
def C9{Q:Option Value->Shared->Prop}(hx:s.heap.get? a=some o)(hc:o.cls=.type "list")(Lz:o.data=.seq xs k)(hd:o.dict=none)(hA:A.handled=none)
 (h:∀h' tk,(∀b o,s.heap.get? b=some o->h'.get? b=some o)->Q none {s with heap:=h',toks:=tk}):wpAny (model prog w) A (getAttr? (.ref a) "keys") Q E s:=by
 obtain⟨c,bw,dat,sl⟩:=o
 simp only at hc Lz hd;subst hc Lz hd;obtain⟨hp,g,d,tk,os⟩:=s
 have hT:∀O9,(⟨hp,g,d,O9,os⟩:Shared).TypeIs (.ref a) "list":=λ_=>⟨_,hx,rfl⟩
 have f1:=sub_AttributeError
 have f3:=F.slot_list_getattribute.lookup
 have f4:=F.slot_list_getattribute.bind (.ref a)
 have f5:=am_list_getattr_none
 unfold getAttr? getAttrBy? getAttrBy
 repeat (any_goals (first|assumption|exact hT _|((with_reducible show wpAny _ _ (call (Value.builtin "list.__getattribute__") _ _) _ _ _);refine call_meets F.slot_list_getattribute (hT _) am_entry_list_getattribute (F.args_list_getattribute_2 _ _) (meets_getattribute_miss_list a xs k sl "keys" _ xn (by decide) (by size_fits)) ⟨hx,hA,λh' O9 e wR=>?_⟩)|wp_step))
 obtain⟨t',u',he⟩:=wR.there
 show wpAny _ _ (getattributeRaised _ _ _ _ _ _ _) _ _ _
 unfold getattributeRaised
 repeat (any_goals (first|assumption|wp_step))
 exact h h' O9 wR.keeps
end
def d5(aw more:List (List Key×V)):List (List Key×V):=more.foldl (λacc kv=>putK acc kv.1 kv.2) aw
abbrev hZ(K:zz8)(H:Hp)(vs:List V)(aw:List (List Key×V)):Prop:=Paired (λv kv=>∃q b,v=V.ref q/\fF K H q [.ref b,kv.2]/\H b=some (.tup (kv.1.map kV))) vs aw
section
variable{X:Cx}{ae:List (Addr×Obj)}{σ:St}{l d it:Addr}{vs:List V}{A:Around}{E:Value->Shared->Prop}{R:Result->Shared->Prop}
def AJ{H:Hp}{s:Shared}{a b:Addr}{aw:List (List Key×V)}{k:List Key}{v:V}{r:Value}{Q:Unit->Shared->Prop}(hu:A.units<cLine)(I:Inv X ae σ H s)(e:H a=some (.dT aw))(eb:H b=some (.tup (k.map kV)))(l:aw.length<sizeLine)(rv:RelV v r)
 (h:∀h' t,Heap.SameBut a s.heap h'->Inv X ae σ (upd H a (.dT (putK aw k v))) {s with heap:=h',toks:=t}->Q () {s with heap:=h',toks:=t}):wpAny (model X.prog X.w) A (dictSet a (.ref b) r) Q E s:=by
 obtain⟨z,lo,xs,rel,dd⟩:=yh I.aL e
 have hz:xs.length<=sizeLine:=by rw [<-rel.len];exact z
 have hl:(putK aw k v).length<=sizeLine:=by have:=eF aw k v;omega
 refine wpAny_dictSet_heap (hsz:=hz) (knd:=tupleKind (bE X.prog X.w)) hu (gq I.aL eb) dd λh' Fv hs=>h h' _ hs ?_
 obtain⟨q,es,ep,hq,h2,h3,h4,_,h5⟩:=Fv
 refine gY I (by rw [e];exact True.intro) hs ⟨q,hq⟩ ⟨hl,lo,_,(rel.put k eb rv).keeps λc ys ec=>?_,q,es,ep,hq,h2,h3,h4,h5⟩
 rw [ag (fy ec e (λz=>nomatch z))];exact ec
def fF.gD{K:zz8}{H H':Hp}{a:Addr}{xs:List V}(h:fF K H a xs)(e:∀b,b≠d->H' b=H b){acc:List (List Key×V)}(hd:H d=some (.dT acc)):fF K H' a xs:=by
 rcases h with(h|⟨o,h⟩)|h
 ·exact .inl (.inl (by rw [e a (fy h hd (λz=>nomatch z))];exact h))
 ·exact .inl (.inr ⟨o,by rw [e a (fy h hd (λz=>nomatch z))];exact h⟩)
 ·exact .inr h
def fV.gD{K:zz8}{H H':Hp}{a:Addr}{xs:List V}(h:fV K H a xs)(e:∀b,b≠d->H' b=H b){acc:List (List Key×V)}(hd:H d=some (.dT acc)):fV K H' a xs:=by
 rcases h with(h|⟨o,h⟩)|h
 ·exact .inl (.inl (by rw [e a (fy h hd (λz=>nomatch z))];exact h))
 ·exact .inl (.inr ⟨o,by rw [e a (fy h hd (λz=>nomatch z))];exact h⟩)
 ·exact .inr h
def hZ.gD{K:zz8}{H H':Hp}{aw:List (List Key×V)}(e:∀b,b≠d->H' b=H b){acc:List (List Key×V)}(hd:H d=some (.dT acc)):∀{vs:List V},hZ K H vs aw->hZ K H' vs aw:=λh=>
 Paired.zt h λ_ _ ⟨q,b,e1,e2,e3⟩=>⟨q,b,e1,fF.gD e2 e hd,by rw [e b (fy e3 hd (λz=>nomatch z))];exact e3⟩
def DE(hu:A.units+1<cLine)(hh:A.handled=none):∀(rest:List (List Key×V)) (i:Nat) (j:Int) (acc:List (List Key×V)) (H:Hp) (s:Shared),Inv X ae σ H s->fu X ae H it->s.heap.IsListIter it l i->fV X.K H l vs->hZ X.K H (vs.drop i) rest->H d=some (.dT acc)->acc.length+rest.length<=sizeLine->
 (∀s' H',Inv X ae σ H' s'->H' d=some (.dT (d5 acc rest))->(∀b,b≠d->H' b=H b)->R (.ok (.ret .none)) s')->codeAny (model X.prog X.w) A (.builtin "dict.update.loop" ⟨[.ref d,.ref it,rawInt j,.none],[]⟩) R s:=by
 intro rest
 induction rest with
 |nil=>
  intro i j acc H s I hf st hl pr hd hz k;obtain⟨ax,rv,p,_⟩:=I.list hl
  obtain⟨f0,f1,f2,f3,f4,f5⟩:=hf
  have hi:vs.length<=i:=List.drop_eq_nil_iff.mp (by cases h:vs.drop i with|nil=>rfl|cons x r=>rw [h] at pr;cases pr)
  have hle:=rv.length
  refine codeAny_builtin q9 ?_;rw [zz7 iY _];show wpAny _ A.in1 (pyNext (.ref it)>>=λz=>_) _ _ s
  refine zzA (wpAny_pyNext_list_end hh st p.isList (by simp;omega) λh' eb=>?_)
  show wpAny _ _ (Builtin.Dict.addKeywords d []>>=λ_=>_) _ _ _
  exact zzA (zzG (zzG (k _ H (I.turned (t':=s.toks) (λb o hb e=>eb b o hb e) f0 f1 f3 f4 f5) hd λ_ _=>rfl)))
 |cons kv rest ih=>
  intro i j acc H s I hf st hl pr hd hz k;obtain⟨ax,rv,p,_⟩:=I.list hl
  obtain⟨f0,f1,f2,f3,f4,f5⟩:=id hf
  obtain⟨v,vr,hv,⟨q,b,rfl,hq,hb⟩,pr'⟩:∃v vr,vs.drop i=v::vr/\(∃q b,v=V.ref q/\fF X.K H q [.ref b,kv.2]/\H b=some (.tup (kv.1.map kV)))/\hZ X.K H vr rest:=by
   cases h:vs.drop i with
   |nil=>rw [h] at pr;cases pr
   |cons x r=>rw [h] at pr;cases pr with|cons h1 h2=>exact⟨x,r,rfl,h1,h2⟩
  have RY:vs[i]?=some (.ref q):=by rw [<-List.head?_drop,hv];rfl
  have Tn:vs.drop (i+1)=vr:=by rw [<-List.drop_drop,hv];rfl
  obtain⟨u,FL,ru⟩:=rv.get RY
  cases(show u=Value.ref q from ru);refine codeAny_builtin q9 ?_;rw [zz7 iY _];show wpAny _ A.in1 (pyNext (.ref it)>>=λz=>_) _ _ s
  refine zzA (wpAny_pyNext_list_item st p.isList (x:=Value.ref q) (by simpa using FL) λh' kl sb=>?_)
  have I1:Inv X ae σ H {s with heap:=h'}:=I.turned (t':=s.toks) (λb o hb e=>(sb.2 b hb).trans e) f0 f1 f3 f4 f5
  obtain⟨ei,rv2,p2,_⟩:=I1.tuple hq
  obtain⟨o2,g1,g2,n2,g3⟩:=id p2
  obtain⟨u1,u2,rfl,ru1,ru2⟩:∃u1 u2,ei=[u1,u2]/\RelV (.ref b) u1/\RelV kv.2 u2:=by
   cases rv2 with|cons h1 h2=>cases h2 with|cons h3 h4=>cases h4;exact⟨_,_,rfl,h1,h3⟩
  cases(show u1=Value.ref b from ru1);show wpAny _ A.in1 (holding [Value.ref q] _>>=λz=>_) _ _ {s with heap:=h'};refine zzA (wpAny_holding (zzA (wpAny_tryCatch ?_)));unfold Builtin.Dict.pairItems;refine zzA (wpAny_typeOf (s:={s with heap:=h'}) ⟨o2,g1,g2⟩ ?_);rw [if_pos (by decide)];refine zzA (wpAny_seqItems g1 g3 (zzG ?_));show wpAny _ A.in1 (holding [Value.ref b,u2] (dictSet d (.ref b) u2)) _ _ _;refine wpAny_holding (AJ hu I1 hd hb (by rw [zzL] at hz;omega) ru2 λh2 t2 SQ I2=>?_)
  have gD:∀c,c≠d->upd H d (.dT (putK acc kv.1 kv.2)) c=H c:=λc hc=>ag hc
  have nd:it≠d:=λz=>by rw [z,hd] at f0;cases f0
  refine zzG ⟨plainId_quiet iY _,ih (i+1) (j+1) _ _ _ I2 ⟨by rw [gD _ nd];exact f0,f1,f2,f3,f4,f5⟩ (kl.at λo e=>(SQ.2 it nd).trans e) (fV.gD hl gD hd) (hZ.gD gD hd (by rw [Tn];exact pr')) aq ?_ λs' H' J1 J2 J3=>k s' H' J1 J2 λc hc=>(J3 c hc).trans (gD c hc)⟩
  have:=eF acc kv.1 kv.2
  rw [zzL] at hz;omega
def tX(hc:X.calm=true)(hu:X.A.units+3<cLine):cN X (.type "dict") (λxs H Q=>∃l vs aw,xs=[V.ref l]/\fV X.K H l vs/\hZ X.K H vs aw/\∀p,H p=none->Q (.ref p) (upd H p (.dT (d5 [] aw)))):=by
 intro ae s σ H xs us Q I r h;obtain⟨l,vs,aw,rfl,hl,pr,q⟩:=h
 obtain⟨u,rfl,ru⟩:=vals1 r
 cases ru;have hh:X.A.handled=none:=I.ok.hd hc
 refine callType_codes (Q₁:=λobj s₁=>obj=.ref (zz9 s)/\s₁={s with heap:=s.heap.push {cls:=.type "dict",data:=.dict #[]}}) F.kt_called_dict (F.kt_typeCall_dict_1 _) F.entry_dict_init (kt_code_dict_new _ ⟨rfl,rfl⟩) ?_
 rintro obj s₁ ⟨rfl,rfl⟩
 have hn:H (zz9 s)=none:=I.aL.fresh (zzE _)
 have I1:=I.laid (a:=(zz9 s)) (o:=.dT []) (t':=s.toks) (λ_ _ q=>zzB _ q) (zzE _) (kH s.heap I.big)
 have T:(⟨s.heap.push {cls:=.type "dict",data:=.dict #[]},s.gens,s.drawn,s.toks,s.os⟩:Shared).TypeIs (.ref (zz9 s)) "dict":=⟨_,zzX _ rfl,rfl⟩
 have gD:∀c,c≠(zz9 s)->upd H (zz9 s) (.dT []) c=H c:=λc hc=>ag hc
 have same:aA H (upd H (zz9 s) (.dT [])):=bB hn
 have Kf:fV X.K (upd H (zz9 s) (.dT [])) l vs:=same.seq hl
 obtain⟨ax,rv,p,hz⟩:=I1.list Kf
 obtain⟨o,n,g1,g2,g3,g4⟩:=id p
 refine⟨T,F.args_dict_init_2 _ _,?_⟩;unfold Builtin.«dict.__init__» Builtin.Dict.selfAndRest;refine zzA (zzA (wpAny_notOrdered_dict T ?_));show wpAny _ _ (pure ((zz9 s),[Value.ref l]):Sem _) _ _ _;refine zzG ?_;show wpAny _ _ (Builtin.Dict.updateFrom "dict.__init__" (zz9 s) (.ref l) [] .none) _ _ _;unfold Builtin.Dict.updateFrom;refine zzA (wpAny_typeOf ⟨o,g1,g2⟩ ?_);rw [if_pos (by decide)];refine zzA (C9 g1 g2 g4 g3 hh λh' tk hk=>?_);rw [if_pos (by decide)];refine zzA (wpAny_rule ?_);have I2:=I1.kept (h':=h') (t':=tk) hk
 obtain⟨its',rv',p',_⟩:=I2.list Kf
 refine zzA (wpAny_pyIter_list p'.isList ?_);have I3:=I2.kept (h':=h'.push {cls:=.type "list_iterator",data:=.fields #[.ref l,.int 0 0]}) (t':=tk) λb o e=>zzB _ e
 have SI:(h'.push {cls:=.type "list_iterator",data:=.fields #[.ref l,.int 0 0]}).IsListIter h'.objs.size l 0:=⟨_,zzX _ rfl,rfl,rfl⟩
 have RI:fu X ae (upd H (zz9 s) (.dT [])) h'.objs.size:=I2.lA (zzE _) (I2.aL.fresh (zzE _))
 refine zzG ⟨plainId_quiet iY _,DE (X:=X) (A:=X.A.in1) (ae:=ae) (σ:=σ) (l:=l) (d:=(zz9 s)) (it:=h'.objs.size) (vs:=vs) (by show X.A.units+1+1<cLine;omega) (show X.A.in1.handled=none from hh) aw 0 0 [] _ _ I3 RI SI Kf ?_ aq ?_ λs' H' J1 J2 J3=>⟨rfl,?_⟩⟩
 ·exact Paired.zt pr λ_ _ ⟨q,b,e1,e2,e3⟩=>⟨q,b,e1,(show fF X.K _ q _ from by
   rcases e2 with(e2|⟨o,e2⟩)|e2
   ·exact .inl (.inl (same _ _ e2))
   ·exact .inl (.inr ⟨o,same _ _ e2⟩)
   ·exact .inr e2),same _ _ e3⟩
 ·have:=Paired.length pr
  rw [List.length_nil];omega
 ·have e:H'=upd H (zz9 s) (.dT (d5 [] aw)):=by
   funext b
   by_cases hb:b=(zz9 s)
   ·rw [hb,aq];exact J2
   ·rw [ag hb,J3 b hb,ag hb]
  rw [e] at J1;exact⟨.ref (zz9 s),_,J1,rfl,q _ hn⟩
def sP(hc:X.calm=true)(hu:X.A.units+3<cLine):cN X (.type "dict") (λxs H Q=>∃l vs aw,xs=[V.ref l]/\fV X.K H l vs/\hZ X.K H vs aw/\∀p o,H p=none->Q (.ref p) (upd H p (.bp o (.dT (d5 [] aw))))):=by
 intro ae s σ H xs us Q I r h;obtain⟨l,vs,aw,rfl,hl,pr,q⟩:=h
 refine wpAny_mono (tX hc hu ae s σ H _ us (λv H'=>∃p,v=.ref p/\H p=none/\H'=upd H p (.dT (d5 [] aw))) I r ⟨l,vs,aw,rfl,hl,pr,λp hp=>⟨p,rfl,hp,rfl⟩⟩) ?_ λ_ _ z=>z
 rintro u s' ⟨v,H',I',rv,p,rfl,hp,rfl⟩
 obtain⟨o,J⟩:=I'.freeze aq
 have e:upd (upd H p (.dT (d5 [] aw))) p (.bp o (.dT (d5 [] aw)))=upd H p (.bp o (.dT (d5 [] aw))):=by
  funext b
  by_cases hb:b=p
  ·rw [hb,aq,aq]
  ·rw [ag hb,ag hb,ag hb]
 rw [e] at J;exact⟨_,_,J,rv,q p o hp⟩
end
structure AE(H Hw:Hp)(d:Addr)(o:Obj)(aw:List (List Key×V)):Prop where
 at_:Hw d=some (.bp o (.dT aw))
 dt:H d=some (.dT aw)
 same:∀b u,H b=some u->b≠d->Hw b=some u
 new:∀b u,Hw b=some u->H b=none->∃ob,u=.bp ob bF
section
variable{P:Program}{w:World}{H Hw:Hp}{d:Addr}{o:Obj}{aw:List (List Key×V)}{fs:List Addr}{h h':Heap}
def AE.back(z:AE H Hw d o aw)(u:Un fs [] Hw Hw h h')(k:eA P w Hw h)(k':eA P w Hw h'):Un fs [] H H h h'/\eA P w H h'/\h'.get? d=some o:=by
 have fz:∀b ob,Hw b=some (.bp ob bF)->∀o,h.get? b=some o->h'.get? b=some o:=λb ob e o q=>by
  have h1:h.get? b=some ob:=(k b _ e).1
  have h2:h'.get? b=some ob:=(k' b _ e).1
  rw [h1] at q;cases q;exact h2
 have st:∀c v,Hw c=some v->(∀ob u,v≠.bp ob u)->H c=some v:=λc v e n=>by
  cases q:H c with
  |none=>obtain⟨ob,rfl⟩:=z.new c v e q;exact absurd rfl (n ob _)
  |some u=>
   by_cases hc:c=d
   ·subst hc;rw [z.at_] at e;cases e;exact absurd rfl (n _ _)
   ·rw [z.same c u q hc] at e;exact e
 refine⟨⟨λb ob e n hb hx=>?_,λb ob e n hb hx=>?_,λb ob e n hx=>n,λb ob e hx=>u.there b ob e hx,λ_ _ e=>e,λ_ _ _ e=>e,λb ps e=>⟨#[],by simpa using e⟩⟩,λb v e=>?_,(k' d _ z.at_).1⟩
 ·cases q:Hw b with
  |none=>exact u.keep b ob e q hb hx
  |some v=>obtain⟨o',rfl⟩:=z.new b v q n;exact fz b o' q ob e
 ·cases q:Hw b with
  |none=>exact u.slot b ob e q hb hx
  |some v=>obtain⟨o',rfl⟩:=z.new b v q n;exact⟨ob.slots,fz b o' q ob e⟩
 ·have go:∀v,bJ P w Hw h' b v->bJ P w H h' b v:=λv y=>y.eP (λ_ _ _ r=>r) (λc r=>st c _ r (λ_ _ z=>nomatch z)) λc xs r=>st c _ r (λ_ _ z=>nomatch z)
  by_cases hb:b=d
  ·subst hb;rw [z.dt] at e;cases e;exact go _ (k' b _ z.at_).2
  ·exact go v (k' b v (z.same b v e hb))
end
structure tD(p y:Str)(params:Arguments)(body:Expr)(scope:Scope):Prop where
 body:∃q1 q2 q3 q4 q5 j,body=.Subscript (.Subscript (.Name y q1) (.Name p q2) q3) (.Constant (.int 0) j q4) q5
 sc:qv [p] [y] scope
 d1:(p==("__debug__":Str))=false
 d2:(p==("__classdict__":Str))=false
 d3:(y==("__debug__":Str))=false
 d4:(y==("__classdict__":Str))=false
section
variable{X:Cx}{ae:List (Addr×Obj)}{σ:St}{H:Hp}{s:Shared}{d f c c' b:Addr}{o oc:Obj}{aw:List (List Key×V)}{kk:Nat}{p y qual:Str}{params:Arguments}{body:Expr}{scope:Scope}{pm fJ:Value}{df:Array Value}{ct:Tok}{k:List Key}{q:Addr}{n:Int}{r:List V}{A:Around}{E:Value->Shared->Prop}
def yQ(hA:A=X.A.in1)(L:tD p y params body scope)(hr:dG (kk+1) X.A)(I:Inv X ae σ H s)(hd:H d=some (.dT aw))(ho:s.heap.get? d=some o)
 (ef:X.env.cells.lookup y=some c) (MS:X.s₀.heap.objs.size<=c) (RF:s.heap.IsCell c (some (.ref d)))
 (hf:H f=some (.bp (PySem.W.kla_obj "<lambda>" qual params body scope [(y,c)] pm c' fJ) bF)) (ip:H c'=some (.bp oc bF)) (sk:oc.data=.fields df) (Fi:df[1]?=some (.str qual ct))
 (hb:∀u,bindArgs (PySem.W.kla_fn "<lambda>" qual params body scope [(y,c)] pm (.ref c') fJ) ⟨[u],[]⟩=pure ([p].zip [u]))
 (K0:H b=some (.tup (k.map kV))) (hv:gG aw k=some (.ref q)) (hq:fF X.K H q (.int n::r)):
 wpAny (model X.prog X.w) A (call (.ref f) [.ref b]) (λu s'=>(∃t,u=.int n t)/\Inv X ae σ H s'/\s'.heap.get? d=some o) E s:=by
 subst hA;obtain⟨q1,q2,q3,q4,q5,j,rfl⟩:=L.body
 obtain⟨ocell,g1,g2⟩:=id RF
 have DZ:H c=none:=I.ib y c ef
 obtain⟨z0,lo,xs,rel,o',es,ep,h1,h2,h3,h4,h5⟩:=(show bJ X.prog X.w H s.heap d (.dT aw) from I.aL d _ hd)
 rw [ho] at h1;cases h1;have If:Inv X ae σ (upd H d (.bp o (.dT aw))) s:=by
  refine gY (h':=s.heap) (t':=s.toks) I (by rw [hd];exact True.intro) ⟨rfl,λ_ _=>rfl⟩ ⟨o,ho⟩ ⟨ho,z0,lo,xs,?_,o,es,ep,ho,h2,h3,h4,h5⟩
  exact KT.keeps (H:=H) rel λc ys ec=>by rw [ag (fy ec hd (λz=>nomatch z))];exact ec
 have Tq:c≠d:=λz=>by rw [z,hd] at DZ;cases DZ
 have SG:f≠d:=fy hf hd (λz=>nomatch z)
 have OP:c'≠d:=fy ip hd (λz=>nomatch z)
 have Dl:sy [(c,ocell)] (upd H d (.bp o (.dT aw))) (eO X.stack) s.heap:=by
  have lk:∀b o,List.lookup b [(c,ocell)]=some o->b=c/\o=ocell:=λb o e=>by
   rw [zz5] at e;cases xM:b==c with
   |true=>rw [xM] at e;cases e;exact⟨zzy.mp xM,rfl⟩
   |false=>rw [xM] at e;cases e
  refine⟨λb o e=>?_,λb o e=>?_,λb o e=>?_⟩
  ·obtain⟨rfl,rfl⟩:=lk b o e;exact g1
  ·obtain⟨rfl,rfl⟩:=lk b o e;rw [ag Tq];exact DZ
  ·obtain⟨rfl,rfl⟩:=lk b o e
   intro Nz;rcases zzm.mp (I.iE b Nz) with z|z
   ·exact I.CS y b ef z
   ·obtain⟨_,o',h4,_⟩:=I.ok.gk.mem z
    exact absurd (zzO h4) (Nat.not_lt.mpr MS)
 have zc:List.lookup c [(c,ocell)]=some ocell:=by simp
 have MG:∀x c1,List.lookup x [(y,c)]=some c1->x=y/\c1=c:=λx c1 e=>by
  rw [zz5] at e;cases hx:x==y with
  |true=>rw [hx] at e;cases e;exact⟨zzy.mp hx,rfl⟩
  |false=>rw [hx] at e;cases e
 have zb:∀b o,List.lookup b [(c,ocell)]=some o->X.base.get? b=none:=λb o e=>by
  rw [zz5] at e;cases xM:b==c with
  |true=>
   have:=zzy.mp xM;subst this
   cases y':X.base.get? b with
   |none=>rfl
   |some o'=>exact absurd (zzO (I.ok.bs b o' y').1) (Nat.not_lt.mpr MS)
  |false=>rw [xM] at e;cases e
 have Tj:fF X.K (upd H d (.bp o (.dT aw))) q (.int n::r):=fF.gD hq (λb hb=>ag hb) hd
 have S9:upd H d (.bp o (.dT aw)) b=some (.tup (k.map kV)):=by rw [ag (fy K0 hd (λz=>nomatch z))];exact K0
 have wd:AE H (aM [(c,ocell)] (upd H d (.bp o (.dT aw)))) d o aw:=by
  have nz:∀b u,H b=some u->List.lookup b [(c,ocell)]=none:=λb u e=>by
   rw [zz5];cases xM:b==c with
   |true=>have:=zzy.mp xM;subst this;rw [DZ] at e;cases e
   |false=>rfl
  refine⟨by rw [ah (nz d _ hd),aq],hd,λb u e hb=>by rw [ah (nz b u e),ag hb];exact e,λb u e n=>?_⟩
  cases hz:List.lookup b [(c,ocell)] with
  |some ob=>rw [aX hz] at e;cases e;exact⟨_,rfl⟩
  |none=>
   rw [ah hz] at e;have S0:b≠d:=λz=>by rw [z,hd] at n;cases n
   rw [ag S0,n] at e;cases e
 refine wpAny_call (codeAny_mono (uJ (k:=kk) (E:=λ_ _ _=>False) (Q:=λv H'=>v=.int n/\H'=aM [(c,ocell)] (upd H d (.bp o (.dT aw)))) (Z:=[(c,ocell)]) (ws:=[.ref d]) (vs:=[.ref b]) (us:=[.ref b])
  (t:=JZ (Mw X.K) (Fc (yc 1) (yc 0)) (tC (.int 0))) L.sc hr.in1 If.wa.in1 Dl zb ?fo ?co sk Fi (hb _) (.cons rfl .nil) rfl rfl ?JT ?inj ?cz ?cells ?ht ?hq) λrr s' OV=>?_)
 case fo=>
  have z:upd H d (.bp o (.dT aw)) f=H f:=ag SG
  exact(If.aL f _ (z.trans hf)).1
 case co=>
  have z:upd H d (.bp o (.dT aw)) c'=some (.bp oc bF):=by rw [ag OP];exact ip
  exact(If.aL c' _ z).1
 case JT=>intro y' Ic;exact⟨c,by rw [zzi.mp Ic];simp⟩
 case inj=>intro x y' c1 e1 e2;rw [(MG x c1 e1).1,(MG y' c1 e2).1]
 case cz=>intro x c1 e;obtain⟨rfl,rfl⟩:=MG x c1 e;exact⟨ocell,_,zc,g2⟩
 case cells=>
  intro i y' c1 e1 e2 v e3;obtain⟨rfl,rfl⟩:=MG y' c1 e2
  cases i with
  |zero=>cases e3;exact⟨.ref d,rfl,ocell,g1,g2⟩
  |succ i=>cases e3
 case ht=>
  refine Fs z9 (BS ?_ (eX (i:=1) rfl (.inr (.inr (L.sc.O6 y (by simp)))) L.d3 L.d4) (eX (i:=0) rfl (.inl (L.sc.par p (by simp))) L.d1 L.d2) λ_ _=>rfl) sC λ_ _=>rfl
  have:=hr.un
  show X.A.units+1+3+1<cLine
  omega
 case hq=>
  refine⟨_,rfl,_,rfl,d,.ref q,rfl,?_,?_⟩
  ·exact .inr ⟨aw,k,b,.inr ⟨o,aq⟩,rfl,S9,hv.symm⟩
  ·exact⟨q,.int n::r,0,.int n,rfl,rfl,Tj,by simp [pS,E8],λ_=>⟨rfl,rfl⟩⟩
 ·cases rr with
  |error e=>
   obtain⟨a,C,t,vs,H',B,e1,F⟩:=OV
   exact(F.ends).elim
  |ok fl=>
   cases fl with
   |ret u=>
    obtain⟨v,H',os,bare,un,aL,rv,rfl,rfl⟩:=OV
    obtain⟨t,rfl⟩:=rv
    obtain⟨u1,k1,Ma⟩:=wd.back un (Dl.aL If.aL) aL
    obtain⟨hh,g,dr,tk,os'⟩:=s'
    obtain rfl:os'=s.os:=os
    exact⟨⟨t,rfl⟩,I.call (h':=hh) (g':=g) (d':=dr) (t':=tk) (ch:=[]) u1 k1 bare (λb z=>absurd z (by simp)),Ma⟩
   |_=>exact OV.elim
end
structure KM(X:Cx)(σ:St)(H:Hp)(kk:Nat)(d f:Addr)(aw:List (List Key×V))(cf:Nat->Int):Prop where
 room:dG (kk+1) X.A
 dt:H d=some (.dT aw)
 lam:∃(p y:Str) (params:Arguments) (body:Expr) (scope:Scope) (qual:Str) (c c':Addr) (oc:Obj) (df:Array Value) (ct:Tok) (pm fJ:Value) (iy:Nat),tD p y params body scope/\X.env.cells.lookup y=some c/\X.s₀.heap.objs.size<=c/\H f=some (.bp (PySem.W.kla_obj "<lambda>" qual params body scope [(y,c)] pm c' fJ) bF)/\
  H c'=some (.bp oc bF)/\oc.data=.fields df/\df[1]?=some (.str qual ct)/\(∀u,bindArgs (PySem.W.kla_fn "<lambda>" qual params body scope [(y,c)] pm (.ref c') fJ) ⟨[u],[]⟩=pure ([p].zip [u]))/\
  X.N[iy]?=some y/\σ[iy]?=some (some (V.ref d))/\X.env.scope.names.lookup y=some .cell
 cost:∀(i:Nat) k v,aw[i]?=some (k,v)->∃q r,v=V.ref q/\fF X.K H q (.int (cf i)::r)
def EK{aw:List (List Key×V)}:∀{i:Nat} {k:List Key} {v:V},(aw.map (·.1)).Nodup->aw[i]?=some (k,v)->gG aw k=some v:=by
 induction aw with
 |nil=>intro i k v _ h;simp at h
 |cons x r ih=>
  intro i k v nd h;rw [zzF,List.nodup_cons] at nd;cases i with
  |zero=>simp at h;subst h;exact gy rfl
  |succ i=>
   simp at h;rw [gJ λe=>nd.1 (e▸zzx.mpr ⟨(k,v),zzD h,rfl⟩)]
   exact ih nd.2 h
section
variable{X:Cx}{ae:List (Addr×Obj)}{σ:St}{H:Hp}{s:Shared}{d f it S:Addr}{o:Obj}{es:Array DictEntry}{ep:Nat}{aw:List (List Key×V)}{kk:Nat}{cf:Nat->Int}{R:Result->Shared->Prop}
def Ex(I:Inv X ae σ H s)(e:H d=some (.dT aw)):(d==sysModules)=false/\(aw.map (·.1)).Nodup/\∃o es ep,s.heap.get? d=some o/\o.ExactDict/\o.data=.dict es ep/\es.size=aw.length/\∀(i:Nat) (h:i<es.size),∃b k v,es[i].key=.ref b/\aw[i]?=some (k,v)/\H b=some (.tup (k.map kV)):=by
 obtain⟨lo,nd,o,es,ep,h1,h2,h3,hl,hk⟩:=yx (I.aL d _ e)
 exact⟨lo,nd,o,es,ep,h1,h2,h3,hl,λi hi=>let⟨b,k,v,e1,e2,e3,_⟩:=hk i hi;⟨b,k,v,e1,e2,e3⟩⟩
def fu.pin{b:Addr}{ob:Obj}(h:fu X ae H b)(e:s.heap.get? b=some ob)(n:∀v,ob.data≠.cell v):s.heap.get? b=some ob/\H b=none/\b≠X.env.locals/\b∉X.fs/\∀v,ob.data≠.cell v:=⟨e,h.1,h.2.1,h.2.2.1,n⟩
def Ae(M:KM X σ H kk d f aw cf)(I:Inv X ae σ H s)(fi:fu X ae H it)(fS:fu X ae H S)(ho:s.heap.get? d=some o){oi oS:Obj}(hi:s.heap.get? it=some oi)(ci:∀v,oi.data≠.cell v)(hS:s.heap.get? S=some oS)(cS:∀v,oS.data≠.cell v)
 (nd:(aw.map (·.1)).Nodup) {i:Nat} {k:List Key} {v:V} {b:Addr} (hk:aw[i]?=some (k,v)) (hb:H b=some (.tup (k.map kV))) {E:Value->Shared->Prop} {Q:Value->Shared->Prop}
 (h:∀t s',Inv X ae σ H s'->s'.heap.get? d=some o->s'.heap.get? it=some oi->s'.heap.get? S=some oS->Q (.int (cf i) t) s'):wpAny (model X.prog X.w) X.A.in1 (call (.ref f) [.ref b]) Q E s:=by
 obtain⟨p,y,params,body,scope,qual,c,c',oc,df,ct,pm,fJ,iy,L,l1,l2,l3,l4,l5,l6,l7,l8,l9,l10⟩:=M.lam
 obtain⟨q,r,rfl,hq⟩:=M.cost i k v hk
 have I1:Inv X ((it,oi)::(S,oS)::ae) σ H s:=by
  refine I.gZ λp hp=>?_
  rcases zzm.mp hp with rfl|hp
  ·exact fi.pin hi ci
  ·rcases zzm.mp hp with rfl|hp
   ·exact fS.pin hS cS
   ·exact I.pin p (zzR _ hp)
 have cell:s.heap.IsCell c (some (.ref d)):=by
  obtain⟨m,_,hloc⟩:=I.loc
  obtain⟨u,ru,lk⟩:=hloc iy y (.ref d) l8 l9 (.inr (.inl l10))
  cases(show u=Value.ref d from ru);rcases lk with⟨z,_⟩|⟨_,c2,hc2,z⟩
  ·have z2:X.env.scope.names.lookup y=some .local:=z
   rw [l10] at z2;cases z2
  ·rw [l1] at hc2;cases hc2;exact z
 refine wpAny_mono (yQ (kk:=kk) rfl L M.room I1 M.dt ho l1 l2 cell l3 l4 l5 l6 l7 hb (EK nd hk) hq) (λu s' hu=>?_) λ_ _ z=>z
 obtain⟨⟨t,rfl⟩,J,hd⟩:=hu
 refine h t s' (J.gZ λp hp=>J.pin p (zzR _ (.tail _ (.tail _ hp)))) hd (J.pin (it,oi) (zzR _ (.head _))).1 (J.pin (S,oS) (zzR _ (.tail _ (.head _)))).1
def uF{h:Heap}{c:Nat}{xs ys:Array Value}(e:h.get? S=some (seqObj "list" xs c)):∃c',(h.update S (Obj.mapSeq λ_=>ys)).get? S=some (seqObj "list" ys c'):=⟨_,get?_update_seq e λ_=>ys⟩
def lX{xs:Array Value}{c:Nat}:∀v,(seqObj "list" xs c).data≠.cell v:=λv z=>nomatch z
def zD(M:KM X σ H kk d f aw cf)(hh:X.A.handled=none)(hd:o.data=.dict es ep)(hl:es.size=aw.length)(uL:∀(i:Nat) (h:i<es.size),∃b k v,es[i].key=.ref b/\aw[i]?=some (k,v)/\H b=some (.tup (k.map kV)))(nd:(aw.map (·.1)).Nodup)
 (fi:fu X ae H it) (fS:fu X ae H S) (nS:S≠it) (hR:∀(i:Nat) (h:i<es.size) s',(∀j,j<es.size->cf i<=cf j/\(j<i->cf i<cf j))->Inv X ae σ H s'->R (.ok (.ret es[i].key)) s'):
 ∀(r j i:Nat) (s:Shared) (t:Tok) (c:Nat) (hi:i<es.size),es.size-(j+1)=r->j+1<=es.size->Inv X ae σ H s->s.heap.get? d=some o->s.heap.IsKeyIter it d (j+1) es.size ep->s.heap.get? S=some (seqObj "list" #[es[i].key,.int (cf i) t] c)->i<=j->(∀j',j'<=j->cf i<=cf j'/\(j'<i->cf i<cf j'))->
  codeAny (model X.prog X.w) X.A (.builtin "min.loop" ⟨[.ref it,.ref f,.ref S],[]⟩) R s:=by
 have name:(toString "min"++toString ".loop":String)="min.loop":=by decide
 have OM:S≠d:=λz=>by have:=fS.1;rw [z,M.dt] at this;cases this
 have N3:it≠d:=λz=>by have:=fi.1;rw [z,M.dt] at this;cases this
 intro r
 induction r with
 |zero=>
  intro j i s t c hi hr hj I ho st hS PC best;refine codeAny_builtin PySem.F.entry_min_loop ?_;rw [zz7 PySem.F.plain_min_loop _];show wpAny _ X.A.in1 (seqItems? (.ref S)>>=λz=>_) _ _ _
  refine zzA (wpAny_seqItems hS rfl ?_);show wpAny _ X.A.in1 (tryCatch (pyNext (.ref it)) _>>=λz=>_) _ _ _
  refine zzA (wpAny_tryCatch (tx hh st ho hd (by omega) λh' eb=>?_))
  have vT:=eb S _ nS hS
  have I1:=I.turned (h':=h') (t':=s.toks) (λb o hb e=>eb b o hb e) fi.1 fi.2.1 fi.2.2.2.1 fi.2.2.2.2.1 fi.2.2.2.2.2
  show wpAny _ X.A.in1 (updateSeq S (λ_=>#[])>>=λz=>_) _ _ _
  refine zzA (wpAny_updateSeq vT rfl (zzA (wpAny_letGo (zzG ?_))));have s1:=zzu h' S (Obj.mapSeq λ_=>(#[]:Array Value))
  exact hR i hi _ (λj' N0=>best j' (by omega)) (I1.turned (t':=s.toks) (λb o hb e=>(s1.2 b hb).trans e) fS.1 fS.2.1 fS.2.2.2.1 fS.2.2.2.2.1 fS.2.2.2.2.2)
 |succ r ih=>
  intro j i s t c hi hr hj I ho st hS PC best;have cC:j+1<es.size:=by omega
  refine codeAny_builtin PySem.F.entry_min_loop ?_;rw [zz7 PySem.F.plain_min_loop _];show wpAny _ X.A.in1 (seqItems? (.ref S)>>=λz=>_) _ _ _
  refine zzA (wpAny_seqItems hS rfl ?_);show wpAny _ X.A.in1 (tryCatch (pyNext (.ref it)) _>>=λz=>_) _ _ _
  refine zzA (wpAny_tryCatch (j5 st ho hd cC λh' kl sb=>?_));have vT:=(sb.2 S nS).trans hS
  have iF:=(sb.2 d (Ne.symm N3)).trans ho
  have I1:=I.turned (h':=h') (t':=s.toks) (λb o hb e=>(sb.2 b hb).trans e) fi.1 fi.2.1 fi.2.2.2.1 fi.2.2.2.2.1 fi.2.2.2.2.2
  obtain⟨oi,gi,gc,gd⟩:=id kl
  obtain⟨b,k,v,e1,e2,e3⟩:=uL (j+1) cC
  rw [e1];show wpAny _ X.A.in1 (tryCatch (holding [Value.ref b] (call (.ref f) [Value.ref b])) _>>=λz=>_) _ _ _
  refine zzA (wpAny_tryCatch (wpAny_holding (Ae M I1 fi fS iF gi (λv z=>by rw [gd] at z;cases z) vT lX nd e2 e3 λt2 s2 I2 M5 L0 J6=>?_)))
  have NQ:s2.heap.IsKeyIter it d (j+1+1) es.size ep:=⟨oi,L0,gc,gd⟩
  show wpAny _ X.A.in1 (tryCatch (holding [Value.ref b,.int (cf (j+1)) t2] (richCompare .Lt (.int (cf (j+1)) t2) (.int (cf i) t)>>=λz=>_)) _>>=λz=>_) _ _ _
  refine zzA (wpAny_tryCatch (wpAny_holding (zzA (CmpOf.ints_lt (prog:=X.prog) (w:=X.w) (A:=X.A.in1) (P:=λi v=>∃t,v=.int (cf i) t) cf (λi v h=>h) (j+1) i _ _ _ _ _ ⟨t2,rfl⟩ ⟨t,rfl⟩ ?_))))
  refine zzA (wpAny_holding (wpAny_truthy_bool (zzA (wpAny_letGo (zzG ?_)))))
  by_cases kj:cf (j+1)<cf i
  ·obtain⟨c2,hc2⟩:=uF (ys:=#[Value.ref b,.int (cf (j+1)) t2]) J6
   have s1:=zzu s2.heap S (Obj.mapSeq λ_=>#[Value.ref b,.int (cf (j+1)) t2])
   simp! [kj,decide_true,if_true];refine zzA (wpAny_updateSeq J6 rfl (zzA (wpAny_letGo ?_)));rw [name];rw [<-e1] at hc2 s1⊢;refine zzG ⟨plainId_quiet PySem.F.plain_min_loop _,ih (j+1) (j+1) _ t2 c2 cC (by omega) cC (I2.turned (t':=s2.toks) (λb o hb e=>(s1.2 b hb).trans e) fS.1 fS.2.1 fS.2.2.2.1 fS.2.2.2.2.1 fS.2.2.2.2.2) ?_ ?_ ?_ (zzE _) λj' N0=>?_⟩
   ·exact(s1.2 d (Ne.symm OM)).trans M5
   ·exact⟨oi,(s1.2 it (Ne.symm nS)).trans L0,gc,gd⟩
   ·exact hc2
   ·by_cases e:j'=j+1
    ·subst e;exact⟨by omega,λ_=>by omega⟩
    ·have:=best j' (by omega)
     exact⟨by omega,λ_=>by omega⟩
  ·simp! [kj,decide_false,zze,if_false];refine zzA (wpAny_letGo ?_);rw [name];refine zzG ⟨plainId_quiet PySem.F.plain_min_loop _,ih (j+1) i _ t c hi (by omega) cC I2 M5 NQ J6 (by omega) λj' N0=>?_⟩
   by_cases e:j'=j+1
   ·subst e;exact⟨by omega,λ_=>by omega⟩
   ·exact best j' (by omega)
def xA(M:KM X σ H kk d f aw cf)(g9:0<aw.length)(I:Inv X ae σ H s){Q:VK}
 (q:∀i k v b,aw[i]?=some (k,v)->H b=some (.tup (k.map kV))->(∀j,j<aw.length->cf i<=cf j/\(j<i->cf i<cf j))->Q (.ref b) H):wpAny (model X.prog X.w) X.A (call (.builtin "min") [.ref d] [(Str.ofString "key",.ref f)]) (EP X ae σ Q) X.xe s:=by
 have name:(toString "min"++toString ".loop":String)="min.loop":=by decide
 have hh:X.A.handled=none:=M.room.hd
 obtain⟨lo,nd,o,es,ep,ho,hx,hd,hl,uL⟩:=Ex I M.dt
 have fin:∀(i:Nat) (h:i<es.size) s',(∀j,j<es.size->cf i<=cf j/\(j<i->cf i<cf j))->Inv X ae σ H s'->EP X ae σ Q es[i].key s':=λi h s' b J=>by
  obtain⟨a,k,v,e1,e2,e3⟩:=uL i h
  rw [e1];exact⟨.ref a,H,J,rfl,q i k v a e2 e3 λj hj=>b j (by omega)⟩
 refine kmk_tree PySem.F.kind_min PySem.F.plain_min PySem.F.entry_min (kmk_min_key _ _) ?_;show wpAny _ X.A.in1 (Builtin.Builtins.bindParams "min" ["key","default"] 0 ⟨[],[(Str.ofString "key",.ref f)]⟩>>=λz=>_) _ _ s
 refine zzA (wpAny_of_eq (show Builtin.Builtins.bindParams "min" ["key","default"] 0 ⟨[],[(Str.ofString "key",.ref f)]⟩=pure [some (.ref f),none] from rfl) (zzA (zzG ?_)));refine zzA (pB lo ho hx hd (zzA (wpAny_newList ?_ (Nat.zero_le _))));rw [name];generalize hit:(zz9 s)=it
 generalize hSS:(s.heap.push {cls:=.type "dict_keyiterator",data:=.fields #[.ref d,.int 0 0,.int es.size 0,.int ep 0]}).objs.size=S
 have eS:S=it+1:=by rw [<-hSS,<-hit];exact size_push' ..
 have nS:S≠it:=by omega
 have hH:(zz9 s)<=S:=by omega
 have fi:fu X ae H it:=by rw [<-hit];exact I.lA (zzE _) (I.aL.fresh (zzE _))
 have fS:fu X ae H S:=I.lA hH (I.aL.fresh hH)
 have keep:∀b ob,s.heap.get? b=some ob->((s.heap.push {cls:=.type "dict_keyiterator",data:=.fields #[.ref d,.int 0 0,.int es.size 0,.int ep 0]}).push (seqObj "list" #[] 0)).get? b=some ob:=λb ob e=>zzB _ (zzB _ e)
 have I1:=I.kept (t':=s.toks) keep
 have gI:((s.heap.push {cls:=.type "dict_keyiterator",data:=.fields #[.ref d,.int 0 0,.int es.size 0,.int ep 0]}).push (seqObj "list" #[] 0)).get? it=some {cls:=.type "dict_keyiterator",data:=.fields #[.ref d,.int 0 0,.int es.size 0,.int ep 0]}:=by
  rw [<-hit];exact zzB _ (zzX _ rfl)
 have gS:((s.heap.push {cls:=.type "dict_keyiterator",data:=.fields #[.ref d,.int 0 0,.int es.size 0,.int ep 0]}).push (seqObj "list" #[] 0)).get? S=some (seqObj "list" #[] 0):=by
  rw [<-hSS];exact zzX _ rfl
 have OM:S≠d:=λz=>by have:=fS.1;rw [z,M.dt] at this;cases this
 have N3:it≠d:=λz=>by have:=fi.1;rw [z,M.dt] at this;cases this
 refine zzG ⟨plainId_quiet PySem.F.plain_min_loop _,codeAny_builtin PySem.F.entry_min_loop ?_⟩;rw [zz7 PySem.F.plain_min_loop _];show wpAny _ X.A.in1 (seqItems? (.ref S)>>=λz=>_) _ _ _
 refine zzA (wpAny_seqItems gS rfl ?_);show wpAny _ X.A.in1 (tryCatch (pyNext (.ref it)) _>>=λz=>_) _ _ _
 have h0:0<es.size:=by omega
 refine zzA (wpAny_tryCatch (j5 (i:=0) ⟨_,gI,rfl,rfl⟩ (keep _ _ ho) hd h0 λh' kl sb=>?_))
 have vT:=(sb.2 S nS).trans gS
 have iF:=(sb.2 d (Ne.symm N3)).trans (keep _ _ ho)
 have I2:=I1.turned (h':=h') (t':=s.toks) (λb o hb e=>(sb.2 b hb).trans e) fi.1 fi.2.1 fi.2.2.2.1 fi.2.2.2.2.1 fi.2.2.2.2.2
 obtain⟨oi,gi,gc,gd⟩:=id kl
 obtain⟨b,k,v,e1,e2,e3⟩:=uL 0 h0
 rw [e1];show wpAny _ X.A.in1 (tryCatch (holding [Value.ref b] (call (.ref f) [Value.ref b])) _>>=λz=>_) _ _ _
 refine zzA (wpAny_tryCatch (wpAny_holding (Ae M I2 fi fS iF gi (λv z=>by rw [gd] at z;cases z) vT lX nd e2 e3 λt2 s2 I3 M5 L0 J6=>?_)))
 obtain⟨c2,hc2⟩:=uF (ys:=#[Value.ref b,.int (cf 0) t2]) J6
 have s1:=zzu s2.heap S (Obj.mapSeq λ_=>#[Value.ref b,.int (cf 0) t2])
 show wpAny _ X.A.in1 (updateSeq S (λ_=>#[Value.ref b,.int (cf 0) t2])>>=λz=>_) _ _ _
 refine zzA (wpAny_updateSeq J6 rfl ?_);rw [name];rw [<-e1] at hc2 s1⊢;refine zzG ⟨plainId_quiet PySem.F.plain_min_loop _,zD M hh hd hl uL nd fi fS nS fin _ 0 0 _ t2 c2 h0 rfl h0 (I3.turned (t':=s2.toks) (λb o hb e=>(s1.2 b hb).trans e) fS.1 fS.2.1 fS.2.2.2.1 fS.2.2.2.2.1 fS.2.2.2.2.2) ((s1.2 d (Ne.symm OM)).trans M5) ⟨oi,(s1.2 it (Ne.symm nS)).trans L0,gc,gd⟩ hc2 (zzE _) λj' N0=>?_⟩
 have e:j'=0:=by omega
 subst e;exact⟨by omega,λh=>absurd h (Nat.lt_irrefl _)⟩
end
end L2
namespace L2
open PySem PySem.Spec PyProof.Rows PySem.W
section
variable{prog:Program}{w:World}{A:Around}{E:Value->Shared->Prop}{s:Shared}{a:Addr}
def yd{d:Addr}{o:Obj}{es:Array DictEntry}{ep:Nat}(lo:(d==sysModules)=false)(hx:o.ExactDict)(hd:o.data=.dict es ep):KdlSrc prog w "dict" d d es.size (λi v=>∃h:i<es.size,v=es[i].key) (λh=>h.get? d=some o) where
 type:=λs e=>⟨o,e,hx.1⟩
 there:=λh e=>⟨zzO e,zzO e⟩
 keep:=λh h' e k=>k d (.inl rfl) o e
 notList:=by decide
 notTuple:=by decide
 hint:=λA E s Q e q=>kdl_hint_dict ⟨o,e,hx.1⟩ q
 iter:=λA s hh e=>⟨_,λi h=>h.IsKeyIter (zz9 s) d i es.size ep/\h.get? d=some o,(λE Q q=>pB lo e hx hd q),{
  sub:=λb hb=>by simp at hb;simp [hb]
  frame:=λ_ _ _ st hk=>⟨st.1.at λo e=>hk _ (by simp) o e,hk d (by simp) o st.2⟩
  item:=λi s' Q E hi st hQ=>j5 st.1 st.2 hd hi λh' kl sb=>hQ _ h' s'.toks ⟨hi,rfl⟩ ⟨kl,(sb.2 d (zzb (zzO e))).trans st.2⟩ λb o hb z=>(sb.2 b (λy=>hb (by simp [y]))).trans z
  done:=λs' Q E st hQ=>tx hh st.1 st.2 hd (zzE _) λh' eb=>hQ h' s'.toks λb o hb z=>eb b o (λy=>hb (by simp [y])) z
  self:=λ_ _ _ _ st hQ=>wpAny_pyIter_keyiter st.1 hQ},⟨⟨_,zzX _ rfl,rfl,rfl⟩,zzB _ e⟩⟩
variable{X:Cx}{ae:List (Addr×Obj)}{σ:St}{H:Hp}{vs:List V}{us:List Value}{nss:List (List Int)}{Q:VK}
def xk{d:Addr}{aw:List (List Key×V)}(I:Inv X ae σ H s)(e:Rd H d (.dT aw)):(d==sysModules)=false/\∃o es ep,s.heap.get? d=some o/\o.ExactDict/\o.data=.dict es ep/\es.size=aw.length/\∀(i:Nat) (h:i<es.size),∃b k v,es[i].key=.ref b/\aw[i]?=some (k,v)/\H b=some (.tup (k.map kV))/\RelV v es[i].val:=by
 have ok:bJ X.prog X.w H s.heap d (.dT aw):=by
  rcases e with e|⟨o,e⟩
  ·exact I.aL d _ e
  ·exact(I.aL d _ e).2
 obtain⟨lo,_,r⟩:=yx ok
 exact⟨lo,r⟩
def CU{d:Addr}{aw:List (List Key×V)}(I:Inv X ae σ H s)(e:Rd H d (.dT aw)):(d==sysModules)=false/\∃o es ep,s.heap.get? d=some o/\o.ExactDict/\o.data=.dict es ep/\es.size=aw.length/\∀(i:Nat) (h:i<es.size),∃b k v,es[i].key=.ref b/\aw[i]?=some (k,v)/\H b=some (.tup (k.map kV)):=by
 obtain⟨lo,o,es,ep,h1,h2,h3,hl,hk⟩:=xk I e
 exact⟨lo,o,es,ep,h1,h2,h3,hl,λi hi=>let⟨b,k,v,e1,e2,e3,_⟩:=hk i hi;⟨b,k,v,e1,e2,e3⟩⟩
def yK(I:Inv X ae σ H s){a:Addr}{aw:List (List Key×V)}{nss:List (List Int)}{es:Array DictEntry}{acc:Array Value}(hk:aw.map (·.1)=nss.map (·.map .inl))(uw:es.size=aw.length)(uL:∀(i:Nat) (h:i<es.size),∃b k v,es[i].key=.ref b/\aw[i]?=some (k,v)/\H b=some (.tup (k.map kV)))(it:ItemsOf (λi v=>∃h:i<es.size,v=es[i].key) acc es.size):∃vs:List V,Vals vs acc.toList/\Paired (λv ns=>∃b,v=V.ref b/\H b=some (.tup (ns.map V.int))) vs nss:=by
 have hn:nss.length=aw.length:=by have:=congrArg List.length hk;simpa using this.symm
 have hs:acc.toList.length=nss.length:=by rw [zzd,it.1];omega
 have ev:∀(i:Nat) v ns,acc.toList[i]?=some v->nss[i]?=some ns->∃b,v=.ref b/\H b=some (.tup (ns.map V.int)):=λi v ns e1 e2=>by
  obtain⟨hi,ev⟩:=it.2 i v (by rw [<-Array.getElem?_toList];exact e1)
  obtain⟨b,k,x,g1,g2,g3⟩:=uL i hi
  refine⟨b,ev.trans g1,?_⟩;have Ha:k=ns.map .inl:=by
   have:=congrArg (λl=>l[i]?) hk
   simp! [zzQ,g2,e2,Option.map_some] at this;exact zzq this
  rw [g3,Ha,List.map_map]
  rfl
 clear it uL hk I
 generalize acc.toList=us at hs ev
 clear hn
 induction nss generalizing us with
 |nil=>cases us with
  |nil=>exact⟨[],.nil,.nil⟩
  |cons u us=>simp at hs
 |cons ns nss ih=>
  cases us with
  |nil=>simp at hs
  |cons u us=>
   obtain⟨vs,h1,h2⟩:=ih us (by simpa using hs) λi v ns e1 e2=>ev (i+1) v ns (by simpa using e1) (by simpa using e2)
   obtain⟨b,rfl,hb⟩:=ev 0 u ns rfl rfl
   exact⟨.ref b::vs,.cons rfl h1,.cons ⟨b,rfl,hb⟩ h2⟩
def tV(hc:X.calm=true):cN X (.type "list") (λxs H Q=>∃a aw,∃nss:List (List Int),xs=[V.ref a]/\Rd H a (.dT aw)/\aw.map (·.1)=nss.map (·.map .inl)/\aw.length<=sizeLine/\
 ∀p vs,H p=none->Paired (λv ns=>∃b,v=V.ref b/\H b=some (.tup (ns.map V.int))) vs nss->Q (.ref p) (upd H p (.lst vs))):=by
 intro ae s σ H xs us Q I r h;obtain⟨a,aw,nss,rfl,hl,hk,hz,q⟩:=h
 obtain⟨u,rfl,ru⟩:=vals1 r
 cases ru;obtain⟨lo,o,es,ep,h0,hx,h3,uw,uL⟩:=CU I hl
 refine kdl_call (yd lo hx h3) (I.ok.hd hc) h0 (by omega) λh' tk acc c kp hS it=>?_
 obtain⟨vs,rv,pv⟩:=yK I (a:=a) hk uw uL it
 have hn:acc.toList.length=vs.length:=rv.length.symm
 refine⟨.ref (zz9 s),upd H (zz9 s) (.lst vs),I.laid (a:=(zz9 s)) (t':=tk) kp (zzE _) ⟨?_,_,c,rv,?_⟩,rfl,q _ vs (I.aL.fresh (zzE _)) pv⟩
 ·rw [<-hn,zzd,it.1];omega
 ·exact hS
end
end L2
namespace Ci
open PySem L2
def bj{p:Prop}(h:false=true):p:=absurd h zzf
inductive PV where
 |aC|bl (b:Bool)|int (i:Int)|str (z:Str)
 |tup (xs:List PV)|lst (xs:List PV)
 |exc (c:Str)
 |bw (ks:List (List Int)) (vs:List PV)
 deriving Inhabited
structure Wd where
 K:zz8
 mg:Str->Option Value
 xs:List Str
 ts:List (Addr×Str):=[]
def qd(K:zz8)(H:Hp)(a:Addr)(vs:List V):Prop:=
 Rd H a (.lst vs)\/∃(ax:Array Value) (n:Nat),K.lookup a=some {cls:=.type "list",data:=.seq ax n}/\ax.size<=sizeLine/\Vals vs ax.toList
def JS(K:zz8)(G:Hp)(a:Addr)(vs:List V):Prop:=G a=some (.tup vs)\/fF K G a vs/\∃z,V.str z∈vs
theorem JS.sq{K:zz8}{G:Hp}{a:Addr}{vs:List V}:JS K G a vs->fF K G a vs
 |.inl h=>.inl (.inl h)
 |.inr h=>h.1
def kz(ks:List (List Int))(us:List V):List (List Key×V):=(ks.map λk=>k.map Sum.inl).zip us
mutual
def Rep(W:Wd)(G:Hp):PV->V->Prop
 |.aC,v=>v=.aC
 |.bl b,v=>v=.bl b
 |.int i,v=>v=.int i
 |.str z,v=>v=.str z
 |.tup xs,v=>∃a vs,v=.ref a/\JS W.K G a vs/\ai W G xs vs
 |.lst xs,v=>∃a vs,v=.ref a/\qd W.K G a vs/\ai W G xs vs
 |.exc c,v=>∃a C,v=.ref a/\c∈W.xs/\W.mg c=some (.ref C)/\G a=some (Ku a C)
 |.bw ks vs,v=>∃a o us,v=.ref a/\ks.length=us.length/\G a=some (.bp o (.dT (kz ks us)))/\ai W G vs us
def ai(W:Wd)(G:Hp):List PV->List V->Prop
 |[],vs=>vs=[]
 |p::ps,vs=>∃v r,vs=v::r/\Rep W G p v/\ai W G ps r
end
def aA.tup{K:zz8}{H H':Hp}{a:Addr}{xs:List V}(e:aA H H')(h:fF K H a xs):fF K H' a xs:=by
 rcases h with(h|⟨o,h⟩)|h
 ·exact .inl (.inl (e _ _ h))
 ·exact .inl (.inr ⟨o,e _ _ h⟩)
 ·exact .inr h
def aA.tp{K:zz8}{H H':Hp}{a:Addr}{xs:List V}(e:aA H H')(h:JS K H a xs):JS K H' a xs:=h.elim (λz=>.inl (e _ _ z)) λz=>.inr ⟨aA.tup e z.1,z.2⟩
def aA.rd{H H':Hp}{a:Addr}{u:HO}(e:aA H H')(h:Rd H a u):Rd H' a u:=by
 rcases h with h|⟨o,h⟩
 ·exact .inl (e _ _ h)
 ·exact .inr ⟨o,e _ _ h⟩
def aA.ls{K:zz8}{H H':Hp}{a:Addr}{vs:List V}(e:aA H H')(h:qd K H a vs):qd K H' a vs:=h.elim (λz=>.inl (aA.rd e z)) .inr
section
variable{W:Wd}{G G':Hp}
mutual
theorem Rep.same(s:aA G G'):∀(p:PV) {v:V},Rep W G p v->Rep W G' p v
 |.aC,_,h=>by simpa only [Rep] using h
 |.bl b,_,h=>by simpa only [Rep] using h
 |.int i,_,h=>by simpa only [Rep] using h
 |.str z,_,h=>by simpa only [Rep] using h
 |.tup xs,_,h=>by
  simp! [Rep] at h⊢;obtain⟨a,vs,e,q,l⟩:=h
  exact⟨a,vs,e,aA.tp s q,ai.same s xs l⟩
 |.lst xs,_,h=>by
  simp! [Rep] at h⊢;obtain⟨a,vs,e,q,l⟩:=h
  exact⟨a,vs,e,aA.ls s q,ai.same s xs l⟩
 |.exc c,_,h=>by
  simp! [Rep] at h⊢;obtain⟨a,C,e,x,m,q⟩:=h
  exact⟨a,C,e,x,m,s _ _ q⟩
 |.bw ks vs,_,h=>by
  simp! [Rep] at h⊢;obtain⟨a,o,us,e,n,m,l⟩:=h
  exact⟨a,o,us,e,n,s _ _ m,ai.same s vs l⟩
theorem ai.same(s:aA G G'):∀(ps:List PV) {vs:List V},ai W G ps vs->ai W G' ps vs
 |[],_,h=>by simpa only [ai] using h
 |p::ps,_,h=>by
  simp! [ai] at h⊢;obtain⟨v,r,e,h1,h2⟩:=h
  exact⟨v,r,e,Rep.same s p h1,ai.same s ps h2⟩
end
theorem ai.paired:∀{ps:List PV} {vs:List V},ai W G ps vs->Paired (λv p=>Rep W G p v) vs ps
 |[],_,h=>by simp! [ai] at h;subst h;exact .nil
 |p::ps,_,h=>by
  simp! [ai] at h;obtain⟨v,r,rfl,h1,h2⟩:=h
  exact .cons h1 (ai.paired h2)
def ai.length{ps:List PV}{vs:List V}(h:ai W G ps vs):vs.length=ps.length:=km h.paired
def ai.nil:ai W G [] []:=by simp! [ai]
def ai.cons{p:PV}{v:V}{ps:List PV}{vs:List V}(h:Rep W G p v)(t:ai W G ps vs):ai W G (p::ps) (v::vs):=by simp! [ai];exact⟨_,_,rfl,h,t⟩
def ai.bK{p:PV}{ps:List PV}{vs:List V}(h:ai W G (p::ps) vs):∃v r,vs=v::r/\Rep W G p v/\ai W G ps r:=by simpa only [ai] using h
theorem ai.append:∀{ps qs:List PV} {vs us:List V},ai W G ps vs->ai W G qs us->ai W G (ps++qs) (vs++us)
 |[],_,_,_,h,k=>by simp! [ai] at h;subst h;exact k
 |p::ps,_,_,_,h,k=>by
  obtain⟨v,r,rfl,h1,h2⟩:=h.bK
  exact .cons h1 (h2.append k)
def ai.get:∀{ps:List PV} {vs:List V} {i:Nat} {v:V},ai W G ps vs->vs[i]?=some v->∃p,ps[i]?=some p/\Rep W G p v:=λh e=>n6 h.paired e
theorem ai.p8:∀{ps:List PV} {vs:List V} {i:Nat} {p:PV},ai W G ps vs->ps[i]?=some p->∃v,vs[i]?=some v/\Rep W G p v
 |[],_,_,_,_,e=>by simp at e
 |p::ps,_,0,q,h,e=>by
  obtain⟨v,r,rfl,h1,h2⟩:=h.bK
  simp at e;subst e;exact⟨v,rfl,h1⟩
 |p::ps,_,i+1,q,h,e=>by
  obtain⟨v,r,rfl,h1,h2⟩:=h.bK
  obtain⟨u,e1,k⟩:=h2.p8 (i:=i) (by simpa using e)
  exact⟨u,by simpa using e1,k⟩
theorem ai.drop:∀{ps:List PV} {vs:List V} (n:Nat),ai W G ps vs->ai W G (ps.drop n) (vs.drop n)
 |_,_,0,h=>by simpa using h
 |[],_,n+1,h=>by simp! [ai] at h;subst h;simp! [List.drop_nil];exact .nil
 |p::ps,_,n+1,h=>by
  obtain⟨v,r,rfl,h1,h2⟩:=h.bK
  simpa using h2.drop n
theorem ai.take:∀{ps:List PV} {vs:List V} (n:Nat),ai W G ps vs->ai W G (ps.take n) (vs.take n)
 |_,_,0,h=>by simp! [List.take_zero];exact .nil
 |[],_,n+1,h=>by simp! [ai] at h;subst h;simp! [List.take_nil];exact .nil
 |p::ps,_,n+1,h=>by
  obtain⟨v,r,rfl,h1,h2⟩:=h.bK
  simp! [List.take_succ_cons];exact .cons h1 (h2.take n)
end
def iA(H H':Hp):Prop:=∀b o,H b=some o->(∀ps,o≠.fY ps)/\H' b=some o\/∃ps m,o=.fY ps/\H' b=some (.fY (ps++m))
def iA.refl(H:Hp):iA H H:=λb o h=>by
 cases o with
 |fY ps=>exact .inr ⟨ps,#[],rfl,by simpa using h⟩
 |_=>exact .inl ⟨(λ_ z=>nomatch z),h⟩
def iA.trans{H H1 H2:Hp}(a:iA H H1)(b:iA H1 H2):iA H H2:=λc o h=>by
 rcases a c o h with⟨n,e⟩|⟨ps,m,rfl,e⟩
 ·rcases b c o e with y|⟨ps,m,rfl,e2⟩
  ·exact .inl y
  ·exact absurd rfl (n ps)
 ·rcases b c _ e with⟨n,_⟩|⟨qj,m',e2,e3⟩
  ·exact absurd rfl (n _)
  ·cases e2;exact .inr ⟨ps,m++m',rfl,by rw [e3,Array.append_assoc]⟩
def iA.free{H H':Hp}(e:iA H H'){l:Addr}(h:H' l=Option.none):H l=Option.none:=by
 cases q:H l with
 |none=>rfl
 |some o=>
  rcases e l o q with⟨_,z⟩|⟨_,_,_,z⟩
  ·rw [h] at z;cases z
  ·rw [h] at z;cases z
def iA.at{H H':Hp}(e:iA H H'){b:Addr}{o:HO}(h:H b=some o)(n:∀ps,o≠.fY ps):H' b=some o:=by
 rcases e b o h with⟨_,z⟩|⟨ps,_,rfl,_⟩
 ·exact z
 ·exact absurd rfl (n ps)
def iA.vj{H H':Hp}(e:iA H H'){b:Addr}(h:H b≠none)(n:∀vs,H b≠some (.tup vs)):∀vs,H' b≠some (.tup vs):=λvs z=>by
 cases q:H b with
 |none=>exact h q
 |some o=>
  rcases e b o q with⟨_,y⟩|⟨_,_,_,y⟩
  ·rw [z] at y;cases y;exact n vs q
  ·rw [z] at y;cases y
def iA.of{H H':Hp}(e:aA H H'):iA H H':=λb o h=>by
 cases o with
 |fY ps=>exact .inr ⟨ps,#[],rfl,by simpa using e _ _ h⟩
 |_=>exact .inl ⟨(λ_ z=>nomatch z),e _ _ h⟩
def iA.tup{K:zz8}{H H':Hp}{a:Addr}{xs:List V}(e:iA H H')(h:fF K H a xs):fF K H' a xs:=by
 rcases h with(h|⟨o,h⟩)|h
 ·exact .inl (.inl (e.at h (λ_ z=>nomatch z)))
 ·exact .inl (.inr ⟨o,e.at h (λ_ z=>nomatch z)⟩)
 ·exact .inr h
def iA.ls{K:zz8}{H H':Hp}{a:Addr}{vs:List V}(e:iA H H')(h:qd K H a vs):qd K H' a vs:=by
 rcases h with(h|⟨o,h⟩)|h
 ·exact .inl (.inl (e.at h (λ_ z=>nomatch z)))
 ·exact .inl (.inr ⟨o,e.at h (λ_ z=>nomatch z)⟩)
 ·exact .inr h
def cK(W:Wd)(G H:Hp):Prop:=∀P q,(P,q)∈W.ts->G P=none/\∃ps,H P=some (.fY ps)/\TriplesOk ps.toList/\
 ∀pos cv,codeAmong pos ps.toList=some cv->∃c' oc df t,cv=.ref c'/\G c'=some (.bp oc bF)/\oc.data=.fields df/\df[1]?=some (.str q t)
theorem cK.same{W:Wd}{G G' H H':Hp}(t:cK W G H)(g:aA G G')(own:∀a,H a≠none->(∀vs,H a≠some (.tup vs))->G a=none->G' a=none)(h:∀P ps,H P=some (.fY ps)->H' P=some (.fY ps)):cK W G' H':=λP q m=>by
 obtain⟨n,ps,e,tr,al⟩:=t P q m
 refine⟨own P (by rw [e];exact λz=>nomatch z) (by rw [e];exact λ_ z=>nomatch z) n,ps,h P ps e,tr,λpos cv y=>?_⟩
 obtain⟨c',oc,df,t,e1,e2,e3,e4⟩:=al pos cv y
 exact⟨c',oc,df,t,e1,g _ _ e2,e3,e4⟩
structure aB(W:Wd)(G H G' H':Hp):Prop where
 g:aA G G'
 h:iA H H'
 sub:aA G' H'
 own:∀a,H a≠none->(∀vs,H a≠some (.tup vs))->G a=none->G' a=none
 tab:cK W G H->cK W G' H'
section
variable{W:Wd}
def aB.refl{G H:Hp}(s:aA G H):aB W G H G H:=⟨aA.refl _,iA.refl _,s,λ_ _ _ h=>h,id⟩
def aB.trans{G H G1 H1 G2 H2:Hp}(a:aB W G H G1 H1)(b:aB W G1 H1 G2 H2):aB W G H G2 H2:=
 ⟨a.g.trans b.g,a.h.trans b.h,b.sub,λx hx ht hg=>b.own x (λz=>hx (a.h.free z)) (a.h.vj hx ht) (a.own x hx ht hg),λt=>b.tab (a.tab t)⟩
def oN{H:Hp}{p:Addr}{o:HO}(h:∀ps,H p≠some (.fY ps))(P:Addr)(ps:Array Value)(e:H P=some (.fY ps)):upd H p o P=some (.fY ps):=by
 rw [ag (λz=>by subst z;exact h ps e)];exact e
theorem aB.new{G H:Hp}{p:Addr}{o:HO}(s:aA G H)(h:H p=none):aB W G H (upd G p o) (upd H p o) where
 g:=bB (s.free h)
 h:=.of (bB h)
 sub:=λb u e=>by
  by_cases hb:b=p
  ·subst hb;rw [aq] at e⊢;exact e
  ·rw [ag hb] at e⊢;exact s _ _ e
 own:=λa ha _ hg=>by
  have:a≠p:=λz=>by subst z;exact ha h
  rw [ag this];exact hg
 tab:=λt=>t.same (bB (s.free h)) (λa ha _ hg=>by
  have:a≠p:=λz=>by subst z;exact ha h
  rw [ag this];exact hg) (oN (λps z=>by rw [h] at z;cases z))
def aB.adopt{G H:Hp}{b:Addr}{vs:List V}(s:aA G H)(h:H b=some (.tup vs)):aB W G H (upd G b (.tup vs)) H:=by
 have sm:aA G (upd G b (.tup vs)):=λc u e=>by
  by_cases hc:c=b
  ·subst hc;rw [aq];have:=s _ _ e;rw [h] at this;exact this
  ·rw [ag hc];exact e
 have ow:∀a,H a≠none->(∀vs,H a≠some (.tup vs))->G a=none->upd G b (.tup vs) a=none:=λa _ n e=>by
  have:a≠b:=λz=>by subst z;exact n vs h
  rw [ag this];exact e
 exact⟨sm,iA.refl _,λc u e=>by
  by_cases hc:c=b
  ·subst hc;rw [aq] at e;cases e;exact h
  ·rw [ag hc] at e;exact s _ _ e,ow,λt=>t.same sm ow λ_ _ e=>e⟩
def aB.OK{G H:Hp}{p:Addr}{o:HO}(s:aA G H)(h:H p=none):aB W G H G (upd H p o):=
 ⟨aA.refl _,.of (bB h),s.trans (bB h),λ_ _ _ hg=>hg,λt=>t.same (aA.refl _) (λ_ _ _ h=>h) (oN (λps z=>by rw [h] at z;cases z))⟩
end
def aZ(scope:Scope):List Str:=((scope.names.filter λp=>p.2==.free).map (·.1)).reverse
def okN(x:Str):Bool:=!(x=="__debug__")&&!(x=="__classdict__")&&!(x=="__name__")
def gf(x:Str):Bool:=x.cps.toList.contains 64
def ij{α:Type}{a:α}{p:Prop}(h:(none:Option α)=some a):p:=nomatch h
def zN{α:Type}{o:Option α}{f:α->Bool}(h:o.any f=true):∃x,o=some x/\f x=true:=by
 cases o with
 |none=>cases h
 |some x=>exact⟨x,rfl,h⟩
def fx:Expr->Option Str
 |.Name x _=>some x
 |_=>none
def b9{e:Expr}{x:Str}(h:fx e=some x):∃p,e=.Name x p:=by
 cases e with
 |Name y p=>cases h;exact⟨_,rfl⟩
 |_=>exact ij h
def FN:Expr->Option (Expr×List Expr×List Keyword×Pos)
 |.Call f a k p=>some (f,a,k,p)
 |_=>none
def jb{e:Expr}{q:Expr×List Expr×List Keyword×Pos}(h:FN e=some q):e=.Call q.1 q.2.1 q.2.2.1 q.2.2.2:=by
 cases e with
 |Call f a k p=>cases h;rfl
 |_=>exact ij h
def Oi:List Arg->Option (List Str)
 |[]=>some []
 |[a]=>some [a.arg]
 |_=>none
noncomputable def p7(p:Arguments):Option (List Str):=if(p.posonlyargs.isEmpty&&p.vararg.isNone&&p.kwonlyargs.isEmpty&&p.kw_defaults.isEmpty&&p.kwarg.isNone&&p.defaults.isEmpty)=true then Oi p.args else none
def vc{p:Arguments}{ps:List Str}(h:p7 p=some ps):(p=⟨[],[],none,[],[],none,[]⟩/\ps=[])\/∃a,p=⟨[],[a],none,[],[],none,[]⟩/\ps=[a.arg]:=by
 obtain⟨a,b,c,d,e,f,g⟩:=p
 unfold p7 at h;split at h
 ·rename_i q;simp! [zza,List.isEmpty_iff,Option.isNone_iff_eq_none] at q;obtain⟨⟨⟨⟨⟨q1,q2⟩,q3⟩,q4⟩,q5⟩,q6⟩:=q
  subst q1 q2 q3 q4 q5 q6;cases b with
  |nil=>cases h;exact .inl ⟨rfl,rfl⟩
  |cons a b=>
   cases b with
   |nil=>cases h;exact .inr ⟨a,rfl,rfl⟩
   |cons _ _=>exact ij h
 ·exact ij h
def eR:List Expr->List (Option Str)->Bool
 |[],[]=>true
 |.Name x _::r,some y::t=>x==y&&okN x&&eR r t
 |_,_=>false
noncomputable def M9(ps:List Str)(scope:Scope):Bool:=
 scope.kind==.function&&!scope.isCoroutine&&!scope.isGenerator&&decide ((ps++aZ scope).Nodup)&&(scope.names.all λy=>decide (y.2≠.cell))&&(ps.all λx=>decide (scope.names.lookup x=some .local))&&((aZ scope).all λx=>decide (scope.names.lookup x=some .free))
noncomputable def Cg(g:Str)(idx:List Nat)(params:Arguments)(body:Expr)(scope:Scope):Bool:=(p7 params).any λps=>(FN body).any λq=>fx q.1==some g&&q.2.2.1.isEmpty&&!q.2.1.isEmpty&&decide (idx.head?=some ps.length)&&scope.names.lookup g==some .globalImplicit&&okN g&&!gf g&&eR q.2.1 (idx.tail.map λi=>(ps++aZ scope)[i]?)&&M9 ps scope
structure NN(W:Wd)(G:Hp)(g:Str)(idx:List Nat)(cX:List PV)(f c':Addr)(oc:Obj)(df:Array Value)(t:Tok)(fJ pm:Value)(params:Arguments)(body:Expr)(scope:Scope)(qual:Str)(cl:List (Str×Addr))(Z:List (Addr×Obj))(ws:List V):Prop where
 lg:Cg g idx params body scope=true
 fo:G f=some (.bp (PySem.W.kla_obj "<lambda>" qual params body scope cl pm c' fJ) bF)
 co:G c'=some (.bp oc bF)
 cd:oc.data=.fields df
 cn:df[1]?=some (.str qual t)
 fz:Z.lookup f=none
 cz:Z.lookup c'=none
 inj:∀x y c,cl.lookup x=some c->cl.lookup y=some c->x=y
 has:∀y∈aZ scope,∃c,cl.lookup y=some c
 cells:∀x c,cl.lookup x=some c->∃o v,Z.lookup c=some o/\o.data=.cell v
 zs:∀b o,Z.lookup b=some o->G b=some (.bp o bF)
 zc:∀b o,Z.lookup b=some o->∃v,o.data=.cell v
 vals:∀(i:Nat) y c,(aZ scope)[i]?=some y->cl.lookup y=some c->∀v,ws[i]?=some v->∃u o,RelV v u/\Z.lookup c=some o/\o.data=.cell (some u)
 len:ws.length=(aZ scope).length
 rep:ai W (aV Z G) cX ws
def oB(W:Wd)(G:Hp)(g:Str)(idx:List Nat)(cX:List PV)(v:V):Prop:=∃f c' oc df t fJ pm params body scope qual cl Z ws,v=.ref f/\NN W G g idx cX f c' oc df t fJ pm params body scope qual cl Z ws
theorem nu{Z:List (Addr×Obj)}{G G':Hp}(s:aA G G'):aA (aV Z G) (aV Z G'):=λb u e=>by
 obtain⟨q,e1⟩:=eo e
 rw [ay q];exact s _ _ e1
def oB.same{W:Wd}{G G':Hp}{g:Str}{idx:List Nat}{cX:List PV}{v:V}(s:aA G G')(h:oB W G g idx cX v):oB W G' g idx cX v:=by
 obtain⟨f,c',oc,df,t,fJ,pm,params,body,scope,qual,cl,Z,ws,e,d⟩:=h
 exact⟨f,c',oc,df,t,fJ,pm,params,body,scope,qual,cl,Z,ws,e,⟨d.lg,s _ _ d.fo,s _ _ d.co,d.cd,d.cn,d.fz,d.cz,d.inj,d.has,d.cells,λb o q=>s _ _ (d.zs b o q),d.zc,d.vals,d.len,ai.same (nu s) cX d.rep⟩⟩
inductive Slot where
 |no|val (p:PV)|own (p:PV)|fn (g:Str) (idx:List Nat) (cX:List PV)
 deriving Inhabited
abbrev Sl:=List Slot
def Own(W:Wd)(H0 G H:Hp):PV->V->Prop
 |.lst xs,v=>∃a vs,v=.ref a/\H a=some (.lst vs)/\G a=none/\H0 a=none/\ai W G xs vs
 |.bw ks ps,v=>∃a us,v=.ref a/\ks.length=us.length/\H a=some (.dT (kz ks us))/\G a=none/\H0 a=none/\ai W G ps us
 |_,_=>False
def Top(W:Wd)(H0 G H:Hp)(p:PV)(v:V):Prop:=Rep W G p v\/Own W H0 G H p v
def Fb(W:Wd)(H0 G H:Hp):Slot->Option V->Prop
 |.no,_=>True
 |.val p,o=>∃v,o=some v/\Rep W G p v
 |.own p,o=>∃v,o=some v/\Own W H0 G H p v
 |.fn g idx cX,o=>∃v,o=some v/\oB W G g idx cX v
structure SR(W:Wd)(H0:Hp)(env:Sl)(σ:St)(G H:Hp):Prop where
 len:env.length=σ.length
 sub:aA G H
 base:iA H0 H
 slot:∀(i:Nat) (s:Slot),env[i]?=some s->∃o,σ[i]?=some o/\Fb W H0 G H s o
 apart:∀(i j:Nat) (p q:PV) (a:Addr),env[i]?=some (.own p)->env[j]?=some (.own q)->σ[i]?=some (some (.ref a))->σ[j]?=some (some (.ref a))->i=j
 tab:cK W G H
 mK:cK W G H0
section
variable{W:Wd}{H0 G H G' H':Hp}{env:Sl}{σ:St}
theorem Own.grow(g:aB W G H G' H'):∀{p:PV} {v:V},Own W H0 G H p v->Own W H0 G' H' p v
 |.lst xs,_,h=>by
  obtain⟨a,vs,e,h1,h2,h3,l⟩:=h
  exact⟨a,vs,e,g.h.at h1 (λ_ z=>nomatch z),g.own a (by rw [h1];exact λz=>by cases z) (by rw [h1];exact λ_ z=>by cases z) h2,h3,ai.same g.g xs l⟩
 |.bw ks ps,_,h=>by
  obtain⟨a,vs,e,n,h1,h2,h3,l⟩:=h
  exact⟨a,vs,e,n,g.h.at h1 (λ_ z=>nomatch z),g.own a (by rw [h1];exact λz=>by cases z) (by rw [h1];exact λ_ z=>by cases z) h2,h3,ai.same g.g ps l⟩
 |.aC,_,h=>h|.bl _,_,h=>h|.int _,_,h=>h|.str _,_,h=>h|.tup _,_,h=>h|.exc _,_,h=>h
theorem Fb.grow(g:aB W G H G' H'):∀{s:Slot} {o:Option V},Fb W H0 G H s o->Fb W H0 G' H' s o
 |.no,_,_=>trivial
 |.val p,_,h=>by obtain⟨v,e,r⟩:=h;exact⟨v,e,Rep.same g.g p r⟩
 |.own p,_,h=>by obtain⟨v,e,r⟩:=h;exact⟨v,e,r.grow g⟩
 |.fn _ _ _,_,h=>by obtain⟨v,e,r⟩:=h;exact⟨v,e,r.same g.g⟩
theorem SR.grow(r:SR W H0 env σ G H)(g:aB W G H G' H'):SR W H0 env σ G' H':=
 ⟨r.len,g.sub,r.base.trans g.h,λi s e=>by obtain⟨o,h1,h2⟩:=r.slot i s e;exact⟨o,h1,h2.grow g⟩,r.apart,g.tab r.tab,r.mK.same g.g (λa h1 h3 h2=>g.own a (λz=>h1 (r.base.free z)) (r.base.vj h1 h3) h2) λ_ _ h=>h⟩
def Top.grow{p:PV}{v:V}(g:aB W G H G' H')(h:Top W H0 G H p v):Top W H0 G' H' p v:=h.elim (λz=>.inl (Rep.same g.g p z)) λz=>.inr (z.grow g)
def Top.lst{xs:List PV}{v:V}(s:aA G H)(h:Top W H0 G H (.lst xs) v):∃a vs,v=.ref a/\qd W.K H a vs/\ai W G xs vs:=by
 rcases h with h|h
 ·simp! [Rep] at h;obtain⟨a,vs,e,q,l⟩:=h
  exact⟨a,vs,e,aA.ls s q,l⟩
 ·obtain⟨a,vs,e,h1,_,_,l⟩:=h
  exact⟨a,vs,e,.inl (.inl h1),l⟩
def Top.tup{xs:List PV}{v:V}(s:aA G H)(h:Top W H0 G H (.tup xs) v):∃a vs,v=.ref a/\fF W.K H a vs/\ai W G xs vs:=by
 rcases h with h|h
 ·simp! [Rep] at h;obtain⟨a,vs,e,q,l⟩:=h
  exact⟨a,vs,e,aA.tup s q.sq,l⟩
 ·exact h.elim
def Top.tupI{xs:List PV}{v:V}{ns:List Int}(s:aA G H)(hx:xs=ns.map .int)(h:Top W H0 G H (.tup xs) v):∃a,v=.ref a/\G a=some (.tup (ns.map V.int)):=by
 rcases h with h|h
 ·simp! [Rep] at h;obtain⟨a,vs,e,q,l⟩:=h
  have ev:vs=ns.map V.int:=by
   subst hx
   clear q e
   induction ns generalizing vs with
   |nil=>simp! [List.map_nil,ai] at l;exact l
   |cons n ns ih=>
    obtain⟨u,r,rfl,h1,h2⟩:=l.bK
    simp! [Rep] at h1;rw [h1,ih r h2]
    rfl
  subst ev;rcases q with q|⟨_,z,hz⟩
  ·exact⟨a,e,q⟩
  ·obtain⟨n,_,hn⟩:=zzx.mp hz
   cases hn
 ·exact h.elim
def Top.bw{ks:List (List Int)}{ps:List PV}{v:V}(s:aA G H)(h:Top W H0 G H (.bw ks ps) v):∃a us,v=.ref a/\ks.length=us.length/\Rd H a (.dT (kz ks us))/\ai W G ps us:=by
 rcases h with h|h
 ·simp! [Rep] at h;obtain⟨a,o,us,e,n,q,l⟩:=h
  exact⟨a,us,e,n,.inr ⟨o,s _ _ q⟩,l⟩
 ·obtain⟨a,vs,e,n,q,_,_,l⟩:=h
  exact⟨a,vs,e,n,.inl q,l⟩
def Top.int{i:Int}{v:V}(h:Top W H0 G H (.int i) v):v=.int i:=h.elim (λz=>by simpa only [Rep] using z) λz=>z.elim
def Top.bl{b:Bool}{v:V}(h:Top W H0 G H (.bl b) v):v=.bl b:=h.elim (λz=>by simpa only [Rep] using z) λz=>z.elim
def Top.str{b:Str}{v:V}(h:Top W H0 G H (.str b) v):v=.str b:=h.elim (λz=>by simpa only [Rep] using z) λz=>z.elim
def Top.aC{v:V}(h:Top W H0 G H .aC v):v=.aC:=h.elim (λz=>by simpa only [Rep] using z) λz=>z.elim
def Rep.i{i:Int}:Rep W G (.int i) (.int i):=by simp! [Rep]
def Rep.b{i:Bool}:Rep W G (.bl i) (.bl i):=by simp! [Rep]
def Rep.s{i:Str}:Rep W G (.str i) (.str i):=by simp! [Rep]
def Rep.n:Rep W G .aC .aC:=by simp! [Rep]
def Rep.l{a:Addr}{xs:List PV}{vs:List V}(h:qd W.K G a vs)(l:ai W G xs vs):Rep W G (.lst xs) (.ref a):=by simp! [Rep];exact⟨a,vs,rfl,h,l⟩
def Rep.t{a:Addr}{xs:List PV}{vs:List V}(h:JS W.K G a vs)(l:ai W G xs vs):Rep W G (.tup xs) (.ref a):=by simp! [Rep];exact⟨a,vs,rfl,h,l⟩
end
end Ci
namespace L2
open PySem PySem.Spec PyProof.Rows
end L2
namespace HT
open PySem PySem.Spec PyProof.Rows
section
end
end HT
namespace L2
open PySem PySem.Spec PyProof.Rows
end L2
namespace L2
open PySem PySem.Spec PyProof.Rows PySem.W
end L2
namespace L2
open PySem PySem.Spec PyProof.Rows
section
variable{X:Cx}
def xw(hc:X.calm=true):cN X (.builtin "sum") (λxs H Q=>∃(p:Addr) (ns:List Int),xs=[.ref p]/\fV X.K H p (ns.map V.int)/\PyProof.Rows.SumFits ns/\Q (.int ns.sum) H):=by
 intro ae s σ H xs us Q I r h;obtain⟨p,ns,rfl,hp,hfit,q⟩:=h
 obtain⟨u,rfl,ru⟩:=vals1 r
 cases ru;obtain⟨ax,rv,pl,hz⟩:=I.list hp
 have cC:p<(zz9 s):=by obtain⟨_,e,_⟩:=pl.isList;exact zzO e
 have hlen:ax.length=ns.length:=by rw [<-rv.length,zzl]
 refine call_sum_walk (wpAny_pyIter_list pl.isList ?_);refine⟨(zz9 s),_,_,ax.toArray.size,_,_,λi=>ns.getD i 0,rfl,Walks.list (A:=X.A.in1) (I.ok.hd hc) (zz9 s) p (zzb cC) ax.toArray,⟨⟨_,zzX _ rfl,rfl,rfl⟩,pl.isList.push _⟩,λb hb=>?_,λi v hP=>?_,λj hj=>?_,λh' tk t' hk=>?_⟩
 ·have:b=(zz9 s)\/b=p:=by simpa using hb
  rw [Heap.size_push];rcases this with e|e
  ·rw [e];exact Nat.lt_succ_self _
  ·rw [e];exact Nat.lt_succ_of_lt cC
 ·have hv:ax[i]?=some v:=by simpa using hP
  have hi:i<ns.length:=by rw [<-hlen];exact(zzH.mp hv).1
  obtain⟨u,hu,t,ru⟩:=rv.get (i:=i) (x:=V.int ns[i]) (by rw [zzQ,zzg hi];rfl)
  rw [hv] at hu;cases hu;refine⟨t,?_⟩;show _=Value.int (ns.getD i 0) t
  rw [ru,zzK,zzg hi]
  rfl
 ·rw [zzC,hlen] at hj;have:=hfit j hj
  show InLong (ns.getD j 0)/\InLong (preSum (λi=>ns.getD i 0) (j+1))
  rw [preSum_getD];exact this
 ·rw [preSum_getD,zzC,hlen,List.take_length];exact⟨.int ns.sum,H,I.kept λb o e=>hk b o (by simp;exact zzb (zzO e)) (zzB _ e),⟨_,rfl⟩,q⟩
end
end L2
namespace Ci
open PySem L2
inductive Res(α:Type) where
 |ok (a:α)|exc (c:Str)|bad
@[inline] def Res.bind{α β:Type}:Res α->(α->Res β)->Res β
 |.ok a,f=>f a
 |.exc c,_=>.exc c
 |.bad,_=>.bad
instance:Monad Res where
 pure:=.ok
 bind:=Res.bind
def Res.aS{α β:Type}{r:Res α}{f:α->Res β}{b:β}(h:r.bind f=.ok b):∃a,r=.ok a/\f a=.ok b:=by
 cases r with
 |ok a=>exact⟨a,rfl,h⟩
 |exc c=>cases h
 |bad=>cases h
def Res.dH{α β:Type}{r:Res α}{f:α->Res β}{c:Str}(h:r.bind f=.exc c):r=.exc c\/∃a,r=.ok a/\f a=.exc c:=by
 cases r with
 |ok a=>exact .inr ⟨a,rfl,h⟩
 |exc c'=>cases h;exact .inl rfl
 |bad=>cases h
def Res.of{α:Type}:Option α->Res α
 |some a=>.ok a
 |none=>.bad
def Res.well{α:Type}:Res α->Res α
 |.ok a=>.ok a
 |_=>.bad
abbrev dF:Nat:=1000000
def eqs(f:PV->PV->Bool):List PV->List PV->Bool
 |[],[]=>true
 |x::xs,y::ys=>f x y&&eqs f xs ys
 |_,_=>false
noncomputable def js:Nat->PV->PV->Bool
 |_,.aC,.aC=>true
 |_,.bl a,.bl b=>a==b
 |_,.bl a,.int i=>(if a then 1 else 0)==i
 |_,.int i,.bl a=>i==(if a then 1 else 0)
 |_,.int i,.int j=>i==j
 |_,.str x,.str y=>x==y
 |n+1,.tup xs,.tup ys=>eqs (js n) xs ys
 |n+1,.lst xs,.lst ys=>eqs (js n) xs ys
 |_,_,_=>false
noncomputable def plain:Nat->PV->Bool
 |_,.aC=>true
 |_,.bl _=>true
 |_,.int _=>true
 |_,.str _=>true
 |n+1,.tup xs=>xs.all (plain n)
 |n+1,.lst xs=>xs.all (plain n)
 |_,_=>false
abbrev DP:Nat:=9
noncomputable abbrev eqv:PV->PV->Bool:=js DP
noncomputable abbrev xT:PV->Bool:=plain DP
inductive JP where|add|sub|mul|mod|fdiv
inductive yu where|eq|ne|lt|le|gt|is|xZ|Fy|jX
def aK(i:Int):Bool:=decide (-(2^64)<i)&&decide (i<2^64)
noncomputable def binOp:JP->PV->PV->Res PV
 |.add,.int i,.int j=>.ok (.int (i+j))
 |.add,.str x,.str y=>if x.length+y.length<=dF then .ok (.str (x++y)) else .bad
 |.add,.lst x,.lst y=>if x.length+y.length<=dF then .ok (.lst (x++y)) else .bad
 |.sub,.int i,.int j=>.ok (.int (i-j))
 |.mul,.int i,.int j=>if aK i||aK j then .ok (.int (i*j)) else .bad
 |.mod,.int i,.int j=>if 0<j then .ok (.int (i%j)) else .bad
 |.fdiv,.int i,.int j=>if 0<j/\j<1073741824 then .ok (.int (i/j)) else .bad
 |_,_,_=>.bad
def intsOf:List PV->Option (List Int)
 |[]=>some []
 |.int i::r=>(intsOf r).map (i::·)
 |_=>none
def au{α:Type}:List (List Int)->List α->List Int->Option α
 |k'::ks,v::vs,k=>if k'=k then some v else au ks vs k
 |_,_,_=>none
def cD(ks:List (List Int))(k:List Int):Bool:=ks.any λk'=>decide (k'=k)
def bA(ks:List (List Int))(k:List Int):List (List Int):=if cD ks k then ks else ks++[k]
def bf{α:Type}(ks:List (List Int))(vs:List α)(k:List Int)(p:α):List α:=if cD ks k then List.zipWith (λk' v=>if k'=k then p else v) ks vs else vs++[p]
def bU(ks:List (List Int))(k:List Int):List (List Int):=ks.filter λk'=>decide (k'≠k)
def aQ{α:Type}:List (List Int)->List α->List Int->List α
 |k'::ks,v::vs,k=>if k'=k then aQ ks vs k else v::aQ ks vs k
 |_,_,_=>[]
def af(k:List Int):PV:=.tup (k.map .int)
def fh:PV->Option (List Int)
 |.tup xs=>intsOf xs
 |_=>none
def tZ:List PV->Option (List (List Int×PV))
 |[]=>some []
 |.tup [x,y]::r=>(fh x).bind λk=>(tZ r).map ((k,y)::·)
 |_=>none
def en{α:Type}:List (List Int×α)->List (List Int)->List α->List (List Int)×List α
 |[],ks,vs=>(ks,vs)
 |p::r,ks,vs=>en r (bA ks p.1) (bf ks vs p.1 p.2)
noncomputable def pU(x:PV)(ys:List PV):Bool:=ys.any λy=>eqv y x
noncomputable def iB(a b:PV):Res PV:=if xT a&&xT b then .ok (.bl (eqv a b)) else .bad
noncomputable def hW(a b:PV):Res PV:=if xT a&&xT b then .ok (.bl (!eqv a b)) else .bad
def qC:PV->PV->Res PV
 |.int i,.int j=>.ok (.bl (decide (i<j)))
 |_,_=>.bad
def oV:PV->PV->Res PV
 |.int i,.int j=>.ok (.bl (decide (i<=j)))
 |_,_=>.bad
def uf:PV->PV->Res PV
 |.int i,.int j=>.ok (.bl (decide (j<i)))
 |_,_=>.bad
def yF:PV->Bool
 |.aC=>true
 |_=>false
def rq:PV->PV->Res PV
 |a,.aC=>.ok (.bl (yF a))
 |_,_=>.bad
def fQ:PV->PV->Res PV
 |a,.aC=>.ok (.bl (!yF a))
 |_,_=>.bad
noncomputable def sH:PV->PV->Res PV
 |a,.lst ys=>if xT a&&ys.all xT then .ok (.bl (pU a ys)) else .bad
 |_,_=>.bad
noncomputable def iW:PV->PV->Res PV
 |a,.lst ys=>if xT a&&ys.all xT then .ok (.bl (!pU a ys)) else .bad
 |a,.bw ks _=>(Res.of (fh a)).bind λk=>.ok (.bl (!cD ks k))
 |_,_=>.bad
noncomputable def dI:yu->PV->PV->Res PV
 |.eq=>iB|.ne=>hW|.lt=>qC|.le=>oV|.gt=>uf|.is=>rq|.xZ=>fQ|.Fy=>sH|.jX=>iW
noncomputable def aE:PV->PV->Res PV
 |.lst xs,.int i=>Res.of (pS xs i)
 |.tup xs,.int i=>Res.of (pS xs i)
 |.str z,.int i=>if z.length<=dF then(Res.of (pS z.cps.toList i)).bind λc=>.ok (.str ⟨#[c]⟩) else .bad
 |.bw ks vs,y=>(Res.of (fh y)).bind λk=>Res.of (au ks vs k)
 |_,_=>.bad
def sU{α:Type}(xs:List α)(lo hi:Option Int):List α:=(xs.drop (HT.mv xs.length 0 lo)).take (HT.mv xs.length xs.length hi-HT.mv xs.length 0 lo)
def gO:PV->Option Int->Option Int->Res PV
 |.lst xs,lo,hi=>.ok (.lst (sU xs lo hi))
 |_,_,_=>.bad
inductive B where|len|abs|max2|int|str|tuple|sum|dict|lY
def chars(z:Str):List PV:=z.cps.toList.map λc=>.str ⟨#[c]⟩
noncomputable def si:List PV->Res PV
 |[.lst xs]=>.ok (.int xs.length)
 |[.tup xs]=>.ok (.int xs.length)
 |[.str z]=>if z.length<=dF then .ok (.int z.length) else .bad
 |[.bw ks _]=>.ok (.int ks.length)
 |_=>.bad
def zv:List PV->Res PV
 |[.int i]=>.ok (.int (if i<0 then -i else i))
 |_=>.bad
def zK:List PV->Res PV
 |[.int i,.int j]=>.ok (.int (if j>i then j else i))
 |_=>.bad
def AI:List PV->Res PV
 |[.str z]=>if z.length<=640 then(Res.of (PySem.intText? z)).bind λn=>.ok (.int n) else .bad
 |_=>.bad
def Aj:List PV->Res PV
 |[.int i]=>if i.natAbs.log2<1920 then .ok (.str (toString i)) else .bad
 |_=>.bad
def kO:List PV->Res PV
 |[.lst xs]=>.ok (.tup xs)
 |_=>.bad
noncomputable def zP:List PV->Res PV
 |[.lst xs]=>(Res.of (intsOf xs)).bind λns=>if(ns.all λn=>decide (-(2^32)<n)&&decide (n<2^32))&&decide (ns.length<dF) then .ok (.int ns.sum) else .bad
 |_=>.bad
def mq:List PV->Res PV
 |[.bw ks _]=>if ks.length<=dF then .ok (.lst (ks.map af)) else .bad
 |_=>.bad
def nE:List PV->Res PV
 |[.lst xs]=>(Res.of (tZ xs)).bind λps=>.ok (.bw (en ps [] []).1 (en ps [] []).2)
 |_=>.bad
noncomputable def dN:B->List PV->Res PV
 |.len=>si|.abs=>zv|.max2=>zK|.int=>AI|.str=>Aj|.tuple=>kO|.sum=>zP|.dict=>nE|.lY=>mq
inductive Ty where|int|bool|tuple
def iD:Ty->PV->Bool
 |.int,.int _=>true
 |.int,.bl _=>true
 |.bool,.bl _=>true
 |.tuple,.tup _=>true
 |_,_=>false
def jy(t:Ty):PV->Res PV
 |.exc _=>.bad
 |.bw _ _=>.bad
 |p=>.ok (.bl (iD t p))
inductive Tg where
 |one (i:Nat)|two (i j:Nat)
mutual
inductive E where
 |var (i:Nat)|eE (i:Nat)
 |cst (p:PV)
 |glob (g:Str) (p:PV)
 |call (f:Str) (as:Es)
 |iH (i:Nat) (as:Es)
 |kM (f:Str) (as:Es) (g:Str) (idx:List Nat) (aU:List Nat)
 |blt (b:B) (as:Es)
 |ty (t:Ty) (a:E)
 |bin (o:JP) (a b:E)
 |cmp (o:yu) (a b:E)
 |ch (o1 o2:yu) (a b c:E)
 |not (a:E)
 |neg (a:E)
 |and (a b:E)|or (a b:E)
 |ite (c a b:E)
 |tup (as:Es)|lst (as:Es)
 |sub (a b:E)
 |slice (a:E) (lo hi:Oe)
 |comp (k:Nat) (aU:List Nat) (tg:Tg) (it:I) (elt:E)
 |bT (k:Nat) (aU:List Nat) (tg:Tg) (it:I) (c elt:E)
 |yP (a:E)
 |get (a k:E)
inductive Es where
 |nil|cons (e:E) (es:Es)
inductive Oe where
 |no|some (e:E)
inductive I where
 |seq (e:E)|qR (e:E)|lF (a b:E)|enum (e:E)
end
mutual
inductive S where
 |expr (e:E)
 |set (i:Nat) (e:E)
 |FI (tg:Tg) (e:E)
 |own (i:Nat) (e:E)
 |bp (i:Nat)
 |app (i:Nat) (e:E)
 |qG (i:Nat) (e:E)
 |put (i:Nat) (k e:E)
 |ret (e:E)
 |ite (c:E) (a b:Ss)
 |cM (tg:Tg) (it:I) (b:Ss)
 |Bj (c:E) (b:Ss)
 |raise (c:Str) (m:Str)
 |brk
 |iN (i:Nat)
 |kI (i n:Nat) (b:PV)
 |eh (i j n:Nat)
 |mn (m i:Nat)
inductive Ss where
 |nil|cons (s:S) (ss:Ss)
end
def e9:List Int->Nat->Nat->Int->Nat
 |[],_,b,_=>b
 |c::cs,j,b,m=>if c<m then e9 cs (j+1) j c else e9 cs (j+1) b m
def AW:List Int->Option Nat
 |[]=>none
 |c::cs=>some (e9 cs 1 0 c)
def iq:List PV->Option (List Int)
 |[]=>some []
 |.tup (.int c::_)::r=>(iq r).map (c::·)
 |_=>none
abbrev aH:=Str->List PV->Res PV
def fO:Option Slot->Res PV
 |some (.val p)=>.ok p
 |_=>.bad
def AR:Option Slot->Res PV
 |some (.val p)=>.ok p
 |some (.own p)=>.ok p
 |_=>.bad
def Tg.put:Tg->PV->Sl->Res Sl
 |.one i,p,env=>.ok (env.set i (.val p))
 |.two i j,.tup [a,b],env=>.ok ((env.set i (.val a)).set j (.val b))
 |_,_,_=>.bad
def i5(env:Sl):List Nat->Res (List PV)
 |[]=>.ok []
 |i::r=>(fO env[i]?).bind λp=>(i5 env r).bind λps=>.ok (p::ps)
def fw(l:List PV):List Nat->Res (List PV)
 |[]=>.ok []
 |i::r=>(Res.of l[i]?).bind λp=>(fw l r).bind λps=>.ok (p::ps)
def fM(env:Sl)(aU:List Nat):Sl:=aU.map λi=>env.getD i .no
def itemsOf:PV->Res (List PV)
 |.lst xs=>.ok xs
 |.tup xs=>.ok xs
 |.str z=>.ok (chars z)
 |_=>.bad
def xb(e:E)(p:PV):Res (List PV):=match p,e with
 |.bw _ _,.eE _=>.bad
 |.bw ks _,_=>.ok (ks.map af)
 |.lst xs,_=>.ok xs
 |.tup xs,_=>.ok xs
 |_,_=>.bad
def e6(lo:Int)(n:Nat):List PV:=(List.range n).map λi=>.int (lo+(i:Nat))
def aJ(i:Int):Bool:=decide (-(2^62)<=i)&&decide (i<2^62)
def cA(n:Nat):List PV->List PV
 |[]=>[]
 |x::xs=>.tup [.int (n:Nat),x]::cA (n+1) xs
def oc:Option PV->List PV->List PV
 |some y,ys=>y::ys
 |none,ys=>ys
def aP(f:PV->Res (Option PV)):List PV->Res (List PV)
 |[]=>.ok []
 |x::xs=>(f x).well.bind λo=>(aP f xs).bind λys=>.ok (oc o ys)
def nL{α:Type}(p:PV)(f:Bool->Res α):Res α:=match p with
 |.bl b=>f b
 |_=>.bad
section
variable(F:aH)
mutual
noncomputable def aD:E->Sl->Res PV
 |.var i,env=>fO env[i]?
 |.eE i,env=>AR env[i]?
 |.cst p,_=>.ok p
 |.glob _ p,_=>.ok p
 |.call f as,env=>(cY as env).bind λps=>F f ps
 |.iH i as,env=>match env[i]? with
  |some (.fn g idx cX)=>(cY as env).bind λps=>if idx.head?=some ps.length then(fw (ps++cX) idx.tail).bind λqs=>F g qs else .bad
  |_=>.bad
 |.kM f as _ _ aU,env=>(cY as env).bind λps=>(i5 env aU).bind λcs=>F f (ps++cs)
 |.blt b as,env=>(cY as env).bind λps=>dN b ps
 |.ty t a,env=>(aD a env).bind λp=>jy t p
 |.bin o a b,env=>(aD a env).bind λx=>(aD b env).bind λy=>binOp o x y
 |.cmp o a b,env=>(aD a env).bind λx=>(aD b env).bind λy=>dI o x y
 |.ch o1 o2 a b c,env=>(aD a env).bind λx=>(aD b env).bind λy=>(dI o1 x y).bind λt=>nL t λt=>
  if t then(aD c env).bind λz=>dI o2 y z else .ok (.bl false)
 |.not a,env=>(aD a env).bind λx=>nL x λb=>.ok (.bl (!b))
 |.neg a,env=>(aD a env).bind λx=>match x with|.int i=>.ok (.int (-i))|_=>.bad
 |.and a b,env=>(aD a env).bind λx=>nL x λt=>if t then aD b env else .ok (.bl false)
 |.or a b,env=>(aD a env).bind λx=>nL x λt=>if t then .ok (.bl true) else aD b env
 |.ite c a b,env=>(aD c env).bind λx=>nL x λt=>if t then aD a env else aD b env
 |.tup as,env=>(cY as env).bind λps=>.ok (.tup ps)
 |.lst as,env=>(cY as env).bind λps=>.ok (.lst ps)
 |.sub a b,env=>(aD a env).bind λx=>(aD b env).bind λy=>aE x y
 |.slice a lo hi,env=>(aD a env).bind λx=>(va lo env).bind λl=>(va hi env).bind λh=>gO x l h
 |.comp k aU tg it elt,env=>(qN it env).bind λxs=>if xs.length<dF then(aP (λx=>(tg.put x (List.replicate k .no++fM env aU)).bind λak=>(aD elt ak).bind λy=>.ok (some y)) xs).bind λys=>.ok (.lst ys) else .bad
 |.bT k aU tg it c elt,env=>(qN it env).bind λxs=>if xs.length<dF then(aP (λx=>(tg.put x (List.replicate k .no++fM env aU)).bind λak=>(aD c ak).bind λt=>nL t λt=>if t then(aD elt ak).bind λy=>.ok (some y) else .ok none) xs).bind λys=>.ok (.lst ys) else .bad
 |.yP a,env=>(aD a env).bind λp=>match p with|.lst xs=>.ok (.lst xs.reverse)|_=>.bad
 |.get a k,env=>(aD a env).bind λp=>match p with|.bw ks vs=>(aD k env).bind λq=>(Res.of (fh q)).bind λz=>.ok ((au ks vs z).getD .aC)|_=>.bad
noncomputable def cY:Es->Sl->Res (List PV)
 |.nil,_=>.ok []
 |.cons e es,env=>(aD e env).bind λp=>(cY es env).bind λps=>.ok (p::ps)
noncomputable def va:Oe->Sl->Res (Option Int)
 |.no,_=>.ok none
 |.some e,env=>(aD e env).bind λp=>match p with|.int i=>.ok (some i)|_=>.bad
noncomputable def qN:I->Sl->Res (List PV)
 |.seq e,env=>(aD e env).bind (xb e)
 |.qR e,env=>(aD e env).bind λp=>match p with|.int j=>if aJ j then .ok (e6 0 j.toNat) else .bad|_=>.bad
 |.lF a b,env=>(aD a env).bind λp=>(aD b env).bind λq=>match p,q with|.int i,.int j=>if aJ i&&aJ j then .ok (e6 i (j-i).toNat) else .bad|_,_=>.bad
 |.enum e,env=>(aD e env).bind λp=>(itemsOf p).bind λxs=>.ok (cA 0 xs)
end
end
inductive Fl where
 |nx (env:Sl)|bk (env:Sl)|ct (env:Sl)|rt (p:PV)
def Fl.seq(f:Fl)(k:Sl->Res Fl):Res Fl:=match f with
 |.nx env=>k env
 |f=>.ok f
noncomputable def forL(body:PV->Sl->Res Fl):List PV->Sl->Res Fl
 |[],env=>.ok (.nx env)
 |x::xs,env=>(body x env).bind λf=>match f with
  |.nx ak=>forL body xs ak
  |.ct ak=>forL body xs ak
  |.bk ak=>.ok (.nx ak)
  |.rt p=>.ok (.rt p)
noncomputable def dm(c:Sl->Res PV)(body:Sl->Res Fl):Nat->Sl->Res Fl
 |0,_=>.bad
 |n+1,env=>(c env).bind λt=>nL t λt=>if t then(body env).bind λf=>(match f with
  |.nx ak=>dm c body n ak
  |.ct ak=>dm c body n ak
  |.bk ak=>.ok (.nx ak)
  |.rt p=>.ok (.rt p)) else .ok (.nx env)
abbrev WN:Nat:=1000000
def oe:Slot->Slot
 |.own p=>.val p
 |s=>s
section
variable(F:aH)
mutual
noncomputable def gj:S->Sl->Res Fl
 |.expr e,env=>(aD F e env).bind λ_=>.ok (.nx env)
 |.set i e,env=>(aD F e env).bind λp=>.ok (.nx (env.set i (.val p)))
 |.FI tg e,env=>(aD F e env).bind λp=>(tg.put p env).bind λak=>.ok (.nx ak)
 |.own i e,env=>(aD F e env).bind λp=>.ok (.nx (env.set i (.own p)))
 |.bp i,env=>.ok (.nx (env.modify i oe))
 |.app i e,env=>match env[i]? with
  |some (.own (.lst xs))=>(aD F e env).bind λp=>if xs.length<dF then .ok (.nx (env.set i (.own (.lst (xs++[p]))))) else .bad
  |_=>.bad
 |.qG i e,env=>match env[i]? with
  |some (.own (.lst xs))=>(aD F e env).bind λp=>match p with
   |.lst ys=>if xs.length+ys.length<=dF then .ok (.nx (env.set i (.own (.lst (xs++ys))))) else .bad
   |_=>.bad
  |_=>.bad
 |.put i k e,env=>(aD F e env).bind λp=>match env[i]? with
  |some (.own (.bw ks vs))=>(aD F k env).bind λkp=>match fh kp with
   |some kk=>if ks.length<dF then .ok (.nx (env.set i (.own (.bw (bA ks kk) (bf ks vs kk p))))) else .bad
   |none=>.bad
  |_=>.bad
 |.ret e,env=>(aD F e env).bind λp=>.ok (.rt p)
 |.ite c a b,env=>(aD F c env).bind λp=>nL p λt=>if t then aG a env else aG b env
 |.cM tg it b,env=>(qN F it env).bind λxs=>forL (λx env=>(tg.put x env).bind λak=>aG b ak) xs env
 |.Bj c b,env=>dm (aD F c) (aG b) WN env
 |.raise c _,_=>.exc c
 |.brk,env=>.ok (.bk env)
 |.iN i,env=>.ok (.nx (env.set i (.own (.bw [] []))))
 |.kI i n b,env=>(fO env[n]?).bind λkp=>(Res.of (fh kp)).bind λkk=>.ok (.nx (env.set i (.own (.bw [kk] [b]))))
 |.eh i j n,env=>match env[j]?,env[i]?,env[n]? with
  |some (.own (.bw ks vs)),some (.own (.bw ks2 vs2)),some (.val kp)=>match fh kp with
   |some kk=>match au ks vs kk with
    |some p=>if ks2.length<dF/\i≠j then .ok (.nx ((env.set j (.own (.bw (bU ks kk) (aQ ks vs kk)))).set i (.own (.bw (bA ks2 kk) (bf ks2 vs2 kk p))))) else .bad
    |none=>.bad
   |none=>.bad
  |_,_,_=>.bad
 |.mn m i,env=>match env[i]? with
  |some (.own (.bw ks vs))=>match iq vs with
   |some cs=>match(AW cs).bind λx=>ks[x]? with
    |some k=>.ok (.nx (env.set m (.val (af k))))
    |none=>.bad
   |none=>.bad
  |_=>.bad
noncomputable def aG:Ss->Sl->Res Fl
 |.nil,env=>.ok (.nx env)
 |.cons s ss,env=>(gj s env).bind λf=>f.seq (aG ss)
end
end
structure Def where
 N:List Str
 np:Nat
 body:Ss
 il:Option (Str×List Nat):=none
noncomputable def cI(d:Def)(as:List PV):Sl:=match d.il with
 |none=>as.map .val++List.replicate (d.N.length-as.length) .no
 |some q=>(as.take (d.np-1)).map .val++.fn q.1 q.2 (as.drop (d.np-1))::List.replicate (d.N.length-d.np) .no
noncomputable def cL(d:Def)(as:List PV):Bool:=match d.il with
 |none=>as.length==d.np
 |some _=>decide (0<d.np)&&decide (d.np-1<=as.length)
noncomputable def av(F:aH)(d:Def)(as:List PV):Res PV:=
 if cL d as then(aG F d.body (cI d as)).bind λf=>match f with
  |.nx _=>.ok .aC
  |.rt p=>.ok p
  |_=>.bad
 else .bad
noncomputable def den:List (Str×Def)->aH
 |[],_,_=>.bad
 |(n,d)::r,f,as=>if f==n then av (den r) d as else den r f as
abbrev ki(k:List Int):List Key:=k.map Sum.inl
def sx{a b:List Int}(h:ki a=ki b):a=b:=by
 induction a generalizing b with
 |nil=>cases b with|nil=>rfl|cons=>cases h
 |cons x a ih=>cases b with
  |nil=>cases h
  |cons y b=>simp! [ki,zzF,List.cons.injEq,Sum.inl.injEq] at h;rw [h.1,ih h.2]
def oK(k:List Int):(ki k).map kV=k.map V.int:=by
 unfold ki;rw [List.map_map]
 rfl
theorem iO{k:List Int}{ks:List (List Int)}{u:V}{us:List V}:kz (k::ks) (u::us)=(ki k,u)::kz ks us:=rfl
def fG{ks:List (List Int)}{us:List V}(h:ks.length=us.length):(kz ks us).length=ks.length:=by
 unfold kz;rw [List.length_zip,zzl];omega
def pL{ks:List (List Int)}{us:List V}(h:ks.length=us.length):(kz ks us).map (·.1)=ks.map ki:=by
 unfold kz;exact List.map_fst_zip (by rw [zzl];omega)
theorem i7(k:List Int):∀(ks:List (List Int)) (us:List V),gG (kz ks us) (ki k)=au ks us k
 |[],us=>by unfold au;rfl
 |a::ks,[]=>by unfold au;rfl
 |a::ks,u::us=>by
  rw [iO];unfold au
  by_cases h:a=k
  ·subst h;rw [if_pos rfl];exact gy rfl
  ·rw [if_neg h,gJ (λz=>h (sx z))];exact i7 k ks us
theorem iM{α:Type}(k:List Int):∀(ks:List (List Int)) (us:List α),ks.length=us.length->(au ks us k).isSome=cD ks k
 |[],[],_=>rfl
 |a::ks,u::us,h=>by
  unfold au cD;rw [List.any_cons]
  by_cases e:a=k
  ·simp [e]
  ·rw [if_neg e];have:=iM k ks us (by simpa using h)
   unfold cD at this;rw [this];simp [e]
 |[],_::_,h=>by simp at h
 |_::_,[],h=>by simp at h
def IL(k:List Int):∀(ks:List (List Int)) (us:List V),ks.length=us.length->((kz ks us).any λkv=>decide (kv.1=ki k))=cD ks k:=λks us h=>by
 rw [lJ,i7,iM k ks us h]
def sO{ks:List (List Int)}{us:List V}(h:ks.length=us.length)(k:List Int)(v:V):putK (kz ks us) (ki k) v=kz (bA ks k) (bf ks us k v):=by
 unfold putK bA bf;rw [IL k ks us h];split
 ·have go:∀(ks:List (List Int)) (us:List V),(kz ks us).map (λkv=>if kv.1=ki k then(kv.1,v) else kv)=kz ks (List.zipWith (λk' u=>if k'=k then v else u) ks us):=by
   intro ks
   induction ks with
   |nil=>intro us;simp [kz]
   |cons a ks ih=>
    intro us;cases us with
    |nil=>simp [kz]
    |cons u us=>
     rw [iO,zzF,List.zipWith_cons_cons,iO,ih]
     by_cases e:a=k
     ·simp [e]
     ·rw [if_neg (λz=>e (sx z)),if_neg e]
  exact go ks us
 ·unfold kz;rw [List.map_append,List.zip_append (by rw [zzl];exact h)]
  rfl
def lK{α:Type}{ks:List (List Int)}{us:List α}(h:ks.length=us.length)(k:List Int)(v:α):(bA ks k).length=(bf ks us k v).length:=by
 unfold bA bf;split
 ·rw [List.length_zipWith];omega
 ·simp [h]
theorem uP(k:List Int):∀{ks:List (List Int)} {us:List V},ks.length=us.length->fT (kz ks us) (ki k)=kz (bU ks k) (aQ ks us k)
 |[],[],_=>rfl
 |a::ks,u::us,h=>by
  have ih:=uP k (ks:=ks) (us:=us) (by simpa using h)
  unfold bU aQ;rw [iO,zz3]
  by_cases e:a=k
  ·subst e;rw [wg rfl,ih];simp [bU]
  ·rw [xC (λz=>e (sx z)),ih,if_neg e,if_pos (by simpa using e),iO]
   rfl
 |[],_::_,h=>by simp at h
 |_::_,[],h=>by simp at h
theorem qO{α:Type}(k:List Int):∀{ks:List (List Int)} {us:List α},ks.length=us.length->(bU ks k).length=(aQ ks us k).length
 |[],[],_=>by unfold aQ;rfl
 |a::ks,u::us,h=>by
  have ih:=qO k (ks:=ks) (us:=us) (by simpa using h)
  unfold bU aQ;rw [zz3]
  by_cases e:a=k
  ·subst e;rw [if_neg (by simp),if_pos rfl];exact ih
  ·rw [if_neg e,if_pos (by simpa using e),zzL,zzL];exact congrArg (·+1) ih
 |[],_::_,h=>by simp at h
 |_::_,[],h=>by simp at h
section
variable{W:Wd}{G:Hp}
theorem kb{k:List Int}{p:PV}:∀{ks:List (List Int)} {ps:List PV} {us:List V},ai W G ps us->au ks ps k=some p->∃v,au ks us k=some v/\Rep W G p v
 |[],_,_,_,e=>by unfold au at e;cases e
 |a::ks,[],_,_,e=>by unfold au at e;cases e
 |a::ks,q::ps,_,l,e=>by
  obtain⟨v,r,rfl,h1,h2⟩:=l.bK
  unfold au at e⊢
  by_cases h:a=k
  ·rw [if_pos h] at e⊢;cases e;exact⟨v,rfl,h1⟩
  ·rw [if_neg h] at e⊢;exact kb h2 e
theorem Ak{k:List Int}{p:PV}{v:V}(hp:Rep W G p v):∀{ks:List (List Int)} {ps:List PV} {us:List V},ai W G ps us->ai W G (List.zipWith (λk' v=>if k'=k then p else v) ks ps) (List.zipWith (λk' u=>if k'=k then v else u) ks us)
 |[],_,_,_=>by simp! [List.zipWith_nil_left];exact .nil
 |a::ks,[],_,l=>by simp! [ai] at l;subst l;simp! [List.zipWith_nil_right];exact .nil
 |a::ks,q::ps,_,l=>by
  obtain⟨u,r,rfl,h1,h2⟩:=l.bK
  rw [List.zipWith_cons_cons,List.zipWith_cons_cons];refine .cons ?_ (Ak hp h2);split
  ·exact hp
  ·exact h1
def pM{ks:List (List Int)}{ps:List PV}{us:List V}{k:List Int}{p:PV}{v:V}(l:ai W G ps us)(hp:Rep W G p v):ai W G (bf ks ps k p) (bf ks us k v):=by
 unfold bf;split
 ·exact Ak hp l
 ·exact l.append (.cons hp .nil)
theorem kE{k:List Int}:∀{ks:List (List Int)} {ps:List PV} {us:List V},ai W G ps us->ai W G (aQ ks ps k) (aQ ks us k)
 |[],_,_,_=>by unfold aQ;exact .nil
 |a::ks,[],_,l=>by simp! [ai] at l;subst l;unfold aQ;exact .nil
 |a::ks,q::ps,_,l=>by
  obtain⟨u,r,rfl,h1,h2⟩:=l.bK
  unfold aQ;split
  ·exact kE h2
  ·exact .cons h1 (kE h2)
end
theorem mU:∀{xs:List PV} {ns:List Int},intsOf xs=some ns->xs=ns.map .int
 |[],_,e=>by cases e;rfl
 |.int i::r,_,e=>by
  unfold intsOf at e;obtain⟨ns,h1,rfl⟩:=zzJ.mp e
  rw [mU h1];rfl
 |.aC::_,_,e=>by cases e
 |.bl _::_,_,e=>by cases e
 |.str _::_,_,e=>by cases e
 |.tup _::_,_,e=>by cases e
 |.lst _::_,_,e=>by cases e
 |.exc _::_,_,e=>by cases e
 |.bw _ _::_,_,e=>by cases e
def fH{p:PV}{k:List Int}(h:fh p=some k):p=af k:=by
 unfold fh at h;split at h
 ·rw [mU h];rfl
 ·cases h
end Ci
namespace L2
open PySem PySem.Spec PyProof.Rows
end L2
namespace Ci
open PySem L2
def kQ{n:Nat}(h:n<=dF):n<=sizeLine:=zzU h (by decide)
section
variable{X:Cx}{W:Wd}{H0 G H:Hp}
def dj(W:Wd)(G H:Hp)(r:PV)(Q:VK):Prop:=∀v G' H',aB W G H G' H'->Rep W G' r v->Q v H'
def dj.at{r:PV}{Q:VK}{v:V}(h:dj W G H r Q)(s:aA G H)(k:Rep W G r v):Q v H:=h v G H (.refl s) k
def dj.tup{xs:List PV}{Q:VK}{vs:List V}{p:Addr}(h:dj W G H (.tup xs) Q)(s:aA G H)(k:ai W G xs vs)(hp:H p=none):Q (.ref p) (upd H p (.tup vs)):=
 h _ _ _ (.new s hp) (.t (.inl aq) (ai.same (bB (s.free hp)) xs k))
def dj.lst{xs:List PV}{Q:VK}{vs:List V}{p:Addr}(h:dj W G H (.lst xs) Q)(s:aA G H)(k:ai W G xs vs)(hp:H p=none):Q (.ref p) (upd H p (.lst vs)):=
 h _ _ _ (.new s hp) (.l (.inl (.inl aq)) (ai.same (bB (s.free hp)) xs k))
theorem j3{f:PV->PV->Bool}:∀{xs ys:List PV},xs.length≠ys.length->eqs f xs ys=false
 |[],[],h=>absurd rfl h
 |_::xs,_::ys,h=>by simp! [eqs];rw [j3 (xs:=xs) (ys:=ys) (λz=>h (by simp [z]))];simp
 |[],_::_,_=>rfl
 |_::_,[],_=>rfl
theorem kg{f:PV->PV->Bool}:∀{xs ys:List PV},xs.length=ys.length->eqs f xs ys=(List.range xs.length).all λj=>f (xs.getD j .aC) (ys.getD j .aC)
 |[],[],_=>rfl
 |x::xs,y::ys,h=>by
  simp! [eqs];rw [kg (xs:=xs) (ys:=ys) (by simpa using h),zzL,List.range_succ_eq_map,List.all_cons,List.all_map]
  rfl
 |[],_::_,h=>by simp at h
 |_::_,[],h=>by simp at h
def ng{f:PV->PV->Bool}:∀{xs ys:List PV},((List.range (min xs.length ys.length)).all (λj=>f (xs.getD j .aC) (ys.getD j .aC))&&xs.length==ys.length)=eqs f xs ys:=λ{xs ys}=>by
 by_cases h:xs.length=ys.length
 ·rw [kg h,h,Nat.min_self,beq_self_eq_true,Bool.and_true]
 ·rw [j3 h,beq_eq_false_iff_ne.mpr h,Bool.and_false]
theorem rL{f:PV->PV->Bool}:∀{xs ys:List PV},xs.length=ys.length->(∀(j:Nat) x y,xs[j]?=some x->ys[j]?=some y->f x y=true)->eqs f xs ys=true
 |[],[],_,_=>rfl
 |x::xs,y::ys,h,k=>by
  simp! [eqs];rw [k 0 x y rfl rfl,rL (xs:=xs) (ys:=ys) (by simpa using h) λj a b ha hb=>k (j+1) a b (by simpa using ha) (by simpa using hb)]
  rfl
 |[],_::_,h,_=>by simp at h
 |_::_,[],h,_=>by simp at h
def pT(hK:W.K=X.K){a:Addr}{vs:List V}(h:qd W.K H a vs):fV X.K H a vs:=by
 rw [hK] at h;rcases h with h|⟨ax,n,h1,h2,h3⟩
 ·exact .inl h
 ·exact .inr ⟨_,ax,n,h1,rfl,rfl,rfl,h2,h3⟩
def rK{ae:List (Addr×Obj)}{σ:St}{s:Shared}(I:Inv X ae σ H s){a:Addr}{vs us:List V}(h1:fF X.K H a vs)(h2:fV X.K H a us):False:=by
 obtain⟨ax,_,⟨o,e,hc,_⟩,_⟩:=I.tuple h1
 obtain⟨ei,_,⟨o2,n,e2,hc2,_⟩,_⟩:=I.list h2
 rw [e] at e2;cases e2;rw [hc] at hc2;exact absurd hc2 (by decide)
theorem i8{α:Type}:∀{xs ys:List α},xs.length=ys.length->(∀(j:Nat) x y,xs[j]?=some x->ys[j]?=some y->x=y)->xs=ys
 |[],[],_,_=>rfl
 |x::xs,y::ys,h,k=>by rw [k 0 x y rfl rfl,i8 (xs:=xs) (ys:=ys) (by simpa using h) λj a b ha hb=>k (j+1) a b (by simpa using ha) (by simpa using hb)]
 |[],_::_,h,_=>by simp at h
 |_::_,[],h,_=>by simp at h
def RS(X:Cx)(W:Wd)(G H:Hp):PV->V->Prop
 |.aC,v=>v=.aC
 |.bl b,v=>v=.bl b
 |.int i,v=>v=.int i
 |.str z,v=>v=.str z
 |.tup xs,v=>∃a,v=.ref a/\∃vs,fF X.K H a vs/\ai W G xs vs
 |.lst xs,v=>∃a,v=.ref a/\∃vs,fV X.K H a vs/\ai W G xs vs
 |_,_=>False
def M8(hK:W.K=X.K)(sg:aA G H){n:Nat}{p:PV}{v:V}(hp:plain n p=true)(h:Top W H0 G H p v):RS X W G H p v:=by
 cases p with
 |aC=>exact h.aC
 |bl b=>exact h.bl
 |int i=>exact h.int
 |str z=>exact h.str
 |tup xs=>
  obtain⟨a,vs,e,sq,l⟩:=h.tup sg
  rw [hK] at sq;exact⟨a,e,vs,sq,l⟩
 |lst xs=>
  obtain⟨a,vs,e,sq,l⟩:=h.lst sg
  exact⟨a,e,vs,pT hK sq,l⟩
 |exc c=>cases n<;>exact bj hp
 |bw a b=>cases n<;>exact bj hp
def vf{ae:List (Addr×Obj)}{σ:St}{s:Shared}(I:Inv X ae σ H s)(hK:W.K=X.K)(sg:aA G H):∀(n:Nat) {p q:PV} {v:V},plain n p=true->plain n q=true->Top W H0 G H p v->Top W H0 G H q v->p=q:=by
 intro n
 induction n with
 |zero=>
  intro p q v hp hq h1 h2;have a:=M8 hK sg hp h1
  have b:=M8 hK sg hq h2
  cases p<;>cases q<;>first|exact bj hp|exact bj hq|(cases a;cases b;rfl)|(cases a;cases b)
 |succ n ih=>
  intro p q v hp hq h1 h2;have a:=M8 hK sg hp h1
  have b:=M8 hK sg hq h2
  have el:∀{xs ys:List PV} {vs:List V},xs.all (plain n)=true->ys.all (plain n)=true->ai W G xs vs->ai W G ys vs->xs=ys:=λ{xs ys vs} a1 a2 l1 l2=>
   i8 (by rw [<-l1.length,l2.length]) λj x y ex ey=>by
    obtain⟨u,eu,ku⟩:=l1.p8 ex
    obtain⟨y',ey',ky⟩:=l2.get eu
    rw [ey] at ey';cases ey';exact ih (zzT.mp a1 _ (zzD ex)) (zzT.mp a2 _ (zzD ey)) (.inl ku) (.inl ky)
  cases p<;>cases q<;>first|exact bj hp|exact bj hq|(cases a;cases b;done)|(cases a;cases b;rfl)|(obtain⟨_,e1,_⟩:=a;cases b;cases e1;done)|(obtain⟨_,e2,_⟩:=b;cases a;cases e2;done)|(obtain⟨x,rfl,vs,s1,l1⟩:=a;obtain⟨y,e2,us,s2,l2⟩:=b;cases e2;first|exact(rK I s1 s2).elim|exact(rK I s2 s1).elim|(cases I.nT s1 s2;rw [el hp hq l1 l2])|(cases I.qr s1 s2;rw [el hp hq l1 l2]))
def A0:∀{n:Nat} {p:PV},plain n p=true->js n p p=true:=by
 intro n
 induction n with
 |zero=>intro p h;cases p<;>first|exact bj h|rfl|exact beq_self_eq_true _
 |succ n ih=>
  intro p h;cases p<;>first|exact bj h|rfl|exact beq_self_eq_true _|exact rL rfl λj x y e1 e2=>by rw [e1] at e2;cases e2;exact ih (zzT.mp h _ (zzD e1))
def vg{ae:List (Addr×Obj)}{σ:St}{s:Shared}(I:Inv X ae σ H s)(hK:W.K=X.K)(sg:aA G H):∀(n:Nat) {p q:PV} {v:V},plain n p=true->plain n q=true->Top W H0 G H p v->Top W H0 G H q v->js n p q=true:=λn {p q v} hp hq h1 h2=>by
 cases vf I hK sg n hp hq h1 h2;exact A0 hp
def j1{x:V}{a:Addr}(r:RelV x (.ref a)):x=.ref a:=by
 cases x<;>first|(cases r;rfl)|(obtain⟨_,h⟩:=r;cases h)|cases r
def Sn(W:Wd)(G:Hp)(h:Heap):PV->Value->Prop
 |.aC,v=>∃_t:Nat,v=.none/\True
 |.bl b,v=>∃_t:Nat,v=.bool b/\True
 |.int i,v=>∃t,v=.int i t/\True
 |.str z,v=>∃t,v=.str z t/\True
 |.tup xs,v=>∃a,v=.ref a/\∃ax vs,ai W G xs vs/\Vals vs ax/\h.IsTuple a ax.toArray
 |.lst xs,v=>∃a,v=.ref a/\∃ax vs,ai W G xs vs/\Vals vs ax/\h.IsList a ax.toArray
 |_,_=>False
def Ff{ae:List (Addr×Obj)}{σ:St}{s:Shared}(I:Inv X ae σ H s)(hK:W.K=X.K)(sg:aA G H){n:Nat}{p:PV}{v:V}{v':Value}(hp:plain n p=true)(h:Top W H0 G H p v)(r:RelV v v'):Sn W G s.heap p v':=by
 cases p with
 |aC=>cases h.aC;cases r;exact⟨0,rfl,trivial⟩
 |bl b=>cases h.bl;cases r;exact⟨0,rfl,trivial⟩
 |int i=>cases h.int;obtain⟨t,rfl⟩:=r;exact⟨t,rfl,trivial⟩
 |str z=>cases h.str;obtain⟨t,rfl⟩:=r;exact⟨t,rfl,trivial⟩
 |tup xs=>
  obtain⟨a,vs,rfl,sq,l⟩:=h.tup sg
  rw [hK] at sq;cases r;obtain⟨ax,q,z,_⟩:=I.tuple sq
  exact⟨a,rfl,ax,vs,l,q,z⟩
 |lst xs=>
  obtain⟨a,vs,rfl,sq,l⟩:=h.lst sg
  cases r;obtain⟨ax,q,z,_⟩:=I.list (pT hK sq)
  exact⟨a,rfl,ax,vs,l,q,z.isList⟩
 |exc c=>cases n<;>exact bj hp
 |bw a b=>cases n<;>exact bj hp
def rF(W:Wd)(G:Hp)(s:Shared)(n:Nat)(A:Around)(xs ys:List PV):Prop:=∀{vs us:List V} {ax ei:List Value},ai W G xs vs->ai W G ys us->Vals vs ax->Vals us ei->∀j (h1:j<ax.toArray.size) (h2:j<ei.toArray.size),SeqAt.EqAt A s ax.toArray[j] ei.toArray[j] (js n (xs.getD j .aC) (ys.getD j .aC))
theorem yA{s:Shared}{n:Nat}{A:Around}{xs ys:List PV}(h:∀{p q:PV} {v u:V} {v' u':Value},plain n p=true->plain n q=true->Rep W G p v->Rep W G q u->RelV v v'->RelV u u'->SeqAt.EqAt A s v' u' (js n p q))(a1:xs.all (plain n)=true)(a2:ys.all (plain n)=true):rF W G s n A xs ys:=λ{vs us ax ei} l1 l2 q1 q2 j g1 g2=>by
 obtain⟨x,hx,rx⟩:=yS q1 g1
 obtain⟨y,hy,ry⟩:=yS q2 g2
 obtain⟨px,ex,kx⟩:=l1.get hx
 obtain⟨py,ey,ky⟩:=l2.get hy
 rw [zzK,zzK,ex,ey];exact h (zzT.mp a1 _ (zzD ex)) (zzT.mp a2 _ (zzD ey)) kx ky rx ry
def uM{s:Shared}{n:Nat}{A:Around}{a b:Addr}{xs ys:List PV}(hu:A.units<cLine)(el:rF W G s n A.in1 xs ys)(k1:∃ax vs,ai W G xs vs/\Vals vs ax/\s.heap.IsTuple a ax.toArray)(k2:∃ax vs,ai W G ys vs/\Vals vs ax/\s.heap.IsTuple b ax.toArray):SeqAt.RcAt A s (.ref a) (.ref b) (eqs (js n) xs ys):=by
 obtain⟨ax,vs,l,q1,z1⟩:=k1
 obtain⟨ei,us,l2,q2,z2⟩:=k2
 have m1:ax.length=xs.length:=by rw [<-q1.length,l.length]
 have m2:ei.length=ys.length:=by rw [<-q2.length,l2.length]
 have:=SeqAt.RcAt.tuples (e:=λj=>js n (xs.getD j .aC) (ys.getD j .aC)) z1 z2 hu (el l l2 q1 q2)
 rw [zzC,zzC,m1,m2,ng] at this;exact this
def uG{s:Shared}{n:Nat}{A:Around}{a b:Addr}{xs ys:List PV}(hu:A.units<cLine)(el:rF W G s n A.in1 xs ys)(k1:∃ax vs,ai W G xs vs/\Vals vs ax/\s.heap.IsList a ax.toArray)(k2:∃ax vs,ai W G ys vs/\Vals vs ax/\s.heap.IsList b ax.toArray):SeqAt.RcAt A s (.ref a) (.ref b) (eqs (js n) xs ys):=by
 obtain⟨ax,vs,l,q1,z1⟩:=k1
 obtain⟨ei,us,l2,q2,z2⟩:=k2
 have m1:ax.length=xs.length:=by rw [<-q1.length,l.length]
 have m2:ei.length=ys.length:=by rw [<-q2.length,l2.length]
 by_cases hl:xs.length=ys.length
 ·have:=SeqAt.RcAt.lists (e:=λj=>js n (xs.getD j .aC) (ys.getD j .aC)) z1 z2 (by rw [zzC,zzC];omega) hu (el l l2 q1 q2)
  rw [zzC,m1,<-kg hl] at this;exact this
 ·have:=SeqAt.RcAt.lists_lengths z1 z2 (by rw [zzC,zzC,m1,m2];simp [hl]) hu
  rw [j3 hl];exact this
open SeqAt.EqAt in
def zF{ae:List (Addr×Obj)}{σ:St}{s:Shared}(I:Inv X ae σ H s)(hK:W.K=X.K)(sg:aA G H):∀(n:Nat) {A:Around} {p q:PV} {v u:V} {v' u':Value},A.units+(n+1)<cLine->plain n p=true->plain n q=true->Top W H0 G H p v->Top W H0 G H q u->RelV v v'->RelV u u'->
 SeqAt.EqAt A s v' u' (js n p q):=by
 intro n
 induction n with
 |zero=>
  intro A p q v u v' u' hu hp hq h1 h2 r1 r2;have a:=Ff I hK sg hp h1 r1
  have b:=Ff I hK sg hq h2 r2
  cases p<;>cases q<;>first|exact bj hp|exact bj hq|(obtain⟨t1,rfl,_⟩:=a;obtain⟨t2,rfl,_⟩:=b)
  exact same _
  exact none_bool _
  exact none_int _ _
  exact none_str _ _
  exact bool_none _
  exact bool_bool _ _
  exact bool_int _ _ _
  exact bool_str _ _ _
  exact int_none _ _
  exact int_bool _ _ _
  exact int_int _ _ _ _
  exact int_str _ _ _ _
  exact str_none _ _
  exact str_bool _ _ _
  exact str_int _ _ _ _
  exact str_str _ _ _ _
 |succ n ih=>
  intro A p q v u v' u' hu hp hq h1 h2 r1 r2;have c8:A.units<cLine:=by omega
  have a:=Ff I hK sg hp h1 r1
  have b:=Ff I hK sg hq h2 r2
  have el:∀{xs ys:List PV},xs.all (plain n)=true->ys.all (plain n)=true->rF W G s n A.in1 xs ys:=λa1 a2=>yA (λhp hq h1 h2 r1 r2=>ih (by show A.units+1+(n+1)<_;omega) hp hq (.inl h1) (.inl h2) r1 r2) a1 a2
  cases p<;>cases q<;>first|exact bj hp|exact bj hq|(obtain⟨t1,rfl,k1⟩:=a;obtain⟨t2,rfl,k2⟩:=b;try obtain⟨_,_,_,_,z1⟩:=id k1;try obtain⟨_,_,_,_,z2⟩:=id k2)
  exact same _
  exact none_bool _
  exact none_int _ _
  exact none_str _ _
  exact none_tuple z2 c8
  exact none_list z2 c8
  exact bool_none _
  exact bool_bool _ _
  exact bool_int _ _ _
  exact bool_str _ _ _
  exact bool_tuple _ z2 c8
  exact bool_list _ z2 c8
  exact int_none _ _
  exact int_bool _ _ _
  exact int_int _ _ _ _
  exact int_str _ _ _ _
  exact int_tuple _ _ z2 c8
  exact int_list _ _ z2 c8
  exact str_none _ _
  exact str_bool _ _ _
  exact str_int _ _ _ _
  exact str_str _ _ _ _
  exact str_tuple _ _ z2 c8
  exact str_list _ _ z2 c8
  exact tuple_none z1 c8
  exact tuple_bool _ z1 c8
  exact tuple_int _ _ z1 c8
  exact tuple_str _ _ z1 c8
  by_cases g9:t1=t2
  ·subst g9;cases j1 r1;cases j1 r2;rw [vg I hK sg (n+1) hp hq h1 h2];exact same _
  ·exact of_refs g9 (uM c8 (el hp hq) k1 k2)
  exact tuple_list z1 z2 c8
  exact list_none z1 c8
  exact list_bool _ z1 c8
  exact list_int _ _ z1 c8
  exact list_str _ _ z1 c8
  exact list_tuple z1 z2 c8
  by_cases g9:t1=t2
  ·subst g9;cases j1 r1;cases j1 r2;rw [vg I hK sg (n+1) hp hq h1 h2];exact same _
  ·exact of_refs g9 (uG c8 (el hp hq) k1 k2)
end
section
variable{X:Cx}{W:Wd}{H0 G H:Hp}
open SeqAt.RcAt in
def KL{ae:List (Addr×Obj)}{σ:St}{s:Shared}(I:Inv X ae σ H s)(hK:W.K=X.K)(sg:aA G H)(n:Nat){A:Around}{p q:PV}{v u:V}{v' u':Value}(hu:A.units+(n+2)<cLine)(hp:plain (n+1) p=true)(hq:plain (n+1) q=true)(h1:Top W H0 G H p v)(h2:Top W H0 G H q u)(r1:RelV v v')(r2:RelV u u'):
 SeqAt.RcAt A s v' u' (js (n+1) p q):=by
 have c8:A.units<cLine:=by omega
 have a:=Ff I hK sg hp h1 r1
 have b:=Ff I hK sg hq h2 r2
 have el:∀{xs ys:List PV},xs.all (plain n)=true->ys.all (plain n)=true->rF W G s n A.in1 xs ys:=λa1 a2=>yA (λhp hq h1 h2 r1 r2=>zF (H0:=H0) I hK sg n (by show A.units+1+(n+1)<_;omega) hp hq (.inl h1) (.inl h2) r1 r2) a1 a2
 cases p<;>cases q<;>first|exact bj hp|exact bj hq|(obtain⟨t1,rfl,k1⟩:=a;obtain⟨t2,rfl,k2⟩:=b;try obtain⟨_,_,_,_,z1⟩:=id k1;try obtain⟨_,_,_,_,z2⟩:=id k2)
 exact none_none
 exact none_bool _
 exact none_int _ _
 exact none_str _ _
 exact none_tuple z2 c8
 exact none_list z2 c8
 exact bool_none _
 exact bool_bool _ _
 exact bool_int _ _ _
 exact bool_str _ _ _
 exact bool_tuple _ z2 c8
 exact bool_list _ z2 c8
 exact int_none _ _
 exact int_bool _ _ _
 exact int_int _ _ _ _
 exact int_str _ _ _ _
 exact int_tuple _ _ z2 c8
 exact int_list _ _ z2 c8
 exact str_none _ _
 exact str_bool _ _ _
 exact str_int _ _ _ _
 exact str_str _ _ _ _
 exact str_tuple _ _ z2 c8
 exact str_list _ _ z2 c8
 exact tuple_none z1 c8
 exact tuple_bool _ z1 c8
 exact tuple_int _ _ z1 c8
 exact tuple_str _ _ z1 c8
 exact uM c8 (el hp hq) k1 k2
 exact tuple_list z1 z2 c8
 exact list_none z1 c8
 exact list_bool _ z1 c8
 exact list_int _ _ z1 c8
 exact list_str _ _ z1 c8
 exact list_tuple z1 z2 c8
 exact uG c8 (el hp hq) k1 k2
def xG{s:Shared}{n:Nat}{A:Around}{a b:Addr}{xs ys:List PV}(hu:A.units<cLine)(el:rF W G s n A.in1 xs ys)(k1:∃ax vs,ai W G xs vs/\Vals vs ax/\s.heap.IsTuple a ax.toArray)(k2:∃ax vs,ai W G ys vs/\Vals vs ax/\s.heap.IsTuple b ax.toArray):SeqAt.RcNeAt A s (.ref a) (.ref b) (!eqs (js n) xs ys):=by
 obtain⟨ax,vs,l,q1,z1⟩:=k1
 obtain⟨ei,us,l2,q2,z2⟩:=k2
 have m1:ax.length=xs.length:=by rw [<-q1.length,l.length]
 have m2:ei.length=ys.length:=by rw [<-q2.length,l2.length]
 have:=SeqAt.RcNeAt.tuples (e:=λj=>js n (xs.getD j .aC) (ys.getD j .aC)) z1 z2 hu (el l l2 q1 q2)
 rw [zzC,zzC,m1,m2,ng] at this;exact this
def w5{s:Shared}{n:Nat}{A:Around}{a b:Addr}{xs ys:List PV}(hu:A.units<cLine)(el:rF W G s n A.in1 xs ys)(k1:∃ax vs,ai W G xs vs/\Vals vs ax/\s.heap.IsList a ax.toArray)(k2:∃ax vs,ai W G ys vs/\Vals vs ax/\s.heap.IsList b ax.toArray):SeqAt.RcNeAt A s (.ref a) (.ref b) (!eqs (js n) xs ys):=by
 obtain⟨ax,vs,l,q1,z1⟩:=k1
 obtain⟨ei,us,l2,q2,z2⟩:=k2
 have m1:ax.length=xs.length:=by rw [<-q1.length,l.length]
 have m2:ei.length=ys.length:=by rw [<-q2.length,l2.length]
 by_cases hl:xs.length=ys.length
 ·have:=SeqAt.RcNeAt.lists (e:=λj=>js n (xs.getD j .aC) (ys.getD j .aC)) z1 z2 (by rw [zzC,zzC];omega) hu (el l l2 q1 q2)
  rw [zzC,m1,<-kg hl] at this;exact this
 ·have:=SeqAt.RcNeAt.lists_lengths z1 z2 (by rw [zzC,zzC,m1,m2];simp [hl]) hu
  rw [j3 hl];exact this
open SeqAt.RcNeAt in
def EF{ae:List (Addr×Obj)}{σ:St}{s:Shared}(I:Inv X ae σ H s)(hK:W.K=X.K)(sg:aA G H)(n:Nat){A:Around}{p q:PV}{v u:V}{v' u':Value}(hu:A.units+(n+2)<cLine)(hp:plain (n+1) p=true)(hq:plain (n+1) q=true)(h1:Top W H0 G H p v)(h2:Top W H0 G H q u)(r1:RelV v v')(r2:RelV u u'):
 SeqAt.RcNeAt A s v' u' (!js (n+1) p q):=by
 have c8:A.units<cLine:=by omega
 have a:=Ff I hK sg hp h1 r1
 have b:=Ff I hK sg hq h2 r2
 have el:∀{xs ys:List PV},xs.all (plain n)=true->ys.all (plain n)=true->rF W G s n A.in1 xs ys:=λa1 a2=>yA (λhp hq h1 h2 r1 r2=>zF (H0:=H0) I hK sg n (by show A.units+1+(n+1)<_;omega) hp hq (.inl h1) (.inl h2) r1 r2) a1 a2
 cases p<;>cases q<;>first|exact bj hp|exact bj hq|(obtain⟨t1,rfl,k1⟩:=a;obtain⟨t2,rfl,k2⟩:=b;try obtain⟨_,_,_,_,z1⟩:=id k1;try obtain⟨_,_,_,_,z2⟩:=id k2)
 exact none_none
 exact none_bool _
 exact none_int _ _
 exact none_str _ _
 exact none_tuple z2 c8
 exact none_list z2 c8
 exact bool_none _
 exact bool_bool _ _
 exact bool_int _ _ _
 exact bool_str _ _ _
 exact bool_tuple _ z2 c8
 exact bool_list _ z2 c8
 exact int_none _ _
 exact int_bool _ _ _
 exact int_int _ _ _ _
 exact int_str _ _ _ _
 exact int_tuple _ _ z2 c8
 exact int_list _ _ z2 c8
 exact str_none _ _
 exact str_bool _ _ _
 exact str_int _ _ _ _
 exact str_str _ _ _ _
 exact str_tuple _ _ z2 c8
 exact str_list _ _ z2 c8
 exact tuple_none z1 c8
 exact tuple_bool _ z1 c8
 exact tuple_int _ _ z1 c8
 exact tuple_str _ _ z1 c8
 exact xG c8 (el hp hq) k1 k2
 exact tuple_list z1 z2 c8
 exact list_none z1 c8
 exact list_bool _ z1 c8
 exact list_int _ _ z1 c8
 exact list_str _ _ z1 c8
 exact list_tuple z1 z2 c8
 exact w5 c8 (el hp hq) k1 k2
end
section
variable{X:Cx}{W:Wd}
def EO(hK:W.K=X.K){ae:List (Addr×Obj)}{σ:St}{H:Hp}{s:Shared}{a:Addr}{xs:List V}(I:Inv X ae σ H s)(h:qd W.K H a xs):∃(ax:List Value) (n:Nat),Vals xs ax/\xs.length=ax.length/\xs.length<=sizeLine/\s.heap.get? a=some {cls:=.type "list",data:=.seq ax.toArray n}:=by
 rw [hK] at h;rcases h with h|⟨ax,n,h1,h2,h3⟩
 ·obtain⟨z,ax,n,r,e⟩:=h.ok I.aL
  exact⟨ax,n,r,r.length,z,e⟩
 ·refine⟨ax.toList,n,h3,h3.length,?_,by simpa using I.ql a _ h1⟩;rw [h3.length,zzd];exact h2
def Cd(hK:W.K=X.K):hJ X (binaryOp .Add) (λx y H Q=>∃l b xs zs,x=.ref l/\y=.ref b/\qd W.K H l xs/\qd W.K H b zs/\xs.length+zs.length<=sizeLine/\∀p,H p=none->Q (.ref p) (upd H p (.lst (xs++zs)))):=by
 intro ae s σ H x y v u Q I rx ry h;obtain⟨l,b,xs,zs,rfl,rfl,hH,hB,hz,q⟩:=h
 cases rx;cases ry;obtain⟨ax,n,r,hl,_,e⟩:=EO hK I hH
 obtain⟨ei,n2,r2,Pk,_,e2⟩:=EO hK I hB
 refine PySem.P.add_list e e2 ?_ (by rw [zzC,zzC];omega);have ea:ax.toArray++ei.toArray=(ax++ei).toArray:=by simp
 rw [ea];exact⟨.ref _,_,I.PB (t':=s.toks) (r.append r2) (by rw [zzM];omega),rfl,q _ I.fresh⟩
def Om:JP->Operator
 |.add=>.Add|.sub=>.Sub|.mul=>.Mult|.mod=>.Mod|.fdiv=>.FloorDiv
noncomputable def tM(W:Wd)(f:PV->PV->Res PV):R2:=λx y H Q=>∃H0 G p q r,aA G H/\Top W H0 G H p x/\Top W H0 G H q y/\f p q=.ok r/\dj W G H r Q
def F7(hK:W.K=X.K)(o:JP):hJ X (binaryOp (Om o)) (tM W (binOp o)):=by
 intro ae s σ H x y v u Q I rx ry h;obtain⟨H0,G,p,q,r,sg,t1,t2,e,wq⟩:=h
 unfold binOp at e;split at e
 ·cases e;exact HB ae s σ H x y v u Q I rx ry ⟨_,_,t1.int,t2.int,wq.at sg .i⟩
 ·split at e
  ·rename_i hl;cases e;exact tJ ae s σ H x y v u Q I rx ry ⟨_,_,t1.str,t2.str,kQ hl,wq.at sg .s⟩
  ·cases e
 ·split at e
  ·rename_i hl;cases e;obtain⟨a,vs,rfl,h1,l1⟩:=t1.lst sg
   obtain⟨b,us,rfl,h2,l2⟩:=t2.lst sg
   exact Cd hK ae s σ H _ _ v u Q I rx ry ⟨a,b,vs,us,rfl,rfl,h1,h2,by rw [l1.length,l2.length];exact kQ hl,λp hp=>wq.lst sg (l1.append l2) hp⟩
  ·cases e
 ·cases e;exact Hl ae s σ H x y v u Q I rx ry ⟨_,_,t1.int,t2.int,wq.at sg .i⟩
 ·split at e
  ·rename_i hc;cases e;refine Hc ae s σ H x y v u Q I rx ry ⟨_,_,t1.int,t2.int,?_,wq.at sg .i⟩;rw [zzt] at hc;unfold aK at hc;simp! [zza,zzN] at hc;exact hc
  ·cases e
 ·split at e
  ·rename_i hc;cases e;exact Jz ae s σ H x y v u Q I rx ry ⟨_,_,t1.int,t2.int,hc,wq.at sg .i⟩
  ·cases e
 ·split at e
  ·rename_i hc;cases e;exact EV ae s σ H x y v u Q I rx ry ⟨_,_,t1.int,t2.int,hc,wq.at sg .i⟩
  ·cases e
 ·cases e
def D6:Na X (unaryOp .USub) (λx H Q=>∃(H0 G:Hp) (i:Int),aA G H/\Top W H0 G H (.int i) x/\dj W G H (.int (-i)) Q):=by
 intro ae s σ H x v Q I rx h;obtain⟨H0,G,i,sg,t,wq⟩:=h
 exact Iy ae s σ H x v Q I rx ⟨i,t.int,wq.at sg .i⟩
def qh:yu->CmpOp
 |.eq=>.Eq|.ne=>.NotEq|.lt=>.Lt|.le=>.LtE|.gt=>.Gt|.is=>.Is|.xZ=>.IsNot|.Fy=>.In|.jX=>.NotIn
def qp{ae:List (Addr×Obj)}{σ:St}{H G:Hp}{s:Shared}{Q:VK}{k:Bool}(I:Inv X ae σ H s)(sg:aA G H)(wq:dj W G H (.bl k) Q):EP X ae σ Q (.bool k) s:=⟨.bl k,H,I,rfl,wq.at sg .b⟩
def Ji(hK:W.K=X.K)(hu:X.A.units+64<cLine):hJ X (compareOp .Eq) (tM W iB):=by
 intro ae s σ H x y v u Q I rx ry h;obtain⟨H0,G,p,q,r,sg,t1,t2,e,wq⟩:=h
 unfold iB at e;split at e
 ·rename_i hc;rw [zza] at hc;cases e;exact KL I hK sg 8 (by omega) hc.1 hc.2 t1 t2 rx ry _ _ _ _ (qp I sg wq)
 ·cases e
def IJ(hK:W.K=X.K)(hu:X.A.units+64<cLine):hJ X (compareOp .NotEq) (tM W hW):=by
 intro ae s σ H x y v u Q I rx ry h;obtain⟨H0,G,p,q,r,sg,t1,t2,e,wq⟩:=h
 unfold hW at e;split at e
 ·rename_i hc;rw [zza] at hc;cases e;exact EF I hK sg 8 (by omega) hc.1 hc.2 t1 t2 rx ry _ _ _ _ (qp I sg wq)
 ·cases e
theorem lZ{G:Hp}:∀{xs:List PV} {vs:List V} {ns:List Int},ai W G xs vs->intsOf xs=some ns->vs=ns.map V.int
 |[],vs,ns,h,e=>by simp! [ai] at h;subst h;cases e;rfl
 |.int i::r,vs,ns,h,e=>by
  obtain⟨v,t,rfl,h1,h2⟩:=h.bK
  simp! [Rep] at h1;subst h1;unfold intsOf at e;obtain⟨m,hm,rfl⟩:=zzJ.mp e
  rw [lZ h2 hm]
  rfl
 |.aC::_,_,_,_,e=>by cases e
 |.bl _::_,_,_,_,e=>by cases e
 |.str _::_,_,_,_,e=>by cases e
 |.tup _::_,_,_,_,e=>by cases e
 |.lst _::_,_,_,_,e=>by cases e
 |.exc _::_,_,_,_,e=>by cases e
 |.bw _ _::_,_,_,_,e=>by cases e
def Res.of_ok{α:Type}{o:Option α}{a:α}(h:Res.of o=.ok a):o=some a:=by
 cases o with
 |none=>cases h
 |some b=>cases h;rfl
def Jp(hK:W.K=X.K)(hu:X.A.units+64<cLine):hJ X (compareOp .Lt) (tM W qC):=by
 intro ae s σ H x y v u Q I rx ry h;obtain⟨H0,G,p,q,r,sg,t1,t2,e,wq⟩:=h
 unfold qC at e;split at e
 ·cases e;exact K7 ae s σ H x y v u Q I rx ry ⟨_,_,t1.int,t2.int,wq.at sg .b⟩
 ·cases e
def Hm:hJ X (compareOp .LtE) (tM W oV):=by
 intro ae s σ H x y v u Q I rx ry h;obtain⟨H0,G,p,q,r,sg,t1,t2,e,wq⟩:=h
 unfold oV at e;split at e
 ·cases e;exact Lu ae s σ H x y v u Q I rx ry ⟨_,_,t1.int,t2.int,wq.at sg .b⟩
 ·cases e
def GV:hJ X (compareOp .Gt) (tM W uf):=by
 intro ae s σ H x y v u Q I rx ry h;obtain⟨H0,G,p,q,r,sg,t1,t2,e,wq⟩:=h
 unfold uf at e;split at e
 ·cases e;exact Ms ae s σ H x y v u Q I rx ry ⟨_,_,t1.int,t2.int,wq.at sg .b⟩
 ·cases e
def n0{H0 G H:Hp}{p:PV}{x:V}(sg:aA G H)(t:Top W H0 G H p x):decide (x=.aC)=yF p:=by
 cases p with
 |aC=>cases t.aC;rfl
 |bl b=>cases t.bl;rfl
 |int b=>cases t.int;rfl
 |str b=>cases t.str;rfl
 |tup b=>obtain⟨a,vs,rfl,_⟩:=t.tup sg;rfl
 |lst b=>obtain⟨a,vs,rfl,_⟩:=t.lst sg;rfl
 |bw b c=>obtain⟨a,vs,rfl,_⟩:=t.bw sg;rfl
 |exc c=>
  rcases t with t|t
  ·simp! [Rep] at t;obtain⟨a,C,rfl,_⟩:=t
   rfl
  ·exact t.elim
def G7:hJ X (compareOp .Is) (tM W rq):=by
 intro ae s σ H x y v u Q I rx ry h;obtain⟨H0,G,p,q,r,sg,t1,t2,e,wq⟩:=h
 unfold rq at e;split at e
 ·cases e;refine Hn ae s σ H x y v u Q I rx ry ⟨t2.aC,?_⟩;rw [n0 sg t1];exact wq.at sg .b
 ·cases e
def BI:hJ X (compareOp .IsNot) (tM W fQ):=by
 intro ae s σ H x y v u Q I rx ry h;obtain⟨H0,G,p,q,r,sg,t1,t2,e,wq⟩:=h
 unfold fQ at e;split at e
 ·cases e;refine Ct ae s σ H x y v u Q I rx ry ⟨t2.aC,?_⟩;rw [n0 sg t1];exact wq.at sg .b
 ·cases e
variable{H0 G H:Hp}
def uE{ae:List (Addr×Obj)}{σ:St}{s:Shared}(I:Inv X ae σ H s)(hK:W.K=X.K)(sg:aA G H){A:Around}{a:PV}{x:V}{x':Value}{ys:List PV}{us:List V}{ax:List Value}(hu:A.units+32<cLine)(ha:xT a=true)(hy:ys.all xT=true)(ta:Top W H0 G H a x)(rx:RelV x x')(l:ai W G ys us)(r:Vals us ax):
 ∃e:Value->Bool,(∀y∈ax,SeqAt.EqAt A s y x' (e y))/\∀(j:Nat) (y:Value) (p:PV),ax[j]?=some y->ys[j]?=some p->e y=eqv p a:=by
 classical
 have key:∀(j:Nat) (y:Value),ax[j]?=some y->∃p u,ys[j]?=some p/\us[j]?=some u/\Rep W G p u/\RelV u y/\xT p=true:=λj y e=>by
  have hj:=(zzH.mp e).1
  have hl:=r.length
  obtain⟨u,FL,Ir⟩:=r.get (i:=j) (x:=us[j]'(by omega)) (zzg (by omega))
  rw [e] at FL;cases FL;obtain⟨p,hp,kp⟩:=l.get (zzg (show j<us.length by omega))
  exact⟨p,_,hp,zzg (by omega),kp,Ir,zzT.mp hy p (zzD hp)⟩
 refine⟨λy=>if h:∃(j:Nat) (p:PV),ax[j]?=some y/\ys[j]?=some p then eqv h.choose_spec.choose a else false,λy Ic=>?_,λj y p e1 e2=>?_⟩
 ·obtain⟨j,hj,e⟩:=List.getElem_of_mem Ic
  have ej:ax[j]?=some y:=by rw [zzg hj,e]
  obtain⟨p,u,h1,h2,h3,h4,h5⟩:=key j y ej
  have hex:∃(j:Nat) (p:PV),ax[j]?=some y/\ys[j]?=some p:=⟨j,p,ej,h1⟩
  dsimp only;rw [dif_pos hex];have sp:=hex.choose_spec.choose_spec
  obtain⟨p2,u2,g1,g2,g3,g4,g5⟩:=key _ y sp.1
  have e3:hex.choose_spec.choose=p2:=zzq (sp.2.symm.trans g1)
  rw [e3];exact zF (H0:=H0) I hK sg 9 (by omega) g5 ha (.inl g3) ta g4 rx
 ·have hex:∃(j:Nat) (p:PV),ax[j]?=some y/\ys[j]?=some p:=⟨j,p,e1,e2⟩
  dsimp only;rw [dif_pos hex];obtain⟨p1,u1,f1,f2,f3,f4,f5⟩:=key j y e1
  rw [e2] at f1;cases f1;have sp:=hex.choose_spec.choose_spec
  obtain⟨p2,u2,g1,g2,g3,g4,g5⟩:=key _ y sp.1
  have e3:hex.choose_spec.choose=p2:=zzq (sp.2.symm.trans g1)
  have e4:u1=u2:=f4.inj g4
  subst e4;rw [e3,vf I hK sg DP g5 f5 (.inl g3:Top W H0 G H p2 u1) (.inl f3)]
def zo{ax:List Value}{ys:List PV}{e:Value->Bool}{f:PV->Bool}:ax.length=ys.length->(∀(j:Nat) (y:Value) (p:PV),ax[j]?=some y->ys[j]?=some p->e y=f p)->ax.any e=ys.any f:=by
 intro hl h;have:ax.map e=ys.map f:=i8 (by simpa using hl) λj x y hx hy=>by
  rw [zzQ] at hx hy;obtain⟨a,ha,rfl⟩:=zzJ.mp hx
  obtain⟨b,hb,rfl⟩:=zzJ.mp hy
  exact h j a b ha hb
 calc ax.any e=(ax.map e).any id:=by rw [List.any_map];rfl
  _=(ys.map f).any id:=by rw [this]
  _=ys.any f:=by rw [List.any_map];rfl
def GL(hK:W.K=X.K)(hu:X.A.units+64<cLine):hJ X (compareOp .In) (tM W sH):=by
 intro ae s σ H x y v u Q I rx ry h;obtain⟨H0,G,p,q,r,sg,t1,t2,e,wq⟩:=h
 have FL:X.A.in1.units+32<cLine:=by show X.A.units+1+32<_;omega
 unfold sH at e;split at e
 ·split at e
  ·rename_i hc;rw [zza] at hc;cases e;obtain⟨b,us,rfl,q2,l2⟩:=t2.lst sg
   cases ry;obtain⟨ax,rv,z,_⟩:=I.list (pT hK q2)
   obtain⟨e,he,hv⟩:=uE I hK sg FL hc.1 hc.2 t1 rx l2 rv
   refine SeqAt.in_listAt e z.isList (λy hy=>he y (by simpa using hy)) ?_
   have:=zo (by rw [<-rv.length,l2.length]) hv
   rw [List.any_toArray,this];exact qp I sg wq
  ·cases e
 ·cases e
def Dw(hK:W.K=X.K)(hu:X.A.units+64<cLine):hJ X (compareOp .NotIn) (tM W iW):=by
 intro ae s σ H x y v u Q I rx ry h;obtain⟨H0,G,p,q,r,sg,t1,t2,e,wq⟩:=h
 have FL:X.A.in1.units+32<cLine:=by show X.A.units+1+32<_;omega
 unfold iW at e;split at e
 ·split at e
  ·rename_i hc;rw [zza] at hc;cases e;obtain⟨b,us,rfl,q2,l2⟩:=t2.lst sg
   cases ry;obtain⟨ax,rv,z,_⟩:=I.list (pT hK q2)
   obtain⟨e,he,hv⟩:=uE I hK sg FL hc.1 hc.2 t1 rx l2 rv
   refine SeqAt.notIn_listAt e z.isList (λy hy=>he y (by simpa using hy)) ?_
   have:=zo (by rw [<-rv.length,l2.length]) hv
   rw [List.any_toArray,this];exact qp I sg wq
  ·cases e
 ·obtain⟨k,hk,e⟩:=Res.aS e
  cases e;have hk:=fH (Res.of_ok hk)
  subst hk;obtain⟨b,rfl,hb⟩:=t1.tupI (ns:=k) sg rfl
  obtain⟨a,us,rfl,n,hd,l⟩:=t2.bw sg
  cases ry;refine Co (show X.A.units+1<cLine by omega) I (.inr ⟨_,ki k,b,hd,rfl,(by rw [oK];exact sg _ _ hb),rfl⟩) rx λs' I'=>?_
  rw [i7,iM k _ us n];exact qp I' sg wq
 ·cases e
theorem gU(hK:W.K=X.K)(hu:X.A.units+64<cLine):∀o:yu,hJ X (compareOp (qh o)) (tM W (dI o))
 |.eq=>Ji hK hu|.ne=>IJ hK hu|.lt=>Jp hK hu|.le=>Hm|.gt=>GV|.is=>G7|.xZ=>BI|.Fy=>GL hK hu|.jX=>Dw hK hu
def uA{ps:List PV}{vs:List V}{i:Int}{p:PV}(l:ai W G ps vs)(h:pS ps i=some p):∃v,pS vs i=some v/\Rep W G p v:=by
 unfold pS at h⊢;rw [l.length];cases e:E8 ps.length i with
 |none=>rw [e] at h;cases h
 |some j=>
  rw [e] at h;exact l.p8 h
def IH(hu:X.A.units+1<cLine):Ka X (λx y H Q=>∃a aw k b v,x=.ref a/\Rd H a (.dT aw)/\y=.ref b/\H b=some (.tup (k.map kV))/\gG aw k=some v/\Q v H):=by
 intro value slice ae s σ H x y v u Q I rx ry h hs;obtain⟨a,aw,k,b,z,rfl,hd,rfl,hb,hv,q⟩:=h
 cases rx;cases ry;obtain⟨_,_,xs,rel,dd⟩:=jo I.aL hd
 obtain⟨w',hw,gP⟩:=iI.some_of (v:=z) (o:=(atKey xs k).map (·.2)) (by rw [<-hv];exact rel.val k)
 obtain⟨p,hp,hp2⟩:=zzJ.mp hw
 exact PyProof.Rows.subscriptTail_builtinR (x:=w') dd.typeIs PySem.F.slot_dict_getitem.lookup (wpAny_getItem_heap (Q:=λr s'=>r=w'/\EP X ae σ Q r s') (tupleKind_room_in1 hu) (gq I.aL hb) dd hp ⟨hp2,by rw [hp2];exact⟨z,H,I.tok _,gP,q⟩⟩) hs
def Pq(hK:W.K=X.K)(hu:X.A.units+64<cLine):Ka X (tM W aE):=by
 intro value slice ae s σ H x y v u Q I rx ry h hs;obtain⟨H0,G,p,q,r,sg,t1,t2,e,wq⟩:=h
 unfold aE at e;split at e
 ·obtain⟨a,vs,rfl,h1,l1⟩:=t1.lst sg
  obtain⟨w,hw,kw⟩:=uA l1 (Res.of_ok e)
  exact CG value slice ae s σ H _ y v u Q I rx ry ⟨a,vs,_,w,rfl,t2.int,pT hK h1,hw,wq.at sg kw⟩ hs
 ·obtain⟨a,vs,rfl,h1,l1⟩:=t1.tup sg
  rw [hK] at h1;obtain⟨w,hw,kw⟩:=uA l1 (Res.of_ok e)
  exact z9 value slice ae s σ H _ y v u Q I rx ry ⟨a,vs,_,w,rfl,t2.int,h1,hw,wq.at sg kw⟩ hs
 ·split at e
  ·rename_i hl;obtain⟨c,hc,e⟩:=Res.aS e
   cases e;exact Ht value slice ae s σ H x y v u Q I rx ry ⟨_,_,c,t1.str,t2.int,kQ hl,Res.of_ok hc,wq.at sg .s⟩ hs
  ·cases e
 ·obtain⟨k,hk,e2⟩:=Res.aS e
  have hk:=fH (Res.of_ok hk)
  subst hk;obtain⟨b,rfl,hb⟩:=t2.tupI (ns:=k) sg rfl
  obtain⟨a,us,rfl,n,hd,l⟩:=t1.bw sg
  obtain⟨w,hw,kw⟩:=kb l (Res.of_ok e2)
  exact IH (by omega) value slice ae s σ H _ _ v u Q I rx ry ⟨a,_,ki k,b,w,rfl,hd,rfl,(by rw [oK];exact sg _ _ hb),(by rw [i7];exact hw),wq.at sg kw⟩ hs
 ·cases e
def BN{ps:List PV}{vs:List V}(lo hi:Option Int)(l:ai W G ps vs):ai W G (sU ps lo hi) (xf vs lo hi):=by
 unfold sU xf;rw [l.length];exact(l.drop _).take _
def PM(hK:W.K=X.K):L2.Fb X (λx lo hi H Q=>∃H0 G p r,aA G H/\Top W H0 G H p x/\gO p lo hi=.ok r/\dj W G H r Q):=by
 intro ae s σ H x v vl vu lo hi sl Q I rx hs pl pu h;obtain⟨H0,G,p,r,sg,t1,e,wq⟩:=h
 unfold gO at e;split at e
 ·cases e;obtain⟨a,vs,rfl,h1,l1⟩:=t1.lst sg
  exact DQ ae s σ H _ v vl vu _ _ sl Q I rx hs pl pu ⟨a,vs,rfl,pT hK h1,λp hp=>wq.lst sg (BN _ _ l1) hp⟩
 ·cases e
def Ao(W:Wd)(f:List PV->Res PV):List V->Hp->VK->Prop:=λvs H Q=>∃H0 G ps r,aA G H/\Paired (λv p=>Top W H0 G H p v) vs ps/\f ps=.ok r/\dj W G H r Q
def gK{H0 G H:Hp}{vs:List V}{p:PV}(h:Paired (λv p=>Top W H0 G H p v) vs [p]):∃v,vs=[v]/\Top W H0 G H p v:=by
 cases h with
 |cons h t=>cases t;exact⟨_,rfl,h⟩
def L5{H0 G H:Hp}{vs:List V}{p q:PV}(h:Paired (λv p=>Top W H0 G H p v) vs [p,q]):∃v u,vs=[v,u]/\Top W H0 G H p v/\Top W H0 G H q u:=by
 cases h with
 |cons h t=>
  cases t with
  |cons h2 t2=>cases t2;exact⟨_,_,rfl,h,h2⟩
def wM(hK:W.K=X.K):cN X (.builtin "len") (Ao W si):=by
 intro ae s σ H xs us Q I r h;obtain⟨H0,G,ps,rr,sg,tp,e,wq⟩:=h
 unfold si at e;split at e
 ·cases e;obtain⟨v,rfl,t⟩:=gK tp
  obtain⟨a,vs,rfl,h1,l1⟩:=t.lst sg
  exact iL ae s σ H _ us Q I r ⟨a,vs,rfl,.inl (pT hK h1),by rw [l1.length];exact wq.at sg .i⟩
 ·cases e;obtain⟨v,rfl,t⟩:=gK tp
  obtain⟨a,vs,rfl,h1,l1⟩:=t.tup sg
  rw [hK] at h1;exact iL ae s σ H _ us Q I r ⟨a,vs,rfl,.inr h1,by rw [l1.length];exact wq.at sg .i⟩
 ·split at e
  ·rename_i hl;cases e;obtain⟨v,rfl,t⟩:=gK tp
   exact pj ae s σ H _ us Q I r ⟨_,by rw [t.str],kQ hl,wq.at sg .i⟩
  ·cases e
 ·cases e;obtain⟨v,rfl,t⟩:=gK tp
  obtain⟨a,us',rfl,n,hd,l⟩:=t.bw sg
  obtain⟨u,rfl,ru⟩:=vals1 r
  cases ru;exact IX I hd λt s' I'=>⟨.int _,H,I',⟨t,rfl⟩,by rw [fG n];exact wq.at sg .i⟩
 ·cases e
def wW:cN X (.builtin "abs") (Ao W zv):=by
 intro ae s σ H xs us Q I r h;obtain⟨H0,G,ps,rr,sg,tp,e,wq⟩:=h
 unfold zv at e;split at e
 ·cases e;obtain⟨v,rfl,t⟩:=gK tp
  exact ze ae s σ H _ us Q I r ⟨_,by rw [t.int],wq.at sg .i⟩
 ·cases e
def wb(hc:X.calm=true):cN X (.builtin "max") (Ao W zK):=by
 intro ae s σ H xs us Q I r h;obtain⟨H0,G,ps,rr,sg,tp,e,wq⟩:=h
 unfold zK at e;split at e
 ·cases e;obtain⟨v,u,rfl,t,t2⟩:=L5 tp
  exact vY hc ae s σ H _ us Q I r ⟨_,_,by rw [t.int,t2.int],wq.at sg .i⟩
 ·cases e
def wK:cN X (.type "int") (Ao W AI):=by
 intro ae s σ H xs us Q I r h;obtain⟨H0,G,ps,rr,sg,tp,e,wq⟩:=h
 unfold AI at e;split at e
 ·split at e
  ·rename_i hl;obtain⟨n,hn,e⟩:=Res.aS e
   cases e;obtain⟨v,rfl,t⟩:=gK tp
   exact oq ae s σ H _ us Q I r ⟨_,n,by rw [t.str],Res.of_ok hn,hl,wq.at sg .i⟩
  ·cases e
 ·cases e
def wy:cN X (.type "str") (Ao W Aj):=by
 intro ae s σ H xs us Q I r h;obtain⟨H0,G,ps,rr,sg,tp,e,wq⟩:=h
 unfold Aj at e;split at e
 ·split at e
  ·rename_i hl;cases e;obtain⟨v,rfl,t⟩:=gK tp
   exact oW ae s σ H _ us Q I r ⟨_,by rw [t.int],hl,wq.at sg .s⟩
  ·cases e
 ·cases e
def qV(hK:W.K=X.K):cN X (.type "tuple") (Ao W kO):=by
 intro ae s σ H xs us Q I r h;obtain⟨H0,G,ps,rr,sg,tp,e,wq⟩:=h
 unfold kO at e;split at e
 ·cases e;obtain⟨v,rfl,t⟩:=gK tp
  obtain⟨a,vs,rfl,h1,l1⟩:=t.lst sg
  exact mF ae s σ H _ us Q I r ⟨a,vs,rfl,.inl ⟨pT hK h1,λp hp=>wq.tup sg l1 hp⟩⟩
 ·cases e
def Ej{ns:List Int}(h:(ns.all λn=>decide (-(2^32)<n)&&decide (n<2^32))=true)(hl:ns.length<dF):PyProof.Rows.SumFits ns:=by
 have hb:∀n∈ns, -(2^32)<n/\n<2^32:=λn hn=>by
  have:=zzT.mp h n hn
  simpa using this
 have hs:∀l:List Int,(∀n∈l, -(2^32)<n/\n<2^32)-> -(2^32*(l.length:Int))<=l.sum/\l.sum<=2^32*(l.length:Int):=λl=>by
  induction l with
  |nil=>intro _;simp
  |cons a l ih=>
   intro k;have h1:=k a (by simp)
   have h2:=ih λn hn=>k n (by simp [hn])
   rw [List.sum_cons,zzL];omega
 intro j hj;have e:ns.getD j 0=ns[j]:=by rw [zzK,zzg hj];rfl
 have h1:=hb ns[j] (List.getElem_mem hj)
 have h2:=hs (ns.take (j+1)) λn hn=>hb n (List.mem_of_mem_take hn)
 have h3:(ns.take (j+1)).length<=ns.length:=by rw [List.length_take];omega
 have h4:ns.length<1000000:=hl
 rw [e];unfold InLong
 constructor<;>omega
def xl(hc:X.calm=true)(hK:W.K=X.K):cN X (.builtin "sum") (Ao W zP):=by
 intro ae s σ H xs us Q I r h;obtain⟨H0,G,ps,rr,sg,tp,e,wq⟩:=h
 unfold zP at e;split at e
 ·obtain⟨ns,hb,e⟩:=Res.aS e
  split at e
  ·rename_i hcond;rw [zza] at hcond;cases e;obtain⟨v,rfl,t⟩:=gK tp
   obtain⟨a,vs,rfl,h1,l1⟩:=t.lst sg
   cases lZ l1 (Res.of_ok hb);exact xw hc ae s σ H _ us Q I r ⟨a,ns,rfl,pT hK h1,Ej hcond.1 (zzY hcond.2),wq.at sg .i⟩
  ·cases e
 ·cases e
def ue:Ty->String
 |.int=>"int"|.bool=>"bool"|.tuple=>"tuple"
def K5{K:zz8}(t:Ty):Cw.Bh K "NoneType" (ue t) false/\(∀b,Cw.Bh K "bool" (ue t) (iD t (.bl b)))/\(∀i,Cw.Bh K "int" (ue t) (iD t (.int i)))/\(∀z,Cw.Bh K "str" (ue t) (iD t (.str z)))/\(∀z,Cw.Bh K "tuple" (ue t) (iD t (.tup z)))/\(∀z,Cw.Bh K "list" (ue t) (iD t (.lst z))):=by
 cases t
 all_goals refine⟨?_,λb=>?_,λb=>?_,λb=>?_,λb=>?_,λb=>?_⟩
 all_goals first
  |exact Cw.Ar _
  |exact Cw.zI (b:=false) (by decide+kernel) (by decide+kernel) (by decide+kernel)
  |exact Cw.zI (b:=true) (by decide+kernel) (by decide+kernel) (by decide+kernel)
def yX(hK:W.K=X.K)(t:Ty):cN X (.builtin "isinstance") (λxs H Q=>∃v H0 G p r,xs=[v,.ty (ue t)]/\aA G H/\Top W H0 G H p v/\jy t p=.ok r/\dj W G H r Q):=by
 intro ae s σ H xs us Q I rr h;obtain⟨v,H0,G,p,r,rfl,sg,tp,e,wq⟩:=h
 obtain⟨u,u2,rfl,ru,ru2⟩:=Vals.two rr
 cases ru2;obtain⟨k1,k2,k3,k4,k5,k6⟩:=K5 (K:=X.K) t
 cases p with
 |exc c=>cases e
 |bw a b=>cases e
 |aC=>cases e;cases tp.aC;cases ru;cases t<;>exact PySem.W.kia_one PySem.W.kitx_none I.ql True.intro k1 (λz=>nomatch z) λtk=>⟨.bl _,H,I.tok tk,rfl,wq.at sg .b⟩
 |bl b=>cases e;cases tp.bl;cases ru;exact PySem.W.kia_one PySem.W.kitx_bool I.ql True.intro (k2 b) (λz=>nomatch z) λtk=>⟨.bl _,H,I.tok tk,rfl,wq.at sg .b⟩
 |int b=>cases e;cases tp.int;obtain⟨t1,rfl⟩:=ru;exact PySem.W.kia_one PySem.W.kitx_int I.ql True.intro (k3 b) (λz=>nomatch z) λtk=>⟨.bl _,H,I.tok tk,rfl,wq.at sg .b⟩
 |str b=>cases e;cases tp.str;obtain⟨t1,rfl⟩:=ru;exact PySem.W.kia_one PySem.W.kitx_str I.ql True.intro (k4 b) (λz=>nomatch z) λtk=>⟨.bl _,H,I.tok tk,rfl,wq.at sg .b⟩
 |tup b=>
  cases e;obtain⟨a,vs,rfl,h1,l1⟩:=tp.tup sg
  rw [hK] at h1;cases ru;obtain⟨ax,_,⟨o,e1,e2,_⟩,_⟩:=I.tuple h1
  exact PySem.W.kia_one PySem.W.kitx_tuple I.ql ⟨o,e1,e2⟩ (k5 b) (λz=>nomatch z) λtk=>⟨.bl _,H,I.tok tk,rfl,wq.at sg .b⟩
 |lst b=>
  cases e;obtain⟨a,vs,rfl,h1,l1⟩:=tp.lst sg
  cases ru;obtain⟨ax,n,_,_,_,e1⟩:=EO hK I h1
  exact PySem.W.kia_one PySem.W.kitx_list I.ql ⟨_,e1,rfl⟩ (k6 b) (λz=>nomatch z) λtk=>⟨.bl _,H,I.tok tk,rfl,wq.at sg .b⟩
theorem pX{k:List Int}{v:V}(h:Rep W G (af k) v):∃b,v=.ref b/\G b=some (.tup (k.map V.int)):=Top.tupI (H0:=G) (aA.refl G) rfl (.inl h)
theorem gV:∀{vs:List V} {nss:List (List Int)} {G:Hp},aA G H->Paired (λv ns=>∃b,v=V.ref b/\H b=some (.tup (ns.map V.int))) vs nss->∃G',aB W G H G' H/\ai W G' (nss.map af) vs
 |_,_,G,sg,.nil=>⟨G,.refl sg,.nil⟩
 |_,_,G,sg,.cons (b:=ns) h t=>by
  obtain⟨b,rfl,hb⟩:=h
  have g1:=aB.adopt (W:=W) sg hb
  obtain⟨G2,g2,l⟩:=gV g1.sub t
  refine⟨G2,g1.trans g2,.cons (Rep.same g2.g _ ?_) l⟩;refine .t (.inl aq) ?_;have go:∀ns:List Int,ai W (upd G b (.tup (ns.map V.int))) (ns.map .int) (ns.map V.int)/\True:=λ_=>⟨by
   rename_i xR;have all:∀(G':Hp) (l:List Int),ai W G' (l.map .int) (l.map V.int):=λG' l=>by
    induction l with
    |nil=>exact .nil
    |cons x l ih=>exact .cons .i ih
   exact all _ _,trivial⟩
  exact(go ns).1
def qH(hK:W.K=X.K)(hc:X.calm=true):cN X (.type "list") (Ao W mq):=by
 intro ae s σ H xs us Q I r h;obtain⟨H0,G,ps,rr,sg,tp,e,wq⟩:=h
 unfold mq at e;split at e
 ·split at e
  ·rename_i ks qj hb;cases e;obtain⟨v,rfl,t⟩:=gK tp
   obtain⟨a,us',rfl,n,hd,l⟩:=t.bw sg
   refine tV hc ae s σ H _ us Q I r ⟨a,_,ks,rfl,hd,pL n,by rw [fG n];exact zzU hb (by decide),λp vs hp pv=>?_⟩
   obtain⟨G1,g1,l1⟩:=gV (W:=W) sg pv
   exact wq _ _ _ (g1.trans (.new g1.sub hp)) (.l (.inl (.inl aq)) (ai.same (bB (g1.sub.free hp)) _ l1))
  ·cases e
 ·cases e
theorem yk{K:zz8}(hK:W.K=K)(sg:aA G H):∀{xs:List PV} {ps:List (List Int×PV)} {vs:List V},tZ xs=some ps->ai W G xs vs->∃us,ai W G (ps.map (·.2)) us/\hZ K H vs ((ps.map λp=>ki p.1).zip us)
 |[],_,_,e,l=>by cases e;simp! [ai] at l;subst l;exact⟨[],.nil,.nil⟩
 |x::xs,ps,vs,e,l=>by
  obtain⟨v,vr,rfl,h1,h2⟩:=l.bK
  unfold tZ at e;split at e
  ·rename_i heq;cases heq
  ·rename_i heq;cases heq;obtain⟨k,hk,e⟩:=zzZ.mp e
   obtain⟨r,hr,rfl⟩:=zzJ.mp e
   obtain⟨us,l2,p2⟩:=yk hK sg hr h2
   simp! [Rep] at h1;obtain⟨q,ws,rfl,tq,lq⟩:=h1
   obtain⟨w1,wr,rfl,k1,lq⟩:=lq.bK
   obtain⟨w2,wr2,rfl,k2,lq⟩:=lq.bK
   simp! [ai] at lq;subst lq;rw [fH hk] at k1;obtain⟨b,rfl,hb⟩:=pX k1
   refine⟨w2::us,.cons k2 l2,.cons ⟨q,b,rfl,?_,by rw [oK];exact sg _ _ hb⟩ p2⟩;rw [<-hK];exact aA.tup sg tq.sq
  ·cases e
theorem nX:∀(ps:List (List Int×PV)) {us:List V} {ks:List (List Int)} {qs:List PV} {ws:List V},ai W G (ps.map (·.2)) us->ks.length=ws.length->ai W G qs ws->∃zs,(en ps ks qs).1.length=zs.length/\ai W G (en ps ks qs).2 zs/\d5 (kz ks ws) ((ps.map λp=>ki p.1).zip us)=kz (en ps ks qs).1 zs
 |[],us,ks,qs,ws,_,n,l=>⟨ws,n,l,rfl⟩
 |p::ps,us,ks,qs,ws,lu,n,l=>by
  obtain⟨u,ur,rfl,h1,h2⟩:=lu.bK
  obtain⟨zs,z1,z2,z3⟩:=nX ps h2 (lK n p.1 u) (pM (ks:=ks) (k:=p.1) l h1)
  refine⟨zs,z1,z2,?_⟩;show d5 (putK (kz ks ws) (ki p.1) u) _=_
  rw [sO n];exact z3
def A4(hK:W.K=X.K){H0:Hp}{ps:List PV}{q:PV}{xs:List V}(sg:aA G H)(tp:Paired (λv p=>Top W H0 G H p v) xs ps)(e:nE ps=.ok q):∃ks qs,q=.bw ks qs/\∃a vs aw,xs=[V.ref a]/\fV X.K H a vs/\hZ X.K H vs aw/\∃zs,ks.length=zs.length/\ai W G qs zs/\d5 [] aw=kz ks zs:=by
 unfold nE at e;split at e
 ·obtain⟨ps,hp,e⟩:=Res.aS e
  cases e;obtain⟨v,rfl,t⟩:=gK tp
  obtain⟨a,vs,rfl,h1,l1⟩:=t.lst sg
  obtain⟨ws,lw,pw⟩:=yk hK sg (Res.of_ok hp) l1
  obtain⟨zs,z1,z2,z3⟩:=nX ps (ks:=[]) (qs:=[]) (ws:=[]) lw rfl .nil
  exact⟨_,_,rfl,a,vs,_,rfl,pT hK h1,pw,zs,z1,z2,z3⟩
 ·cases e
def rn(hK:W.K=X.K)(hc:X.calm=true)(hu:X.A.units+64<cLine):cN X (.type "dict") (Ao W nE):=by
 intro ae s σ H xs us Q I r h;obtain⟨H0,G,ps,rr,sg,tp,e,wq⟩:=h
 obtain⟨ks,qs,rfl,a,vs,aw,rfl,h1,pw,zs,z1,z2,z3⟩:=A4 hK sg tp e
 refine sP hc (by omega) ae s σ H _ us Q I r ⟨a,vs,_,rfl,h1,pw,λp o hn=>?_⟩
 rw [z3];refine wq _ _ _ (.new sg hn) ?_;simp! [Rep];exact⟨p,o,zs,rfl,z1,aq,ai.same (bB (sg.free hn)) _ z2⟩
end
end Ci
namespace L2
open PySem PySem.Spec PyProof.Rows
section
variable{X:Cx}{scope:Scope}{xs ys:List Str}{is:List Nat}
theorem o9{i₀:Nat}{x₀:Str}{pos' fZ:Pos}{elt tg iter HR:Expr}{pos:Pos}{wi:TI}{g:TG}{te:TE}{tt:TT}(hN₀:X.N.Nodup)(hi₀:X.N[i₀]?=some x₀)(hx₀:Loc X.env.scope x₀)(hc:X.calm=true)(S:eV X scope xs ys is)(hi:PI X tg iter wi)
 (hg:∀fp s1 H1 C,PG (bW X (xs++ys) scope (bH X.env ys) fp s1 H1 C) tg g) (ht:∀fp s1 H1 C,PT (bW X (xs++ys) scope (bH X.env ys) fp s1 H1 C) HR tt) (he:∀fp s1 H1 C,PE (bW X (xs++ys) scope (bH X.env ys) fp s1 H1 C) elt te)
 (wc:swapsWith (.ListComp elt [⟨tg,iter,[HR],0⟩] scope pos) (some (.Name x₀ pos')) fZ.line X.env=pure true:=by rfl)
 (hs:∀x,foldedSetIterable iter X.env x=pure x:=by intro _;rfl) (hf₀:X.fn x₀=true\/X.env.scope.names.lookup x₀=some .local:=by first|exact .inl rfl|exact .inr rfl|assumption):
 PS X (.Assign [.Name x₀ pos'] (.ListComp elt [⟨tg,iter,[HR],0⟩] scope pos) fZ) (B3 (jZ wi xs.length g tt te is) (gH i₀)):=by
 intro ae s σ H D₀ I h;rw [exec_Assign_Name_used _ _ _ _ wc];refine zzA (wpAny_standAt (zzA ?_));show wpAny _ X.A (do let _<-comprehension (.ListComp elt [⟨tg,iter,[HR],0⟩] scope pos) scope X.env _ (newList []) false (eval iter X.env) (some (assign (.Name x₀ pos') X.env))) _ _ s;refine zzA (wpAny_mono (gW (QQ:=λ_ s'=>∃σ2 H2,Inv X ae σ2 H2 s'/\D₀.nx σ2 H2) (Q:=λv H4=>gH i₀ v σ H4 D₀.nx) hc S hi hg (λfp s1 H1 C=>vG (ht fp s1 H1 C)) he hs I h λD C s4 H4 m I5 hn ⟨g0,g1,_,g3,g4,g5⟩ q=>?_) (λ_ s' hq=>zzG (zzG hq)) λ_ _ e=>e)
 refine wpAny_assign_Name (jk I5 hN₀ hi₀ hx₀ (show RelV (.ref D) (.ref D) from rfl) (λs6 I6 ⟨a6,sb6,ha6⟩=>?_) hf₀);have xW:C≠a6:=by
  rcases ha6 with z|z
  ·rw [z];exact g1
  ·exact λz2=>g4 _ _ z z2.symm
 exact⟨m,hn.sameBut sb6 xW,λh' xh=>⟨_,_,I6.turned (t':=s6.toks) (it:=C) (λb o hb e=>xh.extBut b o hb e) g0 g1 g3 g4 g5,q⟩⟩
end
open PySem.AutoSeq1 (wpAny_loadPart')
section
variable{prog:Program}{w:World}{A:Around}{E:Value->Shared->Prop}{s:Shared}{jt tu:Addr}{i:Nat}{ax:Array Value}{Q:Value->Shared->Prop}
def jx{x:Value}(ih:s.heap.IsTupleIter jt tu i)(th:s.heap.IsTuple tu ax)(hx:ax[i]?=some x)
 (k:∀g,g.IsTupleIter jt tu (i+1)->Heap.SameBut jt s.heap g->Q x {s with heap:=g}):wpAny (model prog w) A (Builtin.SmallTypes.nextOf (.ref jt)) Q E s:=by
 obtain⟨ob,e1,e2,e3⟩:=id ih
 obtain⟨ot,f1,_,nn,f2⟩:=th
 unfold Builtin.SmallTypes.nextOf;refine zzA (wpAny_callSpecial?_slot (name:=Str.ofString "__next__") ih.typeIs F.slot_tuple_iterator_next (wpAny_call_entry F.slot_tuple_iterator_next ih.typeIs F.entry_tuple_iterator_next ?_ (F.args_tuple_iterator_next_1 _)));show wpAny _ _ (field (.ref jt) 0>>=_) _ _ s;refine zzA (wpAny_field e1 e3 (x:=.ref tu) rfl ?_);show wpAny _ _ (if(Value.ref tu==Value.none)=true then _ else _) _ _ s;rw [if_neg (show¬((Value.ref tu==Value.none)=true) from zzf)];show wpAny _ _ (field (.ref jt) 1>>=_) _ _ s;refine zzA (wpAny_field e1 e3 (x:=.int i 0) rfl ?_);show wpAny _ _ (seqItems? (.ref tu)>>=_) _ _ s;refine zzA (wpAny_seqItems f1 f2 ?_);simp! [zz4,hx];refine zzA (wpAny_setField e1 e3 (by simp) (zzG ⟨x,rfl,zzG (k _ ?_ (zzu ..))⟩));exact⟨_,Heap.get?_update_self _ e1 (Obj.isFreed_of_fields (Obj.data_mapFields e3 _)),(Obj.cls_mapFields ..).trans e2,by rw [Obj.data_mapFields e3];simp [rawInt]⟩
def lP(hh:A.handled=none)(ih:s.heap.IsTupleIter jt tu i)(th:s.heap.IsTuple tu ax)(hx:ax[i]?=none)
 (k:∀g e,Heap.ExtBut jt s.heap g->(∃o,g.get? e=some o/\o.cls=.type "StopIteration")->E (.ref e) {s with heap:=g}):wpAny (model prog w) A (Builtin.SmallTypes.nextOf (.ref jt)) Q E s:=by
 obtain⟨ob,e1,e2,e3⟩:=id ih
 obtain⟨ot,f1,_,nn,f2⟩:=th
 unfold Builtin.SmallTypes.nextOf;refine zzA (wpAny_callSpecial?_slot (name:=Str.ofString "__next__") ih.typeIs F.slot_tuple_iterator_next (wpAny_call_entry F.slot_tuple_iterator_next ih.typeIs F.entry_tuple_iterator_next ?_ (F.args_tuple_iterator_next_1 _)));show wpAny _ _ (field (.ref jt) 0>>=_) _ _ s;refine zzA (wpAny_field e1 e3 (x:=.ref tu) rfl ?_);show wpAny _ _ (if(Value.ref tu==Value.none)=true then _ else _) _ _ s;rw [if_neg (show¬((Value.ref tu==Value.none)=true) from zzf)];show wpAny _ _ (field (.ref jt) 1>>=_) _ _ s;refine zzA (wpAny_field e1 e3 (x:=.int i 0) rfl ?_);show wpAny _ _ (seqItems? (.ref tu)>>=_) _ _ s;refine zzA (wpAny_seqItems f1 f2 ?_);simp! [zz4,hx];refine zzA (wpAny_rule (zzA (wpAny_setField e1 e3 (by simp) ?_)));show wpAny _ _ (newExc (.type "StopIteration") []>>=_) _ _ _;refine zzA ?_;simp! [newExc,newTuple];refine zzA (wpAny_newObj_type ?_ (by size_fits));refine zzA (m:=firstArgMember _ _) (wpAny_of_eq (a:=Value.none) (by first|rfl|(simp! [firstArgMember];rfl)) ?_);refine wpAny_newObj_type ?_ (by size_fits);simp! [raiseNew];refine zzA (wpAny_handled ?_)
 first|rw [show A.in1.handled=none from hh]|rw [hh]
 refine zzA (zzG (wpAny_throw ?_));exact k _ _ (((zzu ..).extBut.push _).push _) ⟨_,zzX _ rfl,rfl⟩
end
theorem nv{prog:Program}{w:World}{A:Around}(hh:A.handled=none)(jt tu:Addr)(g9:tu≠jt)(ax:Array Value):
 Draws prog w A jt [jt,tu] ax.size (λi v=>ax[i]?=some v) (λi h=>h.IsTupleIter jt tu i/\h.IsTuple tu ax) where
 live:=λ_ _ st=>let⟨o,ho,_⟩:=st.1;⟨o,ho⟩
 frame:=λ_ _ _ st hk=>⟨st.1.at λo e=>hk jt (by simp) o e,by obtain⟨o,e,r⟩:=st.2;exact⟨o,hk tu (by simp) o e,r⟩⟩
 item:=λi s Q E hi st hQ=>jx st.1 st.2 (x:=ax[i]) (by simp [hi]) λg ig sb=>hQ _ g s.toks (by simp [hi]) ⟨ig,by obtain⟨o,e,r⟩:=st.2;exact⟨o,sb.extBut _ _ g9 e,r⟩⟩ sb
 done:=λs Q E st hE=>lP hh st.1 st.2 (by simp) hE
theorem wA(l:Addr)(items:Array Value)(n:Nat)(bw:Option Addr)(sl:Array (Option Value)):
 Meets (Builtin.«enumerate.__new__» ⟨[.type "enumerate",.ref l],[]⟩) (λ_ R s=>s.heap.get? l=some {cls:=.type "tuple",dict:=bw,data:=.seq items n,slots:=sl}/\
  R (.ok (.ret (.ref (s.heap.push {cls:=.type "tuple_iterator",data:=.fields #[.ref l,.int 0 0]}).objs.size)))
   {s with heap:=(s.heap.push {cls:=.type "tuple_iterator",data:=.fields #[.ref l,.int 0 0]}).push {cls:=.type "enumerate",data:=.fields #[.none,.bool false,.ref (zz9 s),rawInt 0,.none,.none]}}):=
 .of_wp λprog w A R s h=>by
  obtain⟨hp,g,d,tk,os⟩:=s
  obtain⟨hl,h⟩:=h
  have Sz:=sub_enumerate
  have hL:Heap.IsTuple (Shared.heap ⟨hp,g,d,tk,os⟩) l items:=⟨_,hl,rfl,n,rfl⟩
  wp_walk using wpAny_loadPart' hl
  refine wpAny_stack_any λst=>zzG ?_
  split
  ·rename_i c _ _ _ _ _;cases(c==Value.type "enumerate")<;>(wp_walk using wpAny_loadPart' hl,wpAny_pyIter_tuple hL;exact⟨_,rfl,h⟩)
  ·wp_walk using wpAny_loadPart' hl,wpAny_pyIter_tuple hL
   exact⟨_,rfl,h⟩
def fN{h:Heap}{a b:Addr}{o1 o2:Obj}(h1:h.get? a=some o1)(h2:h.get? b=some o2)(hc:o1.cls≠o2.cls):a≠b:=λz=>by
 subst z;rw [h1] at h2;cases h2;exact hc rfl
def eQ(z:Str):strIterType z="str_ascii_iterator"\/strIterType z="str_iterator":=by
 unfold strIterType;split
 ·exact .inl rfl
 ·exact .inr rfl
def jf{X:Cx}{ae:List (Addr×Obj)}{σ:St}{H:Hp}{s:Shared}{E:Value->Shared->Prop}{e it:Addr}{Qs:List Addr}{n i:Nat}{Pv:Nat->Value->Prop}{Sv:Nat->Heap->Prop}{old:Value}{Gx:V->Prop}{elts:List Expr}{x1:Nat}{pos:Pos}
 (I:Inv X ae σ H s) (D:Draws X.prog X.w X.A.in1 it Qs n Pv Sv) (he:IsEnum s.heap e it i old) (ez:Sv i s.heap) (cC:i<n) (g9:e≠it) (QR:e∉Qs) (hf:∀b∈[e,it],fu X ae H b) (hP:∀u,Pv i u->∃x,RelV x u/\Gx x):
 wpAny (model X.prog X.w) X.A (pyNext (.ref e)) (λr s1=>∃u,r=some u/\wpAny (model X.prog X.w) X.A (letOwnedTupleGo (.Tuple elts x1 pos) (.ref e) u) (λ_ s2=>∃x p,u=.ref p/\Gx x/\H p=none/\e≠p/\it≠p/\
  Inv X ae σ (upd H p (.tup [.int i,x])) s2/\(∃Ph,IsEnum s2.heap e it ((i:Int)+1) Ph)/\Sv (i+1) s2.heap) E s1) E s:=by
 refine wpAny_pyNext_enum_itemD D he ez cC g9 QR λu h' tk pu ho kl ht hz kk=>?_
 obtain⟨x,rx,gx⟩:=hP u pu
 obtain⟨f0,f1,f2,f3,f4,f5⟩:=hf e (by simp)
 obtain⟨g0,g1,g2,g3,g4,g5⟩:=hf it (by simp)
 have Cq:H (zz9 s)=none:=I.aL.fresh (zzE _)
 obtain⟨oi,hoi⟩:=D.live _ _ ez
 have Qe:e≠(zz9 s):=zzb (zzO he)
 have SY:it≠(zz9 s):=zzb (zzO hoi)
 have C6:∀b o,H b=some o->b≠e/\b≠it/\b≠(zz9 s):=λb o q=>⟨(λz=>(by rw [z,f0] at q;cases q)),(λz=>(by rw [z,g0] at q;cases q)),zzb (I.aL.lt q)⟩
 have I1:Inv X ae σ (upd H (zz9 s) (.tup [.int i,x])) {s with heap:=h',toks:=tk+1}:=by
  refine I.step (g':=s.gens) (d':=s.drawn) (ch:=[e,it]) (λb hb=>?_) (λb o _ _ hc q _=>kk b o (λz=>hc (by simp [z])) (λz=>hc (by simp [z])) q)
   (λb o _ _ hc q _=>⟨o.slots,kk b o (λz=>hc (by simp [z])) (λz=>hc (by simp [z])) q⟩) (λb o _ q nb=>by rw [ag (zzb (zzO q))];exact nb)
   (λb o hc q=>⟨o,kk b o (λz=>hc (by simp [z])) (λz=>hc (by simp [z])) q⟩) (λb xs q=>by rw [ag (C6 b _ q).2.2];exact q) (λb o u q=>by rw [ag (C6 b _ q).2.2];exact q)
   (λb ps q=>⟨#[],by rw [ag (C6 b _ q).2.2,q];simp⟩) (λm hm=>?_) (λb o q=>?_) I.bare
  ·rcases zzm.mp hb with z|z
   ·subst z;exact⟨f3,f1,f4,f5⟩
   ·rw [zzi.mp z];exact⟨g3,g1,g4,g5⟩
  ·obtain⟨o,es,ep,q,r⟩:=hm
   exact⟨o,es,ep,kk _ o (Ne.symm f1) (Ne.symm g1) q,r⟩
  ·by_cases hb:b=(zz9 s)
   ·subst hb;rw [aq] at q;cases q;exact⟨(show 2<=sizeLine by decide),[.int i tk,u],.cons ⟨tk,rfl⟩ (.cons rx .nil),⟨_,ht,rfl,_,rfl⟩⟩
   ·rw [ag hb] at q;refine(I.aL b o q).eP (λc v hc z=>kk c v ?_ ?_ z) (λc z=>by rw [ag (C6 c _ z).2.2];exact z) λc xs z=>by rw [ag (C6 c _ z).2.2];exact z
    ·rcases hc with z'|z'
     ·rw [z'];exact(C6 b o q).1
     ·exact(C6 c _ z').1
    ·rcases hc with z'|z'
     ·rw [z'];exact(C6 b o q).2.1
     ·exact(C6 c _ z').2.1
 refine⟨_,rfl,wpAny_letOwnedTupleGo_enum ho λh2 Iw sb=>?_⟩
 refine⟨x,(zz9 s),rfl,gx,Cq,Qe,SY,I1.turned (t':=tk+1) (it:=e) (λb o hb q=>sb.extBut b o hb q) (by rw [ag Qe];exact f0) f1 f3 f4 f5,⟨_,Iw⟩,D.frame _ _ _ kl λb hb o q=>sb.extBut b o (λz=>QR (z▸hb)) q⟩
noncomputable def NT(K:zz8)(a:Addr)(xs:List V):It:=
 ⟨λi H=>fF K H a xs/\i<xs.length,λi H v H'=>∃p x,v=.ref p/\H p=none/\H'=upd H p (.tup [.int (i:Nat),x])/\xs[i]?=some x,λi H=>fF K H a xs/\i=xs.length⟩
noncomputable def Nm(z:Str):It:=
 ⟨λi _=>i<z.cps.size,λi H v H'=>∃p c,v=.ref p/\H p=none/\H'=upd H p (.tup [.int (i:Nat),.str ⟨#[c]⟩])/\z.cps[i]?=some c,λi _=>i=z.cps.size⟩
def tQ{P:Program}{w:World}{K:zz8}{elts:List Expr}{x1:Nat}{pos:Pos}(a e it:Addr)(xs:List V):Turn P w K (.Tuple elts x1 pos) (NT K a xs) [e,it] e (λi h=>(∃old,IsEnum h e it i old)/\h.IsTupleIter it a i) where
 mem:=by simp
 obj:=λi h st b hb=>by
  obtain⟨⟨old,he⟩,o,ho,_,hd⟩:=st
  rcases zzm.mp hb with z|z
  ·subst z;exact⟨_,he,λv q=>by cases q⟩
  ·rw [zzi.mp z];exact⟨o,ho,λv q=>by rw [hd] at q;cases q⟩
 keep:=λi h h' st k=>⟨by obtain⟨old,he⟩:=st.1;exact⟨old,k e (by simp) _ he⟩,st.2.at λo q=>k it (by simp) o q⟩
 item:=by
  intro X hP hw hK hc i ae s σ H E I hf st hg;subst hP hw hK;obtain⟨hq,cC⟩:=hg
  obtain⟨⟨old,he⟩,hit⟩:=st
  obtain⟨ax,rv,p,hz⟩:=I.tuple hq
  have hl:=rv.length
  have jY:=hit
  obtain⟨oi,e1,e2,_⟩:=hit
  obtain⟨oa,a1,a2,_⟩:=id p
  have xW:a≠it:=fN a1 e1 (by rw [a2,e2];decide+kernel)
  have E6:e≠it:=fN he e1 (by rw [e2];show Value.type "enumerate"≠_;decide+kernel)
  have HF:e≠a:=fN he a1 (by rw [a2];show Value.type "enumerate"≠_;decide+kernel)
  refine bI (jf (Gx:=λx=>xs[i]?=some x) I (nv (A:=X.A.in1) (I.ok.hd hc) it a xW ax.toArray) he ⟨jY,p⟩ (by rw [zzC];omega) E6 (by simp [E6,HF]) hf (λu hu=>?_)) λr s1 ⟨u,hr,k⟩=>⟨u,hr,bI k λ_ s2 ⟨x,q,z1,z2,z3,z4,z5,z6,z7,z8⟩=>?_⟩
  ·have Mc:xs[i]?=some xs[i]:=zzg cC
   obtain⟨u',hu',ru'⟩:=rv.get Mc
   have:ax.toArray[i]?=some u':=by simpa using hu'
   have Ir:ax.toArray[i]?=some u:=hu
   rw [this] at Ir;cases Ir;exact⟨xs[i],ru',Mc⟩
  ·exact⟨.ref q,_,z6,z1.symm▸rfl,⟨q,x,rfl,z3,rfl,z2⟩,⟨z7,z8.1⟩,λb hb=>by
    rcases zzm.mp hb with w|w
    ·rw [w,ag z4];exact(hf e (by simp)).1
    ·rw [zzi.mp w,ag z5];exact(hf it (by simp)).1⟩
 done:=by
  intro X hP hw hK hc i ae s σ H E I hf st hg;subst hP hw hK;obtain⟨hq,rfl⟩:=hg
  obtain⟨⟨old,he⟩,hit⟩:=st
  obtain⟨ax,rv,p,hz⟩:=I.tuple hq
  have hl:=rv.length
  have jY:=hit
  obtain⟨oi,e1,e2,_⟩:=hit
  obtain⟨oa,a1,a2,_⟩:=id p
  have xW:a≠it:=fN a1 e1 (by rw [a2,e2];decide+kernel)
  obtain⟨g0,g1,g2,g3,g4,g5⟩:=hf it (by simp)
  refine wpAny_pyNext_enum_endD (nv (A:=X.A.in1) (I.ok.hd hc) it a xW ax.toArray) he ⟨by rw [zzC,<-hl];exact jY,p⟩ λh' eb=>⟨rfl,I.turned (t':=s.toks) (λb o hb q=>eb b o hb q) g0 g1 g3 g4 g5⟩
 self:=λ_ _ _ _ _ st h=>by obtain⟨⟨old,he⟩,_⟩:=st;exact wpAny_pyIter_enum he h
def mw{prog:Program}{w:World}{A:Around}{E:Value->Shared->Prop}{s:Shared}{l:Addr}{items:Array Value}{Q:Value->Shared->Prop}(hL:IsTup s.heap l items)
 (h:∀g,IsEnum g ((zz9 s)+1) (zz9 s) 0 .none->g.IsTupleIter (zz9 s) l 0->(∀b o,s.heap.get? b=some o->g.get? b=some o)->Q (.ref ((zz9 s)+1)) {s with heap:=g}):
 wpAny (model prog w) A (call (.type "enumerate") [.ref l]) Q E s:=by
 obtain⟨⟨cls,dd,data,sl⟩,ho,hc,n,hd⟩:=id hL
 simp only at hc hd;subst hc hd;have hz:(s.heap.push {cls:=.type "tuple_iterator",data:=.fields #[.ref l,.int 0 0]}).objs.size=(zz9 s)+1:=Heap.size_push ..
 refine callType_new F.called_enumerate (by decide) (F.typeCall_enumerate_1 _) (F.newCall_enumerate_1 _) (λobj=>F.args_object_init_2 obj _) F.entry_enumerate_new (wA l items n dd sl) ⟨ho,?_⟩;show _/\_;rw [hz];have he:IsEnum ((s.heap.push {cls:=.type "tuple_iterator",data:=.fields #[.ref l,.int 0 0]}).push {cls:=.type "enumerate",data:=.fields #[.none,.bool false,.ref (zz9 s),rawInt 0,.none,.none]}) ((zz9 s)+1) (zz9 s) 0 .none:=by
  have q:=zzX (s.heap.push {cls:=.type "tuple_iterator",data:=.fields #[.ref l,.int 0 0]}) (o:={cls:=.type "enumerate",data:=.fields #[.none,.bool false,.ref (zz9 s),rawInt 0,.none,.none]}) rfl
  rw [hz] at q;exact q
 exact⟨⟨_,he,rfl⟩,h _ he ⟨_,zzB _ (zzX _ rfl),rfl,rfl⟩ λb o x=>zzB _ (zzB _ x)⟩
section
variable{X:Cx}{elts:List Expr}{x1:Nat}{so:Pos}
noncomputable def O5(K:zz8)(ta:TA):TI:=λσ H R=>ta σ H λvs H1=>∃a xs,vs=[.ref a]/\fF K H1 a xs/\R (NT K a xs) H1
theorem zi{a:Expr}{ta:TA}{p pos:Pos}(hg:Gl X "enumerate")(hm:X.mg "enumerate"=none)(ha:PA X [a] ta)(hs:starEach [a] X.env=[(false,eval a X.env)]:=by rfl):PI X (.Tuple elts x1 so) (.Call (.Name "enumerate" p) [a] [] pos) (O5 X.K ta):=by
 intro ae s σ H R I h;refine Call_ (dX I hg hm boot_enumerate (PyProof.Rows.callWith_type1 (bI (ha pos ae s σ H _ I h) λus s1 ⟨vs,H1,I1,r1,q1⟩=>?_) hs rfl))
 obtain⟨a,xs,e,hq,q⟩:=q1
 subst e;obtain⟨u,rfl,ru⟩:=vals1 r1
 cases ru;obtain⟨ax,rv,pt,hz⟩:=I1.tuple hq
 refine mw pt λg he hi kp=>wpAny_pyIter_enum he ?_
 have I2:Inv X ae σ H1 {s1 with heap:=g}:=I1.kept (t':=s1.toks) kp
 refine⟨(zz9 s1)+1,[(zz9 s1)+1,(zz9 s1)],_,_,H1,rfl,I2,tQ a _ (zz9 s1) xs,⟨⟨_,he⟩,hi⟩,λb hb=>?_,q⟩
 have kj:(zz9 s1)<=b:=by
  rcases zzm.mp hb with z|z
  ·rw [z];exact Nat.le_succ _
  ·rw [zzi.mp z];exact zzE _
 exact I1.lA kj (I1.aL.fresh kj)
end
def sW{P:Program}{w:World}{K:zz8}{elts:List Expr}{x1:Nat}{pos:Pos}(z:Str)(t:Tok)(e it:Addr):Turn P w K (.Tuple elts x1 pos) (Nm z) [e,it] e (λi h=>(∃old,IsEnum h e it i old)/\h.IsStrIter it (strIterType z) z t i) where
 mem:=by simp
 obj:=λi h st b hb=>by
  obtain⟨⟨old,he⟩,o,ho,_,hd⟩:=st
  rcases zzm.mp hb with q|q
  ·subst q;exact⟨_,he,λv q=>by cases q⟩
  ·rw [zzi.mp q];exact⟨o,ho,λv q=>by rw [hd] at q;cases q⟩
 keep:=λi h h' st k=>⟨by obtain⟨old,he⟩:=st.1;exact⟨old,k e (by simp) _ he⟩,by obtain⟨o,q,r⟩:=st.2;exact⟨o,k it (by simp) o q,r⟩⟩
 item:=by
  intro X hP hw hK hc i ae s σ H E I hf st hg;subst hP hw hK;have cC:i<z.cps.size:=hg
  obtain⟨⟨old,he⟩,hit⟩:=st
  have jY:=hit
  obtain⟨oi,e1,e2,_⟩:=hit
  have E6:e≠it:=fN he e1 (by
   rw [e2];show Value.type "enumerate"≠_;rcases eQ z with q|q<;>rw [q]<;>decide+kernel)
  have fin:∀{Sv:Nat->Heap->Prop},Draws X.prog X.w X.A.in1 it [it] z.cps.size (λi v=>∃c u,z.cps[i]?=some c/\v=.str ⟨#[c]⟩ u) Sv->Sv i s.heap->(∀h,Sv (i+1) h->h.IsStrIter it (strIterType z) z t (i+1))->
   wpAny (model X.prog X.w) X.A (pyNext (.ref e)) (λr s1=>∃u,r=some u/\wpAny (model X.prog X.w) X.A (letOwnedTupleGo (.Tuple elts x1 pos) (.ref e) u) (λ_ s2=>∃x H',Inv X ae σ H' s2/\RelV x u/\(Nm z).JN i H x H'/\((∃old,IsEnum s2.heap e it (((i+1:Nat)):Int) old)/\s2.heap.IsStrIter it (strIterType z) z t (i+1))/\∀b∈[e,it],H' b=none) E s1) E s:=by
   intro Sv D ez back;refine bI (jf (Gx:=λx=>∃c,x=.str ⟨#[c]⟩/\z.cps[i]?=some c) I D he ez cC E6 (by simp [E6]) hf (λu ⟨c,tk,hc,hu⟩=>⟨.str ⟨#[c]⟩,⟨tk,hu⟩,c,rfl,hc⟩)) λr s1 ⟨u,hr,k⟩=>⟨u,hr,bI k λ_ s2 ⟨x,q,z1,⟨c,z2,z2'⟩,z3,z4,z5,z6,z7,z8⟩=>?_⟩
   subst z2;exact⟨.ref q,_,z6,z1.symm▸rfl,⟨q,c,rfl,z3,rfl,z2'⟩,⟨z7,back _ z8⟩,λb hb=>by
    rcases zzm.mp hb with w|w
    ·rw [w,ag z4];exact(hf e (by simp)).1
    ·rw [zzi.mp w,ag z5];exact(hf it (by simp)).1⟩
  rcases eQ z with q|q
  ·rw [q] at jY⊢;rw [q] at fin;exact fin (Draws.strAscii (A:=X.A.in1) (I.ok.hd hc) it z t) jY λh st=>st
  ·rw [q] at jY⊢;rw [q] at fin;exact fin (Draws.strWide (A:=X.A.in1) (I.ok.hd hc) it z t) jY λh st=>st
 done:=by
  intro X hP hw hK hc i ae s σ H E I hf st hg;subst hP hw hK;have hi:i=z.cps.size:=hg
  subst hi;obtain⟨⟨old,he⟩,hit⟩:=st
  obtain⟨g0,g1,g2,g3,g4,g5⟩:=hf it (by simp)
  rcases eQ z with q|q
  ·rw [q] at hit;exact wpAny_pyNext_enum_endD (Draws.strAscii (A:=X.A.in1) (I.ok.hd hc) it z t) he hit λh' eb=>⟨rfl,I.turned (t':=s.toks) (λb o hb q=>eb b o hb q) g0 g1 g3 g4 g5⟩
  ·rw [q] at hit;exact wpAny_pyNext_enum_endD (Draws.strWide (A:=X.A.in1) (I.ok.hd hc) it z t) he hit λh' eb=>⟨rfl,I.turned (t':=s.toks) (λb o hb q=>eb b o hb q) g0 g1 g3 g4 g5⟩
 self:=λ_ _ _ _ _ st h=>by obtain⟨⟨old,he⟩,_⟩:=st;exact wpAny_pyIter_enum he h
section
variable{X:Cx}{elts:List Expr}{x1:Nat}{so:Pos}
noncomputable def Pb(ta:TA):TI:=λσ H R=>ta σ H λvs H1=>∃z,vs=[.str z]/\R (Nm z) H1
theorem yr{a:Expr}{ta:TA}{p pos:Pos}(hg:Gl X "enumerate")(hm:X.mg "enumerate"=none)(ha:PA X [a] ta)(hs:starEach [a] X.env=[(false,eval a X.env)]:=by rfl):PI X (.Tuple elts x1 so) (.Call (.Name "enumerate" p) [a] [] pos) (Pb ta):=by
 intro ae s σ H R I h;refine Call_ (dX I hg hm boot_enumerate (PyProof.Rows.callWith_type1 (bI (ha pos ae s σ H _ I h) λus s1 ⟨vs,H1,I1,r1,q1⟩=>?_) hs rfl))
 obtain⟨z,e,q⟩:=q1
 subst e;obtain⟨u,rfl,t,rfl⟩:=vals1 r1
 refine call_enumerate_str λg he hi hz kp=>wpAny_pyIter_enum he ?_
 have I2:Inv X ae σ H1 {s1 with heap:=g}:=I1.kept (t':=s1.toks) kp
 refine⟨(zz9 s1)+1,[(zz9 s1)+1,(zz9 s1)],_,_,H1,rfl,I2,sW z t _ (zz9 s1),⟨⟨_,he⟩,hi⟩,λb hb=>?_,q⟩
 have kj:(zz9 s1)<=b:=by
  rcases zzm.mp hb with z|z
  ·rw [z];exact Nat.le_succ _
  ·rw [zzi.mp z];exact zzE _
 exact I1.lA kj (I1.aL.fresh kj)
end
noncomputable def IB(K:zz8)(a:Addr)(xs:List V):It:=
 ⟨λi H=>fV K H a xs/\i<xs.length,λi H v H'=>∃p x,v=.ref p/\H p=none/\H'=upd H p (.tup [.int (i:Nat),x])/\xs[i]?=some x,λi H=>fV K H a xs/\i=xs.length⟩
def sL{P:Program}{w:World}{K:zz8}{elts:List Expr}{x1:Nat}{pos:Pos}(a e it:Addr)(xs:List V):Turn P w K (.Tuple elts x1 pos) (IB K a xs) [e,it] e (λi h=>(∃old,IsEnum h e it i old)/\h.IsListIter it a i) where
 mem:=by simp
 obj:=λi h st b hb=>by
  obtain⟨⟨old,he⟩,o,ho,_,hd⟩:=st
  rcases zzm.mp hb with z|z
  ·subst z;exact⟨_,he,λv q=>by cases q⟩
  ·rw [zzi.mp z];exact⟨o,ho,λv q=>by rw [hd] at q;cases q⟩
 keep:=λi h h' st k=>⟨by obtain⟨old,he⟩:=st.1;exact⟨old,k e (by simp) _ he⟩,st.2.at λo q=>k it (by simp) o q⟩
 item:=by
  intro X hP hw hK hc i ae s σ H E I hf st hg;subst hP hw hK;obtain⟨hq,cC⟩:=hg
  obtain⟨⟨old,he⟩,hit⟩:=st
  obtain⟨ax,rv,p,hz⟩:=I.list hq
  have hl:=rv.length
  have jY:=hit
  obtain⟨oi,e1,e2,_⟩:=hit
  obtain⟨oa,a1,a2,_⟩:=p.isList
  have xW:a≠it:=fN a1 e1 (by rw [a2,e2];decide+kernel)
  have E6:e≠it:=fN he e1 (by rw [e2];show Value.type "enumerate"≠_;decide+kernel)
  have HF:e≠a:=fN he a1 (by rw [a2];show Value.type "enumerate"≠_;decide+kernel)
  refine bI (jf (Gx:=λx=>xs[i]?=some x) I (Draws.list (A:=X.A.in1) (I.ok.hd hc) it a xW ax.toArray) he ⟨jY,p.isList⟩ (by rw [zzC];omega) E6 (by simp [E6,HF]) hf (λu hu=>?_)) λr s1 ⟨u,hr,k⟩=>⟨u,hr,bI k λ_ s2 ⟨x,q,z1,z2,z3,z4,z5,z6,z7,z8⟩=>?_⟩
  ·have Mc:xs[i]?=some xs[i]:=zzg cC
   obtain⟨u',hu',ru'⟩:=rv.get Mc
   have:ax.toArray[i]?=some u':=by simpa using hu'
   have Ir:ax.toArray[i]?=some u:=hu
   rw [this] at Ir;cases Ir;exact⟨xs[i],ru',Mc⟩
  ·exact⟨.ref q,_,z6,z1.symm▸rfl,⟨q,x,rfl,z3,rfl,z2⟩,⟨z7,z8.1⟩,λb hb=>by
    rcases zzm.mp hb with w|w
    ·rw [w,ag z4];exact(hf e (by simp)).1
    ·rw [zzi.mp w,ag z5];exact(hf it (by simp)).1⟩
 done:=by
  intro X hP hw hK hc i ae s σ H E I hf st hg;subst hP hw hK;obtain⟨hq,rfl⟩:=hg
  obtain⟨⟨old,he⟩,hit⟩:=st
  obtain⟨ax,rv,p,hz⟩:=I.list hq
  have hl:=rv.length
  have jY:=hit
  obtain⟨oi,e1,e2,_⟩:=hit
  obtain⟨oa,a1,a2,_⟩:=p.isList
  have xW:a≠it:=fN a1 e1 (by rw [a2,e2];decide+kernel)
  obtain⟨g0,g1,g2,g3,g4,g5⟩:=hf it (by simp)
  refine wpAny_pyNext_enum_endD (Draws.list (A:=X.A.in1) (I.ok.hd hc) it a xW ax.toArray) he ⟨by rw [zzC,<-hl];exact jY,p.isList⟩ λh' eb=>⟨rfl,I.turned (t':=s.toks) (λb o hb q=>eb b o hb q) g0 g1 g3 g4 g5⟩
 self:=λ_ _ _ _ _ st h=>by obtain⟨⟨old,he⟩,_⟩:=st;exact wpAny_pyIter_enum he h
section
variable{X:Cx}{elts:List Expr}{x1:Nat}{so:Pos}
noncomputable def OA(K:zz8)(ta:TA):TI:=λσ H R=>ta σ H λvs H1=>∃a xs,vs=[.ref a]/\fV K H1 a xs/\R (IB K a xs) H1
theorem q8{a:Expr}{ta:TA}{p pos:Pos}(hg:Gl X "enumerate")(hm:X.mg "enumerate"=none)(ha:PA X [a] ta)(hs:starEach [a] X.env=[(false,eval a X.env)]:=by rfl):PI X (.Tuple elts x1 so) (.Call (.Name "enumerate" p) [a] [] pos) (OA X.K ta):=by
 intro ae s σ H R I h;refine Call_ (dX I hg hm boot_enumerate (PyProof.Rows.callWith_type1 (bI (ha pos ae s σ H _ I h) λus s1 ⟨vs,H1,I1,r1,q1⟩=>?_) hs rfl))
 obtain⟨a,xs,e,hq,q⟩:=q1
 subst e;obtain⟨u,rfl,ru⟩:=vals1 r1
 cases ru;obtain⟨ax,rv,pt,hz⟩:=I1.list hq
 refine call_enumerate_list pt.isList λg he hi _ kp=>wpAny_pyIter_enum he ?_
 have I2:Inv X ae σ H1 {s1 with heap:=g}:=I1.kept (t':=s1.toks) kp
 refine⟨(zz9 s1)+1,[(zz9 s1)+1,(zz9 s1)],_,_,H1,rfl,I2,sL a _ (zz9 s1) xs,⟨⟨_,he⟩,hi⟩,λb hb=>?_,q⟩
 have kj:(zz9 s1)<=b:=by
  rcases zzm.mp hb with z|z
  ·rw [z];exact Nat.le_succ _
  ·rw [zzi.mp z];exact zzE _
 exact I1.lA kj (I1.aL.fresh kj)
end
end L2
namespace Ci
open PySem L2
structure Hs where
 f:Str
 h:Str
 g:Str
 idx:List Nat
 np:Nat
structure Pg where
 gs:List (Str×PV)
 bs:List Str
 cs:List Str
 fs:List Str
 rs:List Str
 hs:List Hs:=[]
 hl:Bool:=false
def fA(sc:Scope)(x:Str):Bool:=sc.names.lookup x==some .local||sc.names.lookup x==some .cell
def d6(sc:Scope)(x:Str):Bool:=fA sc x||sc.names.lookup x==some .free
def iz(sc:Scope)(x:Str):Bool:=sc.names.lookup x==some .globalImplicit
def litS:List PV->List PV->Bool
 |[],[]=>true
 |.str x::xs,.str y::ys=>x==y&&litS xs ys
 |_,_=>false
def vF:PV->PV->Bool
 |.int i,.int j=>i==j
 |.str x,.str y=>x==y
 |.tup xs,.tup ys=>litS xs ys
 |_,_=>false
theorem litS_eq:∀{xs ys:List PV},litS xs ys=true->xs=ys
 |[],[],_=>rfl
 |.str x::xs,.str y::ys,h=>by
  unfold litS at h;rw [zza] at h;rw [zzy.mp h.1,litS_eq h.2]
def yj{p q:PV}(h:vF p q=true):p=q:=by
 unfold vF at h;split at h
 ·rw [zzy.mp h]
 ·rw [zzy.mp h]
 ·rw [litS_eq h]
 ·cases h
def bN:B->Str
 |.len=>"len"|.abs=>"abs"|.max2=>"max"|.int=>"int"|.str=>"str"|.tuple=>"tuple"|.sum=>"sum"|.dict=>"dict"|.lY=>"list"
def gA:E->Bool
 |.eE _=>false
 |_=>true
def g8:Es->Bool
 |.nil=>true
 |.cons e es=>gA e&&g8 es
def BG:I->Bool
 |.seq e=>gA e
 |.qR _=>true
 |.lF _ _=>true
 |.enum e=>gA e
def isNil:Es->Bool
 |.nil=>true
 |_=>false
def iT:Es->Nat
 |.nil=>0
 |.cons _ es=>iT es+1
def Ib:Expr->Option (List Expr)
 |.Tuple es _ _=>some es
 |_=>none
def vi{e:Expr}{es:List Expr}(h:Ib e=some es):∃k p,e=.Tuple es k p:=by
 cases e with
 |Tuple es k p=>cases h;exact⟨_,_,rfl⟩
 |_=>exact ij h
def xq{α:Type}:List α->Option (α×α)
 |[a,b]=>some (a,b)
 |_=>none
def Ey{α:Type}{ts:List α}{q:α×α}(h:xq ts=some q):ts=[q.1,q.2]:=by
 cases ts with
 |nil=>exact ij h
 |cons a ts=>
  cases ts with
  |nil=>exact ij h
  |cons b ts=>
   cases ts with
   |cons _ _=>exact ij h
   |nil=>cases h;rfl
def OW(N:List Str)(sc:Scope)(fn:Str->Bool)(i:Nat)(p:Expr):Bool:=(fx p).any λx=>N[i]?==some x&&fA sc x&&(fn x||sc.names.lookup x==some .local)
noncomputable def Iu(N:List Str)(sc:Scope)(fn:Str->Bool):List Nat->List Expr->Bool
 |i::is,a::as=>OW N sc fn i a&&Iu N sc fn is as
 |[],[]=>true
 |_,_=>false
noncomputable def fR(N:List Str)(sc:Scope)(fn:Str->Bool):Tg->Expr->Bool
 |.one i,p=>OW N sc fn i p
 |.two i j,p=>(Ib p).any (Iu N sc fn [i,j])
noncomputable def aF:Expr->List Str
 |.Name x _=>[x]
 |.Tuple [.Name x _,.Name y _] _ _=>[x,y]
 |.Tuple [.Name x _,.Name y _,.Name z _] _ _=>[x,y,z]
 |.Tuple [.Name x _,.Tuple [.Name y _,.Name z _] _ _] _ _=>[x,y,z]
 |_=>[]
def dq(scope sc:Scope):Scope:=
 {scope with names:=scope.names.map λ(n,k)=>if(k==.free&&sc.kind==.function&&sc.names.lookup n==some .cell) then(n,.cell) else(n,k)}
def freeOf(scope:Scope):List Str:=((scope.names.filter λp=>p.2==.free).map (·.1)).reverse
noncomputable def uS(N:List Str)(sc scope:Scope)(k:Nat)(aU:List Nat)(xs:List Str):Bool:=
 scope.kind==.function&&xs.length==k&&decide ((xs++freeOf scope).Nodup)
 &&(scope.names.all λy=>(decide (y.2≠.cell)||!(freeOf scope).contains y.1)&&(decide (y.2≠.free)||(freeOf scope).contains y.1))
 &&(scope.names.all λy=>decide (y.2≠.cell)||decide (scope.names.lookup y.1=some .cell))
 &&(scope.names.all λy=>decide (y.2≠.local)||decide (scope.names.lookup y.1=some .local))
 &&decide (aU.map (λi=>N[i]?)=(freeOf scope).map some)
 &&((freeOf scope).all λy=>decide (sc.names.lookup y=some .cell))
 &&((freeOf scope).all λy=>decide ((dq scope sc).names.lookup y=some .cell))
def kW(k:Nat):Tg->Bool
 |.one i=>decide (i<k)
 |.two i j=>decide (i<k)&&decide (j<k)
def fW:E->Bool
 |.ite _ _ _=>false
 |.not a=>fW a
 |.and a b=>fW a&&fW b
 |.or a b=>fW a&&fW b
 |_=>true
def isTup:Expr->Bool
 |.Tuple .. =>true
 |_=>false
noncomputable abbrev Pg.Bp(Γ:Pg):Pg:={Γ with hl:=false}
def mr{α β:Type}{o:Option α}{f:α->Option β}{b:β}(h:o.bind f=some b):∃a,o=some a/\f a=some b:=zzZ.1 h
def if1{α:Type}{c:Bool}{a b:α}(h:(if c=true then some a else none)=some b):c=true/\a=b:=by
 cases c with
 |true=>cases h;exact⟨rfl,rfl⟩
 |false=>exact ij h
def fb{α:Type}:List α->Option α
 |[t]=>some t
 |_=>none
def dh{α:Type}{ts:List α}{t:α}(h:fb ts=some t):ts=[t]:=by
 cases ts with
 |nil=>exact ij h
 |cons a ts=>
  cases ts with
  |cons _ _=>exact ij h
  |nil=>cases h;rfl
def Ma:Expr->Option (Expr×Str×Pos)
 |.Attribute o m p=>some (o,m,p)
 |_=>none
def ym{e:Expr}{q:Expr×Str×Pos}(h:Ma e=some q):e=.Attribute q.1 q.2.1 q.2.2:=by
 cases e with
 |Attribute o m p=>cases h;rfl
 |_=>exact ij h
def Pr:Expr->Option (Arguments×Expr×Scope)
 |.Lambda p b s _=>some (p,b,s)
 |_=>none
def sQ{e:Expr}{q:Arguments×Expr×Scope}(h:Pr e=some q):∃p,e=.Lambda q.1 q.2.1 q.2.2 p:=by
 cases e with
 |Lambda p b s x=>cases h;exact⟨_,rfl⟩
 |_=>exact ij h
def HN:Expr->Option (Expr×Expr)
 |.Subscript a b _=>some (a,b)
 |_=>none
def oQ{e:Expr}{q:Expr×Expr}(h:HN e=some q):∃p,e=.Subscript q.1 q.2 p:=by
 cases e with
 |Subscript a b p=>cases h;exact⟨_,rfl⟩
 |_=>exact ij h
def Lk:Expr->Option Const
 |.Constant c _ _=>some c
 |_=>none
def uj{e:Expr}{c:Const}(h:Lk e=some c):∃p q,e=.Constant c p q:=by
 cases e with
 |Constant c p q=>cases h;exact⟨_,_,rfl⟩
 |_=>exact ij h
def Gy:Const->Option Str
 |.str z=>some z
 |_=>none
def zU{c:Const}{z:Str}(h:Gy c=some z):c=.str z:=by
 cases c with
 |str y=>cases h;rfl
 |_=>exact ij h
def Nw:Const->Option Int
 |.int n=>some n
 |_=>none
def Ab{c:Const}{n:Int}(h:Nw c=some n):c=.int n:=by
 cases c with
 |int y=>cases h;rfl
 |_=>exact ij h
def Ei{α:Type}{l:List α}(h:l.isEmpty=true):l=[]:=by
 cases l with
 |nil=>rfl
 |cons _ _=>exact bj h
def OC{α:Type}{o:Option α}(h:o.isNone=true):o=none:=by
 cases o with
 |none=>rfl
 |some _=>exact bj h
def RB:Const->Option Bool
 |.bool b=>some b
 |_=>none
def Gv{c:Const}{b:Bool}(h:RB c=some b):c=.bool b:=by
 cases c with
 |bool y=>cases h;rfl
 |_=>exact ij h
def Rg:Const->Bool
 |.none=>true
 |_=>false
def Hk{c:Const}(h:Rg c=true):c=.none:=by
 cases c with
 |none=>rfl
 |_=>exact bj h
def Rv:Expr->Option (Expr×Operator×Expr)
 |.BinOp a o b _=>some (a,o,b)
 |_=>none
def HC{e:Expr}{q:Expr×Operator×Expr}(h:Rv e=some q):∃p,e=.BinOp q.1 q.2.1 q.2.2 p:=by
 cases e with
 |BinOp a o b p=>cases h;exact⟨_,rfl⟩
 |_=>exact ij h
def MC:Expr->Option (Expr×List CmpOp×List Expr)
 |.Compare a o b _=>some (a,o,b)
 |_=>none
def FY{e:Expr}{q:Expr×List CmpOp×List Expr}(h:MC e=some q):∃p,e=.Compare q.1 q.2.1 q.2.2 p:=by
 cases e with
 |Compare a o b p=>cases h;exact⟨_,rfl⟩
 |_=>exact ij h
def MW:Expr->Option (UnaryOp×Expr)
 |.UnaryOp o a _=>some (o,a)
 |_=>none
def F1{e:Expr}{q:UnaryOp×Expr}(h:MW e=some q):∃p,e=.UnaryOp q.1 q.2 p:=by
 cases e with
 |UnaryOp o a p=>cases h;exact⟨_,rfl⟩
 |_=>exact ij h
def FP:UnaryOp->Bool
 |.Not=>true
 |_=>false
def zE{o:UnaryOp}(h:FP o=true):o=.Not:=by
 cases o with
 |Not=>rfl
 |_=>exact bj h
def isNeg:UnaryOp->Bool
 |.USub=>true
 |_=>false
def AA{o:UnaryOp}(h:isNeg o=true):o=.USub:=by
 cases o with
 |USub=>rfl
 |_=>exact bj h
def uY:BoolOp->Bool
 |.And=>true
 |.Or=>false
def Aq{o:BoolOp}(h:uY o=true):o=.And:=by
 cases o with
 |And=>rfl
 |Or=>exact bj h
def Dk{o:BoolOp}(h:(!uY o)=true):o=.Or:=by
 cases o with
 |Or=>rfl
 |And=>exact bj h
def Nc:Expr->Option (BoolOp×List Expr×Pos)
 |.BoolOp o vs p=>some (o,vs,p)
 |_=>none
def Gj{e:Expr}{q:BoolOp×List Expr×Pos}(h:Nc e=some q):e=.BoolOp q.1 q.2.1 q.2.2:=by
 cases e with
 |BoolOp o vs p=>cases h;rfl
 |_=>exact ij h
def Oa(o:BoolOp)(pos:Pos):List Expr->Option (Expr×Expr)
 |a::b::[]=>some (a,b)
 |a::b::c::r=>some (a,.BoolOp o (b::c::r) pos)
 |_=>none
def AF{o:BoolOp}{pos:Pos}{vs:List Expr}{q:Expr×Expr}(h:Oa o pos vs=some q):vs=[q.1,q.2]\/∃b c r,vs=q.1::b::c::r/\q.2=.BoolOp o (b::c::r) pos:=by
 cases vs with
 |nil=>exact ij h
 |cons a vs=>
  cases vs with
  |nil=>exact ij h
  |cons b vs=>
   cases vs with
   |nil=>cases h;exact .inl rfl
   |cons c r=>cases h;exact .inr ⟨b,c,r,rfl,rfl⟩
def Rp:Expr->Option (Expr×Expr×Expr)
 |.IfExp c a b _=>some (c,a,b)
 |_=>none
def Ij{e:Expr}{q:Expr×Expr×Expr}(h:Rp e=some q):∃p,e=.IfExp q.1 q.2.1 q.2.2 p:=by
 cases e with
 |IfExp c a b p=>cases h;exact⟨_,rfl⟩
 |_=>exact ij h
def P5:Expr->Option (List Expr)
 |.List es _=>some es
 |_=>none
def zR{e:Expr}{es:List Expr}(h:P5 e=some es):∃p,e=.List es p:=by
 cases e with
 |List es p=>cases h;exact⟨_,rfl⟩
 |_=>exact ij h
def Kb:Expr->Option (Option Expr×Option Expr×Option Expr)
 |.Slice a b c _=>some (a,b,c)
 |_=>none
def HD{e:Expr}{q:Option Expr×Option Expr×Option Expr}(h:Kb e=some q):∃p,e=.Slice q.1 q.2.1 q.2.2 p:=by
 cases e with
 |Slice a b c p=>cases h;exact⟨_,rfl⟩
 |_=>exact ij h
def Nr:Expr->Option (Expr×List Comprehension×Scope)
 |.ListComp e gs s _=>some (e,gs,s)
 |_=>none
def F9{e:Expr}{q:Expr×List Comprehension×Scope}(h:Nr e=some q):∃p,e=.ListComp q.1 q.2.1 q.2.2 p:=by
 cases e with
 |ListComp e gs s p=>cases h;exact⟨_,rfl⟩
 |_=>exact ij h
def xU(e:Expr):Option (Str×List Expr):=(FN e).bind λq=>(fx q.1).bind λg=>if q.2.2.1.isEmpty=true then some (g,q.2.1) else none
def Jw{e:Expr}{q:Str×List Expr}(h:xU e=some q):∃np p,e=.Call (.Name q.1 np) q.2 [] p:=by
 obtain⟨⟨f,a,k,p⟩,h1,h⟩:=mr h
 obtain⟨g,h2,h⟩:=mr h
 obtain⟨h3,rfl⟩:=if1 h
 obtain⟨np,z⟩:=b9 h2
 have z3:=Ei h3
 dsimp only at z z3;subst z z3;exact⟨np,p,jb h1⟩
def K4:PV->Const->Bool
 |.aC,c=>Rg c
 |.bl b,c=>(RB c).any λx=>b==x
 |.int i,c=>(Nw c).any λx=>i==x
 |.str z,c=>(Gy c).any λx=>z==x
 |_,_=>false
def Fx(p:Expr):Bool:=(FN p).all λq=>!q.2.1.isEmpty
def az{a b:Bool}(h:(a&&b)=true):a=true/\b=true:=Bool.and_eq_true_iff.mp h
def aj{α:Type}{o:Option α}{f:α->Bool}(h:o.any f=true):∃x,o=some x/\f x=true:=by
 cases o with
 |none=>cases h
 |some x=>exact⟨x,rfl,h⟩
theorem jh{α:Type}{l:List α}{f:α->Bool}(h:(fb l).any f=true):∃a,l=[a]/\f a=true:=let⟨a,e,h1⟩:=aj h;⟨a,dh e,h1⟩
theorem Ee{α:Type}{l:List α}{f:α×α->Bool}(h:(xq l).any f=true):∃a b,l=[a,b]/\f (a,b)=true:=let⟨q,e,h1⟩:=aj h;⟨q.1,q.2,Ey e,h1⟩
theorem ML{p:Expr}{f:Str->Bool}(h:(fx p).any f=true):∃x np,p=.Name x np/\f x=true:=let⟨x,e,h1⟩:=aj h;let⟨np,z⟩:=b9 e;⟨x,np,z,h1⟩
theorem Ti{p:Expr}{f:Const->Bool}(h:(Lk p).any f=true):∃x a b,p=.Constant x a b/\f x=true:=let⟨x,e,h1⟩:=aj h;let⟨a,b,z⟩:=uj e;⟨x,a,b,z,h1⟩
theorem Bm{p:Expr}{f:Str×List Expr->Bool}(h:(xU p).any f=true):∃g as np pos,p=.Call (.Name g np) as [] pos/\f (g,as)=true:=let⟨q,e,h1⟩:=aj h;let⟨a,b,z⟩:=Jw e;⟨q.1,q.2,a,b,z,h1⟩
theorem QU{p:Expr}{f:Expr×Expr->Bool}(h:(HN p).any f=true):∃a b pos,p=.Subscript a b pos/\f (a,b)=true:=let⟨q,e,h1⟩:=aj h;let⟨x,z⟩:=oQ e;⟨q.1,q.2,x,z,h1⟩
theorem S5{p:Expr}{f:Option Expr×Option Expr×Option Expr->Bool}(h:(Kb p).any f=true):∃a b c pos,p=.Slice a b c pos/\f (a,b,c)=true:=let⟨q,e,h1⟩:=aj h;let⟨x,z⟩:=HD e;⟨q.1,q.2.1,q.2.2,x,z,h1⟩
theorem P4{p:Expr}{f:UnaryOp×Expr->Bool}(h:(MW p).any f=true):∃o a pos,p=.UnaryOp o a pos/\f (o,a)=true:=let⟨q,e,h1⟩:=aj h;let⟨x,z⟩:=F1 e;⟨q.1,q.2,x,z,h1⟩
theorem PZ{p:Expr}{f:Expr×List CmpOp×List Expr->Bool}(h:(MC p).any f=true):∃a o b pos,p=.Compare a o b pos/\f (a,o,b)=true:=let⟨q,e,h1⟩:=aj h;let⟨x,z⟩:=FY e;⟨q.1,q.2.1,q.2.2,x,z,h1⟩
theorem M7{p:Expr}{f:Expr×List Comprehension×Scope->Bool}(h:(Nr p).any f=true):∃a g s pos,p=.ListComp a g s pos/\f (a,g,s)=true:=let⟨q,e,h1⟩:=aj h;let⟨x,z⟩:=F9 e;⟨q.1,q.2.1,q.2.2,x,z,h1⟩
theorem Qo{p:Expr}{f:BoolOp×List Expr×Pos->Bool}(h:(Nc p).any f=true):∃o vs pos,p=.BoolOp o vs pos/\f (o,vs,pos)=true:=let⟨q,e,h1⟩:=aj h;⟨q.1,q.2.1,q.2.2,Gj e,h1⟩
mutual
noncomputable def bb(Γ:Pg)(N:List Str)(sc:Scope):E->Expr->Bool
 |.var i,p=>(fx p).any λx=>N[i]?==some x&&d6 sc x&&okN x
 |.eE i,p=>(fx p).any λx=>N[i]?==some x&&d6 sc x&&okN x
 |.cst q,p=>(Lk p).any (K4 q)
 |.glob g p,e=>(fx e).any λx=>g==x&&iz sc x&&okN x&&Γ.gs.any λq=>q.1==g&&vF q.2 p
 |.call f as,p=>(xU p).any λq=>f==q.1&&Γ.fs.contains q.1&&iz sc q.1&&okN q.1&&g8 as&&jv Γ N sc as q.2
 |.iH i as,p=>(xU p).any λq=>N[i]?==some q.1&&d6 sc q.1&&okN q.1&&g8 as&&!isNil as&&jv Γ N sc as q.2
 |.kM f as g idx aU,p=>(xU p).any λr=>Γ.hl&&iz sc r.1&&okN r.1&&g8 as&&!isNil as&&(Γ.hs.any λq=>q.f==f&&q.h==r.1&&q.g==g&&q.idx==idx&&decide (q.np=iT as+1))&&uD Γ N sc g idx aU as r.2
 |.blt b as,p=>(xU p).any λq=>bN b==q.1&&iz sc q.1&&Γ.bs.contains q.1&&!isNil as&&jv Γ N sc as q.2
 |.ty t a,p=>(xU p).any λq=>(xq q.2).any λr=>(fx r.2).any λtn=>q.1==("isinstance":Str)&&iz sc q.1&&Γ.bs.contains q.1&&tn==Str.ofString (ue t)&&iz sc tn&&Γ.bs.contains tn&&bb Γ N sc a r.1
 |.bin o a b,p=>(Rv p).any λq=>decide (Om o=q.2.1)&&bb Γ N sc a q.1&&bb Γ N sc b q.2.2
 |.cmp o a b,p=>(MC p).any λq=>(fb q.2.1).any λop=>(fb q.2.2).any λpb=>decide (qh o=op)&&bb Γ N sc a q.1&&bb Γ N sc b pb
 |.ch o1 o2 a b c,p=>(MC p).any λq=>(xq q.2.1).any λop=>(xq q.2.2).any λpb=>decide (qh o1=op.1)&&decide (qh o2=op.2)&&bb Γ N sc a q.1&&bb Γ N sc b pb.1&&bb Γ N sc c pb.2
 |.not a,p=>(MW p).any λq=>FP q.1&&bb Γ N sc a q.2
 |.neg a,p=>(MW p).any λq=>isNeg q.1&&bb Γ N sc a q.2
 |.and a b,p=>(Nc p).any λq=>(Oa q.1 q.2.2 q.2.1).any λr=>uY q.1&&gA b&&bb Γ N sc a r.1&&bb Γ N sc b r.2
 |.or a b,p=>(Nc p).any λq=>(Oa q.1 q.2.2 q.2.1).any λr=>!uY q.1&&gA b&&bb Γ N sc a r.1&&bb Γ N sc b r.2
 |.ite c a b,p=>(Rp p).any λq=>fW c&&gA a&&gA b&&bb Γ N sc c q.1&&bb Γ N sc a q.2.1&&bb Γ N sc b q.2.2
 |.tup as,p=>(Ib p).any λps=>g8 as&&decide (iT as<1000)&&jv Γ N sc as ps
 |.lst as,p=>(P5 p).any λps=>g8 as&&decide (iT as<1000)&&jv Γ N sc as ps
 |.sub a b,p=>(HN p).any λq=>bb Γ N sc a q.1&&bb Γ N sc b q.2
 |.slice a lo hi,p=>(HN p).any λq=>(Kb q.2).any λr=>r.2.2.isNone&&bb Γ N sc a q.1&&HA Γ N sc lo r.1&&HA Γ N sc hi r.2.1
 |.comp k aU tg it elt,p=>(Nr p).any λq=>(fb q.2.1).any λg=>g.ifs.isEmpty&&(uS N sc q.2.2 k aU (aF g.target)&&kW k tg&&gA elt&&xu Γ N sc g.target it g.iter&&fR (aF g.target++freeOf q.2.2) (dq q.2.2 sc) (lD q.2.2) tg g.target&&bb Γ.Bp (aF g.target++freeOf q.2.2) (dq q.2.2 sc) elt q.1&&decide (g.is_async=0))
 |.bT k aU tg it c elt,p=>(Nr p).any λq=>(fb q.2.1).any λg=>(fb g.ifs).any λpc=>fW c&&uS N sc q.2.2 k aU (aF g.target)&&kW k tg&&gA elt&&xu Γ N sc g.target it g.iter&&fR (aF g.target++freeOf q.2.2) (dq q.2.2 sc) (lD q.2.2) tg g.target&&bb Γ.Bp (aF g.target++freeOf q.2.2) (dq q.2.2 sc) c pc&&bb Γ.Bp (aF g.target++freeOf q.2.2) (dq q.2.2 sc) elt q.1&&decide (g.is_async=0)
 |.yP a,p=>(xU p).any λq=>(fb q.2).any λz=>(xU z).any λr=>(fb r.2).any λpa=>q.1==("list":Str)&&iz sc q.1&&Γ.bs.contains q.1&&r.1==("reversed":Str)&&iz sc r.1&&Γ.bs.contains r.1&&bb Γ N sc a pa
 |.get a k,p=>(FN p).any λq=>(Ma q.1).any λr=>(fb q.2.1).any λpk=>q.2.2.1.isEmpty&&r.2.1==("get":Str)&&r.2.2.endLine==q.2.2.2.line&&Fx r.1&&bb Γ N sc a r.1&&bb Γ N sc k pk
noncomputable def jv(Γ:Pg)(N:List Str)(sc:Scope):Es->List Expr->Bool
 |.nil,[]=>true
 |.cons e es,p::ps=>bb Γ N sc e p&&jv Γ N sc es ps
 |_,_=>false
noncomputable def uD(Γ:Pg)(N:List Str)(sc:Scope)(g:Str)(idx aU:List Nat):Es->List Expr->Bool
 |.nil,ps=>(fb ps).any λp=>(Pr p).any λl=>Cg g idx l.1 l.2.1 l.2.2&&decide (aU.map (λi=>N[i]?)=(aZ l.2.2).map some)&&((aZ l.2.2).all λy=>decide (sc.names.lookup y=some .cell))
 |.cons e es,p::ps=>bb Γ N sc e p&&uD Γ N sc g idx aU es ps
 |_,_=>false
noncomputable def HA(Γ:Pg)(N:List Str)(sc:Scope):Oe->Option Expr->Bool
 |.no,none=>true
 |.some e,some p=>bb Γ N sc e p
 |_,_=>false
noncomputable def xu(Γ:Pg)(N:List Str)(sc:Scope)(tg:Expr):I->Expr->Bool
 |.seq e,p=>bb Γ N sc e p
 |.qR e,p=>(xU p).any λq=>(fb q.2).any λr=>q.1==("range":Str)&&iz sc q.1&&Γ.bs.contains q.1&&bb Γ N sc e r
 |.lF a b,p=>(xU p).any λq=>(xq q.2).any λr=>q.1==("range":Str)&&iz sc q.1&&Γ.bs.contains q.1&&bb Γ N sc a r.1&&bb Γ N sc b r.2
 |.enum e,p=>(xU p).any λq=>(fb q.2).any λr=>isTup tg&&q.1==("enumerate":Str)&&iz sc q.1&&Γ.bs.contains q.1&&bb Γ N sc e r
end
def XE(W:Wd)(c:Str)(G1 H1:Hp):XK:=λCv ao H'=>∃C a G',Cv=.ref C/\ao=some a/\c∈W.xs/\W.mg c=some (.ref C)/\aB W G1 H1 G' H'
def sI(X:Cx)(W:Wd)(σ:St)(c:Str)(G H:Hp):Prop:=∀(ae:List (Addr×Obj)) (G1 H1:Hp) (s1:Shared) (e:Value) (s':Shared),Inv X ae σ H1 s1->aB W G H G1 H1->dR X.prog X.w X.stack H1 s1 (XE W c G1 H1) e s'->X.xe e s'
def Out{α:Type}(X:Cx)(W:Wd)(r:Res α)(σ:St)(G H:Hp)(k:α->Prop):Prop:=match r with
 |.ok a=>k a
 |.exc c=>sI X W σ c G H
 |.bad=>False
section
variable{X:Cx}{W:Wd}{F:aH}{σ:St}{G H G1 H1:Hp}{α β:Type}
def sI.grow{c:Str}(h:sI X W σ c G H)(g:aB W G H G1 H1):sI X W σ c G1 H1:=λae G2 H2 s1 e s' I g2 x=>h ae G2 H2 s1 e s' I (g.trans g2) x
def Out.grow{r:Res α}{k:α->Prop}(h:Out X W r σ G H k)(g:aB W G H G1 H1):Out X W r σ G1 H1 k:=by
 cases r with
 |ok a=>exact h
 |exc c=>exact sI.grow h g
 |bad=>exact h
def Out.imp{r:Res α}{k k':α->Prop}(h:Out X W r σ G H k)(i:∀a,k a->k' a):Out X W r σ G H k':=by
 cases r with
 |ok a=>exact i a h
 |exc c=>exact h
 |bad=>exact h
def Out.bind{r:Res α}{f:α->Res β}{k:β->Prop}(h:Out X W (r.bind f) σ G H k):Out X W r σ G H λa=>Out X W (f a) σ G H k:=by
 cases r with
 |ok a=>exact h
 |exc c=>exact h
 |bad=>exact h
def Out.val{r:Res α}{k:α->Prop}(h:Out X W r σ G H k)(n:∀c,r≠.exc c):∃a,r=.ok a/\k a:=by
 cases r with
 |ok a=>exact⟨a,rfl,h⟩
 |exc c=>exact absurd rfl (n c)
 |bad=>exact h.elim
structure Got(W:Wd)(H0 G H:Hp)(e:E)(p:PV)(v:V):Prop where
 top:Top W H0 G H p v
 rep:gA e=true->Rep W G p v
def Got.of{H0:Hp}{e:E}{p:PV}{v:V}(h:Rep W G p v):Got W H0 G H e p v:=⟨.inl h,λ_=>h⟩
noncomputable def tE(X:Cx)(W:Wd)(F:aH)(e:E):TE:=λσ H Q=>∃H0 G env,SR W H0 env σ G H/\Out X W (aD F e env) σ G H λp=>∀v G' H',aB W G H G' H'->Got W H0 G' H' e p v->Q v H'
noncomputable def tT(X:Cx)(W:Wd)(F:aH)(e:E):TT:=λσ H Q=>∃H0 G env,SR W H0 env σ G H/\Out X W (aD F e env) σ G H λp=>∃b,p=.bl b/\∀G' H',aB W G H G' H'->Q b H'
structure Kl(W:Wd)(H0 G H:Hp)(es:Es)(ps:List PV)(vs:List V):Prop where
 top:Paired (λv p=>Top W H0 G H p v) vs ps
 rep:g8 es=true->ai W G ps vs
noncomputable def tA(X:Cx)(W:Wd)(F:aH)(es:Es):TA:=λσ H Q=>∃H0 G env,SR W H0 env σ G H/\Out X W (cY F es env) σ G H λps=>∀vs G' H',aB W G H G' H'->Kl W H0 G' H' es ps vs->Q vs H'
noncomputable def zC(X:Cx)(W:Wd)(F:aH)(o:Oe):TO:=λσ H Q=>∃H0 G env,SR W H0 env σ G H/\Out X W (va F o env) σ G H λi=>∀G' H',aB W G H G' H'->Q i H'
def one{H0:Hp}{env:Sl}{e:E}{f:PV->Res β}{k:β->Prop}{Q:VK}(sr:SR W H0 env σ G H)(o:Out X W ((aD F e env).bind f) σ G H k)
 (h:∀p v G1 H1,aB W G H G1 H1->Got W H0 G1 H1 e p v->SR W H0 env σ G1 H1->Out X W (f p) σ G1 H1 k->Q v H1):tE X W F e σ H Q:=
 ⟨H0,G,env,sr,o.bind.imp λp hp v G1 H1 g t=>h p v G1 H1 g t (sr.grow g) (hp.grow g)⟩
def DA{H0:Hp}{env:Sl}{e:E}{f:Bool->Res β}{k:β->Prop}{Q:Bool->Hp->Prop}(sr:SR W H0 env σ G H)(o:Out X W ((aD F e env).bind λp=>nL p f) σ G H k)
 (h:∀b G1 H1,aB W G H G1 H1->SR W H0 env σ G1 H1->Out X W (f b) σ G1 H1 k->Q b H1):tT X W F e σ H Q:=by
 refine⟨H0,G,env,sr,o.bind.imp λp hp=>?_⟩
 cases p with
 |bl b=>exact⟨b,rfl,λG1 H1 g=>h b G1 H1 g (sr.grow g) (Out.grow hp g)⟩
 |aC=>exact zzk hp
 |int _=>exact zzk hp
 |str _=>exact zzk hp
 |tup _=>exact zzk hp
 |lst _=>exact zzk hp
 |exc _=>exact zzk hp
 |bw _ _=>exact zzk hp
def args{H0:Hp}{env:Sl}{es:Es}{f:List PV->Res β}{k:β->Prop}{Q:List V->Hp->Prop}(sr:SR W H0 env σ G H)(o:Out X W ((cY F es env).bind f) σ G H k)
 (h:∀ps vs G1 H1,aB W G H G1 H1->Kl W H0 G1 H1 es ps vs->SR W H0 env σ G1 H1->Out X W (f ps) σ G1 H1 k->Q vs H1):tA X W F es σ H Q:=
 ⟨H0,G,env,sr,o.bind.imp λp hp v G1 H1 g t=>h p v G1 H1 g t (sr.grow g) (hp.grow g)⟩
def Got.grow{H0 G2 H2:Hp}{e:E}{p:PV}{v:V}(h:Got W H0 G H e p v)(g:aB W G H G2 H2):Got W H0 G2 H2 e p v:=⟨h.top.grow g,λz=>Rep.same g.g p (h.rep z)⟩
def yt(W:Wd)(G:Hp):Option (Str×List Nat)->List PV->List V->Prop
 |none,as,vs=>ai W G as vs
 |some q,as,vs=>∃uW cX vH v,as=uW++cX/\vs=vH++[v]/\ai W G uW vH/\oB W G q.1 q.2 cX v
noncomputable def xN(W:Wd)(F:aH)(f:Str)(n:Nat)(q:Option (Str×List Nat)):Sp:=λvs H Q E=>vs.length=n/\∃G as,aA G H/\cK W G H/\yt W G q as vs/\(match F f as with
 |.ok p=>∀v G' H',aB W G H G' H'->Rep W G' p v->Q v H'
 |.exc c=>∀Cv ao H',XE W c G H Cv ao H'->E Cv ao H'
 |.bad=>False)
structure IU(X:Cx)(W:Wd)(F:aH)(k:Nat)(f:Str):Prop where
 ex:∃fa fd ps,f9 X.prog X.w X.K X.mg X.base (dR X.prog X.w) k fa fd ps (xN W F f ps.length none)/\X.mg f=some (.ref fa)/\PySem.W.keepIn X.K (.ref fa)=true/\Binds X.K fd ps []/\∀as,F f as≠.bad->as.length=ps.length
structure Kr(X:Cx)(W:Wd)(F:aH)(k:Nat)(q:Hs):Prop where
 ex:∃fa fd ps,f9 X.prog X.w X.K X.mg X.base (dR X.prog X.w) k fa fd ps (xN W F q.f ps.length (some (q.g,q.idx)))/\X.mg q.h=some (.ref fa)/\PySem.W.keepIn X.K (.ref fa)=true/\Binds X.K fd ps []/\ps.length=q.np
structure dO(Γ:Pg)(F:aH)(W:Wd)(N:List Str)(sc:Scope)(k:Nat)(X:Cx):Prop where
 hN:X.N=N
 eW:X.env.scope=sc
 calm:X.calm=true
 nd:N.Nodup
 K:W.K=X.K
 mg:W.mg=X.mg
 gs:∀q∈Γ.gs,∃u v,X.mg q.1=some u/\RelV v u/\∀G,Rep W G q.2 v
 bs:∀g∈Γ.bs,X.mg g=none
 room:dG (k+1) X.A
 fns:∀f,Γ.fs.contains f=true->IU X W F k f
 Ni:Γ.cs.contains "ValueError"=false
 cls:∀c∈Γ.cs,∃C,X.mg c=some (.ref C)
 xc:∀d∈W.xs,∀D,X.mg d=some (.ref D)->Gd X.K D/\(∀c∈Γ.cs,∀C,X.mg c=some (.ref C)->PySem.W.kitOne X.K (.ref D) (.ref C)=some (c==d||c=="FloorError"))/\PySem.W.kitOne X.K (.ref D) (.type "ValueError")=some true
 rX:∀q∈Γ.hs,Kr X W F k q
 any:∀g as,F g as≠.bad->Γ.fs.contains g=true\/gf g=true
 tb:Γ.hl=true->∃c P,X.env.code=.ref c/\PySem.W.CodeHd X.base c P/\(P,X.env.qual++"<lambda>")∈W.ts/\∀q',(P,q')∈W.ts->q'=X.env.qual++"<lambda>"
 bm:Γ.hl=true->y7 X.mg X.base
 fl:Γ.hl=true->∀x,X.fn x=true
variable{Γ:Pg}{N:List Str}{sc:Scope}{k:Nat}
def kU(C:dO Γ F W N sc k X){x:Str}(h:d6 sc x=true):La X.env.scope x:=by
 rw [C.eW];unfold d6 fA at h;simp! [zzt,zzy] at h;rcases h with(h|h)|h
 ·exact .inl h
 ·exact .inr (.inl h)
 ·exact .inr (.inr h)
def fD(C:dO Γ F W N sc k X){x:Str}(h:iz sc x=true):Gl X x:=by
 show X.env.scope.names.lookup x=_
 rw [C.eW];exact zzy.mp h
def dn{x:Str}(h:okN x=true):(x==("__debug__":Str))=false/\(x==("__classdict__":Str))=false/\x≠"__name__":=by
 unfold okN at h;simp! [zza,Bool.not_eq_true',beq_eq_false_iff_ne] at h;exact⟨beq_eq_false_iff_ne.mpr h.1.1,beq_eq_false_iff_ne.mpr h.1.2,h.2⟩
abbrev GE(X:Cx)(W:Wd)(F:aH)(e:E)(p:Expr):Prop:=PE X p (tE X W F e)
abbrev GT(X:Cx)(W:Wd)(F:aH)(e:E)(p:Expr):Prop:=PT X p (tT X W F e)
abbrev GW(X:Cx)(W:Wd)(F:aH)(e:E)(p:Expr):Prop:=PW X p (tT X W F e)
def _root_.L2.PE.imp{p:Expr}{t t':TE}(h:PE X p t)(i:∀σ H Q,t' σ H Q->t σ H Q):PE X p t':=λae s σ H Q I hw=>h ae s σ H Q I (i σ H Q hw)
def _root_.L2.PT.imp{p:Expr}{t t':TT}(h:PT X p t)(i:∀σ H Q,t' σ H Q->t σ H Q):PT X p t':=λae s σ H Q I hw=>h ae s σ H Q I (i σ H Q hw)
def _root_.L2.PW.imp{p:Expr}{t t':TT}(h:PW X p t)(i:∀σ H Q,t' σ H Q->t σ H Q):PW X p t':=λw ae s σ H Q I hw=>h w ae s σ H Q I (i σ H Q hw)
def _root_.L2.PA.imp{p:List Expr}{t t':TA}(h:PA X p t)(i:∀σ H Q,t' σ H Q->t σ H Q):PA X p t':=λpos ae s σ H Q I hw=>h pos ae s σ H Q I (i σ H Q hw)
def Fj{e:E}(σ:St)(H:Hp)(Q:Bool->Hp->Prop)(h:tT X W F e σ H Q):tB (tE X W F e) σ H Q:=by
 obtain⟨H0,G,env,sr,o⟩:=h
 refine⟨H0,G,env,sr,o.imp λp hp v G' H' g t=>?_⟩
 obtain⟨b,rfl,q⟩:=hp
 exact⟨b,t.top.bl,q G' H' g⟩
def qJ{e:E}(σ:St)(H:Hp)(Q:Bool->Hp->Prop)(h:tT X W F e σ H Q):A9 (tE X W F e) σ H Q:=Fj σ H Q h
def HK(C:dO Γ F W N sc k X){i:Nat}{x:Str}{pos:Pos}(h:(N[i]?==some x&&d6 sc x&&okN x)=true):GE X W F (.var i) (.Name x pos):=by
 simp! [zza,zzy] at h;obtain⟨h1,h2,h3⟩:=dn h.2
 refine(eX (i:=i) (by rw [C.hN];exact h.1.1) (kU C h.1.2) h1 h2).imp λσ H Q hq=>?_
 obtain⟨H0,G,env,sr,o⟩:=hq
 cases e:env[i]? with
 |none=>unfold aD at o;rw [e] at o;exact o.elim
 |some sl=>
  cases sl with
  |no=>unfold aD at o;rw [e] at o;exact o.elim
  |fn _ _ _=>unfold aD at o;rw [e] at o;exact o.elim
  |own p=>unfold aD at o;rw [e] at o;exact o.elim
  |val p=>
   unfold aD at o;rw [e] at o;obtain⟨o2,hs,v,rfl,r⟩:=sr.slot i _ e
   exact⟨v,hs,o v G H (.refl sr.sub) (.of r)⟩
def JD(C:dO Γ F W N sc k X){i:Nat}{x:Str}{pos:Pos}(h:(N[i]?==some x&&d6 sc x&&okN x)=true):GE X W F (.eE i) (.Name x pos):=by
 simp! [zza,zzy] at h;obtain⟨h1,h2,h3⟩:=dn h.2
 refine(eX (i:=i) (by rw [C.hN];exact h.1.1) (kU C h.1.2) h1 h2).imp λσ H Q hq=>?_
 obtain⟨H0,G,env,sr,o⟩:=hq
 cases e:env[i]? with
 |none=>unfold aD at o;rw [e] at o;exact o.elim
 |some sl=>
  cases sl with
  |no=>unfold aD at o;rw [e] at o;exact o.elim
  |fn _ _ _=>unfold aD at o;rw [e] at o;exact o.elim
  |own p=>
   unfold aD at o;rw [e] at o;obtain⟨o2,hs,v,rfl,r⟩:=sr.slot i _ e
   exact⟨v,hs,o v G H (.refl sr.sub) ⟨.inr r,λz=>nomatch z⟩⟩
  |val p=>
   unfold aD at o;rw [e] at o;obtain⟨o2,hs,v,rfl,r⟩:=sr.slot i _ e
   exact⟨v,hs,o v G H (.refl sr.sub) (.of r)⟩
def iG{p:PV}{v:V}{e:Expr}(h:PE X e (tC v))(r:∀G,Rep W G p v):GE X W F (.cst p) e:=by
 refine L2.PE.imp h λσ H Q hq=>?_
 obtain⟨H0,G,env,sr,o⟩:=hq
 exact o v G H (.refl sr.sub) (.of (r G))
def Cc(C:dO Γ F W N sc k X){g x:Str}{p:PV}{pos:Pos}(h:(g==x&&iz sc x&&okN x&&Γ.gs.any λq=>q.1==g&&vF q.2 p)=true):GE X W F (.glob g p) (.Name x pos):=by
 simp! [zza,zzy,zzj] at h;obtain⟨⟨⟨rfl,h2⟩,h3⟩,q,hq,e1,e2⟩:=h
 obtain⟨u,v,hm,rv,hr⟩:=C.gs q hq
 rw [e1] at hm;cases yj e2;refine(Cb (fD C h2) hm rv (dn h3).1).imp λσ H Q hq=>?_
 obtain⟨H0,G,env,sr,o⟩:=hq
 exact o v G H (.refl sr.sub) (.of (hr G))
def Res.aO{α:Type}{o:Option α}(c:Str):Res.of o≠.exc c:=by cases o<;>exact λz=>nomatch z
def nY{α β:Type}{o:Option α}{f:α->Res β}{c:Str}(h:∀a,f a≠.exc c):(Res.of o).bind f≠.exc c:=by
 cases o with
 |none=>exact λz=>nomatch z
 |some a=>exact h a
def mL{o:JP}{p q:PV}(c:Str):binOp o p q≠.exc c:=by
 unfold binOp
 repeat' split
 all_goals exact λz=>nomatch z
def DT{p q:PV}(c:Str):iB p q≠.exc c:=by
 unfold iB
 (repeat' first|split|refine nY λ_=>?_|exact Res.aO c|exact(λz=>nomatch z))
def Ez{p q:PV}(c:Str):hW p q≠.exc c:=by
 unfold hW
 (repeat' first|split|refine nY λ_=>?_|exact Res.aO c|exact(λz=>nomatch z))
def B4{p q:PV}(c:Str):qC p q≠.exc c:=by
 unfold qC
 (repeat' first|split|refine nY λ_=>?_|exact Res.aO c|exact(λz=>nomatch z))
def CM{p q:PV}(c:Str):oV p q≠.exc c:=by
 unfold oV
 (repeat' first|split|refine nY λ_=>?_|exact Res.aO c|exact(λz=>nomatch z))
def Bw{p q:PV}(c:Str):uf p q≠.exc c:=by
 unfold uf
 (repeat' first|split|refine nY λ_=>?_|exact Res.aO c|exact(λz=>nomatch z))
def ET{p q:PV}(c:Str):rq p q≠.exc c:=by
 unfold rq
 (repeat' first|split|refine nY λ_=>?_|exact Res.aO c|exact(λz=>nomatch z))
def yY{p q:PV}(c:Str):fQ p q≠.exc c:=by
 unfold fQ
 (repeat' first|split|refine nY λ_=>?_|exact Res.aO c|exact(λz=>nomatch z))
def CK{p q:PV}(c:Str):sH p q≠.exc c:=by
 unfold sH
 (repeat' first|split|refine nY λ_=>?_|exact Res.aO c|exact(λz=>nomatch z))
def A7{p q:PV}(c:Str):iW p q≠.exc c:=by
 unfold iW
 (repeat' first|split|refine nY λ_=>?_|exact Res.aO c|exact(λz=>nomatch z))
def dE{o:yu}{p q:PV}(c:Str):dI o p q≠.exc c:=match o with
 |.eq=>DT c|.ne=>Ez c|.lt=>B4 c|.le=>CM c|.gt=>Bw c|.is=>ET c|.xZ=>yY c|.Fy=>CK c|.jX=>A7 c
def two{op:PV->PV->Res PV}{ea eb:E}{e:E}{σ:St}{H:Hp}{Q:VK}(hn:∀p q c,op p q≠.exc c)(he:∀env,aD F e env=(aD F ea env).bind λx=>(aD F eb env).bind λy=>op x y)
 (h:tE X W F e σ H Q):JZ (tM W op) (tE X W F ea) (tE X W F eb) σ H Q:=by
 obtain⟨H0,G,env,sr,o⟩:=h
 rw [he] at o;refine one sr o λp v G1 H1 g1 t1 bL o1=>one bL o1 λq u G2 H2 g2 t2 eY o2=>?_
 obtain⟨r,hr,kr⟩:=o2.val (hn p q)
 exact⟨H0,G2,p,q,r,eY.sub,t1.top.grow g2,t2.top,hr,λw G' H' g' gP=>kr w G' H' ((g1.trans g2).trans g') (.of gP)⟩
def HJ(C:dO Γ F W N sc k X){o:JP}{a b:E}{pa pb:Expr}{pos:Pos}(ha:GE X W F a pa)(hb:GE X W F b pb):GE X W F (.bin o a b) (.BinOp pa (Om o) pb pos):=
 (LS (F7 C.K o) ha hb).imp λσ H Q h=>two (λp q c=>mL c) (λenv=>by rw [aD]) h
def Js(C:dO Γ F W N sc k X){o:yu}{a b:E}{pa pb:Expr}{pos:Pos}(ha:GE X W F a pa)(hb:GE X W F b pb)(hm:behindInMarks (qh o) pb=false):GE X W F (.cmp o a b) (.Compare pa [qh o] [pb] pos):=
 (DJ (gU C.K C.room.units o) ha hb hm).imp λσ H Q h=>two (λp q c=>dE c) (λenv=>by rw [aD]) h
theorem Io(C:dO Γ F W N sc k X){o:yu}{a b:E}{pa pb:Expr}{pos:Pos}(ha:GE X W F a pa)(hb:GE X W F b pb)(hm:behindInMarks (qh o) pb=false):GT X W F (.cmp o a b) (.Compare pa [qh o] [pb] pos):=
 (En (gU C.K C.room.units o) ha hb hm).imp λσ H Q h=>by
  have h2:=qJ σ H Q h
  exact two (λp q c=>dE c) (λenv=>by rw [aD]) h2
def E9{c1 c2:yu}{a b c:E}(σ:St)(H:Hp)(Q:VK)(h:tE X W F (.ch c1 c2 a b c) σ H Q):ua (tM W (dI c1)) (tM W (dI c2)) (tE X W F a) (tE X W F b) (tE X W F c) σ H Q:=by
 obtain⟨H0,G,env,sr,o⟩:=h
 rw [aD] at o;refine one sr o λp v G1 H1 g1 t1 bL o1=>one bL o1 λq u G2 H2 g2 t2 eY o2=>?_
 obtain⟨r,hr,kr⟩:=o2.bind.val (dE)
 refine⟨H0,G2,p,q,r,eY.sub,t1.top.grow g2,t2.top,hr,λw G3 H3 g3 gP=>?_⟩
 cases r with
 |bl t=>
  simp! [Rep] at gP;subst gP;refine⟨t,rfl,?_⟩;cases t with
  |false=>
   rw [if_neg zzf];have sR:Out X W (Res.ok (PV.bl false)) σ G2 H2 _:=kr
   exact sR _ G3 H3 ((g1.trans g2).trans g3) (.of .b)
  |true=>
   rw [if_pos rfl];have sR:Out X W ((aD F c env).bind λz=>dI c2 q z) σ G2 H2 _:=kr
   refine one (eY.grow g3) (sR.grow g3) λz y G4 H4 g4 t4 Hx o4=>?_
   obtain⟨r4,hr4,kr4⟩:=o4.val (dE)
   exact⟨H0,G4,q,z,r4,Hx.sub,t2.top.grow (g3.trans g4),t4.top,hr4,λw G5 H5 g5 Sg=>kr4 w G5 H5 ((((g1.trans g2).trans g3).trans g4).trans g5) (.of Sg)⟩
 |aC=>exact zzk kr
 |int _=>exact zzk kr
 |str _=>exact zzk kr
 |tup _=>exact zzk kr
 |lst _=>exact zzk kr
 |exc _=>exact zzk kr
 |bw _ _=>exact zzk kr
def Mv(C:dO Γ F W N sc k X){o1 o2:yu}{a b c:E}{pa pb pc:Expr}{pos:Pos}(ha:GE X W F a pa)(hb:GE X W F b pb)(hc:GE X W F c pc)(hm:lastMarks [qh o1,qh o2] [pb,pc]=false):GE X W F (.ch o1 o2 a b c) (.Compare pa [qh o1,qh o2] [pb,pc] pos):=
 (yb (gU C.K C.room.units o1) (gU C.K C.room.units o2) ha hb hc hm).imp E9
def Ll(C:dO Γ F W N sc k X){o1 o2:yu}{a b c:E}{pa pb pc:Expr}{pos:Pos}(ha:GE X W F a pa)(hb:GE X W F b pb)(hc:GE X W F c pc)(hm:lastMarks [qh o1,qh o2] [pb,pc]=false):GT X W F (.ch o1 o2 a b c) (.Compare pa [qh o1,qh o2] [pb,pc] pos):=
 (yV (gU C.K C.room.units o1) (gU C.K C.room.units o2) ha hb hc hm).imp λσ H Q h=>E9 σ H _ (qJ σ H Q h)
theorem F3{a:E}{pa:Expr}{pos:Pos}(ha:GE X W F a pa):GE X W F (.neg a) (.UnaryOp .USub pa pos):=
 (Kk (D6 (W:=W)) ha).imp λσ H Q h=>by
  obtain⟨H0,G,env,sr,o⟩:=h
  rw [aD] at o;refine one sr o λp v G1 H1 g1 t1 bL o1=>?_
  cases p with
  |int i=>exact⟨H0,G1,i,bL.sub,t1.top,λw G' H' g' gP=>o1 w G' H' (g1.trans g') (.of gP)⟩
  |bl _=>exact zzk o1
  |aC=>exact zzk o1
  |str _=>exact zzk o1
  |tup _=>exact zzk o1
  |lst _=>exact zzk o1
  |exc _=>exact zzk o1
  |bw _ _=>exact zzk o1
theorem JB{a:E}{pa:Expr}{pos:Pos}(ha:GE X W F a pa):GE X W F (.not a) (.UnaryOp .Not pa pos):=
 (HZ ha).imp λσ H Q h=>by
  obtain⟨H0,G,env,sr,o⟩:=h
  rw [aD] at o;refine one sr o λp v G1 H1 g1 t1 bL o1=>?_
  cases p with
  |bl b=>exact⟨b,t1.top.bl,o1 _ G1 H1 g1 (.of .b)⟩
  |int _=>exact zzk o1
  |aC=>exact zzk o1
  |str _=>exact zzk o1
  |tup _=>exact zzk o1
  |lst _=>exact zzk o1
  |exc _=>exact zzk o1
  |bw _ _=>exact zzk o1
theorem Gp{a:E}{pa:Expr}{pos:Pos}(ha:GT X W F a pa):GT X W F (.not a) (.UnaryOp .Not pa pos):=
 (Ip ha).imp λσ H Q h=>by
  obtain⟨H0,G,env,sr,o⟩:=h
  rw [aD] at o;refine DA sr o λb G1 H1 g1 bL o1=>?_
  obtain⟨b',e,q⟩:=o1
  cases e;exact q G1 H1 g1
theorem x6{a b:E}{pa pb:Expr}{r:List Expr}{pos:Pos}(he:gA b=true)(ha:GE X W F a pa)(hb:GE X W F b (.BoolOp .And (pb::r) pos)):GE X W F (.and a b) (.BoolOp .And (pa::pb::r) pos):=
 (GQ ha hb).imp λσ H Q h=>by
  obtain⟨H0,G,env,sr,o⟩:=h
  rw [aD] at o;refine one sr o λp v G1 H1 g1 t1 bL o1=>?_
  cases p with
  |bl t=>
   refine⟨t,t1.top.bl,?_⟩;cases t with
   |true=>
    rw [if_pos rfl];have qk:Out X W (aD F b env) σ G1 H1 _:=o1
    exact⟨H0,G1,env,bL,qk.imp λp hp v G' H' g' t'=>hp v G' H' (g1.trans g') (.of (t'.rep he))⟩
   |false=>
    rw [if_neg zzf];have qk:Out X W (Res.ok (PV.bl false)) σ G1 H1 _:=o1
    exact qk _ G1 H1 g1 (.of .b)
  |int _=>exact zzk o1
  |aC=>exact zzk o1
  |str _=>exact zzk o1
  |tup _=>exact zzk o1
  |lst _=>exact zzk o1
  |exc _=>exact zzk o1
  |bw _ _=>exact zzk o1
theorem Fp{a b:E}{pa pb:Expr}{r:List Expr}{pos:Pos}(he:gA b=true)(ha:GE X W F a pa)(hb:GE X W F b (.BoolOp .Or (pb::r) pos)):GE X W F (.or a b) (.BoolOp .Or (pa::pb::r) pos):=
 (LN ha hb).imp λσ H Q h=>by
  obtain⟨H0,G,env,sr,o⟩:=h
  rw [aD] at o;refine one sr o λp v G1 H1 g1 t1 bL o1=>?_
  cases p with
  |bl t=>
   refine⟨t,t1.top.bl,?_⟩;cases t with
   |false=>
    rw [if_neg zzf];have qk:Out X W (aD F b env) σ G1 H1 _:=o1
    exact⟨H0,G1,env,bL,qk.imp λp hp v G' H' g' t'=>hp v G' H' (g1.trans g') (.of (t'.rep he))⟩
   |true=>
    rw [if_pos rfl];have qk:Out X W (Res.ok (PV.bl true)) σ G1 H1 _:=o1
    exact qk _ G1 H1 g1 (.of .b)
  |int _=>exact zzk o1
  |aC=>exact zzk o1
  |str _=>exact zzk o1
  |tup _=>exact zzk o1
  |lst _=>exact zzk o1
  |exc _=>exact zzk o1
  |bw _ _=>exact zzk o1
theorem zx{a b:E}{pa pb:Expr}{r:List Expr}{pos:Pos}(ha:GT X W F a pa)(hb:GW X W F b (.BoolOp .And (pb::r) pos)):GW X W F (.and a b) (.BoolOp .And (pa::pb::r) pos):=
 (pw_and ha hb).imp λσ H Q h=>by
  obtain⟨H0,G,env,sr,o⟩:=h
  rw [aD] at o;refine DA sr o λt G1 H1 g1 bL o1=>?_
  cases t with
  |true=>
   rw [if_pos rfl];have qk:Out X W (aD F b env) σ G1 H1 _:=o1
   exact⟨H0,G1,env,bL,qk.imp λp hp=>by obtain⟨c,rfl,q⟩:=hp;exact⟨c,rfl,λG' H' g'=>q G' H' (g1.trans g')⟩⟩
  |false=>
   rw [if_neg zzf];obtain⟨c,e,q⟩:=(show Out X W (Res.ok (PV.bl false)) σ G1 H1 _ from o1)
   cases e;exact q G1 H1 g1
theorem FF{a b:E}{pa pb:Expr}{r:List Expr}{pos:Pos}(ha:GT X W F a pa)(hb:GW X W F b (.BoolOp .Or (pb::r) pos)):GW X W F (.or a b) (.BoolOp .Or (pa::pb::r) pos):=
 (pw_or ha hb).imp λσ H Q h=>by
  obtain⟨H0,G,env,sr,o⟩:=h
  rw [aD] at o;refine DA sr o λt G1 H1 g1 bL o1=>?_
  cases t with
  |false=>
   rw [if_neg zzf];have qk:Out X W (aD F b env) σ G1 H1 _:=o1
   exact⟨H0,G1,env,bL,qk.imp λp hp=>by obtain⟨c,rfl,q⟩:=hp;exact⟨c,rfl,λG' H' g'=>q G' H' (g1.trans g')⟩⟩
  |true=>
   rw [if_pos rfl];obtain⟨c,e,q⟩:=(show Out X W (Res.ok (PV.bl true)) σ G1 H1 _ from o1)
   cases e;exact q G1 H1 g1
theorem GD{c a b:E}{pc pa pb:Expr}{pos:Pos}(SE:gA a=true)(Sq:gA b=true)(hc:GT X W F c pc)(ha:GE X W F a pa)(hb:GE X W F b pb):GE X W F (.ite c a b) (.IfExp pc pa pb pos):=
 (AB hc ha hb).imp λσ H Q h=>by
  obtain⟨H0,G,env,sr,o⟩:=h
  rw [aD] at o;refine DA sr o λt G1 H1 g1 bL o1=>?_
  cases t with
  |true=>
   rw [if_pos rfl];have qk:Out X W (aD F a env) σ G1 H1 _:=o1
   exact⟨H0,G1,env,bL,qk.imp λp hp v G' H' g' t'=>hp v G' H' (g1.trans g') (.of (t'.rep SE))⟩
  |false=>
   rw [if_neg zzf];have qk:Out X W (aD F b env) σ G1 H1 _:=o1
   exact⟨H0,G1,env,bL,qk.imp λp hp v G' H' g' t'=>hp v G' H' (g1.trans g') (.of (t'.rep Sq))⟩
noncomputable def tF(X:Cx)(W:Wd)(F:aH)(e:E):TE:=λσ H Q=>∃H0 G env,SR W H0 env σ G H/\Out X W (aD F e env) σ G H λp=>∃xs,p=.lst xs/\∀a vs G' H',aB W G H G' H'->H' a=none->ai W G' xs vs->Q (.ref a) (upd H' a (.lst vs))
abbrev GF(X:Cx)(W:Wd)(F:aH)(e:E)(p:Expr):Prop:=PE X p (tF X W F e)
theorem GF.ge{e:E}{p:Expr}(h:GF X W F e p)(hl:∀env q,aD F e env=.ok q->∃xs,q=.lst xs):GE X W F e p:=
 L2.PE.imp h λσ H Q hq=>by
  obtain⟨H0,G,env,sr,o⟩:=hq
  refine⟨H0,G,env,sr,?_⟩;cases r:aD F e env with
  |bad=>rw [r] at o;exact o
  |exc c=>rw [r] at o;exact o
  |ok q=>
   rw [r] at o;obtain⟨xs,rfl⟩:=hl env q r
   exact⟨xs,rfl,λa vs G' H' g ha l=>o _ _ _ (g.trans (.new g.sub ha)) (.of (.l (.inl (.inl aq)) (ai.same (bB (g.sub.free ha)) xs l)))⟩
def notStar{e:E}{p:Expr}(h:bb Γ N sc e p=true):∀env ps,starEach (p::ps) env=(false,eval p env)::starEach ps env:=by
 intro env ps;cases p<;>first|rfl|(cases e<;>first|(exact bj h)|(rename_i q;cases q<;>exact bj h))
theorem fL:∀{es:Es} {ps:List Expr},jv Γ N sc es ps=true->∀env pos,(backTo pos (starEach ps env)).any (·.1)=false
 |.nil,[],_,_,_=>rfl
 |.cons e es,p::ps,h,env,pos=>by
  replace h:=az h
  rw [notStar h.1];show(false||(backTo pos (starEach ps env)).any (·.1))=false
  rw [fL h.2]
  rfl
 |.nil,_::_,h,_,_=>bj h
 |.cons _ _,[],h,_,_=>bj h
abbrev GA(X:Cx)(W:Wd)(F:aH)(es:Es)(ps:List Expr):Prop:=PA X ps (tA X W F es)
theorem Gu:GA X W F .nil []:=L2.PA.imp dY λσ H Q h=>by
 obtain⟨H0,G,env,sr,o⟩:=h
 rw [cY] at o;exact o [] G H (.refl sr.sub) ⟨.nil,λ_=>.nil⟩
theorem DG{e:E}{es:Es}{p:Expr}{ps:List Expr}(he:GE X W F e p)(hs:GA X W F es ps)(ez:starEach (p::ps) X.env=(false,eval p X.env)::starEach ps X.env):GA X W F (.cons e es) (p::ps):=
 L2.PA.imp (cB he hs ez) λσ H Q h=>by
  obtain⟨H0,G,env,sr,o⟩:=h
  rw [cY] at o;refine one sr o λq v G1 H1 g1 t1 bL o1=>args bL o1 λqs vs G2 H2 g2 t2 eY o2=>?_
  refine o2 (v::vs) G2 H2 (g1.trans g2) ⟨.cons (t1.top.grow g2) t2.top,λz=>?_⟩
  unfold g8 at z;rw [zza] at z;exact .cons (Rep.same g2.g q (t1.rep z.1)) (t2.rep z.2)
theorem iR:∀{es:Es} {env:Sl} {ps:List PV},cY F es env=.ok ps->ps.length=iT es
 |.nil,env,ps,h=>by rw [cY] at h;cases h;rfl
 |.cons e es,env,ps,h=>by
  rw [cY] at h;obtain⟨p,_,h⟩:=Res.aS h
  obtain⟨qs,hq,h⟩:=Res.aS h
  cases h;rw [zzL,iR hq]
  rfl
theorem Hy{es:Es}{ps:List Expr}{x1:Nat}{pos:Pos}(A6:g8 es=true)(hl:iT es<1000)(h:GA X W F es ps):GE X W F (.tup es) (.Tuple ps x1 pos):=
 L2.PE.imp (Jl h) λσ H Q hq=>by
  obtain⟨H0,G,env,sr,o⟩:=hq
  rw [aD] at o;have o':=o
  refine⟨H0,G,env,sr,?_⟩;cases r:cY F es env with
  |bad=>rw [r] at o;exact o
  |exc c=>rw [r] at o;exact o
  |ok qs=>
   rw [r] at o;have hlen:=iR r
   intro vs G1 H1 g1 t;have l:=t.rep A6
   refine⟨by rw [l.length,hlen];exact Nat.le_of_lt (Nat.lt_trans hl (by decide)),λp hp=>?_⟩
   exact o _ _ _ (g1.trans (.new g1.sub hp)) (.of (.t (.inl aq) (ai.same (bB (g1.sub.free hp)) qs l)))
theorem Aa{es:Es}{ps:List Expr}{pos:Pos}(A6:g8 es=true)(hl:iT es<1000)(h:GA X W F es ps):GF X W F (.lst es) (.List ps pos):=
 L2.PE.imp (HV h) λσ H Q hq=>by
  obtain⟨H0,G,env,sr,o⟩:=hq
  rw [aD] at o;refine⟨H0,G,env,sr,?_⟩;cases r:cY F es env with
  |bad=>rw [r] at o;exact o
  |exc c=>rw [r] at o;exact o
  |ok qs=>
   rw [r] at o;have hlen:=iR r
   obtain⟨xs,e,o⟩:=o
   cases e;intro vs G1 H1 g1 t;have l:=t.rep A6
   exact⟨by rw [l.length,hlen];exact Nat.le_of_lt (Nat.lt_trans hl (by decide)),λp hp=>o p vs G1 H1 g1 hp l⟩
theorem lst_is{es:Es}:∀env q,aD F (.lst es) env=.ok q->∃xs,q=.lst xs:=λenv q h=>by
 rw [aD] at h;obtain⟨ps,_,h⟩:=Res.aS h
 cases h;exact⟨_,rfl⟩
def wu{p q:PV}(c:Str):aE p q≠.exc c:=by
 unfold aE
 (repeat' first|split|refine nY λ_=>?_|exact Res.aO c|exact(λz=>nomatch z))
def Iz(C:dO Γ F W N sc k X){a b:E}{pa pb:Expr}{pos:Pos}(ha:GE X W F a pa)(hb:GE X W F b pb)(hs:oU pb):GE X W F (.sub a b) (.Subscript pa pb pos):=
 (Fs (Pq C.K C.room.units) ha hb hs).imp λσ H Q h=>two (λp q c=>wu c) (λenv=>by rw [aD]) h
def yB{e:E}{p:Expr}(h:bb Γ N sc e p=true):oU p:=by
 intro o i;cases p<;>first|rfl|(cases e<;>first|(exact bj h)|(rename_i q;cases q<;>exact bj h))
def pY{e:E}{p:Expr}(h:bb Γ N sc e p=true)(op:CmpOp):behindInMarks op p=false:=by
 cases p<;>first|rfl|(cases e<;>first|(exact bj h)|(rename_i q;cases q<;>exact bj h))
theorem B1:PO X none (zC X W F .no):=λae s σ H Q I h=>Bx ae s σ H Q I (by
 obtain⟨H0,G,env,sr,o⟩:=h
 rw [va] at o;exact o G H (.refl sr.sub))
theorem BA{e:E}{p:Expr}(h:GE X W F e p):PO X (some p) (zC X W F (.some e)):=λae s σ H Q I hq=>C8 h ae s σ H Q I (by
 obtain⟨H0,G,env,sr,o⟩:=hq
 rw [va] at o;refine one sr o λq v G1 H1 g1 t1 bL o1=>?_
 cases q with
 |int i=>exact⟨i,t1.top.int,o1 G1 H1 g1⟩
 |bl _=>exact zzk o1
 |aC=>exact zzk o1
 |str _=>exact zzk o1
 |tup _=>exact zzk o1
 |lst _=>exact zzk o1
 |exc _=>exact zzk o1
 |bw _ _=>exact zzk o1)
def qP{p:PV}{lo hi:Option Int}(c:Str):gO p lo hi≠.exc c:=by
 unfold gO
 (repeat' first|split|refine nY λ_=>?_|exact Res.aO c|exact(λz=>nomatch z))
theorem yw(C:dO Γ F W N sc k X){a:E}{lo hi:Oe}{pa:Expr}{pl ph:Option Expr}{p2 pos:Pos}(ha:GE X W F a pa)(hl:PO X pl (zC X W F lo))(hh:PO X ph (zC X W F hi)):GE X W F (.slice a lo hi) (.Subscript pa (.Slice pl ph none p2) pos):=
 (ye (PM C.K) ha hl hh).imp λσ H Q h=>by
  obtain⟨H0,G,env,sr,o⟩:=h
  rw [aD] at o;refine one sr o λp v G1 H1 g1 t1 bL o1=>?_
  refine⟨H0,G1,env,bL,o1.bind.imp λl uw G2 H2 g2=>?_⟩
  refine⟨H0,G2,env,bL.grow g2,(uw.grow g2).bind.imp λh' S4 G3 H3 g3=>?_⟩
  obtain⟨r,hr,kr⟩:=(S4.grow g3).val (λc=>qP c)
  exact⟨H0,G3,p,r,((bL.grow g2).grow g3).sub,t1.top.grow (g2.trans g3),hr,λw G' H' g' gP=>kr w G' H' (((g1.trans g2).trans g3).trans g') (.of gP)⟩
def BL{CX:xQ}{f:Addr}{fd:FuncData}{ps:List Str}{sp:Sp}{E:XK}{ae:List (Addr×Obj)}{σ:St}{H:Hp}{s:Shared}{Q:VK}{us:List Value}{vs:List V}(FO:f9 X.prog X.w X.K X.mg X.base CX k f fd ps sp)(hr:dG k X.A)(hb:Binds X.K fd ps [])
 (hx:∀e s',CX X.stack H s E e s'->X.xe e s') (I:Inv X ae σ H s) (r:Vals vs us) (h:sp vs H Q E):wpAny (model X.prog X.w) X.A (call (.ref f) us) (EP X ae σ Q) X.xe s:=by
 have hl:us.length=ps.length:=by rw [<-r.length];exact FO.len _ _ _ _ h
 have kj:=hb s us I.ql (by rw [zz6];exact hl)
 rw [zz6] at kj;refine wpAny_call (codeAny_mono (FO.run X.A X.stack s H ⟨us,[]⟩ us vs Q E hr I.wa kj r h) λr s' hq=>?_)
 cases r with
 |error e=>exact hx e s' hq
 |ok fl=>
  cases fl with
  |ret u=>exact I.after hq
  |next=>exact zzk hq
  |brk=>exact zzk hq
  |cont=>exact zzk hq
def ER.imp{P:Program}{w:World}{outer:List Env}{H:Hp}{s s':Shared}{E E':XK}{e:Value}(h:dR P w outer H s E e s')(i:∀C a H',E C a H'->E' C a H'):dR P w outer H s E' e s':=by
 obtain⟨a,C,t,vs,H',B,rfl,F⟩:=h
 exact⟨a,C,t,vs,H',B,rfl,⟨F.os,F.bare,F.aL,F.Bg,F.tn,F.tup,F.dW,F.dg,F.un,i _ _ _ F.ends⟩⟩
def lx(hr:dG k X.A){f:Str}{fa:Addr}{fd:FuncData}{pn:List Str}{q:Option (Str×List Nat)}{ae:List (Addr×Obj)}{σ:St}{G H:Hp}{s:Shared}{Q:VK}{us:List Value}{vs:List V}{as:List PV}
 (FO:f9 X.prog X.w X.K X.mg X.base (dR X.prog X.w) k fa fd pn (xN W F f pn.length q)) (hb:Binds X.K fd pn []) (hlen:F f as≠.bad->vs.length=pn.length)
 (I:Inv X ae σ H s) (sg:aA G H) (tb:cK W G H) (l:yt W G q as vs) (r:Vals vs us) (o:Out X W (F f as) σ G H λp=>dj W G H p Q):wpAny (model X.prog X.w) X.A (call (.ref fa) us) (EP X ae σ Q) X.xe s:=by
 have zd:F f as≠.bad:=λz=>by rw [z] at o;exact o
 refine BL (E:=λCv ao H'=>∃c,F f as=.exc c/\XE W c G H Cv ao H') FO hr hb (λe s' x=>?_) I r ⟨hlen zd,G,as,sg,tb,l,?_⟩
 ·cases z:F f as with
  |ok q=>
   obtain⟨a,C',t,vs,H',B,rfl,Fl⟩:=x
   obtain⟨c,e1,_⟩:=Fl.ends
   rw [z] at e1;cases e1
  |exc c=>
   rw [z] at o;refine o ae G H s e s' I (.refl sg) (ER.imp x λC1 a H' y=>?_);obtain⟨c',e1,y⟩:=y
   rw [z] at e1;cases e1;exact y
  |bad=>exact absurd z zd
 ·cases z:F f as with
  |ok q=>
   rw [z] at o;exact λv G' H' g' rp=>o v G' H' g' rp
  |exc c=>exact λCv ao H' x=>⟨c,rfl,x⟩
  |bad=>exact absurd z zd
def dO.rm(C:dO Γ F W N sc k X):dG k X.A:=C.room.mono (Nat.le_succ k)
def Em(C:dO Γ F W N sc k X){f:Str}{e:E}{es:Es}{p:Expr}{ps:List Expr}{np pos:Pos}(hf:Γ.fs.contains f=true)(hg:iz sc f=true)(ho:okN f=true)(A6:g8 (.cons e es)=true)(ha:GA X W F (.cons e es) (p::ps))
 (ez:starEach (p::ps) X.env=(false,eval p X.env)::starEach ps X.env) (hpl:(backTo pos (starEach ps X.env)).any (·.1)=false):GE X W F (.call f (.cons e es)) (.Call (.Name f np) (p::ps) [] pos):=by
 intro ae s σ H Q I h;obtain⟨H0,G,env,sr,o⟩:=h
 rw [aD] at o;obtain⟨fa,fd,pn,FO,hm,hk,hb,hlen⟩:=(C.fns f hf).ex
 refine wpAny_Call_Name_kw (gX I (fD C hg) hm ?_ (dn ho).1);refine PySem.W.callWith_K (h₀:=X.base) I.ok.mod.Kp hk (bI (ha pos ae s σ H (λvs H1=>∃G1 as,aA G1 H1/\cK W G1 H1/\ai W G1 as vs/\Out X W (F f as) σ G1 H1 λp=>dj W G1 H1 p Q) I ?_) λus s1 ⟨vs,H1,I1,r,q⟩=>⟨I1.ql,?_⟩) ez hpl
 ·refine args sr o λas vs G1 H1 g1 t bL o1=>⟨G1,as,bL.sub,bL.tab,t.rep A6,o1.imp λp hp v G' H' g' rp=>hp v G' H' (g1.trans g') (.of rp)⟩
 ·obtain⟨G1,as,sg,tb,l,o1⟩:=q
  exact lx C.rm FO hb (λz=>by rw [l.length];exact hlen as z) I1 sg tb l r o1
def zH(C:dO Γ F W N sc k X){f:Str}{np pos:Pos}(hf:Γ.fs.contains f=true)(hg:iz sc f=true)(ho:okN f=true):GE X W F (.call f .nil) (.Call (.Name f np) [] [] pos):=by
 intro ae s σ H Q I h;obtain⟨H0,G,env,sr,o⟩:=h
 rw [aD,cY] at o;obtain⟨fa,fd,pn,FO,hm,hk,hb,hlen⟩:=(C.fns f hf).ex
 refine wpAny_Call_Name_kw (gX I (fD C hg) hm ?_ (dn ho).1);refine PySem.W.callWith_K0 I.ql hk ?_;have o':Out X W (F f []) σ G H λp=>∀v G' H',aB W G H G' H'->Got W H0 G' H' (.call f .nil) p v->Q v H':=o
 exact lx (us:=[]) (vs:=[]) (as:=[]) (q:=none) C.rm FO hb (λz=>hlen [] z) I sr.sub sr.tab (show ai W G [] [] from .nil) .nil (o'.imp λp hp v G' H' g' rp=>hp v G' H' g' (.of rp))
def BM{ps:List PV}(c:Str):si ps≠.exc c:=by
 unfold si
 (repeat' first|split|refine nY λ_=>?_|exact Res.aO c|exact(λz=>nomatch z))
def Cj{ps:List PV}(c:Str):zv ps≠.exc c:=by
 unfold zv
 (repeat' first|split|refine nY λ_=>?_|exact Res.aO c|exact(λz=>nomatch z))
def DV{ps:List PV}(c:Str):zK ps≠.exc c:=by
 unfold zK
 (repeat' first|split|refine nY λ_=>?_|exact Res.aO c|exact(λz=>nomatch z))
def EI{ps:List PV}(c:Str):AI ps≠.exc c:=by
 unfold AI
 (repeat' first|split|refine nY λ_=>?_|exact Res.aO c|exact(λz=>nomatch z))
def DW{ps:List PV}(c:Str):Aj ps≠.exc c:=by
 unfold Aj
 (repeat' first|split|refine nY λ_=>?_|exact Res.aO c|exact(λz=>nomatch z))
def vO{ps:List PV}(c:Str):kO ps≠.exc c:=by
 unfold kO
 (repeat' first|split|refine nY λ_=>?_|exact Res.aO c|exact(λz=>nomatch z))
def CC{ps:List PV}(c:Str):zP ps≠.exc c:=by
 unfold zP
 (repeat' first|split|refine nY λ_=>?_|exact Res.aO c|exact(λz=>nomatch z))
def zr{ps:List PV}(c:Str):nE ps≠.exc c:=by
 unfold nE
 (repeat' first|split|refine nY λ_=>?_|exact Res.aO c|exact(λz=>nomatch z))
def wL{ps:List PV}(c:Str):mq ps≠.exc c:=by
 unfold mq
 (repeat' first|split|refine nY λ_=>?_|exact Res.aO c|exact(λz=>nomatch z))
def w4{b:B}{ps:List PV}(c:Str):dN b ps≠.exc c:=match b with
 |.len=>BM c|.abs=>Cj c|.max2=>DV c|.int=>EI c|.str=>DW c|.tuple=>vO c|.sum=>CC c|.dict=>zr c|.lY=>wL c
def IE(C:dO Γ F W N sc k X)(b:B){e:Expr}{es:List Expr}{t:TA}{np pos:Pos}(hg:iz sc (bN b)=true)(hm:Γ.bs.contains (bN b)=true)(ha:PA X (e::es) t)
 (he:starEach (e::es) X.env=(false,eval e X.env)::starEach es X.env) (hpl:(backTo pos (starEach es X.env)).any (·.1)=false):PE X (.Call (.Name (bN b) np) (e::es) [] pos) (ME (Ao W (dN b)) t):=by
 have qf:=C.bs _ (zzn.mp hm)
 have r8:=fD C hg
 cases b
 case len=>exact gv (wM C.K) r8 qf PySem.boot_len ha (he:=he) (hpl:=hpl)
 case abs=>exact gv wW r8 qf (by decide+kernel) ha (he:=he) (hpl:=hpl)
 case max2=>exact gv (wb C.calm) r8 qf (by decide+kernel) ha (he:=he) (hpl:=hpl)
 case int=>exact fB wK r8 qf (by decide+kernel) ha (he:=he) (hpl:=hpl)
 case str=>exact fB wy r8 qf (by decide+kernel) ha (he:=he) (hpl:=hpl)
 case tuple=>exact fB (qV C.K) r8 qf (by decide+kernel) ha (he:=he) (hpl:=hpl)
 case sum=>exact gv (xl C.calm C.K) r8 qf (by decide+kernel) ha (he:=he) (hpl:=hpl)
 case dict=>exact fB (rn C.K C.calm C.room.units) r8 qf (by decide+kernel) ha (he:=he) (hpl:=hpl)
 case lY=>exact fB (qH C.K C.calm) r8 qf (by decide+kernel) ha (he:=he) (hpl:=hpl)
def Jf{op:List PV->Res PV}{es:Es}{e:E}{σ:St}{H:Hp}{Q:VK}(hn:∀ps c,op ps≠.exc c)(he:∀env,aD F e env=(cY F es env).bind λps=>op ps)(h:tE X W F e σ H Q):ME (Ao W op) (tA X W F es) σ H Q:=by
 obtain⟨H0,G,env,sr,o⟩:=h
 rw [he] at o;refine args sr o λps vs G1 H1 g1 t bL o1=>?_
 obtain⟨r,hr,kr⟩:=o1.val (hn ps)
 exact⟨H0,G1,ps,r,bL.sub,t.top,hr,λw G' H' g' gP=>kr w G' H' (g1.trans g') (.of gP)⟩
def Ik(C:dO Γ F W N sc k X)(b:B){es:Es}{e:Expr}{ps:List Expr}{np pos:Pos}(hg:iz sc (bN b)=true)(hm:Γ.bs.contains (bN b)=true)(ha:GA X W F es (e::ps))
 (he:starEach (e::ps) X.env=(false,eval e X.env)::starEach ps X.env) (hpl:(backTo pos (starEach ps X.env)).any (·.1)=false):GE X W F (.blt b es) (.Call (.Name (bN b) np) (e::ps) [] pos):=
 (IE C b hg hm ha he hpl).imp λσ H Q h=>Jf (λps c=>w4 c) (λenv=>by rw [aD]) h
def Ad{t:Ty}{p:PV}(c:Str):jy t p≠.exc c:=by
 cases p<;>exact λz=>nomatch z
def Hq(C:dO Γ F W N sc k X)(t:Ty){pos:Pos}(hg:iz sc (Str.ofString (ue t))=true)(hm:Γ.bs.contains (Str.ofString (ue t))=true):PE X (.Name (Str.ofString (ue t)) pos) (tC (.ty (ue t))):=by
 have qf:=C.bs _ (zzn.mp hm)
 have r8:=fD C hg
 cases t
 all_goals exact EA r8 qf (u:=.type _) (by decide+kernel) rfl (by decide+kernel) (by decide+kernel)
def Kz(C:dO Γ F W N sc k X){t:Ty}{a:E}{pa:Expr}{np tp pos:Pos}(hi:iz sc "isinstance"=true)(hb:Γ.bs.contains "isinstance"=true)(hg:iz sc (Str.ofString (ue t))=true)(hm:Γ.bs.contains (Str.ofString (ue t))=true)(ha:GE X W F a pa)
 (ez:∀env ps,starEach (pa::ps) env=(false,eval pa env)::starEach ps env):GE X W F (.ty t a) (.Call (.Name "isinstance" np) [pa,.Name (Str.ofString (ue t)) tp] [] pos):=by
 refine(gv (yX C.K t) (fD C hi) (C.bs _ (zzn.mp hb)) (by decide+kernel) (cB ha (cB (Hq C t hg hm) dY) (ez _ _)) (he:=ez _ _)).imp λσ H Q h=>?_
 obtain⟨H0,G,env,sr,o⟩:=h
 rw [aD] at o;refine one sr o λp v G1 H1 g1 t1 bL o1=>?_
 obtain⟨r,hr,kr⟩:=o1.val (λc=>Ad c)
 exact⟨v,H0,G1,p,r,rfl,bL.sub,t1.top,hr,λw G' H' g' gP=>kr w G' H' (g1.trans g') (.of gP)⟩
def SR.set{H0 G H:Hp}{env:Sl}{σ:St}{p:PV}{v:V}(i:Nat)(r:SR W H0 env σ G H)(h:Rep W G p v):SR W H0 (env.set i (.val p)) (σ.set i (some v)) G H where
 len:=by simpa using r.len
 sub:=r.sub
 tab:=r.tab
 mK:=r.mK
 base:=r.base
 slot:=λj s e=>by
  by_cases hj:i=j
  ·subst hj;have cC:i<env.length:=by
    have:=(zzH.mp e).1
    simpa using this
   rw [zzo cC] at e;cases e;exact⟨some v,zzo (by rw [<-r.len];exact cC),v,rfl,h⟩
  ·rw [zzS hj] at e;obtain⟨o,h1,h2⟩:=r.slot j s e
   exact⟨o,by rw [zzS hj];exact h1,h2⟩
 apart:=λa b q q' ad e1 e2 e3 e4=>by
  have ne:∀{c:Nat} {q:PV},(env.set i (.val p))[c]?=some (.own q)->i≠c:=λ{c q} e z=>by
   subst z;have cC:i<env.length:=by
    have:=(zzH.mp e).1
    simpa using this
   rw [zzo cC] at e;cases e
  have n1:=ne e1
  have n2:=ne e2
  rw [zzS n1] at e1 e3;rw [zzS n2] at e2 e4;exact r.apart a b q q' ad e1 e2 e3 e4
noncomputable def gT(K:zz8):Tg->TG
 |.one i=>gH i
 |.two i j=>LQ K 2 (uH (gH i) (uH (gH j) Hr))
def oY{K:zz8}(hK:W.K=K){tg:Tg}{H0 G H:Hp}{env ak:Sl}{σ:St}{p:PV}{v:V}{Q:St->Hp->Prop}(e:Tg.put tg p env=.ok ak)(r:SR W H0 env σ G H)(h:Rep W G p v)(hq:∀σ',SR W H0 ak σ' G H->Q σ' H):gT K tg v σ H Q:=by
 unfold Tg.put at e;split at e
 ·cases e;exact hq _ (r.set _ h)
 ·cases e;simp! [Rep] at h;obtain⟨a,vs,rfl,sq,l⟩:=h
  obtain⟨v1,r1,rfl,h1,l⟩:=l.bK
  obtain⟨v2,r2,rfl,h2,l⟩:=l.bK
  simp! [ai] at l;subst l;rw [hK] at sq;exact⟨a,_,rfl,aA.tup r.sub sq.sq,rfl,_,_,rfl,_,_,rfl,rfl,hq _ ((r.set _ h1).set _ h2)⟩
 ·cases e
def zg{x:Str}(eW:X.env.scope=sc)(h:fA sc x=true):Loc X.env.scope x:=by
 rw [eW];unfold fA at h;simp! [zzt,zzy] at h;exact h
def E4{fn:Str->Bool}{i:Nat}{p:Expr}(hN:X.N=N)(nd:N.Nodup)(eW:X.env.scope=sc)(lH:∀x,fn x=true->X.fn x=true)(h:OW N sc fn i p=true):PG X p (gH i)/\∃x q,p=.Name x q:=by
 obtain⟨x,hx,h2⟩:=aj h
 obtain⟨q,rfl⟩:=b9 hx
 simp! [zza,zzy,zzt] at h2;refine⟨CJ (by rw [hN];exact nd) (by rw [hN];exact h2.1.1) (zg eW h2.1.2) ?_,x,q,rfl⟩;rcases h2.2 with z|z
 ·exact .inl (lH x z)
 ·exact .inr (by rw [eW];exact z)
def PX:List Nat->Fn
 |[]=>Hr
 |i::is=>uH (gH i) (PX is)
theorem yC{fn:Str->Bool}(hN:X.N=N)(nd:N.Nodup)(eW:X.env.scope=sc)(lH:∀x,fn x=true->X.fn x=true):∀(is:List Nat) (es:List Expr),Iu N sc fn is es=true->KZ X es (PX is)/\(assignEach es X.env).length=is.length/\(assignEach es X.env).findIdx? (·.1)=none
 |[],[],_=>⟨BU,rfl,rfl⟩
 |i::is,a::as,h=>by
  have h:=az h
  obtain⟨g1,x,p,rfl⟩:=E4 hN nd eW lH h.1
  obtain⟨g,l,f⟩:=yC hN nd eW lH is as h.2
  have e:assignEach (.Name x p::as) X.env=(false,assign (.Name x p) X.env)::assignEach as X.env:=rfl
  refine⟨yv g1 g,by rw [e,zzL,l,zzL],?_⟩;rw [e,List.findIdx?_cons,f]
  rfl
 |[],_::_,h=>bj h
 |_::_,[],h=>bj h
def vP{fn:Str->Bool}{tg:Tg}{p:Expr}(hN:X.N=N)(nd:N.Nodup)(eW:X.env.scope=sc)(hc:X.calm=true)(lH:∀x,fn x=true->X.fn x=true)(h:fR N sc fn tg p=true):PG X p (gT X.K tg):=by
 cases tg with
 |one i=>exact(E4 hN nd eW lH h).1
 |two i j=>
  obtain⟨es,h1,h2⟩:=aj h
  obtain⟨k,q,rfl⟩:=vi h1
  obtain⟨g,l,f⟩:=yC hN nd eW lH _ _ h2
  exact IZ hc g l f
def oG(W:Wd)(J:It)(G B:Hp)(ps:List PV):Prop:=∀(i:Nat) (G' H':Hp),aA G G'->iA B H'->aA G' H'->
 (i=ps.length->J.stop i H')/\∀p,ps[i]?=some p->J.go i H'/\∀x mz,J.JN i H' x mz->∃vD,aB W G' H' vD mz/\Rep W vD p x
structure LX(W:Wd)(G H:Hp)(it:I)(J:It)(ps:List PV):Prop where
 any:oG W J G H ps
 bp:BG it=true->oG W J G G ps
noncomputable def tI(X:Cx)(W:Wd)(F:aH)(it:I):TI:=λσ H R=>∃H0 G env,SR W H0 env σ G H/\Out X W (qN F it env) σ G H λps=>∀J G' H',aB W G H G' H'->LX W G' H' it J ps->R J H'
abbrev GI(X:Cx)(W:Wd)(F:aH)(tg:Expr)(it:I)(p:Expr):Prop:=PI X tg p (tI X W F it)
theorem vz(hK:W.K=X.K){G B:Hp}{a:Addr}{vs:List V}{ps:List PV}(h:qd W.K B a vs)(l:ai W G ps vs):oG W (Px X.K a) G B ps:=λi G' H' sG sB sub=>by
 have hq:fV X.K H' a vs:=pT hK (iA.ls sB h)
 refine⟨λhi=>⟨vs,hq,by rw [l.length];omega⟩,λp hp=>?_⟩
 obtain⟨v,hv,rv⟩:=l.p8 hp
 refine⟨⟨vs,v,hq,hv⟩,λx mz hy=>?_⟩
 obtain⟨rfl,hy⟩:=hy
 have:=hy vs hq
 rw [hv] at this;cases this;exact⟨G',.refl sub,Rep.same sG p rv⟩
theorem zw{K:zz8}{G B:Hp}{a:Addr}{vs:List V}{ps:List PV}(h:fF K B a vs)(l:ai W G ps vs):oG W (O4 K a) G B ps:=λi G' H' sG sB sub=>by
 have hq:fF K H' a vs:=iA.tup sB h
 refine⟨λhi=>⟨vs,hq,by rw [l.length];omega⟩,λp hp=>?_⟩
 obtain⟨v,hv,rv⟩:=l.p8 hp
 refine⟨⟨vs,v,hq,hv⟩,λx mz hy=>?_⟩
 obtain⟨rfl,hy⟩:=hy
 have:=hy vs hq
 rw [hv] at this;cases this;exact⟨G',.refl sub,Rep.same sG p rv⟩
def Ba{G B:Hp}{a:Addr}{o:Obj}{ks:List (List Int)}{us:List V}(n:ks.length=us.length)(h:B a=some (.bp o (.dT (kz ks us)))):oG W (Oz a o (kz ks us)) G B (ks.map af):=λi G' H' sG sB sub=>by
 have hq:H' a=some (.bp o (.dT (kz ks us))):=sB.at h (λ_ z=>nomatch z)
 refine⟨λhi=>⟨hq,by rw [fG n];rw [zzl] at hi;omega⟩,λp hp=>?_⟩
 rw [zzQ] at hp;obtain⟨k,hk,rfl⟩:=zzJ.mp hp
 have hi:i<ks.length:=(zzH.mp hk).1
 refine⟨⟨hq,by rw [fG n];exact hi⟩,λx mz hy=>?_⟩
 obtain⟨rfl,b,k',v,rfl,e2,e3⟩:=hy
 have ek:k'=ki k:=by
  have:=congrArg (λl=>l[i]?) (pL (us:=us) n)
  simp! [zzQ,e2,hk,Option.map_some] at this;exact zzq this
 rw [ek,oK] at e3;obtain⟨G2,g2,l2⟩:=gV (W:=W) (vs:=[.ref b]) (nss:=[k]) sub (.cons ⟨b,rfl,e3⟩ .nil)
 obtain⟨w,r,ew,hw,_⟩:=l2.bK
 cases ew;exact⟨G2,g2,hw⟩
def xr{z:Str}{i:Nat}{p:PV}(h:(chars z)[i]?=some p):∃c,z.cps[i]?=some c/\p=.str ⟨#[c]⟩:=by
 unfold chars at h;rw [zzQ] at h;obtain⟨c,hc,rfl⟩:=zzJ.mp h
 rw [Array.getElem?_toList] at hc;exact⟨c,hc,rfl⟩
def vN(z:Str):(chars z).length=z.cps.size:=by unfold chars;rw [zzl,zzd]
theorem oC{G B:Hp}(lo:Int)(n:Nat):oG W (L8 lo n) G B (e6 lo n):=λi G' H' sG sB sub=>by
 unfold e6;refine⟨λhi=>by rw [zzl,List.length_range] at hi;exact Nat.le_of_eq hi.symm,λp hp=>?_⟩
 rw [zzQ] at hp;obtain⟨c,hc,rfl⟩:=zzJ.mp hp
 obtain⟨h1,h2⟩:=zzH.mp hc
 rw [List.length_range] at h1;rw [List.getElem_range] at h2;subst h2;refine⟨h1,λx mz hy=>?_⟩
 obtain⟨rfl,rfl⟩:=hy
 exact⟨G',.refl sub,.i⟩
def kK{G H:Hp}{p q:PV}{v u:V}{a:Addr}(sub:aA G H)(ha:H a=none)(h1:Rep W G p v)(h2:Rep W G q u):∃vD,aB W G H vD (upd H a (.tup [v,u]))/\Rep W vD (.tup [p,q]) (.ref a):=
 ⟨_,.new sub ha,.t (.inl aq) (ai.same (bB (sub.free ha)) _ (.cons h1 (.cons h2 .nil)))⟩
theorem i6:∀{xs:List PV} {n i:Nat} {p:PV},(cA n xs)[i]?=some p->∃x,xs[i]?=some x/\p=.tup [.int ((n+i:Nat):Int),x]
 |[],_,_,_,h=>by simp [cA] at h
 |x::xs,n,0,p,h=>by simp [cA] at h;exact⟨x,rfl,by rw [<-h];simp⟩
 |x::xs,n,i+1,p,h=>by
  simp! [cA,List.getElem?_cons_succ] at h;obtain⟨y,h1,h2⟩:=i6 h
  exact⟨y,by simpa using h1,by rw [h2,show n+1+i=n+(i+1) by omega]⟩
theorem cj:∀(xs:List PV) (n:Nat),(cA n xs).length=xs.length
 |[],_=>rfl
 |_::xs,n=>by simp! [cA,zzL,cj xs]
theorem qw{K:zz8}{G B:Hp}{a:Addr}{vs:List V}{ps:List PV}(h:fF K B a vs)(l:ai W G ps vs):oG W (NT K a vs) G B (cA 0 ps):=λi G' H' sG sB sub=>by
 have hq:fF K H' a vs:=iA.tup sB h
 refine⟨λhi=>⟨hq,by rw [cj] at hi;rw [l.length];exact hi⟩,λp hp=>?_⟩
 obtain⟨x,hx,rfl⟩:=i6 hp
 obtain⟨v,hv,rv⟩:=l.p8 hx
 refine⟨⟨hq,(zzH.mp hv).1⟩,λy mz hy=>?_⟩
 obtain⟨b,x',rfl,hb,rfl,wR⟩:=hy
 rw [hv] at wR;cases wR;rw [Nat.zero_add];exact kK sub hb .i (Rep.same sG x rv)
theorem ma(hK:W.K=X.K){G B:Hp}{a:Addr}{vs:List V}{ps:List PV}(h:qd W.K B a vs)(l:ai W G ps vs):oG W (IB X.K a vs) G B (cA 0 ps):=λi G' H' sG sB sub=>by
 have hq:fV X.K H' a vs:=pT hK (iA.ls sB h)
 refine⟨λhi=>⟨hq,by rw [cj] at hi;rw [l.length];exact hi⟩,λp hp=>?_⟩
 obtain⟨x,hx,rfl⟩:=i6 hp
 obtain⟨v,hv,rv⟩:=l.p8 hx
 refine⟨⟨hq,(zzH.mp hv).1⟩,λy mz hy=>?_⟩
 obtain⟨b,x',rfl,hb,rfl,wR⟩:=hy
 rw [hv] at wR;cases wR;rw [Nat.zero_add];exact kK sub hb .i (Rep.same sG x rv)
theorem qB{G B:Hp}(z:Str):oG W (Nm z) G B (cA 0 (chars z)):=λi G' H' sG sB sub=>by
 refine⟨λhi=>by rw [cj,vN] at hi;exact hi,λp hp=>?_⟩
 obtain⟨x,hx,rfl⟩:=i6 hp
 obtain⟨c,hc,rfl⟩:=xr hx
 refine⟨(Array.getElem?_eq_some_iff.mp hc).1,λy mz hy=>?_⟩
 obtain⟨b,c',rfl,hb,rfl,ip⟩:=hy
 rw [hc] at ip;cases ip;rw [Nat.zero_add];exact kK sub hb .i .s
def fv{e:E}{σ:St}{H0 G H:Hp}{env:Sl}{Q:VK}{p:PV}(sr:SR W H0 env σ G H)(e1:aD F e env=.ok p)(h:∀v G1 H1,aB W G H G1 H1->Got W H0 G1 H1 e p v->Q v H1):tE X W F e σ H Q:=⟨H0,G,env,sr,by rw [e1];exact h⟩
def Al{e:E}{σ:St}{H0 G H:Hp}{env:Sl}{Q:VK}{c:Str}(sr:SR W H0 env σ G H)(e1:aD F e env=.exc c)(h:sI X W σ c G H):tE X W F e σ H Q:=⟨H0,G,env,sr,by rw [e1];exact h⟩
def GX(C:dO Γ F W N sc k X){tg p:Expr}{e:E}(he:GE X W F e p):GI X W F tg (.seq e) p:=by
 intro ae s σ H R I h;obtain⟨H0,G,env,sr,o⟩:=h
 rw [qN] at o;cases r:aD F e env with
 |bad=>rw [r] at o;exact o.elim
 |exc c=>rw [r] at o;exact vd he ae s σ H R I (Al sr r o)
 |ok q=>
  rw [r] at o;cases q with
  |lst xs=>
   refine vd he ae s σ H R I (fv sr r λv G1 H1 g1 t=>?_);have t':=t
   obtain⟨a,vs,rfl,h1,l1⟩:=t.top.lst g1.sub
   refine⟨a,rfl,⟨vs,pT C.K h1⟩,o _ G1 H1 g1 ⟨vz C.K h1 l1,λz=>?_⟩⟩
   have rp:=t'.rep z
   simp! [Rep] at rp;obtain⟨a',vs',e1,h2,l2⟩:=rp
   cases e1;exact vz C.K h2 l2
  |tup xs=>
   refine Gr he ae s σ H R I (fv sr r λv G1 H1 g1 t=>?_);have t':=t
   obtain⟨a,vs,rfl,h1,l1⟩:=t.top.tup g1.sub
   rw [C.K] at h1;refine⟨a,rfl,⟨vs,h1⟩,o _ G1 H1 g1 ⟨zw h1 l1,λz=>?_⟩⟩
   have rp:=t'.rep z
   simp! [Rep] at rp;obtain⟨a',vs',e1,h2,l2⟩:=rp
   cases e1;rw [C.K] at h2;exact zw h2.sq l2
  |str z=>exact zzk o
  |int _=>exact zzk o
  |bl _=>exact zzk o
  |aC=>exact zzk o
  |exc _=>exact zzk o
  |bw ks qs=>
   by_cases Iw:gA e=true
   ·have RH:xb e (.bw ks qs)=.ok (ks.map af):=by
     cases e<;>first|rfl|exact bj Iw
    have o2:Out X W (xb e (.bw ks qs)) σ G H λps=>∀(J:It) (G' H':Hp),aB W G H G' H'->LX W G' H' (Ci.I.seq e) J ps->R J H':=o
    rw [RH] at o2;refine Jb he ae s σ H R I (fv sr r λv G1 H1 g1 t=>?_);have rp:=t.rep Iw
    simp! [Rep] at rp;obtain⟨a,ob,us,rfl,n,h1,l1⟩:=rp
    exact⟨a,ob,_,rfl,g1.sub _ _ h1,o2 _ G1 H1 g1 ⟨Ba n (g1.sub _ _ h1),λ_=>Ba n h1⟩⟩
   ·have:∃i,e=.eE i:=by
     cases e<;>first|exact⟨_,rfl⟩|exact absurd rfl Iw
    obtain⟨i,rfl⟩:=this
    exact zzk o
def dy{i:Int}(h:aJ i=true): -(2^62)<=i/\i<2^62:=by
 unfold aJ at h
 simpa using h
def Jr(C:dO Γ F W N sc k X){tg p:Expr}{e:E}{np pos:Pos}(hg:iz sc "range"=true)(hb:Γ.bs.contains "range"=true)(ez:∀env ps,starEach (p::ps) env=(false,eval p env)::starEach ps env)(he:GE X W F e p):GI X W F tg (.qR e) (.Call (.Name "range" np) [p] [] pos):=by
 intro ae s σ H R I h;refine wZ (fD C hg) (C.bs _ (zzn.mp hb)) (cB he dY (ez _ _)) (ez _ _) ae s σ H R I ?_;obtain⟨H0,G,env,sr,o⟩:=h
 rw [qN] at o;refine one sr o λq v G1 H1 g1 t bL o1=>?_
 cases q with
 |int j=>
  by_cases hj:aJ j=true
  ·have o2:Out X W (if aJ j=true then Res.ok (e6 0 j.toNat) else .bad) σ G1 H1 _:=o1
   rw [if_pos hj] at o2;exact⟨j,by rw [t.top.int],(dy hj).1,(dy hj).2,o2 _ G1 H1 g1 ⟨oC _ _,λ_=>oC _ _⟩⟩
  ·have o2:Out X W (if aJ j=true then Res.ok (e6 0 j.toNat) else .bad) σ G1 H1 _:=o1
   rw [if_neg hj] at o2;exact o2.elim
 |bl _=>exact zzk o1
 |aC=>exact zzk o1
 |str _=>exact zzk o1
 |tup _=>exact zzk o1
 |lst _=>exact zzk o1
 |exc _=>exact zzk o1
 |bw _ _=>exact zzk o1
def BX(C:dO Γ F W N sc k X){tg p q:Expr}{a b:E}{np pos:Pos}(hg:iz sc "range"=true)(hb:Γ.bs.contains "range"=true)(ez:∀env ps,starEach (p::ps) env=(false,eval p env)::starEach ps env)(Ih:∀env ps,starEach (q::ps) env=(false,eval q env)::starEach ps env)
 (ha:GE X W F a p) (kj:GE X W F b q):GI X W F tg (.lF a b) (.Call (.Name "range" np) [p,q] [] pos):=by
 intro ae s σ H R I h;refine wj (fD C hg) (C.bs _ (zzn.mp hb)) (cB ha (cB kj dY (Ih _ _)) (ez _ _)) (by rw [ez,Ih];rfl) (Ih _ _) ae s σ H R I ?_;obtain⟨H0,G,env,sr,o⟩:=h
 rw [qN] at o;refine one sr o λx v G1 H1 g1 t bL o1=>one bL o1 λy u G2 H2 g2 t2 eY o2=>?_
 cases x<;>cases y<;>first
  |(exact zzk o2)
  | (rename_i i j
     by_cases hj:(aJ i&&aJ j)=true
     ·have o3:Out X W (if(aJ i&&aJ j)=true then Res.ok (e6 i (j-i).toNat) else .bad) σ G2 H2 _:=o2
      rw [if_pos hj] at o3;rw [zza] at hj;exact⟨i,j,by rw [t.top.int,t2.top.int],⟨(dy hj.1).1,(dy hj.1).2,(dy hj.2).1,(dy hj.2).2⟩,o3 _ G2 H2 (g1.trans g2) ⟨oC _ _,λ_=>oC _ _⟩⟩
     ·have o3:Out X W (if(aJ i&&aJ j)=true then Res.ok (e6 i (j-i).toNat) else .bad) σ G2 H2 _:=o2
      rw [if_neg hj] at o3;exact o3.elim)
def Cz(C:dO Γ F W N sc k X){elts:List Expr}{x1:Nat}{so:Pos}{p:Expr}{e:E}{np pos:Pos}(hg:iz sc "enumerate"=true)(hb:Γ.bs.contains "enumerate"=true)(ez:∀env ps,starEach (p::ps) env=(false,eval p env)::starEach ps env)(he:GE X W F e p):
 GI X W F (.Tuple elts x1 so) (.enum e) (.Call (.Name "enumerate" np) [p] [] pos):=by
 intro ae s σ H R I h;have r8:=fD C hg
 have qf:=C.bs _ (zzn.mp hb)
 have pa:=cB he dY (ez _ _)
 obtain⟨H0,G,env,sr,o⟩:=h
 rw [qN] at o;cases r:aD F e env with
 |bad=>rw [r] at o;exact o.elim
 |exc c=>rw [r] at o;exact q8 r8 qf pa (ez _ _) ae s σ H R I (Al sr r o)
 |ok q=>
  rw [r] at o;cases q with
  |lst xs=>
   refine q8 r8 qf pa (ez _ _) ae s σ H R I (fv sr r λv G1 H1 g1 t=>?_)
   by_cases hz:gA e=true
   ·have rp:=t.rep hz
    simp! [Rep] at rp;obtain⟨a,vs,rfl,h2,l2⟩:=rp
    exact⟨a,vs,rfl,pT C.K (aA.ls g1.sub h2),o _ G1 H1 g1 ⟨ma C.K (aA.ls g1.sub h2) l2,λ_=>ma C.K h2 l2⟩⟩
   ·obtain⟨a,vs,rfl,h1,l1⟩:=t.top.lst g1.sub
    exact⟨a,vs,rfl,pT C.K h1,o _ G1 H1 g1 ⟨ma C.K h1 l1,λz=>absurd z hz⟩⟩
  |tup xs=>
   refine zi r8 qf pa (ez _ _) ae s σ H R I (fv sr r λv G1 H1 g1 t=>?_);have t':=t.top
   rcases t' with rp|z
   ·simp! [Rep] at rp;obtain⟨a,vs,rfl,h2,l2⟩:=rp
    rw [C.K] at h2;exact⟨a,vs,rfl,aA.tup g1.sub h2.sq,o _ G1 H1 g1 ⟨qw (aA.tup g1.sub h2.sq) l2,λz=>qw h2.sq l2⟩⟩
   ·exact z.elim
  |str z=>exact yr r8 qf pa (ez _ _) ae s σ H R I (fv sr r λv G1 H1 g1 t=>⟨z,by rw [t.top.str],o _ G1 H1 g1 ⟨qB z,λ_=>qB z⟩⟩)
  |int _=>exact zzk o
  |bl _=>exact zzk o
  |aC=>exact zzk o
  |exc _=>exact zzk o
  |bw _ _=>exact zzk o
end
def xI{env:Env}{x:Str}{c:Addr}(h:env.cells.lookup x=some c):cellOf env x=pure c:=by
 unfold cellOf;rw [h]
def frees(names:List (Str×NameKind)):List Str:=((names.filter λp=>p.2==.free).map (·.1)).reverse
def iu{scope:Scope}{env:Env}(h:∀y∈scope.names,y.2=.free->∃c,env.cells.lookup y.1=some c):closureFor scope env=pure (bH env (freeOf scope)):=by
 simp! [closureFor];have key:∀(names:List (Str×NameKind)) (acc:List (Str×Addr)),(∀y∈names,y.2=.free->∃c,env.cells.lookup y.1=some c)->
  (forIn (m:=Sem) names acc λx r=>if(x.2==NameKind.free)=true then do
   let c<-cellOf env x.1
   pure (ForInStep.yield ((x.1,c)::r))
   else pure (ForInStep.yield r))=pure (bH env (frees names)++acc):=by
  intro names
  induction names with
  |nil=>intro acc _;rfl
  |cons p r ih=>
   intro acc hh;obtain⟨n,kd⟩:=p
   rw [List.forIn_cons]
   by_cases hk:(kd==NameKind.free)=true
   ·obtain⟨c,hc⟩:=hh (n,kd) (by simp) (zzy.mp hk)
    simp! [hk,if_true,xI hc,pure_bind];rw [ih ((n,c)::acc) λy hy=>hh y (zzI _ hy)]
    have e:frees ((n,kd)::r)=frees r++[n]:=by
     unfold frees;rw [zz3,if_pos hk,zzF,List.reverse_cons]
    rw [e];unfold bH;rw [List.map_append,zzF,List.map_nil,List.append_assoc];show _=pure (_++([(n,(env.cells.lookup n).getD 0)]++acc))
    rw [show env.cells.lookup n=some c from hc]
    rfl
   ·simp! [hk,zze,if_false,pure_bind];rw [ih acc λy hy=>hh y (zzI _ hy)]
    have e:frees ((n,kd)::r)=frees r:=by
     unfold frees;rw [zz3,if_neg hk]
    rw [e]
 have:=key scope.names [] h
 rw [zz6] at this;simp! [bind_pure_comp,map_pure,id_map',bind_pure];exact this
section
variable{X:Cx}{W:Wd}{N:List Str}{sc:Scope}
def ff{scope:Scope}(h:X.env.scope=sc):relabel scope X.env=dq scope sc:=by
 subst h
 rfl
structure lN(N:List Str)(sc scope:Scope)(kk:Nat)(aU:List Nat)(xs:List Str):Prop where
 kind:scope.kind=.function
 len:xs.length=kk
 nd:(xs++freeOf scope).Nodup
 Jg:(scope.names.all λy=>(decide (y.2≠.cell)||!(freeOf scope).contains y.1)&&(decide (y.2≠.free)||(freeOf scope).contains y.1))=true
 own:(scope.names.all λy=>decide (y.2≠.cell)||decide (scope.names.lookup y.1=some .cell))=true
 names:(scope.names.all λy=>decide (y.2≠.local)||decide (scope.names.lookup y.1=some .local))=true
 slots:aU.map (λi=>N[i]?)=(freeOf scope).map some
 kX:((freeOf scope).all λy=>decide (sc.names.lookup y=some .cell))=true
 kY:((freeOf scope).all λy=>decide ((dq scope sc).names.lookup y=some .cell))=true
def iX{scope:Scope}{kk:Nat}{aU:List Nat}{xs:List Str}(h:uS N sc scope kk aU xs=true):lN N sc scope kk aU xs:=by
 unfold uS at h;simp! [zza] at h;obtain⟨⟨⟨⟨⟨⟨⟨⟨h1,h2⟩,h3⟩,h4⟩,h9⟩,h5⟩,h6⟩,h7⟩,h8⟩:=h
 exact⟨zzy.mp h1,zzy.mp h2,zzY h3,h4,h9,h5,zzY h6,h7,h8⟩
def oF(hN:X.N=N)(eW:X.env.scope=sc)(ok:X.Ok){scope:Scope}{kk:Nat}{aU:List Nat}{xs:List Str}(h:lN N sc scope kk aU xs):eV X scope xs (freeOf scope) aU:=by
 have ef:∀y∈freeOf scope,∃c,X.env.cells.lookup y=some c:=λy hy=>ok.has y (.inl (by
  have:=zzY (zzT.mp h.kX y hy)
  show X.env.scope.names.lookup y=_
  rw [eW];exact this))
 refine⟨h.kind,iu λy hy hf=>?_,zzT.mpr λy hy=>?_,h.Jg,h.own,h.names,by rw [hN];exact h.slots,zzT.mpr λy hy=>?_,?_⟩
 ·have c:=zzT.mp h.Jg y hy
  rw [zza,zzt,zzt] at c;rcases c.2 with z|z
  ·exact absurd hf (zzY z)
  ·exact ef _ (zzn.mp z)
 ·obtain⟨c,hc⟩:=ef y hy
  rw [hc];rfl
 ·have:=zzY (zzT.mp h.kX y hy)
  refine zzh ?_;show X.env.scope.names.lookup y=_
  rw [eW];exact this
 ·rw [ff eW];exact h.kY
theorem ic{f:PV->Res (Option PV)}{x:PV}:∀{xs:List PV},aP f (xs++[x])=(aP f xs).bind λys=>(f x).well.bind λo=>.ok (ys++o.toList)
 |[]=>by
  simp! [List.nil_append,aP,Res.bind];cases(f x).well with
  |ok o=>cases o<;>rfl
  |exc c=>rfl
  |bad=>rfl
 |y::xs=>by
  rw [List.cons_append];simp! [aP];rw [ic (xs:=xs)];cases(f y).well with
  |exc c=>rfl
  |bad=>rfl
  |ok o=>
   show(((aP f xs).bind λys=>(f x).well.bind λo=>.ok (ys++o.toList)).bind λys=>.ok (oc o ys))=((aP f xs).bind λys=>.ok (oc o ys)).bind λys=>(f x).well.bind λo=>.ok (ys++o.toList)
   cases aP f xs with
   |exc c=>rfl
   |bad=>rfl
   |ok zs=>
    show(((f x).well.bind λo=>.ok (zs++o.toList)).bind λys=>.ok (oc o ys))=(f x).well.bind λo2=>.ok ((oc o zs)++o2.toList)
    cases(f x).well with
    |exc c=>rfl
    |bad=>rfl
    |ok o2=>cases o<;>rfl
theorem k9{f:PV->Res (Option PV)}:∀{xs ys:List PV},aP f xs=.ok ys->∀i,∃zs,aP f (xs.take i)=.ok zs/\zs.length<=i
 |_,_,_,0=>⟨[],by simp [aP],zzE _⟩
 |[],ys,h,i+1=>⟨[],by simp [aP],Nat.zero_le _⟩
 |x::xs,ys,h,i+1=>by
  simp! [aP] at h;obtain⟨o,ho,h⟩:=Res.aS h
  obtain⟨zs,hz,h⟩:=Res.aS h
  obtain⟨ws,hw,hl⟩:=k9 hz i
  refine⟨oc o ws,?_,?_⟩
  ·rw [List.take_succ_cons];simp! [aP];rw [ho];show((aP f (xs.take i)).bind λys=>.ok (oc o ys))=_
   rw [hw]
   rfl
  ·cases o with
   |none=>exact Nat.le_succ_of_le hl
   |some y=>exact Nat.succ_le_succ hl
def Eb{α:Type}{r:Res α}{a:α}(h:r.well=.ok a):r=.ok a:=by
 cases r with
 |ok b=>cases h;rfl
 |exc c=>cases h
 |bad=>cases h
def qD{f:PV->Res (Option PV)}{xs ys zs:List PV}{i:Nat}{x:PV}(h:aP f xs=.ok ys)(hx:xs[i]?=some x)(hz:aP f (xs.take i)=.ok zs):∃o,f x=.ok o/\aP f (xs.take (i+1))=.ok (zs++o.toList):=by
 have e:xs.take (i+1)=xs.take i++[x]:=by rw [List.take_add_one,hx];rfl
 obtain⟨ws,hw,_⟩:=k9 h (i+1)
 rw [e,ic,hz] at hw;obtain⟨o,ho,hw⟩:=Res.aS (show((f x).well.bind λo=>Res.ok (zs++o.toList))=.ok ws from hw)
 refine⟨o,Eb ho,?_⟩;rw [e,ic,hz];show((f x).well.bind λo=>Res.ok (zs++o.toList))=_
 rw [ho]
 rfl
def rj{H0 G H:Hp}{env:Sl}{σ:St}{aU:List Nat}{ys:List Str}(kk:Nat)(sr:SR W H0 env σ G H)(hs:aU.map (λi=>N[i]?)=ys.map some)(nd:ys.Nodup):SR W H0 (List.replicate kk .no++fM env aU) (List.replicate kk none++zG σ aU) G H:=by
 have S1:∀(i j:Nat) (a:Nat),aU[i]?=some a->aU[j]?=some a->i=j:=λi j a h1 h2=>by
  have e1:(ys.map some)[i]?=some (N[a]?):=by rw [<-hs,zzQ,h1];rfl
  have e2:(ys.map some)[j]?=some (N[a]?):=by rw [<-hs,zzQ,h2];rfl
  rw [zzQ] at e1 e2;obtain⟨y1,g1,q1⟩:=zzJ.mp e1
  obtain⟨y2,g2,q2⟩:=zzJ.mp e2
  have:y1=y2:=zzq (q1.trans q2.symm)
  subst this;exact lW nd g1 g2
 have inner:∀(j:Nat) (s:Slot),(List.replicate kk Slot.no++fM env aU)[j]?=some s->(j<kk/\s=.no)\/∃a,kk<=j/\aU[j-kk]?=some a/\s=env.getD a .no:=λj s e=>by
  by_cases hj:j<kk
  ·rw [zzr (by simpa using hj),List.getElem?_replicate,if_pos hj] at e;cases e;exact .inl ⟨hj,rfl⟩
  ·rw [zzs (by simpa using hj),List.length_replicate] at e;unfold fM at e;rw [zzQ] at e;obtain⟨a,ha,rfl⟩:=zzJ.mp e
   exact .inr ⟨a,by omega,ha,rfl⟩
 have val:∀(j a:Nat),kk<=j->aU[j-kk]?=some a->(List.replicate kk none++zG σ aU)[j]?=some ((σ[a]?).join):=λj a hj ha=>by
  rw [zzs (by simpa using hj),List.length_replicate];unfold zG;rw [zzQ,ha]
  rfl
 refine⟨by unfold fM zG;simp,sr.sub,sr.base,λj s e=>?_,λi j p q a e1 e2 e3 e4=>?_,sr.tab,sr.mK⟩
 ·rcases inner j s e with⟨hj,rfl⟩|⟨a,hj,ha,rfl⟩
  ·exact⟨none,by rw [zzr (by simpa using hj),List.getElem?_replicate,if_pos hj],trivial⟩
  ·refine⟨_,val j a hj ha,?_⟩;rw [zzK];cases e1:env[a]? with
   |none=>exact trivial
   |some s=>
    obtain⟨o,h1,h2⟩:=sr.slot a s e1
    rw [h1];exact h2
 ·rcases inner i _ e1 with⟨_,z⟩|⟨b,hi,hb,z1⟩
  ·cases z
  rcases inner j _ e2 with⟨_,z⟩|⟨c,hj,hc,z2⟩
  ·cases z
  rw [val i b hi hb] at e3;rw [val j c hj hc] at e4;have f1:env[b]?=some (.own p):=by
   rw [zzK] at z1;cases e:env[b]? with
   |none=>rw [e] at z1;cases z1
   |some s=>rw [e] at z1;exact congrArg some z1.symm
  have f2:env[c]?=some (.own q):=by
   rw [zzK] at z2;cases e:env[c]? with
   |none=>rw [e] at z2;cases z2
   |some s=>rw [e] at z2;exact congrArg some z2.symm
  have g1:σ[b]?=some (some (.ref a)):=Option.join_eq_some_iff.mp (zzq e3)
  have g2:σ[c]?=some (some (.ref a)):=Option.join_eq_some_iff.mp (zzq e4)
  have bc:=sr.apart b c p q a f1 f2 g1 g2
  subst bc;have:=S1 _ _ b hb hc
  omega
def jg{H0 G H:Hp}{kk:Nat}{rest ak:Sl}{σ:St}{tg:Tg}{p:PV}(cC:kW kk tg=true)(e:Tg.put tg p (List.replicate kk .no++rest)=.ok ak)(r:SR W H0 ak σ G H):SR W H0 (List.replicate kk .no++rest) σ G H:=by
 have key:∀(j:Nat) (s:Slot),(List.replicate kk Slot.no++rest)[j]?=some s->s≠.no->ak[j]?=some s:=λj s h hs=>by
  have Jo:¬j<kk:=λz=>by
   rw [zzr (by simpa using z),List.getElem?_replicate,if_pos z] at h;cases h;exact hs rfl
  unfold Tg.put at e;split at e
  ·cases e;unfold kW at cC;simp! [zzN] at cC;rw [zzS (by omega)];exact h
  ·cases e;unfold kW at cC;simp! [zza,zzN] at cC;rw [zzS (by omega),zzS (by omega)];exact h
  ·cases e
 have hlen:(List.replicate kk Slot.no++rest).length=σ.length:=by
  rw [<-r.len];unfold Tg.put at e;split at e<;>first|(cases e;simp;done)|(cases e;done)
 refine⟨hlen,r.sub,r.base,λj s h=>?_,λi j p q a e1 e2 e3 e4=>r.apart i j p q a (key i _ e1 (λz=>nomatch z)) (key j _ e2 (λz=>nomatch z)) e3 e4,r.tab,r.mK⟩
 by_cases hs:s=.no
 ·subst hs;have:j<σ.length:=by rw [<-hlen];exact(zzH.mp h).1
  exact⟨σ[j],zzg this,trivial⟩
 ·exact r.slot j s (key j s h hs)
variable{Γ:Pg}{F:aH}{k:Nat}
noncomputable def tN(W:Wd)(F:aH)(e:E):TE:=λσ H Q=>∃H0 G env,SR W H0 env σ G H/\∃p,aD F e env=.ok p/\∀v G' H',aB W G H G' H'->Got W H0 G' H' e p v->Q v H'
noncomputable def MM(W:Wd)(F:aH)(e:E):TT:=λσ H Q=>∃H0 G env,SR W H0 env σ G H/\∃b,aD F e env=.ok (.bl b)/\∀G' H',aB W G H G' H'->Q b H'
def uZ{e:E}(σ:St)(H:Hp)(Q:VK)(h:tN W F e σ H Q):tE X W F e σ H Q:=by
 obtain⟨H0,G,env,sr,p,e1,q⟩:=h
 exact⟨H0,G,env,sr,by rw [e1];exact q⟩
def Ay{e:E}(σ:St)(H:Hp)(Q:Bool->Hp->Prop)(h:MM W F e σ H Q):tT X W F e σ H Q:=by
 obtain⟨H0,G,env,sr,p,e1,q⟩:=h
 exact⟨H0,G,env,sr,by rw [e1];exact⟨p,rfl,q⟩⟩
def fg(C:dO Γ F W N sc k X){scope:Scope}{kk:Nat}{aU:List Nat}{xs:List Str}(h:lN N sc scope kk aU xs)(fp:List Addr)(s1:Shared)(H1:Hp)(A:Addr):dO Γ.Bp F W (xs++freeOf scope) (dq scope sc) k (bW X (xs++freeOf scope) scope (bH X.env (freeOf scope)) fp s1 H1 A):=
 ⟨rfl,ff C.eW,rfl,h.nd,C.K,C.mg,C.gs,C.bs,C.room,λf hf=>⟨(C.fns f hf).ex⟩,C.Ni,C.cls,C.xc,λq hq=>⟨(C.rX q hq).ex⟩,C.any,(λz=>nomatch z),(λz=>nomatch z),(λz=>nomatch z)⟩
def Hb{e:E}{p:Expr}(h:bb Γ N sc e p=true)(env:Env):∀x,foldedSetIterable p env x=pure x:=by
 intro x;cases p<;>first|rfl|(cases e<;>first|(exact bj h)|(rename_i q;cases q<;>exact bj h))
def iQ{tg:Expr}{it:I}{p:Expr}(h:xu Γ N sc tg it p=true)(env:Env):∀x,foldedSetIterable p env x=pure x:=by
 intro x;cases it with
 |seq e=>exact Hb h env x
 |qR e=>cases p<;>first|rfl|(exact bj h)
 |lF a b=>cases p<;>first|rfl|(exact bj h)
 |enum e=>cases p<;>first|rfl|(exact bj h)
def CW(W:Wd)(H0 G1 H1:Hp)(wa:Sl)(f:PV->Res (Option PV))(ps:List PV)(i:Nat)(ys:List V)(σ':St)(H':Hp):Prop:=
 i<=ps.length/\∃G',aB W G1 H1 G' H'/\SR W H0 wa σ' G' H'/\∃zs,aP f (ps.take i)=.ok zs/\zs.length<=i/\ai W G' zs ys
def vB(hK:W.K=X.K){kk:Nat}{aU:List Nat}{tg:Tg}{it:I}{elt:E}{ys:List Str}(cC:kW kk tg=true)(du:gA elt=true)(hs:aU.map (λi=>N[i]?)=ys.map some)(nd:ys.Nodup)(σ:St)(H:Hp)(Q:VK)(h:tF X W F (.comp kk aU tg it elt) σ H Q):
 AZ (tI X W F it) kk (gT X.K tg) (tN W F elt) aU σ H Q:=by
 obtain⟨H0,G,env,sr,o⟩:=h
 rw [aD] at o;refine⟨H0,G,env,sr,o.bind.imp λps kf J G1 H1 g1 gi=>?_⟩
 by_cases uw:¬ps.length<dF
 ·rw [if_neg uw] at kf;exact kf.elim
 have hl:=Decidable.not_not.mp uw
 rw [if_pos hl] at kf;generalize hf:(λx=>(tg.put x (List.replicate kk .no++fM env aU)).bind λak=>(aD F elt ak).bind λy=>Res.ok (some y))=f at kf
 cases hc:aP f ps with
 |bad=>rw [hc] at kf;exact kf.elim
 |exc c=>
  exfalso
  have:∀(l:List PV) (c:Str),aP f l≠.exc c:=λl=>by
   induction l with
   |nil=>intro c z;cases z
   |cons a l ih=>
    intro c z;simp! [aP] at z;rcases Res.dH z with z|⟨o1,_,z⟩
    ·cases e:f a with
     |ok _=>rw [e] at z;cases z
     |exc _=>rw [e] at z;cases z
     |bad=>rw [e] at z;cases z
    ·rcases Res.dH z with z|⟨o2,_,z⟩
     ·exact ih c z
     ·cases z
  exact this _ _ hc
 |ok all=>
  rw [hc] at kf;obtain⟨xs,e1,fin⟩:=kf
  cases e1;have bL:=sr.grow g1
  refine⟨ps.length,CW W H0 G1 H1 (List.replicate kk .no++fM env aU) f ps,⟨Nat.zero_le _,G1,.refl g1.sub,rj kk bL hs nd,[],rfl,zzE _,.nil⟩,?_⟩
  rintro i made σ' H' ⟨hi,G',g',sr',zs,hz,J4,l⟩
  refine⟨by rw [l.length];exact zzV (zzU J4 hi) (zzW hl (by decide)),?_⟩;obtain⟨ist,igo⟩:=gi.any i G' H' g'.g g'.h g'.sub
  by_cases hlast:i=ps.length
  ·refine .inl ⟨ist hlast,λp hp=>?_⟩
   rw [hlast,List.take_length,hc] at hz;cases hz;exact fin p made G' H' (g1.trans g') hp l
  ·have mS:i<ps.length:=by omega
   obtain⟨hgo,hyld⟩:=igo ps[i] (zzg mS)
   refine .inr ⟨hgo,mS,λx mz hy=>?_⟩
   obtain⟨vD,g'',rx⟩:=hyld x mz hy
   obtain⟨o1,ho,hnext⟩:=qD hc (zzg mS) hz
   rw [<-hf] at ho;obtain⟨ak,xV,ho⟩:=Res.aS ho
   obtain⟨y,Ic,ho⟩:=Res.aS ho
   cases ho;refine oY hK xV (sr'.grow g'') rx λσ2 eY=>⟨H0,vD,ak,eY,y,Ic,λv G3 H3 g3 t=>?_⟩
   refine⟨mS,G3,g'.trans (g''.trans g3),(jg cC xV eY).grow g3,_,hnext,?_,?_⟩
   ·rw [zzM];show zs.length+1<=i+1;omega
   ·exact(ai.same (g''.trans g3).g zs l).append (.cons (t.rep du) .nil)
def mW(hK:W.K=X.K){kk:Nat}{aU:List Nat}{tg:Tg}{it:I}{c elt:E}{ys:List Str}(cC:kW kk tg=true)(du:gA elt=true)(hs:aU.map (λi=>N[i]?)=ys.map some)(nd:ys.Nodup)(σ:St)(H:Hp)(Q:VK)(h:tF X W F (.bT kk aU tg it c elt) σ H Q):
 jZ (tI X W F it) kk (gT X.K tg) (MM W F c) (tN W F elt) aU σ H Q:=by
 obtain⟨H0,G,env,sr,o⟩:=h
 rw [aD] at o;refine⟨H0,G,env,sr,o.bind.imp λps kf J G1 H1 g1 gi=>?_⟩
 by_cases uw:¬ps.length<dF
 ·rw [if_neg uw] at kf;exact kf.elim
 have hl:=Decidable.not_not.mp uw
 rw [if_pos hl] at kf;generalize hf:(λx=>(tg.put x (List.replicate kk .no++fM env aU)).bind λak=>(aD F c ak).bind λt=>nL t λt=>if t then(aD F elt ak).bind λy=>Res.ok (some y) else .ok none)=f at kf
 cases hc:aP f ps with
 |bad=>rw [hc] at kf;exact kf.elim
 |exc c=>
  exfalso
  have:∀(l:List PV) (c:Str),aP f l≠.exc c:=λl=>by
   induction l with
   |nil=>intro c z;cases z
   |cons a l ih=>
    intro c z;simp! [aP] at z;rcases Res.dH z with z|⟨o1,_,z⟩
    ·cases e:f a with
     |ok _=>rw [e] at z;cases z
     |exc _=>rw [e] at z;cases z
     |bad=>rw [e] at z;cases z
    ·rcases Res.dH z with z|⟨o2,_,z⟩
     ·exact ih c z
     ·cases z
  exact this _ _ hc
 |ok all=>
  rw [hc] at kf;obtain⟨xs,e1,fin⟩:=kf
  cases e1;have bL:=sr.grow g1
  refine⟨ps.length,CW W H0 G1 H1 (List.replicate kk .no++fM env aU) f ps,⟨Nat.zero_le _,G1,.refl g1.sub,rj kk bL hs nd,[],rfl,zzE _,.nil⟩,?_⟩
  rintro i made σ' H' ⟨hi,G',g',sr',zs,hz,J4,l⟩
  refine⟨by rw [l.length];exact zzV (zzU J4 hi) (zzW hl (by decide)),?_⟩;obtain⟨ist,igo⟩:=gi.any i G' H' g'.g g'.h g'.sub
  by_cases hlast:i=ps.length
  ·refine .inl ⟨ist hlast,λp hp=>?_⟩
   rw [hlast,List.take_length,hc] at hz;cases hz;exact fin p made G' H' (g1.trans g') hp l
  ·have mS:i<ps.length:=by omega
   obtain⟨hgo,hyld⟩:=igo ps[i] (zzg mS)
   refine .inr ⟨hgo,mS,λx mz hy=>?_⟩
   obtain⟨vD,g'',rx⟩:=hyld x mz hy
   obtain⟨o1,ho,hnext⟩:=qD hc (zzg mS) hz
   rw [<-hf] at ho;obtain⟨ak,xV,ho⟩:=Res.aS ho
   obtain⟨t,ht,ho⟩:=Res.aS ho
   obtain⟨b,rfl⟩:∃b,t=.bl b:=by
    cases t<;>first|exact⟨_,rfl⟩|(cases ho)
   refine oY hK xV (sr'.grow g'') rx λσ2 eY=>⟨H0,vD,ak,eY,b,ht,λG3 H3 g3=>?_⟩
   have iF:(if b=true then(aD F elt ak).bind λy=>Res.ok (some y) else .ok none)=Res.ok o1:=ho
   cases b with
   |true=>
    rw [if_pos rfl] at iF;refine PN ?_;obtain⟨y,Ic,iF⟩:=Res.aS iF
    cases iF;refine⟨H0,G3,ak,eY.grow g3,y,Ic,λv G4 H4 g4 t4=>?_⟩
    refine⟨mS,G4,g'.trans (g''.trans (g3.trans g4)),(jg cC xV eY).grow (g3.trans g4),_,hnext,?_,?_⟩
    ·rw [zzM];show zs.length+1<=i+1;omega
    ·exact(ai.same (g''.trans (g3.trans g4)).g zs l).append (.cons (t4.rep du) .nil)
   |false=>
    rw [if_neg zzf] at iF;refine Pa ?_;cases iF;refine⟨mS,G3,g'.trans (g''.trans g3),(jg cC xV eY).grow g3,_,hnext,?_,?_⟩
    ·rw [zzM];show zs.length+0<=i+1;omega
    ·show ai W G3 (zs++[]) made
     rw [zz6];exact ai.same (g''.trans g3).g zs l
def uR(C:dO Γ F W N sc k X){kk:Nat}{aU:List Nat}{tg:Tg}{it:I}{elt:E}{cE f6 eU:Expr}{scope:Scope}{pos:Pos}(h:lN N sc scope kk aU (aF cE))(cC:kW kk tg=true)(du:gA elt=true)(hi:GI X W F cE it f6)(rX:∀x,foldedSetIterable f6 X.env x=pure x)
 (xa:fR (aF cE++freeOf scope) (dq scope sc) (lD scope) tg cE=true) (he:∀Y,dO Γ.Bp F W (aF cE++freeOf scope) (dq scope sc) k Y->GE Y W F elt eU):GF X W F (.comp kk aU tg it elt) (.ListComp eU [⟨cE,f6,[],0⟩] scope pos):=by
 intro ae s σ H Q I hq;have Hj:(freeOf scope).Nodup:=(List.nodup_append.mp h.nd).2.1
 have rd:=vB (N:=N) C.K cC du h.slots Hj σ H Q hq
 have:=DU (g:=gT X.K tg) (te:=tN W F elt) (xs:=aF cE) (ys:=freeOf scope) (is:=aU) (pos:=pos) C.calm (oF C.hN C.eW I.ok h) hi
  (λfp s1 H1 A=>vP (fn:=lD scope) (X:=bW X (aF cE++freeOf scope) scope (bH X.env (freeOf scope)) fp s1 H1 A) rfl h.nd (ff C.eW) rfl (λ_ z=>z) xa)
  (λfp s1 H1 A=>L2.PE.imp (he _ (fg C h fp s1 H1 A)) λσ H Q z=>uZ σ H Q z) rX ae s σ H Q I
 rw [h.len] at this;exact this rd
def nO(C:dO Γ F W N sc k X){kk:Nat}{aU:List Nat}{tg:Tg}{it:I}{c elt:E}{cE f6 pc eU:Expr}{scope:Scope}{pos:Pos}(h:lN N sc scope kk aU (aF cE))(cC:kW kk tg=true)(du:gA elt=true)(hi:GI X W F cE it f6)(rX:∀x,foldedSetIterable f6 X.env x=pure x)
 (xa:fR (aF cE++freeOf scope) (dq scope sc) (lD scope) tg cE=true) (hc:∀Y,dO Γ.Bp F W (aF cE++freeOf scope) (dq scope sc) k Y->GT Y W F c pc) (he:∀Y,dO Γ.Bp F W (aF cE++freeOf scope) (dq scope sc) k Y->GE Y W F elt eU):
 GF X W F (.bT kk aU tg it c elt) (.ListComp eU [⟨cE,f6,[pc],0⟩] scope pos):=by
 intro ae s σ H Q I hq;have Hj:(freeOf scope).Nodup:=(List.nodup_append.mp h.nd).2.1
 have rd:=mW (N:=N) C.K cC du h.slots Hj σ H Q hq
 have:=vR (g:=gT X.K tg) (tt:=MM W F c) (te:=tN W F elt) (xs:=aF cE) (ys:=freeOf scope) (is:=aU) (pos:=pos) C.calm (oF C.hN C.eW I.ok h) hi
  (λfp s1 H1 A=>vP (fn:=lD scope) (X:=bW X (aF cE++freeOf scope) scope (bH X.env (freeOf scope)) fp s1 H1 A) rfl h.nd (ff C.eW) rfl (λ_ z=>z) xa)
  (λfp s1 H1 A=>L2.PT.imp (hc _ (fg C h fp s1 H1 A)) λσ H Q z=>Ay σ H Q z)
  (λfp s1 H1 A=>L2.PE.imp (he _ (fg C h fp s1 H1 A)) λσ H Q z=>uZ σ H Q z) rX ae s σ H Q I
 rw [h.len] at this;exact this rd
variable{Z:List (Addr×Obj)}{G H:Hp}
mutual
theorem Rep.less(zs:∀b o,Z.lookup b=some o->G b=some (.bp o bF)):∀(p:PV) {v:V},Rep W G p v->Rep W (aV Z G) p v
 |.aC,_,h=>by simpa only [Rep] using h
 |.bl b,_,h=>by simpa only [Rep] using h
 |.int i,_,h=>by simpa only [Rep] using h
 |.str z,_,h=>by simpa only [Rep] using h
 |.tup xs,_,h=>by
  simp! [Rep] at h⊢;obtain⟨a,vs,e,q,l⟩:=h
  refine⟨a,vs,e,?_,ai.less zs xs l⟩;rcases q with q|⟨(q|⟨o,q⟩)|q,z⟩
  ·cases y:Z.lookup a with
   |none=>exact .inl (by rw [ay y];exact q)
   |some o'=>rw [zs a o' y] at q;cases q
  ·cases y:Z.lookup a with
   |none=>exact .inl (by rw [ay y];exact q)
   |some o'=>rw [zs a o' y] at q;cases q
  ·cases y:Z.lookup a with
   |none=>exact .inr ⟨.inl (.inr ⟨o,by rw [ay y];exact q⟩),z⟩
   |some o'=>rw [zs a o' y] at q;cases q
  ·exact .inr ⟨.inr q,z⟩
 |.lst xs,_,h=>by
  simp! [Rep] at h⊢;obtain⟨a,vs,e,q,l⟩:=h
  refine⟨a,vs,e,?_,ai.less zs xs l⟩;rcases q with(q|⟨o,q⟩)|q
  ·cases y:Z.lookup a with
   |none=>exact .inl (.inl (by rw [ay y];exact q))
   |some o'=>rw [zs a o' y] at q;cases q
  ·cases y:Z.lookup a with
   |none=>exact .inl (.inr ⟨o,by rw [ay y];exact q⟩)
   |some o'=>rw [zs a o' y] at q;cases q
  ·exact .inr q
 |.exc c,_,h=>by
  simp! [Rep] at h⊢;obtain⟨a,C,e,x,m,q⟩:=h
  cases y:Z.lookup a with
  |none=>exact⟨a,C,e,x,m,by rw [ay y];exact q⟩
  |some o'=>
   rw [zs a o' y] at q;unfold Ku at q;cases q
 |.bw ks vs,_,h=>by
  simp! [Rep] at h⊢;obtain⟨a,o,us,e,n,m,l⟩:=h
  refine⟨a,o,us,e,n,?_,ai.less zs vs l⟩;cases y:Z.lookup a with
  |none=>rw [ay y];exact m
  |some o'=>rw [zs a o' y] at m;cases m
theorem ai.less(zs:∀b o,Z.lookup b=some o->G b=some (.bp o bF)):∀(ps:List PV) {vs:List V},ai W G ps vs->ai W (aV Z G) ps vs
 |[],_,h=>by simpa only [ai] using h
 |p::ps,_,h=>by
  simp! [ai] at h⊢;obtain⟨v,r,e,h1,h2⟩:=h
  exact⟨v,r,e,Rep.less zs p h1,ai.less zs ps h2⟩
end
theorem lh(t:cK W G H)(sg:aA G H)(zs:∀b o,Z.lookup b=some o->G b=some (.bp o bF))(zc:∀b o,Z.lookup b=some o->∃v,o.data=.cell v):cK W (aV Z G) (aV Z H):=λP q m=>by
 obtain⟨n,ps,e,tr,al⟩:=t P q m
 refine⟨ie n,ps,?_,tr,λpos cv y=>?_⟩
 ·cases y:Z.lookup P with
  |none=>rw [ay y];exact e
  |some o=>rw [sg _ _ (zs P o y)] at e;cases e
 ·obtain⟨c',oc,df,t',e1,e2,e3,e4⟩:=al pos cv y
  refine⟨c',oc,df,t',e1,?_,e3,e4⟩;cases y:Z.lookup c' with
  |none=>rw [ay y];exact e2
  |some o=>
   rw [zs c' o y] at e2;cases e2;obtain⟨v,hv⟩:=zc c' _ y
   rw [e3] at hv;cases hv
theorem aB.wz{G3 H3:Hp}(g:aB W (aV Z G) (aV Z H) G3 H3)(sg:aA G H)(zs:∀b o,Z.lookup b=some o->G b=some (.bp o bF))(zc:∀b o,Z.lookup b=some o->∃v,o.data=.cell v)(zn:∀b o,Z.lookup b=some o->H3 b=none):aB W G H (aM Z G3) (aM Z H3) where
 g:=λb u e=>by
  cases y:Z.lookup b with
  |none=>rw [ah y];exact g.g _ _ (by rw [ay y];exact e)
  |some o=>rw [aX y];rw [zs b o y] at e;exact e
 h:=λb u e=>by
  cases y:Z.lookup b with
  |none=>rw [ah y];exact g.h _ _ (by rw [ay y];exact e)
  |some o=>
   rw [sg _ _ (zs b o y)] at e;cases e;exact .inl ⟨(λ_ z=>nomatch z),aX y⟩
 sub:=λb u e=>by
  cases y:Z.lookup b with
  |none=>rw [ah y] at e⊢;exact g.sub _ _ e
  |some o=>rw [aX y] at e⊢;exact e
 own:=λa h1 h3 h2=>by
  cases y:Z.lookup a with
  |none=>rw [ah y];exact g.own a (by rw [ay y];exact h1) (by rw [ay y];exact h3) (by rw [ay y];exact h2)
  |some o=>rw [zs a o y] at h2;cases h2
 tab:=λt P q m=>by
  obtain⟨n,ps,e,tr,al⟩:=g.tab (lh t sg zs zc) P q m
  refine⟨?_,ps,?_,tr,λpos cv y=>?_⟩
  ·cases y:Z.lookup P with
   |none=>rw [ah y];exact n
   |some o=>rw [zn P o y] at e;cases e
  ·cases y:Z.lookup P with
   |none=>rw [ah y];exact e
   |some o=>rw [zn P o y] at e;cases e
  ·obtain⟨c',oc,df,t',e1,e2,e3,e4⟩:=al pos cv y
   refine⟨c',oc,df,t',e1,?_,e3,e4⟩;cases y:Z.lookup c' with
   |none=>rw [ah y];exact e2
   |some o=>have:=g.sub _ _ e2;rw [zn c' o y] at this;cases this
theorem qt(t:cK W G H)(sg:aA G H)(zn:∀b o,Z.lookup b=some o->H b=none):cK W (aM Z G) (aM Z H):=λP q m=>by
 obtain⟨n,ps,e,tr,al⟩:=t P q m
 refine⟨?_,ps,?_,tr,λpos cv y=>?_⟩
 ·cases y:Z.lookup P with
  |none=>rw [ah y];exact n
  |some o=>rw [zn P o y] at e;cases e
 ·cases y:Z.lookup P with
  |none=>rw [ah y];exact e
  |some o=>rw [zn P o y] at e;cases e
 ·obtain⟨c',oc,df,t',e1,e2,e3,e4⟩:=al pos cv y
  refine⟨c',oc,df,t',e1,?_,e3,e4⟩;cases y:Z.lookup c' with
  |none=>rw [ah y];exact e2
  |some o=>have:=sg _ _ e2;rw [zn c' o y] at this;cases this
theorem aB.lz{G' H':Hp}(g:aB W (aM Z G) (aM Z H) G' H')(sg:aA G H)(zc:∀b o,Z.lookup b=some o->∃v,o.data=.cell v)(zn:∀b o,Z.lookup b=some o->H b=none):aB W G H (aV Z G') (aV Z H') where
 g:=λb u e=>by
  cases y:Z.lookup b with
  |none=>rw [ay y];exact g.g _ _ (by rw [ah y];exact e)
  |some o=>have:=sg _ _ e;rw [zn b o y] at this;cases this
 h:=λb u e=>by
  cases y:Z.lookup b with
  |none=>rw [ay y];exact g.h _ _ (by rw [ah y];exact e)
  |some o=>rw [zn b o y] at e;cases e
 sub:=λb u e=>by
  obtain⟨q,e1⟩:=eo e
  rw [ay q];exact g.sub _ _ e1
 own:=λa h1 h3 h2=>by
  cases y:Z.lookup a with
  |none=>rw [ay y];exact g.own a (by rw [ah y];exact h1) (by rw [ah y];exact h3) (by rw [ah y];exact h2)
  |some o=>exact fj y
 tab:=λt=>lh (g.tab (qt t sg zn)) g.sub (λb o q=>g.g _ _ (aX q)) zc
def v8(sg:aA G H):aA (aM Z G) (aM Z H):=λb u e=>by
 cases y:Z.lookup b with
 |none=>rw [ah y] at e⊢;exact sg _ _ e
 |some o=>rw [aX y] at e⊢;exact e
theorem uc{G3 H3:Hp}(s:aA G3 H3)(zn:∀b o,Z.lookup b=some o->H3 b=none):aA G3 (aM Z G3):=λb u e=>by
 cases y:Z.lookup b with
 |none=>rw [ah y];exact e
 |some o=>have:=s _ _ e;rw [zn b o y] at this;cases this
def rN(zs:∀b o,Z.lookup b=some o->H b=some (.bp o bF)):aM Z (aV Z H)=H:=by
 funext b
 cases y:Z.lookup b with
 |none=>rw [ah y,ay y]
 |some o=>rw [aX y,zs b o y]
def qo(zs:∀b o,Z.lookup b=some o->H b=none):aV Z (aM Z H)=H:=by
 funext b
 cases y:Z.lookup b with
 |none=>rw [ay y,ah y]
 |some o=>rw [fj y,zs b o y]
theorem y9{P:Program}{w:World}{h:Heap}(k:eA P w H h)(zs:∀b o,Z.lookup b=some o->H b=some (.bp o bF)):eA P w (aV Z H) h:=λb v e=>by
 obtain⟨q,e1⟩:=eo e
 refine(k b v e1).eP (λc y _ r=>r) (λc r=>?_) λc xs r=>?_
 ·cases y:Z.lookup c with
  |none=>rw [ay y];exact r
  |some o=>rw [zs c o y] at r;cases r
 ·cases y:Z.lookup c with
  |none=>rw [ay y];exact r
  |some o=>rw [zs c o y] at r;cases r
def wO{P:Program}{w:World}{K:zz8}{mg:Str->Option Value}{base:Heap}{A:Around}{outer:List Env}{s:Shared}(e:iP P w K mg base A outer s H)(zs:∀b o,Z.lookup b=some o->H b=some (.bp o bF)):iP P w K mg base A outer s (aV Z H):=
 ⟨e.frames,e.mod,λb o q=>⟨(e.bs b o q).1,ie (e.bs b o q).2⟩,e.wI,e.gk,λb hb=>ie (e.xH b hb),y9 e.aL zs,e.bare⟩
def Av{ps:List Str}{scope:Scope}(h:M9 ps scope=true):qv ps (aZ scope) scope:=by
 unfold M9 at h;simp! [zza,zzy,Bool.not_eq_true',zzN,zzT] at h;obtain⟨⟨⟨⟨⟨⟨h1,h2⟩,h3⟩,h4⟩,h5⟩,h6⟩,h7⟩:=h
 refine⟨h1,h2,h3,h4,h5,h6,h7,λx hx=>?_⟩
 unfold aZ;rw [List.mem_reverse,zzx];exact⟨(x,.free),List.mem_filter.mpr ⟨PySem.mem_of_lookup hx,rfl⟩,rfl⟩
def vJ{params:Arguments}{ps:List Str}{qual:Str}{body:Expr}{scope:Scope}{cl:List (Str×Addr)}{pm fU ct:Value}(h:p7 params=some ps)(us:List Value)(hl:us.length=ps.length):bindArgs (PySem.W.kla_fn "<lambda>" qual params body scope cl pm fU ct) ⟨us,[]⟩=pure (ps.zip us):=by
 rcases vc h with⟨rfl,rfl⟩|⟨a,rfl,rfl⟩
 ·match us,hl with
  |[],_=>rfl
 ·match us,hl with
  |[u],_=>
   simp [bindArgs,seqItems?,PySem.W.kla_fn]
   rfl
def EZ{params:Arguments}{ps:List Str}{env:Env}(h:p7 params=some ps):defaultsOf params env=([],[]):=by
 rcases vc h with⟨rfl,rfl⟩|⟨a,rfl,rfl⟩
 ·rfl
 ·rfl
theorem nB:∀{idx:List Nat} {l qs:List PV} {us:List V},fw l idx=.ok qs->ai W G l us->∃vs:List V,ai W G qs vs/\vs.length=idx.length/\∀(j i:Nat),idx[j]?=some i->∃v,us[i]?=some v/\vs[j]?=some v
 |[],l,qs,us,h,r=>by
  unfold fw at h;cases h;exact⟨[],.nil,rfl,λj i e=>by simp at e⟩
 |i::idx,l,qs,us,h,r=>by
  unfold fw at h;obtain⟨p,hp,h⟩:=Res.aS h
  obtain⟨ps,kf,h⟩:=Res.aS h
  cases h;obtain⟨v,hv,rv⟩:=r.p8 (Res.of_ok hp)
  obtain⟨vs,l1,l2,l3⟩:=nB kf r
  refine⟨v::vs,.cons rv l1,by simp [l2],λj k e=>?_⟩
  cases j with
  |zero=>simp at e;subst e;exact⟨v,hv,rfl⟩
  |succ j=>simpa using l3 j k (by simpa using e)
theorem jn{l:List PV}(c:Str):∀{idx:List Nat},fw l idx≠.exc c
 |[]=>λz=>nomatch z
 |i::idx=>λz=>by
  unfold fw at z;rcases Res.dH z with z|⟨p,_,z⟩
  ·exact Res.aO c z
  ·rcases Res.dH z with z|⟨ps,_,z⟩
   ·exact jn c z
   ·cases z
end
def zZ(idx:List Nat):TA:=λσ H Q=>∃vs:List V,vs.length=idx.length/\(∀(j i:Nat),idx[j]?=some i->∃v,σ[i]?=some (some v)/\vs[j]?=some v)/\Q vs H
def rQ{a:Expr}{as:List Expr}{xs:List (Option Str)}(h:eR (a::as) xs=true):∃x np,a=.Name x np/\∃LJ,eR as LJ=true:=by
 cases xs with
 |nil=>cases a<;>exact bj h
 |cons y ys=>
  cases y with
  |none=>cases a<;>exact bj h
  |some y=>
   cases a with
   |Name x np=>exact⟨x,np,rfl,ys,(Bool.and_eq_true_iff.mp h).2⟩
   |_=>exact bj h
theorem mj{env:Env}:∀{as:List Expr} {xs:List (Option Str)} {pos:Pos},eR as xs=true->(backTo pos (starEach as env)).any (·.1)=false
 |[],_,_,_=>rfl
 |a::as,xs,pos,h=>by
  obtain⟨x,np,rfl,LJ,h2⟩:=rQ h
  show(false||(backTo pos (starEach as env)).any (·.1))=false
  rw [mj h2]
  rfl
theorem rJ{X:Cx}(hv:∀(i:Nat) (x:Str),X.N[i]?=some x->La X.env.scope x):∀{as:List Expr} {idx:List Nat},eR as (idx.map λi=>X.N[i]?)=true->PA X as (zZ idx)
 |[],[],_=>L2.PA.imp dY λσ H Q h=>by
  obtain⟨vs,h1,_,h3⟩:=h
  cases vs with
  |nil=>exact h3
  |cons _ _=>simp at h1
 |a::as,i::idx,h=>by
  rw [zzF] at h;cases e:X.N[i]? with
  |none=>rw [e] at h;cases a<;>exact bj h
  |some y=>
   rw [e] at h;cases a<;>first|(exact bj h)|skip
   rename_i x np;unfold eR at h;rw [zza,zza] at h;have PD:=zzy.mp h.1.1
   subst PD;have QD:(x==("__debug__":Str))=false/\(x==("__classdict__":Str))=false:=by
    have h2:=h.1.2
    unfold okN at h2;simp! [zza,Bool.not_eq_true'] at h2;exact⟨h2.1.1,h2.1.2⟩
   refine L2.PA.imp (cB (eX (i:=i) e (hv i x e) QD.1 QD.2) (rJ hv h.2) rfl) λσ H Q hq=>?_
   obtain⟨vs,h1,h2,h3⟩:=hq
   cases vs with
   |nil=>simp at h1
   |cons v vs=>
    obtain⟨v',hv1,hv2⟩:=h2 0 i rfl
    simp at hv2;subst hv2;exact⟨v,hv1,vs,by simpa using h1,λj k ej=>by simpa using h2 (j+1) k (by simpa using ej),h3⟩
 |[],_::_,h=>by cases h
 |a::_,[],h=>by cases a<;>cases h
section
variable{Γ:Pg}{X:Cx}{W:Wd}{F:aH}{N:List Str}{sc:Scope}{k:Nat}
def uT{g:Str}{idx:List Nat}{params:Arguments}{body:Expr}{scope:Scope}(h:Cg g idx params body scope=true):∃ps a as np pos,p7 params=some ps/\idx.head?=some ps.length/\body=.Call (.Name g np) (a::as) [] pos/\scope.names.lookup g=some .globalImplicit/\okN g=true/\gf g=false/\eR (a::as) (idx.tail.map λi=>(ps++aZ scope)[i]?)=true/\qv ps (aZ scope) scope:=by
 obtain⟨ps,e1,h⟩:=zN h
 obtain⟨⟨f,args,kws,pos⟩,e2,h⟩:=zN h
 simp! [zza,zzy,Bool.not_eq_true',zzN] at h;obtain⟨⟨⟨⟨⟨⟨⟨⟨h1,h7⟩,h8⟩,h0⟩,h2⟩,h3⟩,h4⟩,h5⟩,h6⟩:=h
 obtain⟨np,z1⟩:=b9 h1
 have z7:=List.isEmpty_iff.1 h7
 try dsimp only at z1 z7
 subst z1 z7;cases args with
 |nil=>cases h8
 |cons a as=>exact⟨ps,a,as,np,pos,e1,h0,jb e2,h2,h3,h4,h5,Av h6⟩
def ug{a:Expr}{as:List Expr}{xs:List (Option Str)}{env:Env}(h:eR (a::as) xs=true):∃x np,a=.Name x np/\∃LJ,eR as LJ=true:=rQ h
def Dq(C:dO Γ F W N sc k X){g:Str}{idx:List Nat}{cX as qs:List PV}{f:Addr}{ae:List (Addr×Obj)}{σ:St}{G H:Hp}{s:Shared}{Q:VK}{us:List Value}{vs:List V}
 (I:Inv X ae σ H s) (sg:aA G H) (tb:cK W G H) (cr:oB W G g idx cX (.ref f)) (l:ai W G as vs) (r:Vals vs us) (hn:idx.head?=some as.length) (hq:fw (as++cX) idx.tail=.ok qs)
 (o:Out X W (F g qs) σ G H λp=>dj W G H p Q):wpAny (model X.prog X.w) X.A (call (.ref f) us) (EP X ae σ Q) X.xe s:=by
 obtain⟨f',c',oc,df,t,fJ,pm,params,body,scope,qual,cl,Z,ws,e,d⟩:=cr
 cases e;obtain⟨ps,a,as',np,pos,e1,e0,rfl,e2,e3,e4,e5,S⟩:=uT d.lg
 have zd:F g qs≠.bad:=λz=>by rw [z] at o;exact o
 have hlen:as.length=ps.length:=zzq (hn.symm.trans e0)
 have Ly:∀b o,Z.lookup b=some o->H b=some (.bp o bF):=λb o q=>sg _ _ (d.zs b o q)
 have RW:aM Z (aV Z H)=H:=rN Ly
 have Dl:sy Z (aV Z H) (eO X.stack) s.heap:=⟨λb o q=>(I.aL b _ (Ly b o q)).1,λb o q=>fj q,λb o q hb=>by have:=I.j4 b hb;rw [Ly b o q] at this;cases this⟩
 have rl:ai W (aV Z G) (as++cX) (vs++ws):=(ai.less d.zs as l).append d.rep
 obtain⟨ys,ry,ly,py⟩:=nB hq rl
 have rX:Γ.fs.contains g=true:=by
  rcases C.any g qs zd with z|z
  ·exact z
  ·rw [e4] at z;cases z
 obtain⟨fa,fd,pn,FO,hm,hk,hb,hal⟩:=(C.fns g rX).ex
 have RL:aA (aV Z G) (aV Z H):=nu sg
 refine wpAny_call (codeAny_mono (L2.uJ (E:=λCv ao H'=>∃c,F g qs=.exc c/\XE W c G H Cv ao H') (Q:=Q) (Z:=Z) (ws:=ws) (vs:=vs) (t:=λσ' H1 Q1=>H1=aV Z H/\zZ idx.tail σ' H1 λzs H2=>H2=H1/\zs=ys/\∀u H3,(match F g qs with
  |.ok p=>∃G3,aB W (aV Z G) (aV Z H) G3 H3/\Rep W G3 p u
  |_=>False)->Q1 u H3) S C.room (wO I.wa Ly) Dl ?zb (I.aL _ _ (sg _ _ d.fo)).1 (I.aL _ _ (sg _ _ d.co)).1 d.cd d.cn (vJ e1 us (by rw [<-r.length,l.length,hlen])) r (by rw [l.length,hlen]) d.len d.has d.inj d.cells ?cells ?ht ?hq) λrr s' hr=>?end_)
 case zb=>
  intro b o q;cases y:X.base.get? b with
  |none=>rfl
  |some o'=>have:=(I.bs b o' y).2;rw [Ly b o q] at this;cases this
 case cells=>
  intro i y c h1 h2 v h3;obtain⟨u,o',q1,q2,q3⟩:=d.vals i y c h1 h2 v h3
  exact⟨u,q1,o',Dl.at_ c o' q2,q3⟩
 case hq=>
  refine⟨rfl,ys,ly,λj i ej=>?_,rfl,rfl,λu H3 h3 zn=>?_⟩
  ·obtain⟨v,h1,h2⟩:=py j i ej
   refine⟨v,?_,h2⟩;rw [<-List.map_append,zzQ,h1]
   rfl
  ·cases z:F g qs with
   |ok p=>
    rw [z] at h3 o;obtain⟨G3,g3,r3⟩:=h3
    exact o u _ _ (g3.wz sg d.zs d.zc zn) (Rep.same (uc g3.sub zn) p r3)
   |exc c=>rw [z] at h3;exact h3.elim
   |bad=>exact absurd z zd
 case ht=>
  intro u0 s1 σ' H1 Q1 I1 h1;obtain⟨rfl,h1⟩:=h1
  obtain⟨x0,np0,rfl,LJ,hrest⟩:=ug (env:=X.env) e5
  refine wpAny_Call_Name_kw (gX (X:=E7 X.prog X.w X.K X.mg X.base (ps++aZ scope) qual scope f (.ref c') cl X.A X.stack s (aV Z H) _) I1 e2 hm ?_ (dn e3).1);refine PySem.W.callWith_K (h₀:=X.base) I.ok.mod.Kp hk (bI (rJ (X:=E7 X.prog X.w X.K X.mg X.base (ps++aZ scope) qual scope f (.ref c') cl X.A X.stack s (aV Z H) _) (λi x hx=>?_) e5 pos u0 s1 σ' _ _ I1 h1) λus2 s2 ⟨vs2,H2,I2,r2,q2⟩=>⟨I2.ql,?_⟩) rfl (mj hrest)
  ·rcases List.mem_append.mp (zzD hx) with z|z
   ·exact .inl (S.par x z)
   ·exact .inr (.inr (S.O6 x z))
  ·obtain⟨rfl,rfl,q2⟩:=q2
   refine lx (X:=E7 X.prog X.w X.K X.mg X.base (ps++aZ scope) qual scope f (.ref c') cl X.A X.stack s (aV Z H) _) (q:=none) (as:=qs) (G:=aV Z G) (C.room.deeper _) FO hb (λz=>by rw [ry.length];exact hal qs z) I2 RL (lh tb sg d.zs d.zc) ry r2 ?_;cases z:F g qs with
   |ok p=>
    rw [z] at q2;exact λv G' H' g' rp=>q2 v H' ⟨G',g',rp⟩
   |exc c=>
    intro pins3 G3 H3 s3 e s' I3 g3 x3;refine KP pins3 σ' H3 s3 e s' I3 (ER.imp x3 λCv ao H' y zn=>?_);obtain⟨C4,a4,G4,y1,y2,y3,y4,y5⟩:=y
    exact⟨c,rfl,C4,a4,_,y1,y2,y3,y4,(g3.trans y5).wz sg d.zs d.zc zn⟩
   |bad=>exact absurd z zd
 case end_=>
  rw [RW] at hr;cases rr with
  |error e=>
   have hr:dR X.prog X.w X.stack H s (λCv ao H'=>∃c,F g qs=.exc c/\XE W c G H Cv ao H') e s':=hr
   cases z:F g qs with
   |ok q=>
    obtain⟨a,C',t,vs,H',B,rfl,Fl⟩:=hr
    obtain⟨c,e1,_⟩:=Fl.ends
    rw [z] at e1;cases e1
   |exc c=>
    rw [z] at o;refine o ae G H s e s' I (.refl sg) (ER.imp hr λC1 a H' y=>?_);obtain⟨c',e1,y⟩:=y
    rw [z] at e1;cases e1;exact y
   |bad=>exact absurd z zd
  |ok fl=>
   cases fl with
   |ret u=>exact I.after hr
   |next=>exact zzk hr
   |brk=>exact zzk hr
   |cont=>exact zzk hr
def AS(C:dO Γ F W N sc k X){i:Nat}{x:Str}{e:E}{es:Es}{p:Expr}{ps:List Expr}{np pos:Pos}(h:(N[i]?==some x&&d6 sc x&&okN x)=true)(A6:g8 (.cons e es)=true)(ha:GA X W F (.cons e es) (p::ps))
 (ez:starEach (p::ps) X.env=(false,eval p X.env)::starEach ps X.env) (hpl:(backTo pos (starEach ps X.env)).any (·.1)=false):GE X W F (.iH i (.cons e es)) (.Call (.Name x np) (p::ps) [] pos):=by
 simp! [zza,zzy] at h;obtain⟨h1,h2,h3⟩:=dn h.2
 intro ae s σ H Q I hq;obtain⟨H0,G,env,sr,o⟩:=hq
 rw [aD] at o;cases e1:env[i]? with
 |none=>rw [e1] at o;exact o.elim
 |some sl=>
  cases sl with
  |no=>rw [e1] at o;exact o.elim
  |val _=>rw [e1] at o;exact o.elim
  |own _=>rw [e1] at o;exact o.elim
  |fn g idx cX=>
   rw [e1] at o;obtain⟨o2,hs,v,rfl,cr⟩:=sr.slot i _ e1
   have S6:=cr
   obtain⟨f,c',oc,df,t,fJ,pm,params,body,scope,qual,cl,Z,ws,e2,d⟩:=S6
   subst e2;refine wpAny_Call_Name_kw (wpAny_mono (eX (i:=i) (by rw [C.hN];exact h.1.1) (kU C h.1.2) h1 h2 ae s σ H (λv' H1=>v'=.ref f/\H1=H) I ⟨_,hs,rfl,rfl⟩) (λu s1 hu=>?_) λ_ _ y=>y)
   obtain⟨v',H1,I1,ru,rfl,rfl⟩:=hu
   cases ru;refine PySem.W.callWith_F ⟨_,_,_,_,(I1.aL _ _ (sr.sub _ _ d.fo)).1⟩ (bI (ha pos ae s1 σ H1 (λvs H2=>∃G2 as qs,aA G2 H2/\cK W G2 H2/\ai W G2 as vs/\oB W G2 g idx cX (.ref f)/\G2 f=some (.bp (PySem.W.kla_obj "<lambda>" qual params body scope cl pm c' fJ) bF)/\idx.head?=some as.length/\fw (as++cX) idx.tail=.ok qs/\Out X W (F g qs) σ G2 H2 λp=>dj W G2 H2 p Q) I1 ?_) λus s2 ⟨vs,H2,I2,r,q⟩=>?_) ez hpl
   ·refine args sr o λas vs G1 H2 g1 t1 bL o1=>?_
    split at o1
    ·rename_i hn;cases hq:fw (as++cX) idx.tail with
     |ok qs=>
      rw [hq] at o1;have qk:Out X W (F g qs) σ G1 H2 _:=o1
      exact⟨G1,as,qs,bL.sub,bL.tab,t1.rep A6,cr.same g1.g,g1.g _ _ d.fo,hn,hq,qk.imp λp hp v G' H' g' rp=>hp v G' H' (g1.trans g') (.of rp)⟩
     |exc c=>exact absurd hq (jn c)
     |bad=>rw [hq] at o1;exact o1.elim
    ·exact o1.elim
   ·obtain⟨G2,as,qs,sg,tb,l,cr2,fo2,hn,hqs,o2⟩:=q
    exact⟨⟨_,_,_,_,(I2.aL _ _ (sg _ _ fo2)).1⟩,Dq C I2 sg tb cr2 l r hn hqs o2⟩
def n8(X:Cx)(W:Wd)(params:Arguments)(body:Expr)(scope:Scope)(cl:List (Str×Addr))(G1 H1 G2 H2:Hp)(f:Addr):Prop:=aB W G1 H1 G2 H2/\∃c' oc df t fJ pm,G2 f=some (.bp (PySem.W.kla_obj "<lambda>" (X.env.qual++"<lambda>") params body scope cl pm c' fJ) bF)/\G2 c'=some (.bp oc bF)/\oc.data=.fields df/\df[1]?=some (.str (X.env.qual++"<lambda>") t)
def y8(C:dO Γ F W N sc k X)(hl:Γ.hl=true){params:Arguments}{ps:List Str}{body:Expr}{scope:Scope}{pos:Pos}{cl:List (Str×Addr)}(hp:p7 params=some ps)(FH:closureFor scope X.env=pure cl):
 PE X (.Lambda params body scope pos) (λσ H Q=>∃G,aA G H/\cK W G H/\∀f G2 H2,n8 X W params body scope cl G H G2 H2 f->Q (.ref f) H2):=by
 intro ae s σ H Q I h;obtain⟨G,sg,tb,q⟩:=h
 obtain⟨c,P,u4,CH,hts,huq⟩:=C.tb hl
 obtain⟨nG,kF,hP,tr,al⟩:=tb P _ hts
 refine L2.zu (R:=λc' oc=>G c'=some (.bp oc bF)) I hP tr u4 CH (C.bm hl) FH (EZ hp) (λcv e=>?_) λf c' oc df t fJ qj h' tk hf hc Bk RR RJ hd hv RQ RN more I'=>?_
 ·obtain⟨c',oc,df,t,e1,e2,e3,e4⟩:=al pos cv e
  exact⟨c',oc,df,t,e1,sg _ _ e2,e2,e3,e4⟩
 ·have Sm:G f=none:=sg.free hf
  have Sw:G c'=none\/G c'=some (.bp oc bF):=by
   rcases hc with z|z
   ·exact .inl (sg.free z)
   ·exact .inr z.2
  have fo:∀fo,gz H P qj c' oc f fo f=some (.bp fo bF):=λfo=>by unfold gz;rw [aq]
  have sG:∀fo,aA G (upd (upd G c' (.bp oc bF)) f (.bp fo bF)):=λfo b u e=>by
   have Ck:b≠f:=λz=>by rw [z,Sm] at e;cases e
   rw [ag Ck]
   by_cases hb:b=c'
   ·subst hb;rw [aq];rcases Sw with z|z
    ·rw [z] at e;cases e
    ·rw [z] at e;exact e
   ·rw [ag hb];exact e
  have O0:∀fo a,H a≠none->(∀vs,H a≠some (.tup vs))->G a=none->(upd (upd G c' (.bp oc bF)) f (.bp fo bF)) a=none:=λfo a h1 _ h2=>by
   have Se:a≠f:=λz=>h1 (by rw [z];exact hf)
   rw [ag Se]
   by_cases ha:a=c'
   ·subst ha;rcases hc with z|z
    ·exact absurd z h1
    ·rw [z.2] at h2;cases h2
   ·rw [ag ha];exact h2
  refine⟨.ref f,_,I',rfl,q f (upd (upd G c' (.bp oc bF)) f (.bp _ bF)) _ ⟨⟨sG _,λb u e=>?_,λb u e=>?_,O0 _,λ_ P' q' m=>?_⟩,c',oc,df,t,fJ,(X.mg "__name__").getD .none,aq,by rw [ag Bk,aq],hd,hv⟩⟩
  ·have Ck:b≠f:=λz=>by rw [z,hf] at e;cases e
   by_cases JY:b=P
   ·subst JY;rw [hP] at e;cases e;obtain⟨m,rfl⟩:=more
    exact .inr ⟨kF,m,rfl,by unfold gz;rw [ag (Ne.symm RR),ag (Ne.symm RJ),aq]⟩
   ·have e2:gz H P qj c' oc f (PySem.W.kla_obj "<lambda>" (X.env.qual++"<lambda>") params body scope cl ((X.mg "__name__").getD .none) c' fJ) b=H b:=by
     unfold gz;rw [ag Ck]
     by_cases hb:b=c'
     ·subst hb;rw [aq];rcases hc with z|z
      ·rw [z] at e;cases e
      ·rw [z.1]
     ·rw [ag hb,ag JY]
    rw [e2];exact iA.refl H b u e
  ·by_cases Ck:b=f
   ·subst Ck;rw [aq] at e;rw [fo];exact e
   ·rw [ag Ck] at e;unfold gz;rw [ag Ck]
    by_cases hb:b=c'
    ·subst hb;rw [aq] at e⊢;exact e
    ·rw [ag hb] at e⊢;have JY:b≠P:=λz=>by rw [z,nG] at e;cases e
     rw [ag JY];exact sg _ _ e
  ·obtain⟨n1,qs,Be,tr1,al1⟩:=tb P' q' m
   have NB:P'≠f:=λz=>by rw [z,hf] at Be;cases Be
   have ip:P'≠c':=λz=>by
    rcases hc with y|y
    ·rw [z,y] at Be;cases Be
    ·rw [z,y.1] at Be;cases Be
   refine⟨by rw [ag NB,ag ip];exact n1,?_⟩
   by_cases hPP:P'=P
   ·subst hPP;rw [hP] at Be;cases Be;refine⟨qj,by unfold gz;rw [ag NB,ag ip,aq],RQ,λpos' cv y=>?_⟩
    rcases RN pos' cv y with y|y
    ·obtain⟨c2,oc2,cvs2,t2,e1,e2,e3,e4⟩:=al1 pos' cv y
     exact⟨c2,oc2,cvs2,t2,e1,sG _ _ _ e2,e3,e4⟩
    ·exact⟨c',oc,df,t,y,by rw [ag Bk,aq],hd,by rw [huq q' m];exact hv⟩
   ·refine⟨qs,by unfold gz;rw [ag NB,ag ip,ag hPP];exact Be,tr1,λpos' cv y=>?_⟩
    obtain⟨c2,oc2,cvs2,t2,e1,e2,e3,e4⟩:=al1 pos' cv y
    exact⟨c2,oc2,cvs2,t2,e1,sG _ _ _ e2,e3,e4⟩
structure zJ(N:List Str)(sc:Scope)(g:Str)(idx aU:List Nat)(params:Arguments)(body:Expr)(scope:Scope):Prop where
 lb:Cg g idx params body scope=true
 cn:aU.map (λi=>N[i]?)=(aZ scope).map some
 cc:∀y∈aZ scope,sc.names.lookup y=some .cell
noncomputable def Lr(X:Cx)(W:Wd)(F:aH)(N:List Str)(sc:Scope)(g:Str)(idx aU:List Nat)(es:Es):TA:=λσ H Q=>∃H0 G env,SR W H0 env σ G H/\Out X W (cY F es env) σ G H λas=>∀vs G1 H1,aB W G H G1 H1->ai W G1 as vs->∀params body scope f G2 H2,zJ N sc g idx aU params body scope->n8 X W params body scope (bH X.env (aZ scope)) G1 H1 G2 H2 f->Q (vs++[.ref f]) H2
def Ac(C:dO Γ F W N sc k X)(ok:X.Ok){g:Str}{idx aU:List Nat}{params:Arguments}{body:Expr}{scope:Scope}(a:zJ N sc g idx aU params body scope):closureFor scope X.env=pure (bH X.env (aZ scope)):=by
 refine iu λy hy hf=>ok.has y.1 (.inl ?_)
 show X.env.scope.names.lookup y.1=_
 rw [C.eW];refine a.cc y.1 ?_;unfold aZ;rw [List.mem_reverse,zzx];exact⟨y,List.mem_filter.mpr ⟨hy,by rw [hf];rfl⟩,rfl⟩
def Ds(C:dO Γ F W N sc k X)(hl:Γ.hl=true){g:Str}{idx aU:List Nat}{params:Arguments}{body:Expr}{scope:Scope}{pos:Pos}(a:zJ N sc g idx aU params body scope):PA X [.Lambda params body scope pos] (Lr X W F N sc g idx aU .nil):=by
 obtain⟨ps,_,_,_,_,e1,_⟩:=uT a.lb
 intro pos' ae s σ H Q I h;refine cB (y8 C hl e1 (Ac C I.ok a)) dY rfl pos' ae s σ H Q I ?_;obtain⟨H0,G,env,sr,o⟩:=h
 rw [cY] at o;refine⟨G,sr.sub,sr.tab,λf G2 H2 m=>?_⟩
 exact o [] G H (.refl sr.sub) .nil params body scope f G2 H2 a m
theorem xY{g:Str}{idx aU:List Nat}{e:E}{es:Es}{p:Expr}{ps:List Expr}(A6:g8 (.cons e es)=true)(he:GE X W F e p)(hs:PA X ps (Lr X W F N sc g idx aU es))(ez:starEach (p::ps) X.env=(false,eval p X.env)::starEach ps X.env):PA X (p::ps) (Lr X W F N sc g idx aU (.cons e es)):=
 L2.PA.imp (cB he hs ez) λσ H Q h=>by
  obtain⟨H0,G,env,sr,o⟩:=h
  rw [cY] at o;unfold g8 at A6;rw [zza] at A6;refine one sr o λq v G1 H1 g1 t1 bL o1=>⟨H0,G1,env,bL,o1.bind.imp λas ha vs G2 H2 g2 l=>?_⟩
  intro params body scope f G3 H3 la lm;have:=ha (v::vs) G2 H2 (g1.trans g2) (.cons (Rep.same g2.g q (t1.rep A6.1)) l) params body scope f G3 H3 la lm
  simpa using this
def lookup_all{Z:List (Addr×Obj)}{h:Heap}(ha:∀q∈Z,h.get? q.1=some q.2):∀{c:Addr} {o:Obj},(c,o)∈Z->Z.lookup c=some o:=by
 induction Z with
 |nil=>intro c o m;cases m
 |cons q Z ih=>
  intro c o m;obtain⟨c1,o1⟩:=q
  rw [zz5];cases e:c==c1 with
  |true=>
   have e2:=zzy.mp e
   subst e2;have h1:=ha (c,o1) zzP
   have h2:h.get? c=some o:=ha (c,o) m
   rw [h1] at h2;exact h2
  |false=>
   rcases zzm.mp m with z|z
   ·cases z;simp at e
   ·exact ih (λq hq=>ha q (zzI _ hq)) z
theorem qZ{H0 G H:Hp}{env:Sl}{σ:St}(sr:SR W H0 env σ G H):∀{aU:List Nat} {cs:List PV},i5 env aU=.ok cs->∃ws:List V,ai W G cs ws/\ws.length=aU.length/\∀(j:Nat) (i:Nat),aU[j]?=some i->∃v,ws[j]?=some v/\σ[i]?=some (some v)
 |[],cs,h=>by
  unfold i5 at h;cases h;exact⟨[],.nil,rfl,λj i e=>by simp at e⟩
 |i::aU,cs,h=>by
  unfold i5 at h;obtain⟨p,hp,h⟩:=Res.aS h
  obtain⟨ps,kf,h⟩:=Res.aS h
  cases h;have hs:env[i]?=some (.val p):=by
   cases e:env[i]? with
   |none=>rw [e] at hp;cases hp
   |some s=>rw [e] at hp;cases s<;>cases hp;rfl
  obtain⟨o,h1,v,rfl,rv⟩:=sr.slot i _ hs
  obtain⟨ws,l1,l2,l3⟩:=qZ sr kf
  refine⟨v::ws,.cons rv l1,by simp [l2],λj k e=>?_⟩
  cases j with
  |zero=>simp at e;subst e;exact⟨v,rfl,h1⟩
  |succ j=>simpa using l3 j k (by simpa using e)
theorem lU{env:Sl}(c:Str):∀{aU:List Nat},i5 env aU≠.exc c
 |[]=>λz=>nomatch z
 |i::aU=>λz=>by
  unfold i5 at z;rcases Res.dH z with z|⟨p,_,z⟩
  ·cases e:env[i]? with
   |none=>rw [e] at z;cases z
   |some s=>rw [e] at z;cases s<;>cases z
  ·rcases Res.dH z with z|⟨ps,_,z⟩
   ·exact lU c z
   ·cases z
def wm(C:dO Γ F W N sc k X)(hl:Γ.hl=true){q:Hs}{aU:List Nat}{fa:Addr}{fd:FuncData}{pn:List Str}(FO:f9 X.prog X.w X.K X.mg X.base (dR X.prog X.w) k fa fd pn (xN W F q.f pn.length (some (q.g,q.idx))))(hb:Binds X.K fd pn []){ae:List (Addr×Obj)}{σ:St}{H0 G H:Hp}{env:Sl}{s:Shared}{Q:VK}{us:List Value}{vs:List V}{as cs:List PV}{params:Arguments}{body:Expr}{scope:Scope}{f c':Addr}{oc:Obj}{df:Array Value}{t:Tok}{fJ pm:Value}
 (I:Inv X ae σ H s) (sr:SR W H0 env σ G H) (a:zJ N sc q.g q.idx aU params body scope) (OQ:i5 env aU=.ok cs) (l:ai W G as vs) (fo:G f=some (.bp (PySem.W.kla_obj "<lambda>" (X.env.qual++"<lambda>") params body scope (bH X.env (aZ scope)) pm c' fJ) bF)) (co:G c'=some (.bp oc bF)) (cd:oc.data=.fields df) (cn:df[1]?=some (.str (X.env.qual++"<lambda>") t))
 (hlen:(vs++[V.ref f]).length=pn.length) (r:Vals (vs++[.ref f]) us) (o:Out X W (F q.f (as++cs)) σ G H λp=>dj W G H p Q):wpAny (model X.prog X.w) X.A (call (.ref fa) us) (EP X ae σ Q) X.xe s:=by
 have zd:F q.f (as++cs)≠.bad:=λz=>by rw [z] at o;exact o
 obtain⟨ws,rws,lws,pws⟩:=qZ sr OQ
 have ef:∀y∈aZ scope,∃c,X.env.cells.lookup y=some c:=λy hy=>I.ok.has y (.inl (by show X.env.scope.names.lookup y=_;rw [C.eW];exact a.cc y hy))
 have call:((aZ scope).all λy=>(X.env.cells.lookup y).isSome)=true:=zzT.mpr λy hy=>by obtain⟨c,e⟩:=ef y hy;rw [e];rfl
 let Z:List (Addr×Obj):=(aZ scope).filterMap λy=>(X.env.cells.lookup y).bind λc=>(s.heap.get? c).map λo=>(c,o)
 have Mh:∀q∈Z,∃y,y∈aZ scope/\X.env.cells.lookup y=some q.1/\s.heap.get? q.1=some q.2:=λq hq=>by
  obtain⟨y,hy,e⟩:=zz1.mp hq
  obtain⟨c,hc,e⟩:=zzZ.mp e
  obtain⟨o,ho,rfl⟩:=zzJ.mp e
  exact⟨y,hy,hc,ho⟩
 have OF:∀q∈Z,s.heap.get? q.1=some q.2:=λq hq=>let⟨_,_,_,h⟩:=Mh q hq;h
 have P7:∀y c o,y∈aZ scope->X.env.cells.lookup y=some c->s.heap.get? c=some o->Z.lookup c=some o:=λy c o hy hc ho=>lookup_all OF (zz1.mpr ⟨y,hy,by rw [hc];show(s.heap.get? c).map _=_;rw [ho];rfl⟩)
 have LR:∀b o,Z.lookup b=some o->∃y,y∈aZ scope/\X.env.cells.lookup y=some b/\s.heap.get? b=some o:=λb o e=>by
  obtain⟨y,h1,h2,h3⟩:=Mh (b,o) (PySem.W.mem_of_lookupK e)
  exact⟨y,h1,h2,h3⟩
 have zc:∀b o,Z.lookup b=some o->∃v,o.data=.cell v:=λb o e=>by
  obtain⟨y,_,h2,h3⟩:=LR b o e
  obtain⟨v,o',h4,h5⟩:=I.cell y b h2
  rw [h3] at h4;cases h4;exact⟨v,h5⟩
 have KA:∀b o,Z.lookup b=some o->H b=none:=λb o e=>by obtain⟨y,_,h2,_⟩:=LR b o e;exact I.ib y b h2
 have QF:∀b o,Z.lookup b=some o->G b=none:=λb o e=>sr.sub.free (KA b o e)
 have qq:∀b u,G b=some u->Z.lookup b=none:=λb u e=>by
  cases y:Z.lookup b with
  |none=>rfl
  |some o=>rw [QF b o y] at e;cases e
 have Ln:∀x c,(bH X.env (aZ scope)).lookup x=some c->X.env.cells.lookup x=some c:=eJ call
 have OB:∀x c,(bH X.env (aZ scope)).lookup x=some c->x∈aZ scope:=λx c e=>by
  have:=PySem.mem_of_lookup e
  unfold bH at this;obtain⟨y,hy,e2⟩:=zzx.mp this
  cases e2;exact hy
 have RE:∀b o,Z.lookup b=some o->X.s₀.heap.objs.size<=b:=λb o e=>by
  obtain⟨y,_,h2,_⟩:=LR b o e
  exact I.ok.JM y b (C.fl hl y) h2
 have Dl:sy Z H (eO X.stack) s.heap:=⟨λb o e=>let⟨_,_,_,h⟩:=LR b o e;h,KA,λb o e Nz=>by
  obtain⟨y,_,h2,h3⟩:=LR b o e
  rcases zzm.mp (I.iE b Nz) with z|z
  ·exact I.CS y b h2 z
  ·obtain⟨_,o',h4,_⟩:=I.ok.gk.mem z
   exact absurd (zzO h4) (Nat.not_lt.mpr (RE b o e))⟩
 have zb:∀b o,Z.lookup b=some o->X.base.get? b=none:=λb o e=>by
  cases y:X.base.get? b with
  |none=>rfl
  |some o'=>exact absurd (zzO (I.ok.bs b o' y).1) (Nat.not_lt.mpr (RE b o e))
 have Sd:(aZ scope).length=aU.length:=by have:=congrArg List.length a.cn;simpa using this.symm
 have cr:oB W (aM Z G) q.g q.idx cs (.ref f):=by
  refine⟨f,c',oc,df,t,fJ,pm,params,body,scope,_,bH X.env (aZ scope),Z,ws,rfl,⟨a.lb,by rw [ah (qq f _ fo)];exact fo,by rw [ah (qq c' _ co)];exact co,cd,cn,qq f _ fo,qq c' _ co,λx y c h1 h2=>I.ok.inj x y c (Ln x c h1) (Ln y c h2),λy hy=>iU hy,λx c h=>?_,λb o e=>aX e,zc,λi y c h1 h2 v h3=>?_,by rw [lws,Sd],by rw [qo QF];exact rws⟩⟩
  ·obtain⟨v,o,h1,h2⟩:=I.cell x c (Ln x c h)
   exact⟨o,v,P7 x c o (OB x c h) (Ln x c h) h1,h2⟩
  ·have hi:i<aU.length:=by rw [<-lws];exact(zzH.mp h3).1
   obtain⟨v',q1,q2⟩:=pws i aU[i] (zzg hi)
   rw [h3] at q1;cases q1;have RU:X.N[aU[i]]?=some y:=by
    rw [C.hN];have:=congrArg (λl=>l[i]?) a.cn
    simp! [zzQ,h1,zzg hi,Option.map_some] at this;exact zzq this
   obtain⟨m,_,hloc⟩:=I.loc
   obtain⟨u,ru,lk⟩:=hloc aU[i] y v RU q2 (.inr (.inl (by rw [C.eW];exact a.cc y (zzD h1))))
   have Q0:=Ln y c h2
   rcases lk with⟨z,_⟩|⟨_,c2,hc2,o,ho,hd⟩
   ·have z2:X.env.scope.names.lookup y=some .local:=z
    rw [C.eW,a.cc y (zzD h1)] at z2;cases z2
   ·rw [Q0] at hc2;cases hc2;exact⟨u,o,ru,P7 y c o (zzD h1) Q0 ho,hd⟩
 have Pk:us.length=pn.length:=by rw [<-r.length];exact hlen
 have kj:=hb s us I.ql (by rw [zz6];exact Pk)
 rw [zz6] at kj;have SX:ai W (aM Z G) as vs:=ai.same (λb u e=>by rw [ah (qq b u e)];exact e) as l
 have Tu:∀G' H',aB W (aM Z G) (aM Z H) G' H'->∀b o,Z.lookup b=some o->G' b=some (.bp o bF):=λG' H' g b o e=>g.g _ _ (aX e)
 refine wpAny_call (codeAny_mono (FO.run X.A X.stack s (aM Z H) ⟨us,[]⟩ us _ (λv H'=>Q v (aV Z H')) (λCv ao H'=>∃c,F q.f (as++cs)=.exc c/\XE W c G H Cv ao (aV Z H')) C.rm (I.wa.aM Dl zb) kj r ⟨hlen,aM Z G,as++cs,v8 sr.sub,qt sr.tab sr.sub KA,⟨as,cs,vs,.ref f,rfl,rfl,SX,cr⟩,?_⟩) λrr s' hr=>?_)
 ·cases z:F q.f (as++cs) with
  |ok p=>
   rw [z] at o;exact λv G' H' g' rp=>o v _ _ (g'.lz sr.sub zc KA) (Rep.less (Tu G' H' g') p rp)
  |exc c=>
   intro Cv ao H' y;obtain⟨C4,a4,G4,y1,y2,y3,y4,y5⟩:=y
   exact⟨c,rfl,C4,a4,_,y1,y2,y3,y4,y5.lz sr.sub zc KA⟩
  |bad=>exact absurd z zd
 ·cases rr with
  |error e=>
   have hr:dR X.prog X.w X.stack H s (λCv ao H'=>∃c,F q.f (as++cs)=.exc c/\XE W c G H Cv ao H') e s':=dR.less Dl hr
   cases z:F q.f (as++cs) with
   |ok q=>
    obtain⟨a,C',t,vs,H',B,rfl,Fl⟩:=hr
    obtain⟨c,e1,_⟩:=Fl.ends
    rw [z] at e1;cases e1
   |exc c=>
    rw [z] at o;refine o ae G H s e s' I (.refl sr.sub) (ER.imp hr λC1 a H' y=>?_);obtain⟨c',e1,y⟩:=y
    rw [z] at e1;cases e1;exact y
   |bad=>exact absurd z zd
  |ok fl=>
   cases fl with
   |ret u=>exact I.after (CE.less Dl hr)
   |next=>exact zzk hr
   |brk=>exact zzk hr
   |cont=>exact zzk hr
def Ah(C:dO Γ F W N sc k X)(hl:Γ.hl=true){q:Hs}(hq:q∈Γ.hs){aU:List Nat}{es:Es}{p:Expr}{ps:List Expr}{np pos:Pos}(hg:iz sc q.h=true)(ho:okN q.h=true)(hn:q.np=iT es+1)(ha:PA X (p::ps) (Lr X W F N sc q.g q.idx aU es))
 (ez:starEach (p::ps) X.env=(false,eval p X.env)::starEach ps X.env) (hpl:(backTo pos (starEach ps X.env)).any (·.1)=false):GE X W F (.kM q.f es q.g q.idx aU) (.Call (.Name q.h np) (p::ps) [] pos):=by
 intro ae s σ H Q I h;obtain⟨H0,G,env,sr,o⟩:=h
 rw [aD] at o;obtain⟨fa,fd,pn,FO,hm,hk,hb,hpn⟩:=(C.rX q hq).ex
 refine wpAny_Call_Name_kw (gX I (fD C hg) hm ?_ (dn ho).1);refine PySem.W.callWith_K (h₀:=X.base) I.ok.mod.Kp hk (bI (ha pos ae s σ H (λvs H2=>∃G2 as cs vH params body scope f c' oc df t fJ pm,vs=vH++[.ref f]/\as.length=iT es/\SR W H0 env σ G2 H2/\zJ N sc q.g q.idx aU params body scope/\i5 env aU=.ok cs/\ai W G2 as vH/\G2 f=some (.bp (PySem.W.kla_obj "<lambda>" (X.env.qual++"<lambda>") params body scope (bH X.env (aZ scope)) pm c' fJ) bF)/\G2 c'=some (.bp oc bF)/\oc.data=.fields df/\df[1]?=some (.str (X.env.qual++"<lambda>") t)/\Out X W (F q.f (as++cs)) σ G2 H2 λp=>dj W G2 H2 p Q) I ?_) λus s1 ⟨vs,H1,I1,r,y⟩=>⟨I1.ql,?_⟩) ez hpl
 ·refine⟨H0,G,env,sr,?_⟩;cases e1:cY F es env with
  |bad=>rw [e1] at o;exact o
  |exc c=>rw [e1] at o;exact o
  |ok as=>
   rw [e1] at o;have o:Out X W ((i5 env aU).bind λcs=>F q.f (as++cs)) σ G H _:=o
   cases e2:i5 env aU with
   |bad=>rw [e2] at o;exact o.elim
   |exc c=>exact absurd e2 (lU c)
   |ok cs=>
    rw [e2] at o;have o:Out X W (F q.f (as++cs)) σ G H _:=o
    intro vs G1 H1 g1 l params body scope f G2 H2 la lm;obtain⟨g2,c',oc,df,t,fJ,pm,m1,m2,m3,m4⟩:=lm
    exact⟨G2,as,cs,vs,params,body,scope,f,c',oc,df,t,fJ,pm,rfl,iR e1,(sr.grow g1).grow g2,la,rfl,ai.same g2.g as l,m1,m2,m3,m4,(o.grow (g1.trans g2)).imp λp hp v G' H' g' rp=>hp v G' H' ((g1.trans g2).trans g') (.of rp)⟩
 ·obtain⟨G2,as,cs,vH,params,body,scope,f,c',oc,df,t,fJ,pm,rfl,hal,eY,la,hcs,l,m1,m2,m3,m4,o2⟩:=y
  exact wm C hl FO hb I1 eY la hcs l m1 m2 m3 m4 (by rw [zzM,l.length,hal,hpn,hn];rfl) r o2
end
end Ci
namespace L2
open PySem PySem.Spec PyProof.Rows
def sY:typeLookup (.type "list_reverseiterator") "__len__"=pure none:=by rw [typeLookup_type,builtinLookup_eq_fast];kernel_rfl
def A3:typeLookup (.type "list_reverseiterator") "__length_hint__"=pure (some (.builtin "list_reverseiterator.__length_hint__")):=by rw [typeLookup_type,builtinLookup_eq_fast];kernel_rfl
section
variable{prog:Program}{w:World}{A:Around}{E:Value->Shared->Prop}{s:Shared}
def EN{R:Result->Shared->Prop}(hh:A.handled=none){I l:Addr}(g9:l≠I){items:Array Value}(hit:s.heap.IsRevIter I l ((items.size:Int)-1))(hl:s.heap.IsList l items)(S:Addr)(L4:S≠I)(MU:S≠l)(res:Value)(c₀:Nat)(hS:s.heap.get? S=some {cls:=.type "list",data:=.seq #[] c₀})
 (hR:∀h' tk eL c',(∀b o,b≠S->b≠I->s.heap.get? b=some o->h'.get? b=some o)->h'.get? S=some {cls:=.type "list",dict:=none,data:=.seq eL c',slots:=#[]}->
  ItemsOf (λi v=>items[items.size-1-i]?=some v) eL items.size->R (.ok (.ret res)) {s with heap:=h',toks:=tk}) (hn:items.size<=sizeLine):
 wpAny (model prog w) A.in1 (Builtin.List.listExtendWith (.ref S) (.ref I) res)
  (λfin s'=>match fin with|.done f=>R (.ok f) s'|.again c'=>c'.quiet=true/\codeAny (model prog w) A c' R s') (λe s'=>R (.error e) s') s:=by
 have Sa:S∉[I,l]:=λhm=>by
  rcases zzm.mp hm with e|hm
  ·exact L4 e
  ·exact MU (zzi.mp hm)
 unfold Builtin.List.listExtendWith;refine zzA (wpAny_typeOf hit.typeIs ?_);have h1:Builtin.List.listSameRef (.ref S) (.ref I)=false:=by simp [Builtin.List.listSameRef,L4]
 have h2:(Value.type "list_reverseiterator"==Value.type "list")=false:=by decide
 have h3:(Value.type "list_reverseiterator"==Value.type "tuple")=false:=by decide
 simp! [h1,h2,h3,Bool.or_false,zze,if_false];refine zzA (wpAny_pyIter_revIter hit ?_);refine zzA (wpAny_holding ?_);unfold Builtin.List.listLengthHint;refine zzA (wpAny_specialOf hit.typeIs sY ?_);show wpAny _ A.in1 (specialOf (Value.ref I) (Str.ofString "__length_hint__")>>=_) _ _ _;refine zzA (wpAny_specialOf hit.typeIs A3 ?_)
 wp_delta
 refine zzA (wpAny_isInstance (T:="list_reverseiterator") (v:=.ref I) (b:=true) hit.typeIs (by rw [isSubtype_type];kernel_rfl) ?_);refine zzG ?_;rw [if_neg (by decide)];refine zzG ⟨plainId_quiet F.plain_extend_loop _,codeAny_extend_loopS (Walks.listRev (prog:=prog) (w:=w) (A:=A.in1) hh I l g9 items).toS hn _ Sa _ items.size 0 _ _ _ rfl (Nat.zero_le _) ⟨Nat.zero_le _,by simpa using hit,hl⟩ hS (ItemsOf.nil _) λs' eL c' hm vT pQ=>?_⟩
 rw [Moved.eq_with hm];refine hR s'.heap s'.toks eL c' (λb ob hb NS e=>hm.heap b ob (λhmem=>?_) e) vT pQ
 rcases zzm.mp hmem with e'|hmem
 ·exact hb e'
 ·exact NS (zzi.mp hmem)
def zS{R:Result->Shared->Prop}(hh:A.handled=none){I l:Addr}(g9:l≠I){items:Array Value}(hit:s.heap.IsRevIter I l ((items.size:Int)-1))(hl:s.heap.IsList l items)(S:Addr)(L4:S≠I)(MU:S≠l)(hS:s.heap.get? S=some {cls:=.type "list",data:=.seq #[]})
 (hR:∀h' tk eL c',(∀b o,b≠S->b≠I->s.heap.get? b=some o->h'.get? b=some o)->h'.get? S=some {cls:=.type "list",dict:=none,data:=.seq eL c',slots:=#[]}->
  ItemsOf (λi v=>items[items.size-1-i]?=some v) eL items.size->R (.ok (.ret .none)) {s with heap:=h',toks:=tk}) (hn:items.size<=sizeLine):
 wpAny (model prog w) A.in1 (Builtin.«list.__init__» ⟨[.ref S,.ref I],[]⟩)
  (λfin s'=>match fin with|.done f=>R (.ok f) s'|.again c'=>c'.quiet=true/\codeAny (model prog w) A c' R s') (λe s'=>R (.error e) s') s:=by
 show wpAny _ _ (do let old<-Builtin.List.listItems (.ref S);Builtin.List.listUpdate (.ref S) (λ_=>#[]);letGo old.toList.reverse;Builtin.List.listExtendWith (.ref S) (.ref I) .none) _ _ s
 refine zzA ?_;unfold Builtin.List.listItems;refine zzA (wpAny_seqItems hS rfl (zzG ?_));show wpAny _ _ (updateSeq S (λ_=>#[])>>=λ_=>letGo (#[]:Array Value).toList.reverse>>=λ_=>Builtin.List.listExtendWith (.ref S) (.ref I) .none) _ _ s
 refine zzA (wpAny_updateSeq hS rfl ?_);have hS₂:=Heap.get?_update_self (Obj.mapSeq (λ_=>(#[]:Array Value))) hS rfl
 have O7:∀b o,b≠S->s.heap.get? b=some o->(s.heap.update S (Obj.mapSeq (λ_=>(#[]:Array Value)))).get? b=some o:=
  λb o hb e=>(Heap.get?_update_other _ _ (Ne.symm hb)).trans e
 refine zzA (wpAny_letGo ?_);refine EN (hn:=hn) hh g9 (hit.at λo e=>O7 _ _ (Ne.symm L4) e) (hl.at λo e=>O7 _ _ (Ne.symm MU) e) S L4 MU .none _ hS₂ λh' tk eL c' hk vT pQ=>?_
 exact hR h' tk eL c' (λb o hb NS e=>hk b o hb NS (O7 b o hb e)) vT pQ
def mR{Q:Value->Shared->Prop}(hh:A.handled=none){I l:Addr}(g9:l≠I){items:Array Value}(hit:s.heap.IsRevIter I l ((items.size:Int)-1))(hl:s.heap.IsList l items)
 (hQ:∀h' tk eL c',(∀b o,b≠I->s.heap.get? b=some o->h'.get? b=some o)->
  h'.get? (zz9 s)=some {cls:=.type "list",dict:=none,data:=.seq eL c',slots:=#[]}->ItemsOf (λi v=>items[items.size-1-i]?=some v) eL items.size->Q (.ref (zz9 s)) {s with heap:=h',toks:=tk}) (hn:items.size<=sizeLine):
 wpAny (model prog w) A (call (.type "list") [.ref I]) Q E s:=by
 refine callType_codes (Q₁:=λobj s₁=>obj=.ref (zz9 s)/\s₁={s with heap:=s.heap.push {cls:=.type "list",data:=.seq #[]}}) F.called_list (F.typeCall_list_1 _) F.entry_list_init
  (code_list_new _ ⟨rfl,rfl⟩) λobj s₁ h₁=>?_
 obtain⟨rfl,rfl⟩:=h₁
 have hS:(s.heap.push {cls:=.type "list",data:=.seq #[]}).get? (zz9 s)=some {cls:=.type "list",data:=.seq #[]}:=zzX _ rfl
 have n1:(zz9 s)≠I:=λe=>let⟨o,ho,_⟩:=hit;absurd (zzO ho) (by rw [e];exact Nat.lt_irrefl _)
 have n2:(zz9 s)≠l:=λe=>let⟨o,ho,_⟩:=hl;absurd (zzO ho) (by rw [e];exact Nat.lt_irrefl _)
 refine⟨⟨_,hS,rfl⟩,F.args_list_init_2 _ _,zS (A:=A.in1) (hn:=hn) hh g9 (hit.at λo e=>zzB _ e) (hl.at λo e=>zzB _ e) _ n1 n2 hS λh' tk eL c' hk vT pQ=>?_⟩
 exact⟨rfl,hQ h' tk eL c' (λb o hb e=>hk b o (zzb (zzO e)) hb (zzB _ e)) vT pQ⟩
variable{X:Cx}{e:Expr}{te:TE}{p1 p2 pos yN:Pos}
noncomputable def Th(K:zz8)(te:TE):TE:=λσ H Q=>te σ H λx H1=>∃l vs,x=.ref l/\fV K H1 l vs/\∀p,H1 p=none->Q (.ref p) (upd H1 p (.lst vs.reverse))
def Lv(xs:List V)(P:V->Prop):Prop:=match xs with
 |[x]=>P x
 |_=>False
def CZ{xs:List V}{P:V->Prop}(h:Lv xs P):∃x,xs=[x]/\P x:=by
 cases xs with
 |nil=>exact h.elim
 |cons x r=>
  cases r with
  |nil=>exact⟨x,rfl,h⟩
  |cons _ _=>exact h.elim
def yM{vs:List V}{us:List Value}(r:Vals vs us):Vals vs.reverse us.reverse:=by
 induction r with
 |nil=>exact .nil
 |cons h t ih=>
  rw [List.reverse_cons,List.reverse_cons];exact ih.append (.cons h .nil)
def tH(hc:X.calm=true)(hg:Gl X "list")(hm:X.mg "list"=none)(O3:Gl X "reversed")(Ga:X.mg "reversed"=none)(h:PE X e te)(he:starEach [e] X.env=(false,eval e X.env)::starEach [] X.env):
 PE X (.Call (.Name "list" p1) [.Call (.Name "reversed" p2) [e] [] yN] [] pos) (Th X.K te):=by
 intro ae s σ H Q I q;refine wpAny_Call_Name_kw (dX I hg hm (u:=.type "list") (by decide+kernel) ?_);refine PyProof.Rows.callWith_type1 ?_ rfl rfl;show wpAny _ _ (spliced ((false,eval (.Call (.Name "reversed" p2) [e] [] yN) X.env)::backTo pos (starEach [] X.env))) _ _ s;refine Calls.spliced_cons ?_;refine wpAny_Call_Name_kw (dX I O3 Ga (u:=.type "reversed") (by decide+kernel) ?_);refine PyProof.Rows.callWith_type1 (bI (cB h dY he yN ae s σ H (λxs H1=>Lv xs λx=>∃l vs,x=.ref l/\fV X.K H1 l vs/\∀p,H1 p=none->Q (.ref p) (upd H1 p (.lst vs.reverse))) I q) λus s1 ⟨xs,H1,I1,r1,q1⟩=>?_) he rfl
 ·obtain⟨x,rfl,l,vs,rfl,hq,q1⟩:=CZ q1
  obtain⟨u,rfl,rx⟩:=vals1 r1
  cases rx;obtain⟨ax,r',pl,hz⟩:=I1.list hq
  have hlen:=r'.length
  refine call_reversed_list pl.isList ?_;refine Calls.spliced_nil ?_;have hn:ax.toArray.size<=sizeLine:=by simp! [zzC]<;>omega
  obtain⟨ol,hol,_⟩:=id pl.isList
  have g9:l≠(zz9 s1):=λz=>absurd (zzO hol) (by rw [z];exact Nat.lt_irrefl _)
  refine mR (I1.ok.hd hc) g9 ⟨_,zzX _ rfl,rfl,rfl⟩ (pl.isList.at λo z=>zzB _ z) (λh' tk eL c' kp e ha=>?_) hn;have pQ:eL.toList=ax.reverse:=by
   refine List.ext_getElem? λi=>?_
   by_cases hi:i<ax.length
   ·rw [List.getElem?_reverse hi];have hs:eL.size=ax.length:=by rw [ha.1];simp
    have Nh:i<eL.size:=by omega
    have:=ha.2 i eL[i] (zz2 Nh)
    rw [Array.getElem?_toList,zz2 Nh,<-this];simp
   ·rw [List.getElem?_eq_none (by rw [zzd,ha.1];simpa using hi),List.getElem?_eq_none (by rw [List.length_reverse];omega)]
  have rv:Vals vs.reverse eL.toList:=by rw [pQ];exact yM r'
  exact⟨.ref ((zz9 s1)+1),_,I1.laid (t':=tk) (a:=(zz9 s1)+1) (λb o z=>kp b o (zzb (zzO z)) (zzB _ z)) (Nat.le_succ _) (show bJ X.prog X.w _ h' _ (.lst _) from⟨by rw [List.length_reverse];exact hz,eL.toList,c',rv,by simpa using e⟩),by rw [Heap.size_push];rfl,q1 _ (I1.aL.fresh (Nat.le_succ _))⟩
end
end L2
namespace Ci
open PySem L2
section
variable{Γ:Pg}{X:Cx}{W:Wd}{F:aH}{N:List Str}{sc:Scope}{k:Nat}
def xF{G:Hp}{p:PV}{v:V}(h:Rep W G p v):∀{ps:List PV} {vs:List V},ai W G ps vs->ai W G (ps++[p]) (vs++[v]):=by
 intro ps
 induction ps with
 |nil=>
  intro vs t;have:=t.length
  cases vs with
  |nil=>exact .cons h .nil
  |cons _ _=>cases this
 |cons q ps ih=>
  intro vs t;obtain⟨u,r,rfl,h1,t⟩:=t.bK
  exact .cons h1 (ih t)
def yL{G:Hp}:∀{ps:List PV} {vs:List V},ai W G ps vs->ai W G ps.reverse vs.reverse:=by
 intro ps
 induction ps with
 |nil=>
  intro vs t;have:=t.length
  cases vs with
  |nil=>exact .nil
  |cons _ _=>cases this
 |cons q ps ih=>
  intro vs t;obtain⟨u,r,rfl,h1,t⟩:=t.bK
  rw [List.reverse_cons,List.reverse_cons];exact xF h1 (ih t)
theorem C7(C:dO Γ F W N sc k X){a:E}{pa:Expr}{p1 p2 pos yN:Pos}(hg:iz sc "list"=true)(hm:Γ.bs.contains "list"=true)(O3:iz sc "reversed"=true)(Ga:Γ.bs.contains "reversed"=true)(ha:GE X W F a pa)(he:starEach [pa] X.env=(false,eval pa X.env)::starEach [] X.env):
 GE X W F (.yP a) (.Call (.Name "list" p1) [.Call (.Name "reversed" p2) [pa] [] yN] [] pos):=
 (tH C.calm (fD C hg) (C.bs _ (zzn.mp hm)) (fD C O3) (C.bs _ (zzn.mp Ga)) ha he).imp λσ H Q h=>by
  obtain⟨H0,G,env,sr,o⟩:=h
  rw [aD] at o;refine one sr o λp v G1 H1 g t bL o1=>?_
  cases p with
  |lst xs=>
   obtain⟨l,vs,rfl,h1,l1⟩:=t.top.lst bL.sub
   exact⟨l,vs,rfl,pT C.K h1,λp hp=>dj.lst (W:=W) (G:=G1) (H:=H1) (xs:=xs.reverse) (λw G' H' g' gP=>o1 w G' H' (g.trans g') (.of gP)) bL.sub (yL l1) hp⟩
  |_=>exact zzk o1
end
end Ci
namespace L2
open PySem PySem.Spec PyProof.Rows PySem.W
end L2
namespace Ci
open PySem L2
section
variable{Γ:Pg}{X:Cx}{W:Wd}{F:aH}{N:List Str}{sc:Scope}{k:Nat}
theorem F2(C:dO Γ F W N sc k X){a b:E}{pa pk:Expr}{apos bG:Pos}(ha:GE X W F a pa)(hk:GE X W F b pk)(hb:attributeBase pa "get" X.env (eval pa X.env)=eval pa X.env)(hl:(apos.endLine==bG.line)=true)(hs:starEach [pk] X.env=(false,eval pk X.env)::starEach [] X.env):
 GE X W F (.get a b) (.Call (.Attribute pa "get" apos) [pk] [] bG):=
 (As (by have:=C.room.un;omega) ha hk ⟨hb,by rw [hs];rfl,hl,by rw [hs];rfl⟩).imp λσ H Q h=>by
  obtain⟨H0,G,env,sr,o⟩:=h
  rw [aD] at o;refine one sr o λp v G1 H1 g t bL o1=>?_
  cases p with
  |bw ks vs=>
   obtain⟨d,us,rfl,n,hd,l⟩:=t.top.bw bL.sub
   refine⟨d,rfl,.inr ⟨_,hd⟩,?_⟩;refine one bL o1 λq u G2 H2 g2 t2 eY o2=>?_
   obtain⟨d',us',e,n',Bl,l'⟩:=(t.grow g2).top.bw eY.sub
   cases e;cases hq:fh q with
   |none=>
    have o3:Out X W ((Res.of (fh q)).bind _) σ G2 H2 _:=o2
    rw [hq] at o3;exact zzk o3
   |some kk=>
    have o3:Out X W ((Res.of (fh q)).bind _) σ G2 H2 _:=o2
    rw [hq] at o3;have Ow:=fH hq
    subst Ow;obtain⟨b',rfl,kj⟩:=Top.tupI eY.sub rfl t2.top
    refine⟨_,.inr ⟨_,kk.map .inl,b',Bl,rfl,?_,rfl⟩,?_⟩
    ·rw [eY.sub _ _ kj,List.map_map];rfl
    ·rw [show gG (kz ks us') (kk.map .inl)=_ from i7 kk ks us'];cases hv:au ks vs kk with
     |some pv=>
      obtain⟨w',e1,gP⟩:=kb l' hv
      rw [e1];have o4:Out X W (Res.ok ((au ks vs kk).getD .aC)) σ G2 H2 _:=o3
      rw [hv] at o4;exact o4 w' G2 H2 (g.trans g2) (.of gP)
     |none=>
      have:au ks us' kk=none:=by
       have h1:=iM kk ks us' n'
       have h2:=iM kk ks vs (by rw [l'.length] at n';exact n')
       rw [hv] at h2;rw [<-h2] at h1;exact Option.isSome_eq_false_iff.mp h1 |> Option.isNone_iff_eq_none.mp
      rw [this];have o4:Out X W (Res.ok ((au ks vs kk).getD .aC)) σ G2 H2 _:=o3
      rw [hv] at o4;exact o4 .aC G2 H2 (g.trans g2) (.of .n)
  |_=>exact zzk o1
def He{X:Cx}{e:E}{p:Expr}(h:GE X W F e p)(he:∀whole,isTrue p X.env whole=(do let v<-whole;standAt p.pos;holding [v] (truthy v))):GT X W F e p:=
 L2.PT.imp (Hu h he) λσ H Q hq=>Fj σ H Q hq
structure Qk(X:Cx)(W:Wd)(F:aH)(e:E)(p:Expr):Prop where
 ge:GE X W F e p
 gt:fW e=true->GT X W F e p
 gw:fW e=true->∀op vs pos,p=.BoolOp op vs pos->GW X W F e p
def bz{X:Cx}{e:E}{p:Expr}(h:GE X W F e p)(he:∀whole,isTrue p X.env whole=(do let v<-whole;standAt p.pos;holding [v] (truthy v)))(hb:∀op vs pos,p≠.BoolOp op vs pos):Qk X W F e p:=
 ⟨h,λ_=>He h he,λ_ op vs pos e=>absurd e (hb op vs pos)⟩
def isTrue_plain{p:Expr}{env:Env}(h:(match p with|.UnaryOp .Not _ _=>false|.BoolOp .. =>false|.IfExp .. =>false|.Compare .. =>false|_=>true)=true):∀whole,isTrue p env whole=(do let v<-whole;standAt p.pos;holding [v] (truthy v)):=by
 intro whole;cases p with
 |UnaryOp op a pos=>cases op<;>first|rfl|(exact bj h)
 |BoolOp _ _ _=>exact bj h
 |IfExp _ _ _ _=>exact bj h
 |Compare _ _ _ _=>exact bj h
 |_=>rfl
def zM{po:Expr}{m:Str}{env:Env}(h:Fx po=true):attributeBase po m env (eval po env)=eval po env:=by
 cases po with
 |Call f as kws p=>
  cases as with
  |nil=>exact bj h
  |cons a as=>cases f<;>rfl
 |_=>rfl
theorem jw{N:List Str}{sc:Scope}{g:Str}{idx aU:List Nat}:∀{es:Es} {ps:List Expr},uD Γ N sc g idx aU es ps=true->∀env pos,(backTo pos (starEach ps env)).any (·.1)=false
 |.cons e es,p::ps,h,env,pos=>by
  replace h:=az h
  rw [notStar h.1];show(false||(backTo pos (starEach ps env)).any (·.1))=false
  rw [jw h.2]
  rfl
 |.nil,ps,h,env,pos=>by
  obtain⟨p,e1,h⟩:=aj h
  obtain⟨l,e2,_⟩:=aj h
  rw [dh e1];obtain⟨_,rfl⟩:=sQ e2
  rfl
 |.cons _ _,[],h,_,_=>bj h
def I0{X:Cx}{q:PV}{c:Const}{kk:Nat}{pos:Pos}(h:K4 q c=true):GE X W F (.cst q) (.Constant c kk pos):=by
 cases q with
 |aC=>cases Hk h;exact iG Ge λG=>.n
 |bl b=>
  obtain⟨x,e,h⟩:=aj h
  cases Gv e;cases eq_of_beq h;exact iG Fd λG=>.b
 |int i=>
  obtain⟨x,e,h⟩:=aj h
  cases Ab e;cases eq_of_beq h;exact iG sC λG=>.i
 |str z=>
  obtain⟨x,e,h⟩:=aj h
  cases zU e;cases eq_of_beq h;exact iG AL λG=>.s
 |_=>exact bj h
def yf{α:Type}{r:Res α}{c:α->Prop} [∀a,Decidable (c a)]{f:α->Res (List PV)}{q:PV}(e:(r.bind λa=>if c a then(f a).bind λys=>.ok (.lst ys) else .bad)=.ok q):∃ys,q=.lst ys:=by
 obtain⟨ps,_,e⟩:=Res.aS e
 split at e
 ·obtain⟨ys,_,e⟩:=Res.aS e
  cases e;exact⟨_,rfl⟩
 ·cases e
def vA{kk:Nat}{aU:List Nat}{tg:Tg}{it:I}{elt:E}(env:Sl)(q:PV)(e:aD F (.comp kk aU tg it elt) env=.ok q):∃ys,q=.lst ys:=by
 rw [aD] at e;exact yf e
def n5{kk:Nat}{aU:List Nat}{tg:Tg}{it:I}{c elt:E}(env:Sl)(q:PV)(e:aD F (.bT kk aU tg it c elt) env=.ok q):∃ys,q=.lst ys:=by
 rw [aD] at e;exact yf e
mutual
theorem bx:∀(e:E) {Γ:Pg} {N:List Str} {sc:Scope} {X:Cx} (C:dO Γ F W N sc k X) (p:Expr),bb Γ N sc e p=true->Qk X W F e p
 |.var i,Γ,N,sc,X,C,p,h=>by
  obtain⟨x,_,rfl,h9⟩:=ML h
  clear h
  have h:=h9
  clear h9
  exact bz (HK C h) (λ_=>rfl) (λ_ _ _ z=>nomatch z)
 |.eE i,Γ,N,sc,X,C,p,h=>by
  obtain⟨x,_,rfl,h9⟩:=ML h
  clear h
  have h:=h9
  clear h9
  exact bz (JD C h) (λ_=>rfl) (λ_ _ _ z=>nomatch z)
 |.cst q,Γ,N,sc,X,C,p,h=>by
  obtain⟨c,_,_,rfl,h9⟩:=Ti h
  clear h
  have h:=h9
  clear h9
  refine bz (I0 h) (λ_=>rfl) (λ_ _ _ z=>nomatch z)
 |.glob g q,Γ,N,sc,X,C,p,h=>by
  obtain⟨x,_,rfl,h9⟩:=ML h
  clear h
  have h:=h9
  clear h9
  exact bz (Cc C h) (λ_=>rfl) (λ_ _ _ z=>nomatch z)
 |.call f as,Γ,N,sc,X,C,p,h=>by
  obtain⟨g,args,_,_,rfl,h9⟩:=Bm h
  clear h
  have h:=h9
  clear h9
  replace h:=az h
  try simp! [zza,zzy] at h
  obtain⟨⟨⟨⟨⟨rfl,h1⟩,h2⟩,h3⟩,h4⟩,h5⟩:=h
  have ga:=k7 as C args h5
  cases as with
  |nil=>
   cases args with
   |nil=>exact bz (zH C h1 h2 h3) (λ_=>rfl) (λ_ _ _ z=>nomatch z)
   |cons _ _=>exact bj h5
  |cons e es=>
   cases args with
   |nil=>exact bj h5
   |cons q qs=>
    have h6:=az h5
    exact bz (Em C h1 h2 h3 h4 ga (notStar h6.1 _ _) (fL h6.2 _ _)) (λ_=>rfl) (λ_ _ _ z=>nomatch z)
 |.iH i as,Γ,N,sc,X,C,p,h=>by
  obtain⟨g,args,_,_,rfl,h9⟩:=Bm h
  clear h
  have h:=h9
  clear h9
  replace h:=az h
  simp! [zza] at h;obtain⟨⟨⟨⟨⟨h1,h2⟩,h3⟩,h4⟩,h6⟩,h5⟩:=h
  have ga:=k7 as C args h5
  cases as with
  |nil=>exact bj h6
  |cons e es=>
   cases args with
   |nil=>exact bj h5
   |cons q qs=>
    have h6:=az h5
    exact bz (AS C (by rw [h1,h2,h3];rfl) h4 ga (notStar h6.1 _ _) (fL h6.2 _ _)) (λ_=>rfl) (λ_ _ _ z=>nomatch z)
 |.kM f as g idx aU,Γ,N,sc,X,C,p,h=>by
  obtain⟨hN,args,_,_,rfl,h9⟩:=Bm h
  clear h
  have h:=h9
  clear h9
  replace h:=az h
  simp! [zza,zzj,zzy] at h;obtain⟨⟨⟨⟨⟨⟨h1,h2⟩,h3⟩,h4⟩,h6⟩,q,hq,⟨⟨⟨rfl,rfl⟩,rfl⟩,rfl⟩,hd⟩,h5⟩:=h
  have NJ:=zzY hd
  have ga:=FG as C h1 q.g q.idx aU args h4 h5
  cases as with
  |nil=>exact bj h6
  |cons e es=>
   cases args with
   |nil=>exact bj h5
   |cons p qs=>
    have h6:=az h5
    exact bz (Ah C h1 hq h2 h3 NJ ga (notStar h6.1 _ _) (jw h6.2 _ _)) (λ_=>rfl) (λ_ _ _ z=>nomatch z)
 |.blt b as,Γ,N,sc,X,C,p,h=>by
  obtain⟨g,args,_,_,rfl,h9⟩:=Bm h
  clear h
  have h:=h9
  clear h9
  replace h:=az h
  try simp! [zza,zzy] at h
  obtain⟨⟨⟨⟨rfl,h1⟩,h2⟩,h3⟩,h5⟩:=h
  have ga:=k7 as C args h5
  cases as with
  |nil=>exact bj h3
  |cons e es=>
   cases args with
   |nil=>exact bj h5
   |cons q qs=>
    have h6:=az h5
    exact bz (Ik C b h1 h2 ga (notStar h6.1 _ _) (fL h6.2 _ _)) (λ_=>rfl) (λ_ _ _ z=>nomatch z)
 |.ty t a,Γ,N,sc,X,C,p,h=>by
  obtain⟨g,args,_,_,rfl,h9⟩:=Bm h
  clear h
  have h:=h9
  clear h9
  obtain⟨pa,pb,z2,h2⟩:=Ee h
  obtain⟨tn,_,z3,h3⟩:=ML h2
  dsimp only at z2 z3;subst z2 z3
  clear h h2
  have h:=h3
  clear h3
  replace h:=az h
  try simp! [zza,zzy] at h
  obtain⟨⟨⟨⟨⟨⟨rfl,h1⟩,h2⟩,rfl⟩,h3⟩,h4⟩,h5⟩:=h
  exact bz (Kz C h1 h2 h3 h4 (bx a C pa h5).ge (notStar h5)) (λ_=>rfl) (λ_ _ _ z=>nomatch z)
 |.bin o a b,Γ,N,sc,X,C,p,h=>by
  obtain⟨q,e,h1⟩:=aj h
  obtain⟨_,rfl⟩:=HC e
  clear h
  have h:=az h1
  have h0:=az h.1
  rw [<-zzY h0.1];exact bz (HJ C (bx a C _ h0.2).ge (bx b C _ h.2).ge) (λ_=>rfl) (λ_ _ _ z=>nomatch z)
 |.cmp o a b,Γ,N,sc,X,C,p,h=>by
  obtain⟨pa,ops,cs,_,rfl,h1⟩:=PZ h
  obtain⟨op,z2,h2⟩:=jh h1
  obtain⟨pb,z3,h3⟩:=jh h2
  dsimp only at z2 z3;subst z2 z3
  clear h h1 h2
  have h:=h3
  clear h3
  replace h:=az h
  have h0:=az h.1
  cases zzY h0.1;have h1:=h0.2
  have h2:=h.2
  exact⟨Js C (bx a C _ h1).ge (bx b C _ h2).ge (pY h2 _),λ_=>Io C (bx a C _ h1).ge (bx b C _ h2).ge (pY h2 _),(λ_ _ _ _ z=>nomatch z)⟩
 |.ch o1 o2 a b c,Γ,N,sc,X,C,p,h=>by
  obtain⟨pa,ops,cs,_,rfl,h1⟩:=PZ h
  obtain⟨op1,op2,z2,h2⟩:=Ee h1
  obtain⟨pb,pc,z3,h3⟩:=Ee h2
  dsimp only at z2 z3;subst z2 z3
  clear h h1 h2
  have h:=h3
  clear h3
  replace h:=az h
  try simp! [zza,zzN] at h
  obtain⟨⟨⟨⟨rfl,rfl⟩,h1⟩,h2⟩,h3⟩:=h
  have hm:lastMarks [qh o1,qh o2] [pb,pc]=false:=pY h3 _
  exact⟨Mv C (bx a C _ h1).ge (bx b C _ h2).ge (bx c C _ h3).ge hm,λ_=>Ll C (bx a C _ h1).ge (bx b C _ h2).ge (bx c C _ h3).ge hm,(λ_ _ _ _ z=>nomatch z)⟩
 |.not a,Γ,N,sc,X,C,p,h=>by
  obtain⟨o,pa,_,rfl,h1⟩:=P4 h
  clear h
  have h:=az h1
  cases zE h.1;have s:=bx a C pa h.2
  exact⟨JB s.ge,λz=>Gp (s.gt (by simpa only [fW] using z)),(λ_ _ _ _ z=>nomatch z)⟩
 |.neg a,Γ,N,sc,X,C,p,h=>by
  obtain⟨o,pa,_,rfl,h1⟩:=P4 h
  clear h
  have h:=az h1
  cases AA h.1;exact bz (F3 (bx a C pa h.2).ge) (λ_=>rfl) (λ_ _ _ z=>nomatch z)
 |.and a b,Γ,N,sc,X,C,p,h=>by
  obtain⟨o,vs,pos,rfl,h1⟩:=Qo h
  obtain⟨⟨pa,pb⟩,e2,h2⟩:=aj h1
  clear h h1
  have h:=az h2
  clear h2
  try simp! [zza] at h
  obtain⟨⟨⟨h0,he⟩,h1⟩,h2⟩:=h
  cases Aq h0;have sa:=bx a C pa h1
  have sb:=bx b C pb h2
  rcases AF e2 with z|⟨q,c,r,z,z2⟩
  ·dsimp only at z;subst z;have gw:fW (.and a b)=true->GW X W F (.and a b) (.BoolOp .And [pa,pb] pos):=λz=>by
    have z:=az z
    exact zx (sa.gt z.1) (pw_and1 (sb.gt z.2))
   exact⟨x6 he sa.ge (x9 sb.ge),λz=>(gw z).pt,λz _ _ _ _=>gw z⟩
  ·dsimp only at z z2;subst z z2;have gw:fW (.and a b)=true->GW X W F (.and a b) (.BoolOp .And (pa::q::c::r) pos):=λz=>by
    have z:=az z
    exact zx (sa.gt z.1) (sb.gw z.2 _ _ _ rfl)
   exact⟨x6 he sa.ge sb.ge,λz=>(gw z).pt,λz _ _ _ _=>gw z⟩
 |.or a b,Γ,N,sc,X,C,p,h=>by
  obtain⟨o,vs,pos,rfl,h1⟩:=Qo h
  obtain⟨⟨pa,pb⟩,e2,h2⟩:=aj h1
  clear h h1
  have h:=az h2
  clear h2
  try simp! [zza] at h
  obtain⟨⟨⟨h0,he⟩,h1⟩,h2⟩:=h
  cases Dk h0;have sa:=bx a C pa h1
  have sb:=bx b C pb h2
  rcases AF e2 with z|⟨q,c,r,z,z2⟩
  ·dsimp only at z;subst z;have gw:fW (.or a b)=true->GW X W F (.or a b) (.BoolOp .Or [pa,pb] pos):=λz=>by
    have z:=az z
    exact FF (sa.gt z.1) (pw_or1 (sb.gt z.2))
   exact⟨Fp he sa.ge (x9 sb.ge),λz=>(gw z).pt,λz _ _ _ _=>gw z⟩
  ·dsimp only at z z2;subst z z2;have gw:fW (.or a b)=true->GW X W F (.or a b) (.BoolOp .Or (pa::q::c::r) pos):=λz=>by
    have z:=az z
    exact FF (sa.gt z.1) (sb.gw z.2 _ _ _ rfl)
   exact⟨Fp he sa.ge sb.ge,λz=>(gw z).pt,λz _ _ _ _=>gw z⟩
 |.ite c a b,Γ,N,sc,X,C,p,h=>by
  obtain⟨q,e,h1⟩:=aj h
  obtain⟨_,rfl⟩:=Ij e
  clear h
  have h:=az h1
  clear h1
  try simp! [zza] at h
  obtain⟨⟨⟨⟨⟨h0,h1⟩,h2⟩,h3⟩,h4⟩,h5⟩:=h
  exact⟨GD h1 h2 ((bx c C _ h3).gt h0) (bx a C _ h4).ge (bx b C _ h5).ge,(λz=>nomatch z),(λ_ _ _ _ z=>nomatch z)⟩
 |.tup as,Γ,N,sc,X,C,p,h=>by
  obtain⟨ps,e,h1⟩:=aj h
  obtain⟨_,_,rfl⟩:=vi e
  clear h
  have h:=az h1
  have h0:=az h.1
  exact bz (Hy h0.1 (zzY h0.2) (k7 as C _ h.2)) (λ_=>rfl) (λ_ _ _ z=>nomatch z)
 |.lst as,Γ,N,sc,X,C,p,h=>by
  obtain⟨ps,e,h1⟩:=aj h
  obtain⟨_,rfl⟩:=zR e
  clear h
  have h:=az h1
  have h0:=az h.1
  exact bz ((Aa h0.1 (zzY h0.2) (k7 as C _ h.2)).ge lst_is) (λ_=>rfl) (λ_ _ _ z=>nomatch z)
 |.sub a b,Γ,N,sc,X,C,p,h=>by
  obtain⟨pa,pb,_,rfl,h9⟩:=QU h
  clear h
  have h:=h9
  clear h9
  replace h:=az h
  exact bz (Iz C (bx a C _ h.1).ge (bx b C _ h.2).ge (yB h.2)) (λ_=>rfl) (λ_ _ _ z=>nomatch z)
 |.get a k,Γ,N,sc,X,C,p,h=>by
  obtain⟨⟨f,as,kws,pos⟩,e3,h3⟩:=aj h
  have z3:=jb e3
  obtain⟨⟨po,attr,apos⟩,e4,h4⟩:=aj h3
  have z4:=ym e4
  obtain⟨pk,z5,h5⟩:=jh h4
  have g:=az h5
  simp! [zza] at g;obtain⟨⟨⟨⟨⟨n1,e1⟩,h6⟩,h7⟩,h8⟩,h9⟩:=g
  have z6:=Ei n1
  cases zzy.mp e1;dsimp only at z3 z4 z5 z6;subst z3 z4 z5 z6;exact bz (F2 C (bx a C po h8).ge (bx k C pk h9).ge (zM h7) h6 (notStar h9 _ _)) (λ_=>rfl) (λ_ _ _ z=>nomatch z)
 |.yP a,Γ,N,sc,X,C,p,h=>by
  obtain⟨g,args,_,_,rfl,h9⟩:=Bm h
  clear h
  have h:=h9
  clear h9
  obtain⟨z,z2,h2⟩:=jh h
  obtain⟨g2,a2,_,_,z3,h3⟩:=Bm h2
  obtain⟨pa,z4,h4⟩:=jh h3
  dsimp only at z2 z3 z4;subst z2 z3 z4
  clear h h2 h3
  have h:=az h4
  clear h4
  simp! [zza] at h;obtain⟨⟨⟨⟨⟨⟨e1,h1⟩,h2⟩,e2⟩,h3⟩,h4⟩,h5⟩:=h
  cases zzy.mp e1;cases zzy.mp e2;exact bz (C7 C h1 h2 h3 h4 (bx a C pa h5).ge (notStar h5 _ _)) (λ_=>rfl) (λ_ _ _ z=>nomatch z)
 |.slice a lo hi,Γ,N,sc,X,C,p,h=>by
  obtain⟨pa,ps,_,rfl,h1⟩:=QU h
  obtain⟨pl,ph,pst,_,z2,h2⟩:=S5 h1
  clear h h1
  have h:=az h2
  simp! [zza] at h;have w:=OC h.1.1.1
  dsimp only at z2 w;subst z2 w;exact bz (yw C (bx a C _ h.1.1.2).ge (My lo C pl h.1.2) (My hi C ph h.2)) (λ_=>rfl) (λ_ _ _ z=>nomatch z)
 |.comp kk aU tg it elt,Γ,N,sc,X,C,p,h=>by
  obtain⟨eU,gens,scope,_,rfl,h1⟩:=M7 h
  obtain⟨⟨cE,f6,ifs,asy⟩,z2,h2⟩:=jh h1
  have h3:=az h2
  have z3:=Ei h3.1
  dsimp only at z2 z3;subst z2 z3
  clear h h1 h2
  have h:=az h3.2
  clear h3
  simp! [zza] at h;obtain⟨⟨⟨⟨⟨⟨h1,h2⟩,h3⟩,h4⟩,h5⟩,h6⟩,iw⟩:=h
  have iw:=zzY iw
  subst iw;exact bz ((uR C (iX h1) h2 h3 (Au it C cE f6 h4) (iQ h4 _) h5 λY CY=>(bx elt CY eU h6).ge).ge vA) (λ_=>rfl) (λ_ _ _ z=>nomatch z)
 |.bT kk aU tg it c elt,Γ,N,sc,X,C,p,h=>by
  obtain⟨eU,gens,scope,_,rfl,h1⟩:=M7 h
  obtain⟨⟨cE,f6,ifs,asy⟩,z2,h2⟩:=jh h1
  obtain⟨pc,z3,h3⟩:=jh h2
  dsimp only at z2 z3;subst z2 z3
  clear h h1 h2
  have h:=az h3
  clear h3
  simp! [zza] at h;obtain⟨⟨⟨⟨⟨⟨⟨⟨h0,h1⟩,h2⟩,h3⟩,h4⟩,h5⟩,h6⟩,h7⟩,iw⟩:=h
  have iw:=zzY iw
  subst iw;exact bz ((nO C (iX h1) h2 h3 (Au it C cE f6 h4) (iQ h4 _) h5 (λY CY=>(bx c CY pc h6).gt h0) λY CY=>(bx elt CY eU h7).ge).ge n5) (λ_=>rfl) (λ_ _ _ z=>nomatch z)
theorem k7:∀(es:Es) {Γ:Pg} {N:List Str} {sc:Scope} {X:Cx} (C:dO Γ F W N sc k X) (ps:List Expr),jv Γ N sc es ps=true->GA X W F es ps
 |.nil,Γ,N,sc,X,C,ps,h=>by
  cases ps with
  |nil=>exact Gu
  |cons _ _=>exact bj h
 |.cons e es,Γ,N,sc,X,C,ps,h=>by
  cases ps with
  |nil=>exact bj h
  |cons p ps=>
   replace h:=az h
   exact DG (bx e C p h.1).ge (k7 es C ps h.2) (notStar h.1 _ _)
theorem FG:∀(es:Es) {Γ:Pg} {N:List Str} {sc:Scope} {X:Cx} (C:dO Γ F W N sc k X) (hl:Γ.hl=true) (g:Str) (idx aU:List Nat) (ps:List Expr),g8 es=true->uD Γ N sc g idx aU es ps=true->PA X ps (Lr X W F N sc g idx aU es)
 |.nil,Γ,N,sc,X,C,hl,g,idx,aU,ps,he,h=>by
  obtain⟨p,e1,h⟩:=aj h
  obtain⟨l,e2,h⟩:=aj h
  rw [dh e1];obtain⟨_,rfl⟩:=sQ e2
  replace h:=az h
  have h1:=az h.1
  exact Ds C hl ⟨h1.1,zzY h1.2,λy hy=>zzY (zzT.mp h.2 y hy)⟩
 |.cons e es,Γ,N,sc,X,C,hl,g,idx,aU,ps,he,h=>by
  cases ps with
  |nil=>exact bj h
  |cons p ps=>
   replace h:=az h
   have Iw:=az (show(gA e&&g8 es)=true from he)
   exact xY he (bx e C p h.1).ge (FG es C hl g idx aU ps Iw.2 h.2) (notStar h.1 _ _)
theorem My:∀(o:Oe) {Γ:Pg} {N:List Str} {sc:Scope} {X:Cx} (C:dO Γ F W N sc k X) (p:Option Expr),HA Γ N sc o p=true->PO X p (zC X W F o)
 |.no,Γ,N,sc,X,C,p,h=>by
  cases p with
  |none=>exact B1
  |some _=>exact bj h
 |.some e,Γ,N,sc,X,C,p,h=>by
  cases p with
  |none=>exact bj h
  |some p=>
   exact BA (bx e C p h).ge
theorem Au:∀(it:I) {Γ:Pg} {N:List Str} {sc:Scope} {X:Cx} (C:dO Γ F W N sc k X) (tg p:Expr),xu Γ N sc tg it p=true->GI X W F tg it p
 |.seq e,Γ,N,sc,X,C,tg,p,h=>by
  exact GX C (bx e C p h).ge
 |.qR e,Γ,N,sc,X,C,tg,p,h=>by
  obtain⟨g,args,_,_,rfl,h9⟩:=Bm h
  clear h
  have h:=h9
  clear h9
  obtain⟨q,z2,h2⟩:=jh h
  dsimp only at z2;subst z2
  clear h
  have h:=az h2
  clear h2
  simp! [zza] at h;obtain⟨⟨⟨e1,h1⟩,h2⟩,h3⟩:=h
  cases zzy.mp e1;exact Jr C h1 h2 (notStar h3) (bx e C q h3).ge
 |.lF a b,Γ,N,sc,X,C,tg,p,h=>by
  obtain⟨g,args,_,_,rfl,h9⟩:=Bm h
  clear h
  have h:=h9
  clear h9
  obtain⟨q,r,z2,h2⟩:=Ee h
  dsimp only at z2;subst z2
  clear h
  have h:=az h2
  clear h2
  simp! [zza] at h;obtain⟨⟨⟨⟨e1,h1⟩,h2⟩,h3⟩,h4⟩:=h
  cases zzy.mp e1;exact BX C h1 h2 (notStar h3) (notStar h4) (bx a C q h3).ge (bx b C r h4).ge
 |.enum e,Γ,N,sc,X,C,tg,p,h=>by
  obtain⟨g,args,_,_,rfl,h9⟩:=Bm h
  clear h
  have h:=h9
  clear h9
  obtain⟨q,z2,h2⟩:=jh h
  dsimp only at z2;subst z2
  clear h
  have h:=az h2
  clear h2
  simp! [zza] at h;obtain⟨⟨⟨⟨h0,e1⟩,h1⟩,h2⟩,h3⟩:=h
  cases zzy.mp e1;cases tg<;>first|(exact bj h0)|skip
  exact Cz C h1 h2 (notStar h3) (bx e C q h3).ge
end
end
end Ci
namespace L2
open PySem PySem.Spec PyProof.Rows
section
variable{X:Cx}{scope:Scope}{xs ys:List Str}{is:List Nat}
theorem r9{i₀:Nat}{x₀:Str}{pos' fZ:Pos}{elt tg iter:Expr}{pos:Pos}{wi:TI}{g:TG}{te:TE}(hN₀:X.N.Nodup)(hi₀:X.N[i₀]?=some x₀)(hx₀:Loc X.env.scope x₀)(hc:X.calm=true)(S:eV X scope xs ys is)(hi:PI X tg iter wi)
 (hg:∀fp s1 H1 C,PG (bW X (xs++ys) scope (bH X.env ys) fp s1 H1 C) tg g) (he:∀fp s1 H1 C,PE (bW X (xs++ys) scope (bH X.env ys) fp s1 H1 C) elt te)
 (wc:swapsWith (.ListComp elt [⟨tg,iter,[],0⟩] scope pos) (some (.Name x₀ pos')) fZ.line X.env=pure true:=by rfl)
 (hs:∀x,foldedSetIterable iter X.env x=pure x:=by intro _;rfl) (hf₀:X.fn x₀=true\/X.env.scope.names.lookup x₀=some .local:=by first|exact .inl rfl|exact .inr rfl|assumption):
 PS X (.Assign [.Name x₀ pos'] (.ListComp elt [⟨tg,iter,[],0⟩] scope pos) fZ) (B3 (AZ wi xs.length g te is) (gH i₀)):=by
 intro ae s σ H D₀ I h;rw [exec_Assign_Name_used _ _ _ _ wc];refine zzA (wpAny_standAt (zzA ?_));show wpAny _ X.A (do let _<-comprehension (.ListComp elt [⟨tg,iter,[],0⟩] scope pos) scope X.env _ (newList []) false (eval iter X.env) (some (assign (.Name x₀ pos') X.env))) _ _ s;refine zzA (wpAny_mono (gW (QQ:=λ_ s'=>∃σ2 H2,Inv X ae σ2 H2 s'/\D₀.nx σ2 H2) (Q:=λv H4=>gH i₀ v σ H4 D₀.nx) hc S hi hg (λ_ _ _ _=>uN) he hs I h λD C s4 H4 m I5 hn ⟨g0,g1,_,g3,g4,g5⟩ q=>?_) (λ_ s' hq=>zzG (zzG hq)) λ_ _ e=>e)
 refine wpAny_assign_Name (jk I5 hN₀ hi₀ hx₀ (show RelV (.ref D) (.ref D) from rfl) (λs6 I6 ⟨a6,sb6,ha6⟩=>?_) hf₀);have xW:C≠a6:=by
  rcases ha6 with z|z
  ·rw [z];exact g1
  ·exact λz2=>g4 _ _ z z2.symm
 exact⟨m,hn.sameBut sb6 xW,λh' xh=>⟨_,_,I6.turned (t':=s6.toks) (it:=C) (λb o hb e=>xh.extBut b o hb e) g0 g1 g3 g4 g5,q⟩⟩
end
end L2
namespace Ci
open PySem L2
section
variable{W:Wd}{G0 H0 G H:Hp}{env:Sl}{σ:St}
def Own.FJ{p:PV}{v:V}(h:Own W H0 G H p v):∃a o,v=.ref a/\H a=some o/\G a=none/\H0 a=none/\((∀G',aA G G'->G' a=some o->Rep W G' p (.ref a))\/∃aw,o=.dT aw/\∀ob G',aA G G'->G' a=some (.bp ob (.dT aw))->Rep W G' p (.ref a)):=by
 cases p with
 |lst xs=>
  obtain⟨a,vs,rfl,h1,h2,h3,l⟩:=h
  exact⟨a,_,rfl,h1,h2,h3,.inl λG' s e=>.l (.inl (.inl e)) (ai.same s xs l)⟩
 |bw ks ps=>
  obtain⟨a,us,rfl,n,h1,h2,h3,l⟩:=h
  exact⟨a,_,rfl,h1,h2,h3,.inr ⟨_,rfl,λob G' s e=>by simp! [Rep];exact⟨a,ob,us,rfl,n,e,ai.same s ps l⟩⟩⟩
 |aC=>exact h.elim
 |bl _=>exact h.elim
 |int _=>exact h.elim
 |str _=>exact h.elim
 |tup _=>exact h.elim
 |exc _=>exact h.elim
theorem Own.zj{p:PV}{a:Addr}(h:Own W H0 G H p (.ref a))(ps:Array Value):H a≠some (.fY ps):=λz=>by
 cases p with
 |lst xs=>obtain⟨b,vs,e,h1,_⟩:=h;cases e;rw [z] at h1;cases h1
 |bw ks qs=>
  obtain⟨b,us,e,_,h1,_⟩:=h
  cases e;rw [z] at h1;cases h1
 |aC=>exact h.elim
 |bl _=>exact h.elim
 |int _=>exact h.elim
 |str _=>exact h.elim
 |tup _=>exact h.elim
 |exc _=>exact h.elim
theorem qa{a:Addr}{ob:HO}{H':Hp}(t:cK W G H)(hG:G a=none)(n:∀ps,H a≠some (.fY ps))(hH:∀b,b≠a->H' b=H b):cK W (upd G a ob) H':=λP q m=>by
 obtain⟨n1,ps,e,tr,al⟩:=t P q m
 have hP:P≠a:=λz=>by subst z;exact n ps e
 refine⟨by rw [ag hP];exact n1,ps,by rw [hH P hP];exact e,tr,λpos cv y=>?_⟩
 obtain⟨c',oc,df,t',e1,e2,e3,e4⟩:=al pos cv y
 exact⟨c',oc,df,t',e1,bB hG _ _ e2,e3,e4⟩
def Own.eP{p:PV}{v:V}{a:Addr}{G' H':Hp}(h:Own W H0 G H p v)(hv:v≠.ref a)(sG:aA G G')(hG:∀b,b≠a->G' b=G b)(hH:∀b,b≠a->H' b=H b):Own W H0 G' H' p v:=by
 cases p with
 |lst xs=>
  obtain⟨b,vs,rfl,h1,h2,h3,l⟩:=h
  have hb:b≠a:=λz=>hv (by rw [z])
  exact⟨b,vs,rfl,by rw [hH b hb];exact h1,by rw [hG b hb];exact h2,h3,ai.same sG xs l⟩
 |bw ks ps=>
  obtain⟨b,us,rfl,n,h1,h2,h3,l⟩:=h
  have hb:b≠a:=λz=>hv (by rw [z])
  exact⟨b,us,rfl,n,by rw [hH b hb];exact h1,by rw [hG b hb];exact h2,h3,ai.same sG ps l⟩
 |aC=>exact h.elim
 |bl _=>exact h.elim
 |int _=>exact h.elim
 |str _=>exact h.elim
 |tup _=>exact h.elim
 |exc _=>exact h.elim
def getElem?_modify{α:Type}(l:List α)(i j:Nat)(f:α->α):(l.modify i f)[j]?=if i=j then(l[j]?).map f else l[j]?:=by
 rw [List.getElem?_modify];split<;>simp_all
def qW(r:SR W H0 env σ G H)(g:aB W G0 H0 G H){i:Nat}{p:PV}{a:Addr}{ob J0:HO}{H':Hp}(hp:env[i]?=some (.own p))(ho:σ[i]?=some (some (.ref a)))(L6:Own W H0 G H p (.ref a))(hH:H a=some ob)(hG:G a=none)(Bs:H0 a=none)
 (yZ:∀G',aA G G'->G' a=some J0->Rep W G' p (.ref a)) (h1:H' a=some J0) (h2:∀b,b≠a->H' b=H b):SR W H0 (env.modify i oe) σ (upd G a J0) H'/\aB W G0 H0 (upd G a J0) H':=by
 have sG:aA G (upd G a J0):=bB hG
 have sub:aA (upd G a J0) H':=λb u e=>by
  by_cases hb:b=a
  ·subst hb;rw [aq] at e;cases e;exact h1
  ·rw [ag hb] at e;rw [h2 b hb];exact r.sub _ _ e
 have base:∀{B:Hp},B a=none->iA B H->iA B H':=λhB k b u e=>by
  have hb:b≠a:=λz=>by rw [z,hB] at e;cases e
  rw [h2 b hb];exact k b u e
 refine⟨⟨by rw [List.length_modify];exact r.len,sub,base Bs r.base,λj s e=>?_,λj l q q' c e1 e2 e3 e4=>?_,qa r.tab hG L6.zj h2,qa r.mK hG (λps z=>by rw [Bs] at z;cases z) λ_ _=>rfl⟩,⟨g.g.trans sG,base Bs g.h,sub,λb h3 h5 h4=>?_,λt=>qa (g.tab t) hG L6.zj h2⟩⟩
 ·rw [getElem?_modify] at e;split at e
  ·rename_i z;subst z;rw [hp] at e;cases e;exact⟨_,ho,_,rfl,yZ _ sG aq⟩
  ·rename_i z;obtain⟨o2,k1,k2⟩:=r.slot j s e
   refine⟨o2,k1,?_⟩;cases s with
   |no=>exact trivial
   |val q=>
    obtain⟨v2,rfl,rv⟩:=k2
    exact⟨v2,rfl,Rep.same sG q rv⟩
   |fn _ _ _=>
    obtain⟨v2,rfl,rv⟩:=k2
    exact⟨v2,rfl,rv.same sG⟩
   |own q=>
    obtain⟨v2,rfl,ov⟩:=k2
    refine⟨v2,rfl,ov.eP (a:=a) (λzz=>?_) sG (λb hb=>ag hb) h2⟩;subst zz;exact z (r.apart i j p q a hp e ho k1)
 ·rw [getElem?_modify] at e1 e2;have ne:∀{j:Nat} {q:PV},(if i=j then(env[j]?).map oe else env[j]?)=some (.own q)->i≠j/\env[j]?=some (.own q):=λ{j q} e=>by
   split at e
   ·rename_i z;subst z;rw [hp] at e;cases e
   ·rename_i z;exact⟨z,e⟩
  exact r.apart j l q q' c (ne e1).2 (ne e2).2 e3 e4
 ·have hb:b≠a:=λz=>h3 (by rw [z];exact Bs)
  rw [ag hb];exact g.own b h3 h5 h4
def FU(r:SR W H0 env σ G H)(g:aB W G0 H0 G H)(i:Nat):(∃G',SR W H0 (env.modify i oe) σ G' H/\aB W G0 H0 G' H)\/∃a aw,H a=some (.dT aw)/\∀o,∃G',SR W H0 (env.modify i oe) σ G' (upd H a (.bp o (.dT aw)))/\aB W G0 H0 G' (upd H a (.bp o (.dT aw))):=by
 have same:(∀p,env[i]?≠some (.own p))->env.modify i oe=env:=λh=>by
  refine List.ext_getElem? λj=>?_
  rw [getElem?_modify];split
  ·rename_i e;subst e;cases q:env[i]? with
   |none=>rfl
   |some s=>
    cases s with
    |own p=>exact absurd q (h p)
    |no=>rfl
    |val p=>rfl
    |fn _ _ _=>rfl
  ·rfl
 by_cases hx:∃p,env[i]?=some (.own p)
 ·obtain⟨p,hp⟩:=hx
  obtain⟨o,ho,v,rfl,ow⟩:=r.slot i _ hp
  have L6:=ow
  obtain⟨a,ob,rfl,hH,hG,Bs,yZ|⟨aw,rfl,yZ⟩⟩:=ow.FJ
  ·obtain⟨k1,k2⟩:=qW r g hp ho L6 hH hG Bs yZ hH λ_ _=>rfl
   exact .inl ⟨_,k1,k2⟩
  ·refine .inr ⟨a,aw,hH,λo=>?_⟩
   obtain⟨k1,k2⟩:=qW r g hp ho L6 hH hG Bs (yZ o) aq λb hb=>ag hb
   exact⟨_,k1,k2⟩
 ·exact .inl ⟨G,by rw [same λp z=>hx ⟨p,z⟩];exact r,g⟩
def lV(r:SR W H0 env σ G H)(g:aB W G0 H0 G H){i:Nat}{p p':PV}{a:Addr}{ob:HO}(hp:env[i]?=some (.own p))(hs:σ[i]?=some (some (.ref a)))(hG:G a=none)(Bs:H0 a=none)(hn:Own W H0 G (upd H a ob) p' (.ref a)):
 SR W H0 (env.set i (.own p')) σ G (upd H a ob)/\aB W G0 H0 G (upd H a ob):=by
 have cC:i<env.length:=(zzH.mp hp).1
 have SH:∀ps,H a≠some (.fY ps):=by
  obtain⟨o2,h1,v2,rfl,ow⟩:=r.slot i _ hp
  rw [hs] at h1;cases h1;exact ow.zj
 have tab:∀{G1:Hp},cK W G1 H->cK W G1 (upd H a ob):=λt=>t.same (aA.refl _) (λ_ _ _ h=>h) (oN SH)
 refine⟨⟨by rw [List.length_set];exact r.len,λb u e=>?_,λb u e=>?_,λj s e=>?_,λj l q q' c e1 e2 e3 e4=>?_,tab r.tab,r.mK⟩,⟨g.g,λb u e=>?_,λb u e=>?_,g.own,λt=>tab (g.tab t)⟩⟩
 ·rw [ag (λz=>by subst z;rw [hG] at e;cases e)];exact r.sub _ _ e
 ·rw [ag (λz=>by subst z;rw [Bs] at e;cases e)];exact r.base _ _ e
 ·by_cases hj:i=j
  ·subst hj;rw [zzo cC] at e;cases e;exact⟨_,hs,_,rfl,hn⟩
  ·rw [zzS hj] at e;obtain⟨o2,h1,h2⟩:=r.slot j s e
   refine⟨o2,h1,?_⟩;cases s with
   |no=>exact trivial
   |val q=>exact h2
   |fn _ _ _=>exact h2
   |own q=>
    obtain⟨v2,rfl,ov⟩:=h2
    refine⟨v2,rfl,ov.eP (a:=a) (λzz=>?_) (aA.refl _) (λb hb=>rfl) λb hb=>ag hb⟩
    subst zz;exact hj (r.apart i j p q a hp e hs h1)
 ·have tr:∀{j:Nat} {q:PV},(env.set i (.own p'))[j]?=some (.own q)->∃q2,env[j]?=some (.own q2):=λ{j q} e=>by
   by_cases hj:i=j
   ·subst hj;exact⟨p,hp⟩
   ·rw [zzS hj] at e;exact⟨q,e⟩
  obtain⟨q2,f1⟩:=tr e1
  obtain⟨q3,f2⟩:=tr e2
  exact r.apart j l q2 q3 c f1 f2 e3 e4
 ·rw [ag (λz=>by subst z;rw [Bs] at e;cases e)];exact g.h _ _ e
 ·rw [ag (λz=>by subst z;rw [hG] at e;cases e)];exact g.sub _ _ e
def ub(r:SR W H0 env σ G H)(g:aB W G0 H0 G H){i:Nat}{p:PV}{a:Addr}{ob:HO}(hi:i<env.length)(ha:H a=none)(hn:Own W H0 G (upd H a ob) p (.ref a)):
 SR W H0 (env.set i (.own p)) (σ.set i (some (.ref a))) G (upd H a ob)/\aB W G0 H0 G (upd H a ob):=by
 have gm:aB W G H G (upd H a ob):=.OK r.sub ha
 have r1:=r.grow gm
 have old:∀{j:Nat} {q:PV},env[j]?=some (.own q)->σ[j]?=some (some (.ref a))->False:=λ{j q} e1 e2=>by
  obtain⟨o2,h1,v2,rfl,ov⟩:=r.slot j _ e1
  rw [e2] at h1;cases h1;obtain⟨a',o',e3,hH,_⟩:=ov.FJ
  cases e3;rw [ha] at hH;cases hH
 refine⟨⟨by rw [List.length_set,List.length_set];exact r.len,r1.sub,r1.base,λj s e=>?_,λj l q q' c e1 e2 e3 e4=>?_,r1.tab,r1.mK⟩,g.trans gm⟩
 ·by_cases hj:i=j
  ·subst hj;rw [zzo hi] at e;cases e;exact⟨_,zzo (by rw [<-r.len];exact hi),_,rfl,hn⟩
  ·rw [zzS hj] at e;obtain⟨o2,h1,h2⟩:=r1.slot j s e
   exact⟨o2,by rw [zzS hj];exact h1,h2⟩
 ·by_cases hj:i=j
  ·by_cases hl:i=l
   ·exact hj.symm.trans hl
   ·exfalso
    subst hj;rw [zzo (by rw [<-r.len];exact hi)] at e3;rw [zzS hl] at e2 e4;cases e3;exact old e2 e4
  ·by_cases hl:i=l
   ·exfalso
    subst hl;rw [zzo (by rw [<-r.len];exact hi)] at e4;rw [zzS hj] at e1 e3;cases e4;exact old e1 e3
   ·rw [zzS hj] at e1 e3;rw [zzS hl] at e2 e4;exact r.apart j l q q' c e1 e2 e3 e4
end
def i4:E->Bool
 |.lst _=>true
 |.comp _ _ _ _ _=>true
 |.bT _ _ _ _ _ _=>true
 |_=>false
def i9:Expr->Bool
 |.ListComp .. =>false
 |.SetComp .. =>false
 |.DictComp .. =>false
 |_=>true
def yG:Expr->Bool
 |.Tuple .. =>false
 |_=>true
noncomputable def Ov(sc:Scope)(x:Str)(xp:Pos):Expr->Bool
 |.ListComp _ _ s p=>sc.names.lookup x==some .local&&xp.line==p.line&&!(s.names.any λ(n,k)=>n==x&&(k==.local||k==.cell))
 |_=>false
def JH(ts:List Expr):Option Str:=(fb ts).bind fx
def JX:List Keyword->Option (Str×Expr)
 |[⟨some n,v,_⟩]=>some (n,v)
 |_=>none
def HS{ks:List Keyword}{q:Str×Expr}(h:JX ks=some q):∃p,ks=[⟨some q.1,q.2,p⟩]:=by
 cases ks with
 |nil=>exact ij h
 |cons k ks=>
  obtain⟨kn,kv,kp⟩:=k
  cases kn with
  |none=>exact ij h
  |some n=>
   cases ks with
   |cons _ _=>exact ij h
   |nil=>cases h;exact⟨_,rfl⟩
noncomputable def Nb(e:Expr):Option (Str×Str×List Expr):=(FN e).bind λq=>(Ma q.1).bind λr=>(fx r.1).bind λx=>if(q.2.2.1.isEmpty&&r.2.2.endLine==q.2.2.2.line)=true then some (x,r.2.1,q.2.1) else none
noncomputable def QB(e:Expr):Option (Str×Arguments×Expr×Scope):=(FN e).bind λq=>(fx q.1).bind λf=>(fb q.2.1).bind λa=>(fx a).bind λx=>(JX q.2.2.1).bind λr=>(Pr r.2).bind λl=>if(f=="min"&&r.1=="key")=true then some (x,l.1,l.2.1,l.2.2) else none
def Jd{e:Expr}{c:Str×Arguments×Expr×Scope}(h:QB e=some c):∃q1 q2 q3 q4 q5,e=.Call (.Name "min" q1) [.Name c.1 q2] [⟨some "key",.Lambda c.2.1 c.2.2.1 c.2.2.2 q3,q4⟩] q5:=by
 obtain⟨⟨f,a,k,p⟩,h1,h⟩:=mr h
 obtain⟨g,h2,h⟩:=mr h
 obtain⟨b,h3,h⟩:=mr h
 obtain⟨x,h4,h⟩:=mr h
 obtain⟨⟨n,v⟩,h5,h⟩:=mr h
 obtain⟨⟨l1,l2,l3⟩,h6,h⟩:=mr h
 obtain⟨h7,rfl⟩:=if1 h
 rw [zza,zzy,zzy] at h7;obtain⟨rfl,z8⟩:=h7
 obtain⟨p2,z2⟩:=b9 h2
 obtain⟨p4,z4⟩:=b9 h4
 obtain⟨p5,z5⟩:=HS h5
 obtain⟨p6,z6⟩:=sQ h6
 have z3:=dh h3
 dsimp only at z2 z3 z4 z5 z6 z8;subst z2 z3 z4 z5 z6 z8;exact⟨_,_,_,_,_,jb h1⟩
def Df(x p:Str)(e:Expr):Bool:=(HN e).any λq=>(HN q.1).any λr=>fx r.1==some x&&fx r.2==some p&&(Lk q.2).bind Nw==some 0
noncomputable def vk(x:Str)(params:Arguments)(body:Expr)(scope:Scope):Bool:=match p7 params with
 |some [p]=>Df x p body&&decide (aZ scope=[x])&&M9 [p] scope&&okN p&&okN x
 |_=>false
def yU{x:Str}{params:Arguments}{body:Expr}{scope:Scope}(h:vk x params body scope=true):∃p,p7 params=some [p]/\tD p x params body scope/\aZ scope=[x]/\okN x=true:=by
 unfold vk at h;split at h
 ·rename_i p e;simp! [zza,zzN] at h;obtain⟨⟨⟨⟨h1,h2⟩,h3⟩,h4⟩,h5⟩:=h
  refine⟨p,e,⟨?_,by rw [<-h2];exact Av h3,(dn h4).1,(dn h4).2.1,(dn h5).1,(dn h5).2.1⟩,h2,h5⟩;obtain⟨⟨a,b⟩,e1,h6⟩:=aj h1
  obtain⟨⟨c,d⟩,e2,h7⟩:=aj h6
  simp! [zza,zzy] at h7;obtain⟨p1,rfl⟩:=oQ e1
  obtain⟨p2,z2⟩:=oQ e2
  obtain⟨p3,z3⟩:=b9 h7.1.1
  obtain⟨p4,z4⟩:=b9 h7.1.2
  obtain⟨c5,y5,y6⟩:=mr h7.2
  obtain⟨p5,p6,z5⟩:=uj y5
  cases Ab y6;dsimp only at z2 z3 z4 z5;subst z3 z4 z5 z2;exact⟨_,_,_,_,_,_,rfl⟩
 ·cases h
def OT(ts:List Expr):Option (Str×Expr):=(fb ts).bind λt=>(HN t).bind λq=>(fx q.1).bind λx=>some (x,q.2)
noncomputable def Rw(o:Option Expr):Option (Str×Str):=o.bind λe=>(FN e).bind λq=>(fx q.1).bind λx=>(fb q.2.1).bind λa=>(Lk a).bind λc=>(Gy c).bind λz=>if q.2.2.1.isEmpty=true then some (x,z) else none
def OU:PV->Const->Bool
 |.bl b,.bool c=>b==c
 |.int m,.int n=>m==n
 |_,_=>false
def uW:Stmt->Option (List Expr×Expr×Pos)
 |.Assign ts v p=>some (ts,v,p)
 |_=>none
def lO{ts:List Expr}{x:Str}(h:JH ts=some x):∃xp,ts=[.Name x xp]:=by
 obtain⟨t,h1,h2⟩:=mr h
 obtain⟨p,rfl⟩:=b9 h2
 exact⟨p,dh h1⟩
def tU{p:Expr}{x m:Str}{args:List Expr}(h:Nb p=some (x,m,args)):∃np apos bG,p=.Call (.Attribute (.Name x np) m apos) args [] bG/\(apos.endLine==bG.line)=true:=by
 obtain⟨⟨f,a,k,cp⟩,h1,h⟩:=mr h
 obtain⟨⟨o,m',ap⟩,h2,h⟩:=mr h
 obtain⟨y,h3,h⟩:=mr h
 obtain⟨h4,h⟩:=if1 h
 cases h;rw [zza] at h4;obtain⟨p3,z3⟩:=b9 h3
 have z2:=ym h2
 have z5:=List.isEmpty_iff.1 h4.1
 dsimp only at z2 z3 z5;subst z3 z2 z5;exact⟨_,_,_,jb h1,h4.2⟩
def yl{ts:List Expr}{x:Str}{pk:Expr}(h:OT ts=some (x,pk)):∃np sp,ts=[.Subscript (.Name x np) pk sp]:=by
 obtain⟨t,h1,h⟩:=mr h
 obtain⟨⟨a,b⟩,h2,h⟩:=mr h
 obtain⟨y,h3,h⟩:=mr h
 cases h;obtain⟨p3,z3⟩:=b9 h3
 obtain⟨p2,z2⟩:=oQ h2
 dsimp only at z3;subst z3 z2;exact⟨_,_,dh h1⟩
def JF{o:Option Expr}{x z:Str}(h:Rw o=some (x,z)):∃np j zp cp,o=some (.Call (.Name x np) [.Constant (.str z) j zp] [] cp):=by
 obtain⟨e,h0,h⟩:=mr h
 obtain⟨⟨f,a,k,cp⟩,h1,h⟩:=mr h
 obtain⟨y,h2,h⟩:=mr h
 obtain⟨t,h3,h⟩:=mr h
 obtain⟨c,h4,h⟩:=mr h
 obtain⟨w,h5,h⟩:=mr h
 obtain⟨h6,h⟩:=if1 h
 cases h;obtain⟨p2,z2⟩:=b9 h2
 obtain⟨p4,q4,z4⟩:=uj h4
 have z3:=dh h3
 have z5:=zU h5
 have z6:=List.isEmpty_iff.1 h6
 dsimp only at z2 z3 z6;subst z2 z5 z4 z3 z6;exact⟨_,_,_,_,h0.trans (congrArg some (jb h1))⟩
mutual
noncomputable def eB(Γ:Pg)(N:List Str)(sc:Scope):S->Stmt->Bool
 |.expr e,.Expr p _=>i9 p&&bb Γ N sc e p
 |.set i e,.Assign ts p _=>(JH ts).any λx=>N[i]?==some x&&fA sc x&&gA e&&bb Γ N sc e p
 |.own i e,.Assign ts p _=>(JH ts).any λx=>N[i]?==some x&&fA sc x&&i4 e&&bb Γ N sc e p
 |.FI tg e,.Assign ts p _=>(fb ts).any λcE=>isTup cE&&fR N sc (λ_=>true) tg cE&&i9 p&&yG p&&gA e&&bb Γ N sc e p
 |.app i e,.Expr v _=>(Nb v).any λc=>N[i]?==some c.1&&d6 sc c.1&&okN c.1&&c.2.1==("append":Str)&&gA e&&(fb c.2.2).any λp=>bb Γ N sc e p
 |.qG i e,.Expr v _=>(Nb v).any λc=>N[i]?==some c.1&&d6 sc c.1&&okN c.1&&c.2.1==("extend":Str)&&(fb c.2.2).any λp=>bb Γ N sc e p
 |.put i kk e,.Assign ts p _=>(OT ts).any λc=>N[i]?==some c.1&&d6 sc c.1&&okN c.1&&gA e&&bb Γ N sc kk c.2&&bb Γ N sc e p
 |.ret e,.Return (some p) _=>gA e&&bb Γ N sc e p
 |.ite c a b,.If p pa pb _=>fW c&&bb Γ N sc c p&&dv Γ N sc a pa&&dv Γ N sc b pb
 |.cM tg it b,.For cE f6 pb els _=>els.isEmpty&&fR N sc (λ_=>true) tg cE&&BG it&&xu Γ N sc cE it f6&&dv Γ N sc b pb
 |.Bj c b,.While p pb els _=>els.isEmpty&&fW c&&bb Γ N sc c p&&dv Γ N sc b pb
 |.raise c m,.Raise ex fr _=>fr.isNone&&(Rw ex).any λq=>c==q.1&&m==q.2&&Γ.rs.contains c&&iz sc c&&okN c
 |.brk,.Break _=>true
 |.iN i,.Assign ts (.Dict [] [] _) _=>(JH ts).any λx=>N[i]?==some x&&fA sc x
 |.kI i n b,.Assign ts (.Dict [some k] [.Constant c _ _] _) _=>(JH ts).any λx=>(fx k).any λz=>N[i]?==some x&&fA sc x&&N[n]?==some z&&d6 sc z&&okN z&&OU b c
 |.eh i j n,.Assign ts v _=>(OT ts).any λc=>(fx c.2).any λz=>N[i]?==some c.1&&d6 sc c.1&&okN c.1&&N[n]?==some z&&d6 sc z&&okN z&&(Nb v).any λd=>d.2.1==("pop":Str)&&(fb d.2.2).any λe=>(fx e).any λz2=>z==z2&&N[j]?==some d.1&&d6 sc d.1&&okN d.1
 |.mn m i,.Assign ts v _=>(JH ts).any λy=>(QB v).any λc=>N[m]?==some y&&fA sc y&&N[i]?==some c.1&&sc.names.lookup c.1==some .cell&&iz sc "min"&&Γ.bs.contains "min"&&Γ.hl&&vk c.1 c.2.1 c.2.2.1 c.2.2.2
 |_,_=>false
noncomputable def dv(Γ:Pg)(N:List Str)(sc:Scope):Ss->List Stmt->Bool
 |.nil,[]=>true
 |.cons (.bp _) ss,ps=>dv Γ N sc ss ps
 |.cons s ss,p::ps=>eB Γ N sc s p&&dv Γ N sc ss ps
 |_,_=>false
end
section
variable{Γ:Pg}{X:Cx}{W:Wd}{F:aH}{N:List Str}{sc:Scope}{k:Nat}{H0:Hp}{E:XK}
def SR.go{env:Sl}{σ:St}{G H:Hp}(r:SR W H0 env σ G H):aB W G H0 G H:=⟨aA.refl _,r.base,r.sub,λ_ _ _ h=>h,λ_=>r.tab⟩
def aB.then{G G1 H1 G2 H2:Hp}(a:aB W G H0 G1 H1)(b:aB W G1 H0 G2 H2):aB W G H0 G2 H2:=⟨a.g.trans b.g,b.h,b.sub,λx h1 h3 h2=>b.own x h1 h3 (a.own x h1 h3 h2),λt=>b.tab (t.same a.g a.own λ_ _ h=>h)⟩
def SR.on{env:Sl}{σ:St}{G H G1 H1:Hp}(r:SR W H0 env σ G H)(g:aB W G H G1 H1):aB W G H0 G1 H1:=⟨g.g,r.base.trans g.h,g.sub,λx h1 h3 h2=>g.own x (λz=>h1 (r.base.free z)) (r.base.vj h1 h3) h2,λ_=>g.tab r.tab⟩
def Dn(W:Wd)(H0 G:Hp)(D:Ends):Fl->Prop
 |.nx env=>∀σ G' H',SR W H0 env σ G' H'->aB W G H0 G' H'->D.nx σ H'
 |.bk env=>∀σ G' H',SR W H0 env σ G' H'->aB W G H0 G' H'->D.bk σ H'
 |.ct env=>∀σ G' H',SR W H0 env σ G' H'->aB W G H0 G' H'->D.ct σ H'
 |.rt p=>∀v G' H',Rep W G' p v->aB W G H0 G' H'->D.rt v H'
def cb(W:Wd)(H0 G:Hp)(E:XK)(r:Res Fl)(D:Ends):Prop:=match r with
 |.ok f=>Dn W H0 G D f
 |.exc c=>∀Cv ao H',XE W c G H0 Cv ao H'->E Cv ao H'
 |.bad=>False
def Dn.on{G G1 H1:Hp}{D:Ends}{f:Fl}(h:Dn W H0 G D f)(g:aB W G H0 G1 H1):Dn W H0 G1 D f:=by
 cases f with
 |nx env=>exact λσ G' H' r g'=>h σ G' H' r (g.then g')
 |bk env=>exact λσ G' H' r g'=>h σ G' H' r (g.then g')
 |ct env=>exact λσ G' H' r g'=>h σ G' H' r (g.then g')
 |rt p=>exact λv G' H' r g'=>h v G' H' r (g.then g')
def cb.on{G G1 H1:Hp}{D:Ends}{r:Res Fl}(h:cb W H0 G E r D)(g:aB W G H0 G1 H1):cb W H0 G1 E r D:=by
 cases r with
 |ok f=>exact Dn.on h g
 |exc c=>
  intro Cv ao H' x;obtain⟨C,a,G',e1,e2,e3,e4,g2⟩:=x
  exact h Cv ao H' ⟨C,a,G',e1,e2,e3,e4,g.then g2⟩
 |bad=>exact h
noncomputable def tS(W:Wd)(F:aH)(H0:Hp)(E:XK)(s:S):TS:=λD σ H=>∃G env,SR W H0 env σ G H/\cb W H0 G E (gj F s env) D
noncomputable def Qf(W:Wd)(F:aH)(H0:Hp)(E:XK)(ss:Ss):TS:=λD σ H=>∃G env,SR W H0 env σ G H/\cb W H0 G E (aG F ss env) D
abbrev GS(X:Cx)(W:Wd)(F:aH)(H0:Hp)(E:XK)(s:S)(p:Stmt):Prop:=PS X p (tS W F H0 E s)
abbrev Bt(X:Cx)(W:Wd)(F:aH)(H0:Hp)(E:XK)(s:Ss)(p:List Stmt):Prop:=vm X p (Qf W F H0 E s)
def _root_.L2.PS.imp{p:Stmt}{t t':TS}(h:PS X p t)(i:∀D σ H,t' D σ H->t D σ H):PS X p t':=λae s σ H D I hw=>h ae s σ H D I (i D σ H hw)
def _root_.L2.vm.imp{p:List Stmt}{t t':TS}(h:vm X p t)(i:∀D σ H,t' D σ H->t D σ H):vm X p t':=λae s σ H D I hw=>h ae s σ H D I (i D σ H hw)
structure dZ(Γ:Pg)(F:aH)(W:Wd)(N:List Str)(sc:Scope)(k:Nat)(E:XK)(X:Cx):Prop where
 C:dO Γ F W N sc k X
 fn:∀x,X.fn x=true
 own:PassesOwn (model X.prog X.w) X.A X.env X.xe
 pass:Passes (dR X.prog X.w) X E
 kind:sc.kind=.function
 Lc:X.stack=X.env::X.outer
 frame:X.env.frame=some X.env.locals
 xs:∀c,Γ.rs.contains c=true->c∈W.xs
 rm:∀c,Γ.rs.contains c=true->∃C,X.mg c=some (.ref C)
 rz:∀(c z:Str) (j:Nat) (np zp cp pos:Pos),Γ.rs.contains c=true->iz sc c=true->okN c=true->PS X (.Raise (some (.Call (.Name c np) [.Constant (.str z) j zp] [] cp)) none pos) (λ_ _ H=>∀C e,X.mg c=some (.ref C)->H e=none->E (.ref C) (some e) H)
 MI:Γ.cs.contains "FloorError"=true->∀c D,c∈W.xs->X.mg c=some (.ref D)->∀T,X.mg "FloorError"=some (.ref T)->PySem.W.exmOne X.K (.ref D) (.ref T)=some true
theorem DC(S:dZ Γ F W N sc k E X){c:Str}{σ:St}{Gs G H:Hp}(g:aB W Gs H0 G H)(h:∀Cv ao H',XE W c Gs H0 Cv ao H'->E Cv ao H'):sI X W σ c G H:=λae G1 H1 s1 e s' I g1 x=>
 S.pass ae σ H1 s1 e s' I (ER.imp x λCv a H' y=>h Cv a H' (by
  obtain⟨C,a',G',e1,e2,e3,e4,g2⟩:=y
  have g3:=g1.trans g2
  exact⟨C,a',G',e1,e2,e3,e4,g.g.trans g3.g,g.h.trans g3.h,g3.sub,λx h1 h3 h2=>g3.own x (λz=>h1 (g.h.free z)) (g.h.vj h1 h3) (g.own x h1 h3 h2),λt=>g3.tab (g.tab t)⟩))
def cb.bind{α:Type}(S:dZ Γ F W N sc k E X){r:Res α}{f:α->Res Fl}{D:Ends}{env:Sl}{σ:St}{G H:Hp}(sr:SR W H0 env σ G H)(h:cb W H0 G E (r.bind f) D):Out X W r σ G H λa=>cb W H0 G E (f a) D:=by
 cases r with
 |ok a=>exact h
 |exc c=>exact DC S sr.go h
 |bad=>exact h
def pR(S:dZ Γ F W N sc k E X){env:Sl}{σ:St}{G H:Hp}{e:Ci.E}{f:PV->Res Fl}{D:Ends}{Q:VK}(sr:SR W H0 env σ G H)(o:cb W H0 G E ((aD F e env).bind f) D)
 (h:∀p v G1 H1,aB W G H G1 H1->Got W H0 G1 H1 e p v->SR W H0 env σ G1 H1->cb W H0 G1 E (f p) D->Q v H1):tE X W F e σ H Q:=
 ⟨H0,G,env,sr,(o.bind S sr).imp λp hp v G1 H1 g1 t=>h p v G1 H1 g1 t (sr.grow g1) (hp.on (sr.on g1))⟩
def Ft(S:dZ Γ F W N sc k E X){env:Sl}{σ:St}{G H:Hp}{e:Ci.E}{f:Bool->Res Fl}{D:Ends}{Q:Bool->Hp->Prop}(sr:SR W H0 env σ G H)(o:cb W H0 G E ((aD F e env).bind λp=>nL p f) D)
 (h:∀b G1 H1,aB W G H G1 H1->SR W H0 env σ G1 H1->cb W H0 G1 E (f b) D->Q b H1):tT X W F e σ H Q:=by
 refine⟨H0,G,env,sr,(o.bind S sr).imp λp hp=>?_⟩
 cases p with
 |bl b=>exact⟨b,rfl,λG1 H1 g1=>h b G1 H1 g1 (sr.grow g1) (cb.on hp (sr.on g1))⟩
 |aC=>exact zzk hp
 |int _=>exact zzk hp
 |str _=>exact zzk hp
 |tup _=>exact zzk hp
 |lst _=>exact zzk hp
 |exc _=>exact zzk hp
 |bw _ _=>exact zzk hp
def Kw(S:dZ Γ F W N sc k E X){env:Sl}{σ:St}{G H:Hp}{e:Ci.E}{f:PV->Res Fl}{D:Ends}{Q:VK}(hl:∀env q,aD F e env=.ok q->∃xs,q=.lst xs)(sr:SR W H0 env σ G H)(o:cb W H0 G E ((aD F e env).bind f) D)
 (h:∀xs a vs G1 H1,aB W G H G1 H1->H1 a=none->ai W G1 xs vs->SR W H0 env σ G1 H1->cb W H0 G1 E (f (.lst xs)) D->Q (.ref a) (upd H1 a (.lst vs))):tF X W F e σ H Q:=by
 refine⟨H0,G,env,sr,?_⟩;have o2:=o.bind S sr
 cases r:aD F e env with
 |bad=>rw [r] at o2;exact o2
 |exc c=>rw [r] at o2;exact o2
 |ok q=>
  rw [r] at o2;obtain⟨xs,rfl⟩:=hl env q r
  exact⟨xs,rfl,λa vs G' H' g ha l=>h xs a vs G' H' g ha l (sr.grow g) (cb.on o2 (sr.on g))⟩
def j6{p:Expr}{t:Option Expr}{l:Nat}{env:Env}(h:i9 p=true):swapsWith p t l env=pure false:=by
 cases p<;>first|rfl|(exact bj h)
def j7{elt:Expr}{gens:List Comprehension}{s:Scope}{p:Pos}{x:Str}{xp:Pos}{l:Nat}(eW:X.env.scope=sc)(hk:sc.kind=.function):swapsWith (.ListComp elt gens s p) (some (.Name x xp)) l X.env=pure (Ov sc x xp (.ListComp elt gens s p)):=by
 have hb:X.env.blockKind=.function:=by
  unfold Env.blockKind;rw [eW,hk]
  rfl
 show(pure (X.env.blockKind==.function&&X.env.kindOf x==some .local&&xp.line==p.line&&!(s.names.any λ(n,k)=>n==x&&(k==.local||k==.cell))):Sem Bool)=_
 rw [hb];show(pure (true&&X.env.scope.names.lookup x==some .local&&_&&_):Sem Bool)=_
 rw [eW]
 rfl
theorem CI(S:dZ Γ F W N sc k E X){e:Ci.E}{p:Expr}{pos:Pos}(he:GE X W F e p)(hn:i9 p=true):GS X W F H0 E (.expr e) (.Expr p pos):=
 L2.PS.imp (oj he (j6 hn)) λD σ H h=>by
  obtain⟨G,env,sr,o⟩:=h
  rw [gj] at o;exact pR S sr o λq v G1 H1 g t bL o1=>o1 σ G1 H1 bL bL.go
theorem Jx(S:dZ Γ F W N sc k E X){e:Ci.E}{p:Expr}{pos:Pos}(du:gA e=true)(he:GE X W F e p):GS X W F H0 E (.ret e) (.Return (some p) pos):=
 L2.PS.imp (HP he) λD σ H h=>by
  obtain⟨G,env,sr,o⟩:=h
  rw [gj] at o;exact pR S sr o λq v G1 H1 g t bL o1=>o1 v G1 H1 (t.rep du) bL.go
theorem Iv{pos:Pos}:GS X W F H0 E .brk (.Break pos):=
 L2.PS.imp yn λD σ H h=>by
  obtain⟨G,env,sr,o⟩:=h
  rw [gj] at o;exact o σ G H sr sr.go
theorem ya(S:dZ Γ F W N sc k E X){c m:Str}{j:Nat}{np zp cp pos:Pos}(h1:Γ.rs.contains c=true)(h2:iz sc c=true)(h3:okN c=true):GS X W F H0 E (.raise c m) (.Raise (some (.Call (.Name c np) [.Constant (.str m) j zp] [] cp)) none pos):=
 L2.PS.imp (S.rz c m j np zp cp pos h1 h2 h3) λD σ H h C e hC he=>by
  obtain⟨G,env,sr,o⟩:=h
  rw [gj] at o;exact o _ _ _ ⟨C,e,G,rfl,rfl,S.xs c h1,by rw [S.C.mg];exact hC,sr.go⟩
def d9(S:dZ Γ F W N sc k E X){i:Nat}{x:Str}(h:N[i]?=some x)(hl:fA sc x=true):X.N.Nodup/\X.N[i]?=some x/\Loc X.env.scope x:=by
 refine⟨by rw [S.C.hN];exact S.C.nd,by rw [S.C.hN];exact h,zg S.C.eW hl⟩
def IQ(S:dZ Γ F W N sc k E X){i:Nat}{x:Str}{e:Ci.E}{p:Expr}{xp pos:Pos}(h:N[i]?=some x)(hl:fA sc x=true)(du:gA e=true)(he:GE X W F e p)(hs:swapsWith p (some (.Name x xp)) pos.line X.env=pure false):GS X W F H0 E (.set i e) (.Assign [.Name x xp] p pos):=by
 obtain⟨a1,a2,a3⟩:=d9 S h hl
 refine L2.PS.imp (me a1 a2 a3 he hs (.inl (S.fn x))) λD σ H h=>?_
 obtain⟨G,env,sr,o⟩:=h
 rw [gj] at o;exact pR S sr o λq v G1 H1 g t bL o1=>o1 _ G1 H1 (bL.set i (t.rep du)) bL.go
noncomputable def JG(X:Cx)(W:Wd)(F:aH)(i:Nat)(e:Ci.E):TS:=λD σ H=>tF X W F e σ H λv H1=>D.nx (σ.set i (some v)) H1
def Mo{e:Ci.E}(hl:∀env q,aD F e env=.ok q->∃xs,q=.lst xs)(σ:St)(H:Hp)(Q:VK)(h:tE X W F e σ H Q):tF X W F e σ H Q:=by
 obtain⟨H0,G,env,sr,o⟩:=h
 refine⟨H0,G,env,sr,?_⟩;cases r:aD F e env with
 |bad=>rw [r] at o;exact o
 |exc c=>rw [r] at o;exact o
 |ok q=>
  rw [r] at o;obtain⟨xs,rfl⟩:=hl env q r
  exact⟨xs,rfl,λa vs G' H' g ha l=>o _ _ _ (g.trans (.new g.sub ha)) (.of (.l (.inl (.inl aq)) (ai.same (bB (g.sub.free ha)) xs l)))⟩
theorem EE(S:dZ Γ F W N sc k E X){i:Nat}{e:Ci.E}{p:Stmt}(hl:∀env q,aD F e env=.ok q->∃xs,q=.lst xs)(du:gA e=true)(h:PS X p (JG X W F i e)):GS X W F H0 E (.set i e) p:=
 L2.PS.imp h λD σ H hq=>by
  obtain⟨G,env,sr,o⟩:=hq
  rw [gj] at o;refine Mo hl σ H _ (pR S sr o λq v G1 H1 g t bL o1=>?_);exact o1 _ G1 H1 (bL.set i (t.rep du)) bL.go
def Bu(S:dZ Γ F W N sc k E X){i:Nat}{x:Str}{e:Ci.E}{p:Stmt}(hi:N[i]?=some x)(hl:∀env q,aD F e env=.ok q->∃xs,q=.lst xs)(h:PS X p (JG X W F i e)):GS X W F H0 E (.own i e) p:=by
 intro ae s σ H D I hq;have Mk:i<σ.length:=by rw [I.len,S.C.hN];exact(zzH.mp hi).1
 refine h ae s σ H D I ?_;obtain⟨G,env,sr,o⟩:=hq
 rw [gj] at o;refine Kw S hl sr o λxs a vs G1 H1 g ha l bL o1=>?_
 have hO:Own W H0 G1 (upd H1 a (.lst vs)) (.lst xs) (.ref a):=⟨a,vs,rfl,aq,bL.sub.free ha,bL.base.free ha,l⟩
 obtain⟨r2,g2⟩:=ub bL bL.go (i:=i) (by rw [bL.len];exact Mk) ha hO
 exact o1 _ G1 _ r2 g2
def oy{i:Nat}{x:Str}{e:Ci.E}{p:Expr}{xp pos:Pos}(S:dZ Γ F W N sc k E X)(h:N[i]?=some x)(hl:fA sc x=true)(he:GF X W F e p)(hs:swapsWith p (some (.Name x xp)) pos.line X.env=pure false):PS X (.Assign [.Name x xp] p pos) (JG X W F i e):=by
 obtain⟨a1,a2,a3⟩:=d9 S h hl
 exact me a1 a2 a3 he hs (.inl (S.fn x))
def yy(S:dZ Γ F W N sc k E X){i:Nat}{x:Str}{xp fZ:Pos}(hx:N[i]?=some x)(B8:fA sc x=true){kk:Nat}{aU:List Nat}{tg:Tg}{it:I}{elt:Ci.E}{cE f6 eU:Expr}{scope:Scope}{pos:Pos}(h:lN N sc scope kk aU (aF cE))(cC:kW kk tg=true)(du:gA elt=true)(hi:GI X W F cE it f6)(rX:∀x,foldedSetIterable f6 X.env x=pure x)
 (xa:fR (aF cE++freeOf scope) (dq scope sc) (lD scope) tg cE=true) (he:∀Y,dO Γ.Bp F W (aF cE++freeOf scope) (dq scope sc) k Y->GE Y W F elt eU):PS X (.Assign [.Name x xp] (.ListComp eU [⟨cE,f6,[],0⟩] scope pos) fZ) (JG X W F i (.comp kk aU tg it elt)):=by
 obtain⟨a1,a2,a3⟩:=d9 S hx B8
 cases wc:Ov sc x xp (.ListComp eU [⟨cE,f6,[],0⟩] scope pos) with
 |false=>exact oy S hx B8 (uR S.C h cC du hi rX xa he) (by rw [j7 S.C.eW S.kind,wc])
 |true=>
  intro ae s σ H D I hq;have Hj:(freeOf scope).Nodup:=(List.nodup_append.mp h.nd).2.1
  have rd:=vB (N:=N) S.C.K cC du h.slots Hj σ H _ hq
  have:=r9 (g:=gT X.K tg) (te:=tN W F elt) (xs:=aF cE) (ys:=freeOf scope) (is:=aU) (pos:=pos) a1 a2 a3 S.C.calm (oF S.C.hN S.C.eW I.ok h) hi
   (λfp s1 H1 A=>vP (fn:=lD scope) (X:=bW X (aF cE++freeOf scope) scope (bH X.env (freeOf scope)) fp s1 H1 A) rfl h.nd (ff S.C.eW) rfl (λ_ z=>z) xa)
   (λfp s1 H1 A=>L2.PE.imp (he _ (fg S.C h fp s1 H1 A)) λσ H Q z=>uZ σ H Q z) (by rw [j7 (l:=fZ.line) S.C.eW S.kind,wc]) rX (.inl (S.fn x)) ae s σ H D I
  rw [h.len] at this;exact this rd
def tP(S:dZ Γ F W N sc k E X){i:Nat}{x:Str}{xp fZ:Pos}(hx:N[i]?=some x)(B8:fA sc x=true){kk:Nat}{aU:List Nat}{tg:Tg}{it:I}{c elt:Ci.E}{cE f6 pc eU:Expr}{scope:Scope}{pos:Pos}(h:lN N sc scope kk aU (aF cE))(cC:kW kk tg=true)(du:gA elt=true)(hi:GI X W F cE it f6)(rX:∀x,foldedSetIterable f6 X.env x=pure x)
 (xa:fR (aF cE++freeOf scope) (dq scope sc) (lD scope) tg cE=true) (hc:∀Y,dO Γ.Bp F W (aF cE++freeOf scope) (dq scope sc) k Y->GT Y W F c pc) (he:∀Y,dO Γ.Bp F W (aF cE++freeOf scope) (dq scope sc) k Y->GE Y W F elt eU):PS X (.Assign [.Name x xp] (.ListComp eU [⟨cE,f6,[pc],0⟩] scope pos) fZ) (JG X W F i (.bT kk aU tg it c elt)):=by
 obtain⟨a1,a2,a3⟩:=d9 S hx B8
 cases wc:Ov sc x xp (.ListComp eU [⟨cE,f6,[pc],0⟩] scope pos) with
 |false=>exact oy S hx B8 (nO S.C h cC du hi rX xa hc he) (by rw [j7 S.C.eW S.kind,wc])
 |true=>
  intro ae s σ H D I hq;have Hj:(freeOf scope).Nodup:=(List.nodup_append.mp h.nd).2.1
  have rd:=mW (N:=N) S.C.K cC du h.slots Hj σ H _ hq
  have:=o9 (g:=gT X.K tg) (tt:=MM W F c) (te:=tN W F elt) (xs:=aF cE) (ys:=freeOf scope) (is:=aU) (pos:=pos) a1 a2 a3 S.C.calm (oF S.C.hN S.C.eW I.ok h) hi
   (λfp s1 H1 A=>vP (fn:=lD scope) (X:=bW X (aF cE++freeOf scope) scope (bH X.env (freeOf scope)) fp s1 H1 A) rfl h.nd (ff S.C.eW) rfl (λ_ z=>z) xa)
   (λfp s1 H1 A=>L2.PT.imp (hc _ (fg S.C h fp s1 H1 A)) λσ H Q z=>Ay σ H Q z)
   (λfp s1 H1 A=>L2.PE.imp (he _ (fg S.C h fp s1 H1 A)) λσ H Q z=>uZ σ H Q z) (by rw [j7 (l:=fZ.line) S.C.eW S.kind,wc]) rX (.inl (S.fn x)) ae s σ H D I
  rw [h.len] at this;exact this rd
def m9{tg:Tg}{p:PV}{env:Sl}(c:Str):Tg.put tg p env≠.exc c:=by
 unfold Tg.put;split<;>exact λz=>nomatch z
def Jq(S:dZ Γ F W N sc k E X){tg:Tg}{e:Ci.E}{cE p:Expr}{pos:Pos}(ht:isTup cE=true)(xa:fR N sc (λ_=>true) tg cE=true)(hn:i9 p=true)(hp:yG p=true)(du:gA e=true)(he:GE X W F e p):GS X W F H0 E (.FI tg e) (.Assign [cE] p pos):=by
 have wc:swappedStores [cE] p X.env=pure none:=by
  cases cE<;>first|(exact bj ht)|skip
  cases p<;>first|rfl|(exact bj hp)
 have h1:(assignEach [cE] X.env).map (·.2)=[assign cE X.env]:=by
  cases cE<;>first|rfl|(exact bj ht)
 refine L2.PS.imp (tm he (vP (fn:=λ_=>true) S.C.hN S.C.nd S.C.eW S.C.calm (λx _=>S.fn x) xa) (j6 hn) wc h1) λD σ H h=>?_
 obtain⟨G,env,sr,o⟩:=h
 rw [gj] at o;refine pR S sr o λq v G1 H1 g t bL o1=>?_
 cases r:tg.put q env with
 |bad=>rw [r] at o1;exact o1.elim
 |exc c=>exact absurd r (m9 c)
 |ok ak=>
  rw [r] at o1;exact oY S.C.K r bL (t.rep du) λσ' eY=>o1 σ' G1 H1 eY bL.go
theorem IC(S:dZ Γ F W N sc k E X){c:Ci.E}{a b:Ss}{p:Expr}{pa pb:List Stmt}{pos:Pos}(hc:GT X W F c p)(ha:Bt X W F H0 E a pa)(hb:Bt X W F H0 E b pb):GS X W F H0 E (.ite c a b) (.If p pa pb pos):=
 L2.PS.imp (K9 hc ha hb) λD σ H h=>by
  obtain⟨G,env,sr,o⟩:=h
  rw [gj] at o;refine Ft S sr o λt G1 H1 g bL o1=>?_
  cases t with
  |true=>
   rw [if_pos rfl] at o1⊢;exact⟨G1,env,bL,o1⟩
  |false=>
   rw [if_neg zzf] at o1⊢;exact⟨G1,env,bL,o1⟩
theorem Gf(S:dZ Γ F W N sc k E X){c:Ci.E}{b:Ss}{p:Expr}{pb:List Stmt}{pos:Pos}(hc:GT X W F c p)(hb:Bt X W F H0 E b pb):GS X W F H0 E (.Bj c b) (.While p pb [] pos):=
 L2.PS.imp (yR S.own hc hb) λD σ H h=>by
  obtain⟨G,env,sr,o⟩:=h
  rw [gj] at o;refine⟨λm σ' H'=>∃G' ak,SR W H0 ak σ' G' H'/\aB W G H0 G' H'/\cb W H0 G' E (dm (aD F c) (aG F b) m ak) D,⟨_,G,env,sr,sr.go,o⟩,?_⟩
  rintro m σ' H' ⟨G',ak,sr',g',o'⟩
  cases m with
  |zero=>exact o'.elim
  |succ m=>
   unfold dm at o';refine Ft S sr' o' λt G1 H1 g1 bL o1=>?_
   cases t with
   |false=>
    rw [if_neg zzf] at o1⊢;exact o1 σ' G1 H1 bL bL.go
   |true=>
    rw [if_pos rfl] at o1⊢;refine⟨λσ2 H2=>∃G2 eZ,SR W H0 eZ σ2 G2 H2/\aB W G H0 G2 H2/\cb W H0 G2 E (dm (aD F c) (aG F b) m eZ) D,λσ2 H2 h2=>⟨m,Nat.lt_succ_self _,h2⟩,G1,ak,bL,?_⟩
    have gg:=g'.then (sr'.on g1)
    cases r:aG F b ak with
    |bad=>rw [r] at o1;exact o1.elim
    |exc cc=>rw [r] at o1;exact o1
    |ok f=>
     rw [r] at o1;cases f with
     |nx eZ=>exact λσ2 G2 H2 eY g2=>⟨G2,eZ,eY,gg.then g2,cb.on (show cb W H0 G1 E (dm (aD F c) (aG F b) m eZ) D from o1) g2⟩
     |ct eZ=>exact λσ2 G2 H2 eY g2=>⟨G2,eZ,eY,gg.then g2,cb.on (show cb W H0 G1 E (dm (aD F c) (aG F b) m eZ) D from o1) g2⟩
     |bk eZ=>exact λσ2 G2 H2 eY g2=>o1 σ2 G2 H2 eY g2
     |rt q=>exact λv G2 H2 rv g2=>o1 v G2 H2 rv g2
def GP(S:dZ Γ F W N sc k E X){tg:Tg}{it:I}{b:Ss}{cE f6:Expr}{pb:List Stmt}{pos:Pos}(xa:fR N sc (λ_=>true) tg cE=true)(hit:BG it=true)(hi:GI X W F cE it f6)(rX:∀x,foldedSetIterable f6 X.env x=pure x)(hb:Bt X W F H0 E b pb):GS X W F H0 E (.cM tg it b) (.For cE f6 pb [] pos):=
 L2.PS.imp (FW S.own S.C.calm hi (vP (fn:=λ_=>true) S.C.hN S.C.nd S.C.eW S.C.calm (λx _=>S.fn x) xa) hb rX) λD σ H h=>by
  obtain⟨G,env,sr,o⟩:=h
  rw [gj] at o;refine⟨H0,G,env,sr,(o.bind S sr).imp λps kf J G1 H1 g1 gi=>?_⟩
  have bp:=gi.bp hit
  generalize hf:(λ(x:PV) (env:Sl)=>(tg.put x env).bind λak=>aG F b ak)=f at kf
  have bL:=sr.grow g1
  refine⟨λi m σ' H'=>i<=ps.length/\m=ps.length-i/\∃G' ak,SR W H0 ak σ' G' H'/\aB W G1 H0 G' H'/\cb W H0 G' E (forL f (ps.drop i) ak) D,⟨_,Nat.zero_le _,rfl,G1,env,bL,bL.go,by rw [List.drop_zero];exact cb.on kf (sr.on g1)⟩,?_⟩
  rintro i m σ' H' ⟨L0,hm,G',ak,sr',g',o'⟩
  obtain⟨ist,igo⟩:=bp i G' H' g'.g (.of (g'.g.trans sr'.sub)) sr'.sub
  by_cases hlast:i=ps.length
  ·refine .inl ⟨ist hlast,?_⟩;rw [hlast,List.drop_length] at o';exact o' σ' G' H' sr' sr'.go
  ·have cC:i<ps.length:=by omega
   obtain⟨hgo,hyld⟩:=igo ps[i] (zzg cC)
   refine .inr ⟨hgo,λσ2 H2=>i+1<=ps.length/\∃G2 eZ,SR W H0 eZ σ2 G2 H2/\aB W G1 H0 G2 H2/\cb W H0 G2 E (forL f (ps.drop (i+1)) eZ) D,λσ2 H2 h2=>⟨ps.length-(i+1),by omega,h2.1,rfl,h2.2⟩,λx mz hy=>?_⟩
   obtain⟨vD,g'',rx⟩:=hyld x mz hy
   rw [List.drop_eq_getElem_cons cC] at o';unfold forL at o';have So:f ps[i] ak=(tg.put ps[i] ak).bind λak=>aG F b ak:=by rw [<-hf]
   rw [So] at o';have eY:=sr'.grow g''
   have g2:=g'.then (sr'.on g'')
   cases r:tg.put ps[i] ak with
   |bad=>rw [r] at o';exact o'.elim
   |exc c=>exact absurd r (m9 c)
   |ok eZ=>
    rw [r] at o';refine oY S.C.K r eY rx λσ2 sr3=>⟨vD,eZ,sr3,?_⟩
    have o2:cb W H0 vD E ((aG F b eZ).bind λfl=>match fl with
     |.nx ak=>forL f (ps.drop (i+1)) ak
     |.ct ak=>forL f (ps.drop (i+1)) ak
     |.bk ak=>.ok (.nx ak)
     |.rt p=>.ok (.rt p)) D:=cb.on o' (sr'.on g'')
    cases r2:aG F b eZ with
    |bad=>rw [r2] at o2;exact o2.elim
    |exc cc=>rw [r2] at o2;exact o2
    |ok fl=>
     rw [r2] at o2;cases fl with
     |nx env3=>exact λσ3 G3 H3 Hx g3=>⟨cC,G3,env3,Hx,g2.then g3,cb.on (show cb W H0 vD E (forL f (ps.drop (i+1)) env3) D from o2) g3⟩
     |ct env3=>exact λσ3 G3 H3 Hx g3=>⟨cC,G3,env3,Hx,g2.then g3,cb.on (show cb W H0 vD E (forL f (ps.drop (i+1)) env3) D from o2) g3⟩
     |bk env3=>exact λσ3 G3 H3 Hx g3=>o2 σ3 G3 H3 Hx g3
     |rt q=>exact λv G3 H3 rv g3=>o2 v G3 H3 rv g3
theorem C0:Bt X W F H0 E .nil []:=L2.vm.imp DL λD σ H h=>by
 obtain⟨G,env,sr,o⟩:=h
 rw [aG] at o;exact o σ G H sr sr.go
theorem yz{s:Ci.S}{ss:Ss}{p:Stmt}{ps:List Stmt}(h1:GS X W F H0 E s p)(h2:Bt X W F H0 E ss ps):Bt X W F H0 E (.cons s ss) (p::ps):=
 L2.vm.imp (AM h1 h2) λD σ H h=>by
  obtain⟨G,env,sr,o⟩:=h
  rw [aG] at o;refine⟨G,env,sr,?_⟩;cases r:gj F s env with
  |bad=>rw [r] at o;exact o
  |exc c=>rw [r] at o;exact o
  |ok f=>
   rw [r] at o;cases f with
   |nx eZ=>exact λσ2 G2 H2 eY g2=>⟨G2,eZ,eY,cb.on (show cb W H0 G E (aG F ss eZ) D from o) g2⟩
   |bk eZ=>exact o
   |ct eZ=>exact o
   |rt q=>exact o
def CV{i:Nat}{ss:Ss}{ps:List Stmt}(h:Bt X W F H0 E ss ps):Bt X W F H0 E (.cons (.bp i) ss) ps:=by
 intro ae s σ H D I hq;obtain⟨G,env,sr,o⟩:=hq
 rw [aG,gj] at o;rcases FU sr sr.go i with⟨G',sr',g'⟩|⟨a,aw,ha,k⟩
 ·exact h ae s σ H D I ⟨G',_,sr',cb.on (show cb W H0 G E (aG F ss (env.modify i oe)) D from o) g'⟩
 ·obtain⟨ob,J⟩:=I.freeze ha
  obtain⟨G',sr',g'⟩:=k ob
  exact h ae s σ _ D J ⟨G',_,sr',cb.on (show cb W H0 G E (aG F ss (env.modify i oe)) D from o) g'⟩
end
end Ci
namespace L2
open PySem PySem.Spec PyProof.Rows
noncomputable def Nx(tk tv:TE):TE:=λσ H Q=>∀p,H p=none->tk σ (upd H p (.dT [])) λx H1=>tv σ H1 λy H2=>∃b ks,x=.ref b/\H2 p=some (.dT [])/\H2 b=some (.tup (ks.map kV))/\Q (.ref p) (upd H2 p (.dT (putK [] ks y)))
def HG{X:Cx}{pos:Pos}{k v:Expr}{tk tv:TE}(hu:X.A.units<cLine)(hk:PE X k tk)(hv:PE X v tv):PE X (.Dict [some k] [v] pos) (Nx tk tv):=by
 intro ae s σ H Q I q;have hn:=I.aL.fresh (zzE (zz9 s))
 have I1:=I.laid (a:=(zz9 s)) (o:=.dT []) (h':=s.heap.push {cls:=.type "dict",data:=.dict #[]}) (t':=s.toks) (λ_ _ q=>zzB _ q) (zzE _) (kH s.heap I.big)
 refine wpAny_Dict_any rfl rfl (by simp) (show 1<=15 by decide) (pairTrees_cons_walk (bI (hk ae _ σ _ _ I1 (q _ hn)) λu s1 ⟨x,H1,I1',rx,q1⟩=>bI (hv ae s1 σ H1 _ I1' q1) λw2 s2 ⟨y,H2,I2,ry,q2⟩=>pairTrees_nil_walk ?_))
 obtain⟨b,ks,rfl,e,hb,q3⟩:=q2
 cases rx;unfold storeAll;refine wpAny_forIn_list _ (λrest _ s'=>(rest=[(Value.ref b,w2)]/\s'=s2)\/(rest=[]/\∃v' H',Inv X ae σ H' s'/\RelV v' (.ref (zz9 s))/\Q v' H')) _ (λx rest _ s' hI=>?_) (λ_ s' hI=>?_) _ _ (.inl ⟨rfl,rfl⟩)
 ·rcases hI with⟨h1,rfl⟩|⟨h1,_⟩
  ·cases h1;refine zzA (AJ hu I2 e hb (by decide) ry λh' t hs I3=>zzG (.inr ⟨rfl,.ref _,_,I3,rfl,q3⟩))
  ·cases h1
 ·rcases hI with⟨h1,_⟩|⟨_,v',H',I',r',q'⟩
  ·cases h1
  ·exact⟨v',H',I',r',q'⟩
end L2
namespace Ci
open PySem L2
section
variable{Γ:Pg}{X:Cx}{W:Wd}{F:aH}{N:List Str}{sc:Scope}{k:Nat}{H0:Hp}{E:XK}
def sF(hK:W.K=X.K):QT X "list.extend" (λx vs H Q=>∃l b xs zs,x=.ref l/\vs=[.ref b]/\H l=some (.lst xs)/\qd W.K H b zs/\xs.length+zs.length<=sizeLine/\Q .aC (upd H l (.lst (xs++zs)))):=by
 intro ae s σ H x vs v us Q I rx rv h;obtain⟨l,b,xs,zs,rfl,rfl,hH,hB,hz,q⟩:=h
 cases rx;obtain⟨u,rfl,ru⟩:=Vals.one rv
 cases ru;obtain⟨z,ax,n,r,hl,e⟩:=I.Kq hH
 obtain⟨ei,n2,r2,Pk,z2,e2⟩:=EO hK I hB
 have hsz:ax.toArray.size+ei.toArray.size<=sizeLine:=by rw [zzC,zzC];omega
 have Lf:¬(!ax.toArray.isEmpty&&Builtin.List.listTooLong (ax.toArray.size+ei.toArray.size))=true:=by
  rw [zW hsz,Bool.and_false];exact zzf
 refine PySem.call_meets PySem.F.slot_list_extend ⟨_,e,rfl⟩ PySem.F.entry_list_extend (PySem.F.args_list_extend_2 _ _)
  (PySem.AutoSeq1.list_extend_list_list_0 l ax.toArray n b ei.toArray n2 Lf (by rw [zzC];omega) (by omega)) ⟨e,e2,?_⟩
 refine⟨.aC,_,I.Lb (its':=ax++ei) hH e (by simp) (r.append r2) ?_,rfl,q⟩;rw [zzM];omega
def ir(S:dZ Γ F W N sc k E X){i:Nat}{x:Str}{pos:Pos}(h:N[i]?=some x)(hv:d6 sc x=true)(ho:okN x=true):PE X (.Name x pos) (yc i):=
 eX (by rw [S.C.hN];exact h) (kU S.C hv) (dn ho).1 (dn ho).2.1
def vq{env:Sl}{σ:St}{G H:Hp}{i:Nat}{xs:List PV}(sr:SR W H0 env σ G H)(h:env[i]?=some (.own (.lst xs))):∃a vs,σ[i]?=some (some (.ref a))/\H a=some (.lst vs)/\G a=none/\H0 a=none/\ai W G xs vs:=by
 obtain⟨o,ho,v,rfl,a,vs,rfl,h1,h2,h3,l⟩:=sr.slot i _ h
 exact⟨a,vs,ho,h1,h2,h3,l⟩
def IA(S:dZ Γ F W N sc k E X){i:Nat}{x:Str}{e:Ci.E}{p:Expr}{np apos bG pos:Pos}(h:N[i]?=some x)(hv:d6 sc x=true)(ho:okN x=true)(kD:(apos.endLine==bG.line)=true)(du:gA e=true)(he:GE X W F e p)
 (ez:∀env ps,starEach (p::ps) env=(false,eval p env)::starEach ps env):GS X W F H0 E (.app i e) (.Expr (.Call (.Attribute (.Name x np) "append" apos) [p] [] bG) pos):=by
 refine L2.PS.imp (oj (FR PySem.F.plainAttrs_list PySem.F.slot_list_append PySem.F.type_list_append xm (ir S h hv ho) (cB he dY (ez _ _)) rfl (by rw [ez];rfl) kD (ez _ _) rfl) rfl) λD σ H hq=>?_
 obtain⟨G,env,sr,o⟩:=hq
 rw [gj] at o;split at o
 ·rename_i xs hx;obtain⟨a,vs,hs,h1,h2,h3,l⟩:=vq sr hx
  refine⟨.ref a,hs,.inl ⟨rfl,_,fV.of h1⟩,pR S sr o λq v G1 H1 g t bL o1=>?_⟩
  split at o1
  ·rename_i hl;have GO:=g.h.at h1 (λ_ z=>nomatch z)
   have xS:=g.own a (by rw [h1];exact λz=>nomatch z) (by rw [h1];exact λ_ z=>nomatch z) h2
   have l':=ai.same g.g xs l
   refine⟨a,vs,v,rfl,rfl,GO,by rw [l.length];exact zzW hl (by decide),?_⟩;obtain⟨r2,g2⟩:=lV (p':=.lst (xs++[q])) (ob:=.lst (vs++[v])) bL bL.go hx hs xS h3 ⟨a,_,rfl,aq,xS,h3,l'.append (.cons (t.rep du) .nil)⟩
   exact o1 _ G1 _ r2 g2
  ·exact o1.elim
 ·exact o.elim
def EL(S:dZ Γ F W N sc k E X){i:Nat}{x:Str}{e:Ci.E}{p:Expr}{np apos bG pos:Pos}(h:N[i]?=some x)(hv:d6 sc x=true)(ho:okN x=true)(kD:(apos.endLine==bG.line)=true)(he:GE X W F e p)
 (ez:∀env ps,starEach (p::ps) env=(false,eval p env)::starEach ps env):GS X W F H0 E (.qG i e) (.Expr (.Call (.Attribute (.Name x np) "extend" apos) [p] [] bG) pos):=by
 refine L2.PS.imp (oj (FR PySem.F.plainAttrs_list PySem.F.slot_list_extend PySem.F.type_list_extend (sF S.C.K) (ir S h hv ho) (cB he dY (ez _ _)) rfl (by rw [ez];rfl) kD (ez _ _) rfl) rfl) λD σ H hq=>?_
 obtain⟨G,env,sr,o⟩:=hq
 rw [gj] at o;split at o
 ·rename_i xs hx;obtain⟨a,vs,hs,h1,h2,h3,l⟩:=vq sr hx
  refine⟨.ref a,hs,.inl ⟨rfl,_,fV.of h1⟩,pR S sr o λq v G1 H1 g t bL o1=>?_⟩
  split at o1
  ·rename_i ys;split at o1
   ·rename_i hl;have GO:=g.h.at h1 (λ_ z=>nomatch z)
    have xS:=g.own a (by rw [h1];exact λz=>nomatch z) (by rw [h1];exact λ_ z=>nomatch z) h2
    have l':=ai.same g.g xs l
    obtain⟨b,us,rfl,hb,lb⟩:=t.top.lst bL.sub
    refine⟨a,b,vs,us,rfl,rfl,GO,hb,by rw [l.length,lb.length];exact kQ hl,?_⟩;obtain⟨r2,g2⟩:=lV (p':=.lst (xs++ys)) (ob:=.lst (vs++us)) bL bL.go hx hs xS h3 ⟨a,_,rfl,aq,xS,h3,l'.append lb⟩
    exact o1 _ G1 _ r2 g2
   ·exact o1.elim
  ·exact o1.elim
 ·exact o.elim
def LF:V->V->V->Hp->(Hp->Prop)->Prop:=λo i v H Q=>∃a H',o=.ref a/\wx H a i v H'/\Q H'
def vp(hu:X.A.units+1<cLine):Kv X LF:=by
 intro ae s σ H o i v ov iv u Q I ro ri rv h;obtain⟨a,H',rfl,g,q⟩:=h
 cases ro;exact v9 hu I g ri rv λs' I'=>⟨H',I',q⟩
def iV{env:Sl}{σ:St}{G H:Hp}{i:Nat}{ks:List (List Int)}{ps:List PV}(sr:SR W H0 env σ G H)(h:env[i]?=some (.own (.bw ks ps))):∃a us,σ[i]?=some (some (.ref a))/\ks.length=us.length/\H a=some (.dT (kz ks us))/\G a=none/\H0 a=none/\ai W G ps us:=by
 obtain⟨o,ho,v,rfl,a,us,rfl,n,h1,h2,h3,l⟩:=sr.slot i _ h
 exact⟨a,us,ho,n,h1,h2,h3,l⟩
def IM(S:dZ Γ F W N sc k E X){i:Nat}{x:Str}{kk e:Ci.E}{pk p:Expr}{np fZ pos:Pos}(h:N[i]?=some x)(hv:d6 sc x=true)(ho:okN x=true)(du:gA e=true)(P1:bb Γ N sc kk pk=true)(hk:GE X W F kk pk)(he:GE X W F e p):GS X W F H0 E (.put i kk e) (.Assign [.Subscript (.Name x np) pk fZ] p pos):=by
 have wc:swappedStores [.Subscript (.Name x np) pk fZ] p X.env=pure none:=by cases p<;>rfl
 have ha:∀v,assign (.Subscript (.Name x np) pk fZ) X.env v=(do
  let ov<-holding [v] (eval (.Name x np) X.env)
  let iv<-holding [v,ov] (eval pk X.env)
  standAt fZ
  holding [v,ov,iv] (setItem ov iv v)
  release [v,ov,iv] []):=by
  intro v;cases pk<;>first|rfl|(cases kk<;>first|(exact bj P1)|(rename_i q;cases q<;>exact bj P1))
 refine L2.PS.imp (tm he (yO (ir S h hv ho) hk (vp (by have:=S.C.room.un;omega)) ha) (by cases p<;>rfl) wc) λD σ H hq=>?_
 obtain⟨G,env,sr,o⟩:=hq
 rw [gj] at o;refine pR S sr o λq v G1 H1 g t bL o1=>?_
 split at o1
 ·rename_i ks ps hx;obtain⟨a,us,hs,n,h1,h2,h3,l⟩:=iV bL hx
  refine⟨.ref a,hs,pR S bL o1 λq2 v2 G2 H2 g2 t2 eY o2=>?_⟩
  split at o2
  ·rename_i kk Ha;split at o2
   ·rename_i wY;have e2:=fH Ha
    subst e2;obtain⟨b,rfl,hb⟩:=t2.top.tupI (ns:=kk) eY.sub rfl
    have GO:=g2.h.at h1 (λ_ z=>nomatch z)
    have xS:=g2.own a (by rw [h1];exact λz=>nomatch z) (by rw [h1];exact λ_ z=>nomatch z) h2
    have l':=ai.same g2.g ps l
    refine⟨a,upd H2 a (.dT (putK (kz ks us) (ki kk) v)),rfl,wx.t GO (by rw [oK];exact eY.sub _ _ hb) (by rw [fG n];exact zzW wY (by decide)),?_⟩;rw [sO n];obtain⟨r2,gg⟩:=lV (p':=.bw (bA ks kk) (bf ks ps kk q)) (ob:=.dT (kz (bA ks kk) (bf ks us kk v))) eY eY.go hx hs xS h3 ⟨a,_,rfl,lK n kk v,aq,xS,h3,pM l' (Rep.same g2.g q (t.rep du))⟩
    exact o2 _ G2 _ r2 gg
   ·exact o2.elim
  ·exact o2.elim
 ·exact o1.elim
def Cy(S:dZ Γ F W N sc k E X){i:Nat}{x:Str}{np dp pos:Pos}(h:N[i]?=some x)(hl:fA sc x=true):GS X W F H0 E (.iN i) (.Assign [.Name x np] (.Dict [] [] dp) pos):=by
 obtain⟨a1,a2,a3⟩:=d9 S h hl
 intro ae s σ H D I hq;have Mk:i<σ.length:=by rw [I.len,S.C.hN];exact(zzH.mp h).1
 refine me a1 a2 a3 zQ rfl (.inl (S.fn x)) ae s σ H D I ?_;obtain⟨G,env,sr,o⟩:=hq
 rw [gj] at o;intro p hp;obtain⟨r2,g2⟩:=ub (i:=i) (p:=.bw [] []) (ob:=.dT []) sr sr.go (by rw [sr.len];exact Mk) hp ⟨p,[],rfl,rfl,aq,sr.sub.free hp,sr.base.free hp,.nil⟩
 exact o _ G _ r2 g2
def Kc{b:PV}{c:Const}{j:Nat}{pos:Pos}(h:OU b c=true):∃v,PE X (.Constant c j pos) (tC v)/\∀G,Rep W G b v:=by
 cases b<;>cases c<;>first|exact bj h|(cases zzy.mp h;exact⟨_,Fd,λG=>.b⟩)|(cases zzy.mp h;exact⟨_,sC,λG=>.i⟩)
def AN(S:dZ Γ F W N sc k E X){i n:Nat}{x z:Str}{b:PV}{c:Const}{np zp dp cp pos:Pos}{j:Nat}(h:N[i]?=some x)(hl:fA sc x=true)(hz:N[n]?=some z)(Nl:d6 sc z=true)(LC:okN z=true)(hc:OU b c=true):GS X W F H0 E (.kI i n b) (.Assign [.Name x np] (.Dict [some (.Name z zp)] [.Constant c j cp] dp) pos):=by
 obtain⟨a1,a2,a3⟩:=d9 S h hl
 obtain⟨vb,pb,rb⟩:=Kc (X:=X) (W:=W) (j:=j) (pos:=cp) hc
 intro ae s σ H D I hq;have Mk:i<σ.length:=by rw [I.len,S.C.hN];exact(zzH.mp h).1
 refine me a1 a2 a3 (HG (by have:=S.C.room.un;omega) (eX (by rw [S.C.hN];exact hz) (kU S.C Nl) (dn LC).1 (dn LC).2.1) pb) rfl (.inl (S.fn x)) ae s σ H D I ?_;obtain⟨G,env,sr,o⟩:=hq
 rw [gj] at o;intro p hp;cases e:env[n]? with
 |none=>rw [e] at o;exact o.elim
 |some sl=>
  rw [e] at o;cases sl with
  |val kp=>
   cases hk:fh kp with
   |none=>
    have o':cb W H0 G E ((Res.of (fh kp)).bind λkk=>Res.ok (Fl.nx (env.set i (.own (.bw [kk] [b]))))) D:=o
    rw [hk] at o';exact o'.elim
   |some kk=>
    have o':cb W H0 G E ((Res.of (fh kp)).bind λkk=>Res.ok (Fl.nx (env.set i (.own (.bw [kk] [b]))))) D:=o
    rw [hk] at o';have e2:=fH hk
    subst e2;obtain⟨v,hv,rv⟩:=sr.slot n _ e
    obtain⟨v',rfl,rv⟩:=rv
    obtain⟨ad,rfl,hb⟩:=pX rv
    have hH:=sr.sub _ _ hb
    have g9:ad≠p:=λq=>by rw [q,hp] at hH;cases hH
    refine⟨.ref ad,hv,ad,ki kk,rfl,aq,by rw [ag g9,oK];exact hH,?_⟩;obtain⟨r2,g2⟩:=ub (i:=i) (p:=.bw [kk] [b]) (ob:=.dT (kz [kk] [vb])) sr sr.go (by rw [sr.len];exact Mk) hp ⟨p,[vb],rfl,rfl,aq,sr.sub.free hp,sr.base.free hp,.cons (rb _) .nil⟩
    have uu:upd (upd H p (.dT [])) p (.dT (putK [] (ki kk) vb))=upd H p (.dT (kz [kk] [vb])):=by
     funext q
     by_cases hq:q=p
     ·subst hq;rw [aq,aq];rfl
     ·rw [ag hq,ag hq,ag hq]
    rw [uu];exact o' _ G _ r2 g2
  |no=>exact o.elim
  |own _=>exact o.elim
  |fn _ _ _=>exact o.elim
def xt(S:dZ Γ F W N sc k E X){i j n:Nat}{x y z:Str}{np zp fZ yp apos Qw bG pos:Pos}(h:N[i]?=some x)(hv:d6 sc x=true)(ho:okN x=true)(hz:N[n]?=some z)(Nl:d6 sc z=true)(LC:okN z=true)(hy:N[j]?=some y)(S8:d6 sc y=true)(Sr:okN y=true)
 (kD:(apos.endLine==bG.line)=true):GS X W F H0 E (.eh i j n) (.Assign [.Subscript (.Name x np) (.Name z zp) fZ] (.Call (.Attribute (.Name y yp) "pop" apos) [.Name z Qw] [] bG) pos):=by
 have hu:X.A.units+1<cLine:=by have:=S.C.room.un;omega
 refine L2.PS.imp (tm (Ce hu (ir S hy S8 Sr) (ir S hz Nl LC) ⟨rfl,rfl,kD,rfl⟩) (yO (ir S h hv ho) (ir S hz Nl LC) (vp hu) λ_=>rfl) (by unfold swapsWithSole;exact j6 rfl) rfl) λD σ H hq=>?_
 obtain⟨G,env,sr,o⟩:=hq
 rw [gj] at o;split at o
 ·rename_i ks ps ks2 ps2 kp e1 e2 e3;split at o
  ·rename_i kk Ha;split at o
   ·rename_i p hp;split at o
    ·rename_i wY;have ek:=fH Ha
     subst ek;obtain⟨a,us,hs,nn,h1,h2,h3,l⟩:=iV sr e1
     obtain⟨ok,hk1,v,rfl,rv⟩:=sr.slot n _ e3
     obtain⟨b,rfl,hb⟩:=pX rv
     obtain⟨w,hw,kw⟩:=kb l hp
     refine⟨.ref a,hs,a,rfl,.inr ⟨_,.inl h1⟩,.ref b,hk1,_,ki kk,b,w,h1,rfl,(by rw [oK];exact sr.sub _ _ hb),(by rw [i7];exact hw),?_⟩;rw [uP kk nn];obtain⟨r1,g1⟩:=lV (p':=.bw (bU ks kk) (aQ ks ps kk)) (ob:=.dT (kz (bU ks kk) (aQ ks us kk))) sr sr.go e1 hs h2 h3 ⟨a,_,rfl,qO kk nn,aq,h2,h3,kE l⟩
     have KD:(env.set j (.own (.bw (bU ks kk) (aQ ks ps kk))))[i]?=some (.own (.bw ks2 ps2)):=by rw [zzS (Ne.symm wY.2)];exact e2
     obtain⟨a2,us2,vh,n2,k1,k2,k3,l2⟩:=iV r1 KD
     refine⟨.ref a2,vh,.ref b,hk1,a2,_,rfl,wx.t k1 (by rw [oK];exact r1.sub _ _ hb) (by rw [fG n2];exact zzW wY.1 (by decide)),?_⟩;rw [sO n2];obtain⟨r2,g2⟩:=lV (p':=.bw (bA ks2 kk) (bf ks2 ps2 kk p)) (ob:=.dT (kz (bA ks2 kk) (bf ks2 us2 kk w))) r1 g1 KD vh k2 k3 ⟨a2,_,rfl,lK n2 kk w,aq,k2,k3,pM l2 kw⟩
     exact o _ G _ r2 g2
    ·exact o.elim
   ·exact o.elim
  ·exact o.elim
 ·exact o.elim
end
end Ci
namespace L2
open PySem PySem.Spec PyProof.Rows
end L2
namespace Ci
open PySem L2
theorem oE:∀(cs:List Int) (all:List Int) (j b:Nat) (m:Int),all.drop j=cs->all[b]?=some m->b<j->(∀i c,all[i]?=some c->i<j->m<=c/\(i<b->m<c))->
 ∃m',all[e9 cs j b m]?=some m'/\∀i c,all[i]?=some c->m'<=c/\(i<e9 cs j b m->m'<c)
 |[],all,j,b,m,hd,hb,_,best=>by
  unfold e9;have hl:all.length<=j:=List.drop_eq_nil_iff.mp hd
  exact⟨m,hb,λi c e=>best i c e (zzW (zzH.mp e).1 hl)⟩
 |x::cs,all,j,b,m,hd,hb,hbj,best=>by
  have hx:all[j]?=some x:=by rw [<-List.head?_drop,hd];rfl
  have Bl:all.drop (j+1)=cs:=by rw [<-List.drop_drop,hd];rfl
  unfold e9;split
  ·rename_i cC;refine oE cs all (j+1) j x Bl hx (by omega) λi c e hi=>?_
   by_cases h:i=j
   ·subst h;rw [hx] at e;cases e;exact⟨Int.le_refl _,λz=>absurd z (Nat.lt_irrefl _)⟩
   ·have:=best i c e (by omega)
    exact⟨by omega,λ_=>by omega⟩
  ·rename_i cC;refine oE cs all (j+1) b m Bl hb (by omega) λi c e hi=>?_
   by_cases h:i=j
   ·subst h;rw [hx] at e;cases e;exact⟨by omega,λz=>by omega⟩
   ·exact best i c e (by omega)
def D9{cs:List Int}{x:Nat}(h:AW cs=some x):∃m,cs[x]?=some m/\∀i c,cs[i]?=some c->m<=c/\(i<x->m<c):=by
 cases cs with
 |nil=>cases h
 |cons c cs=>
  cases h;refine oE cs (c::cs) 1 0 c rfl rfl (by omega) λi d e hi=>?_
  have:i=0:=by omega
  subst this;cases e;exact⟨Int.le_refl _,λz=>absurd z (Nat.not_lt_zero _)⟩
theorem nc{W:Wd}{G H:Hp}{K:zz8}(hK:W.K=K)(sg:aA G H):∀{ps:List PV} {us:List V} {cs:List Int},iq ps=some cs->ai W G ps us->cs.length=ps.length/\∀(i:Nat) v,us[i]?=some v->∃q r,v=V.ref q/\fF K H q (.int (cs.getD i 0)::r)
 |[],_,_,e,l=>by cases e;simp! [ai] at l;subst l;exact⟨rfl,λi v h=>by simp at h⟩
 |p::ps,us,cs,e,l=>by
  obtain⟨u,ur,rfl,h1,h2⟩:=l.bK
  unfold iq at e;split at e
  ·rename_i heq;cases heq
  ·rename_i heq;cases heq;obtain⟨r,hr,rfl⟩:=zzJ.mp e
   obtain⟨i1,i2⟩:=nc hK sg hr h2
   refine⟨by simp [i1],λi v hv=>?_⟩
   cases i with
   |zero=>
    cases hv;simp! [Rep] at h1;obtain⟨q,ws,rfl,tq,lq⟩:=h1
    obtain⟨w,wr,rfl,k1,lq⟩:=lq.bK
    simp! [Rep] at k1;subst k1;exact⟨q,wr,rfl,by rw [<-hK];simpa using aA.tup sg tq.sq⟩
   |succ i=>simpa using i2 i v (by simpa using hv)
  ·cases e
section
variable{Γ:Pg}{X:Cx}{W:Wd}{F:aH}{N:List Str}{sc:Scope}{k:Nat}{H0:Hp}{E:XK}
def Ef(S:dZ Γ F W N sc k E X){m i:Nat}{x y:Str}{params:Arguments}{body:Expr}{scope:Scope}{yp q1 q2 q3 q4 q5 pos:Pos}(h1:N[m]?=some y)(h2:fA sc y=true)(h3:N[i]?=some x)(h4:sc.names.lookup x=some .cell)(h5:iz sc "min"=true)(h6:Γ.bs.contains "min"=true)(h7:Γ.hl=true)
 (h8:vk x params body scope=true):GS X W F H0 E (.mn m i) (.Assign [.Name y yp] (.Call (.Name "min" q1) [.Name x q2] [⟨some "key",.Lambda params body scope q3,q4⟩] q5) pos):=by
 obtain⟨a1,a2,a3⟩:=d9 S h1 h2
 obtain⟨p,ep,L,hfr,hox⟩:=yU h8
 have pe:PE X (.Call (.Name "min" q1) [.Name x q2] [⟨some "key",.Lambda params body scope q3,q4⟩] q5) (λσ H Q=>∃G env ks ps cs ix kk,SR W H0 env σ G H/\env[i]?=some (.own (.bw ks ps))/\iq ps=some cs/\AW cs=some ix/\ks[ix]?=some kk/\∀v G' H',aB W G H G' H'->Rep W G' (af kk) v->Q v H'):=by
  intro ae s σ H Q I hq;obtain⟨G,env,ks,ps,cs,ix,kk,sr,e1,e2,e3,e4,q⟩:=hq
  obtain⟨d,us,hs,n,k1,k2,k3,l⟩:=iV sr e1
  obtain⟨c,ef⟩:=I.ok.has x (.inl (by show X.env.scope.names.lookup x=_;rw [S.C.eW];exact h4))
  have FH:closureFor scope X.env=pure [(x,c)]:=by
   rw [iu λy hy hf=>?_]
   ·show pure (bH X.env (aZ scope))=_
    rw [hfr];simp [bH,ef]
   ·have:y.1∈aZ scope:=by
     unfold aZ;rw [List.mem_reverse,zzx];exact⟨y,List.mem_filter.mpr ⟨hy,by rw [hf];rfl⟩,rfl⟩
    rw [hfr] at this;rw [zzi.mp this];exact⟨c,ef⟩
  refine wpAny_Call_Name_kw (dX I (fD S.C h5) (S.C.bs _ (zzn.mp h6)) (u:=.builtin "min") (by decide+kernel) ?_);refine PyProof.Rows.callWith_kw ?_;refine Calls.spliced_cons (bI (eX (i:=i) (by rw [S.C.hN];exact h3) (.inr (.inl (by show X.env.scope.names.lookup x=_;rw [S.C.eW];exact h4))) (dn hox).1 (dn hox).2.1 ae s σ H (λv' H1=>v'=.ref d/\H1=H) I ⟨_,hs,rfl,rfl⟩) λu s1 hu=>Calls.spliced_nil ?_)
  obtain⟨v',H1,I1,ru,rfl,rfl⟩:=hu
  cases ru;refine PyProof.Rows.kws_cons (bI (y8 S.C h7 ep FH ae s1 σ H1 (λv2 H2=>∃f G2,v2=.ref f/\n8 X W params body scope [(x,c)] G H1 G2 H2 f) I1 ⟨G,sr.sub,sr.tab,λf G2 H2 lm=>⟨f,G2,rfl,lm⟩⟩) λu s2 hu=>PyProof.Rows.kws_nil ?_)
  obtain⟨v2,H2,I2,ru,f,G2,rfl,g2,c',oc,df,t,fJ,pm,fo,co,cd,cn⟩:=hu
  cases ru;have eY:=sr.grow g2
  obtain⟨d',us',xh,n',k1',k2',k3',l'⟩:=iV eY e1
  rw [hs] at xh;cases xh;obtain⟨cl1,cl2⟩:=nc (K:=X.K) S.C.K eY.sub e2 l'
  have M:KM X σ H2 k d f (kz ks us') (λi=>cs.getD i 0):=by
   refine⟨S.C.room,k1',⟨p,x,params,body,scope,_,c,c',oc,df,t,pm,fJ,i,L,ef,I.ok.JM x c (S.C.fl h7 x) ef,eY.sub _ _ fo,eY.sub _ _ co,cd,cn,λu=>vJ ep [u] rfl,by rw [S.C.hN];exact h3,hs,by rw [S.C.eW];exact h4⟩,λj kx v e=>?_⟩
   have:us'[j]?=some v:=by
    unfold kz at e;rw [List.getElem?_zip_eq_some] at e;exact e.2
   exact cl2 j v this
  obtain⟨mm,hm1,Ga⟩:=D9 e3
  have Oo:ix<ks.length:=(zzH.mp e4).1
  have RX:cs.length=ks.length:=by rw [cl1,<-l'.length,n']
  refine xA M (by rw [fG n'];omega) I2 λj kx v b e hb best=>?_
  rw [fG n'] at best;have hj:j<ks.length:=by
   have:=(zzH.mp e).1
   rw [fG n'] at this;exact this
  have ej:j=ix:=by
   have ca:∀a,a<cs.length->cs[a]?=some (cs.getD a 0):=λa ha=>by simp [ha]
   have b1:=best ix Oo
   have b2:=Ga j _ (ca j (by omega))
   have em:mm=cs.getD ix 0:=by rw [ca ix (by omega)] at hm1;exact(zzq hm1).symm
   rw [em] at b2;rcases Nat.lt_trichotomy j ix with z|z|z
   ·have:=b2.2 z;have:=b1.1;omega
   ·exact z
   ·have:=b1.2 z;have:=b2.1;omega
  subst ej;have ek:kx=ki kk:=by
   have:=congrArg (λl=>l[j]?) (pL (us:=us') n')
   simp! [zzQ,e,e4,Option.map_some] at this;exact zzq this
  rw [ek,oK] at hb;obtain⟨G3,g3,l3⟩:=gV (W:=W) (vs:=[.ref b]) (nss:=[kk]) eY.sub (.cons ⟨b,rfl,hb⟩ .nil)
  obtain⟨w,r,ew,hw,_⟩:=l3.bK
  cases ew;exact q _ _ _ (g2.trans g3) hw
 refine L2.PS.imp (me a1 a2 a3 pe rfl (.inl (S.fn y))) λD σ H hq=>?_
 obtain⟨G,env,sr,o⟩:=hq
 rw [gj] at o;split at o
 ·rename_i ks ps hx;split at o
  ·rename_i cs hcs;split at o
   ·rename_i kk Ha;obtain⟨ix,FT,hk2⟩:=zzZ.mp Ha
    exact⟨G,env,ks,ps,cs,ix,kk,sr,hx,hcs,FT,hk2,λv G' H' g' rp=>o _ G' _ ((sr.grow g').set m rp) (sr.on g')⟩
   ·exact o.elim
  ·exact o.elim
 ·exact o.elim
def qu{e:Ci.E}(h:i4 e=true):∀env q,aD F e env=.ok q->∃xs,q=.lst xs:=by
 cases e<;>first|(exact bj h)|exact lst_is|exact vA|exact n5
def nA(S:dZ Γ F W N sc k E X){i:Nat}{x:Str}{xp pos:Pos}(hx:N[i]?=some x)(B8:fA sc x=true)(e:Ci.E)(p:Expr)(hf:i4 e=true)(h:bb Γ N sc e p=true):PS X (.Assign [.Name x xp] p pos) (JG X W F i e):=by
 cases e with
 |lst as=>
  obtain⟨ps,e,h1⟩:=aj h
  obtain⟨_,rfl⟩:=zR e
  have h2:=az h1
  have h0:=az h2.1
  exact oy S hx B8 (Aa h0.1 (zzY h0.2) (k7 as S.C _ h2.2)) rfl
 |comp kk aU tg it elt=>
  obtain⟨eU,gens,scope,_,rfl,h1⟩:=M7 h
  obtain⟨⟨cE,f6,ifs,asy⟩,z2,h2⟩:=jh h1
  have h3:=az h2
  have z3:=Ei h3.1
  dsimp only at z2 z3;subst z2 z3
  clear h h1 h2
  have h:=az h3.2
  clear h3
  simp! [zza] at h;obtain⟨⟨⟨⟨⟨⟨h1,h2⟩,h3⟩,h4⟩,h5⟩,h6⟩,iw⟩:=h
  have iw:=zzY iw
  subst iw;exact yy S hx B8 (iX h1) h2 h3 (Au it S.C cE f6 h4) (iQ h4 _) h5 λY CY=>(bx elt CY eU h6).ge
 |bT kk aU tg it c elt=>
  obtain⟨eU,gens,scope,_,rfl,h1⟩:=M7 h
  obtain⟨⟨cE,f6,ifs,asy⟩,z2,h2⟩:=jh h1
  obtain⟨pc,z3,h3⟩:=jh h2
  dsimp only at z2 z3;subst z2 z3
  clear h h1 h2
  have h:=az h3
  clear h3
  simp! [zza] at h;obtain⟨⟨⟨⟨⟨⟨⟨⟨h0,h1⟩,h2⟩,h3⟩,h4⟩,h5⟩,h6⟩,h7⟩,iw⟩:=h
  have iw:=zzY iw
  subst iw;exact tP S hx B8 (iX h1) h2 h3 (Au it S.C cE f6 h4) (iQ h4 _) h5 (λY CY=>(bx c CY pc h6).gt h0) λY CY=>(bx elt CY eU h7).ge
 |_=>exact bj hf
def xD{e:Ci.E}{p:Expr}(h:bb Γ N sc e p=true)(hf:i4 e=false):i9 p=true:=by
 cases p<;>first|rfl|(cases e<;>first|(exact bj h)|(rename_i q;cases q<;>exact bj h)|(cases hf;done))
def xj(S:dZ Γ F W N sc k E X){i:Nat}{x:Str}{e:Ci.E}{p:Expr}{xp pos:Pos}(h:N[i]?=some x)(hl:fA sc x=true)(du:gA e=true)(hc:bb Γ N sc e p=true):GS X W F H0 E (.set i e) (.Assign [.Name x xp] p pos):=by
 cases hf:i4 e with
 |true=>exact EE S (qu hf) du (nA S h hl e p hf hc)
 |false=>exact IQ S h hl du (bx e S.C p hc).ge (j6 (xD hc hf))
def yg(S:dZ Γ F W N sc k E X)(e:Ci.E)(p:Stmt)(h:eB Γ N sc (.expr e) p=true):GS X W F H0 E (.expr e) p:=by
 cases p<;>first|(exact bj h)|skip
 replace h:=az h
 try simp! [zza] at h
 exact CI S (bx e S.C _ h.2).ge h.1
def Dz(S:dZ Γ F W N sc k E X)(i:Nat)(e:Ci.E)(p:Stmt)(h:eB Γ N sc (.set i e) p=true):GS X W F H0 E (.set i e) p:=by
 cases p<;>first|(exact bj h)|skip
 replace h:=aj h
 simp! [Option.any_eq_true,zza,zzy] at h;obtain⟨x,h0,h1⟩:=h
 obtain⟨xp,rfl⟩:=lO h0
 exact xj S h1.1.1.1 h1.1.1.2 h1.1.2 h1.2
def Ep(S:dZ Γ F W N sc k E X)(i:Nat)(e:Ci.E)(p:Stmt)(h:eB Γ N sc (.own i e) p=true):GS X W F H0 E (.own i e) p:=by
 cases p<;>first|(exact bj h)|skip
 replace h:=aj h
 simp! [Option.any_eq_true,zza,zzy] at h;obtain⟨x,h0,h⟩:=h
 obtain⟨xp,rfl⟩:=lO h0
 exact Bu S h.1.1.1 (qu h.1.2) (nA S h.1.1.1 h.1.1.2 e _ h.1.2 h.2)
def DK(S:dZ Γ F W N sc k E X)(tg:Tg)(e:Ci.E)(p:Stmt)(h:eB Γ N sc (.FI tg e) p=true):GS X W F H0 E (.FI tg e) p:=by
 cases p<;>first|(exact bj h)|skip
 replace h:=aj h
 simp! [Option.any_eq_true,zza] at h;obtain⟨t,h0,⟨⟨⟨⟨h1,h2⟩,h3⟩,h4⟩,h5⟩,h6⟩:=h
 cases dh h0;exact Jq S h1 h2 h3 h4 h5 (bx e S.C _ h6).ge
def EJ(S:dZ Γ F W N sc k E X)(i:Nat)(p:Stmt)(h:eB Γ N sc (.bp i) p=true):GS X W F H0 E (.bp i) p:=by
 cases p<;>exact bj h
def BC(S:dZ Γ F W N sc k E X)(i:Nat)(e:Ci.E)(p:Stmt)(h:eB Γ N sc (.app i e) p=true):GS X W F H0 E (.app i e) p:=by
 cases p<;>first|(exact bj h)|skip
 replace h:=aj h
 simp! [Option.any_eq_true,zza,zzy] at h;obtain⟨⟨x,m,args⟩,h0,⟨⟨⟨⟨h1,h2⟩,h3⟩,h4⟩,h5⟩,q,h6,h7⟩:=h
 obtain⟨np,apos,bG,rfl,hl⟩:=tU h0
 cases dh h6;cases h4;exact IA S h1 h2 h3 hl h5 (bx e S.C q h7).ge (notStar h7)
def Aw(S:dZ Γ F W N sc k E X)(i:Nat)(e:Ci.E)(p:Stmt)(h:eB Γ N sc (.qG i e) p=true):GS X W F H0 E (.qG i e) p:=by
 cases p<;>first|(exact bj h)|skip
 replace h:=aj h
 simp! [Option.any_eq_true,zza,zzy] at h;obtain⟨⟨x,m,args⟩,h0,⟨⟨⟨h1,h2⟩,h3⟩,h4⟩,q,h6,h7⟩:=h
 obtain⟨np,apos,bG,rfl,hl⟩:=tU h0
 cases dh h6;cases h4;exact EL S h1 h2 h3 hl (bx e S.C q h7).ge (notStar h7)
def Ca(S:dZ Γ F W N sc k E X)(i:Nat)(kk e:Ci.E)(p:Stmt)(h:eB Γ N sc (.put i kk e) p=true):GS X W F H0 E (.put i kk e) p:=by
 cases p<;>first|(exact bj h)|skip
 replace h:=aj h
 simp! [Option.any_eq_true,zza,zzy] at h;obtain⟨⟨x,pk⟩,h0,⟨⟨⟨⟨h1,h2⟩,h3⟩,h5⟩,h6⟩,h7⟩:=h
 obtain⟨np,sp,rfl⟩:=yl h0
 exact IM S h1 h2 h3 h5 h6 (bx kk S.C pk h6).ge (bx e S.C _ h7).ge
def AY(S:dZ Γ F W N sc k E X)(i:Nat)(p:Stmt)(h:eB Γ N sc (.iN i) p=true):GS X W F H0 E (.iN i) p:=by
 cases p<;>first|(exact bj h)|skip
 rename_i ts v pos;cases v<;>first|(exact bj h)|skip
 rename_i ks vs dp;cases ks<;>first|(exact bj h)|skip
 cases vs<;>first|(exact bj h)|skip
 replace h:=aj h
 simp! [Option.any_eq_true,zza,zzy] at h;obtain⟨x,h0,h1,h2⟩:=h
 obtain⟨yp,rfl⟩:=lO h0
 exact Cy S h1 h2
def vZ(S:dZ Γ F W N sc k E X)(i n:Nat)(b:PV)(p:Stmt)(h:eB Γ N sc (.kI i n b) p=true):GS X W F H0 E (.kI i n b) p:=by
 cases p<;>first|(exact bj h)|skip
 rename_i ts v pos;cases v<;>first|(exact bj h)|skip
 rename_i ks vs dp;cases ks with
 |nil=>exact bj h
 |cons ke ks=>
  cases ke with
  |none=>exact bj h
  |some ke=>
   cases ks with
   |cons _ _=>exact bj h
   |nil=>
    cases vs with
    |nil=>exact bj h
    |cons ve vs=>
     cases ve with
     |Constant c j cp=>
      cases vs with
      |cons _ _=>exact bj h
      |nil=>
       replace h:=aj h
       simp! [Option.any_eq_true,zza,zzy] at h;obtain⟨x,h0,z,hz,⟨⟨⟨⟨h1,h2⟩,h3⟩,h4⟩,h5⟩,h6⟩:=h
       obtain⟨yp,rfl⟩:=lO h0
       obtain⟨zp,rfl⟩:=b9 hz
       exact AN S h1 h2 h3 h4 h5 h6
     |_=>exact bj h
def sX(S:dZ Γ F W N sc k E X)(i j n:Nat)(p:Stmt)(h:eB Γ N sc (.eh i j n) p=true):GS X W F H0 E (.eh i j n) p:=by
 cases p<;>first|(exact bj h)|skip
 replace h:=aj h
 simp! [Option.any_eq_true,zza,zzy] at h;obtain⟨⟨x,pk⟩,h0,z,hz,⟨⟨⟨⟨⟨h1,h2⟩,h3⟩,h4⟩,h5⟩,h6⟩,⟨y,m,args⟩,h7,h8,e,he,z2,hz2,⟨⟨h9,h10⟩,h11⟩,h12⟩:=h
 obtain⟨np,sp,rfl⟩:=yl h0
 obtain⟨zp,rfl⟩:=b9 hz
 obtain⟨yp,apos,bG,rfl,hl⟩:=tU h7
 cases h8;cases dh he;obtain⟨Qw,rfl⟩:=b9 hz2
 subst h9;exact xt S h1 h2 h3 h4 h5 h6 h10 h11 h12 hl
def AX(S:dZ Γ F W N sc k E X)(m i:Nat)(p:Stmt)(h:eB Γ N sc (.mn m i) p=true):GS X W F H0 E (.mn m i) p:=by
 cases p<;>first|(exact bj h)|skip
 replace h:=aj h
 simp! [Option.any_eq_true,zza,zzy] at h;obtain⟨y,hy,c,hc,⟨⟨⟨⟨⟨⟨h1,h2⟩,h3⟩,h4⟩,h5⟩,h6⟩,h7⟩,h8⟩:=h
 obtain⟨yp,rfl⟩:=lO hy
 obtain⟨q1,q2,q3,q4,q5,rfl⟩:=Jd hc
 exact Ef S h1 h2 h3 h4 h5 h6 h7 h8
def BO(S:dZ Γ F W N sc k E X)(e:Ci.E)(p:Stmt)(h:eB Γ N sc (.ret e) p=true):GS X W F H0 E (.ret e) p:=by
 cases p<;>first|(exact bj h)|skip
 rename_i v pos;cases v with
 |none=>exact bj h
 |some v=>
  replace h:=az h
  try simp! [zza] at h
  exact Jx S h.1 (bx e S.C v h.2).ge
def vX(S:dZ Γ F W N sc k E X)(c m:Str)(p:Stmt)(h:eB Γ N sc (.raise c m) p=true):GS X W F H0 E (.raise c m) p:=by
 cases p<;>first|(exact bj h)|skip
 replace h:=az h
 simp! [Option.any_eq_true,zza,zzy] at h;obtain⟨hn,⟨x,z⟩,h0,⟨⟨⟨h1,h2⟩,h3⟩,h4⟩,h5⟩:=h
 obtain⟨np,j,zp,cp,rfl⟩:=JF h0
 cases h1;cases h2;rename_i fr pos;cases Option.isNone_iff_eq_none.mp hn;exact ya S h3 h4 h5
def Cf(S:dZ Γ F W N sc k E X)(p:Stmt)(h:eB Γ N sc (.brk) p=true):GS X W F H0 E (.brk) p:=by
 cases p<;>first|(exact bj h)|skip
 exact Iv
def BV{c:Ci.E}{a b:Ss}{p:Stmt}(h:eB Γ N sc (.ite c a b) p=true):∃q pa pb pos,p=.If q pa pb pos/\fW c=true/\bb Γ N sc c q=true/\dv Γ N sc a pa=true/\dv Γ N sc b pb=true:=by
 cases p<;>first|(exact bj h)|skip
 replace h:=az h
 try simp! [zza] at h
 exact⟨_,_,_,_,rfl,h.1.1.1,h.1.1.2,h.1.2,h.2⟩
def Er{tg:Tg}{it:I}{b:Ss}{p:Stmt}(h:eB Γ N sc (.cM tg it b) p=true):∃cE f6 pb pos,p=.For cE f6 pb [] pos/\fR N sc (λ_=>true) tg cE=true/\BG it=true/\xu Γ N sc cE it f6=true/\dv Γ N sc b pb=true:=by
 cases p<;>first|(exact bj h)|skip
 replace h:=az h
 try simp! [zza] at h
 cases List.isEmpty_iff.mp h.1.1.1.1;exact⟨_,_,_,_,rfl,h.1.1.1.2,h.1.1.2,h.1.2,h.2⟩
def El{c:Ci.E}{b:Ss}{p:Stmt}(h:eB Γ N sc (.Bj c b) p=true):∃q pb pos,p=.While q pb [] pos/\fW c=true/\bb Γ N sc c q=true/\dv Γ N sc b pb=true:=by
 cases p<;>first|(exact bj h)|skip
 replace h:=az h
 try simp! [zza] at h
 cases List.isEmpty_iff.mp h.1.1.1;exact⟨_,_,_,rfl,h.1.1.2,h.1.2,h.2⟩
def Ek{ps:List Stmt}(h:dv Γ N sc .nil ps=true):ps=[]:=by
 cases ps with
 |nil=>rfl
 |cons _ _=>exact bj h
def yJ{s:Ci.S}{ss:Ss}{ps:List Stmt}(h:dv Γ N sc (.cons s ss) ps=true):(∃i,s=.bp i/\dv Γ N sc ss ps=true)\/∃q qs,ps=q::qs/\eB Γ N sc s q=true/\dv Γ N sc ss qs=true:=by
 by_cases hz:∃i,s=.bp i
 ·obtain⟨i,rfl⟩:=hz
  exact .inl ⟨i,rfl,h⟩
 ·cases ps with
  |nil=>cases s<;>first|(exact absurd ⟨_,rfl⟩ hz)|(exact bj h)
  |cons p ps=>
   have h2:(eB Γ N sc s p&&dv Γ N sc ss ps)=true:=by
    cases s<;>first|(exact absurd ⟨_,rfl⟩ hz)|(exact h)
   rw [zza] at h2;exact .inr ⟨p,ps,rfl,h2.1,h2.2⟩
mutual
theorem OS(S:dZ Γ F W N sc k E X):∀(s:Ci.S) (p:Stmt),eB Γ N sc s p=true->GS X W F H0 E s p
 |.expr e,p,h=>yg S e p h
 |.set i e,p,h=>Dz S i e p h
 |.own i e,p,h=>Ep S i e p h
 |.FI tg e,p,h=>DK S tg e p h
 |.bp i,p,h=>EJ S i p h
 |.app i e,p,h=>BC S i e p h
 |.qG i e,p,h=>Aw S i e p h
 |.put i kk e,p,h=>Ca S i kk e p h
 |.iN i,p,h=>AY S i p h
 |.kI i n b,p,h=>vZ S i n b p h
 |.eh i j n,p,h=>sX S i j n p h
 |.mn m i,p,h=>AX S m i p h
 |.ret e,p,h=>BO S e p h
 |.ite c a b,p,h=>by
  obtain⟨q,pa,pb,pos,rfl,h1,h2,h3,h4⟩:=BV h
  exact IC S ((bx c S.C _ h2).gt h1) (lI S a _ h3) (lI S b _ h4)
 |.cM tg it b,p,h=>by
  obtain⟨cE,f6,pb,pos,rfl,h1,h2,h3,h4⟩:=Er h
  exact GP S h1 h2 (Au it S.C cE f6 h3) (iQ h3 _) (lI S b _ h4)
 |.Bj c b,p,h=>by
  obtain⟨q,pb,pos,rfl,h1,h2,h3⟩:=El h
  exact Gf S ((bx c S.C _ h2).gt h1) (lI S b _ h3)
 |.raise c m,p,h=>vX S c m p h
 |.brk,p,h=>Cf S p h
theorem lI(S:dZ Γ F W N sc k E X):∀(ss:Ss) (ps:List Stmt),dv Γ N sc ss ps=true->Bt X W F H0 E ss ps
 |.nil,ps,h=>by
  cases Ek h;exact C0
 |.cons s ss,ps,h=>by
  rcases yJ h with⟨i,e,h2⟩|⟨q,qs,e,h1,h2⟩
  ·have:=CV (i:=i) (lI S ss ps h2)
   rw [<-e] at this;exact this
  ·rw [e];exact yz (OS S s q h1) (lI S ss qs h2)
end
end
end Ci
namespace L2
open PySem PySem.Spec PyProof.Rows
def zL{K:zz8}{C:Addr}{T:String}{b:Bool}(h1:PySem.W.kitMeta T=true)(h3:PySem.W.subIn K (.ref C) (.type T)=some b):PySem.W.kitOne K (.ref C) (.type T)=some b:=by
 unfold PySem.W.kitOne;split
 ·rename_i e;cases zzy.mp e
 ·show(if PySem.W.kitMeta T=true then PySem.W.subIn K (.ref C) (.type T) else none)=some b
  rw [if_pos h1];exact h3
def Hv{K:zz8}{h:Heap}{mg:Str->Option Value}{x:Str}{C:Addr}{QA:List Value}{newId:String}(X:K.In h)(hm:mg x=some (.ref C))(q:PySem.W.excIn K C QA newId=true):OwnCls x C QA newId mg h:=by
 constructor
 ·exact hm
 ·unfold PySem.W.excIn at q;split at q
  ·rename_i dd cd sl ho;split at q
   ·rename_i C1 bm1 k0 k1 k2 k3 n1 k5 hm1 FE;simp! [zza,zzy,Bool.not_eq_true'] at q;obtain⟨⟨⟨⟨⟨q1,q2⟩,q3⟩,q4⟩,q5⟩,q6⟩:=q
    subst q1 q2;obtain⟨nm,bs,mro,ns,qn,hd,sn,sub,ab,col,del⟩:=cd
    have Ga:mro=.ref C1::bm1:=hm1
    have hd2:del=false:=q3
    have Qq:PySem.W.nsOkIn K ns=true:=q5
    have Sb:PySem.W.nsIn K ns "__init__"=some none:=q6
    subst Ga hd2;obtain⟨ls⟩:=sl
    have vh:ls=[k0,k1,k2,k3,some (.builtin n1),k5]:=FE
    subst vh;exact⟨bm1,ns,nm,qn,bs,hd,sn,sub,ab,col,dd,k0,k1,k2,k3,k5,_,X _ _ ho,.of_isNs (PySem.W.isNs_of_in X Qq),PySem.W.nsMap_none_of_in X Qq Sb,PySem.W.tail_of_in X q4⟩
   ·cases q
  ·cases q
end L2
namespace Ci
open PySem L2
abbrev zY:List Value:=[.type "ValueError",.type "Exception",.type "BaseException",.type "object"]
structure uh(K:zz8)(mg:Str->Option Value)(Γ:Pg)(W:Wd):Prop where
 hK:W.K=K
 hm:W.mg=mg
 gs:∀q∈Γ.gs,∃u v,mg q.1=some u/\RelV v u/\∀G,Rep W G q.2 v
 bs:∀g∈Γ.bs,mg g=none
 Ni:Γ.cs.contains "ValueError"=false
 cls:∀c∈Γ.cs,∃C,mg c=some (.ref C)
 xc:∀d∈W.xs,∀D,mg d=some (.ref D)->Gd K D/\(∀c∈Γ.cs,∀C,mg c=some (.ref C)->PySem.W.kitOne K (.ref D) (.ref C)=some (c==d||c=="FloorError"))/\PySem.W.kitOne K (.ref D) (.type "ValueError")=some true
 xs:∀c,Γ.rs.contains c=true->c∈W.xs
 rm:∀c,Γ.rs.contains c=true->∃C,mg c=some (.ref C)/\PySem.W.excIn K C zY "ValueError.__new__"=true
 MI:Γ.cs.contains "FloorError"=true->∀c D,c∈W.xs->mg c=some (.ref D)->∀T,mg "FloorError"=some (.ref T)->PySem.W.exmOne K (.ref D) (.ref T)=some true
 bm:W.ts≠[]->∃bm o,mg "__builtins__"=some (.ref bm)/\bm≠builtinsNs/\bm≠mainGlobals/\K.lookup bm=some o/\o.cls=.type "module"/\o.dict=some builtinsNs/\o.data=.plain
structure Row where
 f:Str
 h:Str
 d:Def
 st:Stmt
 hl:Bool:=false
abbrev dJ:Type:=List Row
def mB(l:dJ):List Str:=l.filterMap λr=>if r.d.il.isNone then some r.f else none
def wQ(l:dJ):List Hs:=l.filterMap λr=>r.d.il.map λq=>⟨r.f,r.h,q.1,q.2,r.d.np⟩
def tab(l:dJ):List (Str×Def):=l.map λq=>(q.f,q.d)
noncomputable def Pg.at(Γ:Pg)(l:dJ)(hl:Bool):Pg:={Γ with fs:=mB l,hs:=wQ l,hl:=hl}
structure bQ(Γ:Pg)(n:Str)(d:Def)(st:Stmt):Prop where
 sc:kh d.N (d.N.take d.np) (aR st)
 np:d.np<=d.N.length
 bind:∀(kV doc pm:Value) (an:Option Addr) (fU ct:Value) (us:List Value),us.length=(d.N.take d.np).length->bindArgs (PySem.W.fnOf n n (di st) (cU st) (aR st) .none kV doc pm an fU ct) ⟨us,[]⟩=pure ((d.N.take d.np).zip us)
 SU:dv Γ d.N (aR st) d.body (cU st)=true
theorem stM{Γ:Pg}{n:Str}{d:Def}{st:Stmt}(b:∀(kV doc pm:Value) (an:Option Addr) (fU ct:Value) (us:List Value),us.length=(d.N.take d.np).length->bindArgs (PySem.W.fnOf n n (di st) (cU st) (aR st) .none kV doc pm an fU ct) ⟨us,[]⟩=pure ((d.N.take d.np).zip us))
 (a1:(aR st).kind=.function:=by rfl) (a2:(aR st).isCoroutine=false:=by rfl) (a3:(aR st).isGenerator=false:=by rfl) (a4:d.N.Nodup:=by decide+kernel) (a5:d.N.take (d.N.take d.np).length=d.N.take d.np:=by rfl)
 (a6:∀x∈d.N.take d.np,(aR st).names.lookup x=some .local\/(aR st).names.lookup x=some .cell:=by decide+kernel) (a7:∀y∈(aR st).names,y.2≠.free:=by decide+kernel) (a8:d.np<=d.N.length:=by decide+kernel) (a9:dv Γ d.N (aR st) d.body (cU st)=true:=by decide+kernel):bQ Γ n d st:=⟨⟨a1,a2,a3,a4,a5,a6,a7⟩,a8,b,a9⟩
def fq(K:zz8)(c P:Addr):Prop:=∃o vs file tf flags tg Pz text tt,K.lookup c=some o/\o.cls=.type "code"/\o.data=.fields vs/\vs[11]?=some (.ref P)/\vs.getD 11 .none=.ref P/\vs.getD 18 .none=.str file tf/\
 vs.getD 7 .none=.int flags tg/\vs.getD 9 .none=.bool Pz/\vs.getD 10 .none=.int text tt/\c≠P
def jz(n:Str):Str:=(n++".<locals>.")++"<lambda>"
def w6(K:zz8)(ts:List (Addr×Str))(hl:Bool)(n:Str)(st:Stmt):Prop:=∃(f:Addr) (oc:Value) (od:Option Addr) (kV doc pm:Value) (an:Option Addr) (fU ct:Value) (sS:Array (Option Value)),
 PySem.W.nsIn K mainGlobals n=some (some (.ref f))/\K.lookup f=some ⟨oc,od,.func (PySem.W.fnOf n n (di st) (cU st) (aR st) .none kV doc pm an fU ct),sS⟩/\PySem.W.codeIn K fU n=true/\PySem.W.keepIn K (.ref f)=true/\
 (hl=true->∃c P,fU=.ref c/\fq K c P/\(P,jz n)∈ts/\∀q',(P,q')∈ts->q'=jz n)
def O1{K:zz8}{ts:List (Addr×Str)}{n:Str}{st:Stmt}{f:Addr}{oc:Value}{od:Option Addr}{kV doc pm:Value}{an:Option Addr}{fU ct:Value}{sS:Array (Option Value)}(a:PySem.W.nsIn K mainGlobals n=some (some (.ref f)))
 (l:K.lookup f=some ⟨oc,od,.func (PySem.W.fnOf n n (di st) (cU st) (aR st) .none kV doc pm an fU ct),sS⟩) (c:PySem.W.codeIn K fU n=true) (k:PySem.W.keepIn K (.ref f)=true):w6 K ts false n st:=⟨f,oc,od,kV,doc,pm,an,fU,ct,sS,a,l,c,k,(λz=>nomatch z)⟩
structure pZ(P:Program)(w:World)(K:zz8)(mg:Str->Option Value)(base:Heap)(W:Wd)(F:aH)(k:Nat)(f:Str):Prop where
 ex:∃fa fd ps,f9 P w K mg base (dR P w) k fa fd ps (xN W F f ps.length none)/\mg f=some (.ref fa)/\PySem.W.keepIn K (.ref fa)=true/\Binds K fd ps []/\∀as,F f as≠.bad->as.length=ps.length
structure Gi(P:Program)(w:World)(K:zz8)(mg:Str->Option Value)(base:Heap)(W:Wd)(F:aH)(k:Nat)(q:Hs):Prop where
 ex:∃fa fd ps,f9 P w K mg base (dR P w) k fa fd ps (xN W F q.f ps.length (some (q.g,q.idx)))/\mg q.h=some (.ref fa)/\PySem.W.keepIn K (.ref fa)=true/\Binds K fd ps []/\ps.length=q.np
section
variable{P:Program}{w:World}{K:zz8}{mg:Str->Option Value}{base:Heap}{Γ:Pg}{W:Wd}
def v5{c p:Addr}(KB:K.In base)(h:fq K c p):PySem.W.CodeHd base c p:=by
 obtain⟨o,vs,file,tf,flags,tg,Pz,text,tt,e,r⟩:=h
 exact⟨o,vs,file,tf,flags,tg,Pz,text,tt,KB _ _ e,r⟩
theorem GJ(M:uh K mg Γ W)(KB:K.In base){F:aH}{k:Nat}{N ps:List Str}{qual:Str}{sc:Scope}(S:kh N ps sc)(hF:∀f,Γ.fs.contains f=true->pZ P w K mg base W F k f)(hH:∀q∈Γ.hs,Gi P w K mg base W F k q)(hA:∀g as,F g as≠.bad->Γ.fs.contains g=true\/gf g=true){f:Addr}{cd:Value}
 (hL:Γ.hl=true->∃c p,cd=.ref c/\fq K c p/\(p,jz qual)∈W.ts/\∀q',(p,q')∈W.ts->q'=jz qual) {A:Around} {outer:List Env} {s:Shared} {H:Hp} {E:XK} (hr:dG (k+1) (A.deeper (PyProof.Rows.envOfC qual sc (zz9 s) f cd))):
 dZ Γ F W N sc k E (dM (dR P w) P w K mg base N qual sc f cd A outer s H E) where
 C:=⟨rfl,rfl,rfl,S.nd,M.hK,M.hm,M.gs,M.bs,hr,λg hg=>⟨(hF g hg).ex⟩,M.Ni,M.cls,M.xc,λq hq=>⟨(hH q hq).ex⟩,hA,λz=>by
  obtain⟨c,p,e1,e2,e3,e4⟩:=hL z
  exact⟨c,p,e1,v5 KB e2,e3,e4⟩,λz=>by
  obtain⟨c,p,e1,e2,e3,e4⟩:=hL z
  obtain⟨bm,o,b1,b2,b3,b4,b5⟩:=M.bm (λy=>by rw [y] at e3;cases e3)
  exact⟨bm,o,b1,b2,b3,KB _ _ b4,b5⟩,λ_ _=>rfl⟩
 fn:=λ_=>rfl
 own:=PassesOwn.leaving
 pass:=LB
 kind:=S.kind
 Lc:=rfl
 frame:=rfl
 xs:=M.xs
 rm:=λc hc=>let⟨C,h,_⟩:=M.rm c hc;⟨C,h⟩
 rz:=λc z j np zp cp pos h1 h2 h3=>by
  obtain⟨C,hC,hx⟩:=M.rm c h1
  have hg:Gl (dM (dR P w) P w K mg base N qual sc f cd A outer s H E) c:=zzy.mp h2
  refine L2.PS.imp (Af hg (Hv KB hC hx) PySem.F.excBase_ValueError (cB AL dY) rfl rfl (dn h3).1) λD σ H1 h=>⟨(show 1<=sizeLine by decide),λe he=>h C e hC he⟩
 MI:=M.MI
def rA{H G:Hp}{N:List Str}{as:List PV}{vs:List V}(sg:aA G H)(tb:cK W G H)(l:ai W G as vs)(hn:as.length<=N.length):SR W H (as.map .val++List.replicate (N.length-as.length) .no) (start N vs) G H:=by
 have hl:=l.length
 unfold L2.start;refine⟨by simp;omega,sg,iA.refl _,λi s e=>?_,λi j p q a e1 _ _ _=>?_,tb,tb⟩
 ·by_cases hi:i<as.length
  ·rw [zzr (by simpa using hi),zzQ] at e;obtain⟨p,hp,rfl⟩:=zzJ.mp e
   obtain⟨v,hv,rv⟩:=l.p8 hp
   exact⟨some v,by rw [zzr (by simpa using (show i<vs.length by omega)),zzQ,hv];rfl,v,rfl,rv⟩
  ·rw [zzs (by simpa using hi),List.getElem?_replicate] at e;split at e
   ·rename_i h2;cases e;rw [zzl] at h2;exact⟨none,by rw [zzs (by simp;omega),List.getElem?_replicate,if_pos (by rw [zzl];omega)],trivial⟩
   ·cases e
 ·exfalso
  by_cases hi:i<as.length
  ·rw [zzr (by simpa using hi),zzQ] at e1;obtain⟨p,hp,e⟩:=zzJ.mp e1
   cases e
  ·rw [zzs (by simpa using hi),List.getElem?_replicate] at e1;split at e1<;>cases e1
def SR.LW{H0 G H:Hp}{env:Sl}{σ:St}{g:Str}{idx:List Nat}{cX:List PV}{v:V}(i:Nat)(r:SR W H0 env σ G H)(h:oB W G g idx cX v):SR W H0 (env.set i (.fn g idx cX)) (σ.set i (some v)) G H where
 len:=by simpa using r.len
 sub:=r.sub
 base:=r.base
 tab:=r.tab
 mK:=r.mK
 slot:=λj s e=>by
  by_cases hj:i=j
  ·subst hj;have cC:i<env.length:=by
    have:=(zzH.mp e).1
    simpa using this
   rw [zzo cC] at e;cases e;exact⟨some v,zzo (by rw [<-r.len];exact cC),v,rfl,h⟩
  ·rw [zzS hj] at e;obtain⟨o,h1,h2⟩:=r.slot j s e
   exact⟨o,by rw [zzS hj];exact h1,h2⟩
 apart:=λa b q q' ad e1 e2 e3 e4=>by
  have ne:∀{c:Nat} {q:PV},(env.set i (.fn g idx cX))[c]?=some (.own q)->i≠c:=λ{c q} e z=>by
   subst z;have cC:i<env.length:=by
    have:=(zzH.mp e).1
    simpa using this
   rw [zzo cC] at e;cases e
  have n1:=ne e1
  have n2:=ne e2
  rw [zzS n1] at e1 e3;rw [zzS n2] at e2 e4;exact r.apart a b q q' ad e1 e2 e3 e4
def uK{α:Type}{l r:List α}{a b:α}:(l++a::r).set l.length b=l++b::r:=by
 rw [List.set_append_right _ _ (zzE _),Nat.sub_self];rfl
def xB{d:Def}{H G:Hp}{as:List PV}{vs:List V}(NJ:d.np<=d.N.length)(sg:aA G H)(tb:cK W G H)(l:yt W G d.il as vs)(hv:vs.length=d.np):cL d as=true/\SR W H (cI d as) (start d.N vs) G H:=by
 unfold cL cI;cases hc:d.il with
 |none=>
  rw [hc] at l;have l:ai W G as vs:=l
  exact⟨by rw [<-l.length,hv];simp,rA sg tb l (by rw [<-l.length,hv];exact NJ)⟩
 |some q=>
  rw [hc] at l;obtain⟨uW,cX,vH,v,rfl,rfl,l1,cr⟩:=l
  have Kf:=l1.length
  have hn:vH.length=d.np-1/\0<d.np:=by rw [zzM] at hv;simp at hv;omega
  have ha:uW.length=d.np-1:=by omega
  refine⟨by simp;omega,?_⟩;have h0:=rA (N:=d.N) sg tb l1 (by omega)
  have h1:=h0.LW uW.length cr
  have e1:(uW.map Slot.val++List.replicate (d.N.length-uW.length) Slot.no).set uW.length (.fn q.1 q.2 cX)=((uW++cX).take (d.np-1)).map .val++.fn q.1 q.2 ((uW++cX).drop (d.np-1))::List.replicate (d.N.length-d.np) Slot.no:=by
   rw [<-ha,List.take_left',List.drop_left',show d.N.length-uW.length=(d.N.length-d.np)+1 by omega,List.replicate_succ]
   ·have:=uK (l:=uW.map Slot.val) (r:=List.replicate (d.N.length-d.np) Slot.no) (a:=Slot.no) (b:=.fn q.1 q.2 cX)
    rw [zzl] at this;exact this
   ·rfl
   ·rfl
  have e2:(start d.N vH).set uW.length (some v)=start d.N (vH++[v]):=by
   unfold L2.start;rw [zzM,List.length_singleton,show d.N.length-vH.length=(d.N.length-(vH.length+1))+1 by omega,List.replicate_succ,<-Kf];have:=uK (l:=vH.map some) (r:=List.replicate (d.N.length-(vH.length+1)) none) (a:=none) (b:=some v)
   rw [zzl] at this;rw [this];simp
  rw [e1,e2] at h1;exact h1
def Fq(M:uh K mg Γ W)(KB:K.In base){F:aH}{k:Nat}{n nf:Str}{d:Def}{st:Stmt}{fa:Addr}{fd:FuncData}(St:bQ Γ n d st)(Fu:M3 K n n st fa fd)(hF:∀f,Γ.fs.contains f=true->pZ P w K mg base W F k f)(hH:∀q∈Γ.hs,Gi P w K mg base W F k q)(hA:∀g as,F g as≠.bad->Γ.fs.contains g=true\/gf g=true)
 (hL:Γ.hl=true->∃c p,fd.code=.ref c/\fq K c p/\(p,jz n)∈W.ts/\∀q',(p,q')∈W.ts->q'=jz n):
 f9 P w K mg base (dR P w) (k+2) fa fd (d.N.take d.np) (xN W (λ_ as=>av F d as) nf (d.N.take d.np).length d.il):=by
 have hlen:(d.N.take d.np).length=d.np:=by rw [List.length_take];have:=St.np;omega
 obtain⟨oc,od,kV,doc,pm,an,fU,ct,sS,rfl,lk,sk⟩:=Fu.ex
 refine Kt lk sk St.sc (λvs H Q E h=>h.1) λA outer s H vs Q E hr h=>?_
 obtain⟨hl,G,as,sg,tb,l,o⟩:=h
 rw [hlen] at hl;obtain⟨ar,sr⟩:=xB St.np sg tb l hl
 refine⟨Qf W F H E d.body,lI (GJ M KB St.sc hF hH hA hL hr) d.body _ St.SU,G,cI d as,sr,?_⟩;dsimp only at o;unfold av at o;rw [if_pos ar] at o;cases r:aG F d.body (cI d as) with
 |bad=>rw [r] at o;exact o
 |exc c=>rw [r] at o;exact o
 |ok fl=>
  rw [r] at o;cases fl with
  |nx env=>exact λσ' G' H' sr g=>o .aC G' H' g .n
  |rt p=>exact λv G' H' rv g=>o v G' H' g rv
  |bk env=>exact o.elim
  |ct env=>exact o.elim
def AllK(K:zz8)(ts:List (Addr×Str))(Γ:Pg):dJ->Prop
 |[]=>True
 |r::l=>w6 K ts r.hl r.h r.st/\bQ (Γ.at l r.hl) r.h r.d r.st/\((l.map (·.f)).contains r.f=false/\(r.d.il.isNone==!gf r.f)=true/\(r.d.il.isNone=true->r.f=r.h))/\AllK K ts Γ l
def uC(M:uh K mg Γ W)(l:dJ)(hl:Bool):uh K mg (Γ.at l hl) W:=⟨M.hK,M.hm,M.gs,M.bs,M.Ni,M.cls,M.xc,M.xs,M.rm,M.MI,M.bm⟩
def pZ.mono{F:aH}{j k:Nat}{f:Str}(h:pZ P w K mg base W F j f)(hk:j<=k):pZ P w K mg base W F k f:=by
 obtain⟨fa,fd,ps,h1,h2⟩:=h.ex
 exact⟨fa,fd,ps,h1.mono hk,h2⟩
def ko{F F':aH}{f f':Str}{n:Nat}{q:Option (Str×List Nat)}(e:∀as,F' f' as=F f as):xN W F' f' n q=xN W F f n q:=by
 funext vs H Q E
 unfold xN;simp! [e]
def pZ.swap{F F':aH}{k:Nat}{f:Str}(h:pZ P w K mg base W F k f)(e:∀as,F' f as=F f as):pZ P w K mg base W F' k f:=by
 obtain⟨fa,fd,ps,h1,h2,h3,h4,h5⟩:=h.ex
 refine⟨fa,fd,ps,?_,h2,h3,h4,λas hn=>h5 as (by rw [<-e];exact hn)⟩
 rw [ko e];exact h1
def Gi.swap{F F':aH}{j k:Nat}{q:Hs}(h:Gi P w K mg base W F j q)(hk:j<=k)(e:∀as,F' q.f as=F q.f as):Gi P w K mg base W F' k q:=by
 obtain⟨fa,fd,ps,h1,h2,h3,h4,h5⟩:=h.ex
 refine⟨fa,fd,ps,?_,h2,h3,h4,h5⟩;rw [ko e];exact h1.mono hk
def kL{r:Row}{l:dJ}{g:Str}(h:(g==r.f)=false)(as:List PV):den (tab (r::l)) g as=den (tab l) g as:=by
 show(if(g==r.f)=true then _ else _)=_
 rw [h]
 rfl
def rf{r:Row}{l:dJ}(as:List PV):den (tab (r::l)) r.f as=av (den (tab l)) r.d as:=by
 show(if(r.f==r.f)=true then _ else _)=_
 rw [beq_self_eq_true]
 rfl
theorem pO:∀(l:dJ) {ts:List (Addr×Str)},AllK K ts Γ l->∀g as,den (tab l) g as≠.bad->(mB l).contains g=true\/gf g=true
 |[],_,_,g,as,h=>absurd rfl h
 |r::l,ts,⟨_,_,⟨_,hn,_⟩,hr⟩,g,as,h=>by
  by_cases e:(g==r.f)=true
  ·have e2:=zzy.mp e
   subst e2;cases hc:r.d.il with
   |none=>
    left
    unfold mB;rw [List.filterMap_cons,hc];simp
   |some q=>
    right
    rw [hc] at hn
    simpa using hn
  ·rw [kL (by simpa using e)] at h;rcases pO l hr g as h with z|z
   ·left
    unfold mB at z⊢;rw [List.filterMap_cons];split
    ·exact z
    ·rw [List.contains_cons,z,Bool.or_true]
   ·exact .inr z
theorem zm(M:uh K mg Γ W)(KB:K.In base)(G:base.Ns mainGlobals mg):∀(l:dJ),AllK K W.ts Γ l->(∀f,(mB l).contains f=true->pZ P w K mg base W (den (tab l)) (2*l.length) f)/\∀q∈wQ l,Gi P w K mg base W (den (tab l)) (2*l.length) q
 |[],_=>⟨λf hf=>by simp [mB] at hf,λq hq=>by simp [wQ] at hq⟩
 |r::l,hall=>by
  obtain⟨he,hs,⟨hfr,hnm,hfh⟩,hr⟩:=hall
  obtain⟨ih,ihH⟩:=zm M KB G l hr
  obtain⟨fa,oc,od,kV,doc,pm,an,fU,ct,sS,e1,e2,e3,e4,e5⟩:=he
  have Fu:=Ag (st:=r.st) e2 e3 e4
  have ok:=Fq (P:=P) (w:=w) (nf:=r.f) (uC M l r.hl) KB (k:=2*l.length) hs Fu (λg hg=>ih g hg) (λq hq=>ihH q hq) (pO l hr) e5
  have Cq:∀g,(l.map (·.f)).contains g=true->(g==r.f)=false:=λg hg=>by
   cases z:g==r.f with
   |false=>rfl
   |true=>rw [zzy.mp z,hfr] at hg;cases hg
  have sp:xN W (λ_ as=>av (den (tab l)) r.d as) r.f (r.d.N.take r.d.np).length r.d.il=xN W (den (tab (r::l))) r.f (r.d.N.take r.d.np).length r.d.il:=ko λas=>(rf as).symm
  rw [sp] at ok;have hlen:(r.d.N.take r.d.np).length=r.d.np:=by rw [List.length_take];have:=hs.np;omega
  have ml:∀f,(mB l).contains f=true->(l.map (·.f)).contains f=true:=λf hf=>by
   rw [zzn] at hf⊢;unfold mB at hf;obtain⟨x,hx,e⟩:=zz1.mp hf
   split at e
   ·cases e;exact List.mem_map_of_mem (f:=(·.f)) hx
   ·cases e
  refine⟨λf hf=>?_,λq hq=>?_⟩
  ·by_cases lH:(f==r.f)=true/\r.d.il=none
   ·obtain⟨h1,h2⟩:=lH
    have e:=zzy.mp h1
    subst e;refine⟨fa,_,r.d.N.take r.d.np,by rw [h2] at ok;exact ok,?_,e4,Fu.binds hs.bind,λas hn=>?_⟩
    ·rw [hfh (by rw [h2];rfl)];exact PySem.W.mg_of KB G e1
    ·rw [rf] at hn;unfold av at hn
     by_cases ha:cL r.d as=true
     ·unfold cL at ha;rw [h2] at ha;rw [hlen];exact zzy.mp ha
     ·rw [if_neg ha] at hn;exact absurd rfl hn
   ·have Ru:(mB l).contains f=true:=by
     unfold mB at hf⊢;rw [List.filterMap_cons] at hf;split at hf
     ·exact hf
     ·rename_i y hy;split at hy
      ·rename_i hc;cases hy;rw [List.contains_cons,zzt] at hf;rcases hf with z|z
       ·exact absurd ⟨z,Option.isNone_iff_eq_none.mp hc⟩ lH
       ·exact z
      ·cases hy
    exact((ih f Ru).mono (by rw [zzL];omega)).swap λas=>kL (Cq f (ml f Ru)) as
  ·unfold wQ at hq;rw [List.filterMap_cons] at hq;have tail:q∈wQ l->Gi P w K mg base W (den (tab (r::l))) (2*(r::l).length) q:=λhq=>by
    refine(ihH q hq).swap (by rw [zzL];omega) λas=>kL (Cq q.f ?_) as
    unfold wQ at hq;obtain⟨x,hx,e⟩:=zz1.mp hq
    obtain⟨y,_,rfl⟩:=zzJ.mp e
    rw [zzn];exact List.mem_map_of_mem (f:=(·.f)) hx
   cases hc:r.d.il with
   |none=>rw [hc] at hq;exact tail hq
   |some y=>
    rw [hc] at hq;rcases zzm.mp hq with z|z
    ·subst z;rw [hc] at ok;exact⟨fa,_,r.d.N.take r.d.np,ok,PySem.W.mg_of KB G e1,e4,Fu.binds hs.bind,hlen⟩
    ·exact tail z
end
end Ci
namespace L2
open PySem PySem.Spec PyProof.Rows
def vW{P:Program}{w:World}{K:zz8}{mg mb:Str->Option Value}{CX:xQ}{k:Nat}{fa a:Addr}{fd:FuncData}{x:Str}{sp:Sp}{s₁:Shared}{vs:List Value}{ns:List Int}(kF:List Addr)
 (KX:K.In s₁.heap) (Ng:s₁.heap.Ns mainGlobals mg) (hb:s₁.heap.Ns builtinsNs mb) (SK:∀x:Str,x≠"__name__"->mb x=bootBuiltins x) (wY:s₁.heap.NoLimit) (hg:s₁.gens=#[])
 (hT:∀p∈kF,s₁.heap.get? p=some (PySem.W.tabObj #[])) (hC:∀p∈kF,∃c,Ci.fq K c p) (Sh:∀p∈kF,K.lookup p=none)
 (ha:s₁.heap.get? a=some {cls:=.type "list",data:=.seq vs.toArray}) (hi:IntsAre vs ns) (hl:ns.length<=sizeLine) (hr:dG k callerA)
 (F:∀base:Heap,K.In base->base.Ns mainGlobals mg->f9 P w K mg base CX k fa fd [x] sp) (Mq:∀(s:Shared) (u:Value),BindsTo s fd ⟨[u],[]⟩ [(x,u)])
 (JK:∀H:Hp,(∀p∈kF,H p=some (.fY #[]))->Ci.qd K H a (ns.map V.int)->sp [.ref a] H (λv _=>v=.bl true) λ_ _ _=>False)
 (NH:∀H e s',CX [] H s₁ (λ_ _ _=>False) e s'->False):
 codeAny (model P w) callerA (.call (.ref fa) ⟨[.ref a],[]⟩) (λr s'=>r=.ok (.ret (.bool true))/\OldK s₁.heap s'.heap/\s'.os=s₁.os/\AllBare s'.gens) s₁:=by
 have rv:=m6 hi
 have KI:=hi.length
 have aT:a∉kF:=λz=>by have:=hT a z;rw [ha] at this;cases this
 have core:∀H:Hp,(∀p∈kF,H p=some (.fY #[]))->Ci.qd K H a (ns.map V.int)->eA P w H s₁.heap->(∀b,H b≠none->b∈kF\/b=a/\∃o xs,H b=some (.bp o xs))->(H a≠none->K.lookup a=none)->
  codeAny (model P w) callerA (.call (.ref fa) ⟨[.ref a],[]⟩) (λr s'=>r=.ok (.ret (.bool true))/\OldK s₁.heap s'.heap/\s'.os=s₁.os/\AllBare s'.gens) s₁:=by
  intro H hO hS aL hA hK;have ux:∀{b:Addr} {o:Obj},s₁.heap.get? b=some o->H b=none->(oH s₁.heap H).get? b=some o:=λe n=>AU e n
  have CP:∀{b:Addr} {o:Obj} {es:Array DictEntry} {ep:Nat},s₁.heap.get? b=some o->o.data=.dict es ep->H b=none:=λ{b o es ep} e d=>by
   cases q:H b with
   |none=>rfl
   |some u=>
    rcases hA b (by rw [q];simp) with z|⟨z,_⟩
    ·rw [hT b z] at e;cases e;cases d
    ·subst z;rw [ha] at e;cases e;have d':Data.seq vs.toArray _=Data.dict es ep:=d
     cases d'
  have MJ:∀{b:Addr} {m:Str->Option Value},s₁.heap.Ns b m->(oH s₁.heap H).Ns b m:=λ{b m} ⟨o,es,ep,e,d,r⟩=>⟨o,es,ep,ux e (CP e d),d,r⟩
  have QM:K.In (oH s₁.heap H):=λb o e=>ux (KX b o e) (by
   cases q:H b with
   |none=>rfl
   |some u=>
    rcases hA b (by rw [q];simp) with z|⟨z,_⟩
    ·rw [Sh b z] at e;cases e
    ·subst z;rw [hK (by rw [q];simp)] at e;cases e)
  have hM:Mod K mg (oH s₁.heap H):=⟨QM,MJ Ng,⟨mb,MJ hb,SK⟩,let⟨mc,h1,h2⟩:=wY;⟨mc,MJ h1,h2⟩⟩
  have e0:iP P w K mg (oH s₁.heap H) callerA [] s₁ H:=⟨rfl,hM,λb o e=>C5 e,Nat.le_of_eq (wU _ _),trivial,λb hb=>absurd (show b∈([]:List Addr) from hb) (by simp),aL,.of_eq hg⟩
  refine codeAny_mono ((F _ QM (MJ Ng)).run callerA [] s₁ H ⟨[.ref a],[]⟩ [.ref a] [.ref a] _ _ hr e0 (Mq s₁ (.ref a)) (.cons rfl .nil) (JK H hO hS)) λr s' h=>?_
  cases r with
  |error e=>exact(NH H e s' h).elim
  |ok fl=>
   cases fl with
   |next=>exact zzk h
   |brk=>exact zzk h
   |cont=>exact zzk h
   |ret u=>
    obtain⟨v,H',os,bare,un,BP,r',q⟩:=h
    have q':v=.bl true:=q
    subst q';obtain rfl:u=Value.bool true:=r'
    have key:∀b o,s₁.heap.get? b=some o->s'.heap.get? b=some o\/b∈kF/\∃m,s'.heap.get? b=some (PySem.W.tabObj m):=λb o e=>by
     cases q:H b with
     |none=>exact .inl (un.keep b o e q (by intro z;exact absurd (show b∈([]:List Addr) from z) (by simp)) (by simp))
     |some u=>
      rcases hA b (by rw [q];simp) with z|⟨z,ob,xs,z2⟩
      ·right
       obtain⟨m,hm⟩:=un.gr b _ (hO b z)
       exact⟨z,_,BP b _ hm⟩
      ·left
       have z3:=un.fI b ob _ z2
       obtain⟨e1,_⟩:=aL b _ z2
       obtain⟨e2,_⟩:=BP b _ z3
       rw [e] at e1;cases e1;exact e2
    refine⟨rfl,⟨λb o e=>?_,λb o e=>?_⟩,os,bare⟩
    ·rcases key b o e with z|⟨z,m,z2⟩
     ·exact .inl z
     ·have e':=hT b z
      rw [e] at e';cases e';obtain⟨c,o',vs',_,_,_,_,_,_,_,k1,k2,k3,k4,_⟩:=hC b z
      have tb:s₁.heap.TableAt c b #[]:=⟨⟨o',vs',KX _ _ k1,k2,k3,k4⟩,e⟩
      exact .inr (.inl ⟨tb.isCodeTable,rfl,#[],m,rfl,by rw [z2];simp⟩)
    ·rcases key b o e with z|⟨_,m,z⟩
     ·exact⟨_,z⟩
     ·exact⟨_,z⟩
 cases hk:K.lookup a with
 |some o=>
  have e:=KX a o hk
  rw [ha] at e;cases e;refine core (λb=>if b∈kF then some (.fY #[]) else none) (λp hp=>if_pos hp) (.inr ⟨vs.toArray,_,hk,by rw [zzC,KI];exact hl,by simpa using rv⟩) (λb u z=>?_) (λb z=>?_) λz=>absurd (if_neg aT) z
  ·by_cases hb:b∈kF
   ·have z':=(if_pos hb).symm.trans z
    cases z';exact hT b hb
   ·have z':=(if_neg hb).symm.trans z
    cases z'
  ·by_cases hb:b∈kF
   ·exact .inl hb
   ·exact absurd (if_neg hb) z
 |none=>
  refine core (λb=>if b=a then some (.bp {cls:=.type "list",data:=.seq vs.toArray} (.lst (ns.map V.int))) else if b∈kF then some (.fY #[]) else none) (λp hp=>?_) (.inl (.inr ⟨{cls:=.type "list",data:=.seq vs.toArray},if_pos rfl⟩)) (λb u z=>?_) (λb z=>?_) λ_=>hk
  ·show(if p=a then _ else _)=_
   rw [if_neg (show¬p=a from λz=>aT (by rw [<-z];exact hp)),if_pos hp]
  ·by_cases hb:b=a
   ·have z':=(if_pos hb).symm.trans z
    cases z';subst hb;exact⟨ha,by rw [zzl];exact hl,vs,_,rv,ha⟩
   ·replace z:=(if_neg hb).symm.trans z
    by_cases hc:b∈kF
    ·have z':=(if_pos hc).symm.trans z
     cases z';exact hT b hc
    ·have z':=(if_neg hc).symm.trans z
     cases z'
  ·by_cases hb:b=a
   ·exact .inr ⟨hb,_,_,if_pos hb⟩
   ·by_cases hc:b∈kF
    ·exact .inl hc
    ·exact absurd ((if_neg hb).trans (if_neg hc)) z
def Ie{l:PySem.W.OpenLaw}{n k:Nat}{q:Program}{loose:List Str}{XP:(Str->Option Value)->Heap->Prop}{YP:World->Heap->Prop}{d:DefRec}{K:Params->zz8}{CX:World->xQ}{sp:World->Sp}{x:Str}(kF:List Addr)
 (hn:l.most=some n) (Sf:n<=sizeLine) (Ml:d.params.defaults=[]) (hr:dG k callerA)
 (hY:∀(w:World) (h:Heap),YP w h->(K w.params).In h/\∀p∈kF,h.get? p=some (PySem.W.tabObj #[])) (hC:∀(w:World),∀p∈kF,(∃c,Ci.fq (K w.params) c p)/\(K w.params).lookup p=none)
 (F:∀(w:World) (mg:Str->Option Value) (fa:Addr) (h:Heap),(K w.params).In h->h.Ns mainGlobals mg->mg d.name=some (.ref fa)->
  ∃fd:FuncData,(∀(s:Shared) (u:Value),BindsTo s fd ⟨[u],[]⟩ [(x,u)])/\
   ∀base:Heap,(K w.params).In base->base.Ns mainGlobals mg->f9 l.prog w (K w.params) mg base (CX w) k fa fd [x] (sp w))
 (JK:∀(w:World) (H:Hp) (a:Addr) (ns:List Int),ns.length<=n->(∀p∈kF,H p=some (.fY #[]))->Ci.qd (K w.params) H a (ns.map V.int)->sp w [.ref a] H (λv _=>v=.bl true) λ_ _ _=>False)
 (NH:∀(w:World) (H:Hp) (s:Shared) (e:Value) (s':Shared),CX w [] H s (λ_ _ _=>False) e s'->False):
 PySem.W.WalkO q loose XP YP l.row.toRowW d [] (λf vs=>PySem.call f vs):=by
 refine Att.rB hn Ml λw s₀ s₁ mg mb fa o pm cd doc a vs ns G Y ho hd sk hmg hobj hints hlen hg=>?_
 obtain⟨KX,hT⟩:=hY w _ Y
 obtain⟨fd,hb,hF⟩:=F w mg fa _ KX G.T.g hmg
 exact vW kF KX G.T.g G.T.b G.T.builtins G.T.nolimit hg hT (λp hp=>(hC w p hp).1) (λp hp=>(hC w p hp).2) hobj hints (zzU hlen Sf) hr hF hb (λH hO hS=>JK w H a ns hlen hO hS) λH e s'=>NH w H s₁ e s'
end L2
namespace Ci
open PySem L2
theorem lC{W:Wd}{G:Hp}:∀(ns:List Int),ai W G (ns.map PV.int) (ns.map V.int)
 |[]=>.nil
 |n::ns=>.cons .i (lC ns)
def mY(H:Hp):Hp:=λb=>match H b with
 |some (.fY _)=>none
 |o=>o
def um(H:Hp):aA (mY H) H:=λb o e=>by
 unfold mY at e;split at e
 ·cases e
 ·exact e
def rO{H:Hp}{b:Addr}{o:HO}(h:H b=some o)(n:∀ps,o≠.fY ps):mY H b=some o:=by
 unfold mY;rw [h];cases o with
 |fY ps=>exact absurd rfl (n ps)
 |_=>rfl
noncomputable def Mi(K:zz8)(kF:List Addr):Sp:=λvs H Q _=>∃(a:Addr) (ns:List Int),vs=[.ref a]/\(∀p∈kF,H p=some (.fY #[]))/\qd K H a (ns.map V.int)/\ns.length<=63/\∀H',Q (.bl true) H'
def walk{l:PySem.W.OpenLaw}{q:Program}{loose:List Str}{XP:(Str->Option Value)->Heap->Prop}{YP:World->Heap->Prop}{d:DefRec}{K:Params->zz8}(rest:dJ)(Γ:Pg)(x:Str)(dl:Def)(xs:List Str)(ts:List (Addr×Str))(st:Stmt)
 (hx:dl.N.take dl.np=[x]) (FH:dl.il=none) (Ta:d.name="law") (hn:l.most=some 63) (Ml:d.params.defaults=[]) (hr:dG (2*rest.length+2) callerA) (hY:∀(w:World) (h:Heap),YP w h->(K w.params).In h/\∀p∈ts.map (·.1),h.get? p=some (PySem.W.tabObj #[]))
 (hC:∀(w:World),∀p∈ts.map (·.1),(∃c,fq (K w.params) c p)/\(K w.params).lookup p=none)
 (hM:∀(w:World) (mg:Str->Option Value) (h:Heap),(K w.params).In h->h.Ns mainGlobals mg->uh (K w.params) mg Γ ⟨K w.params,mg,xs,ts⟩)
 (hE:∀w:World,w6 (K w.params) ts false "law" st) (hS:bQ (Γ.at rest false) "law" dl st)
 (hA:∀w:World,AllK (K w.params) ts Γ rest)
 (NI:∀ns:List Int,ns.length<=63->av (den (tab rest)) dl [.lst (ns.map .int)]=.ok (.bl true)):
 PySem.W.WalkO q loose XP YP l.row.toRowW d [] (λf vs=>PySem.call f vs):=by
 refine L2.Ie (n:=63) (k:=2*rest.length+2) (x:=x) (CX:=λw=>dR l.prog w) (sp:=λw=>Mi (K w.params) (ts.map (·.1))) (ts.map (·.1)) hn (by decide) Ml hr hY hC ?_ ?_ ?_
 ·intro w mg fa h KX G hmg;rw [Ta] at hmg;obtain⟨f,oc,od,kV,doc,pm,an,fU,ct,sS,e1,e2,e3,e4,e5⟩:=hE w
  have hf:fa=f:=by
   have z:=hmg.symm.trans (PySem.W.mg_of KX G e1)
   cases z
   rfl
  subst hf;refine⟨PySem.W.fnOf "law" "law" (di st) (cU st) (aR st) .none kV doc pm an fU ct,λs u=>?_,λbase KB GB=>?_⟩
  ·have hb:=hS.bind kV doc pm an fU ct [u]
   rw [hx] at hb;exact .of_eq (hb rfl)
  ·have M:=hM w mg base KB GB
   obtain⟨a1,a2⟩:=zm (P:=l.prog) (w:=w) M KB GB rest (hA w)
   have ok:=Fq (P:=l.prog) (w:=w) (nf:="law") (uC M rest false) KB (k:=2*rest.length) hS (Ag (st:=st) e2 e3 e4) (λg hg=>a1 g hg) (λq hq=>a2 q hq) (pO rest (hA w)) (λz=>nomatch z)
   rw [hx] at ok;refine ok.imp λvs H Q E h=>?_
   obtain⟨a,ns,rfl,ht,hl,hlen,q⟩:=h
   refine⟨rfl,mY H,[.lst (ns.map .int)],um H,λP q m=>?_,?_,?_⟩
   ·have hP:=ht P (List.mem_map_of_mem (f:=(·.1)) m)
    refine⟨by unfold mY;rw [hP],#[],hP,trivial,λpos cv e=>nomatch e⟩
   ·rw [FH];refine ai.cons (.l ?_ (lC ns)) .nil;rcases hl with(h|⟨o,h⟩)|h
    ·exact .inl (.inl (rO h (λ_ z=>nomatch z)))
    ·exact .inl (.inr ⟨o,rO h (λ_ z=>nomatch z)⟩)
    ·exact .inr h
   ·dsimp only;rw [NI ns hlen];intro v G' H' _ rv;simp! [Rep] at rv;subst rv;exact q H'
 ·intro w H a ns hlen hO vT;exact⟨a,ns,rfl,hO,vT,hlen,λ_=>rfl⟩
 ·intro w H s e s' h;obtain⟨a,C,t,vs,H',B,rfl,F⟩:=h
  exact F.ends
end Ci
namespace Hd
open PySem PySem.W PySem.Calls
noncomputable def IY(st:SharedT->Thread->Option (SharedT×Thread))(ok:Thread->Bool)(n:Nat):SharedT->Thread->Option SharedT:=
 @Nat.rec (λ_=>SharedT->Thread->Option SharedT) (λ_ _=>none) (λ_ ih s t=>match through t with
  |true=>some s
  |false=>match ok t with
   |false=>none
   |true=>match st s t with
    |some (s',t')=>ih s' t'
    |none=>none) n
theorem nF{tb:String->Option Builtin}{p:Program}{w:World}{n₀:Nat}{ann:Option Value}:∀{n:Nat} {s s':SharedT} {t:Thread},IY (stepT (denote tb) p w) (stepOk n₀ ann) n s t=some s'->topRun tb p w n₀ ann n s.abs t=some s'.abs
 |0,_,_,_,h=>by cases h
 |n+1,s,s',t,h=>by
  have h:(match through t with
   |true=>some s
   |false=>match stepOk n₀ ann t with
    |false=>none
    |true=>match stepT (denote tb) p w s t with
     |some (s',t')=>IY (stepT (denote tb) p w) (stepOk n₀ ann) n s' t'
     |none=>none)=some s':=h
  unfold topRun;cases ht:through t with
  |true=>rw [ht] at h;cases h;rfl
  |false=>
   rw [ht] at h;cases hk:stepOk n₀ ann t with
   |false=>rw [hk] at h;cases h
   |true=>
    rw [hk] at h;cases hs:stepT (denote tb) p w s t with
    |none=>rw [hs] at h;cases h
    |some r=>obtain⟨s₂,t₂⟩:=r;rw [hs] at h;rw [stepT_spec hs];exact nF h
def treeOf(l:List Obj):BT:=(l.foldl (λ(T,i) o=>(BT.ins T i o,i+1)) (BT.nil,0)).1
def Dy{p q:Program}{loose:List Str}{Xt:Shared->Bool}{α:Type}{Yf:Shared->α}{Ya:World->α}{N:Nat}{g0:Bool}{T₀:Params->BT}{life:Life}{m₀:Nat}{ann:Option Value}{M:Nat}
 (e:opening p=plainProg p.main.scope.names) (hN:Nat.ble 600 N=true) (f:∀s,fenceModules? p s=some s)
 (e0:∀P:Params,absHeap (T₀ P) m₀ life=boot_heap P)
 (size:∀w:World,((boot_heap w.params).isNs mainGlobals,(boot_heap w.params).nsMap mainGlobals "__annotations__")=(true,ann))
 (le:Nat.ble M N=true)
 (run:∀(w:World) (os:OsState),(IY (stepT (denote treeTable) p w) (stepOk m₀ ann) M ⟨T₀ w.params,m₀,life,Array.mk [],boot_drawn,boot_toks,os⟩ (topStub p)).map (λs=>
  ((staticsOk (importedModules p.main.body) (boot_heap w.params) s.abs.heap&&namesBound p s.abs.heap&&gensDone s.abs&&laidKept (boot_heap w.params) s.abs.heap),openSeen q loose (importedModules p.main.body) Xt g0 s.abs,Yf s.abs))
  =some (true,openGood q loose,Ya w)):LeftO p q loose Xt Yf Ya N g0:=λw=>by
 obtain⟨⟨h,gs,d,k,os⟩,e1,e'⟩:=zzJ.mp (boot_open e hN f w)
 obtain⟨rfl,rfl,rfl,rfl⟩:h=boot_heap w.params/\gs=Array.mk []/\d=boot_drawn/\k=boot_toks:=by simpa using e'
 obtain⟨z1,z3⟩:_/\_:=by simpa only [Prod.mk.injEq] using size w
 obtain⟨s,r,l⟩:=zzJ.mp (run w os)
 obtain⟨l1,l2,l3⟩:_/\_/\_:=by simpa only [Prod.mk.injEq] using l
 have r:=nF r
 have r:=topRun_mono (N-M) _ _ _ _ r
 rw [show M+(N-M)=N by have:=Nat.le_of_ble_eq_true le;omega] at r;have hs:(boot_heap w.params).objs.size=m₀:=by rw [<-e0 w.params];exact absHeap_size _ _ _
 have r:topRun treeTable p w m₀ ann N ⟨boot_heap w.params,Array.mk [],boot_drawn,boot_toks,os⟩ (topStub p)=some s.abs:=by
  have:(⟨T₀ w.params,m₀,life,Array.mk [],boot_drawn,boot_toks,os⟩:SharedT).abs=⟨boot_heap w.params,Array.mk [],boot_drawn,boot_toks,os⟩:=by
   show Shared.mk _ _ _ _ _=_
   rw [show absHeap (T₀ w.params) m₀ life=boot_heap w.params from e0 w.params]
  rw [<-this];exact r
 have t:topFrom treeTable p w N ⟨boot_heap w.params,Array.mk [],boot_drawn,boot_toks,os⟩=some s.abs:=by
  unfold topFrom;dsimp only;rw [z1,z3,hs,r];show(match staticsOk (importedModules p.main.body) (boot_heap w.params) s.abs.heap&&namesBound p s.abs.heap&&gensDone s.abs&&laidKept (boot_heap w.params) s.abs.heap with|true=>_|false=>_)=_
  rw [l1]
 unfold openEnds;rw [e1];show(topFrom treeTable p w N _).map _=_
 rw [t];exact congrArg some (Prod.ext l2 l3)
end Hd
namespace Hd
open PySem PySem.W
def Mn:∀P:Params,absHeap (treeOf (boot_heap P).objs.toList) 11 {}=boot_heap P:=λP=>by kernel_rfl
def Ko:∀w:World,((boot_heap w.params).isNs mainGlobals,(boot_heap w.params).nsMap mainGlobals "__annotations__")=(true,some (.ref 6)):=λw=>by kernel_rfl
abbrev de(P:Params)(x:Str)(t:Tok)(v:Value):DictEntry:={hash:=PyData.keyHash P x,key:=.str x t,val:=v}
theorem holds{l:OpenLaw}{keep:List Nat}{K:Params->Frag}{as:List Addr}{d:DefRec}{N:Nat}(OE:l.wellSaid=true)
 (ka:∀P,as=(K P).map (·.1))
 (left:LeftO l.row.prog (view l.row.prog keep) [] (λs=>xlAt (view l.row.prog keep) [] s&&recOk l.row.toRowW.records s) (kHook K as ka).obs (kHook K as ka).val N)
 (Gz:defOf (view l.row.prog keep) l.row.name=some (d,[])) (hp:l.row.prog.theDef l.row.name=some (d.params,d.body,d.scope)) (hk:kwWritten? d.params.kwonlyargs d.params.kw_defaults=some [])
 (ok:(chainsOk (view l.row.prog keep)&&opensWell l.row.prog&&(frees l.row.toRowW&&l.row.within.isEmpty))=true) (hb:l.row.prog.bare) (hw:l.row.toRowW.promised)
 (call:WalkO (view l.row.prog keep) [] (XL (view l.row.prog keep) []) (kHook K as ka).says l.row.toRowW d [] λf vs=>PySem.call f vs):l.Holds:=
 holds_law OE λk1=>holds_open (N:=N) left (Hook.of (kHook K as ka)) (Hook.keeps (kHook K as ka)) (λs e=>xl_of s (Bool.and_eq_true_iff.mp e).1) XL.keeps Gz hp hk (λs e=>recFacts_of (Bool.and_eq_true_iff.mp e).2) (by cases h:l.row.writes<;>rfl) k1 ok hb hw call
theorem Gh{P:List Value->Prop}(h:∀a0,P [a0]):∀us:List Value,us.length=1->P us
 |[a0],_=>h a0
theorem uB{P:List Value->Prop}(h:∀a0 a1,P [a0,a1]):∀us:List Value,us.length=2->P us
 |[a0,a1],_=>h a0 a1
theorem EB{P:List Value->Prop}(h:∀a0 a1 a2,P [a0,a1,a2]):∀us:List Value,us.length=3->P us
 |[a0,a1,a2],_=>h a0 a1 a2
theorem J7{P:List Value->Prop}(h:∀a0 a1 a2 a3,P [a0,a1,a2,a3]):∀us:List Value,us.length=4->P us
 |[a0,a1,a2,a3],_=>h a0 a1 a2 a3
theorem Ol{P:List Value->Prop}(h:∀a0 a1 a2 a3 a4,P [a0,a1,a2,a3,a4]):∀us:List Value,us.length=5->P us
 |[a0,a1,a2,a3,a4],_=>h a0 a1 a2 a3 a4
end Hd
namespace KJ
open PySem L2 Ci
theorem qg{α β:Type}{a:α}{f:α->Res β}:(Res.ok a).bind f=f a:=rfl
theorem JR{α:Type}{a:α}:(Res.ok a).well=.ok a:=rfl
theorem RC{α:Type}{a:α}:Res.of (some a)=.ok a:=rfl
theorem Qt{env:Sl}{k:Sl->Res Fl}:(Fl.nx env).seq k=k env:=rfl
theorem Q9{p:PV}{k:Sl->Res Fl}:(Fl.rt p).seq k=.ok (.rt p):=rfl
theorem Qi{env:Sl}{k:Sl->Res Fl}:(Fl.bk env).seq k=.ok (.bk env):=rfl
theorem sv{p:PV}:fO (some (.val p))=.ok p:=rfl
theorem QW{p:PV}:AR (some (.val p))=.ok p:=rfl
theorem QX{p:PV}:AR (some (.own p))=.ok p:=rfl
theorem JI{α:Type}{b:Bool}{f:Bool->Res α}:nL (.bl b) f=f b:=rfl
theorem Fo{i j:Int}:binOp .add (.int i) (.int j)=.ok (.int (i+j)):=rfl
theorem Fm{i j:Str}:binOp .add (.str i) (.str j)=if i.length+j.length<=dF then .ok (.str (i++j)) else .bad:=rfl
theorem E5{i j:List PV}:binOp .add (.lst i) (.lst j)=if i.length+j.length<=dF then .ok (.lst (i++j)) else .bad:=rfl
theorem Lj{i j:Int}:binOp .sub (.int i) (.int j)=.ok (.int (i-j)):=rfl
theorem MB{i j:Int}:binOp .mul (.int i) (.int j)=if aK i||aK j then .ok (.int (i*j)) else .bad:=rfl
theorem Li{i j:Int}:binOp .mod (.int i) (.int j)=if 0<j then .ok (.int (i%j)) else .bad:=rfl
theorem Mb{i j:Int}:binOp .fdiv (.int i) (.int j)=if 0<j/\j<1073741824 then .ok (.int (i/j)) else .bad:=rfl
theorem Rt:dI .eq=iB:=rfl
theorem Qb:dI .ne=hW:=rfl
theorem Q6:dI .lt=qC:=rfl
theorem P0:dI .le=oV:=rfl
theorem ON:dI .Fy=sH:=rfl
theorem Lw:dI .jX=iW:=rfl
theorem oLt{i j:Int}:qC (.int i) (.int j)=.ok (.bl (decide (i<j))):=rfl
theorem oLe{i j:Int}:oV (.int i) (.int j)=.ok (.bl (decide (i<=j))):=rfl
theorem lL{xs:List PV}:dN .len [.lst xs]=.ok (.int xs.length):=rfl
theorem lT{xs:List PV}:dN .len [.tup xs]=.ok (.int xs.length):=rfl
theorem lS{z:Str}:dN .len [.str z]=if z.length<=dF then .ok (.int z.length) else .bad:=rfl
theorem tL{xs:List PV}:dN .tuple [.lst xs]=.ok (.tup xs):=rfl
theorem M4{i:Nat}{p:PV}{env:Sl}:(Tg.one i).put p env=.ok (env.set i (.val p)):=rfl
theorem Ry{i j:Nat}{a b:PV}{env:Sl}:(Tg.two i j).put (.tup [a,b]) env=.ok ((env.set i (.val a)).set j (.val b)):=rfl
theorem zf{p:PV}:oe (.own p)=.val p:=rfl
theorem jA{α:Type}{a:α}{as:List α}:(a::as).length=as.length+1:=rfl
theorem jB{α:Type}:([]:List α).length=0:=rfl
theorem jC{α β:Type}{f:α->β}{a:α}{l:List α}:(a::l).map f=f a::l.map f:=rfl
theorem jD{α β:Type}{f:α->β}:([]:List α).map f=[]:=rfl
theorem jE{α:Type}{a:α}{as bs:List α}:a::as++bs=a::(as++bs):=rfl
theorem jF{α:Type}{as:List α}:[]++as=as:=rfl
theorem jG{α:Type}{a:α}{l:List α}:(a::l)[0]?=some a:=rfl
theorem jH{α:Type}{a:α}{l:List α}{i:Nat}:(a::l)[i+1]?=l[i]?:=rfl
theorem jI{α:Type}{a b:α}{l:List α}:(a::l).set 0 b=b::l:=rfl
theorem jJ{α:Type}{a b:α}{l:List α}{i:Nat}:(a::l).set (i+1) b=a::l.set i b:=rfl
theorem jK{α:Type}{a d:α}{l:List α}:(a::l).getD 0 d=a:=rfl
theorem jL{α:Type}{a d:α}{l:List α}{i:Nat}:(a::l).getD (i+1) d=l.getD i d:=rfl
def jM{n:Nat}:0+n=n:=Nat.zero_add _
theorem jN:(!true)=false:=rfl
theorem jO:(!false)=true:=rfl
def jP:(false=true)=False:=zze
theorem pT{e:E}{xs:List PV}:xb e (.lst xs)=.ok xs:=rfl
theorem Q7{e:E}{xs:List PV}:xb e (.tup xs)=.ok xs:=rfl
theorem MT{xs:List PV}:itemsOf (.tup xs)=.ok xs:=rfl
theorem Nj{xs:List PV}:itemsOf (.lst xs)=.ok xs:=rfl
theorem MP{z:Str}:itemsOf (.str z)=.ok (chars z):=rfl
theorem jQ{α:Type}{f:α->α}{a:α}{l:List α}:(a::l).modify 0 f=f a::l:=rfl
def jR{α:Type}{f:α->α}{a:α}{l:List α}{i:Nat}:(a::l).modify (i+1) f=a::l.modify i f:=by simp
theorem jS{α:Type}{a:α}:List.replicate 0 a=[]:=id rfl
theorem jT{α:Type}{a:α}{n:Nat}:List.replicate (n+1) a=a::List.replicate n a:=id rfl
def jU{n:Nat}:(n==n)=true:=beq_self_eq_true n
noncomputable def J:=And.intro @jS (And.intro @jT (And.intro @jU (And.intro @qg (And.intro @JR (And.intro @RC (And.intro @Qt (And.intro @Q9 (And.intro @Qi (And.intro @sv (And.intro @QW (And.intro @QX (And.intro @JI (And.intro @Fo (And.intro @Fm (And.intro @E5 (And.intro @Lj (And.intro @MB (And.intro @Li (And.intro @Mb (And.intro @Rt (And.intro @Qb (And.intro @Q6 (And.intro @P0 (And.intro @ON (And.intro @Lw (And.intro @oLt (And.intro @oLe (And.intro @lL (And.intro @lT (And.intro @lS (And.intro @tL (And.intro @M4 (And.intro @Ry (And.intro @zf (And.intro @jA (And.intro @jB (And.intro @jC (And.intro @jD (And.intro @jE (And.intro @jF (And.intro @jG (And.intro @jH (And.intro @jI (And.intro @jJ (And.intro @jK (And.intro @jL (And.intro @jM (And.intro @jN (And.intro @jO (And.intro @jP (And.intro @pT (And.intro @Q7 (And.intro @MT (And.intro @Nj (And.intro @MP (And.intro @jQ (@jR)))))))))))))))))))))))))))))))))))))))))))))))))))))))))
def Im{n:Str}{d:Def}{r:List (Str×Def)}:den ((n,d)::r) n=av (den r) d:=by
 funext as;simp [den]
def Ii{n f:Str}{d:Def}{r:List (Str×Def)}(h:(f==n)=false):den ((n,d)::r) f=den r f:=by
 funext as;simp [den,h]
theorem rE{f:Str}:∀(n:Nat) {T:List (Str×Def)},((T.take n).all λx=>!(f==x.1))=true->den T f=den (T.drop n) f
 |0,_,_=>rfl
 |n+1,[],_=>rfl
 |n+1,(m,d)::r,h=>by
  rw [List.take_succ_cons,List.all_cons,zza,Bool.not_eq_true'] at h;exact(Ii h.1).trans (rE n h.2)
def dk{f:Str}{d:Def}{r T:List (Str×Def)}(k:Nat)(h:((T.take k).all λx=>!(f==x.1))=true:=by decide+kernel)(e:T.drop k=(f,d)::r:=by rfl):den T f=av (den r) d:=by
 rw [rE k h,e];exact Im
end KJ
local macro_rules | `(#v[]) => `(.nil) | `(#v[$x]) => `(.cons $x .nil) | `(#v[$x, $xs,*]) => `(.cons $x #v[$xs,*]) | `(!$n:num) => `(.var $n) | `(¬$n:num) => `(.cst (.int $n))
namespace K81
open PySem L2 Ci KJ
noncomputable def da:Def:=⟨["_law_script","_law_k"],2,#v[.ite (.cmp .lt (!1) (.blt .len #v[!0])) #v[.ret (.sub (!0) (!1))] .nil,.ite (.cmp .eq (!0) (.lst .nil)) #v[.ret (¬0)] .nil,.ret (.bin .add (.bin .mul (.sub (!0) (.bin .mod (!1) (.blt .len #v[!0]))) (¬31)) (!1))],none⟩
noncomputable def bS:Def:=⟨["_law_script","_law_k","_law_many","_law_drawn"],3,#v[.set 3 (.bin .mod (.bin .mul (.bin .add (.call "_law_cell" #v[!0,!1]) (.bin .mul (¬6151) (.bin .add (!1) (¬1)))) (¬40692)) (¬2147483399)),.ret (.bin .mod (.bin .mod (.bin .add (.bin .mul (!3) (!3)) (.bin .fdiv (!3) (¬31))) (¬2147483629)) (!2))],none⟩
noncomputable def cg:Def:=⟨["_law_script","_law_at","_law_most","_law_rows","_law_columns","_law_shuts","_law_top","_law_made","_law_row","_law_signs","_law_column","_law_drawn"],3,#v[.set 3 (.bin .add (¬1) (.call "_law_pick" #v[!0,!1,!2])),.set 4 (.bin .add (¬1) (.call "_law_pick" #v[!0,.bin .add (!1) (¬1),!2])),.set 5 (.sub (.lst #v[¬0,¬2,¬4,¬6]) (.call "_law_pick" #v[!0,.bin .add (!1) (¬2),¬4])),.set 6 (.sub (.lst #v[¬1,¬2,¬3,¬10]) (.call "_law_pick" #v[!0,.bin .add (!1) (¬3),¬4])),.own 7 (.lst .nil),.cM (.one 8) (.qR (!3)) #v[.set 9 (.cst (.str "")),.cM (.one 10) (.qR (!4)) #v[.set 11 (.call "_law_pick" #v[!0,.bin .add (.bin .add (.bin .add (!1) (¬4)) (.bin .mul (!2) (!8))) (!10),.bin .mul (¬12) (!6)]),.set 9 (.bin .add (!9) (.ite (.cmp .lt (.bin .mod (!11) (¬12)) (!5)) (.cst (.str "#")) (.blt .str #v[.bin .fdiv (!11) (¬12)])))],.app 7 (!9)],.ret (.blt .tuple #v[.eE 7])],none⟩
noncomputable def cq:Def:=⟨["_law_script","_law_at"],2,#v[.ret (.tup #v[.cmp .eq (.call "_law_pick" #v[!0,!1,¬2]) (¬0),.sub (.lst #v[¬0,¬1,¬2,¬9]) (.call "_law_pick" #v[!0,.bin .add (!1) (¬1),¬4]),.call "_law_pick" #v[!0,.bin .add (!1) (¬2),¬4]])],none⟩
noncomputable def bC:Def:=⟨["_law_floor_here","_law_made","_law_row","_law_signs"],1,#v[.own 1 (.lst .nil),.cM (.two 2 3) (.enum (!0)) #v[.qG 1 (.bT 2 [2] (.two 0 1) (.enum (!3)) (.cmp .ne (!1) (.cst (.str "#"))) (.tup #v[!2,!0]))],.bp 1,.ret (!1)],none⟩
def dw:Def:=⟨["thing"],1,#v[.ret (.and (.ty .int (!0)) (.not (.ty .bool (!0))))],none⟩
def dQ:Def:=⟨["thing"],1,#v[.ret (.and (.ty .tuple (!0)) (.and (.cmp .eq (.blt .len #v[!0]) (¬2)) (.and (.call "is_whole" #v[.sub (!0) (¬0)]) (.call "is_whole" #v[.sub (!0) (¬1)]))))],none⟩
def cx:Def:=⟨["floor","spot"],2,#v[.ret (.and (.ch .le .lt (¬0) (.sub (!1) (¬0)) (.blt .len #v[!0])) (.ch .le .lt (¬0) (.sub (!1) (¬1)) (.blt .len #v[.sub (!0) (.sub (!1) (¬0))])))],none⟩
noncomputable def cV:Def:=⟨["floor","thing"],2,#v[.ret (.and (.call "is_spot" #v[!1]) (.and (.call "is_on_floor" #v[!0,!1]) (.cmp .ne (.sub (.sub (!0) (.sub (!1) (¬0))) (.sub (!1) (¬1))) (.glob "WALL" (.str "#")))))],none⟩
def bu:Def:=⟨["floor","spot"],2,#v[.ite (.not (.call "is_open" #v[!0,!1])) #v[.raise "NoSpot" "the spot is not on the floor or a wall"] .nil],none⟩
noncomputable def cT:Def:=⟨["one","other"],2,#v[.ret (.and (.cmp .ne (!0) (!1)) (.and (.cmp .le (.blt .abs #v[.bin .sub (.sub (!0) (¬0)) (.sub (!1) (¬0))]) (¬1)) (.cmp .le (.blt .abs #v[.bin .sub (.sub (!0) (¬1)) (.sub (!1) (¬1))]) (¬1))))],none⟩
def dc:Def:=⟨["floor","spot"],2,#v[.expr (.call "need_open" #v[!0,!1]),.ret (.blt .int #v[.sub (.sub (!0) (.sub (!1) (¬0))) (.sub (!1) (¬1))])],none⟩
def bh:Def:=⟨["floor","one","other"],3,#v[.ret (.and (.call "is_open" #v[!0,.tup #v[.sub (!1) (¬0),.sub (!2) (¬1)]]) (.call "is_open" #v[!0,.tup #v[.sub (!2) (¬0),.sub (!1) (¬1)]]))],none⟩
noncomputable def bq:Def:=⟨["floor","walker","one","other","is_slanting","rise","flat_cost"],4,#v[.ite (.not (.call "are_beside" #v[!2,!3])) #v[.ret (.cst .aC)] .nil,.set 4 (.and (.cmp .ne (.sub (!2) (¬0)) (.sub (!3) (¬0))) (.cmp .ne (.sub (!2) (¬1)) (.sub (!3) (¬1)))),.ite (.and (!4) (.not (.and (.sub (!1) (¬0)) (.call "has_open_corners" #v[!0,!2,!3])))) #v[.ret (.cst .aC)] .nil,.set 5 (.bin .sub (.call "height_at" #v[!0,!3]) (.call "height_at" #v[!0,!2])),.ite (.cmp .gt (.blt .abs #v[!5]) (.sub (!1) (¬1))) #v[.ret (.cst .aC)] .nil,.set 6 (.ite (!4) (.glob "SLANTING_COST" (.int 3)) (.glob "STRAIGHT_COST" (.int 2))),.ret (.bin .add (!6) (.bin .mul (.sub (!1) (¬2)) (.blt .max2 #v[!5,¬0])))],none⟩
noncomputable def aY:Def:=⟨["floor","spot","beside","row","column"],2,#v[.own 2 (.lst .nil),.cM (.one 3) (.lF (.bin .sub (.sub (!1) (¬0)) (¬1)) (.bin .add (.sub (!1) (¬0)) (¬2))) #v[.cM (.one 4) (.lF (.bin .sub (.sub (!1) (¬1)) (¬1)) (.bin .add (.sub (!1) (¬1)) (¬2))) #v[.ite (.and (.cmp .ne (.tup #v[!3,!4]) (!1)) (.call "is_open" #v[!0,.tup #v[!3,!4]])) #v[.app 2 (.tup #v[!3,!4])] .nil]],.bp 2,.ret (!2)],none⟩
noncomputable def bo:Def:=⟨["floor","walker","spot","steps","other","cost"],3,#v[.expr (.call "need_open" #v[!0,!2]),.own 3 (.lst .nil),.cM (.one 4) (.seq (.call "open_spots_beside" #v[!0,!2])) #v[.set 5 (.call "step_cost" #v[!0,!1,!2,!4]),.ite (.cmp .xZ (!5) (.cst .aC)) #v[.app 3 (.tup #v[!4,!5])] .nil],.bp 3,.ret (!3)],none⟩
noncomputable def dB:Def:=⟨["floor","walker","spot"],3,#v[.ret (.comp 1 [1,2,0] (.one 0) (.seq (.call "steps_from" #v[!0,!1,!2])) (.tup #v[.sub (!0) (¬0),.call "step_cost" #v[!3,!1,.sub (!0) (¬0),!2]]))],none⟩
noncomputable def bt:Def:=⟨["starts","steps","reached","waiting","start","spot","other","cost","together"],2,#v[.iN 2,.iN 3,.cM (.one 4) (.seq (!0)) #v[.put 3 (!4) (.tup #v[¬0,.cst .aC])],.Bj (.cmp .gt (.blt .len #v[.eE 3]) (¬0)) #v[.mn 5 3,.eh 2 3 5,.cM (.two 6 7) (.seq (.iH 1 #v[!5])) #v[.set 8 (.bin .add (.sub (.sub (.eE 2) (!5)) (¬0)) (!7)),.ite (.and (.cmp .jX (!6) (.eE 2)) (.or (.cmp .jX (!6) (.eE 3)) (.cmp .lt (!8) (.sub (.sub (.eE 3) (!6)) (¬0))))) #v[.put 3 (!6) (.tup #v[!8,!5])] .nil]],.bp 2,.ret (!2)],some ("steps_to",[1,2,1,0])⟩
def cJ:Def:=⟨["floor","walker","goals","goal"],3,#v[.cM (.one 3) (.seq (!2)) #v[.expr (.call "need_open" #v[!0,!3])],.ret (.kM "spread@steps_to" #v[!2] "steps_to" [1,2,1,0] [1,0])],none⟩
noncomputable def dU:Def:=⟨["reached","place","trace"],2,#v[.own 2 (.lst #v[!1]),.Bj (.cmp .xZ (.sub (.sub (!0) (.sub (.eE 2) (.neg (¬1)))) (¬1)) (.cst .aC)) #v[.app 2 (.sub (.sub (!0) (.sub (.eE 2) (.neg (¬1)))) (¬1))],.bp 2,.ret (!2)],none⟩
noncomputable def cG:Def:=⟨["floor","walker","start","goal","reached"],4,#v[.expr (.call "need_open" #v[!0,!2]),.set 4 (.call "spread_to" #v[!0,!1,.lst #v[!3]]),.ite (.cmp .jX (!2) (!4)) #v[.ret (.cst .aC)] .nil,.ret (.tup #v[.sub (.sub (!4) (!2)) (¬0),.call "traced" #v[!4,!2]])],none⟩
def cF:Def:=⟨["spot","size"],2,#v[.ret (.tup #v[.bin .fdiv (.sub (!0) (¬0)) (!1),.bin .fdiv (.sub (!0) (¬1)) (!1)])],none⟩
noncomputable def bD:Def:=⟨["floor","walker","size","spot","block"],4,#v[.set 4 (.call "block_of" #v[!3,!2]),.ret (.bT 1 [2,4] (.one 0) (.seq (.call "steps_from" #v[!0,!1,!3])) (.cmp .eq (.call "block_of" #v[.sub (!0) (¬0),!1]) (!2)) (!0))],none⟩
noncomputable def aN:Def:=⟨["starts","steps","reached","waiting","start","spot","other","cost","together"],2,#v[.iN 2,.iN 3,.cM (.one 4) (.seq (!0)) #v[.put 3 (!4) (.tup #v[¬0,.cst .aC])],.Bj (.cmp .gt (.blt .len #v[.eE 3]) (¬0)) #v[.mn 5 3,.eh 2 3 5,.cM (.two 6 7) (.seq (.iH 1 #v[!5])) #v[.set 8 (.bin .add (.sub (.sub (.eE 2) (!5)) (¬0)) (!7)),.ite (.and (.cmp .jX (!6) (.eE 2)) (.or (.cmp .jX (!6) (.eE 3)) (.cmp .lt (!8) (.sub (.sub (.eE 3) (!6)) (¬0))))) #v[.put 3 (!6) (.tup #v[!8,!5])] .nil]],.bp 2,.ret (!2)],some ("steps_within",[1,3,1,2,0])⟩
noncomputable def bR:Def:=⟨["floor","walker","size","spot","block"],4,#v[.set 4 (.call "block_of" #v[!3,!2]),.ret (.bT 1 [2,4] (.one 0) (.seq (.call "steps_from" #v[!0,!1,!3])) (.cmp .ne (.call "block_of" #v[.sub (!0) (¬0),!1]) (!2)) (!0))],none⟩
noncomputable def cH:Def:=⟨["floor","walker","size","spot","stops","reached","within"],5,#v[.set 5 (.kM "spread@steps_within" #v[.lst #v[!3]] "steps_within" [1,3,1,2,0] [1,2,0]),.set 6 (.bT 1 [3,5] (.one 0) (.seq (!5)) (.cmp .ne (!0) (!1)) (.tup #v[!0,.sub (.sub (!2) (!0)) (¬0)])),.ret (.bT 1 [4] (.one 0) (.seq (.bin .add (!6) (.call "steps_out" #v[!0,!1,!2,!3]))) (.cmp .Fy (.sub (!0) (¬0)) (!1)) (!0))],none⟩
noncomputable def ba:Def:=⟨["starts","steps","reached","waiting","start","spot","other","cost","together"],2,#v[.iN 2,.iN 3,.cM (.one 4) (.seq (!0)) #v[.put 3 (!4) (.tup #v[¬0,.cst .aC])],.Bj (.cmp .gt (.blt .len #v[.eE 3]) (¬0)) #v[.mn 5 3,.eh 2 3 5,.cM (.two 6 7) (.seq (.iH 1 #v[!5])) #v[.set 8 (.bin .add (.sub (.sub (.eE 2) (!5)) (¬0)) (!7)),.ite (.and (.cmp .jX (!6) (.eE 2)) (.or (.cmp .jX (!6) (.eE 3)) (.cmp .lt (!8) (.sub (.sub (.eE 3) (!6)) (¬0))))) #v[.put 3 (!6) (.tup #v[!8,!5])] .nil]],.bp 2,.ret (!2)],some ("hops_from",[1,4,1,3,0,2])⟩
noncomputable def bX:Def:=⟨["size"],1,#v[.ite (.or (.not (.call "is_whole" #v[!0])) (.not (.ch .le .le (¬1) (!0) (.glob "LONGEST" (.int 12))))) #v[.raise "NoSize" "the size is not a whole number from 1 to 12"] .nil],none⟩
noncomputable def cR:Def:=⟨["floor","spots","row","signs","column","sign"],1,#v[.own 1 (.lst .nil),.cM (.two 2 3) (.enum (!0)) #v[.cM (.two 4 5) (.enum (!3)) #v[.ite (.cmp .ne (!5) (.glob "WALL" (.str "#"))) #v[.app 1 (.tup #v[!2,!4])] .nil]],.bp 1,.ret (!1)],none⟩
noncomputable def gN:Def:=⟨["floor","walker","size"],3,#v[.expr (.call "need_size" #v[!2]),.ret (.bT 1 [1,2,0] (.one 0) (.seq (.call "open_spots" #v[!0])) (.cmp .gt (.blt .len #v[.call "steps_out" #v[!3,!1,!2,!0]]) (¬0)) (!0))],none⟩
noncomputable def c7:Def:=⟨["floor","walker","size","start","goal","stops","reached"],5,#v[.expr (.call "need_size" #v[!2]),.expr (.call "need_open" #v[!0,!3]),.expr (.call "need_open" #v[!0,!4]),.set 5 (.bin .add (.call "gates" #v[!0,!1,!2]) (.lst #v[!4])),.set 6 (.kM "spread@hops_from" #v[.lst #v[!3]] "hops_from" [1,4,1,3,0,2] [1,5,2,0]),.ite (.cmp .jX (!4) (!6)) #v[.ret (.cst .aC)] .nil,.ret (.tup #v[.sub (.sub (!6) (!4)) (¬0),.yP (.call "traced" #v[!6,!4])])],none⟩
def bM:Def:=⟨["_law_spot","_law_size"],2,#v[.ret (.tup #v[.bin .fdiv (.sub (!0) (¬0)) (!1),.bin .fdiv (.sub (!0) (¬1)) (!1)])],none⟩
noncomputable def bP:Def:=⟨["_law_floor_here","_law_walker_here","_law_spot","_law_goal","_law_rise","_law_cost_here"],4,#v[.set 4 (.bin .sub (.blt .int #v[.sub (.sub (!0) (.sub (!3) (¬0))) (.sub (!3) (¬1))]) (.blt .int #v[.sub (.sub (!0) (.sub (!2) (¬0))) (.sub (!2) (¬1))])),.set 5 (¬2),.ite (.or (.cmp .gt (!4) (.sub (!1) (¬1))) (.cmp .gt (.bin .sub (¬0) (!4)) (.sub (!1) (¬1)))) #v[.ret (.cst .aC)] .nil,.ite (.and (.cmp .ne (.sub (!2) (¬0)) (.sub (!3) (¬0))) (.cmp .ne (.sub (!2) (¬1)) (.sub (!3) (¬1)))) #v[.ite (.or (.not (.sub (!1) (¬0))) (.or (.cmp .eq (.sub (.sub (!0) (.sub (!2) (¬0))) (.sub (!3) (¬1))) (.cst (.str "#"))) (.cmp .eq (.sub (.sub (!0) (.sub (!3) (¬0))) (.sub (!2) (¬1))) (.cst (.str "#"))))) #v[.ret (.cst .aC)] .nil,.set 5 (¬3)] .nil,.ret (.bin .add (!5) (.ite (.cmp .gt (!4) (¬0)) (.bin .mul (.sub (!1) (¬2)) (!4)) (¬0)))],none⟩
noncomputable def aW:Def:=⟨["_law_floor_here","_law_walker_here","_law_spot","_law_made","_law_k","_law_row","_law_column","_law_cost_here"],3,#v[.own 3 (.lst .nil),.cM (.one 4) (.qR (¬9)) #v[.set 5 (.bin .add (.bin .sub (.sub (!2) (¬0)) (¬1)) (.bin .fdiv (!4) (¬3))),.set 6 (.bin .add (.bin .sub (.sub (!2) (¬1)) (¬1)) (.bin .mod (!4) (¬3))),.ite (.and (.ch .le .lt (¬0) (!5) (.blt .len #v[!0])) (.and (.ch .le .lt (¬0) (!6) (.blt .len #v[.sub (!0) (¬0)])) (.and (.cmp .ne (!4) (¬4)) (.cmp .ne (.sub (.sub (!0) (!5)) (!6)) (.cst (.str "#")))))) #v[.set 7 (.call "_law_cost" #v[!0,!1,!2,.tup #v[!5,!6]]),.ite (.cmp .xZ (!7) (.cst .aC)) #v[.app 3 (.tup #v[.tup #v[!5,!6],!7])] .nil] .nil],.bp 3,.ret (!3)],none⟩
noncomputable def cQ:Def:=⟨["_law_floor_here","_law_walker_here","_law_size","_law_made","_law_spot","_law_blocks"],3,#v[.own 3 (.lst .nil),.cM (.one 4) (.seq (.call "_law_spots" #v[!0])) #v[.set 5 (.comp 1 [2] (.one 0) (.seq (.call "_law_steps" #v[!0,!1,!4])) (.call "_law_block" #v[.sub (!0) (¬0),!1])),.ite (.cmp .ne (.bT 1 [4,2] (.one 0) (.seq (!5)) (.cmp .ne (!0) (.call "_law_block" #v[!1,!2])) (!0)) (.lst .nil)) #v[.app 3 (!4)] .nil],.bp 3,.ret (!3)],none⟩
noncomputable def cu:Def:=⟨["_law_floor_here","_law_walker_here","_law_size","_law_start","_law_spots_here","_law_costs","_law_again","_law_spot","_law_goal","_law_cost_here","_law_new"],4,#v[.set 4 (.bT 1 [3,2] (.one 0) (.seq (.call "_law_spots" #v[!0])) (.cmp .eq (.call "_law_block" #v[!0,!2]) (.call "_law_block" #v[!1,!2])) (!0)),.kI 5 3 (.int 0),.cM (.one 6) (.seq (!4)) #v[.cM (.one 7) (.seq (.blt .lY #v[.eE 5])) #v[.cM (.two 8 9) (.seq (.call "_law_steps" #v[!0,!1,!7])) #v[.set 10 (.bin .add (.sub (.eE 5) (!7)) (!9)),.ite (.and (.cmp .Fy (!8) (!4)) (.or (.cmp .jX (!8) (.eE 5)) (.cmp .lt (!10) (.sub (.eE 5) (!8))))) #v[.put 5 (!8) (!10)] .nil]]],.bp 5,.ret (!5)],none⟩
noncomputable def cZ:Def:=⟨["_law_floor_here","_law_walker_here","_law_size","_law_spot","_law_goal"],5,#v[.ite (.cmp .eq (.call "_law_block" #v[!3,!2]) (.call "_law_block" #v[!4,!2])) #v[.ret (.get (.call "_law_inside" #v[!0,!1,!2,!3]) (!4))] .nil,.ret (.get (.blt .dict #v[.call "_law_steps" #v[!0,!1,!3]]) (!4))],none⟩
noncomputable def bY:Def:=⟨["_law_script","_law_floor_here","_law_walker_here","_law_spots_here","_law_size","_law_start","_law_goal","_law_due","_law_answer","_law_cost_here","_law_stops","_law_doors","_law_parts"],1,#v[.set 1 (.call "_law_floor" #v[!0,¬0,¬5]),.set 2 (.call "_law_walker" #v[!0,¬40]),.set 3 (.call "_law_spots" #v[!1]),.ite (.cmp .eq (!3) (.lst .nil)) #v[.ret (.cst (.bl true))] .nil,.set 4 (.bin .add (¬1) (.call "_law_pick" #v[!0,¬45,¬6])),.set 5 (.sub (!3) (.call "_law_pick" #v[!0,¬50,.blt .len #v[!3]])),.set 6 (.sub (!3) (.call "_law_pick" #v[!0,¬51,.blt .len #v[!3]])),.set 7 (.call "least_way" #v[!1,!2,!5,!6]),.set 8 (.call "by_gates" #v[!1,!2,!4,!5,!6]),.ite (.or (.cmp .is (!7) (.cst .aC)) (.cmp .is (!8) (.cst .aC))) #v[.ret (.and (.cmp .is (!7) (.cst .aC)) (.cmp .is (!8) (.cst .aC)))] .nil,.FI (.two 9 10) (!8),.ite (.or (.cmp .ne (!9) (.sub (!7) (¬0))) (.or (.cmp .ne (.sub (!10) (¬0)) (!5)) (.cmp .ne (.sub (!10) (.neg (¬1))) (!6)))) #v[.ret (.cst (.bl false))] .nil,.set 11 (.call "_law_gates" #v[!1,!2,!4]),.ite (.cmp .ne (.bT 1 [11] (.one 0) (.seq (.slice (!10) (.some (¬1)) (.some (.neg (¬1))))) (.cmp .jX (!0) (!1)) (!0)) (.lst .nil)) #v[.ret (.cst (.bl false))] .nil,.set 12 (.comp 1 [2,10,4,1] (.one 0) (.lF (¬1) (.blt .len #v[!10])) (.call "_law_hop" #v[!4,!1,!3,.sub (!2) (.bin .sub (!0) (¬1)),.sub (!2) (!0)])),.ret (.and (.cmp .jX (.cst .aC) (!12)) (.cmp .eq (.blt .sum #v[!12]) (!9)))],none⟩
noncomputable def mV:Def:=⟨["_law_script","_law_turn"],1,#v[.cM (.one 1) (.qR (¬5)) #v[.ite (.not (.call "_law_once" #v[.comp 1 [1] (.one 0) (.seq (!0)) (.bin .add (!0) (.bin .mul (¬7919) (!1)))])) #v[.ret (.cst (.bl false))] .nil,.ite (.cmp .eq (!0) (.lst .nil)) #v[.brk] .nil],.ret (.cst (.bl true))],none⟩
def T0:List (Str×Def):=[]
noncomputable def T1:List (Str×Def):=(("_law_cell":Str),da)::T0
noncomputable def T2:List (Str×Def):=(("_law_pick":Str),bS)::T1
noncomputable def T3:List (Str×Def):=(("_law_floor":Str),cg)::T2
noncomputable def T4:List (Str×Def):=(("_law_walker":Str),cq)::T3
noncomputable def T5:List (Str×Def):=(("_law_spots":Str),bC)::T4
noncomputable def T6:List (Str×Def):=(("is_whole":Str),dw)::T5
noncomputable def T7:List (Str×Def):=(("is_spot":Str),dQ)::T6
noncomputable def T8:List (Str×Def):=(("is_on_floor":Str),cx)::T7
noncomputable def T9:List (Str×Def):=(("is_open":Str),cV)::T8
noncomputable def Ql:List (Str×Def):=(("need_open":Str),bu)::T9
noncomputable def OG:List (Str×Def):=(("are_beside":Str),cT)::Ql
noncomputable def Pf:List (Str×Def):=(("height_at":Str),dc)::OG
noncomputable def Hh:List (Str×Def):=(("has_open_corners":Str),bh)::Pf
noncomputable def Ny:List (Str×Def):=(("step_cost":Str),bq)::Hh
noncomputable def Br:List (Str×Def):=(("open_spots_beside":Str),aY)::Ny
noncomputable def MX:List (Str×Def):=(("steps_from":Str),bo)::Br
noncomputable def M0:List (Str×Def):=(("steps_to":Str),dB)::MX
noncomputable def JW:List (Str×Def):=(("spread@steps_to":Str),bt)::M0
noncomputable def PH:List (Str×Def):=(("spread_to":Str),cJ)::JW
noncomputable def LV:List (Str×Def):=(("traced":Str),dU)::PH
noncomputable def Nf:List (Str×Def):=(("least_way":Str),cG)::LV
noncomputable def MZ:List (Str×Def):=(("block_of":Str),cF)::Nf
noncomputable def Pe:List (Str×Def):=(("steps_within":Str),bD)::MZ
noncomputable def JQ:List (Str×Def):=(("spread@steps_within":Str),aN)::Pe
noncomputable def Mg:List (Str×Def):=(("steps_out":Str),bR)::JQ
noncomputable def MO:List (Str×Def):=(("hops_from":Str),cH)::Mg
noncomputable def Mz:List (Str×Def):=(("spread@hops_from":Str),ba)::MO
noncomputable def NA:List (Str×Def):=(("need_size":Str),bX)::Mz
noncomputable def JO:List (Str×Def):=(("open_spots":Str),cR)::NA
noncomputable def Cn:List (Str×Def):=(("gates":Str),gN)::JO
noncomputable def LO:List (Str×Def):=(("by_gates":Str),c7)::Cn
noncomputable def Rk:List (Str×Def):=(("_law_block":Str),bM)::LO
noncomputable def JV:List (Str×Def):=(("_law_cost":Str),bP)::Rk
noncomputable def K3:List (Str×Def):=(("_law_steps":Str),aW)::JV
noncomputable def Mx:List (Str×Def):=(("_law_gates":Str),cQ)::K3
noncomputable def MA:List (Str×Def):=(("_law_inside":Str),cu)::Mx
noncomputable def Bo:List (Str×Def):=(("_law_hop":Str),cZ)::MA
noncomputable def Qg:List (Str×Def):=(("_law_once":Str),bY)::Bo
def Mp:den T1 "_law_cell"=av (den T0) da:=dk 0
def Lq:den T2 "_law_pick"=av (den T1) bS:=dk 0
def Km:den T3 "_law_pick"=av (den T1) bS:=dk 1
def L3:den T6 "is_whole"=av (den T5) dw:=dk 0
def LK:den T8 "is_spot"=av (den T6) dQ:=dk 1
def LY:den T8 "is_on_floor"=av (den T7) cx:=dk 0
def L7:den T9 "is_open"=av (den T8) cV:=dk 0
def Cs:den OG "need_open"=av (den T9) bu:=dk 1
def Ig:den Pf "is_open"=av (den T8) cV:=dk 3
def DB:den Hh "are_beside"=av (den Ql) cT:=dk 2
def CA:den Hh "has_open_corners"=av (den Pf) bh:=dk 0
def D8:den Hh "height_at"=av (den OG) dc:=dk 1
def Gm:den Ny "is_open"=av (den T8) cV:=dk 5
def Bz:den Br "need_open"=av (den T9) bu:=dk 5
def BB:den Br "open_spots_beside"=av (den Ny) aY:=dk 0
def DY:den Br "step_cost"=av (den Hh) bq:=dk 1
def EU:den MX "steps_from"=av (den Br) bo:=dk 0
def C3:den MX "step_cost"=av (den Hh) bq:=dk 2
def B9:den M0 "steps_to"=av (den MX) dB:=dk 0
def Ec:den JW "need_open"=av (den T9) bu:=dk 8
def D3:den JW "spread@steps_to"=av (den M0) bt:=dk 0
def B7:den LV "need_open"=av (den T9) bu:=dk 10
def BR:den LV "spread_to"=av (den JW) cJ:=dk 1
def EY:den LV "traced"=av (den PH) dU:=dk 0
def D0:den MZ "block_of"=av (den Nf) cF:=dk 0
def DD:den MZ "steps_from"=av (den Br) bo:=dk 6
def BH:den Pe "steps_within"=av (den MZ) bD:=dk 0
def Dv:den JQ "block_of"=av (den Nf) cF:=dk 2
def CQ:den JQ "steps_from"=av (den Br) bo:=dk 8
def ED:den Mg "spread@steps_within"=av (den Pe) aN:=dk 1
def B2:den Mg "steps_out"=av (den JQ) bR:=dk 0
def Ea:den MO "hops_from"=av (den Mg) cH:=dk 0
def Jc:den Mz "is_whole"=av (den T5) dw:=dk 21
def D1:den JO "need_size"=av (den Mz) bX:=dk 1
def Ed:den JO "open_spots"=av (den NA) cR:=dk 0
def By:den JO "steps_out"=av (den JQ) bR:=dk 4
def BJ:den Cn "need_size"=av (den Mz) bX:=dk 2
def EC:den Cn "need_open"=av (den T9) bu:=dk 20
def CB:den Cn "gates"=av (den JO) gN:=dk 0
def CD:den Cn "spread@hops_from"=av (den MO) ba:=dk 3
def ES:den Cn "traced"=av (den PH) dU:=dk 10
def Dp:den JV "_law_cost"=av (den Rk) bP:=dk 0
def H8:den K3 "_law_spots"=av (den T4) bC:=dk 29
def Cr:den K3 "_law_steps"=av (den JV) aW:=dk 0
def DH:den K3 "_law_block"=av (den LO) bM:=dk 2
def GR:den Mx "_law_spots"=av (den T4) bC:=dk 30
def Dh:den Mx "_law_block"=av (den LO) bM:=dk 3
def BK:den Mx "_law_steps"=av (den JV) aW:=dk 1
def DR:den MA "_law_block"=av (den LO) bM:=dk 4
def BW:den MA "_law_inside"=av (den Mx) cu:=dk 0
def D7:den MA "_law_steps"=av (den JV) aW:=dk 2
def Hf:den Bo "_law_floor"=av (den T2) cg:=dk 34
def GK:den Bo "_law_walker"=av (den T3) cq:=dk 33
def Ju:den Bo "_law_spots"=av (den T4) bC:=dk 32
def H9:den Bo "_law_pick"=av (den T1) bS:=dk 35
def CO:den Bo "least_way"=av (den LV) cG:=dk 16
def Di:den Bo "by_gates"=av (den Cn) c7:=dk 6
def DM:den Bo "_law_gates"=av (den K3) cQ:=dk 2
def BQ:den Bo "_law_hop"=av (den MA) cZ:=dk 0
def Dm:den Qg "_law_once"=av (den Bo) bY:=dk 0
end K81
namespace L2
open PySem PySem.Spec PyProof.Rows PySem.W
abbrev gp(p:Array Nat)(i:Nat):Nat:=p.getD i 0
end L2
namespace K81
open PySem L2 Ci KJ
abbrev sp(r c:Int):PV:=.tup [.int r,.int c]
abbrev f7(ns:List Int):PV:=.lst (ns.map .int)
theorem aI{i:Int}:dN .abs [.int i]=.ok (.int (if i<0 then -i else i)):=rfl
theorem mX{i j:Int}:dN .max2 [.int i,.int j]=.ok (.int (if j>i then j else i)):=rfl
theorem Qu:dI .gt=uf:=rfl
theorem QG{i j:Int}:uf (.int i) (.int j)=.ok (.bl (decide (j<i))):=rfl
theorem KU:dI .xZ=fQ:=rfl
abbrev wk(sl:Bool)(cl pr:Int):PV:=.tup [.bl sl,.int cl,.int pr]
theorem LD{r c:Int}:aE (sp r c) (.int 0)=.ok (.int r):=rfl
theorem Lp{r c:Int}:aE (sp r c) (.int 1)=.ok (.int c):=rfl
theorem PY{sl:Bool}{cl pr:Int}:aE (wk sl cl pr) (.int 0)=.ok (.bl sl):=rfl
theorem QZ{sl:Bool}{cl pr:Int}:aE (wk sl cl pr) (.int 1)=.ok (.int cl):=rfl
theorem RA{sl:Bool}{cl pr:Int}:aE (wk sl cl pr) (.int 2)=.ok (.int pr):=rfl
theorem nI{i j:Int}:hW (.int i) (.int j)=.ok (.bl (!(i==j))):=rfl
theorem eI{i j:Int}:iB (.int i) (.int j)=.ok (.bl (i==j)):=rfl
theorem nS{r c r' c':Int}:hW (sp r c) (sp r' c')=.ok (.bl (!((r==r')&&((c==c')&&true)))):=rfl
theorem eS{r c r' c':Int}:iB (sp r c) (sp r' c')=.ok (.bl ((r==r')&&((c==c')&&true))):=rfl
theorem Rc:dI .is=rq:=rfl
theorem Ki{α β:Type}{c:Str}{f:α->Res β}:(Res.exc c:Res α).bind f=.exc c:=rfl
noncomputable def J2:=And.intro @LD (And.intro @Lp (And.intro @PY (And.intro @QZ (And.intro @RA (And.intro @aI (And.intro @mX (And.intro @Qu (And.intro @QG (And.intro @nI (And.intro @eI (And.intro @nS (And.intro @eS (And.intro @KU (And.intro @Rc (And.intro @Ki (And.intro @Nj (And.intro @MT (@MP))))))))))))))))))
set_option hygiene false
local macro_rules | `(tactic| simp! only [$x,*] $[$l:location]?) => `(tactic| simp only [av, cI, cL, aG, gj, aD, cY, va, qN, fM, jy, iD, List.replicate, Nat.reduceAdd, Nat.reduceSub, reduceIte, ite_true, ite_false, BEq.rfl, beq_self_eq_true, qg, JR, RC, Qt, Q9, Qi, sv, QW, QX, JI, Fo, Fm, E5, Lj, MB, Li, Mb, Rt, Qb, Q6, P0, ON, Lw, oLt, oLe, lL, lT, lS, tL, M4, Ry, zf, jA, jB, jC, jD, jE, jF, jG, jH, jI, jJ, jK, jL, jM, jN, jO, jP, KJ.pT, Q7, MT, Nj, MP, jQ, jR, LD, Lp, PY, QZ, RA, aI, mX, Qu, QG, nI, eI, nS, eS, KU, Rc, Ki, $x,*] $[$l]?)
local macro_rules | `(tactic| dsimp! only [$x,*] $[$l:location]?) => `(tactic| simp only [av, cI, cL, aG, gj, aD, cY, va, qN, fM, jy, iD, List.replicate, Nat.reduceAdd, Nat.reduceSub, reduceIte, ite_true, ite_false, BEq.rfl, beq_self_eq_true, J, J2, $x,*] $[$l]?)
set_option hygiene true
theorem iS(F:aH)(i:Int):av F dw [.int i]=.ok (.bl true):=by rfl
def jm{α:Type}{xs:List α}{k:Nat}(h:k<xs.length):pS xs (k:Int)=some xs[k]:=by
 unfold pS E8;have:((k:Nat):Int)<(xs.length:Int):=by omega
 simp [this,h]
def vv{ns:List Int}{k:Int}(h0:0<=k)(h:k<ns.length):∃m,pS (ns.map PV.int) k=some (.int m):=by
 obtain⟨j,rfl⟩:=zzw h0
 refine⟨ns[j]'(by omega),?_⟩;rw [jm (k:=j) (by simp;omega)];simp
def AD(ns:List Int)(n:Nat):Ci.plain (n+1) (.lst (ns.map .int))=true:=by
 simp! [Ci.plain,zzT,zzx]
 rintro x ⟨i,_,rfl⟩
 cases n<;>rfl
def eq_nil(ns:List Int):iB (f7 ns) (.lst [])=.ok (.bl (decide (ns=[]))):=by
 have e:xT (f7 ns)=true:=AD ns 8
 unfold iB;rw [e];cases ns<;>rfl
def EG(F:aH)(ns:List Int)(k:Int)(hk:0<=k):∃m,av F da [f7 ns,.int k]=.ok (.int m):=by
 simp! only [da,zzl,eq_nil]
 by_cases h:k<(ns.length:Int)
 ·obtain⟨m,e⟩:=vv hk h
  refine⟨m,?_⟩;simp! only [h,decide_true,aE,e]
 ·simp! only [h,decide_false,eq_nil];cases ns with
  |nil=>exact⟨0,rfl⟩
  |cons n ns=>
   have hl:(0:Int)<((n::ns).length:Int):=by simp! [zzL];omega
   obtain⟨m,e⟩:=vv (ns:=n::ns) (k:=k%((n::ns).length:Int)) (Int.emod_nonneg _ (by omega)) (Int.emod_lt_of_pos _ hl)
   refine⟨m*31+k,?_⟩;have e3:(aK m||aK 31)=true:=by rw [zzt];exact .inr (by decide)
   have e4:aE (f7 (n::ns)) (.int (k%((n::ns).length:Int)))=.ok (.int m):=by simp! [aE,e];rfl
   have e5:decide ((n::ns)=[])=false:=rfl
   simp! [zzL] at hl e4;simp! only [e5,zzl,hl,e4,e3]
def De(F:aH)(hc:∀ns k,0<=k->∃m,F "_law_cell" [f7 ns,.int k]=.ok (.int m))(ns:List Int)(k q:Int)(hk:0<=k)(hq:0<q):∃m,av F bS [f7 ns,.int k,.int q]=.ok (.int m)/\0<=m/\m<q:=by
 obtain⟨m,e⟩:=hc ns k hk
 have s1:(aK 6151||aK (k+1))=true:=by rw [zzt];exact .inl (by decide)
 have s2:(aK (m+6151*(k+1))||aK 40692)=true:=by rw [zzt];exact .inr (by decide)
 have s3:(0:Int)<2147483399:=by decide
 have s4:(0:Int)<2147483629:=by decide
 have s5:(0:Int)<31/\(31:Int)<1073741824:=by decide
 have a0:=Int.emod_nonneg ((m+6151*(k+1))*40692) (b:=2147483399) (by decide)
 have a1:=Int.emod_lt_of_pos ((m+6151*(k+1))*40692) s3
 refine⟨((((m+6151*(k+1))*40692%2147483399)*((m+6151*(k+1))*40692%2147483399)+((m+6151*(k+1))*40692%2147483399)/31)%2147483629)%q,?_,Int.emod_nonneg _ (by omega),Int.emod_lt_of_pos _ hq⟩;generalize hd:(m+6151*(k+1))*40692%2147483399=d at a0 a1
 have s6:(aK d||aK d)=true:=by
  have:aK d=true:=by simp! [aK,zza,zzN];omega
  rw [this];rfl
 simp! only [bS,f7] at e⊢;simp! only [e,s1,s2,s3,s4,s5,hd,s6,hq,and_self]
def qi(aa:List Str):Prop:=aa.length<=6/\∀z∈aa,z.length<=6
abbrev fl(aa:List Str):PV:=.tup (aa.map .str)
def cd(aa:List Str)(r c:Nat):Option Nat:=(aa[r]?).bind λz=>z.cps.toList[c]?
def xO(aa:List Str)(r c:Nat):Bool:=match cd aa r c with|some x=>x !=35|none=>false
def bV(aa:List Str)(r c:Int):Bool:=decide (0<=r)&&decide (0<=c)&&xO aa r.toNat c.toNat
def su(F:aH)(h:∀i,F "is_whole" [.int i]=.ok (.bl true))(r c:Int):av F dQ [sp r c]=.ok (.bl true):=by
 have e0:aE (sp r c) (.int 0)=.ok (.int r):=rfl
 have e1:aE (sp r c) (.int 1)=.ok (.int c):=rfl
 have e2:iB (.int ((2:Nat):Int)) (.int 2)=.ok (.bl true):=rfl
 simp! only [dQ,si,h,e0,e1,e2]
def Kh(F:aH)(aa:List Str)(R:qi aa)(r c:Int):av F cx [fl aa,sp r c]=.ok (.bl (decide (0<=r)&&decide (0<=c)&&(cd aa r.toNat c.toNat).isSome)):=by
 have e0:aE (sp r c) (.int 0)=.ok (.int r):=rfl
 have e1:aE (sp r c) (.int 1)=.ok (.int c):=rfl
 simp! only [cx,si,e0,e1,oV,qC,zzl]
 by_cases h0:0<=r
 ·by_cases h1:r<(aa.length:Int)
  ·obtain⟨j,rfl⟩:=zzw h0
   have hj:j<aa.length:=by omega
   have e2:aE (fl aa) (.int (j:Int))=.ok (.str aa[j]):=by
    simp! [aE,fl];rw [jm (k:=j) (by simpa using hj)];simp [Res.of]
   have e3:(aa[j]).length<=dF:=zzU (R.2 _ (List.getElem_mem hj)) (by decide)
   have e4:(aa[j]).cps.size=(aa[j]).length:=rfl
   simp! only [h0,h1,decide_true,e2,e3]
   by_cases h2:0<=c
   ·obtain⟨i,rfl⟩:=zzw h2
    simp! only [h2,decide_true,cd,zz4,zzg hj,Option.bind_some,Bool.and_self,Bool.true_and,Res.ok.injEq,PV.bl.injEq];rw [Bool.eq_iff_iff];simp [e4]
   ·simp [av,cI,cL,aG,gj,aD,cY,va,qN,fM,jy,iD,List.replicate,Nat.reduceAdd,Nat.reduceSub,reduceIte,ite_true,ite_false,BEq.rfl,beq_self_eq_true,J,h2]
  ·have:cd aa r.toNat c.toNat=none:=by
    unfold cd;rw [List.getElem?_eq_none (by omega)];rfl
   simp [av,cI,cL,aG,gj,aD,cY,va,qN,fM,jy,iD,List.replicate,Nat.reduceAdd,Nat.reduceSub,reduceIte,ite_true,ite_false,BEq.rfl,beq_self_eq_true,J,h0,h1,this]
 ·simp [av,cI,cL,aG,gj,aD,cY,va,qN,fM,jy,iD,List.replicate,Nat.reduceAdd,Nat.reduceSub,reduceIte,ite_true,ite_false,BEq.rfl,beq_self_eq_true,J,h0]
def zq{aa:List Str}{j:Nat}{z:Str}(h:aa[j]?=some z):aE (fl aa) (.int (j:Int))=.ok (.str z):=by
 obtain⟨hj,rfl⟩:=zzH.1 h
 simp! [aE,fl];rw [jm (k:=j) (by simpa using hj)];simp [Res.of]
def CF{z:Str}{i x:Nat}(hz:z.length<=dF)(h:z.cps.toList[i]?=some x):aE (.str z) (.int (i:Int))=.ok (.str ⟨#[x]⟩):=by
 obtain⟨hj,rfl⟩:=zzH.1 h
 simp! [aE,hz,if_true];rw [jm (k:=i) hj]
 rfl
def zy{aa:List Str}(R:qi aa){j i x:Nat}(h:cd aa j i=some x):∃z,aa[j]?=some z/\aE (fl aa) (.int (j:Int))=.ok (.str z)/\aE (.str z) (.int (i:Int))=.ok (.str ⟨#[x]⟩):=by
 unfold cd at h;cases hz:aa[j]? with
 |none=>rw [hz] at h;cases h
 |some z=>
  rw [hz] at h;exact⟨z,rfl,zq hz,CF (zzU (R.2 _ (zzD hz)) (by decide)) h⟩
def sM(x:Nat):hW (.str ⟨#[x]⟩) (.str "#")=.ok (.bl (x !=35)):=by
 have:(("#":Str))=⟨#[35]⟩:=by decide+kernel
 rw [this];show Res.ok (PV.bl (!((⟨#[x]⟩:Str)==⟨#[35]⟩)))=_
 congr 2
 rw [bne,Bool.eq_iff_iff];simp
def CT(F:aH)(hs:∀r c,F "is_spot" [sp r c]=.ok (.bl true))(ho:∀aa,qi aa->∀r c,F "is_on_floor" [fl aa,sp r c]=.ok (.bl (decide (0<=r)&&decide (0<=c)&&(cd aa r.toNat c.toNat).isSome)))
 (aa:List Str) (R:qi aa) (r c:Int):av F cV [fl aa,sp r c]=.ok (.bl (bV aa r c)):=by
 have e0:aE (sp r c) (.int 0)=.ok (.int r):=rfl
 have e1:aE (sp r c) (.int 1)=.ok (.int c):=rfl
 simp! only [cV,hs,ho aa R,e0,e1];unfold bV xO
 by_cases h0:0<=r
 ·by_cases h1:0<=c
  ·obtain⟨j,rfl⟩:=zzw h0
   obtain⟨i,rfl⟩:=zzw h1
   simp! [h0,h1,decide_true,Bool.true_and,Bool.and_self,zz4];cases hc:cd aa j i with
   |none=>simp [av,cI,cL,aG,gj,aD,cY,va,qN,fM,jy,iD,List.replicate,Nat.reduceAdd,Nat.reduceSub,reduceIte,ite_true,ite_false,BEq.rfl,beq_self_eq_true,J]
   |some x=>
    obtain⟨z,_,e2,e3⟩:=zy R hc
    simp! only [Option.isSome_some,e2,e3,sM]
  ·simp [av,cI,cL,aG,gj,aD,cY,va,qN,fM,jy,iD,List.replicate,Nat.reduceAdd,Nat.reduceSub,reduceIte,ite_true,ite_false,BEq.rfl,beq_self_eq_true,J,h1]
 ·simp [av,cI,cL,aG,gj,aD,cY,va,qN,fM,jy,iD,List.replicate,Nat.reduceAdd,Nat.reduceSub,reduceIte,ite_true,ite_false,BEq.rfl,beq_self_eq_true,J,h0]
def oT(F:aH)(ho:∀aa,qi aa->∀r c,F "is_open" [fl aa,sp r c]=.ok (.bl (bV aa r c)))(aa:List Str)(R:qi aa)(r c:Int)(h:bV aa r c=true):av F bu [fl aa,sp r c]=.ok .aC:=by
 simp! only [bu,ho aa R,h]
abbrev E2(p:Int×Int):PV:=sp p.1 p.2
theorem ft{α:Type}{f:PV->Res (Option PV)}{p:α->PV}{g:α->PV}:∀{xs:List α},(∀x∈xs,f (p x)=.ok (some (g x)))->aP f (xs.map p)=.ok (xs.map g)
 |[],_=>rfl
 |x::xs,h=>by
  simp! [zzF,aP,h x (zzP ..),Res.well,Res.bind,ft (xs:=xs) λy hy=>h y (zzI _ hy),oc]
def pJ{aa:List Str}{r c:Int}:bV aa r c=true↔0<=r/\0<=c/\xO aa r.toNat c.toNat=true:=by
 simp! [bV,zza,zzN,and_assoc]
theorem fc{body:PV->Sl->Res Fl}{P:Nat->Sl->Prop}:∀(xs:List PV) (k:Nat) (env:Sl),P k env->(∀i x env,xs[i]?=some x->P (k+i) env->∃ak,body x env=.ok (.nx ak)/\P (k+i+1) ak)->∃ak,forL body xs env=.ok (.nx ak)/\P (k+xs.length) ak
 |[],k,env,h,_=>⟨env,rfl,h⟩
 |x::xs,k,env,h,g=>by
  obtain⟨e1,b1,p1⟩:=g 0 x env rfl h
  obtain⟨e2,b2,p2⟩:=fc xs (k+1) e1 p1 λi y env hy hp=>by
   obtain⟨e3,b3,p3⟩:=g (i+1) y env hy (by rw [show k+(i+1)=k+1+i by omega];exact hp)
   exact⟨e3,b3,by rw [show k+1+i+1=k+(i+1)+1 by omega];exact p3⟩
  refine⟨e2,?_,by rw [zzL,show k+(xs.length+1)=k+1+xs.length by omega];exact p2⟩;simp! [forL,b1,qg,b2]
def Ai{n i:Nat}{x:PV}(h:(e6 0 n)[i]?=some x):i<n/\x=.int (i:Int):=by
 simp! [e6,zzQ,zzJ] at h;obtain⟨j,hj,rfl⟩:=h
 obtain⟨h1,h2⟩:=zzH.1 hj
 simp! [List.getElem_range] at h2;subst h2;simp! [List.length_range] at h1;exact⟨h1,by simp⟩
def l0(F:aH):Prop:=∀(ns:List Int) (k q:Int),0<=k->0<q->∃m,F "_law_pick" [f7 ns,.int k,.int q]=.ok (.int m)/\0<=m/\m<q
def oR{a b c d m:Int}(h0:0<=m)(h1:m<4):∃v,aE (.lst [.int a,.int b,.int c,.int d]) (.int m)=.ok (.int v)/\(v=a\/v=b\/v=c\/v=d):=by
 have:m=0\/m=1\/m=2\/m=3:=by omega
 rcases this with rfl|rfl|rfl|rfl
 ·exact⟨a,rfl,.inl rfl⟩
 ·exact⟨b,rfl,.inr (.inl rfl)⟩
 ·exact⟨c,rfl,.inr (.inr (.inl rfl))⟩
 ·exact⟨d,rfl,.inr (.inr (.inr rfl))⟩
noncomputable def E0:Ss:=#v[.set 11 (.call "_law_pick" #v[!0,.bin .add (.bin .add (.bin .add (!1) (¬4)) (.bin .mul (!2) (!8))) (!10),.bin .mul (¬12) (!6)]),.set 9 (.bin .add (!9) (.ite (.cmp .lt (.bin .mod (!11) (¬12)) (!5)) (.cst (.str "#")) (.blt .str #v[.bin .fdiv (!11) (¬12)])))]
noncomputable def HH:Ss:=#v[.set 9 (.cst (.str "")),.cM (.one 10) (.qR (!4)) E0,.app 7 (!9)]
structure Fl(aa:List Str)(w:Nat):Prop where
 rZ:qi aa
 ne:0<aa.length
 w1:1<=w
 EW:∀z∈aa,z.length=w
 dig:∀z∈aa,∀x∈z.cps.toList,x=35\/(48<=x/\x<=57)
def B0{v:Int}(h0:0<=v)(h1:v<10):dN .str [.int v]=.ok (.str ⟨#[48+v.toNat]⟩):=by
 obtain⟨n,rfl⟩:=zzw h0
 have key:∀k:Fin 10,(((k.1:Nat):Int).natAbs.log2<1920)/\((toString ((k.1:Nat):Int)):Str)=⟨#[48+k.1]⟩:=by decide+kernel
 have k:=key ⟨n,Int.ofNat_lt.1 h1⟩
 show(if _ then Res.ok (PV.str _) else _)=_
 rw [if_pos k.1,zz4,k.2]
def EM{x:Nat}(h0:48<=x)(h1:x<=57):dN .int [.str ⟨#[x]⟩]=.ok (.int ((x:Int)-48)):=by
 have key:∀k:Fin 10,PySem.intText? (⟨#[48+k.1]⟩:Str)=some (((48+k.1:Nat):Int)-48):=by decide+kernel
 obtain⟨k,rfl⟩:=Nat.exists_eq_add_of_le h0
 have e:=key ⟨k,Nat.lt_succ_of_le (Nat.le_of_add_le_add_left (a:=48) h1)⟩
 show(if(⟨#[48+k]⟩:Str).length<=640 then(Res.of (PySem.intText? (⟨#[48+k]⟩:Str))).bind λn=>Res.ok (PV.int n) else .bad)=_
 rw [if_pos (show(⟨#[48+k]⟩:Str).length<=640 from(by show 1<=640;decide)),e]
 rfl
def F5(F:aH)(hp:l0 F)(ns:List Int)(q a b sh tp:Int)(RT:0<=q)(Q8:q<=6)(h1:1<=tp)(h2:tp<=10)(own:PV)(i n:Nat)(hn:n<=6)(jd IV:Ci.Slot):
 ∃(z:Str) (oJ FC:Ci.Slot),z.length=n/\(∀x∈z.cps.toList,x=35\/(48<=x/\x<=57))/\forL (λx env=>((Tg.one 10).put x env).bind λak=>aG F E0 ak) (e6 0 n) [.val (f7 ns),.val (.int 0),.val (.int q),.val (.int a),.val (.int b),.val (.int sh),.val (.int tp),.own own,.val (.int i),.val (.str ""),jd,IV]=
  .ok (.nx [.val (f7 ns),.val (.int 0),.val (.int q),.val (.int a),.val (.int b),.val (.int sh),.val (.int tp),.own own,.val (.int i),.val (.str z),oJ,FC]):=by
 obtain⟨ak,e,z,oJ,FC,hz,hd,rfl⟩:=fc (body:=λx env=>((Tg.one 10).put x env).bind λak=>aG F E0 ak) (P:=λj env=>∃(z:Str) (oJ FC:Ci.Slot),z.length=j/\(∀x∈z.cps.toList,x=35\/(48<=x/\x<=57))/\env=[.val (f7 ns),.val (.int 0),.val (.int q),.val (.int a),.val (.int b),.val (.int sh),.val (.int tp),.own own,.val (.int i),.val (.str z),oJ,FC]) (e6 0 n) 0 [.val (f7 ns),.val (.int 0),.val (.int q),.val (.int a),.val (.int b),.val (.int sh),.val (.int tp),.own own,.val (.int i),.val (.str ""),jd,IV] ⟨_,_,_,by decide+kernel,by decide+kernel,rfl⟩ (by
  intro j x env hx hq;obtain⟨hj,rfl⟩:=Ai hx
  obtain⟨z,oJ,FC,hz,hd,rfl⟩:=hq
  obtain⟨m,em,m0,m1⟩:=hp ns (0+4+q*(i:Int)+(j:Int)) (12*tp) (by
   have:=Int.mul_nonneg RT (Int.natCast_nonneg i)
   omega) (by omega)
  have q1:(aK q||aK (i:Int))=true:=by
   have:aK q=true:=by simp! [aK,zza,zzN];omega
   rw [this];rfl
  have q2:(aK 12||aK tp)=true:=by rw [zzt];exact .inl (by decide)
  have q3:(0:Int)<12:=by decide
  have q4:(0:Int)<12/\(12:Int)<1073741824:=by decide
  have ew:=B0 (v:=m/12) (by omega) (by omega)
  have Og:(("#":Str))=⟨#[35]⟩:=by decide+kernel
  by_cases hm:m%12<sh
  ·refine⟨[.val (f7 ns),.val (.int 0),.val (.int q),.val (.int a),.val (.int b),.val (.int sh),.val (.int tp),.own own,.val (.int i),.val (.str (z++"#")),.val (.int j),.val (.int m)],?_,_,_,_,?_,?_,rfl⟩
   ·have l:z.length+(("#":Str)).length<=dF:=zzU (show _<=8 by rw [Og];show z.length+1<=8;omega) (by decide)
    simp! only [E0,q1,q2,q3,q4,em,hm,decide_true,l,and_self]
   ·rw [Str.length_append,Og];show z.length+1=_;omega
   ·rw [Og];show∀x∈(z.cps++#[35]).toList,_;intro x hx;simp! [Array.toList_append,List.mem_append,zzi] at hx;rcases hx with hx|hx
    ·exact hd x hx
    ·exact .inl hx
  ·refine⟨[.val (f7 ns),.val (.int 0),.val (.int q),.val (.int a),.val (.int b),.val (.int sh),.val (.int tp),.own own,.val (.int i),.val (.str (z++⟨#[48+(m/12).toNat]⟩)),.val (.int j),.val (.int m)],?_,_,_,_,?_,?_,rfl⟩
   ·have l:z.length+(⟨#[48+(m/12).toNat]⟩:Str).length<=dF:=zzU (show z.length+1<=8 by omega) (by decide)
    simp! only [E0,q1,q2,q3,q4,em,hm,decide_false,l,and_self,ew]
   ·rw [Str.length_append];show z.length+1=_;omega
   ·show∀x∈(z.cps++#[48+(m/12).toNat]).toList,_
    intro x hx;simp! [Array.toList_append,List.mem_append,zzi] at hx;rcases hx with hx|hx
    ·exact hd x hx
    ·exact .inr (by omega))
 refine⟨z,oJ,FC,?_,hd,e⟩
 simpa [e6] using hz
def vQ(F:aH)(hp:l0 F)(ns:List Int)(q:Int)(Be:1<=q)(Q8:q<=6):∃aa w,Fl aa w/\av F cg [f7 ns,.int 0,.int q]=.ok (fl aa):=by
 obtain⟨a,ea,a0,a6⟩:=hp ns 0 q (by decide) (by omega)
 obtain⟨b,eb,b0,b6⟩:=hp ns (0+1) q (by decide) (by omega)
 obtain⟨c,ec,c0,c4⟩:=hp ns (0+2) 4 (by decide) (by decide)
 obtain⟨d,ed,d0,d4⟩:=hp ns (0+3) 4 (by decide) (by decide)
 obtain⟨sh,es,hs⟩:=oR (a:=0) (b:=2) (c:=4) (d:=6) c0 c4
 obtain⟨tp,et,ht⟩:=oR (a:=1) (b:=2) (c:=3) (d:=10) d0 d4
 have t1:1<=tp:=by omega
 have t2:tp<=10:=by omega
 have sa:aJ (1+a)=true:=by simp! [aJ,zza,zzN];omega
 have sb:aJ (1+b)=true:=by simp! [aJ,zza,zzN];omega
 obtain⟨ak,e,aa,s8,s9,jd,IV,hl,hr,hd,rfl⟩:=fc (body:=λx env=>((Tg.one 8).put x env).bind λak=>aG F HH ak)
  (P:=λi env=>∃(aa:List Str) (s8 s9 jd IV:Ci.Slot),aa.length=i/\(∀z∈aa,z.length=(1+b).toNat)/\(∀z∈aa,∀x∈z.cps.toList,x=35\/(48<=x/\x<=57))/\env=[.val (f7 ns),.val (.int 0),.val (.int q),.val (.int (1+a)),.val (.int (1+b)),.val (.int sh),.val (.int tp),.own (.lst (aa.map .str)),s8,s9,jd,IV])
  (e6 0 (1+a).toNat) 0 [.val (f7 ns),.val (.int 0),.val (.int q),.val (.int (1+a)),.val (.int (1+b)),.val (.int sh),.val (.int tp),.own (.lst []),.no,.no,.no,.no] ⟨[],_,_,_,_,rfl,(λz hz=>by cases hz),(λz hz=>by cases hz),rfl⟩ (by
  intro i x env hx hq;obtain⟨hi,rfl⟩:=Ai hx
  obtain⟨aa,s8,s9,jd,IV,hl,hr,hd,rfl⟩:=hq
  obtain⟨z,oJ,FC,hz,hzd,e⟩:=F5 F hp ns q (1+a) (1+b) sh tp (by omega) Q8 t1 t2 (.lst (aa.map .str)) i (1+b).toNat (by omega) jd IV
  have l:(aa.map PV.str).length<dF:=zzV (m:=6) (by simp! [zzl];omega) (by decide)
  refine⟨[.val (f7 ns),.val (.int 0),.val (.int q),.val (.int (1+a)),.val (.int (1+b)),.val (.int sh),.val (.int tp),.own (.lst ((aa++[z]).map .str)),.val (.int i),.val (.str z),oJ,FC],?_,aa++[z],_,_,_,_,by simp;omega,?_,?_,rfl⟩
  ·have e':=e
   simp! only [E0] at e';simp! [zzl] at l;simp! only [HH,E0,sb,e',zzl,l,List.map_append]
  ·intro y hy;simp! [List.mem_append,zzi] at hy;rcases hy with hy|rfl
   ·exact hr y hy
   ·exact hz
  ·intro y hy;simp! [List.mem_append,zzi] at hy;rcases hy with hy|rfl
   ·exact hd y hy
   ·exact hzd)
 have uw:aa.length=(1+a).toNat:=by simpa [e6] using hl
 refine⟨aa,(1+b).toNat,⟨⟨by omega,λz hz=>by rw [hr z hz];omega⟩,by omega,by omega,hr,hd⟩,?_⟩
 simp! only [HH,E0] at e;simp! only [cg,cg,ea,eb,ec,ed,es,et,sa,e]
def cm(aa:List Str)(r c:Int):Int:=match cd aa r.toNat c.toNat with
 |some x=>(x:Int)-48
 |none=>0
def yo{aa:List Str}{r c:Int}(h:bV aa r c=true):∃(i j x:Nat),r=i/\c=j/\cd aa i j=some x/\x≠35:=by
 obtain⟨h0,h1,h2⟩:=pJ.1 h
 obtain⟨i,rfl⟩:=zzw h0
 obtain⟨j,rfl⟩:=zzw h1
 simp! [zz4,xO] at h2;cases hc:cd aa i j with
 |none=>rw [hc] at h2;cases h2
 |some x=>
  rw [hc] at h2;exact⟨i,j,x,rfl,rfl,hc,by simpa using h2⟩
def Gw{aa:List Str}{w:Nat}(L:Fl aa w){i j x:Nat}(h:cd aa i j=some x):x=35\/(48<=x/\x<=57):=by
 unfold cd at h;cases hz:aa[i]? with
 |none=>rw [hz] at h;cases h
 |some z=>
  rw [hz] at h;exact L.dig z (zzD hz) x (zzD h)
def kG{aa:List Str}{w:Nat}(L:Fl aa w){r c:Int}(h:bV aa r c=true):∃z x,aE (fl aa) (.int r)=.ok (.str z)/\aE (.str z) (.int c)=.ok (.str ⟨#[x]⟩)/\dN .int [.str ⟨#[x]⟩]=.ok (.int (cm aa r c))/\0<=cm aa r c/\cm aa r c<=9:=by
 obtain⟨i,j,x,rfl,rfl,hc,hx⟩:=yo h
 obtain⟨z,_,e1,e2⟩:=zy L.rZ hc
 have hd:=(Gw L hc).resolve_left hx
 have hh:cm aa i j=(x:Int)-48:=by simp! [cm,zz4,hc]
 refine⟨z,x,e1,e2,?_,?_⟩
 ·rw [hh];exact EM hd.1 hd.2
 ·rw [hh];omega
noncomputable def cW(aa:List Str)(sl:Bool)(cl pr:Int)(r c r' c':Int):Option Int:=
 if(r=r'/\c=c')\/1<r-r'\/1<r'-r\/1<c-c'\/1<c'-c then none
 else if(r≠r'/\c≠c')/\¬(sl=true/\bV aa r c'=true/\bV aa r' c=true) then none
 else if cl<cm aa r' c'-cm aa r c\/cl<cm aa r c-cm aa r' c' then none
 else some ((if r≠r'/\c≠c' then 3 else 2)+pr*(if cm aa r' c'-cm aa r c>0 then cm aa r' c'-cm aa r c else 0))
def oP:Option Int->PV
 |none=>.aC
 |some i=>.int i
def gD(r c r' c':Int):Prop:=(r=r'/\c=c')\/1<r-r'\/1<r'-r\/1<c-c'\/1<c'-c
instance(r c r' c':Int):Decidable (gD r c r' c'):=by unfold gD;infer_instance
def xo(F:aH)(r c r' c':Int):av F cT [sp r c,sp r' c']=.ok (.bl (!decide (gD r c r' c'))):=by
 simp! only [cT,LD,Lp,aI,nS];have key:∀(a b d:Bool),(Res.ok (PV.bl a)).bind (λx=>nL x λt=>if t then(Res.ok (PV.bl b)).bind (λx=>nL x λt=>if t then Res.ok (PV.bl d) else Res.ok (PV.bl false)) else Res.ok (PV.bl false))=Res.ok (PV.bl (a&&(b&&d))):=by
  intro a b d;cases a<;>cases b<;>cases d<;>rfl
 by_cases h1:r=r'/\c=c'
 ·obtain⟨rfl,rfl⟩:=h1
  have:gD r c r c:=.inl ⟨rfl,rfl⟩
  simp [av,cI,cL,aG,gj,aD,cY,va,qN,fM,jy,iD,List.replicate,Nat.reduceAdd,Nat.reduceSub,reduceIte,ite_true,ite_false,BEq.rfl,beq_self_eq_true,J,this]
 ·have b1:(!((r==r')&&((c==c')&&true)))=true:=by
   cases hh:((r==r')&&((c==c')&&true)) with
   |false=>rfl
   |true=>exact absurd (by simpa using hh) h1
  simp! only [b1]
  by_cases h2:(if r-r'<0 then -(r-r') else r-r')<=1
  ·by_cases h3:(if c-c'<0 then -(c-c') else c-c')<=1
   ·have:¬gD r c r' c':=by
     rintro (h|h|h|h|h)
     ·exact h1 h
     all_goals (split at h2<;>split at h3<;>omega)
    simp! only [h2,h3,this,decide_true,decide_false]
   ·have:gD r c r' c':=by
     unfold gD;split at h3<;>omega
    simp! only [h2,h3,this,decide_true,decide_false]
  ·have:gD r c r' c':=by
    unfold gD;split at h2<;>omega
   simp! only [h2,this,decide_true,decide_false]
def tR(F:aH):Prop:=∀aa,qi aa->∀r c,F "is_open" [fl aa,sp r c]=.ok (.bl (bV aa r c))
def vS(F:aH)(hn:∀aa,qi aa->∀r c,bV aa r c=true->F "need_open" [fl aa,sp r c]=.ok .aC){aa:List Str}{w:Nat}(L:Fl aa w){r c:Int}(h:bV aa r c=true):av F dc [fl aa,sp r c]=.ok (.int (cm aa r c)):=by
 obtain⟨z,x,e1,e2,e3,_⟩:=kG L h
 simp! only [dc,hn aa L.rZ r c h,LD,Lp,e1,e2,e3]
def tY(F:aH)(ho:tR F){aa:List Str}(R:qi aa)(r c r' c':Int):av F bh [fl aa,sp r c,sp r' c']=.ok (.bl (bV aa r c'&&bV aa r' c)):=by
 simp! only [bh,LD,Lp,ho aa R];cases bV aa r c'<;>simp! only [Bool.false_and,Bool.true_and]
def mZ{i j:Int}(h0:0<=i)(h1:i<4):(aK i||aK j)=true:=by
 have:aK i=true:=by simp! [aK,zza,zzN];omega
 rw [this];rfl
structure Wk(cl pr:Int):Prop where
 c0:0<=cl
 p0:0<=pr
 p4:pr<4
 c9:cl<=9
def CL(F:aH)(hb:∀r c r' c',F "are_beside" [sp r c,sp r' c']=.ok (.bl (!decide (gD r c r' c'))))(hk:∀aa,qi aa->∀r c r' c',F "has_open_corners" [fl aa,sp r c,sp r' c']=.ok (.bl (bV aa r c'&&bV aa r' c)))
 (hh:∀aa w,Fl aa w->∀r c,bV aa r c=true->F "height_at" [fl aa,sp r c]=.ok (.int (cm aa r c))) {aa:List Str} {w:Nat} (L:Fl aa w) {sl:Bool} {cl pr:Int} (V:Wk cl pr) {r c r' c':Int} (h:bV aa r c=true) (h':bV aa r' c'=true):
 av F bq [fl aa,wk sl cl pr,sp r c,sp r' c']=.ok (oP (cW aa sl cl pr r c r' c')):=by
 have e1:=hh aa w L r c h
 have e2:=hh aa w L r' c' h'
 have e3:=hk aa L.rZ r c r' c'
 have e4:=hb r c r' c'
 by_cases h1:gD r c r' c'
 ·have:cW aa sl cl pr r c r' c'=none:=if_pos h1
  simp! only [bq,e4,h1,decide_true,this,oP]
 ·have q1:cW aa sl cl pr r c r' c'=_:=if_neg h1
  rw [q1];have ms:=λj=>mZ (j:=j) V.p0 V.p4
  obtain⟨s,hs⟩:∃s,((!(r==r'))&&!(c==c'))=s:=⟨_,rfl⟩
  have MQ:s=true↔r≠r'/\c≠c':=by rw [<-hs];simp
  have ia:∀{t u:Bool},(if t=true then Res.ok (PV.bl u) else Res.ok (PV.bl false))=Res.ok (PV.bl (t&&u)):=λ{t u}=>by cases t<;>rfl
  have ii:(if s=true then Res.ok (PV.int 3) else Res.ok (PV.int 2))=Res.ok (PV.int (if r≠r'/\c≠c' then 3 else 2)):=by
   by_cases n3:r≠r'/\c≠c'
   ·rw [if_pos (MQ.2 n3),if_pos n3]
   ·rw [if_neg (λz=>n3 (MQ.1 z)),if_neg n3]
  have mx:(if(0:Int)>cm aa r' c'-cm aa r c then 0 else cm aa r' c'-cm aa r c)=(if cm aa r' c'-cm aa r c>0 then cm aa r' c'-cm aa r c else 0):=by
   split<;>split<;>omega
  have cc:(if sl=true then Res.ok (PV.bl (bV aa r c'&&bV aa r' c)) else Res.ok (PV.bl false))=Res.ok (PV.bl (sl&&(bV aa r c'&&bV aa r' c))):=ia
  by_cases hblk:(r≠r'/\c≠c')/\¬(sl=true/\bV aa r c'=true/\bV aa r' c=true)
  ·rw [if_pos hblk];have hB:(!(sl&&(bV aa r c'&&bV aa r' c)))=true:=by
    rw [Bool.not_eq_true',Bool.eq_false_iff];intro z;rw [zza,zza] at z;exact hblk.2 z
   simp! only [bq,e4,e3,h1,decide_false,ia,hs,MQ.2 hblk.1,hB,Bool.and_self,oP]
  ·rw [if_neg hblk];have hB:(s&&!(sl&&(bV aa r c'&&bV aa r' c)))=false:=by
    rw [Bool.eq_false_iff];intro z;rw [zza,Bool.not_eq_true',Bool.eq_false_iff] at z;exact hblk ⟨MQ.1 z.1,λy=>z.2 (by rw [zza,zza];exact y)⟩
   by_cases hq:cl<(if cm aa r' c'-cm aa r c<0 then -(cm aa r' c'-cm aa r c) else cm aa r' c'-cm aa r c)
   ·have hz:cl<cm aa r' c'-cm aa r c\/cl<cm aa r c-cm aa r' c':=by split at hq<;>omega
    simp! only [bq,e4,e3,e1,e2,h1,decide_false,ia,hs,hB,oP,hq,decide_true,if_pos hz]
   ·have hz:¬(cl<cm aa r' c'-cm aa r c\/cl<cm aa r c-cm aa r' c'):=by split at hq<;>omega
    simp! only [bq,e4,e3,e1,e2,h1,decide_false,ia,hs,hB,oP,hq,if_neg hz,ii,ms,mx]
def Lx{aa:List Str}{w:Nat}(L:Fl aa w){i j:Nat}(hi:i<aa.length)(hj:j<w):∃x,cd aa i j=some x:=by
 have hz:aa[i]?=some aa[i]:=zzg hi
 have hl:=L.EW _ (zzD hz)
 refine⟨(aa[i]).cps.toList[j]'(by simp! [zzd];rw [<-hl] at hj;exact hj),?_⟩;unfold cd;rw [hz];exact zzg _
def jc{aa:List Str}{w:Nat}(L:Fl aa w){r c:Int}(h:bV aa r c=true):0<=r/\r<aa.length/\0<=c/\c<w:=by
 obtain⟨i,j,x,rfl,rfl,hc,_⟩:=yo h
 unfold cd at hc;cases hz:aa[i]? with
 |none=>rw [hz] at hc;cases hc
 |some z=>
  rw [hz] at hc;have h1:=(zzH.1 hz).1
  have h2:=(zzH.1 hc).1
  have hl:=L.EW _ (zzD hz)
  simp! [zzd] at h2;have:z.cps.size=z.length:=rfl
  omega
abbrev kN(p:Nat×Nat):List Int:=[(p.1:Int),(p.2:Int)]
abbrev Up(L:List (Nat×Nat)):Prop:=L.Pairwise λp q=>HT.lexLt (kN p) (kN q)=true
def sE:Up []:=.nil
def OZ{p q:Nat×Nat}(h:p.1<q.1\/p.1=q.1/\p.2<q.2):HT.lexLt (kN p) (kN q)=true:=by
 simp! [HT.lexLt];rcases h with h|⟨h1,h2⟩
 ·rw [if_neg (by omega)];exact zzh (by omega)
 ·rw [if_pos (by omega),if_neg (by omega)];exact zzh (by omega)
abbrev za(p:Nat×Nat):PV:=sp p.1 p.2
theorem pd:∀{xs:List PV} {k i:Nat} {x:PV},(cA k xs)[i]?=some x->∃y,xs[i]?=some y/\x=.tup [.int ((k+i:Nat):Int),y]
 |[],_,_,_,h=>by cases h
 |y::ys,k,0,x,h=>by
  simp! [cA,List.getElem?_cons_zero,Option.some.injEq] at h;exact⟨y,rfl,h.symm⟩
 |y::ys,k,i+1,x,h=>by
  simp! [cA,List.getElem?_cons_succ] at h;obtain⟨w,h1,h2⟩:=pd h
  refine⟨w,h1,?_⟩;rw [h2,show k+1+i=k+(i+1) by omega]
theorem cj:∀(xs:List PV) (k:Nat),(cA k xs).length=xs.length
 |[],_=>rfl
 |x::xs,k=>by simp! [cA,zzL,cj xs]
theorem mh{f:PV->Res (Option PV)}{r:Nat}(hf:∀c x:Nat,f (.tup [.int c,.str ⟨#[x]⟩])=.ok (if x !=35 then some (sp r c) else none)):∀(xs:List Nat) (k:Nat),∃L:List (Nat×Nat),aP f (cA k (xs.map λx=>.str ⟨#[x]⟩))=.ok (L.map za)/\Up L/\L.length<=xs.length/\∀a b,(a,b)∈L↔a=r/\k<=b/\∃x,xs[b-k]?=some x/\x≠35
 |[],k=>⟨[],rfl,sE,zzE _,λa b=>by simp⟩
 |x::xs,k=>by
  obtain⟨L,e,nd,l,h⟩:=mh hf xs (k+1)
  by_cases hx:x=35
  ·refine⟨L,?_,nd,Nat.le_succ_of_le l,λa b=>?_⟩
   ·have:(x !=35)=false:=by simp [hx]
    simp! [zzF,cA,aP,hf,this,JR,qg,e,oc]
    rfl
   ·rw [h]
    constructor
    ·rintro ⟨h1,h2,y,h3,h4⟩
     refine⟨h1,by omega,y,?_,h4⟩;rw [show b-k=(b-(k+1))+1 by omega];exact h3
    ·rintro ⟨h1,h2,y,h3,h4⟩
     have:b≠k:=by
      rintro rfl
      simp at h3;omega
     refine⟨h1,by omega,y,?_,h4⟩;rw [show b-k=(b-(k+1))+1 by omega] at h3;exact h3
  ·refine⟨(r,k)::L,?_,List.pairwise_cons.2 ⟨(λp hp=>OZ (by have:=(h p.1 p.2).1 hp;omega)),nd⟩,Nat.succ_le_succ l,λa b=>?_⟩
   ·have:(x !=35)=true:=by simp [hx]
    simp! [zzF,cA,aP,hf,this,JR,qg,e,oc,if_true]
   ·rw [zzm,h]
    constructor
    ·rintro (h1|⟨h1,h2,y,h3,h4⟩)
     ·cases h1;exact⟨rfl,zzE _,x,by simp,hx⟩
     ·refine⟨h1,by omega,y,?_,h4⟩;rw [show b-k=(b-(k+1))+1 by omega];exact h3
    ·rintro ⟨h1,h2,y,h3,h4⟩
     by_cases hb:b=k
     ·subst hb;subst h1;exact .inl rfl
     ·refine .inr ⟨h1,by omega,y,?_,h4⟩;rw [show b-k=(b-(k+1))+1 by omega] at h3;exact h3
def j0{aa:List Str}{r c:Nat}:xO aa r c=true↔∃z,aa[r]?=some z/\∃x,z.cps.toList[c]?=some x/\x≠35:=by
 unfold xO cd;cases hz:aa[r]? with
 |none=>simp
 |some z=>
  simp! [Option.bind_some];cases hx:z.cps.toList[c]? with
  |none=>
   refine⟨(λh=>by cases h),?_⟩
   rintro ⟨w,hw,x,wR,_⟩
   cases hw;rw [hx] at wR;cases wR
  |some x=>
   refine⟨λh=>⟨z,rfl,x,hx,by simpa using h⟩,?_⟩
   rintro ⟨w,hw,y,hy,h⟩
   cases hw;rw [hx] at hy;cases hy
   simpa using h
def yH:Ss:=#v[.qG 1 (.bT 2 [2] (.two 0 1) (.enum (!3)) (.cmp .ne (!1) (.cst (.str "#"))) (.tup #v[!2,!0]))]
def uz(F:aH):Prop:=∀aa,qi aa->∃L:List (Nat×Nat),F "_law_spots" [fl aa]=.ok (.lst (L.map za))/\Up L/\L.length<=36/\∀r c,(r,c)∈L↔xO aa r c=true
def AO(F:aH)(aa:List Str)(R:qi aa):∃L:List (Nat×Nat),av F bC [fl aa]=.ok (.lst (L.map za))/\Up L/\L.length<=36/\∀r c,(r,c)∈L↔xO aa r c=true:=by
 have SW:=R.1
 obtain⟨ak,e,L,s2,s3,nd,hl,hm,rfl⟩:=fc (body:=λx env=>((Tg.two 2 3).put x env).bind λak=>aG F yH ak) (P:=λi env=>∃(L:List (Nat×Nat)) (s2 s3:Slot),Up L/\L.length<=6*i/\(∀r c,(r,c)∈L↔r<i/\xO aa r c=true)/\env=[.val (fl aa),.own (.lst (L.map za)),s2,s3])
  (cA 0 (aa.map .str)) 0 [.val (fl aa),.own (.lst []),.no,.no] ⟨[],_,_,sE,zzE _,(λr c=>by simp),rfl⟩ (by
  intro i x env hx hq;obtain⟨y,hy,rfl⟩:=pd hx
  obtain⟨L,s2,s3,nd,hl,hm,rfl⟩:=hq
  simp! [zzQ,zzJ] at hy;obtain⟨z,hz,rfl⟩:=hy
  have J4:=R.2 z (zzD hz)
  have hi:i<aa.length:=(zzH.1 hz).1
  obtain⟨M,eM,nM,lM,hM⟩:=mh (f:=λx=>((Tg.two 0 1).put x [.no,.no,.val (.int i)]).bind λak=>((fO ak[1]?).bind λx=>hW x (.str "#")).bind λt=>nL t λt=>if t then(((fO ak[2]?).bind λp=>((fO ak[0]?).bind λp=>.ok [p]).bind λps=>.ok (p::ps)).bind λps=>.ok (.tup ps)).bind λy=>.ok (some y) else .ok none) (r:=i) (λc x=>by
   simp! only [sM];cases(x !=35)<;>rfl) z.cps.toList 0
  have lz:(cA 0 (chars z)).length<dF:=by
   rw [cj];refine zzV (m:=6) ?_ (by decide)
   simpa [chars,Str.length] using J4
  have ll:(L.map za).length+(M.map za).length<=dF:=by
   refine zzU (m:=100) ?_ (by decide);simp! [zzl];have:z.cps.toList.length=z.length:=by simp [Str.length]
   omega
  refine⟨[.val (fl aa),.own (.lst ((L++M).map za)),.val (.int i),.val (.str z)],?_,L++M,_,_,List.pairwise_append.2 ⟨nd,nM,λa ha b hb=>OZ (.inl (by have h1:=((hm a.1 a.2).1 ha).1;have h2:=((hM b.1 b.2).1 hb).1;omega))⟩,?_,?_,rfl⟩
  ·simp! only [yH,MP,Nat.zero_add,lz];rw [show chars z=z.cps.toList.map λx=>PV.str ⟨#[x]⟩ from rfl,eM]
   simp! only [ll,List.map_append]
  ·have:z.cps.toList.length=z.length:=by simp [Str.length]
   simp! [zzM];omega
  ·intro r c;rw [List.mem_append,hm,hM,j0]
   constructor
   ·rintro (⟨h1,h2⟩|⟨rfl,_,x,h3,h4⟩)
    ·exact⟨by omega,h2⟩
    ·exact⟨by omega,z,hz,x,h3,h4⟩
   ·rintro ⟨h1,w,h2,x,h3,h4⟩
    by_cases hr:r=i
    ·subst hr;rw [hz] at h2;cases h2;exact .inr ⟨rfl,Nat.zero_le _,x,h3,h4⟩
    ·exact .inl ⟨by omega,w,h2,x,h3,h4⟩)
 refine⟨L,?_,nd,(by rw [cj,zzl] at hl;omega),λr c=>?_⟩
 ·simp! only [yH] at e;simp! only [bC,MT,e,List.modify_succ_cons,List.modify_zero_cons,zf]
 ·rw [hm];refine⟨λh=>h.2,λh=>⟨?_,h⟩⟩
  obtain⟨z,hz,_⟩:=j0.1 h
  have:=(zzH.1 hz).1
  rw [cj,zzl];omega
def wG(F:aH)(hp:l0 F)(ns:List Int)(k:Int)(hk:0<=k):∃sl cl pr,Wk cl pr/\av F cq [f7 ns,.int k]=.ok (wk sl cl pr):=by
 obtain⟨a,ea,a0,a2⟩:=hp ns k 2 hk (by decide)
 obtain⟨b,eb,b0,b4⟩:=hp ns (k+1) 4 (by omega) (by decide)
 obtain⟨c,ec,c0,c4⟩:=hp ns (k+2) 4 (by omega) (by decide)
 obtain⟨v,ev,hv⟩:=oR (a:=0) (b:=1) (c:=2) (d:=9) b0 b4
 refine⟨(a==0),v,c,⟨by omega,c0,c4,by omega⟩,?_⟩;simp! only [cq,ea,eb,ec,ev]
theorem fC{α σ:Type}{body:PV->Sl->Res Ci.Fl}{g:α->PV}{mk:List PV->σ->Sl}{app:α->List PV}{m M:Nat}:∀(l:List α) (acc:List PV) (s:σ),(∀a∈l,(app a).length<=m)->(∀a∈l,∀acc s,acc.length+m<=M->∃s',body (g a) (mk acc s)=.ok (.nx (mk (acc++app a) s')))->acc.length+m*l.length<=M->∃s',forL body (l.map g) (mk acc s)=.ok (.nx (mk (acc++l.flatMap app) s'))
 |[],acc,s,_,_,_=>⟨s,by simp [forL]⟩
 |a::l,acc,s,h1,h2,h3=>by
  have ha:=h1 a (zzP ..)
  rw [zzL,Nat.mul_succ] at h3;obtain⟨s1,e1⟩:=h2 a (zzP ..) acc s (by omega)
  obtain⟨s2,e2⟩:=fC l (acc++app a) s1 (λb hb=>h1 b (zzI _ hb)) (λb hb=>h2 b (zzI _ hb)) (by rw [zzM];omega)
  refine⟨s2,?_⟩;simp! [zzF,forL,e1,qg,e2,List.flatMap_cons,List.append_assoc]
def gL(x:Int):List Int:=[x-1+(0:Nat),x-1+(1:Nat),x-1+(2:Nat)]
def Ky(x:Int):e6 (x-1) (x+2-(x-1)).toNat=(gL x).map .int:=by
 rw [show(x+2-(x-1)).toNat=3 by omega]
 rfl
def oI:Ss:=#v[.ite (.and (.cmp .ne (.tup #v[!3,!4]) (!1)) (.call "is_open" #v[!0,.tup #v[!3,!4]])) #v[.app 2 (.tup #v[!3,!4])] .nil]
def oO:Ss:=#v[.cM (.one 4) (.lF (.bin .sub (.sub (!1) (¬1)) (¬1)) (.bin .add (.sub (!1) (¬1)) (¬2))) oI]
def Bq(aa:List Str)(r c r' c':Int):Bool:=!((r'==r)&&((c'==c)&&true))&&bV aa r' c'
def qY(aa:List Str)(r c r':Int):List (Int×Int):=(gL c).flatMap λc'=>if Bq aa r c r' c' then [(r',c')] else []
def pF(aa:List Str)(r c:Int):List (Int×Int):=(gL r).flatMap (qY aa r c)
def iZ(aa:List Str)(r c r':Int):(qY aa r c r').length<=3:=by
 have:∀c',(if Bq aa r c r' c' then [(r',c')] else []).length<=1:=λc'=>by split<;>simp
 simp! [qY,gL,List.flatMap_cons,List.flatMap_nil,zzM,List.length_nil];have h1:=this (c-1+(0:Nat));have h2:=this (c-1+(1:Nat));have h3:=this (c-1+(2:Nat))
 omega
def qA(aa:List Str)(r c:Int):(pF aa r c).length<=9:=by
 simp! [pF,gL,List.flatMap_cons,List.flatMap_nil,zzM,List.length_nil];have h1:=iZ aa r c (r-1+(0:Nat));have h2:=iZ aa r c (r-1+(1:Nat));have h3:=iZ aa r c (r-1+(2:Nat))
 omega
def lp{aa:List Str}{r c r' c':Int}:(r',c')∈pF aa r c↔¬gD r c r' c'/\bV aa r' c'=true:=by
 have hn:∀x y:Int,y∈gL x↔¬1<x-y/\¬1<y-x:=by
  intro x y;simp! [gL,zzm,List.not_mem_nil,or_false];omega
 simp! [pF,qY,List.mem_flatMap,hn]
 constructor
 ·rintro ⟨a,ha,b,hb,h⟩
  split at h
  ·rename_i hk;simp! [zzi,Prod.mk.injEq] at h;obtain⟨rfl,rfl⟩:=h
   simp! [Bq,zza,Bool.not_eq_true',Bool.and_true] at hk;refine⟨?_,hk.2⟩;unfold gD;have h1:=hk.1
   rw [Bool.and_eq_false_iff] at h1;simp! [beq_eq_false_iff_ne,ne_eq] at h1;omega
  ·cases h
 ·rintro ⟨hf,ho⟩
  unfold gD at hf;refine⟨r',by omega,c',by omega,?_⟩;have:Bq aa r c r' c'=true:=by
   simp! [Bq,ho,Bool.and_true,Bool.not_eq_true',Bool.and_eq_false_iff,beq_eq_false_iff_ne,ne_eq];omega
  rw [if_pos this];exact zzi.2 rfl
def lR{r:Int}(h0:0<=r)(h6:r<6):(aJ (r-1)&&aJ (r+2))=true:=by
 simp! [aJ,zza,zzN];omega
def Jy(F:aH)(ho:tR F){aa:List Str}(R:qi aa){r c:Int}(SJ:0<=r)(hr:r<6)(SD:0<=c)(hc:c<6):
 av F aY [fl aa,sp r c]=.ok (.lst ((pF aa r c).map E2)):=by
 have inner:∀(r':Int) (acc:List PV) (s4:Ci.Slot),acc.length+3<=50->∃Pn,forL (λx env=>((Tg.one 4).put x env).bind λak=>aG F oI ak) ((gL c).map .int) [.val (fl aa),.val (sp r c),.own (.lst acc),.val (.int r'),s4]=.ok (.nx [.val (fl aa),.val (sp r c),.own (.lst (acc++(qY aa r c r').map E2)),.val (.int r'),Pn]):=by
  intro r' acc s4 hl;obtain⟨s',e⟩:=fC (body:=λx env=>((Tg.one 4).put x env).bind λak=>aG F oI ak) (g:=PV.int) (mk:=λacc (s:Ci.Slot)=>[.val (fl aa),.val (sp r c),.own (.lst acc),.val (.int r'),s]) (app:=λc'=>if Bq aa r c r' c' then [sp r' c'] else []) (m:=1) (M:=60) (gL c) acc s4 (λc' _=>by split<;>simp) (λc' _ acc s hl=>by
   have l:acc.length<dF:=zzV (m:=60) (by omega) (by decide)
   refine⟨.val (.int c'),?_⟩;cases h1:(!((r'==r)&&((c'==c)&&true))) with
   |false=>simp! only [oI,h1,Bq,Bool.false_and,zz6]
   |true=>
    cases h2:bV aa r' c' with
    |false=>simp! only [oI,h1,h2,Bq,ho aa R,Bool.and_false,zz6]
    |true=>simp! only [oI,h1,h2,Bq,ho aa R,Bool.and_self,l]) (by show acc.length+1*3<=60;omega)
  have k:(gL c).flatMap (λc'=>if Bq aa r c r' c' then [sp r' c'] else [])=(qY aa r c r').map E2:=by
   simp! [qY,List.map_flatMap]
   congr 1
   funext c'
   split<;>rfl
  exact⟨s',by rw [e,k]⟩
 obtain⟨s',e⟩:=fC (body:=λx env=>((Tg.one 3).put x env).bind λak=>aG F oO ak) (g:=PV.int) (mk:=λacc (s:Ci.Slot×Ci.Slot)=>[.val (fl aa),.val (sp r c),.own (.lst acc),s.1,s.2]) (app:=λr'=>(qY aa r c r').map E2) (m:=3) (M:=50) (gL r) [] (.no,.no) (λr' _=>by rw [zzl];exact iZ ..) (λr' _ acc s hl=>by
  obtain⟨Pn,e⟩:=inner r' acc s.2 hl
  refine⟨(.val (.int r'),Pn),?_⟩;simp! only [oI] at e;simp! only [oO,oI,lR SD hc,Ky,e]) (by show 0+3*3<=50;omega)
 simp! only [oO,oI] at e;simp! only [aY,lR SJ hr,Ky,e,zf,pF,List.map_flatMap]
def E1(aa:List Str)(sl:Bool)(cl pr:Int)(u v:List Int)(e:Int):Prop:=∃r c r' c',u=[r,c]/\v=[r',c']/\bV aa r c=true/\bV aa r' c'=true/\cW aa sl cl pr r c r' c'=some e
abbrev tK(t:List Int×Int):PV:=.tup [af t.1,.int t.2]
def tj(F:aH):Prop:=∀aa w,Fl aa w->∀sl cl pr,Wk cl pr->∀r c r' c',bV aa r c=true->bV aa r' c'=true->F "step_cost" [fl aa,wk sl cl pr,sp r c,sp r' c']=.ok (oP (cW aa sl cl pr r c r' c'))
def Fw(F:aH):Prop:=∀aa,qi aa->∀r c,0<=r->r<6->0<=c->c<6->F "open_spots_beside" [fl aa,sp r c]=.ok (.lst ((pF aa r c).map E2))
def o6(F:aH):Prop:=∀aa,qi aa->∀r c,bV aa r c=true->F "need_open" [fl aa,sp r c]=.ok .aC
def ra(f:List PV->Res PV):Prop:=∀aa w,Fl aa w->∀sl cl pr,Wk cl pr->∀r c,bV aa r c=true->∃T:List (List Int×Int),f [fl aa,wk sl cl pr,af [r,c]]=.ok (.lst (T.map tK))/\T.length<=9/\∀v e,(v,e)∈T↔E1 aa sl cl pr [r,c] v e
def pW(F:aH):Prop:=ra (F "steps_from")
def MY:Ss:=#v[.set 5 (.call "step_cost" #v[!0,!1,!2,!4]),.ite (.cmp .xZ (!5) (.cst .aC)) #v[.app 3 (.tup #v[!4,!5])] .nil]
def Fg{aa:List Str}{w:Nat}(L:Fl aa w){r c:Int}(h:bV aa r c=true):0<=r/\r<6/\0<=c/\c<6:=by
 have h1:=jc L h
 have h2:=L.rZ.1
 have h3:=L.rZ.2 _ (List.getElem_mem L.ne)
 rw [L.EW _ (List.getElem_mem L.ne)] at h3;omega
def zX(F:aH)(hn:o6 F)(hb:Fw F)(hs:tj F):ra (av F bo):=by
 intro aa w L sl cl pr V r c h;obtain⟨r0,r6,c0,c6⟩:=Fg L h
 have Kb:∀p:Int×Int,((cW aa sl cl pr r c p.1 p.2).toList.map λe=>(([p.1,p.2]:List Int),e)).length<=1:=λp=>by cases cW aa sl cl pr r c p.1 p.2<;>simp
 refine⟨(pF aa r c).flatMap λp=>(cW aa sl cl pr r c p.1 p.2).toList.map λe=>([p.1,p.2],e),?_,?_,?_⟩
 ·obtain⟨s',e⟩:=fC (body:=λx env=>((Tg.one 4).put x env).bind λak=>aG F MY ak) (g:=E2) (mk:=λacc (s:Ci.Slot×Ci.Slot)=>[.val (fl aa),.val (wk sl cl pr),.val (sp r c),.own (.lst acc),s.1,s.2]) (app:=λp=>((cW aa sl cl pr r c p.1 p.2).toList.map λe=>(([p.1,p.2]:List Int),e)).map tK) (m:=1) (M:=50) (pF aa r c) [] (.no,.no) (λp _=>by rw [zzl];exact Kb p) (λp hp acc s hl=>by
   have l:acc.length<dF:=zzV (m:=50) (by omega) (by decide)
   have e:=hs aa w L sl cl pr V r c p.1 p.2 h (lp.1 hp).2
   cases hq:cW aa sl cl pr r c p.1 p.2 with
   |none=>
    rw [hq] at e;have e5:fQ .aC .aC=.ok (.bl false):=rfl
    simp! [oP] at e;exact⟨(.val (E2 p),.val .aC),by simp! only [MY,e,e5,Option.toList_none,zz6]⟩
   |some v=>
    rw [hq] at e;have e5:fQ (.int v) .aC=.ok (.bl true):=rfl
    simp! [oP] at e;exact⟨(.val (E2 p),.val (.int v)),by simp! only [MY,e,e5,Option.toList_some,l];rfl⟩) (by
   have:=qA aa r c
   show 0+1*_<=50
   omega)
  have k:af [r,c]=sp r c:=rfl
  simp! only [MY] at e;simp! only [k,bo,hn aa L.rZ r c h,hb aa L.rZ r c r0 r6 c0 c6,e,zf,List.map_flatMap]
 ·have:=qA aa r c
  have key:∀l:List (Int×Int),(l.flatMap λp=>(cW aa sl cl pr r c p.1 p.2).toList.map λe=>(([p.1,p.2]:List Int),e)).length<=l.length:=by
   intro l
   induction l with
   |nil=>exact zzE _
   |cons p l ih=>
    have:=Kb p
    simp! [List.flatMap_cons,zzM,zzL];omega
  exact zzU (key _) this
 ·intro v e;simp! [List.mem_flatMap,zzx,Option.mem_toList,Option.mem_def,Prod.mk.injEq]
  constructor
  ·rintro ⟨p,hp,e',he,rfl,rfl⟩
   exact⟨r,c,p.1,p.2,rfl,rfl,h,(lp.1 hp).2,he⟩
  ·rintro ⟨a,b,r',c',hu,rfl,_,ho,he⟩
   cases hu;refine⟨(r',c'),lp.2 ⟨λhf=>?_,ho⟩,e,he,rfl,rfl⟩
   rw [show cW aa sl cl pr r c r' c'=none from if_pos hf] at he;cases he
theorem iC:∀k:List Int,intsOf (k.map .int)=some k
 |[]=>rfl
 |i::k=>by simp! [zzF,intsOf,iC k,Option.map_some]
def dA(k:List Int):fh (af k)=some k:=iC k
theorem bg{α:Type}:∀{ks:List (List Int)} {vs:List α} (k:List Int),ks.length=vs.length->cD ks k=(au ks vs k).isSome
 |[],[],_,_=>rfl
 |k'::ks,v::vs,k,h=>by
  have ih:=bg (ks:=ks) (vs:=vs) k (by simpa using h)
  by_cases e:k'=k
  ·simp [cD,au,e]
  ·simp! [cD] at ih;simp [cD,au,e,ih]
theorem gh{α β:Type}(f:α->β):∀(ks:List (List Int)) (vs:List α) (k:List Int),au ks (vs.map f) k=(au ks vs k).map f
 |[],_,_=>by simp [au]
 |_::_,[],_=>by simp [au]
 |k'::ks,v::vs,k=>by
  simp! [zzF,au,gh f ks vs k];split<;>rfl
theorem kq{α β:Type}(f:α->β):∀(ks:List (List Int)) (vs:List α) (k:List Int),aQ ks (vs.map f) k=(aQ ks vs k).map f
 |[],_,_=>by simp [aQ]
 |_::_,[],_=>by simp [aQ]
 |k'::ks,v::vs,k=>by
  simp! [zzF,aQ,kq f ks vs k];split<;>rfl
def ja{α β:Type}(f:α->β)(ks:List (List Int))(vs:List α)(k:List Int)(p:α):bf ks (vs.map f) k (f p)=(bf ks vs k p).map f:=by
 unfold bf;split
 ·rw [List.zipWith_map_right,List.map_zipWith]
  congr 1
  funext a b
  split<;>rfl
 ·simp
theorem qx{α:Type}(k:List Int)(p:α):∀(ks:List (List Int)) (vs:List α) (x:List Int),au ks (List.zipWith (λk' v=>if k'=k then p else v) ks vs) x=(au ks vs x).map λv=>if x=k then p else v
 |[],_,_=>by simp [au]
 |_::_,[],_=>by simp [au]
 |k'::ks,v::vs,x=>by
  simp! [List.zipWith_cons_cons,au,qx k p ks vs x]
  by_cases e:k'=x
  ·subst e;simp
  ·simp [e]
theorem nR{α:Type}(k:List Int)(p:α):∀(ks:List (List Int)) (vs:List α) (x:List Int),ks.length=vs.length->au (ks++[k]) (vs++[p]) x=(au ks vs x).or (if k=x then some p else none)
 |[],[],x,_=>by simp [au]
 |k'::ks,v::vs,x,h=>by
  simp! [List.cons_append,au,nR k p ks vs x (by simpa using h)];split<;>simp
def br{α:Type}{ks:List (List Int)}{vs:List α}(h:ks.length=vs.length)(k:List Int)(p:α)(x:List Int):au (bA ks k) (bf ks vs k p) x=if k=x then some p else au ks vs x:=by
 have hh:=bg (vs:=vs) k h
 unfold bA bf;cases hk:cD ks k with
 |true=>
  rw [hk] at hh;simp! [if_true,qx]
  by_cases e:k=x
  ·subst e;obtain⟨v,hv⟩:=zzp.1 hh.symm
   simp [hv]
  ·rw [if_neg e];have e':¬x=k:=λz=>e z.symm
   cases au ks vs x<;>simp [e']
 |false=>
  rw [hk] at hh;simp! [zze,if_false,nR k p ks vs x h]
  by_cases e:k=x
  ·subst e;have:au ks vs k=none:=by simpa using hh.symm
   simp [this]
  ·simp [e]
def k8{α:Type}{ks:List (List Int)}{vs:List α}(h:ks.length=vs.length)(k:List Int)(p:α):(bA ks k).length=(bf ks vs k p).length:=by
 unfold bA bf;split<;>simp [h]
def xx(ks:List (List Int))(k:List Int):(bA ks k).length<=ks.length+1:=by
 unfold bA;split<;>simp
def cO{ks:List (List Int)}{k:List Int}:cD ks k=true↔k∈ks:=by
 simp [cD]
def gC{ks:List (List Int)}(h:ks.Nodup)(k:List Int):(bA ks k).Nodup:=by
 unfold bA;split
 ·exact h
 ·rename_i hk;rw [cO] at hk;refine List.nodup_append.2 ⟨h,by simp,?_⟩;intro a ha b hb e;rw [zzi] at hb;exact hk (hb▸e▸ha)
theorem dS{α:Type}(k:List Int):∀(ks:List (List Int)) (vs:List α) (x:List Int),ks.length=vs.length->au (bU ks k) (aQ ks vs k) x=if k=x then none else au ks vs x
 |[],[],x,_=>by simp [bU,aQ,au]
 |k'::ks,v::vs,x,h=>by
  have ih:=dS k ks vs x (by simpa using h)
  simp! [bU] at ih
  by_cases e:k'=k
  ·subst e;simp! [bU,aQ,au,zz3,ne_eq,not_true_eq_false,decide_false,zze,if_false,if_true,ih];split<;>simp_all
  ·simp! [bU,aQ,au,zz3,ne_eq,e,not_false_eq_true,decide_true,if_true,if_false]
   by_cases e2:k'=x
   ·subst e2;have:¬k=k':=λz=>e z.symm
    simp [au,this]
   ·simp! [au,e2,if_false];exact ih
theorem nU{α:Type}(k:List Int):∀(ks:List (List Int)) (vs:List α),ks.length=vs.length->(bU ks k).length=(aQ ks vs k).length
 |[],[],_=>rfl
 |k'::ks,v::vs,h=>by
  have ih:=nU k ks vs (by simpa using h)
  simp! [bU] at ih
  by_cases e:k'=k
  ·simpa [bU,aQ,e] using ih
  ·simpa [bU,aQ,e] using ih
theorem uO{α:Type}:∀{ks:List (List Int)} {vs:List α} {i:Nat} {k:List Int} {q:α},ks.Nodup->ks[i]?=some k->vs[i]?=some q->au ks vs k=some q
 |[],_,_,_,_,_,h,_=>by simp at h
 |_::_,[],_,_,_,_,_,h=>by simp at h
 |k'::ks,v::vs,0,k,q,_,h1,h2=>by
  simp! [List.getElem?_cons_zero,Option.some.injEq] at h1 h2;simp [au,h1,h2]
 |k'::ks,v::vs,i+1,k,q,nd,h1,h2=>by
  simp! [List.getElem?_cons_succ] at h1 h2;have Qm:=List.nodup_cons.1 nd
  have:¬k'=k:=λz=>Qm.1 (z▸zzD h1)
  simp! [au,this,if_false];exact uO Qm.2 h1 h2
theorem qU{α:Type}:∀{ks:List (List Int)} {vs:List α} {k:List Int} {q:α},au ks vs k=some q->q∈vs
 |[],_,_,_,h=>by simp [au] at h
 |_::_,[],_,_,h=>by simp [au] at h
 |k'::ks,v::vs,k,q,h=>by
  simp! [au] at h;split at h
  ·cases h;exact zzP ..
  ·exact zzI _ (qU h)
theorem je:∀(cs:List Int) (b:Nat) (m:Int) (pre:List Int),pre[b]?=some m->(∀x∈pre,m<=x)->∃y,(pre++cs)[e9 cs pre.length b m]?=some y/\∀x∈pre++cs,y<=x
 |[],b,m,pre,h1,h2=>⟨m,by simpa [e9] using h1,by simpa using h2⟩
 |c::cs,b,m,pre,h1,h2=>by
  have hb:=(zzH.1 h1).1
  simp! [e9];have hl:pre.length+1=(pre++[c]).length:=by simp
  split
  ·rename_i hc;have:=je cs pre.length c (pre++[c]) (by simp) (λx hx=>by
    simp! [List.mem_append,zzi] at hx;rcases hx with hx|hx
    ·have:=h2 x hx;omega
    ·omega)
   rw [<-hl] at this
   simpa using this
  ·rename_i hc;have:=je cs b m (pre++[c]) (by rw [zzr hb];exact h1) (λx hx=>by
    simp! [List.mem_append,zzi] at hx;rcases hx with hx|hx
    ·exact h2 x hx
    ·omega)
   rw [<-hl] at this
   simpa using this
def DI{cs:List Int}(h:cs≠[]):∃i y,AW cs=some i/\cs[i]?=some y/\∀x∈cs,y<=x:=by
 cases cs with
 |nil=>exact absurd rfl h
 |cons c cs=>
  obtain⟨y,h1,h2⟩:=je cs 0 c [c] rfl (by simp)
  exact⟨_,y,rfl,h1,h2⟩
abbrev val(q:Int×PV):PV:=.tup [.int q.1,q.2]
theorem nD:∀V:List (Int×PV),iq (V.map val)=some (V.map (·.1))
 |[]=>rfl
 |q::V=>by simp! [zzF,iq,nD V,Option.map_some]
def wo{ks:List (List Int)}{V:List (Int×PV)}(h:ks.length=V.length)(nd:ks.Nodup)(g9:ks≠[]):∃k q,((AW (V.map (·.1))).bind λx=>ks[x]?)=some k/\au ks V k=some q/\∀x q',au ks V x=some q'->q.1<=q'.1:=by
 have hV:V.map (·.1)≠[]:=by
  intro z;rw [List.map_eq_nil_iff] at z;rw [z] at h;exact g9 (List.eq_nil_of_length_eq_zero h)
 obtain⟨i,y,h1,h2,h3⟩:=DI hV
 rw [zzQ,zzJ] at h2;obtain⟨q,hq,rfl⟩:=h2
 have hi:=(zzH.1 hq).1
 have hk:ks[i]?=some (ks[i]'(by omega)):=zzg _
 refine⟨_,q,by rw [h1];exact hk,uO nd hk hq,λx q' hx=>h3 _ (zzx.2 ⟨q',qU hx,rfl⟩)⟩
inductive dD(E:List Int->List Int->Int->Prop)(s:List Int):List Int->Int->Prop
 |here:dD E s s 0
 |go {u v:List Int} {d e:Int}:dD E s u d->E u v e->dD E s v (d+e)
abbrev Ks:=List (List Int)
abbrev Vs:=List (Int×PV)
def Kn(kr:Ks)(Vr:Vs)(kw:Ks)(Vw:Vs)(k:List Int)(c:Int):Prop:=(∃q,au kr Vr k=some q/\q.1<=c)\/∃q,au kw Vw k=some q/\q.1<=c
structure qe(E:List Int->List Int->Int->Prop)(O:List Int->Prop)(s:List Int)(kr:Ks)(Vr:Vs)(kw:Ks)(Vw:Vs)(X:List Int->List Int->Int->Prop)(n:Nat)(b:Int):Prop where
 lr:kr.length=Vr.length
 lw:kw.length=Vw.length
 nw:kw.Nodup
 JJ:∀k q q',au kr Vr k=some q->au kw Vw k=some q'->False
 wr:∀k q,au kr Vr k=some q->O k/\dD E s k q.1
 ww:∀k q,au kw Vw k=some q->O k/\dD E s k q.1
 mono:∀k q k' q',au kr Vr k=some q->au kw Vw k'=some q'->q.1<=q'.1
 il:∀u q,au kr Vr u=some q->∀v e,X u v e->Kn kr Vr kw Vw v (q.1+e)
 st:Kn kr Vr kw Vw s 0
 cw:kw.length<=n
 pre:∀k q,au kr Vr k=some q\/au kw Vw k=some q->(q.2=.aC/\k=s/\q.1=0)\/∃y q' e,q.2=af y/\au kr Vr y=some q'/\E y k e/\q.1=q'.1+e
 bd:∀k q,au kr Vr k=some q\/au kw Vw k=some q->0<=q.1/\q.1<=b
 nr:kr.Nodup
def Kn.put{kr:Ks}{Vr:Vs}{kw:Ks}{Vw:Vs}(h:kw.length=Vw.length){v:List Int}{c:Int}{p:PV}(hv:∀q,au kw Vw v=some q->c<=q.1){k:List Int}{x:Int}(H:Kn kr Vr kw Vw k x):Kn kr Vr (bA kw v) (bf kw Vw v (c,p)) k x:=by
 rcases H with H|⟨q,h1,h2⟩
 ·exact .inl H
 ·refine .inr ?_;rw [br h]
  by_cases e:v=k
  ·subst e;exact⟨(c,p),if_pos rfl,Int.le_trans (hv q h1) h2⟩
  ·exact⟨q,by rw [if_neg e];exact h1,h2⟩
def qe.put{E:List Int->List Int->Int->Prop}{O:List Int->Prop}{s:List Int}{kr:Ks}{Vr:Vs}{kw:Ks}{Vw:Vs}{X:List Int->List Int->Int->Prop}{n:Nat}{b:Int}(M:qe E O s kr Vr kw Vw X n b){u v:List Int}{d e:Int}{p0:PV}(hu:au kr Vr u=some (d,p0))(hd:∀k q,au kr Vr k=some q->q.1<=d)(he:E u v e)(h0:0<e)(hb:d+e<=b)(ho:O v)
 (hv:au kr Vr v=none) (hw:∀q,au kw Vw v=some q->d+e<=q.1):qe E O s kr Vr (bA kw v) (bf kw Vw v (d+e,af u)) (λa b c=>X a b c\/a=u/\b=v/\c=e) (n+1) b where
 lr:=M.lr
 lw:=k8 M.lw _ _
 nw:=gC M.nw _
 JJ:=λk q q' h1 h2=>by
  rw [br M.lw] at h2;split at h2
  ·rename_i z;subst z;rw [hv] at h1;cases h1
  ·exact M.JJ k q q' h1 h2
 wr:=M.wr
 ww:=λk q h=>by
  rw [br M.lw] at h;split at h
  ·rename_i z;subst z;cases h;exact⟨ho,.go (M.wr u _ hu).2 he⟩
  ·exact M.ww k q h
 mono:=λk q k' q' h1 h2=>by
  rw [br M.lw] at h2;split at h2
  ·cases h2;have:=hd k q h1;show q.1<=d+e;omega
  ·exact M.mono k q k' q' h1 h2
 il:=λa q h1 b c hx=>by
  rcases hx with hx|⟨rfl,rfl,rfl⟩
  ·exact(M.il a q h1 b c hx).put M.lw hw
  ·rw [hu] at h1;cases h1;exact .inr ⟨(d+c,af a),by rw [br M.lw,if_pos rfl],Int.le_refl _⟩
 st:=M.st.put M.lw hw
 cw:=by have:=xx kw v;have:=M.cw;omega
 pre:=λk q h=>by
  rcases h with h|h
  ·exact M.pre k q (.inl h)
  ·rw [br M.lw] at h;split at h
   ·rename_i z;subst z;cases h;exact .inr ⟨u,(d,p0),e,rfl,hu,he,rfl⟩
   ·exact M.pre k q (.inr h)
 bd:=λk q h=>by
  rcases h with h|h
  ·exact M.bd k q (.inl h)
  ·rw [br M.lw] at h;split at h
   ·cases h;have:=(M.bd u _ (.inl hu)).1;exact⟨by show 0<=d+e;omega,hb⟩
   ·exact M.bd k q (.inr h)
 nr:=M.nr
def qe.keep{E:List Int->List Int->Int->Prop}{O:List Int->Prop}{s:List Int}{kr:Ks}{Vr:Vs}{kw:Ks}{Vw:Vs}{X Y:List Int->List Int->Int->Prop}{n m:Nat}{b b':Int}(M:qe E O s kr Vr kw Vw X n b)(hm:n<=m)(hb:b<=b')(h:∀u q,au kr Vr u=some q->∀v e,Y u v e->Kn kr Vr kw Vw v (q.1+e)):qe E O s kr Vr kw Vw Y m b':=
 ⟨M.lr,M.lw,M.nw,M.JJ,M.wr,M.ww,M.mono,h,M.st,zzU M.cw hm,M.pre,λk q z=>⟨(M.bd k q z).1,Int.le_trans (M.bd k q z).2 hb⟩,M.nr⟩
def Kn.move{kr:Ks}{Vr:Vs}{kw:Ks}{Vw:Vs}(hr:kr.length=Vr.length)(hw:kw.length=Vw.length){k:List Int}{q0:Int×PV}(h0:au kw Vw k=some q0)(hk:au kr Vr k=none){x:List Int}{c:Int}(H:Kn kr Vr kw Vw x c):Kn (bA kr k) (bf kr Vr k q0) (bU kw k) (aQ kw Vw k) x c:=by
 unfold Kn;rw [br hr,dS k kw Vw x hw]
 by_cases e:k=x
 ·subst e;rcases H with⟨q,h1,_⟩|⟨q,h1,h2⟩
  ·rw [hk] at h1;cases h1
  ·rw [h0] at h1;cases h1;exact .inl ⟨q0,if_pos rfl,h2⟩
 ·simp! [e,if_false];exact H
def qe.move{E:List Int->List Int->Int->Prop}{O:List Int->Prop}{s:List Int}{kr:Ks}{Vr:Vs}{kw:Ks}{Vw:Vs}{n:Nat}{b:Int}(M:qe E O s kr Vr kw Vw E n b){k:List Int}{q0:Int×PV}(h0:au kw Vw k=some q0)(hl:∀x q',au kw Vw x=some q'->q0.1<=q'.1):
 qe E O s (bA kr k) (bf kr Vr k q0) (bU kw k) (aQ kw Vw k) (λa b c=>E a b c/\a≠k) n b/\au (bA kr k) (bf kr Vr k q0) k=some q0/\∀x q,au (bA kr k) (bf kr Vr k q0) x=some q->q.1<=q0.1:=by
 have hk:au kr Vr k=none:=by
  cases h:au kr Vr k with
  |none=>rfl
  |some q=>exact(M.JJ k q q0 h h0).elim
 have old:∀x q,au (bA kr k) (bf kr Vr k q0) x=some q\/au (bU kw k) (aQ kw Vw k) x=some q->au kr Vr x=some q\/au kw Vw x=some q:=λx q h=>by
  rcases h with h|h
  ·rw [br M.lr] at h;split at h
   ·rename_i z;subst z;cases h;exact .inr h0
   ·exact .inl h
  ·rw [dS k kw Vw x M.lw] at h;split at h
   ·cases h
   ·exact .inr h
 refine⟨?_,by rw [br M.lr,if_pos rfl],λx q h=>?_⟩
 ·refine⟨k8 M.lr _ _,nU k kw Vw M.lw,M.nw.filter _,λx q q' h1 h2=>?_,λx q h=>?_,λx q h=>?_,λx q x' q' h1 h2=>?_,λu q h1 v e hx=>?_,M.st.move M.lr M.lw h0 hk,zzU (List.length_filter_le ..) M.cw,λx q h=>?_,λx q h=>M.bd x q (old x q h),gC M.nr _⟩
  ·rw [br M.lr] at h1;rw [dS k kw Vw x M.lw] at h2;split at h2
   ·cases h2
   ·rename_i z;rw [if_neg z] at h1;exact M.JJ x q q' h1 h2
  ·rw [br M.lr] at h;split at h
   ·rename_i z;subst z;cases h;exact M.ww k _ h0
   ·exact M.wr x q h
  ·rw [dS k kw Vw x M.lw] at h;split at h
   ·cases h
   ·exact M.ww x q h
  ·rw [br M.lr] at h1;rw [dS k kw Vw x' M.lw] at h2;split at h2
   ·cases h2
   ·split at h1
    ·cases h1;exact hl x' q' h2
    ·exact M.mono x q x' q' h1 h2
  ·rw [br M.lr,if_neg (λz=>hx.2 z.symm)] at h1;exact(M.il u q h1 v e hx.1).move M.lr M.lw h0 hk
  ·rcases M.pre x q (old x q h) with z|⟨y,q',e,z1,z2,z3⟩
   ·exact .inl z
   ·refine .inr ⟨y,q',e,z1,?_,z3⟩;rw [br M.lr,if_neg (λz=>by rw [<-z,hk] at z2;cases z2)];exact z2
 ·rw [br M.lr] at h;split at h
  ·cases h;exact Int.le_refl _
  ·exact M.mono x q k q0 h h0
def xJ{ks:Ks}{V:Vs}{k:List Int}{q:Int×PV}(h:au ks V k=some q):aE (.bw ks (V.map val)) (af k)=.ok (val q):=by
 show(Res.of (fh (af k))).bind (λk=>Res.of (au ks (V.map val) k))=_
 rw [dA];show Res.of (au ks (V.map val) k)=_
 rw [gh,h]
 rfl
theorem tG{q:Int×PV}:aE (val q) (.int 0)=.ok (.int q.1):=rfl
def mf{ks:Ks}{vs:List PV}{k:List Int}:iW (af k) (.bw ks vs)=.ok (.bl (!cD ks k)):=by
 show(Res.of (fh (af k))).bind (λk=>Res.ok (PV.bl (!cD ks k)))=_
 rw [dA]
 rfl
theorem N2{ks:Ks}{vs:List PV}:dN .len [.bw ks vs]=.ok (.int ks.length):=rfl
noncomputable def wS:Ss:=#v[.set 8 (.bin .add (.sub (.sub (.eE 2) (!5)) (¬0)) (!7)),.ite (.and (.cmp .jX (!6) (.eE 2)) (.or (.cmp .jX (!6) (.eE 3)) (.cmp .lt (!8) (.sub (.sub (.eE 3) (!6)) (¬0))))) #v[.put 3 (!6) (.tup #v[!8,!5])] .nil]
noncomputable abbrev qz(gn:Str)(ix:List Nat)(cp:List PV)(z:PV)(kr:Ks)(Vr:Vs)(kw:Ks)(Vw:Vs)(s4 s5 s6 s7 s8:Ci.Slot):Sl:=[.val z,.fn gn ix cp,.own (.bw kr (Vr.map val)),.own (.bw kw (Vw.map val)),s4,s5,s6,s7,s8]
def vC(kw:Ks)(Vw:Vs)(v:List Int)(c:Int)(p:PV):bf kw (Vw.map val) v (.tup [.int c,p])=(bf kw Vw v (c,p)).map val:=ja val kw Vw v (c,p)
def Mj(F:aH){gn:Str}{ix:List Nat}{cp:List PV}{z:PV}{E:List Int->List Int->Int->Prop}{O:List Int->Prop}{s:List Int}{kr:Ks}{Vr:Vs}{kw:Ks}{Vw:Vs}{X:List Int->List Int->Int->Prop}{n:Nat}{b:Int}(M:qe E O s kr Vr kw Vw X n b)(hn:n<=3000){u v:List Int}{d e:Int}{p0:PV}(hu:au kr Vr u=some (d,p0))(hd:∀k q,au kr Vr k=some q->q.1<=d)(he:E u v e)(h0:0<e)(hb:d+e<=b)(ho:O v)(s4 s6 s7 s8:Ci.Slot):
 ∃Fe E3 GH IW F4,(((Tg.two 6 7).put (tK (v,e)) (qz gn ix cp z kr Vr kw Vw s4 (.val (af u)) s6 s7 s8)).bind λak=>aG F wS ak)=.ok (.nx (qz gn ix cp z kr Vr Fe E3 s4 (.val (af u)) GH IW F4))/\qe E O s kr Vr Fe E3 (λa b c=>X a b c\/a=u/\b=v/\c=e) (n+1) b:=by
 have e1:=xJ hu
 have l:kw.length<dF:=zzV (zzU M.cw hn) (by decide)
 have g1:=bg (vs:=Vr) v M.lr
 have g2:=bg (vs:=Vw) v M.lw
 cases hv:au kr Vr v with
 |some q=>
  rw [hv] at g1;have DO:cD kr v=true:=g1
  refine⟨kw,Vw,.val (af v),.val (.int e),.val (.int (d+e)),by simp! only [wS,qz,e1,tG,mf,DO],M.keep (Nat.le_succ n) (Int.le_refl _) ?_⟩
  rintro a q' ha b c (hx|⟨rfl,rfl,rfl⟩)
  ·exact M.il a q' ha b c hx
  ·rw [hu] at ha;cases ha;refine .inl ⟨q,hv,?_⟩;have:=hd _ q hv
   show q.1<=d+c
   omega
 |none=>
  rw [hv] at g1;have DO:cD kr v=false:=g1
  cases hw:au kw Vw v with
  |none=>
   rw [hw] at g2;have MH:cD kw v=false:=g2
   refine⟨_,_,.val (af v),.val (.int e),.val (.int (d+e)),?_,M.put hu hd he h0 hb ho hv (λq h=>by rw [hw] at h;cases h)⟩;simp! only [wS,qz,e1,tG,mf,DO,MH,dA,l,vC]
  |some q=>
   rw [hw] at g2;have MH:cD kw v=true:=g2
   have e2:=xJ hw
   by_cases cC:d+e<q.1
   ·refine⟨_,_,.val (af v),.val (.int e),.val (.int (d+e)),?_,M.put hu hd he h0 hb ho hv (λq' h=>by rw [hw] at h;cases h;omega)⟩;simp! only [wS,qz,e1,e2,tG,mf,DO,MH,cC,decide_true,dA,l,vC]
   ·refine⟨kw,Vw,.val (af v),.val (.int e),.val (.int (d+e)),by simp! only [wS,qz,e1,e2,tG,mf,DO,MH,cC,decide_false],M.keep (Nat.le_succ n) (Int.le_refl _) ?_⟩
    rintro a q' ha b c (hx|⟨rfl,rfl,rfl⟩)
    ·exact M.il a q' ha b c hx
    ·rw [hu] at ha;cases ha;exact .inr ⟨q,hw,by show q.1<=d+c;omega⟩
theorem Fz(F:aH){B:Int}{gn:Str}{ix:List Nat}{cp:List PV}{z:PV}{E:List Int->List Int->Int->Prop}{O:List Int->Prop}{s:List Int}{b:Int}(hE:∀u v e,E u v e->0<e/\e<=B/\O v){kr:Ks}{Vr:Vs}{u:List Int}{d:Int}{p0:PV}(hu:au kr Vr u=some (d,p0))(hd:∀k q,au kr Vr k=some q->q.1<=d)(KW:d+B<=b)(s4:Ci.Slot):
 ∀(T:List (List Int×Int)) (kw:Ks) (Vw:Vs) (X:List Int->List Int->Int->Prop) (n:Nat) (s6 s7 s8:Ci.Slot),(∀t∈T,E u t.1 t.2)->qe E O s kr Vr kw Vw X n b->n+T.length<=3000->∃Fe E3 GH IW F4,forL (λx env=>((Tg.two 6 7).put x env).bind λak=>aG F wS ak) (T.map tK) (qz gn ix cp z kr Vr kw Vw s4 (.val (af u)) s6 s7 s8)=.ok (.nx (qz gn ix cp z kr Vr Fe E3 s4 (.val (af u)) GH IW F4))/\qe E O s kr Vr Fe E3 (λa b c=>X a b c\/a=u/\(b,c)∈T) (n+T.length) b
 |[],kw,Vw,X,n,s6,s7,s8,_,M,_=>⟨kw,Vw,s6,s7,s8,rfl,M.keep (zzE _) (Int.le_refl _) (λa q ha b c hx=>M.il a q ha b c (hx.resolve_right λz=>by cases z.2))⟩
 |t::T,kw,Vw,X,n,s6,s7,s8,hT,M,hn=>by
  have ht:=hT t (zzP ..)
  rw [zzL] at hn;obtain⟨JX,Vw1,a6,a7,a8,e1,M1⟩:=Mj F (gn:=gn) (ix:=ix) (cp:=cp) (z:=z) M (by omega) hu hd ht (hE _ _ _ ht).1 (by have:=(hE _ _ _ ht).2.1;omega) (hE _ _ _ ht).2.2 s4 s6 s7 s8
  obtain⟨kw2,Vw2,b6,b7,b8,e2,M2⟩:=Fz F hE hu hd KW s4 T JX Vw1 _ (n+1) a6 a7 a8 (λx hx=>hT x (zzI _ hx)) M1 (by omega)
  refine⟨kw2,Vw2,b6,b7,b8,?_,M2.keep (by rw [zzL];omega) (Int.le_refl _) λa q ha b c hx=>M2.il a q ha b c ?_⟩
  ·rw [zzF,forL,e1,qg];exact e2
  ·rcases hx with hx|⟨h1,h2⟩
   ·exact .inl (.inl hx)
   ·rcases zzm.1 h2 with h2|h2
    ·exact .inl (.inr ⟨h1,by rw [<-h2],by rw [<-h2]⟩)
    ·exact .inr ⟨h1,h2⟩
def Bi(U kr:Ks):Nat:=(U.filter λx=>!cD kr x).length
def B6{U kr:Ks}{k:List Int}(hk:k∈U)(hn:cD kr k=false):Bi U (bA kr k)<Bi U kr:=by
 have hh:∀x,cD (bA kr k) x=(cD kr x||decide (x=k)):=by
  intro x;rw [Bool.eq_iff_iff,zzt,cO,cO,zzN];unfold bA;rw [hn];simp
 unfold Bi;simp! [hh]
 induction U with
 |nil=>cases hk
 |cons y U ih=>
  have mono:(U.filter λx=>!(cD kr x||decide (x=k))).length<=(U.filter λx=>!cD kr x).length:=by
   rw [<-List.countP_eq_length_filter,<-List.countP_eq_length_filter];refine List.countP_mono_left λx _ h=>?_
   simp! [Bool.not_or,zza] at h;exact h.1
  rw [zz3,zz3]
  by_cases e:y=k
  ·subst e;simp! [hn,decide_true,Bool.or_true,Bool.not_true,zze,if_false,Bool.not_false,if_true,zzL];omega
  ·have:=ih ((zzm.1 hk).resolve_left λz=>e z.symm)
   simp! [e,decide_false,Bool.or_false];cases cD kr y<;>simp! [Bool.not_true,Bool.not_false,zze,if_true,if_false,zzL]<;>omega
def wC:E:=.cmp .gt (.blt .len #v[.eE 3]) (¬0)
noncomputable def wB:Ss:=#v[.mn 5 3,.eh 2 3 5,.cM (.two 6 7) (.seq (.iH 1 #v[!5])) wS]
def EX(F:aH){B:Int}(hB:0<=B){gn:Str}{ix:List Nat}{cp:List PV}{z:PV}{as:List Int->List PV}(FT:ix.head?=some 1)(J5:∀u,fw (af u::cp) ix.tail=.ok (as u)){E:List Int->List Int->Int->Prop}{O:List Int->Prop}{s:List Int}{U:Ks}(hU:∀u,O u->u∈U)(J9:U.length<=36)(hE:∀u v e,E u v e->0<e/\e<=B/\O v)(ez:∀u,O u->∃T:List (List Int×Int),F gn (as u)=.ok (.lst (T.map tK))/\T.length<=60/\∀v e,(v,e)∈T↔E u v e)
 {kr:Ks} {Vr:Vs} {kw:Ks} {Vw:Vs} (M:qe E O s kr Vr kw Vw E (1+60*kr.length) (B*kr.length)) (hc:kr.length+Bi U kr<=U.length) (g9:kw≠[]) (s4 s5 s6 s7 s8:Ci.Slot):
 ∃sR L1 Fe E3 Od GH IW F4,aG F wB (qz gn ix cp z kr Vr kw Vw s4 s5 s6 s7 s8)=.ok (.nx (qz gn ix cp z sR L1 Fe E3 s4 Od GH IW F4))/\qe E O s sR L1 Fe E3 E (1+60*sR.length) (B*sR.length)/\sR.length+Bi U sR<=U.length/\Bi U sR<Bi U kr:=by
 obtain⟨k,q,h1,h2,h3⟩:=wo M.lw M.nw g9
 obtain⟨M1,h4,h5⟩:=M.move h2 h3
 obtain⟨ho,_⟩:=M.ww k q h2
 have hk:cD kr k=false:=by
  rw [bg (vs:=Vr) k M.lr];cases h:au kr Vr k with
  |none=>rfl
  |some q'=>exact(M.JJ k q' q h h2).elim
 have hl:(bA kr k).length=kr.length+1:=by unfold bA;rw [hk];simp
 have cC:=B6 (hU k ho) hk
 obtain⟨T,e1,hT,hT2⟩:=ez k ho
 obtain⟨d,p0⟩:=q
 obtain⟨kw2,Vw2,b6,b7,b8,e2,M2⟩:=Fz F (gn:=gn) (ix:=ix) (cp:=cp) (z:=z) (b:=B*kr.length+B) hE h4 h5 (by have:=(M.bd k (d,p0) (.inr h2)).2;show d+B<=_;omega) s4 T _ _ _ _ s6 s7 s8 (λt ht=>(hT2 t.1 t.2).1 ht) (M1.keep (zzE _) (by omega) M1.il) (by omega)
 refine⟨_,_,kw2,Vw2,.val (af k),b6,b7,b8,?_,M2.keep (by omega) (by rw [hl,Int.natCast_add,Int.mul_add];omega) (λa q ha b c hx=>M2.il a q ha b c ?_),by omega,cC⟩
 ·have l:kr.length<dF/\2≠3:=⟨zzV (m:=36) (by omega) (by decide),by decide⟩
  have gm:au kw (Vw.map val) k=some (val (d,p0)):=by rw [gh,h2];rfl
  have gp:bf kr (Vr.map val) k (val (d,p0))=(bf kr Vr k (d,p0)).map val:=ja val kr Vr k (d,p0)
  have ha:=J5 k
  simp! only [wS,qz] at e2;simp! only [wB,wS,qz,nD,h1,dA,gm,l,and_self,kq,gp,FT,ha,e1,e2,ne_eq,not_false_eq_true]
 ·by_cases e:a=k
  ·subst e;exact .inr ⟨rfl,(hT2 b c).2 hx⟩
  ·exact .inl ⟨hx,e⟩
theorem vK(F:aH){B:Int}(hB:0<=B){gn:Str}{ix:List Nat}{cp:List PV}{z:PV}{as:List Int->List PV}(FT:ix.head?=some 1)(J5:∀u,fw (af u::cp) ix.tail=.ok (as u)){E:List Int->List Int->Int->Prop}{O:List Int->Prop}{s:List Int}{U:Ks}(hU:∀u,O u->u∈U)(J9:U.length<=36)(hE:∀u v e,E u v e->0<e/\e<=B/\O v)(ez:∀u,O u->∃T:List (List Int×Int),F gn (as u)=.ok (.lst (T.map tK))/\T.length<=60/\∀v e,(v,e)∈T↔E u v e)(s4:Ci.Slot):
 ∀(n:Nat) (kr:Ks) (Vr:Vs) (kw:Ks) (Vw:Vs) (s5 s6 s7 s8:Ci.Slot),qe E O s kr Vr kw Vw E (1+60*kr.length) (B*kr.length)->kr.length+Bi U kr<=U.length->Bi U kr<n->∃sR L1 Td Od GH IW F4,dm (aD F wC) (aG F wB) n (qz gn ix cp z kr Vr kw Vw s4 s5 s6 s7 s8)=.ok (.nx [.val z,.fn gn ix cp,.own (.bw sR (L1.map val)),Td,s4,Od,GH,IW,F4])/\sR.length<=36/\∃m,qe E O s sR L1 [] [] E m (B*36)
 |0,_,_,_,_,_,_,_,_,_,_,h=>absurd h (Nat.not_lt_zero _)
 |n+1,kr,Vr,kw,Vw,s5,s6,s7,s8,M,hc,hn=>by
  have ec:aD F wC (qz gn ix cp z kr Vr kw Vw s4 s5 s6 s7 s8)=.ok (.bl (decide ((0:Int)<kw.length))):=by simp! only [wC,qz,N2]
  by_cases hk:kw=[]
  ·subst hk;have hv:Vw=[]:=List.eq_nil_of_length_eq_zero M.lw.symm
   subst hv;refine⟨kr,Vr,.own (.bw [] []),s5,s6,s7,s8,?_,by omega,_,M.keep (zzE _) (Int.mul_le_mul_of_nonneg_left (by omega) hB) M.il⟩;have:decide ((0:Int)<(([]:Ks).length:Nat))=false:=rfl
   rw [this] at ec;simp! [dm,ec,qg,JI,zze,if_false,qz]
   rfl
  ·obtain⟨kr1,Vr1,JX,Vw1,t5,t6,t7,t8,e1,M1,hc1,cC⟩:=EX F hB (gn:=gn) (z:=z) FT J5 hU J9 hE ez M hc hk s4 s5 s6 s7 s8
   obtain⟨kr2,Vr2,u3,u5,u6,u7,u8,e2,h2⟩:=vK F hB (gn:=gn) (z:=z) FT J5 hU J9 hE ez s4 n kr1 Vr1 JX Vw1 t5 t6 t7 t8 M1 hc1 (by omega)
   refine⟨kr2,Vr2,u3,u5,u6,u7,u8,?_,h2⟩;have:decide ((0:Int)<(kw.length:Nat))=true:=by
    have:=List.length_pos_iff.2 hk
    simp;omega
   rw [this] at ec;simp! [dm,ec,qg,JI,if_true,e1,e2]
structure j2(E:List Int->List Int->Int->Prop)(s:List Int)(kr:Ks)(Vr:Vs)(m:Int:=1080):Prop where
 len:kr.length=Vr.length
 le:kr.length<=36
 Ax:∀k q,au kr Vr k=some q->k.length=2/\dD E s k q.1
 il:∀u q,au kr Vr u=some q->∀v e,E u v e->∃q',au kr Vr v=some q'/\q'.1<=q.1+e
 st:∃q,au kr Vr s=some q/\q.1<=0
 pre:∀k q,au kr Vr k=some q->(q.2=.aC/\k=s/\q.1=0)\/∃y q' e,q.2=af y/\au kr Vr y=some q'/\E y k e/\q.1=q'.1+e
 bd:∀k q,au kr Vr k=some q->0<=q.1/\q.1<=m
 nr:kr.Nodup
noncomputable def FQ(gn:Str)(ix:List Nat):Def:=⟨["starts","steps","reached","waiting","start","spot","other","cost","together"],2,(.cons (.iN 2)
 (.cons (.iN 3)
 (.cons (.cM (.one 4) (.seq (.var 0))
  (.cons (.put 3 (.var 4) (.tup (.cons (.cst (.int 0)) (.cons (.cst .aC) .nil))))
  .nil))
 (.cons (.Bj (.cmp .gt (.blt .len (.cons (.eE 3) .nil)) (.cst (.int 0)))
  (.cons (.mn 5 3)
  (.cons (.eh 2 3 5)
  (.cons (.cM (.two 6 7) (.seq (.iH 1 (.cons (.var 5) .nil)))
   (.cons (.set 8 (.bin .add (.sub (.sub (.eE 2) (.var 5)) (.cst (.int 0))) (.var 7)))
   (.cons (.ite (.and (.cmp .jX (.var 6) (.eE 2)) (.or (.cmp .jX (.var 6) (.eE 3)) (.cmp .lt (.var 8) (.sub (.sub (.eE 3) (.var 6)) (.cst (.int 0))))))
    (.cons (.put 3 (.var 6) (.tup (.cons (.var 8) (.cons (.var 5) .nil))))
    .nil)
    .nil)
   .nil)))
  .nil))))
 (.cons (.bp 2)
 (.cons (.ret (.var 2))
 .nil)))))),some (gn,ix)⟩
def jj(F:aH)(gn:Str){B:Int}(hB:0<=B){ix:List Nat}{cp:List PV}{as:List Int->List PV}(FT:ix.head?=some 1)(J5:∀u,fw (af u::cp) ix.tail=.ok (as u)){E:List Int->List Int->Int->Prop}{O:List Int->Prop}{s:List Int}{U:Ks}(hU:∀u,O u->u∈U)(J9:U.length<=36)(h2:∀u,O u->u.length=2)(hE:∀u v e,E u v e->0<e/\e<=B/\O v)(ez:∀u,O u->∃T:List (List Int×Int),F gn (as u)=.ok (.lst (T.map tK))/\T.length<=60/\∀v e,(v,e)∈T↔E u v e)(hs:O s):
 ∃kr Vr,av F (FQ gn ix) (.lst [af s]::cp)=.ok (.bw kr (Vr.map val))/\j2 E s kr Vr (B*36):=by
 have g:∀x q,au [s] [((0:Int),PV.aC)] x=some q->s=x/\q=(0,.aC):=λx q h=>by
  simp! [au] at h;split at h
  ·rename_i z;cases h;exact⟨z,rfl⟩
  ·cases h
 have M:qe E O s [] [] [s] [(0,.aC)] E (1+60*([]:Ks).length) (B*(([]:Ks).length:Nat)):=⟨rfl,rfl,by simp,(λk q q' h=>by simp [au] at h),(λk q h=>by simp [au] at h),(λk q h=>by obtain⟨rfl,rfl⟩:=g k q h;exact⟨hs,.here⟩),(λk q k' q' h=>by simp [au] at h),(λu q h=>by simp [au] at h),.inr ⟨(0,.aC),by simp [au],Int.le_refl _⟩,by simp,(λk q h=>h.elim (λh=>by simp [au] at h) λh=>by obtain⟨z,rfl⟩:=g k q h;exact .inl ⟨rfl,z.symm,rfl⟩),(λk q h=>h.elim (λh=>by simp [au] at h) λh=>by obtain⟨_,rfl⟩:=g k q h;exact⟨Int.le_refl _,Int.le_of_eq (Int.mul_zero B).symm⟩),List.nodup_nil⟩
 have hl:Bi U []<=U.length:=List.length_filter_le ..
 obtain⟨kr,Vr,u3,u5,u6,u7,u8,e,h3,m,M'⟩:=vK F hB (gn:=gn) (z:=.lst [af s]) FT J5 hU J9 hE ez (.val (af s)) WN [] [] [s] [(0,.aC)] .no .no .no .no M (by simpa using hl) (zzV (zzU hl J9) (by decide))
 refine⟨kr,Vr,?_,M'.lr,h3,λk q h=>⟨h2 k (M'.wr k q h).1,(M'.wr k q h).2⟩,λu q h v c hx=>?_,?_,?_,?_,?_⟩
 ·have l:(0:Nat)<dF:=by decide
  have p1:bA [] s=[s]:=rfl
  have p2:∀p:PV,bf ([]:Ks) [] s p=[p]:=λp=>rfl
  have a2:List.take 1 (PV.lst [af s]::cp)=[.lst [af s]]:=rfl
  have a3:List.drop 1 (PV.lst [af s]::cp)=cp:=rfl
  simp! only [wC,wB,wS,qz] at e;simp! only [FQ,a2,a3,forL,dA,l,p1,p2,e,zf];exact if_pos rfl
 ·rcases M'.il u q h v c hx with h|⟨q',h,_⟩
  ·exact h
  ·simp [au] at h
 ·rcases M'.st with h|⟨q',h,_⟩
  ·exact h
  ·simp [au] at h
 ·exact λk q h=>M'.pre k q (.inl h)
 ·exact λk q h=>M'.bd k q (.inl h)
 ·exact M'.nr
def AH{α:Type}(xs:List α)(x:α):pS (xs++[x]) (-1)=some x:=by
 unfold pS E8;have h1:¬(0:Int)<= -1:=by decide
 have h2: -((xs++[x]).length:Int)<= -1:=by simp! [zzM,List.length_singleton];omega
 rw [if_neg h1,if_pos h2];have h3:(-1+((xs++[x]).length:Int)).toNat=xs.length:=by simp! [zzM,List.length_singleton];omega
 rw [h3];simp
theorem IG{q:Int×PV}:aE (val q) (.int 1)=.ok q.2:=rfl
def J8:E:=.cmp .xZ (.sub (.sub (!0) (.sub (.eE 2) (.neg (¬1)))) (¬1)) (.cst .aC)
def MR:Ss:=#v[.app 2 (.sub (.sub (!0) (.sub (.eE 2) (.neg (¬1)))) (¬1))]
def vo(xs:List PV)(x:PV):aE (.lst (xs++[x])) (.int (-1))=.ok x:=by
 simp! [aE,AH]
 rfl
inductive rY(E:List Int->List Int->Int->Prop)(s:List Int):List Int->Ks->Int->Prop
 |here:rY E s s [s] 0
 |go {u v:List Int} {l:Ks} {d e:Int}:rY E s u l d->E u v e->rY E s v (v::l) (d+e)
theorem vy(F:aH){E:List Int->List Int->Int->Prop}{s:List Int}{kr:Ks}{Vr:Vs}{m:Int}(R:j2 E s kr Vr m)(hE:∀u v e,E u v e->0<e)(z:PV):∀(n:Nat) (xs:List PV) (y:List Int) (q:Int×PV),au kr Vr y=some q->q.1<n->(xs.length:Int)+q.1<=50000->∃l,dm (aD F J8) (aG F MR) n [.val (.bw kr (Vr.map val)),.val z,.own (.lst (xs++[af y]))]=.ok (.nx [.val (.bw kr (Vr.map val)),.val z,.own (.lst (xs++l.map af))])/\rY E s y l q.1
 |0,xs,y,q,h,hn,_=>by have:=(R.bd y q h).1;omega
 |n+1,xs,y,q,h,hn,hl=>by
  have e1:=vo xs (af y)
  have e2:=xJ h
  have b0:=(R.bd y q h).1
  have l:(xs++[af y]).length<dF:=zzV (m:=60000) (by rw [zzM,List.length_singleton];omega) (by decide)
  rcases R.pre y q h with⟨p,rfl,h0⟩|⟨y',q',e,p,h',he,hq⟩
  ·refine⟨[y],?_,by rw [h0];exact .here⟩;have e5:fQ .aC .aC=.ok (.bl false):=rfl
   have ec:aD F J8 [.val (.bw kr (Vr.map val)),.val z,.own (.lst (xs++[af y]))]=.ok (.bl false):=by simp! only [J8,e1,e2,IG,p,e5]
   simp! [dm,ec,qg,JI,zze,if_false]
   rfl
  ·have e5:fQ (af y') .aC=.ok (.bl true):=rfl
   have ec:aD F J8 [.val (.bw kr (Vr.map val)),.val z,.own (.lst (xs++[af y]))]=.ok (.bl true):=by simp! only [J8,e1,e2,IG,p,e5]
   have eb:aG F MR [.val (.bw kr (Vr.map val)),.val z,.own (.lst (xs++[af y]))]=.ok (.nx [.val (.bw kr (Vr.map val)),.val z,.own (.lst (xs++[af y]++[af y']))]):=by simp! only [MR,e1,e2,IG,p,l]
   have hp:=hE _ _ _ he
   obtain⟨l',e',t⟩:=vy F R hE z n (xs++[af y]) y' q' h' (by omega) (by rw [zzM,List.length_singleton];omega)
   refine⟨y::l',?_,by rw [hq];exact .go t he⟩;simp! [dm,ec,qg,JI,if_true,eb,e'];simp
def nj(F:aH){E:List Int->List Int->Int->Prop}{s:List Int}{kr:Ks}{Vr:Vs}{m:Int}(R:j2 E s kr Vr m)(hE:∀u v e,E u v e->0<e)(hm:m<=40000:=by decide){k:List Int}{q:Int×PV}(hq:au kr Vr k=some q):∃l:Ks,av F dU [.bw kr (Vr.map val),af k]=.ok (.lst (l.map af))/\rY E s k l q.1:=by
 have hb:=Int.le_trans (R.bd k q hq).2 hm
 obtain⟨l,e,hu⟩:=vy F R hE (af k) WN [] k q hq (Int.lt_of_le_of_lt hb (by decide)) (by simp;omega)
 refine⟨l,?_,hu⟩;simp! only [J8,MR,List.nil_append] at e;simp! only [dU,e,zf]
abbrev Tp(L:Ks):Prop:=L.Pairwise λa b=>HT.lexLt a b=true
def range_getD{α:Type}(d:α)(l:List α):(List.range l.length).map (λi=>l.getD i d)=l:=by
 refine List.ext_getElem (by simp) λi h1 h2=>?_
 simp [zzK,zzg h2]
theorem vx:∀(n:Nat) (a b:List Int),eqs (js n) (a.map .int) (b.map .int)=decide (a=b)
 |_,[],[]=>rfl
 |_,[],_::_=>rfl
 |_,_::_,[]=>rfl
 |n,x::a,y::b=>by
  have:js n (.int x) (.int y)=(x==y):=by cases n<;>rfl
  simp! [zzF,eqs,vx n a b,this];rw [Bool.eq_iff_iff];simp
def md(n:Nat)(a b:List Int):js (n+1) (af a) (af b)=decide (a=b):=vx n a b
theorem mi:∀(n:Nat) (a b:Ks),eqs (js (n+1)) (a.map af) (b.map af)=decide (a=b)
 |_,[],[]=>rfl
 |_,[],_::_=>rfl
 |_,_::_,[]=>rfl
 |n,x::a,y::b=>by
  simp! [zzF,eqs,mi n a b,md];rw [Bool.eq_iff_iff];simp
def uy(n:Nat)(a:List Int):(a.map PV.int).all (Ci.plain n)=true:=by
 simp! [zzT,zzx]
 rintro x ⟨i,_,rfl⟩
 cases n<;>rfl
def ik(n:Nat)(a:List Int):Ci.plain (n+1) (af a)=true:=uy n a
def pq(n:Nat)(a:Ks):(a.map af).all (Ci.plain (n+1))=true:=by
 simp! [zzT,zzx]
 rintro x ⟨i,_,rfl⟩
 exact ik n i
def j8(n:Nat)(a:Ks):Ci.plain (n+2) (.lst (a.map af))=true:=pq n a
def SV(a b:Ks):iB (.lst (a.map af)) (.lst (b.map af))=.ok (.bl (decide (a=b))):=by
 show(if(Ci.plain 9 (.lst (a.map af))&&Ci.plain 9 (.lst (b.map af)))=true then Res.ok (PV.bl (js 9 (.lst (a.map af)) (.lst (b.map af)))) else .bad)=_
 rw [j8 7,j8 7];exact congrArg (λz=>Res.ok (PV.bl z)) (mi 7 a b)
def Nd(a b:Ks):hW (.lst (a.map af)) (.lst (b.map af))=.ok (.bl (!decide (a=b))):=by
 show(if(Ci.plain 9 (.lst (a.map af))&&Ci.plain 9 (.lst (b.map af)))=true then Res.ok (PV.bl (!js 9 (.lst (a.map af)) (.lst (b.map af)))) else .bad)=_
 rw [j8 7,j8 7];exact congrArg (λz=>Res.ok (PV.bl (!z))) (mi 7 a b)
def mem_keys(k:List Int)(L:Ks):pU (af k) (L.map af)=decide (k∈L):=by
 unfold pU;rw [List.any_map,Bool.eq_iff_iff,zzj,zzN]
 constructor
 ·rintro ⟨x,hx,e⟩
  have:decide (x=k)=true:=(md 8 x k).symm.trans e
  exact zzY this▸hx
 ·intro h;exact⟨k,h,(md 8 k k).trans (zzh rfl)⟩
def NW(k:List Int)(L:Ks):iW (af k) (.lst (L.map af))=.ok (.bl (!decide (k∈L))):=by
 show(if(Ci.plain 9 (af k)&&(L.map af).all (Ci.plain 9))=true then Res.ok (PV.bl (!pU (af k) (L.map af))) else .bad)=_
 rw [ik 8,pq 8,mem_keys]
 rfl
def Qd(k:List Int)(L:Ks):sH (af k) (.lst (L.map af))=.ok (.bl (decide (k∈L))):=by
 show(if(Ci.plain 9 (af k)&&(L.map af).all (Ci.plain 9))=true then Res.ok (PV.bl (pU (af k) (L.map af))) else .bad)=_
 rw [ik 8,pq 8,mem_keys]
 rfl
def dP(aa:List Str)(u:List Int):Prop:=∃r c,u=[r,c]/\bV aa r c=true
def K1:Ks:=(List.range 6).flatMap λ(r:Nat)=>(List.range 6).map λ(c:Nat)=>[(r:Int),(c:Int)]
def pP:K1.length=36:=by decide
def N9{aa:List Str}{w:Nat}(L:Fl aa w){u:List Int}(h:dP aa u):u∈K1:=by
 obtain⟨r,c,rfl,h⟩:=h
 obtain⟨a,b,d,e⟩:=Fg L h
 refine List.mem_flatMap.2 ⟨r.toNat,List.mem_range.2 (by omega),zzx.2 ⟨c.toNat,List.mem_range.2 (by omega),?_⟩⟩;rw [Int.toNat_of_nonneg a,Int.toNat_of_nonneg d]
def fE{aa:List Str}{sl:Bool}{cl pr r c r' c' e:Int}:cW aa sl cl pr r c r' c'=some e↔¬gD r c r' c'/\(r≠r'/\c≠c'->sl=true/\bV aa r c'=true/\bV aa r' c=true)/\cm aa r' c'-cm aa r c<=cl/\cm aa r c-cm aa r' c'<=cl/\e=(if r≠r'/\c≠c' then 3 else 2)+pr*(if cm aa r' c'-cm aa r c>0 then cm aa r' c'-cm aa r c else 0):=by
 unfold cW
 by_cases h1:gD r c r' c'
 ·rw [if_pos (show(r=r'/\c=c')\/1<r-r'\/1<r'-r\/1<c-c'\/1<c'-c from h1)];exact⟨(λz=>by cases z),λz=>absurd h1 z.1⟩
 ·have GO:¬((r=r'/\c=c')\/1<r-r'\/1<r'-r\/1<c-c'\/1<c'-c):=h1
  rw [if_neg GO]
  by_cases h2:(r≠r'/\c≠c')/\¬(sl=true/\bV aa r c'=true/\bV aa r' c=true)
  ·rw [if_pos h2];exact⟨(λz=>by cases z),λz=>absurd (z.2.1 h2.1) h2.2⟩
  ·rw [if_neg h2];have xS:r≠r'/\c≠c'->sl=true/\bV aa r c'=true/\bV aa r' c=true:=λa=>Classical.byContradiction λb=>h2 ⟨a,b⟩
   by_cases h3:cl<cm aa r' c'-cm aa r c\/cl<cm aa r c-cm aa r' c'
   ·rw [if_pos h3];exact⟨(λz=>by cases z),λz=>by omega⟩
   ·rw [if_neg h3];refine⟨λz=>⟨h1,xS,by omega,by omega,by cases z;rfl⟩,λz=>by rw [z.2.2.2.2]⟩
def tO{aa:List Str}{sl:Bool}{cl pr:Int}{u v:List Int}{e:Int}(h:E1 aa sl cl pr u v e):∃e',E1 aa sl cl pr v u e':=by
 obtain⟨r,c,r',c',h1,h2,h3,h4,h5⟩:=h
 rw [fE] at h5;refine⟨_,r',c',r,c,h2,h1,h4,h3,fE.2 ⟨?_,λz=>?_,h5.2.2.2.1,h5.2.2.1,rfl⟩⟩
 ·have:=h5.1
  unfold gD at this⊢;omega
 ·obtain⟨a,b,d⟩:=h5.2.1 ⟨λx=>z.1 x.symm,λx=>z.2 x.symm⟩
  exact⟨a,d,b⟩
def fk{aa:List Str}{w:Nat}(L:Fl aa w){sl:Bool}{cl pr:Int}(V:Wk cl pr){u v:List Int}{e:Int}(h:E1 aa sl cl pr u v e):0<e/\e<=30/\dP aa v:=by
 obtain⟨r,c,r',c',h1,h2,h3,h4,h5⟩:=h
 rw [fE] at h5;obtain⟨_,_,_,_,_,l1,l2⟩:=kG L h3
 obtain⟨_,_,_,_,_,m1,m2⟩:=kG L h4
 have p0:=V.p0
 have p4:=V.p4
 have e5:=h5.2.2.2.2
 generalize hm:(if cm aa r' c'-cm aa r c>0 then cm aa r' c'-cm aa r c else 0)=m at e5
 have Pl:0<=m/\m<=9:=by rw [<-hm];split<;>omega
 generalize hf:(if r≠r'/\c≠c' then(3:Int) else 2)=f at e5
 have Tw:2<=f/\f<=3:=by rw [<-hf];split<;>omega
 have a1:=Int.mul_nonneg p0 Pl.1
 have a2:pr*m<=3*9:=Int.mul_le_mul (by omega) Pl.2 Pl.1 (by omega)
 exact⟨by omega,by omega,r',c',h2,h4⟩
def Et(aa:List Str)(sl:Bool)(cl pr:Int)(u v:List Int)(e:Int):Prop:=E1 aa sl cl pr v u e
def qy(f:List PV->Res PV):Prop:=∀aa w,Fl aa w->∀sl cl pr,Wk cl pr->∀r c,bV aa r c=true->∃T:List (List Int×Int),f [fl aa,wk sl cl pr,af [r,c]]=.ok (.lst (T.map tK))/\T.length<=9/\∀v e,(v,e)∈T↔Et aa sl cl pr [r,c] v e
def pz(F:aH):Prop:=qy (F "steps_to")
def FD(f:List PV->Res PV):Prop:=∀aa w,Fl aa w->∀sl cl pr,Wk cl pr->∀r c,bV aa r c=true->∃kr Vr,f [.lst [sp r c],wk sl cl pr,fl aa]=.ok (.bw kr (Vr.map val))/\j2 (Et aa sl cl pr) [r,c] kr Vr
def JE(F:aH):Prop:=FD (F "spread@steps_to")
def tW(F:aH)(hs:pW F)(hc:tj F):qy (av F dB):=by
 intro aa w L sl cl pr V r c h;obtain⟨T,e1,hl,hT⟩:=hs aa w L sl cl pr V r c h
 have key:∀t∈T,∃e,Et aa sl cl pr [r,c] t.1 e/\F "step_cost" [fl aa,wk sl cl pr,af t.1,af [r,c]]=.ok (.int e):=λt ht=>by
  obtain⟨e',he⟩:=tO ((hT t.1 t.2).1 ht)
  refine⟨e',he,?_⟩;obtain⟨a,b,a',b',g1,g2,g3,g4,g5⟩:=he
  cases g2;have:=hc aa w L sl cl pr V a b r c g3 g4
  rw [g5] at this;rw [g1];exact this
 let cf:List Int->Int:=λv=>match v with
  |[a,b]=>(cW aa sl cl pr a b r c).getD 0
  |_=>0
 have Bk:∀v e,Et aa sl cl pr [r,c] v e->cf v=e:=by
  rintro v e ⟨a,b,a',b',rfl,h2,_,_,g⟩
  cases h2;show(cW aa sl cl pr a b r c).getD 0=e
  rw [g]
  rfl
 refine⟨T.map λt=>(t.1,cf t.1),?_,by simpa using hl,λv e=>?_⟩
 ·have l:T.length<dF:=zzV hl (by decide)
  have t0:∀t:List Int×Int,aE (tK t) (.int 0)=.ok (af t.1):=λt=>rfl
  simp! only [dB,e1,zzl,l];rw [ft (p:=tK) (g:=λt=>tK (t.1,cf t.1)) (λt ht=>by
   obtain⟨e,he,ee⟩:=key t ht
   simp! only [t0,ee,Bk _ _ he])]
  simp! only [List.map_map]
  rfl
 ·rw [zzx]
  constructor
  ·rintro ⟨t,ht,z⟩
   cases z;obtain⟨e,he,_⟩:=key t ht
   rw [Bk _ _ he];exact he
  ·intro he;obtain⟨e',h'⟩:=tO he
   exact⟨(v,e'),(hT v e').2 h',by rw [Bk _ _ he]⟩
theorem D2(F:aH)(hs:pz F):FD (av F bt):=λaa w L sl cl pr V r c h=>
 jj F "steps_to" (B:=30) (by decide) (ix:=[1,2,1,0]) (cp:=[wk sl cl pr,fl aa]) (as:=λu=>[fl aa,wk sl cl pr,af u]) rfl (λ_=>rfl) (E:=Et aa sl cl pr) (O:=dP aa) (s:=[r,c]) (U:=K1) (λu hu=>N9 L hu) (Nat.le_of_eq pP) (λu hu=>by obtain⟨_,_,rfl,_⟩:=hu;rfl) (λu v e he=>⟨(fk L V he).1,(fk L V he).2.1,by obtain⟨a,b,_,_,h1,_,h3,_⟩:=he;exact⟨a,b,h1,h3⟩⟩)
  (λu hu=>by obtain⟨a,b,rfl,ho⟩:=hu;obtain⟨T,e,hl,hT⟩:=hs aa w L sl cl pr V a b ho;exact⟨T,e,by omega,hT⟩) ⟨r,c,rfl,h⟩
def qS(F:aH)(hn:o6 F)(hs:JE F){aa:List Str}{w:Nat}(L:Fl aa w){sl:Bool}{cl pr:Int}(V:Wk cl pr){r c:Int}(h:bV aa r c=true):∃kr Vr,av F cJ [fl aa,wk sl cl pr,.lst [sp r c]]=.ok (.bw kr (Vr.map val))/\j2 (Et aa sl cl pr) [r,c] kr Vr:=by
 obtain⟨kr,Vr,e,R⟩:=hs aa w L sl cl pr V r c h
 exact⟨kr,Vr,by simp! only [cJ,forL,hn aa L.rZ r c h,i5,e],R⟩
def dD.cons{E:List Int->List Int->Int->Prop}{s u v:List Int}{d e:Int}(h:E s u e)(k:dD E u v d):dD E s v (e+d):=by
 induction k with
 |here=>have:=dD.go (dD.here (E:=E) (s:=s)) h;rw [Int.zero_add] at this;rwa [Int.add_zero]
 |go _ he ih=>have:=ih.go he;rwa [Int.add_assoc] at this
def pA{E E':List Int->List Int->Int->Prop}(hE:∀u v e,E u v e->E' v u e){s u:List Int}{c:Int}(h:dD E s u c):dD E' u s c:=by
 induction h with
 |here=>exact .here
 |go _ he ih=>have:=dD.cons (hE _ _ _ he) ih;rwa [Int.add_comm] at this
def eK{E:List Int->List Int->Int->Prop}{s:List Int}{kr:Ks}{Vr:Vs}{m:Int}(R:j2 E s kr Vr m){k:List Int}{c:Int}(h:dD E s k c):∃q,au kr Vr k=some q/\q.1<=c:=by
 induction h with
 |here=>exact R.st
 |go _ he ih=>
  obtain⟨q,h1,h2⟩:=ih
  obtain⟨q',h3,h4⟩:=R.il _ q h1 _ _ he
  exact⟨q',h3,by omega⟩
def vw{E:List Int->List Int->Int->Prop}{s:List Int}(hE:∀u v e,E u v e->0<e){k:List Int}{l:Ks}{d:Int}(h:rY E s k l d):(l.length:Int)<=d+1:=by
 induction h with
 |here=>simp
 |go _ he ih=>have:=hE _ _ _ he;rw [zzL];omega
def NK(E:List Int->List Int->Int->Prop)(u g:List Int)(p:PV):Prop:=(p=.aC/\∀c,¬dD E u g c)\/∃d l,p=.tup [.int d,.lst (l.map af)]/\rY (λa b e=>E b a e) g u l d/\l.length<=2000/\∀c,dD E u g c->d<=c
def Bb(f:List PV->Res PV):Prop:=∀aa w,Fl aa w->∀sl cl pr,Wk cl pr->∀r c r' c',bV aa r c=true->bV aa r' c'=true->∃p,f [fl aa,wk sl cl pr,sp r c,sp r' c']=.ok p/\NK (E1 aa sl cl pr) [r,c] [r',c'] p
def A8(F:aH)(hn:o6 F)(hs:∀aa w,Fl aa w->∀sl cl pr,Wk cl pr->∀r c,bV aa r c=true->∃kr Vr,F "spread_to" [fl aa,wk sl cl pr,.lst [sp r c]]=.ok (.bw kr (Vr.map val))/\j2 (Et aa sl cl pr) [r,c] kr Vr)
 (ht:∀E s kr Vr,j2 E s kr Vr->(∀u v e,E u v e->0<e)->∀k q,au kr Vr k=some q->∃l:Ks,F "traced" [.bw kr (Vr.map val),af k]=.ok (.lst (l.map af))/\rY E s k l q.1):
 Bb (av F cG):=by
 intro aa w L sl cl pr V r c r' c' h h';obtain⟨kr,Vr,e,R⟩:=hs aa w L sl cl pr V r' c' h'
 have n1:=hn aa L.rZ r c h
 have k:sp r c=af [r,c]:=rfl
 have g1:=bg (vs:=Vr) [r,c] R.len
 cases hq:au kr Vr [r,c] with
 |none=>
  rw [hq] at g1;have DO:cD kr [r,c]=false:=g1
  refine⟨.aC,?_,.inl ⟨rfl,λc' hw=>?_⟩⟩
  ·rw [k] at n1⊢;simp! only [cG,n1,e,mf,DO]
  ·obtain⟨q,h1,_⟩:=eK R (pA (E':=Et aa sl cl pr) (λ_ _ _ z=>z) hw)
   rw [hq] at h1;cases h1
 |some q=>
  rw [hq] at g1;have DO:cD kr [r,c]=true:=g1
  obtain⟨l,e2,tr⟩:=ht _ _ _ _ R (λu v e he=>(fk L V he).1) [r,c] q hq
  refine⟨.tup [.int q.1,.lst (l.map af)],?_,.inr ⟨q.1,l,rfl,tr,by have:=vw (λu v e he=>(fk L V he).1) tr;have:=(R.bd _ q hq).2;omega,λc' hw=>?_⟩⟩
  ·rw [k] at n1⊢;simp! only [cG,n1,e,mf,DO,xJ hq,tG,e2]
  ·obtain⟨q',h1,h2⟩:=eK R (pA (E':=Et aa sl cl pr) (λ_ _ _ z=>z) hw)
   rw [hq] at h1;cases h1;exact h2
def cst(kr:Ks)(Vr:Vs)(k:List Int):Int:=((au kr Vr k).map (·.1)).getD 0
def AK(f:List PV->Res PV):Prop:=∀aa,qi aa->∃S:Ks,f [fl aa]=.ok (.lst (S.map af))/\S.length<=36/\Tp S/\∀k,k∈S↔dP aa k
def oX{F:aH}(h:uz F):AK (F "_law_spots"):=by
 intro aa R;obtain⟨L,e,hu,hl,hm⟩:=h aa R
 refine⟨L.map kN,?_,by simpa using hl,?_,λk=>?_⟩
 ·rw [e,List.map_map]
  rfl
 ·exact List.pairwise_map.2 hu
 ·rw [zzx]
  constructor
  ·rintro ⟨p,hp,rfl⟩
   have:=(hm p.1 p.2).1 hp
   exact⟨_,_,rfl,pJ.2 ⟨by omega,by omega,this⟩⟩
  ·rintro ⟨r,c,rfl,h⟩
   obtain⟨a,b,d⟩:=pJ.1 h
   refine⟨(r.toNat,c.toNat),(hm _ _).2 d,?_⟩;show [(r.toNat:Int),(c.toNat:Int)]=[r,c]
   rw [Int.toNat_of_nonneg a,Int.toNat_of_nonneg b]
def pK{aa:List Str}{w:Nat}(L:Fl aa w){r c:Int}(h0:0<=r)(h1:r<aa.length)(h2:0<=c)(h3:c<w):∃z,aE (fl aa) (.int r)=.ok (.str z)/\∃x:Nat,aE (.str z) (.int c)=.ok (.str ⟨#[x]⟩)/\(x !=35)=bV aa r c:=by
 obtain⟨i,rfl⟩:=zzw h0
 obtain⟨j,rfl⟩:=zzw h2
 obtain⟨x,hx⟩:=Lx L (i:=i) (j:=j) (by omega) (by omega)
 obtain⟨z,_,e1,e2⟩:=zy L.rZ hx
 exact⟨z,e1,x,e2,by simp [bV,xO,hx]⟩
def yD(x:Nat):iB (.str ⟨#[x]⟩) (.str "#")=.ok (.bl (!(x !=35))):=by
 have:(("#":Str))=⟨#[35]⟩:=by decide+kernel
 rw [this];show Res.ok (PV.bl ((⟨#[x]⟩:Str)==⟨#[35]⟩))=_
 congr 2
 rw [bne,Bool.not_not,Bool.eq_iff_iff];simp
def Cp{t u:Bool}:(if t=true then Res.ok (PV.bl true) else Res.ok (PV.bl u))=Res.ok (PV.bl (t||u)):=by cases t<;>rfl
def MV:Ss:=#v[.ret (.bin .add (!5) (.ite (.cmp .gt (!4) (¬0)) (.bin .mul (.sub (!1) (¬2)) (!4)) (¬0)))]
noncomputable def JU:Ss:=.cons (.ite (.and (.cmp .ne (.sub (!2) (¬0)) (.sub (!3) (¬0))) (.cmp .ne (.sub (!2) (¬1)) (.sub (!3) (¬1)))) #v[.ite (.or (.not (.sub (!1) (¬0))) (.or (.cmp .eq (.sub (.sub (!0) (.sub (!2) (¬0))) (.sub (!3) (¬1))) (.cst (.str "#"))) (.cmp .eq (.sub (.sub (!0) (.sub (!3) (¬0))) (.sub (!2) (¬1))) (.cst (.str "#"))))) #v[.ret (.cst .aC)] .nil,.set 5 (¬3)] .nil) MV
noncomputable def Nt:Ss:=.cons (.ite (.or (.cmp .gt (!4) (.sub (!1) (¬1))) (.cmp .gt (.bin .sub (¬0) (!4)) (.sub (!1) (¬1)))) #v[.ret (.cst .aC)] .nil) JU
theorem BE:bP.body=(.cons (.set 4 (.bin .sub (.blt .int #v[.sub (.sub (!0) (.sub (!3) (¬0))) (.sub (!3) (¬1))]) (.blt .int #v[.sub (.sub (!0) (.sub (!2) (¬0))) (.sub (!2) (¬1))]))) (.cons (.set 5 (¬2)) Nt)):=rfl
abbrev Pw(A:PV)(sl:Bool)(cl pr r c r' c' ri k:Int):Sl:=[.val A,.val (wk sl cl pr),.val (sp r c),.val (sp r' c'),.val (.int ri),.val (.int k)]
def zl(F:aH)(A:PV)(sl:Bool){cl pr:Int}(V:Wk cl pr)(r c r' c' ri k:Int):aG F MV (Pw A sl cl pr r c r' c' ri k)=.ok (.rt (.int (k+pr*(if ri>0 then ri else 0)))):=by
 have ms:=mZ (j:=ri) V.p0 V.p4
 by_cases hp:0<ri
 ·rw [if_pos hp];simp! only [MV,hp,decide_true,ms]
 ·rw [if_neg hp,Int.mul_zero];simp! only [MV,hp,decide_false]
def Jt(F:aH){aa:List Str}{w:Nat}(L:Fl aa w){sl:Bool}{cl pr:Int}(V:Wk cl pr){r c r' c':Int}(h:bV aa r c=true)(h':bV aa r' c'=true)(ri:Int):
 aG F JU (Pw (fl aa) sl cl pr r c r' c' ri 2)=.ok (.rt (if(r≠r'/\c≠c')/\¬(sl=true/\bV aa r c'=true/\bV aa r' c=true) then .aC else .int ((if r≠r'/\c≠c' then 3 else 2)+pr*(if ri>0 then ri else 0)))):=by
 have i1:=jc L h
 have i2:=jc L h'
 obtain⟨z3,c1,x3,c2,c3⟩:=pK L (r:=r) (c:=c') i1.1 i1.2.1 i2.2.2.1 i2.2.2.2
 obtain⟨z4,d1,x4,d2,d3⟩:=pK L (r:=r') (c:=c) i2.1 i2.2.1 i1.2.2.1 i1.2.2.2
 have e3:=zl F (fl aa) sl V r c r' c' ri 3
 have e2:=zl F (fl aa) sl V r c r' c' ri 2
 by_cases n3:r≠r'/\c≠c'
 ·have FE:(!(r==r'))=true:=by simpa using n3.1
  have vh:(!(c==c'))=true:=by simpa using n3.2
  rw [if_pos n3]
  by_cases hb:sl=true/\bV aa r c'=true/\bV aa r' c=true
  ·rw [if_neg λz=>z.2 hb]
   have hB:(!sl||(!bV aa r c'||!bV aa r' c))=false:=by rw [hb.1,hb.2.1,hb.2.2];rfl
   simp! only [JU,c1,c2,d1,d2,yD,c3,d3,Cp,FE,vh,hB,Bool.true_or,e3]
  ·rw [if_pos ⟨n3,hb⟩];have hB:(!sl||(!bV aa r c'||!bV aa r' c))=true:=by
    cases sl with
    |false=>rfl
    |true=>
     cases o1:bV aa r c' with
     |false=>rfl
     |true=>
      cases o2:bV aa r' c with
      |false=>rfl
      |true=>exact absurd ⟨rfl,o1,o2⟩ hb
   simp! only [JU,c1,c2,d1,d2,yD,c3,d3,Cp,FE,vh,hB,Bool.true_or]
 ·rw [if_neg λz=>n3 z.1,if_neg n3]
  cases FE:(!(r==r')) with
  |false=>simp! only [JU,FE,e2]
  |true=>
   have vh:(!(c==c'))=false:=by
    cases vh:(!(c==c')) with
    |false=>rfl
    |true=>exact absurd ⟨by simpa using FE,by simpa using vh⟩ n3
   simp! only [JU,FE,vh,e2]
def se(F:aH){aa:List Str}{w:Nat}(L:Fl aa w){sl:Bool}{cl pr:Int}(V:Wk cl pr){r c r' c':Int}(h:bV aa r c=true)(h':bV aa r' c'=true)(hf:¬gD r c r' c'):
 av F bP [fl aa,wk sl cl pr,sp r c,sp r' c']=.ok (oP (cW aa sl cl pr r c r' c')):=by
 obtain⟨z1,x1,a1,a2,a3,_⟩:=kG L h
 obtain⟨z2,x2,b1,b2,b3,_⟩:=kG L h'
 have q1:cW aa sl cl pr r c r' c'=_:=if_neg hf
 rw [q1];have st:cI bP [fl aa,wk sl cl pr,sp r c,sp r' c']=[.val (fl aa),.val (wk sl cl pr),.val (sp r c),.val (sp r' c'),.no,.no]:=rfl
 have ar:cL bP [fl aa,wk sl cl pr,sp r c,sp r' c']=true:=rfl
 have e4:=Jt F L V (sl:=sl) h h' (cm aa r' c'-cm aa r c)
 have go:∀x,aG F Nt (Pw (fl aa) sl cl pr r c r' c' (cm aa r' c'-cm aa r c) 2)=.ok (.rt x)->av F bP [fl aa,wk sl cl pr,sp r c,sp r' c']=.ok x:=λx e=>by
  unfold av;rw [ar,if_pos rfl,st,BE];simp! [aG,gj,aD,cY,J,J2,a1,a2,a3,b1,b2,b3,e]
 by_cases hz:cl<cm aa r' c'-cm aa r c\/cl<cm aa r c-cm aa r' c'
 ·have:(if(r≠r'/\c≠c')/\¬(sl=true/\bV aa r c'=true/\bV aa r' c=true) then none else if cl<cm aa r' c'-cm aa r c\/cl<cm aa r c-cm aa r' c' then none else some ((if r≠r'/\c≠c' then 3 else 2)+pr*(if cm aa r' c'-cm aa r c>0 then cm aa r' c'-cm aa r c else 0)))=(none:Option Int):=by
   rw [if_pos hz];split<;>rfl
  rw [this];have hb:(decide (cl<cm aa r' c'-cm aa r c)||decide (cl<0-(cm aa r' c'-cm aa r c)))=true:=by
   rw [zzt,zzN,zzN];omega
  refine go .aC ?_;simp! only [Nt,Cp,hb]
 ·have hb:(decide (cl<cm aa r' c'-cm aa r c)||decide (cl<0-(cm aa r' c'-cm aa r c)))=false:=by
   rw [Bool.or_eq_false_iff,decide_eq_false_iff_not,decide_eq_false_iff_not];omega
  rw [if_neg hz];refine(go _ ((?_:_=_).trans e4)).trans ?_
  ·simp! only [Nt,Cp,hb]
  ·split<;>rfl
def nk(F:aH):Prop:=∀aa w,Fl aa w->∀sl cl pr,Wk cl pr->∀r c r' c',bV aa r c=true->bV aa r' c'=true->¬gD r c r' c'->F "_law_cost" [fl aa,wk sl cl pr,sp r c,sp r' c']=.ok (oP (cW aa sl cl pr r c r' c'))
noncomputable def GG(aa:List Str)(sl:Bool)(cl pr r c:Int)(i:Nat):Option (List Int×Int):=if i≠4/\bV aa (r-1+i/3) (c-1+i%3)=true then(cW aa sl cl pr r c (r-1+i/3) (c-1+i%3)).map λv=>([r-1+(i:Int)/3,c-1+(i:Int)%3],v) else none
noncomputable def GY(aa:List Str)(sl:Bool)(cl pr r c:Int)(i:Nat):Option PV:=if i≠4/\bV aa (r-1+i/3) (c-1+i%3)=true then(cW aa sl cl pr r c (r-1+i/3) (c-1+i%3)).map λv=>tK ([r-1+(i:Int)/3,c-1+(i:Int)%3],v) else none
noncomputable def kC:E:=.and (.ch .le .lt (¬0) (!5) (.blt .len #v[!0])) (.and (.ch .le .lt (¬0) (!6) (.blt .len #v[.sub (!0) (¬0)])) (.and (.cmp .ne (!4) (¬4)) (.cmp .ne (.sub (.sub (!0) (!5)) (!6)) (.cst (.str "#")))))
def kT:Ss:=#v[.set 7 (.call "_law_cost" #v[!0,!1,!2,.tup #v[!5,!6]]),.ite (.cmp .xZ (!7) (.cst .aC)) #v[.app 3 (.tup #v[.tup #v[!5,!6],!7])] .nil]
noncomputable def kR:Ss:=#v[.ite kC kT .nil]
noncomputable def rT:Ss:=.cons (.set 5 (.bin .add (.bin .sub (.sub (!2) (¬0)) (¬1)) (.bin .fdiv (!4) (¬3)))) (.cons (.set 6 (.bin .add (.bin .sub (.sub (!2) (¬1)) (¬1)) (.bin .mod (!4) (¬3)))) kR)
def AV{t u:Bool}:(if t=true then Res.ok (PV.bl u) else Res.ok (PV.bl false))=Res.ok (PV.bl (t&&u)):=by cases t<;>rfl
def RV{aa:List Str}{w:Nat}(L:Fl aa w):∃z,aE (fl aa) (.int 0)=.ok (.str z)/\z.length=w/\z.length<=dF:=by
 have hz:aa[0]?=some (aa[0]'L.ne):=zzg L.ne
 have hm:=zzD hz
 exact⟨_,zq (j:=0) hz,L.EW _ hm,zzU (L.rZ.2 _ hm) (by decide)⟩
def KQ(F:aH){aa:List Str}{w:Nat}(L:Fl aa w)(A B:PV)(i:Nat)(s3 s7:Ci.Slot)(r' c':Int):
 aD F kC [.val (fl aa),.val A,.val B,s3,.val (.int i),.val (.int r'),.val (.int c'),s7]=.ok (.bl (decide (i≠4/\bV aa r' c'=true))):=by
 obtain⟨z0,f1,f2,f3⟩:=RV L
 have PU:(z0.length:Int)=(w:Int):=by rw [f2]
 by_cases hA:0<=r'/\r'<aa.length
 ·by_cases hB:0<=c'/\c'<w
  ·obtain⟨z,g1,x,g2,g3⟩:=pK L hA.1 hA.2 hB.1 hB.2
   have e:decide (i≠4/\bV aa r' c'=true)=((!((i:Int)==4))&&bV aa r' c'):=by
    rw [Bool.eq_iff_iff,zza,zzN];simp;omega
   rw [e];simp! only [kC,hA.1,hA.2,hB.1,hB.2,f1,PU,f3,decide_true,zzl,g1,g2,g3,sM,AV,Bool.true_and]
  ·have e:decide (i≠4/\bV aa r' c'=true)=false:=zz0 λz=>hB (jc L z.2).2.2
   have q:(decide (0<=c')&&decide (c'<(w:Int)))=false:=by
    rw [<-Bool.decide_and];exact zz0 hB
   rw [e];simp! only [kC,hA.1,hA.2,f1,PU,f3,decide_true,zzl,AV,q,Bool.true_and,Bool.false_and]
 ·have e:decide (i≠4/\bV aa r' c'=true)=false:=zz0 λz=>hA ⟨(jc L z.2).1,(jc L z.2).2.1⟩
  have q:(decide (0<=r')&&decide (r'<(aa.length:Int)))=false:=by
   rw [<-Bool.decide_and];exact zz0 hA
  rw [e];simp! only [kC,zzl,AV,q,Bool.true_and,Bool.false_and]
def AG(F:aH)(hc:nk F){aa:List Str}{w:Nat}(L:Fl aa w){sl:Bool}{cl pr:Int}(V:Wk cl pr){r c:Int}(h:bV aa r c=true)(i:Nat)(hi:i<9)(acc:List PV)(hT:acc.length<=100)(t4 t5 t6 t7:Ci.Slot):
 ∃(u:Ci.Slot),(((Tg.one 4).put (.int i) [.val (fl aa),.val (wk sl cl pr),.val (sp r c),.own (.lst acc),t4,t5,t6,t7]).bind λak=>aG F rT ak)=
  .ok (.nx [.val (fl aa),.val (wk sl cl pr),.val (sp r c),.own (.lst (acc++(GY aa sl cl pr r c i).toList)),.val (.int i),.val (.int (r-1+i/3)),.val (.int (c-1+i%3)),u]):=by
 have q3:(0:Int)<3:=by decide
 have q4:(0:Int)<3/\(3:Int)<1073741824:=by decide
 have Tr:acc.length<dF:=zzV hT (by decide)
 have kc:=KQ F L (wk sl cl pr) (sp r c) i (.own (.lst acc)) t7 (r-1+(i:Int)/3) (c-1+(i:Int)%3)
 have go:∀x,aG F kR [.val (fl aa),.val (wk sl cl pr),.val (sp r c),.own (.lst acc),.val (.int i),.val (.int (r-1+i/3)),.val (.int (c-1+i%3)),t7]=x->(((Tg.one 4).put (.int i) [.val (fl aa),.val (wk sl cl pr),.val (sp r c),.own (.lst acc),t4,t5,t6,t7]).bind λak=>aG F rT ak)=x:=λx e=>by
  simp! only [rT,q3,q4,and_self,e]
 unfold GY
 by_cases hq:i≠4/\bV aa (r-1+i/3) (c-1+i%3)=true
 ·rw [if_pos hq];rw [zzh hq] at kc;have nf:¬gD r c (r-1+i/3) (c-1+i%3):=by unfold gD;omega
  have e:=hc aa w L sl cl pr V r c _ _ h hq.2 nf
  cases hs:cW aa sl cl pr r c (r-1+i/3) (c-1+i%3) with
  |none=>
   rw [hs] at e;simp! [oP] at e;have e5:fQ .aC .aC=.ok (.bl false):=rfl
   refine⟨.val .aC,go _ ?_⟩;rw [kR,aG,gj,kc];simp! only [kT,e,e5,Option.map_none,Option.toList_none,zz6]
  |some v=>
   rw [hs] at e;simp! [oP] at e;have e5:fQ (.int v) .aC=.ok (.bl true):=rfl
   refine⟨.val (.int v),go _ ?_⟩;rw [kR,aG,gj,kc];simp! only [kT,e,e5,Tr,Option.map_some,Option.toList_some]
   rfl
 ·rw [if_neg hq];rw [zz0 hq] at kc;refine⟨t7,go _ ?_⟩;rw [kR,aG,gj,kc];simp! only [Option.toList_none,zz6]
def G9(aa:List Str)(sl:Bool)(cl pr r c:Int)(i:Nat):GY aa sl cl pr r c i=(GG aa sl cl pr r c i).map tK:=by
 unfold GY GG;split
 ·rw [Option.map_map];rfl
 ·rfl
theorem vL{α β:Type}(f:α->Option β):∀l:List α,(l.flatMap λa=>(f a).toList)=l.filterMap f
 |[]=>rfl
 |a::l=>by
  rw [List.flatMap_cons,vL f l,List.filterMap_cons];cases f a<;>rfl
def ni(f:List PV->Res PV):Prop:=∀aa w,Fl aa w->∀sl cl pr,Wk cl pr->∀r c,bV aa r c=true->∃T:List (List Int×Int),f [fl aa,wk sl cl pr,af [r,c]]=.ok (.lst (T.map tK))/\T.length<=9/\(T.Pairwise λa b=>a.1≠b.1)/\∀v e,(v,e)∈T↔E1 aa sl cl pr [r,c] v e
def gb(F:aH):Prop:=ni (F "_law_steps")
def wt(F:aH)(hc:nk F):ni (av F aW):=by
 intro aa w L sl cl pr V r c h;refine⟨(List.range 9).filterMap (GG aa sl cl pr r c),?_,zzU (List.length_filterMap_le _ _) (by simp),?_,λv e=>?_⟩
 ·obtain⟨s',e⟩:=fC (body:=λx env=>((Tg.one 4).put x env).bind λak=>aG F rT ak) (g:=λi:Nat=>PV.int (i:Int)) (mk:=λacc (s:Ci.Slot×Ci.Slot×Ci.Slot×Ci.Slot)=>[.val (fl aa),.val (wk sl cl pr),.val (sp r c),.own (.lst acc),s.1,s.2.1,s.2.2.1,s.2.2.2]) (app:=λi=>(GY aa sl cl pr r c i).toList) (m:=1) (M:=50) (List.range 9) [] (.no,.no,.no,.no) (λi _=>by cases GY aa sl cl pr r c i<;>simp) (λi hi acc s hl=>by
   obtain⟨u,e⟩:=AG F hc L V h i (List.mem_range.1 hi) acc (by omega) s.1 s.2.1 s.2.2.1 s.2.2.2
   exact⟨(_,_,_,u),e⟩) (by decide)
  have k:af [r,c]=sp r c:=rfl
  have s:aJ 9=true:=by decide
  have rg:e6 0 (9:Int).toNat=(List.range 9).map λi:Nat=>PV.int (i:Int):=by
   unfold e6;refine List.map_congr_left λi _=>?_
   rw [Int.zero_add]
  have fm:((List.range 9).flatMap λi=>(GY aa sl cl pr r c i).toList)=((List.range 9).filterMap (GG aa sl cl pr r c)).map tK:=by
   rw [vL,List.map_filterMap]
   congr 1
   funext i
   exact G9 ..
  rw [fm,<-rg] at e;have db:aW.body=.cons (.own 3 (.lst .nil)) (.cons (.cM (.one 4) (.qR (.cst (.int 9))) rT) (.cons (.bp 3) (.cons (.ret (.var 3)) .nil))):=rfl
  have st:cI aW [fl aa,wk sl cl pr,sp r c]=[.val (fl aa),.val (wk sl cl pr),.val (sp r c),.no,.no,.no,.no,.no]:=rfl
  have ar:cL aW [fl aa,wk sl cl pr,sp r c]=true:=rfl
  rw [k];unfold av;rw [ar,if_pos rfl,st,db];simp! only [s] at e⊢;simp! only [e,zf]
 ·refine List.Pairwise.filterMap (S:=λa b:List Int×Int=>a.1≠b.1) (R:=λi j:Nat=>i≠j) _ (λi j PC a ha b hb MS=>PC ?_) (List.nodup_range (n:=9));unfold GG at ha hb;split at ha
  ·split at hb
   ·obtain⟨_,_,rfl⟩:=zzJ.1 ha
    obtain⟨_,_,rfl⟩:=zzJ.1 hb
    simp! [List.cons.injEq,and_true] at MS;omega
   ·cases hb
  ·cases ha
 ·rw [zz1]
  constructor
  ·rintro ⟨i,hi,g⟩
   unfold GG at g;split at g
   ·rename_i hh;obtain⟨x,hx,g⟩:=zzJ.1 g
    cases g;exact⟨r,c,_,_,rfl,rfl,h,hh.2,hx⟩
   ·cases g
  ·rintro ⟨a,b,r',c',g1,rfl,_,ho,hs⟩
   cases g1;have nf:=(fE.1 hs).1
   unfold gD at nf;refine⟨(3*(r'-r+1)+(c'-c+1)).toNat,List.mem_range.2 (by omega),?_⟩;have e1:r-1+((3*(r'-r+1)+(c'-c+1)).toNat:Int)/3=r':=by omega
   have e2:c-1+((3*(r'-r+1)+(c'-c+1)).toNat:Int)%3=c':=by omega
   unfold GG;rw [e1,e2,if_pos ⟨by omega,ho⟩,hs]
   rfl
def MN(a b:List Int):iB (af a) (af b)=.ok (.bl (decide (a=b))):=by
 show(if(Ci.plain 9 (af a)&&Ci.plain 9 (af b))=true then Res.ok (PV.bl (js 9 (af a) (af b))) else .bad)=_
 rw [ik 8,ik 8];exact congrArg (λz=>Res.ok (PV.bl z)) (md 8 a b)
def LZ(a b:List Int):hW (af a) (af b)=.ok (.bl (!decide (a=b))):=by
 show(if(Ci.plain 9 (af a)&&Ci.plain 9 (af b))=true then Res.ok (PV.bl (!js 9 (af a) (af b))) else .bad)=_
 rw [ik 8,ik 8];exact congrArg (λz=>Res.ok (PV.bl (!z))) (md 8 a b)
theorem bZ{α:Type}{f:PV->Res (Option PV)}{p q:α->PV}{g:α->Bool}:∀{xs:List α},(∀x∈xs,f (p x)=.ok (if g x then some (q x) else none))->aP f (xs.map p)=.ok ((xs.filter g).map q)
 |[],_=>rfl
 |x::xs,h=>by
  have h1:=h x (zzP ..)
  have h2:=bZ (xs:=xs) λy hy=>h y (zzI _ hy)
  simp! [zzF,aP,h1,JR,qg,h2];cases hg:g x<;>simp [zz3,hg,oc]
def er(z:Int)(u:List Int):List Int:=u.map (·/z)
theorem Nq{t:List Int×Int}:aE (tK t) (.int 0)=.ok (af t.1):=rfl
def qK(F:aH)(z:Int):Prop:=∀u:List Int,u.length=2->F "block_of" [af u,.int z]=.ok (af (er z u))
def qE(F:aH){z:Int}(d:0<z/\z<1073741824)(u:List Int)(h:u.length=2):av F cF [af u,.int z]=.ok (af (er z u)):=by
 match u,h with
 |[r,c],_=>
  have k:af [r,c]=sp r c:=rfl
  simp! only [k,cF,d,and_self]
  rfl
def xg(F:aH){z:Int}(hb:qK F z){A B:PV}{u:List Int}{T:List (List Int×Int)}(hu:u.length=2)(hs:F "steps_from" [A,B,af u]=.ok (.lst (T.map tK)))(h2:∀t∈T,t.1.length=2)(hl:T.length<=60):
 av F bD [A,B,.int z,af u]=.ok (.lst ((T.filter λt=>decide (er z t.1=er z u)).map tK)):=by
 have l:(T.map tK).length<dF:=zzV (m:=60) (by rw [zzl];exact hl) (by decide)
 have e:=hb u hu
 simp! only [bD,e,hs,l];rw [bZ (p:=tK) (q:=tK) (g:=λt=>decide (er z t.1=er z u)) λt ht=>?_]
 ·rfl
 ·have e1:=hb t.1 (h2 t ht)
  simp! only [Nq,e1,MN];cases decide (er z t.1=er z u)<;>rfl
def GZ(F:aH){z:Int}(hb:qK F z){A B:PV}{u:List Int}{T:List (List Int×Int)}(hu:u.length=2)(hs:F "steps_from" [A,B,af u]=.ok (.lst (T.map tK)))(h2:∀t∈T,t.1.length=2)(hl:T.length<=60):
 av F bR [A,B,.int z,af u]=.ok (.lst ((T.filter λt=>!decide (er z t.1=er z u)).map tK)):=by
 have l:(T.map tK).length<dF:=zzV (m:=60) (by rw [zzl];exact hl) (by decide)
 have e:=hb u hu
 simp! only [bR,e,hs,l];rw [bZ (p:=tK) (q:=tK) (g:=λt=>!decide (er z t.1=er z u)) λt ht=>?_]
 ·rfl
 ·have e1:=hb t.1 (h2 t ht)
  simp! only [Nq,e1,LZ];cases decide (er z t.1=er z u)<;>rfl
def rW(kr:Ks)(Vr:Vs)(v:List Int):Int:=((au kr Vr v).getD (0,.aC)).1
noncomputable def Mu(kr:Ks)(Vr:Vs)(u:List Int)(To:List (List Int×Int))(G:Ks):List (List Int×Int):=(((kr.filter λv=>!decide (v=u)).map λv=>(v,rW kr Vr v))++To).filter λt=>decide (t.1∈G)
def Dc(F:aH){z:Int}{A B:PV}{u:List Int}{kr:Ks}{Vr:Vs}{To:List (List Int×Int)}{G:Ks}(hl:kr.length=Vr.length)(hk:kr.length<=36)(ht:To.length<=9)
 (e1:F "spread@steps_within" [.lst [af u],B,.int z,A]=.ok (.bw kr (Vr.map val))) (e2:F "steps_out" [A,B,.int z,af u]=.ok (.lst (To.map tK))):
 av F cH [A,B,.int z,af u,.lst (G.map af)]=.ok (.lst ((Mu kr Vr u To G).map tK)):=by
 have l:(kr.map af).length<dF:=zzV (m:=36) (by rw [zzl];exact hk) (by decide)
 have c1:aP (λx=>((Tg.one 0).put x [.no,.val (af u),.val (.bw kr (Vr.map val))]).bind λak=>((fO ak[0]?).bind λx=>(fO ak[1]?).bind λy=>hW x y).bind λt=>nL t λt=>if t then(((fO ak[0]?).bind λp=>((((fO ak[2]?).bind λx=>(fO ak[0]?).bind λy=>aE x y).bind λx=>aE x (.int 0)).bind λp=>.ok [p]).bind λps=>.ok (p::ps)).bind λps=>.ok (.tup ps)).bind λy=>.ok (some y) else .ok none) (kr.map af)=.ok (((kr.filter λv=>!decide (v=u)).map λv=>(v,rW kr Vr v)).map tK):=by
  rw [bZ (p:=af) (q:=λv=>tK (v,rW kr Vr v)) (g:=λv=>!decide (v=u)) λv hv=>?_,List.map_map]
  ·rfl
  ·have:(au kr Vr v).isSome=true:=by rw [<-bg v hl];exact cO.2 hv
   obtain⟨q,hq⟩:=zzp.1 this
   have ec:rW kr Vr v=q.1:=by unfold rW;rw [hq];rfl
   simp! only [LZ,xJ hq,tG,ec];cases decide (v=u)<;>rfl
 have l2:(((kr.filter λv=>!decide (v=u)).map λv=>(v,rW kr Vr v)).map tK).length+(To.map tK).length<=dF:=by
  refine zzU (m:=45) ?_ (by decide);have:=List.length_filter_le (λv=>!decide (v=u)) kr
  simp! [zzl];omega
 have l3:((((kr.filter λv=>!decide (v=u)).map λv=>(v,rW kr Vr v)).map tK)++To.map tK).length<dF:=by
  rw [zzM];exact zzV (m:=45) (by
   have:=List.length_filter_le (λv=>!decide (v=u)) kr
   simp! [zzl];omega) (by decide)
 have sq:xb (.var 5) (.bw kr (Vr.map val))=.ok (kr.map af):=rfl
 have cv:i5 [.val A,.val B,.val (.int z),.val (af u),.val (.lst (G.map af)),.no,.no] [1,2,0]=.ok [B,.int z,A]:=rfl
 simp! only [] at c1;simp! only [cH,cv,e1,sq,l,c1,e2,l2,l3];rw [<-List.map_append,bZ (p:=tK) (q:=tK) (g:=λt=>decide (t.1∈G)) λt ht=>?_]
 ·rfl
 ·simp! only [Nq,ON,Qd];cases decide (t.1∈G)<;>rfl
def TL(P:List Int->Int->Prop)(r:Res PV)(n:Nat):Prop:=∃T:List (List Int×Int),r=.ok (.lst (T.map tK))/\T.length<=n/\∀v e,(v,e)∈T↔P v e
def Ew(E:List Int->List Int->Int->Prop)(z:Int)(u v:List Int)(e:Int):Prop:=E u v e/\er z v=er z u
def Eo(E:List Int->List Int->Int->Prop)(z:Int)(u v:List Int)(e:Int):Prop:=E u v e/\er z v≠er z u
def o2{aa:List Str}{u:List Int}(h:dP aa u):u.length=2:=by obtain⟨r,c,rfl,_⟩:=h;rfl
def Eg(F:aH){z:Int}(hb:qK F z){A B:PV}{E:List Int->List Int->Int->Prop}{u:List Int}(hu:u.length=2)(h2:∀v e,E u v e->v.length=2)(hs:TL (E u) (F "steps_from" [A,B,af u]) 9):TL (Ew E z u) (av F bD [A,B,.int z,af u]) 60:=by
 obtain⟨T,e,hl,hm⟩:=hs
 refine⟨_,xg F hb hu e (λt ht=>h2 _ _ ((hm t.1 t.2).1 ht)) (by omega),?_,λv e=>?_⟩
 ·exact zzU (List.length_filter_le ..) (by omega)
 ·simp! [List.mem_filter,zzN,hm];exact Iff.rfl
def outF(F:aH){z:Int}(hb:qK F z){A B:PV}{E:List Int->List Int->Int->Prop}{u:List Int}(hu:u.length=2)(h2:∀v e,E u v e->v.length=2)(hs:TL (E u) (F "steps_from" [A,B,af u]) 9):TL (Eo E z u) (av F bR [A,B,.int z,af u]) 9:=by
 obtain⟨T,e,hl,hm⟩:=hs
 refine⟨_,GZ F hb hu e (λt ht=>h2 _ _ ((hm t.1 t.2).1 ht)) (by omega),?_,λv e=>?_⟩
 ·exact zzU (List.length_filter_le ..) hl
 ·simp! [List.mem_filter,Bool.not_eq_true',decide_eq_false_iff_not,hm];exact Iff.rfl
theorem Dt(F:aH){aa:List Str}{w:Nat}(L:Fl aa w){sl:Bool}{cl pr:Int}(V:Wk cl pr){z:Int}{A B:PV}(hh:∀u,dP aa u->TL (Ew (E1 aa sl cl pr) z u) (F "steps_within" [A,B,.int z,af u]) 60){s:List Int}(hs:dP aa s):∃kr Vr,av F aN [.lst [af s],B,.int z,A]=.ok (.bw kr (Vr.map val))/\j2 (Ew (E1 aa sl cl pr) z) s kr Vr:=
 jj F "steps_within" (B:=30) (by decide) (ix:=[1,3,1,2,0]) (cp:=[B,.int z,A]) (as:=λu=>[A,B,.int z,af u]) rfl (λ_=>rfl) (O:=dP aa) (U:=K1) (λu hu=>N9 L hu) (Nat.le_of_eq pP) (λu h=>o2 h) (λu v e h=>fk L V h.1) hh hs
def Eh(E:List Int->List Int->Int->Prop)(z:Int)(G:Ks)(u v:List Int)(e:Int):Prop:=v∈G/\((v≠u/\dD (Ew E z) u v e/\∀d,dD (Ew E z) u v d->e<=d)\/Eo E z u v e)
def Me(F:aH){z:Int}{A B:PV}{E:List Int->List Int->Int->Prop}{u:List Int}(hw:∃kr Vr,F "spread@steps_within" [.lst [af u],B,.int z,A]=.ok (.bw kr (Vr.map val))/\j2 (Ew E z) u kr Vr)(ho:TL (Eo E z u) (F "steps_out" [A,B,.int z,af u]) 9)(G:Ks):
 TL (Eh E z G u) (av F cH [A,B,.int z,af u,.lst (G.map af)]) 60:=by
 obtain⟨kr,Vr,e1,R⟩:=hw
 obtain⟨To,e2,hl,hm⟩:=ho
 refine⟨_,Dc F R.len R.le hl e1 e2,?_,λv e=>?_⟩
 ·refine zzU (List.length_filter_le ..) ?_;have:=List.length_filter_le (λv=>!decide (v=u)) kr
  have:=R.le
  rw [zzM,zzl];omega
 ·have key:(v,e)∈((kr.filter λv=>!decide (v=u)).map λv=>(v,rW kr Vr v))↔(v≠u/\dD (Ew E z) u v e/\∀d,dD (Ew E z) u v d->e<=d):=by
   simp! [zzx,List.mem_filter,Bool.not_eq_true',decide_eq_false_iff_not,Prod.mk.injEq]
   constructor
   ·rintro ⟨v',⟨hk,hn⟩,rfl,rfl⟩
    have:(au kr Vr v').isSome=true:=by rw [<-bg v' R.len];exact cO.2 hk
    obtain⟨q,hq⟩:=zzp.1 this
    have ec:rW kr Vr v'=q.1:=by unfold rW;rw [hq];rfl
    rw [ec];exact⟨hn,(R.Ax v' q hq).2,λd hd=>by
     obtain⟨q',h1,h2⟩:=eK R hd
     rw [hq] at h1;cases h1;exact h2⟩
   ·rintro ⟨hn,hw,hle⟩
    obtain⟨q,h1,h2⟩:=eK R hw
    have h3:=hle _ (R.Ax v q h1).2
    have ec:rW kr Vr v=q.1:=by unfold rW;rw [h1];rfl
    refine⟨v,⟨cO.1 ?_,hn⟩,rfl,by rw [ec];omega⟩;rw [bg v R.len,h1];rfl
  unfold Mu;rw [List.mem_filter,List.mem_append,key,hm,zzN];exact And.comm
def EH(aa:List Str)(sl:Bool)(cl pr z:Int)(G:Ks)(u v:List Int)(e:Int):Prop:=dP aa u/\Eh (E1 aa sl cl pr) z G u v e
def yW{aa:List Str}{w:Nat}(L:Fl aa w){sl:Bool}{cl pr:Int}(V:Wk cl pr){z:Int}{u v:List Int}{e:Int}(hu:dP aa u)(h:dD (Ew (E1 aa sl cl pr) z) u v e):dP aa v/\er z v=er z u/\(v=u\/0<e)/\0<=e:=by
 induction h with
 |here=>exact⟨hu,rfl,.inl rfl,Int.le_refl _⟩
 |go _ he ih=>
  obtain⟨p,_,o⟩:=fk L V he.1
  exact⟨o,he.2.trans ih.2.1,.inr (by have:=ih.2.2.2;omega),by have:=ih.2.2.2;omega⟩
def qc{aa:List Str}{w:Nat}(L:Fl aa w){sl:Bool}{cl pr:Int}(V:Wk cl pr){z:Int}{G:Ks}(hw:∀u,dP aa u->∃kr Vr,j2 (Ew (E1 aa sl cl pr) z) u kr Vr){u v:List Int}{e:Int}(h:EH aa sl cl pr z G u v e):0<e/\e<=1080/\dP aa v:=by
 obtain⟨hu,_,⟨hn,h1,h2⟩|h⟩:=h
 ·obtain⟨kr,Vr,R⟩:=hw u hu
  obtain⟨q,g1,g2⟩:=eK R h1
  have g3:=h2 _ (R.Ax v q g1).2
  have g4:=(R.bd v q g1).2
  obtain⟨o,_,p,_⟩:=yW L V hu h1
  exact⟨p.resolve_left hn,by omega,o⟩
 ·obtain⟨p,q,o⟩:=fk L V h.1
  exact⟨p,by omega,o⟩
theorem DF(F:aH){aa:List Str}{w:Nat}(L:Fl aa w){sl:Bool}{cl pr:Int}(V:Wk cl pr){z:Int}{G:Ks}{A B:PV}(hw:∀u,dP aa u->∃kr Vr,j2 (Ew (E1 aa sl cl pr) z) u kr Vr)(hh:∀u,dP aa u->TL (Eh (E1 aa sl cl pr) z G u) (F "hops_from" [A,B,.int z,af u,.lst (G.map af)]) 60){s:List Int}(hs:dP aa s):∃kr Vr,av F ba [.lst [af s],B,.lst (G.map af),.int z,A]=.ok (.bw kr (Vr.map val))/\j2 (EH aa sl cl pr z G) s kr Vr 38880:=
 jj F "hops_from" (B:=1080) (by decide) (ix:=[1,4,1,3,0,2]) (cp:=[B,.lst (G.map af),.int z,A]) (as:=λu=>[A,B,.int z,af u,.lst (G.map af)]) rfl (λ_=>rfl) (O:=dP aa) (U:=K1) (λu hu=>N9 L hu) (Nat.le_of_eq pP) (λu h=>o2 h) (λu v e h=>qc L V hw h)
  (λu hu=>by
   obtain⟨T,e,hl,hm⟩:=hh u hu
   exact⟨T,e,hl,λv c=>(hm v c).trans ⟨λh=>⟨hu,h⟩,λh=>h.2⟩⟩) hs
def dD.app{E:List Int->List Int->Int->Prop}{s u v:List Int}{a b:Int}(h1:dD E s u a)(h2:dD E u v b):dD E s v (a+b):=by
 induction h2 with
 |here=>rw [Int.add_zero];exact h1
 |go _ he ih=>rw [<-Int.add_assoc];exact .go ih he
def dD.mono{E E':List Int->List Int->Int->Prop}(hE:∀u v e,E u v e->E' u v e){s v:List Int}{a:Int}(h:dD E s v a):dD E' s v a:=by
 induction h with
 |here=>exact .here
 |go _ he ih=>exact .go ih (hE _ _ _ he)
def ny{aa:List Str}{sl:Bool}{cl pr z:Int}{G:Ks}{s v:List Int}{d:Int}(h:dD (EH aa sl cl pr z G) s v d):dD (E1 aa sl cl pr) s v d:=by
 induction h with
 |here=>exact .here
 |go _ he ih=>
  obtain⟨_,_,⟨_,h1,_⟩|h⟩:=he
  ·exact ih.app (h1.mono λ_ _ _ h=>h.1)
  ·exact .go ih h.1
def AQ{aa:List Str}{w:Nat}(L:Fl aa w){sl:Bool}{cl pr:Int}(V:Wk cl pr){z:Int}{G:Ks}(hw:∀u,dP aa u->∃kr Vr,j2 (Ew (E1 aa sl cl pr) z) u kr Vr){s x u:List Int}{a b:Int}(ox:dP aa x)(h1:dD (EH aa sl cl pr z G) s x a)(h2:dD (Ew (E1 aa sl cl pr) z) x u b)(hu:u∈G):∃d,dD (EH aa sl cl pr z G) s u d/\d<=a+b:=by
 by_cases hx:u=x
 ·subst hx;exact⟨a,h1,by have:=(yW L V ox h2).2.2.2;omega⟩
 ·obtain⟨kr,Vr,R⟩:=hw x ox
  obtain⟨q,g1,g2⟩:=eK R h2
  refine⟨a+q.1,.go h1 ⟨ox,hu,.inl ⟨hx,(R.Ax u q g1).2,λd hd=>?_⟩⟩,by omega⟩
  obtain⟨q',k1,k2⟩:=eK R hd
  rw [g1] at k1;cases k1;exact k2
def BY{aa:List Str}{w:Nat}(L:Fl aa w){sl:Bool}{cl pr:Int}(V:Wk cl pr){z:Int}{G:Ks}(hw:∀u,dP aa u->∃kr Vr,j2 (Ew (E1 aa sl cl pr) z) u kr Vr)(hG:∀u v e,Eo (E1 aa sl cl pr) z u v e->u∈G){s v:List Int}{d:Int}(os:dP aa s)(h:dD (E1 aa sl cl pr) s v d):∃x a b,dP aa x/\dD (EH aa sl cl pr z G) s x a/\dD (Ew (E1 aa sl cl pr) z) x v b/\a+b<=d:=by
 induction h with
 |here=>exact⟨s,0,0,os,.here,.here,Int.le_refl _⟩
 |@go u v d e _ he ih=>
  obtain⟨x,a,b,ox,h1,h2,hl⟩:=ih
  by_cases hb:er z v=er z u
  ·exact⟨x,a,b+e,ox,h1,.go h2 ⟨he,hb⟩,by omega⟩
  ·obtain⟨d',h3,h4⟩:=AQ L V hw ox h1 h2 (hG u v e ⟨he,hb⟩)
   obtain⟨e',xV⟩:=tO he
   exact⟨v,d'+e,0,(fk L V he).2.2,.go h3 ⟨(yW L V ox h2).1,hG v u e' ⟨xV,λh=>hb h.symm⟩,.inr ⟨he,hb⟩⟩,.here,by omega⟩
def oZ{aa:List Str}{w:Nat}(L:Fl aa w){sl:Bool}{cl pr:Int}(V:Wk cl pr){z:Int}{G:Ks}(hw:∀u,dP aa u->∃kr Vr,j2 (Ew (E1 aa sl cl pr) z) u kr Vr)(hG:∀u v e,Eo (E1 aa sl cl pr) z u v e->u∈G){s g:List Int}{d:Int}(os:dP aa s)(hg:g∈G)(h:dD (E1 aa sl cl pr) s g d):∃d',dD (EH aa sl cl pr z G) s g d'/\d'<=d:=by
 obtain⟨x,a,b,ox,h1,h2,hl⟩:=BY L V hw hG os h
 obtain⟨d',h3,h4⟩:=AQ L V hw ox h1 h2 hg
 exact⟨d',h3,by omega⟩
def Gn(F:aH){aa:List Str}{E:List Int->List Int->Int->Prop}{z:Int}{A B:PV}(hn:F "need_size" [.int z]=.ok .aC){S:Ks}(hl:S.length<=36)(hS:∀u,u∈S↔dP aa u)(hs:F "open_spots" [A]=.ok (.lst (S.map af)))(ho:∀u,dP aa u->TL (Eo E z u) (F "steps_out" [A,B,.int z,af u]) 9):∃G:Ks,av F gN [A,B,.int z]=.ok (.lst (G.map af))/\G.length<=36/\∀u,u∈G↔dP aa u/\∃v e,Eo E z u v e:=by
 have l:(S.map af).length<dF:=zzV (m:=36) (by rw [zzl];exact hl) (by decide)
 let g:List Int->Bool:=λu=>match F "steps_out" [A,B,.int z,af u] with|.ok (.lst l)=>decide ((0:Int)<(l.length:Nat))|_=>false
 have hg:∀u (T:List (List Int×Int)),F "steps_out" [A,B,.int z,af u]=.ok (.lst (T.map tK))->g u=decide ((0:Int)<((T.map tK).length:Nat)):=λu T e=>by
  show(match F "steps_out" [A,B,.int z,af u] with|.ok (.lst l)=>decide ((0:Int)<(l.length:Nat))|_=>false)=_
  rw [e]
 refine⟨S.filter g,?_,zzU (List.length_filter_le ..) hl,λu=>?_⟩
 ·simp! only [gN,hn,hs,l];rw [bZ (p:=af) (q:=af) (g:=g) λu hu=>?_]
  ·rfl
  ·obtain⟨T,e,_⟩:=ho u ((hS u).1 hu)
   simp! only [e,hg u T e];cases decide ((0:Int)<((T.map tK).length:Nat))<;>rfl
 ·rw [List.mem_filter,hS];refine and_congr_right λhu=>?_
  obtain⟨T,e,_,hm⟩:=ho u hu
  rw [hg _ T e,zzN,zzl]
  constructor
  ·intro h;obtain⟨t,ht⟩:=List.exists_mem_of_length_pos (l:=T) (by omega)
   exact⟨t.1,t.2,(hm _ _).1 ht⟩
  ·rintro ⟨v,e,h⟩
   have:=List.length_pos_of_mem ((hm v e).2 h)
   omega
def Ts(F:aH){E:List Int->List Int->Int->Prop}{z:Int}{A B:PV}{G:Ks}{s g:List Int}{kr:Ks}{Vr:Vs}{m:Int}(hn:F "need_size" [.int z]=.ok .aC)(n1:F "need_open" [A,af s]=.ok .aC)(n2:F "need_open" [A,af g]=.ok .aC)(e1:F "gates" [A,B,.int z]=.ok (.lst (G.map af)))(hG:G.length<=36)
 (e2:F "spread@hops_from" [.lst [af s],B,.lst ((G++[g]).map af),.int z,A]=.ok (.bw kr (Vr.map val))) (R:j2 E s kr Vr m)
 (ht:∀k q,au kr Vr k=some q->∃l:Ks,F "traced" [.bw kr (Vr.map val),af k]=.ok (.lst (l.map af))/\rY E s k l q.1):
 ∃p,av F c7 [A,B,.int z,af s,af g]=.ok p/\((p=.aC/\∀d,¬dD E s g d)\/∃d l,p=.tup [.int d,.lst (l.map af).reverse]/\rY E s g l d/\d<=m/\∀c,dD E s g c->d<=c):=by
 have l:(G.map af).length+1<=dF:=zzU (m:=37) (by rw [zzl];omega) (by decide)
 have KD:F "spread@hops_from" [.lst [af s],B,.lst (G.map af++[af g]),.int z,A]=.ok (.bw kr (Vr.map val)):=by
  rw [<-e2,List.map_append]
  rfl
 have cv:i5 [.val A,.val B,.val (.int z),.val (af s),.val (af g),.val (.lst (G.map af++[af g])),.no] [1,5,2,0]=.ok [B,.lst (G.map af++[af g]),.int z,A]:=rfl
 have gs:=bg (vs:=Vr) g R.len
 cases hq:au kr Vr g with
 |none=>
  have hk:cD kr g=false:=by rw [gs,hq];rfl
  refine⟨.aC,?_,.inl ⟨rfl,λd hd=>?_⟩⟩
  ·simp! only [c7,hn,n1,n2,e1,l,cv,KD,mf,hk]
  ·obtain⟨q,h,_⟩:=eK R hd
   rw [hq] at h;cases h
 |some q=>
  have hk:cD kr g=true:=by rw [gs,hq];rfl
  obtain⟨ys,e3,tr⟩:=ht g q hq
  refine⟨.tup [.int q.1,.lst (ys.map af).reverse],?_,.inr ⟨q.1,ys,rfl,tr,(R.bd g q hq).2,λc hc=>?_⟩⟩
  ·simp! only [c7,hn,n1,n2,e1,l,cv,KD,mf,hk,xJ hq,tG,e3]
  ·obtain⟨q',h,h'⟩:=eK R hc
   rw [hq] at h;cases h;exact h'
theorem nt{σ:Type}{f:PV->Res (Option PV)}{body:PV->Sl->Res Ci.Fl}{mk:List PV->σ->Sl}{M:Nat}:∀(xs ys acc:List PV) (s:σ),aP f xs=.ok ys->(∀x∈xs,∀o,f x=.ok o->∀acc s,acc.length+1<=M->∃s',body x (mk acc s)=.ok (.nx (mk (acc++o.toList) s')))->acc.length+xs.length<=M->∃s',forL body xs (mk acc s)=.ok (.nx (mk (acc++ys) s'))
 |[],ys,acc,s,h,_,_=>by cases h;exact⟨s,by simp [forL]⟩
 |x::xs,ys,acc,s,h,hb,hl=>by
  rw [zzL] at hl;simp! [aP] at h;cases hf:f x with
  |bad=>rw [hf] at h;cases h
  |exc c=>rw [hf] at h;cases h
  |ok o=>
   rw [hf,JR,qg] at h;obtain⟨zs,hz,h⟩:=Res.aS h
   cases h;obtain⟨s1,e1⟩:=hb x (zzP ..) o hf acc s (by omega)
   have lo:o.toList.length<=1:=by cases o<;>simp
   obtain⟨s2,e2⟩:=nt xs zs (acc++o.toList) s1 hz (λy hy=>hb y (zzI _ hy)) (by rw [zzM];omega)
   refine⟨s2,?_⟩;simp! [forL,e1,qg,e2];cases o<;>simp [oc]
def yT:Ss:=#v[.ite (.cmp .ne (!5) (.glob "WALL" (.str "#"))) #v[.app 1 (.tup #v[!2,!4])] .nil]
def N5:Ss:=#v[.cM (.two 4 5) (.enum (!3)) yT]
theorem rG:∀{xs:List PV} {k:Nat} {x:PV},x∈cA k xs->∃(i:Nat) (y:PV),y∈xs/\x=.tup [.int (i:Int),y]
 |[],_,_,h=>by cases h
 |y::ys,k,x,h=>by
  simp! [cA,zzm] at h;rcases h with h|h
  ·exact⟨k,y,zzP ..,h⟩
  ·obtain⟨i,z,hz,e⟩:=rG h
   exact⟨i,z,zzI _ hz,e⟩
def Am(f:List PV->Res PV):Prop:=∀aa,qi aa->∃L:List (Nat×Nat),f [fl aa]=.ok (.lst (L.map za))/\Up L/\L.length<=36/\∀r c,(r,c)∈L↔xO aa r c=true
def zV(F:aH):Am (av F cR):=by
 intro aa R;have SW:=R.1
 obtain⟨ak,e,L,s2,s3,s4,s5,nd,hl,hm,rfl⟩:=fc (body:=λx env=>((Tg.two 2 3).put x env).bind λak=>aG F N5 ak) (P:=λi env=>∃(L:List (Nat×Nat)) (s2 s3 s4 s5:Ci.Slot),Up L/\L.length<=6*i/\(∀r c,(r,c)∈L↔r<i/\xO aa r c=true)/\env=[.val (fl aa),.own (.lst (L.map za)),s2,s3,s4,s5])
  (cA 0 (aa.map .str)) 0 [.val (fl aa),.own (.lst []),.no,.no,.no,.no] ⟨[],_,_,_,_,sE,zzE _,(λr c=>by simp),rfl⟩ (by
  intro i x env hx hq;obtain⟨y,hy,rfl⟩:=pd hx
  obtain⟨L,s2,s3,s4,s5,nd,hl,hm,rfl⟩:=hq
  simp! [zzQ,zzJ] at hy;obtain⟨z,hz,rfl⟩:=hy
  have J4:=R.2 z (zzD hz)
  have hi:i<aa.length:=(zzH.1 hz).1
  have zc:z.cps.toList.length=z.length:=by simp [Str.length]
  obtain⟨M,eM,nM,lM,hM⟩:=mh (f:=λx=>match x with|.tup [.int c,.str y]=>.ok (if y !="#" then some (sp i c) else none)|_=>.bad) (r:=i) (λc x=>by
   have:((⟨#[x]⟩:Str) !="#")=(x !=35):=by
    have hw:(("#":Str))=⟨#[35]⟩:=by decide+kernel
    rw [hw,bne,bne,Bool.eq_iff_iff];simp
   simp! [this]) z.cps.toList 0
  obtain⟨s',e⟩:=nt (body:=λx env=>((Tg.two 4 5).put x env).bind λak=>aG F yT ak) (mk:=λacc (s:Ci.Slot×Ci.Slot)=>[.val (fl aa),.own (.lst acc),.val (.int i),.val (.str z),s.1,s.2]) (M:=100) _ _ (L.map za) (s4,s5) eM (λx hx o ho acc s hl=>by
   obtain⟨c,y,hy,rfl⟩:=rG hx
   obtain⟨v,_,rfl⟩:=zzx.1 hy
   have l:acc.length<dF:=zzV (m:=100) (by omega) (by decide)
   refine⟨(.val (.int c),.val (.str ⟨#[v]⟩)),?_⟩;have g9:hW (.str ⟨#[v]⟩) (.str "#")=.ok (.bl ((⟨#[v]⟩:Str) !="#")):=rfl
   cases hv:((⟨#[v]⟩:Str) !="#") with
   |true=>
    rw [hv] at g9;simp! [hv,if_true] at ho;cases ho;simp! only [yT,g9,l,Option.toList_some]
   |false=>
    rw [hv] at g9;simp! [hv,zze,if_false] at ho;cases ho;simp! only [yT,g9,Option.toList_none,zz6]) (by rw [cj,zzl,zzl];omega)
  refine⟨[.val (fl aa),.own (.lst ((L++M).map za)),.val (.int i),.val (.str z),s'.1,s'.2],?_,L++M,_,_,_,_,List.pairwise_append.2 ⟨nd,nM,λa ha b hb=>OZ (.inl (by have h1:=((hm a.1 a.2).1 ha).1;have h2:=((hM b.1 b.2).1 hb).1;omega))⟩,?_,?_,rfl⟩
  ·rw [show(z.cps.toList.map λx=>PV.str ⟨#[x]⟩)=chars z from rfl] at e;simp! only [yT] at e;simp! only [N5,yT,Nat.zero_add,e,List.map_append]
  ·simp! [zzM];omega
  ·intro r c;rw [List.mem_append,hm,hM,j0]
   constructor
   ·rintro (⟨h1,h2⟩|⟨rfl,_,x,h3,h4⟩)
    ·exact⟨by omega,h2⟩
    ·exact⟨by omega,z,hz,x,h3,h4⟩
   ·rintro ⟨h1,w,h2,x,h3,h4⟩
    by_cases hr:r=i
    ·subst hr;rw [hz] at h2;cases h2;exact .inr ⟨rfl,Nat.zero_le _,x,h3,h4⟩
    ·exact .inl ⟨by omega,w,h2,x,h3,h4⟩)
 refine⟨L,?_,nd,(by rw [cj,zzl] at hl;omega),λr c=>?_⟩
 ·simp! only [N5,yT] at e;simp! only [cR,e,zf]
 ·rw [hm];refine⟨λh=>h.2,λh=>⟨?_,h⟩⟩
  obtain⟨z,hz,_⟩:=j0.1 h
  have:=(zzH.1 hz).1
  rw [cj,zzl];omega
def o8(F:aH)(hw:∀i,F "is_whole" [.int i]=.ok (.bl true))(s:Int)(h1:1<=s)(h2:s<=12):av F bX [.int s]=.ok .aC:=by
 simp! only [bX,hw,oV,h1,h2,decide_true]
theorem Jh{f:List PV->Res PV}(h:Am f):AK f:=oX (F:=λ_=>f) h
def A1(F:aH)(z:Int):Prop:=∀u:List Int,u.length=2->F "_law_block" [af u,.int z]=.ok (af (er z u))
def xE(F:aH){z:Int}(d:0<z/\z<1073741824)(u:List Int)(h:u.length=2):av F bM [af u,.int z]=.ok (af (er z u)):=qE F d u h
noncomputable def gB:Ss:=#v[.set 5 (.comp 1 [2] (.one 0) (.seq (.call "_law_steps" #v[!0,!1,!4])) (.call "_law_block" #v[.sub (!0) (¬0),!1])),.ite (.cmp .ne (.bT 1 [4,2] (.one 0) (.seq (!5)) (.cmp .ne (!0) (.call "_law_block" #v[!1,!2])) (!0)) (.lst .nil)) #v[.app 3 (!4)] .nil]
def gQ(z:Int)(u:List Int)(T:List (List Int×Int)):Ks:=(T.map λt=>er z t.1).filter λb=>!decide (b=er z u)
def Lg(F:aH){z:Int}(hb:A1 F z){A B:PV}{u:List Int}{T:List (List Int×Int)}(hu:u.length=2)(hs:F "_law_steps" [A,B,af u]=.ok (.lst (T.map tK)))(h2:∀t∈T,t.1.length=2)(hl:T.length<=60)(acc:List PV)(ha:acc.length+1<=100)(s4 s5:Ci.Slot):
 (((Tg.one 4).put (af u) [.val A,.val B,.val (.int z),.own (.lst acc),s4,s5]).bind λak=>aG F gB ak)=.ok (.nx [.val A,.val B,.val (.int z),.own (.lst (acc++(if gQ z u T=[] then [] else [af u]))),.val (af u),.val (.lst ((T.map λt=>er z t.1).map af))]):=by
 have l:(T.map tK).length<dF:=zzV (m:=60) (by rw [zzl];exact hl) (by decide)
 have l2:((T.map λt=>er z t.1).map af).length<dF:=zzV (m:=60) (by rw [zzl,zzl];exact hl) (by decide)
 have l3:acc.length<dF:=zzV (m:=100) (by omega) (by decide)
 have e:=hb u hu
 have c1:aP (λx=>((Tg.one 0).put x [.no,.val (.int z)]).bind λak=>(aD F (.call "_law_block" (.cons (.sub (.var 0) (.cst (.int 0))) (.cons (.var 1) .nil))) ak).bind λy=>.ok (some y)) (T.map tK)=.ok ((T.map λt=>er z t.1).map af):=by
  rw [ft (p:=tK) (g:=λt=>af (er z t.1)) λt ht=>?_,List.map_map]
  ·rfl
  ·simp! only [Nq,hb t.1 (h2 t ht)]
 have c2:aP (λx=>((Tg.one 0).put x [.no,.val (af u),.val (.int z)]).bind λak=>(aD F (.cmp .ne (.var 0) (.call "_law_block" (.cons (.var 1) (.cons (.var 2) .nil)))) ak).bind λt=>nL t λt=>if t then(aD F (.var 0) ak).bind λy=>.ok (some y) else .ok none) ((T.map λt=>er z t.1).map af)=.ok ((gQ z u T).map af):=by
  rw [bZ (p:=af) (q:=af) (g:=λb=>!decide (b=er z u)) λb kj=>?_]
  ·rfl
  ·simp! only [e,LZ];cases decide (b=er z u)<;>rfl
 have q:hW (.lst ((gQ z u T).map af)) (.lst [])=.ok (.bl (!decide (gQ z u T=[]))):=Nd (gQ z u T) []
 simp! only [] at c1 c2;simp! only [gB,hs,l,c1,l2,c2,q]
 by_cases h:gQ z u T=[]
 ·simp! only [h,decide_true,if_true,zz6]
 ·simp! only [h,decide_false,if_false,l3]
def vM(F:aH){aa:List Str}{w:Nat}(L:Fl aa w){sl:Bool}{cl pr:Int}(V:Wk cl pr){z:Int}(hb:A1 F z)(hk:AK (F "_law_spots"))(hs:gb F):∃G:Ks,av F cQ [fl aa,wk sl cl pr,.int z]=.ok (.lst (G.map af))/\∀u,u∈G↔dP aa u/\∃v e,Eo (E1 aa sl cl pr) z u v e:=by
 obtain⟨S,e1,hl,hS,hm⟩:=hk aa L.rZ
 have st:∀u,∃T:List (List Int×Int),dP aa u->F "_law_steps" [fl aa,wk sl cl pr,af u]=.ok (.lst (T.map tK))/\T.length<=9/\∀v e,(v,e)∈T↔E1 aa sl cl pr u v e:=λu=>by
  by_cases h:dP aa u
  ·obtain⟨r,c,rfl,ho⟩:=h
   obtain⟨T,e,a,_,b⟩:=hs aa w L sl cl pr V r c ho
   exact⟨T,λ_=>⟨e,a,b⟩⟩
  ·exact⟨[],λz=>absurd z h⟩
 obtain⟨f,hf⟩:=Classical.skolem.1 st
 obtain⟨s',e⟩:=fC (body:=λx env=>((Tg.one 4).put x env).bind λak=>aG F gB ak) (g:=af) (mk:=λacc (s:Ci.Slot×Ci.Slot)=>[.val (fl aa),.val (wk sl cl pr),.val (.int z),.own (.lst acc),s.1,s.2]) (app:=λu=>if gQ z u (f u)=[] then [] else [af u]) (m:=1) (M:=50) S [] (.no,.no) (λu _=>by split<;>simp) (λu hu acc s ha=>by
  have ho:=(hm u).1 hu
  obtain⟨a,b,c⟩:=hf u ho
  exact⟨(_,_),Lg F hb (o2 ho) a (λt ht=>o2 (fk L V ((c t.1 t.2).1 ht)).2.2) (by omega) acc (by omega) s.1 s.2⟩) (by simp! [List.length_nil];omega)
 have fe:(S.flatMap λu=>if gQ z u (f u)=[] then [] else [af u])=(S.filter λu=>!decide (gQ z u (f u)=[])).map af:=by
  clear e hl hm e1 hS
  induction S with
  |nil=>rfl
  |cons u S ih=>
   rw [List.flatMap_cons,ih,zz3]
   by_cases h:gQ z u (f u)=[]<;>simp [h]
 refine⟨S.filter λu=>!decide (gQ z u (f u)=[]),?_,λu=>?_⟩
 ·rw [fe] at e;simp! only [gB] at e;simp! only [cQ,e1,e,zf]
 ·rw [List.mem_filter,hm];refine and_congr_right λhu=>?_
  obtain⟨_,_,c⟩:=hf u hu
  rw [Bool.not_eq_true',decide_eq_false_iff_not]
  constructor
  ·intro h;obtain⟨b,hb⟩:=List.exists_mem_of_ne_nil _ h
   obtain⟨h1,h2⟩:=List.mem_filter.1 hb
   obtain⟨t,ht,rfl⟩:=zzx.1 h1
   exact⟨t.1,t.2,(c _ _).1 ht,by simpa using h2⟩
  ·rintro ⟨v,e,h1,h2⟩ h
   have:er z v∈gQ z u (f u):=List.mem_filter.2 ⟨zzx.2 ⟨(v,e),(c v e).2 h1,rfl⟩,by simpa using h2⟩
   rw [h] at this;cases this
def Ap{ks:Ks}{ns:List Int}{k:List Int}{n:Int}(h:au ks ns k=some n):aE (.bw ks (ns.map .int)) (af k)=.ok (.int n):=by
 show(Res.of (fh (af k))).bind (λk=>Res.of (au _ _ k))=_
 rw [dA];show Res.of (au _ _ k)=_
 rw [gh,h]
 rfl
def uX{U:Ks}{ks:Ks}(nd:ks.Nodup)(h:∀k∈ks,k∈U):ks.length<=U.length:=by
 induction ks generalizing U with
 |nil=>exact Nat.zero_le _
 |cons a ks ih=>
  obtain⟨n1,n2⟩:=List.nodup_cons.1 nd
  have ha:=h a (zzP ..)
  have:=ih (U:=U.erase a) n2 λk hk=>(List.mem_erase_of_ne (λz:k=a=>n1 (by rw [<-z];exact hk))).2 (h k (zzI _ hk))
  rw [List.length_erase_of_mem ha] at this;have:=List.length_pos_of_mem ha
  rw [zzL];omega
def qX(ks:Ks)(ns:List Int)(u:List Int)(n:Int):bf ks (ns.map .int) u (PV.int n)=(bf ks ns u n).map .int:=ja PV.int ks ns u n
theorem lE{α:Type}{body:PV->Sl->Res Ci.Fl}{g:α->PV}{P:List α->Sl->Prop}:∀(l pre:List α) (env:Sl),(∀a∈l,∀pre env,P pre env->∃ak,body (g a) env=.ok (.nx ak)/\P (a::pre) ak)->P pre env->∃ak,forL body (l.map g) env=.ok (.nx ak)/\P (l.reverse++pre) ak
 |[],pre,env,_,h=>⟨env,rfl,h⟩
 |a::l,pre,env,h,h0=>by
  obtain⟨e1,b1,p1⟩:=h a (zzP ..) pre env h0
  obtain⟨e2,b2,p2⟩:=lE l (a::pre) e1 (λb hb=>h b (zzI _ hb)) p1
  exact⟨e2,by simp! [zzF,forL,b1,qg,b2],by rw [List.reverse_cons,List.append_assoc];exact p2⟩
theorem nh{α:Type}{p q:α->Bool}{x:α}:∀{l:List α},(∀a∈l,p a=true->q a=true)->x∈l->q x=true->p x=false->l.countP p<l.countP q
 |a::l,h,hx,hq,hp=>by
  have h1:l.countP p<=l.countP q:=List.countP_mono_left λb hb=>h b (zzI _ hb)
  rw [List.countP_cons,List.countP_cons];rcases zzm.1 hx with rfl|hx
  ·rw [hq,hp];simp! [zze,if_true,if_false];omega
  ·have:=nh (l:=l) (λb hb=>h b (zzI _ hb)) hx hq hp
   have:=h a (zzP ..)
   cases ha:p a with
   |false=>simp! [zze,if_false];omega
   |true=>rw [this ha];simp! [if_true];omega
inductive Bf(E:List Int->List Int->Int->Prop)(s:List Int):Nat->List Int->Int->Prop
 |here:Bf E s 0 s 0
 |go {j:Nat} {u v:List Int} {d e:Int}:Bf E s j u d->E u v e->Bf E s (j+1) v (d+e)
theorem nJ{E:List Int->List Int->Int->Prop}{s:List Int}{kr:Ks}{Vr:Vs}{m:Int}(R:j2 E s kr Vr m)(hE:∀u v e,E u v e->0<e):∀(n:Nat) (y:List Int) (q:Int×PV),au kr Vr y=some q->q.1<n->∃j,Bf E s j y q.1/\j<(kr.filter λk=>decide (rW kr Vr k<=q.1)).length
 |0,y,q,h,hn=>by have:=(R.bd y q h).1;omega
 |n+1,y,q,h,hn=>by
  have cy:rW kr Vr y=q.1:=by unfold rW;rw [h];rfl
  have my:y∈kr:=cO.1 (by rw [bg y R.len,h];rfl)
  rcases R.pre y q h with⟨_,rfl,h0⟩|⟨y',q',e,_,h',he,hq⟩
  ·refine⟨0,by rw [h0];exact .here,List.length_pos_of_mem (a:=y) (List.mem_filter.2 ⟨my,zzh (by omega)⟩)⟩
  ·have hp:=hE _ _ _ he
   obtain⟨j,h1,h2⟩:=nJ R hE n y' q' h' (by omega)
   refine⟨j+1,by rw [hq];exact .go h1 he,zzV h2 ?_⟩;rw [<-List.countP_eq_length_filter,<-List.countP_eq_length_filter];exact nh (x:=y) (λa _ h=>by simp! [zzN] at h⊢;omega) my (zzh (by omega)) (zz0 (by omega))
structure Dg(E:List Int->List Int->Int->Prop)(Q:Ks)(s:List Int)(ks:Ks)(ns:List Int):Prop where
 len:ks.length=ns.length
 nd:ks.Nodup
 Ax:∀k n,au ks ns k=some n->k∈Q/\dD E s k n
def Dg.has{E:List Int->List Int->Int->Prop}{Q:Ks}{s:List Int}{ks:Ks}{ns:List Int}(C:Dg E Q s ks ns){k:List Int}(h:k∈ks):∃n,au ks ns k=some n:=by
 have:=bg (vs:=ns) k C.len
 rw [cO.2 h] at this;exact zzp.1 this.symm
theorem Dg.le{E:List Int->List Int->Int->Prop}{Q:Ks}{s:List Int}{ks:Ks}{ns:List Int}(C:Dg E Q s ks ns)(hQ:Q.length<=36):ks.length<dF:=
 zzV (zzU (uX C.nd λk hk=>by obtain⟨n,hn⟩:=C.has hk;exact(C.Ax k n hn).1) hQ) (by decide)
def FK:Ss:=#v[.set 10 (.bin .add (.sub (.eE 5) (!7)) (!9)),.ite (.and (.cmp .Fy (!8) (!4)) (.or (.cmp .jX (!8) (.eE 5)) (.cmp .lt (!10) (.sub (.eE 5) (!8))))) #v[.put 5 (!8) (!10)] .nil]
def Kj:Ss:=#v[.cM (.two 8 9) (.seq (.call "_law_steps" #v[!0,!1,!7])) FK]
def inR:Ss:=#v[.cM (.one 7) (.seq (.blt .lY #v[.eE 5])) Kj]
abbrev sD(A B Z S:PV)(Q:Ks)(ks:Ks)(ns:List Int)(s6 s7 s8 s9 jd:Ci.Slot):Sl:=[.val A,.val B,.val Z,.val S,.val (.lst (Q.map af)),.own (.bw ks (ns.map .int)),s6,s7,s8,s9,jd]
section
variable{E:List Int->List Int->Int->Prop}{Q:Ks}{s:List Int}{A B Z S:PV}{s6:Ci.Slot}
def Jm(E:List Int->List Int->Int->Prop)(Q:Ks)(s:List Int)(A B Z S:PV)(s6:Ci.Slot)(x:Option Ci.Slot)(D:List Int->Int->Prop)(env:Sl):Prop:=∃ks ns s7 s8 s9 jd,env=sD A B Z S Q ks ns s6 s7 s8 s9 jd/\(∀y,x=some y->s7=y)/\Dg E Q s ks ns/\∀v b,D v b->∃m,au ks ns v=some m/\m<=b
def Jm.mono{x:Option Ci.Slot}{D D':List Int->Int->Prop}{env:Sl}(h:Jm E Q s A B Z S s6 x D env)(d:∀v b,D' v b->D v b):Jm E Q s A B Z S s6 x D' env:=by
 obtain⟨ks,ns,s7,s8,s9,jd,e,hx,C,hd⟩:=h
 exact⟨ks,ns,s7,s8,s9,jd,e,hx,C,λv b z=>hd v b (d v b z)⟩
def G6(F:aH)(hQ:Q.length<=36)(D:List Int->Int->Prop){u:List Int}{c0:Int}(hu:D u c0)(t:List Int×Int)(he:t.1∈Q->E u t.1 t.2)(env:Sl)(h:Jm E Q s A B Z S s6 (some (.val (af u))) D env):∃ak,(((Tg.two 8 9).put (tK t) env).bind λak=>aG F FK ak)=.ok (.nx ak)/\Jm E Q s A B Z S s6 (some (.val (af u))) (λv b=>D v b\/(v=t.1/\v∈Q/\∃c,D u c/\b=c+t.2)) ak:=by
 obtain⟨ks,ns,s7,s8,s9,jd,rfl,hx,C,hd⟩:=h
 cases hx _ rfl;have l:=C.le hQ
 obtain⟨n,hn,hn0⟩:=hd u c0 hu
 have Qp:∀c,D u c->n<=c:=λc hc=>by
  obtain⟨m,h1,h2⟩:=hd u c hc
  rw [hn] at h1;cases h1;exact h2
 have g2:=bg (vs:=ns) t.1 C.len
 have e1:=Ap hn
 have e3:=Qd t.1 Q
 by_cases hq:t.1∈Q
 ·rw [zzh hq] at e3;have done:(∀m,au ks ns t.1=some m->n+t.2<m)->Jm E Q s A B Z S s6 (some (.val (af u))) (λv b=>D v b\/(v=t.1/\v∈Q/\∃c,D u c/\b=c+t.2)) (sD A B Z S Q (bA ks t.1) (bf ks ns t.1 (n+t.2)) s6 (.val (af u)) (.val (af t.1)) (.val (.int t.2)) (.val (.int (n+t.2)))):=λhb=>by
   have gp:=br C.len t.1 (n+t.2)
   refine⟨_,_,_,_,_,_,rfl,(λx z=>by cases z;rfl),⟨k8 C.len _ _,gC C.nd _,λk m hk=>?_⟩,λv b hv=>?_⟩
   ·rw [gp] at hk;split at hk
    ·rename_i h;subst h;cases hk;exact⟨hq,(C.Ax u n hn).2.go (he hq)⟩
    ·exact C.Ax k m hk
   ·rw [gp]
    by_cases h:t.1=v
    ·subst h;rw [if_pos rfl];refine⟨_,rfl,?_⟩;rcases hv with hv|⟨_,_,c,hc,rfl⟩
     ·obtain⟨m,h1,h2⟩:=hd _ _ hv
      have:=hb m h1
      omega
     ·have:=Qp c hc
      omega
    ·rw [if_neg h];rcases hv with hv|⟨rfl,_⟩
     ·exact hd v b hv
     ·exact absurd rfl h
  cases hw:au ks ns t.1 with
  |none=>
   rw [hw] at g2;have g3:cD ks t.1=false:=g2
   refine⟨_,?_,done λm hm=>by rw [hw] at hm;cases hm⟩
   simp! only [FK,sD,e1,e3,mf,g3,dA,l,qX]
  |some m=>
   rw [hw] at g2;have g3:cD ks t.1=true:=g2
   have e2:=Ap hw
   by_cases cC:n+t.2<m
   ·refine⟨_,?_,done λm' hm=>by rw [hw] at hm;cases hm;exact cC⟩
    simp! only [FK,sD,e1,e3,mf,g3,e2,cC,decide_true,dA,l,qX]
   ·refine⟨_,?_,ks,ns,_,.val (af t.1),.val (.int t.2),.val (.int (n+t.2)),rfl,(λx z=>by cases z;rfl),C,λv b hv=>?_⟩
    ·simp! only [FK,sD,e1,e3,mf,g3,e2,cC,decide_false]
    ·rcases hv with hv|⟨rfl,_,c,hc,rfl⟩
     ·exact hd v b hv
     ·exact⟨m,hw,by have:=Qp c hc;omega⟩
 ·rw [zz0 hq] at e3;refine⟨_,?_,ks,ns,_,.val (af t.1),.val (.int t.2),.val (.int (n+t.2)),rfl,(λx z=>by cases z;rfl),C,λv b hv=>?_⟩
  ·simp! only [FK,sD,e1,e3]
  ·rcases hv with hv|⟨rfl,hv,_⟩
   ·exact hd v b hv
   ·exact absurd hv hq
def Gq(F:aH)(hQ:Q.length<=36)(D:List Int->Int->Prop){u:List Int}{c0:Int}(hu:D u c0){T:List (List Int×Int)}(e1:F "_law_steps" [A,B,af u]=.ok (.lst (T.map tK)))(hT:∀v e,E u v e↔(v,e)∈T/\v∈Q)(env:Sl)(h:Jm E Q s A B Z S s6 none D env):∃ak,(((Tg.one 7).put (af u) env).bind λak=>aG F Kj ak)=.ok (.nx ak)/\Jm E Q s A B Z S s6 none (λv b=>D v b\/∃c e,D u c/\E u v e/\b=c+e) ak:=by
 obtain⟨ks,ns,s7,s8,s9,jd,rfl,_,C,hd⟩:=h
 obtain⟨ak,e2,J2⟩:=lE (body:=λx env=>((Tg.two 8 9).put x env).bind λak=>aG F FK ak) (g:=tK) (P:=λpre=>Jm E Q s A B Z S s6 (some (.val (af u))) (λv b=>D v b\/∃t∈pre,v=t.1/\v∈Q/\∃c,D u c/\b=c+t.2)) T [] (sD A B Z S Q ks ns s6 (.val (af u)) s8 s9 jd) (λt h pre env hj=>by
  obtain⟨ak,e,J⟩:=G6 F hQ _ (c0:=c0) (.inl hu) t (λhq=>(hT t.1 t.2).2 ⟨h,hq⟩) env hj
  refine⟨ak,e,J.mono λv b z=>?_⟩
  rcases z with z|⟨t',ht,a1,a2,c,a3,a4⟩
  ·exact .inl (.inl z)
  ·rcases zzm.1 ht with rfl|ht
   ·exact .inr ⟨a1,a2,c,.inl a3,a4⟩
   ·exact .inl (.inr ⟨t',ht,a1,a2,c,a3,a4⟩)) ⟨ks,ns,_,s8,s9,jd,rfl,(λx z=>by cases z;rfl),C,λv b z=>by
   rcases z with z|⟨t,ht,_⟩
   ·exact hd v b z
   ·cases ht⟩
 obtain⟨zA,xR,t7,t8,t9,oJ,rfl,_,C',Bl⟩:=J2
 refine⟨_,?_,zA,xR,t7,t8,t9,oJ,rfl,(λx z=>by cases z),C',λv b z=>Bl v b ?_⟩
 ·simp! only [Kj,sD,e1] at e2⊢;simp! only [e2]
 ·rcases z with z|⟨c,e,a1,a2,a3⟩
  ·exact .inl z
  ·obtain⟨a4,a5⟩:=(hT v e).1 a2
   exact .inr ⟨(v,e),by simpa using a4,rfl,a5,c,a1,a3⟩
def Jj(F:aH)(hQ:Q.length<=36)(hs:∀u∈Q,∃T:List (List Int×Int),F "_law_steps" [A,B,af u]=.ok (.lst (T.map tK))/\∀v e,E u v e↔(v,e)∈T/\v∈Q)(j:Nat)(x:PV){ks:Ks}{ns:List Int}(C:Dg E Q s ks ns)(hd:∀v b,(∃i,i<=j/\Bf E s i v b)->∃m,au ks ns v=some m/\m<=b)(s7 s8 s9 jd:Ci.Slot):∃zA xR t7 t8 t9 oJ,(((Tg.one 6).put x (sD A B Z S Q ks ns s6 s7 s8 s9 jd)).bind λak=>aG F inR ak)=.ok (.nx (sD A B Z S Q zA xR (.val x) t7 t8 t9 oJ))/\Dg E Q s zA xR/\∀v b,(∃i,i<=j+1/\Bf E s i v b)->∃m,au zA xR v=some m/\m<=b:=by
 obtain⟨ak,e2,J2⟩:=lE (body:=λx env=>((Tg.one 7).put x env).bind λak=>aG F Kj ak) (g:=af) (P:=λpre=>Jm E Q s A B Z S (.val x) none (λv b=>(∃i,i<=j/\Bf E s i v b)\/au ks ns v=some b\/∃u∈pre,∃c e,(∃i,i<=j/\Bf E s i u c)/\E u v e/\b=c+e)) ks [] (sD A B Z S Q ks ns (.val x) s7 s8 s9 jd) (λu hu pre env hj=>by
  obtain⟨n,hn⟩:=C.has hu
  obtain⟨T,e1,hT⟩:=hs u (C.Ax u n hn).1
  obtain⟨ak,e,J⟩:=Gq F hQ _ (c0:=n) (.inr (.inl hn)) e1 hT env hj
  refine⟨ak,e,J.mono λv b z=>?_⟩
  rcases z with z|z|⟨u',hu',c,e',a1,a2,a3⟩
  ·exact .inl (.inl z)
  ·exact .inl (.inr (.inl z))
  ·rcases zzm.1 hu' with rfl|hu'
   ·exact .inr ⟨c,e',.inl a1,a2,a3⟩
   ·exact .inl (.inr (.inr ⟨u',hu',c,e',a1,a2,a3⟩))) ⟨ks,ns,s7,s8,s9,jd,rfl,(λx z=>by cases z),C,λv b z=>by
   rcases z with z|z|⟨u,hu,_⟩
   ·exact hd v b z
   ·exact⟨b,z,Int.le_refl _⟩
   ·cases hu⟩
 obtain⟨zA,xR,t7,t8,t9,oJ,rfl,_,C',Bl⟩:=J2
 refine⟨zA,xR,t7,t8,t9,oJ,?_,C',λv b z=>Bl v b ?_⟩
 ·have l:=Nat.le_of_lt (C.le hQ)
  have e3:dN .lY [.bw ks (ns.map .int)]=.ok (.lst (ks.map af)):=if_pos l
  simp! only [inR,sD] at e2⊢;simp! only [e3,e2]
 ·obtain⟨i,hi,w⟩:=z
  cases w with
  |here=>exact .inl ⟨0,Nat.zero_le _,.here⟩
  |@go i u _ d e w he=>
   obtain⟨m,hm,_⟩:=hd u d ⟨i,by omega,w⟩
   exact .inr (.inr ⟨u,by simpa using cO.1 ((bg u C.len).trans (by rw [hm];rfl)),d,e,⟨i,by omega,w⟩,he,rfl⟩)
theorem vn(F:aH)(hQ:Q.length<=36)(hs:∀u∈Q,∃T:List (List Int×Int),F "_law_steps" [A,B,af u]=.ok (.lst (T.map tK))/\∀v e,E u v e↔(v,e)∈T/\v∈Q):∀(P:Ks) (j:Nat) (ks:Ks) (ns:List Int) (s6 s7 s8 s9 jd:Ci.Slot),Dg E Q s ks ns->(∀v b,(∃i,i<=j/\Bf E s i v b)->∃m,au ks ns v=some m/\m<=b)->∃zA xR t6 t7 t8 t9 oJ,forL (λx env=>((Tg.one 6).put x env).bind λak=>aG F inR ak) (P.map af) (sD A B Z S Q ks ns s6 s7 s8 s9 jd)=.ok (.nx (sD A B Z S Q zA xR t6 t7 t8 t9 oJ))/\Dg E Q s zA xR/\∀v b,(∃i,i<=j+P.length/\Bf E s i v b)->∃m,au zA xR v=some m/\m<=b
 |[],j,ks,ns,s6,s7,s8,s9,jd,C,hd=>⟨ks,ns,s6,s7,s8,s9,jd,rfl,C,hd⟩
 |x::P,j,ks,ns,s6,s7,s8,s9,jd,C,hd=>by
  obtain⟨k1,n1,t7,t8,t9,oJ,e1,C1,d1⟩:=Jj F (A:=A) (B:=B) (Z:=Z) (S:=S) (s6:=s6) hQ hs j (af x) C hd s7 s8 s9 jd
  obtain⟨k2,n2,u6,u7,u8,u9,u10,e2,C2,d2⟩:=vn F hQ hs P (j+1) k1 n1 (.val (af x)) t7 t8 t9 oJ C1 d1
  refine⟨k2,n2,u6,u7,u8,u9,u10,?_,C2,λv b ⟨i,hi,w⟩=>d2 v b ⟨i,by rw [zzL] at hi;omega,w⟩⟩
  simp! [zzF,forL,e1,qg,e2]
end
theorem nq{α:Type}:∀(ps:List (List Int×α)) (ks:Ks) (vs:List α),(ks++ps.map (·.1)).Nodup->en ps ks vs=(ks++ps.map (·.1),vs++ps.map (·.2))
 |[],ks,vs,_=>by simp [en]
 |p::ps,ks,vs,h=>by
  have hn:cD ks p.1=false:=by
   cases hx:cD ks p.1 with
   |false=>rfl
   |true=>
    have:=(List.nodup_append.1 h).2.2 _ (cO.1 hx) p.1 (by simp)
    exact absurd rfl this
  have hm:=nq ps (ks++[p.1]) (vs++[p.2]) (by rw [List.append_assoc];exact h)
  rw [en,bA,bf,hn,if_neg (by simp),if_neg (by simp),hm,List.append_assoc,List.append_assoc]
  rfl
def Mm(F:aH)(aa:List Str)(sl:Bool)(cl pr z:Int)(f:List PV->Res PV):Prop:=∀u,dP aa u->∃ks ns,f [fl aa,wk sl cl pr,.int z,af u]=.ok (.bw ks (ns.map .int))/\(∀k n,au ks ns k=some n->dD (Ew (E1 aa sl cl pr) z) u k n)/\∀k c,dD (Ew (E1 aa sl cl pr) z) u k c->∃n,au ks ns k=some n/\n<=c
def xK(F:aH){aa:List Str}{w:Nat}(L:Fl aa w){sl:Bool}{cl pr:Int}(V:Wk cl pr){z:Int}(hb:A1 F z)(hk:AK (F "_law_spots"))(hs:gb F)(hw:∀u,dP aa u->∃kr Vr,j2 (Ew (E1 aa sl cl pr) z) u kr Vr):Mm F aa sl cl pr z (av F cu):=by
 intro u ou;obtain⟨S,e1,hl,hS,hm⟩:=hk aa L.rZ
 have mQ:∀v,v∈S.filter (λv=>decide (er z v=er z u))↔dP aa v/\er z v=er z u:=λv=>by rw [List.mem_filter,hm,zzN]
 generalize hq:S.filter (λv=>decide (er z v=er z u))=Q at mQ
 have lQ:Q.length<=36:=by rw [<-hq];exact zzU (List.length_filter_le ..) hl
 have uQ:=(mQ u).2 ⟨ou,rfl⟩
 have st:∀v∈Q,∃T:List (List Int×Int),F "_law_steps" [fl aa,wk sl cl pr,af v]=.ok (.lst (T.map tK))/\∀x e,Ew (E1 aa sl cl pr) z v x e↔(x,e)∈T/\x∈Q:=λv hv=>by
  obtain⟨ho,hbk⟩:=(mQ v).1 hv
  obtain⟨r,c,rfl,ho⟩:=ho
  obtain⟨T,e,_,_,b⟩:=hs aa w L sl cl pr V r c ho
  refine⟨T,e,λx e=>?_⟩
  rw [b,mQ];exact⟨λh=>⟨h.1,(fk L V h.1).2.2,h.2.trans hbk⟩,λh=>⟨h.1,h.2.2.trans hbk.symm⟩⟩
 have g0:∀k n,au [u] [(0:Int)] k=some n->u=k/\n=0:=λk n h=>by
  simp! [au] at h;split at h
  ·rename_i z;cases h;exact⟨z,rfl⟩
  ·cases h
 obtain⟨ks,ns,t6,t7,t8,t9,oJ,e2,C,hd⟩:=vn F (E:=Ew (E1 aa sl cl pr) z) (Q:=Q) (s:=u) (A:=fl aa) (B:=wk sl cl pr) (Z:=.int z) (S:=af u) lQ st Q 0 [u] [0] .no .no .no .no .no ⟨rfl,by simp,λk n h=>by obtain⟨rfl,rfl⟩:=g0 k n h;exact⟨uQ,.here⟩⟩ (λv b ⟨i,hi,h⟩=>by
  cases h with
  |here=>exact⟨0,by simp [au],Int.le_refl _⟩
  |go _ _=>omega)
 refine⟨ks,ns,?_,λk n h=>(C.Ax k n h).2,λk c h=>?_⟩
 ·have l:(S.map af).length<dF:=zzV (m:=36) (by rw [zzl];exact hl) (by decide)
  have e3:=hb u (o2 ou)
  have c1:aP (λx=>((Tg.one 0).put x [.no,.val (af u),.val (.int z)]).bind λak=>(aD F (.cmp .eq (.call "_law_block" (.cons (.var 0) (.cons (.var 2) .nil))) (.call "_law_block" (.cons (.var 1) (.cons (.var 2) .nil)))) ak).bind λt=>nL t λt=>if t then(aD F (.var 0) ak).bind λy=>.ok (some y) else .ok none) (S.map af)=.ok (Q.map af):=by
   rw [bZ (p:=af) (q:=af) (g:=λv=>decide (er z v=er z u)) λv hv=>?_,hq]
   simp! only [hb v (o2 ((hm v).1 hv)),e3,MN];cases decide (er z v=er z u)<;>rfl
  simp! only [] at c1;simp! only [inR,Kj,FK,sD] at e2;simp! only [cu,e1,l,c1,dA,e2,zf]
 ·obtain⟨kr,Vr,R⟩:=hw u ou
  obtain⟨q,g1,g2⟩:=eK R h
  obtain⟨j,h1,h2⟩:=nJ R (λ_ _ _ h=>(fk L V h.1).1) (q.1.toNat+1) k q g1 (by have:=(R.bd k q g1).1;omega)
  have Tv:kr.length<=Q.length:=uX R.nr λv hv=>by
   have:(au kr Vr v).isSome=true:=by rw [<-bg v R.len];exact cO.2 hv
   obtain⟨q',Ow⟩:=zzp.1 this
   obtain⟨a,b,_⟩:=yW L V ou (R.Ax v q' Ow).2
   exact(mQ v).2 ⟨a,b⟩
  have:=List.length_filter_le (λk=>decide (rW kr Vr k<=q.1)) kr
  obtain⟨n,n1,n2⟩:=hd k q.1 ⟨j,by omega,h1⟩
  exact⟨n,n1,by omega⟩
theorem FA:∀T:List (List Int×Int),tZ (T.map tK)=some (T.map λt=>(t.1,PV.int t.2))
 |[]=>rfl
 |t::T=>by
  show(fh (af t.1)).bind (λk'=>(tZ (T.map tK)).map ((k',PV.int t.2)::·))=_
  rw [dA,FA T]
  rfl
def Ho{T:List (List Int×Int)}(nd:T.Pairwise λa b=>a.1≠b.1):dN .dict [.lst (T.map tK)]=.ok (.bw (T.map (·.1)) (T.map λt=>.int t.2)):=by
 show(Res.of (tZ _)).bind _=_
 rw [FA];show Res.ok (PV.bw (en (T.map λt=>(t.1,PV.int t.2)) [] []).1 (en (T.map λt=>(t.1,PV.int t.2)) [] []).2)=_
 rw [nq _ _ _ (by
  rw [List.nil_append,List.map_map];exact List.pairwise_map.2 nd)]
 simp [Function.comp_def]
theorem Bc:∀{T:List (List Int×Int)} {v:List Int} {e:Int},(T.Pairwise λa b=>a.1≠b.1)->(v,e)∈T->au (T.map (·.1)) (T.map λt=>PV.int t.2) v=some (.int e)
 |t::T,v,e,nd,h=>by
  obtain⟨n1,n2⟩:=List.pairwise_cons.1 nd
  show(if t.1=v then some (PV.int t.2) else au (T.map (·.1)) (T.map λt=>PV.int t.2) v)=_
  rcases zzm.1 h with h|h
  ·rw [<-h,if_pos rfl]
  ·rw [if_neg (n1 _ h)];exact Bc n2 h
def HQ(F:aH){aa:List Str}{w:Nat}(L:Fl aa w){sl:Bool}{cl pr:Int}(V:Wk cl pr){z:Int}(hb:A1 F z)(hi:Mm F aa sl cl pr z (F "_law_inside"))(hs:gb F){G:Ks}{u v:List Int}{e:Int}(h:EH aa sl cl pr z G u v e):av F cZ [fl aa,wk sl cl pr,.int z,af u,af v]=.ok (.int e):=by
 obtain⟨ou,_,h⟩:=h
 have e1:=hb u (o2 ou)
 rcases h with⟨_,h1,h2⟩|⟨h1,h2⟩
 ·obtain⟨ov,hv,_⟩:=yW L V ou h1
  have e2:=hb v (o2 ov)
  obtain⟨ks,ns,e3,a,b⟩:=hi u ou
  obtain⟨n,n1,n2⟩:=b v e h1
  have n3:=h2 n (a v n n1)
  have ne:n=e:=by omega
  have e4:(au ks (ns.map PV.int) v).getD .aC=.int e:=by rw [gh,n1,ne];rfl
  simp! only [cZ,e1,e2,MN,hv,decide_true,e3,dA,e4]
 ·obtain⟨p1,p2,ov⟩:=fk L V h1
  have e2:=hb v (o2 ov)
  obtain⟨r,c,rfl,ho⟩:=ou
  obtain⟨T,e3,lT,nd,hT⟩:=hs aa w L sl cl pr V r c ho
  have e5:=Ho nd
  have e4:(au (T.map (·.1)) (T.map λt=>PV.int t.2) v).getD .aC=.int e:=by rw [Bc nd ((hT v e).2 h1)];rfl
  have xS:¬er z [r,c]=er z v:=λz=>h2 z.symm
  simp! only [cZ,e1,e2,MN,xS,decide_false,e3,e5,dA,e4]
def yq{S:Ks}{m:Int}(h0:0<=m)(h:m<S.length):∃u∈S,aE (.lst (S.map af)) (.int m)=.ok (af u):=by
 obtain⟨k,rfl⟩:=zzw h0
 have hk:k<S.length:=by omega
 refine⟨S[k],List.getElem_mem hk,?_⟩;show Res.of (pS (S.map af) (k:Int))=_
 rw [jm (by simpa using hk),List.getElem_map]
 rfl
def j9{E:List Int->List Int->Int->Prop}{s u:List Int}{l:Ks}{d:Int}(h:rY E s u l d):dD E s u d:=by
 induction h with
 |here=>exact .here
 |go _ he ih=>exact ih.go he
def rM{E:List Int->List Int->Int->Prop}(hE:∀u v e,E u v e->0<e){s g:List Int}{l:Ks}{d:Int}(h:rY E s g l d):∃r:Ks,((l.reverse=[s]/\g=s/\r=[])\/l.reverse=s::(r++[g]))/\∀x∈r,(∃a e,E a x e)/\∃c,c<d/\dD E s x c:=by
 induction h with
 |here=>exact⟨[],.inl ⟨rfl,rfl,rfl⟩,λx h=>nomatch h⟩
 |@go u v l d e h he ih=>
  have p:=hE _ _ _ he
  obtain⟨r,a,b⟩:=ih
  rcases a with⟨a,_,rfl⟩|a
  ·exact⟨[],.inr (by rw [List.reverse_cons,a];rfl),λx h=>nomatch h⟩
  ·refine⟨r++[u],.inr (by rw [List.reverse_cons,a];simp),λx hx=>?_⟩
   rcases List.mem_append.1 hx with hx|hx
   ·obtain⟨b1,c,b2,b3⟩:=b x hx
    exact⟨b1,c,by omega,b3⟩
   ·rw [zzi.1 hx];refine⟨?_,d,by omega,j9 h⟩;cases h with
    |here=>
     have:=congrArg List.length a
     simp at this
    |go _ xV=>exact⟨_,_,xV⟩
def wF{E:List Int->List Int->Int->Prop}{s g:List Int}{l:Ks}{d:Int}(h:rY E s g l d):∃es:List Int,es.length+1=l.length/\es.sum=d/\(∃t,l=g::t)/\∀i e,es[i]?=some e->∃a b,l.reverse[i]?=some a/\l.reverse[i+1]?=some b/\E a b e:=by
 induction h with
 |here=>exact⟨[],rfl,rfl,⟨_,rfl⟩,λi e h=>by cases h⟩
 |@go u v l d e h he ih=>
  obtain⟨es,h1,h2,⟨t,rfl⟩,h3⟩:=ih
  refine⟨es++[e],by simp! [zzM,zzL,List.length_nil] at h1⊢;omega,by simp [h2],⟨_,rfl⟩,λi x hx=>?_⟩
  rw [List.reverse_cons];have hl:(u::t).reverse.length=es.length+1:=by rw [List.length_reverse];exact h1.symm
  by_cases hi:i<es.length
  ·rw [zzr hi] at hx;obtain⟨a,b,g1,g2,g3⟩:=h3 i x hx
   exact⟨a,b,by rw [zzr (by omega)];exact g1,by rw [zzr (by omega)];exact g2,g3⟩
  ·rw [zzs (by omega)] at hx;have Nh:i=es.length:=by
    cases hk:i-es.length with
    |zero=>omega
    |succ n=>rw [hk] at hx;cases hx
   subst Nh;rw [Nat.sub_self] at hx;cases hx;refine⟨u,v,?_,?_,he⟩
   ·have ht:t.reverse.length=es.length:=by rw [List.length_reverse];simp! [zzL] at h1;omega
    rw [zzr (by omega),List.reverse_cons,zzs (by omega),ht,Nat.sub_self]
    rfl
   ·rw [zzs (by omega),hl,Nat.sub_self]
    rfl
def DN{α:Type}(s g:α)(r:List α):sU (s::(r++[g])) (some 1) (some (-1))=r:=by
 unfold sU;have h1:HT.mv (s::(r++[g])).length 0 (some 1)=1:=by
  rw [show(1:Int)=((1:Nat):Int) from rfl,HT.CN];simp! [zzL,zzM,List.length_nil];omega
 have h2:HT.mv (s::(r++[g])).length (s::(r++[g])).length (some (-1))=r.length+1:=by
  unfold HT.mv;simp! [zzL,zzM,List.length_nil];rw [if_pos (by decide)];omega
 rw [h1,h2];simp
def NU{es:List Int}(h:∀e∈es,0<e/\e<=1080)(hl:es.length<dF):dN .sum [.lst (es.map .int)]=.ok (.int es.sum):=by
 show(Res.of (intsOf (es.map .int))).bind _=_
 rw [iC];refine if_pos ?_;rw [zza];refine⟨zzT.2 λe he=>?_,zzh hl⟩
 have:=h e he
 rw [zza];exact⟨zzh (by omega),zzh (by omega)⟩
def OR(es:List Int):iW .aC (.lst (es.map .int))=.ok (.bl true):=by
 have h1:(es.map PV.int).all (Ci.plain 9)=true:=uy 9 es
 have h2:pU .aC (es.map .int)=false:=by
  unfold pU;rw [List.any_map,List.any_eq_false];intro i _ h;cases h
 show(if(Ci.plain 9 .aC&&(es.map PV.int).all (Ci.plain 9))=true then Res.ok (PV.bl (!pU .aC (es.map .int))) else .bad)=_
 rw [h1,h2]
 rfl
def sZ{W:Ks}{k:Nat}{x:List Int}(hk:W[k]?=some x):aE (.lst (W.map af)) (.int (k:Nat))=.ok (af x):=by
 show Res.of (pS (W.map af) (k:Int))=_
 rw [jm (k:=k) (by simpa using (zzH.1 hk).1),List.getElem_map,(zzH.1 hk).2]
 rfl
noncomputable def FZ:Ss:=#v[.set 12 (.comp 1 [2,10,4,1] (.one 0) (.lF (¬1) (.blt .len #v[!10])) (.call "_law_hop" #v[!4,!1,!3,.sub (!2) (.bin .sub (!0) (¬1)),.sub (!2) (!0)])),.ret (.and (.cmp .jX (.cst .aC) (!12)) (.cmp .eq (.blt .sum #v[!12]) (!9)))]
noncomputable def G8:Ss:=.cons (.set 11 (.call "_law_gates" #v[!1,!2,!4])) (.cons (.ite (.cmp .ne (.bT 1 [11] (.one 0) (.seq (.slice (!10) (.some (¬1)) (.some (.neg (¬1))))) (.cmp .jX (!0) (!1)) (!0)) (.lst .nil)) #v[.ret (.cst (.bl false))] .nil) FZ)
noncomputable def Rz:Ss:=.cons (.FI (.two 9 10) (!8)) (.cons (.ite (.or (.cmp .ne (!9) (.sub (!7) (¬0))) (.or (.cmp .ne (.sub (!10) (¬0)) (!5)) (.cmp .ne (.sub (!10) (.neg (¬1))) (!6)))) #v[.ret (.cst (.bl false))] .nil) G8)
noncomputable def Np:Ss:=.cons (.ite (.or (.cmp .is (!7) (.cst .aC)) (.cmp .is (!8) (.cst .aC))) #v[.ret (.and (.cmp .is (!7) (.cst .aC)) (.cmp .is (!8) (.cst .aC)))] .nil) Rz
def yE{i:Int}(h0:0<=i)(h1:i<=100000):aJ i=true:=by
 unfold aJ;rw [zza];exact⟨zzh (by omega),zzh (by omega)⟩
section
variable{aa:List Str}{w:Nat}{sl:Bool}{cl pr z:Int}{N Sp Du An:PV}{F:aH}{s g:List Int}
def Cm(aa:List Str)(sl:Bool)(cl pr z:Int)(f:List PV->Res PV):Prop:=∀G u v e,EH aa sl cl pr z G u v e->f [fl aa,wk sl cl pr,.int z,af u,af v]=.ok (.int e)
def Bv(hh:Cm aa sl cl pr z (F "_law_hop")){G:Ks}{es:List Int}{W:Ks}{d:Int}{Dr:PV}(h1:es.length+1=W.length)(hl:W.length<=50000)(h2:es.sum=d)(he:∀i e,es[i]?=some e->∃a b,W[i]?=some a/\W[i+1]?=some b/\EH aa sl cl pr z G a b e)(hp:∀u v e,EH aa sl cl pr z G u v e->0<e/\e<=1080):
 aG F FZ [.val N,.val (fl aa),.val (wk sl cl pr),.val Sp,.val (.int z),.val (af s),.val (af g),.val Du,.val An,.val (.int d),.val (.lst (W.map af)),.val Dr,.no]=.ok (.rt (.bl true)):=by
 have l:es.length<dF:=zzV (m:=50000) (by omega) (by decide)
 have s1:(aJ 1&&aJ ((W.map af).length:Int))=true:=by
  rw [zza];exact⟨by decide,yE (by omega) (by rw [zzl];omega)⟩
 have rg:e6 1 (((W.map af).length:Int)-1).toNat=(List.range es.length).map λi:Nat=>PV.int (1+(i:Int)):=by
  rw [zzl,show((W.length:Int)-1).toNat=es.length by omega]
  rfl
 have l2:((List.range es.length).map λi:Nat=>PV.int (1+(i:Int))).length<dF:=by rw [zzl,List.length_range];exact l
 have c:aP (λx=>((Tg.one 0).put x [.no,.val (wk sl cl pr),.val (.lst (W.map af)),.val (.int z),.val (fl aa)]).bind λak=>(aD F (.call "_law_hop" (.cons (.var 4) (.cons (.var 1) (.cons (.var 3) (.cons (.sub (.var 2) (.bin .sub (.var 0) (.cst (.int 1)))) (.cons (.sub (.var 2) (.var 0)) .nil)))))) ak).bind λy=>.ok (some y)) ((List.range es.length).map λi:Nat=>PV.int (1+(i:Int)))=.ok (es.map .int):=by
  rw [ft (g:=λi:Nat=>PV.int (es.getD i 0)) λi hi=>?_]
  ·have:=congrArg (List.map PV.int) (range_getD 0 es)
   rw [List.map_map] at this;exact congrArg Res.ok this
  ·have hi:=List.mem_range.1 hi
   have hx:es[i]?=some (es.getD i 0):=by simp [zzK,zzg hi]
   obtain⟨a,b,g1,g2,g3⟩:=he i _ hx
   have e1:aE (.lst (W.map af)) (.int (1+(i:Int)-1))=.ok (af a):=by
    rw [show 1+(i:Int)-1=((i:Nat):Int) by omega];exact sZ g1
   have e2:aE (.lst (W.map af)) (.int (1+(i:Int)))=.ok (af b):=by
    rw [show 1+(i:Int)=((i+1:Nat):Int) by omega];exact sZ g2
   simp! only [e1,e2,hh G a b _ g3]
 have e3:=OR es
 have e4:=NU (es:=es) (λe xV=>by
  obtain⟨i,hi⟩:=List.getElem?_of_mem xV
  obtain⟨a,b,_,_,g3⟩:=he i e hi
  exact hp a b e g3) l
 rw [h2] at e4;dsimp! only [J] at c;dsimp! only [FZ,s1,rg,l2,c,e3,e4]
def D5(hh:Cm aa sl cl pr z (F "_law_hop")){G Gl:Ks}(hg:F "_law_gates" [fl aa,wk sl cl pr,.int z]=.ok (.lst (Gl.map af)))(hG:∀x,x∈G->x∈Gl){l:Ks}{d:Int}(ht:rY (EH aa sl cl pr z (G++[g])) s g l d)(hd:d<=38880)(hm:∀c,dD (EH aa sl cl pr z (G++[g])) s g c->d<=c)(hp:∀u v e,EH aa sl cl pr z (G++[g]) u v e->0<e/\e<=1080):
 aG F G8 [.val N,.val (fl aa),.val (wk sl cl pr),.val Sp,.val (.int z),.val (af s),.val (af g),.val Du,.val An,.val (.int d),.val (.lst (l.reverse.map af)),.no,.no]=.ok (.rt (.bl true)):=by
 have ll:=vw (λu v e h=>(hp u v e h).1) ht
 obtain⟨es,h1,h2,_,h3⟩:=wF ht
 have e1:=Bv (F:=F) (N:=N) (Sp:=Sp) (Du:=Du) (An:=An) (s:=s) (g:=g) hh (W:=l.reverse) (Dr:=.lst (Gl.map af)) (by rw [List.length_reverse];exact h1) (by rw [List.length_reverse];omega) h2 h3 hp
 obtain⟨r,a,b⟩:=rM (λu v e h=>(hp u v e h).1) ht
 have hr:∀x∈r,x∈Gl:=λx hx=>by
  obtain⟨⟨y,e,he⟩,c,h1,h2⟩:=b x hx
  rcases List.mem_append.1 he.2.1 with h|h
  ·exact hG x h
  ·rw [zzi.1 h] at h2;have:=hm c h2
   omega
 have cut:sU (l.reverse.map af) (some 1) (some (-1))=r.map af:=by
  rcases a with⟨a,_,rfl⟩|a
  ·rw [a];rfl
  ·rw [a,zzF,List.map_append];exact DN ..
 have e2:gO (.lst (l.reverse.map af)) (some 1) (some (-1))=.ok (.lst (r.map af)):=congrArg (λz=>Res.ok (PV.lst z)) cut
 have lr:(r.map af).length<dF:=by
  refine zzV (m:=50000) ?_ (by decide);rw [<-cut];unfold sU;rw [List.length_take,List.length_drop,zzl,List.length_reverse];omega
 have c1:aP (λx=>((Tg.one 0).put x [.no,.val (.lst (Gl.map af))]).bind λak=>(aD F (.cmp .jX (.var 0) (.var 1)) ak).bind λt=>nL t λt=>if t then(aD F (.var 0) ak).bind λy=>.ok (some y) else .ok none) (r.map af)=.ok []:=by
  have:=bZ (f:=λx=>((Tg.one 0).put x [.no,.val (.lst (Gl.map af))]).bind λak=>(aD F (.cmp .jX (.var 0) (.var 1)) ak).bind λt=>nL t λt=>if t then(aD F (.var 0) ak).bind λy=>.ok (some y) else .ok none) (p:=af) (q:=af) (g:=λ_=>false) (xs:=r) λx hx=>by
   have q:=NW x Gl
   rw [zzh (hr x hx)] at q;simp! only [q]
  rw [this,List.filter_eq_nil_iff.2 (by simp)]
  rfl
 have q2:hW (.lst []) (.lst [])=.ok (.bl false):=rfl
 dsimp! only [J] at c1;dsimp! only [G8,hg,e2,lr,c1,q2,e1]
theorem NC(d:Int)(p:PV):rq (.tup [.int d,p]) .aC=.ok (.bl false):=rfl
theorem OD:rq .aC .aC=.ok (.bl true):=rfl
def F6(L:Fl aa w)(V:Wk cl pr)(hw:∀u,dP aa u->∃kr Vr,j2 (Ew (E1 aa sl cl pr) z) u kr Vr)(hh:Cm aa sl cl pr z (F "_law_hop")){G Gl:Ks}(hg:F "_law_gates" [fl aa,wk sl cl pr,.int z]=.ok (.lst (Gl.map af)))(Si:∀u,u∈Gl↔dP aa u/\∃v e,Eo (E1 aa sl cl pr) z u v e)(hG:∀u,u∈G↔dP aa u/\∃v e,Eo (E1 aa sl cl pr) z u v e)
 (os:dP aa s) {p q:PV} (h7:NK (E1 aa sl cl pr) s g p) (h8:(q=.aC/\∀d,¬dD (EH aa sl cl pr z (G++[g])) s g d)\/∃d l,q=.tup [.int d,.lst (l.map af).reverse]/\rY (EH aa sl cl pr z (G++[g])) s g l d/\d<=38880/\∀c,dD (EH aa sl cl pr z (G++[g])) s g c->d<=c):
 aG F Np [.val N,.val (fl aa),.val (wk sl cl pr),.val Sp,.val (.int z),.val (af s),.val (af g),.val p,.val q,.no,.no,.no,.no]=.ok (.rt (.bl true)):=by
 have cut:∀d,dD (E1 aa sl cl pr) s g d->∃d',dD (EH aa sl cl pr z (G++[g])) s g d'/\d'<=d:=λd hd=>
  oZ L V hw (λu v e h=>List.mem_append.2 (.inl ((hG u).2 ⟨by obtain⟨r,c,_,_,h1,_,h3,_⟩:=h.1;exact⟨r,c,h1,h3⟩,v,e,h⟩))) os (by simp) hd
 have hp:∀u v e,EH aa sl cl pr z (G++[g]) u v e->0<e/\e<=1080:=λu v e h=>⟨(qc L V hw h).1,(qc L V hw h).2.1⟩
 rcases h7 with⟨rfl,h7⟩|⟨d7,l7,rfl,t7,_,m7⟩
 ·rcases h8 with⟨rfl,_⟩|⟨d8,l8,rfl,t8,_,_⟩
  ·simp! only [Np,OD]
  ·exact absurd (ny (j9 t8)) (h7 _)
 ·have w7:dD (E1 aa sl cl pr) s g d7:=pA (λ_ _ _ h=>h) (j9 t7)
  rcases h8 with⟨rfl,h8⟩|⟨d8,l8,rfl,t8,b8,m8⟩
  ·obtain⟨d',h,_⟩:=cut d7 w7
   exact absurd h (h8 _)
  ·have hd:d8=d7:=by
    have h1:=m7 _ (ny (j9 t8))
    obtain⟨d',h,h2⟩:=cut d7 w7
    have h3:=m8 _ h
    omega
   subst hd;have rv:(l8.map af).reverse=l8.reverse.map af:=List.map_reverse.symm
   rw [rv];have e1:=D5 (F:=F) (N:=N) (Sp:=Sp) (Du:=.tup [.int d8,.lst (l7.map af)]) (An:=.tup [.int d8,.lst (l8.reverse.map af)]) hh hg (λx hx=>(Si x).2 ((hG x).1 hx)) t8 b8 m8 hp
   obtain⟨r,a,_⟩:=rM (λu v e h=>(hp u v e h).1) t8
   have f0:aE (.lst (l8.reverse.map af)) (.int 0)=.ok (af s):=by
    rcases a with⟨a,_⟩|a<;>rw [a]<;>exact sZ (W:=s::_) (k:=0) rfl
   have f1:aE (.lst (l8.reverse.map af)) (.int (-1))=.ok (af g):=by
    rcases a with⟨a,rfl,_⟩|a
    ·rw [a];rfl
    ·rw [a,zzF,List.map_append,<-List.cons_append];exact vo _ _
   have t0:aE (.tup [.int d8,.lst (l7.map af)]) (.int 0)=.ok (.int d8):=rfl
   have n1:=LZ s s
   have n2:=LZ g g
   rw [zzh rfl] at n1 n2;have n3:(!(d8==d8))=false:=by simp
   simp! only [Np,Rz,NC,t0,n3,f0,n1,f1,n2,e1]
end
def Dd(F:aH)(hp:l0 F)(h1:∀ns,∃aa w,Fl aa w/\F "_law_floor" [f7 ns,.int 0,.int 5]=.ok (fl aa))(h2:∀ns,∃sl cl pr,Wk cl pr/\F "_law_walker" [f7 ns,.int 40]=.ok (wk sl cl pr))(hk:AK (F "_law_spots"))
 (hl:∀aa w,Fl aa w->∀sl cl pr,Wk cl pr->∀s g,dP aa s->dP aa g->∃p,F "least_way" [fl aa,wk sl cl pr,af s,af g]=.ok p/\NK (E1 aa sl cl pr) s g p)
 (hb:∀aa w,Fl aa w->∀sl cl pr,Wk cl pr->∀z,1<=z->z<=6->(∀u,dP aa u->∃kr Vr,j2 (Ew (E1 aa sl cl pr) z) u kr Vr)/\Cm aa sl cl pr z (F "_law_hop")/\(∃Gl:Ks,F "_law_gates" [fl aa,wk sl cl pr,.int z]=.ok (.lst (Gl.map af))/\∀u,u∈Gl↔dP aa u/\∃v e,Eo (E1 aa sl cl pr) z u v e)/\∃G:Ks,(∀u,u∈G↔dP aa u/\∃v e,Eo (E1 aa sl cl pr) z u v e)/\∀s g,dP aa s->dP aa g->∃q,F "by_gates" [fl aa,wk sl cl pr,.int z,af s,af g]=.ok q/\((q=.aC/\∀d,¬dD (EH aa sl cl pr z (G++[g])) s g d)\/∃d l,q=.tup [.int d,.lst (l.map af).reverse]/\rY (EH aa sl cl pr z (G++[g])) s g l d/\d<=38880/\∀c,dD (EH aa sl cl pr z (G++[g])) s g c->d<=c))
 (ns:List Int):av F bY [f7 ns]=.ok (.bl true):=by
 obtain⟨aa,w,L,e1⟩:=h1 ns
 obtain⟨sl,cl,pr,V,e2⟩:=h2 ns
 obtain⟨S,e3,_,_,hm⟩:=hk aa L.rZ
 have eN:iB (.lst (S.map af)) (.lst [])=.ok (.bl (decide (S=[]))):=SV S []
 have db:bY.body=(.cons (.set 1 (.call "_law_floor" #v[!0,¬0,¬5])) (.cons (.set 2 (.call "_law_walker" #v[!0,¬40])) (.cons (.set 3 (.call "_law_spots" #v[!1])) (.cons (.ite (.cmp .eq (!3) (.lst .nil)) #v[.ret (.cst (.bl true))] .nil) (.cons (.set 4 (.bin .add (¬1) (.call "_law_pick" #v[!0,¬45,¬6]))) (.cons (.set 5 (.sub (!3) (.call "_law_pick" #v[!0,¬50,.blt .len #v[!3]]))) (.cons (.set 6 (.sub (!3) (.call "_law_pick" #v[!0,¬51,.blt .len #v[!3]]))) (.cons (.set 7 (.call "least_way" #v[!1,!2,!5,!6])) (.cons (.set 8 (.call "by_gates" #v[!1,!2,!4,!5,!6])) Np))))))))):=rfl
 have st:cI bY [f7 ns]=[.val (f7 ns),.no,.no,.no,.no,.no,.no,.no,.no,.no,.no,.no,.no]:=rfl
 have ar:cL bY [f7 ns]=true:=rfl
 unfold av;rw [ar,if_pos rfl,st,db]
 by_cases hS:S=[]
 ·rw [zzh hS] at eN;dsimp! only [e1,e2,e3,eN]
 ·rw [zz0 hS] at eN;have hlen:(0:Int)<S.length:=by have:=List.length_pos_iff.2 hS;omega
  obtain⟨x,ex,x0,x1⟩:=hp ns 45 6 (by decide) (by decide)
  obtain⟨y,ey,y0,y1⟩:=hp ns 50 S.length (by decide) hlen
  obtain⟨v,ev,v0,v1⟩:=hp ns 51 S.length (by decide) hlen
  obtain⟨s,hs,es⟩:=yq y0 y1
  obtain⟨g,hg,eg⟩:=yq v0 v1
  have os:=(hm s).1 hs
  have og:=(hm g).1 hg
  obtain⟨p,e7,le⟩:=hl aa w L sl cl pr V s g os og
  obtain⟨hw,hh,⟨Gl,eG,mG⟩,G,hG,hq⟩:=hb aa w L sl cl pr V (1+x) (by omega) (by omega)
  obtain⟨q,e8,h8⟩:=hq s g os og
  have eT:=F6 (F:=F) (N:=f7 ns) (Sp:=.lst (S.map af)) L V hw hh eG mG hG os le h8
  dsimp! only [e1,e2,e3,eN,ex,zzl,ey,ev,es,eg,e7,e8,eT]
noncomputable def vI:Ss:=#v[.ite (.not (.call "_law_once" #v[.comp 1 [1] (.one 0) (.seq (!0)) (.bin .add (!0) (.bin .mul (¬7919) (!1)))])) #v[.ret (.cst (.bl false))] .nil,.ite (.cmp .eq (!0) (.lst .nil)) #v[.brk] .nil]
def rP(F:aH)(ho:∀ns,F "_law_once" [f7 ns]=.ok (.bl true))(ns:List Int)(hl:ns.length<=63)(t:Int):aG F vI [.val (f7 ns),.val (.int t)]=.ok (if ns=[] then .bk [.val (f7 ns),.val (.int t)] else .nx [.val (f7 ns),.val (.int t)]):=by
 have l:ns.length<dF:=zzV hl (by decide)
 have s:(aK 7919||aK t)=true:=by rw [zzt];exact .inl (by decide)
 dsimp! only [vI,Nj,zzl,l];rw [ft (g:=λn:Int=>.int (n+7919*t)) (λn _=>by dsimp! only [s])]
 have e:=ho (ns.map λn=>n+7919*t)
 simp! [f7,List.map_map,Function.comp_def] at e;dsimp! only [e,eq_nil]
 by_cases h:ns=[]
 ·dsimp! only [h,decide_true]
 ·dsimp! only [h,decide_false]
def FV(F:aH)(ho:∀ns,F "_law_once" [f7 ns]=.ok (.bl true))(ns:List Int)(hl:ns.length<=63):av F mV [f7 ns]=.ok (.bl true):=by
 have e:∃t:Int,forL (λx env=>((Tg.one 1).put x env).bind λak=>aG F vI ak) (e6 0 (5:Int).toNat) [.val (f7 ns),.no]=.ok (.nx [.val (f7 ns),.val (.int t)]):=by
  rw [show e6 0 (5:Int).toNat=[.int 0,.int 1,.int 2,.int 3,.int 4] from rfl]
  by_cases h:ns=[]
  ·refine⟨0,?_⟩;simp! [forL,M4,qg,List.set_cons_succ,List.set_cons_zero,rP F ho ns hl,if_pos h]
  ·refine⟨4,?_⟩;simp! [forL,M4,qg,List.set_cons_succ,List.set_cons_zero,rP F ho ns hl,h,if_false]
 obtain⟨t,e⟩:=e
 have s:aJ 5=true:=by decide
 dsimp! only [vI] at e;dsimp! only [mV,s,e]
def Kx(ns:List Int)(hl:ns.length<=63):av (den Qg) mV [f7 ns]=.ok (.bl true):=by
 have pick:∀F:aH,F "_law_pick"=av (den T1) bS->l0 F:=λF hF ns k q hk hq=>by
  rw [hF];exact De (den T1) (λns k hk=>by rw [Mp];exact EG _ ns k hk) ns k q hk hq
 have x8:∀F:aH,F "is_open"=av (den T8) cV->tR F:=λF hF aa R r c=>by
  rw [hF];exact CT _ (λr c=>by rw [LK];exact su _ (λi=>by rw [L3];exact iS _ i) r c) (λaa R r c=>by rw [LY];exact Kh _ aa R r c) aa R r c
 have rS:∀F:aH,F "need_open"=av (den T9) bu->o6 F:=λF hF aa R r c h=>by
  rw [hF];exact oT _ (x8 _ L7) aa R r c h
 have step:∀F:aH,F "step_cost"=av (den Hh) bq->tj F:=λF hF aa w L sl cl pr V r c r' c' h h'=>by
  rw [hF];exact CL _ (λr c r' c'=>by rw [DB];exact xo _ r c r' c') (λaa R r c r' c'=>by rw [CA];exact tY _ (x8 _ Ig) R r c r' c') (λaa w L r c h=>by rw [D8];exact vS _ (rS _ Cs) L h) L V h h'
 have Tf:Fw (den Br):=λaa R r c a b d e=>by
  rw [BB];exact Jy _ (x8 _ Gm) R a b d e
 have steps:∀F:aH,F "steps_from"=av (den Br) bo->pW F:=λF hF=>by
  unfold pW;rw [hF];exact zX _ (rS _ Bz) Tf (step _ DY)
 have Eu:pz (den M0):=by
  unfold pz;rw [B9];exact tW _ (steps _ EU) (step _ C3)
 have Of:JE (den JW):=by
  unfold JE;rw [D3];exact D2 _ Eu
 have spT:∀F:aH,F "spread_to"=av (den JW) cJ->∀aa w,Fl aa w->∀sl cl pr,Wk cl pr->∀r c,bV aa r c=true->∃kr Vr,F "spread_to" [fl aa,wk sl cl pr,.lst [sp r c]]=.ok (.bw kr (Vr.map val))/\j2 (Et aa sl cl pr) [r,c] kr Vr:=λF hF aa w L sl cl pr V r c h=>by
  rw [hF];exact qS _ (rS _ Ec) Of L V h
 have sV:∀F:aH,F "_law_steps"=av (den JV) aW->gb F:=λF hF=>by
  unfold gb;rw [hF];exact wt _ (λaa w L sl cl pr V r c r' c' h h' hf=>by rw [Dp];exact se _ L V h h' hf)
 have Bd:∀F:aH,F "_law_spots"=av (den T4) bC->uz F:=λF hF aa R=>by
  rw [hF];exact AO _ aa R
 refine FV _ (λns=>?_) ns hl;rw [Dm];refine Dd _ (pick _ H9) (λns=>by rw [Hf];exact vQ _ (pick _ Lq) ns 5 (by decide) (by decide)) (λns=>by rw [GK];exact wG _ (pick _ Km) ns 40 (by decide)) (oX (Bd _ Ju)) (λaa w L sl cl pr V s g os og=>?_) (λaa w L sl cl pr V z z1 z6=>?_) ns
 ·obtain⟨r,c,rfl,ho⟩:=os
  obtain⟨r',c',rfl,iF⟩:=og
  rw [CO];exact A8 _ (rS _ B7) (spT _ BR) (λE s kr Vr R hE k q hq=>by rw [EY];exact nj _ R hE (by decide) hq) aa w L sl cl pr V r c r' c' ho iF
 have d:0<z/\z<1073741824:=⟨by omega,by omega⟩
 have PR:∀F:aH,F "block_of"=av (den Nf) cF->qK F z:=λF hF u h=>by
  rw [hF];exact qE _ d u h
 have HE:∀F:aH,F "_law_block"=av (den LO) bM->A1 F z:=λF hF u h=>by
  rw [hF];exact xE _ d u h
 have st:∀F:aH,F "steps_from"=av (den Br) bo->∀u,dP aa u->TL (E1 aa sl cl pr u) (F "steps_from" [fl aa,wk sl cl pr,af u]) 9:=λF hF u hu=>by
  obtain⟨r,c,rfl,ho⟩:=hu
  exact steps F hF aa w L sl cl pr V r c ho
 have h2:∀u v e,E1 aa sl cl pr u v e->v.length=2:=λu v e h=>o2 (fk L V h).2.2
 have sw:∀u,dP aa u->∃kr Vr,den Mg "spread@steps_within" [.lst [af u],wk sl cl pr,.int z,fl aa]=.ok (.bw kr (Vr.map val))/\j2 (Ew (E1 aa sl cl pr) z) u kr Vr:=λu hu=>by
  rw [ED];exact Dt _ L V (λu hu=>by rw [BH];exact Eg _ (PR _ D0) (o2 hu) (λv e h=>h2 u v e h) (st _ DD u hu)) hu
 have hw:∀u,dP aa u->∃kr Vr,j2 (Ew (E1 aa sl cl pr) z) u kr Vr:=λu hu=>by
  obtain⟨kr,Vr,_,R⟩:=sw u hu
  exact⟨kr,Vr,R⟩
 have out:∀F:aH,F "steps_out"=av (den JQ) bR->∀u,dP aa u->TL (Eo (E1 aa sl cl pr) z u) (F "steps_out" [fl aa,wk sl cl pr,.int z,af u]) 9:=λF hF u hu=>by
  rw [hF];exact outF _ (PR _ Dv) (o2 hu) (λv e h=>h2 u v e h) (st _ CQ u hu)
 have P6:∀F:aH,F "need_size"=av (den Mz) bX->F "need_size" [.int z]=.ok .aC:=λF hF=>by
  rw [hF];exact o8 _ (λi=>by rw [Jc];exact iS _ i) z z1 (by omega)
 refine⟨hw,λG u v e h=>?_,?_,?_⟩
 ·rw [BQ];exact HQ _ L V (HE _ DR) (by rw [BW];exact xK _ L V (HE _ Dh) (oX (Bd _ GR)) (sV _ BK) hw) (sV _ D7) h
 ·rw [DM];exact vM _ L V (HE _ DH) (oX (Bd _ H8)) (sV _ Cr)
 ·obtain⟨S,e1,lS,_,hm⟩:=Jh (zV (den NA)) aa L.rZ
  obtain⟨G,e2,lG,hG⟩:=Gn (den JO) (P6 _ D1) lS hm (by rw [Ed];exact e1) (out _ By)
  refine⟨G,hG,λs g os og=>?_⟩
  rw [Di];obtain⟨kr,Vr,e3,R⟩:=DF (den MO) L V (G:=G++[g]) (A:=fl aa) (B:=wk sl cl pr) hw (λu hu=>by rw [Ea];exact Me _ (sw u hu) (out _ B2 u hu) _) os
  have no:∀u,dP aa u->den Cn "need_open" [fl aa,af u]=.ok .aC:=λu hu=>by
   obtain⟨r,c,rfl,ho⟩:=hu
   exact rS _ EC aa L.rZ r c ho
  exact Ts (den Cn) (P6 _ BJ) (no s os) (no g og) (by rw [CB];exact e2) lG (by rw [CD];exact e3) R (λk q hq=>by rw [ES];exact nj _ R (λu v e h=>(qc L V hw h).1) (by decide) hq)
end K81
namespace Hd
open PySem PySem.W L2
noncomputable abbrev fo(n:Str)(st:Stmt)(pm:Value)(c:Addr):Obj:=⟨.type "function",none,.func (fnOf n n (di st) (cU st) (aR st) .none .none .none pm none (.ref c) .none),#[]⟩
noncomputable abbrev co(n:Str)(a:Nat)(L A:Int)(r:Nat)(x y:Value)(q z:Nat):Obj:={cls:=.type "code",data:=.fields #[.str n a,.str n (a+1),.str "/claim/cut.py" (a+2),.int L 0,.int A 0,.int 0 0,.int 0 0,.int 3 0,.ref r,.bool Bool.true,.int 181 0,.ref (r+1),.none,x,y,.ref q,.int z 0,.int L 0,.str "/claim/cut.py" (z+1)]}
def ND(s:Stmt):Pos:=match s with
 |.FunctionDef _ _ _ _ _ _ _ _ _ p=>p
 |_=>⟨0,0,0,0⟩
def ent{K:Frag}{ts:List (Addr×Str)}{n:Str}{st:Stmt}(f c:Addr)(pm:Value)(a:nsIn K mainGlobals n=some (some (.ref f)):=by kernel_rfl)(l:K.lookup f=some (fo n st pm c):=by kernel_rfl)(d:codeIn K (.ref c) n=true:=by kernel_rfl)(k:keepIn K (.ref f)=true:=by kernel_rfl):Ci.w6 K ts false n st:=Ci.O1 a l d k
def w9{K:Frag}{ts:List (Addr×Str)}{n:Str}{st:Stmt}(f c p:Addr)(pm:Value)(ck:Ci.fq K c p)(m:(p,Ci.jz n)∈ts)(u:∀q∈ts,q.1=p->q.2=Ci.jz n)(a:nsIn K mainGlobals n=some (some (.ref f)):=by kernel_rfl)(l:K.lookup f=some (fo n st pm c):=by kernel_rfl)(d:codeIn K (.ref c) n=true:=by kernel_rfl)(k:keepIn K (.ref f)=true:=by kernel_rfl):Ci.w6 K ts true n st:=⟨f,_,_,_,_,_,_,_,_,_,a,l,d,k,λ_=>⟨c,p,rfl,ck,m,λq' h=>u _ h rfl⟩⟩
def ac{K:Frag}{ts:List (Addr×Str)}{Γ:Ci.Pg}{r:Ci.Row}{l:Ci.dJ}(e:Ci.w6 K ts r.hl r.h r.st)(s:Ci.bQ (Γ.at l r.hl) r.h r.d r.st)(t:Ci.AllK K ts Γ l)(a:(l.map (·.f)).contains r.f=false:=by decide+kernel)(b:(r.d.il.isNone==!Ci.gf r.f)=true:=by decide+kernel)(c:r.d.il.isNone=true->r.f=r.h:=by first|exact λ_=>rfl|exact λz=>absurd z (by decide)):Ci.AllK K ts Γ (r::l):=⟨e,s,⟨a,b,c⟩,t⟩
def zO{K L:Frag}{b:Addr}{o:Obj}(e:K.lookup b=some o):(K++L).lookup b=some o:=by
 rw [List.lookup_append,e]
 rfl
end Hd
namespace K81
open PySem L2 Ci
abbrev lw:=PySem.Challenge.rw_cellways_k81_whole_by_gates
def top(i:Nat):Stmt:=PySem.Challenge.pw_cellways_k81_whole_by_gates.main.body.getD i (.Pass ⟨0,0,0,0⟩)
abbrev m1:Value:=.str "cellways.floors" 239
abbrev m2:Value:=.str "cellways.ways" 366
abbrev m3:Value:=.str "cellways.sizes" 415
abbrev m4:Value:=.str "cellways.blocks" 424
abbrev m5:Value:=.str "law_cellways_k81_whole_by_gates" 474
noncomputable def K(P:Params):zz8:=[(2,{cls:=.none,data:=.dict #[]}),
 (3,{cls:=.type "dict",data:=.dict #[Hd.de P "__name__" 165 (.str "law_cellways_k81_whole_by_gates" 474),Hd.de P "__doc__" 166 (.none),Hd.de P "__package__" 167 (.none),Hd.de P "__loader__" 168 (.builtin "__main__.__loader__#opaque"),Hd.de P "__spec__" 169 (.none),Hd.de P "__annotations__" 170 (.ref 6),Hd.de P "__builtins__" 171 (.ref 4),Hd.de P "__file__" 173 (.str "/claim/cut.py" 172),Hd.de P "__cached__" 174 (.none),Hd.de P "FloorError" 206 (.ref 24),Hd.de P "NoSpot" 222 (.ref 37),Hd.de P "NoSize" 238 (.ref 49),Hd.de P "WALL" 242 (.str "#" 241),Hd.de P "LONGEST" 244 (.int 12 243),Hd.de P "STRAIGHT_COST" 246 (.int 2 245),Hd.de P "SLANTING_COST" 248 (.int 3 247),Hd.de P "is_whole" 255 (.ref 58),Hd.de P "is_spot" 262 (.ref 65),Hd.de P "is_on_floor" 270 (.ref 72),Hd.de P "is_open" 278 (.ref 79),Hd.de P "need_open" 286 (.ref 86),Hd.de P "open_spots" 298 (.ref 93),Hd.de P "height_at" 306 (.ref 100),Hd.de P "open_spots_beside" 317 (.ref 107),Hd.de P "are_beside" 325 (.ref 114),Hd.de P "has_open_corners" 334 (.ref 121),Hd.de P "step_cost" 347 (.ref 128),Hd.de P "steps_from" 359 (.ref 135),Hd.de P "steps_to" 365 (.ref 140),Hd.de P "spread" 382 (.ref 147),Hd.de P "spread_to" 394 (.ref 154),Hd.de P "traced" 403 (.ref 161),Hd.de P "least_way" 414 (.ref 168),Hd.de P "need_size" 423 (.ref 175),Hd.de P "block_of" 433 (.ref 182),Hd.de P "steps_within" 439 (.ref 187),Hd.de P "steps_out" 445 (.ref 192),Hd.de P "gates" 451 (.ref 197),Hd.de P "hops_from" 457 (.ref 202),Hd.de P "by_gates" 473 (.ref 209),Hd.de P "_law_cell" 483 (.ref 216),Hd.de P "_law_pick" 493 (.ref 223),Hd.de P "_law_floor" 511 (.ref 230),Hd.de P "_law_walker" 519 (.ref 237),Hd.de P "_law_spots" 525 (.ref 242),Hd.de P "_law_cost" 537 (.ref 249),Hd.de P "_law_steps" 551 (.ref 256),Hd.de P "_law_block" 559 (.ref 263),Hd.de P "_law_inside" 565 (.ref 268),Hd.de P "_law_gates" 571 (.ref 273),Hd.de P "_law_hop" 582 (.ref 280),Hd.de P "_law_once" 588 (.ref 285),Hd.de P "law" 594 (.ref 290)] 53}),
 (4,{cls:=.type "module",dict:=some builtinsNs,data:=.plain}),
 (23,{cls:=.type "dict",data:=.dict #[Hd.de P "__module__" 196 (.str "cellways.errors" 187),Hd.de P "__firstlineno__" 200 (.int 2 199),Hd.de P "__static_attributes__" 201 (.ref 22),Hd.de P "__weakref__" 203 (.ref 25),Hd.de P "__doc__" 204 (.none)] 3}),
 (24,{cls:=.type "type",data:=.cls {name:="FloorError",bases:=[.type "ValueError"],mro:=[.ref 24,.type "ValueError",.type "Exception",.type "BaseException",.type "object"],ns:=23,qualname:="FloorError",subclasses:=[.ref 37,.ref 49]},slots:=#[some (.ref 15),none,some (.str "FloorError" 189),some (.str "FloorError" 197),some (.builtin "ValueError.__new__"),some (.bool Bool.true)]}),
 (36,{cls:=.type "dict",data:=.dict #[Hd.de P "__module__" 214 (.str "cellways.errors" 187),Hd.de P "__firstlineno__" 218 (.int 4 217),Hd.de P "__static_attributes__" 219 (.ref 35),Hd.de P "__doc__" 220 (.none)] 2}),
 (37,{cls:=.type "type",data:=.cls {name:="NoSpot",bases:=[.ref 24],mro:=[.ref 37,.ref 24,.type "ValueError",.type "Exception",.type "BaseException",.type "object"],ns:=36,qualname:="NoSpot"},slots:=#[some (.ref 28),none,some (.str "NoSpot" 207),some (.str "NoSpot" 215),some (.builtin "ValueError.__new__"),some (.bool Bool.true)]}),
 (48,{cls:=.type "dict",data:=.dict #[Hd.de P "__module__" 230 (.str "cellways.errors" 187),Hd.de P "__firstlineno__" 234 (.int 6 233),Hd.de P "__static_attributes__" 235 (.ref 47),Hd.de P "__doc__" 236 (.none)] 2}),
 (49,{cls:=.type "type",data:=.cls {name:="NoSize",bases:=[.ref 24],mro:=[.ref 49,.ref 24,.type "ValueError",.type "Exception",.type "BaseException",.type "object"],ns:=48,qualname:="NoSize"},slots:=#[some (.ref 40),none,some (.str "NoSize" 223),some (.str "NoSize" 231),some (.builtin "ValueError.__new__"),some (.bool Bool.true)]}),
 (57,Hd.co "is_whole" 249 13 1 52 (.ref 54) (.ref 55) 56 253),
 (58,Hd.fo "is_whole" (top 9) m1 57),
 (64,Hd.co "is_spot" 256 15 1 59 (.ref 61) (.ref 62) 63 260),
 (65,Hd.fo "is_spot" (top 10) m1 64),
 (71,Hd.co "is_on_floor" 263 17 2 66 (.ref 68) (.ref 69) 70 268),
 (72,Hd.fo "is_on_floor" (top 11) m1 71),
 (78,Hd.co "is_open" 271 19 2 73 (.ref 75) (.ref 76) 77 276),
 (79,Hd.fo "is_open" (top 12) m1 78),
 (85,Hd.co "need_open" 279 21 2 80 (.ref 82) (.ref 83) 84 284),
 (86,Hd.fo "need_open" (top 13) m1 85),
 (92,Hd.co "open_spots" 287 24 1 87 (.ref 89) (.ref 90) 91 296),
 (93,Hd.fo "open_spots" (top 14) m1 92),
 (99,Hd.co "height_at" 299 31 2 94 (.ref 96) (.ref 97) 98 304),
 (100,Hd.fo "height_at" (top 15) m1 99),
 (106,Hd.co "open_spots_beside" 307 34 2 101 (.ref 103) (.ref 104) 105 315),
 (107,Hd.fo "open_spots_beside" (top 16) m1 106),
 (113,Hd.co "are_beside" 318 41 2 108 (.ref 110) (.ref 111) 112 323),
 (114,Hd.fo "are_beside" (top 17) m1 113),
 (120,Hd.co "has_open_corners" 326 43 3 115 (.ref 117) (.ref 118) 119 332),
 (121,Hd.fo "has_open_corners" (top 18) m1 120),
 (127,Hd.co "step_cost" 335 45 4 122 (.ref 124) (.ref 125) 126 345),
 (128,Hd.fo "step_cost" (top 19) m1 127),
 (134,Hd.co "steps_from" 348 56 3 129 (.ref 131) (.ref 132) 133 357),
 (135,Hd.fo "steps_from" (top 20) m1 134),
 (139,Hd.co "steps_to" 360 64 3 136 .none .none 138 363),
 (140,Hd.fo "steps_to" (top 21) m1 139),
 (146,Hd.co "spread" 368 67 2 141 (.ref 143) (.ref 144) 145 380),
 (147,Hd.fo "spread" (top 23) m2 146),
 (153,Hd.co "spread_to" 383 80 3 148 (.ref 150) (.ref 151) 152 392),
 (154,Hd.fo "spread_to" (top 24) m2 153),
 (160,Hd.co "traced" 395 84 2 155 (.ref 157) (.ref 158) 159 401),
 (161,Hd.fo "traced" (top 25) m2 160),
 (167,Hd.co "least_way" 404 89 4 162 (.ref 164) (.ref 165) 166 412),
 (168,Hd.fo "least_way" (top 26) m2 167),
 (174,Hd.co "need_size" 417 96 1 169 (.ref 171) (.ref 172) 173 421),
 (175,Hd.fo "need_size" (top 28) m3 174),
 (181,Hd.co "block_of" 426 100 2 176 (.ref 178) (.ref 179) 180 431),
 (182,Hd.fo "block_of" (top 30) m4 181),
 (186,Hd.co "steps_within" 434 102 4 183 .none .none 185 437),
 (187,Hd.fo "steps_within" (top 31) m4 186),
 (191,Hd.co "steps_out" 440 105 4 188 .none .none 190 443),
 (192,Hd.fo "steps_out" (top 32) m4 191),
 (196,Hd.co "gates" 446 108 3 193 .none .none 195 449),
 (197,Hd.fo "gates" (top 33) m4 196),
 (201,Hd.co "hops_from" 452 111 5 198 .none .none 200 455),
 (202,Hd.fo "hops_from" (top 34) m4 201),
 (208,Hd.co "by_gates" 458 115 5 203 (.ref 205) (.ref 206) 207 471),
 (209,Hd.fo "by_gates" (top 35) m4 208),
 (215,Hd.co "_law_cell" 476 125 2 210 (.ref 212) (.ref 213) 214 481),
 (216,Hd.fo "_law_cell" (top 37) m5 215),
 (222,Hd.co "_law_pick" 484 131 3 217 (.ref 219) (.ref 220) 221 491),
 (223,Hd.fo "_law_pick" (top 38) m5 222),
 (229,Hd.co "_law_floor" 494 134 3 224 (.ref 226) (.ref 227) 228 509),
 (230,Hd.fo "_law_floor" (top 39) m5 229),
 (236,Hd.co "_law_walker" 512 147 2 231 (.ref 233) (.ref 234) 235 517),
 (237,Hd.fo "_law_walker" (top 40) m5 236),
 (241,Hd.co "_law_spots" 520 149 1 238 .none .none 240 523),
 (242,Hd.fo "_law_spots" (top 41) m5 241),
 (248,Hd.co "_law_cost" 526 154 4 243 (.ref 245) (.ref 246) 247 535),
 (249,Hd.fo "_law_cost" (top 42) m5 248),
 (255,Hd.co "_law_steps" 538 164 3 250 (.ref 252) (.ref 253) 254 549),
 (256,Hd.fo "_law_steps" (top 43) m5 255),
 (262,Hd.co "_law_block" 552 174 2 257 (.ref 259) (.ref 260) 261 557),
 (263,Hd.fo "_law_block" (top 44) m5 262),
 (267,Hd.co "_law_inside" 560 176 4 264 .none .none 266 563),
 (268,Hd.fo "_law_inside" (top 45) m5 267),
 (272,Hd.co "_law_gates" 566 186 3 269 .none .none 271 569),
 (273,Hd.fo "_law_gates" (top 46) m5 272),
 (279,Hd.co "_law_hop" 572 193 5 274 (.ref 276) (.ref 277) 278 580),
 (280,Hd.fo "_law_hop" (top 47) m5 279),
 (284,Hd.co "_law_once" 583 197 1 281 .none .none 283 586),
 (285,Hd.fo "_law_once" (top 48) m5 284),
 (289,Hd.co "law" 589 218 1 286 .none .none 288 592),
 (290,Hd.fo "law" (top 49) m5 289)]
def ts:List (Addr×Str):=[(142,jz "spread"),(149,jz "spread_to"),(199,jz "hops_from"),(204,jz "by_gates")]
noncomputable def K2(P:Params):zz8:=K P++[(142,PySem.W.tabObj #[]),(149,PySem.W.tabObj #[]),(199,PySem.W.tabObj #[]),(204,PySem.W.tabObj #[])]
noncomputable def as:List Addr:=[2,3,4,23,24,36,37,48,49,57,58,64,65,71,72,78,79,85,86,92,93,99,100,106,107,113,114,120,121,127,128,134,135,139,140,146,147,153,154,160,161,167,168,174,175,181,182,186,187,191,192,196,197,201,202,208,209,215,216,222,223,229,230,236,237,241,242,248,249,255,256,262,263,267,268,272,273,279,280,284,285,289,290,142,149,199,204]
noncomputable def Γ:Pg:=⟨[("WALL",(.str "#")),("LONGEST",(.int 12)),("STRAIGHT_COST",(.int 2)),("SLANTING_COST",(.int 3))],["len","abs","max","min","int","str","list","tuple","sum","isinstance","bool","range","enumerate","dict","reversed"],[],[],["NoSize","NoSpot"],[],false⟩
def R0:dJ:=[]
def oA:bQ (Γ.at R0 false) "_law_cell" da (top 37):=stM λ_ _ _ _ _ _=>Hd.uB λ_ _=>rfl
noncomputable def R1:dJ:=⟨"_law_cell","_law_cell",da,top 37,false⟩::R0
def pG:bQ (Γ.at R1 false) "_law_pick" bS (top 38):=stM λ_ _ _ _ _ _=>Hd.EB λ_ _ _=>rfl
noncomputable def R2:dJ:=⟨"_law_pick","_law_pick",bS,top 38,false⟩::R1
def mJ:bQ (Γ.at R2 false) "_law_floor" cg (top 39):=stM λ_ _ _ _ _ _=>Hd.EB λ_ _ _=>rfl
noncomputable def R3:dJ:=⟨"_law_floor","_law_floor",cg,top 39,false⟩::R2
def kA:bQ (Γ.at R3 false) "_law_walker" cq (top 40):=stM λ_ _ _ _ _ _=>Hd.uB λ_ _=>rfl
noncomputable def R4:dJ:=⟨"_law_walker","_law_walker",cq,top 40,false⟩::R3
def mD:bQ (Γ.at R4 false) "_law_spots" bC (top 41):=stM λ_ _ _ _ _ _=>Hd.Gh λ_=>rfl
noncomputable def R5:dJ:=⟨"_law_spots","_law_spots",bC,top 41,false⟩::R4
def rh:bQ (Γ.at R5 false) "is_whole" dw (top 9):=stM λ_ _ _ _ _ _=>Hd.Gh λ_=>rfl
noncomputable def R6:dJ:=⟨"is_whole","is_whole",dw,top 9,false⟩::R5
def sN:bQ (Γ.at R6 false) "is_spot" dQ (top 10):=stM λ_ _ _ _ _ _=>Hd.Gh λ_=>rfl
noncomputable def R7:dJ:=⟨"is_spot","is_spot",dQ,top 10,false⟩::R6
def lB:bQ (Γ.at R7 false) "is_on_floor" cx (top 11):=stM λ_ _ _ _ _ _=>Hd.uB λ_ _=>rfl
noncomputable def R8:dJ:=⟨"is_on_floor","is_on_floor",cx,top 11,false⟩::R7
def sd:bQ (Γ.at R8 false) "is_open" cV (top 12):=stM λ_ _ _ _ _ _=>Hd.uB λ_ _=>rfl
noncomputable def R9:dJ:=⟨"is_open","is_open",cV,top 12,false⟩::R8
def om:bQ (Γ.at R9 false) "need_open" bu (top 13):=stM λ_ _ _ _ _ _=>Hd.uB λ_ _=>rfl
noncomputable def Rb:dJ:=⟨"need_open","need_open",bu,top 13,false⟩::R9
def mC:bQ (Γ.at Rb false) "are_beside" cT (top 17):=stM λ_ _ _ _ _ _=>Hd.uB λ_ _=>rfl
noncomputable def QO:dJ:=⟨"are_beside","are_beside",cT,top 17,false⟩::Rb
def p9:bQ (Γ.at QO false) "height_at" dc (top 15):=stM λ_ _ _ _ _ _=>Hd.uB λ_ _=>rfl
noncomputable def P9:dJ:=⟨"height_at","height_at",dc,top 15,false⟩::QO
def g6:bQ (Γ.at P9 false) "has_open_corners" bh (top 18):=stM λ_ _ _ _ _ _=>Hd.EB λ_ _ _=>rfl
noncomputable def QC:dJ:=⟨"has_open_corners","has_open_corners",bh,top 18,false⟩::P9
def o7:bQ (Γ.at QC false) "step_cost" bq (top 19):=stM λ_ _ _ _ _ _=>Hd.J7 λ_ _ _ _=>rfl
noncomputable def Q5:dJ:=⟨"step_cost","step_cost",bq,top 19,false⟩::QC
def gM:bQ (Γ.at Q5 false) "open_spots_beside" aY (top 16):=stM λ_ _ _ _ _ _=>Hd.uB λ_ _=>rfl
noncomputable def Rr:dJ:=⟨"open_spots_beside","open_spots_beside",aY,top 16,false⟩::Q5
def mE:bQ (Γ.at Rr false) "steps_from" bo (top 20):=stM λ_ _ _ _ _ _=>Hd.EB λ_ _ _=>rfl
noncomputable def PQ:dJ:=⟨"steps_from","steps_from",bo,top 20,false⟩::Rr
def rD:bQ (Γ.at PQ false) "steps_to" dB (top 21):=stM λ_ _ _ _ _ _=>Hd.EB λ_ _ _=>rfl
noncomputable def QV:dJ:=⟨"steps_to","steps_to",dB,top 21,false⟩::PQ
def fX:bQ (Γ.at QV true) "spread" bt (top 23):=stM λ_ _ _ _ _ _=>Hd.uB λ_ _=>rfl
noncomputable def Q3:dJ:=⟨"spread@steps_to","spread",bt,top 23,true⟩::QV
def pI:bQ (Γ.at Q3 true) "spread_to" cJ (top 24):=stM λ_ _ _ _ _ _=>Hd.EB λ_ _ _=>rfl
noncomputable def Rf:dJ:=⟨"spread_to","spread_to",cJ,top 24,true⟩::Q3
def wV:bQ (Γ.at Rf false) "traced" dU (top 25):=stM λ_ _ _ _ _ _=>Hd.uB λ_ _=>rfl
noncomputable def QP:dJ:=⟨"traced","traced",dU,top 25,false⟩::Rf
def pg:bQ (Γ.at QP false) "least_way" cG (top 26):=stM λ_ _ _ _ _ _=>Hd.J7 λ_ _ _ _=>rfl
noncomputable def QS:dJ:=⟨"least_way","least_way",cG,top 26,false⟩::QP
def qI:bQ (Γ.at QS false) "block_of" cF (top 30):=stM λ_ _ _ _ _ _=>Hd.uB λ_ _=>rfl
noncomputable def Qa:dJ:=⟨"block_of","block_of",cF,top 30,false⟩::QS
def jW:bQ (Γ.at Qa false) "steps_within" bD (top 31):=stM λ_ _ _ _ _ _=>Hd.J7 λ_ _ _ _=>rfl
noncomputable def Rq:dJ:=⟨"steps_within","steps_within",bD,top 31,false⟩::Qa
def eC:bQ (Γ.at Rq true) "spread" aN (top 23):=stM λ_ _ _ _ _ _=>Hd.uB λ_ _=>rfl
noncomputable def Qr:dJ:=⟨"spread@steps_within","spread",aN,top 23,true⟩::Rq
def o5:bQ (Γ.at Qr false) "steps_out" bR (top 32):=stM λ_ _ _ _ _ _=>Hd.J7 λ_ _ _ _=>rfl
noncomputable def Qc:dJ:=⟨"steps_out","steps_out",bR,top 32,false⟩::Qr
def oo:bQ (Γ.at Qc true) "hops_from" cH (top 34):=stM λ_ _ _ _ _ _=>Hd.Ol λ_ _ _ _ _=>rfl
noncomputable def Rx:dJ:=⟨"hops_from","hops_from",cH,top 34,true⟩::Qc
def fK:bQ (Γ.at Rx true) "spread" ba (top 23):=stM λ_ _ _ _ _ _=>Hd.uB λ_ _=>rfl
noncomputable def P8:dJ:=⟨"spread@hops_from","spread",ba,top 23,true⟩::Rx
def pf:bQ (Γ.at P8 false) "need_size" bX (top 28):=stM λ_ _ _ _ _ _=>Hd.Gh λ_=>rfl
noncomputable def QL:dJ:=⟨"need_size","need_size",bX,top 28,false⟩::P8
def mP:bQ (Γ.at QL false) "open_spots" cR (top 14):=stM λ_ _ _ _ _ _=>Hd.Gh λ_=>rfl
noncomputable def QI:dJ:=⟨"open_spots","open_spots",cR,top 14,false⟩::QL
def A5:bQ (Γ.at QI false) "gates" gN (top 33):=stM λ_ _ _ _ _ _=>Hd.EB λ_ _ _=>rfl
noncomputable def Rh:dJ:=⟨"gates","gates",gN,top 33,false⟩::QI
def qF:bQ (Γ.at Rh true) "by_gates" c7 (top 35):=stM λ_ _ _ _ _ _=>Hd.Ol λ_ _ _ _ _=>rfl
noncomputable def Qn:dJ:=⟨"by_gates","by_gates",c7,top 35,true⟩::Rh
def mO:bQ (Γ.at Qn false) "_law_block" bM (top 44):=stM λ_ _ _ _ _ _=>Hd.uB λ_ _=>rfl
noncomputable def QY:dJ:=⟨"_law_block","_law_block",bM,top 44,false⟩::Qn
def pH:bQ (Γ.at QY false) "_law_cost" bP (top 42):=stM λ_ _ _ _ _ _=>Hd.J7 λ_ _ _ _=>rfl
noncomputable def Rl:dJ:=⟨"_law_cost","_law_cost",bP,top 42,false⟩::QY
def mH:bQ (Γ.at Rl false) "_law_steps" aW (top 43):=stM λ_ _ _ _ _ _=>Hd.EB λ_ _ _=>rfl
noncomputable def QK:dJ:=⟨"_law_steps","_law_steps",aW,top 43,false⟩::Rl
def mM:bQ (Γ.at QK false) "_law_gates" cQ (top 46):=stM λ_ _ _ _ _ _=>Hd.EB λ_ _ _=>rfl
noncomputable def Qh:dJ:=⟨"_law_gates","_law_gates",cQ,top 46,false⟩::QK
def kP:bQ (Γ.at Qh false) "_law_inside" cu (top 45):=stM λ_ _ _ _ _ _=>Hd.J7 λ_ _ _ _=>rfl
noncomputable def Qz:dJ:=⟨"_law_inside","_law_inside",cu,top 45,false⟩::Qh
def rV:bQ (Γ.at Qz false) "_law_hop" cZ (top 47):=stM λ_ _ _ _ _ _=>Hd.Ol λ_ _ _ _ _=>rfl
noncomputable def P2:dJ:=⟨"_law_hop","_law_hop",cZ,top 47,false⟩::Qz
def pV:bQ (Γ.at P2 false) "_law_once" bY (top 48):=stM λ_ _ _ _ _ _=>Hd.Gh λ_=>rfl
noncomputable def MF:dJ:=⟨"_law_once","_law_once",bY,top 48,false⟩::P2
def Iq:bQ (Γ.at MF false) "law" mV (top 49):=stM λ_ _ _ _ _ _=>Hd.Gh λ_=>rfl
def gR(P:Params):fq (K P) 146 142:=⟨Hd.co "spread" 368 67 2 141 (.ref 143) (.ref 144) 145 380,_,_,_,_,_,_,_,_,by kernel_rfl,rfl,rfl,rfl,rfl,rfl,rfl,rfl,rfl,by decide⟩
def i3(P:Params):fq (K P) 153 149:=⟨Hd.co "spread_to" 383 80 3 148 (.ref 150) (.ref 151) 152 392,_,_,_,_,_,_,_,_,by kernel_rfl,rfl,rfl,rfl,rfl,rfl,rfl,rfl,rfl,by decide⟩
def iK(P:Params):fq (K P) 201 199:=⟨Hd.co "hops_from" 452 111 5 198 .none .none 200 455,_,_,_,_,_,_,_,_,by kernel_rfl,rfl,rfl,rfl,rfl,rfl,rfl,rfl,rfl,by decide⟩
def ju(P:Params):fq (K P) 208 204:=⟨Hd.co "by_gates" 458 115 5 203 (.ref 205) (.ref 206) 207 471,_,_,_,_,_,_,_,_,by kernel_rfl,rfl,rfl,rfl,rfl,rfl,rfl,rfl,rfl,by decide⟩
def Le(ns:List Int)(hl:ns.length<=63):av (den (tab MF)) mV [.lst (ns.map .int)]=.ok (.bl true):=Kx ns hl
def O2(P:Params):AllK (K P) ts Γ MF:=
 Hd.ac (Hd.ent 285 284 m5) pV <| Hd.ac (Hd.ent 280 279 m5) rV <| Hd.ac (Hd.ent 268 267 m5) kP <| Hd.ac (Hd.ent 273 272 m5) mM <| Hd.ac (Hd.ent 256 255 m5) mH <| Hd.ac (Hd.ent 249 248 m5) pH <| Hd.ac (Hd.ent 263 262 m5) mO <| Hd.ac (Hd.w9 209 208 204 m4 (ju P) (by decide+kernel) (by decide+kernel)) qF <| Hd.ac (Hd.ent 197 196 m4) A5 <| Hd.ac (Hd.ent 93 92 m1) mP <| Hd.ac (Hd.ent 175 174 m3) pf <| Hd.ac (Hd.w9 147 146 142 m2 (gR P) (by decide+kernel) (by decide+kernel)) fK <| Hd.ac (Hd.w9 202 201 199 m4 (iK P) (by decide+kernel) (by decide+kernel)) oo <| Hd.ac (Hd.ent 192 191 m4) o5 <| Hd.ac (Hd.w9 147 146 142 m2 (gR P) (by decide+kernel) (by decide+kernel)) eC <| Hd.ac (Hd.ent 187 186 m4) jW <| Hd.ac (Hd.ent 182 181 m4) qI <| Hd.ac (Hd.ent 168 167 m2) pg <| Hd.ac (Hd.ent 161 160 m2) wV <| Hd.ac (Hd.w9 154 153 149 m2 (i3 P) (by decide+kernel) (by decide+kernel)) pI <| Hd.ac (Hd.w9 147 146 142 m2 (gR P) (by decide+kernel) (by decide+kernel)) fX <| Hd.ac (Hd.ent 140 139 m1) rD <| Hd.ac (Hd.ent 135 134 m1) mE <| Hd.ac (Hd.ent 107 106 m1) gM <| Hd.ac (Hd.ent 128 127 m1) o7 <| Hd.ac (Hd.ent 121 120 m1) g6 <| Hd.ac (Hd.ent 100 99 m1) p9 <| Hd.ac (Hd.ent 114 113 m1) mC <| Hd.ac (Hd.ent 86 85 m1) om <| Hd.ac (Hd.ent 79 78 m1) sd <| Hd.ac (Hd.ent 72 71 m1) lB <| Hd.ac (Hd.ent 65 64 m1) sN <| Hd.ac (Hd.ent 58 57 m1) rh <| Hd.ac (Hd.ent 242 241 m5) mD <| Hd.ac (Hd.ent 237 236 m5) kA <| Hd.ac (Hd.ent 230 229 m5) mJ <| Hd.ac (Hd.ent 223 222 m5) pG <| Hd.ac (Hd.ent 216 215 m5) oA trivial
structure Ia(K:zz8)(d:Str)(D:Addr):Prop where
 e:PySem.W.nsIn K mainGlobals d=some (some (.ref D))
 xc:Gd K D
 vt:PySem.W.kitOne K (.ref D) (.type "ValueError")=some true
 ex:PySem.W.excIn K D zY "ValueError.__new__"=true
def KC{K:zz8}{d:Str}{D:Addr}(e:PySem.W.nsIn K mainGlobals d=some (some (.ref D)):=by kernel_rfl)(i:PySem.W.isClsIn K D=true:=by kernel_rfl)(v:PySem.W.subIn K (.ref D) (.type "ValueError")=some true:=by kernel_rfl)(ga:PySem.W.findIn K (.ref D) "__getattribute__"=some (some (.builtin "BaseException.__getattribute__")):=by kernel_rfl)(hk:PySem.W.findIn K (.ref D) "__getattr__"=some none:=by kernel_rfl)
 (cl:PySem.W.findIn K (.ref D) "__class__"=some (some (.builtin "object.__class__")):=by kernel_rfl) (mo:PySem.W.mroIn K D (.type "object")=some true:=by kernel_rfl) (mb:PySem.W.mroIn K D (.type "BaseException")=some true:=by kernel_rfl) (ex:PySem.W.excIn K D zY "ValueError.__new__"=true:=by kernel_rfl):Ia K d D:=
 ⟨e,⟨ga,hk,cl,mo,mb,i⟩,zL (by decide+kernel) v,ex⟩
def Ox(P:Params){mg:Str->Option Value}{h:Heap}(X:(K P).In h)(G:h.Ns mainGlobals mg):uh (K P) mg Γ ⟨K P,mg,["NoSize","NoSpot"],ts⟩:=by
 have Dx:∀{x:Str} {u:Value},PySem.W.nsIn (K P) mainGlobals x=some (some u)->mg x=some u:=λa=>PySem.W.mg_of X G a
 have sJ:∀{x:Str},PySem.W.nsIn (K P) mainGlobals x=some none->mg x=none:=λa=>PySem.W.mg_none_of X G a
 have gu:Ia (K P) "NoSize" 49:=KC
 have gE:Ia (K P) "NoSpot" 37:=KC
 refine⟨rfl,rfl,λq hq=>?_,λg hg=>?_,by decide+kernel,λc hc=>?_,λd hd D hD=>?_,λc hc=>?_,λc hc=>?_,λz=>absurd z (by decide+kernel),λ_=>⟨4,⟨.type "module",some builtinsNs,.plain,#[]⟩,Dx (by kernel_rfl),by decide,by decide,by kernel_rfl,rfl,rfl,rfl⟩⟩
 ·simp! [Γ,zzm,List.not_mem_nil,or_false] at hq;rcases hq with rfl|rfl|rfl|rfl
  ·exact⟨.str "#" 241,.str "#",Dx (by kernel_rfl),⟨_,rfl⟩,λG=>.s⟩
  ·exact⟨.int 12 243,.int 12,Dx (by kernel_rfl),⟨_,rfl⟩,λG=>.i⟩
  ·exact⟨.int 2 245,.int 2,Dx (by kernel_rfl),⟨_,rfl⟩,λG=>.i⟩
  ·exact⟨.int 3 247,.int 3,Dx (by kernel_rfl),⟨_,rfl⟩,λG=>.i⟩
 ·simp! [Γ,zzm,List.not_mem_nil,or_false] at hg;rcases hg with rfl|rfl|rfl|rfl|rfl|rfl|rfl|rfl|rfl|rfl|rfl|rfl|rfl|rfl|rfl
  ·exact sJ (by kernel_rfl)
  ·exact sJ (by kernel_rfl)
  ·exact sJ (by kernel_rfl)
  ·exact sJ (by kernel_rfl)
  ·exact sJ (by kernel_rfl)
  ·exact sJ (by kernel_rfl)
  ·exact sJ (by kernel_rfl)
  ·exact sJ (by kernel_rfl)
  ·exact sJ (by kernel_rfl)
  ·exact sJ (by kernel_rfl)
  ·exact sJ (by kernel_rfl)
  ·exact sJ (by kernel_rfl)
  ·exact sJ (by kernel_rfl)
  ·exact sJ (by kernel_rfl)
  ·exact sJ (by kernel_rfl)
 ·simp! [Γ,zzm,List.not_mem_nil,or_false] at hc
 ·simp! [zzm,List.not_mem_nil,or_false] at hd;rcases hd with rfl|rfl
  ·cases(Dx gu.e).symm.trans hD;refine⟨gu.xc,λc hc C hC=>?_,gu.vt⟩
   simp! [Γ,zzm,List.not_mem_nil,or_false] at hc
  ·cases(Dx gE.e).symm.trans hD;refine⟨gE.xc,λc hc C hC=>?_,gE.vt⟩
   simp! [Γ,zzm,List.not_mem_nil,or_false] at hc
 ·simp! [Γ,zzn,zzm,List.not_mem_nil,or_false] at hc⊢;exact hc
 ·simp! [Γ,zzn,zzm,List.not_mem_nil,or_false] at hc;rcases hc with rfl|rfl
  ·exact⟨_,Dx gu.e,gu.ex⟩
  ·exact⟨_,Dx gE.e,gE.ex⟩
def hY{P:Params}{h:Heap}(X:(K2 P).In h):(K P).In h/\∀p∈ts.map (·.1),h.get? p=some (PySem.W.tabObj #[]):=⟨λb o e=>X b o (Hd.zO e),λp hp=>by
 simp! [ts,zzF,List.map_nil,zzm,List.not_mem_nil,or_false] at hp;rcases hp with rfl|rfl|rfl|rfl
 ·exact X _ _ (by kernel_rfl)
 ·exact X _ _ (by kernel_rfl)
 ·exact X _ _ (by kernel_rfl)
 ·exact X _ _ (by kernel_rfl)
⟩
def hC(P:Params):∀p∈ts.map (·.1),(∃c,fq (K P) c p)/\(K P).lookup p=none:=λp hp=>by
 simp! [ts,zzF,List.map_nil,zzm,List.not_mem_nil,or_false] at hp;rcases hp with rfl|rfl|rfl|rfl
 ·exact⟨⟨_,gR P⟩,by kernel_rfl⟩
 ·exact⟨⟨_,i3 P⟩,by kernel_rfl⟩
 ·exact⟨⟨_,iK P⟩,by kernel_rfl⟩
 ·exact⟨⟨_,ju P⟩,by kernel_rfl⟩
def keep:List Nat:=[1,2,3,5,6,7,8,9,10,11,12,13,14,15,16,17,18,19,20,21,23,24,25,26,28,30,31,32,33,34,35,37,38,39,40,41,42,43,44,45,46,47,48,49]
def ka:∀P,as=(K2 P).map (·.1):=λ_=>by kernel_rfl
def left:PySem.W.LeftO lw.row.prog (PySem.W.view lw.row.prog keep) [] (λs=>PySem.W.xlAt (PySem.W.view lw.row.prog keep) [] s&&PySem.W.recOk lw.row.toRowW.records s) (PySem.W.kHook K2 as ka).obs (PySem.W.kHook K2 as ka).val 3794:=by
 refine Hd.Dy (T₀:=λP=>Hd.treeOf (PySem.W.boot_heap P).objs.toList) (m₀:=11) (life:={}) (ann:=some (.ref 6)) (M:=3744) (by kernel_rfl) (by kernel_rfl) (λs=>by kernel_rfl) Hd.Mn Hd.Ko (by kernel_rfl) λw os=>?_
 rw [PySem.W.Fast.te10156331382660048174,PySem.W.Fast.te11892475500146522536,PySem.W.Fast.te14364793385576792824,PySem.W.Fast.te6613529449190102663,PySem.W.Fast.te4187177175401517315,PySem.W.Fast.te5923862056798008813]
 kernel_rfl
end K81
open PySem PySem.W PyProof.Rows
set_option maxRecDepth 100000 in
set_option maxHeartbeats 0 in
theorem PySem.Challenge.cw_cellways_k81_whole_by_gates_holds : PySem.Challenge.rw_cellways_k81_whole_by_gates.Holds := by
 refine Hd.holds (d:=⟨"law",L2.di (K81.top 49),L2.cU (K81.top 49),L2.aR (K81.top 49),Hd.ND (K81.top 49)⟩) (by kernel_rfl) K81.ka K81.left (by kernel_rfl) (by kernel_rfl) (by kernel_rfl) (by kernel_rfl) ⟨rfl,rfl,rfl,rfl,rfl,by decide+kernel⟩ ?hw ?hc
 case hw=>w_witness2
 case hc=>exact Ci.walk (l:=PySem.Challenge.rw_cellways_k81_whole_by_gates) K81.MF K81.Γ "_law_script" K81.mV ["NoSize","NoSpot"] K81.ts (K81.top 49) rfl rfl rfl rfl rfl ⟨rfl,by decide,by decide⟩ (λw h Y=>K81.hY (PySem.W.kIn_of Y)) (λw=>K81.hC w.params) (λw mg h KX G=>K81.Ox _ KX G) (λw=>Hd.ent 290 289 K81.m5) K81.Iq (λw=>K81.O2 _) K81.Le
#print axioms PySem.Challenge.cw_cellways_k81_whole_by_gates_holds
