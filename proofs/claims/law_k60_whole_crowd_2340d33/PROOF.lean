import PyProof.Rows.All
import Wide.All
import OpenK.AllK
import Wide.FinOn
import Lean
import PyProof.EqAt
import PyProof.EqKinds
import PyProof.TupleCall
import PySem.Challenge.RW_cellways_k60_whole_crowd
set_option Elab.async false
set_option linter.all false
set_option genSizeOf false
set_option genSizeOfSpec false
set_option bootstrap.genMatcherCode false
set_option compiler.extract_closed false
set_option compiler.reuse false
set_option maxRecDepth 100000
abbrev zz8:=PySem.W.Frag
local macro_rules | `(zz9 $x) => `(($x).heap.objs.size)
local macro_rules | `(tactic| simp! [$x,*] $[$l:location]?) => `(tactic| simp only [$x,*] $[$l]?)
theorem zzf:¬false=true:=Bool.false_ne_true
theorem zza(a b:Bool):((a&&b)=true)=(a=true/\b=true):=Bool.and_eq_true a b
theorem zzg.{u}{α:Type u}{l:List α}{i:Nat}(h:i<l.length):l[i]?=some l[i]:=List.getElem?_eq_getElem h
theorem zzl.{u,v}{α:Type u}{β:Type v}{l:List α}(f:α->β):(l.map f).length=l.length:=List.length_map f
def zzA:=@PySem.wpAny_bind
def zzB:=@PySem.Heap.get?_push_of_some
def zzC:=@List.size_toArray
def zzD:=@List.mem_of_getElem?
def zzE:=@Nat.le_refl
def zzF:=@List.map_cons
def zzG:=@PySem.wpAny_pure
def zzH:=@List.getElem?_eq_some_iff
def zzI:=@List.mem_cons_of_mem
def zzJ:=@Option.map_eq_some_iff
def zzK:=@List.getD_eq_getElem?_getD
def zzL:=@List.length_cons
def zzM:=@List.length_append
def zzN:=@decide_eq_true_eq
def zzO:=@PySem.Heap.lt_size
def zzP:=@List.mem_cons_self
def zzQ:=@List.getElem?_map
def zzR:=@List.mem_append_right
def zzS:=@List.getElem?_set_ne
def zzT:=@List.all_eq_true
def zzU:=@Nat.le_trans
def zzV:=@Nat.lt_of_le_of_lt
def zzW:=@Nat.lt_of_lt_of_le
def zzX:=@PySem.Heap.get?_push_size
def zzY:=@of_decide_eq_true
def zzZ:=@Option.bind_eq_some_iff
def zzb:=@Nat.ne_of_lt
def zzc:=@List.mem_append_left
def zzd:=@Array.length_toList
def zze:=@Bool.false_eq_true
def zzh:=@decide_eq_true
def zzi:=@List.mem_singleton
def zzj:=@List.any_eq_true
def zzk:=@False.elim
def zzm:=@List.mem_cons
def zzn:=@List.contains_iff_mem
def zzo:=@List.getElem?_set_self
def zzp:=@Option.isSome_iff_exists
def zzq:=@Option.some.inj
def zzr:=@List.getElem?_append_left
def zzs:=@List.getElem?_append_right
def zzt:=@Bool.or_eq_true
def zzu:=@PySem.Heap.SameBut.update
def zzw:=@Int.eq_ofNat_of_zero_le
def zzx:=@List.mem_map
def zzy:=@beq_iff_eq
def zz0:=@decide_eq_false
def zz1:=@List.mem_filterMap
def zz2:=@Array.getElem?_eq_getElem
def zz3:=@List.filter_cons
def zz4:=@Int.toNat_natCast
def zz5:=@List.lookup_cons
def zz6:=@List.append_nil
def zz7:=@PySem.Around.under_plainId
namespace L2
open PySem PySem.Spec PyProof.Rows
abbrev Key:=Sum Int Str
def mV:Key->Value->Bool
 |.inl k,v=>Value.isInt k v
 |.inr x,v=>Value.isStrOf x v
def Nl(w:World):Key->Int
 |.inl k=>hashInt k
 |.inr x=>hashStr w x
theorem bG:∀{k:Key} {v:Value},mV k v=true->(∃i t,k=Sum.inl i/\v=Value.int i t)\/(∃x t,k=Sum.inr x/\v=Value.str x t)
 |.inl i,v,h=>by
  obtain⟨t,e⟩:=Value.isInt_shape (k:=i) (v:=v) h
  exact .inl ⟨i,t,rfl,e⟩
 |.inr x,v,h=>by
  obtain⟨t,e⟩:=Value.isStrOf_shape (x:=x) (v:=v) h
  exact .inr ⟨x,t,rfl,e⟩
def uW(i:Int)(t:Tok):mV (.inl i) (.int i t)=true:=by simp [mV,Value.isInt]
def vB(x:Str)(t:Tok):mV (.inr x) (.str x t)=true:=by simp [mV,Value.isStrOf]
def Ec(a b:Int):decide ((Sum.inl a:Key)=Sum.inl b)=(a==b):=by
 by_cases e:a=b
 ·subst e;simp
 ·have h:¬(Sum.inl a:Key)=Sum.inl b:=λq=>e (Sum.inl.inj q)
  rw [zz0 h];exact(beq_eq_false_iff_ne.mpr e).symm
def EE(a b:Str):decide ((Sum.inr a:Key)=Sum.inr b)=decide (a=b):=by
 by_cases e:a=b
 ·subst e;simp
 ·have h:¬(Sum.inr a:Key)=Sum.inr b:=λq=>e (Sum.inr.inj q)
  rw [zz0 h,zz0 e]
def Ex(a:Int)(b:Str):decide ((Sum.inl a:Key)=Sum.inr b)=false:=zz0 (λq=>nomatch q)
def F3(a:Str)(b:Int):decide ((Sum.inr a:Key)=Sum.inl b)=false:=zz0 (λq=>nomatch q)
noncomputable def bF(prog:Program)(w:World):PySem.KeyKind prog w Key where
 is:=mV
 hash:=Nl w
 inj:=λv a b ha hb=>by
  rcases bG ha with⟨i,t,rfl,rfl⟩|⟨x,t,rfl,rfl⟩
  ·rcases bG hb with⟨j,u,rfl,e⟩|⟨y,u,rfl,e⟩
   ·injection e with e1 _;rw [e1]
   ·exact nomatch e
  ·rcases bG hb with⟨j,u,rfl,e⟩|⟨y,u,rfl,e⟩
   ·exact nomatch e
   ·injection e with e1 _;rw [e1]
 byValue:=λk v h=>by
  rcases bG h with⟨i,t,rfl,rfl⟩|⟨x,t,rfl,rfl⟩<;>rfl
 pyHash:=λhv h=>by
  rcases bG hv with⟨i,t,rfl,rfl⟩|⟨x,t,rfl,rfl⟩
  ·exact wpAny_pyHash_int h
  ·exact wpAny_pyHash_str h
 eqBool:=λhu hv h=>by
  rcases bG hu with⟨i,t,rfl,rfl⟩|⟨x,t,rfl,rfl⟩
  ·rcases bG hv with⟨j,u,rfl,rfl⟩|⟨y,u,rfl,rfl⟩
   ·rw [Ec] at h;exact wpAny_eqBool_int h
   ·rw [Ex] at h;exact SeqAt.EqAt.int_str i t y u _ _ _ _ h
  ·rcases bG hv with⟨j,u,rfl,rfl⟩|⟨y,u,rfl,rfl⟩
   ·rw [F3] at h;exact SeqAt.EqAt.str_int x t j u _ _ _ _ h
   ·rw [EE] at h;exact wpAny_eqBool_str h
 «strs»:=λk x t v h=>by
  rcases bG h with⟨i,u,rfl,e⟩|⟨y,u,rfl,e⟩
  ·exact nomatch e
  ·injection e with e1 _
   subst e1;cases v<;>rfl
def ql(prog:Program)(w:World)(i:Int)(t:Tok):(bF prog w).is (.inl i) (.int i t)=true:=uW i t
def qf(prog:Program)(w:World)(x:Str)(t:Tok):(bF prog w).is (.inr x) (.str x t)=true:=vB x t
inductive V where
 |aA|bl (b:Bool)|int (i:Int)|str (x:Str)|Mn (b:Array UInt8)|Ob (b:UInt64)|ref (a:Addr)|ty (n:String)
 deriving DecidableEq
def RelV:V->Value->Prop
 |.aA,u=>u=Value.none
 |.bl b,u=>u=Value.bool b
 |.int i,u=>∃t,u=Value.int i t
 |.str x,u=>∃t,u=Value.str x t
 |.Mn b,u=>∃t,u=Value.bytes b t
 |.Ob b,u=>∃t,u=Value.float b t
 |.ref a,u=>u=Value.ref a
 |.ty n,u=>u=Value.type n
abbrev Vals:List V->List Value->Prop:=Paired RelV
def Vals.length{xs:List V}{us:List Value}(r:Vals xs us):xs.length=us.length:=Paired.length r
theorem Vals.get:∀{xs:List V} {us:List Value} {i:Nat} {x:V},Vals xs us->xs[i]?=some x->∃u,us[i]?=some u/\RelV x u
 |_,_,_,_,.nil,e=>by simp at e
 |_,_,0,_,.cons r _,e=>by simp at e;subst e;exact⟨_,rfl,r⟩
 |_,_,i+1,x,.cons _ t,e=>by
  obtain⟨u,h1,h2⟩:=Vals.get (i:=i) (x:=x) t (by simpa using e)
  exact⟨u,by simpa using h1,h2⟩
theorem Vals.set{x:V}{u:Value}(r:RelV x u):∀{xs:List V} {us:List Value} (i:Nat),Vals xs us->Vals (xs.set i x) (us.set i u)
 |_,_,_,.nil=>.nil
 |_,_,0,.cons _ t=>.cons r t
 |_,_,i+1,.cons q t=>.cons q (Vals.set r i t)
theorem Vals.append:∀{xs ys:List V} {us ws:List Value},Vals xs us->Vals ys ws->Vals (xs++ys) (us++ws)
 |_,_,_,_,.nil,s=>s
 |_,_,_,_,.cons r t,s=>.cons r (Vals.append t s)
theorem Vals.take:∀{xs:List V} {us:List Value} (n:Nat),Vals xs us->Vals (xs.take n) (us.take n)
 |_,_,0,_=>.nil
 |_,_,_+1,.nil=>.nil
 |_,_,n+1,.cons r t=>.cons r (Vals.take n t)
theorem Vals.drop:∀{xs:List V} {us:List Value} (n:Nat),Vals xs us->Vals (xs.drop n) (us.drop n)
 |_,_,0,r=>r
 |_,_,_+1,.nil=>.nil
 |_,_,n+1,.cons _ t=>Vals.drop n t
def kG:Option V->Option Value->Prop
 |some v,some u=>RelV v u
 |none,none=>True
 |_,_=>False
def KV{κ:Type}:List (κ×V)->List (κ×Value)->Prop:=Paired λ(p:κ×V) (q:κ×Value)=>p.1=q.1/\RelV p.2 q.2
def kV:Key->V
 |.inl i=>.int i
 |.inr x=>.str x
inductive HO where
 |lst (xs:List V)
 |tup (xs:List V)
 |dK (az:List (Key×V))|dT (az:List (List Key×V))
 |set (S:Int->Bool) (n:Nat)
 |ins (C dx:Addr) (fs:List (Str×V))
 |own (x:Addr)
 |xd (fs:List (Str×V))
 |met (f x:Addr)
 |jj (lo hi:Int)
 |cU (o:Obj) (u:HO)
 |gf (ps:Array Value)
 |ext (φ:Heap->Prop)
abbrev Hp:=Addr->Option HO
def upd(H:Hp)(a:Addr)(o:HO):Hp:=λb=>if b=a then some o else H b
def au{H:Hp}{a:Addr}{o:HO}:upd H a o a=some o:=by unfold upd;rw [if_pos rfl]
def ai{H:Hp}{a b:Addr}{o:HO}(h:b≠a):upd H a o b=H b:=by unfold upd;rw [if_neg h]
def tP{H:Hp}{a:Addr}{o u:HO}:upd (upd H a o) a u=upd H a u:=by
 funext b;unfold upd;split<;>rfl
def iX{H:Hp}{a b:Addr}{o u:HO}(h:H a=some o)(h':H b=some u)(d:o≠u):a≠b:=by
 intro e;subst e;rw [h] at h';exact d (zzq h')
def dr{H:Hp}{a b:Addr}{o:HO}(h:H a=some o)(h':H b=none):a≠b:=by
 intro e;subst e;rw [h] at h';cases h'
section
variable(P:Program)(w:World)
def bU(H:Hp)(h:Heap)(a:Addr):HO->Prop
 |.lst xs=>xs.length<=sizeLine/\∃(ak:List Value) (n:Nat),Vals xs ak/\h.get? a=some {cls:=.type "list",data:=.seq ak.toArray n}
 |.tup xs=>xs.length<=sizeLine/\∃ak:List Value,Vals xs ak/\IsTup h a ak.toArray
 |.dK az=>az.length<=sizeLine/\(a==sysModules)=false/\∃vs,KV az vs/\h.DictOf (bF P w) a vs
 |.dT az=>az.length<=sizeLine/\(a==sysModules)=false/\∃xs:List (List Key×Addr×Value),
  Paired (λ(p:List Key×V) (q:List Key×Addr×Value)=>p.1=q.1/\H q.2.1=some (.tup (p.1.map kV))/\RelV p.2 q.2.2) az xs/\
  ∃o es ep,h.get? a=some o/\o.ExactDict/\o.data=.dict es ep/\es.toList=xs.map (entryOfKey (tupleKind (bF P w)))/\(xs.map (·.1)).Nodup
 |.set S n=>h.SetOf (intKind P w) a S n
 |.ins C dx fs=>H dx=some (.own a)/\fs.length<=1000/\dx≠a/\h.get? a=some (PySem.W.instObj C dx)/\
  ∃mA,h.Ns1 dx mA/\(∀f,kG (fs.lookup f) (mA f))/\PySem.Within mA (fs.map (·.1))
 |.own _=>∃o,h.get? a=some o
 |.xd fs=>∃mA,h.Ns1 a mA/\∀f,kG (fs.lookup f) (mA f)
 |.jj lo hi=>∃t u v,h.get? a=some {cls:=.type "range",data:=.fields #[.int lo t,.int hi u,.int 1 v]}
 |.cU o u=>h.get? a=some o/\bU H h a u
 |.gf ps=>h.get? a=some {cls:=.none,data:=.fields ps}
 |.met f x=>h.get? a=some (PySem.W.methodObj (.ref f) (.ref x))
 |.ext φ=>φ h/\(∃o,h.get? a=some o)/\∀h1 h2:Heap,φ h1->(∀o,h1.get? a=some o->h2.get? a=some o)->φ h2
def gG(H:Hp)(h:Heap):Prop:=∀a o,H a=some o->bU P w H h a o
end
section
variable{P:Program}{w:World}{H H':Hp}{h h':Heap}{a:Addr}{o:HO}
def bU.lt(x:bU P w H h a o):a<h.objs.size:=by
 cases o with
 |lst xs=>obtain⟨_,_,_,_,e⟩:=x;exact zzO e
 |tup xs=>obtain⟨_,_,_,p⟩:=x;exact p.lt
 |dK az=>obtain⟨_,_,_,_,o,_,_,e,_⟩:=x;exact zzO e
 |dT az=>obtain⟨_,_,_,_,o,_,_,e,_⟩:=x;exact zzO e
 |set S n=>obtain⟨o,_,_,_,e,_⟩:=x;exact zzO e
 |ins C dx fs=>obtain⟨_,_,_,e,_⟩:=x;exact zzO e
 |own y=>obtain⟨_,e⟩:=x;exact zzO e
 |xd fs=>obtain⟨_,⟨_,_,_,e,_⟩,_⟩:=x;exact zzO e
 |jj lo hi=>obtain⟨_,_,_,e⟩:=x;exact zzO e
 |cU ob u=>obtain⟨e,_⟩:=x;exact zzO e
 |gf ps=>exact zzO (show h.get? a=some _ from x)
 |met f y=>exact zzO (show h.get? a=some _ from x)
 |ext φ=>obtain⟨_,⟨_,e⟩,_⟩:=x;exact zzO e
theorem Paired.yK{α β:Type}{F G:α->β->Prop}:∀{l₁:List α} {l₂:List β},Paired F l₁ l₂->(∀a b,F a b->G a b)->Paired G l₁ l₂
 |_,_,.nil,_=>.nil
 |_,_,.cons r t,f=>.cons (f _ _ r) (Paired.yK t f)
def bU.fY(x:bU P w H h a o)(k:∀b u,(b=a\/H b=some (.own a))->h.get? b=some u->h'.get? b=some u)
 (ho:∀b,H b=some (.own a)->H' b=some (.own a)) (ht:∀b xs,H b=some (.tup xs)->H' b=some (.tup xs)):bU P w H' h' a o:=by
 induction o with
 |lst xs=>obtain⟨z,ak,n,r,e⟩:=x;exact⟨z,ak,n,r,k _ _ (.inl rfl) e⟩
 |tup xs=>obtain⟨z,ak,r,ob,e,c⟩:=x;exact⟨z,ak,r,ob,k _ _ (.inl rfl) e,c⟩
 |dK az=>obtain⟨z,y,vs,r,ob,es,ep,e,c⟩:=x;exact⟨z,y,vs,r,ob,es,ep,k _ _ (.inl rfl) e,c⟩
 |dT az=>
  obtain⟨z,y,xs,r,ob,es,ep,e,c⟩:=x
  exact⟨z,y,xs,Paired.yK r λp q z=>⟨z.1,ht _ _ z.2.1,z.2.2⟩,ob,es,ep,k _ _ (.inl rfl) e,c⟩
 |set S n=>obtain⟨ob,es,ep,t,e,c⟩:=x;exact⟨ob,es,ep,t,k _ _ (.inl rfl) e,c⟩
 |ins C dx fs=>
  obtain⟨d,z,ne,e,mA,⟨od,es,ep,e2,c⟩,r⟩:=x
  exact⟨ho _ d,z,ne,k _ _ (.inl rfl) e,mA,⟨od,es,ep,k _ _ (.inr d) e2,c⟩,r⟩
 |own y=>obtain⟨ob,e⟩:=x;exact⟨ob,k _ _ (.inl rfl) e⟩
 |xd fs=>obtain⟨mA,⟨od,es,ep,e,c⟩,r⟩:=x;exact⟨mA,⟨od,es,ep,k _ _ (.inl rfl) e,c⟩,r⟩
 |jj lo hi=>obtain⟨t,u,v,e⟩:=x;exact⟨t,u,v,k _ _ (.inl rfl) e⟩
 |cU ob u ih=>obtain⟨e,q⟩:=x;exact⟨k _ _ (.inl rfl) e,ih q⟩
 |gf ps=>
  have e:h.get? a=some {cls:=.none,data:=.fields ps}:=x
  show h'.get? a=some {cls:=.none,data:=.fields ps}
  exact k a _ (.inl rfl) e
 |met f y=>
  have e:h.get? a=some (PySem.W.methodObj (.ref f) (.ref y)):=x
  show h'.get? a=some (PySem.W.methodObj (.ref f) (.ref y))
  exact k a _ (.inl rfl) e
 |ext φ=>obtain⟨p,⟨o,e⟩,st⟩:=x;exact⟨st _ _ p λo q=>k _ _ (.inl rfl) q,⟨o,k _ _ (.inl rfl) e⟩,st⟩
def gG.lt(x:gG P w H h)(e:H a=some o):a<h.objs.size:=(x a o e).lt
def gG.fresh(x:gG P w H h)(e:h.objs.size<=a):H a=none:=by
 cases q:H a with
 |none=>rfl
 |some u=>exact absurd (zzW (x.lt q) e) (Nat.lt_irrefl _)
def gG.kept(x:gG P w H h)(k:∀b u,h.get? b=some u->h'.get? b=some u):gG P w H h':=λa o e=>
 (x a o e).fY (λb u _ q=>k b u q) (λ_ q=>q) λ_ _ q=>q
theorem gG.laid(x:gG P w H h)(k:∀b u,h.get? b=some u->h'.get? b=some u)(hp:h.objs.size<=a)(new:bU P w (upd H a o) h' a o):gG P w (upd H a o) h':=λb u e=>by
 have hn:=x.fresh hp
 by_cases hb:b=a
 ·subst hb;rw [au] at e;cases e;exact new
 ·rw [ai hb] at e;exact(x b u e).fY (λc v _ q=>k c v q) (λc q=>by rw [ai (dr q hn)];exact q) λc xs q=>by rw [ai (dr q hn)];exact q
end
def Rd(H:Hp)(a:Addr)(u:HO):Prop:=H a=some u\/∃o,H a=some (.cU o u)
def Rd.ok{P:Program}{w:World}{H:Hp}{h:Heap}{a:Addr}{u:HO}(r:Rd H a u)(x:gG P w H h):bU P w H h a u:=by
 rcases r with r|⟨o,r⟩
 ·exact x a u r
 ·obtain⟨_,q⟩:=x a _ r
  exact q
def JT:Option HO->Prop
 |some (.lst _)=>True
 |some (.dK _)=>True
 |some (.dT _)=>True
 |some (.set _ _)=>True
 |some (.ins _ _ _)=>True
 |some (.ext _)=>True
 |_=>False
section
variable{P:Program}{w:World}{H:Hp}{h h':Heap}{x e:Addr}{o':HO}
def gG.write(ok:gG P w H h)(mu:JT (H x))(he:e=x\/H e=some (.own x))(k:∀b u,b≠e->h.get? b=some u->h'.get? b=some u)(HX:∃u,h'.get? e=some u)
 (new:bU P w (upd H x o') h' x o'):gG P w (upd H x o') h':=λb u q=>by
 have JB:∀c y,H c=some (.own y)->c≠x:=λc y r z=>by subst z;rw [r] at mu;exact mu
 have N8:∀c xs,H c=some (.tup xs)->c≠x:=λc xs r z=>by subst z;rw [r] at mu;exact mu
 by_cases hb:b=x
 ·subst hb;rw [au] at q;cases q;exact new
 ·rw [ai hb] at q
  by_cases hbe:b=e
  ·have q':H b=some (.own x):=by
    rcases he with z|z
    ·exact absurd (hbe.trans z) hb
    ·rw [hbe];exact z
   rw [q] at q';cases q';obtain⟨v,hv⟩:=HX
   exact⟨v,by rw [hbe];exact hv⟩
  ·refine(ok b u q).fY (λc v hc r=>k c v ?_ r) (λc r=>by rw [ai (JB c b r)];exact r) λc xs r=>by rw [ai (N8 c xs r)];exact r
   rcases hc with rfl|hc
   ·exact hbe
   ·rintro rfl
    rcases he with z|z
    ·exact JB c b hc z
    ·rw [hc] at z;cases z;exact hb rfl
end
structure Un(fs ex:List Addr)(H H':Hp)(h h':Heap):Prop where
 keep:∀b o,h.get? b=some o->H b=none->b∉fs->b∉ex->h'.get? b=some o
 slot:∀b o,h.get? b=some o->H b=none->b∈fs->b∉ex->∃sl,h'.get? b=some {o with slots:=sl}
 free:∀b o,h.get? b=some o->H b=none->b∉ex->H' b=none
 there:∀b o,h.get? b=some o->b∉ex->∃o',h'.get? b=some o'
 jf:∀b xs,H b=some (.tup xs)->H' b=some (.tup xs)
 iL:∀b o u,H b=some (.cU o u)->H' b=some (.cU o u)
 iC:∀b ps,H b=some (.gf ps)->∃more,H' b=some (.gf (ps++more))
section
variable{fs ex:List Addr}{H H1:Hp}{h h1 h':Heap}{a x e:Addr}{o:HO}
def Un.any(u:Un fs ex H H1 h h1){b:Addr}{ob:Obj}(q:h.get? b=some ob)(n:H b=none)(hx:b∉ex):∃sl,h1.get? b=some {ob with slots:=sl}:=by
 by_cases hb:b∈fs
 ·exact u.slot b ob q n hb hx
 ·exact⟨ob.slots,u.keep b ob q n hb hx⟩
def Un.kept(k:∀b u,h.get? b=some u->h'.get? b=some u):Un fs ex H H h h':=
 ⟨λb ob q _ _ _=>k b ob q,λb ob q _ _ _=>⟨ob.slots,k b ob q⟩,λ_ _ _ n _=>n,λb ob q _=>⟨ob,k b ob q⟩,λ_ _ q=>q,λ_ _ _ q=>q,λ_ ps q=>⟨#[],by rw [q];simp⟩⟩
def Un.refl:Un fs ex H H h h:=Un.kept λ_ _ q=>q
theorem Un.laid(k:∀b u,h.get? b=some u->h'.get? b=some u)(hp:h.objs.size<=a)(hn:H a=none):Un fs ex H (upd H a o) h h' where
 keep:=λb u q _ _ _=>k b u q
 slot:=λb u q _ _ _=>⟨u.slots,k b u q⟩
 free:=λb u q n _=>by rw [ai (zzb (zzW (zzO q) hp))];exact n
 there:=λb u q _=>⟨u,k b u q⟩
 jf:=λb xs q=>by rw [ai (dr q hn)];exact q
 iL:=λb u xs q=>by rw [ai (dr q hn)];exact q
 iC:=λb ps q=>⟨#[],by rw [ai (dr q hn),q];simp⟩
def Un.write(mu:JT (H x))(he:e=x\/H e=some (.own x))(k:∀b u,b≠e->h.get? b=some u->h'.get? b=some u)(HX:∃u,h'.get? e=some u):Un fs ex H (upd H x o) h h':=by
 have hx:∀b,H b=none->b≠x:=λb n z=>by subst z;rw [n] at mu;exact mu
 have hb:∀b,H b=none->b≠e:=λb n z=>by
  subst z;rcases he with r|r
  ·exact hx b n r
  ·rw [n] at r;cases r
 have hm:∀b u,H b=some u->¬JT (some u)->b≠x:=λb u q nm z=>by subst z;rw [q] at mu;exact nm mu
 refine⟨λb u q n _ _=>k b u (hb b n) q,λb u q n _ _=>⟨u.slots,k b u (hb b n) q⟩,λb u q n _=>by rw [ai (hx b n)];exact n,λb u q _=>?_,
  λb xs q=>by rw [ai (hm b _ q λz=>z)];exact q,λb u xs q=>by rw [ai (hm b _ q λz=>z)];exact q,λb ps q=>⟨#[],by rw [ai (hm b _ q λz=>z),q];simp⟩⟩
 by_cases hbe:b=e
 ·subst hbe;exact HX
 ·exact⟨u,k b u hbe q⟩
end
def KS(h:Heap)(H:Hp):List Addr:=(List.range h.objs.size).filter λa=>(H a).isSome
def n8(h:Heap)(H:Hp):Heap:=PySem.W.hideAll h (KS h H)
def vq(h:Heap)(H:Hp):(n8 h H).objs.size=h.objs.size:=PySem.W.hideAll_size _ _
theorem zv{h:Heap}{H:Hp}{b:Addr}{o:Obj}(e:h.get? b=some o)(n:H b=none):(n8 h H).get? b=some o:=
 PySem.W.hideAll_get _ e λhm=>by
  have q:(H b).isSome=true:=(List.mem_filter.mp hm).2
  rw [n] at q;simp at q
def Bj{h:Heap}{H:Hp}{b:Addr}{o:Obj}(e:(n8 h H).get? b=some o):h.get? b=some o/\H b=none:=by
 have e':h.get? b=some o:=PySem.W.of_hideAll (KS h H) e
 refine⟨e',?_⟩;cases q:H b with
 |none=>rfl
 |some x=>
  have hm:b∈KS h H:=List.mem_filter.mpr ⟨List.mem_range.mpr (zzO e'),by simp [q]⟩
  have z:(n8 h H).get? b=none:=PySem.W.hideAll_none (KS h H) hm
  rw [z] at e;cases e
def BR(g h:Heap)(L:Addr):List (Addr×Obj):=(List.range h.objs.size).filterMap λa=>if a=L\/(g.get? a).isSome=true then none else(h.get? a).map λo=>(a,o)
def rest(g h:Heap)(L d:Addr):List (Addr×Obj):=(BR g h L).filter λp=>decide (p.1≠d)
structure Mod(K:zz8)(mg:Str->Option Value)(base:Heap):Prop where
 Lu:K.In base
 glob:base.Ns mainGlobals mg
 blt:∃mb,base.Ns builtinsNs mb/\∀x:Str,x≠"__name__"->mb x=bootBuiltins x
 nolimit:base.NoLimit
structure Cx where
 prog:Program
 w:World
 K:zz8
 mg:Str->Option Value
 base:Heap
 A:Around
 N:List Str
 s₀:Shared
 H₀:Hp
 env:Env
 outer:List Env
 stack:List Env
 ex:List Addr
 fn:Str->Bool
 calm:Bool
 pn:List (Addr×Obj)
 xe:Value->Shared->Prop
def hX(l:List Env):List Addr:=l.filterMap (·.frame)
abbrev Cx.fs(X:Cx):List Addr:=hX X.outer
def LD(sc:Scope)(x:Str):Prop:=sc.names.lookup x=some .local\/sc.names.lookup x=some .cell\/sc.names.lookup x=some .free
def Loc(sc:Scope)(x:Str):Prop:=sc.names.lookup x=some .local\/sc.names.lookup x=some .cell
def Look(env:Env)(h:Heap)(m:Str->Option Value)(x:Str)(u:Value):Prop:=
 (env.kindOf x=some .local/\m x=some u)\/((env.kindOf x=some .cell\/env.kindOf x=some .free)/\∃c,env.cells.lookup x=some c/\h.IsCell c (some u))
structure Cx.Ok(X:Cx):Prop where
 mod:Mod X.K X.mg X.base
 kind:X.env.scope.kind=.function
 glob:X.env.globals=mainGlobals
 blt:X.env.builtins=builtinsNs
 above:X.s₀.heap.objs.size<=X.env.locals
 inj:∀x y c,X.env.cells.lookup x=some c->X.env.cells.lookup y=some c->x=y
 has:∀x,(X.env.kindOf x=some .cell\/X.env.kindOf x=some .free)->∃c,X.env.cells.lookup x=some c
 Lk:∀x c,X.fn x=true->X.env.cells.lookup x=some c->X.s₀.heap.objs.size<=c
 hd:X.calm=true->X.A.handled=none
 frames:X.A.frames=some X.stack
 Kj:X.stack=X.outer\/(X.stack=X.env::X.outer/\X.env.frame=some X.env.locals)
 exf:∀b∈X.ex,b≠X.env.locals/\∀x c,X.env.cells.lookup x=some c->c≠b
 bs:∀b o,X.base.get? b=some o->X.s₀.heap.get? b=some o/\X.H₀ b=none
 DB:X.base.objs.size<=X.s₀.heap.objs.size
 A4:∀b o,X.base.get? b=some o->b∉X.ex
 E3:∀b∈X.ex,b∉X.fs
 l7:X.s₀.heap.FunFrames X.base X.outer
 E7:∀b∈X.fs,X.H₀ b=none
structure Inv(X:Cx)(aa:List (Addr×Obj))(σ:List (Option V))(H:Hp)(s:Shared):Prop where
 ok:X.Ok
 os:s.os=X.s₀.os
 bare:AllBare s.gens
 base:Un X.fs X.ex X.H₀ H X.s₀.heap s.heap
 loc:∃m,s.heap.Ns X.env.locals m/\∀(i:Nat) (x:Str) (v:V),X.N[i]?=some x->σ[i]?=some (some v)->LD X.env.scope x->∃u,RelV v u/\Look X.env s.heap m x u
 cell:∀x c,X.env.cells.lookup x=some c->∃v,s.heap.IsCell c v
 free:H X.env.locals=none
 iZ:∀x c,X.env.cells.lookup x=some c->H c=none
 pin:∀p∈X.pn++aa,s.heap.get? p.1=some p.2/\H p.1=none/\p.1≠X.env.locals/\p.1∉X.fs/\∀v,p.2.data≠.cell v
 bz:gG X.prog X.w H s.heap
 len:σ.length=X.N.length
section
variable{X:Cx}{aa:List (Addr×Obj)}{σ:List (Option V)}{H H':Hp}{s:Shared}{h':Heap}
theorem Cx.Ok.L4(ok:X.Ok){b:Addr}{o:Obj}(e:X.base.get? b=some o):b∉X.fs:=λhb=>by
 have:=(ok.l7.mem hb).1
 rw [e] at this;cases this
def Inv.bs(I:Inv X aa σ H s):∀b o,X.base.get? b=some o->s.heap.get? b=some o/\H b=none:=λb o e=>
 ⟨I.base.keep b o (I.ok.bs b o e).1 (I.ok.bs b o e).2 (I.ok.L4 e) (I.ok.A4 b o e),I.base.free b o (I.ok.bs b o e).1 (I.ok.bs b o e).2 (I.ok.A4 b o e)⟩
def Inv.bk(I:Inv X aa σ H s):∀b o,X.base.get? b=some o->s.heap.get? b=some o:=λb o e=>(I.bs b o e).1
def Inv.mod(I:Inv X aa σ H s):Mod X.K X.mg X.base:=I.ok.mod
def Inv.sE(I:Inv X aa σ H s):X.K.In s.heap:=I.ok.mod.Lu.keeps I.bk
theorem Inv.fr(I:Inv X aa σ H s):∃m,Fr X.base X.env.locals s.heap m:=
 let⟨m,hn,_⟩:=I.loc
 ⟨m,hn,I.bk,zzU I.ok.DB I.ok.above⟩
theorem Inv.lt(I:Inv X aa σ H s):X.env.locals<(zz9 s):=let⟨_,hn,_⟩:=I.loc;hn.lt
def Inv.sz(I:Inv X aa σ H s):X.s₀.heap.objs.size<=(zz9 s):=zzU I.ok.above (Nat.le_of_lt I.lt)
theorem Inv.MI(I:Inv X aa σ H s){a:Addr}(h:(zz9 s)<=a):a∉X.fs:=λhb=>by
 obtain⟨_,o,ho,_⟩:=I.ok.l7.mem hb
 exact absurd (zzW (zzO ho) (zzU I.sz h)) (Nat.lt_irrefl _)
theorem Inv.EH(I:Inv X aa σ H s):∀x c,X.env.cells.lookup x=some c->c≠X.env.locals:=λx c e z=>by
 obtain⟨v,o,ho,hd⟩:=I.cell x c e
 obtain⟨m,⟨o',es,ep,jx,hd',_⟩,_⟩:=I.loc
 rw [z,jx] at ho;cases ho;rw [hd'] at hd;cases hd
def Inv.l7(I:Inv X aa σ H s):s.heap.FunFrames X.base X.outer:=by
 have all:∀(l:List Env),(∀b∈hX l,b∈X.fs)->X.s₀.heap.FunFrames X.base l->s.heap.FunFrames X.base l:=by
  intro l
  induction l with
  |nil=>intro _ _;trivial
  |cons env r ih=>
   intro hs hl;obtain⟨hk,⟨L,o,hf,hn,ho,hd⟩,hr⟩:=hl
   have hL:L∈X.fs:=hs L (by unfold hX;rw [List.filterMap_cons,hf];exact zzP)
   obtain⟨sl,e⟩:=I.base.slot L o ho (I.ok.E7 L hL) hL λz=>I.ok.E3 L z hL
   exact⟨hk,⟨L,_,hf,hn,e,hd⟩,ih (λb hb=>hs b (by unfold hX;rw [List.filterMap_cons,hf];exact zzI _ hb)) hr⟩
 exact all X.outer (λ_ hb=>hb) I.ok.l7
def Inv.stack(I:Inv X aa σ H s):s.heap.FunFrames X.base X.stack:=by
 rcases I.ok.Kj with e|⟨e,hf⟩
 ·rw [e];exact I.l7
 ·rw [e];obtain⟨m,hn,_⟩:=I.loc
  refine .cons (by rw [I.ok.kind];decide) hf hn ?_ I.l7;exact Heap.get?_none_of_le (zzU I.ok.DB I.ok.above)
def Inv.lj(I:Inv X aa σ H s):∀b∈hX X.stack,b∈X.env.locals::X.fs:=λb hb=>by
 rcases I.ok.Kj with e|⟨e,hf⟩
 ·rw [e] at hb;exact zzI _ hb
 ·rw [e] at hb;unfold hX at hb;rw [List.filterMap_cons,hf] at hb;exact hb
theorem Inv.nP(I:Inv X aa σ H s):∀b∈hX X.stack,H b=none:=λb hb=>by
 rcases zzm.mp (I.lj b hb) with e|hb
 ·rw [e];exact I.free
 ·obtain⟨_,o,ho,_⟩:=I.ok.l7.mem hb
  exact I.base.free b o ho (I.ok.E7 b hb) λz=>I.ok.E3 b z hb
def Inv.step{g':Array GenState}{t':Nat}{d':Drawn}{ch:List Addr}(I:Inv X aa σ H s)
 (zJ:∀b∈ch,(b∈X.ex\/X.s₀.heap.objs.size<=b)/\b≠X.env.locals/\(∀x c,X.env.cells.lookup x=some c->c≠b)/\∀p∈X.pn++aa,p.1≠b)
 (keep:∀b o,b≠X.env.locals->b∉X.fs->b∉ch->s.heap.get? b=some o->H b=none->h'.get? b=some o)
 (slot:∀b o,b≠X.env.locals->b∈X.fs->b∉ch->s.heap.get? b=some o->H b=none->∃sl,h'.get? b=some {o with slots:=sl}) (free:∀b o,b∉ch->s.heap.get? b=some o->H b=none->H' b=none)
 (there:∀b o,b∉ch->s.heap.get? b=some o->∃o',h'.get? b=some o')
 (jf:∀b xs,H b=some (.tup xs)->H' b=some (.tup xs)) (iL:∀b o u,H b=some (.cU o u)->H' b=some (.cU o u)) (iC:∀b ps,H b=some (.gf ps)->∃more,H' b=some (.gf (ps++more)))
 (ns:∀m,s.heap.Ns X.env.locals m->h'.Ns X.env.locals m) (bz:gG X.prog X.w H' h') (hg:AllBare g'):
 Inv X aa σ H' {s with heap:=h',gens:=g',drawn:=d',toks:=t'}:=by
 have Lp:∀b o,X.s₀.heap.get? b=some o->b≠X.env.locals:=λb o e=>zzb (zzW (zzO e) I.ok.above)
 have D9:∀b o,X.s₀.heap.get? b=some o->b∉X.ex->b∉ch:=λb o e hx hb=>by
  rcases(zJ b hb).1 with z|z
  ·exact hx z
  ·exact absurd (zzW (zzO e) z) (Nat.lt_irrefl _)
 have cellK:∀x c,X.env.cells.lookup x=some c->∀v,s.heap.IsCell c v->h'.IsCell c v:=λx c e v ⟨o,ho,hd⟩=>by
  have Iy:c∉ch:=λz=>(zJ c z).2.2.1 x c e rfl
  by_cases hc:c∈X.fs
  ·obtain⟨sl,q⟩:=slot c o (I.EH x c e) hc Iy ho (I.iZ x c e)
   exact⟨_,q,hd⟩
  ·exact⟨o,keep c o (I.EH x c e) hc Iy ho (I.iZ x c e),hd⟩
 refine⟨I.ok,I.os,hg,⟨λb o e n hb hx=>?_,λb o e n hb hx=>?_,λb o e n hx=>?_,λb o e hx=>?_,λb xs e=>jf b xs (I.base.jf b xs e),λb o xs e=>iL b o xs (I.base.iL b o xs e),λb ps e=>?_⟩,?_,λx c e=>?_,?_,λx c e=>?_,λp hp=>?_,bz,I.len⟩
 ·exact keep b o (Lp b o e) hb (D9 b o e hx) (I.base.keep b o e n hb hx) (I.base.free b o e n hx)
 ·obtain⟨sl,e1⟩:=I.base.slot b o e n hb hx
  obtain⟨sl',e2⟩:=slot b _ (Lp b o e) hb (D9 b o e hx) e1 (I.base.free b o e n hx)
  exact⟨sl',e2⟩
 ·obtain⟨o',e1⟩:=I.base.there b o e hx
  exact free b o' (D9 b o e hx) e1 (I.base.free b o e n hx)
 ·obtain⟨o',e1⟩:=I.base.there b o e hx
  exact there b o' (D9 b o e hx) e1
 ·obtain⟨m1,e1⟩:=I.base.iC b ps e
  obtain⟨m2,e2⟩:=iC b _ e1
  exact⟨m1++m2,by rw [e2,Array.append_assoc]⟩
 ·obtain⟨m,hn,hl⟩:=I.loc
  refine⟨m,ns m hn,λi x v e1 e2 e3=>?_⟩
  obtain⟨u,r,l⟩:=hl i x v e1 e2 e3
  refine⟨u,r,?_⟩;rcases l with l|⟨k,c,e,z⟩
  ·exact .inl l
  ·exact .inr ⟨k,c,e,cellK x c e _ z⟩
 ·obtain⟨v,z⟩:=I.cell x c e
  exact⟨v,cellK x c e v z⟩
 ·obtain⟨m,⟨o,_,_,ho,_⟩,_⟩:=I.loc
  exact free _ o (λz=>(zJ _ z).2.1 rfl) ho I.free
 ·obtain⟨v,o,ho,hd⟩:=I.cell x c e
  exact free c o (λz=>(zJ c z).2.2.1 x c e rfl) ho (I.iZ x c e)
 ·obtain⟨e,n,ne,nf,d⟩:=I.pin p hp
  have Iy:p.1∉ch:=λz=>(zJ p.1 z).2.2.2 p hp rfl
  exact⟨keep p.1 p.2 ne nf Iy e n,free p.1 p.2 Iy e n,ne,nf,d⟩
def Inv.un{t':Nat}(I:Inv X aa σ H s)(u:Un X.fs [] H H' s.heap h')(bz:gG X.prog X.w H' h'):Inv X aa σ H' {s with heap:=h',toks:=t'}:=by
 obtain⟨m,⟨o,es,ep,ho,r⟩,_⟩:=id I.loc
 obtain⟨sl,hL⟩:=u.any ho I.free (by simp)
 exact I.step (g':=s.gens) (d':=s.drawn) (ch:=[]) (λ_ z=>nomatch z) (λb o _ hb _ e n=>u.keep b o e n hb (by simp)) (λb o _ hb _ e n=>u.slot b o e n hb (by simp)) (λb o _ e n=>u.free b o e n (by simp)) (λb o _ e=>u.there b o e (by simp)) u.jf u.iL u.iC (λm' hm=>by
  obtain⟨o',es',ep',jx,r'⟩:=hm
  rw [ho] at jx;cases jx;exact⟨_,es',ep',hL,r'⟩) bz I.bare
def Inv.call{g':Array GenState}{t':Nat}{d':Drawn}{ch:List Addr}(I:Inv X aa σ H s)(u:Un (hX X.stack) ch H H' s.heap h')(bz:gG X.prog X.w H' h')(hg:AllBare g')
 (zJ:∀b∈ch,(b∈X.ex\/X.s₀.heap.objs.size<=b)/\b≠X.env.locals/\(∀x c,X.env.cells.lookup x=some c->c≠b)/\∀p∈X.pn++aa,p.1≠b):
 Inv X aa σ H' {s with heap:=h',gens:=g',drawn:=d',toks:=t'}:=by
 obtain⟨m,⟨o,es,ep,ho,r⟩,_⟩:=id I.loc
 obtain⟨sl,hL⟩:=u.any ho I.free λz=>(zJ _ z).2.1 rfl
 exact I.step (ch:=ch) zJ (λb o hL hb hc e n=>u.keep b o e n (λz=>(zzm.mp (I.lj b z)).elim hL hb) hc) (λb o _ _ hc e n=>u.any e n hc) (λb o hc e n=>u.free b o e n hc) (λb o hc e=>u.there b o e hc) u.jf u.iL u.iC (λm' hm=>by
  obtain⟨o',es',ep',jx,r'⟩:=hm
  rw [ho] at jx;cases jx;exact⟨_,es',ep',hL,r'⟩) bz hg
def Inv.turned{t':Nat}{it:Addr}(I:Inv X aa σ H s)(k:∀b o,b≠it->s.heap.get? b=some o->h'.get? b=some o)(hn:H it=none)(hL:it≠X.env.locals)
 (h1:it∈X.ex\/X.s₀.heap.objs.size<=it) (h2:∀x c,X.env.cells.lookup x=some c->c≠it) (h3:∀p∈X.pn++aa,p.1≠it):Inv X aa σ H {s with heap:=h',toks:=t'}:=by
 have PC:∀b u,H b=some u->b≠it:=λb u e z=>by rw [z,hn] at e;cases e
 refine I.step (g':=s.gens) (d':=s.drawn) (ch:=[it]) (λb hb=>?_) (λb o _ _ hc e _=>k b o (λz=>hc (by simp [z])) e) (λb o _ _ hc e _=>⟨o.slots,k b o (λz=>hc (by simp [z])) e⟩) (λ_ _ _ _ n=>n)
  (λb o hc e=>⟨o,k b o (λz=>hc (by simp [z])) e⟩) (λ_ _ e=>e) (λ_ _ _ e=>e) (λb ps e=>⟨#[],by rw [e];simp⟩) (λm hm=>?_) (λb u e=>?_) I.bare
 ·have e:b=it:=by simpa using hb
  subst e;exact⟨h1,hL,h2,h3⟩
 ·obtain⟨o,es,ep,ho,r⟩:=hm
  exact⟨o,es,ep,k _ o (Ne.symm hL) ho,r⟩
 ·refine(I.bz b u e).fY (λc v hc q=>k c v ?_ q) (λ_ q=>q) λ_ _ q=>q
  rcases hc with z|z
  ·rw [z];exact PC b u e
  ·exact PC c _ z
theorem Inv.tok(I:Inv X aa σ H s)(t:Nat):Inv X aa σ H {s with toks:=t}:=I.un (h':=s.heap) (t':=t) Un.refl I.bz
theorem Inv.kept{t':Nat}(I:Inv X aa σ H s)(k:∀b u,s.heap.get? b=some u->h'.get? b=some u):Inv X aa σ H {s with heap:=h',toks:=t'}:=I.un (Un.kept k) (I.bz.kept k)
theorem Inv.laid{a:Addr}{o:HO}{t':Nat}(I:Inv X aa σ H s)(k:∀b u,s.heap.get? b=some u->h'.get? b=some u)(hp:(zz9 s)<=a)(new:bU X.prog X.w (upd H a o) h' a o):
 Inv X aa σ (upd H a o) {s with heap:=h',toks:=t'}:=I.un (Un.laid k hp (I.bz.fresh hp)) (I.bz.laid k hp new)
theorem Inv.write{x e:Addr}{o:HO}{t':Nat}(I:Inv X aa σ H s)(mu:JT (H x))(he:e=x\/H e=some (.own x))(k:∀b u,b≠e->s.heap.get? b=some u->h'.get? b=some u)(HX:∃u,h'.get? e=some u)
 (new:bU X.prog X.w (upd H x o) h' x o):Inv X aa σ (upd H x o) {s with heap:=h',toks:=t'}:=I.un (Un.write mu he k HX) (I.bz.write mu he k HX new)
def Inv.ji{DD:List (Addr×Obj)}(I:Inv X aa σ H s)(h:∀p∈DD,s.heap.get? p.1=some p.2/\H p.1=none/\p.1≠X.env.locals/\p.1∉X.fs/\∀v,p.2.data≠.cell v):Inv X DD σ H s:=
 ⟨I.ok,I.os,I.bare,I.base,I.loc,I.cell,I.free,I.iZ,λp hp=>(List.mem_append.mp hp).elim (λz=>I.pin p (zzc _ z)) (h p),I.bz,I.len⟩
def jX{N:List Str}(hN:N.Nodup){i j:Nat}{x:Str}(a:N[i]?=some x)(b:N[j]?=some x):i=j:=by
 obtain⟨h1,e1⟩:=zzH.mp a
 obtain⟨h2,e2⟩:=zzH.mp b
 exact(List.getElem_inj hN).mp (e1.trans e2.symm)
def iz{M:Model}{A:Around}{E:Value->Shared->Prop}{i:Nat}{x:Str}{v:V}{u:Value}{Q:Unit->Shared->Prop}(I:Inv X aa σ H s)(hN:X.N.Nodup)(hi:X.N[i]?=some x)(hx:Loc X.env.scope x)(r:RelV v u)
 (h:∀s',Inv X aa (σ.set i (some v)) H s'->(∃a,Heap.SameBut a s.heap s'.heap/\(a=X.env.locals\/X.env.cells.lookup x=some a))->Q () s') (hf:X.fn x=true\/X.env.scope.names.lookup x=some .local:=by first|exact .inl rfl|exact .inr rfl|assumption):wpAny M A (storeName X.env x u) Q E s:=by
 obtain⟨m,hn,hl⟩:=id I.loc
 have L9:(X.env.scope.kind==.class||(X.env.scope.kind==.module&&X.env.locals !=X.env.globals))=false:=by rw [I.ok.kind];rfl
 have hiσ:i<σ.length:=by rw [I.len];exact(zzH.mp hi).1
 have EH:=I.EH
 have tracked:∀{a:Addr} {h':Heap},(∃o,s.heap.get? a=some o/\H a=none)->Heap.SameBut a s.heap h'->gG X.prog X.w H h':=λ{a h'} ha hs b ob e=>by
  obtain⟨_,_,hfree⟩:=ha
  refine(I.bz b ob e).fY (λc w' hc q=>(hs.2 c ?_).trans q) (λ_ q=>q) λ_ _ q=>q
  rintro rfl
  rcases hc with rfl|hc
  ·rw [hfree] at e;cases e
  ·rw [hfree] at hc;cases hc
 rcases hx with hk|hk
 ·refine wpAny_storeName_local hk hn (λh' Q3 hs=>?_) L9;obtain⟨oL,_,_,hoL,_⟩:=id hn
  refine h _ ⟨I.ok,I.os,I.bare,⟨λb o e n hb hx=>?_,λb o e n hb hx=>?_,I.base.free,λb o e hx=>?_,I.base.jf,I.base.iL,I.base.iC⟩,⟨_,Q3,λj y v' e1 e2 e3=>?_⟩,λy c e=>?_,I.free,I.iZ,λp hp=>?_,tracked ⟨oL,hoL,I.free⟩ hs,by simpa using I.len⟩ ⟨_,hs,.inl rfl⟩
  ·exact(hs.2 b (zzb (zzW (zzO e) I.ok.above))).trans (I.base.keep b o e n hb hx)
  ·obtain⟨sl,e1⟩:=I.base.slot b o e n hb hx
   exact⟨sl,(hs.2 b (zzb (zzW (zzO e) I.ok.above))).trans e1⟩
  ·obtain⟨o',e1⟩:=I.base.there b o e hx
   exact⟨o',(hs.2 b (zzb (zzW (zzO e) I.ok.above))).trans e1⟩
  ·by_cases hj:j=i
   ·subst hj;rw [hi] at e1;cases e1;rw [zzo hiσ] at e2;cases e2;exact⟨u,r,.inl ⟨hk,by simp⟩⟩
   ·rw [zzS (Ne.symm hj)] at e2;obtain⟨u',r',q⟩:=hl j y v' e1 e2 e3
    refine⟨u',r',?_⟩;rcases q with⟨k,e⟩|⟨k,c,e,z⟩
    ·refine .inl ⟨k,?_⟩;have:y≠x:=λe=>hj (jX hN e1 (e▸hi))
     simp [this,e]
    ·exact .inr ⟨k,c,e,z.sameBut hs (EH y c e)⟩
  ·obtain⟨w',z⟩:=I.cell y c e
   exact⟨w',z.sameBut hs (EH y c e)⟩
  ·obtain⟨e,n,ne,nf,d⟩:=I.pin p hp
   exact⟨(hs.2 p.1 ne).trans e,n,ne,nf,d⟩
 ·have si:X.fn x=true:=by
   rcases hf with z|z
   ·exact z
   ·rw [z] at hk;cases hk
  obtain⟨c,hc⟩:=I.ok.has x (.inl hk)
  obtain⟨w',z⟩:=I.cell x c hc
  refine wpAny_storeName_cell I.ok.kind hk hc z (λh' pg hs=>?_);obtain⟨oc,hoc,hocd⟩:=id z
  refine h {s with heap:=h'} ⟨I.ok,I.os,I.bare,⟨λb o e n hb hx=>?_,λb o e n hb hx=>?_,I.base.free,λb o e hx=>?_,I.base.jf,I.base.iL,I.base.iC⟩,⟨m,hn.sameBut hs (Ne.symm (EH x c hc)),λj y v' e1 e2 e3=>?_⟩,λy c' e=>?_,I.free,I.iZ,λp hp=>?_,tracked ⟨oc,hoc,I.iZ x c hc⟩ hs,by simpa using I.len⟩ ⟨c,hs,.inr hc⟩
  ·exact(hs.2 b (zzb (zzW (zzO e) (I.ok.Lk x c si hc)))).trans (I.base.keep b o e n hb hx)
  ·obtain⟨sl,e1⟩:=I.base.slot b o e n hb hx
   exact⟨sl,(hs.2 b (zzb (zzW (zzO e) (I.ok.Lk x c si hc)))).trans e1⟩
  ·obtain⟨o',e1⟩:=I.base.there b o e hx
   exact⟨o',(hs.2 b (zzb (zzW (zzO e) (I.ok.Lk x c si hc)))).trans e1⟩
  ·by_cases hj:j=i
   ·subst hj;rw [hi] at e1;cases e1;rw [zzo hiσ] at e2;cases e2;exact⟨u,r,.inr ⟨.inl hk,c,hc,pg⟩⟩
   ·rw [zzS (Ne.symm hj)] at e2;obtain⟨u',r',q⟩:=hl j y v' e1 e2 e3
    refine⟨u',r',?_⟩;rcases q with q|⟨k,c',e,z'⟩
    ·exact .inl q
    ·refine .inr ⟨k,c',e,z'.sameBut hs ?_⟩
     rintro rfl
     exact hj (jX hN e1 (I.ok.inj _ _ _ e hc▸hi))
  ·by_cases hcc:c'=c
   ·subst hcc;exact⟨_,pg⟩
   ·obtain⟨w2,z2⟩:=I.cell y c' e
    exact⟨w2,z2.sameBut hs hcc⟩
  ·obtain⟨e,n,ne,nf,d⟩:=I.pin p hp
   refine⟨(hs.2 p.1 ?_).trans e,n,ne,nf,d⟩;intro q;rw [q,hoc] at e;have q':oc=p.2:=zzq e
   exact d w' (by rw [<-q'];exact hocd)
def pY{M:Model}{A:Around}{E:Value->Shared->Prop}{i:Nat}{x:Str}{v:V}{u:Value}{Q:Unit->Shared->Prop}(I:Inv X aa σ H s)(hN:X.N.Nodup)(hi:X.N[i]?=some x)(hx:Loc X.env.scope x)(r:RelV v u)
 (h:∀s',Inv X aa (σ.set i (some v)) H s'->Q () s') (hf:X.fn x=true\/X.env.scope.names.lookup x=some .local:=by first|exact .inl rfl|exact .inr rfl|assumption):wpAny M A (storeName X.env x u) Q E s:=
 iz I hN hi hx r (λs' I' _=>h s' I') hf
def Inv.J7{s':Shared}{ch:List Addr}(I:Inv X aa σ H s)(ho:s'.os=s.os)(u:Un (hX X.stack) ch H H' s.heap s'.heap)(bz:gG X.prog X.w H' s'.heap)(hg:AllBare s'.gens)
 (zJ:∀b∈ch,(b∈X.ex\/X.s₀.heap.objs.size<=b)/\b≠X.env.locals/\(∀x c,X.env.cells.lookup x=some c->c≠b)/\∀p∈X.pn++aa,p.1≠b):Inv X aa σ H' s':=by
 obtain⟨h',g',d',t',o'⟩:=s'
 have e:o'=s.os:=ho
 subst e;exact I.call (g':=g') (t':=t') (d':=d') u bz hg zJ
end
abbrev XK:=Value->Option Addr->Hp->Prop
abbrev St:=List (Option V)
abbrev VK:=V->Hp->Prop
abbrev TE:=St->Hp->VK->Prop
abbrev TT:=St->Hp->(Bool->Hp->Prop)->Prop
abbrev TA:=St->Hp->(List V->Hp->Prop)->Prop
structure Ends where
 nx:St->Hp->Prop
 rt:VK
 bk:St->Hp->Prop:=λ_ _=>False
 ct:St->Hp->Prop:=λ_ _=>False
abbrev TS:=Ends->St->Hp->Prop
def EP(X:Cx)(aa:List (Addr×Obj))(σ:St)(Q:VK)(u:Value)(s':Shared):Prop:=∃v H',Inv X aa σ H' s'/\RelV v u/\Q v H'
def TP(X:Cx)(aa:List (Addr×Obj))(σ:St)(Q:Bool->Hp->Prop)(b:Bool)(s':Shared):Prop:=∃H',Inv X aa σ H' s'/\Q b H'
def AP(X:Cx)(aa:List (Addr×Obj))(σ:St)(Q:List V->Hp->Prop)(us:List Value)(s':Shared):Prop:=∃vs H',Inv X aa σ H' s'/\Vals vs us/\Q vs H'
def SP(X:Cx)(aa:List (Addr×Obj))(D:Ends)(f:Flow)(s':Shared):Prop:=
 match f with
 |.next=>∃σ' H',Inv X aa σ' H' s'/\D.nx σ' H'
 |.brk=>∃σ' H',Inv X aa σ' H' s'/\D.bk σ' H'
 |.cont=>∃σ' H',Inv X aa σ' H' s'/\D.ct σ' H'
 |.ret u=>∃v σ' H',Inv X aa σ' H' s'/\RelV v u/\D.rt v H'
def PE(X:Cx)(e:Expr)(t:TE):Prop:=
 ∀(aa:List (Addr×Obj)) (s:Shared) (σ:St) (H:Hp) (Q:VK),Inv X aa σ H s->t σ H Q->wpAny (model X.prog X.w) X.A (eval e X.env) (EP X aa σ Q) X.xe s
def PT(X:Cx)(e:Expr)(t:TT):Prop:=
 ∀(aa:List (Addr×Obj)) (s:Shared) (σ:St) (H:Hp) (Q:Bool->Hp->Prop),Inv X aa σ H s->t σ H Q->wpAny (model X.prog X.w) X.A (isTrue e X.env (eval e X.env)) (TP X aa σ Q) X.xe s
def PW(X:Cx)(e:Expr)(t:TT):Prop:=
 ∀(whole:Sem Value) (aa:List (Addr×Obj)) (s:Shared) (σ:St) (H:Hp) (Q:Bool->Hp->Prop),Inv X aa σ H s->t σ H Q->wpAny (model X.prog X.w) X.A (isTrue e X.env whole) (TP X aa σ Q) X.xe s
def PW.pt{X:Cx}{e:Expr}{t:TT}(h:PW X e t):PT X e t:=h _
def PA(X:Cx)(es:List Expr)(t:TA):Prop:=
 ∀(pos:Pos) (aa:List (Addr×Obj)) (s:Shared) (σ:St) (H:Hp) (Q:List V->Hp->Prop),Inv X aa σ H s->t σ H Q->wpAny (model X.prog X.w) X.A (spliced (backTo pos (starEach es X.env))) (AP X aa σ Q) X.xe s
def PS(X:Cx)(st:Stmt)(t:TS):Prop:=
 ∀(aa:List (Addr×Obj)) (s:Shared) (σ:St) (H:Hp) (D:Ends),Inv X aa σ H s->t D σ H->wpAny (model X.prog X.w) X.A (exec st X.env) (SP X aa D) X.xe s
def sV(X:Cx)(st:List Stmt)(t:TS):Prop:=
 ∀(aa:List (Addr×Obj)) (s:Shared) (σ:St) (H:Hp) (D:Ends),Inv X aa σ H s->t D σ H->wpAny (model X.prog X.w) X.A (execs st X.env) (SP X aa D) X.xe s
def bK{α:Type}{t:Sem α}{Q Q':α->Shared->Prop}{M:Model}{A:Around}{E:Value->Shared->Prop}{s:Shared}(h:wpAny M A t Q E s)(hQ:∀a s,Q a s->Q' a s):wpAny M A t Q' E s:=wpAny_mono h hQ λ_ _ x=>x
section
variable{X:Cx}
def bin{a b:Expr}{ta tb:TE}(ha:PE X a ta)(hb:PE X b tb){aa:List (Addr×Obj)}{s:Shared}{σ:St}{H:Hp}{R:V->V->Hp->Prop}(I:Inv X aa σ H s)(h:ta σ H λx H1=>tb σ H1 λy H2=>R x y H2)
 {α:Type} {Q:α->Shared->Prop} {f:Value->Value->Sem α}
 (hf:∀v u s2 x y H2,Inv X aa σ H2 s2->RelV x v->RelV y u->R x y H2->wpAny (model X.prog X.w) X.A (f v u) Q X.xe s2):
 wpAny (model X.prog X.w) X.A (eval a X.env) (λv s₁=>wpAny (model X.prog X.w) X.A (eval b X.env) (λu s₂=>wpAny (model X.prog X.w) X.A (f v u) Q X.xe s₂) X.xe s₁) X.xe s:=by
 refine bK (ha aa s σ H _ I h) λv s1 ⟨x,H1,I1,r1,q1⟩=>?_
 refine bK (hb aa s1 σ H1 _ I1 q1) λu s2 ⟨y,H2,I2,r2,q2⟩=>?_
 exact hf v u s2 x y H2 I2 r1 r2 q2
def Ax(i:Nat):TE:=λσ H Q=>∃v,σ[i]?=some (some v)/\Q v H
def tC(v:V):TE:=λ_ H Q=>Q v H
def km{i:Nat}{x:Str}{pos:Pos}(hN:X.N[i]?=some x)(hv:LD X.env.scope x)(hd:(x==("__debug__":Str))=false:=by decide)(wz:(x==("__classdict__":Str))=false:=by decide):PE X (.Name x pos) (Ax i):=by
 intro aa s σ H Q I h;obtain⟨v,e,h⟩:=h
 obtain⟨m,hn,hl⟩:=I.loc
 obtain⟨u,r,l⟩:=hl i x v hN e hv
 have fin:EP X aa σ Q u s:=⟨v,H,I,r,h⟩
 rcases l with⟨hk,hm⟩|⟨hk,c,hc,pC⟩
 ·exact wpAny_Name (wpAny_loadName_local I.ok.kind hk hn hm fin) hd
 ·rcases hk with hk|hk
  ·exact wpAny_Name (wpAny_loadName_cell I.ok.kind hk hc pC fin) hd
  ·exact wpAny_Name (wpAny_loadName_free I.ok.kind hk hc pC fin wz) hd
def xO{i j pos}:PE X (.Constant (.int i) j pos) (tC (.int i)):=λ_ _ _ H _ I h=>wpAny_Constant_int ⟨.int i,H,I.tok _,⟨_,rfl⟩,h⟩
def II{b j pos}:PE X (.Constant (.bool b) j pos) (tC (.bl b)):=λ_ _ _ H _ I h=>Constant_bool ⟨.bl b,H,I,rfl,h⟩
def yJ{j pos}:PE X (.Constant .none j pos) (tC .aA):=λ_ _ _ H _ I h=>Constant_none ⟨.aA,H,I,rfl,h⟩
def xK{x j pos}:PE X (.Constant (.str x) j pos) (tC (.str x)):=λ_ _ _ H _ I h=>Calls.Constant_str ⟨.str x,H,I.tok _,⟨_,rfl⟩,h⟩
def Gl(X:Cx)(x:Str):Prop:=X.env.kindOf x=some .globalImplicit
def gZ{E:Value->Shared->Prop}{aa:List (Addr×Obj)}{s:Shared}{σ:St}{H:Hp}{x:Str}{u:Value}{pos:Pos}{Q:Value->Shared->Prop}(I:Inv X aa σ H s)(hg:Gl X x)(hm:X.mg x=some u)(h:Q u s)
 (hd:(x==("__debug__":Str))=false:=by decide):wpAny (model X.prog X.w) X.A (eval (.Name x pos) X.env) Q E s:=
 Calls.Name_function_global I.ok.kind hg (Calls.loadGlobal_global (by rw [I.ok.glob];exact I.mod.glob.keeps I.bk) hm h) hd
def dg{E:Value->Shared->Prop}{aa:List (Addr×Obj)}{s:Shared}{σ:St}{H:Hp}{x:Str}{u:Value}{pos:Pos}{Q:Value->Shared->Prop}(I:Inv X aa σ H s)(hg:Gl X x)(hm:X.mg x=none)(hv:bootBuiltins x=some u)(h:Q u s)
 (hn:x≠"__name__":=by decide) (hd:(x==("__debug__":Str))=false:=by decide):wpAny (model X.prog X.w) X.A (eval (.Name x pos) X.env) Q E s:=by
 obtain⟨mb,h1,h2⟩:=I.mod.blt
 exact Calls.Name_function_global I.ok.kind hg (Calls.loadGlobal_builtin (by rw [I.ok.glob];exact I.mod.glob.keeps I.bk) hm (by rw [I.ok.blt];exact h1.keeps I.bk) ((h2 x hn).trans hv) h) hd
def Bp{x:Str}{v:V}{u:Value}{pos:Pos}(hg:Gl X x)(hm:X.mg x=some u)(r:RelV v u)(hd:(x==("__debug__":Str))=false:=by decide):PE X (.Name x pos) (tC v):=
 λ_ _ _ H _ I h=>gZ I hg hm ⟨v,H,I,r,h⟩ hd
def zV{x:Str}{v:V}{u:Value}{pos:Pos}(hg:Gl X x)(hm:X.mg x=none)(hv:bootBuiltins x=some u)(r:RelV v u)(hn:x≠"__name__":=by decide)(hd:(x==("__debug__":Str))=false:=by decide):PE X (.Name x pos) (tC v):=
 λ_ _ _ H _ I h=>dg I hg hm hv ⟨v,H,I,r,h⟩ hn hd
variable{a b:Expr}{ta tb:TE}{pos:Pos}
def tB(t:TE):TT:=λσ H Q=>t σ H λx H1=>∃c,x=.bl c/\Q c H1
def Eb{e:Expr}{t:TE}(h:PE X e t)(he:∀whole,isTrue e X.env whole=(do let v<-whole;standAt e.pos;holding [v] (truthy v)):=by intro _;rfl):PT X e (tB t):=by
 intro aa s σ H Q I hw;refine isTrue_plain (bK (h aa s σ H _ I hw) λv s1 ⟨x,H1,I1,r1,q1⟩=>?_) (he _)
 obtain⟨d,rfl,q⟩:=q1
 cases r1;exact wpAny_truthy_bool ⟨H1,I1,q⟩
variable{tA Lw:TT}{rest:List Expr}
def My(t u:TT):TT:=λσ H Q=>t σ H λc H1=>if c=true then u σ H1 Q else Q false H1
def Rk(t u:TT):TT:=λσ H Q=>t σ H λc H1=>if c=true then Q true H1 else u σ H1 Q
def ME(t:TT):TT:=λσ H Q=>t σ H λc H1=>Q (!c) H1
def pw_and1(ha:PT X a tA):PW X (.BoolOp .And [a] pos) tA:=by
 intro wh aa s σ H Q I h;refine isTrue_and (bK (ha aa s σ H Q I h) λc s1 e=>?_)
 cases c with
 |true=>exact isTrue_and_nil e
 |false=>exact e
def pw_or1(ha:PT X a tA):PW X (.BoolOp .Or [a] pos) tA:=by
 intro wh aa s σ H Q I h;refine isTrue_or (bK (ha aa s σ H Q I h) λc s1 e=>?_)
 cases c with
 |false=>exact isTrue_or_nil e
 |true=>exact e
def pw_and(ha:PT X a tA)(hb:PW X (.BoolOp .And (b::rest) pos) Lw):PW X (.BoolOp .And (a::b::rest) pos) (My tA Lw):=by
 intro wh aa s σ H Q I h;refine isTrue_and (bK (ha aa s σ H _ I h) λc s1 ⟨H1,I1,q1⟩=>?_)
 cases c with
 |true=>exact hb wh aa s1 σ H1 Q I1 q1
 |false=>exact⟨H1,I1,q1⟩
def pw_or(ha:PT X a tA)(hb:PW X (.BoolOp .Or (b::rest) pos) Lw):PW X (.BoolOp .Or (a::b::rest) pos) (Rk tA Lw):=by
 intro wh aa s σ H Q I h;refine isTrue_or (bK (ha aa s σ H _ I h) λc s1 ⟨H1,I1,q1⟩=>?_)
 cases c with
 |true=>exact⟨H1,I1,q1⟩
 |false=>exact hb wh aa s1 σ H1 Q I1 q1
def HD(ha:PT X a tA):PT X (.UnaryOp .Not a pos) (ME tA):=by
 intro aa s σ H Q I h;exact isTrue_not (ha aa s σ H (λc H1=>Q (!c) H1) I h)
def IJ(ta tb:TE):TE:=λσ H Q=>ta σ H λx H1=>∃c,x=.bl c/\if c=true then tb σ H1 Q else Q (.bl false) H1
def NT(ta tb:TE):TE:=λσ H Q=>ta σ H λx H1=>∃c,x=.bl c/\if c=true then Q (.bl true) H1 else tb σ H1 Q
def Kk(ta:TE):TE:=λσ H Q=>ta σ H λx H1=>∃c,x=.bl c/\Q (.bl (!c)) H1
def xT{op}{t:TE}(h:PE X a t):PE X (.BoolOp op [a] pos) t:=λaa s σ H Q I hw=>BoolOp_one (h aa s σ H Q I hw)
def EY(ha:PE X a ta)(hb:PE X (.BoolOp .And (b::rest) pos) tb):PE X (.BoolOp .And (a::b::rest) pos) (IJ ta tb):=by
 intro aa s σ H Q I h;refine BoolOp_and (bK (ha aa s σ H _ I h) λv s1 ⟨x,H1,I1,r1,q1⟩=>?_)
 obtain⟨c,rfl,q1⟩:=q1
 cases r1;refine wpAny_truthy_bool ?_;cases c with
 |true=>exact hb aa s1 σ H1 Q I1 q1
 |false=>exact⟨.bl false,H1,I1,rfl,q1⟩
def Km(ha:PE X a ta)(hb:PE X (.BoolOp .Or (b::rest) pos) tb):PE X (.BoolOp .Or (a::b::rest) pos) (NT ta tb):=by
 intro aa s σ H Q I h;refine BoolOp_or (bK (ha aa s σ H _ I h) λv s1 ⟨x,H1,I1,r1,q1⟩=>?_)
 obtain⟨c,rfl,q1⟩:=q1
 cases r1;refine wpAny_truthy_bool ?_;cases c with
 |false=>exact hb aa s1 σ H1 Q I1 q1
 |true=>exact⟨.bl true,H1,I1,rfl,q1⟩
def Hk(ha:PE X a ta):PE X (.UnaryOp .Not a pos) (Kk ta):=by
 intro aa s σ H Q I h;refine UnaryOp_ (bK (ha aa s σ H _ I h) λv s1 ⟨x,H1,I1,r1,q1⟩=>?_)
 obtain⟨c,rfl,q1⟩:=q1
 cases r1;exact not_of (wpAny_truthy_bool ⟨.bl (!c),H1,I1,rfl,q1⟩)
def QM(t:TT)(ta tb:TE):TE:=λσ H Q=>t σ H λc H1=>if c=true then ta σ H1 Q else tb σ H1 Q
def wX{c:Expr}(hc:PT X c tA)(ha:PE X a ta)(hb:PE X b tb):PE X (.IfExp c a b pos) (QM tA ta tb):=by
 intro aa s σ H Q I h;refine wpAny_IfExp (bK (hc aa s σ H _ I h) λd s1 ⟨H1,I1,q1⟩=>?_)
 cases d with
 |true=>exact ha aa s1 σ H1 Q I1 q1
 |false=>exact hb aa s1 σ H1 Q I1 q1
end
def dw(K:zz8)(H:Hp)(a:Addr)(xs:List V):Prop:=
 Rd H a (.lst xs)\/
  ∃(o:Obj) (ak:Array Value) (n:Nat),K.lookup a=some o/\o.cls=.type "list"/\o.dict=none/\o.data=.seq ak n/\ak.size<=sizeLine/\Vals xs ak.toList
def eU(K:zz8)(H:Hp)(a:Addr)(xs:List V):Prop:=
 Rd H a (.tup xs)\/
  ∃(o:Obj) (ak:Array Value) (n:Nat),K.lookup a=some o/\o.cls=.type "tuple"/\o.data=.seq ak n/\ak.size<=sizeLine/\Vals xs ak.toList
noncomputable def Og:Value->Option V
 |.none=>some .aA
 |.bool b=>some (.bl b)
 |.int i _=>some (.int i)
 |.str x _=>some (.str x)
 |.bytes b _=>some (.Mn b)
 |.float b _=>some (.Ob b)
 |.ref a=>some (.ref a)
 |.type n=>some (.ty n)
 |_=>none
def RelV.abs{x:V}{u:Value}(r:RelV x u):Og u=some x:=by
 cases x with
 |aA=>cases r;rfl
 |bl _=>cases r;rfl
 |int _=>obtain⟨t,rfl⟩:=r;rfl
 |str _=>obtain⟨t,rfl⟩:=r;rfl
 |Mn _=>obtain⟨t,rfl⟩:=r;rfl
 |Ob _=>obtain⟨t,rfl⟩:=r;rfl
 |ref _=>cases r;rfl
 |ty _=>cases r;rfl
def RelV.inj{x y:V}{u:Value}(r:RelV x u)(q:RelV y u):x=y:=zzq (r.abs.symm.trans q.abs)
theorem Vals.inj:∀{xs ys:List V} {us:List Value},Vals xs us->Vals ys us->xs=ys
 |_,_,_,.nil,.nil=>rfl
 |_,_,_,.cons r t,.cons r' t'=>by rw [r.inj r',Vals.inj t t']
section
variable{X:Cx}{aa:List (Addr×Obj)}{σ:St}{H:Hp}{s:Shared}{a:Addr}{xs ys:List V}
def dw.of{K:zz8}(h:H a=some (.lst xs)):dw K H a xs:=.inl (.inl h)
def Inv.list(I:Inv X aa σ H s)(h:dw X.K H a xs):∃ak:List Value,Vals xs ak/\PlainL s.heap a ak.toArray/\xs.length<=sizeLine:=by
 rcases h with h|⟨o,ak,n,hk,hc,hd,hs,hz,r⟩
 ·obtain⟨z,ak,n,r,e⟩:=h.ok I.bz
  exact⟨ak,r,⟨_,n,e,rfl,rfl,rfl⟩,z⟩
 ·refine⟨ak.toList,r,⟨o,n,I.sE a o hk,hc,hd,by simpa using hs⟩,?_⟩;have e:=r.length
  simp! [zzd] at e;omega
def Inv.tuple(I:Inv X aa σ H s)(h:eU X.K H a xs):∃ak:List Value,Vals xs ak/\IsTup s.heap a ak.toArray/\xs.length<=sizeLine:=by
 rcases h with h|⟨o,ak,n,hk,hc,hs,hz,r⟩
 ·obtain⟨z,ak,r,p⟩:=h.ok I.bz
  exact⟨ak,r,p,z⟩
 ·refine⟨ak.toList,r,⟨o,I.sE a o hk,hc,n,by simpa using hs⟩,?_⟩;have e:=r.length
  simp! [zzd] at e;omega
def Inv.pR(I:Inv X aa σ H s)(h:dw X.K H a xs)(h':dw X.K H a ys):xs=ys:=by
 obtain⟨ak,r,⟨o,n,e,_,_,d⟩,_⟩:=I.list h
 obtain⟨its',r',⟨o',n',e',_,_,d'⟩,_⟩:=I.list h'
 rw [e] at e';cases e';rw [d] at d'
 injection d' with d1 _
 have:ak=its':=by simpa using congrArg Array.toList d1
 subst this;exact r.inj r'
def Inv.nc(I:Inv X aa σ H s)(h:eU X.K H a xs)(h':eU X.K H a ys):xs=ys:=by
 obtain⟨ak,r,⟨o,e,_,n,d⟩,_⟩:=I.tuple h
 obtain⟨its',r',⟨o',e',_,n',d'⟩,_⟩:=I.tuple h'
 rw [e] at e';cases e';rw [d] at d'
 injection d' with d1 _
 have:ak=its':=by simpa using congrArg Array.toList d1
 subst this;exact r.inj r'
variable{st:Stmt}{rest:List Stmt}{t u:TS}{e:Expr}{te:TE}{pos:Pos}
def JC:TS:=λD σ H=>D.nx σ H
def Oi(t u:TS):TS:=λD σ H=>t {D with nx:=u D} σ H
def Dh:sV X [] JC:=λ_ _ σ H _ I h=>wpAny_execs_nil ⟨σ,H,I,h⟩
def yi(h1:PS X st t)(h2:sV X rest u):sV X (st::rest) (Oi t u):=by
 intro aa s σ H D I h;refine wpAny_execs_cons (bK (h1 aa s σ H {D with nx:=u D} I h) λf s1 q=>?_)
 cases f with
 |next=>
  obtain⟨σ',H',I',q⟩:=q
  exact h2 aa s1 σ' H' D I' q
 |ret v=>exact q
 |brk=>exact q
 |cont=>exact q
def Ff:TS:=λD σ H=>D.bk σ H
def yu:PS X (.Break pos) Ff:=λ_ _ σ H _ I h=>wpAny_Break ⟨σ,H,I,h⟩
def Inv.quiet{aa:List (Addr×Obj)}{σ:St}{H:Hp}{s:Shared}(I:Inv X aa σ H s):interactive X.env=false:=by simp [interactive,I.ok.kind]
def Kb(te:TE):TS:=λD σ H=>te σ H λ_ H1=>D.nx σ H1
theorem jh(he:PE X e te)(hs:swapsWith e none pos.line X.env=pure false:=by rfl):PS X (.Expr e pos) (Kb te):=by
 intro aa s σ H D I h;exact wpAny_Expr_any (bK (he aa s σ H _ I h) λv s1 ⟨x,H1,I1,r1,q1⟩=>⟨σ,H1,I1,q1⟩) I.quiet hs
def LV(te:TE):TS:=λD σ H=>te σ H D.rt
def F4(he:PE X e te):PS X (.Return (some e) pos) (LV te):=by
 intro aa s σ H D I h;exact wpAny_Return_some (bK (he aa s σ H _ I h) λv s1 ⟨x,H1,I1,r1,q1⟩=>⟨x,σ,H1,I1,r1,q1⟩)
def MO(c:TT)(t u:TS):TS:=λD σ H=>c σ H λb H1=>if b=true then t D σ H1 else u D σ H1
def IS{c:Expr}{a b:List Stmt}{tc:TT}(hc:PT X c tc)(ha:sV X a t)(hb:sV X b u):PS X (.If c a b pos) (MO tc t u):=by
 intro aa s σ H D I h;refine wpAny_If (bK (hc aa s σ H _ I h) λd s1 ⟨H1,I1,q1⟩=>?_)
 cases d with
 |true=>exact ha aa s1 σ H1 D I1 q1
 |false=>exact hb aa s1 σ H1 D I1 q1
end
abbrev TG:=V->St->Hp->(St->Hp->Prop)->Prop
abbrev DA:=List V->St->Hp->(St->Hp->Prop)->Prop
def PG(X:Cx)(target:Expr)(t:TG):Prop:=
 ∀(aa:List (Addr×Obj)) (s:Shared) (σ:St) (H:Hp) (v:V) (u:Value) (Q:St->Hp->Prop),Inv X aa σ H s->RelV v u->t v σ H Q->
  wpAny (model X.prog X.w) X.A (assign target X.env u) (λ_ s'=>∃σ' H',Inv X aa σ' H' s'/\Q σ' H') X.xe s
def Jb(X:Cx)(ts:List Expr)(t:DA):Prop:=
 ∀(aa:List (Addr×Obj)) (s:Shared) (σ:St) (H:Hp) (vs:List V) (us:List Value) (Q:St->Hp->Prop),Inv X aa σ H s->Vals vs us->t vs σ H Q->
  wpAny (model X.prog X.w) X.A (assignInOrder ((assignEach ts X.env).map (·.2)) us) (λ_ s'=>∃σ' H',Inv X aa σ' H' s'/\Q σ' H') X.xe s
abbrev G7:=V->V->V->Hp->(Hp->Prop)->Prop
def Kp(X:Cx)(t:G7):Prop:=
 ∀(aa:List (Addr×Obj)) (s:Shared) (σ:St) (H:Hp) (o i v:V) (ov iv u:Value) (Q:Hp->Prop),Inv X aa σ H s->RelV o ov->RelV i iv->RelV v u->t o i v H Q->
  wpAny (model X.prog X.w) X.A (setItem ov iv u) (λ_ s'=>∃H',Inv X aa σ H' s'/\Q H') X.xe s
section
variable{X:Cx}{pos:Pos}
def dY(i:Nat):TG:=λv σ H Q=>Q (σ.set i (some v)) H
def CN{i:Nat}{x:Str}(hN:X.N.Nodup)(hi:X.N[i]?=some x)(hx:Loc X.env.scope x)(hf:X.fn x=true\/X.env.scope.names.lookup x=some .local:=by first|exact .inl rfl|exact .inr rfl|assumption):PG X (.Name x pos) (dY i):=by
 intro aa s σ H v u Q I r h;exact wpAny_assign_Name (pY I hN hi hx r (λs' I'=>⟨_,H,I',h⟩) hf)
def CJ:DA:=λvs σ H Q=>vs=[]/\Q σ H
def j4(t:TG)(u:DA):DA:=λvs σ H Q=>∃v r,vs=v::r/\t v σ H λσ' H'=>u r σ' H' Q
def A6:Jb X [] CJ:=by
 intro aa s σ H vs us Q I r h;obtain⟨e,h⟩:=h
 subst e;cases r;exact assignInOrder_nil ⟨σ,H,I,h⟩
theorem xJ{e:Expr}{es:List Expr}{t:TG}{u:DA}(h1:PG X e t)(h2:Jb X es u)
 (hs:(assignEach (e::es) X.env).map (·.2)=assign e X.env::(assignEach es X.env).map (·.2):=by rfl):Jb X (e::es) (j4 t u):=by
 intro aa s σ H vs us Q I r h;obtain⟨v,vr,e1,h⟩:=h
 subst e1;cases r with
 |cons r rr=>
  rw [hs];refine assignInOrder_cons (bK (h1 aa s σ H _ _ _ I r h) λ_ s1 ⟨σ1,H1,I1,q1⟩=>?_)
  exact h2 aa s1 σ1 H1 _ _ Q I1 rr q1
noncomputable def FN(K:zz8)(n:Nat)(t:DA):TG:=λv σ H Q=>∃a xs,v=.ref a/\eU K H a xs/\xs.length=n/\t xs σ H Q
theorem yD{es:List Expr}{k:Nat}{t:DA}{n:Nat}(hc:X.calm=true)(h:Jb X es t)
 (hn:(assignEach es X.env).length=n:=by rfl) (cJ:(assignEach es X.env).findIdx? (·.1)=none:=by rfl):PG X (.Tuple es k pos) (FN X.K n t):=by
 intro aa s σ H v u Q I r hw;obtain⟨a,xs,e1,hq,hl,hw⟩:=hw
 subst e1;cases r;obtain⟨ak,rv,ht,hz⟩:=I.tuple hq
 refine assign_Tuple_tuple (I.ok.hd hc) ht (by simp [hn,<-hl,rv.length]) cJ λh' hx=>?_
 have I1:Inv X aa σ H {s with heap:=h'}:=I.kept (t':=s.toks) λb o e=>hx b o (zzb (zzO e)) e
 exact h aa _ σ H xs _ Q I1 (by simpa using rv) hw
def N4(to ti:TE)(t:G7):TG:=λv σ H Q=>to σ H λo H1=>ti σ H1 λi H2=>t o i v H2 λH3=>Q σ H3
def FT{o i:Expr}{to ti:TE}{t:G7}(ho:PE X o to)(hi:PE X i ti)(hs:Kp X t)
 (ha:∀v,assign (.Subscript o i pos) X.env v=(do
  let ov<-holding [v] (eval o X.env)
  let iv<-holding [v,ov] (eval i X.env)
  standAt pos
  holding [v,ov,iv] (setItem ov iv v)
  release [v,ov,iv] []):=by intro _;rfl):PG X (.Subscript o i pos) (N4 to ti t):=by
 intro aa s σ H v u Q I r h;rw [ha];refine zzA (wpAny_holding (bK (ho aa s σ H _ I h) λov s1 ⟨x,H1,I1,r1,q1⟩=>?_))
 refine zzA (wpAny_holding (bK (hi aa s1 σ H1 _ I1 q1) λiv s2 ⟨y,H2,I2,r2,q2⟩=>?_))
 refine zzA (wpAny_standAt (zzA (wpAny_holding (bK (hs aa s2 σ H2 x y v ov iv u _ I2 r1 r2 r q2) λ_ s3 ⟨H3,I3,q3⟩=>?_))))
 exact wpAny_release ⟨σ,H3,I3,q3⟩
def Ay(te:TE)(g:TG):TS:=λD σ H=>te σ H λx H1=>g x σ H1 D.nx
theorem GR{tg e:Expr}{te:TE}{g:TG}(he:PE X e te)(hg:PG X tg g)(hs:swapsWithSole [tg] e pos.line X.env=pure false:=by rfl)(hw:swappedStores [tg] e X.env=pure none:=by rfl)
 (h1:(assignEach [tg] X.env).map (·.2)=[assign tg X.env]:=by rfl):PS X (.Assign [tg] e pos) (Ay te g):=by
 intro aa s σ H D I h;refine wpAny_Assign_stores (bK (he aa s σ H _ I h) λv s1 ⟨x,H1,I1,r1,q1⟩=>?_) hs hw
 rw [h1];exact bK (hg aa s1 σ H1 x v _ I1 r1 q1) λ_ s2 q=>q
theorem oj{i:Nat}{x:Str}{e:Expr}{te:TE}{pos':Pos}(hN:X.N.Nodup)(hi:X.N[i]?=some x)(hx:Loc X.env.scope x)(he:PE X e te)(hs:swapsWith e (some (.Name x pos')) pos.line X.env=pure false:=by rfl)(hf:X.fn x=true\/X.env.scope.names.lookup x=some .local:=by first|exact .inl rfl|exact .inr rfl|assumption):
 PS X (.Assign [.Name x pos'] e pos) (Ay te (dY i)):=by
 intro aa s σ H D I h;refine wpAny_Assign_Name (bK (he aa s σ H _ I h) λv s1 ⟨y,H1,I1,r1,q1⟩=>?_) hs
 exact pY I1 hN hi hx r1 (λs2 I2=>⟨_,H1,I2,q1⟩) hf
noncomputable def F2(c:TT)(tb:TS):TS:=λD σ H=>∃W:Nat->St->Hp->Prop,(∃m,W m σ H)/\∀m σ H,W m σ H->
 c σ H λb H1=>if b=true then∃N:St->Hp->Prop,(∀σ' H',N σ' H'->∃m',m'<m/\W m' σ' H')/\tb {D with nx:=N,ct:=N,bk:=D.nx} σ H1 else D.nx σ H1
def xP{c:Expr}{body:List Stmt}{tc:TT}{tb:TS}(hp:PassesOwn (model X.prog X.w) X.A X.env X.xe)(hc:PT X c tc)(hb:sV X body tb):PS X (.While c body [] pos) (F2 tc tb):=by
 intro aa s σ H D I h;obtain⟨W,⟨m0,w0⟩,turn⟩:=h
 refine wpAny_While (codeAny_whileLoop (λn s'=>∃σ' H',Inv X aa σ' H' s'/\W n σ' H') ?_ m0 ⟨σ,H,I,w0⟩)
 rintro n s1 ⟨σ1,H1,I1,w1⟩
 refine wpAny_passesOwn hp (bK (hc aa s1 σ1 H1 _ I1 (turn n σ1 H1 w1)) λb s2 ⟨H2,I2,q2⟩=>?_)
 cases b with
 |true=>
  obtain⟨N,hN,q2⟩:=q2
  rw [if_pos rfl];refine wpAny_passesOwn hp (bK (hb aa s2 σ1 H2 _ I2 q2) λf s3 q3=>?_)
  cases f with
  |next=>
   obtain⟨σ3,H3,I3,n3⟩:=q3
   obtain⟨m',hm,w3⟩:=hN σ3 H3 n3
   exact⟨m',hm,σ3,H3,I3,w3⟩
  |cont=>
   obtain⟨σ3,H3,I3,n3⟩:=q3
   obtain⟨m',hm,w3⟩:=hN σ3 H3 n3
   exact⟨m',hm,σ3,H3,I3,w3⟩
  |brk=>exact q3
  |ret v=>exact q3
 |false=>
  rw [if_neg zzf];exact wpAny_execs_nil ⟨σ1,H2,I2,q2⟩
end
structure It where
 go:Nat->Hp->Prop
 HS:Nat->Hp->V->Hp->Prop
 stop:Nat->Hp->Prop
def fV(X:Cx)(aa:List (Addr×Obj))(H:Hp)(b:Addr):Prop:=
 H b=none/\b≠X.env.locals/\b∉X.fs/\(b∈X.ex\/X.s₀.heap.objs.size<=b)/\(∀x c,X.env.cells.lookup x=some c->c≠b)/\∀p∈X.pn++aa,p.1≠b
def Inv.kZ{X:Cx}{aa:List (Addr×Obj)}{σ:St}{H H':Hp}{s:Shared}{b:Addr}(I:Inv X aa σ H s)(hb:(zz9 s)<=b)(hn:H' b=none):fV X aa H' b:=by
 refine⟨hn,Nat.ne_of_gt (zzW I.lt hb),I.MI hb,.inr (zzU I.sz hb),λx c e z=>?_,λp hp z=>?_⟩
 ·obtain⟨v,q⟩:=I.cell x c e
  exact absurd (zzW q.lt (by rw [z];exact hb)) (Nat.lt_irrefl _)
 ·exact absurd (zzW (zzO (I.pin p hp).1) (by rw [z];exact hb)) (Nat.lt_irrefl _)
structure Turn(P:Program)(w:World)(K:zz8)(tg:Expr)(J:It)(fp:List Addr)(it:Addr)(tn:Nat->Heap->Prop):Prop where
 mem:it∈fp
 obj:∀i h,tn i h->∀b∈fp,∃o,h.get? b=some o/\∀v,o.data≠.cell v
 keep:∀i h h',tn i h->(∀b∈fp,∀o,h.get? b=some o->h'.get? b=some o)->tn i h'
 item:∀(X:Cx),X.prog=P->X.w=w->X.K=K->X.calm=true->∀(i:Nat) (aa:List (Addr×Obj)) (s:Shared) (σ:St) (H:Hp) (E:Value->Shared->Prop),Inv X aa σ H s->(∀b∈fp,fV X aa H b)->tn i s.heap->J.go i H->
  wpAny (model P w) X.A (pyNext (.ref it)) (λr s1=>∃u,r=some u/\
   wpAny (model P w) X.A (letOwnedTupleGo tg (.ref it) u) (λ_ s2=>∃x H',Inv X aa σ H' s2/\RelV x u/\J.HS i H x H'/\tn (i+1) s2.heap/\∀b∈fp,H' b=none) E s1) E s
 done:∀(X:Cx),X.prog=P->X.w=w->X.K=K->X.calm=true->∀(i:Nat) (aa:List (Addr×Obj)) (s:Shared) (σ:St) (H:Hp) (E:Value->Shared->Prop),Inv X aa σ H s->(∀b∈fp,fV X aa H b)->tn i s.heap->J.stop i H->
  wpAny (model P w) X.A (pyNext (.ref it)) (λr s1=>r=none/\Inv X aa σ H s1) E s
 self:∀(A:Around) (i:Nat) (s:Shared) (Q:Value->Shared->Prop) (E:Value->Shared->Prop),tn i s.heap->Q (.ref it) s->wpAny (model P w) A (pyIter (.ref it)) Q E s
abbrev TI:=St->Hp->(It->Hp->Prop)->Prop
def PF(X:Cx)(aa:List (Addr×Obj))(σ:St)(tg:Expr)(R:It->Hp->Prop)(LB:Value)(s2:Shared):Prop:=
 ∃(it:Addr) (fp:List Addr) (tn:Nat->Heap->Prop) (J:It) (H':Hp),LB=.ref it/\Inv X aa σ H' s2/\Turn X.prog X.w X.K tg J fp it tn/\tn 0 s2.heap/\(∀b∈fp,fV X aa H' b)/\R J H'
def PI(X:Cx)(tg iter:Expr)(wi:TI):Prop:=
 ∀(aa:List (Addr×Obj)) (s:Shared) (σ:St) (H:Hp) (R:It->Hp->Prop),Inv X aa σ H s->wi σ H R->
  wpAny (model X.prog X.w) X.A (eval iter X.env) (λv s1=>wpAny (model X.prog X.w) X.A (pyIter v) (PF X aa σ tg R) X.xe s1) X.xe s
def pN{M:Model}{A:Around}{E:Value->Shared->Prop}{s:Shared}{tg:Expr}{it:Addr}{u:Value}{o:Obj}{n:String}{vs:Array Value}{Q:Unit->Shared->Prop}(ho:s.heap.get? it=some o)(hc:o.cls=.type n)(hd:o.data=.fields vs)
 (hn:["enumerate","zip","dict_itemiterator","dict_reverseitemiterator","odict_iterator","itertools.zip_longest","itertools.pairwise"].contains n=false) (hQ:Q () s):wpAny M A (letOwnedTupleGo tg (.ref it) u) Q E s:=by
 unfold letOwnedTupleGo;cases tg<;>first
  |exact zzG hQ
  |(cases u<;>first
   |exact zzG hQ
   | (refine zzA (wpAny_load ho ?_)
      rw [hc,hd];show wpAny M A (if(["enumerate","zip","dict_itemiterator","dict_reverseitemiterator","odict_iterator","itertools.zip_longest","itertools.pairwise"].contains n&&vs[0]?==some (rawInt _))=true then _ else _) Q E s;rw [if_neg (by intro h;rw [hn,Bool.false_and] at h;cases h)];exact zzG hQ))
noncomputable def Oj(K:zz8)(a:Addr):It:=
 ⟨λi H=>∃xs x,dw K H a xs/\xs[i]?=some x,λi H x H'=>H'=H/\∀xs,dw K H a xs->xs[i]?=some x,λi H=>∃xs,dw K H a xs/\xs.length<=i⟩
noncomputable def Na(K:zz8)(a:Addr):It:=
 ⟨λi H=>∃xs x,eU K H a xs/\xs[i]?=some x,λi H x H'=>H'=H/\∀xs,eU K H a xs->xs[i]?=some x,λi H=>∃xs,eU K H a xs/\xs.length<=i⟩
def JU(lo:Int)(n:Nat):It:=⟨λi _=>i<n,λi H x H'=>H'=H/\x=.int (lo+i),λi _=>n<=i⟩
def vQ{P:Program}{w:World}{K:zz8}{tg:Expr}(a it:Addr):Turn P w K tg (Oj K a) [it] it (λi h=>h.IsListIter it a i) where
 mem:=by simp
 obj:=λi h st b hb=>by
  have e:b=it:=by simpa using hb
  subst e;obtain⟨o,e,c,d⟩:=st
  exact⟨o,e,λv z=>by rw [d] at z;cases z⟩
 keep:=λi h h' st k=>st.at λo e=>k it (by simp) o e
 item:=by
  intro X hP hw hK hc i aa s σ H E I hf st hg;subst hP hw hK;obtain⟨xs,x,hq,hx⟩:=hg
  obtain⟨ak,rv,p,hz⟩:=I.list hq
  obtain⟨u,hu,ru⟩:=rv.get hx
  obtain⟨f0,f1,f2,f3,f4,f5⟩:=hf it (by simp)
  refine wpAny_pyNext_list_item st p.isList (x:=u) (by simpa using hu) λh' iy sb=>?_
  have I1:Inv X aa σ H {s with heap:=h'}:=I.turned (t':=s.toks) (λb o hb e=>(sb.2 b hb).trans e) f0 f1 f3 f4 f5
  obtain⟨o,e,c,d⟩:=id iy
  exact⟨u,rfl,pN (s:={s with heap:=h'}) e c d (by decide) ⟨x,H,I1,ru,⟨rfl,λys hy=>by rw [I.pR hy hq];exact hx⟩,iy,λb hb=>(hf b hb).1⟩⟩
 done:=by
  intro X hP hw hK hc i aa s σ H E I hf st hg;subst hP hw hK;obtain⟨xs,hq,hx⟩:=hg
  obtain⟨ak,rv,p,hz⟩:=I.list hq
  obtain⟨f0,f1,f2,f3,f4,f5⟩:=hf it (by simp)
  have hl:=rv.length
  exact wpAny_pyNext_list_end (I.ok.hd hc) st p.isList (by simp;omega) λh' eb=>⟨rfl,I.turned (t':=s.toks) (λb o hb e=>eb b o hb e) f0 f1 f3 f4 f5⟩
 self:=λ_ _ _ _ _ st h=>wpAny_pyIter_listiter st h
def rP{P:Program}{w:World}{K:zz8}{tg:Expr}(a it:Addr):Turn P w K tg (Na K a) [it] it (λi h=>h.IsTupleIter it a i) where
 mem:=by simp
 obj:=λi h st b hb=>by
  have e:b=it:=by simpa using hb
  subst e;obtain⟨o,e,c,d⟩:=st
  exact⟨o,e,λv z=>by rw [d] at z;cases z⟩
 keep:=λi h h' st k=>st.at λo e=>k it (by simp) o e
 item:=by
  intro X hP hw hK hc i aa s σ H E I hf st hg;subst hP hw hK;obtain⟨xs,x,hq,hx⟩:=hg
  obtain⟨ak,rv,p,hz⟩:=I.tuple hq
  obtain⟨u,hu,ru⟩:=rv.get hx
  obtain⟨f0,f1,f2,f3,f4,f5⟩:=hf it (by simp)
  refine wpAny_pyNext_tuple_item st (show s.heap.IsTuple a ak.toArray from p) (x:=u) (by simpa using hu) λh' iy sb=>?_
  have I1:Inv X aa σ H {s with heap:=h'}:=I.turned (t':=s.toks) (λb o hb e=>(sb.2 b hb).trans e) f0 f1 f3 f4 f5
  obtain⟨o,e,c,d⟩:=id iy
  exact⟨u,rfl,pN (s:={s with heap:=h'}) e c d (by decide) ⟨x,H,I1,ru,⟨rfl,λys hy=>by rw [I.nc hy hq];exact hx⟩,iy,λb hb=>(hf b hb).1⟩⟩
 done:=by
  intro X hP hw hK hc i aa s σ H E I hf st hg;subst hP hw hK;obtain⟨xs,hq,hx⟩:=hg
  obtain⟨ak,rv,p,hz⟩:=I.tuple hq
  obtain⟨f0,f1,f2,f3,f4,f5⟩:=hf it (by simp)
  have hl:=rv.length
  exact wpAny_pyNext_tuple_end (I.ok.hd hc) st (show s.heap.IsTuple a ak.toArray from p) (by simp;omega) λh' eb=>⟨rfl,I.turned (t':=s.toks) (λb o hb e=>eb b o hb e) f0 f1 f3 f4 f5⟩
 self:=λ_ _ _ _ _ st h=>wpAny_pyIter_tupleiter st h
def r8{P:Program}{w:World}{K:zz8}{tg:Expr}(it:Addr)(lo:Int)(n:Nat):Turn P w K tg (JU lo n) [it] it (λi h=>IsRangeIter h it (lo+(i:Nat)*1) ((n:Int)-(i:Nat)) 1) where
 mem:=by simp
 obj:=λi h st b hb=>by
  have e:b=it:=by simpa using hb
  subst e;exact⟨_,st,λv z=>by
   have z':Data.fields _=Data.cell v:=z
   cases z'⟩
 keep:=λi h h' st k=>k it (by simp) _ st
 item:=by
  intro X hP hw hK hc i aa s σ H E I hf st hg;subst hP hw hK;obtain⟨f0,f1,f2,f3,f4,f5⟩:=hf it (by simp)
  have W:=Walks.range (prog:=X.prog) (w:=X.w) (I.ok.hd hc) it lo 1 n
  refine W.item i s _ _ hg st λv h' tk hv iy kk=>?_
  obtain⟨t,rfl⟩:=hv
  have I1:Inv X aa σ H {s with heap:=h',toks:=tk}:=I.turned (λb o hb e=>kk b o (by simpa using hb) e) f0 f1 f3 f4 f5
  refine⟨_,rfl,pN (s:={s with heap:=h',toks:=tk}) (n:="range_iterator") iy rfl rfl (by decide) ⟨.int (lo+i),H,I1,⟨t,?_⟩,⟨rfl,rfl⟩,iy,λb hb=>(hf b hb).1⟩⟩
  rw [Int.mul_one]
 done:=by
  intro X hP hw hK hc i aa s σ H E I hf st hg;subst hP hw hK;obtain⟨f0,f1,f2,f3,f4,f5⟩:=hf it (by simp)
  exact wpAny_pyNext_range_end (I.ok.hd hc) st (by have:n<=i:=hg;omega) λh' eb=>⟨rfl,I.turned (t':=s.toks) (λb o hb e=>eb b o hb e) f0 f1 f3 f4 f5⟩
 self:=λ_ _ _ _ _ st h=>wpAny_pyIter_rangeiter st h
section
variable{X:Cx}{tg:Expr}
noncomputable def KC(K:zz8)(tl:TE):TI:=λσ H R=>tl σ H λx H1=>∃a,x=.ref a/\(∃xs,dw K H1 a xs)/\R (Oj K a) H1
noncomputable def M5(K:zz8)(tl:TE):TI:=λσ H R=>tl σ H λx H1=>∃a,x=.ref a/\(∃xs,eU K H1 a xs)/\R (Na K a) H1
def tR{l:Expr}{tl:TE}(hl:PE X l tl):PI X tg l (KC X.K tl):=by
 intro aa s σ H R I h;refine bK (hl aa s σ H _ I h) λv s1 ⟨x,H1,I1,r1,q1⟩=>?_
 obtain⟨a,e,⟨xs,hq⟩,q⟩:=q1
 subst e;cases r1;obtain⟨ak,rv,p,hz⟩:=I1.list hq
 refine wpAny_pyIter_list p.isList ?_;refine⟨(zz9 s1),[(zz9 s1)],_,_,H1,rfl,I1.kept (t':=s1.toks) λb o e=>zzB _ e,vQ a _,⟨_,zzX _ rfl,rfl,rfl⟩,λb hb=>?_,q⟩
 have e:b=(zz9 s1):=by simpa using hb
 subst e;exact I1.kZ (zzE _) (I1.bz.fresh (zzE _))
def Ef{l:Expr}{tl:TE}(hl:PE X l tl):PI X tg l (M5 X.K tl):=by
 intro aa s σ H R I h;refine bK (hl aa s σ H _ I h) λv s1 ⟨x,H1,I1,r1,q1⟩=>?_
 obtain⟨a,e,⟨xs,hq⟩,q⟩:=q1
 subst e;cases r1;obtain⟨ak,rv,p,hz⟩:=I1.tuple hq
 refine wpAny_pyIter_tuple (show s1.heap.IsTuple a ak.toArray from p) ?_;refine⟨(zz9 s1),[(zz9 s1)],_,_,H1,rfl,I1.kept (t':=s1.toks) λb o e=>zzB _ e,rP a _,⟨_,zzX _ rfl,rfl,rfl⟩,λb hb=>?_,q⟩
 have e:b=(zz9 s1):=by simpa using hb
 subst e;exact I1.kZ (zzE _) (I1.bz.fresh (zzE _))
def p5{aa:List (Addr×Obj)}{σ:St}{H:Hp}{s:Shared}{R:It->Hp->Prop}{E:Value->Shared->Prop}{lo hi:Int}{t u v:Tok}{tk:Nat}(I:Inv X aa σ H s)(h1: -(2^62)<=lo)(h2:lo<2^62)(h3: -(2^62)<=hi)(h4:hi<2^62)
 (q:R (JU lo (hi-lo).toNat) H):wpAny (model X.prog X.w) X.A (pyIter (.ref (zz9 s))) (PF X aa σ tg R) E {s with heap:=s.heap.push {cls:=.type "range",data:=.fields #[.int lo t,.int hi u,.int 1 v]},toks:=tk}:=by
 refine wpAny_pyIter_range (IsRange.new ..) (small_one h1 h2 h3 h4) ?_;have I1:Inv X aa σ H {s with heap:=s.heap.push {cls:=.type "range",data:=.fields #[.int lo t,.int hi u,.int 1 v]},toks:=tk}:=I.kept λb o e=>zzB _ e
 refine⟨(s.heap.push {cls:=.type "range",data:=.fields #[.int lo t,.int hi u,.int 1 v]}).objs.size,[(s.heap.push {cls:=.type "range",data:=.fields #[.int lo t,.int hi u,.int 1 v]}).objs.size],_,_,H,rfl,
  I1.kept (t':=tk) λb o e=>zzB _ e,r8 _ lo (hi-lo).toNat,?_,λb hb=>?_,q⟩
 ·have e1:lo+((0:Nat):Int)*1=lo:=by simp
  have e2:(((hi-lo).toNat:Nat):Int)-((0:Nat):Int)=Builtin.Range.rangeSize lo hi 1:=by rw [rangeSize_one];split<;>omega
  show IsRangeIter _ _ (lo+((0:Nat):Int)*1) ((((hi-lo).toNat:Nat):Int)-((0:Nat):Int)) 1
  rw [e1,e2];exact zzX _ rfl
 ·have e:b=(s.heap.push {cls:=.type "range",data:=.fields #[.int lo t,.int hi u,.int 1 v]}).objs.size:=by simpa using hb
  subst e;exact I1.kZ (zzE _) (I1.bz.fresh (zzE _))
def Kf(ta:TA):TI:=λσ H R=>ta σ H λvs H1=>∃j:Int,vs=[.int j]/\ -(2^62)<=j/\j<2^62/\R (JU 0 j.toNat) H1
def Ku(ta:TA):TI:=λσ H R=>ta σ H λvs H1=>∃i j:Int,vs=[.int i,.int j]/\(-(2^62)<=i/\i<2^62/\ -(2^62)<=j/\j<2^62)/\R (JU i (j-i).toNat) H1
theorem vm{a:Expr}{ta:TA}{p pos:Pos}(hg:Gl X "range")(hm:X.mg "range"=none)(ha:PA X [a] ta)(hs:starEach [a] X.env=[(false,eval a X.env)]:=by rfl):PI X tg (.Call (.Name "range" p) [a] [] pos) (Kf ta):=by
 intro aa s σ H R I h;refine Call_ (dg I hg hm boot_range (PyProof.Rows.callWith_type1 (bK (ha pos aa s σ H _ I h) λus s1 ⟨vs,H1,I1,r1,q1⟩=>?_) hs rfl))
 obtain⟨j,e,q1,q2,q⟩:=q1
 subst e;cases r1 with
 |cons r rr=>
  cases rr;obtain⟨t,rfl⟩:=r
  exact call_range_1 (p5 I1 (by omega) (by omega) q1 q2 (by simpa using q))
theorem u7{a b:Expr}{ta:TA}{p pos:Pos}(hg:Gl X "range")(hm:X.mg "range"=none)(ha:PA X [a,b] ta)(hs:starEach [a,b] X.env=[(false,eval a X.env),(false,eval b X.env)]:=by rfl)(zh:starEach [b] X.env=[(false,eval b X.env)]:=by rfl):
 PI X tg (.Call (.Name "range" p) [a,b] [] pos) (Ku ta):=by
 intro aa s σ H R I h;refine Call_ (dg I hg hm boot_range (PyProof.Rows.callWith_type1 (bK (ha pos aa s σ H _ I h) λus s1 ⟨vs,H1,I1,r1,q1⟩=>?_) (by rw [hs,zh]) (by rw [zh];rfl)))
 obtain⟨i,j,e,⟨q1,q2,q3,q4⟩,q⟩:=q1
 subst e;cases r1 with
 |cons r rr=>
  cases rr with
  |cons r' rr=>
   cases rr;obtain⟨t,rfl⟩:=r
   obtain⟨t',rfl⟩:=r'
   exact call_range_2 (p5 I1 q1 q2 q3 q4 q)
noncomputable def N3(wi:TI)(g:TG)(tb:TS):TS:=λD σ H=>wi σ H λJ H1=>∃W:Nat->Nat->St->Hp->Prop,(∃m,W 0 m σ H1)/\∀i m σ H,W i m σ H->
 (J.stop i H/\D.nx σ H)\/(J.go i H/\∃N:St->Hp->Prop,(∀σ' H',N σ' H'->∃m',m'<m/\W (i+1) m' σ' H')/\∀x H',J.HS i H x H'->g x σ H' λσ2 H2=>tb {D with nx:=N,ct:=N,bk:=D.nx} σ2 H2)
def ny(fp:List Addr)(h:Heap):List (Addr×Obj):=fp.filterMap λb=>(h.get? b).map λo=>(b,o)
def di{fp:List Addr}{h:Heap}{b:Addr}{o:Obj}(hb:b∈fp)(e:h.get? b=some o):(b,o)∈ny fp h:=zz1.mpr ⟨b,hb,by rw [e];rfl⟩
def vp{fp:List Addr}{h:Heap}{p:Addr×Obj}(hp:p∈ny fp h):p.1∈fp/\h.get? p.1=some p.2:=by
 obtain⟨b,hb,e⟩:=zz1.mp hp
 cases q:h.get? b with
 |none=>rw [q] at e;cases e
 |some o=>
  rw [q] at e;have e':(b,o)=p:=zzq e
  subst e';exact⟨hb,q⟩
theorem Inv.pinned{aa:List (Addr×Obj)}{σ:St}{H:Hp}{s:Shared}{fp:List Addr}(I:Inv X aa σ H s)(hf:∀b∈fp,fV X aa H b)(ho:∀b∈fp,∃o,s.heap.get? b=some o/\∀v,o.data≠.cell v):Inv X (aa++ny fp s.heap) σ H s:=
 I.ji λp hp=>(List.mem_append.mp hp).elim (λz=>I.pin p (zzR _ z)) λz=>by
  obtain⟨hb,e⟩:=vp z
  obtain⟨f0,f1,f2,_⟩:=hf p.1 hb
  obtain⟨o,e',d⟩:=ho p.1 hb
  rw [e] at e';cases e';exact⟨e,f0,f1,f2,d⟩
def Inv.iw{aa pl:List (Addr×Obj)}{σ:St}{H:Hp}{s:Shared}(I:Inv X (aa++pl) σ H s):Inv X aa σ H s:=I.ji λp hp=>I.pin p (zzR _ (zzc _ hp))
def EI{iter:Expr}{body:List Stmt}{wi:TI}{g:TG}{tb:TS}{pos:Pos}(hp:PassesOwn (model X.prog X.w) X.A X.env X.xe)(hc:X.calm=true)(hi:PI X tg iter wi)(hg:PG X tg g)(hb:sV X body tb)
 (hs:∀x,foldedSetIterable iter X.env x=pure x:=by intro _;rfl):PS X (.For tg iter body [] pos) (N3 wi g tb):=by
 intro aa s σ H D I h;refine wpAny_For (bK (hi aa s σ H _ I h) λv s1 h1=>bK h1 λLB s2 h2=>?_) hs
 obtain⟨it,fp,tn,J,H2,e,I2,T,NQ,f2,W,⟨m0,w0⟩,turn⟩:=h2
 subst e;have D8:∀{H':Hp},(∀b∈fp,H' b=none)->∀b∈fp,fV X aa H' b:=λhn b hb=>⟨hn b hb,(f2 b hb).2⟩
 refine codeAny_forLoop_any (λn s'=>∃i σ' H',Inv X aa σ' H' s'/\tn i s'.heap/\(∀b∈fp,H' b=none)/\W i n σ' H') ?_ m0 ⟨0,σ,H2,I2,NQ,λb hb=>(f2 b hb).1,w0⟩
 rintro n s3 ⟨i,σ3,H3,I3,st3,fr3,w3⟩
 rcases turn i n σ3 H3 w3 with⟨stop,qn⟩|⟨go,N,hN,step⟩
 ·refine wpAny_passesOwn hp (bK (T.done X rfl rfl rfl hc i aa s3 σ3 H3 X.xe I3 (D8 fr3) st3 stop) λr s4 ⟨hr,I4⟩=>?_)
  subst hr;exact wpAny_execs_nil ⟨σ3,H3,I4,qn⟩
 ·refine wpAny_passesOwn hp (bK (T.item X rfl rfl rfl hc i aa s3 σ3 H3 X.xe I3 (D8 fr3) st3 go) λr s4 ⟨u,hr,h4⟩=>?_)
  subst hr;refine wpAny_passesOwn hp (bK h4 λ_ s5 ⟨x,H5,I5,r5,y5,st5,fr5⟩=>?_);have Nw:=I5.pinned (D8 fr5) (T.obj _ _ st5)
  refine wpAny_passesOwn hp (bK (hg _ s5 σ3 H5 x u _ Nw r5 (step x H5 y5)) λ_ s6 ⟨σ6,H6,I6,q6⟩=>?_)
  refine wpAny_passesOwn hp (bK (hb _ s6 σ6 H6 _ I6 q6) λf s7 q7=>?_)
  have again:∀{σ7:St} {H7:Hp},Inv X (aa++ny fp s5.heap) σ7 H7 s7->N σ7 H7->∃m,m<n/\∃i σ' H',Inv X aa σ' H' s7/\tn i s7.heap/\(∀b∈fp,H' b=none)/\W i m σ' H':=λ{σ7 H7} I7 n7=>by
   obtain⟨m',hm,w7⟩:=hN σ7 H7 n7
   refine⟨m',hm,i+1,σ7,H7,I7.iw,T.keep _ _ _ st5 λb hb o e=>(I7.pin (b,o) (zzR _ (zzR _ (di hb e)))).1,λb hb=>?_,w7⟩
   obtain⟨o,e,d⟩:=T.obj _ _ st5 b hb
   exact(I7.pin (b,o) (zzR _ (zzR _ (di hb e)))).2.1
  cases f with
  |next=>obtain⟨σ7,H7,I7,n7⟩:=q7;exact again I7 n7
  |cont=>obtain⟨σ7,H7,I7,n7⟩:=q7;exact again I7 n7
  |brk=>obtain⟨σ7,H7,I7,q7⟩:=q7;exact⟨σ7,H7,I7.iw,q7⟩
  |ret v=>obtain⟨x7,σ7,H7,I7,r7,q7⟩:=q7;exact⟨x7,σ7,H7,I7.iw,r7,q7⟩
end
abbrev R2:=V->V->Hp->VK->Prop
def fu(X:Cx)(f:Value->Value->Sem Value)(r:R2):Prop:=
 ∀(aa:List (Addr×Obj)) (s:Shared) (σ:St) (H:Hp) (x y:V) (v u:Value) (Q:VK),Inv X aa σ H s->RelV x v->RelV y u->r x y H Q->
  wpAny (model X.prog X.w) X.A (f v u) (EP X aa σ Q) X.xe s
def LA(X:Cx)(f:Value->Sem Value)(r:V->Hp->VK->Prop):Prop:=
 ∀(aa:List (Addr×Obj)) (s:Shared) (σ:St) (H:Hp) (x:V) (v:Value) (Q:VK),Inv X aa σ H s->RelV x v->r x H Q->
  wpAny (model X.prog X.w) X.A (f v) (EP X aa σ Q) X.xe s
def bL(X:Cx)(f:Value)(r:List V->Hp->VK->Prop):Prop:=
 ∀(aa:List (Addr×Obj)) (s:Shared) (σ:St) (H:Hp) (xs:List V) (us:List Value) (Q:VK),Inv X aa σ H s->Vals xs us->r xs H Q->
  wpAny (model X.prog X.w) X.A (call f us) (EP X aa σ Q) X.xe s
noncomputable def Jg(r:R2)(ta tb:TE):TE:=λσ H Q=>ta σ H λx H1=>tb σ H1 λy H2=>r x y H2 Q
def RO(r:V->Hp->VK->Prop)(ta:TE):TE:=λσ H Q=>ta σ H λx H1=>r x H1 Q
noncomputable def rI(C:Int->Int->Prop)(g:Int->Int->V):R2:=λx y H Q=>∃i j,x=.int i/\y=.int j/\C i j/\Q (g i j) H
noncomputable def D2(g:Int->Int->V):R2:=λx y H Q=>∃i j,x=.int i/\y=.int j/\Q (g i j) H
def rU(g:Int->V):V->Hp->VK->Prop:=λx H Q=>∃i,x=.int i/\Q (g i) H
section
variable{X:Cx}{a b:Expr}{ta tb:TE}{pos:Pos}
def Eh(ha:PE X a ta)(hb:PE X b tb){aa:List (Addr×Obj)}{s:Shared}{σ:St}{H:Hp}{R:V->V->Hp->Prop}(I:Inv X aa σ H s)
 (h:ta σ H λx H1=>tb σ H1 λy H2=>R x y H2) {Q:Value->Shared->Prop} {f:Value->Value->Sem Value}
 (hf:∀v u s2 x y H2,Inv X aa σ H2 s2->RelV x v->RelV y u->R x y H2->wpAny (model X.prog X.w) X.A (f v u) Q X.xe s2):
 wpAny (model X.prog X.w) X.A (eval a X.env) (λv s₁=>wpAny (model X.prog X.w) X.A (eval b X.env) (λu s₂=>wpAny (model X.prog X.w) X.A (f v u) Q X.xe s₂) X.xe s₁) X.xe s:=by
 refine bK (ha aa s σ H _ I h) λv s1 ⟨x,H1,I1,r1,q1⟩=>?_
 refine bK (hb aa s1 σ H1 _ I1 q1) λu s2 ⟨y,H2,I2,r2,q2⟩=>?_
 exact hf v u s2 x y H2 I2 r1 r2 q2
def IY{op:Operator}{r:R2}(ho:fu X (binaryOp op) r)(ha:PE X a ta)(hb:PE X b tb):PE X (.BinOp a op b pos) (Jg r ta tb):=by
 intro aa s σ H Q I h;exact wpAny_BinOp (Eh ha hb I h λv u s2 x y H2 I2 rx ry q=>ho aa s2 σ H2 x y v u Q I2 rx ry q)
def IM{op:UnaryOp}{r:V->Hp->VK->Prop}(ho:LA X (unaryOp op) r)(ha:PE X a ta):PE X (.UnaryOp op a pos) (RO r ta):=by
 intro aa s σ H Q I h;exact UnaryOp_ (bK (ha aa s σ H _ I h) λv s1 ⟨x,H1,I1,r1,q1⟩=>ho aa s1 σ H1 x v Q I1 r1 q1)
def wG{f:Value->Value->Sem Value}{C:Int->Int->Prop}{g:Int->Int->Int}
 (rule:∀(i j:Int) (t u:Tok) (s:Shared) (Q:Value->Shared->Prop) (E:Value->Shared->Prop),C i j->Q (.int (g i j) s.toks) {s with toks:=s.toks+1}->wpAny (model X.prog X.w) X.A (f (.int i t) (.int j u)) Q E s):
 fu X f (rI C λi j=>.int (g i j)):=by
 intro aa s σ H x y v u Q I rx ry h;obtain⟨i,j,rfl,rfl,hc,q⟩:=h
 obtain⟨t,rfl⟩:=rx
 obtain⟨t',rfl⟩:=ry
 exact rule i j t t' s _ _ hc ⟨.int (g i j),H,I.tok _,⟨_,rfl⟩,q⟩
def Ka{f:Value->Value->Sem Value}{g:Int->Int->Int}
 (rule:∀(i j:Int) (t u:Tok) (s:Shared) (Q:Value->Shared->Prop) (E:Value->Shared->Prop),Q (.int (g i j) s.toks) {s with toks:=s.toks+1}->wpAny (model X.prog X.w) X.A (f (.int i t) (.int j u)) Q E s):
 fu X f (D2 λi j=>.int (g i j)):=by
 intro aa s σ H x y v u Q I rx ry h;obtain⟨i,j,rfl,rfl,q⟩:=h
 obtain⟨t,rfl⟩:=rx
 obtain⟨t',rfl⟩:=ry
 exact rule i j t t' s _ _ ⟨.int (g i j),H,I.tok _,⟨_,rfl⟩,q⟩
def BJ{f:Value->Value->Sem Value}{g:Int->Int->Bool}
 (rule:∀(i j:Int) (t u:Tok) (s:Shared) (Q:Value->Shared->Prop) (E:Value->Shared->Prop),Q (.bool (g i j)) s->wpAny (model X.prog X.w) X.A (f (.int i t) (.int j u)) Q E s):
 fu X f (D2 λi j=>.bl (g i j)):=by
 intro aa s σ H x y v u Q I rx ry h;obtain⟨i,j,rfl,rfl,q⟩:=h
 obtain⟨t,rfl⟩:=rx
 obtain⟨t',rfl⟩:=ry
 exact rule i j t t' s _ _ ⟨.bl (g i j),H,I,rfl,q⟩
def LW(i j:Int):Prop:=0<j/\j<1073741824
def He(i j:Int):Prop:=(-(2^64)<i/\i<2^64)\/(-(2^64)<j/\j<2^64)
def He.ok{i j:Int}(h:He i j):IntMulOk i j:=by
 rcases h with⟨h1,h2⟩|⟨h1,h2⟩
 ·exact .of_left (intBits_le_64 h1 h2)
 ·exact .of_right (intBits_le_64 h1 h2)
def Fp:fu X (binaryOp .Add) (D2 λi j=>.int (i+j)):=Ka λ_ _ _ _ _ _ _ q=>add_int q
def HF:fu X (binaryOp .Sub) (D2 λi j=>.int (i-j)):=Ka λ_ _ _ _ _ _ _ q=>sub_int q
def Gn:fu X (binaryOp .Mult) (rI He λi j=>.int (i*j)):=wG λ_ _ _ _ _ _ _ hc q=>mul_int q hc.ok
theorem CA:fu X (binaryOp .FloorDiv) (rI LW λi j=>.int (i/j)):=wG λi j _ _ _ _ _ hc q=>by
 have h1:(0:Int)<j:=hc.1
 have h2:j<1073741824:=hc.2
 exact floordiv_int (by omega) (by rw [Int.fdiv_eq_ediv_of_nonneg i (by omega)];exact q) (.inl (PyProof.noPylong_small (by omega)))
theorem EF:fu X (binaryOp .Mod) (rI (λ_ j=>0<j) λi j=>.int (i%j)):=wG λi j _ _ _ _ _ hc q=>by
 have h1:(0:Int)<j:=hc
 exact mod_int' (by omega) (by rw [Int.fmod_eq_emod_of_nonneg i (by omega)];exact q)
def RN{f:Value->Sem Value}{g:Int->Int}
 (rule:∀(i:Int) (t:Tok) (s:Shared) (Q:Value->Shared->Prop) (E:Value->Shared->Prop),Q (.int (g i) s.toks) {s with toks:=s.toks+1}->wpAny (model X.prog X.w) X.A (f (.int i t)) Q E s):
 LA X f (rU λi=>.int (g i)):=by
 intro aa s σ H x v Q I rx h;obtain⟨i,rfl,q⟩:=h
 obtain⟨t,rfl⟩:=rx
 exact rule i t s _ _ ⟨.int (g i),H,I.tok _,⟨_,rfl⟩,q⟩
def GD:LA X (unaryOp .USub) (rU λi=>.int (-i)):=RN λ_ _ _ _ _ q=>neg_int q
variable{c:Expr}{tc:TE}
def rL{aa:List (Addr×Obj)}{σ:St}{H:Hp}{s:Shared}{Q:VK}{k k':Bool}(I:Inv X aa σ H s)(q:Q (.bl k) H)(e:k=k'):EP X aa σ Q (.bool k') s:=by
 subst e;exact⟨.bl k,H,I,rfl,q⟩
def Ko:fu X (compareOp .Lt) (D2 λi j=>.bl (decide (i<j))):=BJ λ_ _ _ _ _ _ _ q=>lt_int q
def Jw:fu X (compareOp .LtE) (D2 λi j=>.bl (decide (i<=j))):=BJ λ_ _ _ _ _ _ _ q=>le_int q
def Jx:fu X (compareOp .Gt) (D2 λi j=>.bl (decide (j<i))):=BJ λ_ _ _ _ _ _ _ q=>gt_int q
def Kq:fu X (compareOp .GtE) (D2 λi j=>.bl (decide (j<=i))):=BJ λ_ _ _ _ _ _ _ q=>ge_int q
def Hm:fu X (compareOp .Is) (λx y H Q=>y=.aA/\Q (.bl (decide (x=.aA))) H):=by
 intro aa s σ H x y v u Q I rx ry h;obtain⟨rfl,q⟩:=h
 cases ry;refine is_none_gen (rL I q ?_);cases x<;>first
  |(cases rx;rfl)
  |(obtain⟨t,rfl⟩:=rx;rfl)
def Be:fu X (compareOp .IsNot) (λx y H Q=>y=.aA/\Q (.bl (!decide (x=.aA))) H):=by
 intro aa s σ H x y v u Q I rx ry h;obtain⟨rfl,q⟩:=h
 cases ry;refine isnot_none_gen (rL I q ?_);cases x<;>first
  |(cases rx;rfl)
  |(obtain⟨t,rfl⟩:=rx;rfl)
def NM(b:Expr){op:CmpOp}(h:op≠.In:=by decide)(h2:op≠.NotIn:=by decide):behindInMarks op b=false:=by
 have e1:(op==CmpOp.In)=false:=by cases op<;>first|rfl|exact absurd rfl h
 have e2:(op==CmpOp.NotIn)=false:=by cases op<;>first|rfl|exact absurd rfl h2
 cases b<;>simp [behindInMarks,e1,e2]
def AN{op:CmpOp}{r:R2}(ho:fu X (compareOp op) r)(ha:PE X a ta)(hb:PE X b tb)(hm:behindInMarks op b=false):PE X (.Compare a [op] [b] pos) (Jg r ta tb):=by
 intro aa s σ H Q I h;exact wpAny_Compare1 (Eh ha hb I h λv u s2 x y H2 I2 rx ry q=>ho aa s2 σ H2 x y v u Q I2 rx ry q) hm
def xk(t:TE):TT:=λσ H Q=>t σ H λx H'=>∃k,x=.bl k/\Q k H'
def Br{op:CmpOp}{r:R2}(ho:fu X (compareOp op) r)(ha:PE X a ta)(hb:PE X b tb)(hm:behindInMarks op b=false):PT X (.Compare a [op] [b] pos) (xk (Jg r ta tb)):=by
 intro aa s σ H Q I h;refine wpAny_isTrue_Compare1 (bK (ha aa s σ H _ I h) λv s1 ⟨x,H1,I1,r1,q1⟩=>bK (hb aa s1 σ H1 _ I1 q1) λu s2 ⟨y,H2,I2,r2,q2⟩=>
  bK (ho aa s2 σ H2 x y v u _ I2 r1 r2 q2) λc s3 ⟨z,H3,I3,r3,k,e,q3⟩=>?_) hm
 subst e;cases r3;exact wpAny_truthy_bool ⟨H3,I3,q3⟩
noncomputable def rG(r r':R2)(ta tb tc:TE):TE:=λσ H Q=>ta σ H λx H1=>tb σ H1 λy H2=>r x y H2 λz H3=>∃k,z=.bl k/\
 (if k=true then tc σ H3 λw' H4=>r' y w' H4 Q else Q (.bl false) H3)
def xW{op Ep:CmpOp}{r r':R2}(ho:fu X (compareOp op) r)(jx:fu X (compareOp Ep) r')(ha:PE X a ta)(hb:PE X b tb)(hc:PE X c tc)
 (hm:lastMarks [op,Ep] [b,c]=false:=by with_unfolding_all rfl):PE X (.Compare a [op,Ep] [b,c] pos) (rG r r' ta tb tc):=by
 intro aa s σ H Q I h;refine Compare_chain (bK (ha aa s σ H _ I h) λv s1 ⟨x,H1,I1,r1,q1⟩=>chain_link (bK (hb aa s1 σ H1 _ I1 q1) λu s2 ⟨y,H2,I2,r2,q2⟩=>
  bK (ho aa s2 σ H2 x y v u _ I2 r1 r2 q2) λd s3 ⟨z,H3,I3,r3,k,e,q3⟩=>?_)) hm
 subst e;cases r3;refine wpAny_truthy_bool ?_;cases k with
 |false=>exact ite_ff ⟨.bl false,H3,I3,rfl,q3⟩
 |true=>exact ite_tt (chain_last (bK (hc aa s3 σ H3 _ I3 q3) λw' s4 ⟨z',H4,I4,r4,q4⟩=>jx aa s4 σ H4 y z' u w' Q I4 r2 r4 q4))
def yB{op Ep:CmpOp}{r r':R2}(ho:fu X (compareOp op) r)(jx:fu X (compareOp Ep) r')(ha:PE X a ta)(hb:PE X b tb)(hc:PE X c tc)
 (hm:lastMarks [op,Ep] [b,c]=false:=by with_unfolding_all rfl):PT X (.Compare a [op,Ep] [b,c] pos) (xk (rG r r' ta tb tc)):=by
 intro aa s σ H Q I h;refine isTrue_chain (bK (ha aa s σ H _ I h) λv s1 ⟨x,H1,I1,r1,q1⟩=>test_link (bK (hb aa s1 σ H1 _ I1 q1) λu s2 ⟨y,H2,I2,r2,q2⟩=>
  bK (ho aa s2 σ H2 x y v u _ I2 r1 r2 q2) λd s3 ⟨z,H3,I3,r3,k,e,q3⟩=>?_)) hm
 subst e;cases r3;refine wpAny_truthy_bool ?_;cases k with
 |false=>
  obtain⟨k',e',q'⟩:=q3
  cases e';exact ite_ff ⟨H3,I3,q'⟩
 |true=>
  refine ite_tt (test_last (bK (hc aa s3 σ H3 _ I3 q3) λw' s4 ⟨z',H4,I4,r4,q4⟩=>bK (jx aa s4 σ H4 y z' u w' _ I4 r2 r4 q4) λd' s5 ⟨z2,H5,I5,r5,k2,e2,q5⟩=>?_))
  subst e2;cases r5;exact wpAny_truthy_bool ⟨H5,I5,q5⟩
def kB:(sizeLine:Nat)<2^63:=by rw [sizeLine_eq];decide
def q9:fu X (binaryOp .Add) (λx y H Q=>∃i j,x=.str i/\y=.str j/\i.length+j.length<=sizeLine/\Q (.str (i++j)) H):=by
 intro aa s σ H x y v u Q I rx ry h;obtain⟨i,j,rfl,rfl,hz,q⟩:=h
 obtain⟨t,rfl⟩:=rx
 obtain⟨t',rfl⟩:=ry
 exact add_str (λt' tk=>⟨.str (i++j),H,I.tok _,⟨_,rfl⟩,q⟩) hz
def vals1{x:V}{us:List Value}(r:Vals [x] us):∃u,us=[u]/\RelV x u:=by
 cases r with
 |cons r1 r2=>cases r2;exact⟨_,rfl,r1⟩
def vals2{x y:V}{us:List Value}(r:Vals [x,y] us):∃u w',us=[u,w']/\RelV x u/\RelV y w':=by
 cases r with
 |cons r1 r2=>
  cases r2 with
  |cons r3 r4=>cases r4;exact⟨_,_,rfl,r1,r3⟩
def zA:bL X (.builtin "abs") (λxs H Q=>∃i,xs=[.int i]/\Q (.int (if i<0 then -i else i)) H):=by
 intro aa s σ H xs us Q I r h;obtain⟨i,rfl,q⟩:=h
 obtain⟨u,rfl,t,rfl⟩:=vals1 r
 exact call_abs_int λu tk=>⟨.int (if i<0 then -i else i),H,I.tok _,⟨_,rfl⟩,q⟩
def u0(hc:X.calm=true):bL X (.builtin "max") (λxs H Q=>∃i j,xs=[.int i,.int j]/\Q (.int (if j>i then j else i)) H):=by
 intro aa s σ H xs us Q I r h;obtain⟨i,j,rfl,q⟩:=h
 obtain⟨u,w',rfl,⟨t,rfl⟩,⟨t',rfl⟩⟩:=vals2 r
 refine max_two_ints (I.ok.hd hc) λh' tk k=>⟨_,H,I.kept k,?_,q⟩
 by_cases hj:j>i
 ·rw [if_pos hj,if_pos hj];exact⟨_,rfl⟩
 ·rw [if_neg hj,if_neg hj];exact⟨_,rfl⟩
def uS(hc:X.calm=true):bL X (.builtin "min") (λxs H Q=>∃i j,xs=[.int i,.int j]/\Q (.int (if j<i then j else i)) H):=by
 intro aa s σ H xs us Q I r h;obtain⟨i,j,rfl,q⟩:=h
 obtain⟨u,w',rfl,⟨t,rfl⟩,⟨t',rfl⟩⟩:=vals2 r
 refine min_two_ints (I.ok.hd hc) λh' tk k=>⟨_,H,I.kept k,?_,q⟩
 by_cases hj:j<i
 ·rw [if_pos hj,if_pos hj];exact⟨_,rfl⟩
 ·rw [if_neg hj,if_neg hj];exact⟨_,rfl⟩
def oq:bL X (.type "str") (λxs H Q=>∃i,xs=[.int i]/\i.natAbs.log2<1920/\Q (.str (toString i)) H):=by
 intro aa s σ H xs us Q I r h;obtain⟨i,rfl,hz,q⟩:=h
 obtain⟨u,rfl,t,rfl⟩:=vals1 r
 exact PySem.P.str_of_int hz ⟨.str _,H,I.tok _,⟨_,rfl⟩,q⟩
end
def kG.some_of{v:V}{o:Option Value}(r:kG (some v) o):∃u,o=some u/\RelV v u:=by
 cases o with
 |none=>exact(show False from r).elim
 |some u=>exact⟨u,rfl,r⟩
structure eC(k:Nat)(A:Around):Prop where
 hd:A.handled=none
 dp:A.depth+3*k+5<recursionLimit
 un:A.units+16*k+200<cLine
theorem eC.mono{j k:Nat}{A:Around}(r:eC k A)(h:j<=k):eC j A:=⟨r.hd,by have:=r.dp;omega,by have:=r.un;omega⟩
theorem eC.deeper{k:Nat}{A:Around}(r:eC (k+1) A)(env:Env):eC k (A.deeper env):=
 ⟨r.hd,by have:=r.dp;show A.depth+1+3*k+5<_;omega,by have:=r.un;show A.units+3+16*k+200<_;omega⟩
def eC.depth{k:Nat}{A:Around}(r:eC k A):A.depth<recursionLimit:=by have:=r.dp;omega
def eC.units{k:Nat}{A:Around}(r:eC k A):A.units+64<cLine:=by have:=r.un;omega
def NC:TA:=λ_ H Q=>Q [] H
def J5(ta:TE)(tr:TA):TA:=λσ H Q=>ta σ H λx H1=>tr σ H1 λxs H2=>Q (x::xs) H2
section
variable{X:Cx}{e:Expr}{es:List Expr}{te:TE}{t:TA}{pos:Pos}
def c7:PA X [] NC:=λ_ _ _ _ H Q I h=>Calls.spliced_nil ⟨[],H,I,.nil,h⟩
theorem bO(ha:PE X e te)(hr:PA X es t)(hs:starEach (e::es) X.env=(false,eval e X.env)::starEach es X.env:=by rfl):PA X (e::es) (J5 te t):=by
 intro pos aa s σ H Q I h;rw [hs];show wpAny _ _ (spliced ((false,eval e X.env)::backTo pos (starEach es X.env))) _ _ s;refine Calls.spliced_cons (bK (ha aa s σ H _ I h) λu s1 ⟨x,H1,I1,r1,q1⟩=>?_)
 exact bK (hr pos aa s1 σ H1 _ I1 q1) λus s2 ⟨xs,H2,I2,r2,q2⟩=>⟨x::xs,H2,I2,.cons r1 r2,q2⟩
def Mo(t:TA):TE:=λσ H Q=>t σ H λxs H1=>xs.length<=sizeLine/\∀p,H1 p=none->Q (.ref p) (upd H1 p (.tup xs))
def NR(t:TA):TE:=λσ H Q=>t σ H λxs H1=>xs.length<=sizeLine/\∀p,H1 p=none->Q (.ref p) (upd H1 p (.lst xs))
def Hj{x1}(h:PA X es t):PE X (.Tuple es x1 pos) (Mo t):=by
 intro aa s σ H Q I hq;refine wpAny_Tuple_spliced (bK (h pos aa s σ H _ I hq) λus s1 ⟨xs,H1,I1,r,z,q⟩=>⟨by rw [<-r.length];exact z,?_⟩)
 have hf:H1 (zz9 s1)=none:=I1.bz.fresh (zzE _)
 refine⟨.ref (zz9 s1),upd H1 (zz9 s1) (.tup xs),I1.laid (t':=s1.toks) (λb u e=>zzB _ e) (zzE _) ?_,rfl,q _ hf⟩;exact⟨z,us,r,⟨_,zzX _ rfl,rfl,_,rfl⟩⟩
def FV(h:PA X es t):PE X (.List es pos) (NR t):=by
 intro aa s σ H Q I hq;refine wpAny_List_spliced (bK (h pos aa s σ H _ I hq) λus s1 ⟨xs,H1,I1,r,z,q⟩=>⟨by rw [<-r.length];exact z,?_⟩)
 have hf:H1 (zz9 s1)=none:=I1.bz.fresh (zzE _)
 refine⟨.ref (zz9 s1),upd H1 (zz9 s1) (.lst xs),I1.laid (t':=s1.toks) (λb u e=>zzB _ e) (zzE _) ?_,rfl,q _ hf⟩;exact⟨z,us,0,r,zzX _ rfl⟩
end
abbrev Sp:=List V->Hp->VK->XK->Prop
abbrev v5:=List Env->Hp->Shared->XK->Value->Shared->Prop
structure BV(P:Program)(w:World)(K:zz8)(mg:Str->Option Value)(base:Heap)(A:Around)(outer:List Env)(s:Shared)(H:Hp):Prop where
 frames:A.frames=some outer
 mod:Mod K mg base
 bs:∀b o,base.get? b=some o->s.heap.get? b=some o/\H b=none
 DB:base.objs.size<=(zz9 s)
 l7:s.heap.FunFrames base outer
 E7:∀b∈hX outer,H b=none
 bz:gG P w H s.heap
 bare:AllBare s.gens
def CE(outer:List Env)(P:Program)(w:World)(H:Hp)(s:Shared)(Q:VK)(u:Value)(s':Shared):Prop:=
 ∃v H',s'.os=s.os/\AllBare s'.gens/\Un (hX outer) [] H H' s.heap s'.heap/\gG P w H' s'.heap/\RelV v u/\Q v H'
def CR(CX:v5)(outer:List Env)(P:Program)(w:World)(H:Hp)(s:Shared)(Q:VK)(E:XK)(r:Result)(s':Shared):Prop:=
 match r with
 |.ok (.ret u)=>CE outer P w H s Q u s'
 |.ok _=>False
 |.error e=>CX outer H s E e s'
structure fX(P:Program)(w:World)(K:zz8)(mg:Str->Option Value)(base:Heap)(CX:v5)(k:Nat)(f:Addr)(fd:FuncData)(ps:List Str)(sp:Sp):Prop where
 len:∀vs H Q E,sp vs H Q E->vs.length=ps.length
 run:∀(A:Around) (outer:List Env) (s:Shared) (H:Hp) (args:Args) (us:List Value) (vs:List V) (Q:VK) (E:XK),eC k A->BV P w K mg base A outer s H->BindsTo s fd args (ps.zip us)->Vals vs us->sp vs H Q E->
  codeAny (model P w) A (.call (.ref f) args) (CR CX outer P w H s Q E) s
def fX.mono{P:Program}{w:World}{K:zz8}{mg:Str->Option Value}{base:Heap}{CX:v5}{j k:Nat}{f:Addr}{fd:FuncData}{ps:List Str}{sp:Sp}(F:fX P w K mg base CX j f fd ps sp)(h:j<=k):
 fX P w K mg base CX k f fd ps sp:=⟨F.len,λA outer s H args us vs Q E hr=>F.run A outer s H args us vs Q E (hr.mono h)⟩
def fX.imp{P:Program}{w:World}{K:zz8}{mg:Str->Option Value}{base:Heap}{CX:v5}{k:Nat}{f:Addr}{fd:FuncData}{ps:List Str}{sp Ox:Sp}(F:fX P w K mg base CX k f fd ps sp)
 (h:∀vs H Q E,Ox vs H Q E->sp vs H Q E):fX P w K mg base CX k f fd ps Ox:=
 ⟨λvs H Q E q=>F.len vs H Q E (h _ _ _ _ q),λA outer s H args us vs Q E hr he hb hv hs=>F.run A outer s H args us vs Q E hr he hb hv (h _ _ _ _ hs)⟩
section
variable{X:Cx}{aa:List (Addr×Obj)}{σ:St}{H:Hp}{s s':Shared}
def Inv.FX(I:Inv X aa σ H s):BV X.prog X.w X.K X.mg X.base X.A X.stack s H:=
 ⟨I.ok.frames,I.ok.mod,I.bs,zzU I.ok.DB I.sz,I.stack,I.nP,I.bz,I.bare⟩
def Inv.after{Q:VK}{u:Value}(I:Inv X aa σ H s)(h:CE X.stack X.prog X.w H s Q u s'):EP X aa σ Q u s':=by
 obtain⟨v,H',os,bare,un,bz,r,q⟩:=h
 obtain⟨hh,g,d,t,os'⟩:=s'
 obtain rfl:os'=s.os:=os
 exact⟨v,H',I.call (h':=hh) (g':=g) (d':=d) (t':=t) (ch:=[]) un bz bare (λb z=>absurd z (by simp)),r,q⟩
end
def Binds(K:zz8)(fd:FuncData)(ps:List Str)(ds:List Value):Prop:=
 ∀(s:Shared) (us:List Value),K.In s.heap->(us++ds).length=ps.length->BindsTo s fd ⟨us,[]⟩ (ps.zip (us++ds))
def Binds.all{K:zz8}{fd:FuncData}{ps:List Str}(h:∀us:List Value,us.length=ps.length->bindArgs fd ⟨us,[]⟩=pure (ps.zip us)):Binds K fd ps []:=λs us _ hl=>by
 rw [zz6] at hl⊢;exact .of_eq (h us hl)
def Passes(CX:v5)(X:Cx)(E:XK):Prop:=∀(aa:List (Addr×Obj)) (σ:St) (H:Hp) (s:Shared) (e:Value) (s':Shared),Inv X aa σ H s->CX X.stack H s E e s'->X.xe e s'
structure jq(N P:List Str)(sc:Scope):Prop where
 kind:sc.kind=.function
 co:sc.isCoroutine=false
 gen:sc.isGenerator=false
 nd:N.Nodup
 pre:N.take P.length=P
 par:∀x∈P,sc.names.lookup x=some .local\/sc.names.lookup x=some .cell
 Hg:∀y∈sc.names,y.2≠.free
theorem mO{kindOf:Str->Option NameKind}{x:Str}:∀{binds:List (Str×Value)} {m:Str->Option Value},(∀v,(x,v)∉binds)->bindL kindOf binds m x=m x
 |[],_,_=>rfl
 |(n,v)::r,m,h=>by
  unfold bindL;rw [mO λw hw=>h w (zzI _ hw)]
  split
  ·have:x≠n:=by rintro rfl;exact h v zzP
   simp [this]
  ·rfl
theorem ni{kindOf:Str->Option NameKind}{x:Str}:∀{binds:List (Str×Value)} {m:Str->Option Value},(∀v,(x,v)∉binds)->bindC kindOf binds m x=m x
 |[],_,_=>rfl
 |(n,v)::r,m,h=>by
  unfold bindC;rw [ni λw hw=>h w (zzI _ hw)]
  split
  ·rfl
  ·have:x≠n:=by rintro rfl;exact h v zzP
   simp [this]
theorem m6{kindOf:Str->Option NameKind}{x:Str}{v:Value}:∀{P:List Str} {vs:List Value} {i:Nat} {m:Str->Option Value},P.Nodup->P[i]?=some x->vs[i]?=some v->kindOf x=some .local->
 bindL kindOf (P.zip vs) m x=some v
 |[],_,_,_,_,h,_,_=>by simp at h
 |_::_,[],_,_,_,_,h,_=>by simp at h
 |p::P,w::vs,0,m,nd,h1,h2,hk=>by
  simp at h1 h2;subst h1;subst h2;show bindL kindOf ((p,w)::P.zip vs) m p=_
  unfold bindL;rw [mO λv hv=>(List.nodup_cons.mp nd).1 (List.of_mem_zip hv).1,if_pos hk]
  simp
 |p::P,w::vs,i+1,m,nd,h1,h2,hk=>by
  show bindL kindOf ((p,w)::P.zip vs) m x=_
  unfold bindL;exact m6 (i:=i) (List.nodup_cons.mp nd).2 (by simpa using h1) (by simpa using h2) hk
theorem nq{kindOf:Str->Option NameKind}{x:Str}{v:Value}:∀{P:List Str} {vs:List Value} {i:Nat} {m:Str->Option Value},P.Nodup->P[i]?=some x->vs[i]?=some v->kindOf x≠some .local->
 bindC kindOf (P.zip vs) m x=some v
 |[],_,_,_,_,h,_,_=>by simp at h
 |_::_,[],_,_,_,_,h,_=>by simp at h
 |p::P,w::vs,0,m,nd,h1,h2,hk=>by
  simp at h1 h2;subst h1;subst h2;show bindC kindOf ((p,w)::P.zip vs) m p=_
  unfold bindC;rw [ni λv hv=>(List.nodup_cons.mp nd).1 (List.of_mem_zip hv).1,if_neg hk]
  simp
 |p::P,w::vs,i+1,m,nd,h1,h2,hk=>by
  show bindC kindOf ((p,w)::P.zip vs) m x=_
  unfold bindC;exact nq (i:=i) (List.nodup_cons.mp nd).2 (by simpa using h1) (by simpa using h2) hk
def start(N:List Str)(vs:List V):St:=vs.map some++List.replicate (N.length-vs.length) none
noncomputable def dB(CX:v5)(P:Program)(w:World)(K:zz8)(mg:Str->Option Value)(base:Heap)(N:List Str)(qual:Str)(scope:Scope)(f:Addr)(cd:Value)(A:Around)(outer:List Env)(s:Shared)(H:Hp)(E:XK):Cx where
 prog:=P
 w:=w
 K:=K
 mg:=mg
 base:=base
 A:=A.deeper (envOfC qual scope (zz9 s) f cd)
 N:=N
 s₀:=s
 H₀:=H
 env:=envOfC qual scope (zz9 s) f cd
 outer:=outer
 stack:=envOfC qual scope (zz9 s) f cd::outer
 ex:=[]
 calm:=true
 fn:=λ_=>true
 pn:=[]
 xe:=λe s'=>wpAny (model P w) (A.deeper (envOfC qual scope (zz9 s) f cd)) (leaving (envOfC qual scope (zz9 s) f cd) e) (λ_ NX=>CX outer H s E e NX) (λe' NX=>CX outer H s E e' NX) s'
def qC{sc:Scope}{n:Nat}{x:Str}(h:sc.names.lookup x=some .cell):∃c,(cellsFrom n sc.names []).lookup x=some c:=by
 have q:=PySem.W.cellsFrom_some sc.names n [] (.inl h)
 exact zzp.mp q
def vf{CX:v5}{P:Program}{w:World}{K:zz8}{mg:Str->Option Value}{base:Heap}{N ps:List Str}{qual:Str}{scope:Scope}{f:Addr}{cd:Value}{A:Around}{outer:List Env}{s s1:Shared}{H:Hp}{E:XK}{us:List Value}{vs:List V}
 (S:jq N ps scope) (hd:A.handled=none) (e0:BV P w K mg base A outer s H) (hl:vs.length=ps.length) (r:Vals vs us)
 (x:InCallC s (zz9 s) (bindL (envOfC qual scope (zz9 s) f cd).kindOf (ps.zip us) λ_=>none) (cellsFrom ((zz9 s)+1) scope.names []) (bindC (envOfC qual scope (zz9 s) f cd).kindOf (ps.zip us) λ_=>none) s1):
 Inv (dB CX P w K mg base N qual scope f cd A outer s H E) [] (start N vs) H s1:=by
 have hpl:ps.length<=N.length:=by have:=congrArg List.length S.pre;rw [List.length_take] at this;omega
 obtain⟨h1,tk,rfl,hk⟩:=x.done
 have KA:∀b:Addr,b∉(dB CX P w K mg base N qual scope f cd A outer s H E).ex:=λb z=>absurd (show b∈([]:List Addr) from z) (by simp)
 refine⟨⟨e0.mod,S.kind,rfl,rfl,zzE _,λy z c h1 h2=>?_,λy hy=>?_,λy c _ h=>?_,λ_=>hd,Around.frames_deeper e0.frames,.inr ⟨rfl,rfl⟩,λb z=>absurd z (KA b),e0.bs,e0.DB,λb _ _=>KA b,λb z=>absurd z (KA b),e0.l7,e0.E7⟩,
  rfl,e0.bare,Un.kept hk,⟨_,x.toInCall.ns,λi y v h1 h2 h3=>?_⟩,λy c h=>⟨_,x.cell y c h⟩,e0.bz.fresh (zzE _),λy c h=>?_,λp hp=>absurd (show p∈([]:List (Addr×Obj)) from hp) (by simp),e0.bz.kept hk,?_⟩
 ·exact name_of_addr x.apart (PySem.mem_of_lookup h1) (PySem.mem_of_lookup h2)
 ·have hy:scope.names.lookup y=some .cell\/scope.names.lookup y=some .free:=hy
  rcases hy with hy|hy
  ·exact qC hy
  ·exact absurd rfl (S.Hg _ (PySem.mem_of_lookup hy))
 ·exact Nat.le_of_lt (x.above y c (PySem.mem_of_lookup h))
 ·have hi:i<vs.length:=by
   unfold start at h2
   by_cases hi:i<vs.length
   ·exact hi
   ·rw [zzs (by simpa using hi)] at h2;rw [List.getElem?_replicate] at h2;split at h2<;>cases h2
  have ha:vs[i]?=some v:=by
   unfold start at h2;rw [zzr (by simpa using hi),zzQ] at h2;cases e:vs[i]? with
   |none=>rw [e] at h2;cases h2
   |some a=>rw [e] at h2;cases h2;rfl
  obtain⟨u,hu,rv⟩:=r.get ha
  have hp:ps[i]?=some y:=by
   rw [<-S.pre,List.getElem?_take_of_lt (by omega)];exact h1
  have Ol:ps.Nodup:=by rw [<-S.pre];exact S.nd.sublist (List.take_sublist _ _)
  refine⟨u,rv,?_⟩;rcases S.par y (zzD hp) with k|k
  ·exact .inl ⟨k,m6 Ol hp hu k⟩
  ·obtain⟨c,e⟩:=qC (n:=(zz9 s)+1) k
   refine .inr ⟨.inl k,c,e,?_⟩;have q:=x.cell y c e
   rw [nq Ol hp hu (by show scope.names.lookup y≠_;rw [k];decide)] at q;exact q
 ·exact e0.bz.fresh (Nat.le_of_lt (x.above y c (PySem.mem_of_lookup h)))
 ·unfold start;show _=N.length
  rw [zzM,zzl,List.length_replicate];omega
def J6{CX:v5}{P:Program}{w:World}{K:zz8}{mg:Str->Option Value}{base:Heap}{k:Nat}{f:Addr}{name qual:Str}{params:Arguments}{body:List Stmt}{scope:Scope}{dV kV doc pm fq ct oc:Value}{an od:Option Addr}
 {rO:Array (Option Value)} {N ps:List Str} {sp:Sp} (lk:K.lookup f=some ⟨oc,od,.func (PySem.W.fnOf name qual params body scope dV kV doc pm an fq ct),rO⟩) (wz:PySem.W.codeIn K fq qual=true) (S:jq N ps scope)
 (len:∀vs H Q E,sp vs H Q E->vs.length=ps.length)
 (IB:∀(A:Around) (outer:List Env) (s:Shared) (H:Hp) (vs:List V) (Q:VK) (E:XK),eC k (A.deeper (envOfC qual scope (zz9 s) f fq))->sp vs H Q E->
  ∃t,sV (dB CX P w K mg base N qual scope f fq A outer s H E) body t/\t {nx:=λ_ H'=>Q .aA H',rt:=Q} (start N vs) H):
 fX P w K mg base CX (k+1) f (PySem.W.fnOf name qual params body scope dV kV doc pm an fq ct) ps sp:=by
 refine⟨len,λA outer s H args us vs Q E hr e0 hb r HM=>?_⟩
 have hl:=len _ _ _ _ HM
 have KX:K.In s.heap:=e0.mod.Lu.keeps λb o e=>(e0.bs b o e).1
 have lim:s.heap.NoLimit:=e0.mod.nolimit.keeps λb o e=>(e0.bs b o e).1
 have JF:∀y∈ps.zip us,scope.names.lookup y.1=some .local\/(scope.names.lookup y.1=some .cell/\((cellsFrom ((zz9 s)+1) scope.names []).lookup y.1).isSome=true):=λ⟨n,v⟩ hy=>by
  rcases S.par n (List.of_mem_zip hy).1 with q|q
  ·exact .inl q
  ·exact .inr ⟨q,PySem.W.cellsFrom_some _ _ _ (.inl q)⟩
 refine codeAny_call_function hr.depth (KX _ _ lk) rfl S.co S.gen rfl (PySem.W.codeRec_of KX wz) (hb _ _ _ _ ?_);refine wpAny_newFunctionEnv_cells S.kind JF λenv he s1 x=>?_
 subst he;refine⟨lim.keeps x.toInCall.keep,codeAny_func ?_⟩;obtain⟨t,ht,hq⟩:=IB A outer s H vs Q E (hr.deeper _) HM
 have I:Inv (dB CX P w K mg base N qual scope f fq A outer s H E) [] (start N vs) H s1:=vf S hr.hd e0 hl r x
 refine wpAny_mono (ht [] s1 (start N vs) H _ I hq) (λfl s' hs=>?_) λe s' hs=>hs
 have fin:∀{σ':St} {H':Hp} {v:V} {u:Value},Inv (dB CX P w K mg base N qual scope f fq A outer s H E) [] σ' H' s'->RelV v u->Q v H'->CE outer P w H s Q u s':=
  λ{σ' H' v u} J rv q=>⟨v,H',J.os,J.bare,J.base,J.bz,rv,q⟩
 cases fl with
 |ret u=>
  obtain⟨v,σ',H',J,rv,q⟩:=hs
  exact fin J rv q
 |next=>
  obtain⟨σ',H',J,q⟩:=hs
  exact fin (v:=V.aA) (u:=Value.none) J rfl q
 |brk=>
  obtain⟨_,_,_,q⟩:=hs
  exact zzk q
 |cont=>
  obtain⟨_,_,_,q⟩:=hs
  exact zzk q
section
variable{X:Cx}{x:Str}{p pos:Pos}{e:Expr}{es:List Expr}{t:TA}{id T:String}{r:List V->Hp->VK->Prop}
def Lx(r:List V->Hp->VK->Prop)(t:TA):TE:=λσ H Q=>t σ H λvs H1=>r vs H1 Q
def dy(hc:bL X (.builtin id) r)(hg:Gl X x)(hm:X.mg x=none)(hv:bootBuiltins x=some (.builtin id))(ha:PA X (e::es) t)(hn:x≠"__name__":=by decide)(Nt:(x==("__debug__":Str))=false:=by decide)
 (he:starEach (e::es) X.env=(false,eval e X.env)::starEach es X.env:=by rfl) (hpl:(backTo pos (starEach es X.env)).any (·.1)=false:=by rfl):PE X (.Call (.Name x p) (e::es) [] pos) (Lx r t):=by
 intro aa s σ H Q I h;refine wpAny_Call_Name_kw (dg I hg hm hv ?_ hn Nt);exact PyProof.Rows.callWith_builtin1 (bK (ha pos aa s σ H _ I h) λus s1 ⟨vs,H1,I1,r1,q1⟩=>hc aa s1 σ H1 vs us Q I1 r1 q1) he hpl
def eL(hc:bL X (.type T) r)(hg:Gl X x)(hm:X.mg x=none)(hv:bootBuiltins x=some (.type T))(ha:PA X (e::es) t)(hn:x≠"__name__":=by decide)(Nt:(x==("__debug__":Str))=false:=by decide)
 (he:starEach (e::es) X.env=(false,eval e X.env)::starEach es X.env:=by rfl) (hpl:(backTo pos (starEach es X.env)).any (·.1)=false:=by rfl):PE X (.Call (.Name x p) (e::es) [] pos) (Lx r t):=by
 intro aa s σ H Q I h;refine wpAny_Call_Name_kw (dg I hg hm hv ?_ hn Nt);exact PyProof.Rows.callWith_type1 (bK (ha pos aa s σ H _ I h) λus s1 ⟨vs,H1,I1,r1,q1⟩=>hc aa s1 σ H1 vs us Q I1 r1 q1) he hpl
end
end L2
namespace HT
open PySem PyProof.Rows
def lexLt:List Int->List Int->Bool
 |[],[]=>false
 |[],_::_=>true
 |_::_,[]=>false
 |x::xs,y::ys=>if x=y then lexLt xs ys else decide (x<y)
section
def mw(n d:Nat):Option Int->Nat
 |none=>d
 |some v=>if v<0 then(v+(n:Int)).toNat else min v.toNat n
theorem y8(n d:Nat):mw n d none=d:=rfl
def Aj(n d k:Nat):mw n d (some (k:Int))=min k n:=by
 show(if(k:Int)<0 then((k:Int)+(n:Int)).toNat else min (k:Int).toNat n)=min k n
 rw [if_neg (by omega),zz4]
end
end HT
namespace L2
open PySem PySem.Spec PyProof.Rows
abbrev TO:=St->Hp->(Option Int->Hp->Prop)->Prop
def PO(X:Cx)(e:Option Expr)(t:TO):Prop:=
 ∀(aa:List (Addr×Obj)) (s:Shared) (σ:St) (H:Hp) (Q:Option Int->Hp->Prop),Inv X aa σ H s->t σ H Q->
  wpAny (model X.prog X.w) X.A (evalPart e X.env) (λu s'=>∃o H',Inv X aa σ H' s'/\IsPart u o/\Q o H') X.xe s
def AB:TO:=λ_ H Q=>Q none H
def J4(t:TE):TO:=λσ H Q=>t σ H λx H1=>∃i,x=.int i/\Q (some i) H1
section
variable{X:Cx}{e:Expr}{te:TE}{lo hi:Option Expr}{tl th:TO}{pos p2:Pos}
def Aw:PO X none AB:=by
 intro aa s σ H Q I h;rw [evalPart_none];exact zzG ⟨none,H,I,.none,h⟩
def AH(h:PE X e te):PO X (some e) (J4 te):=by
 intro aa s σ H Q I hw;rw [evalPart_some];refine bK (h aa s σ H _ I hw) λu s1 ⟨x,H1,I1,r1,q1⟩=>?_
 obtain⟨i,rfl,q⟩:=q1
 obtain⟨t,rfl⟩:=r1
 exact⟨some i,H1,I1,.int i t,q⟩
def DI(X:Cx)(r:V->Option Int->Option Int->Hp->VK->Prop):Prop:=
 ∀(aa:List (Addr×Obj)) (s:Shared) (σ:St) (H:Hp) (x:V) (v vl vu:Value) (lo hi:Option Int) (sl:Addr) (Q:VK),Inv X aa σ H s->RelV x v->s.heap.IsSliceOf sl vl vu .none->IsPart vl lo->IsPart vu hi->r x lo hi H Q->
  ∃T id,typeLookup (.type T) "__getitem__"=pure (some (.builtin id))/\s.TypeIs v T/\wpAny (model X.prog X.w) X.A (getItem v (.ref sl)) (EP X aa σ Q) X.xe s
def Rh(r:V->Option Int->Option Int->Hp->VK->Prop)(te:TE)(tl th:TO):TE:=λσ H Q=>te σ H λx H1=>tl σ H1 λl H2=>th σ H2 λu H3=>r x l u H3 Q
def wL{r:V->Option Int->Option Int->Hp->VK->Prop}(hr:DI X r)(he:PE X e te)(hl:PO X lo tl)(hu:PO X hi th):PE X (.Subscript e (.Slice lo hi none p2) pos) (Rh r te tl th):=by
 intro aa s σ H Q I h;refine Subscript_ (bK (he aa s σ H _ I h) λv s1 ⟨x,H1,I1,r1,q1⟩=>?_)
 refine wpAny_Slice (bK (hl aa s1 σ H1 _ I1 q1) λvl s2 ⟨l,H2,I2,pl,q2⟩=>bK (hu aa s2 σ H2 _ I2 q2) λvu s3 ⟨u,H3,I3,pu,q3⟩=>?_)
 rw [evalPart_none];refine zzG ?_;have I4:Inv X aa σ H3 {s3 with heap:=s3.heap.push {cls:=.type "slice",data:=.fields #[vl,vu,.none]}}:=I3.kept (t':=s3.toks) λb ob q=>zzB _ q
 obtain⟨T,id,hT,ht,hg⟩:=hr aa {s3 with heap:=s3.heap.push {cls:=.type "slice",data:=.fields #[vl,vu,.none]}} σ H3 x v vl vu l u (zz9 s3) Q I4 r1 (Heap.IsSliceOf.new ..) pl pu q3
 show wpAny (model X.prog X.w) X.A (subscriptTail e (.Slice lo hi none p2) v (.ref (zz9 s3))) (EP X aa σ Q) X.xe {s3 with heap:=s3.heap.push {cls:=.type "slice",data:=.fields #[vl,vu,.none]}}
 exact tail_any (ops:=[.ref (zz9 s3),v]) ht hT hg (by with_unfolding_all rfl)
def vI(xs:List V)(lo hi:Option Int):List V:=(xs.drop (HT.mw xs.length 0 lo)).take (HT.mw xs.length xs.length hi-HT.mw xs.length 0 lo)
def pQ(xs:List V)(lo hi:Option Int):(vI xs lo hi).length<=xs.length:=by
 unfold vI;rw [List.length_take,List.length_drop];omega
end
def Hi(n:Nat)(i:Int):Option Nat:=if 0<=i then(if i<n then some i.toNat else none) else if -(n:Int)<=i then some (i+n).toNat else none
def qw{α:Type}(xs:List α)(i:Int):Option α:=(Hi xs.length i).bind λj=>xs[j]?
def As{n:Nat}{i:Int}{j:Nat}(h:Hi n i=some j):seqIndex? i n=some j/\j<n/\ -(n:Int)<=i/\i<n:=by
 unfold Hi at h
 by_cases h0:0<=i
 ·rw [if_pos h0] at h
  by_cases h1:i<n
  ·rw [if_pos h1] at h;have e:i.toNat=j:=zzq h
   exact⟨by rw [seqIndex_of h0 h1,e],by omega,by omega,h1⟩
  ·rw [if_neg h1] at h;cases h
 ·rw [if_neg h0] at h
  by_cases h1: -(n:Int)<=i
  ·rw [if_pos h1] at h;have e:(i+n).toNat=j:=zzq h
   exact⟨by rw [seqIndex_neg (by omega) h1,e],by omega,h1,by omega⟩
  ·rw [if_neg h1] at h;cases h
def o5{α:Type}{xs:List α}{i:Int}{v:α}(h:qw xs i=some v):∃j,seqIndex? i xs.length=some j/\xs[j]?=some v/\j<xs.length/\ -(xs.length:Int)<=i/\i<xs.length:=by
 unfold qw at h;cases e:Hi xs.length i with
 |none=>rw [e] at h;cases h
 |some j=>
  rw [e] at h;obtain⟨h1,h2,h3,h4⟩:=As e
  exact⟨j,h1,h,h2,h3,h4⟩
def oS(b:Expr):Prop:=∀o i,subscripted b false o i=operate [o,i] (getItem o i)
def Ic(X:Cx)(r:R2):Prop:=
 ∀(value slice:Expr) (aa:List (Addr×Obj)) (s:Shared) (σ:St) (H:Hp) (x y:V) (v u:Value) (Q:VK),Inv X aa σ H s->RelV x v->RelV y u->r x y H Q->
  subscripted slice false v u=operate [v,u] (getItem v u)->wpAny (model X.prog X.w) X.A (subscriptTail value slice v u) (EP X aa σ Q) X.xe s
def OA(X:Cx)(id:String)(r:V->List V->Hp->VK->Prop):Prop:=
 ∀(aa:List (Addr×Obj)) (s:Shared) (σ:St) (H:Hp) (x:V) (xs:List V) (v:Value) (us:List Value) (Q:VK),Inv X aa σ H s->RelV x v->Vals xs us->r x xs H Q->
  wpAny (model X.prog X.w) X.A (call (.builtin id) (v::us)) (EP X aa σ Q) X.xe s
section
variable{X:Cx}{a b:Expr}{ta tb:TE}{pos:Pos}
def Jd{r:R2}(hr:Ic X r)(ha:PE X a ta)(hb:PE X b tb)(hs:oS b):PE X (.Subscript a b pos) (Jg r ta tb):=by
 intro aa s σ H Q I h;exact Subscript_ (Eh ha hb I h λv u s2 x y H2 I2 rx ry q=>hr a b aa s2 σ H2 x y v u Q I2 rx ry q (hs _ _))
noncomputable def M9(K:zz8):R2:=λx y H Q=>∃p xs i v,x=.ref p/\y=.int i/\dw K H p xs/\qw xs i=some v/\Q v H
noncomputable def Nm(K:zz8):R2:=λx y H Q=>∃p xs i v,x=.ref p/\y=.int i/\eU K H p xs/\qw xs i=some v/\Q v H
noncomputable def N7:R2:=λx y H Q=>∃z i c,x=.str z/\y=.int i/\z.length<=sizeLine/\qw z.cps.toList i=some c/\Q (.str ⟨#[c]⟩) H
def CQ:Ic X (M9 X.K):=by
 intro value slice aa s σ H x y v u Q I rx ry h hs;obtain⟨p,xs,i,z,rfl,rfl,hq,he,q⟩:=h
 cases rx;obtain⟨t,rfl⟩:=ry
 obtain⟨ak,r,pl,hz⟩:=I.list hq
 obtain⟨j,h1,h2,h3,h4,h5⟩:=o5 he
 obtain⟨w,ew,ix⟩:=r.get h2
 have hl:=r.length
 have hn:=kB
 have fin:EP X aa σ Q w s:=⟨z,H,I,ix,q⟩
 by_cases h0:0<=i
 ·have hj:i.toNat=j:=by
   rw [seqIndex_of h0 h5] at h1;exact zzq h1
  exact item_listR pl.isList h0 (by omega) (by rw [hj];simpa using ew) fin hs
 ·have hj:(i+(ak.toArray.size:Int)).toNat=j:=by
   rw [seqIndex_neg (by omega) h4] at h1;rw [zzC,<-hl];exact zzq h1
  exact subscriptTail_builtinR (x:=w) pl.isList.typeIs slot_list_getitem.lookup
   (wpAny_getItem_list_neg (Q:=λr s'=>r=w/\EP X aa σ Q r s') pl.isList (by omega) (by rw [zzC]<;>omega) (by omega) (by rw [hj];simpa using ew) ⟨rfl,fin⟩) hs
def FH:Ic X (Nm X.K):=by
 intro value slice aa s σ H x y v u Q I rx ry h hs;obtain⟨p,xs,i,z,rfl,rfl,hq,he,q⟩:=h
 cases rx;obtain⟨t,rfl⟩:=ry
 obtain⟨ak,r,pl,hz⟩:=I.tuple hq
 obtain⟨j,h1,h2,h3,h4,h5⟩:=o5 he
 obtain⟨w,ew,ix⟩:=r.get h2
 have hl:=r.length
 have hn:=kB
 have fin:EP X aa σ Q w s:=⟨z,H,I,ix,q⟩
 exact subscriptTail_builtinR (x:=w) pl.typeIs slot_tuple_getitem.lookup
  (getItem_tuple (j:=j) (Q:=λr s'=>r=w/\EP X aa σ Q r s') pl (by omega) (by omega) (by rw [zzC,<-hl];exact h1) (by simpa using ew) ⟨rfl,fin⟩) hs
def ED:Ic X N7:=by
 intro value slice aa s σ H x y v u Q I rx ry h hs;obtain⟨z,i,c,rfl,rfl,hz,he,q⟩:=h
 obtain⟨t,rfl⟩:=rx
 obtain⟨t',rfl⟩:=ry
 obtain⟨j,h1,h2,h3,h4,h5⟩:=o5 he
 have hl:z.cps.toList.length=z.length:=by simp [Str.length]
 rw [hl] at h1 h4 h5;have hn:=kB
 exact tail_any (typeIs_str s z t) slot_str_getitem.lookup (getItem_str (c:=c) (by
  have e1:decide (i< -(2^63:Int))=false:=zz0 (by omega)
  have e2:decide (i>=2^63)=false:=zz0 (by omega)
  rw [e1,e2,Bool.or_false]) (by rw [h1];simpa using h2) ⟨.str ⟨#[c]⟩,H,I.tok _,⟨_,rfl⟩,q⟩) hs
def nZ(lo hi:Option Int)(n:Nat):(sliceBounds lo hi none n).1=((HT.mw n 0 lo:Nat):Int)/\(sliceBounds lo hi none n).2.1=((HT.mw n n hi:Nat):Int)/\(sliceBounds lo hi none n).2.2=1:=by
 refine⟨?_,?_,rfl⟩
 ·cases lo with
  |none=>simp [sliceBounds,HT.mw]
  |some i=>
   simp! [sliceBounds,HT.mw,Option.getD_none,show(1:Int)>0 by decide,if_true]
   by_cases h:i<0
   ·simp! [h,if_true]<;>omega
   ·simp! [h,if_false]<;>omega
 ·cases hi with
  |none=>simp [sliceBounds,HT.mw]
  |some i=>
   simp! [sliceBounds,HT.mw,Option.getD_none,show(1:Int)>0 by decide,if_true]
   by_cases h:i<0
   ·simp! [h,if_true]<;>omega
   ·simp! [h,if_false]<;>omega
def lN(ak:List Value)(lo hi:Option Int):slicePick ak.toArray lo hi none=((ak.drop (HT.mw ak.length 0 lo)).take (HT.mw ak.length ak.length hi-HT.mw ak.length 0 lo)).toArray:=by
 obtain⟨h1,h2,h3⟩:=nZ lo hi ak.toArray.size
 unfold slicePick;rw [h1,h2,h3];simp! [sliceRange_one,pick_run,zzC]<;>rfl
def MH(K:zz8):V->Option Int->Option Int->Hp->VK->Prop:=λx lo hi H Q=>∃a xs,x=.ref a/\dw K H a xs/\∀p,H p=none->Q (.ref p) (upd H p (.lst (vI xs lo hi)))
def AO:DI X (MH X.K):=by
 intro aa s σ H x v vl vu lo hi sl Q I rx hs pl pu h;obtain⟨a,xs,rfl,hx,q⟩:=h
 cases rx;obtain⟨ak,r,ht,hz⟩:=I.list hx
 have hlen:=r.length
 refine⟨"list",_,slot_list_getitem.lookup,ht.isList.typeIs,?_⟩;refine wpAny_getItem_list_slice ht.isList hs pl pu .none (by simp) ?_ (by rw [zzC]<;>omega);rw [lN,<-hlen];refine⟨.ref (zz9 s),_,I.laid (t':=s.toks) (o:=.lst (vI xs lo hi)) (λb ob q=>zzB _ q) (zzE _) ?_,rfl,q _ (I.bz.fresh (zzE _))⟩;exact⟨zzU (pQ xs lo hi) hz,_,0,(r.drop (HT.mw xs.length 0 lo)).take (HT.mw xs.length xs.length hi-HT.mw xs.length 0 lo),zzX _ rfl⟩
def hU:bL X (.builtin "len") (λxs H Q=>∃p ys,xs=[.ref p]/\(dw X.K H p ys\/eU X.K H p ys)/\Q (.int ys.length) H):=by
 intro aa s σ H xs us Q I r h;obtain⟨p,ys,rfl,hq,q⟩:=h
 obtain⟨u,rfl,rx⟩:=vals1 r
 cases rx;have hn:=kB
 rcases hq with hq|hq
 ·obtain⟨ak,r',pl,hz⟩:=I.list hq
  have hlen:=r'.length
  exact Calls.call_len_list pl.isList (by simp! [zzC]<;>omega) ⟨.int ys.length,H,I.tok _,⟨s.toks+1,by rw [zzC,hlen]⟩,q⟩
 ·obtain⟨ak,r',pl,hz⟩:=I.tuple hq
  have hlen:=r'.length
  exact len_tuple pl (by simp! [zzC]<;>omega) ⟨.int ys.length,H,I.tok _,⟨s.toks+1,by rw [zzC,hlen]⟩,q⟩
def nQ:bL X (.builtin "len") (λxs H Q=>∃z,xs=[.str z]/\z.length<=sizeLine/\Q (.int z.length) H):=by
 intro aa s σ H xs us Q I r h;obtain⟨z,rfl,hz,q⟩:=h
 obtain⟨u,rfl,t,rfl⟩:=vals1 r
 have hn:=kB
 exact len_str (by omega) ⟨.int z.length,H,I.tok _,⟨_,rfl⟩,q⟩
def n4:bL X (.type "list") (λxs H Q=>∃p ys,xs=[.ref p]/\(dw X.K H p ys\/eU X.K H p ys)/\∀l,H l=none->Q (.ref l) (upd H l (.lst ys))):=by
 intro aa s σ H xs us Q I r h;obtain⟨p,ys,rfl,hq,q⟩:=h
 obtain⟨u,rfl,rx⟩:=vals1 r
 cases rx;have fin:∀(ak:List Value),Vals ys ak->ys.length<=sizeLine->∀(h':Heap) (c':Nat),(∀b o',s.heap.get? b=some o'->h'.get? b=some o')->
  h'.get? (zz9 s)=some {cls:=.type "list",dict:=none,data:=.seq ak.toArray c',slots:=#[]}->EP X aa σ Q (.ref (zz9 s)) {s with heap:=h'}:=λak r' hz h' c' kp e=>
  ⟨.ref (zz9 s),_,I.laid (t':=s.toks) kp (zzE _) (show bU X.prog X.w _ h' _ (.lst ys) from⟨hz,ak,c',r',e⟩),rfl,q _ (I.bz.fresh (zzE _))⟩
 rcases hq with hq|hq
 ·obtain⟨ak,r',pl,hz⟩:=I.list hq
  have hlen:=r'.length
  obtain⟨o,ho,hc,n,hd⟩:=pl.isList
  exact call_list_seq p (.inl rfl) ho hc hd (λh' c' kp e=>fin ak r' hz h' c' kp e) (by simp! [zzC]<;>omega)
 ·obtain⟨ak,r',pl,hz⟩:=I.tuple hq
  have hlen:=r'.length
  obtain⟨o,ho,hc,n,hd⟩:=pl
  exact call_list_seq p (.inr rfl) ho hc hd (λh' c' kp e=>fin ak r' hz h' c' kp e) (by simp! [zzC]<;>omega)
def l8:bL X (.type "tuple") (λxs H Q=>∃p ys,xs=[.ref p]/\((dw X.K H p ys/\∀l,H l=none->Q (.ref l) (upd H l (.tup ys)))\/(eU X.K H p ys/\Q (.ref p) H))):=by
 intro aa s σ H xs us Q I r h;obtain⟨p,ys,rfl,h⟩:=h
 obtain⟨u,rfl,rx⟩:=vals1 r
 cases rx;rcases h with⟨hq,q⟩|⟨hq,q⟩
 ·obtain⟨ak,r',pl,hz⟩:=I.list hq
  have hlen:=r'.length
  refine call_tuple_list pl.isList (λh' kp=>?_) (by simp! [zzC]<;>omega);have I1:Inv X aa σ H {s with heap:=h'}:=I.kept (t':=s.toks) kp
  have I2:Inv X aa σ (upd H h'.objs.size (.tup ys)) {s with heap:=h'.push {cls:=.type "tuple",data:=.seq ak.toArray}}:=
   I1.laid (t':=s.toks) (λb o e=>zzB _ e) (zzE _) (show bU X.prog X.w _ _ _ (.tup ys) from⟨hz,ak,r',IsTup.new _ _⟩)
  exact⟨.ref h'.objs.size,_,I2,rfl,q _ (I1.bz.fresh (zzE _))⟩
 ·obtain⟨ak,r',pl,hz⟩:=I.tuple hq
  exact call_tuple_same pl ⟨.ref p,H,I,rfl,q⟩
def O3(K:zz8)(T:String)(x:V)(H:Hp):Prop:=match x with
 |.str _=>T="str"
 |.int _=>T="int"
 |.ref p=>(T="list"/\∃xs,dw K H p xs)\/(T="tuple"/\∃o,K.lookup p=some o/\o.cls=.type "tuple"/\o.dict=none)\/
  (T="dict"/\((∃az,H p=some (.dK az))\/∃az,H p=some (.dT az)))\/(T="set"/\∃S n,H p=some (.set S n))
 |_=>False
def Hl{aa:List (Addr×Obj)}{σ:St}{H:Hp}{s:Shared}{T:String}{x:V}{v:Value}(I:Inv X aa σ H s)(r:RelV x v)(ty:O3 X.K T x H):
 s.TypeIs v T/\∀a,v=.ref a->∃ob,s.heap.get? a=some ob/\ob.dict=none:=by
 cases x with
 |str z=>
  obtain⟨t,rfl⟩:=r
  cases(show T="str" from ty);exact⟨typeIs_str s z t,λ_ e=>nomatch e⟩
 |int i=>
  obtain⟨t,rfl⟩:=r
  cases(show T="int" from ty);exact⟨typeIs_int s i t,λ_ e=>nomatch e⟩
 |ref p=>
  cases r;rcases ty with⟨rfl,xs,hq⟩|⟨rfl,o,hk,hc,hd⟩|⟨rfl,hk⟩|⟨rfl,S,n,hk⟩
  ·obtain⟨ak,_,pl,_⟩:=I.list hq
   refine⟨pl.isList.typeIs,λa e=>?_⟩
   cases e;obtain⟨o,n,e,c,hd,_⟩:=pl
   exact⟨o,e,hd⟩
  ·refine⟨⟨o,I.sE p o hk,hc⟩,λa e=>?_⟩
   cases e;exact⟨o,I.sE _ o hk,hd⟩
  ·have z:∃o,s.heap.get? p=some o/\o.ExactDict:=by
    rcases hk with⟨az,hk⟩|⟨az,hk⟩
    ·obtain⟨_,_,_,_,o,_,_,e,ex,_⟩:=I.bz p _ hk
     exact⟨o,e,ex⟩
    ·obtain⟨_,_,_,_,o,_,_,e,ex,_⟩:=I.bz p _ hk
     exact⟨o,e,ex⟩
   obtain⟨o,e,ex⟩:=z
   refine⟨⟨o,e,ex.1⟩,λa e2=>?_⟩
   cases e2;exact⟨o,e,ex.2.1⟩
  ·obtain⟨o,_,_,_,e,ex,_⟩:=I.bz p _ hk
   refine⟨⟨o,e,ex.1⟩,λa e2=>?_⟩
   cases e2;exact⟨o,e,ex.2.1⟩
 |_=>exact zzk ty
noncomputable def RA(K:zz8)(T:String)(r:V->List V->Hp->VK->Prop)(to:TE)(t:TA):TE:=λσ H Q=>to σ H λx H1=>O3 K T x H1/\t σ H1 λxs H2=>r x xs H2 Q
variable{o e:Expr}{es:List Expr}{to:TE}{t:TA}{name:Str}{apos b8:Pos}{T id:String}{r:V->List V->Hp->VK->Prop}
theorem sO(pa:PlainAttrs T)(slot:Slot T name id)(Rl:typeOf (.builtin id)=pure (.type "method_descriptor"))(hm:OA X id r)(ho:PE X o to)(ha:PA X (e::es) t)
 (gj:attributeBase o name X.env (eval o X.env)=eval o X.env:=by rfl)
 (MB:((backTo b8 (starEach (e::es) X.env)).all (λx=>!x.1)&&(backToKw b8 (keywordEach [] X.env)).all (λx=>x.1.isSome)
  &&decide ((e::es).length+([]:List Keyword).length+(if([]:List Keyword).isEmpty then 0 else 1)<30))=true:=by rfl)
 (lD:(apos.endLine==b8.line)=true:=by rfl) (hs:starEach (e::es) X.env=(false,eval e X.env)::starEach es X.env:=by rfl) (se:(backTo b8 (starEach es X.env)).any (·.1)=false:=by rfl):
 PE X (.Call (.Attribute o name apos) (e::es) [] b8) (RA X.K T r to t):=by
 intro aa s σ H Q I h;refine wpAny_Call_method_late gj MB lD rfl (bK (ho aa s σ H _ I h) λv s1 ⟨x,H1,I1,r1,ty,q1⟩=>?_)
 obtain⟨h1,h2⟩:=Hl I1 r1 ty
 refine⟨T,id,pa,slot,Rl,h1,h2,?_⟩;have hA:=ha b8 aa s1 σ H1 _ I1 q1
 rw [hs] at hA⊢;refine Calls.callWith_builtin (by show(false||(backTo b8 (starEach es X.env)).any (·.1))=false;rw [se]<;>rfl) (Calls.evalArgs_plain ?_);exact bK hA λus s2 ⟨vs,H2,I2,r2,q2⟩=>hm aa s2 σ H2 x vs v us Q I2 r1 r2 q2
end
def OR(X:Cx)(id:String)(r:V->List V->Hp->VK->Prop):Prop:=
 ∀(aa:List (Addr×Obj)) (s:Shared) (σ:St) (H:Hp) (x:V) (xs:List V) (v:Value) (us:List Value) (Q:VK),Inv X aa σ H s->RelV x v->Vals xs us->r x xs H Q->
  wpAny (model X.prog X.w) X.A (call (.builtin id) (v::us)) (EP X aa σ Q) X.xe s
theorem Vals.one:∀{x:V} {us:List Value},Vals [x] us->∃u,us=[u]/\RelV x u
 |_,_,.cons r .nil=>⟨_,rfl,r⟩
def Vals.two{x y:V}{us:List Value}(h:Vals [x,y] us):∃u v,us=[u,v]/\RelV x u/\RelV y v:=by
 cases h with
 |cons r q=>
  cases q with
  |cons q n=>cases n;exact⟨_,_,rfl,r,q⟩
theorem Vals.eraseIdx:∀{xs:List V} {us:List Value} (i:Nat),Vals xs us->Vals (xs.eraseIdx i) (us.eraseIdx i)
 |_,_,_,.nil=>.nil
 |_,_,0,.cons _ t=>t
 |_,_,i+1,.cons r t=>.cons r (Vals.eraseIdx i t)
theorem mS{α:Type}:∀(l:List α) (i:Nat),(l.eraseIdx i).length<=l.length
 |[],_=>zzE _
 |_::_,0=>Nat.le_succ _
 |_::r,i+1=>Nat.succ_le_succ (mS r i)
section
variable{X:Cx}{aa:List (Addr×Obj)}{σ:St}{H:Hp}{s:Shared}{l:Addr}{xs ys:List V}
def Inv.Hz{ak its':List Value}{n:Nat}{f:Array Value->Array Value}{t':Nat}(I:Inv X aa σ H s)(hH:H l=some (.lst xs))
 (e:s.heap.get? l=some {cls:=.type "list",data:=.seq ak.toArray n}) (hf:f ak.toArray=its'.toArray) (hv:Vals ys its') (hz:ys.length<=sizeLine):
 Inv X aa σ (upd H l (.lst ys)) {s with heap:=s.heap.update l (Obj.mapSeq f),toks:=t'}:=by
 have q:=PySem.IsL.update e f
 rw [hf] at q;refine I.write (x:=l) (e:=l) (by rw [hH];exact trivial) (.inl rfl) (λb' u hb hu=>(Heap.get?_update_other s.heap (Obj.mapSeq f) (Ne.symm hb)).trans hu) ⟨_,q⟩ ?_
 exact⟨hz,its',_,hv,q⟩
theorem Inv.Mc{ak:List Value}{t':Nat}(I:Inv X aa σ H s)(hv:Vals ys ak)(hz:ys.length<=sizeLine):
 Inv X aa σ (upd H (zz9 s) (.lst ys)) {s with heap:=s.heap.push {cls:=.type "list",data:=.seq ak.toArray},toks:=t'}:=
 I.laid (λ_ _ q=>zzB _ q) (zzE _) ⟨hz,ak,0,hv,zzX _ rfl⟩
def Inv.fresh(I:Inv X aa σ H s):H (zz9 s)=none:=I.bz.fresh (zzE _)
def Inv.FY(I:Inv X aa σ H s)(hH:H l=some (.lst xs)):xs.length<=sizeLine/\∃(ak:List Value) (n:Nat),Vals xs ak/\xs.length=ak.length/\s.heap.get? l=some {cls:=.type "list",data:=.seq ak.toArray n}:=by
 obtain⟨z,ak,n,r,e⟩:=I.bz l _ hH
 exact⟨z,ak,n,r,r.length,e⟩
def zg{n:Nat}(h:n<=sizeLine):Builtin.List.listTooLong n=false:=by
 unfold Builtin.List.listTooLong;exact zz0 (by omega)
def Cu:V->List V->Hp->VK->Prop:=λx vs H Q=>∃l xs y,x=.ref l/\vs=[y]/\H l=some (.lst xs)/\xs.length<sizeLine/\Q .aA (upd H l (.lst (xs++[y])))
def mE:OR X "list.append" Cu:=by
 intro aa s σ H x vs v us Q I rx rv h;obtain⟨l,xs,y,rfl,rfl,hH,hz,q⟩:=h
 cases rx;obtain⟨u,rfl,ru⟩:=rv.one
 obtain⟨z,ak,n,r,hl,e⟩:=I.FY hH
 refine call_meets F.slot_list_append ⟨_,e,rfl⟩ F.entry_list_append (F.args_list_append_2 _ _) (PySem.list_append l ak.toArray n u (by rw [zzC];omega)) ⟨e,?_⟩;refine⟨.aA,_,I.Hz (its':=ak++[u]) hH e (by simp) (r.append (.cons ru .nil)) ?_,rfl,q⟩;rw [zzM,List.length_singleton];omega
def Eg:V->List V->Hp->VK->Prop:=λx vs H Q=>∃l xs i k y,x=.ref l/\vs=[.int i]/\H l=some (.lst xs)/\ -(2^63)<=i/\i<2^63/\seqIndex? i xs.length=some k/\xs[k]?=some y/\Q y (upd H l (.lst (xs.eraseIdx k)))
def xl:OR X "list.pop" Eg:=by
 intro aa s σ H x vs v us Q I rx rv h;obtain⟨l,xs,i,k,y,rfl,rfl,hH,h1,h2,hk,hy,q⟩:=h
 cases rx;obtain⟨u,rfl,ru⟩:=rv.one
 obtain⟨t,rfl⟩:=ru
 obtain⟨z,ak,n,r,hl,e⟩:=I.FY hH
 obtain⟨w,hw,ix⟩:=r.get hy
 refine call_meets F.slot_list_pop ⟨_,e,rfl⟩ F.entry_list_pop (F.args_list_pop_2 _ _)
  (MeetsSeq.list_pop_at l ak.toArray n i t k w (fitsIndex_both h1 h2) (by rw [zzC,<-hl];exact hk) (by rw [<-Array.getElem?_toList];exact hw) (by rw [zzC];omega)) ⟨e,?_⟩
 refine⟨y,_,I.Hz (its':=ak.eraseIdx k) hH e ?_ (r.eraseIdx k) ?_,ix,q⟩
 ·show ak.toArray.eraseIdxIfInBounds k=(ak.eraseIdx k).toArray
  rw [List.eraseIdxIfInBounds_toArray]
 ·have:=mS xs k
  omega
end
end L2
namespace Att
open PySem PySem.W PySem.Calls PyProof.Rows
def je{P:Params}{h:Heap}:∀(ns:List Int) (vs:List Value),WellAll P h vs (ns.map WData.int)->IntsAre vs ns:=by
 intro ns
 induction ns with
 |nil=>
  intro vs w;rw [List.map_nil] at w;cases w;exact .nil
 |cons n ns ih=>
  intro vs w;rw [zzF] at w;cases w with
  |cons a b=>
   cases a;exact .cons _ _ (ih _ b)
def vA{l:OpenLaw}{n:Nat}(hn:l.most=some n){P:Params}{h:Heap}{args:List WData}{vals:List Value}
 (CH:l.row.toRowW.claim.pre args=true) (Nr:WellAll P h vals args):
 ∃a vs ns,vals=[Value.ref a]/\args=[WData.list (ns.map WData.int)]/\h.get? a=some {cls:=.type "list",data:=.seq vs.toArray}/\IntsAre vs ns/\ns.length<=n:=by
 have Rf:WShape.hasAll [] args [.list .int]=true:=(pre_splitW CH).1
 have hc:l.pre.holds [] {args:=args}=true:=(pre_splitW CH).2
 obtain⟨d,r,rfl,h1,h2⟩:=hasAllW_cons Rf
 obtain rfl:=hasAllW_nil h2
 obtain⟨xs,rfl,h3⟩:=hasW_list h1
 obtain⟨ns,rfl⟩:=items_int h3
 have hlen:ns.length<=n:=by
  unfold OpenLaw.pre at hc;have h4:(WTm.not (.lt (.lit (.int (n:Int))) (.len (.arg 0)))).holds [] {args:=[.list (ns.map .int)]}=true:=by
   have h4:=(holds_andW hc).1
   rw [hn] at h4;exact h4
  have h5:=condW_of h4 (w_not (w_lt w_lit (w_len_list (w_arg rfl))))
  rw [zzl] at h5;refine Nat.le_of_not_lt λq=>?_
  have q':(n:Int)<((ns.length:Nat):Int):=by omega
  first
   |(rw [zzh q'] at h5;exact absurd h5 (by decide))
   |(simp at h5;omega)
 cases Nr with
 |cons w1 w2=>
  cases w2;cases w1 with
  |list ho hall=>exact⟨_,_,ns,rfl,rfl,ho,je ns _ hall,hlen⟩
theorem vK(l:OpenLaw)(args:List WData):l.row.toRowW.claim.post args (.bool true) args=true:=
 postW_of (r:=l.row.toRowW) (X:=(true==true))
  (show WShape.has [] (.bool true) .bool=true by first|rfl|decide|simp [WShape.has,WShape.arms,WShape.armsAll])
  (show(WTm.eq .res (.lit (.bool true))).value [] {args:=args,res:=some (.bool true),after:=args}=some (.bool (true==true)) from w_eq_bool (w_res rfl) w_lit) rfl
def qJ{l:OpenLaw}{n:Nat}{q:Program}{loose:List Str}{XP:(Str->Option Value)->Heap->Prop}{YP:World->Heap->Prop}{d:DefRec}
 (hn:l.most=some n) (ID:d.params.defaults=[])
 (call:∀(w:World) (s₀ s₁:Shared) (mg mb:Str->Option Value) (fa:Addr) (o:Obj) (pm cd doc:Value) (a:Addr) (vs:List Value) (ns:List Int),
  Ground q loose [] XP w s₀ mg mb s₁.heap->YP w s₁.heap->
  s₁.heap.get? fa=some o->o.data=.func (docDef d.name d.params d.body d.scope pm cd doc)->s₁.heap.CodeRec cd d.name->mg d.name=some (.ref fa)->
  s₁.heap.get? a=some {cls:=.type "list",data:=.seq vs.toArray}->IntsAre vs ns->ns.length<=n->s₁.gens=#[]->
  codeAny (model l.prog w) callerA (.call (.ref fa) ⟨[.ref a],[]⟩) (λr s'=>r=.ok (.ret (.bool true))/\OldK s₁.heap s'.heap/\s'.os=s₁.os/\AllBare s'.gens) s₁):
 WalkO q loose XP YP l.row.toRowW d [] (λf vs=>PySem.call f vs):=by
 intro w s₀ s₁ mg mb G Y fa o pm cd doc dV kV ho hd wz hD hmg hg args vals as CH hlay hrd Nr hlo;obtain rfl:dV=.none:=Dflts.none hD ID
 obtain rfl:kV=.none:=Dflts.noKw hD
 obtain⟨a,vs,ns,rfl,rfl,hobj,hints,hlen⟩:=vA hn CH Nr
 refine enter_call (codeAny_mono (call w s₀ s₁ mg mb fa o pm cd doc a vs ns G Y ho (fd_plain hd) wz hmg hobj hints hlen hg) λr s' hq=>?_)
 obtain⟨rfl,h2,h3,h4⟩:=hq
 exact⟨.inl ⟨.bool true,.bool true,[],rfl,λ_=>rfl,.bool true,vK l _,λ_=>⟨List.Pairwise.nil,λ_ hm=>(nomatch hm)⟩⟩,h2,h3,h4⟩
section
def ledger(h:Heap)(L d:Addr):List (Addr×Obj):=(List.range h.objs.size).filterMap λa=>if a=L\/a=d then none else(h.get? a).map λo=>(a,o)
end
end Att
namespace L2
open PySem PySem.Spec PyProof.Rows
theorem mK:∀{vs:List Value} {ns:List Int},IntsAre vs ns->Vals (ns.map V.int) vs
 |_,_,.nil=>.nil
 |_,_,.cons n t h=>.cons ⟨t,rfl⟩ (mK h)
noncomputable def cY(s:Stmt):Arguments:=match s with
 |.FunctionDef _ a _ _ _ _ _ _ _ _=>a
 |_=>{posonlyargs:=[],args:=[],vararg:=none,kwonlyargs:=[],kw_defaults:=[],kwarg:=none,defaults:=[]}
def cA(s:Stmt):List Stmt:=match s with
 |.FunctionDef _ _ b _ _ _ _ _ _ _=>b
 |_=>[]
def aP(s:Stmt):Scope:=match s with
 |.FunctionDef _ _ _ _ _ _ sc _ _ _=>sc
 |_=>{kind:=.function,names:=[],isGenerator:=false,isCoroutine:=false}
structure Lj(K:zz8)(x qual:Str)(st:Stmt)(f:Addr)(fd:FuncData):Prop where
 ex:∃(oc:Value) (od:Option Addr) (kV doc pm:Value) (an:Option Addr) (fq ct:Value) (rO:Array (Option Value)),
  fd=PySem.W.fnOf x qual (cY st) (cA st) (aP st) .none kV doc pm an fq ct/\K.lookup f=some ⟨oc,od,.func fd,rO⟩/\PySem.W.codeIn K fq qual=true
 kp:PySem.W.keepIn K (.ref f)=true
section
variable{K:zz8}
def Lj.binds{x qual:Str}{st:Stmt}{f:Addr}{fd:FuncData}{ps:List Str}(F:Lj K x qual st f fd)
 (h:∀(kV doc pm:Value) (an:Option Addr) (fq ct:Value) (us:List Value),us.length=ps.length->bindArgs (PySem.W.fnOf x qual (cY st) (cA st) (aP st) .none kV doc pm an fq ct) ⟨us,[]⟩=pure (ps.zip us)):Binds K fd ps []:=by
 obtain⟨oc,od,kV,doc,pm,an,fq,ct,rO,rfl,lk,wz⟩:=F.ex
 exact .all (h kV doc pm an fq ct)
def xN{x qual:Str}{st:Stmt}{f:Addr}{oc:Value}{od an:Option Addr}{rO:Array (Option Value)}{kV doc pm fq ct:Value}(l:K.lookup f=some ⟨oc,od,.func (PySem.W.fnOf x qual (cY st) (cA st) (aP st) .none kV doc pm an fq ct),rO⟩)
 (c:PySem.W.codeIn K fq qual=true) (k:PySem.W.keepIn K (.ref f)=true):Lj K x qual st f (PySem.W.fnOf x qual (cY st) (cA st) (aP st) .none kV doc pm an fq ct):=⟨⟨oc,od,kV,doc,pm,an,fq,ct,rO,rfl,l,c⟩,k⟩
variable{X:Cx}
theorem pv(i:Nat){x:Str}{pos:Pos}(hN:X.N[i]?=some x:=by rfl)(hv:LD X.env.scope x:=by first|exact Or.inl rfl|exact Or.inr (Or.inl rfl)|exact Or.inr (Or.inr rfl))(hd:(x==("__debug__":Str))=false:=by decide)
 (wz:(x==("__classdict__":Str))=false:=by decide):PE X (.Name x pos) (Ax i):=km hN hv hd wz
end
def MV{A B:Prop}(h:B):if false=true then A else B:=by
 rw [if_neg zzf];exact h
def L8{A B:Prop}(h:A):if true=true then A else B:=by
 rw [if_pos rfl];exact h
def ay(H H':Hp):Prop:=∀b o,H b=some o->H' b=some o
def ay.refl(H:Hp):ay H H:=λ_ _ h=>h
def ay.trans{H H1 H2:Hp}(a:ay H H1)(b:ay H1 H2):ay H H2:=λc o h=>b c o (a c o h)
def ay.free{H H':Hp}(e:ay H H'){l:Addr}(h:H' l=Option.none):H l=Option.none:=by
 cases q:H l with
 |none=>rfl
 |some o=>
  rw [e l o q] at h;cases h
def ay.seq{K:zz8}{H H':Hp}{a:Addr}{xs:List V}(e:ay H H')(h:dw K H a xs):dw K H' a xs:=by
 rcases h with(h|⟨o,h⟩)|h
 ·exact .inl (.inl (e _ _ h))
 ·exact .inl (.inr ⟨o,e _ _ h⟩)
 ·exact .inr h
end L2
set_option maxHeartbeats 8000000
namespace L2
open PySem PySem.Spec PyProof.Rows
open PySem.W (hideAll hideAll_get of_hideAll funFrames_hide)
structure H8(P:Program)(w:World)(outer:List Env)(H:Hp)(s:Shared)(E:XK)(a C t:Addr)(vs:List Value)(H':Hp)(B:Heap)(s':Shared):Prop where
 os:s'.os=s.os
 bare:AllBare s'.gens
 bz:gG P w H' B
 KY:Heap.FlyingW B outer a (.ref C) (.ref t) s'.heap
 tn:B.get? t=none
 tup:s'.heap.TupAt t vs
 iY:∀b o,s.heap.get? b=some o->H b=none->b∉hX outer->B.get? b=some o
 fK:∀b o,s.heap.get? b=some o->b∉hX outer->∃o',B.get? b=some o'
 un:Un (hX outer) [] H H' s.heap s'.heap
 ends:E (.ref C) (some a) H'
def gk(P:Program)(w:World):v5:=λouter H s E e s'=>∃a C t vs H' B,e=.ref a/\H8 P w outer H s E a C t vs H' B s'
section
variable{P:Program}{w:World}{K:zz8}{mg:Str->Option Value}{base:Heap}{N:List Str}{qual:Str}{scope:Scope}{f:Addr}{cd:Value}{A:Around}{outer:List Env}{s0:Shared}{H0:Hp}{E:XK}
def ou{X:Cx}{aa:List (Addr×Obj)}{σ:St}{H:Hp}{s:Shared}(I:Inv X aa σ H s){b:Addr}{o:Obj}(hl:X.env.locals=X.s₀.heap.objs.size)(q:X.s₀.heap.get? b=some o)(hb:b∉X.fs):b∉hX X.stack:=λz=>by
 rcases zzm.mp (I.lj b z) with e|e
 ·rw [hl] at e;exact absurd (zzO q) (by rw [e];exact Nat.lt_irrefl _)
 ·exact hb e
def JW:Passes (gk P w) (dB (gk P w) P w K mg base N qual scope f cd A outer s0 H0 E) E:=by
 rintro aa σ H s e s' I ⟨a,C,t,vs,H',B,rfl,F⟩
 have nx:∀b:Addr,b∉(dB (gk P w) P w K mg base N qual scope f cd A outer s0 H0 E).ex:=λb z=>nomatch (show b∈([]:List Addr) from z)
 have iY:∀b o,s0.heap.get? b=some o->H0 b=none->b∉hX outer->B.get? b=some o:=λb o q n hb=>
  F.iY b o (I.base.keep b o q n hb (nx b)) (I.base.free b o q n (nx b)) (ou I rfl q hb)
 have fK:∀b o,s0.heap.get? b=some o->b∉hX outer->∃o',B.get? b=some o':=λb o q hb=>by
  obtain⟨o1,q1⟩:=I.base.there b o q (nx b)
  exact F.fK b o1 q1 (ou I rfl q hb)
 refine wpAny_leaves_onW I.ok.frames rfl F.KY λh' x1 x2=>⟨a,C,t,vs,H',B,rfl,?_⟩
 have slot:∀b o,s0.heap.get? b=some o->H0 b=none->b∈hX outer->∃sl,h'.get? b=some {o with slots:=sl}:=λb o q n hb=>by
  obtain⟨sl,q1⟩:=I.base.slot b o q n hb (nx b)
  obtain⟨sl2,q2⟩:=F.un.any q1 (I.base.free b o q n (nx b)) (λz=>nomatch z)
  obtain⟨_,o',q3,hd⟩:=F.KY.2.2.1.mem (b:=b) (zz1.mpr (let⟨v,h1,h2⟩:=zz1.mp hb;⟨v,.tail _ h1,h2⟩))
  rw [q2] at q3;cases q3;obtain⟨sl3,q4⟩:=x2 b _ q2 hd
  exact⟨sl3,q4⟩
 refine⟨F.os.trans I.os,F.bare,F.bz,x1,F.tn,F.tup.of_slots x2,iY,fK,⟨λb o q n hb _=>x1.1 _ _ (iY b o q n hb),λb o q n hb _=>slot b o q n hb,λb o q n _=>?_,λb o q _=>?_,λb xs q=>F.un.jf _ _ (I.base.jf _ _ q),λb o u q=>F.un.iL _ _ _ (I.base.iL _ _ _ q),λb ps q=>?_⟩,F.ends⟩
 ·obtain⟨sl,q1⟩:=I.base.any q n (nx b)
  exact F.un.free b _ q1 (I.base.free b o q n (nx b)) (λz=>nomatch z)
 ·by_cases hb:b∈hX outer
  ·obtain⟨sl,q1⟩:=slot b o q (I.ok.E7 b hb) hb
   exact⟨_,q1⟩
  ·obtain⟨o',q1⟩:=fK b o q hb
   exact⟨o',x1.1 _ _ q1⟩
 ·obtain⟨m1,q1⟩:=I.base.iC b ps q
  obtain⟨m2,q2⟩:=F.un.iC b _ q1
  exact⟨m1++m2,by rw [<-Array.append_assoc];exact q2⟩
def EZ{aa:List (Addr×Obj)}{σ:St}{H:Hp}{s:Shared}{h1:Heap}{e C:Addr}{us:List Value}(I:Inv (dB (gk P w) P w K mg base N qual scope f cd A outer s0 H0 E) aa σ H s)
 (hx:Heap.MadeExcOf s.heap h1 e (.ref C) us) (hE:E (.ref C) (some e) H):(dB (gk P w) P w K mg base N qual scope f cd A outer s0 H0 E).xe (.ref e) {s with heap:=h1}:=by
 have nx:∀b:Addr,b∉(dB (gk P w) P w K mg base N qual scope f cd A outer s0 H0 E).ex:=λb z=>nomatch (show b∈([]:List Addr) from z)
 have Ow:∀env∈(dB (gk P w) P w K mg base N qual scope f cd A outer s0 H0 E).stack,∀b,env.frame=some b->b∈hX (dB (gk P w) P w K mg base N qual scope f cd A outer s0 H0 E).stack:=λenv he b hb=>zz1.mpr ⟨env,he,hb⟩
 refine wpAny_leaves_madeW (h:=s.heap) I.ok.frames rfl (λb o q=>of_hideAll _ q) (funFrames_hide I.stack Ow) hx λh' t x1 x2 x3 x4=>⟨e,C,t,us,H,hideAll s.heap (hX (dB (gk P w) P w K mg base N qual scope f cd A outer s0 H0 E).stack),rfl,?_⟩
 have iY:∀b o,s0.heap.get? b=some o->H0 b=none->b∉hX outer->(hideAll s.heap (hX (dB (gk P w) P w K mg base N qual scope f cd A outer s0 H0 E).stack)).get? b=some o:=λb o q n hb=>
  hideAll_get _ (I.base.keep b o q n hb (nx b)) (ou I rfl q hb)
 have fK:∀b o,s0.heap.get? b=some o->b∉hX outer->∃o',(hideAll s.heap (hX (dB (gk P w) P w K mg base N qual scope f cd A outer s0 H0 E).stack)).get? b=some o':=λb o q hb=>by
  obtain⟨o1,q1⟩:=I.base.there b o q (nx b)
  exact⟨o1,hideAll_get _ q1 (ou I rfl q hb)⟩
 have slot:∀b o,s0.heap.get? b=some o->H0 b=none->b∈hX outer->∃sl,h'.get? b=some {o with slots:=sl}:=λb o q n hb=>by
  obtain⟨sl,q1⟩:=I.base.slot b o q n hb (nx b)
  obtain⟨_,o',q3,hd⟩:=I.stack.mem (b:=b) (zz1.mpr (let⟨v,h1,h2⟩:=zz1.mp hb;⟨v,.tail _ h1,h2⟩))
  rw [q1] at q3;cases q3;obtain⟨sl3,q4⟩:=x4 b _ (hx.keeps _ _ q1) hd
  exact⟨sl3,q4⟩
 refine⟨I.os,I.bare,λb o q=>?_,x1,x3,x2,iY,fK,⟨λb o q n hb _=>x1.1 _ _ (iY b o q n hb),λb o q n hb _=>slot b o q n hb,λb o q n _=>I.base.free b o q n (nx b),λb o q _=>?_,I.base.jf,I.base.iL,I.base.iC⟩,hE⟩
 ·refine(I.bz b o q).fY (λc v hc r=>hideAll_get _ r λz=>?_) (λ_ q=>q) λ_ _ q=>q
  have z':=I.nP c z
  rcases hc with rfl|hc
  ·rw [q] at z';cases z'
  ·rw [hc] at z';cases z'
 ·by_cases hb:b∈hX outer
  ·obtain⟨sl,q1⟩:=slot b o q (I.ok.E7 b hb) hb
   exact⟨_,q1⟩
  ·obtain⟨o',q1⟩:=fK b o q hb
   exact⟨o',x1.1 _ _ q1⟩
end
def iU{P:Program}{w:World}{H:Hp}{h:Heap}{a:Addr}{o:HO}(x:bU P w H h a o):∃o',h.get? a=some o':=by
 cases o with
 |lst xs=>obtain⟨_,_,_,_,e⟩:=x;exact⟨_,e⟩
 |tup xs=>obtain⟨_,_,_,o,e,_⟩:=x;exact⟨_,e⟩
 |dK az=>obtain⟨_,_,_,_,o,_,_,e,_⟩:=x;exact⟨_,e⟩
 |dT az=>obtain⟨_,_,_,_,o,_,_,e,_⟩:=x;exact⟨_,e⟩
 |set S n=>obtain⟨o,_,_,_,e,_⟩:=x;exact⟨_,e⟩
 |ins C dx fs=>obtain⟨_,_,_,e,_⟩:=x;exact⟨_,e⟩
 |own y=>exact x
 |xd fs=>obtain⟨_,⟨_,_,_,e,_⟩,_⟩:=x;exact⟨_,e⟩
 |jj lo hi=>obtain⟨_,_,_,e⟩:=x;exact⟨_,e⟩
 |cU ob u=>obtain⟨e,_⟩:=x;exact⟨_,e⟩
 |gf ps=>exact⟨_,x⟩
 |met f y=>exact⟨_,x⟩
 |ext φ=>exact x.2.1
def Gw(C:Addr)(E:XK)(ta:TA):TS:=λ_ σ H=>ta σ H λvs H1=>vs.length<=sizeLine/\∀e,H1 e=none->E (.ref C) (some e) H1
section
variable{P:Program}{w:World}{K:zz8}{mg:Str->Option Value}{base:Heap}{N:List Str}{qual:Str}{scope:Scope}{f:Addr}{cd:Value}{A:Around}{outer:List Env}{s0:Shared}{H0:Hp}{E:XK}
theorem xX{x:Str}{C:Addr}{Bn newId Eu:String}{bm:List Value}{e₀:Expr}{rest:List Expr}{np b8 pos:Pos}{ta:TA}(hg:Gl (dB (gk P w) P w K mg base N qual scope f cd A outer s0 H0 E) x)(O:OwnCls x C bm newId mg base)(FB:ExcBaseFacts Bn newId Eu bm)
 (ha:PA (dB (gk P w) P w K mg base N qual scope f cd A outer s0 H0 E) (e₀::rest) ta)
 (he:starEach (e₀::rest) (dB (gk P w) P w K mg base N qual scope f cd A outer s0 H0 E).env=(false,eval e₀ (dB (gk P w) P w K mg base N qual scope f cd A outer s0 H0 E).env)::starEach rest (dB (gk P w) P w K mg base N qual scope f cd A outer s0 H0 E).env:=by rfl)
 (se:(backTo b8 (starEach rest (dB (gk P w) P w K mg base N qual scope f cd A outer s0 H0 E).env)).any (·.1)=false:=by rfl) (hd:(x==("__debug__":Str))=false:=by decide):
 PS (dB (gk P w) P w K mg base N qual scope f cd A outer s0 H0 E) (.Raise (some (.Call (.Name x np) (e₀::rest) [] b8)) none pos) (Gw C E ta):=by
 intro aa s σ H D I h;obtain⟨tl,Nn,nm,q,bs,hdct,sn,sub,ab,col,dd,k0,k1,k2,k3,k5,mN,hC,hN,hni,T⟩:=O.obj
 refine wpAny_Raise_call_subT (C:=C) (nm:=nm) (q:=q) (N:=Nn) (bs:=bs) (bm:=tl) (hdct:=hdct) (sn:=sn) (sub:=sub) (ab:=ab) (col:=col) (dd:=dd) (k0:=k0) (k1:=k1) (k2:=k2) (k3:=k3) (k5:=k5)
  FB (mN:=mN) (T.hasType FB.hasBase) (I.ok.hd rfl) (by rw [he];show(false||(backTo b8 (starEach rest (dB (gk P w) P w K mg base N qual scope f cd A outer s0 H0 E).env)).any (·.1))=false;rw [se];rfl) hni (gZ I hg O.bound ⟨rfl,?_⟩ hd)
 have h2:=ha b8 aa s σ H _ I h
 rw [he] at h2⊢;refine Calls.evalArgs_plain (wpAny_mono h2 (λus s2 ⟨vs,H1,I1,rv,hl,hE⟩=>?_) λ_ _ y=>y)
 refine⟨rfl,by rw [<-rv.length];exact hl,I1.bk _ _ hC,hN.keeps I1.bk,T.keeps I1.bk,λh1 e hx=>EZ I1 hx (hE e ?_)⟩
 cases z:H1 e with
 |none=>rfl
 |some o=>
  obtain⟨o',jx⟩:∃o',s2.heap.get? e=some o':=by
   exact iU (I1.bz _ _ z)
  rw [hx.new] at jx;cases jx
end
def M3(a C:Addr):HO:=.ext λh=>∃ob vs,h.get? a=some ob/\ob.cls=.ref C/\ob.data=.fields vs
section
variable{P:Program}{w:World}
def H8.fresh{outer:List Env}{H:Hp}{s s':Shared}{E:XK}{a C t:Addr}{vs:List Value}{H':Hp}{B:Heap}(F:H8 P w outer H s E a C t vs H' B s'):H' a=none:=by
 cases z:H' a with
 |none=>rfl
 |some o=>
  obtain⟨o',jx⟩:=iU (F.bz _ _ z)
  rw [F.KY.2.1] at jx;cases jx
end
def cu(env:Env)(ys:List Str):List (Str×Addr):=ys.map λy=>(y,(env.cells.lookup y).getD 0)
def yT(σ:St)(is:List Nat):St:=is.map λi=>(σ[i]?).join
def kU(scope:Scope)(x:Str):Bool:=scope.names.lookup x==some .cell
theorem sf{x:Str}{c:Addr}:∀(names:List (Str×NameKind)) (n:Nat) (acc:List (Str×Addr)),(x,c)∈cellsFrom n names acc->(x,c)∈acc\/(x,NameKind.cell)∈names/\n<=c
 |[],n,acc,h=>by rw [cellsFrom.eq_def] at h;exact .inl h
 | (y,k)::r,n,acc,h=>by
  rw [cellsFrom.eq_def] at h;dsimp only at h;split at h
  ·rename_i hk;cases eq_of_beq hk;rcases sf r (n+1) _ h with z|⟨z1,z2⟩
   ·rcases zzm.mp z with z|z
    ·cases z;exact .inr ⟨zzP ..,zzE _⟩
    ·exact .inl z
   ·exact .inr ⟨zzI _ z1,Nat.le_of_succ_le z2⟩
  ·rcases sf r n _ h with z|⟨z1,z2⟩
   ·exact .inl z
   ·exact .inr ⟨zzI _ z1,z2⟩
theorem oZ{x:Str}{c:Addr}:∀(names:List (Str×NameKind)) (n:Nat) (acc:List (Str×Addr)),(cellsFrom n names acc).lookup x=some c->acc.lookup x=some c\/(x,NameKind.cell)∈names/\n<=c
 |[],n,acc,h=>by rw [cellsFrom.eq_def] at h;exact .inl h
 | (y,k)::r,n,acc,h=>by
  rw [cellsFrom.eq_def] at h;dsimp only at h;split at h
  ·rename_i hk;cases eq_of_beq hk;rcases oZ r (n+1) _ h with z|⟨z1,z2⟩
   ·rw [zz5] at z;cases e:x==y with
    |true=>rw [e] at z;cases z;cases eq_of_beq e;exact .inr ⟨zzP ..,zzE _⟩
    |false=>rw [e] at z;exact .inl z
   ·exact .inr ⟨zzI _ z1,Nat.le_of_succ_le z2⟩
  ·rcases oZ r n _ h with z|⟨z1,z2⟩
   ·exact .inl z
   ·exact .inr ⟨zzI _ z1,z2⟩
theorem oJ{x:Str}:∀(names:List (Str×NameKind)) (n:Nat) (acc:List (Str×Addr)),(x,NameKind.cell)∉names->(cellsFrom n names acc).lookup x=acc.lookup x
 |[],n,acc,_=>by rw [cellsFrom.eq_def]
 |(y,k)::r,n,acc,h=>by
  rw [cellsFrom.eq_def];dsimp only;have hr:(x,NameKind.cell)∉r:=λz=>h (zzI _ z)
  split
  ·rename_i hk;cases eq_of_beq hk;rw [oJ r (n+1) _ hr,zz5];cases e:x==y with
   |true=>cases eq_of_beq e;exact absurd (zzP ..) h
   |false=>rfl
  ·exact oJ r n acc hr
theorem EL{x:Str}{c:Addr}:∀(names:List (Str×NameKind)) (n:Nat) (acc:List (Str×Addr)),(x,c)∈cellsFrom n names acc->(∀p∈acc,p.2≠c)->(x,c)∈cellsFrom n names []
 |names,n,acc,h,ha=>by
  have key:∀(names:List (Str×NameKind)) (n:Nat) (acc b:List (Str×Addr)),(x,c)∈cellsFrom n names (b++acc)->(∀p∈acc,p.2≠c)->(x,c)∈cellsFrom n names b:=by
   intro names
   induction names with
   |nil=>
    intro n acc b h ha;rw [cellsFrom.eq_def] at h⊢;rcases List.mem_append.mp h with z|z
    ·exact z
    ·exact absurd rfl (ha _ z)
   |cons y r ih=>
    intro n acc b h ha;obtain⟨y,k⟩:=y
    rw [cellsFrom.eq_def] at h⊢;dsimp only at h⊢;split at h
    ·rename_i hk;rw [if_pos hk];exact ih (n+1) acc ((y,n)::b) h ha
    ·rename_i hk;rw [if_neg hk];exact ih n acc b h ha
  exact key names n acc [] h ha
theorem nF{x y:Str}{c:Addr}:∀(names:List (Str×NameKind)) (n:Nat) (acc:List (Str×Addr)),(∀p∈acc,p.2<n)->n<=c->(x,c)∈cellsFrom n names acc->(y,c)∈cellsFrom n names acc->x=y
 |[],n,acc,ha,hc,h1,h2=>by
  rw [cellsFrom.eq_def] at h1;exact absurd (ha _ h1) (Nat.not_lt.mpr hc)
 | (z,k)::r,n,acc,ha,hc,h1,h2=>by
  rw [cellsFrom.eq_def] at h1 h2;dsimp only at h1 h2;split at h1
  ·rename_i hk;rw [if_pos hk] at h2;have ha':∀p∈(z,n)::acc,p.2<n+1:=λp hp=>by
    rcases zzm.mp hp with q|q
    ·rw [q];exact Nat.lt_succ_self _
    ·exact Nat.lt_succ_of_lt (ha p q)
   by_cases hn:n+1<=c
   ·exact nF r (n+1) _ ha' hn h1 h2
   ·have one:∀{w:Str},(w,c)∈cellsFrom (n+1) r ((z,n)::acc)->w=z:=λ{w} h=>by
     rcases sf r (n+1) _ h with q|q
     ·rcases zzm.mp q with q|q
      ·cases q;rfl
      ·exact absurd (ha _ q) (Nat.not_lt.mpr hc)
     ·exact absurd q.2 hn
    rw [one h1,one h2]
  ·rename_i hk;rw [if_neg hk] at h2;exact nF r n acc ha hc h1 h2
def rN{M:Model}{A:Around}{E:Value->Shared->Prop}{s:Shared}{scope:Scope}{g:Addr}{cl:List (Str×Addr)}{qual:Str}{around:Env}{Q:Env->Shared->Prop}
 (h:Q (newEnv scope (zz9 s) g (cellsFrom ((zz9 s)+1) scope.names cl) qual none .none (some around) builtinsNs) {s with heap:=pushCells (s.heap.push {cls:=.type "dict",data:=.dict #[]}) scope.names}):
 wpAny M A (newFunctionEnv scope g cl [] qual none .none (some around)) Q E s:=by
 unfold newFunctionEnv;refine zzA (wpAny_alloc ?_);refine zzA (wpAny_forIn_list _ (λrest b s'=>s'={s with heap:=s'.heap}/\pushCells s'.heap rest=pushCells (s.heap.push {cls:=.type "dict",data:=.dict #[]}) scope.names/\cellsFrom (zz9 s') rest b=cellsFrom ((zz9 s)+1) scope.names cl) _ (λx rest b s' hI=>?_) (λb s' hI=>?_) scope.names cl ⟨rfl,rfl,by rw [Heap.size_push]⟩)
 ·obtain⟨h1,h2,h3⟩:=hI
  obtain⟨nm,k⟩:=x
  rw [pushCells.eq_def] at h2;rw [cellsFrom.eq_def] at h3;dsimp only at h2 h3⊢;split
  ·rename_i hk;rw [if_pos hk] at h2 h3;refine zzA (wpAny_alloc (zzG ⟨by rw [h1],h2,?_⟩));dsimp only;rw [Heap.size_push];exact h3
  ·rename_i hk;rw [if_neg hk] at h2 h3;exact zzG ⟨h1,h2,h3⟩
 ·obtain⟨h1,h2,h3⟩:=hI
  rw [pushCells.eq_def] at h2;rw [cellsFrom.eq_def] at h3;dsimp only at h2 h3;subst h3;rw [h1,h2];exact zzA (zzG (zzG h))
noncomputable def bP(X:Cx)(N':List Str)(scope:Scope)(cl:List (Str×Addr))(fp:List Addr)(s₁:Shared)(H₁:Hp)(C:Addr):Cx where
 prog:=X.prog
 w:=X.w
 K:=X.K
 mg:=X.mg
 base:=X.base
 A:=X.A
 N:=N'
 s₀:=s₁
 H₀:=H₁
 env:=compEnvC scope (cellsFrom (C+1) scope.names cl) C X.env
 outer:=X.stack
 stack:=X.stack
 ex:=fp
 fn:=kU scope
 calm:=true
 pn:=[]
 xe:=λ_ _=>False
theorem fI{env:Env}:∀{ys:List Str},(ys.all λy=>(env.cells.lookup y).isSome)=true->∀(x:Str) (c:Addr),(cu env ys).lookup x=some c->env.cells.lookup x=some c
 |[],_,_,_,h=>by simp [cu] at h
 |y::ys,ha,x,c,h=>by
  rw [List.all_cons,zza] at ha;have ih:=fI (env:=env) ha.2 x c
  unfold cu at h ih;rw [zzF,zz5] at h;cases e:x==y with
  |true=>
   rw [e] at h;have QS:x=y:=zzy.mp e
   subst QS;obtain⟨c',pg⟩:=zzp.mp ha.1
   rw [pg] at h⊢;exact h
  |false=>
   rw [e] at h;exact ih h
theorem kF{env:Env}:∀{ys:List Str} {x:Str},x∈ys->∃c,(cu env ys).lookup x=some c
 |[],_,h=>nomatch h
 |y::ys,x,h=>by
  unfold cu;rw [zzF,zz5];cases e:x==y with
  |true=>exact⟨_,rfl⟩
  |false=>
   have hx:x∈ys:=by
    rcases zzm.mp h with z|z
    ·rw [z] at e;simp at e
    ·exact z
   exact kF (env:=env) hx
def i4{scope:Scope}{env:Env}{x:Str}{k:NameKind}(h:(relabel scope env).names.lookup x=some k)(hk:k=.cell\/k=.free):∃k',(x,k')∈scope.names/\(k'=.cell\/k'=.free):=by
 have hm:=PySem.mem_of_lookup h
 unfold relabel at hm;obtain⟨⟨n,k0⟩,h0,e⟩:=zzx.mp hm
 dsimp only at e;split at e
 ·rename_i hc;cases e;refine⟨k0,h0,.inr ?_⟩;rw [zza,zza] at hc;exact zzy.mp hc.1.1
 ·cases e;exact⟨k,h0,hk⟩
structure ee(X:Cx)(scope:Scope)(xs ys:List Str)(is:List Nat):Prop where
 kind:scope.kind=.function
 Nv:closureFor scope X.env=pure (cu X.env ys)
 cells:(ys.all λy=>(X.env.cells.lookup y).isSome)=true
 JO:(scope.names.all λy=>(decide (y.2≠.cell)||!ys.contains y.1)&&(decide (y.2≠.free)||ys.contains y.1))=true
 own:(scope.names.all λy=>decide (y.2≠.cell)||decide (scope.names.lookup y.1=some .cell))=true
 names:(scope.names.all λy=>decide (y.2≠.local)||decide (scope.names.lookup y.1=some .local))=true
 slots:is.map (λi=>X.N[i]?)=ys.map some
 kX:(ys.all λy=>decide (X.env.kindOf y=some .cell))=true
 kY:(ys.all λy=>decide ((relabel scope X.env).names.lookup y=some .cell))=true
section
variable{X:Cx}{aa:List (Addr×Obj)}{σ:St}{H:Hp}{s:Shared}{scope:Scope}{xs ys:List Str}{is:List Nat}
def ee.jd(S:ee X scope xs ys is){x:Str}(h:(x,NameKind.cell)∈scope.names):scope.names.lookup x=some .cell/\x∉ys:=by
 have q:=zzT.mp S.own _ h
 have c:=zzT.mp S.JO _ h
 rw [zza,zzt] at c;rw [zzt] at q;refine⟨zzY (q.resolve_left λz=>zzY z rfl),λhy=>?_⟩
 rcases c.1 with z|z
 ·exact zzY z rfl
 ·rw [zzn.mpr hy] at z;cases z
def fH(I:Inv X aa σ H s)(S:ee X scope xs ys is){C:Addr}(hC:(zz9 s)<=C){x:Str}{c:Addr}(h:(cellsFrom (C+1) scope.names (cu X.env ys)).lookup x=some c):
 (X.env.cells.lookup x=some c/\c<(zz9 s)/\x∈ys)\/((x,NameKind.cell)∈scope.names/\C+1<=c):=by
 rcases oZ _ _ _ h with z|z
 ·have e:=fI S.cells x c z
  obtain⟨v,q⟩:=I.cell x c e
  refine .inl ⟨e,q.lt,?_⟩;have hm:=PySem.mem_of_lookup z
  unfold cu at hm;obtain⟨y,hy,e2⟩:=zzx.mp hm
  cases e2;exact hy
 ·exact .inr z
def u4(I:Inv X aa σ H s)(hc:X.calm=true)(S:ee X scope xs ys is){N':List Str}{fp:List Addr}{C:Addr}(hC:(zz9 s)<=C)(hf:∀b∈fp,fV X aa H b)(Hy:∀b∈fp,b<(zz9 s)):
 (bP X N' scope (cu X.env ys) fp s H C).Ok where
 mod:=I.ok.mod
 kind:=S.kind
 glob:=I.ok.glob
 blt:=I.ok.blt
 above:=hC
 inj:=λx y c h1 h2=>by
  rcases fH I S hC h1 with z1|z1
  ·rcases fH I S hC h2 with z2|z2
   ·exact I.ok.inj x y c z1.1 z2.1
   ·exact absurd z1.2.1 (Nat.not_lt.mpr (zzU hC (Nat.le_of_succ_le z2.2)))
  ·refine nF scope.names (C+1) (cu X.env ys) (λp hp=>?_) z1.2 (PySem.mem_of_lookup h1) (PySem.mem_of_lookup h2);unfold cu at hp;obtain⟨y,hy,rfl⟩:=zzx.mp hp
   obtain⟨c',pg⟩:=zzp.mp (zzT.mp S.cells y hy)
   obtain⟨v,q⟩:=I.cell y c' pg
   dsimp only;rw [pg];exact Nat.lt_succ_of_le (zzU (Nat.le_of_lt q.lt) hC)
 has:=λx hx=>by
  have qO:(relabel scope X.env).names.lookup x=some .cell\/(relabel scope X.env).names.lookup x=some .free:=hx
  have:∃k',(x,k')∈scope.names/\(k'=.cell\/k'=.free):=by
   rcases qO with z|z
   ·exact i4 z (.inl rfl)
   ·exact i4 z (.inr rfl)
  obtain⟨k',hm,hk⟩:=this
  have cv:=zzT.mp S.JO _ hm
  rw [zza,zzt,zzt] at cv;rcases hk with z|z
  ·subst z;exact zzp.mp (PySem.W.cellsFrom_some _ _ _ (.inl (S.jd hm).1))
  ·rcases cv.2 with q|q
   ·exact absurd z (zzY q)
   ·refine zzp.mp (PySem.W.cellsFrom_some _ _ _ (.inr ?_));obtain⟨c,e⟩:=kF (env:=X.env) (zzn.mp q)
    rw [e];rfl
 Lk:=λx c h e=>by
  have hm:(x,NameKind.cell)∈scope.names:=PySem.mem_of_lookup (eq_of_beq h)
  rcases fH I S hC e with z|z
  ·exact absurd z.2.2 (S.jd hm).2
  ·exact zzU hC (Nat.le_of_succ_le z.2)
 hd:=λ_=>I.ok.hd hc
 frames:=I.ok.frames
 Kj:=.inl rfl
 exf:=λb hb=>⟨zzb (zzW (Hy b hb) hC),λx c h=>(fH I S hC h).elim (λz=>(hf b hb).2.2.2.2.1 x c z.1) λz q=>absurd (Hy b hb) (Nat.not_lt.mpr (q▸zzU hC (Nat.le_of_succ_le z.2)))⟩
 bs:=λb o e=>I.bs b o e
 DB:=zzU I.ok.DB I.sz
 A4:=λb o e hb=>by
  rcases(hf b hb).2.2.2.1 with z|z
  ·exact I.ok.A4 b o e z
  ·exact absurd (zzW (zzO e) (zzU I.ok.DB z)) (Nat.lt_irrefl _)
 E3:=λb hb hs=>(zzm.mp (I.lj b hs)).elim (hf b hb).2.1 (hf b hb).2.2.1
 l7:=I.stack
 E7:=λb hb=>I.nP b hb
theorem tV{N:List Str}:∀{is:List Nat} {ys:List Str},is.map (λi=>N[i]?)=ys.map some->∀(j:Nat) (y:Str) (v:V),ys[j]?=some y->(yT σ is)[j]?=some (some v)->∃i:Nat,N[i]?=some y/\σ[i]?=some (some v)
 |[],[],_,_,_,_,h,_=>by simp at h
 |[],_::_,h,_,_,_,_,_=>by simp at h
 |_::_,[],h,_,_,_,_,_=>by simp at h
 |i::is,y0::ys,h,0,y,v,h1,h2=>by
  rw [zzF,zzF] at h;have h0:=(List.cons.inj h).1
  simp! [List.getElem?_cons_zero,Option.some.injEq] at h1;subst h1;refine⟨i,h0,?_⟩;unfold yT at h2;simp! [zzF,List.getElem?_cons_zero,Option.some.injEq] at h2;exact Option.join_eq_some_iff.mp h2
 |i::is,y0::ys,h,j+1,y,v,h1,h2=>by
  rw [zzF,zzF] at h;refine tV (is:=is) (ys:=ys) (List.cons.inj h).2 j y v (by simpa using h1) ?_;unfold yT at h2⊢
  simpa using h2
abbrev lobj(ak:List Value)(n:Nat):Obj:={cls:=.type "list",data:=.seq ak.toArray n}
def vh(ak:List Value)(n:Nat)(v:Option Value):(lobj ak n).data≠.cell v:=λz=>by cases z
abbrev tests(ifs:List Expr)(env:Env):Sem Bool:=forIn ifs true λc r=>if r=true then do let ok<-isTrue c env (eval c env);pure (ForInStep.yield ok) else pure (ForInStep.yield r)
theorem oD{prog:Program}{w:World}{A:Around}{R:Result->Shared->Prop}{s:Shared}{elt target iter:Expr}{ifs:List Expr}{scope:Scope}{pos:Pos}{it acc:Value}{env:Env}(I:Nat->Shared->Prop)
 (turn:∀n s,I n s->wpAny (model prog w) A (pyNext it) (λr s₁=>match r with
  |none=>R (.ok .next) s₁
  |some v=>wpAny (model prog w) A (letOwnedTupleGo target it v) (λ_ s₁'=>wpAny (model prog w) A (assign target env v) (λ_ s₂=>
   wpAny (model prog w) A (tests ifs env) (λok s₃=>if ok=true then wpAny (model prog w) A (eval elt env) (λx s₄=>
    wpAny (model prog w) A (call (.builtin "list.append") [acc,x]) (λ_ s₅=>∃m,m<n/\I m s₅) (notedBy (model prog w) A env λe s'=>R (.error e) s') s₄) (notedBy (model prog w) A env λe s'=>R (.error e) s') s₃
    else∃m,m<n/\I m s₃) (notedBy (model prog w) A env λe s'=>R (.error e) s') s₂)
   (notedBy (model prog w) A env λe s'=>R (.error e) s') s₁') (notedBy (model prog w) A env λe s'=>R (.error e) s') s₁) (notedBy (model prog w) A env λe s'=>R (.error e) s') s)
 (n:Nat) (h:I n s):
 codeAny (model prog w) A (.compLoop (.ListComp elt [⟨target,iter,ifs,0⟩] scope pos) 0 it acc env) R s:=by
 refine codeAny_loop rfl I (λn s hI=>?_) n h;show wpAny _ A ((compTurn (.ListComp elt [⟨target,iter,ifs,0⟩] scope pos) 0 it acc env).onRaise (λx=>do noteFrame x env;theTreesLotGoes x)) _ _ s;refine wpAny_noted ?_;rw [compTurn_list];refine zzA (wpAny_standAt (zzA (wpAny_mono (turn n s hI) (λr s₁ h₁=>?_) λ_ _ h'=>h')))
 cases r with
 |none=>exact zzG h₁
 |some v=>
  refine zzA (wpAny_mono h₁ (λ_ s₁' h₁'=>?_) λ_ _ h'=>h')
  refine zzA (wpAny_mono h₁' (λ_ s₂ h₂=>zzA (wpAny_mono h₂ (λok s₃ h₃=>?_) λ_ _ h'=>h')) λ_ _ h'=>h')
  cases ok with
  |false=>exact zzG ⟨rfl,h₃⟩
  |true=>exact zzA (zzA (wpAny_mono h₃ (λx s₄ h₄=>zzA (wpAny_mono h₄ (λ_ s₅ h₅=>zzG (zzG ⟨rfl,h₅⟩)) λ_ _ h'=>h')) λ_ _ h'=>h'))
def NA(X:Cx)(ifs:List Expr)(t:TT):Prop:=
 ∀(aa:List (Addr×Obj)) (s:Shared) (σ:St) (H:Hp) (Q:Bool->Hp->Prop),Inv X aa σ H s->t σ H Q->wpAny (model X.prog X.w) X.A (tests ifs X.env) (TP X aa σ Q) X.xe s
def ux{X:Cx}:NA X [] (λ_ H q=>q true H):=λ_ _ _ H _ I h=>wpAny_tests_nil ⟨H,I,h⟩
def uk{X:Cx}{e:Expr}{t:TT}(h:PT X e t):NA X [e] t:=λaa s σ H Q I z=>wpAny_tests_one (h aa s σ H Q I z)
def J0(J:It)(k:Nat)(g:TG)(te:TE)(fs:St)(Q:VK)(H1:Hp):Prop:=∃(n:Nat) (W:Nat->List V->St->Hp->Prop),W 0 [] (List.replicate k none++fs) H1/\
 ∀i ys σ' H',W i ys σ' H'->ys.length<sizeLine/\((J.stop i H'/\∀p,H' p=none->Q (.ref p) (upd H' p (.lst ys)))\/
  (J.go i H'/\i<n/\∀x kq,J.HS i H' x kq->g x σ' kq λσ2 H2=>te σ2 H2 λy H3=>W (i+1) (ys++[y]) σ2 H3))
noncomputable def zi(wi:TI)(k:Nat)(g:TG)(te:TE)(is:List Nat):TE:=λσ H Q=>wi σ H λJ H1=>J0 J k g te (yT σ is) Q H1
def Cm(J:It)(k:Nat)(g:TG)(tt:TT)(te:TE)(fs:St)(Q:VK)(H1:Hp):Prop:=∃(n:Nat) (W:Nat->List V->St->Hp->Prop),W 0 [] (List.replicate k none++fs) H1/\
 ∀i ys σ' H',W i ys σ' H'->ys.length<sizeLine/\((J.stop i H'/\∀p,H' p=none->Q (.ref p) (upd H' p (.lst ys)))\/
  (J.go i H'/\i<n/\∀x kq,J.HS i H' x kq->g x σ' kq λσ2 H2=>tt σ2 H2 λb H3=>if b=true then te σ2 H3 (λy H4=>W (i+1) (ys++[y]) σ2 H4) else W (i+1) ys σ2 H3))
noncomputable def js(wi:TI)(k:Nat)(g:TG)(tt:TT)(te:TE)(is:List Nat):TE:=λσ H Q=>wi σ H λJ H1=>Cm J k g tt te (yT σ is) Q H1
def fN{elt tg iter:Expr}{ifs:List Expr}{pos pp:Pos}{wi:TI}{g:TG}{te:TE}{tt:TT}{use:Option (Value->Sem Unit)}{QQ:Value->Shared->Prop}{Q:VK}(hc:X.calm=true)(S:ee X scope xs ys is)(hi:PI X tg iter wi)
 (hg:∀fp s1 H1 C,PG (bP X (xs++ys) scope (cu X.env ys) fp s1 H1 C) tg g) (ht:∀fp s1 H1 C,NA (bP X (xs++ys) scope (cu X.env ys) fp s1 H1 C) ifs tt) (he:∀fp s1 H1 C,PE (bP X (xs++ys) scope (cu X.env ys) fp s1 H1 C) elt te)
 (hs:∀x,foldedSetIterable iter X.env x=pure x) (I:Inv X aa σ H s) (h:js wi xs.length g tt te is σ H Q)
 (fin:∀(D C:Addr) (s4:Shared) (H4:Hp) (m:Str->Option Value),Inv X aa σ H4 s4->s4.heap.Ns C m->fV X aa H4 C->Q (.ref D) H4->compPost (model X.prog X.w) X.A X.xe use QQ (.ref D) C (.ok .next) s4):
 wpAny (model X.prog X.w) X.A (comprehension (.ListComp elt [⟨tg,iter,ifs,0⟩] scope pos) scope X.env pp (newList []) false (eval iter X.env) use) QQ X.xe s:=by
 have EA:∀x∈scope.names,x.2=.local->scope.names.lookup x.1=some .local:=λx hx hl=>by
  have q:=zzT.mp S.names x hx
  rw [zzt] at q;rcases q with q|q
  ·exact absurd hl (zzY q)
  ·exact zzY q
 refine wpAny_comprehension_free (use:=use) (Q:=QQ) (g:=⟨tg,iter,ifs,0⟩) (gs:=[]) rfl hs S.Nv S.kind EA (bK (hi aa s σ H _ I h) λxv s0 h0=>bK h0 λLB s1 h1=>?_)
 obtain⟨it,fp,tn,J,H1,rfl,I1,T,xw,f1,n,W,w0,turn⟩:=h1
 refine wpAny_newObj_type (rN ?_);dsimp only;generalize hH2:s1.heap.push {cls:=.type "list",dict:=none,data:=.seq ([]:List Value).toArray}=G2
 generalize hh₁:pushCells (G2.push {cls:=.type "dict",data:=.dict #[]}) scope.names=h₁
 have NG:∀b o,(G2.push {cls:=.type "dict",data:=.dict #[]}).get? b=some o->h₁.get? b=some o:=λb o e=>by rw [<-hh₁];exact pushCells_keeps _ _ b o e
 have hns₁:h₁.Ns G2.objs.size λ_=>none:=(Heap.Ns.new G2 (.type "dict")).keeps NG
 have PB:G2.objs.size=(zz9 s1)+1:=by rw [<-hH2,Heap.size_push]
 have lU:(zz9 s1)<=G2.objs.size:=by rw [PB];exact Nat.le_succ _
 have Lh:(zz9 s1)≠G2.objs.size:=by rw [PB];exact zzb (Nat.lt_succ_self _)
 have old:∀b o,s1.heap.get? b=some o->h₁.get? b=some o:=λb o e=>NG b o (zzB _ (hH2▸zzB _ e))
 have oA:h₁.get? (zz9 s1)=some (lobj [] 0):=NG _ _ (zzB _ (hH2▸zzX _ rfl))
 have Hy:∀b∈fp,b<(zz9 s1):=λb hb=>by
  obtain⟨o,e,_⟩:=T.obj _ _ xw b hb
  exact zzO e
 generalize hY:bP X (xs++ys) scope (cu X.env ys) fp s1 H1 G2.objs.size=Y
 have RV:Y.Ok:=by rw [<-hY];exact u4 I1 hc S lU f1 Hy
 have Oy:∀b∈fp,(zz9 s1)≠b:=λb hb=>Ne.symm (zzb (Hy b hb))
 have MW:∀b,b∈Y.fs->b=X.env.locals\/b∈X.fs:=λb hb=>by
  rw [<-hY] at hb;exact zzm.mp (I1.lj b hb)
 have NJ:∀b∈Y.fs,b<(zz9 s1):=λb hb=>by
  rw [<-hY] at hb;obtain⟨_,o,ho,_⟩:=I1.stack.mem hb
  exact zzO ho
 have LR:(zz9 s1)∉Y.fs:=λz=>Nat.lt_irrefl _ (NJ _ z)
 have El:Y.env.locals=G2.objs.size:=by rw [<-hY];rfl
 have Lq:∀x c,Y.env.cells.lookup x=some c->(X.env.cells.lookup x=some c/\c<(zz9 s1)/\x∈ys)\/((x,NameKind.cell)∈scope.names/\G2.objs.size+1<=c):=λx c e=>by
  rw [<-hY] at e;exact fH I1 S lU e
 have RP:∀x c,Y.env.cells.lookup x=some c->G2.objs.size+1<=c->h₁.IsCell c none:=λx c e hle=>by
  rw [<-hY] at e;have hm:(x,c)∈cellsFrom (G2.objs.size+1) scope.names []:=EL scope.names _ _ (PySem.mem_of_lookup e) λp hp=>by
   unfold cu at hp;obtain⟨y,hy,rfl⟩:=zzx.mp hp
   obtain⟨c',pg⟩:=zzp.mp (zzT.mp S.cells y hy)
   obtain⟨v,q⟩:=I1.cell y c' pg
   dsimp only;rw [pg];exact zzb (zzW q.lt (zzU lU (Nat.le_of_succ_le hle)))
  have ck:=cellsFrom_ok scope.names (G2.push {cls:=.type "dict",data:=.dict #[]}) 0 [] ⟨(λ_ _ z=>nomatch z),.nil⟩ (Nat.zero_le _)
  rw [Heap.size_push,hh₁] at ck;exact(ck.empty x c hm).1
 have Rm:∀x c,Y.env.cells.lookup x=some c->c≠(zz9 s1):=λx c e=>(Lq x c e).elim (λz=>zzb z.2.1) λz=>Ne.symm (zzb (zzV lU z.2))
 have zD:Y.pn=[]:=by rw [<-hY];rfl
 have IP:Y.ex=fp:=by rw [<-hY];rfl
 have IW:Y.s₀=s1:=by rw [<-hY];rfl
 have Pe:Y.H₀=H1:=by rw [<-hY];rfl
 have Kx:Y.prog=X.prog:=by rw [<-hY];rfl
 have Jy:Y.w=X.w:=by rw [<-hY];rfl
 have Pq:Y.K=X.K:=by rw [<-hY];rfl
 have NI:Y.A=X.A:=by rw [<-hY];rfl
 have Q4:compEnvC scope (cellsFrom (G2.objs.size+1) scope.names (cu X.env ys)) G2.objs.size X.env=Y.env:=by rw [<-hY];rfl
 have Kr:Y.calm=true:=by rw [<-hY];rfl
 have Hx:Y.xe=λ_ _=>False:=by rw [<-hY];rfl
 have Ky:Y.fs=hX X.stack:=by rw [<-hY];rfl
 have Iz:∀{H':Hp} {s':Shared} {ak:List Value} {k:Nat},s'.heap.get? (zz9 s1)=some (lobj ak k)->H' (zz9 s1)=none->∀p∈[((zz9 s1),lobj ak k)],s'.heap.get? p.1=some p.2/\H' p.1=none/\p.1≠Y.env.locals/\p.1∉Y.fs/\∀v,p.2.data≠.cell v:=
  λ{H' s' ak k} e hn p hp=>by
   obtain rfl:=zzi.mp hp
   exact⟨e,hn,by rw [El];exact Lh,LR,λv=>vh ak k v⟩
 have Of:∀{H':Hp} {ak:List Value} {k:Nat},(∀b∈fp,H' b=none)->∀b∈fp,fV Y [((zz9 s1),lobj ak k)] H' b:=λ{H' ak k} hn b hb=>
  ⟨hn b hb,by rw [El];exact zzb (zzW (Hy b hb) lU),λz=>(MW b z).elim (f1 b hb).2.1 (f1 b hb).2.2.1,.inl (by rw [IP];exact hb),
   λx c e=>(Lq x c e).elim (λz=>(f1 b hb).2.2.2.2.1 x c z.1) (λz q=>absurd (Hy b hb) (Nat.not_lt.mpr (q▸zzU lU (Nat.le_of_succ_le z.2)))),λp hp=>by
    rw [zD,List.nil_append] at hp;obtain rfl:=zzi.mp hp
    exact Oy b hb⟩
 have Ju:H1 (zz9 s1)=none:=I1.bz.fresh (zzE _)
 have I2:∀tk,Inv Y [((zz9 s1),lobj [] 0)] (List.replicate xs.length none++yT σ is) H1 {s1 with heap:=h₁,toks:=tk}:=λtk=>by
  refine⟨RV,by rw [IW],I1.bare,by rw [IW,Pe];exact Un.kept old,⟨_,by rw [El];exact hns₁,λi x v e1 e2 e3=>?_⟩,λx c e=>?_,?_,λx c e=>(Lq x c e).elim (λz=>I1.iZ x c z.1) (λz=>I1.bz.fresh (zzU lU (Nat.le_of_succ_le z.2))),λp hp=>?_,by rw [Kx,Jy];exact I1.bz.kept old,?_⟩
  ·
   have MC:Y.N=xs++ys:=by rw [<-hY];rfl
   rw [MC] at e1
   by_cases cL:i<xs.length
   ·rw [zzr (by rw [List.length_replicate];exact cL),List.getElem?_replicate,if_pos cL] at e2;cases e2
   ·have MM:xs.length<=i:=Nat.not_lt.mp cL
    rw [zzs (by rw [List.length_replicate];exact MM),List.length_replicate] at e2;rw [zzs MM] at e1;obtain⟨i0,h0,h1⟩:=tV S.slots _ x v e1 e2
    have hm:x∈ys:=zzD e1
    have kx:X.env.kindOf x=some .cell:=zzY (zzT.mp S.kX x hm)
    have ky:(relabel scope X.env).names.lookup x=some .cell:=zzY (zzT.mp S.kY x hm)
    obtain⟨m,_,hl⟩:=I1.loc
    obtain⟨u,ru,lk⟩:=hl i0 x v h0 h1 (.inr (.inl kx))
    refine⟨u,ru,.inr ⟨.inl (by rw [<-hY];exact ky),?_⟩⟩;rcases lk with⟨z,_⟩|⟨_,c,hc1,hc2⟩
    ·rw [kx] at z;cases z
    ·obtain⟨c',pg⟩:=kF (env:=X.env) hm
     have JY:=fI S.cells x c' pg
     rw [hc1] at JY;cases JY;refine⟨c,by rw [<-hY];exact(oJ _ _ _ λz=>(S.jd z).2 hm).trans pg,?_⟩
     obtain⟨o,ho,hd⟩:=hc2
     exact⟨o,old _ _ ho,hd⟩
  ·rcases Lq x c e with z|z
   ·obtain⟨v,o,ho,hd⟩:=I1.cell x c z.1
    exact⟨v,o,old _ _ ho,hd⟩
   ·exact⟨none,RP x c e z.2⟩
  ·rw [El];exact I1.bz.fresh lU
  ·rw [zD,List.nil_append] at hp;exact Iz (s':={s1 with heap:=h₁,toks:=tk}) oA Ju p hp
  ·have MC:Y.N=xs++ys:=by rw [<-hY];rfl
   have hl:=congrArg List.length S.slots
   rw [zzl,zzl] at hl;rw [MC,zzM,zzM,List.length_replicate];unfold yT;rw [zzl,hl]
 have loop:∀s₃:Shared,s₃={s1 with heap:=h₁}->
  codeAny (model X.prog X.w) X.A (.compLoop (.ListComp elt [⟨tg,iter,ifs,0⟩] scope pos) 0 (.ref it) (.ref (zz9 s1)) (compEnvC scope (cellsFrom (G2.objs.size+1) scope.names (cu X.env ys)) G2.objs.size X.env))
   (compPost (model X.prog X.w) X.A X.xe use QQ (.ref (zz9 s1)) G2.objs.size) s₃:=by
  rintro s₃ rfl
  rw [Q4];refine oD (λk s'=>∃i made σ' H' ak c,Inv Y [((zz9 s1),lobj ak c)] σ' H' s'/\tn i s'.heap/\(∀b∈fp,H' b=none)/\Vals made ak/\k=n-i/\W i made σ' H') ?_ n
   ⟨0,[],_,H1,[],0,I2 _,T.keep _ _ _ xw λb _ o e=>old b o e,λb hb=>(f1 b hb).1,.nil,rfl,w0⟩
  rintro k s' ⟨i,made,σ',H',ak,c,I3,st3,fr3,rv,rfl,w3⟩
  obtain⟨hz,tw⟩:=turn i made σ' H' w3
  have pD:=I3.pin ((zz9 s1),lobj ak c) (by rw [zD];exact zzi.mpr rfl)
  rcases tw with⟨stop,hq⟩|⟨go,Ow,step⟩
  ·rw [<-NI];refine bK (T.done Y Kx Jy Pq Kr i _ s' σ' H' _ I3 (Of fr3) st3 stop) λr s4 ⟨hr,I4⟩=>?_
   subst hr;obtain⟨m,hn4,_⟩:=I4.loc
   rw [El] at hn4;have Mr:=I4.pin ((zz9 s1),lobj ak c) (by rw [zD];exact zzi.mpr rfl)
   have kp:∀b o,b≠G2.objs.size->s4.heap.get? b=some o->s4.heap.get? b=some o:=λb o hb e=>e
   have L1:∀{b o},s1.heap.get? b=some o->b≠G2.objs.size:=λ{b o} e=>zzb (zzW (zzO e) lU)
   have gj:=I4.base
   rw [IW,Pe,IP,Ky] at gj;have Mh:∀{b o},H1 b=some o->b≠(zz9 s1):=λ{b o} e=>zzb (I1.bz.lt e)
   have u:Un (hX X.stack) fp H1 (upd H' (zz9 s1) (.lst made)) s1.heap s4.heap:=by
    refine⟨λb o e n hb hx=>kp b o (L1 e) (gj.keep b o e n hb hx),λb o e n hb hx=>?_,λb o e n hx=>?_,λb o e hx=>?_,λb xs e=>?_,λb o u e=>?_,λb ps e=>?_⟩
    ·obtain⟨sl,q⟩:=gj.slot b o e n hb hx
     exact⟨sl,kp b _ (L1 e) q⟩
    ·rw [ai (zzb (zzO e))];exact gj.free b o e n hx
    ·obtain⟨o',q⟩:=gj.there b o e hx
     exact⟨o',kp b _ (L1 e) q⟩
    ·rw [ai (Mh e)];exact gj.jf b xs e
    ·rw [ai (Mh e)];exact gj.iL b o u e
    ·obtain⟨more,q⟩:=gj.iC b ps e
     exact⟨more,by rw [ai (Mh e)];exact q⟩
   have Po:H' G2.objs.size=none:=by rw [<-El];exact I4.free
   have BK:gG X.prog X.w (upd H' (zz9 s1) (.lst made)) s4.heap:=λb o e=>by
    by_cases hb:b=(zz9 s1)
    ·subst hb;rw [au] at e;cases e;exact⟨Nat.le_of_lt hz,ak,c,rv,kp _ _ Lh Mr.1⟩
    ·rw [ai hb] at e;have x4:=I4.bz b o e
     rw [Kx,Jy] at x4;have D9:∀b' u,H' b'=some u->b'≠G2.objs.size:=λb' u q z=>by rw [z,Po] at q;cases q
     have Pl:∀b' u,H' b'=some u->b'≠(zz9 s1):=λb' u q z=>by rw [z,Mr.2.1] at q;cases q
     refine x4.fY (λb' u hb' q=>kp b' u ?_ q) (λb' q=>?_) λb' xs q=>?_
     ·rcases hb' with z|z
      ·rw [z];exact D9 b o e
      ·exact D9 b' _ z
     ·rw [ai (Pl b' _ q)];exact q
     ·rw [ai (Pl b' _ q)];exact q
   have I5:Inv X aa σ (upd H' (zz9 s1) (.lst made)) s4:=I1.J7 (by show s4.os=s1.os;rw [I4.os,IW]) u BK I4.bare λb hb=>⟨(f1 b hb).2.2.2.1,(f1 b hb).2.1,(f1 b hb).2.2.2.2.1,(f1 b hb).2.2.2.2.2⟩
   dsimp only;rw [NI];exact fin (zz9 s1) G2.objs.size s4 _ m I5 hn4 (I1.kZ lU (by rw [ai (Ne.symm Lh)];exact Po)) (hq _ Mr.2.1)
  ·rw [<-NI];refine bK (T.item Y Kx Jy Pq Kr i _ s' σ' H' _ I3 (Of fr3) st3 go) λr s4 ⟨u,hr,h4⟩=>?_
   subst hr;dsimp only;refine bK h4 λ_ s5 ⟨x,H5,I5,r5,y5,st5,fr5⟩=>?_
   have Nw:=I5.pinned (Of fr5) (T.obj _ _ st5)
   have Pn:=hg fp s1 H1 G2.objs.size
   have QA:=he fp s1 H1 G2.objs.size
   have QD:=ht fp s1 H1 G2.objs.size
   rw [hY] at Pn QA QD;rw [<-Kx,<-Jy];refine wpAny_mono (Pn _ s5 σ' H5 x u _ Nw r5 (step x H5 y5)) (λ_ s6 ⟨σ6,H6,I6,q6⟩=>?_) (λ_ _ f=>by rw [Hx] at f;exact f.elim);refine wpAny_mono (QD _ s6 σ6 H6 _ I6 q6) (λokb sT ⟨HT,IT,qT⟩=>?_) (λ_ _ f=>by rw [Hx] at f;exact f.elim);have Sf:=IT.pin ((zz9 s1),lobj ak c) (zzR _ (zzc _ (zzi.mpr rfl)))
   have QK:tn (i+1) sT.heap:=T.keep _ _ _ st5 λb hb o e=>(IT.pin (b,o) (zzR _ (zzR _ (di hb e)))).1
   cases okb with
   |false=>
    refine⟨n-(i+1),by omega,i+1,made,σ6,HT,ak,c,IT.iw,QK,λb hb=>?_,rv,rfl,qT⟩
    obtain⟨o,e,d⟩:=T.obj _ _ st5 b hb
    exact(IT.pin (b,o) (zzR _ (zzR _ (di hb e)))).2.1
   |true=>
   refine wpAny_mono (QA _ sT σ6 HT _ IT qT) (λv s7 ⟨y,H7,I7,r7,q7⟩=>?_) (λ_ _ f=>by rw [Hx] at f;exact f.elim);have LU:=I7.pin ((zz9 s1),lobj ak c) (zzR _ (zzc _ (zzi.mpr rfl)))
   have e7:s7.heap.get? (zz9 s1)=some {cls:=.type "list",data:=.seq ak.toArray c}:=LU.1
   refine append_at (hsz:=by rw [zzC,<-rv.length];exact Nat.le_of_lt hz) e7 λh' uy LZ=>?_
   have I8:Inv Y [] σ6 H7 s7:=I7.ji λ_ z=>nomatch z
   have I9:Inv Y [] σ6 H7 {s7 with heap:=h'}:=I8.turned (t':=s7.toks) (it:=(zz9 s1)) (λb o hb e=>uy.extBut b o hb e) LU.2.1 (by rw [El];exact Lh) (.inr (by rw [IW];exact zzE _))
    (λx c' e=>Rm x c' e) (λp hp=>by rw [zD] at hp;cases hp)
   have eD:h'.get? (zz9 s1)=some (lobj (ak++[v]) (c+1)):=by rw [LZ,List.push_toArray]
   have QT:tn (i+1) s7.heap:=T.keep _ _ _ st5 λb hb o e=>(I7.pin (b,o) (zzR _ (zzR _ (di hb e)))).1
   refine⟨n-(i+1),by omega,i+1,made++[y],σ6,H7,ak++[v],c+1,I9.ji (Iz (s':={s7 with heap:=h'}) eD LU.2.1),T.keep _ _ _ QT λb hb o e=>uy.extBut b o (Ne.symm (Oy b hb)) e,λb hb=>?_,rv.append (.cons r7 .nil),rfl,q7⟩
   obtain⟨o,e,d⟩:=T.obj _ _ st5 b hb
   exact(I7.pin (b,o) (zzR _ (zzR _ (di hb e)))).2.1
 exact codeAny_compStart_list (loop _ rfl) (T.self _ 0 _ _ _ (T.keep _ _ _ xw λb _ o e=>old b o e) (loop _ rfl))
def Am{elt tg iter:Expr}{pos:Pos}{wi:TI}{g:TG}{te:TE}(hc:X.calm=true)(S:ee X scope xs ys is)(hi:PI X tg iter wi)
 (hg:∀fp s1 H1 C,PG (bP X (xs++ys) scope (cu X.env ys) fp s1 H1 C) tg g) (he:∀fp s1 H1 C,PE (bP X (xs++ys) scope (cu X.env ys) fp s1 H1 C) elt te)
 (hs:∀x,foldedSetIterable iter X.env x=pure x:=by intro _;rfl):
 PE X (.ListComp elt [⟨tg,iter,[],0⟩] scope pos) (zi wi xs.length g te is):=by
 intro aa s σ H Q I h;rw [eval_ListComp];exact fN (use:=none) (Q:=Q) hc S hi hg (λ_ _ _ _=>ux) he hs I h (λD C s4 H4 m I5 hn ⟨g0,g1,_,g3,g4,g5⟩ q=>⟨m,hn,λh' uy=>⟨.ref D,H4,I5.turned (t':=s4.toks) (it:=C) (λb o hb e=>uy.extBut b o hb e) g0 g1 g3 g4 g5,rfl,q⟩⟩)
def vd{elt tg iter GK:Expr}{pos:Pos}{wi:TI}{g:TG}{te:TE}{tt:TT}(hc:X.calm=true)(S:ee X scope xs ys is)(hi:PI X tg iter wi)
 (hg:∀fp s1 H1 C,PG (bP X (xs++ys) scope (cu X.env ys) fp s1 H1 C) tg g) (ht:∀fp s1 H1 C,PT (bP X (xs++ys) scope (cu X.env ys) fp s1 H1 C) GK tt) (he:∀fp s1 H1 C,PE (bP X (xs++ys) scope (cu X.env ys) fp s1 H1 C) elt te)
 (hs:∀x,foldedSetIterable iter X.env x=pure x:=by intro _;rfl):
 PE X (.ListComp elt [⟨tg,iter,[GK],0⟩] scope pos) (js wi xs.length g tt te is):=by
 intro aa s σ H Q I h;rw [eval_ListComp];exact fN (use:=none) (Q:=Q) hc S hi hg (λfp s1 H1 C=>uk (ht fp s1 H1 C)) he hs I h (λD C s4 H4 m I5 hn ⟨g0,g1,_,g3,g4,g5⟩ q=>⟨m,hn,λh' uy=>⟨.ref D,H4,I5.turned (t':=s4.toks) (it:=C) (λb o hb e=>uy.extBut b o hb e) g0 g1 g3 g4 g5,rfl,q⟩⟩)
end
def bf{H:Hp}{p:Addr}{o:HO}(h:H p=none):ay H (upd H p o):=λb u e=>by rw [ai (dr e h)];exact e
section
variable{X:Cx}
def range_all(bs:List Bool):(List.range bs.length).all (λi=>(bs[i]?).getD true)=bs.all id:=by
 rw [Bool.eq_iff_iff,zzT,zzT]
 constructor
 ·intro h b hb;obtain⟨i,hi,e⟩:=List.getElem_of_mem hb
  have q:=h i (List.mem_range.mpr hi)
  rw [zzg hi,Option.getD_some,e] at q;exact q
 ·intro h i hi;have IH:=List.mem_range.mp hi
  rw [zzg IH,Option.getD_some];exact h _ (List.getElem_mem IH)
def yX(hc:X.calm=true):bL X (.builtin "all") (λxs H Q=>∃(p:Addr) (bs:List Bool),xs=[.ref p]/\dw X.K H p (bs.map V.bl)/\Q (.bl (bs.all id)) H):=by
 intro aa s σ H xs us Q I r h;obtain⟨p,bs,rfl,hp,q⟩:=h
 obtain⟨u,rfl,ru⟩:=vals1 r
 cases ru;obtain⟨ak,rv,pl,hz⟩:=I.list hp
 have cL:p<(zz9 s):=by obtain⟨_,e,_⟩:=pl.isList;exact zzO e
 have hlen:ak.length=bs.length:=by rw [<-rv.length,zzl]
 refine call_all_walk (wpAny_pyIter_list pl.isList ?_);refine⟨(zz9 s),_,_,ak.toArray.size,_,_,λi=>(bs[i]?).getD true,rfl,Walks.list (A:=X.A.in1) (I.ok.hd hc) (zz9 s) p (zzb cL) ak.toArray,⟨⟨_,zzX _ rfl,rfl,rfl⟩,pl.isList.push _⟩,λi v s2 Q2 E2 hP hQ=>?_,λh' tk hk=>?_⟩
 ·have hv:ak[i]?=some v:=by simpa using hP
  have hi:i<bs.length:=by rw [<-hlen];exact(zzH.mp hv).1
  obtain⟨u,hu,ru⟩:=rv.get (i:=i) (x:=V.bl bs[i]) (by rw [zzQ,zzg hi];rfl)
  rw [hv] at hu;cases hu;have e:v=Value.bool bs[i]:=ru
  rw [e];have q2:Q2 ((bs[i]?).getD true) s2:=hQ
  rw [zzg hi,Option.getD_some] at q2;exact wpAny_truthy_bool q2
 ·rw [zzC,hlen,range_all];exact⟨.bl (bs.all id),H,I.kept λb o e=>hk b o (by simp;exact zzb (zzO e)) (zzB _ e),rfl,q⟩
def xy:fu X (compareOp .Is) (λx y H Q=>∃c d,x=.bl c/\y=.bl d/\Q (.bl (c==d)) H):=by
 intro aa s σ H x y v u Q I rx ry h;obtain⟨c,d,rfl,rfl,q⟩:=h
 cases rx;cases ry;exact is_bool (rL I q rfl)
end
end L2
namespace Cw
open PySem L2
def sgn(c:Nat):Bool:=c==35||(48<=c&&c<=57)
def RD:V->Bool
 |.str z=>decide (1<=z.cps.toList.length)&&decide (z.cps.toList.length<=12)&&z.cps.toList.all sgn
 |_=>false
def KL:V->Nat
 |.str z=>z.cps.toList.length
 |_=>0
section
variable{K:zz8}
abbrev zM(K:zz8)(t n:String)(b:Bool):Prop:=PySem.W.kitOne K (.type t) (.type n)=some b
def yQ{K:zz8}(t:String):zM K t t true:=by unfold zM PySem.W.kitOne;rw [if_pos (by simp)]
def xU{t n:String}{b:Bool}(h0:(Value.type t==Value.type n)=false)(h1:PySem.W.kitMeta n=true)(h2:(fastBuiltinMro t).map (·.contains (Value.type n))=some b):zM K t n b:=by
 unfold zM PySem.W.kitOne;rw [if_neg (by rw [h0];exact zzf)];show(if PySem.W.kitMeta n=true then PySem.W.subIn K (.type t) (.type n) else none)=some b
 rw [if_pos h1];exact h2
end
abbrev Oo:Str:="#0123456789"
end Cw
namespace L2
open PySem PySem.Spec PyProof.Rows
structure EJ(K:zz8)(C:Addr):Prop where
 ga:PySem.W.findIn K (.ref C) "__getattribute__"=some (some (.builtin "BaseException.__getattribute__"))
 hk:PySem.W.findIn K (.ref C) "__getattr__"=some none
 cl:PySem.W.findIn K (.ref C) "__class__"=some (some (.builtin "object.__class__"))
 mo:PySem.W.mroIn K C (.type "object")=some true
 mb:PySem.W.mroIn K C (.type "BaseException")=some true
 is:(PySem.W.clsIn K C).isSome=true
open PySem.AutoSeq1 (wpAny_loadPart')
end L2
namespace Cw
open PySem L2
end Cw
namespace L2
open PySem PySem.Spec PyProof.Rows
section
variable{X:Cx}
def nN:bL X (.type "int") (λxs H Q=>∃z n,xs=[.str z]/\PySem.intText? z=some n/\z.length<=640/\Q (.int n) H):=by
 intro aa s σ H xs us Q I r h;obtain⟨z,n,rfl,h1,h2,q⟩:=h
 obtain⟨u,rfl,t,rfl⟩:=vals1 r
 exact PySem.W.KIN.call_text h1 h2 ⟨.int n,H,I.tok _,⟨_,rfl⟩,q⟩
end
end L2
namespace Cw
open PySem L2
end Cw
namespace L2
open PySem PySem.Spec PyProof.Rows
theorem nr{α β:Type}{R:α->β->Prop}:∀{xs:List α} {ys:List β},Paired R xs ys->∀{i:Nat} {x:α},xs[i]?=some x->∃y,ys[i]?=some y/\R x y
 |_,_,.nil,_,_,h=>by simp at h
 |_,_,.cons r t,0,x,h=>by simp at h;subst h;exact⟨_,rfl,r⟩
 |_,_,.cons r t,i+1,x,h=>by
  obtain⟨y,h1,h2⟩:=nr t (i:=i) (x:=x) (by simpa using h)
  exact⟨y,by simpa using h1,h2⟩
theorem jY{α β:Type}{R:α->β->Prop}:∀{xs:List α} {ys:List β},Paired R xs ys->xs.length=ys.length
 |_,_,.nil=>rfl
 |_,_,.cons _ t=>by simp [jY t]
section
def ya{vs:List V}{ak:List Value}(r:Vals vs ak){j:Nat}(h:j<ak.toArray.size):∃v,vs[j]?=some v/\RelV v ak.toArray[j]:=by
 have hl:=r.length
 rw [zzC] at h;have hj:j<vs.length:=by omega
 obtain⟨u,hu,ru⟩:=r.get (i:=j) (x:=vs[j]) (zzg hj)
 rw [zzg h] at hu;cases hu;exact⟨_,zzg hj,by simpa using ru⟩
end
abbrev sM:HO:=.ext λ_=>True
def tY(Z:List (Addr×Obj))(H:Hp):Hp:=λb=>match Z.lookup b with
 |some o=>some (.cU o sM)
 |none=>H b
def fA(Z:List (Addr×Obj))(H:Hp):Hp:=λb=>match Z.lookup b with
 |some _=>none
 |none=>H b
section
variable{Z:List (Addr×Obj)}{H:Hp}{b:Addr}{o:Obj}
def Jm(e:Z.lookup b=some o):tY Z H b=some (.cU o sM):=by unfold tY;rw [e]
def Il(e:Z.lookup b=none):tY Z H b=H b:=by unfold tY;rw [e]
def qg(e:Z.lookup b=some o):fA Z H b=none:=by unfold fA;rw [e]
def eB(e:Z.lookup b=none):fA Z H b=H b:=by unfold fA;rw [e]
def su{u:HO}(e:fA Z H b=some u):Z.lookup b=none/\H b=some u:=by
 cases q:Z.lookup b with
 |none=>rw [eB q] at e;exact⟨rfl,e⟩
 |some o=>rw [qg q] at e;cases e
def rk(h:H b=none):fA Z H b=none:=by
 cases q:Z.lookup b with
 |none=>rw [eB q];exact h
 |some o=>exact qg q
structure RZ(Z:List (Addr×Obj))(H:Hp)(fs:List Addr)(h:Heap):Prop where
 at_:∀b o,Z.lookup b=some o->h.get? b=some o
 no:∀b o,Z.lookup b=some o->H b=none
 fr:∀b o,Z.lookup b=some o->b∉fs
end
def ER(mg:Str->Option Value)(base:Heap):Prop:=∃bm o,mg "__builtins__"=some (.ref bm)/\bm≠builtinsNs/\bm≠mainGlobals/\base.get? bm=some o/\o.cls=.type "module"/\o.dict=some builtinsNs/\o.data=.plain
section
end
section
end
section
variable{a b:Expr}
end
section
end
section
variable{κ:Type} [DecidableEq κ]
def iI(az:List (κ×V))(k:κ):Option V:=(az.find? λkv=>decide (kv.1=k)).map (·.2)
def putK(az:List (κ×V))(k:κ)(v:V):List (κ×V):=
 if(az.any λkv=>decide (kv.1=k))=true then az.map (λkv=>if kv.1=k then(kv.1,v) else kv) else az++[(k,v)]
def il{p:κ×V}{r:List (κ×V)}{k:κ}(e:p.1=k):iI (p::r) k=some p.2:=by simp [iI,List.find?_cons,e]
def hV{p:κ×V}{r:List (κ×V)}{k:κ}(e:¬p.1=k):iI (p::r) k=iI r k:=by simp [iI,List.find?_cons,e]
theorem k7(k:κ):∀az:List (κ×V),(az.any λkv=>decide (kv.1=k))=(iI az k).isSome
 |[]=>rfl
 |p::r=>by
  rw [List.any_cons]
  by_cases e:p.1=k
  ·simp! [il e,zzh e,Bool.true_or,Option.isSome_some]
  ·rw [hV e,zz0 e,Bool.false_or];exact k7 k r
def d5(az:List (κ×V))(k:κ)(v:V):(putK az k v).length<=az.length+1:=by
 unfold putK;split
 ·rw [zzl];omega
 ·rw [zzM,zzL,List.length_nil];omega
def kG.eg{o:Option V}{u:Option Value}(r:kG o u):o.isSome=u.isSome:=by
 cases o with
 |none=>cases u with
  |none=>rfl
  |some _=>exact(show False from r).elim
 |some _=>cases u with
  |none=>exact(show False from r).elim
  |some _=>rfl
def kG.getD{o:Option V}{u:Option Value}{d:V}{d':Value}(r:kG o u)(rd:RelV d d'):RelV (o.getD d) (u.getD d'):=by
 cases o with
 |none=>cases u with
  |none=>exact rd
  |some _=>exact(show False from r).elim
 |some _=>cases u with
  |none=>exact(show False from r).elim
  |some _=>exact r
def KV.val{az:List (κ×V)}{vs:List (κ×Value)}(r:KV az vs)(k:κ):kG (iI az k) (valueAt vs k):=by
 unfold KV at r
 induction r with
 |nil=>exact True.intro
 |@cons p q ps qs h t ih=>
  obtain⟨h1,h2⟩:=h
  by_cases e:p.1=k
  ·have e':q.1=k:=h1.symm.trans e
   have b:valueAt (q::qs) k=some q.2:=by simp [valueAt,List.find?_cons,e']
   rw [il e,b];exact h2
  ·have e':¬q.1=k:=λz=>e (h1.trans z)
   have b:valueAt (q::qs) k=valueAt qs k:=by simp [valueAt,List.find?_cons,e']
   rw [hV e,b];exact ih
def KV.any{az:List (κ×V)}{vs:List (κ×Value)}(r:KV az vs)(k:κ):(az.any λkv=>decide (kv.1=k))=vs.any λkv=>decide (kv.1=k):=by
 unfold KV at r
 induction r with
 |nil=>rfl
 |cons h t ih=>rw [List.any_cons,List.any_cons,ih,h.1]
def KV.GN{az:List (κ×V)}{vs:List (κ×Value)}(r:KV az vs)(k:κ){y:V}{u:Value}(ry:RelV y u):
 KV (az.map λkv=>if kv.1=k then(kv.1,y) else kv) (vs.map λkv=>if kv.1=k then(kv.1,u) else kv):=by
 unfold KV at r⊢
 induction r with
 |nil=>exact .nil
 |@cons p q ps qs h t ih=>
  rw [zzF,zzF];refine .cons ?_ ih;obtain⟨h1,h2⟩:=h
  by_cases e:p.1=k
  ·rw [if_pos e,if_pos (h1.symm.trans e)];exact⟨h1,ry⟩
  ·rw [if_neg e,if_neg (λz=>e (h1.trans z))];exact⟨h1,h2⟩
def KV.put{az:List (κ×V)}{vs:List (κ×Value)}(r:KV az vs)(k:κ){y:V}{u:Value}(ry:RelV y u):KV (putK az k y) (stored vs k u):=by
 unfold putK stored;rw [r.any k]
 by_cases e:(vs.any λkv=>decide (kv.1=k))=true
 ·rw [if_pos e,if_pos e];exact r.GN k ry
 ·rw [if_neg e,if_neg e];exact Paired.snoc r ⟨rfl,ry⟩
def KV.length{az:List (κ×V)}{vs:List (κ×Value)}(r:KV az vs):az.length=vs.length:=Paired.length r
end
def qk{P:Program}{w:World}{k:Key}{u:Value}(r:RelV (kV k) u):(bF P w).is k u=true:=by
 cases k with
 |inl i=>obtain⟨t,e⟩:=(show∃t,u=Value.int i t from r);subst e;exact ql P w i t
 |inr x=>obtain⟨t,e⟩:=(show∃t,u=Value.str x t from r);subst e;exact qf P w x t
theorem mI{P:Program}{w:World}:∀{ks:List Key} {us:List Value},Vals (ks.map kV) us->ItemsAre (bF P w) ks us
 |[],_,r=>by rw [List.map_nil] at r;cases r;exact .nil
 |k::ks,_,r=>by
  rw [zzF] at r;cases r with
  |cons h t=>exact .cons (qk h) (mI t)
abbrev KT(H:Hp):List (List Key×V)->List (List Key×Addr×Value)->Prop:=Paired λp q=>p.1=q.1/\H q.2.1=some (.tup (p.1.map kV))/\RelV p.2 q.2.2
def KT.val{H:Hp}{az:List (List Key×V)}{xs:List (List Key×Addr×Value)}(r:KT H az xs)(k:List Key):kG (iI az k) ((atKey xs k).map (·.2)):=by
 induction r with
 |nil=>exact True.intro
 |@cons p q ps qs h t ih=>
  obtain⟨h1,_,h2⟩:=h
  by_cases e:p.1=k
  ·have e':q.1=k:=h1.symm.trans e
   have b:atKey (q::qs) k=some q.2:=by simp [atKey,List.find?_cons,e']
   rw [il e,b];exact h2
  ·have e':¬q.1=k:=λz=>e (h1.trans z)
   have b:atKey (q::qs) k=atKey qs k:=by simp [atKey,List.find?_cons,e']
   rw [hV e,b];exact ih
def KT.GN{H:Hp}{az:List (List Key×V)}{xs:List (List Key×Addr×Value)}(r:KT H az xs)(k:List Key){y:V}{u:Value}(ry:RelV y u):
 KT H (az.map λkv=>if kv.1=k then(kv.1,y) else kv) (xs.map (putAt k u)):=by
 induction r with
 |nil=>exact .nil
 |@cons p q ps qs h t ih=>
  rw [zzF,zzF];refine .cons ?_ ih;obtain⟨h1,h2,h3⟩:=h
  unfold putAt
  by_cases e:p.1=k
  ·rw [if_pos e,if_pos (h1.symm.trans e)];exact⟨h1,h2,ry⟩
  ·rw [if_neg e,if_neg (λz=>e (h1.trans z))];exact⟨h1,h2,h3⟩
def KT.put{H:Hp}{az:List (List Key×V)}{xs:List (List Key×Addr×Value)}(r:KT H az xs)(k:List Key){b:Addr}{y:V}{u:Value}(hb:H b=some (.tup (k.map kV)))(ry:RelV y u):
 KT H (putK az k y) (storedH xs k b u):=by
 have e:(az.any λkv=>decide (kv.1=k))=(atKey xs k).isSome:=by
  rw [k7,(r.val k).eg,Option.isSome_map]
 unfold putK storedH;rw [e]
 by_cases q:(atKey xs k).isSome=true
 ·rw [if_pos q,if_pos q];exact r.GN k ry
 ·rw [if_neg q,if_neg q];exact Paired.snoc r ⟨rfl,hb,ry⟩
def KT.keeps{H H':Hp}{az:List (List Key×V)}{xs:List (List Key×Addr×Value)}(r:KT H az xs)(ht:∀b ys,H b=some (.tup ys)->H' b=some (.tup ys)):KT H' az xs:=
 Paired.yK r λ_ _ z=>⟨z.1,ht _ _ z.2.1,z.2.2⟩
section
variable{P:Program}{w:World}{H:Hp}{h:Heap}{a:Addr}
def DM{u:HO}(ok:gG P w H h)(e:Rd H a u):bU P w H h a u:=e.ok ok
def qh{az:List (Key×V)}(ok:gG P w H h)(e:Rd H a (.dK az)):az.length<=sizeLine/\(a==sysModules)=false/\∃vs,KV az vs/\h.DictOf (bF P w) a vs:=
 show bU P w H h a (.dK az) from DM ok e
def JS{az:List (Key×V)}(ok:gG P w H h)(e:H a=some (.dK az)):az.length<=sizeLine/\(a==sysModules)=false/\∃vs,KV az vs/\h.DictOf (bF P w) a vs:=qh ok (.inl e)
def gy{ks:List Key}(ok:gG P w H h)(e:H a=some (.tup (ks.map kV))):(tupleKind (bF P w)).is h ks a:=by
 obtain⟨_,ak,r,o,h1,h2,n,h3⟩:=(show bU P w H h a (.tup (ks.map kV)) from ok a _ e)
 exact⟨o,ak.toArray,n,h1,h2,h3,by simpa using mI r⟩
def kj{az:List (List Key×V)}(ok:gG P w H h)(e:Rd H a (.dT az)):az.length<=sizeLine/\(a==sysModules)=false/\
 ∃xs,KT H az xs/\h.DictOfH (tupleKind (bF P w)) a xs:=by
 obtain⟨z,y,xs,r,o,es,ep,h1,h2,h3,h4,h5⟩:=(show bU P w H h a (.dT az) from DM ok e)
 refine⟨z,y,xs,r,o,es,ep,h1,h2,h3,h4,λx hx=>?_,h5⟩
 have all:∀{l:List (List Key×V)} {m:List (List Key×Addr×Value)},KT H l m->∀x∈m,(tupleKind (bF P w)).is h x.1 x.2.1:=by
  intro l m q
  induction q with
  |nil=>intro x hx;exact nomatch hx
  |@cons p q ps qs hq t ih=>
   intro x hx;rcases zzm.mp hx with e|hx
   ·subst e;exact gy ok (by rw [<-hq.1];exact hq.2.1)
   ·exact ih x hx
 exact all r x hx
def Du{az:List (List Key×V)}(ok:gG P w H h)(e:H a=some (.dT az)):az.length<=sizeLine/\(a==sysModules)=false/\
 ∃xs,KT H az xs/\h.DictOfH (tupleKind (bF P w)) a xs:=kj ok (.inl e)
end
def Cn(H:Hp)(a:Addr)(y:V)(r:Option V):Prop:=
 (∃az k,Rd H a (.dK az)/\y=kV k/\r=iI az k)\/∃az k b,Rd H a (.dT az)/\y=.ref b/\H b=some (.tup (k.map kV))/\r=iI az k
def y6(H:Hp)(a:Addr)(y v:V)(H':Hp):Prop:=
 (∃az k,H a=some (.dK az)/\y=kV k/\az.length<sizeLine/\H'=upd H a (.dK (putK az k v)))\/
 ∃az k b,H a=some (.dT az)/\y=.ref b/\H b=some (.tup (k.map kV))/\az.length<sizeLine/\H'=upd H a (.dT (putK az k v))
def y6.t{H:Hp}{a b:Addr}{az:List (List Key×V)}{k:List Key}{v:V}(e:H a=some (.dT az))(eb:H b=some (.tup (k.map kV)))(hl:az.length<sizeLine):
 y6 H a (.ref b) v (upd H a (.dT (putK az k v))):=.inr ⟨az,k,b,e,rfl,eb,hl,rfl⟩
section
variable{X:Cx}{aa:List (Addr×Obj)}{σ:St}{H:Hp}{s:Shared}{a:Addr}{y v:V}{u r:Value}{o:Option V}{A:Around}{E:Value->Shared->Prop}
def Inv.big(I:Inv X aa σ H s):sysModules<(zz9 s):=by
 have h:mainGlobals<(zz9 s):=(I.mod.glob.keeps I.bk).lt
 exact Nat.lt_trans (by decide) h
def NO{Q:Value->Shared->Prop}(hu:A.units+1<cLine)(I:Inv X aa σ H s)(g:Cn H a y o)(ry:RelV y u)(h:∀s',Inv X aa σ H s'->Q (.bool o.isSome) s'):
 wpAny (model X.prog X.w) A (compareOp .In u (.ref a)) Q E s:=by
 rcases g with⟨az,k,e,ey,l⟩|⟨az,k,b,e,ey,eb,l⟩
 ·subst ey;obtain⟨z,hd,vs,rel,dd⟩:=qh I.bz e
  refine wpAny_in_of (qk ry) hd dd.mapOf ?_;rw [<-(rel.val k).eg,<-l];exact h _ (I.tok _)
 ·subst ey;cases(show u=Value.ref b from ry);obtain⟨z,hd,xs,rel,dd⟩:=kj I.bz e
  refine wpAny_in_heap (tupleKind_room_in1 hu) (gy I.bz eb) hd dd ?_;have q:=(rel.val k).eg
  rw [Option.isSome_map] at q;rw [<-q,<-l];exact h _ (I.tok _)
def CO{Q:Value->Shared->Prop}(hu:A.units+1<cLine)(I:Inv X aa σ H s)(g:Cn H a y o)(ry:RelV y u)(h:∀s',Inv X aa σ H s'->Q (.bool (!o.isSome)) s'):
 wpAny (model X.prog X.w) A (compareOp .NotIn u (.ref a)) Q E s:=by
 rcases g with⟨az,k,e,ey,l⟩|⟨az,k,b,e,ey,eb,l⟩
 ·subst ey;obtain⟨z,hd,vs,rel,dd⟩:=qh I.bz e
  refine wpAny_notIn_of (qk ry) hd dd.mapOf ?_;rw [<-(rel.val k).eg,<-l];exact h _ (I.tok _)
 ·subst ey;cases(show u=Value.ref b from ry);obtain⟨z,hd,xs,rel,dd⟩:=kj I.bz e
  refine wpAny_notIn_heap (tupleKind_room_in1 hu) (gy I.bz eb) hd dd ?_;have q:=(rel.val k).eg
  rw [Option.isSome_map] at q;rw [<-q,<-l];exact h _ (I.tok _)
theorem jo{h':Heap}{t':Nat}{ob:HO}(I:Inv X aa σ H s)(mu:JT (H a))(hs:Heap.SameBut a s.heap h')(he:∃q,h'.get? a=some q)(new:bU X.prog X.w (upd H a ob) h' a ob):
 Inv X aa σ (upd H a ob) {s with heap:=h',toks:=t'}:=
 I.write (x:=a) (e:=a) mu (.inl rfl) (λb q hb z=>(hs.2 b hb).trans z) he new
def Fi{P:Program}{w:World}{H':Hp}{h':Heap}{az:List (Key×V)}{vs:List (Key×Value)}(z:az.length<=sizeLine)(hd:(a==sysModules)=false)(rel:KV az vs)(dd:h'.DictOf (bF P w) a vs):
 bU P w H' h' a (.dK az):=⟨z,hd,vs,rel,dd⟩
def uG{H':Hp}{Q:Unit->Shared->Prop}(hu:A.units+1<cLine)(I:Inv X aa σ H s)(g:y6 H a y v H')(ry:RelV y u)(rv:RelV v r)(h:∀s',Inv X aa σ H' s'->Q () s'):
 wpAny (model X.prog X.w) A (setItem (.ref a) u r) Q E s:=by
 rcases g with⟨az,k,e,ey,l,eH⟩|⟨az,k,b,e,ey,eb,l,eH⟩
 ·subst ey eH;obtain⟨z,hd,vs,rel,dd⟩:=JS I.bz e
  have hz:vs.length<=sizeLine:=by rw [<-rel.length];exact z
  have hl:(putK az k v).length<=sizeLine:=by have:=d5 az k v;omega
  refine wpAny_setItem_pairs (hsz:=hz) (qk ry) dd λh' H9 hs=>h _ ?_
  have he:∃q,h'.get? a=some q:=let⟨q,_,_,hq,_⟩:=H9;⟨q,hq⟩
  exact jo I (by rw [e];exact True.intro) hs he (Fi hl hd (rel.put k rv) H9)
 ·subst ey eH;cases(show u=Value.ref b from ry);obtain⟨z,hd,xs,rel,dd⟩:=Du I.bz e
  have hz:xs.length<=sizeLine:=by rw [<-Paired.length rel];exact z
  have hl:(putK az k v).length<=sizeLine:=by have:=d5 az k v;omega
  refine wpAny_setItem_heap (hsz:=hz) (tupleKind_room_in1 hu) (gy I.bz eb) dd λh' H9 hs=>h _ ?_
  obtain⟨q,es,ep,hq,h2,h3,h4,_,h5⟩:=H9
  refine jo I (by rw [e];exact True.intro) hs ⟨q,hq⟩ ⟨hl,hd,_,(rel.put k eb rv).keeps λc ys ec=>?_,q,es,ep,hq,h2,h3,h4,h5⟩
  rw [ai (iX ec e (λz=>nomatch z))];exact ec
end
theorem kE{P:Program}{w:World}{H:Hp}(h:Heap)(hb:sysModules<h.objs.size):bU P w H (h.push {cls:=.type "dict",data:=.dict #[]}) h.objs.size (.dT []):=
 ⟨Nat.zero_le _,beq_eq_false_iff_ne.mpr (Ne.symm (zzb hb)),[],.nil,_,#[],0,zzX _ rfl,⟨rfl,rfl,rfl⟩,rfl,rfl,List.nodup_nil⟩
def D7:TE:=λ_ H Q=>∀p,H p=none->Q (.ref p) (upd H p (.dT []))
section
variable{X:Cx}{pos:Pos}
theorem wo:PE X (.Dict [] [] pos) D7:=λaa s σ H Q I h=>
 wpAny_Dict_empty ⟨.ref (zz9 s),_,I.laid (a:=(zz9 s)) (o:=.dT []) (t':=s.toks) (λ_ _ q=>zzB _ q) (zzE _) (kE s.heap I.big),rfl,h _ (I.bz.fresh (zzE _))⟩
end
structure M1(X:Cx)(o:Expr)(m:Str)(apos:Pos)(e:Expr)(b8:Pos):Prop where
 base:attributeBase o m X.env (eval o X.env)=eval o X.env
 Ro:((backTo b8 (starEach [e] X.env)).all (λx=>!x.1)&&(backToKw b8 (keywordEach [] X.env)).all (λx=>x.1.isSome)
  &&decide (([e]:List Expr).length+([]:List Keyword).length+(if([]:List Keyword).isEmpty then 0 else 1)<30))=true
 line:(apos.endLine==b8.line)=true
 trees:backTo b8 (starEach [e] X.env)=[(false,eval e X.env)]
def DX(H:Hp)(a:Addr):Prop:=(∃az,Rd H a (.dK az))\/∃az,Rd H a (.dT az)
def FP{X:Cx}{aa:List (Addr×Obj)}{σ:St}{H:Hp}{s:Shared}{a:Addr}(I:Inv X aa σ H s)(d:DX H a):
 s.TypeIs (.ref a) "dict"/\(∀b,Value.ref a=.ref b->∃ob,s.heap.get? b=some ob/\ob.dict=none)/\(a==sysModules)=false:=by
 rcases d with⟨az,e⟩|⟨az,e⟩
 ·obtain⟨_,hd,vs,_,dd⟩:=qh I.bz e
  refine⟨dd.typeIs,λb q=>?_,hd⟩
  cases q;obtain⟨ob,_,_,h1,h2,_⟩:=dd
  exact⟨ob,h1,h2.2.1⟩
 ·obtain⟨_,hd,xs,_,dd⟩:=kj I.bz e
  refine⟨dd.typeIs,λb q=>?_,hd⟩
  cases q;obtain⟨ob,_,_,h1,h2,_⟩:=dd
  exact⟨ob,h1,h2.2.1⟩
section
variable{X:Cx}{aa:List (Addr×Obj)}{σ:St}{H:Hp}{s:Shared}{a:Addr}{y:V}{u:Value}{o:Option V}{A:Around}{E:Value->Shared->Prop}
def Fh{Q:Value->Shared->Prop}(hu:A.units+1<cLine)(I:Inv X aa σ H s)(g:Cn H a y o)(ry:RelV y u)(h:∀w' s',Inv X aa σ H s'->RelV (o.getD .aA) w'->Q w' s'):
 wpAny (model X.prog X.w) A (call (.builtin "dict.get") [.ref a,u]) Q E s:=by
 rcases g with⟨az,k,e,ey,l⟩|⟨az,k,b,e,ey,eb,l⟩
 ·subst ey;obtain⟨z,hd,vs,rel,dd⟩:=qh I.bz e
  refine call_meetsIn PySem.F.slot_dict_get dd.typeIs PySem.F.entry_dict_get (PySem.F.args_dict_get_2 _ _) (meets_dict_get (bF X.prog X.w) a (qk ry) hd) ⟨_,dd.mapOf,h _ _ (I.tok _) ?_⟩;rw [l];exact(rel.val k).getD rfl
 ·subst ey;cases(show u=Value.ref b from ry);obtain⟨z,hd,xs,rel,dd⟩:=kj I.bz e
  refine call_meetsIn PySem.F.slot_dict_get dd.typeIs PySem.F.entry_dict_get (PySem.F.args_dict_get_2 _ _) (meetsH_dict_get (tupleKind (bF X.prog X.w)) a b hd) ⟨tupleKind_room_in1 hu,k,xs,gy I.bz eb,dd,h _ _ (I.tok _) ?_⟩;rw [l];exact(rel.val k).getD rfl
end
def Gp(td ty:TE):TE:=λσ H Q=>td σ H λx H1=>∃a,x=.ref a/\DX H1 a/\ty σ H1 λy H2=>∃o,Cn H2 a y o/\Q (o.getD .aA) H2
section
variable{X:Cx}{o e:Expr}{apos b8:Pos}{td ty:TE}
def zr(hu:X.A.units+1<cLine)(ho:PE X o td)(he:PE X e ty)(m:M1 X o "get" apos e b8):PE X (.Call (.Attribute o "get" apos) [e] [] b8) (Gp td ty):=by
 intro aa s σ H Q I h;refine wpAny_Call_method m.base m.Ro m.line PySem.F.plainAttrs_dict PySem.F.slot_dict_get PySem.F.type_dict_get (bK (ho aa s σ H _ I h) λu s1 ⟨x,H1,I1,rx,a,ex,d,q1⟩=>?_)
 subst ex;obtain rfl:u=Value.ref a:=rx
 obtain⟨t1,t2,_⟩:=FP I1 d
 refine⟨t1,t2,?_⟩;rw [m.trees];refine Calls.callWith_builtin rfl (Calls.evalArgs_plain (Calls.spliced_cons (bK (he aa s1 σ H1 _ I1 q1) λiv s2 ⟨y,H2,I2,ry,ov,g,q2⟩=>Calls.spliced_nil ?_)))
 exact Fh hu I2 g ry λw' s3 I3 ix=>⟨_,H2,I3,ix,q2⟩
end
end L2
namespace Att
open PySem PySem.W PySem.Calls PyProof.Rows
section
end
end Att
namespace L2
open PySem PySem.Spec PyProof.Rows
section
variable{prog:Program}{w:World}{κ:Type} [DecidableEq κ]{knd:HeapKind prog w κ}{A:Around}{E:Value->Shared->Prop}{s:Shared}{d a:Addr}{xs:List (κ×Addr×Value)}
theorem pe(d:Addr)(lo:(d==sysModules)=false):MeetsIn prog w (Builtin.«dict.__len__» ⟨[.ref d],[]⟩) (λ_ R s=>∃xs,s.heap.DictOfH knd d xs/\R (.ok (.ret (.int xs.length s.toks))) {s with toks:=s.toks+1}):=
 .of_wp λA R s ⟨xs,⟨o,es,ep,h1,_,h2,h3,_⟩,h⟩=>by
  show wpAny _ _ (dictSize d>>=λn=>_) _ _ s
  unfold dictSize;refine zzA (zzA (wpAny_dictEntries h1 h2 (zzG (zzA (wpAny_pendingCount_other lo (wpAny_ret_mkInt ?_))))));rw [Nat.add_zero,size_of_entries h3];exact h
def ES{Q:Value->Shared->Prop}(lo:(d==sysModules)=false)(hm:s.heap.DictOfH knd d xs)(hf:(xs.length:Int)<2^63)(h:Q (.int xs.length (s.toks+1)) {s with toks:=s.toks+1+1}):wpAny (model prog w) A (call (.builtin "len") [.ref d]) Q E s:=by
 refine Calls.call_function_entry kind_len plain_len entry_len (args_len1 _) ?_;unfold Builtin.«len»;refine zzA (m:=oneArg "len" _) (zzG (zzA (m:=callSpecial? (.ref d) (Str.ofString "__len__")) (wpAny_callSpecial?_slot (name:=Str.ofString "__len__") hm.typeIs F.slot_dict_len
  (call_meetsIn F.slot_dict_len hm.typeIs F.entry_dict_len (F.args_dict_len_1 _) (pe (knd:=knd) d lo) ⟨xs,hm,?_⟩))))
 show wpAny _ _ (holding _ _>>=λz=>_) _ _ {s with toks:=s.toks+1}
 refine zzA (wpAny_holding (zzG (zzA (wpAny_letGo ?_))));show wpAny _ _ (if((xs.length:Nat):Int)<0 then _ else(if((xs.length:Nat):Int)>=2^63 then _ else _)) _ _ _;rw [if_neg (by omega),if_neg (by omega)];exact zzA (wpAny_mkInt (zzG ⟨_,rfl,h⟩))
def Df{o:Obj}{es:Array DictEntry}{ep:Nat}{Q:Value->Shared->Prop}(lo:(d==sysModules)=false)(h1:s.heap.get? d=some o)(hc:o.ExactDict)(h2:o.data=.dict es ep)
 (hQ:Q (.ref (zz9 s)) {s with heap:=s.heap.push {cls:=.type "dict_keyiterator",data:=.fields #[.ref d,.int 0 0,.int es.size 0,.int ep 0]}}):wpAny (model prog w) A (pyIter (.ref d)) Q E s:=by
 have T:s.TypeIs (.ref d) "dict":=⟨o,h1,hc.1⟩
 refine wpAny_pyIter_slot T F.slot_dict_iter (wpAny_call_entry F.slot_dict_iter T F.entry_dict_iter ?_ (F.args_dict_iter_1 _));unfold Builtin.«dict.__iter__» Builtin.Dict.dictSlotNone;refine zzA (zzA (wpAny_notOrdered_dict T ?_));show wpAny _ _ (pure (Value.ref d):Sem Value) _ _ s;refine zzG ?_;show wpAny _ _ (Builtin.Dict.showsAll d>>=λ_=>_) _ _ s;unfold Builtin.Dict.showsAll;rw [if_neg (by rw [lo];exact zzf)];refine zzA (zzG (zzA (wpAny_dictEntries h1 h2 (zzA (wpAny_dictEpoch h1 h2 ?_)))));refine zzA (wpAny_newObj_type (zzG ⟨_,rfl,"dict_keyiterator",_,⟨_,zzX _ rfl,rfl⟩,F.slot_dict_keyiterator_next.lookup,?_⟩))
 simpa [rawInt] using hQ
def Dm{it:Addr}{i ep:Nat}{o:Obj}{es:Array DictEntry}{Q:Option Value->Shared->Prop}(st:s.heap.IsKeyIter it d i es.size ep)(h1:s.heap.get? d=some o)(h2:o.data=.dict es ep)(hi:i<es.size)
 (hQ:∀h',h'.IsKeyIter it d (i+1) es.size ep->Heap.SameBut it s.heap h'->Q (some es[i].key) {s with heap:=h'}):wpAny (model prog w) A (pyNext (.ref it)) Q E s:=by
 obtain⟨oi,g1,g2,g3⟩:=id st
 have own:Builtin.Dict_items.ownsTuple "dict_keyiterator"=false:=by decide
 unfold pyNext;refine zzA (wpAny_attempt (wpAny_callSpecial?_slot (name:=Str.ofString "__next__") st.typeIs F.slot_dict_keyiterator_next (wpAny_call_entry F.slot_dict_keyiterator_next st.typeIs F.entry_dict_keyiterator_next ?_ (F.args_dict_keyiterator_next_1 _))));refine zzA (zzG (zzA (zzA ?_)))
 first|refine zzA (wpAny_typeNameOfWhole_keyiter st.typeIs (zzG (zzA (wpAny_fieldsOf g1 g3 ?_))))|refine zzA (wpAny_typeNameOf_keyiter st.typeIs (zzG (zzA (wpAny_fieldsOf g1 g3 ?_))))
 simp! [own,zze,if_false];show wpAny _ _ (if(Value.ref d==Value.none)=true then _ else _:Sem _) _ _ s;rw [if_neg (show¬((Value.ref d==Value.none)=true) from zzf)];refine zzA (zzG (zzA (wpAny_dictEntries h1 h2 ?_)));rw [if_neg (by simp)];refine zzA (zzG (zzA (wpAny_dictEpoch h1 h2 ?_)));rw [if_neg (by simp)];refine zzG ?_;simp! [show¬((i:Int)<0) from by omega,if_false,zz4,zz2 hi];refine zzA ?_
 first|refine zzA (wpAny_typeNameOfWhole_keyiter st.typeIs (zzG (zzA (wpAny_isOneOf_keyiter st.typeIs ?_))))|refine zzA (wpAny_typeNameOf_keyiter st.typeIs (zzG (zzA (wpAny_isOneOf_keyiter st.typeIs ?_))))
 show wpAny _ _ (setField (.ref it) 1 (rawInt ((i:Int)+1))>>=λ_=>_) _ _ s
 have iy:(s.heap.update it (Obj.mapFields (·.setIfInBounds 1 (rawInt ((i:Int)+1))))).IsKeyIter it d (i+1) es.size ep:=
  ⟨_,Heap.get?_update_self _ g1 (Obj.isFreed_of_fields (Obj.data_mapFields g3 _)),(Obj.cls_mapFields ..).trans g2,by rw [Obj.data_mapFields g3];simp [rawInt]⟩
 refine zzA (wpAny_setField g1 g3 (by simp) (zzA (wpAny_holding (zzA (wpAny_isOneOf_keyiter (s:={s with heap:=s.heap.update it (Obj.mapFields (·.setIfInBounds 1 (rawInt ((i:Int)+1))))}) iy.typeIs ?_)))));show wpAny _ _ (pure es[i].key:Sem Value) _ _ _;exact zzG (zzG ⟨_,rfl,zzG (hQ _ iy (zzu ..))⟩)
def Hn{it:Addr}{i ep:Nat}{o:Obj}{es:Array DictEntry}{Q:Option Value->Shared->Prop}(hh:A.handled=none)(st:s.heap.IsKeyIter it d i es.size ep)(h1:s.heap.get? d=some o)(h2:o.data=.dict es ep)(hi:es.size<=i)
 (hQ:∀h',Heap.ExtBut it s.heap h'->Q none {s with heap:=h'}):wpAny (model prog w) A (pyNext (.ref it)) Q E s:=by
 obtain⟨oi,g1,g2,g3⟩:=id st
 have own:Builtin.Dict_items.ownsTuple "dict_keyiterator"=false:=by decide
 unfold pyNext;refine zzA (wpAny_attempt (wpAny_callSpecial?_slot (name:=Str.ofString "__next__") st.typeIs F.slot_dict_keyiterator_next (wpAny_call_entry F.slot_dict_keyiterator_next st.typeIs F.entry_dict_keyiterator_next ?_ (F.args_dict_keyiterator_next_1 _))));refine zzA (zzG (zzA (zzA ?_)))
 first|refine zzA (wpAny_typeNameOfWhole_keyiter st.typeIs (zzG (zzA (wpAny_fieldsOf g1 g3 ?_))))|refine zzA (wpAny_typeNameOf_keyiter st.typeIs (zzG (zzA (wpAny_fieldsOf g1 g3 ?_))))
 simp! [own,zze,if_false];show wpAny _ _ (if(Value.ref d==Value.none)=true then _ else _:Sem _) _ _ s;rw [if_neg (show¬((Value.ref d==Value.none)=true) from zzf)];refine zzA (zzG (zzA (wpAny_dictEntries h1 h2 ?_)));rw [if_neg (by simp)];refine zzA (zzG (zzA (wpAny_dictEpoch h1 h2 ?_)));rw [if_neg (by simp)];refine zzG ?_;simp! [show¬((i:Int)<0) from by omega,if_false,zz4,Array.getElem?_eq_none hi];refine zzA ?_
 first|refine zzA (wpAny_typeNameOfWhole_keyiter st.typeIs (zzG ?_))|refine zzA (wpAny_typeNameOf_keyiter st.typeIs (zzG ?_))
 show wpAny _ _ (setField (.ref it) 0 .none>>=λ_=>_) _ _ s
 refine zzA (wpAny_setField g1 g3 (by simp) ?_);show wpAny _ _ (newExc (.type "StopIteration") []>>=λ_=>_) _ _ _
 refine zzA ?_;simp! [newExc,newTuple];refine zzA (wpAny_newObj_type (zzA (m:=firstArgMember _ _) (wpAny_of_eq (a:=Value.none) (by first|rfl|(simp! [firstArgMember];rfl)) (wpAny_newObj_type ?_ (by size_fits)))) (by size_fits));simp! [raiseNew];refine zzA (wpAny_handled ?_);rw [show A.in1.handled=none from hh];refine zzA (zzG (wpAny_throw ?_));refine zzA (wpAny_isInstance (T:="StopIteration") (b:=true) ⟨_,zzX _ rfl,rfl⟩ isSubtype_stop ?_);exact zzG (hQ _ (((zzu ..).extBut.push _).push _))
end
def KT.len{H:Hp}{az:List (List Key×V)}{xs:List (List Key×Addr×Value)}(r:KT H az xs):az.length=xs.length:=Paired.length r
section
variable{X:Cx}{aa:List (Addr×Obj)}{σ:St}{H:Hp}{s:Shared}{a:Addr}{az:List (List Key×V)}{A:Around}{E:Value->Shared->Prop}
def GZ{Q:Value->Shared->Prop}(I:Inv X aa σ H s)(e:Rd H a (.dT az))(h:∀t s',Inv X aa σ H s'->Q (.int az.length t) s'):wpAny (model X.prog X.w) A (call (.builtin "len") [.ref a]) Q E s:=by
 obtain⟨z,lo,xs,rel,dd⟩:=kj I.bz e
 refine ES lo dd (by rw [<-rel.len];rw [sizeLine_eq] at z;omega) ?_;rw [<-rel.len];exact h _ _ (I.tok _)
def Inv.freeze(I:Inv X aa σ H s)(e:H a=some (.dT az)):∃o,Inv X aa σ (upd H a (.cU o (.dT az))) s:=by
 obtain⟨z,lo,xs,rel,o,es,ep,h1,h2,h3,h4,h5⟩:=(show bU X.prog X.w H s.heap a (.dT az) from I.bz a _ e)
 refine⟨o,jo (h':=s.heap) (t':=s.toks) I (by rw [e];exact True.intro) ⟨rfl,λ_ _=>rfl⟩ ⟨o,h1⟩ ⟨h1,z,lo,xs,?_,o,es,ep,h1,h2,h3,h4,h5⟩⟩
 exact KT.keeps (H:=H) rel λc ys ec=>by rw [ai (iX ec e (λz=>nomatch z))];exact ec
end
noncomputable def MS(a:Addr)(o:Obj)(az:List (List Key×V)):It:=
 ⟨λi H=>H a=some (.cU o (.dT az))/\i<az.length,λi H x H'=>H'=H/\∃b k v,x=.ref b/\az[i]?=some (k,v)/\H b=some (.tup (k.map kV)),λi H=>H a=some (.cU o (.dT az))/\az.length<=i⟩
def ra{α β:Type}{R:α->β->Prop}{l:List α}{m:List β}(r:Paired R l m):∀{i:Nat} {p:α} {q:β},l[i]?=some p->m[i]?=some q->R p q:=by
 induction r with
 |nil=>intro i p q h;simp at h
 |cons h t ih=>
  intro i p q h1 h2;cases i with
  |zero=>simp at h1 h2;subst h1 h2;exact h
  |succ i=>simp at h1 h2;exact ih h1 h2
def Jt{P:Program}{w:World}{H:Hp}{h:Heap}{a:Addr}{az:List (List Key×V)}(x:bU P w H h a (.dT az)):(a==sysModules)=false/\(az.map (·.1)).Nodup/\∃o es ep,h.get? a=some o/\o.ExactDict/\o.data=.dict es ep/\es.size=az.length/\∀(i:Nat) (hi:i<es.size),∃b k v,es[i].key=.ref b/\az[i]?=some (k,v)/\H b=some (.tup (k.map kV))/\RelV v es[i].val:=by
 obtain⟨z,lo,xs,rel,o,es,ep,h1,h2,h3,h4,h5⟩:=x
 have hl:es.size=xs.length:=size_of_entries h4
 have hx:az.length=xs.length:=Paired.length rel
 have ks:az.map (·.1)=xs.map (·.1):=by
  clear hl hx h4 h5 z
  induction rel with
  |nil=>rfl
  |cons h t ih=>rw [zzF,zzF,h.1,ih]
 refine⟨lo,ks▸h5,o,es,ep,h1,h2,h3,hl.trans hx.symm,λi hi=>?_⟩
 have e1:es[i]?=(xs[i]?).map (entryOfKey (tupleKind (bF P w))):=entry_at h4 i
 rw [zzg (show i<xs.length by omega),zz2 hi] at e1;have q:=ra rel (zzg (show i<az.length by omega)) (zzg (show i<xs.length by omega))
 rw [zzq e1];exact⟨_,_,_,rfl,zzg (show i<az.length by omega),q.2.1,q.2.2⟩
def kL{X:Cx}{aa:List (Addr×Obj)}{σ:St}{H:Hp}{s:Shared}{a:Addr}{o:Obj}{az:List (List Key×V)}(I:Inv X aa σ H s)(e:H a=some (.cU o (.dT az))):
 (a==sysModules)=false/\s.heap.get? a=some o/\o.ExactDict/\∃es ep,o.data=.dict es ep/\es.size=az.length/\∀(i:Nat) (h:i<es.size),∃b k v,es[i].key=.ref b/\az[i]?=some (k,v)/\H b=some (.tup (k.map kV)):=by
 obtain⟨h0,ok⟩:=(show bU X.prog X.w H s.heap a (.cU o (.dT az)) from I.bz a _ e)
 obtain⟨lo,_,o',es,ep,h1,h2,h3,hl,hk⟩:=Jt ok
 rw [h0] at h1;cases h1;exact⟨lo,h0,h2,es,ep,h3,hl,λi hi=>let⟨b,k,v,e1,e2,e3,_⟩:=hk i hi;⟨b,k,v,e1,e2,e3⟩⟩
def uD{P:Program}{w:World}{K:zz8}{tg:Expr}{a it:Addr}{o:Obj}{es:Array DictEntry}{ep:Nat}{az:List (List Key×V)}(hd:o.data=.dict es ep)(hl:es.size=az.length):
 Turn P w K tg (MS a o az) [it] it (λi h=>h.IsKeyIter it a i es.size ep) where
 mem:=by simp
 obj:=λi h st b hb=>by
  have e:b=it:=by simpa using hb
  subst e;obtain⟨q,e,c,d⟩:=st
  exact⟨q,e,λv z=>by rw [d] at z;cases z⟩
 keep:=λi h h' st k=>st.at λo e=>k it (by simp) o e
 item:=by
  intro X hP hw hK hc i aa s σ H E I hf st hg;subst hP hw hK;obtain⟨g1,g2⟩:=hg
  obtain⟨lo,h0,hx,es',ep',h3,qQ,hks⟩:=kL I g1
  rw [hd] at h3;cases h3;obtain⟨f0,f1,f2,f3,f4,f5⟩:=hf it (by simp)
  have hi:i<es.size:=by omega
  refine Dm st h0 hd hi λh' iy sb=>?_
  obtain⟨b,k,v,e1,e2,e3⟩:=hks i hi
  have I1:Inv X aa σ H {s with heap:=h'}:=I.turned (t':=s.toks) (λb o hb e=>(sb.2 b hb).trans e) f0 f1 f3 f4 f5
  obtain⟨q,e,c,d⟩:=id iy
  refine⟨_,rfl,pN (s:={s with heap:=h'}) e c d (by decide) ⟨.ref b,H,I1,?_,⟨rfl,b,k,v,rfl,e2,e3⟩,iy,λb hb=>(hf b hb).1⟩⟩
  rw [e1];exact rfl
 done:=by
  intro X hP hw hK hc i aa s σ H E I hf st hg;subst hP hw hK;obtain⟨g1,g2⟩:=hg
  obtain⟨lo,h0,hx,es',ep',h3,qQ,hks⟩:=kL I g1
  rw [hd] at h3;cases h3;obtain⟨f0,f1,f2,f3,f4,f5⟩:=hf it (by simp)
  exact Hn (I.ok.hd hc) st h0 hd (by omega) λh' eb=>⟨rfl,I.turned (t':=s.toks) (λb o hb e=>eb b o hb e) f0 f1 f3 f4 f5⟩
 self:=λ_ _ _ _ _ st h=>wpAny_pyIter_keyiter st h
noncomputable def Nj(tl:TE):TI:=λσ H R=>tl σ H λx H1=>∃a o az,x=.ref a/\H1 a=some (.cU o (.dT az))/\R (MS a o az) H1
section
variable{X:Cx}{o e:Expr}
def Ga{tg l:Expr}{tl:TE}(hl:PE X l tl):PI X tg l (Nj tl):=by
 intro aa s σ H R I h;refine bK (hl aa s σ H _ I h) λv s1 ⟨x,H1,I1,r1,q1⟩=>?_
 obtain⟨a,o,az,e,hq,q⟩:=q1
 subst e;cases r1;obtain⟨lo,h0,hx,es,ep,h3,qQ,hks⟩:=kL I1 hq
 refine Df lo h0 hx h3 ?_;refine⟨(zz9 s1),[(zz9 s1)],_,_,H1,rfl,I1.kept (t':=s1.toks) λb o e=>zzB _ e,uD h3 qQ,⟨_,zzX _ rfl,rfl,rfl⟩,λb hb=>?_,q⟩
 have e:b=(zz9 s1):=by simpa using hb
 subst e;exact I1.kZ (zzE _) (I1.bz.fresh (zzE _))
end
end L2
namespace L2
open PySem PySem.Spec PyProof.Rows PySem.W
section
variable{n:Nat}(h0:0<n)
include h0
end
end L2
namespace L2
open PySem PySem.Spec PyProof.Rows
def vR:typeLookup (.type "list") "keys"=pure none:=by rw [typeLookup_type,builtinLookup_eq_fast];kernel_rfl
def qD:entryFor table "dict.update.loop"=some Builtin.«dict.update.loop»:=entryFor_of_tree (by kernel_rfl)
def ie:plainId "dict.update.loop"=true:=by decide+kernel
section
variable{prog:Program}{w:World}{A:Around}{E:Value->Shared->Prop}{s:Shared}{a:Addr}{o:Obj}{xs:Array Value}{k:Nat}
def C9{Q:Option Value->Shared->Prop}(hx:s.heap.get? a=some o)(hc:o.cls=.type "list")(J8:o.data=.seq xs k)(hd:o.dict=none)(hA:A.handled=none)
 (h:∀h' tk,(∀b o,s.heap.get? b=some o->h'.get? b=some o)->Q none {s with heap:=h',toks:=tk}):wpAny (model prog w) A (getAttr? (.ref a) "keys") Q E s:=by
 obtain⟨c,bw,dat,sl⟩:=o
 simp only at hc J8 hd;subst hc J8 hd;obtain⟨hp,g,d,tk,os⟩:=s
 have hT:∀Mz,(⟨hp,g,d,Mz,os⟩:Shared).TypeIs (.ref a) "list":=λ_=>⟨_,hx,rfl⟩
 have f1:=sub_AttributeError
 have f3:=F.slot_list_getattribute.lookup
 have f4:=F.slot_list_getattribute.bind (.ref a)
 have f5:=am_list_getattr_none
 unfold getAttr? getAttrBy? getAttrBy
 repeat (any_goals (first|assumption|exact hT _|((with_reducible show wpAny _ _ (call (Value.builtin "list.__getattribute__") _ _) _ _ _);refine call_meets F.slot_list_getattribute (hT _) am_entry_list_getattribute (F.args_list_getattribute_2 _ _) (meets_getattribute_miss_list a xs k sl "keys" _ vR (by decide) (by size_fits)) ⟨hx,hA,λh' Mz e qO=>?_⟩)|wp_step))
 obtain⟨t',u',he⟩:=qO.there
 show wpAny _ _ (getattributeRaised _ _ _ _ _ _ _) _ _ _
 unfold getattributeRaised
 repeat (any_goals (first|assumption|wp_step))
 exact h h' Mz qO.keeps
end
def dQ(az more:List (List Key×V)):List (List Key×V):=more.foldl (λacc kv=>putK acc kv.1 kv.2) az
abbrev gu(K:zz8)(H:Hp)(vs:List V)(az:List (List Key×V)):Prop:=Paired (λv kv=>∃q b,v=V.ref q/\eU K H q [.ref b,kv.2]/\H b=some (.tup (kv.1.map kV))) vs az
section
variable{X:Cx}{aa:List (Addr×Obj)}{σ:St}{l d it:Addr}{vs:List V}{A:Around}{E:Value->Shared->Prop}{R:Result->Shared->Prop}
def xu{H:Hp}{s:Shared}{a b:Addr}{az:List (List Key×V)}{k:List Key}{v:V}{r:Value}{Q:Unit->Shared->Prop}(hu:A.units<cLine)(I:Inv X aa σ H s)(e:H a=some (.dT az))(eb:H b=some (.tup (k.map kV)))(l:az.length<sizeLine)(rv:RelV v r)
 (h:∀h' t,Heap.SameBut a s.heap h'->Inv X aa σ (upd H a (.dT (putK az k v))) {s with heap:=h',toks:=t}->Q () {s with heap:=h',toks:=t}):wpAny (model X.prog X.w) A (dictSet a (.ref b) r) Q E s:=by
 obtain⟨z,lo,xs,rel,dd⟩:=Du I.bz e
 have hz:xs.length<=sizeLine:=by rw [<-rel.len];exact z
 have hl:(putK az k v).length<=sizeLine:=by have:=d5 az k v;omega
 refine wpAny_dictSet_heap (hsz:=hz) (knd:=tupleKind (bF X.prog X.w)) hu (gy I.bz eb) dd λh' H9 hs=>h h' _ hs ?_
 obtain⟨q,es,ep,hq,h2,h3,h4,_,h5⟩:=H9
 refine jo I (by rw [e];exact True.intro) hs ⟨q,hq⟩ ⟨hl,lo,_,(rel.put k eb rv).keeps λc ys ec=>?_,q,es,ep,hq,h2,h3,h4,h5⟩
 rw [ai (iX ec e (λz=>nomatch z))];exact ec
def eU.fW{K:zz8}{H H':Hp}{a:Addr}{xs:List V}(h:eU K H a xs)(e:∀b,b≠d->H' b=H b){acc:List (List Key×V)}(hd:H d=some (.dT acc)):eU K H' a xs:=by
 rcases h with(h|⟨o,h⟩)|h
 ·exact .inl (.inl (by rw [e a (iX h hd (λz=>nomatch z))];exact h))
 ·exact .inl (.inr ⟨o,by rw [e a (iX h hd (λz=>nomatch z))];exact h⟩)
 ·exact .inr h
def dw.fW{K:zz8}{H H':Hp}{a:Addr}{xs:List V}(h:dw K H a xs)(e:∀b,b≠d->H' b=H b){acc:List (List Key×V)}(hd:H d=some (.dT acc)):dw K H' a xs:=by
 rcases h with(h|⟨o,h⟩)|h
 ·exact .inl (.inl (by rw [e a (iX h hd (λz=>nomatch z))];exact h))
 ·exact .inl (.inr ⟨o,by rw [e a (iX h hd (λz=>nomatch z))];exact h⟩)
 ·exact .inr h
def gu.fW{K:zz8}{H H':Hp}{az:List (List Key×V)}(e:∀b,b≠d->H' b=H b){acc:List (List Key×V)}(hd:H d=some (.dT acc)):∀{vs:List V},gu K H vs az->gu K H' vs az:=λh=>
 Paired.yK h λ_ _ ⟨q,b,e1,e2,e3⟩=>⟨q,b,e1,eU.fW e2 e hd,by rw [e b (iX e3 hd (λz=>nomatch z))];exact e3⟩
def C5(hu:A.units+1<cLine)(hh:A.handled=none):∀(rest:List (List Key×V)) (i:Nat) (j:Int) (acc:List (List Key×V)) (H:Hp) (s:Shared),Inv X aa σ H s->fV X aa H it->s.heap.IsListIter it l i->dw X.K H l vs->gu X.K H (vs.drop i) rest->H d=some (.dT acc)->acc.length+rest.length<=sizeLine->
 (∀s' H',Inv X aa σ H' s'->H' d=some (.dT (dQ acc rest))->(∀b,b≠d->H' b=H b)->R (.ok (.ret .none)) s')->codeAny (model X.prog X.w) A (.builtin "dict.update.loop" ⟨[.ref d,.ref it,rawInt j,.none],[]⟩) R s:=by
 intro rest
 induction rest with
 |nil=>
  intro i j acc H s I hf st hl pr hd hz k;obtain⟨ak,rv,p,_⟩:=I.list hl
  obtain⟨f0,f1,f2,f3,f4,f5⟩:=hf
  have hi:vs.length<=i:=List.drop_eq_nil_iff.mp (by cases h:vs.drop i with|nil=>rfl|cons x r=>rw [h] at pr;cases pr)
  have hle:=rv.length
  refine codeAny_builtin qD ?_;rw [zz7 ie _];show wpAny _ A.in1 (pyNext (.ref it)>>=λz=>_) _ _ s
  refine zzA (wpAny_pyNext_list_end hh st p.isList (by simp;omega) λh' eb=>?_)
  show wpAny _ _ (Builtin.Dict.addKeywords d []>>=λ_=>_) _ _ _
  exact zzA (zzG (zzG (k _ H (I.turned (t':=s.toks) (λb o hb e=>eb b o hb e) f0 f1 f3 f4 f5) hd λ_ _=>rfl)))
 |cons kv rest ih=>
  intro i j acc H s I hf st hl pr hd hz k;obtain⟨ak,rv,p,_⟩:=I.list hl
  obtain⟨f0,f1,f2,f3,f4,f5⟩:=id hf
  obtain⟨v,vr,hv,⟨q,b,rfl,hq,hb⟩,pr'⟩:∃v vr,vs.drop i=v::vr/\(∃q b,v=V.ref q/\eU X.K H q [.ref b,kv.2]/\H b=some (.tup (kv.1.map kV)))/\gu X.K H vr rest:=by
   cases h:vs.drop i with
   |nil=>rw [h] at pr;cases pr
   |cons x r=>rw [h] at pr;cases pr with|cons h1 h2=>exact⟨x,r,rfl,h1,h2⟩
  have Rr:vs[i]?=some (.ref q):=by rw [<-List.head?_drop,hv];rfl
  have Rq:vs.drop (i+1)=vr:=by rw [<-List.drop_drop,hv];rfl
  obtain⟨u,Dy,ru⟩:=rv.get Rr
  cases(show u=Value.ref q from ru);refine codeAny_builtin qD ?_;rw [zz7 ie _];show wpAny _ A.in1 (pyNext (.ref it)>>=λz=>_) _ _ s
  refine zzA (wpAny_pyNext_list_item st p.isList (x:=Value.ref q) (by simpa using Dy) λh' iy sb=>?_)
  have I1:Inv X aa σ H {s with heap:=h'}:=I.turned (t':=s.toks) (λb o hb e=>(sb.2 b hb).trans e) f0 f1 f3 f4 f5
  obtain⟨dN,rv2,p2,_⟩:=I1.tuple hq
  obtain⟨o2,g1,g2,n2,g3⟩:=id p2
  obtain⟨u1,u2,rfl,ru1,ru2⟩:∃u1 u2,dN=[u1,u2]/\RelV (.ref b) u1/\RelV kv.2 u2:=by
   cases rv2 with|cons h1 h2=>cases h2 with|cons h3 h4=>cases h4;exact⟨_,_,rfl,h1,h3⟩
  cases(show u1=Value.ref b from ru1);show wpAny _ A.in1 (holding [Value.ref q] _>>=λz=>_) _ _ {s with heap:=h'};refine zzA (wpAny_holding (zzA (wpAny_tryCatch ?_)));unfold Builtin.Dict.pairItems;refine zzA (wpAny_typeOf (s:={s with heap:=h'}) ⟨o2,g1,g2⟩ ?_);rw [if_pos (by decide)];refine zzA (wpAny_seqItems g1 g3 (zzG ?_));show wpAny _ A.in1 (holding [Value.ref b,u2] (dictSet d (.ref b) u2)) _ _ _;refine wpAny_holding (xu hu I1 hd hb (by rw [zzL] at hz;omega) ru2 λh2 t2 QZ I2=>?_)
  have fW:∀c,c≠d->upd H d (.dT (putK acc kv.1 kv.2)) c=H c:=λc hc=>ai hc
  have nd:it≠d:=λz=>by rw [z,hd] at f0;cases f0
  refine zzG ⟨plainId_quiet ie _,ih (i+1) (j+1) _ _ _ I2 ⟨by rw [fW _ nd];exact f0,f1,f2,f3,f4,f5⟩ (iy.at λo e=>(QZ.2 it nd).trans e) (dw.fW hl fW hd) (gu.fW fW hd (by rw [Rq];exact pr')) au ?_ λs' H' J1 J2 J3=>k s' H' J1 J2 λc hc=>(J3 c hc).trans (fW c hc)⟩
  have:=d5 acc kv.1 kv.2
  rw [zzL] at hz;omega
def rB(hc:X.calm=true)(hu:X.A.units+3<cLine):bL X (.type "dict") (λxs H Q=>∃l vs az,xs=[V.ref l]/\dw X.K H l vs/\gu X.K H vs az/\∀p,H p=none->Q (.ref p) (upd H p (.dT (dQ [] az)))):=by
 intro aa s σ H xs us Q I r h;obtain⟨l,vs,az,rfl,hl,pr,q⟩:=h
 obtain⟨u,rfl,ru⟩:=vals1 r
 cases ru;have hh:X.A.handled=none:=I.ok.hd hc
 refine callType_codes (Q₁:=λobj s₁=>obj=.ref (zz9 s)/\s₁={s with heap:=s.heap.push {cls:=.type "dict",data:=.dict #[]}}) F.kt_called_dict (F.kt_typeCall_dict_1 _) F.entry_dict_init (kt_code_dict_new _ ⟨rfl,rfl⟩) ?_
 rintro obj s₁ ⟨rfl,rfl⟩
 have hn:H (zz9 s)=none:=I.bz.fresh (zzE _)
 have I1:=I.laid (a:=(zz9 s)) (o:=.dT []) (t':=s.toks) (λ_ _ q=>zzB _ q) (zzE _) (kE s.heap I.big)
 have T:(⟨s.heap.push {cls:=.type "dict",data:=.dict #[]},s.gens,s.drawn,s.toks,s.os⟩:Shared).TypeIs (.ref (zz9 s)) "dict":=⟨_,zzX _ rfl,rfl⟩
 have fW:∀c,c≠(zz9 s)->upd H (zz9 s) (.dT []) c=H c:=λc hc=>ai hc
 have same:ay H (upd H (zz9 s) (.dT [])):=bf hn
 have F5:dw X.K (upd H (zz9 s) (.dT [])) l vs:=same.seq hl
 obtain⟨ak,rv,p,hz⟩:=I1.list F5
 obtain⟨o,n,g1,g2,g3,g4⟩:=id p
 refine⟨T,F.args_dict_init_2 _ _,?_⟩;unfold Builtin.«dict.__init__» Builtin.Dict.selfAndRest;refine zzA (zzA (wpAny_notOrdered_dict T ?_));show wpAny _ _ (pure ((zz9 s),[Value.ref l]):Sem _) _ _ _;refine zzG ?_;show wpAny _ _ (Builtin.Dict.updateFrom "dict.__init__" (zz9 s) (.ref l) [] .none) _ _ _;unfold Builtin.Dict.updateFrom;refine zzA (wpAny_typeOf ⟨o,g1,g2⟩ ?_);rw [if_pos (by decide)];refine zzA (C9 g1 g2 g4 g3 hh λh' tk hk=>?_);rw [if_pos (by decide)];refine zzA (wpAny_rule ?_);have I2:=I1.kept (h':=h') (t':=tk) hk
 obtain⟨its',rv',p',_⟩:=I2.list F5
 refine zzA (wpAny_pyIter_list p'.isList ?_);have I3:=I2.kept (h':=h'.push {cls:=.type "list_iterator",data:=.fields #[.ref l,.int 0 0]}) (t':=tk) λb o e=>zzB _ e
 have QU:(h'.push {cls:=.type "list_iterator",data:=.fields #[.ref l,.int 0 0]}).IsListIter h'.objs.size l 0:=⟨_,zzX _ rfl,rfl,rfl⟩
 have Q9:fV X aa (upd H (zz9 s) (.dT [])) h'.objs.size:=I2.kZ (zzE _) (I2.bz.fresh (zzE _))
 refine zzG ⟨plainId_quiet ie _,C5 (X:=X) (A:=X.A.in1) (aa:=aa) (σ:=σ) (l:=l) (d:=(zz9 s)) (it:=h'.objs.size) (vs:=vs) (by show X.A.units+1+1<cLine;omega) (show X.A.in1.handled=none from hh) az 0 0 [] _ _ I3 Q9 QU F5 ?_ au ?_ λs' H' J1 J2 J3=>⟨rfl,?_⟩⟩
 ·exact Paired.yK pr λ_ _ ⟨q,b,e1,e2,e3⟩=>⟨q,b,e1,(show eU X.K _ q _ from by
   rcases e2 with(e2|⟨o,e2⟩)|e2
   ·exact .inl (.inl (same _ _ e2))
   ·exact .inl (.inr ⟨o,same _ _ e2⟩)
   ·exact .inr e2),same _ _ e3⟩
 ·have:=Paired.length pr
  rw [List.length_nil];omega
 ·have e:H'=upd H (zz9 s) (.dT (dQ [] az)):=by
   funext b
   by_cases hb:b=(zz9 s)
   ·rw [hb,au];exact J2
   ·rw [ai hb,J3 b hb,ai hb]
  rw [e] at J1;exact⟨.ref (zz9 s),_,J1,rfl,q _ hn⟩
def qS(hc:X.calm=true)(hu:X.A.units+3<cLine):bL X (.type "dict") (λxs H Q=>∃l vs az,xs=[V.ref l]/\dw X.K H l vs/\gu X.K H vs az/\∀p o,H p=none->Q (.ref p) (upd H p (.cU o (.dT (dQ [] az))))):=by
 intro aa s σ H xs us Q I r h;obtain⟨l,vs,az,rfl,hl,pr,q⟩:=h
 refine wpAny_mono (rB hc hu aa s σ H _ us (λv H'=>∃p,v=.ref p/\H p=none/\H'=upd H p (.dT (dQ [] az))) I r ⟨l,vs,az,rfl,hl,pr,λp hp=>⟨p,rfl,hp,rfl⟩⟩) ?_ λ_ _ z=>z
 rintro u s' ⟨v,H',I',rv,p,rfl,hp,rfl⟩
 obtain⟨o,J⟩:=I'.freeze au
 have e:upd (upd H p (.dT (dQ [] az))) p (.cU o (.dT (dQ [] az)))=upd H p (.cU o (.dT (dQ [] az))):=by
  funext b
  by_cases hb:b=p
  ·rw [hb,au,au]
  ·rw [ai hb,ai hb,ai hb]
 rw [e] at J;exact⟨_,_,J,rv,q p o hp⟩
variable{S:Addr}
def tj{h:Heap}{c:Nat}{xs ys:Array Value}(e:h.get? S=some (seqObj "list" xs c)):∃c',(h.update S (Obj.mapSeq λ_=>ys)).get? S=some (seqObj "list" ys c'):=⟨_,get?_update_seq e λ_=>ys⟩
end
end L2
namespace L2
open PySem PySem.Spec PyProof.Rows PySem.W
section
variable{a:Addr}
end
end L2
namespace L2
open PySem PySem.Spec PyProof.Rows
def bM(ns:List Int):Nat->Int
 |0=>ns.getD 0 0
 |k+1=>if bM ns k<ns.getD (k+1) 0 then ns.getD (k+1) 0 else bM ns k
theorem j1(ns:List Int):∀k,ns.getD (argBest (λi j=>decide (ns.getD i 0>ns.getD j 0)) k) 0=bM ns k
 |0=>rfl
 |k+1=>by
  rw [argBest,bM,j1 ns k]
  by_cases h:bM ns k<ns.getD (k+1) 0
  ·rw [if_pos h,if_pos (zzh h)]
  ·rw [if_neg h,if_neg (λz=>h (zzY z)),j1 ns k]
def vk{X:Cx}(hc:X.calm=true):bL X (.builtin "max") (λxs H Q=>∃(p:Addr) (ns:List Int),xs=[.ref p]/\dw X.K H p (ns.map V.int)/\0<ns.length/\Q (.int (bM ns (ns.length-1))) H):=by
 intro aa s σ H xs us Q I r h;obtain⟨p,ns,rfl,hp,h0,q⟩:=h
 obtain⟨u,rfl,ru⟩:=vals1 r
 cases ru;obtain⟨ak,rv,pl,hz⟩:=I.list hp
 have cL:p<(zz9 s):=by obtain⟨_,e,_⟩:=pl.isList;exact zzO e
 have hlen:ak.length=ns.length:=by rw [<-rv.length,zzl]
 have zG:∀i v,ak.toArray[i]?=some v->∃t,v=Value.int (ns.getD i 0) t:=λi v hP=>by
  have hv:ak[i]?=some v:=by simpa using hP
  have hi:i<ns.length:=by rw [<-hlen];exact(zzH.mp hv).1
  obtain⟨u,hu,t,ru⟩:=rv.get (i:=i) (x:=V.int ns[i]) (by rw [zzQ,zzg hi];rfl)
  rw [hv] at hu;cases hu;refine⟨t,?_⟩;rw [ru,zzK,zzg hi]
  rfl
 refine call_max_walk (wpAny_pyIter_list pl.isList ?_);refine⟨(zz9 s),_,_,ak.toArray.size,_,_,_,rfl,Walks.list (A:=X.A.in1) (I.ok.hd hc) (zz9 s) p (zzb cL) ak.toArray,⟨⟨_,zzX _ rfl,rfl,rfl⟩,pl.isList.push _⟩,λb hb=>?_,by rw [zzC,hlen];exact h0,CmpOf.ints_gt (λi=>ns.getD i 0) zG,λv h' tk hP hk=>?_⟩
 ·have:b=(zz9 s)\/b=p:=by simpa using hb
  rw [Heap.size_push];rcases this with e|e
  ·rw [e];exact Nat.lt_succ_self _
  ·rw [e];exact Nat.lt_succ_of_lt cL
 ·obtain⟨t,rfl⟩:=zG _ _ hP
  rw [j1,zzC,hlen];exact⟨.int _,H,I.kept λb o e=>hk b o (by simp;exact zzb (zzO e)) (zzB _ e),⟨_,rfl⟩,q⟩
section
variable{X:Cx}
def range_any(bs:List Bool):(List.range bs.length).any (λi=>(bs[i]?).getD true)=bs.any id:=by
 rw [Bool.eq_iff_iff,zzj,zzj]
 constructor
 ·rintro ⟨i,hi,h⟩
  have hi:=List.mem_range.1 hi
  rw [zzg hi] at h;exact⟨_,List.getElem_mem hi,h⟩
 ·rintro ⟨b,hb,h⟩
  obtain⟨i,hi,e⟩:=List.getElem_of_mem hb
  exact⟨i,List.mem_range.2 hi,by rw [zzg hi,e];exact h⟩
def wV(hc:X.calm=true):bL X (.builtin "any") (λxs H Q=>∃(p:Addr) (bs:List Bool),xs=[.ref p]/\dw X.K H p (bs.map V.bl)/\Q (.bl (bs.any id)) H):=by
 intro aa s σ H xs us Q I r h;obtain⟨p,bs,rfl,hp,q⟩:=h
 obtain⟨u,rfl,ru⟩:=vals1 r
 cases ru;obtain⟨ak,rv,pl,hz⟩:=I.list hp
 have cL:p<(zz9 s):=by obtain⟨_,e,_⟩:=pl.isList;exact zzO e
 have hlen:ak.length=bs.length:=by rw [<-rv.length,zzl]
 refine call_any_walk (wpAny_pyIter_list pl.isList ?_);refine⟨(zz9 s),_,_,ak.toArray.size,_,_,λi=>(bs[i]?).getD true,rfl,Walks.list (A:=X.A.in1) (I.ok.hd hc) (zz9 s) p (zzb cL) ak.toArray,⟨⟨_,zzX _ rfl,rfl,rfl⟩,pl.isList.push _⟩,λi v s2 Q2 E2 hP hQ=>?_,λh' tk hk=>?_⟩
 ·have hv:ak[i]?=some v:=by simpa using hP
  have hi:i<bs.length:=by rw [<-hlen];exact(zzH.mp hv).1
  obtain⟨u,hu,ru⟩:=rv.get (i:=i) (x:=V.bl bs[i]) (by rw [zzQ,zzg hi];rfl)
  rw [hv] at hu;cases hu;have e:v=Value.bool bs[i]:=ru
  rw [e];have q2:Q2 ((bs[i]?).getD true) s2:=hQ
  rw [zzg hi,Option.getD_some] at q2;exact wpAny_truthy_bool q2
 ·rw [zzC,hlen,range_any];exact⟨.bl (bs.any id),H,I.kept λb o e=>hk b o (by simp;exact zzb (zzO e)) (zzB _ e),rfl,q⟩
end
def maxD(ns:List Int)(d:Int):Int:=if ns=[] then d else bM ns (ns.length-1)
def u5(a v:Value):argsOk "max" ⟨[a],[(Str.ofString "default",v)]⟩:=by unfold argsOk;kernel_rfl
section
variable{prog:Program}{w:World}{A:Around}{it l S:Addr}{ns:List Int}{ak:List Value}{dv:Value}{R:Result->Shared->Prop}
def vP(hh:A.handled=none)(n1:S≠it)(n2:l≠it)(n3:l≠S)(hv:∀i (h:i<ns.length),∃t,ak[i]?=some (.int ns[i] t))(Se:ak.length=ns.length){s0:Shared}
 (hR:∀t h' tk,(∀b o,b≠it->b≠S->s0.heap.get? b=some o->h'.get? b=some o)->R (.ok (.ret (.int (bM ns (ns.length-1)) t))) {s0 with heap:=h',toks:=tk}):
 ∀(r j:Nat) (h:Heap) (tk:Nat) (t:Tok) (c:Nat),ns.length-(j+1)=r->j+1<=ns.length->(∀b o,b≠it->b≠S->s0.heap.get? b=some o->h.get? b=some o)->h.IsListIter it l (j+1)->h.IsList l ak.toArray->h.get? S=some (seqObj "list" #[.int (bM ns j) t,.int (bM ns j) t] c)->
  codeAny (model prog w) A (.builtin "max.loop" ⟨[.ref it,.none,.ref S],[(Str.ofString "default",dv)]⟩) R {s0 with heap:=h,toks:=tk}:=by
 have name:(toString "max"++toString ".loop":String)="max.loop":=by decide
 intro r
 induction r with
 |zero=>
  intro j h tk t c hr hj kk st hl hS;refine codeAny_builtin PySem.F.entry_max_loop ?_;rw [zz7 PySem.F.plain_max_loop _];show wpAny _ A.in1 (seqItems? (.ref S)>>=λz=>_) _ _ _
  refine zzA (wpAny_seqItems hS rfl ?_);show wpAny _ A.in1 (tryCatch (pyNext (.ref it)) _>>=λz=>_) _ _ _
  refine zzA (wpAny_tryCatch (wpAny_pyNext_list_end hh st hl (by simp;omega) λh' eb=>?_))
  have qR:=eb S _ n1 hS
  show wpAny _ A.in1 (updateSeq S (λ_=>#[])>>=λz=>_) _ _ _
  refine zzA (wpAny_updateSeq qR rfl (zzA (wpAny_letGo (zzG ?_))));have s1:=zzu h' S (Obj.mapSeq λ_=>(#[]:Array Value))
  have e:j=ns.length-1:=by omega
  rw [e];exact hR t _ tk λb o b1 b2 q=>(s1.2 b b2).trans (eb b o b1 (kk b o b1 b2 q))
 |succ r ih=>
  intro j h tk t c hr hj kk st hl hS;have cL:j+1<ns.length:=by omega
  obtain⟨t2,ht2⟩:=hv (j+1) cL
  refine codeAny_builtin PySem.F.entry_max_loop ?_;rw [zz7 PySem.F.plain_max_loop _];show wpAny _ A.in1 (seqItems? (.ref S)>>=λz=>_) _ _ _
  refine zzA (wpAny_seqItems hS rfl ?_);show wpAny _ A.in1 (tryCatch (pyNext (.ref it)) _>>=λz=>_) _ _ _
  refine zzA (wpAny_tryCatch (wpAny_pyNext_list_item st hl (x:=.int ns[j+1] t2) (by simpa using ht2) λh' iy sb=>?_))
  have qR:=(sb.2 S n1).trans hS
  have qQ:h'.IsList l ak.toArray:=hl.at λo q=>(sb.2 l n2).trans q
  have O7:∀b o,b≠it->b≠S->s0.heap.get? b=some o->h'.get? b=some o:=λb o b1 b2 q=>(sb.2 b b1).trans (kk b o b1 b2 q)
  refine zzA (zzG ?_);show wpAny _ A.in1 (tryCatch (holding [Value.int ns[j+1] t2,.int ns[j+1] t2] (richCompare .Gt (.int ns[j+1] t2) (.int (bM ns j) t)>>=λz=>_)) _>>=λz=>_) _ _ _
  let cf:Nat->Int:=λk=>if k=0 then bM ns j else ns[j+1]
  refine zzA (wpAny_tryCatch (wpAny_holding (zzA (CmpOf.ints_gt (prog:=prog) (w:=w) (A:=A.in1) (P:=λi v=>∃t,v=.int (cf i) t) cf (λi v h=>h) 1 0 _ _ _ _ _ ⟨t2,rfl⟩ ⟨t,rfl⟩ ?_))))
  refine zzA (wpAny_holding (wpAny_truthy_bool (zzA (wpAny_letGo (zzG ?_)))));have KU:bM ns (j+1)=if bM ns j<ns[j+1] then ns[j+1] else bM ns j:=by
   rw [bM,zzK,zzg cL]
   rfl
  by_cases hb:bM ns j<ns[j+1]
  ·rw [if_pos hb] at KU;obtain⟨c2,hc2⟩:=tj (ys:=#[Value.int ns[j+1] t2,.int ns[j+1] t2]) qR
   have s1:=zzu h' S (Obj.mapSeq λ_=>#[Value.int ns[j+1] t2,.int ns[j+1] t2])
   have hd:decide (cf 1>cf 0)=true:=zzh hb
   simp! [hd,if_true];refine zzA (wpAny_updateSeq qR rfl (zzA (wpAny_letGo ?_)));rw [name];refine zzG ⟨plainId_quiet PySem.F.plain_max_loop _,ih (j+1) _ tk t2 c2 (by omega) cL (λb o b1 b2 q=>(s1.2 b b2).trans (O7 b o b1 b2 q)) ?_ ?_ (by rw [KU];exact hc2)⟩
   ·exact iy.at λo q=>(s1.2 it (Ne.symm n1)).trans q
   ·exact qQ.at λo q=>(s1.2 l n3).trans q
  ·rw [if_neg hb] at KU;have hd:decide (cf 1>cf 0)=false:=zz0 hb
   simp! [hd,zze,if_false];refine zzA (wpAny_letGo ?_);rw [name];exact zzG ⟨plainId_quiet PySem.F.plain_max_loop _,ih (j+1) _ tk t c (by omega) cL O7 iy qQ (by rw [KU];exact qR)⟩
end
def vN{X:Cx}(hc:X.calm=true){aa:List (Addr×Obj)}{s:Shared}{σ:St}{H:Hp}{p:Addr}{ns:List Int}{d:Int}{t0:Tok}{Q:VK}(I:Inv X aa σ H s)(hp:dw X.K H p (ns.map V.int))(q:Q (.int (maxD ns d)) H):
 wpAny (model X.prog X.w) X.A (call (.builtin "max") [.ref p] [(Str.ofString "default",.int d t0)]) (EP X aa σ Q) X.xe s:=by
 have name:(toString "max"++toString ".loop":String)="max.loop":=by decide
 have hh:X.A.handled=none:=I.ok.hd hc
 obtain⟨ak,rv,pl,hz⟩:=I.list hp
 have cL:p<(zz9 s):=by obtain⟨_,e,_⟩:=pl.isList;exact zzO e
 have hlen:ak.length=ns.length:=by rw [<-rv.length,zzl]
 have zG:∀i (h:i<ns.length),∃t,ak[i]?=some (.int ns[i] t):=λi hi=>by
  obtain⟨u,hu,t,ru⟩:=rv.get (i:=i) (x:=V.int ns[i]) (by rw [zzQ,zzg hi];rfl)
  exact⟨t,by rw [hu,ru]⟩
 refine kmk_tree PySem.F.kind_max PySem.F.plain_max PySem.F.entry_max (u5 _ _) ?_;show wpAny _ X.A.in1 (Builtin.Builtins.bindParams "max" ["key","default"] 0 ⟨[],[(Str.ofString "default",.int d t0)]⟩>>=λz=>_) _ _ s
 refine zzA (wpAny_of_eq (show Builtin.Builtins.bindParams "max" ["key","default"] 0 ⟨[],[(Str.ofString "default",.int d t0)]⟩=pure [none,some (.int d t0)] from rfl) (zzA (zzG ?_)));refine zzA (wpAny_pyIter_list pl.isList (zzA (wpAny_newList ?_ (Nat.zero_le _))));rw [name];generalize hit:(zz9 s)=it
 generalize hSS:(s.heap.push {cls:=.type "list_iterator",data:=.fields #[.ref p,.int 0 0]}).objs.size=S
 have eS:S=it+1:=by rw [<-hSS,<-hit];exact size_push' ..
 have nS:S≠it:=by omega
 have np:p≠it:=by rw [<-hit];exact zzb cL
 have Qg:p≠S:=by rw [eS,<-hit];exact zzb (Nat.lt_succ_of_lt cL)
 have keep:∀b ob,s.heap.get? b=some ob->((s.heap.push {cls:=.type "list_iterator",data:=.fields #[.ref p,.int 0 0]}).push (seqObj "list" #[] 0)).get? b=some ob:=λb ob e=>zzB _ (zzB _ e)
 have gI:((s.heap.push {cls:=.type "list_iterator",data:=.fields #[.ref p,.int 0 0]}).push (seqObj "list" #[] 0)).IsListIter it p 0:=by
  rw [<-hit];exact⟨_,zzB _ (zzX _ rfl),rfl,rfl⟩
 have gS:((s.heap.push {cls:=.type "list_iterator",data:=.fields #[.ref p,.int 0 0]}).push (seqObj "list" #[] 0)).get? S=some (seqObj "list" #[] 0):=by
  rw [<-hSS];exact zzX _ rfl
 have gl:((s.heap.push {cls:=.type "list_iterator",data:=.fields #[.ref p,.int 0 0]}).push (seqObj "list" #[] 0)).IsList p ak.toArray:=pl.isList.at λo e=>keep _ _ e
 generalize hg:((s.heap.push {cls:=.type "list_iterator",data:=.fields #[.ref p,.int 0 0]}).push (seqObj "list" #[] 0))=g at keep gI gS gl
 have nH:∀b o,s.heap.get? b=some o->b≠it/\b≠S:=λb o e=>by
  have:=zzO e
  rw [hit] at this;exact⟨zzb this,by rw [eS];exact zzb (Nat.lt_succ_of_lt this)⟩
 have fin:∀(z:Int) (t:Tok) (h':Heap) (tk:Nat),z=maxD ns d->(∀b o,b≠it->b≠S->g.get? b=some o->h'.get? b=some o)->EP X aa σ Q (.int z t) {s with heap:=h',toks:=tk}:=λz t h' tk RS kk=>by
  rw [RS];exact⟨.int _,H,I.kept λb o e=>kk b o (nH b o e).1 (nH b o e).2 (keep b o e),⟨_,rfl⟩,q⟩
 refine zzG ⟨plainId_quiet PySem.F.plain_max_loop _,codeAny_builtin PySem.F.entry_max_loop ?_⟩;rw [zz7 PySem.F.plain_max_loop _];show wpAny _ X.A.in1 (seqItems? (.ref S)>>=λz=>_) _ _ _
 refine zzA (wpAny_seqItems gS rfl ?_);show wpAny _ X.A.in1 (tryCatch (pyNext (.ref it)) _>>=λz=>_) _ _ _
 by_cases hn:ns=[]
 ·refine zzA (wpAny_tryCatch (wpAny_pyNext_list_end hh gI gl (by simp [hlen,hn]) λh' eb=>?_))
  refine zzA (wpAny_rule (zzG ?_));exact fin d t0 h' s.toks (by unfold maxD;rw [if_pos hn]) λb o b1 b2 e=>eb b o b1 e
 ·have h0:0<ns.length:=List.length_pos_iff.2 hn
  obtain⟨t,ht⟩:=zG 0 h0
  refine zzA (wpAny_tryCatch (wpAny_pyNext_list_item gI gl (x:=.int ns[0] t) (by simpa using ht) λh' iy sb=>?_))
  have qR:=(sb.2 S nS).trans gS
  refine zzA (zzG ?_);obtain⟨c2,hc2⟩:=tj (ys:=#[Value.int ns[0] t,.int ns[0] t]) qR
  have s1:=zzu h' S (Obj.mapSeq λ_=>#[Value.int ns[0] t,.int ns[0] t])
  show wpAny _ X.A.in1 (updateSeq S (λ_=>#[Value.int ns[0] t,.int ns[0] t])>>=λz=>_) _ _ _
  refine zzA (wpAny_updateSeq qR rfl ?_);rw [name];have m0:bM ns 0=ns[0]:=by rw [bM,zzK,zzg h0];rfl
  refine zzG ⟨plainId_quiet PySem.F.plain_max_loop _,vP (s0:={s with heap:=g}) hh nS np Qg zG hlen (λt h' tk kk=>fin _ t h' tk (by unfold maxD;rw [if_neg hn]) kk) _ 0 _ s.toks t c2 rfl h0 (λb o b1 b2 e=>(s1.2 b b2).trans ((sb.2 b b1).trans e)) (iy.at λo q=>(s1.2 it (Ne.symm nS)).trans q) ((gl.at λo q=>(sb.2 p np).trans q).at λo q=>(s1.2 p Qg).trans q) (by rw [m0];exact hc2)⟩
end L2
namespace Ci
open PySem L2
def bB{p:Prop}(h:false=true):p:=absurd h zzf
inductive PV where
 |aA|bl (b:Bool)|int (i:Int)|str (z:Str)
 |tup (xs:List PV)|lst (xs:List PV)
 |exc (c:Str)
 |bw (ks:List (List Int)) (vs:List PV)
 deriving Inhabited
structure Wd where
 K:zz8
 mg:Str->Option Value
 xs:List Str
 ts:List (Addr×Str):=[]
def m9(K:zz8)(H:Hp)(a:Addr)(vs:List V):Prop:=
 Rd H a (.lst vs)\/∃(ak:Array Value) (n:Nat),K.lookup a=some {cls:=.type "list",data:=.seq ak n}/\ak.size<=sizeLine/\Vals vs ak.toList
def Hw(K:zz8)(G:Hp)(a:Addr)(vs:List V):Prop:=G a=some (.tup vs)\/eU K G a vs/\∃z,V.str z∈vs
theorem Hw.sq{K:zz8}{G:Hp}{a:Addr}{vs:List V}:Hw K G a vs->eU K G a vs
 |.inl h=>.inl (.inl h)
 |.inr h=>h.1
def kz(ks:List (List Int))(us:List V):List (List Key×V):=(ks.map λk=>k.map Sum.inl).zip us
mutual
def Rep(W:Wd)(G:Hp):PV->V->Prop
 |.aA,v=>v=.aA
 |.bl b,v=>v=.bl b
 |.int i,v=>v=.int i
 |.str z,v=>v=.str z
 |.tup xs,v=>∃a vs,v=.ref a/\Hw W.K G a vs/\ah W G xs vs
 |.lst xs,v=>∃a vs,v=.ref a/\m9 W.K G a vs/\ah W G xs vs
 |.exc c,v=>∃a C,v=.ref a/\c∈W.xs/\W.mg c=some (.ref C)/\G a=some (M3 a C)
 |.bw ks vs,v=>∃a o us,v=.ref a/\ks.length=us.length/\G a=some (.cU o (.dT (kz ks us)))/\ah W G vs us
def ah(W:Wd)(G:Hp):List PV->List V->Prop
 |[],vs=>vs=[]
 |p::ps,vs=>∃v r,vs=v::r/\Rep W G p v/\ah W G ps r
end
def ay.tup{K:zz8}{H H':Hp}{a:Addr}{xs:List V}(e:ay H H')(h:eU K H a xs):eU K H' a xs:=by
 rcases h with(h|⟨o,h⟩)|h
 ·exact .inl (.inl (e _ _ h))
 ·exact .inl (.inr ⟨o,e _ _ h⟩)
 ·exact .inr h
def ay.tp{K:zz8}{H H':Hp}{a:Addr}{xs:List V}(e:ay H H')(h:Hw K H a xs):Hw K H' a xs:=h.elim (λz=>.inl (e _ _ z)) λz=>.inr ⟨ay.tup e z.1,z.2⟩
def ay.rd{H H':Hp}{a:Addr}{u:HO}(e:ay H H')(h:Rd H a u):Rd H' a u:=by
 rcases h with h|⟨o,h⟩
 ·exact .inl (e _ _ h)
 ·exact .inr ⟨o,e _ _ h⟩
def ay.ls{K:zz8}{H H':Hp}{a:Addr}{vs:List V}(e:ay H H')(h:m9 K H a vs):m9 K H' a vs:=h.elim (λz=>.inl (ay.rd e z)) .inr
section
variable{W:Wd}{G G':Hp}
mutual
theorem Rep.same(s:ay G G'):∀(p:PV) {v:V},Rep W G p v->Rep W G' p v
 |.aA,_,h=>by simpa only [Rep] using h
 |.bl b,_,h=>by simpa only [Rep] using h
 |.int i,_,h=>by simpa only [Rep] using h
 |.str z,_,h=>by simpa only [Rep] using h
 |.tup xs,_,h=>by
  simp! [Rep] at h⊢;obtain⟨a,vs,e,q,l⟩:=h
  exact⟨a,vs,e,ay.tp s q,ah.same s xs l⟩
 |.lst xs,_,h=>by
  simp! [Rep] at h⊢;obtain⟨a,vs,e,q,l⟩:=h
  exact⟨a,vs,e,ay.ls s q,ah.same s xs l⟩
 |.exc c,_,h=>by
  simp! [Rep] at h⊢;obtain⟨a,C,e,x,m,q⟩:=h
  exact⟨a,C,e,x,m,s _ _ q⟩
 |.bw ks vs,_,h=>by
  simp! [Rep] at h⊢;obtain⟨a,o,us,e,n,m,l⟩:=h
  exact⟨a,o,us,e,n,s _ _ m,ah.same s vs l⟩
theorem ah.same(s:ay G G'):∀(ps:List PV) {vs:List V},ah W G ps vs->ah W G' ps vs
 |[],_,h=>by simpa only [ah] using h
 |p::ps,_,h=>by
  simp! [ah] at h⊢;obtain⟨v,r,e,h1,h2⟩:=h
  exact⟨v,r,e,Rep.same s p h1,ah.same s ps h2⟩
end
theorem ah.paired:∀{ps:List PV} {vs:List V},ah W G ps vs->Paired (λv p=>Rep W G p v) vs ps
 |[],_,h=>by simp! [ah] at h;subst h;exact .nil
 |p::ps,_,h=>by
  simp! [ah] at h;obtain⟨v,r,rfl,h1,h2⟩:=h
  exact .cons h1 (ah.paired h2)
def ah.length{ps:List PV}{vs:List V}(h:ah W G ps vs):vs.length=ps.length:=jY h.paired
def ah.nil:ah W G [] []:=by simp! [ah]
def ah.cons{p:PV}{v:V}{ps:List PV}{vs:List V}(h:Rep W G p v)(t:ah W G ps vs):ah W G (p::ps) (v::vs):=by simp! [ah];exact⟨_,_,rfl,h,t⟩
def ah.bp{p:PV}{ps:List PV}{vs:List V}(h:ah W G (p::ps) vs):∃v r,vs=v::r/\Rep W G p v/\ah W G ps r:=by simpa only [ah] using h
theorem ah.append:∀{ps qs:List PV} {vs us:List V},ah W G ps vs->ah W G qs us->ah W G (ps++qs) (vs++us)
 |[],_,_,_,h,k=>by simp! [ah] at h;subst h;exact k
 |p::ps,_,_,_,h,k=>by
  obtain⟨v,r,rfl,h1,h2⟩:=h.bp
  exact .cons h1 (h2.append k)
def ah.get:∀{ps:List PV} {vs:List V} {i:Nat} {v:V},ah W G ps vs->vs[i]?=some v->∃p,ps[i]?=some p/\Rep W G p v:=λh e=>nr h.paired e
theorem ah.nv:∀{ps:List PV} {vs:List V} {i:Nat} {p:PV},ah W G ps vs->ps[i]?=some p->∃v,vs[i]?=some v/\Rep W G p v
 |[],_,_,_,_,e=>by simp at e
 |p::ps,_,0,q,h,e=>by
  obtain⟨v,r,rfl,h1,h2⟩:=h.bp
  simp at e;subst e;exact⟨v,rfl,h1⟩
 |p::ps,_,i+1,q,h,e=>by
  obtain⟨v,r,rfl,h1,h2⟩:=h.bp
  obtain⟨u,e1,k⟩:=h2.nv (i:=i) (by simpa using e)
  exact⟨u,by simpa using e1,k⟩
theorem ah.drop:∀{ps:List PV} {vs:List V} (n:Nat),ah W G ps vs->ah W G (ps.drop n) (vs.drop n)
 |_,_,0,h=>by simpa using h
 |[],_,n+1,h=>by simp! [ah] at h;subst h;simp! [List.drop_nil];exact .nil
 |p::ps,_,n+1,h=>by
  obtain⟨v,r,rfl,h1,h2⟩:=h.bp
  simpa using h2.drop n
theorem ah.take:∀{ps:List PV} {vs:List V} (n:Nat),ah W G ps vs->ah W G (ps.take n) (vs.take n)
 |_,_,0,h=>by simp! [List.take_zero];exact .nil
 |[],_,n+1,h=>by simp! [ah] at h;subst h;simp! [List.take_nil];exact .nil
 |p::ps,_,n+1,h=>by
  obtain⟨v,r,rfl,h1,h2⟩:=h.bp
  simp! [List.take_succ_cons];exact .cons h1 (h2.take n)
end
def gC(H H':Hp):Prop:=∀b o,H b=some o->(∀ps,o≠.gf ps)/\H' b=some o\/∃ps m,o=.gf ps/\H' b=some (.gf (ps++m))
def gC.refl(H:Hp):gC H H:=λb o h=>by
 cases o with
 |gf ps=>exact .inr ⟨ps,#[],rfl,by simpa using h⟩
 |_=>exact .inl ⟨(λ_ z=>nomatch z),h⟩
def gC.trans{H H1 H2:Hp}(a:gC H H1)(b:gC H1 H2):gC H H2:=λc o h=>by
 rcases a c o h with⟨n,e⟩|⟨ps,m,rfl,e⟩
 ·rcases b c o e with y|⟨ps,m,rfl,e2⟩
  ·exact .inl y
  ·exact absurd rfl (n ps)
 ·rcases b c _ e with⟨n,_⟩|⟨ps',m',e2,e3⟩
  ·exact absurd rfl (n _)
  ·cases e2;exact .inr ⟨ps,m++m',rfl,by rw [e3,Array.append_assoc]⟩
def gC.free{H H':Hp}(e:gC H H'){l:Addr}(h:H' l=Option.none):H l=Option.none:=by
 cases q:H l with
 |none=>rfl
 |some o=>
  rcases e l o q with⟨_,z⟩|⟨_,_,_,z⟩
  ·rw [h] at z;cases z
  ·rw [h] at z;cases z
def gC.at{H H':Hp}(e:gC H H'){b:Addr}{o:HO}(h:H b=some o)(n:∀ps,o≠.gf ps):H' b=some o:=by
 rcases e b o h with⟨_,z⟩|⟨ps,_,rfl,_⟩
 ·exact z
 ·exact absurd rfl (n ps)
def gC.tX{H H':Hp}(e:gC H H'){b:Addr}(h:H b≠none)(n:∀vs,H b≠some (.tup vs)):∀vs,H' b≠some (.tup vs):=λvs z=>by
 cases q:H b with
 |none=>exact h q
 |some o=>
  rcases e b o q with⟨_,y⟩|⟨_,_,_,y⟩
  ·rw [z] at y;cases y;exact n vs q
  ·rw [z] at y;cases y
def gC.of{H H':Hp}(e:ay H H'):gC H H':=λb o h=>by
 cases o with
 |gf ps=>exact .inr ⟨ps,#[],rfl,by simpa using e _ _ h⟩
 |_=>exact .inl ⟨(λ_ z=>nomatch z),e _ _ h⟩
def gC.tup{K:zz8}{H H':Hp}{a:Addr}{xs:List V}(e:gC H H')(h:eU K H a xs):eU K H' a xs:=by
 rcases h with(h|⟨o,h⟩)|h
 ·exact .inl (.inl (e.at h (λ_ z=>nomatch z)))
 ·exact .inl (.inr ⟨o,e.at h (λ_ z=>nomatch z)⟩)
 ·exact .inr h
def gC.ls{K:zz8}{H H':Hp}{a:Addr}{vs:List V}(e:gC H H')(h:m9 K H a vs):m9 K H' a vs:=by
 rcases h with(h|⟨o,h⟩)|h
 ·exact .inl (.inl (e.at h (λ_ z=>nomatch z)))
 ·exact .inl (.inr ⟨o,e.at h (λ_ z=>nomatch z)⟩)
 ·exact .inr h
def cS(W:Wd)(G H:Hp):Prop:=∀P q,(P,q)∈W.ts->G P=none/\∃ps,H P=some (.gf ps)/\TriplesOk ps.toList/\
 ∀pos cv,codeAmong pos ps.toList=some cv->∃c' oc nO t,cv=.ref c'/\G c'=some (.cU oc sM)/\oc.data=.fields nO/\nO[1]?=some (.str q t)
theorem cS.same{W:Wd}{G G' H H':Hp}(t:cS W G H)(g:ay G G')(own:∀a,H a≠none->(∀vs,H a≠some (.tup vs))->G a=none->G' a=none)(h:∀P ps,H P=some (.gf ps)->H' P=some (.gf ps)):cS W G' H':=λP q m=>by
 obtain⟨n,ps,e,tr,al⟩:=t P q m
 refine⟨own P (by rw [e];exact λz=>nomatch z) (by rw [e];exact λ_ z=>nomatch z) n,ps,h P ps e,tr,λpos cv y=>?_⟩
 obtain⟨c',oc,nO,t,e1,e2,e3,e4⟩:=al pos cv y
 exact⟨c',oc,nO,t,e1,g _ _ e2,e3,e4⟩
structure aH(W:Wd)(G H G' H':Hp):Prop where
 g:ay G G'
 h:gC H H'
 sub:ay G' H'
 own:∀a,H a≠none->(∀vs,H a≠some (.tup vs))->G a=none->G' a=none
 tab:cS W G H->cS W G' H'
section
variable{W:Wd}
def aH.refl{G H:Hp}(s:ay G H):aH W G H G H:=⟨ay.refl _,gC.refl _,s,λ_ _ _ h=>h,id⟩
def aH.trans{G H G1 H1 G2 H2:Hp}(a:aH W G H G1 H1)(b:aH W G1 H1 G2 H2):aH W G H G2 H2:=
 ⟨a.g.trans b.g,a.h.trans b.h,b.sub,λx hx ht hg=>b.own x (λz=>hx (a.h.free z)) (a.h.tX hx ht) (a.own x hx ht hg),λt=>b.tab (a.tab t)⟩
def nE{H:Hp}{p:Addr}{o:HO}(h:∀ps,H p≠some (.gf ps))(P:Addr)(ps:Array Value)(e:H P=some (.gf ps)):upd H p o P=some (.gf ps):=by
 rw [ai (λz=>by subst z;exact h ps e)];exact e
theorem aH.new{G H:Hp}{p:Addr}{o:HO}(s:ay G H)(h:H p=none):aH W G H (upd G p o) (upd H p o) where
 g:=bf (s.free h)
 h:=.of (bf h)
 sub:=λb u e=>by
  by_cases hb:b=p
  ·subst hb;rw [au] at e⊢;exact e
  ·rw [ai hb] at e⊢;exact s _ _ e
 own:=λa ha _ hg=>by
  have:a≠p:=λz=>by subst z;exact ha h
  rw [ai this];exact hg
 tab:=λt=>t.same (bf (s.free h)) (λa ha _ hg=>by
  have:a≠p:=λz=>by subst z;exact ha h
  rw [ai this];exact hg) (nE (λps z=>by rw [h] at z;cases z))
def aH.adopt{G H:Hp}{b:Addr}{vs:List V}(s:ay G H)(h:H b=some (.tup vs)):aH W G H (upd G b (.tup vs)) H:=by
 have sm:ay G (upd G b (.tup vs)):=λc u e=>by
  by_cases hc:c=b
  ·subst hc;rw [au];have:=s _ _ e;rw [h] at this;exact this
  ·rw [ai hc];exact e
 have ow:∀a,H a≠none->(∀vs,H a≠some (.tup vs))->G a=none->upd G b (.tup vs) a=none:=λa _ n e=>by
  have:a≠b:=λz=>by subst z;exact n vs h
  rw [ai this];exact e
 exact⟨sm,gC.refl _,λc u e=>by
  by_cases hc:c=b
  ·subst hc;rw [au] at e;cases e;exact h
  ·rw [ai hc] at e;exact s _ _ e,ow,λt=>t.same sm ow λ_ _ e=>e⟩
def aH.MX{G H:Hp}{p:Addr}{o:HO}(s:ay G H)(h:H p=none):aH W G H G (upd H p o):=
 ⟨ay.refl _,.of (bf h),s.trans (bf h),λ_ _ _ hg=>hg,λt=>t.same (ay.refl _) (λ_ _ _ h=>h) (nE (λps z=>by rw [h] at z;cases z))⟩
end
def mP(scope:Scope):List Str:=((scope.names.filter λp=>p.2==.free).map (·.1)).reverse
def okN(x:Str):Bool:=!(x=="__debug__")&&!(x=="__classdict__")&&!(x=="__name__")
def gD(x:Str):Bool:=x.cps.toList.contains 64
def fS{α:Type}{a:α}{p:Prop}(h:(none:Option α)=some a):p:=nomatch h
def gJ:Expr->Option Str
 |.Name x _=>some x
 |_=>none
def eR{e:Expr}{x:Str}(h:gJ e=some x):∃p,e=.Name x p:=by
 cases e with
 |Name y p=>cases h;exact⟨_,rfl⟩
 |_=>exact fS h
def DU:Expr->Option (Expr×List Expr×List Keyword×Pos)
 |.Call f a k p=>some (f,a,k,p)
 |_=>none
def kJ{e:Expr}{q:Expr×List Expr×List Keyword×Pos}(h:DU e=some q):e=.Call q.1 q.2.1 q.2.2.1 q.2.2.2:=by
 cases e with
 |Call f a k p=>cases h;rfl
 |_=>exact fS h
def MY:List Arg->Option (List Str)
 |[]=>some []
 |[a]=>some [a.arg]
 |_=>none
noncomputable def NB(p:Arguments):Option (List Str):=if(p.posonlyargs.isEmpty&&p.vararg.isNone&&p.kwonlyargs.isEmpty&&p.kw_defaults.isEmpty&&p.kwarg.isNone&&p.defaults.isEmpty)=true then MY p.args else none
def xh:List Expr->List (Option Str)->Bool
 |[],[]=>true
 |.Name x _::r,some y::t=>x==y&&okN x&&xh r t
 |_,_=>false
noncomputable def QO(ps:List Str)(scope:Scope):Bool:=
 scope.kind==.function&&!scope.isCoroutine&&!scope.isGenerator&&decide ((ps++mP scope).Nodup)&&(scope.names.all λy=>decide (y.2≠.cell))&&(ps.all λx=>decide (scope.names.lookup x=some .local))&&((mP scope).all λx=>decide (scope.names.lookup x=some .free))
noncomputable def LS(g:Str)(idx:List Nat)(params:Arguments)(body:Expr)(scope:Scope):Bool:=(NB params).any λps=>(DU body).any λq=>gJ q.1==some g&&q.2.2.1.isEmpty&&!q.2.1.isEmpty&&decide (idx.head?=some ps.length)&&scope.names.lookup g==some .globalImplicit&&okN g&&!gD g&&xh q.2.1 (idx.tail.map λi=>(ps++mP scope)[i]?)&&QO ps scope
structure NH(W:Wd)(G:Hp)(g:Str)(idx:List Nat)(dS:List PV)(f c':Addr)(oc:Obj)(nO:Array Value)(t:Tok)(Js pm:Value)(params:Arguments)(body:Expr)(scope:Scope)(qual:Str)(cl:List (Str×Addr))(Z:List (Addr×Obj))(ws:List V):Prop where
 lg:LS g idx params body scope=true
 fo:G f=some (.cU (PySem.W.kla_obj "<lambda>" qual params body scope cl pm c' Js) sM)
 co:G c'=some (.cU oc sM)
 cd:oc.data=.fields nO
 cn:nO[1]?=some (.str qual t)
 fz:Z.lookup f=none
 cz:Z.lookup c'=none
 inj:∀x y c,cl.lookup x=some c->cl.lookup y=some c->x=y
 has:∀y∈mP scope,∃c,cl.lookup y=some c
 cells:∀x c,cl.lookup x=some c->∃o v,Z.lookup c=some o/\o.data=.cell v
 zs:∀b o,Z.lookup b=some o->G b=some (.cU o sM)
 zc:∀b o,Z.lookup b=some o->∃v,o.data=.cell v
 vals:∀(i:Nat) y c,(mP scope)[i]?=some y->cl.lookup y=some c->∀v,ws[i]?=some v->∃u o,RelV v u/\Z.lookup c=some o/\o.data=.cell (some u)
 len:ws.length=(mP scope).length
 rep:ah W (fA Z G) dS ws
def uY(W:Wd)(G:Hp)(g:Str)(idx:List Nat)(dS:List PV)(v:V):Prop:=∃f c' oc nO t Js pm params body scope qual cl Z ws,v=.ref f/\NH W G g idx dS f c' oc nO t Js pm params body scope qual cl Z ws
theorem uH{Z:List (Addr×Obj)}{G G':Hp}(s:ay G G'):ay (fA Z G) (fA Z G'):=λb u e=>by
 obtain⟨q,e1⟩:=su e
 rw [eB q];exact s _ _ e1
def uY.same{W:Wd}{G G':Hp}{g:Str}{idx:List Nat}{dS:List PV}{v:V}(s:ay G G')(h:uY W G g idx dS v):uY W G' g idx dS v:=by
 obtain⟨f,c',oc,nO,t,Js,pm,params,body,scope,qual,cl,Z,ws,e,d⟩:=h
 exact⟨f,c',oc,nO,t,Js,pm,params,body,scope,qual,cl,Z,ws,e,⟨d.lg,s _ _ d.fo,s _ _ d.co,d.cd,d.cn,d.fz,d.cz,d.inj,d.has,d.cells,λb o q=>s _ _ (d.zs b o q),d.zc,d.vals,d.len,ah.same (uH s) dS d.rep⟩⟩
inductive Slot where
 |no|val (p:PV)|own (p:PV)|fn (g:Str) (idx:List Nat) (dS:List PV)
 deriving Inhabited
abbrev Sl:=List Slot
def Own(W:Wd)(H0 G H:Hp):PV->V->Prop
 |.lst xs,v=>∃a vs,v=.ref a/\H a=some (.lst vs)/\G a=none/\H0 a=none/\ah W G xs vs
 |.bw ks ps,v=>∃a us,v=.ref a/\ks.length=us.length/\H a=some (.dT (kz ks us))/\G a=none/\H0 a=none/\ah W G ps us
 |_,_=>False
def Top(W:Wd)(H0 G H:Hp)(p:PV)(v:V):Prop:=Rep W G p v\/Own W H0 G H p v
def DI(W:Wd)(H0 G H:Hp):Slot->Option V->Prop
 |.no,_=>True
 |.val p,o=>∃v,o=some v/\Rep W G p v
 |.own p,o=>∃v,o=some v/\Own W H0 G H p v
 |.fn g idx dS,o=>∃v,o=some v/\uY W G g idx dS v
structure SR(W:Wd)(H0:Hp)(env:Sl)(σ:St)(G H:Hp):Prop where
 len:env.length=σ.length
 sub:ay G H
 base:gC H0 H
 slot:∀(i:Nat) (s:Slot),env[i]?=some s->∃o,σ[i]?=some o/\DI W H0 G H s o
 apart:∀(i j:Nat) (p q:PV) (a:Addr),env[i]?=some (.own p)->env[j]?=some (.own q)->σ[i]?=some (some (.ref a))->σ[j]?=some (some (.ref a))->i=j
 tab:cS W G H
 md:cS W G H0
section
variable{W:Wd}{H0 G H G' H':Hp}{env:Sl}{σ:St}
theorem Own.grow(g:aH W G H G' H'):∀{p:PV} {v:V},Own W H0 G H p v->Own W H0 G' H' p v
 |.lst xs,_,h=>by
  obtain⟨a,vs,e,h1,h2,h3,l⟩:=h
  exact⟨a,vs,e,g.h.at h1 (λ_ z=>nomatch z),g.own a (by rw [h1];exact λz=>by cases z) (by rw [h1];exact λ_ z=>by cases z) h2,h3,ah.same g.g xs l⟩
 |.bw ks ps,_,h=>by
  obtain⟨a,vs,e,n,h1,h2,h3,l⟩:=h
  exact⟨a,vs,e,n,g.h.at h1 (λ_ z=>nomatch z),g.own a (by rw [h1];exact λz=>by cases z) (by rw [h1];exact λ_ z=>by cases z) h2,h3,ah.same g.g ps l⟩
 |.aA,_,h=>h|.bl _,_,h=>h|.int _,_,h=>h|.str _,_,h=>h|.tup _,_,h=>h|.exc _,_,h=>h
theorem DI.grow(g:aH W G H G' H'):∀{s:Slot} {o:Option V},DI W H0 G H s o->DI W H0 G' H' s o
 |.no,_,_=>trivial
 |.val p,_,h=>by obtain⟨v,e,r⟩:=h;exact⟨v,e,Rep.same g.g p r⟩
 |.own p,_,h=>by obtain⟨v,e,r⟩:=h;exact⟨v,e,r.grow g⟩
 |.fn _ _ _,_,h=>by obtain⟨v,e,r⟩:=h;exact⟨v,e,r.same g.g⟩
theorem SR.grow(r:SR W H0 env σ G H)(g:aH W G H G' H'):SR W H0 env σ G' H':=
 ⟨r.len,g.sub,r.base.trans g.h,λi s e=>by obtain⟨o,h1,h2⟩:=r.slot i s e;exact⟨o,h1,h2.grow g⟩,r.apart,g.tab r.tab,r.md.same g.g (λa h1 h3 h2=>g.own a (λz=>h1 (r.base.free z)) (r.base.tX h1 h3) h2) λ_ _ h=>h⟩
def Top.grow{p:PV}{v:V}(g:aH W G H G' H')(h:Top W H0 G H p v):Top W H0 G' H' p v:=h.elim (λz=>.inl (Rep.same g.g p z)) λz=>.inr (z.grow g)
def Top.lst{xs:List PV}{v:V}(s:ay G H)(h:Top W H0 G H (.lst xs) v):∃a vs,v=.ref a/\m9 W.K H a vs/\ah W G xs vs:=by
 rcases h with h|h
 ·simp! [Rep] at h;obtain⟨a,vs,e,q,l⟩:=h
  exact⟨a,vs,e,ay.ls s q,l⟩
 ·obtain⟨a,vs,e,h1,_,_,l⟩:=h
  exact⟨a,vs,e,.inl (.inl h1),l⟩
def Top.tup{xs:List PV}{v:V}(s:ay G H)(h:Top W H0 G H (.tup xs) v):∃a vs,v=.ref a/\eU W.K H a vs/\ah W G xs vs:=by
 rcases h with h|h
 ·simp! [Rep] at h;obtain⟨a,vs,e,q,l⟩:=h
  exact⟨a,vs,e,ay.tup s q.sq,l⟩
 ·exact h.elim
def Top.tupI{xs:List PV}{v:V}{ns:List Int}(s:ay G H)(hx:xs=ns.map .int)(h:Top W H0 G H (.tup xs) v):∃a,v=.ref a/\G a=some (.tup (ns.map V.int)):=by
 rcases h with h|h
 ·simp! [Rep] at h;obtain⟨a,vs,e,q,l⟩:=h
  have ev:vs=ns.map V.int:=by
   subst hx
   clear q e
   induction ns generalizing vs with
   |nil=>simp! [List.map_nil,ah] at l;exact l
   |cons n ns ih=>
    obtain⟨u,r,rfl,h1,h2⟩:=l.bp
    simp! [Rep] at h1;rw [h1,ih r h2]
    rfl
  subst ev;rcases q with q|⟨_,z,hz⟩
  ·exact⟨a,e,q⟩
  ·obtain⟨n,_,hn⟩:=zzx.mp hz
   cases hn
 ·exact h.elim
def Top.bw{ks:List (List Int)}{ps:List PV}{v:V}(s:ay G H)(h:Top W H0 G H (.bw ks ps) v):∃a us,v=.ref a/\ks.length=us.length/\Rd H a (.dT (kz ks us))/\ah W G ps us:=by
 rcases h with h|h
 ·simp! [Rep] at h;obtain⟨a,o,us,e,n,q,l⟩:=h
  exact⟨a,us,e,n,.inr ⟨o,s _ _ q⟩,l⟩
 ·obtain⟨a,vs,e,n,q,_,_,l⟩:=h
  exact⟨a,vs,e,n,.inl q,l⟩
def Top.int{i:Int}{v:V}(h:Top W H0 G H (.int i) v):v=.int i:=h.elim (λz=>by simpa only [Rep] using z) λz=>z.elim
def Top.bl{b:Bool}{v:V}(h:Top W H0 G H (.bl b) v):v=.bl b:=h.elim (λz=>by simpa only [Rep] using z) λz=>z.elim
def Top.str{b:Str}{v:V}(h:Top W H0 G H (.str b) v):v=.str b:=h.elim (λz=>by simpa only [Rep] using z) λz=>z.elim
def Top.aA{v:V}(h:Top W H0 G H .aA v):v=.aA:=h.elim (λz=>by simpa only [Rep] using z) λz=>z.elim
def Rep.i{i:Int}:Rep W G (.int i) (.int i):=by simp! [Rep]
def Rep.b{i:Bool}:Rep W G (.bl i) (.bl i):=by simp! [Rep]
def Rep.s{i:Str}:Rep W G (.str i) (.str i):=by simp! [Rep]
def Rep.n:Rep W G .aA .aA:=by simp! [Rep]
def Rep.l{a:Addr}{xs:List PV}{vs:List V}(h:m9 W.K G a vs)(l:ah W G xs vs):Rep W G (.lst xs) (.ref a):=by simp! [Rep];exact⟨a,vs,rfl,h,l⟩
def Rep.t{a:Addr}{xs:List PV}{vs:List V}(h:Hw W.K G a vs)(l:ah W G xs vs):Rep W G (.tup xs) (.ref a):=by simp! [Rep];exact⟨a,vs,rfl,h,l⟩
end
end Ci
namespace L2
open PySem PySem.Spec PyProof.Rows
end L2
namespace HT
open PySem PySem.Spec PyProof.Rows
section
end
end HT
namespace L2
open PySem PySem.Spec PyProof.Rows
end L2
namespace L2
open PySem PySem.Spec PyProof.Rows PySem.W
end L2
namespace Ci
open PySem L2
inductive Res(α:Type) where
 |ok (a:α)|exc (c:Str)|bad
@[inline] def Res.bind{α β:Type}:Res α->(α->Res β)->Res β
 |.ok a,f=>f a
 |.exc c,_=>.exc c
 |.bad,_=>.bad
instance:Monad Res where
 pure:=.ok
 bind:=Res.bind
def Res.aU{α β:Type}{r:Res α}{f:α->Res β}{b:β}(h:r.bind f=.ok b):∃a,r=.ok a/\f a=.ok b:=by
 cases r with
 |ok a=>exact⟨a,rfl,h⟩
 |exc c=>cases h
 |bad=>cases h
def Res.ip{α β:Type}{r:Res α}{f:α->Res β}{c:Str}(h:r.bind f=.exc c):r=.exc c\/∃a,r=.ok a/\f a=.exc c:=by
 cases r with
 |ok a=>exact .inr ⟨a,rfl,h⟩
 |exc c'=>cases h;exact .inl rfl
 |bad=>cases h
def Res.of{α:Type}:Option α->Res α
 |some a=>.ok a
 |none=>.bad
def Res.well{α:Type}:Res α->Res α
 |.ok a=>.ok a
 |_=>.bad
abbrev cK:Nat:=1000000
def eqs(f:PV->PV->Bool):List PV->List PV->Bool
 |[],[]=>true
 |x::xs,y::ys=>f x y&&eqs f xs ys
 |_,_=>false
noncomputable def gX:Nat->PV->PV->Bool
 |_,.aA,.aA=>true
 |_,.bl a,.bl b=>a==b
 |_,.bl a,.int i=>(if a then 1 else 0)==i
 |_,.int i,.bl a=>i==(if a then 1 else 0)
 |_,.int i,.int j=>i==j
 |_,.str x,.str y=>x==y
 |n+1,.tup xs,.tup ys=>eqs (gX n) xs ys
 |n+1,.lst xs,.lst ys=>eqs (gX n) xs ys
 |_,_,_=>false
noncomputable def plain:Nat->PV->Bool
 |_,.aA=>true
 |_,.bl _=>true
 |_,.int _=>true
 |_,.str _=>true
 |n+1,.tup xs=>xs.all (plain n)
 |n+1,.lst xs=>xs.all (plain n)
 |_,_=>false
abbrev DP:Nat:=9
noncomputable abbrev eqv:PV->PV->Bool:=gX DP
noncomputable abbrev vZ:PV->Bool:=plain DP
inductive HU where|add|sub|mul|mod|fdiv
inductive xg where|eq|ne|lt|le|gt|ge|is|oB|zy|qH
def aN(i:Int):Bool:=decide (-(2^64)<i)&&decide (i<2^64)
noncomputable def binOp:HU->PV->PV->Res PV
 |.add,.int i,.int j=>.ok (.int (i+j))
 |.add,.str x,.str y=>if x.length+y.length<=cK then .ok (.str (x++y)) else .bad
 |.add,.lst x,.lst y=>if x.length+y.length<=cK then .ok (.lst (x++y)) else .bad
 |.sub,.int i,.int j=>.ok (.int (i-j))
 |.mul,.int i,.int j=>if aN i||aN j then .ok (.int (i*j)) else .bad
 |.mod,.int i,.int j=>if 0<j then .ok (.int (i%j)) else .bad
 |.fdiv,.int i,.int j=>if 0<j/\j<1073741824 then .ok (.int (i/j)) else .bad
 |_,_,_=>.bad
def intsOf:List PV->Option (List Int)
 |[]=>some []
 |.int i::r=>(intsOf r).map (i::·)
 |_=>none
def aW{α:Type}:List (List Int)->List α->List Int->Option α
 |k'::ks,v::vs,k=>if k'=k then some v else aW ks vs k
 |_,_,_=>none
def da(ks:List (List Int))(k:List Int):Bool:=ks.any λk'=>decide (k'=k)
def cI(ks:List (List Int))(k:List Int):List (List Int):=if da ks k then ks else ks++[k]
def cX{α:Type}(ks:List (List Int))(vs:List α)(k:List Int)(p:α):List α:=if da ks k then List.zipWith (λk' v=>if k'=k then p else v) ks vs else vs++[p]
def af(k:List Int):PV:=.tup (k.map .int)
def eN:PV->Option (List Int)
 |.tup xs=>intsOf xs
 |_=>none
def qY:List PV->Option (List (List Int×PV))
 |[]=>some []
 |.tup [x,y]::r=>(eN x).bind λk=>(qY r).map ((k,y)::·)
 |_=>none
def dO{α:Type}:List (List Int×α)->List (List Int)->List α->List (List Int)×List α
 |[],ks,vs=>(ks,vs)
 |p::r,ks,vs=>dO r (cI ks p.1) (cX ks vs p.1 p.2)
noncomputable def uE(x:PV)(ys:List PV):Bool:=ys.any λy=>eqv y x
noncomputable def fk(a b:PV):Res PV:=if vZ a&&vZ b then .ok (.bl (eqv a b)) else .bad
noncomputable def fC(a b:PV):Res PV:=if vZ a&&vZ b then .ok (.bl (!eqv a b)) else .bad
def qz:PV->PV->Res PV
 |.int i,.int j=>.ok (.bl (decide (i<j)))
 |_,_=>.bad
def qI:PV->PV->Res PV
 |.int i,.int j=>.ok (.bl (decide (i<=j)))
 |_,_=>.bad
def rY:PV->PV->Res PV
 |.int i,.int j=>.ok (.bl (decide (j<i)))
 |_,_=>.bad
def pG:PV->PV->Res PV
 |.int i,.int j=>.ok (.bl (decide (j<=i)))
 |_,_=>.bad
def xt:PV->Bool
 |.aA=>true
 |_=>false
def i7:PV->PV->Res PV
 |a,.aA=>.ok (.bl (xt a))
 |.bl a,.bl b=>.ok (.bl (a==b))
 |_,_=>.bad
def eE:PV->PV->Res PV
 |a,.aA=>.ok (.bl (!xt a))
 |_,_=>.bad
noncomputable def rF:PV->PV->Res PV
 |a,.lst ys=>if vZ a&&ys.all vZ then .ok (.bl (uE a ys)) else .bad
 |a,.bw ks _=>(Res.of (eN a)).bind λk=>.ok (.bl (da ks k))
 |_,_=>.bad
noncomputable def gb:PV->PV->Res PV
 |a,.lst ys=>if vZ a&&ys.all vZ then .ok (.bl (!uE a ys)) else .bad
 |a,.bw ks _=>(Res.of (eN a)).bind λk=>.ok (.bl (!da ks k))
 |_,_=>.bad
noncomputable def dc:xg->PV->PV->Res PV
 |.eq=>fk|.ne=>fC|.lt=>qz|.le=>qI|.gt=>rY|.ge=>pG|.is=>i7|.oB=>eE|.zy=>rF|.qH=>gb
noncomputable def aF:PV->PV->Res PV
 |.lst xs,.int i=>Res.of (qw xs i)
 |.tup xs,.int i=>Res.of (qw xs i)
 |.str z,.int i=>if z.length<=cK then(Res.of (qw z.cps.toList i)).bind λc=>.ok (.str ⟨#[c]⟩) else .bad
 |.bw ks vs,y=>(Res.of (eN y)).bind λk=>Res.of (aW ks vs k)
 |_,_=>.bad
def xf{α:Type}(xs:List α)(lo hi:Option Int):List α:=(xs.drop (HT.mw xs.length 0 lo)).take (HT.mw xs.length xs.length hi-HT.mw xs.length 0 lo)
def dZ:PV->Option Int->Option Int->Res PV
 |.lst xs,lo,hi=>.ok (.lst (xf xs lo hi))
 |_,_,_=>.bad
inductive B where|len|abs|max2|min2|int|str|tuple|all|dict|rQ|any
def boolsOf:List PV->Option (List Bool)
 |[]=>some []
 |.bl b::r=>(boolsOf r).map (b::·)
 |_=>none
def chars(z:Str):List PV:=z.cps.toList.map λc=>.str ⟨#[c]⟩
noncomputable def sF:List PV->Res PV
 |[.lst xs]=>.ok (.int xs.length)
 |[.tup xs]=>.ok (.int xs.length)
 |[.str z]=>if z.length<=cK then .ok (.int z.length) else .bad
 |[.bw ks _]=>.ok (.int ks.length)
 |_=>.bad
def zE:List PV->Res PV
 |[.int i]=>.ok (.int (if i<0 then -i else i))
 |_=>.bad
def xM:List PV->Res PV
 |[.int i,.int j]=>.ok (.int (if j>i then j else i))
 |_=>.bad
def wA:List PV->Res PV
 |[.int i,.int j]=>.ok (.int (if j<i then j else i))
 |_=>.bad
def wK:List PV->Res PV
 |[.str z]=>if z.length<=640 then(Res.of (PySem.intText? z)).bind λn=>.ok (.int n) else .bad
 |_=>.bad
def yo:List PV->Res PV
 |[.int i]=>if i.natAbs.log2<1920 then .ok (.str (toString i)) else .bad
 |_=>.bad
def kM:List PV->Res PV
 |[.lst xs]=>.ok (.tup xs)
 |_=>.bad
def yh:List PV->Res PV
 |[.lst xs]=>(Res.of (boolsOf xs)).bind λbs=>.ok (.bl (bs.all id))
 |_=>.bad
def yA:List PV->Res PV
 |[.lst xs]=>(Res.of (boolsOf xs)).bind λbs=>.ok (.bl (bs.any id))
 |_=>.bad
def pT:List PV->Res PV
 |[.lst xs]=>(Res.of (intsOf xs)).bind λns=>if 0<ns.length then .ok (.int (bM ns (ns.length-1))) else .bad
 |_=>.bad
def mF:List PV->Res PV
 |[.lst xs]=>(Res.of (qY xs)).bind λps=>.ok (.bw (dO ps [] []).1 (dO ps [] []).2)
 |_=>.bad
noncomputable def bJ:B->List PV->Res PV
 |.len=>sF|.abs=>zE|.max2=>xM|.min2=>wA|.int=>wK|.str=>yo|.tuple=>kM|.all=>yh|.dict=>mF|.rQ=>pT|.any=>yA
inductive Ty where|int|bool|tuple|list
def gF:Ty->PV->Bool
 |.int,.int _=>true
 |.int,.bl _=>true
 |.bool,.bl _=>true
 |.tuple,.tup _=>true
 |.list,.lst _=>true
 |_,_=>false
def f7(t:Ty):PV->Res PV
 |.exc _=>.bad
 |.bw _ _=>.bad
 |p=>.ok (.bl (gF t p))
inductive Tg where
 |one (i:Nat)|two (i j:Nat)|three (i j k:Nat)
mutual
inductive E where
 |var (i:Nat)|f9 (i:Nat)
 |cst (p:PV)
 |glob (g:Str) (p:PV)
 |call (f:Str) (as:Es)
 |blt (b:B) (as:Es)
 |ty (t:Ty) (a:E)
 |bin (o:HU) (a b:E)
 |cmp (o:xg) (a b:E)
 |ch (o1 o2:xg) (a b c:E)
 |not (a:E)
 |neg (a:E)
 |and (a b:E)|or (a b:E)
 |ite (c a b:E)
 |tup (as:Es)|lst (as:Es)
 |sub (a b:E)
 |slice (a:E) (lo hi:Oe)
 |comp (k:Nat) (cH:List Nat) (tg:Tg) (it:I) (elt:E)
 |bC (k:Nat) (cH:List Nat) (tg:Tg) (it:I) (c elt:E)
 |yH (a:E)
 |get (a k:E)
 |maxD (a:E) (n:Int)
 |JJ (n:Nat)
 |iV (f:Str) (as:Es)
inductive Es where
 |nil|cons (e:E) (es:Es)
inductive Oe where
 |no|some (e:E)
inductive I where
 |seq (e:E)|jj (e:E)|kH (a b:E)|enum (e:E)|zip (as:Es)|sJ (e:E)
end
mutual
inductive S where
 |expr (e:E)
 |set (i:Nat) (e:E)
 |own (i:Nat) (e:E)
 |cU (i:Nat)
 |app (i:Nat) (e:E)
 |pH (i:Nat) (e:E)
 |put (i:Nat) (k e:E)
 |fD (i j:Nat) (e:E)
 |jd (i:Nat) (e:E)
 |ret (e:E)
 |ite (c:E) (a b:Ss)
 |bD (tg:Tg) (it:I) (b:Ss)
 |HY (c:E) (b:Ss)
 |raise (c:Str) (m:Str)
 |brk
 |qL (i:Nat)
inductive Ss where
 |nil|cons (s:S) (ss:Ss)
end
abbrev aM:=Str->List PV->Res PV
def mJ:Option Slot->Res PV
 |some (.val p)=>.ok p
 |_=>.bad
def y4:Option Slot->Res PV
 |some (.val p)=>.ok p
 |some (.own p)=>.ok p
 |_=>.bad
noncomputable def Tg.put:Tg->PV->Sl->Res Sl
 |.one i,p,env=>.ok (env.set i (.val p))
 |.two i j,.tup [a,b],env=>.ok ((env.set i (.val a)).set j (.val b))
 |.three i j k,.tup [a,b,c],env=>.ok (((env.set i (.val a)).set j (.val b)).set k (.val c))
 |_,_,_=>.bad
def eZ(env:Sl)(cH:List Nat):Sl:=cH.map λi=>env.getD i .no
def itemsOf:PV->Res (List PV)
 |.lst xs=>.ok xs
 |.tup xs=>.ok xs
 |.str z=>.ok (chars z)
 |_=>.bad
def qN(e:E)(p:PV):Res (List PV):=match p,e with
 |.bw _ _,.f9 _=>.bad
 |.bw ks _,_=>.ok (ks.map af)
 |.lst xs,_=>.ok xs
 |.tup xs,_=>.ok xs
 |_,_=>.bad
def dh(lo:Int)(n:Nat):List PV:=(List.range n).map λi=>.int (lo+(i:Nat))
def aE(i:Int):Bool:=decide (-(2^62)<=i)&&decide (i<2^62)
def CC:PV->Option (List PV)
 |.lst xs=>some xs
 |.tup xs=>some xs
 |_=>none
def gc:List PV->Option (List (List PV))
 |[]=>some []
 |p::r=>(CC p).bind λxs=>(gc r).map (xs::·)
def hJ:List (List PV)->Nat
 |[]=>0
 |[xs]=>xs.length
 |xs::r=>min xs.length (hJ r)
def fi(xss:List (List PV)):List PV:=(List.range (hJ xss)).map λi=>.tup (xss.map λxs=>xs.getD i .aA)
def bX(n:Nat):List PV->List PV
 |[]=>[]
 |x::xs=>.tup [.int (n:Nat),x]::bX (n+1) xs
def oc:Option PV->List PV->List PV
 |some y,ys=>y::ys
 |none,ys=>ys
def aD(f:PV->Res (Option PV)):List PV->Res (List PV)
 |[]=>.ok []
 |x::xs=>(f x).well.bind λo=>(aD f xs).bind λys=>.ok (oc o ys)
def p9:PV->Bool
 |.bw _ _=>true
 |_=>false
def eY:PV->Bool
 |.aA=>true
 |.bl _=>true
 |.int _=>true
 |.str _=>true
 |_=>false
def lE{α:Type}(p:PV)(f:Bool->Res α):Res α:=match p with
 |.bl b=>f b
 |_=>.bad
section
variable(F:aM)
mutual
noncomputable def aC:E->Sl->Res PV
 |.var i,env=>mJ env[i]?
 |.f9 i,env=>y4 env[i]?
 |.cst p,_=>.ok p
 |.glob _ p,_=>.ok p
 |.call f as,env=>(c8 as env).bind λps=>F f ps
 |.blt b as,env=>(c8 as env).bind λps=>bJ b ps
 |.ty t a,env=>(aC a env).bind λp=>f7 t p
 |.bin o a b,env=>(aC a env).bind λx=>(aC b env).bind λy=>binOp o x y
 |.cmp o a b,env=>(aC a env).bind λx=>(aC b env).bind λy=>dc o x y
 |.ch o1 o2 a b c,env=>(aC a env).bind λx=>(aC b env).bind λy=>(dc o1 x y).bind λt=>lE t λt=>
  if t then(aC c env).bind λz=>dc o2 y z else .ok (.bl false)
 |.not a,env=>(aC a env).bind λx=>lE x λb=>.ok (.bl (!b))
 |.neg a,env=>(aC a env).bind λx=>match x with|.int i=>.ok (.int (-i))|_=>.bad
 |.and a b,env=>(aC a env).bind λx=>lE x λt=>if t then aC b env else .ok (.bl false)
 |.or a b,env=>(aC a env).bind λx=>lE x λt=>if t then .ok (.bl true) else aC b env
 |.ite c a b,env=>(aC c env).bind λx=>lE x λt=>if t then aC a env else aC b env
 |.tup as,env=>(c8 as env).bind λps=>.ok (.tup ps)
 |.lst as,env=>(c8 as env).bind λps=>.ok (.lst ps)
 |.sub a b,env=>(aC a env).bind λx=>(aC b env).bind λy=>aF x y
 |.slice a lo hi,env=>(aC a env).bind λx=>(ua lo env).bind λl=>(ua hi env).bind λh=>dZ x l h
 |.comp k cH tg it elt,env=>(oX it env).bind λxs=>if xs.length<cK then(aD (λx=>(tg.put x (List.replicate k .no++eZ env cH)).bind λag=>(aC elt ag).bind λy=>.ok (some y)) xs).bind λys=>.ok (.lst ys) else .bad
 |.bC k cH tg it c elt,env=>(oX it env).bind λxs=>if xs.length<cK then(aD (λx=>(tg.put x (List.replicate k .no++eZ env cH)).bind λag=>(aC c ag).bind λt=>lE t λt=>if t then(aC elt ag).bind λy=>.ok (some y) else .ok none) xs).bind λys=>.ok (.lst ys) else .bad
 |.yH a,env=>(aC a env).bind λp=>match p with|.lst xs=>.ok (.lst xs.reverse)|_=>.bad
 |.get a k,env=>(aC a env).bind λp=>match p with|.bw ks vs=>(aC k env).bind λq=>(Res.of (eN q)).bind λz=>.ok ((aW ks vs z).getD .aA)|_=>.bad
 |.maxD a n,env=>(aC a env).bind λp=>match p with|.lst xs=>(Res.of (intsOf xs)).bind λns=>.ok (.int (L2.maxD ns n))|_=>.bad
 |.JJ n,env=>(mJ env[n]?).bind λkp=>(Res.of (eN kp)).bind λkk=>.ok (.bw [kk] [.aA])
 |.iV f as,env=>(c8 as env).bind λps=>if(ps.all λp=>!p9 p)=true then(match F f ps with|.ok r=>if eY r=true then .ok r else .bad|_=>.bad) else .bad
noncomputable def c8:Es->Sl->Res (List PV)
 |.nil,_=>.ok []
 |.cons e es,env=>(aC e env).bind λp=>(c8 es env).bind λps=>.ok (p::ps)
noncomputable def ua:Oe->Sl->Res (Option Int)
 |.no,_=>.ok none
 |.some e,env=>(aC e env).bind λp=>match p with|.int i=>.ok (some i)|_=>.bad
noncomputable def oX:I->Sl->Res (List PV)
 |.seq e,env=>(aC e env).bind (qN e)
 |.jj e,env=>(aC e env).bind λp=>match p with|.int j=>if aE j then .ok (dh 0 j.toNat) else .bad|_=>.bad
 |.kH a b,env=>(aC a env).bind λp=>(aC b env).bind λq=>match p,q with|.int i,.int j=>if aE i&&aE j then .ok (dh i (j-i).toNat) else .bad|_,_=>.bad
 |.enum e,env=>(aC e env).bind λp=>(itemsOf p).bind λxs=>.ok (bX 0 xs)
 |.zip as,env=>(c8 as env).bind λps=>(Res.of (gc ps)).bind λxss=>.ok (fi xss)
 |.sJ e,env=>(aC e env).bind λp=>match p with|.lst xs=>.ok xs.reverse|_=>.bad
end
end
inductive Fl where
 |nx (env:Sl)|bk (env:Sl)|ct (env:Sl)|rt (p:PV)
def Fl.seq(f:Fl)(k:Sl->Res Fl):Res Fl:=match f with
 |.nx env=>k env
 |f=>.ok f
noncomputable def forL(body:PV->Sl->Res Fl):List PV->Sl->Res Fl
 |[],env=>.ok (.nx env)
 |x::xs,env=>(body x env).bind λf=>match f with
  |.nx ag=>forL body xs ag
  |.ct ag=>forL body xs ag
  |.bk ag=>.ok (.nx ag)
  |.rt p=>.ok (.rt p)
noncomputable def dj(c:Sl->Res PV)(body:Sl->Res Fl):Nat->Sl->Res Fl
 |0,_=>.bad
 |n+1,env=>(c env).bind λt=>lE t λt=>if t then(body env).bind λf=>(match f with
  |.nx ag=>dj c body n ag
  |.ct ag=>dj c body n ag
  |.bk ag=>.ok (.nx ag)
  |.rt p=>.ok (.rt p)) else .ok (.nx env)
abbrev WN:Nat:=1000000
def om:Slot->Slot
 |.own p=>.val p
 |s=>s
section
variable(F:aM)
mutual
noncomputable def f6:S->Sl->Res Fl
 |.expr e,env=>(aC F e env).bind λ_=>.ok (.nx env)
 |.set i e,env=>(aC F e env).bind λp=>.ok (.nx (env.set i (.val p)))
 |.own i e,env=>(aC F e env).bind λp=>.ok (.nx (env.set i (.own p)))
 |.cU i,env=>.ok (.nx (env.modify i om))
 |.app i e,env=>match env[i]? with
  |some (.own (.lst xs))=>(aC F e env).bind λp=>if xs.length<cK then .ok (.nx (env.set i (.own (.lst (xs++[p]))))) else .bad
  |_=>.bad
 |.pH i e,env=>match env[i]? with
  |some (.own (.lst xs))=>(aC F e env).bind λp=>match p with
   |.lst ys=>if xs.length+ys.length<=cK then .ok (.nx (env.set i (.own (.lst (xs++ys))))) else .bad
   |_=>.bad
  |_=>.bad
 |.put i k e,env=>(aC F e env).bind λp=>match env[i]? with
  |some (.own (.bw ks vs))=>(aC F k env).bind λkp=>match eN kp with
   |some kk=>if ks.length<cK then .ok (.nx (env.set i (.own (.bw (cI ks kk) (cX ks vs kk p))))) else .bad
   |none=>.bad
  |_=>.bad
 |.jd i e,env=>(aC F e env).bind λp=>(Res.of (CC p)).bind λxs=>.ok (.nx (env.set i (.own (.lst xs))))
 |.fD i j e,env=>match env[i]?,env[j]? with
  |some (.own (.lst xs)),some (.own (.lst ys))=>(aC F e env).bind λp=>match p with
   |.int n=>if 0<=n/\n<ys.length/\ys.length<cK/\xs.length<cK/\i≠j then(Res.of ys[n.toNat]?).bind λq=>.ok (.nx ((env.set j (.own (.lst (ys.eraseIdx n.toNat)))).set i (.own (.lst (xs++[q]))))) else .bad
   |_=>.bad
  |_,_=>.bad
 |.ret e,env=>(aC F e env).bind λp=>.ok (.rt p)
 |.ite c a b,env=>(aC F c env).bind λp=>lE p λt=>if t then aB a env else aB b env
 |.bD tg it b,env=>(oX F it env).bind λxs=>forL (λx env=>(tg.put x env).bind λag=>aB b ag) xs env
 |.HY c b,env=>dj (aC F c) (aB b) WN env
 |.raise c _,_=>.exc c
 |.brk,env=>.ok (.bk env)
 |.qL i,env=>.ok (.nx (env.set i (.own (.bw [] []))))
noncomputable def aB:Ss->Sl->Res Fl
 |.nil,env=>.ok (.nx env)
 |.cons s ss,env=>(f6 s env).bind λf=>f.seq (aB ss)
end
end
structure Def where
 N:List Str
 np:Nat
 body:Ss
 qA:Option (Str×List Nat):=none
noncomputable def bT(d:Def)(as:List PV):Sl:=match d.qA with
 |none=>as.map .val++List.replicate (d.N.length-as.length) .no
 |some q=>(as.take (d.np-1)).map .val++.fn q.1 q.2 (as.drop (d.np-1))::List.replicate (d.N.length-d.np) .no
noncomputable def bR(d:Def)(as:List PV):Bool:=match d.qA with
 |none=>as.length==d.np
 |some _=>decide (0<d.np)&&decide (d.np-1<=as.length)
noncomputable def aq(F:aM)(d:Def)(as:List PV):Res PV:=
 if bR d as then(aB F d.body (bT d as)).bind λf=>match f with
  |.nx _=>.ok .aA
  |.rt p=>.ok p
  |_=>.bad
 else .bad
noncomputable def den:List (Str×Def)->aM
 |[],_,_=>.bad
 |(n,d)::r,f,as=>if f==n then aq (den r) d as else den r f as
abbrev ki(k:List Int):List Key:=k.map Sum.inl
def yz{a b:List Int}(h:ki a=ki b):a=b:=by
 induction a generalizing b with
 |nil=>cases b with|nil=>rfl|cons=>cases h
 |cons x a ih=>cases b with
  |nil=>cases h
  |cons y b=>simp! [ki,zzF,List.cons.injEq,Sum.inl.injEq] at h;rw [h.1,ih h.2]
def rX(k:List Int):(ki k).map kV=k.map V.int:=by
 unfold ki;rw [List.map_map]
 rfl
theorem o6{k:List Int}{ks:List (List Int)}{u:V}{us:List V}:kz (k::ks) (u::us)=(ki k,u)::kz ks us:=rfl
def nG{ks:List (List Int)}{us:List V}(h:ks.length=us.length):(kz ks us).length=ks.length:=by
 unfold kz;rw [List.length_zip,zzl];omega
def Al{ks:List (List Int)}{us:List V}(h:ks.length=us.length):(kz ks us).map (·.1)=ks.map ki:=by
 unfold kz;exact List.map_fst_zip (by rw [zzl];omega)
theorem iN(k:List Int):∀(ks:List (List Int)) (us:List V),iI (kz ks us) (ki k)=aW ks us k
 |[],us=>by unfold aW;rfl
 |a::ks,[]=>by unfold aW;rfl
 |a::ks,u::us=>by
  rw [o6];unfold aW
  by_cases h:a=k
  ·subst h;rw [if_pos rfl];exact il rfl
  ·rw [if_neg h,hV (λz=>h (yz z))];exact iN k ks us
theorem fM{α:Type}(k:List Int):∀(ks:List (List Int)) (us:List α),ks.length=us.length->(aW ks us k).isSome=da ks k
 |[],[],_=>rfl
 |a::ks,u::us,h=>by
  unfold aW da;rw [List.any_cons]
  by_cases e:a=k
  ·simp [e]
  ·rw [if_neg e];have:=fM k ks us (by simpa using h)
   unfold da at this;rw [this];simp [e]
 |[],_::_,h=>by simp at h
 |_::_,[],h=>by simp at h
def FU(k:List Int):∀(ks:List (List Int)) (us:List V),ks.length=us.length->((kz ks us).any λkv=>decide (kv.1=ki k))=da ks k:=λks us h=>by
 rw [k7,iN,fM k ks us h]
def zd{ks:List (List Int)}{us:List V}(h:ks.length=us.length)(k:List Int)(v:V):putK (kz ks us) (ki k) v=kz (cI ks k) (cX ks us k v):=by
 unfold putK cI cX;rw [FU k ks us h];split
 ·have go:∀(ks:List (List Int)) (us:List V),(kz ks us).map (λkv=>if kv.1=ki k then(kv.1,v) else kv)=kz ks (List.zipWith (λk' u=>if k'=k then v else u) ks us):=by
   intro ks
   induction ks with
   |nil=>intro us;simp [kz]
   |cons a ks ih=>
    intro us;cases us with
    |nil=>simp [kz]
    |cons u us=>
     rw [o6,zzF,List.zipWith_cons_cons,o6,ih]
     by_cases e:a=k
     ·simp [e]
     ·rw [if_neg (λz=>e (yz z)),if_neg e]
  exact go ks us
 ·unfold kz;rw [List.map_append,List.zip_append (by rw [zzl];exact h)]
  rfl
def qi{α:Type}{ks:List (List Int)}{us:List α}(h:ks.length=us.length)(k:List Int)(v:α):(cI ks k).length=(cX ks us k v).length:=by
 unfold cI cX;split
 ·rw [List.length_zipWith];omega
 ·simp [h]
section
variable{W:Wd}{G:Hp}
theorem o7{k:List Int}{p:PV}:∀{ks:List (List Int)} {ps:List PV} {us:List V},ah W G ps us->aW ks ps k=some p->∃v,aW ks us k=some v/\Rep W G p v
 |[],_,_,_,e=>by unfold aW at e;cases e
 |a::ks,[],_,_,e=>by unfold aW at e;cases e
 |a::ks,q::ps,_,l,e=>by
  obtain⟨v,r,rfl,h1,h2⟩:=l.bp
  unfold aW at e⊢
  by_cases h:a=k
  ·rw [if_pos h] at e⊢;cases e;exact⟨v,rfl,h1⟩
  ·rw [if_neg h] at e⊢;exact o7 h2 e
theorem yc{k:List Int}{p:PV}{v:V}(hp:Rep W G p v):∀{ks:List (List Int)} {ps:List PV} {us:List V},ah W G ps us->ah W G (List.zipWith (λk' v=>if k'=k then p else v) ks ps) (List.zipWith (λk' u=>if k'=k then v else u) ks us)
 |[],_,_,_=>by simp! [List.zipWith_nil_left];exact .nil
 |a::ks,[],_,l=>by simp! [ah] at l;subst l;simp! [List.zipWith_nil_right];exact .nil
 |a::ks,q::ps,_,l=>by
  obtain⟨u,r,rfl,h1,h2⟩:=l.bp
  rw [List.zipWith_cons_cons,List.zipWith_cons_cons];refine .cons ?_ (yc hp h2);split
  ·exact hp
  ·exact h1
def uo{ks:List (List Int)}{ps:List PV}{us:List V}{k:List Int}{p:PV}{v:V}(l:ah W G ps us)(hp:Rep W G p v):ah W G (cX ks ps k p) (cX ks us k v):=by
 unfold cX;split
 ·exact yc hp l
 ·exact l.append (.cons hp .nil)
end
theorem mh:∀{xs:List PV} {ns:List Int},intsOf xs=some ns->xs=ns.map .int
 |[],_,e=>by cases e;rfl
 |.int i::r,_,e=>by
  unfold intsOf at e;obtain⟨ns,h1,rfl⟩:=zzJ.mp e
  rw [mh h1];rfl
 |.aA::_,_,e=>by cases e
 |.bl _::_,_,e=>by cases e
 |.str _::_,_,e=>by cases e
 |.tup _::_,_,e=>by cases e
 |.lst _::_,_,e=>by cases e
 |.exc _::_,_,e=>by cases e
 |.bw _ _::_,_,e=>by cases e
def eP{p:PV}{k:List Int}(h:eN p=some k):p=af k:=by
 unfold eN at h;split at h
 ·rw [mh h];rfl
 ·cases h
end Ci
namespace L2
open PySem PySem.Spec PyProof.Rows
end L2
namespace Ci
open PySem L2
def j5{n:Nat}(h:n<=cK):n<=sizeLine:=zzU h (by decide)
section
variable{X:Cx}{W:Wd}{H0 G H:Hp}
def dD(W:Wd)(G H:Hp)(r:PV)(Q:VK):Prop:=∀v G' H',aH W G H G' H'->Rep W G' r v->Q v H'
def dD.at{r:PV}{Q:VK}{v:V}(h:dD W G H r Q)(s:ay G H)(k:Rep W G r v):Q v H:=h v G H (.refl s) k
def dD.tup{xs:List PV}{Q:VK}{vs:List V}{p:Addr}(h:dD W G H (.tup xs) Q)(s:ay G H)(k:ah W G xs vs)(hp:H p=none):Q (.ref p) (upd H p (.tup vs)):=
 h _ _ _ (.new s hp) (.t (.inl au) (ah.same (bf (s.free hp)) xs k))
def dD.lst{xs:List PV}{Q:VK}{vs:List V}{p:Addr}(h:dD W G H (.lst xs) Q)(s:ay G H)(k:ah W G xs vs)(hp:H p=none):Q (.ref p) (upd H p (.lst vs)):=
 h _ _ _ (.new s hp) (.l (.inl (.inl au)) (ah.same (bf (s.free hp)) xs k))
theorem ju{f:PV->PV->Bool}:∀{xs ys:List PV},xs.length≠ys.length->eqs f xs ys=false
 |[],[],h=>absurd rfl h
 |_::xs,_::ys,h=>by simp! [eqs];rw [ju (xs:=xs) (ys:=ys) (λz=>h (by simp [z]))];simp
 |[],_::_,_=>rfl
 |_::_,[],_=>rfl
theorem jl{f:PV->PV->Bool}:∀{xs ys:List PV},xs.length=ys.length->eqs f xs ys=(List.range xs.length).all λj=>f (xs.getD j .aA) (ys.getD j .aA)
 |[],[],_=>rfl
 |x::xs,y::ys,h=>by
  simp! [eqs];rw [jl (xs:=xs) (ys:=ys) (by simpa using h),zzL,List.range_succ_eq_map,List.all_cons,List.all_map]
  rfl
 |[],_::_,h=>by simp at h
 |_::_,[],h=>by simp at h
def mG{f:PV->PV->Bool}:∀{xs ys:List PV},((List.range (min xs.length ys.length)).all (λj=>f (xs.getD j .aA) (ys.getD j .aA))&&xs.length==ys.length)=eqs f xs ys:=λ{xs ys}=>by
 by_cases h:xs.length=ys.length
 ·rw [jl h,h,Nat.min_self,beq_self_eq_true,Bool.and_true]
 ·rw [ju h,beq_eq_false_iff_ne.mpr h,Bool.and_false]
theorem qG{f:PV->PV->Bool}:∀{xs ys:List PV},xs.length=ys.length->(∀(j:Nat) x y,xs[j]?=some x->ys[j]?=some y->f x y=true)->eqs f xs ys=true
 |[],[],_,_=>rfl
 |x::xs,y::ys,h,k=>by
  simp! [eqs];rw [k 0 x y rfl rfl,qG (xs:=xs) (ys:=ys) (by simpa using h) λj a b ha hb=>k (j+1) a b (by simpa using ha) (by simpa using hb)]
  rfl
 |[],_::_,h,_=>by simp at h
 |_::_,[],h,_=>by simp at h
def iP(hK:W.K=X.K){a:Addr}{vs:List V}(h:m9 W.K H a vs):dw X.K H a vs:=by
 rw [hK] at h;rcases h with h|⟨ak,n,h1,h2,h3⟩
 ·exact .inl h
 ·exact .inr ⟨_,ak,n,h1,rfl,rfl,rfl,h2,h3⟩
def pP{aa:List (Addr×Obj)}{σ:St}{s:Shared}(I:Inv X aa σ H s){a:Addr}{vs us:List V}(h1:eU X.K H a vs)(h2:dw X.K H a us):False:=by
 obtain⟨ak,_,⟨o,e,hc,_⟩,_⟩:=I.tuple h1
 obtain⟨dN,_,⟨o2,n,e2,hc2,_⟩,_⟩:=I.list h2
 rw [e] at e2;cases e2;rw [hc] at hc2;exact absurd hc2 (by decide)
theorem iA{α:Type}:∀{xs ys:List α},xs.length=ys.length->(∀(j:Nat) x y,xs[j]?=some x->ys[j]?=some y->x=y)->xs=ys
 |[],[],_,_=>rfl
 |x::xs,y::ys,h,k=>by rw [k 0 x y rfl rfl,iA (xs:=xs) (ys:=ys) (by simpa using h) λj a b ha hb=>k (j+1) a b (by simpa using ha) (by simpa using hb)]
 |[],_::_,h,_=>by simp at h
 |_::_,[],h,_=>by simp at h
def QY(X:Cx)(W:Wd)(G H:Hp):PV->V->Prop
 |.aA,v=>v=.aA
 |.bl b,v=>v=.bl b
 |.int i,v=>v=.int i
 |.str z,v=>v=.str z
 |.tup xs,v=>∃a,v=.ref a/\∃vs,eU X.K H a vs/\ah W G xs vs
 |.lst xs,v=>∃a,v=.ref a/\∃vs,dw X.K H a vs/\ah W G xs vs
 |_,_=>False
def LF(hK:W.K=X.K)(sg:ay G H){n:Nat}{p:PV}{v:V}(hp:plain n p=true)(h:Top W H0 G H p v):QY X W G H p v:=by
 cases p with
 |aA=>exact h.aA
 |bl b=>exact h.bl
 |int i=>exact h.int
 |str z=>exact h.str
 |tup xs=>
  obtain⟨a,vs,e,sq,l⟩:=h.tup sg
  rw [hK] at sq;exact⟨a,e,vs,sq,l⟩
 |lst xs=>
  obtain⟨a,vs,e,sq,l⟩:=h.lst sg
  exact⟨a,e,vs,iP hK sq,l⟩
 |exc c=>cases n<;>exact bB hp
 |bw a b=>cases n<;>exact bB hp
def tJ{aa:List (Addr×Obj)}{σ:St}{s:Shared}(I:Inv X aa σ H s)(hK:W.K=X.K)(sg:ay G H):∀(n:Nat) {p q:PV} {v:V},plain n p=true->plain n q=true->Top W H0 G H p v->Top W H0 G H q v->p=q:=by
 intro n
 induction n with
 |zero=>
  intro p q v hp hq h1 h2;have a:=LF hK sg hp h1
  have b:=LF hK sg hq h2
  cases p<;>cases q<;>first|exact bB hp|exact bB hq|(cases a;cases b;rfl)|(cases a;cases b)
 |succ n ih=>
  intro p q v hp hq h1 h2;have a:=LF hK sg hp h1
  have b:=LF hK sg hq h2
  have el:∀{xs ys:List PV} {vs:List V},xs.all (plain n)=true->ys.all (plain n)=true->ah W G xs vs->ah W G ys vs->xs=ys:=λ{xs ys vs} a1 a2 l1 l2=>
   iA (by rw [<-l1.length,l2.length]) λj x y ex ey=>by
    obtain⟨u,eu,ku⟩:=l1.nv ex
    obtain⟨y',ey',ky⟩:=l2.get eu
    rw [ey] at ey';cases ey';exact ih (zzT.mp a1 _ (zzD ex)) (zzT.mp a2 _ (zzD ey)) (.inl ku) (.inl ky)
  cases p<;>cases q<;>first|exact bB hp|exact bB hq|(cases a;cases b;done)|(cases a;cases b;rfl)|(obtain⟨_,e1,_⟩:=a;cases b;cases e1;done)|(obtain⟨_,e2,_⟩:=b;cases a;cases e2;done)|(obtain⟨x,rfl,vs,s1,l1⟩:=a;obtain⟨y,e2,us,s2,l2⟩:=b;cases e2;first|exact(pP I s1 s2).elim|exact(pP I s2 s1).elim|(cases I.nc s1 s2;rw [el hp hq l1 l2])|(cases I.pR s1 s2;rw [el hp hq l1 l2]))
def wZ:∀{n:Nat} {p:PV},plain n p=true->gX n p p=true:=by
 intro n
 induction n with
 |zero=>intro p h;cases p<;>first|exact bB h|rfl|exact beq_self_eq_true _
 |succ n ih=>
  intro p h;cases p<;>first|exact bB h|rfl|exact beq_self_eq_true _|exact qG rfl λj x y e1 e2=>by rw [e1] at e2;cases e2;exact ih (zzT.mp h _ (zzD e1))
def tZ{aa:List (Addr×Obj)}{σ:St}{s:Shared}(I:Inv X aa σ H s)(hK:W.K=X.K)(sg:ay G H):∀(n:Nat) {p q:PV} {v:V},plain n p=true->plain n q=true->Top W H0 G H p v->Top W H0 G H q v->gX n p q=true:=λn {p q v} hp hq h1 h2=>by
 cases tJ I hK sg n hp hq h1 h2;exact wZ hp
def jw{x:V}{a:Addr}(r:RelV x (.ref a)):x=.ref a:=by
 cases x<;>first|(cases r;rfl)|(obtain⟨_,h⟩:=r;cases h)|cases r
def RJ(W:Wd)(G:Hp)(h:Heap):PV->Value->Prop
 |.aA,v=>∃_t:Nat,v=.none/\True
 |.bl b,v=>∃_t:Nat,v=.bool b/\True
 |.int i,v=>∃t,v=.int i t/\True
 |.str z,v=>∃t,v=.str z t/\True
 |.tup xs,v=>∃a,v=.ref a/\∃ak vs,ah W G xs vs/\Vals vs ak/\h.IsTuple a ak.toArray
 |.lst xs,v=>∃a,v=.ref a/\∃ak vs,ah W G xs vs/\Vals vs ak/\h.IsList a ak.toArray
 |_,_=>False
def DO{aa:List (Addr×Obj)}{σ:St}{s:Shared}(I:Inv X aa σ H s)(hK:W.K=X.K)(sg:ay G H){n:Nat}{p:PV}{v:V}{v':Value}(hp:plain n p=true)(h:Top W H0 G H p v)(r:RelV v v'):RJ W G s.heap p v':=by
 cases p with
 |aA=>cases h.aA;cases r;exact⟨0,rfl,trivial⟩
 |bl b=>cases h.bl;cases r;exact⟨0,rfl,trivial⟩
 |int i=>cases h.int;obtain⟨t,rfl⟩:=r;exact⟨t,rfl,trivial⟩
 |str z=>cases h.str;obtain⟨t,rfl⟩:=r;exact⟨t,rfl,trivial⟩
 |tup xs=>
  obtain⟨a,vs,rfl,sq,l⟩:=h.tup sg
  rw [hK] at sq;cases r;obtain⟨ak,q,z,_⟩:=I.tuple sq
  exact⟨a,rfl,ak,vs,l,q,z⟩
 |lst xs=>
  obtain⟨a,vs,rfl,sq,l⟩:=h.lst sg
  cases r;obtain⟨ak,q,z,_⟩:=I.list (iP hK sq)
  exact⟨a,rfl,ak,vs,l,q,z.isList⟩
 |exc c=>cases n<;>exact bB hp
 |bw a b=>cases n<;>exact bB hp
def qB(W:Wd)(G:Hp)(s:Shared)(n:Nat)(A:Around)(xs ys:List PV):Prop:=∀{vs us:List V} {ak dN:List Value},ah W G xs vs->ah W G ys us->Vals vs ak->Vals us dN->∀j (h1:j<ak.toArray.size) (h2:j<dN.toArray.size),SeqAt.EqAt A s ak.toArray[j] dN.toArray[j] (gX n (xs.getD j .aA) (ys.getD j .aA))
theorem yb{s:Shared}{n:Nat}{A:Around}{xs ys:List PV}(h:∀{p q:PV} {v u:V} {v' u':Value},plain n p=true->plain n q=true->Rep W G p v->Rep W G q u->RelV v v'->RelV u u'->SeqAt.EqAt A s v' u' (gX n p q))(a1:xs.all (plain n)=true)(a2:ys.all (plain n)=true):qB W G s n A xs ys:=λ{vs us ak dN} l1 l2 q1 q2 j g1 g2=>by
 obtain⟨x,hx,rx⟩:=ya q1 g1
 obtain⟨y,hy,ry⟩:=ya q2 g2
 obtain⟨px,ex,kx⟩:=l1.get hx
 obtain⟨py,ey,ky⟩:=l2.get hy
 rw [zzK,zzK,ex,ey];exact h (zzT.mp a1 _ (zzD ex)) (zzT.mp a2 _ (zzD ey)) kx ky rx ry
def uf{s:Shared}{n:Nat}{A:Around}{a b:Addr}{xs ys:List PV}(hu:A.units<cLine)(el:qB W G s n A.in1 xs ys)(k1:∃ak vs,ah W G xs vs/\Vals vs ak/\s.heap.IsTuple a ak.toArray)(k2:∃ak vs,ah W G ys vs/\Vals vs ak/\s.heap.IsTuple b ak.toArray):SeqAt.RcAt A s (.ref a) (.ref b) (eqs (gX n) xs ys):=by
 obtain⟨ak,vs,l,q1,z1⟩:=k1
 obtain⟨dN,us,l2,q2,z2⟩:=k2
 have m1:ak.length=xs.length:=by rw [<-q1.length,l.length]
 have m2:dN.length=ys.length:=by rw [<-q2.length,l2.length]
 have:=SeqAt.RcAt.tuples (e:=λj=>gX n (xs.getD j .aA) (ys.getD j .aA)) z1 z2 hu (el l l2 q1 q2)
 rw [zzC,zzC,m1,m2,mG] at this;exact this
def sU{s:Shared}{n:Nat}{A:Around}{a b:Addr}{xs ys:List PV}(hu:A.units<cLine)(el:qB W G s n A.in1 xs ys)(k1:∃ak vs,ah W G xs vs/\Vals vs ak/\s.heap.IsList a ak.toArray)(k2:∃ak vs,ah W G ys vs/\Vals vs ak/\s.heap.IsList b ak.toArray):SeqAt.RcAt A s (.ref a) (.ref b) (eqs (gX n) xs ys):=by
 obtain⟨ak,vs,l,q1,z1⟩:=k1
 obtain⟨dN,us,l2,q2,z2⟩:=k2
 have m1:ak.length=xs.length:=by rw [<-q1.length,l.length]
 have m2:dN.length=ys.length:=by rw [<-q2.length,l2.length]
 by_cases hl:xs.length=ys.length
 ·have:=SeqAt.RcAt.lists (e:=λj=>gX n (xs.getD j .aA) (ys.getD j .aA)) z1 z2 (by rw [zzC,zzC];omega) hu (el l l2 q1 q2)
  rw [zzC,m1,<-jl hl] at this;exact this
 ·have:=SeqAt.RcAt.lists_lengths z1 z2 (by rw [zzC,zzC,m1,m2];simp [hl]) hu
  rw [ju hl];exact this
open SeqAt.EqAt in
def wg{aa:List (Addr×Obj)}{σ:St}{s:Shared}(I:Inv X aa σ H s)(hK:W.K=X.K)(sg:ay G H):∀(n:Nat) {A:Around} {p q:PV} {v u:V} {v' u':Value},A.units+(n+1)<cLine->plain n p=true->plain n q=true->Top W H0 G H p v->Top W H0 G H q u->RelV v v'->RelV u u'->
 SeqAt.EqAt A s v' u' (gX n p q):=by
 intro n
 induction n with
 |zero=>
  intro A p q v u v' u' hu hp hq h1 h2 r1 r2;have a:=DO I hK sg hp h1 r1
  have b:=DO I hK sg hq h2 r2
  cases p<;>cases q<;>first|exact bB hp|exact bB hq|(obtain⟨t1,rfl,_⟩:=a;obtain⟨t2,rfl,_⟩:=b)
  exact same _
  exact none_bool _
  exact none_int _ _
  exact none_str _ _
  exact bool_none _
  exact bool_bool _ _
  exact bool_int _ _ _
  exact bool_str _ _ _
  exact int_none _ _
  exact int_bool _ _ _
  exact int_int _ _ _ _
  exact int_str _ _ _ _
  exact str_none _ _
  exact str_bool _ _ _
  exact str_int _ _ _ _
  exact str_str _ _ _ _
 |succ n ih=>
  intro A p q v u v' u' hu hp hq h1 h2 r1 r2;have cT:A.units<cLine:=by omega
  have a:=DO I hK sg hp h1 r1
  have b:=DO I hK sg hq h2 r2
  have el:∀{xs ys:List PV},xs.all (plain n)=true->ys.all (plain n)=true->qB W G s n A.in1 xs ys:=λa1 a2=>yb (λhp hq h1 h2 r1 r2=>ih (by show A.units+1+(n+1)<_;omega) hp hq (.inl h1) (.inl h2) r1 r2) a1 a2
  cases p<;>cases q<;>first|exact bB hp|exact bB hq|(obtain⟨t1,rfl,k1⟩:=a;obtain⟨t2,rfl,k2⟩:=b;try obtain⟨_,_,_,_,z1⟩:=id k1;try obtain⟨_,_,_,_,z2⟩:=id k2)
  exact same _
  exact none_bool _
  exact none_int _ _
  exact none_str _ _
  exact none_tuple z2 cT
  exact none_list z2 cT
  exact bool_none _
  exact bool_bool _ _
  exact bool_int _ _ _
  exact bool_str _ _ _
  exact bool_tuple _ z2 cT
  exact bool_list _ z2 cT
  exact int_none _ _
  exact int_bool _ _ _
  exact int_int _ _ _ _
  exact int_str _ _ _ _
  exact int_tuple _ _ z2 cT
  exact int_list _ _ z2 cT
  exact str_none _ _
  exact str_bool _ _ _
  exact str_int _ _ _ _
  exact str_str _ _ _ _
  exact str_tuple _ _ z2 cT
  exact str_list _ _ z2 cT
  exact tuple_none z1 cT
  exact tuple_bool _ z1 cT
  exact tuple_int _ _ z1 cT
  exact tuple_str _ _ z1 cT
  by_cases fe:t1=t2
  ·subst fe;cases jw r1;cases jw r2;rw [tZ I hK sg (n+1) hp hq h1 h2];exact same _
  ·exact of_refs fe (uf cT (el hp hq) k1 k2)
  exact tuple_list z1 z2 cT
  exact list_none z1 cT
  exact list_bool _ z1 cT
  exact list_int _ _ z1 cT
  exact list_str _ _ z1 cT
  exact list_tuple z1 z2 cT
  by_cases fe:t1=t2
  ·subst fe;cases jw r1;cases jw r2;rw [tZ I hK sg (n+1) hp hq h1 h2];exact same _
  ·exact of_refs fe (sU cT (el hp hq) k1 k2)
end
section
variable{X:Cx}{W:Wd}{H0 G H:Hp}
open SeqAt.RcAt in
def KG{aa:List (Addr×Obj)}{σ:St}{s:Shared}(I:Inv X aa σ H s)(hK:W.K=X.K)(sg:ay G H)(n:Nat){A:Around}{p q:PV}{v u:V}{v' u':Value}(hu:A.units+(n+2)<cLine)(hp:plain (n+1) p=true)(hq:plain (n+1) q=true)(h1:Top W H0 G H p v)(h2:Top W H0 G H q u)(r1:RelV v v')(r2:RelV u u'):
 SeqAt.RcAt A s v' u' (gX (n+1) p q):=by
 have cT:A.units<cLine:=by omega
 have a:=DO I hK sg hp h1 r1
 have b:=DO I hK sg hq h2 r2
 have el:∀{xs ys:List PV},xs.all (plain n)=true->ys.all (plain n)=true->qB W G s n A.in1 xs ys:=λa1 a2=>yb (λhp hq h1 h2 r1 r2=>wg (H0:=H0) I hK sg n (by show A.units+1+(n+1)<_;omega) hp hq (.inl h1) (.inl h2) r1 r2) a1 a2
 cases p<;>cases q<;>first|exact bB hp|exact bB hq|(obtain⟨t1,rfl,k1⟩:=a;obtain⟨t2,rfl,k2⟩:=b;try obtain⟨_,_,_,_,z1⟩:=id k1;try obtain⟨_,_,_,_,z2⟩:=id k2)
 exact none_none
 exact none_bool _
 exact none_int _ _
 exact none_str _ _
 exact none_tuple z2 cT
 exact none_list z2 cT
 exact bool_none _
 exact bool_bool _ _
 exact bool_int _ _ _
 exact bool_str _ _ _
 exact bool_tuple _ z2 cT
 exact bool_list _ z2 cT
 exact int_none _ _
 exact int_bool _ _ _
 exact int_int _ _ _ _
 exact int_str _ _ _ _
 exact int_tuple _ _ z2 cT
 exact int_list _ _ z2 cT
 exact str_none _ _
 exact str_bool _ _ _
 exact str_int _ _ _ _
 exact str_str _ _ _ _
 exact str_tuple _ _ z2 cT
 exact str_list _ _ z2 cT
 exact tuple_none z1 cT
 exact tuple_bool _ z1 cT
 exact tuple_int _ _ z1 cT
 exact tuple_str _ _ z1 cT
 exact uf cT (el hp hq) k1 k2
 exact tuple_list z1 z2 cT
 exact list_none z1 cT
 exact list_bool _ z1 cT
 exact list_int _ _ z1 cT
 exact list_str _ _ z1 cT
 exact list_tuple z1 z2 cT
 exact sU cT (el hp hq) k1 k2
def vy{s:Shared}{n:Nat}{A:Around}{a b:Addr}{xs ys:List PV}(hu:A.units<cLine)(el:qB W G s n A.in1 xs ys)(k1:∃ak vs,ah W G xs vs/\Vals vs ak/\s.heap.IsTuple a ak.toArray)(k2:∃ak vs,ah W G ys vs/\Vals vs ak/\s.heap.IsTuple b ak.toArray):SeqAt.RcNeAt A s (.ref a) (.ref b) (!eqs (gX n) xs ys):=by
 obtain⟨ak,vs,l,q1,z1⟩:=k1
 obtain⟨dN,us,l2,q2,z2⟩:=k2
 have m1:ak.length=xs.length:=by rw [<-q1.length,l.length]
 have m2:dN.length=ys.length:=by rw [<-q2.length,l2.length]
 have:=SeqAt.RcNeAt.tuples (e:=λj=>gX n (xs.getD j .aA) (ys.getD j .aA)) z1 z2 hu (el l l2 q1 q2)
 rw [zzC,zzC,m1,m2,mG] at this;exact this
def vo{s:Shared}{n:Nat}{A:Around}{a b:Addr}{xs ys:List PV}(hu:A.units<cLine)(el:qB W G s n A.in1 xs ys)(k1:∃ak vs,ah W G xs vs/\Vals vs ak/\s.heap.IsList a ak.toArray)(k2:∃ak vs,ah W G ys vs/\Vals vs ak/\s.heap.IsList b ak.toArray):SeqAt.RcNeAt A s (.ref a) (.ref b) (!eqs (gX n) xs ys):=by
 obtain⟨ak,vs,l,q1,z1⟩:=k1
 obtain⟨dN,us,l2,q2,z2⟩:=k2
 have m1:ak.length=xs.length:=by rw [<-q1.length,l.length]
 have m2:dN.length=ys.length:=by rw [<-q2.length,l2.length]
 by_cases hl:xs.length=ys.length
 ·have:=SeqAt.RcNeAt.lists (e:=λj=>gX n (xs.getD j .aA) (ys.getD j .aA)) z1 z2 (by rw [zzC,zzC];omega) hu (el l l2 q1 q2)
  rw [zzC,m1,<-jl hl] at this;exact this
 ·have:=SeqAt.RcNeAt.lists_lengths z1 z2 (by rw [zzC,zzC,m1,m2];simp [hl]) hu
  rw [ju hl];exact this
open SeqAt.RcNeAt in
def Dp{aa:List (Addr×Obj)}{σ:St}{s:Shared}(I:Inv X aa σ H s)(hK:W.K=X.K)(sg:ay G H)(n:Nat){A:Around}{p q:PV}{v u:V}{v' u':Value}(hu:A.units+(n+2)<cLine)(hp:plain (n+1) p=true)(hq:plain (n+1) q=true)(h1:Top W H0 G H p v)(h2:Top W H0 G H q u)(r1:RelV v v')(r2:RelV u u'):
 SeqAt.RcNeAt A s v' u' (!gX (n+1) p q):=by
 have cT:A.units<cLine:=by omega
 have a:=DO I hK sg hp h1 r1
 have b:=DO I hK sg hq h2 r2
 have el:∀{xs ys:List PV},xs.all (plain n)=true->ys.all (plain n)=true->qB W G s n A.in1 xs ys:=λa1 a2=>yb (λhp hq h1 h2 r1 r2=>wg (H0:=H0) I hK sg n (by show A.units+1+(n+1)<_;omega) hp hq (.inl h1) (.inl h2) r1 r2) a1 a2
 cases p<;>cases q<;>first|exact bB hp|exact bB hq|(obtain⟨t1,rfl,k1⟩:=a;obtain⟨t2,rfl,k2⟩:=b;try obtain⟨_,_,_,_,z1⟩:=id k1;try obtain⟨_,_,_,_,z2⟩:=id k2)
 exact none_none
 exact none_bool _
 exact none_int _ _
 exact none_str _ _
 exact none_tuple z2 cT
 exact none_list z2 cT
 exact bool_none _
 exact bool_bool _ _
 exact bool_int _ _ _
 exact bool_str _ _ _
 exact bool_tuple _ z2 cT
 exact bool_list _ z2 cT
 exact int_none _ _
 exact int_bool _ _ _
 exact int_int _ _ _ _
 exact int_str _ _ _ _
 exact int_tuple _ _ z2 cT
 exact int_list _ _ z2 cT
 exact str_none _ _
 exact str_bool _ _ _
 exact str_int _ _ _ _
 exact str_str _ _ _ _
 exact str_tuple _ _ z2 cT
 exact str_list _ _ z2 cT
 exact tuple_none z1 cT
 exact tuple_bool _ z1 cT
 exact tuple_int _ _ z1 cT
 exact tuple_str _ _ z1 cT
 exact vy cT (el hp hq) k1 k2
 exact tuple_list z1 z2 cT
 exact list_none z1 cT
 exact list_bool _ z1 cT
 exact list_int _ _ z1 cT
 exact list_str _ _ z1 cT
 exact list_tuple z1 z2 cT
 exact vo cT (el hp hq) k1 k2
end
section
variable{X:Cx}{W:Wd}
def Aa(hK:W.K=X.K){aa:List (Addr×Obj)}{σ:St}{H:Hp}{s:Shared}{a:Addr}{xs:List V}(I:Inv X aa σ H s)(h:m9 W.K H a xs):∃(ak:List Value) (n:Nat),Vals xs ak/\xs.length=ak.length/\xs.length<=sizeLine/\s.heap.get? a=some {cls:=.type "list",data:=.seq ak.toArray n}:=by
 rw [hK] at h;rcases h with h|⟨ak,n,h1,h2,h3⟩
 ·obtain⟨z,ak,n,r,e⟩:=h.ok I.bz
  exact⟨ak,n,r,r.length,z,e⟩
 ·refine⟨ak.toList,n,h3,h3.length,?_,by simpa using I.sE a _ h1⟩;rw [h3.length,zzd];exact h2
def A1(hK:W.K=X.K):fu X (binaryOp .Add) (λx y H Q=>∃l b xs zs,x=.ref l/\y=.ref b/\m9 W.K H l xs/\m9 W.K H b zs/\xs.length+zs.length<=sizeLine/\∀p,H p=none->Q (.ref p) (upd H p (.lst (xs++zs)))):=by
 intro aa s σ H x y v u Q I rx ry h;obtain⟨l,b,xs,zs,rfl,rfl,hH,hB,hz,q⟩:=h
 cases rx;cases ry;obtain⟨ak,n,r,hl,_,e⟩:=Aa hK I hH
 obtain⟨dN,n2,r2,hl2,_,e2⟩:=Aa hK I hB
 refine PySem.P.add_list e e2 ?_ (by rw [zzC,zzC];omega);have ea:ak.toArray++dN.toArray=(ak++dN).toArray:=by simp
 rw [ea];exact⟨.ref _,_,I.Mc (t':=s.toks) (r.append r2) (by rw [zzM];omega),rfl,q _ I.fresh⟩
def NV:HU->Operator
 |.add=>.Add|.sub=>.Sub|.mul=>.Mult|.mod=>.Mod|.fdiv=>.FloorDiv
noncomputable def qP(W:Wd)(f:PV->PV->Res PV):R2:=λx y H Q=>∃H0 G p q r,ay G H/\Top W H0 G H p x/\Top W H0 G H q y/\f p q=.ok r/\dD W G H r Q
def Et(hK:W.K=X.K)(o:HU):fu X (binaryOp (NV o)) (qP W (binOp o)):=by
 intro aa s σ H x y v u Q I rx ry h;obtain⟨H0,G,p,q,r,sg,t1,t2,e,wq⟩:=h
 unfold binOp at e;split at e
 ·cases e;exact Fp aa s σ H x y v u Q I rx ry ⟨_,_,t1.int,t2.int,wq.at sg .i⟩
 ·split at e
  ·rename_i hl;cases e;exact q9 aa s σ H x y v u Q I rx ry ⟨_,_,t1.str,t2.str,j5 hl,wq.at sg .s⟩
  ·cases e
 ·split at e
  ·rename_i hl;cases e;obtain⟨a,vs,rfl,h1,l1⟩:=t1.lst sg
   obtain⟨b,us,rfl,h2,l2⟩:=t2.lst sg
   exact A1 hK aa s σ H _ _ v u Q I rx ry ⟨a,b,vs,us,rfl,rfl,h1,h2,by rw [l1.length,l2.length];exact j5 hl,λp hp=>wq.lst sg (l1.append l2) hp⟩
  ·cases e
 ·cases e;exact HF aa s σ H x y v u Q I rx ry ⟨_,_,t1.int,t2.int,wq.at sg .i⟩
 ·split at e
  ·rename_i hc;cases e;refine Gn aa s σ H x y v u Q I rx ry ⟨_,_,t1.int,t2.int,?_,wq.at sg .i⟩;rw [zzt] at hc;unfold aN at hc;simp! [zza,zzN] at hc;exact hc
  ·cases e
 ·split at e
  ·rename_i hc;cases e;exact EF aa s σ H x y v u Q I rx ry ⟨_,_,t1.int,t2.int,hc,wq.at sg .i⟩
  ·cases e
 ·split at e
  ·rename_i hc;cases e;exact CA aa s σ H x y v u Q I rx ry ⟨_,_,t1.int,t2.int,hc,wq.at sg .i⟩
  ·cases e
 ·cases e
def Bq:LA X (unaryOp .USub) (λx H Q=>∃(H0 G:Hp) (i:Int),ay G H/\Top W H0 G H (.int i) x/\dD W G H (.int (-i)) Q):=by
 intro aa s σ H x v Q I rx h;obtain⟨H0,G,i,sg,t,wq⟩:=h
 exact GD aa s σ H x v Q I rx ⟨i,t.int,wq.at sg .i⟩
def pj:xg->CmpOp
 |.eq=>.Eq|.ne=>.NotEq|.lt=>.Lt|.le=>.LtE|.gt=>.Gt|.ge=>.GtE|.is=>.Is|.oB=>.IsNot|.zy=>.In|.qH=>.NotIn
def ng{aa:List (Addr×Obj)}{σ:St}{H G:Hp}{s:Shared}{Q:VK}{k:Bool}(I:Inv X aa σ H s)(sg:ay G H)(wq:dD W G H (.bl k) Q):EP X aa σ Q (.bool k) s:=⟨.bl k,H,I,rfl,wq.at sg .b⟩
def Ek(hK:W.K=X.K)(hu:X.A.units+64<cLine):fu X (compareOp .Eq) (qP W fk):=by
 intro aa s σ H x y v u Q I rx ry h;obtain⟨H0,G,p,q,r,sg,t1,t2,e,wq⟩:=h
 unfold fk at e;split at e
 ·rename_i hc;rw [zza] at hc;cases e;exact KG I hK sg 8 (by omega) hc.1 hc.2 t1 t2 rx ry _ _ _ _ (ng I sg wq)
 ·cases e
def HB(hK:W.K=X.K)(hu:X.A.units+64<cLine):fu X (compareOp .NotEq) (qP W fC):=by
 intro aa s σ H x y v u Q I rx ry h;obtain⟨H0,G,p,q,r,sg,t1,t2,e,wq⟩:=h
 unfold fC at e;split at e
 ·rename_i hc;rw [zza] at hc;cases e;exact Dp I hK sg 8 (by omega) hc.1 hc.2 t1 t2 rx ry _ _ _ _ (ng I sg wq)
 ·cases e
theorem gN{G:Hp}:∀{xs:List PV} {vs:List V} {ns:List Int},ah W G xs vs->intsOf xs=some ns->vs=ns.map V.int
 |[],vs,ns,h,e=>by simp! [ah] at h;subst h;cases e;rfl
 |.int i::r,vs,ns,h,e=>by
  obtain⟨v,t,rfl,h1,h2⟩:=h.bp
  simp! [Rep] at h1;subst h1;unfold intsOf at e;obtain⟨m,hm,rfl⟩:=zzJ.mp e
  rw [gN h2 hm]
  rfl
 |.aA::_,_,_,_,e=>by cases e
 |.bl _::_,_,_,_,e=>by cases e
 |.str _::_,_,_,_,e=>by cases e
 |.tup _::_,_,_,_,e=>by cases e
 |.lst _::_,_,_,_,e=>by cases e
 |.exc _::_,_,_,_,e=>by cases e
 |.bw _ _::_,_,_,_,e=>by cases e
theorem fB{G:Hp}:∀{xs:List PV} {vs:List V} {ns:List Bool},ah W G xs vs->boolsOf xs=some ns->vs=ns.map V.bl
 |[],vs,ns,h,e=>by simp! [ah] at h;subst h;cases e;rfl
 |.bl i::r,vs,ns,h,e=>by
  obtain⟨v,t,rfl,h1,h2⟩:=h.bp
  simp! [Rep] at h1;subst h1;unfold boolsOf at e;obtain⟨m,hm,rfl⟩:=zzJ.mp e
  rw [fB h2 hm]
  rfl
 |.aA::_,_,_,_,e=>by cases e
 |.int _::_,_,_,_,e=>by cases e
 |.str _::_,_,_,_,e=>by cases e
 |.tup _::_,_,_,_,e=>by cases e
 |.lst _::_,_,_,_,e=>by cases e
 |.exc _::_,_,_,_,e=>by cases e
 |.bw _ _::_,_,_,_,e=>by cases e
def Res.of_ok{α:Type}{o:Option α}{a:α}(h:Res.of o=.ok a):o=some a:=by
 cases o with
 |none=>cases h
 |some b=>cases h;rfl
def F9(hK:W.K=X.K)(hu:X.A.units+64<cLine):fu X (compareOp .Lt) (qP W qz):=by
 intro aa s σ H x y v u Q I rx ry h;obtain⟨H0,G,p,q,r,sg,t1,t2,e,wq⟩:=h
 unfold qz at e;split at e
 ·cases e;exact Ko aa s σ H x y v u Q I rx ry ⟨_,_,t1.int,t2.int,wq.at sg .b⟩
 ·cases e
def GC:fu X (compareOp .LtE) (qP W qI):=by
 intro aa s σ H x y v u Q I rx ry h;obtain⟨H0,G,p,q,r,sg,t1,t2,e,wq⟩:=h
 unfold qI at e;split at e
 ·cases e;exact Jw aa s σ H x y v u Q I rx ry ⟨_,_,t1.int,t2.int,wq.at sg .b⟩
 ·cases e
def Gv:fu X (compareOp .Gt) (qP W rY):=by
 intro aa s σ H x y v u Q I rx ry h;obtain⟨H0,G,p,q,r,sg,t1,t2,e,wq⟩:=h
 unfold rY at e;split at e
 ·cases e;exact Jx aa s σ H x y v u Q I rx ry ⟨_,_,t1.int,t2.int,wq.at sg .b⟩
 ·cases e
def EG:fu X (compareOp .GtE) (qP W pG):=by
 intro aa s σ H x y v u Q I rx ry h;obtain⟨H0,G,p,q,r,sg,t1,t2,e,wq⟩:=h
 unfold pG at e;split at e
 ·cases e;exact Kq aa s σ H x y v u Q I rx ry ⟨_,_,t1.int,t2.int,wq.at sg .b⟩
 ·cases e
def mZ{H0 G H:Hp}{p:PV}{x:V}(sg:ay G H)(t:Top W H0 G H p x):decide (x=.aA)=xt p:=by
 cases p with
 |aA=>cases t.aA;rfl
 |bl b=>cases t.bl;rfl
 |int b=>cases t.int;rfl
 |str b=>cases t.str;rfl
 |tup b=>obtain⟨a,vs,rfl,_⟩:=t.tup sg;rfl
 |lst b=>obtain⟨a,vs,rfl,_⟩:=t.lst sg;rfl
 |bw b c=>obtain⟨a,vs,rfl,_⟩:=t.bw sg;rfl
 |exc c=>
  rcases t with t|t
  ·simp! [Rep] at t;obtain⟨a,C,rfl,_⟩:=t
   rfl
  ·exact t.elim
def Fg:fu X (compareOp .Is) (qP W i7):=by
 intro aa s σ H x y v u Q I rx ry h;obtain⟨H0,G,p,q,r,sg,t1,t2,e,wq⟩:=h
 unfold i7 at e;split at e
 ·cases e;refine Hm aa s σ H x y v u Q I rx ry ⟨t2.aA,?_⟩;rw [mZ sg t1];exact wq.at sg .b
 ·cases e;exact xy aa s σ H x y v u Q I rx ry ⟨_,_,t1.bl,t2.bl,wq.at sg .b⟩
 ·cases e
def BW:fu X (compareOp .IsNot) (qP W eE):=by
 intro aa s σ H x y v u Q I rx ry h;obtain⟨H0,G,p,q,r,sg,t1,t2,e,wq⟩:=h
 unfold eE at e;split at e
 ·cases e;refine Be aa s σ H x y v u Q I rx ry ⟨t2.aA,?_⟩;rw [mZ sg t1];exact wq.at sg .b
 ·cases e
variable{H0 G H:Hp}
def tQ{aa:List (Addr×Obj)}{σ:St}{s:Shared}(I:Inv X aa σ H s)(hK:W.K=X.K)(sg:ay G H){A:Around}{a:PV}{x:V}{x':Value}{ys:List PV}{us:List V}{ak:List Value}(hu:A.units+32<cLine)(ha:vZ a=true)(hy:ys.all vZ=true)(ta:Top W H0 G H a x)(rx:RelV x x')(l:ah W G ys us)(r:Vals us ak):
 ∃e:Value->Bool,(∀y∈ak,SeqAt.EqAt A s y x' (e y))/\∀(j:Nat) (y:Value) (p:PV),ak[j]?=some y->ys[j]?=some p->e y=eqv p a:=by
 classical
 have key:∀(j:Nat) (y:Value),ak[j]?=some y->∃p u,ys[j]?=some p/\us[j]?=some u/\Rep W G p u/\RelV u y/\vZ p=true:=λj y e=>by
  have hj:=(zzH.mp e).1
  have hl:=r.length
  obtain⟨u,Dy,FA⟩:=r.get (i:=j) (x:=us[j]'(by omega)) (zzg (by omega))
  rw [e] at Dy;cases Dy;obtain⟨p,hp,kp⟩:=l.get (zzg (show j<us.length by omega))
  exact⟨p,_,hp,zzg (by omega),kp,FA,zzT.mp hy p (zzD hp)⟩
 refine⟨λy=>if h:∃(j:Nat) (p:PV),ak[j]?=some y/\ys[j]?=some p then eqv h.choose_spec.choose a else false,λy Bt=>?_,λj y p e1 e2=>?_⟩
 ·obtain⟨j,hj,e⟩:=List.getElem_of_mem Bt
  have ej:ak[j]?=some y:=by rw [zzg hj,e]
  obtain⟨p,u,h1,h2,h3,h4,h5⟩:=key j y ej
  have hex:∃(j:Nat) (p:PV),ak[j]?=some y/\ys[j]?=some p:=⟨j,p,ej,h1⟩
  dsimp only;rw [dif_pos hex];have sp:=hex.choose_spec.choose_spec
  obtain⟨p2,u2,g1,g2,g3,g4,g5⟩:=key _ y sp.1
  have e3:hex.choose_spec.choose=p2:=zzq (sp.2.symm.trans g1)
  rw [e3];exact wg (H0:=H0) I hK sg 9 (by omega) g5 ha (.inl g3) ta g4 rx
 ·have hex:∃(j:Nat) (p:PV),ak[j]?=some y/\ys[j]?=some p:=⟨j,p,e1,e2⟩
  dsimp only;rw [dif_pos hex];obtain⟨p1,u1,f1,f2,f3,f4,f5⟩:=key j y e1
  rw [e2] at f1;cases f1;have sp:=hex.choose_spec.choose_spec
  obtain⟨p2,u2,g1,g2,g3,g4,g5⟩:=key _ y sp.1
  have e3:hex.choose_spec.choose=p2:=zzq (sp.2.symm.trans g1)
  have e4:u1=u2:=f4.inj g4
  subst e4;rw [e3,tJ I hK sg DP g5 f5 (.inl g3:Top W H0 G H p2 u1) (.inl f3)]
def w6{ak:List Value}{ys:List PV}{e:Value->Bool}{f:PV->Bool}:ak.length=ys.length->(∀(j:Nat) (y:Value) (p:PV),ak[j]?=some y->ys[j]?=some p->e y=f p)->ak.any e=ys.any f:=by
 intro hl h;have:ak.map e=ys.map f:=iA (by simpa using hl) λj x y hx hy=>by
  rw [zzQ] at hx hy;obtain⟨a,ha,rfl⟩:=zzJ.mp hx
  obtain⟨b,hb,rfl⟩:=zzJ.mp hy
  exact h j a b ha hb
 calc ak.any e=(ak.map e).any id:=by rw [List.any_map];rfl
  _=(ys.map f).any id:=by rw [this]
  _=ys.any f:=by rw [List.any_map];rfl
def GH(hK:W.K=X.K)(hu:X.A.units+64<cLine):fu X (compareOp .In) (qP W rF):=by
 intro aa s σ H x y v u Q I rx ry h;obtain⟨H0,G,p,q,r,sg,t1,t2,e,wq⟩:=h
 have Dy:X.A.in1.units+32<cLine:=by show X.A.units+1+32<_;omega
 unfold rF at e;split at e
 ·split at e
  ·rename_i hc;rw [zza] at hc;cases e;obtain⟨b,us,rfl,q2,l2⟩:=t2.lst sg
   cases ry;obtain⟨ak,rv,z,_⟩:=I.list (iP hK q2)
   obtain⟨e,he,hv⟩:=tQ I hK sg Dy hc.1 hc.2 t1 rx l2 rv
   refine SeqAt.in_listAt e z.isList (λy hy=>he y (by simpa using hy)) ?_
   have:=w6 (by rw [<-rv.length,l2.length]) hv
   rw [List.any_toArray,this];exact ng I sg wq
  ·cases e
 ·obtain⟨k,hk,e⟩:=Res.aU e
  cases e;have hk:=eP (Res.of_ok hk)
  subst hk;obtain⟨b,rfl,hb⟩:=t1.tupI (ns:=k) sg rfl
  obtain⟨a,us,rfl,n,hd,l⟩:=t2.bw sg
  cases ry;refine NO (show X.A.units+1<cLine by omega) I (.inr ⟨_,ki k,b,hd,rfl,(by rw [rX];exact sg _ _ hb),rfl⟩) rx λs' I'=>?_
  rw [iN,fM k _ us n];exact ng I' sg wq
 ·cases e
def A9(hK:W.K=X.K)(hu:X.A.units+64<cLine):fu X (compareOp .NotIn) (qP W gb):=by
 intro aa s σ H x y v u Q I rx ry h;obtain⟨H0,G,p,q,r,sg,t1,t2,e,wq⟩:=h
 have Dy:X.A.in1.units+32<cLine:=by show X.A.units+1+32<_;omega
 unfold gb at e;split at e
 ·split at e
  ·rename_i hc;rw [zza] at hc;cases e;obtain⟨b,us,rfl,q2,l2⟩:=t2.lst sg
   cases ry;obtain⟨ak,rv,z,_⟩:=I.list (iP hK q2)
   obtain⟨e,he,hv⟩:=tQ I hK sg Dy hc.1 hc.2 t1 rx l2 rv
   refine SeqAt.notIn_listAt e z.isList (λy hy=>he y (by simpa using hy)) ?_
   have:=w6 (by rw [<-rv.length,l2.length]) hv
   rw [List.any_toArray,this];exact ng I sg wq
  ·cases e
 ·obtain⟨k,hk,e⟩:=Res.aU e
  cases e;have hk:=eP (Res.of_ok hk)
  subst hk;obtain⟨b,rfl,hb⟩:=t1.tupI (ns:=k) sg rfl
  obtain⟨a,us,rfl,n,hd,l⟩:=t2.bw sg
  cases ry;refine CO (show X.A.units+1<cLine by omega) I (.inr ⟨_,ki k,b,hd,rfl,(by rw [rX];exact sg _ _ hb),rfl⟩) rx λs' I'=>?_
  rw [iN,fM k _ us n];exact ng I' sg wq
 ·cases e
theorem fO(hK:W.K=X.K)(hu:X.A.units+64<cLine):∀o:xg,fu X (compareOp (pj o)) (qP W (dc o))
 |.eq=>Ek hK hu|.ne=>HB hK hu|.lt=>F9 hK hu|.le=>GC|.gt=>Gv|.ge=>EG|.is=>Fg|.oB=>BW|.zy=>GH hK hu|.qH=>A9 hK hu
def sR{ps:List PV}{vs:List V}{i:Int}{p:PV}(l:ah W G ps vs)(h:qw ps i=some p):∃v,qw vs i=some v/\Rep W G p v:=by
 unfold qw at h⊢;rw [l.length];cases e:Hi ps.length i with
 |none=>rw [e] at h;cases h
 |some j=>
  rw [e] at h;exact l.nv h
def GY(hu:X.A.units+1<cLine):Ic X (λx y H Q=>∃a az k b v,x=.ref a/\Rd H a (.dT az)/\y=.ref b/\H b=some (.tup (k.map kV))/\iI az k=some v/\Q v H):=by
 intro value slice aa s σ H x y v u Q I rx ry h hs;obtain⟨a,az,k,b,z,rfl,hd,rfl,hb,hv,q⟩:=h
 cases rx;cases ry;obtain⟨_,_,xs,rel,dd⟩:=kj I.bz hd
 obtain⟨w',hw,ix⟩:=kG.some_of (v:=z) (o:=(atKey xs k).map (·.2)) (by rw [<-hv];exact rel.val k)
 obtain⟨p,hp,hp2⟩:=zzJ.mp hw
 exact PyProof.Rows.subscriptTail_builtinR (x:=w') dd.typeIs PySem.F.slot_dict_getitem.lookup (wpAny_getItem_heap (Q:=λr s'=>r=w'/\EP X aa σ Q r s') (tupleKind_room_in1 hu) (gy I.bz hb) dd hp ⟨hp2,by rw [hp2];exact⟨z,H,I.tok _,ix,q⟩⟩) hs
def Ng(hK:W.K=X.K)(hu:X.A.units+64<cLine):Ic X (qP W aF):=by
 intro value slice aa s σ H x y v u Q I rx ry h hs;obtain⟨H0,G,p,q,r,sg,t1,t2,e,wq⟩:=h
 unfold aF at e;split at e
 ·obtain⟨a,vs,rfl,h1,l1⟩:=t1.lst sg
  obtain⟨w,hw,kw⟩:=sR l1 (Res.of_ok e)
  exact CQ value slice aa s σ H _ y v u Q I rx ry ⟨a,vs,_,w,rfl,t2.int,iP hK h1,hw,wq.at sg kw⟩ hs
 ·obtain⟨a,vs,rfl,h1,l1⟩:=t1.tup sg
  rw [hK] at h1;obtain⟨w,hw,kw⟩:=sR l1 (Res.of_ok e)
  exact FH value slice aa s σ H _ y v u Q I rx ry ⟨a,vs,_,w,rfl,t2.int,h1,hw,wq.at sg kw⟩ hs
 ·split at e
  ·rename_i hl;obtain⟨c,hc,e⟩:=Res.aU e
   cases e;exact ED value slice aa s σ H x y v u Q I rx ry ⟨_,_,c,t1.str,t2.int,j5 hl,Res.of_ok hc,wq.at sg .s⟩ hs
  ·cases e
 ·obtain⟨k,hk,e2⟩:=Res.aU e
  have hk:=eP (Res.of_ok hk)
  subst hk;obtain⟨b,rfl,hb⟩:=t2.tupI (ns:=k) sg rfl
  obtain⟨a,us,rfl,n,hd,l⟩:=t1.bw sg
  obtain⟨w,hw,kw⟩:=o7 l (Res.of_ok e2)
  exact GY (by omega) value slice aa s σ H _ _ v u Q I rx ry ⟨a,_,ki k,b,w,rfl,hd,rfl,(by rw [rX];exact sg _ _ hb),(by rw [iN];exact hw),wq.at sg kw⟩ hs
 ·cases e
def AE{ps:List PV}{vs:List V}(lo hi:Option Int)(l:ah W G ps vs):ah W G (xf ps lo hi) (vI vs lo hi):=by
 unfold xf vI;rw [l.length];exact(l.drop _).take _
def Np(hK:W.K=X.K):L2.DI X (λx lo hi H Q=>∃H0 G p r,ay G H/\Top W H0 G H p x/\dZ p lo hi=.ok r/\dD W G H r Q):=by
 intro aa s σ H x v vl vu lo hi sl Q I rx hs pl pu h;obtain⟨H0,G,p,r,sg,t1,e,wq⟩:=h
 unfold dZ at e;split at e
 ·cases e;obtain⟨a,vs,rfl,h1,l1⟩:=t1.lst sg
  exact AO aa s σ H _ v vl vu _ _ sl Q I rx hs pl pu ⟨a,vs,rfl,iP hK h1,λp hp=>wq.lst sg (AE _ _ l1) hp⟩
 ·cases e
def uC(W:Wd)(f:List PV->Res PV):List V->Hp->VK->Prop:=λvs H Q=>∃H0 G ps r,ay G H/\Paired (λv p=>Top W H0 G H p v) vs ps/\f ps=.ok r/\dD W G H r Q
def fc{H0 G H:Hp}{vs:List V}{p:PV}(h:Paired (λv p=>Top W H0 G H p v) vs [p]):∃v,vs=[v]/\Top W H0 G H p v:=by
 cases h with
 |cons h t=>cases t;exact⟨_,rfl,h⟩
def Dv{H0 G H:Hp}{vs:List V}{p q:PV}(h:Paired (λv p=>Top W H0 G H p v) vs [p,q]):∃v u,vs=[v,u]/\Top W H0 G H p v/\Top W H0 G H q u:=by
 cases h with
 |cons h t=>
  cases t with
  |cons h2 t2=>cases t2;exact⟨_,_,rfl,h,h2⟩
def vv(hK:W.K=X.K):bL X (.builtin "len") (uC W sF):=by
 intro aa s σ H xs us Q I r h;obtain⟨H0,G,ps,rr,sg,tp,e,wq⟩:=h
 unfold sF at e;split at e
 ·cases e;obtain⟨v,rfl,t⟩:=fc tp
  obtain⟨a,vs,rfl,h1,l1⟩:=t.lst sg
  exact hU aa s σ H _ us Q I r ⟨a,vs,rfl,.inl (iP hK h1),by rw [l1.length];exact wq.at sg .i⟩
 ·cases e;obtain⟨v,rfl,t⟩:=fc tp
  obtain⟨a,vs,rfl,h1,l1⟩:=t.tup sg
  rw [hK] at h1;exact hU aa s σ H _ us Q I r ⟨a,vs,rfl,.inr h1,by rw [l1.length];exact wq.at sg .i⟩
 ·split at e
  ·rename_i hl;cases e;obtain⟨v,rfl,t⟩:=fc tp
   exact nQ aa s σ H _ us Q I r ⟨_,by rw [t.str],j5 hl,wq.at sg .i⟩
  ·cases e
 ·cases e;obtain⟨v,rfl,t⟩:=fc tp
  obtain⟨a,us',rfl,n,hd,l⟩:=t.bw sg
  obtain⟨u,rfl,ru⟩:=vals1 r
  cases ru;exact GZ I hd λt s' I'=>⟨.int _,H,I',⟨t,rfl⟩,by rw [nG n];exact wq.at sg .i⟩
 ·cases e
def ve:bL X (.builtin "abs") (uC W zE):=by
 intro aa s σ H xs us Q I r h;obtain⟨H0,G,ps,rr,sg,tp,e,wq⟩:=h
 unfold zE at e;split at e
 ·cases e;obtain⟨v,rfl,t⟩:=fc tp
  exact zA aa s σ H _ us Q I r ⟨_,by rw [t.int],wq.at sg .i⟩
 ·cases e
def uP(hc:X.calm=true):bL X (.builtin "max") (uC W xM):=by
 intro aa s σ H xs us Q I r h;obtain⟨H0,G,ps,rr,sg,tp,e,wq⟩:=h
 unfold xM at e;split at e
 ·cases e;obtain⟨v,u,rfl,t,t2⟩:=Dv tp
  exact u0 hc aa s σ H _ us Q I r ⟨_,_,by rw [t.int,t2.int],wq.at sg .i⟩
 ·cases e
def uR(hc:X.calm=true):bL X (.builtin "min") (uC W wA):=by
 intro aa s σ H xs us Q I r h;obtain⟨H0,G,ps,rr,sg,tp,e,wq⟩:=h
 unfold wA at e;split at e
 ·cases e;obtain⟨v,u,rfl,t,t2⟩:=Dv tp
  exact uS hc aa s σ H _ us Q I r ⟨_,_,by rw [t.int,t2.int],wq.at sg .i⟩
 ·cases e
def uJ:bL X (.type "int") (uC W wK):=by
 intro aa s σ H xs us Q I r h;obtain⟨H0,G,ps,rr,sg,tp,e,wq⟩:=h
 unfold wK at e;split at e
 ·split at e
  ·rename_i hl;obtain⟨n,hn,e⟩:=Res.aU e
   cases e;obtain⟨v,rfl,t⟩:=fc tp
   exact nN aa s σ H _ us Q I r ⟨_,n,by rw [t.str],Res.of_ok hn,hl,wq.at sg .i⟩
  ·cases e
 ·cases e
def uX:bL X (.type "str") (uC W yo):=by
 intro aa s σ H xs us Q I r h;obtain⟨H0,G,ps,rr,sg,tp,e,wq⟩:=h
 unfold yo at e;split at e
 ·split at e
  ·rename_i hl;cases e;obtain⟨v,rfl,t⟩:=fc tp
   exact oq aa s σ H _ us Q I r ⟨_,by rw [t.int],hl,wq.at sg .s⟩
  ·cases e
 ·cases e
def qt(hK:W.K=X.K):bL X (.type "tuple") (uC W kM):=by
 intro aa s σ H xs us Q I r h;obtain⟨H0,G,ps,rr,sg,tp,e,wq⟩:=h
 unfold kM at e;split at e
 ·cases e;obtain⟨v,rfl,t⟩:=fc tp
  obtain⟨a,vs,rfl,h1,l1⟩:=t.lst sg
  exact l8 aa s σ H _ us Q I r ⟨a,vs,rfl,.inl ⟨iP hK h1,λp hp=>wq.tup sg l1 hp⟩⟩
 ·cases e
def uZ(hc:X.calm=true)(hK:W.K=X.K):bL X (.builtin "all") (uC W yh):=by
 intro aa s σ H xs us Q I r h;obtain⟨H0,G,ps,rr,sg,tp,e,wq⟩:=h
 unfold yh at e;split at e
 ·obtain⟨bs,hb,e⟩:=Res.aU e
  cases e;obtain⟨v,rfl,t⟩:=fc tp
  obtain⟨a,vs,rfl,h1,l1⟩:=t.lst sg
  cases fB l1 (Res.of_ok hb);exact yX hc aa s σ H _ us Q I r ⟨a,bs,rfl,iP hK h1,wq.at sg .b⟩
 ·cases e
def uF(hc:X.calm=true)(hK:W.K=X.K):bL X (.builtin "any") (uC W yA):=by
 intro aa s σ H xs us Q I r h;obtain⟨H0,G,ps,rr,sg,tp,e,wq⟩:=h
 unfold yA at e;split at e
 ·obtain⟨bs,hb,e⟩:=Res.aU e
  cases e;obtain⟨v,rfl,t⟩:=fc tp
  obtain⟨a,vs,rfl,h1,l1⟩:=t.lst sg
  cases fB l1 (Res.of_ok hb);exact wV hc aa s σ H _ us Q I r ⟨a,bs,rfl,iP hK h1,wq.at sg .b⟩
 ·cases e
def rV:Ty->String
 |.int=>"int"|.bool=>"bool"|.tuple=>"tuple"|.list=>"list"
def Jo{K:zz8}(t:Ty):Cw.zM K "NoneType" (rV t) false/\(∀b,Cw.zM K "bool" (rV t) (gF t (.bl b)))/\(∀i,Cw.zM K "int" (rV t) (gF t (.int i)))/\(∀z,Cw.zM K "str" (rV t) (gF t (.str z)))/\(∀z,Cw.zM K "tuple" (rV t) (gF t (.tup z)))/\(∀z,Cw.zM K "list" (rV t) (gF t (.lst z))):=by
 cases t
 all_goals refine⟨?_,λb=>?_,λb=>?_,λb=>?_,λb=>?_,λb=>?_⟩
 all_goals first
  |exact Cw.yQ _
  |exact Cw.xU (b:=false) (by decide+kernel) (by decide+kernel) (by decide+kernel)
  |exact Cw.xU (b:=true) (by decide+kernel) (by decide+kernel) (by decide+kernel)
def yF(hK:W.K=X.K)(t:Ty):bL X (.builtin "isinstance") (λxs H Q=>∃v H0 G p r,xs=[v,.ty (rV t)]/\ay G H/\Top W H0 G H p v/\f7 t p=.ok r/\dD W G H r Q):=by
 intro aa s σ H xs us Q I rr h;obtain⟨v,H0,G,p,r,rfl,sg,tp,e,wq⟩:=h
 obtain⟨u,u2,rfl,ru,ru2⟩:=Vals.two rr
 cases ru2;obtain⟨k1,k2,k3,k4,k5,k6⟩:=Jo (K:=X.K) t
 cases p with
 |exc c=>cases e
 |bw a b=>cases e
 |aA=>cases e;cases tp.aA;cases ru;cases t<;>exact PySem.W.kia_one PySem.W.kitx_none I.sE True.intro k1 (λz=>nomatch z) λtk=>⟨.bl _,H,I.tok tk,rfl,wq.at sg .b⟩
 |bl b=>cases e;cases tp.bl;cases ru;exact PySem.W.kia_one PySem.W.kitx_bool I.sE True.intro (k2 b) (λz=>nomatch z) λtk=>⟨.bl _,H,I.tok tk,rfl,wq.at sg .b⟩
 |int b=>cases e;cases tp.int;obtain⟨t1,rfl⟩:=ru;exact PySem.W.kia_one PySem.W.kitx_int I.sE True.intro (k3 b) (λz=>nomatch z) λtk=>⟨.bl _,H,I.tok tk,rfl,wq.at sg .b⟩
 |str b=>cases e;cases tp.str;obtain⟨t1,rfl⟩:=ru;exact PySem.W.kia_one PySem.W.kitx_str I.sE True.intro (k4 b) (λz=>nomatch z) λtk=>⟨.bl _,H,I.tok tk,rfl,wq.at sg .b⟩
 |tup b=>
  cases e;obtain⟨a,vs,rfl,h1,l1⟩:=tp.tup sg
  rw [hK] at h1;cases ru;obtain⟨ak,_,⟨o,e1,e2,_⟩,_⟩:=I.tuple h1
  exact PySem.W.kia_one PySem.W.kitx_tuple I.sE ⟨o,e1,e2⟩ (k5 b) (λz=>nomatch z) λtk=>⟨.bl _,H,I.tok tk,rfl,wq.at sg .b⟩
 |lst b=>
  cases e;obtain⟨a,vs,rfl,h1,l1⟩:=tp.lst sg
  cases ru;obtain⟨ak,n,_,_,_,e1⟩:=Aa hK I h1
  exact PySem.W.kia_one PySem.W.kitx_list I.sE ⟨_,e1,rfl⟩ (k6 b) (λz=>nomatch z) λtk=>⟨.bl _,H,I.tok tk,rfl,wq.at sg .b⟩
theorem tG{k:List Int}{v:V}(h:Rep W G (af k) v):∃b,v=.ref b/\G b=some (.tup (k.map V.int)):=Top.tupI (H0:=G) (ay.refl G) rfl (.inl h)
theorem m7:∀{vs:List V} {nss:List (List Int)} {G:Hp},ay G H->Paired (λv ns=>∃b,v=V.ref b/\H b=some (.tup (ns.map V.int))) vs nss->∃G',aH W G H G' H/\ah W G' (nss.map af) vs
 |_,_,G,sg,.nil=>⟨G,.refl sg,.nil⟩
 |_,_,G,sg,.cons (b:=ns) h t=>by
  obtain⟨b,rfl,hb⟩:=h
  have g1:=aH.adopt (W:=W) sg hb
  obtain⟨G2,g2,l⟩:=m7 g1.sub t
  refine⟨G2,g1.trans g2,.cons (Rep.same g2.g _ ?_) l⟩;refine .t (.inl au) ?_;have go:∀ns:List Int,ah W (upd G b (.tup (ns.map V.int))) (ns.map .int) (ns.map V.int)/\True:=λ_=>⟨by
   rename_i ns';have all:∀(G':Hp) (l:List Int),ah W G' (l.map .int) (l.map V.int):=λG' l=>by
    induction l with
    |nil=>exact .nil
    |cons x l ih=>exact .cons .i ih
   exact all _ _,trivial⟩
  exact(go ns).1
def q0(hK:W.K=X.K)(hc:X.calm=true):bL X (.builtin "max") (uC W pT):=by
 intro aa s σ H xs us Q I r h;obtain⟨H0,G,ps,rr,sg,tp,e,wq⟩:=h
 unfold pT at e;split at e
 ·obtain⟨ns,hn,e⟩:=Res.aU e
  split at e
  ·rename_i hb;cases e;obtain⟨v,rfl,t⟩:=fc tp
   obtain⟨a,vs,rfl,h1,l1⟩:=t.lst sg
   cases gN l1 (Res.of_ok hn);exact vk hc aa s σ H _ us Q I r ⟨a,ns,rfl,iP hK h1,hb,wq.at sg .i⟩
  ·cases e
 ·cases e
theorem yE{K:zz8}(hK:W.K=K)(sg:ay G H):∀{xs:List PV} {ps:List (List Int×PV)} {vs:List V},qY xs=some ps->ah W G xs vs->∃us,ah W G (ps.map (·.2)) us/\gu K H vs ((ps.map λp=>ki p.1).zip us)
 |[],_,_,e,l=>by cases e;simp! [ah] at l;subst l;exact⟨[],.nil,.nil⟩
 |x::xs,ps,vs,e,l=>by
  obtain⟨v,vr,rfl,h1,h2⟩:=l.bp
  unfold qY at e;split at e
  ·rename_i heq;cases heq
  ·rename_i heq;cases heq;obtain⟨k,hk,e⟩:=zzZ.mp e
   obtain⟨r,hr,rfl⟩:=zzJ.mp e
   obtain⟨us,l2,p2⟩:=yE hK sg hr h2
   simp! [Rep] at h1;obtain⟨q,ws,rfl,tq,lq⟩:=h1
   obtain⟨w1,wr,rfl,k1,lq⟩:=lq.bp
   obtain⟨w2,wr2,rfl,k2,lq⟩:=lq.bp
   simp! [ah] at lq;subst lq;rw [eP hk] at k1;obtain⟨b,rfl,hb⟩:=tG k1
   refine⟨w2::us,.cons k2 l2,.cons ⟨q,b,rfl,?_,by rw [rX];exact sg _ _ hb⟩ p2⟩;rw [<-hK];exact ay.tup sg tq.sq
  ·cases e
theorem mD:∀(ps:List (List Int×PV)) {us:List V} {ks:List (List Int)} {qs:List PV} {ws:List V},ah W G (ps.map (·.2)) us->ks.length=ws.length->ah W G qs ws->∃zs,(dO ps ks qs).1.length=zs.length/\ah W G (dO ps ks qs).2 zs/\dQ (kz ks ws) ((ps.map λp=>ki p.1).zip us)=kz (dO ps ks qs).1 zs
 |[],us,ks,qs,ws,_,n,l=>⟨ws,n,l,rfl⟩
 |p::ps,us,ks,qs,ws,lu,n,l=>by
  obtain⟨u,ur,rfl,h1,h2⟩:=lu.bp
  obtain⟨zs,z1,z2,z3⟩:=mD ps h2 (qi n p.1 u) (uo (ks:=ks) (k:=p.1) l h1)
  refine⟨zs,z1,z2,?_⟩;show dQ (putK (kz ks ws) (ki p.1) u) _=_
  rw [zd n];exact z3
def zw(hK:W.K=X.K){H0:Hp}{ps:List PV}{q:PV}{xs:List V}(sg:ay G H)(tp:Paired (λv p=>Top W H0 G H p v) xs ps)(e:mF ps=.ok q):∃ks qs,q=.bw ks qs/\∃a vs az,xs=[V.ref a]/\dw X.K H a vs/\gu X.K H vs az/\∃zs,ks.length=zs.length/\ah W G qs zs/\dQ [] az=kz ks zs:=by
 unfold mF at e;split at e
 ·obtain⟨ps,hp,e⟩:=Res.aU e
  cases e;obtain⟨v,rfl,t⟩:=fc tp
  obtain⟨a,vs,rfl,h1,l1⟩:=t.lst sg
  obtain⟨ws,lw,pw⟩:=yE hK sg (Res.of_ok hp) l1
  obtain⟨zs,z1,z2,z3⟩:=mD ps (ks:=[]) (qs:=[]) (ws:=[]) lw rfl .nil
  exact⟨_,_,rfl,a,vs,_,rfl,iP hK h1,pw,zs,z1,z2,z3⟩
 ·cases e
def pZ(hK:W.K=X.K)(hc:X.calm=true)(hu:X.A.units+64<cLine):bL X (.type "dict") (uC W mF):=by
 intro aa s σ H xs us Q I r h;obtain⟨H0,G,ps,rr,sg,tp,e,wq⟩:=h
 obtain⟨ks,qs,rfl,a,vs,az,rfl,h1,pw,zs,z1,z2,z3⟩:=zw hK sg tp e
 refine qS hc (by omega) aa s σ H _ us Q I r ⟨a,vs,_,rfl,h1,pw,λp o hn=>?_⟩
 rw [z3];refine wq _ _ _ (.new sg hn) ?_;simp! [Rep];exact⟨p,o,zs,rfl,z1,au,ah.same (bf (sg.free hn)) _ z2⟩
end
end Ci
namespace L2
open PySem PySem.Spec PyProof.Rows
section
variable{X:Cx}{scope:Scope}{xs ys:List Str}{is:List Nat}
theorem nX{i₀:Nat}{x₀:Str}{pos' fU:Pos}{elt tg iter GK:Expr}{pos:Pos}{wi:TI}{g:TG}{te:TE}{tt:TT}(hN₀:X.N.Nodup)(hi₀:X.N[i₀]?=some x₀)(hx₀:Loc X.env.scope x₀)(hc:X.calm=true)(S:ee X scope xs ys is)(hi:PI X tg iter wi)
 (hg:∀fp s1 H1 C,PG (bP X (xs++ys) scope (cu X.env ys) fp s1 H1 C) tg g) (ht:∀fp s1 H1 C,PT (bP X (xs++ys) scope (cu X.env ys) fp s1 H1 C) GK tt) (he:∀fp s1 H1 C,PE (bP X (xs++ys) scope (cu X.env ys) fp s1 H1 C) elt te)
 (xj:swapsWith (.ListComp elt [⟨tg,iter,[GK],0⟩] scope pos) (some (.Name x₀ pos')) fU.line X.env=pure true:=by rfl)
 (hs:∀x,foldedSetIterable iter X.env x=pure x:=by intro _;rfl) (hf₀:X.fn x₀=true\/X.env.scope.names.lookup x₀=some .local:=by first|exact .inl rfl|exact .inr rfl|assumption):
 PS X (.Assign [.Name x₀ pos'] (.ListComp elt [⟨tg,iter,[GK],0⟩] scope pos) fU) (Ay (js wi xs.length g tt te is) (dY i₀)):=by
 intro aa s σ H D₀ I h;rw [exec_Assign_Name_used _ _ _ _ xj];refine zzA (wpAny_standAt (zzA ?_));show wpAny _ X.A (do let _<-comprehension (.ListComp elt [⟨tg,iter,[GK],0⟩] scope pos) scope X.env _ (newList []) false (eval iter X.env) (some (assign (.Name x₀ pos') X.env))) _ _ s;refine zzA (wpAny_mono (fN (QQ:=λ_ s'=>∃σ2 H2,Inv X aa σ2 H2 s'/\D₀.nx σ2 H2) (Q:=λv H4=>dY i₀ v σ H4 D₀.nx) hc S hi hg (λfp s1 H1 C=>uk (ht fp s1 H1 C)) he hs I h λD C s4 H4 m I5 hn ⟨g0,g1,_,g3,g4,g5⟩ q=>?_) (λ_ s' hq=>zzG (zzG hq)) λ_ _ e=>e)
 refine wpAny_assign_Name (iz I5 hN₀ hi₀ hx₀ (show RelV (.ref D) (.ref D) from rfl) (λs6 I6 ⟨a6,sb6,ha6⟩=>?_) hf₀);have y9:C≠a6:=by
  rcases ha6 with z|z
  ·rw [z];exact g1
  ·exact λz2=>g4 _ _ z z2.symm
 exact⟨m,hn.sameBut sb6 y9,λh' uy=>⟨_,_,I6.turned (t':=s6.toks) (it:=C) (λb o hb e=>uy.extBut b o hb e) g0 g1 g3 g4 g5,q⟩⟩
end
open PySem.AutoSeq1 (wpAny_loadPart')
section
variable{prog:Program}{w:World}{A:Around}{E:Value->Shared->Prop}{s:Shared}{jt tu:Addr}{i:Nat}{ak:Array Value}{Q:Value->Shared->Prop}
def i9{x:Value}(ih:s.heap.IsTupleIter jt tu i)(th:s.heap.IsTuple tu ak)(hx:ak[i]?=some x)
 (k:∀g,g.IsTupleIter jt tu (i+1)->Heap.SameBut jt s.heap g->Q x {s with heap:=g}):wpAny (model prog w) A (Builtin.SmallTypes.nextOf (.ref jt)) Q E s:=by
 obtain⟨ob,e1,e2,e3⟩:=id ih
 obtain⟨ot,f1,_,nn,f2⟩:=th
 unfold Builtin.SmallTypes.nextOf;refine zzA (wpAny_callSpecial?_slot (name:=Str.ofString "__next__") ih.typeIs F.slot_tuple_iterator_next (wpAny_call_entry F.slot_tuple_iterator_next ih.typeIs F.entry_tuple_iterator_next ?_ (F.args_tuple_iterator_next_1 _)));show wpAny _ _ (field (.ref jt) 0>>=_) _ _ s;refine zzA (wpAny_field e1 e3 (x:=.ref tu) rfl ?_);show wpAny _ _ (if(Value.ref tu==Value.none)=true then _ else _) _ _ s;rw [if_neg (show¬((Value.ref tu==Value.none)=true) from zzf)];show wpAny _ _ (field (.ref jt) 1>>=_) _ _ s;refine zzA (wpAny_field e1 e3 (x:=.int i 0) rfl ?_);show wpAny _ _ (seqItems? (.ref tu)>>=_) _ _ s;refine zzA (wpAny_seqItems f1 f2 ?_);simp! [zz4,hx];refine zzA (wpAny_setField e1 e3 (by simp) (zzG ⟨x,rfl,zzG (k _ ?_ (zzu ..))⟩));exact⟨_,Heap.get?_update_self _ e1 (Obj.isFreed_of_fields (Obj.data_mapFields e3 _)),(Obj.cls_mapFields ..).trans e2,by rw [Obj.data_mapFields e3];simp [rawInt]⟩
def kK(hh:A.handled=none)(ih:s.heap.IsTupleIter jt tu i)(th:s.heap.IsTuple tu ak)(hx:ak[i]?=none)
 (k:∀g e,Heap.ExtBut jt s.heap g->(∃o,g.get? e=some o/\o.cls=.type "StopIteration")->E (.ref e) {s with heap:=g}):wpAny (model prog w) A (Builtin.SmallTypes.nextOf (.ref jt)) Q E s:=by
 obtain⟨ob,e1,e2,e3⟩:=id ih
 obtain⟨ot,f1,_,nn,f2⟩:=th
 unfold Builtin.SmallTypes.nextOf;refine zzA (wpAny_callSpecial?_slot (name:=Str.ofString "__next__") ih.typeIs F.slot_tuple_iterator_next (wpAny_call_entry F.slot_tuple_iterator_next ih.typeIs F.entry_tuple_iterator_next ?_ (F.args_tuple_iterator_next_1 _)));show wpAny _ _ (field (.ref jt) 0>>=_) _ _ s;refine zzA (wpAny_field e1 e3 (x:=.ref tu) rfl ?_);show wpAny _ _ (if(Value.ref tu==Value.none)=true then _ else _) _ _ s;rw [if_neg (show¬((Value.ref tu==Value.none)=true) from zzf)];show wpAny _ _ (field (.ref jt) 1>>=_) _ _ s;refine zzA (wpAny_field e1 e3 (x:=.int i 0) rfl ?_);show wpAny _ _ (seqItems? (.ref tu)>>=_) _ _ s;refine zzA (wpAny_seqItems f1 f2 ?_);simp! [zz4,hx];refine zzA (wpAny_rule (zzA (wpAny_setField e1 e3 (by simp) ?_)));show wpAny _ _ (newExc (.type "StopIteration") []>>=_) _ _ _;refine zzA ?_;simp! [newExc,newTuple];refine zzA (wpAny_newObj_type ?_ (by size_fits));refine zzA (m:=firstArgMember _ _) (wpAny_of_eq (a:=Value.none) (by first|rfl|(simp! [firstArgMember];rfl)) ?_);refine wpAny_newObj_type ?_ (by size_fits);simp! [raiseNew];refine zzA (wpAny_handled ?_)
 first|rw [show A.in1.handled=none from hh]|rw [hh]
 refine zzA (zzG (wpAny_throw ?_));exact k _ _ (((zzu ..).extBut.push _).push _) ⟨_,zzX _ rfl,rfl⟩
end
theorem iK{prog:Program}{w:World}{A:Around}(hh:A.handled=none)(jt tu:Addr)(fe:tu≠jt)(ak:Array Value):
 Draws prog w A jt [jt,tu] ak.size (λi v=>ak[i]?=some v) (λi h=>h.IsTupleIter jt tu i/\h.IsTuple tu ak) where
 live:=λ_ _ st=>let⟨o,ho,_⟩:=st.1;⟨o,ho⟩
 frame:=λ_ _ _ st hk=>⟨st.1.at λo e=>hk jt (by simp) o e,by obtain⟨o,e,r⟩:=st.2;exact⟨o,hk tu (by simp) o e,r⟩⟩
 item:=λi s Q E hi st hQ=>i9 st.1 st.2 (x:=ak[i]) (by simp [hi]) λg ig sb=>hQ _ g s.toks (by simp [hi]) ⟨ig,by obtain⟨o,e,r⟩:=st.2;exact⟨o,sb.extBut _ _ fe e,r⟩⟩ sb
 done:=λs Q E st hE=>kK hh st.1 st.2 (by simp) hE
theorem vJ(l:Addr)(items:Array Value)(n:Nat)(bw:Option Addr)(sl:Array (Option Value)):
 Meets (Builtin.«enumerate.__new__» ⟨[.type "enumerate",.ref l],[]⟩) (λ_ R s=>s.heap.get? l=some {cls:=.type "tuple",dict:=bw,data:=.seq items n,slots:=sl}/\
  R (.ok (.ret (.ref (s.heap.push {cls:=.type "tuple_iterator",data:=.fields #[.ref l,.int 0 0]}).objs.size)))
   {s with heap:=(s.heap.push {cls:=.type "tuple_iterator",data:=.fields #[.ref l,.int 0 0]}).push {cls:=.type "enumerate",data:=.fields #[.none,.bool false,.ref (zz9 s),rawInt 0,.none,.none]}}):=
 .of_wp λprog w A R s h=>by
  obtain⟨hp,g,d,tk,os⟩:=s
  obtain⟨hl,h⟩:=h
  have ML:=sub_enumerate
  have hL:Heap.IsTuple (Shared.heap ⟨hp,g,d,tk,os⟩) l items:=⟨_,hl,rfl,n,rfl⟩
  wp_walk using wpAny_loadPart' hl
  refine wpAny_stack_any λst=>zzG ?_
  split
  ·rename_i c _ _ _ _ _;cases(c==Value.type "enumerate")<;>(wp_walk using wpAny_loadPart' hl,wpAny_pyIter_tuple hL;exact⟨_,rfl,h⟩)
  ·wp_walk using wpAny_loadPart' hl,wpAny_pyIter_tuple hL
   exact⟨_,rfl,h⟩
def eV{h:Heap}{a b:Addr}{o1 o2:Obj}(h1:h.get? a=some o1)(h2:h.get? b=some o2)(hc:o1.cls≠o2.cls):a≠b:=λz=>by
 subst z;rw [h1] at h2;cases h2;exact hc rfl
def d8(z:Str):strIterType z="str_ascii_iterator"\/strIterType z="str_iterator":=by
 unfold strIterType;split
 ·exact .inl rfl
 ·exact .inr rfl
def iB{X:Cx}{aa:List (Addr×Obj)}{σ:St}{H:Hp}{s:Shared}{E:Value->Shared->Prop}{e it:Addr}{P0:List Addr}{n i:Nat}{Pv:Nat->Value->Prop}{Sv:Nat->Heap->Prop}{old:Value}{Gx:V->Prop}{elts:List Expr}{x1:Nat}{pos:Pos}
 (I:Inv X aa σ H s) (D:Draws X.prog X.w X.A.in1 it P0 n Pv Sv) (he:IsEnum s.heap e it i old) (cJ:Sv i s.heap) (cL:i<n) (fe:e≠it) (PU:e∉P0) (hf:∀b∈[e,it],fV X aa H b) (hP:∀u,Pv i u->∃x,RelV x u/\Gx x):
 wpAny (model X.prog X.w) X.A (pyNext (.ref e)) (λr s1=>∃u,r=some u/\wpAny (model X.prog X.w) X.A (letOwnedTupleGo (.Tuple elts x1 pos) (.ref e) u) (λ_ s2=>∃x p,u=.ref p/\Gx x/\H p=none/\e≠p/\it≠p/\
  Inv X aa σ (upd H p (.tup [.int i,x])) s2/\(∃N5,IsEnum s2.heap e it ((i:Int)+1) N5)/\Sv (i+1) s2.heap) E s1) E s:=by
 refine wpAny_pyNext_enum_itemD D he cJ cL fe PU λu h' tk pu ho iy ht hz kk=>?_
 obtain⟨x,rx,gx⟩:=hP u pu
 obtain⟨f0,f1,f2,f3,f4,f5⟩:=hf e (by simp)
 obtain⟨g0,g1,g2,g3,g4,g5⟩:=hf it (by simp)
 have vw:H (zz9 s)=none:=I.bz.fresh (zzE _)
 obtain⟨oi,hoi⟩:=D.live _ _ cJ
 have Pk:e≠(zz9 s):=zzb (zzO he)
 have QP:it≠(zz9 s):=zzb (zzO hoi)
 have nt:∀b o,H b=some o->b≠e/\b≠it/\b≠(zz9 s):=λb o q=>⟨(λz=>(by rw [z,f0] at q;cases q)),(λz=>(by rw [z,g0] at q;cases q)),zzb (I.bz.lt q)⟩
 have I1:Inv X aa σ (upd H (zz9 s) (.tup [.int i,x])) {s with heap:=h',toks:=tk+1}:=by
  refine I.step (g':=s.gens) (d':=s.drawn) (ch:=[e,it]) (λb hb=>?_) (λb o _ _ hc q _=>kk b o (λz=>hc (by simp [z])) (λz=>hc (by simp [z])) q)
   (λb o _ _ hc q _=>⟨o.slots,kk b o (λz=>hc (by simp [z])) (λz=>hc (by simp [z])) q⟩) (λb o _ q nb=>by rw [ai (zzb (zzO q))];exact nb)
   (λb o hc q=>⟨o,kk b o (λz=>hc (by simp [z])) (λz=>hc (by simp [z])) q⟩) (λb xs q=>by rw [ai (nt b _ q).2.2];exact q) (λb o u q=>by rw [ai (nt b _ q).2.2];exact q)
   (λb ps q=>⟨#[],by rw [ai (nt b _ q).2.2,q];simp⟩) (λm hm=>?_) (λb o q=>?_) I.bare
  ·rcases zzm.mp hb with z|z
   ·subst z;exact⟨f3,f1,f4,f5⟩
   ·rw [zzi.mp z];exact⟨g3,g1,g4,g5⟩
  ·obtain⟨o,es,ep,q,r⟩:=hm
   exact⟨o,es,ep,kk _ o (Ne.symm f1) (Ne.symm g1) q,r⟩
  ·by_cases hb:b=(zz9 s)
   ·subst hb;rw [au] at q;cases q;exact⟨(show 2<=sizeLine by decide),[.int i tk,u],.cons ⟨tk,rfl⟩ (.cons rx .nil),⟨_,ht,rfl,_,rfl⟩⟩
   ·rw [ai hb] at q;refine(I.bz b o q).fY (λc v hc z=>kk c v ?_ ?_ z) (λc z=>by rw [ai (nt c _ z).2.2];exact z) λc xs z=>by rw [ai (nt c _ z).2.2];exact z
    ·rcases hc with z'|z'
     ·rw [z'];exact(nt b o q).1
     ·exact(nt c _ z').1
    ·rcases hc with z'|z'
     ·rw [z'];exact(nt b o q).2.1
     ·exact(nt c _ z').2.1
 refine⟨_,rfl,wpAny_letOwnedTupleGo_enum ho λh2 IZ sb=>?_⟩
 refine⟨x,(zz9 s),rfl,gx,vw,Pk,QP,I1.turned (t':=tk+1) (it:=e) (λb o hb q=>sb.extBut b o hb q) (by rw [ai Pk];exact f0) f1 f3 f4 f5,⟨_,IZ⟩,D.frame _ _ _ iy λb hb o q=>sb.extBut b o (λz=>PU (z▸hb)) q⟩
noncomputable def Mx(K:zz8)(a:Addr)(xs:List V):It:=
 ⟨λi H=>eU K H a xs/\i<xs.length,λi H v H'=>∃p x,v=.ref p/\H p=none/\H'=upd H p (.tup [.int (i:Nat),x])/\xs[i]?=some x,λi H=>eU K H a xs/\i=xs.length⟩
noncomputable def K0(z:Str):It:=
 ⟨λi _=>i<z.cps.size,λi H v H'=>∃p c,v=.ref p/\H p=none/\H'=upd H p (.tup [.int (i:Nat),.str ⟨#[c]⟩])/\z.cps[i]?=some c,λi _=>i=z.cps.size⟩
def sI{P:Program}{w:World}{K:zz8}{elts:List Expr}{x1:Nat}{pos:Pos}(a e it:Addr)(xs:List V):Turn P w K (.Tuple elts x1 pos) (Mx K a xs) [e,it] e (λi h=>(∃old,IsEnum h e it i old)/\h.IsTupleIter it a i) where
 mem:=by simp
 obj:=λi h st b hb=>by
  obtain⟨⟨old,he⟩,o,ho,_,hd⟩:=st
  rcases zzm.mp hb with z|z
  ·subst z;exact⟨_,he,λv q=>by cases q⟩
  ·rw [zzi.mp z];exact⟨o,ho,λv q=>by rw [hd] at q;cases q⟩
 keep:=λi h h' st k=>⟨by obtain⟨old,he⟩:=st.1;exact⟨old,k e (by simp) _ he⟩,st.2.at λo q=>k it (by simp) o q⟩
 item:=by
  intro X hP hw hK hc i aa s σ H E I hf st hg;subst hP hw hK;obtain⟨hq,cL⟩:=hg
  obtain⟨⟨old,he⟩,hit⟩:=st
  obtain⟨ak,rv,p,hz⟩:=I.tuple hq
  have hl:=rv.length
  have jb:=hit
  obtain⟨oi,e1,e2,_⟩:=hit
  obtain⟨oa,a1,a2,_⟩:=id p
  have y9:a≠it:=eV a1 e1 (by rw [a2,e2];decide+kernel)
  have D4:e≠it:=eV he e1 (by rw [e2];show Value.type "enumerate"≠_;decide+kernel)
  have EC:e≠a:=eV he a1 (by rw [a2];show Value.type "enumerate"≠_;decide+kernel)
  refine bK (iB (Gx:=λx=>xs[i]?=some x) I (iK (A:=X.A.in1) (I.ok.hd hc) it a y9 ak.toArray) he ⟨jb,p⟩ (by rw [zzC];omega) D4 (by simp [D4,EC]) hf (λu hu=>?_)) λr s1 ⟨u,hr,k⟩=>⟨u,hr,bK k λ_ s2 ⟨x,q,z1,z2,z3,z4,z5,z6,z7,z8⟩=>?_⟩
  ·have J9:xs[i]?=some xs[i]:=zzg cL
   obtain⟨u',hu',ru'⟩:=rv.get J9
   have:ak.toArray[i]?=some u':=by simpa using hu'
   have FA:ak.toArray[i]?=some u:=hu
   rw [this] at FA;cases FA;exact⟨xs[i],ru',J9⟩
  ·exact⟨.ref q,_,z6,z1.symm▸rfl,⟨q,x,rfl,z3,rfl,z2⟩,⟨z7,z8.1⟩,λb hb=>by
    rcases zzm.mp hb with w|w
    ·rw [w,ai z4];exact(hf e (by simp)).1
    ·rw [zzi.mp w,ai z5];exact(hf it (by simp)).1⟩
 done:=by
  intro X hP hw hK hc i aa s σ H E I hf st hg;subst hP hw hK;obtain⟨hq,rfl⟩:=hg
  obtain⟨⟨old,he⟩,hit⟩:=st
  obtain⟨ak,rv,p,hz⟩:=I.tuple hq
  have hl:=rv.length
  have jb:=hit
  obtain⟨oi,e1,e2,_⟩:=hit
  obtain⟨oa,a1,a2,_⟩:=id p
  have y9:a≠it:=eV a1 e1 (by rw [a2,e2];decide+kernel)
  obtain⟨g0,g1,g2,g3,g4,g5⟩:=hf it (by simp)
  refine wpAny_pyNext_enum_endD (iK (A:=X.A.in1) (I.ok.hd hc) it a y9 ak.toArray) he ⟨by rw [zzC,<-hl];exact jb,p⟩ λh' eb=>⟨rfl,I.turned (t':=s.toks) (λb o hb q=>eb b o hb q) g0 g1 g3 g4 g5⟩
 self:=λ_ _ _ _ _ st h=>by obtain⟨⟨old,he⟩,_⟩:=st;exact wpAny_pyIter_enum he h
def lI{prog:Program}{w:World}{A:Around}{E:Value->Shared->Prop}{s:Shared}{l:Addr}{items:Array Value}{Q:Value->Shared->Prop}(hL:IsTup s.heap l items)
 (h:∀g,IsEnum g ((zz9 s)+1) (zz9 s) 0 .none->g.IsTupleIter (zz9 s) l 0->(∀b o,s.heap.get? b=some o->g.get? b=some o)->Q (.ref ((zz9 s)+1)) {s with heap:=g}):
 wpAny (model prog w) A (call (.type "enumerate") [.ref l]) Q E s:=by
 obtain⟨⟨cls,dd,data,sl⟩,ho,hc,n,hd⟩:=id hL
 simp only at hc hd;subst hc hd;have hz:(s.heap.push {cls:=.type "tuple_iterator",data:=.fields #[.ref l,.int 0 0]}).objs.size=(zz9 s)+1:=Heap.size_push ..
 refine callType_new F.called_enumerate (by decide) (F.typeCall_enumerate_1 _) (F.newCall_enumerate_1 _) (λobj=>F.args_object_init_2 obj _) F.entry_enumerate_new (vJ l items n dd sl) ⟨ho,?_⟩;show _/\_;rw [hz];have he:IsEnum ((s.heap.push {cls:=.type "tuple_iterator",data:=.fields #[.ref l,.int 0 0]}).push {cls:=.type "enumerate",data:=.fields #[.none,.bool false,.ref (zz9 s),rawInt 0,.none,.none]}) ((zz9 s)+1) (zz9 s) 0 .none:=by
  have q:=zzX (s.heap.push {cls:=.type "tuple_iterator",data:=.fields #[.ref l,.int 0 0]}) (o:={cls:=.type "enumerate",data:=.fields #[.none,.bool false,.ref (zz9 s),rawInt 0,.none,.none]}) rfl
  rw [hz] at q;exact q
 exact⟨⟨_,he,rfl⟩,h _ he ⟨_,zzB _ (zzX _ rfl),rfl,rfl⟩ λb o x=>zzB _ (zzB _ x)⟩
section
variable{X:Cx}{elts:List Expr}{x1:Nat}{jg:Pos}
noncomputable def Mb(K:zz8)(ta:TA):TI:=λσ H R=>ta σ H λvs H1=>∃a xs,vs=[.ref a]/\eU K H1 a xs/\R (Mx K a xs) H1
theorem wM{a:Expr}{ta:TA}{p pos:Pos}(hg:Gl X "enumerate")(hm:X.mg "enumerate"=none)(ha:PA X [a] ta)(hs:starEach [a] X.env=[(false,eval a X.env)]:=by rfl):PI X (.Tuple elts x1 jg) (.Call (.Name "enumerate" p) [a] [] pos) (Mb X.K ta):=by
 intro aa s σ H R I h;refine Call_ (dg I hg hm boot_enumerate (PyProof.Rows.callWith_type1 (bK (ha pos aa s σ H _ I h) λus s1 ⟨vs,H1,I1,r1,q1⟩=>?_) hs rfl))
 obtain⟨a,xs,e,hq,q⟩:=q1
 subst e;obtain⟨u,rfl,ru⟩:=vals1 r1
 cases ru;obtain⟨ak,rv,pt,hz⟩:=I1.tuple hq
 refine lI pt λg he hi kp=>wpAny_pyIter_enum he ?_
 have I2:Inv X aa σ H1 {s1 with heap:=g}:=I1.kept (t':=s1.toks) kp
 refine⟨(zz9 s1)+1,[(zz9 s1)+1,(zz9 s1)],_,_,H1,rfl,I2,sI a _ (zz9 s1) xs,⟨⟨_,he⟩,hi⟩,λb hb=>?_,q⟩
 have hb':(zz9 s1)<=b:=by
  rcases zzm.mp hb with z|z
  ·rw [z];exact Nat.le_succ _
  ·rw [zzi.mp z];exact zzE _
 exact I1.kZ hb' (I1.bz.fresh hb')
end
def sy{P:Program}{w:World}{K:zz8}{elts:List Expr}{x1:Nat}{pos:Pos}(z:Str)(t:Tok)(e it:Addr):Turn P w K (.Tuple elts x1 pos) (K0 z) [e,it] e (λi h=>(∃old,IsEnum h e it i old)/\h.IsStrIter it (strIterType z) z t i) where
 mem:=by simp
 obj:=λi h st b hb=>by
  obtain⟨⟨old,he⟩,o,ho,_,hd⟩:=st
  rcases zzm.mp hb with q|q
  ·subst q;exact⟨_,he,λv q=>by cases q⟩
  ·rw [zzi.mp q];exact⟨o,ho,λv q=>by rw [hd] at q;cases q⟩
 keep:=λi h h' st k=>⟨by obtain⟨old,he⟩:=st.1;exact⟨old,k e (by simp) _ he⟩,by obtain⟨o,q,r⟩:=st.2;exact⟨o,k it (by simp) o q,r⟩⟩
 item:=by
  intro X hP hw hK hc i aa s σ H E I hf st hg;subst hP hw hK;have cL:i<z.cps.size:=hg
  obtain⟨⟨old,he⟩,hit⟩:=st
  have jb:=hit
  obtain⟨oi,e1,e2,_⟩:=hit
  have D4:e≠it:=eV he e1 (by
   rw [e2];show Value.type "enumerate"≠_;rcases d8 z with q|q<;>rw [q]<;>decide+kernel)
  have fin:∀{Sv:Nat->Heap->Prop},Draws X.prog X.w X.A.in1 it [it] z.cps.size (λi v=>∃c u,z.cps[i]?=some c/\v=.str ⟨#[c]⟩ u) Sv->Sv i s.heap->(∀h,Sv (i+1) h->h.IsStrIter it (strIterType z) z t (i+1))->
   wpAny (model X.prog X.w) X.A (pyNext (.ref e)) (λr s1=>∃u,r=some u/\wpAny (model X.prog X.w) X.A (letOwnedTupleGo (.Tuple elts x1 pos) (.ref e) u) (λ_ s2=>∃x H',Inv X aa σ H' s2/\RelV x u/\(K0 z).HS i H x H'/\((∃old,IsEnum s2.heap e it (((i+1:Nat)):Int) old)/\s2.heap.IsStrIter it (strIterType z) z t (i+1))/\∀b∈[e,it],H' b=none) E s1) E s:=by
   intro Sv D cJ back;refine bK (iB (Gx:=λx=>∃c,x=.str ⟨#[c]⟩/\z.cps[i]?=some c) I D he cJ cL D4 (by simp [D4]) hf (λu ⟨c,tk,hc,hu⟩=>⟨.str ⟨#[c]⟩,⟨tk,hu⟩,c,rfl,hc⟩)) λr s1 ⟨u,hr,k⟩=>⟨u,hr,bK k λ_ s2 ⟨x,q,z1,⟨c,z2,z2'⟩,z3,z4,z5,z6,z7,z8⟩=>?_⟩
   subst z2;exact⟨.ref q,_,z6,z1.symm▸rfl,⟨q,c,rfl,z3,rfl,z2'⟩,⟨z7,back _ z8⟩,λb hb=>by
    rcases zzm.mp hb with w|w
    ·rw [w,ai z4];exact(hf e (by simp)).1
    ·rw [zzi.mp w,ai z5];exact(hf it (by simp)).1⟩
  rcases d8 z with q|q
  ·rw [q] at jb⊢;rw [q] at fin;exact fin (Draws.strAscii (A:=X.A.in1) (I.ok.hd hc) it z t) jb λh st=>st
  ·rw [q] at jb⊢;rw [q] at fin;exact fin (Draws.strWide (A:=X.A.in1) (I.ok.hd hc) it z t) jb λh st=>st
 done:=by
  intro X hP hw hK hc i aa s σ H E I hf st hg;subst hP hw hK;have hi:i=z.cps.size:=hg
  subst hi;obtain⟨⟨old,he⟩,hit⟩:=st
  obtain⟨g0,g1,g2,g3,g4,g5⟩:=hf it (by simp)
  rcases d8 z with q|q
  ·rw [q] at hit;exact wpAny_pyNext_enum_endD (Draws.strAscii (A:=X.A.in1) (I.ok.hd hc) it z t) he hit λh' eb=>⟨rfl,I.turned (t':=s.toks) (λb o hb q=>eb b o hb q) g0 g1 g3 g4 g5⟩
  ·rw [q] at hit;exact wpAny_pyNext_enum_endD (Draws.strWide (A:=X.A.in1) (I.ok.hd hc) it z t) he hit λh' eb=>⟨rfl,I.turned (t':=s.toks) (λb o hb q=>eb b o hb q) g0 g1 g3 g4 g5⟩
 self:=λ_ _ _ _ _ st h=>by obtain⟨⟨old,he⟩,_⟩:=st;exact wpAny_pyIter_enum he h
section
variable{X:Cx}{elts:List Expr}{x1:Nat}{jg:Pos}
noncomputable def MJ(ta:TA):TI:=λσ H R=>ta σ H λvs H1=>∃z,vs=[.str z]/\R (K0 z) H1
theorem yg{a:Expr}{ta:TA}{p pos:Pos}(hg:Gl X "enumerate")(hm:X.mg "enumerate"=none)(ha:PA X [a] ta)(hs:starEach [a] X.env=[(false,eval a X.env)]:=by rfl):PI X (.Tuple elts x1 jg) (.Call (.Name "enumerate" p) [a] [] pos) (MJ ta):=by
 intro aa s σ H R I h;refine Call_ (dg I hg hm boot_enumerate (PyProof.Rows.callWith_type1 (bK (ha pos aa s σ H _ I h) λus s1 ⟨vs,H1,I1,r1,q1⟩=>?_) hs rfl))
 obtain⟨z,e,q⟩:=q1
 subst e;obtain⟨u,rfl,t,rfl⟩:=vals1 r1
 refine call_enumerate_str λg he hi hz kp=>wpAny_pyIter_enum he ?_
 have I2:Inv X aa σ H1 {s1 with heap:=g}:=I1.kept (t':=s1.toks) kp
 refine⟨(zz9 s1)+1,[(zz9 s1)+1,(zz9 s1)],_,_,H1,rfl,I2,sy z t _ (zz9 s1),⟨⟨_,he⟩,hi⟩,λb hb=>?_,q⟩
 have hb':(zz9 s1)<=b:=by
  rcases zzm.mp hb with z|z
  ·rw [z];exact Nat.le_succ _
  ·rw [zzi.mp z];exact zzE _
 exact I1.kZ hb' (I1.bz.fresh hb')
end
noncomputable def Fx(K:zz8)(a:Addr)(xs:List V):It:=
 ⟨λi H=>dw K H a xs/\i<xs.length,λi H v H'=>∃p x,v=.ref p/\H p=none/\H'=upd H p (.tup [.int (i:Nat),x])/\xs[i]?=some x,λi H=>dw K H a xs/\i=xs.length⟩
def rA{P:Program}{w:World}{K:zz8}{elts:List Expr}{x1:Nat}{pos:Pos}(a e it:Addr)(xs:List V):Turn P w K (.Tuple elts x1 pos) (Fx K a xs) [e,it] e (λi h=>(∃old,IsEnum h e it i old)/\h.IsListIter it a i) where
 mem:=by simp
 obj:=λi h st b hb=>by
  obtain⟨⟨old,he⟩,o,ho,_,hd⟩:=st
  rcases zzm.mp hb with z|z
  ·subst z;exact⟨_,he,λv q=>by cases q⟩
  ·rw [zzi.mp z];exact⟨o,ho,λv q=>by rw [hd] at q;cases q⟩
 keep:=λi h h' st k=>⟨by obtain⟨old,he⟩:=st.1;exact⟨old,k e (by simp) _ he⟩,st.2.at λo q=>k it (by simp) o q⟩
 item:=by
  intro X hP hw hK hc i aa s σ H E I hf st hg;subst hP hw hK;obtain⟨hq,cL⟩:=hg
  obtain⟨⟨old,he⟩,hit⟩:=st
  obtain⟨ak,rv,p,hz⟩:=I.list hq
  have hl:=rv.length
  have jb:=hit
  obtain⟨oi,e1,e2,_⟩:=hit
  obtain⟨oa,a1,a2,_⟩:=p.isList
  have y9:a≠it:=eV a1 e1 (by rw [a2,e2];decide+kernel)
  have D4:e≠it:=eV he e1 (by rw [e2];show Value.type "enumerate"≠_;decide+kernel)
  have EC:e≠a:=eV he a1 (by rw [a2];show Value.type "enumerate"≠_;decide+kernel)
  refine bK (iB (Gx:=λx=>xs[i]?=some x) I (Draws.list (A:=X.A.in1) (I.ok.hd hc) it a y9 ak.toArray) he ⟨jb,p.isList⟩ (by rw [zzC];omega) D4 (by simp [D4,EC]) hf (λu hu=>?_)) λr s1 ⟨u,hr,k⟩=>⟨u,hr,bK k λ_ s2 ⟨x,q,z1,z2,z3,z4,z5,z6,z7,z8⟩=>?_⟩
  ·have J9:xs[i]?=some xs[i]:=zzg cL
   obtain⟨u',hu',ru'⟩:=rv.get J9
   have:ak.toArray[i]?=some u':=by simpa using hu'
   have FA:ak.toArray[i]?=some u:=hu
   rw [this] at FA;cases FA;exact⟨xs[i],ru',J9⟩
  ·exact⟨.ref q,_,z6,z1.symm▸rfl,⟨q,x,rfl,z3,rfl,z2⟩,⟨z7,z8.1⟩,λb hb=>by
    rcases zzm.mp hb with w|w
    ·rw [w,ai z4];exact(hf e (by simp)).1
    ·rw [zzi.mp w,ai z5];exact(hf it (by simp)).1⟩
 done:=by
  intro X hP hw hK hc i aa s σ H E I hf st hg;subst hP hw hK;obtain⟨hq,rfl⟩:=hg
  obtain⟨⟨old,he⟩,hit⟩:=st
  obtain⟨ak,rv,p,hz⟩:=I.list hq
  have hl:=rv.length
  have jb:=hit
  obtain⟨oi,e1,e2,_⟩:=hit
  obtain⟨oa,a1,a2,_⟩:=p.isList
  have y9:a≠it:=eV a1 e1 (by rw [a2,e2];decide+kernel)
  obtain⟨g0,g1,g2,g3,g4,g5⟩:=hf it (by simp)
  refine wpAny_pyNext_enum_endD (Draws.list (A:=X.A.in1) (I.ok.hd hc) it a y9 ak.toArray) he ⟨by rw [zzC,<-hl];exact jb,p.isList⟩ λh' eb=>⟨rfl,I.turned (t':=s.toks) (λb o hb q=>eb b o hb q) g0 g1 g3 g4 g5⟩
 self:=λ_ _ _ _ _ st h=>by obtain⟨⟨old,he⟩,_⟩:=st;exact wpAny_pyIter_enum he h
section
variable{X:Cx}{elts:List Expr}{x1:Nat}{jg:Pos}
noncomputable def Oh(K:zz8)(ta:TA):TI:=λσ H R=>ta σ H λvs H1=>∃a xs,vs=[.ref a]/\dw K H1 a xs/\R (Fx K a xs) H1
theorem pK{a:Expr}{ta:TA}{p pos:Pos}(hg:Gl X "enumerate")(hm:X.mg "enumerate"=none)(ha:PA X [a] ta)(hs:starEach [a] X.env=[(false,eval a X.env)]:=by rfl):PI X (.Tuple elts x1 jg) (.Call (.Name "enumerate" p) [a] [] pos) (Oh X.K ta):=by
 intro aa s σ H R I h;refine Call_ (dg I hg hm boot_enumerate (PyProof.Rows.callWith_type1 (bK (ha pos aa s σ H _ I h) λus s1 ⟨vs,H1,I1,r1,q1⟩=>?_) hs rfl))
 obtain⟨a,xs,e,hq,q⟩:=q1
 subst e;obtain⟨u,rfl,ru⟩:=vals1 r1
 cases ru;obtain⟨ak,rv,pt,hz⟩:=I1.list hq
 refine call_enumerate_list pt.isList λg he hi _ kp=>wpAny_pyIter_enum he ?_
 have I2:Inv X aa σ H1 {s1 with heap:=g}:=I1.kept (t':=s1.toks) kp
 refine⟨(zz9 s1)+1,[(zz9 s1)+1,(zz9 s1)],_,_,H1,rfl,I2,rA a _ (zz9 s1) xs,⟨⟨_,he⟩,hi⟩,λb hb=>?_,q⟩
 have hb':(zz9 s1)<=b:=by
  rcases zzm.mp hb with z|z
  ·rw [z];exact Nat.le_succ _
  ·rw [zzi.mp z];exact zzE _
 exact I1.kZ hb' (I1.bz.fresh hb')
variable{aa:List (Addr×Obj)}{σ:St}{H:Hp}{s:Shared}{h':Heap}{ch:List Addr}
def Inv.moved{tk:Nat}(I:Inv X aa σ H s)(hf:∀b∈ch,fV X aa H b)(kk:∀b o,b∉ch->s.heap.get? b=some o->h'.get? b=some o):Inv X aa σ H {s with heap:=h',toks:=tk}:=by
 have nt:∀b o,H b=some o->b∉ch:=λb o q z=>by rw [(hf b z).1] at q;cases q
 refine I.step (g':=s.gens) (d':=s.drawn) (ch:=ch) (λb hb=>?_) (λb o _ _ hc q _=>kk b o hc q) (λb o _ _ hc q _=>⟨o.slots,kk b o hc q⟩) (λ_ _ _ _ n=>n)
  (λb o hc q=>⟨o,kk b o hc q⟩) (λb xs q=>q) (λb o u q=>q) (λb ps q=>⟨#[],by rw [q];simp⟩) (λm hm=>?_) (λb o q=>?_) I.bare
 ·obtain⟨f0,f1,f2,f3,f4,f5⟩:=hf b hb
  exact⟨f3,f1,f4,f5⟩
 ·obtain⟨o,es,ep,q,r⟩:=hm
  exact⟨o,es,ep,kk _ o (λz=>(hf _ z).2.1 rfl) q,r⟩
 ·refine(I.bz b o q).fY (λc v hc z=>kk c v ?_ z) (λc z=>z) λc xs z=>z
  rcases hc with z'|z'
  ·rw [z'];exact nt b o q
  ·exact nt c _ z'
end
structure Zd where
 it:Addr
 fp:List Addr
 n:Nat
 P:Nat->Value->Prop
 St:Nat->Heap->Prop
structure Jr(prog:Program)(w:World)(A:Around)(z TI TO:Addr)(ds:List Zd):Prop where
 D:∀d∈ds,Draws prog w A d.it d.fp d.n d.P d.St
 zf:∀d∈ds,z∉d.fp/\TO∉d.fp/\d.it≠z/\d.it≠TO/\d.it≠TI
 ap:ds.Pairwise λa b=>a.it∉b.fp/\b.it∉a.fp
 tz:TI≠z/\TO≠z/\TI≠TO
abbrev gK(h:Heap)(T:Addr)(xs:Array Value):Prop:=h.get? T=some {cls:=.type "tuple",data:=.seq xs}
section
variable{prog:Program}{w:World}{A:Around}{E:Value->Shared->Prop}{s:Shared}{z TI TO:Addr}{ds:List Zd}{k:Nat}
def M0(z TI TO:Addr)(k:Nat)(h0:Heap)(ds:List Zd)(rest:List (Value×Nat))(h:Heap):Prop:=
 ∃dn lf xs ys,ds=dn++lf/\rest=(lf.map λd=>Value.ref d.it).zipIdx dn.length/\Paired (λd x=>d.P k x) dn xs/\ys.length=lf.length/\IsZip h z TI TO .ellipsis/\gK h TO (xs++ys).toArray/\
  (∀d∈dn,d.St (k+1) h)/\(∀d∈lf,d.St k h)/\h.objs.size=h0.objs.size/\∀c o,c≠z->c≠TO->(∀d∈ds,c≠d.it)->h0.get? c=some o->h.get? c=some o
def qp{Q:Fin->Shared->Prop}(Z:Jr prog w A z TI TO ds)(hl:ds.length<=9)(fe:ds≠[])(hz:IsZip s.heap z TI TO .none)(Ra:gK s.heap TI (ds.map λd=>Value.ref d.it).toArray)(RH:∃c,gK s.heap TO c/\c.size=ds.length)(hs:∀d∈ds,d.St k s.heap/\k<=d.n)
 (hQ:∀h' tk xs,Paired (λd x=>d.P k x) ds xs->IsZip h' z TI TO (rawInt (zz9 s))->(∃c,gK h' TO c/\c.size=ds.length)->(∀d∈ds,d.St (k+1) h')->gK h' (zz9 s) xs.toArray->h'.objs.size=(zz9 s)+1->
  (∀c o,c≠z->c≠TO->(∀d∈ds,c≠d.it)->s.heap.get? c=some o->h'.get? c=some o)->Q (.done (.ret (.ref (zz9 s)))) {s with heap:=h',toks:=tk})
 (hE:∀h' tk e,(∃d∈ds,d.n<=k)->(∀c o,c≠z->c≠TO->(∀d∈ds,c≠d.it)->s.heap.get? c=some o->h'.get? c=some o)->(∃o,h'.get? e=some o/\o.cls=.type "StopIteration")->E (.ref e) {s with heap:=h',toks:=tk}):
 wpAny (model prog w) A (Builtin.«zip.__next__» ⟨[.ref z],[]⟩) Q E s:=by
 obtain⟨t1,t2,t3⟩:=Z.tz
 show wpAny _ _ (field (.ref z) 2>>=_) _ _ _
 refine zzA (wpAny_field hz rfl (x:=.bool false) rfl ?_);show wpAny _ _ (field (.ref z) 3>>=_) _ _ _;refine zzA (wpAny_field hz rfl (x:=.ref TI) rfl ?_);refine zzA (wpAny_seqItems Ra rfl ?_);have NF:(ds.map λd=>Value.ref d.it).toArray.isEmpty=false:=by cases ds<;>simp_all
 simp! [NF,zze,if_false];show wpAny _ _ (Builtin.SmallTypes.ownedTupleIsFree (.ref z)>>=_) _ _ _;refine zzA ?_;unfold Builtin.SmallTypes.ownedTupleIsFree;refine zzA (wpAny_field hz rfl (x:=.none) rfl (zzG ?_));simp! [if_true];refine zzA (wpAny_rule ?_);refine zzA (wpAny_field hz rfl (x:=.ref TO) rfl ?_);refine zzA (wpAny_setField_rec hz (by simp) λh₁ hz₁ hs₁=>?_)
 replace hz₁:IsZip h₁ z TI TO .ellipsis:=hz₁
 refine zzA ?_;obtain⟨c,hc,Mj⟩:=RH
 have Iq:∀{h h':Heap},Heap.SameBut z h h'->∀d∈ds,∀{i},d.St i h->d.St i h':=λsb d hd i q=>(Z.D d hd).frame _ _ _ q λb hb o e=>sb.extBut b o (λx=>(Z.zf d hd).1 (x▸hb)) e
 refine wpAny_forIn_list _ (λrest b s'=>b=⟨none,PUnit.unit⟩/\∃h tk,s'={s with heap:=h,toks:=tk}/\M0 z TI TO k s.heap ds rest h) _ ?_ ?_ _ _ ⟨rfl,h₁,s.toks,rfl,[],ds,[],c.toList,rfl,rfl,.nil,by simpa using Mj,hz₁,?_,(λd hd=>nomatch hd),(λd hd=>Iq hs₁ d hd (hs d hd).1),hs₁.1,λc o h1 _ _ e=>hs₁.extBut _ _ h1 e⟩
 ·rintro ⟨LB,j⟩ rest b s' ⟨rfl,h,tk,rfl,dn,lf,xs,ys,rfl,hr,pr,hyl,hzh,hto,sd,sl,hsz,kk⟩
  cases lf with
  |nil=>cases hr
  |cons d lf=>
   simp! [zzF,List.zipIdx_cons,List.cons.injEq,Prod.mk.injEq] at hr;obtain⟨⟨rfl,rfl⟩,rfl⟩:=hr
   have hd:d∈dn++d::lf:=by simp
   have D:=Z.D d hd
   obtain⟨f1,f2,f3,f4,f5⟩:=Z.zf d hd
   refine zzA (wpAny_onRaise ?_);show wpAny _ _ (Builtin.SmallTypes.nextOf (.ref d.it)>>=_) _ _ _;have Qv:∀a∈dn++lf,d.it∉a.fp/\a.it∉d.fp:=λa ha=>by
    have q:=List.pairwise_append.1 Z.ap
    rcases List.mem_append.1 ha with ha|ha
    ·exact(q.2.2 a ha d (zzP ..)).symm
    ·exact(List.pairwise_cons.1 q.2.1).1 a ha
   by_cases hk:k<d.n
   ·refine zzA (D.item k _ _ _ hk (sl d (zzP ..)) λx h2 RX px NQ sb=>zzG ?_)
    have E8:gK h2 TO (xs++ys).toArray:=sb.extBut _ _ (Ne.symm f4) hto
    refine zzA (wpAny_seqItems E8 rfl ?_);have lx:=Paired.length pr
    obtain⟨y,yr,rfl⟩:∃y yr,ys=y::yr:=by cases ys with|nil=>cases hyl|cons y yr=>exact⟨y,yr,rfl⟩
    have JH:(xs++y::yr).toArray.size<=sizeLine:=by
     have:(xs++y::yr).toArray.size<=9:=by simp! [zzC,zzM,zzL] at hyl hl⊢;omega
     exact zzU this (by decide)
    refine zzA (wpAny_updateSeq E8 rfl ?_ JH (by rw [Array.size_setIfInBounds];exact Nat.le_succ_of_le JH));refine zzA (wpAny_letGo (zzG ?_));have Ij:Heap.SameBut TO h2 (h2.update TO (Obj.mapSeq λv=>v.setIfInBounds dn.length x)):=zzu ..
    have Nu:gK (h2.update TO (Obj.mapSeq λv=>v.setIfInBounds dn.length x)) TO (xs++[x]++yr).toArray:=by
     show Heap.get? _ TO=_
     rw [Heap.get?_update_self _ E8 rfl];have:(xs++y::yr).toArray.setIfInBounds dn.length x=(xs++[x]++yr).toArray:=by
      rw [List.setIfInBounds_toArray,lx,List.set_append_right _ _ (zzE _),Nat.sub_self,List.set_cons_zero];simp
     have ls:((xs++[x]++yr).toArray.size==(xs++y::yr).toArray.size)=true:=by simp
     simp! [Obj.mapSeq,this,ls,if_true]
    refine⟨rfl,_,RX,rfl,dn++[d],lf,xs++[x],yr,by simp,by simp,Paired.snoc pr px,by simpa using hyl,?_,Nu,λa ha=>?_,λa ha=>?_,?_,λc o c1 c2 c3 e=>?_⟩
    ·exact Ij.extBut _ _ (Ne.symm t2) (sb.extBut _ _ (Ne.symm f3) hzh)
    ·rcases List.mem_append.1 ha with ha|ha
     ·refine(Z.D a (by simp [ha])).frame _ _ _ (sd a ha) λb hb o e=>Ij.extBut _ _ (λq=>(Z.zf a (by simp [ha])).2.1 (q▸hb)) (sb.extBut _ _ (λq=>(Qv a (by simp [ha])).1 (q▸hb)) e)
     ·rw [zzi.1 ha];exact D.frame _ _ _ NQ λb hb o e=>Ij.extBut _ _ (λq=>f2 (q▸hb)) e
    ·refine(Z.D a (by simp [ha])).frame _ _ _ (sl a (zzI _ ha)) λb hb o e=>Ij.extBut _ _ (λq=>(Z.zf a (by simp [ha])).2.1 (q▸hb)) (sb.extBut _ _ (λq=>(Qv a (by simp [ha])).1 (q▸hb)) e)
    ·rw [Ij.1,sb.1,hsz]
    ·exact Ij.extBut _ _ c2 (sb.extBut _ _ (c3 d hd) (kk c o c1 c2 c3 e))
   ·have hn:d.n=k:=Nat.le_antisymm (Nat.le_of_not_lt hk) (hs d hd).2
    refine zzA (D.done _ _ _ (by rw [hn];exact sl d (zzP ..)) λh2 e eb he=>?_)
    obtain⟨oe,hoe,hce⟩:=he
    have K7:IsZip h2 z TI TO .ellipsis:=eb _ _ (Ne.symm f3) hzh
    have RK:e≠z:=λq=>by subst q;rw [K7] at hoe;cases hoe;simp at hce
    exact wpAny_setField_rec K7 (by simp) λh3 _ Pf=>hE h3 tk e ⟨d,hd,Nat.le_of_eq hn⟩ (λc o c1 c2 c3 q=>Pf.extBut _ _ c1 (eb _ _ (c3 d hd) (kk c o c1 c2 c3 q))) ⟨oe,Pf.extBut _ _ RK hoe,hce⟩
 ·rintro b s' ⟨rfl,h,tk,rfl,dn,lf,xs,ys,rfl,hr,pr,hyl,hzh,hto,sd,sl,hsz,kk⟩
  obtain rfl:lf=[]:=by cases lf with|nil=>rfl|cons d lf=>cases hr
  obtain rfl:ys=[]:=List.eq_nil_of_length_eq_zero hyl
  simp! [zz6] at hto hQ Z kk hl;have lx:=Paired.length pr
  refine zzA (wpAny_seqItems hto rfl ?_);refine zzA (wpAny_newTuple ?_ (zzU (m:=9) (by show xs.length<=9;omega) (by decide)));show wpAny _ _ (Builtin.SmallTypes.ownedTupleHandOut (.ref z) (.ref h.objs.size)>>=_) _ _ _;refine zzA ?_;unfold Builtin.SmallTypes.ownedTupleHandOut;have Qk:z<h.objs.size:=zzO hzh
  have Q1:IsZip (h.push {cls:=.type "tuple",data:=.seq xs.toArray}) z TI TO .ellipsis:=zzB _ hzh
  refine zzA (wpAny_setField_rec Q1 (by simp) λh7 Ms LO=>?_)
  replace Ms:IsZip h7 z TI TO (rawInt h.objs.size):=Ms
  refine wpAny_setField_rec Ms (by simp) λh8 Lz L0=>?_
  replace Lz:IsZip h8 z TI TO (rawInt h.objs.size):=Lz
  have up:∀c o,c≠z->h.get? c=some o->h8.get? c=some o:=λc o c1 e=>L0.extBut _ _ c1 (LO.extBut _ _ c1 (zzB _ e))
  have PJ:gK h8 h.objs.size xs.toArray:=L0.extBut _ _ (Nat.ne_of_gt Qk) (LO.extBut _ _ (Nat.ne_of_gt Qk) (zzX _ rfl))
  have PR:h8.objs.size=h.objs.size+1:=by rw [L0.1,LO.1,Heap.size_push]
  rw [hsz] at Lz PJ PR;refine zzG ?_;show Q (.done (.ret (.ref h.objs.size))) _;rw [hsz];exact hQ h8 tk xs pr Lz ⟨_,up _ _ t2 hto,by simp [lx]⟩ (λd hd=>(Z.D d hd).frame _ _ _ (sd d hd) λb hb o e=>up b o (λq=>(Z.zf d hd).1 (q▸hb)) e) PJ PR λc o c1 c2 c3 e=>up c o c1 (kk c o c1 c2 c3 e)
 ·show gK h₁ TO _
  exact hs₁.extBut _ _ t2 (by simpa using hc)
variable{X:Cx}{aa:List (Addr×Obj)}{σ:St}{H:Hp}{h':Heap}{ch:List Addr}
def Inv.w4{tk:Nat}{xs:List V}{us:List Value}{ob:Obj}{n:Nat}(I:Inv X aa σ H s)(hf:∀b∈ch,fV X aa H b)(kk:∀b o,b∉ch->s.heap.get? b=some o->h'.get? b=some o)
 (hp:h'.get? (zz9 s)=some ob) (hc:ob.cls=.type "tuple") (hd:ob.data=.seq us.toArray n) (rx:Vals xs us) (hl:xs.length<=sizeLine):Inv X aa σ (upd H (zz9 s) (.tup xs)) {s with heap:=h',toks:=tk}:=by
 have nt:∀b o,H b=some o->b∉ch/\b≠(zz9 s):=λb o q=>⟨(λz=>(by rw [(hf b z).1] at q;cases q)),zzb (I.bz.lt q)⟩
 refine I.step (g':=s.gens) (d':=s.drawn) (ch:=ch) (λb hb=>?_) (λb o _ _ hc q _=>kk b o hc q) (λb o _ _ hc q _=>⟨o.slots,kk b o hc q⟩) (λb o _ q nb=>by rw [ai (zzb (zzO q))];exact nb)
  (λb o hc q=>⟨o,kk b o hc q⟩) (λb xs q=>by rw [ai (nt b _ q).2];exact q) (λb o u q=>by rw [ai (nt b _ q).2];exact q) (λb ps q=>⟨#[],by rw [ai (nt b _ q).2,q];simp⟩) (λm hm=>?_) (λb o q=>?_) I.bare
 ·obtain⟨f0,f1,f2,f3,f4,f5⟩:=hf b hb
  exact⟨f3,f1,f4,f5⟩
 ·obtain⟨o,es,ep,q,r⟩:=hm
  exact⟨o,es,ep,kk _ o (λz=>(hf _ z).2.1 rfl) q,r⟩
 ·by_cases hb:b=(zz9 s)
  ·subst hb;rw [au] at q;cases q;exact⟨hl,us,rx,⟨_,hp,hc,_,hd⟩⟩
  ·rw [ai hb] at q;refine(I.bz b o q).fY (λc v hc z=>kk c v ?_ z) (λc z=>by rw [ai (nt c _ z).2];exact z) λc xs z=>by rw [ai (nt c _ z).2];exact z
   rcases hc with z'|z'
   ·rw [z'];exact(nt b o q).1
   ·exact(nt c _ z').1
end
structure Zs where
 it:Addr
 b:Bool
 a:Addr
 xs:List V
def Zs.iter(q:Zs)(i:Nat)(h:Heap):Prop:=if q.b=true then h.IsListIter q.it q.a i else h.IsTupleIter q.it q.a i
abbrev Zt:=Bool×Addr×List V
def Zs.t(q:Zs):Zt:=(q.b,q.a,q.xs)
def Zq(K:zz8)(H:Hp)(q:Zt):Prop:=if q.1=true then dw K H q.2.1 q.2.2 else eU K H q.2.1 q.2.2
def Zs.sq(K:zz8)(H:Hp)(q:Zs):Prop:=if q.b=true then dw K H q.a q.xs else eU K H q.a q.xs
def Zs.uq{q:Zs}{i:Nat}{h h':Heap}(st:q.iter i h)(k:∀o,h.get? q.it=some o->h'.get? q.it=some o):q.iter i h':=by
 unfold Zs.iter at st⊢;split
 ·rename_i e;rw [if_pos e] at st;exact st.at k
 ·rename_i e;rw [if_neg e] at st;exact st.at k
def Zs.pB{q:Zs}{i:Nat}{h:Heap}(st:q.iter i h):∃o,h.get? q.it=some o/\∀v,o.data≠.cell v:=by
 unfold Zs.iter at st;split at st
 ·obtain⟨o,ho,_,hd⟩:=st;exact⟨o,ho,λv z=>by rw [hd] at z;cases z⟩
 ·obtain⟨o,ho,_,hd⟩:=st;exact⟨o,ho,λv z=>by rw [hd] at z;cases z⟩
noncomputable def M8(K:zz8)(ts:List Zt):It:=
 ⟨λi H=>∀q∈ts,Zq K H q/\i<q.2.2.length,λi H v H'=>∃p ys,v=.ref p/\H p=none/\H'=upd H p (.tup ys)/\Paired (λ(q:Zt) y=>q.2.2[i]?=some y) ts ys,
  λi H=>(∀q∈ts,Zq K H q/\i<=q.2.2.length)/\∃q∈ts,q.2.2.length=i⟩
structure zj(prog:Program)(w:World)(A:Around)(i:Nat)(h:Heap)(q:Zs)(d:Zd):Prop where
 it:d.it=q.it
 fp:d.fp=[q.it,q.a]
 n:d.n=q.xs.length
 D:Draws prog w A d.it d.fp d.n d.P d.St
 st:d.St i h
 back:∀j g,d.St j g->q.iter j g
 val:∀j u,d.P j u->∃x,RelV x u/\q.xs[j]?=some x
section
variable{X:Cx}{aa:List (Addr×Obj)}{σ:St}{H:Hp}{s:Shared}
def yW{xs:List V}{ak:List Value}(rv:Vals xs ak)(j:Nat)(u:Value)(hu:ak.toArray[j]?=some u):∃x,RelV x u/\xs[j]?=some x:=by
 have hu:ak[j]?=some u:=by simpa using hu
 have hj:j<xs.length:=by rw [rv.length];exact(zzH.mp hu).1
 obtain⟨u',hu',ru'⟩:=rv.get (zzg hj)
 rw [hu] at hu';cases hu';exact⟨_,ru',zzg hj⟩
def Jk(hc:X.calm=true)(I:Inv X aa σ H s){q:Zs}{i:Nat}(fe:q.a≠q.it)(h:q.sq X.K H)(st:q.iter i s.heap):∃d,zj X.prog X.w X.A.in1 i s.heap q d:=by
 unfold Zs.sq at h;unfold Zs.iter at st;cases hb:q.b with
 |true=>
  rw [if_pos hb] at h st;obtain⟨ak,rv,p,_⟩:=I.list h
  refine⟨⟨q.it,[q.it,q.a],ak.toArray.size,_,_⟩,rfl,rfl,?_,Draws.list (A:=X.A.in1) (I.ok.hd hc) q.it q.a fe ak.toArray,⟨st,p.isList⟩,λj g z=>?_,yW rv⟩
  ·rw [zzC,<-rv.length]
  ·unfold Zs.iter;rw [if_pos hb];exact z.1
 |false=>
  have hb':¬q.b=true:=by rw [hb];exact zzf
  rw [if_neg hb'] at h st;obtain⟨ak,rv,p,_⟩:=I.tuple h
  refine⟨⟨q.it,[q.it,q.a],ak.toArray.size,_,_⟩,rfl,rfl,?_,iK (A:=X.A.in1) (I.ok.hd hc) q.it q.a fe ak.toArray,⟨st,p⟩,λj g z=>?_,yW rv⟩
  ·rw [zzC,<-rv.length]
  ·unfold Zs.iter;rw [if_neg hb'];exact z.1
theorem rC(hc:X.calm=true)(I:Inv X aa σ H s){i:Nat}:∀{qs:List Zs},(∀q∈qs,q.a≠q.it/\q.sq X.K H/\q.iter i s.heap)->∃ds,Paired (zj X.prog X.w X.A.in1 i s.heap) qs ds
 |[],_=>⟨[],.nil⟩
 |q::qs,h=>by
  obtain⟨h1,h2,h3⟩:=h q (zzP ..)
  obtain⟨d,hd⟩:=Jk hc I h1 h2 h3
  obtain⟨ds,hds⟩:=rC hc I (qs:=qs) λr hr=>h r (zzI _ hr)
  exact⟨d::ds,.cons hd hds⟩
variable{α β:Type}{R:α->β->Prop}
theorem cx:∀{l:List α} {m:List β},Paired R l m->∀b∈m,∃a∈l,R a b
 |_,_,.cons h t,b,hb=>by
  rcases zzm.1 hb with rfl|hb
  ·exact⟨_,zzP ..,h⟩
  ·obtain⟨a,h1,h2⟩:=cx t b hb
   exact⟨a,zzI _ h1,h2⟩
theorem eA:∀{l:List α} {m:List β},Paired R l m->∀a∈l,∃b∈m,R a b
 |_,_,.cons h t,b,hb=>by
  rcases zzm.1 hb with rfl|hb
  ·exact⟨_,zzP ..,h⟩
  ·obtain⟨a,h1,h2⟩:=eA t b hb
   exact⟨a,zzI _ h1,h2⟩
theorem mM{S:α->α->Prop}{T:β->β->Prop}(h:∀a a' b b',R a b->R a' b'->S a a'->T b b'):∀{l:List α} {m:List β},Paired R l m->l.Pairwise S->m.Pairwise T
 |_,_,.nil,_=>.nil
 |_,_,.cons r t,p=>by
  obtain⟨p1,p2⟩:=List.pairwise_cons.1 p
  refine List.pairwise_cons.2 ⟨λb hb=>?_,mM h t p2⟩
  obtain⟨a,h1,h2⟩:=cx t b hb
  exact h _ _ _ _ r h2 (p1 a h1)
end
structure NZ(z TI TO:Addr)(qs:List Zs):Prop where
 tz:TI≠z/\TO≠z/\TI≠TO
 ne:qs≠[]
 len:qs.length<=9
 it:∀q∈qs,q.it≠z/\q.it≠TO/\q.it≠TI
 a:∀q∈qs,q.a≠z/\q.a≠TO/\∀r∈qs,q.a≠r.it
 pw:qs.Pairwise λa b=>a.it≠b.it
def RU(z TI TO:Addr)(qs:List Zs)(i:Nat)(h:Heap):Prop:=IsZip h z TI TO .none/\gK h TI (qs.map λq=>Value.ref q.it).toArray/\(∃c,gK h TO c/\c.size=qs.length)/\∀q∈qs,q.iter i h
def xm{prog:Program}{w:World}{A:Around}{i:Nat}{h:Heap}{z TI TO:Addr}{qs:List Zs}{ds:List Zd}(Z:NZ z TI TO qs)(p:Paired (zj prog w A i h) qs ds):Jr prog w A z TI TO ds where
 D:=λd hd=>by obtain⟨q,_,r⟩:=cx p d hd;exact r.D
 zf:=λd hd=>by
  obtain⟨q,hq,r⟩:=cx p d hd
  obtain⟨a1,a2,a3⟩:=Z.it q hq
  obtain⟨b1,b2,_⟩:=Z.a q hq
  rw [r.fp,r.it];simp! [zzm,List.not_mem_nil,or_false,not_or];exact⟨⟨Ne.symm a1,Ne.symm b1⟩,⟨Ne.symm a2,Ne.symm b2⟩,a1,a2,a3⟩
 ap:=by
  have q:qs.Pairwise λa b=>a.it≠b.it/\a.it≠b.a/\b.it≠a.a:=by
   refine List.Pairwise.imp_of_mem (λ{a b} ha hb h=>⟨h,λz=>(Z.a b hb).2.2 a ha z.symm,λz=>(Z.a a ha).2.2 b hb z.symm⟩) Z.pw
  refine mM (λa a' b b' r r' ⟨h1,h2,h3⟩=>?_) p q;rw [r.fp,r'.fp,r.it,r'.it];simp! [zzm,List.not_mem_nil,or_false,not_or];exact⟨⟨h1,h2⟩,Ne.symm h1,h3⟩
 tz:=Z.tz
theorem gB{prog:Program}{w:World}{A:Around}{i:Nat}{h:Heap}:∀{qs:List Zs} {ds:List Zd},Paired (zj prog w A i h) qs ds->(qs.map λq=>Value.ref q.it)=ds.map λd=>Value.ref d.it
 |_,_,.nil=>rfl
 |_,_,.cons r t=>by rw [zzF,zzF,r.it,gB t]
theorem j9{prog:Program}{w:World}{A:Around}{i:Nat}{h:Heap}:∀{qs:List Zs} {ds:List Zd} {us:List Value},Paired (zj prog w A i h) qs ds->Paired (λd x=>d.P i x) ds us->∃ys,Vals ys us/\Paired (λ(q:Zt) y=>q.2.2[i]?=some y) (qs.map Zs.t) ys
 |_,_,_,.nil,.nil=>⟨[],.nil,.nil⟩
 |_,_,_,.cons r t,.cons u v=>by
  obtain⟨x,h1,h2⟩:=r.val i _ u
  obtain⟨ys,h3,h4⟩:=j9 t v
  exact⟨x::ys,.cons h1 h3,.cons h2 h4⟩
def vE{P:Program}{w:World}{K:zz8}{elts:List Expr}{x1:Nat}{pos:Pos}{z TI TO:Addr}{qs:List Zs}(Z:NZ z TI TO qs):
 Turn P w K (.Tuple elts x1 pos) (M8 K (qs.map Zs.t)) (z::TI::TO::qs.map (·.it)) z (RU z TI TO qs) where
 mem:=by simp
 obj:=λi h st c hc=>by
  obtain⟨q1,q2,⟨_,q3,_⟩,q4⟩:=st
  simp! [zzm,zzx] at hc;rcases hc with rfl|rfl|rfl|⟨q,hq,rfl⟩
  ·exact⟨_,q1,λv q=>by cases q⟩
  ·exact⟨_,q2,λv q=>by cases q⟩
  ·exact⟨_,q3,λv q=>by cases q⟩
  ·exact Zs.pB (q4 q hq)
 keep:=λi h h' st k=>by
  obtain⟨q1,q2,⟨c,q3,q5⟩,q4⟩:=st
  exact⟨k z (by simp) _ q1,k TI (by simp) _ q2,⟨c,k TO (by simp) _ q3,q5⟩,λq hq=>Zs.uq (q4 q hq) λo e=>k q.it (by simp;exact .inr (.inr (.inr ⟨q,hq,rfl⟩))) o e⟩
 item:=by
  intro X hP hw hK hc i aa s σ H E I hf st hg;subst hP hw hK;replace hg:∀q∈qs,q.sq X.K H/\i<q.xs.length:=λq hq=>hg q.t (List.mem_map_of_mem hq)
  obtain⟨q1,q2,⟨c,q3,q5⟩,q4⟩:=st
  obtain⟨ds,pd⟩:=rC hc I λq hq=>⟨(Z.a q hq).2.2 q hq,(hg q hq).1,q4 q hq⟩
  have hT:s.TypeIs (.ref z) "zip":=⟨_,q1,rfl⟩
  have len:=Paired.length pd
  have vw:H (zz9 s)=none:=I.bz.fresh (zzE _)
  have lt:∀b∈z::TI::TO::qs.map (·.it),b<(zz9 s):=λb hb=>by
   simp! [zzm,zzx] at hb;rcases hb with rfl|rfl|rfl|⟨q,hq,rfl⟩
   ·exact zzO q1
   ·exact zzO q2
   ·exact zzO q3
   ·obtain⟨o,ho,_⟩:=Zs.pB (q4 q hq);exact zzO ho
  unfold pyNext;refine zzA (wpAny_attempt (wpAny_callSpecial?_slot (name:=Str.ofString "__next__") hT PySem.F.slot_zip_next (wpAny_call_entry PySem.F.slot_zip_next hT PySem.F.entry_zip_next
   (qp (k:=i) (xm Z pd) (by rw [<-len];exact Z.len) (by have:=Z.ne;intro e;subst e;cases pd;exact this rfl) q1 (by rw [<-gB pd];exact q2) ⟨c,q3,by rw [<-len];exact q5⟩ (λd hd=>by obtain⟨q,hq,r⟩:=cx pd d hd;exact⟨r.st,by rw [r.n];exact Nat.le_of_lt (hg q hq).2⟩)
    (λh' tk us pu z1 z2 z3 z4 z5 kk=>⟨_,rfl,zzG ?_⟩) λh' tk e hex _ _=>?_) (PySem.F.args_zip_next_1 _))))
  ·obtain⟨ys,rv,py⟩:=j9 pd pu
   have N9:∀b∈z::TO::qs.map (·.it),fV X aa H b:=λb hb=>hf b (by simp! [zzm] at hb⊢;rcases hb with h|h|h<;>simp [h])
   have I1:=Inv.w4 (tk:=tk) (xs:=ys) I N9 (λb o hb e=>kk b o (λq=>hb (by simp [q])) (λq=>hb (by simp [q])) (λd hd q=>hb (by obtain⟨q',lK,r⟩:=cx pd d hd;simp! [zzm,zzx];exact .inr (.inr ⟨q',lK,by rw [q,r.it]⟩))) e) z4 rfl rfl rv (zzU (m:=9) (by have h1:=Paired.length py;have:=Z.len;rw [zzl] at h1;omega) (by decide))
   refine⟨_,rfl,wpAny_letOwnedTupleGo_zip z1 λh2 K7 sb=>?_⟩
   obtain⟨f0,f1,f2,f3,f4,f5⟩:=hf z (by simp)
   have nz:z≠(zz9 s):=zzb (lt z (by simp))
   refine⟨.ref (zz9 s),_,I1.turned (t':=tk) (it:=z) (λb o hb q=>sb.extBut b o hb q) (by rw [ai nz];exact f0) f1 f3 f4 f5,rfl,⟨_,_,rfl,vw,rfl,py⟩,⟨K7,?_,?_,λq hq=>?_⟩,λb hb=>?_⟩
   ·exact sb.extBut _ _ Z.tz.1 (kk _ _ Z.tz.1 Z.tz.2.2 (λd hd=>by obtain⟨q,hq,r⟩:=cx pd d hd;rw [r.it];exact Ne.symm (Z.it q hq).2.2) q2)
   ·obtain⟨c',e1,e2⟩:=z2
    exact⟨c',sb.extBut _ _ Z.tz.2.1 e1,by rw [e2,len]⟩
   ·obtain⟨d,hd,r⟩:=eA pd q hq
    exact Zs.uq (r.back _ _ (z3 d hd)) λo e=>sb.extBut _ _ (Z.it q hq).1 e
   ·rw [ai (zzb (lt b hb))];exact(hf b hb).1
  ·obtain⟨d,hd,hn⟩:=hex
   obtain⟨q,hq,r⟩:=cx pd d hd
   have:=(hg q hq).2
   rw [r.n] at hn;omega
 done:=by
  intro X hP hw hK hc i aa s σ H E I hf st hg;subst hP hw hK;obtain⟨hg,t0,ht0,hn0⟩:=hg
  replace hg:∀q∈qs,q.sq X.K H/\i<=q.xs.length:=λq hq=>hg q.t (List.mem_map_of_mem hq)
  obtain⟨q1,q2,⟨c,q3,q5⟩,q4⟩:=st
  obtain⟨ds,pd⟩:=rC hc I λq hq=>⟨(Z.a q hq).2.2 q hq,(hg q hq).1,q4 q hq⟩
  have hT:s.TypeIs (.ref z) "zip":=⟨_,q1,rfl⟩
  have len:=Paired.length pd
  unfold pyNext;refine zzA (wpAny_attempt (wpAny_callSpecial?_slot (name:=Str.ofString "__next__") hT PySem.F.slot_zip_next (wpAny_call_entry PySem.F.slot_zip_next hT PySem.F.entry_zip_next
   (qp (k:=i) (xm Z pd) (by rw [<-len];exact Z.len) (by have:=Z.ne;intro e;subst e;cases pd;exact this rfl) q1 (by rw [<-gB pd];exact q2) ⟨c,q3,by rw [<-len];exact q5⟩ (λd hd=>by obtain⟨q,hq,r⟩:=cx pd d hd;exact⟨r.st,by rw [r.n];exact(hg q hq).2⟩)
    (λh' tk us pu z1 z2 z3 z4 z5 kk=>?_) λh' tk e hex kk he=>?_) (PySem.F.args_zip_next_1 _))))
  ·obtain⟨ys,rv,py⟩:=j9 pd pu
   obtain⟨y,_,hy⟩:=eA py t0 ht0
   have:=(zzH.1 hy).1
   omega
  ·obtain⟨o,ho,pg⟩:=he
   refine zzA (wpAny_isInstance (T:="StopIteration") (b:=true) ⟨o,ho,pg⟩ isSubtype_stop ?_);have N9:∀b∈z::TO::qs.map (·.it),fV X aa H b:=λb hb=>hf b (by simp! [zzm] at hb⊢;rcases hb with h|h|h<;>simp [h])
   exact zzG ⟨rfl,Inv.moved (tk:=tk) I N9 λb o hb e=>kk b o (λq=>hb (by simp [q])) (λq=>hb (by simp [q])) (λd hd q=>hb (by obtain⟨q',lK,r⟩:=cx pd d hd;simp! [zzm,zzx];exact .inr (.inr ⟨q',lK,by rw [q,r.it]⟩))) e⟩
 self:=λ_ _ _ _ _ st h=>wpAny_pyIter_zip st.1 h
def kf(a b c:Value):checkTypeCall "zip" ⟨[a,b,c],[]⟩=pure ():=by kernel_rfl
def lP(a b c:Value):checkBuiltinCall "zip.__new__" ⟨[.type "zip",a,b,c],[]⟩=pure ():=by kernel_rfl
def gz(a b c d:Value):argsOk "object.__init__" ⟨[a,b,c,d],[]⟩:=by
 unfold argsOk;rw [signature?_of (n:=['_','_','t','i','n','i','_','_']) (by kernel_rfl) PySem.F.owner_object]
 kernel_rfl
def Src(h:Heap)(b:Bool)(a:Addr):Prop:=if b=true then∃ak,h.IsList a ak else∃ak,h.IsTuple a ak
def Rj(b:Bool):String:=if b=true then "list_iterator" else "tuple_iterator"
def Src.push{h:Heap}{b:Bool}{a:Addr}(q:Src h b a)(o:Obj):Src (h.push o) b a:=by
 unfold Src at q⊢;split
 ·rename_i e;rw [if_pos e] at q;obtain⟨ak,q⟩:=q;exact⟨ak,q.push o⟩
 ·rename_i e;rw [if_neg e] at q;obtain⟨ak,o',e1,r⟩:=q;exact⟨ak,o',zzB _ e1,r⟩
def JK(b:Bool)(a:Addr):Obj:={cls:=.type (Rj b),data:=.fields #[.ref a,.int 0 0]}
section
variable{prog:Program}{w:World}{A:Around}{E:Value->Shared->Prop}{s:Shared}
def sH{b:Bool}{a:Addr}{Q:Value->Shared->Prop}(h:Src s.heap b a)(q:Q (.ref (zz9 s)) {s with heap:=s.heap.push (JK b a)}):wpAny (model prog w) A (pyIter (.ref a)) Q E s:=by
 cases b with
 |true=>obtain⟨ak,h⟩:=h;exact wpAny_pyIter_list h q
 |false=>obtain⟨ak,h⟩:=h;exact wpAny_pyIter_tuple h q
end
def fF(h:Heap)(qs:List (Bool×Addr)):Heap:=qs.foldl (λg q=>g.push (JK q.1 q.2)) h
def gA(qs:List (Bool×Addr)):∀h:Heap,(fF h qs).objs.size=h.objs.size+qs.length:=by
 induction qs with
 |nil=>exact λh=>rfl
 |cons q qs ih=>intro h;rw [fF,List.foldl_cons,<-fF,ih,Heap.size_push,zzL];omega
section
variable{prog:Program}{w:World}{A:Around}{E:Value->Shared->Prop}{s:Shared}
def pL{Q:List Value->Shared->Prop}:∀(qs:List (Bool×Addr)),(∀q∈qs,Src s.heap q.1 q.2)->Q ((List.range qs.length).map λi=>Value.ref ((zz9 s)+i)) {s with heap:=fF s.heap qs}->
 wpAny (model prog w) A (Builtin.SmallTypes.iterAll (qs.map λq=>Value.ref q.2)) Q E s:=by
 intro qs hq h;unfold Builtin.SmallTypes.iterAll;refine zzA ?_;refine wpAny_forIn_list _ (λrest (b:Array Value) s'=>∃dn lf,qs=dn++lf/\rest=lf.map (λq=>Value.ref q.2)/\b.toList=(List.range dn.length).map (λi=>Value.ref ((zz9 s)+i))/\s'={s with heap:=fF s.heap dn}) _ ?_ ?_ _ _ ⟨[],qs,rfl,rfl,rfl,rfl⟩
 ·rintro x rest b s' ⟨dn,lf,rfl,hr,hb,rfl⟩
  cases lf with
  |nil=>cases hr
  |cons q lf=>
   simp! [zzF,List.cons.injEq] at hr;obtain⟨rfl,rfl⟩:=hr
   have hs:∀(l:List (Bool×Addr)) (g:Heap),Src g q.1 q.2->Src (fF g l) q.1 q.2:=λl=>by
    induction l with
    |nil=>exact λg h=>h
    |cons r l ih=>exact λg h=>ih _ (h.push _)
   refine zzA (wpAny_holding (sH (hs dn _ (hq q (by simp))) ?_));refine zzG ⟨dn++[q],lf,by simp,rfl,?_,?_⟩
   ·rw [Array.toList_push,hb,zzM,List.length_singleton,List.range_succ,List.map_append];simp [gA]
   ·simp [fF,List.foldl_append]
 ·rintro b s' ⟨dn,lf,rfl,hr,hb,rfl⟩
  obtain rfl:lf=[]:=by cases lf with|nil=>rfl|cons q lf=>cases hr
  refine zzG ?_;rw [hb]
  simpa using h
end
theorem n6{h:Heap}{o:Obj}{n:Addr}(e:h.objs.size=n)(f:o.isFreed=false:=by rfl):(h.push o).get? n=some o:=e▸zzX h f
noncomputable def fb(h:Heap)(qs:List (Bool×Addr)):Heap:=
 (((fF h qs).push {cls:=.type "tuple",data:=.seq ((List.range qs.length).map λi=>Value.ref (h.objs.size+i)).toArray}).push {cls:=.type "tuple",data:=.seq (((List.range qs.length).map λi=>Value.ref (h.objs.size+i)).map λ_=>Value.none).toArray}).push
   {cls:=.type "zip",data:=.fields #[.none,.bool false,.bool false,.ref (h.objs.size+qs.length),.ref (h.objs.size+qs.length+1)]}
theorem yN(qs:List (Bool×Addr))(hl:qs.length<=9):
 Meets (Builtin.«zip.__new__» ⟨.type "zip"::qs.map (λq=>Value.ref q.2),[]⟩) (λ_ R s=>(∀q∈qs,Src s.heap q.1 q.2)/\R (.ok (.ret (.ref ((zz9 s)+qs.length+2)))) {s with heap:=fb s.heap qs}):=
 .of_wp λprog w A R s h=>by
  obtain⟨hs,h⟩:=h
  have ML:=sub_zip
  have fit:∀l:List Value,l.length=qs.length->l.length<=sizeLine:=λl e=>zzU (m:=9) (by omega) (by decide)
  show wpAny _ _ (Builtin.SmallTypes.newClass "zip" _>>=_) _ _ s
  unfold Builtin.SmallTypes.newClass
  wp_walk using pL qs hs
  rw [if_neg (by rw [zzC];exact Nat.not_lt.2 (fit _ (by simp)))]
  wp_walk
  rw [if_neg (by rw [zzC];exact Nat.not_lt.2 (fit _ (by simp)))]
  wp_walk
  refine⟨_,rfl,?_⟩;simp! [Heap.size_push,gA];exact h
def mB(qs:List (Bool×Addr)):∀(h:Heap) (c:Addr) (o:Obj),h.get? c=some o->(fF h qs).get? c=some o:=by
 induction qs with
 |nil=>exact λh c o e=>e
 |cons q qs ih=>exact λh c o e=>ih _ c o (zzB _ e)
theorem qj:∀(qs:List (Bool×Addr)) (h:Heap) (i:Nat) (q:Bool×Addr),qs[i]?=some q->(fF h qs).get? (h.objs.size+i)=some (JK q.1 q.2)
 |q::qs,h,0,r,e=>by
  cases e;exact mB qs _ _ _ (zzX _ rfl)
 |q::qs,h,i+1,r,e=>by
  have:=qj qs (h.push (JK q.1 q.2)) i r (by simpa using e)
  rw [Heap.size_push] at this;rw [show h.objs.size+(i+1)=h.objs.size+1+i by omega];exact this
section
variable{prog:Program}{w:World}{A:Around}{E:Value->Shared->Prop}{s:Shared}
def vz{qs:List (Bool×Addr)}{Q:Value->Shared->Prop}(hl:qs.length<=9)(hs:∀q∈qs,Src s.heap q.1 q.2)(h1:checkTypeCall "zip" ⟨qs.map (λq=>Value.ref q.2),[]⟩=pure ())(h2:checkBuiltinCall "zip.__new__" ⟨.type "zip"::qs.map (λq=>Value.ref q.2),[]⟩=pure ())(h3:∀obj,argsOk "object.__init__" ⟨obj::qs.map (λq=>Value.ref q.2),[]⟩)
 (h:IsZip (fb s.heap qs) ((zz9 s)+qs.length+2) ((zz9 s)+qs.length) ((zz9 s)+qs.length+1) .none->gK (fb s.heap qs) ((zz9 s)+qs.length) ((List.range qs.length).map λi=>Value.ref ((zz9 s)+i)).toArray->(∃c,gK (fb s.heap qs) ((zz9 s)+qs.length+1) c/\c.size=qs.length)->
  (∀i q,qs[i]?=some q->(fb s.heap qs).get? ((zz9 s)+i)=some (JK q.1 q.2))->(∀c o,s.heap.get? c=some o->(fb s.heap qs).get? c=some o)->Q (.ref ((zz9 s)+qs.length+2)) {s with heap:=fb s.heap qs}):
 wpAny (model prog w) A (call (.type "zip") (qs.map λq=>Value.ref q.2)) Q E s:=by
 have z0:=gA qs s.heap
 have up:∀c o,(fF s.heap qs).get? c=some o->(fb s.heap qs).get? c=some o:=λc o e=>zzB _ (zzB _ (zzB _ e))
 have g5:IsZip (fb s.heap qs) ((zz9 s)+qs.length+2) ((zz9 s)+qs.length) ((zz9 s)+qs.length+1) .none:=n6 (by rw [Heap.size_push,Heap.size_push,z0])
 have g3:gK (fb s.heap qs) ((zz9 s)+qs.length) ((List.range qs.length).map λi=>Value.ref ((zz9 s)+i)).toArray:=zzB _ (zzB _ (n6 z0))
 have g4:gK (fb s.heap qs) ((zz9 s)+qs.length+1) (((List.range qs.length).map λi=>Value.ref ((zz9 s)+i)).map λ_=>Value.none).toArray:=zzB _ (n6 (by rw [Heap.size_push,z0]))
 exact callType_new PySem.F.called_zip (by decide) h1 h2 h3 PySem.F.entry_zip_new (yN qs hl) ⟨hs,⟨_,g5,rfl⟩,h g5 g3 ⟨_,g4,by simp⟩ (λi q e=>up _ _ (qj qs _ i q e)) λc o e=>up _ _ (mB qs _ c o e)⟩
end
theorem mL:∀{ts:List Zt} {us:List Value},Vals (ts.map λt=>V.ref t.2.1) us->us=ts.map λt=>Value.ref t.2.1
 |[],_,.nil=>rfl
 |t::ts,_,.cons h r=>by
  cases h;rw [mL r]
  rfl
section
variable{X:Cx}{elts:List Expr}{x1:Nat}{jg:Pos}
noncomputable def Kg(K:zz8)(ta:TA):TI:=λσ H R=>ta σ H λvs H1=>∃ts:List Zt,vs=ts.map (λt=>.ref t.2.1)/\(ts.length=2\/ts.length=3)/\(∀t∈ts,Zq K H1 t)/\R (M8 K ts) H1
def C0{e:Expr}{es:List Expr}{ta:TA}{p pos:Pos}(hg:Gl X "zip")(hm:X.mg "zip"=none)(ha:PA X (e::es) ta)(he:starEach (e::es) X.env=(false,eval e X.env)::starEach es X.env)(hp:(backTo pos (starEach es X.env)).any (·.1)=false):
 PI X (.Tuple elts x1 jg) (.Call (.Name "zip" p) (e::es) [] pos) (Kg X.K ta):=by
 intro aa s σ H R I h;refine Call_ (dg I hg hm (show bootBuiltins "zip"=some (.type "zip") by decide+kernel) (PyProof.Rows.callWith_type1 (bK (ha pos aa s σ H _ I h) λus s1 ⟨vs,H1,I1,r1,q1⟩=>?_) he hp))
 obtain⟨ts,rfl,hn,hq,q⟩:=q1
 obtain rfl:=mL r1
 have l9:ts.length<=9:=by omega
 have lm:(ts.map λt=>(t.1,t.2.1)).length=ts.length:=zzl ..
 have em:(ts.map λt=>Value.ref t.2.1)=(ts.map λt=>(t.1,t.2.1)).map λq=>Value.ref q.2:=by rw [List.map_map];rfl
 have src:∀t∈ts,Src s1.heap t.1 t.2.1/\t.2.1<(zz9 s1):=λt ht=>by
  have:=hq t ht
  unfold Zq at this;unfold Src;cases hb:t.1 with
  |true=>
   rw [if_pos hb] at this;obtain⟨ak,_,pl,_⟩:=I1.list this
   exact⟨⟨_,pl.isList⟩,by obtain⟨_,e,_⟩:=pl.isList;exact zzO e⟩
  |false=>
   rw [if_neg (by rw [hb];exact zzf)] at this;obtain⟨ak,_,pl,_⟩:=I1.tuple this
   exact⟨⟨_,pl⟩,by obtain⟨_,e,_⟩:=pl;exact zzO e⟩
 have go:∀l,(l=2\/l=3)->ts.length=l->checkTypeCall "zip" ⟨ts.map (λt=>Value.ref t.2.1),[]⟩=pure ()/\checkBuiltinCall "zip.__new__" ⟨.type "zip"::ts.map (λt=>Value.ref t.2.1),[]⟩=pure ()/\∀obj,argsOk "object.__init__" ⟨obj::ts.map (λt=>Value.ref t.2.1),[]⟩:=λl hl e=>by
  rcases hl with rfl|rfl
  ·match ts,e with
   |[a,b],_=>exact⟨PySem.F.typeCall_zip_2 _ _,PySem.F.newCall_zip_2 _ _,λobj=>PySem.F.args_object_init_3 obj _ _⟩
  ·match ts,e with
   |[a,b,c],_=>exact⟨kf _ _ _,lP _ _ _,λobj=>gz obj _ _ _⟩
 obtain⟨c1,c2,c3⟩:=go _ hn rfl
 rw [em] at c1 c2 c3⊢;refine vz (by rw [lm];exact l9) (λq lK=>by obtain⟨t,ht,rfl⟩:=zzx.1 lK;exact(src t ht).1) c1 c2 c3 λa1 a2 a3 a4 kk=>wpAny_pyIter_zip a1 ?_
 rw [lm] at a1 a2 a3;have I2:Inv X aa σ H1 {s1 with heap:=fb s1.heap (ts.map λt=>(t.1,t.2.1))}:=I1.kept (t':=s1.toks) kk
 have eqs:(ts.zipIdx.map λp=>(⟨(zz9 s1)+p.2,p.1.1,p.1.2.1,p.1.2.2⟩:Zs)).map Zs.t=ts:=by
  rw [List.map_map];refine List.ext_getElem (by simp) λi h1 h2=>?_
  simp [Zs.t]
 have mq:∀q∈ts.zipIdx.map λp=>(⟨(zz9 s1)+p.2,p.1.1,p.1.2.1,p.1.2.2⟩:Zs),∃i,i<ts.length/\ts[i]?=some q.t/\q.it=(zz9 s1)+i:=λq lK=>by
  obtain⟨⟨t,i⟩,MK,rfl⟩:=zzx.1 lK
  have:=List.mem_zipIdx_iff_getElem?.1 MK
  exact⟨i,(zzH.1 this).1,this,rfl⟩
 have Z:NZ ((zz9 s1)+ts.length+2) ((zz9 s1)+ts.length) ((zz9 s1)+ts.length+1) (ts.zipIdx.map λp=>(⟨(zz9 s1)+p.2,p.1.1,p.1.2.1,p.1.2.2⟩:Zs)):=by
  refine⟨⟨zzb (by show _<_;omega),zzb (by show _<_;omega),zzb (by show _<_;omega)⟩,λz=>?_,by simpa using l9,λq lK=>?_,λq lK=>?_,?_⟩
  ·have:=congrArg List.length z
   simp! [zzl,List.length_zipIdx,List.length_nil] at this;omega
  ·obtain⟨i,h1,_,h3⟩:=mq q lK
   rw [h3];exact⟨zzb (by show _<_;omega),zzb (by show _<_;omega),zzb (by show _<_;omega)⟩
  ·obtain⟨i,h1,h2,h3⟩:=mq q lK
   have h4:q.a<(zz9 s1):=(src q.t (zzD h2)).2
   refine⟨zzb (zzW h4 (by show _<=_;omega)),zzb (zzW h4 (by show _<=_;omega)),λr hr=>?_⟩
   obtain⟨j,_,_,h5⟩:=mq r hr
   rw [h5];exact zzb (zzW h4 (by show _<=_;omega))
  ·refine List.pairwise_map.2 ?_;refine List.pairwise_iff_getElem.2 λi j hi hj LJ=>?_
   simp! [List.getElem_zipIdx];exact zzb (by show _<_;omega)
 have T:=vE (P:=X.prog) (w:=X.w) (K:=X.K) (elts:=elts) (x1:=x1) (pos:=jg) Z
 rw [eqs] at T;refine⟨_,_,_,_,H1,by rw [lm],I2,T,⟨a1,?_,?_,λq lK=>?_⟩,λb hb=>?_,q⟩
 ·have:(ts.zipIdx.map λp=>(⟨(zz9 s1)+p.2,p.1.1,p.1.2.1,p.1.2.2⟩:Zs)).map (λq=>Value.ref q.it)=(List.range ts.length).map λi=>Value.ref ((zz9 s1)+i):=by
   refine List.ext_getElem (by simp) λi h1 h2=>?_
   simp
  rw [this];exact a2
 ·obtain⟨c,h1,h2⟩:=a3
  exact⟨c,h1,by simpa using h2⟩
 ·obtain⟨i,h1,h2,h3⟩:=mq q lK
  have:=a4 i (q.b,q.a) (by rw [zzQ,h2];rfl)
  unfold Zs.iter;rw [h3];cases hb:q.b with
  |true=>rw [hb] at this;exact⟨_,this,rfl,rfl⟩
  |false=>rw [hb] at this;exact⟨_,this,rfl,rfl⟩
 ·have hb':(zz9 s1)<=b:=by
   simp! [zzm,zzx] at hb;rcases hb with e|e|e|⟨q,lK,e⟩
   ·rw [e];exact zzU (Nat.le_add_right _ _) (Nat.le_add_right _ _)
   ·rw [e];exact Nat.le_add_right _ _
   ·rw [e];exact zzU (Nat.le_add_right _ _) (Nat.le_add_right _ _)
   ·obtain⟨i,_,_,h3⟩:=mq q (zzx.2 lK)
    rw [<-e,h3];exact Nat.le_add_right _ _
  exact I1.kZ hb' (I1.bz.fresh hb')
end
def qU:typeLookup (.type "list_reverseiterator") "__len__"=pure none:=by rw [typeLookup_type,builtinLookup_eq_fast];kernel_rfl
def wI:typeLookup (.type "list_reverseiterator") "__length_hint__"=pure (some (.builtin "list_reverseiterator.__length_hint__")):=by rw [typeLookup_type,builtinLookup_eq_fast];kernel_rfl
section
variable{prog:Program}{w:World}{A:Around}{E:Value->Shared->Prop}{s:Shared}
def Bx{R:Result->Shared->Prop}(hh:A.handled=none){I l:Addr}(fe:l≠I){items:Array Value}(hit:s.heap.IsRevIter I l ((items.size:Int)-1))(hl:s.heap.IsList l items)(S:Addr)(KQ:S≠I)(K3:S≠l)(res:Value)(c₀:Nat)(hS:s.heap.get? S=some {cls:=.type "list",data:=.seq #[] c₀})
 (hR:∀h' tk ef c',(∀b o,b≠S->b≠I->s.heap.get? b=some o->h'.get? b=some o)->h'.get? S=some {cls:=.type "list",dict:=none,data:=.seq ef c',slots:=#[]}->
  ItemsOf (λi v=>items[items.size-1-i]?=some v) ef items.size->R (.ok (.ret res)) {s with heap:=h',toks:=tk}) (hn:items.size<=sizeLine):
 wpAny (model prog w) A.in1 (Builtin.List.listExtendWith (.ref S) (.ref I) res)
  (λfin s'=>match fin with|.done f=>R (.ok f) s'|.again c'=>c'.quiet=true/\codeAny (model prog w) A c' R s') (λe s'=>R (.error e) s') s:=by
 have Q6:S∉[I,l]:=λhm=>by
  rcases zzm.mp hm with e|hm
  ·exact KQ e
  ·exact K3 (zzi.mp hm)
 unfold Builtin.List.listExtendWith;refine zzA (wpAny_typeOf hit.typeIs ?_);have h1:Builtin.List.listSameRef (.ref S) (.ref I)=false:=by simp [Builtin.List.listSameRef,KQ]
 have h2:(Value.type "list_reverseiterator"==Value.type "list")=false:=by decide
 have h3:(Value.type "list_reverseiterator"==Value.type "tuple")=false:=by decide
 simp! [h1,h2,h3,Bool.or_false,zze,if_false];refine zzA (wpAny_pyIter_revIter hit ?_);refine zzA (wpAny_holding ?_);unfold Builtin.List.listLengthHint;refine zzA (wpAny_specialOf hit.typeIs qU ?_);show wpAny _ A.in1 (specialOf (Value.ref I) (Str.ofString "__length_hint__")>>=_) _ _ _;refine zzA (wpAny_specialOf hit.typeIs wI ?_)
 wp_delta
 refine zzA (wpAny_isInstance (T:="list_reverseiterator") (v:=.ref I) (b:=true) hit.typeIs (by rw [isSubtype_type];kernel_rfl) ?_);refine zzG ?_;rw [if_neg (by decide)];refine zzG ⟨plainId_quiet F.plain_extend_loop _,codeAny_extend_loopS (Walks.listRev (prog:=prog) (w:=w) (A:=A.in1) hh I l fe items).toS hn _ Q6 _ items.size 0 _ _ _ rfl (Nat.zero_le _) ⟨Nat.zero_le _,by simpa using hit,hl⟩ hS (ItemsOf.nil _) λs' ef c' hm qR oA=>?_⟩
 rw [Moved.eq_with hm];refine hR s'.heap s'.toks ef c' (λb ob hb LY e=>hm.heap b ob (λhmem=>?_) e) qR oA
 rcases zzm.mp hmem with e'|hmem
 ·exact hb e'
 ·exact LY (zzi.mp hmem)
def wQ{R:Result->Shared->Prop}(hh:A.handled=none){I l:Addr}(fe:l≠I){items:Array Value}(hit:s.heap.IsRevIter I l ((items.size:Int)-1))(hl:s.heap.IsList l items)(S:Addr)(KQ:S≠I)(K3:S≠l)(hS:s.heap.get? S=some {cls:=.type "list",data:=.seq #[]})
 (hR:∀h' tk ef c',(∀b o,b≠S->b≠I->s.heap.get? b=some o->h'.get? b=some o)->h'.get? S=some {cls:=.type "list",dict:=none,data:=.seq ef c',slots:=#[]}->
  ItemsOf (λi v=>items[items.size-1-i]?=some v) ef items.size->R (.ok (.ret .none)) {s with heap:=h',toks:=tk}) (hn:items.size<=sizeLine):
 wpAny (model prog w) A.in1 (Builtin.«list.__init__» ⟨[.ref S,.ref I],[]⟩)
  (λfin s'=>match fin with|.done f=>R (.ok f) s'|.again c'=>c'.quiet=true/\codeAny (model prog w) A c' R s') (λe s'=>R (.error e) s') s:=by
 show wpAny _ _ (do let old<-Builtin.List.listItems (.ref S);Builtin.List.listUpdate (.ref S) (λ_=>#[]);letGo old.toList.reverse;Builtin.List.listExtendWith (.ref S) (.ref I) .none) _ _ s
 refine zzA ?_;unfold Builtin.List.listItems;refine zzA (wpAny_seqItems hS rfl (zzG ?_));show wpAny _ _ (updateSeq S (λ_=>#[])>>=λ_=>letGo (#[]:Array Value).toList.reverse>>=λ_=>Builtin.List.listExtendWith (.ref S) (.ref I) .none) _ _ s
 refine zzA (wpAny_updateSeq hS rfl ?_);have hS₂:=Heap.get?_update_self (Obj.mapSeq (λ_=>(#[]:Array Value))) hS rfl
 have NS:∀b o,b≠S->s.heap.get? b=some o->(s.heap.update S (Obj.mapSeq (λ_=>(#[]:Array Value)))).get? b=some o:=
  λb o hb e=>(Heap.get?_update_other _ _ (Ne.symm hb)).trans e
 refine zzA (wpAny_letGo ?_);refine Bx (hn:=hn) hh fe (hit.at λo e=>NS _ _ (Ne.symm KQ) e) (hl.at λo e=>NS _ _ (Ne.symm K3) e) S KQ K3 .none _ hS₂ λh' tk ef c' hk qR oA=>?_
 exact hR h' tk ef c' (λb o hb LY e=>hk b o hb LY (NS b o hb e)) qR oA
def lJ{Q:Value->Shared->Prop}(hh:A.handled=none){I l:Addr}(fe:l≠I){items:Array Value}(hit:s.heap.IsRevIter I l ((items.size:Int)-1))(hl:s.heap.IsList l items)
 (hQ:∀h' tk ef c',(∀b o,b≠I->s.heap.get? b=some o->h'.get? b=some o)->
  h'.get? (zz9 s)=some {cls:=.type "list",dict:=none,data:=.seq ef c',slots:=#[]}->ItemsOf (λi v=>items[items.size-1-i]?=some v) ef items.size->Q (.ref (zz9 s)) {s with heap:=h',toks:=tk}) (hn:items.size<=sizeLine):
 wpAny (model prog w) A (call (.type "list") [.ref I]) Q E s:=by
 refine callType_codes (Q₁:=λobj s₁=>obj=.ref (zz9 s)/\s₁={s with heap:=s.heap.push {cls:=.type "list",data:=.seq #[]}}) F.called_list (F.typeCall_list_1 _) F.entry_list_init
  (code_list_new _ ⟨rfl,rfl⟩) λobj s₁ h₁=>?_
 obtain⟨rfl,rfl⟩:=h₁
 have hS:(s.heap.push {cls:=.type "list",data:=.seq #[]}).get? (zz9 s)=some {cls:=.type "list",data:=.seq #[]}:=zzX _ rfl
 have n1:(zz9 s)≠I:=λe=>let⟨o,ho,_⟩:=hit;absurd (zzO ho) (by rw [e];exact Nat.lt_irrefl _)
 have n2:(zz9 s)≠l:=λe=>let⟨o,ho,_⟩:=hl;absurd (zzO ho) (by rw [e];exact Nat.lt_irrefl _)
 refine⟨⟨_,hS,rfl⟩,F.args_list_init_2 _ _,wQ (A:=A.in1) (hn:=hn) hh fe (hit.at λo e=>zzB _ e) (hl.at λo e=>zzB _ e) _ n1 n2 hS λh' tk ef c' hk qR oA=>?_⟩
 exact⟨rfl,hQ h' tk ef c' (λb o hb e=>hk b o (zzb (zzO e)) hb (zzB _ e)) qR oA⟩
variable{X:Cx}{e:Expr}{te:TE}{p1 p2 pos xV:Pos}
noncomputable def Q8(K:zz8)(te:TE):TE:=λσ H Q=>te σ H λx H1=>∃l vs,x=.ref l/\dw K H1 l vs/\∀p,H1 p=none->Q (.ref p) (upd H1 p (.lst vs.reverse))
def IL(xs:List V)(P:V->Prop):Prop:=match xs with
 |[x]=>P x
 |_=>False
def A0{xs:List V}{P:V->Prop}(h:IL xs P):∃x,xs=[x]/\P x:=by
 cases xs with
 |nil=>exact h.elim
 |cons x r=>
  cases r with
  |nil=>exact⟨x,rfl,h⟩
  |cons _ _=>exact h.elim
def x8{vs:List V}{us:List Value}(r:Vals vs us):Vals vs.reverse us.reverse:=by
 induction r with
 |nil=>exact .nil
 |cons h t ih=>
  rw [List.reverse_cons,List.reverse_cons];exact ih.append (.cons h .nil)
def q8(hc:X.calm=true)(hg:Gl X "list")(hm:X.mg "list"=none)(LQ:Gl X "reversed")(Kh:X.mg "reversed"=none)(h:PE X e te)(he:starEach [e] X.env=(false,eval e X.env)::starEach [] X.env):
 PE X (.Call (.Name "list" p1) [.Call (.Name "reversed" p2) [e] [] xV] [] pos) (Q8 X.K te):=by
 intro aa s σ H Q I q;refine wpAny_Call_Name_kw (dg I hg hm (u:=.type "list") (by decide+kernel) ?_);refine PyProof.Rows.callWith_type1 ?_ rfl rfl;show wpAny _ _ (spliced ((false,eval (.Call (.Name "reversed" p2) [e] [] xV) X.env)::backTo pos (starEach [] X.env))) _ _ s;refine Calls.spliced_cons ?_;refine wpAny_Call_Name_kw (dg I LQ Kh (u:=.type "reversed") (by decide+kernel) ?_);refine PyProof.Rows.callWith_type1 (bK (bO h c7 he xV aa s σ H (λxs H1=>IL xs λx=>∃l vs,x=.ref l/\dw X.K H1 l vs/\∀p,H1 p=none->Q (.ref p) (upd H1 p (.lst vs.reverse))) I q) λus s1 ⟨xs,H1,I1,r1,q1⟩=>?_) he rfl
 ·obtain⟨x,rfl,l,vs,rfl,hq,q1⟩:=A0 q1
  obtain⟨u,rfl,rx⟩:=vals1 r1
  cases rx;obtain⟨ak,r',pl,hz⟩:=I1.list hq
  have hlen:=r'.length
  refine call_reversed_list pl.isList ?_;refine Calls.spliced_nil ?_;have hn:ak.toArray.size<=sizeLine:=by simp! [zzC]<;>omega
  obtain⟨ol,hol,_⟩:=id pl.isList
  have fe:l≠(zz9 s1):=λz=>absurd (zzO hol) (by rw [z];exact Nat.lt_irrefl _)
  refine lJ (I1.ok.hd hc) fe ⟨_,zzX _ rfl,rfl,rfl⟩ (pl.isList.at λo z=>zzB _ z) (λh' tk ef c' kp e ha=>?_) hn;have oA:ef.toList=ak.reverse:=by
   refine List.ext_getElem? λi=>?_
   by_cases hi:i<ak.length
   ·rw [List.getElem?_reverse hi];have hs:ef.size=ak.length:=by rw [ha.1];simp
    have IH:i<ef.size:=by omega
    have:=ha.2 i ef[i] (zz2 IH)
    rw [Array.getElem?_toList,zz2 IH,<-this];simp
   ·rw [List.getElem?_eq_none (by rw [zzd,ha.1];simpa using hi),List.getElem?_eq_none (by rw [List.length_reverse];omega)]
  have rv:Vals vs.reverse ef.toList:=by rw [oA];exact x8 r'
  exact⟨.ref ((zz9 s1)+1),_,I1.laid (t':=tk) (a:=(zz9 s1)+1) (λb o z=>kp b o (zzb (zzO z)) (zzB _ z)) (Nat.le_succ _) (show bU X.prog X.w _ h' _ (.lst _) from⟨by rw [List.length_reverse];exact hz,ef.toList,c',rv,by simpa using e⟩),by rw [Heap.size_push];rfl,q1 _ (I1.bz.fresh (Nat.le_succ _))⟩
end
noncomputable def Mm(K:zz8)(a:Addr)(xs:List V):It:=
 ⟨λi H=>dw K H a xs/\i<xs.length,λi H x H'=>H'=H/\xs[xs.length-1-i]?=some x,λi H=>dw K H a xs/\i=xs.length⟩
def yZ{P:Program}{w:World}{K:zz8}{tg:Expr}(a it:Addr)(xs:List V):Turn P w K tg (Mm K a xs) [it] it (λi h=>h.IsRevIter it a ((xs.length:Int)-1-i)) where
 mem:=by simp
 obj:=λi h st b hb=>by
  obtain⟨o,e,c,d⟩:=st
  rw [zzi.1 hb];exact⟨o,e,λv z=>by rw [d] at z;cases z⟩
 keep:=λi h h' st k=>st.at λo e=>k it (by simp) o e
 item:=by
  intro X hP hw hK hc i aa s σ H E I hf st hg;subst hP hw hK;obtain⟨hq,cL⟩:=hg
  have hx:xs[xs.length-1-i]?=some xs[xs.length-1-i]:=zzg (by omega)
  obtain⟨ak,rv,p,hz⟩:=I.list hq
  obtain⟨u,hu,ru⟩:=rv.get hx
  obtain⟨f0,f1,f2,f3,f4,f5⟩:=hf it (by simp)
  have xw:s.heap.IsRevIter it a ((xs.length-1-i:Nat):Int):=by rw [show((xs.length-1-i:Nat):Int)=(xs.length:Int)-1-i by omega];exact st
  refine wpAny_pyNext_rev_item xw p.isList (x:=u) (by simpa using hu) λh' iy sb=>?_
  have I1:Inv X aa σ H {s with heap:=h'}:=I.turned (t':=s.toks) (λb o hb e=>(sb.2 b hb).trans e) f0 f1 f3 f4 f5
  obtain⟨o,e,c,d⟩:=id iy
  refine⟨u,rfl,pN (s:={s with heap:=h'}) e c d (by decide) ⟨_,H,I1,ru,⟨rfl,hx⟩,?_,λb hb=>(hf b hb).1⟩⟩
  rw [show(xs.length:Int)-1-((i+1:Nat):Int)=((xs.length-1-i:Nat):Int)-1 by omega];exact iy
 done:=by
  intro X hP hw hK hc i aa s σ H E I hf st hg;subst hP hw hK;obtain⟨hq,rfl⟩:=hg
  obtain⟨f0,f1,f2,f3,f4,f5⟩:=hf it (by simp)
  have xw:s.heap.IsRevIter it a (-1):=by rw [show(-1:Int)=(xs.length:Int)-1-xs.length by omega];exact st
  exact wpAny_pyNext_rev_end (I.ok.hd hc) xw λh' eb=>⟨rfl,I.turned (t':=s.toks) (λb o hb q=>eb b o hb q) f0 f1 f3 f4 f5⟩
 self:=λ_ _ _ _ _ st h=>wpAny_pyIter_revIter st h
section
variable{X:Cx}{tg:Expr}
noncomputable def MD(K:zz8)(ta:TA):TI:=λσ H R=>ta σ H λvs H1=>∃a xs,vs=[.ref a]/\dw K H1 a xs/\R (Mm K a xs) H1
def Cq{a:Expr}{ta:TA}{p pos:Pos}(hg:Gl X "reversed")(hm:X.mg "reversed"=none)(ha:PA X [a] ta)(hs:starEach [a] X.env=(false,eval a X.env)::starEach [] X.env):PI X tg (.Call (.Name "reversed" p) [a] [] pos) (MD X.K ta):=by
 intro aa s σ H R I h;refine Call_ (dg I hg hm (show bootBuiltins "reversed"=some (.type "reversed") by decide+kernel) (PyProof.Rows.callWith_type1 (bK (ha pos aa s σ H _ I h) λus s1 ⟨vs,H1,I1,r1,q1⟩=>?_) hs rfl))
 obtain⟨l,xs,rfl,hq,q⟩:=q1
 obtain⟨u,rfl,ru⟩:=vals1 r1
 cases ru;obtain⟨ak,rv,pl,_⟩:=I1.list hq
 refine call_reversed_list pl.isList (wpAny_pyIter_revIter ⟨_,zzX _ rfl,rfl,rfl⟩ ?_);refine⟨(zz9 s1),[(zz9 s1)],_,_,H1,rfl,I1.kept (t':=s1.toks) λb o e=>zzB _ e,yZ l _ xs,⟨_,zzX _ rfl,rfl,?_⟩,λb hb=>?_,q⟩
 ·rw [zzC,<-rv.length,show(xs.length:Int)-1-((0:Nat):Int)=(xs.length:Int)-1 by omega]
  rfl
 ·rw [zzi.1 hb];exact I1.kZ (zzE _) (I1.bz.fresh (zzE _))
end
end L2
namespace Ci
open PySem L2
structure Hs where
 f:Str
 h:Str
 g:Str
 idx:List Nat
 np:Nat
structure Pg where
 gs:List (Str×PV)
 bs:List Str
 cs:List Str
 fs:List Str
 rs:List Str
 hs:List Hs:=[]
 hl:Bool:=false
def fh(sc:Scope)(x:Str):Bool:=sc.names.lookup x==some .local||sc.names.lookup x==some .cell
def eX(sc:Scope)(x:Str):Bool:=fh sc x||sc.names.lookup x==some .free
def ff(sc:Scope)(x:Str):Bool:=sc.names.lookup x==some .globalImplicit
def litS:List PV->List PV->Bool
 |[],[]=>true
 |.str x::xs,.str y::ys=>x==y&&litS xs ys
 |_,_=>false
def ui:PV->PV->Bool
 |.int i,.int j=>i==j
 |.str x,.str y=>x==y
 |.tup xs,.tup ys=>litS xs ys
 |_,_=>false
theorem litS_eq:∀{xs ys:List PV},litS xs ys=true->xs=ys
 |[],[],_=>rfl
 |.str x::xs,.str y::ys,h=>by
  unfold litS at h;rw [zza] at h;rw [zzy.mp h.1,litS_eq h.2]
def wt{p q:PV}(h:ui p q=true):p=q:=by
 unfold ui at h;split at h
 ·rw [zzy.mp h]
 ·rw [zzy.mp h]
 ·rw [litS_eq h]
 ·cases h
noncomputable def bN:B->Str
 |.len=>"len"|.abs=>"abs"|.max2=>"max"|.min2=>"min"|.int=>"int"|.str=>"str"|.tuple=>"tuple"|.all=>"all"|.dict=>"dict"|.rQ=>"max"|.any=>"any"
def fQ:E->Bool
 |.f9 _=>false
 |_=>true
def jV:Es->Bool
 |.nil=>true
 |.cons e es=>fQ e&&jV es
def Dj:I->Bool
 |.seq e=>fQ e
 |.jj _=>true
 |.kH _ _=>true
 |.enum e=>fQ e
 |.zip _=>true
 |.sJ _=>true
def isNil:Es->Bool
 |.nil=>true
 |_=>false
def gn:Es->Nat
 |.nil=>0
 |.cons _ es=>gn es+1
def Cg:Expr->Option (List Expr)
 |.Tuple es _ _=>some es
 |_=>none
def nK{e:Expr}{es:List Expr}(h:Cg e=some es):∃k p,e=.Tuple es k p:=by
 cases e with
 |Tuple es k p=>cases h;exact⟨_,_,rfl⟩
 |_=>exact fS h
def vG{α:Type}:List α->Option (α×α)
 |[a,b]=>some (a,b)
 |_=>none
def Aq{α:Type}{ts:List α}{q:α×α}(h:vG ts=some q):ts=[q.1,q.2]:=by
 cases ts with
 |nil=>exact fS h
 |cons a ts=>
  cases ts with
  |nil=>exact fS h
  |cons b ts=>
   cases ts with
   |cons _ _=>exact fS h
   |nil=>cases h;rfl
def Mk(N:List Str)(sc:Scope)(fn:Str->Bool)(i:Nat)(p:Expr):Bool:=(gJ p).any λx=>N[i]?==some x&&fh sc x&&(fn x||sc.names.lookup x==some .local)
noncomputable def CZ(N:List Str)(sc:Scope)(fn:Str->Bool):List Nat->List Expr->Bool
 |i::is,a::as=>Mk N sc fn i a&&CZ N sc fn is as
 |[],[]=>true
 |_,_=>false
noncomputable def gq(N:List Str)(sc:Scope)(fn:Str->Bool):Tg->Expr->Bool
 |.one i,p=>Mk N sc fn i p
 |.two i j,p=>(Cg p).any (CZ N sc fn [i,j])
 |.three i j k,p=>(Cg p).any (CZ N sc fn [i,j,k])
noncomputable def aG:Expr->List Str
 |.Name x _=>[x]
 |.Tuple [.Name x _,.Name y _] _ _=>[x,y]
 |.Tuple [.Name x _,.Name y _,.Name z _] _ _=>[x,y,z]
 |.Tuple [.Name x _,.Tuple [.Name y _,.Name z _] _ _] _ _=>[x,y,z]
 |_=>[]
def cZ(scope sc:Scope):Scope:=
 {scope with names:=scope.names.map λ(n,k)=>if(k==.free&&sc.kind==.function&&sc.names.lookup n==some .cell) then(n,.cell) else(n,k)}
def freeOf(scope:Scope):List Str:=((scope.names.filter λp=>p.2==.free).map (·.1)).reverse
noncomputable def tH(N:List Str)(sc scope:Scope)(k:Nat)(cH:List Nat)(xs:List Str):Bool:=
 scope.kind==.function&&xs.length==k&&decide ((xs++freeOf scope).Nodup)
 &&(scope.names.all λy=>(decide (y.2≠.cell)||!(freeOf scope).contains y.1)&&(decide (y.2≠.free)||(freeOf scope).contains y.1))
 &&(scope.names.all λy=>decide (y.2≠.cell)||decide (scope.names.lookup y.1=some .cell))
 &&(scope.names.all λy=>decide (y.2≠.local)||decide (scope.names.lookup y.1=some .local))
 &&decide (cH.map (λi=>N[i]?)=(freeOf scope).map some)
 &&((freeOf scope).all λy=>decide (sc.names.lookup y=some .cell))
 &&((freeOf scope).all λy=>decide ((cZ scope sc).names.lookup y=some .cell))
def jc(k:Nat):Tg->Bool
 |.one i=>decide (i<k)
 |.two i j=>decide (i<k)&&decide (j<k)
 |.three i j l=>decide (i<k)&&decide (j<k)&&decide (l<k)
def fg:E->Bool
 |.ite _ _ _=>false
 |.not a=>fg a
 |.and a b=>fg a&&fg b
 |.or a b=>fg a&&fg b
 |_=>true
def isTup:Expr->Bool
 |.Tuple .. =>true
 |_=>false
noncomputable abbrev Pg.zO(Γ:Pg):Pg:={Γ with hl:=false}
def rS{α β:Type}{o:Option α}{f:α->Option β}{b:β}(h:o.bind f=some b):∃a,o=some a/\f a=some b:=zzZ.1 h
def if1{α:Type}{c:Bool}{a b:α}(h:(if c=true then some a else none)=some b):c=true/\a=b:=by
 cases c with
 |true=>cases h;exact⟨rfl,rfl⟩
 |false=>exact fS h
def dW{α:Type}:List α->Option α
 |[t]=>some t
 |_=>none
def fL{α:Type}{ts:List α}{t:α}(h:dW ts=some t):ts=[t]:=by
 cases ts with
 |nil=>exact fS h
 |cons a ts=>
  cases ts with
  |cons _ _=>exact fS h
  |nil=>cases h;rfl
def Kv:Expr->Option (Expr×Str×Pos)
 |.Attribute o m p=>some (o,m,p)
 |_=>none
def yf{e:Expr}{q:Expr×Str×Pos}(h:Kv e=some q):e=.Attribute q.1 q.2.1 q.2.2:=by
 cases e with
 |Attribute o m p=>cases h;rfl
 |_=>exact fS h
def JR:Expr->Option (Expr×Expr)
 |.Subscript a b _=>some (a,b)
 |_=>none
def xY{e:Expr}{q:Expr×Expr}(h:JR e=some q):∃p,e=.Subscript q.1 q.2 p:=by
 cases e with
 |Subscript a b p=>cases h;exact⟨_,rfl⟩
 |_=>exact fS h
def Ih:Expr->Option Const
 |.Constant c _ _=>some c
 |_=>none
def wx{e:Expr}{c:Const}(h:Ih e=some c):∃p q,e=.Constant c p q:=by
 cases e with
 |Constant c p q=>cases h;exact⟨_,_,rfl⟩
 |_=>exact fS h
def xw:Const->Option Str
 |.str z=>some z
 |_=>none
def v8{c:Const}{z:Str}(h:xw c=some z):c=.str z:=by
 cases c with
 |str y=>cases h;rfl
 |_=>exact fS h
def MZ:Const->Option Int
 |.int n=>some n
 |_=>none
def xQ{c:Const}{n:Int}(h:MZ c=some n):c=.int n:=by
 cases c with
 |int y=>cases h;rfl
 |_=>exact fS h
def CK{α:Type}{l:List α}(h:l.isEmpty=true):l=[]:=by
 cases l with
 |nil=>rfl
 |cons _ _=>exact bB h
def Mf{α:Type}{o:Option α}(h:o.isNone=true):o=none:=by
 cases o with
 |none=>rfl
 |some _=>exact bB h
def PH:Const->Option Bool
 |.bool b=>some b
 |_=>none
def E4{c:Const}{b:Bool}(h:PH c=some b):c=.bool b:=by
 cases c with
 |bool y=>cases h;rfl
 |_=>exact fS h
def Ny:Const->Bool
 |.none=>true
 |_=>false
def xR{c:Const}(h:Ny c=true):c=.none:=by
 cases c with
 |none=>rfl
 |_=>exact bB h
def P8:Expr->Option (Expr×Operator×Expr)
 |.BinOp a o b _=>some (a,o,b)
 |_=>none
def F6{e:Expr}{q:Expr×Operator×Expr}(h:P8 e=some q):∃p,e=.BinOp q.1 q.2.1 q.2.2 p:=by
 cases e with
 |BinOp a o b p=>cases h;exact⟨_,rfl⟩
 |_=>exact fS h
def La:Expr->Option (Expr×List CmpOp×List Expr)
 |.Compare a o b _=>some (a,o,b)
 |_=>none
def GO{e:Expr}{q:Expr×List CmpOp×List Expr}(h:La e=some q):∃p,e=.Compare q.1 q.2.1 q.2.2 p:=by
 cases e with
 |Compare a o b p=>cases h;exact⟨_,rfl⟩
 |_=>exact fS h
def LG:Expr->Option (UnaryOp×Expr)
 |.UnaryOp o a _=>some (o,a)
 |_=>none
def HC{e:Expr}{q:UnaryOp×Expr}(h:LG e=some q):∃p,e=.UnaryOp q.1 q.2 p:=by
 cases e with
 |UnaryOp o a p=>cases h;exact⟨_,rfl⟩
 |_=>exact fS h
def Dx:UnaryOp->Bool
 |.Not=>true
 |_=>false
def wH{o:UnaryOp}(h:Dx o=true):o=.Not:=by
 cases o with
 |Not=>rfl
 |_=>exact bB h
def isNeg:UnaryOp->Bool
 |.USub=>true
 |_=>false
def wN{o:UnaryOp}(h:isNeg o=true):o=.USub:=by
 cases o with
 |USub=>rfl
 |_=>exact bB h
def uj:BoolOp->Bool
 |.And=>true
 |.Or=>false
def y7{o:BoolOp}(h:uj o=true):o=.And:=by
 cases o with
 |And=>rfl
 |Or=>exact bB h
def A2{o:BoolOp}(h:(!uj o)=true):o=.Or:=by
 cases o with
 |Or=>rfl
 |And=>exact bB h
def KW:Expr->Option (BoolOp×List Expr×Pos)
 |.BoolOp o vs p=>some (o,vs,p)
 |_=>none
def EN{e:Expr}{q:BoolOp×List Expr×Pos}(h:KW e=some q):e=.BoolOp q.1 q.2.1 q.2.2:=by
 cases e with
 |BoolOp o vs p=>cases h;rfl
 |_=>exact fS h
def MR(o:BoolOp)(pos:Pos):List Expr->Option (Expr×Expr)
 |a::b::[]=>some (a,b)
 |a::b::c::r=>some (a,.BoolOp o (b::c::r) pos)
 |_=>none
def wm{o:BoolOp}{pos:Pos}{vs:List Expr}{q:Expr×Expr}(h:MR o pos vs=some q):vs=[q.1,q.2]\/∃b c r,vs=q.1::b::c::r/\q.2=.BoolOp o (b::c::r) pos:=by
 cases vs with
 |nil=>exact fS h
 |cons a vs=>
  cases vs with
  |nil=>exact fS h
  |cons b vs=>
   cases vs with
   |nil=>cases h;exact .inl rfl
   |cons c r=>cases h;exact .inr ⟨b,c,r,rfl,rfl⟩
def OM:Expr->Option (Expr×Expr×Expr)
 |.IfExp c a b _=>some (c,a,b)
 |_=>none
def GG{e:Expr}{q:Expr×Expr×Expr}(h:OM e=some q):∃p,e=.IfExp q.1 q.2.1 q.2.2 p:=by
 cases e with
 |IfExp c a b p=>cases h;exact⟨_,rfl⟩
 |_=>exact fS h
def PL:Expr->Option (List Expr)
 |.List es _=>some es
 |_=>none
def yM{e:Expr}{es:List Expr}(h:PL e=some es):∃p,e=.List es p:=by
 cases e with
 |List es p=>cases h;exact⟨_,rfl⟩
 |_=>exact fS h
def HL:Expr->Option (Option Expr×Option Expr×Option Expr)
 |.Slice a b c _=>some (a,b,c)
 |_=>none
def Hf{e:Expr}{q:Option Expr×Option Expr×Option Expr}(h:HL e=some q):∃p,e=.Slice q.1 q.2.1 q.2.2 p:=by
 cases e with
 |Slice a b c p=>cases h;exact⟨_,rfl⟩
 |_=>exact fS h
def LL:Expr->Option (Expr×List Comprehension×Scope)
 |.ListComp e gs s _=>some (e,gs,s)
 |_=>none
def Ey{e:Expr}{q:Expr×List Comprehension×Scope}(h:LL e=some q):∃p,e=.ListComp q.1 q.2.1 q.2.2 p:=by
 cases e with
 |ListComp e gs s p=>cases h;exact⟨_,rfl⟩
 |_=>exact fS h
def tW(e:Expr):Option (Str×List Expr):=(DU e).bind λq=>(gJ q.1).bind λg=>if q.2.2.1.isEmpty=true then some (g,q.2.1) else none
def EW{e:Expr}{q:Str×List Expr}(h:tW e=some q):∃np p,e=.Call (.Name q.1 np) q.2 [] p:=by
 obtain⟨⟨f,a,k,p⟩,h1,h⟩:=rS h
 obtain⟨g,h2,h⟩:=rS h
 obtain⟨h3,rfl⟩:=if1 h
 obtain⟨np,z⟩:=eR h2
 have z3:=CK h3
 dsimp only at z z3;subst z z3;exact⟨np,p,kJ h1⟩
def IC:PV->Const->Bool
 |.aA,c=>Ny c
 |.bl b,c=>(PH c).any λx=>b==x
 |.int i,c=>(MZ c).any λx=>i==x
 |.str z,c=>(xw c).any λx=>z==x
 |_,_=>false
def OY:List Keyword->Option (Str×Expr)
 |[⟨some n,v,_⟩]=>some (n,v)
 |_=>none
def Fj{ks:List Keyword}{q:Str×Expr}(h:OY ks=some q):∃p,ks=[⟨some q.1,q.2,p⟩]:=by
 cases ks with
 |nil=>exact fS h
 |cons k ks=>
  obtain⟨kn,kv,kp⟩:=k
  cases kn with
  |none=>exact fS h
  |some n=>
   cases ks with
   |cons _ _=>exact fS h
   |nil=>cases h;exact⟨_,rfl⟩
def Qt:Expr->Option (Expr×Expr)
 |.Dict [some k] [v] _=>some (k,v)
 |_=>none
def FG{e:Expr}{q:Expr×Expr}(h:Qt e=some q):∃p,e=.Dict [some q.1] [q.2] p:=by
 cases e with
 |Dict ks vs p=>
  cases ks with
  |nil=>exact fS h
  |cons k ks=>
   cases k with
   |none=>exact fS h
   |some k=>
    cases ks with
    |cons _ _=>exact fS h
    |nil=>
     cases vs with
     |nil=>exact fS h
     |cons v vs=>
      cases vs with
      |cons _ _=>exact fS h
      |nil=>cases h;exact⟨_,rfl⟩
 |_=>exact fS h
def DQ(p:Expr):Bool:=(DU p).all λq=>!q.2.1.isEmpty
def ax{a b:Bool}(h:(a&&b)=true):a=true/\b=true:=Bool.and_eq_true_iff.mp h
def aj{α:Type}{o:Option α}{f:α->Bool}(h:o.any f=true):∃x,o=some x/\f x=true:=by
 cases o with
 |none=>cases h
 |some x=>exact⟨x,rfl,h⟩
theorem fj{α:Type}{l:List α}{f:α->Bool}(h:(dW l).any f=true):∃a,l=[a]/\f a=true:=let⟨a,e,h1⟩:=aj h;⟨a,fL e,h1⟩
theorem BZ{α:Type}{l:List α}{f:α×α->Bool}(h:(vG l).any f=true):∃a b,l=[a,b]/\f (a,b)=true:=let⟨q,e,h1⟩:=aj h;⟨q.1,q.2,Aq e,h1⟩
theorem Ib{p:Expr}{f:Str->Bool}(h:(gJ p).any f=true):∃x np,p=.Name x np/\f x=true:=let⟨x,e,h1⟩:=aj h;let⟨np,z⟩:=eR e;⟨x,np,z,h1⟩
theorem LX{p:Expr}{f:Const->Bool}(h:(Ih p).any f=true):∃x a b,p=.Constant x a b/\f x=true:=let⟨x,e,h1⟩:=aj h;let⟨a,b,z⟩:=wx e;⟨x,a,b,z,h1⟩
theorem vU{p:Expr}{f:Str×List Expr->Bool}(h:(tW p).any f=true):∃g as np pos,p=.Call (.Name g np) as [] pos/\f (g,as)=true:=let⟨q,e,h1⟩:=aj h;let⟨a,b,z⟩:=EW e;⟨q.1,q.2,a,b,z,h1⟩
theorem OI{p:Expr}{f:Expr×Expr->Bool}(h:(JR p).any f=true):∃a b pos,p=.Subscript a b pos/\f (a,b)=true:=let⟨q,e,h1⟩:=aj h;let⟨x,z⟩:=xY e;⟨q.1,q.2,x,z,h1⟩
theorem QH{p:Expr}{f:Option Expr×Option Expr×Option Expr->Bool}(h:(HL p).any f=true):∃a b c pos,p=.Slice a b c pos/\f (a,b,c)=true:=let⟨q,e,h1⟩:=aj h;let⟨x,z⟩:=Hf e;⟨q.1,q.2.1,q.2.2,x,z,h1⟩
theorem OP{p:Expr}{f:UnaryOp×Expr->Bool}(h:(LG p).any f=true):∃o a pos,p=.UnaryOp o a pos/\f (o,a)=true:=let⟨q,e,h1⟩:=aj h;let⟨x,z⟩:=HC e;⟨q.1,q.2,x,z,h1⟩
theorem P6{p:Expr}{f:Expr×List CmpOp×List Expr->Bool}(h:(La p).any f=true):∃a o b pos,p=.Compare a o b pos/\f (a,o,b)=true:=let⟨q,e,h1⟩:=aj h;let⟨x,z⟩:=GO e;⟨q.1,q.2.1,q.2.2,x,z,h1⟩
theorem LK{p:Expr}{f:Expr×List Comprehension×Scope->Bool}(h:(LL p).any f=true):∃a g s pos,p=.ListComp a g s pos/\f (a,g,s)=true:=let⟨q,e,h1⟩:=aj h;let⟨x,z⟩:=Ey e;⟨q.1,q.2.1,q.2.2,x,z,h1⟩
theorem PQ{p:Expr}{f:BoolOp×List Expr×Pos->Bool}(h:(KW p).any f=true):∃o vs pos,p=.BoolOp o vs pos/\f (o,vs,pos)=true:=let⟨q,e,h1⟩:=aj h;⟨q.1,q.2.1,q.2.2,EN e,h1⟩
mutual
noncomputable def aS(Γ:Pg)(N:List Str)(sc:Scope):E->Expr->Bool
 |.var i,p=>(gJ p).any λx=>N[i]?==some x&&eX sc x&&okN x
 |.f9 i,p=>(gJ p).any λx=>N[i]?==some x&&eX sc x&&okN x
 |.cst q,p=>(Ih p).any (IC q)
 |.glob g p,e=>(gJ e).any λx=>g==x&&ff sc x&&okN x&&Γ.gs.any λq=>q.1==g&&ui q.2 p
 |.call f as,p=>(tW p).any λq=>f==q.1&&Γ.fs.contains q.1&&ff sc q.1&&okN q.1&&jV as&&gr Γ N sc as q.2
 |.blt b as,p=>(tW p).any λq=>bN b==q.1&&ff sc q.1&&Γ.bs.contains q.1&&!isNil as&&gr Γ N sc as q.2
 |.ty t a,p=>(tW p).any λq=>(vG q.2).any λr=>(gJ r.2).any λtn=>q.1==("isinstance":Str)&&ff sc q.1&&Γ.bs.contains q.1&&tn==Str.ofString (rV t)&&ff sc tn&&Γ.bs.contains tn&&aS Γ N sc a r.1
 |.bin o a b,p=>(P8 p).any λq=>decide (NV o=q.2.1)&&aS Γ N sc a q.1&&aS Γ N sc b q.2.2
 |.cmp o a b,p=>(La p).any λq=>(dW q.2.1).any λop=>(dW q.2.2).any λpb=>decide (pj o=op)&&aS Γ N sc a q.1&&aS Γ N sc b pb
 |.ch o1 o2 a b c,p=>(La p).any λq=>(vG q.2.1).any λop=>(vG q.2.2).any λpb=>decide (pj o1=op.1)&&decide (pj o2=op.2)&&aS Γ N sc a q.1&&aS Γ N sc b pb.1&&aS Γ N sc c pb.2
 |.not a,p=>(LG p).any λq=>Dx q.1&&aS Γ N sc a q.2
 |.neg a,p=>(LG p).any λq=>isNeg q.1&&aS Γ N sc a q.2
 |.and a b,p=>(KW p).any λq=>(MR q.1 q.2.2 q.2.1).any λr=>uj q.1&&fQ b&&aS Γ N sc a r.1&&aS Γ N sc b r.2
 |.or a b,p=>(KW p).any λq=>(MR q.1 q.2.2 q.2.1).any λr=>!uj q.1&&fQ b&&aS Γ N sc a r.1&&aS Γ N sc b r.2
 |.ite c a b,p=>(OM p).any λq=>fg c&&fQ a&&fQ b&&aS Γ N sc c q.1&&aS Γ N sc a q.2.1&&aS Γ N sc b q.2.2
 |.tup as,p=>(Cg p).any λps=>jV as&&decide (gn as<1000)&&gr Γ N sc as ps
 |.lst as,p=>(PL p).any λps=>jV as&&decide (gn as<1000)&&gr Γ N sc as ps
 |.sub a b,p=>(JR p).any λq=>aS Γ N sc a q.1&&aS Γ N sc b q.2
 |.slice a lo hi,p=>(JR p).any λq=>(HL q.2).any λr=>r.2.2.isNone&&aS Γ N sc a q.1&&Gq Γ N sc lo r.1&&Gq Γ N sc hi r.2.1
 |.comp k cH tg it elt,p=>(LL p).any λq=>(dW q.2.1).any λg=>g.ifs.isEmpty&&(tH N sc q.2.2 k cH (aG g.target)&&jc k tg&&fQ elt&&u3 Γ N sc g.target it g.iter&&gq (aG g.target++freeOf q.2.2) (cZ q.2.2 sc) (kU q.2.2) tg g.target&&aS Γ.zO (aG g.target++freeOf q.2.2) (cZ q.2.2 sc) elt q.1&&decide (g.is_async=0))
 |.bC k cH tg it c elt,p=>(LL p).any λq=>(dW q.2.1).any λg=>(dW g.ifs).any λpc=>fg c&&tH N sc q.2.2 k cH (aG g.target)&&jc k tg&&fQ elt&&u3 Γ N sc g.target it g.iter&&gq (aG g.target++freeOf q.2.2) (cZ q.2.2 sc) (kU q.2.2) tg g.target&&aS Γ.zO (aG g.target++freeOf q.2.2) (cZ q.2.2 sc) c pc&&aS Γ.zO (aG g.target++freeOf q.2.2) (cZ q.2.2 sc) elt q.1&&decide (g.is_async=0)
 |.yH a,p=>(tW p).any λq=>(dW q.2).any λz=>(tW z).any λr=>(dW r.2).any λpa=>q.1==("list":Str)&&ff sc q.1&&Γ.bs.contains q.1&&r.1==("reversed":Str)&&ff sc r.1&&Γ.bs.contains r.1&&aS Γ N sc a pa
 |.get a k,p=>(DU p).any λq=>(Kv q.1).any λr=>(dW q.2.1).any λpk=>q.2.2.1.isEmpty&&r.2.1==("get":Str)&&r.2.2.endLine==q.2.2.2.line&&DQ r.1&&aS Γ N sc a r.1&&aS Γ N sc k pk
 |.maxD a n,p=>(DU p).any λq=>(gJ q.1).any λf=>(dW q.2.1).any λpa=>(OY q.2.2.1).any λr=>(Ih r.2).any λc=>f==("max":Str)&&ff sc f&&Γ.bs.contains f&&r.1==("default":Str)&&MZ c==some n&&aS Γ N sc a pa
 |.JJ n,p=>(Qt p).any λq=>(gJ q.1).any λz=>(Ih q.2).any λc=>N[n]?==some z&&eX sc z&&okN z&&Ny c
 |.iV f as,p=>(tW p).any λq=>f==q.1&&Γ.fs.contains q.1&&ff sc q.1&&okN q.1&&!isNil as&&gr Γ N sc as q.2
noncomputable def gr(Γ:Pg)(N:List Str)(sc:Scope):Es->List Expr->Bool
 |.nil,[]=>true
 |.cons e es,p::ps=>aS Γ N sc e p&&gr Γ N sc es ps
 |_,_=>false
noncomputable def Gq(Γ:Pg)(N:List Str)(sc:Scope):Oe->Option Expr->Bool
 |.no,none=>true
 |.some e,some p=>aS Γ N sc e p
 |_,_=>false
noncomputable def u3(Γ:Pg)(N:List Str)(sc:Scope)(tg:Expr):I->Expr->Bool
 |.seq e,p=>aS Γ N sc e p
 |.jj e,p=>(tW p).any λq=>(dW q.2).any λr=>q.1==("range":Str)&&ff sc q.1&&Γ.bs.contains q.1&&aS Γ N sc e r
 |.kH a b,p=>(tW p).any λq=>(vG q.2).any λr=>q.1==("range":Str)&&ff sc q.1&&Γ.bs.contains q.1&&aS Γ N sc a r.1&&aS Γ N sc b r.2
 |.enum e,p=>(tW p).any λq=>(dW q.2).any λr=>isTup tg&&q.1==("enumerate":Str)&&ff sc q.1&&Γ.bs.contains q.1&&aS Γ N sc e r
 |.zip as,p=>(tW p).any λq=>isTup tg&&q.1==("zip":Str)&&ff sc q.1&&Γ.bs.contains q.1&&jV as&&(gn as==2||gn as==3)&&gr Γ N sc as q.2
 |.sJ e,p=>(tW p).any λq=>(dW q.2).any λr=>q.1==("reversed":Str)&&ff sc q.1&&Γ.bs.contains q.1&&fQ e&&aS Γ N sc e r
end
def XE(W:Wd)(c:Str)(G1 H1:Hp):XK:=λCv ao H'=>∃C a G',Cv=.ref C/\ao=some a/\c∈W.xs/\W.mg c=some (.ref C)/\aH W G1 H1 G' H'
def rT(X:Cx)(W:Wd)(σ:St)(c:Str)(G H:Hp):Prop:=∀(aa:List (Addr×Obj)) (G1 H1:Hp) (s1:Shared) (e:Value) (s':Shared),Inv X aa σ H1 s1->aH W G H G1 H1->gk X.prog X.w X.stack H1 s1 (XE W c G1 H1) e s'->X.xe e s'
def Out{α:Type}(X:Cx)(W:Wd)(r:Res α)(σ:St)(G H:Hp)(k:α->Prop):Prop:=match r with
 |.ok a=>k a
 |.exc c=>rT X W σ c G H
 |.bad=>False
section
variable{X:Cx}{W:Wd}{F:aM}{σ:St}{G H G1 H1:Hp}{α β:Type}
def rT.grow{c:Str}(h:rT X W σ c G H)(g:aH W G H G1 H1):rT X W σ c G1 H1:=λaa G2 H2 s1 e s' I g2 x=>h aa G2 H2 s1 e s' I (g.trans g2) x
def Out.grow{r:Res α}{k:α->Prop}(h:Out X W r σ G H k)(g:aH W G H G1 H1):Out X W r σ G1 H1 k:=by
 cases r with
 |ok a=>exact h
 |exc c=>exact rT.grow h g
 |bad=>exact h
def Out.imp{r:Res α}{k k':α->Prop}(h:Out X W r σ G H k)(i:∀a,k a->k' a):Out X W r σ G H k':=by
 cases r with
 |ok a=>exact i a h
 |exc c=>exact h
 |bad=>exact h
def Out.bind{r:Res α}{f:α->Res β}{k:β->Prop}(h:Out X W (r.bind f) σ G H k):Out X W r σ G H λa=>Out X W (f a) σ G H k:=by
 cases r with
 |ok a=>exact h
 |exc c=>exact h
 |bad=>exact h
def Out.val{r:Res α}{k:α->Prop}(h:Out X W r σ G H k)(n:∀c,r≠.exc c):∃a,r=.ok a/\k a:=by
 cases r with
 |ok a=>exact⟨a,rfl,h⟩
 |exc c=>exact absurd rfl (n c)
 |bad=>exact h.elim
structure Got(W:Wd)(H0 G H:Hp)(e:E)(p:PV)(v:V):Prop where
 top:Top W H0 G H p v
 rep:fQ e=true->Rep W G p v
def Got.of{H0:Hp}{e:E}{p:PV}{v:V}(h:Rep W G p v):Got W H0 G H e p v:=⟨.inl h,λ_=>h⟩
noncomputable def tE(X:Cx)(W:Wd)(F:aM)(e:E):TE:=λσ H Q=>∃H0 G env,SR W H0 env σ G H/\Out X W (aC F e env) σ G H λp=>∀v G' H',aH W G H G' H'->Got W H0 G' H' e p v->Q v H'
noncomputable def tT(X:Cx)(W:Wd)(F:aM)(e:E):TT:=λσ H Q=>∃H0 G env,SR W H0 env σ G H/\Out X W (aC F e env) σ G H λp=>∃b,p=.bl b/\∀G' H',aH W G H G' H'->Q b H'
structure Kc(W:Wd)(H0 G H:Hp)(es:Es)(ps:List PV)(vs:List V):Prop where
 top:Paired (λv p=>Top W H0 G H p v) vs ps
 rep:jV es=true->ah W G ps vs
noncomputable def tA(X:Cx)(W:Wd)(F:aM)(es:Es):TA:=λσ H Q=>∃H0 G env,SR W H0 env σ G H/\Out X W (c8 F es env) σ G H λps=>∀vs G' H',aH W G H G' H'->Kc W H0 G' H' es ps vs->Q vs H'
noncomputable def wD(X:Cx)(W:Wd)(F:aM)(o:Oe):TO:=λσ H Q=>∃H0 G env,SR W H0 env σ G H/\Out X W (ua F o env) σ G H λi=>∀G' H',aH W G H G' H'->Q i H'
def one{H0:Hp}{env:Sl}{e:E}{f:PV->Res β}{k:β->Prop}{Q:VK}(sr:SR W H0 env σ G H)(o:Out X W ((aC F e env).bind f) σ G H k)
 (h:∀p v G1 H1,aH W G H G1 H1->Got W H0 G1 H1 e p v->SR W H0 env σ G1 H1->Out X W (f p) σ G1 H1 k->Q v H1):tE X W F e σ H Q:=
 ⟨H0,G,env,sr,o.bind.imp λp hp v G1 H1 g t=>h p v G1 H1 g t (sr.grow g) (hp.grow g)⟩
def Ae{H0:Hp}{env:Sl}{e:E}{f:Bool->Res β}{k:β->Prop}{Q:Bool->Hp->Prop}(sr:SR W H0 env σ G H)(o:Out X W ((aC F e env).bind λp=>lE p f) σ G H k)
 (h:∀b G1 H1,aH W G H G1 H1->SR W H0 env σ G1 H1->Out X W (f b) σ G1 H1 k->Q b H1):tT X W F e σ H Q:=by
 refine⟨H0,G,env,sr,o.bind.imp λp hp=>?_⟩
 cases p with
 |bl b=>exact⟨b,rfl,λG1 H1 g=>h b G1 H1 g (sr.grow g) (Out.grow hp g)⟩
 |aA=>exact zzk hp
 |int _=>exact zzk hp
 |str _=>exact zzk hp
 |tup _=>exact zzk hp
 |lst _=>exact zzk hp
 |exc _=>exact zzk hp
 |bw _ _=>exact zzk hp
def args{H0:Hp}{env:Sl}{es:Es}{f:List PV->Res β}{k:β->Prop}{Q:List V->Hp->Prop}(sr:SR W H0 env σ G H)(o:Out X W ((c8 F es env).bind f) σ G H k)
 (h:∀ps vs G1 H1,aH W G H G1 H1->Kc W H0 G1 H1 es ps vs->SR W H0 env σ G1 H1->Out X W (f ps) σ G1 H1 k->Q vs H1):tA X W F es σ H Q:=
 ⟨H0,G,env,sr,o.bind.imp λp hp v G1 H1 g t=>h p v G1 H1 g t (sr.grow g) (hp.grow g)⟩
def Got.grow{H0 G2 H2:Hp}{e:E}{p:PV}{v:V}(h:Got W H0 G H e p v)(g:aH W G H G2 H2):Got W H0 G2 H2 e p v:=⟨h.top.grow g,λz=>Rep.same g.g p (h.rep z)⟩
def yV(W:Wd)(G:Hp):Option (Str×List Nat)->List PV->List V->Prop
 |none,as,vs=>ah W G as vs
 |some q,as,vs=>∃sW dS zN v,as=sW++dS/\vs=zN++[v]/\ah W G sW zN/\uY W G q.1 q.2 dS v
noncomputable def wy(W:Wd)(F:aM)(f:Str)(n:Nat)(q:Option (Str×List Nat)):Sp:=λvs H Q E=>vs.length=n/\∃G as,ay G H/\cS W G H/\yV W G q as vs/\(match F f as with
 |.ok p=>∀v G' H',aH W G H G' H'->Rep W G' p v->Q v H'
 |.exc c=>∀Cv ao H',XE W c G H Cv ao H'->E Cv ao H'
 |.bad=>False)
structure Fm(X:Cx)(W:Wd)(F:aM)(k:Nat)(f:Str):Prop where
 ex:∃fa fd ps,fX X.prog X.w X.K X.mg X.base (gk X.prog X.w) k fa fd ps (wy W F f ps.length none)/\X.mg f=some (.ref fa)/\PySem.W.keepIn X.K (.ref fa)=true/\Binds X.K fd ps []/\∀as,F f as≠.bad->as.length=ps.length
structure IA(X:Cx)(W:Wd)(F:aM)(k:Nat)(q:Hs):Prop where
 ex:∃fa fd ps,fX X.prog X.w X.K X.mg X.base (gk X.prog X.w) k fa fd ps (wy W F q.f ps.length (some (q.g,q.idx)))/\X.mg q.h=some (.ref fa)/\PySem.W.keepIn X.K (.ref fa)=true/\Binds X.K fd ps []/\ps.length=q.np
structure dR(Γ:Pg)(F:aM)(W:Wd)(N:List Str)(sc:Scope)(k:Nat)(X:Cx):Prop where
 hN:X.N=N
 fv:X.env.scope=sc
 calm:X.calm=true
 nd:N.Nodup
 K:W.K=X.K
 mg:W.mg=X.mg
 gs:∀q∈Γ.gs,∃u v,X.mg q.1=some u/\RelV v u/\∀G,Rep W G q.2 v
 bs:∀g∈Γ.bs,X.mg g=none
 room:eC (k+1) X.A
 fns:∀f,Γ.fs.contains f=true->Fm X W F k f
 KZ:Γ.cs.contains "ValueError"=false
 cls:∀c∈Γ.cs,∃C,X.mg c=some (.ref C)
 xc:∀d∈W.xs,∀D,X.mg d=some (.ref D)->EJ X.K D/\(∀c∈Γ.cs,∀C,X.mg c=some (.ref C)->PySem.W.kitOne X.K (.ref D) (.ref C)=some (c==d||c=="FloorError"))/\PySem.W.kitOne X.K (.ref D) (.type "ValueError")=some true
 u9:∀q∈Γ.hs,IA X W F k q
 any:∀g as,F g as≠.bad->Γ.fs.contains g=true\/gD g=true
 tb:Γ.hl=true->∃c P,X.env.code=.ref c/\PySem.W.CodeHd X.base c P/\(P,X.env.qual++"<lambda>")∈W.ts/\∀q',(P,q')∈W.ts->q'=X.env.qual++"<lambda>"
 bm:Γ.hl=true->ER X.mg X.base
 fl:Γ.hl=true->∀x,X.fn x=true
variable{Γ:Pg}{N:List Str}{sc:Scope}{k:Nat}
def nC(C:dR Γ F W N sc k X){x:Str}(h:eX sc x=true):LD X.env.scope x:=by
 rw [C.fv];unfold eX fh at h;simp! [zzt,zzy] at h;rcases h with(h|h)|h
 ·exact .inl h
 ·exact .inr (.inl h)
 ·exact .inr (.inr h)
def dE(C:dR Γ F W N sc k X){x:Str}(h:ff sc x=true):Gl X x:=by
 show X.env.scope.names.lookup x=_
 rw [C.fv];exact zzy.mp h
def fJ{x:Str}(h:okN x=true):(x==("__debug__":Str))=false/\(x==("__classdict__":Str))=false/\x≠"__name__":=by
 unfold okN at h;simp! [zza,Bool.not_eq_true',beq_eq_false_iff_ne] at h;exact⟨beq_eq_false_iff_ne.mpr h.1.1,beq_eq_false_iff_ne.mpr h.1.2,h.2⟩
abbrev GE(X:Cx)(W:Wd)(F:aM)(e:E)(p:Expr):Prop:=PE X p (tE X W F e)
abbrev GT(X:Cx)(W:Wd)(F:aM)(e:E)(p:Expr):Prop:=PT X p (tT X W F e)
abbrev GW(X:Cx)(W:Wd)(F:aM)(e:E)(p:Expr):Prop:=PW X p (tT X W F e)
def _root_.L2.PE.imp{p:Expr}{t t':TE}(h:PE X p t)(i:∀σ H Q,t' σ H Q->t σ H Q):PE X p t':=λaa s σ H Q I hw=>h aa s σ H Q I (i σ H Q hw)
def _root_.L2.PT.imp{p:Expr}{t t':TT}(h:PT X p t)(i:∀σ H Q,t' σ H Q->t σ H Q):PT X p t':=λaa s σ H Q I hw=>h aa s σ H Q I (i σ H Q hw)
def _root_.L2.PW.imp{p:Expr}{t t':TT}(h:PW X p t)(i:∀σ H Q,t' σ H Q->t σ H Q):PW X p t':=λw aa s σ H Q I hw=>h w aa s σ H Q I (i σ H Q hw)
def _root_.L2.PA.imp{p:List Expr}{t t':TA}(h:PA X p t)(i:∀σ H Q,t' σ H Q->t σ H Q):PA X p t':=λpos aa s σ H Q I hw=>h pos aa s σ H Q I (i σ H Q hw)
def DV{e:E}(σ:St)(H:Hp)(Q:Bool->Hp->Prop)(h:tT X W F e σ H Q):tB (tE X W F e) σ H Q:=by
 obtain⟨H0,G,env,sr,o⟩:=h
 refine⟨H0,G,env,sr,o.imp λp hp v G' H' g t=>?_⟩
 obtain⟨b,rfl,q⟩:=hp
 exact⟨b,t.top.bl,q G' H' g⟩
def qa{e:E}(σ:St)(H:Hp)(Q:Bool->Hp->Prop)(h:tT X W F e σ H Q):xk (tE X W F e) σ H Q:=DV σ H Q h
def Ed(C:dR Γ F W N sc k X){i:Nat}{x:Str}{pos:Pos}(h:(N[i]?==some x&&eX sc x&&okN x)=true):GE X W F (.var i) (.Name x pos):=by
 simp! [zza,zzy] at h;obtain⟨h1,h2,h3⟩:=fJ h.2
 refine(km (i:=i) (by rw [C.hN];exact h.1.1) (nC C h.1.2) h1 h2).imp λσ H Q hq=>?_
 obtain⟨H0,G,env,sr,o⟩:=hq
 cases e:env[i]? with
 |none=>unfold aC at o;rw [e] at o;exact o.elim
 |some sl=>
  cases sl with
  |no=>unfold aC at o;rw [e] at o;exact o.elim
  |fn _ _ _=>unfold aC at o;rw [e] at o;exact o.elim
  |own p=>unfold aC at o;rw [e] at o;exact o.elim
  |val p=>
   unfold aC at o;rw [e] at o;obtain⟨o2,hs,v,rfl,r⟩:=sr.slot i _ e
   exact⟨v,hs,o v G H (.refl sr.sub) (.of r)⟩
def Hb(C:dR Γ F W N sc k X){i:Nat}{x:Str}{pos:Pos}(h:(N[i]?==some x&&eX sc x&&okN x)=true):GE X W F (.f9 i) (.Name x pos):=by
 simp! [zza,zzy] at h;obtain⟨h1,h2,h3⟩:=fJ h.2
 refine(km (i:=i) (by rw [C.hN];exact h.1.1) (nC C h.1.2) h1 h2).imp λσ H Q hq=>?_
 obtain⟨H0,G,env,sr,o⟩:=hq
 cases e:env[i]? with
 |none=>unfold aC at o;rw [e] at o;exact o.elim
 |some sl=>
  cases sl with
  |no=>unfold aC at o;rw [e] at o;exact o.elim
  |fn _ _ _=>unfold aC at o;rw [e] at o;exact o.elim
  |own p=>
   unfold aC at o;rw [e] at o;obtain⟨o2,hs,v,rfl,r⟩:=sr.slot i _ e
   exact⟨v,hs,o v G H (.refl sr.sub) ⟨.inr r,λz=>nomatch z⟩⟩
  |val p=>
   unfold aC at o;rw [e] at o;obtain⟨o2,hs,v,rfl,r⟩:=sr.slot i _ e
   exact⟨v,hs,o v G H (.refl sr.sub) (.of r)⟩
def ib{p:PV}{v:V}{e:Expr}(h:PE X e (tC v))(r:∀G,Rep W G p v):GE X W F (.cst p) e:=by
 refine L2.PE.imp h λσ H Q hq=>?_
 obtain⟨H0,G,env,sr,o⟩:=hq
 exact o v G H (.refl sr.sub) (.of (r G))
def C7(C:dR Γ F W N sc k X){g x:Str}{p:PV}{pos:Pos}(h:(g==x&&ff sc x&&okN x&&Γ.gs.any λq=>q.1==g&&ui q.2 p)=true):GE X W F (.glob g p) (.Name x pos):=by
 simp! [zza,zzy,zzj] at h;obtain⟨⟨⟨rfl,h2⟩,h3⟩,q,hq,e1,e2⟩:=h
 obtain⟨u,v,hm,rv,hr⟩:=C.gs q hq
 rw [e1] at hm;cases wt e2;refine(Bp (dE C h2) hm rv (fJ h3).1).imp λσ H Q hq=>?_
 obtain⟨H0,G,env,sr,o⟩:=hq
 exact o v G H (.refl sr.sub) (.of (hr G))
def Res.aK{α:Type}{o:Option α}(c:Str):Res.of o≠.exc c:=by cases o<;>exact λz=>nomatch z
def jW{α β:Type}{o:Option α}{f:α->Res β}{c:Str}(h:∀a,f a≠.exc c):(Res.of o).bind f≠.exc c:=by
 cases o with
 |none=>exact λz=>nomatch z
 |some a=>exact h a
def lH{o:HU}{p q:PV}(c:Str):binOp o p q≠.exc c:=by
 unfold binOp
 repeat' split
 all_goals exact λz=>nomatch z
def Cj{p q:PV}(c:Str):fk p q≠.exc c:=by
 unfold fk
 (repeat' first|split|refine jW λ_=>?_|exact Res.aK c|exact(λz=>nomatch z))
def CB{p q:PV}(c:Str):fC p q≠.exc c:=by
 unfold fC
 (repeat' first|split|refine jW λ_=>?_|exact Res.aK c|exact(λz=>nomatch z))
def Co{p q:PV}(c:Str):qz p q≠.exc c:=by
 unfold qz
 (repeat' first|split|refine jW λ_=>?_|exact Res.aK c|exact(λz=>nomatch z))
def Ct{p q:PV}(c:Str):qI p q≠.exc c:=by
 unfold qI
 (repeat' first|split|refine jW λ_=>?_|exact Res.aK c|exact(λz=>nomatch z))
def BU{p q:PV}(c:Str):rY p q≠.exc c:=by
 unfold rY
 (repeat' first|split|refine jW λ_=>?_|exact Res.aK c|exact(λz=>nomatch z))
def CP{p q:PV}(c:Str):pG p q≠.exc c:=by
 unfold pG
 (repeat' first|split|refine jW λ_=>?_|exact Res.aK c|exact(λz=>nomatch z))
def AF{p q:PV}(c:Str):i7 p q≠.exc c:=by
 unfold i7
 (repeat' first|split|refine jW λ_=>?_|exact Res.aK c|exact(λz=>nomatch z))
def yI{p q:PV}(c:Str):eE p q≠.exc c:=by
 unfold eE
 (repeat' first|split|refine jW λ_=>?_|exact Res.aK c|exact(λz=>nomatch z))
def Ai{p q:PV}(c:Str):rF p q≠.exc c:=by
 unfold rF
 (repeat' first|split|refine jW λ_=>?_|exact Res.aK c|exact(λz=>nomatch z))
def wW{p q:PV}(c:Str):gb p q≠.exc c:=by
 unfold gb
 (repeat' first|split|refine jW λ_=>?_|exact Res.aK c|exact(λz=>nomatch z))
def du{o:xg}{p q:PV}(c:Str):dc o p q≠.exc c:=match o with
 |.eq=>Cj c|.ne=>CB c|.lt=>Co c|.le=>Ct c|.gt=>BU c|.ge=>CP c|.is=>AF c|.oB=>yI c|.zy=>Ai c|.qH=>wW c
def two{op:PV->PV->Res PV}{ea eb:E}{e:E}{σ:St}{H:Hp}{Q:VK}(hn:∀p q c,op p q≠.exc c)(he:∀env,aC F e env=(aC F ea env).bind λx=>(aC F eb env).bind λy=>op x y)
 (h:tE X W F e σ H Q):Jg (qP W op) (tE X W F ea) (tE X W F eb) σ H Q:=by
 obtain⟨H0,G,env,sr,o⟩:=h
 rw [he] at o;refine one sr o λp v G1 H1 g1 t1 bq o1=>one bq o1 λq u G2 H2 g2 t2 fZ o2=>?_
 obtain⟨r,hr,kr⟩:=o2.val (hn p q)
 exact⟨H0,G2,p,q,r,fZ.sub,t1.top.grow g2,t2.top,hr,λw G' H' g' ix=>kr w G' H' ((g1.trans g2).trans g') (.of ix)⟩
def G9(C:dR Γ F W N sc k X){o:HU}{a b:E}{pa pb:Expr}{pos:Pos}(ha:GE X W F a pa)(hb:GE X W F b pb):GE X W F (.bin o a b) (.BinOp pa (NV o) pb pos):=
 (IY (Et C.K o) ha hb).imp λσ H Q h=>two (λp q c=>lH c) (λenv=>by rw [aC]) h
def GQ(C:dR Γ F W N sc k X){o:xg}{a b:E}{pa pb:Expr}{pos:Pos}(ha:GE X W F a pa)(hb:GE X W F b pb)(hm:behindInMarks (pj o) pb=false):GE X W F (.cmp o a b) (.Compare pa [pj o] [pb] pos):=
 (AN (fO C.K C.room.units o) ha hb hm).imp λσ H Q h=>two (λp q c=>du c) (λenv=>by rw [aC]) h
theorem GP(C:dR Γ F W N sc k X){o:xg}{a b:E}{pa pb:Expr}{pos:Pos}(ha:GE X W F a pa)(hb:GE X W F b pb)(hm:behindInMarks (pj o) pb=false):GT X W F (.cmp o a b) (.Compare pa [pj o] [pb] pos):=
 (Br (fO C.K C.room.units o) ha hb hm).imp λσ H Q h=>by
  have h2:=qa σ H Q h
  exact two (λp q c=>du c) (λenv=>by rw [aC]) h2
def D3{c1 c2:xg}{a b c:E}(σ:St)(H:Hp)(Q:VK)(h:tE X W F (.ch c1 c2 a b c) σ H Q):rG (qP W (dc c1)) (qP W (dc c2)) (tE X W F a) (tE X W F b) (tE X W F c) σ H Q:=by
 obtain⟨H0,G,env,sr,o⟩:=h
 rw [aC] at o;refine one sr o λp v G1 H1 g1 t1 bq o1=>one bq o1 λq u G2 H2 g2 t2 fZ o2=>?_
 obtain⟨r,hr,kr⟩:=o2.bind.val (du)
 refine⟨H0,G2,p,q,r,fZ.sub,t1.top.grow g2,t2.top,hr,λw G3 H3 g3 ix=>?_⟩
 cases r with
 |bl t=>
  simp! [Rep] at ix;subst ix;refine⟨t,rfl,?_⟩;cases t with
  |false=>
   rw [if_neg zzf];have MF:Out X W (Res.ok (PV.bl false)) σ G2 H2 _:=kr
   exact MF _ G3 H3 ((g1.trans g2).trans g3) (.of .b)
  |true=>
   rw [if_pos rfl];have MF:Out X W ((aC F c env).bind λz=>dc c2 q z) σ G2 H2 _:=kr
   refine one (fZ.grow g3) (MF.grow g3) λz y G4 H4 g4 t4 Ea o4=>?_
   obtain⟨r4,hr4,kr4⟩:=o4.val (du)
   exact⟨H0,G4,q,z,r4,Ea.sub,t2.top.grow (g3.trans g4),t4.top,hr4,λw G5 H5 g5 QI=>kr4 w G5 H5 ((((g1.trans g2).trans g3).trans g4).trans g5) (.of QI)⟩
 |aA=>exact zzk kr
 |int _=>exact zzk kr
 |str _=>exact zzk kr
 |tup _=>exact zzk kr
 |lst _=>exact zzk kr
 |exc _=>exact zzk kr
 |bw _ _=>exact zzk kr
def JM(C:dR Γ F W N sc k X){o1 o2:xg}{a b c:E}{pa pb pc:Expr}{pos:Pos}(ha:GE X W F a pa)(hb:GE X W F b pb)(hc:GE X W F c pc)(hm:lastMarks [pj o1,pj o2] [pb,pc]=false):GE X W F (.ch o1 o2 a b c) (.Compare pa [pj o1,pj o2] [pb,pc] pos):=
 (xW (fO C.K C.room.units o1) (fO C.K C.room.units o2) ha hb hc hm).imp D3
def Ji(C:dR Γ F W N sc k X){o1 o2:xg}{a b c:E}{pa pb pc:Expr}{pos:Pos}(ha:GE X W F a pa)(hb:GE X W F b pb)(hc:GE X W F c pc)(hm:lastMarks [pj o1,pj o2] [pb,pc]=false):GT X W F (.ch o1 o2 a b c) (.Compare pa [pj o1,pj o2] [pb,pc] pos):=
 (yB (fO C.K C.room.units o1) (fO C.K C.room.units o2) ha hb hc hm).imp λσ H Q h=>D3 σ H _ (qa σ H Q h)
theorem En{a:E}{pa:Expr}{pos:Pos}(ha:GE X W F a pa):GE X W F (.neg a) (.UnaryOp .USub pa pos):=
 (IM (Bq (W:=W)) ha).imp λσ H Q h=>by
  obtain⟨H0,G,env,sr,o⟩:=h
  rw [aC] at o;refine one sr o λp v G1 H1 g1 t1 bq o1=>?_
  cases p with
  |int i=>exact⟨H0,G1,i,bq.sub,t1.top,λw G' H' g' ix=>o1 w G' H' (g1.trans g') (.of ix)⟩
  |bl _=>exact zzk o1
  |aA=>exact zzk o1
  |str _=>exact zzk o1
  |tup _=>exact zzk o1
  |lst _=>exact zzk o1
  |exc _=>exact zzk o1
  |bw _ _=>exact zzk o1
theorem EB{a:E}{pa:Expr}{pos:Pos}(ha:GE X W F a pa):GE X W F (.not a) (.UnaryOp .Not pa pos):=
 (Hk ha).imp λσ H Q h=>by
  obtain⟨H0,G,env,sr,o⟩:=h
  rw [aC] at o;refine one sr o λp v G1 H1 g1 t1 bq o1=>?_
  cases p with
  |bl b=>exact⟨b,t1.top.bl,o1 _ G1 H1 g1 (.of .b)⟩
  |int _=>exact zzk o1
  |aA=>exact zzk o1
  |str _=>exact zzk o1
  |tup _=>exact zzk o1
  |lst _=>exact zzk o1
  |exc _=>exact zzk o1
  |bw _ _=>exact zzk o1
theorem Gh{a:E}{pa:Expr}{pos:Pos}(ha:GT X W F a pa):GT X W F (.not a) (.UnaryOp .Not pa pos):=
 (HD ha).imp λσ H Q h=>by
  obtain⟨H0,G,env,sr,o⟩:=h
  rw [aC] at o;refine Ae sr o λb G1 H1 g1 bq o1=>?_
  obtain⟨b',e,q⟩:=o1
  cases e;exact q G1 H1 g1
theorem wO{a b:E}{pa pb:Expr}{r:List Expr}{pos:Pos}(he:fQ b=true)(ha:GE X W F a pa)(hb:GE X W F b (.BoolOp .And (pb::r) pos)):GE X W F (.and a b) (.BoolOp .And (pa::pb::r) pos):=
 (EY ha hb).imp λσ H Q h=>by
  obtain⟨H0,G,env,sr,o⟩:=h
  rw [aC] at o;refine one sr o λp v G1 H1 g1 t1 bq o1=>?_
  cases p with
  |bl t=>
   refine⟨t,t1.top.bl,?_⟩;cases t with
   |true=>
    rw [if_pos rfl];have rj:Out X W (aC F b env) σ G1 H1 _:=o1
    exact⟨H0,G1,env,bq,rj.imp λp hp v G' H' g' t'=>hp v G' H' (g1.trans g') (.of (t'.rep he))⟩
   |false=>
    rw [if_neg zzf];have rj:Out X W (Res.ok (PV.bl false)) σ G1 H1 _:=o1
    exact rj _ G1 H1 g1 (.of .b)
  |int _=>exact zzk o1
  |aA=>exact zzk o1
  |str _=>exact zzk o1
  |tup _=>exact zzk o1
  |lst _=>exact zzk o1
  |exc _=>exact zzk o1
  |bw _ _=>exact zzk o1
theorem Ds{a b:E}{pa pb:Expr}{r:List Expr}{pos:Pos}(he:fQ b=true)(ha:GE X W F a pa)(hb:GE X W F b (.BoolOp .Or (pb::r) pos)):GE X W F (.or a b) (.BoolOp .Or (pa::pb::r) pos):=
 (Km ha hb).imp λσ H Q h=>by
  obtain⟨H0,G,env,sr,o⟩:=h
  rw [aC] at o;refine one sr o λp v G1 H1 g1 t1 bq o1=>?_
  cases p with
  |bl t=>
   refine⟨t,t1.top.bl,?_⟩;cases t with
   |false=>
    rw [if_neg zzf];have rj:Out X W (aC F b env) σ G1 H1 _:=o1
    exact⟨H0,G1,env,bq,rj.imp λp hp v G' H' g' t'=>hp v G' H' (g1.trans g') (.of (t'.rep he))⟩
   |true=>
    rw [if_pos rfl];have rj:Out X W (Res.ok (PV.bl true)) σ G1 H1 _:=o1
    exact rj _ G1 H1 g1 (.of .b)
  |int _=>exact zzk o1
  |aA=>exact zzk o1
  |str _=>exact zzk o1
  |tup _=>exact zzk o1
  |lst _=>exact zzk o1
  |exc _=>exact zzk o1
  |bw _ _=>exact zzk o1
theorem zo{a b:E}{pa pb:Expr}{r:List Expr}{pos:Pos}(ha:GT X W F a pa)(hb:GW X W F b (.BoolOp .And (pb::r) pos)):GW X W F (.and a b) (.BoolOp .And (pa::pb::r) pos):=
 (pw_and ha hb).imp λσ H Q h=>by
  obtain⟨H0,G,env,sr,o⟩:=h
  rw [aC] at o;refine Ae sr o λt G1 H1 g1 bq o1=>?_
  cases t with
  |true=>
   rw [if_pos rfl];have rj:Out X W (aC F b env) σ G1 H1 _:=o1
   exact⟨H0,G1,env,bq,rj.imp λp hp=>by obtain⟨c,rfl,q⟩:=hp;exact⟨c,rfl,λG' H' g'=>q G' H' (g1.trans g')⟩⟩
  |false=>
   rw [if_neg zzf];obtain⟨c,e,q⟩:=(show Out X W (Res.ok (PV.bl false)) σ G1 H1 _ from o1)
   cases e;exact q G1 H1 g1
theorem DW{a b:E}{pa pb:Expr}{r:List Expr}{pos:Pos}(ha:GT X W F a pa)(hb:GW X W F b (.BoolOp .Or (pb::r) pos)):GW X W F (.or a b) (.BoolOp .Or (pa::pb::r) pos):=
 (pw_or ha hb).imp λσ H Q h=>by
  obtain⟨H0,G,env,sr,o⟩:=h
  rw [aC] at o;refine Ae sr o λt G1 H1 g1 bq o1=>?_
  cases t with
  |false=>
   rw [if_neg zzf];have rj:Out X W (aC F b env) σ G1 H1 _:=o1
   exact⟨H0,G1,env,bq,rj.imp λp hp=>by obtain⟨c,rfl,q⟩:=hp;exact⟨c,rfl,λG' H' g'=>q G' H' (g1.trans g')⟩⟩
  |true=>
   rw [if_pos rfl];obtain⟨c,e,q⟩:=(show Out X W (Res.ok (PV.bl true)) σ G1 H1 _ from o1)
   cases e;exact q G1 H1 g1
theorem Hh{c a b:E}{pc pa pb:Expr}{pos:Pos}(Rp:fQ a=true)(QN:fQ b=true)(hc:GT X W F c pc)(ha:GE X W F a pa)(hb:GE X W F b pb):GE X W F (.ite c a b) (.IfExp pc pa pb pos):=
 (wX hc ha hb).imp λσ H Q h=>by
  obtain⟨H0,G,env,sr,o⟩:=h
  rw [aC] at o;refine Ae sr o λt G1 H1 g1 bq o1=>?_
  cases t with
  |true=>
   rw [if_pos rfl];have rj:Out X W (aC F a env) σ G1 H1 _:=o1
   exact⟨H0,G1,env,bq,rj.imp λp hp v G' H' g' t'=>hp v G' H' (g1.trans g') (.of (t'.rep Rp))⟩
  |false=>
   rw [if_neg zzf];have rj:Out X W (aC F b env) σ G1 H1 _:=o1
   exact⟨H0,G1,env,bq,rj.imp λp hp v G' H' g' t'=>hp v G' H' (g1.trans g') (.of (t'.rep QN))⟩
noncomputable def tF(X:Cx)(W:Wd)(F:aM)(e:E):TE:=λσ H Q=>∃H0 G env,SR W H0 env σ G H/\Out X W (aC F e env) σ G H λp=>∃xs,p=.lst xs/\∀a vs G' H',aH W G H G' H'->H' a=none->ah W G' xs vs->Q (.ref a) (upd H' a (.lst vs))
abbrev GF(X:Cx)(W:Wd)(F:aM)(e:E)(p:Expr):Prop:=PE X p (tF X W F e)
theorem GF.ge{e:E}{p:Expr}(h:GF X W F e p)(hl:∀env q,aC F e env=.ok q->∃xs,q=.lst xs):GE X W F e p:=
 L2.PE.imp h λσ H Q hq=>by
  obtain⟨H0,G,env,sr,o⟩:=hq
  refine⟨H0,G,env,sr,?_⟩;cases r:aC F e env with
  |bad=>rw [r] at o;exact o
  |exc c=>rw [r] at o;exact o
  |ok q=>
   rw [r] at o;obtain⟨xs,rfl⟩:=hl env q r
   exact⟨xs,rfl,λa vs G' H' g ha l=>o _ _ _ (g.trans (.new g.sub ha)) (.of (.l (.inl (.inl au)) (ah.same (bf (g.sub.free ha)) xs l)))⟩
def notStar{e:E}{p:Expr}(h:aS Γ N sc e p=true):∀env ps,starEach (p::ps) env=(false,eval p env)::starEach ps env:=by
 intro env ps;cases p<;>first|rfl|(cases e<;>first|(exact bB h)|(rename_i q;cases q<;>exact bB h))
theorem dH:∀{es:Es} {ps:List Expr},gr Γ N sc es ps=true->∀env pos,(backTo pos (starEach ps env)).any (·.1)=false
 |.nil,[],_,_,_=>rfl
 |.cons e es,p::ps,h,env,pos=>by
  replace h:=ax h
  rw [notStar h.1];show(false||(backTo pos (starEach ps env)).any (·.1))=false
  rw [dH h.2]
  rfl
 |.nil,_::_,h,_,_=>bB h
 |.cons _ _,[],h,_,_=>bB h
abbrev GA(X:Cx)(W:Wd)(F:aM)(es:Es)(ps:List Expr):Prop:=PA X ps (tA X W F es)
theorem FC:GA X W F .nil []:=L2.PA.imp c7 λσ H Q h=>by
 obtain⟨H0,G,env,sr,o⟩:=h
 rw [c8] at o;exact o [] G H (.refl sr.sub) ⟨.nil,λ_=>.nil⟩
theorem BQ{e:E}{es:Es}{p:Expr}{ps:List Expr}(he:GE X W F e p)(hs:GA X W F es ps)(cJ:starEach (p::ps) X.env=(false,eval p X.env)::starEach ps X.env):GA X W F (.cons e es) (p::ps):=
 L2.PA.imp (bO he hs cJ) λσ H Q h=>by
  obtain⟨H0,G,env,sr,o⟩:=h
  rw [c8] at o;refine one sr o λq v G1 H1 g1 t1 bq o1=>args bq o1 λqs vs G2 H2 g2 t2 fZ o2=>?_
  refine o2 (v::vs) G2 H2 (g1.trans g2) ⟨.cons (t1.top.grow g2) t2.top,λz=>?_⟩
  unfold jV at z;rw [zza] at z;exact .cons (Rep.same g2.g q (t1.rep z.1)) (t2.rep z.2)
theorem ij:∀{es:Es} {env:Sl} {ps:List PV},c8 F es env=.ok ps->ps.length=gn es
 |.nil,env,ps,h=>by rw [c8] at h;cases h;rfl
 |.cons e es,env,ps,h=>by
  rw [c8] at h;obtain⟨p,_,h⟩:=Res.aU h
  obtain⟨qs,hq,h⟩:=Res.aU h
  cases h;rw [zzL,ij hq]
  rfl
theorem Ht{es:Es}{ps:List Expr}{x1:Nat}{pos:Pos}(AS:jV es=true)(hl:gn es<1000)(h:GA X W F es ps):GE X W F (.tup es) (.Tuple ps x1 pos):=
 L2.PE.imp (Hj h) λσ H Q hq=>by
  obtain⟨H0,G,env,sr,o⟩:=hq
  rw [aC] at o;have o':=o
  refine⟨H0,G,env,sr,?_⟩;cases r:c8 F es env with
  |bad=>rw [r] at o;exact o
  |exc c=>rw [r] at o;exact o
  |ok qs=>
   rw [r] at o;have hlen:=ij r
   intro vs G1 H1 g1 t;have l:=t.rep AS
   refine⟨by rw [l.length,hlen];exact Nat.le_of_lt (Nat.lt_trans hl (by decide)),λp hp=>?_⟩
   exact o _ _ _ (g1.trans (.new g1.sub hp)) (.of (.t (.inl au) (ah.same (bf (g1.sub.free hp)) qs l)))
theorem yP{es:Es}{ps:List Expr}{pos:Pos}(AS:jV es=true)(hl:gn es<1000)(h:GA X W F es ps):GF X W F (.lst es) (.List ps pos):=
 L2.PE.imp (FV h) λσ H Q hq=>by
  obtain⟨H0,G,env,sr,o⟩:=hq
  rw [aC] at o;refine⟨H0,G,env,sr,?_⟩;cases r:c8 F es env with
  |bad=>rw [r] at o;exact o
  |exc c=>rw [r] at o;exact o
  |ok qs=>
   rw [r] at o;have hlen:=ij r
   obtain⟨xs,e,o⟩:=o
   cases e;intro vs G1 H1 g1 t;have l:=t.rep AS
   exact⟨by rw [l.length,hlen];exact Nat.le_of_lt (Nat.lt_trans hl (by decide)),λp hp=>o p vs G1 H1 g1 hp l⟩
theorem lst_is{es:Es}:∀env q,aC F (.lst es) env=.ok q->∃xs,q=.lst xs:=λenv q h=>by
 rw [aC] at h;obtain⟨ps,_,h⟩:=Res.aU h
 cases h;exact⟨_,rfl⟩
def vj{p q:PV}(c:Str):aF p q≠.exc c:=by
 unfold aF
 (repeat' first|split|refine jW λ_=>?_|exact Res.aK c|exact(λz=>nomatch z))
def Fo(C:dR Γ F W N sc k X){a b:E}{pa pb:Expr}{pos:Pos}(ha:GE X W F a pa)(hb:GE X W F b pb)(hs:oS pb):GE X W F (.sub a b) (.Subscript pa pb pos):=
 (Jd (Ng C.K C.room.units) ha hb hs).imp λσ H Q h=>two (λp q c=>vj c) (λenv=>by rw [aC]) h
def ym{e:E}{p:Expr}(h:aS Γ N sc e p=true):oS p:=by
 intro o i;cases p<;>first|rfl|(cases e<;>first|(exact bB h)|(rename_i q;cases q<;>exact bB h))
def nW{e:E}{p:Expr}(h:aS Γ N sc e p=true)(op:CmpOp):behindInMarks op p=false:=by
 cases p<;>first|rfl|(cases e<;>first|(exact bB h)|(rename_i q;cases q<;>exact bB h))
theorem Bv:PO X none (wD X W F .no):=λaa s σ H Q I h=>Aw aa s σ H Q I (by
 obtain⟨H0,G,env,sr,o⟩:=h
 rw [ua] at o;exact o G H (.refl sr.sub))
theorem AY{e:E}{p:Expr}(h:GE X W F e p):PO X (some p) (wD X W F (.some e)):=λaa s σ H Q I hq=>AH h aa s σ H Q I (by
 obtain⟨H0,G,env,sr,o⟩:=hq
 rw [ua] at o;refine one sr o λq v G1 H1 g1 t1 bq o1=>?_
 cases q with
 |int i=>exact⟨i,t1.top.int,o1 G1 H1 g1⟩
 |bl _=>exact zzk o1
 |aA=>exact zzk o1
 |str _=>exact zzk o1
 |tup _=>exact zzk o1
 |lst _=>exact zzk o1
 |exc _=>exact zzk o1
 |bw _ _=>exact zzk o1)
def qu{p:PV}{lo hi:Option Int}(c:Str):dZ p lo hi≠.exc c:=by
 unfold dZ
 (repeat' first|split|refine jW λ_=>?_|exact Res.aK c|exact(λz=>nomatch z))
theorem x5(C:dR Γ F W N sc k X){a:E}{lo hi:Oe}{pa:Expr}{pl ph:Option Expr}{p2 pos:Pos}(ha:GE X W F a pa)(hl:PO X pl (wD X W F lo))(hh:PO X ph (wD X W F hi)):GE X W F (.slice a lo hi) (.Subscript pa (.Slice pl ph none p2) pos):=
 (wL (Np C.K) ha hl hh).imp λσ H Q h=>by
  obtain⟨H0,G,env,sr,o⟩:=h
  rw [aC] at o;refine one sr o λp v G1 H1 g1 t1 bq o1=>?_
  refine⟨H0,G1,env,bq,o1.bind.imp λl qQ G2 H2 g2=>?_⟩
  refine⟨H0,G2,env,bq.grow g2,(qQ.grow g2).bind.imp λh' QF G3 H3 g3=>?_⟩
  obtain⟨r,hr,kr⟩:=(QF.grow g3).val (λc=>qu c)
  exact⟨H0,G3,p,r,((bq.grow g2).grow g3).sub,t1.top.grow (g2.trans g3),hr,λw G' H' g' ix=>kr w G' H' (((g1.trans g2).trans g3).trans g') (.of ix)⟩
def Cf{CX:v5}{f:Addr}{fd:FuncData}{ps:List Str}{sp:Sp}{E:XK}{aa:List (Addr×Obj)}{σ:St}{H:Hp}{s:Shared}{Q:VK}{us:List Value}{vs:List V}(FO:fX X.prog X.w X.K X.mg X.base CX k f fd ps sp)(hr:eC k X.A)(hb:Binds X.K fd ps [])
 (hx:∀e s',CX X.stack H s E e s'->X.xe e s') (I:Inv X aa σ H s) (r:Vals vs us) (h:sp vs H Q E):wpAny (model X.prog X.w) X.A (call (.ref f) us) (EP X aa σ Q) X.xe s:=by
 have hl:us.length=ps.length:=by rw [<-r.length];exact FO.len _ _ _ _ h
 have hb':=hb s us I.sE (by rw [zz6];exact hl)
 rw [zz6] at hb';refine wpAny_call (codeAny_mono (FO.run X.A X.stack s H ⟨us,[]⟩ us vs Q E hr I.FX hb' r h) λr s' hq=>?_)
 cases r with
 |error e=>exact hx e s' hq
 |ok fl=>
  cases fl with
  |ret u=>exact I.after hq
  |next=>exact zzk hq
  |brk=>exact zzk hq
  |cont=>exact zzk hq
def H8.imp{P:Program}{w:World}{outer:List Env}{H:Hp}{s s':Shared}{E E':XK}{e:Value}(h:gk P w outer H s E e s')(i:∀C a H',E C a H'->E' C a H'):gk P w outer H s E' e s':=by
 obtain⟨a,C,t,vs,H',B,rfl,F⟩:=h
 exact⟨a,C,t,vs,H',B,rfl,⟨F.os,F.bare,F.bz,F.KY,F.tn,F.tup,F.iY,F.fK,F.un,i _ _ _ F.ends⟩⟩
def ke(hr:eC k X.A){f:Str}{fa:Addr}{fd:FuncData}{pn:List Str}{q:Option (Str×List Nat)}{aa:List (Addr×Obj)}{σ:St}{G H:Hp}{s:Shared}{Q:VK}{us:List Value}{vs:List V}{as:List PV}
 (FO:fX X.prog X.w X.K X.mg X.base (gk X.prog X.w) k fa fd pn (wy W F f pn.length q)) (hb:Binds X.K fd pn []) (hlen:F f as≠.bad->vs.length=pn.length)
 (I:Inv X aa σ H s) (sg:ay G H) (tb:cS W G H) (l:yV W G q as vs) (r:Vals vs us) (o:Out X W (F f as) σ G H λp=>dD W G H p Q):wpAny (model X.prog X.w) X.A (call (.ref fa) us) (EP X aa σ Q) X.xe s:=by
 have L7:F f as≠.bad:=λz=>by rw [z] at o;exact o
 refine Cf (E:=λCv ao H'=>∃c,F f as=.exc c/\XE W c G H Cv ao H') FO hr hb (λe s' x=>?_) I r ⟨hlen L7,G,as,sg,tb,l,?_⟩
 ·cases z:F f as with
  |ok q=>
   obtain⟨a,C',t,vs,H',B,rfl,Fl⟩:=x
   obtain⟨c,e1,_⟩:=Fl.ends
   rw [z] at e1;cases e1
  |exc c=>
   rw [z] at o;refine o aa G H s e s' I (.refl sg) (H8.imp x λC1 a H' y=>?_);obtain⟨c',e1,y⟩:=y
   rw [z] at e1;cases e1;exact y
  |bad=>exact absurd z L7
 ·cases z:F f as with
  |ok q=>
   rw [z] at o;exact λv G' H' g' rp=>o v G' H' g' rp
  |exc c=>exact λCv ao H' x=>⟨c,rfl,x⟩
  |bad=>exact absurd z L7
def dR.rm(C:dR Γ F W N sc k X):eC k X.A:=C.room.mono (Nat.le_succ k)
def Cb(C:dR Γ F W N sc k X){f:Str}{e:E}{es:Es}{p:Expr}{ps:List Expr}{np pos:Pos}(hf:Γ.fs.contains f=true)(hg:ff sc f=true)(ho:okN f=true)(AS:jV (.cons e es)=true)(ha:GA X W F (.cons e es) (p::ps))
 (cJ:starEach (p::ps) X.env=(false,eval p X.env)::starEach ps X.env) (hpl:(backTo pos (starEach ps X.env)).any (·.1)=false):GE X W F (.call f (.cons e es)) (.Call (.Name f np) (p::ps) [] pos):=by
 intro aa s σ H Q I h;obtain⟨H0,G,env,sr,o⟩:=h
 rw [aC] at o;obtain⟨fa,fd,pn,FO,hm,hk,hb,hlen⟩:=(C.fns f hf).ex
 refine wpAny_Call_Name_kw (gZ I (dE C hg) hm ?_ (fJ ho).1);refine PySem.W.callWith_K (h₀:=X.base) I.ok.mod.Lu hk (bK (ha pos aa s σ H (λvs H1=>∃G1 as,ay G1 H1/\cS W G1 H1/\ah W G1 as vs/\Out X W (F f as) σ G1 H1 λp=>dD W G1 H1 p Q) I ?_) λus s1 ⟨vs,H1,I1,r,q⟩=>⟨I1.sE,?_⟩) cJ hpl
 ·refine args sr o λas vs G1 H1 g1 t bq o1=>⟨G1,as,bq.sub,bq.tab,t.rep AS,o1.imp λp hp v G' H' g' rp=>hp v G' H' (g1.trans g') (.of rp)⟩
 ·obtain⟨G1,as,sg,tb,l,o1⟩:=q
  exact ke C.rm FO hb (λz=>by rw [l.length];exact hlen as z) I1 sg tb l r o1
def yC(C:dR Γ F W N sc k X){f:Str}{np pos:Pos}(hf:Γ.fs.contains f=true)(hg:ff sc f=true)(ho:okN f=true):GE X W F (.call f .nil) (.Call (.Name f np) [] [] pos):=by
 intro aa s σ H Q I h;obtain⟨H0,G,env,sr,o⟩:=h
 rw [aC,c8] at o;obtain⟨fa,fd,pn,FO,hm,hk,hb,hlen⟩:=(C.fns f hf).ex
 refine wpAny_Call_Name_kw (gZ I (dE C hg) hm ?_ (fJ ho).1);refine PySem.W.callWith_K0 I.sE hk ?_;have o':Out X W (F f []) σ G H λp=>∀v G' H',aH W G H G' H'->Got W H0 G' H' (.call f .nil) p v->Q v H':=o
 exact ke (us:=[]) (vs:=[]) (as:=[]) (q:=none) C.rm FO hb (λz=>hlen [] z) I sr.sub sr.tab (show ah W G [] [] from .nil) .nil (o'.imp λp hp v G' H' g' rp=>hp v G' H' g' (.of rp))
def BO{ps:List PV}(c:Str):sF ps≠.exc c:=by
 unfold sF
 (repeat' first|split|refine jW λ_=>?_|exact Res.aK c|exact(λz=>nomatch z))
def AK{ps:List PV}(c:Str):zE ps≠.exc c:=by
 unfold zE
 (repeat' first|split|refine jW λ_=>?_|exact Res.aK c|exact(λz=>nomatch z))
def BX{ps:List PV}(c:Str):xM ps≠.exc c:=by
 unfold xM
 (repeat' first|split|refine jW λ_=>?_|exact Res.aK c|exact(λz=>nomatch z))
def Bf{ps:List PV}(c:Str):wA ps≠.exc c:=by
 unfold wA
 (repeat' first|split|refine jW λ_=>?_|exact Res.aK c|exact(λz=>nomatch z))
def CU{ps:List PV}(c:Str):wK ps≠.exc c:=by
 unfold wK
 (repeat' first|split|refine jW λ_=>?_|exact Res.aK c|exact(λz=>nomatch z))
def CS{ps:List PV}(c:Str):yo ps≠.exc c:=by
 unfold yo
 (repeat' first|split|refine jW λ_=>?_|exact Res.aK c|exact(λz=>nomatch z))
def vn{ps:List PV}(c:Str):kM ps≠.exc c:=by
 unfold kM
 (repeat' first|split|refine jW λ_=>?_|exact Res.aK c|exact(λz=>nomatch z))
def Bu{ps:List PV}(c:Str):yh ps≠.exc c:=by
 unfold yh
 (repeat' first|split|refine jW λ_=>?_|exact Res.aK c|exact(λz=>nomatch z))
def xZ{ps:List PV}(c:Str):mF ps≠.exc c:=by
 unfold mF
 (repeat' first|split|refine jW λ_=>?_|exact Res.aK c|exact(λz=>nomatch z))
def yy{ps:List PV}(c:Str):pT ps≠.exc c:=by
 unfold pT
 (repeat' first|split|refine jW λ_=>?_|exact Res.aK c|exact(λz=>nomatch z))
def AM{ps:List PV}(c:Str):yA ps≠.exc c:=by
 unfold yA
 (repeat' first|split|refine jW λ_=>?_|exact Res.aK c|exact(λz=>nomatch z))
def uA{b:B}{ps:List PV}(c:Str):bJ b ps≠.exc c:=match b with
 |.len=>BO c|.abs=>AK c|.max2=>BX c|.min2=>Bf c|.int=>CU c|.str=>CS c|.tuple=>vn c|.all=>Bu c|.dict=>xZ c|.rQ=>yy c|.any=>AM c
def F1(C:dR Γ F W N sc k X)(b:B){e:Expr}{es:List Expr}{t:TA}{np pos:Pos}(hg:ff sc (bN b)=true)(hm:Γ.bs.contains (bN b)=true)(ha:PA X (e::es) t)
 (he:starEach (e::es) X.env=(false,eval e X.env)::starEach es X.env) (hpl:(backTo pos (starEach es X.env)).any (·.1)=false):PE X (.Call (.Name (bN b) np) (e::es) [] pos) (Lx (uC W (bJ b)) t):=by
 have pq:=C.bs _ (zzn.mp hm)
 have pz:=dE C hg
 cases b
 case len=>exact dy (vv C.K) pz pq PySem.boot_len ha (he:=he) (hpl:=hpl)
 case abs=>exact dy ve pz pq (by decide+kernel) ha (he:=he) (hpl:=hpl)
 case max2=>exact dy (uP C.calm) pz pq (by decide+kernel) ha (he:=he) (hpl:=hpl)
 case min2=>exact dy (uR C.calm) pz pq (by decide+kernel) ha (he:=he) (hpl:=hpl)
 case int=>exact eL uJ pz pq (by decide+kernel) ha (he:=he) (hpl:=hpl)
 case str=>exact eL uX pz pq (by decide+kernel) ha (he:=he) (hpl:=hpl)
 case tuple=>exact eL (qt C.K) pz pq (by decide+kernel) ha (he:=he) (hpl:=hpl)
 case all=>exact dy (uZ C.calm C.K) pz pq (by decide+kernel) ha (he:=he) (hpl:=hpl)
 case any=>exact dy (uF C.calm C.K) pz pq (by decide+kernel) ha (he:=he) (hpl:=hpl)
 case dict=>exact eL (pZ C.K C.calm C.room.units) pz pq (by decide+kernel) ha (he:=he) (hpl:=hpl)
 case rQ=>exact dy (q0 C.K C.calm) pz pq (by decide+kernel) ha (he:=he) (hpl:=hpl)
def F7{op:List PV->Res PV}{es:Es}{e:E}{σ:St}{H:Hp}{Q:VK}(hn:∀ps c,op ps≠.exc c)(he:∀env,aC F e env=(c8 F es env).bind λps=>op ps)(h:tE X W F e σ H Q):Lx (uC W op) (tA X W F es) σ H Q:=by
 obtain⟨H0,G,env,sr,o⟩:=h
 rw [he] at o;refine args sr o λps vs G1 H1 g1 t bq o1=>?_
 obtain⟨r,hr,kr⟩:=o1.val (hn ps)
 exact⟨H0,G1,ps,r,bq.sub,t.top,hr,λw G' H' g' ix=>kr w G' H' (g1.trans g') (.of ix)⟩
def Fs(C:dR Γ F W N sc k X)(b:B){es:Es}{e:Expr}{ps:List Expr}{np pos:Pos}(hg:ff sc (bN b)=true)(hm:Γ.bs.contains (bN b)=true)(ha:GA X W F es (e::ps))
 (he:starEach (e::ps) X.env=(false,eval e X.env)::starEach ps X.env) (hpl:(backTo pos (starEach ps X.env)).any (·.1)=false):GE X W F (.blt b es) (.Call (.Name (bN b) np) (e::ps) [] pos):=
 (F1 C b hg hm ha he hpl).imp λσ H Q h=>F7 (λps c=>uA c) (λenv=>by rw [aC]) h
def x9{t:Ty}{p:PV}(c:Str):f7 t p≠.exc c:=by
 cases p<;>exact λz=>nomatch z
def E5(C:dR Γ F W N sc k X)(t:Ty){pos:Pos}(hg:ff sc (Str.ofString (rV t))=true)(hm:Γ.bs.contains (Str.ofString (rV t))=true):PE X (.Name (Str.ofString (rV t)) pos) (tC (.ty (rV t))):=by
 have pq:=C.bs _ (zzn.mp hm)
 have pz:=dE C hg
 cases t
 all_goals exact zV pz pq (u:=.type _) (by decide+kernel) rfl (by decide+kernel) (by decide+kernel)
def Jh(C:dR Γ F W N sc k X){t:Ty}{a:E}{pa:Expr}{np tp pos:Pos}(hi:ff sc "isinstance"=true)(hb:Γ.bs.contains "isinstance"=true)(hg:ff sc (Str.ofString (rV t))=true)(hm:Γ.bs.contains (Str.ofString (rV t))=true)(ha:GE X W F a pa)
 (cJ:∀env ps,starEach (pa::ps) env=(false,eval pa env)::starEach ps env):GE X W F (.ty t a) (.Call (.Name "isinstance" np) [pa,.Name (Str.ofString (rV t)) tp] [] pos):=by
 refine(dy (yF C.K t) (dE C hi) (C.bs _ (zzn.mp hb)) (by decide+kernel) (bO ha (bO (E5 C t hg hm) c7) (cJ _ _)) (he:=cJ _ _)).imp λσ H Q h=>?_
 obtain⟨H0,G,env,sr,o⟩:=h
 rw [aC] at o;refine one sr o λp v G1 H1 g1 t1 bq o1=>?_
 obtain⟨r,hr,kr⟩:=o1.val (λc=>x9 c)
 exact⟨v,H0,G1,p,r,rfl,bq.sub,t1.top,hr,λw G' H' g' ix=>kr w G' H' (g1.trans g') (.of ix)⟩
def SR.set{H0 G H:Hp}{env:Sl}{σ:St}{p:PV}{v:V}(i:Nat)(r:SR W H0 env σ G H)(h:Rep W G p v):SR W H0 (env.set i (.val p)) (σ.set i (some v)) G H where
 len:=by simpa using r.len
 sub:=r.sub
 tab:=r.tab
 md:=r.md
 base:=r.base
 slot:=λj s e=>by
  by_cases hj:i=j
  ·subst hj;have cL:i<env.length:=by
    have:=(zzH.mp e).1
    simpa using this
   rw [zzo cL] at e;cases e;exact⟨some v,zzo (by rw [<-r.len];exact cL),v,rfl,h⟩
  ·rw [zzS hj] at e;obtain⟨o,h1,h2⟩:=r.slot j s e
   exact⟨o,by rw [zzS hj];exact h1,h2⟩
 apart:=λa b q q' ad e1 e2 e3 e4=>by
  have ne:∀{c:Nat} {q:PV},(env.set i (.val p))[c]?=some (.own q)->i≠c:=λ{c q} e z=>by
   subst z;have cL:i<env.length:=by
    have:=(zzH.mp e).1
    simpa using this
   rw [zzo cL] at e;cases e
  have n1:=ne e1
  have n2:=ne e2
  rw [zzS n1] at e1 e3;rw [zzS n2] at e2 e4;exact r.apart a b q q' ad e1 e2 e3 e4
noncomputable def gT(K:zz8):Tg->TG
 |.one i=>dY i
 |.two i j=>FN K 2 (j4 (dY i) (j4 (dY j) CJ))
 |.three i j l=>FN K 3 (j4 (dY i) (j4 (dY j) (j4 (dY l) CJ)))
def rb{K:zz8}(hK:W.K=K){tg:Tg}{H0 G H:Hp}{env ag:Sl}{σ:St}{p:PV}{v:V}{Q:St->Hp->Prop}(e:Tg.put tg p env=.ok ag)(r:SR W H0 env σ G H)(h:Rep W G p v)(hq:∀σ',SR W H0 ag σ' G H->Q σ' H):gT K tg v σ H Q:=by
 unfold Tg.put at e;split at e
 ·cases e;exact hq _ (r.set _ h)
 ·cases e;simp! [Rep] at h;obtain⟨a,vs,rfl,sq,l⟩:=h
  obtain⟨v1,r1,rfl,h1,l⟩:=l.bp
  obtain⟨v2,r2,rfl,h2,l⟩:=l.bp
  simp! [ah] at l;subst l;rw [hK] at sq;exact⟨a,_,rfl,ay.tup r.sub sq.sq,rfl,_,_,rfl,_,_,rfl,rfl,hq _ ((r.set _ h1).set _ h2)⟩
 ·cases e;simp! [Rep] at h;obtain⟨a,vs,rfl,sq,l⟩:=h
  obtain⟨v1,r1,rfl,h1,l⟩:=l.bp
  obtain⟨v2,r2,rfl,h2,l⟩:=l.bp
  obtain⟨v3,r3,rfl,h3,l⟩:=l.bp
  simp! [ah] at l;subst l;rw [hK] at sq;exact⟨a,_,rfl,ay.tup r.sub sq.sq,rfl,_,_,rfl,_,_,rfl,_,_,rfl,rfl,hq _ (((r.set _ h1).set _ h2).set _ h3)⟩
 ·cases e
def xq{x:Str}(fv:X.env.scope=sc)(h:fh sc x=true):Loc X.env.scope x:=by
 rw [fv];unfold fh at h;simp! [zzt,zzy] at h;exact h
def DT{fn:Str->Bool}{i:Nat}{p:Expr}(hN:X.N=N)(nd:N.Nodup)(fv:X.env.scope=sc)(si:∀x,fn x=true->X.fn x=true)(h:Mk N sc fn i p=true):PG X p (dY i)/\∃x q,p=.Name x q:=by
 obtain⟨x,hx,h2⟩:=aj h
 obtain⟨q,rfl⟩:=eR hx
 simp! [zza,zzy,zzt] at h2;refine⟨CN (by rw [hN];exact nd) (by rw [hN];exact h2.1.1) (xq fv h2.1.2) ?_,x,q,rfl⟩;rcases h2.2 with z|z
 ·exact .inl (si x z)
 ·exact .inr (by rw [fv];exact z)
def Qy:List Nat->DA
 |[]=>CJ
 |i::is=>j4 (dY i) (Qy is)
theorem so{fn:Str->Bool}(hN:X.N=N)(nd:N.Nodup)(fv:X.env.scope=sc)(si:∀x,fn x=true->X.fn x=true):∀(is:List Nat) (es:List Expr),CZ N sc fn is es=true->Jb X es (Qy is)/\(assignEach es X.env).length=is.length/\(assignEach es X.env).findIdx? (·.1)=none
 |[],[],_=>⟨A6,rfl,rfl⟩
 |i::is,a::as,h=>by
  have h:=ax h
  obtain⟨g1,x,p,rfl⟩:=DT hN nd fv si h.1
  obtain⟨g,l,f⟩:=so hN nd fv si is as h.2
  have e:assignEach (.Name x p::as) X.env=(false,assign (.Name x p) X.env)::assignEach as X.env:=rfl
  refine⟨xJ g1 g,by rw [e,zzL,l,zzL],?_⟩;rw [e,List.findIdx?_cons,f]
  rfl
 |[],_::_,h=>bB h
 |_::_,[],h=>bB h
def ye{fn:Str->Bool}{tg:Tg}{p:Expr}(hN:X.N=N)(nd:N.Nodup)(fv:X.env.scope=sc)(hc:X.calm=true)(si:∀x,fn x=true->X.fn x=true)(h:gq N sc fn tg p=true):PG X p (gT X.K tg):=by
 cases tg with
 |one i=>exact(DT hN nd fv si h).1
 |two i j=>
  obtain⟨es,h1,h2⟩:=aj h
  obtain⟨k,q,rfl⟩:=nK h1
  obtain⟨g,l,f⟩:=so hN nd fv si _ _ h2
  exact yD hc g l f
 |three i j l=>
  obtain⟨es,h1,h2⟩:=aj h
  obtain⟨k,q,rfl⟩:=nK h1
  obtain⟨g,l,f⟩:=so hN nd fv si _ _ h2
  exact yD hc g l f
def j2(W:Wd)(J:It)(G B:Hp)(ps:List PV):Prop:=∀(i:Nat) (G' H':Hp),ay G G'->gC B H'->ay G' H'->
 (i=ps.length->J.stop i H')/\∀p,ps[i]?=some p->J.go i H'/\∀x kq,J.HS i H' x kq->∃sQ,aH W G' H' sQ kq/\Rep W sQ p x
structure Ft(W:Wd)(G H:Hp)(it:I)(J:It)(ps:List PV):Prop where
 any:j2 W J G H ps
 cU:Dj it=true->j2 W J G G ps
noncomputable def tI(X:Cx)(W:Wd)(F:aM)(it:I):TI:=λσ H R=>∃H0 G env,SR W H0 env σ G H/\Out X W (oX F it env) σ G H λps=>∀J G' H',aH W G H G' H'->Ft W G' H' it J ps->R J H'
abbrev GI(X:Cx)(W:Wd)(F:aM)(tg:Expr)(it:I)(p:Expr):Prop:=PI X tg p (tI X W F it)
theorem uc(hK:W.K=X.K){G B:Hp}{a:Addr}{vs:List V}{ps:List PV}(h:m9 W.K B a vs)(l:ah W G ps vs):j2 W (Oj X.K a) G B ps:=λi G' H' sG sB sub=>by
 have hq:dw X.K H' a vs:=iP hK (gC.ls sB h)
 refine⟨λhi=>⟨vs,hq,by rw [l.length];omega⟩,λp hp=>?_⟩
 obtain⟨v,hv,rv⟩:=l.nv hp
 refine⟨⟨vs,v,hq,hv⟩,λx kq hy=>?_⟩
 obtain⟨rfl,hy⟩:=hy
 have:=hy vs hq
 rw [hv] at this;cases this;exact⟨G',.refl sub,Rep.same sG p rv⟩
theorem xa{K:zz8}{G B:Hp}{a:Addr}{vs:List V}{ps:List PV}(h:eU K B a vs)(l:ah W G ps vs):j2 W (Na K a) G B ps:=λi G' H' sG sB sub=>by
 have hq:eU K H' a vs:=gC.tup sB h
 refine⟨λhi=>⟨vs,hq,by rw [l.length];omega⟩,λp hp=>?_⟩
 obtain⟨v,hv,rv⟩:=l.nv hp
 refine⟨⟨vs,v,hq,hv⟩,λx kq hy=>?_⟩
 obtain⟨rfl,hy⟩:=hy
 have:=hy vs hq
 rw [hv] at this;cases this;exact⟨G',.refl sub,Rep.same sG p rv⟩
def yl{G B:Hp}{a:Addr}{o:Obj}{ks:List (List Int)}{us:List V}(n:ks.length=us.length)(h:B a=some (.cU o (.dT (kz ks us)))):j2 W (MS a o (kz ks us)) G B (ks.map af):=λi G' H' sG sB sub=>by
 have hq:H' a=some (.cU o (.dT (kz ks us))):=sB.at h (λ_ z=>nomatch z)
 refine⟨λhi=>⟨hq,by rw [nG n];rw [zzl] at hi;omega⟩,λp hp=>?_⟩
 rw [zzQ] at hp;obtain⟨k,hk,rfl⟩:=zzJ.mp hp
 have hi:i<ks.length:=(zzH.mp hk).1
 refine⟨⟨hq,by rw [nG n];exact hi⟩,λx kq hy=>?_⟩
 obtain⟨rfl,b,k',v,rfl,e2,e3⟩:=hy
 have ek:k'=ki k:=by
  have:=congrArg (λl=>l[i]?) (Al (us:=us) n)
  simp! [zzQ,e2,hk,Option.map_some] at this;exact zzq this
 rw [ek,rX] at e3;obtain⟨G2,g2,l2⟩:=m7 (W:=W) (vs:=[.ref b]) (nss:=[k]) sub (.cons ⟨b,rfl,e3⟩ .nil)
 obtain⟨w,r,ew,hw,_⟩:=l2.bp
 cases ew;exact⟨G2,g2,hw⟩
def vF{z:Str}{i:Nat}{p:PV}(h:(chars z)[i]?=some p):∃c,z.cps[i]?=some c/\p=.str ⟨#[c]⟩:=by
 unfold chars at h;rw [zzQ] at h;obtain⟨c,hc,rfl⟩:=zzJ.mp h
 rw [Array.getElem?_toList] at hc;exact⟨c,hc,rfl⟩
def uT(z:Str):(chars z).length=z.cps.size:=by unfold chars;rw [zzl,zzd]
theorem n0{G B:Hp}(lo:Int)(n:Nat):j2 W (JU lo n) G B (dh lo n):=λi G' H' sG sB sub=>by
 unfold dh;refine⟨λhi=>by rw [zzl,List.length_range] at hi;exact Nat.le_of_eq hi.symm,λp hp=>?_⟩
 rw [zzQ] at hp;obtain⟨c,hc,rfl⟩:=zzJ.mp hp
 obtain⟨h1,h2⟩:=zzH.mp hc
 rw [List.length_range] at h1;rw [List.getElem_range] at h2;subst h2;refine⟨h1,λx kq hy=>?_⟩
 obtain⟨rfl,rfl⟩:=hy
 exact⟨G',.refl sub,.i⟩
def ko{G H:Hp}{p q:PV}{v u:V}{a:Addr}(sub:ay G H)(ha:H a=none)(h1:Rep W G p v)(h2:Rep W G q u):∃sQ,aH W G H sQ (upd H a (.tup [v,u]))/\Rep W sQ (.tup [p,q]) (.ref a):=
 ⟨_,.new sub ha,.t (.inl au) (ah.same (bf (sub.free ha)) _ (.cons h1 (.cons h2 .nil)))⟩
theorem gU:∀{xs:List PV} {n i:Nat} {p:PV},(bX n xs)[i]?=some p->∃x,xs[i]?=some x/\p=.tup [.int ((n+i:Nat):Int),x]
 |[],_,_,_,h=>by simp [bX] at h
 |x::xs,n,0,p,h=>by simp [bX] at h;exact⟨x,rfl,by rw [<-h];simp⟩
 |x::xs,n,i+1,p,h=>by
  simp! [bX,List.getElem?_cons_succ] at h;obtain⟨y,h1,h2⟩:=gU h
  exact⟨y,by simpa using h1,by rw [h2,show n+1+i=n+(i+1) by omega]⟩
theorem bQ:∀(xs:List PV) (n:Nat),(bX n xs).length=xs.length
 |[],_=>rfl
 |_::xs,n=>by simp! [bX,zzL,bQ xs]
theorem qv{K:zz8}{G B:Hp}{a:Addr}{vs:List V}{ps:List PV}(h:eU K B a vs)(l:ah W G ps vs):j2 W (Mx K a vs) G B (bX 0 ps):=λi G' H' sG sB sub=>by
 have hq:eU K H' a vs:=gC.tup sB h
 refine⟨λhi=>⟨hq,by rw [bQ] at hi;rw [l.length];exact hi⟩,λp hp=>?_⟩
 obtain⟨x,hx,rfl⟩:=gU hp
 obtain⟨v,hv,rv⟩:=l.nv hx
 refine⟨⟨hq,(zzH.mp hv).1⟩,λy kq hy=>?_⟩
 obtain⟨b,x',rfl,hb,rfl,qO⟩:=hy
 rw [hv] at qO;cases qO;rw [Nat.zero_add];exact ko sub hb .i (Rep.same sG x rv)
theorem kP(hK:W.K=X.K){G B:Hp}{a:Addr}{vs:List V}{ps:List PV}(h:m9 W.K B a vs)(l:ah W G ps vs):j2 W (Fx X.K a vs) G B (bX 0 ps):=λi G' H' sG sB sub=>by
 have hq:dw X.K H' a vs:=iP hK (gC.ls sB h)
 refine⟨λhi=>⟨hq,by rw [bQ] at hi;rw [l.length];exact hi⟩,λp hp=>?_⟩
 obtain⟨x,hx,rfl⟩:=gU hp
 obtain⟨v,hv,rv⟩:=l.nv hx
 refine⟨⟨hq,(zzH.mp hv).1⟩,λy kq hy=>?_⟩
 obtain⟨b,x',rfl,hb,rfl,qO⟩:=hy
 rw [hv] at qO;cases qO;rw [Nat.zero_add];exact ko sub hb .i (Rep.same sG x rv)
theorem qy{G B:Hp}(z:Str):j2 W (K0 z) G B (bX 0 (chars z)):=λi G' H' sG sB sub=>by
 refine⟨λhi=>by rw [bQ,uT] at hi;exact hi,λp hp=>?_⟩
 obtain⟨x,hx,rfl⟩:=gU hp
 obtain⟨c,hc,rfl⟩:=vF hx
 refine⟨(Array.getElem?_eq_some_iff.mp hc).1,λy kq hy=>?_⟩
 obtain⟨b,c',rfl,hb,rfl,pg⟩:=hy
 rw [hc] at pg;cases pg;rw [Nat.zero_add];exact ko sub hb .i .s
def NN(W:Wd)(G:Hp)(t:Zt)(xs:List PV):Prop:=(if t.1=true then m9 W.K G t.2.1 t.2.2 else Hw W.K G t.2.1 t.2.2)/\ah W G xs t.2.2
theorem yd{G:Hp}:∀{ps:List PV} {vs:List V} {xss:List (List PV)},ah W G ps vs->gc ps=some xss->∃ts:List Zt,vs=ts.map (λt=>V.ref t.2.1)/\Paired (NN W G) ts xss
 |[],vs,xss,l,h=>by
  simp! [ah] at l;subst l;cases h;exact⟨[],rfl,.nil⟩
 |p::ps,vs,xss,l,h=>by
  obtain⟨v,r,rfl,h1,h2⟩:=l.bp
  obtain⟨xs,e1,h⟩:=zzZ.1 (show(CC p).bind (λxs=>(gc ps).map (xs::·))=some xss from h)
  obtain⟨yss,e2,rfl⟩:=zzJ.1 h
  obtain⟨ts,rfl,pd⟩:=yd h2 e2
  cases p with
  |lst ys=>
   cases e1;simp! [Rep] at h1;obtain⟨a,us,rfl,k,m⟩:=h1
   exact⟨(true,a,us)::ts,rfl,.cons ⟨k,m⟩ pd⟩
  |tup ys=>
   cases e1;simp! [Rep] at h1;obtain⟨a,us,rfl,k,m⟩:=h1
   exact⟨(false,a,us)::ts,rfl,.cons ⟨k,m⟩ pd⟩
  |_=>cases e1
theorem t8:∀{xss:List (List PV)},∀xs∈xss,hJ xss<=xs.length
 |[xs],ys,h=>by rw [zzi.1 h];exact zzE _
 |xs::y::r,ys,h=>by
  show min xs.length (hJ (y::r))<=_
  rcases zzm.1 h with rfl|h
  ·exact Nat.min_le_left ..
  ·exact zzU (Nat.min_le_right ..) (t8 ys h)
theorem tD:∀{xss:List (List PV)},xss≠[]->∃xs∈xss,xs.length=hJ xss
 |[xs],_=>⟨xs,zzi.2 rfl,rfl⟩
 |xs::y::r,_=>by
  show∃zs∈xs::y::r,zs.length=min xs.length (hJ (y::r))
  rcases Nat.le_total xs.length (hJ (y::r)) with h|h
  ·exact⟨xs,zzP ..,(Nat.min_eq_left h).symm⟩
  ·obtain⟨zs,h1,h2⟩:=tD (xss:=y::r) (List.cons_ne_nil _ _)
   exact⟨zs,zzI _ h1,by rw [h2,Nat.min_eq_right h]⟩
theorem ug{G:Hp}{i:Nat}:∀{ts:List Zt} {xss:List (List PV)} {ys:List V},Paired (NN W G) ts xss->Paired (λ(q:Zt) y=>q.2.2[i]?=some y) ts ys->ah W G (xss.map λxs=>xs.getD i .aA) ys
 |_,_,_,.nil,.nil=>.nil
 |_,_,_,.cons r t,.cons u v=>by
  obtain⟨p,hp,rp⟩:=r.2.get u
  refine .cons ?_ (ug t v);dsimp only;rw [zzK,hp];exact rp
def zH(hK:W.K=X.K){G B:Hp}{ts:List Zt}{xss:List (List PV)}(hn:ts≠[])(h:Paired (NN W G) ts xss)(hB:ay G B):j2 W (M8 X.K ts) G B (fi xss):=λi G' H' sG sB sub=>by
 have sq:∀t∈ts,Zq X.K H' t:=λt ht=>by
  obtain⟨xs,_,r⟩:=eA h t ht
  have:=r.1
  unfold Zq;split
  ·rename_i e;rw [if_pos e] at this;exact iP hK (ay.ls (λa o z=>sub a o (sG a o z)) this)
  ·rename_i e;rw [if_neg e] at this;exact hK▸ay.tup (λa o z=>sub a o (sG a o z)) this.sq
 have len:∀t∈ts,hJ xss<=t.2.2.length:=λt ht=>by
  obtain⟨xs,h1,r⟩:=eA h t ht
  rw [r.2.length];exact t8 xs h1
 have zl:(fi xss).length=hJ xss:=by simp [fi]
 refine⟨λhi=>?_,λp hp=>?_⟩
 ·rw [zl] at hi;subst hi;refine⟨λt ht=>⟨sq t ht,len t ht⟩,?_⟩
  have hx:xss≠[]:=λz=>by subst z;cases h;exact hn rfl
  obtain⟨xs,h1,h2⟩:=tD hx
  obtain⟨t,ht,r⟩:=cx h xs h1
  exact⟨t,ht,by rw [r.2.length,h2]⟩
 ·have hi:i<hJ xss:=by rw [<-zl];exact(zzH.1 hp).1
  have MK:p=.tup (xss.map λxs=>xs.getD i .aA):=by
   unfold fi at hp;rw [zzQ,List.getElem?_range hi] at hp;exact(zzq hp).symm
  refine⟨λt ht=>⟨sq t ht,zzW hi (len t ht)⟩,λx kq hy=>?_⟩
  obtain⟨a,ys,rfl,ha,rfl,py⟩:=hy
  subst MK;refine⟨_,.new sub ha,.t (.inl au) (ah.same (bf (sub.free ha)) _ (ah.same sG _ (ug h py)))⟩
theorem yn(hK:W.K=X.K){G B:Hp}{a:Addr}{vs:List V}{ps:List PV}(h:m9 W.K B a vs)(l:ah W G ps vs):j2 W (Mm X.K a vs) G B ps.reverse:=λi G' H' sG sB sub=>by
 have hq:dw X.K H' a vs:=iP hK (gC.ls sB h)
 refine⟨λhi=>⟨hq,by rw [hi,List.length_reverse,l.length]⟩,λp hp=>?_⟩
 have hi:=(zzH.1 hp).1
 rw [List.length_reverse] at hi;refine⟨⟨hq,by rw [l.length];exact hi⟩,λx kq hy=>?_⟩
 obtain⟨rfl,hy⟩:=hy
 obtain⟨q,lK,rq⟩:=l.get hy
 rw [List.getElem?_reverse hi,<-l.length,lK] at hp;cases hp;exact⟨G',.refl sub,Rep.same sG _ rq⟩
def eJ{e:E}{σ:St}{H0 G H:Hp}{env:Sl}{Q:VK}{p:PV}(sr:SR W H0 env σ G H)(e1:aC F e env=.ok p)(h:∀v G1 H1,aH W G H G1 H1->Got W H0 G1 H1 e p v->Q v H1):tE X W F e σ H Q:=⟨H0,G,env,sr,by rw [e1];exact h⟩
def wR{e:E}{σ:St}{H0 G H:Hp}{env:Sl}{Q:VK}{c:Str}(sr:SR W H0 env σ G H)(e1:aC F e env=.exc c)(h:rT X W σ c G H):tE X W F e σ H Q:=⟨H0,G,env,sr,by rw [e1];exact h⟩
def Ez(C:dR Γ F W N sc k X){tg p:Expr}{e:E}(he:GE X W F e p):GI X W F tg (.seq e) p:=by
 intro aa s σ H R I h;obtain⟨H0,G,env,sr,o⟩:=h
 rw [oX] at o;cases r:aC F e env with
 |bad=>rw [r] at o;exact o.elim
 |exc c=>rw [r] at o;exact tR he aa s σ H R I (wR sr r o)
 |ok q=>
  rw [r] at o;cases q with
  |lst xs=>
   refine tR he aa s σ H R I (eJ sr r λv G1 H1 g1 t=>?_);have t':=t
   obtain⟨a,vs,rfl,h1,l1⟩:=t.top.lst g1.sub
   refine⟨a,rfl,⟨vs,iP C.K h1⟩,o _ G1 H1 g1 ⟨uc C.K h1 l1,λz=>?_⟩⟩
   have rp:=t'.rep z
   simp! [Rep] at rp;obtain⟨a',Dr,e1,h2,l2⟩:=rp
   cases e1;exact uc C.K h2 l2
  |tup xs=>
   refine Ef he aa s σ H R I (eJ sr r λv G1 H1 g1 t=>?_);have t':=t
   obtain⟨a,vs,rfl,h1,l1⟩:=t.top.tup g1.sub
   rw [C.K] at h1;refine⟨a,rfl,⟨vs,h1⟩,o _ G1 H1 g1 ⟨xa h1 l1,λz=>?_⟩⟩
   have rp:=t'.rep z
   simp! [Rep] at rp;obtain⟨a',Dr,e1,h2,l2⟩:=rp
   cases e1;rw [C.K] at h2;exact xa h2.sq l2
  |str z=>exact zzk o
  |int _=>exact zzk o
  |bl _=>exact zzk o
  |aA=>exact zzk o
  |exc _=>exact zzk o
  |bw ks qs=>
   by_cases IZ:fQ e=true
   ·have Rz:qN e (.bw ks qs)=.ok (ks.map af):=by
     cases e<;>first|rfl|exact bB IZ
    have o2:Out X W (qN e (.bw ks qs)) σ G H λps=>∀(J:It) (G' H':Hp),aH W G H G' H'->Ft W G' H' (Ci.I.seq e) J ps->R J H':=o
    rw [Rz] at o2;refine Ga he aa s σ H R I (eJ sr r λv G1 H1 g1 t=>?_);have rp:=t.rep IZ
    simp! [Rep] at rp;obtain⟨a,ob,us,rfl,n,h1,l1⟩:=rp
    exact⟨a,ob,_,rfl,g1.sub _ _ h1,o2 _ G1 H1 g1 ⟨yl n (g1.sub _ _ h1),λ_=>yl n h1⟩⟩
   ·have:∃i,e=.f9 i:=by
     cases e<;>first|exact⟨_,rfl⟩|exact absurd rfl IZ
    obtain⟨i,rfl⟩:=this
    exact zzk o
def dq{i:Int}(h:aE i=true): -(2^62)<=i/\i<2^62:=by
 unfold aE at h
 simpa using h
def Fv(C:dR Γ F W N sc k X){tg p:Expr}{e:E}{np pos:Pos}(hg:ff sc "range"=true)(hb:Γ.bs.contains "range"=true)(cJ:∀env ps,starEach (p::ps) env=(false,eval p env)::starEach ps env)(he:GE X W F e p):GI X W F tg (.jj e) (.Call (.Name "range" np) [p] [] pos):=by
 intro aa s σ H R I h;refine vm (dE C hg) (C.bs _ (zzn.mp hb)) (bO he c7 (cJ _ _)) (cJ _ _) aa s σ H R I ?_;obtain⟨H0,G,env,sr,o⟩:=h
 rw [oX] at o;refine one sr o λq v G1 H1 g1 t bq o1=>?_
 cases q with
 |int j=>
  by_cases hj:aE j=true
  ·have o2:Out X W (if aE j=true then Res.ok (dh 0 j.toNat) else .bad) σ G1 H1 _:=o1
   rw [if_pos hj] at o2;exact⟨j,by rw [t.top.int],(dq hj).1,(dq hj).2,o2 _ G1 H1 g1 ⟨n0 _ _,λ_=>n0 _ _⟩⟩
  ·have o2:Out X W (if aE j=true then Res.ok (dh 0 j.toNat) else .bad) σ G1 H1 _:=o1
   rw [if_neg hj] at o2;exact o2.elim
 |bl _=>exact zzk o1
 |aA=>exact zzk o1
 |str _=>exact zzk o1
 |tup _=>exact zzk o1
 |lst _=>exact zzk o1
 |exc _=>exact zzk o1
 |bw _ _=>exact zzk o1
def Ca(C:dR Γ F W N sc k X){tg p q:Expr}{a b:E}{np pos:Pos}(hg:ff sc "range"=true)(hb:Γ.bs.contains "range"=true)(cJ:∀env ps,starEach (p::ps) env=(false,eval p env)::starEach ps env)(Em:∀env ps,starEach (q::ps) env=(false,eval q env)::starEach ps env)
 (ha:GE X W F a p) (hb':GE X W F b q):GI X W F tg (.kH a b) (.Call (.Name "range" np) [p,q] [] pos):=by
 intro aa s σ H R I h;refine u7 (dE C hg) (C.bs _ (zzn.mp hb)) (bO ha (bO hb' c7 (Em _ _)) (cJ _ _)) (by rw [cJ,Em];rfl) (Em _ _) aa s σ H R I ?_;obtain⟨H0,G,env,sr,o⟩:=h
 rw [oX] at o;refine one sr o λx v G1 H1 g1 t bq o1=>one bq o1 λy u G2 H2 g2 t2 fZ o2=>?_
 cases x<;>cases y<;>first
  |(exact zzk o2)
  | (rename_i i j
     by_cases hj:(aE i&&aE j)=true
     ·have o3:Out X W (if(aE i&&aE j)=true then Res.ok (dh i (j-i).toNat) else .bad) σ G2 H2 _:=o2
      rw [if_pos hj] at o3;rw [zza] at hj;exact⟨i,j,by rw [t.top.int,t2.top.int],⟨(dq hj.1).1,(dq hj.1).2,(dq hj.2).1,(dq hj.2).2⟩,o3 _ G2 H2 (g1.trans g2) ⟨n0 _ _,λ_=>n0 _ _⟩⟩
     ·have o3:Out X W (if(aE i&&aE j)=true then Res.ok (dh i (j-i).toNat) else .bad) σ G2 H2 _:=o2
      rw [if_neg hj] at o3;exact o3.elim)
def BG(C:dR Γ F W N sc k X){elts:List Expr}{x1:Nat}{jg:Pos}{p:Expr}{e:E}{np pos:Pos}(hg:ff sc "enumerate"=true)(hb:Γ.bs.contains "enumerate"=true)(cJ:∀env ps,starEach (p::ps) env=(false,eval p env)::starEach ps env)(he:GE X W F e p):
 GI X W F (.Tuple elts x1 jg) (.enum e) (.Call (.Name "enumerate" np) [p] [] pos):=by
 intro aa s σ H R I h;have pz:=dE C hg
 have pq:=C.bs _ (zzn.mp hb)
 have pa:=bO he c7 (cJ _ _)
 obtain⟨H0,G,env,sr,o⟩:=h
 rw [oX] at o;cases r:aC F e env with
 |bad=>rw [r] at o;exact o.elim
 |exc c=>rw [r] at o;exact pK pz pq pa (cJ _ _) aa s σ H R I (wR sr r o)
 |ok q=>
  rw [r] at o;cases q with
  |lst xs=>
   refine pK pz pq pa (cJ _ _) aa s σ H R I (eJ sr r λv G1 H1 g1 t=>?_)
   by_cases hz:fQ e=true
   ·have rp:=t.rep hz
    simp! [Rep] at rp;obtain⟨a,vs,rfl,h2,l2⟩:=rp
    exact⟨a,vs,rfl,iP C.K (ay.ls g1.sub h2),o _ G1 H1 g1 ⟨kP C.K (ay.ls g1.sub h2) l2,λ_=>kP C.K h2 l2⟩⟩
   ·obtain⟨a,vs,rfl,h1,l1⟩:=t.top.lst g1.sub
    exact⟨a,vs,rfl,iP C.K h1,o _ G1 H1 g1 ⟨kP C.K h1 l1,λz=>absurd z hz⟩⟩
  |tup xs=>
   refine wM pz pq pa (cJ _ _) aa s σ H R I (eJ sr r λv G1 H1 g1 t=>?_);have t':=t.top
   rcases t' with rp|z
   ·simp! [Rep] at rp;obtain⟨a,vs,rfl,h2,l2⟩:=rp
    rw [C.K] at h2;exact⟨a,vs,rfl,ay.tup g1.sub h2.sq,o _ G1 H1 g1 ⟨qv (ay.tup g1.sub h2.sq) l2,λz=>qv h2.sq l2⟩⟩
   ·exact z.elim
  |str z=>exact yg pz pq pa (cJ _ _) aa s σ H R I (eJ sr r λv G1 H1 g1 t=>⟨z,by rw [t.top.str],o _ G1 H1 g1 ⟨qy z,λ_=>qy z⟩⟩)
  |int _=>exact zzk o
  |bl _=>exact zzk o
  |aA=>exact zzk o
  |exc _=>exact zzk o
  |bw _ _=>exact zzk o
def Gy(C:dR Γ F W N sc k X){elts:List Expr}{x1:Nat}{jg:Pos}{p:Expr}{ps:List Expr}{as:Es}{np pos:Pos}(hg:ff sc "zip"=true)(hb:Γ.bs.contains "zip"=true)(AS:jV as=true)(hn:gn as=2\/gn as=3)(ha:GA X W F as (p::ps))
 (cJ:starEach (p::ps) X.env=(false,eval p X.env)::starEach ps X.env) (hpl:(backTo pos (starEach ps X.env)).any (·.1)=false):GI X W F (.Tuple elts x1 jg) (.zip as) (.Call (.Name "zip" np) (p::ps) [] pos):=by
 intro aa s σ H R I h;refine C0 (dE C hg) (C.bs _ (zzn.mp hb)) ha cJ hpl aa s σ H R I ?_;obtain⟨H0,G,env,sr,o⟩:=h
 rw [oX] at o;refine⟨H0,G,env,sr,?_⟩;cases r:c8 F as env with
 |bad=>rw [r] at o;exact o
 |exc c=>rw [r] at o;exact o
 |ok qs=>
  rw [r] at o;have hlen:=ij r
  intro vs G1 H1 g1 t;have l:=t.rep AS
  have o:Out X W ((Res.of (gc qs)).bind λxss=>.ok (fi xss)) σ G H λps=>∀J G' H',aH W G H G' H'->Ft W G' H' (.zip as) J ps->R J H':=o
  cases e:gc qs with
  |none=>rw [e] at o;exact zzk o
  |some xss=>
   rw [e] at o;obtain⟨ts,rfl,pd⟩:=yd l e
   have lt:ts.length=qs.length:=by have:=l.length;rwa [zzl] at this
   have fe:ts≠[]:=λz=>by subst z;simp at lt;omega
   refine⟨ts,rfl,by omega,λq hq=>?_,o _ G1 H1 g1 ⟨zH C.K fe pd g1.sub,λ_=>zH C.K fe pd (ay.refl _)⟩⟩
   obtain⟨xs,_,r⟩:=eA pd q hq
   have:=r.1
   unfold Zq;split
   ·rename_i e;rw [if_pos e] at this;exact iP C.K (ay.ls g1.sub this)
   ·rename_i e;rw [if_neg e] at this;exact C.K▸ay.tup g1.sub this.sq
def E0(C:dR Γ F W N sc k X){tg:Expr}{p:Expr}{e:E}{np pos:Pos}(hg:ff sc "reversed"=true)(hb:Γ.bs.contains "reversed"=true)(AS:fQ e=true)(ha:GE X W F e p)(cJ:∀env ps,starEach (p::ps) env=(false,eval p env)::starEach ps env):GI X W F tg (.sJ e) (.Call (.Name "reversed" np) [p] [] pos):=by
 intro aa s σ H R I h;refine Cq (dE C hg) (C.bs _ (zzn.mp hb)) (bO ha c7 (cJ _ _)) (cJ _ _) aa s σ H R I ?_;obtain⟨H0,G,env,sr,o⟩:=h
 rw [oX] at o;refine one sr o λx v G1 H1 g1 t bq o1=>?_
 cases x with
 |lst xs=>
  have rp:=t.rep AS
  simp! [Rep] at rp;obtain⟨a,vs,rfl,h1,l1⟩:=rp
  exact⟨a,vs,rfl,iP C.K (ay.ls bq.sub h1),o1 _ G1 H1 g1 ⟨yn C.K (ay.ls bq.sub h1) l1,λ_=>yn C.K h1 l1⟩⟩
 |_=>exact zzk o1
end
def vS{env:Env}{x:Str}{c:Addr}(h:env.cells.lookup x=some c):cellOf env x=pure c:=by
 unfold cellOf;rw [h]
def frees(names:List (Str×NameKind)):List Str:=((names.filter λp=>p.2==.free).map (·.1)).reverse
def rM{scope:Scope}{env:Env}(h:∀y∈scope.names,y.2=.free->∃c,env.cells.lookup y.1=some c):closureFor scope env=pure (cu env (freeOf scope)):=by
 simp! [closureFor];have key:∀(names:List (Str×NameKind)) (acc:List (Str×Addr)),(∀y∈names,y.2=.free->∃c,env.cells.lookup y.1=some c)->
  (forIn (m:=Sem) names acc λx r=>if(x.2==NameKind.free)=true then do
   let c<-cellOf env x.1
   pure (ForInStep.yield ((x.1,c)::r))
   else pure (ForInStep.yield r))=pure (cu env (frees names)++acc):=by
  intro names
  induction names with
  |nil=>intro acc _;rfl
  |cons p r ih=>
   intro acc hh;obtain⟨n,kd⟩:=p
   rw [List.forIn_cons]
   by_cases hk:(kd==NameKind.free)=true
   ·obtain⟨c,hc⟩:=hh (n,kd) (by simp) (zzy.mp hk)
    simp! [hk,if_true,vS hc,pure_bind];rw [ih ((n,c)::acc) λy hy=>hh y (zzI _ hy)]
    have e:frees ((n,kd)::r)=frees r++[n]:=by
     unfold frees;rw [zz3,if_pos hk,zzF,List.reverse_cons]
    rw [e];unfold cu;rw [List.map_append,zzF,List.map_nil,List.append_assoc];show _=pure (_++([(n,(env.cells.lookup n).getD 0)]++acc))
    rw [show env.cells.lookup n=some c from hc]
    rfl
   ·simp! [hk,zze,if_false,pure_bind];rw [ih acc λy hy=>hh y (zzI _ hy)]
    have e:frees ((n,kd)::r)=frees r:=by
     unfold frees;rw [zz3,if_neg hk]
    rw [e]
 have:=key scope.names [] h
 rw [zz6] at this;simp! [bind_pure_comp,map_pure,id_map',bind_pure];exact this
section
variable{X:Cx}{W:Wd}{N:List Str}{sc:Scope}
def eK{scope:Scope}(h:X.env.scope=sc):relabel scope X.env=cZ scope sc:=by
 subst h
 rfl
structure jz(N:List Str)(sc scope:Scope)(kk:Nat)(cH:List Nat)(xs:List Str):Prop where
 kind:scope.kind=.function
 len:xs.length=kk
 nd:(xs++freeOf scope).Nodup
 JO:(scope.names.all λy=>(decide (y.2≠.cell)||!(freeOf scope).contains y.1)&&(decide (y.2≠.free)||(freeOf scope).contains y.1))=true
 own:(scope.names.all λy=>decide (y.2≠.cell)||decide (scope.names.lookup y.1=some .cell))=true
 names:(scope.names.all λy=>decide (y.2≠.local)||decide (scope.names.lookup y.1=some .local))=true
 slots:cH.map (λi=>N[i]?)=(freeOf scope).map some
 kX:((freeOf scope).all λy=>decide (sc.names.lookup y=some .cell))=true
 kY:((freeOf scope).all λy=>decide ((cZ scope sc).names.lookup y=some .cell))=true
def gQ{scope:Scope}{kk:Nat}{cH:List Nat}{xs:List Str}(h:tH N sc scope kk cH xs=true):jz N sc scope kk cH xs:=by
 unfold tH at h;simp! [zza] at h;obtain⟨⟨⟨⟨⟨⟨⟨⟨h1,h2⟩,h3⟩,h4⟩,h9⟩,h5⟩,h6⟩,h7⟩,h8⟩:=h
 exact⟨zzy.mp h1,zzy.mp h2,zzY h3,h4,h9,h5,zzY h6,h7,h8⟩
def oV(hN:X.N=N)(fv:X.env.scope=sc)(ok:X.Ok){scope:Scope}{kk:Nat}{cH:List Nat}{xs:List Str}(h:jz N sc scope kk cH xs):ee X scope xs (freeOf scope) cH:=by
 have pC:∀y∈freeOf scope,∃c,X.env.cells.lookup y=some c:=λy hy=>ok.has y (.inl (by
  have:=zzY (zzT.mp h.kX y hy)
  show X.env.scope.names.lookup y=_
  rw [fv];exact this))
 refine⟨h.kind,rM λy hy hf=>?_,zzT.mpr λy hy=>?_,h.JO,h.own,h.names,by rw [hN];exact h.slots,zzT.mpr λy hy=>?_,?_⟩
 ·have c:=zzT.mp h.JO y hy
  rw [zza,zzt,zzt] at c;rcases c.2 with z|z
  ·exact absurd hf (zzY z)
  ·exact pC _ (zzn.mp z)
 ·obtain⟨c,hc⟩:=pC y hy
  rw [hc];rfl
 ·have:=zzY (zzT.mp h.kX y hy)
  refine zzh ?_;show X.env.scope.names.lookup y=_
  rw [fv];exact this
 ·rw [eK fv];exact h.kY
theorem gL{f:PV->Res (Option PV)}{x:PV}:∀{xs:List PV},aD f (xs++[x])=(aD f xs).bind λys=>(f x).well.bind λo=>.ok (ys++o.toList)
 |[]=>by
  simp! [List.nil_append,aD,Res.bind];cases(f x).well with
  |ok o=>cases o<;>rfl
  |exc c=>rfl
  |bad=>rfl
 |y::xs=>by
  rw [List.cons_append];simp! [aD];rw [gL (xs:=xs)];cases(f y).well with
  |exc c=>rfl
  |bad=>rfl
  |ok o=>
   show(((aD f xs).bind λys=>(f x).well.bind λo=>.ok (ys++o.toList)).bind λys=>.ok (oc o ys))=((aD f xs).bind λys=>.ok (oc o ys)).bind λys=>(f x).well.bind λo=>.ok (ys++o.toList)
   cases aD f xs with
   |exc c=>rfl
   |bad=>rfl
   |ok zs=>
    show(((f x).well.bind λo=>.ok (zs++o.toList)).bind λys=>.ok (oc o ys))=(f x).well.bind λo2=>.ok ((oc o zs)++o2.toList)
    cases(f x).well with
    |exc c=>rfl
    |bad=>rfl
    |ok o2=>cases o<;>rfl
theorem kh{f:PV->Res (Option PV)}:∀{xs ys:List PV},aD f xs=.ok ys->∀i,∃zs,aD f (xs.take i)=.ok zs/\zs.length<=i
 |_,_,_,0=>⟨[],by simp [aD],zzE _⟩
 |[],ys,h,i+1=>⟨[],by simp [aD],Nat.zero_le _⟩
 |x::xs,ys,h,i+1=>by
  simp! [aD] at h;obtain⟨o,ho,h⟩:=Res.aU h
  obtain⟨zs,hz,h⟩:=Res.aU h
  obtain⟨ws,hw,hl⟩:=kh hz i
  refine⟨oc o ws,?_,?_⟩
  ·rw [List.take_succ_cons];simp! [aD];rw [ho];show((aD f (xs.take i)).bind λys=>.ok (oc o ys))=_
   rw [hw]
   rfl
  ·cases o with
   |none=>exact Nat.le_succ_of_le hl
   |some y=>exact Nat.succ_le_succ hl
def AI{α:Type}{r:Res α}{a:α}(h:r.well=.ok a):r=.ok a:=by
 cases r with
 |ok b=>cases h;rfl
 |exc c=>cases h
 |bad=>cases h
def qK{f:PV->Res (Option PV)}{xs ys zs:List PV}{i:Nat}{x:PV}(h:aD f xs=.ok ys)(hx:xs[i]?=some x)(hz:aD f (xs.take i)=.ok zs):∃o,f x=.ok o/\aD f (xs.take (i+1))=.ok (zs++o.toList):=by
 have e:xs.take (i+1)=xs.take i++[x]:=by rw [List.take_add_one,hx];rfl
 obtain⟨ws,hw,_⟩:=kh h (i+1)
 rw [e,gL,hz] at hw;obtain⟨o,ho,hw⟩:=Res.aU (show((f x).well.bind λo=>Res.ok (zs++o.toList))=.ok ws from hw)
 refine⟨o,AI ho,?_⟩;rw [e,gL,hz];show((f x).well.bind λo=>Res.ok (zs++o.toList))=_
 rw [ho]
 rfl
def p8{H0 G H:Hp}{env:Sl}{σ:St}{cH:List Nat}{ys:List Str}(kk:Nat)(sr:SR W H0 env σ G H)(hs:cH.map (λi=>N[i]?)=ys.map some)(nd:ys.Nodup):SR W H0 (List.replicate kk .no++eZ env cH) (List.replicate kk none++yT σ cH) G H:=by
 have QV:∀(i j:Nat) (a:Nat),cH[i]?=some a->cH[j]?=some a->i=j:=λi j a h1 h2=>by
  have e1:(ys.map some)[i]?=some (N[a]?):=by rw [<-hs,zzQ,h1];rfl
  have e2:(ys.map some)[j]?=some (N[a]?):=by rw [<-hs,zzQ,h2];rfl
  rw [zzQ] at e1 e2;obtain⟨y1,g1,q1⟩:=zzJ.mp e1
  obtain⟨y2,g2,q2⟩:=zzJ.mp e2
  have:y1=y2:=zzq (q1.trans q2.symm)
  subst this;exact jX nd g1 g2
 have inner:∀(j:Nat) (s:Slot),(List.replicate kk Slot.no++eZ env cH)[j]?=some s->(j<kk/\s=.no)\/∃a,kk<=j/\cH[j-kk]?=some a/\s=env.getD a .no:=λj s e=>by
  by_cases hj:j<kk
  ·rw [zzr (by simpa using hj),List.getElem?_replicate,if_pos hj] at e;cases e;exact .inl ⟨hj,rfl⟩
  ·rw [zzs (by simpa using hj),List.length_replicate] at e;unfold eZ at e;rw [zzQ] at e;obtain⟨a,ha,rfl⟩:=zzJ.mp e
   exact .inr ⟨a,by omega,ha,rfl⟩
 have val:∀(j a:Nat),kk<=j->cH[j-kk]?=some a->(List.replicate kk none++yT σ cH)[j]?=some ((σ[a]?).join):=λj a hj ha=>by
  rw [zzs (by simpa using hj),List.length_replicate];unfold yT;rw [zzQ,ha]
  rfl
 refine⟨by unfold eZ yT;simp,sr.sub,sr.base,λj s e=>?_,λi j p q a e1 e2 e3 e4=>?_,sr.tab,sr.md⟩
 ·rcases inner j s e with⟨hj,rfl⟩|⟨a,hj,ha,rfl⟩
  ·exact⟨none,by rw [zzr (by simpa using hj),List.getElem?_replicate,if_pos hj],trivial⟩
  ·refine⟨_,val j a hj ha,?_⟩;rw [zzK];cases e1:env[a]? with
   |none=>exact trivial
   |some s=>
    obtain⟨o,h1,h2⟩:=sr.slot a s e1
    rw [h1];exact h2
 ·rcases inner i _ e1 with⟨_,z⟩|⟨b,hi,hb,z1⟩
  ·cases z
  rcases inner j _ e2 with⟨_,z⟩|⟨c,hj,hc,z2⟩
  ·cases z
  rw [val i b hi hb] at e3;rw [val j c hj hc] at e4;have f1:env[b]?=some (.own p):=by
   rw [zzK] at z1;cases e:env[b]? with
   |none=>rw [e] at z1;cases z1
   |some s=>rw [e] at z1;exact congrArg some z1.symm
  have f2:env[c]?=some (.own q):=by
   rw [zzK] at z2;cases e:env[c]? with
   |none=>rw [e] at z2;cases z2
   |some s=>rw [e] at z2;exact congrArg some z2.symm
  have g1:σ[b]?=some (some (.ref a)):=Option.join_eq_some_iff.mp (zzq e3)
  have g2:σ[c]?=some (some (.ref a)):=Option.join_eq_some_iff.mp (zzq e4)
  have bc:=sr.apart b c p q a f1 f2 g1 g2
  subst bc;have:=QV _ _ b hb hc
  omega
def iQ{H0 G H:Hp}{kk:Nat}{rest ag:Sl}{σ:St}{tg:Tg}{p:PV}(cL:jc kk tg=true)(e:Tg.put tg p (List.replicate kk .no++rest)=.ok ag)(r:SR W H0 ag σ G H):SR W H0 (List.replicate kk .no++rest) σ G H:=by
 have key:∀(j:Nat) (s:Slot),(List.replicate kk Slot.no++rest)[j]?=some s->s≠.no->ag[j]?=some s:=λj s h hs=>by
  have MM:¬j<kk:=λz=>by
   rw [zzr (by simpa using z),List.getElem?_replicate,if_pos z] at h;cases h;exact hs rfl
  unfold Tg.put at e;split at e
  ·cases e;unfold jc at cL;simp! [zzN] at cL;rw [zzS (by omega)];exact h
  ·cases e;unfold jc at cL;simp! [zza,zzN] at cL;rw [zzS (by omega),zzS (by omega)];exact h
  ·cases e;unfold jc at cL;simp! [zza,zzN] at cL;rw [zzS (by omega),zzS (by omega),zzS (by omega)];exact h
  ·cases e
 have hlen:(List.replicate kk Slot.no++rest).length=σ.length:=by
  rw [<-r.len];unfold Tg.put at e;split at e<;>first|(cases e;simp;done)|(cases e;done)
 refine⟨hlen,r.sub,r.base,λj s h=>?_,λi j p q a e1 e2 e3 e4=>r.apart i j p q a (key i _ e1 (λz=>nomatch z)) (key j _ e2 (λz=>nomatch z)) e3 e4,r.tab,r.md⟩
 by_cases hs:s=.no
 ·subst hs;have:j<σ.length:=by rw [<-hlen];exact(zzH.mp h).1
  exact⟨σ[j],zzg this,trivial⟩
 ·exact r.slot j s (key j s h hs)
variable{Γ:Pg}{F:aM}{k:Nat}
noncomputable def tN(W:Wd)(F:aM)(e:E):TE:=λσ H Q=>∃H0 G env,SR W H0 env σ G H/\∃p,aC F e env=.ok p/\∀v G' H',aH W G H G' H'->Got W H0 G' H' e p v->Q v H'
noncomputable def Lv(W:Wd)(F:aM)(e:E):TT:=λσ H Q=>∃H0 G env,SR W H0 env σ G H/\∃b,aC F e env=.ok (.bl b)/\∀G' H',aH W G H G' H'->Q b H'
def ub{e:E}(σ:St)(H:Hp)(Q:VK)(h:tN W F e σ H Q):tE X W F e σ H Q:=by
 obtain⟨H0,G,env,sr,p,e1,q⟩:=h
 exact⟨H0,G,env,sr,by rw [e1];exact q⟩
def yj{e:E}(σ:St)(H:Hp)(Q:Bool->Hp->Prop)(h:Lv W F e σ H Q):tT X W F e σ H Q:=by
 obtain⟨H0,G,env,sr,p,e1,q⟩:=h
 exact⟨H0,G,env,sr,by rw [e1];exact⟨p,rfl,q⟩⟩
def eh(C:dR Γ F W N sc k X){scope:Scope}{kk:Nat}{cH:List Nat}{xs:List Str}(h:jz N sc scope kk cH xs)(fp:List Addr)(s1:Shared)(H1:Hp)(A:Addr):dR Γ.zO F W (xs++freeOf scope) (cZ scope sc) k (bP X (xs++freeOf scope) scope (cu X.env (freeOf scope)) fp s1 H1 A):=
 ⟨rfl,eK C.fv,rfl,h.nd,C.K,C.mg,C.gs,C.bs,C.room,λf hf=>⟨(C.fns f hf).ex⟩,C.KZ,C.cls,C.xc,λq hq=>⟨(C.u9 q hq).ex⟩,C.any,(λz=>nomatch z),(λz=>nomatch z),(λz=>nomatch z)⟩
def GU{e:E}{p:Expr}(h:aS Γ N sc e p=true)(env:Env):∀x,foldedSetIterable p env x=pure x:=by
 intro x;cases p<;>first|rfl|(cases e<;>first|(exact bB h)|(rename_i q;cases q<;>exact bB h))
def gO{tg:Expr}{it:I}{p:Expr}(h:u3 Γ N sc tg it p=true)(env:Env):∀x,foldedSetIterable p env x=pure x:=by
 intro x;cases it with
 |seq e=>exact GU h env x
 |jj e=>cases p<;>first|rfl|(exact bB h)
 |kH a b=>cases p<;>first|rfl|(exact bB h)
 |enum e=>cases p<;>first|rfl|(exact bB h)
 |zip as=>cases p<;>first|rfl|(exact bB h)
 |sJ e=>cases p<;>first|rfl|(exact bB h)
def CW(W:Wd)(H0 G1 H1:Hp)(FX:Sl)(f:PV->Res (Option PV))(ps:List PV)(i:Nat)(ys:List V)(σ':St)(H':Hp):Prop:=
 i<=ps.length/\∃G',aH W G1 H1 G' H'/\SR W H0 FX σ' G' H'/\∃zs,aD f (ps.take i)=.ok zs/\zs.length<=i/\ah W G' zs ys
def tO(hK:W.K=X.K){kk:Nat}{cH:List Nat}{tg:Tg}{it:I}{elt:E}{ys:List Str}(cL:jc kk tg=true)(dA:fQ elt=true)(hs:cH.map (λi=>N[i]?)=ys.map some)(nd:ys.Nodup)(σ:St)(H:Hp)(Q:VK)(h:tF X W F (.comp kk cH tg it elt) σ H Q):
 zi (tI X W F it) kk (gT X.K tg) (tN W F elt) cH σ H Q:=by
 obtain⟨H0,G,env,sr,o⟩:=h
 rw [aC] at o;refine⟨H0,G,env,sr,o.bind.imp λps nk J G1 H1 g1 gi=>?_⟩
 by_cases qQ:¬ps.length<cK
 ·rw [if_neg qQ] at nk;exact nk.elim
 have hl:=Decidable.not_not.mp qQ
 rw [if_pos hl] at nk;generalize hf:(λx=>(tg.put x (List.replicate kk .no++eZ env cH)).bind λag=>(aC F elt ag).bind λy=>Res.ok (some y))=f at nk
 cases hc:aD f ps with
 |bad=>rw [hc] at nk;exact nk.elim
 |exc c=>
  exfalso
  have:∀(l:List PV) (c:Str),aD f l≠.exc c:=λl=>by
   induction l with
   |nil=>intro c z;cases z
   |cons a l ih=>
    intro c z;simp! [aD] at z;rcases Res.ip z with z|⟨o1,_,z⟩
    ·cases e:f a with
     |ok _=>rw [e] at z;cases z
     |exc _=>rw [e] at z;cases z
     |bad=>rw [e] at z;cases z
    ·rcases Res.ip z with z|⟨o2,_,z⟩
     ·exact ih c z
     ·cases z
  exact this _ _ hc
 |ok all=>
  rw [hc] at nk;obtain⟨xs,e1,fin⟩:=nk
  cases e1;have bq:=sr.grow g1
  refine⟨ps.length,CW W H0 G1 H1 (List.replicate kk .no++eZ env cH) f ps,⟨Nat.zero_le _,G1,.refl g1.sub,p8 kk bq hs nd,[],rfl,zzE _,.nil⟩,?_⟩
  rintro i made σ' H' ⟨hi,G',g',sr',zs,hz,HR,l⟩
  refine⟨by rw [l.length];exact zzV (zzU HR hi) (zzW hl (by decide)),?_⟩;obtain⟨ist,igo⟩:=gi.any i G' H' g'.g g'.h g'.sub
  by_cases hlast:i=ps.length
  ·refine .inl ⟨ist hlast,λp hp=>?_⟩
   rw [hlast,List.take_length,hc] at hz;cases hz;exact fin p made G' H' (g1.trans g') hp l
  ·have lY:i<ps.length:=by omega
   obtain⟨hgo,hyld⟩:=igo ps[i] (zzg lY)
   refine .inr ⟨hgo,lY,λx kq hy=>?_⟩
   obtain⟨sQ,g'',rx⟩:=hyld x kq hy
   obtain⟨o1,ho,hnext⟩:=qK hc (zzg lY) hz
   rw [<-hf] at ho;obtain⟨ag,he',ho⟩:=Res.aU ho
   obtain⟨y,Bt,ho⟩:=Res.aU ho
   cases ho;refine rb hK he' (sr'.grow g'') rx λσ2 fZ=>⟨H0,sQ,ag,fZ,y,Bt,λv G3 H3 g3 t=>?_⟩
   refine⟨lY,G3,g'.trans (g''.trans g3),(iQ cL he' fZ).grow g3,_,hnext,?_,?_⟩
   ·rw [zzM];show zs.length+1<=i+1;omega
   ·exact(ah.same (g''.trans g3).g zs l).append (.cons (t.rep dA) .nil)
def nj(hK:W.K=X.K){kk:Nat}{cH:List Nat}{tg:Tg}{it:I}{c elt:E}{ys:List Str}(cL:jc kk tg=true)(dA:fQ elt=true)(hs:cH.map (λi=>N[i]?)=ys.map some)(nd:ys.Nodup)(σ:St)(H:Hp)(Q:VK)(h:tF X W F (.bC kk cH tg it c elt) σ H Q):
 js (tI X W F it) kk (gT X.K tg) (Lv W F c) (tN W F elt) cH σ H Q:=by
 obtain⟨H0,G,env,sr,o⟩:=h
 rw [aC] at o;refine⟨H0,G,env,sr,o.bind.imp λps nk J G1 H1 g1 gi=>?_⟩
 by_cases qQ:¬ps.length<cK
 ·rw [if_neg qQ] at nk;exact nk.elim
 have hl:=Decidable.not_not.mp qQ
 rw [if_pos hl] at nk;generalize hf:(λx=>(tg.put x (List.replicate kk .no++eZ env cH)).bind λag=>(aC F c ag).bind λt=>lE t λt=>if t then(aC F elt ag).bind λy=>Res.ok (some y) else .ok none)=f at nk
 cases hc:aD f ps with
 |bad=>rw [hc] at nk;exact nk.elim
 |exc c=>
  exfalso
  have:∀(l:List PV) (c:Str),aD f l≠.exc c:=λl=>by
   induction l with
   |nil=>intro c z;cases z
   |cons a l ih=>
    intro c z;simp! [aD] at z;rcases Res.ip z with z|⟨o1,_,z⟩
    ·cases e:f a with
     |ok _=>rw [e] at z;cases z
     |exc _=>rw [e] at z;cases z
     |bad=>rw [e] at z;cases z
    ·rcases Res.ip z with z|⟨o2,_,z⟩
     ·exact ih c z
     ·cases z
  exact this _ _ hc
 |ok all=>
  rw [hc] at nk;obtain⟨xs,e1,fin⟩:=nk
  cases e1;have bq:=sr.grow g1
  refine⟨ps.length,CW W H0 G1 H1 (List.replicate kk .no++eZ env cH) f ps,⟨Nat.zero_le _,G1,.refl g1.sub,p8 kk bq hs nd,[],rfl,zzE _,.nil⟩,?_⟩
  rintro i made σ' H' ⟨hi,G',g',sr',zs,hz,HR,l⟩
  refine⟨by rw [l.length];exact zzV (zzU HR hi) (zzW hl (by decide)),?_⟩;obtain⟨ist,igo⟩:=gi.any i G' H' g'.g g'.h g'.sub
  by_cases hlast:i=ps.length
  ·refine .inl ⟨ist hlast,λp hp=>?_⟩
   rw [hlast,List.take_length,hc] at hz;cases hz;exact fin p made G' H' (g1.trans g') hp l
  ·have lY:i<ps.length:=by omega
   obtain⟨hgo,hyld⟩:=igo ps[i] (zzg lY)
   refine .inr ⟨hgo,lY,λx kq hy=>?_⟩
   obtain⟨sQ,g'',rx⟩:=hyld x kq hy
   obtain⟨o1,ho,hnext⟩:=qK hc (zzg lY) hz
   rw [<-hf] at ho;obtain⟨ag,he',ho⟩:=Res.aU ho
   obtain⟨t,ht,ho⟩:=Res.aU ho
   obtain⟨b,rfl⟩:∃b,t=.bl b:=by
    cases t<;>first|exact⟨_,rfl⟩|(cases ho)
   refine rb hK he' (sr'.grow g'') rx λσ2 fZ=>⟨H0,sQ,ag,fZ,b,ht,λG3 H3 g3=>?_⟩
   have jx:(if b=true then(aC F elt ag).bind λy=>Res.ok (some y) else .ok none)=Res.ok o1:=ho
   cases b with
   |true=>
    rw [if_pos rfl] at jx;refine L8 ?_;obtain⟨y,Bt,jx⟩:=Res.aU jx
    cases jx;refine⟨H0,G3,ag,fZ.grow g3,y,Bt,λv G4 H4 g4 t4=>?_⟩
    refine⟨lY,G4,g'.trans (g''.trans (g3.trans g4)),(iQ cL he' fZ).grow (g3.trans g4),_,hnext,?_,?_⟩
    ·rw [zzM];show zs.length+1<=i+1;omega
    ·exact(ah.same (g''.trans (g3.trans g4)).g zs l).append (.cons (t4.rep dA) .nil)
   |false=>
    rw [if_neg zzf] at jx;refine MV ?_;cases jx;refine⟨lY,G3,g'.trans (g''.trans g3),(iQ cL he' fZ).grow g3,_,hnext,?_,?_⟩
    ·rw [zzM];show zs.length+0<=i+1;omega
    ·show ah W G3 (zs++[]) made
     rw [zz6];exact ah.same (g''.trans g3).g zs l
def tU(C:dR Γ F W N sc k X){kk:Nat}{cH:List Nat}{tg:Tg}{it:I}{elt:E}{cV ft d9:Expr}{scope:Scope}{pos:Pos}(h:jz N sc scope kk cH (aG cV))(cL:jc kk tg=true)(dA:fQ elt=true)(hi:GI X W F cV it ft)(u9:∀x,foldedSetIterable ft X.env x=pure x)
 (w5:gq (aG cV++freeOf scope) (cZ scope sc) (kU scope) tg cV=true) (he:∀Y,dR Γ.zO F W (aG cV++freeOf scope) (cZ scope sc) k Y->GE Y W F elt d9):GF X W F (.comp kk cH tg it elt) (.ListComp d9 [⟨cV,ft,[],0⟩] scope pos):=by
 intro aa s σ H Q I hq;have Gg:(freeOf scope).Nodup:=(List.nodup_append.mp h.nd).2.1
 have rd:=tO (N:=N) C.K cL dA h.slots Gg σ H Q hq
 have:=Am (g:=gT X.K tg) (te:=tN W F elt) (xs:=aG cV) (ys:=freeOf scope) (is:=cH) (pos:=pos) C.calm (oV C.hN C.fv I.ok h) hi
  (λfp s1 H1 A=>ye (fn:=kU scope) (X:=bP X (aG cV++freeOf scope) scope (cu X.env (freeOf scope)) fp s1 H1 A) rfl h.nd (eK C.fv) rfl (λ_ z=>z) w5)
  (λfp s1 H1 A=>L2.PE.imp (he _ (eh C h fp s1 H1 A)) λσ H Q z=>ub σ H Q z) u9 aa s σ H Q I
 rw [h.len] at this;exact this rd
def nh(C:dR Γ F W N sc k X){kk:Nat}{cH:List Nat}{tg:Tg}{it:I}{c elt:E}{cV ft pc d9:Expr}{scope:Scope}{pos:Pos}(h:jz N sc scope kk cH (aG cV))(cL:jc kk tg=true)(dA:fQ elt=true)(hi:GI X W F cV it ft)(u9:∀x,foldedSetIterable ft X.env x=pure x)
 (w5:gq (aG cV++freeOf scope) (cZ scope sc) (kU scope) tg cV=true) (hc:∀Y,dR Γ.zO F W (aG cV++freeOf scope) (cZ scope sc) k Y->GT Y W F c pc) (he:∀Y,dR Γ.zO F W (aG cV++freeOf scope) (cZ scope sc) k Y->GE Y W F elt d9):
 GF X W F (.bC kk cH tg it c elt) (.ListComp d9 [⟨cV,ft,[pc],0⟩] scope pos):=by
 intro aa s σ H Q I hq;have Gg:(freeOf scope).Nodup:=(List.nodup_append.mp h.nd).2.1
 have rd:=nj (N:=N) C.K cL dA h.slots Gg σ H Q hq
 have:=vd (g:=gT X.K tg) (tt:=Lv W F c) (te:=tN W F elt) (xs:=aG cV) (ys:=freeOf scope) (is:=cH) (pos:=pos) C.calm (oV C.hN C.fv I.ok h) hi
  (λfp s1 H1 A=>ye (fn:=kU scope) (X:=bP X (aG cV++freeOf scope) scope (cu X.env (freeOf scope)) fp s1 H1 A) rfl h.nd (eK C.fv) rfl (λ_ z=>z) w5)
  (λfp s1 H1 A=>L2.PT.imp (hc _ (eh C h fp s1 H1 A)) λσ H Q z=>yj σ H Q z)
  (λfp s1 H1 A=>L2.PE.imp (he _ (eh C h fp s1 H1 A)) λσ H Q z=>ub σ H Q z) u9 aa s σ H Q I
 rw [h.len] at this;exact this rd
variable{Z:List (Addr×Obj)}{G H:Hp}
theorem IV(t:cS W G H)(sg:ay G H)(zs:∀b o,Z.lookup b=some o->G b=some (.cU o sM))(zc:∀b o,Z.lookup b=some o->∃v,o.data=.cell v):cS W (fA Z G) (fA Z H):=λP q m=>by
 obtain⟨n,ps,e,tr,al⟩:=t P q m
 refine⟨rk n,ps,?_,tr,λpos cv y=>?_⟩
 ·cases y:Z.lookup P with
  |none=>rw [eB y];exact e
  |some o=>rw [sg _ _ (zs P o y)] at e;cases e
 ·obtain⟨c',oc,nO,t',e1,e2,e3,e4⟩:=al pos cv y
  refine⟨c',oc,nO,t',e1,?_,e3,e4⟩;cases y:Z.lookup c' with
  |none=>rw [eB y];exact e2
  |some o=>
   rw [zs c' o y] at e2;cases e2;obtain⟨v,hv⟩:=zc c' _ y
   rw [e3] at hv;cases hv
def va{G:Hp}{p:PV}{v:V}(h:Rep W G p v):∀{ps:List PV} {vs:List V},ah W G ps vs->ah W G (ps++[p]) (vs++[v]):=by
 intro ps
 induction ps with
 |nil=>
  intro vs t;have:=t.length
  cases vs with
  |nil=>exact .cons h .nil
  |cons _ _=>cases this
 |cons q ps ih=>
  intro vs t;obtain⟨u,r,rfl,h1,t⟩:=t.bp
  exact .cons h1 (ih t)
def wU{G:Hp}:∀{ps:List PV} {vs:List V},ah W G ps vs->ah W G ps.reverse vs.reverse:=by
 intro ps
 induction ps with
 |nil=>
  intro vs t;have:=t.length
  cases vs with
  |nil=>exact .nil
  |cons _ _=>cases this
 |cons q ps ih=>
  intro vs t;obtain⟨u,r,rfl,h1,t⟩:=t.bp
  rw [List.reverse_cons,List.reverse_cons];exact va h1 (ih t)
theorem B4(C:dR Γ F W N sc k X){a:E}{pa:Expr}{p1 p2 pos xV:Pos}(hg:ff sc "list"=true)(hm:Γ.bs.contains "list"=true)(LQ:ff sc "reversed"=true)(Kh:Γ.bs.contains "reversed"=true)(ha:GE X W F a pa)(he:starEach [pa] X.env=(false,eval pa X.env)::starEach [] X.env):
 GE X W F (.yH a) (.Call (.Name "list" p1) [.Call (.Name "reversed" p2) [pa] [] xV] [] pos):=
 (q8 C.calm (dE C hg) (C.bs _ (zzn.mp hm)) (dE C LQ) (C.bs _ (zzn.mp Kh)) ha he).imp λσ H Q h=>by
  obtain⟨H0,G,env,sr,o⟩:=h
  rw [aC] at o;refine one sr o λp v G1 H1 g t bq o1=>?_
  cases p with
  |lst xs=>
   obtain⟨l,vs,rfl,h1,l1⟩:=t.top.lst bq.sub
   exact⟨l,vs,rfl,iP C.K h1,λp hp=>dD.lst (W:=W) (G:=G1) (H:=H1) (xs:=xs.reverse) (λw G' H' g' ix=>o1 w G' H' (g.trans g') (.of ix)) bq.sub (wU l1) hp⟩
  |_=>exact zzk o1
end
end Ci
namespace L2
open PySem PySem.Spec PyProof.Rows PySem.W
end L2
namespace Ci
open PySem L2
section
variable{Γ:Pg}{X:Cx}{W:Wd}{F:aM}{N:List Str}{sc:Scope}{k:Nat}
theorem FJ(C:dR Γ F W N sc k X){a b:E}{pa pk:Expr}{apos b8:Pos}(ha:GE X W F a pa)(hk:GE X W F b pk)(hb:attributeBase pa "get" X.env (eval pa X.env)=eval pa X.env)(hl:(apos.endLine==b8.line)=true)(hs:starEach [pk] X.env=(false,eval pk X.env)::starEach [] X.env):
 GE X W F (.get a b) (.Call (.Attribute pa "get" apos) [pk] [] b8):=
 (zr (by have:=C.room.un;omega) ha hk ⟨hb,by rw [hs];rfl,hl,by rw [hs];rfl⟩).imp λσ H Q h=>by
  obtain⟨H0,G,env,sr,o⟩:=h
  rw [aC] at o;refine one sr o λp v G1 H1 g t bq o1=>?_
  cases p with
  |bw ks vs=>
   obtain⟨d,us,rfl,n,hd,l⟩:=t.top.bw bq.sub
   refine⟨d,rfl,.inr ⟨_,hd⟩,?_⟩;refine one bq o1 λq u G2 H2 g2 t2 fZ o2=>?_
   obtain⟨d',us',e,n',hd',l'⟩:=(t.grow g2).top.bw fZ.sub
   cases e;cases hq:eN q with
   |none=>
    have o3:Out X W ((Res.of (eN q)).bind _) σ G2 H2 _:=o2
    rw [hq] at o3;exact zzk o3
   |some kk=>
    have o3:Out X W ((Res.of (eN q)).bind _) σ G2 H2 _:=o2
    rw [hq] at o3;have lK:=eP hq
    subst lK;obtain⟨b',rfl,hb'⟩:=Top.tupI fZ.sub rfl t2.top
    refine⟨_,.inr ⟨_,kk.map .inl,b',hd',rfl,?_,rfl⟩,?_⟩
    ·rw [fZ.sub _ _ hb',List.map_map];rfl
    ·rw [show iI (kz ks us') (kk.map .inl)=_ from iN kk ks us'];cases hv:aW ks vs kk with
     |some pv=>
      obtain⟨w',e1,ix⟩:=o7 l' hv
      rw [e1];have o4:Out X W (Res.ok ((aW ks vs kk).getD .aA)) σ G2 H2 _:=o3
      rw [hv] at o4;exact o4 w' G2 H2 (g.trans g2) (.of ix)
     |none=>
      have:aW ks us' kk=none:=by
       have h1:=fM kk ks us' n'
       have h2:=fM kk ks vs (by rw [l'.length] at n';exact n')
       rw [hv] at h2;rw [<-h2] at h1;exact Option.isSome_eq_false_iff.mp h1 |> Option.isNone_iff_eq_none.mp
      rw [this];have o4:Out X W (Res.ok ((aW ks vs kk).getD .aA)) σ G2 H2 _:=o3
      rw [hv] at o4;exact o4 .aA G2 H2 (g.trans g2) (.of .n)
  |_=>exact zzk o1
end
end Ci
namespace L2
open PySem PySem.Spec PyProof.Rows
noncomputable def Mp(tk tv:TE):TE:=λσ H Q=>∀p,H p=none->tk σ (upd H p (.dT [])) λx H1=>tv σ H1 λy H2=>∃b ks,x=.ref b/\H2 p=some (.dT [])/\H2 b=some (.tup (ks.map kV))/\Q (.ref p) (upd H2 p (.dT (putK [] ks y)))
def FK{X:Cx}{pos:Pos}{k v:Expr}{tk tv:TE}(hu:X.A.units<cLine)(hk:PE X k tk)(hv:PE X v tv):PE X (.Dict [some k] [v] pos) (Mp tk tv):=by
 intro aa s σ H Q I q;have hn:=I.bz.fresh (zzE (zz9 s))
 have I1:=I.laid (a:=(zz9 s)) (o:=.dT []) (h':=s.heap.push {cls:=.type "dict",data:=.dict #[]}) (t':=s.toks) (λ_ _ q=>zzB _ q) (zzE _) (kE s.heap I.big)
 refine wpAny_Dict_any rfl rfl (by simp) (show 1<=15 by decide) (pairTrees_cons_walk (bK (hk aa _ σ _ _ I1 (q _ hn)) λu s1 ⟨x,H1,I1',rx,q1⟩=>bK (hv aa s1 σ H1 _ I1' q1) λw2 s2 ⟨y,H2,I2,ry,q2⟩=>pairTrees_nil_walk ?_))
 obtain⟨b,ks,rfl,e,hb,q3⟩:=q2
 cases rx;unfold storeAll;refine wpAny_forIn_list _ (λrest _ s'=>(rest=[(Value.ref b,w2)]/\s'=s2)\/(rest=[]/\∃v' H',Inv X aa σ H' s'/\RelV v' (.ref (zz9 s))/\Q v' H')) _ (λx rest _ s' hI=>?_) (λ_ s' hI=>?_) _ _ (.inl ⟨rfl,rfl⟩)
 ·rcases hI with⟨h1,rfl⟩|⟨h1,_⟩
  ·cases h1;refine zzA (xu hu I2 e hb (by decide) ry λh' t hs I3=>zzG (.inr ⟨rfl,.ref _,_,I3,rfl,q3⟩))
  ·cases h1
 ·rcases hI with⟨h1,_⟩|⟨_,v',H',I',r',q'⟩
  ·cases h1
  ·exact⟨v',H',I',r',q'⟩
def Cz{X:Cx}{pos:Pos}{k v:Expr}{n:Nat}{y:V}(hu:X.A.units<cLine)(hk:PE X k (Ax n))(hv:PE X v (tC y)):PE X (.Dict [some k] [v] pos) (λσ H Q=>∃b ks,σ[n]?=some (some (.ref b))/\H b=some (.tup (ks.map kV))/\∀p o,H p=none->Q (.ref p) (upd H p (.cU o (.dT (putK [] ks y))))):=by
 intro aa s σ H Q I ⟨b,ks,hb,ht,q⟩;refine wpAny_mono (FK hu hk hv aa s σ H (λv' H'=>∃p,v'=.ref p/\H p=none/\H'=upd H p (.dT (putK [] ks y))) I λp hp=>⟨_,hb,b,ks,rfl,au,?_,p,rfl,hp,?_⟩) ?_ λ_ _ z=>z
 ·rw [ai (λz=>by rw [z,hp] at ht;cases ht)];exact ht
 ·exact tP
 ·rintro u s' ⟨v',H',I',rv,p,rfl,hp,rfl⟩
  obtain⟨o,J⟩:=I'.freeze au
  rw [tP] at J;exact⟨_,_,J,rv,q p o hp⟩
end L2
namespace Ci
open PySem L2
section
variable{Γ:Pg}{X:Cx}{W:Wd}{F:aM}{N:List Str}{sc:Scope}{k:Nat}
def Ad(C:dR Γ F W N sc k X){a:E}{n:Int}{pa:Expr}{c1:Nat}{c2 q1 q4 q5:Pos}(hg:ff sc "max"=true)(hm:Γ.bs.contains "max"=true)(ha:GE X W F a pa)(hs:starEach [pa] X.env=(false,eval pa X.env)::starEach [] X.env):
 GE X W F (.maxD a n) (.Call (.Name "max" q1) [pa] [⟨some "default",.Constant (.int n) c1 c2,q4⟩] q5):=by
 intro aa s σ H Q I h;obtain⟨H0,G,env,sr,o⟩:=h
 rw [aC] at o;refine wpAny_Call_Name_kw (dg I (dE C hg) (C.bs _ (zzn.mp hm)) (u:=.builtin "max") (by decide+kernel) ?_);refine PyProof.Rows.callWith_kw (bK ((bO ha c7 hs) q5 aa s σ H (λvs H1=>∃p ns,vs=[.ref p]/\dw X.K H1 p (ns.map V.int)/\Q (.int (maxD ns n)) H1) I ?_) λus s1 ⟨vs,H1,I1,r1,q1⟩=>?_) (by rw [hs];rfl) (by rw [hs];rfl)
 ·refine one sr o λx v G1 H1 g1 t bq o1=>?_
  cases x with
  |lst xs=>
   obtain⟨a',vs,rfl,h1,l1⟩:=t.top.lst bq.sub
   have o2:Out X W ((Res.of (intsOf xs)).bind _) σ G1 H1 _:=o1
   cases e:intsOf xs with
   |none=>rw [e] at o2;exact zzk o2
   |some ns=>
    rw [e] at o2;cases gN l1 e;exact⟨a',ns,rfl,iP C.K h1,o2 _ G1 H1 g1 (.of .i)⟩
  |_=>exact zzk o1
 ·obtain⟨p,ns,rfl,hp,q⟩:=q1
  obtain⟨u,rfl,ru⟩:=vals1 r1
  cases ru;refine PyProof.Rows.kws_cons (bK (xO aa s1 σ H1 (λv2 H2=>v2=.int n/\H2=H1) I1 ⟨rfl,rfl⟩) λu s2 hu=>PyProof.Rows.kws_nil ?_)
  obtain⟨v2,H2,I2,ru2,rfl,rfl⟩:=hu
  obtain⟨t,rfl⟩:=ru2
  exact vN C.calm I2 hp q
theorem Ee(C:dR Γ F W N sc k X){n:Nat}{z:Str}{zp cp pos:Pos}{j:Nat}(hz:N[n]?=some z)(Rt:eX sc z=true)(O1:okN z=true):GE X W F (.JJ n) (.Dict [some (.Name z zp)] [.Constant .none j cp] pos):=
 (Cz (by have:=C.room.un;omega) (km (by rw [C.hN];exact hz) (nC C Rt) (fJ O1).1 (fJ O1).2.1) yJ).imp λσ H Q h=>by
  obtain⟨H0,G,env,sr,o⟩:=h
  rw [aC] at o;cases e:env[n]? with
  |none=>rw [e] at o;exact zzk o
  |some sl=>
   rw [e] at o;cases sl with
   |val kp=>
    have o':Out X W ((Res.of (eN kp)).bind λkk=>Res.ok (PV.bw [kk] [.aA])) σ G H _:=o
    cases hk:eN kp with
    |none=>rw [hk] at o';exact zzk o'
    |some kk=>
     rw [hk] at o';have e2:=eP hk
     subst e2;obtain⟨v,hv,rv⟩:=sr.slot n _ e
     obtain⟨v',rfl,rv⟩:=rv
     obtain⟨ad,rfl,hb⟩:=tG rv
     refine⟨ad,ki kk,hv,by rw [rX];exact sr.sub _ _ hb,λp ob hp=>?_⟩
     refine o' _ _ _ (.new sr.sub hp) (.of ?_);simp! [Rep];exact⟨p,ob,[.aA],rfl,rfl,au,ah.same (bf (sr.sub.free hp)) _ (.cons .n .nil)⟩
   |no=>exact zzk o
   |own _=>exact zzk o
   |fn _ _ _=>exact zzk o
theorem lend{H0 G H:Hp}(sg:ay G H):∀{vs:List V} {ps:List PV},Paired (λv p=>Top W H0 G H p v) vs ps->(ps.all λp=>!p9 p)=true->∃G',ay G G'/\ay G' H/\(∀x,G x=none->G' x≠none->∃us,H x=some (.lst us))/\ah W G' ps vs
 |_,_,.nil,_=>⟨G,ay.refl _,sg,λx h1 h2=>absurd h1 h2,.nil⟩
 |_,_,.cons (a:=v) (b:=p) h t,hd=>by
  rw [List.all_cons,zza] at hd;obtain⟨G',h1,h2,h3,h4⟩:=lend sg t hd.2
  rcases h with h|h
  ·exact⟨G',h1,h2,h3,.cons (Rep.same h1 p h) h4⟩
  ·cases p with
   |lst xs=>
    obtain⟨a,us,rfl,e1,e2,e3,l⟩:=h
    have s1:ay G' (upd G' a (.lst us)):=λb o e=>by
     by_cases hb:b=a
     ·subst hb;have:=h2 _ _ e
      rw [e1] at this;cases this;exact au
     ·rw [ai hb];exact e
    refine⟨upd G' a (.lst us),λb o e=>s1 _ _ (h1 _ _ e),λb o e=>?_,λx n1 n2=>?_,.cons ?_ (ah.same s1 _ h4)⟩
    ·by_cases hb:b=a
     ·subst hb;rw [au] at e;cases e;exact e1
     ·rw [ai hb] at e;exact h2 _ _ e
    ·by_cases hb:x=a
     ·subst hb;exact⟨us,e1⟩
     ·rw [ai hb] at n2;exact h3 x n1 n2
    ·exact .l (.inl (.inl au)) (ah.same (λb o e=>s1 _ _ (h1 _ _ e)) _ l)
   |bw ks qs=>cases hd.1
   |_=>exact h.elim
def yq{G G':Hp}{p:PV}{v:V}(h:eY p=true)(r:Rep W G p v):Rep W G' p v:=by
 cases p<;>first|(exact bB h)|(simpa only [Rep] using r)
def wc(C:dR Γ F W N sc k X){f:Str}{e:E}{es:Es}{p:Expr}{ps:List Expr}{np pos:Pos}(hf:Γ.fs.contains f=true)(hg:ff sc f=true)(ho:okN f=true)(ha:GA X W F (.cons e es) (p::ps))
 (cJ:starEach (p::ps) X.env=(false,eval p X.env)::starEach ps X.env) (hpl:(backTo pos (starEach ps X.env)).any (·.1)=false):GE X W F (.iV f (.cons e es)) (.Call (.Name f np) (p::ps) [] pos):=by
 intro aa s σ H Q I h;obtain⟨H0,G,env,sr,o⟩:=h
 rw [aC] at o;obtain⟨fa,fd,pn,FO,hm,hk,hb,hlen⟩:=(C.fns f hf).ex
 refine wpAny_Call_Name_kw (gZ I (dE C hg) hm ?_ (fJ ho).1);refine PySem.W.callWith_K (h₀:=X.base) I.ok.mod.Lu hk (bK (ha pos aa s σ H (λvs H1=>∃G1 as,ay G1 H1/\cS W G1 H1/\ah W G1 as vs/\Out X W (F f as) σ G1 H1 λp=>dD W G1 H1 p Q) I ?_) λus s1 ⟨vs,H1,I1,r,q⟩=>⟨I1.sE,?_⟩) cJ hpl
 ·refine args sr o λas vs G1 H1 g1 t bq o1=>?_
  cases hd:as.all λp=>!p9 p with
  |false=>rw [hd] at o1;exact zzk o1
  |true=>
   rw [hd] at o1;obtain⟨G',l1,l2,l3,l4⟩:=lend bq.sub t.top hd
   have Mw:∀a,H1 a≠none->(∀vs,H1 a≠some (.lst vs))->G1 a=none->G' a=none:=λa h1 h2 h3=>by
    cases e:G' a with
    |none=>rfl
    |some o=>obtain⟨us,hu⟩:=l3 a h3 (by rw [e];exact λz=>nomatch z);exact absurd hu (h2 us)
   have tb:cS W G' H1:=λP q m=>by
    obtain⟨n,ps,e,tr,al⟩:=bq.tab P q m
    refine⟨Mw P (by rw [e];exact λz=>nomatch z) (by rw [e];exact λ_ z=>nomatch z) n,ps,e,tr,λpos cv y=>?_⟩
    obtain⟨c',oc,nO,t,e1,e2,e3,e4⟩:=al pos cv y
    exact⟨c',oc,nO,t,e1,l1 _ _ e2,e3,e4⟩
   refine⟨G',as,l2,tb,l4,?_⟩;cases z:F f as with
   |bad=>rw [z] at o1;exact zzk o1
   |exc c=>rw [z] at o1;exact zzk o1
   |ok r=>
    rw [z] at o1;cases hs:eY r with
    |false=>
     have o2:Out X W (if eY r=true then Res.ok r else .bad) σ G1 H1 _:=o1
     rw [hs] at o2;exact zzk o2
    |true=>
     have o2:Out X W (if eY r=true then Res.ok r else .bad) σ G1 H1 _:=o1
     rw [hs] at o2;intro v G2 H2 g2 rv
     classical
     let G3:Hp:=λx=>if G1 x=none/\G' x≠none then none else G2 x
     have e3:∀x,¬(G1 x=none/\G' x≠none)->G3 x=G2 x:=λx h=>if_neg h
     have e4:∀x,(G1 x=none/\G' x≠none)->G3 x=none:=λx h=>if_pos h
     refine o2 v G3 H2 (g1.trans ⟨λb ob eb=>?_,g2.h,λb ob eb=>?_,λa h1 h2 h3=>?_,λ_=>?_⟩) (.of (yq hs rv))
     ·rw [e3 b (λz=>by rw [z.1] at eb;cases eb)];exact g2.g _ _ (l1 _ _ eb)
     ·by_cases hb:G1 b=none/\G' b≠none
      ·rw [e4 b hb] at eb;cases eb
      ·rw [e3 b hb] at eb;exact g2.sub _ _ eb
     ·by_cases hb:G1 a=none/\G' a≠none
      ·exact e4 a hb
      ·rw [e3 a hb];exact g2.own a h1 h2 (Classical.byContradiction λz=>hb ⟨h3,z⟩)
     ·have QR:=g2.tab tb
      intro P q m;obtain⟨n,ps,e,tr,al⟩:=QR P q m
      have gP:G' P=none:=(tb P q m).1
      refine⟨by rw [e3 P (λz=>z.2 gP)];exact n,ps,e,tr,λpos cv y=>?_⟩
      obtain⟨c',oc,nO,t,q1,q2,q3,q4⟩:=al pos cv y
      refine⟨c',oc,nO,t,q1,?_,q3,q4⟩;rw [e3 c' λz=>?_]
      ·exact q2
      ·obtain⟨us,hu⟩:=l3 c' z.1 z.2
       have w1:=g2.h.at hu (λ_ z=>nomatch z)
       rw [g2.sub _ _ q2] at w1;cases w1
 ·obtain⟨G1,as,sg,tb,l,o1⟩:=q
  exact ke C.rm FO hb (λz=>by rw [l.length];exact hlen as z) I1 sg tb l r o1
def FD{X:Cx}{e:E}{p:Expr}(h:GE X W F e p)(he:∀whole,isTrue p X.env whole=(do let v<-whole;standAt p.pos;holding [v] (truthy v))):GT X W F e p:=
 L2.PT.imp (Eb h he) λσ H Q hq=>DV σ H Q hq
structure O6(X:Cx)(W:Wd)(F:aM)(e:E)(p:Expr):Prop where
 ge:GE X W F e p
 gt:fg e=true->GT X W F e p
 gw:fg e=true->∀op vs pos,p=.BoolOp op vs pos->GW X W F e p
def ba{X:Cx}{e:E}{p:Expr}(h:GE X W F e p)(he:∀whole,isTrue p X.env whole=(do let v<-whole;standAt p.pos;holding [v] (truthy v)))(hb:∀op vs pos,p≠.BoolOp op vs pos):O6 X W F e p:=
 ⟨h,λ_=>FD h he,λ_ op vs pos e=>absurd e (hb op vs pos)⟩
def isTrue_plain{p:Expr}{env:Env}(h:(match p with|.UnaryOp .Not _ _=>false|.BoolOp .. =>false|.IfExp .. =>false|.Compare .. =>false|_=>true)=true):∀whole,isTrue p env whole=(do let v<-whole;standAt p.pos;holding [v] (truthy v)):=by
 intro whole;cases p with
 |UnaryOp op a pos=>cases op<;>first|rfl|(exact bB h)
 |BoolOp _ _ _=>exact bB h
 |IfExp _ _ _ _=>exact bB h
 |Compare _ _ _ _=>exact bB h
 |_=>rfl
def xn{po:Expr}{m:Str}{env:Env}(h:DQ po=true):attributeBase po m env (eval po env)=eval po env:=by
 cases po with
 |Call f as kws p=>
  cases as with
  |nil=>exact bB h
  |cons a as=>cases f<;>rfl
 |_=>rfl
def GJ{X:Cx}{q:PV}{c:Const}{kk:Nat}{pos:Pos}(h:IC q c=true):GE X W F (.cst q) (.Constant c kk pos):=by
 cases q with
 |aA=>cases xR h;exact ib yJ λG=>.n
 |bl b=>
  obtain⟨x,e,h⟩:=aj h
  cases E4 e;cases eq_of_beq h;exact ib II λG=>.b
 |int i=>
  obtain⟨x,e,h⟩:=aj h
  cases xQ e;cases eq_of_beq h;exact ib xO λG=>.i
 |str z=>
  obtain⟨x,e,h⟩:=aj h
  cases v8 e;cases eq_of_beq h;exact ib xK λG=>.s
 |_=>exact bB h
def v9{α:Type}{r:Res α}{c:α->Prop} [∀a,Decidable (c a)]{f:α->Res (List PV)}{q:PV}(e:(r.bind λa=>if c a then(f a).bind λys=>.ok (.lst ys) else .bad)=.ok q):∃ys,q=.lst ys:=by
 obtain⟨ps,_,e⟩:=Res.aU e
 split at e
 ·obtain⟨ys,_,e⟩:=Res.aU e
  cases e;exact⟨_,rfl⟩
 ·cases e
def um{kk:Nat}{cH:List Nat}{tg:Tg}{it:I}{elt:E}(env:Sl)(q:PV)(e:aC F (.comp kk cH tg it elt) env=.ok q):∃ys,q=.lst ys:=by
 rw [aC] at e;exact v9 e
def mR{kk:Nat}{cH:List Nat}{tg:Tg}{it:I}{c elt:E}(env:Sl)(q:PV)(e:aC F (.bC kk cH tg it c elt) env=.ok q):∃ys,q=.lst ys:=by
 rw [aC] at e;exact v9 e
mutual
theorem aZ:∀(e:E) {Γ:Pg} {N:List Str} {sc:Scope} {X:Cx} (C:dR Γ F W N sc k X) (p:Expr),aS Γ N sc e p=true->O6 X W F e p
 |.var i,Γ,N,sc,X,C,p,h=>by
  obtain⟨x,_,rfl,h9⟩:=Ib h
  clear h
  have h:=h9
  clear h9
  exact ba (Ed C h) (λ_=>rfl) (λ_ _ _ z=>nomatch z)
 |.f9 i,Γ,N,sc,X,C,p,h=>by
  obtain⟨x,_,rfl,h9⟩:=Ib h
  clear h
  have h:=h9
  clear h9
  exact ba (Hb C h) (λ_=>rfl) (λ_ _ _ z=>nomatch z)
 |.cst q,Γ,N,sc,X,C,p,h=>by
  obtain⟨c,_,_,rfl,h9⟩:=LX h
  clear h
  have h:=h9
  clear h9
  refine ba (GJ h) (λ_=>rfl) (λ_ _ _ z=>nomatch z)
 |.glob g q,Γ,N,sc,X,C,p,h=>by
  obtain⟨x,_,rfl,h9⟩:=Ib h
  clear h
  have h:=h9
  clear h9
  exact ba (C7 C h) (λ_=>rfl) (λ_ _ _ z=>nomatch z)
 |.call f as,Γ,N,sc,X,C,p,h=>by
  obtain⟨g,args,_,_,rfl,h9⟩:=vU h
  clear h
  have h:=h9
  clear h9
  replace h:=ax h
  try simp! [zza,zzy] at h
  obtain⟨⟨⟨⟨⟨rfl,h1⟩,h2⟩,h3⟩,h4⟩,h5⟩:=h
  have ga:=i3 as C args h5
  cases as with
  |nil=>
   cases args with
   |nil=>exact ba (yC C h1 h2 h3) (λ_=>rfl) (λ_ _ _ z=>nomatch z)
   |cons _ _=>exact bB h5
  |cons e es=>
   cases args with
   |nil=>exact bB h5
   |cons q qs=>
    have h6:=ax h5
    exact ba (Cb C h1 h2 h3 h4 ga (notStar h6.1 _ _) (dH h6.2 _ _)) (λ_=>rfl) (λ_ _ _ z=>nomatch z)
 |.iV f as,Γ,N,sc,X,C,p,h=>by
  obtain⟨g,args,_,_,rfl,h9⟩:=vU h
  clear h
  replace h:=ax h9
  clear h9
  try simp! [zza,zzy] at h
  obtain⟨⟨⟨⟨⟨rfl,h1⟩,h2⟩,h3⟩,h4⟩,h5⟩:=h
  have ga:=i3 as C args h5
  cases as with
  |nil=>exact bB h4
  |cons e es=>
   cases args with
   |nil=>exact bB h5
   |cons q qs=>
    have h6:=ax h5
    exact ba (wc C h1 h2 h3 ga (notStar h6.1 _ _) (dH h6.2 _ _)) (λ_=>rfl) (λ_ _ _ z=>nomatch z)
 |.blt b as,Γ,N,sc,X,C,p,h=>by
  obtain⟨g,args,_,_,rfl,h9⟩:=vU h
  clear h
  have h:=h9
  clear h9
  replace h:=ax h
  try simp! [zza,zzy] at h
  obtain⟨⟨⟨⟨rfl,h1⟩,h2⟩,h3⟩,h5⟩:=h
  have ga:=i3 as C args h5
  cases as with
  |nil=>exact bB h3
  |cons e es=>
   cases args with
   |nil=>exact bB h5
   |cons q qs=>
    have h6:=ax h5
    exact ba (Fs C b h1 h2 ga (notStar h6.1 _ _) (dH h6.2 _ _)) (λ_=>rfl) (λ_ _ _ z=>nomatch z)
 |.ty t a,Γ,N,sc,X,C,p,h=>by
  obtain⟨g,args,_,_,rfl,h9⟩:=vU h
  clear h
  have h:=h9
  clear h9
  obtain⟨pa,pb,z2,h2⟩:=BZ h
  obtain⟨tn,_,z3,h3⟩:=Ib h2
  dsimp only at z2 z3;subst z2 z3
  clear h h2
  have h:=h3
  clear h3
  replace h:=ax h
  try simp! [zza,zzy] at h
  obtain⟨⟨⟨⟨⟨⟨rfl,h1⟩,h2⟩,rfl⟩,h3⟩,h4⟩,h5⟩:=h
  exact ba (Jh C h1 h2 h3 h4 (aZ a C pa h5).ge (notStar h5)) (λ_=>rfl) (λ_ _ _ z=>nomatch z)
 |.bin o a b,Γ,N,sc,X,C,p,h=>by
  obtain⟨q,e,h1⟩:=aj h
  obtain⟨_,rfl⟩:=F6 e
  clear h
  have h:=ax h1
  have h0:=ax h.1
  rw [<-zzY h0.1];exact ba (G9 C (aZ a C _ h0.2).ge (aZ b C _ h.2).ge) (λ_=>rfl) (λ_ _ _ z=>nomatch z)
 |.cmp o a b,Γ,N,sc,X,C,p,h=>by
  obtain⟨pa,ops,cs,_,rfl,h1⟩:=P6 h
  obtain⟨op,z2,h2⟩:=fj h1
  obtain⟨pb,z3,h3⟩:=fj h2
  dsimp only at z2 z3;subst z2 z3
  clear h h1 h2
  have h:=h3
  clear h3
  replace h:=ax h
  have h0:=ax h.1
  cases zzY h0.1;have h1:=h0.2
  have h2:=h.2
  exact⟨GQ C (aZ a C _ h1).ge (aZ b C _ h2).ge (nW h2 _),λ_=>GP C (aZ a C _ h1).ge (aZ b C _ h2).ge (nW h2 _),(λ_ _ _ _ z=>nomatch z)⟩
 |.ch o1 o2 a b c,Γ,N,sc,X,C,p,h=>by
  obtain⟨pa,ops,cs,_,rfl,h1⟩:=P6 h
  obtain⟨op1,op2,z2,h2⟩:=BZ h1
  obtain⟨pb,pc,z3,h3⟩:=BZ h2
  dsimp only at z2 z3;subst z2 z3
  clear h h1 h2
  have h:=h3
  clear h3
  replace h:=ax h
  try simp! [zza,zzN] at h
  obtain⟨⟨⟨⟨rfl,rfl⟩,h1⟩,h2⟩,h3⟩:=h
  have hm:lastMarks [pj o1,pj o2] [pb,pc]=false:=nW h3 _
  exact⟨JM C (aZ a C _ h1).ge (aZ b C _ h2).ge (aZ c C _ h3).ge hm,λ_=>Ji C (aZ a C _ h1).ge (aZ b C _ h2).ge (aZ c C _ h3).ge hm,(λ_ _ _ _ z=>nomatch z)⟩
 |.not a,Γ,N,sc,X,C,p,h=>by
  obtain⟨o,pa,_,rfl,h1⟩:=OP h
  clear h
  have h:=ax h1
  cases wH h.1;have s:=aZ a C pa h.2
  exact⟨EB s.ge,λz=>Gh (s.gt (by simpa only [fg] using z)),(λ_ _ _ _ z=>nomatch z)⟩
 |.neg a,Γ,N,sc,X,C,p,h=>by
  obtain⟨o,pa,_,rfl,h1⟩:=OP h
  clear h
  have h:=ax h1
  cases wN h.1;exact ba (En (aZ a C pa h.2).ge) (λ_=>rfl) (λ_ _ _ z=>nomatch z)
 |.and a b,Γ,N,sc,X,C,p,h=>by
  obtain⟨o,vs,pos,rfl,h1⟩:=PQ h
  obtain⟨⟨pa,pb⟩,e2,h2⟩:=aj h1
  clear h h1
  have h:=ax h2
  clear h2
  try simp! [zza] at h
  obtain⟨⟨⟨h0,he⟩,h1⟩,h2⟩:=h
  cases y7 h0;have sa:=aZ a C pa h1
  have sb:=aZ b C pb h2
  rcases wm e2 with z|⟨q,c,r,z,z2⟩
  ·dsimp only at z;subst z;have gw:fg (.and a b)=true->GW X W F (.and a b) (.BoolOp .And [pa,pb] pos):=λz=>by
    have z:=ax z
    exact zo (sa.gt z.1) (pw_and1 (sb.gt z.2))
   exact⟨wO he sa.ge (xT sb.ge),λz=>(gw z).pt,λz _ _ _ _=>gw z⟩
  ·dsimp only at z z2;subst z z2;have gw:fg (.and a b)=true->GW X W F (.and a b) (.BoolOp .And (pa::q::c::r) pos):=λz=>by
    have z:=ax z
    exact zo (sa.gt z.1) (sb.gw z.2 _ _ _ rfl)
   exact⟨wO he sa.ge sb.ge,λz=>(gw z).pt,λz _ _ _ _=>gw z⟩
 |.or a b,Γ,N,sc,X,C,p,h=>by
  obtain⟨o,vs,pos,rfl,h1⟩:=PQ h
  obtain⟨⟨pa,pb⟩,e2,h2⟩:=aj h1
  clear h h1
  have h:=ax h2
  clear h2
  try simp! [zza] at h
  obtain⟨⟨⟨h0,he⟩,h1⟩,h2⟩:=h
  cases A2 h0;have sa:=aZ a C pa h1
  have sb:=aZ b C pb h2
  rcases wm e2 with z|⟨q,c,r,z,z2⟩
  ·dsimp only at z;subst z;have gw:fg (.or a b)=true->GW X W F (.or a b) (.BoolOp .Or [pa,pb] pos):=λz=>by
    have z:=ax z
    exact DW (sa.gt z.1) (pw_or1 (sb.gt z.2))
   exact⟨Ds he sa.ge (xT sb.ge),λz=>(gw z).pt,λz _ _ _ _=>gw z⟩
  ·dsimp only at z z2;subst z z2;have gw:fg (.or a b)=true->GW X W F (.or a b) (.BoolOp .Or (pa::q::c::r) pos):=λz=>by
    have z:=ax z
    exact DW (sa.gt z.1) (sb.gw z.2 _ _ _ rfl)
   exact⟨Ds he sa.ge sb.ge,λz=>(gw z).pt,λz _ _ _ _=>gw z⟩
 |.ite c a b,Γ,N,sc,X,C,p,h=>by
  obtain⟨q,e,h1⟩:=aj h
  obtain⟨_,rfl⟩:=GG e
  clear h
  have h:=ax h1
  clear h1
  try simp! [zza] at h
  obtain⟨⟨⟨⟨⟨h0,h1⟩,h2⟩,h3⟩,h4⟩,h5⟩:=h
  exact⟨Hh h1 h2 ((aZ c C _ h3).gt h0) (aZ a C _ h4).ge (aZ b C _ h5).ge,(λz=>nomatch z),(λ_ _ _ _ z=>nomatch z)⟩
 |.tup as,Γ,N,sc,X,C,p,h=>by
  obtain⟨ps,e,h1⟩:=aj h
  obtain⟨_,_,rfl⟩:=nK e
  clear h
  have h:=ax h1
  have h0:=ax h.1
  exact ba (Ht h0.1 (zzY h0.2) (i3 as C _ h.2)) (λ_=>rfl) (λ_ _ _ z=>nomatch z)
 |.lst as,Γ,N,sc,X,C,p,h=>by
  obtain⟨ps,e,h1⟩:=aj h
  obtain⟨_,rfl⟩:=yM e
  clear h
  have h:=ax h1
  have h0:=ax h.1
  exact ba ((yP h0.1 (zzY h0.2) (i3 as C _ h.2)).ge lst_is) (λ_=>rfl) (λ_ _ _ z=>nomatch z)
 |.sub a b,Γ,N,sc,X,C,p,h=>by
  obtain⟨pa,pb,_,rfl,h9⟩:=OI h
  clear h
  have h:=h9
  clear h9
  replace h:=ax h
  exact ba (Fo C (aZ a C _ h.1).ge (aZ b C _ h.2).ge (ym h.2)) (λ_=>rfl) (λ_ _ _ z=>nomatch z)
 |.get a k,Γ,N,sc,X,C,p,h=>by
  obtain⟨⟨f,as,kws,pos⟩,e3,h3⟩:=aj h
  have z3:=kJ e3
  obtain⟨⟨po,attr,apos⟩,e4,h4⟩:=aj h3
  have z4:=yf e4
  obtain⟨pk,z5,h5⟩:=fj h4
  have g:=ax h5
  simp! [zza] at g;obtain⟨⟨⟨⟨⟨n1,e1⟩,h6⟩,h7⟩,h8⟩,h9⟩:=g
  have z6:=CK n1
  cases zzy.mp e1;dsimp only at z3 z4 z5 z6;subst z3 z4 z5 z6;exact ba (FJ C (aZ a C po h8).ge (aZ k C pk h9).ge (xn h7) h6 (notStar h9 _ _)) (λ_=>rfl) (λ_ _ _ z=>nomatch z)
 |.maxD a n,Γ,N,sc,X,C,p,h=>by
  obtain⟨⟨f,as,kws,pos⟩,e3,h3⟩:=aj h
  have z3:=kJ e3
  obtain⟨g,gp,z4,h4⟩:=Ib h3
  obtain⟨pa,z5,h5⟩:=fj h4
  obtain⟨⟨kn,kv⟩,e6,h6⟩:=aj h5
  obtain⟨kp,z6⟩:=Fj e6
  obtain⟨c,c1,c2,z7,h7⟩:=LX h6
  have g:=ax h7
  simp! [zza] at g;obtain⟨⟨⟨⟨⟨e1,h1⟩,h2⟩,e2⟩,e3⟩,h8⟩:=g
  cases zzy.mp e1;cases zzy.mp e2;have z8:=xQ (eq_of_beq e3)
  dsimp only at z3 z4 z5 z6 z7 z8;subst z3 z4 z5 z6 z7 z8;exact ba (Ad C h1 h2 (aZ a C pa h8).ge (notStar h8 _ _)) (λ_=>rfl) (λ_ _ _ z=>nomatch z)
 |.JJ n,Γ,N,sc,X,C,p,h=>by
  obtain⟨⟨pk,pv⟩,e1,h1⟩:=aj h
  obtain⟨_,z1⟩:=FG e1
  obtain⟨z,zp,z2,h2⟩:=Ib h1
  obtain⟨c,c1,c2,z3,h3⟩:=LX h2
  have g:=ax h3
  simp! [zza] at g;obtain⟨⟨⟨g1,g2⟩,g3⟩,g4⟩:=g
  have z4:=xR g4
  dsimp only at z1 z2 z3;subst z4 z3 z2 z1;exact ba (Ee C (eq_of_beq g1) g2 g3) (λ_=>rfl) (λ_ _ _ z=>nomatch z)
 |.yH a,Γ,N,sc,X,C,p,h=>by
  obtain⟨g,args,_,_,rfl,h9⟩:=vU h
  clear h
  have h:=h9
  clear h9
  obtain⟨z,z2,h2⟩:=fj h
  obtain⟨g2,a2,_,_,z3,h3⟩:=vU h2
  obtain⟨pa,z4,h4⟩:=fj h3
  dsimp only at z2 z3 z4;subst z2 z3 z4
  clear h h2 h3
  have h:=ax h4
  clear h4
  simp! [zza] at h;obtain⟨⟨⟨⟨⟨⟨e1,h1⟩,h2⟩,e2⟩,h3⟩,h4⟩,h5⟩:=h
  cases zzy.mp e1;cases zzy.mp e2;exact ba (B4 C h1 h2 h3 h4 (aZ a C pa h5).ge (notStar h5 _ _)) (λ_=>rfl) (λ_ _ _ z=>nomatch z)
 |.slice a lo hi,Γ,N,sc,X,C,p,h=>by
  obtain⟨pa,ps,_,rfl,h1⟩:=OI h
  obtain⟨pl,ph,pst,_,z2,h2⟩:=QH h1
  clear h h1
  have h:=ax h2
  simp! [zza] at h;have w:=Mf h.1.1.1
  dsimp only at z2 w;subst z2 w;exact ba (x5 C (aZ a C _ h.1.1.2).ge (Je lo C pl h.1.2) (Je hi C ph h.2)) (λ_=>rfl) (λ_ _ _ z=>nomatch z)
 |.comp kk cH tg it elt,Γ,N,sc,X,C,p,h=>by
  obtain⟨d9,gens,scope,_,rfl,h1⟩:=LK h
  obtain⟨⟨cV,ft,ifs,asy⟩,z2,h2⟩:=fj h1
  have h3:=ax h2
  have z3:=CK h3.1
  dsimp only at z2 z3;subst z2 z3
  clear h h1 h2
  have h:=ax h3.2
  clear h3
  simp! [zza] at h;obtain⟨⟨⟨⟨⟨⟨h1,h2⟩,h3⟩,h4⟩,h5⟩,h6⟩,gH⟩:=h
  have gH:=zzY gH
  subst gH;exact ba ((tU C (gQ h1) h2 h3 (yk it C cV ft h4) (gO h4 _) h5 λY CY=>(aZ elt CY d9 h6).ge).ge um) (λ_=>rfl) (λ_ _ _ z=>nomatch z)
 |.bC kk cH tg it c elt,Γ,N,sc,X,C,p,h=>by
  obtain⟨d9,gens,scope,_,rfl,h1⟩:=LK h
  obtain⟨⟨cV,ft,ifs,asy⟩,z2,h2⟩:=fj h1
  obtain⟨pc,z3,h3⟩:=fj h2
  dsimp only at z2 z3;subst z2 z3
  clear h h1 h2
  have h:=ax h3
  clear h3
  simp! [zza] at h;obtain⟨⟨⟨⟨⟨⟨⟨⟨h0,h1⟩,h2⟩,h3⟩,h4⟩,h5⟩,h6⟩,h7⟩,gH⟩:=h
  have gH:=zzY gH
  subst gH;exact ba ((nh C (gQ h1) h2 h3 (yk it C cV ft h4) (gO h4 _) h5 (λY CY=>(aZ c CY pc h6).gt h0) λY CY=>(aZ elt CY d9 h7).ge).ge mR) (λ_=>rfl) (λ_ _ _ z=>nomatch z)
theorem i3:∀(es:Es) {Γ:Pg} {N:List Str} {sc:Scope} {X:Cx} (C:dR Γ F W N sc k X) (ps:List Expr),gr Γ N sc es ps=true->GA X W F es ps
 |.nil,Γ,N,sc,X,C,ps,h=>by
  cases ps with
  |nil=>exact FC
  |cons _ _=>exact bB h
 |.cons e es,Γ,N,sc,X,C,ps,h=>by
  cases ps with
  |nil=>exact bB h
  |cons p ps=>
   replace h:=ax h
   exact BQ (aZ e C p h.1).ge (i3 es C ps h.2) (notStar h.1 _ _)
theorem Je:∀(o:Oe) {Γ:Pg} {N:List Str} {sc:Scope} {X:Cx} (C:dR Γ F W N sc k X) (p:Option Expr),Gq Γ N sc o p=true->PO X p (wD X W F o)
 |.no,Γ,N,sc,X,C,p,h=>by
  cases p with
  |none=>exact Bv
  |some _=>exact bB h
 |.some e,Γ,N,sc,X,C,p,h=>by
  cases p with
  |none=>exact bB h
  |some p=>
   exact AY (aZ e C p h).ge
theorem yk:∀(it:I) {Γ:Pg} {N:List Str} {sc:Scope} {X:Cx} (C:dR Γ F W N sc k X) (tg p:Expr),u3 Γ N sc tg it p=true->GI X W F tg it p
 |.seq e,Γ,N,sc,X,C,tg,p,h=>by
  exact Ez C (aZ e C p h).ge
 |.jj e,Γ,N,sc,X,C,tg,p,h=>by
  obtain⟨g,args,_,_,rfl,h9⟩:=vU h
  clear h
  have h:=h9
  clear h9
  obtain⟨q,z2,h2⟩:=fj h
  dsimp only at z2;subst z2
  clear h
  have h:=ax h2
  clear h2
  simp! [zza] at h;obtain⟨⟨⟨e1,h1⟩,h2⟩,h3⟩:=h
  cases zzy.mp e1;exact Fv C h1 h2 (notStar h3) (aZ e C q h3).ge
 |.kH a b,Γ,N,sc,X,C,tg,p,h=>by
  obtain⟨g,args,_,_,rfl,h9⟩:=vU h
  clear h
  have h:=h9
  clear h9
  obtain⟨q,r,z2,h2⟩:=BZ h
  dsimp only at z2;subst z2
  clear h
  have h:=ax h2
  clear h2
  simp! [zza] at h;obtain⟨⟨⟨⟨e1,h1⟩,h2⟩,h3⟩,h4⟩:=h
  cases zzy.mp e1;exact Ca C h1 h2 (notStar h3) (notStar h4) (aZ a C q h3).ge (aZ b C r h4).ge
 |.enum e,Γ,N,sc,X,C,tg,p,h=>by
  obtain⟨g,args,_,_,rfl,h9⟩:=vU h
  clear h
  have h:=h9
  clear h9
  obtain⟨q,z2,h2⟩:=fj h
  dsimp only at z2;subst z2
  clear h
  have h:=ax h2
  clear h2
  simp! [zza] at h;obtain⟨⟨⟨⟨h0,e1⟩,h1⟩,h2⟩,h3⟩:=h
  cases zzy.mp e1;cases tg<;>first|(exact bB h0)|skip
  exact BG C h1 h2 (notStar h3) (aZ e C q h3).ge
 |.sJ e,Γ,N,sc,X,C,tg,p,h=>by
  obtain⟨g,args,_,_,rfl,h9⟩:=vU h
  clear h
  obtain⟨q,z2,h2⟩:=fj h9
  dsimp only at z2;subst z2;have h:=ax h2
  simp! [zza] at h;obtain⟨⟨⟨⟨e1,h1⟩,h2⟩,h3⟩,h4⟩:=h
  cases zzy.mp e1;exact E0 C h1 h2 h3 (aZ e C q h4).ge (notStar h4)
 |.zip as,Γ,N,sc,X,C,tg,p,h=>by
  obtain⟨g,args,_,_,rfl,h9⟩:=vU h
  clear h
  replace h:=ax h9
  clear h9
  simp! [zza] at h;obtain⟨⟨⟨⟨⟨⟨h0,e1⟩,h1⟩,h2⟩,h3⟩,h4⟩,h5⟩:=h
  cases zzy.mp e1;cases tg<;>first|(exact bB h0)|skip
  rw [zzt,zzy,zzy] at h4;cases as with
  |nil=>exact absurd h4 (by show¬(0=2\/0=3);omega)
  |cons a as=>
   cases args with
   |nil=>exact bB h5
   |cons q qs=>
    have h6:=ax (show(aS Γ N sc a q&&gr Γ N sc as qs)=true from h5)
    exact Gy C h1 h2 h3 h4 (i3 (.cons a as) C (q::qs) h5) (notStar h6.1 _ _) (dH h6.2 _ _)
end
end
end Ci
namespace L2
open PySem PySem.Spec PyProof.Rows
section
variable{X:Cx}{scope:Scope}{xs ys:List Str}{is:List Nat}
theorem rH{i₀:Nat}{x₀:Str}{pos' fU:Pos}{elt tg iter:Expr}{pos:Pos}{wi:TI}{g:TG}{te:TE}(hN₀:X.N.Nodup)(hi₀:X.N[i₀]?=some x₀)(hx₀:Loc X.env.scope x₀)(hc:X.calm=true)(S:ee X scope xs ys is)(hi:PI X tg iter wi)
 (hg:∀fp s1 H1 C,PG (bP X (xs++ys) scope (cu X.env ys) fp s1 H1 C) tg g) (he:∀fp s1 H1 C,PE (bP X (xs++ys) scope (cu X.env ys) fp s1 H1 C) elt te)
 (xj:swapsWith (.ListComp elt [⟨tg,iter,[],0⟩] scope pos) (some (.Name x₀ pos')) fU.line X.env=pure true:=by rfl)
 (hs:∀x,foldedSetIterable iter X.env x=pure x:=by intro _;rfl) (hf₀:X.fn x₀=true\/X.env.scope.names.lookup x₀=some .local:=by first|exact .inl rfl|exact .inr rfl|assumption):
 PS X (.Assign [.Name x₀ pos'] (.ListComp elt [⟨tg,iter,[],0⟩] scope pos) fU) (Ay (zi wi xs.length g te is) (dY i₀)):=by
 intro aa s σ H D₀ I h;rw [exec_Assign_Name_used _ _ _ _ xj];refine zzA (wpAny_standAt (zzA ?_));show wpAny _ X.A (do let _<-comprehension (.ListComp elt [⟨tg,iter,[],0⟩] scope pos) scope X.env _ (newList []) false (eval iter X.env) (some (assign (.Name x₀ pos') X.env))) _ _ s;refine zzA (wpAny_mono (fN (QQ:=λ_ s'=>∃σ2 H2,Inv X aa σ2 H2 s'/\D₀.nx σ2 H2) (Q:=λv H4=>dY i₀ v σ H4 D₀.nx) hc S hi hg (λ_ _ _ _=>ux) he hs I h λD C s4 H4 m I5 hn ⟨g0,g1,_,g3,g4,g5⟩ q=>?_) (λ_ s' hq=>zzG (zzG hq)) λ_ _ e=>e)
 refine wpAny_assign_Name (iz I5 hN₀ hi₀ hx₀ (show RelV (.ref D) (.ref D) from rfl) (λs6 I6 ⟨a6,sb6,ha6⟩=>?_) hf₀);have y9:C≠a6:=by
  rcases ha6 with z|z
  ·rw [z];exact g1
  ·exact λz2=>g4 _ _ z z2.symm
 exact⟨m,hn.sameBut sb6 y9,λh' uy=>⟨_,_,I6.turned (t':=s6.toks) (it:=C) (λb o hb e=>uy.extBut b o hb e) g0 g1 g3 g4 g5,q⟩⟩
end
end L2
namespace Ci
open PySem L2
section
variable{W:Wd}{G0 H0 G H:Hp}{env:Sl}{σ:St}
def Own.D5{p:PV}{v:V}(h:Own W H0 G H p v):∃a o,v=.ref a/\H a=some o/\G a=none/\H0 a=none/\((∀G',ay G G'->G' a=some o->Rep W G' p (.ref a))\/∃az,o=.dT az/\∀ob G',ay G G'->G' a=some (.cU ob (.dT az))->Rep W G' p (.ref a)):=by
 cases p with
 |lst xs=>
  obtain⟨a,vs,rfl,h1,h2,h3,l⟩:=h
  exact⟨a,_,rfl,h1,h2,h3,.inl λG' s e=>.l (.inl (.inl e)) (ah.same s xs l)⟩
 |bw ks ps=>
  obtain⟨a,us,rfl,n,h1,h2,h3,l⟩:=h
  exact⟨a,_,rfl,h1,h2,h3,.inr ⟨_,rfl,λob G' s e=>by simp! [Rep];exact⟨a,ob,us,rfl,n,e,ah.same s ps l⟩⟩⟩
 |aA=>exact h.elim
 |bl _=>exact h.elim
 |int _=>exact h.elim
 |str _=>exact h.elim
 |tup _=>exact h.elim
 |exc _=>exact h.elim
theorem Own.xr{p:PV}{a:Addr}(h:Own W H0 G H p (.ref a))(ps:Array Value):H a≠some (.gf ps):=λz=>by
 cases p with
 |lst xs=>obtain⟨b,vs,e,h1,_⟩:=h;cases e;rw [z] at h1;cases h1
 |bw ks qs=>
  obtain⟨b,us,e,_,h1,_⟩:=h
  cases e;rw [z] at h1;cases h1
 |aA=>exact h.elim
 |bl _=>exact h.elim
 |int _=>exact h.elim
 |str _=>exact h.elim
 |tup _=>exact h.elim
 |exc _=>exact h.elim
theorem oU{a:Addr}{ob:HO}{H':Hp}(t:cS W G H)(hG:G a=none)(n:∀ps,H a≠some (.gf ps))(hH:∀b,b≠a->H' b=H b):cS W (upd G a ob) H':=λP q m=>by
 obtain⟨n1,ps,e,tr,al⟩:=t P q m
 have hP:P≠a:=λz=>by subst z;exact n ps e
 refine⟨by rw [ai hP];exact n1,ps,by rw [hH P hP];exact e,tr,λpos cv y=>?_⟩
 obtain⟨c',oc,nO,t',e1,e2,e3,e4⟩:=al pos cv y
 exact⟨c',oc,nO,t',e1,bf hG _ _ e2,e3,e4⟩
def Own.fY{p:PV}{v:V}{a:Addr}{G' H':Hp}(h:Own W H0 G H p v)(hv:v≠.ref a)(sG:ay G G')(hG:∀b,b≠a->G' b=G b)(hH:∀b,b≠a->H' b=H b):Own W H0 G' H' p v:=by
 cases p with
 |lst xs=>
  obtain⟨b,vs,rfl,h1,h2,h3,l⟩:=h
  have hb:b≠a:=λz=>hv (by rw [z])
  exact⟨b,vs,rfl,by rw [hH b hb];exact h1,by rw [hG b hb];exact h2,h3,ah.same sG xs l⟩
 |bw ks ps=>
  obtain⟨b,us,rfl,n,h1,h2,h3,l⟩:=h
  have hb:b≠a:=λz=>hv (by rw [z])
  exact⟨b,us,rfl,n,by rw [hH b hb];exact h1,by rw [hG b hb];exact h2,h3,ah.same sG ps l⟩
 |aA=>exact h.elim
 |bl _=>exact h.elim
 |int _=>exact h.elim
 |str _=>exact h.elim
 |tup _=>exact h.elim
 |exc _=>exact h.elim
def getElem?_modify{α:Type}(l:List α)(i j:Nat)(f:α->α):(l.modify i f)[j]?=if i=j then(l[j]?).map f else l[j]?:=by
 rw [List.getElem?_modify];split<;>simp_all
def qx(r:SR W H0 env σ G H)(g:aH W G0 H0 G H){i:Nat}{p:PV}{a:Addr}{ob Ie:HO}{H':Hp}(hp:env[i]?=some (.own p))(ho:σ[i]?=some (some (.ref a)))(JX:Own W H0 G H p (.ref a))(hH:H a=some ob)(hG:G a=none)(zS:H0 a=none)
 (xS:∀G',ay G G'->G' a=some Ie->Rep W G' p (.ref a)) (h1:H' a=some Ie) (h2:∀b,b≠a->H' b=H b):SR W H0 (env.modify i om) σ (upd G a Ie) H'/\aH W G0 H0 (upd G a Ie) H':=by
 have sG:ay G (upd G a Ie):=bf hG
 have sub:ay (upd G a Ie) H':=λb u e=>by
  by_cases hb:b=a
  ·subst hb;rw [au] at e;cases e;exact h1
  ·rw [ai hb] at e;rw [h2 b hb];exact r.sub _ _ e
 have base:∀{B:Hp},B a=none->gC B H->gC B H':=λhB k b u e=>by
  have hb:b≠a:=λz=>by rw [z,hB] at e;cases e
  rw [h2 b hb];exact k b u e
 refine⟨⟨by rw [List.length_modify];exact r.len,sub,base zS r.base,λj s e=>?_,λj l q q' c e1 e2 e3 e4=>?_,oU r.tab hG JX.xr h2,oU r.md hG (λps z=>by rw [zS] at z;cases z) λ_ _=>rfl⟩,⟨g.g.trans sG,base zS g.h,sub,λb h3 h5 h4=>?_,λt=>oU (g.tab t) hG JX.xr h2⟩⟩
 ·rw [getElem?_modify] at e;split at e
  ·rename_i z;subst z;rw [hp] at e;cases e;exact⟨_,ho,_,rfl,xS _ sG au⟩
  ·rename_i z;obtain⟨o2,k1,k2⟩:=r.slot j s e
   refine⟨o2,k1,?_⟩;cases s with
   |no=>exact trivial
   |val q=>
    obtain⟨v2,rfl,rv⟩:=k2
    exact⟨v2,rfl,Rep.same sG q rv⟩
   |fn _ _ _=>
    obtain⟨v2,rfl,rv⟩:=k2
    exact⟨v2,rfl,rv.same sG⟩
   |own q=>
    obtain⟨v2,rfl,ov⟩:=k2
    refine⟨v2,rfl,ov.fY (a:=a) (λzz=>?_) sG (λb hb=>ai hb) h2⟩;subst zz;exact z (r.apart i j p q a hp e ho k1)
 ·rw [getElem?_modify] at e1 e2;have ne:∀{j:Nat} {q:PV},(if i=j then(env[j]?).map om else env[j]?)=some (.own q)->i≠j/\env[j]?=some (.own q):=λ{j q} e=>by
   split at e
   ·rename_i z;subst z;rw [hp] at e;cases e
   ·rename_i z;exact⟨z,e⟩
  exact r.apart j l q q' c (ne e1).2 (ne e2).2 e3 e4
 ·have hb:b≠a:=λz=>h3 (by rw [z];exact zS)
  rw [ai hb];exact g.own b h3 h5 h4
def HE(r:SR W H0 env σ G H)(g:aH W G0 H0 G H)(i:Nat):(∃G',SR W H0 (env.modify i om) σ G' H/\aH W G0 H0 G' H)\/∃a az,H a=some (.dT az)/\∀o,∃G',SR W H0 (env.modify i om) σ G' (upd H a (.cU o (.dT az)))/\aH W G0 H0 G' (upd H a (.cU o (.dT az))):=by
 have same:(∀p,env[i]?≠some (.own p))->env.modify i om=env:=λh=>by
  refine List.ext_getElem? λj=>?_
  rw [getElem?_modify];split
  ·rename_i e;subst e;cases q:env[i]? with
   |none=>rfl
   |some s=>
    cases s with
    |own p=>exact absurd q (h p)
    |no=>rfl
    |val p=>rfl
    |fn _ _ _=>rfl
  ·rfl
 by_cases hx:∃p,env[i]?=some (.own p)
 ·obtain⟨p,hp⟩:=hx
  obtain⟨o,ho,v,rfl,ow⟩:=r.slot i _ hp
  have JX:=ow
  obtain⟨a,ob,rfl,hH,hG,zS,xS|⟨az,rfl,xS⟩⟩:=ow.D5
  ·obtain⟨k1,k2⟩:=qx r g hp ho JX hH hG zS xS hH λ_ _=>rfl
   exact .inl ⟨_,k1,k2⟩
  ·refine .inr ⟨a,az,hH,λo=>?_⟩
   obtain⟨k1,k2⟩:=qx r g hp ho JX hH hG zS (xS o) au λb hb=>ai hb
   exact⟨_,k1,k2⟩
 ·exact .inl ⟨G,by rw [same λp z=>hx ⟨p,z⟩];exact r,g⟩
def kS(r:SR W H0 env σ G H)(g:aH W G0 H0 G H){i:Nat}{p p':PV}{a:Addr}{ob:HO}(hp:env[i]?=some (.own p))(hs:σ[i]?=some (some (.ref a)))(hG:G a=none)(zS:H0 a=none)(hn:Own W H0 G (upd H a ob) p' (.ref a)):
 SR W H0 (env.set i (.own p')) σ G (upd H a ob)/\aH W G0 H0 G (upd H a ob):=by
 have cL:i<env.length:=(zzH.mp hp).1
 have Ri:∀ps,H a≠some (.gf ps):=by
  obtain⟨o2,h1,v2,rfl,ow⟩:=r.slot i _ hp
  rw [hs] at h1;cases h1;exact ow.xr
 have tab:∀{G1:Hp},cS W G1 H->cS W G1 (upd H a ob):=λt=>t.same (ay.refl _) (λ_ _ _ h=>h) (nE Ri)
 refine⟨⟨by rw [List.length_set];exact r.len,λb u e=>?_,λb u e=>?_,λj s e=>?_,λj l q q' c e1 e2 e3 e4=>?_,tab r.tab,r.md⟩,⟨g.g,λb u e=>?_,λb u e=>?_,g.own,λt=>tab (g.tab t)⟩⟩
 ·rw [ai (λz=>by subst z;rw [hG] at e;cases e)];exact r.sub _ _ e
 ·rw [ai (λz=>by subst z;rw [zS] at e;cases e)];exact r.base _ _ e
 ·by_cases hj:i=j
  ·subst hj;rw [zzo cL] at e;cases e;exact⟨_,hs,_,rfl,hn⟩
  ·rw [zzS hj] at e;obtain⟨o2,h1,h2⟩:=r.slot j s e
   refine⟨o2,h1,?_⟩;cases s with
   |no=>exact trivial
   |val q=>exact h2
   |fn _ _ _=>exact h2
   |own q=>
    obtain⟨v2,rfl,ov⟩:=h2
    refine⟨v2,rfl,ov.fY (a:=a) (λzz=>?_) (ay.refl _) (λb hb=>rfl) λb hb=>ai hb⟩
    subst zz;exact hj (r.apart i j p q a hp e hs h1)
 ·have tr:∀{j:Nat} {q:PV},(env.set i (.own p'))[j]?=some (.own q)->∃q2,env[j]?=some (.own q2):=λ{j q} e=>by
   by_cases hj:i=j
   ·subst hj;exact⟨p,hp⟩
   ·rw [zzS hj] at e;exact⟨q,e⟩
  obtain⟨q2,f1⟩:=tr e1
  obtain⟨q3,f2⟩:=tr e2
  exact r.apart j l q2 q3 c f1 f2 e3 e4
 ·rw [ai (λz=>by subst z;rw [zS] at e;cases e)];exact g.h _ _ e
 ·rw [ai (λz=>by subst z;rw [hG] at e;cases e)];exact g.sub _ _ e
def sN(r:SR W H0 env σ G H)(g:aH W G0 H0 G H){i:Nat}{p:PV}{a:Addr}{ob:HO}(hi:i<env.length)(ha:H a=none)(hn:Own W H0 G (upd H a ob) p (.ref a)):
 SR W H0 (env.set i (.own p)) (σ.set i (some (.ref a))) G (upd H a ob)/\aH W G0 H0 G (upd H a ob):=by
 have gm:aH W G H G (upd H a ob):=.MX r.sub ha
 have r1:=r.grow gm
 have old:∀{j:Nat} {q:PV},env[j]?=some (.own q)->σ[j]?=some (some (.ref a))->False:=λ{j q} e1 e2=>by
  obtain⟨o2,h1,v2,rfl,ov⟩:=r.slot j _ e1
  rw [e2] at h1;cases h1;obtain⟨a',o',e3,hH,_⟩:=ov.D5
  cases e3;rw [ha] at hH;cases hH
 refine⟨⟨by rw [List.length_set,List.length_set];exact r.len,r1.sub,r1.base,λj s e=>?_,λj l q q' c e1 e2 e3 e4=>?_,r1.tab,r1.md⟩,g.trans gm⟩
 ·by_cases hj:i=j
  ·subst hj;rw [zzo hi] at e;cases e;exact⟨_,zzo (by rw [<-r.len];exact hi),_,rfl,hn⟩
  ·rw [zzS hj] at e;obtain⟨o2,h1,h2⟩:=r1.slot j s e
   exact⟨o2,by rw [zzS hj];exact h1,h2⟩
 ·by_cases hj:i=j
  ·by_cases hl:i=l
   ·exact hj.symm.trans hl
   ·exfalso
    subst hj;rw [zzo (by rw [<-r.len];exact hi)] at e3;rw [zzS hl] at e2 e4;cases e3;exact old e2 e4
  ·by_cases hl:i=l
   ·exfalso
    subst hl;rw [zzo (by rw [<-r.len];exact hi)] at e4;rw [zzS hj] at e1 e3;cases e4;exact old e1 e3
   ·rw [zzS hj] at e1 e3;rw [zzS hl] at e2 e4;exact r.apart j l q q' c e1 e2 e3 e4
end
def gR:E->Bool
 |.lst _=>true
 |.comp _ _ _ _ _=>true
 |.bC _ _ _ _ _ _=>true
 |_=>false
def oQ:Expr->Bool
 |.ListComp .. =>false
 |.SetComp .. =>false
 |.DictComp .. =>false
 |_=>true
noncomputable def Nk(sc:Scope)(x:Str)(xp:Pos):Expr->Bool
 |.ListComp _ _ s p=>sc.names.lookup x==some .local&&xp.line==p.line&&!(s.names.any λ(n,k)=>n==x&&(k==.local||k==.cell))
 |_=>false
def Jl(ts:List Expr):Option Str:=(dW ts).bind gJ
noncomputable def JI(e:Expr):Option (Str×Str×List Expr):=(DU e).bind λq=>(Kv q.1).bind λr=>(gJ r.1).bind λx=>if(q.2.2.1.isEmpty&&r.2.2.endLine==q.2.2.2.line)=true then some (x,r.2.1,q.2.1) else none
def Qn(ts:List Expr):Option (Str×Expr):=(dW ts).bind λt=>(JR t).bind λq=>(gJ q.1).bind λx=>some (x,q.2)
noncomputable def O5(o:Option Expr):Option (Str×Str):=o.bind λe=>(DU e).bind λq=>(gJ q.1).bind λx=>(dW q.2.1).bind λa=>(Ih a).bind λc=>(xw c).bind λz=>if q.2.2.1.isEmpty=true then some (x,z) else none
def sW:Stmt->Option (List Expr×Expr×Pos)
 |.Assign ts v p=>some (ts,v,p)
 |_=>none
def oh{ts:List Expr}{x:Str}(h:Jl ts=some x):∃xp,ts=[.Name x xp]:=by
 obtain⟨t,h1,h2⟩:=rS h
 obtain⟨p,rfl⟩:=eR h2
 exact⟨p,fL h1⟩
def o9{p:Expr}{x m:Str}{args:List Expr}(h:JI p=some (x,m,args)):∃np apos b8,p=.Call (.Attribute (.Name x np) m apos) args [] b8/\(apos.endLine==b8.line)=true:=by
 obtain⟨⟨f,a,k,cp⟩,h1,h⟩:=rS h
 obtain⟨⟨o,m',ap⟩,h2,h⟩:=rS h
 obtain⟨y,h3,h⟩:=rS h
 obtain⟨h4,h⟩:=if1 h
 cases h;rw [zza] at h4;obtain⟨p3,z3⟩:=eR h3
 have z2:=yf h2
 have z5:=List.isEmpty_iff.1 h4.1
 dsimp only at z2 z3 z5;subst z3 z2 z5;exact⟨_,_,_,kJ h1,h4.2⟩
def Hu{ts:List Expr}{x:Str}{pk:Expr}(h:Qn ts=some (x,pk)):∃np sp,ts=[.Subscript (.Name x np) pk sp]:=by
 obtain⟨t,h1,h⟩:=rS h
 obtain⟨⟨a,b⟩,h2,h⟩:=rS h
 obtain⟨y,h3,h⟩:=rS h
 cases h;obtain⟨p3,z3⟩:=eR h3
 obtain⟨p2,z2⟩:=xY h2
 dsimp only at z3;subst z3 z2;exact⟨_,_,fL h1⟩
def ET{o:Option Expr}{x z:Str}(h:O5 o=some (x,z)):∃np j zp cp,o=some (.Call (.Name x np) [.Constant (.str z) j zp] [] cp):=by
 obtain⟨e,h0,h⟩:=rS h
 obtain⟨⟨f,a,k,cp⟩,h1,h⟩:=rS h
 obtain⟨y,h2,h⟩:=rS h
 obtain⟨t,h3,h⟩:=rS h
 obtain⟨c,h4,h⟩:=rS h
 obtain⟨w,h5,h⟩:=rS h
 obtain⟨h6,h⟩:=if1 h
 cases h;obtain⟨p2,z2⟩:=eR h2
 obtain⟨p4,q4,z4⟩:=wx h4
 have z3:=fL h3
 have z5:=v8 h5
 have z6:=List.isEmpty_iff.1 h6
 dsimp only at z2 z3 z6;subst z2 z5 z4 z3 z6;exact⟨_,_,_,_,h0.trans (congrArg some (kJ h1))⟩
mutual
noncomputable def en(Γ:Pg)(N:List Str)(sc:Scope):S->Stmt->Bool
 |.expr e,.Expr p _=>oQ p&&aS Γ N sc e p
 |.set i e,.Assign ts p _=>(Jl ts).any λx=>N[i]?==some x&&fh sc x&&fQ e&&aS Γ N sc e p
 |.own i e,.Assign ts p _=>(Jl ts).any λx=>N[i]?==some x&&fh sc x&&gR e&&aS Γ N sc e p
 |.app i e,.Expr v _=>(JI v).any λc=>N[i]?==some c.1&&eX sc c.1&&okN c.1&&c.2.1==("append":Str)&&fQ e&&(dW c.2.2).any λp=>aS Γ N sc e p
 |.pH i e,.Expr v _=>(JI v).any λc=>N[i]?==some c.1&&eX sc c.1&&okN c.1&&c.2.1==("extend":Str)&&(dW c.2.2).any λp=>aS Γ N sc e p
 |.put i kk e,.Assign ts p _=>(Qn ts).any λc=>N[i]?==some c.1&&eX sc c.1&&okN c.1&&fQ e&&aS Γ N sc kk c.2&&aS Γ N sc e p
 |.fD i j e,.Expr v _=>(JI v).any λc=>(dW c.2.2).any λa=>(JI a).any λd=>(dW d.2.2).any λq=>N[i]?==some c.1&&eX sc c.1&&okN c.1&&c.2.1==("append":Str)&&N[j]?==some d.1&&eX sc d.1&&okN d.1&&d.2.1==("pop":Str)&&aS Γ N sc e q
 |.ret e,.Return (some p) _=>fQ e&&aS Γ N sc e p
 |.ite c a b,.If p pa pb _=>fg c&&aS Γ N sc c p&&df Γ N sc a pa&&df Γ N sc b pb
 |.bD tg it b,.For cV ft pb els _=>els.isEmpty&&gq N sc (λ_=>true) tg cV&&Dj it&&u3 Γ N sc cV it ft&&df Γ N sc b pb
 |.HY c b,.While p pb els _=>els.isEmpty&&fg c&&aS Γ N sc c p&&df Γ N sc b pb
 |.raise c m,.Raise ex fr _=>fr.isNone&&(O5 ex).any λq=>c==q.1&&m==q.2&&Γ.rs.contains c&&ff sc c&&okN c
 |.brk,.Break _=>true
 |.jd i e,.Assign ts v _=>(Jl ts).any λx=>(tW v).any λq=>(dW q.2).any λr=>q.1==("list":Str)&&ff sc q.1&&Γ.bs.contains q.1&&N[i]?==some x&&fh sc x&&aS Γ N sc e r
 |.qL i,.Assign ts (.Dict [] [] _) _=>(Jl ts).any λx=>N[i]?==some x&&fh sc x
 |_,_=>false
noncomputable def df(Γ:Pg)(N:List Str)(sc:Scope):Ss->List Stmt->Bool
 |.nil,[]=>true
 |.cons (.cU _) ss,ps=>df Γ N sc ss ps
 |.cons s ss,p::ps=>en Γ N sc s p&&df Γ N sc ss ps
 |_,_=>false
end
section
variable{Γ:Pg}{X:Cx}{W:Wd}{F:aM}{N:List Str}{sc:Scope}{k:Nat}{H0:Hp}{E:XK}
def SR.go{env:Sl}{σ:St}{G H:Hp}(r:SR W H0 env σ G H):aH W G H0 G H:=⟨ay.refl _,r.base,r.sub,λ_ _ _ h=>h,λ_=>r.tab⟩
def aH.then{G G1 H1 G2 H2:Hp}(a:aH W G H0 G1 H1)(b:aH W G1 H0 G2 H2):aH W G H0 G2 H2:=⟨a.g.trans b.g,b.h,b.sub,λx h1 h3 h2=>b.own x h1 h3 (a.own x h1 h3 h2),λt=>b.tab (t.same a.g a.own λ_ _ h=>h)⟩
def SR.on{env:Sl}{σ:St}{G H G1 H1:Hp}(r:SR W H0 env σ G H)(g:aH W G H G1 H1):aH W G H0 G1 H1:=⟨g.g,r.base.trans g.h,g.sub,λx h1 h3 h2=>g.own x (λz=>h1 (r.base.free z)) (r.base.tX h1 h3) h2,λ_=>g.tab r.tab⟩
def Dn(W:Wd)(H0 G:Hp)(D:Ends):Fl->Prop
 |.nx env=>∀σ G' H',SR W H0 env σ G' H'->aH W G H0 G' H'->D.nx σ H'
 |.bk env=>∀σ G' H',SR W H0 env σ G' H'->aH W G H0 G' H'->D.bk σ H'
 |.ct env=>∀σ G' H',SR W H0 env σ G' H'->aH W G H0 G' H'->D.ct σ H'
 |.rt p=>∀v G' H',Rep W G' p v->aH W G H0 G' H'->D.rt v H'
def cb(W:Wd)(H0 G:Hp)(E:XK)(r:Res Fl)(D:Ends):Prop:=match r with
 |.ok f=>Dn W H0 G D f
 |.exc c=>∀Cv ao H',XE W c G H0 Cv ao H'->E Cv ao H'
 |.bad=>False
def Dn.on{G G1 H1:Hp}{D:Ends}{f:Fl}(h:Dn W H0 G D f)(g:aH W G H0 G1 H1):Dn W H0 G1 D f:=by
 cases f with
 |nx env=>exact λσ G' H' r g'=>h σ G' H' r (g.then g')
 |bk env=>exact λσ G' H' r g'=>h σ G' H' r (g.then g')
 |ct env=>exact λσ G' H' r g'=>h σ G' H' r (g.then g')
 |rt p=>exact λv G' H' r g'=>h v G' H' r (g.then g')
def cb.on{G G1 H1:Hp}{D:Ends}{r:Res Fl}(h:cb W H0 G E r D)(g:aH W G H0 G1 H1):cb W H0 G1 E r D:=by
 cases r with
 |ok f=>exact Dn.on h g
 |exc c=>
  intro Cv ao H' x;obtain⟨C,a,G',e1,e2,e3,e4,g2⟩:=x
  exact h Cv ao H' ⟨C,a,G',e1,e2,e3,e4,g.then g2⟩
 |bad=>exact h
noncomputable def tS(W:Wd)(F:aM)(H0:Hp)(E:XK)(s:S):TS:=λD σ H=>∃G env,SR W H0 env σ G H/\cb W H0 G E (f6 F s env) D
noncomputable def OH(W:Wd)(F:aM)(H0:Hp)(E:XK)(ss:Ss):TS:=λD σ H=>∃G env,SR W H0 env σ G H/\cb W H0 G E (aB F ss env) D
abbrev GS(X:Cx)(W:Wd)(F:aM)(H0:Hp)(E:XK)(s:S)(p:Stmt):Prop:=PS X p (tS W F H0 E s)
abbrev zI(X:Cx)(W:Wd)(F:aM)(H0:Hp)(E:XK)(s:Ss)(p:List Stmt):Prop:=sV X p (OH W F H0 E s)
def _root_.L2.PS.imp{p:Stmt}{t t':TS}(h:PS X p t)(i:∀D σ H,t' D σ H->t D σ H):PS X p t':=λaa s σ H D I hw=>h aa s σ H D I (i D σ H hw)
def _root_.L2.sV.imp{p:List Stmt}{t t':TS}(h:sV X p t)(i:∀D σ H,t' D σ H->t D σ H):sV X p t':=λaa s σ H D I hw=>h aa s σ H D I (i D σ H hw)
structure d7(Γ:Pg)(F:aM)(W:Wd)(N:List Str)(sc:Scope)(k:Nat)(E:XK)(X:Cx):Prop where
 C:dR Γ F W N sc k X
 fn:∀x,X.fn x=true
 own:PassesOwn (model X.prog X.w) X.A X.env X.xe
 pass:Passes (gk X.prog X.w) X E
 kind:sc.kind=.function
 Kj:X.stack=X.env::X.outer
 frame:X.env.frame=some X.env.locals
 xs:∀c,Γ.rs.contains c=true->c∈W.xs
 rm:∀c,Γ.rs.contains c=true->∃C,X.mg c=some (.ref C)
 rz:∀(c z:Str) (j:Nat) (np zp cp pos:Pos),Γ.rs.contains c=true->ff sc c=true->okN c=true->PS X (.Raise (some (.Call (.Name c np) [.Constant (.str z) j zp] [] cp)) none pos) (λ_ _ H=>∀C e,X.mg c=some (.ref C)->H e=none->E (.ref C) (some e) H)
 Lb:Γ.cs.contains "FloorError"=true->∀c D,c∈W.xs->X.mg c=some (.ref D)->∀T,X.mg "FloorError"=some (.ref T)->PySem.W.exmOne X.K (.ref D) (.ref T)=some true
theorem CG(S:d7 Γ F W N sc k E X){c:Str}{σ:St}{Gs G H:Hp}(g:aH W Gs H0 G H)(h:∀Cv ao H',XE W c Gs H0 Cv ao H'->E Cv ao H'):rT X W σ c G H:=λaa G1 H1 s1 e s' I g1 x=>
 S.pass aa σ H1 s1 e s' I (H8.imp x λCv a H' y=>h Cv a H' (by
  obtain⟨C,a',G',e1,e2,e3,e4,g2⟩:=y
  have g3:=g1.trans g2
  exact⟨C,a',G',e1,e2,e3,e4,g.g.trans g3.g,g.h.trans g3.h,g3.sub,λx h1 h3 h2=>g3.own x (λz=>h1 (g.h.free z)) (g.h.tX h1 h3) (g.own x h1 h3 h2),λt=>g3.tab (g.tab t)⟩))
def cb.bind{α:Type}(S:d7 Γ F W N sc k E X){r:Res α}{f:α->Res Fl}{D:Ends}{env:Sl}{σ:St}{G H:Hp}(sr:SR W H0 env σ G H)(h:cb W H0 G E (r.bind f) D):Out X W r σ G H λa=>cb W H0 G E (f a) D:=by
 cases r with
 |ok a=>exact h
 |exc c=>exact CG S sr.go h
 |bad=>exact h
def ma(S:d7 Γ F W N sc k E X){env:Sl}{σ:St}{G H:Hp}{e:Ci.E}{f:PV->Res Fl}{D:Ends}{Q:VK}(sr:SR W H0 env σ G H)(o:cb W H0 G E ((aC F e env).bind f) D)
 (h:∀p v G1 H1,aH W G H G1 H1->Got W H0 G1 H1 e p v->SR W H0 env σ G1 H1->cb W H0 G1 E (f p) D->Q v H1):tE X W F e σ H Q:=
 ⟨H0,G,env,sr,(o.bind S sr).imp λp hp v G1 H1 g1 t=>h p v G1 H1 g1 t (sr.grow g1) (hp.on (sr.on g1))⟩
def DG(S:d7 Γ F W N sc k E X){env:Sl}{σ:St}{G H:Hp}{e:Ci.E}{f:Bool->Res Fl}{D:Ends}{Q:Bool->Hp->Prop}(sr:SR W H0 env σ G H)(o:cb W H0 G E ((aC F e env).bind λp=>lE p f) D)
 (h:∀b G1 H1,aH W G H G1 H1->SR W H0 env σ G1 H1->cb W H0 G1 E (f b) D->Q b H1):tT X W F e σ H Q:=by
 refine⟨H0,G,env,sr,(o.bind S sr).imp λp hp=>?_⟩
 cases p with
 |bl b=>exact⟨b,rfl,λG1 H1 g1=>h b G1 H1 g1 (sr.grow g1) (cb.on hp (sr.on g1))⟩
 |aA=>exact zzk hp
 |int _=>exact zzk hp
 |str _=>exact zzk hp
 |tup _=>exact zzk hp
 |lst _=>exact zzk hp
 |exc _=>exact zzk hp
 |bw _ _=>exact zzk hp
def Kz(S:d7 Γ F W N sc k E X){env:Sl}{σ:St}{G H:Hp}{e:Ci.E}{f:PV->Res Fl}{D:Ends}{Q:VK}(hl:∀env q,aC F e env=.ok q->∃xs,q=.lst xs)(sr:SR W H0 env σ G H)(o:cb W H0 G E ((aC F e env).bind f) D)
 (h:∀xs a vs G1 H1,aH W G H G1 H1->H1 a=none->ah W G1 xs vs->SR W H0 env σ G1 H1->cb W H0 G1 E (f (.lst xs)) D->Q (.ref a) (upd H1 a (.lst vs))):tF X W F e σ H Q:=by
 refine⟨H0,G,env,sr,?_⟩;have o2:=o.bind S sr
 cases r:aC F e env with
 |bad=>rw [r] at o2;exact o2
 |exc c=>rw [r] at o2;exact o2
 |ok q=>
  rw [r] at o2;obtain⟨xs,rfl⟩:=hl env q r
  exact⟨xs,rfl,λa vs G' H' g ha l=>h xs a vs G' H' g ha l (sr.grow g) (cb.on o2 (sr.on g))⟩
def ue{p:Expr}{t:Option Expr}{l:Nat}{env:Env}(h:oQ p=true):swapsWith p t l env=pure false:=by
 cases p<;>first|rfl|(exact bB h)
def jk{elt:Expr}{gens:List Comprehension}{s:Scope}{p:Pos}{x:Str}{xp:Pos}{l:Nat}(fv:X.env.scope=sc)(hk:sc.kind=.function):swapsWith (.ListComp elt gens s p) (some (.Name x xp)) l X.env=pure (Nk sc x xp (.ListComp elt gens s p)):=by
 have hb:X.env.blockKind=.function:=by
  unfold Env.blockKind;rw [fv,hk]
  rfl
 show(pure (X.env.blockKind==.function&&X.env.kindOf x==some .local&&xp.line==p.line&&!(s.names.any λ(n,k)=>n==x&&(k==.local||k==.cell))):Sem Bool)=_
 rw [hb];show(pure (true&&X.env.scope.names.lookup x==some .local&&_&&_):Sem Bool)=_
 rw [fv]
 rfl
theorem Ba(S:d7 Γ F W N sc k E X){e:Ci.E}{p:Expr}{pos:Pos}(he:GE X W F e p)(hn:oQ p=true):GS X W F H0 E (.expr e) (.Expr p pos):=
 L2.PS.imp (jh he (ue hn)) λD σ H h=>by
  obtain⟨G,env,sr,o⟩:=h
  rw [f6] at o;exact ma S sr o λq v G1 H1 g t bq o1=>o1 σ G1 H1 bq bq.go
theorem FR(S:d7 Γ F W N sc k E X){e:Ci.E}{p:Expr}{pos:Pos}(dA:fQ e=true)(he:GE X W F e p):GS X W F H0 E (.ret e) (.Return (some p) pos):=
 L2.PS.imp (F4 he) λD σ H h=>by
  obtain⟨G,env,sr,o⟩:=h
  rw [f6] at o;exact ma S sr o λq v G1 H1 g t bq o1=>o1 v G1 H1 (t.rep dA) bq.go
theorem FZ{pos:Pos}:GS X W F H0 E .brk (.Break pos):=
 L2.PS.imp yu λD σ H h=>by
  obtain⟨G,env,sr,o⟩:=h
  rw [f6] at o;exact o σ G H sr sr.go
theorem wY(S:d7 Γ F W N sc k E X){c m:Str}{j:Nat}{np zp cp pos:Pos}(h1:Γ.rs.contains c=true)(h2:ff sc c=true)(h3:okN c=true):GS X W F H0 E (.raise c m) (.Raise (some (.Call (.Name c np) [.Constant (.str m) j zp] [] cp)) none pos):=
 L2.PS.imp (S.rz c m j np zp cp pos h1 h2 h3) λD σ H h C e hC he=>by
  obtain⟨G,env,sr,o⟩:=h
  rw [f6] at o;exact o _ _ _ ⟨C,e,G,rfl,rfl,S.xs c h1,by rw [S.C.mg];exact hC,sr.go⟩
def ez(S:d7 Γ F W N sc k E X){i:Nat}{x:Str}(h:N[i]?=some x)(hl:fh sc x=true):X.N.Nodup/\X.N[i]?=some x/\Loc X.env.scope x:=by
 refine⟨by rw [S.C.hN];exact S.C.nd,by rw [S.C.hN];exact h,xq S.C.fv hl⟩
def Ei(S:d7 Γ F W N sc k E X){i:Nat}{x:Str}{e:Ci.E}{p:Expr}{xp pos:Pos}(h:N[i]?=some x)(hl:fh sc x=true)(dA:fQ e=true)(he:GE X W F e p)(hs:swapsWith p (some (.Name x xp)) pos.line X.env=pure false):GS X W F H0 E (.set i e) (.Assign [.Name x xp] p pos):=by
 obtain⟨a1,a2,a3⟩:=ez S h hl
 refine L2.PS.imp (oj a1 a2 a3 he hs (.inl (S.fn x))) λD σ H h=>?_
 obtain⟨G,env,sr,o⟩:=h
 rw [f6] at o;exact ma S sr o λq v G1 H1 g t bq o1=>o1 _ G1 H1 (bq.set i (t.rep dA)) bq.go
noncomputable def Ig(X:Cx)(W:Wd)(F:aM)(i:Nat)(e:Ci.E):TS:=λD σ H=>tF X W F e σ H λv H1=>D.nx (σ.set i (some v)) H1
def KP{e:Ci.E}(hl:∀env q,aC F e env=.ok q->∃xs,q=.lst xs)(σ:St)(H:Hp)(Q:VK)(h:tE X W F e σ H Q):tF X W F e σ H Q:=by
 obtain⟨H0,G,env,sr,o⟩:=h
 refine⟨H0,G,env,sr,?_⟩;cases r:aC F e env with
 |bad=>rw [r] at o;exact o
 |exc c=>rw [r] at o;exact o
 |ok q=>
  rw [r] at o;obtain⟨xs,rfl⟩:=hl env q r
  exact⟨xs,rfl,λa vs G' H' g ha l=>o _ _ _ (g.trans (.new g.sub ha)) (.of (.l (.inl (.inl au)) (ah.same (bf (g.sub.free ha)) xs l)))⟩
theorem zX(S:d7 Γ F W N sc k E X){i:Nat}{e:Ci.E}{p:Stmt}(hl:∀env q,aC F e env=.ok q->∃xs,q=.lst xs)(dA:fQ e=true)(h:PS X p (Ig X W F i e)):GS X W F H0 E (.set i e) p:=
 L2.PS.imp h λD σ H hq=>by
  obtain⟨G,env,sr,o⟩:=hq
  rw [f6] at o;refine KP hl σ H _ (ma S sr o λq v G1 H1 g t bq o1=>?_);exact o1 _ G1 H1 (bq.set i (t.rep dA)) bq.go
def C4(S:d7 Γ F W N sc k E X){i:Nat}{x:Str}{e:Ci.E}{p:Stmt}(hi:N[i]?=some x)(hl:∀env q,aC F e env=.ok q->∃xs,q=.lst xs)(h:PS X p (Ig X W F i e)):GS X W F H0 E (.own i e) p:=by
 intro aa s σ H D I hq;have zL:i<σ.length:=by rw [I.len,S.C.hN];exact(zzH.mp hi).1
 refine h aa s σ H D I ?_;obtain⟨G,env,sr,o⟩:=hq
 rw [f6] at o;refine Kz S hl sr o λxs a vs G1 H1 g ha l bq o1=>?_
 have hO:Own W H0 G1 (upd H1 a (.lst vs)) (.lst xs) (.ref a):=⟨a,vs,rfl,au,bq.sub.free ha,bq.base.free ha,l⟩
 obtain⟨r2,g2⟩:=sN bq bq.go (i:=i) (by rw [bq.len];exact zL) ha hO
 exact o1 _ G1 _ r2 g2
def oW{i:Nat}{x:Str}{e:Ci.E}{p:Expr}{xp pos:Pos}(S:d7 Γ F W N sc k E X)(h:N[i]?=some x)(hl:fh sc x=true)(he:GF X W F e p)(hs:swapsWith p (some (.Name x xp)) pos.line X.env=pure false):PS X (.Assign [.Name x xp] p pos) (Ig X W F i e):=by
 obtain⟨a1,a2,a3⟩:=ez S h hl
 exact oj a1 a2 a3 he hs (.inl (S.fn x))
def yG(S:d7 Γ F W N sc k E X){i:Nat}{x:Str}{xp fU:Pos}(hx:N[i]?=some x)(BN:fh sc x=true){kk:Nat}{cH:List Nat}{tg:Tg}{it:I}{elt:Ci.E}{cV ft d9:Expr}{scope:Scope}{pos:Pos}(h:jz N sc scope kk cH (aG cV))(cL:jc kk tg=true)(dA:fQ elt=true)(hi:GI X W F cV it ft)(u9:∀x,foldedSetIterable ft X.env x=pure x)
 (w5:gq (aG cV++freeOf scope) (cZ scope sc) (kU scope) tg cV=true) (he:∀Y,dR Γ.zO F W (aG cV++freeOf scope) (cZ scope sc) k Y->GE Y W F elt d9):PS X (.Assign [.Name x xp] (.ListComp d9 [⟨cV,ft,[],0⟩] scope pos) fU) (Ig X W F i (.comp kk cH tg it elt)):=by
 obtain⟨a1,a2,a3⟩:=ez S hx BN
 cases xj:Nk sc x xp (.ListComp d9 [⟨cV,ft,[],0⟩] scope pos) with
 |false=>exact oW S hx BN (tU S.C h cL dA hi u9 w5 he) (by rw [jk S.C.fv S.kind,xj])
 |true=>
  intro aa s σ H D I hq;have Gg:(freeOf scope).Nodup:=(List.nodup_append.mp h.nd).2.1
  have rd:=tO (N:=N) S.C.K cL dA h.slots Gg σ H _ hq
  have:=rH (g:=gT X.K tg) (te:=tN W F elt) (xs:=aG cV) (ys:=freeOf scope) (is:=cH) (pos:=pos) a1 a2 a3 S.C.calm (oV S.C.hN S.C.fv I.ok h) hi
   (λfp s1 H1 A=>ye (fn:=kU scope) (X:=bP X (aG cV++freeOf scope) scope (cu X.env (freeOf scope)) fp s1 H1 A) rfl h.nd (eK S.C.fv) rfl (λ_ z=>z) w5)
   (λfp s1 H1 A=>L2.PE.imp (he _ (eh S.C h fp s1 H1 A)) λσ H Q z=>ub σ H Q z) (by rw [jk (l:=fU.line) S.C.fv S.kind,xj]) u9 (.inl (S.fn x)) aa s σ H D I
  rw [h.len] at this;exact this rd
def rD(S:d7 Γ F W N sc k E X){i:Nat}{x:Str}{xp fU:Pos}(hx:N[i]?=some x)(BN:fh sc x=true){kk:Nat}{cH:List Nat}{tg:Tg}{it:I}{c elt:Ci.E}{cV ft pc d9:Expr}{scope:Scope}{pos:Pos}(h:jz N sc scope kk cH (aG cV))(cL:jc kk tg=true)(dA:fQ elt=true)(hi:GI X W F cV it ft)(u9:∀x,foldedSetIterable ft X.env x=pure x)
 (w5:gq (aG cV++freeOf scope) (cZ scope sc) (kU scope) tg cV=true) (hc:∀Y,dR Γ.zO F W (aG cV++freeOf scope) (cZ scope sc) k Y->GT Y W F c pc) (he:∀Y,dR Γ.zO F W (aG cV++freeOf scope) (cZ scope sc) k Y->GE Y W F elt d9):PS X (.Assign [.Name x xp] (.ListComp d9 [⟨cV,ft,[pc],0⟩] scope pos) fU) (Ig X W F i (.bC kk cH tg it c elt)):=by
 obtain⟨a1,a2,a3⟩:=ez S hx BN
 cases xj:Nk sc x xp (.ListComp d9 [⟨cV,ft,[pc],0⟩] scope pos) with
 |false=>exact oW S hx BN (nh S.C h cL dA hi u9 w5 hc he) (by rw [jk S.C.fv S.kind,xj])
 |true=>
  intro aa s σ H D I hq;have Gg:(freeOf scope).Nodup:=(List.nodup_append.mp h.nd).2.1
  have rd:=nj (N:=N) S.C.K cL dA h.slots Gg σ H _ hq
  have:=nX (g:=gT X.K tg) (tt:=Lv W F c) (te:=tN W F elt) (xs:=aG cV) (ys:=freeOf scope) (is:=cH) (pos:=pos) a1 a2 a3 S.C.calm (oV S.C.hN S.C.fv I.ok h) hi
   (λfp s1 H1 A=>ye (fn:=kU scope) (X:=bP X (aG cV++freeOf scope) scope (cu X.env (freeOf scope)) fp s1 H1 A) rfl h.nd (eK S.C.fv) rfl (λ_ z=>z) w5)
   (λfp s1 H1 A=>L2.PT.imp (hc _ (eh S.C h fp s1 H1 A)) λσ H Q z=>yj σ H Q z)
   (λfp s1 H1 A=>L2.PE.imp (he _ (eh S.C h fp s1 H1 A)) λσ H Q z=>ub σ H Q z) (by rw [jk (l:=fU.line) S.C.fv S.kind,xj]) u9 (.inl (S.fn x)) aa s σ H D I
  rw [h.len] at this;exact this rd
def uM{tg:Tg}{p:PV}{env:Sl}(c:Str):Tg.put tg p env≠.exc c:=by
 unfold Tg.put;split<;>exact λz=>nomatch z
theorem GX(S:d7 Γ F W N sc k E X){c:Ci.E}{a b:Ss}{p:Expr}{pa pb:List Stmt}{pos:Pos}(hc:GT X W F c p)(ha:zI X W F H0 E a pa)(hb:zI X W F H0 E b pb):GS X W F H0 E (.ite c a b) (.If p pa pb pos):=
 L2.PS.imp (IS hc ha hb) λD σ H h=>by
  obtain⟨G,env,sr,o⟩:=h
  rw [f6] at o;refine DG S sr o λt G1 H1 g bq o1=>?_
  cases t with
  |true=>
   rw [if_pos rfl] at o1⊢;exact⟨G1,env,bq,o1⟩
  |false=>
   rw [if_neg zzf] at o1⊢;exact⟨G1,env,bq,o1⟩
theorem EX(S:d7 Γ F W N sc k E X){c:Ci.E}{b:Ss}{p:Expr}{pb:List Stmt}{pos:Pos}(hc:GT X W F c p)(hb:zI X W F H0 E b pb):GS X W F H0 E (.HY c b) (.While p pb [] pos):=
 L2.PS.imp (xP S.own hc hb) λD σ H h=>by
  obtain⟨G,env,sr,o⟩:=h
  rw [f6] at o;refine⟨λm σ' H'=>∃G' ag,SR W H0 ag σ' G' H'/\aH W G H0 G' H'/\cb W H0 G' E (dj (aC F c) (aB F b) m ag) D,⟨_,G,env,sr,sr.go,o⟩,?_⟩
  rintro m σ' H' ⟨G',ag,sr',g',o'⟩
  cases m with
  |zero=>exact o'.elim
  |succ m=>
   unfold dj at o';refine DG S sr' o' λt G1 H1 g1 bq o1=>?_
   cases t with
   |false=>
    rw [if_neg zzf] at o1⊢;exact o1 σ' G1 H1 bq bq.go
   |true=>
    rw [if_pos rfl] at o1⊢;refine⟨λσ2 H2=>∃G2 dU,SR W H0 dU σ2 G2 H2/\aH W G H0 G2 H2/\cb W H0 G2 E (dj (aC F c) (aB F b) m dU) D,λσ2 H2 h2=>⟨m,Nat.lt_succ_self _,h2⟩,G1,ag,bq,?_⟩
    have gg:=g'.then (sr'.on g1)
    cases r:aB F b ag with
    |bad=>rw [r] at o1;exact o1.elim
    |exc cc=>rw [r] at o1;exact o1
    |ok f=>
     rw [r] at o1;cases f with
     |nx dU=>exact λσ2 G2 H2 fZ g2=>⟨G2,dU,fZ,gg.then g2,cb.on (show cb W H0 G1 E (dj (aC F c) (aB F b) m dU) D from o1) g2⟩
     |ct dU=>exact λσ2 G2 H2 fZ g2=>⟨G2,dU,fZ,gg.then g2,cb.on (show cb W H0 G1 E (dj (aC F c) (aB F b) m dU) D from o1) g2⟩
     |bk dU=>exact λσ2 G2 H2 fZ g2=>o1 σ2 G2 H2 fZ g2
     |rt q=>exact λv G2 H2 rv g2=>o1 v G2 H2 rv g2
def Gk(S:d7 Γ F W N sc k E X){tg:Tg}{it:I}{b:Ss}{cV ft:Expr}{pb:List Stmt}{pos:Pos}(w5:gq N sc (λ_=>true) tg cV=true)(hit:Dj it=true)(hi:GI X W F cV it ft)(u9:∀x,foldedSetIterable ft X.env x=pure x)(hb:zI X W F H0 E b pb):GS X W F H0 E (.bD tg it b) (.For cV ft pb [] pos):=
 L2.PS.imp (EI S.own S.C.calm hi (ye (fn:=λ_=>true) S.C.hN S.C.nd S.C.fv S.C.calm (λx _=>S.fn x) w5) hb u9) λD σ H h=>by
  obtain⟨G,env,sr,o⟩:=h
  rw [f6] at o;refine⟨H0,G,env,sr,(o.bind S sr).imp λps nk J G1 H1 g1 gi=>?_⟩
  have cU:=gi.cU hit
  generalize hf:(λ(x:PV) (env:Sl)=>(tg.put x env).bind λag=>aB F b ag)=f at nk
  have bq:=sr.grow g1
  refine⟨λi m σ' H'=>i<=ps.length/\m=ps.length-i/\∃G' ag,SR W H0 ag σ' G' H'/\aH W G1 H0 G' H'/\cb W H0 G' E (forL f (ps.drop i) ag) D,⟨_,Nat.zero_le _,rfl,G1,env,bq,bq.go,by rw [List.drop_zero];exact cb.on nk (sr.on g1)⟩,?_⟩
  rintro i m σ' H' ⟨hi2,hm,G',ag,sr',g',o'⟩
  obtain⟨ist,igo⟩:=cU i G' H' g'.g (.of (g'.g.trans sr'.sub)) sr'.sub
  by_cases hlast:i=ps.length
  ·refine .inl ⟨ist hlast,?_⟩;rw [hlast,List.drop_length] at o';exact o' σ' G' H' sr' sr'.go
  ·have cL:i<ps.length:=by omega
   obtain⟨hgo,hyld⟩:=igo ps[i] (zzg cL)
   refine .inr ⟨hgo,λσ2 H2=>i+1<=ps.length/\∃G2 dU,SR W H0 dU σ2 G2 H2/\aH W G1 H0 G2 H2/\cb W H0 G2 E (forL f (ps.drop (i+1)) dU) D,λσ2 H2 h2=>⟨ps.length-(i+1),by omega,h2.1,rfl,h2.2⟩,λx kq hy=>?_⟩
   obtain⟨sQ,g'',rx⟩:=hyld x kq hy
   rw [List.drop_eq_getElem_cons cL] at o';unfold forL at o';have RC:f ps[i] ag=(tg.put ps[i] ag).bind λag=>aB F b ag:=by rw [<-hf]
   rw [RC] at o';have fZ:=sr'.grow g''
   have g2:=g'.then (sr'.on g'')
   cases r:tg.put ps[i] ag with
   |bad=>rw [r] at o';exact o'.elim
   |exc c=>exact absurd r (uM c)
   |ok dU=>
    rw [r] at o';refine rb S.C.K r fZ rx λσ2 sr3=>⟨sQ,dU,sr3,?_⟩
    have o2:cb W H0 sQ E ((aB F b dU).bind λfl=>match fl with
     |.nx ag=>forL f (ps.drop (i+1)) ag
     |.ct ag=>forL f (ps.drop (i+1)) ag
     |.bk ag=>.ok (.nx ag)
     |.rt p=>.ok (.rt p)) D:=cb.on o' (sr'.on g'')
    cases r2:aB F b dU with
    |bad=>rw [r2] at o2;exact o2.elim
    |exc cc=>rw [r2] at o2;exact o2
    |ok fl=>
     rw [r2] at o2;cases fl with
     |nx env3=>exact λσ3 G3 H3 Ea g3=>⟨cL,G3,env3,Ea,g2.then g3,cb.on (show cb W H0 sQ E (forL f (ps.drop (i+1)) env3) D from o2) g3⟩
     |ct env3=>exact λσ3 G3 H3 Ea g3=>⟨cL,G3,env3,Ea,g2.then g3,cb.on (show cb W H0 sQ E (forL f (ps.drop (i+1)) env3) D from o2) g3⟩
     |bk env3=>exact λσ3 G3 H3 Ea g3=>o2 σ3 G3 H3 Ea g3
     |rt q=>exact λv G3 H3 rv g3=>o2 v G3 H3 rv g3
theorem De:zI X W F H0 E .nil []:=L2.sV.imp Dh λD σ H h=>by
 obtain⟨G,env,sr,o⟩:=h
 rw [aB] at o;exact o σ G H sr sr.go
theorem zC{s:Ci.S}{ss:Ss}{p:Stmt}{ps:List Stmt}(h1:GS X W F H0 E s p)(h2:zI X W F H0 E ss ps):zI X W F H0 E (.cons s ss) (p::ps):=
 L2.sV.imp (yi h1 h2) λD σ H h=>by
  obtain⟨G,env,sr,o⟩:=h
  rw [aB] at o;refine⟨G,env,sr,?_⟩;cases r:f6 F s env with
  |bad=>rw [r] at o;exact o
  |exc c=>rw [r] at o;exact o
  |ok f=>
   rw [r] at o;cases f with
   |nx dU=>exact λσ2 G2 H2 fZ g2=>⟨G2,dU,fZ,cb.on (show cb W H0 G E (aB F ss dU) D from o) g2⟩
   |bk dU=>exact o
   |ct dU=>exact o
   |rt q=>exact o
def Bw{i:Nat}{ss:Ss}{ps:List Stmt}(h:zI X W F H0 E ss ps):zI X W F H0 E (.cons (.cU i) ss) ps:=by
 intro aa s σ H D I hq;obtain⟨G,env,sr,o⟩:=hq
 rw [aB,f6] at o;rcases HE sr sr.go i with⟨G',sr',g'⟩|⟨a,az,ha,k⟩
 ·exact h aa s σ H D I ⟨G',_,sr',cb.on (show cb W H0 G E (aB F ss (env.modify i om)) D from o) g'⟩
 ·obtain⟨ob,J⟩:=I.freeze ha
  obtain⟨G',sr',g'⟩:=k ob
  exact h aa s σ _ D J ⟨G',_,sr',cb.on (show cb W H0 G E (aB F ss (env.modify i om)) D from o) g'⟩
def rn(hK:W.K=X.K):OA X "list.extend" (λx vs H Q=>∃l b xs zs,x=.ref l/\vs=[.ref b]/\H l=some (.lst xs)/\m9 W.K H b zs/\xs.length+zs.length<=sizeLine/\Q .aA (upd H l (.lst (xs++zs)))):=by
 intro aa s σ H x vs v us Q I rx rv h;obtain⟨l,b,xs,zs,rfl,rfl,hH,hB,hz,q⟩:=h
 cases rx;obtain⟨u,rfl,ru⟩:=Vals.one rv
 cases ru;obtain⟨z,ak,n,r,hl,e⟩:=I.FY hH
 obtain⟨dN,n2,r2,hl2,z2,e2⟩:=Aa hK I hB
 have hsz:ak.toArray.size+dN.toArray.size<=sizeLine:=by rw [zzC,zzC];omega
 have JG:¬(!ak.toArray.isEmpty&&Builtin.List.listTooLong (ak.toArray.size+dN.toArray.size))=true:=by
  rw [zg hsz,Bool.and_false];exact zzf
 refine PySem.call_meets PySem.F.slot_list_extend ⟨_,e,rfl⟩ PySem.F.entry_list_extend (PySem.F.args_list_extend_2 _ _)
  (PySem.AutoSeq1.list_extend_list_list_0 l ak.toArray n b dN.toArray n2 JG (by rw [zzC];omega) (by omega)) ⟨e,e2,?_⟩
 refine⟨.aA,_,I.Hz (its':=ak++dN) hH e (by simp) (r.append r2) ?_,rfl,q⟩;rw [zzM];omega
def kQ(S:d7 Γ F W N sc k E X){i:Nat}{x:Str}{pos:Pos}(h:N[i]?=some x)(hv:eX sc x=true)(ho:okN x=true):PE X (.Name x pos) (Ax i):=
 km (by rw [S.C.hN];exact h) (nC S.C hv) (fJ ho).1 (fJ ho).2.1
def jv{env:Sl}{σ:St}{G H:Hp}{i:Nat}{xs:List PV}(sr:SR W H0 env σ G H)(h:env[i]?=some (.own (.lst xs))):∃a vs,σ[i]?=some (some (.ref a))/\H a=some (.lst vs)/\G a=none/\H0 a=none/\ah W G xs vs:=by
 obtain⟨o,ho,v,rfl,a,vs,rfl,h1,h2,h3,l⟩:=sr.slot i _ h
 exact⟨a,vs,ho,h1,h2,h3,l⟩
def Hv(S:d7 Γ F W N sc k E X){i:Nat}{x:Str}{e:Ci.E}{p:Expr}{np apos b8 pos:Pos}(h:N[i]?=some x)(hv:eX sc x=true)(ho:okN x=true)(lD:(apos.endLine==b8.line)=true)(dA:fQ e=true)(he:GE X W F e p)
 (cJ:∀env ps,starEach (p::ps) env=(false,eval p env)::starEach ps env):GS X W F H0 E (.app i e) (.Expr (.Call (.Attribute (.Name x np) "append" apos) [p] [] b8) pos):=by
 refine L2.PS.imp (jh (sO PySem.F.plainAttrs_list PySem.F.slot_list_append PySem.F.type_list_append mE (kQ S h hv ho) (bO he c7 (cJ _ _)) rfl (by rw [cJ];rfl) lD (cJ _ _) rfl) rfl) λD σ H hq=>?_
 obtain⟨G,env,sr,o⟩:=hq
 rw [f6] at o;split at o
 ·rename_i xs hx;obtain⟨a,vs,hs,h1,h2,h3,l⟩:=jv sr hx
  refine⟨.ref a,hs,.inl ⟨rfl,_,dw.of h1⟩,ma S sr o λq v G1 H1 g t bq o1=>?_⟩
  split at o1
  ·rename_i hl;have vX:=g.h.at h1 (λ_ z=>nomatch z)
   have vW:=g.own a (by rw [h1];exact λz=>nomatch z) (by rw [h1];exact λ_ z=>nomatch z) h2
   have l':=ah.same g.g xs l
   refine⟨a,vs,v,rfl,rfl,vX,by rw [l.length];exact zzW hl (by decide),?_⟩;obtain⟨r2,g2⟩:=kS (p':=.lst (xs++[q])) (ob:=.lst (vs++[v])) bq bq.go hx hs vW h3 ⟨a,_,rfl,au,vW,h3,l'.append (.cons (t.rep dA) .nil)⟩
   exact o1 _ G1 _ r2 g2
  ·exact o1.elim
 ·exact o.elim
def Bo(S:d7 Γ F W N sc k E X){i:Nat}{x:Str}{e:Ci.E}{p:Expr}{np apos b8 pos:Pos}(h:N[i]?=some x)(hv:eX sc x=true)(ho:okN x=true)(lD:(apos.endLine==b8.line)=true)(he:GE X W F e p)
 (cJ:∀env ps,starEach (p::ps) env=(false,eval p env)::starEach ps env):GS X W F H0 E (.pH i e) (.Expr (.Call (.Attribute (.Name x np) "extend" apos) [p] [] b8) pos):=by
 refine L2.PS.imp (jh (sO PySem.F.plainAttrs_list PySem.F.slot_list_extend PySem.F.type_list_extend (rn S.C.K) (kQ S h hv ho) (bO he c7 (cJ _ _)) rfl (by rw [cJ];rfl) lD (cJ _ _) rfl) rfl) λD σ H hq=>?_
 obtain⟨G,env,sr,o⟩:=hq
 rw [f6] at o;split at o
 ·rename_i xs hx;obtain⟨a,vs,hs,h1,h2,h3,l⟩:=jv sr hx
  refine⟨.ref a,hs,.inl ⟨rfl,_,dw.of h1⟩,ma S sr o λq v G1 H1 g t bq o1=>?_⟩
  split at o1
  ·rename_i ys;split at o1
   ·rename_i hl;have vX:=g.h.at h1 (λ_ z=>nomatch z)
    have vW:=g.own a (by rw [h1];exact λz=>nomatch z) (by rw [h1];exact λ_ z=>nomatch z) h2
    have l':=ah.same g.g xs l
    obtain⟨b,us,rfl,hb,lb⟩:=t.top.lst bq.sub
    refine⟨a,b,vs,us,rfl,rfl,vX,hb,by rw [l.length,lb.length];exact j5 hl,?_⟩;obtain⟨r2,g2⟩:=kS (p':=.lst (xs++ys)) (ob:=.lst (vs++us)) bq bq.go hx hs vW h3 ⟨a,_,rfl,au,vW,h3,l'.append lb⟩
    exact o1 _ G1 _ r2 g2
   ·exact o1.elim
  ·exact o1.elim
 ·exact o.elim
def IK:V->V->V->Hp->(Hp->Prop)->Prop:=λo i v H Q=>∃a H',o=.ref a/\y6 H a i v H'/\Q H'
def BF(hu:X.A.units+1<cLine):Kp X IK:=by
 intro aa s σ H o i v ov iv u Q I ro ri rv h;obtain⟨a,H',rfl,g,q⟩:=h
 cases ro;exact uG hu I g ri rv λs' I'=>⟨H',I',q⟩
def Ab{env:Sl}{σ:St}{G H:Hp}{i:Nat}{ks:List (List Int)}{ps:List PV}(sr:SR W H0 env σ G H)(h:env[i]?=some (.own (.bw ks ps))):∃a us,σ[i]?=some (some (.ref a))/\ks.length=us.length/\H a=some (.dT (kz ks us))/\G a=none/\H0 a=none/\ah W G ps us:=by
 obtain⟨o,ho,v,rfl,a,us,rfl,n,h1,h2,h3,l⟩:=sr.slot i _ h
 exact⟨a,us,ho,n,h1,h2,h3,l⟩
def Fd(S:d7 Γ F W N sc k E X){i:Nat}{x:Str}{kk e:Ci.E}{pk p:Expr}{np fU pos:Pos}(h:N[i]?=some x)(hv:eX sc x=true)(ho:okN x=true)(dA:fQ e=true)(Qr:aS Γ N sc kk pk=true)(hk:GE X W F kk pk)(he:GE X W F e p):GS X W F H0 E (.put i kk e) (.Assign [.Subscript (.Name x np) pk fU] p pos):=by
 have xj:swappedStores [.Subscript (.Name x np) pk fU] p X.env=pure none:=by cases p<;>rfl
 have ha:∀v,assign (.Subscript (.Name x np) pk fU) X.env v=(do
  let ov<-holding [v] (eval (.Name x np) X.env)
  let iv<-holding [v,ov] (eval pk X.env)
  standAt fU
  holding [v,ov,iv] (setItem ov iv v)
  release [v,ov,iv] []):=by
  intro v;cases pk<;>first|rfl|(cases kk<;>first|(exact bB Qr)|(rename_i q;cases q<;>exact bB Qr))
 refine L2.PS.imp (GR he (FT (kQ S h hv ho) hk (BF (by have:=S.C.room.un;omega)) ha) (by cases p<;>rfl) xj) λD σ H hq=>?_
 obtain⟨G,env,sr,o⟩:=hq
 rw [f6] at o;refine ma S sr o λq v G1 H1 g t bq o1=>?_
 split at o1
 ·rename_i ks ps hx;obtain⟨a,us,hs,n,h1,h2,h3,l⟩:=Ab bq hx
  refine⟨.ref a,hs,ma S bq o1 λq2 v2 G2 H2 g2 t2 fZ o2=>?_⟩
  split at o2
  ·rename_i kk hkk;split at o2
   ·rename_i B0;have e2:=eP hkk
    subst e2;obtain⟨b,rfl,hb⟩:=t2.top.tupI (ns:=kk) fZ.sub rfl
    have vX:=g2.h.at h1 (λ_ z=>nomatch z)
    have vW:=g2.own a (by rw [h1];exact λz=>nomatch z) (by rw [h1];exact λ_ z=>nomatch z) h2
    have l':=ah.same g2.g ps l
    refine⟨a,upd H2 a (.dT (putK (kz ks us) (ki kk) v)),rfl,y6.t vX (by rw [rX];exact fZ.sub _ _ hb) (by rw [nG n];exact zzW B0 (by decide)),?_⟩;rw [zd n];obtain⟨r2,gg⟩:=kS (p':=.bw (cI ks kk) (cX ks ps kk q)) (ob:=.dT (kz (cI ks kk) (cX ks us kk v))) fZ fZ.go hx hs vW h3 ⟨a,_,rfl,qi n kk v,au,vW,h3,uo l' (Rep.same g2.g q (t.rep dA))⟩
    exact o2 _ G2 _ r2 gg
   ·exact o2.elim
  ·exact o2.elim
 ·exact o1.elim
def B2(S:d7 Γ F W N sc k E X){i:Nat}{x:Str}{np dp pos:Pos}(h:N[i]?=some x)(hl:fh sc x=true):GS X W F H0 E (.qL i) (.Assign [.Name x np] (.Dict [] [] dp) pos):=by
 obtain⟨a1,a2,a3⟩:=ez S h hl
 intro aa s σ H D I hq;have zL:i<σ.length:=by rw [I.len,S.C.hN];exact(zzH.mp h).1
 refine oj a1 a2 a3 wo rfl (.inl (S.fn x)) aa s σ H D I ?_;obtain⟨G,env,sr,o⟩:=hq
 rw [f6] at o;intro p hp;obtain⟨r2,g2⟩:=sN (i:=i) (p:=.bw [] []) (ob:=.dT []) sr sr.go (by rw [sr.len];exact zL) hp ⟨p,[],rfl,rfl,au,sr.sub.free hp,sr.base.free hp,.nil⟩
 exact o _ G _ r2 g2
end
end Ci
namespace L2
open PySem PySem.Spec PyProof.Rows
end L2
namespace Ci
open PySem L2
section
variable{Γ:Pg}{X:Cx}{W:Wd}{F:aM}{N:List Str}{sc:Scope}{k:Nat}{H0:Hp}{E:XK}
theorem ah.erase{G:Hp}:∀{ps:List PV} {vs:List V} (n:Nat),ah W G ps vs->ah W G (ps.eraseIdx n) (vs.eraseIdx n)
 |[],_,n,h=>by simp! [ah] at h;subst h;simp! [List.eraseIdx_nil];exact .nil
 |p::ps,_,0,h=>by
  obtain⟨v,r,rfl,h1,h2⟩:=h.bp
  exact h2
 |p::ps,_,n+1,h=>by
  obtain⟨v,r,rfl,h1,h2⟩:=h.bp
  exact .cons h1 (ah.erase n h2)
def vx(S:d7 Γ F W N sc k E X){i j:Nat}{x y:Str}{e:Ci.E}{p:Expr}{np apos b8 yp wC yS pos:Pos}(h:N[i]?=some x)(hv:eX sc x=true)(ho:okN x=true)(lD:(apos.endLine==b8.line)=true)(hy:N[j]?=some y)(QG:eX sc y=true)(Rv:okN y=true)(D6:(wC.endLine==yS.line)=true)(he:GE X W F e p)
 (cJ:∀env ps,starEach (p::ps) env=(false,eval p env)::starEach ps env):GS X W F H0 E (.fD i j e) (.Expr (.Call (.Attribute (.Name x np) "append" apos) [.Call (.Attribute (.Name y yp) "pop" wC) [p] [] yS] [] b8) pos):=by
 refine L2.PS.imp (jh (sO PySem.F.plainAttrs_list PySem.F.slot_list_append PySem.F.type_list_append mE (kQ S h hv ho) (bO (sO PySem.F.plainAttrs_list PySem.F.slot_list_pop PySem.F.type_list_pop xl (kQ S hy QG Rv) (bO he c7 (cJ _ _)) rfl (by rw [cJ];rfl) D6 (cJ _ _) rfl) c7 rfl) rfl rfl lD rfl rfl) rfl) λD σ H hq=>?_
 obtain⟨G,env,sr,o⟩:=hq
 rw [f6] at o;split at o
 ·rename_i xs ys hx Bt;obtain⟨a,vs,hs,h1,h2,h3,l⟩:=jv sr hx
  obtain⟨b,us,uy,vX,vW,h3',l'⟩:=jv sr Bt
  refine⟨.ref a,hs,.inl ⟨rfl,_,dw.of h1⟩,.ref b,uy,.inl ⟨rfl,_,dw.of vX⟩,ma S sr o λq v G1 H1 g t bq o1=>?_⟩
  split at o1
  ·rename_i n;split at o1
   ·rename_i hc;obtain⟨c1,c2,c5,c3,c4⟩:=hc
    obtain⟨m,rfl⟩:=zzw c1
    have hm:m<ys.length:=by omega
    have hq:ys[m]?=some ys[m]:=zzg hm
    have lK:(Res.of ys[(m:Int).toNat]?)=.ok ys[m]:=by rw [zz4,hq];rfl
    rw [lK] at o1;obtain⟨w,hw,ix⟩:=l'.nv hq
    have L6:a≠b:=λz=>c4 (sr.apart i j _ _ a hx Bt hs (by rw [z];exact uy))
    have k1:=g.h.at vX (λ_ z=>nomatch z)
    have k2:=g.own b (by rw [vX];exact λz=>nomatch z) (by rw [vX];exact λ_ z=>nomatch z) vW
    have k3:=ah.same g.g ys l'
    have m1:=g.h.at h1 (λ_ z=>nomatch z)
    have m2:=g.own a (by rw [h1];exact λz=>nomatch z) (by rw [h1];exact λ_ z=>nomatch z) h2
    have m3:=ah.same g.g xs l
    have Sg:m<us.length:=by rw [l'.length];exact hm
    have B0:cK=1000000:=rfl
    obtain rfl:v=.int (m:Int):=t.top.int
    obtain⟨r1,g1⟩:=kS (p':=.lst (ys.eraseIdx m)) (ob:=.lst (us.eraseIdx m)) bq bq.go Bt uy k2 h3' ⟨b,_,rfl,au,k2,h3',ah.erase m k3⟩
    have RQ:(env.set j (Slot.own (.lst (ys.eraseIdx m))))[i]?=some (.own (.lst xs)):=by rw [zzS (Ne.symm c4)];exact hx
    have Rg:upd H1 b (.lst (us.eraseIdx m)) a=some (.lst vs):=by rw [ai L6];exact m1
    obtain⟨r2,g2⟩:=kS (p':=.lst (xs++[ys[m]])) (ob:=.lst (vs++[w])) r1 g1 RQ hs m2 h3 ⟨a,_,rfl,au,m2,h3,m3.append (.cons (Rep.same g.g _ ix) .nil)⟩
    refine⟨b,us,(m:Int),m,w,rfl,rfl,k1,by omega,by omega,?_,hw,a,vs,w,rfl,rfl,Rg,by rw [l.length];exact zzW c3 (by decide),o1 _ G1 _ r2 g2⟩;unfold seqIndex?;have:¬(m:Int)<0:=by omega
    simp! [this,if_false];rw [if_pos (by rw [zza];exact⟨zzh (by omega),zzh (by omega)⟩)]
    rfl
   ·exact o1.elim
  ·exact o1.elim
 ·exact o.elim
def Ao(S:d7 Γ F W N sc k E X){i:Nat}{x:Str}{e:Ci.E}{p:Expr}{np gp cp pos:Pos}(h:N[i]?=some x)(hl:fh sc x=true)(hg:ff sc "list"=true)(hm:Γ.bs.contains "list"=true)(he:GE X W F e p)
 (cJ:∀env ps,starEach (p::ps) env=(false,eval p env)::starEach ps env):GS X W F H0 E (.jd i e) (.Assign [.Name x np] (.Call (.Name "list" gp) [p] [] cp) pos):=by
 obtain⟨a1,a2,a3⟩:=ez S h hl
 intro aa s σ H D I hq;have zL:i<σ.length:=by rw [I.len,S.C.hN];exact(zzH.mp h).1
 refine oj a1 a2 a3 (eL n4 (dE S.C hg) (S.C.bs _ (zzn.mp hm)) (by decide+kernel) (bO he c7 (cJ _ _)) (he:=cJ _ _) (hpl:=rfl)) rfl (.inl (S.fn x)) aa s σ H D I ?_;obtain⟨G,env,sr,o⟩:=hq
 rw [f6] at o;refine ma S sr o λq v G1 H1 g t bq o1=>?_
 have fin:∀xs a vs,v=.ref a->(dw X.K H1 a vs\/eU X.K H1 a vs)->ah W G1 xs vs->cb W H0 G1 E (.ok (.nx (env.set i (.own (.lst xs))))) D->∃p ys,[v]=[V.ref p]/\(dw X.K H1 p ys\/eU X.K H1 p ys)/\∀l,H1 l=none->D.nx (σ.set i (some (.ref l))) (upd H1 l (.lst ys)):=λxs a vs e hs l o2=>by
  subst e;refine⟨a,vs,rfl,hs,λad hp=>?_⟩
  obtain⟨r2,g2⟩:=sN (i:=i) (p:=.lst xs) (ob:=.lst vs) bq bq.go (by rw [bq.len];exact zL) hp ⟨ad,vs,rfl,au,bq.sub.free hp,bq.base.free hp,l⟩
  exact o2 _ G1 _ r2 g2
 cases q with
 |lst xs=>
  obtain⟨a,vs,e,h1,l⟩:=t.top.lst bq.sub
  exact fin xs a vs e (.inl (iP S.C.K h1)) l o1
 |tup xs=>
  obtain⟨a,vs,e,h1,l⟩:=t.top.tup bq.sub
  exact fin xs a vs e (.inr (S.C.K▸h1)) l o1
 |_=>exact o1.elim
def pE{e:Ci.E}(h:gR e=true):∀env q,aC F e env=.ok q->∃xs,q=.lst xs:=by
 cases e<;>first|(exact bB h)|exact lst_is|exact um|exact mR
def mQ(S:d7 Γ F W N sc k E X){i:Nat}{x:Str}{xp pos:Pos}(hx:N[i]?=some x)(BN:fh sc x=true)(e:Ci.E)(p:Expr)(hf:gR e=true)(h:aS Γ N sc e p=true):PS X (.Assign [.Name x xp] p pos) (Ig X W F i e):=by
 cases e with
 |lst as=>
  obtain⟨ps,e,h1⟩:=aj h
  obtain⟨_,rfl⟩:=yM e
  have h2:=ax h1
  have h0:=ax h2.1
  exact oW S hx BN (yP h0.1 (zzY h0.2) (i3 as S.C _ h2.2)) rfl
 |comp kk cH tg it elt=>
  obtain⟨d9,gens,scope,_,rfl,h1⟩:=LK h
  obtain⟨⟨cV,ft,ifs,asy⟩,z2,h2⟩:=fj h1
  have h3:=ax h2
  have z3:=CK h3.1
  dsimp only at z2 z3;subst z2 z3
  clear h h1 h2
  have h:=ax h3.2
  clear h3
  simp! [zza] at h;obtain⟨⟨⟨⟨⟨⟨h1,h2⟩,h3⟩,h4⟩,h5⟩,h6⟩,gH⟩:=h
  have gH:=zzY gH
  subst gH;exact yG S hx BN (gQ h1) h2 h3 (yk it S.C cV ft h4) (gO h4 _) h5 λY CY=>(aZ elt CY d9 h6).ge
 |bC kk cH tg it c elt=>
  obtain⟨d9,gens,scope,_,rfl,h1⟩:=LK h
  obtain⟨⟨cV,ft,ifs,asy⟩,z2,h2⟩:=fj h1
  obtain⟨pc,z3,h3⟩:=fj h2
  dsimp only at z2 z3;subst z2 z3
  clear h h1 h2
  have h:=ax h3
  clear h3
  simp! [zza] at h;obtain⟨⟨⟨⟨⟨⟨⟨⟨h0,h1⟩,h2⟩,h3⟩,h4⟩,h5⟩,h6⟩,h7⟩,gH⟩:=h
  have gH:=zzY gH
  subst gH;exact rD S hx BN (gQ h1) h2 h3 (yk it S.C cV ft h4) (gO h4 _) h5 (λY CY=>(aZ c CY pc h6).gt h0) λY CY=>(aZ elt CY d9 h7).ge
 |_=>exact bB hf
def uL{e:Ci.E}{p:Expr}(h:aS Γ N sc e p=true)(hf:gR e=false):oQ p=true:=by
 cases p<;>first|rfl|(cases e<;>first|(exact bB h)|(rename_i q;cases q<;>exact bB h)|(cases hf;done))
def vH(S:d7 Γ F W N sc k E X){i:Nat}{x:Str}{e:Ci.E}{p:Expr}{xp pos:Pos}(h:N[i]?=some x)(hl:fh sc x=true)(dA:fQ e=true)(hc:aS Γ N sc e p=true):GS X W F H0 E (.set i e) (.Assign [.Name x xp] p pos):=by
 cases hf:gR e with
 |true=>exact zX S (pE hf) dA (mQ S h hl e p hf hc)
 |false=>exact Ei S h hl dA (aZ e S.C p hc).ge (ue (uL hc hf))
def v7(S:d7 Γ F W N sc k E X)(e:Ci.E)(p:Stmt)(h:en Γ N sc (.expr e) p=true):GS X W F H0 E (.expr e) p:=by
 cases p<;>first|(exact bB h)|skip
 replace h:=ax h
 try simp! [zza] at h
 exact Ba S (aZ e S.C _ h.2).ge h.1
def Bg(S:d7 Γ F W N sc k E X)(i:Nat)(e:Ci.E)(p:Stmt)(h:en Γ N sc (.set i e) p=true):GS X W F H0 E (.set i e) p:=by
 cases p<;>first|(exact bB h)|skip
 replace h:=aj h
 simp! [Option.any_eq_true,zza,zzy] at h;obtain⟨x,h0,h1⟩:=h
 obtain⟨xp,rfl⟩:=oh h0
 exact vH S h1.1.1.1 h1.1.1.2 h1.1.2 h1.2
def Cy(S:d7 Γ F W N sc k E X)(i:Nat)(e:Ci.E)(p:Stmt)(h:en Γ N sc (.own i e) p=true):GS X W F H0 E (.own i e) p:=by
 cases p<;>first|(exact bB h)|skip
 replace h:=aj h
 simp! [Option.any_eq_true,zza,zzy] at h;obtain⟨x,h0,h⟩:=h
 obtain⟨xp,rfl⟩:=oh h0
 exact C4 S h.1.1.1 (pE h.1.2) (mQ S h.1.1.1 h.1.1.2 e _ h.1.2 h.2)
def z9(S:d7 Γ F W N sc k E X)(i:Nat)(p:Stmt)(h:en Γ N sc (.cU i) p=true):GS X W F H0 E (.cU i) p:=by
 cases p<;>exact bB h
def A8(S:d7 Γ F W N sc k E X)(i:Nat)(e:Ci.E)(p:Stmt)(h:en Γ N sc (.app i e) p=true):GS X W F H0 E (.app i e) p:=by
 cases p<;>first|(exact bB h)|skip
 replace h:=aj h
 simp! [Option.any_eq_true,zza,zzy] at h;obtain⟨⟨x,m,args⟩,h0,⟨⟨⟨⟨h1,h2⟩,h3⟩,h4⟩,h5⟩,q,h6,h7⟩:=h
 obtain⟨np,apos,b8,rfl,hl⟩:=o9 h0
 cases fL h6;cases h4;exact Hv S h1 h2 h3 hl h5 (aZ e S.C q h7).ge (notStar h7)
def xb(S:d7 Γ F W N sc k E X)(i:Nat)(e:Ci.E)(p:Stmt)(h:en Γ N sc (.pH i e) p=true):GS X W F H0 E (.pH i e) p:=by
 cases p<;>first|(exact bB h)|skip
 replace h:=aj h
 simp! [Option.any_eq_true,zza,zzy] at h;obtain⟨⟨x,m,args⟩,h0,⟨⟨⟨h1,h2⟩,h3⟩,h4⟩,q,h6,h7⟩:=h
 obtain⟨np,apos,b8,rfl,hl⟩:=o9 h0
 cases fL h6;cases h4;exact Bo S h1 h2 h3 hl (aZ e S.C q h7).ge (notStar h7)
def BM(S:d7 Γ F W N sc k E X)(i:Nat)(kk e:Ci.E)(p:Stmt)(h:en Γ N sc (.put i kk e) p=true):GS X W F H0 E (.put i kk e) p:=by
 cases p<;>first|(exact bB h)|skip
 replace h:=aj h
 simp! [Option.any_eq_true,zza,zzy] at h;obtain⟨⟨x,pk⟩,h0,⟨⟨⟨⟨h1,h2⟩,h3⟩,h5⟩,h6⟩,h7⟩:=h
 obtain⟨np,sp,rfl⟩:=Hu h0
 exact Fd S h1 h2 h3 h5 h6 (aZ kk S.C pk h6).ge (aZ e S.C _ h7).ge
def xo(S:d7 Γ F W N sc k E X)(i:Nat)(p:Stmt)(h:en Γ N sc (.qL i) p=true):GS X W F H0 E (.qL i) p:=by
 cases p<;>first|(exact bB h)|skip
 rename_i ts v pos;cases v<;>first|(exact bB h)|skip
 rename_i ks vs dp;cases ks<;>first|(exact bB h)|skip
 cases vs<;>first|(exact bB h)|skip
 replace h:=aj h
 simp! [Option.any_eq_true,zza,zzy] at h;obtain⟨x,h0,h1,h2⟩:=h
 obtain⟨yp,rfl⟩:=oh h0
 exact B2 S h1 h2
def yO(S:d7 Γ F W N sc k E X)(i:Nat)(e:Ci.E)(p:Stmt)(h:en Γ N sc (.jd i e) p=true):GS X W F H0 E (.jd i e) p:=by
 cases p<;>first|(exact bB h)|skip
 obtain⟨x,h0,h1⟩:=aj h
 obtain⟨g,as,_,_,rfl,h2⟩:=vU h1
 obtain⟨q,rfl,h3⟩:=fj h2
 obtain⟨yp,rfl⟩:=oh h0
 simp! [zza,zzy] at h3;obtain⟨⟨⟨⟨⟨rfl,h4⟩,h5⟩,h6⟩,h7⟩,h8⟩:=h3
 exact Ao S h6 h7 h4 h5 (aZ e S.C q h8).ge (notStar h8)
def rZ(S:d7 Γ F W N sc k E X)(i j:Nat)(e:Ci.E)(p:Stmt)(h:en Γ N sc (.fD i j e) p=true):GS X W F H0 E (.fD i j e) p:=by
 cases p<;>first|(exact bB h)|skip
 obtain⟨⟨x,m,args⟩,e1,h1⟩:=aj h
 obtain⟨a,z2,h2⟩:=fj h1
 obtain⟨⟨y,m2,args2⟩,e3,h3⟩:=aj h2
 obtain⟨q,z4,h4⟩:=fj h3
 have g:=ax h4
 simp! [zza,zzy] at g;obtain⟨⟨⟨⟨⟨⟨⟨⟨g1,g2⟩,g3⟩,g4⟩,g5⟩,g6⟩,g7⟩,g8⟩,g9⟩:=g
 dsimp only at z2 z4 g4 g8;subst z2 z4 g4 g8;obtain⟨np,apos,b8,rfl,hl⟩:=o9 e1
 obtain⟨yp,wC,yS,rfl,hl2⟩:=o9 e3
 exact vx S g1 g2 g3 hl g5 g6 g7 hl2 (aZ e S.C q g9).ge (notStar g9)
def Av(S:d7 Γ F W N sc k E X)(e:Ci.E)(p:Stmt)(h:en Γ N sc (.ret e) p=true):GS X W F H0 E (.ret e) p:=by
 cases p<;>first|(exact bB h)|skip
 rename_i v pos;cases v with
 |none=>exact bB h
 |some v=>
  replace h:=ax h
  try simp! [zza] at h
  exact FR S h.1 (aZ e S.C v h.2).ge
def vM(S:d7 Γ F W N sc k E X)(c m:Str)(p:Stmt)(h:en Γ N sc (.raise c m) p=true):GS X W F H0 E (.raise c m) p:=by
 cases p<;>first|(exact bB h)|skip
 replace h:=ax h
 simp! [Option.any_eq_true,zza,zzy] at h;obtain⟨hn,⟨x,z⟩,h0,⟨⟨⟨h1,h2⟩,h3⟩,h4⟩,h5⟩:=h
 obtain⟨np,j,zp,cp,rfl⟩:=ET h0
 cases h1;cases h2;rename_i fr pos;cases Option.isNone_iff_eq_none.mp hn;exact wY S h3 h4 h5
def B3(S:d7 Γ F W N sc k E X)(p:Stmt)(h:en Γ N sc (.brk) p=true):GS X W F H0 E (.brk) p:=by
 cases p<;>first|(exact bB h)|skip
 exact FZ
def AR{c:Ci.E}{a b:Ss}{p:Stmt}(h:en Γ N sc (.ite c a b) p=true):∃q pa pb pos,p=.If q pa pb pos/\fg c=true/\aS Γ N sc c q=true/\df Γ N sc a pa=true/\df Γ N sc b pb=true:=by
 cases p<;>first|(exact bB h)|skip
 replace h:=ax h
 try simp! [zza] at h
 exact⟨_,_,_,_,rfl,h.1.1.1,h.1.1.2,h.1.2,h.2⟩
def Dc{tg:Tg}{it:I}{b:Ss}{p:Stmt}(h:en Γ N sc (.bD tg it b) p=true):∃cV ft pb pos,p=.For cV ft pb [] pos/\gq N sc (λ_=>true) tg cV=true/\Dj it=true/\u3 Γ N sc cV it ft=true/\df Γ N sc b pb=true:=by
 cases p<;>first|(exact bB h)|skip
 replace h:=ax h
 try simp! [zza] at h
 cases List.isEmpty_iff.mp h.1.1.1.1;exact⟨_,_,_,_,rfl,h.1.1.1.2,h.1.1.2,h.1.2,h.2⟩
def AA{c:Ci.E}{b:Ss}{p:Stmt}(h:en Γ N sc (.HY c b) p=true):∃q pb pos,p=.While q pb [] pos/\fg c=true/\aS Γ N sc c q=true/\df Γ N sc b pb=true:=by
 cases p<;>first|(exact bB h)|skip
 replace h:=ax h
 try simp! [zza] at h
 cases List.isEmpty_iff.mp h.1.1.1;exact⟨_,_,_,rfl,h.1.1.2,h.1.2,h.2⟩
def Az{ps:List Stmt}(h:df Γ N sc .nil ps=true):ps=[]:=by
 cases ps with
 |nil=>rfl
 |cons _ _=>exact bB h
def w9{s:Ci.S}{ss:Ss}{ps:List Stmt}(h:df Γ N sc (.cons s ss) ps=true):(∃i,s=.cU i/\df Γ N sc ss ps=true)\/∃q qs,ps=q::qs/\en Γ N sc s q=true/\df Γ N sc ss qs=true:=by
 by_cases hz:∃i,s=.cU i
 ·obtain⟨i,rfl⟩:=hz
  exact .inl ⟨i,rfl,h⟩
 ·cases ps with
  |nil=>cases s<;>first|(exact absurd ⟨_,rfl⟩ hz)|(exact bB h)
  |cons p ps=>
   have h2:(en Γ N sc s p&&df Γ N sc ss ps)=true:=by
    cases s<;>first|(exact absurd ⟨_,rfl⟩ hz)|(exact h)
   rw [zza] at h2;exact .inr ⟨p,ps,rfl,h2.1,h2.2⟩
mutual
theorem MN(S:d7 Γ F W N sc k E X):∀(s:Ci.S) (p:Stmt),en Γ N sc s p=true->GS X W F H0 E s p
 |.expr e,p,h=>v7 S e p h
 |.set i e,p,h=>Bg S i e p h
 |.own i e,p,h=>Cy S i e p h
 |.cU i,p,h=>z9 S i p h
 |.app i e,p,h=>A8 S i e p h
 |.pH i e,p,h=>xb S i e p h
 |.put i kk e,p,h=>BM S i kk e p h
 |.fD i j e,p,h=>rZ S i j e p h
 |.jd i e,p,h=>yO S i e p h
 |.qL i,p,h=>xo S i p h
 |.ret e,p,h=>Av S e p h
 |.ite c a b,p,h=>by
  obtain⟨q,pa,pb,pos,rfl,h1,h2,h3,h4⟩:=AR h
  exact GX S ((aZ c S.C _ h2).gt h1) (kg S a _ h3) (kg S b _ h4)
 |.bD tg it b,p,h=>by
  obtain⟨cV,ft,pb,pos,rfl,h1,h2,h3,h4⟩:=Dc h
  exact Gk S h1 h2 (yk it S.C cV ft h3) (gO h3 _) (kg S b _ h4)
 |.HY c b,p,h=>by
  obtain⟨q,pb,pos,rfl,h1,h2,h3⟩:=AA h
  exact EX S ((aZ c S.C _ h2).gt h1) (kg S b _ h3)
 |.raise c m,p,h=>vM S c m p h
 |.brk,p,h=>B3 S p h
theorem kg(S:d7 Γ F W N sc k E X):∀(ss:Ss) (ps:List Stmt),df Γ N sc ss ps=true->zI X W F H0 E ss ps
 |.nil,ps,h=>by
  cases Az h;exact De
 |.cons s ss,ps,h=>by
  rcases w9 h with⟨i,e,h2⟩|⟨q,qs,e,h1,h2⟩
  ·have:=Bw (i:=i) (kg S ss ps h2)
   rw [<-e] at this;exact this
  ·rw [e];exact zC (MN S s q h1) (kg S ss qs h2)
end
end
end Ci
namespace L2
open PySem PySem.Spec PyProof.Rows
def xF{K:zz8}{C:Addr}{T:String}{b:Bool}(h1:PySem.W.kitMeta T=true)(h3:PySem.W.subIn K (.ref C) (.type T)=some b):PySem.W.kitOne K (.ref C) (.type T)=some b:=by
 unfold PySem.W.kitOne;split
 ·rename_i e;cases zzy.mp e
 ·show(if PySem.W.kitMeta T=true then PySem.W.subIn K (.ref C) (.type T) else none)=some b
  rw [if_pos h1];exact h3
def Ej{K:zz8}{h:Heap}{mg:Str->Option Value}{x:Str}{C:Addr}{Pz:List Value}{newId:String}(X:K.In h)(hm:mg x=some (.ref C))(q:PySem.W.excIn K C Pz newId=true):OwnCls x C Pz newId mg h:=by
 constructor
 ·exact hm
 ·unfold PySem.W.excIn at q;split at q
  ·rename_i dd cd sl ho;split at q
   ·rename_i C1 bm1 k0 k1 k2 k3 n1 k5 hm1 DJ;simp! [zza,zzy,Bool.not_eq_true'] at q;obtain⟨⟨⟨⟨⟨q1,q2⟩,q3⟩,q4⟩,q5⟩,q6⟩:=q
    subst q1 q2;obtain⟨nm,bs,mro,ns,qn,hd,sn,sub,ab,col,del⟩:=cd
    have Kh:mro=.ref C1::bm1:=hm1
    have hd2:del=false:=q3
    have Ou:PySem.W.nsOkIn K ns=true:=q5
    have RW:PySem.W.nsIn K ns "__init__"=some none:=q6
    subst Kh hd2;obtain⟨ls⟩:=sl
    have zh:ls=[k0,k1,k2,k3,some (.builtin n1),k5]:=DJ
    subst zh;exact⟨bm1,ns,nm,qn,bs,hd,sn,sub,ab,col,dd,k0,k1,k2,k3,k5,_,X _ _ ho,.of_isNs (PySem.W.isNs_of_in X Ou),PySem.W.nsMap_none_of_in X Ou RW,PySem.W.tail_of_in X q4⟩
   ·cases q
  ·cases q
end L2
namespace Ci
open PySem L2
abbrev yL:List Value:=[.type "ValueError",.type "Exception",.type "BaseException",.type "object"]
structure rK(K:zz8)(mg:Str->Option Value)(Γ:Pg)(W:Wd):Prop where
 hK:W.K=K
 hm:W.mg=mg
 gs:∀q∈Γ.gs,∃u v,mg q.1=some u/\RelV v u/\∀G,Rep W G q.2 v
 bs:∀g∈Γ.bs,mg g=none
 KZ:Γ.cs.contains "ValueError"=false
 cls:∀c∈Γ.cs,∃C,mg c=some (.ref C)
 xc:∀d∈W.xs,∀D,mg d=some (.ref D)->EJ K D/\(∀c∈Γ.cs,∀C,mg c=some (.ref C)->PySem.W.kitOne K (.ref D) (.ref C)=some (c==d||c=="FloorError"))/\PySem.W.kitOne K (.ref D) (.type "ValueError")=some true
 xs:∀c,Γ.rs.contains c=true->c∈W.xs
 rm:∀c,Γ.rs.contains c=true->∃C,mg c=some (.ref C)/\PySem.W.excIn K C yL "ValueError.__new__"=true
 Lb:Γ.cs.contains "FloorError"=true->∀c D,c∈W.xs->mg c=some (.ref D)->∀T,mg "FloorError"=some (.ref T)->PySem.W.exmOne K (.ref D) (.ref T)=some true
 bm:W.ts≠[]->∃bm o,mg "__builtins__"=some (.ref bm)/\bm≠builtinsNs/\bm≠mainGlobals/\K.lookup bm=some o/\o.cls=.type "module"/\o.dict=some builtinsNs/\o.data=.plain
structure Row where
 f:Str
 h:Str
 d:Def
 st:Stmt
 hl:Bool:=false
abbrev dz:Type:=List Row
def lX(l:dz):List Str:=l.filterMap λr=>if r.d.qA.isNone then some r.f else none
def uU(l:dz):List Hs:=l.filterMap λr=>r.d.qA.map λq=>⟨r.f,r.h,q.1,q.2,r.d.np⟩
def tab(l:dz):List (Str×Def):=l.map λq=>(q.f,q.d)
noncomputable def Pg.at(Γ:Pg)(l:dz)(hl:Bool):Pg:={Γ with fs:=lX l,hs:=uU l,hl:=hl}
structure bA(Γ:Pg)(n:Str)(d:Def)(st:Stmt):Prop where
 sc:jq d.N (d.N.take d.np) (aP st)
 np:d.np<=d.N.length
 bind:∀(kV doc pm:Value) (an:Option Addr) (fq ct:Value) (us:List Value),us.length=(d.N.take d.np).length->bindArgs (PySem.W.fnOf n n (cY st) (cA st) (aP st) .none kV doc pm an fq ct) ⟨us,[]⟩=pure ((d.N.take d.np).zip us)
 RI:df Γ d.N (aP st) d.body (cA st)=true
theorem stM{Γ:Pg}{n:Str}{d:Def}{st:Stmt}(b:∀(kV doc pm:Value) (an:Option Addr) (fq ct:Value) (us:List Value),us.length=(d.N.take d.np).length->bindArgs (PySem.W.fnOf n n (cY st) (cA st) (aP st) .none kV doc pm an fq ct) ⟨us,[]⟩=pure ((d.N.take d.np).zip us))
 (a1:(aP st).kind=.function:=by rfl) (a2:(aP st).isCoroutine=false:=by rfl) (a3:(aP st).isGenerator=false:=by rfl) (a4:d.N.Nodup:=by decide+kernel) (a5:d.N.take (d.N.take d.np).length=d.N.take d.np:=by rfl)
 (a6:∀x∈d.N.take d.np,(aP st).names.lookup x=some .local\/(aP st).names.lookup x=some .cell:=by decide+kernel) (a7:∀y∈(aP st).names,y.2≠.free:=by decide+kernel) (a8:d.np<=d.N.length:=by decide+kernel) (a9:df Γ d.N (aP st) d.body (cA st)=true:=by decide+kernel):bA Γ n d st:=⟨⟨a1,a2,a3,a4,a5,a6,a7⟩,a8,b,a9⟩
def iW(K:zz8)(c P:Addr):Prop:=∃o vs file tf flags tg Nz text tt,K.lookup c=some o/\o.cls=.type "code"/\o.data=.fields vs/\vs[11]?=some (.ref P)/\vs.getD 11 .none=.ref P/\vs.getD 18 .none=.str file tf/\
 vs.getD 7 .none=.int flags tg/\vs.getD 9 .none=.bool Nz/\vs.getD 10 .none=.int text tt/\c≠P
def vc(n:Str):Str:=(n++".<locals>.")++"<lambda>"
def zk(K:zz8)(ts:List (Addr×Str))(hl:Bool)(n:Str)(st:Stmt):Prop:=∃(f:Addr) (oc:Value) (od:Option Addr) (kV doc pm:Value) (an:Option Addr) (fq ct:Value) (rO:Array (Option Value)),
 PySem.W.nsIn K mainGlobals n=some (some (.ref f))/\K.lookup f=some ⟨oc,od,.func (PySem.W.fnOf n n (cY st) (cA st) (aP st) .none kV doc pm an fq ct),rO⟩/\PySem.W.codeIn K fq n=true/\PySem.W.keepIn K (.ref f)=true/\
 (hl=true->∃c P,fq=.ref c/\iW K c P/\(P,vc n)∈ts/\∀q',(P,q')∈ts->q'=vc n)
def MA{K:zz8}{ts:List (Addr×Str)}{n:Str}{st:Stmt}{f:Addr}{oc:Value}{od:Option Addr}{kV doc pm:Value}{an:Option Addr}{fq ct:Value}{rO:Array (Option Value)}(a:PySem.W.nsIn K mainGlobals n=some (some (.ref f)))
 (l:K.lookup f=some ⟨oc,od,.func (PySem.W.fnOf n n (cY st) (cA st) (aP st) .none kV doc pm an fq ct),rO⟩) (c:PySem.W.codeIn K fq n=true) (k:PySem.W.keepIn K (.ref f)=true):zk K ts false n st:=⟨f,oc,od,kV,doc,pm,an,fq,ct,rO,a,l,c,k,(λz=>nomatch z)⟩
structure oy(P:Program)(w:World)(K:zz8)(mg:Str->Option Value)(base:Heap)(W:Wd)(F:aM)(k:Nat)(f:Str):Prop where
 ex:∃fa fd ps,fX P w K mg base (gk P w) k fa fd ps (wy W F f ps.length none)/\mg f=some (.ref fa)/\PySem.W.keepIn K (.ref fa)=true/\Binds K fd ps []/\∀as,F f as≠.bad->as.length=ps.length
structure Gj(P:Program)(w:World)(K:zz8)(mg:Str->Option Value)(base:Heap)(W:Wd)(F:aM)(k:Nat)(q:Hs):Prop where
 ex:∃fa fd ps,fX P w K mg base (gk P w) k fa fd ps (wy W F q.f ps.length (some (q.g,q.idx)))/\mg q.h=some (.ref fa)/\PySem.W.keepIn K (.ref fa)=true/\Binds K fd ps []/\ps.length=q.np
section
variable{P:Program}{w:World}{K:zz8}{mg:Str->Option Value}{base:Heap}{Γ:Pg}{W:Wd}
def uN{c p:Addr}(KB:K.In base)(h:iW K c p):PySem.W.CodeHd base c p:=by
 obtain⟨o,vs,file,tf,flags,tg,Nz,text,tt,e,r⟩:=h
 exact⟨o,vs,file,tf,flags,tg,Nz,text,tt,KB _ _ e,r⟩
theorem Gf(M:rK K mg Γ W)(KB:K.In base){F:aM}{k:Nat}{N ps:List Str}{qual:Str}{sc:Scope}(S:jq N ps sc)(hF:∀f,Γ.fs.contains f=true->oy P w K mg base W F k f)(hH:∀q∈Γ.hs,Gj P w K mg base W F k q)(hA:∀g as,F g as≠.bad->Γ.fs.contains g=true\/gD g=true){f:Addr}{cd:Value}
 (hL:Γ.hl=true->∃c p,cd=.ref c/\iW K c p/\(p,vc qual)∈W.ts/\∀q',(p,q')∈W.ts->q'=vc qual) {A:Around} {outer:List Env} {s:Shared} {H:Hp} {E:XK} (hr:eC (k+1) (A.deeper (PyProof.Rows.envOfC qual sc (zz9 s) f cd))):
 d7 Γ F W N sc k E (dB (gk P w) P w K mg base N qual sc f cd A outer s H E) where
 C:=⟨rfl,rfl,rfl,S.nd,M.hK,M.hm,M.gs,M.bs,hr,λg hg=>⟨(hF g hg).ex⟩,M.KZ,M.cls,M.xc,λq hq=>⟨(hH q hq).ex⟩,hA,λz=>by
  obtain⟨c,p,e1,e2,e3,e4⟩:=hL z
  exact⟨c,p,e1,uN KB e2,e3,e4⟩,λz=>by
  obtain⟨c,p,e1,e2,e3,e4⟩:=hL z
  obtain⟨bm,o,b1,b2,b3,b4,b5⟩:=M.bm (λy=>by rw [y] at e3;cases e3)
  exact⟨bm,o,b1,b2,b3,KB _ _ b4,b5⟩,λ_ _=>rfl⟩
 fn:=λ_=>rfl
 own:=PassesOwn.leaving
 pass:=JW
 kind:=S.kind
 Kj:=rfl
 frame:=rfl
 xs:=M.xs
 rm:=λc hc=>let⟨C,h,_⟩:=M.rm c hc;⟨C,h⟩
 rz:=λc z j np zp cp pos h1 h2 h3=>by
  obtain⟨C,hC,hx⟩:=M.rm c h1
  have hg:Gl (dB (gk P w) P w K mg base N qual sc f cd A outer s H E) c:=zzy.mp h2
  refine L2.PS.imp (xX hg (Ej KB hC hx) PySem.F.excBase_ValueError (bO xK c7) rfl rfl (fJ h3).1) λD σ H1 h=>⟨(show 1<=sizeLine by decide),λe he=>h C e hC he⟩
 Lb:=M.Lb
def p7{H G:Hp}{N:List Str}{as:List PV}{vs:List V}(sg:ay G H)(tb:cS W G H)(l:ah W G as vs)(hn:as.length<=N.length):SR W H (as.map .val++List.replicate (N.length-as.length) .no) (start N vs) G H:=by
 have hl:=l.length
 unfold L2.start;refine⟨by simp;omega,sg,gC.refl _,λi s e=>?_,λi j p q a e1 _ _ _=>?_,tb,tb⟩
 ·by_cases hi:i<as.length
  ·rw [zzr (by simpa using hi),zzQ] at e;obtain⟨p,hp,rfl⟩:=zzJ.mp e
   obtain⟨v,hv,rv⟩:=l.nv hp
   exact⟨some v,by rw [zzr (by simpa using (show i<vs.length by omega)),zzQ,hv];rfl,v,rfl,rv⟩
  ·rw [zzs (by simpa using hi),List.getElem?_replicate] at e;split at e
   ·rename_i h2;cases e;rw [zzl] at h2;exact⟨none,by rw [zzs (by simp;omega),List.getElem?_replicate,if_pos (by rw [zzl];omega)],trivial⟩
   ·cases e
 ·exfalso
  by_cases hi:i<as.length
  ·rw [zzr (by simpa using hi),zzQ] at e1;obtain⟨p,hp,e⟩:=zzJ.mp e1
   cases e
  ·rw [zzs (by simpa using hi),List.getElem?_replicate] at e1;split at e1<;>cases e1
def SR.JQ{H0 G H:Hp}{env:Sl}{σ:St}{g:Str}{idx:List Nat}{dS:List PV}{v:V}(i:Nat)(r:SR W H0 env σ G H)(h:uY W G g idx dS v):SR W H0 (env.set i (.fn g idx dS)) (σ.set i (some v)) G H where
 len:=by simpa using r.len
 sub:=r.sub
 base:=r.base
 tab:=r.tab
 md:=r.md
 slot:=λj s e=>by
  by_cases hj:i=j
  ·subst hj;have cL:i<env.length:=by
    have:=(zzH.mp e).1
    simpa using this
   rw [zzo cL] at e;cases e;exact⟨some v,zzo (by rw [<-r.len];exact cL),v,rfl,h⟩
  ·rw [zzS hj] at e;obtain⟨o,h1,h2⟩:=r.slot j s e
   exact⟨o,by rw [zzS hj];exact h1,h2⟩
 apart:=λa b q q' ad e1 e2 e3 e4=>by
  have ne:∀{c:Nat} {q:PV},(env.set i (.fn g idx dS))[c]?=some (.own q)->i≠c:=λ{c q} e z=>by
   subst z;have cL:i<env.length:=by
    have:=(zzH.mp e).1
    simpa using this
   rw [zzo cL] at e;cases e
  have n1:=ne e1
  have n2:=ne e2
  rw [zzS n1] at e1 e3;rw [zzS n2] at e2 e4;exact r.apart a b q q' ad e1 e2 e3 e4
def uz{α:Type}{l r:List α}{a b:α}:(l++a::r).set l.length b=l++b::r:=by
 rw [List.set_append_right _ _ (zzE _),Nat.sub_self];rfl
def uK{d:Def}{H G:Hp}{as:List PV}{vs:List V}(QJ:d.np<=d.N.length)(sg:ay G H)(tb:cS W G H)(l:yV W G d.qA as vs)(hv:vs.length=d.np):bR d as=true/\SR W H (bT d as) (start d.N vs) G H:=by
 unfold bR bT;cases hc:d.qA with
 |none=>
  rw [hc] at l;have l:ah W G as vs:=l
  exact⟨by rw [<-l.length,hv];simp,p7 sg tb l (by rw [<-l.length,hv];exact QJ)⟩
 |some q=>
  rw [hc] at l;obtain⟨sW,dS,zN,v,rfl,rfl,l1,cr⟩:=l
  have F5:=l1.length
  have hn:zN.length=d.np-1/\0<d.np:=by rw [zzM] at hv;simp at hv;omega
  have ha:sW.length=d.np-1:=by omega
  refine⟨by simp;omega,?_⟩;have h0:=p7 (N:=d.N) sg tb l1 (by omega)
  have h1:=h0.JQ sW.length cr
  have e1:(sW.map Slot.val++List.replicate (d.N.length-sW.length) Slot.no).set sW.length (.fn q.1 q.2 dS)=((sW++dS).take (d.np-1)).map .val++.fn q.1 q.2 ((sW++dS).drop (d.np-1))::List.replicate (d.N.length-d.np) Slot.no:=by
   rw [<-ha,List.take_left',List.drop_left',show d.N.length-sW.length=(d.N.length-d.np)+1 by omega,List.replicate_succ]
   ·have:=uz (l:=sW.map Slot.val) (r:=List.replicate (d.N.length-d.np) Slot.no) (a:=Slot.no) (b:=.fn q.1 q.2 dS)
    rw [zzl] at this;exact this
   ·rfl
   ·rfl
  have e2:(start d.N zN).set sW.length (some v)=start d.N (zN++[v]):=by
   unfold L2.start;rw [zzM,List.length_singleton,show d.N.length-zN.length=(d.N.length-(zN.length+1))+1 by omega,List.replicate_succ,<-F5];have:=uz (l:=zN.map some) (r:=List.replicate (d.N.length-(zN.length+1)) none) (a:=none) (b:=some v)
   rw [zzl] at this;rw [this];simp
  rw [e1,e2] at h1;exact h1
def DR(M:rK K mg Γ W)(KB:K.In base){F:aM}{k:Nat}{n nf:Str}{d:Def}{st:Stmt}{fa:Addr}{fd:FuncData}(St:bA Γ n d st)(Fu:Lj K n n st fa fd)(hF:∀f,Γ.fs.contains f=true->oy P w K mg base W F k f)(hH:∀q∈Γ.hs,Gj P w K mg base W F k q)(hA:∀g as,F g as≠.bad->Γ.fs.contains g=true\/gD g=true)
 (hL:Γ.hl=true->∃c p,fd.code=.ref c/\iW K c p/\(p,vc n)∈W.ts/\∀q',(p,q')∈W.ts->q'=vc n):
 fX P w K mg base (gk P w) (k+2) fa fd (d.N.take d.np) (wy W (λ_ as=>aq F d as) nf (d.N.take d.np).length d.qA):=by
 have hlen:(d.N.take d.np).length=d.np:=by rw [List.length_take];have:=St.np;omega
 obtain⟨oc,od,kV,doc,pm,an,fq,ct,rO,rfl,lk,wz⟩:=Fu.ex
 refine J6 lk wz St.sc (λvs H Q E h=>h.1) λA outer s H vs Q E hr h=>?_
 obtain⟨hl,G,as,sg,tb,l,o⟩:=h
 rw [hlen] at hl;obtain⟨ar,sr⟩:=uK St.np sg tb l hl
 refine⟨OH W F H E d.body,kg (Gf M KB St.sc hF hH hA hL hr) d.body _ St.RI,G,bT d as,sr,?_⟩;dsimp only at o;unfold aq at o;rw [if_pos ar] at o;cases r:aB F d.body (bT d as) with
 |bad=>rw [r] at o;exact o
 |exc c=>rw [r] at o;exact o
 |ok fl=>
  rw [r] at o;cases fl with
  |nx env=>exact λσ' G' H' sr g=>o .aA G' H' g .n
  |rt p=>exact λv G' H' rv g=>o v G' H' g rv
  |bk env=>exact o.elim
  |ct env=>exact o.elim
def AllK(K:zz8)(ts:List (Addr×Str))(Γ:Pg):dz->Prop
 |[]=>True
 |r::l=>zk K ts r.hl r.h r.st/\bA (Γ.at l r.hl) r.h r.d r.st/\((l.map (·.f)).contains r.f=false/\(r.d.qA.isNone==!gD r.f)=true/\(r.d.qA.isNone=true->r.f=r.h))/\AllK K ts Γ l
def tm(M:rK K mg Γ W)(l:dz)(hl:Bool):rK K mg (Γ.at l hl) W:=⟨M.hK,M.hm,M.gs,M.bs,M.KZ,M.cls,M.xc,M.xs,M.rm,M.Lb,M.bm⟩
def oy.mono{F:aM}{j k:Nat}{f:Str}(h:oy P w K mg base W F j f)(hk:j<=k):oy P w K mg base W F k f:=by
 obtain⟨fa,fd,ps,h1,h2⟩:=h.ex
 exact⟨fa,fd,ps,h1.mono hk,h2⟩
def kO{F F':aM}{f f':Str}{n:Nat}{q:Option (Str×List Nat)}(e:∀as,F' f' as=F f as):wy W F' f' n q=wy W F f n q:=by
 funext vs H Q E
 unfold wy;simp! [e]
def oy.swap{F F':aM}{k:Nat}{f:Str}(h:oy P w K mg base W F k f)(e:∀as,F' f as=F f as):oy P w K mg base W F' k f:=by
 obtain⟨fa,fd,ps,h1,h2,h3,h4,h5⟩:=h.ex
 refine⟨fa,fd,ps,?_,h2,h3,h4,λas hn=>h5 as (by rw [<-e];exact hn)⟩
 rw [kO e];exact h1
def Gj.swap{F F':aM}{j k:Nat}{q:Hs}(h:Gj P w K mg base W F j q)(hk:j<=k)(e:∀as,F' q.f as=F q.f as):Gj P w K mg base W F' k q:=by
 obtain⟨fa,fd,ps,h1,h2,h3,h4,h5⟩:=h.ex
 refine⟨fa,fd,ps,?_,h2,h3,h4,h5⟩;rw [kO e];exact h1.mono hk
def j6{r:Row}{l:dz}{g:Str}(h:(g==r.f)=false)(as:List PV):den (tab (r::l)) g as=den (tab l) g as:=by
 show(if(g==r.f)=true then _ else _)=_
 rw [h]
 rfl
def qM{r:Row}{l:dz}(as:List PV):den (tab (r::l)) r.f as=aq (den (tab l)) r.d as:=by
 show(if(r.f==r.f)=true then _ else _)=_
 rw [beq_self_eq_true]
 rfl
theorem oR:∀(l:dz) {ts:List (Addr×Str)},AllK K ts Γ l->∀g as,den (tab l) g as≠.bad->(lX l).contains g=true\/gD g=true
 |[],_,_,g,as,h=>absurd rfl h
 |r::l,ts,⟨_,_,⟨_,hn,_⟩,hr⟩,g,as,h=>by
  by_cases e:(g==r.f)=true
  ·have e2:=zzy.mp e
   subst e2;cases hc:r.d.qA with
   |none=>
    left
    unfold lX;rw [List.filterMap_cons,hc];simp
   |some q=>
    right
    rw [hc] at hn
    simpa using hn
  ·rw [j6 (by simpa using e)] at h;rcases oR l hr g as h with z|z
   ·left
    unfold lX at z⊢;rw [List.filterMap_cons];split
    ·exact z
    ·rw [List.contains_cons,z,Bool.or_true]
   ·exact .inr z
theorem xD(M:rK K mg Γ W)(KB:K.In base)(G:base.Ns mainGlobals mg):∀(l:dz),AllK K W.ts Γ l->(∀f,(lX l).contains f=true->oy P w K mg base W (den (tab l)) (2*l.length) f)/\∀q∈uU l,Gj P w K mg base W (den (tab l)) (2*l.length) q
 |[],_=>⟨λf hf=>by simp [lX] at hf,λq hq=>by simp [uU] at hq⟩
 |r::l,hall=>by
  obtain⟨he,hs,⟨hfr,hnm,hfh⟩,hr⟩:=hall
  obtain⟨ih,ihH⟩:=xD M KB G l hr
  obtain⟨fa,oc,od,kV,doc,pm,an,fq,ct,rO,e1,e2,e3,e4,e5⟩:=he
  have Fu:=xN (st:=r.st) e2 e3 e4
  have ok:=DR (P:=P) (w:=w) (nf:=r.f) (tm M l r.hl) KB (k:=2*l.length) hs Fu (λg hg=>ih g hg) (λq hq=>ihH q hq) (oR l hr) e5
  have vw:∀g,(l.map (·.f)).contains g=true->(g==r.f)=false:=λg hg=>by
   cases z:g==r.f with
   |false=>rfl
   |true=>rw [zzy.mp z,hfr] at hg;cases hg
  have sp:wy W (λ_ as=>aq (den (tab l)) r.d as) r.f (r.d.N.take r.d.np).length r.d.qA=wy W (den (tab (r::l))) r.f (r.d.N.take r.d.np).length r.d.qA:=kO λas=>(qM as).symm
  rw [sp] at ok;have hlen:(r.d.N.take r.d.np).length=r.d.np:=by rw [List.length_take];have:=hs.np;omega
  have ml:∀f,(lX l).contains f=true->(l.map (·.f)).contains f=true:=λf hf=>by
   rw [zzn] at hf⊢;unfold lX at hf;obtain⟨x,hx,e⟩:=zz1.mp hf
   split at e
   ·cases e;exact List.mem_map_of_mem (f:=(·.f)) hx
   ·cases e
  refine⟨λf hf=>?_,λq hq=>?_⟩
  ·by_cases si:(f==r.f)=true/\r.d.qA=none
   ·obtain⟨h1,h2⟩:=si
    have e:=zzy.mp h1
    subst e;refine⟨fa,_,r.d.N.take r.d.np,by rw [h2] at ok;exact ok,?_,e4,Fu.binds hs.bind,λas hn=>?_⟩
    ·rw [hfh (by rw [h2];rfl)];exact PySem.W.mg_of KB G e1
    ·rw [qM] at hn;unfold aq at hn
     by_cases ha:bR r.d as=true
     ·unfold bR at ha;rw [h2] at ha;rw [hlen];exact zzy.mp ha
     ·rw [if_neg ha] at hn;exact absurd rfl hn
   ·have OO:(lX l).contains f=true:=by
     unfold lX at hf⊢;rw [List.filterMap_cons] at hf;split at hf
     ·exact hf
     ·rename_i y hy;split at hy
      ·rename_i hc;cases hy;rw [List.contains_cons,zzt] at hf;rcases hf with z|z
       ·exact absurd ⟨z,Option.isNone_iff_eq_none.mp hc⟩ si
       ·exact z
      ·cases hy
    exact((ih f OO).mono (by rw [zzL];omega)).swap λas=>j6 (vw f (ml f OO)) as
  ·unfold uU at hq;rw [List.filterMap_cons] at hq;have tail:q∈uU l->Gj P w K mg base W (den (tab (r::l))) (2*(r::l).length) q:=λhq=>by
    refine(ihH q hq).swap (by rw [zzL];omega) λas=>j6 (vw q.f ?_) as
    unfold uU at hq;obtain⟨x,hx,e⟩:=zz1.mp hq
    obtain⟨y,_,rfl⟩:=zzJ.mp e
    rw [zzn];exact List.mem_map_of_mem (f:=(·.f)) hx
   cases hc:r.d.qA with
   |none=>rw [hc] at hq;exact tail hq
   |some y=>
    rw [hc] at hq;rcases zzm.mp hq with z|z
    ·subst z;rw [hc] at ok;exact⟨fa,_,r.d.N.take r.d.np,ok,PySem.W.mg_of KB G e1,e4,Fu.binds hs.bind,hlen⟩
    ·exact tail z
end
end Ci
namespace L2
open PySem PySem.Spec PyProof.Rows
def vC{P:Program}{w:World}{K:zz8}{mg mb:Str->Option Value}{CX:v5}{k:Nat}{fa a:Addr}{fd:FuncData}{x:Str}{sp:Sp}{s₁:Shared}{vs:List Value}{ns:List Int}(lV:List Addr)
 (KX:K.In s₁.heap) (Pr:s₁.heap.Ns mainGlobals mg) (hb:s₁.heap.Ns builtinsNs mb) (Q5:∀x:Str,x≠"__name__"->mb x=bootBuiltins x) (B0:s₁.heap.NoLimit) (hg:s₁.gens=#[])
 (hT:∀p∈lV,s₁.heap.get? p=some (PySem.W.tabObj #[])) (hC:∀p∈lV,∃c,Ci.iW K c p) (QE:∀p∈lV,K.lookup p=none)
 (ha:s₁.heap.get? a=some {cls:=.type "list",data:=.seq vs.toArray}) (hi:IntsAre vs ns) (hl:ns.length<=sizeLine) (hr:eC k callerA)
 (F:∀base:Heap,K.In base->base.Ns mainGlobals mg->fX P w K mg base CX k fa fd [x] sp) (Kd:∀(s:Shared) (u:Value),BindsTo s fd ⟨[u],[]⟩ [(x,u)])
 (HM:∀H:Hp,(∀p∈lV,H p=some (.gf #[]))->Ci.m9 K H a (ns.map V.int)->sp [.ref a] H (λv _=>v=.bl true) λ_ _ _=>False)
 (NW:∀H e s',CX [] H s₁ (λ_ _ _=>False) e s'->False):
 codeAny (model P w) callerA (.call (.ref fa) ⟨[.ref a],[]⟩) (λr s'=>r=.ok (.ret (.bool true))/\OldK s₁.heap s'.heap/\s'.os=s₁.os/\AllBare s'.gens) s₁:=by
 have rv:=mK hi
 have KL:=hi.length
 have aT:a∉lV:=λz=>by have:=hT a z;rw [ha] at this;cases this
 have core:∀H:Hp,(∀p∈lV,H p=some (.gf #[]))->Ci.m9 K H a (ns.map V.int)->gG P w H s₁.heap->(∀b,H b≠none->b∈lV\/b=a/\∃o xs,H b=some (.cU o xs))->(H a≠none->K.lookup a=none)->
  codeAny (model P w) callerA (.call (.ref fa) ⟨[.ref a],[]⟩) (λr s'=>r=.ok (.ret (.bool true))/\OldK s₁.heap s'.heap/\s'.os=s₁.os/\AllBare s'.gens) s₁:=by
  intro H hO hS bz hA hK;have sX:∀{b:Addr} {o:Obj},s₁.heap.get? b=some o->H b=none->(n8 s₁.heap H).get? b=some o:=λe n=>zv e n
  have KA:∀{b:Addr} {o:Obj} {es:Array DictEntry} {ep:Nat},s₁.heap.get? b=some o->o.data=.dict es ep->H b=none:=λ{b o es ep} e d=>by
   cases q:H b with
   |none=>rfl
   |some u=>
    rcases hA b (by rw [q];simp) with z|⟨z,_⟩
    ·rw [hT b z] at e;cases e;cases d
    ·subst z;rw [ha] at e;cases e;have d':Data.seq vs.toArray _=Data.dict es ep:=d
     cases d'
  have Ls:∀{b:Addr} {m:Str->Option Value},s₁.heap.Ns b m->(n8 s₁.heap H).Ns b m:=λ{b m} ⟨o,es,ep,e,d,r⟩=>⟨o,es,ep,sX e (KA e d),d,r⟩
  have Pm:K.In (n8 s₁.heap H):=λb o e=>sX (KX b o e) (by
   cases q:H b with
   |none=>rfl
   |some u=>
    rcases hA b (by rw [q];simp) with z|⟨z,_⟩
    ·rw [QE b z] at e;cases e
    ·subst z;rw [hK (by rw [q];simp)] at e;cases e)
  have hM:Mod K mg (n8 s₁.heap H):=⟨Pm,Ls Pr,⟨mb,Ls hb,Q5⟩,let⟨mc,h1,h2⟩:=B0;⟨mc,Ls h1,h2⟩⟩
  have e0:BV P w K mg (n8 s₁.heap H) callerA [] s₁ H:=⟨rfl,hM,λb o e=>Bj e,Nat.le_of_eq (vq _ _),trivial,λb hb=>absurd (show b∈([]:List Addr) from hb) (by simp),bz,.of_eq hg⟩
  refine codeAny_mono ((F _ Pm (Ls Pr)).run callerA [] s₁ H ⟨[.ref a],[]⟩ [.ref a] [.ref a] _ _ hr e0 (Kd s₁ (.ref a)) (.cons rfl .nil) (HM H hO hS)) λr s' h=>?_
  cases r with
  |error e=>exact(NW H e s' h).elim
  |ok fl=>
   cases fl with
   |next=>exact zzk h
   |brk=>exact zzk h
   |cont=>exact zzk h
   |ret u=>
    obtain⟨v,H',os,bare,un,BK,r',q⟩:=h
    have q':v=.bl true:=q
    subst q';obtain rfl:u=Value.bool true:=r'
    have key:∀b o,s₁.heap.get? b=some o->s'.heap.get? b=some o\/b∈lV/\∃m,s'.heap.get? b=some (PySem.W.tabObj m):=λb o e=>by
     cases q:H b with
     |none=>exact .inl (un.keep b o e q (by intro z;exact absurd (show b∈([]:List Addr) from z) (by simp)) (by simp))
     |some u=>
      rcases hA b (by rw [q];simp) with z|⟨z,ob,xs,z2⟩
      ·right
       obtain⟨m,hm⟩:=un.iC b _ (hO b z)
       exact⟨z,_,BK b _ hm⟩
      ·left
       have z3:=un.iL b ob _ z2
       obtain⟨e1,_⟩:=bz b _ z2
       obtain⟨e2,_⟩:=BK b _ z3
       rw [e] at e1;cases e1;exact e2
    refine⟨rfl,⟨λb o e=>?_,λb o e=>?_⟩,os,bare⟩
    ·rcases key b o e with z|⟨z,m,z2⟩
     ·exact .inl z
     ·have e':=hT b z
      rw [e] at e';cases e';obtain⟨c,o',Dr,_,_,_,_,_,_,_,k1,k2,k3,k4,_⟩:=hC b z
      have tb:s₁.heap.TableAt c b #[]:=⟨⟨o',Dr,KX _ _ k1,k2,k3,k4⟩,e⟩
      exact .inr (.inl ⟨tb.isCodeTable,rfl,#[],m,rfl,by rw [z2];simp⟩)
    ·rcases key b o e with z|⟨_,m,z⟩
     ·exact⟨_,z⟩
     ·exact⟨_,z⟩
 cases hk:K.lookup a with
 |some o=>
  have e:=KX a o hk
  rw [ha] at e;cases e;refine core (λb=>if b∈lV then some (.gf #[]) else none) (λp hp=>if_pos hp) (.inr ⟨vs.toArray,_,hk,by rw [zzC,KL];exact hl,by simpa using rv⟩) (λb u z=>?_) (λb z=>?_) λz=>absurd (if_neg aT) z
  ·by_cases hb:b∈lV
   ·have z':=(if_pos hb).symm.trans z
    cases z';exact hT b hb
   ·have z':=(if_neg hb).symm.trans z
    cases z'
  ·by_cases hb:b∈lV
   ·exact .inl hb
   ·exact absurd (if_neg hb) z
 |none=>
  refine core (λb=>if b=a then some (.cU {cls:=.type "list",data:=.seq vs.toArray} (.lst (ns.map V.int))) else if b∈lV then some (.gf #[]) else none) (λp hp=>?_) (.inl (.inr ⟨{cls:=.type "list",data:=.seq vs.toArray},if_pos rfl⟩)) (λb u z=>?_) (λb z=>?_) λ_=>hk
  ·show(if p=a then _ else _)=_
   rw [if_neg (show¬p=a from λz=>aT (by rw [<-z];exact hp)),if_pos hp]
  ·by_cases hb:b=a
   ·have z':=(if_pos hb).symm.trans z
    cases z';subst hb;exact⟨ha,by rw [zzl];exact hl,vs,_,rv,ha⟩
   ·replace z:=(if_neg hb).symm.trans z
    by_cases hc:b∈lV
    ·have z':=(if_pos hc).symm.trans z
     cases z';exact hT b hc
    ·have z':=(if_neg hc).symm.trans z
     cases z'
  ·by_cases hb:b=a
   ·exact .inr ⟨hb,_,_,if_pos hb⟩
   ·by_cases hc:b∈lV
    ·exact .inl hc
    ·exact absurd ((if_neg hb).trans (if_neg hc)) z
def Gi{l:PySem.W.OpenLaw}{n k:Nat}{q:Program}{loose:List Str}{XP:(Str->Option Value)->Heap->Prop}{YP:World->Heap->Prop}{d:DefRec}{K:Params->zz8}{CX:World->v5}{sp:World->Sp}{x:Str}(lV:List Addr)
 (hn:l.most=some n) (Rx:n<=sizeLine) (ID:d.params.defaults=[]) (hr:eC k callerA)
 (hY:∀(w:World) (h:Heap),YP w h->(K w.params).In h/\∀p∈lV,h.get? p=some (PySem.W.tabObj #[])) (hC:∀(w:World),∀p∈lV,(∃c,Ci.iW (K w.params) c p)/\(K w.params).lookup p=none)
 (F:∀(w:World) (mg:Str->Option Value) (fa:Addr) (h:Heap),(K w.params).In h->h.Ns mainGlobals mg->mg d.name=some (.ref fa)->
  ∃fd:FuncData,(∀(s:Shared) (u:Value),BindsTo s fd ⟨[u],[]⟩ [(x,u)])/\
   ∀base:Heap,(K w.params).In base->base.Ns mainGlobals mg->fX l.prog w (K w.params) mg base (CX w) k fa fd [x] (sp w))
 (HM:∀(w:World) (H:Hp) (a:Addr) (ns:List Int),ns.length<=n->(∀p∈lV,H p=some (.gf #[]))->Ci.m9 (K w.params) H a (ns.map V.int)->sp w [.ref a] H (λv _=>v=.bl true) λ_ _ _=>False)
 (NW:∀(w:World) (H:Hp) (s:Shared) (e:Value) (s':Shared),CX w [] H s (λ_ _ _=>False) e s'->False):
 PySem.W.WalkO q loose XP YP l.row.toRowW d [] (λf vs=>PySem.call f vs):=by
 refine Att.qJ hn ID λw s₀ s₁ mg mb fa o pm cd doc a vs ns G Y ho hd wz hmg hobj hints hlen hg=>?_
 obtain⟨KX,hT⟩:=hY w _ Y
 obtain⟨fd,hb,hF⟩:=F w mg fa _ KX G.T.g hmg
 exact vC lV KX G.T.g G.T.b G.T.builtins G.T.nolimit hg hT (λp hp=>(hC w p hp).1) (λp hp=>(hC w p hp).2) hobj hints (zzU hlen Rx) hr hF hb (λH hO hS=>HM w H a ns hlen hO hS) λH e s'=>NW w H s₁ e s'
end L2
namespace Ci
open PySem L2
theorem kD{W:Wd}{G:Hp}:∀(ns:List Int),ah W G (ns.map PV.int) (ns.map V.int)
 |[]=>.nil
 |n::ns=>.cons .i (kD ns)
def mi(H:Hp):Hp:=λb=>match H b with
 |some (.gf _)=>none
 |o=>o
def rE(H:Hp):ay (mi H) H:=λb o e=>by
 unfold mi at e;split at e
 ·cases e
 ·exact e
def pU{H:Hp}{b:Addr}{o:HO}(h:H b=some o)(n:∀ps,o≠.gf ps):mi H b=some o:=by
 unfold mi;rw [h];cases o with
 |gf ps=>exact absurd rfl (n ps)
 |_=>rfl
noncomputable def IG(K:zz8)(lV:List Addr):Sp:=λvs H Q _=>∃(a:Addr) (ns:List Int),vs=[.ref a]/\(∀p∈lV,H p=some (.gf #[]))/\m9 K H a (ns.map V.int)/\ns.length<=63/\∀H',Q (.bl true) H'
def walk{l:PySem.W.OpenLaw}{q:Program}{loose:List Str}{XP:(Str->Option Value)->Heap->Prop}{YP:World->Heap->Prop}{d:DefRec}{K:Params->zz8}(rest:dz)(Γ:Pg)(x:Str)(dl:Def)(xs:List Str)(ts:List (Addr×Str))(st:Stmt)
 (hx:dl.N.take dl.np=[x]) (Mj:dl.qA=none) (RG:d.name="law") (hn:l.most=some 63) (ID:d.params.defaults=[]) (hr:eC (2*rest.length+2) callerA) (hY:∀(w:World) (h:Heap),YP w h->(K w.params).In h/\∀p∈ts.map (·.1),h.get? p=some (PySem.W.tabObj #[]))
 (hC:∀(w:World),∀p∈ts.map (·.1),(∃c,iW (K w.params) c p)/\(K w.params).lookup p=none)
 (hM:∀(w:World) (mg:Str->Option Value) (h:Heap),(K w.params).In h->h.Ns mainGlobals mg->rK (K w.params) mg Γ ⟨K w.params,mg,xs,ts⟩)
 (hE:∀w:World,zk (K w.params) ts false "law" st) (hS:bA (Γ.at rest false) "law" dl st)
 (hA:∀w:World,AllK (K w.params) ts Γ rest)
 (Md:∀ns:List Int,ns.length<=63->aq (den (tab rest)) dl [.lst (ns.map .int)]=.ok (.bl true)):
 PySem.W.WalkO q loose XP YP l.row.toRowW d [] (λf vs=>PySem.call f vs):=by
 refine L2.Gi (n:=63) (k:=2*rest.length+2) (x:=x) (CX:=λw=>gk l.prog w) (sp:=λw=>IG (K w.params) (ts.map (·.1))) (ts.map (·.1)) hn (by decide) ID hr hY hC ?_ ?_ ?_
 ·intro w mg fa h KX G hmg;rw [RG] at hmg;obtain⟨f,oc,od,kV,doc,pm,an,fq,ct,rO,e1,e2,e3,e4,e5⟩:=hE w
  have hf:fa=f:=by
   have z:=hmg.symm.trans (PySem.W.mg_of KX G e1)
   cases z
   rfl
  subst hf;refine⟨PySem.W.fnOf "law" "law" (cY st) (cA st) (aP st) .none kV doc pm an fq ct,λs u=>?_,λbase KB GB=>?_⟩
  ·have hb:=hS.bind kV doc pm an fq ct [u]
   rw [hx] at hb;exact .of_eq (hb rfl)
  ·have M:=hM w mg base KB GB
   obtain⟨a1,a2⟩:=xD (P:=l.prog) (w:=w) M KB GB rest (hA w)
   have ok:=DR (P:=l.prog) (w:=w) (nf:="law") (tm M rest false) KB (k:=2*rest.length) hS (xN (st:=st) e2 e3 e4) (λg hg=>a1 g hg) (λq hq=>a2 q hq) (oR rest (hA w)) (λz=>nomatch z)
   rw [hx] at ok;refine ok.imp λvs H Q E h=>?_
   obtain⟨a,ns,rfl,ht,hl,hlen,q⟩:=h
   refine⟨rfl,mi H,[.lst (ns.map .int)],rE H,λP q m=>?_,?_,?_⟩
   ·have hP:=ht P (List.mem_map_of_mem (f:=(·.1)) m)
    refine⟨by unfold mi;rw [hP],#[],hP,trivial,λpos cv e=>nomatch e⟩
   ·rw [Mj];refine ah.cons (.l ?_ (kD ns)) .nil;rcases hl with(h|⟨o,h⟩)|h
    ·exact .inl (.inl (pU h (λ_ z=>nomatch z)))
    ·exact .inl (.inr ⟨o,pU h (λ_ z=>nomatch z)⟩)
    ·exact .inr h
   ·dsimp only;rw [Md ns hlen];intro v G' H' _ rv;simp! [Rep] at rv;subst rv;exact q H'
 ·intro w H a ns hlen hO qR;exact⟨a,ns,rfl,hO,qR,hlen,λ_=>rfl⟩
 ·intro w H s e s' h;obtain⟨a,C,t,vs,H',B,rfl,F⟩:=h
  exact F.ends
end Ci
namespace Hd
open PySem PySem.W PySem.Calls
noncomputable def EU(st:SharedT->Thread->Option (SharedT×Thread))(ok:Thread->Bool)(n:Nat):SharedT->Thread->Option SharedT:=
 @Nat.rec (λ_=>SharedT->Thread->Option SharedT) (λ_ _=>none) (λ_ ih s t=>match through t with
  |true=>some s
  |false=>match ok t with
   |false=>none
   |true=>match st s t with
    |some (s',t')=>ih s' t'
    |none=>none) n
theorem my{tb:String->Option Builtin}{p:Program}{w:World}{n₀:Nat}{ann:Option Value}:∀{n:Nat} {s s':SharedT} {t:Thread},EU (stepT (denote tb) p w) (stepOk n₀ ann) n s t=some s'->topRun tb p w n₀ ann n s.abs t=some s'.abs
 |0,_,_,_,h=>by cases h
 |n+1,s,s',t,h=>by
  have h:(match through t with
   |true=>some s
   |false=>match stepOk n₀ ann t with
    |false=>none
    |true=>match stepT (denote tb) p w s t with
     |some (s',t')=>EU (stepT (denote tb) p w) (stepOk n₀ ann) n s' t'
     |none=>none)=some s':=h
  unfold topRun;cases ht:through t with
  |true=>rw [ht] at h;cases h;rfl
  |false=>
   rw [ht] at h;cases hk:stepOk n₀ ann t with
   |false=>rw [hk] at h;cases h
   |true=>
    rw [hk] at h;cases hs:stepT (denote tb) p w s t with
    |none=>rw [hs] at h;cases h
    |some r=>obtain⟨s₂,t₂⟩:=r;rw [hs] at h;rw [stepT_spec hs];exact my h
def treeOf(l:List Obj):BT:=(l.foldl (λ(T,i) o=>(BT.ins T i o,i+1)) (BT.nil,0)).1
def Dl{p q:Program}{loose:List Str}{Xt:Shared->Bool}{α:Type}{Yf:Shared->α}{Ya:World->α}{N:Nat}{g0:Bool}{T₀:Params->BT}{life:Life}{m₀:Nat}{ann:Option Value}{M:Nat}
 (e:opening p=plainProg p.main.scope.names) (hN:Nat.ble 600 N=true) (f:∀s,fenceModules? p s=some s)
 (e0:∀P:Params,absHeap (T₀ P) m₀ life=boot_heap P)
 (size:∀w:World,((boot_heap w.params).isNs mainGlobals,(boot_heap w.params).nsMap mainGlobals "__annotations__")=(true,ann))
 (le:Nat.ble M N=true)
 (run:∀(w:World) (os:OsState),(EU (stepT (denote treeTable) p w) (stepOk m₀ ann) M ⟨T₀ w.params,m₀,life,Array.mk [],boot_drawn,boot_toks,os⟩ (topStub p)).map (λs=>
  ((staticsOk (importedModules p.main.body) (boot_heap w.params) s.abs.heap&&namesBound p s.abs.heap&&gensDone s.abs&&laidKept (boot_heap w.params) s.abs.heap),openSeen q loose (importedModules p.main.body) Xt g0 s.abs,Yf s.abs))
  =some (true,openGood q loose,Ya w)):LeftO p q loose Xt Yf Ya N g0:=λw=>by
 obtain⟨⟨h,gs,d,k,os⟩,e1,e'⟩:=zzJ.mp (boot_open e hN f w)
 obtain⟨rfl,rfl,rfl,rfl⟩:h=boot_heap w.params/\gs=Array.mk []/\d=boot_drawn/\k=boot_toks:=by simpa using e'
 obtain⟨z1,z3⟩:_/\_:=by simpa only [Prod.mk.injEq] using size w
 obtain⟨s,r,l⟩:=zzJ.mp (run w os)
 obtain⟨l1,l2,l3⟩:_/\_/\_:=by simpa only [Prod.mk.injEq] using l
 have r:=my r
 have r:=topRun_mono (N-M) _ _ _ _ r
 rw [show M+(N-M)=N by have:=Nat.le_of_ble_eq_true le;omega] at r;have hs:(boot_heap w.params).objs.size=m₀:=by rw [<-e0 w.params];exact absHeap_size _ _ _
 have r:topRun treeTable p w m₀ ann N ⟨boot_heap w.params,Array.mk [],boot_drawn,boot_toks,os⟩ (topStub p)=some s.abs:=by
  have:(⟨T₀ w.params,m₀,life,Array.mk [],boot_drawn,boot_toks,os⟩:SharedT).abs=⟨boot_heap w.params,Array.mk [],boot_drawn,boot_toks,os⟩:=by
   show Shared.mk _ _ _ _ _=_
   rw [show absHeap (T₀ w.params) m₀ life=boot_heap w.params from e0 w.params]
  rw [<-this];exact r
 have t:topFrom treeTable p w N ⟨boot_heap w.params,Array.mk [],boot_drawn,boot_toks,os⟩=some s.abs:=by
  unfold topFrom;dsimp only;rw [z1,z3,hs,r];show(match staticsOk (importedModules p.main.body) (boot_heap w.params) s.abs.heap&&namesBound p s.abs.heap&&gensDone s.abs&&laidKept (boot_heap w.params) s.abs.heap with|true=>_|false=>_)=_
  rw [l1]
 unfold openEnds;rw [e1];show(topFrom treeTable p w N _).map _=_
 rw [t];exact congrArg some (Prod.ext l2 l3)
end Hd
namespace Hd
open PySem PySem.W
def Ki:∀P:Params,absHeap (treeOf (boot_heap P).objs.toList) 11 {}=boot_heap P:=λP=>by kernel_rfl
def Kn:∀w:World,((boot_heap w.params).isNs mainGlobals,(boot_heap w.params).nsMap mainGlobals "__annotations__")=(true,some (.ref 6)):=λw=>by kernel_rfl
abbrev de(P:Params)(x:Str)(t:Tok)(v:Value):DictEntry:={hash:=PyData.keyHash P x,key:=.str x t,val:=v}
theorem holds{l:OpenLaw}{keep:List Nat}{K:Params->Frag}{as:List Addr}{d:DefRec}{N:Nat}(L5:l.wellSaid=true)
 (ka:∀P,as=(K P).map (·.1))
 (left:LeftO l.row.prog (view l.row.prog keep) [] (λs=>xlAt (view l.row.prog keep) [] s&&recOk l.row.toRowW.records s) (kHook K as ka).obs (kHook K as ka).val N)
 (Nc:defOf (view l.row.prog keep) l.row.name=some (d,[])) (hp:l.row.prog.theDef l.row.name=some (d.params,d.body,d.scope)) (hk:kwWritten? d.params.kwonlyargs d.params.kw_defaults=some [])
 (ok:(chainsOk (view l.row.prog keep)&&opensWell l.row.prog&&(frees l.row.toRowW&&l.row.within.isEmpty))=true) (hb:l.row.prog.bare) (hw:l.row.toRowW.promised)
 (call:WalkO (view l.row.prog keep) [] (XL (view l.row.prog keep) []) (kHook K as ka).says l.row.toRowW d [] λf vs=>PySem.call f vs):l.Holds:=
 holds_law L5 λk1=>holds_open (N:=N) left (Hook.of (kHook K as ka)) (Hook.keeps (kHook K as ka)) (λs e=>xl_of s (Bool.and_eq_true_iff.mp e).1) XL.keeps Nc hp hk (λs e=>recFacts_of (Bool.and_eq_true_iff.mp e).2) (by cases h:l.row.writes<;>rfl) k1 ok hb hw call
theorem Cr{P:List Value->Prop}(h:∀a0,P [a0]):∀us:List Value,us.length=1->P us
 |[a0],_=>h a0
theorem qV{P:List Value->Prop}(h:∀a0 a1,P [a0,a1]):∀us:List Value,us.length=2->P us
 |[a0,a1],_=>h a0 a1
theorem Eo{P:List Value->Prop}(h:∀a0 a1 a2,P [a0,a1,a2]):∀us:List Value,us.length=3->P us
 |[a0,a1,a2],_=>h a0 a1 a2
theorem Ii{P:List Value->Prop}(h:∀a0 a1 a2 a3,P [a0,a1,a2,a3]):∀us:List Value,us.length=4->P us
 |[a0,a1,a2,a3],_=>h a0 a1 a2 a3
theorem LN{P:List Value->Prop}(h:∀a0 a1 a2 a3 a4,P [a0,a1,a2,a3,a4]):∀us:List Value,us.length=5->P us
 |[a0,a1,a2,a3,a4],_=>h a0 a1 a2 a3 a4
theorem RM{P:List Value->Prop}(h:∀a0 a1 a2 a3 a4 a5,P [a0,a1,a2,a3,a4,a5]):∀us:List Value,us.length=6->P us
 |[a0,a1,a2,a3,a4,a5],_=>h a0 a1 a2 a3 a4 a5
end Hd
namespace KJ
open PySem L2 Ci
theorem m8{α β:Type}{a:α}{f:α->Res β}:(Res.ok a).bind f=f a:=rfl
theorem HG{α:Type}{a:α}:(Res.ok a).well=.ok a:=rfl
theorem HI{α:Type}{a:α}:Res.of (some a)=.ok a:=rfl
theorem Pb{env:Sl}{k:Sl->Res Fl}:(Fl.nx env).seq k=k env:=rfl
theorem O8{p:PV}{k:Sl->Res Fl}:(Fl.rt p).seq k=.ok (.rt p):=rfl
theorem QB{env:Sl}{k:Sl->Res Fl}:(Fl.bk env).seq k=.ok (.bk env):=rfl
theorem sv{p:PV}:mJ (some (.val p))=.ok p:=rfl
theorem Oq{p:PV}:y4 (some (.val p))=.ok p:=rfl
theorem Qu{p:PV}:y4 (some (.own p))=.ok p:=rfl
theorem JV{α:Type}{b:Bool}{f:Bool->Res α}:lE (.bl b) f=f b:=rfl
theorem DH{i j:Int}:binOp .add (.int i) (.int j)=.ok (.int (i+j)):=rfl
theorem DY{i j:Str}:binOp .add (.str i) (.str j)=if i.length+j.length<=cK then .ok (.str (i++j)) else .bad:=rfl
theorem DC{i j:List PV}:binOp .add (.lst i) (.lst j)=if i.length+j.length<=cK then .ok (.lst (i++j)) else .bad:=rfl
theorem Jc{i j:Int}:binOp .sub (.int i) (.int j)=.ok (.int (i-j)):=rfl
theorem KO{i j:Int}:binOp .mul (.int i) (.int j)=if aN i||aN j then .ok (.int (i*j)) else .bad:=rfl
theorem Iu{i j:Int}:binOp .mod (.int i) (.int j)=if 0<j then .ok (.int (i%j)) else .bad:=rfl
theorem IU{i j:Int}:binOp .fdiv (.int i) (.int j)=if 0<j/\j<1073741824 then .ok (.int (i/j)) else .bad:=rfl
theorem P1:dc .eq=fk:=rfl
theorem Pt:dc .ne=fC:=rfl
theorem Qw:dc .lt=qz:=rfl
theorem Pj:dc .le=qI:=rfl
theorem ON:dc .ge=pG:=rfl
theorem KD:dc .zy=rF:=rfl
theorem Io:dc .qH=gb:=rfl
theorem oLt{i j:Int}:qz (.int i) (.int j)=.ok (.bl (decide (i<j))):=rfl
theorem oLe{i j:Int}:qI (.int i) (.int j)=.ok (.bl (decide (i<=j))):=rfl
theorem Qc{i j:Int}:pG (.int i) (.int j)=.ok (.bl (decide (j<=i))):=rfl
theorem lL{xs:List PV}:bJ .len [.lst xs]=.ok (.int xs.length):=rfl
theorem lT{xs:List PV}:bJ .len [.tup xs]=.ok (.int xs.length):=rfl
theorem lS{z:Str}:bJ .len [.str z]=if z.length<=cK then .ok (.int z.length) else .bad:=rfl
theorem tL{xs:List PV}:bJ .tuple [.lst xs]=.ok (.tup xs):=rfl
theorem aL{xs:List PV}:bJ .all [.lst xs]=(Res.of (boolsOf xs)).bind λbs=>.ok (.bl (bs.all id)):=rfl
theorem Lc{i:Nat}{p:PV}{env:Sl}:(Tg.one i).put p env=.ok (env.set i (.val p)):=rfl
theorem Ov{i j:Nat}{a b:PV}{env:Sl}:(Tg.two i j).put (.tup [a,b]) env=.ok ((env.set i (.val a)).set j (.val b)):=rfl
theorem vg{p:PV}:om (.own p)=.val p:=rfl
theorem jA{α:Type}{a:α}{as:List α}:(a::as).length=as.length+1:=rfl
theorem jB{α:Type}:([]:List α).length=0:=rfl
theorem jC{α β:Type}{f:α->β}{a:α}{l:List α}:(a::l).map f=f a::l.map f:=rfl
theorem jD{α β:Type}{f:α->β}:([]:List α).map f=[]:=rfl
theorem jE{α:Type}{a:α}{as bs:List α}:a::as++bs=a::(as++bs):=rfl
theorem jF{α:Type}{as:List α}:[]++as=as:=rfl
theorem jG{α:Type}{a:α}{l:List α}:(a::l)[0]?=some a:=rfl
theorem jH{α:Type}{a:α}{l:List α}{i:Nat}:(a::l)[i+1]?=l[i]?:=rfl
theorem jI{α:Type}{a b:α}{l:List α}:(a::l).set 0 b=b::l:=rfl
theorem jJ{α:Type}{a b:α}{l:List α}{i:Nat}:(a::l).set (i+1) b=a::l.set i b:=rfl
theorem jK{α:Type}{a d:α}{l:List α}:(a::l).getD 0 d=a:=rfl
theorem jL{α:Type}{a d:α}{l:List α}{i:Nat}:(a::l).getD (i+1) d=l.getD i d:=rfl
def jM{n:Nat}:0+n=n:=Nat.zero_add _
theorem jN:(!true)=false:=rfl
theorem jO:(!false)=true:=rfl
def jP:(false=true)=False:=zze
theorem iP{e:E}{xs:List PV}:qN e (.lst xs)=.ok xs:=rfl
theorem OC{e:E}{xs:List PV}:qN e (.tup xs)=.ok xs:=rfl
theorem K8{xs:List PV}:itemsOf (.tup xs)=.ok xs:=rfl
theorem Le{xs:List PV}:itemsOf (.lst xs)=.ok xs:=rfl
theorem Lr{z:Str}:itemsOf (.str z)=.ok (chars z):=rfl
theorem OB{i j k:Nat}{a b c:PV}{env:Sl}:(Tg.three i j k).put (.tup [a,b,c]) env=.ok (((env.set i (.val a)).set j (.val b)).set k (.val c)):=rfl
theorem jQ{α:Type}{f:α->α}{a:α}{l:List α}:(a::l).modify 0 f=f a::l:=rfl
def jR{α:Type}{f:α->α}{a:α}{l:List α}{i:Nat}:(a::l).modify (i+1) f=a::l.modify i f:=by simp
theorem jS{α:Type}{a:α}:List.replicate 0 a=[]:=id rfl
theorem jT{α:Type}{a:α}{n:Nat}:List.replicate (n+1) a=a::List.replicate n a:=id rfl
def jU{n:Nat}:(n==n)=true:=beq_self_eq_true n
noncomputable def J:=And.intro @jS (And.intro @jT (And.intro @jU (And.intro @m8 (And.intro @HG (And.intro @HI (And.intro @Pb (And.intro @O8 (And.intro @QB (And.intro @sv (And.intro @Oq (And.intro @Qu (And.intro @JV (And.intro @DH (And.intro @DY (And.intro @DC (And.intro @Jc (And.intro @KO (And.intro @Iu (And.intro @IU (And.intro @P1 (And.intro @Pt (And.intro @Qw (And.intro @Pj (And.intro @ON (And.intro @KD (And.intro @Io (And.intro @oLt (And.intro @oLe (And.intro @Qc (And.intro @lL (And.intro @lT (And.intro @lS (And.intro @tL (And.intro @aL (And.intro @Lc (And.intro @Ov (And.intro @vg (And.intro @jA (And.intro @jB (And.intro @jC (And.intro @jD (And.intro @jE (And.intro @jF (And.intro @jG (And.intro @jH (And.intro @jI (And.intro @jJ (And.intro @jK (And.intro @jL (And.intro @jM (And.intro @jN (And.intro @jO (And.intro @jP (And.intro @iP (And.intro @OC (And.intro @K8 (And.intro @Le (And.intro @Lr (And.intro @OB (And.intro @jQ (@jR)))))))))))))))))))))))))))))))))))))))))))))))))))))))))))))
def Hc{n:Str}{d:Def}{r:List (Str×Def)}:den ((n,d)::r) n=aq (den r) d:=by
 funext as;simp [den]
def E9{n f:Str}{d:Def}{r:List (Str×Def)}(h:(f==n)=false):den ((n,d)::r) f=den r f:=by
 funext as;simp [den,h]
theorem qE{f:Str}:∀(n:Nat) {T:List (Str×Def)},((T.take n).all λx=>!(f==x.1))=true->den T f=den (T.drop n) f
 |0,_,_=>rfl
 |n+1,[],_=>rfl
 |n+1,(m,d)::r,h=>by
  rw [List.take_succ_cons,List.all_cons,zza,Bool.not_eq_true'] at h;exact(E9 h.1).trans (qE n h.2)
def dk{f:Str}{d:Def}{r T:List (Str×Def)}(k:Nat)(h:((T.take k).all λx=>!(f==x.1))=true:=by decide+kernel)(e:T.drop k=(f,d)::r:=by rfl):den T f=aq (den r) d:=by
 rw [qE k h,e];exact Hc
end KJ
local macro_rules | `(#v[]) => `(.nil) | `(#v[$x]) => `(.cons $x .nil) | `(#v[$x, $xs,*]) => `(.cons $x #v[$xs,*]) | `(!$n:num) => `(.var $n) | `(¬$n:num) => `(.cst (.int $n))
namespace K60
open PySem L2 Ci KJ
noncomputable def cO:Def:=⟨["_law_script","_law_k"],2,#v[.ite (.cmp .lt (!1) (.blt .len #v[!0])) #v[.ret (.sub (!0) (!1))] .nil,.ite (.cmp .eq (!0) (.lst .nil)) #v[.ret (¬0)] .nil,.ret (.bin .add (.bin .mul (.sub (!0) (.bin .mod (!1) (.blt .len #v[!0]))) (¬31)) (!1))],none⟩
noncomputable def bt:Def:=⟨["_law_script","_law_k","_law_many","_law_drawn"],3,#v[.set 3 (.bin .mod (.bin .mul (.bin .add (.call "_law_cell" #v[!0,!1]) (.bin .mul (¬6151) (.bin .add (!1) (¬1)))) (¬40692)) (¬2147483399)),.ret (.bin .mod (.bin .mod (.bin .add (.bin .mul (!3) (!3)) (.bin .fdiv (!3) (¬31))) (¬2147483629)) (!2))],none⟩
noncomputable def bZ:Def:=⟨["_law_script","_law_at_here","_law_most","_law_rows","_law_columns","_law_shuts","_law_top","_law_made","_law_row","_law_signs","_law_column","_law_drawn"],3,#v[.set 3 (.bin .add (¬1) (.call "_law_pick" #v[!0,!1,!2])),.set 4 (.bin .add (¬1) (.call "_law_pick" #v[!0,.bin .add (!1) (¬1),!2])),.set 5 (.sub (.lst #v[¬0,¬2,¬4,¬6]) (.call "_law_pick" #v[!0,.bin .add (!1) (¬2),¬4])),.set 6 (.sub (.lst #v[¬1,¬2,¬3,¬10]) (.call "_law_pick" #v[!0,.bin .add (!1) (¬3),¬4])),.own 7 (.lst .nil),.bD (.one 8) (.jj (!3)) #v[.set 9 (.cst (.str "")),.bD (.one 10) (.jj (!4)) #v[.set 11 (.call "_law_pick" #v[!0,.bin .add (.bin .add (.bin .add (!1) (¬4)) (.bin .mul (!2) (!8))) (!10),.bin .mul (¬12) (!6)]),.set 9 (.bin .add (!9) (.ite (.cmp .lt (.bin .mod (!11) (¬12)) (!5)) (.cst (.str "#")) (.blt .str #v[.bin .fdiv (!11) (¬12)])))],.app 7 (!9)],.ret (.blt .tuple #v[.f9 7])],none⟩
noncomputable def cj:Def:=⟨["_law_script","_law_at_here"],2,#v[.ret (.tup #v[.cmp .eq (.call "_law_pick" #v[!0,!1,¬2]) (¬0),.sub (.lst #v[¬0,¬1,¬2,¬9]) (.call "_law_pick" #v[!0,.bin .add (!1) (¬1),¬4]),.call "_law_pick" #v[!0,.bin .add (!1) (¬2),¬4]])],none⟩
noncomputable def bb:Def:=⟨["_law_floor_here","_law_made","_law_row","_law_signs"],1,#v[.own 1 (.lst .nil),.bD (.two 2 3) (.enum (!0)) #v[.pH 1 (.bC 2 [2] (.two 0 1) (.enum (!3)) (.cmp .ne (!1) (.cst (.str "#"))) (.tup #v[!2,!0]))],.cU 1,.ret (!1)],none⟩
noncomputable def bY:Def:=⟨["_law_script","_law_at_here","_law_spots_here","_law_many","_law_left","_law_made","_law_k"],4,#v[.jd 4 (!2),.own 5 (.lst .nil),.bD (.one 6) (.jj (!3)) #v[.ite (.cmp .ne (.f9 4) (.lst .nil)) #v[.fD 5 4 (.call "_law_pick" #v[!0,.bin .add (!1) (!6),.blt .len #v[.f9 4]])] .nil],.cU 5,.ret (!5)],none⟩
noncomputable def cF:Def:=⟨["floor","spots","row","signs","column","sign"],1,#v[.own 1 (.lst .nil),.bD (.two 2 3) (.enum (!0)) #v[.bD (.two 4 5) (.enum (!3)) #v[.ite (.cmp .ne (!5) (.glob "WALL" (.str "#"))) #v[.app 1 (.tup #v[!2,!4])] .nil]],.cU 1,.ret (!1)],none⟩
def dJ:Def:=⟨["thing"],1,#v[.ret (.and (.ty .int (!0)) (.not (.ty .bool (!0))))],none⟩
def dG:Def:=⟨["thing"],1,#v[.ret (.and (.ty .tuple (!0)) (.and (.cmp .eq (.blt .len #v[!0]) (¬2)) (.and (.call "is_whole" #v[.sub (!0) (¬0)]) (.call "is_whole" #v[.sub (!0) (¬1)]))))],none⟩
def cm:Def:=⟨["floor","spot"],2,#v[.ret (.and (.ch .le .lt (¬0) (.sub (!1) (¬0)) (.blt .len #v[!0])) (.ch .le .lt (¬0) (.sub (!1) (¬1)) (.blt .len #v[.sub (!0) (.sub (!1) (¬0))])))],none⟩
noncomputable def cq:Def:=⟨["floor","thing"],2,#v[.ret (.and (.call "is_spot" #v[!1]) (.and (.call "is_on_floor" #v[!0,!1]) (.cmp .ne (.sub (.sub (!0) (.sub (!1) (¬0))) (.sub (!1) (¬1))) (.glob "WALL" (.str "#")))))],none⟩
def bH:Def:=⟨["floor","spot"],2,#v[.ite (.not (.call "is_open" #v[!0,!1])) #v[.raise "NoSpot" "the spot is not on the floor or a wall"] .nil],none⟩
noncomputable def aV:Def:=⟨["floor","spot","beside","row","column"],2,#v[.own 2 (.lst .nil),.bD (.one 3) (.kH (.bin .sub (.sub (!1) (¬0)) (¬1)) (.bin .add (.sub (!1) (¬0)) (¬2))) #v[.bD (.one 4) (.kH (.bin .sub (.sub (!1) (¬1)) (¬1)) (.bin .add (.sub (!1) (¬1)) (¬2))) #v[.ite (.and (.cmp .ne (.tup #v[!3,!4]) (!1)) (.call "is_open" #v[!0,.tup #v[!3,!4]])) #v[.app 2 (.tup #v[!3,!4])] .nil]],.cU 2,.ret (!2)],none⟩
noncomputable def cC:Def:=⟨["one","other"],2,#v[.ret (.and (.cmp .ne (!0) (!1)) (.and (.cmp .le (.blt .abs #v[.bin .sub (.sub (!0) (¬0)) (.sub (!1) (¬0))]) (¬1)) (.cmp .le (.blt .abs #v[.bin .sub (.sub (!0) (¬1)) (.sub (!1) (¬1))]) (¬1))))],none⟩
def cP:Def:=⟨["floor","spot"],2,#v[.expr (.call "need_open" #v[!0,!1]),.ret (.blt .int #v[.sub (.sub (!0) (.sub (!1) (¬0))) (.sub (!1) (¬1))])],none⟩
def aX:Def:=⟨["floor","one","other"],3,#v[.ret (.and (.call "is_open" #v[!0,.tup #v[.sub (!1) (¬0),.sub (!2) (¬1)]]) (.call "is_open" #v[!0,.tup #v[.sub (!2) (¬0),.sub (!1) (¬1)]]))],none⟩
noncomputable def bh:Def:=⟨["floor","walker","one","other","is_slanting","rise","flat_cost"],4,#v[.ite (.not (.call "are_beside" #v[!2,!3])) #v[.ret (.cst .aA)] .nil,.set 4 (.and (.cmp .ne (.sub (!2) (¬0)) (.sub (!3) (¬0))) (.cmp .ne (.sub (!2) (¬1)) (.sub (!3) (¬1)))),.ite (.and (!4) (.not (.and (.sub (!1) (¬0)) (.call "has_open_corners" #v[!0,!2,!3])))) #v[.ret (.cst .aA)] .nil,.set 5 (.bin .sub (.call "height_at" #v[!0,!3]) (.call "height_at" #v[!0,!2])),.ite (.cmp .gt (.blt .abs #v[!5]) (.sub (!1) (¬1))) #v[.ret (.cst .aA)] .nil,.set 6 (.ite (!4) (.glob "SLANTING_COST" (.int 3)) (.glob "STRAIGHT_COST" (.int 2))),.ret (.bin .add (!6) (.bin .mul (.sub (!1) (¬2)) (.blt .max2 #v[!5,¬0])))],none⟩
noncomputable def cG:Def:=⟨["floor","walker","spot","steps","other","cost"],3,#v[.expr (.call "need_open" #v[!0,!2]),.own 3 (.lst .nil),.bD (.one 4) (.seq (.call "open_spots_beside" #v[!0,!2])) #v[.set 5 (.call "step_cost" #v[!0,!1,!2,!4]),.ite (.cmp .oB (!5) (.cst .aA)) #v[.app 3 (.tup #v[!4,!5])] .nil],.cU 3,.ret (!3)],none⟩
noncomputable def cy:Def:=⟨["floor","walker","onward","spot"],2,#v[.qL 2,.bD (.one 3) (.seq (.call "open_spots" #v[!0])) #v[.put 2 (!3) (.comp 1 [] (.one 0) (.seq (.call "steps_from" #v[!0,!1,!3])) (.sub (!0) (¬0)))],.cU 2,.ret (!2)],none⟩
noncomputable def cN:Def:=⟨["ways","spot","left","way","time","passed"],2,#v[.set 2 (¬0),.bD (.one 3) (.seq (!0)) #v[.bD (.two 4 5) (.enum (!3)) #v[.ite (.cmp .eq (!5) (!1)) #v[.set 2 (.blt .max2 #v[!2,.bin .add (!4) (¬1)])] .nil]],.ret (!2)],none⟩
def br:Def:=⟨["ways"],1,#v[.ret (.maxD (.comp 1 [] (.one 0) (.seq (!0)) (.bin .sub (.blt .len #v[!0]) (¬1))) 0)],none⟩
noncomputable def cg:Def:=⟨["times","goal","way","reached"],2,#v[.own 2 (.lst #v[!1]),.bD (.one 3) (.sJ (.slice (!0) (.some (¬1)) .no)) #v[.app 2 (.sub (!3) (.sub (.f9 2) (.neg (¬1))))],.ret (.yH (.f9 2))],none⟩
noncomputable def bS:Def:=⟨["onward","reached","moves","moved","taken","later","spot","other"],3,#v[.set 3 (.blt .dict #v[!2]),.set 4 (.blt .dict #v[.comp 1 [] (.one 0) (.seq (!2)) (.tup #v[.sub (!0) (¬1),.cst (.bl true)])]),.qL 5,.bD (.one 6) (.seq (!1)) #v[.bD (.one 7) (.seq (.bin .add (.lst #v[!6]) (.sub (!0) (!6)))) #v[.ite (.and (.cmp .qH (!7) (!4)) (.cmp .ne (.get (!3) (!7)) (!6))) #v[.put 5 (!7) (!6)] .nil]],.cU 5,.ret (!5)],none⟩
def dF:Def:=⟨["way","time"],2,#v[.ret (.sub (!0) (.blt .min2 #v[!1,.bin .sub (.blt .len #v[!0]) (¬1)]))],none⟩
def cw:Def:=⟨["ways","time"],2,#v[.ret (.comp 1 [1] (.one 0) (.seq (!0)) (.tup #v[.call "spot_at" #v[!0,!1],.call "spot_at" #v[!0,.bin .add (!1) (¬1)]]))],none⟩
noncomputable def bx:Def:=⟨["onward","ahead","start","goal","left","still","times","time","later"],4,#v[.ite (.cmp .zy (!2) (.comp 1 [] (.one 0) (.seq (!1)) (.sub (!0) (¬0)))) #v[.ret (.cst .aA)] .nil,.set 4 (.call "left_from" #v[!1,!3]),.set 5 (.call "still_from" #v[!1]),.own 6 (.lst #v[.JJ 2]),.HY (.or (.cmp .qH (!3) (.sub (.f9 6) (.neg (¬1)))) (.cmp .lt (.bin .sub (.blt .len #v[.f9 6]) (¬1)) (!4))) #v[.set 7 (.bin .sub (.blt .len #v[.f9 6]) (¬1)),.set 8 (.call "reached_next" #v[!0,.sub (.f9 6) (.neg (¬1)),.call "moves_at" #v[!1,!7]]),.ite (.and (.cmp .ge (!7) (!5)) (.cmp .eq (.blt .len #v[!8]) (.blt .len #v[.sub (.f9 6) (.neg (¬1))]))) #v[.ret (.cst .aA)] .nil,.app 6 (!8)],.cU 6,.ret (.call "traced_back" #v[!6,!3])],none⟩
noncomputable def fP:Def:=⟨["floor","walker","starts","goals","spot","onward","told","start","goal","ahead"],4,#v[.bD (.one 4) (.seq (.bin .add (!2) (!3))) #v[.expr (.call "need_open" #v[!0,!4])],.set 5 (.call "steps_over" #v[!0,!1]),.own 6 (.lst .nil),.bD (.two 7 8) (.zip #v[!2,!3]) #v[.set 9 (.bC 1 [] (.one 0) (.seq (.f9 6)) (.cmp .oB (!0) (.cst .aA)) (!0)),.app 6 (.call "earliest_way" #v[!5,!9,!7,!8])],.cU 6,.ret (!6)],none⟩
noncomputable def bI:Def:=⟨["_law_floor_here","_law_walker_here","_law_spot","_law_goal","_law_rise","_law_cost_here"],4,#v[.set 4 (.bin .sub (.blt .int #v[.sub (.sub (!0) (.sub (!3) (¬0))) (.sub (!3) (¬1))]) (.blt .int #v[.sub (.sub (!0) (.sub (!2) (¬0))) (.sub (!2) (¬1))])),.set 5 (¬2),.ite (.or (.cmp .gt (!4) (.sub (!1) (¬1))) (.cmp .gt (.bin .sub (¬0) (!4)) (.sub (!1) (¬1)))) #v[.ret (.cst .aA)] .nil,.ite (.and (.cmp .ne (.sub (!2) (¬0)) (.sub (!3) (¬0))) (.cmp .ne (.sub (!2) (¬1)) (.sub (!3) (¬1)))) #v[.ite (.or (.not (.sub (!1) (¬0))) (.or (.cmp .eq (.sub (.sub (!0) (.sub (!2) (¬0))) (.sub (!3) (¬1))) (.cst (.str "#"))) (.cmp .eq (.sub (.sub (!0) (.sub (!3) (¬0))) (.sub (!2) (¬1))) (.cst (.str "#"))))) #v[.ret (.cst .aA)] .nil,.set 5 (¬3)] .nil,.ret (.bin .add (!5) (.ite (.cmp .gt (!4) (¬0)) (.bin .mul (.sub (!1) (¬2)) (!4)) (¬0)))],none⟩
noncomputable def aY:Def:=⟨["_law_floor_here","_law_walker_here","_law_spot","_law_made","_law_k","_law_row","_law_column","_law_cost_here"],3,#v[.own 3 (.lst .nil),.bD (.one 4) (.jj (¬9)) #v[.set 5 (.bin .add (.bin .sub (.sub (!2) (¬0)) (¬1)) (.bin .fdiv (!4) (¬3))),.set 6 (.bin .add (.bin .sub (.sub (!2) (¬1)) (¬1)) (.bin .mod (!4) (¬3))),.ite (.and (.ch .le .lt (¬0) (!5) (.blt .len #v[!0])) (.and (.ch .le .lt (¬0) (!6) (.blt .len #v[.sub (!0) (¬0)])) (.and (.cmp .ne (!4) (¬4)) (.cmp .ne (.sub (.sub (!0) (!5)) (!6)) (.cst (.str "#")))))) #v[.set 7 (.call "_law_cost" #v[!0,!1,!2,.tup #v[!5,!6]]),.ite (.cmp .oB (!7) (.cst .aA)) #v[.app 3 (.tup #v[.tup #v[!5,!6],!7])] .nil] .nil],.cU 3,.ret (!3)],none⟩
def cD:Def:=⟨["_law_way","_law_time"],2,#v[.ret (.ite (.cmp .lt (!1) (.blt .len #v[!0])) (.sub (!0) (!1)) (.sub (!0) (.neg (¬1))))],none⟩
noncomputable def aR:Def:=⟨["_law_floor_here","_law_walker_here","_law_ways","_law_start","_law_goal","_law_last","_law_spots_here","_law_steps_here","_law_here","_law_time","_law_met","_law_spot","_law_there","_law_hit","_law_swap"],5,#v[.set 5 (.blt .rQ #v[.bin .add (.lst #v[¬0]) (.comp 1 [] (.one 0) (.seq (!2)) (.blt .len #v[!0]))]),.set 6 (.call "_law_spots" #v[!0]),.set 7 (.blt .dict #v[.comp 1 [1,0] (.one 0) (.seq (!6)) (.tup #v[!0,.bin .add (.lst #v[!0]) (.comp 1 [] (.one 0) (.seq (.call "_law_steps" #v[!2,!1,!0])) (.sub (!0) (¬0)))])]),.set 8 (.lst #v[!3]),.bD (.one 9) (.jj (.bin .add (.bin .add (!5) (.blt .len #v[!6])) (¬1))) #v[.ite (.cmp .zy (!4) (!8)) #v[.ite (.cmp .eq (.bC 1 [2,4] (.one 0) (.kH (!9) (.bin .add (.bin .add (!5) (!9)) (¬1))) (.cmp .zy (!2) (.comp 1 [0] (.one 0) (.seq (!1)) (.call "_law_at" #v[!0,!1]))) (!0)) (.lst .nil)) #v[.ret (!9)] .nil] .nil,.own 10 (.lst .nil),.bD (.one 11) (.seq (!8)) #v[.bD (.one 12) (.seq (.sub (!7) (!11))) #v[.set 13 (.bC 1 [9,12] (.one 0) (.seq (!2)) (.cmp .eq (.call "_law_at" #v[!0,.bin .add (!1) (¬1)]) (!2)) (!0)),.set 14 (.bC 1 [9,12,11] (.one 0) (.seq (!2)) (.and (.cmp .eq (.call "_law_at" #v[!0,!1]) (!2)) (.cmp .eq (.call "_law_at" #v[!0,.bin .add (!1) (¬1)]) (!3))) (!0)),.ite (.and (.cmp .eq (!13) (.lst .nil)) (.and (.cmp .eq (!14) (.lst .nil)) (.cmp .qH (!12) (.f9 10)))) #v[.app 10 (!12)] .nil]],.cU 10,.set 8 (!10)],.ret (.cst .aA)],none⟩
noncomputable def bo:Def:=⟨["moves","moved"],1,#v[.set 1 (.blt .dict #v[!0]),.ite (.cmp .lt (.blt .len #v[!1]) (.blt .len #v[!0])) #v[.ret (.cst (.bl false))] .nil,.ret (.not (.blt .any #v[.comp 2 [1] (.two 0 1) (.seq (!0)) (.and (.cmp .ne (!0) (!1)) (.cmp .eq (.get (!2) (!1)) (!0)))]))],none⟩
def cB:Def:=⟨["ways"],1,#v[.ret (.blt .all #v[.comp 1 [0] (.one 0) (.jj (.bin .add (.call "still_from" #v[!0]) (¬1))) (.call "are_moves_apart" #v[.call "moves_at" #v[!1,!0]])])],none⟩
noncomputable def aJ:Def:=⟨["floor","thing"],2,#v[.ite (.or (.not (.ty .list (!1))) (.cmp .eq (.blt .len #v[!1]) (¬0))) #v[.ret (.cst (.bl false))] .nil,.ret (.blt .all #v[.comp 1 [0] (.one 0) (.seq (!1)) (.call "is_open" #v[!1,!0])])],none⟩
def aO:Def:=⟨["floor","walker","one","other"],4,#v[.ret (.or (.cmp .eq (!2) (!3)) (.cmp .oB (.call "step_cost" #v[!0,!1,!2,!3]) (.cst .aA)))],none⟩
noncomputable def bu:Def:=⟨["floor","walker","thing"],3,#v[.ite (.not (.call "is_list_of_open_spots" #v[!0,!2])) #v[.ret (.cst (.bl false))] .nil,.ret (.blt .all #v[.comp 2 [1,0] (.two 0 1) (.zip #v[!2,.slice (!2) (.some (¬1)) .no]) (.call "is_step_or_wait" #v[!3,!2,!0,!1])])],none⟩
noncomputable def bg:Def:=⟨["floor","walker","start","goal","thing"],5,#v[.ite (.cmp .is (!4) (.cst .aA)) #v[.ret (.cst (.bl true))] .nil,.ret (.and (.call "is_way_in_time" #v[!0,!1,!4]) (.and (.cmp .eq (.sub (!4) (¬0)) (!2)) (.cmp .eq (.sub (!4) (.neg (¬1))) (!3))))],none⟩
noncomputable def dt:Def:=⟨["floor","walker","starts","goals","thing"],5,#v[.ite (.or (.not (.ty .list (!4))) (.cmp .ne (.blt .len #v[!4]) (.blt .len #v[!2]))) #v[.ret (.cst (.bl false))] .nil,.ite (.not (.blt .all #v[.comp 3 [1,0] (.three 0 1 2) (.zip #v[!2,!3,!4]) (.call "fulfils_plan" #v[!4,!3,!0,!1,!2])])) #v[.ret (.cst (.bl false))] .nil,.ret (.call "keep_apart" #v[.bC 1 [] (.one 0) (.seq (!4)) (.cmp .oB (!0) (.cst .aA)) (!0)])],none⟩
noncomputable def bW:Def:=⟨["_law_floor_here","_law_walker_here","_law_ways","_law_start","_law_goal","_law_way","_law_spots_here","_law_k","_law_there","_law_steps_here","_law_other","_law_time"],6,#v[.set 6 (.call "_law_spots" #v[!0]),.ite (.or (.not (.ty .list (!5))) (.or (.cmp .eq (!5) (.lst .nil)) (.cmp .ne (.bC 1 [6] (.one 0) (.seq (!5)) (.cmp .qH (!0) (!1)) (!0)) (.lst .nil)))) #v[.ret (.cst (.bl false))] .nil,.ite (.or (.cmp .ne (.sub (!5) (¬0)) (!3)) (.cmp .ne (.sub (!5) (.neg (¬1))) (!4))) #v[.ret (.cst (.bl false))] .nil,.bD (.two 7 8) (.enum (.slice (!5) (.some (¬1)) .no)) #v[.set 9 (.comp 1 [] (.one 0) (.seq (.call "_law_steps" #v[!0,!1,.sub (!5) (!7)])) (.sub (!0) (¬0))),.ite (.and (.cmp .ne (!8) (.sub (!5) (!7))) (.cmp .qH (!8) (!9))) #v[.ret (.cst (.bl false))] .nil],.bD (.one 10) (.seq (!2)) #v[.bD (.one 11) (.jj (.bin .add (.blt .max2 #v[.blt .len #v[!5],.blt .len #v[!10]]) (¬1))) #v[.ite (.cmp .eq (.call "_law_at" #v[!5,!11]) (.call "_law_at" #v[!10,!11])) #v[.ret (.cst (.bl false))] .nil,.ite (.and (.cmp .eq (.call "_law_at" #v[!5,.bin .add (!11) (¬1)]) (.call "_law_at" #v[!10,!11])) (.cmp .eq (.call "_law_at" #v[!10,.bin .add (!11) (¬1)]) (.call "_law_at" #v[!5,!11]))) #v[.ret (.cst (.bl false))] .nil]],.ret (.cst (.bl true))],none⟩
noncomputable def bV:Def:=⟨["_law_script","_law_floor_here","_law_walker_here","_law_spots_here","_law_many","_law_starts","_law_goals","_law_answer","_law_ways","_law_start","_law_goal","_law_way","_law_due"],1,#v[.set 1 (.call "_law_floor" #v[!0,¬0,¬4]),.set 2 (.call "_law_walker" #v[!0,¬30]),.set 3 (.call "_law_spots" #v[!1]),.set 4 (.bin .add (¬1) (.call "_law_pick" #v[!0,¬34,¬4])),.set 5 (.call "_law_some" #v[!0,¬35,!3,!4]),.set 6 (.call "_law_some" #v[!0,¬40,!3,!4]),.set 7 (.call "crowd" #v[!1,!2,!5,!6]),.ite (.or (.not (.ty .list (!7))) (.cmp .ne (.blt .len #v[!7]) (.blt .len #v[!5]))) #v[.ret (.cst (.bl false))] .nil,.own 8 (.lst .nil),.bD (.three 9 10 11) (.zip #v[!5,!6,!7]) #v[.set 12 (.iV "_law_soonest" #v[!1,!2,.f9 8,!9,!10]),.ite (.or (.cmp .is (!12) (.cst .aA)) (.cmp .is (!11) (.cst .aA))) #v[.ite (.or (.cmp .oB (!12) (.cst .aA)) (.cmp .oB (!11) (.cst .aA))) #v[.ret (.cst (.bl false))] .nil] #v[.ite (.or (.not (.iV "_law_fits" #v[!1,!2,.f9 8,!9,!10,!11])) (.cmp .ne (.blt .len #v[!11]) (.bin .add (!12) (¬1)))) #v[.ret (.cst (.bl false))] .nil,.app 8 (!11)]],.ret (.cmp .is (.call "is_plan" #v[!1,!2,!5,!6,!7]) (.cst (.bl true)))],none⟩
noncomputable def mW:Def:=⟨["_law_script","_law_turn"],1,#v[.bD (.one 1) (.jj (¬3)) #v[.ite (.not (.call "_law_once" #v[.comp 1 [1] (.one 0) (.seq (!0)) (.bin .add (!0) (.bin .mul (¬7919) (!1)))])) #v[.ret (.cst (.bl false))] .nil,.ite (.cmp .eq (!0) (.lst .nil)) #v[.brk] .nil],.ret (.cst (.bl true))],none⟩
def T0:List (Str×Def):=[]
noncomputable def T1:List (Str×Def):=(("_law_cell":Str),cO)::T0
noncomputable def T2:List (Str×Def):=(("_law_pick":Str),bt)::T1
noncomputable def T3:List (Str×Def):=(("_law_floor":Str),bZ)::T2
noncomputable def T4:List (Str×Def):=(("_law_walker":Str),cj)::T3
noncomputable def T5:List (Str×Def):=(("_law_spots":Str),bb)::T4
noncomputable def T6:List (Str×Def):=(("_law_some":Str),bY)::T5
noncomputable def T7:List (Str×Def):=(("open_spots":Str),cF)::T6
noncomputable def T8:List (Str×Def):=(("is_whole":Str),dJ)::T7
noncomputable def T9:List (Str×Def):=(("is_spot":Str),dG)::T8
noncomputable def DS:List (Str×Def):=(("is_on_floor":Str),cm)::T9
noncomputable def HJ:List (Str×Def):=(("is_open":Str),cq)::DS
noncomputable def M6:List (Str×Def):=(("need_open":Str),bH)::HJ
noncomputable def Qo:List (Str×Def):=(("open_spots_beside":Str),aV)::M6
noncomputable def Mq:List (Str×Def):=(("are_beside":Str),cC)::Qo
noncomputable def Nh:List (Str×Def):=(("height_at":Str),cP)::Mq
noncomputable def EM:List (Str×Def):=(("has_open_corners":Str),aX)::Nh
noncomputable def Im:List (Str×Def):=(("step_cost":Str),bh)::EM
noncomputable def HQ:List (Str×Def):=(("steps_from":Str),cG)::Im
noncomputable def OF:List (Str×Def):=(("steps_over":Str),cy)::HQ
noncomputable def LI:List (Str×Def):=(("left_from":Str),cN)::OF
noncomputable def OL:List (Str×Def):=(("still_from":Str),br)::LI
noncomputable def O0:List (Str×Def):=(("traced_back":Str),cg)::OL
noncomputable def Qj:List (Str×Def):=(("reached_next":Str),bS)::O0
noncomputable def IF:List (Str×Def):=(("spot_at":Str),dF)::Qj
noncomputable def DN:List (Str×Def):=(("moves_at":Str),cw)::IF
noncomputable def HV:List (Str×Def):=(("earliest_way":Str),bx)::DN
noncomputable def PK:List (Str×Def):=(("crowd":Str),fP)::HV
noncomputable def JE:List (Str×Def):=(("_law_cost":Str),bI)::PK
noncomputable def K1:List (Str×Def):=(("_law_steps":Str),aY)::JE
noncomputable def HK:List (Str×Def):=(("_law_at":Str),cD)::K1
noncomputable def Pc:List (Str×Def):=(("_law_soonest":Str),aR)::HK
noncomputable def Ik:List (Str×Def):=(("are_moves_apart":Str),bo)::Pc
noncomputable def Oa:List (Str×Def):=(("keep_apart":Str),cB)::Ik
noncomputable def M7:List (Str×Def):=(("is_list_of_open_spots":Str),aJ)::Oa
noncomputable def Ir:List (Str×Def):=(("is_step_or_wait":Str),aO)::M7
noncomputable def Li:List (Str×Def):=(("is_way_in_time":Str),bu)::Ir
noncomputable def Ip:List (Str×Def):=(("fulfils_plan":Str),bg)::Li
noncomputable def HW:List (Str×Def):=(("is_plan":Str),dt)::Ip
noncomputable def zx:List (Str×Def):=(("_law_fits":Str),bW)::HW
noncomputable def Py:List (Str×Def):=(("_law_once":Str),bV)::zx
def Iw:den T1 "_law_cell"=aq (den T0) cO:=dk 0
def Jq:den T2 "_law_pick"=aq (den T1) bt:=dk 0
def JD:den T3 "_law_pick"=aq (den T1) bt:=dk 1
def Ke:den T5 "_law_pick"=aq (den T1) bt:=dk 3
def Ja:den T8 "is_whole"=aq (den T7) dJ:=dk 0
def Ho:den DS "is_spot"=aq (den T8) dG:=dk 1
def AX:den DS "is_on_floor"=aq (den T9) cm:=dk 0
def Bh:den HJ "is_open"=aq (den DS) cq:=dk 0
def BA:den M6 "is_open"=aq (den DS) cq:=dk 1
def CI:den Mq "need_open"=aq (den HJ) bH:=dk 2
def zU:den Nh "is_open"=aq (den DS) cq:=dk 4
def AQ:den EM "are_beside"=aq (den Qo) cC:=dk 2
def BL:den EM "has_open_corners"=aq (den Nh) aX:=dk 0
def BH:den EM "height_at"=aq (den Mq) cP:=dk 1
def AG:den Im "need_open"=aq (den HJ) bH:=dk 5
def A7:den Im "open_spots_beside"=aq (den M6) aV:=dk 4
def Bl:den Im "step_cost"=aq (den EM) bh:=dk 0
def Gz:den HQ "open_spots"=aq (den T6) cF:=dk 11
def AZ:den HQ "steps_from"=aq (den Im) cG:=dk 0
def Bd:den IF "spot_at"=aq (den Qj) dF:=dk 0
def CD:den DN "left_from"=aq (den OF) cN:=dk 5
def C2:den DN "still_from"=aq (den LI) br:=dk 4
def By:den DN "reached_next"=aq (den O0) bS:=dk 2
def Bk:den DN "moves_at"=aq (den IF) cw:=dk 0
def BY:den DN "traced_back"=aq (den OL) cg:=dk 3
def C6:den HV "need_open"=aq (den HJ) bH:=dk 14
def CL:den HV "steps_over"=aq (den HQ) cy:=dk 7
def Cc:den HV "earliest_way"=aq (den DN) bx:=dk 0
def Cs:den JE "_law_cost"=aq (den PK) bI:=dk 0
def wd:den HK "_law_spots"=aq (den T4) bb:=dk 25
def BP:den HK "_law_steps"=aq (den JE) aY:=dk 1
def Cd:den HK "_law_at"=aq (den K1) cD:=dk 0
def B7:den Ik "still_from"=aq (den LI) br:=dk 11
def B5:den Ik "are_moves_apart"=aq (den Pc) bo:=dk 0
def B9:den Ik "moves_at"=aq (den IF) cw:=dk 7
def Ah:den Oa "is_open"=aq (den DS) cq:=dk 22
def Bi:den M7 "step_cost"=aq (den EM) bh:=dk 17
def Au:den Ir "is_list_of_open_spots"=aq (den Oa) aJ:=dk 1
def Ag:den Ir "is_step_or_wait"=aq (den M7) aO:=dk 0
def BD:den Li "is_way_in_time"=aq (den Ir) bu:=dk 0
def uh:den Ip "fulfils_plan"=aq (den Li) bg:=dk 0
def AU:den Ip "keep_apart"=aq (den Ik) cB:=dk 4
def G8:den HW "_law_spots"=aq (den T4) bb:=dk 33
def B1:den HW "_law_steps"=aq (den JE) aY:=dk 9
def An:den HW "_law_at"=aq (den K1) cD:=dk 8
def F8:den zx "_law_floor"=aq (den T2) bZ:=dk 36
def G6:den zx "_law_walker"=aq (den T3) cj:=dk 35
def xG:den zx "_law_spots"=aq (den T4) bb:=dk 34
def Gb:den zx "_law_pick"=aq (den T1) bt:=dk 37
def E6:den zx "_law_some"=aq (den T5) bY:=dk 33
def A3:den zx "crowd"=aq (den HV) fP:=dk 12
def Ar:den zx "_law_soonest"=aq (den HK) aR:=dk 8
def B6:den zx "_law_fits"=aq (den HW) bW:=dk 0
def CT:den zx "is_plan"=aq (den Ip) dt:=dk 1
def BB:den Py "_law_once"=aq (den zx) bV:=dk 0
end K60
namespace L2
open PySem PySem.Spec PyProof.Rows PySem.W
abbrev gp(p:Array Nat)(i:Nat):Nat:=p.getD i 0
end L2
namespace K60
open PySem L2 Ci KJ
abbrev sp(r c:Int):PV:=.tup [.int r,.int c]
abbrev dC(ns:List Int):PV:=.lst (ns.map .int)
theorem aI{i:Int}:bJ .abs [.int i]=.ok (.int (if i<0 then -i else i)):=rfl
theorem mX{i j:Int}:bJ .max2 [.int i,.int j]=.ok (.int (if j>i then j else i)):=rfl
theorem OX:dc .gt=rY:=rfl
theorem PZ{i j:Int}:rY (.int i) (.int j)=.ok (.bl (decide (j<i))):=rfl
theorem I0:dc .oB=eE:=rfl
abbrev wk(sl:Bool)(cl pr:Int):PV:=.tup [.bl sl,.int cl,.int pr]
theorem JA{r c:Int}:aF (sp r c) (.int 0)=.ok (.int r):=rfl
theorem IE{r c:Int}:aF (sp r c) (.int 1)=.ok (.int c):=rfl
theorem Qa{sl:Bool}{cl pr:Int}:aF (wk sl cl pr) (.int 0)=.ok (.bl sl):=rfl
theorem QC{sl:Bool}{cl pr:Int}:aF (wk sl cl pr) (.int 1)=.ok (.int cl):=rfl
theorem Qh{sl:Bool}{cl pr:Int}:aF (wk sl cl pr) (.int 2)=.ok (.int pr):=rfl
theorem nI{i j:Int}:fC (.int i) (.int j)=.ok (.bl (!(i==j))):=rfl
theorem eI{i j:Int}:fk (.int i) (.int j)=.ok (.bl (i==j)):=rfl
theorem nS{r c r' c':Int}:fC (sp r c) (sp r' c')=.ok (.bl (!((r==r')&&((c==c')&&true)))):=rfl
theorem eS{r c r' c':Int}:fk (sp r c) (sp r' c')=.ok (.bl ((r==r')&&((c==c')&&true))):=rfl
theorem OJ:dc .is=i7:=rfl
theorem IX{α β:Type}{c:Str}{f:α->Res β}:(Res.exc c:Res α).bind f=.exc c:=rfl
noncomputable def J2:=And.intro @JA (And.intro @IE (And.intro @Qa (And.intro @QC (And.intro @Qh (And.intro @aI (And.intro @mX (And.intro @OX (And.intro @PZ (And.intro @nI (And.intro @eI (And.intro @nS (And.intro @eS (And.intro @I0 (And.intro @OJ (And.intro @IX (And.intro @Le (And.intro @K8 (@Lr))))))))))))))))))
set_option hygiene false
local macro_rules | `(tactic| simp! only [$x,*] $[$l:location]?) => `(tactic| simp only [aq, bT, bR, aB, f6, aC, c8, ua, oX, eZ, f7, gF, List.replicate, Nat.reduceAdd, Nat.reduceSub, reduceIte, ite_true, ite_false, BEq.rfl, beq_self_eq_true, m8, HG, HI, Pb, O8, QB, sv, Oq, Qu, JV, DH, DY, DC, Jc, KO, Iu, IU, P1, Pt, Qw, Pj, ON, KD, Io, oLt, oLe, Qc, lL, lT, lS, tL, aL, Lc, Ov, vg, jA, jB, jC, jD, jE, jF, jG, jH, jI, jJ, jK, jL, jM, jN, jO, jP, KJ.iP, OC, K8, Le, Lr, OB, jQ, jR, JA, IE, Qa, QC, Qh, aI, mX, OX, PZ, nI, eI, nS, eS, I0, OJ, IX, $x,*] $[$l]?)
local macro_rules | `(tactic| dsimp! only [$x,*] $[$l:location]?) => `(tactic| simp only [aq, bT, bR, aB, f6, aC, c8, ua, oX, eZ, f7, gF, List.replicate, Nat.reduceAdd, Nat.reduceSub, reduceIte, ite_true, ite_false, BEq.rfl, beq_self_eq_true, J, J2, $x,*] $[$l]?)
set_option hygiene true
theorem oM(F:aM)(i:Int):aq F dJ [.int i]=.ok (.bl true):=by rfl
def k8{α:Type}{xs:List α}{k:Nat}(h:k<xs.length):qw xs (k:Int)=some xs[k]:=by
 unfold qw Hi;have:((k:Nat):Int)<(xs.length:Int):=by omega
 simp [this,h]
def uu{ns:List Int}{k:Int}(h0:0<=k)(h:k<ns.length):∃m,qw (ns.map PV.int) k=some (.int m):=by
 obtain⟨j,rfl⟩:=zzw h0
 refine⟨ns[j]'(by omega),?_⟩;rw [k8 (k:=j) (by simp;omega)];simp
def yR(ns:List Int)(n:Nat):Ci.plain (n+1) (.lst (ns.map .int))=true:=by
 simp! [Ci.plain,zzT,zzx]
 rintro x ⟨i,_,rfl⟩
 cases n<;>rfl
def eq_nil(ns:List Int):fk (dC ns) (.lst [])=.ok (.bl (decide (ns=[]))):=by
 have e:vZ (dC ns)=true:=yR ns 8
 unfold fk;rw [e];cases ns<;>rfl
def Bm(F:aM)(ns:List Int)(k:Int)(hk:0<=k):∃m,aq F cO [dC ns,.int k]=.ok (.int m):=by
 simp! only [cO,zzl,eq_nil]
 by_cases h:k<(ns.length:Int)
 ·obtain⟨m,e⟩:=uu hk h
  refine⟨m,?_⟩;simp! only [h,decide_true,aF,e]
 ·simp! only [h,decide_false,eq_nil];cases ns with
  |nil=>exact⟨0,rfl⟩
  |cons n ns=>
   have hl:(0:Int)<((n::ns).length:Int):=by simp! [zzL];omega
   obtain⟨m,e⟩:=uu (ns:=n::ns) (k:=k%((n::ns).length:Int)) (Int.emod_nonneg _ (by omega)) (Int.emod_lt_of_pos _ hl)
   refine⟨m*31+k,?_⟩;have e3:(aN m||aN 31)=true:=by rw [zzt];exact .inr (by decide)
   have e4:aF (dC (n::ns)) (.int (k%((n::ns).length:Int)))=.ok (.int m):=by simp! [aF,e];rfl
   have e5:decide ((n::ns)=[])=false:=rfl
   simp! [zzL] at hl e4;simp! only [e5,zzl,hl,e4,e3]
def Ck(F:aM)(hc:∀ns k,0<=k->∃m,F "_law_cell" [dC ns,.int k]=.ok (.int m))(ns:List Int)(k q:Int)(hk:0<=k)(hq:0<q):∃m,aq F bt [dC ns,.int k,.int q]=.ok (.int m)/\0<=m/\m<q:=by
 obtain⟨m,e⟩:=hc ns k hk
 have s1:(aN 6151||aN (k+1))=true:=by rw [zzt];exact .inl (by decide)
 have s2:(aN (m+6151*(k+1))||aN 40692)=true:=by rw [zzt];exact .inr (by decide)
 have s3:(0:Int)<2147483399:=by decide
 have s4:(0:Int)<2147483629:=by decide
 have s5:(0:Int)<31/\(31:Int)<1073741824:=by decide
 have a0:=Int.emod_nonneg ((m+6151*(k+1))*40692) (b:=2147483399) (by decide)
 have a1:=Int.emod_lt_of_pos ((m+6151*(k+1))*40692) s3
 refine⟨((((m+6151*(k+1))*40692%2147483399)*((m+6151*(k+1))*40692%2147483399)+((m+6151*(k+1))*40692%2147483399)/31)%2147483629)%q,?_,Int.emod_nonneg _ (by omega),Int.emod_lt_of_pos _ hq⟩;generalize hd:(m+6151*(k+1))*40692%2147483399=d at a0 a1
 have s6:(aN d||aN d)=true:=by
  have:aN d=true:=by simp! [aN,zza,zzN];omega
  rw [this];rfl
 simp! only [bt,dC] at e⊢;simp! only [e,s1,s2,s3,s4,s5,hd,s6,hq,and_self]
def pf(ae:List Str):Prop:=ae.length<=6/\∀z∈ae,z.length<=6
abbrev fl(ae:List Str):PV:=.tup (ae.map .str)
def cd(ae:List Str)(r c:Nat):Option Nat:=(ae[r]?).bind λz=>z.cps.toList[c]?
def uB(ae:List Str)(r c:Nat):Bool:=match cd ae r c with|some x=>x !=35|none=>false
def b7(ae:List Str)(r c:Int):Bool:=decide (0<=r)&&decide (0<=c)&&uB ae r.toNat c.toNat
def sA(F:aM)(h:∀i,F "is_whole" [.int i]=.ok (.bl true))(r c:Int):aq F dG [sp r c]=.ok (.bl true):=by
 have e0:aF (sp r c) (.int 0)=.ok (.int r):=rfl
 have e1:aF (sp r c) (.int 1)=.ok (.int c):=rfl
 have e2:fk (.int ((2:Nat):Int)) (.int 2)=.ok (.bl true):=rfl
 simp! only [dG,sF,h,e0,e1,e2]
def JL(F:aM)(ae:List Str)(R:pf ae)(r c:Int):aq F cm [fl ae,sp r c]=.ok (.bl (decide (0<=r)&&decide (0<=c)&&(cd ae r.toNat c.toNat).isSome)):=by
 have e0:aF (sp r c) (.int 0)=.ok (.int r):=rfl
 have e1:aF (sp r c) (.int 1)=.ok (.int c):=rfl
 simp! only [cm,sF,e0,e1,qI,qz,zzl]
 by_cases h0:0<=r
 ·by_cases h1:r<(ae.length:Int)
  ·obtain⟨j,rfl⟩:=zzw h0
   have hj:j<ae.length:=by omega
   have e2:aF (fl ae) (.int (j:Int))=.ok (.str ae[j]):=by
    simp! [aF,fl];rw [k8 (k:=j) (by simpa using hj)];simp [Res.of]
   have e3:(ae[j]).length<=cK:=zzU (R.2 _ (List.getElem_mem hj)) (by decide)
   have e4:(ae[j]).cps.size=(ae[j]).length:=rfl
   simp! only [h0,h1,decide_true,e2,e3]
   by_cases h2:0<=c
   ·obtain⟨i,rfl⟩:=zzw h2
    simp! only [h2,decide_true,cd,zz4,zzg hj,Option.bind_some,Bool.and_self,Bool.true_and,Res.ok.injEq,PV.bl.injEq];rw [Bool.eq_iff_iff];simp [e4]
   ·simp [aq,bT,bR,aB,f6,aC,c8,ua,oX,eZ,f7,gF,List.replicate,Nat.reduceAdd,Nat.reduceSub,reduceIte,ite_true,ite_false,BEq.rfl,beq_self_eq_true,J,h2]
  ·have:cd ae r.toNat c.toNat=none:=by
    unfold cd;rw [List.getElem?_eq_none (by omega)];rfl
   simp [aq,bT,bR,aB,f6,aC,c8,ua,oX,eZ,f7,gF,List.replicate,Nat.reduceAdd,Nat.reduceSub,reduceIte,ite_true,ite_false,BEq.rfl,beq_self_eq_true,J,h0,h1,this]
 ·simp [aq,bT,bR,aB,f6,aC,c8,ua,oX,eZ,f7,gF,List.replicate,Nat.reduceAdd,Nat.reduceSub,reduceIte,ite_true,ite_false,BEq.rfl,beq_self_eq_true,J,h0]
def wJ{ae:List Str}{j:Nat}{z:Str}(h:ae[j]?=some z):aF (fl ae) (.int (j:Int))=.ok (.str z):=by
 obtain⟨hj,rfl⟩:=zzH.1 h
 simp! [aF,fl];rw [k8 (k:=j) (by simpa using hj)];simp [Res.of]
def Af{z:Str}{i x:Nat}(hz:z.length<=cK)(h:z.cps.toList[i]?=some x):aF (.str z) (.int (i:Int))=.ok (.str ⟨#[x]⟩):=by
 obtain⟨hj,rfl⟩:=zzH.1 h
 simp! [aF,hz,if_true];rw [k8 (k:=i) hj]
 rfl
def zB{ae:List Str}(R:pf ae){j i x:Nat}(h:cd ae j i=some x):∃z,ae[j]?=some z/\aF (fl ae) (.int (j:Int))=.ok (.str z)/\aF (.str z) (.int (i:Int))=.ok (.str ⟨#[x]⟩):=by
 unfold cd at h;cases hz:ae[j]? with
 |none=>rw [hz] at h;cases h
 |some z=>
  rw [hz] at h;exact⟨z,rfl,wJ hz,Af (zzU (R.2 _ (zzD hz)) (by decide)) h⟩
def sC(x:Nat):fC (.str ⟨#[x]⟩) (.str "#")=.ok (.bl (x !=35)):=by
 have:(("#":Str))=⟨#[35]⟩:=by decide+kernel
 rw [this];show Res.ok (PV.bl (!((⟨#[x]⟩:Str)==⟨#[35]⟩)))=_
 congr 2
 rw [bne,Bool.eq_iff_iff];simp
def Ce(F:aM)(hs:∀r c,F "is_spot" [sp r c]=.ok (.bl true))(ho:∀ae,pf ae->∀r c,F "is_on_floor" [fl ae,sp r c]=.ok (.bl (decide (0<=r)&&decide (0<=c)&&(cd ae r.toNat c.toNat).isSome)))
 (ae:List Str) (R:pf ae) (r c:Int):aq F cq [fl ae,sp r c]=.ok (.bl (b7 ae r c)):=by
 have e0:aF (sp r c) (.int 0)=.ok (.int r):=rfl
 have e1:aF (sp r c) (.int 1)=.ok (.int c):=rfl
 simp! only [cq,hs,ho ae R,e0,e1];unfold b7 uB
 by_cases h0:0<=r
 ·by_cases h1:0<=c
  ·obtain⟨j,rfl⟩:=zzw h0
   obtain⟨i,rfl⟩:=zzw h1
   simp! [h0,h1,decide_true,Bool.true_and,Bool.and_self,zz4];cases hc:cd ae j i with
   |none=>simp [aq,bT,bR,aB,f6,aC,c8,ua,oX,eZ,f7,gF,List.replicate,Nat.reduceAdd,Nat.reduceSub,reduceIte,ite_true,ite_false,BEq.rfl,beq_self_eq_true,J]
   |some x=>
    obtain⟨z,_,e2,e3⟩:=zB R hc
    simp! only [Option.isSome_some,e2,e3,sC]
  ·simp [aq,bT,bR,aB,f6,aC,c8,ua,oX,eZ,f7,gF,List.replicate,Nat.reduceAdd,Nat.reduceSub,reduceIte,ite_true,ite_false,BEq.rfl,beq_self_eq_true,J,h1]
 ·simp [aq,bT,bR,aB,f6,aC,c8,ua,oX,eZ,f7,gF,List.replicate,Nat.reduceAdd,Nat.reduceSub,reduceIte,ite_true,ite_false,BEq.rfl,beq_self_eq_true,J,h0]
def oF(F:aM)(ho:∀ae,pf ae->∀r c,F "is_open" [fl ae,sp r c]=.ok (.bl (b7 ae r c)))(ae:List Str)(R:pf ae)(r c:Int)(h:b7 ae r c=true):aq F bH [fl ae,sp r c]=.ok .aA:=by
 simp! only [bH,ho ae R,h]
abbrev Dq(p:Int×Int):PV:=sp p.1 p.2
theorem aQ{α:Type}{f:PV->Res (Option PV)}{p:α->PV}{g:α->PV}:∀{xs:List α},(∀x∈xs,f (p x)=.ok (some (g x)))->aD f (xs.map p)=.ok (xs.map g)
 |[],_=>rfl
 |x::xs,h=>by
  simp! [zzF,aD,h x (zzP ..),Res.well,Res.bind,aQ (xs:=xs) λy hy=>h y (zzI _ hy),oc]
def gV{ae:List Str}{r c:Int}:b7 ae r c=true↔0<=r/\0<=c/\uB ae r.toNat c.toNat=true:=by
 simp! [b7,zza,zzN,and_assoc]
theorem bj{body:PV->Sl->Res Fl}{P:Nat->Sl->Prop}:∀(xs:List PV) (k:Nat) (env:Sl),P k env->(∀i x env,xs[i]?=some x->P (k+i) env->∃ag,body x env=.ok (.nx ag)/\P (k+i+1) ag)->∃ag,forL body xs env=.ok (.nx ag)/\P (k+xs.length) ag
 |[],k,env,h,_=>⟨env,rfl,h⟩
 |x::xs,k,env,h,g=>by
  obtain⟨e1,b1,p1⟩:=g 0 x env rfl h
  obtain⟨e2,b2,p2⟩:=bj xs (k+1) e1 p1 λi y env hy hp=>by
   obtain⟨e3,b3,p3⟩:=g (i+1) y env hy (by rw [show k+(i+1)=k+1+i by omega];exact hp)
   exact⟨e3,b3,by rw [show k+1+i+1=k+(i+1)+1 by omega];exact p3⟩
  refine⟨e2,?_,by rw [zzL,show k+(xs.length+1)=k+1+xs.length by omega];exact p2⟩;simp! [forL,b1,m8,b2]
def rJ{n i:Nat}{x:PV}(h:(dh 0 n)[i]?=some x):i<n/\x=.int (i:Int):=by
 simp! [dh,zzQ,zzJ] at h;obtain⟨j,hj,rfl⟩:=h
 obtain⟨h1,h2⟩:=zzH.1 hj
 simp! [List.getElem_range] at h2;subst h2;simp! [List.length_range] at h1;exact⟨h1,by simp⟩
def iM(F:aM):Prop:=∀(ns:List Int) (k q:Int),0<=k->0<q->∃m,F "_law_pick" [dC ns,.int k,.int q]=.ok (.int m)/\0<=m/\m<q
def nT{a b c d m:Int}(h0:0<=m)(h1:m<4):∃v,aF (.lst [.int a,.int b,.int c,.int d]) (.int m)=.ok (.int v)/\(v=a\/v=b\/v=c\/v=d):=by
 have:m=0\/m=1\/m=2\/m=3:=by omega
 rcases this with rfl|rfl|rfl|rfl
 ·exact⟨a,rfl,.inl rfl⟩
 ·exact⟨b,rfl,.inr (.inl rfl)⟩
 ·exact⟨c,rfl,.inr (.inr (.inl rfl))⟩
 ·exact⟨d,rfl,.inr (.inr (.inr rfl))⟩
noncomputable def DE:Ss:=#v[.set 11 (.call "_law_pick" #v[!0,.bin .add (.bin .add (.bin .add (!1) (¬4)) (.bin .mul (!2) (!8))) (!10),.bin .mul (¬12) (!6)]),.set 9 (.bin .add (!9) (.ite (.cmp .lt (.bin .mod (!11) (¬12)) (!5)) (.cst (.str "#")) (.blt .str #v[.bin .fdiv (!11) (¬12)])))]
noncomputable def Ha:Ss:=#v[.set 9 (.cst (.str "")),.bD (.one 10) (.jj (!4)) DE,.app 7 (!9)]
structure Fl(ae:List Str)(w:Nat):Prop where
 uV:pf ae
 ne:0<ae.length
 w1:1<=w
 zY:∀z∈ae,z.length=w
 dig:∀z∈ae,∀x∈z.cps.toList,x=35\/(48<=x/\x<=57)
def BS{v:Int}(h0:0<=v)(h1:v<10):bJ .str [.int v]=.ok (.str ⟨#[48+v.toNat]⟩):=by
 obtain⟨n,rfl⟩:=zzw h0
 have key:∀k:Fin 10,(((k.1:Nat):Int).natAbs.log2<1920)/\((toString ((k.1:Nat):Int)):Str)=⟨#[48+k.1]⟩:=by decide+kernel
 have k:=key ⟨n,Int.ofNat_lt.1 h1⟩
 show(if _ then Res.ok (PV.str _) else _)=_
 rw [if_pos k.1,zz4,k.2]
def Dg{x:Nat}(h0:48<=x)(h1:x<=57):bJ .int [.str ⟨#[x]⟩]=.ok (.int ((x:Int)-48)):=by
 have key:∀k:Fin 10,PySem.intText? (⟨#[48+k.1]⟩:Str)=some (((48+k.1:Nat):Int)-48):=by decide+kernel
 obtain⟨k,rfl⟩:=Nat.exists_eq_add_of_le h0
 have e:=key ⟨k,Nat.lt_succ_of_le (Nat.le_of_add_le_add_left (a:=48) h1)⟩
 show(if(⟨#[48+k]⟩:Str).length<=640 then(Res.of (PySem.intText? (⟨#[48+k]⟩:Str))).bind λn=>Res.ok (PV.int n) else .bad)=_
 rw [if_pos (show(⟨#[48+k]⟩:Str).length<=640 from(by show 1<=640;decide)),e]
 rfl
def Fe(F:aM)(hp:iM F)(ns:List Int)(q a b sh tp:Int)(QX:0<=q)(OD:q<=6)(h1:1<=tp)(h2:tp<=10)(own:PV)(i n:Nat)(hn:n<=6)(iF eG:Ci.Slot):
 ∃(z:Str) (Dw DF:Ci.Slot),z.length=n/\(∀x∈z.cps.toList,x=35\/(48<=x/\x<=57))/\forL (λx env=>((Tg.one 10).put x env).bind λag=>aB F DE ag) (dh 0 n) [.val (dC ns),.val (.int 0),.val (.int q),.val (.int a),.val (.int b),.val (.int sh),.val (.int tp),.own own,.val (.int i),.val (.str ""),iF,eG]=
  .ok (.nx [.val (dC ns),.val (.int 0),.val (.int q),.val (.int a),.val (.int b),.val (.int sh),.val (.int tp),.own own,.val (.int i),.val (.str z),Dw,DF]):=by
 obtain⟨ag,e,z,Dw,DF,hz,hd,rfl⟩:=bj (body:=λx env=>((Tg.one 10).put x env).bind λag=>aB F DE ag) (P:=λj env=>∃(z:Str) (Dw DF:Ci.Slot),z.length=j/\(∀x∈z.cps.toList,x=35\/(48<=x/\x<=57))/\env=[.val (dC ns),.val (.int 0),.val (.int q),.val (.int a),.val (.int b),.val (.int sh),.val (.int tp),.own own,.val (.int i),.val (.str z),Dw,DF]) (dh 0 n) 0 [.val (dC ns),.val (.int 0),.val (.int q),.val (.int a),.val (.int b),.val (.int sh),.val (.int tp),.own own,.val (.int i),.val (.str ""),iF,eG] ⟨_,_,_,by decide+kernel,by decide+kernel,rfl⟩ (by
  intro j x env hx hq;obtain⟨hj,rfl⟩:=rJ hx
  obtain⟨z,Dw,DF,hz,hd,rfl⟩:=hq
  obtain⟨m,em,m0,m1⟩:=hp ns (0+4+q*(i:Int)+(j:Int)) (12*tp) (by
   have:=Int.mul_nonneg QX (Int.natCast_nonneg i)
   omega) (by omega)
  have q1:(aN q||aN (i:Int))=true:=by
   have:aN q=true:=by simp! [aN,zza,zzN];omega
   rw [this];rfl
  have q2:(aN 12||aN tp)=true:=by rw [zzt];exact .inl (by decide)
  have q3:(0:Int)<12:=by decide
  have q4:(0:Int)<12/\(12:Int)<1073741824:=by decide
  have ew:=BS (v:=m/12) (by omega) (by omega)
  have Ni:(("#":Str))=⟨#[35]⟩:=by decide+kernel
  by_cases hm:m%12<sh
  ·refine⟨[.val (dC ns),.val (.int 0),.val (.int q),.val (.int a),.val (.int b),.val (.int sh),.val (.int tp),.own own,.val (.int i),.val (.str (z++"#")),.val (.int j),.val (.int m)],?_,_,_,_,?_,?_,rfl⟩
   ·have l:z.length+(("#":Str)).length<=cK:=zzU (show _<=8 by rw [Ni];show z.length+1<=8;omega) (by decide)
    simp! only [DE,q1,q2,q3,q4,em,hm,decide_true,l,and_self]
   ·rw [Str.length_append,Ni];show z.length+1=_;omega
   ·rw [Ni];show∀x∈(z.cps++#[35]).toList,_;intro x hx;simp! [Array.toList_append,List.mem_append,zzi] at hx;rcases hx with hx|hx
    ·exact hd x hx
    ·exact .inl hx
  ·refine⟨[.val (dC ns),.val (.int 0),.val (.int q),.val (.int a),.val (.int b),.val (.int sh),.val (.int tp),.own own,.val (.int i),.val (.str (z++⟨#[48+(m/12).toNat]⟩)),.val (.int j),.val (.int m)],?_,_,_,_,?_,?_,rfl⟩
   ·have l:z.length+(⟨#[48+(m/12).toNat]⟩:Str).length<=cK:=zzU (show z.length+1<=8 by omega) (by decide)
    simp! only [DE,q1,q2,q3,q4,em,hm,decide_false,l,and_self,ew]
   ·rw [Str.length_append];show z.length+1=_;omega
   ·show∀x∈(z.cps++#[48+(m/12).toNat]).toList,_
    intro x hx;simp! [Array.toList_append,List.mem_append,zzi] at hx;rcases hx with hx|hx
    ·exact hd x hx
    ·exact .inr (by omega))
 refine⟨z,Dw,DF,?_,hd,e⟩
 simpa [dh] using hz
def vb(F:aM)(hp:iM F)(ns:List Int)(q:Int)(Sd:1<=q)(OD:q<=6):∃ae w,Fl ae w/\aq F bZ [dC ns,.int 0,.int q]=.ok (fl ae):=by
 obtain⟨a,ea,a0,a6⟩:=hp ns 0 q (by decide) (by omega)
 obtain⟨b,eb,b0,b6⟩:=hp ns (0+1) q (by decide) (by omega)
 obtain⟨c,ec,c0,c4⟩:=hp ns (0+2) 4 (by decide) (by decide)
 obtain⟨d,ed,d0,d4⟩:=hp ns (0+3) 4 (by decide) (by decide)
 obtain⟨sh,es,hs⟩:=nT (a:=0) (b:=2) (c:=4) (d:=6) c0 c4
 obtain⟨tp,et,ht⟩:=nT (a:=1) (b:=2) (c:=3) (d:=10) d0 d4
 have t1:1<=tp:=by omega
 have t2:tp<=10:=by omega
 have sa:aE (1+a)=true:=by simp! [aE,zza,zzN];omega
 have sb:aE (1+b)=true:=by simp! [aE,zza,zzN];omega
 obtain⟨ag,e,ae,s8,s9,iF,eG,hl,hr,hd,rfl⟩:=bj (body:=λx env=>((Tg.one 8).put x env).bind λag=>aB F Ha ag)
  (P:=λi env=>∃(ae:List Str) (s8 s9 iF eG:Ci.Slot),ae.length=i/\(∀z∈ae,z.length=(1+b).toNat)/\(∀z∈ae,∀x∈z.cps.toList,x=35\/(48<=x/\x<=57))/\env=[.val (dC ns),.val (.int 0),.val (.int q),.val (.int (1+a)),.val (.int (1+b)),.val (.int sh),.val (.int tp),.own (.lst (ae.map .str)),s8,s9,iF,eG])
  (dh 0 (1+a).toNat) 0 [.val (dC ns),.val (.int 0),.val (.int q),.val (.int (1+a)),.val (.int (1+b)),.val (.int sh),.val (.int tp),.own (.lst []),.no,.no,.no,.no] ⟨[],_,_,_,_,rfl,(λz hz=>by cases hz),(λz hz=>by cases hz),rfl⟩ (by
  intro i x env hx hq;obtain⟨hi,rfl⟩:=rJ hx
  obtain⟨ae,s8,s9,iF,eG,hl,hr,hd,rfl⟩:=hq
  obtain⟨z,Dw,DF,hz,hzd,e⟩:=Fe F hp ns q (1+a) (1+b) sh tp (by omega) OD t1 t2 (.lst (ae.map .str)) i (1+b).toNat (by omega) iF eG
  have l:(ae.map PV.str).length<cK:=zzV (m:=6) (by simp! [zzl];omega) (by decide)
  refine⟨[.val (dC ns),.val (.int 0),.val (.int q),.val (.int (1+a)),.val (.int (1+b)),.val (.int sh),.val (.int tp),.own (.lst ((ae++[z]).map .str)),.val (.int i),.val (.str z),Dw,DF],?_,ae++[z],_,_,_,_,by simp;omega,?_,?_,rfl⟩
  ·have e':=e
   simp! only [DE] at e';simp! [zzl] at l;simp! only [Ha,DE,sb,e',zzl,l,List.map_append]
  ·intro y hy;simp! [List.mem_append,zzi] at hy;rcases hy with hy|rfl
   ·exact hr y hy
   ·exact hz
  ·intro y hy;simp! [List.mem_append,zzi] at hy;rcases hy with hy|rfl
   ·exact hd y hy
   ·exact hzd)
 have qQ:ae.length=(1+a).toNat:=by simpa [dh] using hl
 refine⟨ae,(1+b).toNat,⟨⟨by omega,λz hz=>by rw [hr z hz];omega⟩,by omega,by omega,hr,hd⟩,?_⟩
 simp! only [Ha,DE] at e;simp! only [bZ,bZ,ea,eb,ec,ed,es,et,sa,e]
def b9(ae:List Str)(r c:Int):Int:=match cd ae r.toNat c.toNat with
 |some x=>(x:Int)-48
 |none=>0
def y3{ae:List Str}{r c:Int}(h:b7 ae r c=true):∃(i j x:Nat),r=i/\c=j/\cd ae i j=some x/\x≠35:=by
 obtain⟨h0,h1,h2⟩:=gV.1 h
 obtain⟨i,rfl⟩:=zzw h0
 obtain⟨j,rfl⟩:=zzw h1
 simp! [zz4,uB] at h2;cases hc:cd ae i j with
 |none=>rw [hc] at h2;cases h2
 |some x=>
  rw [hc] at h2;exact⟨i,j,x,rfl,rfl,hc,by simpa using h2⟩
def FL{ae:List Str}{w:Nat}(L:Fl ae w){i j x:Nat}(h:cd ae i j=some x):x=35\/(48<=x/\x<=57):=by
 unfold cd at h;cases hz:ae[i]? with
 |none=>rw [hz] at h;cases h
 |some z=>
  rw [hz] at h;exact L.dig z (zzD hz) x (zzD h)
def kI{ae:List Str}{w:Nat}(L:Fl ae w){r c:Int}(h:b7 ae r c=true):∃z x,aF (fl ae) (.int r)=.ok (.str z)/\aF (.str z) (.int c)=.ok (.str ⟨#[x]⟩)/\bJ .int [.str ⟨#[x]⟩]=.ok (.int (b9 ae r c))/\0<=b9 ae r c/\b9 ae r c<=9:=by
 obtain⟨i,j,x,rfl,rfl,hc,hx⟩:=y3 h
 obtain⟨z,_,e1,e2⟩:=zB L.uV hc
 have hd:=(FL L hc).resolve_left hx
 have hh:b9 ae i j=(x:Int)-48:=by simp! [b9,zz4,hc]
 refine⟨z,x,e1,e2,?_,?_⟩
 ·rw [hh];exact Dg hd.1 hd.2
 ·rw [hh];omega
noncomputable def cR(ae:List Str)(sl:Bool)(cl pr:Int)(r c r' c':Int):Option Int:=
 if(r=r'/\c=c')\/1<r-r'\/1<r'-r\/1<c-c'\/1<c'-c then none
 else if(r≠r'/\c≠c')/\¬(sl=true/\b7 ae r c'=true/\b7 ae r' c=true) then none
 else if cl<b9 ae r' c'-b9 ae r c\/cl<b9 ae r c-b9 ae r' c' then none
 else some ((if r≠r'/\c≠c' then 3 else 2)+pr*(if b9 ae r' c'-b9 ae r c>0 then b9 ae r' c'-b9 ae r c else 0))
def oP:Option Int->PV
 |none=>.aA
 |some i=>.int i
def fW(r c r' c':Int):Prop:=(r=r'/\c=c')\/1<r-r'\/1<r'-r\/1<c-c'\/1<c'-c
instance(r c r' c':Int):Decidable (fW r c r' c'):=by unfold fW;infer_instance
def uQ(F:aM)(r c r' c':Int):aq F cC [sp r c,sp r' c']=.ok (.bl (!decide (fW r c r' c'))):=by
 simp! only [cC,JA,IE,aI,nS];have key:∀(a b d:Bool),(Res.ok (PV.bl a)).bind (λx=>lE x λt=>if t then(Res.ok (PV.bl b)).bind (λx=>lE x λt=>if t then Res.ok (PV.bl d) else Res.ok (PV.bl false)) else Res.ok (PV.bl false))=Res.ok (PV.bl (a&&(b&&d))):=by
  intro a b d;cases a<;>cases b<;>cases d<;>rfl
 by_cases h1:r=r'/\c=c'
 ·obtain⟨rfl,rfl⟩:=h1
  have:fW r c r c:=.inl ⟨rfl,rfl⟩
  simp [aq,bT,bR,aB,f6,aC,c8,ua,oX,eZ,f7,gF,List.replicate,Nat.reduceAdd,Nat.reduceSub,reduceIte,ite_true,ite_false,BEq.rfl,beq_self_eq_true,J,this]
 ·have b1:(!((r==r')&&((c==c')&&true)))=true:=by
   cases hh:((r==r')&&((c==c')&&true)) with
   |false=>rfl
   |true=>exact absurd (by simpa using hh) h1
  simp! only [b1]
  by_cases h2:(if r-r'<0 then -(r-r') else r-r')<=1
  ·by_cases h3:(if c-c'<0 then -(c-c') else c-c')<=1
   ·have:¬fW r c r' c':=by
     rintro (h|h|h|h|h)
     ·exact h1 h
     all_goals (split at h2<;>split at h3<;>omega)
    simp! only [h2,h3,this,decide_true,decide_false]
   ·have:fW r c r' c':=by
     unfold fW;split at h3<;>omega
    simp! only [h2,h3,this,decide_true,decide_false]
  ·have:fW r c r' c':=by
    unfold fW;split at h2<;>omega
   simp! only [h2,this,decide_true,decide_false]
def o8(F:aM):Prop:=∀ae,pf ae->∀r c,F "is_open" [fl ae,sp r c]=.ok (.bl (b7 ae r c))
def vi(F:aM)(hn:∀ae,pf ae->∀r c,b7 ae r c=true->F "need_open" [fl ae,sp r c]=.ok .aA){ae:List Str}{w:Nat}(L:Fl ae w){r c:Int}(h:b7 ae r c=true):aq F cP [fl ae,sp r c]=.ok (.int (b9 ae r c)):=by
 obtain⟨z,x,e1,e2,e3,_⟩:=kI L h
 simp! only [cP,hn ae L.uV r c h,JA,IE,e1,e2,e3]
def rf(F:aM)(ho:o8 F){ae:List Str}(R:pf ae)(r c r' c':Int):aq F aX [fl ae,sp r c,sp r' c']=.ok (.bl (b7 ae r c'&&b7 ae r' c)):=by
 simp! only [aX,JA,IE,ho ae R];cases b7 ae r c'<;>simp! only [Bool.false_and,Bool.true_and]
def mj{i j:Int}(h0:0<=i)(h1:i<4):(aN i||aN j)=true:=by
 have:aN i=true:=by simp! [aN,zza,zzN];omega
 rw [this];rfl
structure Wk(cl pr:Int):Prop where
 c0:0<=cl
 p0:0<=pr
 p4:pr<4
 c9:cl<=9
def Ak(F:aM)(hb:∀r c r' c',F "are_beside" [sp r c,sp r' c']=.ok (.bl (!decide (fW r c r' c'))))(hk:∀ae,pf ae->∀r c r' c',F "has_open_corners" [fl ae,sp r c,sp r' c']=.ok (.bl (b7 ae r c'&&b7 ae r' c)))
 (hh:∀ae w,Fl ae w->∀r c,b7 ae r c=true->F "height_at" [fl ae,sp r c]=.ok (.int (b9 ae r c))) {ae:List Str} {w:Nat} (L:Fl ae w) {sl:Bool} {cl pr:Int} (V:Wk cl pr) {r c r' c':Int} (h:b7 ae r c=true) (h':b7 ae r' c'=true):
 aq F bh [fl ae,wk sl cl pr,sp r c,sp r' c']=.ok (oP (cR ae sl cl pr r c r' c')):=by
 have e1:=hh ae w L r c h
 have e2:=hh ae w L r' c' h'
 have e3:=hk ae L.uV r c r' c'
 have e4:=hb r c r' c'
 by_cases h1:fW r c r' c'
 ·have:cR ae sl cl pr r c r' c'=none:=if_pos h1
  simp! only [bh,e4,h1,decide_true,this,oP]
 ·have q1:cR ae sl cl pr r c r' c'=_:=if_neg h1
  rw [q1];have ms:=λj=>mj (j:=j) V.p0 V.p4
  obtain⟨s,hs⟩:∃s,((!(r==r'))&&!(c==c'))=s:=⟨_,rfl⟩
  have Lm:s=true↔r≠r'/\c≠c':=by rw [<-hs];simp
  have ia:∀{t u:Bool},(if t=true then Res.ok (PV.bl u) else Res.ok (PV.bl false))=Res.ok (PV.bl (t&&u)):=λ{t u}=>by cases t<;>rfl
  have ii:(if s=true then Res.ok (PV.int 3) else Res.ok (PV.int 2))=Res.ok (PV.int (if r≠r'/\c≠c' then 3 else 2)):=by
   by_cases n3:r≠r'/\c≠c'
   ·rw [if_pos (Lm.2 n3),if_pos n3]
   ·rw [if_neg (λz=>n3 (Lm.1 z)),if_neg n3]
  have mx:(if(0:Int)>b9 ae r' c'-b9 ae r c then 0 else b9 ae r' c'-b9 ae r c)=(if b9 ae r' c'-b9 ae r c>0 then b9 ae r' c'-b9 ae r c else 0):=by
   split<;>split<;>omega
  have cc:(if sl=true then Res.ok (PV.bl (b7 ae r c'&&b7 ae r' c)) else Res.ok (PV.bl false))=Res.ok (PV.bl (sl&&(b7 ae r c'&&b7 ae r' c))):=ia
  by_cases hblk:(r≠r'/\c≠c')/\¬(sl=true/\b7 ae r c'=true/\b7 ae r' c=true)
  ·rw [if_pos hblk];have hB:(!(sl&&(b7 ae r c'&&b7 ae r' c)))=true:=by
    rw [Bool.not_eq_true',Bool.eq_false_iff];intro z;rw [zza,zza] at z;exact hblk.2 z
   simp! only [bh,e4,e3,h1,decide_false,ia,hs,Lm.2 hblk.1,hB,Bool.and_self,oP]
  ·rw [if_neg hblk];have hB:(s&&!(sl&&(b7 ae r c'&&b7 ae r' c)))=false:=by
    rw [Bool.eq_false_iff];intro z;rw [zza,Bool.not_eq_true',Bool.eq_false_iff] at z;exact hblk ⟨Lm.1 z.1,λy=>z.2 (by rw [zza,zza];exact y)⟩
   by_cases hq:cl<(if b9 ae r' c'-b9 ae r c<0 then -(b9 ae r' c'-b9 ae r c) else b9 ae r' c'-b9 ae r c)
   ·have hz:cl<b9 ae r' c'-b9 ae r c\/cl<b9 ae r c-b9 ae r' c':=by split at hq<;>omega
    simp! only [bh,e4,e3,e1,e2,h1,decide_false,ia,hs,hB,oP,hq,decide_true,if_pos hz]
   ·have hz:¬(cl<b9 ae r' c'-b9 ae r c\/cl<b9 ae r c-b9 ae r' c'):=by split at hq<;>omega
    simp! only [bh,e4,e3,e1,e2,h1,decide_false,ia,hs,hB,oP,hq,if_neg hz,ii,ms,mx]
def Kt{ae:List Str}{w:Nat}(L:Fl ae w){i j:Nat}(hi:i<ae.length)(hj:j<w):∃x,cd ae i j=some x:=by
 have hz:ae[i]?=some ae[i]:=zzg hi
 have hl:=L.zY _ (zzD hz)
 refine⟨(ae[i]).cps.toList[j]'(by simp! [zzd];rw [<-hl] at hj;exact hj),?_⟩;unfold cd;rw [hz];exact zzg _
def iE{ae:List Str}{w:Nat}(L:Fl ae w){r c:Int}(h:b7 ae r c=true):0<=r/\r<ae.length/\0<=c/\c<w:=by
 obtain⟨i,j,x,rfl,rfl,hc,_⟩:=y3 h
 unfold cd at hc;cases hz:ae[i]? with
 |none=>rw [hz] at hc;cases hc
 |some z=>
  rw [hz] at hc;have h1:=(zzH.1 hz).1
  have h2:=(zzH.1 hc).1
  have hl:=L.zY _ (zzD hz)
  simp! [zzd] at h2;have:z.cps.size=z.length:=rfl
  omega
abbrev kN(p:Nat×Nat):List Int:=[(p.1:Int),(p.2:Int)]
abbrev Up(L:List (Nat×Nat)):Prop:=L.Pairwise λp q=>HT.lexLt (kN p) (kN q)=true
def qW:Up []:=.nil
def Oc{p q:Nat×Nat}(h:p.1<q.1\/p.1=q.1/\p.2<q.2):HT.lexLt (kN p) (kN q)=true:=by
 simp! [HT.lexLt];rcases h with h|⟨h1,h2⟩
 ·rw [if_neg (by omega)];exact zzh (by omega)
 ·rw [if_pos (by omega),if_neg (by omega)];exact zzh (by omega)
abbrev vY(p:Nat×Nat):PV:=sp p.1 p.2
theorem ik:∀{xs:List PV} {k i:Nat} {x:PV},(bX k xs)[i]?=some x->∃y,xs[i]?=some y/\x=.tup [.int ((k+i:Nat):Int),y]
 |[],_,_,_,h=>by cases h
 |y::ys,k,0,x,h=>by
  simp! [bX,List.getElem?_cons_zero,Option.some.injEq] at h;exact⟨y,rfl,h.symm⟩
 |y::ys,k,i+1,x,h=>by
  simp! [bX,List.getElem?_cons_succ] at h;obtain⟨w,h1,h2⟩:=ik h
  refine⟨w,h1,?_⟩;rw [h2,show k+1+i=k+(i+1) by omega]
theorem bQ:∀(xs:List PV) (k:Nat),(bX k xs).length=xs.length
 |[],_=>rfl
 |x::xs,k=>by simp! [bX,zzL,bQ xs]
theorem lC{f:PV->Res (Option PV)}{r:Nat}(hf:∀c x:Nat,f (.tup [.int c,.str ⟨#[x]⟩])=.ok (if x !=35 then some (sp r c) else none)):∀(xs:List Nat) (k:Nat),∃L:List (Nat×Nat),aD f (bX k (xs.map λx=>.str ⟨#[x]⟩))=.ok (L.map vY)/\Up L/\L.length<=xs.length/\∀a b,(a,b)∈L↔a=r/\k<=b/\∃x,xs[b-k]?=some x/\x≠35
 |[],k=>⟨[],rfl,qW,zzE _,λa b=>by simp⟩
 |x::xs,k=>by
  obtain⟨L,e,nd,l,h⟩:=lC hf xs (k+1)
  by_cases hx:x=35
  ·refine⟨L,?_,nd,Nat.le_succ_of_le l,λa b=>?_⟩
   ·have:(x !=35)=false:=by simp [hx]
    simp! [zzF,bX,aD,hf,this,HG,m8,e,oc]
    rfl
   ·rw [h]
    constructor
    ·rintro ⟨h1,h2,y,h3,h4⟩
     refine⟨h1,by omega,y,?_,h4⟩;rw [show b-k=(b-(k+1))+1 by omega];exact h3
    ·rintro ⟨h1,h2,y,h3,h4⟩
     have:b≠k:=by
      rintro rfl
      simp at h3;omega
     refine⟨h1,by omega,y,?_,h4⟩;rw [show b-k=(b-(k+1))+1 by omega] at h3;exact h3
  ·refine⟨(r,k)::L,?_,List.pairwise_cons.2 ⟨(λp hp=>Oc (by have:=(h p.1 p.2).1 hp;omega)),nd⟩,Nat.succ_le_succ l,λa b=>?_⟩
   ·have:(x !=35)=true:=by simp [hx]
    simp! [zzF,bX,aD,hf,this,HG,m8,e,oc,if_true]
   ·rw [zzm,h]
    constructor
    ·rintro (h1|⟨h1,h2,y,h3,h4⟩)
     ·cases h1;exact⟨rfl,zzE _,x,by simp,hx⟩
     ·refine⟨h1,by omega,y,?_,h4⟩;rw [show b-k=(b-(k+1))+1 by omega];exact h3
    ·rintro ⟨h1,h2,y,h3,h4⟩
     by_cases hb:b=k
     ·subst hb;subst h1;exact .inl rfl
     ·refine .inr ⟨h1,by omega,y,?_,h4⟩;rw [show b-k=(b-(k+1))+1 by omega] at h3;exact h3
def jy{ae:List Str}{r c:Nat}:uB ae r c=true↔∃z,ae[r]?=some z/\∃x,z.cps.toList[c]?=some x/\x≠35:=by
 unfold uB cd;cases hz:ae[r]? with
 |none=>simp
 |some z=>
  simp! [Option.bind_some];cases hx:z.cps.toList[c]? with
  |none=>
   refine⟨(λh=>by cases h),?_⟩
   rintro ⟨w,hw,x,qO,_⟩
   cases hw;rw [hx] at qO;cases qO
  |some x=>
   refine⟨λh=>⟨z,rfl,x,hx,by simpa using h⟩,?_⟩
   rintro ⟨w,hw,y,hy,h⟩
   cases hw;rw [hx] at hy;cases hy
   simpa using h
def xI:Ss:=#v[.pH 1 (.bC 2 [2] (.two 0 1) (.enum (!3)) (.cmp .ne (!1) (.cst (.str "#"))) (.tup #v[!2,!0]))]
def tM(F:aM):Prop:=∀ae,pf ae->∃L:List (Nat×Nat),F "_law_spots" [fl ae]=.ok (.lst (L.map vY))/\Up L/\L.length<=36/\∀r c,(r,c)∈L↔uB ae r c=true
def w8(F:aM)(ae:List Str)(R:pf ae):∃L:List (Nat×Nat),aq F bb [fl ae]=.ok (.lst (L.map vY))/\Up L/\L.length<=36/\∀r c,(r,c)∈L↔uB ae r c=true:=by
 have Q0:=R.1
 obtain⟨ag,e,L,s2,s3,nd,hl,hm,rfl⟩:=bj (body:=λx env=>((Tg.two 2 3).put x env).bind λag=>aB F xI ag) (P:=λi env=>∃(L:List (Nat×Nat)) (s2 s3:Slot),Up L/\L.length<=6*i/\(∀r c,(r,c)∈L↔r<i/\uB ae r c=true)/\env=[.val (fl ae),.own (.lst (L.map vY)),s2,s3])
  (bX 0 (ae.map .str)) 0 [.val (fl ae),.own (.lst []),.no,.no] ⟨[],_,_,qW,zzE _,(λr c=>by simp),rfl⟩ (by
  intro i x env hx hq;obtain⟨y,hy,rfl⟩:=ik hx
  obtain⟨L,s2,s3,nd,hl,hm,rfl⟩:=hq
  simp! [zzQ,zzJ] at hy;obtain⟨z,hz,rfl⟩:=hy
  have HR:=R.2 z (zzD hz)
  have hi:i<ae.length:=(zzH.1 hz).1
  obtain⟨M,eM,nM,lM,hM⟩:=lC (f:=λx=>((Tg.two 0 1).put x [.no,.no,.val (.int i)]).bind λag=>((mJ ag[1]?).bind λx=>fC x (.str "#")).bind λt=>lE t λt=>if t then(((mJ ag[2]?).bind λp=>((mJ ag[0]?).bind λp=>.ok [p]).bind λps=>.ok (p::ps)).bind λps=>.ok (.tup ps)).bind λy=>.ok (some y) else .ok none) (r:=i) (λc x=>by
   simp! only [sC];cases(x !=35)<;>rfl) z.cps.toList 0
  have lz:(bX 0 (chars z)).length<cK:=by
   rw [bQ];refine zzV (m:=6) ?_ (by decide)
   simpa [chars,Str.length] using HR
  have ll:(L.map vY).length+(M.map vY).length<=cK:=by
   refine zzU (m:=100) ?_ (by decide);simp! [zzl];have:z.cps.toList.length=z.length:=by simp [Str.length]
   omega
  refine⟨[.val (fl ae),.own (.lst ((L++M).map vY)),.val (.int i),.val (.str z)],?_,L++M,_,_,List.pairwise_append.2 ⟨nd,nM,λa ha b hb=>Oc (.inl (by have h1:=((hm a.1 a.2).1 ha).1;have h2:=((hM b.1 b.2).1 hb).1;omega))⟩,?_,?_,rfl⟩
  ·simp! only [xI,Lr,Nat.zero_add,lz];rw [show chars z=z.cps.toList.map λx=>PV.str ⟨#[x]⟩ from rfl,eM]
   simp! only [ll,List.map_append]
  ·have:z.cps.toList.length=z.length:=by simp [Str.length]
   simp! [zzM];omega
  ·intro r c;rw [List.mem_append,hm,hM,jy]
   constructor
   ·rintro (⟨h1,h2⟩|⟨rfl,_,x,h3,h4⟩)
    ·exact⟨by omega,h2⟩
    ·exact⟨by omega,z,hz,x,h3,h4⟩
   ·rintro ⟨h1,w,h2,x,h3,h4⟩
    by_cases hr:r=i
    ·subst hr;rw [hz] at h2;cases h2;exact .inr ⟨rfl,Nat.zero_le _,x,h3,h4⟩
    ·exact .inl ⟨by omega,w,h2,x,h3,h4⟩)
 refine⟨L,?_,nd,(by rw [bQ,zzl] at hl;omega),λr c=>?_⟩
 ·simp! only [xI] at e;simp! only [bb,K8,e,List.modify_succ_cons,List.modify_zero_cons,vg]
 ·rw [hm];refine⟨λh=>h.2,λh=>⟨?_,h⟩⟩
  obtain⟨z,hz,_⟩:=jy.1 h
  have:=(zzH.1 hz).1
  rw [bQ,zzl];omega
def vO(F:aM)(hp:iM F)(ns:List Int)(k:Int)(hk:0<=k):∃sl cl pr,Wk cl pr/\aq F cj [dC ns,.int k]=.ok (wk sl cl pr):=by
 obtain⟨a,ea,a0,a2⟩:=hp ns k 2 hk (by decide)
 obtain⟨b,eb,b0,b4⟩:=hp ns (k+1) 4 (by omega) (by decide)
 obtain⟨c,ec,c0,c4⟩:=hp ns (k+2) 4 (by omega) (by decide)
 obtain⟨v,ev,hv⟩:=nT (a:=0) (b:=1) (c:=2) (d:=9) b0 b4
 refine⟨(a==0),v,c,⟨by omega,c0,c4,by omega⟩,?_⟩;simp! only [cj,ea,eb,ec,ev]
theorem fG{α σ:Type}{body:PV->Sl->Res Ci.Fl}{g:α->PV}{mk:List PV->σ->Sl}{app:α->List PV}{m M:Nat}:∀(l:List α) (acc:List PV) (s:σ),(∀a∈l,(app a).length<=m)->(∀a∈l,∀acc s,acc.length+m<=M->∃s',body (g a) (mk acc s)=.ok (.nx (mk (acc++app a) s')))->acc.length+m*l.length<=M->∃s',forL body (l.map g) (mk acc s)=.ok (.nx (mk (acc++l.flatMap app) s'))
 |[],acc,s,_,_,_=>⟨s,by simp [forL]⟩
 |a::l,acc,s,h1,h2,h3=>by
  have ha:=h1 a (zzP ..)
  rw [zzL,Nat.mul_succ] at h3;obtain⟨s1,e1⟩:=h2 a (zzP ..) acc s (by omega)
  obtain⟨s2,e2⟩:=fG l (acc++app a) s1 (λb hb=>h1 b (zzI _ hb)) (λb hb=>h2 b (zzI _ hb)) (by rw [zzM];omega)
  refine⟨s2,?_⟩;simp! [zzF,forL,e1,m8,e2,List.flatMap_cons,List.append_assoc]
def fx(x:Int):List Int:=[x-1+(0:Nat),x-1+(1:Nat),x-1+(2:Nat)]
def Jn(x:Int):dh (x-1) (x+2-(x-1)).toNat=(fx x).map .int:=by
 rw [show(x+2-(x-1)).toNat=3 by omega]
 rfl
def oI:Ss:=#v[.ite (.and (.cmp .ne (.tup #v[!3,!4]) (!1)) (.call "is_open" #v[!0,.tup #v[!3,!4]])) #v[.app 2 (.tup #v[!3,!4])] .nil]
def oO:Ss:=#v[.bD (.one 4) (.kH (.bin .sub (.sub (!1) (¬1)) (¬1)) (.bin .add (.sub (!1) (¬1)) (¬2))) oI]
def zP(ae:List Str)(r c r' c':Int):Bool:=!((r'==r)&&((c'==c)&&true))&&b7 ae r' c'
def qc(ae:List Str)(r c r':Int):List (Int×Int):=(fx c).flatMap λc'=>if zP ae r c r' c' then [(r',c')] else []
def og(ae:List Str)(r c:Int):List (Int×Int):=(fx r).flatMap (qc ae r c)
def gY(ae:List Str)(r c r':Int):(qc ae r c r').length<=3:=by
 have:∀c',(if zP ae r c r' c' then [(r',c')] else []).length<=1:=λc'=>by split<;>simp
 simp! [qc,fx,List.flatMap_cons,List.flatMap_nil,zzM,List.length_nil];have h1:=this (c-1+(0:Nat));have h2:=this (c-1+(1:Nat));have h3:=this (c-1+(2:Nat))
 omega
def pO(ae:List Str)(r c:Int):(og ae r c).length<=9:=by
 simp! [og,fx,List.flatMap_cons,List.flatMap_nil,zzM,List.length_nil];have h1:=gY ae r c (r-1+(0:Nat));have h2:=gY ae r c (r-1+(1:Nat));have h3:=gY ae r c (r-1+(2:Nat))
 omega
def ly{ae:List Str}{r c r' c':Int}:(r',c')∈og ae r c↔¬fW r c r' c'/\b7 ae r' c'=true:=by
 have hn:∀x y:Int,y∈fx x↔¬1<x-y/\¬1<y-x:=by
  intro x y;simp! [fx,zzm,List.not_mem_nil,or_false];omega
 simp! [og,qc,List.mem_flatMap,hn]
 constructor
 ·rintro ⟨a,ha,b,hb,h⟩
  split at h
  ·rename_i hk;simp! [zzi,Prod.mk.injEq] at h;obtain⟨rfl,rfl⟩:=h
   simp! [zP,zza,Bool.not_eq_true',Bool.and_true] at hk;refine⟨?_,hk.2⟩;unfold fW;have h1:=hk.1
   rw [Bool.and_eq_false_iff] at h1;simp! [beq_eq_false_iff_ne,ne_eq] at h1;omega
  ·cases h
 ·rintro ⟨hf,ho⟩
  unfold fW at hf;refine⟨r',by omega,c',by omega,?_⟩;have:zP ae r c r' c'=true:=by
   simp! [zP,ho,Bool.and_true,Bool.not_eq_true',Bool.and_eq_false_iff,beq_eq_false_iff_ne,ne_eq];omega
  rw [if_pos this];exact zzi.2 rfl
def kW{r:Int}(h0:0<=r)(h6:r<6):(aE (r-1)&&aE (r+2))=true:=by
 simp! [aE,zza,zzN];omega
def Fn(F:aM)(ho:o8 F){ae:List Str}(R:pf ae){r c:Int}(RE:0<=r)(hr:r<6)(Ry:0<=c)(hc:c<6):
 aq F aV [fl ae,sp r c]=.ok (.lst ((og ae r c).map Dq)):=by
 have inner:∀(r':Int) (acc:List PV) (s4:Ci.Slot),acc.length+3<=50->∃N2,forL (λx env=>((Tg.one 4).put x env).bind λag=>aB F oI ag) ((fx c).map .int) [.val (fl ae),.val (sp r c),.own (.lst acc),.val (.int r'),s4]=.ok (.nx [.val (fl ae),.val (sp r c),.own (.lst (acc++(qc ae r c r').map Dq)),.val (.int r'),N2]):=by
  intro r' acc s4 hl;obtain⟨s',e⟩:=fG (body:=λx env=>((Tg.one 4).put x env).bind λag=>aB F oI ag) (g:=PV.int) (mk:=λacc (s:Ci.Slot)=>[.val (fl ae),.val (sp r c),.own (.lst acc),.val (.int r'),s]) (app:=λc'=>if zP ae r c r' c' then [sp r' c'] else []) (m:=1) (M:=60) (fx c) acc s4 (λc' _=>by split<;>simp) (λc' _ acc s hl=>by
   have l:acc.length<cK:=zzV (m:=60) (by omega) (by decide)
   refine⟨.val (.int c'),?_⟩;cases h1:(!((r'==r)&&((c'==c)&&true))) with
   |false=>simp! only [oI,h1,zP,Bool.false_and,zz6]
   |true=>
    cases h2:b7 ae r' c' with
    |false=>simp! only [oI,h1,h2,zP,ho ae R,Bool.and_false,zz6]
    |true=>simp! only [oI,h1,h2,zP,ho ae R,Bool.and_self,l]) (by show acc.length+1*3<=60;omega)
  have k:(fx c).flatMap (λc'=>if zP ae r c r' c' then [sp r' c'] else [])=(qc ae r c r').map Dq:=by
   simp! [qc,List.map_flatMap]
   congr 1
   funext c'
   split<;>rfl
  exact⟨s',by rw [e,k]⟩
 obtain⟨s',e⟩:=fG (body:=λx env=>((Tg.one 3).put x env).bind λag=>aB F oO ag) (g:=PV.int) (mk:=λacc (s:Ci.Slot×Ci.Slot)=>[.val (fl ae),.val (sp r c),.own (.lst acc),s.1,s.2]) (app:=λr'=>(qc ae r c r').map Dq) (m:=3) (M:=50) (fx r) [] (.no,.no) (λr' _=>by rw [zzl];exact gY ..) (λr' _ acc s hl=>by
  obtain⟨N2,e⟩:=inner r' acc s.2 hl
  refine⟨(.val (.int r'),N2),?_⟩;simp! only [oI] at e;simp! only [oO,oI,kW Ry hc,Jn,e]) (by show 0+3*3<=50;omega)
 simp! only [oO,oI] at e;simp! only [aV,kW RE hr,Jn,e,vg,og,List.map_flatMap]
def E1(ae:List Str)(sl:Bool)(cl pr:Int)(u v:List Int)(e:Int):Prop:=∃r c r' c',u=[r,c]/\v=[r',c']/\b7 ae r c=true/\b7 ae r' c'=true/\cR ae sl cl pr r c r' c'=some e
abbrev tK(t:List Int×Int):PV:=.tup [af t.1,.int t.2]
def rh(F:aM):Prop:=∀ae w,Fl ae w->∀sl cl pr,Wk cl pr->∀r c r' c',b7 ae r c=true->b7 ae r' c'=true->F "step_cost" [fl ae,wk sl cl pr,sp r c,sp r' c']=.ok (oP (cR ae sl cl pr r c r' c'))
def DL(F:aM):Prop:=∀ae,pf ae->∀r c,0<=r->r<6->0<=c->c<6->F "open_spots_beside" [fl ae,sp r c]=.ok (.lst ((og ae r c).map Dq))
def yw(F:aM):Prop:=∀ae,pf ae->∀r c,b7 ae r c=true->F "need_open" [fl ae,sp r c]=.ok .aA
def pX(f:List PV->Res PV):Prop:=∀ae w,Fl ae w->∀sl cl pr,Wk cl pr->∀r c,b7 ae r c=true->∃T:List (List Int×Int),f [fl ae,wk sl cl pr,af [r,c]]=.ok (.lst (T.map tK))/\T.length<=9/\∀v e,(v,e)∈T↔E1 ae sl cl pr [r,c] v e
def jr(F:aM):Prop:=pX (F "steps_from")
def Jv:Ss:=#v[.set 5 (.call "step_cost" #v[!0,!1,!2,!4]),.ite (.cmp .oB (!5) (.cst .aA)) #v[.app 3 (.tup #v[!4,!5])] .nil]
def DK{ae:List Str}{w:Nat}(L:Fl ae w){r c:Int}(h:b7 ae r c=true):0<=r/\r<6/\0<=c/\c<6:=by
 have h1:=iE L h
 have h2:=L.uV.1
 have h3:=L.uV.2 _ (List.getElem_mem L.ne)
 rw [L.zY _ (List.getElem_mem L.ne)] at h3;omega
def wB(F:aM)(hn:yw F)(hb:DL F)(hs:rh F):pX (aq F cG):=by
 intro ae w L sl cl pr V r c h;obtain⟨r0,r6,c0,c6⟩:=DK L h
 have HL:∀p:Int×Int,((cR ae sl cl pr r c p.1 p.2).toList.map λe=>(([p.1,p.2]:List Int),e)).length<=1:=λp=>by cases cR ae sl cl pr r c p.1 p.2<;>simp
 refine⟨(og ae r c).flatMap λp=>(cR ae sl cl pr r c p.1 p.2).toList.map λe=>([p.1,p.2],e),?_,?_,?_⟩
 ·obtain⟨s',e⟩:=fG (body:=λx env=>((Tg.one 4).put x env).bind λag=>aB F Jv ag) (g:=Dq) (mk:=λacc (s:Ci.Slot×Ci.Slot)=>[.val (fl ae),.val (wk sl cl pr),.val (sp r c),.own (.lst acc),s.1,s.2]) (app:=λp=>((cR ae sl cl pr r c p.1 p.2).toList.map λe=>(([p.1,p.2]:List Int),e)).map tK) (m:=1) (M:=50) (og ae r c) [] (.no,.no) (λp _=>by rw [zzl];exact HL p) (λp hp acc s hl=>by
   have l:acc.length<cK:=zzV (m:=50) (by omega) (by decide)
   have e:=hs ae w L sl cl pr V r c p.1 p.2 h (ly.1 hp).2
   cases hq:cR ae sl cl pr r c p.1 p.2 with
   |none=>
    rw [hq] at e;have e5:eE .aA .aA=.ok (.bl false):=rfl
    simp! [oP] at e;exact⟨(.val (Dq p),.val .aA),by simp! only [Jv,e,e5,Option.toList_none,zz6]⟩
   |some v=>
    rw [hq] at e;have e5:eE (.int v) .aA=.ok (.bl true):=rfl
    simp! [oP] at e;exact⟨(.val (Dq p),.val (.int v)),by simp! only [Jv,e,e5,Option.toList_some,l];rfl⟩) (by
   have:=pO ae r c
   show 0+1*_<=50
   omega)
  have k:af [r,c]=sp r c:=rfl
  simp! only [Jv] at e;simp! only [k,cG,hn ae L.uV r c h,hb ae L.uV r c r0 r6 c0 c6,e,vg,List.map_flatMap]
 ·have:=pO ae r c
  have key:∀l:List (Int×Int),(l.flatMap λp=>(cR ae sl cl pr r c p.1 p.2).toList.map λe=>(([p.1,p.2]:List Int),e)).length<=l.length:=by
   intro l
   induction l with
   |nil=>exact zzE _
   |cons p l ih=>
    have:=HL p
    simp! [List.flatMap_cons,zzM,zzL];omega
  exact zzU (key _) this
 ·intro v e;simp! [List.mem_flatMap,zzx,Option.mem_toList,Option.mem_def,Prod.mk.injEq]
  constructor
  ·rintro ⟨p,hp,e',he,rfl,rfl⟩
   exact⟨r,c,p.1,p.2,rfl,rfl,h,(ly.1 hp).2,he⟩
  ·rintro ⟨a,b,r',c',hu,rfl,_,ho,he⟩
   cases hu;refine⟨(r',c'),ly.2 ⟨λhf=>?_,ho⟩,e,he,rfl,rfl⟩
   rw [show cR ae sl cl pr r c r' c'=none from if_pos hf] at he;cases he
abbrev Ks:=List (List Int)
theorem eQ:∀k:List Int,intsOf (k.map .int)=some k
 |[]=>rfl
 |i::k=>by simp! [zzF,intsOf,eQ k,Option.map_some]
def dm(k:List Int):eN (af k)=some k:=eQ k
theorem fR{α:Type}:∀{ks:List (List Int)} {vs:List α} (k:List Int),ks.length=vs.length->da ks k=(aW ks vs k).isSome
 |[],[],_,_=>rfl
 |k'::ks,v::vs,k,h=>by
  have ih:=fR (ks:=ks) (vs:=vs) k (by simpa using h)
  by_cases e:k'=k
  ·simp [da,aW,e]
  ·simp! [da] at ih;simp [da,aW,e,ih]
theorem qo{α:Type}(k:List Int)(p:α):∀(ks:List (List Int)) (vs:List α) (x:List Int),aW ks (List.zipWith (λk' v=>if k'=k then p else v) ks vs) x=(aW ks vs x).map λv=>if x=k then p else v
 |[],_,_=>by simp [aW]
 |_::_,[],_=>by simp [aW]
 |k'::ks,v::vs,x=>by
  simp! [List.zipWith_cons_cons,aW,qo k p ks vs x]
  by_cases e:k'=x
  ·subst e;simp
  ·simp [e]
theorem mr{α:Type}(k:List Int)(p:α):∀(ks:List (List Int)) (vs:List α) (x:List Int),ks.length=vs.length->aW (ks++[k]) (vs++[p]) x=(aW ks vs x).or (if k=x then some p else none)
 |[],[],x,_=>by simp [aW]
 |k'::ks,v::vs,x,h=>by
  simp! [List.cons_append,aW,mr k p ks vs x (by simpa using h)];split<;>simp
def j8{α:Type}{ks:List (List Int)}{vs:List α}(h:ks.length=vs.length)(k:List Int)(p:α)(x:List Int):aW (cI ks k) (cX ks vs k p) x=if k=x then some p else aW ks vs x:=by
 have hh:=fR (vs:=vs) k h
 unfold cI cX;cases hk:da ks k with
 |true=>
  rw [hk] at hh;simp! [if_true,qo]
  by_cases e:k=x
  ·subst e;obtain⟨v,hv⟩:=zzp.1 hh.symm
   simp [hv]
  ·rw [if_neg e];have e':¬x=k:=λz=>e z.symm
   cases aW ks vs x<;>simp [e']
 |false=>
  rw [hk] at hh;simp! [zze,if_false,mr k p ks vs x h]
  by_cases e:k=x
  ·subst e;have:aW ks vs k=none:=by simpa using hh.symm
   simp [this]
  ·simp [e]
def pA{α:Type}{ks:List (List Int)}{vs:List α}(h:ks.length=vs.length)(k:List Int)(p:α):(cI ks k).length=(cX ks vs k p).length:=by
 unfold cI cX;split<;>simp [h]
def uO(ks:List (List Int))(k:List Int):(cI ks k).length<=ks.length+1:=by
 unfold cI;split<;>simp
def cW{ks:List (List Int)}{k:List Int}:da ks k=true↔k∈ks:=by
 simp [da]
def pM{ks:List (List Int)}(h:ks.Nodup)(k:List Int):(cI ks k).Nodup:=by
 unfold cI;split
 ·exact h
 ·rename_i hk;rw [cW] at hk;refine List.nodup_append.2 ⟨h,by simp,?_⟩;intro a ha b hb e;rw [zzi] at hb;exact hk (hb▸e▸ha)
def Kl{ks:Ks}{vs:List PV}{k:List Int}:gb (af k) (.bw ks vs)=.ok (.bl (!da ks k)):=by
 show(Res.of (eN (af k))).bind (λk=>Res.ok (PV.bl (!da ks k)))=_
 rw [dm]
 rfl
theorem FE{ks:Ks}{vs:List PV}:bJ .len [.bw ks vs]=.ok (.int ks.length):=rfl
theorem uw:∀{a b:List Int},HT.lexLt a b=true->HT.lexLt b a=false
 |[],[],h=>by cases h
 |[],_::_,_=>rfl
 |_::_,[],h=>by cases h
 |x::a,y::b,h=>by
  simp! [HT.lexLt] at h⊢;split at h
  ·subst x;rw [if_pos rfl];exact uw h
  ·have h:=zzY h
   rw [if_neg (by omega)];exact zz0 (by omega)
def EO(a:List Int):HT.lexLt a a=false:=by
 cases h:HT.lexLt a a with
 |false=>rfl
 |true=>have:=uw h;rw [h] at this;exact this
abbrev Nq(L:Ks):Prop:=L.Pairwise λa b=>HT.lexLt a b=true
def Nq.nodup{L:Ks}(h:Nq L):L.Nodup:=h.imp λ{a b} e z=>by rw [z,EO] at e;cases e
theorem uv:∀(n:Nat) (a b:List Int),eqs (gX n) (a.map .int) (b.map .int)=decide (a=b)
 |_,[],[]=>rfl
 |_,[],_::_=>rfl
 |_,_::_,[]=>rfl
 |n,x::a,y::b=>by
  have:gX n (.int x) (.int y)=(x==y):=by cases n<;>rfl
  simp! [zzF,eqs,uv n a b,this];rw [Bool.eq_iff_iff];simp
def j3(n:Nat)(a b:List Int):gX (n+1) (af a) (af b)=decide (a=b):=uv n a b
theorem lA:∀(n:Nat) (a b:Ks),eqs (gX (n+1)) (a.map af) (b.map af)=decide (a=b)
 |_,[],[]=>rfl
 |_,[],_::_=>rfl
 |_,_::_,[]=>rfl
 |n,x::a,y::b=>by
  simp! [zzF,eqs,lA n a b,j3];rw [Bool.eq_iff_iff];simp
def Bz(n:Nat)(a:List Int):(a.map PV.int).all (Ci.plain n)=true:=by
 simp! [zzT,zzx]
 rintro x ⟨i,_,rfl⟩
 cases n<;>rfl
def eW(n:Nat)(a:List Int):Ci.plain (n+1) (af a)=true:=Bz n a
def oN(n:Nat)(a:Ks):(a.map af).all (Ci.plain (n+1))=true:=by
 simp! [zzT,zzx]
 rintro x ⟨i,_,rfl⟩
 exact eW n i
def ic(n:Nat)(a:Ks):Ci.plain (n+2) (.lst (a.map af))=true:=oN n a
def QW(a b:Ks):fk (.lst (a.map af)) (.lst (b.map af))=.ok (.bl (decide (a=b))):=by
 show(if(Ci.plain 9 (.lst (a.map af))&&Ci.plain 9 (.lst (b.map af)))=true then Res.ok (PV.bl (gX 9 (.lst (a.map af)) (.lst (b.map af)))) else .bad)=_
 rw [ic 7,ic 7];exact congrArg (λz=>Res.ok (PV.bl z)) (lA 7 a b)
def Lp(a b:Ks):fC (.lst (a.map af)) (.lst (b.map af))=.ok (.bl (!decide (a=b))):=by
 show(if(Ci.plain 9 (.lst (a.map af))&&Ci.plain 9 (.lst (b.map af)))=true then Res.ok (PV.bl (!gX 9 (.lst (a.map af)) (.lst (b.map af)))) else .bad)=_
 rw [ic 7,ic 7];exact congrArg (λz=>Res.ok (PV.bl (!z))) (lA 7 a b)
def mem_keys(k:List Int)(L:Ks):uE (af k) (L.map af)=decide (k∈L):=by
 unfold uE;rw [List.any_map,Bool.eq_iff_iff,zzj,zzN]
 constructor
 ·rintro ⟨x,hx,e⟩
  have:decide (x=k)=true:=(j3 8 x k).symm.trans e
  exact zzY this▸hx
 ·intro h;exact⟨k,h,(j3 8 k k).trans (zzh rfl)⟩
def Fw(k:List Int)(L:Ks):gb (af k) (.lst (L.map af))=.ok (.bl (!decide (k∈L))):=by
 show(if(Ci.plain 9 (af k)&&(L.map af).all (Ci.plain 9))=true then Res.ok (PV.bl (!uE (af k) (L.map af))) else .bad)=_
 rw [eW 8,oN 8,mem_keys]
 rfl
def ND(k:List Int)(L:Ks):rF (af k) (.lst (L.map af))=.ok (.bl (decide (k∈L))):=by
 show(if(Ci.plain 9 (af k)&&(L.map af).all (Ci.plain 9))=true then Res.ok (PV.bl (uE (af k) (L.map af))) else .bad)=_
 rw [eW 8,oN 8,mem_keys]
 rfl
def gh(ae:List Str)(u:List Int):Prop:=∃r c,u=[r,c]/\b7 ae r c=true
def vT:Ks:=(List.range 6).flatMap λ(r:Nat)=>(List.range 6).map λ(c:Nat)=>[(r:Int),(c:Int)]
def t9:vT.length=36:=by decide
def PY{ae:List Str}{w:Nat}(L:Fl ae w){u:List Int}(h:gh ae u):u∈vT:=by
 obtain⟨r,c,rfl,h⟩:=h
 obtain⟨a,b,d,e⟩:=DK L h
 refine List.mem_flatMap.2 ⟨r.toNat,List.mem_range.2 (by omega),zzx.2 ⟨c.toNat,List.mem_range.2 (by omega),?_⟩⟩;rw [Int.toNat_of_nonneg a,Int.toNat_of_nonneg d]
def j7{ae:List Str}{sl:Bool}{cl pr r c r' c' e:Int}:cR ae sl cl pr r c r' c'=some e↔¬fW r c r' c'/\(r≠r'/\c≠c'->sl=true/\b7 ae r c'=true/\b7 ae r' c=true)/\b9 ae r' c'-b9 ae r c<=cl/\b9 ae r c-b9 ae r' c'<=cl/\e=(if r≠r'/\c≠c' then 3 else 2)+pr*(if b9 ae r' c'-b9 ae r c>0 then b9 ae r' c'-b9 ae r c else 0):=by
 unfold cR
 by_cases h1:fW r c r' c'
 ·rw [if_pos (show(r=r'/\c=c')\/1<r-r'\/1<r'-r\/1<c-c'\/1<c'-c from h1)];exact⟨(λz=>by cases z),λz=>absurd h1 z.1⟩
 ·have vX:¬((r=r'/\c=c')\/1<r-r'\/1<r'-r\/1<c-c'\/1<c'-c):=h1
  rw [if_neg vX]
  by_cases h2:(r≠r'/\c≠c')/\¬(sl=true/\b7 ae r c'=true/\b7 ae r' c=true)
  ·rw [if_pos h2];exact⟨(λz=>by cases z),λz=>absurd (z.2.1 h2.1) h2.2⟩
  ·rw [if_neg h2];have vW:r≠r'/\c≠c'->sl=true/\b7 ae r c'=true/\b7 ae r' c=true:=λa=>Classical.byContradiction λb=>h2 ⟨a,b⟩
   by_cases h3:cl<b9 ae r' c'-b9 ae r c\/cl<b9 ae r c-b9 ae r' c'
   ·rw [if_pos h3];exact⟨(λz=>by cases z),λz=>by omega⟩
   ·rw [if_neg h3];refine⟨λz=>⟨h1,vW,by omega,by omega,by cases z;rfl⟩,λz=>by rw [z.2.2.2.2]⟩
def Dt{ae:List Str}{w:Nat}(L:Fl ae w){sl:Bool}{cl pr:Int}(V:Wk cl pr){u v:List Int}{e:Int}(h:E1 ae sl cl pr u v e):0<e/\e<=30/\gh ae v:=by
 obtain⟨r,c,r',c',h1,h2,h3,h4,h5⟩:=h
 rw [j7] at h5;obtain⟨_,_,_,_,_,l1,l2⟩:=kI L h3
 obtain⟨_,_,_,_,_,m1,m2⟩:=kI L h4
 have p0:=V.p0
 have p4:=V.p4
 have e5:=h5.2.2.2.2
 generalize hm:(if b9 ae r' c'-b9 ae r c>0 then b9 ae r' c'-b9 ae r c else 0)=m at e5
 have Ma:0<=m/\m<=9:=by rw [<-hm];split<;>omega
 generalize hf:(if r≠r'/\c≠c' then(3:Int) else 2)=f at e5
 have Sa:2<=f/\f<=3:=by rw [<-hf];split<;>omega
 have a1:=Int.mul_nonneg p0 Ma.1
 have a2:pr*m<=3*9:=Int.mul_le_mul (by omega) Ma.2 Ma.1 (by omega)
 exact⟨by omega,by omega,r',c',h2,h4⟩
def Ew(f:List PV->Res PV):Prop:=∀ae,pf ae->∃S:Ks,f [fl ae]=.ok (.lst (S.map af))/\S.length<=36/\Nq S/\∀k,k∈S↔gh ae k
def zt{F:aM}(h:tM F):Ew (F "_law_spots"):=by
 intro ae R;obtain⟨L,e,hu,hl,hm⟩:=h ae R
 refine⟨L.map kN,?_,by simpa using hl,?_,λk=>?_⟩
 ·rw [e,List.map_map]
  rfl
 ·exact List.pairwise_map.2 hu
 ·rw [zzx]
  constructor
  ·rintro ⟨p,hp,rfl⟩
   have:=(hm p.1 p.2).1 hp
   exact⟨_,_,rfl,gV.2 ⟨by omega,by omega,this⟩⟩
  ·rintro ⟨r,c,rfl,h⟩
   obtain⟨a,b,d⟩:=gV.1 h
   refine⟨(r.toNat,c.toNat),(hm _ _).2 d,?_⟩;show [(r.toNat:Int),(c.toNat:Int)]=[r,c]
   rw [Int.toNat_of_nonneg a,Int.toNat_of_nonneg b]
def rl{α:Type}(xs:List α){k:Nat}(h:k<=xs.length):xf xs (some (k:Int)) none=xs.drop k:=by
 unfold xf;rw [HT.Aj,HT.y8,Nat.min_eq_left h];exact List.take_of_length_le (by simp)
def nJ{ae:List Str}{w:Nat}(L:Fl ae w){r c:Int}(h0:0<=r)(h1:r<ae.length)(h2:0<=c)(h3:c<w):∃z,aF (fl ae) (.int r)=.ok (.str z)/\∃x:Nat,aF (.str z) (.int c)=.ok (.str ⟨#[x]⟩)/\(x !=35)=b7 ae r c:=by
 obtain⟨i,rfl⟩:=zzw h0
 obtain⟨j,rfl⟩:=zzw h2
 obtain⟨x,hx⟩:=Kt L (i:=i) (j:=j) (by omega) (by omega)
 obtain⟨z,_,e1,e2⟩:=zB L.uV hx
 exact⟨z,e1,x,e2,by simp [b7,uB,hx]⟩
def zq(x:Nat):fk (.str ⟨#[x]⟩) (.str "#")=.ok (.bl (!(x !=35))):=by
 have:(("#":Str))=⟨#[35]⟩:=by decide+kernel
 rw [this];show Res.ok (PV.bl ((⟨#[x]⟩:Str)==⟨#[35]⟩))=_
 congr 2
 rw [bne,Bool.not_not,Bool.eq_iff_iff];simp
def wa{t u:Bool}:(if t=true then Res.ok (PV.bl true) else Res.ok (PV.bl u))=Res.ok (PV.bl (t||u)):=by cases t<;>rfl
def LC:Ss:=#v[.ret (.bin .add (!5) (.ite (.cmp .gt (!4) (¬0)) (.bin .mul (.sub (!1) (¬2)) (!4)) (¬0)))]
noncomputable def Ia:Ss:=.cons (.ite (.and (.cmp .ne (.sub (!2) (¬0)) (.sub (!3) (¬0))) (.cmp .ne (.sub (!2) (¬1)) (.sub (!3) (¬1)))) #v[.ite (.or (.not (.sub (!1) (¬0))) (.or (.cmp .eq (.sub (.sub (!0) (.sub (!2) (¬0))) (.sub (!3) (¬1))) (.cst (.str "#"))) (.cmp .eq (.sub (.sub (!0) (.sub (!3) (¬0))) (.sub (!2) (¬1))) (.cst (.str "#"))))) #v[.ret (.cst .aA)] .nil,.set 5 (¬3)] .nil) LC
noncomputable def Ld:Ss:=.cons (.ite (.or (.cmp .gt (!4) (.sub (!1) (¬1))) (.cmp .gt (.bin .sub (¬0) (!4)) (.sub (!1) (¬1)))) #v[.ret (.cst .aA)] .nil) Ia
theorem Cp:bI.body=(.cons (.set 4 (.bin .sub (.blt .int #v[.sub (.sub (!0) (.sub (!3) (¬0))) (.sub (!3) (¬1))]) (.blt .int #v[.sub (.sub (!0) (.sub (!2) (¬0))) (.sub (!2) (¬1))]))) (.cons (.set 5 (¬2)) Ld)):=rfl
abbrev NY(A:PV)(sl:Bool)(cl pr r c r' c' ri k:Int):Sl:=[.val A,.val (wk sl cl pr),.val (sp r c),.val (sp r' c'),.val (.int ri),.val (.int k)]
def zm(F:aM)(A:PV)(sl:Bool){cl pr:Int}(V:Wk cl pr)(r c r' c' ri k:Int):aB F LC (NY A sl cl pr r c r' c' ri k)=.ok (.rt (.int (k+pr*(if ri>0 then ri else 0)))):=by
 have ms:=mj (j:=ri) V.p0 V.p4
 by_cases hp:0<ri
 ·rw [if_pos hp];simp! only [LC,hp,decide_true,ms]
 ·rw [if_neg hp,Int.mul_zero];simp! only [LC,hp,decide_false]
def Gr(F:aM){ae:List Str}{w:Nat}(L:Fl ae w){sl:Bool}{cl pr:Int}(V:Wk cl pr){r c r' c':Int}(h:b7 ae r c=true)(h':b7 ae r' c'=true)(ri:Int):
 aB F Ia (NY (fl ae) sl cl pr r c r' c' ri 2)=.ok (.rt (if(r≠r'/\c≠c')/\¬(sl=true/\b7 ae r c'=true/\b7 ae r' c=true) then .aA else .int ((if r≠r'/\c≠c' then 3 else 2)+pr*(if ri>0 then ri else 0)))):=by
 have i1:=iE L h
 have i2:=iE L h'
 obtain⟨z3,c1,x3,c2,c3⟩:=nJ L (r:=r) (c:=c') i1.1 i1.2.1 i2.2.2.1 i2.2.2.2
 obtain⟨z4,d1,x4,d2,d3⟩:=nJ L (r:=r') (c:=c) i2.1 i2.2.1 i1.2.2.1 i1.2.2.2
 have e3:=zm F (fl ae) sl V r c r' c' ri 3
 have e2:=zm F (fl ae) sl V r c r' c' ri 2
 by_cases n3:r≠r'/\c≠c'
 ·have DJ:(!(r==r'))=true:=by simpa using n3.1
  have zh:(!(c==c'))=true:=by simpa using n3.2
  rw [if_pos n3]
  by_cases hb:sl=true/\b7 ae r c'=true/\b7 ae r' c=true
  ·rw [if_neg λz=>z.2 hb]
   have hB:(!sl||(!b7 ae r c'||!b7 ae r' c))=false:=by rw [hb.1,hb.2.1,hb.2.2];rfl
   simp! only [Ia,c1,c2,d1,d2,zq,c3,d3,wa,DJ,zh,hB,Bool.true_or,e3]
  ·rw [if_pos ⟨n3,hb⟩];have hB:(!sl||(!b7 ae r c'||!b7 ae r' c))=true:=by
    cases sl with
    |false=>rfl
    |true=>
     cases o1:b7 ae r c' with
     |false=>rfl
     |true=>
      cases o2:b7 ae r' c with
      |false=>rfl
      |true=>exact absurd ⟨rfl,o1,o2⟩ hb
   simp! only [Ia,c1,c2,d1,d2,zq,c3,d3,wa,DJ,zh,hB,Bool.true_or]
 ·rw [if_neg λz=>n3 z.1,if_neg n3]
  cases DJ:(!(r==r')) with
  |false=>simp! only [Ia,DJ,e2]
  |true=>
   have zh:(!(c==c'))=false:=by
    cases zh:(!(c==c')) with
    |false=>rfl
    |true=>exact absurd ⟨by simpa using DJ,by simpa using zh⟩ n3
   simp! only [Ia,DJ,zh,e2]
def rW(F:aM){ae:List Str}{w:Nat}(L:Fl ae w){sl:Bool}{cl pr:Int}(V:Wk cl pr){r c r' c':Int}(h:b7 ae r c=true)(h':b7 ae r' c'=true)(hf:¬fW r c r' c'):
 aq F bI [fl ae,wk sl cl pr,sp r c,sp r' c']=.ok (oP (cR ae sl cl pr r c r' c')):=by
 obtain⟨z1,x1,a1,a2,a3,_⟩:=kI L h
 obtain⟨z2,x2,b1,b2,b3,_⟩:=kI L h'
 have q1:cR ae sl cl pr r c r' c'=_:=if_neg hf
 rw [q1];have st:bT bI [fl ae,wk sl cl pr,sp r c,sp r' c']=[.val (fl ae),.val (wk sl cl pr),.val (sp r c),.val (sp r' c'),.no,.no]:=rfl
 have ar:bR bI [fl ae,wk sl cl pr,sp r c,sp r' c']=true:=rfl
 have e4:=Gr F L V (sl:=sl) h h' (b9 ae r' c'-b9 ae r c)
 have go:∀x,aB F Ld (NY (fl ae) sl cl pr r c r' c' (b9 ae r' c'-b9 ae r c) 2)=.ok (.rt x)->aq F bI [fl ae,wk sl cl pr,sp r c,sp r' c']=.ok x:=λx e=>by
  unfold aq;rw [ar,if_pos rfl,st,Cp];simp! [aB,f6,aC,c8,J,J2,a1,a2,a3,b1,b2,b3,e]
 by_cases hz:cl<b9 ae r' c'-b9 ae r c\/cl<b9 ae r c-b9 ae r' c'
 ·have:(if(r≠r'/\c≠c')/\¬(sl=true/\b7 ae r c'=true/\b7 ae r' c=true) then none else if cl<b9 ae r' c'-b9 ae r c\/cl<b9 ae r c-b9 ae r' c' then none else some ((if r≠r'/\c≠c' then 3 else 2)+pr*(if b9 ae r' c'-b9 ae r c>0 then b9 ae r' c'-b9 ae r c else 0)))=(none:Option Int):=by
   rw [if_pos hz];split<;>rfl
  rw [this];have hb:(decide (cl<b9 ae r' c'-b9 ae r c)||decide (cl<0-(b9 ae r' c'-b9 ae r c)))=true:=by
   rw [zzt,zzN,zzN];omega
  refine go .aA ?_;simp! only [Ld,wa,hb]
 ·have hb:(decide (cl<b9 ae r' c'-b9 ae r c)||decide (cl<0-(b9 ae r' c'-b9 ae r c)))=false:=by
   rw [Bool.or_eq_false_iff,decide_eq_false_iff_not,decide_eq_false_iff_not];omega
  rw [if_neg hz];refine(go _ ((?_:_=_).trans e4)).trans ?_
  ·simp! only [Ld,wa,hb]
  ·split<;>rfl
def mH(F:aM):Prop:=∀ae w,Fl ae w->∀sl cl pr,Wk cl pr->∀r c r' c',b7 ae r c=true->b7 ae r' c'=true->¬fW r c r' c'->F "_law_cost" [fl ae,wk sl cl pr,sp r c,sp r' c']=.ok (oP (cR ae sl cl pr r c r' c'))
noncomputable def FF(ae:List Str)(sl:Bool)(cl pr r c:Int)(i:Nat):Option (List Int×Int):=if i≠4/\b7 ae (r-1+i/3) (c-1+i%3)=true then(cR ae sl cl pr r c (r-1+i/3) (c-1+i%3)).map λv=>([r-1+(i:Int)/3,c-1+(i:Int)%3],v) else none
noncomputable def EK(ae:List Str)(sl:Bool)(cl pr r c:Int)(i:Nat):Option PV:=if i≠4/\b7 ae (r-1+i/3) (c-1+i%3)=true then(cR ae sl cl pr r c (r-1+i/3) (c-1+i%3)).map λv=>tK ([r-1+(i:Int)/3,c-1+(i:Int)%3],v) else none
noncomputable def kC:E:=.and (.ch .le .lt (¬0) (!5) (.blt .len #v[!0])) (.and (.ch .le .lt (¬0) (!6) (.blt .len #v[.sub (!0) (¬0)])) (.and (.cmp .ne (!4) (¬4)) (.cmp .ne (.sub (.sub (!0) (!5)) (!6)) (.cst (.str "#")))))
def kT:Ss:=#v[.set 7 (.call "_law_cost" #v[!0,!1,!2,.tup #v[!5,!6]]),.ite (.cmp .oB (!7) (.cst .aA)) #v[.app 3 (.tup #v[.tup #v[!5,!6],!7])] .nil]
noncomputable def kR:Ss:=#v[.ite kC kT .nil]
noncomputable def pJ:Ss:=.cons (.set 5 (.bin .add (.bin .sub (.sub (!2) (¬0)) (¬1)) (.bin .fdiv (!4) (¬3)))) (.cons (.set 6 (.bin .add (.bin .sub (.sub (!2) (¬1)) (¬1)) (.bin .mod (!4) (¬3)))) kR)
def iq{t u:Bool}:(if t=true then Res.ok (PV.bl u) else Res.ok (PV.bl false))=Res.ok (PV.bl (t&&u)):=by cases t<;>rfl
def RB{ae:List Str}{w:Nat}(L:Fl ae w):∃z,aF (fl ae) (.int 0)=.ok (.str z)/\z.length=w/\z.length<=cK:=by
 have hz:ae[0]?=some (ae[0]'L.ne):=zzg L.ne
 have hm:=zzD hz
 exact⟨_,wJ (j:=0) hz,L.zY _ hm,zzU (L.uV.2 _ hm) (by decide)⟩
def Jz(F:aM){ae:List Str}{w:Nat}(L:Fl ae w)(A B:PV)(i:Nat)(s3 s7:Ci.Slot)(r' c':Int):
 aC F kC [.val (fl ae),.val A,.val B,s3,.val (.int i),.val (.int r'),.val (.int c'),s7]=.ok (.bl (decide (i≠4/\b7 ae r' c'=true))):=by
 obtain⟨z0,f1,f2,f3⟩:=RB L
 have Qf:(z0.length:Int)=(w:Int):=by rw [f2]
 by_cases hA:0<=r'/\r'<ae.length
 ·by_cases hB:0<=c'/\c'<w
  ·obtain⟨z,g1,x,g2,g3⟩:=nJ L hA.1 hA.2 hB.1 hB.2
   have e:decide (i≠4/\b7 ae r' c'=true)=((!((i:Int)==4))&&b7 ae r' c'):=by
    rw [Bool.eq_iff_iff,zza,zzN];simp;omega
   rw [e];simp! only [kC,hA.1,hA.2,hB.1,hB.2,f1,Qf,f3,decide_true,zzl,g1,g2,g3,sC,iq,Bool.true_and]
  ·have e:decide (i≠4/\b7 ae r' c'=true)=false:=zz0 λz=>hB (iE L z.2).2.2
   have q:(decide (0<=c')&&decide (c'<(w:Int)))=false:=by
    rw [<-Bool.decide_and];exact zz0 hB
   rw [e];simp! only [kC,hA.1,hA.2,f1,Qf,f3,decide_true,zzl,iq,q,Bool.true_and,Bool.false_and]
 ·have e:decide (i≠4/\b7 ae r' c'=true)=false:=zz0 λz=>hA ⟨(iE L z.2).1,(iE L z.2).2.1⟩
  have q:(decide (0<=r')&&decide (r'<(ae.length:Int)))=false:=by
   rw [<-Bool.decide_and];exact zz0 hA
  rw [e];simp! only [kC,zzl,iq,q,Bool.true_and,Bool.false_and]
def wj(F:aM)(hc:mH F){ae:List Str}{w:Nat}(L:Fl ae w){sl:Bool}{cl pr:Int}(V:Wk cl pr){r c:Int}(h:b7 ae r c=true)(i:Nat)(hi:i<9)(acc:List PV)(hT:acc.length<=100)(t4 t5 t6 t7:Ci.Slot):
 ∃(u:Ci.Slot),(((Tg.one 4).put (.int i) [.val (fl ae),.val (wk sl cl pr),.val (sp r c),.own (.lst acc),t4,t5,t6,t7]).bind λag=>aB F pJ ag)=
  .ok (.nx [.val (fl ae),.val (wk sl cl pr),.val (sp r c),.own (.lst (acc++(EK ae sl cl pr r c i).toList)),.val (.int i),.val (.int (r-1+i/3)),.val (.int (c-1+i%3)),u]):=by
 have q3:(0:Int)<3:=by decide
 have q4:(0:Int)<3/\(3:Int)<1073741824:=by decide
 have Mg:acc.length<cK:=zzV hT (by decide)
 have kc:=Jz F L (wk sl cl pr) (sp r c) i (.own (.lst acc)) t7 (r-1+(i:Int)/3) (c-1+(i:Int)%3)
 have go:∀x,aB F kR [.val (fl ae),.val (wk sl cl pr),.val (sp r c),.own (.lst acc),.val (.int i),.val (.int (r-1+i/3)),.val (.int (c-1+i%3)),t7]=x->(((Tg.one 4).put (.int i) [.val (fl ae),.val (wk sl cl pr),.val (sp r c),.own (.lst acc),t4,t5,t6,t7]).bind λag=>aB F pJ ag)=x:=λx e=>by
  simp! only [pJ,q3,q4,and_self,e]
 unfold EK
 by_cases hq:i≠4/\b7 ae (r-1+i/3) (c-1+i%3)=true
 ·rw [if_pos hq];rw [zzh hq] at kc;have nf:¬fW r c (r-1+i/3) (c-1+i%3):=by unfold fW;omega
  have e:=hc ae w L sl cl pr V r c _ _ h hq.2 nf
  cases hs:cR ae sl cl pr r c (r-1+i/3) (c-1+i%3) with
  |none=>
   rw [hs] at e;simp! [oP] at e;have e5:eE .aA .aA=.ok (.bl false):=rfl
   refine⟨.val .aA,go _ ?_⟩;rw [kR,aB,f6,kc];simp! only [kT,e,e5,Option.map_none,Option.toList_none,zz6]
  |some v=>
   rw [hs] at e;simp! [oP] at e;have e5:eE (.int v) .aA=.ok (.bl true):=rfl
   refine⟨.val (.int v),go _ ?_⟩;rw [kR,aB,f6,kc];simp! only [kT,e,e5,Mg,Option.map_some,Option.toList_some]
   rfl
 ·rw [if_neg hq];rw [zz0 hq] at kc;refine⟨t7,go _ ?_⟩;rw [kR,aB,f6,kc];simp! only [Option.toList_none,zz6]
def Hq(ae:List Str)(sl:Bool)(cl pr r c:Int)(i:Nat):EK ae sl cl pr r c i=(FF ae sl cl pr r c i).map tK:=by
 unfold EK FF;split
 ·rw [Option.map_map];rfl
 ·rfl
theorem sP{α β:Type}(f:α->Option β):∀l:List α,(l.flatMap λa=>(f a).toList)=l.filterMap f
 |[]=>rfl
 |a::l=>by
  rw [List.flatMap_cons,sP f l,List.filterMap_cons];cases f a<;>rfl
def mY(f:List PV->Res PV):Prop:=∀ae w,Fl ae w->∀sl cl pr,Wk cl pr->∀r c,b7 ae r c=true->∃T:List (List Int×Int),f [fl ae,wk sl cl pr,af [r,c]]=.ok (.lst (T.map tK))/\T.length<=9/\(T.Pairwise λa b=>a.1≠b.1)/\∀v e,(v,e)∈T↔E1 ae sl cl pr [r,c] v e
def ir(F:aM):Prop:=mY (F "_law_steps")
def u6(F:aM)(hc:mH F):mY (aq F aY):=by
 intro ae w L sl cl pr V r c h;refine⟨(List.range 9).filterMap (FF ae sl cl pr r c),?_,zzU (List.length_filterMap_le _ _) (by simp),?_,λv e=>?_⟩
 ·obtain⟨s',e⟩:=fG (body:=λx env=>((Tg.one 4).put x env).bind λag=>aB F pJ ag) (g:=λi:Nat=>PV.int (i:Int)) (mk:=λacc (s:Ci.Slot×Ci.Slot×Ci.Slot×Ci.Slot)=>[.val (fl ae),.val (wk sl cl pr),.val (sp r c),.own (.lst acc),s.1,s.2.1,s.2.2.1,s.2.2.2]) (app:=λi=>(EK ae sl cl pr r c i).toList) (m:=1) (M:=50) (List.range 9) [] (.no,.no,.no,.no) (λi _=>by cases EK ae sl cl pr r c i<;>simp) (λi hi acc s hl=>by
   obtain⟨u,e⟩:=wj F hc L V h i (List.mem_range.1 hi) acc (by omega) s.1 s.2.1 s.2.2.1 s.2.2.2
   exact⟨(_,_,_,u),e⟩) (by decide)
  have k:af [r,c]=sp r c:=rfl
  have s:aE 9=true:=by decide
  have rg:dh 0 (9:Int).toNat=(List.range 9).map λi:Nat=>PV.int (i:Int):=by
   unfold dh;refine List.map_congr_left λi _=>?_
   rw [Int.zero_add]
  have fm:((List.range 9).flatMap λi=>(EK ae sl cl pr r c i).toList)=((List.range 9).filterMap (FF ae sl cl pr r c)).map tK:=by
   rw [sP,List.map_filterMap]
   congr 1
   funext i
   exact Hq ..
  rw [fm,<-rg] at e;have db:aY.body=.cons (.own 3 (.lst .nil)) (.cons (.bD (.one 4) (.jj (.cst (.int 9))) pJ) (.cons (.cU 3) (.cons (.ret (.var 3)) .nil))):=rfl
  have st:bT aY [fl ae,wk sl cl pr,sp r c]=[.val (fl ae),.val (wk sl cl pr),.val (sp r c),.no,.no,.no,.no,.no]:=rfl
  have ar:bR aY [fl ae,wk sl cl pr,sp r c]=true:=rfl
  rw [k];unfold aq;rw [ar,if_pos rfl,st,db];simp! only [s] at e⊢;simp! only [e,vg]
 ·refine List.Pairwise.filterMap (S:=λa b:List Int×Int=>a.1≠b.1) (R:=λi j:Nat=>i≠j) _ (λi j LJ a ha b hb CF=>LJ ?_) (List.nodup_range (n:=9));unfold FF at ha hb;split at ha
  ·split at hb
   ·obtain⟨_,_,rfl⟩:=zzJ.1 ha
    obtain⟨_,_,rfl⟩:=zzJ.1 hb
    simp! [List.cons.injEq,and_true] at CF;omega
   ·cases hb
  ·cases ha
 ·rw [zz1]
  constructor
  ·rintro ⟨i,hi,g⟩
   unfold FF at g;split at g
   ·rename_i hh;obtain⟨x,hx,g⟩:=zzJ.1 g
    cases g;exact⟨r,c,_,_,rfl,rfl,h,hh.2,hx⟩
   ·cases g
  ·rintro ⟨a,b,r',c',g1,rfl,_,ho,hs⟩
   cases g1;have nf:=(j7.1 hs).1
   unfold fW at nf;refine⟨(3*(r'-r+1)+(c'-c+1)).toNat,List.mem_range.2 (by omega),?_⟩;have e1:r-1+((3*(r'-r+1)+(c'-c+1)).toNat:Int)/3=r':=by omega
   have e2:c-1+((3*(r'-r+1)+(c'-c+1)).toNat:Int)%3=c':=by omega
   unfold FF;rw [e1,e2,if_pos ⟨by omega,ho⟩,hs]
   rfl
def zK(a b:List Int):fk (af a) (af b)=.ok (.bl (decide (a=b))):=by
 show(if(Ci.plain 9 (af a)&&Ci.plain 9 (af b))=true then Res.ok (PV.bl (gX 9 (af a) (af b))) else .bad)=_
 rw [eW 8,eW 8];exact congrArg (λz=>Res.ok (PV.bl z)) (j3 8 a b)
def KI(a b:List Int):fC (af a) (af b)=.ok (.bl (!decide (a=b))):=by
 show(if(Ci.plain 9 (af a)&&Ci.plain 9 (af b))=true then Res.ok (PV.bl (!gX 9 (af a) (af b))) else .bad)=_
 rw [eW 8,eW 8];exact congrArg (λz=>Res.ok (PV.bl (!z))) (j3 8 a b)
theorem dM{α:Type}{f:PV->Res (Option PV)}{p q:α->PV}{g:α->Bool}:∀{xs:List α},(∀x∈xs,f (p x)=.ok (if g x then some (q x) else none))->aD f (xs.map p)=.ok ((xs.filter g).map q)
 |[],_=>rfl
 |x::xs,h=>by
  have h1:=h x (zzP ..)
  have h2:=dM (xs:=xs) λy hy=>h y (zzI _ hy)
  simp! [zzF,aD,h1,HG,m8,h2];cases hg:g x<;>simp [zz3,hg,oc]
theorem O4{t:List Int×Int}:aF (tK t) (.int 0)=.ok (af t.1):=rfl
theorem mz{σ:Type}{f:PV->Res (Option PV)}{body:PV->Sl->Res Ci.Fl}{mk:List PV->σ->Sl}{M:Nat}:∀(xs ys acc:List PV) (s:σ),aD f xs=.ok ys->(∀x∈xs,∀o,f x=.ok o->∀acc s,acc.length+1<=M->∃s',body x (mk acc s)=.ok (.nx (mk (acc++o.toList) s')))->acc.length+xs.length<=M->∃s',forL body xs (mk acc s)=.ok (.nx (mk (acc++ys) s'))
 |[],ys,acc,s,h,_,_=>by cases h;exact⟨s,by simp [forL]⟩
 |x::xs,ys,acc,s,h,hb,hl=>by
  rw [zzL] at hl;simp! [aD] at h;cases hf:f x with
  |bad=>rw [hf] at h;cases h
  |exc c=>rw [hf] at h;cases h
  |ok o=>
   rw [hf,HG,m8] at h;obtain⟨zs,hz,h⟩:=Res.aU h
   cases h;obtain⟨s1,e1⟩:=hb x (zzP ..) o hf acc s (by omega)
   have lo:o.toList.length<=1:=by cases o<;>simp
   obtain⟨s2,e2⟩:=mz xs zs (acc++o.toList) s1 hz (λy hy=>hb y (zzI _ hy)) (by rw [zzM];omega)
   refine⟨s2,?_⟩;simp! [forL,e1,m8,e2];cases o<;>simp [oc]
def wG:Ss:=#v[.ite (.cmp .ne (!5) (.glob "WALL" (.str "#"))) #v[.app 1 (.tup #v[!2,!4])] .nil]
def N0:Ss:=#v[.bD (.two 4 5) (.enum (!3)) wG]
theorem pF:∀{xs:List PV} {k:Nat} {x:PV},x∈bX k xs->∃(i:Nat) (y:PV),y∈xs/\x=.tup [.int (i:Int),y]
 |[],_,_,h=>by cases h
 |y::ys,k,x,h=>by
  simp! [bX,zzm] at h;rcases h with h|h
  ·exact⟨k,y,zzP ..,h⟩
  ·obtain⟨i,z,hz,e⟩:=pF h
   exact⟨i,z,zzI _ hz,e⟩
def x6(f:List PV->Res PV):Prop:=∀ae,pf ae->∃L:List (Nat×Nat),f [fl ae]=.ok (.lst (L.map vY))/\Up L/\L.length<=36/\∀r c,(r,c)∈L↔uB ae r c=true
def xA(F:aM):x6 (aq F cF):=by
 intro ae R;have Q0:=R.1
 obtain⟨ag,e,L,s2,s3,s4,s5,nd,hl,hm,rfl⟩:=bj (body:=λx env=>((Tg.two 2 3).put x env).bind λag=>aB F N0 ag) (P:=λi env=>∃(L:List (Nat×Nat)) (s2 s3 s4 s5:Ci.Slot),Up L/\L.length<=6*i/\(∀r c,(r,c)∈L↔r<i/\uB ae r c=true)/\env=[.val (fl ae),.own (.lst (L.map vY)),s2,s3,s4,s5])
  (bX 0 (ae.map .str)) 0 [.val (fl ae),.own (.lst []),.no,.no,.no,.no] ⟨[],_,_,_,_,qW,zzE _,(λr c=>by simp),rfl⟩ (by
  intro i x env hx hq;obtain⟨y,hy,rfl⟩:=ik hx
  obtain⟨L,s2,s3,s4,s5,nd,hl,hm,rfl⟩:=hq
  simp! [zzQ,zzJ] at hy;obtain⟨z,hz,rfl⟩:=hy
  have HR:=R.2 z (zzD hz)
  have hi:i<ae.length:=(zzH.1 hz).1
  have zc:z.cps.toList.length=z.length:=by simp [Str.length]
  obtain⟨M,eM,nM,lM,hM⟩:=lC (f:=λx=>match x with|.tup [.int c,.str y]=>.ok (if y !="#" then some (sp i c) else none)|_=>.bad) (r:=i) (λc x=>by
   have:((⟨#[x]⟩:Str) !="#")=(x !=35):=by
    have hw:(("#":Str))=⟨#[35]⟩:=by decide+kernel
    rw [hw,bne,bne,Bool.eq_iff_iff];simp
   simp! [this]) z.cps.toList 0
  obtain⟨s',e⟩:=mz (body:=λx env=>((Tg.two 4 5).put x env).bind λag=>aB F wG ag) (mk:=λacc (s:Ci.Slot×Ci.Slot)=>[.val (fl ae),.own (.lst acc),.val (.int i),.val (.str z),s.1,s.2]) (M:=100) _ _ (L.map vY) (s4,s5) eM (λx hx o ho acc s hl=>by
   obtain⟨c,y,hy,rfl⟩:=pF hx
   obtain⟨v,_,rfl⟩:=zzx.1 hy
   have l:acc.length<cK:=zzV (m:=100) (by omega) (by decide)
   refine⟨(.val (.int c),.val (.str ⟨#[v]⟩)),?_⟩;have fe:fC (.str ⟨#[v]⟩) (.str "#")=.ok (.bl ((⟨#[v]⟩:Str) !="#")):=rfl
   cases hv:((⟨#[v]⟩:Str) !="#") with
   |true=>
    rw [hv] at fe;simp! [hv,if_true] at ho;cases ho;simp! only [wG,fe,l,Option.toList_some]
   |false=>
    rw [hv] at fe;simp! [hv,zze,if_false] at ho;cases ho;simp! only [wG,fe,Option.toList_none,zz6]) (by rw [bQ,zzl,zzl];omega)
  refine⟨[.val (fl ae),.own (.lst ((L++M).map vY)),.val (.int i),.val (.str z),s'.1,s'.2],?_,L++M,_,_,_,_,List.pairwise_append.2 ⟨nd,nM,λa ha b hb=>Oc (.inl (by have h1:=((hm a.1 a.2).1 ha).1;have h2:=((hM b.1 b.2).1 hb).1;omega))⟩,?_,?_,rfl⟩
  ·rw [show(z.cps.toList.map λx=>PV.str ⟨#[x]⟩)=chars z from rfl] at e;simp! only [wG] at e;simp! only [N0,wG,Nat.zero_add,e,List.map_append]
  ·simp! [zzM];omega
  ·intro r c;rw [List.mem_append,hm,hM,jy]
   constructor
   ·rintro (⟨h1,h2⟩|⟨rfl,_,x,h3,h4⟩)
    ·exact⟨by omega,h2⟩
    ·exact⟨by omega,z,hz,x,h3,h4⟩
   ·rintro ⟨h1,w,h2,x,h3,h4⟩
    by_cases hr:r=i
    ·subst hr;rw [hz] at h2;cases h2;exact .inr ⟨rfl,Nat.zero_le _,x,h3,h4⟩
    ·exact .inl ⟨by omega,w,h2,x,h3,h4⟩)
 refine⟨L,?_,nd,(by rw [bQ,zzl] at hl;omega),λr c=>?_⟩
 ·simp! only [N0,wG] at e;simp! only [cF,e,vg]
 ·rw [hm];refine⟨λh=>h.2,λh=>⟨?_,h⟩⟩
  obtain⟨z,hz,_⟩:=jy.1 h
  have:=(zzH.1 hz).1
  rw [bQ,zzl];omega
def ze{ae:List Str}{L:List (Nat×Nat)}(hm:∀r c,(r,c)∈L↔uB ae r c=true)(v:List Int):v∈L.map kN↔gh ae v:=by
 rw [zzx]
 constructor
 ·rintro ⟨p,hp,rfl⟩
  exact⟨_,_,rfl,gV.2 ⟨by omega,by omega,by simpa using (hm p.1 p.2).1 hp⟩⟩
 ·rintro ⟨r,c,rfl,h⟩
  obtain⟨h0,h1,h2⟩:=gV.1 h
  exact⟨(r.toNat,c.toNat),(hm _ _).2 h2,by simp [kN,Int.toNat_of_nonneg h0,Int.toNat_of_nonneg h1]⟩
abbrev lp(m:Ks):PV:=.lst (m.map af)
def Gd(E:List Int->List Int->Int->Prop)(ks:Ks)(vs:List PV)(u:List Int):Prop:=∃T:Ks,aW ks vs u=some (lp T)/\(∀v,v∈T↔∃e,E u v e)/\T.length<=9
noncomputable def Ly:Ss:=#v[.put 2 (!3) (.comp 1 [] (.one 0) (.seq (.call "steps_from" #v[!0,!1,!3])) (.sub (!0) (¬0)))]
theorem mU(F:aM)(hs:jr F){ae:List Str}{w:Nat}(L:Fl ae w){sl:Bool}{cl pr:Int}(V:Wk cl pr):∀(Q:Ks) (ks:Ks) (vs:List PV) (s3:Ci.Slot),(∀u∈Q,gh ae u)->ks.length=vs.length->ks.length+Q.length<=100->∃KR Dr Ge,forL (λx env=>((Tg.one 3).put x env).bind λag=>aB F Ly ag) (Q.map af) [.val (fl ae),.val (wk sl cl pr),.own (.bw ks vs),s3]=.ok (.nx [.val (fl ae),.val (wk sl cl pr),.own (.bw KR Dr),Ge])/\∀u,u∈Q\/Gd (E1 ae sl cl pr) ks vs u->Gd (E1 ae sl cl pr) KR Dr u
 |[],ks,vs,s3,_,_,_=>⟨ks,vs,s3,rfl,λu h=>h.elim (λz=>by cases z) id⟩
 |k::Q,ks,vs,s3,hO,he,hl=>by
  rw [zzL] at hl;have g:=uO ks k
  obtain⟨a,b,rfl,ho⟩:=hO k (zzP ..)
  obtain⟨T,e1,lT,hT⟩:=hs ae w L sl cl pr V a b ho
  have Mg:T.length<cK:=zzV lT (by decide)
  have lk:ks.length<cK:=zzV (m:=100) (by omega) (by decide)
  have t0:∀t:List Int×Int,aF (tK t) (.int 0)=.ok (af t.1):=λt=>rfl
  have em:(T.map λt=>af t.1)=(T.map (·.1)).map af:=by rw [List.map_map];rfl
  obtain⟨KR,Dr,Ge,e,h⟩:=mU F hs L V Q (cI ks [a,b]) (cX ks vs [a,b] (lp (T.map (·.1)))) (.val (af [a,b])) (λu hu=>hO u (zzI _ hu)) (pA he ..) (by omega)
  refine⟨KR,Dr,Ge,?_,λu hu=>h u ?_⟩
  ·have eb:(((Tg.one 3).put (af [a,b]) [.val (fl ae),.val (wk sl cl pr),.own (.bw ks vs),s3]).bind λag=>aB F Ly ag)=.ok (.nx [.val (fl ae),.val (wk sl cl pr),.own (.bw (cI ks [a,b]) (cX ks vs [a,b] (lp (T.map (·.1))))),.val (af [a,b])]):=by
    simp! only [Ly,e1,zzl,Mg];rw [aQ (p:=tK) (g:=λt=>af t.1) (λt _=>by simp! only [t0]),em];simp! only [dm,lk]
   rw [zzF,forL,eb,m8];exact e
  ·by_cases hk:[a,b]=u
   ·subst hk;refine .inr ⟨T.map (·.1),by rw [j8 he,if_pos rfl],λv=>?_,by rw [zzl];exact lT⟩
    rw [zzx];exact⟨λ⟨t,ht,q⟩=>⟨t.2,(hT _ _).1 (q▸ht)⟩,λ⟨e,q⟩=>⟨(v,e),(hT v e).2 q,rfl⟩⟩
   ·rcases hu with hu|⟨T',q1,q2⟩
    ·exact .inl ((zzm.1 hu).elim (λz=>absurd z.symm hk) id)
    ·exact .inr ⟨T',by rw [j8 he,if_neg hk];exact q1,q2⟩
def C3(f:List PV->Res PV):Prop:=∀ae w,Fl ae w->∀sl cl pr,Wk cl pr->∃ks vs,f [fl ae,wk sl cl pr]=.ok (.bw ks vs)/\∀u,gh ae u->Gd (E1 ae sl cl pr) ks vs u
def Bb(F:aM)(hs:jr F)(ho:x6 (F "open_spots")):C3 (aq F cy):=by
 intro ae w L sl cl pr V;obtain⟨Sp,e1,up,l36,hm⟩:=ho ae L.uV
 have es:Sp.map vY=(Sp.map kN).map af:=by rw [List.map_map];rfl
 obtain⟨ks,vs,s3,e,h⟩:=mU F hs L (sl:=sl) V (Sp.map kN) [] [] .no (λu hu=>(ze hm u).1 hu) rfl (by rw [zzl,List.length_nil];omega)
 refine⟨ks,vs,?_,λu hu=>h u (.inl ((ze hm u).2 hu))⟩
 simp! only [Ly] at e;simp! only [cy,e1,es,e,vg]
def av(w:Ks)(t:Nat):List Int:=w.getD (min t (w.length-1)) []
def eO{w:Ks}{t:Nat}(h:t<w.length):av w t=w[t]:=by
 unfold av;rw [Nat.min_eq_left (by omega),zzK,zzg h]
 rfl
def iT{w:Ks}{t:Nat}(h:w.length-1<=t):av w t=av w (w.length-1):=by
 unfold av;rw [Nat.min_eq_right h,Nat.min_self]
def dI{w:Ks}(hw:w≠[])(t:Nat):w[min t (w.length-1)]?=some (av w t):=by
 have h:min t (w.length-1)<w.length:=by have:=List.length_pos_iff.2 hw;omega
 unfold av;rw [zzK,zzg h]
 rfl
def sY{w:Ks}(hw:w≠[])(t:Nat):av w t∈w:=zzD (dI hw t)
section
variable(E:List Int->List Int->Int->Prop)(W:List Ks)
def Nb(p o:List Int):Prop:=o=p\/∃e,E p o e
def Mv(t:Nat)(p o:List Int):Prop:=∀w∈W,av w (t+1)≠o/\¬(av w t=o/\av w (t+1)=p)
def Rc(s:List Int):Nat->List Int->Prop
 |0,x=>x=s
 |t+1,x=>∃p,Rc s t p/\Nb E p x/\Mv W t p x
def iD(g:List Int)(T:Nat):Prop:=∀w∈W,∀i,T<=i->w[i]?≠some g
end
section
variable{E:List Int->List Int->Int->Prop}{W:List Ks}{s:List Int}
theorem dX{O:List Int->Prop}(hE:∀u v e,E u v e->O v)(hs:O s):∀{t x},Rc E W s t x->O x
 |0,x,h=>by rw [show x=s from h];exact hs
 |t+1,x,⟨p,h,n,_⟩=>by
  rcases n with rfl|⟨e,n⟩
  ·exact dX hE hs h
  ·exact hE _ _ _ n
theorem BI(h0:∀w∈W,av w 0≠s):∀{t x},Rc E W s t x->∀w∈W,av w t≠x
 |0,x,h,w,hw=>by rw [show x=s from h];exact h0 w hw
 |t+1,x,⟨p,_,_,m⟩,w,hw=>(m w hw).1
def Still(W:List Ks)(st:Nat):Prop:=∀w∈W,w.length-1<=st
def Still.at{st:Nat}(h:Still W st){w:Ks}(hw:w∈W){t:Nat}(ht:st<=t):av w t=av w st:=by
 rw [iT (zzU (h w hw) ht),iT (h w hw)]
def Bc{st:Nat}(cJ:Still W st)(h0:∀w∈W,av w 0≠s){t:Nat}(ht:st<=t){x:List Int}(h:Rc E W s t x):Rc E W s (t+1) x:=by
 refine⟨x,h,.inl rfl,λw hw=>?_⟩
 have e:av w (t+1)=av w t:=by rw [cJ.at hw (Nat.le_succ_of_le ht),cJ.at hw ht]
 have:=BI h0 h w hw
 exact⟨by rw [e];exact this,λz=>this z.1⟩
def qb{st:Nat}(cJ:Still W st){t t':Nat}(ht:st<=t)(LM:st<=t'){p o:List Int}:Mv W t p o↔Mv W t' p o:=by
 unfold Mv
 constructor<;>intro h w hw<;>have:=h w hw
 ·rw [cJ.at hw (Nat.le_succ_of_le ht),cJ.at hw ht] at this
  rwa [cJ.at hw (Nat.le_succ_of_le LM),cJ.at hw LM]
 ·rw [cJ.at hw (Nat.le_succ_of_le LM),cJ.at hw LM] at this
  rwa [cJ.at hw (Nat.le_succ_of_le ht),cJ.at hw ht]
theorem jZ{st:Nat}(cJ:Still W st){t:Nat}(ht:st<=t)(h:∀x,Rc E W s (t+1) x↔Rc E W s t x):∀(k:Nat) (x:List Int),Rc E W s (t+k) x↔Rc E W s t x
 |0,x=>Iff.rfl
 |k+1,x=>by
  rw [<-h x];show(∃p,Rc E W s (t+k) p/\Nb E p x/\Mv W (t+k) p x)↔∃p,Rc E W s t p/\Nb E p x/\Mv W t p x
  constructor
  ·rintro ⟨p,h1,h2,h3⟩
   exact⟨p,(jZ cJ ht h k p).1 h1,h2,(qb cJ (by omega) ht).1 h3⟩
  ·rintro ⟨p,h1,h2,h3⟩
   exact⟨p,(jZ cJ ht h k p).2 h1,h2,(qb cJ ht (by omega)).1 h3⟩
end
def Ap(a b:Ks):Prop:=∀t,av a t≠av b t/\¬(av a t=av b (t+1)/\av a (t+1)=av b t)
def Ap.symm{a b:Ks}(h:Ap a b):Ap b a:=λt=>⟨λz=>(h t).1 z.symm,λz=>(h t).2 ⟨z.2.symm,z.1.symm⟩⟩
structure Wy(E:List Int->List Int->Int->Prop)(O:List Int->Prop)(n:Nat)(W:List Ks)(s g:List Int)(B:Nat)(l:Ks):Prop where
 ne:l≠[]
 len:l.length<=B
 op:∀x∈l,O x
 fst:av l 0=s
 lst:av l (l.length-1)=g
 go:∀j,j+1<l.length->Nb E (av l j) (av l (j+1))/\Mv W j (av l j) (av l (j+1))
 free:iD W g (l.length-1)
 least:∀T,T<l.length-1->¬(Rc E W s T g/\iD W g T)
 bd:∀M,(∀w∈W,w.length<=M)->l.length<=M+n+1
def K9(E:List Int->List Int->Int->Prop)(O:List Int->Prop)(n:Nat)(W:List Ks)(s g:List Int)(B:Nat):Option Ks->Prop
 |none=>∀T,¬(Rc E W s T g/\iD W g T)
 |some l=>Wy E O n W s g B l
def iD.at{W:List Ks}{g:List Int}{T:Nat}(h:iD W g T){w:Ks}(hw:w∈W)(ne:w≠[])(he:av w (w.length-1)≠g){t:Nat}(ht:T<=t):av w t≠g:=by
 by_cases hl:t<=w.length-1
 ·intro z;have:=dI ne t
  rw [Nat.min_eq_left hl,z] at this;exact h w hw t ht this
 ·rw [iT (by omega)];exact he
def Wy.ap{E:List Int->List Int->Int->Prop}{O:List Int->Prop}{n:Nat}{W:List Ks}{s g:List Int}{B:Nat}{l:Ks}(h:Wy E O n W s g B l){w:Ks}(hw:w∈W)(ne:w≠[])(h0:av w 0≠s)(he:av w (w.length-1)≠g):Ap l w:=by
 have lp:=List.length_pos_iff.2 h.ne
 have Kv:∀t,av w t≠av l t:=λt=>by
  by_cases ht:t<=l.length-1
  ·cases t with
   |zero=>rw [h.fst];exact h0
   |succ t=>exact((h.go t (by omega)).2 w hw).1
  ·rw [iT (w:=l) (by omega),h.lst];exact h.free.at hw ne he (by omega)
 intro t;refine⟨λz=>Kv t z.symm,λz=>?_⟩
 by_cases ht:t+1<l.length
 ·exact((h.go t ht).2 w hw).2 ⟨z.2.symm,z.1.symm⟩
 ·have e1:av l t=g:=by rw [iT (w:=l) (by omega),h.lst]
  exact h.free.at hw ne he (t:=t+1) (by omega) (by rw [<-z.1,e1])
def kb{W:Ks}{k:Nat}{x:List Int}(hk:W[k]?=some x):aF (lp W) (.int (k:Nat))=.ok (af x):=by
 show Res.of (qw (W.map af) (k:Int))=_
 rw [k8 (k:=k) (by simpa using (zzH.1 hk).1),List.getElem_map,(zzH.1 hk).2]
 rfl
theorem Rb{i j:Int}:bJ .min2 [.int i,.int j]=.ok (.int (if j<i then j else i)):=rfl
abbrev cM(W:List Ks):PV:=.lst (W.map lp)
def Nd(F:aM):Prop:=∀w:Ks,w≠[]->∀t:Nat,F "spot_at" [lp w,.int (t:Int)]=.ok (af (av w t))
def vL(F:aM)(w:Ks)(hw:w≠[])(t:Nat):aq F dF [lp w,.int (t:Int)]=.ok (af (av w t)):=by
 have h:=List.length_pos_iff.2 hw
 have e:=kb (dI hw t)
 have m:(if((w.map af).length:Int)-1<(t:Int) then((w.map af).length:Int)-1 else(t:Int))=((min t (w.length-1):Nat):Int):=by
  rw [zzl];split<;>omega
 simp! only [dF,Rb,m,e]
def pS(W:List Ks)(t:Nat):PV:=.lst (W.map λw=>.tup [af (av w t),af (av w (t+1))])
def xH(F:aM):Prop:=∀W:List Ks,(∀w∈W,w≠[])->W.length<=100->∀t:Nat,F "moves_at" [cM W,.int (t:Int)]=.ok (pS W t)
def sD(F:aM)(hs:Nd F)(W:List Ks)(hW:∀w∈W,w≠[])(hl:W.length<=100)(t:Nat):aq F cw [cM W,.int (t:Int)]=.ok (pS W t):=by
 have l:W.length<cK:=zzV hl (by decide)
 simp! only [cw,zzl,l];rw [aQ (p:=lp) (g:=λw=>.tup [af (av w t),af (av w (t+1))]) λw hw=>?_]
 ·rfl
 ·have e2:=hs w (hW w hw) (t+1)
  rw [Int.natCast_add] at e2;simp! only [hs w (hW w hw) t];rw [show((1:Nat):Int)=1 from rfl] at e2;simp! only [e2]
def F0:Ss:=#v[.ite (.cmp .eq (!5) (!1)) #v[.set 2 (.blt .max2 #v[!2,.bin .add (!4) (¬1)])] .nil]
def NK:Ss:=#v[.bD (.two 4 5) (.enum (!3)) F0]
def Lf(W:List Ks)(g:List Int)(D:Ks->Nat->Prop)(L:Nat):Prop:=(∀w i,D w i->w[i]?=some g->i<L)/\(L=0\/∃w∈W,∃i,w[i]?=some g/\L=i+1)
def AJ(F:aM)(W:List Ks)(g:List Int):∃L:Nat,aq F cN [cM W,af g]=.ok (.int (L:Int))/\Lf W g (λw _=>w∈W) L:=by
 obtain⟨ag,e,L,s3,s4,s5,rfl,hL⟩:=bj (body:=λx env=>((Tg.one 3).put x env).bind λag=>aB F NK ag) (P:=λi env=>∃(L:Nat) (s3 s4 s5:Ci.Slot),env=[.val (cM W),.val (af g),.val (.int (L:Int)),s3,s4,s5]/\Lf W g (λw _=>∃j,j<i/\W[j]?=some w) L)
  (W.map lp) 0 [.val (cM W),.val (af g),.val (.int 0),.no,.no,.no] ⟨0,_,_,_,rfl,(λw i ⟨j,h,_⟩=>absurd h (Nat.not_lt_zero _)),.inl rfl⟩ (by
  intro j x env hx ⟨L,s3,s4,s5,he,hL⟩;subst he;rw [zzQ,zzJ] at hx;obtain⟨w,hw,rfl⟩:=hx
  rw [Nat.zero_add] at hL⊢;obtain⟨ag,e,L',t4,t5,rfl,hL'⟩:=bj (body:=λx env=>((Tg.two 4 5).put x env).bind λag=>aB F F0 ag) (P:=λi env=>∃(L:Nat) (s4 s5:Ci.Slot),env=[.val (cM W),.val (af g),.val (.int (L:Int)),.val (lp w),s4,s5]/\Lf W g (λv m=>(∃k,k<j/\W[k]?=some v)\/(v=w/\m<i)) L)
   (bX 0 (w.map af)) 0 [.val (cM W),.val (af g),.val (.int (L:Int)),.val (lp w),s4,s5] ⟨L,_,_,rfl,(λv m h=>h.elim (λh=>hL.1 v m h) λh=>absurd h.2 (Nat.not_lt_zero _)),hL.2⟩ (by
   intro i y env hy ⟨L,s4,s5,he,hL⟩;subst he;rw [Nat.zero_add] at hL⊢;obtain⟨z,hz,rfl⟩:=ik hy
   rw [zzQ,zzJ] at hz;obtain⟨x,hx,rfl⟩:=hz
   rw [Nat.zero_add];have eq:=zK x g
   by_cases h:x=g
   ·subst h;rw [zzh rfl] at eq;have m:(if(i:Int)+1>(L:Int) then(i:Int)+1 else(L:Int))=((max L (i+1):Nat):Int):=by split<;>omega
    refine⟨[.val (cM W),.val (af x),.val (.int ((max L (i+1):Nat):Int)),.val (lp w),.val (.int (i:Int)),.val (af x)],?_,max L (i+1),_,_,rfl,λv n hv hn=>?_,?_⟩
    ·simp! only [F0,eq,m]
    ·rcases hv with hv|⟨rfl,hv⟩
     ·have:=hL.1 v n (.inl hv) hn;omega
     ·by_cases hni:n=i
      ·omega
      ·have:=hL.1 v n (.inr ⟨rfl,by omega⟩) hn;omega
    ·rcases Nat.le_total (i+1) L with hm|hm
     ·rw [Nat.max_eq_left hm];exact hL.2
     ·rw [Nat.max_eq_right hm];exact .inr ⟨w,zzD hw,i,hx,rfl⟩
   ·rw [zz0 h] at eq;refine⟨[.val (cM W),.val (af g),.val (.int (L:Int)),.val (lp w),.val (.int (i:Int)),.val (af x)],?_,L,_,_,rfl,λv n hv hn=>?_,hL.2⟩
    ·simp! only [F0,eq]
    ·rcases hv with hv|⟨rfl,hv⟩
     ·exact hL.1 v n (.inl hv) hn
     ·by_cases hni:n=i
      ·subst hni;rw [hx] at hn;cases hn;exact absurd rfl h
      ·exact hL.1 v n (.inr ⟨rfl,by omega⟩) hn)
  refine⟨[.val (cM W),.val (af g),.val (.int (L':Int)),.val (lp w),t4,t5],?_,L',_,t4,t5,rfl,λv n hv hn=>?_,hL'.2⟩
  ·simp! only [F0] at e;simp! only [NK,F0,e]
  ·obtain⟨k,hk,hv⟩:=hv
   by_cases hkj:k=j
   ·subst hkj;rw [hw] at hv;cases hv;refine hL'.1 _ n (.inr ⟨rfl,?_⟩) hn;rw [Nat.zero_add,bQ,zzl];exact(zzH.1 hn).1
   ·exact hL'.1 v n (.inl ⟨k,by omega,hv⟩) hn)
 refine⟨L,?_,λw i hw hi=>hL.1 w i ?_ hi,hL.2⟩
 ·simp! only [NK,F0] at e;simp! only [cN,e]
 ·obtain⟨j,hj⟩:=List.getElem?_of_mem hw
  exact⟨j,by rw [Nat.zero_add,zzl];exact(zzH.1 hj).1,hj⟩
def Lf.free{W:List Ks}{g:List Int}{L:Nat}(h:Lf W g (λw _=>w∈W) L){T:Nat}:iD W g T↔L<=T:=by
 constructor
 ·intro f;rcases h.2 with h0|⟨w,hw,i,hi,hl⟩
  ·omega
  ·have:¬T<=i:=λz=>f w hw i z hi
   omega
 ·intro l w hw i hi z;have:=h.1 w i hw z
  omega
theorem qr{ns:List Int}:∀j,j<ns.length->∃i,i<=j/\bM ns j=ns.getD i 0
 |0,_=>⟨0,zzE _,rfl⟩
 |j+1,h=>by
  obtain⟨i,h1,h2⟩:=qr (ns:=ns) j (by omega)
  rw [bM];split
  ·exact⟨j+1,zzE _,rfl⟩
  ·exact⟨i,by omega,h2⟩
theorem pV{ns:List Int}:∀j i,i<=j->ns.getD i 0<=bM ns j
 |0,i,h=>by rw [Nat.le_zero.1 h];exact Int.le_refl _
 |j+1,i,h=>by
  rw [bM]
  by_cases hi:i=j+1
  ·subst hi;split<;>omega
  ·have:=pV (ns:=ns) j i (by omega)
   split<;>omega
def mC{ns:List Int}(h:ns≠[]):(∀n∈ns,n<=bM ns (ns.length-1))/\bM ns (ns.length-1)∈ns:=by
 have hl:=List.length_pos_iff.2 h
 have gd:∀i (hi:i<ns.length),ns.getD i 0=ns[i]:=λi hi=>by simp [zzK,zzg hi]
 refine⟨λn hn=>?_,?_⟩
 ·obtain⟨i,hi,rfl⟩:=List.getElem_of_mem hn
  rw [<-gd i hi];exact pV _ i (by omega)
 ·obtain⟨i,h1,h2⟩:=qr (ns:=ns) (ns.length-1) (by omega)
  rw [h2,gd i (by omega)];exact List.getElem_mem _
def n9(W:List Ks)(st:Nat):Prop:=Still W st/\(st=0\/∃w∈W,w.length-1=st)
def yY(F:aM)(W:List Ks)(hW:∀w∈W,w≠[])(hl:W.length<=100):∃st:Nat,aq F br [cM W]=.ok (.int (st:Int))/\n9 W st:=by
 have l:W.length<cK:=zzV hl (by decide)
 have ev:aq F br [cM W]=.ok (.int (L2.maxD (W.map λw=>(w.length:Int)-1) 0)):=by
  have io:intsOf (W.map λw=>PV.int ((w.length:Int)-1))=some (W.map λw=>(w.length:Int)-1):=by
   have:=eQ (W.map λw=>(w.length:Int)-1)
   rwa [List.map_map] at this
  simp! only [br,zzl,l];rw [aQ (p:=lp) (g:=λw=>.int ((w.length:Int)-1)) λw hw=>by simp! only [zzl]]
  simp! only [io]
 rw [ev];unfold L2.maxD
 by_cases h:W=[]
 ·subst h;exact⟨0,rfl,(λw hw=>nomatch hw),.inl rfl⟩
 ·have fe:(W.map λw=>(w.length:Int)-1)≠[]:=λz=>h (List.map_eq_nil_iff.1 z)
  rw [if_neg fe];obtain⟨h1,h2⟩:=mC fe
  obtain⟨w,hw,e⟩:=zzx.1 h2
  have hp:=List.length_pos_iff.2 (hW w hw)
  refine⟨w.length-1,by rw [<-e,show((w.length-1:Nat):Int)=(w.length:Int)-1 by omega],λv hv=>?_,.inr ⟨w,hw,rfl⟩⟩
  have:=h1 _ (List.mem_map_of_mem hv)
  rw [<-e] at this;omega
theorem m4{α:Type}:∀(ps:List (List Int×α)) (ks:Ks) (vs:List α),(ks++ps.map (·.1)).Nodup->dO ps ks vs=(ks++ps.map (·.1),vs++ps.map (·.2))
 |[],ks,vs,_=>by simp [dO]
 |p::ps,ks,vs,h=>by
  have hn:da ks p.1=false:=by
   cases hx:da ks p.1 with
   |false=>rfl
   |true=>
    have:=(List.nodup_append.1 h).2.2 _ (cW.1 hx) p.1 (by simp)
    exact absurd rfl this
  have hm:=m4 ps (ks++[p.1]) (vs++[p.2]) (by rw [List.append_assoc];exact h)
  rw [dO,cI,cX,hn,if_neg (by simp),if_neg (by simp),hm,List.append_assoc,List.append_assoc]
  rfl
def hZ{U:Ks}{ks:Ks}(nd:ks.Nodup)(h:∀k∈ks,k∈U):ks.length<=U.length:=by
 induction ks generalizing U with
 |nil=>exact Nat.zero_le _
 |cons a ks ih=>
  obtain⟨n1,n2⟩:=List.nodup_cons.1 nd
  have ha:=h a (zzP ..)
  have:=ih (U:=U.erase a) n2 λk hk=>(List.mem_erase_of_ne (λz:k=a=>n1 (by rw [<-z];exact hk))).2 (h k (zzI _ hk))
  rw [List.length_erase_of_mem ha] at this;have:=List.length_pos_of_mem ha
  rw [zzL];omega
theorem fw{α:Type}{body:PV->Sl->Res Ci.Fl}{g:α->PV}{P:List α->Sl->Prop}:∀(l pre:List α) (env:Sl),(∀a∈l,∀pre env,P pre env->∃ag,body (g a) env=.ok (.nx ag)/\P (a::pre) ag)->P pre env->∃ag,forL body (l.map g) env=.ok (.nx ag)/\P (l.reverse++pre) ag
 |[],pre,env,_,h=>⟨env,rfl,h⟩
 |a::l,pre,env,h,h0=>by
  obtain⟨e1,b1,p1⟩:=h a (zzP ..) pre env h0
  obtain⟨e2,b2,p2⟩:=fw l (a::pre) e1 (λb hb=>h b (zzI _ hb)) p1
  exact⟨e2,by simp! [zzF,forL,b1,m8,b2],by rw [List.reverse_cons,List.append_assoc];exact p2⟩
theorem D1:∀L:List (List Int×PV),qY (L.map λq=>.tup [af q.1,q.2])=some L
 |[]=>rfl
 |q::L=>by
  show(eN (af q.1)).bind (λk'=>(qY (L.map λq=>.tup [af q.1,q.2])).map ((k',q.2)::·))=_
  rw [dm,D1 L]
  rfl
def nD{L:List (List Int×PV)}(nd:(L.map (·.1)).Nodup):bJ .dict [.lst (L.map λq=>.tup [af q.1,q.2])]=.ok (.bw (L.map (·.1)) (L.map (·.2))):=by
 show(Res.of (qY _)).bind _=_
 rw [D1];show Res.ok (PV.bw (dO L [] []).1 (dO L [] []).2)=_
 rw [m4 _ _ _ (by rw [List.nil_append];exact nd)]
 rfl
theorem iJ{α β:Type}{f:α->List Int}{g:α->β}:∀{L:List α} {w:α},(L.map f).Nodup->w∈L->aW (L.map f) (L.map g) (f w)=some (g w)
 |a::L,w,nd,h=>by
  obtain⟨n1,n2⟩:=List.nodup_cons.1 nd
  show(if f a=f w then some (g a) else aW (L.map f) (L.map g) (f w))=_
  rcases zzm.1 h with rfl|h
  ·rw [if_pos rfl]
  ·rw [if_neg λz=>n1 (by rw [z];exact List.mem_map_of_mem h)]
   exact iJ n2 h
theorem n5{α β:Type}{f:α->List Int}{g:α->β}{o:List Int}:∀{L:List α},(∀w∈L,f w≠o)->aW (L.map f) (L.map g) o=none
 |[],_=>rfl
 |a::L,h=>by
  show(if f a=o then some (g a) else aW (L.map f) (L.map g) o)=_
  rw [if_neg (h a (zzP ..))];exact n5 λw hw=>h w (zzI _ hw)
def neN(p:List Int):fC .aA (af p)=.ok (.bl true):=by
 show(if(Ci.plain 9 .aA&&Ci.plain 9 (af p))=true then Res.ok (PV.bl (!gX 9 .aA (af p))) else .bad)=_
 rw [eW 8]
 rfl
def pI{W:List Ks}(h:W.Pairwise Ap)(t:Nat):(W.map λw=>av w t).Nodup:=List.pairwise_map.2 (h.imp λ{a b} h=>(h t).1)
noncomputable def zQ:Ss:=#v[.ite (.and (.cmp .qH (!7) (!4)) (.cmp .ne (.get (!3) (!7)) (!6))) #v[.put 5 (!7) (!6)] .nil]
noncomputable def Ll:Ss:=#v[.bD (.one 7) (.seq (.bin .add (.lst #v[!6]) (.sub (!0) (!6)))) zQ]
abbrev HN(W:List Ks)(t:Nat):PV:=.bw (W.map λw=>av w t) (W.map λw=>af (av w (t+1)))
abbrev L3(W:List Ks)(t:Nat):PV:=.bw (W.map λw=>av w (t+1)) (W.map λ_=>.bl true)
abbrev qZ(A B C:PV)(W:List Ks)(t:Nat)(kl:Ks)(vl:List PV)(s6 s7:Ci.Slot):Sl:=[.val A,.val B,.val C,.val (HN W t),.val (L3 W t),.own (.bw kl vl),s6,s7]
section
variable{O:List Int->Prop}{W:List Ks}{t:Nat}{A B C:PV}
structure Nx(O:List Int->Prop)(D:List Int->List Int->Prop)(kl:Ks)(vl:List PV):Prop where
 len:kl.length=vl.length
 nd:kl.Nodup
 op:∀o∈kl,O o
 val:∀o q,aW kl vl o=some q->∃p,q=af p/\D p o
 all:∀p o,D p o->o∈kl
def HH(F:aM)(hO:∀u,O u->u∈vT)(Gm:W.Pairwise Ap){D:List Int->List Int->Prop}{p o:List Int}(ho:O o){kl:Ks}{vl:List PV}(N:Nx O D kl vl)(s7:Ci.Slot):
 ∃zu yx,(((Tg.one 7).put (af o) (qZ A B C W t kl vl (.val (af p)) s7)).bind λag=>aB F zQ ag)=.ok (.nx (qZ A B C W t zu yx (.val (af p)) (.val (af o))))/\Nx O (λp' o'=>D p' o'\/(p'=p/\o'=o/\Mv W t p o)) zu yx:=by
 have MT:=pI Gm t
 have e1:gb (af o) (L3 W t)=.ok (.bl (!da (W.map λw=>av w (t+1)) o)):=Kl
 have l:kl.length<cK:=zzV (zzU (hZ N.nd λk hk=>hO k (N.op k hk)) (Nat.le_of_eq t9)) (by decide)
 have fY:¬Mv W t p o->Nx O (λp' o'=>D p' o'\/(p'=p/\o'=o/\Mv W t p o)) kl vl:=λh=>
  ⟨N.len,N.nd,N.op,λo q hq=>(N.val o q hq).imp λp h=>⟨h.1,.inl h.2⟩,λp' o' h'=>h'.elim (N.all p' o') λz=>absurd z.2.2 h⟩
 by_cases h1:∃w∈W,av w (t+1)=o
 ·obtain⟨w,hw,e⟩:=h1
  have hg:da (W.map λw=>av w (t+1)) o=true:=cW.2 (zzx.2 ⟨w,hw,e⟩)
  rw [hg] at e1;refine⟨kl,vl,?_,fY λm=>(m w hw).1 e⟩
  simp! only [zQ,qZ,e1]
 ·have hg:da (W.map λw=>av w (t+1)) o=false:=by
   cases hx:da (W.map λw=>av w (t+1)) o with
   |false=>rfl
   |true=>obtain⟨w,hw,e⟩:=zzx.1 (cW.1 hx);exact absurd ⟨w,hw,e⟩ h1
  rw [hg] at e1;have put:Mv W t p o->Nx O (λp' o'=>D p' o'\/(p'=p/\o'=o/\Mv W t p o)) (cI kl o) (cX kl vl o (af p)):=λm=>by
   have gp:=j8 N.len o (af p)
   refine⟨pA N.len _ _,pM N.nd _,λx hx=>?_,λx q hq=>?_,λp' o' h'=>?_⟩
   ·unfold cI at hx;split at hx
    ·exact N.op x hx
    ·rcases List.mem_append.1 hx with hx|hx
     ·exact N.op x hx
     ·rw [zzi.1 hx];exact ho
   ·rw [gp] at hq;split at hq
    ·rename_i z;subst z;cases hq;exact⟨p,rfl,.inr ⟨rfl,rfl,m⟩⟩
    ·exact(N.val x q hq).imp λp h=>⟨h.1,.inl h.2⟩
   ·unfold cI;rcases h' with h'|⟨_,rfl,_⟩
    ·have:=N.all p' o' h'
     split
     ·exact this
     ·exact List.mem_append.2 (.inl this)
    ·split
     ·rename_i z;exact cW.1 z
     ·exact List.mem_append.2 (.inr (zzi.2 rfl))
  by_cases h2:∃w∈W,av w t=o
  ·obtain⟨w,hw,e⟩:=h2
   have e2:(aW (W.map λw=>av w t) (W.map λw=>af (av w (t+1))) o).getD .aA=af (av w (t+1)):=by
    rw [<-e,iJ (f:=λw=>av w t) (g:=λw=>af (av w (t+1))) MT hw]
    rfl
   have e3:=KI (av w (t+1)) p
   by_cases h3:av w (t+1)=p
   ·rw [zzh h3] at e3;refine⟨kl,vl,?_,fY λm=>(m w hw).2 ⟨e,h3⟩⟩
    simp! only [zQ,qZ,e1,dm,e2,e3]
   ·rw [zz0 h3] at e3;have m:Mv W t p o:=λv hv=>⟨λz=>h1 ⟨v,hv,z⟩,λz=>by
     have:v=w:=by
      by_cases hvw:v=w
      ·exact hvw
      ·have g1:=iJ (f:=λw=>av w t) (g:=λw=>av w (t+1)) MT hv
       have g2:=iJ (f:=λw=>av w t) (g:=λw=>av w (t+1)) MT hw
       rw [show av v t=av w t by rw [z.1,e]] at g1;rw [g1] at g2;exact absurd ((zzq g2).symm.trans z.2) h3
     subst this;exact h3 z.2⟩
    refine⟨_,_,?_,put m⟩;simp! only [zQ,qZ,e1,dm,e2,e3,l]
  ·have e2:(aW (W.map λw=>av w t) (W.map λw=>af (av w (t+1))) o).getD .aA=.aA:=by
    rw [n5 (f:=λw=>av w t) (g:=λw=>af (av w (t+1))) λw hw z=>h2 ⟨w,hw,z⟩]
    rfl
   have e3:=neN p
   have m:Mv W t p o:=λv hv=>⟨λz=>h1 ⟨v,hv,z⟩,λz=>h2 ⟨v,hv,z.1⟩⟩
   refine⟨_,_,?_,put m⟩;simp! only [zQ,qZ,e1,dm,e2,e3,l]
def Fy(F:aM){E:List Int->List Int->Int->Prop}(hE:∀u v e,E u v e->O v)(hO:∀u,O u->u∈vT){ks:Ks}{vs:List PV}(Gm:W.Pairwise Ap){D:List Int->List Int->Prop}{p:List Int}(hp:O p)(JP:Gd E ks vs p){kl:Ks}{vl:List PV}(N:Nx O D kl vl)(s6 s7:Ci.Slot):
 ∃zu yx EV,(((Tg.one 6).put (af p) (qZ (.bw ks vs) B C W t kl vl s6 s7)).bind λag=>aB F Ll ag)=.ok (.nx (qZ (.bw ks vs) B C W t zu yx (.val (af p)) EV))/\Nx O (λp' o'=>D p' o'\/(p'=p/\Nb E p o'/\Mv W t p o')) zu yx:=by
 obtain⟨T,eT,hm,lT⟩:=JP
 have e1:aF (.bw ks vs) (af p)=.ok (lp T):=by
  show(Res.of (eN (af p))).bind (λk=>Res.of (aW ks vs k))=_
  rw [dm];show Res.of (aW ks vs p)=_
  rw [eT]
  rfl
 have l:1+(T.map af).length<=cK:=zzU (m:=101) (by rw [zzl];omega) (by decide)
 obtain⟨ag,e2,zu,yx,EV,rfl,N'⟩:=fw (body:=λx env=>((Tg.one 7).put x env).bind λag=>aB F zQ ag) (g:=af) (P:=λpre env=>∃kl vl s7,env=qZ (.bw ks vs) B C W t kl vl (.val (af p)) s7/\Nx O (λp' o'=>D p' o'\/(p'=p/\o'∈pre/\Mv W t p o')) kl vl) (p::T) [] (qZ (.bw ks vs) B C W t kl vl (.val (af p)) s7) (λo ho pre env hj=>by
  obtain⟨kl,vl,s7,rfl,N⟩:=hj
  have oo:O o:=by
   rcases zzm.1 ho with rfl|ho
   ·exact hp
   ·obtain⟨e,he⟩:=(hm o).1 ho;exact hE _ _ _ he
  obtain⟨zu,yx,e,N'⟩:=HH F (A:=.bw ks vs) (B:=B) (C:=C) hO Gm oo (p:=p) N s7
  refine⟨_,e,zu,yx,_,rfl,N'.len,N'.nd,N'.op,λo' q hq=>?_,λp' o' h'=>N'.all p' o' ?_⟩
  ·obtain⟨p',h1,h2⟩:=N'.val o' q hq
   refine⟨p',h1,?_⟩;rcases h2 with(h2|⟨a,b,c⟩)|⟨a,b,c⟩
   ·exact .inl h2
   ·exact .inr ⟨a,zzI _ b,c⟩
   ·exact .inr ⟨a,by rw [b];exact zzP ..,by rw [b];exact c⟩
  ·rcases h' with h'|⟨a,b,c⟩
   ·exact .inl (.inl h')
   ·rcases zzm.1 b with rfl|b
    ·exact .inr ⟨a,rfl,c⟩
    ·exact .inl (.inr ⟨a,b,c⟩)) ⟨kl,vl,s7,rfl,N.len,N.nd,N.op,λo q hq=>(N.val o q hq).imp λp h=>⟨h.1,.inl h.2⟩,λp' o' h'=>N.all p' o' (h'.elim id λz=>nomatch z.2.1)⟩
 refine⟨zu,yx,EV,?_,N'.len,N'.nd,N'.op,λo q hq=>?_,λp' o' h'=>N'.all p' o' ?_⟩
 ·simp! only [zQ,qZ,zzF] at e2;simp! only [Ll,zQ,qZ,e1,l,e2]
 ·obtain⟨p',h1,h2⟩:=N'.val o q hq
  refine⟨p',h1,h2.imp_right λ⟨a,b,c⟩=>⟨a,?_,c⟩⟩
  rw [zz6,List.mem_reverse] at b;rcases zzm.1 b with rfl|b
  ·exact .inl rfl
  ·exact .inr ((hm o).1 b)
 ·refine h'.imp_right λ⟨a,b,c⟩=>⟨a,?_,c⟩
  rw [zz6,List.mem_reverse];rcases b with rfl|b
  ·exact zzP ..
  ·exact zzI _ ((hm o').2 b)
end
def Bs(F:aM){E:List Int->List Int->Int->Prop}{O:List Int->Prop}(hE:∀u v e,E u v e->O v)(hO:∀u,O u->u∈vT){ks:Ks}{vs:List PV}(JP:∀u,O u->Gd E ks vs u){W:List Ks}(Gm:W.Pairwise Ap)(hl:W.length<=100)(t:Nat){kr:Ks}{vr:List PV}(hk:∀u∈kr,O u):
 ∃kl vl,aq F bS [.bw ks vs,.bw kr vr,pS W t]=.ok (.bw kl vl)/\Nx O (λp o=>p∈kr/\Nb E p o/\Mv W t p o) kl vl:=by
 have l:W.length<cK:=zzV hl (by decide)
 have d1:bJ .dict [pS W t]=.ok (HN W t):=by
  have:=nD (L:=W.map λw=>(av w t,af (av w (t+1)))) (by rw [List.map_map];exact pI Gm t)
  rw [List.map_map,List.map_map,List.map_map] at this;exact this
 have d2:bJ .dict [.lst (W.map λw=>.tup [af (av w (t+1)),.bl true])]=.ok (L3 W t):=by
  have:=nD (L:=W.map λw=>(av w (t+1),PV.bl true)) (by rw [List.map_map];exact pI Gm (t+1))
  rw [List.map_map,List.map_map,List.map_map] at this;exact this
 obtain⟨ag,e2,kl,vl,s6,s7,rfl,N⟩:=fw (body:=λx env=>((Tg.one 6).put x env).bind λag=>aB F Ll ag) (g:=af) (P:=λpre env=>∃kl vl s6 s7,env=qZ (.bw ks vs) (.bw kr vr) (pS W t) W t kl vl s6 s7/\Nx O (λp o=>p∈pre/\Nb E p o/\Mv W t p o) kl vl) kr [] (qZ (.bw ks vs) (.bw kr vr) (pS W t) W t [] [] .no .no) (λp hp pre env hj=>by
  obtain⟨kl,vl,s6,s7,rfl,N⟩:=hj
  obtain⟨zu,yx,EV,e,N'⟩:=Fy F (B:=.bw kr vr) (C:=pS W t) (t:=t) hE hO Gm (hk p hp) (JP p (hk p hp)) N s6 s7
  refine⟨_,e,zu,yx,_,EV,rfl,N'.len,N'.nd,N'.op,λo q hq=>?_,λp' o' h'=>N'.all p' o' ?_⟩
  ·obtain⟨p',h1,h2⟩:=N'.val o q hq
   refine⟨p',h1,?_⟩;rcases h2 with⟨a,b⟩|⟨rfl,b⟩
   ·exact⟨zzI _ a,b⟩
   ·exact⟨zzP ..,b⟩
  ·obtain⟨a,b⟩:=h'
   rcases zzm.1 a with rfl|a
   ·exact .inr ⟨rfl,b⟩
   ·exact .inl ⟨a,b⟩) ⟨[],[],.no,.no,rfl,rfl,List.nodup_nil,(λo h=>nomatch h),(λo q h=>by simp [aW] at h),λp o h=>nomatch h.1⟩
 refine⟨kl,vl,?_,N.len,N.nd,N.op,λo q hq=>?_,λp o h=>N.all p o ⟨by simpa using h.1,h.2⟩⟩
 ·have sq:qN (.var 1) (.bw kr vr)=.ok (kr.map af):=rfl
  have c1:aD (λx=>((Tg.one 0).put x [.no]).bind λag=>(aC F (.tup (.cons (.sub (.var 0) (.cst (.int 1))) (.cons (.cst (.bl true)) .nil))) ag).bind λy=>.ok (some y)) (W.map λw=>.tup [af (av w t),af (av w (t+1))])=.ok (W.map λw=>.tup [af (av w (t+1)),.bl true]):=by
   rw [aQ (p:=λw=>.tup [af (av w t),af (av w (t+1))]) (g:=λw=>.tup [af (av w (t+1)),.bl true]) λw hw=>?_]
   have s1:aF (.tup [af (av w t),af (av w (t+1))]) (.int 1)=.ok (af (av w (t+1))):=rfl
   simp! only [s1]
  have lm:(W.map λw=>PV.tup [af (av w t),af (av w (t+1))]).length<cK:=by rw [zzl];exact l
  have qm:qN (.var 2) (pS W t)=.ok (W.map λw=>PV.tup [af (av w t),af (av w (t+1))]):=rfl
  simp! only [Ll,zQ,qZ] at e2;simp! only [] at c1;simp! only [bS,d1,qm,lm,c1,d2,sq,e2,vg]
 ·obtain⟨p,h1,h2,h3⟩:=N.val o q hq
  exact⟨p,h1,by simpa using h2,h3⟩
def wb{α:Type}(xs:List α)(x:α):qw (xs++[x]) (-1)=some x:=by
 unfold qw Hi;have h1:¬(0:Int)<= -1:=by decide
 have h2: -((xs++[x]).length:Int)<= -1:=by simp! [zzM,List.length_singleton];omega
 rw [if_neg h1,if_pos h2];have h3:(-1+((xs++[x]).length:Int)).toNat=xs.length:=by simp! [zzM,List.length_singleton];omega
 rw [h3];simp
def jm(xs:List PV)(x:PV):aF (.lst (xs++[x])) (.int (-1))=.ok x:=by
 simp! [aF,wb]
 rfl
def cE:E:=.or (.cmp .qH (!3) (.sub (.f9 6) (.neg (¬1)))) (.cmp .lt (.bin .sub (.blt .len #v[.f9 6]) (¬1)) (!4))
noncomputable def bE:Ss:=#v[.set 7 (.bin .sub (.blt .len #v[.f9 6]) (¬1)),.set 8 (.call "reached_next" #v[!0,.sub (.f9 6) (.neg (¬1)),.call "moves_at" #v[!1,!7]]),.ite (.and (.cmp .ge (!7) (!5)) (.cmp .eq (.blt .len #v[!8]) (.blt .len #v[.sub (.f9 6) (.neg (¬1))]))) #v[.ret (.cst .aA)] .nil,.app 6 (!8)]
def tB:Ss:=#v[.app 2 (.sub (!3) (.sub (.f9 2) (.neg (¬1))))]
abbrev dP(d:Ks×List PV):PV:=.bw d.1 d.2
section
variable{E:List Int->List Int->Int->Prop}{O:List Int->Prop}{W:List Ks}{s:List Int}
structure Dk(E:List Int->List Int->Int->Prop)(W:List Ks)(s:List Int)(j:Nat)(d:Ks×List PV):Prop where
 key:∀x,x∈d.1↔Rc E W s j x
 nd:d.1.Nodup
 len:d.1.length=d.2.length
 par:∀i,j=i+1->∀o q,aW d.1 d.2 o=some q->∃p,q=af p/\Rc E W s i p/\Nb E p o/\Mv W i p o
inductive Pw(E:List Int->List Int->Int->Prop)(W:List Ks)(s:List Int):Nat->Ks->List Int->Prop
 |one:Pw E W s 0 [s] s
 |snoc {j:Nat} {l:Ks} {p x:List Int}:Pw E W s j l p->Nb E p x->Mv W j p x->Pw E W s (j+1) (l++[x]) x
def jn{l:Ks}{x:List Int}{i:Nat}(h:i<l.length):av (l++[x]) i=av l i:=by
 rw [eO h,eO (by rw [zzM];omega),List.getElem_append_left h]
def xx{l:Ks}{x:List Int}:av (l++[x]) l.length=x:=by
 rw [eO (by simp)];simp
def Pw.all{j:Nat}{l:Ks}{x:List Int}(h:Pw E W s j l x):l.length=j+1/\av l 0=s/\av l j=x/\∀i,i<j->Nb E (av l i) (av l (i+1))/\Mv W i (av l i) (av l (i+1)):=by
 induction h with
 |one=>exact⟨rfl,rfl,rfl,λi h=>absurd h (Nat.not_lt_zero _)⟩
 |@snoc j l p x h n m ih=>
  obtain⟨h1,h2,h3,h4⟩:=ih
  have e:av (l++[x]) (j+1)=x:=by rw [<-h1];exact xx
  refine⟨by simp [h1],by rw [jn (by omega)];exact h2,e,λi hi=>?_⟩
  by_cases LJ:i=j
  ·subst LJ;rw [e,jn (by omega),h3];exact⟨n,m⟩
  ·rw [jn (by omega),jn (by omega)];exact h4 i (by omega)
def Pw.op(hE:∀u v e,E u v e->O v){j:Nat}{l:Ks}{x:List Int}(h:Pw E W s j l x)(hs:O s):(∀y∈l,O y)/\O x:=by
 induction h with
 |one=>exact⟨λy hy=>by rw [zzi.1 hy];exact hs,hs⟩
 |snoc _ n _ ih=>
  have ox:O _:=n.elim (λz=>z▸ih.2) λ⟨e,z⟩=>hE _ _ _ z
  refine⟨λy hy=>?_,ox⟩
  rcases List.mem_append.1 hy with hy|hy
  ·exact ih.1 y hy
  ·rw [zzi.1 hy];exact ox
def dn(D:List (Ks×List PV))(j:Nat):List (Ks×List PV):=((D.take (j+1)).drop 1).reverse
def Ac{D:List (Ks×List PV)}{j:Nat}{d:Ks×List PV}(h:D[j+1]?=some d):dn D (j+1)=d::dn D j:=by
 obtain⟨hl,rfl⟩:=zzH.1 h
 unfold dn;rw [<-List.take_append_getElem hl,List.drop_append_of_le_length (by rw [List.length_take];omega),List.reverse_append]
 rfl
theorem m5(F:aM){D:List (Ks×List PV)}(hD:∀j d,D[j]?=some d->Dk E W s j d)(A G:PV):∀(j:Nat) (x:List Int) (ys:List PV) (s3:Ci.Slot),j<D.length->Rc E W s j x->ys.length+j<=5000->∃l Ge,forL (λx env=>((Tg.one 3).put x env).bind λag=>aB F tB ag) ((dn D j).map dP) [.val A,.val G,.own (.lst (ys++[af x])),s3]=.ok (.nx [.val A,.val G,.own (.lst (ys++l.reverse.map af)),Ge])/\Pw E W s j l x
 |0,x,ys,s3,hj,hx,hy=>by
  refine⟨[s],s3,?_,?_⟩
  ·have:dn D 0=[]:=by
    unfold dn;cases D<;>rfl
   rw [this,show x=s from hx]
   rfl
  ·rw [show x=s from hx];exact .one
 |j+1,x,ys,s3,hj,hx,hy=>by
  have hd:D[j+1]?=some D[j+1]:=zzg hj
  have K:=hD _ _ hd
  have:(aW D[j+1].1 D[j+1].2 x).isSome=true:=by rw [<-fR x K.len];exact cW.2 ((K.key x).2 hx)
  obtain⟨q,hq⟩:=zzp.1 this
  obtain⟨p,rfl,rp,n,m⟩:=K.par j rfl x q hq
  obtain⟨l,Ge,e,pw⟩:=m5 F hD A G j p (ys++[af x]) (.val (dP D[j+1])) (by omega) rp (by rw [zzM,List.length_singleton];omega)
  refine⟨l++[x],Ge,?_,.snoc pw n m⟩;have e1:=jm ys (af x)
  have e2:aF (dP D[j+1]) (af x)=.ok (af p):=by
   show(Res.of (eN (af x))).bind (λk=>Res.of (aW _ _ k))=_
   rw [dm];show Res.of (aW _ _ x)=_
   rw [hq]
   rfl
  have l1:(ys++[af x]).length<cK:=zzV (m:=5001) (by rw [zzM,List.length_singleton];omega) (by decide)
  have eb:(((Tg.one 3).put (dP D[j+1]) [.val A,.val G,.own (.lst (ys++[af x])),s3]).bind λag=>aB F tB ag)=.ok (.nx [.val A,.val G,.own (.lst (ys++[af x]++[af p])),.val (dP D[j+1])]):=by
   simp! only [tB,e1,e2,l1]
  rw [Ac hd,zzF,forL,eb,m8];refine e.trans ?_;simp
def zT(F:aM){D:List (Ks×List PV)}(hD:∀j d,D[j]?=some d->Dk E W s j d){T:Nat}(hT:D.length=T+1)(h5:T<=4000){g:List Int}(hg:Rc E W s T g):∃l,aq F cg [.lst (D.map dP),af g]=.ok (lp l)/\Pw E W s T l g:=by
 obtain⟨l,s3,e,pw⟩:=m5 F hD (.lst (D.map dP)) (af g) T g [] .no (by omega) hg (by simp;omega)
 refine⟨l,?_,pw⟩;have e1:(dn D T).map dP=((D.map dP).drop 1).reverse:=by
  unfold dn;rw [List.take_of_length_le (by omega),List.map_reverse,List.map_drop]
 have e2:dZ (.lst (D.map dP)) (some 1) none=.ok (.lst ((D.map dP).drop 1)):=by
  have:=rl (D.map dP) (k:=1) (by rw [zzl];omega)
  exact congrArg (λz=>Res.ok (PV.lst z)) this
 rw [e1] at e;simp! only [tB,List.nil_append] at e;simp! only [cg,e2,e,List.map_reverse,List.reverse_reverse]
end
theorem FW{ks kl:Ks}(nd:ks.Nodup)(h:∀x∈ks,x∈kl)(hl:kl.length<=ks.length):∀x∈kl,x∈ks:=λx hx=>Classical.byContradiction λz=>by
 have:=hZ (U:=kl) (List.nodup_cons.2 ⟨z,nd⟩) λy hy=>by
  rcases zzm.1 hy with rfl|hy
  ·exact hx
  ·exact h y hy
 rw [zzL] at this;omega
structure HP(F:aM)(E:List Int->List Int->Int->Prop)(O:List Int->Prop)(S:Ks)(W:List Ks)(A:PV)(s g:List Int)(L st:Nat):Prop where
 hE:∀u v e,E u v e->O v
 hO:∀u,O u->u∈vT
 hS:∀u,O u->u∈S
 os:O s
 ne:∀w∈W,w≠[]
 iS:W.length<=100
 ap:W.Pairwise Ap
 h0:∀w∈W,av w 0≠s
 he:∀w∈W,av w (w.length-1)≠g
 lf:Lf W g (λw _=>w∈W) L
 sn:n9 W st
 mv:xH F
 nx:∀t kr vr,(∀u∈kr,O u)->∃kl vl,F "reached_next" [A,.bw kr vr,pS W t]=.ok (.bw kl vl)/\Nx O (λp o=>p∈kr/\Nb E p o/\Mv W t p o) kl vl
section
variable{F:aM}{E:List Int->List Int->Int->Prop}{O:List Int->Prop}{S:Ks}{W:List Ks}{A:PV}{s g:List Int}{L st:Nat}
def HP.Mi(e:HP F E O S W A s g L st):L<=st:=by
 rcases e.lf.2 with h|⟨w,hw,i,hi,hl⟩
 ·omega
 ·have h1:=(zzH.1 hi).1
  have h2:=e.sn.1 w hw
  by_cases h3:i=w.length-1
  ·have h4:=dI (e.ne w hw) (w.length-1)
   rw [Nat.min_self,<-h3,hi] at h4;exact absurd (by rw [<-h3];exact(zzq h4).symm) (e.he w hw)
  ·omega
def Dk.step(e:HP F E O S W A s g L st){t:Nat}{d:Ks×List PV}(k:Dk E W s t d):∃d',F "reached_next" [A,dP d,pS W t]=.ok (dP d')/\Dk E W s (t+1) d':=by
 obtain⟨kl,vl,e1,N⟩:=e.nx t d.1 d.2 λu hu=>dX e.hE e.os ((k.key u).1 hu)
 refine⟨(kl,vl),e1,λx=>⟨λhx=>?_,λ⟨p,h1,h2,h3⟩=>N.all p x ⟨(k.key p).2 h1,h2,h3⟩⟩,N.nd,N.len,λi hi o q hq=>?_⟩
 ·have:(aW kl vl x).isSome=true:=by rw [<-fR x N.len];exact cW.2 hx
  obtain⟨q,hq⟩:=zzp.1 this
  obtain⟨p,_,h1,h2⟩:=N.val x q hq
  exact⟨p,(k.key p).1 h1,h2⟩
 ·obtain rfl:i=t:=by omega
  obtain⟨p,h1,h2,h3⟩:=N.val o q hq
  exact⟨p,h1,(k.key p).1 h2,h3⟩
def Dk.le(e:HP F E O S W A s g L st){t:Nat}{d:Ks×List PV}(k:Dk E W s t d):d.1.length<=S.length:=
 hZ k.nd λu hu=>e.hS u (dX e.hE e.os ((k.key u).1 hu))
noncomputable abbrev vV(A:PV)(W:List Ks)(s g:List Int)(L st:Nat)(ts:List PV)(s7 s8:Ci.Slot):Sl:=[.val A,.val (cM W),.val (af s),.val (af g),.val (.int (L:Int)),.val (.int (st:Int)),.own (.lst ts),s7,s8]
theorem sZ(e:HP F E O S W A s g L st)(hb:st<=2000)(hS:S.length<=36):∀(n t:Nat) (ds:List (Ks×List PV)) (d:Ks×List PV) (s7 s8:Ci.Slot),ds.length=t->(∀j d',(ds++[d])[j]?=some d'->Dk E W s j d')->(∀T,T<t->¬(Rc E W s T g/\L<=T))->(st<=t->t-st<=d.1.length)->st+S.length+2<=n+t->
 (dj (aC F cE) (aB F bE) n (vV A W s g L st ((ds++[d]).map dP) s7 s8)=.ok (.rt .aA)/\∀T,¬(Rc E W s T g/\L<=T))\/
 ∃(T:Nat) (D:List (Ks×List PV)) (EV Rn:Ci.Slot),dj (aC F cE) (aB F bE) n (vV A W s g L st ((ds++[d]).map dP) s7 s8)=.ok (.nx (vV A W s g L st (D.map dP) EV Rn))/\D.length=T+1/\(∀j d',D[j]?=some d'->Dk E W s j d')/\Rc E W s T g/\L<=T/\(∀T',T'<T->¬(Rc E W s T' g/\L<=T'))/\T<=st+S.length
 |0,t,ds,d,s7,s8,hl,hD,hT,hg,hn=>by
  have K:=hD t d (by rw [<-hl];simp)
  have:=K.le e
  have:=hg (by omega)
  omega
 |n+1,t,ds,d,s7,s8,hl,hD,hT,hg,hn=>by
  have K:=hD t d (by rw [<-hl];simp)
  have kl:=K.le e
  have tb:t<=st+S.length:=by
   by_cases h:st<=t
   ·have:=hg h;omega
   ·omega
  have em:(ds++[d]).map dP=ds.map dP++[dP d]:=by rw [List.map_append];rfl
  have e1:=jm (ds.map dP) (dP d)
  have e2:gb (af g) (dP d)=.ok (.bl (!da d.1 g)):=Kl
  have Gu:((ds.map dP++[dP d]).length:Int)-1=(t:Int):=by simp! [zzM,zzl,List.length_singleton,hl];omega
  have hc:aC F cE (vV A W s g L st (ds.map dP++[dP d]) s7 s8)=.ok (.bl (!da d.1 g||decide ((t:Int)<(L:Int)))):=by
   simp! only [cE,vV,e1,e2,Gu,wa]
  by_cases stop:Rc E W s t g/\L<=t
  ·have hh:(!da d.1 g||decide ((t:Int)<(L:Int)))=false:=by
    rw [cW.2 ((K.key g).2 stop.1),zz0 (by omega)]
    rfl
   rw [hh] at hc;refine .inr ⟨t,ds++[d],s7,s8,?_,by simp [hl],hD,stop.1,stop.2,hT,tb⟩;rw [em];simp! [dj,hc,m8,JV,zze,if_false]
  ·have hh:(!da d.1 g||decide ((t:Int)<(L:Int)))=true:=by
    cases hx:da d.1 g with
    |false=>rfl
    |true=>
     have:=(K.key g).1 (cW.1 hx)
     rw [Bool.not_true,Bool.false_or,zzN];have:¬L<=t:=λz=>stop ⟨this,z⟩
     omega
   rw [hh] at hc;obtain⟨d',e3,K'⟩:=K.step e
   have e4:=e.mv W e.ne e.iS t
   have ge:pG (.int (t:Int)) (.int (st:Int))=.ok (.bl (decide (st<=t))):=by
    show Res.ok (PV.bl (decide ((st:Int)<=(t:Int))))=_
    congr 2
    exact decide_eq_decide.2 (by omega)
   have ei:((d'.1.length:Int)==(d.1.length:Int))=decide (d'.1.length=d.1.length):=by
    rw [Bool.eq_iff_iff,zzy,zzN];omega
   have ld:bJ .len [dP d]=.ok (.int (d.1.length:Int)):=FE
   have OU:bJ .len [dP d']=.ok (.int (d'.1.length:Int)):=FE
   have ll:(ds.map dP++[dP d]).length<cK:=zzV (m:=5000) (by simp! [zzM,zzl,List.length_singleton,hl];omega) (by decide)
   have grow:st<=t->∀x,Rc E W s t x->Rc E W s (t+1) x:=λh x hx=>Bc e.sn.1 e.h0 h hx
   have next:∀T,T<t+1->¬(Rc E W s T g/\L<=T):=λT h=>by
    by_cases hTt:T=t
    ·subst hTt;exact stop
    ·exact hT T (by omega)
   by_cases stuck:st<=t/\d'.1.length=d.1.length
   ·refine .inl ⟨?_,λT hq=>?_⟩
    ·have eb:aB F bE (vV A W s g L st (ds.map dP++[dP d]) s7 s8)=.ok (.rt .aA):=by
      simp! only [bE,vV,Gu,e1,e4,e3,ge,zzh stuck.1,ld,OU,ei,zzh stuck.2]
     rw [em];simp! [dj,hc,m8,JV,if_true,eb]
    ·by_cases hTt:T<t+1
     ·exact next T hTt hq
     ·have same:∀x,Rc E W s (t+1) x↔Rc E W s t x:=λx=>⟨λhx=>(K.key x).1 (FW K.nd (λy hy=>(K'.key y).2 (grow stuck.1 y ((K.key y).1 hy))) (by omega) x ((K'.key x).2 hx)),grow stuck.1 x⟩
      have:=(jZ e.sn.1 stuck.1 same (T-t) g).1 (by rw [show t+(T-t)=T by omega];exact hq.1)
      exact stop ⟨this,zzU e.Mi stuck.1⟩
   ·have cond:(decide (st<=t)&&decide (d'.1.length=d.1.length))=false:=by
     cases h1:decide (st<=t) with
     |false=>rfl
     |true=>rw [Bool.true_and];exact zz0 λz=>stuck ⟨zzY h1,z⟩
    have eb:aB F bE (vV A W s g L st (ds.map dP++[dP d]) s7 s8)=.ok (.nx (vV A W s g L st (ds.map dP++[dP d]++[dP d']) (.val (.int (t:Int))) (.val (dP d')))):=by
     simp! only [bE,vV,Gu,e1,e4,e3,ge,ld,OU,ei,iq,cond,ll]
    have LZ:∀j LH,(ds++[d]++[d'])[j]?=some LH->Dk E W s j LH:=λj LH h=>by
     by_cases hj:j<(ds++[d]).length
     ·rw [zzr hj] at h;exact hD j LH h
     ·have RF:=(zzH.1 h).1
      have:j=t+1:=by simp! [zzM,List.length_singleton,hl] at hj RF;omega
      subst this;rw [zzs (by simp [hl])] at h;simp! [zzM,List.length_singleton,hl,Nat.sub_self] at h;cases h;exact K'
    have ih:=sZ e hb hS n (t+1) (ds++[d]) d' (.val (.int (t:Int))) (.val (dP d')) (by simp [hl]) LZ next (λh=>by
     by_cases h2:st<=t
     ·have h3:=hg h2
      have h4:=hZ K.nd λx hx=>(K'.key x).2 (grow h2 x ((K.key x).1 hx))
      have h5:d'.1.length≠d.1.length:=λz=>stuck ⟨h2,z⟩
      omega
     ·omega) (by omega)
    have QL:(ds++[d]++[d']).map dP=ds.map dP++[dP d]++[dP d']:=by simp
    rw [QL] at ih;rw [em];simp! [dj,hc,m8,JV,if_true,eb];exact ih
end
def Kw(E:List Int->List Int->Int->Prop)(O:List Int->Prop)(S:Ks)(A:PV)(f:List PV->Res PV):Prop:=∀(W:List Ks) (s g:List Int) (B:Nat),O s->(∀w∈W,w≠[])->W.length<=100->W.Pairwise Ap->(∀w∈W,av w 0≠s)->(∀w∈W,av w (w.length-1)≠g)->(∀w∈W,w.length<=B)->B<=1000->∃o:Option Ks,f [A,cM W,af s,af g]=.ok (o.elim .aA lp)/\K9 E O S.length W s g (B+S.length+1) o
def xC(F:aM){E:List Int->List Int->Int->Prop}{O:List Int->Prop}{S:Ks}{A:PV}(hE:∀u v e,E u v e->O v)(hO:∀u,O u->u∈vT)(hS:∀u,O u->u∈S)(lS:S.length<=36)(hl:∀W g,∃L:Nat,F "left_from" [cM W,af g]=.ok (.int (L:Int))/\Lf W g (λw _=>w∈W) L)(cJ:∀W,(∀w∈W,w≠[])->W.length<=100->∃st:Nat,F "still_from" [cM W]=.ok (.int (st:Int))/\n9 W st)
 (hm:xH F) (hn:∀W,W.Pairwise Ap->W.length<=100->∀t kr vr,(∀u∈kr,O u)->∃kl vl,F "reached_next" [A,.bw kr vr,pS W t]=.ok (.bw kl vl)/\Nx O (λp o=>p∈kr/\Nb E p o/\Mv W t p o) kl vl)
 (ht:∀(W:List Ks) (s:List Int) (D:List (Ks×List PV)) (T:Nat) (g:List Int),(∀j d,D[j]?=some d->Dk E W s j d)->D.length=T+1->T<=4000->Rc E W s T g->∃l,F "traced_back" [.lst (D.map dP),af g]=.ok (lp l)/\Pw E W s T l g):Kw E O S A (aq F bx):=by
 intro W s g B os ne iS ap h0 he hB hB1;obtain⟨L,e1,lf⟩:=hl W g
 obtain⟨st,e2,sn⟩:=cJ W ne iS
 have er:HP F E O S W A s g L st:=⟨hE,hO,hS,os,ne,iS,ap,h0,he,lf,sn,hm,hn W ap iS⟩
 have Jv:st<=B:=by
  rcases sn.2 with h|⟨w,hw,h⟩
  ·omega
  ·have:=hB w hw;omega
 have l:W.length<cK:=zzV iS (by decide)
 have Rw:Dk E W s 0 ([s],[.aA]):=⟨λx=>zzi,by simp,rfl,λi h=>by omega⟩
 have lw:=sZ er (by omega) lS WN 0 [] ([s],[.aA]) .no .no rfl (λj d' h=>by
  cases j with
  |zero=>cases h;exact Rw
  |succ j=>cases h) (λT h=>absurd h (Nat.not_lt_zero _)) (λh=>by omega) (by have:WN=1000000:=rfl;omega)
 have c1:aD (λx=>((Tg.one 0).put x [.no]).bind λag=>(aC F (.sub (.var 0) (.cst (.int 0))) ag).bind λy=>.ok (some y)) (W.map lp)=.ok ((W.map λw=>av w 0).map af):=by
  rw [aQ (p:=lp) (g:=λw=>af (av w 0)) λw hw=>?_,List.map_map]
  ·rfl
  ·have:=kb (dI (ne w hw) 0)
   rw [Nat.zero_min] at this;have this:aF (lp w) (.int 0)=.ok (af (av w 0)):=this
   simp! only [this]
 have c2:=ND s (W.map λw=>av w 0)
 rw [zz0 λz=>by obtain⟨w,hw,e⟩:=zzx.1 z;exact h0 w hw e] at c2
 have lm:(W.map lp).length<cK:=by rw [zzl];exact l
 simp! only [] at c1;have m1:([]++[([s],[PV.aA])]:List (Ks×List PV)).map dP=[.bw [s] [.aA]]:=rfl
 rw [m1] at lw;rcases lw with⟨e3,K4⟩|⟨T,D,s7,s8,e3,hD1,hD2,hD3,hD4,hD5,hD6⟩
 ·refine⟨none,?_,λT hq=>K4 T ⟨hq.1,lf.free.1 hq.2⟩⟩
  simp! only [cE,bE,vV] at e3;simp! only [bx,lm,c1,KD,c2,e1,e2,dm,e3]
  rfl
 ·obtain⟨w,e4,pw⟩:=ht W s D T g hD2 hD1 (by omega) hD3
  obtain⟨p1,p2,p3,p4⟩:=pw.all
  have hp:w.length-1=T:=by omega
  refine⟨some w,?_,⟨(λz=>by rw [z] at p1;cases p1),by omega,(pw.op hE os).1,p2,by rw [hp];exact p3,λj hj=>p4 j (by omega),lf.free.2 (by omega),(λT' h' hq=>hD5 T' (by omega) ⟨hq.1,lf.free.1 hq.2⟩),λM hM=>?_⟩⟩
  ·simp! only [cE,bE,vV] at e3;simp! only [bx,lm,c1,KD,c2,e1,e2,dm,e3,vg,e4]
   rfl
  ·have:st<=M:=by
    rcases sn.2 with h|⟨v,hv,h⟩
    ·omega
    ·have:=hM v hv;omega
   omega
def oK(o:Option Ks):PV:=o.elim .aA lp
def aw(os:List (Option Ks)):List Ks:=os.filterMap id
def yU(a b:List (Option Ks)):aw (a++b)=aw a++aw b:=List.filterMap_append
def zF{os:List (Option Ks)}{w:Ks}:w∈aw os↔some w∈os:=by
 unfold aw;rw [zz1];exact⟨λ⟨a,h1,h2⟩=>by rw [show a=some w from h2] at h1;exact h1,λh=>⟨_,h,rfl⟩⟩
def oz(os:List (Option Ks)):(aw os).length<=os.length:=List.length_filterMap_le ..
theorem oT{f:PV->Res (Option PV)}(hf:∀o:Option Ks,f (oK o)=.ok (if o.isSome then some (oK o) else none)):∀os:List (Option Ks),aD f (os.map oK)=.ok ((aw os).map lp)
 |[]=>rfl
 |o::os=>by
  simp! [zzF,aD,hf,HG,m8,oT hf os];cases o<;>rfl
def JN(o:Option Ks):eE (oK o) .aA=.ok (.bl o.isSome):=by cases o<;>rfl
structure qd(E:List Int->List Int->Int->Prop)(O:List Int->Prop)(n:Nat)(ss gs:Ks)(os:List (Option Ks)):Prop where
 HZ:∀j o s g,os[j]?=some o->ss[j]?=some s->gs[j]?=some g->K9 E O n (aw (os.take j)) s g (37*(j+1)) o
 le:os.length<=ss.length
section
variable{E:List Int->List Int->Int->Prop}{O:List Int->Prop}{n:Nat}{ss gs:Ks}{os:List (Option Ks)}
def qd.take(h:qd E O n ss gs os)(i:Nat):qd E O n ss gs (os.take i):=⟨λj o s g h1 h2 h3=>by
 have hj:j<i:=by have:=(zzH.1 h1).1;rw [List.length_take] at this;omega
 rw [List.getElem?_take_of_lt hj] at h1;rw [List.take_take,Nat.min_eq_left (by omega)];exact h.HZ j o s g h1 h2 h3,by rw [List.length_take];have:=h.le;omega⟩
def qd.way(h:qd E O n ss gs os)(hl:ss.length=gs.length){w:Ks}(hw:w∈aw os):∃j s g,os[j]?=some (some w)/\ss[j]?=some s/\gs[j]?=some g/\Wy E O n (aw (os.take j)) s g (37*(j+1)) w:=by
 obtain⟨j,hj⟩:=List.getElem?_of_mem (zF.1 hw)
 have h1:=(zzH.1 hj).1
 have h2:=h.le
 have h3:ss[j]?=some ss[j]:=zzg (by omega)
 have h4:gs[j]?=some gs[j]:=zzg (by omega)
 exact⟨j,_,_,hj,h3,h4,h.HZ j _ _ _ hj h3 h4⟩
def qd.len(h:qd E O n ss gs os)(hl:ss.length=gs.length){w:Ks}(hw:w∈aw os):w≠[]/\w.length<=37*os.length:=by
 obtain⟨j,s,g,h1,_,_,y⟩:=h.way hl hw
 have:=(zzH.1 h1).1
 exact⟨y.ne,zzU y.len (by omega)⟩
def D0{l:Ks}(nd:l.Nodup){i j:Nat}{a b:List Int}(hi:l[i]?=some a)(hj:l[j]?=some b)(h:i≠j):a≠b:=λe=>by
 subst e;exact h ((List.getElem?_inj (zzH.1 hi).1 nd).1 (hi.trans hj.symm))
def qd.off(h:qd E O n ss gs os)(hl:ss.length=gs.length)(n1:ss.Nodup)(n2:gs.Nodup){i:Nat}{s g:List Int}(hs:ss[i]?=some s)(hg:gs[i]?=some g){w:Ks}(hw:w∈aw (os.take i)):av w 0≠s/\av w (w.length-1)≠g:=by
 obtain⟨j,s',g',h1,h2,h3,y⟩:=(h.take i).way hl hw
 have hj:j<i:=by have:=(zzH.1 h1).1;rw [List.length_take] at this;omega
 rw [y.fst,y.lst];exact⟨D0 n1 h2 hs (by omega),D0 n2 h3 hg (by omega)⟩
theorem qd.ap(h:qd E O n ss gs os)(hl:ss.length=gs.length)(n1:ss.Nodup)(n2:gs.Nodup):∀i,(aw (os.take i)).Pairwise Ap
 |0=>by rw [List.take_zero];exact .nil
 |i+1=>by
  by_cases hi:i<os.length
  ·rw [<-List.take_append_getElem hi,yU,List.pairwise_append];refine⟨qd.ap h hl n1 n2 i,?_,λa ha b hb=>?_⟩
   ·cases e:os[i] with
    |none=>exact .nil
    |some w=>exact List.pairwise_singleton ..
   ·have hb':=zF.1 hb
    rw [zzi] at hb';have qQ:=h.le
    have h3:ss[i]?=some ss[i]:=zzg (by omega)
    have h4:gs[i]?=some gs[i]:=zzg (by omega)
    have y:Wy E O n (aw (os.take i)) ss[i] gs[i] (37*(i+1)) b:=h.HZ i (some b) _ _ (by rw [zzg hi,hb']) h3 h4
    obtain⟨o1,o2⟩:=h.off hl n1 n2 h3 h4 ha
    exact(y.ap ha ((h.take i).len hl ha).1 o1 o2).symm
  ·rw [List.take_of_length_le (by omega)];have:=qd.ap h hl n1 n2 i
   rwa [List.take_of_length_le (by omega)] at this
end
def zip2{ss gs:Ks}(hl:ss.length=gs.length):fi [ss.map af,gs.map af]=(ss.zip gs).map λp=>.tup [af p.1,af p.2]:=by
 have hm:hJ [ss.map af,gs.map af]=ss.length:=by
  show min (ss.map af).length (gs.map af).length=_
  rw [zzl,zzl];omega
 unfold fi;rw [hm];refine List.ext_getElem (by simp [hl]) λi h1 h2=>?_
 simp! [zzl,List.length_range] at h1;have h3:i<gs.length:=by omega
 simp [zzK,zzg h1,zzg h3]
def M4:Ss:=#v[.set 9 (.bC 1 [] (.one 0) (.seq (.f9 6)) (.cmp .oB (!0) (.cst .aA)) (!0)),.app 6 (.call "earliest_way" #v[!5,!9,!7,!8])]
def Jp(E:List Int->List Int->Int->Prop)(O:List Int->Prop)(n:Nat)(A B:PV)(f:List PV->Res PV):Prop:=∀ss gs:Ks,ss.length=gs.length->ss.length<=20->ss.Nodup->gs.Nodup->(∀u∈ss,O u)->(∀u∈gs,O u)->∃os,f [A,B,lp ss,lp gs]=.ok (.lst (os.map oK))/\os.length=ss.length/\qd E O n ss gs os
def yv(F:aM){E:List Int->List Int->Int->Prop}{O:List Int->Prop}{S:Ks}{A B C:PV}(lS:S.length<=36)(hn:∀u,O u->F "need_open" [A,af u]=.ok .aA)(ho:F "steps_over" [A,B]=.ok C)(he:Kw E O S C (F "earliest_way")):Jp E O S.length A B (aq F fP):=by
 intro ss gs hl HA n1 n2 o1 o2;obtain⟨ag,e1,s4,rfl⟩:=bj (body:=λx env=>((Tg.one 4).put x env).bind λag=>aB F (.cons (.expr (.call "need_open" (.cons (.var 0) (.cons (.var 4) .nil)))) .nil) ag) (P:=λ_ env=>∃s4:Ci.Slot,env=[.val A,.val B,.val (lp ss),.val (lp gs),s4,.no,.no,.no,.no,.no]) (ss.map af++gs.map af) 0 [.val A,.val B,.val (lp ss),.val (lp gs),.no,.no,.no,.no,.no,.no] ⟨_,rfl⟩ (by
  intro i x env hx ⟨s4,he⟩;subst he;have hm:=zzD hx
  rw [<-List.map_append] at hm;obtain⟨u,hu,rfl⟩:=zzx.1 hm
  have:=hn u ((List.mem_append.1 hu).elim (o1 u) (o2 u))
  exact⟨[.val A,.val B,.val (lp ss),.val (lp gs),.val (af u),.no,.no,.no,.no,.no],by simp! only [this],_,rfl⟩)
 obtain⟨ag,e2,os,s7,s8,s9,rfl,hlo,cr⟩:=bj (body:=λx env=>((Tg.two 7 8).put x env).bind λag=>aB F M4 ag) (P:=λi env=>∃(os:List (Option Ks)) (s7 s8 s9:Ci.Slot),env=[.val A,.val B,.val (lp ss),.val (lp gs),s4,.val C,.own (.lst (os.map oK)),s7,s8,s9]/\os.length=i/\(i<=ss.length->qd E O S.length ss gs os)) ((ss.zip gs).map λp=>.tup [af p.1,af p.2]) 0 [.val A,.val B,.val (lp ss),.val (lp gs),s4,.val C,.own (.lst []),.no,.no,.no] ⟨[],_,_,_,rfl,rfl,λ_=>⟨(λj o s g h=>by cases h),Nat.zero_le _⟩⟩ (by
  intro i x env hx ⟨os,s7,s8,s9,he',hi,hc⟩;subst he';rw [Nat.zero_add] at hi hc⊢;have zL:i<ss.length:=by
   have:=(zzH.1 hx).1
   simp! [zzl,List.length_zip] at this;omega
  have hs:ss[i]?=some ss[i]:=zzg zL
  have hg:gs[i]?=some gs[i]:=zzg (by omega)
  have qO:x=.tup [af ss[i],af gs[i]]:=by
   rw [zzQ,zzJ] at hx;obtain⟨p,hp,rfl⟩:=hx
   rw [List.getElem?_zip_eq_some] at hp;rw [hs,hg] at hp;rw [zzq hp.1,zzq hp.2]
  subst qO;have cr:=hc (by omega)
  have tk:os.take i=os:=List.take_of_length_le (by omega)
  have ap:=cr.ap hl n1 n2 i
  rw [tk] at ap;have off:∀w∈aw os,av w 0≠ss[i]/\av w (w.length-1)≠gs[i]:=λw hw=>cr.off hl n1 n2 hs hg (by rw [tk];exact hw)
  obtain⟨o,e,td⟩:=he (aw os) ss[i] gs[i] (37*i) (o1 _ (List.getElem_mem _)) (λw hw=>(cr.len hl hw).1) (zzU (oz os) (by omega)) ap (λw hw=>(off w hw).1) (λw hw=>(off w hw).2) (λw hw=>by have:=(cr.len hl hw).2;rw [hi] at this;exact this) (by omega)
  have c1:aD (λx=>((Tg.one 0).put x [.no]).bind λag=>(aC F (.cmp .oB (.var 0) (.cst .aA)) ag).bind λt=>lE t λt=>if t then(aC F (.var 0) ag).bind λy=>.ok (some y) else .ok none) (os.map oK)=.ok ((aw os).map lp):=oT (λo=>by
   simp! only [JN];cases o<;>rfl) os
  have l1:(os.map oK).length<cK:=zzV (m:=20) (by rw [zzl];omega) (by decide)
  refine⟨[.val A,.val B,.val (lp ss),.val (lp gs),s4,.val C,.own (.lst ((os++[o]).map oK)),.val (af ss[i]),.val (af gs[i]),.val (cM (aw os))],?_,os++[o],_,_,_,rfl,by simp [hi],λ_=>⟨λj o' s g h1 h2 h3=>?_,by simp [hi];omega⟩⟩
  ·have e':F "earliest_way" [C,.lst ((aw os).map lp),af ss[i],af gs[i]]=.ok (oK o):=e
   simp! only [] at c1;simp! only [M4,l1,c1,e',List.map_append,zzF,List.map_nil]
  ·by_cases hj:j<os.length
   ·rw [zzr hj] at h1;rw [List.take_append_of_le_length (by omega)];exact cr.HZ j o' s g h1 h2 h3
   ·have:j=i:=by have:=(zzH.1 h1).1;simp! [zzM,List.length_singleton] at this;omega
    subst this;rw [zzs (by omega),hi,Nat.sub_self] at h1;cases h1;rw [hs] at h2;rw [hg] at h3;cases h2;cases h3;rw [List.take_append_of_le_length (by omega),tk];cases o with
    |none=>exact td
    |some w=>exact⟨td.ne,zzU td.len (by omega),td.op,td.fst,td.lst,td.go,td.free,td.least,td.bd⟩)
 have hz:(((ss.zip gs).map λp=>PV.tup [af p.1,af p.2])).length=ss.length:=by simp [hl]
 rw [hz,Nat.zero_add] at hlo cr;refine⟨os,?_,hlo,cr (zzE _)⟩;have l2:(ss.map af).length+(gs.map af).length<=cK:=zzU (m:=40) (by rw [zzl,zzl];omega) (by decide)
 have FI:Res.of (gc [lp ss,lp gs])=.ok [ss.map af,gs.map af]:=rfl
 simp! only [] at e1;simp! only [M4] at e2;simp! only [fP,l2,e1,ho,FI,zip2 hl,e2,vg]
noncomputable def oY:Ss:=#v[.set 13 (.bC 1 [9,12] (.one 0) (.seq (!2)) (.cmp .eq (.call "_law_at" #v[!0,.bin .add (!1) (¬1)]) (!2)) (!0)),.set 14 (.bC 1 [9,12,11] (.one 0) (.seq (!2)) (.and (.cmp .eq (.call "_law_at" #v[!0,!1]) (!2)) (.cmp .eq (.call "_law_at" #v[!0,.bin .add (!1) (¬1)]) (!3))) (!0)),.ite (.and (.cmp .eq (!13) (.lst .nil)) (.and (.cmp .eq (!14) (.lst .nil)) (.cmp .qH (!12) (.f9 10)))) #v[.app 10 (!12)] .nil]
noncomputable def vD:Ss:=#v[.bD (.one 12) (.seq (.sub (!7) (!11))) oY]
noncomputable def N6:Ss:=#v[.own 10 (.lst .nil),.bD (.one 11) (.seq (!8)) vD,.cU 10,.set 8 (!10)]
noncomputable def AV:Ss:=.cons (.ite (.cmp .zy (!4) (!8)) #v[.ite (.cmp .eq (.bC 1 [2,4] (.one 0) (.kH (!9) (.bin .add (.bin .add (!5) (!9)) (¬1))) (.cmp .zy (!2) (.comp 1 [0] (.one 0) (.seq (!1)) (.call "_law_at" #v[!0,!1]))) (!0)) (.lst .nil)) #v[.ret (!9)] .nil] .nil) N6
def yt(F:aM)(w:Ks)(hw:w≠[])(t:Nat):aq F cD [lp w,.int (t:Int)]=.ok (af (av w t)):=by
 have h:=List.length_pos_iff.2 hw
 by_cases ht:t<w.length
 ·have e:=kb (dI hw t)
  rw [Nat.min_eq_left (by omega)] at e;have c:decide ((t:Int)<((w.map af).length:Int))=true:=zzh (by rw [zzl];omega)
  simp! only [cD,c,e]
 ·have e:aF (lp w) (.int (-1))=.ok (af (av w t)):=by
   have hl:w=w.dropLast++[w.getLast hw]:=(List.dropLast_concat_getLast hw).symm
   rw [iT (by omega),eO (by omega)];have h2:=jm (w.dropLast.map af) (af (w.getLast hw))
   have h3:w.dropLast.map af++[af (w.getLast hw)]=w.map af:=by
    rw [<-List.map_singleton (f:=af),<-List.map_append,<-hl]
   rw [h3] at h2;rw [List.getLast_eq_getElem] at h2;exact h2
  have c:decide ((t:Int)<((w.map af).length:Int))=false:=zz0 (by rw [zzl];omega)
  simp! only [cD,c,e]
def zR(F:aM):Prop:=∀w:Ks,w≠[]->∀t:Nat,F "_law_at" [lp w,.int (t:Int)]=.ok (af (av w t))
def zR.Lg{F:aM}(h:zR F){w:Ks}(hw:w≠[])(t:Nat):F "_law_at" [lp w,.int ((t:Int)+1)]=.ok (af (av w (t+1))):=h w hw (t+1)
def KN(W:List Ks):(W.map lp).all (Ci.plain 8)=true:=by
 simp! [zzT,zzx]
 rintro x ⟨i,_,rfl⟩
 exact ic 6 i
def Qm(W:List Ks):fk (cM W) (.lst [])=.ok (.bl (decide (W=[]))):=by
 show(if(Ci.plain 9 (.lst (W.map lp))&&Ci.plain 9 (.lst []))=true then Res.ok (PV.bl (gX 9 (.lst (W.map lp)) (.lst []))) else .bad)=_
 rw [show Ci.plain 9 (.lst (W.map lp))=true from KN W];cases W<;>rfl
noncomputable abbrev p6(A B:PV)(W:List Ks)(s g:List Int)(la:Int)(S:Ks)(D:PV)(Hr:Ks)(t:Nat)(iF eG gv iO iH:Ci.Slot):Sl:=[.val A,.val B,.val (cM W),.val (af s),.val (af g),.val (.int la),.val (lp S),.val D,.val (lp Hr),.val (.int (t:Int)),iF,eG,gv,iO,iH]
structure Mt(O:List Int->Prop)(X:List Int->Prop)(M:Ks):Prop where
 nd:M.Nodup
 op:∀o∈M,O o
 mem:∀o,o∈M↔X o
section
variable{O:List Int->Prop}{W:List Ks}{t:Nat}{A B D:PV}{s g:List Int}{la:Int}{S Hr:Ks}
def AW(F:aM)(ha:zR F)(hO:∀u,O u->u∈vT)(ne:∀w∈W,w≠[])(hl:W.length<=100){X:List Int->Prop}{p o:List Int}(ho:O o){M:Ks}(N:Mt O X M)(gv iO iH:Ci.Slot):
 ∃M' iR iG,(((Tg.one 12).put (af o) (p6 A B W s g la S D Hr t (.own (lp M)) (.val (af p)) gv iO iH)).bind λag=>aB F oY ag)=.ok (.nx (p6 A B W s g la S D Hr t (.own (lp M')) (.val (af p)) (.val (af o)) iR iG))/\Mt O (λo'=>X o'\/(o'=o/\Mv W t p o)) M':=by
 classical
 have l:(W.map lp).length<cK:=zzV (m:=100) (by rw [zzl];exact hl) (by decide)
 have lM:(M.map af).length<cK:=by
  rw [zzl];exact zzV (zzU (hZ N.nd λk hk=>hO k (N.op k hk)) (Nat.le_of_eq t9)) (by decide)
 have c1:aD (λx=>((Tg.one 0).put x [.no,.val (.int (t:Int)),.val (af o)]).bind λag=>(aC F (.cmp .eq (.call "_law_at" (.cons (.var 0) (.cons (.bin .add (.var 1) (.cst (.int 1))) .nil))) (.var 2)) ag).bind λt=>lE t λt=>if t then(aC F (.var 0) ag).bind λy=>.ok (some y) else .ok none) (W.map lp)=.ok ((W.filter λw=>decide (av w (t+1)=o)).map lp):=
  dM (p:=lp) (q:=lp) (g:=λw=>decide (av w (t+1)=o)) λw hw=>by
   simp! only [ha.Lg (ne w hw),zK];cases decide (av w (t+1)=o)<;>rfl
 have c2:aD (λx=>((Tg.one 0).put x [.no,.val (.int (t:Int)),.val (af o),.val (af p)]).bind λag=>(aC F (.and (.cmp .eq (.call "_law_at" (.cons (.var 0) (.cons (.var 1) .nil))) (.var 2)) (.cmp .eq (.call "_law_at" (.cons (.var 0) (.cons (.bin .add (.var 1) (.cst (.int 1))) .nil))) (.var 3))) ag).bind λt=>lE t λt=>if t then(aC F (.var 0) ag).bind λy=>.ok (some y) else .ok none) (W.map lp)=.ok ((W.filter λw=>decide (av w t=o)&&decide (av w (t+1)=p)).map lp):=
  dM (p:=lp) (q:=lp) (g:=λw=>decide (av w t=o)&&decide (av w (t+1)=p)) λw hw=>by
   simp! only [ha w (ne w hw),ha.Lg (ne w hw),zK,iq];cases decide (av w t=o)&&decide (av w (t+1)=p)<;>rfl
 have q1:=Qm (W.filter λw=>decide (av w (t+1)=o))
 have q2:=Qm (W.filter λw=>decide (av w t=o)&&decide (av w (t+1)=p))
 have q3:=Fw o M
 have mv:(decide ((W.filter λw=>decide (av w (t+1)=o))=[])&&(decide ((W.filter λw=>decide (av w t=o)&&decide (av w (t+1)=p))=[])&&!decide (o∈M)))=decide (Mv W t p o/\o∉M):=by
  rw [Bool.eq_iff_iff];simp! [zza,zzN,List.filter_eq_nil_iff,Bool.not_eq_true',decide_eq_false_iff_not,not_and]
  constructor
  ·rintro ⟨h1,h2,h3⟩
   exact⟨λw hw=>⟨h1 w hw,λz=>h2 w hw z.1 z.2⟩,h3⟩
  ·rintro ⟨h1,h2⟩
   exact⟨λw hw=>(h1 w hw).1,λw hw a b=>(h1 w hw).2 ⟨a,b⟩,h2⟩
 simp! only [] at c1 c2
 by_cases h:Mv W t p o/\o∉M
 ·rw [zzh h] at mv;refine⟨M++[o],.val (cM (W.filter λw=>decide (av w (t+1)=o))),.val (cM (W.filter λw=>decide (av w t=o)&&decide (av w (t+1)=p))),?_,List.nodup_append.2 ⟨N.nd,by simp,λa ha b hb=>by rw [zzi.1 hb];exact λz=>h.2 (z▸ha)⟩,λx hx=>?_,λx=>?_⟩
  ·rw [show lp (M++[o])=PV.lst (M.map af++[af o]) by unfold lp;rw [List.map_append];rfl];simp! only [oY,p6,l,c1,c2,q1,q2,q3,iq,mv,lM]
  ·rcases List.mem_append.1 hx with hx|hx
   ·exact N.op x hx
   ·rw [zzi.1 hx];exact ho
  ·rw [List.mem_append,zzi,N.mem];exact or_congr_right ⟨λz=>⟨z,h.1⟩,λz=>z.1⟩
 ·rw [zz0 h] at mv;refine⟨M,.val (cM (W.filter λw=>decide (av w (t+1)=o))),.val (cM (W.filter λw=>decide (av w t=o)&&decide (av w (t+1)=p))),?_,N.nd,N.op,λx=>?_⟩
  ·simp! only [oY,p6,l,c1,c2,q1,q2,q3,iq,mv]
  ·rw [N.mem];refine⟨.inl,λz=>z.elim id λ⟨e,m⟩=>?_⟩
   rw [e];exact(N.mem o).1 (Classical.byContradiction λn=>h ⟨m,n⟩)
def Dd(F:aM)(ha:zR F)(hO:∀u,O u->u∈vT)(ne:∀w∈W,w≠[])(hl:W.length<=100){X:List Int->Prop}{p:List Int}{T:Ks}(hT:∀o∈T,O o)(eD:aF D (af p)=.ok (lp T)){M:Ks}(N:Mt O X M)(eG gv iO iH:Ci.Slot):
 ∃M' nR iR iG,(((Tg.one 11).put (af p) (p6 A B W s g la S D Hr t (.own (lp M)) eG gv iO iH)).bind λag=>aB F vD ag)=.ok (.nx (p6 A B W s g la S D Hr t (.own (lp M')) (.val (af p)) nR iR iG))/\Mt O (λo'=>X o'\/(o'∈T/\Mv W t p o')) M':=by
 obtain⟨ag,e2,M',nR,iR,iG,rfl,N'⟩:=fw (body:=λx env=>((Tg.one 12).put x env).bind λag=>aB F oY ag) (g:=af) (P:=λpre env=>∃M gv iO iH,env=p6 A B W s g la S D Hr t (.own (lp M)) (.val (af p)) gv iO iH/\Mt O (λo'=>X o'\/(o'∈pre/\Mv W t p o')) M) T [] (p6 A B W s g la S D Hr t (.own (lp M)) (.val (af p)) gv iO iH) (λo ho pre env hj=>by
  obtain⟨M,gv,iO,iH,rfl,N⟩:=hj
  obtain⟨M',iR,iG,e,N'⟩:=AW F (A:=A) (B:=B) (D:=D) (s:=s) (g:=g) (la:=la) (S:=S) (Hr:=Hr) (t:=t) ha hO ne hl (hT o ho) (p:=p) N gv iO iH
  refine⟨_,e,M',_,iR,iG,rfl,N'.nd,N'.op,λx=>(N'.mem x).trans ?_⟩
  constructor
  ·rintro ((h|⟨h1,h2⟩)|⟨h1,h2⟩)
   ·exact .inl h
   ·exact .inr ⟨zzI _ h1,h2⟩
   ·exact .inr ⟨by rw [h1];exact zzP ..,by rw [h1];exact h2⟩
  ·rintro (h|⟨h1,h2⟩)
   ·exact .inl (.inl h)
   ·rcases zzm.1 h1 with rfl|h1
    ·exact .inr ⟨rfl,h2⟩
    ·exact .inl (.inr ⟨h1,h2⟩)) ⟨M,gv,iO,iH,rfl,N.nd,N.op,λx=>(N.mem x).trans ⟨.inl,λz=>z.elim id λz=>nomatch z.1⟩⟩
 refine⟨M',nR,iR,iG,?_,N'.nd,N'.op,λx=>(N'.mem x).trans (by rw [zz6,List.mem_reverse])⟩
 simp! only [oY,p6] at e2;simp! only [vD,oY,p6,eD,e2]
def FQ(F:aM)(ha:zR F)(hO:∀u,O u->u∈vT)(ne:∀w∈W,w≠[])(hl:W.length<=100){f:List Int->Ks}(hf:∀p∈Hr,(∀o∈f p,O o)/\aF D (af p)=.ok (lp (f p)))(iF eG gv iO iH:Ci.Slot):
 ∃M NU Fb nR iR iG,aB F N6 (p6 A B W s g la S D Hr t iF eG gv iO iH)=.ok (.nx (p6 A B W s g la S D M t NU Fb nR iR iG))/\Mt O (λo=>∃p∈Hr,o∈f p/\Mv W t p o) M:=by
 obtain⟨ag,e2,M,Fb,nR,iR,iG,rfl,N⟩:=fw (body:=λx env=>((Tg.one 11).put x env).bind λag=>aB F vD ag) (g:=af) (P:=λpre env=>∃M eG gv iO iH,env=p6 A B W s g la S D Hr t (.own (lp M)) eG gv iO iH/\Mt O (λo=>∃p∈pre,o∈f p/\Mv W t p o) M) Hr [] (p6 A B W s g la S D Hr t (.own (.lst [])) eG gv iO iH) (λp hp pre env hj=>by
  obtain⟨M,eG,gv,iO,iH,rfl,N⟩:=hj
  obtain⟨M',nR,iR,iG,e,N'⟩:=Dd F (A:=A) (B:=B) (s:=s) (g:=g) (la:=la) (S:=S) (Hr:=Hr) (t:=t) ha hO ne hl (hf p hp).1 (hf p hp).2 N eG gv iO iH
  refine⟨_,e,M',_,nR,iR,iG,rfl,N'.nd,N'.op,λx=>(N'.mem x).trans ?_⟩
  constructor
  ·rintro (⟨q,h1,h2⟩|h)
   ·exact⟨q,zzI _ h1,h2⟩
   ·exact⟨p,zzP ..,h⟩
  ·rintro ⟨q,h1,h2⟩
   rcases zzm.1 h1 with rfl|h1
   ·exact .inr h2
   ·exact .inl ⟨q,h1,h2⟩) ⟨[],eG,gv,iO,iH,rfl,List.nodup_nil,(λo h=>nomatch h),λx=>⟨(λh=>nomatch h),λ⟨q,h,_⟩=>nomatch h⟩⟩
 refine⟨M,.val (lp M),Fb,nR,iR,iG,?_,N.nd,N.op,λx=>(N.mem x).trans (by simp)⟩
 simp! only [vD,oY,p6,List.map_nil] at e2;simp! only [N6,vD,oY,p6,e2,vg]
end
def eF{i:Int}(h0:0<=i)(h1:i<=100000):aE i=true:=by
 unfold aE;rw [zza];exact⟨zzh (by omega),zzh (by omega)⟩
def gW(t n:Nat):dh (t:Int) n=(List.range n).map λi:Nat=>PV.int ((t+i:Nat):Int):=by
 unfold dh;refine List.map_congr_left λi _=>?_
 rw [Int.natCast_add]
section
variable{O:List Int->Prop}{E:List Int->List Int->Int->Prop}{W:List Ks}{A B D:PV}{s g:List Int}{S:Ks}
def BE(F:aM)(ha:zR F)(ne:∀w∈W,w≠[])(hl:W.length<=100)(he:∀w∈W,av w (w.length-1)≠g){la:Nat}(Fc:∀w∈W,w.length<=la)(t:Nat):
 ∃Q:List Nat,aD (λx=>((Tg.one 0).put x [.no,.val (cM W),.val (af g)]).bind λag=>(aC F (.cmp .zy (.var 2) (.comp 1 [0] (.one 0) (.seq (.var 1)) (.call "_law_at" (.cons (.var 0) (.cons (.var 1) .nil))))) ag).bind λt=>lE t λt=>if t then(aC F (.var 0) ag).bind λy=>.ok (some y) else .ok none) ((List.range (la+1)).map λi:Nat=>PV.int ((t+i:Nat):Int))=.ok (Q.map λi:Nat=>PV.int (i:Int))/\(Q=[]↔iD W g t):=by
 have l:(W.map lp).length<cK:=zzV (m:=100) (by rw [zzl];exact hl) (by decide)
 refine⟨((List.range (la+1)).filter λi=>decide (g∈W.map λw=>av w (t+i))).map (t+·),?_,?_⟩
 ·rw [dM (p:=λi:Nat=>PV.int ((t+i:Nat):Int)) (q:=λi:Nat=>PV.int ((t+i:Nat):Int)) (g:=λi=>decide (g∈W.map λw=>av w (t+i))) λi hi=>?_,List.map_map]
  ·rfl
  ·have c:aD (λx=>((Tg.one 0).put x [.no,.val (.int ((t+i:Nat):Int))]).bind λag=>(aC F (.call "_law_at" (.cons (.var 0) (.cons (.var 1) .nil))) ag).bind λy=>.ok (some y)) (W.map lp)=.ok ((W.map λw=>av w (t+i)).map af):=by
    rw [aQ (p:=lp) (g:=λw=>af (av w (t+i))) λw hw=>?_,List.map_map]
    ·rfl
    ·simp! only [ha w (ne w hw)]
   have q:=ND g (W.map λw=>av w (t+i))
   simp! only [] at c;simp! only [l,c,KD,q];cases decide (g∈W.map λw=>av w (t+i))<;>rfl
 ·rw [List.map_eq_nil_iff,List.filter_eq_nil_iff];simp! [zzN,zzx,not_exists,not_and]
  constructor
  ·intro h w hw i hi z;have zL:=(zzH.1 z).1
   have:=Fc w hw
   have e:av w i=g:=by rw [eO zL];exact(zzH.1 z).2
   exact h (i-t) (List.mem_range.2 (by omega)) w hw (by rw [show t+(i-t)=i by omega];exact e)
  ·intro h i _ w hw z;exact h.at hw (ne w hw) (he w hw) (t:=t+i) (by omega) z
def Qq(F:aM)(E:List Int->List Int->Int->Prop)(W:List Ks)(s g:List Int)(t k:Nat)(env:Sl):Prop:=
 (∃T,t<=T/\T<t+k/\(Rc E W s T g/\iD W g T)/\(∀T',t<=T'->T'<T->¬(Rc E W s T' g/\iD W g T'))/\forL (λx env=>((Tg.one 9).put x env).bind λag=>aB F AV ag) ((List.range k).map λi:Nat=>PV.int ((t+i:Nat):Int)) env=.ok (.rt (.int (T:Int))))\/
  ((∀T,t<=T->T<t+k->¬(Rc E W s T g/\iD W g T))/\∃ag,forL (λx env=>((Tg.one 9).put x env).bind λag=>aB F AV ag) ((List.range k).map λi:Nat=>PV.int ((t+i:Nat):Int)) env=.ok (.nx ag))
theorem nu(F:aM)(ha:zR F)(hE:∀u v e,E u v e->O v)(hO:∀u,O u->u∈vT)(os:O s)(ne:∀w∈W,w≠[])(hl:W.length<=100)(he:∀w∈W,av w (w.length-1)≠g){la:Nat}(Fc:∀w∈W,w.length<=la)(hb:la<=2000){f:List Int->Ks}(hf:∀p,O p->(∀o,o∈f p↔Nb E p o)/\aF D (af p)=.ok (lp (f p))):
 ∀(k t:Nat) (Hr:Ks) (iF eG gv iO iH s9:Ci.Slot),(∀x,x∈Hr↔Rc E W s t x)->t+k<=3000->
 Qq F E W s g t k [.val A,.val B,.val (cM W),.val (af s),.val (af g),.val (.int (la:Int)),.val (lp S),.val D,.val (lp Hr),s9,iF,eG,gv,iO,iH]
 |0,t,Hr,iF,eG,gv,iO,iH,s9,hH,hk=>.inr ⟨λT h1 h2=>by omega,_,rfl⟩
 |k+1,t,Hr,iF,eG,gv,iO,iH,s9,hH,hk=>by
  have rg:((List.range (k+1)).map λi:Nat=>PV.int ((t+i:Nat):Int))=.int (t:Int)::(List.range k).map λi:Nat=>PV.int ((t+1+i:Nat):Int):=by
   rw [List.range_succ_eq_map,zzF,List.map_map];refine congrArg (PV.int (t:Int)::·) (List.map_congr_left λi _=>?_);show PV.int ((t+(i+1):Nat):Int)=_
   rw [show t+(i+1)=t+1+i by omega]
  have c1:=ND g Hr
  obtain⟨M,m10,m11,m12,m13,m14,eM,mt⟩:=FQ F (A:=A) (B:=B) (D:=D) (s:=s) (g:=g) (la:=(la:Int)) (S:=S) (Hr:=Hr) (t:=t) (W:=W) ha hO ne hl (f:=f) (λp hp=>⟨λo ho=>(((hf p (dX hE os ((hH p).1 hp))).1 o).1 ho).elim (λz=>z▸dX hE os ((hH p).1 hp)) λ⟨e,z⟩=>hE _ _ _ z,(hf p (dX hE os ((hH p).1 hp))).2⟩) iF eG gv iO iH
  have hM:∀x,x∈M↔Rc E W s (t+1) x:=λx=>(mt.mem x).trans (by
   constructor
   ·rintro ⟨p,h1,h2,h3⟩
    have h4:=(hH p).1 h1
    exact⟨p,h4,((hf p (dX hE os h4)).1 x).1 h2,h3⟩
   ·rintro ⟨p,h1,h2,h3⟩
    exact⟨p,(hH p).2 h1,((hf p (dX hE os h1)).1 x).2 h2,h3⟩)
  have go:(((Tg.one 9).put (.int (t:Int)) [.val A,.val B,.val (cM W),.val (af s),.val (af g),.val (.int (la:Int)),.val (lp S),.val D,.val (lp Hr),s9,iF,eG,gv,iO,iH]).bind λag=>aB F AV ag)=.ok (.nx (p6 A B W s g (la:Int) S D M t m10 m11 m12 m13 m14))->¬(Rc E W s t g/\iD W g t)->Qq F E W s g t (k+1) [.val A,.val B,.val (cM W),.val (af s),.val (af g),.val (.int (la:Int)),.val (lp S),.val D,.val (lp Hr),s9,iF,eG,gv,iO,iH]:=λeb K4=>by
   have ih:=nu F ha hE hO os ne hl he Fc hb hf k (t+1) M m10 m11 m12 m13 m14 (.val (.int (t:Int))) hM (by omega)
   rcases ih with⟨T,h1,h2,h3,h4,e⟩|⟨h1,ag,e⟩
   ·refine Or.inl ⟨T,by omega,by omega,h3,λT' a b=>?_,?_⟩
    ·by_cases hT:T'=t
     ·subst hT;exact K4
     ·exact h4 T' (by omega) b
    ·rw [rg,forL,eb,m8];exact e
   ·refine Or.inr ⟨λT a b=>?_,ag,?_⟩
    ·by_cases hT:T=t
     ·subst hT;exact K4
     ·exact h1 T (by omega) (by omega)
    ·rw [rg,forL,eb,m8];exact e
  by_cases hg:g∈Hr
  ·rw [zzh hg] at c1;obtain⟨Q,cQ,hQ⟩:=BE F ha ne hl he Fc t
   have s1:(aE (t:Int)&&aE ((la:Int)+(t:Int)+1))=true:=by
    rw [zza];exact⟨eF (by omega) (by omega),eF (by omega) (by omega)⟩
   have OG:dh (t:Int) ((la:Int)+(t:Int)+1-(t:Int)).toNat=(List.range (la+1)).map λi:Nat=>PV.int ((t+i:Nat):Int):=by
    rw [show((la:Int)+(t:Int)+1-(t:Int)).toNat=la+1 by omega];exact gW t (la+1)
   have l2:((List.range (la+1)).map λi:Nat=>PV.int ((t+i:Nat):Int)).length<cK:=zzV (m:=3000) (by rw [zzl,List.length_range];omega) (by decide)
   have q:fk (.lst (Q.map λi:Nat=>PV.int (i:Int))) (.lst [])=.ok (.bl (decide (Q=[]))):=by
    have:=eq_nil (Q.map λi:Nat=>(i:Int))
    rw [show dC (Q.map λi:Nat=>(i:Int))=.lst (Q.map λi:Nat=>PV.int (i:Int)) by unfold dC;rw [List.map_map];rfl] at this
    exact this.trans (congrArg (λz=>Res.ok (PV.bl z)) (decide_eq_decide.2 List.map_eq_nil_iff))
   dsimp! only [J] at cQ
   by_cases fr:iD W g t
   ·rw [zzh (hQ.2 fr)] at q;refine .inl ⟨t,zzE _,by omega,⟨(hH g).1 hg,fr⟩,λT' a b=>by omega,?_⟩
    have eb:(((Tg.one 9).put (.int (t:Int)) [.val A,.val B,.val (cM W),.val (af s),.val (af g),.val (.int (la:Int)),.val (lp S),.val D,.val (lp Hr),s9,iF,eG,gv,iO,iH]).bind λag=>aB F AV ag)=.ok (.rt (.int (t:Int))):=by
     dsimp! only [AV,c1,s1,OG,l2,cQ,q]
    rw [rg,forL,eb]
    rfl
   ·rw [zz0 (λz=>fr (hQ.1 z))] at q
    refine go ?_ λz=>fr z.2
    dsimp! only [AV,c1,s1,OG,l2,cQ,q,eM]
  ·rw [zz0 hg] at c1;refine go ?_ λz=>hg ((hH g).2 z.1)
   dsimp! only [AV,c1,eM]
end
theorem A5:aR.body=#v[.set 5 (.blt .rQ #v[.bin .add (.lst #v[¬0]) (.comp 1 [] (.one 0) (.seq (!2)) (.blt .len #v[!0]))]),.set 6 (.call "_law_spots" #v[!0]),.set 7 (.blt .dict #v[.comp 1 [1,0] (.one 0) (.seq (!6)) (.tup #v[!0,.bin .add (.lst #v[!0]) (.comp 1 [] (.one 0) (.seq (.call "_law_steps" #v[!2,!1,!0])) (.sub (!0) (¬0)))])]),.set 8 (.lst #v[!3]),.bD (.one 9) (.jj (.bin .add (.bin .add (!5) (.blt .len #v[!6])) (¬1))) AV,.ret (.cst .aA)]:=rfl
theorem Wy.rc{E:List Int->List Int->Int->Prop}{O:List Int->Prop}{n:Nat}{W:List Ks}{s g:List Int}{B:Nat}{l:Ks}(h:Wy E O n W s g B l):∀j,j<l.length->Rc E W s j (av l j)
 |0,_=>h.fst
 |j+1,hj=>⟨av l j,Wy.rc h j (by omega),h.go j hj⟩
def MQ:Option Ks->PV
 |none=>.aA
 |some l=>.int ((l.length:Int)-1)
def Wy.good{E:List Int->List Int->Int->Prop}{O:List Int->Prop}{n:Nat}{W:List Ks}{s g:List Int}{B:Nat}{l:Ks}(h:Wy E O n W s g B l):Rc E W s (l.length-1) g/\iD W g (l.length-1):=by
 have hp:=List.length_pos_iff.2 h.ne
 have:=h.rc (l.length-1) (by omega)
 rw [h.lst] at this;exact⟨this,h.free⟩
def CV(ns:List Int):bJ .rQ [.lst (.int 0::ns.map .int)]=.ok (.int (bM (0::ns) ns.length)):=by
 show(Res.of (intsOf ((0::ns).map .int))).bind _=_
 rw [eQ]
 rfl
def sj(F:aM)(ha:zR F)(hk:Ew (F "_law_spots"))(hs:ir F){ae:List Str}{w:Nat}(L:Fl ae w){sl:Bool}{cl pr:Int}(V:Wk cl pr){S:Ks}(eS:F "_law_spots" [fl ae]=.ok (lp S))(hm:∀k,k∈S↔gh ae k)(nS:S.Nodup)(lS:S.length<=36)
 {W:List Ks} {s g:List Int} (os:gh ae s) (ne:∀w∈W,w≠[]) (hl:W.length<=100) (he:∀w∈W,av w (w.length-1)≠g) (hB:∀w∈W,w.length<=1000) {B:Nat} {o:Option Ks} (td:K9 (E1 ae sl cl pr) (gh ae) S.length W s g B o):
 aq F aR [fl ae,wk sl cl pr,cM W,af s,af g]=.ok (MQ o):=by
 have hE:∀u v e,E1 ae sl cl pr u v e->gh ae v:=λu v e h=>(Dt L V h).2.2
 have st:∀u,∃T:List (List Int×Int),gh ae u->F "_law_steps" [fl ae,wk sl cl pr,af u]=.ok (.lst (T.map tK))/\T.length<=9/\∀v e,(v,e)∈T↔E1 ae sl cl pr u v e:=λu=>by
  by_cases h:gh ae u
  ·obtain⟨r,c,rfl,ho⟩:=h
   obtain⟨T,e,a,_,b⟩:=hs ae w L sl cl pr V r c ho
   exact⟨T,λ_=>⟨e,a,b⟩⟩
  ·exact⟨[],λz=>absurd z h⟩
 obtain⟨f,hf⟩:=Classical.skolem.1 st
 have l:(W.map lp).length<cK:=zzV (m:=100) (by rw [zzl];exact hl) (by decide)
 have l2:(S.map af).length<cK:=zzV (m:=36) (by rw [zzl];exact lS) (by decide)
 have IQ:=mC (ns:=0::W.map λw=>(w.length:Int)) (by simp)
 have ln:(0::W.map λw=>(w.length:Int)).length-1=(W.map λw=>(w.length:Int)).length:=rfl
 rw [ln] at IQ;obtain⟨la,Fc⟩:∃la:Nat,bM (0::W.map λw=>(w.length:Int)) (W.map λw=>(w.length:Int)).length=(la:Int):=zzw (IQ.1 0 (zzP ..))
 rw [Fc] at IQ;have hle:∀w∈W,w.length<=la:=λw hw=>by
  have:=IQ.1 _ (zzI _ (List.mem_map_of_mem hw));omega
 have lb:la<=1000:=by
  rcases zzm.1 IQ.2 with h|h
  ·omega
  ·obtain⟨w,hw,e⟩:=zzx.1 h
   have:=hB w hw
   omega
 have d1:bJ .dict [.lst (S.map λu=>.tup [af u,lp (u::(f u).map (·.1))])]=.ok (.bw S (S.map λu=>lp (u::(f u).map (·.1)))):=by
  have:=nD (L:=S.map λu=>(u,lp (u::(f u).map (·.1)))) (by rw [List.map_map];simpa [Function.comp_def] using nS)
  rw [List.map_map,List.map_map,List.map_map] at this
  simpa [Function.comp_def] using this
 have c1:aD (λx=>((Tg.one 0).put x [.no]).bind λag=>(aC F (.blt .len (.cons (.var 0) .nil)) ag).bind λy=>.ok (some y)) (W.map lp)=.ok ((W.map λw=>(w.length:Int)).map .int):=by
  rw [aQ (p:=lp) (g:=λw=>.int (w.length:Int)) λw hw=>?_,List.map_map]
  ·rfl
  ·simp! only [zzl]
 have c2:aD (λx=>((Tg.one 0).put x [.no,.val (wk sl cl pr),.val (fl ae)]).bind λag=>(aC F (.tup (.cons (.var 0) (.cons (.bin .add (.lst (.cons (.var 0) .nil)) (.comp 1 [] (.one 0) (.seq (.call "_law_steps" (.cons (.var 2) (.cons (.var 1) (.cons (.var 0) .nil))))) (.sub (.var 0) (.cst (.int 0))))) .nil))) ag).bind λy=>.ok (some y)) (S.map af)=.ok (S.map λu=>.tup [af u,lp (u::(f u).map (·.1))]):=by
  rw [aQ (p:=af) (g:=λu=>.tup [af u,lp (u::(f u).map (·.1))]) λu hu=>?_]
  obtain⟨e,lT,_⟩:=hf u ((hm u).1 hu)
  have MU:((f u).map tK).length<cK:=zzV (m:=9) (by rw [zzl];exact lT) (by decide)
  have c:aD (λx=>((Tg.one 0).put x [.no]).bind λag=>(aC F (.sub (.var 0) (.cst (.int 0))) ag).bind λy=>.ok (some y)) ((f u).map tK)=.ok (((f u).map (·.1)).map af):=by
   rw [aQ (p:=tK) (g:=λt=>af t.1) λt ht=>?_,List.map_map]
   ·rfl
   ·simp! only [O4]
  have l3:1+(((f u).map (·.1)).map af).length<=cK:=zzU (m:=10) (by rw [zzl,zzl];omega) (by decide)
  simp! only [] at c;simp! only [e,MU,c,l3]
  rfl
 have RL:∀p,gh ae p->(∀o,o∈p::(f p).map (·.1)↔Nb (E1 ae sl cl pr) p o)/\aF (.bw S (S.map λu=>lp (u::(f u).map (·.1)))) (af p)=.ok (lp (p::(f p).map (·.1))):=λp hp=>by
  refine⟨λo=>?_,?_⟩
  ·rw [zzm,zzx];refine or_congr_right ⟨λ⟨t,ht,e⟩=>⟨t.2,((hf p hp).2.2 o t.2).1 (e▸ht)⟩,λ⟨e,h⟩=>⟨(o,e),((hf p hp).2.2 o e).2 h,rfl⟩⟩
  ·show(Res.of (eN (af p))).bind (λk=>Res.of (aW S (S.map λu=>lp (u::(f u).map (·.1))) k))=_
   rw [dm];show Res.of (aW S (S.map λu=>lp (u::(f u).map (·.1))) p)=_
   have:=iJ (f:=id) (g:=λu=>lp (u::(f u).map (·.1))) (L:=S) (w:=p) (by rw [List.map_id];exact nS) ((hm p).2 hp)
   rw [List.map_id] at this;rw [show aW S (S.map λu=>lp (u::(f u).map (·.1))) p=_ from this]
   rfl
 have lo:=nu (A:=fl ae) (B:=wk sl cl pr) (S:=S) (E:=E1 ae sl cl pr) (O:=gh ae) F ha hE (λu h=>PY L h) os ne hl he hle (by omega) (f:=λp=>p::(f p).map (·.1)) RL (la+S.length+1) 0 [s] .no .no .no .no .no .no (λx=>zzi) (by omega)
 have s1:aE ((la:Int)+(S.length:Int)+1)=true:=eF (by omega) (by omega)
 have rg:dh 0 ((la:Int)+(S.length:Int)+1).toNat=(List.range (la+S.length+1)).map λi:Nat=>PV.int ((0+i:Nat):Int):=by
  rw [show((la:Int)+(S.length:Int)+1).toNat=la+S.length+1 by omega];exact gW 0 _
 have iy:bT aR [fl ae,wk sl cl pr,cM W,af s,af g]=[.val (fl ae),.val (wk sl cl pr),.val (cM W),.val (af s),.val (af g),.no,.no,.no,.no,.no,.no,.no,.no,.no,.no]:=rfl
 have ar:bR aR [fl ae,wk sl cl pr,cM W,af s,af g]=true:=rfl
 have l4:1+W.length<=cK:=zzU (m:=101) (by omega) (by decide)
 have l5:W.length<cK:=zzV hl (by decide)
 have l6:S.length<cK:=zzV lS (by decide)
 have mx:=CV (W.map λw=>(w.length:Int))
 rw [Fc] at mx;have fin:∀r:Res Ci.Fl,forL (λx env=>((Tg.one 9).put x env).bind λag=>aB F AV ag) ((List.range (la+S.length+1)).map λi:Nat=>PV.int ((0+i:Nat):Int)) [.val (fl ae),.val (wk sl cl pr),.val (cM W),.val (af s),.val (af g),.val (.int (la:Int)),.val (lp S),.val (.bw S (S.map λu=>lp (u::(f u).map (·.1)))),.val (.lst [af s]),.no,.no,.no,.no,.no,.no]=r->aq F aR [fl ae,wk sl cl pr,cM W,af s,af g]=(r.bind λf=>f.seq (aB F (.cons (.ret (.cst .aA)) .nil))).bind λf=>match f with|.nx _=>.ok .aA|.rt p=>.ok p|_=>.bad:=λr er=>by
  unfold aq;rw [ar,if_pos rfl,iy,A5];dsimp! only [J] at c1 c2 er;dsimp! only [zzl,l5,c1,l4,mx,eS,l6,c2,d1,s1,rg,er]
  all_goals rfl
 rcases lo with⟨T,_,h2,h3,h4,e⟩|⟨h1,ag,e⟩
 ·rw [fin _ e];cases o with
  |none=>exact absurd h3 (td T)
  |some l=>
   have hp:=List.length_pos_iff.2 (Wy.ne td)
   have:T=l.length-1:=by
    rcases Nat.lt_trichotomy T (l.length-1) with z|z|z
    ·exact absurd h3 (Wy.least td T z)
    ·exact z
    ·exact absurd (Wy.good td) (h4 _ (Nat.zero_le _) z)
   show Res.ok (PV.int (T:Int))=.ok (.int ((l.length:Int)-1))
   rw [this,show((l.length-1:Nat):Int)=(l.length:Int)-1 by omega]
 ·rw [fin _ e];cases o with
  |none=>rfl
  |some l=>
   have hp:=List.length_pos_iff.2 (Wy.ne td)
   have:=Wy.bd td la hle
   exact absurd (Wy.good td) (h1 _ (Nat.zero_le _) (by omega))
noncomputable def Ml:Ss:=#v[.set 9 (.comp 1 [] (.one 0) (.seq (.call "_law_steps" #v[!0,!1,.sub (!5) (!7)])) (.sub (!0) (¬0))),.ite (.and (.cmp .ne (!8) (.sub (!5) (!7))) (.cmp .qH (!8) (!9))) #v[.ret (.cst (.bl false))] .nil]
noncomputable def Jf:Ss:=#v[.ite (.cmp .eq (.call "_law_at" #v[!5,!11]) (.call "_law_at" #v[!10,!11])) #v[.ret (.cst (.bl false))] .nil,.ite (.and (.cmp .eq (.call "_law_at" #v[!5,.bin .add (!11) (¬1)]) (.call "_law_at" #v[!10,!11])) (.cmp .eq (.call "_law_at" #v[!10,.bin .add (!11) (¬1)]) (.call "_law_at" #v[!5,!11]))) #v[.ret (.cst (.bl false))] .nil]
noncomputable def N1:Ss:=#v[.bD (.one 11) (.jj (.bin .add (.blt .max2 #v[.blt .len #v[!5],.blt .len #v[!10]]) (¬1))) Jf]
theorem AL:bW.body=#v[.set 6 (.call "_law_spots" #v[!0]),.ite (.or (.not (.ty .list (!5))) (.or (.cmp .eq (!5) (.lst .nil)) (.cmp .ne (.bC 1 [6] (.one 0) (.seq (!5)) (.cmp .qH (!0) (!1)) (!0)) (.lst .nil)))) #v[.ret (.cst (.bl false))] .nil,.ite (.or (.cmp .ne (.sub (!5) (¬0)) (!3)) (.cmp .ne (.sub (!5) (.neg (¬1))) (!4))) #v[.ret (.cst (.bl false))] .nil,.bD (.two 7 8) (.enum (.slice (!5) (.some (¬1)) .no)) Ml,.bD (.one 10) (.seq (!2)) N1,.ret (.cst (.bl true))]:=rfl
def zb{l:Ks}(hw:l≠[]):aF (lp l) (.int (-1))=.ok (af (av l (l.length-1))):=by
 have h:=List.length_pos_iff.2 hw
 have hl:l=l.dropLast++[l.getLast hw]:=(List.dropLast_concat_getLast hw).symm
 rw [eO (by omega)];have h2:=jm (l.dropLast.map af) (af (l.getLast hw))
 have h3:l.dropLast.map af++[af (l.getLast hw)]=l.map af:=by
  rw [<-List.map_singleton (f:=af),<-List.map_append,<-hl]
 rw [h3] at h2;rw [List.getLast_eq_getElem] at h2;exact h2
def DZ{l:Ks}(hw:l≠[]):aF (lp l) (.int 0)=.ok (af (av l 0)):=by
 have:=kb (dI hw 0)
 rw [Nat.zero_min] at this;exact this
def C8(F:aM)(ha:zR F)(hs:ir F){ae:List Str}{w:Nat}(L:Fl ae w){sl:Bool}{cl pr:Int}(V:Wk cl pr){S:Ks}(eS:F "_law_spots" [fl ae]=.ok (lp S))(hm:∀k,k∈S↔gh ae k)
 {W:List Ks} {s g:List Int} (ne:∀w∈W,w≠[]) (hB:∀w∈W,w.length<=1000) {B n:Nat} {l:Ks} (y:Wy (E1 ae sl cl pr) (gh ae) n W s g B l) (hl:l.length<=1000) (ap:∀w∈W,Ap l w):
 aq F bW [fl ae,wk sl cl pr,cM W,af s,af g,lp l]=.ok (.bl true):=by
 have hp:=List.length_pos_iff.2 y.ne
 obtain⟨env1,e1,s7,s8,s9,rfl⟩:=bj (body:=λx env=>((Tg.two 7 8).put x env).bind λag=>aB F Ml ag) (P:=λ_ env=>∃s7 s8 s9:Ci.Slot,env=[.val (fl ae),.val (wk sl cl pr),.val (cM W),.val (af s),.val (af g),.val (lp l),.val (lp S),s7,s8,s9,.no,.no]) (bX 0 ((l.map af).drop 1)) 0 [.val (fl ae),.val (wk sl cl pr),.val (cM W),.val (af s),.val (af g),.val (lp l),.val (lp S),.no,.no,.no,.no,.no] ⟨_,_,_,rfl⟩ (by
  intro i x env hx ⟨s7,s8,s9,he⟩;subst he;obtain⟨z,hz,rfl⟩:=ik hx
  rw [List.getElem?_drop,zzQ,zzJ] at hz;obtain⟨v,hv,rfl⟩:=hz
  rw [Nat.zero_add];have zL:=(zzH.1 hv).1
  have ev:av l (i+1)=v:=by
   rw [eO (by omega),<-(zzH.1 hv).2]
   congr 1
   omega
  obtain⟨nb,_⟩:=y.go i (by omega)
  rw [ev] at nb;have hu:l[i]?=some (av l i):=by rw [eO (by omega)];exact zzg (by omega)
  have eu:=kb hu
  obtain⟨r,c,hrc,ho⟩:=y.op _ (zzD hu)
  obtain⟨T,eT,lT,_,hT⟩:=hs ae w L sl cl pr V r c ho
  rw [<-hrc] at eT hT;have MU:(T.map tK).length<cK:=zzV (m:=9) (by rw [zzl];exact lT) (by decide)
  have cc:aD (λx=>((Tg.one 0).put x [.no]).bind λag=>(aC F (.sub (.var 0) (.cst (.int 0))) ag).bind λy=>.ok (some y)) (T.map tK)=.ok ((T.map (·.1)).map af):=by
   rw [aQ (p:=tK) (g:=λt=>af t.1) λt ht=>?_,List.map_map]
   ·rfl
   ·simp! only [O4]
  have q1:=KI v (av l i)
  have q2:=Fw v (T.map (·.1))
  have cond:(!decide (v=av l i)&&!decide (v∈T.map (·.1)))=false:=by
   rcases nb with h|⟨e,h⟩
   ·rw [zzh h];rfl
   ·rw [zzh (zzx.2 ⟨(v,e),(hT v e).2 h,rfl⟩),Bool.not_true,Bool.and_false]
  simp! only [] at cc;refine⟨[.val (fl ae),.val (wk sl cl pr),.val (cM W),.val (af s),.val (af g),.val (lp l),.val (lp S),.val (.int (i:Int)),.val (af v),.val (lp (T.map (·.1))),.no,.no],?_,_,_,_,rfl⟩;simp! only [Ml,eu,eT,MU,cc,q1,q2,iq,cond])
 obtain⟨dU,e2,iF,eG,rfl⟩:=bj (body:=λx env=>((Tg.one 10).put x env).bind λag=>aB F N1 ag) (P:=λ_ env=>∃iF eG:Ci.Slot,env=[.val (fl ae),.val (wk sl cl pr),.val (cM W),.val (af s),.val (af g),.val (lp l),.val (lp S),s7,s8,s9,iF,eG]) (W.map lp) 0 [.val (fl ae),.val (wk sl cl pr),.val (cM W),.val (af s),.val (af g),.val (lp l),.val (lp S),s7,s8,s9,.no,.no] ⟨_,_,rfl⟩ (by
  intro j x env hx ⟨iF,eG,he⟩;subst he;rw [zzQ,zzJ] at hx;obtain⟨v,hv,rfl⟩:=hx
  have K6:=zzD hv
  have Sb:=hB v K6
  generalize hN:(if((v.map af).length:Int)>((l.map af).length:Int) then((v.map af).length:Int) else((l.map af).length:Int))+1=N
  have Q7:0<=N/\N<=2000:=by rw [<-hN,zzl,zzl];split<;>omega
  obtain⟨env3,e3,eG,rfl⟩:=bj (body:=λx env=>((Tg.one 11).put x env).bind λag=>aB F Jf ag) (P:=λ_ env=>∃eG:Ci.Slot,env=[.val (fl ae),.val (wk sl cl pr),.val (cM W),.val (af s),.val (af g),.val (lp l),.val (lp S),s7,s8,s9,.val (lp v),eG]) (dh 0 N.toNat) 0 [.val (fl ae),.val (wk sl cl pr),.val (cM W),.val (af s),.val (af g),.val (lp l),.val (lp S),s7,s8,s9,.val (lp v),eG] ⟨_,rfl⟩ (by
   intro t x env hx ⟨eG,he⟩;subst he;obtain⟨_,rfl⟩:=rJ hx
   obtain⟨a1,a2⟩:=ap v K6 t
   have q1:=zK (av l t) (av v t)
   rw [zz0 a1] at q1;have q2:=zK (av l (t+1)) (av v t)
   have q3:=zK (av v (t+1)) (av l t)
   have cond:(decide (av l (t+1)=av v t)&&decide (av v (t+1)=av l t))=false:=by
    cases h1:decide (av l (t+1)=av v t) with
    |false=>rfl
    |true=>
     rw [Bool.true_and];exact zz0 λz=>a2 ⟨z.symm,zzY h1⟩
   refine⟨[.val (fl ae),.val (wk sl cl pr),.val (cM W),.val (af s),.val (af g),.val (lp l),.val (lp S),s7,s8,s9,.val (lp v),.val (.int (t:Int))],?_,_,rfl⟩;simp! only [Jf,ha l y.ne,ha v (ne v K6),ha.Lg y.ne,ha.Lg (ne v K6),q1,q2,q3,iq,cond])
  refine⟨[.val (fl ae),.val (wk sl cl pr),.val (cM W),.val (af s),.val (af g),.val (lp l),.val (lp S),s7,s8,s9,.val (lp v),eG],?_,_,_,rfl⟩;have s1:aE N=true:=eF Q7.1 (by omega)
  dsimp! only [Jf] at e3;dsimp! only [N1,Jf,hN,s1,e3])
 have st:bT bW [fl ae,wk sl cl pr,cM W,af s,af g,lp l]=[.val (fl ae),.val (wk sl cl pr),.val (cM W),.val (af s),.val (af g),.val (lp l),.no,.no,.no,.no,.no,.no]:=rfl
 have ar:bR bW [fl ae,wk sl cl pr,cM W,af s,af g,lp l]=true:=rfl
 have q1:fk (lp l) (.lst [])=.ok (.bl false):=by
  have:=QW l []
  rwa [zz0 y.ne] at this
 have cc:aD (λx=>((Tg.one 0).put x [.no,.val (lp S)]).bind λag=>(aC F (.cmp .qH (.var 0) (.var 1)) ag).bind λt=>lE t λt=>if t then(aC F (.var 0) ag).bind λy=>.ok (some y) else .ok none) (l.map af)=.ok []:=by
  have:=dM (f:=λx=>((Tg.one 0).put x [.no,.val (lp S)]).bind λag=>(aC F (.cmp .qH (.var 0) (.var 1)) ag).bind λt=>lE t λt=>if t then(aC F (.var 0) ag).bind λy=>.ok (some y) else .ok none) (p:=af) (q:=af) (g:=λ_=>false) (xs:=l) λx hx=>by
   have q:=Fw x S
   rw [zzh ((hm x).2 (y.op x hx))] at q;simp! only [q]
  rw [this,List.filter_eq_nil_iff.2 (by simp)]
  rfl
 have q2:fC (.lst []) (.lst [])=.ok (.bl false):=rfl
 have f0:=DZ y.ne
 have f1:=zb y.ne
 rw [y.fst] at f0;rw [y.lst] at f1;have n1:=KI s s
 have n2:=KI g g
 rw [zzh rfl] at n1 n2;have q3:dZ (lp l) (some 1) none=.ok (.lst ((l.map af).drop 1)):=by
  have:=rl (l.map af) (k:=1) (by rw [zzl];omega)
  exact congrArg (λz=>Res.ok (PV.lst z)) this
 have ll:(l.map af).length<cK:=zzV (m:=1000) (by rw [zzl];exact hl) (by decide)
 have ty:f7 .list (lp l)=.ok (.bl true):=rfl
 unfold aq;rw [ar,if_pos rfl,st,AL];dsimp! only [J] at e1 e2 cc;dsimp! only [eS,ty,q1,ll,cc,q2,f0,n1,f1,n2,q3,e1,e2]
theorem kA{α:Type}:∀L:List α,boolsOf (L.map λ_=>PV.bl true)=some (L.map λ_=>true)
 |[]=>rfl
 |a::L=>by
  show(boolsOf (L.map λ_=>PV.bl true)).map (true::·)=_
  rw [kA L]
  rfl
def allI{α:Type}(L:List α):(L.map λ_=>true).all id=true:=by
 rw [List.all_map];simp
theorem za{α:Type}:∀L:List α,boolsOf (L.map λ_=>PV.bl false)=some (L.map λ_=>false)
 |[]=>rfl
 |a::L=>by
  show(boolsOf (L.map λ_=>PV.bl false)).map (false::·)=_
  rw [za L]
  rfl
def anyI{α:Type}(L:List α):(L.map λ_=>false).any id=false:=by
 rw [List.any_map];simp
def anyF{α:Type}(L:List α):bJ .any [.lst (L.map λ_=>PV.bl false)]=.ok (.bl false):=by
 show(Res.of (boolsOf (L.map λ_=>PV.bl false))).bind (λbs=>Res.ok (PV.bl (bs.any id)))=_
 rw [za];show Res.ok (PV.bl ((L.map λ_=>false).any id))=_
 rw [anyI]
def MG{W:List Ks}(ap:W.Pairwise Ap){a b:Ks}(ha:a∈W)(hb:b∈W)(CF:a≠b):Ap a b\/Ap b a:=by
 induction W with
 |nil=>cases ha
 |cons c W ih=>
  obtain⟨p1,p2⟩:=List.pairwise_cons.1 ap
  rcases zzm.1 ha with rfl|ha'
  ·rcases zzm.1 hb with rfl|hb'
   ·exact absurd rfl CF
   ·exact .inl (p1 b hb')
  ·rcases zzm.1 hb with rfl|hb'
   ·exact .inr (p1 a ha')
   ·exact ih p2 ha' hb'
def B8(F:aM)(ho:o8 F){ae:List Str}{w:Nat}(L:Fl ae w){l:Ks}(ne:l≠[])(op:∀x∈l,gh ae x)(hl:l.length<=1000):aq F aJ [fl ae,lp l]=.ok (.bl true):=by
 have hp:=List.length_pos_iff.2 ne
 have ll:(l.map af).length<cK:=zzV (m:=1000) (by rw [zzl];exact hl) (by decide)
 have ty:f7 .list (lp l)=.ok (.bl true):=rfl
 have z:(((l.map af).length:Int)==0)=false:=by rw [zzl,beq_eq_false_iff_ne];omega
 have c:aD (λx=>((Tg.one 0).put x [.no,.val (fl ae)]).bind λag=>(aC F (.call "is_open" (.cons (.var 1) (.cons (.var 0) .nil))) ag).bind λy=>.ok (some y)) (l.map af)=.ok (l.map λ_=>.bl true):=by
  rw [aQ (p:=af) (g:=λ_=>.bl true) λx hx=>?_]
  obtain⟨r,c,rfl,h⟩:=op x hx
  have:=ho ae L.uV r c
  rw [h] at this;replace this:F "is_open" [fl ae,af [r,c]]=.ok (.bl true):=this
  simp! only [this]
 simp! only [] at c;simp! only [aJ,ty,z,ll,c,kA,HI,allI]
def Fz(F:aM)(hc:rh F){ae:List Str}{w:Nat}(L:Fl ae w){sl:Bool}{cl pr:Int}(V:Wk cl pr){a b:List Int}(ha:gh ae a)(hb:gh ae b)(h:Nb (E1 ae sl cl pr) a b):aq F aO [fl ae,wk sl cl pr,af a,af b]=.ok (.bl true):=by
 have q:=zK a b
 rcases h with rfl|⟨e,h⟩
 ·rw [zzh rfl] at q;simp! only [aO,q]
 ·by_cases CF:a=b
  ·rw [zzh CF] at q;simp! only [aO,q]
  ·rw [zz0 CF] at q;obtain⟨r,c,r',c',rfl,rfl,h3,h4,h5⟩:=h
   have:=hc ae w L sl cl pr V r c r' c' h3 h4
   rw [h5] at this;replace this:F "step_cost" [fl ae,wk sl cl pr,af [r,c],af [r',c']]=.ok (.int e):=this
   have q2:eE (.int e) .aA=.ok (.bl true):=rfl
   simp! only [aO,q,this,q2]
def getD_at{l:Ks}{i:Nat}(h:i<l.length):(l.map af).getD i .aA=af (av l i):=by
 rw [eO h,zzK,zzQ,zzg h]
 rfl
def Er(F:aM){ae:List Str}{w:Nat}(L:Fl ae w){sl:Bool}{cl pr:Int}(V:Wk cl pr){l:Ks}(ne:l≠[])(op:∀x∈l,gh ae x)(hl:l.length<=1000)(go:∀j,j+1<l.length->Nb (E1 ae sl cl pr) (av l j) (av l (j+1)))
 (h1:F "is_list_of_open_spots" [fl ae,lp l]=.ok (.bl true)) (h2:∀a b,gh ae a->gh ae b->Nb (E1 ae sl cl pr) a b->F "is_step_or_wait" [fl ae,wk sl cl pr,af a,af b]=.ok (.bl true)):aq F bu [fl ae,wk sl cl pr,lp l]=.ok (.bl true):=by
 have hp:=List.length_pos_iff.2 ne
 have q3:dZ (lp l) (some 1) none=.ok (.lst ((l.map af).drop 1)):=by
  have:=rl (l.map af) (k:=1) (by rw [zzl];omega)
  exact congrArg (λz=>Res.ok (PV.lst z)) this
 have FI:Res.of (gc [lp l,.lst ((l.map af).drop 1)])=.ok [l.map af,(l.map af).drop 1]:=rfl
 have mn:hJ [l.map af,(l.map af).drop 1]=l.length-1:=by
  show min (l.map af).length ((l.map af).drop 1).length=_
  rw [List.length_drop,zzl];omega
 have lz:(fi [l.map af,(l.map af).drop 1]).length<cK:=by
  unfold fi;rw [mn,zzl,List.length_range];exact zzV (m:=1000) (by omega) (by decide)
 have c:aD (λx=>((Tg.two 0 1).put x [.no,.no,.val (wk sl cl pr),.val (fl ae)]).bind λag=>(aC F (.call "is_step_or_wait" (.cons (.var 3) (.cons (.var 2) (.cons (.var 0) (.cons (.var 1) .nil))))) ag).bind λy=>.ok (some y)) (fi [l.map af,(l.map af).drop 1])=.ok ((List.range (l.length-1)).map λ_=>.bl true):=by
  unfold fi;rw [mn,aQ (g:=λ_=>.bl true) λi hi=>?_]
  have hi:=List.mem_range.1 hi
  have g1:=getD_at (l:=l) (i:=i) (by omega)
  have g2:((l.map af).drop 1).getD i .aA=af (av l (i+1)):=by
   rw [<-getD_at (l:=l) (i:=i+1) (by omega),zzK,List.getElem?_drop,zzK,Nat.add_comm]
  have e:=h2 (av l i) (av l (i+1)) (op _ (sY ne _)) (op _ (sY ne _)) (go i (by omega))
  simp! only [zzF,List.map_nil,g1,g2,e]
 simp! only [] at c;simp! only [bu,h1,q3,FI,lz,c,kA,HI,allI]
def LP(F:aM)(A B C D:PV):aq F bg [A,B,C,D,.aA]=.ok (.bl true):=by
 have q:i7 .aA .aA=.ok (.bl true):=rfl
 simp! only [bg,q]
def Fq(F:aM){A B:PV}{l:Ks}(ne:l≠[])(h:F "is_way_in_time" [A,B,lp l]=.ok (.bl true)):aq F bg [A,B,af (av l 0),af (av l (l.length-1)),lp l]=.ok (.bl true):=by
 have q:i7 (lp l) .aA=.ok (.bl false):=rfl
 have f0:=DZ ne
 have f1:=zb ne
 have n1:=zK (av l 0) (av l 0)
 have n2:=zK (av l (l.length-1)) (av l (l.length-1))
 rw [zzh rfl] at n1 n2;simp! only [bg,q,h,f0,f1,n1,n2]
def wu(F:aM){W:List Ks}(ap:W.Pairwise Ap)(hl:W.length<=100)(t:Nat):aq F bo [pS W t]=.ok (.bl true):=by
 have d1:bJ .dict [pS W t]=.ok (HN W t):=by
  have:=nD (L:=W.map λw=>(av w t,af (av w (t+1)))) (by rw [List.map_map];exact pI ap t)
  rw [List.map_map,List.map_map,List.map_map] at this;exact this
 have l1:bJ .len [HN W t]=.ok (.int (W.length:Int)):=by
  have:bJ .len [HN W t]=.ok (.int ((W.map λw=>av w t).length:Int)):=FE
  rwa [zzl] at this
 have l2:bJ .len [pS W t]=.ok (.int (W.length:Int)):=by
  show Res.ok (PV.int ((W.map λw=>PV.tup [af (av w t),af (av w (t+1))]).length:Int))=_
  rw [zzl]
 have lm:(W.map λw=>PV.tup [af (av w t),af (av w (t+1))]).length<cK:=zzV (m:=100) (by rw [zzl];exact hl) (by decide)
 have qm:qN (.var 0) (pS W t)=.ok (W.map λw=>PV.tup [af (av w t),af (av w (t+1))]):=rfl
 have lt:decide ((W.length:Int)<(W.length:Int))=false:=zz0 (Int.lt_irrefl _)
 have swap:∀a∈W,∀b∈W,av a t≠av a (t+1)->¬(av b t=av a (t+1)/\av b (t+1)=av a t):=λa ha b hb fe z=>by
  by_cases CF:a=b
  ·subst CF;exact fe z.1
  ·have:Ap a b\/Ap b a:=MG ap ha hb CF
   rcases this with h|h
   ·exact(h t).2 ⟨z.2.symm,z.1.symm⟩
   ·exact(h t).2 ⟨z.1,z.2⟩
 have c:aD (λx=>((Tg.two 0 1).put x [.no,.no,.val (HN W t)]).bind λag=>(aC F (.and (.cmp .ne (.var 0) (.var 1)) (.cmp .eq (.get (.var 2) (.var 1)) (.var 0))) ag).bind λy=>.ok (some y)) (W.map λw=>PV.tup [af (av w t),af (av w (t+1))])=.ok (W.map λ_=>.bl false):=by
  rw [aQ (p:=λw=>PV.tup [af (av w t),af (av w (t+1))]) (g:=λ_=>.bl false) λa ha=>?_]
  have q1:=KI (av a t) (av a (t+1))
  by_cases fe:av a t=av a (t+1)
  ·rw [zzh fe] at q1;simp! only [q1]
  ·rw [zz0 fe] at q1
   by_cases h2:∃b∈W,av b t=av a (t+1)
   ·obtain⟨b,hb,e⟩:=h2
    have e2:(aW (W.map λw=>av w t) (W.map λw=>af (av w (t+1))) (av a (t+1))).getD .aA=af (av b (t+1)):=by
     rw [<-e,iJ (f:=λw=>av w t) (g:=λw=>af (av w (t+1))) (pI ap t) hb]
     rfl
    have q2:=zK (av b (t+1)) (av a t)
    rw [zz0 λz=>swap a ha b hb fe ⟨e,z⟩] at q2
    simp! only [q1,dm,e2,q2]
   ·have e2:(aW (W.map λw=>av w t) (W.map λw=>af (av w (t+1))) (av a (t+1))).getD .aA=.aA:=by
     rw [n5 (f:=λw=>av w t) (g:=λw=>af (av w (t+1))) λw hw z=>h2 ⟨w,hw,z⟩]
     rfl
    have q2:fk .aA (af (av a t))=.ok (.bl false):=by
     show(if(Ci.plain 9 .aA&&Ci.plain 9 (af (av a t)))=true then Res.ok (PV.bl (gX 9 .aA (af (av a t)))) else .bad)=_
     rw [eW 8]
     rfl
    simp! only [q1,dm,e2,q2]
 simp! only [] at c;simp! only [bo,d1,l1,l2,lt,qm,lm,c,anyF]
def Di(F:aM){W:List Ks}(ne:∀w∈W,w≠[])(hl:W.length<=100){st:Nat}(cJ:st<=2000)(h1:F "still_from" [cM W]=.ok (.int (st:Int)))(h2:∀t:Nat,F "moves_at" [cM W,.int (t:Int)]=.ok (pS W t))(h3:∀t,F "are_moves_apart" [pS W t]=.ok (.bl true)):aq F cB [cM W]=.ok (.bl true):=by
 have s1:aE ((st:Int)+1)=true:=eF (by omega) (by omega)
 have rg:dh 0 ((st:Int)+1).toNat=(List.range (st+1)).map λi:Nat=>PV.int (i:Int):=by
  rw [show((st:Int)+1).toNat=st+1 by omega];have:=gW 0 (st+1)
  simp! [Nat.zero_add] at this;exact this
 have lr:((List.range (st+1)).map λi:Nat=>PV.int (i:Int)).length<cK:=zzV (m:=2001) (by rw [zzl,List.length_range];omega) (by decide)
 have c:aD (λx=>((Tg.one 0).put x [.no,.val (cM W)]).bind λag=>(aC F (.call "are_moves_apart" (.cons (.call "moves_at" (.cons (.var 1) (.cons (.var 0) .nil))) .nil)) ag).bind λy=>.ok (some y)) ((List.range (st+1)).map λi:Nat=>PV.int (i:Int))=.ok ((List.range (st+1)).map λ_=>.bl true):=by
  rw [aQ (p:=λi:Nat=>PV.int (i:Int)) (g:=λ_=>.bl true) λi hi=>?_]
  simp! only [h2,h3]
 dsimp! only [J] at c;dsimp! only [cB,h1,s1,rg,lr,c,kA,HI,allI]
def zZ(F:aM){A B:PV}{ss gs:Ks}{os:List (Option Ks)}(hl:ss.length=gs.length)(ho:os.length=ss.length)(HA:ss.length<=20)(hf:∀(j:Nat) o s g,os[j]?=some o->ss[j]?=some s->gs[j]?=some g->F "fulfils_plan" [A,B,af s,af g,oK o]=.ok (.bl true))(hk:F "keep_apart" [cM (aw os)]=.ok (.bl true)):aq F dt [A,B,lp ss,lp gs,.lst (os.map oK)]=.ok (.bl true):=by
 have ty:f7 .list (.lst (os.map oK))=.ok (.bl true):=rfl
 have z:(!(((os.map oK).length:Int)==((ss.map af).length:Int)))=false:=by rw [zzl,zzl,ho];simp
 have FI:Res.of (gc [lp ss,lp gs,.lst (os.map oK)])=.ok [ss.map af,gs.map af,os.map oK]:=rfl
 have mn:hJ [ss.map af,gs.map af,os.map oK]=ss.length:=by
  show min (ss.map af).length (min (gs.map af).length (os.map oK).length)=_
  rw [zzl,zzl,zzl];omega
 have lz:(fi [ss.map af,gs.map af,os.map oK]).length<cK:=by
  unfold fi;rw [mn,zzl,List.length_range];exact zzV HA (by decide)
 have c:aD (λx=>((Tg.three 0 1 2).put x [.no,.no,.no,.val B,.val A]).bind λag=>(aC F (.call "fulfils_plan" (.cons (.var 4) (.cons (.var 3) (.cons (.var 0) (.cons (.var 1) (.cons (.var 2) .nil)))))) ag).bind λy=>.ok (some y)) (fi [ss.map af,gs.map af,os.map oK])=.ok ((List.range ss.length).map λ_=>.bl true):=by
  unfold fi;rw [mn,aQ (g:=λ_=>.bl true) λi hi=>?_]
  have hi:=List.mem_range.1 hi
  have e1:ss[i]?=some ss[i]:=zzg hi
  have e2:gs[i]?=some gs[i]:=zzg (by omega)
  have e3:os[i]?=some os[i]:=zzg (by omega)
  have g1:(ss.map af).getD i .aA=af ss[i]:=by rw [zzK,zzQ,e1];rfl
  have g2:(gs.map af).getD i .aA=af gs[i]:=by rw [zzK,zzQ,e2];rfl
  have g3:(os.map oK).getD i .aA=oK os[i]:=by rw [zzK,zzQ,e3];rfl
  simp! only [zzF,List.map_nil,g1,g2,g3,hf i _ _ _ e3 e1 e2]
 have l1:(os.map oK).length<cK:=zzV (m:=20) (by rw [zzl];omega) (by decide)
 have c1:aD (λx=>((Tg.one 0).put x [.no]).bind λag=>(aC F (.cmp .oB (.var 0) (.cst .aA)) ag).bind λt=>lE t λt=>if t then(aC F (.var 0) ag).bind λy=>.ok (some y) else .ok none) (os.map oK)=.ok ((aw os).map lp):=oT (λo=>by
  simp! only [JN];cases o<;>rfl) os
 simp! only [] at c c1;simp! only [dt,ty,z,FI,lz,c,kA,HI,allI,l1,c1,hk]
def K5:Ss:=#v[.ite (.cmp .ne (.f9 4) (.lst .nil)) #v[.fD 5 4 (.call "_law_pick" #v[!0,.bin .add (!1) (!6),.blt .len #v[.f9 4]])] .nil]
theorem zW:bY.body=#v[.jd 4 (!2),.own 5 (.lst .nil),.bD (.one 6) (.jj (!3)) K5,.cU 5,.ret (!5)]:=rfl
noncomputable def Ln:Ss:=#v[.set 12 (.iV "_law_soonest" #v[!1,!2,.f9 8,!9,!10]),.ite (.or (.cmp .is (!12) (.cst .aA)) (.cmp .is (!11) (.cst .aA))) #v[.ite (.or (.cmp .oB (!12) (.cst .aA)) (.cmp .oB (!11) (.cst .aA))) #v[.ret (.cst (.bl false))] .nil] #v[.ite (.or (.not (.iV "_law_fits" #v[!1,!2,.f9 8,!9,!10,!11])) (.cmp .ne (.blt .len #v[!11]) (.bin .add (!12) (¬1)))) #v[.ret (.cst (.bl false))] .nil,.app 8 (!11)]]
noncomputable def P4:Ss:=#v[.ite (.or (.not (.ty .list (!7))) (.cmp .ne (.blt .len #v[!7]) (.blt .len #v[!5]))) #v[.ret (.cst (.bl false))] .nil,.own 8 (.lst .nil),.bD (.three 9 10 11) (.zip #v[!5,!6,!7]) Ln,.ret (.cmp .is (.call "is_plan" #v[!1,!2,!5,!6,!7]) (.cst (.bl true)))]
theorem AD:bV.body=(.cons (.set 1 (.call "_law_floor" #v[!0,¬0,¬4])) (.cons (.set 2 (.call "_law_walker" #v[!0,¬30])) (.cons (.set 3 (.call "_law_spots" #v[!1])) (.cons (.set 4 (.bin .add (¬1) (.call "_law_pick" #v[!0,¬34,¬4]))) (.cons (.set 5 (.call "_law_some" #v[!0,¬35,!3,!4])) (.cons (.set 6 (.call "_law_some" #v[!0,¬40,!3,!4])) (.cons (.set 7 (.call "crowd" #v[!1,!2,!5,!6])) P4))))))):=rfl
theorem mT{α β:Type}(f:α->β):∀(l:List α) (i:Nat),(l.map f).eraseIdx i=(l.eraseIdx i).map f
 |[],i=>rfl
 |a::l,0=>rfl
 |a::l,i+1=>congrArg (f a::·) (mT f l i)
theorem lB{α:Type}:∀(l:List α) (i:Nat) (h:i<l.length),(l[i]::l.eraseIdx i).Perm l
 |a::l,0,h=>.refl _
 |a::l,i+1,h=>((List.Perm.swap ..).trans (.cons a (lB l i (Nat.lt_of_succ_lt_succ h))))
def BC(F:aM)(hp:iM F)(ns:List Int)(a:Int)(h0:0<=a)(ha:a<=1000)(m:Nat)(hm:m<=20)(S:Ks)(nS:S.Nodup)(lS:S.length<=36):∃M:Ks,aq F bY [dC ns,.int a,lp S,.int (m:Int)]=.ok (lp M)/\M.Nodup/\(∀u∈M,u∈S)/\M.length=min m S.length:=by
 obtain⟨ag,e1,L,M,s6,rfl,pm,hM⟩:=bj (body:=λx env=>((Tg.one 6).put x env).bind λag=>aB F K5 ag) (P:=λi env=>∃(L M:Ks) (s6:Ci.Slot),env=[.val (dC ns),.val (.int a),.val (lp S),.val (.int (m:Int)),.own (.lst (L.map af)),.own (.lst (M.map af)),s6]/\(M++L).Perm S/\M.length=min i S.length) ((List.range m).map λi:Nat=>PV.int (i:Int)) 0 [.val (dC ns),.val (.int a),.val (lp S),.val (.int (m:Int)),.own (.lst (S.map af)),.own (.lst []),.no] ⟨S,[],_,rfl,.refl _,by simp⟩ (by
  intro i x env hx ⟨L,M,s6,he,pm,hM⟩;subst he;rw [Nat.zero_add] at hM⊢;have qO:x=.int (i:Int):=by
   rw [zzQ,zzJ] at hx;obtain⟨j,hj,rfl⟩:=hx
   rw [List.getElem?_range (by have:=(zzH.1 hj).1;rwa [List.length_range] at this)] at hj;rw [zzq hj]
  subst qO;have ln:=pm.length_eq
  rw [zzM] at ln;have q:=Lp L []
  by_cases hL:L=[]
  ·rw [zzh hL] at q;replace q:fC (.lst (L.map af)) (.lst [])=.ok (.bl false):=q
   refine⟨[.val (dC ns),.val (.int a),.val (lp S),.val (.int (m:Int)),.own (.lst (L.map af)),.own (.lst (M.map af)),.val (.int (i:Int))],?_,L,M,_,rfl,pm,by rw [hL] at ln;simp at ln;omega⟩;simp! only [K5,q]
  ·rw [zz0 hL] at q;replace q:fC (.lst (L.map af)) (.lst [])=.ok (.bl true):=q
   have RY:=List.length_pos_iff.2 hL
   obtain⟨p,ep,p0,p1⟩:=hp ns (a+(i:Int)) (L.length:Int) (by omega) (by omega)
   have hn:p.toNat<L.length:=by omega
   have g:(L.map af)[p.toNat]?=some (af L[p.toNat]):=by rw [zzQ,zzg hn];rfl
   have l0:bJ .len [.lst (L.map af)]=.ok (.int (L.length:Int)):=by
    show Res.ok (PV.int ((L.map af).length:Int))=_
    rw [zzl]
   have c:0<=p/\p<((L.map af).length:Int)/\(L.map af).length<cK/\(M.map af).length<cK/\(5:Nat)≠4:=by
    rw [zzl,zzl];exact⟨p0,p1,zzV (m:=36) (by omega) (by decide),zzV (m:=36) (by omega) (by decide),by decide⟩
   have er:(L.map af).eraseIdx p.toNat=(L.eraseIdx p.toNat).map af:=mT ..
   refine⟨[.val (dC ns),.val (.int a),.val (lp S),.val (.int (m:Int)),.own (.lst ((L.eraseIdx p.toNat).map af)),.own (.lst ((M++[L[p.toNat]]).map af)),.val (.int (i:Int))],?_,_,_,_,rfl,?_,by rw [zzM,List.length_singleton];omega⟩
   ·simp! only [K5,q,l0,ep];split
    ·simp! only [g,er,List.map_append,zzF,List.map_nil]
    ·exact absurd c ‹_›
   ·refine List.Perm.trans ?_ pm;rw [List.append_assoc];exact(lB L _ hn).append_left M)
 refine⟨M,?_,?_,λu hu=>pm.subset (zzc _ hu),by simpa using hM⟩
 ·have sm:aE (m:Int)=true:=eF (by omega) (by omega)
  have rg:dh 0 (m:Int).toNat=(List.range m).map λi:Nat=>PV.int (i:Int):=by
   have:=gW 0 m
   simp! [Nat.zero_add] at this;exact this
  have sq:Res.of (CC (lp S))=.ok (S.map af):=rfl
  have st:bT bY [dC ns,.int a,lp S,.int (m:Int)]=[.val (dC ns),.val (.int a),.val (lp S),.val (.int (m:Int)),.no,.no,.no]:=rfl
  have ar:bR bY [dC ns,.int a,lp S,.int (m:Int)]=true:=rfl
  unfold aq;rw [ar,if_pos rfl,st,zW];dsimp! only [J] at e1;dsimp! only [sq,sm,rg,e1,vg]
 ·have:=(List.Perm.nodup_iff pm).2 nS
  exact(List.nodup_append.1 this).1
structure Rest(F:aM)(ae:List Str)(sl:Bool)(cl pr:Int)(S:Ks):Prop where
 RR:Jp (E1 ae sl cl pr) (gh ae) S.length (fl ae) (wk sl cl pr) (F "crowd")
 Nf:∀(W:List Ks) (s g:List Int) (B:Nat) (o:Option Ks),gh ae s->(∀w∈W,w≠[])->W.length<=100->(∀w∈W,av w (w.length-1)≠g)->(∀w∈W,w.length<=1000)->K9 (E1 ae sl cl pr) (gh ae) S.length W s g B o->F "_law_soonest" [fl ae,wk sl cl pr,cM W,af s,af g]=.ok (MQ o)
 fits:∀(W:List Ks) (s g:List Int) (B:Nat) (l:Ks),(∀w∈W,w≠[])->(∀w∈W,w.length<=1000)->Wy (E1 ae sl cl pr) (gh ae) S.length W s g B l->l.length<=1000->(∀w∈W,Ap l w)->F "_law_fits" [fl ae,wk sl cl pr,cM W,af s,af g,lp l]=.ok (.bl true)
 Mu:∀(ss gs:Ks) (os:List (Option Ks)),ss.length=gs.length->os.length=ss.length->ss.length<=20->ss.Nodup->gs.Nodup->qd (E1 ae sl cl pr) (gh ae) S.length ss gs os->F "is_plan" [fl ae,wk sl cl pr,lp ss,lp gs,.lst (os.map oK)]=.ok (.bl true)
def uI(F:aM){E:List Int->List Int->Int->Prop}{O:List Int->Prop}{n:Nat}{A B:PV}(hN:∀s g,F "fulfils_plan" [A,B,af s,af g,.aA]=.ok (.bl true))(hW:∀l:Ks,l≠[]->(∀x∈l,O x)->l.length<=1000->(∀j,j+1<l.length->Nb E (av l j) (av l (j+1)))->F "fulfils_plan" [A,B,af (av l 0),af (av l (l.length-1)),lp l]=.ok (.bl true))
 (hK:∀W:List Ks,W.Pairwise Ap->(∀w∈W,w≠[]/\w.length<=1000)->W.length<=100->F "keep_apart" [cM W]=.ok (.bl true)) (ss gs:Ks) (os:List (Option Ks)) (hl:ss.length=gs.length) (ho:os.length=ss.length) (HA:ss.length<=20) (n1:ss.Nodup) (n2:gs.Nodup) (cr:qd E O n ss gs os):aq F dt [A,B,lp ss,lp gs,.lst (os.map oK)]=.ok (.bl true):=by
 refine zZ F hl ho HA (λj o s g h1 h2 h3=>?_) (hK _ ?_ (λw hw=>⟨(cr.len hl hw).1,zzU (cr.len hl hw).2 (by omega)⟩) (zzU (oz os) (by omega)))
 ·cases o with
  |none=>exact hN s g
  |some l=>
   have y:Wy E O n (aw (os.take j)) s g (37*(j+1)) l:=cr.HZ j _ _ _ h1 h2 h3
   have:=(zzH.1 h1).1
   have:=hW l y.ne y.op (zzU y.len (by omega)) λj hj=>(y.go j hj).1
   rw [y.fst,y.lst] at this;exact this
 ·have:=cr.ap hl n1 n2 os.length
  rwa [List.take_length] at this
def MP{ss gs:Ks}{os:List (Option Ks)}(hl:ss.length=gs.length)(ho:os.length=ss.length):fi [ss.map af,gs.map af,os.map oK]=(List.range ss.length).map λi=>.tup [af (ss.getD i []),af (gs.getD i []),oK (os.getD i none)]:=by
 have mn:hJ [ss.map af,gs.map af,os.map oK]=ss.length:=by
  show min (ss.map af).length (min (gs.map af).length (os.map oK).length)=_
  rw [zzl,zzl,zzl];omega
 unfold fi;rw [mn];refine List.map_congr_left λi hi=>?_
 have hi:=List.mem_range.1 hi
 have e1:ss[i]?=some ss[i]:=zzg hi
 have e2:gs[i]?=some gs[i]:=zzg (by omega)
 have e3:os[i]?=some os[i]:=zzg (by omega)
 simp! [zzF,List.map_nil,zzK,zzQ,e1,e2,e3,Option.map_some,Option.getD_some]
def CM(F:aM)(hp:iM F)(hf:∀ns,∃ae w,Fl ae w/\F "_law_floor" [dC ns,.int 0,.int 4]=.ok (fl ae))(hw:∀ns,∃sl cl pr,Wk cl pr/\F "_law_walker" [dC ns,.int 30]=.ok (wk sl cl pr))(hk:Ew (F "_law_spots"))
 (OE:∀ns (a:Int),0<=a->a<=1000->∀m:Nat,m<=20->∀S:Ks,S.Nodup->S.length<=36->∃M:Ks,F "_law_some" [dC ns,.int a,lp S,.int (m:Int)]=.ok (lp M)/\M.Nodup/\(∀u∈M,u∈S)/\M.length=min m S.length)
 (hr:∀ae w,Fl ae w->∀sl cl pr,Wk cl pr->∀S:Ks,F "_law_spots" [fl ae]=.ok (lp S)->S.Nodup->S.length<=36->(∀k,k∈S↔gh ae k)->Rest F ae sl cl pr S) (ns:List Int):aq F bV [dC ns]=.ok (.bl true):=by
 obtain⟨ae,w,L,e1⟩:=hf ns
 obtain⟨sl,cl,pr,V,e2⟩:=hw ns
 obtain⟨S,e3,lS,sS,hm⟩:=hk ae L.uV
 have e3:F "_law_spots" [fl ae]=.ok (lp S):=e3
 have nS:S.Nodup:=sS.nodup
 obtain⟨p,e4,p0,p4⟩:=hp ns 34 4 (by decide) (by decide)
 have ep:(1:Int)+p=((p.toNat+1:Nat):Int):=by omega
 obtain⟨ss,e5,n1,i1,l1⟩:=OE ns 35 (by decide) (by decide) (p.toNat+1) (by omega) S nS lS
 obtain⟨gs,e6,n2,i2,l2⟩:=OE ns 40 (by decide) (by decide) (p.toNat+1) (by omega) S nS lS
 have R:=hr ae w L sl cl pr V S e3 nS lS hm
 have hl:ss.length=gs.length:=by omega
 have HA:ss.length<=20:=by omega
 obtain⟨os,e7,ho,cr⟩:=R.RR ss gs hl HA n1 n2 (λu hu=>(hm u).1 (i1 u hu)) (λu hu=>(hm u).1 (i2 u hu))
 have e8:=R.Mu ss gs os hl ho HA n1 n2 cr
 generalize hmm:((p.toNat+1:Nat):Int)=mm at *
 obtain⟨ag,e9,s9,iF,eG,gv,rfl⟩:=bj (body:=λx env=>((Tg.three 9 10 11).put x env).bind λag=>aB F Ln ag) (P:=λi env=>∃s9 iF eG gv:Ci.Slot,env=[.val (dC ns),.val (fl ae),.val (wk sl cl pr),.val (lp S),.val (.int mm),.val (lp ss),.val (lp gs),.val (.lst (os.map oK)),.own (cM (aw (os.take i))),s9,iF,eG,gv]) ((List.range ss.length).map λi=>.tup [af (ss.getD i []),af (gs.getD i []),oK (os.getD i none)]) 0 [.val (dC ns),.val (fl ae),.val (wk sl cl pr),.val (lp S),.val (.int mm),.val (lp ss),.val (lp gs),.val (.lst (os.map oK)),.own (.lst []),.no,.no,.no,.no] ⟨_,_,_,_,rfl⟩ (by
  intro i x env hx ⟨s9,iF,eG,gv,he⟩;subst he;rw [Nat.zero_add];rw [zzQ,zzJ] at hx;obtain⟨j,hj,rfl⟩:=hx
  have hi:i<ss.length:=by have:=(zzH.1 hj).1;rwa [List.length_range] at this
  rw [List.getElem?_range hi] at hj;cases hj;have hs:ss[i]?=some ss[i]:=zzg hi
  have hg:gs[i]?=some gs[i]:=zzg (by omega)
  have Qp:os[i]?=some os[i]:=zzg (by omega)
  rw [zzK,zzK,zzK,hs,hg,Qp,Option.getD_some,Option.getD_some,Option.getD_some];have td:=cr.HZ i _ _ _ Qp hs hg
  have wn:∀w∈aw (os.take i),w≠[]/\w.length<=1000:=λw hw=>⟨((cr.take i).len hl hw).1,zzU ((cr.take i).len hl hw).2 (by rw [List.length_take];omega)⟩
  have off:∀w∈aw (os.take i),av w 0≠ss[i]/\av w (w.length-1)≠gs[i]:=λw hw=>cr.off hl n1 n2 hs hg hw
  have q1:=R.Nf (aw (os.take i)) ss[i] gs[i] _ os[i] ((hm _).1 (i1 _ (List.getElem_mem _))) (λw hw=>(wn w hw).1) (zzU (oz _) (by rw [List.length_take];omega)) (λw hw=>(off w hw).2) (λw hw=>(wn w hw).2) td
  have d1:([fl ae,wk sl cl pr,cM (aw (os.take i)),af ss[i],af gs[i]].all λp=>!p9 p)=true:=rfl
  have tk:aw (os.take (i+1))=aw (os.take i)++aw [os[i]]:=by
   rw [<-List.take_append_getElem (show i<os.length by omega),yU]
  rw [tk];generalize os[i]=o at *
  have sc:eY (MQ o)=true:=by cases o<;>rfl
  have lw:((aw (os.take i)).map lp).length<cK:=zzV (m:=20) (by rw [zzl];exact zzU (oz _) (by rw [List.length_take];omega)) (by decide)
  generalize aw (os.take i)=W at *
  cases o with
  |none=>
   refine⟨[.val (dC ns),.val (fl ae),.val (wk sl cl pr),.val (lp S),.val (.int mm),.val (lp ss),.val (lp gs),.val (.lst (os.map oK)),.own (cM W),.val (af ss[i]),.val (af gs[i]),.val .aA,.val .aA],?_,_,_,_,_,by rw [show aw [none]=[] from rfl,zz6]⟩;have r1:i7 .aA .aA=.ok (.bl true):=rfl
   have r2:eE .aA .aA=.ok (.bl false):=rfl
   replace q1:F "_law_soonest" [fl ae,wk sl cl pr,cM W,af ss[i],af gs[i]]=.ok .aA:=q1
   have sc:eY .aA=true:=rfl
   have eo:oK none=.aA:=rfl
   simp! only [Ln,eo,q1,d1,sc,r1,r2]
  |some l=>
   have y:Wy (E1 ae sl cl pr) (gh ae) S.length W ss[i] gs[i] (37*(i+1)) l:=td
   have F5:l.length<=1000:=zzU y.len (by omega)
   have q2:=R.fits W ss[i] gs[i] _ l (λw hw=>(wn w hw).1) (λw hw=>(wn w hw).2) y F5 (λw hw=>y.ap hw (wn w hw).1 (off w hw).1 (off w hw).2)
   have d2:([fl ae,wk sl cl pr,cM W,af ss[i],af gs[i],lp l].all λp=>!p9 p)=true:=rfl
   have r1:i7 (.int ((l.length:Int)-1)) .aA=.ok (.bl false):=rfl
   have r2:i7 (lp l) .aA=.ok (.bl false):=rfl
   replace q1:F "_law_soonest" [fl ae,wk sl cl pr,cM W,af ss[i],af gs[i]]=.ok (.int ((l.length:Int)-1)):=q1
   have sc:eY (.int ((l.length:Int)-1))=true:=rfl
   have RT:eY (.bl true)=true:=rfl
   have eo:oK (some l)=lp l:=rfl
   have ln:bJ .len [lp l]=.ok (.int (l.length:Int)):=by
    show Res.ok (PV.int ((l.map af).length:Int))=_
    rw [zzl]
   have z:(!((l.length:Int)==(l.length:Int)-1+1))=false:=by rw [show(l.length:Int)-1+1=(l.length:Int) by omega];simp
   refine⟨[.val (dC ns),.val (fl ae),.val (wk sl cl pr),.val (lp S),.val (.int mm),.val (lp ss),.val (lp gs),.val (.lst (os.map oK)),.own (cM (W++[l])),.val (af ss[i]),.val (af gs[i]),.val (lp l),.val (.int ((l.length:Int)-1))],?_,_,_,_,_,rfl⟩;simp! only [Ln,eo,q1,d1,sc,r1,r2,q2,d2,RT,ln,z,lw,cM,List.map_append,zzF,List.map_nil])
 have ty:f7 .list (.lst (os.map oK))=.ok (.bl true):=rfl
 have z:(!(((os.map oK).length:Int)==((ss.map af).length:Int)))=false:=by rw [zzl,zzl,ho];simp
 have FI:Res.of (gc [lp ss,lp gs,.lst (os.map oK)])=.ok [ss.map af,gs.map af,os.map oK]:=rfl
 have r9:i7 (.bl true) (.bl true)=.ok (.bl true):=rfl
 have st:bT bV [dC ns]=[.val (dC ns),.no,.no,.no,.no,.no,.no,.no,.no,.no,.no,.no,.no]:=rfl
 have ar:bR bV [dC ns]=true:=rfl
 unfold aq;rw [ar,if_pos rfl,st,AD];dsimp! only [J] at e9;dsimp! only [P4,e1,e2,e3,e4,ep,e5,e6,e7,e8,ty,z,FI,MP hl ho,e9,r9]
noncomputable def ud:Ss:=#v[.ite (.not (.call "_law_once" #v[.comp 1 [1] (.one 0) (.seq (!0)) (.bin .add (!0) (.bin .mul (¬7919) (!1)))])) #v[.ret (.cst (.bl false))] .nil,.ite (.cmp .eq (!0) (.lst .nil)) #v[.brk] .nil]
def qq(F:aM)(ho:∀ns,F "_law_once" [dC ns]=.ok (.bl true))(ns:List Int)(hl:ns.length<=63)(t:Int):aB F ud [.val (dC ns),.val (.int t)]=.ok (if ns=[] then .bk [.val (dC ns),.val (.int t)] else .nx [.val (dC ns),.val (.int t)]):=by
 have l:ns.length<cK:=zzV hl (by decide)
 have s:(aN 7919||aN t)=true:=by rw [zzt];exact .inl (by decide)
 dsimp! only [ud,Le,zzl,l];rw [aQ (g:=λn:Int=>.int (n+7919*t)) (λn _=>by dsimp! only [s])]
 have e:=ho (ns.map λn=>n+7919*t)
 simp! [dC,List.map_map,Function.comp_def] at e;dsimp! only [e,eq_nil]
 by_cases h:ns=[]
 ·dsimp! only [h,decide_true]
 ·dsimp! only [h,decide_false]
def GL(F:aM)(ho:∀ns,F "_law_once" [dC ns]=.ok (.bl true))(ns:List Int)(hl:ns.length<=63):aq F mW [dC ns]=.ok (.bl true):=by
 have e:∃t:Int,forL (λx env=>((Tg.one 1).put x env).bind λag=>aB F ud ag) (dh 0 (3:Int).toNat) [.val (dC ns),.no]=.ok (.nx [.val (dC ns),.val (.int t)]):=by
  rw [show dh 0 (3:Int).toNat=[.int 0,.int 1,.int 2] from rfl]
  by_cases h:ns=[]
  ·refine⟨0,?_⟩;simp! [forL,Lc,m8,List.set_cons_succ,List.set_cons_zero,qq F ho ns hl,if_pos h]
  ·refine⟨2,?_⟩;simp! [forL,Lc,m8,List.set_cons_succ,List.set_cons_zero,qq F ho ns hl,h,if_false]
 obtain⟨t,e⟩:=e
 have s:aE 3=true:=by decide
 dsimp! only [ud] at e;dsimp! only [mW,s,e]
def JZ(ns:List Int)(hl:ns.length<=63):aq (den Py) mW [dC ns]=.ok (.bl true):=by
 have pick:∀F:aM,F "_law_pick"=aq (den T1) bt->iM F:=λF hF ns k q hk hq=>by
  rw [hF];exact Ck (den T1) (λns k hk=>by rw [Iw];exact Bm _ ns k hk) ns k q hk hq
 have tx:∀F:aM,F "is_open"=aq (den DS) cq->o8 F:=λF hF ae R r c=>by
  rw [hF];exact Ce _ (λr c=>by rw [Ho];exact sA _ (λi=>by rw [Ja];exact oM _ i) r c) (λae R r c=>by rw [AX];exact JL _ ae R r c) ae R r c
 have xB:∀F:aM,F "need_open"=aq (den HJ) bH->yw F:=λF hF ae R r c h=>by
  rw [hF];exact oF _ (tx _ Bh) ae R r c h
 have step:∀F:aM,F "step_cost"=aq (den EM) bh->rh F:=λF hF ae w L sl cl pr V r c r' c' h h'=>by
  rw [hF];exact Ak _ (λr c r' c'=>by rw [AQ];exact uQ _ r c r' c') (λae R r c r' c'=>by rw [BL];exact rf _ (tx _ zU) R r c r' c') (λae w L r c h=>by rw [BH];exact vi _ (xB _ CI) L h) L V h h'
 have Ru:DL (den Im):=λae R r c a b d e=>by
  rw [A7];exact Fn _ (tx _ BA) R a b d e
 have steps:jr (den HQ):=by
  unfold jr;rw [AZ];exact wB _ (xB _ AG) Ru (step _ Bl)
 have xi:∀F:aM,F "_law_steps"=aq (den JE) aY->ir F:=λF hF=>by
  unfold ir;rw [hF];exact u6 _ (λae w L sl cl pr V r c r' c' h h' hf=>by rw [Cs];exact rW _ L V h h' hf)
 have Dz:∀F:aM,F "_law_spots"=aq (den T4) bb->tM F:=λF hF ae R=>by
  rw [hF];exact w8 _ ae R
 have Ql:∀F:aM,F "_law_at"=aq (den K1) cD->zR F:=λF hF w hw t=>by
  rw [hF];exact yt _ w hw t
 have P9:∀F:aM,F "moves_at"=aq (den IF) cw->xH F:=λF hF W hW hl t=>by
  rw [hF];exact sD _ (λw hw t=>by rw [Bd];exact vL _ w hw t) W hW hl t
 have Qb:∀F:aM,F "still_from"=aq (den LI) br->∀W:List Ks,(∀w∈W,w≠[])->W.length<=100->∃st:Nat,F "still_from" [cM W]=.ok (.int (st:Int))/\n9 W st:=λF hF W hW hl=>by
  rw [hF];exact yY _ W hW hl
 refine GL _ (λns=>?_) ns hl;rw [BB];refine CM _ (pick _ Gb) (λns=>by rw [F8];exact vb _ (pick _ Jq) ns 4 (by decide) (by decide)) (λns=>by rw [G6];exact vO _ (pick _ JD) ns 30 (by decide)) (zt (Dz _ xG)) (λns a h0 h1 m hm S nS lS=>by rw [E6];exact BC _ (pick _ Ke) ns a h0 h1 m hm S nS lS) (λae w L sl cl pr V S eS nS lS hm=>?_) ns
 have Qd:∀F:aM,F "_law_spots"=aq (den T4) bb->F "_law_spots" [fl ae]=.ok (lp S):=λF hF=>by
  rw [hF,<-xG];exact eS
 have hE:∀u v e,E1 ae sl cl pr u v e->gh ae v:=λu v e h=>(Dt L V h).2.2
 have hO:∀u,gh ae u->u∈vT:=λu hu=>PY L hu
 refine⟨?_,λW s g B o os ne iS he hB td=>?_,λW s g B l ne hB y l1 ap=>?_,λss gs os h1 h2 h3 h4 h5 h6=>?_⟩
 ·rw [A3];obtain⟨ks,vs,e1,JP⟩:=Bb (den HQ) steps (by rw [Gz];exact xA _) ae w L sl cl pr V
  refine yv (den HV) lS (λu hu=>?_) (by rw [CL];exact e1) ?_
  ·obtain⟨r,c,rfl,ho⟩:=hu
   exact xB _ C6 ae L.uV r c ho
  ·rw [Cc];exact xC (den DN) hE hO (λu hu=>(hm u).2 hu) lS (λW g=>by rw [CD];exact AJ _ W g) (Qb _ C2) (P9 _ Bk) (λW ap hl t kr vr hk=>by rw [By];exact Bs _ hE hO JP ap hl t hk) (λW s D T g hD hT h5 hg=>by rw [BY];exact zT _ hD hT h5 hg)
 ·rw [Ar];exact sj (den HK) (Ql _ Cd) (zt (Dz _ wd)) (xi _ BP) L V (Qd _ wd) hm nS lS os ne iS he hB td
 ·rw [B6];exact C8 (den HW) (Ql _ An) (xi _ B1) L V (Qd _ G8) hm ne hB y l1 ap
 ·rw [CT];refine uI (den Ip) (E:=E1 ae sl cl pr) (O:=gh ae) (n:=S.length) (λs g=>by rw [uh];exact LP ..) (λl ne op l1 go=>?_) (λW ap wn iS=>?_) ss gs os h1 h2 h3 h4 h5 h6
  ·rw [uh];refine Fq (den Li) ne ?_;rw [BD];refine Er (den Ir) L V ne op l1 go ?_ λa b ha hb h=>?_
   ·rw [Au];exact B8 _ (tx _ Ah) L ne op l1
   ·rw [Ag];exact Fz _ (step _ Bi) L V ha hb h
  ·rw [AU];have ne:∀w∈W,w≠[]:=λw hw=>(wn w hw).1
   obtain⟨st,e1,sn⟩:=Qb _ B7 W ne iS
   refine Di (den Ik) ne iS ?_ e1 (λt=>P9 _ B9 W ne iS t) λt=>by rw [B5];exact wu _ ap iS t
   rcases sn.2 with z|⟨w,hw,z⟩
   ·omega
   ·have:=(wn w hw).2
    omega
end K60
namespace Hd
open PySem PySem.W L2
noncomputable abbrev fo(n:Str)(st:Stmt)(pm:Value)(c:Addr):Obj:=⟨.type "function",none,.func (fnOf n n (cY st) (cA st) (aP st) .none .none .none pm none (.ref c) .none),#[]⟩
noncomputable abbrev co(n:Str)(a:Nat)(L A:Int)(r:Nat)(x y:Value)(q z:Nat):Obj:={cls:=.type "code",data:=.fields #[.str n a,.str n (a+1),.str "/claim/cut.py" (a+2),.int L 0,.int A 0,.int 0 0,.int 0 0,.int 3 0,.ref r,.bool Bool.true,.int 181 0,.ref (r+1),.none,x,y,.ref q,.int z 0,.int L 0,.str "/claim/cut.py" (z+1)]}
def Me(s:Stmt):Pos:=match s with
 |.FunctionDef _ _ _ _ _ _ _ _ _ p=>p
 |_=>⟨0,0,0,0⟩
def ent{K:Frag}{ts:List (Addr×Str)}{n:Str}{st:Stmt}(f c:Addr)(pm:Value)(a:nsIn K mainGlobals n=some (some (.ref f)):=by kernel_rfl)(l:K.lookup f=some (fo n st pm c):=by kernel_rfl)(d:codeIn K (.ref c) n=true:=by kernel_rfl)(k:keepIn K (.ref f)=true:=by kernel_rfl):Ci.zk K ts false n st:=Ci.MA a l d k
def ac{K:Frag}{ts:List (Addr×Str)}{Γ:Ci.Pg}{r:Ci.Row}{l:Ci.dz}(e:Ci.zk K ts r.hl r.h r.st)(s:Ci.bA (Γ.at l r.hl) r.h r.d r.st)(t:Ci.AllK K ts Γ l)(a:(l.map (·.f)).contains r.f=false:=by decide+kernel)(b:(r.d.qA.isNone==!Ci.gD r.f)=true:=by decide+kernel)(c:r.d.qA.isNone=true->r.f=r.h:=by first|exact λ_=>rfl|exact λz=>absurd z (by decide)):Ci.AllK K ts Γ (r::l):=⟨e,s,⟨a,b,c⟩,t⟩
def xE{K L:Frag}{b:Addr}{o:Obj}(e:K.lookup b=some o):(K++L).lookup b=some o:=by
 rw [List.lookup_append,e]
 rfl
end Hd
namespace K60
open PySem L2 Ci
abbrev lw:=PySem.Challenge.rw_cellways_k60_whole_crowd
def top(i:Nat):Stmt:=PySem.Challenge.pw_cellways_k60_whole_crowd.main.body.getD i (.Pass ⟨0,0,0,0⟩)
abbrev m1:Value:=.str "cellways.floors" 223
abbrev m2:Value:=.str "cellways.crowds" 354
abbrev m3:Value:=.str "law_cellways_k60_whole_crowd" 461
noncomputable def K(P:Params):zz8:=[(2,{cls:=.none,data:=.dict #[]}),
 (3,{cls:=.type "dict",data:=.dict #[Hd.de P "__name__" 165 (.str "law_cellways_k60_whole_crowd" 461),Hd.de P "__doc__" 166 (.none),Hd.de P "__package__" 167 (.none),Hd.de P "__loader__" 168 (.builtin "__main__.__loader__#opaque"),Hd.de P "__spec__" 169 (.none),Hd.de P "__annotations__" 170 (.ref 6),Hd.de P "__builtins__" 171 (.ref 4),Hd.de P "__file__" 173 (.str "/claim/cut.py" 172),Hd.de P "__cached__" 174 (.none),Hd.de P "FloorError" 206 (.ref 24),Hd.de P "NoSpot" 222 (.ref 37),Hd.de P "WALL" 226 (.str "#" 225),Hd.de P "STRAIGHT_COST" 228 (.int 2 227),Hd.de P "SLANTING_COST" 230 (.int 3 229),Hd.de P "is_whole" 237 (.ref 46),Hd.de P "is_spot" 244 (.ref 53),Hd.de P "is_on_floor" 252 (.ref 60),Hd.de P "is_open" 260 (.ref 67),Hd.de P "need_open" 268 (.ref 74),Hd.de P "open_spots" 280 (.ref 81),Hd.de P "height_at" 288 (.ref 88),Hd.de P "open_spots_beside" 299 (.ref 95),Hd.de P "are_beside" 307 (.ref 102),Hd.de P "has_open_corners" 316 (.ref 109),Hd.de P "step_cost" 329 (.ref 116),Hd.de P "steps_from" 341 (.ref 123),Hd.de P "steps_over" 347 (.ref 128),Hd.de P "is_list_of_open_spots" 353 (.ref 133),Hd.de P "spot_at" 363 (.ref 140),Hd.de P "moves_at" 369 (.ref 145),Hd.de P "still_from" 375 (.ref 150),Hd.de P "left_from" 387 (.ref 157),Hd.de P "reached_next" 393 (.ref 162),Hd.de P "traced_back" 403 (.ref 169),Hd.de P "earliest_way" 409 (.ref 174),Hd.de P "crowd" 415 (.ref 179),Hd.de P "is_step_or_wait" 425 (.ref 186),Hd.de P "is_way_in_time" 431 (.ref 191),Hd.de P "are_moves_apart" 437 (.ref 196),Hd.de P "keep_apart" 443 (.ref 201),Hd.de P "fulfils_plan" 454 (.ref 208),Hd.de P "is_plan" 460 (.ref 213),Hd.de P "_law_cell" 470 (.ref 220),Hd.de P "_law_pick" 480 (.ref 227),Hd.de P "_law_floor" 498 (.ref 234),Hd.de P "_law_walker" 506 (.ref 241),Hd.de P "_law_spots" 512 (.ref 246),Hd.de P "_law_cost" 524 (.ref 253),Hd.de P "_law_steps" 538 (.ref 260),Hd.de P "_law_at" 546 (.ref 267),Hd.de P "_law_soonest" 552 (.ref 272),Hd.de P "_law_fits" 558 (.ref 277),Hd.de P "_law_some" 571 (.ref 284),Hd.de P "_law_once" 590 (.ref 291),Hd.de P "law" 596 (.ref 296)] 55}),
 (23,{cls:=.type "dict",data:=.dict #[Hd.de P "__module__" 196 (.str "cellways.errors" 187),Hd.de P "__firstlineno__" 200 (.int 2 199),Hd.de P "__static_attributes__" 201 (.ref 22),Hd.de P "__weakref__" 203 (.ref 25),Hd.de P "__doc__" 204 (.none)] 3}),
 (24,{cls:=.type "type",data:=.cls {name:="FloorError",bases:=[.type "ValueError"],mro:=[.ref 24,.type "ValueError",.type "Exception",.type "BaseException",.type "object"],ns:=23,qualname:="FloorError",subclasses:=[.ref 37]},slots:=#[some (.ref 15),none,some (.str "FloorError" 189),some (.str "FloorError" 197),some (.builtin "ValueError.__new__"),some (.bool Bool.true)]}),
 (36,{cls:=.type "dict",data:=.dict #[Hd.de P "__module__" 214 (.str "cellways.errors" 187),Hd.de P "__firstlineno__" 218 (.int 4 217),Hd.de P "__static_attributes__" 219 (.ref 35),Hd.de P "__doc__" 220 (.none)] 2}),
 (37,{cls:=.type "type",data:=.cls {name:="NoSpot",bases:=[.ref 24],mro:=[.ref 37,.ref 24,.type "ValueError",.type "Exception",.type "BaseException",.type "object"],ns:=36,qualname:="NoSpot"},slots:=#[some (.ref 28),none,some (.str "NoSpot" 207),some (.str "NoSpot" 215),some (.builtin "ValueError.__new__"),some (.bool Bool.true)]}),
 (45,Hd.co "is_whole" 231 10 1 40 (.ref 42) (.ref 43) 44 235),
 (46,Hd.fo "is_whole" (top 7) m1 45),
 (52,Hd.co "is_spot" 238 12 1 47 (.ref 49) (.ref 50) 51 242),
 (53,Hd.fo "is_spot" (top 8) m1 52),
 (59,Hd.co "is_on_floor" 245 14 2 54 (.ref 56) (.ref 57) 58 250),
 (60,Hd.fo "is_on_floor" (top 9) m1 59),
 (66,Hd.co "is_open" 253 16 2 61 (.ref 63) (.ref 64) 65 258),
 (67,Hd.fo "is_open" (top 10) m1 66),
 (73,Hd.co "need_open" 261 18 2 68 (.ref 70) (.ref 71) 72 266),
 (74,Hd.fo "need_open" (top 11) m1 73),
 (80,Hd.co "open_spots" 269 21 1 75 (.ref 77) (.ref 78) 79 278),
 (81,Hd.fo "open_spots" (top 12) m1 80),
 (87,Hd.co "height_at" 281 28 2 82 (.ref 84) (.ref 85) 86 286),
 (88,Hd.fo "height_at" (top 13) m1 87),
 (94,Hd.co "open_spots_beside" 289 31 2 89 (.ref 91) (.ref 92) 93 297),
 (95,Hd.fo "open_spots_beside" (top 14) m1 94),
 (101,Hd.co "are_beside" 300 38 2 96 (.ref 98) (.ref 99) 100 305),
 (102,Hd.fo "are_beside" (top 15) m1 101),
 (108,Hd.co "has_open_corners" 308 40 3 103 (.ref 105) (.ref 106) 107 314),
 (109,Hd.fo "has_open_corners" (top 16) m1 108),
 (115,Hd.co "step_cost" 317 42 4 110 (.ref 112) (.ref 113) 114 327),
 (116,Hd.fo "step_cost" (top 17) m1 115),
 (122,Hd.co "steps_from" 330 53 3 117 (.ref 119) (.ref 120) 121 339),
 (123,Hd.fo "steps_from" (top 18) m1 122),
 (127,Hd.co "steps_over" 342 61 2 124 .none .none 126 345),
 (128,Hd.fo "steps_over" (top 19) m1 127),
 (132,Hd.co "is_list_of_open_spots" 348 66 2 129 .none .none 131 351),
 (133,Hd.fo "is_list_of_open_spots" (top 20) m1 132),
 (139,Hd.co "spot_at" 356 71 2 134 (.ref 136) (.ref 137) 138 361),
 (140,Hd.fo "spot_at" (top 22) m2 139),
 (144,Hd.co "moves_at" 364 73 2 141 .none .none 143 367),
 (145,Hd.fo "moves_at" (top 23) m2 144),
 (149,Hd.co "still_from" 370 75 1 146 .none .none 148 373),
 (150,Hd.fo "still_from" (top 24) m2 149),
 (156,Hd.co "left_from" 376 77 2 151 (.ref 153) (.ref 154) 155 385),
 (157,Hd.fo "left_from" (top 25) m2 156),
 (161,Hd.co "reached_next" 388 84 3 158 .none .none 160 391),
 (162,Hd.fo "reached_next" (top 26) m2 161),
 (168,Hd.co "traced_back" 394 93 2 163 (.ref 165) (.ref 166) 167 401),
 (169,Hd.fo "traced_back" (top 27) m2 168),
 (173,Hd.co "earliest_way" 404 98 4 170 .none .none 172 407),
 (174,Hd.fo "earliest_way" (top 28) m2 173),
 (178,Hd.co "crowd" 410 111 4 175 .none .none 177 413),
 (179,Hd.fo "crowd" (top 29) m2 178),
 (185,Hd.co "is_step_or_wait" 416 120 4 180 (.ref 182) (.ref 183) 184 423),
 (186,Hd.fo "is_step_or_wait" (top 30) m2 185),
 (190,Hd.co "is_way_in_time" 426 122 3 187 .none .none 189 429),
 (191,Hd.fo "is_way_in_time" (top 31) m2 190),
 (195,Hd.co "are_moves_apart" 432 126 1 192 .none .none 194 435),
 (196,Hd.fo "are_moves_apart" (top 32) m2 195),
 (200,Hd.co "keep_apart" 438 131 1 197 .none .none 199 441),
 (201,Hd.fo "keep_apart" (top 33) m2 200),
 (207,Hd.co "fulfils_plan" 444 133 5 202 (.ref 204) (.ref 205) 206 452),
 (208,Hd.fo "fulfils_plan" (top 34) m2 207),
 (212,Hd.co "is_plan" 455 137 5 209 .none .none 211 458),
 (213,Hd.fo "is_plan" (top 35) m2 212),
 (219,Hd.co "_law_cell" 463 144 2 214 (.ref 216) (.ref 217) 218 468),
 (220,Hd.fo "_law_cell" (top 37) m3 219),
 (226,Hd.co "_law_pick" 471 150 3 221 (.ref 223) (.ref 224) 225 478),
 (227,Hd.fo "_law_pick" (top 38) m3 226),
 (233,Hd.co "_law_floor" 481 153 3 228 (.ref 230) (.ref 231) 232 496),
 (234,Hd.fo "_law_floor" (top 39) m3 233),
 (240,Hd.co "_law_walker" 499 166 2 235 (.ref 237) (.ref 238) 239 504),
 (241,Hd.fo "_law_walker" (top 40) m3 240),
 (245,Hd.co "_law_spots" 507 168 1 242 .none .none 244 510),
 (246,Hd.fo "_law_spots" (top 41) m3 245),
 (252,Hd.co "_law_cost" 513 173 4 247 (.ref 249) (.ref 250) 251 522),
 (253,Hd.fo "_law_cost" (top 42) m3 252),
 (259,Hd.co "_law_steps" 525 183 3 254 (.ref 256) (.ref 257) 258 536),
 (260,Hd.fo "_law_steps" (top 43) m3 259),
 (266,Hd.co "_law_at" 539 193 2 261 (.ref 263) (.ref 264) 265 544),
 (267,Hd.fo "_law_at" (top 44) m3 266),
 (271,Hd.co "_law_soonest" 547 195 5 268 .none .none 270 550),
 (272,Hd.fo "_law_soonest" (top 45) m3 271),
 (276,Hd.co "_law_fits" 553 213 6 273 .none .none 275 556),
 (277,Hd.fo "_law_fits" (top 46) m3 276),
 (283,Hd.co "_law_some" 559 230 4 278 (.ref 280) (.ref 281) 282 569),
 (284,Hd.fo "_law_some" (top 47) m3 283),
 (290,Hd.co "_law_once" 572 237 1 285 (.ref 287) (.ref 288) 289 588),
 (291,Hd.fo "_law_once" (top 48) m3 290),
 (295,Hd.co "law" 591 258 1 292 .none .none 294 594),
 (296,Hd.fo "law" (top 49) m3 295)]
def ts:List (Addr×Str):=[]
noncomputable def K2(P:Params):zz8:=K P++[]
noncomputable def as:List Addr:=[2,3,23,24,36,37,45,46,52,53,59,60,66,67,73,74,80,81,87,88,94,95,101,102,108,109,115,116,122,123,127,128,132,133,139,140,144,145,149,150,156,157,161,162,168,169,173,174,178,179,185,186,190,191,195,196,200,201,207,208,212,213,219,220,226,227,233,234,240,241,245,246,252,253,259,260,266,267,271,272,276,277,283,284,290,291,295,296]
noncomputable def Γ:Pg:=⟨[("WALL",(.str "#")),("STRAIGHT_COST",(.int 2)),("SLANTING_COST",(.int 3))],["len","abs","max","min","int","str","list","tuple","all","isinstance","bool","range","enumerate","zip","dict","reversed","any"],[],[],["NoSpot"],[],false⟩
def R0:dz:=[]
def oG:bA (Γ.at R0 false) "_law_cell" cO (top 37):=stM λ_ _ _ _ _ _=>Hd.qV λ_ _=>rfl
noncomputable def R1:dz:=⟨"_law_cell","_law_cell",cO,top 37,false⟩::R0
def nU:bA (Γ.at R1 false) "_law_pick" bt (top 38):=stM λ_ _ _ _ _ _=>Hd.Eo λ_ _ _=>rfl
noncomputable def R2:dz:=⟨"_law_pick","_law_pick",bt,top 38,false⟩::R1
def lR:bA (Γ.at R2 false) "_law_floor" bZ (top 39):=stM λ_ _ _ _ _ _=>Hd.Eo λ_ _ _=>rfl
noncomputable def R3:dz:=⟨"_law_floor","_law_floor",bZ,top 39,false⟩::R2
def j0:bA (Γ.at R3 false) "_law_walker" cj (top 40):=stM λ_ _ _ _ _ _=>Hd.qV λ_ _=>rfl
noncomputable def R4:dz:=⟨"_law_walker","_law_walker",cj,top 40,false⟩::R3
def lQ:bA (Γ.at R4 false) "_law_spots" bb (top 41):=stM λ_ _ _ _ _ _=>Hd.Cr λ_=>rfl
noncomputable def R5:dz:=⟨"_law_spots","_law_spots",bb,top 41,false⟩::R4
def nY:bA (Γ.at R5 false) "_law_some" bY (top 47):=stM λ_ _ _ _ _ _=>Hd.Ii λ_ _ _ _=>rfl
noncomputable def R6:dz:=⟨"_law_some","_law_some",bY,top 47,false⟩::R5
def lZ:bA (Γ.at R6 false) "open_spots" cF (top 12):=stM λ_ _ _ _ _ _=>Hd.Cr λ_=>rfl
noncomputable def R7:dz:=⟨"open_spots","open_spots",cF,top 12,false⟩::R6
def pW:bA (Γ.at R7 false) "is_whole" dJ (top 7):=stM λ_ _ _ _ _ _=>Hd.Cr λ_=>rfl
noncomputable def R8:dz:=⟨"is_whole","is_whole",dJ,top 7,false⟩::R7
def sL:bA (Γ.at R8 false) "is_spot" dG (top 8):=stM λ_ _ _ _ _ _=>Hd.Cr λ_=>rfl
noncomputable def R9:dz:=⟨"is_spot","is_spot",dG,top 8,false⟩::R8
def lh:bA (Γ.at R9 false) "is_on_floor" cm (top 9):=stM λ_ _ _ _ _ _=>Hd.qV λ_ _=>rfl
noncomputable def OW:dz:=⟨"is_on_floor","is_on_floor",cm,top 9,false⟩::R9
def qX:bA (Γ.at OW false) "is_open" cq (top 10):=stM λ_ _ _ _ _ _=>Hd.qV λ_ _=>rfl
noncomputable def Pa:dz:=⟨"is_open","is_open",cq,top 10,false⟩::OW
def oC:bA (Γ.at Pa false) "need_open" bH (top 11):=stM λ_ _ _ _ _ _=>Hd.qV λ_ _=>rfl
noncomputable def Pp:dz:=⟨"need_open","need_open",bH,top 11,false⟩::Pa
def fE:bA (Γ.at Pp false) "open_spots_beside" aV (top 14):=stM λ_ _ _ _ _ _=>Hd.qV λ_ _=>rfl
noncomputable def Qe:dz:=⟨"open_spots_beside","open_spots_beside",aV,top 14,false⟩::Pp
def me:bA (Γ.at Qe false) "are_beside" cC (top 15):=stM λ_ _ _ _ _ _=>Hd.qV λ_ _=>rfl
noncomputable def Qi:dz:=⟨"are_beside","are_beside",cC,top 15,false⟩::Qe
def nB:bA (Γ.at Qi false) "height_at" cP (top 13):=stM λ_ _ _ _ _ _=>Hd.qV λ_ _=>rfl
noncomputable def P5:dz:=⟨"height_at","height_at",cP,top 13,false⟩::Qi
def fT:bA (Γ.at P5 false) "has_open_corners" aX (top 16):=stM λ_ _ _ _ _ _=>Hd.Eo λ_ _ _=>rfl
noncomputable def P7:dz:=⟨"has_open_corners","has_open_corners",aX,top 16,false⟩::P5
def nL:bA (Γ.at P7 false) "step_cost" bh (top 17):=stM λ_ _ _ _ _ _=>Hd.Ii λ_ _ _ _=>rfl
noncomputable def P2:dz:=⟨"step_cost","step_cost",bh,top 17,false⟩::P7
def lW:bA (Γ.at P2 false) "steps_from" cG (top 18):=stM λ_ _ _ _ _ _=>Hd.Eo λ_ _ _=>rfl
noncomputable def Qs:dz:=⟨"steps_from","steps_from",cG,top 18,false⟩::P2
def lF:bA (Γ.at Qs false) "steps_over" cy (top 19):=stM λ_ _ _ _ _ _=>Hd.qV λ_ _=>rfl
noncomputable def OT:dz:=⟨"steps_over","steps_over",cy,top 19,false⟩::Qs
def oE:bA (Γ.at OT false) "left_from" cN (top 25):=stM λ_ _ _ _ _ _=>Hd.qV λ_ _=>rfl
noncomputable def Px:dz:=⟨"left_from","left_from",cN,top 25,false⟩::OT
def mf:bA (Γ.at Px false) "still_from" br (top 24):=stM λ_ _ _ _ _ _=>Hd.Cr λ_=>rfl
noncomputable def O9:dz:=⟨"still_from","still_from",br,top 24,false⟩::Px
def k9:bA (Γ.at O9 false) "traced_back" cg (top 27):=stM λ_ _ _ _ _ _=>Hd.qV λ_ _=>rfl
noncomputable def PD:dz:=⟨"traced_back","traced_back",cg,top 27,false⟩::O9
def i6:bA (Γ.at PD false) "reached_next" bS (top 26):=stM λ_ _ _ _ _ _=>Hd.Eo λ_ _ _=>rfl
noncomputable def PX:dz:=⟨"reached_next","reached_next",bS,top 26,false⟩::PD
def rR:bA (Γ.at PX false) "spot_at" dF (top 22):=stM λ_ _ _ _ _ _=>Hd.qV λ_ _=>rfl
noncomputable def OS:dz:=⟨"spot_at","spot_at",dF,top 22,false⟩::PX
def qe:bA (Γ.at OS false) "moves_at" cw (top 23):=stM λ_ _ _ _ _ _=>Hd.qV λ_ _=>rfl
noncomputable def PN:dz:=⟨"moves_at","moves_at",cw,top 23,false⟩::OS
def ja:bA (Γ.at PN false) "earliest_way" bx (top 28):=stM λ_ _ _ _ _ _=>Hd.Ii λ_ _ _ _=>rfl
noncomputable def Ot:dz:=⟨"earliest_way","earliest_way",bx,top 28,false⟩::PN
def wF:bA (Γ.at Ot false) "crowd" fP (top 29):=stM λ_ _ _ _ _ _=>Hd.Ii λ_ _ _ _=>rfl
noncomputable def Qx:dz:=⟨"crowd","crowd",fP,top 29,false⟩::Ot
def nV:bA (Γ.at Qx false) "_law_cost" bI (top 42):=stM λ_ _ _ _ _ _=>Hd.Ii λ_ _ _ _=>rfl
noncomputable def OV:dz:=⟨"_law_cost","_law_cost",bI,top 42,false⟩::Qx
def lO:bA (Γ.at OV false) "_law_steps" aY (top 43):=stM λ_ _ _ _ _ _=>Hd.Eo λ_ _ _=>rfl
noncomputable def O2:dz:=⟨"_law_steps","_law_steps",aY,top 43,false⟩::OV
def sk:bA (Γ.at O2 false) "_law_at" cD (top 44):=stM λ_ _ _ _ _ _=>Hd.qV λ_ _=>rfl
noncomputable def Pd:dz:=⟨"_law_at","_law_at",cD,top 44,false⟩::O2
def i8:bA (Γ.at Pd false) "_law_soonest" aR (top 45):=stM λ_ _ _ _ _ _=>Hd.LN λ_ _ _ _ _=>rfl
noncomputable def OZ:dz:=⟨"_law_soonest","_law_soonest",aR,top 45,false⟩::Pd
def gE:bA (Γ.at OZ false) "are_moves_apart" bo (top 32):=stM λ_ _ _ _ _ _=>Hd.Cr λ_=>rfl
noncomputable def PM:dz:=⟨"are_moves_apart","are_moves_apart",bo,top 32,false⟩::OZ
def lG:bA (Γ.at PM false) "keep_apart" cB (top 33):=stM λ_ _ _ _ _ _=>Hd.Cr λ_=>rfl
noncomputable def Ph:dz:=⟨"keep_apart","keep_apart",cB,top 33,false⟩::PM
def d6:bA (Γ.at Ph false) "is_list_of_open_spots" aJ (top 20):=stM λ_ _ _ _ _ _=>Hd.qV λ_ _=>rfl
noncomputable def Pu:dz:=⟨"is_list_of_open_spots","is_list_of_open_spots",aJ,top 20,false⟩::Ph
def gM:bA (Γ.at Pu false) "is_step_or_wait" aO (top 30):=stM λ_ _ _ _ _ _=>Hd.Ii λ_ _ _ _=>rfl
noncomputable def OQ:dz:=⟨"is_step_or_wait","is_step_or_wait",aO,top 30,false⟩::Pu
def iu:bA (Γ.at OQ false) "is_way_in_time" bu (top 31):=stM λ_ _ _ _ _ _=>Hd.Eo λ_ _ _=>rfl
noncomputable def OK:dz:=⟨"is_way_in_time","is_way_in_time",bu,top 31,false⟩::OQ
def i5:bA (Γ.at OK false) "fulfils_plan" bg (top 34):=stM λ_ _ _ _ _ _=>Hd.LN λ_ _ _ _ _=>rfl
noncomputable def Oz:dz:=⟨"fulfils_plan","fulfils_plan",bg,top 34,false⟩::OK
def sx:bA (Γ.at Oz false) "is_plan" dt (top 35):=stM λ_ _ _ _ _ _=>Hd.LN λ_ _ _ _ _=>rfl
noncomputable def Om:dz:=⟨"is_plan","is_plan",dt,top 35,false⟩::Oz
def oH:bA (Γ.at Om false) "_law_fits" bW (top 46):=stM λ_ _ _ _ _ _=>Hd.RM λ_ _ _ _ _ _=>rfl
noncomputable def Qz:dz:=⟨"_law_fits","_law_fits",bW,top 46,false⟩::Om
def nA:bA (Γ.at Qz false) "_law_once" bV (top 48):=stM λ_ _ _ _ _ _=>Hd.Cr λ_=>rfl
noncomputable def Lo:dz:=⟨"_law_once","_law_once",bV,top 48,false⟩::Qz
def GV:bA (Γ.at Lo false) "law" mW (top 49):=stM λ_ _ _ _ _ _=>Hd.Cr λ_=>rfl
def Iv(ns:List Int)(hl:ns.length<=63):aq (den (tab Lo)) mW [.lst (ns.map .int)]=.ok (.bl true):=JZ ns hl
def Od(P:Params):AllK (K P) ts Γ Lo:=
 Hd.ac (Hd.ent 291 290 m3) nA <| Hd.ac (Hd.ent 277 276 m3) oH <| Hd.ac (Hd.ent 213 212 m2) sx <| Hd.ac (Hd.ent 208 207 m2) i5 <| Hd.ac (Hd.ent 191 190 m2) iu <| Hd.ac (Hd.ent 186 185 m2) gM <| Hd.ac (Hd.ent 133 132 m1) d6 <| Hd.ac (Hd.ent 201 200 m2) lG <| Hd.ac (Hd.ent 196 195 m2) gE <| Hd.ac (Hd.ent 272 271 m3) i8 <| Hd.ac (Hd.ent 267 266 m3) sk <| Hd.ac (Hd.ent 260 259 m3) lO <| Hd.ac (Hd.ent 253 252 m3) nV <| Hd.ac (Hd.ent 179 178 m2) wF <| Hd.ac (Hd.ent 174 173 m2) ja <| Hd.ac (Hd.ent 145 144 m2) qe <| Hd.ac (Hd.ent 140 139 m2) rR <| Hd.ac (Hd.ent 162 161 m2) i6 <| Hd.ac (Hd.ent 169 168 m2) k9 <| Hd.ac (Hd.ent 150 149 m2) mf <| Hd.ac (Hd.ent 157 156 m2) oE <| Hd.ac (Hd.ent 128 127 m1) lF <| Hd.ac (Hd.ent 123 122 m1) lW <| Hd.ac (Hd.ent 116 115 m1) nL <| Hd.ac (Hd.ent 109 108 m1) fT <| Hd.ac (Hd.ent 88 87 m1) nB <| Hd.ac (Hd.ent 102 101 m1) me <| Hd.ac (Hd.ent 95 94 m1) fE <| Hd.ac (Hd.ent 74 73 m1) oC <| Hd.ac (Hd.ent 67 66 m1) qX <| Hd.ac (Hd.ent 60 59 m1) lh <| Hd.ac (Hd.ent 53 52 m1) sL <| Hd.ac (Hd.ent 46 45 m1) pW <| Hd.ac (Hd.ent 81 80 m1) lZ <| Hd.ac (Hd.ent 284 283 m3) nY <| Hd.ac (Hd.ent 246 245 m3) lQ <| Hd.ac (Hd.ent 241 240 m3) j0 <| Hd.ac (Hd.ent 234 233 m3) lR <| Hd.ac (Hd.ent 227 226 m3) nU <| Hd.ac (Hd.ent 220 219 m3) oG trivial
structure KH(K:zz8)(d:Str)(D:Addr):Prop where
 e:PySem.W.nsIn K mainGlobals d=some (some (.ref D))
 xc:EJ K D
 vt:PySem.W.kitOne K (.ref D) (.type "ValueError")=some true
 ex:PySem.W.excIn K D yL "ValueError.__new__"=true
def NP{K:zz8}{d:Str}{D:Addr}(e:PySem.W.nsIn K mainGlobals d=some (some (.ref D)):=by kernel_rfl)(i:PySem.W.isClsIn K D=true:=by kernel_rfl)(v:PySem.W.subIn K (.ref D) (.type "ValueError")=some true:=by kernel_rfl)(ga:PySem.W.findIn K (.ref D) "__getattribute__"=some (some (.builtin "BaseException.__getattribute__")):=by kernel_rfl)(hk:PySem.W.findIn K (.ref D) "__getattr__"=some none:=by kernel_rfl)
 (cl:PySem.W.findIn K (.ref D) "__class__"=some (some (.builtin "object.__class__")):=by kernel_rfl) (mo:PySem.W.mroIn K D (.type "object")=some true:=by kernel_rfl) (mb:PySem.W.mroIn K D (.type "BaseException")=some true:=by kernel_rfl) (ex:PySem.W.excIn K D yL "ValueError.__new__"=true:=by kernel_rfl):KH K d D:=
 ⟨e,⟨ga,hk,cl,mo,mb,i⟩,xF (by decide+kernel) v,ex⟩
def NL(P:Params){mg:Str->Option Value}{h:Heap}(X:(K P).In h)(G:h.Ns mainGlobals mg):rK (K P) mg Γ ⟨K P,mg,["NoSpot"],ts⟩:=by
 have Jj:∀{x:Str} {u:Value},PySem.W.nsIn (K P) mainGlobals x=some (some u)->mg x=some u:=λa=>PySem.W.mg_of X G a
 have qF:∀{x:Str},PySem.W.nsIn (K P) mainGlobals x=some none->mg x=none:=λa=>PySem.W.mg_none_of X G a
 have fy:KH (K P) "NoSpot" 37:=NP
 refine⟨rfl,rfl,λq hq=>?_,λg hg=>?_,by decide+kernel,λc hc=>?_,λd hd D hD=>?_,λc hc=>?_,λc hc=>?_,λz=>absurd z (by decide+kernel),λ_=>absurd rfl ‹_›⟩
 ·simp! [Γ,zzm,List.not_mem_nil,or_false] at hq;rcases hq with rfl|rfl|rfl
  ·exact⟨.str "#" 225,.str "#",Jj (by kernel_rfl),⟨_,rfl⟩,λG=>.s⟩
  ·exact⟨.int 2 227,.int 2,Jj (by kernel_rfl),⟨_,rfl⟩,λG=>.i⟩
  ·exact⟨.int 3 229,.int 3,Jj (by kernel_rfl),⟨_,rfl⟩,λG=>.i⟩
 ·simp! [Γ,zzm,List.not_mem_nil,or_false] at hg;rcases hg with rfl|rfl|rfl|rfl|rfl|rfl|rfl|rfl|rfl|rfl|rfl|rfl|rfl|rfl|rfl|rfl|rfl
  ·exact qF (by kernel_rfl)
  ·exact qF (by kernel_rfl)
  ·exact qF (by kernel_rfl)
  ·exact qF (by kernel_rfl)
  ·exact qF (by kernel_rfl)
  ·exact qF (by kernel_rfl)
  ·exact qF (by kernel_rfl)
  ·exact qF (by kernel_rfl)
  ·exact qF (by kernel_rfl)
  ·exact qF (by kernel_rfl)
  ·exact qF (by kernel_rfl)
  ·exact qF (by kernel_rfl)
  ·exact qF (by kernel_rfl)
  ·exact qF (by kernel_rfl)
  ·exact qF (by kernel_rfl)
  ·exact qF (by kernel_rfl)
  ·exact qF (by kernel_rfl)
 ·simp! [Γ,zzm,List.not_mem_nil,or_false] at hc
 ·simp! [zzm,List.not_mem_nil,or_false] at hd;rcases hd with rfl
  ·cases(Jj fy.e).symm.trans hD;refine⟨fy.xc,λc hc C hC=>?_,fy.vt⟩
   simp! [Γ,zzm,List.not_mem_nil,or_false] at hc
 ·simp! [Γ,zzn,zzm,List.not_mem_nil,or_false] at hc⊢;exact hc
 ·simp! [Γ,zzn,zzm,List.not_mem_nil,or_false] at hc;rcases hc with rfl
  ·exact⟨_,Jj fy.e,fy.ex⟩
def hY{P:Params}{h:Heap}(X:(K2 P).In h):(K P).In h/\∀p∈ts.map (·.1),h.get? p=some (PySem.W.tabObj #[]):=⟨λb o e=>X b o (Hd.xE e),λp hp=>by
 simp! [ts,zzF,List.map_nil,zzm,List.not_mem_nil,or_false] at hp
⟩
def hC(P:Params):∀p∈ts.map (·.1),(∃c,iW (K P) c p)/\(K P).lookup p=none:=λp hp=>by
 simp! [ts,zzF,List.map_nil,zzm,List.not_mem_nil,or_false] at hp
def keep:List Nat:=[1,2,4,5,6,7,8,9,10,11,12,13,14,15,16,17,18,19,20,22,23,24,25,26,27,28,29,30,31,32,33,34,35,37,38,39,40,41,42,43,44,45,46,47,48,49]
def ka:∀P,as=(K2 P).map (·.1):=λ_=>by kernel_rfl
def left:PySem.W.LeftO lw.row.prog (PySem.W.view lw.row.prog keep) [] (λs=>PySem.W.xlAt (PySem.W.view lw.row.prog keep) [] s&&PySem.W.recOk lw.row.toRowW.records s) (PySem.W.kHook K2 as ka).obs (PySem.W.kHook K2 as ka).val 3518:=by
 refine Hd.Dl (T₀:=λP=>Hd.treeOf (PySem.W.boot_heap P).objs.toList) (m₀:=11) (life:={}) (ann:=some (.ref 6)) (M:=3468) (by kernel_rfl) (by kernel_rfl) (λs=>by kernel_rfl) Hd.Ki Hd.Kn (by kernel_rfl) λw os=>?_
 rw [PySem.W.Fast.te10156331382660048174,PySem.W.Fast.te11892475500146522536,PySem.W.Fast.te14364793385576792824,PySem.W.Fast.te6613529449190102663,PySem.W.Fast.te4187177175401517315,PySem.W.Fast.te5923862056798008813]
 kernel_rfl
end K60
open PySem PySem.W PyProof.Rows
set_option maxRecDepth 100000 in
set_option maxHeartbeats 0 in
theorem PySem.Challenge.cw_cellways_k60_whole_crowd_holds : PySem.Challenge.rw_cellways_k60_whole_crowd.Holds := by
 refine Hd.holds (d:=⟨"law",L2.cY (K60.top 49),L2.cA (K60.top 49),L2.aP (K60.top 49),Hd.Me (K60.top 49)⟩) (by kernel_rfl) K60.ka K60.left (by kernel_rfl) (by kernel_rfl) (by kernel_rfl) (by kernel_rfl) ⟨rfl,rfl,rfl,rfl,rfl,by decide+kernel⟩ ?hw ?hc
 case hw=>w_witness2
 case hc=>exact Ci.walk (l:=PySem.Challenge.rw_cellways_k60_whole_crowd) K60.Lo K60.Γ "_law_script" K60.mW ["NoSpot"] K60.ts (K60.top 49) rfl rfl rfl rfl rfl ⟨rfl,by decide,by decide⟩ (λw h Y=>K60.hY (PySem.W.kIn_of Y)) (λw=>K60.hC w.params) (λw mg h KX G=>K60.NL _ KX G) (λw=>Hd.ent 296 295 K60.m3) K60.GV (λw=>K60.Od _) K60.Iv
#print axioms PySem.Challenge.cw_cellways_k60_whole_crowd_holds
