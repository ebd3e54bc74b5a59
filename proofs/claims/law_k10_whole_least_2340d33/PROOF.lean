import PyProof.Rows.All
import Wide.All
import OpenK.AllK
import Wide.FinOn
import Lean
import PyProof.EqAt
import PyProof.EqKinds
import PyProof.TupleCall
import PySem.Challenge.RW_cellways_k10_whole_least
set_option Elab.async false
set_option linter.all false
set_option genSizeOf false
set_option genSizeOfSpec false
set_option bootstrap.genMatcherCode false
set_option compiler.extract_closed false
set_option compiler.reuse false
set_option maxRecDepth 100000
abbrev zz8:=PySem.W.Frag
local macro_rules | `(zz9 $x) => `(($x).heap.objs.size)
local macro_rules | `(tactic| simp! [$x,*] $[$l:location]?) => `(tactic| simp only [$x,*] $[$l]?)
theorem zzf:¬false=true:=Bool.false_ne_true
theorem zza(a b:Bool):((a&&b)=true)=(a=true/\b=true):=Bool.and_eq_true a b
theorem zzg.{u}{α:Type u}{l:List α}{i:Nat}(h:i<l.length):l[i]?=some l[i]:=List.getElem?_eq_getElem h
theorem zzl.{u,v}{α:Type u}{β:Type v}{l:List α}(f:α->β):(l.map f).length=l.length:=List.length_map f
def zzA:=@PySem.wpAny_bind
def zzB:=@PySem.Heap.get?_push_of_some
def zzC:=@List.size_toArray
def zzD:=@List.mem_of_getElem?
def zzE:=@Nat.le_refl
def zzF:=@List.map_cons
def zzG:=@PySem.wpAny_pure
def zzH:=@List.getElem?_eq_some_iff
def zzI:=@List.mem_cons_of_mem
def zzJ:=@Option.map_eq_some_iff
def zzK:=@List.getD_eq_getElem?_getD
def zzL:=@List.length_cons
def zzM:=@List.length_append
def zzN:=@decide_eq_true_eq
def zzO:=@PySem.Heap.lt_size
def zzP:=@List.mem_cons_self
def zzQ:=@List.getElem?_map
def zzR:=@List.mem_append_right
def zzS:=@List.getElem?_set_ne
def zzT:=@List.all_eq_true
def zzU:=@Nat.le_trans
def zzV:=@Nat.lt_of_le_of_lt
def zzW:=@Nat.lt_of_lt_of_le
def zzX:=@PySem.Heap.get?_push_size
def zzY:=@of_decide_eq_true
def zzZ:=@Option.bind_eq_some_iff
def zzb:=@Nat.ne_of_lt
def zzc:=@List.mem_append_left
def zzd:=@Array.length_toList
def zze:=@Bool.false_eq_true
def zzh:=@decide_eq_true
def zzi:=@List.mem_singleton
def zzj:=@List.any_eq_true
def zzk:=@False.elim
def zzm:=@List.mem_cons
def zzn:=@List.contains_iff_mem
def zzo:=@List.getElem?_set_self
def zzp:=@Option.isSome_iff_exists
def zzq:=@Option.some.inj
def zzr:=@List.getElem?_append_left
def zzs:=@List.getElem?_append_right
def zzt:=@Bool.or_eq_true
def zzu:=@PySem.Heap.SameBut.update
def zzw:=@Int.eq_ofNat_of_zero_le
def zzx:=@List.mem_map
def zzy:=@beq_iff_eq
def zz0:=@decide_eq_false
def zz1:=@List.mem_filterMap
def zz2:=@Array.getElem?_eq_getElem
def zz3:=@List.filter_cons
def zz4:=@Int.toNat_natCast
def zz5:=@List.lookup_cons
def zz6:=@List.append_nil
def zz7:=@PySem.Around.under_plainId
namespace L2
open PySem PySem.Spec PyProof.Rows
abbrev Key:=Sum Int Str
def oJ:Key->Value->Bool
 |.inl k,v=>Value.isInt k v
 |.inr x,v=>Value.isStrOf x v
def SJ(w:World):Key->Int
 |.inl k=>hashInt k
 |.inr x=>hashStr w x
theorem bZ:∀{k:Key} {v:Value},oJ k v=true->(∃i t,k=Sum.inl i/\v=Value.int i t)\/(∃x t,k=Sum.inr x/\v=Value.str x t)
 |.inl i,v,h=>by
  obtain⟨t,e⟩:=Value.isInt_shape (k:=i) (v:=v) h
  exact .inl ⟨i,t,rfl,e⟩
 |.inr x,v,h=>by
  obtain⟨t,e⟩:=Value.isStrOf_shape (x:=x) (v:=v) h
  exact .inr ⟨x,t,rfl,e⟩
def yv(i:Int)(t:Tok):oJ (.inl i) (.int i t)=true:=by simp [oJ,Value.isInt]
def zV(x:Str)(t:Tok):oJ (.inr x) (.str x t)=true:=by simp [oJ,Value.isStrOf]
def IX(a b:Int):decide ((Sum.inl a:Key)=Sum.inl b)=(a==b):=by
 by_cases e:a=b
 ·subst e;simp
 ·have h:¬(Sum.inl a:Key)=Sum.inl b:=λq=>e (Sum.inl.inj q)
  rw [zz0 h];exact(beq_eq_false_iff_ne.mpr e).symm
def IZ(a b:Str):decide ((Sum.inr a:Key)=Sum.inr b)=decide (a=b):=by
 by_cases e:a=b
 ·subst e;simp
 ·have h:¬(Sum.inr a:Key)=Sum.inr b:=λq=>e (Sum.inr.inj q)
  rw [zz0 h,zz0 e]
def Lj(a:Int)(b:Str):decide ((Sum.inl a:Key)=Sum.inr b)=false:=zz0 (λq=>nomatch q)
def L4(a:Str)(b:Int):decide ((Sum.inr a:Key)=Sum.inl b)=false:=zz0 (λq=>nomatch q)
noncomputable def cq(prog:Program)(w:World):PySem.KeyKind prog w Key where
 is:=oJ
 hash:=SJ w
 inj:=λv a b ha hb=>by
  rcases bZ ha with⟨i,t,rfl,rfl⟩|⟨x,t,rfl,rfl⟩
  ·rcases bZ hb with⟨j,u,rfl,e⟩|⟨y,u,rfl,e⟩
   ·injection e with e1 _;rw [e1]
   ·exact nomatch e
  ·rcases bZ hb with⟨j,u,rfl,e⟩|⟨y,u,rfl,e⟩
   ·exact nomatch e
   ·injection e with e1 _;rw [e1]
 byValue:=λk v h=>by
  rcases bZ h with⟨i,t,rfl,rfl⟩|⟨x,t,rfl,rfl⟩<;>rfl
 pyHash:=λhv h=>by
  rcases bZ hv with⟨i,t,rfl,rfl⟩|⟨x,t,rfl,rfl⟩
  ·exact wpAny_pyHash_int h
  ·exact wpAny_pyHash_str h
 eqBool:=λhu hv h=>by
  rcases bZ hu with⟨i,t,rfl,rfl⟩|⟨x,t,rfl,rfl⟩
  ·rcases bZ hv with⟨j,u,rfl,rfl⟩|⟨y,u,rfl,rfl⟩
   ·rw [IX] at h;exact wpAny_eqBool_int h
   ·rw [Lj] at h;exact SeqAt.EqAt.int_str i t y u _ _ _ _ h
  ·rcases bZ hv with⟨j,u,rfl,rfl⟩|⟨y,u,rfl,rfl⟩
   ·rw [L4] at h;exact SeqAt.EqAt.str_int x t j u _ _ _ _ h
   ·rw [IZ] at h;exact wpAny_eqBool_str h
 «strs»:=λk x t v h=>by
  rcases bZ h with⟨i,u,rfl,e⟩|⟨y,u,rfl,e⟩
  ·exact nomatch e
  ·injection e with e1 _
   subst e1;cases v<;>rfl
def rV(prog:Program)(w:World)(i:Int)(t:Tok):(cq prog w).is (.inl i) (.int i t)=true:=yv i t
def uf(prog:Program)(w:World)(x:Str)(t:Tok):(cq prog w).is (.inr x) (.str x t)=true:=zV x t
inductive V where
 |aD|bl (b:Bool)|int (i:Int)|str (x:Str)|Rb (b:Array UInt8)|Sh (b:UInt64)|ref (a:Addr)|ty (n:String)
 deriving DecidableEq
def RelV:V->Value->Prop
 |.aD,u=>u=Value.none
 |.bl b,u=>u=Value.bool b
 |.int i,u=>∃t,u=Value.int i t
 |.str x,u=>∃t,u=Value.str x t
 |.Rb b,u=>∃t,u=Value.bytes b t
 |.Sh b,u=>∃t,u=Value.float b t
 |.ref a,u=>u=Value.ref a
 |.ty n,u=>u=Value.type n
abbrev Vals:List V->List Value->Prop:=Paired RelV
def Vals.length{xs:List V}{us:List Value}(r:Vals xs us):xs.length=us.length:=Paired.length r
theorem Vals.get:∀{xs:List V} {us:List Value} {i:Nat} {x:V},Vals xs us->xs[i]?=some x->∃u,us[i]?=some u/\RelV x u
 |_,_,_,_,.nil,e=>by simp at e
 |_,_,0,_,.cons r _,e=>by simp at e;subst e;exact⟨_,rfl,r⟩
 |_,_,i+1,x,.cons _ t,e=>by
  obtain⟨u,h1,h2⟩:=Vals.get (i:=i) (x:=x) t (by simpa using e)
  exact⟨u,by simpa using h1,h2⟩
theorem Vals.append:∀{xs ys:List V} {us ws:List Value},Vals xs us->Vals ys ws->Vals (xs++ys) (us++ws)
 |_,_,_,_,.nil,s=>s
 |_,_,_,_,.cons r t,s=>.cons r (Vals.append t s)
theorem Vals.take:∀{xs:List V} {us:List Value} (n:Nat),Vals xs us->Vals (xs.take n) (us.take n)
 |_,_,0,_=>.nil
 |_,_,_+1,.nil=>.nil
 |_,_,n+1,.cons r t=>.cons r (Vals.take n t)
theorem Vals.drop:∀{xs:List V} {us:List Value} (n:Nat),Vals xs us->Vals (xs.drop n) (us.drop n)
 |_,_,0,r=>r
 |_,_,_+1,.nil=>.nil
 |_,_,n+1,.cons _ t=>Vals.drop n t
def kS:Option V->Option Value->Prop
 |some v,some u=>RelV v u
 |none,none=>True
 |_,_=>False
def KV{κ:Type}:List (κ×V)->List (κ×Value)->Prop:=Paired λ(p:κ×V) (q:κ×Value)=>p.1=q.1/\RelV p.2 q.2
def kV:Key->V
 |.inl i=>.int i
 |.inr x=>.str x
inductive HO where
 |lst (xs:List V)
 |tup (xs:List V)
 |dK (aw:List (Key×V))|dT (aw:List (List Key×V))
 |set (S:Int->Bool) (n:Nat)
 |ins (C dx:Addr) (fs:List (Str×V))
 |own (x:Addr)
 |xd (fs:List (Str×V))
 |met (f x:Addr)
 |uc (lo hi:Int)
 |bE (o:Obj) (u:HO)
 |gv (ps:Array Value)
 |ext (φ:Heap->Prop)
abbrev Hp:=Addr->Option HO
def upd(H:Hp)(a:Addr)(o:HO):Hp:=λb=>if b=a then some o else H b
def ak{H:Hp}{a:Addr}{o:HO}:upd H a o a=some o:=by unfold upd;rw [if_pos rfl]
def af{H:Hp}{a b:Addr}{o:HO}(h:b≠a):upd H a o b=H b:=by unfold upd;rw [if_neg h]
def fK{H:Hp}{a b:Addr}{o u:HO}(h:H a=some o)(h':H b=some u)(d:o≠u):a≠b:=by
 intro e;subst e;rw [h] at h';exact d (zzq h')
def bR{H:Hp}{a b:Addr}{o:HO}(h:H a=some o)(h':H b=none):a≠b:=by
 intro e;subst e;rw [h] at h';cases h'
section
variable(P:Program)(w:World)
def bW(H:Hp)(h:Heap)(a:Addr):HO->Prop
 |.lst xs=>xs.length<=sizeLine/\∃(ay:List Value) (n:Nat),Vals xs ay/\h.get? a=some {cls:=.type "list",data:=.seq ay.toArray n}
 |.tup xs=>xs.length<=sizeLine/\∃ay:List Value,Vals xs ay/\IsTup h a ay.toArray
 |.dK aw=>aw.length<=sizeLine/\(a==sysModules)=false/\∃vs,KV aw vs/\h.DictOf (cq P w) a vs
 |.dT aw=>aw.length<=sizeLine/\(a==sysModules)=false/\∃xs:List (List Key×Addr×Value),
  Paired (λ(p:List Key×V) (q:List Key×Addr×Value)=>p.1=q.1/\H q.2.1=some (.tup (p.1.map kV))/\RelV p.2 q.2.2) aw xs/\
  ∃o es ep,h.get? a=some o/\o.ExactDict/\o.data=.dict es ep/\es.toList=xs.map (entryOfKey (tupleKind (cq P w)))/\(xs.map (·.1)).Nodup
 |.set S n=>h.SetOf (intKind P w) a S n
 |.ins C dx fs=>H dx=some (.own a)/\fs.length<=1000/\dx≠a/\h.get? a=some (PySem.W.instObj C dx)/\
  ∃mA,h.Ns1 dx mA/\(∀f,kS (fs.lookup f) (mA f))/\PySem.Within mA (fs.map (·.1))
 |.own _=>∃o,h.get? a=some o
 |.xd fs=>∃mA,h.Ns1 a mA/\∀f,kS (fs.lookup f) (mA f)
 |.uc lo hi=>∃t u v,h.get? a=some {cls:=.type "range",data:=.fields #[.int lo t,.int hi u,.int 1 v]}
 |.bE o u=>h.get? a=some o/\bW H h a u
 |.gv ps=>h.get? a=some {cls:=.none,data:=.fields ps}
 |.met f x=>h.get? a=some (PySem.W.methodObj (.ref f) (.ref x))
 |.ext φ=>φ h/\(∃o,h.get? a=some o)/\∀h1 h2:Heap,φ h1->(∀o,h1.get? a=some o->h2.get? a=some o)->φ h2
def eg(H:Hp)(h:Heap):Prop:=∀a o,H a=some o->bW P w H h a o
end
section
variable{P:Program}{w:World}{H H':Hp}{h h':Heap}{a:Addr}{o:HO}
def bW.lt(x:bW P w H h a o):a<h.objs.size:=by
 cases o with
 |lst xs=>obtain⟨_,_,_,_,e⟩:=x;exact zzO e
 |tup xs=>obtain⟨_,_,_,p⟩:=x;exact p.lt
 |dK aw=>obtain⟨_,_,_,_,o,_,_,e,_⟩:=x;exact zzO e
 |dT aw=>obtain⟨_,_,_,_,o,_,_,e,_⟩:=x;exact zzO e
 |set S n=>obtain⟨o,_,_,_,e,_⟩:=x;exact zzO e
 |ins C dx fs=>obtain⟨_,_,_,e,_⟩:=x;exact zzO e
 |own y=>obtain⟨_,e⟩:=x;exact zzO e
 |xd fs=>obtain⟨_,⟨_,_,_,e,_⟩,_⟩:=x;exact zzO e
 |uc lo hi=>obtain⟨_,_,_,e⟩:=x;exact zzO e
 |bE ob u=>obtain⟨e,_⟩:=x;exact zzO e
 |gv ps=>exact zzO (show h.get? a=some _ from x)
 |met f y=>exact zzO (show h.get? a=some _ from x)
 |ext φ=>obtain⟨_,⟨_,e⟩,_⟩:=x;exact zzO e
theorem Paired.yU{α β:Type}{F G:α->β->Prop}:∀{l₁:List α} {l₂:List β},Paired F l₁ l₂->(∀a b,F a b->G a b)->Paired G l₁ l₂
 |_,_,.nil,_=>.nil
 |_,_,.cons r t,f=>.cons (f _ _ r) (Paired.yU t f)
def bW.dY(x:bW P w H h a o)(k:∀b u,(b=a\/H b=some (.own a))->h.get? b=some u->h'.get? b=some u)
 (ho:∀b,H b=some (.own a)->H' b=some (.own a)) (ht:∀b xs,H b=some (.tup xs)->H' b=some (.tup xs)):bW P w H' h' a o:=by
 induction o with
 |lst xs=>obtain⟨z,ay,n,r,e⟩:=x;exact⟨z,ay,n,r,k _ _ (.inl rfl) e⟩
 |tup xs=>obtain⟨z,ay,r,ob,e,c⟩:=x;exact⟨z,ay,r,ob,k _ _ (.inl rfl) e,c⟩
 |dK aw=>obtain⟨z,y,vs,r,ob,es,ep,e,c⟩:=x;exact⟨z,y,vs,r,ob,es,ep,k _ _ (.inl rfl) e,c⟩
 |dT aw=>
  obtain⟨z,y,xs,r,ob,es,ep,e,c⟩:=x
  exact⟨z,y,xs,Paired.yU r λp q z=>⟨z.1,ht _ _ z.2.1,z.2.2⟩,ob,es,ep,k _ _ (.inl rfl) e,c⟩
 |set S n=>obtain⟨ob,es,ep,t,e,c⟩:=x;exact⟨ob,es,ep,t,k _ _ (.inl rfl) e,c⟩
 |ins C dx fs=>
  obtain⟨d,z,ne,e,mA,⟨od,es,ep,e2,c⟩,r⟩:=x
  exact⟨ho _ d,z,ne,k _ _ (.inl rfl) e,mA,⟨od,es,ep,k _ _ (.inr d) e2,c⟩,r⟩
 |own y=>obtain⟨ob,e⟩:=x;exact⟨ob,k _ _ (.inl rfl) e⟩
 |xd fs=>obtain⟨mA,⟨od,es,ep,e,c⟩,r⟩:=x;exact⟨mA,⟨od,es,ep,k _ _ (.inl rfl) e,c⟩,r⟩
 |uc lo hi=>obtain⟨t,u,v,e⟩:=x;exact⟨t,u,v,k _ _ (.inl rfl) e⟩
 |bE ob u ih=>obtain⟨e,q⟩:=x;exact⟨k _ _ (.inl rfl) e,ih q⟩
 |gv ps=>
  have e:h.get? a=some {cls:=.none,data:=.fields ps}:=x
  show h'.get? a=some {cls:=.none,data:=.fields ps}
  exact k a _ (.inl rfl) e
 |met f y=>
  have e:h.get? a=some (PySem.W.methodObj (.ref f) (.ref y)):=x
  show h'.get? a=some (PySem.W.methodObj (.ref f) (.ref y))
  exact k a _ (.inl rfl) e
 |ext φ=>obtain⟨p,⟨o,e⟩,st⟩:=x;exact⟨st _ _ p λo q=>k _ _ (.inl rfl) q,⟨o,k _ _ (.inl rfl) e⟩,st⟩
def eg.lt(x:eg P w H h)(e:H a=some o):a<h.objs.size:=(x a o e).lt
def eg.fresh(x:eg P w H h)(e:h.objs.size<=a):H a=none:=by
 cases q:H a with
 |none=>rfl
 |some u=>exact absurd (zzW (x.lt q) e) (Nat.lt_irrefl _)
def eg.kept(x:eg P w H h)(k:∀b u,h.get? b=some u->h'.get? b=some u):eg P w H h':=λa o e=>
 (x a o e).dY (λb u _ q=>k b u q) (λ_ q=>q) λ_ _ q=>q
theorem eg.laid(x:eg P w H h)(k:∀b u,h.get? b=some u->h'.get? b=some u)(hp:h.objs.size<=a)(new:bW P w (upd H a o) h' a o):eg P w (upd H a o) h':=λb u e=>by
 have hn:=x.fresh hp
 by_cases hb:b=a
 ·subst hb;rw [ak] at e;cases e;exact new
 ·rw [af hb] at e;exact(x b u e).dY (λc v _ q=>k c v q) (λc q=>by rw [af (bR q hn)];exact q) λc xs q=>by rw [af (bR q hn)];exact q
end
def Rd(H:Hp)(a:Addr)(u:HO):Prop:=H a=some u\/∃o,H a=some (.bE o u)
def Rd.ok{P:Program}{w:World}{H:Hp}{h:Heap}{a:Addr}{u:HO}(r:Rd H a u)(x:eg P w H h):bW P w H h a u:=by
 rcases r with r|⟨o,r⟩
 ·exact x a u r
 ·obtain⟨_,q⟩:=x a _ r
  exact q
def Pa:Option HO->Prop
 |some (.lst _)=>True
 |some (.dK _)=>True
 |some (.dT _)=>True
 |some (.set _ _)=>True
 |some (.ins _ _ _)=>True
 |some (.ext _)=>True
 |_=>False
section
variable{P:Program}{w:World}{H:Hp}{h h':Heap}{x e:Addr}{o':HO}
def eg.write(ok:eg P w H h)(mu:Pa (H x))(he:e=x\/H e=some (.own x))(k:∀b u,b≠e->h.get? b=some u->h'.get? b=some u)(Nh:∃u,h'.get? e=some u)
 (new:bW P w (upd H x o') h' x o'):eg P w (upd H x o') h':=λb u q=>by
 have O0:∀c y,H c=some (.own y)->c≠x:=λc y r z=>by subst z;rw [r] at mu;exact mu
 have QV:∀c xs,H c=some (.tup xs)->c≠x:=λc xs r z=>by subst z;rw [r] at mu;exact mu
 by_cases hb:b=x
 ·subst hb;rw [ak] at q;cases q;exact new
 ·rw [af hb] at q
  by_cases hbe:b=e
  ·have q':H b=some (.own x):=by
    rcases he with z|z
    ·exact absurd (hbe.trans z) hb
    ·rw [hbe];exact z
   rw [q] at q';cases q';obtain⟨v,hv⟩:=Nh
   exact⟨v,by rw [hbe];exact hv⟩
  ·refine(ok b u q).dY (λc v hc r=>k c v ?_ r) (λc r=>by rw [af (O0 c b r)];exact r) λc xs r=>by rw [af (QV c xs r)];exact r
   rcases hc with rfl|hc
   ·exact hbe
   ·rintro rfl
    rcases he with z|z
    ·exact O0 c b hc z
    ·rw [hc] at z;cases z;exact hb rfl
end
structure Un(fs ex:List Addr)(H H':Hp)(h h':Heap):Prop where
 keep:∀b o,h.get? b=some o->H b=none->b∉fs->b∉ex->h'.get? b=some o
 slot:∀b o,h.get? b=some o->H b=none->b∈fs->b∉ex->∃sl,h'.get? b=some {o with slots:=sl}
 free:∀b o,h.get? b=some o->H b=none->b∉ex->H' b=none
 there:∀b o,h.get? b=some o->b∉ex->∃o',h'.get? b=some o'
 gy:∀b xs,H b=some (.tup xs)->H' b=some (.tup xs)
 fg:∀b o u,H b=some (.bE o u)->H' b=some (.bE o u)
 fN:∀b ps,H b=some (.gv ps)->∃more,H' b=some (.gv (ps++more))
section
variable{fs ex:List Addr}{H H1:Hp}{h h1 h':Heap}{a x e:Addr}{o:HO}
def Un.any(u:Un fs ex H H1 h h1){b:Addr}{ob:Obj}(q:h.get? b=some ob)(n:H b=none)(hx:b∉ex):∃sl,h1.get? b=some {ob with slots:=sl}:=by
 by_cases hb:b∈fs
 ·exact u.slot b ob q n hb hx
 ·exact⟨ob.slots,u.keep b ob q n hb hx⟩
def Un.kept(k:∀b u,h.get? b=some u->h'.get? b=some u):Un fs ex H H h h':=
 ⟨λb ob q _ _ _=>k b ob q,λb ob q _ _ _=>⟨ob.slots,k b ob q⟩,λ_ _ _ n _=>n,λb ob q _=>⟨ob,k b ob q⟩,λ_ _ q=>q,λ_ _ _ q=>q,λ_ ps q=>⟨#[],by rw [q];simp⟩⟩
def Un.refl:Un fs ex H H h h:=Un.kept λ_ _ q=>q
theorem Un.laid(k:∀b u,h.get? b=some u->h'.get? b=some u)(hp:h.objs.size<=a)(hn:H a=none):Un fs ex H (upd H a o) h h' where
 keep:=λb u q _ _ _=>k b u q
 slot:=λb u q _ _ _=>⟨u.slots,k b u q⟩
 free:=λb u q n _=>by rw [af (zzb (zzW (zzO q) hp))];exact n
 there:=λb u q _=>⟨u,k b u q⟩
 gy:=λb xs q=>by rw [af (bR q hn)];exact q
 fg:=λb u xs q=>by rw [af (bR q hn)];exact q
 fN:=λb ps q=>⟨#[],by rw [af (bR q hn),q];simp⟩
def Un.write(mu:Pa (H x))(he:e=x\/H e=some (.own x))(k:∀b u,b≠e->h.get? b=some u->h'.get? b=some u)(Nh:∃u,h'.get? e=some u):Un fs ex H (upd H x o) h h':=by
 have hx:∀b,H b=none->b≠x:=λb n z=>by subst z;rw [n] at mu;exact mu
 have hb:∀b,H b=none->b≠e:=λb n z=>by
  subst z;rcases he with r|r
  ·exact hx b n r
  ·rw [n] at r;cases r
 have hm:∀b u,H b=some u->¬Pa (some u)->b≠x:=λb u q nm z=>by subst z;rw [q] at mu;exact nm mu
 refine⟨λb u q n _ _=>k b u (hb b n) q,λb u q n _ _=>⟨u.slots,k b u (hb b n) q⟩,λb u q n _=>by rw [af (hx b n)];exact n,λb u q _=>?_,
  λb xs q=>by rw [af (hm b _ q λz=>z)];exact q,λb u xs q=>by rw [af (hm b _ q λz=>z)];exact q,λb ps q=>⟨#[],by rw [af (hm b _ q λz=>z),q];simp⟩⟩
 by_cases hbe:b=e
 ·subst hbe;exact Nh
 ·exact⟨u,k b u hbe q⟩
end
def PQ(h:Heap)(H:Hp):List Addr:=(List.range h.objs.size).filter λa=>(H a).isSome
def qh(h:Heap)(H:Hp):Heap:=PySem.W.hideAll h (PQ h H)
def Ag(h:Heap)(H:Hp):(qh h H).objs.size=h.objs.size:=PySem.W.hideAll_size _ _
theorem DL{h:Heap}{H:Hp}{b:Addr}{o:Obj}(e:h.get? b=some o)(n:H b=none):(qh h H).get? b=some o:=
 PySem.W.hideAll_get _ e λhm=>by
  have q:(H b).isSome=true:=(List.mem_filter.mp hm).2
  rw [n] at q;simp at q
def Ec{h:Heap}{H:Hp}{b:Addr}{o:Obj}(e:(qh h H).get? b=some o):h.get? b=some o/\H b=none:=by
 have e':h.get? b=some o:=PySem.W.of_hideAll (PQ h H) e
 refine⟨e',?_⟩;cases q:H b with
 |none=>rfl
 |some x=>
  have hm:b∈PQ h H:=List.mem_filter.mpr ⟨List.mem_range.mpr (zzO e'),by simp [q]⟩
  have z:(qh h H).get? b=none:=PySem.W.hideAll_none (PQ h H) hm
  rw [z] at e;cases e
def Ed(g h:Heap)(L:Addr):List (Addr×Obj):=(List.range h.objs.size).filterMap λa=>if a=L\/(g.get? a).isSome=true then none else(h.get? a).map λo=>(a,o)
def rest(g h:Heap)(L d:Addr):List (Addr×Obj):=(Ed g h L).filter λp=>decide (p.1≠d)
structure Mod(K:zz8)(mg:Str->Option Value)(base:Heap):Prop where
 PK:K.In base
 glob:base.Ns mainGlobals mg
 blt:∃mb,base.Ns builtinsNs mb/\∀x:Str,x≠"__name__"->mb x=bootBuiltins x
 nolimit:base.NoLimit
structure Cx where
 prog:Program
 w:World
 K:zz8
 mg:Str->Option Value
 base:Heap
 A:Around
 N:List Str
 s₀:Shared
 H₀:Hp
 env:Env
 outer:List Env
 stack:List Env
 ex:List Addr
 fn:Str->Bool
 calm:Bool
 pn:List (Addr×Obj)
 xe:Value->Shared->Prop
def d9(l:List Env):List Addr:=l.filterMap (·.frame)
abbrev Cx.fs(X:Cx):List Addr:=d9 X.outer
def N0(sc:Scope)(x:Str):Prop:=sc.names.lookup x=some .local\/sc.names.lookup x=some .cell\/sc.names.lookup x=some .free
def Loc(sc:Scope)(x:Str):Prop:=sc.names.lookup x=some .local\/sc.names.lookup x=some .cell
def Look(env:Env)(h:Heap)(m:Str->Option Value)(x:Str)(u:Value):Prop:=
 (env.kindOf x=some .local/\m x=some u)\/((env.kindOf x=some .cell\/env.kindOf x=some .free)/\∃c,env.cells.lookup x=some c/\h.IsCell c (some u))
structure Cx.Ok(X:Cx):Prop where
 mod:Mod X.K X.mg X.base
 kind:X.env.scope.kind=.function
 glob:X.env.globals=mainGlobals
 blt:X.env.builtins=builtinsNs
 above:X.s₀.heap.objs.size<=X.env.locals
 inj:∀x y c,X.env.cells.lookup x=some c->X.env.cells.lookup y=some c->x=y
 has:∀x,(X.env.kindOf x=some .cell\/X.env.kindOf x=some .free)->∃c,X.env.cells.lookup x=some c
 IB:∀x c,X.fn x=true->X.env.cells.lookup x=some c->X.s₀.heap.objs.size<=c
 hd:X.calm=true->X.A.handled=none
 frames:X.A.frames=some X.stack
 Cq:X.stack=X.outer\/(X.stack=X.env::X.outer/\X.env.frame=some X.env.locals)
 QJ:∀b∈X.ex,b≠X.env.locals/\∀x c,X.env.cells.lookup x=some c->c≠b
 bs:∀b o,X.base.get? b=some o->X.s₀.heap.get? b=some o/\X.H₀ b=none
 uN:X.base.objs.size<=X.s₀.heap.objs.size
 Ak:∀b o,X.base.get? b=some o->b∉X.ex
 CI:∀b∈X.ex,b∉X.fs
 fW:X.s₀.heap.FunFrames X.base X.outer
 vz:∀b∈X.fs,X.H₀ b=none
structure Inv(X:Cx)(ae:List (Addr×Obj))(σ:List (Option V))(H:Hp)(s:Shared):Prop where
 ok:X.Ok
 os:s.os=X.s₀.os
 bare:AllBare s.gens
 base:Un X.fs X.ex X.H₀ H X.s₀.heap s.heap
 loc:∃m,s.heap.Ns X.env.locals m/\∀(i:Nat) (x:Str) (v:V),X.N[i]?=some x->σ[i]?=some (some v)->N0 X.env.scope x->∃u,RelV v u/\Look X.env s.heap m x u
 cell:∀x c,X.env.cells.lookup x=some c->∃v,s.heap.IsCell c v
 free:H X.env.locals=none
 eG:∀x c,X.env.cells.lookup x=some c->H c=none
 pin:∀p∈X.pn++ae,s.heap.get? p.1=some p.2/\H p.1=none/\p.1≠X.env.locals/\p.1∉X.fs/\∀v,p.2.data≠.cell v
 aJ:eg X.prog X.w H s.heap
 len:σ.length=X.N.length
section
variable{X:Cx}{ae:List (Addr×Obj)}{σ:List (Option V)}{H H':Hp}{s:Shared}{h':Heap}
theorem Cx.Ok.RZ(ok:X.Ok){b:Addr}{o:Obj}(e:X.base.get? b=some o):b∉X.fs:=λhb=>by
 have:=(ok.fW.mem hb).1
 rw [e] at this;cases this
def Inv.bs(I:Inv X ae σ H s):∀b o,X.base.get? b=some o->s.heap.get? b=some o/\H b=none:=λb o e=>
 ⟨I.base.keep b o (I.ok.bs b o e).1 (I.ok.bs b o e).2 (I.ok.RZ e) (I.ok.Ak b o e),I.base.free b o (I.ok.bs b o e).1 (I.ok.bs b o e).2 (I.ok.Ak b o e)⟩
def Inv.bk(I:Inv X ae σ H s):∀b o,X.base.get? b=some o->s.heap.get? b=some o:=λb o e=>(I.bs b o e).1
def Inv.mod(I:Inv X ae σ H s):Mod X.K X.mg X.base:=I.ok.mod
def Inv.pP(I:Inv X ae σ H s):X.K.In s.heap:=I.ok.mod.PK.keeps I.bk
theorem Inv.fr(I:Inv X ae σ H s):∃m,Fr X.base X.env.locals s.heap m:=
 let⟨m,hn,_⟩:=I.loc
 ⟨m,hn,I.bk,zzU I.ok.uN I.ok.above⟩
theorem Inv.lt(I:Inv X ae σ H s):X.env.locals<(zz9 s):=let⟨_,hn,_⟩:=I.loc;hn.lt
def Inv.sz(I:Inv X ae σ H s):X.s₀.heap.objs.size<=(zz9 s):=zzU I.ok.above (Nat.le_of_lt I.lt)
theorem Inv.RH(I:Inv X ae σ H s){a:Addr}(h:(zz9 s)<=a):a∉X.fs:=λhb=>by
 obtain⟨_,o,ho,_⟩:=I.ok.fW.mem hb
 exact absurd (zzW (zzO ho) (zzU I.sz h)) (Nat.lt_irrefl _)
theorem Inv.zx(I:Inv X ae σ H s):∀x c,X.env.cells.lookup x=some c->c≠X.env.locals:=λx c e z=>by
 obtain⟨v,o,ho,hd⟩:=I.cell x c e
 obtain⟨m,⟨o',es,ep,jV,nL,_⟩,_⟩:=I.loc
 rw [z,jV] at ho;cases ho;rw [nL] at hd;cases hd
def Inv.fW(I:Inv X ae σ H s):s.heap.FunFrames X.base X.outer:=by
 have all:∀(l:List Env),(∀b∈d9 l,b∈X.fs)->X.s₀.heap.FunFrames X.base l->s.heap.FunFrames X.base l:=by
  intro l
  induction l with
  |nil=>intro _ _;trivial
  |cons env r ih=>
   intro hs hl;obtain⟨hk,⟨L,o,hf,hn,ho,hd⟩,hr⟩:=hl
   have hL:L∈X.fs:=hs L (by unfold d9;rw [List.filterMap_cons,hf];exact zzP)
   obtain⟨sl,e⟩:=I.base.slot L o ho (I.ok.vz L hL) hL λz=>I.ok.CI L z hL
   exact⟨hk,⟨L,_,hf,hn,e,hd⟩,ih (λb hb=>hs b (by unfold d9;rw [List.filterMap_cons,hf];exact zzI _ hb)) hr⟩
 exact all X.outer (λ_ hb=>hb) I.ok.fW
def Inv.stack(I:Inv X ae σ H s):s.heap.FunFrames X.base X.stack:=by
 rcases I.ok.Cq with e|⟨e,hf⟩
 ·rw [e];exact I.fW
 ·rw [e];obtain⟨m,hn,_⟩:=I.loc
  refine .cons (by rw [I.ok.kind];decide) hf hn ?_ I.fW;exact Heap.get?_none_of_le (zzU I.ok.uN I.ok.above)
def Inv.iY(I:Inv X ae σ H s):∀b∈d9 X.stack,b∈X.env.locals::X.fs:=λb hb=>by
 rcases I.ok.Cq with e|⟨e,hf⟩
 ·rw [e] at hb;exact zzI _ hb
 ·rw [e] at hb;unfold d9 at hb;rw [List.filterMap_cons,hf] at hb;exact hb
theorem Inv.lH(I:Inv X ae σ H s):∀b∈d9 X.stack,H b=none:=λb hb=>by
 rcases zzm.mp (I.iY b hb) with e|hb
 ·rw [e];exact I.free
 ·obtain⟨_,o,ho,_⟩:=I.ok.fW.mem hb
  exact I.base.free b o ho (I.ok.vz b hb) λz=>I.ok.CI b z hb
def Inv.step{g':Array GenState}{t':Nat}{d':Drawn}{ch:List Addr}(I:Inv X ae σ H s)
 (Al:∀b∈ch,(b∈X.ex\/X.s₀.heap.objs.size<=b)/\b≠X.env.locals/\(∀x c,X.env.cells.lookup x=some c->c≠b)/\∀p∈X.pn++ae,p.1≠b)
 (keep:∀b o,b≠X.env.locals->b∉X.fs->b∉ch->s.heap.get? b=some o->H b=none->h'.get? b=some o)
 (slot:∀b o,b≠X.env.locals->b∈X.fs->b∉ch->s.heap.get? b=some o->H b=none->∃sl,h'.get? b=some {o with slots:=sl}) (free:∀b o,b∉ch->s.heap.get? b=some o->H b=none->H' b=none)
 (there:∀b o,b∉ch->s.heap.get? b=some o->∃o',h'.get? b=some o')
 (gy:∀b xs,H b=some (.tup xs)->H' b=some (.tup xs)) (fg:∀b o u,H b=some (.bE o u)->H' b=some (.bE o u)) (fN:∀b ps,H b=some (.gv ps)->∃more,H' b=some (.gv (ps++more)))
 (ns:∀m,s.heap.Ns X.env.locals m->h'.Ns X.env.locals m) (aJ:eg X.prog X.w H' h') (hg:AllBare g'):
 Inv X ae σ H' {s with heap:=h',gens:=g',drawn:=d',toks:=t'}:=by
 have P7:∀b o,X.s₀.heap.get? b=some o->b≠X.env.locals:=λb o e=>zzb (zzW (zzO e) I.ok.above)
 have L5:∀b o,X.s₀.heap.get? b=some o->b∉X.ex->b∉ch:=λb o e hx hb=>by
  rcases(Al b hb).1 with z|z
  ·exact hx z
  ·exact absurd (zzW (zzO e) z) (Nat.lt_irrefl _)
 have cellK:∀x c,X.env.cells.lookup x=some c->∀v,s.heap.IsCell c v->h'.IsCell c v:=λx c e v ⟨o,ho,hd⟩=>by
  have OW:c∉ch:=λz=>(Al c z).2.2.1 x c e rfl
  by_cases hc:c∈X.fs
  ·obtain⟨sl,q⟩:=slot c o (I.zx x c e) hc OW ho (I.eG x c e)
   exact⟨_,q,hd⟩
  ·exact⟨o,keep c o (I.zx x c e) hc OW ho (I.eG x c e),hd⟩
 refine⟨I.ok,I.os,hg,⟨λb o e n hb hx=>?_,λb o e n hb hx=>?_,λb o e n hx=>?_,λb o e hx=>?_,λb xs e=>gy b xs (I.base.gy b xs e),λb o xs e=>fg b o xs (I.base.fg b o xs e),λb ps e=>?_⟩,?_,λx c e=>?_,?_,λx c e=>?_,λp hp=>?_,aJ,I.len⟩
 ·exact keep b o (P7 b o e) hb (L5 b o e hx) (I.base.keep b o e n hb hx) (I.base.free b o e n hx)
 ·obtain⟨sl,e1⟩:=I.base.slot b o e n hb hx
  obtain⟨sl',e2⟩:=slot b _ (P7 b o e) hb (L5 b o e hx) e1 (I.base.free b o e n hx)
  exact⟨sl',e2⟩
 ·obtain⟨o',e1⟩:=I.base.there b o e hx
  exact free b o' (L5 b o e hx) e1 (I.base.free b o e n hx)
 ·obtain⟨o',e1⟩:=I.base.there b o e hx
  exact there b o' (L5 b o e hx) e1
 ·obtain⟨m1,e1⟩:=I.base.fN b ps e
  obtain⟨m2,e2⟩:=fN b _ e1
  exact⟨m1++m2,by rw [e2,Array.append_assoc]⟩
 ·obtain⟨m,hn,hl⟩:=I.loc
  refine⟨m,ns m hn,λi x v e1 e2 e3=>?_⟩
  obtain⟨u,r,l⟩:=hl i x v e1 e2 e3
  refine⟨u,r,?_⟩;rcases l with l|⟨k,c,e,z⟩
  ·exact .inl l
  ·exact .inr ⟨k,c,e,cellK x c e _ z⟩
 ·obtain⟨v,z⟩:=I.cell x c e
  exact⟨v,cellK x c e v z⟩
 ·obtain⟨m,⟨o,_,_,ho,_⟩,_⟩:=I.loc
  exact free _ o (λz=>(Al _ z).2.1 rfl) ho I.free
 ·obtain⟨v,o,ho,hd⟩:=I.cell x c e
  exact free c o (λz=>(Al c z).2.2.1 x c e rfl) ho (I.eG x c e)
 ·obtain⟨e,n,ne,nf,d⟩:=I.pin p hp
  have OW:p.1∉ch:=λz=>(Al p.1 z).2.2.2 p hp rfl
  exact⟨keep p.1 p.2 ne nf OW e n,free p.1 p.2 OW e n,ne,nf,d⟩
def Inv.un{t':Nat}(I:Inv X ae σ H s)(u:Un X.fs [] H H' s.heap h')(aJ:eg X.prog X.w H' h'):Inv X ae σ H' {s with heap:=h',toks:=t'}:=by
 obtain⟨m,⟨o,es,ep,ho,r⟩,_⟩:=id I.loc
 obtain⟨sl,hL⟩:=u.any ho I.free (by simp)
 exact I.step (g':=s.gens) (d':=s.drawn) (ch:=[]) (λ_ z=>nomatch z) (λb o _ hb _ e n=>u.keep b o e n hb (by simp)) (λb o _ hb _ e n=>u.slot b o e n hb (by simp)) (λb o _ e n=>u.free b o e n (by simp)) (λb o _ e=>u.there b o e (by simp)) u.gy u.fg u.fN (λm' hm=>by
  obtain⟨o',es',ep',jV,r'⟩:=hm
  rw [ho] at jV;cases jV;exact⟨_,es',ep',hL,r'⟩) aJ I.bare
def Inv.call{g':Array GenState}{t':Nat}{d':Drawn}{ch:List Addr}(I:Inv X ae σ H s)(u:Un (d9 X.stack) ch H H' s.heap h')(aJ:eg X.prog X.w H' h')(hg:AllBare g')
 (Al:∀b∈ch,(b∈X.ex\/X.s₀.heap.objs.size<=b)/\b≠X.env.locals/\(∀x c,X.env.cells.lookup x=some c->c≠b)/\∀p∈X.pn++ae,p.1≠b):
 Inv X ae σ H' {s with heap:=h',gens:=g',drawn:=d',toks:=t'}:=by
 obtain⟨m,⟨o,es,ep,ho,r⟩,_⟩:=id I.loc
 obtain⟨sl,hL⟩:=u.any ho I.free λz=>(Al _ z).2.1 rfl
 exact I.step (ch:=ch) Al (λb o hL hb hc e n=>u.keep b o e n (λz=>(zzm.mp (I.iY b z)).elim hL hb) hc) (λb o _ _ hc e n=>u.any e n hc) (λb o hc e n=>u.free b o e n hc) (λb o hc e=>u.there b o e hc) u.gy u.fg u.fN (λm' hm=>by
  obtain⟨o',es',ep',jV,r'⟩:=hm
  rw [ho] at jV;cases jV;exact⟨_,es',ep',hL,r'⟩) aJ hg
def Inv.turned{t':Nat}{it:Addr}(I:Inv X ae σ H s)(k:∀b o,b≠it->s.heap.get? b=some o->h'.get? b=some o)(hn:H it=none)(hL:it≠X.env.locals)
 (h1:it∈X.ex\/X.s₀.heap.objs.size<=it) (h2:∀x c,X.env.cells.lookup x=some c->c≠it) (h3:∀p∈X.pn++ae,p.1≠it):Inv X ae σ H {s with heap:=h',toks:=t'}:=by
 have TY:∀b u,H b=some u->b≠it:=λb u e z=>by rw [z,hn] at e;cases e
 refine I.step (g':=s.gens) (d':=s.drawn) (ch:=[it]) (λb hb=>?_) (λb o _ _ hc e _=>k b o (λz=>hc (by simp [z])) e) (λb o _ _ hc e _=>⟨o.slots,k b o (λz=>hc (by simp [z])) e⟩) (λ_ _ _ _ n=>n)
  (λb o hc e=>⟨o,k b o (λz=>hc (by simp [z])) e⟩) (λ_ _ e=>e) (λ_ _ _ e=>e) (λb ps e=>⟨#[],by rw [e];simp⟩) (λm hm=>?_) (λb u e=>?_) I.bare
 ·have e:b=it:=by simpa using hb
  subst e;exact⟨h1,hL,h2,h3⟩
 ·obtain⟨o,es,ep,ho,r⟩:=hm
  exact⟨o,es,ep,k _ o (Ne.symm hL) ho,r⟩
 ·refine(I.aJ b u e).dY (λc v hc q=>k c v ?_ q) (λ_ q=>q) λ_ _ q=>q
  rcases hc with z|z
  ·rw [z];exact TY b u e
  ·exact TY c _ z
theorem Inv.tok(I:Inv X ae σ H s)(t:Nat):Inv X ae σ H {s with toks:=t}:=I.un (h':=s.heap) (t':=t) Un.refl I.aJ
theorem Inv.kept{t':Nat}(I:Inv X ae σ H s)(k:∀b u,s.heap.get? b=some u->h'.get? b=some u):Inv X ae σ H {s with heap:=h',toks:=t'}:=I.un (Un.kept k) (I.aJ.kept k)
theorem Inv.laid{a:Addr}{o:HO}{t':Nat}(I:Inv X ae σ H s)(k:∀b u,s.heap.get? b=some u->h'.get? b=some u)(hp:(zz9 s)<=a)(new:bW X.prog X.w (upd H a o) h' a o):
 Inv X ae σ (upd H a o) {s with heap:=h',toks:=t'}:=I.un (Un.laid k hp (I.aJ.fresh hp)) (I.aJ.laid k hp new)
theorem Inv.write{x e:Addr}{o:HO}{t':Nat}(I:Inv X ae σ H s)(mu:Pa (H x))(he:e=x\/H e=some (.own x))(k:∀b u,b≠e->s.heap.get? b=some u->h'.get? b=some u)(Nh:∃u,h'.get? e=some u)
 (new:bW X.prog X.w (upd H x o) h' x o):Inv X ae σ (upd H x o) {s with heap:=h',toks:=t'}:=I.un (Un.write mu he k Nh) (I.aJ.write mu he k Nh new)
def Inv.il{jg:List (Addr×Obj)}(I:Inv X ae σ H s)(h:∀p∈jg,s.heap.get? p.1=some p.2/\H p.1=none/\p.1≠X.env.locals/\p.1∉X.fs/\∀v,p.2.data≠.cell v):Inv X jg σ H s:=
 ⟨I.ok,I.os,I.bare,I.base,I.loc,I.cell,I.free,I.eG,λp hp=>(List.mem_append.mp hp).elim (λz=>I.pin p (zzc _ z)) (h p),I.aJ,I.len⟩
def jz{N:List Str}(hN:N.Nodup){i j:Nat}{x:Str}(a:N[i]?=some x)(b:N[j]?=some x):i=j:=by
 obtain⟨h1,e1⟩:=zzH.mp a
 obtain⟨h2,e2⟩:=zzH.mp b
 exact(List.getElem_inj hN).mp (e1.trans e2.symm)
def kg{M:Model}{A:Around}{E:Value->Shared->Prop}{i:Nat}{x:Str}{v:V}{u:Value}{Q:Unit->Shared->Prop}(I:Inv X ae σ H s)(hN:X.N.Nodup)(hi:X.N[i]?=some x)(hx:Loc X.env.scope x)(r:RelV v u)
 (h:∀s',Inv X ae (σ.set i (some v)) H s'->(∃a,Heap.SameBut a s.heap s'.heap/\(a=X.env.locals\/X.env.cells.lookup x=some a))->Q () s') (hf:X.fn x=true\/X.env.scope.names.lookup x=some .local:=by first|exact .inl rfl|exact .inr rfl|assumption):wpAny M A (storeName X.env x u) Q E s:=by
 obtain⟨m,hn,hl⟩:=id I.loc
 have Kp:(X.env.scope.kind==.class||(X.env.scope.kind==.module&&X.env.locals !=X.env.globals))=false:=by rw [I.ok.kind];rfl
 have hiσ:i<σ.length:=by rw [I.len];exact(zzH.mp hi).1
 have zx:=I.zx
 have tracked:∀{a:Addr} {h':Heap},(∃o,s.heap.get? a=some o/\H a=none)->Heap.SameBut a s.heap h'->eg X.prog X.w H h':=λ{a h'} ha hs b ob e=>by
  obtain⟨_,_,hfree⟩:=ha
  refine(I.aJ b ob e).dY (λc w' hc q=>(hs.2 c ?_).trans q) (λ_ q=>q) λ_ _ q=>q
  rintro rfl
  rcases hc with rfl|hc
  ·rw [hfree] at e;cases e
  ·rw [hfree] at hc;cases hc
 rcases hx with hk|hk
 ·refine wpAny_storeName_local hk hn (λh' ML hs=>?_) Kp;obtain⟨oL,_,_,MO,_⟩:=id hn
  refine h _ ⟨I.ok,I.os,I.bare,⟨λb o e n hb hx=>?_,λb o e n hb hx=>?_,I.base.free,λb o e hx=>?_,I.base.gy,I.base.fg,I.base.fN⟩,⟨_,ML,λj y v' e1 e2 e3=>?_⟩,λy c e=>?_,I.free,I.eG,λp hp=>?_,tracked ⟨oL,MO,I.free⟩ hs,by simpa using I.len⟩ ⟨_,hs,.inl rfl⟩
  ·exact(hs.2 b (zzb (zzW (zzO e) I.ok.above))).trans (I.base.keep b o e n hb hx)
  ·obtain⟨sl,e1⟩:=I.base.slot b o e n hb hx
   exact⟨sl,(hs.2 b (zzb (zzW (zzO e) I.ok.above))).trans e1⟩
  ·obtain⟨o',e1⟩:=I.base.there b o e hx
   exact⟨o',(hs.2 b (zzb (zzW (zzO e) I.ok.above))).trans e1⟩
  ·by_cases hj:j=i
   ·subst hj;rw [hi] at e1;cases e1;rw [zzo hiσ] at e2;cases e2;exact⟨u,r,.inl ⟨hk,by simp⟩⟩
   ·rw [zzS (Ne.symm hj)] at e2;obtain⟨u',r',q⟩:=hl j y v' e1 e2 e3
    refine⟨u',r',?_⟩;rcases q with⟨k,e⟩|⟨k,c,e,z⟩
    ·refine .inl ⟨k,?_⟩;have:y≠x:=λe=>hj (jz hN e1 (e▸hi))
     simp [this,e]
    ·exact .inr ⟨k,c,e,z.sameBut hs (zx y c e)⟩
  ·obtain⟨w',z⟩:=I.cell y c e
   exact⟨w',z.sameBut hs (zx y c e)⟩
  ·obtain⟨e,n,ne,nf,d⟩:=I.pin p hp
   exact⟨(hs.2 p.1 ne).trans e,n,ne,nf,d⟩
 ·have mJ:X.fn x=true:=by
   rcases hf with z|z
   ·exact z
   ·rw [z] at hk;cases hk
  obtain⟨c,hc⟩:=I.ok.has x (.inl hk)
  obtain⟨w',z⟩:=I.cell x c hc
  refine wpAny_storeName_cell I.ok.kind hk hc z (λh' iI hs=>?_);obtain⟨oc,hoc,hocd⟩:=id z
  refine h {s with heap:=h'} ⟨I.ok,I.os,I.bare,⟨λb o e n hb hx=>?_,λb o e n hb hx=>?_,I.base.free,λb o e hx=>?_,I.base.gy,I.base.fg,I.base.fN⟩,⟨m,hn.sameBut hs (Ne.symm (zx x c hc)),λj y v' e1 e2 e3=>?_⟩,λy c' e=>?_,I.free,I.eG,λp hp=>?_,tracked ⟨oc,hoc,I.eG x c hc⟩ hs,by simpa using I.len⟩ ⟨c,hs,.inr hc⟩
  ·exact(hs.2 b (zzb (zzW (zzO e) (I.ok.IB x c mJ hc)))).trans (I.base.keep b o e n hb hx)
  ·obtain⟨sl,e1⟩:=I.base.slot b o e n hb hx
   exact⟨sl,(hs.2 b (zzb (zzW (zzO e) (I.ok.IB x c mJ hc)))).trans e1⟩
  ·obtain⟨o',e1⟩:=I.base.there b o e hx
   exact⟨o',(hs.2 b (zzb (zzW (zzO e) (I.ok.IB x c mJ hc)))).trans e1⟩
  ·by_cases hj:j=i
   ·subst hj;rw [hi] at e1;cases e1;rw [zzo hiσ] at e2;cases e2;exact⟨u,r,.inr ⟨.inl hk,c,hc,iI⟩⟩
   ·rw [zzS (Ne.symm hj)] at e2;obtain⟨u',r',q⟩:=hl j y v' e1 e2 e3
    refine⟨u',r',?_⟩;rcases q with q|⟨k,c',e,z'⟩
    ·exact .inl q
    ·refine .inr ⟨k,c',e,z'.sameBut hs ?_⟩
     rintro rfl
     exact hj (jz hN e1 (I.ok.inj _ _ _ e hc▸hi))
  ·by_cases NP:c'=c
   ·subst NP;exact⟨_,iI⟩
   ·obtain⟨w2,z2⟩:=I.cell y c' e
    exact⟨w2,z2.sameBut hs NP⟩
  ·obtain⟨e,n,ne,nf,d⟩:=I.pin p hp
   refine⟨(hs.2 p.1 ?_).trans e,n,ne,nf,d⟩;intro q;rw [q,hoc] at e;have q':oc=p.2:=zzq e
   exact d w' (by rw [<-q'];exact hocd)
def mq{M:Model}{A:Around}{E:Value->Shared->Prop}{i:Nat}{x:Str}{v:V}{u:Value}{Q:Unit->Shared->Prop}(I:Inv X ae σ H s)(hN:X.N.Nodup)(hi:X.N[i]?=some x)(hx:Loc X.env.scope x)(r:RelV v u)
 (h:∀s',Inv X ae (σ.set i (some v)) H s'->Q () s') (hf:X.fn x=true\/X.env.scope.names.lookup x=some .local:=by first|exact .inl rfl|exact .inr rfl|assumption):wpAny M A (storeName X.env x u) Q E s:=
 kg I hN hi hx r (λs' I' _=>h s' I') hf
def Inv.OI{s':Shared}{ch:List Addr}(I:Inv X ae σ H s)(ho:s'.os=s.os)(u:Un (d9 X.stack) ch H H' s.heap s'.heap)(aJ:eg X.prog X.w H' s'.heap)(hg:AllBare s'.gens)
 (Al:∀b∈ch,(b∈X.ex\/X.s₀.heap.objs.size<=b)/\b≠X.env.locals/\(∀x c,X.env.cells.lookup x=some c->c≠b)/\∀p∈X.pn++ae,p.1≠b):Inv X ae σ H' s':=by
 obtain⟨h',g',d',t',o'⟩:=s'
 have e:o'=s.os:=ho
 subst e;exact I.call (g':=g') (t':=t') (d':=d') u aJ hg Al
end
abbrev XK:=Value->Option Addr->Hp->Prop
abbrev St:=List (Option V)
abbrev VK:=V->Hp->Prop
abbrev TE:=St->Hp->VK->Prop
abbrev TT:=St->Hp->(Bool->Hp->Prop)->Prop
abbrev TA:=St->Hp->(List V->Hp->Prop)->Prop
structure Ends where
 nx:St->Hp->Prop
 rt:VK
 bk:St->Hp->Prop:=λ_ _=>False
 ct:St->Hp->Prop:=λ_ _=>False
abbrev TS:=Ends->St->Hp->Prop
def EP(X:Cx)(ae:List (Addr×Obj))(σ:St)(Q:VK)(u:Value)(s':Shared):Prop:=∃v H',Inv X ae σ H' s'/\RelV v u/\Q v H'
def TP(X:Cx)(ae:List (Addr×Obj))(σ:St)(Q:Bool->Hp->Prop)(b:Bool)(s':Shared):Prop:=∃H',Inv X ae σ H' s'/\Q b H'
def AP(X:Cx)(ae:List (Addr×Obj))(σ:St)(Q:List V->Hp->Prop)(us:List Value)(s':Shared):Prop:=∃vs H',Inv X ae σ H' s'/\Vals vs us/\Q vs H'
def SP(X:Cx)(ae:List (Addr×Obj))(D:Ends)(f:Flow)(s':Shared):Prop:=
 match f with
 |.next=>∃σ' H',Inv X ae σ' H' s'/\D.nx σ' H'
 |.brk=>∃σ' H',Inv X ae σ' H' s'/\D.bk σ' H'
 |.cont=>∃σ' H',Inv X ae σ' H' s'/\D.ct σ' H'
 |.ret u=>∃v σ' H',Inv X ae σ' H' s'/\RelV v u/\D.rt v H'
def PE(X:Cx)(e:Expr)(t:TE):Prop:=
 ∀(ae:List (Addr×Obj)) (s:Shared) (σ:St) (H:Hp) (Q:VK),Inv X ae σ H s->t σ H Q->wpAny (model X.prog X.w) X.A (eval e X.env) (EP X ae σ Q) X.xe s
def PT(X:Cx)(e:Expr)(t:TT):Prop:=
 ∀(ae:List (Addr×Obj)) (s:Shared) (σ:St) (H:Hp) (Q:Bool->Hp->Prop),Inv X ae σ H s->t σ H Q->wpAny (model X.prog X.w) X.A (isTrue e X.env (eval e X.env)) (TP X ae σ Q) X.xe s
def PW(X:Cx)(e:Expr)(t:TT):Prop:=
 ∀(whole:Sem Value) (ae:List (Addr×Obj)) (s:Shared) (σ:St) (H:Hp) (Q:Bool->Hp->Prop),Inv X ae σ H s->t σ H Q->wpAny (model X.prog X.w) X.A (isTrue e X.env whole) (TP X ae σ Q) X.xe s
def PW.pt{X:Cx}{e:Expr}{t:TT}(h:PW X e t):PT X e t:=h _
def PA(X:Cx)(es:List Expr)(t:TA):Prop:=
 ∀(pos:Pos) (ae:List (Addr×Obj)) (s:Shared) (σ:St) (H:Hp) (Q:List V->Hp->Prop),Inv X ae σ H s->t σ H Q->wpAny (model X.prog X.w) X.A (spliced (backTo pos (starEach es X.env))) (AP X ae σ Q) X.xe s
def PS(X:Cx)(st:Stmt)(t:TS):Prop:=
 ∀(ae:List (Addr×Obj)) (s:Shared) (σ:St) (H:Hp) (D:Ends),Inv X ae σ H s->t D σ H->wpAny (model X.prog X.w) X.A (exec st X.env) (SP X ae D) X.xe s
def rN(X:Cx)(st:List Stmt)(t:TS):Prop:=
 ∀(ae:List (Addr×Obj)) (s:Shared) (σ:St) (H:Hp) (D:Ends),Inv X ae σ H s->t D σ H->wpAny (model X.prog X.w) X.A (execs st X.env) (SP X ae D) X.xe s
def cj{α:Type}{t:Sem α}{Q Q':α->Shared->Prop}{M:Model}{A:Around}{E:Value->Shared->Prop}{s:Shared}(h:wpAny M A t Q E s)(hQ:∀a s,Q a s->Q' a s):wpAny M A t Q' E s:=wpAny_mono h hQ λ_ _ x=>x
section
variable{X:Cx}
def bin{a b:Expr}{ta tb:TE}(ha:PE X a ta)(hb:PE X b tb){ae:List (Addr×Obj)}{s:Shared}{σ:St}{H:Hp}{R:V->V->Hp->Prop}(I:Inv X ae σ H s)(h:ta σ H λx H1=>tb σ H1 λy H2=>R x y H2)
 {α:Type} {Q:α->Shared->Prop} {f:Value->Value->Sem α}
 (hf:∀v u s2 x y H2,Inv X ae σ H2 s2->RelV x v->RelV y u->R x y H2->wpAny (model X.prog X.w) X.A (f v u) Q X.xe s2):
 wpAny (model X.prog X.w) X.A (eval a X.env) (λv s₁=>wpAny (model X.prog X.w) X.A (eval b X.env) (λu s₂=>wpAny (model X.prog X.w) X.A (f v u) Q X.xe s₂) X.xe s₁) X.xe s:=by
 refine cj (ha ae s σ H _ I h) λv s1 ⟨x,H1,I1,r1,q1⟩=>?_
 refine cj (hb ae s1 σ H1 _ I1 q1) λu s2 ⟨y,H2,I2,r2,q2⟩=>?_
 exact hf v u s2 x y H2 I2 r1 r2 q2
def zE(i:Nat):TE:=λσ H Q=>∃v,σ[i]?=some (some v)/\Q v H
def tC(v:V):TE:=λ_ H Q=>Q v H
def eZ{i:Nat}{x:Str}{pos:Pos}(hN:X.N[i]?=some x)(hv:N0 X.env.scope x)(hd:(x==("__debug__":Str))=false:=by decide)(nq:(x==("__classdict__":Str))=false:=by decide):PE X (.Name x pos) (zE i):=by
 intro ae s σ H Q I h;obtain⟨v,e,h⟩:=h
 obtain⟨m,hn,hl⟩:=I.loc
 obtain⟨u,r,l⟩:=hl i x v hN e hv
 have fin:EP X ae σ Q u s:=⟨v,H,I,r,h⟩
 rcases l with⟨hk,hm⟩|⟨hk,c,hc,eK⟩
 ·exact wpAny_Name (wpAny_loadName_local I.ok.kind hk hn hm fin) hd
 ·rcases hk with hk|hk
  ·exact wpAny_Name (wpAny_loadName_cell I.ok.kind hk hc eK fin) hd
  ·exact wpAny_Name (wpAny_loadName_free I.ok.kind hk hc eK fin nq) hd
def BH{i j pos}:PE X (.Constant (.int i) j pos) (tC (.int i)):=λ_ _ _ H _ I h=>wpAny_Constant_int ⟨.int i,H,I.tok _,⟨_,rfl⟩,h⟩
def OE{b j pos}:PE X (.Constant (.bool b) j pos) (tC (.bl b)):=λ_ _ _ H _ I h=>Constant_bool ⟨.bl b,H,I,rfl,h⟩
def Kg{j pos}:PE X (.Constant .none j pos) (tC .aD):=λ_ _ _ H _ I h=>Constant_none ⟨.aD,H,I,rfl,h⟩
def DM{x j pos}:PE X (.Constant (.str x) j pos) (tC (.str x)):=λ_ _ _ H _ I h=>Calls.Constant_str ⟨.str x,H,I.tok _,⟨_,rfl⟩,h⟩
def Gl(X:Cx)(x:Str):Prop:=X.env.kindOf x=some .globalImplicit
def fU{E:Value->Shared->Prop}{ae:List (Addr×Obj)}{s:Shared}{σ:St}{H:Hp}{x:Str}{u:Value}{pos:Pos}{Q:Value->Shared->Prop}(I:Inv X ae σ H s)(hg:Gl X x)(hm:X.mg x=some u)(h:Q u s)
 (hd:(x==("__debug__":Str))=false:=by decide):wpAny (model X.prog X.w) X.A (eval (.Name x pos) X.env) Q E s:=
 Calls.Name_function_global I.ok.kind hg (Calls.loadGlobal_global (by rw [I.ok.glob];exact I.mod.glob.keeps I.bk) hm h) hd
def fR{E:Value->Shared->Prop}{ae:List (Addr×Obj)}{s:Shared}{σ:St}{H:Hp}{x:Str}{u:Value}{pos:Pos}{Q:Value->Shared->Prop}(I:Inv X ae σ H s)(hg:Gl X x)(hm:X.mg x=none)(hv:bootBuiltins x=some u)(h:Q u s)
 (hn:x≠"__name__":=by decide) (hd:(x==("__debug__":Str))=false:=by decide):wpAny (model X.prog X.w) X.A (eval (.Name x pos) X.env) Q E s:=by
 obtain⟨mb,h1,h2⟩:=I.mod.blt
 exact Calls.Name_function_global I.ok.kind hg (Calls.loadGlobal_builtin (by rw [I.ok.glob];exact I.mod.glob.keeps I.bk) hm (by rw [I.ok.blt];exact h1.keeps I.bk) ((h2 x hn).trans hv) h) hd
def wX{x:Str}{v:V}{u:Value}{pos:Pos}(hg:Gl X x)(hm:X.mg x=some u)(r:RelV v u)(hd:(x==("__debug__":Str))=false:=by decide):PE X (.Name x pos) (tC v):=
 λ_ _ _ H _ I h=>fU I hg hm ⟨v,H,I,r,h⟩ hd
def yj{x:Str}{v:V}{u:Value}{pos:Pos}(hg:Gl X x)(hm:X.mg x=none)(hv:bootBuiltins x=some u)(r:RelV v u)(hn:x≠"__name__":=by decide)(hd:(x==("__debug__":Str))=false:=by decide):PE X (.Name x pos) (tC v):=
 λ_ _ _ H _ I h=>fR I hg hm hv ⟨v,H,I,r,h⟩ hn hd
variable{a b:Expr}{ta tb:TE}{pos:Pos}
def tB(t:TE):TT:=λσ H Q=>t σ H λx H1=>∃c,x=.bl c/\Q c H1
def Kc{e:Expr}{t:TE}(h:PE X e t)(he:∀whole,isTrue e X.env whole=(do let v<-whole;standAt e.pos;holding [v] (truthy v)):=by intro _;rfl):PT X e (tB t):=by
 intro ae s σ H Q I hw;refine isTrue_plain (cj (h ae s σ H _ I hw) λv s1 ⟨x,H1,I1,r1,q1⟩=>?_) (he _)
 obtain⟨d,rfl,q⟩:=q1
 cases r1;exact wpAny_truthy_bool ⟨H1,I1,q⟩
variable{tA QB:TT}{rest:List Expr}
def SK(t u:TT):TT:=λσ H Q=>t σ H λc H1=>if c=true then u σ H1 Q else Q false H1
def Vv(t u:TT):TT:=λσ H Q=>t σ H λc H1=>if c=true then Q true H1 else u σ H1 Q
def QK(t:TT):TT:=λσ H Q=>t σ H λc H1=>Q (!c) H1
def pw_and1(ha:PT X a tA):PW X (.BoolOp .And [a] pos) tA:=by
 intro wh ae s σ H Q I h;refine isTrue_and (cj (ha ae s σ H Q I h) λc s1 e=>?_)
 cases c with
 |true=>exact isTrue_and_nil e
 |false=>exact e
def pw_or1(ha:PT X a tA):PW X (.BoolOp .Or [a] pos) tA:=by
 intro wh ae s σ H Q I h;refine isTrue_or (cj (ha ae s σ H Q I h) λc s1 e=>?_)
 cases c with
 |false=>exact isTrue_or_nil e
 |true=>exact e
def pw_and(ha:PT X a tA)(hb:PW X (.BoolOp .And (b::rest) pos) QB):PW X (.BoolOp .And (a::b::rest) pos) (SK tA QB):=by
 intro wh ae s σ H Q I h;refine isTrue_and (cj (ha ae s σ H _ I h) λc s1 ⟨H1,I1,q1⟩=>?_)
 cases c with
 |true=>exact hb wh ae s1 σ H1 Q I1 q1
 |false=>exact⟨H1,I1,q1⟩
def pw_or(ha:PT X a tA)(hb:PW X (.BoolOp .Or (b::rest) pos) QB):PW X (.BoolOp .Or (a::b::rest) pos) (Vv tA QB):=by
 intro wh ae s σ H Q I h;refine isTrue_or (cj (ha ae s σ H _ I h) λc s1 ⟨H1,I1,q1⟩=>?_)
 cases c with
 |true=>exact⟨H1,I1,q1⟩
 |false=>exact hb wh ae s1 σ H1 Q I1 q1
def K0(ha:PT X a tA):PT X (.UnaryOp .Not a pos) (QK tA):=by
 intro ae s σ H Q I h;exact isTrue_not (ha ae s σ H (λc H1=>Q (!c) H1) I h)
def Pn(ta tb:TE):TE:=λσ H Q=>ta σ H λx H1=>∃c,x=.bl c/\if c=true then tb σ H1 Q else Q (.bl false) H1
def Sd(ta tb:TE):TE:=λσ H Q=>ta σ H λx H1=>∃c,x=.bl c/\if c=true then Q (.bl true) H1 else tb σ H1 Q
def OX(ta:TE):TE:=λσ H Q=>ta σ H λx H1=>∃c,x=.bl c/\Q (.bl (!c)) H1
def Ck{op}{t:TE}(h:PE X a t):PE X (.BoolOp op [a] pos) t:=λae s σ H Q I hw=>BoolOp_one (h ae s σ H Q I hw)
def Lq(ha:PE X a ta)(hb:PE X (.BoolOp .And (b::rest) pos) tb):PE X (.BoolOp .And (a::b::rest) pos) (Pn ta tb):=by
 intro ae s σ H Q I h;refine BoolOp_and (cj (ha ae s σ H _ I h) λv s1 ⟨x,H1,I1,r1,q1⟩=>?_)
 obtain⟨c,rfl,q1⟩:=q1
 cases r1;refine wpAny_truthy_bool ?_;cases c with
 |true=>exact hb ae s1 σ H1 Q I1 q1
 |false=>exact⟨.bl false,H1,I1,rfl,q1⟩
def ND(ha:PE X a ta)(hb:PE X (.BoolOp .Or (b::rest) pos) tb):PE X (.BoolOp .Or (a::b::rest) pos) (Sd ta tb):=by
 intro ae s σ H Q I h;refine BoolOp_or (cj (ha ae s σ H _ I h) λv s1 ⟨x,H1,I1,r1,q1⟩=>?_)
 obtain⟨c,rfl,q1⟩:=q1
 cases r1;refine wpAny_truthy_bool ?_;cases c with
 |false=>exact hb ae s1 σ H1 Q I1 q1
 |true=>exact⟨.bl true,H1,I1,rfl,q1⟩
def JG(ha:PE X a ta):PE X (.UnaryOp .Not a pos) (OX ta):=by
 intro ae s σ H Q I h;refine UnaryOp_ (cj (ha ae s σ H _ I h) λv s1 ⟨x,H1,I1,r1,q1⟩=>?_)
 obtain⟨c,rfl,q1⟩:=q1
 cases r1;exact not_of (wpAny_truthy_bool ⟨.bl (!c),H1,I1,rfl,q1⟩)
def Wm(t:TT)(ta tb:TE):TE:=λσ H Q=>t σ H λc H1=>if c=true then ta σ H1 Q else tb σ H1 Q
def BA{c:Expr}(hc:PT X c tA)(ha:PE X a ta)(hb:PE X b tb):PE X (.IfExp c a b pos) (Wm tA ta tb):=by
 intro ae s σ H Q I h;refine wpAny_IfExp (cj (hc ae s σ H _ I h) λd s1 ⟨H1,I1,q1⟩=>?_)
 cases d with
 |true=>exact ha ae s1 σ H1 Q I1 q1
 |false=>exact hb ae s1 σ H1 Q I1 q1
end
def gM(K:zz8)(H:Hp)(a:Addr)(xs:List V):Prop:=
 Rd H a (.lst xs)\/
  ∃(o:Obj) (ay:Array Value) (n:Nat),K.lookup a=some o/\o.cls=.type "list"/\o.dict=none/\o.data=.seq ay n/\ay.size<=sizeLine/\Vals xs ay.toList
def fw(K:zz8)(H:Hp)(a:Addr)(xs:List V):Prop:=
 Rd H a (.tup xs)\/
  ∃(o:Obj) (ay:Array Value) (n:Nat),K.lookup a=some o/\o.cls=.type "tuple"/\o.data=.seq ay n/\ay.size<=sizeLine/\Vals xs ay.toList
noncomputable def SA:Value->Option V
 |.none=>some .aD
 |.bool b=>some (.bl b)
 |.int i _=>some (.int i)
 |.str x _=>some (.str x)
 |.bytes b _=>some (.Rb b)
 |.float b _=>some (.Sh b)
 |.ref a=>some (.ref a)
 |.type n=>some (.ty n)
 |_=>none
def RelV.abs{x:V}{u:Value}(r:RelV x u):SA u=some x:=by
 cases x with
 |aD=>cases r;rfl
 |bl _=>cases r;rfl
 |int _=>obtain⟨t,rfl⟩:=r;rfl
 |str _=>obtain⟨t,rfl⟩:=r;rfl
 |Rb _=>obtain⟨t,rfl⟩:=r;rfl
 |Sh _=>obtain⟨t,rfl⟩:=r;rfl
 |ref _=>cases r;rfl
 |ty _=>cases r;rfl
def RelV.inj{x y:V}{u:Value}(r:RelV x u)(q:RelV y u):x=y:=zzq (r.abs.symm.trans q.abs)
theorem Vals.inj:∀{xs ys:List V} {us:List Value},Vals xs us->Vals ys us->xs=ys
 |_,_,_,.nil,.nil=>rfl
 |_,_,_,.cons r t,.cons r' t'=>by rw [r.inj r',Vals.inj t t']
section
variable{X:Cx}{ae:List (Addr×Obj)}{σ:St}{H:Hp}{s:Shared}{a:Addr}{xs ys:List V}
def gM.of{K:zz8}(h:H a=some (.lst xs)):gM K H a xs:=.inl (.inl h)
def Inv.list(I:Inv X ae σ H s)(h:gM X.K H a xs):∃ay:List Value,Vals xs ay/\PlainL s.heap a ay.toArray/\xs.length<=sizeLine:=by
 rcases h with h|⟨o,ay,n,hk,hc,hd,hs,hz,r⟩
 ·obtain⟨z,ay,n,r,e⟩:=h.ok I.aJ
  exact⟨ay,r,⟨_,n,e,rfl,rfl,rfl⟩,z⟩
 ·refine⟨ay.toList,r,⟨o,n,I.pP a o hk,hc,hd,by simpa using hs⟩,?_⟩;have e:=r.length
  simp! [zzd] at e;omega
def Inv.tuple(I:Inv X ae σ H s)(h:fw X.K H a xs):∃ay:List Value,Vals xs ay/\IsTup s.heap a ay.toArray/\xs.length<=sizeLine:=by
 rcases h with h|⟨o,ay,n,hk,hc,hs,hz,r⟩
 ·obtain⟨z,ay,r,p⟩:=h.ok I.aJ
  exact⟨ay,r,p,z⟩
 ·refine⟨ay.toList,r,⟨o,I.pP a o hk,hc,n,by simpa using hs⟩,?_⟩;have e:=r.length
  simp! [zzd] at e;omega
def Inv.uw(I:Inv X ae σ H s)(h:gM X.K H a xs)(h':gM X.K H a ys):xs=ys:=by
 obtain⟨ay,r,⟨o,n,e,_,_,d⟩,_⟩:=I.list h
 obtain⟨its',r',⟨o',n',e',_,_,d'⟩,_⟩:=I.list h'
 rw [e] at e';cases e';rw [d] at d'
 injection d' with d1 _
 have:ay=its':=by simpa using congrArg Array.toList d1
 subst this;exact r.inj r'
def Inv.pq(I:Inv X ae σ H s)(h:fw X.K H a xs)(h':fw X.K H a ys):xs=ys:=by
 obtain⟨ay,r,⟨o,e,_,n,d⟩,_⟩:=I.tuple h
 obtain⟨its',r',⟨o',e',_,n',d'⟩,_⟩:=I.tuple h'
 rw [e] at e';cases e';rw [d] at d'
 injection d' with d1 _
 have:ay=its':=by simpa using congrArg Array.toList d1
 subst this;exact r.inj r'
variable{st:Stmt}{rest:List Stmt}{t u:TS}{e:Expr}{te:TE}{pos:Pos}
def NV:TS:=λD σ H=>D.nx σ H
def Rm(t u:TS):TS:=λD σ H=>t {D with nx:=u D} σ H
def wb:rN X [] NV:=λ_ _ σ H _ I h=>wpAny_execs_nil ⟨σ,H,I,h⟩
def C3(h1:PS X st t)(h2:rN X rest u):rN X (st::rest) (Rm t u):=by
 intro ae s σ H D I h;refine wpAny_execs_cons (cj (h1 ae s σ H {D with nx:=u D} I h) λf s1 q=>?_)
 cases f with
 |next=>
  obtain⟨σ',H',I',q⟩:=q
  exact h2 ae s1 σ' H' D I' q
 |ret v=>exact q
 |brk=>exact q
 |cont=>exact q
def xx(h1:PS X st t):rN X [st] t:=by
 intro ae s σ H D I h;refine wpAny_execs_cons (cj (h1 ae s σ H D I h) λf s1 q=>?_)
 cases f with
 |next=>exact wpAny_execs_nil q
 |ret v=>exact q
 |brk=>exact q
 |cont=>exact q
def Lx:TS:=λD σ H=>D.bk σ H
def C6:PS X (.Break pos) Lx:=λ_ _ σ H _ I h=>wpAny_Break ⟨σ,H,I,h⟩
def Inv.quiet{ae:List (Addr×Obj)}{σ:St}{H:Hp}{s:Shared}(I:Inv X ae σ H s):interactive X.env=false:=by simp [interactive,I.ok.kind]
def Ou(te:TE):TS:=λD σ H=>te σ H λ_ H1=>D.nx σ H1
theorem pW(he:PE X e te)(hs:swapsWith e none pos.line X.env=pure false:=by rfl):PS X (.Expr e pos) (Ou te):=by
 intro ae s σ H D I h;exact wpAny_Expr_any (cj (he ae s σ H _ I h) λv s1 ⟨x,H1,I1,r1,q1⟩=>⟨σ,H1,I1,q1⟩) I.quiet hs
def Su(te:TE):TS:=λD σ H=>te σ H D.rt
def C7(he:PE X e te):PS X (.Return (some e) pos) (Su te):=by
 intro ae s σ H D I h;exact wpAny_Return_some (cj (he ae s σ H _ I h) λv s1 ⟨x,H1,I1,r1,q1⟩=>⟨x,σ,H1,I1,r1,q1⟩)
def SX(c:TT)(t u:TS):TS:=λD σ H=>c σ H λb H1=>if b=true then t D σ H1 else u D σ H1
def HY{c:Expr}{a b:List Stmt}{tc:TT}(hc:PT X c tc)(ha:rN X a t)(hb:rN X b u):PS X (.If c a b pos) (SX tc t u):=by
 intro ae s σ H D I h;refine wpAny_If (cj (hc ae s σ H _ I h) λd s1 ⟨H1,I1,q1⟩=>?_)
 cases d with
 |true=>exact ha ae s1 σ H1 D I1 q1
 |false=>exact hb ae s1 σ H1 D I1 q1
end
abbrev TG:=V->St->Hp->(St->Hp->Prop)->Prop
abbrev HK:=List V->St->Hp->(St->Hp->Prop)->Prop
def PG(X:Cx)(target:Expr)(t:TG):Prop:=
 ∀(ae:List (Addr×Obj)) (s:Shared) (σ:St) (H:Hp) (v:V) (u:Value) (Q:St->Hp->Prop),Inv X ae σ H s->RelV v u->t v σ H Q->
  wpAny (model X.prog X.w) X.A (assign target X.env u) (λ_ s'=>∃σ' H',Inv X ae σ' H' s'/\Q σ' H') X.xe s
def Po(X:Cx)(ts:List Expr)(t:HK):Prop:=
 ∀(ae:List (Addr×Obj)) (s:Shared) (σ:St) (H:Hp) (vs:List V) (us:List Value) (Q:St->Hp->Prop),Inv X ae σ H s->Vals vs us->t vs σ H Q->
  wpAny (model X.prog X.w) X.A (assignInOrder ((assignEach ts X.env).map (·.2)) us) (λ_ s'=>∃σ' H',Inv X ae σ' H' s'/\Q σ' H') X.xe s
abbrev Jz:=V->V->V->Hp->(Hp->Prop)->Prop
def PD(X:Cx)(t:Jz):Prop:=
 ∀(ae:List (Addr×Obj)) (s:Shared) (σ:St) (H:Hp) (o i v:V) (ov iv u:Value) (Q:Hp->Prop),Inv X ae σ H s->RelV o ov->RelV i iv->RelV v u->t o i v H Q->
  wpAny (model X.prog X.w) X.A (setItem ov iv u) (λ_ s'=>∃H',Inv X ae σ H' s'/\Q H') X.xe s
section
variable{X:Cx}{pos:Pos}
def gf(i:Nat):TG:=λv σ H Q=>Q (σ.set i (some v)) H
def EA{i:Nat}{x:Str}(hN:X.N.Nodup)(hi:X.N[i]?=some x)(hx:Loc X.env.scope x)(hf:X.fn x=true\/X.env.scope.names.lookup x=some .local:=by first|exact .inl rfl|exact .inr rfl|assumption):PG X (.Name x pos) (gf i):=by
 intro ae s σ H v u Q I r h;exact wpAny_assign_Name (mq I hN hi hx r (λs' I'=>⟨_,H,I',h⟩) hf)
def J8:HK:=λvs σ H Q=>vs=[]/\Q σ H
def xy(t:TG)(u:HK):HK:=λvs σ H Q=>∃v r,vs=v::r/\t v σ H λσ' H'=>u r σ' H' Q
def ED:Po X [] J8:=by
 intro ae s σ H vs us Q I r h;obtain⟨e,h⟩:=h
 subst e;cases r;exact assignInOrder_nil ⟨σ,H,I,h⟩
theorem CD{e:Expr}{es:List Expr}{t:TG}{u:HK}(h1:PG X e t)(h2:Po X es u)
 (hs:(assignEach (e::es) X.env).map (·.2)=assign e X.env::(assignEach es X.env).map (·.2):=by rfl):Po X (e::es) (xy t u):=by
 intro ae s σ H vs us Q I r h;obtain⟨v,vr,e1,h⟩:=h
 subst e1;cases r with
 |cons r rr=>
  rw [hs];refine assignInOrder_cons (cj (h1 ae s σ H _ _ _ I r h) λ_ s1 ⟨σ1,H1,I1,q1⟩=>?_)
  exact h2 ae s1 σ1 H1 _ _ Q I1 rr q1
noncomputable def NN(K:zz8)(n:Nat)(t:HK):TG:=λv σ H Q=>∃a xs,v=.ref a/\fw K H a xs/\xs.length=n/\t xs σ H Q
theorem JH{es:List Expr}{k:Nat}{t:HK}{n:Nat}(hc:X.calm=true)(h:Po X es t)
 (hn:(assignEach es X.env).length=n:=by rfl) (dG:(assignEach es X.env).findIdx? (·.1)=none:=by rfl):PG X (.Tuple es k pos) (NN X.K n t):=by
 intro ae s σ H v u Q I r hw;obtain⟨a,xs,e1,hq,hl,hw⟩:=hw
 subst e1;cases r;obtain⟨ay,rv,ht,hz⟩:=I.tuple hq
 refine assign_Tuple_tuple (I.ok.hd hc) ht (by simp [hn,<-hl,rv.length]) dG λh' hx=>?_
 have I1:Inv X ae σ H {s with heap:=h'}:=I.kept (t':=s.toks) λb o e=>hx b o (zzb (zzO e)) e
 exact h ae _ σ H xs _ Q I1 (by simpa using rv) hw
def Sq(to ti:TE)(t:Jz):TG:=λv σ H Q=>to σ H λo H1=>ti σ H1 λi H2=>t o i v H2 λH3=>Q σ H3
def Bh{o i:Expr}{to ti:TE}{t:Jz}(ho:PE X o to)(hi:PE X i ti)(hs:PD X t)
 (ha:∀v,assign (.Subscript o i pos) X.env v=(do
  let ov<-holding [v] (eval o X.env)
  let iv<-holding [v,ov] (eval i X.env)
  standAt pos
  holding [v,ov,iv] (setItem ov iv v)
  release [v,ov,iv] []):=by intro _;rfl):PG X (.Subscript o i pos) (Sq to ti t):=by
 intro ae s σ H v u Q I r h;rw [ha];refine zzA (wpAny_holding (cj (ho ae s σ H _ I h) λov s1 ⟨x,H1,I1,r1,q1⟩=>?_))
 refine zzA (wpAny_holding (cj (hi ae s1 σ H1 _ I1 q1) λiv s2 ⟨y,H2,I2,r2,q2⟩=>?_))
 refine zzA (wpAny_standAt (zzA (wpAny_holding (cj (hs ae s2 σ H2 x y v ov iv u _ I2 r1 r2 r q2) λ_ s3 ⟨H3,I3,q3⟩=>?_))))
 exact wpAny_release ⟨σ,H3,I3,q3⟩
def CL(te:TE)(g:TG):TS:=λD σ H=>te σ H λx H1=>g x σ H1 D.nx
theorem vN{tg e:Expr}{te:TE}{g:TG}(he:PE X e te)(hg:PG X tg g)(hs:swapsWithSole [tg] e pos.line X.env=pure false:=by rfl)(hw:swappedStores [tg] e X.env=pure none:=by rfl)
 (h1:(assignEach [tg] X.env).map (·.2)=[assign tg X.env]:=by rfl):PS X (.Assign [tg] e pos) (CL te g):=by
 intro ae s σ H D I h;refine wpAny_Assign_stores (cj (he ae s σ H _ I h) λv s1 ⟨x,H1,I1,r1,q1⟩=>?_) hs hw
 rw [h1];exact cj (hg ae s1 σ H1 x v _ I1 r1 q1) λ_ s2 q=>q
theorem iN{i:Nat}{x:Str}{e:Expr}{te:TE}{pos':Pos}(hN:X.N.Nodup)(hi:X.N[i]?=some x)(hx:Loc X.env.scope x)(he:PE X e te)(hs:swapsWith e (some (.Name x pos')) pos.line X.env=pure false:=by rfl)(hf:X.fn x=true\/X.env.scope.names.lookup x=some .local:=by first|exact .inl rfl|exact .inr rfl|assumption):
 PS X (.Assign [.Name x pos'] e pos) (CL te (gf i)):=by
 intro ae s σ H D I h;refine wpAny_Assign_Name (cj (he ae s σ H _ I h) λv s1 ⟨y,H1,I1,r1,q1⟩=>?_) hs
 exact mq I1 hN hi hx r1 (λs2 I2=>⟨_,H1,I2,q1⟩) hf
noncomputable def Le(c:TT)(tb:TS):TS:=λD σ H=>∃W:Nat->St->Hp->Prop,(∃m,W m σ H)/\∀m σ H,W m σ H->
 c σ H λb H1=>if b=true then∃N:St->Hp->Prop,(∀σ' H',N σ' H'->∃m',m'<m/\W m' σ' H')/\tb {D with nx:=N,ct:=N,bk:=D.nx} σ H1 else D.nx σ H1
def Cd{c:Expr}{body:List Stmt}{tc:TT}{tb:TS}(hp:PassesOwn (model X.prog X.w) X.A X.env X.xe)(hc:PT X c tc)(hb:rN X body tb):PS X (.While c body [] pos) (Le tc tb):=by
 intro ae s σ H D I h;obtain⟨W,⟨m0,w0⟩,turn⟩:=h
 refine wpAny_While (codeAny_whileLoop (λn s'=>∃σ' H',Inv X ae σ' H' s'/\W n σ' H') ?_ m0 ⟨σ,H,I,w0⟩)
 rintro n s1 ⟨σ1,H1,I1,w1⟩
 refine wpAny_passesOwn hp (cj (hc ae s1 σ1 H1 _ I1 (turn n σ1 H1 w1)) λb s2 ⟨H2,I2,q2⟩=>?_)
 cases b with
 |true=>
  obtain⟨N,hN,q2⟩:=q2
  rw [if_pos rfl];refine wpAny_passesOwn hp (cj (hb ae s2 σ1 H2 _ I2 q2) λf s3 q3=>?_)
  cases f with
  |next=>
   obtain⟨σ3,H3,I3,n3⟩:=q3
   obtain⟨m',hm,w3⟩:=hN σ3 H3 n3
   exact⟨m',hm,σ3,H3,I3,w3⟩
  |cont=>
   obtain⟨σ3,H3,I3,n3⟩:=q3
   obtain⟨m',hm,w3⟩:=hN σ3 H3 n3
   exact⟨m',hm,σ3,H3,I3,w3⟩
  |brk=>exact q3
  |ret v=>exact q3
 |false=>
  rw [if_neg zzf];exact wpAny_execs_nil ⟨σ1,H2,I2,q2⟩
end
structure It where
 go:Nat->Hp->Prop
 MW:Nat->Hp->V->Hp->Prop
 stop:Nat->Hp->Prop
def fE(X:Cx)(ae:List (Addr×Obj))(H:Hp)(b:Addr):Prop:=
 H b=none/\b≠X.env.locals/\b∉X.fs/\(b∈X.ex\/X.s₀.heap.objs.size<=b)/\(∀x c,X.env.cells.lookup x=some c->c≠b)/\∀p∈X.pn++ae,p.1≠b
def Inv.m5{X:Cx}{ae:List (Addr×Obj)}{σ:St}{H H':Hp}{s:Shared}{b:Addr}(I:Inv X ae σ H s)(hb:(zz9 s)<=b)(hn:H' b=none):fE X ae H' b:=by
 refine⟨hn,Nat.ne_of_gt (zzW I.lt hb),I.RH hb,.inr (zzU I.sz hb),λx c e z=>?_,λp hp z=>?_⟩
 ·obtain⟨v,q⟩:=I.cell x c e
  exact absurd (zzW q.lt (by rw [z];exact hb)) (Nat.lt_irrefl _)
 ·exact absurd (zzW (zzO (I.pin p hp).1) (by rw [z];exact hb)) (Nat.lt_irrefl _)
structure Turn(P:Program)(w:World)(K:zz8)(tg:Expr)(J:It)(fp:List Addr)(it:Addr)(tn:Nat->Heap->Prop):Prop where
 mem:it∈fp
 obj:∀i h,tn i h->∀b∈fp,∃o,h.get? b=some o/\∀v,o.data≠.cell v
 keep:∀i h h',tn i h->(∀b∈fp,∀o,h.get? b=some o->h'.get? b=some o)->tn i h'
 item:∀(X:Cx),X.prog=P->X.w=w->X.K=K->X.calm=true->∀(i:Nat) (ae:List (Addr×Obj)) (s:Shared) (σ:St) (H:Hp) (E:Value->Shared->Prop),Inv X ae σ H s->(∀b∈fp,fE X ae H b)->tn i s.heap->J.go i H->
  wpAny (model P w) X.A (pyNext (.ref it)) (λr s1=>∃u,r=some u/\
   wpAny (model P w) X.A (letOwnedTupleGo tg (.ref it) u) (λ_ s2=>∃x H',Inv X ae σ H' s2/\RelV x u/\J.MW i H x H'/\tn (i+1) s2.heap/\∀b∈fp,H' b=none) E s1) E s
 done:∀(X:Cx),X.prog=P->X.w=w->X.K=K->X.calm=true->∀(i:Nat) (ae:List (Addr×Obj)) (s:Shared) (σ:St) (H:Hp) (E:Value->Shared->Prop),Inv X ae σ H s->(∀b∈fp,fE X ae H b)->tn i s.heap->J.stop i H->
  wpAny (model P w) X.A (pyNext (.ref it)) (λr s1=>r=none/\Inv X ae σ H s1) E s
 self:∀(A:Around) (i:Nat) (s:Shared) (Q:Value->Shared->Prop) (E:Value->Shared->Prop),tn i s.heap->Q (.ref it) s->wpAny (model P w) A (pyIter (.ref it)) Q E s
abbrev TI:=St->Hp->(It->Hp->Prop)->Prop
def Ti(X:Cx)(ae:List (Addr×Obj))(σ:St)(tg:Expr)(R:It->Hp->Prop)(Rc:Value)(s2:Shared):Prop:=
 ∃(it:Addr) (fp:List Addr) (tn:Nat->Heap->Prop) (J:It) (H':Hp),Rc=.ref it/\Inv X ae σ H' s2/\Turn X.prog X.w X.K tg J fp it tn/\tn 0 s2.heap/\(∀b∈fp,fE X ae H' b)/\R J H'
def PI(X:Cx)(tg iter:Expr)(wi:TI):Prop:=
 ∀(ae:List (Addr×Obj)) (s:Shared) (σ:St) (H:Hp) (R:It->Hp->Prop),Inv X ae σ H s->wi σ H R->
  wpAny (model X.prog X.w) X.A (eval iter X.env) (λv s1=>wpAny (model X.prog X.w) X.A (pyIter v) (Ti X ae σ tg R) X.xe s1) X.xe s
def w8{M:Model}{A:Around}{E:Value->Shared->Prop}{s:Shared}{tg:Expr}{it:Addr}{u:Value}{o:Obj}{n:String}{vs:Array Value}{Q:Unit->Shared->Prop}(ho:s.heap.get? it=some o)(hc:o.cls=.type n)(hd:o.data=.fields vs)
 (hn:["enumerate","zip","dict_itemiterator","dict_reverseitemiterator","odict_iterator","itertools.zip_longest","itertools.pairwise"].contains n=false) (hQ:Q () s):wpAny M A (letOwnedTupleGo tg (.ref it) u) Q E s:=by
 unfold letOwnedTupleGo;cases tg<;>first
  |exact zzG hQ
  |(cases u<;>first
   |exact zzG hQ
   | (refine zzA (wpAny_load ho ?_)
      rw [hc,hd];show wpAny M A (if(["enumerate","zip","dict_itemiterator","dict_reverseitemiterator","odict_iterator","itertools.zip_longest","itertools.pairwise"].contains n&&vs[0]?==some (rawInt _))=true then _ else _) Q E s;rw [if_neg (by intro h;rw [hn,Bool.false_and] at h;cases h)];exact zzG hQ))
noncomputable def RD(K:zz8)(a:Addr):It:=
 ⟨λi H=>∃xs x,gM K H a xs/\xs[i]?=some x,λi H x H'=>H'=H/\∀xs,gM K H a xs->xs[i]?=some x,λi H=>∃xs,gM K H a xs/\xs.length<=i⟩
noncomputable def Ri(K:zz8)(a:Addr):It:=
 ⟨λi H=>∃xs x,fw K H a xs/\xs[i]?=some x,λi H x H'=>H'=H/\∀xs,fw K H a xs->xs[i]?=some x,λi H=>∃xs,fw K H a xs/\xs.length<=i⟩
def Ot(lo:Int)(n:Nat):It:=⟨λi _=>i<n,λi H x H'=>H'=H/\x=.int (lo+i),λi _=>n<=i⟩
def zG{P:Program}{w:World}{K:zz8}{tg:Expr}(a it:Addr):Turn P w K tg (RD K a) [it] it (λi h=>h.IsListIter it a i) where
 mem:=by simp
 obj:=λi h st b hb=>by
  have e:b=it:=by simpa using hb
  subst e;obtain⟨o,e,c,d⟩:=st
  exact⟨o,e,λv z=>by rw [d] at z;cases z⟩
 keep:=λi h h' st k=>st.at λo e=>k it (by simp) o e
 item:=by
  intro X hP hw hK hc i ae s σ H E I hf st hg;subst hP hw hK;obtain⟨xs,x,hq,hx⟩:=hg
  obtain⟨ay,rv,p,hz⟩:=I.list hq
  obtain⟨u,hu,ru⟩:=rv.get hx
  obtain⟨f0,f1,f2,f3,f4,f5⟩:=hf it (by simp)
  refine wpAny_pyNext_list_item st p.isList (x:=u) (by simpa using hu) λh' iV sb=>?_
  have I1:Inv X ae σ H {s with heap:=h'}:=I.turned (t':=s.toks) (λb o hb e=>(sb.2 b hb).trans e) f0 f1 f3 f4 f5
  obtain⟨o,e,c,d⟩:=id iV
  exact⟨u,rfl,w8 (s:={s with heap:=h'}) e c d (by decide) ⟨x,H,I1,ru,⟨rfl,λys hy=>by rw [I.uw hy hq];exact hx⟩,iV,λb hb=>(hf b hb).1⟩⟩
 done:=by
  intro X hP hw hK hc i ae s σ H E I hf st hg;subst hP hw hK;obtain⟨xs,hq,hx⟩:=hg
  obtain⟨ay,rv,p,hz⟩:=I.list hq
  obtain⟨f0,f1,f2,f3,f4,f5⟩:=hf it (by simp)
  have hl:=rv.length
  exact wpAny_pyNext_list_end (I.ok.hd hc) st p.isList (by simp;omega) λh' eb=>⟨rfl,I.turned (t':=s.toks) (λb o hb e=>eb b o hb e) f0 f1 f3 f4 f5⟩
 self:=λ_ _ _ _ _ st h=>wpAny_pyIter_listiter st h
def uZ{P:Program}{w:World}{K:zz8}{tg:Expr}(a it:Addr):Turn P w K tg (Ri K a) [it] it (λi h=>h.IsTupleIter it a i) where
 mem:=by simp
 obj:=λi h st b hb=>by
  have e:b=it:=by simpa using hb
  subst e;obtain⟨o,e,c,d⟩:=st
  exact⟨o,e,λv z=>by rw [d] at z;cases z⟩
 keep:=λi h h' st k=>st.at λo e=>k it (by simp) o e
 item:=by
  intro X hP hw hK hc i ae s σ H E I hf st hg;subst hP hw hK;obtain⟨xs,x,hq,hx⟩:=hg
  obtain⟨ay,rv,p,hz⟩:=I.tuple hq
  obtain⟨u,hu,ru⟩:=rv.get hx
  obtain⟨f0,f1,f2,f3,f4,f5⟩:=hf it (by simp)
  refine wpAny_pyNext_tuple_item st (show s.heap.IsTuple a ay.toArray from p) (x:=u) (by simpa using hu) λh' iV sb=>?_
  have I1:Inv X ae σ H {s with heap:=h'}:=I.turned (t':=s.toks) (λb o hb e=>(sb.2 b hb).trans e) f0 f1 f3 f4 f5
  obtain⟨o,e,c,d⟩:=id iV
  exact⟨u,rfl,w8 (s:={s with heap:=h'}) e c d (by decide) ⟨x,H,I1,ru,⟨rfl,λys hy=>by rw [I.pq hy hq];exact hx⟩,iV,λb hb=>(hf b hb).1⟩⟩
 done:=by
  intro X hP hw hK hc i ae s σ H E I hf st hg;subst hP hw hK;obtain⟨xs,hq,hx⟩:=hg
  obtain⟨ay,rv,p,hz⟩:=I.tuple hq
  obtain⟨f0,f1,f2,f3,f4,f5⟩:=hf it (by simp)
  have hl:=rv.length
  exact wpAny_pyNext_tuple_end (I.ok.hd hc) st (show s.heap.IsTuple a ay.toArray from p) (by simp;omega) λh' eb=>⟨rfl,I.turned (t':=s.toks) (λb o hb e=>eb b o hb e) f0 f1 f3 f4 f5⟩
 self:=λ_ _ _ _ _ st h=>wpAny_pyIter_tupleiter st h
def vn{P:Program}{w:World}{K:zz8}{tg:Expr}(it:Addr)(lo:Int)(n:Nat):Turn P w K tg (Ot lo n) [it] it (λi h=>IsRangeIter h it (lo+(i:Nat)*1) ((n:Int)-(i:Nat)) 1) where
 mem:=by simp
 obj:=λi h st b hb=>by
  have e:b=it:=by simpa using hb
  subst e;exact⟨_,st,λv z=>by
   have z':Data.fields _=Data.cell v:=z
   cases z'⟩
 keep:=λi h h' st k=>k it (by simp) _ st
 item:=by
  intro X hP hw hK hc i ae s σ H E I hf st hg;subst hP hw hK;obtain⟨f0,f1,f2,f3,f4,f5⟩:=hf it (by simp)
  have W:=Walks.range (prog:=X.prog) (w:=X.w) (I.ok.hd hc) it lo 1 n
  refine W.item i s _ _ hg st λv h' tk hv iV kk=>?_
  obtain⟨t,rfl⟩:=hv
  have I1:Inv X ae σ H {s with heap:=h',toks:=tk}:=I.turned (λb o hb e=>kk b o (by simpa using hb) e) f0 f1 f3 f4 f5
  refine⟨_,rfl,w8 (s:={s with heap:=h',toks:=tk}) (n:="range_iterator") iV rfl rfl (by decide) ⟨.int (lo+i),H,I1,⟨t,?_⟩,⟨rfl,rfl⟩,iV,λb hb=>(hf b hb).1⟩⟩
  rw [Int.mul_one]
 done:=by
  intro X hP hw hK hc i ae s σ H E I hf st hg;subst hP hw hK;obtain⟨f0,f1,f2,f3,f4,f5⟩:=hf it (by simp)
  exact wpAny_pyNext_range_end (I.ok.hd hc) st (by have:n<=i:=hg;omega) λh' eb=>⟨rfl,I.turned (t':=s.toks) (λb o hb e=>eb b o hb e) f0 f1 f3 f4 f5⟩
 self:=λ_ _ _ _ _ st h=>wpAny_pyIter_rangeiter st h
section
variable{X:Cx}{tg:Expr}
noncomputable def NK(K:zz8)(tl:TE):TI:=λσ H R=>tl σ H λx H1=>∃a,x=.ref a/\(∃xs,gM K H1 a xs)/\R (RD K a) H1
noncomputable def Q2(K:zz8)(tl:TE):TI:=λσ H R=>tl σ H λx H1=>∃a,x=.ref a/\(∃xs,fw K H1 a xs)/\R (Ri K a) H1
def xf{l:Expr}{tl:TE}(hl:PE X l tl):PI X tg l (NK X.K tl):=by
 intro ae s σ H R I h;refine cj (hl ae s σ H _ I h) λv s1 ⟨x,H1,I1,r1,q1⟩=>?_
 obtain⟨a,e,⟨xs,hq⟩,q⟩:=q1
 subst e;cases r1;obtain⟨ay,rv,p,hz⟩:=I1.list hq
 refine wpAny_pyIter_list p.isList ?_;refine⟨(zz9 s1),[(zz9 s1)],_,_,H1,rfl,I1.kept (t':=s1.toks) λb o e=>zzB _ e,zG a _,⟨_,zzX _ rfl,rfl,rfl⟩,λb hb=>?_,q⟩
 have e:b=(zz9 s1):=by simpa using hb
 subst e;exact I1.m5 (zzE _) (I1.aJ.fresh (zzE _))
def JU{l:Expr}{tl:TE}(hl:PE X l tl):PI X tg l (Q2 X.K tl):=by
 intro ae s σ H R I h;refine cj (hl ae s σ H _ I h) λv s1 ⟨x,H1,I1,r1,q1⟩=>?_
 obtain⟨a,e,⟨xs,hq⟩,q⟩:=q1
 subst e;cases r1;obtain⟨ay,rv,p,hz⟩:=I1.tuple hq
 refine wpAny_pyIter_tuple (show s1.heap.IsTuple a ay.toArray from p) ?_;refine⟨(zz9 s1),[(zz9 s1)],_,_,H1,rfl,I1.kept (t':=s1.toks) λb o e=>zzB _ e,uZ a _,⟨_,zzX _ rfl,rfl,rfl⟩,λb hb=>?_,q⟩
 have e:b=(zz9 s1):=by simpa using hb
 subst e;exact I1.m5 (zzE _) (I1.aJ.fresh (zzE _))
def tM{ae:List (Addr×Obj)}{σ:St}{H:Hp}{s:Shared}{R:It->Hp->Prop}{E:Value->Shared->Prop}{lo hi:Int}{t u v:Tok}{tk:Nat}(I:Inv X ae σ H s)(h1: -(2^62)<=lo)(h2:lo<2^62)(h3: -(2^62)<=hi)(h4:hi<2^62)
 (q:R (Ot lo (hi-lo).toNat) H):wpAny (model X.prog X.w) X.A (pyIter (.ref (zz9 s))) (Ti X ae σ tg R) E {s with heap:=s.heap.push {cls:=.type "range",data:=.fields #[.int lo t,.int hi u,.int 1 v]},toks:=tk}:=by
 refine wpAny_pyIter_range (IsRange.new ..) (small_one h1 h2 h3 h4) ?_;have I1:Inv X ae σ H {s with heap:=s.heap.push {cls:=.type "range",data:=.fields #[.int lo t,.int hi u,.int 1 v]},toks:=tk}:=I.kept λb o e=>zzB _ e
 refine⟨(s.heap.push {cls:=.type "range",data:=.fields #[.int lo t,.int hi u,.int 1 v]}).objs.size,[(s.heap.push {cls:=.type "range",data:=.fields #[.int lo t,.int hi u,.int 1 v]}).objs.size],_,_,H,rfl,
  I1.kept (t':=tk) λb o e=>zzB _ e,vn _ lo (hi-lo).toNat,?_,λb hb=>?_,q⟩
 ·have e1:lo+((0:Nat):Int)*1=lo:=by simp
  have e2:(((hi-lo).toNat:Nat):Int)-((0:Nat):Int)=Builtin.Range.rangeSize lo hi 1:=by rw [rangeSize_one];split<;>omega
  show IsRangeIter _ _ (lo+((0:Nat):Int)*1) ((((hi-lo).toNat:Nat):Int)-((0:Nat):Int)) 1
  rw [e1,e2];exact zzX _ rfl
 ·have e:b=(s.heap.push {cls:=.type "range",data:=.fields #[.int lo t,.int hi u,.int 1 v]}).objs.size:=by simpa using hb
  subst e;exact I1.m5 (zzE _) (I1.aJ.fresh (zzE _))
def Oi(ta:TA):TI:=λσ H R=>ta σ H λvs H1=>∃j:Int,vs=[.int j]/\ -(2^62)<=j/\j<2^62/\R (Ot 0 j.toNat) H1
def N4(ta:TA):TI:=λσ H R=>ta σ H λvs H1=>∃i j:Int,vs=[.int i,.int j]/\(-(2^62)<=i/\i<2^62/\ -(2^62)<=j/\j<2^62)/\R (Ot i (j-i).toNat) H1
theorem Aa{a:Expr}{ta:TA}{p pos:Pos}(hg:Gl X "range")(hm:X.mg "range"=none)(ha:PA X [a] ta)(hs:starEach [a] X.env=[(false,eval a X.env)]:=by rfl):PI X tg (.Call (.Name "range" p) [a] [] pos) (Oi ta):=by
 intro ae s σ H R I h;refine Call_ (fR I hg hm boot_range (PyProof.Rows.callWith_type1 (cj (ha pos ae s σ H _ I h) λus s1 ⟨vs,H1,I1,r1,q1⟩=>?_) hs rfl))
 obtain⟨j,e,q1,q2,q⟩:=q1
 subst e;cases r1 with
 |cons r rr=>
  cases rr;obtain⟨t,rfl⟩:=r
  exact call_range_1 (tM I1 (by omega) (by omega) q1 q2 (by simpa using q))
theorem zv{a b:Expr}{ta:TA}{p pos:Pos}(hg:Gl X "range")(hm:X.mg "range"=none)(ha:PA X [a,b] ta)(hs:starEach [a,b] X.env=[(false,eval a X.env),(false,eval b X.env)]:=by rfl)(xb:starEach [b] X.env=[(false,eval b X.env)]:=by rfl):
 PI X tg (.Call (.Name "range" p) [a,b] [] pos) (N4 ta):=by
 intro ae s σ H R I h;refine Call_ (fR I hg hm boot_range (PyProof.Rows.callWith_type1 (cj (ha pos ae s σ H _ I h) λus s1 ⟨vs,H1,I1,r1,q1⟩=>?_) (by rw [hs,xb]) (by rw [xb];rfl)))
 obtain⟨i,j,e,⟨q1,q2,q3,q4⟩,q⟩:=q1
 subst e;cases r1 with
 |cons r rr=>
  cases rr with
  |cons r' rr=>
   cases rr;obtain⟨t,rfl⟩:=r
   obtain⟨t',rfl⟩:=r'
   exact call_range_2 (tM I1 q1 q2 q3 q4 q)
noncomputable def QM(wi:TI)(g:TG)(tb:TS):TS:=λD σ H=>wi σ H λJ H1=>∃W:Nat->Nat->St->Hp->Prop,(∃m,W 0 m σ H1)/\∀i m σ H,W i m σ H->
 (J.stop i H/\D.nx σ H)\/(J.go i H/\∃N:St->Hp->Prop,(∀σ' H',N σ' H'->∃m',m'<m/\W (i+1) m' σ' H')/\∀x H',J.MW i H x H'->g x σ H' λσ2 H2=>tb {D with nx:=N,ct:=N,bk:=D.nx} σ2 H2)
def qK(fp:List Addr)(h:Heap):List (Addr×Obj):=fp.filterMap λb=>(h.get? b).map λo=>(b,o)
def dC{fp:List Addr}{h:Heap}{b:Addr}{o:Obj}(hb:b∈fp)(e:h.get? b=some o):(b,o)∈qK fp h:=zz1.mpr ⟨b,hb,by rw [e];rfl⟩
def yP{fp:List Addr}{h:Heap}{p:Addr×Obj}(hp:p∈qK fp h):p.1∈fp/\h.get? p.1=some p.2:=by
 obtain⟨b,hb,e⟩:=zz1.mp hp
 cases q:h.get? b with
 |none=>rw [q] at e;cases e
 |some o=>
  rw [q] at e;have e':(b,o)=p:=zzq e
  subst e';exact⟨hb,q⟩
theorem Inv.pinned{ae:List (Addr×Obj)}{σ:St}{H:Hp}{s:Shared}{fp:List Addr}(I:Inv X ae σ H s)(hf:∀b∈fp,fE X ae H b)(ho:∀b∈fp,∃o,s.heap.get? b=some o/\∀v,o.data≠.cell v):Inv X (ae++qK fp s.heap) σ H s:=
 I.il λp hp=>(List.mem_append.mp hp).elim (λz=>I.pin p (zzR _ z)) λz=>by
  obtain⟨hb,e⟩:=yP z
  obtain⟨f0,f1,f2,_⟩:=hf p.1 hb
  obtain⟨o,e',d⟩:=ho p.1 hb
  rw [e] at e';cases e';exact⟨e,f0,f1,f2,d⟩
def Inv.jk{ae pl:List (Addr×Obj)}{σ:St}{H:Hp}{s:Shared}(I:Inv X (ae++pl) σ H s):Inv X ae σ H s:=I.il λp hp=>I.pin p (zzR _ (zzc _ hp))
def LI{iter:Expr}{body:List Stmt}{wi:TI}{g:TG}{tb:TS}{pos:Pos}(hp:PassesOwn (model X.prog X.w) X.A X.env X.xe)(hc:X.calm=true)(hi:PI X tg iter wi)(hg:PG X tg g)(hb:rN X body tb)
 (hs:∀x,foldedSetIterable iter X.env x=pure x:=by intro _;rfl):PS X (.For tg iter body [] pos) (QM wi g tb):=by
 intro ae s σ H D I h;refine wpAny_For (cj (hi ae s σ H _ I h) λv s1 h1=>cj h1 λRc s2 h2=>?_) hs
 obtain⟨it,fp,tn,J,H2,e,I2,T,JY,f2,W,⟨m0,w0⟩,turn⟩:=h2
 subst e;have KO:∀{H':Hp},(∀b∈fp,H' b=none)->∀b∈fp,fE X ae H' b:=λhn b hb=>⟨hn b hb,(f2 b hb).2⟩
 refine codeAny_forLoop_any (λn s'=>∃i σ' H',Inv X ae σ' H' s'/\tn i s'.heap/\(∀b∈fp,H' b=none)/\W i n σ' H') ?_ m0 ⟨0,σ,H2,I2,JY,λb hb=>(f2 b hb).1,w0⟩
 rintro n s3 ⟨i,σ3,H3,I3,Mb,fr3,w3⟩
 rcases turn i n σ3 H3 w3 with⟨stop,qn⟩|⟨go,N,hN,step⟩
 ·refine wpAny_passesOwn hp (cj (T.done X rfl rfl rfl hc i ae s3 σ3 H3 X.xe I3 (KO fr3) Mb stop) λr s4 ⟨hr,I4⟩=>?_)
  subst hr;exact wpAny_execs_nil ⟨σ3,H3,I4,qn⟩
 ·refine wpAny_passesOwn hp (cj (T.item X rfl rfl rfl hc i ae s3 σ3 H3 X.xe I3 (KO fr3) Mb go) λr s4 ⟨u,hr,h4⟩=>?_)
  subst hr;refine wpAny_passesOwn hp (cj h4 λ_ s5 ⟨x,H5,I5,r5,y5,st5,fr5⟩=>?_);have Sw:=I5.pinned (KO fr5) (T.obj _ _ st5)
  refine wpAny_passesOwn hp (cj (hg _ s5 σ3 H5 x u _ Sw r5 (step x H5 y5)) λ_ s6 ⟨σ6,H6,I6,q6⟩=>?_)
  refine wpAny_passesOwn hp (cj (hb _ s6 σ6 H6 _ I6 q6) λf s7 q7=>?_)
  have again:∀{σ7:St} {H7:Hp},Inv X (ae++qK fp s5.heap) σ7 H7 s7->N σ7 H7->∃m,m<n/\∃i σ' H',Inv X ae σ' H' s7/\tn i s7.heap/\(∀b∈fp,H' b=none)/\W i m σ' H':=λ{σ7 H7} I7 n7=>by
   obtain⟨m',hm,w7⟩:=hN σ7 H7 n7
   refine⟨m',hm,i+1,σ7,H7,I7.jk,T.keep _ _ _ st5 λb hb o e=>(I7.pin (b,o) (zzR _ (zzR _ (dC hb e)))).1,λb hb=>?_,w7⟩
   obtain⟨o,e,d⟩:=T.obj _ _ st5 b hb
   exact(I7.pin (b,o) (zzR _ (zzR _ (dC hb e)))).2.1
  cases f with
  |next=>obtain⟨σ7,H7,I7,n7⟩:=q7;exact again I7 n7
  |cont=>obtain⟨σ7,H7,I7,n7⟩:=q7;exact again I7 n7
  |brk=>obtain⟨σ7,H7,I7,q7⟩:=q7;exact⟨σ7,H7,I7.jk,q7⟩
  |ret v=>obtain⟨x7,σ7,H7,I7,r7,q7⟩:=q7;exact⟨x7,σ7,H7,I7.jk,r7,q7⟩
end
abbrev R2:=V->V->Hp->VK->Prop
def iz(X:Cx)(f:Value->Value->Sem Value)(r:R2):Prop:=
 ∀(ae:List (Addr×Obj)) (s:Shared) (σ:St) (H:Hp) (x y:V) (v u:Value) (Q:VK),Inv X ae σ H s->RelV x v->RelV y u->r x y H Q->
  wpAny (model X.prog X.w) X.A (f v u) (EP X ae σ Q) X.xe s
def Qz(X:Cx)(f:Value->Sem Value)(r:V->Hp->VK->Prop):Prop:=
 ∀(ae:List (Addr×Obj)) (s:Shared) (σ:St) (H:Hp) (x:V) (v:Value) (Q:VK),Inv X ae σ H s->RelV x v->r x H Q->
  wpAny (model X.prog X.w) X.A (f v) (EP X ae σ Q) X.xe s
def cF(X:Cx)(f:Value)(r:List V->Hp->VK->Prop):Prop:=
 ∀(ae:List (Addr×Obj)) (s:Shared) (σ:St) (H:Hp) (xs:List V) (us:List Value) (Q:VK),Inv X ae σ H s->Vals xs us->r xs H Q->
  wpAny (model X.prog X.w) X.A (call f us) (EP X ae σ Q) X.xe s
noncomputable def Ni(r:R2)(ta tb:TE):TE:=λσ H Q=>ta σ H λx H1=>tb σ H1 λy H2=>r x y H2 Q
def VV(r:V->Hp->VK->Prop)(ta:TE):TE:=λσ H Q=>ta σ H λx H1=>r x H1 Q
noncomputable def rI(C:Int->Int->Prop)(g:Int->Int->V):R2:=λx y H Q=>∃i j,x=.int i/\y=.int j/\C i j/\Q (g i j) H
noncomputable def LA(g:Int->Int->V):R2:=λx y H Q=>∃i j,x=.int i/\y=.int j/\Q (g i j) H
def rU(g:Int->V):V->Hp->VK->Prop:=λx H Q=>∃i,x=.int i/\Q (g i) H
section
variable{X:Cx}{a b:Expr}{ta tb:TE}{pos:Pos}
def Mw(ha:PE X a ta)(hb:PE X b tb){ae:List (Addr×Obj)}{s:Shared}{σ:St}{H:Hp}{R:V->V->Hp->Prop}(I:Inv X ae σ H s)
 (h:ta σ H λx H1=>tb σ H1 λy H2=>R x y H2) {Q:Value->Shared->Prop} {f:Value->Value->Sem Value}
 (hf:∀v u s2 x y H2,Inv X ae σ H2 s2->RelV x v->RelV y u->R x y H2->wpAny (model X.prog X.w) X.A (f v u) Q X.xe s2):
 wpAny (model X.prog X.w) X.A (eval a X.env) (λv s₁=>wpAny (model X.prog X.w) X.A (eval b X.env) (λu s₂=>wpAny (model X.prog X.w) X.A (f v u) Q X.xe s₂) X.xe s₁) X.xe s:=by
 refine cj (ha ae s σ H _ I h) λv s1 ⟨x,H1,I1,r1,q1⟩=>?_
 refine cj (hb ae s1 σ H1 _ I1 q1) λu s2 ⟨y,H2,I2,r2,q2⟩=>?_
 exact hf v u s2 x y H2 I2 r1 r2 q2
def Oh{op:Operator}{r:R2}(ho:iz X (binaryOp op) r)(ha:PE X a ta)(hb:PE X b tb):PE X (.BinOp a op b pos) (Ni r ta tb):=by
 intro ae s σ H Q I h;exact wpAny_BinOp (Mw ha hb I h λv u s2 x y H2 I2 rx ry q=>ho ae s2 σ H2 x y v u Q I2 rx ry q)
def OF{op:UnaryOp}{r:V->Hp->VK->Prop}(ho:Qz X (unaryOp op) r)(ha:PE X a ta):PE X (.UnaryOp op a pos) (VV r ta):=by
 intro ae s σ H Q I h;exact UnaryOp_ (cj (ha ae s σ H _ I h) λv s1 ⟨x,H1,I1,r1,q1⟩=>ho ae s1 σ H1 x v Q I1 r1 q1)
def Rt{f:Value->Value->Sem Value}{C:Int->Int->Prop}{g:Int->Int->Int}
 (rule:∀(i j:Int) (t u:Tok) (s:Shared) (Q:Value->Shared->Prop) (E:Value->Shared->Prop),C i j->Q (.int (g i j) s.toks) {s with toks:=s.toks+1}->wpAny (model X.prog X.w) X.A (f (.int i t) (.int j u)) Q E s):
 iz X f (rI C λi j=>.int (g i j)):=by
 intro ae s σ H x y v u Q I rx ry h;obtain⟨i,j,rfl,rfl,hc,q⟩:=h
 obtain⟨t,rfl⟩:=rx
 obtain⟨t',rfl⟩:=ry
 exact rule i j t t' s _ _ hc ⟨.int (g i j),H,I.tok _,⟨_,rfl⟩,q⟩
def Ov{f:Value->Value->Sem Value}{g:Int->Int->Int}
 (rule:∀(i j:Int) (t u:Tok) (s:Shared) (Q:Value->Shared->Prop) (E:Value->Shared->Prop),Q (.int (g i j) s.toks) {s with toks:=s.toks+1}->wpAny (model X.prog X.w) X.A (f (.int i t) (.int j u)) Q E s):
 iz X f (LA λi j=>.int (g i j)):=by
 intro ae s σ H x y v u Q I rx ry h;obtain⟨i,j,rfl,rfl,q⟩:=h
 obtain⟨t,rfl⟩:=rx
 obtain⟨t',rfl⟩:=ry
 exact rule i j t t' s _ _ ⟨.int (g i j),H,I.tok _,⟨_,rfl⟩,q⟩
def L0{f:Value->Value->Sem Value}{g:Int->Int->Bool}
 (rule:∀(i j:Int) (t u:Tok) (s:Shared) (Q:Value->Shared->Prop) (E:Value->Shared->Prop),Q (.bool (g i j)) s->wpAny (model X.prog X.w) X.A (f (.int i t) (.int j u)) Q E s):
 iz X f (LA λi j=>.bl (g i j)):=by
 intro ae s σ H x y v u Q I rx ry h;obtain⟨i,j,rfl,rfl,q⟩:=h
 obtain⟨t,rfl⟩:=rx
 obtain⟨t',rfl⟩:=ry
 exact rule i j t t' s _ _ ⟨.bl (g i j),H,I,rfl,q⟩
def Q9(i j:Int):Prop:=0<j/\j<1073741824
def Kf(i j:Int):Prop:=(-(2^64)<i/\i<2^64)\/(-(2^64)<j/\j<2^64)
def Kf.ok{i j:Int}(h:Kf i j):IntMulOk i j:=by
 rcases h with⟨h1,h2⟩|⟨h1,h2⟩
 ·exact .of_left (intBits_le_64 h1 h2)
 ·exact .of_right (intBits_le_64 h1 h2)
def Jp:iz X (binaryOp .Add) (LA λi j=>.int (i+j)):=Ov λ_ _ _ _ _ _ _ q=>add_int q
def Mr:iz X (binaryOp .Sub) (LA λi j=>.int (i-j)):=Ov λ_ _ _ _ _ _ _ q=>sub_int q
def LU:iz X (binaryOp .Mult) (rI Kf λi j=>.int (i*j)):=Rt λ_ _ _ _ _ _ _ hc q=>mul_int q hc.ok
theorem Gg:iz X (binaryOp .FloorDiv) (rI Q9 λi j=>.int (i/j)):=Rt λi j _ _ _ _ _ hc q=>by
 have h1:(0:Int)<j:=hc.1
 have h2:j<1073741824:=hc.2
 exact floordiv_int (by omega) (by rw [Int.fdiv_eq_ediv_of_nonneg i (by omega)];exact q) (.inl (PyProof.noPylong_small (by omega)))
theorem JD:iz X (binaryOp .Mod) (rI (λ_ j=>0<j) λi j=>.int (i%j)):=Rt λi j _ _ _ _ _ hc q=>by
 have h1:(0:Int)<j:=hc
 exact mod_int' (by omega) (by rw [Int.fmod_eq_emod_of_nonneg i (by omega)];exact q)
def VN{f:Value->Sem Value}{g:Int->Int}
 (rule:∀(i:Int) (t:Tok) (s:Shared) (Q:Value->Shared->Prop) (E:Value->Shared->Prop),Q (.int (g i) s.toks) {s with toks:=s.toks+1}->wpAny (model X.prog X.w) X.A (f (.int i t)) Q E s):
 Qz X f (rU λi=>.int (g i)):=by
 intro ae s σ H x v Q I rx h;obtain⟨i,rfl,q⟩:=h
 obtain⟨t,rfl⟩:=rx
 exact rule i t s _ _ ⟨.int (g i),H,I.tok _,⟨_,rfl⟩,q⟩
def LZ:Qz X (unaryOp .USub) (rU λi=>.int (-i)):=VN λ_ _ _ _ _ q=>neg_int q
variable{c:Expr}{tc:TE}
def B1{ae:List (Addr×Obj)}{σ:St}{H:Hp}{s:Shared}{Q:VK}{k k':Bool}(I:Inv X ae σ H s)(q:Q (.bl k) H)(e:k=k'):EP X ae σ Q (.bool k') s:=by
 subst e;exact⟨.bl k,H,I,rfl,q⟩
def OL:iz X (compareOp .Lt) (LA λi j=>.bl (decide (i<j))):=L0 λ_ _ _ _ _ _ _ q=>lt_int q
def NM:iz X (compareOp .LtE) (LA λi j=>.bl (decide (i<=j))):=L0 λ_ _ _ _ _ _ _ q=>le_int q
def Pd:iz X (compareOp .Gt) (LA λi j=>.bl (decide (j<i))):=L0 λ_ _ _ _ _ _ _ q=>gt_int q
def K1:iz X (compareOp .Is) (λx y H Q=>y=.aD/\Q (.bl (decide (x=.aD))) H):=by
 intro ae s σ H x y v u Q I rx ry h;obtain⟨rfl,q⟩:=h
 cases ry;refine is_none_gen (B1 I q ?_);cases x<;>first
  |(cases rx;rfl)
  |(obtain⟨t,rfl⟩:=rx;rfl)
def Gr:iz X (compareOp .IsNot) (λx y H Q=>y=.aD/\Q (.bl (!decide (x=.aD))) H):=by
 intro ae s σ H x y v u Q I rx ry h;obtain⟨rfl,q⟩:=h
 cases ry;refine isnot_none_gen (B1 I q ?_);cases x<;>first
  |(cases rx;rfl)
  |(obtain⟨t,rfl⟩:=rx;rfl)
def RK(b:Expr){op:CmpOp}(h:op≠.In:=by decide)(h2:op≠.NotIn:=by decide):behindInMarks op b=false:=by
 have e1:(op==CmpOp.In)=false:=by cases op<;>first|rfl|exact absurd rfl h
 have e2:(op==CmpOp.NotIn)=false:=by cases op<;>first|rfl|exact absurd rfl h2
 cases b<;>simp [behindInMarks,e1,e2]
def FA{op:CmpOp}{r:R2}(ho:iz X (compareOp op) r)(ha:PE X a ta)(hb:PE X b tb)(hm:behindInMarks op b=false):PE X (.Compare a [op] [b] pos) (Ni r ta tb):=by
 intro ae s σ H Q I h;exact wpAny_Compare1 (Mw ha hb I h λv u s2 x y H2 I2 rx ry q=>ho ae s2 σ H2 x y v u Q I2 rx ry q) hm
def AW(t:TE):TT:=λσ H Q=>t σ H λx H'=>∃k,x=.bl k/\Q k H'
def FD{op:CmpOp}{r:R2}(ho:iz X (compareOp op) r)(ha:PE X a ta)(hb:PE X b tb)(hm:behindInMarks op b=false):PT X (.Compare a [op] [b] pos) (AW (Ni r ta tb)):=by
 intro ae s σ H Q I h;refine wpAny_isTrue_Compare1 (cj (ha ae s σ H _ I h) λv s1 ⟨x,H1,I1,r1,q1⟩=>cj (hb ae s1 σ H1 _ I1 q1) λu s2 ⟨y,H2,I2,r2,q2⟩=>
  cj (ho ae s2 σ H2 x y v u _ I2 r1 r2 q2) λc s3 ⟨z,H3,I3,r3,k,e,q3⟩=>?_) hm
 subst e;cases r3;exact wpAny_truthy_bool ⟨H3,I3,q3⟩
noncomputable def v3(r r':R2)(ta tb tc:TE):TE:=λσ H Q=>ta σ H λx H1=>tb σ H1 λy H2=>r x y H2 λz H3=>∃k,z=.bl k/\
 (if k=true then tc σ H3 λw' H4=>r' y w' H4 Q else Q (.bl false) H3)
def DB{op Je:CmpOp}{r r':R2}(ho:iz X (compareOp op) r)(jV:iz X (compareOp Je) r')(ha:PE X a ta)(hb:PE X b tb)(hc:PE X c tc)
 (hm:lastMarks [op,Je] [b,c]=false:=by with_unfolding_all rfl):PE X (.Compare a [op,Je] [b,c] pos) (v3 r r' ta tb tc):=by
 intro ae s σ H Q I h;refine Compare_chain (cj (ha ae s σ H _ I h) λv s1 ⟨x,H1,I1,r1,q1⟩=>chain_link (cj (hb ae s1 σ H1 _ I1 q1) λu s2 ⟨y,H2,I2,r2,q2⟩=>
  cj (ho ae s2 σ H2 x y v u _ I2 r1 r2 q2) λd s3 ⟨z,H3,I3,r3,k,e,q3⟩=>?_)) hm
 subst e;cases r3;refine wpAny_truthy_bool ?_;cases k with
 |false=>exact ite_ff ⟨.bl false,H3,I3,rfl,q3⟩
 |true=>exact ite_tt (chain_last (cj (hc ae s3 σ H3 _ I3 q3) λw' s4 ⟨z',H4,I4,r4,q4⟩=>jV ae s4 σ H4 y z' u w' Q I4 r2 r4 q4))
def BL{op Je:CmpOp}{r r':R2}(ho:iz X (compareOp op) r)(jV:iz X (compareOp Je) r')(ha:PE X a ta)(hb:PE X b tb)(hc:PE X c tc)
 (hm:lastMarks [op,Je] [b,c]=false:=by with_unfolding_all rfl):PT X (.Compare a [op,Je] [b,c] pos) (AW (v3 r r' ta tb tc)):=by
 intro ae s σ H Q I h;refine isTrue_chain (cj (ha ae s σ H _ I h) λv s1 ⟨x,H1,I1,r1,q1⟩=>test_link (cj (hb ae s1 σ H1 _ I1 q1) λu s2 ⟨y,H2,I2,r2,q2⟩=>
  cj (ho ae s2 σ H2 x y v u _ I2 r1 r2 q2) λd s3 ⟨z,H3,I3,r3,k,e,q3⟩=>?_)) hm
 subst e;cases r3;refine wpAny_truthy_bool ?_;cases k with
 |false=>
  obtain⟨k',e',q'⟩:=q3
  cases e';exact ite_ff ⟨H3,I3,q'⟩
 |true=>
  refine ite_tt (test_last (cj (hc ae s3 σ H3 _ I3 q3) λw' s4 ⟨z',H4,I4,r4,q4⟩=>cj (jV ae s4 σ H4 y z' u w' _ I4 r2 r4 q4) λd' s5 ⟨z2,H5,I5,r5,k2,e2,q5⟩=>?_))
  subst e2;cases r5;exact wpAny_truthy_bool ⟨H5,I5,q5⟩
def mz:(sizeLine:Nat)<2^63:=by rw [sizeLine_eq];decide
def vb:iz X (binaryOp .Add) (λx y H Q=>∃i j,x=.str i/\y=.str j/\i.length+j.length<=sizeLine/\Q (.str (i++j)) H):=by
 intro ae s σ H x y v u Q I rx ry h;obtain⟨i,j,rfl,rfl,hz,q⟩:=h
 obtain⟨t,rfl⟩:=rx
 obtain⟨t',rfl⟩:=ry
 exact add_str (λt' tk=>⟨.str (i++j),H,I.tok _,⟨_,rfl⟩,q⟩) hz
def vals1{x:V}{us:List Value}(r:Vals [x] us):∃u,us=[u]/\RelV x u:=by
 cases r with
 |cons r1 r2=>cases r2;exact⟨_,rfl,r1⟩
def vals2{x y:V}{us:List Value}(r:Vals [x,y] us):∃u w',us=[u,w']/\RelV x u/\RelV y w':=by
 cases r with
 |cons r1 r2=>
  cases r2 with
  |cons r3 r4=>cases r4;exact⟨_,_,rfl,r1,r3⟩
def Dx:cF X (.builtin "abs") (λxs H Q=>∃i,xs=[.int i]/\Q (.int (if i<0 then -i else i)) H):=by
 intro ae s σ H xs us Q I r h;obtain⟨i,rfl,q⟩:=h
 obtain⟨u,rfl,t,rfl⟩:=vals1 r
 exact call_abs_int λu tk=>⟨.int (if i<0 then -i else i),H,I.tok _,⟨_,rfl⟩,q⟩
def ym(hc:X.calm=true):cF X (.builtin "max") (λxs H Q=>∃i j,xs=[.int i,.int j]/\Q (.int (if j>i then j else i)) H):=by
 intro ae s σ H xs us Q I r h;obtain⟨i,j,rfl,q⟩:=h
 obtain⟨u,w',rfl,⟨t,rfl⟩,⟨t',rfl⟩⟩:=vals2 r
 refine max_two_ints (I.ok.hd hc) λh' tk k=>⟨_,H,I.kept k,?_,q⟩
 by_cases hj:j>i
 ·rw [if_pos hj,if_pos hj];exact⟨_,rfl⟩
 ·rw [if_neg hj,if_neg hj];exact⟨_,rfl⟩
def qo:cF X (.type "str") (λxs H Q=>∃i,xs=[.int i]/\i.natAbs.log2<1920/\Q (.str (toString i)) H):=by
 intro ae s σ H xs us Q I r h;obtain⟨i,rfl,hz,q⟩:=h
 obtain⟨u,rfl,t,rfl⟩:=vals1 r
 exact PySem.P.str_of_int hz ⟨.str _,H,I.tok _,⟨_,rfl⟩,q⟩
end
def kS.some_of{v:V}{o:Option Value}(r:kS (some v) o):∃u,o=some u/\RelV v u:=by
 cases o with
 |none=>exact(show False from r).elim
 |some u=>exact⟨u,rfl,r⟩
structure dP(k:Nat)(A:Around):Prop where
 hd:A.handled=none
 dp:A.depth+3*k+5<recursionLimit
 un:A.units+16*k+200<cLine
theorem dP.mono{j k:Nat}{A:Around}(r:dP k A)(h:j<=k):dP j A:=⟨r.hd,by have:=r.dp;omega,by have:=r.un;omega⟩
theorem dP.deeper{k:Nat}{A:Around}(r:dP (k+1) A)(env:Env):dP k (A.deeper env):=
 ⟨r.hd,by have:=r.dp;show A.depth+1+3*k+5<_;omega,by have:=r.un;show A.units+3+16*k+200<_;omega⟩
theorem dP.in1{k:Nat}{A:Around}(r:dP (k+1) A):dP k A.in1:=
 ⟨r.hd,by have:=r.dp;show A.depth+3*k+5<_;omega,by have:=r.un;show A.units+1+16*k+200<_;omega⟩
def dP.depth{k:Nat}{A:Around}(r:dP k A):A.depth<recursionLimit:=by have:=r.dp;omega
def dP.units{k:Nat}{A:Around}(r:dP k A):A.units+64<cLine:=by have:=r.un;omega
def Ro:TA:=λ_ H Q=>Q [] H
def PJ(ta:TE)(tr:TA):TA:=λσ H Q=>ta σ H λx H1=>tr σ H1 λxs H2=>Q (x::xs) H2
section
variable{X:Cx}{e:Expr}{es:List Expr}{te:TE}{t:TA}{pos:Pos}
def dq:PA X [] Ro:=λ_ _ _ _ H Q I h=>Calls.spliced_nil ⟨[],H,I,.nil,h⟩
theorem bM(ha:PE X e te)(hr:PA X es t)(hs:starEach (e::es) X.env=(false,eval e X.env)::starEach es X.env:=by rfl):PA X (e::es) (PJ te t):=by
 intro pos ae s σ H Q I h;rw [hs];show wpAny _ _ (spliced ((false,eval e X.env)::backTo pos (starEach es X.env))) _ _ s;refine Calls.spliced_cons (cj (ha ae s σ H _ I h) λu s1 ⟨x,H1,I1,r1,q1⟩=>?_)
 exact cj (hr pos ae s1 σ H1 _ I1 q1) λus s2 ⟨xs,H2,I2,r2,q2⟩=>⟨x::xs,H2,I2,.cons r1 r2,q2⟩
def Rr(t:TA):TE:=λσ H Q=>t σ H λxs H1=>xs.length<=sizeLine/\∀p,H1 p=none->Q (.ref p) (upd H1 p (.tup xs))
def RP(t:TA):TE:=λσ H Q=>t σ H λxs H1=>xs.length<=sizeLine/\∀p,H1 p=none->Q (.ref p) (upd H1 p (.lst xs))
def ME{x1}(h:PA X es t):PE X (.Tuple es x1 pos) (Rr t):=by
 intro ae s σ H Q I hq;refine wpAny_Tuple_spliced (cj (h pos ae s σ H _ I hq) λus s1 ⟨xs,H1,I1,r,z,q⟩=>⟨by rw [<-r.length];exact z,?_⟩)
 have hf:H1 (zz9 s1)=none:=I1.aJ.fresh (zzE _)
 refine⟨.ref (zz9 s1),upd H1 (zz9 s1) (.tup xs),I1.laid (t':=s1.toks) (λb u e=>zzB _ e) (zzE _) ?_,rfl,q _ hf⟩;exact⟨z,us,r,⟨_,zzX _ rfl,rfl,_,rfl⟩⟩
def Kk(h:PA X es t):PE X (.List es pos) (RP t):=by
 intro ae s σ H Q I hq;refine wpAny_List_spliced (cj (h pos ae s σ H _ I hq) λus s1 ⟨xs,H1,I1,r,z,q⟩=>⟨by rw [<-r.length];exact z,?_⟩)
 have hf:H1 (zz9 s1)=none:=I1.aJ.fresh (zzE _)
 refine⟨.ref (zz9 s1),upd H1 (zz9 s1) (.lst xs),I1.laid (t':=s1.toks) (λb u e=>zzB _ e) (zzE _) ?_,rfl,q _ hf⟩;exact⟨z,us,0,r,zzX _ rfl⟩
end
abbrev Sp:=List V->Hp->VK->XK->Prop
abbrev Ao:=List Env->Hp->Shared->XK->Value->Shared->Prop
structure ju(P:Program)(w:World)(K:zz8)(mg:Str->Option Value)(base:Heap)(A:Around)(outer:List Env)(s:Shared)(H:Hp):Prop where
 frames:A.frames=some outer
 mod:Mod K mg base
 bs:∀b o,base.get? b=some o->s.heap.get? b=some o/\H b=none
 uN:base.objs.size<=(zz9 s)
 fW:s.heap.FunFrames base outer
 vz:∀b∈d9 outer,H b=none
 aJ:eg P w H s.heap
 bare:AllBare s.gens
def CE(outer:List Env)(P:Program)(w:World)(H:Hp)(s:Shared)(Q:VK)(u:Value)(s':Shared):Prop:=
 ∃v H',s'.os=s.os/\AllBare s'.gens/\Un (d9 outer) [] H H' s.heap s'.heap/\eg P w H' s'.heap/\RelV v u/\Q v H'
def CR(CX:Ao)(outer:List Env)(P:Program)(w:World)(H:Hp)(s:Shared)(Q:VK)(E:XK)(r:Result)(s':Shared):Prop:=
 match r with
 |.ok (.ret u)=>CE outer P w H s Q u s'
 |.ok _=>False
 |.error e=>CX outer H s E e s'
structure gW(P:Program)(w:World)(K:zz8)(mg:Str->Option Value)(base:Heap)(CX:Ao)(k:Nat)(f:Addr)(fd:FuncData)(ps:List Str)(sp:Sp):Prop where
 len:∀vs H Q E,sp vs H Q E->vs.length=ps.length
 run:∀(A:Around) (outer:List Env) (s:Shared) (H:Hp) (args:Args) (us:List Value) (vs:List V) (Q:VK) (E:XK),dP k A->ju P w K mg base A outer s H->BindsTo s fd args (ps.zip us)->Vals vs us->sp vs H Q E->
  codeAny (model P w) A (.call (.ref f) args) (CR CX outer P w H s Q E) s
def gW.mono{P:Program}{w:World}{K:zz8}{mg:Str->Option Value}{base:Heap}{CX:Ao}{j k:Nat}{f:Addr}{fd:FuncData}{ps:List Str}{sp:Sp}(F:gW P w K mg base CX j f fd ps sp)(h:j<=k):
 gW P w K mg base CX k f fd ps sp:=⟨F.len,λA outer s H args us vs Q E hr=>F.run A outer s H args us vs Q E (hr.mono h)⟩
def gW.imp{P:Program}{w:World}{K:zz8}{mg:Str->Option Value}{base:Heap}{CX:Ao}{k:Nat}{f:Addr}{fd:FuncData}{ps:List Str}{sp Vc:Sp}(F:gW P w K mg base CX k f fd ps sp)
 (h:∀vs H Q E,Vc vs H Q E->sp vs H Q E):gW P w K mg base CX k f fd ps Vc:=
 ⟨λvs H Q E q=>F.len vs H Q E (h _ _ _ _ q),λA outer s H args us vs Q E hr he hb hv hs=>F.run A outer s H args us vs Q E hr he hb hv (h _ _ _ _ hs)⟩
def ju.in1{P:Program}{w:World}{K:zz8}{mg:Str->Option Value}{base:Heap}{A:Around}{outer:List Env}{s:Shared}{H:Hp}(e:ju P w K mg base A outer s H):
 ju P w K mg base A.in1 outer s H:=⟨e.frames,e.mod,e.bs,e.uN,e.fW,e.vz,e.aJ,e.bare⟩
section
variable{X:Cx}{ae:List (Addr×Obj)}{σ:St}{H:Hp}{s s':Shared}
def Inv.zK(I:Inv X ae σ H s):ju X.prog X.w X.K X.mg X.base X.A X.stack s H:=
 ⟨I.ok.frames,I.ok.mod,I.bs,zzU I.ok.uN I.sz,I.stack,I.lH,I.aJ,I.bare⟩
def Inv.after{Q:VK}{u:Value}(I:Inv X ae σ H s)(h:CE X.stack X.prog X.w H s Q u s'):EP X ae σ Q u s':=by
 obtain⟨v,H',os,bare,un,aJ,r,q⟩:=h
 obtain⟨hh,g,d,t,os'⟩:=s'
 obtain rfl:os'=s.os:=os
 exact⟨v,H',I.call (h':=hh) (g':=g) (d':=d) (t':=t) (ch:=[]) un aJ bare (λb z=>absurd z (by simp)),r,q⟩
end
def Binds(K:zz8)(fd:FuncData)(ps:List Str)(ds:List Value):Prop:=
 ∀(s:Shared) (us:List Value),K.In s.heap->(us++ds).length=ps.length->BindsTo s fd ⟨us,[]⟩ (ps.zip (us++ds))
def Binds.all{K:zz8}{fd:FuncData}{ps:List Str}(h:∀us:List Value,us.length=ps.length->bindArgs fd ⟨us,[]⟩=pure (ps.zip us)):Binds K fd ps []:=λs us _ hl=>by
 rw [zz6] at hl⊢;exact .of_eq (h us hl)
def Passes(CX:Ao)(X:Cx)(E:XK):Prop:=∀(ae:List (Addr×Obj)) (σ:St) (H:Hp) (s:Shared) (e:Value) (s':Shared),Inv X ae σ H s->CX X.stack H s E e s'->X.xe e s'
structure lP(N P:List Str)(sc:Scope):Prop where
 kind:sc.kind=.function
 co:sc.isCoroutine=false
 gen:sc.isGenerator=false
 nd:N.Nodup
 pre:N.take P.length=P
 par:∀x∈P,sc.names.lookup x=some .local\/sc.names.lookup x=some .cell
 KI:∀y∈sc.names,y.2≠.free
theorem oX{kindOf:Str->Option NameKind}{x:Str}:∀{binds:List (Str×Value)} {m:Str->Option Value},(∀v,(x,v)∉binds)->bindL kindOf binds m x=m x
 |[],_,_=>rfl
 |(n,v)::r,m,h=>by
  unfold bindL;rw [oX λw hw=>h w (zzI _ hw)]
  split
  ·have:x≠n:=by rintro rfl;exact h v zzP
   simp [this]
  ·rfl
theorem pQ{kindOf:Str->Option NameKind}{x:Str}:∀{binds:List (Str×Value)} {m:Str->Option Value},(∀v,(x,v)∉binds)->bindC kindOf binds m x=m x
 |[],_,_=>rfl
 |(n,v)::r,m,h=>by
  unfold bindC;rw [pQ λw hw=>h w (zzI _ hw)]
  split
  ·rfl
  ·have:x≠n:=by rintro rfl;exact h v zzP
   simp [this]
theorem o7{kindOf:Str->Option NameKind}{x:Str}{v:Value}:∀{P:List Str} {vs:List Value} {i:Nat} {m:Str->Option Value},P.Nodup->P[i]?=some x->vs[i]?=some v->kindOf x=some .local->
 bindL kindOf (P.zip vs) m x=some v
 |[],_,_,_,_,h,_,_=>by simp at h
 |_::_,[],_,_,_,_,h,_=>by simp at h
 |p::P,w::vs,0,m,nd,h1,h2,hk=>by
  simp at h1 h2;subst h1;subst h2;show bindL kindOf ((p,w)::P.zip vs) m p=_
  unfold bindL;rw [oX λv hv=>(List.nodup_cons.mp nd).1 (List.of_mem_zip hv).1,if_pos hk]
  simp
 |p::P,w::vs,i+1,m,nd,h1,h2,hk=>by
  show bindL kindOf ((p,w)::P.zip vs) m x=_
  unfold bindL;exact o7 (i:=i) (List.nodup_cons.mp nd).2 (by simpa using h1) (by simpa using h2) hk
theorem pF{kindOf:Str->Option NameKind}{x:Str}{v:Value}:∀{P:List Str} {vs:List Value} {i:Nat} {m:Str->Option Value},P.Nodup->P[i]?=some x->vs[i]?=some v->kindOf x≠some .local->
 bindC kindOf (P.zip vs) m x=some v
 |[],_,_,_,_,h,_,_=>by simp at h
 |_::_,[],_,_,_,_,h,_=>by simp at h
 |p::P,w::vs,0,m,nd,h1,h2,hk=>by
  simp at h1 h2;subst h1;subst h2;show bindC kindOf ((p,w)::P.zip vs) m p=_
  unfold bindC;rw [pQ λv hv=>(List.nodup_cons.mp nd).1 (List.of_mem_zip hv).1,if_neg hk]
  simp
 |p::P,w::vs,i+1,m,nd,h1,h2,hk=>by
  show bindC kindOf ((p,w)::P.zip vs) m x=_
  unfold bindC;exact pF (i:=i) (List.nodup_cons.mp nd).2 (by simpa using h1) (by simpa using h2) hk
def start(N:List Str)(vs:List V):St:=vs.map some++List.replicate (N.length-vs.length) none
noncomputable def dQ(CX:Ao)(P:Program)(w:World)(K:zz8)(mg:Str->Option Value)(base:Heap)(N:List Str)(qual:Str)(scope:Scope)(f:Addr)(cd:Value)(A:Around)(outer:List Env)(s:Shared)(H:Hp)(E:XK):Cx where
 prog:=P
 w:=w
 K:=K
 mg:=mg
 base:=base
 A:=A.deeper (envOfC qual scope (zz9 s) f cd)
 N:=N
 s₀:=s
 H₀:=H
 env:=envOfC qual scope (zz9 s) f cd
 outer:=outer
 stack:=envOfC qual scope (zz9 s) f cd::outer
 ex:=[]
 calm:=true
 fn:=λ_=>true
 pn:=[]
 xe:=λe s'=>wpAny (model P w) (A.deeper (envOfC qual scope (zz9 s) f cd)) (leaving (envOfC qual scope (zz9 s) f cd) e) (λ_ FJ=>CX outer H s E e FJ) (λe' FJ=>CX outer H s E e' FJ) s'
def rW{sc:Scope}{n:Nat}{x:Str}(h:sc.names.lookup x=some .cell):∃c,(cellsFrom n sc.names []).lookup x=some c:=by
 have q:=PySem.W.cellsFrom_some sc.names n [] (.inl h)
 exact zzp.mp q
def zo{CX:Ao}{P:Program}{w:World}{K:zz8}{mg:Str->Option Value}{base:Heap}{N ps:List Str}{qual:Str}{scope:Scope}{f:Addr}{cd:Value}{A:Around}{outer:List Env}{s s1:Shared}{H:Hp}{E:XK}{us:List Value}{vs:List V}
 (S:lP N ps scope) (hd:A.handled=none) (e0:ju P w K mg base A outer s H) (hl:vs.length=ps.length) (r:Vals vs us)
 (x:InCallC s (zz9 s) (bindL (envOfC qual scope (zz9 s) f cd).kindOf (ps.zip us) λ_=>none) (cellsFrom ((zz9 s)+1) scope.names []) (bindC (envOfC qual scope (zz9 s) f cd).kindOf (ps.zip us) λ_=>none) s1):
 Inv (dQ CX P w K mg base N qual scope f cd A outer s H E) [] (start N vs) H s1:=by
 have hpl:ps.length<=N.length:=by have:=congrArg List.length S.pre;rw [List.length_take] at this;omega
 obtain⟨h1,tk,rfl,hk⟩:=x.done
 have EX:∀b:Addr,b∉(dQ CX P w K mg base N qual scope f cd A outer s H E).ex:=λb z=>absurd (show b∈([]:List Addr) from z) (by simp)
 refine⟨⟨e0.mod,S.kind,rfl,rfl,zzE _,λy z c h1 h2=>?_,λy hy=>?_,λy c _ h=>?_,λ_=>hd,Around.frames_deeper e0.frames,.inr ⟨rfl,rfl⟩,λb z=>absurd z (EX b),e0.bs,e0.uN,λb _ _=>EX b,λb z=>absurd z (EX b),e0.fW,e0.vz⟩,
  rfl,e0.bare,Un.kept hk,⟨_,x.toInCall.ns,λi y v h1 h2 h3=>?_⟩,λy c h=>⟨_,x.cell y c h⟩,e0.aJ.fresh (zzE _),λy c h=>?_,λp hp=>absurd (show p∈([]:List (Addr×Obj)) from hp) (by simp),e0.aJ.kept hk,?_⟩
 ·exact name_of_addr x.apart (PySem.mem_of_lookup h1) (PySem.mem_of_lookup h2)
 ·have hy:scope.names.lookup y=some .cell\/scope.names.lookup y=some .free:=hy
  rcases hy with hy|hy
  ·exact rW hy
  ·exact absurd rfl (S.KI _ (PySem.mem_of_lookup hy))
 ·exact Nat.le_of_lt (x.above y c (PySem.mem_of_lookup h))
 ·have hi:i<vs.length:=by
   unfold start at h2
   by_cases hi:i<vs.length
   ·exact hi
   ·rw [zzs (by simpa using hi)] at h2;rw [List.getElem?_replicate] at h2;split at h2<;>cases h2
  have ha:vs[i]?=some v:=by
   unfold start at h2;rw [zzr (by simpa using hi),zzQ] at h2;cases e:vs[i]? with
   |none=>rw [e] at h2;cases h2
   |some a=>rw [e] at h2;cases h2;rfl
  obtain⟨u,hu,rv⟩:=r.get ha
  have hp:ps[i]?=some y:=by
   rw [<-S.pre,List.getElem?_take_of_lt (by omega)];exact h1
  have Td:ps.Nodup:=by rw [<-S.pre];exact S.nd.sublist (List.take_sublist _ _)
  refine⟨u,rv,?_⟩;rcases S.par y (zzD hp) with k|k
  ·exact .inl ⟨k,o7 Td hp hu k⟩
  ·obtain⟨c,e⟩:=rW (n:=(zz9 s)+1) k
   refine .inr ⟨.inl k,c,e,?_⟩;have q:=x.cell y c e
   rw [pF Td hp hu (by show scope.names.lookup y≠_;rw [k];decide)] at q;exact q
 ·exact e0.aJ.fresh (Nat.le_of_lt (x.above y c (PySem.mem_of_lookup h)))
 ·unfold start;show _=N.length
  rw [zzM,zzl,List.length_replicate];omega
def Oq{CX:Ao}{P:Program}{w:World}{K:zz8}{mg:Str->Option Value}{base:Heap}{k:Nat}{f:Addr}{name qual:Str}{params:Arguments}{body:List Stmt}{scope:Scope}{dV kV doc pm gb ct oc:Value}{an od:Option Addr}
 {vo:Array (Option Value)} {N ps:List Str} {sp:Sp} (lk:K.lookup f=some ⟨oc,od,.func (PySem.W.fnOf name qual params body scope dV kV doc pm an gb ct),vo⟩) (nq:PySem.W.codeIn K gb qual=true) (S:lP N ps scope)
 (len:∀vs H Q E,sp vs H Q E->vs.length=ps.length)
 (N8:∀(A:Around) (outer:List Env) (s:Shared) (H:Hp) (vs:List V) (Q:VK) (E:XK),dP k (A.deeper (envOfC qual scope (zz9 s) f gb))->sp vs H Q E->
  ∃t,rN (dQ CX P w K mg base N qual scope f gb A outer s H E) body t/\t {nx:=λ_ H'=>Q .aD H',rt:=Q} (start N vs) H):
 gW P w K mg base CX (k+1) f (PySem.W.fnOf name qual params body scope dV kV doc pm an gb ct) ps sp:=by
 refine⟨len,λA outer s H args us vs Q E hr e0 hb r MM=>?_⟩
 have hl:=len _ _ _ _ MM
 have KX:K.In s.heap:=e0.mod.PK.keeps λb o e=>(e0.bs b o e).1
 have lim:s.heap.NoLimit:=e0.mod.nolimit.keeps λb o e=>(e0.bs b o e).1
 have PB:∀y∈ps.zip us,scope.names.lookup y.1=some .local\/(scope.names.lookup y.1=some .cell/\((cellsFrom ((zz9 s)+1) scope.names []).lookup y.1).isSome=true):=λ⟨n,v⟩ hy=>by
  rcases S.par n (List.of_mem_zip hy).1 with q|q
  ·exact .inl q
  ·exact .inr ⟨q,PySem.W.cellsFrom_some _ _ _ (.inl q)⟩
 refine codeAny_call_function hr.depth (KX _ _ lk) rfl S.co S.gen rfl (PySem.W.codeRec_of KX nq) (hb _ _ _ _ ?_);refine wpAny_newFunctionEnv_cells S.kind PB λenv he s1 x=>?_
 subst he;refine⟨lim.keeps x.toInCall.keep,codeAny_func ?_⟩;obtain⟨t,ht,hq⟩:=N8 A outer s H vs Q E (hr.deeper _) MM
 have I:Inv (dQ CX P w K mg base N qual scope f gb A outer s H E) [] (start N vs) H s1:=zo S hr.hd e0 hl r x
 refine wpAny_mono (ht [] s1 (start N vs) H _ I hq) (λfl s' hs=>?_) λe s' hs=>hs
 have fin:∀{σ':St} {H':Hp} {v:V} {u:Value},Inv (dQ CX P w K mg base N qual scope f gb A outer s H E) [] σ' H' s'->RelV v u->Q v H'->CE outer P w H s Q u s':=
  λ{σ' H' v u} J rv q=>⟨v,H',J.os,J.bare,J.base,J.aJ,rv,q⟩
 cases fl with
 |ret u=>
  obtain⟨v,σ',H',J,rv,q⟩:=hs
  exact fin J rv q
 |next=>
  obtain⟨σ',H',J,q⟩:=hs
  exact fin (v:=V.aD) (u:=Value.none) J rfl q
 |brk=>
  obtain⟨_,_,_,q⟩:=hs
  exact zzk q
 |cont=>
  obtain⟨_,_,_,q⟩:=hs
  exact zzk q
section
variable{X:Cx}{x:Str}{p pos:Pos}{e:Expr}{es:List Expr}{t:TA}{id T:String}{r:List V->Hp->VK->Prop}
def PR(r:List V->Hp->VK->Prop)(t:TA):TE:=λσ H Q=>t σ H λvs H1=>r vs H1 Q
def dI(hc:cF X (.builtin id) r)(hg:Gl X x)(hm:X.mg x=none)(hv:bootBuiltins x=some (.builtin id))(ha:PA X (e::es) t)(hn:x≠"__name__":=by decide)(Pc:(x==("__debug__":Str))=false:=by decide)
 (he:starEach (e::es) X.env=(false,eval e X.env)::starEach es X.env:=by rfl) (hpl:(backTo pos (starEach es X.env)).any (·.1)=false:=by rfl):PE X (.Call (.Name x p) (e::es) [] pos) (PR r t):=by
 intro ae s σ H Q I h;refine wpAny_Call_Name_kw (fR I hg hm hv ?_ hn Pc);exact PyProof.Rows.callWith_builtin1 (cj (ha pos ae s σ H _ I h) λus s1 ⟨vs,H1,I1,r1,q1⟩=>hc ae s1 σ H1 vs us Q I1 r1 q1) he hpl
def d8(hc:cF X (.type T) r)(hg:Gl X x)(hm:X.mg x=none)(hv:bootBuiltins x=some (.type T))(ha:PA X (e::es) t)(hn:x≠"__name__":=by decide)(Pc:(x==("__debug__":Str))=false:=by decide)
 (he:starEach (e::es) X.env=(false,eval e X.env)::starEach es X.env:=by rfl) (hpl:(backTo pos (starEach es X.env)).any (·.1)=false:=by rfl):PE X (.Call (.Name x p) (e::es) [] pos) (PR r t):=by
 intro ae s σ H Q I h;refine wpAny_Call_Name_kw (fR I hg hm hv ?_ hn Pc);exact PyProof.Rows.callWith_type1 (cj (ha pos ae s σ H _ I h) λus s1 ⟨vs,H1,I1,r1,q1⟩=>hc ae s1 σ H1 vs us Q I1 r1 q1) he hpl
end
end L2
namespace HT
open PySem PyProof.Rows
def lexLt:List Int->List Int->Bool
 |[],[]=>false
 |[],_::_=>true
 |_::_,[]=>false
 |x::xs,y::ys=>if x=y then lexLt xs ys else decide (x<y)
theorem c8(x y:Int)(xs ys:List Int):lexLt (x::xs) (y::ys)=if x=y then lexLt xs ys else decide (x<y):=rfl
theorem dF:lexLt [] []=false:=rfl
theorem lZ(y:Int)(ys:List Int):lexLt [] (y::ys)=true:=rfl
theorem m8(x:Int)(xs:List Int):lexLt (x::xs) []=false:=rfl
def A8(A:Around)(s:Shared)(a:Int)(t:Tok)(c:Int)(u:Tok):∃e,SeqAt.EqAt A s (.int a t) (.int c u) e/\(e=true↔a=c):=
 ⟨(a==c),SeqAt.EqAt.int_int a t c u,by simp⟩
def Ct(A:Around)(s:Shared)(a:Int)(t:Tok)(c:Int)(u:Tok)(prog:Program)(w:World)(E:Value->Shared->Prop)(Q:Value->Shared->Prop)(h:Q (.bool (decide (a<c))) s):
 wpAny (model prog w) A (richCompare .Lt (.int a t) (.int c u)) Q E s:=
 (PyProof.Rows.lt_int h:wpAny (model prog w) A (compareOp .Lt (.int a t) (.int c u)) Q E s)
section
open PySem.SeqAt
open PySem.AutoSeq1 (wpAny_loadPart')
open PySem.MeetsSeq PySem.MeetsSeq2 PySem.MeetsSeq3
def ou(l b:Addr)(items fj:Array Value)(n n2:Nat)(dd RI:Option Addr)(sl MK:Array (Option Value))(ns ms:List Int)(hi:IntsAre items.toList ns)(hj:IntsAre fj.toList ms):
 Meets (Builtin.«tuple.__lt__» ⟨[.ref l,.ref b],[]⟩)
  (λ_ R s=>s.heap.get? l=some {cls:=.type "tuple",dict:=dd,data:=.seq items n,slots:=sl}/\s.heap.get? b=some {cls:=.type "tuple",dict:=RI,data:=.seq fj n2,slots:=MK}/\
   R (.ok (.ret (.bool (lexLt ns ms)))) s):=
 .of_wp λprog w A R s h=>by
  obtain⟨hp,g,d,tk,os⟩:=s;obtain⟨hl,hb,h⟩:=h
  have f2:=AutoSeq1.sub_tuple_tuple
  have z1:items.size=ns.length:=by rw [<-hi.length];simp
  have z2:fj.size=ms.length:=by rw [<-hj.length];simp
  wp_walk using wpAny_loadPart' hl,wpAny_loadPart' hb,wpAny_forIn_list _ (λrest b s'=>b.1=none/\s'=⟨hp,g,d,tk,os⟩/\∃(vs ws:List Value) (iu MP:List Int),rest=vs.zip ws/\
   IntsAre vs iu/\IntsAre ws MP/\iu.length+fj.size=MP.length+items.size/\R (.ok (.ret (.bool (lexLt iu MP)))) ⟨hp,g,d,tk,os⟩) _
  case turn=>
   rintro ⟨y,x⟩ rest b s' ⟨k7,rfl,vs,ws,iu,MP,hz,NF,hwi,hlen,hR⟩
   cases NF with
   |nil=>rw [List.zip_nil_left] at hz;cases hz
   |cons a t hvi'=>
    cases hwi with
    |nil=>rw [List.zip_nil_right] at hz;cases hz
    |cons c u hwi'=>
     rw [List.zip_cons_cons] at hz
     injection hz with hyx hrest
     injection hyx with hy hx
     subst hy hx;rw [c8] at hR;simp! [zzL] at hlen;obtain⟨e,he,hiff⟩:=A8 A.in1 ⟨hp,g,d,tk,os⟩ a t c u
     refine zzA (he prog w _ _ ?_);cases e with
     |true=>
      rw [if_pos (hiff.mp rfl)] at hR
      wp_walk
      exact⟨rfl,rfl,_,_,_,_,hrest,hvi',hwi',by omega,hR⟩
     |false=>
      rw [if_neg (λq=>absurd (hiff.mpr q) zzf)] at hR
      have WV:=Ct A.in1 ⟨hp,g,d,tk,os⟩ a t c u prog w
      wp_walk using WV
      exact⟨_,rfl,by simpa using hR⟩
  case fin=>
   rintro ⟨b1,b2⟩ s' ⟨k7,rfl,vs,ws,iu,MP,hz,NF,hwi,hlen,hR⟩
   simp only at k7;subst k7;have hv:lexLt iu MP=decide (items.size<fj.size):=by
    cases NF with
    |nil=>
     cases hwi with
     |nil=>
      simp! [List.length_nil] at hlen;rw [dF];exact(zz0 (by omega)).symm
     |cons c u hw=>
      simp! [List.length_nil,zzL] at hlen;rw [lZ];exact(zzh (by omega)).symm
    |cons a t hv=>
     cases hwi with
     |nil=>
      simp! [List.length_nil,zzL] at hlen;rw [m8];exact(zz0 (by omega)).symm
     |cons c u hw=>
      rw [List.zip_cons_cons] at hz;cases hz
   rw [hv] at hR
   wp_walk
   exact⟨_,rfl,by simpa [Builtin.Tuple.tupleCompareSizes] using hR⟩
  case h=>
   exact⟨rfl,rfl,items.toList,fj.toList,ns,ms,rfl,hi,hj,by omega,h⟩
end
section
variable{prog:Program}{w:World}{A:Around}{E:Value->Shared->Prop}{s:Shared}
def vM{l b:Addr}{items fj:Array Value}{ns ms:List Int}{Q:Value->Shared->Prop}(hl:IsTup s.heap l items)(hb:IsTup s.heap b fj)(hi:IntsAre items.toList ns)(hj:IntsAre fj.toList ms)
 (hu:A.units<cLine) (h:Q (.bool (lexLt ns ms)) s):wpAny (model prog w) A (compareOp .Lt (.ref l) (.ref b)) Q E s:=by
 obtain⟨⟨cls,dd,data,sl⟩,ho,hc,n,hd⟩:=id hl
 obtain⟨⟨cls2,RI,data2,MK⟩,LS,hc2,n2,hd2⟩:=id hb
 simp only at hc hd hc2 hd2;subst hc hd hc2 hd2;exact richCompare_meets_room (op:=.Lt) ⟨_,ho,rfl⟩ ⟨_,LS,rfl⟩ PySem.F.slot_tuple_lt PySem.F.entry_tuple_lt (PySem.F.args_tuple_lt_2 _ _) (ou l b items fj n n2 dd RI sl MK ns ms hi hj)
  ⟨ho,LS,show Value.bool (lexLt ns ms)≠Value.notImplemented/\Q (.bool (lexLt ns ms)) s from⟨(λx=>nomatch x),h⟩⟩ hu
def o5(n d:Nat):Option Int->Nat
 |none=>d
 |some v=>if v<0 then(v+(n:Int)).toNat else min v.toNat n
theorem A7(n d:Nat):o5 n d none=d:=rfl
def GO(n d k:Nat):o5 n d (some (k:Int))=min k n:=by
 show(if(k:Int)<0 then((k:Int)+(n:Int)).toNat else min (k:Int).toNat n)=min k n
 rw [if_neg (by omega),zz4]
end
end HT
namespace L2
open PySem PySem.Spec PyProof.Rows
abbrev TO:=St->Hp->(Option Int->Hp->Prop)->Prop
def PO(X:Cx)(e:Option Expr)(t:TO):Prop:=
 ∀(ae:List (Addr×Obj)) (s:Shared) (σ:St) (H:Hp) (Q:Option Int->Hp->Prop),Inv X ae σ H s->t σ H Q->
  wpAny (model X.prog X.w) X.A (evalPart e X.env) (λu s'=>∃o H',Inv X ae σ H' s'/\IsPart u o/\Q o H') X.xe s
def ER:TO:=λ_ H Q=>Q none H
def Ph(t:TE):TO:=λσ H Q=>t σ H λx H1=>∃i,x=.int i/\Q (some i) H1
def intsAre_of{ns:List Int}:∀{us:List Value},Vals (ns.map V.int) us->IntsAre us ns:=by
 induction ns with
 |nil=>intro us r;rw [List.map_nil] at r;cases r;exact .nil
 |cons n ns ih=>
  intro us r;rw [zzF] at r;cases r with
  |cons r1 r2=>
   obtain⟨t,e⟩:=r1
   subst e;exact .cons n t (ih r2)
section
variable{X:Cx}{e:Expr}{te:TE}{lo hi:Option Expr}{tl th:TO}{pos p2:Pos}
def F3:PO X none ER:=by
 intro ae s σ H Q I h;rw [evalPart_none];exact zzG ⟨none,H,I,.none,h⟩
def FG(h:PE X e te):PO X (some e) (Ph te):=by
 intro ae s σ H Q I hw;rw [evalPart_some];refine cj (h ae s σ H _ I hw) λu s1 ⟨x,H1,I1,r1,q1⟩=>?_
 obtain⟨i,rfl,q⟩:=q1
 obtain⟨t,rfl⟩:=r1
 exact⟨some i,H1,I1,.int i t,q⟩
def HD(X:Cx)(r:V->Option Int->Option Int->Hp->VK->Prop):Prop:=
 ∀(ae:List (Addr×Obj)) (s:Shared) (σ:St) (H:Hp) (x:V) (v vl vu:Value) (lo hi:Option Int) (sl:Addr) (Q:VK),Inv X ae σ H s->RelV x v->s.heap.IsSliceOf sl vl vu .none->IsPart vl lo->IsPart vu hi->r x lo hi H Q->
  ∃T id,typeLookup (.type T) "__getitem__"=pure (some (.builtin id))/\s.TypeIs v T/\wpAny (model X.prog X.w) X.A (getItem v (.ref sl)) (EP X ae σ Q) X.xe s
def V9(r:V->Option Int->Option Int->Hp->VK->Prop)(te:TE)(tl th:TO):TE:=λσ H Q=>te σ H λx H1=>tl σ H1 λl H2=>th σ H2 λu H3=>r x l u H3 Q
def AK{r:V->Option Int->Option Int->Hp->VK->Prop}(hr:HD X r)(he:PE X e te)(hl:PO X lo tl)(hu:PO X hi th):PE X (.Subscript e (.Slice lo hi none p2) pos) (V9 r te tl th):=by
 intro ae s σ H Q I h;refine Subscript_ (cj (he ae s σ H _ I h) λv s1 ⟨x,H1,I1,r1,q1⟩=>?_)
 refine wpAny_Slice (cj (hl ae s1 σ H1 _ I1 q1) λvl s2 ⟨l,H2,I2,pl,q2⟩=>cj (hu ae s2 σ H2 _ I2 q2) λvu s3 ⟨u,H3,I3,pu,q3⟩=>?_)
 rw [evalPart_none];refine zzG ?_;have I4:Inv X ae σ H3 {s3 with heap:=s3.heap.push {cls:=.type "slice",data:=.fields #[vl,vu,.none]}}:=I3.kept (t':=s3.toks) λb ob q=>zzB _ q
 obtain⟨T,id,hT,ht,hg⟩:=hr ae {s3 with heap:=s3.heap.push {cls:=.type "slice",data:=.fields #[vl,vu,.none]}} σ H3 x v vl vu l u (zz9 s3) Q I4 r1 (Heap.IsSliceOf.new ..) pl pu q3
 show wpAny (model X.prog X.w) X.A (subscriptTail e (.Slice lo hi none p2) v (.ref (zz9 s3))) (EP X ae σ Q) X.xe {s3 with heap:=s3.heap.push {cls:=.type "slice",data:=.fields #[vl,vu,.none]}}
 exact tail_any (ops:=[.ref (zz9 s3),v]) ht hT hg (by with_unfolding_all rfl)
def zF(xs:List V)(lo hi:Option Int):List V:=(xs.drop (HT.o5 xs.length 0 lo)).take (HT.o5 xs.length xs.length hi-HT.o5 xs.length 0 lo)
def ua(xs:List V)(lo hi:Option Int):(zF xs lo hi).length<=xs.length:=by
 unfold zF;rw [List.length_take,List.length_drop];omega
end
def HA(n:Nat)(i:Int):Option Nat:=if 0<=i then(if i<n then some i.toNat else none) else if -(n:Int)<=i then some (i+n).toNat else none
def rC{α:Type}(xs:List α)(i:Int):Option α:=(HA xs.length i).bind λj=>xs[j]?
def Hb{n:Nat}{i:Int}{j:Nat}(h:HA n i=some j):seqIndex? i n=some j/\j<n/\ -(n:Int)<=i/\i<n:=by
 unfold HA at h
 by_cases h0:0<=i
 ·rw [if_pos h0] at h
  by_cases h1:i<n
  ·rw [if_pos h1] at h;have e:i.toNat=j:=zzq h
   exact⟨by rw [seqIndex_of h0 h1,e],by omega,by omega,h1⟩
  ·rw [if_neg h1] at h;cases h
 ·rw [if_neg h0] at h
  by_cases h1: -(n:Int)<=i
  ·rw [if_pos h1] at h;have e:(i+n).toNat=j:=zzq h
   exact⟨by rw [seqIndex_neg (by omega) h1,e],by omega,h1,by omega⟩
  ·rw [if_neg h1] at h;cases h
def pZ{α:Type}{xs:List α}{i:Int}{v:α}(h:rC xs i=some v):∃j,seqIndex? i xs.length=some j/\xs[j]?=some v/\j<xs.length/\ -(xs.length:Int)<=i/\i<xs.length:=by
 unfold rC at h;cases e:HA xs.length i with
 |none=>rw [e] at h;cases h
 |some j=>
  rw [e] at h;obtain⟨h1,h2,h3,h4⟩:=Hb e
  exact⟨j,h1,h,h2,h3,h4⟩
def rF(b:Expr):Prop:=∀o i,subscripted b false o i=operate [o,i] (getItem o i)
def M9(X:Cx)(r:R2):Prop:=
 ∀(value slice:Expr) (ae:List (Addr×Obj)) (s:Shared) (σ:St) (H:Hp) (x y:V) (v u:Value) (Q:VK),Inv X ae σ H s->RelV x v->RelV y u->r x y H Q->
  subscripted slice false v u=operate [v,u] (getItem v u)->wpAny (model X.prog X.w) X.A (subscriptTail value slice v u) (EP X ae σ Q) X.xe s
def P0(X:Cx)(id:String)(r:V->List V->Hp->VK->Prop):Prop:=
 ∀(ae:List (Addr×Obj)) (s:Shared) (σ:St) (H:Hp) (x:V) (xs:List V) (v:Value) (us:List Value) (Q:VK),Inv X ae σ H s->RelV x v->Vals xs us->r x xs H Q->
  wpAny (model X.prog X.w) X.A (call (.builtin id) (v::us)) (EP X ae σ Q) X.xe s
section
variable{X:Cx}{a b:Expr}{ta tb:TE}{pos:Pos}
def Iw{r:R2}(hr:M9 X r)(ha:PE X a ta)(hb:PE X b tb)(hs:rF b):PE X (.Subscript a b pos) (Ni r ta tb):=by
 intro ae s σ H Q I h;exact Subscript_ (Mw ha hb I h λv u s2 x y H2 I2 rx ry q=>hr a b ae s2 σ H2 x y v u Q I2 rx ry q (hs _ _))
noncomputable def RM(K:zz8):R2:=λx y H Q=>∃p xs i v,x=.ref p/\y=.int i/\gM K H p xs/\rC xs i=some v/\Q v H
noncomputable def Oa(K:zz8):R2:=λx y H Q=>∃p xs i v,x=.ref p/\y=.int i/\fw K H p xs/\rC xs i=some v/\Q v H
noncomputable def Rn:R2:=λx y H Q=>∃z i c,x=.str z/\y=.int i/\z.length<=sizeLine/\rC z.cps.toList i=some c/\Q (.str ⟨#[c]⟩) H
def E3:M9 X (RM X.K):=by
 intro value slice ae s σ H x y v u Q I rx ry h hs;obtain⟨p,xs,i,z,rfl,rfl,hq,he,q⟩:=h
 cases rx;obtain⟨t,rfl⟩:=ry
 obtain⟨ay,r,pl,hz⟩:=I.list hq
 obtain⟨j,h1,h2,h3,h4,h5⟩:=pZ he
 obtain⟨w,ew,iC⟩:=r.get h2
 have hl:=r.length
 have hn:=mz
 have fin:EP X ae σ Q w s:=⟨z,H,I,iC,q⟩
 by_cases h0:0<=i
 ·have hj:i.toNat=j:=by
   rw [seqIndex_of h0 h5] at h1;exact zzq h1
  exact item_listR pl.isList h0 (by omega) (by rw [hj];simpa using ew) fin hs
 ·have hj:(i+(ay.toArray.size:Int)).toNat=j:=by
   rw [seqIndex_neg (by omega) h4] at h1;rw [zzC,<-hl];exact zzq h1
  exact subscriptTail_builtinR (x:=w) pl.isList.typeIs slot_list_getitem.lookup
   (wpAny_getItem_list_neg (Q:=λr s'=>r=w/\EP X ae σ Q r s') pl.isList (by omega) (by rw [zzC]<;>omega) (by omega) (by rw [hj];simpa using ew) ⟨rfl,fin⟩) hs
def CG:M9 X (Oa X.K):=by
 intro value slice ae s σ H x y v u Q I rx ry h hs;obtain⟨p,xs,i,z,rfl,rfl,hq,he,q⟩:=h
 cases rx;obtain⟨t,rfl⟩:=ry
 obtain⟨ay,r,pl,hz⟩:=I.tuple hq
 obtain⟨j,h1,h2,h3,h4,h5⟩:=pZ he
 obtain⟨w,ew,iC⟩:=r.get h2
 have hl:=r.length
 have hn:=mz
 have fin:EP X ae σ Q w s:=⟨z,H,I,iC,q⟩
 exact subscriptTail_builtinR (x:=w) pl.typeIs slot_tuple_getitem.lookup
  (getItem_tuple (j:=j) (Q:=λr s'=>r=w/\EP X ae σ Q r s') pl (by omega) (by omega) (by rw [zzC,<-hl];exact h1) (by simpa using ew) ⟨rfl,fin⟩) hs
def LQ:M9 X Rn:=by
 intro value slice ae s σ H x y v u Q I rx ry h hs;obtain⟨z,i,c,rfl,rfl,hz,he,q⟩:=h
 obtain⟨t,rfl⟩:=rx
 obtain⟨t',rfl⟩:=ry
 obtain⟨j,h1,h2,h3,h4,h5⟩:=pZ he
 have hl:z.cps.toList.length=z.length:=by simp [Str.length]
 rw [hl] at h1 h4 h5;have hn:=mz
 exact tail_any (typeIs_str s z t) slot_str_getitem.lookup (getItem_str (c:=c) (by
  have e1:decide (i< -(2^63:Int))=false:=zz0 (by omega)
  have e2:decide (i>=2^63)=false:=zz0 (by omega)
  rw [e1,e2,Bool.or_false]) (by rw [h1];simpa using h2) ⟨.str ⟨#[c]⟩,H,I.tok _,⟨_,rfl⟩,q⟩) hs
def qu(lo hi:Option Int)(n:Nat):(sliceBounds lo hi none n).1=((HT.o5 n 0 lo:Nat):Int)/\(sliceBounds lo hi none n).2.1=((HT.o5 n n hi:Nat):Int)/\(sliceBounds lo hi none n).2.2=1:=by
 refine⟨?_,?_,rfl⟩
 ·cases lo with
  |none=>simp [sliceBounds,HT.o5]
  |some i=>
   simp! [sliceBounds,HT.o5,Option.getD_none,show(1:Int)>0 by decide,if_true]
   by_cases h:i<0
   ·simp! [h,if_true]<;>omega
   ·simp! [h,if_false]<;>omega
 ·cases hi with
  |none=>simp [sliceBounds,HT.o5]
  |some i=>
   simp! [sliceBounds,HT.o5,Option.getD_none,show(1:Int)>0 by decide,if_true]
   by_cases h:i<0
   ·simp! [h,if_true]<;>omega
   ·simp! [h,if_false]<;>omega
def oq(ay:List Value)(lo hi:Option Int):slicePick ay.toArray lo hi none=((ay.drop (HT.o5 ay.length 0 lo)).take (HT.o5 ay.length ay.length hi-HT.o5 ay.length 0 lo)).toArray:=by
 obtain⟨h1,h2,h3⟩:=qu lo hi ay.toArray.size
 unfold slicePick;rw [h1,h2,h3];simp! [sliceRange_one,pick_run,zzC]<;>rfl
def QG(K:zz8):V->Option Int->Option Int->Hp->VK->Prop:=λx lo hi H Q=>∃a xs,x=.ref a/\gM K H a xs/\∀p,H p=none->Q (.ref p) (upd H p (.lst (zF xs lo hi)))
def GJ:HD X (QG X.K):=by
 intro ae s σ H x v vl vu lo hi sl Q I rx hs pl pu h;obtain⟨a,xs,rfl,hx,q⟩:=h
 cases rx;obtain⟨ay,r,ht,hz⟩:=I.list hx
 have hlen:=r.length
 refine⟨"list",_,slot_list_getitem.lookup,ht.isList.typeIs,?_⟩;refine wpAny_getItem_list_slice ht.isList hs pl pu .none (by simp) ?_ (by rw [zzC]<;>omega);rw [oq,<-hlen];refine⟨.ref (zz9 s),_,I.laid (t':=s.toks) (o:=.lst (zF xs lo hi)) (λb ob q=>zzB _ q) (zzE _) ?_,rfl,q _ (I.aJ.fresh (zzE _))⟩;exact⟨zzU (ua xs lo hi) hz,_,0,(r.drop (HT.o5 xs.length 0 lo)).take (HT.o5 xs.length xs.length hi-HT.o5 xs.length 0 lo),zzX _ rfl⟩
def jy:cF X (.builtin "len") (λxs H Q=>∃p ys,xs=[.ref p]/\(gM X.K H p ys\/fw X.K H p ys)/\Q (.int ys.length) H):=by
 intro ae s σ H xs us Q I r h;obtain⟨p,ys,rfl,hq,q⟩:=h
 obtain⟨u,rfl,rx⟩:=vals1 r
 cases rx;have hn:=mz
 rcases hq with hq|hq
 ·obtain⟨ay,r',pl,hz⟩:=I.list hq
  have hlen:=r'.length
  exact Calls.call_len_list pl.isList (by simp! [zzC]<;>omega) ⟨.int ys.length,H,I.tok _,⟨s.toks+1,by rw [zzC,hlen]⟩,q⟩
 ·obtain⟨ay,r',pl,hz⟩:=I.tuple hq
  have hlen:=r'.length
  exact len_tuple pl (by simp! [zzC]<;>omega) ⟨.int ys.length,H,I.tok _,⟨s.toks+1,by rw [zzC,hlen]⟩,q⟩
def qC:cF X (.builtin "len") (λxs H Q=>∃z,xs=[.str z]/\z.length<=sizeLine/\Q (.int z.length) H):=by
 intro ae s σ H xs us Q I r h;obtain⟨z,rfl,hz,q⟩:=h
 obtain⟨u,rfl,t,rfl⟩:=vals1 r
 have hn:=mz
 exact len_str (by omega) ⟨.int z.length,H,I.tok _,⟨_,rfl⟩,q⟩
def oh:cF X (.type "tuple") (λxs H Q=>∃p ys,xs=[.ref p]/\((gM X.K H p ys/\∀l,H l=none->Q (.ref l) (upd H l (.tup ys)))\/(fw X.K H p ys/\Q (.ref p) H))):=by
 intro ae s σ H xs us Q I r h;obtain⟨p,ys,rfl,h⟩:=h
 obtain⟨u,rfl,rx⟩:=vals1 r
 cases rx;rcases h with⟨hq,q⟩|⟨hq,q⟩
 ·obtain⟨ay,r',pl,hz⟩:=I.list hq
  have hlen:=r'.length
  refine call_tuple_list pl.isList (λh' kp=>?_) (by simp! [zzC]<;>omega);have I1:Inv X ae σ H {s with heap:=h'}:=I.kept (t':=s.toks) kp
  have I2:Inv X ae σ (upd H h'.objs.size (.tup ys)) {s with heap:=h'.push {cls:=.type "tuple",data:=.seq ay.toArray}}:=
   I1.laid (t':=s.toks) (λb o e=>zzB _ e) (zzE _) (show bW X.prog X.w _ _ _ (.tup ys) from⟨hz,ay,r',IsTup.new _ _⟩)
  exact⟨.ref h'.objs.size,_,I2,rfl,q _ (I1.aJ.fresh (zzE _))⟩
 ·obtain⟨ay,r',pl,hz⟩:=I.tuple hq
  exact call_tuple_same pl ⟨.ref p,H,I,rfl,q⟩
def Rv(K:zz8)(T:String)(x:V)(H:Hp):Prop:=match x with
 |.str _=>T="str"
 |.int _=>T="int"
 |.ref p=>(T="list"/\∃xs,gM K H p xs)\/(T="tuple"/\∃o,K.lookup p=some o/\o.cls=.type "tuple"/\o.dict=none)\/
  (T="dict"/\((∃aw,H p=some (.dK aw))\/∃aw,H p=some (.dT aw)))\/(T="set"/\∃S n,H p=some (.set S n))
 |_=>False
def LV{ae:List (Addr×Obj)}{σ:St}{H:Hp}{s:Shared}{T:String}{x:V}{v:Value}(I:Inv X ae σ H s)(r:RelV x v)(ty:Rv X.K T x H):
 s.TypeIs v T/\∀a,v=.ref a->∃ob,s.heap.get? a=some ob/\ob.dict=none:=by
 cases x with
 |str z=>
  obtain⟨t,rfl⟩:=r
  cases(show T="str" from ty);exact⟨typeIs_str s z t,λ_ e=>nomatch e⟩
 |int i=>
  obtain⟨t,rfl⟩:=r
  cases(show T="int" from ty);exact⟨typeIs_int s i t,λ_ e=>nomatch e⟩
 |ref p=>
  cases r;rcases ty with⟨rfl,xs,hq⟩|⟨rfl,o,hk,hc,hd⟩|⟨rfl,hk⟩|⟨rfl,S,n,hk⟩
  ·obtain⟨ay,_,pl,_⟩:=I.list hq
   refine⟨pl.isList.typeIs,λa e=>?_⟩
   cases e;obtain⟨o,n,e,c,hd,_⟩:=pl
   exact⟨o,e,hd⟩
  ·refine⟨⟨o,I.pP p o hk,hc⟩,λa e=>?_⟩
   cases e;exact⟨o,I.pP _ o hk,hd⟩
  ·have z:∃o,s.heap.get? p=some o/\o.ExactDict:=by
    rcases hk with⟨aw,hk⟩|⟨aw,hk⟩
    ·obtain⟨_,_,_,_,o,_,_,e,ex,_⟩:=I.aJ p _ hk
     exact⟨o,e,ex⟩
    ·obtain⟨_,_,_,_,o,_,_,e,ex,_⟩:=I.aJ p _ hk
     exact⟨o,e,ex⟩
   obtain⟨o,e,ex⟩:=z
   refine⟨⟨o,e,ex.1⟩,λa e2=>?_⟩
   cases e2;exact⟨o,e,ex.2.1⟩
  ·obtain⟨o,_,_,_,e,ex,_⟩:=I.aJ p _ hk
   refine⟨⟨o,e,ex.1⟩,λa e2=>?_⟩
   cases e2;exact⟨o,e,ex.2.1⟩
 |_=>exact zzk ty
noncomputable def UO(K:zz8)(T:String)(r:V->List V->Hp->VK->Prop)(to:TE)(t:TA):TE:=λσ H Q=>to σ H λx H1=>Rv K T x H1/\t σ H1 λxs H2=>r x xs H2 Q
variable{o e:Expr}{es:List Expr}{to:TE}{t:TA}{name:Str}{apos bL:Pos}{T id:String}{r:V->List V->Hp->VK->Prop}
theorem xg(pa:PlainAttrs T)(slot:Slot T name id)(WM:typeOf (.builtin id)=pure (.type "method_descriptor"))(hm:P0 X id r)(ho:PE X o to)(ha:PA X (e::es) t)
 (eh:attributeBase o name X.env (eval o X.env)=eval o X.env:=by rfl)
 (ES:((backTo bL (starEach (e::es) X.env)).all (λx=>!x.1)&&(backToKw bL (keywordEach [] X.env)).all (λx=>x.1.isSome)
  &&decide ((e::es).length+([]:List Keyword).length+(if([]:List Keyword).isEmpty then 0 else 1)<30))=true:=by rfl)
 (gj:(apos.endLine==bL.line)=true:=by rfl) (hs:starEach (e::es) X.env=(false,eval e X.env)::starEach es X.env:=by rfl) (km:(backTo bL (starEach es X.env)).any (·.1)=false:=by rfl):
 PE X (.Call (.Attribute o name apos) (e::es) [] bL) (UO X.K T r to t):=by
 intro ae s σ H Q I h;refine wpAny_Call_method_late eh ES gj rfl (cj (ho ae s σ H _ I h) λv s1 ⟨x,H1,I1,r1,ty,q1⟩=>?_)
 obtain⟨h1,h2⟩:=LV I1 r1 ty
 refine⟨T,id,pa,slot,WM,h1,h2,?_⟩;have hA:=ha bL ae s1 σ H1 _ I1 q1
 rw [hs] at hA⊢;refine Calls.callWith_builtin (by show(false||(backTo bL (starEach es X.env)).any (·.1))=false;rw [km]<;>rfl) (Calls.evalArgs_plain ?_);exact cj hA λus s2 ⟨vs,H2,I2,r2,q2⟩=>hm ae s2 σ H2 x vs v us Q I2 r1 r2 q2
end
def Wq(X:Cx)(id:String)(r:V->List V->Hp->VK->Prop):Prop:=
 ∀(ae:List (Addr×Obj)) (s:Shared) (σ:St) (H:Hp) (x:V) (xs:List V) (v:Value) (us:List Value) (Q:VK),Inv X ae σ H s->RelV x v->Vals xs us->r x xs H Q->
  wpAny (model X.prog X.w) X.A (call (.builtin id) (v::us)) (EP X ae σ Q) X.xe s
theorem Vals.one:∀{x:V} {us:List Value},Vals [x] us->∃u,us=[u]/\RelV x u
 |_,_,.cons r .nil=>⟨_,rfl,r⟩
def Vals.two{x y:V}{us:List Value}(h:Vals [x,y] us):∃u v,us=[u,v]/\RelV x u/\RelV y v:=by
 cases h with
 |cons r q=>
  cases q with
  |cons q n=>cases n;exact⟨_,_,rfl,r,q⟩
section
variable{X:Cx}{ae:List (Addr×Obj)}{σ:St}{H:Hp}{s:Shared}{l:Addr}{xs ys:List V}
def Inv.Pe{ay its':List Value}{n:Nat}{f:Array Value->Array Value}{t':Nat}(I:Inv X ae σ H s)(hH:H l=some (.lst xs))
 (e:s.heap.get? l=some {cls:=.type "list",data:=.seq ay.toArray n}) (hf:f ay.toArray=its'.toArray) (hv:Vals ys its') (hz:ys.length<=sizeLine):
 Inv X ae σ (upd H l (.lst ys)) {s with heap:=s.heap.update l (Obj.mapSeq f),toks:=t'}:=by
 have q:=PySem.IsL.update e f
 rw [hf] at q;refine I.write (x:=l) (e:=l) (by rw [hH];exact trivial) (.inl rfl) (λb' u hb hu=>(Heap.get?_update_other s.heap (Obj.mapSeq f) (Ne.symm hb)).trans hu) ⟨_,q⟩ ?_
 exact⟨hz,its',_,hv,q⟩
def Inv.Of(I:Inv X ae σ H s)(hH:H l=some (.lst xs)):xs.length<=sizeLine/\∃(ay:List Value) (n:Nat),Vals xs ay/\xs.length=ay.length/\s.heap.get? l=some {cls:=.type "list",data:=.seq ay.toArray n}:=by
 obtain⟨z,ay,n,r,e⟩:=I.aJ l _ hH
 exact⟨z,ay,n,r,r.length,e⟩
def Dz{n:Nat}(h:n<=sizeLine):Builtin.List.listTooLong n=false:=by
 unfold Builtin.List.listTooLong;exact zz0 (by omega)
def Eu:V->List V->Hp->VK->Prop:=λx vs H Q=>∃l xs y,x=.ref l/\vs=[y]/\H l=some (.lst xs)/\xs.length<sizeLine/\Q .aD (upd H l (.lst (xs++[y])))
def zC:Wq X "list.append" Eu:=by
 intro ae s σ H x vs v us Q I rx rv h;obtain⟨l,xs,y,rfl,rfl,hH,hz,q⟩:=h
 cases rx;obtain⟨u,rfl,ru⟩:=rv.one
 obtain⟨z,ay,n,r,hl,e⟩:=I.Of hH
 refine call_meets F.slot_list_append ⟨_,e,rfl⟩ F.entry_list_append (F.args_list_append_2 _ _) (PySem.list_append l ay.toArray n u (by rw [zzC];omega)) ⟨e,?_⟩;refine⟨.aD,_,I.Pe (its':=ay++[u]) hH e (by simp) (r.append (.cons ru .nil)) ?_,rfl,q⟩;rw [zzM,List.length_singleton];omega
end
end L2
namespace Att
open PySem PySem.W PySem.Calls PyProof.Rows
def kP{P:Params}{h:Heap}:∀(ns:List Int) (vs:List Value),WellAll P h vs (ns.map WData.int)->IntsAre vs ns:=by
 intro ns
 induction ns with
 |nil=>
  intro vs w;rw [List.map_nil] at w;cases w;exact .nil
 |cons n ns ih=>
  intro vs w;rw [zzF] at w;cases w with
  |cons a b=>
   cases a;exact .cons _ _ (ih _ b)
def yL{l:OpenLaw}{n:Nat}(hn:l.most=some n){P:Params}{h:Heap}{args:List WData}{vals:List Value}
 (Gj:l.row.toRowW.claim.pre args=true) (SI:WellAll P h vals args):
 ∃a vs ns,vals=[Value.ref a]/\args=[WData.list (ns.map WData.int)]/\h.get? a=some {cls:=.type "list",data:=.seq vs.toArray}/\IntsAre vs ns/\ns.length<=n:=by
 have VC:WShape.hasAll [] args [.list .int]=true:=(pre_splitW Gj).1
 have hc:l.pre.holds [] {args:=args}=true:=(pre_splitW Gj).2
 obtain⟨d,r,rfl,h1,h2⟩:=hasAllW_cons VC
 obtain rfl:=hasAllW_nil h2
 obtain⟨xs,rfl,h3⟩:=hasW_list h1
 obtain⟨ns,rfl⟩:=items_int h3
 have hlen:ns.length<=n:=by
  unfold OpenLaw.pre at hc;have h4:(WTm.not (.lt (.lit (.int (n:Int))) (.len (.arg 0)))).holds [] {args:=[.list (ns.map .int)]}=true:=by
   have h4:=(holds_andW hc).1
   rw [hn] at h4;exact h4
  have h5:=condW_of h4 (w_not (w_lt w_lit (w_len_list (w_arg rfl))))
  rw [zzl] at h5;refine Nat.le_of_not_lt λq=>?_
  have q':(n:Int)<((ns.length:Nat):Int):=by omega
  first
   |(rw [zzh q'] at h5;exact absurd h5 (by decide))
   |(simp at h5;omega)
 cases SI with
 |cons w1 w2=>
  cases w2;cases w1 with
  |list ho hall=>exact⟨_,_,ns,rfl,rfl,ho,kP ns _ hall,hlen⟩
theorem yr(l:OpenLaw)(args:List WData):l.row.toRowW.claim.post args (.bool true) args=true:=
 postW_of (r:=l.row.toRowW) (X:=(true==true))
  (show WShape.has [] (.bool true) .bool=true by first|rfl|decide|simp [WShape.has,WShape.arms,WShape.armsAll])
  (show(WTm.eq .res (.lit (.bool true))).value [] {args:=args,res:=some (.bool true),after:=args}=some (.bool (true==true)) from w_eq_bool (w_res rfl) w_lit) rfl
def tO{l:OpenLaw}{n:Nat}{q:Program}{loose:List Str}{XP:(Str->Option Value)->Heap->Prop}{YP:World->Heap->Prop}{d:DefRec}
 (hn:l.most=some n) (NJ:d.params.defaults=[])
 (call:∀(w:World) (s₀ s₁:Shared) (mg mb:Str->Option Value) (fa:Addr) (o:Obj) (pm cd doc:Value) (a:Addr) (vs:List Value) (ns:List Int),
  Ground q loose [] XP w s₀ mg mb s₁.heap->YP w s₁.heap->
  s₁.heap.get? fa=some o->o.data=.func (docDef d.name d.params d.body d.scope pm cd doc)->s₁.heap.CodeRec cd d.name->mg d.name=some (.ref fa)->
  s₁.heap.get? a=some {cls:=.type "list",data:=.seq vs.toArray}->IntsAre vs ns->ns.length<=n->s₁.gens=#[]->
  codeAny (model l.prog w) callerA (.call (.ref fa) ⟨[.ref a],[]⟩) (λr s'=>r=.ok (.ret (.bool true))/\OldK s₁.heap s'.heap/\s'.os=s₁.os/\AllBare s'.gens) s₁):
 WalkO q loose XP YP l.row.toRowW d [] (λf vs=>PySem.call f vs):=by
 intro w s₀ s₁ mg mb G Y fa o pm cd doc dV kV ho hd nq hD hmg hg args vals as Gj hlay hrd SI RG;obtain rfl:dV=.none:=Dflts.none hD NJ
 obtain rfl:kV=.none:=Dflts.noKw hD
 obtain⟨a,vs,ns,rfl,rfl,hobj,hints,hlen⟩:=yL hn Gj SI
 refine enter_call (codeAny_mono (call w s₀ s₁ mg mb fa o pm cd doc a vs ns G Y ho (fd_plain hd) nq hmg hobj hints hlen hg) λr s' hq=>?_)
 obtain⟨rfl,h2,h3,h4⟩:=hq
 exact⟨.inl ⟨.bool true,.bool true,[],rfl,λ_=>rfl,.bool true,yr l _,λ_=>⟨List.Pairwise.nil,λ_ hm=>(nomatch hm)⟩⟩,h2,h3,h4⟩
section
def ledger(h:Heap)(L d:Addr):List (Addr×Obj):=(List.range h.objs.size).filterMap λa=>if a=L\/a=d then none else(h.get? a).map λo=>(a,o)
end
end Att
namespace L2
open PySem PySem.Spec PyProof.Rows
theorem pd:∀{vs:List Value} {ns:List Int},IntsAre vs ns->Vals (ns.map V.int) vs
 |_,_,.nil=>.nil
 |_,_,.cons n t h=>.cons ⟨t,rfl⟩ (pd h)
noncomputable def dv(s:Stmt):Arguments:=match s with
 |.FunctionDef _ a _ _ _ _ _ _ _ _=>a
 |_=>{posonlyargs:=[],args:=[],vararg:=none,kwonlyargs:=[],kw_defaults:=[],kwarg:=none,defaults:=[]}
def cV(s:Stmt):List Stmt:=match s with
 |.FunctionDef _ _ b _ _ _ _ _ _ _=>b
 |_=>[]
def aY(s:Stmt):Scope:=match s with
 |.FunctionDef _ _ _ _ _ _ sc _ _ _=>sc
 |_=>{kind:=.function,names:=[],isGenerator:=false,isCoroutine:=false}
structure P4(K:zz8)(x qual:Str)(st:Stmt)(f:Addr)(fd:FuncData):Prop where
 ex:∃(oc:Value) (od:Option Addr) (kV doc pm:Value) (an:Option Addr) (gb ct:Value) (vo:Array (Option Value)),
  fd=PySem.W.fnOf x qual (dv st) (cV st) (aY st) .none kV doc pm an gb ct/\K.lookup f=some ⟨oc,od,.func fd,vo⟩/\PySem.W.codeIn K gb qual=true
 kp:PySem.W.keepIn K (.ref f)=true
section
variable{K:zz8}
def P4.binds{x qual:Str}{st:Stmt}{f:Addr}{fd:FuncData}{ps:List Str}(F:P4 K x qual st f fd)
 (h:∀(kV doc pm:Value) (an:Option Addr) (gb ct:Value) (us:List Value),us.length=ps.length->bindArgs (PySem.W.fnOf x qual (dv st) (cV st) (aY st) .none kV doc pm an gb ct) ⟨us,[]⟩=pure (ps.zip us)):Binds K fd ps []:=by
 obtain⟨oc,od,kV,doc,pm,an,gb,ct,vo,rfl,lk,nq⟩:=F.ex
 exact .all (h kV doc pm an gb ct)
def AX{x qual:Str}{st:Stmt}{f:Addr}{oc:Value}{od an:Option Addr}{vo:Array (Option Value)}{kV doc pm gb ct:Value}(l:K.lookup f=some ⟨oc,od,.func (PySem.W.fnOf x qual (dv st) (cV st) (aY st) .none kV doc pm an gb ct),vo⟩)
 (c:PySem.W.codeIn K gb qual=true) (k:PySem.W.keepIn K (.ref f)=true):P4 K x qual st f (PySem.W.fnOf x qual (dv st) (cV st) (aY st) .none kV doc pm an gb ct):=⟨⟨oc,od,kV,doc,pm,an,gb,ct,vo,rfl,l,c⟩,k⟩
variable{X:Cx}
theorem pv(i:Nat){x:Str}{pos:Pos}(hN:X.N[i]?=some x:=by rfl)(hv:N0 X.env.scope x:=by first|exact Or.inl rfl|exact Or.inr (Or.inl rfl)|exact Or.inr (Or.inr rfl))(hd:(x==("__debug__":Str))=false:=by decide)
 (nq:(x==("__classdict__":Str))=false:=by decide):PE X (.Name x pos) (zE i):=eZ hN hv hd nq
end
def Q6{A B:Prop}(h:B):if false=true then A else B:=by
 rw [if_neg zzf];exact h
def QT{A B:Prop}(h:A):if true=true then A else B:=by
 rw [if_pos rfl];exact h
def aA(H H':Hp):Prop:=∀b o,H b=some o->H' b=some o
def aA.refl(H:Hp):aA H H:=λ_ _ h=>h
def aA.trans{H H1 H2:Hp}(a:aA H H1)(b:aA H1 H2):aA H H2:=λc o h=>b c o (a c o h)
def aA.free{H H':Hp}(e:aA H H'){l:Addr}(h:H' l=Option.none):H l=Option.none:=by
 cases q:H l with
 |none=>rfl
 |some o=>
  rw [e l o q] at h;cases h
def aA.seq{K:zz8}{H H':Hp}{a:Addr}{xs:List V}(e:aA H H')(h:gM K H a xs):gM K H' a xs:=by
 rcases h with(h|⟨o,h⟩)|h
 ·exact .inl (.inl (e _ _ h))
 ·exact .inl (.inr ⟨o,e _ _ h⟩)
 ·exact .inr h
end L2
set_option maxHeartbeats 8000000
namespace L2
open PySem PySem.Spec PyProof.Rows
open PySem.W (hideAll hideAll_get of_hideAll funFrames_hide)
structure DT(P:Program)(w:World)(outer:List Env)(H:Hp)(s:Shared)(E:XK)(a C t:Addr)(vs:List Value)(H':Hp)(B:Heap)(s':Shared):Prop where
 os:s'.os=s.os
 bare:AllBare s'.gens
 aJ:eg P w H' B
 zq:Heap.FlyingW B outer a (.ref C) (.ref t) s'.heap
 tn:B.get? t=none
 tup:s'.heap.TupAt t vs
 dU:∀b o,s.heap.get? b=some o->H b=none->b∉d9 outer->B.get? b=some o
 cX:∀b o,s.heap.get? b=some o->b∉d9 outer->∃o',B.get? b=some o'
 un:Un (d9 outer) [] H H' s.heap s'.heap
 ends:E (.ref C) (some a) H'
def dW(P:Program)(w:World):Ao:=λouter H s E e s'=>∃a C t vs H' B,e=.ref a/\DT P w outer H s E a C t vs H' B s'
section
variable{P:Program}{w:World}{K:zz8}{mg:Str->Option Value}{base:Heap}{N:List Str}{qual:Str}{scope:Scope}{f:Addr}{cd:Value}{A:Around}{outer:List Env}{s0:Shared}{H0:Hp}{E:XK}
def j8{X:Cx}{ae:List (Addr×Obj)}{σ:St}{H:Hp}{s:Shared}(I:Inv X ae σ H s){b:Addr}{o:Obj}(hl:X.env.locals=X.s₀.heap.objs.size)(q:X.s₀.heap.get? b=some o)(hb:b∉X.fs):b∉d9 X.stack:=λz=>by
 rcases zzm.mp (I.iY b z) with e|e
 ·rw [hl] at e;exact absurd (zzO q) (by rw [e];exact Nat.lt_irrefl _)
 ·exact hb e
def Px:Passes (dW P w) (dQ (dW P w) P w K mg base N qual scope f cd A outer s0 H0 E) E:=by
 rintro ae σ H s e s' I ⟨a,C,t,vs,H',B,rfl,F⟩
 have nx:∀b:Addr,b∉(dQ (dW P w) P w K mg base N qual scope f cd A outer s0 H0 E).ex:=λb z=>nomatch (show b∈([]:List Addr) from z)
 have dU:∀b o,s0.heap.get? b=some o->H0 b=none->b∉d9 outer->B.get? b=some o:=λb o q n hb=>
  F.dU b o (I.base.keep b o q n hb (nx b)) (I.base.free b o q n (nx b)) (j8 I rfl q hb)
 have cX:∀b o,s0.heap.get? b=some o->b∉d9 outer->∃o',B.get? b=some o':=λb o q hb=>by
  obtain⟨o1,q1⟩:=I.base.there b o q (nx b)
  exact F.cX b o1 q1 (j8 I rfl q hb)
 refine wpAny_leaves_onW I.ok.frames rfl F.zq λh' x1 x2=>⟨a,C,t,vs,H',B,rfl,?_⟩
 have slot:∀b o,s0.heap.get? b=some o->H0 b=none->b∈d9 outer->∃sl,h'.get? b=some {o with slots:=sl}:=λb o q n hb=>by
  obtain⟨sl,q1⟩:=I.base.slot b o q n hb (nx b)
  obtain⟨MK,q2⟩:=F.un.any q1 (I.base.free b o q n (nx b)) (λz=>nomatch z)
  obtain⟨_,o',q3,hd⟩:=F.zq.2.2.1.mem (b:=b) (zz1.mpr (let⟨v,h1,h2⟩:=zz1.mp hb;⟨v,.tail _ h1,h2⟩))
  rw [q2] at q3;cases q3;obtain⟨sl3,q4⟩:=x2 b _ q2 hd
  exact⟨sl3,q4⟩
 refine⟨F.os.trans I.os,F.bare,F.aJ,x1,F.tn,F.tup.of_slots x2,dU,cX,⟨λb o q n hb _=>x1.1 _ _ (dU b o q n hb),λb o q n hb _=>slot b o q n hb,λb o q n _=>?_,λb o q _=>?_,λb xs q=>F.un.gy _ _ (I.base.gy _ _ q),λb o u q=>F.un.fg _ _ _ (I.base.fg _ _ _ q),λb ps q=>?_⟩,F.ends⟩
 ·obtain⟨sl,q1⟩:=I.base.any q n (nx b)
  exact F.un.free b _ q1 (I.base.free b o q n (nx b)) (λz=>nomatch z)
 ·by_cases hb:b∈d9 outer
  ·obtain⟨sl,q1⟩:=slot b o q (I.ok.vz b hb) hb
   exact⟨_,q1⟩
  ·obtain⟨o',q1⟩:=cX b o q hb
   exact⟨o',x1.1 _ _ q1⟩
 ·obtain⟨m1,q1⟩:=I.base.fN b ps q
  obtain⟨m2,q2⟩:=F.un.fN b _ q1
  exact⟨m1++m2,by rw [<-Array.append_assoc];exact q2⟩
def JL{ae:List (Addr×Obj)}{σ:St}{H:Hp}{s:Shared}{h1:Heap}{e C:Addr}{us:List Value}(I:Inv (dQ (dW P w) P w K mg base N qual scope f cd A outer s0 H0 E) ae σ H s)
 (hx:Heap.MadeExcOf s.heap h1 e (.ref C) us) (hE:E (.ref C) (some e) H):(dQ (dW P w) P w K mg base N qual scope f cd A outer s0 H0 E).xe (.ref e) {s with heap:=h1}:=by
 have nx:∀b:Addr,b∉(dQ (dW P w) P w K mg base N qual scope f cd A outer s0 H0 E).ex:=λb z=>nomatch (show b∈([]:List Addr) from z)
 have Qu:∀env∈(dQ (dW P w) P w K mg base N qual scope f cd A outer s0 H0 E).stack,∀b,env.frame=some b->b∈d9 (dQ (dW P w) P w K mg base N qual scope f cd A outer s0 H0 E).stack:=λenv he b hb=>zz1.mpr ⟨env,he,hb⟩
 refine wpAny_leaves_madeW (h:=s.heap) I.ok.frames rfl (λb o q=>of_hideAll _ q) (funFrames_hide I.stack Qu) hx λh' t x1 x2 x3 x4=>⟨e,C,t,us,H,hideAll s.heap (d9 (dQ (dW P w) P w K mg base N qual scope f cd A outer s0 H0 E).stack),rfl,?_⟩
 have dU:∀b o,s0.heap.get? b=some o->H0 b=none->b∉d9 outer->(hideAll s.heap (d9 (dQ (dW P w) P w K mg base N qual scope f cd A outer s0 H0 E).stack)).get? b=some o:=λb o q n hb=>
  hideAll_get _ (I.base.keep b o q n hb (nx b)) (j8 I rfl q hb)
 have cX:∀b o,s0.heap.get? b=some o->b∉d9 outer->∃o',(hideAll s.heap (d9 (dQ (dW P w) P w K mg base N qual scope f cd A outer s0 H0 E).stack)).get? b=some o':=λb o q hb=>by
  obtain⟨o1,q1⟩:=I.base.there b o q (nx b)
  exact⟨o1,hideAll_get _ q1 (j8 I rfl q hb)⟩
 have slot:∀b o,s0.heap.get? b=some o->H0 b=none->b∈d9 outer->∃sl,h'.get? b=some {o with slots:=sl}:=λb o q n hb=>by
  obtain⟨sl,q1⟩:=I.base.slot b o q n hb (nx b)
  obtain⟨_,o',q3,hd⟩:=I.stack.mem (b:=b) (zz1.mpr (let⟨v,h1,h2⟩:=zz1.mp hb;⟨v,.tail _ h1,h2⟩))
  rw [q1] at q3;cases q3;obtain⟨sl3,q4⟩:=x4 b _ (hx.keeps _ _ q1) hd
  exact⟨sl3,q4⟩
 refine⟨I.os,I.bare,λb o q=>?_,x1,x3,x2,dU,cX,⟨λb o q n hb _=>x1.1 _ _ (dU b o q n hb),λb o q n hb _=>slot b o q n hb,λb o q n _=>I.base.free b o q n (nx b),λb o q _=>?_,I.base.gy,I.base.fg,I.base.fN⟩,hE⟩
 ·refine(I.aJ b o q).dY (λc v hc r=>hideAll_get _ r λz=>?_) (λ_ q=>q) λ_ _ q=>q
  have z':=I.lH c z
  rcases hc with rfl|hc
  ·rw [q] at z';cases z'
  ·rw [hc] at z';cases z'
 ·by_cases hb:b∈d9 outer
  ·obtain⟨sl,q1⟩:=slot b o q (I.ok.vz b hb) hb
   exact⟨_,q1⟩
  ·obtain⟨o',q1⟩:=cX b o q hb
   exact⟨o',x1.1 _ _ q1⟩
end
def kJ{P:Program}{w:World}{H:Hp}{h:Heap}{a:Addr}{o:HO}(x:bW P w H h a o):∃o',h.get? a=some o':=by
 cases o with
 |lst xs=>obtain⟨_,_,_,_,e⟩:=x;exact⟨_,e⟩
 |tup xs=>obtain⟨_,_,_,o,e,_⟩:=x;exact⟨_,e⟩
 |dK aw=>obtain⟨_,_,_,_,o,_,_,e,_⟩:=x;exact⟨_,e⟩
 |dT aw=>obtain⟨_,_,_,_,o,_,_,e,_⟩:=x;exact⟨_,e⟩
 |set S n=>obtain⟨o,_,_,_,e,_⟩:=x;exact⟨_,e⟩
 |ins C dx fs=>obtain⟨_,_,_,e,_⟩:=x;exact⟨_,e⟩
 |own y=>exact x
 |xd fs=>obtain⟨_,⟨_,_,_,e,_⟩,_⟩:=x;exact⟨_,e⟩
 |uc lo hi=>obtain⟨_,_,_,e⟩:=x;exact⟨_,e⟩
 |bE ob u=>obtain⟨e,_⟩:=x;exact⟨_,e⟩
 |gv ps=>exact⟨_,x⟩
 |met f y=>exact⟨_,x⟩
 |ext φ=>exact x.2.1
def Ma(C:Addr)(E:XK)(ta:TA):TS:=λ_ σ H=>ta σ H λvs H1=>vs.length<=sizeLine/\∀e,H1 e=none->E (.ref C) (some e) H1
section
variable{P:Program}{w:World}{K:zz8}{mg:Str->Option Value}{base:Heap}{N:List Str}{qual:Str}{scope:Scope}{f:Addr}{cd:Value}{A:Around}{outer:List Env}{s0:Shared}{H0:Hp}{E:XK}
theorem Dh{x:Str}{C:Addr}{Bn newId Ml:String}{bm:List Value}{e₀:Expr}{rest:List Expr}{np bL pos:Pos}{ta:TA}(hg:Gl (dQ (dW P w) P w K mg base N qual scope f cd A outer s0 H0 E) x)(O:OwnCls x C bm newId mg base)(FB:ExcBaseFacts Bn newId Ml bm)
 (ha:PA (dQ (dW P w) P w K mg base N qual scope f cd A outer s0 H0 E) (e₀::rest) ta)
 (he:starEach (e₀::rest) (dQ (dW P w) P w K mg base N qual scope f cd A outer s0 H0 E).env=(false,eval e₀ (dQ (dW P w) P w K mg base N qual scope f cd A outer s0 H0 E).env)::starEach rest (dQ (dW P w) P w K mg base N qual scope f cd A outer s0 H0 E).env:=by rfl)
 (km:(backTo bL (starEach rest (dQ (dW P w) P w K mg base N qual scope f cd A outer s0 H0 E).env)).any (·.1)=false:=by rfl) (hd:(x==("__debug__":Str))=false:=by decide):
 PS (dQ (dW P w) P w K mg base N qual scope f cd A outer s0 H0 E) (.Raise (some (.Call (.Name x np) (e₀::rest) [] bL)) none pos) (Ma C E ta):=by
 intro ae s σ H D I h;obtain⟨tl,Nn,nm,q,bs,hdct,sn,sub,ab,col,dd,k0,k1,k2,k3,k5,mN,hC,hN,hni,T⟩:=O.obj
 refine wpAny_Raise_call_subT (C:=C) (nm:=nm) (q:=q) (N:=Nn) (bs:=bs) (bm:=tl) (hdct:=hdct) (sn:=sn) (sub:=sub) (ab:=ab) (col:=col) (dd:=dd) (k0:=k0) (k1:=k1) (k2:=k2) (k3:=k3) (k5:=k5)
  FB (mN:=mN) (T.hasType FB.hasBase) (I.ok.hd rfl) (by rw [he];show(false||(backTo bL (starEach rest (dQ (dW P w) P w K mg base N qual scope f cd A outer s0 H0 E).env)).any (·.1))=false;rw [km];rfl) hni (fU I hg O.bound ⟨rfl,?_⟩ hd)
 have h2:=ha bL ae s σ H _ I h
 rw [he] at h2⊢;refine Calls.evalArgs_plain (wpAny_mono h2 (λus s2 ⟨vs,H1,I1,rv,hl,hE⟩=>?_) λ_ _ y=>y)
 refine⟨rfl,by rw [<-rv.length];exact hl,I1.bk _ _ hC,hN.keeps I1.bk,T.keeps I1.bk,λh1 e hx=>JL I1 hx (hE e ?_)⟩
 cases z:H1 e with
 |none=>rfl
 |some o=>
  obtain⟨o',jV⟩:∃o',s2.heap.get? e=some o':=by
   exact kJ (I1.aJ _ _ z)
  rw [hx.new] at jV;cases jV
end
def ja(a C:Addr):HO:=.ext λh=>∃ob vs,h.get? a=some ob/\ob.cls=.ref C/\ob.data=.fields vs
section
variable{P:Program}{w:World}
def DT.fresh{outer:List Env}{H:Hp}{s s':Shared}{E:XK}{a C t:Addr}{vs:List Value}{H':Hp}{B:Heap}(F:DT P w outer H s E a C t vs H' B s'):H' a=none:=by
 cases z:H' a with
 |none=>rfl
 |some o=>
  obtain⟨o',jV⟩:=kJ (F.aJ _ _ z)
  rw [F.zq.2.1] at jV;cases jV
def Inv.Bb{X:Cx}{ae:List (Addr×Obj)}{σ:St}{H:Hp}{s s':Shared}{E:XK}{a C t:Addr}{vs:List Value}{H':Hp}{B h6:Heap}{tk:Nat}(I:Inv X ae σ H s)(F:DT X.prog X.w X.stack H s E a C t vs H' B s')
 (hf:Heap.FlyingW B X.stack a (.ref C) (.ref t) h6) (hs:s'.heap.UpToSlots h6):Inv X ae σ (upd H' a (ja a C)) {s' with heap:=h6,toks:=tk}:=by
 have ha:=F.fresh
 obtain⟨oa,va,ea,ca,da,_⟩:=hf.first
 have frame:∀b,b∈d9 X.stack->∃o,h6.get? b=some o/\∀vs,o.data≠.fields vs:=λb hb=>(hf.2.2.1.mem hb).2
 have ne:∀b o,s.heap.get? b=some o->b≠a:=λb o q z=>by
  subst z
  by_cases hb:b∈d9 X.stack
  ·obtain⟨o',q',hd⟩:=frame b hb
   rw [ea] at q';cases q';exact hd _ da
  ·obtain⟨o',q'⟩:=F.cX b o q hb
   rw [F.zq.2.1] at q';cases q'
 have slot:∀b o,s.heap.get? b=some o->H b=none->b∈d9 X.stack->∃sl,h6.get? b=some {o with slots:=sl}:=λb o q n hb=>by
  obtain⟨MK,q2⟩:=F.un.any q n (λz=>nomatch z)
  obtain⟨_,o',q3,hd⟩:=F.zq.2.2.1.mem (b:=b) hb
  rw [q2] at q3;cases q3;obtain⟨sl3,q4⟩:=hs b _ q2 hd
  exact⟨sl3,q4⟩
 have un:Un (d9 X.stack) [] H (upd H' a (ja a C)) s.heap h6:=by
  refine⟨λb o q n hb _=>hf.1 _ _ (F.dU b o q n hb),λb o q n hb _=>slot b o q n hb,λb o q n _=>?_,λb o q _=>?_,λb xs q=>?_,λb o u q=>?_,λb ps q=>?_⟩
  ·rw [af (ne b o q)];exact F.un.free b o q n (λz=>nomatch z)
  ·by_cases hb:b∈d9 X.stack
   ·obtain⟨o',q',_⟩:=frame b hb
    exact⟨o',q'⟩
   ·obtain⟨o',q1⟩:=F.cX b o q hb
    exact⟨o',hf.1 _ _ q1⟩
  ·have q1:=F.un.gy b xs q
   rw [af (bR q1 ha)];exact q1
  ·have q1:=F.un.fg b o u q
   rw [af (bR q1 ha)];exact q1
  ·obtain⟨m,q1⟩:=F.un.fN b ps q
   exact⟨m,by rw [af (bR q1 ha)];exact q1⟩
 have aJ:eg X.prog X.w (upd H' a (ja a C)) h6:=λb o q=>by
  by_cases hb:b=a
  ·subst hb;rw [ak] at q;cases q;exact⟨⟨oa,va,ea,ca,da⟩,⟨oa,ea⟩,λh1 h2 ⟨ob,vs,e1,e2,e3⟩ k=>⟨ob,vs,k _ e1,e2,e3⟩⟩
  ·rw [af hb] at q;exact(F.aJ b o q).dY (λc v hc r=>hf.1 _ _ r) (λc r=>by rw [af (bR r ha)];exact r) λc xs r=>by rw [af (bR r ha)];exact r
 obtain⟨hh,g,d,tt,os'⟩:=s'
 obtain rfl:os'=s.os:=F.os
 have fin:=I.call (h':=h6) (g':=g) (d':=d) (t':=tk) (ch:=[]) un aJ F.bare (λb z=>absurd z (by simp))
 exact fin
end
def bU(env:Env)(ys:List Str):List (Str×Addr):=ys.map λy=>(y,(env.cells.lookup y).getD 0)
def BX(σ:St)(is:List Nat):St:=is.map λi=>(σ[i]?).join
def mH(scope:Scope)(x:Str):Bool:=scope.names.lookup x==some .cell
theorem vS{x:Str}{c:Addr}:∀(names:List (Str×NameKind)) (n:Nat) (acc:List (Str×Addr)),(x,c)∈cellsFrom n names acc->(x,c)∈acc\/(x,NameKind.cell)∈names/\n<=c
 |[],n,acc,h=>by rw [cellsFrom.eq_def] at h;exact .inl h
 | (y,k)::r,n,acc,h=>by
  rw [cellsFrom.eq_def] at h;dsimp only at h;split at h
  ·rename_i hk;cases eq_of_beq hk;rcases vS r (n+1) _ h with z|⟨z1,z2⟩
   ·rcases zzm.mp z with z|z
    ·cases z;exact .inr ⟨zzP ..,zzE _⟩
    ·exact .inl z
   ·exact .inr ⟨zzI _ z1,Nat.le_of_succ_le z2⟩
  ·rcases vS r n _ h with z|⟨z1,z2⟩
   ·exact .inl z
   ·exact .inr ⟨zzI _ z1,z2⟩
theorem rb{x:Str}{c:Addr}:∀(names:List (Str×NameKind)) (n:Nat) (acc:List (Str×Addr)),(cellsFrom n names acc).lookup x=some c->acc.lookup x=some c\/(x,NameKind.cell)∈names/\n<=c
 |[],n,acc,h=>by rw [cellsFrom.eq_def] at h;exact .inl h
 | (y,k)::r,n,acc,h=>by
  rw [cellsFrom.eq_def] at h;dsimp only at h;split at h
  ·rename_i hk;cases eq_of_beq hk;rcases rb r (n+1) _ h with z|⟨z1,z2⟩
   ·rw [zz5] at z;cases e:x==y with
    |true=>rw [e] at z;cases z;cases eq_of_beq e;exact .inr ⟨zzP ..,zzE _⟩
    |false=>rw [e] at z;exact .inl z
   ·exact .inr ⟨zzI _ z1,Nat.le_of_succ_le z2⟩
  ·rcases rb r n _ h with z|⟨z1,z2⟩
   ·exact .inl z
   ·exact .inr ⟨zzI _ z1,z2⟩
theorem qy{x:Str}:∀(names:List (Str×NameKind)) (n:Nat) (acc:List (Str×Addr)),(x,NameKind.cell)∉names->(cellsFrom n names acc).lookup x=acc.lookup x
 |[],n,acc,_=>by rw [cellsFrom.eq_def]
 |(y,k)::r,n,acc,h=>by
  rw [cellsFrom.eq_def];dsimp only;have hr:(x,NameKind.cell)∉r:=λz=>h (zzI _ z)
  split
  ·rename_i hk;cases eq_of_beq hk;rw [qy r (n+1) _ hr,zz5];cases e:x==y with
   |true=>cases eq_of_beq e;exact absurd (zzP ..) h
   |false=>rfl
  ·exact qy r n acc hr
theorem Lu{x:Str}{c:Addr}:∀(names:List (Str×NameKind)) (n:Nat) (acc:List (Str×Addr)),(x,c)∈cellsFrom n names acc->(∀p∈acc,p.2≠c)->(x,c)∈cellsFrom n names []
 |names,n,acc,h,ha=>by
  have key:∀(names:List (Str×NameKind)) (n:Nat) (acc b:List (Str×Addr)),(x,c)∈cellsFrom n names (b++acc)->(∀p∈acc,p.2≠c)->(x,c)∈cellsFrom n names b:=by
   intro names
   induction names with
   |nil=>
    intro n acc b h ha;rw [cellsFrom.eq_def] at h⊢;rcases List.mem_append.mp h with z|z
    ·exact z
    ·exact absurd rfl (ha _ z)
   |cons y r ih=>
    intro n acc b h ha;obtain⟨y,k⟩:=y
    rw [cellsFrom.eq_def] at h⊢;dsimp only at h⊢;split at h
    ·rename_i hk;rw [if_pos hk];exact ih (n+1) acc ((y,n)::b) h ha
    ·rename_i hk;rw [if_neg hk];exact ih n acc b h ha
  exact key names n acc [] h ha
theorem rq{x y:Str}{c:Addr}:∀(names:List (Str×NameKind)) (n:Nat) (acc:List (Str×Addr)),(∀p∈acc,p.2<n)->n<=c->(x,c)∈cellsFrom n names acc->(y,c)∈cellsFrom n names acc->x=y
 |[],n,acc,ha,hc,h1,h2=>by
  rw [cellsFrom.eq_def] at h1;exact absurd (ha _ h1) (Nat.not_lt.mpr hc)
 | (z,k)::r,n,acc,ha,hc,h1,h2=>by
  rw [cellsFrom.eq_def] at h1 h2;dsimp only at h1 h2;split at h1
  ·rename_i hk;rw [if_pos hk] at h2;have GC:∀p∈(z,n)::acc,p.2<n+1:=λp hp=>by
    rcases zzm.mp hp with q|q
    ·rw [q];exact Nat.lt_succ_self _
    ·exact Nat.lt_succ_of_lt (ha p q)
   by_cases hn:n+1<=c
   ·exact rq r (n+1) _ GC hn h1 h2
   ·have one:∀{w:Str},(w,c)∈cellsFrom (n+1) r ((z,n)::acc)->w=z:=λ{w} h=>by
     rcases vS r (n+1) _ h with q|q
     ·rcases zzm.mp q with q|q
      ·cases q;rfl
      ·exact absurd (ha _ q) (Nat.not_lt.mpr hc)
     ·exact absurd q.2 hn
    rw [one h1,one h2]
  ·rename_i hk;rw [if_neg hk] at h2;exact rq r n acc ha hc h1 h2
def vx{M:Model}{A:Around}{E:Value->Shared->Prop}{s:Shared}{scope:Scope}{g:Addr}{cl:List (Str×Addr)}{qual:Str}{around:Env}{Q:Env->Shared->Prop}
 (h:Q (newEnv scope (zz9 s) g (cellsFrom ((zz9 s)+1) scope.names cl) qual none .none (some around) builtinsNs) {s with heap:=pushCells (s.heap.push {cls:=.type "dict",data:=.dict #[]}) scope.names}):
 wpAny M A (newFunctionEnv scope g cl [] qual none .none (some around)) Q E s:=by
 unfold newFunctionEnv;refine zzA (wpAny_alloc ?_);refine zzA (wpAny_forIn_list _ (λrest b s'=>s'={s with heap:=s'.heap}/\pushCells s'.heap rest=pushCells (s.heap.push {cls:=.type "dict",data:=.dict #[]}) scope.names/\cellsFrom (zz9 s') rest b=cellsFrom ((zz9 s)+1) scope.names cl) _ (λx rest b s' hI=>?_) (λb s' hI=>?_) scope.names cl ⟨rfl,rfl,by rw [Heap.size_push]⟩)
 ·obtain⟨h1,h2,h3⟩:=hI
  obtain⟨nm,k⟩:=x
  rw [pushCells.eq_def] at h2;rw [cellsFrom.eq_def] at h3;dsimp only at h2 h3⊢;split
  ·rename_i hk;rw [if_pos hk] at h2 h3;refine zzA (wpAny_alloc (zzG ⟨by rw [h1],h2,?_⟩));dsimp only;rw [Heap.size_push];exact h3
  ·rename_i hk;rw [if_neg hk] at h2 h3;exact zzG ⟨h1,h2,h3⟩
 ·obtain⟨h1,h2,h3⟩:=hI
  rw [pushCells.eq_def] at h2;rw [cellsFrom.eq_def] at h3;dsimp only at h2 h3;subst h3;rw [h1,h2];exact zzA (zzG (zzG h))
noncomputable def cC(X:Cx)(N':List Str)(scope:Scope)(cl:List (Str×Addr))(fp:List Addr)(s₁:Shared)(H₁:Hp)(C:Addr):Cx where
 prog:=X.prog
 w:=X.w
 K:=X.K
 mg:=X.mg
 base:=X.base
 A:=X.A
 N:=N'
 s₀:=s₁
 H₀:=H₁
 env:=compEnvC scope (cellsFrom (C+1) scope.names cl) C X.env
 outer:=X.stack
 stack:=X.stack
 ex:=fp
 fn:=mH scope
 calm:=true
 pn:=[]
 xe:=λ_ _=>False
theorem eV{env:Env}:∀{ys:List Str},(ys.all λy=>(env.cells.lookup y).isSome)=true->∀(x:Str) (c:Addr),(bU env ys).lookup x=some c->env.cells.lookup x=some c
 |[],_,_,_,h=>by simp [bU] at h
 |y::ys,ha,x,c,h=>by
  rw [List.all_cons,zza] at ha;have ih:=eV (env:=env) ha.2 x c
  unfold bU at h ih;rw [zzF,zz5] at h;cases e:x==y with
  |true=>
   rw [e] at h;have Rf:x=y:=zzy.mp e
   subst Rf;obtain⟨c',iI⟩:=zzp.mp ha.1
   rw [iI] at h⊢;exact h
  |false=>
   rw [e] at h;exact ih h
theorem ji{env:Env}:∀{ys:List Str} {x:Str},x∈ys->∃c,(bU env ys).lookup x=some c
 |[],_,h=>nomatch h
 |y::ys,x,h=>by
  unfold bU;rw [zzF,zz5];cases e:x==y with
  |true=>exact⟨_,rfl⟩
  |false=>
   have hx:x∈ys:=by
    rcases zzm.mp h with z|z
    ·rw [z] at e;simp at e
    ·exact z
   exact ji (env:=env) hx
def kM{scope:Scope}{env:Env}{x:Str}{k:NameKind}(h:(relabel scope env).names.lookup x=some k)(hk:k=.cell\/k=.free):∃k',(x,k')∈scope.names/\(k'=.cell\/k'=.free):=by
 have hm:=PySem.mem_of_lookup h
 unfold relabel at hm;obtain⟨⟨n,k0⟩,h0,e⟩:=zzx.mp hm
 dsimp only at e;split at e
 ·rename_i hc;cases e;refine⟨k0,h0,.inr ?_⟩;rw [zza,zza] at hc;exact zzy.mp hc.1.1
 ·cases e;exact⟨k,h0,hk⟩
structure fq(X:Cx)(scope:Scope)(xs ys:List Str)(is:List Nat):Prop where
 kind:scope.kind=.function
 SF:closureFor scope X.env=pure (bU X.env ys)
 cells:(ys.all λy=>(X.env.cells.lookup y).isSome)=true
 Mx:(scope.names.all λy=>(decide (y.2≠.cell)||!ys.contains y.1)&&(decide (y.2≠.free)||ys.contains y.1))=true
 own:(scope.names.all λy=>decide (y.2≠.cell)||decide (scope.names.lookup y.1=some .cell))=true
 names:(scope.names.all λy=>decide (y.2≠.local)||decide (scope.names.lookup y.1=some .local))=true
 slots:is.map (λi=>X.N[i]?)=ys.map some
 kX:(ys.all λy=>decide (X.env.kindOf y=some .cell))=true
 kY:(ys.all λy=>decide ((relabel scope X.env).names.lookup y=some .cell))=true
section
variable{X:Cx}{ae:List (Addr×Obj)}{σ:St}{H:Hp}{s:Shared}{scope:Scope}{xs ys:List Str}{is:List Nat}
def fq.JJ(S:fq X scope xs ys is){x:Str}(h:(x,NameKind.cell)∈scope.names):scope.names.lookup x=some .cell/\x∉ys:=by
 have q:=zzT.mp S.own _ h
 have c:=zzT.mp S.Mx _ h
 rw [zza,zzt] at c;rw [zzt] at q;refine⟨zzY (q.resolve_left λz=>zzY z rfl),λhy=>?_⟩
 rcases c.1 with z|z
 ·exact zzY z rfl
 ·rw [zzn.mpr hy] at z;cases z
def gY(I:Inv X ae σ H s)(S:fq X scope xs ys is){C:Addr}(hC:(zz9 s)<=C){x:Str}{c:Addr}(h:(cellsFrom (C+1) scope.names (bU X.env ys)).lookup x=some c):
 (X.env.cells.lookup x=some c/\c<(zz9 s)/\x∈ys)\/((x,NameKind.cell)∈scope.names/\C+1<=c):=by
 rcases rb _ _ _ h with z|z
 ·have e:=eV S.cells x c z
  obtain⟨v,q⟩:=I.cell x c e
  refine .inl ⟨e,q.lt,?_⟩;have hm:=PySem.mem_of_lookup z
  unfold bU at hm;obtain⟨y,hy,e2⟩:=zzx.mp hm
  cases e2;exact hy
 ·exact .inr z
def yA(I:Inv X ae σ H s)(hc:X.calm=true)(S:fq X scope xs ys is){N':List Str}{fp:List Addr}{C:Addr}(hC:(zz9 s)<=C)(hf:∀b∈fp,fE X ae H b)(DY:∀b∈fp,b<(zz9 s)):
 (cC X N' scope (bU X.env ys) fp s H C).Ok where
 mod:=I.ok.mod
 kind:=S.kind
 glob:=I.ok.glob
 blt:=I.ok.blt
 above:=hC
 inj:=λx y c h1 h2=>by
  rcases gY I S hC h1 with z1|z1
  ·rcases gY I S hC h2 with z2|z2
   ·exact I.ok.inj x y c z1.1 z2.1
   ·exact absurd z1.2.1 (Nat.not_lt.mpr (zzU hC (Nat.le_of_succ_le z2.2)))
  ·refine rq scope.names (C+1) (bU X.env ys) (λp hp=>?_) z1.2 (PySem.mem_of_lookup h1) (PySem.mem_of_lookup h2);unfold bU at hp;obtain⟨y,hy,rfl⟩:=zzx.mp hp
   obtain⟨c',iI⟩:=zzp.mp (zzT.mp S.cells y hy)
   obtain⟨v,q⟩:=I.cell y c' iI
   dsimp only;rw [iI];exact Nat.lt_succ_of_le (zzU (Nat.le_of_lt q.lt) hC)
 has:=λx hx=>by
  have zO:(relabel scope X.env).names.lookup x=some .cell\/(relabel scope X.env).names.lookup x=some .free:=hx
  have:∃k',(x,k')∈scope.names/\(k'=.cell\/k'=.free):=by
   rcases zO with z|z
   ·exact kM z (.inl rfl)
   ·exact kM z (.inr rfl)
  obtain⟨k',hm,hk⟩:=this
  have cv:=zzT.mp S.Mx _ hm
  rw [zza,zzt,zzt] at cv;rcases hk with z|z
  ·subst z;exact zzp.mp (PySem.W.cellsFrom_some _ _ _ (.inl (S.JJ hm).1))
  ·rcases cv.2 with q|q
   ·exact absurd z (zzY q)
   ·refine zzp.mp (PySem.W.cellsFrom_some _ _ _ (.inr ?_));obtain⟨c,e⟩:=ji (env:=X.env) (zzn.mp q)
    rw [e];rfl
 IB:=λx c h e=>by
  have hm:(x,NameKind.cell)∈scope.names:=PySem.mem_of_lookup (eq_of_beq h)
  rcases gY I S hC e with z|z
  ·exact absurd z.2.2 (S.JJ hm).2
  ·exact zzU hC (Nat.le_of_succ_le z.2)
 hd:=λ_=>I.ok.hd hc
 frames:=I.ok.frames
 Cq:=.inl rfl
 QJ:=λb hb=>⟨zzb (zzW (DY b hb) hC),λx c h=>(gY I S hC h).elim (λz=>(hf b hb).2.2.2.2.1 x c z.1) λz q=>absurd (DY b hb) (Nat.not_lt.mpr (q▸zzU hC (Nat.le_of_succ_le z.2)))⟩
 bs:=λb o e=>I.bs b o e
 uN:=zzU I.ok.uN I.sz
 Ak:=λb o e hb=>by
  rcases(hf b hb).2.2.2.1 with z|z
  ·exact I.ok.Ak b o e z
  ·exact absurd (zzW (zzO e) (zzU I.ok.uN z)) (Nat.lt_irrefl _)
 CI:=λb hb hs=>(zzm.mp (I.iY b hs)).elim (hf b hb).2.1 (hf b hb).2.2.1
 fW:=I.stack
 vz:=λb hb=>I.lH b hb
theorem yc{N:List Str}:∀{is:List Nat} {ys:List Str},is.map (λi=>N[i]?)=ys.map some->∀(j:Nat) (y:Str) (v:V),ys[j]?=some y->(BX σ is)[j]?=some (some v)->∃i:Nat,N[i]?=some y/\σ[i]?=some (some v)
 |[],[],_,_,_,_,h,_=>by simp at h
 |[],_::_,h,_,_,_,_,_=>by simp at h
 |_::_,[],h,_,_,_,_,_=>by simp at h
 |i::is,y0::ys,h,0,y,v,h1,h2=>by
  rw [zzF,zzF] at h;have h0:=(List.cons.inj h).1
  simp! [List.getElem?_cons_zero,Option.some.injEq] at h1;subst h1;refine⟨i,h0,?_⟩;unfold BX at h2;simp! [zzF,List.getElem?_cons_zero,Option.some.injEq] at h2;exact Option.join_eq_some_iff.mp h2
 |i::is,y0::ys,h,j+1,y,v,h1,h2=>by
  rw [zzF,zzF] at h;refine yc (is:=is) (ys:=ys) (List.cons.inj h).2 j y v (by simpa using h1) ?_;unfold BX at h2⊢
  simpa using h2
abbrev lobj(ay:List Value)(n:Nat):Obj:={cls:=.type "list",data:=.seq ay.toArray n}
def yY(ay:List Value)(n:Nat)(v:Option Value):(lobj ay n).data≠.cell v:=λz=>by cases z
abbrev tests(ifs:List Expr)(env:Env):Sem Bool:=forIn ifs true λc r=>if r=true then do let ok<-isTrue c env (eval c env);pure (ForInStep.yield ok) else pure (ForInStep.yield r)
theorem rB{prog:Program}{w:World}{A:Around}{R:Result->Shared->Prop}{s:Shared}{elt target iter:Expr}{ifs:List Expr}{scope:Scope}{pos:Pos}{it acc:Value}{env:Env}(I:Nat->Shared->Prop)
 (turn:∀n s,I n s->wpAny (model prog w) A (pyNext it) (λr s₁=>match r with
  |none=>R (.ok .next) s₁
  |some v=>wpAny (model prog w) A (letOwnedTupleGo target it v) (λ_ s₁'=>wpAny (model prog w) A (assign target env v) (λ_ s₂=>
   wpAny (model prog w) A (tests ifs env) (λok s₃=>if ok=true then wpAny (model prog w) A (eval elt env) (λx s₄=>
    wpAny (model prog w) A (call (.builtin "list.append") [acc,x]) (λ_ s₅=>∃m,m<n/\I m s₅) (notedBy (model prog w) A env λe s'=>R (.error e) s') s₄) (notedBy (model prog w) A env λe s'=>R (.error e) s') s₃
    else∃m,m<n/\I m s₃) (notedBy (model prog w) A env λe s'=>R (.error e) s') s₂)
   (notedBy (model prog w) A env λe s'=>R (.error e) s') s₁') (notedBy (model prog w) A env λe s'=>R (.error e) s') s₁) (notedBy (model prog w) A env λe s'=>R (.error e) s') s)
 (n:Nat) (h:I n s):
 codeAny (model prog w) A (.compLoop (.ListComp elt [⟨target,iter,ifs,0⟩] scope pos) 0 it acc env) R s:=by
 refine codeAny_loop rfl I (λn s hI=>?_) n h;show wpAny _ A ((compTurn (.ListComp elt [⟨target,iter,ifs,0⟩] scope pos) 0 it acc env).onRaise (λx=>do noteFrame x env;theTreesLotGoes x)) _ _ s;refine wpAny_noted ?_;rw [compTurn_list];refine zzA (wpAny_standAt (zzA (wpAny_mono (turn n s hI) (λr s₁ h₁=>?_) λ_ _ h'=>h')))
 cases r with
 |none=>exact zzG h₁
 |some v=>
  refine zzA (wpAny_mono h₁ (λ_ s₁' h₁'=>?_) λ_ _ h'=>h')
  refine zzA (wpAny_mono h₁' (λ_ s₂ h₂=>zzA (wpAny_mono h₂ (λok s₃ h₃=>?_) λ_ _ h'=>h')) λ_ _ h'=>h')
  cases ok with
  |false=>exact zzG ⟨rfl,h₃⟩
  |true=>exact zzA (zzA (wpAny_mono h₃ (λx s₄ h₄=>zzA (wpAny_mono h₄ (λ_ s₅ h₅=>zzG (zzG ⟨rfl,h₅⟩)) λ_ _ h'=>h')) λ_ _ h'=>h'))
def Sy(X:Cx)(ifs:List Expr)(t:TT):Prop:=
 ∀(ae:List (Addr×Obj)) (s:Shared) (σ:St) (H:Hp) (Q:Bool->Hp->Prop),Inv X ae σ H s->t σ H Q->wpAny (model X.prog X.w) X.A (tests ifs X.env) (TP X ae σ Q) X.xe s
def wQ{X:Cx}:Sy X [] (λ_ H q=>q true H):=λ_ _ _ H _ I h=>wpAny_tests_nil ⟨H,I,h⟩
def wL{X:Cx}{e:Expr}{t:TT}(h:PT X e t):Sy X [e] t:=λae s σ H Q I z=>wpAny_tests_one (h ae s σ H Q I z)
def PF(J:It)(k:Nat)(g:TG)(te:TE)(fs:St)(Q:VK)(H1:Hp):Prop:=∃(n:Nat) (W:Nat->List V->St->Hp->Prop),W 0 [] (List.replicate k none++fs) H1/\
 ∀i ys σ' H',W i ys σ' H'->ys.length<sizeLine/\((J.stop i H'/\∀p,H' p=none->Q (.ref p) (upd H' p (.lst ys)))\/
  (J.go i H'/\i<n/\∀x nT,J.MW i H' x nT->g x σ' nT λσ2 H2=>te σ2 H2 λy H3=>W (i+1) (ys++[y]) σ2 H3))
noncomputable def Cg(wi:TI)(k:Nat)(g:TG)(te:TE)(is:List Nat):TE:=λσ H Q=>wi σ H λJ H1=>PF J k g te (BX σ is) Q H1
def EW(J:It)(k:Nat)(g:TG)(tt:TT)(te:TE)(fs:St)(Q:VK)(H1:Hp):Prop:=∃(n:Nat) (W:Nat->List V->St->Hp->Prop),W 0 [] (List.replicate k none++fs) H1/\
 ∀i ys σ' H',W i ys σ' H'->ys.length<sizeLine/\((J.stop i H'/\∀p,H' p=none->Q (.ref p) (upd H' p (.lst ys)))\/
  (J.go i H'/\i<n/\∀x nT,J.MW i H' x nT->g x σ' nT λσ2 H2=>tt σ2 H2 λb H3=>if b=true then te σ2 H3 (λy H4=>W (i+1) (ys++[y]) σ2 H4) else W (i+1) ys σ2 H3))
noncomputable def lW(wi:TI)(k:Nat)(g:TG)(tt:TT)(te:TE)(is:List Nat):TE:=λσ H Q=>wi σ H λJ H1=>EW J k g tt te (BX σ is) Q H1
def ik{elt tg iter:Expr}{ifs:List Expr}{pos pp:Pos}{wi:TI}{g:TG}{te:TE}{tt:TT}{use:Option (Value->Sem Unit)}{QQ:Value->Shared->Prop}{Q:VK}(hc:X.calm=true)(S:fq X scope xs ys is)(hi:PI X tg iter wi)
 (hg:∀fp s1 H1 C,PG (cC X (xs++ys) scope (bU X.env ys) fp s1 H1 C) tg g) (ht:∀fp s1 H1 C,Sy (cC X (xs++ys) scope (bU X.env ys) fp s1 H1 C) ifs tt) (he:∀fp s1 H1 C,PE (cC X (xs++ys) scope (bU X.env ys) fp s1 H1 C) elt te)
 (hs:∀x,foldedSetIterable iter X.env x=pure x) (I:Inv X ae σ H s) (h:lW wi xs.length g tt te is σ H Q)
 (fin:∀(D C:Addr) (s4:Shared) (H4:Hp) (m:Str->Option Value),Inv X ae σ H4 s4->s4.heap.Ns C m->fE X ae H4 C->Q (.ref D) H4->compPost (model X.prog X.w) X.A X.xe use QQ (.ref D) C (.ok .next) s4):
 wpAny (model X.prog X.w) X.A (comprehension (.ListComp elt [⟨tg,iter,ifs,0⟩] scope pos) scope X.env pp (newList []) false (eval iter X.env) use) QQ X.xe s:=by
 have J5:∀x∈scope.names,x.2=.local->scope.names.lookup x.1=some .local:=λx hx hl=>by
  have q:=zzT.mp S.names x hx
  rw [zzt] at q;rcases q with q|q
  ·exact absurd hl (zzY q)
  ·exact zzY q
 refine wpAny_comprehension_free (use:=use) (Q:=QQ) (g:=⟨tg,iter,ifs,0⟩) (gs:=[]) rfl hs S.SF S.kind J5 (cj (hi ae s σ H _ I h) λxv s0 h0=>cj h0 λRc s1 h1=>?_)
 obtain⟨it,fp,tn,J,H1,rfl,I1,T,JX,f1,n,W,w0,turn⟩:=h1
 refine wpAny_newObj_type (vx ?_);dsimp only;generalize hH2:s1.heap.push {cls:=.type "list",dict:=none,data:=.seq ([]:List Value).toArray}=G2
 generalize hh₁:pushCells (G2.push {cls:=.type "dict",data:=.dict #[]}) scope.names=h₁
 have SM:∀b o,(G2.push {cls:=.type "dict",data:=.dict #[]}).get? b=some o->h₁.get? b=some o:=λb o e=>by rw [<-hh₁];exact pushCells_keeps _ _ b o e
 have hns₁:h₁.Ns G2.objs.size λ_=>none:=(Heap.Ns.new G2 (.type "dict")).keeps SM
 have UK:G2.objs.size=(zz9 s1)+1:=by rw [<-hH2,Heap.size_push]
 have nO:(zz9 s1)<=G2.objs.size:=by rw [UK];exact Nat.le_succ _
 have PY:(zz9 s1)≠G2.objs.size:=by rw [UK];exact zzb (Nat.lt_succ_self _)
 have old:∀b o,s1.heap.get? b=some o->h₁.get? b=some o:=λb o e=>SM b o (zzB _ (hH2▸zzB _ e))
 have Jd:h₁.get? (zz9 s1)=some (lobj [] 0):=SM _ _ (zzB _ (hH2▸zzX _ rfl))
 have DY:∀b∈fp,b<(zz9 s1):=λb hb=>by
  obtain⟨o,e,_⟩:=T.obj _ _ JX b hb
  exact zzO e
 generalize hY:cC X (xs++ys) scope (bU X.env ys) fp s1 H1 G2.objs.size=Y
 have Vq:Y.Ok:=by rw [<-hY];exact yA I1 hc S nO f1 DY
 have UE:∀b∈fp,(zz9 s1)≠b:=λb hb=>Ne.symm (zzb (DY b hb))
 have SD:∀b,b∈Y.fs->b=X.env.locals\/b∈X.fs:=λb hb=>by
  rw [<-hY] at hb;exact zzm.mp (I1.iY b hb)
 have QX:∀b∈Y.fs,b<(zz9 s1):=λb hb=>by
  rw [<-hY] at hb;obtain⟨_,o,ho,_⟩:=I1.stack.mem hb
  exact zzO ho
 have RY:(zz9 s1)∉Y.fs:=λz=>Nat.lt_irrefl _ (QX _ z)
 have Mz:Y.env.locals=G2.objs.size:=by rw [<-hY];rfl
 have PL:∀x c,Y.env.cells.lookup x=some c->(X.env.cells.lookup x=some c/\c<(zz9 s1)/\x∈ys)\/((x,NameKind.cell)∈scope.names/\G2.objs.size+1<=c):=λx c e=>by
  rw [<-hY] at e;exact gY I1 S nO e
 have WU:∀x c,Y.env.cells.lookup x=some c->G2.objs.size+1<=c->h₁.IsCell c none:=λx c e hle=>by
  rw [<-hY] at e;have hm:(x,c)∈cellsFrom (G2.objs.size+1) scope.names []:=Lu scope.names _ _ (PySem.mem_of_lookup e) λp hp=>by
   unfold bU at hp;obtain⟨y,hy,rfl⟩:=zzx.mp hp
   obtain⟨c',iI⟩:=zzp.mp (zzT.mp S.cells y hy)
   obtain⟨v,q⟩:=I1.cell y c' iI
   dsimp only;rw [iI];exact zzb (zzW q.lt (zzU nO (Nat.le_of_succ_le hle)))
  have ck:=cellsFrom_ok scope.names (G2.push {cls:=.type "dict",data:=.dict #[]}) 0 [] ⟨(λ_ _ z=>nomatch z),.nil⟩ (Nat.zero_le _)
  rw [Heap.size_push,hh₁] at ck;exact(ck.empty x c hm).1
 have VB:∀x c,Y.env.cells.lookup x=some c->c≠(zz9 s1):=λx c e=>(PL x c e).elim (λz=>zzb z.2.1) λz=>Ne.symm (zzb (zzV nO z.2))
 have DH:Y.pn=[]:=by rw [<-hY];rfl
 have NG:Y.ex=fp:=by rw [<-hY];rfl
 have Nz:Y.s₀=s1:=by rw [<-hY];rfl
 have UW:Y.H₀=H1:=by rw [<-hY];rfl
 have NQ:Y.prog=X.prog:=by rw [<-hY];rfl
 have Ol:Y.w=X.w:=by rw [<-hY];rfl
 have Tv:Y.K=X.K:=by rw [<-hY];rfl
 have RA:Y.A=X.A:=by rw [<-hY];rfl
 have VH:compEnvC scope (cellsFrom (G2.objs.size+1) scope.names (bU X.env ys)) G2.objs.size X.env=Y.env:=by rw [<-hY];rfl
 have Pk:Y.calm=true:=by rw [<-hY];rfl
 have Mu:Y.xe=λ_ _=>False:=by rw [<-hY];rfl
 have Ob:Y.fs=d9 X.stack:=by rw [<-hY];rfl
 have N5:∀{H':Hp} {s':Shared} {ay:List Value} {k:Nat},s'.heap.get? (zz9 s1)=some (lobj ay k)->H' (zz9 s1)=none->∀p∈[((zz9 s1),lobj ay k)],s'.heap.get? p.1=some p.2/\H' p.1=none/\p.1≠Y.env.locals/\p.1∉Y.fs/\∀v,p.2.data≠.cell v:=
  λ{H' s' ay k} e hn p hp=>by
   obtain rfl:=zzi.mp hp
   exact⟨e,hn,by rw [Mz];exact PY,RY,λv=>yY ay k v⟩
 have RR:∀{H':Hp} {ay:List Value} {k:Nat},(∀b∈fp,H' b=none)->∀b∈fp,fE Y [((zz9 s1),lobj ay k)] H' b:=λ{H' ay k} hn b hb=>
  ⟨hn b hb,by rw [Mz];exact zzb (zzW (DY b hb) nO),λz=>(SD b z).elim (f1 b hb).2.1 (f1 b hb).2.2.1,.inl (by rw [NG];exact hb),
   λx c e=>(PL x c e).elim (λz=>(f1 b hb).2.2.2.2.1 x c z.1) (λz q=>absurd (DY b hb) (Nat.not_lt.mpr (q▸zzU nO (Nat.le_of_succ_le z.2)))),λp hp=>by
    rw [DH,List.nil_append] at hp;obtain rfl:=zzi.mp hp
    exact UE b hb⟩
 have N1:H1 (zz9 s1)=none:=I1.aJ.fresh (zzE _)
 have I2:∀tk,Inv Y [((zz9 s1),lobj [] 0)] (List.replicate xs.length none++BX σ is) H1 {s1 with heap:=h₁,toks:=tk}:=λtk=>by
  refine⟨Vq,by rw [Nz],I1.bare,by rw [Nz,UW];exact Un.kept old,⟨_,by rw [Mz];exact hns₁,λi x v e1 e2 e3=>?_⟩,λx c e=>?_,?_,λx c e=>(PL x c e).elim (λz=>I1.eG x c z.1) (λz=>I1.aJ.fresh (zzU nO (Nat.le_of_succ_le z.2))),λp hp=>?_,by rw [NQ,Ol];exact I1.aJ.kept old,?_⟩
  ·
   have RF:Y.N=xs++ys:=by rw [<-hY];rfl
   rw [RF] at e1
   by_cases bS:i<xs.length
   ·rw [zzr (by rw [List.length_replicate];exact bS),List.getElem?_replicate,if_pos bS] at e2;cases e2
   ·have LP:xs.length<=i:=Nat.not_lt.mp bS
    rw [zzs (by rw [List.length_replicate];exact LP),List.length_replicate] at e2;rw [zzs LP] at e1;obtain⟨i0,h0,h1⟩:=yc S.slots _ x v e1 e2
    have hm:x∈ys:=zzD e1
    have kx:X.env.kindOf x=some .cell:=zzY (zzT.mp S.kX x hm)
    have ky:(relabel scope X.env).names.lookup x=some .cell:=zzY (zzT.mp S.kY x hm)
    obtain⟨m,_,hl⟩:=I1.loc
    obtain⟨u,ru,lk⟩:=hl i0 x v h0 h1 (.inr (.inl kx))
    refine⟨u,ru,.inr ⟨.inl (by rw [<-hY];exact ky),?_⟩⟩;rcases lk with⟨z,_⟩|⟨_,c,hc1,hc2⟩
    ·rw [kx] at z;cases z
    ·obtain⟨c',iI⟩:=ji (env:=X.env) hm
     have NH:=eV S.cells x c' iI
     rw [hc1] at NH;cases NH;refine⟨c,by rw [<-hY];exact(qy _ _ _ λz=>(S.JJ z).2 hm).trans iI,?_⟩
     obtain⟨o,ho,hd⟩:=hc2
     exact⟨o,old _ _ ho,hd⟩
  ·rcases PL x c e with z|z
   ·obtain⟨v,o,ho,hd⟩:=I1.cell x c z.1
    exact⟨v,o,old _ _ ho,hd⟩
   ·exact⟨none,WU x c e z.2⟩
  ·rw [Mz];exact I1.aJ.fresh nO
  ·rw [DH,List.nil_append] at hp;exact N5 (s':={s1 with heap:=h₁,toks:=tk}) Jd N1 p hp
  ·have RF:Y.N=xs++ys:=by rw [<-hY];rfl
   have hl:=congrArg List.length S.slots
   rw [zzl,zzl] at hl;rw [RF,zzM,zzM,List.length_replicate];unfold BX;rw [zzl,hl]
 have loop:∀s₃:Shared,s₃={s1 with heap:=h₁}->
  codeAny (model X.prog X.w) X.A (.compLoop (.ListComp elt [⟨tg,iter,ifs,0⟩] scope pos) 0 (.ref it) (.ref (zz9 s1)) (compEnvC scope (cellsFrom (G2.objs.size+1) scope.names (bU X.env ys)) G2.objs.size X.env))
   (compPost (model X.prog X.w) X.A X.xe use QQ (.ref (zz9 s1)) G2.objs.size) s₃:=by
  rintro s₃ rfl
  rw [VH];refine rB (λk s'=>∃i made σ' H' ay c,Inv Y [((zz9 s1),lobj ay c)] σ' H' s'/\tn i s'.heap/\(∀b∈fp,H' b=none)/\Vals made ay/\k=n-i/\W i made σ' H') ?_ n
   ⟨0,[],_,H1,[],0,I2 _,T.keep _ _ _ JX λb _ o e=>old b o e,λb hb=>(f1 b hb).1,.nil,rfl,w0⟩
  rintro k s' ⟨i,made,σ',H',ay,c,I3,Mb,fr3,rv,rfl,w3⟩
  obtain⟨hz,tw⟩:=turn i made σ' H' w3
  have pD:=I3.pin ((zz9 s1),lobj ay c) (by rw [DH];exact zzi.mpr rfl)
  rcases tw with⟨stop,hq⟩|⟨go,Qu,step⟩
  ·rw [<-RA];refine cj (T.done Y NQ Ol Tv Pk i _ s' σ' H' _ I3 (RR fr3) Mb stop) λr s4 ⟨hr,I4⟩=>?_
   subst hr;obtain⟨m,hn4,_⟩:=I4.loc
   rw [Mz] at hn4;have Rk:=I4.pin ((zz9 s1),lobj ay c) (by rw [DH];exact zzi.mpr rfl)
   have kp:∀b o,b≠G2.objs.size->s4.heap.get? b=some o->s4.heap.get? b=some o:=λb o hb e=>e
   have Q3:∀{b o},s1.heap.get? b=some o->b≠G2.objs.size:=λ{b o} e=>zzb (zzW (zzO e) nO)
   have eh:=I4.base
   rw [Nz,UW,NG,Ob] at eh;have QN:∀{b o},H1 b=some o->b≠(zz9 s1):=λ{b o} e=>zzb (I1.aJ.lt e)
   have u:Un (d9 X.stack) fp H1 (upd H' (zz9 s1) (.lst made)) s1.heap s4.heap:=by
    refine⟨λb o e n hb hx=>kp b o (Q3 e) (eh.keep b o e n hb hx),λb o e n hb hx=>?_,λb o e n hx=>?_,λb o e hx=>?_,λb xs e=>?_,λb o u e=>?_,λb ps e=>?_⟩
    ·obtain⟨sl,q⟩:=eh.slot b o e n hb hx
     exact⟨sl,kp b _ (Q3 e) q⟩
    ·rw [af (zzb (zzO e))];exact eh.free b o e n hx
    ·obtain⟨o',q⟩:=eh.there b o e hx
     exact⟨o',kp b _ (Q3 e) q⟩
    ·rw [af (QN e)];exact eh.gy b xs e
    ·rw [af (QN e)];exact eh.fg b o u e
    ·obtain⟨more,q⟩:=eh.fN b ps e
     exact⟨more,by rw [af (QN e)];exact q⟩
   have Ug:H' G2.objs.size=none:=by rw [<-Mz];exact I4.free
   have EH:eg X.prog X.w (upd H' (zz9 s1) (.lst made)) s4.heap:=λb o e=>by
    by_cases hb:b=(zz9 s1)
    ·subst hb;rw [ak] at e;cases e;exact⟨Nat.le_of_lt hz,ay,c,rv,kp _ _ PY Rk.1⟩
    ·rw [af hb] at e;have x4:=I4.aJ b o e
     rw [NQ,Ol] at x4;have L5:∀b' u,H' b'=some u->b'≠G2.objs.size:=λb' u q z=>by rw [z,Ug] at q;cases q
     have Uw:∀b' u,H' b'=some u->b'≠(zz9 s1):=λb' u q z=>by rw [z,Rk.2.1] at q;cases q
     refine x4.dY (λb' u k7 q=>kp b' u ?_ q) (λb' q=>?_) λb' xs q=>?_
     ·rcases k7 with z|z
      ·rw [z];exact L5 b o e
      ·exact L5 b' _ z
     ·rw [af (Uw b' _ q)];exact q
     ·rw [af (Uw b' _ q)];exact q
   have I5:Inv X ae σ (upd H' (zz9 s1) (.lst made)) s4:=I1.OI (by show s4.os=s1.os;rw [I4.os,Nz]) u EH I4.bare λb hb=>⟨(f1 b hb).2.2.2.1,(f1 b hb).2.1,(f1 b hb).2.2.2.2.1,(f1 b hb).2.2.2.2.2⟩
   dsimp only;rw [RA];exact fin (zz9 s1) G2.objs.size s4 _ m I5 hn4 (I1.m5 nO (by rw [af (Ne.symm PY)];exact Ug)) (hq _ Rk.2.1)
  ·rw [<-RA];refine cj (T.item Y NQ Ol Tv Pk i _ s' σ' H' _ I3 (RR fr3) Mb go) λr s4 ⟨u,hr,h4⟩=>?_
   subst hr;dsimp only;refine cj h4 λ_ s5 ⟨x,H5,I5,r5,y5,st5,fr5⟩=>?_
   have Sw:=I5.pinned (RR fr5) (T.obj _ _ st5)
   have UY:=hg fp s1 H1 G2.objs.size
   have UZ:=he fp s1 H1 G2.objs.size
   have Ut:=ht fp s1 H1 G2.objs.size
   rw [hY] at UY UZ Ut;rw [<-NQ,<-Ol];refine wpAny_mono (UY _ s5 σ' H5 x u _ Sw r5 (step x H5 y5)) (λ_ s6 ⟨σ6,H6,I6,q6⟩=>?_) (λ_ _ f=>by rw [Mu] at f;exact f.elim);refine wpAny_mono (Ut _ s6 σ6 H6 _ I6 q6) (λokb sT ⟨HT,IT,qT⟩=>?_) (λ_ _ f=>by rw [Mu] at f;exact f.elim);have W3:=IT.pin ((zz9 s1),lobj ay c) (zzR _ (zzc _ (zzi.mpr rfl)))
   have Vt:tn (i+1) sT.heap:=T.keep _ _ _ st5 λb hb o e=>(IT.pin (b,o) (zzR _ (zzR _ (dC hb e)))).1
   cases okb with
   |false=>
    refine⟨n-(i+1),by omega,i+1,made,σ6,HT,ay,c,IT.jk,Vt,λb hb=>?_,rv,rfl,qT⟩
    obtain⟨o,e,d⟩:=T.obj _ _ st5 b hb
    exact(IT.pin (b,o) (zzR _ (zzR _ (dC hb e)))).2.1
   |true=>
   refine wpAny_mono (UZ _ sT σ6 HT _ IT qT) (λv s7 ⟨y,H7,I7,r7,q7⟩=>?_) (λ_ _ f=>by rw [Mu] at f;exact f.elim);have Sx:=I7.pin ((zz9 s1),lobj ay c) (zzR _ (zzc _ (zzi.mpr rfl)))
   have e7:s7.heap.get? (zz9 s1)=some {cls:=.type "list",data:=.seq ay.toArray c}:=Sx.1
   refine append_at (hsz:=by rw [zzC,<-rv.length];exact Nat.le_of_lt hz) e7 λh' zT WW=>?_
   have I8:Inv Y [] σ6 H7 s7:=I7.il λ_ z=>nomatch z
   have I9:Inv Y [] σ6 H7 {s7 with heap:=h'}:=I8.turned (t':=s7.toks) (it:=(zz9 s1)) (λb o hb e=>zT.extBut b o hb e) Sx.2.1 (by rw [Mz];exact PY) (.inr (by rw [Nz];exact zzE _))
    (λx c' e=>VB x c' e) (λp hp=>by rw [DH] at hp;cases hp)
   have eD:h'.get? (zz9 s1)=some (lobj (ay++[v]) (c+1)):=by rw [WW,List.push_toArray]
   have V4:tn (i+1) s7.heap:=T.keep _ _ _ st5 λb hb o e=>(I7.pin (b,o) (zzR _ (zzR _ (dC hb e)))).1
   refine⟨n-(i+1),by omega,i+1,made++[y],σ6,H7,ay++[v],c+1,I9.il (N5 (s':={s7 with heap:=h'}) eD Sx.2.1),T.keep _ _ _ V4 λb hb o e=>zT.extBut b o (Ne.symm (UE b hb)) e,λb hb=>?_,rv.append (.cons r7 .nil),rfl,q7⟩
   obtain⟨o,e,d⟩:=T.obj _ _ st5 b hb
   exact(I7.pin (b,o) (zzR _ (zzR _ (dC hb e)))).2.1
 exact codeAny_compStart_list (loop _ rfl) (T.self _ 0 _ _ _ (T.keep _ _ _ JX λb _ o e=>old b o e) (loop _ rfl))
def GV{elt tg iter:Expr}{pos:Pos}{wi:TI}{g:TG}{te:TE}(hc:X.calm=true)(S:fq X scope xs ys is)(hi:PI X tg iter wi)
 (hg:∀fp s1 H1 C,PG (cC X (xs++ys) scope (bU X.env ys) fp s1 H1 C) tg g) (he:∀fp s1 H1 C,PE (cC X (xs++ys) scope (bU X.env ys) fp s1 H1 C) elt te)
 (hs:∀x,foldedSetIterable iter X.env x=pure x:=by intro _;rfl):
 PE X (.ListComp elt [⟨tg,iter,[],0⟩] scope pos) (Cg wi xs.length g te is):=by
 intro ae s σ H Q I h;rw [eval_ListComp];exact ik (use:=none) (Q:=Q) hc S hi hg (λ_ _ _ _=>wQ) he hs I h (λD C s4 H4 m I5 hn ⟨g0,g1,_,g3,g4,g5⟩ q=>⟨m,hn,λh' zT=>⟨.ref D,H4,I5.turned (t':=s4.toks) (it:=C) (λb o hb e=>zT.extBut b o hb e) g0 g1 g3 g4 g5,rfl,q⟩⟩)
def zr{elt tg iter Ko:Expr}{pos:Pos}{wi:TI}{g:TG}{te:TE}{tt:TT}(hc:X.calm=true)(S:fq X scope xs ys is)(hi:PI X tg iter wi)
 (hg:∀fp s1 H1 C,PG (cC X (xs++ys) scope (bU X.env ys) fp s1 H1 C) tg g) (ht:∀fp s1 H1 C,PT (cC X (xs++ys) scope (bU X.env ys) fp s1 H1 C) Ko tt) (he:∀fp s1 H1 C,PE (cC X (xs++ys) scope (bU X.env ys) fp s1 H1 C) elt te)
 (hs:∀x,foldedSetIterable iter X.env x=pure x:=by intro _;rfl):
 PE X (.ListComp elt [⟨tg,iter,[Ko],0⟩] scope pos) (lW wi xs.length g tt te is):=by
 intro ae s σ H Q I h;rw [eval_ListComp];exact ik (use:=none) (Q:=Q) hc S hi hg (λfp s1 H1 C=>wL (ht fp s1 H1 C)) he hs I h (λD C s4 H4 m I5 hn ⟨g0,g1,_,g3,g4,g5⟩ q=>⟨m,hn,λh' zT=>⟨.ref D,H4,I5.turned (t':=s4.toks) (it:=C) (λb o hb e=>zT.extBut b o hb e) g0 g1 g3 g4 g5,rfl,q⟩⟩)
end
def bz{H:Hp}{p:Addr}{o:HO}(h:H p=none):aA H (upd H p o):=λb u e=>by rw [af (bR e h)];exact e
section
end
end L2
namespace Cw
open PySem L2
def sgn(c:Nat):Bool:=c==35||(48<=c&&c<=57)
def VE:V->Bool
 |.str z=>decide (1<=z.cps.toList.length)&&decide (z.cps.toList.length<=12)&&z.cps.toList.all sgn
 |_=>false
def Nx:V->Nat
 |.str z=>z.cps.toList.length
 |_=>0
section
variable{K:zz8}
abbrev D7(K:zz8)(t n:String)(b:Bool):Prop:=PySem.W.kitOne K (.type t) (.type n)=some b
def AQ{K:zz8}(t:String):D7 K t t true:=by unfold D7 PySem.W.kitOne;rw [if_pos (by simp)]
def Di{t n:String}{b:Bool}(h0:(Value.type t==Value.type n)=false)(h1:PySem.W.kitMeta n=true)(h2:(fastBuiltinMro t).map (·.contains (Value.type n))=some b):D7 K t n b:=by
 unfold D7 PySem.W.kitOne;rw [if_neg (by rw [h0];exact zzf)];show(if PySem.W.kitMeta n=true then PySem.W.subIn K (.type t) (.type n) else none)=some b
 rw [if_pos h1];exact h2
end
abbrev Tp:Str:="#0123456789"
end Cw
namespace L2
open PySem PySem.Spec PyProof.Rows
structure ng(K:zz8)(C:Addr):Prop where
 ga:PySem.W.findIn K (.ref C) "__getattribute__"=some (some (.builtin "BaseException.__getattribute__"))
 hk:PySem.W.findIn K (.ref C) "__getattr__"=some none
 cl:PySem.W.findIn K (.ref C) "__class__"=some (some (.builtin "object.__class__"))
 mo:PySem.W.mroIn K C (.type "object")=some true
 mb:PySem.W.mroIn K C (.type "BaseException")=some true
 is:(PySem.W.clsIn K C).isSome=true
section
variable{prog:Program}{w:World}{A:Around}{E:Value->Shared->Prop}{h:Heap}{g:Array GenState}{d:Drawn}{t:Nat}{os:OsState}{x C:Addr}{o:Obj}{K:zz8}
def Mj{R:Result->Shared->Prop}(X:K.In h)(Z:ng K C)(hx:h.get? x=some o)(hc:o.cls=.ref C)(hq:R (.ok (.ret (.ref C))) ⟨h,g,d,t,os⟩):
 codeAny (model prog w) A (.call (.builtin "getset_descriptor.__get__") ⟨[.builtin "object.__class__",.ref x,.ref C],[]⟩) R ⟨h,g,d,t,os⟩:=by
 have hY:(⟨h,g,d,t,os⟩:Shared).TypeIs (.builtin "object.__class__") "getset_descriptor":=F.typeOf_object_class
 have LM:PySem.W.Looks (model prog w) h (isSubtype (.ref C) (.type (".".intercalate ("object.__class__".cutAt '.').dropLast))) true:=by
  rw [F.owner_object_class];exact PySem.W.looks_mroIn X Z.mo
 refine codeAny_call_builtin F.slot_gs_get.plain F.entry_gs_get (F.slot_gs_get.check _ _ _ _ _ _ _ _ hY (F.args_gs_get _ _ _) ?_)
 repeat (any_goals (first|assumption|(with_reducible refine wpAny_loadPart_at hx ?_;rw [hc])|(with_reducible refine LM.at ?_)|wp_step))
 refine⟨Code.quiet_builtin _ (show _ by decide+kernel),codeAny_builtin F.entry_object_class ?_⟩
 repeat (any_goals (first|assumption|(with_reducible refine wpAny_loadPart_at hx ?_;rw [hc])|wp_step))
def BB{tk:Tok}{Q:Fin->Shared->Prop}(X:K.In h)(Z:ng K C)(hx:h.get? x=some o)(hc:o.cls=.ref C)(hq:Q (.done (.ret (.ref C))) ⟨h,g,d,t,os⟩):
 wpAny (model prog w) A (Builtin.«object.__getattribute__» ⟨[.ref x,.str "__class__" tk],[]⟩) Q E ⟨h,g,d,t,os⟩:=by
 have hY:(⟨h,g,d,t,os⟩:Shared).TypeIs (.builtin "object.__class__") "getset_descriptor":=F.typeOf_object_class
 have y5:=F.typeOf_object_class
 have y6:=F.slot_gs_get.lookup
 have y7:=F.slot_gs_set.lookup
 have LC:=PySem.W.looks_findIn (M:=model prog w) X Z.cl
 repeat (any_goals (first|assumption|(with_reducible refine wpAny_loadPart_at hx ?_;rw [hc])|(with_reducible refine LC.at ?_)|wp_step))
 refine Mj X Z hx hc ?_
 repeat (any_goals (first|assumption|wp_step))
def CQ{M:Model}{HB:Value}{Q:Unit->Shared->Prop}(X:K.In h)(Z:ng K C)(hx:h.get? x=some o)(hc:o.cls=.ref C)(hq:Q () ⟨h,g,d,t,os⟩):
 wpAny M A (checkBuiltinCall "BaseException.__getattribute__" ⟨[.ref x,HB],[]⟩) Q E ⟨h,g,d,t,os⟩:=by
 have h1:builtinKind "BaseException.__getattribute__"=some .slot:=by decide+kernel
 have h2:splitId "BaseException.__getattribute__"=some ("BaseException","__getattribute__"):=by decide+kernel
 have LB:=PySem.W.looks_mroIn (M:=M) X Z.mb
 have h3:=F.args_bexc_ga (.ref x) HB
 simp! [checkBuiltinCall,h1,h2];refine zzA ?_;unfold isInstance
 repeat (first|(with_reducible refine wpAny_loadPart_at hx ?_;rw [hc])|(with_reducible refine LB.at ?_)|wp_step)
 exact hq
def Pj{tk:Tok}{Q:Value->Shared->Prop}(X:K.In h)(Z:ng K C)(hx:h.get? x=some o)(hc:o.cls=.ref C)(hq:Q (.ref C) ⟨h,g,d,t,os⟩):
 wpAny (model prog w) A (getAttrBy (.ref x) (.str "__class__" tk) false) Q E ⟨h,g,d,t,os⟩:=by
 have y3:=F.excAttr_ValueError.ga.bind (.ref x)
 have y4:(Value.builtin "BaseException.__getattribute__"==Value.builtin "object.__getattribute__")=false:=by decide+kernel
 have y5:(onTheHeap (Value.ref C)&&Value.builtin "BaseException.__getattribute__"==Value.builtin "object.__getattribute__")=false:=by rw [y4];rfl
 have LG:=PySem.W.looks_findIn (M:=model prog w) X Z.ga
 have LH:=PySem.W.looks_findIn (M:=model prog w) X Z.hk
 repeat (any_goals (first|assumption|(with_reducible refine wpAny_loadPart_at hx ?_;rw [hc])|(with_reducible refine LG.at ?_)|(with_reducible refine LH.at ?_)|wp_step))
 refine codeAny_call_builtin F.excAttr_ValueError.ga.plain F.entry_bexc_ga (CQ X Z hx hc (BB X Z hx hc ?_))
 repeat (any_goals (first|assumption|wp_step))
def F9{Q:Option Value->Shared->Prop}(X:K.In h)(Z:ng K C)(hx:h.get? x=some o)(hc:o.cls=.ref C)(hq:Q (some (.ref C)) ⟨h,g,d,t+1,os⟩):
 wpAny (model prog w) A (getAttr? (.ref x) "__class__") Q E ⟨h,g,d,t,os⟩:=by
 unfold getAttr? getAttrBy?
 repeat (any_goals (first|assumption|with_reducible apply Pj X Z hx hc|wp_step))
end
theorem sY{K:zz8}{x C:Addr}(Z:ng K C):PySem.W.KitX K (.ref x) (.ref C) (λh=>∃ob,h.get? x=some ob/\ob.cls=.ref C) where
 ty:=λM h _ p=>by
  obtain⟨ob,h1,h2⟩:=p
  exact h2▸(PySem.W.Looks.ld h1).andThen .now
 it:=λM h X _=>by
  obtain⟨cd,nq⟩:=zzp.mp Z.is
  unfold PySem.W.clsIn at nq;split at nq
  ·rename_i c1 d1 cd1 Ia ho;intro A' Q' E' s' k q;unfold isType loadHead;exact zzA (wpAny_loadPart (k _ _ (X _ _ ho)) (zzG q))
  ·cases nq
 ne:=λh tp dd ay n sl X Wl=>by
  obtain⟨cd,nq⟩:=zzp.mp Z.is
  refine Bool.eq_false_iff.mpr λq=>?_
  have e:C=tp:=Value.ref.inj (zzy.mp q)
  subst e;unfold PySem.W.clsIn at nq;split at nq
  ·rename_i c1 d1 cd1 Ia ho;have z:=(X _ _ ho).symm.trans Wl
   cases z
  ·cases nq
 ca:=λ{prog w A E Q s} X p k=>by
  obtain⟨ob,h1,h2⟩:=p
  obtain⟨hh,gg,dd,tt,oo⟩:=s
  exact F9 X Z h1 h2 k
section
variable{X:Cx}
def yS:cF X (.builtin "isinstance") (λxs H Q=>∃(a C D:Addr) (b:Bool),xs=[.ref a,.ref D]/\H a=some (ja a C)/\ng X.K C/\PySem.W.kitOne X.K (.ref C) (.ref D)=some b/\Q (.bl b) H):=by
 intro ae s σ H xs us Q I r h;obtain⟨a,C,D,b,rfl,ha,Z,e,q⟩:=h
 obtain⟨u,u2,rfl,ru,ru2⟩:=vals2 r
 cases ru;cases ru2;obtain⟨⟨ob,vs,h1,h2,_⟩,_⟩:=I.aJ _ _ ha
 exact PySem.W.kia_one (sY Z) I.pP ⟨ob,h1,h2⟩ e (λz=>nomatch z) λtk=>⟨.bl b,H,I.tok tk,rfl,q⟩
def Ab:cF X (.builtin "isinstance") (λxs H Q=>∃(a C:Addr) (n:String) (b:Bool),xs=[.ref a,.ty n]/\H a=some (ja a C)/\ng X.K C/\PySem.W.kitOne X.K (.ref C) (.type n)=some b/\Q (.bl b) H):=by
 intro ae s σ H xs us Q I r h;obtain⟨a,C,n,b,rfl,ha,Z,e,q⟩:=h
 obtain⟨u,u2,rfl,ru,ru2⟩:=vals2 r
 cases ru;cases ru2;obtain⟨⟨ob,vs,h1,h2,_⟩,_⟩:=I.aJ _ _ ha
 exact PySem.W.kia_one (sY Z) I.pP ⟨ob,h1,h2⟩ e (λz=>nomatch z) λtk=>⟨.bl b,H,I.tok tk,rfl,q⟩
def DG{x:Str}{a:Addr}{pos:Pos}(hg:Gl X x)(hm:X.mg x=some (.ref a))(hd:(x==("__debug__":Str))=false:=by decide):PE X (.Name x pos) (tC (.ref a)):=wX hg hm rfl hd
theorem lj{pos:Pos}(hg:Gl X "ValueError")(hm:X.mg "ValueError"=none):PE X (.Name "ValueError" pos) (tC (.ty "ValueError")):=yj hg hm (u:=.type "ValueError") (by decide+kernel) rfl
variable{ae:List (Addr×Obj)}{σ:St}{H:Hp}{s:Shared}
def lA{M:Model}{A:Around}{E:Value->Shared->Prop}{i:Nat}{x:Str}{pos:Pos}{Q:Unit->Shared->Prop}(I:Inv X ae σ H s)(hN:X.N.Nodup)(hi:X.N[i]?=some x)(hk:X.env.scope.names.lookup x=some .local)
 (h:∀s',Inv X ae (σ.set i none) H s'->Q () s'):wpAny M A (do bindName X.env x .none;unbindBehindTheSuite X.env x pos) Q E s:=by
 obtain⟨m,hn,hl⟩:=id I.loc
 have Kp:(X.env.scope.kind==.class||(X.env.scope.kind==.module&&X.env.locals !=X.env.globals))=false:=by rw [I.ok.kind];rfl
 have hiσ:i<σ.length:=by rw [I.len];exact(zzH.mp hi).1
 have zx:=I.zx
 have tracked:∀{a:Addr} {h':Heap},(∃o,s.heap.get? a=some o/\H a=none)->Heap.SameBut a s.heap h'->eg X.prog X.w H h':=λ{a h'} ha hs b ob e=>by
  obtain⟨_,_,hfree⟩:=ha
  refine(I.aJ b ob e).dY (λc w' hc q=>(hs.2 c ?_).trans q) (λ_ q=>q) λ_ _ q=>q
  rintro rfl
  rcases hc with rfl|hc
  ·rw [hfree] at e;cases e
  ·rw [hfree] at hc;cases hc
 refine wpAny_nameGoes_keeps hk hn Kp λh' v0 ML hs=>?_
 obtain⟨oL,_,_,MO,_⟩:=id hn
 refine h _ ⟨I.ok,I.os,I.bare,⟨λb o e n hb hx=>?_,λb o e n hb hx=>?_,I.base.free,λb o e hx=>?_,I.base.gy,I.base.fg,I.base.fN⟩,⟨_,ML,λj y v' e1 e2 e3=>?_⟩,λy c e=>?_,I.free,I.eG,λp hp=>?_,tracked ⟨oL,MO,I.free⟩ hs,by simpa using I.len⟩
 ·exact(hs.2 b (zzb (zzW (zzO e) I.ok.above))).trans (I.base.keep b o e n hb hx)
 ·obtain⟨sl,e1⟩:=I.base.slot b o e n hb hx
  exact⟨sl,(hs.2 b (zzb (zzW (zzO e) I.ok.above))).trans e1⟩
 ·obtain⟨o',e1⟩:=I.base.there b o e hx
  exact⟨o',(hs.2 b (zzb (zzW (zzO e) I.ok.above))).trans e1⟩
 ·by_cases hj:j=i
  ·subst hj;rw [zzo hiσ] at e2;cases e2
  ·rw [zzS (Ne.symm hj)] at e2;obtain⟨u',r',q⟩:=hl j y v' e1 e2 e3
   refine⟨u',r',?_⟩;rcases q with⟨k,e⟩|⟨k,c,e,z⟩
   ·refine .inl ⟨k,?_⟩;have:y≠x:=λe=>hj (jz hN e1 (e▸hi))
    simp [this,e]
   ·exact .inr ⟨k,c,e,z.sameBut hs (zx y c e)⟩
 ·obtain⟨w',z⟩:=I.cell y c e
  exact⟨w',z.sameBut hs (zx y c e)⟩
 ·obtain⟨e,n,ne,nf,d⟩:=I.pin p hp
  exact⟨(hs.2 p.1 ne).trans e,n,ne,nf,d⟩
abbrev Cx.with1(X:Cx)(pn:List (Addr×Obj))(xe:Value->Shared->Prop):Cx:={X with pn:=pn,xe:=xe}
abbrev Cx.marked(X:Cx)(a:Addr)(pn:List (Addr×Obj)):Cx:={X with A:=X.A.mark (some (.ref a)),calm:=false,pn:=pn,xe:=λ_ _=>False}
def BJ{pn:List (Addr×Obj)}{xe:Value->Shared->Prop}(o:X.Ok):(X.with1 pn xe).Ok:=⟨o.mod,o.kind,o.glob,o.blt,o.above,o.inj,o.has,o.IB,o.hd,o.frames,o.Cq,o.QJ,o.bs,o.uN,o.Ak,o.CI,o.fW,o.vz⟩
def yF{a:Addr}{pn:List (Addr×Obj)}(o:X.Ok):(X.marked a pn).Ok:=⟨o.mod,o.kind,o.glob,o.blt,o.above,o.inj,o.has,o.IB,(λh=>nomatch h),o.frames,o.Cq,o.QJ,o.bs,o.uN,o.Ak,o.CI,o.fW,o.vz⟩
def Inv.with1{xe:Value->Shared->Prop}(I:Inv X ae σ H s):Inv (X.with1 (X.pn++ae) xe) [] σ H s:=⟨BJ I.ok,I.os,I.bare,I.base,I.loc,I.cell,I.free,I.eG,λp hp=>I.pin p (by rwa [zz6] at hp),I.aJ,I.len⟩
def Inv.i9{xe:Value->Shared->Prop}(o:X.Ok){jg:List (Addr×Obj)}(I:Inv (X.with1 (X.pn++ae) xe) jg σ H s):Inv X ae σ H s:=⟨o,I.os,I.bare,I.base,I.loc,I.cell,I.free,I.eG,λp hp=>I.pin p (zzc _ hp),I.aJ,I.len⟩
def Inv.mark{a:Addr}(I:Inv X ae σ H s):Inv (X.marked a (X.pn++ae)) [] σ H s:=⟨yF I.ok,I.os,I.bare,I.base,I.loc,I.cell,I.free,I.eG,λp hp=>I.pin p (by rwa [zz6] at hp),I.aJ,I.len⟩
def Inv.unmark{a:Addr}(o:X.Ok){jg:List (Addr×Obj)}(I:Inv (X.marked a (X.pn++ae)) jg σ H s):Inv X ae σ H s:=⟨o,I.os,I.bare,I.base,I.loc,I.cell,I.free,I.eG,λp hp=>I.pin p (zzc _ hp),I.aJ,I.len⟩
end
open PySem.AutoSeq1 (wpAny_loadPart')
end L2
namespace Cw
open PySem L2
end Cw
namespace L2
open PySem PySem.Spec PyProof.Rows
section
variable{X:Cx}
def BI(ns ms:List Int):((List.range (min ns.length ms.length)).all (λj=>ns.getD j 0==ms.getD j 0)&&ns.length==ms.length)=decide (ns=ms):=by
 rw [Bool.eq_iff_iff,zza,decide_eq_true_iff,zzT,zzy]
 constructor
 ·rintro ⟨h1,h2⟩
  apply List.ext_getElem h2
  intro i hi hj;have:=zzy.mp (h1 i (List.mem_range.mpr (by omega)))
  rw [zzK,zzK,zzg hi,zzg hj] at this;exact this
 ·rintro rfl
  exact⟨λj _=>by simp,rfl⟩
def int_at{ns:List Int}{ay:List Value}(r:Vals (ns.map V.int) ay)(j:Nat)(h:j<ay.toArray.size):∃t,ay.toArray[j]=Value.int (ns.getD j 0) t:=by
 have hl:=r.length
 rw [zzl] at hl;rw [zzC] at h;have hj:j<ns.length:=by omega
 obtain⟨u,hu,t,rfl⟩:=r.get (i:=j) (x:=V.int ns[j]) (by rw [zzQ,zzg hj];rfl)
 refine⟨t,?_⟩;rw [zzg h] at hu;have e:=zzq hu
 rw [zzK,zzg hj]
 simpa using e
def qI:cF X (.type "int") (λxs H Q=>∃z n,xs=[.str z]/\PySem.intText? z=some n/\z.length<=640/\Q (.int n) H):=by
 intro ae s σ H xs us Q I r h;obtain⟨z,n,rfl,h1,h2,q⟩:=h
 obtain⟨u,rfl,t,rfl⟩:=vals1 r
 exact PySem.W.KIN.call_text h1 h2 ⟨.int n,H,I.tok _,⟨_,rfl⟩,q⟩
end
end L2
namespace Cw
open PySem L2
end Cw
namespace L2
open PySem PySem.Spec PyProof.Rows
theorem pg{α β:Type}{R:α->β->Prop}:∀{xs:List α} {ys:List β},Paired R xs ys->∀{i:Nat} {x:α},xs[i]?=some x->∃y,ys[i]?=some y/\R x y
 |_,_,.nil,_,_,h=>by simp at h
 |_,_,.cons r t,0,x,h=>by simp at h;subst h;exact⟨_,rfl,r⟩
 |_,_,.cons r t,i+1,x,h=>by
  obtain⟨y,h1,h2⟩:=pg t (i:=i) (x:=x) (by simpa using h)
  exact⟨y,by simpa using h1,h2⟩
theorem mS{α β:Type}{R:α->β->Prop}:∀{xs:List α} {ys:List β},Paired R xs ys->xs.length=ys.length
 |_,_,.nil=>rfl
 |_,_,.cons _ t=>by simp [mS t]
section
def AH{vs:List V}{ay:List Value}(r:Vals vs ay){j:Nat}(h:j<ay.toArray.size):∃v,vs[j]?=some v/\RelV v ay.toArray[j]:=by
 have hl:=r.length
 rw [zzC] at h;have hj:j<vs.length:=by omega
 obtain⟨u,hu,ru⟩:=r.get (i:=j) (x:=vs[j]) (zzg hj)
 rw [zzg h] at hu;cases hu;exact⟨_,zzg hj,by simpa using ru⟩
end
abbrev bV:HO:=.ext λ_=>True
def iR{P:Program}{w:World}{H:Hp}{h:Heap}{a:Addr}{o:Obj}(e:h.get? a=some o):bW P w H h a (.bE o bV):=⟨e,trivial,⟨o,e⟩,λ_ _ _ _=>trivial⟩
def aQ(Z:List (Addr×Obj))(H:Hp):Hp:=λb=>match Z.lookup b with
 |some o=>some (.bE o bV)
 |none=>H b
def bb(Z:List (Addr×Obj))(H:Hp):Hp:=λb=>match Z.lookup b with
 |some _=>none
 |none=>H b
section
variable{Z:List (Addr×Obj)}{H H':Hp}{b:Addr}{o:Obj}
def bh(e:Z.lookup b=some o):aQ Z H b=some (.bE o bV):=by unfold aQ;rw [e]
def aj(e:Z.lookup b=none):aQ Z H b=H b:=by unfold aQ;rw [e]
def fB(e:Z.lookup b=some o):bb Z H b=none:=by unfold bb;rw [e]
def aB(e:Z.lookup b=none):bb Z H b=H b:=by unfold bb;rw [e]
def eo{u:HO}(e:bb Z H b=some u):Z.lookup b=none/\H b=some u:=by
 cases q:Z.lookup b with
 |none=>rw [aB q] at e;exact⟨rfl,e⟩
 |some o=>rw [fB q] at e;cases e
def iQ(h:H b=none):bb Z H b=none:=by
 cases q:Z.lookup b with
 |none=>rw [aB q];exact h
 |some o=>exact fB q
structure vK(Z:List (Addr×Obj))(H:Hp)(fs:List Addr)(h:Heap):Prop where
 at_:∀b o,Z.lookup b=some o->h.get? b=some o
 no:∀b o,Z.lookup b=some o->H b=none
 fr:∀b o,Z.lookup b=some o->b∉fs
variable{P:Program}{w:World}{fs:List Addr}{h h':Heap}
theorem vK.aJ(z:vK Z H fs h)(k:eg P w H h):eg P w (aQ Z H) h:=λb u e=>by
 cases q:Z.lookup b with
 |some o=>rw [bh q] at e;cases e;exact iR (z.at_ b o q)
 |none=>
  rw [aj q] at e;have nz:∀c v,H c=some v->Z.lookup c=none:=λc v hv=>by
   cases y:Z.lookup c with
   |none=>rfl
   |some o=>rw [z.no c o y] at hv;cases hv
  exact(k b u e).dY (λc v _ r=>r) (λc r=>by rw [aj (nz c _ r)];exact r) λc xs r=>by rw [aj (nz c _ r)];exact r
def vK.xk(z:vK Z H fs h)(u:Un fs [] (aQ Z H) H' h h')(k:eg P w H' h'):Un fs [] H (bb Z H') h h'/\eg P w (bb Z H') h':=by
 have zk:∀b o,Z.lookup b=some o->H' b=some (.bE o bV):=λb o q=>u.fg b o _ (bh q)
 have zh:∀b o,Z.lookup b=some o->h'.get? b=some o:=λb o q=>(k b _ (zk b o q)).1
 have nz:∀c v,H c=some v->Z.lookup c=none:=λc v hv=>by
  cases y:Z.lookup c with
  |none=>rfl
  |some o=>rw [z.no c o y] at hv;cases hv
 refine⟨⟨λb o e n hb hx=>?_,λb o e n hb hx=>?_,λb o e n hx=>?_,λb o e hx=>u.there b o e hx,λb xs e=>?_,λb o v e=>?_,λb ps e=>?_⟩,λb v e=>?_⟩
 ·cases q:Z.lookup b with
  |some o'=>
   have e2:=z.at_ b o' q
   rw [e] at e2;cases e2;exact zh b o q
  |none=>exact u.keep b o e (by rw [aj q];exact n) hb hx
 ·cases q:Z.lookup b with
  |some o'=>exact absurd hb (z.fr b o' q)
  |none=>exact u.slot b o e (by rw [aj q];exact n) hb hx
 ·cases q:Z.lookup b with
  |some o'=>exact fB q
  |none=>rw [aB q];exact u.free b o e (by rw [aj q];exact n) hx
 ·rw [aB (nz b _ e)];exact u.gy b xs (by rw [aj (nz b _ e)];exact e)
 ·rw [aB (nz b _ e)];exact u.fg b o v (by rw [aj (nz b _ e)];exact e)
 ·rw [aB (nz b _ e)];exact u.fN b ps (by rw [aj (nz b _ e)];exact e)
 ·obtain⟨q,e1⟩:=eo e
  refine(k b v e1).dY (λc y _ r=>r) (λc r=>?_) λc xs r=>?_
  ·cases y:Z.lookup c with
   |none=>rw [aB y];exact r
   |some o=>rw [zk c o y] at r;cases r
  ·cases y:Z.lookup c with
   |none=>rw [aB y];exact r
   |some o=>rw [zk c o y] at r;cases r
def vK.xh(z:vK Z H fs h)(u:Un fs [] H H' h h')(k:eg P w H' h'):Un fs [] (aQ Z H) (aQ Z H') h h'/\eg P w (aQ Z H') h':=by
 have zh:∀b o,Z.lookup b=some o->h'.get? b=some o:=λb o q=>u.keep b o (z.at_ b o q) (z.no b o q) (z.fr b o q) (λy=>nomatch y)
 have zn:∀b o,Z.lookup b=some o->H' b=none:=λb o q=>u.free b o (z.at_ b o q) (z.no b o q) (λy=>nomatch y)
 have nz:∀c v,H' c=some v->Z.lookup c=none:=λc v hv=>by
  cases y:Z.lookup c with
  |none=>rfl
  |some o=>rw [zn c o y] at hv;cases hv
 have nw:∀b,aQ Z H b=none->Z.lookup b=none/\H b=none:=λb e=>by
  cases q:Z.lookup b with
  |some o=>rw [bh q] at e;cases e
  |none=>rw [aj q] at e;exact⟨rfl,e⟩
 refine⟨⟨λb o e n hb hx=>u.keep b o e (nw b n).2 hb hx,λb o e n hb hx=>u.slot b o e (nw b n).2 hb hx,λb o e n hx=>?_,λb o e hx=>u.there b o e hx,λb xs e=>?_,λb o v e=>?_,λb ps e=>?_⟩,λb v e=>?_⟩
 ·rw [aj (nw b n).1];exact u.free b o e (nw b n).2 hx
 ·cases q:Z.lookup b with
  |some o=>rw [bh q] at e;cases e
  |none=>rw [aj q] at e⊢;exact u.gy b xs e
 ·cases q:Z.lookup b with
  |some o'=>rw [bh q] at e⊢;exact e
  |none=>rw [aj q] at e⊢;exact u.fg b o v e
 ·cases q:Z.lookup b with
  |some o=>rw [bh q] at e;cases e
  |none=>rw [aj q] at e⊢;exact u.fN b ps e
 ·cases q:Z.lookup b with
  |some o=>rw [bh q] at e;cases e;exact iR (zh b o q)
  |none=>
   rw [aj q] at e;exact(k b v e).dY (λc y _ r=>r) (λc r=>by rw [aj (nz c _ r)];exact r) λc xs r=>by rw [aj (nz c _ r)];exact r
variable{K:zz8}{mg:Str->Option Value}{base:Heap}{A:Around}{outer:List Env}{s s':Shared}
theorem ju.aQ(e:ju P w K mg base A outer s H)(z:vK Z H (d9 outer) s.heap)(zb:∀b o,Z.lookup b=some o->base.get? b=none):ju P w K mg base A outer s (aQ Z H) where
 frames:=e.frames
 mod:=e.mod
 bs:=λb o q=>⟨(e.bs b o q).1,by
  cases y:Z.lookup b with
  |some o'=>rw [zb b o' y] at q;cases q
  |none=>rw [aj y];exact(e.bs b o q).2⟩
 uN:=e.uN
 fW:=e.fW
 vz:=λb hb=>by
  cases y:Z.lookup b with
  |some o'=>exact absurd hb (z.fr b o' y)
  |none=>rw [aj y];exact e.vz b hb
 aJ:=z.aJ e.aJ
 bare:=e.bare
def CE.less{Q:VK}{u:Value}(z:vK Z H (d9 outer) s.heap)(h:CE outer P w (aQ Z H) s (λv H'=>Q v (bb Z H')) u s'):CE outer P w H s Q u s':=by
 obtain⟨v,H',os,bare,un,aJ,r,q⟩:=h
 obtain⟨u1,k1⟩:=z.xk un aJ
 exact⟨v,_,os,bare,u1,k1,r,q⟩
def CE.more{Q:VK}{u:Value}(z:vK Z H (d9 outer) s.heap)(h:CE outer P w H s (λv H'=>(∀b o,Z.lookup b=some o->H' b=none)->Q v (aQ Z H')) u s'):CE outer P w (aQ Z H) s Q u s':=by
 obtain⟨v,H',os,bare,un,aJ,r,q⟩:=h
 obtain⟨u1,k1⟩:=z.xh un aJ
 exact⟨v,_,os,bare,u1,k1,r,q λb o y=>un.free b o (z.at_ b o y) (z.no b o y) (λy=>nomatch y)⟩
def dW.less{E:XK}{e:Value}(z:vK Z H (d9 outer) s.heap)(h:dW P w outer (aQ Z H) s (λC a H'=>E C a (bb Z H')) e s'):dW P w outer H s E e s':=by
 obtain⟨a,C,t,vs,H',B,rfl,F⟩:=h
 have zk:∀b o,Z.lookup b=some o->H' b=some (.bE o bV):=λb o q=>F.un.fg b o _ (bh q)
 have kB:∀b o,s.heap.get? b=some o->H b=none->b∉d9 outer->B.get? b=some o:=λb o e n hb=>by
  cases q:Z.lookup b with
  |some o'=>
   have e2:=z.at_ b o' q
   rw [e] at e2;cases e2;exact(F.aJ b _ (zk b o q)).1
  |none=>exact F.dU b o e (by rw [aj q];exact n) hb
 have hB:eg P w (bb Z H') B:=λb v e=>by
  obtain⟨q,e1⟩:=eo e
  refine(F.aJ b v e1).dY (λc y _ r=>r) (λc r=>?_) λc xs r=>?_
  ·cases y:Z.lookup c with
   |none=>rw [aB y];exact r
   |some o=>rw [zk c o y] at r;cases r
  ·cases y:Z.lookup c with
   |none=>rw [aB y];exact r
   |some o=>rw [zk c o y] at r;cases r
 have hs:eg P w H' s'.heap:=λb v e=>(F.aJ b v e).dY (λc y _ r=>F.zq.1 _ _ r) (λ_ r=>r) λ_ _ r=>r
 obtain⟨u1,_⟩:=z.xk (P:=P) (w:=w) F.un hs
 exact⟨a,C,t,vs,_,B,rfl,⟨F.os,F.bare,hB,F.zq,F.tn,F.tup,kB,F.cX,u1,F.ends⟩⟩
def dW.more{E:XK}{e:Value}(z:vK Z H (d9 outer) s.heap)(h:dW P w outer H s (λC a H'=>(∀b o,Z.lookup b=some o->H' b=none)->E C a (aQ Z H')) e s'):dW P w outer (aQ Z H) s E e s':=by
 obtain⟨a,C,t,vs,H',B,rfl,F⟩:=h
 have zB:∀b o,Z.lookup b=some o->B.get? b=some o:=λb o q=>F.dU b o (z.at_ b o q) (z.no b o q) (z.fr b o q)
 have zn:∀b o,Z.lookup b=some o->H' b=none:=λb o q=>F.un.free b o (z.at_ b o q) (z.no b o q) (λy=>nomatch y)
 have nz:∀c v,H' c=some v->Z.lookup c=none:=λc v hv=>by
  cases y:Z.lookup c with
  |none=>rfl
  |some o=>rw [zn c o y] at hv;cases hv
 have hB:eg P w (aQ Z H') B:=λb v e=>by
  cases q:Z.lookup b with
  |some o=>rw [bh q] at e;cases e;exact iR (zB b o q)
  |none=>
   rw [aj q] at e;exact(F.aJ b v e).dY (λc y _ r=>r) (λc r=>by rw [aj (nz c _ r)];exact r) λc xs r=>by rw [aj (nz c _ r)];exact r
 have hs:eg P w H' s'.heap:=λb v e=>(F.aJ b v e).dY (λc y _ r=>F.zq.1 _ _ r) (λ_ r=>r) λ_ _ r=>r
 obtain⟨u1,_⟩:=z.xh (P:=P) (w:=w) F.un hs
 refine⟨a,C,t,vs,_,B,rfl,⟨F.os,F.bare,hB,F.zq,F.tn,F.tup,λb o e n hb=>F.dU b o e ?_ hb,F.cX,u1,F.ends zn⟩⟩
 cases q:Z.lookup b with
 |some o=>rw [bh q] at n;cases n
 |none=>rw [aj q] at n;exact n
end
structure su(ps ys:List Str)(scope:Scope):Prop where
 kind:scope.kind=.function
 co:scope.isCoroutine=false
 gen:scope.isGenerator=false
 nd:(ps++ys).Nodup
 Cb:∀x∈scope.names,x.2≠.cell
 par:∀x∈ps,scope.names.lookup x=some .local
 SN:∀y∈ys,scope.names.lookup y=some .free
 Mx:∀x,scope.names.lookup x=some .free->x∈ys
noncomputable def IJ(P:Program)(w:World)(K:zz8)(mg:Str->Option Value)(base:Heap)(N:List Str)(qual:Str)(scope:Scope)(f:Addr)(cd:Value)(cl:List (Str×Addr))(A:Around)(outer:List Env)(s:Shared)(H:Hp)(E:XK):Cx where
 prog:=P
 w:=w
 K:=K
 mg:=mg
 base:=base
 A:=A.deeper (PySem.W.envX qual scope (zz9 s) f cd cl)
 N:=N
 s₀:=s
 H₀:=H
 env:=PySem.W.envX qual scope (zz9 s) f cd cl
 outer:=outer
 stack:=PySem.W.envX qual scope (zz9 s) f cd cl::outer
 ex:=[]
 calm:=true
 fn:=λ_=>false
 pn:=[]
 xe:=λe s'=>wpAny (model P w) (A.deeper (PySem.W.envX qual scope (zz9 s) f cd cl)) (leaving (PySem.W.envX qual scope (zz9 s) f cd cl) e) (λ_ FJ=>dW P w outer H s E e FJ) (λe' FJ=>dW P w outer H s E e' FJ) s'
theorem oz{α:Type}:∀{l:List (Str×α)} {x:Str} {v:α},(l.map (·.1)).Nodup->(x,v)∈l->l.lookup x=some v
 |(y,u)::r,x,v,nd,h=>by
  rw [zzF,List.nodup_cons] at nd;rw [zz5];rcases zzm.mp h with e|e
  ·cases e;simp
  ·have g8:(x==y)=false:=beq_eq_false_iff_ne.mpr λz=>nd.1 (by subst z;exact List.mem_map_of_mem (f:=(·.1)) e)
   rw [g8];exact oz nd.2 e
def mj{ps:List Str}{us:List Value}{i:Nat}{x:Str}{u:Value}(nd:ps.Nodup)(h1:ps[i]?=some x)(h2:us[i]?=some u):(ps.zip us).reverse.lookup x=some u:=by
 have hs:∀{ps:List Str} {us:List Value},List.Sublist ((ps.zip us).map (·.1)) ps:=λ{ps us}=>by
  induction ps generalizing us with
  |nil=>simp
  |cons p ps ih=>
   cases us with
   |nil=>simp
   |cons q us=>simpa using ih
 refine oz ?_ ?_
 ·rw [List.map_reverse];exact List.pairwise_reverse.mpr ((nd.sublist hs).imp λh=>Ne.symm h)
 ·rw [List.mem_reverse];refine zzD (i:=i) ?_;rw [List.getElem?_zip_eq_some];exact⟨h1,h2⟩
section
variable{P:Program}{w:World}{K:zz8}{mg:Str->Option Value}{base:Heap}{ps ys:List Str}{qual:Str}{scope:Scope}{f:Addr}{cd:Value}{cl:List (Str×Addr)}{A:Around}{outer:List Env}{s:Shared}{H:Hp}{E:XK}
def vd{us:List Value}{vs ws:List V}{h':Heap}{tk:Nat}(S:su ps ys scope)(hd:A.handled=none)(e0:ju P w K mg base A outer s H)(Nf:∀y∈ys,∃c,cl.lookup y=some c)(inj:∀x y c,cl.lookup x=some c->cl.lookup y=some c->x=y)
 (r:Vals vs us) (hl:vs.length=ps.length) (hw:ws.length=ys.length) (cells:∀(i:Nat) y c,ys[i]?=some y->cl.lookup y=some c->∀v,ws[i]?=some v->∃u,RelV v u/\s.heap.IsCell c (some u)) (QH:∀x c,cl.lookup x=some c->∃v,s.heap.IsCell c v)
 (Pt:∀x c,cl.lookup x=some c->H c=none) (ns:h'.Ns (zz9 s) (λx=>(ps.zip us).reverse.lookup x)) (hk:∀b o,s.heap.get? b=some o->h'.get? b=some o):
 Inv (IJ P w K mg base (ps++ys) qual scope f cd cl A outer s H E) [] (vs.map some++ws.map some) H {s with heap:=h',toks:=tk}:=by
 have EX:∀b:Addr,b∉(IJ P w K mg base (ps++ys) qual scope f cd cl A outer s H E).ex:=λb z=>absurd (show b∈([]:List Addr) from z) (by simp)
 have ck:∀c v,s.heap.IsCell c v->h'.IsCell c v:=λc v ⟨o,ho,hd⟩=>⟨o,hk c o ho,hd⟩
 refine⟨⟨e0.mod,S.kind,rfl,rfl,zzE _,inj,λx hx=>?_,(λx c z=>nomatch z),λ_=>hd,Around.frames_deeper e0.frames,.inr ⟨rfl,rfl⟩,λb z=>absurd z (EX b),e0.bs,e0.uN,λb _ _=>EX b,λb z=>absurd z (EX b),e0.fW,e0.vz⟩,
  rfl,e0.bare,Un.kept hk,⟨_,ns,λi x v h1 h2 h3=>?_⟩,λx c h=>let⟨v,z⟩:=QH x c h;⟨v,ck c v z⟩,e0.aJ.fresh (zzE _),Pt,λp hp=>absurd (show p∈([]:List (Addr×Obj)) from hp) (by simp),e0.aJ.kept hk,?_⟩
 ·have hx:scope.names.lookup x=some .cell\/scope.names.lookup x=some .free:=hx
  rcases hx with hx|hx
  ·exact absurd rfl (S.Cb _ (PySem.mem_of_lookup hx))
  ·exact Nf x (S.Mx x hx)
 ·have h1:(ps++ys)[i]?=some x:=h1
  by_cases hi:i<vs.length
  ·rw [zzr (by simpa using hi),zzQ] at h2;have ha:vs[i]?=some v:=by
    cases e:vs[i]? with
    |none=>rw [e] at h2;cases h2
    |some a=>rw [e] at h2;cases h2;rfl
   obtain⟨u,hu,rv⟩:=r.get ha
   have hp:ps[i]?=some x:=by rw [zzr (by omega)] at h1;exact h1
   exact⟨u,rv,.inl ⟨S.par x (zzD hp),mj (S.nd.sublist (List.sublist_append_left _ _)) hp hu⟩⟩
  ·rw [zzs (by simpa using hi),zzQ,zzl] at h2;rw [zzs (by omega)] at h1;have ha:ws[i-vs.length]?=some v:=by
    cases e:ws[i-vs.length]? with
    |none=>rw [e] at h2;cases h2
    |some a=>rw [e] at h2;cases h2;rfl
   rw [<-hl] at h1;obtain⟨c,hc⟩:=Nf x (zzD h1)
   obtain⟨u,rv,z⟩:=cells _ x c h1 hc v ha
   exact⟨u,rv,.inr ⟨.inr (S.SN x (zzD h1)),c,hc,ck c _ z⟩⟩
 ·show _=(ps++ys).length
  rw [zzM,zzM,zzl,zzl,hl,hw]
def O6{N:List Str}:Passes (dW P w) (IJ P w K mg base N qual scope f cd cl A outer s H E) E:=by
 rintro ae σ H1 s1 e s' I ⟨a,C,t,vs,H',B,rfl,F⟩
 have nx:∀b:Addr,b∉(IJ P w K mg base N qual scope f cd cl A outer s H E).ex:=λb z=>nomatch (show b∈([]:List Addr) from z)
 have dU:∀b o,s.heap.get? b=some o->H b=none->b∉d9 outer->B.get? b=some o:=λb o q n hb=>
  F.dU b o (I.base.keep b o q n hb (nx b)) (I.base.free b o q n (nx b)) (j8 I rfl q hb)
 have cX:∀b o,s.heap.get? b=some o->b∉d9 outer->∃o',B.get? b=some o':=λb o q hb=>by
  obtain⟨o1,q1⟩:=I.base.there b o q (nx b)
  exact F.cX b o1 q1 (j8 I rfl q hb)
 refine wpAny_leaves_onW I.ok.frames rfl F.zq λh' x1 x2=>⟨a,C,t,vs,H',B,rfl,?_⟩
 have slot:∀b o,s.heap.get? b=some o->H b=none->b∈d9 outer->∃sl,h'.get? b=some {o with slots:=sl}:=λb o q n hb=>by
  obtain⟨sl,q1⟩:=I.base.slot b o q n hb (nx b)
  obtain⟨MK,q2⟩:=F.un.any q1 (I.base.free b o q n (nx b)) (λz=>nomatch z)
  obtain⟨_,o',q3,hd⟩:=F.zq.2.2.1.mem (b:=b) (zz1.mpr (let⟨v,h1,h2⟩:=zz1.mp hb;⟨v,.tail _ h1,h2⟩))
  rw [q2] at q3;cases q3;obtain⟨sl3,q4⟩:=x2 b _ q2 hd
  exact⟨sl3,q4⟩
 refine⟨F.os.trans I.os,F.bare,F.aJ,x1,F.tn,F.tup.of_slots x2,dU,cX,⟨λb o q n hb _=>x1.1 _ _ (dU b o q n hb),λb o q n hb _=>slot b o q n hb,λb o q n _=>?_,λb o q _=>?_,λb xs q=>F.un.gy _ _ (I.base.gy _ _ q),λb o u q=>F.un.fg _ _ _ (I.base.fg _ _ _ q),λb ps q=>?_⟩,F.ends⟩
 ·obtain⟨sl,q1⟩:=I.base.any q n (nx b)
  exact F.un.free b _ q1 (I.base.free b o q n (nx b)) (λz=>nomatch z)
 ·by_cases hb:b∈d9 outer
  ·obtain⟨sl,q1⟩:=slot b o q (I.ok.vz b hb) hb
   exact⟨_,q1⟩
  ·obtain⟨o',q1⟩:=cX b o q hb
   exact⟨o',x1.1 _ _ q1⟩
 ·obtain⟨m1,q1⟩:=I.base.fN b ps q
  obtain⟨m2,q2⟩:=F.un.fN b _ q1
  exact⟨m1++m2,by rw [<-Array.append_assoc];exact q2⟩
def wU{k:Nat}{params:Arguments}{body:Expr}{pm fV:Value}{c':Addr}{oc:Obj}{di:Array Value}{ct:Tok}{us:List Value}{vs ws:List V}{Q:VK}{Z:List (Addr×Obj)}{t:TE}
 (S:su ps ys scope) (hr:dP k A) (e0:ju P w K mg base A outer s H) (z:vK Z H (d9 outer) s.heap) (zb:∀b o,Z.lookup b=some o->base.get? b=none)
 (ho:s.heap.get? f=some (PySem.W.kla_obj "<lambda>" qual params body scope cl pm c' fV)) (hc:s.heap.get? c'=some oc) (nq:oc.data=.fields di) (HR:di[1]?=some (.str qual ct))
 (hb:bindArgs (PySem.W.kla_fn "<lambda>" qual params body scope cl pm (.ref c') fV) ⟨us,[]⟩=pure (ps.zip us)) (r:Vals vs us) (hl:vs.length=ps.length) (hw:ws.length=ys.length)
 (Nf:∀y∈ys,∃c,cl.lookup y=some c) (inj:∀x y c,cl.lookup x=some c->cl.lookup y=some c->x=y)
 (cz:∀x c,cl.lookup x=some c->∃o v,Z.lookup c=some o/\o.data=.cell v)
 (cells:∀(i:Nat) y c,ys[i]?=some y->cl.lookup y=some c->∀v,ws[i]?=some v->∃u,RelV v u/\s.heap.IsCell c (some u))
 (ht:PE (IJ P w K mg base (ps++ys) qual scope f (.ref c') cl A outer s H (λC a H'=>(∀b o,Z.lookup b=some o->H' b=none)->E C a (aQ Z H'))) body t)
 (hq:t (vs.map some++ws.map some) H λv H'=>(∀b o,Z.lookup b=some o->H' b=none)->Q v (aQ Z H')):
 codeAny (model P w) A (.call (.ref f) ⟨us,[]⟩) (CR (dW P w) outer P w (aQ Z H) s Q E) s:=by
 have lim:s.heap.NoLimit:=e0.mod.nolimit.keeps λb o e=>(e0.bs b o e).1
 refine PySem.W.kla_callFunE hr.depth ho rfl S.co S.gen rfl ⟨c',oc,di,ct,rfl,hc,nq,HR⟩ ?_;rw [hb];refine zzG (wpAny_newFunctionEnv S.Cb (λy hy=>S.par y.1 (List.of_mem_zip hy).1) (λh₁ Qo hsb=>?_) S.kind)
 have hk₁:∀b o,s.heap.get? b=some o->h₁.get? b=some o:=λb o e=>hsb.extBut b o (zzb (zzO e)) (zzB _ e)
 refine⟨lim.keeps hk₁,?_⟩;show codeAny _ _ (.expr body (PySem.W.envX qual scope (zz9 s) f (.ref c') cl)) _ _;have I:=vd (E:=λC a H'=>(∀b o,Z.lookup b=some o->H' b=none)->E C a (aQ Z H')) (cd:=.ref c') (f:=f) (qual:=qual) (tk:=s.toks+(ps.zip us).length) S hr.hd e0 Nf inj r hl hw cells (λx c h=>by
  obtain⟨o,v,h1,h2⟩:=cz x c h
  exact⟨v,o,z.at_ c o h1,h2⟩) (λx c h=>by
  obtain⟨o,v,h1,h2⟩:=cz x c h
  exact z.no c o h1) Qo hk₁
 refine PySem.W.kla_codeExpr (wpAny_mono (ht [] _ _ H _ I hq) (λu s' hs=>?_) λe s' hs=>?_)
 ·obtain⟨v,H',J,rv,q⟩:=hs
  exact CE.more z ⟨v,H',J.os,J.bare,J.base,J.aJ,rv,q⟩
 ·exact wpAny_mono hs (λ_ FJ y=>dW.more z y) λe' FJ y=>dW.more z y
end
def u0{p:Pos}{a b:Int}{c cv:Value}:∀(l:List Value),TriplesOk l->codeAmong p (l++[rawInt a,rawInt b,c])=some cv->codeAmong p l=some cv\/cv=c:=by
 intro l h e
 fun_induction TriplesOk l with
 |case1=>
  simp! [List.nil_append,codeAmong,rawInt] at e;split at e
  ·cases e;exact .inr rfl
  ·cases e
 |case2 a' t b' u x rest ih=>
  simp! [List.cons_append,codeAmong] at e⊢;split at e
  ·rename_i hc;rw [if_pos hc];exact .inl e
  ·rename_i hc;rw [if_neg hc];exact ih h e
 |case3 l h1 h2=>exact h.elim
def Dm(mg:Str->Option Value)(base:Heap):Prop:=∃bm o,mg "__builtins__"=some (.ref bm)/\bm≠builtinsNs/\bm≠mainGlobals/\base.get? bm=some o/\o.cls=.type "module"/\o.dict=some builtinsNs/\o.data=.plain
noncomputable def gV(H:Hp)(P:Addr)(rh:Array Value)(c':Addr)(oc:Obj)(f:Addr)(fo:Obj):Hp:=upd (upd (upd H P (.gv rh)) c' (.bE oc bV)) f (.bE fo bV)
section
variable{X:Cx}{ae:List (Addr×Obj)}{σ:St}{H:Hp}{s:Shared}{c P c' f:Addr}{ps rh:Array Value}{oc fo:Obj}
def Inv.lam{h':Heap}{tk:Nat}(I:Inv X ae σ H s)(hP:H P=some (.gv ps))(hx:∀b o,b≠P->s.heap.get? b=some o->h'.get? b=some o)(Nb:h'.get? P=some (PySem.W.tabObj rh))(more:∃m,rh=ps++m)
 (hc:H c'=none/\(zz9 s)<=c'\/H c'=some (.bE oc bV)) (Wr:h'.get? c'=some oc) (hf:(zz9 s)<=f) (VA:h'.get? f=some fo) (D4:c'≠f):
 Inv X ae σ (gV H P rh c' oc f fo) {s with heap:=h',toks:=tk}:=by
 have fr:H f=none:=I.aJ.fresh hf
 have nP:∀b u,H b=some u->(∀q,u≠.gv q)->b≠P:=λb u e n z=>by subst z;rw [hP] at e;cases e;exact n _ rfl
 have nf:∀b u,H b=some u->b≠f:=λb u e z=>by subst z;rw [fr] at e;cases e
 have cP:c'≠P:=λz=>by
  subst z;rcases hc with⟨e,_⟩|e
  ·rw [hP] at e;cases e
  ·rw [hP] at e;cases e
 have fP:f≠P:=λz=>by subst z;rw [hP] at fr;cases fr
 have at_:∀b u,H b=some u->(∀q,u≠.gv q)->gV H P rh c' oc f fo b=some u:=λb u e n=>by
  unfold gV;rw [af (nf b u e)]
  by_cases hb:b=c'
  ·subst hb;rw [ak];rcases hc with⟨z,_⟩|z
   ·rw [z] at e;cases e
   ·rw [z] at e;exact e
  ·rw [af hb,af (nP b u e n)];exact e
 have no:∀b o,s.heap.get? b=some o->H b=none->gV H P rh c' oc f fo b=none:=λb o e n=>by
  have FZ:b≠f:=λz=>absurd (zzO e) (by rw [z];exact Nat.not_lt.mpr hf)
  have MN:b≠P:=λz=>by subst z;rw [hP] at n;cases n
  have An:b≠c':=λz=>by
   rcases hc with⟨_,y⟩|y
   ·exact absurd (zzO e) (by rw [z];exact Nat.not_lt.mpr y)
   ·rw [z,y] at n;cases n
  unfold gV;rw [af FZ,af An,af MN];exact n
 have kp:∀b o,s.heap.get? b=some o->H b=none->h'.get? b=some o:=λb o e n=>hx b o (λz=>by subst z;rw [hP] at n;cases n) e
 refine I.un ⟨λb o e n _ _=>kp b o e n,λb o e n _ _=>⟨o.slots,kp b o e n⟩,λb o e n _=>no b o e n,λb o e _=>?_,λb xs e=>at_ b _ e (λ_ z=>nomatch z),λb o u e=>at_ b _ e (λ_ z=>nomatch z),λb qs e=>?_⟩ λb u e=>?_
 ·by_cases hb:b=P
  ·exact⟨_,by rw [hb];exact Nb⟩
  ·exact⟨o,hx b o hb e⟩
 ·by_cases hb:b=P
  ·subst hb;rw [hP] at e;cases e;obtain⟨m,rfl⟩:=more
   exact⟨m,by unfold gV;rw [af (Ne.symm fP),af (Ne.symm cP),ak]⟩
  ·have An:b≠c':=λz=>by
    subst z;rcases hc with⟨y,_⟩|y
    ·rw [y] at e;cases e
    ·rw [y] at e;cases e
   exact⟨#[],by unfold gV;rw [af (nf b _ e),af An,af hb,e];simp⟩
 ·unfold gV at e
  by_cases h1:b=f
  ·subst h1;rw [ak] at e;cases e;exact iR VA
  ·rw [af h1] at e
   by_cases h2:b=c'
   ·subst h2;rw [ak] at e;cases e;exact iR Wr
   ·rw [af h2] at e
    by_cases h3:b=P
    ·subst h3;rw [ak] at e;cases e;exact Nb
    ·rw [af h3] at e;refine(I.aJ b u e).dY (λd v hd q=>hx d v ?_ q) (λd q=>at_ d _ q (λ_ z=>nomatch z)) λd xs q=>at_ d _ q (λ_ z=>nomatch z)
     rcases hd with hd|hd
     ·rw [hd];exact h3
     ·exact nP d _ hd (λ_ z=>nomatch z)
def C9{R:Addr->Obj->Prop}{params:Arguments}{body:Expr}{scope:Scope}{pos:Pos}{cl:List (Str×Addr)}{Q:Value->Shared->Prop}{E:Value->Shared->Prop}(I:Inv X ae σ H s)(hP:H P=some (.gv ps))(ht:TriplesOk ps.toList)(xt:X.env.code=.ref c)(C:PySem.W.CodeHd X.base c P)
 (VJ:Dm X.mg X.base) (ID:closureFor scope X.env=pure cl) (Jv:defaultsOf params X.env=([],[]))
 (hit:∀cv,codeAmong pos ps.toList=some cv->∃c' oc di t,cv=.ref c'/\H c'=some (.bE oc bV)/\R c' oc/\oc.data=.fields di/\di[1]?=some (.str (X.env.qual++"<lambda>") t))
 (h:∀(f c':Addr) (oc:Obj) (di:Array Value) (t:Tok) (fV:Value) (rh:Array Value) (h':Heap) (tk:Nat),H f=none->(H c'=none\/H c'=some (.bE oc bV)/\R c' oc)->c'≠f->f≠P->c'≠P->oc.data=.fields di->di[1]?=some (.str (X.env.qual++"<lambda>") t)->TriplesOk rh.toList->
  (∀p cv,codeAmong p rh.toList=some cv->codeAmong p ps.toList=some cv\/cv=.ref c')->(∃m,rh=ps++m)->
  Inv X ae σ (gV H P rh c' oc f (PySem.W.kla_obj "<lambda>" (X.env.qual++"<lambda>") params body scope cl ((X.mg "__name__").getD .none) c' fV)) {s with heap:=h',toks:=tk}->Q (.ref f) {s with heap:=h',toks:=tk}):
 wpAny (model X.prog X.w) X.A (eval (.Lambda params body scope pos) X.env) Q E s:=by
 have RT:s.heap.get? P=some (PySem.W.tabObj ps):=I.aJ P _ hP
 have hg:=I.ok.mod.glob.keeps I.bk
 have VP:mainGlobals≠P:=λq=>by
  obtain⟨o,es,ep,e,_⟩:=I.ok.mod.glob
  have:=(I.bs _ _ e).2
  rw [q,hP] at this;cases this
 obtain⟨bm,ob,b1,b2,b3,b4,b5,b6,b7⟩:=VJ
 have hB:s.heap.BuiltinsAt X.mg P:=⟨bm,ob,b1,b2,b3,(λq=>by
  have:=(I.bs _ _ b4).2
  rw [q,hP] at this;cases this),I.bk _ _ b4,b5,b6,b7⟩
 refine PySem.W.kla_eval Jv ?_;cases hm:codeAmong pos ps.toList with
 |none=>
  refine PySem.W.kla_makeFunction (mg:=X.mg) ID I.ok.glob hg xt (C.keeps I.bk) RT ht hm VP hB λc' fV h' tk hx LP bS Ry WR=>?_
  obtain⟨c₂,oc,vs,t,e2,hoc,hd,hv⟩:=Ry
  cases e2;have HR:H c'=none:=I.aJ.fresh LP
  have hsz:(zz9 s)<=h'.objs.size:=zzU LP (Nat.le_of_lt bS)
  have mJ:H h'.objs.size=none:=I.aJ.fresh hsz
  refine h h'.objs.size c' oc vs t fV _ _ tk mJ (.inl HR) (zzb bS) (λz=>by rw [z,hP] at mJ;cases mJ) (λz=>by rw [z,hP] at HR;cases HR) hd hv ?_ ?_ ⟨_,rfl⟩
   (I.lam hP (λb o hb e=>zzB _ (hx b o hb e)) (zzB _ WR) ⟨_,rfl⟩ (.inl ⟨HR,LP⟩) (zzB _ hoc) hsz (zzX _ rfl) (zzb bS))
  ·rw [Array.toList_append];exact TriplesOk_snoc _ _ _ _ ht
  ·intro p cv e;rw [Array.toList_append] at e;exact u0 _ ht e
 |some cv=>
  obtain⟨c',oc,di,t,rfl,iI,hR,hd,hv⟩:=hit cv hm
  refine PySem.W.kla_makeFunctionHit (mg:=X.mg) ID I.ok.glob hg xt (C.keeps I.bk) RT ht hm hB λfV h' tk hk hsz=>?_
  have mJ:H h'.objs.size=none:=I.aJ.fresh hsz
  have Al:s.heap.get? c'=some oc:=(I.aJ c' _ iI).1
  have D4:c'≠h'.objs.size:=λz=>by rw [z,mJ] at iI;cases iI
  refine h h'.objs.size c' oc di t fV ps _ tk mJ (.inr ⟨iI,hR⟩) D4 (λz=>by rw [z,hP] at mJ;cases mJ) (λz=>by rw [z,hP] at iI;cases iI) hd hv ht (λp cv e=>.inl e) ⟨#[],by simp⟩
   (I.lam hP (λb o hb e=>zzB _ (hk b o e)) (zzB _ (hk _ _ RT)) ⟨#[],by simp⟩ (.inr iI) (zzB _ (hk _ _ Al)) hsz (zzX _ rfl) D4)
end
section
end
section
end
section
variable{a b:Expr}
end
section
end
section
variable{κ:Type} [DecidableEq κ]
def ip(aw:List (κ×V))(k:κ):Option V:=(aw.find? λkv=>decide (kv.1=k)).map (·.2)
def putK(aw:List (κ×V))(k:κ)(v:V):List (κ×V):=
 if(aw.any λkv=>decide (kv.1=k))=true then aw.map (λkv=>if kv.1=k then(kv.1,v) else kv) else aw++[(k,v)]
def gk(aw:List (κ×V))(k:κ):List (κ×V):=aw.filter λkv=>decide (kv.1≠k)
def gN{p:κ×V}{r:List (κ×V)}{k:κ}(e:p.1=k):ip (p::r) k=some p.2:=by simp [ip,List.find?_cons,e]
def gR{p:κ×V}{r:List (κ×V)}{k:κ}(e:¬p.1=k):ip (p::r) k=ip r k:=by simp [ip,List.find?_cons,e]
theorem mW(k:κ):∀aw:List (κ×V),(aw.any λkv=>decide (kv.1=k))=(ip aw k).isSome
 |[]=>rfl
 |p::r=>by
  rw [List.any_cons]
  by_cases e:p.1=k
  ·simp! [gN e,zzh e,Bool.true_or,Option.isSome_some]
  ·rw [gR e,zz0 e,Bool.false_or];exact mW k r
def eX(aw:List (κ×V))(k:κ)(v:V):(putK aw k v).length<=aw.length+1:=by
 unfold putK;split
 ·rw [zzl];omega
 ·rw [zzM,zzL,List.length_nil];omega
def kS.fA{o:Option V}{u:Option Value}(r:kS o u):o.isSome=u.isSome:=by
 cases o with
 |none=>cases u with
  |none=>rfl
  |some _=>exact(show False from r).elim
 |some _=>cases u with
  |none=>exact(show False from r).elim
  |some _=>rfl
def KV.val{aw:List (κ×V)}{vs:List (κ×Value)}(r:KV aw vs)(k:κ):kS (ip aw k) (valueAt vs k):=by
 unfold KV at r
 induction r with
 |nil=>exact True.intro
 |@cons p q ps qs h t ih=>
  obtain⟨h1,h2⟩:=h
  by_cases e:p.1=k
  ·have e':q.1=k:=h1.symm.trans e
   have b:valueAt (q::qs) k=some q.2:=by simp [valueAt,List.find?_cons,e']
   rw [gN e,b];exact h2
  ·have e':¬q.1=k:=λz=>e (h1.trans z)
   have b:valueAt (q::qs) k=valueAt qs k:=by simp [valueAt,List.find?_cons,e']
   rw [gR e,b];exact ih
def KV.any{aw:List (κ×V)}{vs:List (κ×Value)}(r:KV aw vs)(k:κ):(aw.any λkv=>decide (kv.1=k))=vs.any λkv=>decide (kv.1=k):=by
 unfold KV at r
 induction r with
 |nil=>rfl
 |cons h t ih=>rw [List.any_cons,List.any_cons,ih,h.1]
def KV.L3{aw:List (κ×V)}{vs:List (κ×Value)}(r:KV aw vs)(k:κ){y:V}{u:Value}(ry:RelV y u):
 KV (aw.map λkv=>if kv.1=k then(kv.1,y) else kv) (vs.map λkv=>if kv.1=k then(kv.1,u) else kv):=by
 unfold KV at r⊢
 induction r with
 |nil=>exact .nil
 |@cons p q ps qs h t ih=>
  rw [zzF,zzF];refine .cons ?_ ih;obtain⟨h1,h2⟩:=h
  by_cases e:p.1=k
  ·rw [if_pos e,if_pos (h1.symm.trans e)];exact⟨h1,ry⟩
  ·rw [if_neg e,if_neg (λz=>e (h1.trans z))];exact⟨h1,h2⟩
def KV.put{aw:List (κ×V)}{vs:List (κ×Value)}(r:KV aw vs)(k:κ){y:V}{u:Value}(ry:RelV y u):KV (putK aw k y) (stored vs k u):=by
 unfold putK stored;rw [r.any k]
 by_cases e:(vs.any λkv=>decide (kv.1=k))=true
 ·rw [if_pos e,if_pos e];exact r.L3 k ry
 ·rw [if_neg e,if_neg e];exact Paired.snoc r ⟨rfl,ry⟩
def KV.length{aw:List (κ×V)}{vs:List (κ×Value)}(r:KV aw vs):aw.length=vs.length:=Paired.length r
def Cm(aw:List (κ×V))(k:κ):(gk aw k).length<=aw.length:=List.length_filter_le _ _
end
def ug{P:Program}{w:World}{k:Key}{u:Value}(r:RelV (kV k) u):(cq P w).is k u=true:=by
 cases k with
 |inl i=>obtain⟨t,e⟩:=(show∃t,u=Value.int i t from r);subst e;exact rV P w i t
 |inr x=>obtain⟨t,e⟩:=(show∃t,u=Value.str x t from r);subst e;exact uf P w x t
theorem oY{P:Program}{w:World}:∀{ks:List Key} {us:List Value},Vals (ks.map kV) us->ItemsAre (cq P w) ks us
 |[],_,r=>by rw [List.map_nil] at r;cases r;exact .nil
 |k::ks,_,r=>by
  rw [zzF] at r;cases r with
  |cons h t=>exact .cons (ug h) (oY t)
abbrev KT(H:Hp):List (List Key×V)->List (List Key×Addr×Value)->Prop:=Paired λp q=>p.1=q.1/\H q.2.1=some (.tup (p.1.map kV))/\RelV p.2 q.2.2
def KT.val{H:Hp}{aw:List (List Key×V)}{xs:List (List Key×Addr×Value)}(r:KT H aw xs)(k:List Key):kS (ip aw k) ((atKey xs k).map (·.2)):=by
 induction r with
 |nil=>exact True.intro
 |@cons p q ps qs h t ih=>
  obtain⟨h1,_,h2⟩:=h
  by_cases e:p.1=k
  ·have e':q.1=k:=h1.symm.trans e
   have b:atKey (q::qs) k=some q.2:=by simp [atKey,List.find?_cons,e']
   rw [gN e,b];exact h2
  ·have e':¬q.1=k:=λz=>e (h1.trans z)
   have b:atKey (q::qs) k=atKey qs k:=by simp [atKey,List.find?_cons,e']
   rw [gR e,b];exact ih
def KT.L3{H:Hp}{aw:List (List Key×V)}{xs:List (List Key×Addr×Value)}(r:KT H aw xs)(k:List Key){y:V}{u:Value}(ry:RelV y u):
 KT H (aw.map λkv=>if kv.1=k then(kv.1,y) else kv) (xs.map (putAt k u)):=by
 induction r with
 |nil=>exact .nil
 |@cons p q ps qs h t ih=>
  rw [zzF,zzF];refine .cons ?_ ih;obtain⟨h1,h2,h3⟩:=h
  unfold putAt
  by_cases e:p.1=k
  ·rw [if_pos e,if_pos (h1.symm.trans e)];exact⟨h1,h2,ry⟩
  ·rw [if_neg e,if_neg (λz=>e (h1.trans z))];exact⟨h1,h2,h3⟩
def KT.put{H:Hp}{aw:List (List Key×V)}{xs:List (List Key×Addr×Value)}(r:KT H aw xs)(k:List Key){b:Addr}{y:V}{u:Value}(hb:H b=some (.tup (k.map kV)))(ry:RelV y u):
 KT H (putK aw k y) (storedH xs k b u):=by
 have e:(aw.any λkv=>decide (kv.1=k))=(atKey xs k).isSome:=by
  rw [mW,(r.val k).fA,Option.isSome_map]
 unfold putK storedH;rw [e]
 by_cases q:(atKey xs k).isSome=true
 ·rw [if_pos q,if_pos q];exact r.L3 k ry
 ·rw [if_neg q,if_neg q];exact Paired.snoc r ⟨rfl,hb,ry⟩
def KT.keeps{H H':Hp}{aw:List (List Key×V)}{xs:List (List Key×Addr×Value)}(r:KT H aw xs)(ht:∀b ys,H b=some (.tup ys)->H' b=some (.tup ys)):KT H' aw xs:=
 Paired.yU r λ_ _ z=>⟨z.1,ht _ _ z.2.1,z.2.2⟩
section
variable{P:Program}{w:World}{H:Hp}{h:Heap}{a:Addr}
def HH{u:HO}(ok:eg P w H h)(e:Rd H a u):bW P w H h a u:=e.ok ok
def oT{aw:List (Key×V)}(ok:eg P w H h)(e:Rd H a (.dK aw)):aw.length<=sizeLine/\(a==sysModules)=false/\∃vs,KV aw vs/\h.DictOf (cq P w) a vs:=
 show bW P w H h a (.dK aw) from HH ok e
def PC{aw:List (Key×V)}(ok:eg P w H h)(e:H a=some (.dK aw)):aw.length<=sizeLine/\(a==sysModules)=false/\∃vs,KV aw vs/\h.DictOf (cq P w) a vs:=oT ok (.inl e)
def gH{ks:List Key}(ok:eg P w H h)(e:H a=some (.tup (ks.map kV))):(tupleKind (cq P w)).is h ks a:=by
 obtain⟨_,ay,r,o,h1,h2,n,h3⟩:=(show bW P w H h a (.tup (ks.map kV)) from ok a _ e)
 exact⟨o,ay.toArray,n,h1,h2,h3,by simpa using oY r⟩
def kD{aw:List (List Key×V)}(ok:eg P w H h)(e:Rd H a (.dT aw)):aw.length<=sizeLine/\(a==sysModules)=false/\
 ∃xs,KT H aw xs/\h.DictOfH (tupleKind (cq P w)) a xs:=by
 obtain⟨z,y,xs,r,o,es,ep,h1,h2,h3,h4,h5⟩:=(show bW P w H h a (.dT aw) from HH ok e)
 refine⟨z,y,xs,r,o,es,ep,h1,h2,h3,h4,λx hx=>?_,h5⟩
 have all:∀{l:List (List Key×V)} {m:List (List Key×Addr×Value)},KT H l m->∀x∈m,(tupleKind (cq P w)).is h x.1 x.2.1:=by
  intro l m q
  induction q with
  |nil=>intro x hx;exact nomatch hx
  |@cons p q ps qs hq t ih=>
   intro x hx;rcases zzm.mp hx with e|hx
   ·subst e;exact gH ok (by rw [<-hq.1];exact hq.2.1)
   ·exact ih x hx
 exact all r x hx
def Bv{aw:List (List Key×V)}(ok:eg P w H h)(e:H a=some (.dT aw)):aw.length<=sizeLine/\(a==sysModules)=false/\
 ∃xs,KT H aw xs/\h.DictOfH (tupleKind (cq P w)) a xs:=kD ok (.inl e)
end
def AA(H:Hp)(a:Addr)(y:V)(r:Option V):Prop:=
 (∃aw k,Rd H a (.dK aw)/\y=kV k/\r=ip aw k)\/∃aw k b,Rd H a (.dT aw)/\y=.ref b/\H b=some (.tup (k.map kV))/\r=ip aw k
def yQ(H:Hp)(a:Addr)(y v:V)(H':Hp):Prop:=
 (∃aw k,H a=some (.dK aw)/\y=kV k/\aw.length<sizeLine/\H'=upd H a (.dK (putK aw k v)))\/
 ∃aw k b,H a=some (.dT aw)/\y=.ref b/\H b=some (.tup (k.map kV))/\aw.length<sizeLine/\H'=upd H a (.dT (putK aw k v))
def yQ.t{H:Hp}{a b:Addr}{aw:List (List Key×V)}{k:List Key}{v:V}(e:H a=some (.dT aw))(eb:H b=some (.tup (k.map kV)))(hl:aw.length<sizeLine):
 yQ H a (.ref b) v (upd H a (.dT (putK aw k v))):=.inr ⟨aw,k,b,e,rfl,eb,hl,rfl⟩
section
variable{X:Cx}{ae:List (Addr×Obj)}{σ:St}{H:Hp}{s:Shared}{a:Addr}{y v:V}{u r:Value}{o:Option V}{A:Around}{E:Value->Shared->Prop}
def Inv.big(I:Inv X ae σ H s):sysModules<(zz9 s):=by
 have h:mainGlobals<(zz9 s):=(I.mod.glob.keeps I.bk).lt
 exact Nat.lt_trans (by decide) h
def yM{Q:Value->Shared->Prop}(hu:A.units+1<cLine)(I:Inv X ae σ H s)(g:AA H a y (some v))(ry:RelV y u)(h:∀w' s',Inv X ae σ H s'->RelV v w'->Q w' s'):
 wpAny (model X.prog X.w) A (getItem (.ref a) u) Q E s:=by
 rcases g with⟨aw,k,e,ey,l⟩|⟨aw,k,b,e,ey,eb,l⟩
 ·subst ey;obtain⟨z,hd,vs,rel,dd⟩:=oT I.aJ e
  obtain⟨w',hw,iC⟩:=kS.some_of (v:=v) (o:=valueAt vs k) (by rw [l];exact rel.val k)
  exact wpAny_getItem_of (ug ry) dd.mapOf hw (h w' _ (I.tok _) iC)
 ·subst ey;cases(show u=Value.ref b from ry);obtain⟨z,hd,xs,rel,dd⟩:=kD I.aJ e
  obtain⟨w',hw,iC⟩:=kS.some_of (v:=v) (o:=(atKey xs k).map (·.2)) (by rw [l];exact rel.val k)
  obtain⟨p,hp,hp2⟩:=zzJ.mp hw
  refine wpAny_getItem_heap (tupleKind_room_in1 hu) (gH I.aJ eb) dd hp ?_;rw [hp2];exact h w' _ (I.tok _) iC
def Sm{Q:Value->Shared->Prop}(hu:A.units+1<cLine)(I:Inv X ae σ H s)(g:AA H a y o)(ry:RelV y u)(h:∀s',Inv X ae σ H s'->Q (.bool o.isSome) s'):
 wpAny (model X.prog X.w) A (compareOp .In u (.ref a)) Q E s:=by
 rcases g with⟨aw,k,e,ey,l⟩|⟨aw,k,b,e,ey,eb,l⟩
 ·subst ey;obtain⟨z,hd,vs,rel,dd⟩:=oT I.aJ e
  refine wpAny_in_of (ug ry) hd dd.mapOf ?_;rw [<-(rel.val k).fA,<-l];exact h _ (I.tok _)
 ·subst ey;cases(show u=Value.ref b from ry);obtain⟨z,hd,xs,rel,dd⟩:=kD I.aJ e
  refine wpAny_in_heap (tupleKind_room_in1 hu) (gH I.aJ eb) hd dd ?_;have q:=(rel.val k).fA
  rw [Option.isSome_map] at q;rw [<-q,<-l];exact h _ (I.tok _)
def Gz{Q:Value->Shared->Prop}(hu:A.units+1<cLine)(I:Inv X ae σ H s)(g:AA H a y o)(ry:RelV y u)(h:∀s',Inv X ae σ H s'->Q (.bool (!o.isSome)) s'):
 wpAny (model X.prog X.w) A (compareOp .NotIn u (.ref a)) Q E s:=by
 rcases g with⟨aw,k,e,ey,l⟩|⟨aw,k,b,e,ey,eb,l⟩
 ·subst ey;obtain⟨z,hd,vs,rel,dd⟩:=oT I.aJ e
  refine wpAny_notIn_of (ug ry) hd dd.mapOf ?_;rw [<-(rel.val k).fA,<-l];exact h _ (I.tok _)
 ·subst ey;cases(show u=Value.ref b from ry);obtain⟨z,hd,xs,rel,dd⟩:=kD I.aJ e
  refine wpAny_notIn_heap (tupleKind_room_in1 hu) (gH I.aJ eb) hd dd ?_;have q:=(rel.val k).fA
  rw [Option.isSome_map] at q;rw [<-q,<-l];exact h _ (I.tok _)
theorem ij{h':Heap}{t':Nat}{ob:HO}(I:Inv X ae σ H s)(mu:Pa (H a))(hs:Heap.SameBut a s.heap h')(he:∃q,h'.get? a=some q)(new:bW X.prog X.w (upd H a ob) h' a ob):
 Inv X ae σ (upd H a ob) {s with heap:=h',toks:=t'}:=
 I.write (x:=a) (e:=a) mu (.inl rfl) (λb q hb z=>(hs.2 b hb).trans z) he new
def K8{P:Program}{w:World}{H':Hp}{h':Heap}{aw:List (Key×V)}{vs:List (Key×Value)}(z:aw.length<=sizeLine)(hd:(a==sysModules)=false)(rel:KV aw vs)(dd:h'.DictOf (cq P w) a vs):
 bW P w H' h' a (.dK aw):=⟨z,hd,vs,rel,dd⟩
def zY{H':Hp}{Q:Unit->Shared->Prop}(hu:A.units+1<cLine)(I:Inv X ae σ H s)(g:yQ H a y v H')(ry:RelV y u)(rv:RelV v r)(h:∀s',Inv X ae σ H' s'->Q () s'):
 wpAny (model X.prog X.w) A (setItem (.ref a) u r) Q E s:=by
 rcases g with⟨aw,k,e,ey,l,eH⟩|⟨aw,k,b,e,ey,eb,l,eH⟩
 ·subst ey eH;obtain⟨z,hd,vs,rel,dd⟩:=PC I.aJ e
  have hz:vs.length<=sizeLine:=by rw [<-rel.length];exact z
  have hl:(putK aw k v).length<=sizeLine:=by have:=eX aw k v;omega
  refine wpAny_setItem_pairs (hsz:=hz) (ug ry) dd λh' HZ hs=>h _ ?_
  have he:∃q,h'.get? a=some q:=let⟨q,_,_,hq,_⟩:=HZ;⟨q,hq⟩
  exact ij I (by rw [e];exact True.intro) hs he (K8 hl hd (rel.put k rv) HZ)
 ·subst ey eH;cases(show u=Value.ref b from ry);obtain⟨z,hd,xs,rel,dd⟩:=Bv I.aJ e
  have hz:xs.length<=sizeLine:=by rw [<-Paired.length rel];exact z
  have hl:(putK aw k v).length<=sizeLine:=by have:=eX aw k v;omega
  refine wpAny_setItem_heap (hsz:=hz) (tupleKind_room_in1 hu) (gH I.aJ eb) dd λh' HZ hs=>h _ ?_
  obtain⟨q,es,ep,hq,h2,h3,h4,_,h5⟩:=HZ
  refine ij I (by rw [e];exact True.intro) hs ⟨q,hq⟩ ⟨hl,hd,_,(rel.put k eb rv).keeps λc ys ec=>?_,q,es,ep,hq,h2,h3,h4,h5⟩
  rw [af (fK ec e (λz=>nomatch z))];exact ec
end
def Oy(i:Expr):Prop:=∀ov iv,subscripted i false ov iv=operate [ov,iv] (getItem ov iv)
def E7{prog:Program}{w:World}{A:Around}{E:Value->Shared->Prop}{s:Shared}{env:Env}{value slice:Expr}{pos:Pos}{T id:String}{Q:Value->Shared->Prop}
 (hl:typeLookup (.type T) "__getitem__"=pure (some (.builtin id))) (hs:Oy slice)
 (h:wpAny (model prog w) A (eval value env) (λo s₁=>wpAny (model prog w) A (eval slice env) (λi s₂=>s₂.TypeIs o T/\wpAny (model prog w) A (getItem o i) Q E s₂) E s₁) E s):
 wpAny (model prog w) A (eval (.Subscript value slice pos) env) Q E s:=by
 refine Subscript_ (wpAny_mono h (λo s₁ h₁=>wpAny_mono h₁ (λi s₂ h₂=>?_) λ_ _ x=>x) λ_ _ x=>x)
 obtain⟨hT,h₂⟩:=h₂
 unfold subscriptTail;refine zzA ?_;rw [getitemInPython_of_ne hT.not_modules];refine zzA (wpAny_specialOf hT hl ?_);have fin:wpAny (model prog w) A (subscripted slice false o i) (λr s₃=>wpAny (model prog w) A (letTemporaryGo value o r>>=λ_=>pure r) Q E s₃) E s₂:=by
  rw [hs o i];exact wpAny_operating (wpAny_mono h₂ (λr s₃ h₃=>zzA (wpAny_letTemporaryGo (zzG h₃))) λ_ _ x=>x)
 first
  |exact zzG (zzA fin)
  |exact zzA (zzG (zzA fin))
  |exact zzA fin
def sx{X:Cx}{ae:List (Addr×Obj)}{σ:St}{H:Hp}{s:Shared}{a:Addr}{y:V}{o:Option V}(I:Inv X ae σ H s)(g:AA H a y o):s.TypeIs (.ref a) "dict":=by
 rcases g with⟨aw,k,e,_,_⟩|⟨aw,k,b,e,_,_,_⟩
 ·obtain⟨_,_,vs,_,dd⟩:=oT I.aJ e
  exact dd.typeIs
 ·obtain⟨_,_,xs,_,dd⟩:=kD I.aJ e
  exact dd.typeIs
def IL(td ty:TE):TE:=λσ H Q=>td σ H λx H1=>ty σ H1 λy H2=>∃a v,x=.ref a/\AA H2 a y (some v)/\Q v H2
section
variable{X:Cx}{o i:Expr}{pos:Pos}{td ty:TE}
def Gp(hu:X.A.units+1<cLine)(ho:PE X o td)(hi:PE X i ty)(hs:Oy i):PE X (.Subscript o i pos) (IL td ty):=by
 intro ae s σ H Q I h;refine E7 PySem.F.slot_dict_getitem.lookup hs (cj (ho ae s σ H _ I h) λu s1 ⟨x,H1,I1,rx,q1⟩=>cj (hi ae s1 σ H1 _ I1 q1) λiv s2 ⟨y,H2,I2,ry,a,v,ex,g,q2⟩=>?_)
 subst ex;obtain rfl:u=Value.ref a:=rx
 exact⟨sx I2 g,yM hu I2 g ry λw' s3 I3 iC=>⟨v,H2,I3,iC,q2⟩⟩
end
theorem rS{P:Program}{w:World}{H:Hp}(h:Heap)(hb:sysModules<h.objs.size):bW P w H (h.push {cls:=.type "dict",data:=.dict #[]}) h.objs.size (.dT []):=
 ⟨Nat.zero_le _,beq_eq_false_iff_ne.mpr (Ne.symm (zzb hb)),[],.nil,_,#[],0,zzX _ rfl,⟨rfl,rfl,rfl⟩,rfl,rfl,List.nodup_nil⟩
def Ls:TE:=λ_ H Q=>∀p,H p=none->Q (.ref p) (upd H p (.dT []))
section
variable{X:Cx}{pos:Pos}
theorem AN:PE X (.Dict [] [] pos) Ls:=λae s σ H Q I h=>
 wpAny_Dict_empty ⟨.ref (zz9 s),_,I.laid (a:=(zz9 s)) (o:=.dT []) (t':=s.toks) (λ_ _ q=>zzB _ q) (zzE _) (rS s.heap I.big),rfl,h _ (I.aJ.fresh (zzE _))⟩
end
structure M1(X:Cx)(o:Expr)(m:Str)(apos:Pos)(e:Expr)(bL:Pos):Prop where
 base:attributeBase o m X.env (eval o X.env)=eval o X.env
 Uo:((backTo bL (starEach [e] X.env)).all (λx=>!x.1)&&(backToKw bL (keywordEach [] X.env)).all (λx=>x.1.isSome)
  &&decide (([e]:List Expr).length+([]:List Keyword).length+(if([]:List Keyword).isEmpty then 0 else 1)<30))=true
 line:(apos.endLine==bL.line)=true
 trees:backTo bL (starEach [e] X.env)=[(false,eval e X.env)]
structure M2(X:Cx)(o:Expr)(m:Str)(apos:Pos)(e f:Expr)(bL:Pos):Prop where
 base:attributeBase o m X.env (eval o X.env)=eval o X.env
 Uo:((backTo bL (starEach [e,f] X.env)).all (λx=>!x.1)&&(backToKw bL (keywordEach [] X.env)).all (λx=>x.1.isSome)
  &&decide (([e,f]:List Expr).length+([]:List Keyword).length+(if([]:List Keyword).isEmpty then 0 else 1)<30))=true
 line:(apos.endLine==bL.line)=true
 trees:backTo bL (starEach [e,f] X.env)=[(false,eval e X.env),(false,eval f X.env)]
def Ic(H:Hp)(a:Addr):Prop:=(∃aw,Rd H a (.dK aw))\/∃aw,Rd H a (.dT aw)
def Mf{X:Cx}{ae:List (Addr×Obj)}{σ:St}{H:Hp}{s:Shared}{a:Addr}(I:Inv X ae σ H s)(d:Ic H a):
 s.TypeIs (.ref a) "dict"/\(∀b,Value.ref a=.ref b->∃ob,s.heap.get? b=some ob/\ob.dict=none)/\(a==sysModules)=false:=by
 rcases d with⟨aw,e⟩|⟨aw,e⟩
 ·obtain⟨_,hd,vs,_,dd⟩:=oT I.aJ e
  refine⟨dd.typeIs,λb q=>?_,hd⟩
  cases q;obtain⟨ob,_,_,h1,h2,_⟩:=dd
  exact⟨ob,h1,h2.2.1⟩
 ·obtain⟨_,hd,xs,_,dd⟩:=kD I.aJ e
  refine⟨dd.typeIs,λb q=>?_,hd⟩
  cases q;obtain⟨ob,_,_,h1,h2,_⟩:=dd
  exact⟨ob,h1,h2.2.1⟩
end L2
namespace Att
open PySem PySem.W PySem.Calls PyProof.Rows
section
end
end Att
namespace L2
open PySem PySem.Spec PyProof.Rows
section
variable{κ:Type} [DecidableEq κ]
def yT{p:κ×V}{r:List (κ×V)}{k:κ}(e:p.1=k):gk (p::r) k=gk r k:=by
 unfold gk;rw [zz3,if_neg (by simp [e])]
def yZ{p:κ×V}{r:List (κ×V)}{k:κ}(e:¬p.1=k):gk (p::r) k=p::gk r k:=by
 unfold gk;rw [zz3,if_pos (by simp [e])]
end
section
variable{prog:Program}{w:World}{κ:Type} [DecidableEq κ]{knd:HeapKind prog w κ}{A:Around}{E:Value->Shared->Prop}{s:Shared}{d a:Addr}{xs:List (κ×Addr×Value)}{k:κ}
theorem qH(d:Addr)(lo:(d==sysModules)=false):MeetsIn prog w (Builtin.«dict.__len__» ⟨[.ref d],[]⟩) (λ_ R s=>∃xs,s.heap.DictOfH knd d xs/\R (.ok (.ret (.int xs.length s.toks))) {s with toks:=s.toks+1}):=
 .of_wp λA R s ⟨xs,⟨o,es,ep,h1,_,h2,h3,_⟩,h⟩=>by
  show wpAny _ _ (dictSize d>>=λn=>_) _ _ s
  unfold dictSize;refine zzA (zzA (wpAny_dictEntries h1 h2 (zzG (zzA (wpAny_pendingCount_other lo (wpAny_ret_mkInt ?_))))));rw [Nat.add_zero,size_of_entries h3];exact h
def Me{Q:Value->Shared->Prop}(lo:(d==sysModules)=false)(hm:s.heap.DictOfH knd d xs)(hf:(xs.length:Int)<2^63)(h:Q (.int xs.length (s.toks+1)) {s with toks:=s.toks+1+1}):wpAny (model prog w) A (call (.builtin "len") [.ref d]) Q E s:=by
 refine Calls.call_function_entry kind_len plain_len entry_len (args_len1 _) ?_;unfold Builtin.«len»;refine zzA (m:=oneArg "len" _) (zzG (zzA (m:=callSpecial? (.ref d) (Str.ofString "__len__")) (wpAny_callSpecial?_slot (name:=Str.ofString "__len__") hm.typeIs F.slot_dict_len
  (call_meetsIn F.slot_dict_len hm.typeIs F.entry_dict_len (F.args_dict_len_1 _) (qH (knd:=knd) d lo) ⟨xs,hm,?_⟩))))
 show wpAny _ _ (holding _ _>>=λz=>_) _ _ {s with toks:=s.toks+1}
 refine zzA (wpAny_holding (zzG (zzA (wpAny_letGo ?_))));show wpAny _ _ (if((xs.length:Nat):Int)<0 then _ else(if((xs.length:Nat):Int)>=2^63 then _ else _)) _ _ _;rw [if_neg (by omega),if_neg (by omega)];exact zzA (wpAny_mkInt (zzG ⟨_,rfl,h⟩))
def AI{l:List (κ×Addr×Value)}:∀{j:Nat} {p:Addr×Value},(l.map (·.1)).Nodup->l[j]?=some (k,p)->l.eraseIdx j=l.filter λx=>decide (x.1≠k):=by
 induction l with
 |nil=>intro j p _ h;simp at h
 |cons x r ih=>
  intro j p nd h;rw [zzF,List.nodup_cons] at nd;cases j with
  |zero=>
   simp! [List.getElem?_cons_zero,Option.some.injEq] at h;subst h;simp! [List.eraseIdx_cons_zero,ne_eq,zz3,not_true,decide_false,zze,if_false];refine(List.filter_eq_self.mpr λy hy=>?_).symm;exact zzh λe=>nd.1 (e▸List.mem_map_of_mem (f:=(·.1)) hy)
  |succ j=>
   simp! [List.getElem?_cons_succ] at h;have g8:¬x.1=k:=λe=>nd.1 (e▸zzx.mpr ⟨(k,p),zzD h,rfl⟩)
   rw [List.eraseIdx_cons_succ,zz3,if_pos (by simpa using g8),ih nd.2 h]
theorem pH{α β:Type}(f:α->β):∀(l:List α) (j:Nat),(l.eraseIdx j).map f=(l.map f).eraseIdx j
 |[],_=>by simp
 |x::r,0=>by simp
 |x::r,j+1=>by simp [pH f r j]
def vp{p:Addr×Value}{Q:Option DictEntry->Shared->Prop}(hu:knd.room A)(hk:knd.is s.heap k a)(hm:s.heap.DictOfH knd d xs)(hp:atKey xs k=some p)(hz:xs.length<=sizeLine)
 (hQ:∀h' e,e.val=p.2->h'.DictOfH knd d (xs.filter λx=>decide (x.1≠k))->Heap.SameBut d s.heap h'->Q (some e) {s with heap:=h',toks:=s.toks+knd.draws k}):wpAny (model prog w) A (Builtin.Dict.takeOut d (.ref a)) Q E s:=by
 obtain⟨o,es,ep,h1,hc,h2,h3,his,nd⟩:=hm
 unfold Builtin.Dict.takeOut
 try with_reducible refine wpAny_holding ?_
 refine zzA (knd.pyHash hu hk (zzA (wpAny_dictFind_heap (s:={s with toks:=s.toks+knd.draws k}) hu hk h1 h2 h3 his nd (λno=>?_) λj q hj=>?_)))
 ·rw [atKey_none_of_get no] at hp;cases hp
 ·rw [atKey_of_get nd hj] at hp;cases hp;refine zzA (wpAny_dictEntries (s:={s with toks:=s.toks+knd.draws k}) h1 h2 ?_);rw [entry_at h3 j,hj];refine zzA (wpAny_updateDictKeys (hz:=by have e:=size_of_entries h3;omega) (s:={s with toks:=s.toks+knd.draws k}) h1 h2 (zzG (hQ _ _ rfl ⟨_,_,ep+1,Heap.get?_update_self _ h1 (Obj.isFreed_of_dict (Obj.data_mapDictKeys h2 _)),
   hc.mapDictKeys _,Obj.data_mapDictKeys h2 _,?_,λx hx=>knd.keeps (his x (List.mem_filter.mp hx).1) h1 h2 (zzu ..),nd.sublist (List.filter_sublist.map _)⟩ (zzu ..))))
  rw [<-AI nd hj,pH,<-h3];obtain⟨l⟩:=es
  simp [Array.eraseIdxIfInBounds];split
  ·simp
  ·rename_i hh;rw [List.eraseIdx_of_length_le (by simpa using hh)]
def qX(d a:Addr):MeetsIn prog w (Builtin.«dict.pop» ⟨[.ref d,.ref a],[]⟩) (λA R s=>knd.room A.in1/\∃k xs p,knd.is s.heap k a/\s.heap.DictOfH knd d xs/\xs.length<=sizeLine/\atKey xs k=some p/\
 ∀h',h'.DictOfH knd d (xs.filter λx=>decide (x.1≠k))->Heap.SameBut d s.heap h'->R (.ok (.ret p.2)) {s with heap:=h',toks:=s.toks+knd.draws k}):=
 .of_wp λA R s ⟨hu,k,xs,p,hk,hm,hz,hp,h⟩=>by
  obtain⟨o,es,ep,h1,_,h2,h3,_⟩:=id hm
  have ne:es.isEmpty=false:=by
   cases xs with
   |nil=>cases hp
   |cons x r=>
    have:=size_of_entries h3
    rw [zzL] at this;rw [Array.isEmpty_eq_false_iff_exists_mem];exact⟨es[0]'(by omega),Array.getElem_mem _⟩
  unfold Builtin.«dict.pop»;refine zzA ?_;unfold Builtin.Dict.keyAndDefault;refine zzA (wpAny_notOrdered_dict hm.typeIs ?_);show wpAny _ _ (pure (d,Value.ref a,Option.none)) _ _ s;refine zzG ?_;have kp:(keyPart (Value.ref a)).isSome=false:=rfl
  simp! [kp,zze,if_false];refine zzA (wpAny_dictEntries h1 h2 (zzA (zzG ?_)));rw [ne];simp! [zze,if_false];refine zzA (vp hu hk hm hp hz λh' e ev kG hs=>?_);simp! [Option.isNone_some,zze,if_false];exact zzA (wpAny_letGo (zzG ⟨e.val,rfl,by rw [ev];exact h h' kG hs⟩))
def qz{o:Obj}{es:Array DictEntry}{ep:Nat}{Q:Value->Shared->Prop}(lo:(d==sysModules)=false)(h1:s.heap.get? d=some o)(hc:o.ExactDict)(h2:o.data=.dict es ep)
 (hQ:Q (.ref (zz9 s)) {s with heap:=s.heap.push {cls:=.type "dict_keyiterator",data:=.fields #[.ref d,.int 0 0,.int es.size 0,.int ep 0]}}):wpAny (model prog w) A (pyIter (.ref d)) Q E s:=by
 have T:s.TypeIs (.ref d) "dict":=⟨o,h1,hc.1⟩
 refine wpAny_pyIter_slot T F.slot_dict_iter (wpAny_call_entry F.slot_dict_iter T F.entry_dict_iter ?_ (F.args_dict_iter_1 _));unfold Builtin.«dict.__iter__» Builtin.Dict.dictSlotNone;refine zzA (zzA (wpAny_notOrdered_dict T ?_));show wpAny _ _ (pure (Value.ref d):Sem Value) _ _ s;refine zzG ?_;show wpAny _ _ (Builtin.Dict.showsAll d>>=λ_=>_) _ _ s;unfold Builtin.Dict.showsAll;rw [if_neg (by rw [lo];exact zzf)];refine zzA (zzG (zzA (wpAny_dictEntries h1 h2 (zzA (wpAny_dictEpoch h1 h2 ?_)))));refine zzA (wpAny_newObj_type (zzG ⟨_,rfl,"dict_keyiterator",_,⟨_,zzX _ rfl,rfl⟩,F.slot_dict_keyiterator_next.lookup,?_⟩))
 simpa [rawInt] using hQ
def lG{it:Addr}{i ep:Nat}{o:Obj}{es:Array DictEntry}{Q:Option Value->Shared->Prop}(st:s.heap.IsKeyIter it d i es.size ep)(h1:s.heap.get? d=some o)(h2:o.data=.dict es ep)(hi:i<es.size)
 (hQ:∀h',h'.IsKeyIter it d (i+1) es.size ep->Heap.SameBut it s.heap h'->Q (some es[i].key) {s with heap:=h'}):wpAny (model prog w) A (pyNext (.ref it)) Q E s:=by
 obtain⟨oi,g1,g2,g3⟩:=id st
 have own:Builtin.Dict_items.ownsTuple "dict_keyiterator"=false:=by decide
 unfold pyNext;refine zzA (wpAny_attempt (wpAny_callSpecial?_slot (name:=Str.ofString "__next__") st.typeIs F.slot_dict_keyiterator_next (wpAny_call_entry F.slot_dict_keyiterator_next st.typeIs F.entry_dict_keyiterator_next ?_ (F.args_dict_keyiterator_next_1 _))));refine zzA (zzG (zzA (zzA ?_)))
 first|refine zzA (wpAny_typeNameOfWhole_keyiter st.typeIs (zzG (zzA (wpAny_fieldsOf g1 g3 ?_))))|refine zzA (wpAny_typeNameOf_keyiter st.typeIs (zzG (zzA (wpAny_fieldsOf g1 g3 ?_))))
 simp! [own,zze,if_false];show wpAny _ _ (if(Value.ref d==Value.none)=true then _ else _:Sem _) _ _ s;rw [if_neg (show¬((Value.ref d==Value.none)=true) from zzf)];refine zzA (zzG (zzA (wpAny_dictEntries h1 h2 ?_)));rw [if_neg (by simp)];refine zzA (zzG (zzA (wpAny_dictEpoch h1 h2 ?_)));rw [if_neg (by simp)];refine zzG ?_;simp! [show¬((i:Int)<0) from by omega,if_false,zz4,zz2 hi];refine zzA ?_
 first|refine zzA (wpAny_typeNameOfWhole_keyiter st.typeIs (zzG (zzA (wpAny_isOneOf_keyiter st.typeIs ?_))))|refine zzA (wpAny_typeNameOf_keyiter st.typeIs (zzG (zzA (wpAny_isOneOf_keyiter st.typeIs ?_))))
 show wpAny _ _ (setField (.ref it) 1 (rawInt ((i:Int)+1))>>=λ_=>_) _ _ s
 have iV:(s.heap.update it (Obj.mapFields (·.setIfInBounds 1 (rawInt ((i:Int)+1))))).IsKeyIter it d (i+1) es.size ep:=
  ⟨_,Heap.get?_update_self _ g1 (Obj.isFreed_of_fields (Obj.data_mapFields g3 _)),(Obj.cls_mapFields ..).trans g2,by rw [Obj.data_mapFields g3];simp [rawInt]⟩
 refine zzA (wpAny_setField g1 g3 (by simp) (zzA (wpAny_holding (zzA (wpAny_isOneOf_keyiter (s:={s with heap:=s.heap.update it (Obj.mapFields (·.setIfInBounds 1 (rawInt ((i:Int)+1))))}) iV.typeIs ?_)))));show wpAny _ _ (pure es[i].key:Sem Value) _ _ _;exact zzG (zzG ⟨_,rfl,zzG (hQ _ iV (zzu ..))⟩)
def uT{it:Addr}{i ep:Nat}{o:Obj}{es:Array DictEntry}{Q:Option Value->Shared->Prop}(hh:A.handled=none)(st:s.heap.IsKeyIter it d i es.size ep)(h1:s.heap.get? d=some o)(h2:o.data=.dict es ep)(hi:es.size<=i)
 (hQ:∀h',Heap.ExtBut it s.heap h'->Q none {s with heap:=h'}):wpAny (model prog w) A (pyNext (.ref it)) Q E s:=by
 obtain⟨oi,g1,g2,g3⟩:=id st
 have own:Builtin.Dict_items.ownsTuple "dict_keyiterator"=false:=by decide
 unfold pyNext;refine zzA (wpAny_attempt (wpAny_callSpecial?_slot (name:=Str.ofString "__next__") st.typeIs F.slot_dict_keyiterator_next (wpAny_call_entry F.slot_dict_keyiterator_next st.typeIs F.entry_dict_keyiterator_next ?_ (F.args_dict_keyiterator_next_1 _))));refine zzA (zzG (zzA (zzA ?_)))
 first|refine zzA (wpAny_typeNameOfWhole_keyiter st.typeIs (zzG (zzA (wpAny_fieldsOf g1 g3 ?_))))|refine zzA (wpAny_typeNameOf_keyiter st.typeIs (zzG (zzA (wpAny_fieldsOf g1 g3 ?_))))
 simp! [own,zze,if_false];show wpAny _ _ (if(Value.ref d==Value.none)=true then _ else _:Sem _) _ _ s;rw [if_neg (show¬((Value.ref d==Value.none)=true) from zzf)];refine zzA (zzG (zzA (wpAny_dictEntries h1 h2 ?_)));rw [if_neg (by simp)];refine zzA (zzG (zzA (wpAny_dictEpoch h1 h2 ?_)));rw [if_neg (by simp)];refine zzG ?_;simp! [show¬((i:Int)<0) from by omega,if_false,zz4,Array.getElem?_eq_none hi];refine zzA ?_
 first|refine zzA (wpAny_typeNameOfWhole_keyiter st.typeIs (zzG ?_))|refine zzA (wpAny_typeNameOf_keyiter st.typeIs (zzG ?_))
 show wpAny _ _ (setField (.ref it) 0 .none>>=λ_=>_) _ _ s
 refine zzA (wpAny_setField g1 g3 (by simp) ?_);show wpAny _ _ (newExc (.type "StopIteration") []>>=λ_=>_) _ _ _
 refine zzA ?_;simp! [newExc,newTuple];refine zzA (wpAny_newObj_type (zzA (m:=firstArgMember _ _) (wpAny_of_eq (a:=Value.none) (by first|rfl|(simp! [firstArgMember];rfl)) (wpAny_newObj_type ?_ (by size_fits)))) (by size_fits));simp! [raiseNew];refine zzA (wpAny_handled ?_);rw [show A.in1.handled=none from hh];refine zzA (zzG (wpAny_throw ?_));refine zzA (wpAny_isInstance (T:="StopIteration") (b:=true) ⟨_,zzX _ rfl,rfl⟩ isSubtype_stop ?_);exact zzG (hQ _ (((zzu ..).extBut.push _).push _))
end
def KT.drop{H:Hp}{aw:List (List Key×V)}{xs:List (List Key×Addr×Value)}(r:KT H aw xs)(k:List Key):KT H (gk aw k) (xs.filter λx=>decide (x.1≠k)):=by
 unfold gk
 induction r with
 |nil=>exact .nil
 |@cons p q ps qs h t ih=>
  rw [zz3,zz3,<-h.1];split
  ·exact .cons h ih
  ·exact ih
def KT.len{H:Hp}{aw:List (List Key×V)}{xs:List (List Key×Addr×Value)}(r:KT H aw xs):aw.length=xs.length:=Paired.length r
section
variable{X:Cx}{ae:List (Addr×Obj)}{σ:St}{H:Hp}{s:Shared}{a b:Addr}{aw:List (List Key×V)}{k:List Key}{A:Around}{E:Value->Shared->Prop}
def JN{Q:Value->Shared->Prop}(I:Inv X ae σ H s)(e:Rd H a (.dT aw))(h:∀t s',Inv X ae σ H s'->Q (.int aw.length t) s'):wpAny (model X.prog X.w) A (call (.builtin "len") [.ref a]) Q E s:=by
 obtain⟨z,lo,xs,rel,dd⟩:=kD I.aJ e
 refine Me lo dd (by rw [<-rel.len];rw [sizeLine_eq] at z;omega) ?_;rw [<-rel.len];exact h _ _ (I.tok _)
def Mi{v:V}{Q:Value->Shared->Prop}(hu:A.units+1<cLine)(I:Inv X ae σ H s)(e:H a=some (.dT aw))(eb:H b=some (.tup (k.map kV)))(l:ip aw k=some v)
 (h:∀w' s',Inv X ae σ (upd H a (.dT (gk aw k))) s'->RelV v w'->Q w' s'):wpAny (model X.prog X.w) A (call (.builtin "dict.pop") [.ref a,.ref b]) Q E s:=by
 obtain⟨z,lo,xs,rel,dd⟩:=Bv I.aJ e
 obtain⟨w',hw,iC⟩:=kS.some_of (v:=v) (o:=(atKey xs k).map (·.2)) (by rw [<-l];exact rel.val k)
 obtain⟨p,hp,hp2⟩:=zzJ.mp hw
 refine call_meetsIn PySem.F.slot_dict_pop dd.typeIs PySem.F.entry_dict_pop (PySem.F.args_dict_pop_2 _ _) (qX (knd:=tupleKind (cq X.prog X.w)) a b) ⟨tupleKind_room_in1 hu,k,xs,p,gH I.aJ eb,dd,by rw [<-rel.len];exact z,hp,λh' HZ hs=>?_⟩
 rw [hp2];obtain⟨q,es,ep,hq,h2,h3,h4,_,h5⟩:=HZ
 refine h w' _ (ij I (by rw [e];exact True.intro) hs ⟨q,hq⟩ ⟨zzU (Cm aw k) z,lo,_,(rel.drop k).keeps λc ys ec=>?_,q,es,ep,hq,h2,h3,h4,h5⟩) iC
 rw [af (fK ec e (λz=>nomatch z))];exact ec
def Inv.freeze(I:Inv X ae σ H s)(e:H a=some (.dT aw)):∃o,Inv X ae σ (upd H a (.bE o (.dT aw))) s:=by
 obtain⟨z,lo,xs,rel,o,es,ep,h1,h2,h3,h4,h5⟩:=(show bW X.prog X.w H s.heap a (.dT aw) from I.aJ a _ e)
 refine⟨o,ij (h':=s.heap) (t':=s.toks) I (by rw [e];exact True.intro) ⟨rfl,λ_ _=>rfl⟩ ⟨o,h1⟩ ⟨h1,z,lo,xs,?_,o,es,ep,h1,h2,h3,h4,h5⟩⟩
 exact KT.keeps (H:=H) rel λc ys ec=>by rw [af (fK ec e (λz=>nomatch z))];exact ec
end
noncomputable def RL(a:Addr)(o:Obj)(aw:List (List Key×V)):It:=
 ⟨λi H=>H a=some (.bE o (.dT aw))/\i<aw.length,λi H x H'=>H'=H/\∃b k v,x=.ref b/\aw[i]?=some (k,v)/\H b=some (.tup (k.map kV)),λi H=>H a=some (.bE o (.dT aw))/\aw.length<=i⟩
def eQ{α β:Type}{R:α->β->Prop}{l:List α}{m:List β}(r:Paired R l m):∀{i:Nat} {p:α} {q:β},l[i]?=some p->m[i]?=some q->R p q:=by
 induction r with
 |nil=>intro i p q h;simp at h
 |cons h t ih=>
  intro i p q h1 h2;cases i with
  |zero=>simp at h1 h2;subst h1 h2;exact h
  |succ i=>simp at h1 h2;exact ih h1 h2
def Be{P:Program}{w:World}{H:Hp}{h:Heap}{a:Addr}{aw:List (List Key×V)}(x:bW P w H h a (.dT aw)):(a==sysModules)=false/\(aw.map (·.1)).Nodup/\∃o es ep,h.get? a=some o/\o.ExactDict/\o.data=.dict es ep/\es.size=aw.length/\∀(i:Nat) (hi:i<es.size),∃b k v,es[i].key=.ref b/\aw[i]?=some (k,v)/\H b=some (.tup (k.map kV))/\RelV v es[i].val:=by
 obtain⟨z,lo,xs,rel,o,es,ep,h1,h2,h3,h4,h5⟩:=x
 have hl:es.size=xs.length:=size_of_entries h4
 have hx:aw.length=xs.length:=Paired.length rel
 have ks:aw.map (·.1)=xs.map (·.1):=by
  clear hl hx h4 h5 z
  induction rel with
  |nil=>rfl
  |cons h t ih=>rw [zzF,zzF,h.1,ih]
 refine⟨lo,ks▸h5,o,es,ep,h1,h2,h3,hl.trans hx.symm,λi hi=>?_⟩
 have e1:es[i]?=(xs[i]?).map (entryOfKey (tupleKind (cq P w))):=entry_at h4 i
 rw [zzg (show i<xs.length by omega),zz2 hi] at e1;have q:=eQ rel (zzg (show i<aw.length by omega)) (zzg (show i<xs.length by omega))
 rw [zzq e1];exact⟨_,_,_,rfl,zzg (show i<aw.length by omega),q.2.1,q.2.2⟩
def mD{X:Cx}{ae:List (Addr×Obj)}{σ:St}{H:Hp}{s:Shared}{a:Addr}{o:Obj}{aw:List (List Key×V)}(I:Inv X ae σ H s)(e:H a=some (.bE o (.dT aw))):
 (a==sysModules)=false/\s.heap.get? a=some o/\o.ExactDict/\∃es ep,o.data=.dict es ep/\es.size=aw.length/\∀(i:Nat) (h:i<es.size),∃b k v,es[i].key=.ref b/\aw[i]?=some (k,v)/\H b=some (.tup (k.map kV)):=by
 obtain⟨h0,ok⟩:=(show bW X.prog X.w H s.heap a (.bE o (.dT aw)) from I.aJ a _ e)
 obtain⟨lo,_,o',es,ep,h1,h2,h3,hl,hk⟩:=Be ok
 rw [h0] at h1;cases h1;exact⟨lo,h0,h2,es,ep,h3,hl,λi hi=>let⟨b,k,v,e1,e2,e3,_⟩:=hk i hi;⟨b,k,v,e1,e2,e3⟩⟩
def Ac{P:Program}{w:World}{K:zz8}{tg:Expr}{a it:Addr}{o:Obj}{es:Array DictEntry}{ep:Nat}{aw:List (List Key×V)}(hd:o.data=.dict es ep)(hl:es.size=aw.length):
 Turn P w K tg (RL a o aw) [it] it (λi h=>h.IsKeyIter it a i es.size ep) where
 mem:=by simp
 obj:=λi h st b hb=>by
  have e:b=it:=by simpa using hb
  subst e;obtain⟨q,e,c,d⟩:=st
  exact⟨q,e,λv z=>by rw [d] at z;cases z⟩
 keep:=λi h h' st k=>st.at λo e=>k it (by simp) o e
 item:=by
  intro X hP hw hK hc i ae s σ H E I hf st hg;subst hP hw hK;obtain⟨g1,g2⟩:=hg
  obtain⟨lo,h0,hx,es',ep',h3,uh,uE⟩:=mD I g1
  rw [hd] at h3;cases h3;obtain⟨f0,f1,f2,f3,f4,f5⟩:=hf it (by simp)
  have hi:i<es.size:=by omega
  refine lG st h0 hd hi λh' iV sb=>?_
  obtain⟨b,k,v,e1,e2,e3⟩:=uE i hi
  have I1:Inv X ae σ H {s with heap:=h'}:=I.turned (t':=s.toks) (λb o hb e=>(sb.2 b hb).trans e) f0 f1 f3 f4 f5
  obtain⟨q,e,c,d⟩:=id iV
  refine⟨_,rfl,w8 (s:={s with heap:=h'}) e c d (by decide) ⟨.ref b,H,I1,?_,⟨rfl,b,k,v,rfl,e2,e3⟩,iV,λb hb=>(hf b hb).1⟩⟩
  rw [e1];exact rfl
 done:=by
  intro X hP hw hK hc i ae s σ H E I hf st hg;subst hP hw hK;obtain⟨g1,g2⟩:=hg
  obtain⟨lo,h0,hx,es',ep',h3,uh,uE⟩:=mD I g1
  rw [hd] at h3;cases h3;obtain⟨f0,f1,f2,f3,f4,f5⟩:=hf it (by simp)
  exact uT (I.ok.hd hc) st h0 hd (by omega) λh' eb=>⟨rfl,I.turned (t':=s.toks) (λb o hb e=>eb b o hb e) f0 f1 f3 f4 f5⟩
 self:=λ_ _ _ _ _ st h=>wpAny_pyIter_keyiter st h
noncomputable def SS(tl:TE):TI:=λσ H R=>tl σ H λx H1=>∃a o aw,x=.ref a/\H1 a=some (.bE o (.dT aw))/\R (RL a o aw) H1
section
variable{X:Cx}{o e:Expr}{apos bL:Pos}{td ty:TE}
def Ly{tg l:Expr}{tl:TE}(hl:PE X l tl):PI X tg l (SS tl):=by
 intro ae s σ H R I h;refine cj (hl ae s σ H _ I h) λv s1 ⟨x,H1,I1,r1,q1⟩=>?_
 obtain⟨a,o,aw,e,hq,q⟩:=q1
 subst e;cases r1;obtain⟨lo,h0,hx,es,ep,h3,uh,uE⟩:=mD I1 hq
 refine qz lo h0 hx h3 ?_;refine⟨(zz9 s1),[(zz9 s1)],_,_,H1,rfl,I1.kept (t':=s1.toks) λb o e=>zzB _ e,Ac h3 uh,⟨_,zzX _ rfl,rfl,rfl⟩,λb hb=>?_,q⟩
 have e:b=(zz9 s1):=by simpa using hb
 subst e;exact I1.m5 (zzE _) (I1.aJ.fresh (zzE _))
noncomputable def Om(td ty:TE):TE:=λσ H Q=>td σ H λx H1=>∃a,x=.ref a/\Ic H1 a/\ty σ H1 λy H2=>∃aw k b v,H2 a=some (.dT aw)/\y=.ref b/\H2 b=some (.tup (k.map kV))/\ip aw k=some v/\Q v (upd H2 a (.dT (gk aw k)))
def Ft(hu:X.A.units+1<cLine)(ho:PE X o td)(he:PE X e ty)(m:M1 X o "pop" apos e bL):PE X (.Call (.Attribute o "pop" apos) [e] [] bL) (Om td ty):=by
 intro ae s σ H Q I h;refine wpAny_Call_method m.base m.Uo m.line PySem.F.plainAttrs_dict PySem.F.slot_dict_pop PySem.F.type_dict_pop (cj (ho ae s σ H _ I h) λu s1 ⟨x,H1,I1,rx,a,ex,d,q1⟩=>?_)
 subst ex;obtain rfl:u=Value.ref a:=rx
 obtain⟨t1,t2,_⟩:=Mf I1 d
 refine⟨t1,t2,?_⟩;rw [m.trees];refine Calls.callWith_builtin rfl (Calls.evalArgs_plain (Calls.spliced_cons (cj (he ae s1 σ H1 _ I1 q1) λiv s2 ⟨y,H2,I2,ry,aw,k,b,v,ea,ey,eb,l,q2⟩=>Calls.spliced_nil ?_)))
 subst ey;cases(show iv=Value.ref b from ry);exact Mi hu I2 ea eb l λw' s3 I3 iC=>⟨v,_,I3,iC,q2⟩
end
end L2
namespace L2
open PySem PySem.Spec PyProof.Rows PySem.W
def aH{α:Type}(lt:Nat->Nat->Bool):KasT α->α
 |.ret a=>a
 |.ask i j k=>aH lt (k (lt i j))
def dX{α:Type}(n:Nat)(R:α->Prop):KasT α->Prop
 |.ret a=>R a
 |.ask i j k=>i<n/\j<n/\∀b,dX n R (k b)
theorem dX.bind{α β:Type}{n:Nat}{R:α->Prop}{R':β->Prop}{f:α->KasT β}(hf:∀a,R a->dX n R' (f a)):∀(t:KasT α),dX n R t->dX n R' (t.bind f)
 |.ret a,h=>hf a h
 |.ask i j k,h=>⟨h.1,h.2.1,λb=>dX.bind hf (k b) (h.2.2 b)⟩
theorem dX.run{α:Type}{n:Nat}{R:α->Prop}(lt:Nat->Nat->Bool):∀(t:KasT α),dX n R t->R (aH lt t)
 |.ret a,h=>h
 |.ask i j k,h=>dX.run lt (k (lt i j)) (h.2.2 _)
theorem CO{α:Type}{n:Nat}{R:α->Prop}{cmp:Nat->Nat->(Bool->Shared->Prop)->Shared->Prop}{lt:Nat->Nat->Bool}{Q:α->Shared->Prop}{s:Shared}
 (hc:∀i j C,i<n->j<n->C (lt i j) s->cmp i j C s):∀(t:KasT α),dX n R t->Q (aH lt t) s->t.kasWp cmp Q s
 |.ret a,_,h=>h
 |.ask i j k,a,h=>hc i j _ a.1 a.2.1 (CO hc (k (lt i j)) (a.2.2 _) h)
abbrev Pm(n:Nat)(p:Array Nat):Prop:=p.toList.Perm (List.range n)
def Pm.lt{n:Nat}{p:Array Nat}(h:Pm n p)(h0:0<n)(i:Nat):p.getD i 0<n:=by
 rw [Array.getD_eq_getD_getElem?];cases e:p[i]? with
 |none=>exact h0
 |some x=>
  have:x∈p.toList:=by rw [Array.mem_toList_iff];exact Array.mem_of_getElem? e
  exact List.mem_range.mp (h.mem_iff.mp this)
def Pm.rev{n:Nat}{p:Array Nat}(h:Pm n p)(i j:Nat):Pm n (kas_rev p i j):=(mirror_perm p i j _).toList.trans h
def Pm.TX{n:Nat}{p:Array Nat}(h:Pm n p)(i j:Nat):Pm n (bubble p i j):=(bubble_perm p i j).toList.trans h
section
variable{n:Nat}(h0:0<n)
include h0
theorem mU{p:Array Nat}(h:Pm n p):∀f m,dX n (λ_=>True) (kas_asc p f m)
 |0,m=>trivial
 |f+1,m=>⟨h.lt h0 _,h.lt h0 _,λb=>by dsimp only;split;exact trivial;exact mU h f (m+1)⟩
theorem hJ:∀f (p:Array Nat) m q,Pm n p->dX n (λr=>Pm n r.1) (kas_desc f p m q)
 |0,p,m,q,h=>h
 |f+1,p,m,q,h=>⟨h.lt h0 _,h.lt h0 _,λb=>by
  cases b with
  |true=>
   dsimp only;rw [if_pos rfl];split
   ·exact hJ f _ _ _ (h.rev _ _)
   ·exact hJ f _ _ _ h
  |false=>
   dsimp only;rw [if_neg (by simp)];exact⟨h.lt h0 _,h.lt h0 _,λb=>by dsimp only;split;exact h;exact hJ f _ _ _ h⟩⟩
def pE{p:Array Nat}(h:Pm n p)(m r:Nat):dX n (λr=>Pm n r.2) (kas_tail3 m r p):=by
 unfold kas_tail3;refine dX.bind (R:=λ_=>True) (λa _=>?_) _ (mU h0 (h.rev _ _) _ _);exact h.rev 0 m
def oG{p:Array Nat}(h:Pm n p)(m r:Nat):dX n (λr=>Pm n r.2) (kas_descPart m r p):=dX.bind (λa ha=>by
 split
 ·exact pE h0 (Pm.rev ha _ _) _ _
 ·exact pE h0 ha _ _) _ (hJ h0 _ _ _ _ h)
def uV{p:Array Nat}(h:Pm n p)(r:Nat):dX n (λr=>Pm n r.2) (kas_count r p):=dX.bind (λa _=>by
 split
 ·exact h
 ·split
  ·exact⟨h.lt h0 _,h.lt h0 _,λb=>by dsimp only;split;exact h;exact oG h0 (h.rev _ _) _ _⟩
  ·exact oG h0 h _ _) _ (mU h0 h _ _)
theorem iX{p:Array Nat}(h:Pm n p)(k:Nat):∀f l r,dX n (λ_=>True) (kas_place p k f l r)
 |0,l,r=>trivial
 |f+1,l,r=>by
  unfold kas_place;split
  ·exact trivial
  ·exact⟨h.lt h0 _,h.lt h0 _,λb=>by dsimp only;split;exact iX h k f _ _;exact iX h k f _ _⟩
theorem sQ:∀f (p:Array Nat) k,Pm n p->dX n (Pm n) (kas_bin f p k)
 |0,p,k,h=>h
 |f+1,p,k,h=>dX.bind (λl _=>sQ f _ _ (h.TX _ _)) _ (iX h0 h k _ _ _)
def o6:dX n (Pm n) (kas_sort n):=dX.bind (λa ha=>by
 split
 ·exact sQ h0 _ _ _ ha
 ·exact ha) _ (uV h0 (List.Perm.refl _) n)
end
def jZ(n:Nat)(lt:Nat->Nat->Bool):List Nat:=(aH lt (kas_sort n)).toList
def gX{n:Nat}(h:0<n)(lt:Nat->Nat->Bool):(jZ n lt).Perm (List.range n):=dX.run lt _ (o6 h)
section
variable{prog:Program}{w:World}{A:Around}{E:Value->Shared->Prop}{s:Shared}{a:Addr}{vs:List Value}{nss:List (List Int)}
def mR{S:Addr}{h:Heap}{c:Nat}{xs ys:Array Value}(e:h.get? S=some (seqObj "list" xs c)):∃c',(h.update S (Obj.mapSeq λ_=>ys)).get? S=some (seqObj "list" ys c'):=⟨_,get?_update_seq e λ_=>ys⟩
def mK(h:Heap)(vs:List Value)(nss:List (List Int)):Prop:=Paired (λv ns=>∃b o ay n,v=.ref b/\h.get? b=some o/\o.cls=.type "tuple"/\o.data=.seq ay n/\Vals (ns.map V.int) ay.toList/\ns≠[]) vs nss
def mK.keep{h h':Heap}(t:mK h vs nss)(k:∀b o,h.get? b=some o->o.cls=.type "tuple"->h'.get? b=some o):mK h' vs nss:=
 Paired.yU t λ_ _ ⟨b,o,ay,n,e1,e2,e3,e4,e5,e6⟩=>⟨b,o,ay,n,e1,k b o e2 e3,e3,e4,e5,e6⟩
theorem mn{b:Bool}{Q:Bool->Shared->Prop}:∀(ns ms:List Int) (xs ys:List Value) (i:Nat),Vals (ns.map V.int) xs->Vals (ms.map V.int) ys->Q (HT.lexLt ns ms) s->KatLex prog w A b (decide (xs.length<ys.length)) Q (xs.zip ys) i s
 |[],[],_,_,i,.nil,.nil,h=>by simpa [KatLex,HT.dF] using h
 |[],m::ms,_,_,i,.nil,.cons _ _,h=>by simpa [KatLex,HT.lexLt] using h
 |n::ns,[],_,_,i,.cons _ _,.nil,h=>by simpa [KatLex,HT.lexLt] using h
 |n::ns,m::ms,_,_,i,.cons (a:=_) (b:=u) h1 t1,.cons (b:=v) h2 t2,h=>by
  obtain⟨t,rfl⟩:=h1
  obtain⟨t',rfl⟩:=h2
  rw [HT.c8] at h;refine kat_cons (wpAny_eqBool_int ?_)
  by_cases e:n=m
  ·subst e;rw [if_pos rfl] at h;rw [show(n==n)=true from by simp];refine kat_yes ?_;have:=mn (b:=b) ns ms _ _ (i+1) t1 t2 h
   simp! [zzL,Nat.add_lt_add_iff_right];exact this
  ·rw [if_neg e] at h;rw [show(n==m)=false from by simpa using e];refine kat_no ?_;cases hb:(b&&i==0) with
   |true=>exact oneLt_int h
   |false=>exact kat_one _ _ (PyProof.Rows.lt_int h)
def Nd(prog:Program)(w:World)(A:Around)(E:Value->Shared->Prop)(vs:List Value)(lt:Nat->Nat->Bool)(s:Shared):Prop:=∃κ:SortKind,(∀Q:SortKind->Shared->Prop,Q κ s->wpAny (model prog w) A (keyKind' vs.toArray) Q E s)/\∀i j (C:Bool->Shared->Prop),i<vs.length->j<vs.length->C (lt i j) s->kas_ask prog w A κ vs i j C s
def AU(t1:mK s.heap vs nss)(h2:2<=vs.length):Nd prog w A E vs (λi j=>HT.lexLt (nss.getD i []) (nss.getD j [])) s:=by
 have hlen:vs.length=nss.length:=Paired.length t1
 have kt:∃fs,KatTups s.heap vs fs/\fs.length=vs.length/\∀v∈fs,∃i t,v=.int i t:=by
  clear hlen h2
  induction t1 with
  |nil=>exact⟨[],trivial,rfl,λv hv=>nomatch hv⟩
  |cons h t ih=>
   obtain⟨fs,i1,i2,i3⟩:=ih
   obtain⟨b,o,ay,n,rfl,g1,g2,g3,g4,g5⟩:=h
   rename_i ns _ _;cases ns with
   |nil=>exact absurd rfl g5
   |cons m ms=>
    rw [zzF] at g4;cases hi:ay.toList with
    |nil=>rw [hi] at g4;cases g4
    |cons f r=>
     rw [hi] at g4;cases g4 with
     |cons r1 r2=>
      obtain⟨tk,rfl⟩:=r1
      have f0:ay[0]?=some (.int m tk):=by rw [<-Array.getElem?_toList,hi];rfl
      exact⟨.int m tk::fs,.cons g1 g2 g3 f0 i1,by simp [i2],λv hv=>by
       rcases zzm.mp hv with rfl|hv
       ·exact⟨m,tk,rfl⟩
       ·exact i3 v hv⟩
 obtain⟨fs,kt1,kt2,kt3⟩:=kt
 refine⟨_,λQ q=>kat_kind (T:=.type "int") kt1 (by omega) (λv hv=>?_) rfl q,λi j C hi hj hC=>?_⟩
 ·obtain⟨i,t,rfl⟩:=kt3 v hv
  exact .now
 ·unfold kas_ask;obtain⟨b,o,ay,n,e1,g1,g2,g3,g4,_⟩:=eQ t1 (zzg hi) (zzg (show i<nss.length by omega))
  obtain⟨b',o',its',n',e1',yy,MI,g3',g4',_⟩:=eQ t1 (zzg hj) (zzg (show j<nss.length by omega))
  have v1:vs.getD i Value.none=.ref b:=by simp [hi,e1]
  have v2:vs.getD j Value.none=.ref b':=by simp [hj,e1']
  have n1:nss.getD i []=nss[i]'(by omega):=by simp [show i<nss.length by omega]
  have n2:nss.getD j []=nss[j]'(by omega):=by simp [show j<nss.length by omega]
  rw [v1,v2];dsimp only at hC;rw [n1,n2] at hC;refine kat_lt g1 g3 yy g3' ?_;have:=mn (prog:=prog) (w:=w) (A:=A) (b:=(Value.type "int" !=Value.type "tuple")) _ _ _ _ 0 g4 g4' hC
  simpa using this
def yD{n:Nat}{P:PySem.Fin->Shared->Prop}{lt:Nat->Nat->Bool}(ho:s.heap.get? a=some (seqObj "list" vs.toArray n))(h2:2<=vs.length)(Fo:vs.length<64)(rd:∀h',(∀b o,b≠a->s.heap.get? b=some o->h'.get? b=some o)->Nd prog w A E vs lt {s with heap:=h'})
 (h:∀h' c,(∀b o,b≠a->s.heap.get? b=some o->h'.get? b=some o)->h'.get? a=some (seqObj "list" ((jZ vs.length lt).map λi=>vs.getD i Value.none).toArray c)->P (.done (.ret .none)) {s with heap:=h'}):
 wpAny (model prog w) A (Builtin.«list.sort» ⟨[.ref a],[]⟩) P E s:=by
 have s1:=zzu s.heap a (Obj.mapSeq λ_=>(#[]:Array Value))
 obtain⟨e1,ho1⟩:∃e1,(s.heap.update a (Obj.mapSeq λ_=>(#[]:Array Value))).get? a=some (seqObj "list" #[] e1):=⟨_,get?_update_seq ho λ_=>#[]⟩
 generalize hH:(((s.heap.update a (Obj.mapSeq λ_=>(#[]:Array Value))).push (seqObj "tuple" vs.toArray 0)).push (seqObj "list" #[] 0))=H1
 have k1:∀b o,b≠a->s.heap.get? b=some o->H1.get? b=some o:=λb o hb e=>by rw [<-hH];exact zzB _ (zzB _ ((s1.2 b hb).trans e))
 have a1:H1.get? a=some (seqObj "list" #[] e1):=by rw [<-hH];exact zzB _ (zzB _ ho1)
 obtain⟨κ,kk,lts⟩:=rd H1 k1
 rw [list_sort_plain];refine zzA (listItems_at ho rfl (zzA (listUpdate_at ho rfl ?_ (by rw [zzC,sizeLine_eq];omega) (Nat.zero_le _))));refine zzA (seqEpoch_at ho1 rfl (zzA (wpAny_newTuple ?_ (by show vs.length<=_;rw [sizeLine_eq];omega))));refine zzA (wpAny_newList ?_ (Nat.zero_le _));refine wpAny_holding ?_;show wpAny (model prog w) A _ P E {s with heap:=((s.heap.update a (Obj.mapSeq λ_=>(#[]:Array Value))).push (seqObj "tuple" vs.toArray 0)).push (seqObj "list" #[] 0)}
 rw [hH];dsimp only;have Ji:¬vs.toArray.size<2:=by rw [zzC];omega
 rw [if_neg Ji,if_neg Ji];refine zzA (kk _ ?_);refine zzA (wpAny_mono (kat_run (Q:=λiV s'=>∃p:Array Nat,p.size=vs.length/\arrOf iV=p.map (kas_item (vs.toArray.zip vs.toArray))/\failedOf iV=none/\p=aH lt (kas_sort vs.length)/\s'={s with heap:=H1})
  rfl h2 Fo (λp' iV s' a1 a2 a3 a4=>⟨p',a1,a2,a3,a4⟩) (CO lts _ (o6 (by omega)) ⟨rfl,rfl⟩)) ?_ λ_ _ e=>e)
 rintro ⟨⟨⟩,iV⟩ s' ⟨p,hp,har,hf,rfl,rfl⟩
 dsimp only;have JS:=kat_snds rfl har
 rw [JS];have s2:=zzu H1 a (Obj.mapSeq λ_=>List.toArray ((aH lt (kas_sort vs.length)).toList.map λi=>vs.getD i Value.none))
 obtain⟨c2,hc2⟩:=mR (ys:=List.toArray ((aH lt (kas_sort vs.length)).toList.map λi=>vs.getD i Value.none)) a1
 refine zzA (seqEpoch_at a1 rfl (zzA (listUpdate_at a1 rfl ?_ (Nat.zero_le _) (by
  show(List.toArray _).size<=_
  rw [zzC,zzl,zzd,hp,sizeLine_eq];omega))))
 rw [hf];simp! [bne_self_eq_false,zze,if_false];exact zzG (h _ c2 (λb o hb e=>(s2.2 b hb).trans (k1 b o hb e)) hc2)
end
end L2
namespace L2
open PySem PySem.Spec PyProof.Rows
def zD:typeLookup (.type "list") "keys"=pure none:=by rw [typeLookup_type,builtinLookup_eq_fast];kernel_rfl
def sM:entryFor table "dict.update.loop"=some Builtin.«dict.update.loop»:=entryFor_of_tree (by kernel_rfl)
def js:plainId "dict.update.loop"=true:=by decide+kernel
section
variable{prog:Program}{w:World}{A:Around}{E:Value->Shared->Prop}{s:Shared}{a:Addr}{o:Obj}{xs:Array Value}{k:Nat}
def E2{Q:Option Value->Shared->Prop}(hx:s.heap.get? a=some o)(hc:o.cls=.type "list")(OM:o.data=.seq xs k)(hd:o.dict=none)(hA:A.handled=none)
 (h:∀h' tk,(∀b o,s.heap.get? b=some o->h'.get? b=some o)->Q none {s with heap:=h',toks:=tk}):wpAny (model prog w) A (getAttr? (.ref a) "keys") Q E s:=by
 obtain⟨c,bf,dat,sl⟩:=o
 simp only at hc OM hd;subst hc OM hd;obtain⟨hp,g,d,tk,os⟩:=s
 have hT:∀MY,(⟨hp,g,d,MY,os⟩:Shared).TypeIs (.ref a) "list":=λ_=>⟨_,hx,rfl⟩
 have f1:=sub_AttributeError
 have f3:=F.slot_list_getattribute.lookup
 have f4:=F.slot_list_getattribute.bind (.ref a)
 have f5:=am_list_getattr_none
 unfold getAttr? getAttrBy? getAttrBy
 repeat (any_goals (first|assumption|exact hT _|((with_reducible show wpAny _ _ (call (Value.builtin "list.__getattribute__") _ _) _ _ _);refine call_meets F.slot_list_getattribute (hT _) am_entry_list_getattribute (F.args_list_getattribute_2 _ _) (meets_getattribute_miss_list a xs k sl "keys" _ zD (by decide) (by size_fits)) ⟨hx,hA,λh' MY e zO=>?_⟩)|wp_step))
 obtain⟨t',u',he⟩:=zO.there
 show wpAny _ _ (getattributeRaised _ _ _ _ _ _ _) _ _ _
 unfold getattributeRaised
 repeat (any_goals (first|assumption|wp_step))
 exact h h' MY zO.keeps
end
def eR(aw more:List (List Key×V)):List (List Key×V):=more.foldl (λacc kv=>putK acc kv.1 kv.2) aw
abbrev iA(K:zz8)(H:Hp)(vs:List V)(aw:List (List Key×V)):Prop:=Paired (λv kv=>∃q b,v=V.ref q/\fw K H q [.ref b,kv.2]/\H b=some (.tup (kv.1.map kV))) vs aw
section
variable{X:Cx}{ae:List (Addr×Obj)}{σ:St}{l d it:Addr}{vs:List V}{A:Around}{E:Value->Shared->Prop}{R:Result->Shared->Prop}
def Jw{H:Hp}{s:Shared}{a b:Addr}{aw:List (List Key×V)}{k:List Key}{v:V}{r:Value}{Q:Unit->Shared->Prop}(hu:A.units<cLine)(I:Inv X ae σ H s)(e:H a=some (.dT aw))(eb:H b=some (.tup (k.map kV)))(l:aw.length<sizeLine)(rv:RelV v r)
 (h:∀h' t,Heap.SameBut a s.heap h'->Inv X ae σ (upd H a (.dT (putK aw k v))) {s with heap:=h',toks:=t}->Q () {s with heap:=h',toks:=t}):wpAny (model X.prog X.w) A (dictSet a (.ref b) r) Q E s:=by
 obtain⟨z,lo,xs,rel,dd⟩:=Bv I.aJ e
 have hz:xs.length<=sizeLine:=by rw [<-rel.len];exact z
 have hl:(putK aw k v).length<=sizeLine:=by have:=eX aw k v;omega
 refine wpAny_dictSet_heap (hsz:=hz) (knd:=tupleKind (cq X.prog X.w)) hu (gH I.aJ eb) dd λh' HZ hs=>h h' _ hs ?_
 obtain⟨q,es,ep,hq,h2,h3,h4,_,h5⟩:=HZ
 refine ij I (by rw [e];exact True.intro) hs ⟨q,hq⟩ ⟨hl,lo,_,(rel.put k eb rv).keeps λc ys ec=>?_,q,es,ep,hq,h2,h3,h4,h5⟩
 rw [af (fK ec e (λz=>nomatch z))];exact ec
def fw.gZ{K:zz8}{H H':Hp}{a:Addr}{xs:List V}(h:fw K H a xs)(e:∀b,b≠d->H' b=H b){acc:List (List Key×V)}(hd:H d=some (.dT acc)):fw K H' a xs:=by
 rcases h with(h|⟨o,h⟩)|h
 ·exact .inl (.inl (by rw [e a (fK h hd (λz=>nomatch z))];exact h))
 ·exact .inl (.inr ⟨o,by rw [e a (fK h hd (λz=>nomatch z))];exact h⟩)
 ·exact .inr h
def gM.gZ{K:zz8}{H H':Hp}{a:Addr}{xs:List V}(h:gM K H a xs)(e:∀b,b≠d->H' b=H b){acc:List (List Key×V)}(hd:H d=some (.dT acc)):gM K H' a xs:=by
 rcases h with(h|⟨o,h⟩)|h
 ·exact .inl (.inl (by rw [e a (fK h hd (λz=>nomatch z))];exact h))
 ·exact .inl (.inr ⟨o,by rw [e a (fK h hd (λz=>nomatch z))];exact h⟩)
 ·exact .inr h
def iA.gZ{K:zz8}{H H':Hp}{aw:List (List Key×V)}(e:∀b,b≠d->H' b=H b){acc:List (List Key×V)}(hd:H d=some (.dT acc)):∀{vs:List V},iA K H vs aw->iA K H' vs aw:=λh=>
 Paired.yU h λ_ _ ⟨q,b,e1,e2,e3⟩=>⟨q,b,e1,fw.gZ e2 e hd,by rw [e b (fK e3 hd (λz=>nomatch z))];exact e3⟩
def F5(hu:A.units+1<cLine)(hh:A.handled=none):∀(rest:List (List Key×V)) (i:Nat) (j:Int) (acc:List (List Key×V)) (H:Hp) (s:Shared),Inv X ae σ H s->fE X ae H it->s.heap.IsListIter it l i->gM X.K H l vs->iA X.K H (vs.drop i) rest->H d=some (.dT acc)->acc.length+rest.length<=sizeLine->
 (∀s' H',Inv X ae σ H' s'->H' d=some (.dT (eR acc rest))->(∀b,b≠d->H' b=H b)->R (.ok (.ret .none)) s')->codeAny (model X.prog X.w) A (.builtin "dict.update.loop" ⟨[.ref d,.ref it,rawInt j,.none],[]⟩) R s:=by
 intro rest
 induction rest with
 |nil=>
  intro i j acc H s I hf st hl pr hd hz k;obtain⟨ay,rv,p,_⟩:=I.list hl
  obtain⟨f0,f1,f2,f3,f4,f5⟩:=hf
  have hi:vs.length<=i:=List.drop_eq_nil_iff.mp (by cases h:vs.drop i with|nil=>rfl|cons x r=>rw [h] at pr;cases pr)
  have hle:=rv.length
  refine codeAny_builtin sM ?_;rw [zz7 js _];show wpAny _ A.in1 (pyNext (.ref it)>>=λz=>_) _ _ s
  refine zzA (wpAny_pyNext_list_end hh st p.isList (by simp;omega) λh' eb=>?_)
  show wpAny _ _ (Builtin.Dict.addKeywords d []>>=λ_=>_) _ _ _
  exact zzA (zzG (zzG (k _ H (I.turned (t':=s.toks) (λb o hb e=>eb b o hb e) f0 f1 f3 f4 f5) hd λ_ _=>rfl)))
 |cons kv rest ih=>
  intro i j acc H s I hf st hl pr hd hz k;obtain⟨ay,rv,p,_⟩:=I.list hl
  obtain⟨f0,f1,f2,f3,f4,f5⟩:=id hf
  obtain⟨v,vr,hv,⟨q,b,rfl,hq,hb⟩,pr'⟩:∃v vr,vs.drop i=v::vr/\(∃q b,v=V.ref q/\fw X.K H q [.ref b,kv.2]/\H b=some (.tup (kv.1.map kV)))/\iA X.K H vr rest:=by
   cases h:vs.drop i with
   |nil=>rw [h] at pr;cases pr
   |cons x r=>rw [h] at pr;cases pr with|cons h1 h2=>exact⟨x,r,rfl,h1,h2⟩
  have NF:vs[i]?=some (.ref q):=by rw [<-List.head?_drop,hv];rfl
  have WX:vs.drop (i+1)=vr:=by rw [<-List.drop_drop,hv];rfl
  obtain⟨u,HN,ru⟩:=rv.get NF
  cases(show u=Value.ref q from ru);refine codeAny_builtin sM ?_;rw [zz7 js _];show wpAny _ A.in1 (pyNext (.ref it)>>=λz=>_) _ _ s
  refine zzA (wpAny_pyNext_list_item st p.isList (x:=Value.ref q) (by simpa using HN) λh' iV sb=>?_)
  have I1:Inv X ae σ H {s with heap:=h'}:=I.turned (t':=s.toks) (λb o hb e=>(sb.2 b hb).trans e) f0 f1 f3 f4 f5
  obtain⟨fG,rv2,p2,_⟩:=I1.tuple hq
  obtain⟨o2,g1,g2,n2,g3⟩:=id p2
  obtain⟨u1,u2,rfl,ru1,ru2⟩:∃u1 u2,fG=[u1,u2]/\RelV (.ref b) u1/\RelV kv.2 u2:=by
   cases rv2 with|cons h1 h2=>cases h2 with|cons h3 h4=>cases h4;exact⟨_,_,rfl,h1,h3⟩
  cases(show u1=Value.ref b from ru1);show wpAny _ A.in1 (holding [Value.ref q] _>>=λz=>_) _ _ {s with heap:=h'};refine zzA (wpAny_holding (zzA (wpAny_tryCatch ?_)));unfold Builtin.Dict.pairItems;refine zzA (wpAny_typeOf (s:={s with heap:=h'}) ⟨o2,g1,g2⟩ ?_);rw [if_pos (by decide)];refine zzA (wpAny_seqItems g1 g3 (zzG ?_));show wpAny _ A.in1 (holding [Value.ref b,u2] (dictSet d (.ref b) u2)) _ _ _;refine wpAny_holding (Jw hu I1 hd hb (by rw [zzL] at hz;omega) ru2 λh2 t2 V6 I2=>?_)
  have gZ:∀c,c≠d->upd H d (.dT (putK acc kv.1 kv.2)) c=H c:=λc hc=>af hc
  have nd:it≠d:=λz=>by rw [z,hd] at f0;cases f0
  refine zzG ⟨plainId_quiet js _,ih (i+1) (j+1) _ _ _ I2 ⟨by rw [gZ _ nd];exact f0,f1,f2,f3,f4,f5⟩ (iV.at λo e=>(V6.2 it nd).trans e) (gM.gZ hl gZ hd) (iA.gZ gZ hd (by rw [WX];exact pr')) ak ?_ λs' H' J1 J2 J3=>k s' H' J1 J2 λc hc=>(J3 c hc).trans (gZ c hc)⟩
  have:=eX acc kv.1 kv.2
  rw [zzL] at hz;omega
def nu(hc:X.calm=true)(hu:X.A.units+3<cLine):cF X (.type "dict") (λxs H Q=>∃l vs aw,xs=[V.ref l]/\gM X.K H l vs/\iA X.K H vs aw/\∀p,H p=none->Q (.ref p) (upd H p (.dT (eR [] aw)))):=by
 intro ae s σ H xs us Q I r h;obtain⟨l,vs,aw,rfl,hl,pr,q⟩:=h
 obtain⟨u,rfl,ru⟩:=vals1 r
 cases ru;have hh:X.A.handled=none:=I.ok.hd hc
 refine callType_codes (Q₁:=λobj s₁=>obj=.ref (zz9 s)/\s₁={s with heap:=s.heap.push {cls:=.type "dict",data:=.dict #[]}}) F.kt_called_dict (F.kt_typeCall_dict_1 _) F.entry_dict_init (kt_code_dict_new _ ⟨rfl,rfl⟩) ?_
 rintro obj s₁ ⟨rfl,rfl⟩
 have hn:H (zz9 s)=none:=I.aJ.fresh (zzE _)
 have I1:=I.laid (a:=(zz9 s)) (o:=.dT []) (t':=s.toks) (λ_ _ q=>zzB _ q) (zzE _) (rS s.heap I.big)
 have T:(⟨s.heap.push {cls:=.type "dict",data:=.dict #[]},s.gens,s.drawn,s.toks,s.os⟩:Shared).TypeIs (.ref (zz9 s)) "dict":=⟨_,zzX _ rfl,rfl⟩
 have gZ:∀c,c≠(zz9 s)->upd H (zz9 s) (.dT []) c=H c:=λc hc=>af hc
 have same:aA H (upd H (zz9 s) (.dT [])):=bz hn
 have N2:gM X.K (upd H (zz9 s) (.dT [])) l vs:=same.seq hl
 obtain⟨ay,rv,p,hz⟩:=I1.list N2
 obtain⟨o,n,g1,g2,g3,g4⟩:=id p
 refine⟨T,F.args_dict_init_2 _ _,?_⟩;unfold Builtin.«dict.__init__» Builtin.Dict.selfAndRest;refine zzA (zzA (wpAny_notOrdered_dict T ?_));show wpAny _ _ (pure ((zz9 s),[Value.ref l]):Sem _) _ _ _;refine zzG ?_;show wpAny _ _ (Builtin.Dict.updateFrom "dict.__init__" (zz9 s) (.ref l) [] .none) _ _ _;unfold Builtin.Dict.updateFrom;refine zzA (wpAny_typeOf ⟨o,g1,g2⟩ ?_);rw [if_pos (by decide)];refine zzA (E2 g1 g2 g4 g3 hh λh' tk hk=>?_);rw [if_pos (by decide)];refine zzA (wpAny_rule ?_);have I2:=I1.kept (h':=h') (t':=tk) hk
 obtain⟨its',rv',p',_⟩:=I2.list N2
 refine zzA (wpAny_pyIter_list p'.isList ?_);have I3:=I2.kept (h':=h'.push {cls:=.type "list_iterator",data:=.fields #[.ref l,.int 0 0]}) (t':=tk) λb o e=>zzB _ e
 have V1:(h'.push {cls:=.type "list_iterator",data:=.fields #[.ref l,.int 0 0]}).IsListIter h'.objs.size l 0:=⟨_,zzX _ rfl,rfl,rfl⟩
 have V5:fE X ae (upd H (zz9 s) (.dT [])) h'.objs.size:=I2.m5 (zzE _) (I2.aJ.fresh (zzE _))
 refine zzG ⟨plainId_quiet js _,F5 (X:=X) (A:=X.A.in1) (ae:=ae) (σ:=σ) (l:=l) (d:=(zz9 s)) (it:=h'.objs.size) (vs:=vs) (by show X.A.units+1+1<cLine;omega) (show X.A.in1.handled=none from hh) aw 0 0 [] _ _ I3 V5 V1 N2 ?_ ak ?_ λs' H' J1 J2 J3=>⟨rfl,?_⟩⟩
 ·exact Paired.yU pr λ_ _ ⟨q,b,e1,e2,e3⟩=>⟨q,b,e1,(show fw X.K _ q _ from by
   rcases e2 with(e2|⟨o,e2⟩)|e2
   ·exact .inl (.inl (same _ _ e2))
   ·exact .inl (.inr ⟨o,same _ _ e2⟩)
   ·exact .inr e2),same _ _ e3⟩
 ·have:=Paired.length pr
  rw [List.length_nil];omega
 ·have e:H'=upd H (zz9 s) (.dT (eR [] aw)):=by
   funext b
   by_cases hb:b=(zz9 s)
   ·rw [hb,ak];exact J2
   ·rw [af hb,J3 b hb,af hb]
  rw [e] at J1;exact⟨.ref (zz9 s),_,J1,rfl,q _ hn⟩
def vW(hc:X.calm=true)(hu:X.A.units+3<cLine):cF X (.type "dict") (λxs H Q=>∃l vs aw,xs=[V.ref l]/\gM X.K H l vs/\iA X.K H vs aw/\∀p o,H p=none->Q (.ref p) (upd H p (.bE o (.dT (eR [] aw))))):=by
 intro ae s σ H xs us Q I r h;obtain⟨l,vs,aw,rfl,hl,pr,q⟩:=h
 refine wpAny_mono (nu hc hu ae s σ H _ us (λv H'=>∃p,v=.ref p/\H p=none/\H'=upd H p (.dT (eR [] aw))) I r ⟨l,vs,aw,rfl,hl,pr,λp hp=>⟨p,rfl,hp,rfl⟩⟩) ?_ λ_ _ z=>z
 rintro u s' ⟨v,H',I',rv,p,rfl,hp,rfl⟩
 obtain⟨o,J⟩:=I'.freeze ak
 have e:upd (upd H p (.dT (eR [] aw))) p (.bE o (.dT (eR [] aw)))=upd H p (.bE o (.dT (eR [] aw))):=by
  funext b
  by_cases hb:b=p
  ·rw [hb,ak,ak]
  ·rw [af hb,af hb,af hb]
 rw [e] at J;exact⟨_,_,J,rv,q p o hp⟩
end
structure Bo(H Hw:Hp)(d:Addr)(o:Obj)(aw:List (List Key×V)):Prop where
 at_:Hw d=some (.bE o (.dT aw))
 dt:H d=some (.dT aw)
 same:∀b u,H b=some u->b≠d->Hw b=some u
 new:∀b u,Hw b=some u->H b=none->∃ob,u=.bE ob bV
section
variable{P:Program}{w:World}{H Hw:Hp}{d:Addr}{o:Obj}{aw:List (List Key×V)}{fs:List Addr}{h h':Heap}
def Bo.back(z:Bo H Hw d o aw)(u:Un fs [] Hw Hw h h')(k:eg P w Hw h)(k':eg P w Hw h'):Un fs [] H H h h'/\eg P w H h'/\h'.get? d=some o:=by
 have fz:∀b ob,Hw b=some (.bE ob bV)->∀o,h.get? b=some o->h'.get? b=some o:=λb ob e o q=>by
  have h1:h.get? b=some ob:=(k b _ e).1
  have h2:h'.get? b=some ob:=(k' b _ e).1
  rw [h1] at q;cases q;exact h2
 have st:∀c v,Hw c=some v->(∀ob u,v≠.bE ob u)->H c=some v:=λc v e n=>by
  cases q:H c with
  |none=>obtain⟨ob,rfl⟩:=z.new c v e q;exact absurd rfl (n ob _)
  |some u=>
   by_cases hc:c=d
   ·subst hc;rw [z.at_] at e;cases e;exact absurd rfl (n _ _)
   ·rw [z.same c u q hc] at e;exact e
 refine⟨⟨λb ob e n hb hx=>?_,λb ob e n hb hx=>?_,λb ob e n hx=>n,λb ob e hx=>u.there b ob e hx,λ_ _ e=>e,λ_ _ _ e=>e,λb ps e=>⟨#[],by simpa using e⟩⟩,λb v e=>?_,(k' d _ z.at_).1⟩
 ·cases q:Hw b with
  |none=>exact u.keep b ob e q hb hx
  |some v=>obtain⟨o',rfl⟩:=z.new b v q n;exact fz b o' q ob e
 ·cases q:Hw b with
  |none=>exact u.slot b ob e q hb hx
  |some v=>obtain⟨o',rfl⟩:=z.new b v q n;exact⟨ob.slots,fz b o' q ob e⟩
 ·have go:∀v,bW P w Hw h' b v->bW P w H h' b v:=λv y=>y.dY (λ_ _ _ r=>r) (λc r=>st c _ r (λ_ _ z=>nomatch z)) λc xs r=>st c _ r (λ_ _ z=>nomatch z)
  by_cases hb:b=d
  ·subst hb;rw [z.dt] at e;cases e;exact go _ (k' b _ z.at_).2
  ·exact go v (k' b v (z.same b v e hb))
end
structure uL(p y:Str)(params:Arguments)(body:Expr)(scope:Scope):Prop where
 body:∃q1 q2 q3 q4 q5 j,body=.Subscript (.Subscript (.Name y q1) (.Name p q2) q3) (.Constant (.int 0) j q4) q5
 sc:su [p] [y] scope
 d1:(p==("__debug__":Str))=false
 d2:(p==("__classdict__":Str))=false
 d3:(y==("__debug__":Str))=false
 d4:(y==("__classdict__":Str))=false
section
variable{X:Cx}{ae:List (Addr×Obj)}{σ:St}{H:Hp}{s:Shared}{d f c c' b:Addr}{o oc:Obj}{aw:List (List Key×V)}{kk:Nat}{p y qual:Str}{params:Arguments}{body:Expr}{scope:Scope}{pm fV:Value}{di:Array Value}{ct:Tok}{k:List Key}{q:Addr}{n:Int}{r:List V}{A:Around}{E:Value->Shared->Prop}
def DF(hA:A=X.A.in1)(L:uL p y params body scope)(hr:dP (kk+1) X.A)(I:Inv X ae σ H s)(hd:H d=some (.dT aw))(ho:s.heap.get? d=some o)
 (eK:X.env.cells.lookup y=some c) (Qc:X.s₀.heap.objs.size<=c) (Ws:s.heap.IsCell c (some (.ref d)))
 (hf:H f=some (.bE (PySem.W.kla_obj "<lambda>" qual params body scope [(y,c)] pm c' fV) bV)) (iI:H c'=some (.bE oc bV)) (nq:oc.data=.fields di) (HR:di[1]?=some (.str qual ct))
 (hb:∀u,bindArgs (PySem.W.kla_fn "<lambda>" qual params body scope [(y,c)] pm (.ref c') fV) ⟨[u],[]⟩=pure ([p].zip [u]))
 (Nm:H b=some (.tup (k.map kV))) (hv:ip aw k=some (.ref q)) (hq:fw X.K H q (.int n::r)):
 wpAny (model X.prog X.w) A (call (.ref f) [.ref b]) (λu s'=>(∃t,u=.int n t)/\Inv X ae σ H s'/\s'.heap.get? d=some o) E s:=by
 subst hA;obtain⟨q1,q2,q3,q4,q5,j,rfl⟩:=L.body
 obtain⟨ocell,g1,g2⟩:=id Ws
 have GR:H c=none:=I.eG y c eK
 obtain⟨z0,lo,xs,rel,o',es,ep,h1,h2,h3,h4,h5⟩:=(show bW X.prog X.w H s.heap d (.dT aw) from I.aJ d _ hd)
 rw [ho] at h1;cases h1;have If:Inv X ae σ (upd H d (.bE o (.dT aw))) s:=by
  refine ij (h':=s.heap) (t':=s.toks) I (by rw [hd];exact True.intro) ⟨rfl,λ_ _=>rfl⟩ ⟨o,ho⟩ ⟨ho,z0,lo,xs,?_,o,es,ep,ho,h2,h3,h4,h5⟩
  exact KT.keeps (H:=H) rel λc ys ec=>by rw [af (fK ec hd (λz=>nomatch z))];exact ec
 have VM:c≠d:=λz=>by rw [z,hd] at GR;cases GR
 have WS:f≠d:=fK hf hd (λz=>nomatch z)
 have RX:c'≠d:=fK iI hd (λz=>nomatch z)
 have FW:vK [(c,ocell)] (upd H d (.bE o (.dT aw))) (d9 X.stack) s.heap:=by
  have lk:∀b o,List.lookup b [(c,ocell)]=some o->b=c/\o=ocell:=λb o e=>by
   rw [zz5] at e;cases An:b==c with
   |true=>rw [An] at e;cases e;exact⟨zzy.mp An,rfl⟩
   |false=>rw [An] at e;cases e
  refine⟨λb o e=>?_,λb o e=>?_,λb o e=>?_⟩
  ·obtain⟨rfl,rfl⟩:=lk b o e;exact g1
  ·obtain⟨rfl,rfl⟩:=lk b o e;rw [af VM];exact GR
  ·obtain⟨rfl,rfl⟩:=lk b o e
   intro Nr;rcases zzm.mp (I.iY b Nr) with z|z
   ·exact I.zx y b eK z
   ·obtain⟨_,o',h4,_⟩:=I.ok.fW.mem z
    exact absurd (zzO h4) (Nat.not_lt.mpr Qc)
 have zc:List.lookup c [(c,ocell)]=some ocell:=by simp
 have Qn:∀x c1,List.lookup x [(y,c)]=some c1->x=y/\c1=c:=λx c1 e=>by
  rw [zz5] at e;cases hx:x==y with
  |true=>rw [hx] at e;cases e;exact⟨zzy.mp hx,rfl⟩
  |false=>rw [hx] at e;cases e
 have zb:∀b o,List.lookup b [(c,ocell)]=some o->X.base.get? b=none:=λb o e=>by
  rw [zz5] at e;cases An:b==c with
  |true=>
   have:=zzy.mp An;subst this
   cases y':X.base.get? b with
   |none=>rfl
   |some o'=>exact absurd (zzO (I.ok.bs b o' y').1) (Nat.not_lt.mpr Qc)
  |false=>rw [An] at e;cases e
 have WD:fw X.K (upd H d (.bE o (.dT aw))) q (.int n::r):=fw.gZ hq (λb hb=>af hb) hd
 have V3:upd H d (.bE o (.dT aw)) b=some (.tup (k.map kV)):=by rw [af (fK Nm hd (λz=>nomatch z))];exact Nm
 have wd:Bo H (aQ [(c,ocell)] (upd H d (.bE o (.dT aw)))) d o aw:=by
  have nz:∀b u,H b=some u->List.lookup b [(c,ocell)]=none:=λb u e=>by
   rw [zz5];cases An:b==c with
   |true=>have:=zzy.mp An;subst this;rw [GR] at e;cases e
   |false=>rfl
  refine⟨by rw [aj (nz d _ hd),ak],hd,λb u e hb=>by rw [aj (nz b u e),af hb];exact e,λb u e n=>?_⟩
  cases hz:List.lookup b [(c,ocell)] with
  |some ob=>rw [bh hz] at e;cases e;exact⟨_,rfl⟩
  |none=>
   rw [aj hz] at e;have VL:b≠d:=λz=>by rw [z,hd] at n;cases n
   rw [af VL,n] at e;cases e
 refine wpAny_call (codeAny_mono (wU (k:=kk) (E:=λ_ _ _=>False) (Q:=λv H'=>v=.int n/\H'=aQ [(c,ocell)] (upd H d (.bE o (.dT aw)))) (Z:=[(c,ocell)]) (ws:=[.ref d]) (vs:=[.ref b]) (us:=[.ref b])
  (t:=Ni (Oa X.K) (IL (zE 1) (zE 0)) (tC (.int 0))) L.sc hr.in1 If.zK.in1 FW zb ?fo ?co nq HR (hb _) (.cons rfl .nil) rfl rfl ?Nf ?inj ?cz ?cells ?ht ?hq) λrr s' RV=>?_)
 case fo=>
  have z:upd H d (.bE o (.dT aw)) f=H f:=af WS
  exact(If.aJ f _ (z.trans hf)).1
 case co=>
  have z:upd H d (.bE o (.dT aw)) c'=some (.bE oc bV):=by rw [af RX];exact iI
  exact(If.aJ c' _ z).1
 case Nf=>intro y' Mh;exact⟨c,by rw [zzi.mp Mh];simp⟩
 case inj=>intro x y' c1 e1 e2;rw [(Qn x c1 e1).1,(Qn y' c1 e2).1]
 case cz=>intro x c1 e;obtain⟨rfl,rfl⟩:=Qn x c1 e;exact⟨ocell,_,zc,g2⟩
 case cells=>
  intro i y' c1 e1 e2 v e3;obtain⟨rfl,rfl⟩:=Qn y' c1 e2
  cases i with
  |zero=>cases e3;exact⟨.ref d,rfl,ocell,g1,g2⟩
  |succ i=>cases e3
 case ht=>
  refine Iw CG (Gp ?_ (eZ (i:=1) rfl (.inr (.inr (L.sc.SN y (by simp)))) L.d3 L.d4) (eZ (i:=0) rfl (.inl (L.sc.par p (by simp))) L.d1 L.d2) λ_ _=>rfl) BH λ_ _=>rfl
  have:=hr.un
  show X.A.units+1+3+1<cLine
  omega
 case hq=>
  refine⟨_,rfl,_,rfl,d,.ref q,rfl,?_,?_⟩
  ·exact .inr ⟨aw,k,b,.inr ⟨o,ak⟩,rfl,V3,hv.symm⟩
  ·exact⟨q,.int n::r,0,.int n,rfl,rfl,WD,by simp [rC,HA],λ_=>⟨rfl,rfl⟩⟩
 ·cases rr with
  |error e=>
   obtain⟨a,C,t,vs,H',B,e1,F⟩:=RV
   exact(F.ends).elim
  |ok fl=>
   cases fl with
   |ret u=>
    obtain⟨v,H',os,bare,un,aJ,rv,rfl,rfl⟩:=RV
    obtain⟨t,rfl⟩:=rv
    obtain⟨u1,k1,M0⟩:=wd.back un (FW.aJ If.aJ) aJ
    obtain⟨hh,g,dr,tk,os'⟩:=s'
    obtain rfl:os'=s.os:=os
    exact⟨⟨t,rfl⟩,I.call (h':=hh) (g':=g) (d':=dr) (t':=tk) (ch:=[]) u1 k1 bare (λb z=>absurd z (by simp)),M0⟩
   |_=>exact RV.elim
end
structure KM(X:Cx)(σ:St)(H:Hp)(kk:Nat)(d f:Addr)(aw:List (List Key×V))(cf:Nat->Int):Prop where
 room:dP (kk+1) X.A
 dt:H d=some (.dT aw)
 lam:∃(p y:Str) (params:Arguments) (body:Expr) (scope:Scope) (qual:Str) (c c':Addr) (oc:Obj) (di:Array Value) (ct:Tok) (pm fV:Value) (iy:Nat),uL p y params body scope/\X.env.cells.lookup y=some c/\X.s₀.heap.objs.size<=c/\H f=some (.bE (PySem.W.kla_obj "<lambda>" qual params body scope [(y,c)] pm c' fV) bV)/\
  H c'=some (.bE oc bV)/\oc.data=.fields di/\di[1]?=some (.str qual ct)/\(∀u,bindArgs (PySem.W.kla_fn "<lambda>" qual params body scope [(y,c)] pm (.ref c') fV) ⟨[u],[]⟩=pure ([p].zip [u]))/\
  X.N[iy]?=some y/\σ[iy]?=some (some (V.ref d))/\X.env.scope.names.lookup y=some .cell
 cost:∀(i:Nat) k v,aw[i]?=some (k,v)->∃q r,v=V.ref q/\fw X.K H q (.int (cf i)::r)
def EM{aw:List (List Key×V)}:∀{i:Nat} {k:List Key} {v:V},(aw.map (·.1)).Nodup->aw[i]?=some (k,v)->ip aw k=some v:=by
 induction aw with
 |nil=>intro i k v _ h;simp at h
 |cons x r ih=>
  intro i k v nd h;rw [zzF,List.nodup_cons] at nd;cases i with
  |zero=>simp at h;subst h;exact gN rfl
  |succ i=>
   simp at h;rw [gR λe=>nd.1 (e▸zzx.mpr ⟨(k,v),zzD h,rfl⟩)]
   exact ih nd.2 h
section
variable{X:Cx}{ae:List (Addr×Obj)}{σ:St}{H:Hp}{s:Shared}{d f it S:Addr}{o:Obj}{es:Array DictEntry}{ep:Nat}{aw:List (List Key×V)}{kk:Nat}{cf:Nat->Int}{R:Result->Shared->Prop}
def EI(I:Inv X ae σ H s)(e:H d=some (.dT aw)):(d==sysModules)=false/\(aw.map (·.1)).Nodup/\∃o es ep,s.heap.get? d=some o/\o.ExactDict/\o.data=.dict es ep/\es.size=aw.length/\∀(i:Nat) (h:i<es.size),∃b k v,es[i].key=.ref b/\aw[i]?=some (k,v)/\H b=some (.tup (k.map kV)):=by
 obtain⟨lo,nd,o,es,ep,h1,h2,h3,hl,hk⟩:=Be (I.aJ d _ e)
 exact⟨lo,nd,o,es,ep,h1,h2,h3,hl,λi hi=>let⟨b,k,v,e1,e2,e3,_⟩:=hk i hi;⟨b,k,v,e1,e2,e3⟩⟩
def fE.pin{b:Addr}{ob:Obj}(h:fE X ae H b)(e:s.heap.get? b=some ob)(n:∀v,ob.data≠.cell v):s.heap.get? b=some ob/\H b=none/\b≠X.env.locals/\b∉X.fs/\∀v,ob.data≠.cell v:=⟨e,h.1,h.2.1,h.2.2.1,n⟩
def CC(M:KM X σ H kk d f aw cf)(I:Inv X ae σ H s)(fi:fE X ae H it)(fS:fE X ae H S)(ho:s.heap.get? d=some o){oi oS:Obj}(hi:s.heap.get? it=some oi)(ci:∀v,oi.data≠.cell v)(hS:s.heap.get? S=some oS)(cS:∀v,oS.data≠.cell v)
 (nd:(aw.map (·.1)).Nodup) {i:Nat} {k:List Key} {v:V} {b:Addr} (hk:aw[i]?=some (k,v)) (hb:H b=some (.tup (k.map kV))) {E:Value->Shared->Prop} {Q:Value->Shared->Prop}
 (h:∀t s',Inv X ae σ H s'->s'.heap.get? d=some o->s'.heap.get? it=some oi->s'.heap.get? S=some oS->Q (.int (cf i) t) s'):wpAny (model X.prog X.w) X.A.in1 (call (.ref f) [.ref b]) Q E s:=by
 obtain⟨p,y,params,body,scope,qual,c,c',oc,di,ct,pm,fV,iy,L,l1,l2,l3,l4,l5,l6,l7,l8,l9,l10⟩:=M.lam
 obtain⟨q,r,rfl,hq⟩:=M.cost i k v hk
 have I1:Inv X ((it,oi)::(S,oS)::ae) σ H s:=by
  refine I.il λp hp=>?_
  rcases zzm.mp hp with rfl|hp
  ·exact fi.pin hi ci
  ·rcases zzm.mp hp with rfl|hp
   ·exact fS.pin hS cS
   ·exact I.pin p (zzR _ hp)
 have cell:s.heap.IsCell c (some (.ref d)):=by
  obtain⟨m,_,hloc⟩:=I.loc
  obtain⟨u,ru,lk⟩:=hloc iy y (.ref d) l8 l9 (.inr (.inl l10))
  cases(show u=Value.ref d from ru);rcases lk with⟨z,_⟩|⟨_,c2,hc2,z⟩
  ·have z2:X.env.scope.names.lookup y=some .local:=z
   rw [l10] at z2;cases z2
  ·rw [l1] at hc2;cases hc2;exact z
 refine wpAny_mono (DF (kk:=kk) rfl L M.room I1 M.dt ho l1 l2 cell l3 l4 l5 l6 l7 hb (EM nd hk) hq) (λu s' hu=>?_) λ_ _ z=>z
 obtain⟨⟨t,rfl⟩,J,hd⟩:=hu
 refine h t s' (J.il λp hp=>J.pin p (zzR _ (.tail _ (.tail _ hp)))) hd (J.pin (it,oi) (zzR _ (.head _))).1 (J.pin (S,oS) (zzR _ (.tail _ (.head _)))).1
def xY{h:Heap}{c:Nat}{xs ys:Array Value}(e:h.get? S=some (seqObj "list" xs c)):∃c',(h.update S (Obj.mapSeq λ_=>ys)).get? S=some (seqObj "list" ys c'):=⟨_,get?_update_seq e λ_=>ys⟩
def nA{xs:Array Value}{c:Nat}:∀v,(seqObj "list" xs c).data≠.cell v:=λv z=>nomatch z
def Cz(M:KM X σ H kk d f aw cf)(hh:X.A.handled=none)(hd:o.data=.dict es ep)(hl:es.size=aw.length)(uE:∀(i:Nat) (h:i<es.size),∃b k v,es[i].key=.ref b/\aw[i]?=some (k,v)/\H b=some (.tup (k.map kV)))(nd:(aw.map (·.1)).Nodup)
 (fi:fE X ae H it) (fS:fE X ae H S) (nS:S≠it) (hR:∀(i:Nat) (h:i<es.size) s',(∀j,j<es.size->cf i<=cf j/\(j<i->cf i<cf j))->Inv X ae σ H s'->R (.ok (.ret es[i].key)) s'):
 ∀(r j i:Nat) (s:Shared) (t:Tok) (c:Nat) (hi:i<es.size),es.size-(j+1)=r->j+1<=es.size->Inv X ae σ H s->s.heap.get? d=some o->s.heap.IsKeyIter it d (j+1) es.size ep->s.heap.get? S=some (seqObj "list" #[es[i].key,.int (cf i) t] c)->i<=j->(∀j',j'<=j->cf i<=cf j'/\(j'<i->cf i<cf j'))->
  codeAny (model X.prog X.w) X.A (.builtin "min.loop" ⟨[.ref it,.ref f,.ref S],[]⟩) R s:=by
 have name:(toString "min"++toString ".loop":String)="min.loop":=by decide
 have QS:S≠d:=λz=>by have:=fS.1;rw [z,M.dt] at this;cases this
 have QF:it≠d:=λz=>by have:=fi.1;rw [z,M.dt] at this;cases this
 intro r
 induction r with
 |zero=>
  intro j i s t c hi hr hj I ho st hS sE best;refine codeAny_builtin PySem.F.entry_min_loop ?_;rw [zz7 PySem.F.plain_min_loop _];show wpAny _ X.A.in1 (seqItems? (.ref S)>>=λz=>_) _ _ _
  refine zzA (wpAny_seqItems hS rfl ?_);show wpAny _ X.A.in1 (tryCatch (pyNext (.ref it)) _>>=λz=>_) _ _ _
  refine zzA (wpAny_tryCatch (uT hh st ho hd (by omega) λh' eb=>?_))
  have B0:=eb S _ nS hS
  have I1:=I.turned (h':=h') (t':=s.toks) (λb o hb e=>eb b o hb e) fi.1 fi.2.1 fi.2.2.2.1 fi.2.2.2.2.1 fi.2.2.2.2.2
  show wpAny _ X.A.in1 (updateSeq S (λ_=>#[])>>=λz=>_) _ _ _
  refine zzA (wpAny_updateSeq B0 rfl (zzA (wpAny_letGo (zzG ?_))));have s1:=zzu h' S (Obj.mapSeq λ_=>(#[]:Array Value))
  exact hR i hi _ (λj' Ah=>best j' (by omega)) (I1.turned (t':=s.toks) (λb o hb e=>(s1.2 b hb).trans e) fS.1 fS.2.1 fS.2.2.2.1 fS.2.2.2.2.1 fS.2.2.2.2.2)
 |succ r ih=>
  intro j i s t c hi hr hj I ho st hS sE best;have bS:j+1<es.size:=by omega
  refine codeAny_builtin PySem.F.entry_min_loop ?_;rw [zz7 PySem.F.plain_min_loop _];show wpAny _ X.A.in1 (seqItems? (.ref S)>>=λz=>_) _ _ _
  refine zzA (wpAny_seqItems hS rfl ?_);show wpAny _ X.A.in1 (tryCatch (pyNext (.ref it)) _>>=λz=>_) _ _ _
  refine zzA (wpAny_tryCatch (lG st ho hd bS λh' iV sb=>?_));have B0:=(sb.2 S nS).trans hS
  have jV:=(sb.2 d (Ne.symm QF)).trans ho
  have I1:=I.turned (h':=h') (t':=s.toks) (λb o hb e=>(sb.2 b hb).trans e) fi.1 fi.2.1 fi.2.2.2.1 fi.2.2.2.2.1 fi.2.2.2.2.2
  obtain⟨oi,gi,gc,gd⟩:=id iV
  obtain⟨b,k,v,e1,e2,e3⟩:=uE (j+1) bS
  rw [e1];show wpAny _ X.A.in1 (tryCatch (holding [Value.ref b] (call (.ref f) [Value.ref b])) _>>=λz=>_) _ _ _
  refine zzA (wpAny_tryCatch (wpAny_holding (CC M I1 fi fS jV gi (λv z=>by rw [gd] at z;cases z) B0 nA nd e2 e3 λt2 s2 I2 LS OT MZ=>?_)))
  have JY:s2.heap.IsKeyIter it d (j+1+1) es.size ep:=⟨oi,OT,gc,gd⟩
  show wpAny _ X.A.in1 (tryCatch (holding [Value.ref b,.int (cf (j+1)) t2] (richCompare .Lt (.int (cf (j+1)) t2) (.int (cf i) t)>>=λz=>_)) _>>=λz=>_) _ _ _
  refine zzA (wpAny_tryCatch (wpAny_holding (zzA (CmpOf.ints_lt (prog:=X.prog) (w:=X.w) (A:=X.A.in1) (P:=λi v=>∃t,v=.int (cf i) t) cf (λi v h=>h) (j+1) i _ _ _ _ _ ⟨t2,rfl⟩ ⟨t,rfl⟩ ?_))))
  refine zzA (wpAny_holding (wpAny_truthy_bool (zzA (wpAny_letGo (zzG ?_)))))
  by_cases k7:cf (j+1)<cf i
  ·obtain⟨c2,hc2⟩:=xY (ys:=#[Value.ref b,.int (cf (j+1)) t2]) MZ
   have s1:=zzu s2.heap S (Obj.mapSeq λ_=>#[Value.ref b,.int (cf (j+1)) t2])
   simp! [k7,decide_true,if_true];refine zzA (wpAny_updateSeq MZ rfl (zzA (wpAny_letGo ?_)));rw [name];rw [<-e1] at hc2 s1⊢;refine zzG ⟨plainId_quiet PySem.F.plain_min_loop _,ih (j+1) (j+1) _ t2 c2 bS (by omega) bS (I2.turned (t':=s2.toks) (λb o hb e=>(s1.2 b hb).trans e) fS.1 fS.2.1 fS.2.2.2.1 fS.2.2.2.2.1 fS.2.2.2.2.2) ?_ ?_ ?_ (zzE _) λj' Ah=>?_⟩
   ·exact(s1.2 d (Ne.symm QS)).trans LS
   ·exact⟨oi,(s1.2 it (Ne.symm nS)).trans OT,gc,gd⟩
   ·exact hc2
   ·by_cases e:j'=j+1
    ·subst e;exact⟨by omega,λ_=>by omega⟩
    ·have:=best j' (by omega)
     exact⟨by omega,λ_=>by omega⟩
  ·simp! [k7,decide_false,zze,if_false];refine zzA (wpAny_letGo ?_);rw [name];refine zzG ⟨plainId_quiet PySem.F.plain_min_loop _,ih (j+1) i _ t c hi (by omega) bS I2 LS JY MZ (by omega) λj' Ah=>?_⟩
   by_cases e:j'=j+1
   ·subst e;exact⟨by omega,λ_=>by omega⟩
   ·exact best j' (by omega)
def yG(M:KM X σ H kk d f aw cf)(g8:0<aw.length)(I:Inv X ae σ H s){Q:VK}
 (q:∀i k v b,aw[i]?=some (k,v)->H b=some (.tup (k.map kV))->(∀j,j<aw.length->cf i<=cf j/\(j<i->cf i<cf j))->Q (.ref b) H):wpAny (model X.prog X.w) X.A (call (.builtin "min") [.ref d] [(Str.ofString "key",.ref f)]) (EP X ae σ Q) X.xe s:=by
 have name:(toString "min"++toString ".loop":String)="min.loop":=by decide
 have hh:X.A.handled=none:=M.room.hd
 obtain⟨lo,nd,o,es,ep,ho,hx,hd,hl,uE⟩:=EI I M.dt
 have fin:∀(i:Nat) (h:i<es.size) s',(∀j,j<es.size->cf i<=cf j/\(j<i->cf i<cf j))->Inv X ae σ H s'->EP X ae σ Q es[i].key s':=λi h s' b J=>by
  obtain⟨a,k,v,e1,e2,e3⟩:=uE i h
  rw [e1];exact⟨.ref a,H,J,rfl,q i k v a e2 e3 λj hj=>b j (by omega)⟩
 refine kmk_tree PySem.F.kind_min PySem.F.plain_min PySem.F.entry_min (kmk_min_key _ _) ?_;show wpAny _ X.A.in1 (Builtin.Builtins.bindParams "min" ["key","default"] 0 ⟨[],[(Str.ofString "key",.ref f)]⟩>>=λz=>_) _ _ s
 refine zzA (wpAny_of_eq (show Builtin.Builtins.bindParams "min" ["key","default"] 0 ⟨[],[(Str.ofString "key",.ref f)]⟩=pure [some (.ref f),none] from rfl) (zzA (zzG ?_)));refine zzA (qz lo ho hx hd (zzA (wpAny_newList ?_ (Nat.zero_le _))));rw [name];generalize hit:(zz9 s)=it
 generalize hSS:(s.heap.push {cls:=.type "dict_keyiterator",data:=.fields #[.ref d,.int 0 0,.int es.size 0,.int ep 0]}).objs.size=S
 have eS:S=it+1:=by rw [<-hSS,<-hit];exact size_push' ..
 have nS:S≠it:=by omega
 have hH:(zz9 s)<=S:=by omega
 have fi:fE X ae H it:=by rw [<-hit];exact I.m5 (zzE _) (I.aJ.fresh (zzE _))
 have fS:fE X ae H S:=I.m5 hH (I.aJ.fresh hH)
 have keep:∀b ob,s.heap.get? b=some ob->((s.heap.push {cls:=.type "dict_keyiterator",data:=.fields #[.ref d,.int 0 0,.int es.size 0,.int ep 0]}).push (seqObj "list" #[] 0)).get? b=some ob:=λb ob e=>zzB _ (zzB _ e)
 have I1:=I.kept (t':=s.toks) keep
 have gI:((s.heap.push {cls:=.type "dict_keyiterator",data:=.fields #[.ref d,.int 0 0,.int es.size 0,.int ep 0]}).push (seqObj "list" #[] 0)).get? it=some {cls:=.type "dict_keyiterator",data:=.fields #[.ref d,.int 0 0,.int es.size 0,.int ep 0]}:=by
  rw [<-hit];exact zzB _ (zzX _ rfl)
 have gS:((s.heap.push {cls:=.type "dict_keyiterator",data:=.fields #[.ref d,.int 0 0,.int es.size 0,.int ep 0]}).push (seqObj "list" #[] 0)).get? S=some (seqObj "list" #[] 0):=by
  rw [<-hSS];exact zzX _ rfl
 have QS:S≠d:=λz=>by have:=fS.1;rw [z,M.dt] at this;cases this
 have QF:it≠d:=λz=>by have:=fi.1;rw [z,M.dt] at this;cases this
 refine zzG ⟨plainId_quiet PySem.F.plain_min_loop _,codeAny_builtin PySem.F.entry_min_loop ?_⟩;rw [zz7 PySem.F.plain_min_loop _];show wpAny _ X.A.in1 (seqItems? (.ref S)>>=λz=>_) _ _ _
 refine zzA (wpAny_seqItems gS rfl ?_);show wpAny _ X.A.in1 (tryCatch (pyNext (.ref it)) _>>=λz=>_) _ _ _
 have h0:0<es.size:=by omega
 refine zzA (wpAny_tryCatch (lG (i:=0) ⟨_,gI,rfl,rfl⟩ (keep _ _ ho) hd h0 λh' iV sb=>?_))
 have B0:=(sb.2 S nS).trans gS
 have jV:=(sb.2 d (Ne.symm QF)).trans (keep _ _ ho)
 have I2:=I1.turned (h':=h') (t':=s.toks) (λb o hb e=>(sb.2 b hb).trans e) fi.1 fi.2.1 fi.2.2.2.1 fi.2.2.2.2.1 fi.2.2.2.2.2
 obtain⟨oi,gi,gc,gd⟩:=id iV
 obtain⟨b,k,v,e1,e2,e3⟩:=uE 0 h0
 rw [e1];show wpAny _ X.A.in1 (tryCatch (holding [Value.ref b] (call (.ref f) [Value.ref b])) _>>=λz=>_) _ _ _
 refine zzA (wpAny_tryCatch (wpAny_holding (CC M I2 fi fS jV gi (λv z=>by rw [gd] at z;cases z) B0 nA nd e2 e3 λt2 s2 I3 LS OT MZ=>?_)))
 obtain⟨c2,hc2⟩:=xY (ys:=#[Value.ref b,.int (cf 0) t2]) MZ
 have s1:=zzu s2.heap S (Obj.mapSeq λ_=>#[Value.ref b,.int (cf 0) t2])
 show wpAny _ X.A.in1 (updateSeq S (λ_=>#[Value.ref b,.int (cf 0) t2])>>=λz=>_) _ _ _
 refine zzA (wpAny_updateSeq MZ rfl ?_);rw [name];rw [<-e1] at hc2 s1⊢;refine zzG ⟨plainId_quiet PySem.F.plain_min_loop _,Cz M hh hd hl uE nd fi fS nS fin _ 0 0 _ t2 c2 h0 rfl h0 (I3.turned (t':=s2.toks) (λb o hb e=>(s1.2 b hb).trans e) fS.1 fS.2.1 fS.2.2.2.1 fS.2.2.2.2.1 fS.2.2.2.2.2) ((s1.2 d (Ne.symm QS)).trans LS) ⟨oi,(s1.2 it (Ne.symm nS)).trans OT,gc,gd⟩ hc2 (zzE _) λj' Ah=>?_⟩
 have e:j'=0:=by omega
 subst e;exact⟨by omega,λh=>absurd h (Nat.lt_irrefl _)⟩
end
end L2
namespace L2
open PySem PySem.Spec PyProof.Rows PySem.W
noncomputable def i8{α:Type}(dflt:α)(l:List α)(nss:List (List Int)):List α:=if l.length<2 then l else(jZ l.length λi j=>HT.lexLt (nss.getD i []) (nss.getD j [])).map λi=>l.getD i dflt
section
variable{prog:Program}{w:World}{A:Around}{E:Value->Shared->Prop}{s:Shared}{a:Addr}{vs:List Value}{nss:List (List Int)}
def A5{n:Nat}{P:PySem.Fin->Shared->Prop}(ho:s.heap.get? a=some (seqObj "list" vs.toArray n))(h2:vs.length<2)
 (h:∀h' c,(∀b o,b≠a->s.heap.get? b=some o->h'.get? b=some o)->h'.get? a=some (seqObj "list" vs.toArray c)->P (.done (.ret .none)) {s with heap:=h'}):wpAny (model prog w) A (Builtin.«list.sort» ⟨[.ref a],[]⟩) P E s:=by
 have s1:=zzu s.heap a (Obj.mapSeq λ_=>(#[]:Array Value))
 obtain⟨e1,ho1⟩:=mR (ys:=(#[]:Array Value)) ho
 generalize hH:(((s.heap.update a (Obj.mapSeq λ_=>(#[]:Array Value))).push (seqObj "tuple" vs.toArray 0)).push (seqObj "list" #[] 0))=H1
 have k1:∀b o,b≠a->s.heap.get? b=some o->H1.get? b=some o:=λb o hb e=>by rw [<-hH];exact zzB _ (zzB _ ((s1.2 b hb).trans e))
 have a1:H1.get? a=some (seqObj "list" #[] e1):=by rw [<-hH];exact zzB _ (zzB _ ho1)
 rw [list_sort_plain];refine zzA (listItems_at ho rfl (zzA (listUpdate_at ho rfl ?_ (by rw [zzC,sizeLine_eq];omega) (Nat.zero_le _))));refine zzA (seqEpoch_at ho1 rfl (zzA (wpAny_newTuple ?_ (by show vs.length<=_;rw [sizeLine_eq];omega))));refine zzA (wpAny_newList ?_ (Nat.zero_le _));refine wpAny_holding ?_;show wpAny (model prog w) A _ P E {s with heap:=((s.heap.update a (Obj.mapSeq λ_=>(#[]:Array Value))).push (seqObj "tuple" vs.toArray 0)).push (seqObj "list" #[] 0)}
 rw [hH];dsimp only;have Ji:vs.toArray.size<2:=by rw [zzC];omega
 rw [if_pos Ji,if_pos Ji];refine zzA (zzG (zzA ?_));show wpAny (model prog w) A (pure ((),SortSt.mk' general' (vs.toArray.zip vs.toArray) #[] 7 none)) _ E _;refine zzG ?_;dsimp only;have JS:(arrOf (SortSt.mk' general' (vs.toArray.zip vs.toArray) #[] 7 none)).map (·.2)=vs.toArray:=by
  show(vs.toArray.zip vs.toArray).map (·.2)=vs.toArray
  apply Array.toList_inj.mp
  simp! [Array.toList_map,Array.toList_zip];exact List.map_snd_zip (zzE _)
 rw [JS];have s2:=zzu H1 a (Obj.mapSeq λ_=>vs.toArray)
 obtain⟨c2,hc2⟩:=mR (ys:=vs.toArray) a1
 refine zzA (seqEpoch_at a1 rfl (zzA (listUpdate_at a1 rfl ?_ (Nat.zero_le _) (by rw [zzC,sizeLine_eq];omega))));simp! [bne_self_eq_false,zze,if_false];exact zzG (h _ c2 (λb o hb e=>(s2.2 b hb).trans (k1 b o hb e)) hc2)
def A2{n:Nat}{P:PySem.Fin->Shared->Prop}(ho:s.heap.get? a=some (seqObj "list" vs.toArray n))(Fo:vs.length<64)(rd:2<=vs.length->∀h',(∀b o,b≠a->s.heap.get? b=some o->h'.get? b=some o)->Nd prog w A E vs (λi j=>HT.lexLt (nss.getD i []) (nss.getD j [])) {s with heap:=h'})
 (h:∀h' c,(∀b o,b≠a->s.heap.get? b=some o->h'.get? b=some o)->h'.get? a=some (seqObj "list" (i8 Value.none vs nss).toArray c)->P (.done (.ret .none)) {s with heap:=h'}):wpAny (model prog w) A (Builtin.«list.sort» ⟨[.ref a],[]⟩) P E s:=by
 by_cases h2:vs.length<2
 ·exact A5 ho h2 λh' c k e=>h h' c k (by unfold i8;rw [if_pos h2];exact e)
 ·exact yD ho (by omega) Fo (rd (by omega)) λh' c k e=>h h' c k (by unfold i8;rw [if_neg h2];exact e)
def ux{d:Addr}{o:Obj}{es:Array DictEntry}{ep:Nat}(lo:(d==sysModules)=false)(hx:o.ExactDict)(hd:o.data=.dict es ep):KdlSrc prog w "dict" d d es.size (λi v=>∃h:i<es.size,v=es[i].key) (λh=>h.get? d=some o) where
 type:=λs e=>⟨o,e,hx.1⟩
 there:=λh e=>⟨zzO e,zzO e⟩
 keep:=λh h' e k=>k d (.inl rfl) o e
 notList:=by decide
 notTuple:=by decide
 hint:=λA E s Q e q=>kdl_hint_dict ⟨o,e,hx.1⟩ q
 iter:=λA s hh e=>⟨_,λi h=>h.IsKeyIter (zz9 s) d i es.size ep/\h.get? d=some o,(λE Q q=>qz lo e hx hd q),{
  sub:=λb hb=>by simp at hb;simp [hb]
  frame:=λ_ _ _ st hk=>⟨st.1.at λo e=>hk _ (by simp) o e,hk d (by simp) o st.2⟩
  item:=λi s' Q E hi st hQ=>lG st.1 st.2 hd hi λh' iV sb=>hQ _ h' s'.toks ⟨hi,rfl⟩ ⟨iV,(sb.2 d (zzb (zzO e))).trans st.2⟩ λb o hb z=>(sb.2 b (λy=>hb (by simp [y]))).trans z
  done:=λs' Q E st hQ=>uT hh st.1 st.2 hd (zzE _) λh' eb=>hQ h' s'.toks λb o hb z=>eb b o (λy=>hb (by simp [y])) z
  self:=λ_ _ _ _ st hQ=>wpAny_pyIter_keyiter st.1 hQ},⟨⟨_,zzX _ rfl,rfl,rfl⟩,zzB _ e⟩⟩
def rT{Q:List Value->Shared->Prop}{T:String}{r d:Addr}{n:Nat}{P:Nat->Value->Prop}{OK:Heap->Prop}(K:KdlSrc prog w T r d n P OK)(hh:A.handled=none)(aJ:OK s.heap)(hn:n<=sizeLine)
 (hQ:∀h' tk (acc:Array Value),(∀b o,s.heap.get? b=some o->h'.get? b=some o)->ItemsOf P acc n->Q acc.toList {s with heap:=h',toks:=tk}):wpAny (model prog w) A (collect (.ref r)) Q E s:=by
 have hS:(s.heap.push (seqObj "list" #[] 0)).get? (zz9 s)=some {cls:=.type "list",data:=.seq #[] 0}:=zzX _ rfl
 have bS:=K.there _ aJ
 have main:codeAny (model prog w) A (.builtin "proto.collect" ⟨[.ref r],[]⟩) (λres s'=>∃h' tk rG c',res=.ok (.ret (.ref (zz9 s)))/\s'={s with heap:=h',toks:=tk}/\(∀b o,s.heap.get? b=some o->h'.get? b=some o)/\h'.get? (zz9 s)=some {cls:=.type "list",dict:=none,data:=.seq rG c',slots:=#[]}/\ItemsOf P rG n) s:=by
  refine codeAny_builtin F.entry_proto_collect ?_;rw [zz7 F.plain_proto_collect _];show wpAny _ A.in1 (newList []>>=λl=>again (.builtin "list.__iadd__" ⟨[l,.ref r],[]⟩)) _ _ s
  refine zzA (wpAny_newList (zzG ⟨plainId_quiet F.plain_list_iadd _,codeAny_builtin F.entry_list_iadd ?_⟩) (Nat.zero_le _));rw [zz7 F.plain_list_iadd _];exact kdl_extend (R:=λres s'=>∃h' tk rG c',res=.ok (.ret (.ref (zz9 s)))/\s'={s with heap:=h',toks:=tk}/\(∀b o,s.heap.get? b=some o->h'.get? b=some o)/\h'.get? (zz9 s)=some {cls:=.type "list",dict:=none,data:=.seq rG c',slots:=#[]}/\ItemsOf P rG n)
   (s:={s with heap:=s.heap.push (seqObj "list" #[] 0)}) (A:=A) K hh (K.keep _ _ aJ λb _ o e=>zzB _ e) _ (Nat.ne_of_gt bS.1) (Nat.ne_of_gt bS.2) (.ref (zz9 s)) 0 hS (λh' tk rG c' hk B0 Jd=>⟨h',tk,rG,c',rfl,rfl,λb o e=>hk b o (zzb (zzO e)) (zzB _ e),B0,Jd⟩) hn
 unfold collect;refine zzA (wpAny_runValue (codeAny_mono main λres s' hr=>?_));obtain⟨h',tk,rG,c',rfl,rfl,k1,k2,k3⟩:=hr
 show wpAny _ A (load (zz9 s)>>=λz=>_) _ _ _
 exact zzA (wpAny_load k2 (zzG (hQ h' tk rG k1 k3)))
end
abbrev CZ(K:zz8)(H:Hp)(vs:List V)(nss:List (List Int)):Prop:=Paired (λv ns=>∃b,v=V.ref b/\fw K H b (ns.map V.int)/\ns≠[]) vs nss
section
variable{X:Cx}{ae:List (Addr×Obj)}{σ:St}{H:Hp}{s:Shared}{vs:List V}{us:List Value}{nss:List (List Int)}{A:Around}{E:Value->Shared->Prop}{Q:VK}
def FK(I:Inv X ae σ H s):∀{vs:List V} {us:List Value} {nss:List (List Int)},Vals vs us->CZ X.K H vs nss->mK s.heap us nss:=by
 intro vs us nss r t
 induction t generalizing us with
 |nil=>cases r;exact .nil
 |cons h t ih=>
  obtain⟨b,rfl,hq,g8⟩:=h
  cases r with
  |cons r1 r2=>
   cases(show _=Value.ref b from r1);obtain⟨ay,rv,⟨o,g1,g2,n,g3⟩,_⟩:=I.tuple hq
   exact .cons ⟨b,o,ay.toArray,n,rfl,g1,g2,g3,by simpa using rv,g8⟩ (ih r2)
def CM(r:Vals vs us):Vals (i8 V.aD vs nss) (i8 Value.none us nss):=by
 have hl:=r.length
 unfold i8;rw [hl];split
 ·exact r
 ·have go:∀l:List Nat,Vals (l.map λi=>vs.getD i V.aD) (l.map λi=>us.getD i Value.none):=by
   intro l
   induction l with
   |nil=>exact .nil
   |cons i l ih=>
    refine .cons ?_ ih;dsimp only
    by_cases hi:i<vs.length
    ·obtain⟨u,hu,ru⟩:=r.get (zzg hi)
     have e1:vs.getD i V.aD=vs[i]:=by simp [hi]
     have e2:us.getD i Value.none=u:=by simp [hu]
     rw [e1,e2];exact ru
    ·have e1:vs.getD i V.aD=.aD:=by simp [Nat.le_of_not_lt hi]
     have e2:us.getD i Value.none=.none:=by simp [Nat.le_of_not_lt (hl▸hi)]
     rw [e1,e2];exact rfl
  exact go _
def Ew{α:Type}{d:α}{l:List α}:(i8 d l nss).length=l.length:=by
 unfold i8;split
 ·rfl
 ·rename_i h;rw [zzl,(gX (by omega) _).length_eq,List.length_range]
def my(I:Inv X ae σ H s)(r:Vals vs us)(rd:2<=us.length->∀h',(∀b o,s.heap.get? b=some o->h'.get? b=some o)->Nd X.prog X.w A.in1 E us (λi j=>HT.lexLt (nss.getD i []) (nss.getD j [])) {s with heap:=h'})(Fo:vs.length<64)(q:∀p,H p=none->Q (.ref p) (upd H p (.lst (i8 V.aD vs nss)))):
 wpAny (model X.prog X.w) A (newList us>>=λl=>holding [l] (call (.builtin "list.sort") [l] [])>>=λ_=>ret l) (λfin s'=>∃v,fin=.done (.ret v)/\EP X ae σ Q v s') E s:=by
 have hl:=r.length
 refine zzA (wpAny_newList ?_ (by rw [sizeLine_eq];omega));have MO:(s.heap.push (seqObj "list" us.toArray 0)).get? (zz9 s)=some (seqObj "list" us.toArray 0):=zzX _ rfl
 have kp:∀b o,s.heap.get? b=some o->(s.heap.push (seqObj "list" us.toArray 0)).get? b=some o:=λb o e=>zzB _ e
 refine zzA (wpAny_holding (wpAny_call_entry slot_list_sort ⟨_,MO,rfl⟩ entry_list_sort ?_ (args_list_sort _)));refine A2 (s:={s with heap:=s.heap.push (seqObj "list" us.toArray 0)}) MO (by omega) (λh2 h' k=>rd h2 h' λb o e=>k b o (zzb (zzO e)) (kp b o e)) λh' c k e=>⟨_,rfl,zzG ⟨_,rfl,.ref (zz9 s),upd H (zz9 s) (.lst (i8 V.aD vs nss)),?_,rfl,q _ (I.aJ.fresh (zzE _))⟩⟩
 exact I.laid (a:=(zz9 s)) (t':=s.toks) (λb o z=>k b o (zzb (zzO z)) (kp b o z)) (zzE _) ⟨by rw [Ew,sizeLine_eq];omega,_,c,CM r,e⟩
theorem DI(I:Inv X ae σ H s)(r:Vals vs us)(t:CZ X.K H vs nss)(h2:2<=us.length)(h':Heap)(k:∀b o,s.heap.get? b=some o->h'.get? b=some o):Nd X.prog X.w A E us (λi j=>HT.lexLt (nss.getD i []) (nss.getD j [])) {s with heap:=h'}:=AU (s:={s with heap:=h'}) ((FK I r t).keep λb o e _=>k b o e) h2
def j7{d:Addr}{aw:List (List Key×V)}(I:Inv X ae σ H s)(e:Rd H d (.dT aw)):(d==sysModules)=false/\∃o es ep,s.heap.get? d=some o/\o.ExactDict/\o.data=.dict es ep/\es.size=aw.length/\∀(i:Nat) (h:i<es.size),∃b k v,es[i].key=.ref b/\aw[i]?=some (k,v)/\H b=some (.tup (k.map kV))/\RelV v es[i].val:=by
 have ok:bW X.prog X.w H s.heap d (.dT aw):=by
  rcases e with e|⟨o,e⟩
  ·exact I.aJ d _ e
  ·exact(I.aJ d _ e).2
 obtain⟨lo,_,r⟩:=Be ok
 exact⟨lo,r⟩
def wg{d:Addr}{aw:List (List Key×V)}(I:Inv X ae σ H s)(e:Rd H d (.dT aw)):(d==sysModules)=false/\∃o es ep,s.heap.get? d=some o/\o.ExactDict/\o.data=.dict es ep/\es.size=aw.length/\∀(i:Nat) (h:i<es.size),∃b k v,es[i].key=.ref b/\aw[i]?=some (k,v)/\H b=some (.tup (k.map kV)):=by
 obtain⟨lo,o,es,ep,h1,h2,h3,hl,hk⟩:=j7 I e
 exact⟨lo,o,es,ep,h1,h2,h3,hl,λi hi=>let⟨b,k,v,e1,e2,e3,_⟩:=hk i hi;⟨b,k,v,e1,e2,e3⟩⟩
def tH(I:Inv X ae σ H s){a:Addr}{aw:List (List Key×V)}{nss:List (List Int)}{es:Array DictEntry}{acc:Array Value}(hk:aw.map (·.1)=nss.map (·.map .inl))(uh:es.size=aw.length)(uE:∀(i:Nat) (h:i<es.size),∃b k v,es[i].key=.ref b/\aw[i]?=some (k,v)/\H b=some (.tup (k.map kV)))(it:ItemsOf (λi v=>∃h:i<es.size,v=es[i].key) acc es.size):∃vs:List V,Vals vs acc.toList/\Paired (λv ns=>∃b,v=V.ref b/\H b=some (.tup (ns.map V.int))) vs nss:=by
 have hn:nss.length=aw.length:=by have:=congrArg List.length hk;simpa using this.symm
 have hs:acc.toList.length=nss.length:=by rw [zzd,it.1];omega
 have ev:∀(i:Nat) v ns,acc.toList[i]?=some v->nss[i]?=some ns->∃b,v=.ref b/\H b=some (.tup (ns.map V.int)):=λi v ns e1 e2=>by
  obtain⟨hi,ev⟩:=it.2 i v (by rw [<-Array.getElem?_toList];exact e1)
  obtain⟨b,k,x,g1,g2,g3⟩:=uE i hi
  refine⟨b,ev.trans g1,?_⟩;have Jx:k=ns.map .inl:=by
   have:=congrArg (λl=>l[i]?) hk
   simp! [zzQ,g2,e2,Option.map_some] at this;exact zzq this
  rw [g3,Jx,List.map_map]
  rfl
 clear it uE hk I
 generalize acc.toList=us at hs ev
 clear hn
 induction nss generalizing us with
 |nil=>cases us with
  |nil=>exact⟨[],.nil,.nil⟩
  |cons u us=>simp at hs
 |cons ns nss ih=>
  cases us with
  |nil=>simp at hs
  |cons u us=>
   obtain⟨vs,h1,h2⟩:=ih us (by simpa using hs) λi v ns e1 e2=>ev (i+1) v ns (by simpa using e1) (by simpa using e2)
   obtain⟨b,rfl,hb⟩:=ev 0 u ns rfl rfl
   exact⟨.ref b::vs,.cons rfl h1,.cons ⟨b,rfl,hb⟩ h2⟩
def qg(hc:X.calm=true):cF X (.builtin "sorted") (λxs H Q=>∃a aw nss,xs=[V.ref a]/\Rd H a (.dT aw)/\aw.map (·.1)=nss.map (·.map .inl)/\(∀ns∈nss,ns≠[])/\aw.length<64/\
 ∀p vs,H p=none->Paired (λv ns=>∃b,v=V.ref b/\H b=some (.tup (ns.map V.int))) vs nss->Q (.ref p) (upd H p (.lst (i8 V.aD vs nss)))):=by
 intro ae s σ H xs us Q I r h;obtain⟨a,aw,nss,rfl,hl,hk,g8,Fo,q⟩:=h
 obtain⟨u,rfl,ru⟩:=vals1 r
 cases ru;obtain⟨lo,o,es,ep,h0,hx,h3,uh,uE⟩:=wg I hl
 refine Calls.call_function_entry kind_sorted plain_sorted entry_sorted (args_sorted1 _) ?_;unfold Builtin.«sorted»;refine zzA (m:=checkCount "sorted" 1 1 _) (zzG (zzA (rT (ux lo hx h3) (show X.A.in1.handled=none from I.ok.hd hc) h0 (by rw [sizeLine_eq];omega) λh' tk acc kp it=>?_)))
 have I1:=I.kept (t':=tk) (h':=h') kp
 obtain⟨vs,rv,pv⟩:=tH I1 (a:=a) hk uh uE it
 have hlen:vs.length<64:=by have:=Paired.length pv;have h9:=congrArg List.length hk;simp at h9;omega
 refine my I1 rv (DI I1 rv ?_) hlen λp hp=>q p vs hp pv
 clear hlen rv hk Fo q
 induction pv with
 |nil=>exact .nil
 |cons h t ih=>
  obtain⟨b,rfl,hb⟩:=h
  exact .cons ⟨b,rfl,.inl (.inl hb),g8 _ (.head _)⟩ (ih λns hm=>g8 ns (.tail _ hm))
def vZ(hc:X.calm=true):cF X (.type "list") (λxs H Q=>∃a aw,∃nss:List (List Int),xs=[V.ref a]/\Rd H a (.dT aw)/\aw.map (·.1)=nss.map (·.map .inl)/\aw.length<=sizeLine/\
 ∀p vs,H p=none->Paired (λv ns=>∃b,v=V.ref b/\H b=some (.tup (ns.map V.int))) vs nss->Q (.ref p) (upd H p (.lst vs))):=by
 intro ae s σ H xs us Q I r h;obtain⟨a,aw,nss,rfl,hl,hk,hz,q⟩:=h
 obtain⟨u,rfl,ru⟩:=vals1 r
 cases ru;obtain⟨lo,o,es,ep,h0,hx,h3,uh,uE⟩:=wg I hl
 refine kdl_call (ux lo hx h3) (I.ok.hd hc) h0 (by omega) λh' tk acc c kp hS it=>?_
 obtain⟨vs,rv,pv⟩:=tH I (a:=a) hk uh uE it
 have hn:acc.toList.length=vs.length:=rv.length.symm
 refine⟨.ref (zz9 s),upd H (zz9 s) (.lst vs),I.laid (a:=(zz9 s)) (t':=tk) kp (zzE _) ⟨?_,_,c,rv,?_⟩,rfl,q _ vs (I.aJ.fresh (zzE _)) pv⟩
 ·rw [<-hn,zzd,it.1];omega
 ·exact hS
end
end L2
namespace Ci
open PySem L2
def aP{p:Prop}(h:false=true):p:=absurd h zzf
inductive PV where
 |aD|bl (b:Bool)|int (i:Int)|str (z:Str)
 |tup (xs:List PV)|lst (xs:List PV)
 |exc (c:Str)
 |bf (ks:List (List Int)) (vs:List PV)
 deriving Inhabited
structure Wd where
 K:zz8
 mg:Str->Option Value
 xs:List Str
 ts:List (Addr×Str):=[]
def uD(K:zz8)(H:Hp)(a:Addr)(vs:List V):Prop:=
 Rd H a (.lst vs)\/∃(ay:Array Value) (n:Nat),K.lookup a=some {cls:=.type "list",data:=.seq ay n}/\ay.size<=sizeLine/\Vals vs ay.toList
def MT(K:zz8)(G:Hp)(a:Addr)(vs:List V):Prop:=G a=some (.tup vs)\/fw K G a vs/\∃z,V.str z∈vs
theorem MT.sq{K:zz8}{G:Hp}{a:Addr}{vs:List V}:MT K G a vs->fw K G a vs
 |.inl h=>.inl (.inl h)
 |.inr h=>h.1
def kz(ks:List (List Int))(us:List V):List (List Key×V):=(ks.map λk=>k.map Sum.inl).zip us
mutual
def Rep(W:Wd)(G:Hp):PV->V->Prop
 |.aD,v=>v=.aD
 |.bl b,v=>v=.bl b
 |.int i,v=>v=.int i
 |.str z,v=>v=.str z
 |.tup xs,v=>∃a vs,v=.ref a/\MT W.K G a vs/\aq W G xs vs
 |.lst xs,v=>∃a vs,v=.ref a/\uD W.K G a vs/\aq W G xs vs
 |.exc c,v=>∃a C,v=.ref a/\c∈W.xs/\W.mg c=some (.ref C)/\G a=some (ja a C)
 |.bf ks vs,v=>∃a o us,v=.ref a/\ks.length=us.length/\G a=some (.bE o (.dT (kz ks us)))/\aq W G vs us
def aq(W:Wd)(G:Hp):List PV->List V->Prop
 |[],vs=>vs=[]
 |p::ps,vs=>∃v r,vs=v::r/\Rep W G p v/\aq W G ps r
end
def aA.tup{K:zz8}{H H':Hp}{a:Addr}{xs:List V}(e:aA H H')(h:fw K H a xs):fw K H' a xs:=by
 rcases h with(h|⟨o,h⟩)|h
 ·exact .inl (.inl (e _ _ h))
 ·exact .inl (.inr ⟨o,e _ _ h⟩)
 ·exact .inr h
def aA.tp{K:zz8}{H H':Hp}{a:Addr}{xs:List V}(e:aA H H')(h:MT K H a xs):MT K H' a xs:=h.elim (λz=>.inl (e _ _ z)) λz=>.inr ⟨aA.tup e z.1,z.2⟩
def aA.rd{H H':Hp}{a:Addr}{u:HO}(e:aA H H')(h:Rd H a u):Rd H' a u:=by
 rcases h with h|⟨o,h⟩
 ·exact .inl (e _ _ h)
 ·exact .inr ⟨o,e _ _ h⟩
def aA.ls{K:zz8}{H H':Hp}{a:Addr}{vs:List V}(e:aA H H')(h:uD K H a vs):uD K H' a vs:=h.elim (λz=>.inl (aA.rd e z)) .inr
section
variable{W:Wd}{G G':Hp}
mutual
theorem Rep.same(s:aA G G'):∀(p:PV) {v:V},Rep W G p v->Rep W G' p v
 |.aD,_,h=>by simpa only [Rep] using h
 |.bl b,_,h=>by simpa only [Rep] using h
 |.int i,_,h=>by simpa only [Rep] using h
 |.str z,_,h=>by simpa only [Rep] using h
 |.tup xs,_,h=>by
  simp! [Rep] at h⊢;obtain⟨a,vs,e,q,l⟩:=h
  exact⟨a,vs,e,aA.tp s q,aq.same s xs l⟩
 |.lst xs,_,h=>by
  simp! [Rep] at h⊢;obtain⟨a,vs,e,q,l⟩:=h
  exact⟨a,vs,e,aA.ls s q,aq.same s xs l⟩
 |.exc c,_,h=>by
  simp! [Rep] at h⊢;obtain⟨a,C,e,x,m,q⟩:=h
  exact⟨a,C,e,x,m,s _ _ q⟩
 |.bf ks vs,_,h=>by
  simp! [Rep] at h⊢;obtain⟨a,o,us,e,n,m,l⟩:=h
  exact⟨a,o,us,e,n,s _ _ m,aq.same s vs l⟩
theorem aq.same(s:aA G G'):∀(ps:List PV) {vs:List V},aq W G ps vs->aq W G' ps vs
 |[],_,h=>by simpa only [aq] using h
 |p::ps,_,h=>by
  simp! [aq] at h⊢;obtain⟨v,r,e,h1,h2⟩:=h
  exact⟨v,r,e,Rep.same s p h1,aq.same s ps h2⟩
end
theorem aq.paired:∀{ps:List PV} {vs:List V},aq W G ps vs->Paired (λv p=>Rep W G p v) vs ps
 |[],_,h=>by simp! [aq] at h;subst h;exact .nil
 |p::ps,_,h=>by
  simp! [aq] at h;obtain⟨v,r,rfl,h1,h2⟩:=h
  exact .cons h1 (aq.paired h2)
def aq.length{ps:List PV}{vs:List V}(h:aq W G ps vs):vs.length=ps.length:=mS h.paired
def aq.nil:aq W G [] []:=by simp! [aq]
def aq.cons{p:PV}{v:V}{ps:List PV}{vs:List V}(h:Rep W G p v)(t:aq W G ps vs):aq W G (p::ps) (v::vs):=by simp! [aq];exact⟨_,_,rfl,h,t⟩
def aq.cB{p:PV}{ps:List PV}{vs:List V}(h:aq W G (p::ps) vs):∃v r,vs=v::r/\Rep W G p v/\aq W G ps r:=by simpa only [aq] using h
theorem aq.append:∀{ps qs:List PV} {vs us:List V},aq W G ps vs->aq W G qs us->aq W G (ps++qs) (vs++us)
 |[],_,_,_,h,k=>by simp! [aq] at h;subst h;exact k
 |p::ps,_,_,_,h,k=>by
  obtain⟨v,r,rfl,h1,h2⟩:=h.cB
  exact .cons h1 (h2.append k)
def aq.get:∀{ps:List PV} {vs:List V} {i:Nat} {v:V},aq W G ps vs->vs[i]?=some v->∃p,ps[i]?=some p/\Rep W G p v:=λh e=>pg h.paired e
theorem aq.nZ:∀{ps:List PV} {vs:List V} {i:Nat} {p:PV},aq W G ps vs->ps[i]?=some p->∃v,vs[i]?=some v/\Rep W G p v
 |[],_,_,_,_,e=>by simp at e
 |p::ps,_,0,q,h,e=>by
  obtain⟨v,r,rfl,h1,h2⟩:=h.cB
  simp at e;subst e;exact⟨v,rfl,h1⟩
 |p::ps,_,i+1,q,h,e=>by
  obtain⟨v,r,rfl,h1,h2⟩:=h.cB
  obtain⟨u,e1,k⟩:=h2.nZ (i:=i) (by simpa using e)
  exact⟨u,by simpa using e1,k⟩
theorem aq.drop:∀{ps:List PV} {vs:List V} (n:Nat),aq W G ps vs->aq W G (ps.drop n) (vs.drop n)
 |_,_,0,h=>by simpa using h
 |[],_,n+1,h=>by simp! [aq] at h;subst h;simp! [List.drop_nil];exact .nil
 |p::ps,_,n+1,h=>by
  obtain⟨v,r,rfl,h1,h2⟩:=h.cB
  simpa using h2.drop n
theorem aq.take:∀{ps:List PV} {vs:List V} (n:Nat),aq W G ps vs->aq W G (ps.take n) (vs.take n)
 |_,_,0,h=>by simp! [List.take_zero];exact .nil
 |[],_,n+1,h=>by simp! [aq] at h;subst h;simp! [List.take_nil];exact .nil
 |p::ps,_,n+1,h=>by
  obtain⟨v,r,rfl,h1,h2⟩:=h.cB
  simp! [List.take_succ_cons];exact .cons h1 (h2.take n)
end
def ib(H H':Hp):Prop:=∀b o,H b=some o->(∀ps,o≠.gv ps)/\H' b=some o\/∃ps m,o=.gv ps/\H' b=some (.gv (ps++m))
def ib.refl(H:Hp):ib H H:=λb o h=>by
 cases o with
 |gv ps=>exact .inr ⟨ps,#[],rfl,by simpa using h⟩
 |_=>exact .inl ⟨(λ_ z=>nomatch z),h⟩
def ib.trans{H H1 H2:Hp}(a:ib H H1)(b:ib H1 H2):ib H H2:=λc o h=>by
 rcases a c o h with⟨n,e⟩|⟨ps,m,rfl,e⟩
 ·rcases b c o e with y|⟨ps,m,rfl,e2⟩
  ·exact .inl y
  ·exact absurd rfl (n ps)
 ·rcases b c _ e with⟨n,_⟩|⟨rh,m',e2,e3⟩
  ·exact absurd rfl (n _)
  ·cases e2;exact .inr ⟨ps,m++m',rfl,by rw [e3,Array.append_assoc]⟩
def ib.free{H H':Hp}(e:ib H H'){l:Addr}(h:H' l=Option.none):H l=Option.none:=by
 cases q:H l with
 |none=>rfl
 |some o=>
  rcases e l o q with⟨_,z⟩|⟨_,_,_,z⟩
  ·rw [h] at z;cases z
  ·rw [h] at z;cases z
def ib.at{H H':Hp}(e:ib H H'){b:Addr}{o:HO}(h:H b=some o)(n:∀ps,o≠.gv ps):H' b=some o:=by
 rcases e b o h with⟨_,z⟩|⟨ps,_,rfl,_⟩
 ·exact z
 ·exact absurd rfl (n ps)
def ib.uy{H H':Hp}(e:ib H H'){b:Addr}(h:H b≠none)(n:∀vs,H b≠some (.tup vs)):∀vs,H' b≠some (.tup vs):=λvs z=>by
 cases q:H b with
 |none=>exact h q
 |some o=>
  rcases e b o q with⟨_,y⟩|⟨_,_,_,y⟩
  ·rw [z] at y;cases y;exact n vs q
  ·rw [z] at y;cases y
def ib.of{H H':Hp}(e:aA H H'):ib H H':=λb o h=>by
 cases o with
 |gv ps=>exact .inr ⟨ps,#[],rfl,by simpa using e _ _ h⟩
 |_=>exact .inl ⟨(λ_ z=>nomatch z),e _ _ h⟩
def ib.tup{K:zz8}{H H':Hp}{a:Addr}{xs:List V}(e:ib H H')(h:fw K H a xs):fw K H' a xs:=by
 rcases h with(h|⟨o,h⟩)|h
 ·exact .inl (.inl (e.at h (λ_ z=>nomatch z)))
 ·exact .inl (.inr ⟨o,e.at h (λ_ z=>nomatch z)⟩)
 ·exact .inr h
def ib.ls{K:zz8}{H H':Hp}{a:Addr}{vs:List V}(e:ib H H')(h:uD K H a vs):uD K H' a vs:=by
 rcases h with(h|⟨o,h⟩)|h
 ·exact .inl (.inl (e.at h (λ_ z=>nomatch z)))
 ·exact .inl (.inr ⟨o,e.at h (λ_ z=>nomatch z)⟩)
 ·exact .inr h
theorem ib.upd{H H':Hp}{a:Addr}{o:HO}(e:ib H H')(h:H a=none):ib H (upd H' a o):=λb u q=>by
 have hb:b≠a:=λz=>by rw [z,h] at q;cases q
 rw [af hb];exact e b u q
def cN(W:Wd)(G H:Hp):Prop:=∀P q,(P,q)∈W.ts->G P=none/\∃ps,H P=some (.gv ps)/\TriplesOk ps.toList/\
 ∀pos cv,codeAmong pos ps.toList=some cv->∃c' oc di t,cv=.ref c'/\G c'=some (.bE oc bV)/\oc.data=.fields di/\di[1]?=some (.str q t)
theorem cN.same{W:Wd}{G G' H H':Hp}(t:cN W G H)(g:aA G G')(own:∀a,H a≠none->(∀vs,H a≠some (.tup vs))->G a=none->G' a=none)(h:∀P ps,H P=some (.gv ps)->H' P=some (.gv ps)):cN W G' H':=λP q m=>by
 obtain⟨n,ps,e,tr,al⟩:=t P q m
 refine⟨own P (by rw [e];exact λz=>nomatch z) (by rw [e];exact λ_ z=>nomatch z) n,ps,h P ps e,tr,λpos cv y=>?_⟩
 obtain⟨c',oc,di,t,e1,e2,e3,e4⟩:=al pos cv y
 exact⟨c',oc,di,t,e1,g _ _ e2,e3,e4⟩
structure aC(W:Wd)(G H G' H':Hp):Prop where
 g:aA G G'
 h:ib H H'
 sub:aA G' H'
 own:∀a,H a≠none->(∀vs,H a≠some (.tup vs))->G a=none->G' a=none
 tab:cN W G H->cN W G' H'
section
variable{W:Wd}
def aC.refl{G H:Hp}(s:aA G H):aC W G H G H:=⟨aA.refl _,ib.refl _,s,λ_ _ _ h=>h,id⟩
def aC.trans{G H G1 H1 G2 H2:Hp}(a:aC W G H G1 H1)(b:aC W G1 H1 G2 H2):aC W G H G2 H2:=
 ⟨a.g.trans b.g,a.h.trans b.h,b.sub,λx hx ht hg=>b.own x (λz=>hx (a.h.free z)) (a.h.uy hx ht) (a.own x hx ht hg),λt=>b.tab (a.tab t)⟩
def lQ{H:Hp}{p:Addr}{o:HO}(h:∀ps,H p≠some (.gv ps))(P:Addr)(ps:Array Value)(e:H P=some (.gv ps)):upd H p o P=some (.gv ps):=by
 rw [af (λz=>by subst z;exact h ps e)];exact e
theorem aC.new{G H:Hp}{p:Addr}{o:HO}(s:aA G H)(h:H p=none):aC W G H (upd G p o) (upd H p o) where
 g:=bz (s.free h)
 h:=.of (bz h)
 sub:=λb u e=>by
  by_cases hb:b=p
  ·subst hb;rw [ak] at e⊢;exact e
  ·rw [af hb] at e⊢;exact s _ _ e
 own:=λa ha _ hg=>by
  have:a≠p:=λz=>by subst z;exact ha h
  rw [af this];exact hg
 tab:=λt=>t.same (bz (s.free h)) (λa ha _ hg=>by
  have:a≠p:=λz=>by subst z;exact ha h
  rw [af this];exact hg) (lQ (λps z=>by rw [h] at z;cases z))
def aC.adopt{G H:Hp}{b:Addr}{vs:List V}(s:aA G H)(h:H b=some (.tup vs)):aC W G H (upd G b (.tup vs)) H:=by
 have sm:aA G (upd G b (.tup vs)):=λc u e=>by
  by_cases hc:c=b
  ·subst hc;rw [ak];have:=s _ _ e;rw [h] at this;exact this
  ·rw [af hc];exact e
 have ow:∀a,H a≠none->(∀vs,H a≠some (.tup vs))->G a=none->upd G b (.tup vs) a=none:=λa _ n e=>by
  have:a≠b:=λz=>by subst z;exact n vs h
  rw [af this];exact e
 exact⟨sm,ib.refl _,λc u e=>by
  by_cases hc:c=b
  ·subst hc;rw [ak] at e;cases e;exact h
  ·rw [af hc] at e;exact s _ _ e,ow,λt=>t.same sm ow λ_ _ e=>e⟩
def aC.Nt{G H:Hp}{p:Addr}{o:HO}(s:aA G H)(h:H p=none):aC W G H G (upd H p o):=
 ⟨aA.refl _,.of (bz h),s.trans (bz h),λ_ _ _ hg=>hg,λt=>t.same (aA.refl _) (λ_ _ _ h=>h) (lQ (λps z=>by rw [h] at z;cases z))⟩
end
def bu(scope:Scope):List Str:=((scope.names.filter λp=>p.2==.free).map (·.1)).reverse
def okN(x:Str):Bool:=!(x=="__debug__")&&!(x=="__classdict__")&&!(x=="__name__")
def gU(x:Str):Bool:=x.cps.toList.contains 64
def iB{α:Type}{a:α}{p:Prop}(h:(none:Option α)=some a):p:=nomatch h
def AE{α:Type}{o:Option α}{f:α->Bool}(h:o.any f=true):∃x,o=some x/\f x=true:=by
 cases o with
 |none=>cases h
 |some x=>exact⟨x,rfl,h⟩
def eT:Expr->Option Str
 |.Name x _=>some x
 |_=>none
def cu{e:Expr}{x:Str}(h:eT e=some x):∃p,e=.Name x p:=by
 cases e with
 |Name y p=>cases h;exact⟨_,rfl⟩
 |_=>exact iB h
def D6:Expr->Option (Expr×List Expr×List Keyword×Pos)
 |.Call f a k p=>some (f,a,k,p)
 |_=>none
def iJ{e:Expr}{q:Expr×List Expr×List Keyword×Pos}(h:D6 e=some q):e=.Call q.1 q.2.1 q.2.2.1 q.2.2.2:=by
 cases e with
 |Call f a k p=>cases h;rfl
 |_=>exact iB h
def Sr:List Arg->Option (List Str)
 |[]=>some []
 |[a]=>some [a.arg]
 |_=>none
noncomputable def rn(p:Arguments):Option (List Str):=if(p.posonlyargs.isEmpty&&p.vararg.isNone&&p.kwonlyargs.isEmpty&&p.kw_defaults.isEmpty&&p.kwarg.isNone&&p.defaults.isEmpty)=true then Sr p.args else none
def xU{p:Arguments}{ps:List Str}(h:rn p=some ps):(p=⟨[],[],none,[],[],none,[]⟩/\ps=[])\/∃a,p=⟨[],[a],none,[],[],none,[]⟩/\ps=[a.arg]:=by
 obtain⟨a,b,c,d,e,f,g⟩:=p
 unfold rn at h;split at h
 ·rename_i q;simp! [zza,List.isEmpty_iff,Option.isNone_iff_eq_none] at q;obtain⟨⟨⟨⟨⟨q1,q2⟩,q3⟩,q4⟩,q5⟩,q6⟩:=q
  subst q1 q2 q3 q4 q5 q6;cases b with
  |nil=>cases h;exact .inl ⟨rfl,rfl⟩
  |cons a b=>
   cases b with
   |nil=>cases h;exact .inr ⟨a,rfl,rfl⟩
   |cons _ _=>exact iB h
 ·exact iB h
def fc:List Expr->List (Option Str)->Bool
 |[],[]=>true
 |.Name x _::r,some y::t=>x==y&&okN x&&fc r t
 |_,_=>false
noncomputable def P1(ps:List Str)(scope:Scope):Bool:=
 scope.kind==.function&&!scope.isCoroutine&&!scope.isGenerator&&decide ((ps++bu scope).Nodup)&&(scope.names.all λy=>decide (y.2≠.cell))&&(ps.all λx=>decide (scope.names.lookup x=some .local))&&((bu scope).all λx=>decide (scope.names.lookup x=some .free))
noncomputable def Hc(g:Str)(idx:List Nat)(params:Arguments)(body:Expr)(scope:Scope):Bool:=(rn params).any λps=>(D6 body).any λq=>eT q.1==some g&&q.2.2.1.isEmpty&&!q.2.1.isEmpty&&decide (idx.head?=some ps.length)&&scope.names.lookup g==some .globalImplicit&&okN g&&!gU g&&fc q.2.1 (idx.tail.map λi=>(ps++bu scope)[i]?)&&P1 ps scope
structure Sz(W:Wd)(G:Hp)(g:Str)(idx:List Nat)(c7:List PV)(f c':Addr)(oc:Obj)(di:Array Value)(t:Tok)(fV pm:Value)(params:Arguments)(body:Expr)(scope:Scope)(qual:Str)(cl:List (Str×Addr))(Z:List (Addr×Obj))(ws:List V):Prop where
 lg:Hc g idx params body scope=true
 fo:G f=some (.bE (PySem.W.kla_obj "<lambda>" qual params body scope cl pm c' fV) bV)
 co:G c'=some (.bE oc bV)
 cd:oc.data=.fields di
 cn:di[1]?=some (.str qual t)
 fz:Z.lookup f=none
 cz:Z.lookup c'=none
 inj:∀x y c,cl.lookup x=some c->cl.lookup y=some c->x=y
 has:∀y∈bu scope,∃c,cl.lookup y=some c
 cells:∀x c,cl.lookup x=some c->∃o v,Z.lookup c=some o/\o.data=.cell v
 zs:∀b o,Z.lookup b=some o->G b=some (.bE o bV)
 zc:∀b o,Z.lookup b=some o->∃v,o.data=.cell v
 vals:∀(i:Nat) y c,(bu scope)[i]?=some y->cl.lookup y=some c->∀v,ws[i]?=some v->∃u o,RelV v u/\Z.lookup c=some o/\o.data=.cell (some u)
 len:ws.length=(bu scope).length
 rep:aq W (bb Z G) c7 ws
def p7(W:Wd)(G:Hp)(g:Str)(idx:List Nat)(c7:List PV)(v:V):Prop:=∃f c' oc di t fV pm params body scope qual cl Z ws,v=.ref f/\Sz W G g idx c7 f c' oc di t fV pm params body scope qual cl Z ws
theorem pS{Z:List (Addr×Obj)}{G G':Hp}(s:aA G G'):aA (bb Z G) (bb Z G'):=λb u e=>by
 obtain⟨q,e1⟩:=eo e
 rw [aB q];exact s _ _ e1
def p7.same{W:Wd}{G G':Hp}{g:Str}{idx:List Nat}{c7:List PV}{v:V}(s:aA G G')(h:p7 W G g idx c7 v):p7 W G' g idx c7 v:=by
 obtain⟨f,c',oc,di,t,fV,pm,params,body,scope,qual,cl,Z,ws,e,d⟩:=h
 exact⟨f,c',oc,di,t,fV,pm,params,body,scope,qual,cl,Z,ws,e,⟨d.lg,s _ _ d.fo,s _ _ d.co,d.cd,d.cn,d.fz,d.cz,d.inj,d.has,d.cells,λb o q=>s _ _ (d.zs b o q),d.zc,d.vals,d.len,aq.same (pS s) c7 d.rep⟩⟩
inductive Slot where
 |no|val (p:PV)|own (p:PV)|fn (g:Str) (idx:List Nat) (c7:List PV)
 deriving Inhabited
abbrev Sl:=List Slot
def Own(W:Wd)(H0 G H:Hp):PV->V->Prop
 |.lst xs,v=>∃a vs,v=.ref a/\H a=some (.lst vs)/\G a=none/\H0 a=none/\aq W G xs vs
 |.bf ks ps,v=>∃a us,v=.ref a/\ks.length=us.length/\H a=some (.dT (kz ks us))/\G a=none/\H0 a=none/\aq W G ps us
 |_,_=>False
def Top(W:Wd)(H0 G H:Hp)(p:PV)(v:V):Prop:=Rep W G p v\/Own W H0 G H p v
def HD(W:Wd)(H0 G H:Hp):Slot->Option V->Prop
 |.no,_=>True
 |.val p,o=>∃v,o=some v/\Rep W G p v
 |.own p,o=>∃v,o=some v/\Own W H0 G H p v
 |.fn g idx c7,o=>∃v,o=some v/\p7 W G g idx c7 v
structure SR(W:Wd)(H0:Hp)(env:Sl)(σ:St)(G H:Hp):Prop where
 len:env.length=σ.length
 sub:aA G H
 base:ib H0 H
 slot:∀(i:Nat) (s:Slot),env[i]?=some s->∃o,σ[i]?=some o/\HD W H0 G H s o
 apart:∀(i j:Nat) (p q:PV) (a:Addr),env[i]?=some (.own p)->env[j]?=some (.own q)->σ[i]?=some (some (.ref a))->σ[j]?=some (some (.ref a))->i=j
 tab:cN W G H
 jq:cN W G H0
section
variable{W:Wd}{H0 G H G' H':Hp}{env:Sl}{σ:St}
theorem Own.grow(g:aC W G H G' H'):∀{p:PV} {v:V},Own W H0 G H p v->Own W H0 G' H' p v
 |.lst xs,_,h=>by
  obtain⟨a,vs,e,h1,h2,h3,l⟩:=h
  exact⟨a,vs,e,g.h.at h1 (λ_ z=>nomatch z),g.own a (by rw [h1];exact λz=>by cases z) (by rw [h1];exact λ_ z=>by cases z) h2,h3,aq.same g.g xs l⟩
 |.bf ks ps,_,h=>by
  obtain⟨a,vs,e,n,h1,h2,h3,l⟩:=h
  exact⟨a,vs,e,n,g.h.at h1 (λ_ z=>nomatch z),g.own a (by rw [h1];exact λz=>by cases z) (by rw [h1];exact λ_ z=>by cases z) h2,h3,aq.same g.g ps l⟩
 |.aD,_,h=>h|.bl _,_,h=>h|.int _,_,h=>h|.str _,_,h=>h|.tup _,_,h=>h|.exc _,_,h=>h
theorem HD.grow(g:aC W G H G' H'):∀{s:Slot} {o:Option V},HD W H0 G H s o->HD W H0 G' H' s o
 |.no,_,_=>trivial
 |.val p,_,h=>by obtain⟨v,e,r⟩:=h;exact⟨v,e,Rep.same g.g p r⟩
 |.own p,_,h=>by obtain⟨v,e,r⟩:=h;exact⟨v,e,r.grow g⟩
 |.fn _ _ _,_,h=>by obtain⟨v,e,r⟩:=h;exact⟨v,e,r.same g.g⟩
theorem SR.grow(r:SR W H0 env σ G H)(g:aC W G H G' H'):SR W H0 env σ G' H':=
 ⟨r.len,g.sub,r.base.trans g.h,λi s e=>by obtain⟨o,h1,h2⟩:=r.slot i s e;exact⟨o,h1,h2.grow g⟩,r.apart,g.tab r.tab,r.jq.same g.g (λa h1 h3 h2=>g.own a (λz=>h1 (r.base.free z)) (r.base.uy h1 h3) h2) λ_ _ h=>h⟩
def Top.grow{p:PV}{v:V}(g:aC W G H G' H')(h:Top W H0 G H p v):Top W H0 G' H' p v:=h.elim (λz=>.inl (Rep.same g.g p z)) λz=>.inr (z.grow g)
def Top.lst{xs:List PV}{v:V}(s:aA G H)(h:Top W H0 G H (.lst xs) v):∃a vs,v=.ref a/\uD W.K H a vs/\aq W G xs vs:=by
 rcases h with h|h
 ·simp! [Rep] at h;obtain⟨a,vs,e,q,l⟩:=h
  exact⟨a,vs,e,aA.ls s q,l⟩
 ·obtain⟨a,vs,e,h1,_,_,l⟩:=h
  exact⟨a,vs,e,.inl (.inl h1),l⟩
def Top.tup{xs:List PV}{v:V}(s:aA G H)(h:Top W H0 G H (.tup xs) v):∃a vs,v=.ref a/\fw W.K H a vs/\aq W G xs vs:=by
 rcases h with h|h
 ·simp! [Rep] at h;obtain⟨a,vs,e,q,l⟩:=h
  exact⟨a,vs,e,aA.tup s q.sq,l⟩
 ·exact h.elim
def Top.tupI{xs:List PV}{v:V}{ns:List Int}(s:aA G H)(hx:xs=ns.map .int)(h:Top W H0 G H (.tup xs) v):∃a,v=.ref a/\G a=some (.tup (ns.map V.int)):=by
 rcases h with h|h
 ·simp! [Rep] at h;obtain⟨a,vs,e,q,l⟩:=h
  have ev:vs=ns.map V.int:=by
   subst hx
   clear q e
   induction ns generalizing vs with
   |nil=>simp! [List.map_nil,aq] at l;exact l
   |cons n ns ih=>
    obtain⟨u,r,rfl,h1,h2⟩:=l.cB
    simp! [Rep] at h1;rw [h1,ih r h2]
    rfl
  subst ev;rcases q with q|⟨_,z,hz⟩
  ·exact⟨a,e,q⟩
  ·obtain⟨n,_,hn⟩:=zzx.mp hz
   cases hn
 ·exact h.elim
def Top.bf{ks:List (List Int)}{ps:List PV}{v:V}(s:aA G H)(h:Top W H0 G H (.bf ks ps) v):∃a us,v=.ref a/\ks.length=us.length/\Rd H a (.dT (kz ks us))/\aq W G ps us:=by
 rcases h with h|h
 ·simp! [Rep] at h;obtain⟨a,o,us,e,n,q,l⟩:=h
  exact⟨a,us,e,n,.inr ⟨o,s _ _ q⟩,l⟩
 ·obtain⟨a,vs,e,n,q,_,_,l⟩:=h
  exact⟨a,vs,e,n,.inl q,l⟩
def Top.int{i:Int}{v:V}(h:Top W H0 G H (.int i) v):v=.int i:=h.elim (λz=>by simpa only [Rep] using z) λz=>z.elim
def Top.bl{b:Bool}{v:V}(h:Top W H0 G H (.bl b) v):v=.bl b:=h.elim (λz=>by simpa only [Rep] using z) λz=>z.elim
def Top.str{b:Str}{v:V}(h:Top W H0 G H (.str b) v):v=.str b:=h.elim (λz=>by simpa only [Rep] using z) λz=>z.elim
def Top.aD{v:V}(h:Top W H0 G H .aD v):v=.aD:=h.elim (λz=>by simpa only [Rep] using z) λz=>z.elim
def Rep.i{i:Int}:Rep W G (.int i) (.int i):=by simp! [Rep]
def Rep.b{i:Bool}:Rep W G (.bl i) (.bl i):=by simp! [Rep]
def Rep.s{i:Str}:Rep W G (.str i) (.str i):=by simp! [Rep]
def Rep.n:Rep W G .aD .aD:=by simp! [Rep]
def Rep.l{a:Addr}{xs:List PV}{vs:List V}(h:uD W.K G a vs)(l:aq W G xs vs):Rep W G (.lst xs) (.ref a):=by simp! [Rep];exact⟨a,vs,rfl,h,l⟩
def Rep.t{a:Addr}{xs:List PV}{vs:List V}(h:MT W.K G a vs)(l:aq W G xs vs):Rep W G (.tup xs) (.ref a):=by simp! [Rep];exact⟨a,vs,rfl,h,l⟩
end
end Ci
namespace L2
open PySem PySem.Spec PyProof.Rows
end L2
namespace HT
open PySem PySem.Spec PyProof.Rows
section
end
end HT
namespace L2
open PySem PySem.Spec PyProof.Rows
end L2
namespace L2
open PySem PySem.Spec PyProof.Rows PySem.W
theorem oE:∀{x y:List Int} (a b:List Int),x.length=y.length->HT.lexLt (x++a) (y++b)=if x=y then HT.lexLt a b else HT.lexLt x y
 |[],[],a,b,_=>by simp
 |[],_::_,_,_,h=>by simp at h
 |_::_,[],_,_,h=>by simp at h
 |x::xs,y::ys,a,b,h=>by
  rw [List.cons_append,List.cons_append,HT.c8,HT.c8,oE a b (by simpa using h)]
  by_cases e:x=y
  ·subst e;simp
  ·simp [e]
section
open PySem.SeqAt
open PySem.AutoSeq1 (wpAny_loadPart')
open PySem.MeetsSeq PySem.MeetsSeq2 PySem.MeetsSeq3
def K5(A:Around)(s:Shared)(y x:Value)(b:Bool):Prop:=∀(prog:Program) (w:World) (E:Value->Shared->Prop) (Q:Value->Shared->Prop),Q (.bool b) s->wpAny (model prog w) A (richCompare .Lt y x) Q E s
end
def F6{A:Around}{s:Shared}{b b':Addr}{o o':Obj}{ay its':Array Value}{n n':Nat}{ns ms:List Int}(hu:A.units+2<cLine)(g1:s.heap.get? b=some o)(g2:o.cls=.type "tuple")(g3:o.data=.seq ay n)(g4:Vals (ns.map V.int) ay.toList)(k1:s.heap.get? b'=some o')(k2:o'.cls=.type "tuple")(k3:o'.data=.seq its' n')(k4:Vals (ms.map V.int) its'.toList):
 SeqAt.EqAt A s (.ref b) (.ref b') (decide (ns=ms))/\K5 A s (.ref b) (.ref b') (HT.lexLt ns ms):=by
 have p1:IsTup s.heap b ay:=⟨o,g1,g2,n,g3⟩
 have p2:IsTup s.heap b' its':=⟨o',k1,k2,n',k3⟩
 have l1:=g4.length
 have l2:=k4.length
 rw [zzl] at l1 l2;refine⟨?_,λprog w E Q q=>HT.vM p1 p2 (intsAre_of g4) (intsAre_of k4) (by omega) q⟩
 by_cases hb:b=b'
 ·subst hb;rw [g1] at k1;cases k1;rw [g3] at k3;cases k3;have:ns=ms:=by
   refine List.ext_getElem (by omega) λj h1 h2=>?_
   have hj:j<ay.toList.toArray.size:=by simp! [zzC];omega
   obtain⟨t1,e1⟩:=int_at g4 j hj
   obtain⟨t2,e2⟩:=int_at k4 j hj
   rw [e1] at e2
   injection e2 with e3
   simpa [h1,h2] using e3
  rw [zzh this];exact .same _
 ·refine .of_refs hb ?_;have:=SeqAt.RcAt.tuples (A:=A) (e:=λj=>ns.getD j 0==ms.getD j 0) (show s.heap.IsTuple b ay from p1) (show s.heap.IsTuple b' its' from p2) (by omega) (λj h1 h2=>by
   obtain⟨t1,e1⟩:=int_at g4 j h1
   obtain⟨t2,e2⟩:=int_at k4 j h2
   rw [show ay[j]=_ from e1,show its'[j]=_ from e2];exact SeqAt.EqAt.int_int _ _ _ _)
  rw [<-zzd,<-zzd,<-l1,<-l2,BI] at this;exact this
def xN(h:Heap)(vs:List Value)(ps:List (List Int×Int)):Prop:=Paired (λv p=>∃b o ay n kb t,v=.ref b/\h.get? b=some o/\o.cls=.type "tuple"/\o.data=.seq ay n/\ay.toList=[.ref kb,.int p.2 t]/\∃ko yW kn,h.get? kb=some ko/\ko.cls=.type "tuple"/\ko.data=.seq yW kn/\Vals (p.1.map V.int) yW.toList) vs ps
def FH(p q:List Int×Int):Bool:=if p.1=q.1 then decide (p.2<q.2) else HT.lexLt p.1 q.1
def yn{p q:List Int×Int}(h:p.1.length=q.1.length):FH p q=HT.lexLt (p.1++[p.2]) (q.1++[q.2]):=by
 rw [oE _ _ h,FH]
 congr 1
 rw [HT.c8,HT.dF]
 by_cases e:p.2=q.2
 ·rw [if_pos e,e];exact zz0 (Int.lt_irrefl _)
 ·rw [if_neg e]
section
variable{prog:Program}{w:World}{A:Around}{E:Value->Shared->Prop}{s:Shared}{vs:List Value}{ps:List (List Int×Int)}
def Ai(hu:A.units+8<cLine)(t1:xN s.heap vs ps)(h2:2<=vs.length):Nd prog w A E vs (λi j=>FH (ps.getD i ([],0)) (ps.getD j ([],0))) s:=by
 have hlen:vs.length=ps.length:=Paired.length t1
 have kt:∃fs,KatTups s.heap vs fs/\fs.length=vs.length/\∀v∈fs,∃kb ko,v=.ref kb/\s.heap.get? kb=some ko/\ko.cls=.type "tuple":=by
  clear hlen h2
  induction t1 with
  |nil=>exact⟨[],trivial,rfl,λv hv=>nomatch hv⟩
  |cons h t ih=>
   obtain⟨fs,i1,i2,i3⟩:=ih
   obtain⟨b,o,ay,n,kb,tk,rfl,g1,g2,g3,g4,ko,yW,kn,k1,k2,_⟩:=h
   have f0:ay[0]?=some (.ref kb):=by rw [<-Array.getElem?_toList,g4];rfl
   exact⟨.ref kb::fs,.cons g1 g2 g3 f0 i1,by simp [i2],λv hv=>by
    rcases zzm.mp hv with rfl|hv
    ·exact⟨kb,ko,rfl,k1,k2⟩
    ·exact i3 v hv⟩
 obtain⟨fs,kt1,kt2,kt3⟩:=kt
 refine⟨_,λQ q=>kat_kind (T:=.type "tuple") kt1 (by omega) (λv hv=>?_) rfl q,λi j C hi hj hC=>?_⟩
 ·obtain⟨kb,ko,rfl,k1,k2⟩:=kt3 v hv
  rw [<-k2];exact λA Q E s' k q=>wpAny_typeOf_ref (k _ _ k1) q
 ·unfold kas_ask;obtain⟨b,o,ay,n,kb,tk,e1,g1,g2,g3,g4,ko,yW,kn,k1,k2,k3,k4⟩:=eQ t1 (zzg hi) (zzg (show i<ps.length by omega))
  obtain⟨b',o',its',n',kb',MY,e1',yy,MI,g3',g4',ko',kits',kn',k1',k2',k3',k4'⟩:=eQ t1 (zzg hj) (zzg (show j<ps.length by omega))
  have v1:vs.getD i Value.none=.ref b:=by simp [hi,e1]
  have v2:vs.getD j Value.none=.ref b':=by simp [hj,e1']
  have n1:ps.getD i ([],0)=ps[i]'(by omega):=by simp [show i<ps.length by omega]
  have n2:ps.getD j ([],0)=ps[j]'(by omega):=by simp [show j<ps.length by omega]
  rw [v1,v2];dsimp only at hC;rw [n1,n2] at hC;have z:ay.size=2:=by rw [<-zzd,g4];rfl
  have z':its'.size=2:=by rw [<-zzd,g4'];rfl
  refine kat_lt g1 g3 yy g3' ?_;rw [z,z',g4,g4'];obtain⟨q1,q2⟩:=F6 (A:=A) (by omega) k1 k2 k3 k4 k1' k2' k3' k4'
  unfold FH at hC;refine kat_cons (q1 prog w _ _ ?_)
  by_cases ek:(ps[i]'(by omega)).1=(ps[j]'(by omega)).1
  ·rw [zzh ek];rw [if_pos ek] at hC;refine kat_yes (kat_cons (wpAny_eqBool_int ?_))
   by_cases en:(ps[i]'(by omega)).2=(ps[j]'(by omega)).2
   ·rw [show((ps[i]'(by omega)).2==(ps[j]'(by omega)).2)=true by simpa using en];refine kat_yes (kat_nil ?_);rw [en,zz0 (Int.lt_irrefl _)] at hC;exact hC
   ·rw [show((ps[i]'(by omega)).2==(ps[j]'(by omega)).2)=false by simpa using en];exact kat_no (kat_one _ _ (PyProof.Rows.lt_int hC))
  ·rw [zz0 ek];rw [if_neg ek] at hC;exact kat_no (kat_one _ _ (q2 prog w _ _ hC))
end
abbrev BN(K:zz8)(H:Hp)(vs:List V)(ps:List (List Int×Int)):Prop:=Paired (λv p=>∃b kb,v=V.ref b/\fw K H b [.ref kb,.int p.2]/\fw K H kb (p.1.map V.int)) vs ps
section
variable{X:Cx}{ae:List (Addr×Obj)}{σ:St}{H:Hp}{s:Shared}{A:Around}{E:Value->Shared->Prop}
def pairs_at(I:Inv X ae σ H s):∀{vs:List V} {us:List Value} {ps:List (List Int×Int)},Vals vs us->BN X.K H vs ps->xN s.heap us ps:=by
 intro vs us ps r t
 induction t generalizing us with
 |nil=>cases r;exact .nil
 |cons h t ih=>
  obtain⟨b,kb,rfl,hq,hk⟩:=h
  cases r with
  |cons r1 r2=>
   cases(show _=Value.ref b from r1);obtain⟨ay,rv,⟨o,g1,g2,n,g3⟩,_⟩:=I.tuple hq
   obtain⟨yW,rk,⟨ko,k1,k2,kn,k3⟩,_⟩:=I.tuple hk
   obtain⟨u,v,e,ru,tk,rv⟩:=Vals.two rv
   cases(show u=Value.ref kb from ru);refine .cons ⟨b,o,ay.toArray,n,kb,tk,rfl,g1,g2,g3,?_,ko,yW.toArray,kn,k1,k2,k3,by simpa using rk⟩ (ih r2);rw [show ay.toArray.toList=ay by simp,e,rv]
def rJ{vs:List V}{us:List Value}{ps:List (List Int×Int)}{Q:VK}(hu:X.A.units+64<cLine)(I1:Inv X ae σ H s)(rv:Vals vs us)(t:BN X.K H vs ps)(h2:∀p∈ps,p.1.length=2)(Fo:vs.length<64)(q:∀p,H p=none->Q (.ref p) (upd H p (.lst (i8 V.aD vs (ps.map λp=>p.1++[p.2]))))):
 wpAny (model X.prog X.w) X.A.in1 (newList us>>=λl=>holding [l] (call (.builtin "list.sort") [l] [])>>=λ_=>ret l) (λfin s'=>∃v,fin=.done (.ret v)/\EP X ae σ Q v s') E s:=by
 refine my I1 rv (λhn h' k=>?_) Fo q;have hp:us.length=ps.length:=by rw [<-rv.length];exact Paired.length t
 obtain⟨κ,kk,lts⟩:=Ai (prog:=X.prog) (w:=X.w) (A:=X.A.in1.in1) (s:={s with heap:=h'}) (by show X.A.units+1+1+8<_;omega) (pairs_at (I1.kept (t':=s.toks) k) rv t) hn
 have ge:∀i,i<ps.length->(ps.map λp=>p.1++[p.2]).getD i []=(ps.getD i ([],0)).1++[(ps.getD i ([],0)).2]/\(ps.getD i ([],0)).1.length=2:=λi hi=>by
  simp! [zzK,zzQ,zzg hi,Option.map_some,Option.getD_some];exact⟨trivial,h2 _ (List.getElem_mem hi)⟩
 refine⟨κ,kk,λi j C hi hj hC=>lts i j C hi hj ?_⟩
 have a:=ge i (by omega)
 have b:=ge j (by omega)
 dsimp only at hC;rw [a.1,b.1,<-yn (a.2.trans b.2.symm)] at hC;exact hC
end
end L2
namespace L2
open PySem PySem.Spec PyProof.Rows
end L2
namespace Ci
open PySem L2
inductive Res(α:Type) where
 |ok (a:α)|exc (c:Str)|bad
@[inline] def Res.bind{α β:Type}:Res α->(α->Res β)->Res β
 |.ok a,f=>f a
 |.exc c,_=>.exc c
 |.bad,_=>.bad
instance:Monad Res where
 pure:=.ok
 bind:=Res.bind
def Res.bp{α β:Type}{r:Res α}{f:α->Res β}{b:β}(h:r.bind f=.ok b):∃a,r=.ok a/\f a=.ok b:=by
 cases r with
 |ok a=>exact⟨a,rfl,h⟩
 |exc c=>cases h
 |bad=>cases h
def Res.dO{α β:Type}{r:Res α}{f:α->Res β}{c:Str}(h:r.bind f=.exc c):r=.exc c\/∃a,r=.ok a/\f a=.exc c:=by
 cases r with
 |ok a=>exact .inr ⟨a,rfl,h⟩
 |exc c'=>cases h;exact .inl rfl
 |bad=>cases h
def Res.of{α:Type}:Option α->Res α
 |some a=>.ok a
 |none=>.bad
def Res.well{α:Type}:Res α->Res α
 |.ok a=>.ok a
 |_=>.bad
abbrev fv:Nat:=1000000
def eqs(f:PV->PV->Bool):List PV->List PV->Bool
 |[],[]=>true
 |x::xs,y::ys=>f x y&&eqs f xs ys
 |_,_=>false
noncomputable def jx:Nat->PV->PV->Bool
 |_,.aD,.aD=>true
 |_,.bl a,.bl b=>a==b
 |_,.bl a,.int i=>(if a then 1 else 0)==i
 |_,.int i,.bl a=>i==(if a then 1 else 0)
 |_,.int i,.int j=>i==j
 |_,.str x,.str y=>x==y
 |n+1,.tup xs,.tup ys=>eqs (jx n) xs ys
 |n+1,.lst xs,.lst ys=>eqs (jx n) xs ys
 |_,_,_=>false
noncomputable def plain:Nat->PV->Bool
 |_,.aD=>true
 |_,.bl _=>true
 |_,.int _=>true
 |_,.str _=>true
 |n+1,.tup xs=>xs.all (plain n)
 |n+1,.lst xs=>xs.all (plain n)
 |_,_=>false
abbrev DP:Nat:=9
noncomputable abbrev eqv:PV->PV->Bool:=jx DP
noncomputable abbrev uF:PV->Bool:=plain DP
inductive M3 where|add|sub|mul|mod|fdiv
inductive A4 where|eq|ne|lt|le|gt|is|A6|Ax|lJ
def aO(i:Int):Bool:=decide (-(2^64)<i)&&decide (i<2^64)
noncomputable def binOp:M3->PV->PV->Res PV
 |.add,.int i,.int j=>.ok (.int (i+j))
 |.add,.str x,.str y=>if x.length+y.length<=fv then .ok (.str (x++y)) else .bad
 |.sub,.int i,.int j=>.ok (.int (i-j))
 |.mul,.int i,.int j=>if aO i||aO j then .ok (.int (i*j)) else .bad
 |.mod,.int i,.int j=>if 0<j then .ok (.int (i%j)) else .bad
 |.fdiv,.int i,.int j=>if 0<j/\j<1073741824 then .ok (.int (i/j)) else .bad
 |_,_,_=>.bad
def intsOf:List PV->Option (List Int)
 |[]=>some []
 |.int i::r=>(intsOf r).map (i::·)
 |_=>none
def av{α:Type}:List (List Int)->List α->List Int->Option α
 |k'::ks,v::vs,k=>if k'=k then some v else av ks vs k
 |_,_,_=>none
def cg(ks:List (List Int))(k:List Int):Bool:=ks.any λk'=>decide (k'=k)
def aV(ks:List (List Int))(k:List Int):List (List Int):=if cg ks k then ks else ks++[k]
def aU{α:Type}(ks:List (List Int))(vs:List α)(k:List Int)(p:α):List α:=if cg ks k then List.zipWith (λk' v=>if k'=k then p else v) ks vs else vs++[p]
def cm(ks:List (List Int))(k:List Int):List (List Int):=ks.filter λk'=>decide (k'≠k)
def aW{α:Type}:List (List Int)->List α->List Int->List α
 |k'::ks,v::vs,k=>if k'=k then aW ks vs k else v::aW ks vs k
 |_,_,_=>[]
def ah(k:List Int):PV:=.tup (k.map .int)
def iD:PV->Option (List Int)
 |.tup xs=>intsOf xs
 |_=>none
def uQ:List PV->Option (List (List Int×PV))
 |[]=>some []
 |.tup [x,y]::r=>(iD x).bind λk=>(uQ r).map ((k,y)::·)
 |_=>none
def eL{α:Type}:List (List Int×α)->List (List Int)->List α->List (List Int)×List α
 |[],ks,vs=>(ks,vs)
 |p::r,ks,vs=>eL r (aV ks p.1) (aU ks vs p.1 p.2)
noncomputable def yC(x:PV)(ys:List PV):Bool:=ys.any λy=>eqv y x
noncomputable def gq(a b:PV):Res PV:=if uF a&&uF b then .ok (.bl (eqv a b)) else .bad
noncomputable def gL(a b:PV):Res PV:=if uF a&&uF b then .ok (.bl (!eqv a b)) else .bad
def sC:PV->PV->Res PV
 |.int i,.int j=>.ok (.bl (decide (i<j)))
 |_,_=>.bad
def tX:PV->PV->Res PV
 |.int i,.int j=>.ok (.bl (decide (i<=j)))
 |_,_=>.bad
def vi:PV->PV->Res PV
 |.int i,.int j=>.ok (.bl (decide (j<i)))
 |_,_=>.bad
def DN:PV->Bool
 |.aD=>true
 |_=>false
def i4:PV->PV->Res PV
 |a,.aD=>.ok (.bl (DN a))
 |_,_=>.bad
def f6:PV->PV->Res PV
 |a,.aD=>.ok (.bl (!DN a))
 |_,_=>.bad
noncomputable def oj:PV->PV->Res PV
 |a,.lst ys=>if uF a&&ys.all uF then .ok (.bl (yC a ys)) else .bad
 |a,.bf ks _=>(Res.of (iD a)).bind λk=>.ok (.bl (cg ks k))
 |_,_=>.bad
noncomputable def f7:PV->PV->Res PV
 |a,.lst ys=>if uF a&&ys.all uF then .ok (.bl (!yC a ys)) else .bad
 |a,.bf ks _=>(Res.of (iD a)).bind λk=>.ok (.bl (!cg ks k))
 |_,_=>.bad
noncomputable def dN:A4->PV->PV->Res PV
 |.eq=>gq|.ne=>gL|.lt=>sC|.le=>tX|.gt=>vi|.is=>i4|.A6=>f6|.Ax=>oj|.lJ=>f7
noncomputable def aG:PV->PV->Res PV
 |.lst xs,.int i=>Res.of (rC xs i)
 |.tup xs,.int i=>Res.of (rC xs i)
 |.str z,.int i=>if z.length<=fv then(Res.of (rC z.cps.toList i)).bind λc=>.ok (.str ⟨#[c]⟩) else .bad
 |.bf ks vs,y=>(Res.of (iD y)).bind λk=>Res.of (av ks vs k)
 |_,_=>.bad
def DE{α:Type}(xs:List α)(lo hi:Option Int):List α:=(xs.drop (HT.o5 xs.length 0 lo)).take (HT.o5 xs.length xs.length hi-HT.o5 xs.length 0 lo)
def hX:PV->Option Int->Option Int->Res PV
 |.lst xs,lo,hi=>.ok (.lst (DE xs lo hi))
 |_,_,_=>.bad
inductive B where|len|abs|max2|int|str|tuple|sorted|dict|ma
def chars(z:Str):List PV:=z.cps.toList.map λc=>.str ⟨#[c]⟩
noncomputable def vm:List PV->Res PV
 |[.lst xs]=>.ok (.int xs.length)
 |[.tup xs]=>.ok (.int xs.length)
 |[.str z]=>if z.length<=fv then .ok (.int z.length) else .bad
 |[.bf ks _]=>.ok (.int ks.length)
 |_=>.bad
def CT:List PV->Res PV
 |[.int i]=>.ok (.int (if i<0 then -i else i))
 |_=>.bad
def Bw:List PV->Res PV
 |[.int i,.int j]=>.ok (.int (if j>i then j else i))
 |_=>.bad
def Bt:List PV->Res PV
 |[.str z]=>if z.length<=640 then(Res.of (PySem.intText? z)).bind λn=>.ok (.int n) else .bad
 |_=>.bad
def Cs:List PV->Res PV
 |[.int i]=>if i.natAbs.log2<1920 then .ok (.str (toString i)) else .bad
 |_=>.bad
def me:List PV->Res PV
 |[.lst xs]=>.ok (.tup xs)
 |_=>.bad
noncomputable def jn:List PV->Res PV
 |[.bf ks _]=>if decide (ks.length<64)&&ks.all (λk=>!k.isEmpty) then .ok (.lst (i8 .aD (ks.map ah) ks)) else .bad
 |_=>.bad
noncomputable def sortI:PV->Res PV
 |.bf ks vs=>(Res.of (intsOf vs)).bind λns=>if decide (ks.length<64)&&ks.all (λk=>k.length==2) then .ok (.lst (i8 .aD ((ks.zip ns).map λq=>.tup [ah q.1,.int q.2]) ((ks.zip ns).map λq=>q.1++[q.2]))) else .bad
 |_=>.bad
def mQ:List PV->Res PV
 |[.bf ks _]=>if ks.length<=fv then .ok (.lst (ks.map ah)) else .bad
 |_=>.bad
def iw:List PV->Res PV
 |[.lst xs]=>(Res.of (uQ xs)).bind λps=>.ok (.bf (eL ps [] []).1 (eL ps [] []).2)
 |_=>.bad
noncomputable def dS:B->List PV->Res PV
 |.len=>vm|.abs=>CT|.max2=>Bw|.int=>Bt|.str=>Cs|.tuple=>me|.sorted=>jn|.dict=>iw|.ma=>mQ
inductive Ty where|int|bool|tuple|list
def iG:Ty->PV->Bool
 |.int,.int _=>true
 |.int,.bl _=>true
 |.bool,.bl _=>true
 |.tuple,.tup _=>true
 |.list,.lst _=>true
 |_,_=>false
def k9(t:Ty):PV->Res PV
 |.exc _=>.bad
 |.bf _ _=>.bad
 |p=>.ok (.bl (iG t p))
inductive M where|iM|index
noncomputable def i7:List PV->Res PV
 |[.lst xs,v]=>if uF v&&xs.all uF then .ok (.int ((xs.countP λy=>eqv y v:Nat):Int)) else .bad
 |_=>.bad
noncomputable def nE:List PV->Res PV
 |[.lst xs,v]=>if uF v&&xs.all uF&&decide (xs.length<1000) then(match xs.findIdx? λy=>eqv y v with|some j=>.ok (.int (j:Nat))|none=>.bad) else .bad
 |_=>.bad
noncomputable def CV:M->List PV->Res PV
 |.iM=>i7|.index=>nE
def Ce:M->PV->Bool
 |.iM,.lst _=>true
 |.index,.lst _=>true
 |_,_=>false
inductive Tg where
 |one (i:Nat)|two (i j:Nat)
mutual
inductive E where
 |var (i:Nat)|dR (i:Nat)
 |cst (p:PV)
 |glob (g:Str) (p:PV)
 |call (f:Str) (as:Es)
 |kF (i:Nat) (as:Es)
 |oU (f:Str) (as:Es) (g:Str) (idx:List Nat) (ba:List Nat)
 |blt (b:B) (as:Es)
 |ty (t:Ty) (a:E)
 |D0 (c:Str) (a:E)
 |KN (m:M) (o:E) (as:Es)
 |bin (o:M3) (a b:E)
 |cmp (o:A4) (a b:E)
 |ch (o1 o2:A4) (a b c:E)
 |not (a:E)
 |neg (a:E)
 |and (a b:E)|or (a b:E)
 |ite (c a b:E)
 |tup (as:Es)|lst (as:Es)
 |sub (a b:E)
 |slice (a:E) (lo hi:Oe)
 |comp (k:Nat) (ba:List Nat) (tg:Tg) (it:I) (elt:E)
 |dc (k:Nat) (ba:List Nat) (tg:Tg) (it:I) (c elt:E)
 |sF (a:E)
inductive Es where
 |nil|cons (e:E) (es:Es)
inductive Oe where
 |no|some (e:E)
inductive I where
 |seq (e:E)|uc (e:E)|qP (a b:E)|enum (e:E)
end
mutual
inductive S where
 |expr (e:E)
 |set (i:Nat) (e:E)
 |F8 (tg:Tg) (e:E)
 |own (i:Nat) (e:E)
 |bE (i:Nat)
 |app (i:Nat) (e:E)
 |qZ (i:Nat) (e:E)
 |put (i:Nat) (k e:E)
 |ret (e:E)
 |ite (c:E) (a b:Ss)
 |cQ (tg:Tg) (it:I) (b:Ss)
 |xD (c:E) (b:Ss)
 |raise (c:Str) (m:Str)
 |vC (b:Ss) (c:Str) (i j:Nat)
 |brk
 |j5 (i:Nat)
 |mM (i:Nat) (e:E)
 |eO (i j n:Nat)
 |md (m i:Nat)
inductive Ss where
 |nil|cons (s:S) (ss:Ss)
end
def eY:List Int->Nat->Nat->Int->Nat
 |[],_,b,_=>b
 |c::cs,j,b,m=>if c<m then eY cs (j+1) j c else eY cs (j+1) b m
def Av:List Int->Option Nat
 |[]=>none
 |c::cs=>some (eY cs 1 0 c)
def iK:List PV->Option (List Int)
 |[]=>some []
 |.tup (.int c::_)::r=>(iK r).map (c::·)
 |_=>none
abbrev aL:=Str->List PV->Res PV
def oQ:Option Slot->Res PV
 |some (.val p)=>.ok p
 |_=>.bad
def DO:Option Slot->Res PV
 |some (.val p)=>.ok p
 |some (.own p)=>.ok p
 |_=>.bad
def Tg.put:Tg->PV->Sl->Res Sl
 |.one i,p,env=>.ok (env.set i (.val p))
 |.two i j,.tup [a,b],env=>.ok ((env.set i (.val a)).set j (.val b))
 |_,_,_=>.bad
def kh(env:Sl):List Nat->Res (List PV)
 |[]=>.ok []
 |i::r=>(oQ env[i]?).bind λp=>(kh env r).bind λps=>.ok (p::ps)
def fD(l:List PV):List Nat->Res (List PV)
 |[]=>.ok []
 |i::r=>(Res.of l[i]?).bind λp=>(fD l r).bind λps=>.ok (p::ps)
def fZ(env:Sl)(ba:List Nat):Sl:=ba.map λi=>env.getD i .no
def itemsOf:PV->Res (List PV)
 |.lst xs=>.ok xs
 |.tup xs=>.ok xs
 |.str z=>.ok (chars z)
 |_=>.bad
def AZ(e:E)(p:PV):Res (List PV):=match p,e with
 |.bf _ _,.dR _=>.bad
 |.bf ks _,_=>.ok (ks.map ah)
 |.lst xs,_=>.ok xs
 |.tup xs,_=>.ok xs
 |_,_=>.bad
def fy(lo:Int)(n:Nat):List PV:=(List.range n).map λi=>.int (lo+(i:Nat))
def bg(i:Int):Bool:=decide (-(2^62)<=i)&&decide (i<2^62)
def cM(n:Nat):List PV->List PV
 |[]=>[]
 |x::xs=>.tup [.int (n:Nat),x]::cM (n+1) xs
def oc:Option PV->List PV->List PV
 |some y,ys=>y::ys
 |none,ys=>ys
def bq(f:PV->Res (Option PV)):List PV->Res (List PV)
 |[]=>.ok []
 |x::xs=>(f x).well.bind λo=>(bq f xs).bind λys=>.ok (oc o ys)
def sJ{α:Type}(p:PV)(f:Bool->Res α):Res α:=match p with
 |.bl b=>f b
 |_=>.bad
section
variable(F:aL)
mutual
noncomputable def aK:E->Sl->Res PV
 |.var i,env=>oQ env[i]?
 |.dR i,env=>DO env[i]?
 |.cst p,_=>.ok p
 |.glob _ p,_=>.ok p
 |.call f as,env=>(cY as env).bind λps=>F f ps
 |.kF i as,env=>match env[i]? with
  |some (.fn g idx c7)=>(cY as env).bind λps=>if idx.head?=some ps.length then(fD (ps++c7) idx.tail).bind λqs=>F g qs else .bad
  |_=>.bad
 |.oU f as _ _ ba,env=>(cY as env).bind λps=>(kh env ba).bind λcs=>F f (ps++cs)
 |.blt b as,env=>(cY as env).bind λps=>dS b ps
 |.ty t a,env=>(aK a env).bind λp=>k9 t p
 |.D0 c a,env=>(aK a env).bind λp=>match p with
  |.exc d=>.ok (.bl (if c=="ValueError" then true else(c==d||c=="FloorError")))
  |_=>.bad
 |.KN m o as,env=>(aK o env).bind λp=>if Ce m p then(cY as env).bind λps=>CV m (p::ps) else .bad
 |.bin o a b,env=>(aK a env).bind λx=>(aK b env).bind λy=>binOp o x y
 |.cmp o a b,env=>(aK a env).bind λx=>(aK b env).bind λy=>dN o x y
 |.ch o1 o2 a b c,env=>(aK a env).bind λx=>(aK b env).bind λy=>(dN o1 x y).bind λt=>sJ t λt=>
  if t then(aK c env).bind λz=>dN o2 y z else .ok (.bl false)
 |.not a,env=>(aK a env).bind λx=>sJ x λb=>.ok (.bl (!b))
 |.neg a,env=>(aK a env).bind λx=>match x with|.int i=>.ok (.int (-i))|_=>.bad
 |.and a b,env=>(aK a env).bind λx=>sJ x λt=>if t then aK b env else .ok (.bl false)
 |.or a b,env=>(aK a env).bind λx=>sJ x λt=>if t then .ok (.bl true) else aK b env
 |.ite c a b,env=>(aK c env).bind λx=>sJ x λt=>if t then aK a env else aK b env
 |.tup as,env=>(cY as env).bind λps=>.ok (.tup ps)
 |.lst as,env=>(cY as env).bind λps=>.ok (.lst ps)
 |.sub a b,env=>(aK a env).bind λx=>(aK b env).bind λy=>aG x y
 |.slice a lo hi,env=>(aK a env).bind λx=>(xj lo env).bind λl=>(xj hi env).bind λh=>hX x l h
 |.comp k ba tg it elt,env=>(sU it env).bind λxs=>if xs.length<fv then(bq (λx=>(tg.put x (List.replicate k .no++fZ env ba)).bind λau=>(aK elt au).bind λy=>.ok (some y)) xs).bind λys=>.ok (.lst ys) else .bad
 |.dc k ba tg it c elt,env=>(sU it env).bind λxs=>if xs.length<fv then(bq (λx=>(tg.put x (List.replicate k .no++fZ env ba)).bind λau=>(aK c au).bind λt=>sJ t λt=>if t then(aK elt au).bind λy=>.ok (some y) else .ok none) xs).bind λys=>.ok (.lst ys) else .bad
 |.sF a,env=>(aK a env).bind sortI
noncomputable def cY:Es->Sl->Res (List PV)
 |.nil,_=>.ok []
 |.cons e es,env=>(aK e env).bind λp=>(cY es env).bind λps=>.ok (p::ps)
noncomputable def xj:Oe->Sl->Res (Option Int)
 |.no,_=>.ok none
 |.some e,env=>(aK e env).bind λp=>match p with|.int i=>.ok (some i)|_=>.bad
noncomputable def sU:I->Sl->Res (List PV)
 |.seq e,env=>(aK e env).bind (AZ e)
 |.uc e,env=>(aK e env).bind λp=>match p with|.int j=>if bg j then .ok (fy 0 j.toNat) else .bad|_=>.bad
 |.qP a b,env=>(aK a env).bind λp=>(aK b env).bind λq=>match p,q with|.int i,.int j=>if bg i&&bg j then .ok (fy i (j-i).toNat) else .bad|_,_=>.bad
 |.enum e,env=>(aK e env).bind λp=>(itemsOf p).bind λxs=>.ok (cM 0 xs)
end
end
inductive Fl where
 |nx (env:Sl)|bk (env:Sl)|ct (env:Sl)|rt (p:PV)
def Fl.seq(f:Fl)(k:Sl->Res Fl):Res Fl:=match f with
 |.nx env=>k env
 |f=>.ok f
noncomputable def forL(body:PV->Sl->Res Fl):List PV->Sl->Res Fl
 |[],env=>.ok (.nx env)
 |x::xs,env=>(body x env).bind λf=>match f with
  |.nx au=>forL body xs au
  |.ct au=>forL body xs au
  |.bk au=>.ok (.nx au)
  |.rt p=>.ok (.rt p)
noncomputable def cK(c:Sl->Res PV)(body:Sl->Res Fl):Nat->Sl->Res Fl
 |0,_=>.bad
 |n+1,env=>(c env).bind λt=>sJ t λt=>if t then(body env).bind λf=>(match f with
  |.nx au=>cK c body n au
  |.ct au=>cK c body n au
  |.bk au=>.ok (.nx au)
  |.rt p=>.ok (.rt p)) else .ok (.nx env)
abbrev WN:Nat:=1000000
def Slot.mZ:Slot->Bool
 |.own _=>true
 |_=>false
def mv:Slot->Slot
 |.own p=>.val p
 |s=>s
section
variable(F:aL)
mutual
noncomputable def fH:S->Sl->Res Fl
 |.expr e,env=>(aK F e env).bind λ_=>.ok (.nx env)
 |.set i e,env=>(aK F e env).bind λp=>.ok (.nx (env.set i (.val p)))
 |.F8 tg e,env=>(aK F e env).bind λp=>(tg.put p env).bind λau=>.ok (.nx au)
 |.own i e,env=>(aK F e env).bind λp=>.ok (.nx (env.set i (.own p)))
 |.bE i,env=>.ok (.nx (env.modify i mv))
 |.app i e,env=>match env[i]? with
  |some (.own (.lst xs))=>(aK F e env).bind λp=>if xs.length<fv then .ok (.nx (env.set i (.own (.lst (xs++[p]))))) else .bad
  |_=>.bad
 |.qZ i e,env=>match env[i]? with
  |some (.own (.lst xs))=>(aK F e env).bind λp=>match p with
   |.lst ys=>if xs.length+ys.length<=fv then .ok (.nx (env.set i (.own (.lst (xs++ys))))) else .bad
   |_=>.bad
  |_=>.bad
 |.put i k e,env=>(aK F e env).bind λp=>match env[i]? with
  |some (.own (.bf ks vs))=>(aK F k env).bind λkp=>match iD kp with
   |some kk=>if ks.length<fv then .ok (.nx (env.set i (.own (.bf (aV ks kk) (aU ks vs kk p))))) else .bad
   |none=>.bad
  |_=>.bad
 |.ret e,env=>(aK F e env).bind λp=>.ok (.rt p)
 |.ite c a b,env=>(aK F c env).bind λp=>sJ p λt=>if t then aE a env else aE b env
 |.cQ tg it b,env=>(sU F it env).bind λxs=>forL (λx env=>(tg.put x env).bind λau=>aE b au) xs env
 |.xD c b,env=>cK (aK F c) (aE b) WN env
 |.raise c _,_=>.exc c
 |.vC b c i j,env=>if env.any Slot.mZ then .bad else match aE b env with
  |.exc d=>.ok (.nx ((env.set j (.val (.exc d))).set i .no))
  |r=>r
 |.brk,env=>.ok (.bk env)
 |.mM i e,env=>(aK F e env).bind λp=>(iw [p]).bind λq=>.ok (.nx (env.set i (.own q)))
 |.j5 i,env=>.ok (.nx (env.set i (.own (.bf [] []))))
 |.eO i j n,env=>match env[j]?,env[i]?,env[n]? with
  |some (.own (.bf ks vs)),some (.own (.bf ks2 vs2)),some (.val kp)=>match iD kp with
   |some kk=>match av ks vs kk with
    |some p=>if ks2.length<fv/\i≠j then .ok (.nx ((env.set j (.own (.bf (cm ks kk) (aW ks vs kk)))).set i (.own (.bf (aV ks2 kk) (aU ks2 vs2 kk p))))) else .bad
    |none=>.bad
   |none=>.bad
  |_,_,_=>.bad
 |.md m i,env=>match env[i]? with
  |some (.own (.bf ks vs))=>match iK vs with
   |some cs=>match(Av cs).bind λx=>ks[x]? with
    |some k=>.ok (.nx (env.set m (.val (ah k))))
    |none=>.bad
   |none=>.bad
  |_=>.bad
noncomputable def aE:Ss->Sl->Res Fl
 |.nil,env=>.ok (.nx env)
 |.cons s ss,env=>(fH s env).bind λf=>f.seq (aE ss)
end
end
structure Def where
 N:List Str
 np:Nat
 body:Ss
 iU:Option (Str×List Nat):=none
noncomputable def cx(d:Def)(as:List PV):Sl:=match d.iU with
 |none=>as.map .val++List.replicate (d.N.length-as.length) .no
 |some q=>(as.take (d.np-1)).map .val++.fn q.1 q.2 (as.drop (d.np-1))::List.replicate (d.N.length-d.np) .no
noncomputable def cA(d:Def)(as:List PV):Bool:=match d.iU with
 |none=>as.length==d.np
 |some _=>decide (0<d.np)&&decide (d.np-1<=as.length)
noncomputable def ax(F:aL)(d:Def)(as:List PV):Res PV:=
 if cA d as then(aE F d.body (cx d as)).bind λf=>match f with
  |.nx _=>.ok .aD
  |.rt p=>.ok p
  |_=>.bad
 else .bad
noncomputable def den:List (Str×Def)->aL
 |[],_,_=>.bad
 |(n,d)::r,f,as=>if f==n then ax (den r) d as else den r f as
abbrev ki(k:List Int):List Key:=k.map Sum.inl
def vg{a b:List Int}(h:ki a=ki b):a=b:=by
 induction a generalizing b with
 |nil=>cases b with|nil=>rfl|cons=>cases h
 |cons x a ih=>cases b with
  |nil=>cases h
  |cons y b=>simp! [ki,zzF,List.cons.injEq,Sum.inl.injEq] at h;rw [h.1,ih h.2]
def qM(k:List Int):(ki k).map kV=k.map V.int:=by
 unfold ki;rw [List.map_map]
 rfl
theorem jm{k:List Int}{ks:List (List Int)}{u:V}{us:List V}:kz (k::ks) (u::us)=(ki k,u)::kz ks us:=rfl
def fu{ks:List (List Int)}{us:List V}(h:ks.length=us.length):(kz ks us).length=ks.length:=by
 unfold kz;rw [List.length_zip,zzl];omega
def lC{ks:List (List Int)}{us:List V}(h:ks.length=us.length):(kz ks us).map (·.1)=ks.map ki:=by
 unfold kz;exact List.map_fst_zip (by rw [zzl];omega)
theorem kl(k:List Int):∀(ks:List (List Int)) (us:List V),ip (kz ks us) (ki k)=av ks us k
 |[],us=>by unfold av;rfl
 |a::ks,[]=>by unfold av;rfl
 |a::ks,u::us=>by
  rw [jm];unfold av
  by_cases h:a=k
  ·subst h;rw [if_pos rfl];exact gN rfl
  ·rw [if_neg h,gR (λz=>h (vg z))];exact kl k ks us
theorem lV{α:Type}(k:List Int):∀(ks:List (List Int)) (us:List α),ks.length=us.length->(av ks us k).isSome=cg ks k
 |[],[],_=>rfl
 |a::ks,u::us,h=>by
  unfold av cg;rw [List.any_cons]
  by_cases e:a=k
  ·simp [e]
  ·rw [if_neg e];have:=lV k ks us (by simpa using h)
   unfold cg at this;rw [this];simp [e]
 |[],_::_,h=>by simp at h
 |_::_,[],h=>by simp at h
def IS(k:List Int):∀(ks:List (List Int)) (us:List V),ks.length=us.length->((kz ks us).any λkv=>decide (kv.1=ki k))=cg ks k:=λks us h=>by
 rw [mW,kl,lV k ks us h]
def vk{ks:List (List Int)}{us:List V}(h:ks.length=us.length)(k:List Int)(v:V):putK (kz ks us) (ki k) v=kz (aV ks k) (aU ks us k v):=by
 unfold putK aV aU;rw [IS k ks us h];split
 ·have go:∀(ks:List (List Int)) (us:List V),(kz ks us).map (λkv=>if kv.1=ki k then(kv.1,v) else kv)=kz ks (List.zipWith (λk' u=>if k'=k then v else u) ks us):=by
   intro ks
   induction ks with
   |nil=>intro us;simp [kz]
   |cons a ks ih=>
    intro us;cases us with
    |nil=>simp [kz]
    |cons u us=>
     rw [jm,zzF,List.zipWith_cons_cons,jm,ih]
     by_cases e:a=k
     ·simp [e]
     ·rw [if_neg (λz=>e (vg z)),if_neg e]
  exact go ks us
 ·unfold kz;rw [List.map_append,List.zip_append (by rw [zzl];exact h)]
  rfl
def m6{α:Type}{ks:List (List Int)}{us:List α}(h:ks.length=us.length)(k:List Int)(v:α):(aV ks k).length=(aU ks us k v).length:=by
 unfold aV aU;split
 ·rw [List.length_zipWith];omega
 ·simp [h]
theorem x5(k:List Int):∀{ks:List (List Int)} {us:List V},ks.length=us.length->gk (kz ks us) (ki k)=kz (cm ks k) (aW ks us k)
 |[],[],_=>rfl
 |a::ks,u::us,h=>by
  have ih:=x5 k (ks:=ks) (us:=us) (by simpa using h)
  unfold cm aW;rw [jm,zz3]
  by_cases e:a=k
  ·subst e;rw [yT rfl,ih];simp [cm]
  ·rw [yZ (λz=>e (vg z)),ih,if_neg e,if_pos (by simpa using e),jm]
   rfl
 |[],_::_,h=>by simp at h
 |_::_,[],h=>by simp at h
theorem sR{α:Type}(k:List Int):∀{ks:List (List Int)} {us:List α},ks.length=us.length->(cm ks k).length=(aW ks us k).length
 |[],[],_=>by unfold aW;rfl
 |a::ks,u::us,h=>by
  have ih:=sR k (ks:=ks) (us:=us) (by simpa using h)
  unfold cm aW;rw [zz3]
  by_cases e:a=k
  ·subst e;rw [if_neg (by simp),if_pos rfl];exact ih
  ·rw [if_neg e,if_pos (by simpa using e),zzL,zzL];exact congrArg (·+1) ih
 |[],_::_,h=>by simp at h
 |_::_,[],h=>by simp at h
section
variable{W:Wd}{G:Hp}
theorem qi{k:List Int}{p:PV}:∀{ks:List (List Int)} {ps:List PV} {us:List V},aq W G ps us->av ks ps k=some p->∃v,av ks us k=some v/\Rep W G p v
 |[],_,_,_,e=>by unfold av at e;cases e
 |a::ks,[],_,_,e=>by unfold av at e;cases e
 |a::ks,q::ps,_,l,e=>by
  obtain⟨v,r,rfl,h1,h2⟩:=l.cB
  unfold av at e⊢
  by_cases h:a=k
  ·rw [if_pos h] at e⊢;cases e;exact⟨v,rfl,h1⟩
  ·rw [if_neg h] at e⊢;exact qi h2 e
theorem De{k:List Int}{p:PV}{v:V}(hp:Rep W G p v):∀{ks:List (List Int)} {ps:List PV} {us:List V},aq W G ps us->aq W G (List.zipWith (λk' v=>if k'=k then p else v) ks ps) (List.zipWith (λk' u=>if k'=k then v else u) ks us)
 |[],_,_,_=>by simp! [List.zipWith_nil_left];exact .nil
 |a::ks,[],_,l=>by simp! [aq] at l;subst l;simp! [List.zipWith_nil_right];exact .nil
 |a::ks,q::ps,_,l=>by
  obtain⟨u,r,rfl,h1,h2⟩:=l.cB
  rw [List.zipWith_cons_cons,List.zipWith_cons_cons];refine .cons ?_ (De hp h2);split
  ·exact hp
  ·exact h1
def pX{ks:List (List Int)}{ps:List PV}{us:List V}{k:List Int}{p:PV}{v:V}(l:aq W G ps us)(hp:Rep W G p v):aq W G (aU ks ps k p) (aU ks us k v):=by
 unfold aU;split
 ·exact De hp l
 ·exact l.append (.cons hp .nil)
theorem nH{k:List Int}:∀{ks:List (List Int)} {ps:List PV} {us:List V},aq W G ps us->aq W G (aW ks ps k) (aW ks us k)
 |[],_,_,_=>by unfold aW;exact .nil
 |a::ks,[],_,l=>by simp! [aq] at l;subst l;unfold aW;exact .nil
 |a::ks,q::ps,_,l=>by
  obtain⟨u,r,rfl,h1,h2⟩:=l.cB
  unfold aW;split
  ·exact nH h2
  ·exact .cons h1 (nH h2)
end
theorem oK:∀{xs:List PV} {ns:List Int},intsOf xs=some ns->xs=ns.map .int
 |[],_,e=>by cases e;rfl
 |.int i::r,_,e=>by
  unfold intsOf at e;obtain⟨ns,h1,rfl⟩:=zzJ.mp e
  rw [oK h1];rfl
 |.aD::_,_,e=>by cases e
 |.bl _::_,_,e=>by cases e
 |.str _::_,_,e=>by cases e
 |.tup _::_,_,e=>by cases e
 |.lst _::_,_,e=>by cases e
 |.exc _::_,_,e=>by cases e
 |.bf _ _::_,_,e=>by cases e
def hZ{p:PV}{k:List Int}(h:iD p=some k):p=ah k:=by
 unfold iD at h;split at h
 ·rw [oK h];rfl
 ·cases h
end Ci
namespace L2
open PySem PySem.Spec PyProof.Rows
end L2
namespace Ci
open PySem L2
def qj{n:Nat}(h:n<=fv):n<=sizeLine:=zzU h (by decide)
section
variable{X:Cx}{W:Wd}{H0 G H:Hp}
def dj(W:Wd)(G H:Hp)(r:PV)(Q:VK):Prop:=∀v G' H',aC W G H G' H'->Rep W G' r v->Q v H'
def dj.at{r:PV}{Q:VK}{v:V}(h:dj W G H r Q)(s:aA G H)(k:Rep W G r v):Q v H:=h v G H (.refl s) k
def dj.tup{xs:List PV}{Q:VK}{vs:List V}{p:Addr}(h:dj W G H (.tup xs) Q)(s:aA G H)(k:aq W G xs vs)(hp:H p=none):Q (.ref p) (upd H p (.tup vs)):=
 h _ _ _ (.new s hp) (.t (.inl ak) (aq.same (bz (s.free hp)) xs k))
def dj.lst{xs:List PV}{Q:VK}{vs:List V}{p:Addr}(h:dj W G H (.lst xs) Q)(s:aA G H)(k:aq W G xs vs)(hp:H p=none):Q (.ref p) (upd H p (.lst vs)):=
 h _ _ _ (.new s hp) (.l (.inl (.inl ak)) (aq.same (bz (s.free hp)) xs k))
theorem lN{f:PV->PV->Bool}:∀{xs ys:List PV},xs.length≠ys.length->eqs f xs ys=false
 |[],[],h=>absurd rfl h
 |_::xs,_::ys,h=>by simp! [eqs];rw [lN (xs:=xs) (ys:=ys) (λz=>h (by simp [z]))];simp
 |[],_::_,_=>rfl
 |_::_,[],_=>rfl
theorem lF{f:PV->PV->Bool}:∀{xs ys:List PV},xs.length=ys.length->eqs f xs ys=(List.range xs.length).all λj=>f (xs.getD j .aD) (ys.getD j .aD)
 |[],[],_=>rfl
 |x::xs,y::ys,h=>by
  simp! [eqs];rw [lF (xs:=xs) (ys:=ys) (by simpa using h),zzL,List.range_succ_eq_map,List.all_cons,List.all_map]
  rfl
 |[],_::_,h=>by simp at h
 |_::_,[],h=>by simp at h
def pB{f:PV->PV->Bool}:∀{xs ys:List PV},((List.range (min xs.length ys.length)).all (λj=>f (xs.getD j .aD) (ys.getD j .aD))&&xs.length==ys.length)=eqs f xs ys:=λ{xs ys}=>by
 by_cases h:xs.length=ys.length
 ·rw [lF h,h,Nat.min_self,beq_self_eq_true,Bool.and_true]
 ·rw [lN h,beq_eq_false_iff_ne.mpr h,Bool.and_false]
theorem rX{f:PV->PV->Bool}:∀{xs ys:List PV},xs.length=ys.length->(∀(j:Nat) x y,xs[j]?=some x->ys[j]?=some y->f x y=true)->eqs f xs ys=true
 |[],[],_,_=>rfl
 |x::xs,y::ys,h,k=>by
  simp! [eqs];rw [k 0 x y rfl rfl,rX (xs:=xs) (ys:=ys) (by simpa using h) λj a b ha hb=>k (j+1) a b (by simpa using ha) (by simpa using hb)]
  rfl
 |[],_::_,h,_=>by simp at h
 |_::_,[],h,_=>by simp at h
def rP(hK:W.K=X.K){a:Addr}{vs:List V}(h:uD W.K H a vs):gM X.K H a vs:=by
 rw [hK] at h;rcases h with h|⟨ay,n,h1,h2,h3⟩
 ·exact .inl h
 ·exact .inr ⟨_,ay,n,h1,rfl,rfl,rfl,h2,h3⟩
def sH{ae:List (Addr×Obj)}{σ:St}{s:Shared}(I:Inv X ae σ H s){a:Addr}{vs us:List V}(h1:fw X.K H a vs)(h2:gM X.K H a us):False:=by
 obtain⟨ay,_,⟨o,e,hc,_⟩,_⟩:=I.tuple h1
 obtain⟨fG,_,⟨o2,n,e2,hc2,_⟩,_⟩:=I.list h2
 rw [e] at e2;cases e2;rw [hc] at hc2;exact absurd hc2 (by decide)
theorem g9{α:Type}:∀{xs ys:List α},xs.length=ys.length->(∀(j:Nat) x y,xs[j]?=some x->ys[j]?=some y->x=y)->xs=ys
 |[],[],_,_=>rfl
 |x::xs,y::ys,h,k=>by rw [k 0 x y rfl rfl,g9 (xs:=xs) (ys:=ys) (by simpa using h) λj a b ha hb=>k (j+1) a b (by simpa using ha) (by simpa using hb)]
 |[],_::_,h,_=>by simp at h
 |_::_,[],h,_=>by simp at h
def WO(X:Cx)(W:Wd)(G H:Hp):PV->V->Prop
 |.aD,v=>v=.aD
 |.bl b,v=>v=.bl b
 |.int i,v=>v=.int i
 |.str z,v=>v=.str z
 |.tup xs,v=>∃a,v=.ref a/\∃vs,fw X.K H a vs/\aq W G xs vs
 |.lst xs,v=>∃a,v=.ref a/\∃vs,gM X.K H a vs/\aq W G xs vs
 |_,_=>False
def Qq(hK:W.K=X.K)(sg:aA G H){n:Nat}{p:PV}{v:V}(hp:plain n p=true)(h:Top W H0 G H p v):WO X W G H p v:=by
 cases p with
 |aD=>exact h.aD
 |bl b=>exact h.bl
 |int i=>exact h.int
 |str z=>exact h.str
 |tup xs=>
  obtain⟨a,vs,e,sq,l⟩:=h.tup sg
  rw [hK] at sq;exact⟨a,e,vs,sq,l⟩
 |lst xs=>
  obtain⟨a,vs,e,sq,l⟩:=h.lst sg
  exact⟨a,e,vs,rP hK sq,l⟩
 |exc c=>cases n<;>exact aP hp
 |bf a b=>cases n<;>exact aP hp
def xM{ae:List (Addr×Obj)}{σ:St}{s:Shared}(I:Inv X ae σ H s)(hK:W.K=X.K)(sg:aA G H):∀(n:Nat) {p q:PV} {v:V},plain n p=true->plain n q=true->Top W H0 G H p v->Top W H0 G H q v->p=q:=by
 intro n
 induction n with
 |zero=>
  intro p q v hp hq h1 h2;have a:=Qq hK sg hp h1
  have b:=Qq hK sg hq h2
  cases p<;>cases q<;>first|exact aP hp|exact aP hq|(cases a;cases b;rfl)|(cases a;cases b)
 |succ n ih=>
  intro p q v hp hq h1 h2;have a:=Qq hK sg hp h1
  have b:=Qq hK sg hq h2
  have el:∀{xs ys:List PV} {vs:List V},xs.all (plain n)=true->ys.all (plain n)=true->aq W G xs vs->aq W G ys vs->xs=ys:=λ{xs ys vs} a1 a2 l1 l2=>
   g9 (by rw [<-l1.length,l2.length]) λj x y ex ey=>by
    obtain⟨u,eu,ku⟩:=l1.nZ ex
    obtain⟨y',ey',ky⟩:=l2.get eu
    rw [ey] at ey';cases ey';exact ih (zzT.mp a1 _ (zzD ex)) (zzT.mp a2 _ (zzD ey)) (.inl ku) (.inl ky)
  cases p<;>cases q<;>first|exact aP hp|exact aP hq|(cases a;cases b;done)|(cases a;cases b;rfl)|(obtain⟨_,e1,_⟩:=a;cases b;cases e1;done)|(obtain⟨_,e2,_⟩:=b;cases a;cases e2;done)|(obtain⟨x,rfl,vs,s1,l1⟩:=a;obtain⟨y,e2,us,s2,l2⟩:=b;cases e2;first|exact(sH I s1 s2).elim|exact(sH I s2 s1).elim|(cases I.pq s1 s2;rw [el hp hq l1 l2])|(cases I.uw s1 s2;rw [el hp hq l1 l2]))
def CS:∀{n:Nat} {p:PV},plain n p=true->jx n p p=true:=by
 intro n
 induction n with
 |zero=>intro p h;cases p<;>first|exact aP h|rfl|exact beq_self_eq_true _
 |succ n ih=>
  intro p h;cases p<;>first|exact aP h|rfl|exact beq_self_eq_true _|exact rX rfl λj x y e1 e2=>by rw [e1] at e2;cases e2;exact ih (zzT.mp h _ (zzD e1))
def yi{ae:List (Addr×Obj)}{σ:St}{s:Shared}(I:Inv X ae σ H s)(hK:W.K=X.K)(sg:aA G H):∀(n:Nat) {p q:PV} {v:V},plain n p=true->plain n q=true->Top W H0 G H p v->Top W H0 G H q v->jx n p q=true:=λn {p q v} hp hq h1 h2=>by
 cases xM I hK sg n hp hq h1 h2;exact CS hp
def lU{x:V}{a:Addr}(r:RelV x (.ref a)):x=.ref a:=by
 cases x<;>first|(cases r;rfl)|(obtain⟨_,h⟩:=r;cases h)|cases r
def VO(W:Wd)(G:Hp)(h:Heap):PV->Value->Prop
 |.aD,v=>∃_t:Nat,v=.none/\True
 |.bl b,v=>∃_t:Nat,v=.bool b/\True
 |.int i,v=>∃t,v=.int i t/\True
 |.str z,v=>∃t,v=.str z t/\True
 |.tup xs,v=>∃a,v=.ref a/\∃ay vs,aq W G xs vs/\Vals vs ay/\h.IsTuple a ay.toArray
 |.lst xs,v=>∃a,v=.ref a/\∃ay vs,aq W G xs vs/\Vals vs ay/\h.IsList a ay.toArray
 |_,_=>False
def II{ae:List (Addr×Obj)}{σ:St}{s:Shared}(I:Inv X ae σ H s)(hK:W.K=X.K)(sg:aA G H){n:Nat}{p:PV}{v:V}{v':Value}(hp:plain n p=true)(h:Top W H0 G H p v)(r:RelV v v'):VO W G s.heap p v':=by
 cases p with
 |aD=>cases h.aD;cases r;exact⟨0,rfl,trivial⟩
 |bl b=>cases h.bl;cases r;exact⟨0,rfl,trivial⟩
 |int i=>cases h.int;obtain⟨t,rfl⟩:=r;exact⟨t,rfl,trivial⟩
 |str z=>cases h.str;obtain⟨t,rfl⟩:=r;exact⟨t,rfl,trivial⟩
 |tup xs=>
  obtain⟨a,vs,rfl,sq,l⟩:=h.tup sg
  rw [hK] at sq;cases r;obtain⟨ay,q,z,_⟩:=I.tuple sq
  exact⟨a,rfl,ay,vs,l,q,z⟩
 |lst xs=>
  obtain⟨a,vs,rfl,sq,l⟩:=h.lst sg
  cases r;obtain⟨ay,q,z,_⟩:=I.list (rP hK sq)
  exact⟨a,rfl,ay,vs,l,q,z.isList⟩
 |exc c=>cases n<;>exact aP hp
 |bf a b=>cases n<;>exact aP hp
def tP(W:Wd)(G:Hp)(s:Shared)(n:Nat)(A:Around)(xs ys:List PV):Prop:=∀{vs us:List V} {ay fG:List Value},aq W G xs vs->aq W G ys us->Vals vs ay->Vals us fG->∀j (h1:j<ay.toArray.size) (h2:j<fG.toArray.size),SeqAt.EqAt A s ay.toArray[j] fG.toArray[j] (jx n (xs.getD j .aD) (ys.getD j .aD))
theorem CF{s:Shared}{n:Nat}{A:Around}{xs ys:List PV}(h:∀{p q:PV} {v u:V} {v' u':Value},plain n p=true->plain n q=true->Rep W G p v->Rep W G q u->RelV v v'->RelV u u'->SeqAt.EqAt A s v' u' (jx n p q))(a1:xs.all (plain n)=true)(a2:ys.all (plain n)=true):tP W G s n A xs ys:=λ{vs us ay fG} l1 l2 q1 q2 j g1 g2=>by
 obtain⟨x,hx,rx⟩:=AH q1 g1
 obtain⟨y,hy,ry⟩:=AH q2 g2
 obtain⟨px,ex,kx⟩:=l1.get hx
 obtain⟨py,ey,ky⟩:=l2.get hy
 rw [zzK,zzK,ex,ey];exact h (zzT.mp a1 _ (zzD ex)) (zzT.mp a2 _ (zzD ey)) kx ky rx ry
def xB{s:Shared}{n:Nat}{A:Around}{a b:Addr}{xs ys:List PV}(hu:A.units<cLine)(el:tP W G s n A.in1 xs ys)(k1:∃ay vs,aq W G xs vs/\Vals vs ay/\s.heap.IsTuple a ay.toArray)(k2:∃ay vs,aq W G ys vs/\Vals vs ay/\s.heap.IsTuple b ay.toArray):SeqAt.RcAt A s (.ref a) (.ref b) (eqs (jx n) xs ys):=by
 obtain⟨ay,vs,l,q1,z1⟩:=k1
 obtain⟨fG,us,l2,q2,z2⟩:=k2
 have m1:ay.length=xs.length:=by rw [<-q1.length,l.length]
 have m2:fG.length=ys.length:=by rw [<-q2.length,l2.length]
 have:=SeqAt.RcAt.tuples (e:=λj=>jx n (xs.getD j .aD) (ys.getD j .aD)) z1 z2 hu (el l l2 q1 q2)
 rw [zzC,zzC,m1,m2,pB] at this;exact this
def wJ{s:Shared}{n:Nat}{A:Around}{a b:Addr}{xs ys:List PV}(hu:A.units<cLine)(el:tP W G s n A.in1 xs ys)(k1:∃ay vs,aq W G xs vs/\Vals vs ay/\s.heap.IsList a ay.toArray)(k2:∃ay vs,aq W G ys vs/\Vals vs ay/\s.heap.IsList b ay.toArray):SeqAt.RcAt A s (.ref a) (.ref b) (eqs (jx n) xs ys):=by
 obtain⟨ay,vs,l,q1,z1⟩:=k1
 obtain⟨fG,us,l2,q2,z2⟩:=k2
 have m1:ay.length=xs.length:=by rw [<-q1.length,l.length]
 have m2:fG.length=ys.length:=by rw [<-q2.length,l2.length]
 by_cases hl:xs.length=ys.length
 ·have:=SeqAt.RcAt.lists (e:=λj=>jx n (xs.getD j .aD) (ys.getD j .aD)) z1 z2 (by rw [zzC,zzC];omega) hu (el l l2 q1 q2)
  rw [zzC,m1,<-lF hl] at this;exact this
 ·have:=SeqAt.RcAt.lists_lengths z1 z2 (by rw [zzC,zzC,m1,m2];simp [hl]) hu
  rw [lN hl];exact this
open SeqAt.EqAt in
def Bp{ae:List (Addr×Obj)}{σ:St}{s:Shared}(I:Inv X ae σ H s)(hK:W.K=X.K)(sg:aA G H):∀(n:Nat) {A:Around} {p q:PV} {v u:V} {v' u':Value},A.units+(n+1)<cLine->plain n p=true->plain n q=true->Top W H0 G H p v->Top W H0 G H q u->RelV v v'->RelV u u'->
 SeqAt.EqAt A s v' u' (jx n p q):=by
 intro n
 induction n with
 |zero=>
  intro A p q v u v' u' hu hp hq h1 h2 r1 r2;have a:=II I hK sg hp h1 r1
  have b:=II I hK sg hq h2 r2
  cases p<;>cases q<;>first|exact aP hp|exact aP hq|(obtain⟨t1,rfl,_⟩:=a;obtain⟨t2,rfl,_⟩:=b)
  exact same _
  exact none_bool _
  exact none_int _ _
  exact none_str _ _
  exact bool_none _
  exact bool_bool _ _
  exact bool_int _ _ _
  exact bool_str _ _ _
  exact int_none _ _
  exact int_bool _ _ _
  exact int_int _ _ _ _
  exact int_str _ _ _ _
  exact str_none _ _
  exact str_bool _ _ _
  exact str_int _ _ _ _
  exact str_str _ _ _ _
 |succ n ih=>
  intro A p q v u v' u' hu hp hq h1 h2 r1 r2;have dh:A.units<cLine:=by omega
  have a:=II I hK sg hp h1 r1
  have b:=II I hK sg hq h2 r2
  have el:∀{xs ys:List PV},xs.all (plain n)=true->ys.all (plain n)=true->tP W G s n A.in1 xs ys:=λa1 a2=>CF (λhp hq h1 h2 r1 r2=>ih (by show A.units+1+(n+1)<_;omega) hp hq (.inl h1) (.inl h2) r1 r2) a1 a2
  cases p<;>cases q<;>first|exact aP hp|exact aP hq|(obtain⟨t1,rfl,k1⟩:=a;obtain⟨t2,rfl,k2⟩:=b;try obtain⟨_,_,_,_,z1⟩:=id k1;try obtain⟨_,_,_,_,z2⟩:=id k2)
  exact same _
  exact none_bool _
  exact none_int _ _
  exact none_str _ _
  exact none_tuple z2 dh
  exact none_list z2 dh
  exact bool_none _
  exact bool_bool _ _
  exact bool_int _ _ _
  exact bool_str _ _ _
  exact bool_tuple _ z2 dh
  exact bool_list _ z2 dh
  exact int_none _ _
  exact int_bool _ _ _
  exact int_int _ _ _ _
  exact int_str _ _ _ _
  exact int_tuple _ _ z2 dh
  exact int_list _ _ z2 dh
  exact str_none _ _
  exact str_bool _ _ _
  exact str_int _ _ _ _
  exact str_str _ _ _ _
  exact str_tuple _ _ z2 dh
  exact str_list _ _ z2 dh
  exact tuple_none z1 dh
  exact tuple_bool _ z1 dh
  exact tuple_int _ _ z1 dh
  exact tuple_str _ _ z1 dh
  by_cases g8:t1=t2
  ·subst g8;cases lU r1;cases lU r2;rw [yi I hK sg (n+1) hp hq h1 h2];exact same _
  ·exact of_refs g8 (xB dh (el hp hq) k1 k2)
  exact tuple_list z1 z2 dh
  exact list_none z1 dh
  exact list_bool _ z1 dh
  exact list_int _ _ z1 dh
  exact list_str _ _ z1 dh
  exact list_tuple z1 z2 dh
  by_cases g8:t1=t2
  ·subst g8;cases lU r1;cases lU r2;rw [yi I hK sg (n+1) hp hq h1 h2];exact same _
  ·exact of_refs g8 (wJ dh (el hp hq) k1 k2)
end
section
variable{X:Cx}{W:Wd}{H0 G H:Hp}
open SeqAt.RcAt in
def NW{ae:List (Addr×Obj)}{σ:St}{s:Shared}(I:Inv X ae σ H s)(hK:W.K=X.K)(sg:aA G H)(n:Nat){A:Around}{p q:PV}{v u:V}{v' u':Value}(hu:A.units+(n+2)<cLine)(hp:plain (n+1) p=true)(hq:plain (n+1) q=true)(h1:Top W H0 G H p v)(h2:Top W H0 G H q u)(r1:RelV v v')(r2:RelV u u'):
 SeqAt.RcAt A s v' u' (jx (n+1) p q):=by
 have dh:A.units<cLine:=by omega
 have a:=II I hK sg hp h1 r1
 have b:=II I hK sg hq h2 r2
 have el:∀{xs ys:List PV},xs.all (plain n)=true->ys.all (plain n)=true->tP W G s n A.in1 xs ys:=λa1 a2=>CF (λhp hq h1 h2 r1 r2=>Bp (H0:=H0) I hK sg n (by show A.units+1+(n+1)<_;omega) hp hq (.inl h1) (.inl h2) r1 r2) a1 a2
 cases p<;>cases q<;>first|exact aP hp|exact aP hq|(obtain⟨t1,rfl,k1⟩:=a;obtain⟨t2,rfl,k2⟩:=b;try obtain⟨_,_,_,_,z1⟩:=id k1;try obtain⟨_,_,_,_,z2⟩:=id k2)
 exact none_none
 exact none_bool _
 exact none_int _ _
 exact none_str _ _
 exact none_tuple z2 dh
 exact none_list z2 dh
 exact bool_none _
 exact bool_bool _ _
 exact bool_int _ _ _
 exact bool_str _ _ _
 exact bool_tuple _ z2 dh
 exact bool_list _ z2 dh
 exact int_none _ _
 exact int_bool _ _ _
 exact int_int _ _ _ _
 exact int_str _ _ _ _
 exact int_tuple _ _ z2 dh
 exact int_list _ _ z2 dh
 exact str_none _ _
 exact str_bool _ _ _
 exact str_int _ _ _ _
 exact str_str _ _ _ _
 exact str_tuple _ _ z2 dh
 exact str_list _ _ z2 dh
 exact tuple_none z1 dh
 exact tuple_bool _ z1 dh
 exact tuple_int _ _ z1 dh
 exact tuple_str _ _ z1 dh
 exact xB dh (el hp hq) k1 k2
 exact tuple_list z1 z2 dh
 exact list_none z1 dh
 exact list_bool _ z1 dh
 exact list_int _ _ z1 dh
 exact list_str _ _ z1 dh
 exact list_tuple z1 z2 dh
 exact wJ dh (el hp hq) k1 k2
def yx{s:Shared}{n:Nat}{A:Around}{a b:Addr}{xs ys:List PV}(hu:A.units<cLine)(el:tP W G s n A.in1 xs ys)(k1:∃ay vs,aq W G xs vs/\Vals vs ay/\s.heap.IsTuple a ay.toArray)(k2:∃ay vs,aq W G ys vs/\Vals vs ay/\s.heap.IsTuple b ay.toArray):SeqAt.RcNeAt A s (.ref a) (.ref b) (!eqs (jx n) xs ys):=by
 obtain⟨ay,vs,l,q1,z1⟩:=k1
 obtain⟨fG,us,l2,q2,z2⟩:=k2
 have m1:ay.length=xs.length:=by rw [<-q1.length,l.length]
 have m2:fG.length=ys.length:=by rw [<-q2.length,l2.length]
 have:=SeqAt.RcNeAt.tuples (e:=λj=>jx n (xs.getD j .aD) (ys.getD j .aD)) z1 z2 hu (el l l2 q1 q2)
 rw [zzC,zzC,m1,m2,pB] at this;exact this
def yo{s:Shared}{n:Nat}{A:Around}{a b:Addr}{xs ys:List PV}(hu:A.units<cLine)(el:tP W G s n A.in1 xs ys)(k1:∃ay vs,aq W G xs vs/\Vals vs ay/\s.heap.IsList a ay.toArray)(k2:∃ay vs,aq W G ys vs/\Vals vs ay/\s.heap.IsList b ay.toArray):SeqAt.RcNeAt A s (.ref a) (.ref b) (!eqs (jx n) xs ys):=by
 obtain⟨ay,vs,l,q1,z1⟩:=k1
 obtain⟨fG,us,l2,q2,z2⟩:=k2
 have m1:ay.length=xs.length:=by rw [<-q1.length,l.length]
 have m2:fG.length=ys.length:=by rw [<-q2.length,l2.length]
 by_cases hl:xs.length=ys.length
 ·have:=SeqAt.RcNeAt.lists (e:=λj=>jx n (xs.getD j .aD) (ys.getD j .aD)) z1 z2 (by rw [zzC,zzC];omega) hu (el l l2 q1 q2)
  rw [zzC,m1,<-lF hl] at this;exact this
 ·have:=SeqAt.RcNeAt.lists_lengths z1 z2 (by rw [zzC,zzC,m1,m2];simp [hl]) hu
  rw [lN hl];exact this
open SeqAt.RcNeAt in
def Eb{ae:List (Addr×Obj)}{σ:St}{s:Shared}(I:Inv X ae σ H s)(hK:W.K=X.K)(sg:aA G H)(n:Nat){A:Around}{p q:PV}{v u:V}{v' u':Value}(hu:A.units+(n+2)<cLine)(hp:plain (n+1) p=true)(hq:plain (n+1) q=true)(h1:Top W H0 G H p v)(h2:Top W H0 G H q u)(r1:RelV v v')(r2:RelV u u'):
 SeqAt.RcNeAt A s v' u' (!jx (n+1) p q):=by
 have dh:A.units<cLine:=by omega
 have a:=II I hK sg hp h1 r1
 have b:=II I hK sg hq h2 r2
 have el:∀{xs ys:List PV},xs.all (plain n)=true->ys.all (plain n)=true->tP W G s n A.in1 xs ys:=λa1 a2=>CF (λhp hq h1 h2 r1 r2=>Bp (H0:=H0) I hK sg n (by show A.units+1+(n+1)<_;omega) hp hq (.inl h1) (.inl h2) r1 r2) a1 a2
 cases p<;>cases q<;>first|exact aP hp|exact aP hq|(obtain⟨t1,rfl,k1⟩:=a;obtain⟨t2,rfl,k2⟩:=b;try obtain⟨_,_,_,_,z1⟩:=id k1;try obtain⟨_,_,_,_,z2⟩:=id k2)
 exact none_none
 exact none_bool _
 exact none_int _ _
 exact none_str _ _
 exact none_tuple z2 dh
 exact none_list z2 dh
 exact bool_none _
 exact bool_bool _ _
 exact bool_int _ _ _
 exact bool_str _ _ _
 exact bool_tuple _ z2 dh
 exact bool_list _ z2 dh
 exact int_none _ _
 exact int_bool _ _ _
 exact int_int _ _ _ _
 exact int_str _ _ _ _
 exact int_tuple _ _ z2 dh
 exact int_list _ _ z2 dh
 exact str_none _ _
 exact str_bool _ _ _
 exact str_int _ _ _ _
 exact str_str _ _ _ _
 exact str_tuple _ _ z2 dh
 exact str_list _ _ z2 dh
 exact tuple_none z1 dh
 exact tuple_bool _ z1 dh
 exact tuple_int _ _ z1 dh
 exact tuple_str _ _ z1 dh
 exact yx dh (el hp hq) k1 k2
 exact tuple_list z1 z2 dh
 exact list_none z1 dh
 exact list_bool _ z1 dh
 exact list_int _ _ z1 dh
 exact list_str _ _ z1 dh
 exact list_tuple z1 z2 dh
 exact yo dh (el hp hq) k1 k2
end
section
variable{X:Cx}{W:Wd}
def El(hK:W.K=X.K){ae:List (Addr×Obj)}{σ:St}{H:Hp}{s:Shared}{a:Addr}{xs:List V}(I:Inv X ae σ H s)(h:uD W.K H a xs):∃(ay:List Value) (n:Nat),Vals xs ay/\xs.length=ay.length/\xs.length<=sizeLine/\s.heap.get? a=some {cls:=.type "list",data:=.seq ay.toArray n}:=by
 rw [hK] at h;rcases h with h|⟨ay,n,h1,h2,h3⟩
 ·obtain⟨z,ay,n,r,e⟩:=h.ok I.aJ
  exact⟨ay,n,r,r.length,z,e⟩
 ·refine⟨ay.toList,n,h3,h3.length,?_,by simpa using I.pP a _ h1⟩;rw [h3.length,zzd];exact h2
def QR:M3->Operator
 |.add=>.Add|.sub=>.Sub|.mul=>.Mult|.mod=>.Mod|.fdiv=>.FloorDiv
noncomputable def vv(W:Wd)(f:PV->PV->Res PV):R2:=λx y H Q=>∃H0 G p q r,aA G H/\Top W H0 G H p x/\Top W H0 G H q y/\f p q=.ok r/\dj W G H r Q
def My(hK:W.K=X.K)(o:M3):iz X (binaryOp (QR o)) (vv W (binOp o)):=by
 intro ae s σ H x y v u Q I rx ry h;obtain⟨H0,G,p,q,r,sg,t1,t2,e,wq⟩:=h
 unfold binOp at e;split at e
 ·cases e;exact Jp ae s σ H x y v u Q I rx ry ⟨_,_,t1.int,t2.int,wq.at sg .i⟩
 ·split at e
  ·rename_i hl;cases e;exact vb ae s σ H x y v u Q I rx ry ⟨_,_,t1.str,t2.str,qj hl,wq.at sg .s⟩
  ·cases e
 ·cases e;exact Mr ae s σ H x y v u Q I rx ry ⟨_,_,t1.int,t2.int,wq.at sg .i⟩
 ·split at e
  ·rename_i hc;cases e;refine LU ae s σ H x y v u Q I rx ry ⟨_,_,t1.int,t2.int,?_,wq.at sg .i⟩;rw [zzt] at hc;unfold aO at hc;simp! [zza,zzN] at hc;exact hc
  ·cases e
 ·split at e
  ·rename_i hc;cases e;exact JD ae s σ H x y v u Q I rx ry ⟨_,_,t1.int,t2.int,hc,wq.at sg .i⟩
  ·cases e
 ·split at e
  ·rename_i hc;cases e;exact Gg ae s σ H x y v u Q I rx ry ⟨_,_,t1.int,t2.int,hc,wq.at sg .i⟩
  ·cases e
 ·cases e
def Ey:Qz X (unaryOp .USub) (λx H Q=>∃(H0 G:Hp) (i:Int),aA G H/\Top W H0 G H (.int i) x/\dj W G H (.int (-i)) Q):=by
 intro ae s σ H x v Q I rx h;obtain⟨H0,G,i,sg,t,wq⟩:=h
 exact LZ ae s σ H x v Q I rx ⟨i,t.int,wq.at sg .i⟩
def rM:A4->CmpOp
 |.eq=>.Eq|.ne=>.NotEq|.lt=>.Lt|.le=>.LtE|.gt=>.Gt|.is=>.Is|.A6=>.IsNot|.Ax=>.In|.lJ=>.NotIn
def oy{ae:List (Addr×Obj)}{σ:St}{H G:Hp}{s:Shared}{Q:VK}{k:Bool}(I:Inv X ae σ H s)(sg:aA G H)(wq:dj W G H (.bl k) Q):EP X ae σ Q (.bool k) s:=⟨.bl k,H,I,rfl,wq.at sg .b⟩
def JF(hK:W.K=X.K)(hu:X.A.units+64<cLine):iz X (compareOp .Eq) (vv W gq):=by
 intro ae s σ H x y v u Q I rx ry h;obtain⟨H0,G,p,q,r,sg,t1,t2,e,wq⟩:=h
 unfold gq at e;split at e
 ·rename_i hc;rw [zza] at hc;cases e;exact NW I hK sg 8 (by omega) hc.1 hc.2 t1 t2 rx ry _ _ _ _ (oy I sg wq)
 ·cases e
def KZ(hK:W.K=X.K)(hu:X.A.units+64<cLine):iz X (compareOp .NotEq) (vv W gL):=by
 intro ae s σ H x y v u Q I rx ry h;obtain⟨H0,G,p,q,r,sg,t1,t2,e,wq⟩:=h
 unfold gL at e;split at e
 ·rename_i hc;rw [zza] at hc;cases e;exact Eb I hK sg 8 (by omega) hc.1 hc.2 t1 t2 rx ry _ _ _ _ (oy I sg wq)
 ·cases e
theorem ni{G:Hp}:∀{xs:List PV} {vs:List V} {ns:List Int},aq W G xs vs->intsOf xs=some ns->vs=ns.map V.int
 |[],vs,ns,h,e=>by simp! [aq] at h;subst h;cases e;rfl
 |.int i::r,vs,ns,h,e=>by
  obtain⟨v,t,rfl,h1,h2⟩:=h.cB
  simp! [Rep] at h1;subst h1;unfold intsOf at e;obtain⟨m,hm,rfl⟩:=zzJ.mp e
  rw [ni h2 hm]
  rfl
 |.aD::_,_,_,_,e=>by cases e
 |.bl _::_,_,_,_,e=>by cases e
 |.str _::_,_,_,_,e=>by cases e
 |.tup _::_,_,_,_,e=>by cases e
 |.lst _::_,_,_,_,e=>by cases e
 |.exc _::_,_,_,_,e=>by cases e
 |.bf _ _::_,_,_,_,e=>by cases e
def Res.of_ok{α:Type}{o:Option α}{a:α}(h:Res.of o=.ok a):o=some a:=by
 cases o with
 |none=>cases h
 |some b=>cases h;rfl
def Ky(hK:W.K=X.K)(hu:X.A.units+64<cLine):iz X (compareOp .Lt) (vv W sC):=by
 intro ae s σ H x y v u Q I rx ry h;obtain⟨H0,G,p,q,r,sg,t1,t2,e,wq⟩:=h
 unfold sC at e;split at e
 ·cases e;exact OL ae s σ H x y v u Q I rx ry ⟨_,_,t1.int,t2.int,wq.at sg .b⟩
 ·cases e
def J9:iz X (compareOp .LtE) (vv W tX):=by
 intro ae s σ H x y v u Q I rx ry h;obtain⟨H0,G,p,q,r,sg,t1,t2,e,wq⟩:=h
 unfold tX at e;split at e
 ·cases e;exact NM ae s σ H x y v u Q I rx ry ⟨_,_,t1.int,t2.int,wq.at sg .b⟩
 ·cases e
def LF:iz X (compareOp .Gt) (vv W vi):=by
 intro ae s σ H x y v u Q I rx ry h;obtain⟨H0,G,p,q,r,sg,t1,t2,e,wq⟩:=h
 unfold vi at e;split at e
 ·cases e;exact Pd ae s σ H x y v u Q I rx ry ⟨_,_,t1.int,t2.int,wq.at sg .b⟩
 ·cases e
def pT{H0 G H:Hp}{p:PV}{x:V}(sg:aA G H)(t:Top W H0 G H p x):decide (x=.aD)=DN p:=by
 cases p with
 |aD=>cases t.aD;rfl
 |bl b=>cases t.bl;rfl
 |int b=>cases t.int;rfl
 |str b=>cases t.str;rfl
 |tup b=>obtain⟨a,vs,rfl,_⟩:=t.tup sg;rfl
 |lst b=>obtain⟨a,vs,rfl,_⟩:=t.lst sg;rfl
 |bf b c=>obtain⟨a,vs,rfl,_⟩:=t.bf sg;rfl
 |exc c=>
  rcases t with t|t
  ·simp! [Rep] at t;obtain⟨a,C,rfl,_⟩:=t
   rfl
  ·exact t.elim
def KG:iz X (compareOp .Is) (vv W i4):=by
 intro ae s σ H x y v u Q I rx ry h;obtain⟨H0,G,p,q,r,sg,t1,t2,e,wq⟩:=h
 unfold i4 at e;split at e
 ·cases e;refine K1 ae s σ H x y v u Q I rx ry ⟨t2.aD,?_⟩;rw [pT sg t1];exact wq.at sg .b
 ·cases e
def Gi:iz X (compareOp .IsNot) (vv W f6):=by
 intro ae s σ H x y v u Q I rx ry h;obtain⟨H0,G,p,q,r,sg,t1,t2,e,wq⟩:=h
 unfold f6 at e;split at e
 ·cases e;refine Gr ae s σ H x y v u Q I rx ry ⟨t2.aD,?_⟩;rw [pT sg t1];exact wq.at sg .b
 ·cases e
variable{H0 G H:Hp}
def lE{ae:List (Addr×Obj)}{σ:St}{s:Shared}(I:Inv X ae σ H s)(hK:W.K=X.K)(sg:aA G H){A:Around}{a:PV}{x:V}{x':Value}{ys:List PV}{us:List V}{ay:List Value}(hu:A.units+32<cLine)(ha:uF a=true)(hy:ys.all uF=true)(ta:Top W H0 G H a x)(rx:RelV x x')(l:aq W G ys us)(r:Vals us ay):
 ∃e:Value->Bool,(∀y∈ay,SeqAt.EqAt A s y x' (e y))/\∀(j:Nat) (y:Value) (p:PV),ay[j]?=some y->ys[j]?=some p->e y=eqv p a:=by
 classical
 have key:∀(j:Nat) (y:Value),ay[j]?=some y->∃p u,ys[j]?=some p/\us[j]?=some u/\Rep W G p u/\RelV u y/\uF p=true:=λj y e=>by
  have hj:=(zzH.mp e).1
  have hl:=r.length
  obtain⟨u,HN,IV⟩:=r.get (i:=j) (x:=us[j]'(by omega)) (zzg (by omega))
  rw [e] at HN;cases HN;obtain⟨p,hp,kp⟩:=l.get (zzg (show j<us.length by omega))
  exact⟨p,_,hp,zzg (by omega),kp,IV,zzT.mp hy p (zzD hp)⟩
 refine⟨λy=>if h:∃(j:Nat) (p:PV),ay[j]?=some y/\ys[j]?=some p then eqv h.choose_spec.choose a else false,λy Mh=>?_,λj y p e1 e2=>?_⟩
 ·obtain⟨j,hj,e⟩:=List.getElem_of_mem Mh
  have ej:ay[j]?=some y:=by rw [zzg hj,e]
  obtain⟨p,u,h1,h2,h3,h4,h5⟩:=key j y ej
  have hex:∃(j:Nat) (p:PV),ay[j]?=some y/\ys[j]?=some p:=⟨j,p,ej,h1⟩
  dsimp only;rw [dif_pos hex];have sp:=hex.choose_spec.choose_spec
  obtain⟨p2,u2,g1,g2,g3,g4,g5⟩:=key _ y sp.1
  have e3:hex.choose_spec.choose=p2:=zzq (sp.2.symm.trans g1)
  rw [e3];exact Bp (H0:=H0) I hK sg 9 (by omega) g5 ha (.inl g3) ta g4 rx
 ·have hex:∃(j:Nat) (p:PV),ay[j]?=some y/\ys[j]?=some p:=⟨j,p,e1,e2⟩
  dsimp only;rw [dif_pos hex];obtain⟨p1,u1,f1,f2,f3,f4,f5⟩:=key j y e1
  rw [e2] at f1;cases f1;have sp:=hex.choose_spec.choose_spec
  obtain⟨p2,u2,g1,g2,g3,g4,g5⟩:=key _ y sp.1
  have e3:hex.choose_spec.choose=p2:=zzq (sp.2.symm.trans g1)
  have e4:u1=u2:=f4.inj g4
  subst e4;rw [e3,xM I hK sg DP g5 f5 (.inl g3:Top W H0 G H p2 u1) (.inl f3)]
def DS{ay:List Value}{ys:List PV}{e:Value->Bool}{f:PV->Bool}:ay.length=ys.length->(∀(j:Nat) (y:Value) (p:PV),ay[j]?=some y->ys[j]?=some p->e y=f p)->ay.any e=ys.any f:=by
 intro hl h;have:ay.map e=ys.map f:=g9 (by simpa using hl) λj x y hx hy=>by
  rw [zzQ] at hx hy;obtain⟨a,ha,rfl⟩:=zzJ.mp hx
  obtain⟨b,hb,rfl⟩:=zzJ.mp hy
  exact h j a b ha hb
 calc ay.any e=(ay.map e).any id:=by rw [List.any_map];rfl
  _=(ys.map f).any id:=by rw [this]
  _=ys.any f:=by rw [List.any_map];rfl
def Dw{ay:List Value}{ys:List PV}{e:Value->Bool}{f:PV->Bool}:ay.length=ys.length->(∀(j:Nat) (y:Value) (p:PV),ay[j]?=some y->ys[j]?=some p->e y=f p)->ay.countP e=ys.countP f:=by
 intro hl h;have:ay.map e=ys.map f:=g9 (by simpa using hl) λj x y hx hy=>by
  rw [zzQ] at hx hy;obtain⟨a,ha,rfl⟩:=zzJ.mp hx
  obtain⟨b,hb,rfl⟩:=zzJ.mp hy
  exact h j a b ha hb
 calc ay.countP e=(ay.map e).countP id:=by rw [List.countP_map];rfl
  _=(ys.map f).countP id:=by rw [this]
  _=ys.countP f:=by rw [List.countP_map];rfl
def KQ(hK:W.K=X.K)(hu:X.A.units+64<cLine):iz X (compareOp .In) (vv W oj):=by
 intro ae s σ H x y v u Q I rx ry h;obtain⟨H0,G,p,q,r,sg,t1,t2,e,wq⟩:=h
 have HN:X.A.in1.units+32<cLine:=by show X.A.units+1+32<_;omega
 unfold oj at e;split at e
 ·split at e
  ·rename_i hc;rw [zza] at hc;cases e;obtain⟨b,us,rfl,q2,l2⟩:=t2.lst sg
   cases ry;obtain⟨ay,rv,z,_⟩:=I.list (rP hK q2)
   obtain⟨e,he,hv⟩:=lE I hK sg HN hc.1 hc.2 t1 rx l2 rv
   refine SeqAt.in_listAt e z.isList (λy hy=>he y (by simpa using hy)) ?_
   have:=DS (by rw [<-rv.length,l2.length]) hv
   rw [List.any_toArray,this];exact oy I sg wq
  ·cases e
 ·obtain⟨k,hk,e⟩:=Res.bp e
  cases e;have hk:=hZ (Res.of_ok hk)
  subst hk;obtain⟨b,rfl,hb⟩:=t1.tupI (ns:=k) sg rfl
  obtain⟨a,us,rfl,n,hd,l⟩:=t2.bf sg
  cases ry;refine Sm (show X.A.units+1<cLine by omega) I (.inr ⟨_,ki k,b,hd,rfl,(by rw [qM];exact sg _ _ hb),rfl⟩) rx λs' I'=>?_
  rw [kl,lV k _ us n];exact oy I' sg wq
 ·cases e
def GP(hK:W.K=X.K)(hu:X.A.units+64<cLine):iz X (compareOp .NotIn) (vv W f7):=by
 intro ae s σ H x y v u Q I rx ry h;obtain⟨H0,G,p,q,r,sg,t1,t2,e,wq⟩:=h
 have HN:X.A.in1.units+32<cLine:=by show X.A.units+1+32<_;omega
 unfold f7 at e;split at e
 ·split at e
  ·rename_i hc;rw [zza] at hc;cases e;obtain⟨b,us,rfl,q2,l2⟩:=t2.lst sg
   cases ry;obtain⟨ay,rv,z,_⟩:=I.list (rP hK q2)
   obtain⟨e,he,hv⟩:=lE I hK sg HN hc.1 hc.2 t1 rx l2 rv
   refine SeqAt.notIn_listAt e z.isList (λy hy=>he y (by simpa using hy)) ?_
   have:=DS (by rw [<-rv.length,l2.length]) hv
   rw [List.any_toArray,this];exact oy I sg wq
  ·cases e
 ·obtain⟨k,hk,e⟩:=Res.bp e
  cases e;have hk:=hZ (Res.of_ok hk)
  subst hk;obtain⟨b,rfl,hb⟩:=t1.tupI (ns:=k) sg rfl
  obtain⟨a,us,rfl,n,hd,l⟩:=t2.bf sg
  cases ry;refine Gz (show X.A.units+1<cLine by omega) I (.inr ⟨_,ki k,b,hd,rfl,(by rw [qM];exact sg _ _ hb),rfl⟩) rx λs' I'=>?_
  rw [kl,lV k _ us n];exact oy I' sg wq
 ·cases e
theorem ic(hK:W.K=X.K)(hu:X.A.units+64<cLine):∀o:A4,iz X (compareOp (rM o)) (vv W (dN o))
 |.eq=>JF hK hu|.ne=>KZ hK hu|.lt=>Ky hK hu|.le=>J9|.gt=>LF|.is=>KG|.A6=>Gi|.Ax=>KQ hK hu|.lJ=>GP hK hu
def yg{ps:List PV}{vs:List V}{i:Int}{p:PV}(l:aq W G ps vs)(h:rC ps i=some p):∃v,rC vs i=some v/\Rep W G p v:=by
 unfold rC at h⊢;rw [l.length];cases e:HA ps.length i with
 |none=>rw [e] at h;cases h
 |some j=>
  rw [e] at h;exact l.nZ h
def L8(hu:X.A.units+1<cLine):M9 X (λx y H Q=>∃a aw k b v,x=.ref a/\Rd H a (.dT aw)/\y=.ref b/\H b=some (.tup (k.map kV))/\ip aw k=some v/\Q v H):=by
 intro value slice ae s σ H x y v u Q I rx ry h hs;obtain⟨a,aw,k,b,z,rfl,hd,rfl,hb,hv,q⟩:=h
 cases rx;cases ry;obtain⟨_,_,xs,rel,dd⟩:=kD I.aJ hd
 obtain⟨w',hw,iC⟩:=kS.some_of (v:=z) (o:=(atKey xs k).map (·.2)) (by rw [<-hv];exact rel.val k)
 obtain⟨p,hp,hp2⟩:=zzJ.mp hw
 exact PyProof.Rows.subscriptTail_builtinR (x:=w') dd.typeIs PySem.F.slot_dict_getitem.lookup (wpAny_getItem_heap (Q:=λr s'=>r=w'/\EP X ae σ Q r s') (tupleKind_room_in1 hu) (gH I.aJ hb) dd hp ⟨hp2,by rw [hp2];exact⟨z,H,I.tok _,iC,q⟩⟩) hs
def Rw(hK:W.K=X.K)(hu:X.A.units+64<cLine):M9 X (vv W aG):=by
 intro value slice ae s σ H x y v u Q I rx ry h hs;obtain⟨H0,G,p,q,r,sg,t1,t2,e,wq⟩:=h
 unfold aG at e;split at e
 ·obtain⟨a,vs,rfl,h1,l1⟩:=t1.lst sg
  obtain⟨w,hw,kw⟩:=yg l1 (Res.of_ok e)
  exact E3 value slice ae s σ H _ y v u Q I rx ry ⟨a,vs,_,w,rfl,t2.int,rP hK h1,hw,wq.at sg kw⟩ hs
 ·obtain⟨a,vs,rfl,h1,l1⟩:=t1.tup sg
  rw [hK] at h1;obtain⟨w,hw,kw⟩:=yg l1 (Res.of_ok e)
  exact CG value slice ae s σ H _ y v u Q I rx ry ⟨a,vs,_,w,rfl,t2.int,h1,hw,wq.at sg kw⟩ hs
 ·split at e
  ·rename_i hl;obtain⟨c,hc,e⟩:=Res.bp e
   cases e;exact LQ value slice ae s σ H x y v u Q I rx ry ⟨_,_,c,t1.str,t2.int,qj hl,Res.of_ok hc,wq.at sg .s⟩ hs
  ·cases e
 ·obtain⟨k,hk,e2⟩:=Res.bp e
  have hk:=hZ (Res.of_ok hk)
  subst hk;obtain⟨b,rfl,hb⟩:=t2.tupI (ns:=k) sg rfl
  obtain⟨a,us,rfl,n,hd,l⟩:=t1.bf sg
  obtain⟨w,hw,kw⟩:=qi l (Res.of_ok e2)
  exact L8 (by omega) value slice ae s σ H _ _ v u Q I rx ry ⟨a,_,ki k,b,w,rfl,hd,rfl,(by rw [qM];exact sg _ _ hb),(by rw [kl];exact hw),wq.at sg kw⟩ hs
 ·cases e
def Gn{ps:List PV}{vs:List V}(lo hi:Option Int)(l:aq W G ps vs):aq W G (DE ps lo hi) (zF vs lo hi):=by
 unfold DE zF;rw [l.length];exact(l.drop _).take _
def QZ(hK:W.K=X.K):L2.HD X (λx lo hi H Q=>∃H0 G p r,aA G H/\Top W H0 G H p x/\hX p lo hi=.ok r/\dj W G H r Q):=by
 intro ae s σ H x v vl vu lo hi sl Q I rx hs pl pu h;obtain⟨H0,G,p,r,sg,t1,e,wq⟩:=h
 unfold hX at e;split at e
 ·cases e;obtain⟨a,vs,rfl,h1,l1⟩:=t1.lst sg
  exact GJ ae s σ H _ v vl vu _ _ sl Q I rx hs pl pu ⟨a,vs,rfl,rP hK h1,λp hp=>wq.lst sg (Gn _ _ l1) hp⟩
 ·cases e
def Ap(W:Wd)(f:List PV->Res PV):List V->Hp->VK->Prop:=λvs H Q=>∃H0 G ps r,aA G H/\Paired (λv p=>Top W H0 G H p v) vs ps/\f ps=.ok r/\dj W G H r Q
def gF{H0 G H:Hp}{vs:List V}{p:PV}(h:Paired (λv p=>Top W H0 G H p v) vs [p]):∃v,vs=[v]/\Top W H0 G H p v:=by
 cases h with
 |cons h t=>cases t;exact⟨_,rfl,h⟩
def DR{H0 G H:Hp}{vs:List V}{p q:PV}(h:Paired (λv p=>Top W H0 G H p v) vs [p,q]):∃v u,vs=[v,u]/\Top W H0 G H p v/\Top W H0 G H q u:=by
 cases h with
 |cons h t=>
  cases t with
  |cons h2 t2=>cases t2;exact⟨_,_,rfl,h,h2⟩
def yu(hK:W.K=X.K):cF X (.builtin "len") (Ap W vm):=by
 intro ae s σ H xs us Q I r h;obtain⟨H0,G,ps,rr,sg,tp,e,wq⟩:=h
 unfold vm at e;split at e
 ·cases e;obtain⟨v,rfl,t⟩:=gF tp
  obtain⟨a,vs,rfl,h1,l1⟩:=t.lst sg
  exact jy ae s σ H _ us Q I r ⟨a,vs,rfl,.inl (rP hK h1),by rw [l1.length];exact wq.at sg .i⟩
 ·cases e;obtain⟨v,rfl,t⟩:=gF tp
  obtain⟨a,vs,rfl,h1,l1⟩:=t.tup sg
  rw [hK] at h1;exact jy ae s σ H _ us Q I r ⟨a,vs,rfl,.inr h1,by rw [l1.length];exact wq.at sg .i⟩
 ·split at e
  ·rename_i hl;cases e;obtain⟨v,rfl,t⟩:=gF tp
   exact qC ae s σ H _ us Q I r ⟨_,by rw [t.str],qj hl,wq.at sg .i⟩
  ·cases e
 ·cases e;obtain⟨v,rfl,t⟩:=gF tp
  obtain⟨a,us',rfl,n,hd,l⟩:=t.bf sg
  obtain⟨u,rfl,ru⟩:=vals1 r
  cases ru;exact JN I hd λt s' I'=>⟨.int _,H,I',⟨t,rfl⟩,by rw [fu n];exact wq.at sg .i⟩
 ·cases e
def za:cF X (.builtin "abs") (Ap W CT):=by
 intro ae s σ H xs us Q I r h;obtain⟨H0,G,ps,rr,sg,tp,e,wq⟩:=h
 unfold CT at e;split at e
 ·cases e;obtain⟨v,rfl,t⟩:=gF tp
  exact Dx ae s σ H _ us Q I r ⟨_,by rw [t.int],wq.at sg .i⟩
 ·cases e
def zZ(hc:X.calm=true):cF X (.builtin "max") (Ap W Bw):=by
 intro ae s σ H xs us Q I r h;obtain⟨H0,G,ps,rr,sg,tp,e,wq⟩:=h
 unfold Bw at e;split at e
 ·cases e;obtain⟨v,u,rfl,t,t2⟩:=DR tp
  exact ym hc ae s σ H _ us Q I r ⟨_,_,by rw [t.int,t2.int],wq.at sg .i⟩
 ·cases e
def zi:cF X (.type "int") (Ap W Bt):=by
 intro ae s σ H xs us Q I r h;obtain⟨H0,G,ps,rr,sg,tp,e,wq⟩:=h
 unfold Bt at e;split at e
 ·split at e
  ·rename_i hl;obtain⟨n,hn,e⟩:=Res.bp e
   cases e;obtain⟨v,rfl,t⟩:=gF tp
   exact qI ae s σ H _ us Q I r ⟨_,n,by rw [t.str],Res.of_ok hn,hl,wq.at sg .i⟩
  ·cases e
 ·cases e
def zU:cF X (.type "str") (Ap W Cs):=by
 intro ae s σ H xs us Q I r h;obtain⟨H0,G,ps,rr,sg,tp,e,wq⟩:=h
 unfold Cs at e;split at e
 ·split at e
  ·rename_i hl;cases e;obtain⟨v,rfl,t⟩:=gF tp
   exact qo ae s σ H _ us Q I r ⟨_,by rw [t.int],hl,wq.at sg .s⟩
  ·cases e
 ·cases e
def uk(hK:W.K=X.K):cF X (.type "tuple") (Ap W me):=by
 intro ae s σ H xs us Q I r h;obtain⟨H0,G,ps,rr,sg,tp,e,wq⟩:=h
 unfold me at e;split at e
 ·cases e;obtain⟨v,rfl,t⟩:=gF tp
  obtain⟨a,vs,rfl,h1,l1⟩:=t.lst sg
  exact oh ae s σ H _ us Q I r ⟨a,vs,rfl,.inl ⟨rP hK h1,λp hp=>wq.tup sg l1 hp⟩⟩
 ·cases e
def SE(W:Wd)(f:List PV->Res PV):V->List V->Hp->VK->Prop:=λx vs H Q=>Ap W f (x::vs) H Q
def uW(hK:W.K=X.K)(hu:X.A.units+64<cLine):P0 X "list.count" (SE W i7):=by
 intro ae s σ H x xs v us Q I rx r h;obtain⟨H0,G,ps,rr,sg,tp,e,wq⟩:=h
 unfold i7 at e;split at e
 ·split at e
  ·rename_i hc;rw [zza] at hc;cases e;obtain⟨v1,u1,e1,t,t2⟩:=DR tp
   cases e1;obtain⟨a,vs,rfl,h1,l1⟩:=t.lst sg
   cases rx;obtain⟨u,rfl,ru⟩:=Vals.one r
   obtain⟨ay,n,rv,hl,_,e⟩:=El hK I h1
   obtain⟨f,he,hv⟩:=lE (A:=X.A.in1) I hK sg (by show X.A.units+1+32<_;omega) hc.1 hc.2 t2 ru l1 rv
   refine PySem.call_meets PySem.F.slot_list_count ⟨_,e,rfl⟩ PySem.F.entry_list_count (PySem.F.args_list_count_2 _ _) (SeqAt.list_countAt a ay.toArray n none #[] u f) ⟨e,λy hy=>he y (by simpa using hy),?_⟩
   refine⟨.int _,H,I.tok _,⟨_,rfl⟩,?_⟩;rw [Dw (by rw [<-hl,l1.length]) hv];exact wq.at sg .i
  ·cases e
 ·cases e
def zm(hK:W.K=X.K)(hu:X.A.units+64<cLine):P0 X "list.index" (SE W nE):=by
 intro ae s σ H x xs v us Q I rx r h;obtain⟨H0,G,ps,rr,sg,tp,e,wq⟩:=h
 unfold nE at e;split at e
 ·rename_i ys w;split at e
  ·rename_i hc;rw [zza,zza] at hc;split at e
   ·rename_i j hj;cases e;obtain⟨v1,u1,e1,t,t2⟩:=DR tp
    cases e1;obtain⟨a,vs,rfl,h1,l1⟩:=t.lst sg
    cases rx;obtain⟨u,rfl,ru⟩:=Vals.one r
    obtain⟨ay,n,rv,hl,_,e⟩:=El hK I h1
    have hlen:ay.length=ys.length:=by rw [<-hl,l1.length]
    have UI:ys.length<1000:=zzY hc.2
    obtain⟨f,he,hv⟩:=lE (A:=X.A.in1) I hK sg (by show X.A.units+1+32<_;omega) hc.1.1 hc.1.2 t2 ru l1 rv
    rw [List.findIdx?_eq_some_iff_getElem] at hj;obtain⟨bS,hyes,hno⟩:=hj
    refine PySem.call_meets PySem.F.slot_list_index ⟨_,e,rfl⟩ PySem.F.entry_list_index (PySem.F.args_list_index_2 _ _) (SeqAt.list_indexAt a ay.toArray n none #[] u f j (by simpa using (by omega:j<ay.length)) (by omega) ?_ λm MC NR=>?_) ⟨e,λy hy=>he y (by simpa using hy),⟨.int _,H,I.tok _,⟨_,rfl⟩,wq.at sg .i⟩⟩
    ·have:=hv j (ay[j]'(by omega)) ys[j] (zzg (by omega)) (zzg bS)
     simpa using this.trans hyes
    ·have hm:m<ys.length:=by omega
     have:=hv m (ay[m]'(by omega)) ys[m] (zzg (by omega)) (zzg hm)
     have z:=hno m NR
     simp! [Bool.not_eq_true] at z
     simpa using this.trans z
   ·cases e
  ·cases e
 ·cases e
def uP:Ty->String
 |.int=>"int"|.bool=>"bool"|.tuple=>"tuple"|.list=>"list"
def O7{K:zz8}(t:Ty):Cw.D7 K "NoneType" (uP t) false/\(∀b,Cw.D7 K "bool" (uP t) (iG t (.bl b)))/\(∀i,Cw.D7 K "int" (uP t) (iG t (.int i)))/\(∀z,Cw.D7 K "str" (uP t) (iG t (.str z)))/\(∀z,Cw.D7 K "tuple" (uP t) (iG t (.tup z)))/\(∀z,Cw.D7 K "list" (uP t) (iG t (.lst z))):=by
 cases t
 all_goals refine⟨?_,λb=>?_,λb=>?_,λb=>?_,λb=>?_,λb=>?_⟩
 all_goals first
  |exact Cw.AQ _
  |exact Cw.Di (b:=false) (by decide+kernel) (by decide+kernel) (by decide+kernel)
  |exact Cw.Di (b:=true) (by decide+kernel) (by decide+kernel) (by decide+kernel)
def Bc(hK:W.K=X.K)(t:Ty):cF X (.builtin "isinstance") (λxs H Q=>∃v H0 G p r,xs=[v,.ty (uP t)]/\aA G H/\Top W H0 G H p v/\k9 t p=.ok r/\dj W G H r Q):=by
 intro ae s σ H xs us Q I rr h;obtain⟨v,H0,G,p,r,rfl,sg,tp,e,wq⟩:=h
 obtain⟨u,u2,rfl,ru,ru2⟩:=Vals.two rr
 cases ru2;obtain⟨k1,k2,k3,k4,k5,k6⟩:=O7 (K:=X.K) t
 cases p with
 |exc c=>cases e
 |bf a b=>cases e
 |aD=>cases e;cases tp.aD;cases ru;cases t<;>exact PySem.W.kia_one PySem.W.kitx_none I.pP True.intro k1 (λz=>nomatch z) λtk=>⟨.bl _,H,I.tok tk,rfl,wq.at sg .b⟩
 |bl b=>cases e;cases tp.bl;cases ru;exact PySem.W.kia_one PySem.W.kitx_bool I.pP True.intro (k2 b) (λz=>nomatch z) λtk=>⟨.bl _,H,I.tok tk,rfl,wq.at sg .b⟩
 |int b=>cases e;cases tp.int;obtain⟨t1,rfl⟩:=ru;exact PySem.W.kia_one PySem.W.kitx_int I.pP True.intro (k3 b) (λz=>nomatch z) λtk=>⟨.bl _,H,I.tok tk,rfl,wq.at sg .b⟩
 |str b=>cases e;cases tp.str;obtain⟨t1,rfl⟩:=ru;exact PySem.W.kia_one PySem.W.kitx_str I.pP True.intro (k4 b) (λz=>nomatch z) λtk=>⟨.bl _,H,I.tok tk,rfl,wq.at sg .b⟩
 |tup b=>
  cases e;obtain⟨a,vs,rfl,h1,l1⟩:=tp.tup sg
  rw [hK] at h1;cases ru;obtain⟨ay,_,⟨o,e1,e2,_⟩,_⟩:=I.tuple h1
  exact PySem.W.kia_one PySem.W.kitx_tuple I.pP ⟨o,e1,e2⟩ (k5 b) (λz=>nomatch z) λtk=>⟨.bl _,H,I.tok tk,rfl,wq.at sg .b⟩
 |lst b=>
  cases e;obtain⟨a,vs,rfl,h1,l1⟩:=tp.lst sg
  cases ru;obtain⟨ay,n,_,_,_,e1⟩:=El hK I h1
  exact PySem.W.kia_one PySem.W.kitx_list I.pP ⟨_,e1,rfl⟩ (k6 b) (λz=>nomatch z) λtk=>⟨.bl _,H,I.tok tk,rfl,wq.at sg .b⟩
theorem w9{k:List Int}{v:V}(h:Rep W G (ah k) v):∃b,v=.ref b/\G b=some (.tup (k.map V.int)):=Top.tupI (H0:=G) (aA.refl G) rfl (.inl h)
def xn{ps:List PV}{vs:List V}{nss:List (List Int)}(l:aq W G ps vs):aq W G (i8 .aD ps nss) (i8 V.aD vs nss):=by
 unfold i8;rw [l.length];split
 ·exact l
 ·have go:∀ix:List Nat,aq W G (ix.map λi=>ps.getD i .aD) (ix.map λi=>vs.getD i V.aD):=by
   intro ix
   induction ix with
   |nil=>exact .nil
   |cons i ix ih=>
    refine .cons ?_ ih;dsimp only
    by_cases hi:i<ps.length
    ·obtain⟨v,hv,rv⟩:=l.nZ (zzg hi)
     have e1:ps.getD i .aD=ps[i]:=by simp [hi]
     have e2:vs.getD i V.aD=v:=by simp [hv]
     rw [e1,e2];exact rv
    ·have e1:ps.getD i .aD=.aD:=by simp [Nat.le_of_not_lt hi]
     have e2:vs.getD i V.aD=.aD:=by simp [Nat.le_of_not_lt (l.length▸hi)]
     rw [e1,e2];exact .n
  exact go _
theorem fF:∀{vs:List V} {nss:List (List Int)} {G:Hp},aA G H->Paired (λv ns=>∃b,v=V.ref b/\H b=some (.tup (ns.map V.int))) vs nss->∃G',aC W G H G' H/\aq W G' (nss.map ah) vs
 |_,_,G,sg,.nil=>⟨G,.refl sg,.nil⟩
 |_,_,G,sg,.cons (b:=ns) h t=>by
  obtain⟨b,rfl,hb⟩:=h
  have g1:=aC.adopt (W:=W) sg hb
  obtain⟨G2,g2,l⟩:=fF g1.sub t
  refine⟨G2,g1.trans g2,.cons (Rep.same g2.g _ ?_) l⟩;refine .t (.inl ak) ?_;have go:∀ns:List Int,aq W (upd G b (.tup (ns.map V.int))) (ns.map .int) (ns.map V.int)/\True:=λ_=>⟨by
   rename_i iu;have all:∀(G':Hp) (l:List Int),aq W G' (l.map .int) (l.map V.int):=λG' l=>by
    induction l with
    |nil=>exact .nil
    |cons x l ih=>exact .cons .i ih
   exact all _ _,trivial⟩
  exact(go ns).1
def qf(hK:W.K=X.K)(hc:X.calm=true):cF X (.builtin "sorted") (Ap W jn):=by
 intro ae s σ H xs us Q I r h;obtain⟨H0,G,ps,rr,sg,tp,e,wq⟩:=h
 unfold jn at e;split at e
 ·split at e
  ·rename_i ks rh hb;rw [zza,zzN] at hb;cases e;obtain⟨v,rfl,t⟩:=gF tp
   obtain⟨a,us',rfl,n,hd,l⟩:=t.bf sg
   refine qg hc ae s σ H _ us Q I r ⟨a,_,ks,rfl,hd,lC n,λns hm z=>?_,by rw [fu n];exact hb.1,λp vs hp pv=>?_⟩
   ·have:=zzT.mp hb.2 ns hm
    rw [z] at this;exact absurd this (by decide)
   ·obtain⟨G1,g1,l1⟩:=fF (W:=W) sg pv
    exact wq _ _ _ (g1.trans (.new g1.sub hp)) (.l (.inl (.inl ak)) (aq.same (bz (g1.sub.free hp)) _ (xn l1)))
  ·cases e
 ·cases e
def ui(hK:W.K=X.K)(hc:X.calm=true):cF X (.type "list") (Ap W mQ):=by
 intro ae s σ H xs us Q I r h;obtain⟨H0,G,ps,rr,sg,tp,e,wq⟩:=h
 unfold mQ at e;split at e
 ·split at e
  ·rename_i ks rh hb;cases e;obtain⟨v,rfl,t⟩:=gF tp
   obtain⟨a,us',rfl,n,hd,l⟩:=t.bf sg
   refine vZ hc ae s σ H _ us Q I r ⟨a,_,ks,rfl,hd,lC n,by rw [fu n];exact zzU hb (by decide),λp vs hp pv=>?_⟩
   obtain⟨G1,g1,l1⟩:=fF (W:=W) sg pv
   exact wq _ _ _ (g1.trans (.new g1.sub hp)) (.l (.inl (.inl ak)) (aq.same (bz (g1.sub.free hp)) _ l1))
  ·cases e
 ·cases e
theorem Dd{K:zz8}(hK:W.K=K)(sg:aA G H):∀{xs:List PV} {ps:List (List Int×PV)} {vs:List V},uQ xs=some ps->aq W G xs vs->∃us,aq W G (ps.map (·.2)) us/\iA K H vs ((ps.map λp=>ki p.1).zip us)
 |[],_,_,e,l=>by cases e;simp! [aq] at l;subst l;exact⟨[],.nil,.nil⟩
 |x::xs,ps,vs,e,l=>by
  obtain⟨v,vr,rfl,h1,h2⟩:=l.cB
  unfold uQ at e;split at e
  ·rename_i heq;cases heq
  ·rename_i heq;cases heq;obtain⟨k,hk,e⟩:=zzZ.mp e
   obtain⟨r,hr,rfl⟩:=zzJ.mp e
   obtain⟨us,l2,p2⟩:=Dd hK sg hr h2
   simp! [Rep] at h1;obtain⟨q,ws,rfl,tq,lq⟩:=h1
   obtain⟨w1,wr,rfl,k1,lq⟩:=lq.cB
   obtain⟨w2,wr2,rfl,k2,lq⟩:=lq.cB
   simp! [aq] at lq;subst lq;rw [hZ hk] at k1;obtain⟨b,rfl,hb⟩:=w9 k1
   refine⟨w2::us,.cons k2 l2,.cons ⟨q,b,rfl,?_,by rw [qM];exact sg _ _ hb⟩ p2⟩;rw [<-hK];exact aA.tup sg tq.sq
  ·cases e
theorem pV:∀(ps:List (List Int×PV)) {us:List V} {ks:List (List Int)} {qs:List PV} {ws:List V},aq W G (ps.map (·.2)) us->ks.length=ws.length->aq W G qs ws->∃zs,(eL ps ks qs).1.length=zs.length/\aq W G (eL ps ks qs).2 zs/\eR (kz ks ws) ((ps.map λp=>ki p.1).zip us)=kz (eL ps ks qs).1 zs
 |[],us,ks,qs,ws,_,n,l=>⟨ws,n,l,rfl⟩
 |p::ps,us,ks,qs,ws,lu,n,l=>by
  obtain⟨u,ur,rfl,h1,h2⟩:=lu.cB
  obtain⟨zs,z1,z2,z3⟩:=pV ps h2 (m6 n p.1 u) (pX (ks:=ks) (k:=p.1) l h1)
  refine⟨zs,z1,z2,?_⟩;show eR (putK (kz ks ws) (ki p.1) u) _=_
  rw [vk n];exact z3
def uu(hK:W.K=X.K){H0:Hp}{ps:List PV}{q:PV}{xs:List V}(sg:aA G H)(tp:Paired (λv p=>Top W H0 G H p v) xs ps)(e:iw ps=.ok q):∃ks qs,q=.bf ks qs/\∃a vs aw,xs=[V.ref a]/\gM X.K H a vs/\iA X.K H vs aw/\∃zs,ks.length=zs.length/\aq W G qs zs/\eR [] aw=kz ks zs:=by
 unfold iw at e;split at e
 ·obtain⟨ps,hp,e⟩:=Res.bp e
  cases e;obtain⟨v,rfl,t⟩:=gF tp
  obtain⟨a,vs,rfl,h1,l1⟩:=t.lst sg
  obtain⟨ws,lw,pw⟩:=Dd hK sg (Res.of_ok hp) l1
  obtain⟨zs,z1,z2,z3⟩:=pV ps (ks:=[]) (qs:=[]) (ws:=[]) lw rfl .nil
  exact⟨_,_,rfl,a,vs,_,rfl,rP hK h1,pw,zs,z1,z2,z3⟩
 ·cases e
def sO(hK:W.K=X.K)(hc:X.calm=true)(hu:X.A.units+64<cLine):cF X (.type "dict") (Ap W iw):=by
 intro ae s σ H xs us Q I r h;obtain⟨H0,G,ps,rr,sg,tp,e,wq⟩:=h
 obtain⟨ks,qs,rfl,a,vs,aw,rfl,h1,pw,zs,z1,z2,z3⟩:=uu hK sg tp e
 refine vW hc (by omega) ae s σ H _ us Q I r ⟨a,vs,_,rfl,h1,pw,λp o hn=>?_⟩
 rw [z3];refine wq _ _ _ (.new sg hn) ?_;simp! [Rep];exact⟨p,o,zs,rfl,z1,ak,aq.same (bz (sg.free hn)) _ z2⟩
end
end Ci
namespace L2
open PySem PySem.Spec PyProof.Rows
section
variable{X:Cx}{scope:Scope}{xs ys:List Str}{is:List Nat}
theorem qW{i₀:Nat}{x₀:Str}{pos' gu:Pos}{elt tg iter Ko:Expr}{pos:Pos}{wi:TI}{g:TG}{te:TE}{tt:TT}(hN₀:X.N.Nodup)(hi₀:X.N[i₀]?=some x₀)(hx₀:Loc X.env.scope x₀)(hc:X.calm=true)(S:fq X scope xs ys is)(hi:PI X tg iter wi)
 (hg:∀fp s1 H1 C,PG (cC X (xs++ys) scope (bU X.env ys) fp s1 H1 C) tg g) (ht:∀fp s1 H1 C,PT (cC X (xs++ys) scope (bU X.env ys) fp s1 H1 C) Ko tt) (he:∀fp s1 H1 C,PE (cC X (xs++ys) scope (bU X.env ys) fp s1 H1 C) elt te)
 (yl:swapsWith (.ListComp elt [⟨tg,iter,[Ko],0⟩] scope pos) (some (.Name x₀ pos')) gu.line X.env=pure true:=by rfl)
 (hs:∀x,foldedSetIterable iter X.env x=pure x:=by intro _;rfl) (hf₀:X.fn x₀=true\/X.env.scope.names.lookup x₀=some .local:=by first|exact .inl rfl|exact .inr rfl|assumption):
 PS X (.Assign [.Name x₀ pos'] (.ListComp elt [⟨tg,iter,[Ko],0⟩] scope pos) gu) (CL (lW wi xs.length g tt te is) (gf i₀)):=by
 intro ae s σ H D₀ I h;rw [exec_Assign_Name_used _ _ _ _ yl];refine zzA (wpAny_standAt (zzA ?_));show wpAny _ X.A (do let _<-comprehension (.ListComp elt [⟨tg,iter,[Ko],0⟩] scope pos) scope X.env _ (newList []) false (eval iter X.env) (some (assign (.Name x₀ pos') X.env))) _ _ s;refine zzA (wpAny_mono (ik (QQ:=λ_ s'=>∃σ2 H2,Inv X ae σ2 H2 s'/\D₀.nx σ2 H2) (Q:=λv H4=>gf i₀ v σ H4 D₀.nx) hc S hi hg (λfp s1 H1 C=>wL (ht fp s1 H1 C)) he hs I h λD C s4 H4 m I5 hn ⟨g0,g1,_,g3,g4,g5⟩ q=>?_) (λ_ s' hq=>zzG (zzG hq)) λ_ _ e=>e)
 refine wpAny_assign_Name (kg I5 hN₀ hi₀ hx₀ (show RelV (.ref D) (.ref D) from rfl) (λs6 I6 ⟨a6,sb6,ha6⟩=>?_) hf₀);have DU:C≠a6:=by
  rcases ha6 with z|z
  ·rw [z];exact g1
  ·exact λz2=>g4 _ _ z z2.symm
 exact⟨m,hn.sameBut sb6 DU,λh' zT=>⟨_,_,I6.turned (t':=s6.toks) (it:=C) (λb o hb e=>zT.extBut b o hb e) g0 g1 g3 g4 g5,q⟩⟩
end
open PySem.AutoSeq1 (wpAny_loadPart')
section
variable{prog:Program}{w:World}{A:Around}{E:Value->Shared->Prop}{s:Shared}{jt tu:Addr}{i:Nat}{ay:Array Value}{Q:Value->Shared->Prop}
def kQ{x:Value}(ih:s.heap.IsTupleIter jt tu i)(th:s.heap.IsTuple tu ay)(hx:ay[i]?=some x)
 (k:∀g,g.IsTupleIter jt tu (i+1)->Heap.SameBut jt s.heap g->Q x {s with heap:=g}):wpAny (model prog w) A (Builtin.SmallTypes.nextOf (.ref jt)) Q E s:=by
 obtain⟨ob,e1,e2,e3⟩:=id ih
 obtain⟨ot,f1,_,nn,f2⟩:=th
 unfold Builtin.SmallTypes.nextOf;refine zzA (wpAny_callSpecial?_slot (name:=Str.ofString "__next__") ih.typeIs F.slot_tuple_iterator_next (wpAny_call_entry F.slot_tuple_iterator_next ih.typeIs F.entry_tuple_iterator_next ?_ (F.args_tuple_iterator_next_1 _)));show wpAny _ _ (field (.ref jt) 0>>=_) _ _ s;refine zzA (wpAny_field e1 e3 (x:=.ref tu) rfl ?_);show wpAny _ _ (if(Value.ref tu==Value.none)=true then _ else _) _ _ s;rw [if_neg (show¬((Value.ref tu==Value.none)=true) from zzf)];show wpAny _ _ (field (.ref jt) 1>>=_) _ _ s;refine zzA (wpAny_field e1 e3 (x:=.int i 0) rfl ?_);show wpAny _ _ (seqItems? (.ref tu)>>=_) _ _ s;refine zzA (wpAny_seqItems f1 f2 ?_);simp! [zz4,hx];refine zzA (wpAny_setField e1 e3 (by simp) (zzG ⟨x,rfl,zzG (k _ ?_ (zzu ..))⟩));exact⟨_,Heap.get?_update_self _ e1 (Obj.isFreed_of_fields (Obj.data_mapFields e3 _)),(Obj.cls_mapFields ..).trans e2,by rw [Obj.data_mapFields e3];simp [rawInt]⟩
def nJ(hh:A.handled=none)(ih:s.heap.IsTupleIter jt tu i)(th:s.heap.IsTuple tu ay)(hx:ay[i]?=none)
 (k:∀g e,Heap.ExtBut jt s.heap g->(∃o,g.get? e=some o/\o.cls=.type "StopIteration")->E (.ref e) {s with heap:=g}):wpAny (model prog w) A (Builtin.SmallTypes.nextOf (.ref jt)) Q E s:=by
 obtain⟨ob,e1,e2,e3⟩:=id ih
 obtain⟨ot,f1,_,nn,f2⟩:=th
 unfold Builtin.SmallTypes.nextOf;refine zzA (wpAny_callSpecial?_slot (name:=Str.ofString "__next__") ih.typeIs F.slot_tuple_iterator_next (wpAny_call_entry F.slot_tuple_iterator_next ih.typeIs F.entry_tuple_iterator_next ?_ (F.args_tuple_iterator_next_1 _)));show wpAny _ _ (field (.ref jt) 0>>=_) _ _ s;refine zzA (wpAny_field e1 e3 (x:=.ref tu) rfl ?_);show wpAny _ _ (if(Value.ref tu==Value.none)=true then _ else _) _ _ s;rw [if_neg (show¬((Value.ref tu==Value.none)=true) from zzf)];show wpAny _ _ (field (.ref jt) 1>>=_) _ _ s;refine zzA (wpAny_field e1 e3 (x:=.int i 0) rfl ?_);show wpAny _ _ (seqItems? (.ref tu)>>=_) _ _ s;refine zzA (wpAny_seqItems f1 f2 ?_);simp! [zz4,hx];refine zzA (wpAny_rule (zzA (wpAny_setField e1 e3 (by simp) ?_)));show wpAny _ _ (newExc (.type "StopIteration") []>>=_) _ _ _;refine zzA ?_;simp! [newExc,newTuple];refine zzA (wpAny_newObj_type ?_ (by size_fits));refine zzA (m:=firstArgMember _ _) (wpAny_of_eq (a:=Value.none) (by first|rfl|(simp! [firstArgMember];rfl)) ?_);refine wpAny_newObj_type ?_ (by size_fits);simp! [raiseNew];refine zzA (wpAny_handled ?_)
 first|rw [show A.in1.handled=none from hh]|rw [hh]
 refine zzA (zzG (wpAny_throw ?_));exact k _ _ (((zzu ..).extBut.push _).push _) ⟨_,zzX _ rfl,rfl⟩
end
theorem pO{prog:Program}{w:World}{A:Around}(hh:A.handled=none)(jt tu:Addr)(g8:tu≠jt)(ay:Array Value):
 Draws prog w A jt [jt,tu] ay.size (λi v=>ay[i]?=some v) (λi h=>h.IsTupleIter jt tu i/\h.IsTuple tu ay) where
 live:=λ_ _ st=>let⟨o,ho,_⟩:=st.1;⟨o,ho⟩
 frame:=λ_ _ _ st hk=>⟨st.1.at λo e=>hk jt (by simp) o e,by obtain⟨o,e,r⟩:=st.2;exact⟨o,hk tu (by simp) o e,r⟩⟩
 item:=λi s Q E hi st hQ=>kQ st.1 st.2 (x:=ay[i]) (by simp [hi]) λg ig sb=>hQ _ g s.toks (by simp [hi]) ⟨ig,by obtain⟨o,e,r⟩:=st.2;exact⟨o,sb.extBut _ _ g8 e,r⟩⟩ sb
 done:=λs Q E st hE=>nJ hh st.1 st.2 (by simp) hE
theorem zd(l:Addr)(items:Array Value)(n:Nat)(bf:Option Addr)(sl:Array (Option Value)):
 Meets (Builtin.«enumerate.__new__» ⟨[.type "enumerate",.ref l],[]⟩) (λ_ R s=>s.heap.get? l=some {cls:=.type "tuple",dict:=bf,data:=.seq items n,slots:=sl}/\
  R (.ok (.ret (.ref (s.heap.push {cls:=.type "tuple_iterator",data:=.fields #[.ref l,.int 0 0]}).objs.size)))
   {s with heap:=(s.heap.push {cls:=.type "tuple_iterator",data:=.fields #[.ref l,.int 0 0]}).push {cls:=.type "enumerate",data:=.fields #[.none,.bool false,.ref (zz9 s),rawInt 0,.none,.none]}}):=
 .of_wp λprog w A R s h=>by
  obtain⟨hp,g,d,tk,os⟩:=s
  obtain⟨hl,h⟩:=h
  have VY:=sub_enumerate
  have hL:Heap.IsTuple (Shared.heap ⟨hp,g,d,tk,os⟩) l items:=⟨_,hl,rfl,n,rfl⟩
  wp_walk using wpAny_loadPart' hl
  refine wpAny_stack_any λst=>zzG ?_
  split
  ·rename_i c _ _ _ _ _;cases(c==Value.type "enumerate")<;>(wp_walk using wpAny_loadPart' hl,wpAny_pyIter_tuple hL;exact⟨_,rfl,h⟩)
  ·wp_walk using wpAny_loadPart' hl,wpAny_pyIter_tuple hL
   exact⟨_,rfl,h⟩
def fT{h:Heap}{a b:Addr}{o1 o2:Obj}(h1:h.get? a=some o1)(h2:h.get? b=some o2)(hc:o1.cls≠o2.cls):a≠b:=λz=>by
 subst z;rw [h1] at h2;cases h2;exact hc rfl
def fe(z:Str):strIterType z="str_ascii_iterator"\/strIterType z="str_iterator":=by
 unfold strIterType;split
 ·exact .inl rfl
 ·exact .inr rfl
def kj{X:Cx}{ae:List (Addr×Obj)}{σ:St}{H:Hp}{s:Shared}{E:Value->Shared->Prop}{e it:Addr}{Tw:List Addr}{n i:Nat}{Pv:Nat->Value->Prop}{Sv:Nat->Heap->Prop}{old:Value}{Gx:V->Prop}{elts:List Expr}{x1:Nat}{pos:Pos}
 (I:Inv X ae σ H s) (D:Draws X.prog X.w X.A.in1 it Tw n Pv Sv) (he:IsEnum s.heap e it i old) (dG:Sv i s.heap) (bS:i<n) (g8:e≠it) (S8:e∉Tw) (hf:∀b∈[e,it],fE X ae H b) (hP:∀u,Pv i u->∃x,RelV x u/\Gx x):
 wpAny (model X.prog X.w) X.A (pyNext (.ref e)) (λr s1=>∃u,r=some u/\wpAny (model X.prog X.w) X.A (letOwnedTupleGo (.Tuple elts x1 pos) (.ref e) u) (λ_ s2=>∃x p,u=.ref p/\Gx x/\H p=none/\e≠p/\it≠p/\
  Inv X ae σ (upd H p (.tup [.int i,x])) s2/\(∃Rp,IsEnum s2.heap e it ((i:Int)+1) Rp)/\Sv (i+1) s2.heap) E s1) E s:=by
 refine wpAny_pyNext_enum_itemD D he dG bS g8 S8 λu h' tk pu ho iV ht hz kk=>?_
 obtain⟨x,rx,gx⟩:=hP u pu
 obtain⟨f0,f1,f2,f3,f4,f5⟩:=hf e (by simp)
 obtain⟨g0,g1,g2,g3,g4,g5⟩:=hf it (by simp)
 have F7:H (zz9 s)=none:=I.aJ.fresh (zzE _)
 obtain⟨oi,hoi⟩:=D.live _ _ dG
 have Vk:e≠(zz9 s):=zzb (zzO he)
 have Wz:it≠(zz9 s):=zzb (zzO hoi)
 have Hn:∀b o,H b=some o->b≠e/\b≠it/\b≠(zz9 s):=λb o q=>⟨(λz=>(by rw [z,f0] at q;cases q)),(λz=>(by rw [z,g0] at q;cases q)),zzb (I.aJ.lt q)⟩
 have I1:Inv X ae σ (upd H (zz9 s) (.tup [.int i,x])) {s with heap:=h',toks:=tk+1}:=by
  refine I.step (g':=s.gens) (d':=s.drawn) (ch:=[e,it]) (λb hb=>?_) (λb o _ _ hc q _=>kk b o (λz=>hc (by simp [z])) (λz=>hc (by simp [z])) q)
   (λb o _ _ hc q _=>⟨o.slots,kk b o (λz=>hc (by simp [z])) (λz=>hc (by simp [z])) q⟩) (λb o _ q nb=>by rw [af (zzb (zzO q))];exact nb)
   (λb o hc q=>⟨o,kk b o (λz=>hc (by simp [z])) (λz=>hc (by simp [z])) q⟩) (λb xs q=>by rw [af (Hn b _ q).2.2];exact q) (λb o u q=>by rw [af (Hn b _ q).2.2];exact q)
   (λb ps q=>⟨#[],by rw [af (Hn b _ q).2.2,q];simp⟩) (λm hm=>?_) (λb o q=>?_) I.bare
  ·rcases zzm.mp hb with z|z
   ·subst z;exact⟨f3,f1,f4,f5⟩
   ·rw [zzi.mp z];exact⟨g3,g1,g4,g5⟩
  ·obtain⟨o,es,ep,q,r⟩:=hm
   exact⟨o,es,ep,kk _ o (Ne.symm f1) (Ne.symm g1) q,r⟩
  ·by_cases hb:b=(zz9 s)
   ·subst hb;rw [ak] at q;cases q;exact⟨(show 2<=sizeLine by decide),[.int i tk,u],.cons ⟨tk,rfl⟩ (.cons rx .nil),⟨_,ht,rfl,_,rfl⟩⟩
   ·rw [af hb] at q;refine(I.aJ b o q).dY (λc v hc z=>kk c v ?_ ?_ z) (λc z=>by rw [af (Hn c _ z).2.2];exact z) λc xs z=>by rw [af (Hn c _ z).2.2];exact z
    ·rcases hc with z'|z'
     ·rw [z'];exact(Hn b o q).1
     ·exact(Hn c _ z').1
    ·rcases hc with z'|z'
     ·rw [z'];exact(Hn b o q).2.1
     ·exact(Hn c _ z').2.1
 refine⟨_,rfl,wpAny_letOwnedTupleGo_enum ho λh2 Jj sb=>?_⟩
 refine⟨x,(zz9 s),rfl,gx,F7,Vk,Wz,I1.turned (t':=tk+1) (it:=e) (λb o hb q=>sb.extBut b o hb q) (by rw [af Vk];exact f0) f1 f3 f4 f5,⟨_,Jj⟩,D.frame _ _ _ iV λb hb o q=>sb.extBut b o (λz=>S8 (z▸hb)) q⟩
noncomputable def RC(K:zz8)(a:Addr)(xs:List V):It:=
 ⟨λi H=>fw K H a xs/\i<xs.length,λi H v H'=>∃p x,v=.ref p/\H p=none/\H'=upd H p (.tup [.int (i:Nat),x])/\xs[i]?=some x,λi H=>fw K H a xs/\i=xs.length⟩
noncomputable def Qh(z:Str):It:=
 ⟨λi _=>i<z.cps.size,λi H v H'=>∃p c,v=.ref p/\H p=none/\H'=upd H p (.tup [.int (i:Nat),.str ⟨#[c]⟩])/\z.cps[i]?=some c,λi _=>i=z.cps.size⟩
def vY{P:Program}{w:World}{K:zz8}{elts:List Expr}{x1:Nat}{pos:Pos}(a e it:Addr)(xs:List V):Turn P w K (.Tuple elts x1 pos) (RC K a xs) [e,it] e (λi h=>(∃old,IsEnum h e it i old)/\h.IsTupleIter it a i) where
 mem:=by simp
 obj:=λi h st b hb=>by
  obtain⟨⟨old,he⟩,o,ho,_,hd⟩:=st
  rcases zzm.mp hb with z|z
  ·subst z;exact⟨_,he,λv q=>by cases q⟩
  ·rw [zzi.mp z];exact⟨o,ho,λv q=>by rw [hd] at q;cases q⟩
 keep:=λi h h' st k=>⟨by obtain⟨old,he⟩:=st.1;exact⟨old,k e (by simp) _ he⟩,st.2.at λo q=>k it (by simp) o q⟩
 item:=by
  intro X hP hw hK hc i ae s σ H E I hf st hg;subst hP hw hK;obtain⟨hq,bS⟩:=hg
  obtain⟨⟨old,he⟩,hit⟩:=st
  obtain⟨ay,rv,p,hz⟩:=I.tuple hq
  have hl:=rv.length
  have k8:=hit
  obtain⟨oi,e1,e2,_⟩:=hit
  obtain⟨oa,a1,a2,_⟩:=id p
  have DU:a≠it:=fT a1 e1 (by rw [a2,e2];decide+kernel)
  have Im:e≠it:=fT he e1 (by rw [e2];show Value.type "enumerate"≠_;decide+kernel)
  have Kx:e≠a:=fT he a1 (by rw [a2];show Value.type "enumerate"≠_;decide+kernel)
  refine cj (kj (Gx:=λx=>xs[i]?=some x) I (pO (A:=X.A.in1) (I.ok.hd hc) it a DU ay.toArray) he ⟨k8,p⟩ (by rw [zzC];omega) Im (by simp [Im,Kx]) hf (λu hu=>?_)) λr s1 ⟨u,hr,k⟩=>⟨u,hr,cj k λ_ s2 ⟨x,q,z1,z2,z3,z4,z5,z6,z7,z8⟩=>?_⟩
  ·have Nl:xs[i]?=some xs[i]:=zzg bS
   obtain⟨u',hu',ru'⟩:=rv.get Nl
   have:ay.toArray[i]?=some u':=by simpa using hu'
   have IV:ay.toArray[i]?=some u:=hu
   rw [this] at IV;cases IV;exact⟨xs[i],ru',Nl⟩
  ·exact⟨.ref q,_,z6,z1.symm▸rfl,⟨q,x,rfl,z3,rfl,z2⟩,⟨z7,z8.1⟩,λb hb=>by
    rcases zzm.mp hb with w|w
    ·rw [w,af z4];exact(hf e (by simp)).1
    ·rw [zzi.mp w,af z5];exact(hf it (by simp)).1⟩
 done:=by
  intro X hP hw hK hc i ae s σ H E I hf st hg;subst hP hw hK;obtain⟨hq,rfl⟩:=hg
  obtain⟨⟨old,he⟩,hit⟩:=st
  obtain⟨ay,rv,p,hz⟩:=I.tuple hq
  have hl:=rv.length
  have k8:=hit
  obtain⟨oi,e1,e2,_⟩:=hit
  obtain⟨oa,a1,a2,_⟩:=id p
  have DU:a≠it:=fT a1 e1 (by rw [a2,e2];decide+kernel)
  obtain⟨g0,g1,g2,g3,g4,g5⟩:=hf it (by simp)
  refine wpAny_pyNext_enum_endD (pO (A:=X.A.in1) (I.ok.hd hc) it a DU ay.toArray) he ⟨by rw [zzC,<-hl];exact k8,p⟩ λh' eb=>⟨rfl,I.turned (t':=s.toks) (λb o hb q=>eb b o hb q) g0 g1 g3 g4 g5⟩
 self:=λ_ _ _ _ _ st h=>by obtain⟨⟨old,he⟩,_⟩:=st;exact wpAny_pyIter_enum he h
def nU{prog:Program}{w:World}{A:Around}{E:Value->Shared->Prop}{s:Shared}{l:Addr}{items:Array Value}{Q:Value->Shared->Prop}(hL:IsTup s.heap l items)
 (h:∀g,IsEnum g ((zz9 s)+1) (zz9 s) 0 .none->g.IsTupleIter (zz9 s) l 0->(∀b o,s.heap.get? b=some o->g.get? b=some o)->Q (.ref ((zz9 s)+1)) {s with heap:=g}):
 wpAny (model prog w) A (call (.type "enumerate") [.ref l]) Q E s:=by
 obtain⟨⟨cls,dd,data,sl⟩,ho,hc,n,hd⟩:=id hL
 simp only at hc hd;subst hc hd;have hz:(s.heap.push {cls:=.type "tuple_iterator",data:=.fields #[.ref l,.int 0 0]}).objs.size=(zz9 s)+1:=Heap.size_push ..
 refine callType_new F.called_enumerate (by decide) (F.typeCall_enumerate_1 _) (F.newCall_enumerate_1 _) (λobj=>F.args_object_init_2 obj _) F.entry_enumerate_new (zd l items n dd sl) ⟨ho,?_⟩;show _/\_;rw [hz];have he:IsEnum ((s.heap.push {cls:=.type "tuple_iterator",data:=.fields #[.ref l,.int 0 0]}).push {cls:=.type "enumerate",data:=.fields #[.none,.bool false,.ref (zz9 s),rawInt 0,.none,.none]}) ((zz9 s)+1) (zz9 s) 0 .none:=by
  have q:=zzX (s.heap.push {cls:=.type "tuple_iterator",data:=.fields #[.ref l,.int 0 0]}) (o:={cls:=.type "enumerate",data:=.fields #[.none,.bool false,.ref (zz9 s),rawInt 0,.none,.none]}) rfl
  rw [hz] at q;exact q
 exact⟨⟨_,he,rfl⟩,h _ he ⟨_,zzB _ (zzX _ rfl),rfl,rfl⟩ λb o x=>zzB _ (zzB _ x)⟩
section
variable{X:Cx}{elts:List Expr}{x1:Nat}{vU:Pos}
noncomputable def Rz(K:zz8)(ta:TA):TI:=λσ H R=>ta σ H λvs H1=>∃a xs,vs=[.ref a]/\fw K H1 a xs/\R (RC K a xs) H1
theorem BQ{a:Expr}{ta:TA}{p pos:Pos}(hg:Gl X "enumerate")(hm:X.mg "enumerate"=none)(ha:PA X [a] ta)(hs:starEach [a] X.env=[(false,eval a X.env)]:=by rfl):PI X (.Tuple elts x1 vU) (.Call (.Name "enumerate" p) [a] [] pos) (Rz X.K ta):=by
 intro ae s σ H R I h;refine Call_ (fR I hg hm boot_enumerate (PyProof.Rows.callWith_type1 (cj (ha pos ae s σ H _ I h) λus s1 ⟨vs,H1,I1,r1,q1⟩=>?_) hs rfl))
 obtain⟨a,xs,e,hq,q⟩:=q1
 subst e;obtain⟨u,rfl,ru⟩:=vals1 r1
 cases ru;obtain⟨ay,rv,pt,hz⟩:=I1.tuple hq
 refine nU pt λg he hi kp=>wpAny_pyIter_enum he ?_
 have I2:Inv X ae σ H1 {s1 with heap:=g}:=I1.kept (t':=s1.toks) kp
 refine⟨(zz9 s1)+1,[(zz9 s1)+1,(zz9 s1)],_,_,H1,rfl,I2,vY a _ (zz9 s1) xs,⟨⟨_,he⟩,hi⟩,λb hb=>?_,q⟩
 have k7:(zz9 s1)<=b:=by
  rcases zzm.mp hb with z|z
  ·rw [z];exact Nat.le_succ _
  ·rw [zzi.mp z];exact zzE _
 exact I1.m5 k7 (I1.aJ.fresh k7)
end
def vF{P:Program}{w:World}{K:zz8}{elts:List Expr}{x1:Nat}{pos:Pos}(z:Str)(t:Tok)(e it:Addr):Turn P w K (.Tuple elts x1 pos) (Qh z) [e,it] e (λi h=>(∃old,IsEnum h e it i old)/\h.IsStrIter it (strIterType z) z t i) where
 mem:=by simp
 obj:=λi h st b hb=>by
  obtain⟨⟨old,he⟩,o,ho,_,hd⟩:=st
  rcases zzm.mp hb with q|q
  ·subst q;exact⟨_,he,λv q=>by cases q⟩
  ·rw [zzi.mp q];exact⟨o,ho,λv q=>by rw [hd] at q;cases q⟩
 keep:=λi h h' st k=>⟨by obtain⟨old,he⟩:=st.1;exact⟨old,k e (by simp) _ he⟩,by obtain⟨o,q,r⟩:=st.2;exact⟨o,k it (by simp) o q,r⟩⟩
 item:=by
  intro X hP hw hK hc i ae s σ H E I hf st hg;subst hP hw hK;have bS:i<z.cps.size:=hg
  obtain⟨⟨old,he⟩,hit⟩:=st
  have k8:=hit
  obtain⟨oi,e1,e2,_⟩:=hit
  have Im:e≠it:=fT he e1 (by
   rw [e2];show Value.type "enumerate"≠_;rcases fe z with q|q<;>rw [q]<;>decide+kernel)
  have fin:∀{Sv:Nat->Heap->Prop},Draws X.prog X.w X.A.in1 it [it] z.cps.size (λi v=>∃c u,z.cps[i]?=some c/\v=.str ⟨#[c]⟩ u) Sv->Sv i s.heap->(∀h,Sv (i+1) h->h.IsStrIter it (strIterType z) z t (i+1))->
   wpAny (model X.prog X.w) X.A (pyNext (.ref e)) (λr s1=>∃u,r=some u/\wpAny (model X.prog X.w) X.A (letOwnedTupleGo (.Tuple elts x1 pos) (.ref e) u) (λ_ s2=>∃x H',Inv X ae σ H' s2/\RelV x u/\(Qh z).MW i H x H'/\((∃old,IsEnum s2.heap e it (((i+1:Nat)):Int) old)/\s2.heap.IsStrIter it (strIterType z) z t (i+1))/\∀b∈[e,it],H' b=none) E s1) E s:=by
   intro Sv D dG back;refine cj (kj (Gx:=λx=>∃c,x=.str ⟨#[c]⟩/\z.cps[i]?=some c) I D he dG bS Im (by simp [Im]) hf (λu ⟨c,tk,hc,hu⟩=>⟨.str ⟨#[c]⟩,⟨tk,hu⟩,c,rfl,hc⟩)) λr s1 ⟨u,hr,k⟩=>⟨u,hr,cj k λ_ s2 ⟨x,q,z1,⟨c,z2,z2'⟩,z3,z4,z5,z6,z7,z8⟩=>?_⟩
   subst z2;exact⟨.ref q,_,z6,z1.symm▸rfl,⟨q,c,rfl,z3,rfl,z2'⟩,⟨z7,back _ z8⟩,λb hb=>by
    rcases zzm.mp hb with w|w
    ·rw [w,af z4];exact(hf e (by simp)).1
    ·rw [zzi.mp w,af z5];exact(hf it (by simp)).1⟩
  rcases fe z with q|q
  ·rw [q] at k8⊢;rw [q] at fin;exact fin (Draws.strAscii (A:=X.A.in1) (I.ok.hd hc) it z t) k8 λh st=>st
  ·rw [q] at k8⊢;rw [q] at fin;exact fin (Draws.strWide (A:=X.A.in1) (I.ok.hd hc) it z t) k8 λh st=>st
 done:=by
  intro X hP hw hK hc i ae s σ H E I hf st hg;subst hP hw hK;have hi:i=z.cps.size:=hg
  subst hi;obtain⟨⟨old,he⟩,hit⟩:=st
  obtain⟨g0,g1,g2,g3,g4,g5⟩:=hf it (by simp)
  rcases fe z with q|q
  ·rw [q] at hit;exact wpAny_pyNext_enum_endD (Draws.strAscii (A:=X.A.in1) (I.ok.hd hc) it z t) he hit λh' eb=>⟨rfl,I.turned (t':=s.toks) (λb o hb q=>eb b o hb q) g0 g1 g3 g4 g5⟩
  ·rw [q] at hit;exact wpAny_pyNext_enum_endD (Draws.strWide (A:=X.A.in1) (I.ok.hd hc) it z t) he hit λh' eb=>⟨rfl,I.turned (t':=s.toks) (λb o hb q=>eb b o hb q) g0 g1 g3 g4 g5⟩
 self:=λ_ _ _ _ _ st h=>by obtain⟨⟨old,he⟩,_⟩:=st;exact wpAny_pyIter_enum he h
section
variable{X:Cx}{elts:List Expr}{x1:Nat}{vU:Pos}
noncomputable def SV(ta:TA):TI:=λσ H R=>ta σ H λvs H1=>∃z,vs=[.str z]/\R (Qh z) H1
theorem BF{a:Expr}{ta:TA}{p pos:Pos}(hg:Gl X "enumerate")(hm:X.mg "enumerate"=none)(ha:PA X [a] ta)(hs:starEach [a] X.env=[(false,eval a X.env)]:=by rfl):PI X (.Tuple elts x1 vU) (.Call (.Name "enumerate" p) [a] [] pos) (SV ta):=by
 intro ae s σ H R I h;refine Call_ (fR I hg hm boot_enumerate (PyProof.Rows.callWith_type1 (cj (ha pos ae s σ H _ I h) λus s1 ⟨vs,H1,I1,r1,q1⟩=>?_) hs rfl))
 obtain⟨z,e,q⟩:=q1
 subst e;obtain⟨u,rfl,t,rfl⟩:=vals1 r1
 refine call_enumerate_str λg he hi hz kp=>wpAny_pyIter_enum he ?_
 have I2:Inv X ae σ H1 {s1 with heap:=g}:=I1.kept (t':=s1.toks) kp
 refine⟨(zz9 s1)+1,[(zz9 s1)+1,(zz9 s1)],_,_,H1,rfl,I2,vF z t _ (zz9 s1),⟨⟨_,he⟩,hi⟩,λb hb=>?_,q⟩
 have k7:(zz9 s1)<=b:=by
  rcases zzm.mp hb with z|z
  ·rw [z];exact Nat.le_succ _
  ·rw [zzi.mp z];exact zzE _
 exact I1.m5 k7 (I1.aJ.fresh k7)
end
noncomputable def Ms(K:zz8)(a:Addr)(xs:List V):It:=
 ⟨λi H=>gM K H a xs/\i<xs.length,λi H v H'=>∃p x,v=.ref p/\H p=none/\H'=upd H p (.tup [.int (i:Nat),x])/\xs[i]?=some x,λi H=>gM K H a xs/\i=xs.length⟩
def uX{P:Program}{w:World}{K:zz8}{elts:List Expr}{x1:Nat}{pos:Pos}(a e it:Addr)(xs:List V):Turn P w K (.Tuple elts x1 pos) (Ms K a xs) [e,it] e (λi h=>(∃old,IsEnum h e it i old)/\h.IsListIter it a i) where
 mem:=by simp
 obj:=λi h st b hb=>by
  obtain⟨⟨old,he⟩,o,ho,_,hd⟩:=st
  rcases zzm.mp hb with z|z
  ·subst z;exact⟨_,he,λv q=>by cases q⟩
  ·rw [zzi.mp z];exact⟨o,ho,λv q=>by rw [hd] at q;cases q⟩
 keep:=λi h h' st k=>⟨by obtain⟨old,he⟩:=st.1;exact⟨old,k e (by simp) _ he⟩,st.2.at λo q=>k it (by simp) o q⟩
 item:=by
  intro X hP hw hK hc i ae s σ H E I hf st hg;subst hP hw hK;obtain⟨hq,bS⟩:=hg
  obtain⟨⟨old,he⟩,hit⟩:=st
  obtain⟨ay,rv,p,hz⟩:=I.list hq
  have hl:=rv.length
  have k8:=hit
  obtain⟨oi,e1,e2,_⟩:=hit
  obtain⟨oa,a1,a2,_⟩:=p.isList
  have DU:a≠it:=fT a1 e1 (by rw [a2,e2];decide+kernel)
  have Im:e≠it:=fT he e1 (by rw [e2];show Value.type "enumerate"≠_;decide+kernel)
  have Kx:e≠a:=fT he a1 (by rw [a2];show Value.type "enumerate"≠_;decide+kernel)
  refine cj (kj (Gx:=λx=>xs[i]?=some x) I (Draws.list (A:=X.A.in1) (I.ok.hd hc) it a DU ay.toArray) he ⟨k8,p.isList⟩ (by rw [zzC];omega) Im (by simp [Im,Kx]) hf (λu hu=>?_)) λr s1 ⟨u,hr,k⟩=>⟨u,hr,cj k λ_ s2 ⟨x,q,z1,z2,z3,z4,z5,z6,z7,z8⟩=>?_⟩
  ·have Nl:xs[i]?=some xs[i]:=zzg bS
   obtain⟨u',hu',ru'⟩:=rv.get Nl
   have:ay.toArray[i]?=some u':=by simpa using hu'
   have IV:ay.toArray[i]?=some u:=hu
   rw [this] at IV;cases IV;exact⟨xs[i],ru',Nl⟩
  ·exact⟨.ref q,_,z6,z1.symm▸rfl,⟨q,x,rfl,z3,rfl,z2⟩,⟨z7,z8.1⟩,λb hb=>by
    rcases zzm.mp hb with w|w
    ·rw [w,af z4];exact(hf e (by simp)).1
    ·rw [zzi.mp w,af z5];exact(hf it (by simp)).1⟩
 done:=by
  intro X hP hw hK hc i ae s σ H E I hf st hg;subst hP hw hK;obtain⟨hq,rfl⟩:=hg
  obtain⟨⟨old,he⟩,hit⟩:=st
  obtain⟨ay,rv,p,hz⟩:=I.list hq
  have hl:=rv.length
  have k8:=hit
  obtain⟨oi,e1,e2,_⟩:=hit
  obtain⟨oa,a1,a2,_⟩:=p.isList
  have DU:a≠it:=fT a1 e1 (by rw [a2,e2];decide+kernel)
  obtain⟨g0,g1,g2,g3,g4,g5⟩:=hf it (by simp)
  refine wpAny_pyNext_enum_endD (Draws.list (A:=X.A.in1) (I.ok.hd hc) it a DU ay.toArray) he ⟨by rw [zzC,<-hl];exact k8,p.isList⟩ λh' eb=>⟨rfl,I.turned (t':=s.toks) (λb o hb q=>eb b o hb q) g0 g1 g3 g4 g5⟩
 self:=λ_ _ _ _ _ st h=>by obtain⟨⟨old,he⟩,_⟩:=st;exact wpAny_pyIter_enum he h
section
variable{X:Cx}{elts:List Expr}{x1:Nat}{vU:Pos}
noncomputable def Q5(K:zz8)(ta:TA):TI:=λσ H R=>ta σ H λvs H1=>∃a xs,vs=[.ref a]/\gM K H1 a xs/\R (Ms K a xs) H1
theorem sI{a:Expr}{ta:TA}{p pos:Pos}(hg:Gl X "enumerate")(hm:X.mg "enumerate"=none)(ha:PA X [a] ta)(hs:starEach [a] X.env=[(false,eval a X.env)]:=by rfl):PI X (.Tuple elts x1 vU) (.Call (.Name "enumerate" p) [a] [] pos) (Q5 X.K ta):=by
 intro ae s σ H R I h;refine Call_ (fR I hg hm boot_enumerate (PyProof.Rows.callWith_type1 (cj (ha pos ae s σ H _ I h) λus s1 ⟨vs,H1,I1,r1,q1⟩=>?_) hs rfl))
 obtain⟨a,xs,e,hq,q⟩:=q1
 subst e;obtain⟨u,rfl,ru⟩:=vals1 r1
 cases ru;obtain⟨ay,rv,pt,hz⟩:=I1.list hq
 refine call_enumerate_list pt.isList λg he hi _ kp=>wpAny_pyIter_enum he ?_
 have I2:Inv X ae σ H1 {s1 with heap:=g}:=I1.kept (t':=s1.toks) kp
 refine⟨(zz9 s1)+1,[(zz9 s1)+1,(zz9 s1)],_,_,H1,rfl,I2,uX a _ (zz9 s1) xs,⟨⟨_,he⟩,hi⟩,λb hb=>?_,q⟩
 have k7:(zz9 s1)<=b:=by
  rcases zzm.mp hb with z|z
  ·rw [z];exact Nat.le_succ _
  ·rw [zzi.mp z];exact zzE _
 exact I1.m5 k7 (I1.aJ.fresh k7)
end
end L2
namespace Ci
open PySem L2
structure Hs where
 f:Str
 h:Str
 g:Str
 idx:List Nat
 np:Nat
structure Pg where
 gs:List (Str×PV)
 bs:List Str
 cs:List Str
 fs:List Str
 rs:List Str
 hs:List Hs:=[]
 hl:Bool:=false
def ft(sc:Scope)(x:Str):Bool:=sc.names.lookup x==some .local||sc.names.lookup x==some .cell
def fb(sc:Scope)(x:Str):Bool:=ft sc x||sc.names.lookup x==some .free
def gC(sc:Scope)(x:Str):Bool:=sc.names.lookup x==some .globalImplicit
def litS:List PV->List PV->Bool
 |[],[]=>true
 |.str x::xs,.str y::ys=>x==y&&litS xs ys
 |_,_=>false
def x8:PV->PV->Bool
 |.int i,.int j=>i==j
 |.str x,.str y=>x==y
 |.tup xs,.tup ys=>litS xs ys
 |_,_=>false
theorem litS_eq:∀{xs ys:List PV},litS xs ys=true->xs=ys
 |[],[],_=>rfl
 |.str x::xs,.str y::ys,h=>by
  unfold litS at h;rw [zza] at h;rw [zzy.mp h.1,litS_eq h.2]
def AB{p q:PV}(h:x8 p q=true):p=q:=by
 unfold x8 at h;split at h
 ·rw [zzy.mp h]
 ·rw [zzy.mp h]
 ·rw [litS_eq h]
 ·cases h
def bN:B->Str
 |.len=>"len"|.abs=>"abs"|.max2=>"max"|.int=>"int"|.str=>"str"|.tuple=>"tuple"|.sorted=>"sorted"|.dict=>"dict"|.ma=>"list"
def mN:M->Str
 |.iM=>"count"|.index=>"index"
def gA:E->Bool
 |.dR _=>false
 |_=>true
def iq:Es->Bool
 |.nil=>true
 |.cons e es=>gA e&&iq es
def EE:I->Bool
 |.seq e=>gA e
 |.uc _=>true
 |.qP _ _=>true
 |.enum e=>gA e
def isNil:Es->Bool
 |.nil=>true
 |_=>false
def gP:Es->Nat
 |.nil=>0
 |.cons _ es=>gP es+1
def Lr:Expr->Option (List Expr)
 |.Tuple es _ _=>some es
 |_=>none
def wm{e:Expr}{es:List Expr}(h:Lr e=some es):∃k p,e=.Tuple es k p:=by
 cases e with
 |Tuple es k p=>cases h;exact⟨_,_,rfl⟩
 |_=>exact iB h
def vQ{α:Type}:List α->Option (α×α)
 |[a,b]=>some (a,b)
 |_=>none
def Ez{α:Type}{ts:List α}{q:α×α}(h:vQ ts=some q):ts=[q.1,q.2]:=by
 cases ts with
 |nil=>exact iB h
 |cons a ts=>
  cases ts with
  |nil=>exact iB h
  |cons b ts=>
   cases ts with
   |cons _ _=>exact iB h
   |nil=>cases h;rfl
def QY(N:List Str)(sc:Scope)(fn:Str->Bool)(i:Nat)(p:Expr):Bool:=(eT p).any λx=>N[i]?==some x&&ft sc x&&(fn x||sc.names.lookup x==some .local)
noncomputable def Kd(N:List Str)(sc:Scope)(fn:Str->Bool):List Nat->List Expr->Bool
 |i::is,a::as=>QY N sc fn i a&&Kd N sc fn is as
 |[],[]=>true
 |_,_=>false
noncomputable def gh(N:List Str)(sc:Scope)(fn:Str->Bool):Tg->Expr->Bool
 |.one i,p=>QY N sc fn i p
 |.two i j,p=>(Lr p).any (Kd N sc fn [i,j])
noncomputable def aM:Expr->List Str
 |.Name x _=>[x]
 |.Tuple [.Name x _,.Name y _] _ _=>[x,y]
 |.Tuple [.Name x _,.Name y _,.Name z _] _ _=>[x,y,z]
 |.Tuple [.Name x _,.Tuple [.Name y _,.Name z _] _ _] _ _=>[x,y,z]
 |_=>[]
def dn(scope sc:Scope):Scope:=
 {scope with names:=scope.names.map λ(n,k)=>if(k==.free&&sc.kind==.function&&sc.names.lookup n==some .cell) then(n,.cell) else(n,k)}
def freeOf(scope:Scope):List Str:=((scope.names.filter λp=>p.2==.free).map (·.1)).reverse
noncomputable def xK(N:List Str)(sc scope:Scope)(k:Nat)(ba:List Nat)(xs:List Str):Bool:=
 scope.kind==.function&&xs.length==k&&decide ((xs++freeOf scope).Nodup)
 &&(scope.names.all λy=>(decide (y.2≠.cell)||!(freeOf scope).contains y.1)&&(decide (y.2≠.free)||(freeOf scope).contains y.1))
 &&(scope.names.all λy=>decide (y.2≠.cell)||decide (scope.names.lookup y.1=some .cell))
 &&(scope.names.all λy=>decide (y.2≠.local)||decide (scope.names.lookup y.1=some .local))
 &&decide (ba.map (λi=>N[i]?)=(freeOf scope).map some)
 &&((freeOf scope).all λy=>decide (sc.names.lookup y=some .cell))
 &&((freeOf scope).all λy=>decide ((dn scope sc).names.lookup y=some .cell))
def nk(k:Nat):Tg->Bool
 |.one i=>decide (i<k)
 |.two i j=>decide (i<k)&&decide (j<k)
def fQ:E->Bool
 |.ite _ _ _=>false
 |.not a=>fQ a
 |.and a b=>fQ a&&fQ b
 |.or a b=>fQ a&&fQ b
 |_=>true
def isTup:Expr->Bool
 |.Tuple .. =>true
 |_=>false
noncomputable abbrev Pg.Ea(Γ:Pg):Pg:={Γ with hl:=false}
def iZ{α β:Type}{o:Option α}{f:α->Option β}{b:β}(h:o.bind f=some b):∃a,o=some a/\f a=some b:=zzZ.1 h
def if1{α:Type}{c:Bool}{a b:α}(h:(if c=true then some a else none)=some b):c=true/\a=b:=by
 cases c with
 |true=>cases h;exact⟨rfl,rfl⟩
 |false=>exact iB h
def eU{α:Type}:List α->Option α
 |[t]=>some t
 |_=>none
def cU{α:Type}{ts:List α}{t:α}(h:eU ts=some t):ts=[t]:=by
 cases ts with
 |nil=>exact iB h
 |cons a ts=>
  cases ts with
  |cons _ _=>exact iB h
  |nil=>cases h;rfl
def M0:Expr->Option (Expr×Str×Pos)
 |.Attribute o m p=>some (o,m,p)
 |_=>none
def vO{e:Expr}{q:Expr×Str×Pos}(h:M0 e=some q):e=.Attribute q.1 q.2.1 q.2.2:=by
 cases e with
 |Attribute o m p=>cases h;rfl
 |_=>exact iB h
def SG:Expr->Option (Arguments×Expr×Scope)
 |.Lambda p b s _=>some (p,b,s)
 |_=>none
def v7{e:Expr}{q:Arguments×Expr×Scope}(h:SG e=some q):∃p,e=.Lambda q.1 q.2.1 q.2.2 p:=by
 cases e with
 |Lambda p b s x=>cases h;exact⟨_,rfl⟩
 |_=>exact iB h
def Mq:Expr->Option (Expr×Expr)
 |.Subscript a b _=>some (a,b)
 |_=>none
def qw{e:Expr}{q:Expr×Expr}(h:Mq e=some q):∃p,e=.Subscript q.1 q.2 p:=by
 cases e with
 |Subscript a b p=>cases h;exact⟨_,rfl⟩
 |_=>exact iB h
def Pf:Expr->Option Const
 |.Constant c _ _=>some c
 |_=>none
def vA{e:Expr}{c:Const}(h:Pf e=some c):∃p q,e=.Constant c p q:=by
 cases e with
 |Constant c p q=>cases h;exact⟨_,_,rfl⟩
 |_=>exact iB h
def JX:Const->Option Str
 |.str z=>some z
 |_=>none
def AS{c:Const}{z:Str}(h:JX c=some z):c=.str z:=by
 cases c with
 |str y=>cases h;rfl
 |_=>exact iB h
def Rx:Const->Option Int
 |.int n=>some n
 |_=>none
def B6{c:Const}{n:Int}(h:Rx c=some n):c=.int n:=by
 cases c with
 |int y=>cases h;rfl
 |_=>exact iB h
def zM{α:Type}{l:List α}(h:l.isEmpty=true):l=[]:=by
 cases l with
 |nil=>rfl
 |cons _ _=>exact aP h
def SO{α:Type}{o:Option α}(h:o.isNone=true):o=none:=by
 cases o with
 |none=>rfl
 |some _=>exact aP h
def UR:Const->Option Bool
 |.bool b=>some b
 |_=>none
def L9{c:Const}{b:Bool}(h:UR c=some b):c=.bool b:=by
 cases c with
 |bool y=>cases h;rfl
 |_=>exact iB h
def S2:Const->Bool
 |.none=>true
 |_=>false
def KY{c:Const}(h:S2 c=true):c=.none:=by
 cases c with
 |none=>rfl
 |_=>exact aP h
def U3:Expr->Option (Expr×Operator×Expr)
 |.BinOp a o b _=>some (a,o,b)
 |_=>none
def KA{e:Expr}{q:Expr×Operator×Expr}(h:U3 e=some q):∃p,e=.BinOp q.1 q.2.1 q.2.2 p:=by
 cases e with
 |BinOp a o b p=>cases h;exact⟨_,rfl⟩
 |_=>exact iB h
def Qv:Expr->Option (Expr×List CmpOp×List Expr)
 |.Compare a o b _=>some (a,o,b)
 |_=>none
def L6{e:Expr}{q:Expr×List CmpOp×List Expr}(h:Qv e=some q):∃p,e=.Compare q.1 q.2.1 q.2.2 p:=by
 cases e with
 |Compare a o b p=>cases h;exact⟨_,rfl⟩
 |_=>exact iB h
def Qf:Expr->Option (UnaryOp×Expr)
 |.UnaryOp o a _=>some (o,a)
 |_=>none
def L7{e:Expr}{q:UnaryOp×Expr}(h:Qf e=some q):∃p,e=.UnaryOp q.1 q.2 p:=by
 cases e with
 |UnaryOp o a p=>cases h;exact⟨_,rfl⟩
 |_=>exact iB h
def HC:UnaryOp->Bool
 |.Not=>true
 |_=>false
def AO{o:UnaryOp}(h:HC o=true):o=.Not:=by
 cases o with
 |Not=>rfl
 |_=>exact aP h
def isNeg:UnaryOp->Bool
 |.USub=>true
 |_=>false
def DK{o:UnaryOp}(h:isNeg o=true):o=.USub:=by
 cases o with
 |USub=>rfl
 |_=>exact aP h
def xA:BoolOp->Bool
 |.And=>true
 |.Or=>false
def BS{o:BoolOp}(h:xA o=true):o=.And:=by
 cases o with
 |And=>rfl
 |Or=>exact aP h
def Ho{o:BoolOp}(h:(!xA o)=true):o=.Or:=by
 cases o with
 |Or=>rfl
 |And=>exact aP h
def P5:Expr->Option (BoolOp×List Expr×Pos)
 |.BoolOp o vs p=>some (o,vs,p)
 |_=>none
def Js{e:Expr}{q:BoolOp×List Expr×Pos}(h:P5 e=some q):e=.BoolOp q.1 q.2.1 q.2.2:=by
 cases e with
 |BoolOp o vs p=>cases h;rfl
 |_=>exact iB h
def QU(o:BoolOp)(pos:Pos):List Expr->Option (Expr×Expr)
 |a::b::[]=>some (a,b)
 |a::b::c::r=>some (a,.BoolOp o (b::c::r) pos)
 |_=>none
def CU{o:BoolOp}{pos:Pos}{vs:List Expr}{q:Expr×Expr}(h:QU o pos vs=some q):vs=[q.1,q.2]\/∃b c r,vs=q.1::b::c::r/\q.2=.BoolOp o (b::c::r) pos:=by
 cases vs with
 |nil=>exact iB h
 |cons a vs=>
  cases vs with
  |nil=>exact iB h
  |cons b vs=>
   cases vs with
   |nil=>cases h;exact .inl rfl
   |cons c r=>cases h;exact .inr ⟨b,c,r,rfl,rfl⟩
def UH:Expr->Option (Expr×Expr×Expr)
 |.IfExp c a b _=>some (c,a,b)
 |_=>none
def LW{e:Expr}{q:Expr×Expr×Expr}(h:UH e=some q):∃p,e=.IfExp q.1 q.2.1 q.2.2 p:=by
 cases e with
 |IfExp c a b p=>cases h;exact⟨_,rfl⟩
 |_=>exact iB h
def Uk:Expr->Option (List Expr)
 |.List es _=>some es
 |_=>none
def A9{e:Expr}{es:List Expr}(h:Uk e=some es):∃p,e=.List es p:=by
 cases e with
 |List es p=>cases h;exact⟨_,rfl⟩
 |_=>exact iB h
def Ia:Expr->Option (Option Expr×Option Expr×Option Expr)
 |.Slice a b c _=>some (a,b,c)
 |_=>none
def Mk{e:Expr}{q:Option Expr×Option Expr×Option Expr}(h:Ia e=some q):∃p,e=.Slice q.1 q.2.1 q.2.2 p:=by
 cases e with
 |Slice a b c p=>cases h;exact⟨_,rfl⟩
 |_=>exact iB h
def Qm:Expr->Option (Expr×List Comprehension×Scope)
 |.ListComp e gs s _=>some (e,gs,s)
 |_=>none
def Lk{e:Expr}{q:Expr×List Comprehension×Scope}(h:Qm e=some q):∃p,e=.ListComp q.1 q.2.1 q.2.2 p:=by
 cases e with
 |ListComp e gs s p=>cases h;exact⟨_,rfl⟩
 |_=>exact iB h
def zt(e:Expr):Option (Str×List Expr):=(D6 e).bind λq=>(eT q.1).bind λg=>if q.2.2.1.isEmpty=true then some (g,q.2.1) else none
def Lf{e:Expr}{q:Str×List Expr}(h:zt e=some q):∃np p,e=.Call (.Name q.1 np) q.2 [] p:=by
 obtain⟨⟨f,a,k,p⟩,h1,h⟩:=iZ h
 obtain⟨g,h2,h⟩:=iZ h
 obtain⟨h3,rfl⟩:=if1 h
 obtain⟨np,z⟩:=cu h2
 have z3:=zM h3
 dsimp only at z z3;subst z z3;exact⟨np,p,iJ h1⟩
def OB:PV->Const->Bool
 |.aD,c=>S2 c
 |.bl b,c=>(UR c).any λx=>b==x
 |.int i,c=>(Rx c).any λx=>i==x
 |.str z,c=>(JX c).any λx=>z==x
 |_,_=>false
def HX(p:Expr):Bool:=(D6 p).all λq=>!q.2.1.isEmpty
def wM(p:Expr):Bool:=(D6 p).isNone
def az{a b:Bool}(h:(a&&b)=true):a=true/\b=true:=Bool.and_eq_true_iff.mp h
def ai{α:Type}{o:Option α}{f:α->Bool}(h:o.any f=true):∃x,o=some x/\f x=true:=by
 cases o with
 |none=>cases h
 |some x=>exact⟨x,rfl,h⟩
theorem kU{α:Type}{l:List α}{f:α->Bool}(h:(eU l).any f=true):∃a,l=[a]/\f a=true:=let⟨a,e,h1⟩:=ai h;⟨a,cU e,h1⟩
theorem DQ{α:Type}{l:List α}{f:α×α->Bool}(h:(vQ l).any f=true):∃a b,l=[a,b]/\f (a,b)=true:=let⟨q,e,h1⟩:=ai h;⟨q.1,q.2,Ez e,h1⟩
theorem NY{p:Expr}{f:Str->Bool}(h:(eT p).any f=true):∃x np,p=.Name x np/\f x=true:=let⟨x,e,h1⟩:=ai h;let⟨np,z⟩:=cu e;⟨x,np,z,h1⟩
theorem WJ{p:Expr}{f:Const->Bool}(h:(Pf p).any f=true):∃x a b,p=.Constant x a b/\f x=true:=let⟨x,e,h1⟩:=ai h;let⟨a,b,z⟩:=vA e;⟨x,a,b,z,h1⟩
theorem Az{p:Expr}{f:Str×List Expr->Bool}(h:(zt p).any f=true):∃g as np pos,p=.Call (.Name g np) as [] pos/\f (g,as)=true:=let⟨q,e,h1⟩:=ai h;let⟨a,b,z⟩:=Lf e;⟨q.1,q.2,a,b,z,h1⟩
theorem Th{p:Expr}{f:Expr×Expr->Bool}(h:(Mq p).any f=true):∃a b pos,p=.Subscript a b pos/\f (a,b)=true:=let⟨q,e,h1⟩:=ai h;let⟨x,z⟩:=qw e;⟨q.1,q.2,x,z,h1⟩
theorem VI{p:Expr}{f:Option Expr×Option Expr×Option Expr->Bool}(h:(Ia p).any f=true):∃a b c pos,p=.Slice a b c pos/\f (a,b,c)=true:=let⟨q,e,h1⟩:=ai h;let⟨x,z⟩:=Mk e;⟨q.1,q.2.1,q.2.2,x,z,h1⟩
theorem U6{p:Expr}{f:UnaryOp×Expr->Bool}(h:(Qf p).any f=true):∃o a pos,p=.UnaryOp o a pos/\f (o,a)=true:=let⟨q,e,h1⟩:=ai h;let⟨x,z⟩:=L7 e;⟨q.1,q.2,x,z,h1⟩
theorem S6{p:Expr}{f:Expr×List CmpOp×List Expr->Bool}(h:(Qv p).any f=true):∃a o b pos,p=.Compare a o b pos/\f (a,o,b)=true:=let⟨q,e,h1⟩:=ai h;let⟨x,z⟩:=L6 e;⟨q.1,q.2.1,q.2.2,x,z,h1⟩
theorem Qt{p:Expr}{f:Expr×List Comprehension×Scope->Bool}(h:(Qm p).any f=true):∃a g s pos,p=.ListComp a g s pos/\f (a,g,s)=true:=let⟨q,e,h1⟩:=ai h;let⟨x,z⟩:=Lk e;⟨q.1,q.2.1,q.2.2,x,z,h1⟩
theorem S4{p:Expr}{f:BoolOp×List Expr×Pos->Bool}(h:(P5 p).any f=true):∃o vs pos,p=.BoolOp o vs pos/\f (o,vs,pos)=true:=let⟨q,e,h1⟩:=ai h;⟨q.1,q.2.1,q.2.2,Js e,h1⟩
mutual
noncomputable def aZ(Γ:Pg)(N:List Str)(sc:Scope):E->Expr->Bool
 |.var i,p=>(eT p).any λx=>N[i]?==some x&&fb sc x&&okN x
 |.dR i,p=>(eT p).any λx=>N[i]?==some x&&fb sc x&&okN x
 |.cst q,p=>(Pf p).any (OB q)
 |.glob g p,e=>(eT e).any λx=>g==x&&gC sc x&&okN x&&Γ.gs.any λq=>q.1==g&&x8 q.2 p
 |.call f as,p=>(zt p).any λq=>f==q.1&&Γ.fs.contains q.1&&gC sc q.1&&okN q.1&&iq as&&gQ Γ N sc as q.2
 |.kF i as,p=>(zt p).any λq=>N[i]?==some q.1&&fb sc q.1&&okN q.1&&iq as&&!isNil as&&gQ Γ N sc as q.2
 |.oU f as g idx ba,p=>(zt p).any λr=>Γ.hl&&gC sc r.1&&okN r.1&&iq as&&!isNil as&&(Γ.hs.any λq=>q.f==f&&q.h==r.1&&q.g==g&&q.idx==idx&&decide (q.np=gP as+1))&&ye Γ N sc g idx ba as r.2
 |.blt b as,p=>(zt p).any λq=>bN b==q.1&&gC sc q.1&&Γ.bs.contains q.1&&!isNil as&&gQ Γ N sc as q.2
 |.ty t a,p=>(zt p).any λq=>(vQ q.2).any λr=>(eT r.2).any λtn=>q.1==("isinstance":Str)&&gC sc q.1&&Γ.bs.contains q.1&&tn==Str.ofString (uP t)&&gC sc tn&&Γ.bs.contains tn&&aZ Γ N sc a r.1
 |.D0 c a,p=>(zt p).any λq=>(vQ q.2).any λr=>(eT r.2).any λcn=>q.1==("isinstance":Str)&&gC sc q.1&&Γ.bs.contains q.1&&cn==c&&gC sc cn&&okN cn&&(Γ.cs.contains c||(c=="ValueError"&&Γ.bs.contains c))&&aZ Γ N sc a r.1
 |.KN m o as,p=>(D6 p).any λq=>(M0 q.1).any λr=>q.2.2.1.isEmpty&&(mN m==r.2.1&&!isNil as&&decide (gP as<30)&&r.2.2.endLine==q.2.2.2.line&&aZ Γ N sc o r.1&&gQ Γ N sc as q.2.1&&wM r.1)
 |.bin o a b,p=>(U3 p).any λq=>decide (QR o=q.2.1)&&aZ Γ N sc a q.1&&aZ Γ N sc b q.2.2
 |.cmp o a b,p=>(Qv p).any λq=>(eU q.2.1).any λop=>(eU q.2.2).any λpb=>decide (rM o=op)&&aZ Γ N sc a q.1&&aZ Γ N sc b pb
 |.ch o1 o2 a b c,p=>(Qv p).any λq=>(vQ q.2.1).any λop=>(vQ q.2.2).any λpb=>decide (rM o1=op.1)&&decide (rM o2=op.2)&&aZ Γ N sc a q.1&&aZ Γ N sc b pb.1&&aZ Γ N sc c pb.2
 |.not a,p=>(Qf p).any λq=>HC q.1&&aZ Γ N sc a q.2
 |.neg a,p=>(Qf p).any λq=>isNeg q.1&&aZ Γ N sc a q.2
 |.and a b,p=>(P5 p).any λq=>(QU q.1 q.2.2 q.2.1).any λr=>xA q.1&&gA b&&aZ Γ N sc a r.1&&aZ Γ N sc b r.2
 |.or a b,p=>(P5 p).any λq=>(QU q.1 q.2.2 q.2.1).any λr=>!xA q.1&&gA b&&aZ Γ N sc a r.1&&aZ Γ N sc b r.2
 |.ite c a b,p=>(UH p).any λq=>fQ c&&gA a&&gA b&&aZ Γ N sc c q.1&&aZ Γ N sc a q.2.1&&aZ Γ N sc b q.2.2
 |.tup as,p=>(Lr p).any λps=>iq as&&decide (gP as<1000)&&gQ Γ N sc as ps
 |.lst as,p=>(Uk p).any λps=>iq as&&decide (gP as<1000)&&gQ Γ N sc as ps
 |.sub a b,p=>(Mq p).any λq=>aZ Γ N sc a q.1&&aZ Γ N sc b q.2
 |.slice a lo hi,p=>(Mq p).any λq=>(Ia q.2).any λr=>r.2.2.isNone&&aZ Γ N sc a q.1&&IM Γ N sc lo r.1&&IM Γ N sc hi r.2.1
 |.comp k ba tg it elt,p=>(Qm p).any λq=>(eU q.2.1).any λg=>g.ifs.isEmpty&&(xK N sc q.2.2 k ba (aM g.target)&&nk k tg&&gA elt&&yX Γ N sc g.target it g.iter&&gh (aM g.target++freeOf q.2.2) (dn q.2.2 sc) (mH q.2.2) tg g.target&&aZ Γ.Ea (aM g.target++freeOf q.2.2) (dn q.2.2 sc) elt q.1&&decide (g.is_async=0))
 |.dc k ba tg it c elt,p=>(Qm p).any λq=>(eU q.2.1).any λg=>(eU g.ifs).any λpc=>fQ c&&xK N sc q.2.2 k ba (aM g.target)&&nk k tg&&gA elt&&yX Γ N sc g.target it g.iter&&gh (aM g.target++freeOf q.2.2) (dn q.2.2 sc) (mH q.2.2) tg g.target&&aZ Γ.Ea (aM g.target++freeOf q.2.2) (dn q.2.2 sc) c pc&&aZ Γ.Ea (aM g.target++freeOf q.2.2) (dn q.2.2 sc) elt q.1&&decide (g.is_async=0)
 |.sF a,p=>(zt p).any λq=>(eU q.2).any λz=>(D6 z).any λc=>(M0 c.1).any λr=>q.1==("sorted":Str)&&gC sc q.1&&Γ.bs.contains q.1&&c.2.1.isEmpty&&c.2.2.1.isEmpty&&r.2.1==("items":Str)&&r.2.2.endLine==c.2.2.2.line&&HX r.1&&aZ Γ N sc a r.1
noncomputable def gQ(Γ:Pg)(N:List Str)(sc:Scope):Es->List Expr->Bool
 |.nil,[]=>true
 |.cons e es,p::ps=>aZ Γ N sc e p&&gQ Γ N sc es ps
 |_,_=>false
noncomputable def ye(Γ:Pg)(N:List Str)(sc:Scope)(g:Str)(idx ba:List Nat):Es->List Expr->Bool
 |.nil,ps=>(eU ps).any λp=>(SG p).any λl=>Hc g idx l.1 l.2.1 l.2.2&&decide (ba.map (λi=>N[i]?)=(bu l.2.2).map some)&&((bu l.2.2).all λy=>decide (sc.names.lookup y=some .cell))
 |.cons e es,p::ps=>aZ Γ N sc e p&&ye Γ N sc g idx ba es ps
 |_,_=>false
noncomputable def IM(Γ:Pg)(N:List Str)(sc:Scope):Oe->Option Expr->Bool
 |.no,none=>true
 |.some e,some p=>aZ Γ N sc e p
 |_,_=>false
noncomputable def yX(Γ:Pg)(N:List Str)(sc:Scope)(tg:Expr):I->Expr->Bool
 |.seq e,p=>aZ Γ N sc e p
 |.uc e,p=>(zt p).any λq=>(eU q.2).any λr=>q.1==("range":Str)&&gC sc q.1&&Γ.bs.contains q.1&&aZ Γ N sc e r
 |.qP a b,p=>(zt p).any λq=>(vQ q.2).any λr=>q.1==("range":Str)&&gC sc q.1&&Γ.bs.contains q.1&&aZ Γ N sc a r.1&&aZ Γ N sc b r.2
 |.enum e,p=>(zt p).any λq=>(eU q.2).any λr=>isTup tg&&q.1==("enumerate":Str)&&gC sc q.1&&Γ.bs.contains q.1&&aZ Γ N sc e r
end
def XE(W:Wd)(c:Str)(G1 H1:Hp):XK:=λCv ao H'=>∃C a G',Cv=.ref C/\ao=some a/\c∈W.xs/\W.mg c=some (.ref C)/\aC W G1 H1 G' H'
def uA(X:Cx)(W:Wd)(σ:St)(c:Str)(G H:Hp):Prop:=∀(ae:List (Addr×Obj)) (G1 H1:Hp) (s1:Shared) (e:Value) (s':Shared),Inv X ae σ H1 s1->aC W G H G1 H1->dW X.prog X.w X.stack H1 s1 (XE W c G1 H1) e s'->X.xe e s'
def Out{α:Type}(X:Cx)(W:Wd)(r:Res α)(σ:St)(G H:Hp)(k:α->Prop):Prop:=match r with
 |.ok a=>k a
 |.exc c=>uA X W σ c G H
 |.bad=>False
section
variable{X:Cx}{W:Wd}{F:aL}{σ:St}{G H G1 H1:Hp}{α β:Type}
def uA.grow{c:Str}(h:uA X W σ c G H)(g:aC W G H G1 H1):uA X W σ c G1 H1:=λae G2 H2 s1 e s' I g2 x=>h ae G2 H2 s1 e s' I (g.trans g2) x
def Out.grow{r:Res α}{k:α->Prop}(h:Out X W r σ G H k)(g:aC W G H G1 H1):Out X W r σ G1 H1 k:=by
 cases r with
 |ok a=>exact h
 |exc c=>exact uA.grow h g
 |bad=>exact h
def Out.imp{r:Res α}{k k':α->Prop}(h:Out X W r σ G H k)(i:∀a,k a->k' a):Out X W r σ G H k':=by
 cases r with
 |ok a=>exact i a h
 |exc c=>exact h
 |bad=>exact h
def Out.bind{r:Res α}{f:α->Res β}{k:β->Prop}(h:Out X W (r.bind f) σ G H k):Out X W r σ G H λa=>Out X W (f a) σ G H k:=by
 cases r with
 |ok a=>exact h
 |exc c=>exact h
 |bad=>exact h
def Out.val{r:Res α}{k:α->Prop}(h:Out X W r σ G H k)(n:∀c,r≠.exc c):∃a,r=.ok a/\k a:=by
 cases r with
 |ok a=>exact⟨a,rfl,h⟩
 |exc c=>exact absurd rfl (n c)
 |bad=>exact h.elim
structure Got(W:Wd)(H0 G H:Hp)(e:E)(p:PV)(v:V):Prop where
 top:Top W H0 G H p v
 rep:gA e=true->Rep W G p v
def Got.of{H0:Hp}{e:E}{p:PV}{v:V}(h:Rep W G p v):Got W H0 G H e p v:=⟨.inl h,λ_=>h⟩
noncomputable def tE(X:Cx)(W:Wd)(F:aL)(e:E):TE:=λσ H Q=>∃H0 G env,SR W H0 env σ G H/\Out X W (aK F e env) σ G H λp=>∀v G' H',aC W G H G' H'->Got W H0 G' H' e p v->Q v H'
noncomputable def tT(X:Cx)(W:Wd)(F:aL)(e:E):TT:=λσ H Q=>∃H0 G env,SR W H0 env σ G H/\Out X W (aK F e env) σ G H λp=>∃b,p=.bl b/\∀G' H',aC W G H G' H'->Q b H'
structure O8(W:Wd)(H0 G H:Hp)(es:Es)(ps:List PV)(vs:List V):Prop where
 top:Paired (λv p=>Top W H0 G H p v) vs ps
 rep:iq es=true->aq W G ps vs
noncomputable def tA(X:Cx)(W:Wd)(F:aL)(es:Es):TA:=λσ H Q=>∃H0 G env,SR W H0 env σ G H/\Out X W (cY F es env) σ G H λps=>∀vs G' H',aC W G H G' H'->O8 W H0 G' H' es ps vs->Q vs H'
noncomputable def B8(X:Cx)(W:Wd)(F:aL)(o:Oe):TO:=λσ H Q=>∃H0 G env,SR W H0 env σ G H/\Out X W (xj F o env) σ G H λi=>∀G' H',aC W G H G' H'->Q i H'
def one{H0:Hp}{env:Sl}{e:E}{f:PV->Res β}{k:β->Prop}{Q:VK}(sr:SR W H0 env σ G H)(o:Out X W ((aK F e env).bind f) σ G H k)
 (h:∀p v G1 H1,aC W G H G1 H1->Got W H0 G1 H1 e p v->SR W H0 env σ G1 H1->Out X W (f p) σ G1 H1 k->Q v H1):tE X W F e σ H Q:=
 ⟨H0,G,env,sr,o.bind.imp λp hp v G1 H1 g t=>h p v G1 H1 g t (sr.grow g) (hp.grow g)⟩
def Fs{H0:Hp}{env:Sl}{e:E}{f:Bool->Res β}{k:β->Prop}{Q:Bool->Hp->Prop}(sr:SR W H0 env σ G H)(o:Out X W ((aK F e env).bind λp=>sJ p f) σ G H k)
 (h:∀b G1 H1,aC W G H G1 H1->SR W H0 env σ G1 H1->Out X W (f b) σ G1 H1 k->Q b H1):tT X W F e σ H Q:=by
 refine⟨H0,G,env,sr,o.bind.imp λp hp=>?_⟩
 cases p with
 |bl b=>exact⟨b,rfl,λG1 H1 g=>h b G1 H1 g (sr.grow g) (Out.grow hp g)⟩
 |aD=>exact zzk hp
 |int _=>exact zzk hp
 |str _=>exact zzk hp
 |tup _=>exact zzk hp
 |lst _=>exact zzk hp
 |exc _=>exact zzk hp
 |bf _ _=>exact zzk hp
def args{H0:Hp}{env:Sl}{es:Es}{f:List PV->Res β}{k:β->Prop}{Q:List V->Hp->Prop}(sr:SR W H0 env σ G H)(o:Out X W ((cY F es env).bind f) σ G H k)
 (h:∀ps vs G1 H1,aC W G H G1 H1->O8 W H0 G1 H1 es ps vs->SR W H0 env σ G1 H1->Out X W (f ps) σ G1 H1 k->Q vs H1):tA X W F es σ H Q:=
 ⟨H0,G,env,sr,o.bind.imp λp hp v G1 H1 g t=>h p v G1 H1 g t (sr.grow g) (hp.grow g)⟩
def B9(W:Wd)(G:Hp):Option (Str×List Nat)->List PV->List V->Prop
 |none,as,vs=>aq W G as vs
 |some q,as,vs=>∃uH c7 xE v,as=uH++c7/\vs=xE++[v]/\aq W G uH xE/\p7 W G q.1 q.2 c7 v
noncomputable def Aq(W:Wd)(F:aL)(f:Str)(n:Nat)(q:Option (Str×List Nat)):Sp:=λvs H Q E=>vs.length=n/\∃G as,aA G H/\cN W G H/\B9 W G q as vs/\(match F f as with
 |.ok p=>∀v G' H',aC W G H G' H'->Rep W G' p v->Q v H'
 |.exc c=>∀Cv ao H',XE W c G H Cv ao H'->E Cv ao H'
 |.bad=>False)
structure Md(X:Cx)(W:Wd)(F:aL)(k:Nat)(f:Str):Prop where
 ex:∃fa fd ps,gW X.prog X.w X.K X.mg X.base (dW X.prog X.w) k fa fd ps (Aq W F f ps.length none)/\X.mg f=some (.ref fa)/\PySem.W.keepIn X.K (.ref fa)=true/\Binds X.K fd ps []/\∀as,F f as≠.bad->as.length=ps.length
structure O2(X:Cx)(W:Wd)(F:aL)(k:Nat)(q:Hs):Prop where
 ex:∃fa fd ps,gW X.prog X.w X.K X.mg X.base (dW X.prog X.w) k fa fd ps (Aq W F q.f ps.length (some (q.g,q.idx)))/\X.mg q.h=some (.ref fa)/\PySem.W.keepIn X.K (.ref fa)=true/\Binds X.K fd ps []/\ps.length=q.np
structure dz(Γ:Pg)(F:aL)(W:Wd)(N:List Str)(sc:Scope)(k:Nat)(X:Cx):Prop where
 hN:X.N=N
 ei:X.env.scope=sc
 calm:X.calm=true
 nd:N.Nodup
 K:W.K=X.K
 mg:W.mg=X.mg
 gs:∀q∈Γ.gs,∃u v,X.mg q.1=some u/\RelV v u/\∀G,Rep W G q.2 v
 bs:∀g∈Γ.bs,X.mg g=none
 room:dP (k+1) X.A
 fns:∀f,Γ.fs.contains f=true->Md X W F k f
 M8:Γ.cs.contains "ValueError"=false
 cls:∀c∈Γ.cs,∃C,X.mg c=some (.ref C)
 xc:∀d∈W.xs,∀D,X.mg d=some (.ref D)->ng X.K D/\(∀c∈Γ.cs,∀C,X.mg c=some (.ref C)->PySem.W.kitOne X.K (.ref D) (.ref C)=some (c==d||c=="FloorError"))/\PySem.W.kitOne X.K (.ref D) (.type "ValueError")=some true
 tZ:∀q∈Γ.hs,O2 X W F k q
 any:∀g as,F g as≠.bad->Γ.fs.contains g=true\/gU g=true
 tb:Γ.hl=true->∃c P,X.env.code=.ref c/\PySem.W.CodeHd X.base c P/\(P,X.env.qual++"<lambda>")∈W.ts/\∀q',(P,q')∈W.ts->q'=X.env.qual++"<lambda>"
 bm:Γ.hl=true->Dm X.mg X.base
 fl:Γ.hl=true->∀x,X.fn x=true
variable{Γ:Pg}{N:List Str}{sc:Scope}{k:Nat}
def qR(C:dz Γ F W N sc k X){x:Str}(h:fb sc x=true):N0 X.env.scope x:=by
 rw [C.ei];unfold fb ft at h;simp! [zzt,zzy] at h;rcases h with(h|h)|h
 ·exact .inl h
 ·exact .inr (.inl h)
 ·exact .inr (.inr h)
def dA(C:dz Γ F W N sc k X){x:Str}(h:gC sc x=true):Gl X x:=by
 show X.env.scope.names.lookup x=_
 rw [C.ei];exact zzy.mp h
def cZ{x:Str}(h:okN x=true):(x==("__debug__":Str))=false/\(x==("__classdict__":Str))=false/\x≠"__name__":=by
 unfold okN at h;simp! [zza,Bool.not_eq_true',beq_eq_false_iff_ne] at h;exact⟨beq_eq_false_iff_ne.mpr h.1.1,beq_eq_false_iff_ne.mpr h.1.2,h.2⟩
abbrev GE(X:Cx)(W:Wd)(F:aL)(e:E)(p:Expr):Prop:=PE X p (tE X W F e)
abbrev GT(X:Cx)(W:Wd)(F:aL)(e:E)(p:Expr):Prop:=PT X p (tT X W F e)
abbrev GW(X:Cx)(W:Wd)(F:aL)(e:E)(p:Expr):Prop:=PW X p (tT X W F e)
def _root_.L2.PE.imp{p:Expr}{t t':TE}(h:PE X p t)(i:∀σ H Q,t' σ H Q->t σ H Q):PE X p t':=λae s σ H Q I hw=>h ae s σ H Q I (i σ H Q hw)
def _root_.L2.PT.imp{p:Expr}{t t':TT}(h:PT X p t)(i:∀σ H Q,t' σ H Q->t σ H Q):PT X p t':=λae s σ H Q I hw=>h ae s σ H Q I (i σ H Q hw)
def _root_.L2.PW.imp{p:Expr}{t t':TT}(h:PW X p t)(i:∀σ H Q,t' σ H Q->t σ H Q):PW X p t':=λw ae s σ H Q I hw=>h w ae s σ H Q I (i σ H Q hw)
def _root_.L2.PA.imp{p:List Expr}{t t':TA}(h:PA X p t)(i:∀σ H Q,t' σ H Q->t σ H Q):PA X p t':=λpos ae s σ H Q I hw=>h pos ae s σ H Q I (i σ H Q hw)
def HI{e:E}(σ:St)(H:Hp)(Q:Bool->Hp->Prop)(h:tT X W F e σ H Q):tB (tE X W F e) σ H Q:=by
 obtain⟨H0,G,env,sr,o⟩:=h
 refine⟨H0,G,env,sr,o.imp λp hp v G' H' g t=>?_⟩
 obtain⟨b,rfl,q⟩:=hp
 exact⟨b,t.top.bl,q G' H' g⟩
def sL{e:E}(σ:St)(H:Hp)(Q:Bool->Hp->Prop)(h:tT X W F e σ H Q):AW (tE X W F e) σ H Q:=HI σ H Q h
def Jt(C:dz Γ F W N sc k X){i:Nat}{x:Str}{pos:Pos}(h:(N[i]?==some x&&fb sc x&&okN x)=true):GE X W F (.var i) (.Name x pos):=by
 simp! [zza,zzy] at h;obtain⟨h1,h2,h3⟩:=cZ h.2
 refine(eZ (i:=i) (by rw [C.hN];exact h.1.1) (qR C h.1.2) h1 h2).imp λσ H Q hq=>?_
 obtain⟨H0,G,env,sr,o⟩:=hq
 cases e:env[i]? with
 |none=>unfold aK at o;rw [e] at o;exact o.elim
 |some sl=>
  cases sl with
  |no=>unfold aK at o;rw [e] at o;exact o.elim
  |fn _ _ _=>unfold aK at o;rw [e] at o;exact o.elim
  |own p=>unfold aK at o;rw [e] at o;exact o.elim
  |val p=>
   unfold aK at o;rw [e] at o;obtain⟨o2,hs,v,rfl,r⟩:=sr.slot i _ e
   exact⟨v,hs,o v G H (.refl sr.sub) (.of r)⟩
def Mt(C:dz Γ F W N sc k X){i:Nat}{x:Str}{pos:Pos}(h:(N[i]?==some x&&fb sc x&&okN x)=true):GE X W F (.dR i) (.Name x pos):=by
 simp! [zza,zzy] at h;obtain⟨h1,h2,h3⟩:=cZ h.2
 refine(eZ (i:=i) (by rw [C.hN];exact h.1.1) (qR C h.1.2) h1 h2).imp λσ H Q hq=>?_
 obtain⟨H0,G,env,sr,o⟩:=hq
 cases e:env[i]? with
 |none=>unfold aK at o;rw [e] at o;exact o.elim
 |some sl=>
  cases sl with
  |no=>unfold aK at o;rw [e] at o;exact o.elim
  |fn _ _ _=>unfold aK at o;rw [e] at o;exact o.elim
  |own p=>
   unfold aK at o;rw [e] at o;obtain⟨o2,hs,v,rfl,r⟩:=sr.slot i _ e
   exact⟨v,hs,o v G H (.refl sr.sub) ⟨.inr r,λz=>nomatch z⟩⟩
  |val p=>
   unfold aK at o;rw [e] at o;obtain⟨o2,hs,v,rfl,r⟩:=sr.slot i _ e
   exact⟨v,hs,o v G H (.refl sr.sub) (.of r)⟩
def jf{p:PV}{v:V}{e:Expr}(h:PE X e (tC v))(r:∀G,Rep W G p v):GE X W F (.cst p) e:=by
 refine L2.PE.imp h λσ H Q hq=>?_
 obtain⟨H0,G,env,sr,o⟩:=hq
 exact o v G H (.refl sr.sub) (.of (r G))
def Hj(C:dz Γ F W N sc k X){g x:Str}{p:PV}{pos:Pos}(h:(g==x&&gC sc x&&okN x&&Γ.gs.any λq=>q.1==g&&x8 q.2 p)=true):GE X W F (.glob g p) (.Name x pos):=by
 simp! [zza,zzy,zzj] at h;obtain⟨⟨⟨rfl,h2⟩,h3⟩,q,hq,e1,e2⟩:=h
 obtain⟨u,v,hm,rv,hr⟩:=C.gs q hq
 rw [e1] at hm;cases AB e2;refine(wX (dA C h2) hm rv (cZ h3).1).imp λσ H Q hq=>?_
 obtain⟨H0,G,env,sr,o⟩:=hq
 exact o v G H (.refl sr.sub) (.of (hr G))
def Res.aN{α:Type}{o:Option α}(c:Str):Res.of o≠.exc c:=by cases o<;>exact λz=>nomatch z
def nK{α β:Type}{o:Option α}{f:α->Res β}{c:Str}(h:∀a,f a≠.exc c):(Res.of o).bind f≠.exc c:=by
 cases o with
 |none=>exact λz=>nomatch z
 |some a=>exact h a
def n9{o:M3}{p q:PV}(c:Str):binOp o p q≠.exc c:=by
 unfold binOp
 repeat' split
 all_goals exact λz=>nomatch z
def Hy{p q:PV}(c:Str):gq p q≠.exc c:=by
 unfold gq
 (repeat' first|split|refine nK λ_=>?_|exact Res.aN c|exact(λz=>nomatch z))
def Hu{p q:PV}(c:Str):gL p q≠.exc c:=by
 unfold gL
 (repeat' first|split|refine nK λ_=>?_|exact Res.aN c|exact(λz=>nomatch z))
def GU{p q:PV}(c:Str):sC p q≠.exc c:=by
 unfold sC
 (repeat' first|split|refine nK λ_=>?_|exact Res.aN c|exact(λz=>nomatch z))
def E0{p q:PV}(c:Str):tX p q≠.exc c:=by
 unfold tX
 (repeat' first|split|refine nK λ_=>?_|exact Res.aN c|exact(λz=>nomatch z))
def E5{p q:PV}(c:Str):vi p q≠.exc c:=by
 unfold vi
 (repeat' first|split|refine nK λ_=>?_|exact Res.aN c|exact(λz=>nomatch z))
def GN{p q:PV}(c:Str):i4 p q≠.exc c:=by
 unfold i4
 (repeat' first|split|refine nK λ_=>?_|exact Res.aN c|exact(λz=>nomatch z))
def DJ{p q:PV}(c:Str):f6 p q≠.exc c:=by
 unfold f6
 (repeat' first|split|refine nK λ_=>?_|exact Res.aN c|exact(λz=>nomatch z))
def GQ{p q:PV}(c:Str):oj p q≠.exc c:=by
 unfold oj
 (repeat' first|split|refine nK λ_=>?_|exact Res.aN c|exact(λz=>nomatch z))
def Bf{p q:PV}(c:Str):f7 p q≠.exc c:=by
 unfold f7
 (repeat' first|split|refine nK λ_=>?_|exact Res.aN c|exact(λz=>nomatch z))
def dH{o:A4}{p q:PV}(c:Str):dN o p q≠.exc c:=match o with
 |.eq=>Hy c|.ne=>Hu c|.lt=>GU c|.le=>E0 c|.gt=>E5 c|.is=>GN c|.A6=>DJ c|.Ax=>GQ c|.lJ=>Bf c
def two{op:PV->PV->Res PV}{ea eb:E}{e:E}{σ:St}{H:Hp}{Q:VK}(hn:∀p q c,op p q≠.exc c)(he:∀env,aK F e env=(aK F ea env).bind λx=>(aK F eb env).bind λy=>op x y)
 (h:tE X W F e σ H Q):Ni (vv W op) (tE X W F ea) (tE X W F eb) σ H Q:=by
 obtain⟨H0,G,env,sr,o⟩:=h
 rw [he] at o;refine one sr o λp v G1 H1 g1 t1 bF o1=>one bF o1 λq u G2 H2 g2 t2 ff o2=>?_
 obtain⟨r,hr,kr⟩:=o2.val (hn p q)
 exact⟨H0,G2,p,q,r,ff.sub,t1.top.grow g2,t2.top,hr,λw G' H' g' iC=>kr w G' H' ((g1.trans g2).trans g') (.of iC)⟩
def K6(C:dz Γ F W N sc k X){o:M3}{a b:E}{pa pb:Expr}{pos:Pos}(ha:GE X W F a pa)(hb:GE X W F b pb):GE X W F (.bin o a b) (.BinOp pa (QR o) pb pos):=
 (Oh (My C.K o) ha hb).imp λσ H Q h=>two (λp q c=>n9 c) (λenv=>by rw [aK]) h
def Lp(C:dz Γ F W N sc k X){o:A4}{a b:E}{pa pb:Expr}{pos:Pos}(ha:GE X W F a pa)(hb:GE X W F b pb)(hm:behindInMarks (rM o) pb=false):GE X W F (.cmp o a b) (.Compare pa [rM o] [pb] pos):=
 (FA (ic C.K C.room.units o) ha hb hm).imp λσ H Q h=>two (λp q c=>dH c) (λenv=>by rw [aK]) h
theorem Kh(C:dz Γ F W N sc k X){o:A4}{a b:E}{pa pb:Expr}{pos:Pos}(ha:GE X W F a pa)(hb:GE X W F b pb)(hm:behindInMarks (rM o) pb=false):GT X W F (.cmp o a b) (.Compare pa [rM o] [pb] pos):=
 (FD (ic C.K C.room.units o) ha hb hm).imp λσ H Q h=>by
  have h2:=sL σ H Q h
  exact two (λp q c=>dH c) (λenv=>by rw [aK]) h2
def Ib{c1 c2:A4}{a b c:E}(σ:St)(H:Hp)(Q:VK)(h:tE X W F (.ch c1 c2 a b c) σ H Q):v3 (vv W (dN c1)) (vv W (dN c2)) (tE X W F a) (tE X W F b) (tE X W F c) σ H Q:=by
 obtain⟨H0,G,env,sr,o⟩:=h
 rw [aK] at o;refine one sr o λp v G1 H1 g1 t1 bF o1=>one bF o1 λq u G2 H2 g2 t2 ff o2=>?_
 obtain⟨r,hr,kr⟩:=o2.bind.val (dH)
 refine⟨H0,G2,p,q,r,ff.sub,t1.top.grow g2,t2.top,hr,λw G3 H3 g3 iC=>?_⟩
 cases r with
 |bl t=>
  simp! [Rep] at iC;subst iC;refine⟨t,rfl,?_⟩;cases t with
  |false=>
   rw [if_neg zzf];have vf:Out X W (Res.ok (PV.bl false)) σ G2 H2 _:=kr
   exact vf _ G3 H3 ((g1.trans g2).trans g3) (.of .b)
  |true=>
   rw [if_pos rfl];have vf:Out X W ((aK F c env).bind λz=>dN c2 q z) σ G2 H2 _:=kr
   refine one (ff.grow g3) (vf.grow g3) λz y G4 H4 g4 t4 JA o4=>?_
   obtain⟨r4,hr4,kr4⟩:=o4.val (dH)
   exact⟨H0,G4,q,z,r4,JA.sub,t2.top.grow (g3.trans g4),t4.top,hr4,λw G5 H5 g5 Wn=>kr4 w G5 H5 ((((g1.trans g2).trans g3).trans g4).trans g5) (.of Wn)⟩
 |aD=>exact zzk kr
 |int _=>exact zzk kr
 |str _=>exact zzk kr
 |tup _=>exact zzk kr
 |lst _=>exact zzk kr
 |exc _=>exact zzk kr
 |bf _ _=>exact zzk kr
def NC(C:dz Γ F W N sc k X){o1 o2:A4}{a b c:E}{pa pb pc:Expr}{pos:Pos}(ha:GE X W F a pa)(hb:GE X W F b pb)(hc:GE X W F c pc)(hm:lastMarks [rM o1,rM o2] [pb,pc]=false):GE X W F (.ch o1 o2 a b c) (.Compare pa [rM o1,rM o2] [pb,pc] pos):=
 (DB (ic C.K C.room.units o1) (ic C.K C.room.units o2) ha hb hc hm).imp Ib
def NT(C:dz Γ F W N sc k X){o1 o2:A4}{a b c:E}{pa pb pc:Expr}{pos:Pos}(ha:GE X W F a pa)(hb:GE X W F b pb)(hc:GE X W F c pc)(hm:lastMarks [rM o1,rM o2] [pb,pc]=false):GT X W F (.ch o1 o2 a b c) (.Compare pa [rM o1,rM o2] [pb,pc] pos):=
 (BL (ic C.K C.room.units o1) (ic C.K C.room.units o2) ha hb hc hm).imp λσ H Q h=>Ib σ H _ (sL σ H Q h)
theorem JR{a:E}{pa:Expr}{pos:Pos}(ha:GE X W F a pa):GE X W F (.neg a) (.UnaryOp .USub pa pos):=
 (OF (Ey (W:=W)) ha).imp λσ H Q h=>by
  obtain⟨H0,G,env,sr,o⟩:=h
  rw [aK] at o;refine one sr o λp v G1 H1 g1 t1 bF o1=>?_
  cases p with
  |int i=>exact⟨H0,G1,i,bF.sub,t1.top,λw G' H' g' iC=>o1 w G' H' (g1.trans g') (.of iC)⟩
  |bl _=>exact zzk o1
  |aD=>exact zzk o1
  |str _=>exact zzk o1
  |tup _=>exact zzk o1
  |lst _=>exact zzk o1
  |exc _=>exact zzk o1
  |bf _ _=>exact zzk o1
theorem K4{a:E}{pa:Expr}{pos:Pos}(ha:GE X W F a pa):GE X W F (.not a) (.UnaryOp .Not pa pos):=
 (JG ha).imp λσ H Q h=>by
  obtain⟨H0,G,env,sr,o⟩:=h
  rw [aK] at o;refine one sr o λp v G1 H1 g1 t1 bF o1=>?_
  cases p with
  |bl b=>exact⟨b,t1.top.bl,o1 _ G1 H1 g1 (.of .b)⟩
  |int _=>exact zzk o1
  |aD=>exact zzk o1
  |str _=>exact zzk o1
  |tup _=>exact zzk o1
  |lst _=>exact zzk o1
  |exc _=>exact zzk o1
  |bf _ _=>exact zzk o1
theorem IQ{a:E}{pa:Expr}{pos:Pos}(ha:GT X W F a pa):GT X W F (.not a) (.UnaryOp .Not pa pos):=
 (K0 ha).imp λσ H Q h=>by
  obtain⟨H0,G,env,sr,o⟩:=h
  rw [aK] at o;refine Fs sr o λb G1 H1 g1 bF o1=>?_
  obtain⟨b',e,q⟩:=o1
  cases e;exact q G1 H1 g1
theorem Cf{a b:E}{pa pb:Expr}{r:List Expr}{pos:Pos}(he:gA b=true)(ha:GE X W F a pa)(hb:GE X W F b (.BoolOp .And (pb::r) pos)):GE X W F (.and a b) (.BoolOp .And (pa::pb::r) pos):=
 (Lq ha hb).imp λσ H Q h=>by
  obtain⟨H0,G,env,sr,o⟩:=h
  rw [aK] at o;refine one sr o λp v G1 H1 g1 t1 bF o1=>?_
  cases p with
  |bl t=>
   refine⟨t,t1.top.bl,?_⟩;cases t with
   |true=>
    rw [if_pos rfl];have tm:Out X W (aK F b env) σ G1 H1 _:=o1
    exact⟨H0,G1,env,bF,tm.imp λp hp v G' H' g' t'=>hp v G' H' (g1.trans g') (.of (t'.rep he))⟩
   |false=>
    rw [if_neg zzf];have tm:Out X W (Res.ok (PV.bl false)) σ G1 H1 _:=o1
    exact tm _ G1 H1 g1 (.of .b)
  |int _=>exact zzk o1
  |aD=>exact zzk o1
  |str _=>exact zzk o1
  |tup _=>exact zzk o1
  |lst _=>exact zzk o1
  |exc _=>exact zzk o1
  |bf _ _=>exact zzk o1
theorem HF{a b:E}{pa pb:Expr}{r:List Expr}{pos:Pos}(he:gA b=true)(ha:GE X W F a pa)(hb:GE X W F b (.BoolOp .Or (pb::r) pos)):GE X W F (.or a b) (.BoolOp .Or (pa::pb::r) pos):=
 (ND ha hb).imp λσ H Q h=>by
  obtain⟨H0,G,env,sr,o⟩:=h
  rw [aK] at o;refine one sr o λp v G1 H1 g1 t1 bF o1=>?_
  cases p with
  |bl t=>
   refine⟨t,t1.top.bl,?_⟩;cases t with
   |false=>
    rw [if_neg zzf];have tm:Out X W (aK F b env) σ G1 H1 _:=o1
    exact⟨H0,G1,env,bF,tm.imp λp hp v G' H' g' t'=>hp v G' H' (g1.trans g') (.of (t'.rep he))⟩
   |true=>
    rw [if_pos rfl];have tm:Out X W (Res.ok (PV.bl true)) σ G1 H1 _:=o1
    exact tm _ G1 H1 g1 (.of .b)
  |int _=>exact zzk o1
  |aD=>exact zzk o1
  |str _=>exact zzk o1
  |tup _=>exact zzk o1
  |lst _=>exact zzk o1
  |exc _=>exact zzk o1
  |bf _ _=>exact zzk o1
theorem A1{a b:E}{pa pb:Expr}{r:List Expr}{pos:Pos}(ha:GT X W F a pa)(hb:GW X W F b (.BoolOp .And (pb::r) pos)):GW X W F (.and a b) (.BoolOp .And (pa::pb::r) pos):=
 (pw_and ha hb).imp λσ H Q h=>by
  obtain⟨H0,G,env,sr,o⟩:=h
  rw [aK] at o;refine Fs sr o λt G1 H1 g1 bF o1=>?_
  cases t with
  |true=>
   rw [if_pos rfl];have tm:Out X W (aK F b env) σ G1 H1 _:=o1
   exact⟨H0,G1,env,bF,tm.imp λp hp=>by obtain⟨c,rfl,q⟩:=hp;exact⟨c,rfl,λG' H' g'=>q G' H' (g1.trans g')⟩⟩
  |false=>
   rw [if_neg zzf];obtain⟨c,e,q⟩:=(show Out X W (Res.ok (PV.bl false)) σ G1 H1 _ from o1)
   cases e;exact q G1 H1 g1
theorem HQ{a b:E}{pa pb:Expr}{r:List Expr}{pos:Pos}(ha:GT X W F a pa)(hb:GW X W F b (.BoolOp .Or (pb::r) pos)):GW X W F (.or a b) (.BoolOp .Or (pa::pb::r) pos):=
 (pw_or ha hb).imp λσ H Q h=>by
  obtain⟨H0,G,env,sr,o⟩:=h
  rw [aK] at o;refine Fs sr o λt G1 H1 g1 bF o1=>?_
  cases t with
  |false=>
   rw [if_neg zzf];have tm:Out X W (aK F b env) σ G1 H1 _:=o1
   exact⟨H0,G1,env,bF,tm.imp λp hp=>by obtain⟨c,rfl,q⟩:=hp;exact⟨c,rfl,λG' H' g'=>q G' H' (g1.trans g')⟩⟩
  |true=>
   rw [if_pos rfl];obtain⟨c,e,q⟩:=(show Out X W (Res.ok (PV.bl true)) σ G1 H1 _ from o1)
   cases e;exact q G1 H1 g1
theorem LJ{c a b:E}{pc pa pb:Expr}{pos:Pos}(VD:gA a=true)(Vz:gA b=true)(hc:GT X W F c pc)(ha:GE X W F a pa)(hb:GE X W F b pb):GE X W F (.ite c a b) (.IfExp pc pa pb pos):=
 (BA hc ha hb).imp λσ H Q h=>by
  obtain⟨H0,G,env,sr,o⟩:=h
  rw [aK] at o;refine Fs sr o λt G1 H1 g1 bF o1=>?_
  cases t with
  |true=>
   rw [if_pos rfl];have tm:Out X W (aK F a env) σ G1 H1 _:=o1
   exact⟨H0,G1,env,bF,tm.imp λp hp v G' H' g' t'=>hp v G' H' (g1.trans g') (.of (t'.rep VD))⟩
  |false=>
   rw [if_neg zzf];have tm:Out X W (aK F b env) σ G1 H1 _:=o1
   exact⟨H0,G1,env,bF,tm.imp λp hp v G' H' g' t'=>hp v G' H' (g1.trans g') (.of (t'.rep Vz))⟩
noncomputable def tF(X:Cx)(W:Wd)(F:aL)(e:E):TE:=λσ H Q=>∃H0 G env,SR W H0 env σ G H/\Out X W (aK F e env) σ G H λp=>∃xs,p=.lst xs/\∀a vs G' H',aC W G H G' H'->H' a=none->aq W G' xs vs->Q (.ref a) (upd H' a (.lst vs))
abbrev GF(X:Cx)(W:Wd)(F:aL)(e:E)(p:Expr):Prop:=PE X p (tF X W F e)
theorem GF.ge{e:E}{p:Expr}(h:GF X W F e p)(hl:∀env q,aK F e env=.ok q->∃xs,q=.lst xs):GE X W F e p:=
 L2.PE.imp h λσ H Q hq=>by
  obtain⟨H0,G,env,sr,o⟩:=hq
  refine⟨H0,G,env,sr,?_⟩;cases r:aK F e env with
  |bad=>rw [r] at o;exact o
  |exc c=>rw [r] at o;exact o
  |ok q=>
   rw [r] at o;obtain⟨xs,rfl⟩:=hl env q r
   exact⟨xs,rfl,λa vs G' H' g ha l=>o _ _ _ (g.trans (.new g.sub ha)) (.of (.l (.inl (.inl ak)) (aq.same (bz (g.sub.free ha)) xs l)))⟩
def notStar{e:E}{p:Expr}(h:aZ Γ N sc e p=true):∀env ps,starEach (p::ps) env=(false,eval p env)::starEach ps env:=by
 intro env ps;cases p<;>first|rfl|(cases e<;>first|(exact aP h)|(rename_i q;cases q<;>exact aP h))
theorem eJ:∀{es:Es} {ps:List Expr},gQ Γ N sc es ps=true->∀env pos,(backTo pos (starEach ps env)).any (·.1)=false
 |.nil,[],_,_,_=>rfl
 |.cons e es,p::ps,h,env,pos=>by
  replace h:=az h
  rw [notStar h.1];show(false||(backTo pos (starEach ps env)).any (·.1))=false
  rw [eJ h.2]
  rfl
 |.nil,_::_,h,_,_=>aP h
 |.cons _ _,[],h,_,_=>aP h
abbrev GA(X:Cx)(W:Wd)(F:aL)(es:Es)(ps:List Expr):Prop:=PA X ps (tA X W F es)
theorem MD:GA X W F .nil []:=L2.PA.imp dq λσ H Q h=>by
 obtain⟨H0,G,env,sr,o⟩:=h
 rw [cY] at o;exact o [] G H (.refl sr.sub) ⟨.nil,λ_=>.nil⟩
theorem GK{e:E}{es:Es}{p:Expr}{ps:List Expr}(he:GE X W F e p)(hs:GA X W F es ps)(dG:starEach (p::ps) X.env=(false,eval p X.env)::starEach ps X.env):GA X W F (.cons e es) (p::ps):=
 L2.PA.imp (bM he hs dG) λσ H Q h=>by
  obtain⟨H0,G,env,sr,o⟩:=h
  rw [cY] at o;refine one sr o λq v G1 H1 g1 t1 bF o1=>args bF o1 λqs vs G2 H2 g2 t2 ff o2=>?_
  refine o2 (v::vs) G2 H2 (g1.trans g2) ⟨.cons (t1.top.grow g2) t2.top,λz=>?_⟩
  unfold iq at z;rw [zza] at z;exact .cons (Rep.same g2.g q (t1.rep z.1)) (t2.rep z.2)
theorem jb:∀{es:Es} {env:Sl} {ps:List PV},cY F es env=.ok ps->ps.length=gP es
 |.nil,env,ps,h=>by rw [cY] at h;cases h;rfl
 |.cons e es,env,ps,h=>by
  rw [cY] at h;obtain⟨p,_,h⟩:=Res.bp h
  obtain⟨qs,hq,h⟩:=Res.bp h
  cases h;rw [zzL,jb hq]
  rfl
theorem JT{es:Es}{ps:List Expr}{x1:Nat}{pos:Pos}(Ca:iq es=true)(hl:gP es<1000)(h:GA X W F es ps):GE X W F (.tup es) (.Tuple ps x1 pos):=
 L2.PE.imp (ME h) λσ H Q hq=>by
  obtain⟨H0,G,env,sr,o⟩:=hq
  rw [aK] at o;have o':=o
  refine⟨H0,G,env,sr,?_⟩;cases r:cY F es env with
  |bad=>rw [r] at o;exact o
  |exc c=>rw [r] at o;exact o
  |ok qs=>
   rw [r] at o;have hlen:=jb r
   intro vs G1 H1 g1 t;have l:=t.rep Ca
   refine⟨by rw [l.length,hlen];exact Nat.le_of_lt (Nat.lt_trans hl (by decide)),λp hp=>?_⟩
   exact o _ _ _ (g1.trans (.new g1.sub hp)) (.of (.t (.inl ak) (aq.same (bz (g1.sub.free hp)) qs l)))
theorem DW{es:Es}{ps:List Expr}{pos:Pos}(Ca:iq es=true)(hl:gP es<1000)(h:GA X W F es ps):GF X W F (.lst es) (.List ps pos):=
 L2.PE.imp (Kk h) λσ H Q hq=>by
  obtain⟨H0,G,env,sr,o⟩:=hq
  rw [aK] at o;refine⟨H0,G,env,sr,?_⟩;cases r:cY F es env with
  |bad=>rw [r] at o;exact o
  |exc c=>rw [r] at o;exact o
  |ok qs=>
   rw [r] at o;have hlen:=jb r
   obtain⟨xs,e,o⟩:=o
   cases e;intro vs G1 H1 g1 t;have l:=t.rep Ca
   exact⟨by rw [l.length,hlen];exact Nat.le_of_lt (Nat.lt_trans hl (by decide)),λp hp=>o p vs G1 H1 g1 hp l⟩
theorem lst_is{es:Es}:∀env q,aK F (.lst es) env=.ok q->∃xs,q=.lst xs:=λenv q h=>by
 rw [aK] at h;obtain⟨ps,_,h⟩:=Res.bp h
 cases h;exact⟨_,rfl⟩
def yN{p q:PV}(c:Str):aG p q≠.exc c:=by
 unfold aG
 (repeat' first|split|refine nK λ_=>?_|exact Res.aN c|exact(λz=>nomatch z))
def KW(C:dz Γ F W N sc k X){a b:E}{pa pb:Expr}{pos:Pos}(ha:GE X W F a pa)(hb:GE X W F b pb)(hs:rF pb):GE X W F (.sub a b) (.Subscript pa pb pos):=
 (Iw (Rw C.K C.room.units) ha hb hs).imp λσ H Q h=>two (λp q c=>yN c) (λenv=>by rw [aK]) h
def DA{e:E}{p:Expr}(h:aZ Γ N sc e p=true):rF p:=by
 intro o i;cases p<;>first|rfl|(cases e<;>first|(exact aP h)|(rename_i q;cases q<;>exact aP h))
def qk{e:E}{p:Expr}(h:aZ Γ N sc e p=true)(op:CmpOp):behindInMarks op p=false:=by
 cases p<;>first|rfl|(cases e<;>first|(exact aP h)|(rename_i q;cases q<;>exact aP h))
theorem Hz:PO X none (B8 X W F .no):=λae s σ H Q I h=>F3 ae s σ H Q I (by
 obtain⟨H0,G,env,sr,o⟩:=h
 rw [xj] at o;exact o G H (.refl sr.sub))
theorem Fx{e:E}{p:Expr}(h:GE X W F e p):PO X (some p) (B8 X W F (.some e)):=λae s σ H Q I hq=>FG h ae s σ H Q I (by
 obtain⟨H0,G,env,sr,o⟩:=hq
 rw [xj] at o;refine one sr o λq v G1 H1 g1 t1 bF o1=>?_
 cases q with
 |int i=>exact⟨i,t1.top.int,o1 G1 H1 g1⟩
 |bl _=>exact zzk o1
 |aD=>exact zzk o1
 |str _=>exact zzk o1
 |tup _=>exact zzk o1
 |lst _=>exact zzk o1
 |exc _=>exact zzk o1
 |bf _ _=>exact zzk o1)
def uq{p:PV}{lo hi:Option Int}(c:Str):hX p lo hi≠.exc c:=by
 unfold hX
 (repeat' first|split|refine nK λ_=>?_|exact Res.aN c|exact(λz=>nomatch z))
theorem A3(C:dz Γ F W N sc k X){a:E}{lo hi:Oe}{pa:Expr}{pl ph:Option Expr}{p2 pos:Pos}(ha:GE X W F a pa)(hl:PO X pl (B8 X W F lo))(hh:PO X ph (B8 X W F hi)):GE X W F (.slice a lo hi) (.Subscript pa (.Slice pl ph none p2) pos):=
 (AK (QZ C.K) ha hl hh).imp λσ H Q h=>by
  obtain⟨H0,G,env,sr,o⟩:=h
  rw [aK] at o;refine one sr o λp v G1 H1 g1 t1 bF o1=>?_
  refine⟨H0,G1,env,bF,o1.bind.imp λl uh G2 H2 g2=>?_⟩
  refine⟨H0,G2,env,bF.grow g2,(uh.grow g2).bind.imp λh' Wh G3 H3 g3=>?_⟩
  obtain⟨r,hr,kr⟩:=(Wh.grow g3).val (λc=>uq c)
  exact⟨H0,G3,p,r,((bF.grow g2).grow g3).sub,t1.top.grow (g2.trans g3),hr,λw G' H' g' iC=>kr w G' H' (((g1.trans g2).trans g3).trans g') (.of iC)⟩
def EB{CX:Ao}{f:Addr}{fd:FuncData}{ps:List Str}{sp:Sp}{E:XK}{ae:List (Addr×Obj)}{σ:St}{H:Hp}{s:Shared}{Q:VK}{us:List Value}{vs:List V}(FO:gW X.prog X.w X.K X.mg X.base CX k f fd ps sp)(hr:dP k X.A)(hb:Binds X.K fd ps [])
 (hx:∀e s',CX X.stack H s E e s'->X.xe e s') (I:Inv X ae σ H s) (r:Vals vs us) (h:sp vs H Q E):wpAny (model X.prog X.w) X.A (call (.ref f) us) (EP X ae σ Q) X.xe s:=by
 have hl:us.length=ps.length:=by rw [<-r.length];exact FO.len _ _ _ _ h
 have k7:=hb s us I.pP (by rw [zz6];exact hl)
 rw [zz6] at k7;refine wpAny_call (codeAny_mono (FO.run X.A X.stack s H ⟨us,[]⟩ us vs Q E hr I.zK k7 r h) λr s' hq=>?_)
 cases r with
 |error e=>exact hx e s' hq
 |ok fl=>
  cases fl with
  |ret u=>exact I.after hq
  |next=>exact zzk hq
  |brk=>exact zzk hq
  |cont=>exact zzk hq
def DT.imp{P:Program}{w:World}{outer:List Env}{H:Hp}{s s':Shared}{E E':XK}{e:Value}(h:dW P w outer H s E e s')(i:∀C a H',E C a H'->E' C a H'):dW P w outer H s E' e s':=by
 obtain⟨a,C,t,vs,H',B,rfl,F⟩:=h
 exact⟨a,C,t,vs,H',B,rfl,⟨F.os,F.bare,F.aJ,F.zq,F.tn,F.tup,F.dU,F.cX,F.un,i _ _ _ F.ends⟩⟩
def mL(hr:dP k X.A){f:Str}{fa:Addr}{fd:FuncData}{pn:List Str}{q:Option (Str×List Nat)}{ae:List (Addr×Obj)}{σ:St}{G H:Hp}{s:Shared}{Q:VK}{us:List Value}{vs:List V}{as:List PV}
 (FO:gW X.prog X.w X.K X.mg X.base (dW X.prog X.w) k fa fd pn (Aq W F f pn.length q)) (hb:Binds X.K fd pn []) (hlen:F f as≠.bad->vs.length=pn.length)
 (I:Inv X ae σ H s) (sg:aA G H) (tb:cN W G H) (l:B9 W G q as vs) (r:Vals vs us) (o:Out X W (F f as) σ G H λp=>dj W G H p Q):wpAny (model X.prog X.w) X.A (call (.ref fa) us) (EP X ae σ Q) X.xe s:=by
 have Bu:F f as≠.bad:=λz=>by rw [z] at o;exact o
 refine EB (E:=λCv ao H'=>∃c,F f as=.exc c/\XE W c G H Cv ao H') FO hr hb (λe s' x=>?_) I r ⟨hlen Bu,G,as,sg,tb,l,?_⟩
 ·cases z:F f as with
  |ok q=>
   obtain⟨a,C',t,vs,H',B,rfl,Fl⟩:=x
   obtain⟨c,e1,_⟩:=Fl.ends
   rw [z] at e1;cases e1
  |exc c=>
   rw [z] at o;refine o ae G H s e s' I (.refl sg) (DT.imp x λC1 a H' y=>?_);obtain⟨c',e1,y⟩:=y
   rw [z] at e1;cases e1;exact y
  |bad=>exact absurd z Bu
 ·cases z:F f as with
  |ok q=>
   rw [z] at o;exact λv G' H' g' rp=>o v G' H' g' rp
  |exc c=>exact λCv ao H' x=>⟨c,rfl,x⟩
  |bad=>exact absurd z Bu
def dz.rm(C:dz Γ F W N sc k X):dP k X.A:=C.room.mono (Nat.le_succ k)
def EF(C:dz Γ F W N sc k X){f:Str}{e:E}{es:Es}{p:Expr}{ps:List Expr}{np pos:Pos}(hf:Γ.fs.contains f=true)(hg:gC sc f=true)(ho:okN f=true)(Ca:iq (.cons e es)=true)(ha:GA X W F (.cons e es) (p::ps))
 (dG:starEach (p::ps) X.env=(false,eval p X.env)::starEach ps X.env) (hpl:(backTo pos (starEach ps X.env)).any (·.1)=false):GE X W F (.call f (.cons e es)) (.Call (.Name f np) (p::ps) [] pos):=by
 intro ae s σ H Q I h;obtain⟨H0,G,env,sr,o⟩:=h
 rw [aK] at o;obtain⟨fa,fd,pn,FO,hm,hk,hb,hlen⟩:=(C.fns f hf).ex
 refine wpAny_Call_Name_kw (fU I (dA C hg) hm ?_ (cZ ho).1);refine PySem.W.callWith_K (h₀:=X.base) I.ok.mod.PK hk (cj (ha pos ae s σ H (λvs H1=>∃G1 as,aA G1 H1/\cN W G1 H1/\aq W G1 as vs/\Out X W (F f as) σ G1 H1 λp=>dj W G1 H1 p Q) I ?_) λus s1 ⟨vs,H1,I1,r,q⟩=>⟨I1.pP,?_⟩) dG hpl
 ·refine args sr o λas vs G1 H1 g1 t bF o1=>⟨G1,as,bF.sub,bF.tab,t.rep Ca,o1.imp λp hp v G' H' g' rp=>hp v G' H' (g1.trans g') (.of rp)⟩
 ·obtain⟨G1,as,sg,tb,l,o1⟩:=q
  exact mL C.rm FO hb (λz=>by rw [l.length];exact hlen as z) I1 sg tb l r o1
def CB(C:dz Γ F W N sc k X){f:Str}{np pos:Pos}(hf:Γ.fs.contains f=true)(hg:gC sc f=true)(ho:okN f=true):GE X W F (.call f .nil) (.Call (.Name f np) [] [] pos):=by
 intro ae s σ H Q I h;obtain⟨H0,G,env,sr,o⟩:=h
 rw [aK,cY] at o;obtain⟨fa,fd,pn,FO,hm,hk,hb,hlen⟩:=(C.fns f hf).ex
 refine wpAny_Call_Name_kw (fU I (dA C hg) hm ?_ (cZ ho).1);refine PySem.W.callWith_K0 I.pP hk ?_;have o':Out X W (F f []) σ G H λp=>∀v G' H',aC W G H G' H'->Got W H0 G' H' (.call f .nil) p v->Q v H':=o
 exact mL (us:=[]) (vs:=[]) (as:=[]) (q:=none) C.rm FO hb (λz=>hlen [] z) I sr.sub sr.tab (show aq W G [] [] from .nil) .nil (o'.imp λp hp v G' H' g' rp=>hp v G' H' g' (.of rp))
def FT{ps:List PV}(c:Str):vm ps≠.exc c:=by
 unfold vm
 (repeat' first|split|refine nK λ_=>?_|exact Res.aN c|exact(λz=>nomatch z))
def Ek{ps:List PV}(c:Str):CT ps≠.exc c:=by
 unfold CT
 (repeat' first|split|refine nK λ_=>?_|exact Res.aN c|exact(λz=>nomatch z))
def Hr{ps:List PV}(c:Str):Bw ps≠.exc c:=by
 unfold Bw
 (repeat' first|split|refine nK λ_=>?_|exact Res.aN c|exact(λz=>nomatch z))
def G6{ps:List PV}(c:Str):Bt ps≠.exc c:=by
 unfold Bt
 (repeat' first|split|refine nK λ_=>?_|exact Res.aN c|exact(λz=>nomatch z))
def EL{ps:List PV}(c:Str):Cs ps≠.exc c:=by
 unfold Cs
 (repeat' first|split|refine nK λ_=>?_|exact Res.aN c|exact(λz=>nomatch z))
def zy{ps:List PV}(c:Str):me ps≠.exc c:=by
 unfold me
 (repeat' first|split|refine nK λ_=>?_|exact Res.aN c|exact(λz=>nomatch z))
def vR{ps:List PV}(c:Str):jn ps≠.exc c:=by
 unfold jn
 (repeat' first|split|refine nK λ_=>?_|exact Res.aN c|exact(λz=>nomatch z))
def sN{ps:List PV}(c:Str):iw ps≠.exc c:=by
 unfold iw
 (repeat' first|split|refine nK λ_=>?_|exact Res.aN c|exact(λz=>nomatch z))
def yw{ps:List PV}(c:Str):mQ ps≠.exc c:=by
 unfold mQ
 (repeat' first|split|refine nK λ_=>?_|exact Res.aN c|exact(λz=>nomatch z))
def uY{ps:List PV}(c:Str):i7 ps≠.exc c:=by
 unfold i7
 (repeat' first|split|refine nK λ_=>?_|exact Res.aN c|exact(λz=>nomatch z))
def zW{ps:List PV}(c:Str):nE ps≠.exc c:=by
 unfold nE
 (repeat' first|split|refine nK λ_=>?_|exact Res.aN c|exact(λz=>nomatch z))
def y9{b:B}{ps:List PV}(c:Str):dS b ps≠.exc c:=match b with
 |.len=>FT c|.abs=>Ek c|.max2=>Hr c|.int=>G6 c|.str=>EL c|.tuple=>zy c|.sorted=>vR c|.dict=>sN c|.ma=>yw c
def yO{m:M}{ps:List PV}(c:Str):CV m ps≠.exc c:=match m with
 |.iM=>uY c|.index=>zW c
def Jo(C:dz Γ F W N sc k X)(b:B){e:Expr}{es:List Expr}{t:TA}{np pos:Pos}(hg:gC sc (bN b)=true)(hm:Γ.bs.contains (bN b)=true)(ha:PA X (e::es) t)
 (he:starEach (e::es) X.env=(false,eval e X.env)::starEach es X.env) (hpl:(backTo pos (starEach es X.env)).any (·.1)=false):PE X (.Call (.Name (bN b) np) (e::es) [] pos) (PR (Ap W (dS b)) t):=by
 have kG:=C.bs _ (zzn.mp hm)
 have uG:=dA C hg
 cases b
 case len=>exact dI (yu C.K) uG kG PySem.boot_len ha (he:=he) (hpl:=hpl)
 case abs=>exact dI za uG kG (by decide+kernel) ha (he:=he) (hpl:=hpl)
 case max2=>exact dI (zZ C.calm) uG kG (by decide+kernel) ha (he:=he) (hpl:=hpl)
 case int=>exact d8 zi uG kG (by decide+kernel) ha (he:=he) (hpl:=hpl)
 case str=>exact d8 zU uG kG (by decide+kernel) ha (he:=he) (hpl:=hpl)
 case tuple=>exact d8 (uk C.K) uG kG (by decide+kernel) ha (he:=he) (hpl:=hpl)
 case sorted=>exact dI (qf C.K C.calm) uG kG (by decide+kernel) ha (he:=he) (hpl:=hpl)
 case dict=>exact d8 (sO C.K C.calm C.room.units) uG kG (by decide+kernel) ha (he:=he) (hpl:=hpl)
 case ma=>exact d8 (ui C.K C.calm) uG kG (by decide+kernel) ha (he:=he) (hpl:=hpl)
def MF{op:List PV->Res PV}{es:Es}{e:E}{σ:St}{H:Hp}{Q:VK}(hn:∀ps c,op ps≠.exc c)(he:∀env,aK F e env=(cY F es env).bind λps=>op ps)(h:tE X W F e σ H Q):PR (Ap W op) (tA X W F es) σ H Q:=by
 obtain⟨H0,G,env,sr,o⟩:=h
 rw [he] at o;refine args sr o λps vs G1 H1 g1 t bF o1=>?_
 obtain⟨r,hr,kr⟩:=o1.val (hn ps)
 exact⟨H0,G1,ps,r,bF.sub,t.top,hr,λw G' H' g' iC=>kr w G' H' (g1.trans g') (.of iC)⟩
def Ki(C:dz Γ F W N sc k X)(b:B){es:Es}{e:Expr}{ps:List Expr}{np pos:Pos}(hg:gC sc (bN b)=true)(hm:Γ.bs.contains (bN b)=true)(ha:GA X W F es (e::ps))
 (he:starEach (e::ps) X.env=(false,eval e X.env)::starEach ps X.env) (hpl:(backTo pos (starEach ps X.env)).any (·.1)=false):GE X W F (.blt b es) (.Call (.Name (bN b) np) (e::ps) [] pos):=
 (Jo C b hg hm ha he hpl).imp λσ H Q h=>MF (λps c=>y9 c) (λenv=>by rw [aK]) h
def Dj{t:Ty}{p:PV}(c:Str):k9 t p≠.exc c:=by
 cases p<;>exact λz=>nomatch z
def KR(C:dz Γ F W N sc k X)(t:Ty){pos:Pos}(hg:gC sc (Str.ofString (uP t))=true)(hm:Γ.bs.contains (Str.ofString (uP t))=true):PE X (.Name (Str.ofString (uP t)) pos) (tC (.ty (uP t))):=by
 have kG:=C.bs _ (zzn.mp hm)
 have uG:=dA C hg
 cases t
 all_goals exact yj uG kG (u:=.type _) (by decide+kernel) rfl (by decide+kernel) (by decide+kernel)
def NL(C:dz Γ F W N sc k X){t:Ty}{a:E}{pa:Expr}{np tp pos:Pos}(hi:gC sc "isinstance"=true)(hb:Γ.bs.contains "isinstance"=true)(hg:gC sc (Str.ofString (uP t))=true)(hm:Γ.bs.contains (Str.ofString (uP t))=true)(ha:GE X W F a pa)
 (dG:∀env ps,starEach (pa::ps) env=(false,eval pa env)::starEach ps env):GE X W F (.ty t a) (.Call (.Name "isinstance" np) [pa,.Name (Str.ofString (uP t)) tp] [] pos):=by
 refine(dI (Bc C.K t) (dA C hi) (C.bs _ (zzn.mp hb)) (by decide+kernel) (bM ha (bM (KR C t hg hm) dq) (dG _ _)) (he:=dG _ _)).imp λσ H Q h=>?_
 obtain⟨H0,G,env,sr,o⟩:=h
 rw [aK] at o;refine one sr o λp v G1 H1 g1 t1 bF o1=>?_
 obtain⟨r,hr,kr⟩:=o1.val (λc=>Dj c)
 exact⟨v,H0,G1,p,r,rfl,bF.sub,t1.top,hr,λw G' H' g' iC=>kr w G' H' (g1.trans g') (.of iC)⟩
def Lb(C:dz Γ F W N sc k X){c:Str}{a:E}{pa:Expr}{np tp pos:Pos}(hi:gC sc "isinstance"=true)(hb:Γ.bs.contains "isinstance"=true)(hg:gC sc c=true)(aJ:okN c=true)(hm:(Γ.cs.contains c||(c=="ValueError"&&Γ.bs.contains c))=true)(ha:GE X W F a pa)
 (dG:∀env ps,starEach (pa::ps) env=(false,eval pa env)::starEach ps env) (Ig:Γ.cs.contains "ValueError"=false):GE X W F (.D0 c a) (.Call (.Name "isinstance" np) [pa,.Name c tp] [] pos):=by
 have key:∀{p:PV} {H0 G H:Hp} {v:V} {σ:St} {kk:PV->Prop} {env:Sl},Top W H0 G H p v->aA G H->Out X W (match p with|.exc d=>Res.ok (PV.bl (if c=="ValueError" then true else(c==d||c=="FloorError")))|_=>.bad) σ G H kk->∃a d D,p=.exc d/\v=.ref a/\d∈W.xs/\X.mg d=some (.ref D)/\H a=some (ja a D):=λ{p H0 G H v σ kk env} t sg o=>by
  cases p with
  |exc d=>
   rcases t with t|t
   ·simp! [Rep] at t;obtain⟨a,D,rfl,hx,hm,ha⟩:=t
    exact⟨a,d,D,rfl,rfl,hx,by rw [<-C.mg];exact hm,sg _ _ ha⟩
   ·exact t.elim
  |int _=>exact zzk o
  |bl _=>exact zzk o
  |aD=>exact zzk o
  |str _=>exact zzk o
  |tup _=>exact zzk o
  |lst _=>exact zzk o
  |bf _ _=>exact zzk o
 by_cases hv:(c==("ValueError":Str))=true
 ·have ec:c="ValueError":=zzy.mp hv
  have Nr:Γ.bs.contains c=true:=by
   rw [zzt,zza] at hm;rcases hm with h|h
   ·rw [ec,Ig] at h;cases h
   ·exact h.2
  subst ec;refine(dI Ab (dA C hi) (C.bs _ (zzn.mp hb)) (by decide+kernel) (bM ha (bM (lj (dA C hg) (C.bs _ (zzn.mp Nr))) dq) (dG _ _)) (he:=dG _ _)).imp λσ H Q h=>?_
  obtain⟨H0,G,env,sr,o⟩:=h
  rw [aK] at o;refine one sr o λp v G1 H1 g1 t1 bF o1=>?_
  obtain⟨a1,d,D,rfl,rfl,hx,hmd,hH⟩:=key (env:=env) t1.top bF.sub o1
  obtain⟨xc,_,hk⟩:=C.xc d hx D hmd
  exact⟨a1,D,"ValueError",true,rfl,hH,xc,hk,o1 _ G1 H1 g1 (.of .b)⟩
 ·have NP:Γ.cs.contains c=true:=by
   rw [zzt,zza] at hm;rcases hm with h|h
   ·exact h
   ·exact absurd h.1 hv
  obtain⟨Cc,hCc⟩:=C.cls c (zzn.mp NP)
  refine(dI yS (dA C hi) (C.bs _ (zzn.mp hb)) (by decide+kernel) (bM ha (bM (DG (dA C hg) hCc (cZ aJ).1) dq) (dG _ _)) (he:=dG _ _)).imp λσ H Q h=>?_
  obtain⟨H0,G,env,sr,o⟩:=h
  rw [aK] at o;refine one sr o λp v G1 H1 g1 t1 bF o1=>?_
  obtain⟨a1,d,D,rfl,rfl,hx,hmd,hH⟩:=key (env:=env) t1.top bF.sub o1
  obtain⟨xc,hk,_⟩:=C.xc d hx D hmd
  have o2:Out X W (Res.ok (PV.bl (if c=="ValueError" then true else(c==d||c=="FloorError")))) σ G1 H1 _:=o1
  rw [if_neg hv] at o2;exact⟨a1,D,Cc,_,rfl,hH,xc,hk c (zzn.mp NP) Cc hCc,o2 _ G1 H1 g1 (.of .b)⟩
def mT:M->String
 |.iM=>"list"|.index=>"list"
def RN(C:dz Γ F W N sc k X){m:M}{p:PV}{v:V}{H0 G H:Hp}(sg:aA G H)(h:Ce m p=true)(t:Top W H0 G H p v):Rv X.K (mT m) v H:=by
 cases m<;>cases p<;>first|(exact aP h)|(cases t.str;rfl)|(obtain⟨a,vs,rfl,h1,_⟩:=t.lst sg;exact .inl ⟨rfl,_,rP C.K h1⟩)
def Jr(C:dz Γ F W N sc k X){m:M}{o:E}{es:Es}{po p:Expr}{ps:List Expr}{apos bL:Pos}(ho:GE X W F o po)(ha:GA X W F es (p::ps))(eh:attributeBase po (mN m) X.env (eval po X.env)=eval po X.env)
 (ES:((backTo bL (starEach (p::ps) X.env)).all (λx=>!x.1)&&(backToKw bL (keywordEach [] X.env)).all (λx=>x.1.isSome)&&decide ((p::ps).length+([]:List Keyword).length+(if([]:List Keyword).isEmpty then 0 else 1)<30))=true)
 (gj:(apos.endLine==bL.line)=true) (hs:starEach (p::ps) X.env=(false,eval p X.env)::starEach ps X.env) (km:(backTo bL (starEach ps X.env)).any (·.1)=false):GE X W F (.KN m o es) (.Call (.Attribute po (mN m) apos) (p::ps) [] bL):=by
 have rd:∀σ H Q,tE X W F (.KN m o es) σ H Q->UO X.K (mT m) (SE W (CV m)) (tE X W F o) (tA X W F es) σ H Q:=λσ H Q h=>by
  obtain⟨H0,G,env,sr,out⟩:=h
  rw [aK] at out;refine one sr out λp v G1 H1 g1 t1 bF o1=>?_
  by_cases hk:Ce m p=true
  ·rw [if_pos hk] at o1;refine⟨RN C bF.sub hk t1.top,args bF o1 λps vs G2 H2 g2 t2 ff o2=>?_⟩
   obtain⟨r,hr,kr⟩:=o2.val (λc=>yO c)
   exact⟨H0,G2,p::ps,r,ff.sub,.cons (t1.top.grow g2) t2.top,hr,λw G' H' g' iC=>kr w G' H' ((g1.trans g2).trans g') (.of iC)⟩
  ·rw [if_neg hk] at o1;exact o1.elim
 cases m
 case iM=>exact(xg PySem.F.plainAttrs_list PySem.F.slot_list_count PySem.F.type_list_count (uW C.K C.room.units) ho ha eh ES gj hs km).imp rd
 case index=>exact(xg PySem.F.plainAttrs_list PySem.F.slot_list_index PySem.F.type_list_index (zm C.K C.room.units) ho ha eh ES gj hs km).imp rd
def SR.set{H0 G H:Hp}{env:Sl}{σ:St}{p:PV}{v:V}(i:Nat)(r:SR W H0 env σ G H)(h:Rep W G p v):SR W H0 (env.set i (.val p)) (σ.set i (some v)) G H where
 len:=by simpa using r.len
 sub:=r.sub
 tab:=r.tab
 jq:=r.jq
 base:=r.base
 slot:=λj s e=>by
  by_cases hj:i=j
  ·subst hj;have bS:i<env.length:=by
    have:=(zzH.mp e).1
    simpa using this
   rw [zzo bS] at e;cases e;exact⟨some v,zzo (by rw [<-r.len];exact bS),v,rfl,h⟩
  ·rw [zzS hj] at e;obtain⟨o,h1,h2⟩:=r.slot j s e
   exact⟨o,by rw [zzS hj];exact h1,h2⟩
 apart:=λa b q q' ad e1 e2 e3 e4=>by
  have ne:∀{c:Nat} {q:PV},(env.set i (.val p))[c]?=some (.own q)->i≠c:=λ{c q} e z=>by
   subst z;have bS:i<env.length:=by
    have:=(zzH.mp e).1
    simpa using this
   rw [zzo bS] at e;cases e
  have n1:=ne e1
  have n2:=ne e2
  rw [zzS n1] at e1 e3;rw [zzS n2] at e2 e4;exact r.apart a b q q' ad e1 e2 e3 e4
noncomputable def gT(K:zz8):Tg->TG
 |.one i=>gf i
 |.two i j=>NN K 2 (xy (gf i) (xy (gf j) J8))
def rH{K:zz8}(hK:W.K=K){tg:Tg}{H0 G H:Hp}{env au:Sl}{σ:St}{p:PV}{v:V}{Q:St->Hp->Prop}(e:Tg.put tg p env=.ok au)(r:SR W H0 env σ G H)(h:Rep W G p v)(hq:∀σ',SR W H0 au σ' G H->Q σ' H):gT K tg v σ H Q:=by
 unfold Tg.put at e;split at e
 ·cases e;exact hq _ (r.set _ h)
 ·cases e;simp! [Rep] at h;obtain⟨a,vs,rfl,sq,l⟩:=h
  obtain⟨v1,r1,rfl,h1,l⟩:=l.cB
  obtain⟨v2,r2,rfl,h2,l⟩:=l.cB
  simp! [aq] at l;subst l;rw [hK] at sq;exact⟨a,_,rfl,aA.tup r.sub sq.sq,rfl,_,_,rfl,_,_,rfl,rfl,hq _ ((r.set _ h1).set _ h2)⟩
 ·cases e
def uJ{x:Str}(ei:X.env.scope=sc)(h:ft sc x=true):Loc X.env.scope x:=by
 rw [ei];unfold ft at h;simp! [zzt,zzy] at h;exact h
def Io{fn:Str->Bool}{i:Nat}{p:Expr}(hN:X.N=N)(nd:N.Nodup)(ei:X.env.scope=sc)(mJ:∀x,fn x=true->X.fn x=true)(h:QY N sc fn i p=true):PG X p (gf i)/\∃x q,p=.Name x q:=by
 obtain⟨x,hx,h2⟩:=ai h
 obtain⟨q,rfl⟩:=cu hx
 simp! [zza,zzy,zzt] at h2;refine⟨EA (by rw [hN];exact nd) (by rw [hN];exact h2.1.1) (uJ ei h2.1.2) ?_,x,q,rfl⟩;rcases h2.2 with z|z
 ·exact .inl (mJ x z)
 ·exact .inr (by rw [ei];exact z)
def TC:List Nat->HK
 |[]=>J8
 |i::is=>xy (gf i) (TC is)
theorem CP{fn:Str->Bool}(hN:X.N=N)(nd:N.Nodup)(ei:X.env.scope=sc)(mJ:∀x,fn x=true->X.fn x=true):∀(is:List Nat) (es:List Expr),Kd N sc fn is es=true->Po X es (TC is)/\(assignEach es X.env).length=is.length/\(assignEach es X.env).findIdx? (·.1)=none
 |[],[],_=>⟨ED,rfl,rfl⟩
 |i::is,a::as,h=>by
  have h:=az h
  obtain⟨g1,x,p,rfl⟩:=Io hN nd ei mJ h.1
  obtain⟨g,l,f⟩:=CP hN nd ei mJ is as h.2
  have e:assignEach (.Name x p::as) X.env=(false,assign (.Name x p) X.env)::assignEach as X.env:=rfl
  refine⟨CD g1 g,by rw [e,zzL,l,zzL],?_⟩;rw [e,List.findIdx?_cons,f]
  rfl
 |[],_::_,h=>aP h
 |_::_,[],h=>aP h
def zH{fn:Str->Bool}{tg:Tg}{p:Expr}(hN:X.N=N)(nd:N.Nodup)(ei:X.env.scope=sc)(hc:X.calm=true)(mJ:∀x,fn x=true->X.fn x=true)(h:gh N sc fn tg p=true):PG X p (gT X.K tg):=by
 cases tg with
 |one i=>exact(Io hN nd ei mJ h).1
 |two i j=>
  obtain⟨es,h1,h2⟩:=ai h
  obtain⟨k,q,rfl⟩:=wm h1
  obtain⟨g,l,f⟩:=CP hN nd ei mJ _ _ h2
  exact JH hc g l f
def qQ(W:Wd)(J:It)(G B:Hp)(ps:List PV):Prop:=∀(i:Nat) (G' H':Hp),aA G G'->ib B H'->aA G' H'->
 (i=ps.length->J.stop i H')/\∀p,ps[i]?=some p->J.go i H'/\∀x nT,J.MW i H' x nT->∃wD,aC W G' H' wD nT/\Rep W wD p x
structure OY(W:Wd)(G H:Hp)(it:I)(J:It)(ps:List PV):Prop where
 any:qQ W J G H ps
 bE:EE it=true->qQ W J G G ps
noncomputable def tI(X:Cx)(W:Wd)(F:aL)(it:I):TI:=λσ H R=>∃H0 G env,SR W H0 env σ G H/\Out X W (sU F it env) σ G H λps=>∀J G' H',aC W G H G' H'->OY W G' H' it J ps->R J H'
abbrev GI(X:Cx)(W:Wd)(F:aL)(tg:Expr)(it:I)(p:Expr):Prop:=PI X tg p (tI X W F it)
theorem xF(hK:W.K=X.K){G B:Hp}{a:Addr}{vs:List V}{ps:List PV}(h:uD W.K B a vs)(l:aq W G ps vs):qQ W (RD X.K a) G B ps:=λi G' H' sG sB sub=>by
 have hq:gM X.K H' a vs:=rP hK (ib.ls sB h)
 refine⟨λhi=>⟨vs,hq,by rw [l.length];omega⟩,λp hp=>?_⟩
 obtain⟨v,hv,rv⟩:=l.nZ hp
 refine⟨⟨vs,v,hq,hv⟩,λx nT hy=>?_⟩
 obtain⟨rfl,hy⟩:=hy
 have:=hy vs hq
 rw [hv] at this;cases this;exact⟨G',.refl sub,Rep.same sG p rv⟩
theorem Bj{K:zz8}{G B:Hp}{a:Addr}{vs:List V}{ps:List PV}(h:fw K B a vs)(l:aq W G ps vs):qQ W (Ri K a) G B ps:=λi G' H' sG sB sub=>by
 have hq:fw K H' a vs:=ib.tup sB h
 refine⟨λhi=>⟨vs,hq,by rw [l.length];omega⟩,λp hp=>?_⟩
 obtain⟨v,hv,rv⟩:=l.nZ hp
 refine⟨⟨vs,v,hq,hv⟩,λx nT hy=>?_⟩
 obtain⟨rfl,hy⟩:=hy
 have:=hy vs hq
 rw [hv] at this;cases this;exact⟨G',.refl sub,Rep.same sG p rv⟩
def Dl{G B:Hp}{a:Addr}{o:Obj}{ks:List (List Int)}{us:List V}(n:ks.length=us.length)(h:B a=some (.bE o (.dT (kz ks us)))):qQ W (RL a o (kz ks us)) G B (ks.map ah):=λi G' H' sG sB sub=>by
 have hq:H' a=some (.bE o (.dT (kz ks us))):=sB.at h (λ_ z=>nomatch z)
 refine⟨λhi=>⟨hq,by rw [fu n];rw [zzl] at hi;omega⟩,λp hp=>?_⟩
 rw [zzQ] at hp;obtain⟨k,hk,rfl⟩:=zzJ.mp hp
 have hi:i<ks.length:=(zzH.mp hk).1
 refine⟨⟨hq,by rw [fu n];exact hi⟩,λx nT hy=>?_⟩
 obtain⟨rfl,b,k',v,rfl,e2,e3⟩:=hy
 have ek:k'=ki k:=by
  have:=congrArg (λl=>l[i]?) (lC (us:=us) n)
  simp! [zzQ,e2,hk,Option.map_some] at this;exact zzq this
 rw [ek,qM] at e3;obtain⟨G2,g2,l2⟩:=fF (W:=W) (vs:=[.ref b]) (nss:=[k]) sub (.cons ⟨b,rfl,e3⟩ .nil)
 obtain⟨w,r,ew,hw,_⟩:=l2.cB
 cases ew;exact⟨G2,g2,hw⟩
def ze{z:Str}{i:Nat}{p:PV}(h:(chars z)[i]?=some p):∃c,z.cps[i]?=some c/\p=.str ⟨#[c]⟩:=by
 unfold chars at h;rw [zzQ] at h;obtain⟨c,hc,rfl⟩:=zzJ.mp h
 rw [Array.getElem?_toList] at hc;exact⟨c,hc,rfl⟩
def zA(z:Str):(chars z).length=z.cps.size:=by unfold chars;rw [zzl,zzd]
theorem qU{G B:Hp}(lo:Int)(n:Nat):qQ W (Ot lo n) G B (fy lo n):=λi G' H' sG sB sub=>by
 unfold fy;refine⟨λhi=>by rw [zzl,List.length_range] at hi;exact Nat.le_of_eq hi.symm,λp hp=>?_⟩
 rw [zzQ] at hp;obtain⟨c,hc,rfl⟩:=zzJ.mp hp
 obtain⟨h1,h2⟩:=zzH.mp hc
 rw [List.length_range] at h1;rw [List.getElem_range] at h2;subst h2;refine⟨h1,λx nT hy=>?_⟩
 obtain⟨rfl,rfl⟩:=hy
 exact⟨G',.refl sub,.i⟩
def mh{G H:Hp}{p q:PV}{v u:V}{a:Addr}(sub:aA G H)(ha:H a=none)(h1:Rep W G p v)(h2:Rep W G q u):∃wD,aC W G H wD (upd H a (.tup [v,u]))/\Rep W wD (.tup [p,q]) (.ref a):=
 ⟨_,.new sub ha,.t (.inl ak) (aq.same (bz (sub.free ha)) _ (.cons h1 (.cons h2 .nil)))⟩
theorem jw:∀{xs:List PV} {n i:Nat} {p:PV},(cM n xs)[i]?=some p->∃x,xs[i]?=some x/\p=.tup [.int ((n+i:Nat):Int),x]
 |[],_,_,_,h=>by simp [cM] at h
 |x::xs,n,0,p,h=>by simp [cM] at h;exact⟨x,rfl,by rw [<-h];simp⟩
 |x::xs,n,i+1,p,h=>by
  simp! [cM,List.getElem?_cons_succ] at h;obtain⟨y,h1,h2⟩:=jw h
  exact⟨y,by simpa using h1,by rw [h2,show n+1+i=n+(i+1) by omega]⟩
theorem dm:∀(xs:List PV) (n:Nat),(cM n xs).length=xs.length
 |[],_=>rfl
 |_::xs,n=>by simp! [cM,zzL,dm xs]
theorem uo{K:zz8}{G B:Hp}{a:Addr}{vs:List V}{ps:List PV}(h:fw K B a vs)(l:aq W G ps vs):qQ W (RC K a vs) G B (cM 0 ps):=λi G' H' sG sB sub=>by
 have hq:fw K H' a vs:=ib.tup sB h
 refine⟨λhi=>⟨hq,by rw [dm] at hi;rw [l.length];exact hi⟩,λp hp=>?_⟩
 obtain⟨x,hx,rfl⟩:=jw hp
 obtain⟨v,hv,rv⟩:=l.nZ hx
 refine⟨⟨hq,(zzH.mp hv).1⟩,λy nT hy=>?_⟩
 obtain⟨b,x',rfl,hb,rfl,zO⟩:=hy
 rw [hv] at zO;cases zO;rw [Nat.zero_add];exact mh sub hb .i (Rep.same sG x rv)
theorem nh(hK:W.K=X.K){G B:Hp}{a:Addr}{vs:List V}{ps:List PV}(h:uD W.K B a vs)(l:aq W G ps vs):qQ W (Ms X.K a vs) G B (cM 0 ps):=λi G' H' sG sB sub=>by
 have hq:gM X.K H' a vs:=rP hK (ib.ls sB h)
 refine⟨λhi=>⟨hq,by rw [dm] at hi;rw [l.length];exact hi⟩,λp hp=>?_⟩
 obtain⟨x,hx,rfl⟩:=jw hp
 obtain⟨v,hv,rv⟩:=l.nZ hx
 refine⟨⟨hq,(zzH.mp hv).1⟩,λy nT hy=>?_⟩
 obtain⟨b,x',rfl,hb,rfl,zO⟩:=hy
 rw [hv] at zO;cases zO;rw [Nat.zero_add];exact mh sub hb .i (Rep.same sG x rv)
theorem ud{G B:Hp}(z:Str):qQ W (Qh z) G B (cM 0 (chars z)):=λi G' H' sG sB sub=>by
 refine⟨λhi=>by rw [dm,zA] at hi;exact hi,λp hp=>?_⟩
 obtain⟨x,hx,rfl⟩:=jw hp
 obtain⟨c,hc,rfl⟩:=ze hx
 refine⟨(Array.getElem?_eq_some_iff.mp hc).1,λy nT hy=>?_⟩
 obtain⟨b,c',rfl,hb,rfl,iI⟩:=hy
 rw [hc] at iI;cases iI;rw [Nat.zero_add];exact mh sub hb .i .s
def fx{e:E}{σ:St}{H0 G H:Hp}{env:Sl}{Q:VK}{p:PV}(sr:SR W H0 env σ G H)(e1:aK F e env=.ok p)(h:∀v G1 H1,aC W G H G1 H1->Got W H0 G1 H1 e p v->Q v H1):tE X W F e σ H Q:=⟨H0,G,env,sr,by rw [e1];exact h⟩
def C5{e:E}{σ:St}{H0 G H:Hp}{env:Sl}{Q:VK}{c:Str}(sr:SR W H0 env σ G H)(e1:aK F e env=.exc c)(h:uA X W σ c G H):tE X W F e σ H Q:=⟨H0,G,env,sr,by rw [e1];exact h⟩
def Ka(C:dz Γ F W N sc k X){tg p:Expr}{e:E}(he:GE X W F e p):GI X W F tg (.seq e) p:=by
 intro ae s σ H R I h;obtain⟨H0,G,env,sr,o⟩:=h
 rw [sU] at o;cases r:aK F e env with
 |bad=>rw [r] at o;exact o.elim
 |exc c=>rw [r] at o;exact xf he ae s σ H R I (C5 sr r o)
 |ok q=>
  rw [r] at o;cases q with
  |lst xs=>
   refine xf he ae s σ H R I (fx sr r λv G1 H1 g1 t=>?_);have t':=t
   obtain⟨a,vs,rfl,h1,l1⟩:=t.top.lst g1.sub
   refine⟨a,rfl,⟨vs,rP C.K h1⟩,o _ G1 H1 g1 ⟨xF C.K h1 l1,λz=>?_⟩⟩
   have rp:=t'.rep z
   simp! [Rep] at rp;obtain⟨a',vs',e1,h2,l2⟩:=rp
   cases e1;exact xF C.K h2 l2
  |tup xs=>
   refine JU he ae s σ H R I (fx sr r λv G1 H1 g1 t=>?_);have t':=t
   obtain⟨a,vs,rfl,h1,l1⟩:=t.top.tup g1.sub
   rw [C.K] at h1;refine⟨a,rfl,⟨vs,h1⟩,o _ G1 H1 g1 ⟨Bj h1 l1,λz=>?_⟩⟩
   have rp:=t'.rep z
   simp! [Rep] at rp;obtain⟨a',vs',e1,h2,l2⟩:=rp
   cases e1;rw [C.K] at h2;exact Bj h2.sq l2
  |str z=>exact zzk o
  |int _=>exact zzk o
  |bl _=>exact zzk o
  |aD=>exact zzk o
  |exc _=>exact zzk o
  |bf ks qs=>
   by_cases Jj:gA e=true
   ·have Wo:AZ e (.bf ks qs)=.ok (ks.map ah):=by
     cases e<;>first|rfl|exact aP Jj
    have o2:Out X W (AZ e (.bf ks qs)) σ G H λps=>∀(J:It) (G' H':Hp),aC W G H G' H'->OY W G' H' (Ci.I.seq e) J ps->R J H':=o
    rw [Wo] at o2;refine Ly he ae s σ H R I (fx sr r λv G1 H1 g1 t=>?_);have rp:=t.rep Jj
    simp! [Rep] at rp;obtain⟨a,ob,us,rfl,n,h1,l1⟩:=rp
    exact⟨a,ob,_,rfl,g1.sub _ _ h1,o2 _ G1 H1 g1 ⟨Dl n (g1.sub _ _ h1),λ_=>Dl n h1⟩⟩
   ·have:∃i,e=.dR i:=by
     cases e<;>first|exact⟨_,rfl⟩|exact absurd rfl Jj
    obtain⟨i,rfl⟩:=this
    exact zzk o
def dE{i:Int}(h:bg i=true): -(2^62)<=i/\i<2^62:=by
 unfold bg at h
 simpa using h
def Kt(C:dz Γ F W N sc k X){tg p:Expr}{e:E}{np pos:Pos}(hg:gC sc "range"=true)(hb:Γ.bs.contains "range"=true)(dG:∀env ps,starEach (p::ps) env=(false,eval p env)::starEach ps env)(he:GE X W F e p):GI X W F tg (.uc e) (.Call (.Name "range" np) [p] [] pos):=by
 intro ae s σ H R I h;refine Aa (dA C hg) (C.bs _ (zzn.mp hb)) (bM he dq (dG _ _)) (dG _ _) ae s σ H R I ?_;obtain⟨H0,G,env,sr,o⟩:=h
 rw [sU] at o;refine one sr o λq v G1 H1 g1 t bF o1=>?_
 cases q with
 |int j=>
  by_cases hj:bg j=true
  ·have o2:Out X W (if bg j=true then Res.ok (fy 0 j.toNat) else .bad) σ G1 H1 _:=o1
   rw [if_pos hj] at o2;exact⟨j,by rw [t.top.int],(dE hj).1,(dE hj).2,o2 _ G1 H1 g1 ⟨qU _ _,λ_=>qU _ _⟩⟩
  ·have o2:Out X W (if bg j=true then Res.ok (fy 0 j.toNat) else .bad) σ G1 H1 _:=o1
   rw [if_neg hj] at o2;exact o2.elim
 |bl _=>exact zzk o1
 |aD=>exact zzk o1
 |str _=>exact zzk o1
 |tup _=>exact zzk o1
 |lst _=>exact zzk o1
 |exc _=>exact zzk o1
 |bf _ _=>exact zzk o1
def FC(C:dz Γ F W N sc k X){tg p q:Expr}{a b:E}{np pos:Pos}(hg:gC sc "range"=true)(hb:Γ.bs.contains "range"=true)(dG:∀env ps,starEach (p::ps) env=(false,eval p env)::starEach ps env)(K3:∀env ps,starEach (q::ps) env=(false,eval q env)::starEach ps env)
 (ha:GE X W F a p) (k7:GE X W F b q):GI X W F tg (.qP a b) (.Call (.Name "range" np) [p,q] [] pos):=by
 intro ae s σ H R I h;refine zv (dA C hg) (C.bs _ (zzn.mp hb)) (bM ha (bM k7 dq (K3 _ _)) (dG _ _)) (by rw [dG,K3];rfl) (K3 _ _) ae s σ H R I ?_;obtain⟨H0,G,env,sr,o⟩:=h
 rw [sU] at o;refine one sr o λx v G1 H1 g1 t bF o1=>one bF o1 λy u G2 H2 g2 t2 ff o2=>?_
 cases x<;>cases y<;>first
  |(exact zzk o2)
  | (rename_i i j
     by_cases hj:(bg i&&bg j)=true
     ·have o3:Out X W (if(bg i&&bg j)=true then Res.ok (fy i (j-i).toNat) else .bad) σ G2 H2 _:=o2
      rw [if_pos hj] at o3;rw [zza] at hj;exact⟨i,j,by rw [t.top.int,t2.top.int],⟨(dE hj.1).1,(dE hj.1).2,(dE hj.2).1,(dE hj.2).2⟩,o3 _ G2 H2 (g1.trans g2) ⟨qU _ _,λ_=>qU _ _⟩⟩
     ·have o3:Out X W (if(bg i&&bg j)=true then Res.ok (fy i (j-i).toNat) else .bad) σ G2 H2 _:=o2
      rw [if_neg hj] at o3;exact o3.elim)
def Er(C:dz Γ F W N sc k X){elts:List Expr}{x1:Nat}{vU:Pos}{p:Expr}{e:E}{np pos:Pos}(hg:gC sc "enumerate"=true)(hb:Γ.bs.contains "enumerate"=true)(dG:∀env ps,starEach (p::ps) env=(false,eval p env)::starEach ps env)(he:GE X W F e p):
 GI X W F (.Tuple elts x1 vU) (.enum e) (.Call (.Name "enumerate" np) [p] [] pos):=by
 intro ae s σ H R I h;have uG:=dA C hg
 have kG:=C.bs _ (zzn.mp hb)
 have pa:=bM he dq (dG _ _)
 obtain⟨H0,G,env,sr,o⟩:=h
 rw [sU] at o;cases r:aK F e env with
 |bad=>rw [r] at o;exact o.elim
 |exc c=>rw [r] at o;exact sI uG kG pa (dG _ _) ae s σ H R I (C5 sr r o)
 |ok q=>
  rw [r] at o;cases q with
  |lst xs=>
   refine sI uG kG pa (dG _ _) ae s σ H R I (fx sr r λv G1 H1 g1 t=>?_)
   by_cases hz:gA e=true
   ·have rp:=t.rep hz
    simp! [Rep] at rp;obtain⟨a,vs,rfl,h2,l2⟩:=rp
    exact⟨a,vs,rfl,rP C.K (aA.ls g1.sub h2),o _ G1 H1 g1 ⟨nh C.K (aA.ls g1.sub h2) l2,λ_=>nh C.K h2 l2⟩⟩
   ·obtain⟨a,vs,rfl,h1,l1⟩:=t.top.lst g1.sub
    exact⟨a,vs,rfl,rP C.K h1,o _ G1 H1 g1 ⟨nh C.K h1 l1,λz=>absurd z hz⟩⟩
  |tup xs=>
   refine BQ uG kG pa (dG _ _) ae s σ H R I (fx sr r λv G1 H1 g1 t=>?_);have t':=t.top
   rcases t' with rp|z
   ·simp! [Rep] at rp;obtain⟨a,vs,rfl,h2,l2⟩:=rp
    rw [C.K] at h2;exact⟨a,vs,rfl,aA.tup g1.sub h2.sq,o _ G1 H1 g1 ⟨uo (aA.tup g1.sub h2.sq) l2,λz=>uo h2.sq l2⟩⟩
   ·exact z.elim
  |str z=>exact BF uG kG pa (dG _ _) ae s σ H R I (fx sr r λv G1 H1 g1 t=>⟨z,by rw [t.top.str],o _ G1 H1 g1 ⟨ud z,λ_=>ud z⟩⟩)
  |int _=>exact zzk o
  |bl _=>exact zzk o
  |aD=>exact zzk o
  |exc _=>exact zzk o
  |bf _ _=>exact zzk o
end
def yK{env:Env}{x:Str}{c:Addr}(h:env.cells.lookup x=some c):cellOf env x=pure c:=by
 unfold cellOf;rw [h]
def frees(names:List (Str×NameKind)):List Str:=((names.filter λp=>p.2==.free).map (·.1)).reverse
def iS{scope:Scope}{env:Env}(h:∀y∈scope.names,y.2=.free->∃c,env.cells.lookup y.1=some c):closureFor scope env=pure (bU env (freeOf scope)):=by
 simp! [closureFor];have key:∀(names:List (Str×NameKind)) (acc:List (Str×Addr)),(∀y∈names,y.2=.free->∃c,env.cells.lookup y.1=some c)->
  (forIn (m:=Sem) names acc λx r=>if(x.2==NameKind.free)=true then do
   let c<-cellOf env x.1
   pure (ForInStep.yield ((x.1,c)::r))
   else pure (ForInStep.yield r))=pure (bU env (frees names)++acc):=by
  intro names
  induction names with
  |nil=>intro acc _;rfl
  |cons p r ih=>
   intro acc hh;obtain⟨n,kd⟩:=p
   rw [List.forIn_cons]
   by_cases hk:(kd==NameKind.free)=true
   ·obtain⟨c,hc⟩:=hh (n,kd) (by simp) (zzy.mp hk)
    simp! [hk,if_true,yK hc,pure_bind];rw [ih ((n,c)::acc) λy hy=>hh y (zzI _ hy)]
    have e:frees ((n,kd)::r)=frees r++[n]:=by
     unfold frees;rw [zz3,if_pos hk,zzF,List.reverse_cons]
    rw [e];unfold bU;rw [List.map_append,zzF,List.map_nil,List.append_assoc];show _=pure (_++([(n,(env.cells.lookup n).getD 0)]++acc))
    rw [show env.cells.lookup n=some c from hc]
    rfl
   ·simp! [hk,zze,if_false,pure_bind];rw [ih acc λy hy=>hh y (zzI _ hy)]
    have e:frees ((n,kd)::r)=frees r:=by
     unfold frees;rw [zz3,if_neg hk]
    rw [e]
 have:=key scope.names [] h
 rw [zz6] at this;simp! [bind_pure_comp,map_pure,id_map',bind_pure];exact this
section
variable{X:Cx}{W:Wd}{N:List Str}{sc:Scope}
def fL{scope:Scope}(h:X.env.scope=sc):relabel scope X.env=dn scope sc:=by
 subst h
 rfl
structure nB(N:List Str)(sc scope:Scope)(kk:Nat)(ba:List Nat)(xs:List Str):Prop where
 kind:scope.kind=.function
 len:xs.length=kk
 nd:(xs++freeOf scope).Nodup
 Mx:(scope.names.all λy=>(decide (y.2≠.cell)||!(freeOf scope).contains y.1)&&(decide (y.2≠.free)||(freeOf scope).contains y.1))=true
 own:(scope.names.all λy=>decide (y.2≠.cell)||decide (scope.names.lookup y.1=some .cell))=true
 names:(scope.names.all λy=>decide (y.2≠.local)||decide (scope.names.lookup y.1=some .local))=true
 slots:ba.map (λi=>N[i]?)=(freeOf scope).map some
 kX:((freeOf scope).all λy=>decide (sc.names.lookup y=some .cell))=true
 kY:((freeOf scope).all λy=>decide ((dn scope sc).names.lookup y=some .cell))=true
def jr{scope:Scope}{kk:Nat}{ba:List Nat}{xs:List Str}(h:xK N sc scope kk ba xs=true):nB N sc scope kk ba xs:=by
 unfold xK at h;simp! [zza] at h;obtain⟨⟨⟨⟨⟨⟨⟨⟨h1,h2⟩,h3⟩,h4⟩,h9⟩,h5⟩,h6⟩,h7⟩,h8⟩:=h
 exact⟨zzy.mp h1,zzy.mp h2,zzY h3,h4,h9,h5,zzY h6,h7,h8⟩
def qv(hN:X.N=N)(ei:X.env.scope=sc)(ok:X.Ok){scope:Scope}{kk:Nat}{ba:List Nat}{xs:List Str}(h:nB N sc scope kk ba xs):fq X scope xs (freeOf scope) ba:=by
 have eK:∀y∈freeOf scope,∃c,X.env.cells.lookup y=some c:=λy hy=>ok.has y (.inl (by
  have:=zzY (zzT.mp h.kX y hy)
  show X.env.scope.names.lookup y=_
  rw [ei];exact this))
 refine⟨h.kind,iS λy hy hf=>?_,zzT.mpr λy hy=>?_,h.Mx,h.own,h.names,by rw [hN];exact h.slots,zzT.mpr λy hy=>?_,?_⟩
 ·have c:=zzT.mp h.Mx y hy
  rw [zza,zzt,zzt] at c;rcases c.2 with z|z
  ·exact absurd hf (zzY z)
  ·exact eK _ (zzn.mp z)
 ·obtain⟨c,hc⟩:=eK y hy
  rw [hc];rfl
 ·have:=zzY (zzT.mp h.kX y hy)
  refine zzh ?_;show X.env.scope.names.lookup y=_
  rw [ei];exact this
 ·rw [fL ei];exact h.kY
theorem iT{f:PV->Res (Option PV)}{x:PV}:∀{xs:List PV},bq f (xs++[x])=(bq f xs).bind λys=>(f x).well.bind λo=>.ok (ys++o.toList)
 |[]=>by
  simp! [List.nil_append,bq,Res.bind];cases(f x).well with
  |ok o=>cases o<;>rfl
  |exc c=>rfl
  |bad=>rfl
 |y::xs=>by
  rw [List.cons_append];simp! [bq];rw [iT (xs:=xs)];cases(f y).well with
  |exc c=>rfl
  |bad=>rfl
  |ok o=>
   show(((bq f xs).bind λys=>(f x).well.bind λo=>.ok (ys++o.toList)).bind λys=>.ok (oc o ys))=((bq f xs).bind λys=>.ok (oc o ys)).bind λys=>(f x).well.bind λo=>.ok (ys++o.toList)
   cases bq f xs with
   |exc c=>rfl
   |bad=>rfl
   |ok zs=>
    show(((f x).well.bind λo=>.ok (zs++o.toList)).bind λys=>.ok (oc o ys))=(f x).well.bind λo2=>.ok ((oc o zs)++o2.toList)
    cases(f x).well with
    |exc c=>rfl
    |bad=>rfl
    |ok o2=>cases o<;>rfl
theorem mI{f:PV->Res (Option PV)}:∀{xs ys:List PV},bq f xs=.ok ys->∀i,∃zs,bq f (xs.take i)=.ok zs/\zs.length<=i
 |_,_,_,0=>⟨[],by simp [bq],zzE _⟩
 |[],ys,h,i+1=>⟨[],by simp [bq],Nat.zero_le _⟩
 |x::xs,ys,h,i+1=>by
  simp! [bq] at h;obtain⟨o,ho,h⟩:=Res.bp h
  obtain⟨zs,hz,h⟩:=Res.bp h
  obtain⟨ws,hw,hl⟩:=mI hz i
  refine⟨oc o ws,?_,?_⟩
  ·rw [List.take_succ_cons];simp! [bq];rw [ho];show((bq f (xs.take i)).bind λys=>.ok (oc o ys))=_
   rw [hw]
   rfl
  ·cases o with
   |none=>exact Nat.le_succ_of_le hl
   |some y=>exact Nat.succ_le_succ hl
def GD{α:Type}{r:Res α}{a:α}(h:r.well=.ok a):r=.ok a:=by
 cases r with
 |ok b=>cases h;rfl
 |exc c=>cases h
 |bad=>cases h
def tx{f:PV->Res (Option PV)}{xs ys zs:List PV}{i:Nat}{x:PV}(h:bq f xs=.ok ys)(hx:xs[i]?=some x)(hz:bq f (xs.take i)=.ok zs):∃o,f x=.ok o/\bq f (xs.take (i+1))=.ok (zs++o.toList):=by
 have e:xs.take (i+1)=xs.take i++[x]:=by rw [List.take_add_one,hx];rfl
 obtain⟨ws,hw,_⟩:=mI h (i+1)
 rw [e,iT,hz] at hw;obtain⟨o,ho,hw⟩:=Res.bp (show((f x).well.bind λo=>Res.ok (zs++o.toList))=.ok ws from hw)
 refine⟨o,GD ho,?_⟩;rw [e,iT,hz];show((f x).well.bind λo=>Res.ok (zs++o.toList))=_
 rw [ho]
 rfl
def sW{H0 G H:Hp}{env:Sl}{σ:St}{ba:List Nat}{ys:List Str}(kk:Nat)(sr:SR W H0 env σ G H)(hs:ba.map (λi=>N[i]?)=ys.map some)(nd:ys.Nodup):SR W H0 (List.replicate kk .no++fZ env ba) (List.replicate kk none++BX σ ba) G H:=by
 have Wi:∀(i j:Nat) (a:Nat),ba[i]?=some a->ba[j]?=some a->i=j:=λi j a h1 h2=>by
  have e1:(ys.map some)[i]?=some (N[a]?):=by rw [<-hs,zzQ,h1];rfl
  have e2:(ys.map some)[j]?=some (N[a]?):=by rw [<-hs,zzQ,h2];rfl
  rw [zzQ] at e1 e2;obtain⟨y1,g1,q1⟩:=zzJ.mp e1
  obtain⟨y2,g2,q2⟩:=zzJ.mp e2
  have:y1=y2:=zzq (q1.trans q2.symm)
  subst this;exact jz nd g1 g2
 have inner:∀(j:Nat) (s:Slot),(List.replicate kk Slot.no++fZ env ba)[j]?=some s->(j<kk/\s=.no)\/∃a,kk<=j/\ba[j-kk]?=some a/\s=env.getD a .no:=λj s e=>by
  by_cases hj:j<kk
  ·rw [zzr (by simpa using hj),List.getElem?_replicate,if_pos hj] at e;cases e;exact .inl ⟨hj,rfl⟩
  ·rw [zzs (by simpa using hj),List.length_replicate] at e;unfold fZ at e;rw [zzQ] at e;obtain⟨a,ha,rfl⟩:=zzJ.mp e
   exact .inr ⟨a,by omega,ha,rfl⟩
 have val:∀(j a:Nat),kk<=j->ba[j-kk]?=some a->(List.replicate kk none++BX σ ba)[j]?=some ((σ[a]?).join):=λj a hj ha=>by
  rw [zzs (by simpa using hj),List.length_replicate];unfold BX;rw [zzQ,ha]
  rfl
 refine⟨by unfold fZ BX;simp,sr.sub,sr.base,λj s e=>?_,λi j p q a e1 e2 e3 e4=>?_,sr.tab,sr.jq⟩
 ·rcases inner j s e with⟨hj,rfl⟩|⟨a,hj,ha,rfl⟩
  ·exact⟨none,by rw [zzr (by simpa using hj),List.getElem?_replicate,if_pos hj],trivial⟩
  ·refine⟨_,val j a hj ha,?_⟩;rw [zzK];cases e1:env[a]? with
   |none=>exact trivial
   |some s=>
    obtain⟨o,h1,h2⟩:=sr.slot a s e1
    rw [h1];exact h2
 ·rcases inner i _ e1 with⟨_,z⟩|⟨b,hi,hb,z1⟩
  ·cases z
  rcases inner j _ e2 with⟨_,z⟩|⟨c,hj,hc,z2⟩
  ·cases z
  rw [val i b hi hb] at e3;rw [val j c hj hc] at e4;have f1:env[b]?=some (.own p):=by
   rw [zzK] at z1;cases e:env[b]? with
   |none=>rw [e] at z1;cases z1
   |some s=>rw [e] at z1;exact congrArg some z1.symm
  have f2:env[c]?=some (.own q):=by
   rw [zzK] at z2;cases e:env[c]? with
   |none=>rw [e] at z2;cases z2
   |some s=>rw [e] at z2;exact congrArg some z2.symm
  have g1:σ[b]?=some (some (.ref a)):=Option.join_eq_some_iff.mp (zzq e3)
  have g2:σ[c]?=some (some (.ref a)):=Option.join_eq_some_iff.mp (zzq e4)
  have bc:=sr.apart b c p q a f1 f2 g1 g2
  subst bc;have:=Wi _ _ b hb hc
  omega
def kf{H0 G H:Hp}{kk:Nat}{rest au:Sl}{σ:St}{tg:Tg}{p:PV}(bS:nk kk tg=true)(e:Tg.put tg p (List.replicate kk .no++rest)=.ok au)(r:SR W H0 au σ G H):SR W H0 (List.replicate kk .no++rest) σ G H:=by
 have key:∀(j:Nat) (s:Slot),(List.replicate kk Slot.no++rest)[j]?=some s->s≠.no->au[j]?=some s:=λj s h hs=>by
  have LP:¬j<kk:=λz=>by
   rw [zzr (by simpa using z),List.getElem?_replicate,if_pos z] at h;cases h;exact hs rfl
  unfold Tg.put at e;split at e
  ·cases e;unfold nk at bS;simp! [zzN] at bS;rw [zzS (by omega)];exact h
  ·cases e;unfold nk at bS;simp! [zza,zzN] at bS;rw [zzS (by omega),zzS (by omega)];exact h
  ·cases e
 have hlen:(List.replicate kk Slot.no++rest).length=σ.length:=by
  rw [<-r.len];unfold Tg.put at e;split at e<;>first|(cases e;simp;done)|(cases e;done)
 refine⟨hlen,r.sub,r.base,λj s h=>?_,λi j p q a e1 e2 e3 e4=>r.apart i j p q a (key i _ e1 (λz=>nomatch z)) (key j _ e2 (λz=>nomatch z)) e3 e4,r.tab,r.jq⟩
 by_cases hs:s=.no
 ·subst hs;have:j<σ.length:=by rw [<-hlen];exact(zzH.mp h).1
  exact⟨σ[j],zzg this,trivial⟩
 ·exact r.slot j s (key j s h hs)
variable{Γ:Pg}{F:aL}{k:Nat}
noncomputable def tN(W:Wd)(F:aL)(e:E):TE:=λσ H Q=>∃H0 G env,SR W H0 env σ G H/\∃p,aK F e env=.ok p/\∀v G' H',aC W G H G' H'->Got W H0 G' H' e p v->Q v H'
noncomputable def QD(W:Wd)(F:aL)(e:E):TT:=λσ H Q=>∃H0 G env,SR W H0 env σ G H/\∃b,aK F e env=.ok (.bl b)/\∀G' H',aC W G H G' H'->Q b H'
def xP{e:E}(σ:St)(H:Hp)(Q:VK)(h:tN W F e σ H Q):tE X W F e σ H Q:=by
 obtain⟨H0,G,env,sr,p,e1,q⟩:=h
 exact⟨H0,G,env,sr,by rw [e1];exact q⟩
def Bs{e:E}(σ:St)(H:Hp)(Q:Bool->Hp->Prop)(h:QD W F e σ H Q):tT X W F e σ H Q:=by
 obtain⟨H0,G,env,sr,p,e1,q⟩:=h
 exact⟨H0,G,env,sr,by rw [e1];exact⟨p,rfl,q⟩⟩
def fI(C:dz Γ F W N sc k X){scope:Scope}{kk:Nat}{ba:List Nat}{xs:List Str}(h:nB N sc scope kk ba xs)(fp:List Addr)(s1:Shared)(H1:Hp)(A:Addr):dz Γ.Ea F W (xs++freeOf scope) (dn scope sc) k (cC X (xs++freeOf scope) scope (bU X.env (freeOf scope)) fp s1 H1 A):=
 ⟨rfl,fL C.ei,rfl,h.nd,C.K,C.mg,C.gs,C.bs,C.room,λf hf=>⟨(C.fns f hf).ex⟩,C.M8,C.cls,C.xc,λq hq=>⟨(C.tZ q hq).ex⟩,C.any,(λz=>nomatch z),(λz=>nomatch z),(λz=>nomatch z)⟩
def Kq{e:E}{p:Expr}(h:aZ Γ N sc e p=true)(env:Env):∀x,foldedSetIterable p env x=pure x:=by
 intro x;cases p<;>first|rfl|(cases e<;>first|(exact aP h)|(rename_i q;cases q<;>exact aP h))
def je{tg:Expr}{it:I}{p:Expr}(h:yX Γ N sc tg it p=true)(env:Env):∀x,foldedSetIterable p env x=pure x:=by
 intro x;cases it with
 |seq e=>exact Kq h env x
 |uc e=>cases p<;>first|rfl|(exact aP h)
 |qP a b=>cases p<;>first|rfl|(exact aP h)
 |enum e=>cases p<;>first|rfl|(exact aP h)
def CW(W:Wd)(H0 G1 H1:Hp)(zK:Sl)(f:PV->Res (Option PV))(ps:List PV)(i:Nat)(ys:List V)(σ':St)(H':Hp):Prop:=
 i<=ps.length/\∃G',aC W G1 H1 G' H'/\SR W H0 zK σ' G' H'/\∃zs,bq f (ps.take i)=.ok zs/\zs.length<=i/\aq W G' zs ys
def xS(hK:W.K=X.K){kk:Nat}{ba:List Nat}{tg:Tg}{it:I}{elt:E}{ys:List Str}(bS:nk kk tg=true)(dy:gA elt=true)(hs:ba.map (λi=>N[i]?)=ys.map some)(nd:ys.Nodup)(σ:St)(H:Hp)(Q:VK)(h:tF X W F (.comp kk ba tg it elt) σ H Q):
 Cg (tI X W F it) kk (gT X.K tg) (tN W F elt) ba σ H Q:=by
 obtain⟨H0,G,env,sr,o⟩:=h
 rw [aK] at o;refine⟨H0,G,env,sr,o.bind.imp λps lX J G1 H1 g1 gi=>?_⟩
 by_cases uh:¬ps.length<fv
 ·rw [if_neg uh] at lX;exact lX.elim
 have hl:=Decidable.not_not.mp uh
 rw [if_pos hl] at lX;generalize hf:(λx=>(tg.put x (List.replicate kk .no++fZ env ba)).bind λau=>(aK F elt au).bind λy=>Res.ok (some y))=f at lX
 cases hc:bq f ps with
 |bad=>rw [hc] at lX;exact lX.elim
 |exc c=>
  exfalso
  have:∀(l:List PV) (c:Str),bq f l≠.exc c:=λl=>by
   induction l with
   |nil=>intro c z;cases z
   |cons a l ih=>
    intro c z;simp! [bq] at z;rcases Res.dO z with z|⟨o1,_,z⟩
    ·cases e:f a with
     |ok _=>rw [e] at z;cases z
     |exc _=>rw [e] at z;cases z
     |bad=>rw [e] at z;cases z
    ·rcases Res.dO z with z|⟨o2,_,z⟩
     ·exact ih c z
     ·cases z
  exact this _ _ hc
 |ok all=>
  rw [hc] at lX;obtain⟨xs,e1,fin⟩:=lX
  cases e1;have bF:=sr.grow g1
  refine⟨ps.length,CW W H0 G1 H1 (List.replicate kk .no++fZ env ba) f ps,⟨Nat.zero_le _,G1,.refl g1.sub,sW kk bF hs nd,[],rfl,zzE _,.nil⟩,?_⟩
  rintro i made σ' H' ⟨hi,G',g',sr',zs,hz,Pl,l⟩
  refine⟨by rw [l.length];exact zzV (zzU Pl hi) (zzW hl (by decide)),?_⟩;obtain⟨ist,igo⟩:=gi.any i G' H' g'.g g'.h g'.sub
  by_cases hlast:i=ps.length
  ·refine .inl ⟨ist hlast,λp hp=>?_⟩
   rw [hlast,List.take_length,hc] at hz;cases hz;exact fin p made G' H' (g1.trans g') hp l
  ·have nV:i<ps.length:=by omega
   obtain⟨hgo,hyld⟩:=igo ps[i] (zzg nV)
   refine .inr ⟨hgo,nV,λx nT hy=>?_⟩
   obtain⟨wD,g'',rx⟩:=hyld x nT hy
   obtain⟨o1,ho,hnext⟩:=tx hc (zzg nV) hz
   rw [<-hf] at ho;obtain⟨au,he',ho⟩:=Res.bp ho
   obtain⟨y,Mh,ho⟩:=Res.bp ho
   cases ho;refine rH hK he' (sr'.grow g'') rx λσ2 ff=>⟨H0,wD,au,ff,y,Mh,λv G3 H3 g3 t=>?_⟩
   refine⟨nV,G3,g'.trans (g''.trans g3),(kf bS he' ff).grow g3,_,hnext,?_,?_⟩
   ·rw [zzM];show zs.length+1<=i+1;omega
   ·exact(aq.same (g''.trans g3).g zs l).append (.cons (t.rep dy) .nil)
def oH(hK:W.K=X.K){kk:Nat}{ba:List Nat}{tg:Tg}{it:I}{c elt:E}{ys:List Str}(bS:nk kk tg=true)(dy:gA elt=true)(hs:ba.map (λi=>N[i]?)=ys.map some)(nd:ys.Nodup)(σ:St)(H:Hp)(Q:VK)(h:tF X W F (.dc kk ba tg it c elt) σ H Q):
 lW (tI X W F it) kk (gT X.K tg) (QD W F c) (tN W F elt) ba σ H Q:=by
 obtain⟨H0,G,env,sr,o⟩:=h
 rw [aK] at o;refine⟨H0,G,env,sr,o.bind.imp λps lX J G1 H1 g1 gi=>?_⟩
 by_cases uh:¬ps.length<fv
 ·rw [if_neg uh] at lX;exact lX.elim
 have hl:=Decidable.not_not.mp uh
 rw [if_pos hl] at lX;generalize hf:(λx=>(tg.put x (List.replicate kk .no++fZ env ba)).bind λau=>(aK F c au).bind λt=>sJ t λt=>if t then(aK F elt au).bind λy=>Res.ok (some y) else .ok none)=f at lX
 cases hc:bq f ps with
 |bad=>rw [hc] at lX;exact lX.elim
 |exc c=>
  exfalso
  have:∀(l:List PV) (c:Str),bq f l≠.exc c:=λl=>by
   induction l with
   |nil=>intro c z;cases z
   |cons a l ih=>
    intro c z;simp! [bq] at z;rcases Res.dO z with z|⟨o1,_,z⟩
    ·cases e:f a with
     |ok _=>rw [e] at z;cases z
     |exc _=>rw [e] at z;cases z
     |bad=>rw [e] at z;cases z
    ·rcases Res.dO z with z|⟨o2,_,z⟩
     ·exact ih c z
     ·cases z
  exact this _ _ hc
 |ok all=>
  rw [hc] at lX;obtain⟨xs,e1,fin⟩:=lX
  cases e1;have bF:=sr.grow g1
  refine⟨ps.length,CW W H0 G1 H1 (List.replicate kk .no++fZ env ba) f ps,⟨Nat.zero_le _,G1,.refl g1.sub,sW kk bF hs nd,[],rfl,zzE _,.nil⟩,?_⟩
  rintro i made σ' H' ⟨hi,G',g',sr',zs,hz,Pl,l⟩
  refine⟨by rw [l.length];exact zzV (zzU Pl hi) (zzW hl (by decide)),?_⟩;obtain⟨ist,igo⟩:=gi.any i G' H' g'.g g'.h g'.sub
  by_cases hlast:i=ps.length
  ·refine .inl ⟨ist hlast,λp hp=>?_⟩
   rw [hlast,List.take_length,hc] at hz;cases hz;exact fin p made G' H' (g1.trans g') hp l
  ·have nV:i<ps.length:=by omega
   obtain⟨hgo,hyld⟩:=igo ps[i] (zzg nV)
   refine .inr ⟨hgo,nV,λx nT hy=>?_⟩
   obtain⟨wD,g'',rx⟩:=hyld x nT hy
   obtain⟨o1,ho,hnext⟩:=tx hc (zzg nV) hz
   rw [<-hf] at ho;obtain⟨au,he',ho⟩:=Res.bp ho
   obtain⟨t,ht,ho⟩:=Res.bp ho
   obtain⟨b,rfl⟩:∃b,t=.bl b:=by
    cases t<;>first|exact⟨_,rfl⟩|(cases ho)
   refine rH hK he' (sr'.grow g'') rx λσ2 ff=>⟨H0,wD,au,ff,b,ht,λG3 H3 g3=>?_⟩
   have jV:(if b=true then(aK F elt au).bind λy=>Res.ok (some y) else .ok none)=Res.ok o1:=ho
   cases b with
   |true=>
    rw [if_pos rfl] at jV;refine QT ?_;obtain⟨y,Mh,jV⟩:=Res.bp jV
    cases jV;refine⟨H0,G3,au,ff.grow g3,y,Mh,λv G4 H4 g4 t4=>?_⟩
    refine⟨nV,G4,g'.trans (g''.trans (g3.trans g4)),(kf bS he' ff).grow (g3.trans g4),_,hnext,?_,?_⟩
    ·rw [zzM];show zs.length+1<=i+1;omega
    ·exact(aq.same (g''.trans (g3.trans g4)).g zs l).append (.cons (t4.rep dy) .nil)
   |false=>
    rw [if_neg zzf] at jV;refine Q6 ?_;cases jV;refine⟨nV,G3,g'.trans (g''.trans g3),(kf bS he' ff).grow g3,_,hnext,?_,?_⟩
    ·rw [zzM];show zs.length+0<=i+1;omega
    ·show aq W G3 (zs++[]) made
     rw [zz6];exact aq.same (g''.trans g3).g zs l
def xi(C:dz Γ F W N sc k X){kk:Nat}{ba:List Nat}{tg:Tg}{it:I}{elt:E}{cL gB fh:Expr}{scope:Scope}{pos:Pos}(h:nB N sc scope kk ba (aM cL))(bS:nk kk tg=true)(dy:gA elt=true)(hi:GI X W F cL it gB)(tZ:∀x,foldedSetIterable gB X.env x=pure x)
 (yz:gh (aM cL++freeOf scope) (dn scope sc) (mH scope) tg cL=true) (he:∀Y,dz Γ.Ea F W (aM cL++freeOf scope) (dn scope sc) k Y->GE Y W F elt fh):GF X W F (.comp kk ba tg it elt) (.ListComp fh [⟨cL,gB,[],0⟩] scope pos):=by
 intro ae s σ H Q I hq;have JQ:(freeOf scope).Nodup:=(List.nodup_append.mp h.nd).2.1
 have rd:=xS (N:=N) C.K bS dy h.slots JQ σ H Q hq
 have:=GV (g:=gT X.K tg) (te:=tN W F elt) (xs:=aM cL) (ys:=freeOf scope) (is:=ba) (pos:=pos) C.calm (qv C.hN C.ei I.ok h) hi
  (λfp s1 H1 A=>zH (fn:=mH scope) (X:=cC X (aM cL++freeOf scope) scope (bU X.env (freeOf scope)) fp s1 H1 A) rfl h.nd (fL C.ei) rfl (λ_ z=>z) yz)
  (λfp s1 H1 A=>L2.PE.imp (he _ (fI C h fp s1 H1 A)) λσ H Q z=>xP σ H Q z) tZ ae s σ H Q I
 rw [h.len] at this;exact this rd
def pU(C:dz Γ F W N sc k X){kk:Nat}{ba:List Nat}{tg:Tg}{it:I}{c elt:E}{cL gB pc fh:Expr}{scope:Scope}{pos:Pos}(h:nB N sc scope kk ba (aM cL))(bS:nk kk tg=true)(dy:gA elt=true)(hi:GI X W F cL it gB)(tZ:∀x,foldedSetIterable gB X.env x=pure x)
 (yz:gh (aM cL++freeOf scope) (dn scope sc) (mH scope) tg cL=true) (hc:∀Y,dz Γ.Ea F W (aM cL++freeOf scope) (dn scope sc) k Y->GT Y W F c pc) (he:∀Y,dz Γ.Ea F W (aM cL++freeOf scope) (dn scope sc) k Y->GE Y W F elt fh):
 GF X W F (.dc kk ba tg it c elt) (.ListComp fh [⟨cL,gB,[pc],0⟩] scope pos):=by
 intro ae s σ H Q I hq;have JQ:(freeOf scope).Nodup:=(List.nodup_append.mp h.nd).2.1
 have rd:=oH (N:=N) C.K bS dy h.slots JQ σ H Q hq
 have:=zr (g:=gT X.K tg) (tt:=QD W F c) (te:=tN W F elt) (xs:=aM cL) (ys:=freeOf scope) (is:=ba) (pos:=pos) C.calm (qv C.hN C.ei I.ok h) hi
  (λfp s1 H1 A=>zH (fn:=mH scope) (X:=cC X (aM cL++freeOf scope) scope (bU X.env (freeOf scope)) fp s1 H1 A) rfl h.nd (fL C.ei) rfl (λ_ z=>z) yz)
  (λfp s1 H1 A=>L2.PT.imp (hc _ (fI C h fp s1 H1 A)) λσ H Q z=>Bs σ H Q z)
  (λfp s1 H1 A=>L2.PE.imp (he _ (fI C h fp s1 H1 A)) λσ H Q z=>xP σ H Q z) tZ ae s σ H Q I
 rw [h.len] at this;exact this rd
variable{Z:List (Addr×Obj)}{G H:Hp}
mutual
theorem Rep.less(zs:∀b o,Z.lookup b=some o->G b=some (.bE o bV)):∀(p:PV) {v:V},Rep W G p v->Rep W (bb Z G) p v
 |.aD,_,h=>by simpa only [Rep] using h
 |.bl b,_,h=>by simpa only [Rep] using h
 |.int i,_,h=>by simpa only [Rep] using h
 |.str z,_,h=>by simpa only [Rep] using h
 |.tup xs,_,h=>by
  simp! [Rep] at h⊢;obtain⟨a,vs,e,q,l⟩:=h
  refine⟨a,vs,e,?_,aq.less zs xs l⟩;rcases q with q|⟨(q|⟨o,q⟩)|q,z⟩
  ·cases y:Z.lookup a with
   |none=>exact .inl (by rw [aB y];exact q)
   |some o'=>rw [zs a o' y] at q;cases q
  ·cases y:Z.lookup a with
   |none=>exact .inl (by rw [aB y];exact q)
   |some o'=>rw [zs a o' y] at q;cases q
  ·cases y:Z.lookup a with
   |none=>exact .inr ⟨.inl (.inr ⟨o,by rw [aB y];exact q⟩),z⟩
   |some o'=>rw [zs a o' y] at q;cases q
  ·exact .inr ⟨.inr q,z⟩
 |.lst xs,_,h=>by
  simp! [Rep] at h⊢;obtain⟨a,vs,e,q,l⟩:=h
  refine⟨a,vs,e,?_,aq.less zs xs l⟩;rcases q with(q|⟨o,q⟩)|q
  ·cases y:Z.lookup a with
   |none=>exact .inl (.inl (by rw [aB y];exact q))
   |some o'=>rw [zs a o' y] at q;cases q
  ·cases y:Z.lookup a with
   |none=>exact .inl (.inr ⟨o,by rw [aB y];exact q⟩)
   |some o'=>rw [zs a o' y] at q;cases q
  ·exact .inr q
 |.exc c,_,h=>by
  simp! [Rep] at h⊢;obtain⟨a,C,e,x,m,q⟩:=h
  cases y:Z.lookup a with
  |none=>exact⟨a,C,e,x,m,by rw [aB y];exact q⟩
  |some o'=>
   rw [zs a o' y] at q;unfold ja at q;cases q
 |.bf ks vs,_,h=>by
  simp! [Rep] at h⊢;obtain⟨a,o,us,e,n,m,l⟩:=h
  refine⟨a,o,us,e,n,?_,aq.less zs vs l⟩;cases y:Z.lookup a with
  |none=>rw [aB y];exact m
  |some o'=>rw [zs a o' y] at m;cases m
theorem aq.less(zs:∀b o,Z.lookup b=some o->G b=some (.bE o bV)):∀(ps:List PV) {vs:List V},aq W G ps vs->aq W (bb Z G) ps vs
 |[],_,h=>by simpa only [aq] using h
 |p::ps,_,h=>by
  simp! [aq] at h⊢;obtain⟨v,r,e,h1,h2⟩:=h
  exact⟨v,r,e,Rep.less zs p h1,aq.less zs ps h2⟩
end
theorem mr(t:cN W G H)(sg:aA G H)(zs:∀b o,Z.lookup b=some o->G b=some (.bE o bV))(zc:∀b o,Z.lookup b=some o->∃v,o.data=.cell v):cN W (bb Z G) (bb Z H):=λP q m=>by
 obtain⟨n,ps,e,tr,al⟩:=t P q m
 refine⟨iQ n,ps,?_,tr,λpos cv y=>?_⟩
 ·cases y:Z.lookup P with
  |none=>rw [aB y];exact e
  |some o=>rw [sg _ _ (zs P o y)] at e;cases e
 ·obtain⟨c',oc,di,t',e1,e2,e3,e4⟩:=al pos cv y
  refine⟨c',oc,di,t',e1,?_,e3,e4⟩;cases y:Z.lookup c' with
  |none=>rw [aB y];exact e2
  |some o=>
   rw [zs c' o y] at e2;cases e2;obtain⟨v,hv⟩:=zc c' _ y
   rw [e3] at hv;cases hv
theorem aC.wz{G3 H3:Hp}(g:aC W (bb Z G) (bb Z H) G3 H3)(sg:aA G H)(zs:∀b o,Z.lookup b=some o->G b=some (.bE o bV))(zc:∀b o,Z.lookup b=some o->∃v,o.data=.cell v)(zn:∀b o,Z.lookup b=some o->H3 b=none):aC W G H (aQ Z G3) (aQ Z H3) where
 g:=λb u e=>by
  cases y:Z.lookup b with
  |none=>rw [aj y];exact g.g _ _ (by rw [aB y];exact e)
  |some o=>rw [bh y];rw [zs b o y] at e;exact e
 h:=λb u e=>by
  cases y:Z.lookup b with
  |none=>rw [aj y];exact g.h _ _ (by rw [aB y];exact e)
  |some o=>
   rw [sg _ _ (zs b o y)] at e;cases e;exact .inl ⟨(λ_ z=>nomatch z),bh y⟩
 sub:=λb u e=>by
  cases y:Z.lookup b with
  |none=>rw [aj y] at e⊢;exact g.sub _ _ e
  |some o=>rw [bh y] at e⊢;exact e
 own:=λa h1 h3 h2=>by
  cases y:Z.lookup a with
  |none=>rw [aj y];exact g.own a (by rw [aB y];exact h1) (by rw [aB y];exact h3) (by rw [aB y];exact h2)
  |some o=>rw [zs a o y] at h2;cases h2
 tab:=λt P q m=>by
  obtain⟨n,ps,e,tr,al⟩:=g.tab (mr t sg zs zc) P q m
  refine⟨?_,ps,?_,tr,λpos cv y=>?_⟩
  ·cases y:Z.lookup P with
   |none=>rw [aj y];exact n
   |some o=>rw [zn P o y] at e;cases e
  ·cases y:Z.lookup P with
   |none=>rw [aj y];exact e
   |some o=>rw [zn P o y] at e;cases e
  ·obtain⟨c',oc,di,t',e1,e2,e3,e4⟩:=al pos cv y
   refine⟨c',oc,di,t',e1,?_,e3,e4⟩;cases y:Z.lookup c' with
   |none=>rw [aj y];exact e2
   |some o=>have:=g.sub _ _ e2;rw [zn c' o y] at this;cases this
theorem so(t:cN W G H)(sg:aA G H)(zn:∀b o,Z.lookup b=some o->H b=none):cN W (aQ Z G) (aQ Z H):=λP q m=>by
 obtain⟨n,ps,e,tr,al⟩:=t P q m
 refine⟨?_,ps,?_,tr,λpos cv y=>?_⟩
 ·cases y:Z.lookup P with
  |none=>rw [aj y];exact n
  |some o=>rw [zn P o y] at e;cases e
 ·cases y:Z.lookup P with
  |none=>rw [aj y];exact e
  |some o=>rw [zn P o y] at e;cases e
 ·obtain⟨c',oc,di,t',e1,e2,e3,e4⟩:=al pos cv y
  refine⟨c',oc,di,t',e1,?_,e3,e4⟩;cases y:Z.lookup c' with
  |none=>rw [aj y];exact e2
  |some o=>have:=sg _ _ e2;rw [zn c' o y] at this;cases this
theorem aC.lz{G' H':Hp}(g:aC W (aQ Z G) (aQ Z H) G' H')(sg:aA G H)(zc:∀b o,Z.lookup b=some o->∃v,o.data=.cell v)(zn:∀b o,Z.lookup b=some o->H b=none):aC W G H (bb Z G') (bb Z H') where
 g:=λb u e=>by
  cases y:Z.lookup b with
  |none=>rw [aB y];exact g.g _ _ (by rw [aj y];exact e)
  |some o=>have:=sg _ _ e;rw [zn b o y] at this;cases this
 h:=λb u e=>by
  cases y:Z.lookup b with
  |none=>rw [aB y];exact g.h _ _ (by rw [aj y];exact e)
  |some o=>rw [zn b o y] at e;cases e
 sub:=λb u e=>by
  obtain⟨q,e1⟩:=eo e
  rw [aB q];exact g.sub _ _ e1
 own:=λa h1 h3 h2=>by
  cases y:Z.lookup a with
  |none=>rw [aB y];exact g.own a (by rw [aj y];exact h1) (by rw [aj y];exact h3) (by rw [aj y];exact h2)
  |some o=>exact fB y
 tab:=λt=>mr (g.tab (so t sg zn)) g.sub (λb o q=>g.g _ _ (bh q)) zc
def yI(sg:aA G H):aA (aQ Z G) (aQ Z H):=λb u e=>by
 cases y:Z.lookup b with
 |none=>rw [aj y] at e⊢;exact sg _ _ e
 |some o=>rw [bh y] at e⊢;exact e
theorem vw{G3 H3:Hp}(s:aA G3 H3)(zn:∀b o,Z.lookup b=some o->H3 b=none):aA G3 (aQ Z G3):=λb u e=>by
 cases y:Z.lookup b with
 |none=>rw [aj y];exact e
 |some o=>have:=s _ _ e;rw [zn b o y] at this;cases this
def sd(zs:∀b o,Z.lookup b=some o->H b=some (.bE o bV)):aQ Z (bb Z H)=H:=by
 funext b
 cases y:Z.lookup b with
 |none=>rw [aj y,aB y]
 |some o=>rw [bh y,zs b o y]
def tJ(zs:∀b o,Z.lookup b=some o->H b=none):bb Z (aQ Z H)=H:=by
 funext b
 cases y:Z.lookup b with
 |none=>rw [aB y,aj y]
 |some o=>rw [fB y,zs b o y]
theorem Cj{P:Program}{w:World}{h:Heap}(k:eg P w H h)(zs:∀b o,Z.lookup b=some o->H b=some (.bE o bV)):eg P w (bb Z H) h:=λb v e=>by
 obtain⟨q,e1⟩:=eo e
 refine(k b v e1).dY (λc y _ r=>r) (λc r=>?_) λc xs r=>?_
 ·cases y:Z.lookup c with
  |none=>rw [aB y];exact r
  |some o=>rw [zs c o y] at r;cases r
 ·cases y:Z.lookup c with
  |none=>rw [aB y];exact r
  |some o=>rw [zs c o y] at r;cases r
def yt{P:Program}{w:World}{K:zz8}{mg:Str->Option Value}{base:Heap}{A:Around}{outer:List Env}{s:Shared}(e:ju P w K mg base A outer s H)(zs:∀b o,Z.lookup b=some o->H b=some (.bE o bV)):ju P w K mg base A outer s (bb Z H):=
 ⟨e.frames,e.mod,λb o q=>⟨(e.bs b o q).1,iQ (e.bs b o q).2⟩,e.uN,e.fW,λb hb=>iQ (e.vz b hb),Cj e.aJ zs,e.bare⟩
def BY{ps:List Str}{scope:Scope}(h:P1 ps scope=true):su ps (bu scope) scope:=by
 unfold P1 at h;simp! [zza,zzy,Bool.not_eq_true',zzN,zzT] at h;obtain⟨⟨⟨⟨⟨⟨h1,h2⟩,h3⟩,h4⟩,h5⟩,h6⟩,h7⟩:=h
 refine⟨h1,h2,h3,h4,h5,h6,h7,λx hx=>?_⟩
 unfold bu;rw [List.mem_reverse,zzx];exact⟨(x,.free),List.mem_filter.mpr ⟨PySem.mem_of_lookup hx,rfl⟩,rfl⟩
def xZ{params:Arguments}{ps:List Str}{qual:Str}{body:Expr}{scope:Scope}{cl:List (Str×Addr)}{pm gb ct:Value}(h:rn params=some ps)(us:List Value)(hl:us.length=ps.length):bindArgs (PySem.W.kla_fn "<lambda>" qual params body scope cl pm gb ct) ⟨us,[]⟩=pure (ps.zip us):=by
 rcases xU h with⟨rfl,rfl⟩|⟨a,rfl,rfl⟩
 ·match us,hl with
  |[],_=>rfl
 ·match us,hl with
  |[u],_=>
   simp [bindArgs,seqItems?,PySem.W.kla_fn]
   rfl
def Gk{params:Arguments}{ps:List Str}{env:Env}(h:rn params=some ps):defaultsOf params env=([],[]):=by
 rcases xU h with⟨rfl,rfl⟩|⟨a,rfl,rfl⟩
 ·rfl
 ·rfl
theorem ox:∀{idx:List Nat} {l qs:List PV} {us:List V},fD l idx=.ok qs->aq W G l us->∃vs:List V,aq W G qs vs/\vs.length=idx.length/\∀(j i:Nat),idx[j]?=some i->∃v,us[i]?=some v/\vs[j]?=some v
 |[],l,qs,us,h,r=>by
  unfold fD at h;cases h;exact⟨[],.nil,rfl,λj i e=>by simp at e⟩
 |i::idx,l,qs,us,h,r=>by
  unfold fD at h;obtain⟨p,hp,h⟩:=Res.bp h
  obtain⟨ps,lX,h⟩:=Res.bp h
  cases h;obtain⟨v,hv,rv⟩:=r.nZ (Res.of_ok hp)
  obtain⟨vs,l1,l2,l3⟩:=ox lX r
  refine⟨v::vs,.cons rv l1,by simp [l2],λj k e=>?_⟩
  cases j with
  |zero=>simp at e;subst e;exact⟨v,hv,rfl⟩
  |succ j=>simpa using l3 j k (by simpa using e)
theorem kK{l:List PV}(c:Str):∀{idx:List Nat},fD l idx≠.exc c
 |[]=>λz=>nomatch z
 |i::idx=>λz=>by
  unfold fD at z;rcases Res.dO z with z|⟨p,_,z⟩
  ·exact Res.aN c z
  ·rcases Res.dO z with z|⟨ps,_,z⟩
   ·exact kK c z
   ·cases z
end
def Ba(idx:List Nat):TA:=λσ H Q=>∃vs:List V,vs.length=idx.length/\(∀(j i:Nat),idx[j]?=some i->∃v,σ[i]?=some (some v)/\vs[j]?=some v)/\Q vs H
def r9{a:Expr}{as:List Expr}{xs:List (Option Str)}(h:fc (a::as) xs=true):∃x np,a=.Name x np/\∃Pp,fc as Pp=true:=by
 cases xs with
 |nil=>cases a<;>exact aP h
 |cons y ys=>
  cases y with
  |none=>cases a<;>exact aP h
  |some y=>
   cases a with
   |Name x np=>exact⟨x,np,rfl,ys,(Bool.and_eq_true_iff.mp h).2⟩
   |_=>exact aP h
theorem mP{env:Env}:∀{as:List Expr} {xs:List (Option Str)} {pos:Pos},fc as xs=true->(backTo pos (starEach as env)).any (·.1)=false
 |[],_,_,_=>rfl
 |a::as,xs,pos,h=>by
  obtain⟨x,np,rfl,Pp,h2⟩:=r9 h
  show(false||(backTo pos (starEach as env)).any (·.1))=false
  rw [mP h2]
  rfl
theorem sf{X:Cx}(hv:∀(i:Nat) (x:Str),X.N[i]?=some x->N0 X.env.scope x):∀{as:List Expr} {idx:List Nat},fc as (idx.map λi=>X.N[i]?)=true->PA X as (Ba idx)
 |[],[],_=>L2.PA.imp dq λσ H Q h=>by
  obtain⟨vs,h1,_,h3⟩:=h
  cases vs with
  |nil=>exact h3
  |cons _ _=>simp at h1
 |a::as,i::idx,h=>by
  rw [zzF] at h;cases e:X.N[i]? with
  |none=>rw [e] at h;cases a<;>exact aP h
  |some y=>
   rw [e] at h;cases a<;>first|(exact aP h)|skip
   rename_i x np;unfold fc at h;rw [zza,zza] at h;have Rf:=zzy.mp h.1.1
   subst Rf;have UU:(x==("__debug__":Str))=false/\(x==("__classdict__":Str))=false:=by
    have h2:=h.1.2
    unfold okN at h2;simp! [zza,Bool.not_eq_true'] at h2;exact⟨h2.1.1,h2.1.2⟩
   refine L2.PA.imp (bM (eZ (i:=i) e (hv i x e) UU.1 UU.2) (sf hv h.2) rfl) λσ H Q hq=>?_
   obtain⟨vs,h1,h2,h3⟩:=hq
   cases vs with
   |nil=>simp at h1
   |cons v vs=>
    obtain⟨v',hv1,hv2⟩:=h2 0 i rfl
    simp at hv2;subst hv2;exact⟨v,hv1,vs,by simpa using h1,λj k ej=>by simpa using h2 (j+1) k (by simpa using ej),h3⟩
 |[],_::_,h=>by cases h
 |a::_,[],h=>by cases a<;>cases h
section
variable{Γ:Pg}{X:Cx}{W:Wd}{F:aL}{N:List Str}{sc:Scope}{k:Nat}
def xI{g:Str}{idx:List Nat}{params:Arguments}{body:Expr}{scope:Scope}(h:Hc g idx params body scope=true):∃ps a as np pos,rn params=some ps/\idx.head?=some ps.length/\body=.Call (.Name g np) (a::as) [] pos/\scope.names.lookup g=some .globalImplicit/\okN g=true/\gU g=false/\fc (a::as) (idx.tail.map λi=>(ps++bu scope)[i]?)=true/\su ps (bu scope) scope:=by
 obtain⟨ps,e1,h⟩:=AE h
 obtain⟨⟨f,args,kws,pos⟩,e2,h⟩:=AE h
 simp! [zza,zzy,Bool.not_eq_true',zzN] at h;obtain⟨⟨⟨⟨⟨⟨⟨⟨h1,h7⟩,h8⟩,h0⟩,h2⟩,h3⟩,h4⟩,h5⟩,h6⟩:=h
 obtain⟨np,z1⟩:=cu h1
 have z7:=List.isEmpty_iff.1 h7
 try dsimp only at z1 z7
 subst z1 z7;cases args with
 |nil=>cases h8
 |cons a as=>exact⟨ps,a,as,np,pos,e1,h0,iJ e2,h2,h3,h4,h5,BY h6⟩
def vL{a:Expr}{as:List Expr}{xs:List (Option Str)}{env:Env}(h:fc (a::as) xs=true):∃x np,a=.Name x np/\∃Pp,fc as Pp=true:=r9 h
def E6(C:dz Γ F W N sc k X){g:Str}{idx:List Nat}{c7 as qs:List PV}{f:Addr}{ae:List (Addr×Obj)}{σ:St}{G H:Hp}{s:Shared}{Q:VK}{us:List Value}{vs:List V}
 (I:Inv X ae σ H s) (sg:aA G H) (tb:cN W G H) (cr:p7 W G g idx c7 (.ref f)) (l:aq W G as vs) (r:Vals vs us) (hn:idx.head?=some as.length) (hq:fD (as++c7) idx.tail=.ok qs)
 (o:Out X W (F g qs) σ G H λp=>dj W G H p Q):wpAny (model X.prog X.w) X.A (call (.ref f) us) (EP X ae σ Q) X.xe s:=by
 obtain⟨f',c',oc,di,t,fV,pm,params,body,scope,qual,cl,Z,ws,e,d⟩:=cr
 cases e;obtain⟨ps,a,as',np,pos,e1,e0,rfl,e2,e3,e4,e5,S⟩:=xI d.lg
 have Bu:F g qs≠.bad:=λz=>by rw [z] at o;exact o
 have hlen:as.length=ps.length:=zzq (hn.symm.trans e0)
 have OQ:∀b o,Z.lookup b=some o->H b=some (.bE o bV):=λb o q=>sg _ _ (d.zs b o q)
 have WK:aQ Z (bb Z H)=H:=sd OQ
 have FW:vK Z (bb Z H) (d9 X.stack) s.heap:=⟨λb o q=>(I.aJ b _ (OQ b o q)).1,λb o q=>fB q,λb o q hb=>by have:=I.lH b hb;rw [OQ b o q] at this;cases this⟩
 have rl:aq W (bb Z G) (as++c7) (vs++ws):=(aq.less d.zs as l).append d.rep
 obtain⟨ys,ry,ly,py⟩:=ox hq rl
 have tZ:Γ.fs.contains g=true:=by
  rcases C.any g qs Bu with z|z
  ·exact z
  ·rw [e4] at z;cases z
 obtain⟨fa,fd,pn,FO,hm,hk,hb,hal⟩:=(C.fns g tZ).ex
 have Wt:aA (bb Z G) (bb Z H):=pS sg
 refine wpAny_call (codeAny_mono (L2.wU (E:=λCv ao H'=>∃c,F g qs=.exc c/\XE W c G H Cv ao H') (Q:=Q) (Z:=Z) (ws:=ws) (vs:=vs) (t:=λσ' H1 Q1=>H1=bb Z H/\Ba idx.tail σ' H1 λzs H2=>H2=H1/\zs=ys/\∀u H3,(match F g qs with
  |.ok p=>∃G3,aC W (bb Z G) (bb Z H) G3 H3/\Rep W G3 p u
  |_=>False)->Q1 u H3) S C.room (yt I.zK OQ) FW ?zb (I.aJ _ _ (sg _ _ d.fo)).1 (I.aJ _ _ (sg _ _ d.co)).1 d.cd d.cn (xZ e1 us (by rw [<-r.length,l.length,hlen])) r (by rw [l.length,hlen]) d.len d.has d.inj d.cells ?cells ?ht ?hq) λrr s' hr=>?end_)
 case zb=>
  intro b o q;cases y:X.base.get? b with
  |none=>rfl
  |some o'=>have:=(I.bs b o' y).2;rw [OQ b o q] at this;cases this
 case cells=>
  intro i y c h1 h2 v h3;obtain⟨u,o',q1,q2,q3⟩:=d.vals i y c h1 h2 v h3
  exact⟨u,q1,o',FW.at_ c o' q2,q3⟩
 case hq=>
  refine⟨rfl,ys,ly,λj i ej=>?_,rfl,rfl,λu H3 h3 zn=>?_⟩
  ·obtain⟨v,h1,h2⟩:=py j i ej
   refine⟨v,?_,h2⟩;rw [<-List.map_append,zzQ,h1]
   rfl
  ·cases z:F g qs with
   |ok p=>
    rw [z] at h3 o;obtain⟨G3,g3,r3⟩:=h3
    exact o u _ _ (g3.wz sg d.zs d.zc zn) (Rep.same (vw g3.sub zn) p r3)
   |exc c=>rw [z] at h3;exact h3.elim
   |bad=>exact absurd z Bu
 case ht=>
  intro jg s1 σ' H1 Q1 I1 h1;obtain⟨rfl,h1⟩:=h1
  obtain⟨x0,np0,rfl,Pp,hrest⟩:=vL (env:=X.env) e5
  refine wpAny_Call_Name_kw (fU (X:=IJ X.prog X.w X.K X.mg X.base (ps++bu scope) qual scope f (.ref c') cl X.A X.stack s (bb Z H) _) I1 e2 hm ?_ (cZ e3).1);refine PySem.W.callWith_K (h₀:=X.base) I.ok.mod.PK hk (cj (sf (X:=IJ X.prog X.w X.K X.mg X.base (ps++bu scope) qual scope f (.ref c') cl X.A X.stack s (bb Z H) _) (λi x hx=>?_) e5 pos jg s1 σ' _ _ I1 h1) λus2 s2 ⟨vs2,H2,I2,r2,q2⟩=>⟨I2.pP,?_⟩) rfl (mP hrest)
  ·rcases List.mem_append.mp (zzD hx) with z|z
   ·exact .inl (S.par x z)
   ·exact .inr (.inr (S.SN x z))
  ·obtain⟨rfl,rfl,q2⟩:=q2
   refine mL (X:=IJ X.prog X.w X.K X.mg X.base (ps++bu scope) qual scope f (.ref c') cl X.A X.stack s (bb Z H) _) (q:=none) (as:=qs) (G:=bb Z G) (C.room.deeper _) FO hb (λz=>by rw [ry.length];exact hal qs z) I2 Wt (mr tb sg d.zs d.zc) ry r2 ?_;cases z:F g qs with
   |ok p=>
    rw [z] at q2;exact λv G' H' g' rp=>q2 v H' ⟨G',g',rp⟩
   |exc c=>
    intro pins3 G3 H3 s3 e s' I3 g3 x3;refine O6 pins3 σ' H3 s3 e s' I3 (DT.imp x3 λCv ao H' y zn=>?_);obtain⟨C4,a4,G4,y1,y2,y3,y4,y5⟩:=y
    exact⟨c,rfl,C4,a4,_,y1,y2,y3,y4,(g3.trans y5).wz sg d.zs d.zc zn⟩
   |bad=>exact absurd z Bu
 case end_=>
  rw [WK] at hr;cases rr with
  |error e=>
   have hr:dW X.prog X.w X.stack H s (λCv ao H'=>∃c,F g qs=.exc c/\XE W c G H Cv ao H') e s':=hr
   cases z:F g qs with
   |ok q=>
    obtain⟨a,C',t,vs,H',B,rfl,Fl⟩:=hr
    obtain⟨c,e1,_⟩:=Fl.ends
    rw [z] at e1;cases e1
   |exc c=>
    rw [z] at o;refine o ae G H s e s' I (.refl sg) (DT.imp hr λC1 a H' y=>?_);obtain⟨c',e1,y⟩:=y
    rw [z] at e1;cases e1;exact y
   |bad=>exact absurd z Bu
  |ok fl=>
   cases fl with
   |ret u=>exact I.after hr
   |next=>exact zzk hr
   |brk=>exact zzk hr
   |cont=>exact zzk hr
def Bl(C:dz Γ F W N sc k X){i:Nat}{x:Str}{e:E}{es:Es}{p:Expr}{ps:List Expr}{np pos:Pos}(h:(N[i]?==some x&&fb sc x&&okN x)=true)(Ca:iq (.cons e es)=true)(ha:GA X W F (.cons e es) (p::ps))
 (dG:starEach (p::ps) X.env=(false,eval p X.env)::starEach ps X.env) (hpl:(backTo pos (starEach ps X.env)).any (·.1)=false):GE X W F (.kF i (.cons e es)) (.Call (.Name x np) (p::ps) [] pos):=by
 simp! [zza,zzy] at h;obtain⟨h1,h2,h3⟩:=cZ h.2
 intro ae s σ H Q I hq;obtain⟨H0,G,env,sr,o⟩:=hq
 rw [aK] at o;cases e1:env[i]? with
 |none=>rw [e1] at o;exact o.elim
 |some sl=>
  cases sl with
  |no=>rw [e1] at o;exact o.elim
  |val _=>rw [e1] at o;exact o.elim
  |own _=>rw [e1] at o;exact o.elim
  |fn g idx c7=>
   rw [e1] at o;obtain⟨o2,hs,v,rfl,cr⟩:=sr.slot i _ e1
   have WB:=cr
   obtain⟨f,c',oc,di,t,fV,pm,params,body,scope,qual,cl,Z,ws,e2,d⟩:=WB
   subst e2;refine wpAny_Call_Name_kw (wpAny_mono (eZ (i:=i) (by rw [C.hN];exact h.1.1) (qR C h.1.2) h1 h2 ae s σ H (λv' H1=>v'=.ref f/\H1=H) I ⟨_,hs,rfl,rfl⟩) (λu s1 hu=>?_) λ_ _ y=>y)
   obtain⟨v',H1,I1,ru,rfl,rfl⟩:=hu
   cases ru;refine PySem.W.callWith_F ⟨_,_,_,_,(I1.aJ _ _ (sr.sub _ _ d.fo)).1⟩ (cj (ha pos ae s1 σ H1 (λvs H2=>∃G2 as qs,aA G2 H2/\cN W G2 H2/\aq W G2 as vs/\p7 W G2 g idx c7 (.ref f)/\G2 f=some (.bE (PySem.W.kla_obj "<lambda>" qual params body scope cl pm c' fV) bV)/\idx.head?=some as.length/\fD (as++c7) idx.tail=.ok qs/\Out X W (F g qs) σ G2 H2 λp=>dj W G2 H2 p Q) I1 ?_) λus s2 ⟨vs,H2,I2,r,q⟩=>?_) dG hpl
   ·refine args sr o λas vs G1 H2 g1 t1 bF o1=>?_
    split at o1
    ·rename_i hn;cases hq:fD (as++c7) idx.tail with
     |ok qs=>
      rw [hq] at o1;have tm:Out X W (F g qs) σ G1 H2 _:=o1
      exact⟨G1,as,qs,bF.sub,bF.tab,t1.rep Ca,cr.same g1.g,g1.g _ _ d.fo,hn,hq,tm.imp λp hp v G' H' g' rp=>hp v G' H' (g1.trans g') (.of rp)⟩
     |exc c=>exact absurd hq (kK c)
     |bad=>rw [hq] at o1;exact o1.elim
    ·exact o1.elim
   ·obtain⟨G2,as,qs,sg,tb,l,cr2,fo2,hn,hqs,o2⟩:=q
    exact⟨⟨_,_,_,_,(I2.aJ _ _ (sg _ _ fo2)).1⟩,E6 C I2 sg tb cr2 l r hn hqs o2⟩
def qY(X:Cx)(W:Wd)(params:Arguments)(body:Expr)(scope:Scope)(cl:List (Str×Addr))(G1 H1 G2 H2:Hp)(f:Addr):Prop:=aC W G1 H1 G2 H2/\∃c' oc di t fV pm,G2 f=some (.bE (PySem.W.kla_obj "<lambda>" (X.env.qual++"<lambda>") params body scope cl pm c' fV) bV)/\G2 c'=some (.bE oc bV)/\oc.data=.fields di/\di[1]?=some (.str (X.env.qual++"<lambda>") t)
def A0(C:dz Γ F W N sc k X)(hl:Γ.hl=true){params:Arguments}{ps:List Str}{body:Expr}{scope:Scope}{pos:Pos}{cl:List (Str×Addr)}(hp:rn params=some ps)(ID:closureFor scope X.env=pure cl):
 PE X (.Lambda params body scope pos) (λσ H Q=>∃G,aA G H/\cN W G H/\∀f G2 H2,qY X W params body scope cl G H G2 H2 f->Q (.ref f) H2):=by
 intro ae s σ H Q I h;obtain⟨G,sg,tb,q⟩:=h
 obtain⟨c,P,xt,CH,hts,huq⟩:=C.tb hl
 obtain⟨nG,nt,hP,tr,al⟩:=tb P _ hts
 refine L2.C9 (R:=λc' oc=>G c'=some (.bE oc bV)) I hP tr xt CH (C.bm hl) ID (Gk hp) (λcv e=>?_) λf c' oc di t fV rh h' tk hf hc D4 WI Wy hd hv Wv WQ more I'=>?_
 ·obtain⟨c',oc,di,t,e1,e2,e3,e4⟩:=al pos cv e
  exact⟨c',oc,di,t,e1,sg _ _ e2,e2,e3,e4⟩
 ·have Wc:G f=none:=sg.free hf
  have VU:G c'=none\/G c'=some (.bE oc bV):=by
   rcases hc with z|z
   ·exact .inl (sg.free z)
   ·exact .inr z.2
  have fo:∀fo,gV H P rh c' oc f fo f=some (.bE fo bV):=λfo=>by unfold gV;rw [ak]
  have sG:∀fo,aA G (upd (upd G c' (.bE oc bV)) f (.bE fo bV)):=λfo b u e=>by
   have FZ:b≠f:=λz=>by rw [z,Wc] at e;cases e
   rw [af FZ]
   by_cases hb:b=c'
   ·subst hb;rw [ak];rcases VU with z|z
    ·rw [z] at e;cases e
    ·rw [z] at e;exact e
   ·rw [af hb];exact e
  have S0:∀fo a,H a≠none->(∀vs,H a≠some (.tup vs))->G a=none->(upd (upd G c' (.bE oc bV)) f (.bE fo bV)) a=none:=λfo a h1 _ h2=>by
   have WA:a≠f:=λz=>h1 (by rw [z];exact hf)
   rw [af WA]
   by_cases ha:a=c'
   ·subst ha;rcases hc with z|z
    ·exact absurd z h1
    ·rw [z.2] at h2;cases h2
   ·rw [af ha];exact h2
  refine⟨.ref f,_,I',rfl,q f (upd (upd G c' (.bE oc bV)) f (.bE _ bV)) _ ⟨⟨sG _,λb u e=>?_,λb u e=>?_,S0 _,λ_ P' q' m=>?_⟩,c',oc,di,t,fV,(X.mg "__name__").getD .none,ak,by rw [af D4,ak],hd,hv⟩⟩
  ·have FZ:b≠f:=λz=>by rw [z,hf] at e;cases e
   by_cases MN:b=P
   ·subst MN;rw [hP] at e;cases e;obtain⟨m,rfl⟩:=more
    exact .inr ⟨nt,m,rfl,by unfold gV;rw [af (Ne.symm WI),af (Ne.symm Wy),ak]⟩
   ·have e2:gV H P rh c' oc f (PySem.W.kla_obj "<lambda>" (X.env.qual++"<lambda>") params body scope cl ((X.mg "__name__").getD .none) c' fV) b=H b:=by
     unfold gV;rw [af FZ]
     by_cases hb:b=c'
     ·subst hb;rw [ak];rcases hc with z|z
      ·rw [z] at e;cases e
      ·rw [z.1]
     ·rw [af hb,af MN]
    rw [e2];exact ib.refl H b u e
  ·by_cases FZ:b=f
   ·subst FZ;rw [ak] at e;rw [fo];exact e
   ·rw [af FZ] at e;unfold gV;rw [af FZ]
    by_cases hb:b=c'
    ·subst hb;rw [ak] at e⊢;exact e
    ·rw [af hb] at e⊢;have MN:b≠P:=λz=>by rw [z,nG] at e;cases e
     rw [af MN];exact sg _ _ e
  ·obtain⟨n1,qs,D9,tr1,al1⟩:=tb P' q' m
   have Kw:P'≠f:=λz=>by rw [z,hf] at D9;cases D9
   have iI:P'≠c':=λz=>by
    rcases hc with y|y
    ·rw [z,y] at D9;cases D9
    ·rw [z,y.1] at D9;cases D9
   refine⟨by rw [af Kw,af iI];exact n1,?_⟩
   by_cases hPP:P'=P
   ·subst hPP;rw [hP] at D9;cases D9;refine⟨rh,by unfold gV;rw [af Kw,af iI,ak],Wv,λpos' cv y=>?_⟩
    rcases WQ pos' cv y with y|y
    ·obtain⟨c2,oc2,cvs2,t2,e1,e2,e3,e4⟩:=al1 pos' cv y
     exact⟨c2,oc2,cvs2,t2,e1,sG _ _ _ e2,e3,e4⟩
    ·exact⟨c',oc,di,t,y,by rw [af D4,ak],hd,by rw [huq q' m];exact hv⟩
   ·refine⟨qs,by unfold gV;rw [af Kw,af iI,af hPP];exact D9,tr1,λpos' cv y=>?_⟩
    obtain⟨c2,oc2,cvs2,t2,e1,e2,e3,e4⟩:=al1 pos' cv y
    exact⟨c2,oc2,cvs2,t2,e1,sG _ _ _ e2,e3,e4⟩
structure Aw(N:List Str)(sc:Scope)(g:Str)(idx ba:List Nat)(params:Arguments)(body:Expr)(scope:Scope):Prop where
 lb:Hc g idx params body scope=true
 cn:ba.map (λi=>N[i]?)=(bu scope).map some
 cc:∀y∈bu scope,sc.names.lookup y=some .cell
noncomputable def OJ(X:Cx)(W:Wd)(F:aL)(N:List Str)(sc:Scope)(g:Str)(idx ba:List Nat)(es:Es):TA:=λσ H Q=>∃H0 G env,SR W H0 env σ G H/\Out X W (cY F es env) σ G H λas=>∀vs G1 H1,aC W G H G1 H1->aq W G1 as vs->∀params body scope f G2 H2,Aw N sc g idx ba params body scope->qY X W params body scope (bU X.env (bu scope)) G1 H1 G2 H2 f->Q (vs++[.ref f]) H2
def CJ(C:dz Γ F W N sc k X)(ok:X.Ok){g:Str}{idx ba:List Nat}{params:Arguments}{body:Expr}{scope:Scope}(a:Aw N sc g idx ba params body scope):closureFor scope X.env=pure (bU X.env (bu scope)):=by
 refine iS λy hy hf=>ok.has y.1 (.inl ?_)
 show X.env.scope.names.lookup y.1=_
 rw [C.ei];refine a.cc y.1 ?_;unfold bu;rw [List.mem_reverse,zzx];exact⟨y,List.mem_filter.mpr ⟨hy,by rw [hf];rfl⟩,rfl⟩
def E4(C:dz Γ F W N sc k X)(hl:Γ.hl=true){g:Str}{idx ba:List Nat}{params:Arguments}{body:Expr}{scope:Scope}{pos:Pos}(a:Aw N sc g idx ba params body scope):PA X [.Lambda params body scope pos] (OJ X W F N sc g idx ba .nil):=by
 obtain⟨ps,_,_,_,_,e1,_⟩:=xI a.lb
 intro pos' ae s σ H Q I h;refine bM (A0 C hl e1 (CJ C I.ok a)) dq rfl pos' ae s σ H Q I ?_;obtain⟨H0,G,env,sr,o⟩:=h
 rw [cY] at o;refine⟨G,sr.sub,sr.tab,λf G2 H2 m=>?_⟩
 exact o [] G H (.refl sr.sub) .nil params body scope f G2 H2 a m
theorem CN{g:Str}{idx ba:List Nat}{e:E}{es:Es}{p:Expr}{ps:List Expr}(Ca:iq (.cons e es)=true)(he:GE X W F e p)(hs:PA X ps (OJ X W F N sc g idx ba es))(dG:starEach (p::ps) X.env=(false,eval p X.env)::starEach ps X.env):PA X (p::ps) (OJ X W F N sc g idx ba (.cons e es)):=
 L2.PA.imp (bM he hs dG) λσ H Q h=>by
  obtain⟨H0,G,env,sr,o⟩:=h
  rw [cY] at o;unfold iq at Ca;rw [zza] at Ca;refine one sr o λq v G1 H1 g1 t1 bF o1=>⟨H0,G1,env,bF,o1.bind.imp λas ha vs G2 H2 g2 l=>?_⟩
  intro params body scope f G3 H3 la lm;have:=ha (v::vs) G2 H2 (g1.trans g2) (.cons (Rep.same g2.g q (t1.rep Ca.1)) l) params body scope f G3 H3 la lm
  simpa using this
def lookup_all{Z:List (Addr×Obj)}{h:Heap}(ha:∀q∈Z,h.get? q.1=some q.2):∀{c:Addr} {o:Obj},(c,o)∈Z->Z.lookup c=some o:=by
 induction Z with
 |nil=>intro c o m;cases m
 |cons q Z ih=>
  intro c o m;obtain⟨c1,o1⟩:=q
  rw [zz5];cases e:c==c1 with
  |true=>
   have e2:=zzy.mp e
   subst e2;have h1:=ha (c,o1) zzP
   have h2:h.get? c=some o:=ha (c,o) m
   rw [h1] at h2;exact h2
  |false=>
   rcases zzm.mp m with z|z
   ·cases z;simp at e
   ·exact ih (λq hq=>ha q (zzI _ hq)) z
theorem tj{H0 G H:Hp}{env:Sl}{σ:St}(sr:SR W H0 env σ G H):∀{ba:List Nat} {cs:List PV},kh env ba=.ok cs->∃ws:List V,aq W G cs ws/\ws.length=ba.length/\∀(j:Nat) (i:Nat),ba[j]?=some i->∃v,ws[j]?=some v/\σ[i]?=some (some v)
 |[],cs,h=>by
  unfold kh at h;cases h;exact⟨[],.nil,rfl,λj i e=>by simp at e⟩
 |i::ba,cs,h=>by
  unfold kh at h;obtain⟨p,hp,h⟩:=Res.bp h
  obtain⟨ps,lX,h⟩:=Res.bp h
  cases h;have hs:env[i]?=some (.val p):=by
   cases e:env[i]? with
   |none=>rw [e] at hp;cases hp
   |some s=>rw [e] at hp;cases s<;>cases hp;rfl
  obtain⟨o,h1,v,rfl,rv⟩:=sr.slot i _ hs
  obtain⟨ws,l1,l2,l3⟩:=tj sr lX
  refine⟨v::ws,.cons rv l1,by simp [l2],λj k e=>?_⟩
  cases j with
  |zero=>simp at e;subst e;exact⟨v,rfl,h1⟩
  |succ j=>simpa using l3 j k (by simpa using e)
theorem nC{env:Sl}(c:Str):∀{ba:List Nat},kh env ba≠.exc c
 |[]=>λz=>nomatch z
 |i::ba=>λz=>by
  unfold kh at z;rcases Res.dO z with z|⟨p,_,z⟩
  ·cases e:env[i]? with
   |none=>rw [e] at z;cases z
   |some s=>rw [e] at z;cases s<;>cases z
  ·rcases Res.dO z with z|⟨ps,_,z⟩
   ·exact nC c z
   ·cases z
def zg(C:dz Γ F W N sc k X)(hl:Γ.hl=true){q:Hs}{ba:List Nat}{fa:Addr}{fd:FuncData}{pn:List Str}(FO:gW X.prog X.w X.K X.mg X.base (dW X.prog X.w) k fa fd pn (Aq W F q.f pn.length (some (q.g,q.idx))))(hb:Binds X.K fd pn []){ae:List (Addr×Obj)}{σ:St}{H0 G H:Hp}{env:Sl}{s:Shared}{Q:VK}{us:List Value}{vs:List V}{as cs:List PV}{params:Arguments}{body:Expr}{scope:Scope}{f c':Addr}{oc:Obj}{di:Array Value}{t:Tok}{fV pm:Value}
 (I:Inv X ae σ H s) (sr:SR W H0 env σ G H) (a:Aw N sc q.g q.idx ba params body scope) (RW:kh env ba=.ok cs) (l:aq W G as vs) (fo:G f=some (.bE (PySem.W.kla_obj "<lambda>" (X.env.qual++"<lambda>") params body scope (bU X.env (bu scope)) pm c' fV) bV)) (co:G c'=some (.bE oc bV)) (cd:oc.data=.fields di) (cn:di[1]?=some (.str (X.env.qual++"<lambda>") t))
 (hlen:(vs++[V.ref f]).length=pn.length) (r:Vals (vs++[.ref f]) us) (o:Out X W (F q.f (as++cs)) σ G H λp=>dj W G H p Q):wpAny (model X.prog X.w) X.A (call (.ref fa) us) (EP X ae σ Q) X.xe s:=by
 have Bu:F q.f (as++cs)≠.bad:=λz=>by rw [z] at o;exact o
 obtain⟨ws,rws,lws,pws⟩:=tj sr RW
 have eK:∀y∈bu scope,∃c,X.env.cells.lookup y=some c:=λy hy=>I.ok.has y (.inl (by show X.env.scope.names.lookup y=_;rw [C.ei];exact a.cc y hy))
 have call:((bu scope).all λy=>(X.env.cells.lookup y).isSome)=true:=zzT.mpr λy hy=>by obtain⟨c,e⟩:=eK y hy;rw [e];rfl
 let Z:List (Addr×Obj):=(bu scope).filterMap λy=>(X.env.cells.lookup y).bind λc=>(s.heap.get? c).map λo=>(c,o)
 have NB:∀q∈Z,∃y,y∈bu scope/\X.env.cells.lookup y=some q.1/\s.heap.get? q.1=some q.2:=λq hq=>by
  obtain⟨y,hy,e⟩:=zz1.mp hq
  obtain⟨c,hc,e⟩:=zzZ.mp e
  obtain⟨o,ho,rfl⟩:=zzJ.mp e
  exact⟨y,hy,hc,ho⟩
 have RB:∀q∈Z,s.heap.get? q.1=some q.2:=λq hq=>let⟨_,_,_,h⟩:=NB q hq;h
 have TZ:∀y c o,y∈bu scope->X.env.cells.lookup y=some c->s.heap.get? c=some o->Z.lookup c=some o:=λy c o hy hc ho=>lookup_all RB (zz1.mpr ⟨y,hy,by rw [hc];show(s.heap.get? c).map _=_;rw [ho];rfl⟩)
 have N7:∀b o,Z.lookup b=some o->∃y,y∈bu scope/\X.env.cells.lookup y=some b/\s.heap.get? b=some o:=λb o e=>by
  obtain⟨y,h1,h2,h3⟩:=NB (b,o) (PySem.W.mem_of_lookupK e)
  exact⟨y,h1,h2,h3⟩
 have zc:∀b o,Z.lookup b=some o->∃v,o.data=.cell v:=λb o e=>by
  obtain⟨y,_,h2,h3⟩:=N7 b o e
  obtain⟨v,o',h4,h5⟩:=I.cell y b h2
  rw [h3] at h4;cases h4;exact⟨v,h5⟩
 have PH:∀b o,Z.lookup b=some o->H b=none:=λb o e=>by obtain⟨y,_,h2,_⟩:=N7 b o e;exact I.eG y b h2
 have Te:∀b o,Z.lookup b=some o->G b=none:=λb o e=>sr.sub.free (PH b o e)
 have tU:∀b u,G b=some u->Z.lookup b=none:=λb u e=>by
  cases y:Z.lookup b with
  |none=>rfl
  |some o=>rw [Te b o y] at e;cases e
 have OG:∀x c,(bU X.env (bu scope)).lookup x=some c->X.env.cells.lookup x=some c:=eV call
 have SY:∀x c,(bU X.env (bu scope)).lookup x=some c->x∈bu scope:=λx c e=>by
  have:=PySem.mem_of_lookup e
  unfold bU at this;obtain⟨y,hy,e2⟩:=zzx.mp this
  cases e2;exact hy
 have Ve:∀b o,Z.lookup b=some o->X.s₀.heap.objs.size<=b:=λb o e=>by
  obtain⟨y,_,h2,_⟩:=N7 b o e
  exact I.ok.IB y b (C.fl hl y) h2
 have FW:vK Z H (d9 X.stack) s.heap:=⟨λb o e=>let⟨_,_,_,h⟩:=N7 b o e;h,PH,λb o e Nr=>by
  obtain⟨y,_,h2,h3⟩:=N7 b o e
  rcases zzm.mp (I.iY b Nr) with z|z
  ·exact I.zx y b h2 z
  ·obtain⟨_,o',h4,_⟩:=I.ok.fW.mem z
   exact absurd (zzO h4) (Nat.not_lt.mpr (Ve b o e))⟩
 have zb:∀b o,Z.lookup b=some o->X.base.get? b=none:=λb o e=>by
  cases y:X.base.get? b with
  |none=>rfl
  |some o'=>exact absurd (zzO (I.ok.bs b o' y).1) (Nat.not_lt.mpr (Ve b o e))
 have WE:(bu scope).length=ba.length:=by have:=congrArg List.length a.cn;simpa using this.symm
 have cr:p7 W (aQ Z G) q.g q.idx cs (.ref f):=by
  refine⟨f,c',oc,di,t,fV,pm,params,body,scope,_,bU X.env (bu scope),Z,ws,rfl,⟨a.lb,by rw [aj (tU f _ fo)];exact fo,by rw [aj (tU c' _ co)];exact co,cd,cn,tU f _ fo,tU c' _ co,λx y c h1 h2=>I.ok.inj x y c (OG x c h1) (OG y c h2),λy hy=>ji hy,λx c h=>?_,λb o e=>bh e,zc,λi y c h1 h2 v h3=>?_,by rw [lws,WE],by rw [tJ Te];exact rws⟩⟩
  ·obtain⟨v,o,h1,h2⟩:=I.cell x c (OG x c h)
   exact⟨o,v,TZ x c o (SY x c h) (OG x c h) h1,h2⟩
  ·have hi:i<ba.length:=by rw [<-lws];exact(zzH.mp h3).1
   obtain⟨v',q1,q2⟩:=pws i ba[i] (zzg hi)
   rw [h3] at q1;cases q1;have V8:X.N[ba[i]]?=some y:=by
    rw [C.hN];have:=congrArg (λl=>l[i]?) a.cn
    simp! [zzQ,h1,zzg hi,Option.map_some] at this;exact zzq this
   obtain⟨m,_,hloc⟩:=I.loc
   obtain⟨u,ru,lk⟩:=hloc ba[i] y v V8 q2 (.inr (.inl (by rw [C.ei];exact a.cc y (zzD h1))))
   have UD:=OG y c h2
   rcases lk with⟨z,_⟩|⟨_,c2,hc2,o,ho,hd⟩
   ·have z2:X.env.scope.names.lookup y=some .local:=z
    rw [C.ei,a.cc y (zzD h1)] at z2;cases z2
   ·rw [UD] at hc2;cases hc2;exact⟨u,o,ru,TZ y c o (zzD h1) UD ho,hd⟩
 have U8:us.length=pn.length:=by rw [<-r.length];exact hlen
 have k7:=hb s us I.pP (by rw [zz6];exact U8)
 rw [zz6] at k7;have V0:aq W (aQ Z G) as vs:=aq.same (λb u e=>by rw [aj (tU b u e)];exact e) as l
 have We:∀G' H',aC W (aQ Z G) (aQ Z H) G' H'->∀b o,Z.lookup b=some o->G' b=some (.bE o bV):=λG' H' g b o e=>g.g _ _ (bh e)
 refine wpAny_call (codeAny_mono (FO.run X.A X.stack s (aQ Z H) ⟨us,[]⟩ us _ (λv H'=>Q v (bb Z H')) (λCv ao H'=>∃c,F q.f (as++cs)=.exc c/\XE W c G H Cv ao (bb Z H')) C.rm (I.zK.aQ FW zb) k7 r ⟨hlen,aQ Z G,as++cs,yI sr.sub,so sr.tab sr.sub PH,⟨as,cs,vs,.ref f,rfl,rfl,V0,cr⟩,?_⟩) λrr s' hr=>?_)
 ·cases z:F q.f (as++cs) with
  |ok p=>
   rw [z] at o;exact λv G' H' g' rp=>o v _ _ (g'.lz sr.sub zc PH) (Rep.less (We G' H' g') p rp)
  |exc c=>
   intro Cv ao H' y;obtain⟨C4,a4,G4,y1,y2,y3,y4,y5⟩:=y
   exact⟨c,rfl,C4,a4,_,y1,y2,y3,y4,y5.lz sr.sub zc PH⟩
  |bad=>exact absurd z Bu
 ·cases rr with
  |error e=>
   have hr:dW X.prog X.w X.stack H s (λCv ao H'=>∃c,F q.f (as++cs)=.exc c/\XE W c G H Cv ao H') e s':=dW.less FW hr
   cases z:F q.f (as++cs) with
   |ok q=>
    obtain⟨a,C',t,vs,H',B,rfl,Fl⟩:=hr
    obtain⟨c,e1,_⟩:=Fl.ends
    rw [z] at e1;cases e1
   |exc c=>
    rw [z] at o;refine o ae G H s e s' I (.refl sr.sub) (DT.imp hr λC1 a H' y=>?_);obtain⟨c',e1,y⟩:=y
    rw [z] at e1;cases e1;exact y
   |bad=>exact absurd z Bu
  |ok fl=>
   cases fl with
   |ret u=>exact I.after (CE.less FW hr)
   |next=>exact zzk hr
   |brk=>exact zzk hr
   |cont=>exact zzk hr
def DC(C:dz Γ F W N sc k X)(hl:Γ.hl=true){q:Hs}(hq:q∈Γ.hs){ba:List Nat}{es:Es}{p:Expr}{ps:List Expr}{np pos:Pos}(hg:gC sc q.h=true)(ho:okN q.h=true)(hn:q.np=gP es+1)(ha:PA X (p::ps) (OJ X W F N sc q.g q.idx ba es))
 (dG:starEach (p::ps) X.env=(false,eval p X.env)::starEach ps X.env) (hpl:(backTo pos (starEach ps X.env)).any (·.1)=false):GE X W F (.oU q.f es q.g q.idx ba) (.Call (.Name q.h np) (p::ps) [] pos):=by
 intro ae s σ H Q I h;obtain⟨H0,G,env,sr,o⟩:=h
 rw [aK] at o;obtain⟨fa,fd,pn,FO,hm,hk,hb,hpn⟩:=(C.tZ q hq).ex
 refine wpAny_Call_Name_kw (fU I (dA C hg) hm ?_ (cZ ho).1);refine PySem.W.callWith_K (h₀:=X.base) I.ok.mod.PK hk (cj (ha pos ae s σ H (λvs H2=>∃G2 as cs xE params body scope f c' oc di t fV pm,vs=xE++[.ref f]/\as.length=gP es/\SR W H0 env σ G2 H2/\Aw N sc q.g q.idx ba params body scope/\kh env ba=.ok cs/\aq W G2 as xE/\G2 f=some (.bE (PySem.W.kla_obj "<lambda>" (X.env.qual++"<lambda>") params body scope (bU X.env (bu scope)) pm c' fV) bV)/\G2 c'=some (.bE oc bV)/\oc.data=.fields di/\di[1]?=some (.str (X.env.qual++"<lambda>") t)/\Out X W (F q.f (as++cs)) σ G2 H2 λp=>dj W G2 H2 p Q) I ?_) λus s1 ⟨vs,H1,I1,r,y⟩=>⟨I1.pP,?_⟩) dG hpl
 ·refine⟨H0,G,env,sr,?_⟩;cases e1:cY F es env with
  |bad=>rw [e1] at o;exact o
  |exc c=>rw [e1] at o;exact o
  |ok as=>
   rw [e1] at o;have o:Out X W ((kh env ba).bind λcs=>F q.f (as++cs)) σ G H _:=o
   cases e2:kh env ba with
   |bad=>rw [e2] at o;exact o.elim
   |exc c=>exact absurd e2 (nC c)
   |ok cs=>
    rw [e2] at o;have o:Out X W (F q.f (as++cs)) σ G H _:=o
    intro vs G1 H1 g1 l params body scope f G2 H2 la lm;obtain⟨g2,c',oc,di,t,fV,pm,m1,m2,m3,m4⟩:=lm
    exact⟨G2,as,cs,vs,params,body,scope,f,c',oc,di,t,fV,pm,rfl,jb e1,(sr.grow g1).grow g2,la,rfl,aq.same g2.g as l,m1,m2,m3,m4,(o.grow (g1.trans g2)).imp λp hp v G' H' g' rp=>hp v G' H' ((g1.trans g2).trans g') (.of rp)⟩
 ·obtain⟨G2,as,cs,xE,params,body,scope,f,c',oc,di,t,fV,pm,rfl,hal,ff,la,Ig,l,m1,m2,m3,m4,o2⟩:=y
  exact zg C hl FO hb I1 ff la Ig l m1 m2 m3 m4 (by rw [zzM,l.length,hal,hpn,hn];rfl) r o2
end
end Ci
namespace L2
open PySem PySem.Spec PyProof.Rows
end L2
namespace Ci
open PySem L2
end Ci
namespace L2
open PySem PySem.Spec PyProof.Rows PySem.W
def kE(d:Addr):Obj:={cls:=.type "dict_items",data:=.fields #[.ref d]}
def n6(x y:Value)(d:Addr)(i n ep:Nat)(u v:Value):Obj:={cls:=.type "dict_itemiterator",data:=.fields #[x,y,.ref d,.int i 0,.int n 0,.int ep 0,u,v]}
def wI(e:DictEntry):Obj:={cls:=.type "tuple",data:=.seq #[e.key,e.val]}
def IA(h:Heap)(it d:Addr)(i n ep:Nat):Prop:=∃x y u v,h.get? it=some (n6 x y d i n ep u v)/\(x=.none\/∃a,x=rawInt (a:Nat)/\a≠it/\∃o,h.get? a=some o)
section
variable{prog:Program}{w:World}{A:Around}{E:Value->Shared->Prop}{s:Shared}{d it:Addr}{i n ep:Nat}
theorem fld{fs:Array Value}{j:Nat}{z:Value}{Q:Unit->Shared->Prop}(e:s.heap.get? it=some {cls:=.type "dict_itemiterator",data:=.fields fs})(hj:j<fs.size)(hQ:∀h',h'.get? it=some {cls:=.type "dict_itemiterator",data:=.fields (fs.setIfInBounds j z)}->Heap.SameBut it s.heap h'->Q () {s with heap:=h'}):wpAny (model prog w) A (setField (.ref it) j z) Q E s:=
 wpAny_setField e rfl hj (hQ _ (Heap.get?_update_self _ e rfl) (zzu ..))
def Bz{k v:Value}{Q:Value->Shared->Prop}(st:IA s.heap it d i n ep)
 (hQ:∀h',IA h' it d i n ep->h'.get? (zz9 s)=some {cls:=.type "tuple",data:=.seq #[k,v]}->h'.objs.size=(zz9 s)+1->(∀b o,b≠it->s.heap.get? b=some o->h'.get? b=some o)->Q (.ref (zz9 s)) {s with heap:=h'}):wpAny (model prog w) A (Builtin.Dict_items.pairFromOwner (.ref it) 6 k v) Q E s:=by
 obtain⟨x,y,u,z,e,hx⟩:=st
 have bS:=zzO e
 unfold Builtin.Dict_items.pairFromOwner Builtin.Dict_items.ownedTupleIsFree;refine zzA (wpAny_newTuple ?_);have e1:(s.heap.push {cls:=.type "tuple",data:=.seq #[k,v]}).get? it=some (n6 x y d i n ep u z):=zzB _ e
 have t1:(s.heap.push {cls:=.type "tuple",data:=.seq #[k,v]}).get? (zz9 s)=some {cls:=.type "tuple",data:=.seq #[k,v]}:=zzX _ rfl
 have k1:∀b o,s.heap.get? b=some o->(s.heap.push {cls:=.type "tuple",data:=.seq #[k,v]}).get? b=some o:=λb o q=>zzB _ q
 have z1:(s.heap.push {cls:=.type "tuple",data:=.seq #[k,v]}).objs.size=(zz9 s)+1:=Heap.size_push ..
 show wpAny (model prog w) A _ Q E {s with heap:=s.heap.push {cls:=.type "tuple",data:=.seq #[k,v]}}
 generalize s.heap.push {cls:=.type "tuple",data:=.seq #[k,v]}=h1 at e1 t1 k1 z1
 refine zzA (zzA (wpAny_field e1 rfl (x:=x) rfl ?_));have UJ:∀b o,b≠it->∀h':Heap,Heap.SameBut it h1 h'->s.heap.get? b=some o->h'.get? b=some o:=λb o hb h' q e=>q.extBut b o hb (k1 b o e)
 rcases hx with rfl|⟨a,rfl,ha,oa,hoa⟩
 ·refine zzG ?_;simp! [if_true];refine zzA (wpAny_field e1 rfl (x:=u) rfl (zzA (wpAny_field e1 rfl (x:=z) rfl ?_)));refine zzA (fld (s:={s with heap:=h1}) e1 (by simp) λh2 e2 s2=>zzA (fld (s:={s with heap:=h2}) e2 (by simp) λh3 e3 s3=>zzA (fld (s:={s with heap:=h3}) e3 (by simp) λh4 e4 s4=>zzA (fld (s:={s with heap:=h4}) e4 (by simp) λh5 e5 s5=>?_))))
  have S:Heap.SameBut it h1 h5:=⟨by rw [s5.1,s4.1,s3.1,s2.1],λb hb=>by rw [s5.2 b hb,s4.2 b hb,s3.2 b hb,s2.2 b hb]⟩
  have tt:=S.extBut _ _ (Nat.ne_of_gt bS) t1
  exact zzA (wpAny_letGo (zzG (hQ h5 ⟨_,_,_,_,e5,.inr ⟨_,rfl,Nat.ne_of_gt bS,_,tt⟩⟩ tt (S.1.trans z1) λb o hb q=>UJ b o hb h5 S q)))
 ·show wpAny (model prog w) A (loadIfAlive ((a:Int).toNat)>>=_) _ E _
  rw [zz4];refine zzA (kdx_alive (k1 _ _ hoa) ?_);simp! [Option.isNone_some,zze,if_false];refine zzA (wpAny_field e1 rfl (x:=y) rfl ?_);have fin:∀h2 y',h2.get? it=some (n6 (rawInt (a:Nat)) y' d i n ep u z)->Heap.SameBut it h1 h2->Q (.ref (zz9 s)) {s with heap:=h2}:=λh2 y' e2 S=>hQ h2 ⟨_,_,_,_,e2,.inr ⟨a,rfl,ha,oa,S.extBut _ _ ha (k1 _ _ hoa)⟩⟩ (S.extBut _ _ (Nat.ne_of_gt bS) t1) (S.1.trans z1) λb o hb q=>UJ b o hb h2 S q
  refine wpAny_ite_split (λ_=>?_) (λ_=>?_)
  ·refine zzA (fld (s:={s with heap:=h1}) e1 (by simp) λh2 e2 s2=>zzG ?_)
   simp! [zze,if_false];exact zzG (fin h2 _ e2 s2)
  ·refine zzG ?_;simp! [zze,if_false];exact zzG (fin h1 y e1 (Heap.SameBut.refl _ _))
def Eg{o:Obj}{Q:Value->Shared->Prop}(lo:(d==sysModules)=false)(h1:s.heap.get? d=some o)(hc:o.ExactDict)(hQ:Q (.ref (zz9 s)) {s with heap:=s.heap.push (kE d)}):wpAny (model prog w) A (Builtin.«dict.items» ⟨[.ref d],[]⟩) (λfin s'=>∃v,fin=.done (.ret v)/\Q v s') E s:=by
 have T:s.TypeIs (.ref d) "dict":=⟨o,h1,hc.1⟩
 unfold Builtin.«dict.items» Builtin.Dict.noArgs;refine zzA (zzA (wpAny_notOrdered_dict T ?_));show wpAny _ _ (pure d:Sem Addr) _ _ s;refine zzG ?_;show wpAny _ _ (Builtin.Dict.showsAll d>>=λ_=>_) _ _ s;unfold Builtin.Dict.showsAll;rw [if_neg (by rw [lo];exact zzf)];exact zzA (zzG (zzA (wpAny_newObj_type (zzG ⟨_,rfl,hQ⟩))))
def En{r:Addr}{o:Obj}{es:Array DictEntry}{Q:Value->Shared->Prop}(hr:s.heap.get? r=some (kE d))(h1:s.heap.get? d=some o)(h2:o.data=.dict es ep)
 (hQ:Q (.ref (zz9 s)) {s with heap:=s.heap.push (n6 .none (.bool false) d 0 es.size ep .none .none)}):wpAny (model prog w) A (pyIter (.ref r)) Q E s:=by
 have T:s.TypeIs (.ref r) "dict_items":=⟨_,hr,rfl⟩
 have own:Builtin.Dict_items.ownsTuple "dict_itemiterator"=true:=by decide
 refine wpAny_pyIter_slot T F.slot_dict_items_iter (wpAny_call_entry F.slot_dict_items_iter T F.entry_dict_items_iter ?_ (F.args_dict_items_iter_1 _));unfold Builtin.«dict_items.__iter__» Builtin.Dict_items.dictOf Builtin.Dict_items.newIterator;refine zzA (zzG (zzA (zzA (wpAny_field hr rfl (x:=.ref d) rfl (zzG (zzA (zzA (wpAny_dictEntries h1 h2 (zzA (wpAny_dictEpoch h1 h2 ?_))))))))));simp! [own,if_true];refine wpAny_newObj_type (zzG ⟨_,rfl,"dict_itemiterator",_,⟨_,zzX _ rfl,rfl⟩,F.slot_dict_itemiterator_next.lookup,?_⟩) (by simp! [sizeOk,Builtin.Dict_items.ownedTupleFields,zzC,zzM,zzL,List.length_nil,sizeLine_eq];omega)
 simpa [rawInt,Builtin.Dict_items.ownedTupleFields,n6] using hQ
def Fz{o:Obj}{es:Array DictEntry}{Q:Option Value->Shared->Prop}(st:IA s.heap it d i es.size ep)(h1:s.heap.get? d=some o)(h2:o.data=.dict es ep)(hi:i<es.size)(hd:d≠it)
 (hQ:∀h',IA h' it d (i+1) es.size ep->h'.get? (zz9 s)=some (wI es[i])->h'.objs.size=(zz9 s)+1->(∀b o,b≠it->s.heap.get? b=some o->h'.get? b=some o)->Q (some (.ref (zz9 s))) {s with heap:=h'}):wpAny (model prog w) A (pyNext (.ref it)) Q E s:=by
 obtain⟨x,y,u,v,e,hx⟩:=id st
 have T:s.TypeIs (.ref it) "dict_itemiterator":=⟨_,e,rfl⟩
 have own:Builtin.Dict_items.ownsTuple "dict_itemiterator"=true:=by decide
 unfold pyNext;refine zzA (wpAny_attempt (wpAny_callSpecial?_slot (name:=Str.ofString "__next__") T F.slot_dict_itemiterator_next (wpAny_call_entry F.slot_dict_itemiterator_next T F.entry_dict_itemiterator_next ?_ (F.args_dict_itemiterator_next_1 _))));refine zzA (zzG (zzA (zzA ?_)))
 first|refine zzA (wpAny_typeNameOfWhole_itemiter T (zzG (zzA (wpAny_fieldsOf e rfl ?_))))|refine zzA (wpAny_typeNameOf_itemiter T (zzG (zzA (wpAny_fieldsOf e rfl ?_))))
 simp! [own,if_true];show wpAny _ _ (if(Value.ref d==Value.none)=true then _ else _:Sem _) _ _ s;rw [if_neg (show¬((Value.ref d==Value.none)=true) from zzf)];refine zzA (zzG (zzA (wpAny_dictEntries h1 h2 ?_)));rw [if_neg (by simp)];refine zzA (zzG (zzA (wpAny_dictEpoch h1 h2 ?_)));rw [if_neg (by simp)];refine zzG ?_;simp! [show¬((i:Int)<0) from by omega,if_false,zz4,zz2 hi];refine zzA ?_
 first|refine zzA (wpAny_typeNameOfWhole_itemiter T (zzG (zzA (wpAny_isOneOf_itemiter T ?_))))|refine zzA (wpAny_typeNameOf_itemiter T (zzG (zzA (wpAny_isOneOf_itemiter T ?_))))
 show wpAny _ _ (setField (.ref it) 3 (rawInt ((i:Int)+1))>>=λ_=>_) _ _ s
 refine zzA (fld e (by simp) λoF e2 s2=>zzA (wpAny_holding ?_))
 have JY:IA oF it d (i+1) es.size ep:=⟨x,y,u,v,by rw [e2];simp [rawInt,n6],hx.imp id λ⟨a,q1,q2,o,q3⟩=>⟨a,q1,q2,o,s2.extBut _ _ q2 q3⟩⟩
 have T2:Shared.TypeIs {s with heap:=oF} (.ref it) "dict_itemiterator":=⟨_,e2,rfl⟩
 refine zzA (wpAny_isOneOf_itemiter T2 (zzA (wpAny_isOneOf_itemiter T2 ?_)));show wpAny _ _ (Builtin.Dict_items.pairFromOwner (.ref it) 6 es[i].key es[i].val) _ _ {s with heap:=oF};refine Bz (s:={s with heap:=oF}) JY λh3 Mb t3 z3 k3=>?_
 have z2:oF.objs.size=(zz9 s):=s2.1
 simp! [z2] at t3 z3⊢;exact zzG ⟨_,rfl,zzG (hQ h3 Mb t3 z3 λb o hb q=>k3 b o hb (s2.extBut b o hb q))⟩
def Kr{o:Obj}{es:Array DictEntry}{Q:Option Value->Shared->Prop}(hh:A.handled=none)(st:IA s.heap it d i es.size ep)(h1:s.heap.get? d=some o)(h2:o.data=.dict es ep)(hi:es.size<=i)
 (hQ:∀h',Heap.ExtBut it s.heap h'->Q none {s with heap:=h'}):wpAny (model prog w) A (pyNext (.ref it)) Q E s:=by
 obtain⟨x,y,u,v,e,hx⟩:=st
 have T:s.TypeIs (.ref it) "dict_itemiterator":=⟨_,e,rfl⟩
 have own:Builtin.Dict_items.ownsTuple "dict_itemiterator"=true:=by decide
 unfold pyNext;refine zzA (wpAny_attempt (wpAny_callSpecial?_slot (name:=Str.ofString "__next__") T F.slot_dict_itemiterator_next (wpAny_call_entry F.slot_dict_itemiterator_next T F.entry_dict_itemiterator_next ?_ (F.args_dict_itemiterator_next_1 _))));refine zzA (zzG (zzA (zzA ?_)))
 first|refine zzA (wpAny_typeNameOfWhole_itemiter T (zzG (zzA (wpAny_fieldsOf e rfl ?_))))|refine zzA (wpAny_typeNameOf_itemiter T (zzG (zzA (wpAny_fieldsOf e rfl ?_))))
 simp! [own,if_true];show wpAny _ _ (if(Value.ref d==Value.none)=true then _ else _:Sem _) _ _ s;rw [if_neg (show¬((Value.ref d==Value.none)=true) from zzf)];refine zzA (zzG (zzA (wpAny_dictEntries h1 h2 ?_)));rw [if_neg (by simp)];refine zzA (zzG (zzA (wpAny_dictEpoch h1 h2 ?_)));rw [if_neg (by simp)];refine zzG ?_;simp! [show¬((i:Int)<0) from by omega,if_false,zz4,Array.getElem?_eq_none hi];refine zzA ?_
 first|refine zzA (wpAny_typeNameOfWhole_itemiter T (zzG ?_))|refine zzA (wpAny_typeNameOf_itemiter T (zzG ?_))
 show wpAny _ _ (setField (.ref it) 2 .none>>=λ_=>_) _ _ s
 refine zzA (wpAny_setField e rfl (by simp) ?_);show wpAny _ _ (newExc (.type "StopIteration") []>>=λ_=>_) _ _ _
 refine zzA ?_;simp! [newExc,newTuple];refine zzA (wpAny_newObj_type (zzA (m:=firstArgMember _ _) (wpAny_of_eq (a:=Value.none) (by first|rfl|(simp! [firstArgMember];rfl)) (wpAny_newObj_type ?_ (by size_fits)))) (by size_fits));simp! [raiseNew];refine zzA (wpAny_handled ?_);rw [show A.in1.handled=none from hh];refine zzA (zzG (wpAny_throw ?_));refine zzA (wpAny_isInstance (T:="StopIteration") (b:=true) ⟨_,zzX _ rfl,rfl⟩ isSubtype_stop ?_);exact zzG (hQ _ (((zzu ..).extBut.push _).push _))
end
def Got(h:Heap)(lo:Nat)(es:Array DictEntry)(as:List Addr):Prop:=as.Pairwise (·<·)/\∀(j:Nat) a,as[j]?=some a->lo<a/\∃hj:j<es.size,h.get? a=some (wI es[j])
abbrev lO(acc:Array Value)(c:Nat):Obj:={cls:=.type "list",dict:=none,data:=.seq acc c,slots:=#[]}
section
variable{prog:Program}{w:World}{A:Around}{E:Value->Shared->Prop}{s:Shared}{d:Addr}{o:Obj}{es:Array DictEntry}{ep:Nat}
def Got.snoc{h h':Heap}{lo:Nat}{as:List Addr}(g:Got h lo es as)(k:∀b x,lo<b->h.get? b=some x->h'.get? b=some x){a:Addr}(hl:lo<a)(hi:as.length<es.size)(top:∀b∈as,b<a)(e:h'.get? a=some (wI es[as.length])):Got h' lo es (as++[a]):=by
 refine⟨List.pairwise_append.2 ⟨g.1,List.pairwise_singleton _ _,λx hx y hy=>by rw [zzi.1 hy];exact top x hx⟩,λj b hj=>?_⟩
 by_cases h1:j<as.length
 ·rw [zzr h1] at hj;obtain⟨q1,q2,q3⟩:=g.2 j b hj
  exact⟨q1,q2,k b _ q1 q3⟩
 ·rw [zzs (Nat.le_of_not_lt h1)] at hj;have:j=as.length:=by
   rcases Nat.lt_or_ge (j-as.length) 1 with q|q
   ·omega
   ·rw [List.getElem?_eq_none (by simpa using q)] at hj;cases hj
  subst this;rw [Nat.sub_self] at hj;cases hj;exact⟨hl,hi,e⟩
def Dr{R:Result->Shared->Prop}{S I:Addr}{h1:Heap}(hh:A.handled=none)(Nw:S<I)(hS:d≠S)(hI:d≠I)(h2:o.data=.dict es ep)(hn:es.size<=sizeLine)(res:Value)
 (hR:∀h' tk acc c as,(∀b x,b≠S->b≠I->h1.get? b=some x->h'.get? b=some x)->h'.get? S=some (lO acc c)->as.length=es.size->Got h' I es as->acc.toList=as.map Value.ref->R (.ok (.ret res)) {s with heap:=h',toks:=tk}):
 ∀(k i:Nat) (h:Heap) (tk c:Nat) (acc:Array Value) (as:List Addr),es.size-i=k->i<=es.size->IA h I d i es.size ep->h.get? d=some o->(∀b x,b≠S->b≠I->h1.get? b=some x->h.get? b=some x)->h.get? S=some (lO acc c)->acc.toList=as.map Value.ref->as.length=i->Got h I es as->
  codeAny (model prog w) A (.builtin "list.extend.loop" ⟨[.ref S,.ref I,res],[]⟩) R {s with heap:=h,toks:=tk}:=by
 have g8:S≠I:=zzb Nw
 intro k
 induction k with
 |zero=>
  intro i h tk c acc as hk hi st ed kp eS ea el g;refine codeAny_builtin PySem.F.entry_extend_loop ?_;rw [zz7 PySem.F.plain_extend_loop _];show wpAny _ A.in1 (pyNext (.ref I)>>=λ_=>_) _ _ _
  refine zzA (Kr (s:={s with heap:=h,toks:=tk}) (A:=A.in1) hh st ed h2 (by omega) λh' x=>?_)
  exact zzG (hR h' tk acc c as (λb y q1 q2 q=>x b y q2 (kp b y q1 q2 q)) (x S _ g8 eS) (by omega) ⟨g.1,λj a hj=>let⟨q1,q2,q3⟩:=g.2 j a hj;⟨q1,q2,x a _ (Nat.ne_of_gt q1) q3⟩⟩ ea)
 |succ k ih=>
  intro i h tk c acc as hk hi st ed kp eS ea el g;have hz:acc.size=i:=by rw [<-zzd,ea,zzl,el]
  have Ru:i<es.size:=by omega
  have VG:=zzO eS
  obtain⟨_,_,_,_,eI,_⟩:=id st
  have Wu:=zzO eI
  refine codeAny_builtin PySem.F.entry_extend_loop ?_;rw [zz7 PySem.F.plain_extend_loop _];show wpAny _ A.in1 (pyNext (.ref I)>>=λ_=>_) _ _ _
  refine zzA (Fz (s:={s with heap:=h,toks:=tk}) (A:=A.in1) st ed h2 Ru hI λh' iV t' z' k'=>?_)
  dsimp only at t' z' k'⊢;have RJ:=k' S _ g8 eS
  have up:∀b x,b≠S->h'.get? b=some x->(h'.update S (Obj.mapSeq (·.push (Value.ref h.objs.size)))).get? b=some x:=λb x hb q=>(Heap.get?_update_other _ _ (Ne.symm hb)).trans q
  have JY:IA (h'.update S (Obj.mapSeq (·.push (Value.ref h.objs.size)))) I d (i+1) es.size ep:=by
   obtain⟨x,y,u,v,q,hx⟩:=iV
   refine⟨x,y,u,v,up _ _ (Ne.symm g8) q,hx.imp id λ⟨a,q1,q2,q3,q4⟩=>?_⟩
   by_cases hb:a=S
   ·subst hb;exact⟨a,q1,q2,_,Heap.get?_update_self _ RJ rfl⟩
   ·exact⟨a,q1,q2,q3,up _ _ hb q4⟩
  show wpAny _ A.in1 (updateSeq S (·.push (Value.ref h.objs.size))>>=λ_=>_) _ _ _
  refine zzA (wpAny_updateSeq RJ rfl (zzG ⟨plainId_quiet PySem.F.plain_extend_loop _,ih (i+1) _ tk _ (acc.push (Value.ref h.objs.size)) (as++[h.objs.size]) (by omega) Ru JY (up d _ hS (k' d _ hI ed)) (λb x q1 q2 q=>up b x q1 (k' b x q2 (kp b x q1 q2 q))) (Heap.get?_update_self _ RJ rfl) (by rw [Array.toList_push,ea,List.map_append];rfl) (by rw [zzM,el];rfl) ?_⟩) (by rw [hz];omega) (by show(acc.push (Value.ref h.objs.size)).size<=sizeLine+1;rw [Array.size_push,hz];omega))
  subst el;refine g.snoc (λb x q q'=>up b x (Nat.ne_of_gt (Nat.lt_trans Nw q)) (k' b x (Nat.ne_of_gt q) q')) Wu Ru (λb hb=>?_) (up _ _ (Nat.ne_of_gt VG) t')
  obtain⟨j,hj⟩:=List.mem_iff_getElem?.1 hb
  exact zzO (g.2 j b hj).2.2
def uO{R:Result->Shared->Prop}{r S:Addr}(hh:A.handled=none)(hr:s.heap.get? r=some (kE d))(h1:s.heap.get? d=some o)(h2:o.data=.dict es ep)(hn:es.size<=sizeLine)(Wa:S≠r)(TJ:d≠S)(res:Value)(c:Nat)(eS:s.heap.get? S=some (lO #[] c))
 (hR:∀h' tk acc c as,(∀b x,b≠S->s.heap.get? b=some x->h'.get? b=some x)->h'.get? S=some (lO acc c)->as.length=es.size->Got h' (zz9 s) es as->acc.toList=as.map Value.ref->R (.ok (.ret res)) {s with heap:=h',toks:=tk}):
 wpAny (model prog w) A.in1 (Builtin.List.listExtendWith (.ref S) (.ref r) res) (λfin s'=>match fin with|.done f=>R (.ok f) s'|.again c'=>c'.quiet=true/\codeAny (model prog w) A c' R s') (λe s'=>R (.error e) s') s:=by
 have T:s.TypeIs (.ref r) "dict_items":=⟨_,hr,rfl⟩
 have Nw:S<(zz9 s):=zzO eS
 have Wx:d<(zz9 s):=zzO h1
 have kp:∀b x,s.heap.get? b=some x->(s.heap.push (n6 .none (.bool false) d 0 es.size ep .none .none)).get? b=some x:=λb x q=>zzB _ q
 have eI:(s.heap.push (n6 .none (.bool false) d 0 es.size ep .none .none)).get? (zz9 s)=some (n6 .none (.bool false) d 0 es.size ep .none .none):=zzX _ rfl
 have key:∀(h:Heap) (c1 tk:Nat),(∀b x,b≠S->(s.heap.push (n6 .none (.bool false) d 0 es.size ep .none .none)).get? b=some x->h.get? b=some x)->h.get? S=some (lO #[] c1)->codeAny (model prog w) A (.builtin "list.extend.loop" ⟨[.ref S,.ref (zz9 s),res],[]⟩) R {s with heap:=h,toks:=tk}:=λh c1 tk hk e1=>
  Dr (h1:=s.heap) hh Nw TJ (zzb Wx) h2 hn res (λh' MY acc c as q1 q2 q3 q4 q5=>hR h' MY acc c as (λb x hb q=>q1 b x hb (zzb (zzO q)) q) q2 q3 q4 q5) es.size 0 h tk c1 #[] [] rfl (Nat.zero_le _) ⟨_,_,_,_,hk _ _ (Nat.ne_of_gt Nw) eI,.inl rfl⟩ (hk _ _ TJ (kp _ _ h1)) (λb x hb _ q=>hk b x hb (kp b x q)) e1 rfl rfl ⟨.nil,λj a hj=>by simp at hj⟩
 unfold Builtin.List.listExtendWith;refine zzA (wpAny_typeOf T ?_);have e1:Builtin.List.listSameRef (.ref S) (.ref r)=false:=by simp [Builtin.List.listSameRef,Wa]
 have e2:(Value.type "dict_items"==Value.type "list")=false:=by decide
 have e3:(Value.type "dict_items"==Value.type "tuple")=false:=by decide
 simp! [e1,e2,e3,Bool.or_false,zze,if_false];refine zzA (En hr h1 h2 ?_);have Rq:=kp _ _ eS
 refine zzA (wpAny_holding (kdx_hint ⟨_,kp _ _ hr,rfl⟩ ?_));refine wpAny_ite_split (λ_=>?_) (λ_=>zzG ⟨plainId_quiet PySem.F.plain_extend_loop _,key _ c _ (λb x _ q=>q) Rq⟩)
 refine zzA (wpAny_rule (zzA ?_));show wpAny _ _ (updateSeq S (·.push .none)>>=λ_=>updateSeq S (·.pop)) _ _ _
 refine zzA (wpAny_updateSeq Rq rfl ?_);have Ue:=Heap.get?_update_self (Obj.mapSeq (·.push Value.none)) Rq rfl
 refine wpAny_updateSeq (hz:=by seq_fits) Ue rfl ?_;have VF:=Heap.get?_update_self (Obj.mapSeq (·.pop)) Ue rfl
 exact zzG ⟨plainId_quiet PySem.F.plain_extend_loop _,key _ _ _ (λb x hb q=>(Heap.get?_update_other _ _ (Ne.symm hb)).trans ((Heap.get?_update_other _ _ (Ne.symm hb)).trans q)) VF⟩
def Oj(s:Shared)(es:Array DictEntry)(res:Result)(s':Shared):Prop:=∃h' tk acc c as,res=.ok (.ret (.ref (zz9 s)))/\s'={s with heap:=h',toks:=tk}/\(∀b x,s.heap.get? b=some x->h'.get? b=some x)/\h'.get? (zz9 s)=some (lO acc c)/\as.length=es.size/\Got h' (zz9 s) es as/\acc.toList=as.map Value.ref
def um{Q:List Value->Shared->Prop}{r:Addr}(hh:A.handled=none)(hr:s.heap.get? r=some (kE d))(h1:s.heap.get? d=some o)(h2:o.data=.dict es ep)(hn:es.size<=sizeLine)
 (hQ:∀h' tk as,(∀b x,s.heap.get? b=some x->h'.get? b=some x)->as.length=es.size->Got h' (zz9 s) es as->Q (as.map Value.ref) {s with heap:=h',toks:=tk}):wpAny (model prog w) A (collect (.ref r)) Q E s:=by
 have eS:(s.heap.push (seqObj "list" #[] 0)).get? (zz9 s)=some (lO #[] 0):=zzX _ rfl
 have kp:∀b x,s.heap.get? b=some x->(s.heap.push (seqObj "list" #[] 0)).get? b=some x:=λb x q=>zzB _ q
 have main:codeAny (model prog w) A (.builtin "proto.collect" ⟨[.ref r],[]⟩) (Oj s es) s:=by
  refine codeAny_builtin F.entry_proto_collect ?_;rw [zz7 F.plain_proto_collect _];show wpAny _ A.in1 (newList []>>=λl=>again (.builtin "list.__iadd__" ⟨[l,.ref r],[]⟩)) _ _ s
  refine zzA (wpAny_newList (zzG ⟨plainId_quiet F.plain_list_iadd _,codeAny_builtin F.entry_list_iadd ?_⟩) (Nat.zero_le _));rw [zz7 F.plain_list_iadd _];refine uO (R:=Oj s es) (s:={s with heap:=s.heap.push (seqObj "list" #[] 0)}) hh (kp _ _ hr) (kp _ _ h1) h2 hn (Nat.ne_of_gt (zzO hr)) (zzb (zzO h1)) (.ref (zz9 s)) 0 eS λh' tk acc c as q1 q2 q3 q4 q5=>⟨h',tk,acc,c,as,rfl,rfl,λb x q=>q1 b x (zzb (zzO q)) (kp b x q),q2,q3,⟨q4.1,λj a hj=>?_⟩,q5⟩
  obtain⟨u1,u2⟩:=q4.2 j a hj
  exact⟨Nat.lt_trans (by show _<(s.heap.push (seqObj "list" #[] 0)).objs.size;rw [Heap.size_push];exact Nat.lt_succ_self _) u1,u2⟩
 unfold collect;refine zzA (wpAny_runValue (codeAny_mono main λres s' hr=>?_));obtain⟨h',tk,acc,c,as,rfl,rfl,k1,k2,k3,k4,k5⟩:=hr
 show wpAny _ A (load (zz9 s)>>=λz=>_) _ _ _
 refine zzA (wpAny_load k2 (zzG ?_));show Q acc.toList _;rw [k5];exact hQ h' tk as k1 k3 k4
end
def j4(H:Hp)(L:List (Addr×HO)):Hp:=λb=>(L.lookup b).or (H b)
def lookup_mem{L:List (Addr×HO)}{b:Addr}{o:HO}(h:L.lookup b=some o):(b,o)∈L:=by
 induction L with
 |nil=>cases h
 |cons p L ih=>
  obtain⟨a,x⟩:=p
  rw [zz5] at h
  by_cases e:b==a
  ·rw [e] at h;cases h;rw [zzy.1 e];exact zzP
  ·rw [Bool.eq_false_iff.2 e] at h;exact zzI _ (ih h)
section
variable{X:Cx}{ae:List (Addr×Obj)}{σ:St}{H:Hp}{s:Shared}{h':Heap}
def dw{L:List (Addr×HO)}(hn:∀p∈L,H p.1=none){b:Addr}{o:HO}(e:H b=some o):j4 H L b=some o:=by
 unfold j4;cases q:L.lookup b with
 |none=>exact e
 |some x=>rw [hn _ (lookup_mem q)] at e;cases e
def Inv.N3{L:List (Addr×HO)}{t':Nat}(I:Inv X ae σ H s)(k:∀b u,s.heap.get? b=some u->h'.get? b=some u)(hp:∀p∈L,(zz9 s)<=p.1)(new:∀a o,L.lookup a=some o->bW X.prog X.w (j4 H L) h' a o):Inv X ae σ (j4 H L) {s with heap:=h',toks:=t'}:=by
 have hn:∀p∈L,H p.1=none:=λp hm=>I.aJ.fresh (hp p hm)
 refine I.un ⟨λb u q _ _ _=>k b u q,λb u q _ _ _=>⟨u.slots,k b u q⟩,λb u q n _=>?_,λb u q _=>⟨u,k b u q⟩,λb xs q=>dw hn q,λb u xs q=>dw hn q,λb ps q=>⟨#[],by rw [dw hn q];simp⟩⟩ λb u e=>?_
 ·unfold j4;cases e:L.lookup b with
  |none=>exact n
  |some x=>exact absurd (zzO q) (Nat.not_lt_of_le (hp _ (lookup_mem e)))
 ·unfold j4 at e;cases q:L.lookup b with
  |some x=>
   rw [q] at e;cases e;exact new b u q
  |none=>
   rw [q] at e;exact(I.aJ b u e).dY (λc v _ z=>k c v z) (λc z=>dw hn z) λc xs z=>dw hn z
end
def Qi(p d:Addr):HO:=.ext λh=>h.get? p=some (kE d)
section
variable{X:Cx}{o:Expr}{to:TE}{apos bL:Pos}
def Df(ho:PE X o to)(eh:attributeBase o "items" X.env (eval o X.env)=eval o X.env)(gj:(apos.endLine==bL.line)=true):PE X (.Call (.Attribute o "items" apos) [] [] bL) (λσ H Q=>to σ H λx H1=>∃d aw,x=.ref d/\Rd H1 d (.dT aw)/\∀p,H1 p=none->p≠d->Q (.ref p) (upd H1 p (Qi p d))):=by
 intro ae s σ H Q I h;refine wpAny_Call_method0_late eh gj (cj (ho ae s σ H _ I h) λv s1 ⟨x,H1,I1,r1,d,aw,ex,hd,q1⟩=>?_)
 subst ex;cases r1;obtain⟨lo,od,es,ep,h0,hx,h3,_⟩:=j7 I1 hd
 have T:s1.TypeIs (.ref d) "dict":=⟨od,h0,hx.1⟩
 refine⟨"dict","dict.items",PySem.F.plainAttrs_dict,PySem.F.slot_dict_items,PySem.F.type_dict_items,T,λa e=>by cases e;exact⟨od,h0,hx.2.1⟩,Calls.callWith_builtin rfl (PySem.evalArgs_none (wpAny_call_entry PySem.F.slot_dict_items T PySem.F.entry_dict_items (Eg lo h0 hx ?_) (PySem.F.args_dict_items_1 _)))⟩
 have en:(s1.heap.push (kE d)).get? (zz9 s1)=some (kE d):=zzX _ rfl
 exact⟨.ref (zz9 s1),_,I1.laid (a:=(zz9 s1)) (o:=Qi (zz9 s1) d) (t':=s1.toks) (λb u q=>zzB _ q) (zzE _) ⟨en,⟨_,en⟩,λh1 h2 q1 q2=>q2 _ q1⟩,rfl,q1 _ (I1.aJ.fresh (zzE _)) (Nat.ne_of_gt (zzO h0))⟩
end
theorem m7:∀{as:List Addr} {os:List HO} {j:Nat} {a:Addr} {o:HO},as.Nodup->as[j]?=some a->os[j]?=some o->(as.zip os).lookup a=some o
 |a::as,x::os,0,_,_,_,e1,e2=>by
  cases e1;cases e2;rw [List.zip_cons_cons,zz5,beq_self_eq_true]
 |b::as,x::os,j+1,a,o,nd,e1,e2=>by
  obtain⟨n1,n2⟩:=List.nodup_cons.1 nd
  have:(a==b)=false:=beq_eq_false_iff_ne.2 λz=>n1 (z▸zzD e1)
  rw [List.zip_cons_cons,zz5,this];exact m7 n2 e1 e2
def Sf(v:Value):Addr:=match v with
 |.ref b=>b
 |_=>0
def Q7(e:DictEntry)(q:List Int×Int):HO:=.tup [.ref (Sf e.key),.int q.2]
theorem oN:∀l:List Addr,Vals (l.map V.ref) (l.map Value.ref)
 |[]=>.nil
 |_::l=>.cons rfl (oN l)
abbrev Qx(H:Hp)(vs:List V)(ps:List (List Int×Int)):Prop:=Paired (λv (q:List Int×Int)=>∃b kb,v=V.ref b/\H b=some (.tup [.ref kb,.int q.2])/\H kb=some (.tup (q.1.map V.int))) vs ps
theorem tG{H:Hp}:∀{l:List Addr} {m:List (List Int×Int)},l.length=m.length->(∀(j:Nat) a q,l[j]?=some a->m[j]?=some q->∃kb,H a=some (.tup [.ref kb,.int q.2])/\H kb=some (.tup (q.1.map V.int)))->Qx H (l.map V.ref) m
 |[],[],_,_=>.nil
 |a::l,y::m,hl,hf=>by
  obtain⟨kb,f1,f2⟩:=hf 0 a y rfl rfl
  exact .cons ⟨a,kb,rfl,f1,f2⟩ (tG (by simpa using hl) λj a q e1 e2=>hf (j+1) a q e1 e2)
def BN.of{K:zz8}{H:Hp}{vs:List V}{ps:List (List Int×Int)}(h:Qx H vs ps):BN K H vs ps:=by
 induction h with
 |nil=>exact .nil
 |cons h t ih=>
  obtain⟨b,kb,rfl,f1,f2⟩:=h
  exact .cons ⟨b,kb,rfl,.inl (.inl f1),.inl (.inl f2)⟩ ih
def qx{X:Cx}(hu:X.A.units+64<cLine)(hc:X.calm=true):cF X (.builtin "sorted") (λxs H Q=>∃p d,∃ps:List (List Int×Int),xs=[V.ref p]/\H p=some (Qi p d)/\Rd H d (.dT (ps.map λq=>(q.1.map .inl,V.int q.2)))/\(∀q∈ps,q.1.length=2)/\ps.length<64/\
 ∀l vs L,(∀x∈L,H x.1=none)->Qx (j4 H L) vs ps->j4 H L l=none->Q (.ref l) (upd (j4 H L) l (.lst (i8 V.aD vs (ps.map λq=>q.1++[q.2]))))):=by
 intro ae s σ H xs us Q I r h;obtain⟨p,d,ps,rfl,hp,hd,h2,Fo,q⟩:=h
 obtain⟨u,rfl,ru⟩:=vals1 r
 cases ru;have hv:s.heap.get? p=some (kE d):=(I.aJ p _ hp).1
 obtain⟨lo,od,es,ep,h0,hx,h3,hz,hk⟩:=j7 I hd
 rw [zzl] at hz;refine Calls.call_function_entry kind_sorted plain_sorted entry_sorted (args_sorted1 _) ?_;unfold Builtin.«sorted»;refine zzA (m:=checkCount "sorted" 1 1 _) (zzG (zzA (um (show X.A.in1.handled=none from I.ok.hd hc) hv h0 h3 (by rw [sizeLine_eq];omega) λh' tk as kp ln got=>?_)))
 have nd:as.Nodup:=got.1.imp λbS=>zzb bS
 have mem:∀x∈as.zip (es.toList.zipWith Q7 ps),∃j:Nat,as[j]?=some x.1:=λx hm=>List.mem_iff_getElem?.1 (List.of_mem_zip hm).1
 have at_:∀(j:Nat) a,as[j]?=some a->∃(e:DictEntry) (q:List Int×Int) (kb:Addr),ps[j]?=some q/\h'.get? a=some (wI e)/\e.key=.ref kb/\RelV (V.int q.2) e.val/\H kb=some (.tup (q.1.map V.int))/\(as.zip (es.toList.zipWith Q7 ps)).lookup a=some (.tup [.ref kb,.int q.2]):=λj a hj=>by
  obtain⟨_,hi,e1⟩:=got.2 j a hj
  obtain⟨kb,k,v,e2,e3,e4,e5⟩:=hk j hi
  have Ah:j<ps.length:=by omega
  rw [zzQ,zzg Ah] at e3;cases e3;have e6:Sf es[j].key=kb:=by rw [e2];rfl
  refine⟨es[j],ps[j],kb,zzg Ah,e1,e2,e5,?_,m7 nd hj ?_⟩
  ·rw [e4,List.map_map];rfl
  ·rw [List.getElem?_zipWith,Array.getElem?_toList,zz2 hi,zzg Ah];show some (HO.tup [.ref (Sf es[j].key),.int ps[j].2])=_
   rw [e6]
 generalize as.zip (es.toList.zipWith Q7 ps)=L at mem at_
 have RG:∀x∈L,(zz9 s)<=x.1:=λx hm=>by
  obtain⟨j,hj⟩:=mem x hm
  exact Nat.le_of_lt (got.2 j _ hj).1
 have hn:∀x∈L,H x.1=none:=λx hm=>I.aJ.fresh (RG x hm)
 have I1:Inv X ae σ (j4 H L) {s with heap:=h',toks:=tk}:=I.N3 kp RG λa o e=>by
  obtain⟨j,hj⟩:=mem _ (lookup_mem e)
  obtain⟨en,qq,kb,_,e1,e2,e3,_,e5⟩:=at_ j a hj
  rw [e5] at e;cases e;exact⟨by rw [sizeLine_eq];show 2<=_;decide,[en.key,en.val],.cons (by rw [e2];rfl) (.cons e3 .nil),⟨_,e1,rfl,_,rfl⟩⟩
 have pr:=tG (H:=j4 H L) (l:=as) (m:=ps) (by omega) λj a q' hj hq=>by
  obtain⟨en,qq,kb,e0,e1,e2,e3,e4,e5⟩:=at_ j a hj
  rw [hq] at e0;cases e0;refine⟨kb,?_,dw hn e4⟩;unfold j4;rw [e5]
  rfl
 exact rJ hu I1 (oN as) (BN.of pr) h2 (by rw [zzl];omega) λl hl=>q l _ _ hn pr hl
end L2
namespace Ci
open PySem L2
section
variable{W:Wd}{G H:Hp}
def aC.Nk{L:List (Addr×HO)}(s:aA G H)(h:∀x∈L,H x.1=none):aC W G H G (j4 H L):=
 ⟨aA.refl _,.of λ_ _ e=>dw h e,s.trans λ_ _ e=>dw h e,λ_ _ _ hg=>hg,λt=>t.same (aA.refl _) (λ_ _ _ h=>h) λ_ _ e=>dw h e⟩
theorem ints_rep(G:Hp):∀l:List Int,aq W G (l.map .int) (l.map V.int)
 |[]=>.nil
 |_::l=>.cons .i (ints_rep G l)
theorem oV:∀{vs:List V} {ps:List (List Int×Int)} {G:Hp},aA G H->Qx H vs ps->∃G',aC W G H G' H/\aq W G' (ps.map λq=>.tup [ah q.1,.int q.2]) vs
 |_,_,G,sg,.nil=>⟨G,.refl sg,.nil⟩
 |_,_,G,sg,.cons (b:=q) h t=>by
  obtain⟨b,kb,rfl,hb,hk⟩:=h
  have g1:=aC.adopt (W:=W) sg hk
  have g2:=aC.adopt (W:=W) g1.sub hb
  obtain⟨G3,g3,l⟩:=oV g2.sub t
  refine⟨G3,(g1.trans g2).trans g3,.cons (Rep.same g3.g _ ?_) l⟩;exact .t (.inl ak) (.cons (.t (.inl (g2.g _ _ ak)) (ints_rep _ _)) (.cons .i .nil))
def Kj(ks:List (List Int))(ns:List Int):kz ks (ns.map V.int)=(ks.zip ns).map λq=>(q.1.map .inl,V.int q.2):=by
 unfold kz;rw [List.zip_map]
 rfl
variable{Γ:Pg}{X:Cx}{F:aL}{N:List Str}{sc:Scope}{k:Nat}
theorem FE(C:dz Γ F W N sc k X){a:E}{pa:Expr}{p1 pos apos bL:Pos}(hg:gC sc "sorted"=true)(hm:Γ.bs.contains "sorted"=true)(ha:GE X W F a pa)(hb:attributeBase pa "items" X.env (eval pa X.env)=eval pa X.env)(hl:(apos.endLine==bL.line)=true):
 GE X W F (.sF a) (.Call (.Name "sorted" p1) [.Call (.Attribute pa "items" apos) [] [] bL] [] pos):=
 (dI (qx (by have:=C.room.un;omega) C.calm) (dA C hg) (C.bs _ (zzn.mp hm)) (by decide+kernel) (bM (Df ha hb hl) dq rfl)).imp λσ H Q h=>by
  obtain⟨H0,G,env,sr,o⟩:=h
  rw [aK] at o;refine one sr o λp v G1 H1 g t bF o1=>?_
  cases p with
  |bf ks vs=>
   obtain⟨d,us,rfl,n,hd,l⟩:=t.top.bf bF.sub
   cases hi:intsOf vs with
   |none=>
    have o2:Out X W ((Res.of (intsOf vs)).bind _) σ G1 H1 _:=o1
    rw [hi] at o2;exact zzk o2
   |some ns=>
    have o2:Out X W ((Res.of (intsOf vs)).bind _) σ G1 H1 _:=o1
    rw [hi] at o2;cases ni l hi;rw [Kj] at hd
    by_cases hc:(decide (ks.length<64)&&ks.all (λk=>k.length==2))=true
    ·have o3:Out X W (if(decide (ks.length<64)&&ks.all (λk=>k.length==2))=true then Res.ok _ else .bad) σ G1 H1 _:=o2
     rw [if_pos hc] at o3;rw [zza,zzN] at hc;refine⟨d,_,rfl,hd,λp hp g8=>⟨p,d,ks.zip ns,rfl,ak,?_,λq hq=>?_,?_,λx ws L hn pr hx=>?_⟩⟩
     ·exact hd.imp (λz=>by rw [af (Ne.symm g8)];exact z) λ⟨y,z⟩=>⟨y,by rw [af (Ne.symm g8)];exact z⟩
     ·exact zzy.mp (zzT.mp hc.2 q.1 (List.of_mem_zip hq).1)
     ·rw [List.length_zip];omega
     ·have g1:=aC.Nt (W:=W) (o:=Qi p d) bF.sub hp
      have g2:=aC.Nk (W:=W) g1.sub hn
      obtain⟨G3,g3,l3⟩:=oV (W:=W) g2.sub pr
      exact dj.lst (W:=W) (G:=G3) (λw G' H' g' iC=>o3 w G' H' (g.trans (((g1.trans g2).trans g3).trans g')) (.of iC)) g3.sub (xn l3) hx
    ·have o3:Out X W (if(decide (ks.length<64)&&ks.all (λk=>k.length==2))=true then Res.ok _ else .bad) σ G1 H1 _:=o2
     rw [if_neg hc] at o3;exact zzk o3
  |_=>exact zzk o1
def Lv{X:Cx}{e:E}{p:Expr}(h:GE X W F e p)(he:∀whole,isTrue p X.env whole=(do let v<-whole;standAt p.pos;holding [v] (truthy v))):GT X W F e p:=
 L2.PT.imp (Kc h he) λσ H Q hq=>HI σ H Q hq
theorem BV{N:List Str}{sc:Scope}:∀{es:Es} {ps:List Expr},gQ Γ N sc es ps=true->∀env pos,(backTo pos (starEach ps env)).all (λx=>!x.1)=true
 |.nil,[],_,_,_=>rfl
 |.cons e es,p::ps,h,env,pos=>by
  replace h:=az h
  rw [notStar h.1];show(true&&(backTo pos (starEach ps env)).all (λx=>!x.1))=true
  rw [BV h.2]
  rfl
 |.nil,_::_,h,_,_=>aP h
 |.cons _ _,[],h,_,_=>aP h
theorem CA{N:List Str}{sc:Scope}:∀{es:Es} {ps:List Expr},gQ Γ N sc es ps=true->ps.length=gP es
 |.nil,[],_=>rfl
 |.cons e es,p::ps,h=>by
  replace h:=az h
  rw [zzL,CA h.2]
  rfl
 |.nil,_::_,h=>aP h
 |.cons _ _,[],h=>aP h
structure Um(X:Cx)(W:Wd)(F:aL)(e:E)(p:Expr):Prop where
 ge:GE X W F e p
 gt:fQ e=true->GT X W F e p
 gw:fQ e=true->∀op vs pos,p=.BoolOp op vs pos->GW X W F e p
def bD{X:Cx}{e:E}{p:Expr}(h:GE X W F e p)(he:∀whole,isTrue p X.env whole=(do let v<-whole;standAt p.pos;holding [v] (truthy v)))(hb:∀op vs pos,p≠.BoolOp op vs pos):Um X W F e p:=
 ⟨h,λ_=>Lv h he,λ_ op vs pos e=>absurd e (hb op vs pos)⟩
def isTrue_plain{p:Expr}{env:Env}(h:(match p with|.UnaryOp .Not _ _=>false|.BoolOp .. =>false|.IfExp .. =>false|.Compare .. =>false|_=>true)=true):∀whole,isTrue p env whole=(do let v<-whole;standAt p.pos;holding [v] (truthy v)):=by
 intro whole;cases p with
 |UnaryOp op a pos=>cases op<;>first|rfl|(exact aP h)
 |BoolOp _ _ _=>exact aP h
 |IfExp _ _ _ _=>exact aP h
 |Compare _ _ _ _=>exact aP h
 |_=>rfl
def vq{po:Expr}{m:Str}{env:Env}(h:wM po=true):attributeBase po m env (eval po env)=eval po env:=by
 cases po<;>first|rfl|(exact aP h)
def Dp{po:Expr}{m:Str}{env:Env}(h:HX po=true):attributeBase po m env (eval po env)=eval po env:=by
 cases po with
 |Call f as kws p=>
  cases as with
  |nil=>exact aP h
  |cons a as=>cases f<;>rfl
 |_=>rfl
theorem kI{N:List Str}{sc:Scope}{g:Str}{idx ba:List Nat}:∀{es:Es} {ps:List Expr},ye Γ N sc g idx ba es ps=true->∀env pos,(backTo pos (starEach ps env)).any (·.1)=false
 |.cons e es,p::ps,h,env,pos=>by
  replace h:=az h
  rw [notStar h.1];show(false||(backTo pos (starEach ps env)).any (·.1))=false
  rw [kI h.2]
  rfl
 |.nil,ps,h,env,pos=>by
  obtain⟨p,e1,h⟩:=ai h
  obtain⟨l,e2,_⟩:=ai h
  rw [cU e1];obtain⟨_,rfl⟩:=v7 e2
  rfl
 |.cons _ _,[],h,_,_=>aP h
def Ll{X:Cx}{q:PV}{c:Const}{kk:Nat}{pos:Pos}(h:OB q c=true):GE X W F (.cst q) (.Constant c kk pos):=by
 cases q with
 |aD=>cases KY h;exact jf Kg λG=>.n
 |bl b=>
  obtain⟨x,e,h⟩:=ai h
  cases L9 e;cases eq_of_beq h;exact jf OE λG=>.b
 |int i=>
  obtain⟨x,e,h⟩:=ai h
  cases B6 e;cases eq_of_beq h;exact jf BH λG=>.i
 |str z=>
  obtain⟨x,e,h⟩:=ai h
  cases AS e;cases eq_of_beq h;exact jf DM λG=>.s
 |_=>exact aP h
def AL{α:Type}{r:Res α}{c:α->Prop} [∀a,Decidable (c a)]{f:α->Res (List PV)}{q:PV}(e:(r.bind λa=>if c a then(f a).bind λys=>.ok (.lst ys) else .bad)=.ok q):∃ys,q=.lst ys:=by
 obtain⟨ps,_,e⟩:=Res.bp e
 split at e
 ·obtain⟨ys,_,e⟩:=Res.bp e
  cases e;exact⟨_,rfl⟩
 ·cases e
def wF{kk:Nat}{ba:List Nat}{tg:Tg}{it:I}{elt:E}(env:Sl)(q:PV)(e:aK F (.comp kk ba tg it elt) env=.ok q):∃ys,q=.lst ys:=by
 rw [aK] at e;exact AL e
def o8{kk:Nat}{ba:List Nat}{tg:Tg}{it:I}{c elt:E}(env:Sl)(q:PV)(e:aK F (.dc kk ba tg it c elt) env=.ok q):∃ys,q=.lst ys:=by
 rw [aK] at e;exact AL e
mutual
theorem bx:∀(e:E) {Γ:Pg} {N:List Str} {sc:Scope} {X:Cx} (C:dz Γ F W N sc k X) (p:Expr),aZ Γ N sc e p=true->Um X W F e p
 |.var i,Γ,N,sc,X,C,p,h=>by
  obtain⟨x,_,rfl,h9⟩:=NY h
  clear h
  have h:=h9
  clear h9
  exact bD (Jt C h) (λ_=>rfl) (λ_ _ _ z=>nomatch z)
 |.dR i,Γ,N,sc,X,C,p,h=>by
  obtain⟨x,_,rfl,h9⟩:=NY h
  clear h
  have h:=h9
  clear h9
  exact bD (Mt C h) (λ_=>rfl) (λ_ _ _ z=>nomatch z)
 |.cst q,Γ,N,sc,X,C,p,h=>by
  obtain⟨c,_,_,rfl,h9⟩:=WJ h
  clear h
  have h:=h9
  clear h9
  refine bD (Ll h) (λ_=>rfl) (λ_ _ _ z=>nomatch z)
 |.glob g q,Γ,N,sc,X,C,p,h=>by
  obtain⟨x,_,rfl,h9⟩:=NY h
  clear h
  have h:=h9
  clear h9
  exact bD (Hj C h) (λ_=>rfl) (λ_ _ _ z=>nomatch z)
 |.call f as,Γ,N,sc,X,C,p,h=>by
  obtain⟨g,args,_,_,rfl,h9⟩:=Az h
  clear h
  have h:=h9
  clear h9
  replace h:=az h
  try simp! [zza,zzy] at h
  obtain⟨⟨⟨⟨⟨rfl,h1⟩,h2⟩,h3⟩,h4⟩,h5⟩:=h
  have ga:=kH as C args h5
  cases as with
  |nil=>
   cases args with
   |nil=>exact bD (CB C h1 h2 h3) (λ_=>rfl) (λ_ _ _ z=>nomatch z)
   |cons _ _=>exact aP h5
  |cons e es=>
   cases args with
   |nil=>exact aP h5
   |cons q qs=>
    have h6:=az h5
    exact bD (EF C h1 h2 h3 h4 ga (notStar h6.1 _ _) (eJ h6.2 _ _)) (λ_=>rfl) (λ_ _ _ z=>nomatch z)
 |.kF i as,Γ,N,sc,X,C,p,h=>by
  obtain⟨g,args,_,_,rfl,h9⟩:=Az h
  clear h
  have h:=h9
  clear h9
  replace h:=az h
  simp! [zza] at h;obtain⟨⟨⟨⟨⟨h1,h2⟩,h3⟩,h4⟩,h6⟩,h5⟩:=h
  have ga:=kH as C args h5
  cases as with
  |nil=>exact aP h6
  |cons e es=>
   cases args with
   |nil=>exact aP h5
   |cons q qs=>
    have h6:=az h5
    exact bD (Bl C (by rw [h1,h2,h3];rfl) h4 ga (notStar h6.1 _ _) (eJ h6.2 _ _)) (λ_=>rfl) (λ_ _ _ z=>nomatch z)
 |.oU f as g idx ba,Γ,N,sc,X,C,p,h=>by
  obtain⟨hN,args,_,_,rfl,h9⟩:=Az h
  clear h
  have h:=h9
  clear h9
  replace h:=az h
  simp! [zza,zzj,zzy] at h;obtain⟨⟨⟨⟨⟨⟨h1,h2⟩,h3⟩,h4⟩,h6⟩,q,hq,⟨⟨⟨rfl,rfl⟩,rfl⟩,rfl⟩,hd⟩,h5⟩:=h
  have SU:=zzY hd
  have ga:=IF as C h1 q.g q.idx ba args h4 h5
  cases as with
  |nil=>exact aP h6
  |cons e es=>
   cases args with
   |nil=>exact aP h5
   |cons p qs=>
    have h6:=az h5
    exact bD (DC C h1 hq h2 h3 SU ga (notStar h6.1 _ _) (kI h6.2 _ _)) (λ_=>rfl) (λ_ _ _ z=>nomatch z)
 |.blt b as,Γ,N,sc,X,C,p,h=>by
  obtain⟨g,args,_,_,rfl,h9⟩:=Az h
  clear h
  have h:=h9
  clear h9
  replace h:=az h
  try simp! [zza,zzy] at h
  obtain⟨⟨⟨⟨rfl,h1⟩,h2⟩,h3⟩,h5⟩:=h
  have ga:=kH as C args h5
  cases as with
  |nil=>exact aP h3
  |cons e es=>
   cases args with
   |nil=>exact aP h5
   |cons q qs=>
    have h6:=az h5
    exact bD (Ki C b h1 h2 ga (notStar h6.1 _ _) (eJ h6.2 _ _)) (λ_=>rfl) (λ_ _ _ z=>nomatch z)
 |.ty t a,Γ,N,sc,X,C,p,h=>by
  obtain⟨g,args,_,_,rfl,h9⟩:=Az h
  clear h
  have h:=h9
  clear h9
  obtain⟨pa,pb,z2,h2⟩:=DQ h
  obtain⟨tn,_,z3,h3⟩:=NY h2
  dsimp only at z2 z3;subst z2 z3
  clear h h2
  have h:=h3
  clear h3
  replace h:=az h
  try simp! [zza,zzy] at h
  obtain⟨⟨⟨⟨⟨⟨rfl,h1⟩,h2⟩,rfl⟩,h3⟩,h4⟩,h5⟩:=h
  exact bD (NL C h1 h2 h3 h4 (bx a C pa h5).ge (notStar h5)) (λ_=>rfl) (λ_ _ _ z=>nomatch z)
 |.D0 c a,Γ,N,sc,X,C,p,h=>by
  obtain⟨g,args,_,_,rfl,h9⟩:=Az h
  clear h
  have h:=h9
  clear h9
  obtain⟨pa,pb,z2,h2⟩:=DQ h
  obtain⟨tn,_,z3,h3⟩:=NY h2
  dsimp only at z2 z3;subst z2 z3
  clear h h2
  have h:=h3
  clear h3
  replace h:=az h
  try simp! [zza] at h
  obtain⟨⟨⟨⟨⟨⟨⟨e1,h1⟩,h2⟩,e2⟩,h3⟩,h4⟩,h5⟩,h6⟩:=h
  cases zzy.mp e1;cases zzy.mp e2;exact bD (Lb C h1 h2 h3 h4 h5 (bx a C pa h6).ge (notStar h6) C.M8) (λ_=>rfl) (λ_ _ _ z=>nomatch z)
 |.KN m o as,Γ,N,sc,X,C,p,h=>by
  obtain⟨⟨f,args,kws,pos⟩,e,h1⟩:=ai h
  have z:=iJ e
  obtain⟨⟨po,attr,apos⟩,e2,h2⟩:=ai h1
  have z2:=vO e2
  have h3:=az h2
  have z3:=zM h3.1
  dsimp only at z z2 z3;subst z z2 z3
  clear h h1 h2
  have h:=az h3.2
  clear h3
  simp! [zza] at h;obtain⟨⟨⟨⟨⟨⟨e1,h1⟩,h2⟩,h3⟩,h4⟩,h5⟩,h6⟩:=h
  cases zzy.mp e1;have ga:=kH as C args h5
  cases as with
  |nil=>exact aP h1
  |cons e es=>
   cases args with
   |nil=>exact aP h5
   |cons q qs=>
    have h7:=az h5
    have hl:=CA h5
    refine bD (Jr C (bx o C po h4).ge ga (vq h6) ?_ h3 (notStar h7.1 _ _) (eJ h7.2 _ _)) (λ_=>rfl) (λ_ _ _ z=>nomatch z);rw [BV h5];have oF:=zzY h2
    refine Bool.and_eq_true_iff.mpr ⟨rfl,zzh ?_⟩;rw [hl];exact oF
 |.bin o a b,Γ,N,sc,X,C,p,h=>by
  obtain⟨q,e,h1⟩:=ai h
  obtain⟨_,rfl⟩:=KA e
  clear h
  have h:=az h1
  have h0:=az h.1
  rw [<-zzY h0.1];exact bD (K6 C (bx a C _ h0.2).ge (bx b C _ h.2).ge) (λ_=>rfl) (λ_ _ _ z=>nomatch z)
 |.cmp o a b,Γ,N,sc,X,C,p,h=>by
  obtain⟨pa,ops,cs,_,rfl,h1⟩:=S6 h
  obtain⟨op,z2,h2⟩:=kU h1
  obtain⟨pb,z3,h3⟩:=kU h2
  dsimp only at z2 z3;subst z2 z3
  clear h h1 h2
  have h:=h3
  clear h3
  replace h:=az h
  have h0:=az h.1
  cases zzY h0.1;have h1:=h0.2
  have h2:=h.2
  exact⟨Lp C (bx a C _ h1).ge (bx b C _ h2).ge (qk h2 _),λ_=>Kh C (bx a C _ h1).ge (bx b C _ h2).ge (qk h2 _),(λ_ _ _ _ z=>nomatch z)⟩
 |.ch o1 o2 a b c,Γ,N,sc,X,C,p,h=>by
  obtain⟨pa,ops,cs,_,rfl,h1⟩:=S6 h
  obtain⟨op1,op2,z2,h2⟩:=DQ h1
  obtain⟨pb,pc,z3,h3⟩:=DQ h2
  dsimp only at z2 z3;subst z2 z3
  clear h h1 h2
  have h:=h3
  clear h3
  replace h:=az h
  try simp! [zza,zzN] at h
  obtain⟨⟨⟨⟨rfl,rfl⟩,h1⟩,h2⟩,h3⟩:=h
  have hm:lastMarks [rM o1,rM o2] [pb,pc]=false:=qk h3 _
  exact⟨NC C (bx a C _ h1).ge (bx b C _ h2).ge (bx c C _ h3).ge hm,λ_=>NT C (bx a C _ h1).ge (bx b C _ h2).ge (bx c C _ h3).ge hm,(λ_ _ _ _ z=>nomatch z)⟩
 |.not a,Γ,N,sc,X,C,p,h=>by
  obtain⟨o,pa,_,rfl,h1⟩:=U6 h
  clear h
  have h:=az h1
  cases AO h.1;have s:=bx a C pa h.2
  exact⟨K4 s.ge,λz=>IQ (s.gt (by simpa only [fQ] using z)),(λ_ _ _ _ z=>nomatch z)⟩
 |.neg a,Γ,N,sc,X,C,p,h=>by
  obtain⟨o,pa,_,rfl,h1⟩:=U6 h
  clear h
  have h:=az h1
  cases DK h.1;exact bD (JR (bx a C pa h.2).ge) (λ_=>rfl) (λ_ _ _ z=>nomatch z)
 |.and a b,Γ,N,sc,X,C,p,h=>by
  obtain⟨o,vs,pos,rfl,h1⟩:=S4 h
  obtain⟨⟨pa,pb⟩,e2,h2⟩:=ai h1
  clear h h1
  have h:=az h2
  clear h2
  try simp! [zza] at h
  obtain⟨⟨⟨h0,he⟩,h1⟩,h2⟩:=h
  cases BS h0;have sa:=bx a C pa h1
  have sb:=bx b C pb h2
  rcases CU e2 with z|⟨q,c,r,z,z2⟩
  ·dsimp only at z;subst z;have gw:fQ (.and a b)=true->GW X W F (.and a b) (.BoolOp .And [pa,pb] pos):=λz=>by
    have z:=az z
    exact A1 (sa.gt z.1) (pw_and1 (sb.gt z.2))
   exact⟨Cf he sa.ge (Ck sb.ge),λz=>(gw z).pt,λz _ _ _ _=>gw z⟩
  ·dsimp only at z z2;subst z z2;have gw:fQ (.and a b)=true->GW X W F (.and a b) (.BoolOp .And (pa::q::c::r) pos):=λz=>by
    have z:=az z
    exact A1 (sa.gt z.1) (sb.gw z.2 _ _ _ rfl)
   exact⟨Cf he sa.ge sb.ge,λz=>(gw z).pt,λz _ _ _ _=>gw z⟩
 |.or a b,Γ,N,sc,X,C,p,h=>by
  obtain⟨o,vs,pos,rfl,h1⟩:=S4 h
  obtain⟨⟨pa,pb⟩,e2,h2⟩:=ai h1
  clear h h1
  have h:=az h2
  clear h2
  try simp! [zza] at h
  obtain⟨⟨⟨h0,he⟩,h1⟩,h2⟩:=h
  cases Ho h0;have sa:=bx a C pa h1
  have sb:=bx b C pb h2
  rcases CU e2 with z|⟨q,c,r,z,z2⟩
  ·dsimp only at z;subst z;have gw:fQ (.or a b)=true->GW X W F (.or a b) (.BoolOp .Or [pa,pb] pos):=λz=>by
    have z:=az z
    exact HQ (sa.gt z.1) (pw_or1 (sb.gt z.2))
   exact⟨HF he sa.ge (Ck sb.ge),λz=>(gw z).pt,λz _ _ _ _=>gw z⟩
  ·dsimp only at z z2;subst z z2;have gw:fQ (.or a b)=true->GW X W F (.or a b) (.BoolOp .Or (pa::q::c::r) pos):=λz=>by
    have z:=az z
    exact HQ (sa.gt z.1) (sb.gw z.2 _ _ _ rfl)
   exact⟨HF he sa.ge sb.ge,λz=>(gw z).pt,λz _ _ _ _=>gw z⟩
 |.ite c a b,Γ,N,sc,X,C,p,h=>by
  obtain⟨q,e,h1⟩:=ai h
  obtain⟨_,rfl⟩:=LW e
  clear h
  have h:=az h1
  clear h1
  try simp! [zza] at h
  obtain⟨⟨⟨⟨⟨h0,h1⟩,h2⟩,h3⟩,h4⟩,h5⟩:=h
  exact⟨LJ h1 h2 ((bx c C _ h3).gt h0) (bx a C _ h4).ge (bx b C _ h5).ge,(λz=>nomatch z),(λ_ _ _ _ z=>nomatch z)⟩
 |.tup as,Γ,N,sc,X,C,p,h=>by
  obtain⟨ps,e,h1⟩:=ai h
  obtain⟨_,_,rfl⟩:=wm e
  clear h
  have h:=az h1
  have h0:=az h.1
  exact bD (JT h0.1 (zzY h0.2) (kH as C _ h.2)) (λ_=>rfl) (λ_ _ _ z=>nomatch z)
 |.lst as,Γ,N,sc,X,C,p,h=>by
  obtain⟨ps,e,h1⟩:=ai h
  obtain⟨_,rfl⟩:=A9 e
  clear h
  have h:=az h1
  have h0:=az h.1
  exact bD ((DW h0.1 (zzY h0.2) (kH as C _ h.2)).ge lst_is) (λ_=>rfl) (λ_ _ _ z=>nomatch z)
 |.sub a b,Γ,N,sc,X,C,p,h=>by
  obtain⟨pa,pb,_,rfl,h9⟩:=Th h
  clear h
  have h:=h9
  clear h9
  replace h:=az h
  exact bD (KW C (bx a C _ h.1).ge (bx b C _ h.2).ge (DA h.2)) (λ_=>rfl) (λ_ _ _ z=>nomatch z)
 |.sF a,Γ,N,sc,X,C,p,h=>by
  obtain⟨g,args,_,_,rfl,h9⟩:=Az h
  clear h
  obtain⟨z,z2,h2⟩:=kU h9
  obtain⟨⟨f,as,kws,pos⟩,e3,h3⟩:=ai h2
  have z3:=iJ e3
  obtain⟨⟨po,attr,apos⟩,e4,h4⟩:=ai h3
  have z4:=vO e4
  have h:=az h4
  simp! [zza] at h;obtain⟨⟨⟨⟨⟨⟨⟨⟨e1,h1⟩,oF⟩,n1⟩,n2⟩,e2⟩,h5⟩,h6⟩,h7⟩:=h
  have z5:=zM n1
  have z6:=zM n2
  cases zzy.mp e1;cases zzy.mp e2;dsimp only at z2 z3 z4 z5 z6;subst z2 z3 z4 z5 z6;exact bD (FE C h1 oF (bx a C po h7).ge (Dp h6) h5) (λ_=>rfl) (λ_ _ _ z=>nomatch z)
 |.slice a lo hi,Γ,N,sc,X,C,p,h=>by
  obtain⟨pa,ps,_,rfl,h1⟩:=Th h
  obtain⟨pl,ph,pst,_,z2,h2⟩:=VI h1
  clear h h1
  have h:=az h2
  simp! [zza] at h;have w:=SO h.1.1.1
  dsimp only at z2 w;subst z2 w;exact bD (A3 C (bx a C _ h.1.1.2).ge (OU lo C pl h.1.2) (OU hi C ph h.2)) (λ_=>rfl) (λ_ _ _ z=>nomatch z)
 |.comp kk ba tg it elt,Γ,N,sc,X,C,p,h=>by
  obtain⟨fh,gens,scope,_,rfl,h1⟩:=Qt h
  obtain⟨⟨cL,gB,ifs,asy⟩,z2,h2⟩:=kU h1
  have h3:=az h2
  have z3:=zM h3.1
  dsimp only at z2 z3;subst z2 z3
  clear h h1 h2
  have h:=az h3.2
  clear h3
  simp! [zza] at h;obtain⟨⟨⟨⟨⟨⟨h1,h2⟩,h3⟩,h4⟩,h5⟩,h6⟩,iF⟩:=h
  have iF:=zzY iF
  subst iF;exact bD ((xi C (jr h1) h2 h3 (B2 it C cL gB h4) (je h4 _) h5 λY CY=>(bx elt CY fh h6).ge).ge wF) (λ_=>rfl) (λ_ _ _ z=>nomatch z)
 |.dc kk ba tg it c elt,Γ,N,sc,X,C,p,h=>by
  obtain⟨fh,gens,scope,_,rfl,h1⟩:=Qt h
  obtain⟨⟨cL,gB,ifs,asy⟩,z2,h2⟩:=kU h1
  obtain⟨pc,z3,h3⟩:=kU h2
  dsimp only at z2 z3;subst z2 z3
  clear h h1 h2
  have h:=az h3
  clear h3
  simp! [zza] at h;obtain⟨⟨⟨⟨⟨⟨⟨⟨h0,h1⟩,h2⟩,h3⟩,h4⟩,h5⟩,h6⟩,h7⟩,iF⟩:=h
  have iF:=zzY iF
  subst iF;exact bD ((pU C (jr h1) h2 h3 (B2 it C cL gB h4) (je h4 _) h5 (λY CY=>(bx c CY pc h6).gt h0) λY CY=>(bx elt CY fh h7).ge).ge o8) (λ_=>rfl) (λ_ _ _ z=>nomatch z)
theorem kH:∀(es:Es) {Γ:Pg} {N:List Str} {sc:Scope} {X:Cx} (C:dz Γ F W N sc k X) (ps:List Expr),gQ Γ N sc es ps=true->GA X W F es ps
 |.nil,Γ,N,sc,X,C,ps,h=>by
  cases ps with
  |nil=>exact MD
  |cons _ _=>exact aP h
 |.cons e es,Γ,N,sc,X,C,ps,h=>by
  cases ps with
  |nil=>exact aP h
  |cons p ps=>
   replace h:=az h
   exact GK (bx e C p h.1).ge (kH es C ps h.2) (notStar h.1 _ _)
theorem IF:∀(es:Es) {Γ:Pg} {N:List Str} {sc:Scope} {X:Cx} (C:dz Γ F W N sc k X) (hl:Γ.hl=true) (g:Str) (idx ba:List Nat) (ps:List Expr),iq es=true->ye Γ N sc g idx ba es ps=true->PA X ps (OJ X W F N sc g idx ba es)
 |.nil,Γ,N,sc,X,C,hl,g,idx,ba,ps,he,h=>by
  obtain⟨p,e1,h⟩:=ai h
  obtain⟨l,e2,h⟩:=ai h
  rw [cU e1];obtain⟨_,rfl⟩:=v7 e2
  replace h:=az h
  have h1:=az h.1
  exact E4 C hl ⟨h1.1,zzY h1.2,λy hy=>zzY (zzT.mp h.2 y hy)⟩
 |.cons e es,Γ,N,sc,X,C,hl,g,idx,ba,ps,he,h=>by
  cases ps with
  |nil=>exact aP h
  |cons p ps=>
   replace h:=az h
   have Jj:=az (show(gA e&&iq es)=true from he)
   exact CN he (bx e C p h.1).ge (IF es C hl g idx ba ps Jj.2 h.2) (notStar h.1 _ _)
theorem OU:∀(o:Oe) {Γ:Pg} {N:List Str} {sc:Scope} {X:Cx} (C:dz Γ F W N sc k X) (p:Option Expr),IM Γ N sc o p=true->PO X p (B8 X W F o)
 |.no,Γ,N,sc,X,C,p,h=>by
  cases p with
  |none=>exact Hz
  |some _=>exact aP h
 |.some e,Γ,N,sc,X,C,p,h=>by
  cases p with
  |none=>exact aP h
  |some p=>
   exact Fx (bx e C p h).ge
theorem B2:∀(it:I) {Γ:Pg} {N:List Str} {sc:Scope} {X:Cx} (C:dz Γ F W N sc k X) (tg p:Expr),yX Γ N sc tg it p=true->GI X W F tg it p
 |.seq e,Γ,N,sc,X,C,tg,p,h=>by
  exact Ka C (bx e C p h).ge
 |.uc e,Γ,N,sc,X,C,tg,p,h=>by
  obtain⟨g,args,_,_,rfl,h9⟩:=Az h
  clear h
  have h:=h9
  clear h9
  obtain⟨q,z2,h2⟩:=kU h
  dsimp only at z2;subst z2
  clear h
  have h:=az h2
  clear h2
  simp! [zza] at h;obtain⟨⟨⟨e1,h1⟩,h2⟩,h3⟩:=h
  cases zzy.mp e1;exact Kt C h1 h2 (notStar h3) (bx e C q h3).ge
 |.qP a b,Γ,N,sc,X,C,tg,p,h=>by
  obtain⟨g,args,_,_,rfl,h9⟩:=Az h
  clear h
  have h:=h9
  clear h9
  obtain⟨q,r,z2,h2⟩:=DQ h
  dsimp only at z2;subst z2
  clear h
  have h:=az h2
  clear h2
  simp! [zza] at h;obtain⟨⟨⟨⟨e1,h1⟩,h2⟩,h3⟩,h4⟩:=h
  cases zzy.mp e1;exact FC C h1 h2 (notStar h3) (notStar h4) (bx a C q h3).ge (bx b C r h4).ge
 |.enum e,Γ,N,sc,X,C,tg,p,h=>by
  obtain⟨g,args,_,_,rfl,h9⟩:=Az h
  clear h
  have h:=h9
  clear h9
  obtain⟨q,z2,h2⟩:=kU h
  dsimp only at z2;subst z2
  clear h
  have h:=az h2
  clear h2
  simp! [zza] at h;obtain⟨⟨⟨⟨h0,e1⟩,h1⟩,h2⟩,h3⟩:=h
  cases zzy.mp e1;cases tg<;>first|(exact aP h0)|skip
  exact Er C h1 h2 (notStar h3) (bx e C q h3).ge
end
end
end Ci
namespace L2
open PySem PySem.Spec PyProof.Rows
section
variable{X:Cx}{scope:Scope}{xs ys:List Str}{is:List Nat}
theorem vc{i₀:Nat}{x₀:Str}{pos' gu:Pos}{elt tg iter:Expr}{pos:Pos}{wi:TI}{g:TG}{te:TE}(hN₀:X.N.Nodup)(hi₀:X.N[i₀]?=some x₀)(hx₀:Loc X.env.scope x₀)(hc:X.calm=true)(S:fq X scope xs ys is)(hi:PI X tg iter wi)
 (hg:∀fp s1 H1 C,PG (cC X (xs++ys) scope (bU X.env ys) fp s1 H1 C) tg g) (he:∀fp s1 H1 C,PE (cC X (xs++ys) scope (bU X.env ys) fp s1 H1 C) elt te)
 (yl:swapsWith (.ListComp elt [⟨tg,iter,[],0⟩] scope pos) (some (.Name x₀ pos')) gu.line X.env=pure true:=by rfl)
 (hs:∀x,foldedSetIterable iter X.env x=pure x:=by intro _;rfl) (hf₀:X.fn x₀=true\/X.env.scope.names.lookup x₀=some .local:=by first|exact .inl rfl|exact .inr rfl|assumption):
 PS X (.Assign [.Name x₀ pos'] (.ListComp elt [⟨tg,iter,[],0⟩] scope pos) gu) (CL (Cg wi xs.length g te is) (gf i₀)):=by
 intro ae s σ H D₀ I h;rw [exec_Assign_Name_used _ _ _ _ yl];refine zzA (wpAny_standAt (zzA ?_));show wpAny _ X.A (do let _<-comprehension (.ListComp elt [⟨tg,iter,[],0⟩] scope pos) scope X.env _ (newList []) false (eval iter X.env) (some (assign (.Name x₀ pos') X.env))) _ _ s;refine zzA (wpAny_mono (ik (QQ:=λ_ s'=>∃σ2 H2,Inv X ae σ2 H2 s'/\D₀.nx σ2 H2) (Q:=λv H4=>gf i₀ v σ H4 D₀.nx) hc S hi hg (λ_ _ _ _=>wQ) he hs I h λD C s4 H4 m I5 hn ⟨g0,g1,_,g3,g4,g5⟩ q=>?_) (λ_ s' hq=>zzG (zzG hq)) λ_ _ e=>e)
 refine wpAny_assign_Name (kg I5 hN₀ hi₀ hx₀ (show RelV (.ref D) (.ref D) from rfl) (λs6 I6 ⟨a6,sb6,ha6⟩=>?_) hf₀);have DU:C≠a6:=by
  rcases ha6 with z|z
  ·rw [z];exact g1
  ·exact λz2=>g4 _ _ z z2.symm
 exact⟨m,hn.sameBut sb6 DU,λh' zT=>⟨_,_,I6.turned (t':=s6.toks) (it:=C) (λb o hb e=>zT.extBut b o hb e) g0 g1 g3 g4 g5,q⟩⟩
end
end L2
namespace Ci
open PySem L2
section
variable{W:Wd}{G0 H0 G H:Hp}{env:Sl}{σ:St}
def Own.Iz{p:PV}{v:V}(h:Own W H0 G H p v):∃a o,v=.ref a/\H a=some o/\G a=none/\H0 a=none/\((∀G',aA G G'->G' a=some o->Rep W G' p (.ref a))\/∃aw,o=.dT aw/\∀ob G',aA G G'->G' a=some (.bE ob (.dT aw))->Rep W G' p (.ref a)):=by
 cases p with
 |lst xs=>
  obtain⟨a,vs,rfl,h1,h2,h3,l⟩:=h
  exact⟨a,_,rfl,h1,h2,h3,.inl λG' s e=>.l (.inl (.inl e)) (aq.same s xs l)⟩
 |bf ks ps=>
  obtain⟨a,us,rfl,n,h1,h2,h3,l⟩:=h
  exact⟨a,_,rfl,h1,h2,h3,.inr ⟨_,rfl,λob G' s e=>by simp! [Rep];exact⟨a,ob,us,rfl,n,e,aq.same s ps l⟩⟩⟩
 |aD=>exact h.elim
 |bl _=>exact h.elim
 |int _=>exact h.elim
 |str _=>exact h.elim
 |tup _=>exact h.elim
 |exc _=>exact h.elim
theorem Own.Bi{p:PV}{a:Addr}(h:Own W H0 G H p (.ref a))(ps:Array Value):H a≠some (.gv ps):=λz=>by
 cases p with
 |lst xs=>obtain⟨b,vs,e,h1,_⟩:=h;cases e;rw [z] at h1;cases h1
 |bf ks qs=>
  obtain⟨b,us,e,_,h1,_⟩:=h
  cases e;rw [z] at h1;cases h1
 |aD=>exact h.elim
 |bl _=>exact h.elim
 |int _=>exact h.elim
 |str _=>exact h.elim
 |tup _=>exact h.elim
 |exc _=>exact h.elim
theorem p9{a:Addr}{ob:HO}{H':Hp}(t:cN W G H)(hG:G a=none)(n:∀ps,H a≠some (.gv ps))(hH:∀b,b≠a->H' b=H b):cN W (upd G a ob) H':=λP q m=>by
 obtain⟨n1,ps,e,tr,al⟩:=t P q m
 have hP:P≠a:=λz=>by subst z;exact n ps e
 refine⟨by rw [af hP];exact n1,ps,by rw [hH P hP];exact e,tr,λpos cv y=>?_⟩
 obtain⟨c',oc,di,t',e1,e2,e3,e4⟩:=al pos cv y
 exact⟨c',oc,di,t',e1,bz hG _ _ e2,e3,e4⟩
def Own.dY{p:PV}{v:V}{a:Addr}{G' H':Hp}(h:Own W H0 G H p v)(hv:v≠.ref a)(sG:aA G G')(hG:∀b,b≠a->G' b=G b)(hH:∀b,b≠a->H' b=H b):Own W H0 G' H' p v:=by
 cases p with
 |lst xs=>
  obtain⟨b,vs,rfl,h1,h2,h3,l⟩:=h
  have hb:b≠a:=λz=>hv (by rw [z])
  exact⟨b,vs,rfl,by rw [hH b hb];exact h1,by rw [hG b hb];exact h2,h3,aq.same sG xs l⟩
 |bf ks ps=>
  obtain⟨b,us,rfl,n,h1,h2,h3,l⟩:=h
  have hb:b≠a:=λz=>hv (by rw [z])
  exact⟨b,us,rfl,n,by rw [hH b hb];exact h1,by rw [hG b hb];exact h2,h3,aq.same sG ps l⟩
 |aD=>exact h.elim
 |bl _=>exact h.elim
 |int _=>exact h.elim
 |str _=>exact h.elim
 |tup _=>exact h.elim
 |exc _=>exact h.elim
def getElem?_modify{α:Type}(l:List α)(i j:Nat)(f:α->α):(l.modify i f)[j]?=if i=j then(l[j]?).map f else l[j]?:=by
 rw [List.getElem?_modify];split<;>simp_all
def se(r:SR W H0 env σ G H)(g:aC W G0 H0 G H){i:Nat}{p:PV}{a:Addr}{ob Ng:HO}{H':Hp}(hp:env[i]?=some (.own p))(ho:σ[i]?=some (some (.ref a)))(OO:Own W H0 G H p (.ref a))(hH:H a=some ob)(hG:G a=none)(zS:H0 a=none)
 (AJ:∀G',aA G G'->G' a=some Ng->Rep W G' p (.ref a)) (h1:H' a=some Ng) (h2:∀b,b≠a->H' b=H b):SR W H0 (env.modify i mv) σ (upd G a Ng) H'/\aC W G0 H0 (upd G a Ng) H':=by
 have sG:aA G (upd G a Ng):=bz hG
 have sub:aA (upd G a Ng) H':=λb u e=>by
  by_cases hb:b=a
  ·subst hb;rw [ak] at e;cases e;exact h1
  ·rw [af hb] at e;rw [h2 b hb];exact r.sub _ _ e
 have base:∀{B:Hp},B a=none->ib B H->ib B H':=λhB k b u e=>by
  have hb:b≠a:=λz=>by rw [z,hB] at e;cases e
  rw [h2 b hb];exact k b u e
 refine⟨⟨by rw [List.length_modify];exact r.len,sub,base zS r.base,λj s e=>?_,λj l q q' c e1 e2 e3 e4=>?_,p9 r.tab hG OO.Bi h2,p9 r.jq hG (λps z=>by rw [zS] at z;cases z) λ_ _=>rfl⟩,⟨g.g.trans sG,base zS g.h,sub,λb h3 h5 h4=>?_,λt=>p9 (g.tab t) hG OO.Bi h2⟩⟩
 ·rw [getElem?_modify] at e;split at e
  ·rename_i z;subst z;rw [hp] at e;cases e;exact⟨_,ho,_,rfl,AJ _ sG ak⟩
  ·rename_i z;obtain⟨o2,k1,k2⟩:=r.slot j s e
   refine⟨o2,k1,?_⟩;cases s with
   |no=>exact trivial
   |val q=>
    obtain⟨v2,rfl,rv⟩:=k2
    exact⟨v2,rfl,Rep.same sG q rv⟩
   |fn _ _ _=>
    obtain⟨v2,rfl,rv⟩:=k2
    exact⟨v2,rfl,rv.same sG⟩
   |own q=>
    obtain⟨v2,rfl,ov⟩:=k2
    refine⟨v2,rfl,ov.dY (a:=a) (λzz=>?_) sG (λb hb=>af hb) h2⟩;subst zz;exact z (r.apart i j p q a hp e ho k1)
 ·rw [getElem?_modify] at e1 e2;have ne:∀{j:Nat} {q:PV},(if i=j then(env[j]?).map mv else env[j]?)=some (.own q)->i≠j/\env[j]?=some (.own q):=λ{j q} e=>by
   split at e
   ·rename_i z;subst z;rw [hp] at e;cases e
   ·rename_i z;exact⟨z,e⟩
  exact r.apart j l q q' c (ne e1).2 (ne e2).2 e3 e4
 ·have hb:b≠a:=λz=>h3 (by rw [z];exact zS)
  rw [af hb];exact g.own b h3 h5 h4
def KH(r:SR W H0 env σ G H)(g:aC W G0 H0 G H)(i:Nat):(∃G',SR W H0 (env.modify i mv) σ G' H/\aC W G0 H0 G' H)\/∃a aw,H a=some (.dT aw)/\∀o,∃G',SR W H0 (env.modify i mv) σ G' (upd H a (.bE o (.dT aw)))/\aC W G0 H0 G' (upd H a (.bE o (.dT aw))):=by
 have same:(∀p,env[i]?≠some (.own p))->env.modify i mv=env:=λh=>by
  refine List.ext_getElem? λj=>?_
  rw [getElem?_modify];split
  ·rename_i e;subst e;cases q:env[i]? with
   |none=>rfl
   |some s=>
    cases s with
    |own p=>exact absurd q (h p)
    |no=>rfl
    |val p=>rfl
    |fn _ _ _=>rfl
  ·rfl
 by_cases hx:∃p,env[i]?=some (.own p)
 ·obtain⟨p,hp⟩:=hx
  obtain⟨o,ho,v,rfl,ow⟩:=r.slot i _ hp
  have OO:=ow
  obtain⟨a,ob,rfl,hH,hG,zS,AJ|⟨aw,rfl,AJ⟩⟩:=ow.Iz
  ·obtain⟨k1,k2⟩:=se r g hp ho OO hH hG zS AJ hH λ_ _=>rfl
   exact .inl ⟨_,k1,k2⟩
  ·refine .inr ⟨a,aw,hH,λo=>?_⟩
   obtain⟨k1,k2⟩:=se r g hp ho OO hH hG zS (AJ o) ak λb hb=>af hb
   exact⟨_,k1,k2⟩
 ·exact .inl ⟨G,by rw [same λp z=>hx ⟨p,z⟩];exact r,g⟩
def mY(r:SR W H0 env σ G H)(g:aC W G0 H0 G H){i:Nat}{p p':PV}{a:Addr}{ob:HO}(hp:env[i]?=some (.own p))(hs:σ[i]?=some (some (.ref a)))(hG:G a=none)(zS:H0 a=none)(hn:Own W H0 G (upd H a ob) p' (.ref a)):
 SR W H0 (env.set i (.own p')) σ G (upd H a ob)/\aC W G0 H0 G (upd H a ob):=by
 have bS:i<env.length:=(zzH.mp hp).1
 have Wb:∀ps,H a≠some (.gv ps):=by
  obtain⟨o2,h1,v2,rfl,ow⟩:=r.slot i _ hp
  rw [hs] at h1;cases h1;exact ow.Bi
 have tab:∀{G1:Hp},cN W G1 H->cN W G1 (upd H a ob):=λt=>t.same (aA.refl _) (λ_ _ _ h=>h) (lQ Wb)
 refine⟨⟨by rw [List.length_set];exact r.len,λb u e=>?_,λb u e=>?_,λj s e=>?_,λj l q q' c e1 e2 e3 e4=>?_,tab r.tab,r.jq⟩,⟨g.g,λb u e=>?_,λb u e=>?_,g.own,λt=>tab (g.tab t)⟩⟩
 ·rw [af (λz=>by subst z;rw [hG] at e;cases e)];exact r.sub _ _ e
 ·rw [af (λz=>by subst z;rw [zS] at e;cases e)];exact r.base _ _ e
 ·by_cases hj:i=j
  ·subst hj;rw [zzo bS] at e;cases e;exact⟨_,hs,_,rfl,hn⟩
  ·rw [zzS hj] at e;obtain⟨o2,h1,h2⟩:=r.slot j s e
   refine⟨o2,h1,?_⟩;cases s with
   |no=>exact trivial
   |val q=>exact h2
   |fn _ _ _=>exact h2
   |own q=>
    obtain⟨v2,rfl,ov⟩:=h2
    refine⟨v2,rfl,ov.dY (a:=a) (λzz=>?_) (aA.refl _) (λb hb=>rfl) λb hb=>af hb⟩
    subst zz;exact hj (r.apart i j p q a hp e hs h1)
 ·have tr:∀{j:Nat} {q:PV},(env.set i (.own p'))[j]?=some (.own q)->∃q2,env[j]?=some (.own q2):=λ{j q} e=>by
   by_cases hj:i=j
   ·subst hj;exact⟨p,hp⟩
   ·rw [zzS hj] at e;exact⟨q,e⟩
  obtain⟨q2,f1⟩:=tr e1
  obtain⟨q3,f2⟩:=tr e2
  exact r.apart j l q2 q3 c f1 f2 e3 e4
 ·rw [af (λz=>by subst z;rw [zS] at e;cases e)];exact g.h _ _ e
 ·rw [af (λz=>by subst z;rw [hG] at e;cases e)];exact g.sub _ _ e
def vE(r:SR W H0 env σ G H)(g:aC W G0 H0 G H){i:Nat}{p:PV}{a:Addr}{ob:HO}(hi:i<env.length)(ha:H a=none)(hn:Own W H0 G (upd H a ob) p (.ref a)):
 SR W H0 (env.set i (.own p)) (σ.set i (some (.ref a))) G (upd H a ob)/\aC W G0 H0 G (upd H a ob):=by
 have gm:aC W G H G (upd H a ob):=.Nt r.sub ha
 have r1:=r.grow gm
 have old:∀{j:Nat} {q:PV},env[j]?=some (.own q)->σ[j]?=some (some (.ref a))->False:=λ{j q} e1 e2=>by
  obtain⟨o2,h1,v2,rfl,ov⟩:=r.slot j _ e1
  rw [e2] at h1;cases h1;obtain⟨a',o',e3,hH,_⟩:=ov.Iz
  cases e3;rw [ha] at hH;cases hH
 refine⟨⟨by rw [List.length_set,List.length_set];exact r.len,r1.sub,r1.base,λj s e=>?_,λj l q q' c e1 e2 e3 e4=>?_,r1.tab,r1.jq⟩,g.trans gm⟩
 ·by_cases hj:i=j
  ·subst hj;rw [zzo hi] at e;cases e;exact⟨_,zzo (by rw [<-r.len];exact hi),_,rfl,hn⟩
  ·rw [zzS hj] at e;obtain⟨o2,h1,h2⟩:=r1.slot j s e
   exact⟨o2,by rw [zzS hj];exact h1,h2⟩
 ·by_cases hj:i=j
  ·by_cases hl:i=l
   ·exact hj.symm.trans hl
   ·exfalso
    subst hj;rw [zzo (by rw [<-r.len];exact hi)] at e3;rw [zzS hl] at e2 e4;cases e3;exact old e2 e4
  ·by_cases hl:i=l
   ·exfalso
    subst hl;rw [zzo (by rw [<-r.len];exact hi)] at e4;rw [zzS hj] at e1 e3;cases e4;exact old e1 e3
   ·rw [zzS hj] at e1 e3;rw [zzS hl] at e2 e4;exact r.apart j l q q' c e1 e2 e3 e4
end
def fX:E->Bool
 |.lst _=>true
 |.comp _ _ _ _ _=>true
 |.dc _ _ _ _ _ _=>true
 |_=>false
def iL:Expr->Bool
 |.ListComp .. =>false
 |.SetComp .. =>false
 |.DictComp .. =>false
 |_=>true
def Bd:Expr->Bool
 |.Tuple .. =>false
 |_=>true
noncomputable def Ra(sc:Scope)(x:Str)(xp:Pos):Expr->Bool
 |.ListComp _ _ s p=>sc.names.lookup x==some .local&&xp.line==p.line&&!(s.names.any λ(n,k)=>n==x&&(k==.local||k==.cell))
 |_=>false
def Iq(ts:List Expr):Option Str:=(eU ts).bind eT
def M7:List Keyword->Option (Str×Expr)
 |[⟨some n,v,_⟩]=>some (n,v)
 |_=>none
def Mp{ks:List Keyword}{q:Str×Expr}(h:M7 ks=some q):∃p,ks=[⟨some q.1,q.2,p⟩]:=by
 cases ks with
 |nil=>exact iB h
 |cons k ks=>
  obtain⟨kn,kv,kp⟩:=k
  cases kn with
  |none=>exact iB h
  |some n=>
   cases ks with
   |cons _ _=>exact iB h
   |nil=>cases h;exact⟨_,rfl⟩
noncomputable def QC(e:Expr):Option (Str×Str×List Expr):=(D6 e).bind λq=>(M0 q.1).bind λr=>(eT r.1).bind λx=>if(q.2.2.1.isEmpty&&r.2.2.endLine==q.2.2.2.line)=true then some (x,r.2.1,q.2.1) else none
noncomputable def TM(e:Expr):Option (Str×Arguments×Expr×Scope):=(D6 e).bind λq=>(eT q.1).bind λf=>(eU q.2.1).bind λa=>(eT a).bind λx=>(M7 q.2.2.1).bind λr=>(SG r.2).bind λl=>if(f=="min"&&r.1=="key")=true then some (x,l.1,l.2.1,l.2.2) else none
def JV{e:Expr}{c:Str×Arguments×Expr×Scope}(h:TM e=some c):∃q1 q2 q3 q4 q5,e=.Call (.Name "min" q1) [.Name c.1 q2] [⟨some "key",.Lambda c.2.1 c.2.2.1 c.2.2.2 q3,q4⟩] q5:=by
 obtain⟨⟨f,a,k,p⟩,h1,h⟩:=iZ h
 obtain⟨g,h2,h⟩:=iZ h
 obtain⟨b,h3,h⟩:=iZ h
 obtain⟨x,h4,h⟩:=iZ h
 obtain⟨⟨n,v⟩,h5,h⟩:=iZ h
 obtain⟨⟨l1,l2,l3⟩,h6,h⟩:=iZ h
 obtain⟨h7,rfl⟩:=if1 h
 rw [zza,zzy,zzy] at h7;obtain⟨rfl,z8⟩:=h7
 obtain⟨p2,z2⟩:=cu h2
 obtain⟨p4,z4⟩:=cu h4
 obtain⟨p5,z5⟩:=Mp h5
 obtain⟨p6,z6⟩:=v7 h6
 have z3:=cU h3
 dsimp only at z2 z3 z4 z5 z6 z8;subst z2 z3 z4 z5 z6 z8;exact⟨_,_,_,_,_,iJ h1⟩
def Fq(x p:Str)(e:Expr):Bool:=(Mq e).any λq=>(Mq q.1).any λr=>eT r.1==some x&&eT r.2==some p&&(Pf q.2).bind Rx==some 0
noncomputable def xq(x:Str)(params:Arguments)(body:Expr)(scope:Scope):Bool:=match rn params with
 |some [p]=>Fq x p body&&decide (bu scope=[x])&&P1 [p] scope&&okN p&&okN x
 |_=>false
def BO{x:Str}{params:Arguments}{body:Expr}{scope:Scope}(h:xq x params body scope=true):∃p,rn params=some [p]/\uL p x params body scope/\bu scope=[x]/\okN x=true:=by
 unfold xq at h;split at h
 ·rename_i p e;simp! [zza,zzN] at h;obtain⟨⟨⟨⟨h1,h2⟩,h3⟩,h4⟩,h5⟩:=h
  refine⟨p,e,⟨?_,by rw [<-h2];exact BY h3,(cZ h4).1,(cZ h4).2.1,(cZ h5).1,(cZ h5).2.1⟩,h2,h5⟩;obtain⟨⟨a,b⟩,e1,h6⟩:=ai h1
  obtain⟨⟨c,d⟩,e2,h7⟩:=ai h6
  simp! [zza,zzy] at h7;obtain⟨p1,rfl⟩:=qw e1
  obtain⟨p2,z2⟩:=qw e2
  obtain⟨p3,z3⟩:=cu h7.1.1
  obtain⟨p4,z4⟩:=cu h7.1.2
  obtain⟨c5,y5,y6⟩:=iZ h7.2
  obtain⟨p5,p6,z5⟩:=vA y5
  cases B6 y6;dsimp only at z2 z3 z4 z5;subst z3 z4 z5 z2;exact⟨_,_,_,_,_,_,rfl⟩
 ·cases h
def Si(ts:List Expr):Option (Str×Expr):=(eU ts).bind λt=>(Mq t).bind λq=>(eT q.1).bind λx=>some (x,q.2)
noncomputable def To(o:Option Expr):Option (Str×Str):=o.bind λe=>(D6 e).bind λq=>(eT q.1).bind λx=>(eU q.2.1).bind λa=>(Pf a).bind λc=>(JX c).bind λz=>if q.2.2.1.isEmpty=true then some (x,z) else none
def uH:Stmt->Option (List Expr×Expr×Pos)
 |.Assign ts v p=>some (ts,v,p)
 |_=>none
def Qk:ExceptHandler->Option Expr×Option Str×List Stmt×Pos
 |.ExceptHandler t n b p=>(t,n,b,p)
noncomputable def Vo(hs:List ExceptHandler):Option (Str×Str×Str):=(eU hs).bind λk=>(Qk k).1.bind λte=>(eT te).bind λx=>(Qk k).2.1.bind λn=>(eU (Qk k).2.2.1).bind λb=>(uH b).bind λq=>(Iq q.1).bind λy=>(eT q.2.1).bind λn2=>if(n2==n)=true then some (x,n,y) else none
def JI{b:Stmt}{q:List Expr×Expr×Pos}(h:uH b=some q):b=.Assign q.1 q.2.1 q.2.2:=by
 cases b with
 |Assign ts v p=>cases h;rfl
 |_=>exact iB h
def iO{ts:List Expr}{x:Str}(h:Iq ts=some x):∃xp,ts=[.Name x xp]:=by
 obtain⟨t,h1,h2⟩:=iZ h
 obtain⟨p,rfl⟩:=cu h2
 exact⟨p,cU h1⟩
def vh{p:Expr}{x m:Str}{args:List Expr}(h:QC p=some (x,m,args)):∃np apos bL,p=.Call (.Attribute (.Name x np) m apos) args [] bL/\(apos.endLine==bL.line)=true:=by
 obtain⟨⟨f,a,k,cp⟩,h1,h⟩:=iZ h
 obtain⟨⟨o,m',ap⟩,h2,h⟩:=iZ h
 obtain⟨y,h3,h⟩:=iZ h
 obtain⟨h4,h⟩:=if1 h
 cases h;rw [zza] at h4;obtain⟨p3,z3⟩:=cu h3
 have z2:=vO h2
 have z5:=List.isEmpty_iff.1 h4.1
 dsimp only at z2 z3 z5;subst z3 z2 z5;exact⟨_,_,_,iJ h1,h4.2⟩
def As{ts:List Expr}{x:Str}{pk:Expr}(h:Si ts=some (x,pk)):∃np sp,ts=[.Subscript (.Name x np) pk sp]:=by
 obtain⟨t,h1,h⟩:=iZ h
 obtain⟨⟨a,b⟩,h2,h⟩:=iZ h
 obtain⟨y,h3,h⟩:=iZ h
 cases h;obtain⟨p3,z3⟩:=cu h3
 obtain⟨p2,z2⟩:=qw h2
 dsimp only at z3;subst z3 z2;exact⟨_,_,cU h1⟩
def Jb{o:Option Expr}{x z:Str}(h:To o=some (x,z)):∃np j zp cp,o=some (.Call (.Name x np) [.Constant (.str z) j zp] [] cp):=by
 obtain⟨e,h0,h⟩:=iZ h
 obtain⟨⟨f,a,k,cp⟩,h1,h⟩:=iZ h
 obtain⟨y,h2,h⟩:=iZ h
 obtain⟨t,h3,h⟩:=iZ h
 obtain⟨c,h4,h⟩:=iZ h
 obtain⟨w,h5,h⟩:=iZ h
 obtain⟨h6,h⟩:=if1 h
 cases h;obtain⟨p2,z2⟩:=cu h2
 obtain⟨p4,q4,z4⟩:=vA h4
 have z3:=cU h3
 have z5:=AS h5
 have z6:=List.isEmpty_iff.1 h6
 dsimp only at z2 z3 z6;subst z2 z5 z4 z3 z6;exact⟨_,_,_,_,h0.trans (congrArg some (iJ h1))⟩
def Jc{hs:List ExceptHandler}{x n y:Str}(h:Vo hs=some (x,n,y)):∃xp yp np ap hp,hs=[.ExceptHandler (some (.Name x xp)) (some n) [.Assign [.Name y yp] (.Name n np) ap] hp]:=by
 obtain⟨k,h1,h⟩:=iZ h
 obtain⟨te,h2,h⟩:=iZ h
 obtain⟨x',h3,h⟩:=iZ h
 obtain⟨n',h4,h⟩:=iZ h
 obtain⟨b,h5,h⟩:=iZ h
 obtain⟨⟨ts,v,ap⟩,h6,h⟩:=iZ h
 obtain⟨y',h7,h⟩:=iZ h
 obtain⟨n2,h8,h⟩:=iZ h
 obtain⟨h9,h⟩:=if1 h
 cases h;obtain⟨xp,z3⟩:=cu h3
 obtain⟨yp,z7⟩:=iO h7
 obtain⟨np,z8⟩:=cu h8
 have z6:=JI h6
 have z5:=cU h5
 have z1:=cU h1
 have z9:=zzy.mp h9
 obtain⟨t0,n0,b0,p0⟩:=k
 dsimp only [Qk] at h2 h4 z3 z5 z6 z7 z8 z9;subst h2 h4 z3 z7 z8 z9 z6 z5;exact⟨_,_,_,_,_,z1⟩
mutual
noncomputable def AF(Γ:Pg)(N:List Str)(sc:Scope):S->Stmt->Bool
 |.set i e,.Assign ts p _=>(Iq ts).any λx=>N[i]?==some x&&ft sc x&&gA e&&!fX e&&aZ Γ N sc e p
 |.ret e,.Return (some p) _=>gA e&&aZ Γ N sc e p
 |.ite c a b,.If p pa pb _=>fQ c&&aZ Γ N sc c p&&Gq Γ N sc a pa&&Gq Γ N sc b pb
 |_,_=>false
noncomputable def Gq(Γ:Pg)(N:List Str)(sc:Scope):Ss->List Stmt->Bool
 |.cons s .nil,[p]=>AF Γ N sc s p
 |_,_=>false
end
mutual
noncomputable def eP(Γ:Pg)(N:List Str)(sc:Scope):S->Stmt->Bool
 |.expr e,.Expr p _=>iL p&&aZ Γ N sc e p
 |.set i e,.Assign ts p _=>(Iq ts).any λx=>N[i]?==some x&&ft sc x&&gA e&&aZ Γ N sc e p
 |.own i e,.Assign ts p _=>(Iq ts).any λx=>N[i]?==some x&&ft sc x&&fX e&&aZ Γ N sc e p
 |.F8 tg e,.Assign ts p _=>(eU ts).any λcL=>isTup cL&&gh N sc (λ_=>true) tg cL&&iL p&&Bd p&&gA e&&aZ Γ N sc e p
 |.app i e,.Expr v _=>(QC v).any λc=>N[i]?==some c.1&&fb sc c.1&&okN c.1&&c.2.1==("append":Str)&&gA e&&(eU c.2.2).any λp=>aZ Γ N sc e p
 |.qZ i e,.Expr v _=>(QC v).any λc=>N[i]?==some c.1&&fb sc c.1&&okN c.1&&c.2.1==("extend":Str)&&(eU c.2.2).any λp=>aZ Γ N sc e p
 |.put i kk e,.Assign ts p _=>(Si ts).any λc=>N[i]?==some c.1&&fb sc c.1&&okN c.1&&gA e&&aZ Γ N sc kk c.2&&aZ Γ N sc e p
 |.ret e,.Return (some p) _=>gA e&&aZ Γ N sc e p
 |.ite c a b,.If p pa pb _=>fQ c&&aZ Γ N sc c p&&dB Γ N sc a pa&&dB Γ N sc b pb
 |.cQ tg it b,.For cL gB pb els _=>els.isEmpty&&gh N sc (λ_=>true) tg cL&&EE it&&yX Γ N sc cL it gB&&dB Γ N sc b pb
 |.xD c b,.While p pb els _=>els.isEmpty&&fQ c&&aZ Γ N sc c p&&dB Γ N sc b pb
 |.raise c m,.Raise ex fr _=>fr.isNone&&(To ex).any λq=>c==q.1&&m==q.2&&Γ.rs.contains c&&gC sc c&&okN c
 |.vC b c i j,.Try pb hs o1 o2 _=>o1.isEmpty&&o2.isEmpty&&Gq Γ N sc b pb&&(Vo hs).any λq=>q.1==c&&Γ.cs.contains c&&c=="FloorError"&&gC sc c&&okN c&&N[i]?==some q.2.1&&sc.names.lookup q.2.1==some .local&&okN q.2.1&&N[j]?==some q.2.2&&sc.names.lookup q.2.2==some .local
 |.brk,.Break _=>true
 |.mM i e,.Assign ts v _=>(Iq ts).any λx=>(zt v).any λq=>(eU q.2).any λr=>q.1==("dict":Str)&&gC sc q.1&&Γ.bs.contains q.1&&N[i]?==some x&&ft sc x&&aZ Γ N sc e r
 |.j5 i,.Assign ts (.Dict [] [] _) _=>(Iq ts).any λx=>N[i]?==some x&&ft sc x
 |.eO i j n,.Assign ts v _=>(Si ts).any λc=>(eT c.2).any λz=>N[i]?==some c.1&&fb sc c.1&&okN c.1&&N[n]?==some z&&fb sc z&&okN z&&(QC v).any λd=>d.2.1==("pop":Str)&&(eU d.2.2).any λe=>(eT e).any λz2=>z==z2&&N[j]?==some d.1&&fb sc d.1&&okN d.1
 |.md m i,.Assign ts v _=>(Iq ts).any λy=>(TM v).any λc=>N[m]?==some y&&ft sc y&&N[i]?==some c.1&&sc.names.lookup c.1==some .cell&&gC sc "min"&&Γ.bs.contains "min"&&Γ.hl&&xq c.1 c.2.1 c.2.2.1 c.2.2.2
 |_,_=>false
noncomputable def dB(Γ:Pg)(N:List Str)(sc:Scope):Ss->List Stmt->Bool
 |.nil,[]=>true
 |.cons (.bE _) ss,ps=>dB Γ N sc ss ps
 |.cons s ss,p::ps=>eP Γ N sc s p&&dB Γ N sc ss ps
 |_,_=>false
end
section
variable{Γ:Pg}{X:Cx}{W:Wd}{F:aL}{N:List Str}{sc:Scope}{k:Nat}{H0:Hp}{E:XK}
def SR.go{env:Sl}{σ:St}{G H:Hp}(r:SR W H0 env σ G H):aC W G H0 G H:=⟨aA.refl _,r.base,r.sub,λ_ _ _ h=>h,λ_=>r.tab⟩
def aC.then{G G1 H1 G2 H2:Hp}(a:aC W G H0 G1 H1)(b:aC W G1 H0 G2 H2):aC W G H0 G2 H2:=⟨a.g.trans b.g,b.h,b.sub,λx h1 h3 h2=>b.own x h1 h3 (a.own x h1 h3 h2),λt=>b.tab (t.same a.g a.own λ_ _ h=>h)⟩
def SR.on{env:Sl}{σ:St}{G H G1 H1:Hp}(r:SR W H0 env σ G H)(g:aC W G H G1 H1):aC W G H0 G1 H1:=⟨g.g,r.base.trans g.h,g.sub,λx h1 h3 h2=>g.own x (λz=>h1 (r.base.free z)) (r.base.uy h1 h3) h2,λ_=>g.tab r.tab⟩
def Dn(W:Wd)(H0 G:Hp)(D:Ends):Fl->Prop
 |.nx env=>∀σ G' H',SR W H0 env σ G' H'->aC W G H0 G' H'->D.nx σ H'
 |.bk env=>∀σ G' H',SR W H0 env σ G' H'->aC W G H0 G' H'->D.bk σ H'
 |.ct env=>∀σ G' H',SR W H0 env σ G' H'->aC W G H0 G' H'->D.ct σ H'
 |.rt p=>∀v G' H',Rep W G' p v->aC W G H0 G' H'->D.rt v H'
def bT(W:Wd)(H0 G:Hp)(E:XK)(r:Res Fl)(D:Ends):Prop:=match r with
 |.ok f=>Dn W H0 G D f
 |.exc c=>∀Cv ao H',XE W c G H0 Cv ao H'->E Cv ao H'
 |.bad=>False
def Dn.on{G G1 H1:Hp}{D:Ends}{f:Fl}(h:Dn W H0 G D f)(g:aC W G H0 G1 H1):Dn W H0 G1 D f:=by
 cases f with
 |nx env=>exact λσ G' H' r g'=>h σ G' H' r (g.then g')
 |bk env=>exact λσ G' H' r g'=>h σ G' H' r (g.then g')
 |ct env=>exact λσ G' H' r g'=>h σ G' H' r (g.then g')
 |rt p=>exact λv G' H' r g'=>h v G' H' r (g.then g')
def bT.on{G G1 H1:Hp}{D:Ends}{r:Res Fl}(h:bT W H0 G E r D)(g:aC W G H0 G1 H1):bT W H0 G1 E r D:=by
 cases r with
 |ok f=>exact Dn.on h g
 |exc c=>
  intro Cv ao H' x;obtain⟨C,a,G',e1,e2,e3,e4,g2⟩:=x
  exact h Cv ao H' ⟨C,a,G',e1,e2,e3,e4,g.then g2⟩
 |bad=>exact h
noncomputable def tS(W:Wd)(F:aL)(H0:Hp)(E:XK)(s:S):TS:=λD σ H=>∃G env,SR W H0 env σ G H/\bT W H0 G E (fH F s env) D
noncomputable def S1(W:Wd)(F:aL)(H0:Hp)(E:XK)(ss:Ss):TS:=λD σ H=>∃G env,SR W H0 env σ G H/\bT W H0 G E (aE F ss env) D
abbrev GS(X:Cx)(W:Wd)(F:aL)(H0:Hp)(E:XK)(s:S)(p:Stmt):Prop:=PS X p (tS W F H0 E s)
abbrev DZ(X:Cx)(W:Wd)(F:aL)(H0:Hp)(E:XK)(s:Ss)(p:List Stmt):Prop:=rN X p (S1 W F H0 E s)
def _root_.L2.PS.imp{p:Stmt}{t t':TS}(h:PS X p t)(i:∀D σ H,t' D σ H->t D σ H):PS X p t':=λae s σ H D I hw=>h ae s σ H D I (i D σ H hw)
def _root_.L2.rN.imp{p:List Stmt}{t t':TS}(h:rN X p t)(i:∀D σ H,t' D σ H->t D σ H):rN X p t':=λae s σ H D I hw=>h ae s σ H D I (i D σ H hw)
structure ef(Γ:Pg)(F:aL)(W:Wd)(N:List Str)(sc:Scope)(k:Nat)(E:XK)(X:Cx):Prop where
 C:dz Γ F W N sc k X
 fn:∀x,X.fn x=true
 own:PassesOwn (model X.prog X.w) X.A X.env X.xe
 pass:Passes (dW X.prog X.w) X E
 kind:sc.kind=.function
 Cq:X.stack=X.env::X.outer
 frame:X.env.frame=some X.env.locals
 xs:∀c,Γ.rs.contains c=true->c∈W.xs
 rm:∀c,Γ.rs.contains c=true->∃C,X.mg c=some (.ref C)
 rz:∀(c z:Str) (j:Nat) (np zp cp pos:Pos),Γ.rs.contains c=true->gC sc c=true->okN c=true->PS X (.Raise (some (.Call (.Name c np) [.Constant (.str z) j zp] [] cp)) none pos) (λ_ _ H=>∀C e,X.mg c=some (.ref C)->H e=none->E (.ref C) (some e) H)
 OS:Γ.cs.contains "FloorError"=true->∀c D,c∈W.xs->X.mg c=some (.ref D)->∀T,X.mg "FloorError"=some (.ref T)->PySem.W.exmOne X.K (.ref D) (.ref T)=some true
theorem EV(S:ef Γ F W N sc k E X){c:Str}{σ:St}{Gs G H:Hp}(g:aC W Gs H0 G H)(h:∀Cv ao H',XE W c Gs H0 Cv ao H'->E Cv ao H'):uA X W σ c G H:=λae G1 H1 s1 e s' I g1 x=>
 S.pass ae σ H1 s1 e s' I (DT.imp x λCv a H' y=>h Cv a H' (by
  obtain⟨C,a',G',e1,e2,e3,e4,g2⟩:=y
  have g3:=g1.trans g2
  exact⟨C,a',G',e1,e2,e3,e4,g.g.trans g3.g,g.h.trans g3.h,g3.sub,λx h1 h3 h2=>g3.own x (λz=>h1 (g.h.free z)) (g.h.uy h1 h3) (g.own x h1 h3 h2),λt=>g3.tab (g.tab t)⟩))
def bT.bind{α:Type}(S:ef Γ F W N sc k E X){r:Res α}{f:α->Res Fl}{D:Ends}{env:Sl}{σ:St}{G H:Hp}(sr:SR W H0 env σ G H)(h:bT W H0 G E (r.bind f) D):Out X W r σ G H λa=>bT W H0 G E (f a) D:=by
 cases r with
 |ok a=>exact h
 |exc c=>exact EV S sr.go h
 |bad=>exact h
def n4(S:ef Γ F W N sc k E X){env:Sl}{σ:St}{G H:Hp}{e:Ci.E}{f:PV->Res Fl}{D:Ends}{Q:VK}(sr:SR W H0 env σ G H)(o:bT W H0 G E ((aK F e env).bind f) D)
 (h:∀p v G1 H1,aC W G H G1 H1->Got W H0 G1 H1 e p v->SR W H0 env σ G1 H1->bT W H0 G1 E (f p) D->Q v H1):tE X W F e σ H Q:=
 ⟨H0,G,env,sr,(o.bind S sr).imp λp hp v G1 H1 g1 t=>h p v G1 H1 g1 t (sr.grow g1) (hp.on (sr.on g1))⟩
def Iu(S:ef Γ F W N sc k E X){env:Sl}{σ:St}{G H:Hp}{e:Ci.E}{f:Bool->Res Fl}{D:Ends}{Q:Bool->Hp->Prop}(sr:SR W H0 env σ G H)(o:bT W H0 G E ((aK F e env).bind λp=>sJ p f) D)
 (h:∀b G1 H1,aC W G H G1 H1->SR W H0 env σ G1 H1->bT W H0 G1 E (f b) D->Q b H1):tT X W F e σ H Q:=by
 refine⟨H0,G,env,sr,(o.bind S sr).imp λp hp=>?_⟩
 cases p with
 |bl b=>exact⟨b,rfl,λG1 H1 g1=>h b G1 H1 g1 (sr.grow g1) (bT.on hp (sr.on g1))⟩
 |aD=>exact zzk hp
 |int _=>exact zzk hp
 |str _=>exact zzk hp
 |tup _=>exact zzk hp
 |lst _=>exact zzk hp
 |exc _=>exact zzk hp
 |bf _ _=>exact zzk hp
def Oz(S:ef Γ F W N sc k E X){env:Sl}{σ:St}{G H:Hp}{e:Ci.E}{f:PV->Res Fl}{D:Ends}{Q:VK}(hl:∀env q,aK F e env=.ok q->∃xs,q=.lst xs)(sr:SR W H0 env σ G H)(o:bT W H0 G E ((aK F e env).bind f) D)
 (h:∀xs a vs G1 H1,aC W G H G1 H1->H1 a=none->aq W G1 xs vs->SR W H0 env σ G1 H1->bT W H0 G1 E (f (.lst xs)) D->Q (.ref a) (upd H1 a (.lst vs))):tF X W F e σ H Q:=by
 refine⟨H0,G,env,sr,?_⟩;have o2:=o.bind S sr
 cases r:aK F e env with
 |bad=>rw [r] at o2;exact o2
 |exc c=>rw [r] at o2;exact o2
 |ok q=>
  rw [r] at o2;obtain⟨xs,rfl⟩:=hl env q r
  exact⟨xs,rfl,λa vs G' H' g ha l=>h xs a vs G' H' g ha l (sr.grow g) (bT.on o2 (sr.on g))⟩
def jc{p:Expr}{t:Option Expr}{l:Nat}{env:Env}(h:iL p=true):swapsWith p t l env=pure false:=by
 cases p<;>first|rfl|(exact aP h)
def lR{elt:Expr}{gens:List Comprehension}{s:Scope}{p:Pos}{x:Str}{xp:Pos}{l:Nat}(ei:X.env.scope=sc)(hk:sc.kind=.function):swapsWith (.ListComp elt gens s p) (some (.Name x xp)) l X.env=pure (Ra sc x xp (.ListComp elt gens s p)):=by
 have hb:X.env.blockKind=.function:=by
  unfold Env.blockKind;rw [ei,hk]
  rfl
 show(pure (X.env.blockKind==.function&&X.env.kindOf x==some .local&&xp.line==p.line&&!(s.names.any λ(n,k)=>n==x&&(k==.local||k==.cell))):Sem Bool)=_
 rw [hb];show(pure (true&&X.env.scope.names.lookup x==some .local&&_&&_):Sem Bool)=_
 rw [ei]
 rfl
theorem He(S:ef Γ F W N sc k E X){e:Ci.E}{p:Expr}{pos:Pos}(he:GE X W F e p)(hn:iL p=true):GS X W F H0 E (.expr e) (.Expr p pos):=
 L2.PS.imp (pW he (jc hn)) λD σ H h=>by
  obtain⟨G,env,sr,o⟩:=h
  rw [fH] at o;exact n4 S sr o λq v G1 H1 g t bF o1=>o1 σ G1 H1 bF bF.go
theorem MA(S:ef Γ F W N sc k E X){e:Ci.E}{p:Expr}{pos:Pos}(dy:gA e=true)(he:GE X W F e p):GS X W F H0 E (.ret e) (.Return (some p) pos):=
 L2.PS.imp (C7 he) λD σ H h=>by
  obtain⟨G,env,sr,o⟩:=h
  rw [fH] at o;exact n4 S sr o λq v G1 H1 g t bF o1=>o1 v G1 H1 (t.rep dy) bF.go
theorem MG{pos:Pos}:GS X W F H0 E .brk (.Break pos):=
 L2.PS.imp C6 λD σ H h=>by
  obtain⟨G,env,sr,o⟩:=h
  rw [fH] at o;exact o σ G H sr sr.go
theorem BZ(S:ef Γ F W N sc k E X){c m:Str}{j:Nat}{np zp cp pos:Pos}(h1:Γ.rs.contains c=true)(h2:gC sc c=true)(h3:okN c=true):GS X W F H0 E (.raise c m) (.Raise (some (.Call (.Name c np) [.Constant (.str m) j zp] [] cp)) none pos):=
 L2.PS.imp (S.rz c m j np zp cp pos h1 h2 h3) λD σ H h C e hC he=>by
  obtain⟨G,env,sr,o⟩:=h
  rw [fH] at o;exact o _ _ _ ⟨C,e,G,rfl,rfl,S.xs c h1,by rw [S.C.mg];exact hC,sr.go⟩
def eF(S:ef Γ F W N sc k E X){i:Nat}{x:Str}(h:N[i]?=some x)(hl:ft sc x=true):X.N.Nodup/\X.N[i]?=some x/\Loc X.env.scope x:=by
 refine⟨by rw [S.C.hN];exact S.C.nd,by rw [S.C.hN];exact h,uJ S.C.ei hl⟩
def LO(S:ef Γ F W N sc k E X){i:Nat}{x:Str}{e:Ci.E}{p:Expr}{xp pos:Pos}(h:N[i]?=some x)(hl:ft sc x=true)(dy:gA e=true)(he:GE X W F e p)(hs:swapsWith p (some (.Name x xp)) pos.line X.env=pure false):GS X W F H0 E (.set i e) (.Assign [.Name x xp] p pos):=by
 obtain⟨a1,a2,a3⟩:=eF S h hl
 refine L2.PS.imp (iN a1 a2 a3 he hs (.inl (S.fn x))) λD σ H h=>?_
 obtain⟨G,env,sr,o⟩:=h
 rw [fH] at o;exact n4 S sr o λq v G1 H1 g t bF o1=>o1 _ G1 H1 (bF.set i (t.rep dy)) bF.go
noncomputable def Na(X:Cx)(W:Wd)(F:aL)(i:Nat)(e:Ci.E):TS:=λD σ H=>tF X W F e σ H λv H1=>D.nx (σ.set i (some v)) H1
def Pz{e:Ci.E}(hl:∀env q,aK F e env=.ok q->∃xs,q=.lst xs)(σ:St)(H:Hp)(Q:VK)(h:tE X W F e σ H Q):tF X W F e σ H Q:=by
 obtain⟨H0,G,env,sr,o⟩:=h
 refine⟨H0,G,env,sr,?_⟩;cases r:aK F e env with
 |bad=>rw [r] at o;exact o
 |exc c=>rw [r] at o;exact o
 |ok q=>
  rw [r] at o;obtain⟨xs,rfl⟩:=hl env q r
  exact⟨xs,rfl,λa vs G' H' g ha l=>o _ _ _ (g.trans (.new g.sub ha)) (.of (.l (.inl (.inl ak)) (aq.same (bz (g.sub.free ha)) xs l)))⟩
theorem FI(S:ef Γ F W N sc k E X){i:Nat}{e:Ci.E}{p:Stmt}(hl:∀env q,aK F e env=.ok q->∃xs,q=.lst xs)(dy:gA e=true)(h:PS X p (Na X W F i e)):GS X W F H0 E (.set i e) p:=
 L2.PS.imp h λD σ H hq=>by
  obtain⟨G,env,sr,o⟩:=hq
  rw [fH] at o;refine Pz hl σ H _ (n4 S sr o λq v G1 H1 g t bF o1=>?_);exact o1 _ G1 H1 (bF.set i (t.rep dy)) bF.go
def FN(S:ef Γ F W N sc k E X){i:Nat}{x:Str}{e:Ci.E}{p:Stmt}(hi:N[i]?=some x)(hl:∀env q,aK F e env=.ok q->∃xs,q=.lst xs)(h:PS X p (Na X W F i e)):GS X W F H0 E (.own i e) p:=by
 intro ae s σ H D I hq;have LY:i<σ.length:=by rw [I.len,S.C.hN];exact(zzH.mp hi).1
 refine h ae s σ H D I ?_;obtain⟨G,env,sr,o⟩:=hq
 rw [fH] at o;refine Oz S hl sr o λxs a vs G1 H1 g ha l bF o1=>?_
 have hO:Own W H0 G1 (upd H1 a (.lst vs)) (.lst xs) (.ref a):=⟨a,vs,rfl,ak,bF.sub.free ha,bF.base.free ha,l⟩
 obtain⟨r2,g2⟩:=vE bF bF.go (i:=i) (by rw [bF.len];exact LY) ha hO
 exact o1 _ G1 _ r2 g2
def qm{i:Nat}{x:Str}{e:Ci.E}{p:Expr}{xp pos:Pos}(S:ef Γ F W N sc k E X)(h:N[i]?=some x)(hl:ft sc x=true)(he:GF X W F e p)(hs:swapsWith p (some (.Name x xp)) pos.line X.env=pure false):PS X (.Assign [.Name x xp] p pos) (Na X W F i e):=by
 obtain⟨a1,a2,a3⟩:=eF S h hl
 exact iN a1 a2 a3 he hs (.inl (S.fn x))
def BP(S:ef Γ F W N sc k E X){i:Nat}{x:Str}{xp gu:Pos}(hx:N[i]?=some x)(EC:ft sc x=true){kk:Nat}{ba:List Nat}{tg:Tg}{it:I}{elt:Ci.E}{cL gB fh:Expr}{scope:Scope}{pos:Pos}(h:nB N sc scope kk ba (aM cL))(bS:nk kk tg=true)(dy:gA elt=true)(hi:GI X W F cL it gB)(tZ:∀x,foldedSetIterable gB X.env x=pure x)
 (yz:gh (aM cL++freeOf scope) (dn scope sc) (mH scope) tg cL=true) (he:∀Y,dz Γ.Ea F W (aM cL++freeOf scope) (dn scope sc) k Y->GE Y W F elt fh):PS X (.Assign [.Name x xp] (.ListComp fh [⟨cL,gB,[],0⟩] scope pos) gu) (Na X W F i (.comp kk ba tg it elt)):=by
 obtain⟨a1,a2,a3⟩:=eF S hx EC
 cases yl:Ra sc x xp (.ListComp fh [⟨cL,gB,[],0⟩] scope pos) with
 |false=>exact qm S hx EC (xi S.C h bS dy hi tZ yz he) (by rw [lR S.C.ei S.kind,yl])
 |true=>
  intro ae s σ H D I hq;have JQ:(freeOf scope).Nodup:=(List.nodup_append.mp h.nd).2.1
  have rd:=xS (N:=N) S.C.K bS dy h.slots JQ σ H _ hq
  have:=vc (g:=gT X.K tg) (te:=tN W F elt) (xs:=aM cL) (ys:=freeOf scope) (is:=ba) (pos:=pos) a1 a2 a3 S.C.calm (qv S.C.hN S.C.ei I.ok h) hi
   (λfp s1 H1 A=>zH (fn:=mH scope) (X:=cC X (aM cL++freeOf scope) scope (bU X.env (freeOf scope)) fp s1 H1 A) rfl h.nd (fL S.C.ei) rfl (λ_ z=>z) yz)
   (λfp s1 H1 A=>L2.PE.imp (he _ (fI S.C h fp s1 H1 A)) λσ H Q z=>xP σ H Q z) (by rw [lR (l:=gu.line) S.C.ei S.kind,yl]) tZ (.inl (S.fn x)) ae s σ H D I
  rw [h.len] at this;exact this rd
def uI(S:ef Γ F W N sc k E X){i:Nat}{x:Str}{xp gu:Pos}(hx:N[i]?=some x)(EC:ft sc x=true){kk:Nat}{ba:List Nat}{tg:Tg}{it:I}{c elt:Ci.E}{cL gB pc fh:Expr}{scope:Scope}{pos:Pos}(h:nB N sc scope kk ba (aM cL))(bS:nk kk tg=true)(dy:gA elt=true)(hi:GI X W F cL it gB)(tZ:∀x,foldedSetIterable gB X.env x=pure x)
 (yz:gh (aM cL++freeOf scope) (dn scope sc) (mH scope) tg cL=true) (hc:∀Y,dz Γ.Ea F W (aM cL++freeOf scope) (dn scope sc) k Y->GT Y W F c pc) (he:∀Y,dz Γ.Ea F W (aM cL++freeOf scope) (dn scope sc) k Y->GE Y W F elt fh):PS X (.Assign [.Name x xp] (.ListComp fh [⟨cL,gB,[pc],0⟩] scope pos) gu) (Na X W F i (.dc kk ba tg it c elt)):=by
 obtain⟨a1,a2,a3⟩:=eF S hx EC
 cases yl:Ra sc x xp (.ListComp fh [⟨cL,gB,[pc],0⟩] scope pos) with
 |false=>exact qm S hx EC (pU S.C h bS dy hi tZ yz hc he) (by rw [lR S.C.ei S.kind,yl])
 |true=>
  intro ae s σ H D I hq;have JQ:(freeOf scope).Nodup:=(List.nodup_append.mp h.nd).2.1
  have rd:=oH (N:=N) S.C.K bS dy h.slots JQ σ H _ hq
  have:=qW (g:=gT X.K tg) (tt:=QD W F c) (te:=tN W F elt) (xs:=aM cL) (ys:=freeOf scope) (is:=ba) (pos:=pos) a1 a2 a3 S.C.calm (qv S.C.hN S.C.ei I.ok h) hi
   (λfp s1 H1 A=>zH (fn:=mH scope) (X:=cC X (aM cL++freeOf scope) scope (bU X.env (freeOf scope)) fp s1 H1 A) rfl h.nd (fL S.C.ei) rfl (λ_ z=>z) yz)
   (λfp s1 H1 A=>L2.PT.imp (hc _ (fI S.C h fp s1 H1 A)) λσ H Q z=>Bs σ H Q z)
   (λfp s1 H1 A=>L2.PE.imp (he _ (fI S.C h fp s1 H1 A)) λσ H Q z=>xP σ H Q z) (by rw [lR (l:=gu.line) S.C.ei S.kind,yl]) tZ (.inl (S.fn x)) ae s σ H D I
  rw [h.len] at this;exact this rd
def pj{tg:Tg}{p:PV}{env:Sl}(c:Str):Tg.put tg p env≠.exc c:=by
 unfold Tg.put;split<;>exact λz=>nomatch z
def JK(S:ef Γ F W N sc k E X){tg:Tg}{e:Ci.E}{cL p:Expr}{pos:Pos}(ht:isTup cL=true)(yz:gh N sc (λ_=>true) tg cL=true)(hn:iL p=true)(hp:Bd p=true)(dy:gA e=true)(he:GE X W F e p):GS X W F H0 E (.F8 tg e) (.Assign [cL] p pos):=by
 have yl:swappedStores [cL] p X.env=pure none:=by
  cases cL<;>first|(exact aP ht)|skip
  cases p<;>first|rfl|(exact aP hp)
 have h1:(assignEach [cL] X.env).map (·.2)=[assign cL X.env]:=by
  cases cL<;>first|rfl|(exact aP ht)
 refine L2.PS.imp (vN he (zH (fn:=λ_=>true) S.C.hN S.C.nd S.C.ei S.C.calm (λx _=>S.fn x) yz) (jc hn) yl h1) λD σ H h=>?_
 obtain⟨G,env,sr,o⟩:=h
 rw [fH] at o;refine n4 S sr o λq v G1 H1 g t bF o1=>?_
 cases r:tg.put q env with
 |bad=>rw [r] at o1;exact o1.elim
 |exc c=>exact absurd r (pj c)
 |ok au=>
  rw [r] at o1;exact rH S.C.K r bF (t.rep dy) λσ' ff=>o1 σ' G1 H1 ff bF.go
theorem Kv(S:ef Γ F W N sc k E X){c:Ci.E}{a b:Ss}{p:Expr}{pa pb:List Stmt}{pos:Pos}(hc:GT X W F c p)(ha:DZ X W F H0 E a pa)(hb:DZ X W F H0 E b pb):GS X W F H0 E (.ite c a b) (.If p pa pb pos):=
 L2.PS.imp (HY hc ha hb) λD σ H h=>by
  obtain⟨G,env,sr,o⟩:=h
  rw [fH] at o;refine Iu S sr o λt G1 H1 g bF o1=>?_
  cases t with
  |true=>
   rw [if_pos rfl] at o1⊢;exact⟨G1,env,bF,o1⟩
  |false=>
   rw [if_neg zzf] at o1⊢;exact⟨G1,env,bF,o1⟩
theorem Lm(S:ef Γ F W N sc k E X){c:Ci.E}{b:Ss}{p:Expr}{pb:List Stmt}{pos:Pos}(hc:GT X W F c p)(hb:DZ X W F H0 E b pb):GS X W F H0 E (.xD c b) (.While p pb [] pos):=
 L2.PS.imp (Cd S.own hc hb) λD σ H h=>by
  obtain⟨G,env,sr,o⟩:=h
  rw [fH] at o;refine⟨λm σ' H'=>∃G' au,SR W H0 au σ' G' H'/\aC W G H0 G' H'/\bT W H0 G' E (cK (aK F c) (aE F b) m au) D,⟨_,G,env,sr,sr.go,o⟩,?_⟩
  rintro m σ' H' ⟨G',au,sr',g',o'⟩
  cases m with
  |zero=>exact o'.elim
  |succ m=>
   unfold cK at o';refine Iu S sr' o' λt G1 H1 g1 bF o1=>?_
   cases t with
   |false=>
    rw [if_neg zzf] at o1⊢;exact o1 σ' G1 H1 bF bF.go
   |true=>
    rw [if_pos rfl] at o1⊢;refine⟨λσ2 H2=>∃G2 fk,SR W H0 fk σ2 G2 H2/\aC W G H0 G2 H2/\bT W H0 G2 E (cK (aK F c) (aE F b) m fk) D,λσ2 H2 h2=>⟨m,Nat.lt_succ_self _,h2⟩,G1,au,bF,?_⟩
    have gg:=g'.then (sr'.on g1)
    cases r:aE F b au with
    |bad=>rw [r] at o1;exact o1.elim
    |exc cc=>rw [r] at o1;exact o1
    |ok f=>
     rw [r] at o1;cases f with
     |nx fk=>exact λσ2 G2 H2 ff g2=>⟨G2,fk,ff,gg.then g2,bT.on (show bT W H0 G1 E (cK (aK F c) (aE F b) m fk) D from o1) g2⟩
     |ct fk=>exact λσ2 G2 H2 ff g2=>⟨G2,fk,ff,gg.then g2,bT.on (show bT W H0 G1 E (cK (aK F c) (aE F b) m fk) D from o1) g2⟩
     |bk fk=>exact λσ2 G2 H2 ff g2=>o1 σ2 G2 H2 ff g2
     |rt q=>exact λv G2 H2 rv g2=>o1 v G2 H2 rv g2
def JO(S:ef Γ F W N sc k E X){tg:Tg}{it:I}{b:Ss}{cL gB:Expr}{pb:List Stmt}{pos:Pos}(yz:gh N sc (λ_=>true) tg cL=true)(hit:EE it=true)(hi:GI X W F cL it gB)(tZ:∀x,foldedSetIterable gB X.env x=pure x)(hb:DZ X W F H0 E b pb):GS X W F H0 E (.cQ tg it b) (.For cL gB pb [] pos):=
 L2.PS.imp (LI S.own S.C.calm hi (zH (fn:=λ_=>true) S.C.hN S.C.nd S.C.ei S.C.calm (λx _=>S.fn x) yz) hb tZ) λD σ H h=>by
  obtain⟨G,env,sr,o⟩:=h
  rw [fH] at o;refine⟨H0,G,env,sr,(o.bind S sr).imp λps lX J G1 H1 g1 gi=>?_⟩
  have bE:=gi.bE hit
  generalize hf:(λ(x:PV) (env:Sl)=>(tg.put x env).bind λau=>aE F b au)=f at lX
  have bF:=sr.grow g1
  refine⟨λi m σ' H'=>i<=ps.length/\m=ps.length-i/\∃G' au,SR W H0 au σ' G' H'/\aC W G1 H0 G' H'/\bT W H0 G' E (forL f (ps.drop i) au) D,⟨_,Nat.zero_le _,rfl,G1,env,bF,bF.go,by rw [List.drop_zero];exact bT.on lX (sr.on g1)⟩,?_⟩
  rintro i m σ' H' ⟨OT,hm,G',au,sr',g',o'⟩
  obtain⟨ist,igo⟩:=bE i G' H' g'.g (.of (g'.g.trans sr'.sub)) sr'.sub
  by_cases hlast:i=ps.length
  ·refine .inl ⟨ist hlast,?_⟩;rw [hlast,List.drop_length] at o';exact o' σ' G' H' sr' sr'.go
  ·have bS:i<ps.length:=by omega
   obtain⟨hgo,hyld⟩:=igo ps[i] (zzg bS)
   refine .inr ⟨hgo,λσ2 H2=>i+1<=ps.length/\∃G2 fk,SR W H0 fk σ2 G2 H2/\aC W G1 H0 G2 H2/\bT W H0 G2 E (forL f (ps.drop (i+1)) fk) D,λσ2 H2 h2=>⟨ps.length-(i+1),by omega,h2.1,rfl,h2.2⟩,λx nT hy=>?_⟩
   obtain⟨wD,g'',rx⟩:=hyld x nT hy
   rw [List.drop_eq_getElem_cons bS] at o';unfold forL at o';have Vx:f ps[i] au=(tg.put ps[i] au).bind λau=>aE F b au:=by rw [<-hf]
   rw [Vx] at o';have ff:=sr'.grow g''
   have g2:=g'.then (sr'.on g'')
   cases r:tg.put ps[i] au with
   |bad=>rw [r] at o';exact o'.elim
   |exc c=>exact absurd r (pj c)
   |ok fk=>
    rw [r] at o';refine rH S.C.K r ff rx λσ2 sr3=>⟨wD,fk,sr3,?_⟩
    have o2:bT W H0 wD E ((aE F b fk).bind λfl=>match fl with
     |.nx au=>forL f (ps.drop (i+1)) au
     |.ct au=>forL f (ps.drop (i+1)) au
     |.bk au=>.ok (.nx au)
     |.rt p=>.ok (.rt p)) D:=bT.on o' (sr'.on g'')
    cases r2:aE F b fk with
    |bad=>rw [r2] at o2;exact o2.elim
    |exc cc=>rw [r2] at o2;exact o2
    |ok fl=>
     rw [r2] at o2;cases fl with
     |nx env3=>exact λσ3 G3 H3 JA g3=>⟨bS,G3,env3,JA,g2.then g3,bT.on (show bT W H0 wD E (forL f (ps.drop (i+1)) env3) D from o2) g3⟩
     |ct env3=>exact λσ3 G3 H3 JA g3=>⟨bS,G3,env3,JA,g2.then g3,bT.on (show bT W H0 wD E (forL f (ps.drop (i+1)) env3) D from o2) g3⟩
     |bk env3=>exact λσ3 G3 H3 JA g3=>o2 σ3 G3 H3 JA g3
     |rt q=>exact λv G3 H3 rv g3=>o2 v G3 H3 rv g3
theorem Ht:DZ X W F H0 E .nil []:=L2.rN.imp wb λD σ H h=>by
 obtain⟨G,env,sr,o⟩:=h
 rw [aE] at o;exact o σ G H sr sr.go
theorem Cu{s:Ci.S}{ss:Ss}{p:Stmt}{ps:List Stmt}(h1:GS X W F H0 E s p)(h2:DZ X W F H0 E ss ps):DZ X W F H0 E (.cons s ss) (p::ps):=
 L2.rN.imp (C3 h1 h2) λD σ H h=>by
  obtain⟨G,env,sr,o⟩:=h
  rw [aE] at o;refine⟨G,env,sr,?_⟩;cases r:fH F s env with
  |bad=>rw [r] at o;exact o
  |exc c=>rw [r] at o;exact o
  |ok f=>
   rw [r] at o;cases f with
   |nx fk=>exact λσ2 G2 H2 ff g2=>⟨G2,fk,ff,bT.on (show bT W H0 G E (aE F ss fk) D from o) g2⟩
   |bk fk=>exact o
   |ct fk=>exact o
   |rt q=>exact o
def F1{i:Nat}{ss:Ss}{ps:List Stmt}(h:DZ X W F H0 E ss ps):DZ X W F H0 E (.cons (.bE i) ss) ps:=by
 intro ae s σ H D I hq;obtain⟨G,env,sr,o⟩:=hq
 rw [aE,fH] at o;rcases KH sr sr.go i with⟨G',sr',g'⟩|⟨a,aw,ha,k⟩
 ·exact h ae s σ H D I ⟨G',_,sr',bT.on (show bT W H0 G E (aE F ss (env.modify i mv)) D from o) g'⟩
 ·obtain⟨ob,J⟩:=I.freeze ha
  obtain⟨G',sr',g'⟩:=k ob
  exact h ae s σ _ D J ⟨G',_,sr',bT.on (show bT W H0 G E (aE F ss (env.modify i mv)) D from o) g'⟩
end
end Ci
namespace L2
open PySem PySem.Spec PyProof.Rows
end L2
namespace Ci
open PySem L2
section
variable{Γ:Pg}{X:Cx}{W:Wd}{F:aL}{N:List Str}{sc:Scope}{k:Nat}{H0:Hp}{E:XK}
def vj(hK:W.K=X.K):P0 X "list.extend" (λx vs H Q=>∃l b xs zs,x=.ref l/\vs=[.ref b]/\H l=some (.lst xs)/\uD W.K H b zs/\xs.length+zs.length<=sizeLine/\Q .aD (upd H l (.lst (xs++zs)))):=by
 intro ae s σ H x vs v us Q I rx rv h;obtain⟨l,b,xs,zs,rfl,rfl,hH,hB,hz,q⟩:=h
 cases rx;obtain⟨u,rfl,ru⟩:=Vals.one rv
 cases ru;obtain⟨z,ay,n,r,hl,e⟩:=I.Of hH
 obtain⟨fG,n2,r2,U8,z2,e2⟩:=El hK I hB
 have hsz:ay.toArray.size+fG.toArray.size<=sizeLine:=by rw [zzC,zzC];omega
 have NA:¬(!ay.toArray.isEmpty&&Builtin.List.listTooLong (ay.toArray.size+fG.toArray.size))=true:=by
  rw [Dz hsz,Bool.and_false];exact zzf
 refine PySem.call_meets PySem.F.slot_list_extend ⟨_,e,rfl⟩ PySem.F.entry_list_extend (PySem.F.args_list_extend_2 _ _)
  (PySem.AutoSeq1.list_extend_list_list_0 l ay.toArray n b fG.toArray n2 NA (by rw [zzC];omega) (by omega)) ⟨e,e2,?_⟩
 refine⟨.aD,_,I.Pe (its':=ay++fG) hH e (by simp) (r.append r2) ?_,rfl,q⟩;rw [zzM];omega
def iP(S:ef Γ F W N sc k E X){i:Nat}{x:Str}{pos:Pos}(h:N[i]?=some x)(hv:fb sc x=true)(ho:okN x=true):PE X (.Name x pos) (zE i):=
 eZ (by rw [S.C.hN];exact h) (qR S.C hv) (cZ ho).1 (cZ ho).2.1
def wo{env:Sl}{σ:St}{G H:Hp}{i:Nat}{xs:List PV}(sr:SR W H0 env σ G H)(h:env[i]?=some (.own (.lst xs))):∃a vs,σ[i]?=some (some (.ref a))/\H a=some (.lst vs)/\G a=none/\H0 a=none/\aq W G xs vs:=by
 obtain⟨o,ho,v,rfl,a,vs,rfl,h1,h2,h3,l⟩:=sr.slot i _ h
 exact⟨a,vs,ho,h1,h2,h3,l⟩
def JZ(S:ef Γ F W N sc k E X){i:Nat}{x:Str}{e:Ci.E}{p:Expr}{np apos bL pos:Pos}(h:N[i]?=some x)(hv:fb sc x=true)(ho:okN x=true)(gj:(apos.endLine==bL.line)=true)(dy:gA e=true)(he:GE X W F e p)
 (dG:∀env ps,starEach (p::ps) env=(false,eval p env)::starEach ps env):GS X W F H0 E (.app i e) (.Expr (.Call (.Attribute (.Name x np) "append" apos) [p] [] bL) pos):=by
 refine L2.PS.imp (pW (xg PySem.F.plainAttrs_list PySem.F.slot_list_append PySem.F.type_list_append zC (iP S h hv ho) (bM he dq (dG _ _)) rfl (by rw [dG];rfl) gj (dG _ _) rfl) rfl) λD σ H hq=>?_
 obtain⟨G,env,sr,o⟩:=hq
 rw [fH] at o;split at o
 ·rename_i xs hx;obtain⟨a,vs,hs,h1,h2,h3,l⟩:=wo sr hx
  refine⟨.ref a,hs,.inl ⟨rfl,_,gM.of h1⟩,n4 S sr o λq v G1 H1 g t bF o1=>?_⟩
  split at o1
  ·rename_i hl;have La:=g.h.at h1 (λ_ z=>nomatch z)
   have oF:=g.own a (by rw [h1];exact λz=>nomatch z) (by rw [h1];exact λ_ z=>nomatch z) h2
   have l':=aq.same g.g xs l
   refine⟨a,vs,v,rfl,rfl,La,by rw [l.length];exact zzW hl (by decide),?_⟩;obtain⟨r2,g2⟩:=mY (p':=.lst (xs++[q])) (ob:=.lst (vs++[v])) bF bF.go hx hs oF h3 ⟨a,_,rfl,ak,oF,h3,l'.append (.cons (t.rep dy) .nil)⟩
   exact o1 _ G1 _ r2 g2
  ·exact o1.elim
 ·exact o.elim
def G9(S:ef Γ F W N sc k E X){i:Nat}{x:Str}{e:Ci.E}{p:Expr}{np apos bL pos:Pos}(h:N[i]?=some x)(hv:fb sc x=true)(ho:okN x=true)(gj:(apos.endLine==bL.line)=true)(he:GE X W F e p)
 (dG:∀env ps,starEach (p::ps) env=(false,eval p env)::starEach ps env):GS X W F H0 E (.qZ i e) (.Expr (.Call (.Attribute (.Name x np) "extend" apos) [p] [] bL) pos):=by
 refine L2.PS.imp (pW (xg PySem.F.plainAttrs_list PySem.F.slot_list_extend PySem.F.type_list_extend (vj S.C.K) (iP S h hv ho) (bM he dq (dG _ _)) rfl (by rw [dG];rfl) gj (dG _ _) rfl) rfl) λD σ H hq=>?_
 obtain⟨G,env,sr,o⟩:=hq
 rw [fH] at o;split at o
 ·rename_i xs hx;obtain⟨a,vs,hs,h1,h2,h3,l⟩:=wo sr hx
  refine⟨.ref a,hs,.inl ⟨rfl,_,gM.of h1⟩,n4 S sr o λq v G1 H1 g t bF o1=>?_⟩
  split at o1
  ·rename_i ys;split at o1
   ·rename_i hl;have La:=g.h.at h1 (λ_ z=>nomatch z)
    have oF:=g.own a (by rw [h1];exact λz=>nomatch z) (by rw [h1];exact λ_ z=>nomatch z) h2
    have l':=aq.same g.g xs l
    obtain⟨b,us,rfl,hb,lb⟩:=t.top.lst bF.sub
    refine⟨a,b,vs,us,rfl,rfl,La,hb,by rw [l.length,lb.length];exact qj hl,?_⟩;obtain⟨r2,g2⟩:=mY (p':=.lst (xs++ys)) (ob:=.lst (vs++us)) bF bF.go hx hs oF h3 ⟨a,_,rfl,ak,oF,h3,l'.append lb⟩
    exact o1 _ G1 _ r2 g2
   ·exact o1.elim
  ·exact o1.elim
 ·exact o.elim
def O1:V->V->V->Hp->(Hp->Prop)->Prop:=λo i v H Q=>∃a H',o=.ref a/\yQ H a i v H'/\Q H'
def xQ(hu:X.A.units+1<cLine):PD X O1:=by
 intro ae s σ H o i v ov iv u Q I ro ri rv h;obtain⟨a,H',rfl,g,q⟩:=h
 cases ro;exact zY hu I g ri rv λs' I'=>⟨H',I',q⟩
def jv{env:Sl}{σ:St}{G H:Hp}{i:Nat}{ks:List (List Int)}{ps:List PV}(sr:SR W H0 env σ G H)(h:env[i]?=some (.own (.bf ks ps))):∃a us,σ[i]?=some (some (.ref a))/\ks.length=us.length/\H a=some (.dT (kz ks us))/\G a=none/\H0 a=none/\aq W G ps us:=by
 obtain⟨o,ho,v,rfl,a,us,rfl,n,h1,h2,h3,l⟩:=sr.slot i _ h
 exact⟨a,us,ho,n,h1,h2,h3,l⟩
def MH(S:ef Γ F W N sc k E X){i:Nat}{x:Str}{kk e:Ci.E}{pk p:Expr}{np gu pos:Pos}(h:N[i]?=some x)(hv:fb sc x=true)(ho:okN x=true)(dy:gA e=true)(Uj:aZ Γ N sc kk pk=true)(hk:GE X W F kk pk)(he:GE X W F e p):GS X W F H0 E (.put i kk e) (.Assign [.Subscript (.Name x np) pk gu] p pos):=by
 have yl:swappedStores [.Subscript (.Name x np) pk gu] p X.env=pure none:=by cases p<;>rfl
 have ha:∀v,assign (.Subscript (.Name x np) pk gu) X.env v=(do
  let ov<-holding [v] (eval (.Name x np) X.env)
  let iv<-holding [v,ov] (eval pk X.env)
  standAt gu
  holding [v,ov,iv] (setItem ov iv v)
  release [v,ov,iv] []):=by
  intro v;cases pk<;>first|rfl|(cases kk<;>first|(exact aP Uj)|(rename_i q;cases q<;>exact aP Uj))
 refine L2.PS.imp (vN he (Bh (iP S h hv ho) hk (xQ (by have:=S.C.room.un;omega)) ha) (by cases p<;>rfl) yl) λD σ H hq=>?_
 obtain⟨G,env,sr,o⟩:=hq
 rw [fH] at o;refine n4 S sr o λq v G1 H1 g t bF o1=>?_
 split at o1
 ·rename_i ks ps hx;obtain⟨a,us,hs,n,h1,h2,h3,l⟩:=jv bF hx
  refine⟨.ref a,hs,n4 S bF o1 λq2 v2 G2 H2 g2 t2 ff o2=>?_⟩
  split at o2
  ·rename_i kk Jx;split at o2
   ·rename_i yH;have e2:=hZ Jx
    subst e2;obtain⟨b,rfl,hb⟩:=t2.top.tupI (ns:=kk) ff.sub rfl
    have La:=g2.h.at h1 (λ_ z=>nomatch z)
    have oF:=g2.own a (by rw [h1];exact λz=>nomatch z) (by rw [h1];exact λ_ z=>nomatch z) h2
    have l':=aq.same g2.g ps l
    refine⟨a,upd H2 a (.dT (putK (kz ks us) (ki kk) v)),rfl,yQ.t La (by rw [qM];exact ff.sub _ _ hb) (by rw [fu n];exact zzW yH (by decide)),?_⟩;rw [vk n];obtain⟨r2,gg⟩:=mY (p':=.bf (aV ks kk) (aU ks ps kk q)) (ob:=.dT (kz (aV ks kk) (aU ks us kk v))) ff ff.go hx hs oF h3 ⟨a,_,rfl,m6 n kk v,ak,oF,h3,pX l' (Rep.same g2.g q (t.rep dy))⟩
    exact o2 _ G2 _ r2 gg
   ·exact o2.elim
  ·exact o2.elim
 ·exact o1.elim
def Hv(S:ef Γ F W N sc k E X){i:Nat}{x:Str}{np dp pos:Pos}(h:N[i]?=some x)(hl:ft sc x=true):GS X W F H0 E (.j5 i) (.Assign [.Name x np] (.Dict [] [] dp) pos):=by
 obtain⟨a1,a2,a3⟩:=eF S h hl
 intro ae s σ H D I hq;have LY:i<σ.length:=by rw [I.len,S.C.hN];exact(zzH.mp h).1
 refine iN a1 a2 a3 AN rfl (.inl (S.fn x)) ae s σ H D I ?_;obtain⟨G,env,sr,o⟩:=hq
 rw [fH] at o;intro p hp;obtain⟨r2,g2⟩:=vE (i:=i) (p:=.bf [] []) (ob:=.dT []) sr sr.go (by rw [sr.len];exact LY) hp ⟨p,[],rfl,rfl,ak,sr.sub.free hp,sr.base.free hp,.nil⟩
 exact o _ G _ r2 g2
def Ha(S:ef Γ F W N sc k E X){i:Nat}{x:Str}{e:Ci.E}{p:Expr}{np gp cp pos:Pos}(h:N[i]?=some x)(hl:ft sc x=true)(hg:gC sc "dict"=true)(hm:Γ.bs.contains "dict"=true)(he:GE X W F e p)
 (dG:∀env ps,starEach (p::ps) env=(false,eval p env)::starEach ps env):GS X W F H0 E (.mM i e) (.Assign [.Name x np] (.Call (.Name "dict" gp) [p] [] cp) pos):=by
 obtain⟨a1,a2,a3⟩:=eF S h hl
 intro ae s σ H D I hq;have LY:i<σ.length:=by rw [I.len,S.C.hN];exact(zzH.mp h).1
 refine iN a1 a2 a3 (d8 (nu S.C.calm (by have:=S.C.room.un;omega)) (dA S.C hg) (S.C.bs _ (zzn.mp hm)) (by decide+kernel) (bM he dq (dG _ _)) (he:=dG _ _) (hpl:=rfl)) rfl (.inl (S.fn x)) ae s σ H D I ?_;obtain⟨G,env,sr,o⟩:=hq
 rw [fH] at o;refine n4 S sr o λq v G1 H1 g t bF o1=>?_
 cases hb:iw [q] with
 |exc c=>exact absurd hb (sN c)
 |bad=>rw [hb] at o1;exact o1.elim
 |ok r=>
  rw [hb] at o1;obtain⟨ks,qs,rfl,a,vs,aw,e1,h1,pw,zs,z1,z2,z3⟩:=uu (X:=X) S.C.K bF.sub (.cons t.top .nil) hb
  refine⟨a,vs,aw,e1,h1,pw,λad hp=>?_⟩
  rw [z3];obtain⟨r2,g2⟩:=vE (i:=i) (p:=.bf ks qs) (ob:=.dT (kz ks zs)) bF bF.go (by rw [bF.len];exact LY) hp ⟨ad,zs,rfl,z1,ak,bF.sub.free hp,bF.base.free hp,z2⟩
  exact o1 _ G1 _ r2 g2
def zu(S:ef Γ F W N sc k E X){i j n:Nat}{x y z:Str}{np zp gu yp apos Tt bL pos:Pos}(h:N[i]?=some x)(hv:fb sc x=true)(ho:okN x=true)(hz:N[n]?=some z)(Vb:fb sc z=true)(Uz:okN z=true)(hy:N[j]?=some y)(Wf:fb sc y=true)(VX:okN y=true)
 (gj:(apos.endLine==bL.line)=true):GS X W F H0 E (.eO i j n) (.Assign [.Subscript (.Name x np) (.Name z zp) gu] (.Call (.Attribute (.Name y yp) "pop" apos) [.Name z Tt] [] bL) pos):=by
 have hu:X.A.units+1<cLine:=by have:=S.C.room.un;omega
 refine L2.PS.imp (vN (Ft hu (iP S hy Wf VX) (iP S hz Vb Uz) ⟨rfl,rfl,gj,rfl⟩) (Bh (iP S h hv ho) (iP S hz Vb Uz) (xQ hu) λ_=>rfl) (by unfold swapsWithSole;exact jc rfl) rfl) λD σ H hq=>?_
 obtain⟨G,env,sr,o⟩:=hq
 rw [fH] at o;split at o
 ·rename_i ks ps ks2 ps2 kp e1 e2 e3;split at o
  ·rename_i kk Jx;split at o
   ·rename_i p hp;split at o
    ·rename_i yH;have ek:=hZ Jx
     subst ek;obtain⟨a,us,hs,nn,h1,h2,h3,l⟩:=jv sr e1
     obtain⟨ok,hk1,v,rfl,rv⟩:=sr.slot n _ e3
     obtain⟨b,rfl,hb⟩:=w9 rv
     obtain⟨w,hw,kw⟩:=qi l hp
     refine⟨.ref a,hs,a,rfl,.inr ⟨_,.inl h1⟩,.ref b,hk1,_,ki kk,b,w,h1,rfl,(by rw [qM];exact sr.sub _ _ hb),(by rw [kl];exact hw),?_⟩;rw [x5 kk nn];obtain⟨r1,g1⟩:=mY (p':=.bf (cm ks kk) (aW ks ps kk)) (ob:=.dT (kz (cm ks kk) (aW ks us kk))) sr sr.go e1 hs h2 h3 ⟨a,_,rfl,sR kk nn,ak,h2,h3,nH l⟩
     have Tq:(env.set j (.own (.bf (cm ks kk) (aW ks ps kk))))[i]?=some (.own (.bf ks2 ps2)):=by rw [zzS (Ne.symm yH.2)];exact e2
     obtain⟨a2,us2,xb,n2,k1,k2,k3,l2⟩:=jv r1 Tq
     refine⟨.ref a2,xb,.ref b,hk1,a2,_,rfl,yQ.t k1 (by rw [qM];exact r1.sub _ _ hb) (by rw [fu n2];exact zzW yH.1 (by decide)),?_⟩;rw [vk n2];obtain⟨r2,g2⟩:=mY (p':=.bf (aV ks2 kk) (aU ks2 ps2 kk p)) (ob:=.dT (kz (aV ks2 kk) (aU ks2 us2 kk w))) r1 g1 Tq xb k2 k3 ⟨a2,_,rfl,m6 n2 kk w,ak,k2,k3,pX l2 kw⟩
     exact o _ G _ r2 g2
    ·exact o.elim
   ·exact o.elim
  ·exact o.elim
 ·exact o.elim
end
end Ci
namespace L2
open PySem PySem.Spec PyProof.Rows
end L2
namespace Ci
open PySem L2
theorem rj:∀(cs:List Int) (all:List Int) (j b:Nat) (m:Int),all.drop j=cs->all[b]?=some m->b<j->(∀i c,all[i]?=some c->i<j->m<=c/\(i<b->m<c))->
 ∃m',all[eY cs j b m]?=some m'/\∀i c,all[i]?=some c->m'<=c/\(i<eY cs j b m->m'<c)
 |[],all,j,b,m,hd,hb,_,best=>by
  unfold eY;have hl:all.length<=j:=List.drop_eq_nil_iff.mp hd
  exact⟨m,hb,λi c e=>best i c e (zzW (zzH.mp e).1 hl)⟩
 |x::cs,all,j,b,m,hd,hb,hbj,best=>by
  have hx:all[j]?=some x:=by rw [<-List.head?_drop,hd];rfl
  have nL:all.drop (j+1)=cs:=by rw [<-List.drop_drop,hd];rfl
  unfold eY;split
  ·rename_i bS;refine rj cs all (j+1) j x nL hx (by omega) λi c e hi=>?_
   by_cases h:i=j
   ·subst h;rw [hx] at e;cases e;exact⟨Int.le_refl _,λz=>absurd z (Nat.lt_irrefl _)⟩
   ·have:=best i c e (by omega)
    exact⟨by omega,λ_=>by omega⟩
  ·rename_i bS;refine rj cs all (j+1) b m nL hb (by omega) λi c e hi=>?_
   by_cases h:i=j
   ·subst h;rw [hx] at e;cases e;exact⟨by omega,λz=>by omega⟩
   ·exact best i c e (by omega)
def EU{cs:List Int}{x:Nat}(h:Av cs=some x):∃m,cs[x]?=some m/\∀i c,cs[i]?=some c->m<=c/\(i<x->m<c):=by
 cases cs with
 |nil=>cases h
 |cons c cs=>
  cases h;refine rj cs (c::cs) 1 0 c rfl rfl (by omega) λi d e hi=>?_
  have:i=0:=by omega
  subst this;cases e;exact⟨Int.le_refl _,λz=>absurd z (Nat.not_lt_zero _)⟩
theorem pf{W:Wd}{G H:Hp}{K:zz8}(hK:W.K=K)(sg:aA G H):∀{ps:List PV} {us:List V} {cs:List Int},iK ps=some cs->aq W G ps us->cs.length=ps.length/\∀(i:Nat) v,us[i]?=some v->∃q r,v=V.ref q/\fw K H q (.int (cs.getD i 0)::r)
 |[],_,_,e,l=>by cases e;simp! [aq] at l;subst l;exact⟨rfl,λi v h=>by simp at h⟩
 |p::ps,us,cs,e,l=>by
  obtain⟨u,ur,rfl,h1,h2⟩:=l.cB
  unfold iK at e;split at e
  ·rename_i heq;cases heq
  ·rename_i heq;cases heq;obtain⟨r,hr,rfl⟩:=zzJ.mp e
   obtain⟨i1,i2⟩:=pf hK sg hr h2
   refine⟨by simp [i1],λi v hv=>?_⟩
   cases i with
   |zero=>
    cases hv;simp! [Rep] at h1;obtain⟨q,ws,rfl,tq,lq⟩:=h1
    obtain⟨w,wr,rfl,k1,lq⟩:=lq.cB
    simp! [Rep] at k1;subst k1;exact⟨q,wr,rfl,by rw [<-hK];simpa using aA.tup sg tq.sq⟩
   |succ i=>simpa using i2 i v (by simpa using hv)
  ·cases e
section
variable{Γ:Pg}{X:Cx}{W:Wd}{F:aL}{N:List Str}{sc:Scope}{k:Nat}{H0:Hp}{E:XK}
def Fh(S:ef Γ F W N sc k E X){m i:Nat}{x y:Str}{params:Arguments}{body:Expr}{scope:Scope}{yp q1 q2 q3 q4 q5 pos:Pos}(h1:N[m]?=some y)(h2:ft sc y=true)(h3:N[i]?=some x)(h4:sc.names.lookup x=some .cell)(h5:gC sc "min"=true)(h6:Γ.bs.contains "min"=true)(h7:Γ.hl=true)
 (h8:xq x params body scope=true):GS X W F H0 E (.md m i) (.Assign [.Name y yp] (.Call (.Name "min" q1) [.Name x q2] [⟨some "key",.Lambda params body scope q3,q4⟩] q5) pos):=by
 obtain⟨a1,a2,a3⟩:=eF S h1 h2
 obtain⟨p,ep,L,hfr,hox⟩:=BO h8
 have pe:PE X (.Call (.Name "min" q1) [.Name x q2] [⟨some "key",.Lambda params body scope q3,q4⟩] q5) (λσ H Q=>∃G env ks ps cs ix kk,SR W H0 env σ G H/\env[i]?=some (.own (.bf ks ps))/\iK ps=some cs/\Av cs=some ix/\ks[ix]?=some kk/\∀v G' H',aC W G H G' H'->Rep W G' (ah kk) v->Q v H'):=by
  intro ae s σ H Q I hq;obtain⟨G,env,ks,ps,cs,ix,kk,sr,e1,e2,e3,e4,q⟩:=hq
  obtain⟨d,us,hs,n,k1,k2,k3,l⟩:=jv sr e1
  obtain⟨c,eK⟩:=I.ok.has x (.inl (by show X.env.scope.names.lookup x=_;rw [S.C.ei];exact h4))
  have ID:closureFor scope X.env=pure [(x,c)]:=by
   rw [iS λy hy hf=>?_]
   ·show pure (bU X.env (bu scope))=_
    rw [hfr];simp [bU,eK]
   ·have:y.1∈bu scope:=by
     unfold bu;rw [List.mem_reverse,zzx];exact⟨y,List.mem_filter.mpr ⟨hy,by rw [hf];rfl⟩,rfl⟩
    rw [hfr] at this;rw [zzi.mp this];exact⟨c,eK⟩
  refine wpAny_Call_Name_kw (fR I (dA S.C h5) (S.C.bs _ (zzn.mp h6)) (u:=.builtin "min") (by decide+kernel) ?_);refine PyProof.Rows.callWith_kw ?_;refine Calls.spliced_cons (cj (eZ (i:=i) (by rw [S.C.hN];exact h3) (.inr (.inl (by show X.env.scope.names.lookup x=_;rw [S.C.ei];exact h4))) (cZ hox).1 (cZ hox).2.1 ae s σ H (λv' H1=>v'=.ref d/\H1=H) I ⟨_,hs,rfl,rfl⟩) λu s1 hu=>Calls.spliced_nil ?_)
  obtain⟨v',H1,I1,ru,rfl,rfl⟩:=hu
  cases ru;refine PyProof.Rows.kws_cons (cj (A0 S.C h7 ep ID ae s1 σ H1 (λv2 H2=>∃f G2,v2=.ref f/\qY X W params body scope [(x,c)] G H1 G2 H2 f) I1 ⟨G,sr.sub,sr.tab,λf G2 H2 lm=>⟨f,G2,rfl,lm⟩⟩) λu s2 hu=>PyProof.Rows.kws_nil ?_)
  obtain⟨v2,H2,I2,ru,f,G2,rfl,g2,c',oc,di,t,fV,pm,fo,co,cd,cn⟩:=hu
  cases ru;have ff:=sr.grow g2
  obtain⟨d',us',zT,n',k1',k2',k3',l'⟩:=jv ff e1
  rw [hs] at zT;cases zT;obtain⟨cl1,cl2⟩:=pf (K:=X.K) S.C.K ff.sub e2 l'
  have M:KM X σ H2 k d f (kz ks us') (λi=>cs.getD i 0):=by
   refine⟨S.C.room,k1',⟨p,x,params,body,scope,_,c,c',oc,di,t,pm,fV,i,L,eK,I.ok.IB x c (S.C.fl h7 x) eK,ff.sub _ _ fo,ff.sub _ _ co,cd,cn,λu=>xZ ep [u] rfl,by rw [S.C.hN];exact h3,hs,by rw [S.C.ei];exact h4⟩,λj kx v e=>?_⟩
   have:us'[j]?=some v:=by
    unfold kz at e;rw [List.getElem?_zip_eq_some] at e;exact e.2
   exact cl2 j v this
  obtain⟨mm,MC,NR⟩:=EU e3
  have Rl:ix<ks.length:=(zzH.mp e4).1
  have WY:cs.length=ks.length:=by rw [cl1,<-l'.length,n']
  refine yG M (by rw [fu n'];omega) I2 λj kx v b e hb best=>?_
  rw [fu n'] at best;have hj:j<ks.length:=by
   have:=(zzH.mp e).1
   rw [fu n'] at this;exact this
  have ej:j=ix:=by
   have ca:∀a,a<cs.length->cs[a]?=some (cs.getD a 0):=λa ha=>by simp [ha]
   have b1:=best ix Rl
   have b2:=NR j _ (ca j (by omega))
   have em:mm=cs.getD ix 0:=by rw [ca ix (by omega)] at MC;exact(zzq MC).symm
   rw [em] at b2;rcases Nat.lt_trichotomy j ix with z|z|z
   ·have:=b2.2 z;have:=b1.1;omega
   ·exact z
   ·have:=b1.2 z;have:=b2.1;omega
  subst ej;have ek:kx=ki kk:=by
   have:=congrArg (λl=>l[j]?) (lC (us:=us') n')
   simp! [zzQ,e,e4,Option.map_some] at this;exact zzq this
  rw [ek,qM] at hb;obtain⟨G3,g3,l3⟩:=fF (W:=W) (vs:=[.ref b]) (nss:=[kk]) ff.sub (.cons ⟨b,rfl,hb⟩ .nil)
  obtain⟨w,r,ew,hw,_⟩:=l3.cB
  cases ew;exact q _ _ _ (g2.trans g3) hw
 refine L2.PS.imp (iN a1 a2 a3 pe rfl (.inl (S.fn y))) λD σ H hq=>?_
 obtain⟨G,env,sr,o⟩:=hq
 rw [fH] at o;split at o
 ·rename_i ks ps hx;split at o
  ·rename_i cs Ig;split at o
   ·rename_i kk Jx;obtain⟨ix,Ih,hk2⟩:=zzZ.mp Jx
    exact⟨G,env,ks,ps,cs,ix,kk,sr,hx,Ig,Ih,hk2,λv G' H' g' rp=>o _ G' _ ((sr.grow g').set m rp) (sr.on g')⟩
   ·exact o.elim
  ·exact o.elim
 ·exact o.elim
def iH(X:Cx)(E:XK)(σ:St):Prop:=∀(ae:List (Addr×Obj)) (H:Hp) (s:Shared) (e:Value) (s':Shared),Inv X ae σ H s->dW X.prog X.w X.stack H s E e s'->X.xe e s'
theorem Hk{σ:St}(S:iH X E σ){c:Str}{Gs G H:Hp}(g:aC W Gs H0 G H)(h:∀Cv ao H',XE W c Gs H0 Cv ao H'->E Cv ao H'):uA X W σ c G H:=λae G1 H1 s1 e s' I g1 x=>
 S ae H1 s1 e s' I (DT.imp x λCv a H' y=>h Cv a H' (by
  obtain⟨C,a',G',e1,e2,e3,e4,g2⟩:=y
  have g3:=g1.trans g2
  exact⟨C,a',G',e1,e2,e3,e4,g.g.trans g3.g,g.h.trans g3.h,g3.sub,λx h1 h3 h2=>g3.own x (λz=>h1 (g.h.free z)) (g.h.uy h1 h3) (g.own x h1 h3 h2),λt=>g3.tab (g.tab t)⟩))
def bT.Bg{α:Type}{σ:St}(S:iH X E σ){r:Res α}{f:α->Res Fl}{D:Ends}{env:Sl}{G H:Hp}(sr:SR W H0 env σ G H)(h:bT W H0 G E (r.bind f) D):Out X W r σ G H λa=>bT W H0 G E (f a) D:=by
 cases r with
 |ok a=>exact h
 |exc c=>exact Hk S sr.go h
 |bad=>exact h
def oneAt{σ:St}(S:iH X E σ){env:Sl}{G H:Hp}{e:Ci.E}{f:PV->Res Fl}{D:Ends}{Q:VK}(sr:SR W H0 env σ G H)(o:bT W H0 G E ((aK F e env).bind f) D)
 (h:∀p v G1 H1,aC W G H G1 H1->Got W H0 G1 H1 e p v->SR W H0 env σ G1 H1->bT W H0 G1 E (f p) D->Q v H1):tE X W F e σ H Q:=
 ⟨H0,G,env,sr,(o.Bg S sr).imp λp hp v G1 H1 g1 t=>h p v G1 H1 g1 t (sr.grow g1) (hp.on (sr.on g1))⟩
def Mm{σ:St}(S:iH X E σ){env:Sl}{G H:Hp}{e:Ci.E}{f:Bool->Res Fl}{D:Ends}{Q:Bool->Hp->Prop}(sr:SR W H0 env σ G H)(o:bT W H0 G E ((aK F e env).bind λp=>sJ p f) D)
 (h:∀b G1 H1,aC W G H G1 H1->SR W H0 env σ G1 H1->bT W H0 G1 E (f b) D->Q b H1):tT X W F e σ H Q:=by
 refine⟨H0,G,env,sr,(o.Bg S sr).imp λp hp=>?_⟩
 cases p with
 |bl b=>exact⟨b,rfl,λG1 H1 g1=>h b G1 H1 g1 (sr.grow g1) (bT.on hp (sr.on g1))⟩
 |aD=>exact zzk hp
 |int _=>exact zzk hp
 |str _=>exact zzk hp
 |tup _=>exact zzk hp
 |lst _=>exact zzk hp
 |exc _=>exact zzk hp
 |bf _ _=>exact zzk hp
def Bk{s:Ci.S}{env:Sl}:aE F (.cons s .nil) env=fH F s env:=by
 rw [aE];cases fH F s env with
 |ok f=>
  cases f with
  |nx e=>show aE F .nil e=_;rw [aE]
  |bk e=>rfl
  |ct e=>rfl
  |rt p=>rfl
 |exc c=>rfl
 |bad=>rfl
def Fp{e:Ci.E}{p:Expr}(h:aZ Γ N sc e p=true)(hf:fX e=false):iL p=true:=by
 cases p<;>first|rfl|(cases e<;>first|(exact aP h)|(rename_i q;cases q<;>exact aP h)|(cases hf;done))
abbrev Ub(σ0:St)(t:TS):TS:=λD σ H=>σ=σ0/\t D σ H
mutual
theorem VR{σ0:St}(C:dz Γ F W N sc k X)(fn:∀x,X.fn x=true)(hp:iH X E σ0):∀(s:Ci.S) (p:Stmt),AF Γ N sc s p=true->PS X p (Ub σ0 (tS W F H0 E s))
 |.set i e,p,h=>by
  cases p<;>first|(exact aP h)|skip
  replace h:=ai h
  simp! [zza,zzy,Bool.not_eq_true'] at h;obtain⟨x,h0,⟨⟨⟨h1,h2⟩,h3⟩,h4⟩,h5⟩:=h
  obtain⟨xp,rfl⟩:=iO h0
  refine L2.PS.imp (iN (by rw [C.hN];exact C.nd) (by rw [C.hN];exact h1) (uJ C.ei h2) (bx e C _ h5).ge (jc (Fp h5 h4)) (.inl (fn x))) λD σ H q=>?_
  obtain⟨rfl,G,env,sr,o⟩:=q
  rw [fH] at o;exact oneAt hp sr o λq v G1 H1 g t bF o1=>o1 _ G1 H1 (bF.set i (t.rep h3)) bF.go
 |.ret e,p,h=>by
  cases p<;>first|(exact aP h)|skip
  rename_i v pos;cases v with
  |none=>exact aP h
  |some v=>
   replace h:=az h
   refine L2.PS.imp (C7 (bx e C v h.2).ge) λD σ H q=>?_
   obtain⟨rfl,G,env,sr,o⟩:=q
   rw [fH] at o;exact oneAt hp sr o λq v G1 H1 g t bF o1=>o1 v G1 H1 (t.rep h.1) bF.go
 |.ite c a b,p,h=>by
  cases p<;>first|(exact aP h)|skip
  replace h:=az h
  simp! [zza] at h;obtain⟨⟨⟨h1,h2⟩,h3⟩,h4⟩:=h
  refine L2.PS.imp (HY ((bx c C _ h2).gt h1) (RU C fn hp a _ h3) (RU C fn hp b _ h4)) λD σ H q=>?_
  obtain⟨rfl,G,env,sr,o⟩:=q
  rw [fH] at o;refine Mm hp sr o λt G1 H1 g bF o1=>?_
  cases t with
  |true=>
   rw [if_pos rfl] at o1⊢;exact⟨rfl,G1,env,bF,o1⟩
  |false=>
   rw [if_neg zzf] at o1⊢;exact⟨rfl,G1,env,bF,o1⟩
 |.expr _,_,h=>aP h
 |.F8 _ _,_,h=>aP h
 |.own _ _,_,h=>aP h
 |.bE _,_,h=>aP h
 |.app _ _,_,h=>aP h
 |.qZ _ _,_,h=>aP h
 |.put _ _ _,_,h=>aP h
 |.cQ _ _ _,_,h=>aP h
 |.xD _ _,_,h=>aP h
 |.raise _ _,_,h=>aP h
 |.vC _ _ _ _,_,h=>aP h
 |.brk,_,h=>aP h
 |.j5 _,_,h=>aP h
 |.mM _ _,_,h=>aP h
 |.eO _ _ _,_,h=>aP h
 |.md _ _,_,h=>aP h
theorem RU{σ0:St}(C:dz Γ F W N sc k X)(fn:∀x,X.fn x=true)(hp:iH X E σ0):∀(ss:Ss) (ps:List Stmt),Gq Γ N sc ss ps=true->rN X ps (Ub σ0 (S1 W F H0 E ss))
 |.nil,ps,h=>aP h
 |.cons s (.cons _ _),ps,h=>aP h
 |.cons s .nil,ps,h=>by
  match ps,h with
  |[],h=>exact aP h
  |_::_::_,h=>exact aP h
  |[p],h=>
   have h:AF Γ N sc s p=true:=h
   refine L2.rN.imp (xx (VR C fn hp s p h)) λD σ H q=>?_
   obtain⟨e,G,env,sr,o⟩:=q
   rw [Bk] at o;exact⟨e,G,env,sr,o⟩
end
def dz.with1(C:dz Γ F W N sc k X)(pn:List (Addr×Obj))(xe:Value->Shared->Prop):dz Γ F W N sc k (X.with1 pn xe):=
 ⟨C.hN,C.ei,C.calm,C.nd,C.K,C.mg,C.gs,C.bs,C.room,λf h=>⟨(C.fns f h).ex⟩,C.M8,C.cls,C.xc,λq h=>⟨(C.tZ q h).ex⟩,C.any,C.tb,C.bm,C.fl⟩
def SR.vals{env:Sl}{σ:St}{G H G' H':Hp}(r:SR W H0 env σ G H)(hn:env.any Slot.mZ=false)(g:aC W G H0 G' H'):SR W H0 env σ G' H':=by
 have no:∀(i:Nat) (p:PV),env[i]?≠some (.own p):=λi p e=>by
  have:env.any Slot.mZ=true:=zzj.mpr ⟨_,zzD e,rfl⟩
  rw [this] at hn;cases hn
 refine⟨r.len,g.sub,g.h,λi s e=>?_,λi j p q a e=>absurd e (no i p),g.tab r.jq,r.jq.same g.g g.own λ_ _ h=>h⟩
 obtain⟨o,h1,h2⟩:=r.slot i s e
 refine⟨o,h1,?_⟩;cases s with
 |no=>exact trivial
 |val q=>
  obtain⟨v,rfl,rv⟩:=h2
  exact⟨v,rfl,Rep.same g.g q rv⟩
 |own q=>exact absurd e (no i q)
 |fn _ _ _=>
  obtain⟨v,rfl,rv⟩:=h2
  exact⟨v,rfl,rv.same g.g⟩
def SR.drop{env:Sl}{σ:St}{G H:Hp}(i:Nat)(r:SR W H0 env σ G H):SR W H0 (env.set i .no) (σ.set i none) G H where
 len:=by simpa using r.len
 sub:=r.sub
 tab:=r.tab
 jq:=r.jq
 base:=r.base
 slot:=λj s e=>by
  by_cases hj:i=j
  ·subst hj;have bS:i<env.length:=by
    have:=(zzH.mp e).1
    simpa using this
   rw [zzo bS] at e;cases e;exact⟨none,zzo (by rw [<-r.len];exact bS),trivial⟩
  ·rw [zzS hj] at e;obtain⟨o,h1,h2⟩:=r.slot j s e
   exact⟨o,by rw [zzS hj];exact h1,h2⟩
 apart:=λa b q q' ad e1 e2 e3 e4=>by
  have ne:∀{c:Nat} {q:PV},(env.set i .no)[c]?=some (.own q)->i≠c:=λ{c q} e z=>by
   subst z;have bS:i<env.length:=by
    have:=(zzH.mp e).1
    simpa using this
   rw [zzo bS] at e;cases e
  have n1:=ne e1
  have n2:=ne e2
  rw [zzS n1] at e1 e3;rw [zzS n2] at e2 e4;exact r.apart a b q q' ad e1 e2 e3 e4
def aA.put{G G':Hp}{a:Addr}{o:HO}(h:aA G G')(ha:G a=none):aA G (upd G' a o):=λb u e=>by
 rw [af (λz=>by subst z;rw [ha] at e;cases e)];exact h b u e
def JE(S:ef Γ F W N sc k E X)(b:Ss)(c:Str)(i j:Nat)(p:Stmt)(h:eP Γ N sc (.vC b c i j) p=true):GS X W F H0 E (.vC b c i j) p:=by
 cases p<;>first|(exact aP h)|skip
 rename_i pb hs o1 o2 pos;replace h:=az h
 simp! [zza,Option.any_eq_true,zzy] at h;obtain⟨⟨⟨z1,z2⟩,hb⟩,⟨x,n,y⟩,hh,⟨⟨⟨⟨⟨⟨⟨⟨e1,e2⟩,e3⟩,e4⟩,e5⟩,e6⟩,e7⟩,e8⟩,e9⟩,e10⟩:=h
 cases List.isEmpty_iff.mp z1;cases List.isEmpty_iff.mp z2;obtain⟨np,yp,n2p,ap,hpos,rfl⟩:=Jc hh
 dsimp only at e1 e2 e3 e4 e5 e6 e7 e8 e9 e10;subst e1;subst e3;have Ig:Γ.cs.contains "FloorError"=true:=e2
 obtain⟨Dc,hm⟩:=S.C.cls _ (zzn.mp Ig)
 have hN:X.N.Nodup:=by rw [S.C.hN];exact S.C.nd
 have hi:X.N[i]?=some n:=by rw [S.C.hN];exact e6
 have hj:X.N[j]?=some y:=by rw [S.C.hN];exact e9
 have L1:X.env.scope.names.lookup n=some .local:=by rw [S.C.ei];exact e7
 have Tr:X.env.scope.names.lookup y=some .local:=by rw [S.C.ei];exact e10
 intro ae s σ H D I hq;obtain⟨G,env,sr,o⟩:=hq
 rw [fH] at o;cases hn:env.any Slot.mZ with
 |true=>rw [if_pos hn] at o;exact o.elim
 |false=>
 rw [if_neg (by rw [hn];exact zzf)] at o
 let E1:XK:=λCv ao H'=>∃d,aE F b env=.exc d/\XE W d G H0 Cv ao H'
 let xe:Value->Shared->Prop:=λe s'=>∃H1 s1,Inv X ae σ H1 s1/\dW X.prog X.w X.stack H1 s1 E1 e s'
 have hP:iH (X.with1 (X.pn++ae) xe) E1 σ:=λjg H1 s1 e s' I1 c=>⟨H1,s1,I1.i9 I.ok,c⟩
 have ob:bT W H0 G E1 (aE F b env) D:=by
  cases r:aE F b env with
  |ok f=>rw [r] at o;exact o
  |exc d=>exact λCv ao H' x=>⟨d,r,x⟩
  |bad=>rw [r] at o;exact o
 refine wpAny_Try_except (wpAny_mono (RU (H0:=H0) (S.C.with1 (X.pn++ae) xe) S.fn hP b pb hb [] s σ H D I.with1 ⟨rfl,G,env,sr,ob⟩) (λf s1 hf=>?_) λe s1 hx=>?_)
 ·cases f with
  |next=>
   obtain⟨σ',H',I',q⟩:=hf
   exact wb ae s1 σ' H' D (I'.i9 I.ok) q
  |brk=>
   obtain⟨σ',H',I',q⟩:=hf
   exact⟨σ',H',I'.i9 I.ok,q⟩
  |cont=>
   obtain⟨σ',H',I',q⟩:=hf
   exact⟨σ',H',I'.i9 I.ok,q⟩
  |ret u=>
   obtain⟨v,σ',H',I',r,q⟩:=hf
   exact⟨v,σ',H',I'.i9 I.ok,r,q⟩
 ·obtain⟨H1,s2,I1,a,C,t,vs,H',B,rfl,Fy⟩:=hx
  have DY:=Fy.zq
  rw [S.Cq] at DY;refine wpAny_looks_onW (by rw [<-S.Cq];exact I1.ok.frames) S.frame DY λh4 NU UQ=>?_
  refine wpAny_landsW NU λh5 IH UT=>?_
  have Sa:=IH
  rw [<-S.Cq] at Sa;have I5:=I1.Bb (tk:=s1.toks) Fy Sa (UQ.trans UT)
  obtain⟨oa,va,ea,ca,da,_⟩:=Sa.first
  obtain⟨d,ed,C',a',G',q1,q2,hdx,hdm,gr⟩:=Fy.ends
  cases q1;cases q2;have hx:PySem.W.exmOne X.K (.ref C) (.ref Dc)=some true:=S.OS Ig d C hdx (by rw [<-S.C.mg];exact hdm) Dc hm
  refine wpAny_handleBy_cons (codeAny_handlers_test (fU (X:=X.marked a (X.pn++ae)) I5.mark (dA S.C e4) hm ?_ (cZ e5).1)) (by intro q;cases q);have LT:PySem.W.Looks (model X.prog X.w) h5 (typeOf (.ref a)) (.ref C):=by
   rw [<-ca];exact(PySem.W.Looks.ld ea).andThen .now
  refine PySem.W.exm_one (K:=X.K) I5.pP LT hx _ _ _ _ (λ_ _ e=>e) ?_;refine codeAny_handlers_suite_as ?_;refine PyProof.Rows.lands_againW IH λh6 Tu WT=>?_
  rw [<-S.Cq] at Tu;have I6:=I1.Bb (tk:=s1.toks) Fy Tu ((UQ.trans UT).trans WT)
  have ha:H' a=none:=Fy.fresh
  have Ts:G' a=none:=gr.sub.free ha
  have zS:H0 a=none:=gr.h.free ha
  have hG:G a=none:=gr.g.free Ts
  have Vg:aC W G H0 (upd G' a (ja a C)) (upd H' a (ja a C)):=⟨aA.put gr.g hG,gr.h.upd zS,(λq u e=>by
   by_cases hq:q=a
   ·subst hq;rw [ak] at e⊢;exact e
   ·rw [af hq] at e⊢;exact gr.sub q u e),(λq w1 w3 w2=>by
   rw [af (λz=>by subst z;exact w1 zS)];exact gr.own q w1 w3 w2),λtt=>(gr.tab tt).same (bz Ts) (λq w1 _ w2=>by
   rw [af (λz=>by subst z;exact w1 ha)];exact w2) (lQ (λps z=>by rw [ha] at z;cases z))⟩
  have rp:Rep W (upd G' a (ja a C)) (.exc d) (.ref a):=by
   simp! [Rep];exact⟨a,C,rfl,hdx,hdm,ak⟩
  have ff:SR W H0 ((env.set j (.val (.exc d))).set i .no) (((σ.set i (some (.ref a))).set j (some (.ref a))).set i none) (upd G' a (ja a C)) (upd H' a (ja a C)):=by
   have z:=(((sr.vals hn Vg).set i rp).set j rp).drop i
   have eq:((env.set i (.val (.exc d))).set j (.val (.exc d))).set i .no=(env.set j (.val (.exc d))).set i .no:=by
    by_cases sE:i=j
    ·subst sE;rw [List.set_set]
    ·rw [List.set_comm _ _ sE,List.set_set]
   rw [eq] at z;exact z
  have fin:D.nx (((σ.set i (some (.ref a))).set j (some (.ref a))).set i none) (upd H' a (ja a C)):=by
   rw [ed] at o;exact o _ _ _ ff Vg
  have LY:i<σ.length:=by rw [I1.len];exact(zzH.mp hi).1
  refine mq (X:=X.marked a (X.pn++ae)) (i:=i) (v:=.ref a) I6.mark hN hi (.inl L1) rfl (λs7 I7=>?_) (.inr L1);have hs:rN (X.marked a (X.pn++ae)) [.Assign [.Name y yp] (.Name n n2p) ap] (CL (zE i) (gf j)):=xx (iN (X:=X.marked a (X.pn++ae)) hN hj (.inl Tr) (eZ hi (.inl L1) (cZ e8).1 (cZ e8).2.1) rfl (.inr Tr))
  refine wpAny_mono (hs [] s7 _ _ {nx:=λσ2 H2=>D.nx (σ2.set i none) H2,rt:=λv H2=>D.rt v H2,bk:=λσ2 H2=>D.bk (σ2.set i none) H2,ct:=λσ2 H2=>D.ct (σ2.set i none) H2} I7 ?hq) (λf s8 hf=>?_) λ_ _ z=>z.elim
  case hq=>exact⟨.ref a,zzo LY,fin⟩
  cases f with
  |next=>
   obtain⟨σ8,H8,I8,q8⟩:=hf
   exact lA (I8.unmark I.ok) hN hi L1 λs9 I9=>⟨_,H8,I9,q8⟩
  |brk=>
   obtain⟨σ8,H8,I8,q8⟩:=hf
   exact lA (I8.unmark I.ok) hN hi L1 λs9 I9=>⟨_,H8,I9,q8⟩
  |cont=>
   obtain⟨σ8,H8,I8,q8⟩:=hf
   exact lA (I8.unmark I.ok) hN hi L1 λs9 I9=>⟨_,H8,I9,q8⟩
  |ret u=>
   obtain⟨v,σ8,H8,I8,r8,q8⟩:=hf
   exact lA (I8.unmark I.ok) hN hi L1 λs9 I9=>⟨v,_,H8,I9,r8,q8⟩
end
section
variable{Γ:Pg}{X:Cx}{W:Wd}{F:aL}{N:List Str}{sc:Scope}{k:Nat}{H0:Hp}{E:XK}
def tD{e:Ci.E}(h:fX e=true):∀env q,aK F e env=.ok q->∃xs,q=.lst xs:=by
 cases e<;>first|(exact aP h)|exact lst_is|exact wF|exact o8
def pN(S:ef Γ F W N sc k E X){i:Nat}{x:Str}{xp pos:Pos}(hx:N[i]?=some x)(EC:ft sc x=true)(e:Ci.E)(p:Expr)(hf:fX e=true)(h:aZ Γ N sc e p=true):PS X (.Assign [.Name x xp] p pos) (Na X W F i e):=by
 cases e with
 |lst as=>
  obtain⟨ps,e,h1⟩:=ai h
  obtain⟨_,rfl⟩:=A9 e
  have h2:=az h1
  have h0:=az h2.1
  exact qm S hx EC (DW h0.1 (zzY h0.2) (kH as S.C _ h2.2)) rfl
 |comp kk ba tg it elt=>
  obtain⟨fh,gens,scope,_,rfl,h1⟩:=Qt h
  obtain⟨⟨cL,gB,ifs,asy⟩,z2,h2⟩:=kU h1
  have h3:=az h2
  have z3:=zM h3.1
  dsimp only at z2 z3;subst z2 z3
  clear h h1 h2
  have h:=az h3.2
  clear h3
  simp! [zza] at h;obtain⟨⟨⟨⟨⟨⟨h1,h2⟩,h3⟩,h4⟩,h5⟩,h6⟩,iF⟩:=h
  have iF:=zzY iF
  subst iF;exact BP S hx EC (jr h1) h2 h3 (B2 it S.C cL gB h4) (je h4 _) h5 λY CY=>(bx elt CY fh h6).ge
 |dc kk ba tg it c elt=>
  obtain⟨fh,gens,scope,_,rfl,h1⟩:=Qt h
  obtain⟨⟨cL,gB,ifs,asy⟩,z2,h2⟩:=kU h1
  obtain⟨pc,z3,h3⟩:=kU h2
  dsimp only at z2 z3;subst z2 z3
  clear h h1 h2
  have h:=az h3
  clear h3
  simp! [zza] at h;obtain⟨⟨⟨⟨⟨⟨⟨⟨h0,h1⟩,h2⟩,h3⟩,h4⟩,h5⟩,h6⟩,h7⟩,iF⟩:=h
  have iF:=zzY iF
  subst iF;exact uI S hx EC (jr h1) h2 h3 (B2 it S.C cL gB h4) (je h4 _) h5 (λY CY=>(bx c CY pc h6).gt h0) λY CY=>(bx elt CY fh h7).ge
 |_=>exact aP hf
def zN{e:Ci.E}{p:Expr}(h:aZ Γ N sc e p=true)(hf:fX e=false):iL p=true:=by
 cases p<;>first|rfl|(cases e<;>first|(exact aP h)|(rename_i q;cases q<;>exact aP h)|(cases hf;done))
def Af(S:ef Γ F W N sc k E X){i:Nat}{x:Str}{e:Ci.E}{p:Expr}{xp pos:Pos}(h:N[i]?=some x)(hl:ft sc x=true)(dy:gA e=true)(hc:aZ Γ N sc e p=true):GS X W F H0 E (.set i e) (.Assign [.Name x xp] p pos):=by
 cases hf:fX e with
 |true=>exact FI S (tD hf) dy (pN S h hl e p hf hc)
 |false=>exact LO S h hl dy (bx e S.C p hc).ge (jc (zN hc hf))
def BM(S:ef Γ F W N sc k E X)(e:Ci.E)(p:Stmt)(h:eP Γ N sc (.expr e) p=true):GS X W F H0 E (.expr e) p:=by
 cases p<;>first|(exact aP h)|skip
 replace h:=az h
 try simp! [zza] at h
 exact He S (bx e S.C _ h.2).ge h.1
def EZ(S:ef Γ F W N sc k E X)(i:Nat)(e:Ci.E)(p:Stmt)(h:eP Γ N sc (.set i e) p=true):GS X W F H0 E (.set i e) p:=by
 cases p<;>first|(exact aP h)|skip
 replace h:=ai h
 simp! [Option.any_eq_true,zza,zzy] at h;obtain⟨x,h0,h1⟩:=h
 obtain⟨xp,rfl⟩:=iO h0
 exact Af S h1.1.1.1 h1.1.1.2 h1.1.2 h1.2
def Hm(S:ef Γ F W N sc k E X)(i:Nat)(e:Ci.E)(p:Stmt)(h:eP Γ N sc (.own i e) p=true):GS X W F H0 E (.own i e) p:=by
 cases p<;>first|(exact aP h)|skip
 replace h:=ai h
 simp! [Option.any_eq_true,zza,zzy] at h;obtain⟨x,h0,h⟩:=h
 obtain⟨xp,rfl⟩:=iO h0
 exact FN S h.1.1.1 (tD h.1.2) (pN S h.1.1.1 h.1.1.2 e _ h.1.2 h.2)
def FV(S:ef Γ F W N sc k E X)(tg:Tg)(e:Ci.E)(p:Stmt)(h:eP Γ N sc (.F8 tg e) p=true):GS X W F H0 E (.F8 tg e) p:=by
 cases p<;>first|(exact aP h)|skip
 replace h:=ai h
 simp! [Option.any_eq_true,zza] at h;obtain⟨t,h0,⟨⟨⟨⟨h1,h2⟩,h3⟩,h4⟩,h5⟩,h6⟩:=h
 cases cU h0;exact JK S h1 h2 h3 h4 h5 (bx e S.C _ h6).ge
def GH(S:ef Γ F W N sc k E X)(i:Nat)(p:Stmt)(h:eP Γ N sc (.bE i) p=true):GS X W F H0 E (.bE i) p:=by
 cases p<;>exact aP h
def Fe(S:ef Γ F W N sc k E X)(i:Nat)(e:Ci.E)(p:Stmt)(h:eP Γ N sc (.app i e) p=true):GS X W F H0 E (.app i e) p:=by
 cases p<;>first|(exact aP h)|skip
 replace h:=ai h
 simp! [Option.any_eq_true,zza,zzy] at h;obtain⟨⟨x,m,args⟩,h0,⟨⟨⟨⟨h1,h2⟩,h3⟩,h4⟩,h5⟩,q,h6,h7⟩:=h
 obtain⟨np,apos,bL,rfl,hl⟩:=vh h0
 cases cU h6;cases h4;exact JZ S h1 h2 h3 hl h5 (bx e S.C q h7).ge (notStar h7)
def BU(S:ef Γ F W N sc k E X)(i:Nat)(e:Ci.E)(p:Stmt)(h:eP Γ N sc (.qZ i e) p=true):GS X W F H0 E (.qZ i e) p:=by
 cases p<;>first|(exact aP h)|skip
 replace h:=ai h
 simp! [Option.any_eq_true,zza,zzy] at h;obtain⟨⟨x,m,args⟩,h0,⟨⟨⟨h1,h2⟩,h3⟩,h4⟩,q,h6,h7⟩:=h
 obtain⟨np,apos,bL,rfl,hl⟩:=vh h0
 cases cU h6;cases h4;exact G9 S h1 h2 h3 hl (bx e S.C q h7).ge (notStar h7)
def E8(S:ef Γ F W N sc k E X)(i:Nat)(kk e:Ci.E)(p:Stmt)(h:eP Γ N sc (.put i kk e) p=true):GS X W F H0 E (.put i kk e) p:=by
 cases p<;>first|(exact aP h)|skip
 replace h:=ai h
 simp! [Option.any_eq_true,zza,zzy] at h;obtain⟨⟨x,pk⟩,h0,⟨⟨⟨⟨h1,h2⟩,h3⟩,h5⟩,h6⟩,h7⟩:=h
 obtain⟨np,sp,rfl⟩:=As h0
 exact MH S h1 h2 h3 h5 h6 (bx kk S.C pk h6).ge (bx e S.C _ h7).ge
def B7(S:ef Γ F W N sc k E X)(i:Nat)(p:Stmt)(h:eP Γ N sc (.j5 i) p=true):GS X W F H0 E (.j5 i) p:=by
 cases p<;>first|(exact aP h)|skip
 rename_i ts v pos;cases v<;>first|(exact aP h)|skip
 rename_i ks vs dp;cases ks<;>first|(exact aP h)|skip
 cases vs<;>first|(exact aP h)|skip
 replace h:=ai h
 simp! [Option.any_eq_true,zza,zzy] at h;obtain⟨x,h0,h1,h2⟩:=h
 obtain⟨yp,rfl⟩:=iO h0
 exact Hv S h1 h2
def AD(S:ef Γ F W N sc k E X)(i:Nat)(e:Ci.E)(p:Stmt)(h:eP Γ N sc (.mM i e) p=true):GS X W F H0 E (.mM i e) p:=by
 cases p<;>first|(exact aP h)|skip
 obtain⟨x,h0,h1⟩:=ai h
 obtain⟨g,as,_,_,rfl,h2⟩:=Az h1
 obtain⟨q,rfl,h3⟩:=kU h2
 obtain⟨yp,rfl⟩:=iO h0
 simp! [zza,zzy] at h3;obtain⟨⟨⟨⟨⟨rfl,h4⟩,h5⟩,h6⟩,h7⟩,h8⟩:=h3
 exact Ha S h6 h7 h4 h5 (bx e S.C q h8).ge (notStar h8)
def vD(S:ef Γ F W N sc k E X)(i j n:Nat)(p:Stmt)(h:eP Γ N sc (.eO i j n) p=true):GS X W F H0 E (.eO i j n) p:=by
 cases p<;>first|(exact aP h)|skip
 replace h:=ai h
 simp! [Option.any_eq_true,zza,zzy] at h;obtain⟨⟨x,pk⟩,h0,z,hz,⟨⟨⟨⟨⟨h1,h2⟩,h3⟩,h4⟩,h5⟩,h6⟩,⟨y,m,args⟩,h7,h8,e,he,z2,hz2,⟨⟨h9,h10⟩,h11⟩,h12⟩:=h
 obtain⟨np,sp,rfl⟩:=As h0
 obtain⟨zp,rfl⟩:=cu hz
 obtain⟨yp,apos,bL,rfl,hl⟩:=vh h7
 cases h8;cases cU he;obtain⟨Tt,rfl⟩:=cu hz2
 subst h9;exact zu S h1 h2 h3 h4 h5 h6 h10 h11 h12 hl
def B3(S:ef Γ F W N sc k E X)(m i:Nat)(p:Stmt)(h:eP Γ N sc (.md m i) p=true):GS X W F H0 E (.md m i) p:=by
 cases p<;>first|(exact aP h)|skip
 replace h:=ai h
 simp! [Option.any_eq_true,zza,zzy] at h;obtain⟨y,hy,c,hc,⟨⟨⟨⟨⟨⟨h1,h2⟩,h3⟩,h4⟩,h5⟩,h6⟩,h7⟩,h8⟩:=h
 obtain⟨yp,rfl⟩:=iO hy
 obtain⟨q1,q2,q3,q4,q5,rfl⟩:=JV hc
 exact Fh S h1 h2 h3 h4 h5 h6 h7 h8
def Hi(S:ef Γ F W N sc k E X)(e:Ci.E)(p:Stmt)(h:eP Γ N sc (.ret e) p=true):GS X W F H0 E (.ret e) p:=by
 cases p<;>first|(exact aP h)|skip
 rename_i v pos;cases v with
 |none=>exact aP h
 |some v=>
  replace h:=az h
  try simp! [zza] at h
  exact MA S h.1 (bx e S.C v h.2).ge
def zP(S:ef Γ F W N sc k E X)(c m:Str)(p:Stmt)(h:eP Γ N sc (.raise c m) p=true):GS X W F H0 E (.raise c m) p:=by
 cases p<;>first|(exact aP h)|skip
 replace h:=az h
 simp! [Option.any_eq_true,zza,zzy] at h;obtain⟨hn,⟨x,z⟩,h0,⟨⟨⟨h1,h2⟩,h3⟩,h4⟩,h5⟩:=h
 obtain⟨np,j,zp,cp,rfl⟩:=Jb h0
 cases h1;cases h2;rename_i fr pos;cases Option.isNone_iff_eq_none.mp hn;exact BZ S h3 h4 h5
def GL(S:ef Γ F W N sc k E X)(p:Stmt)(h:eP Γ N sc (.brk) p=true):GS X W F H0 E (.brk) p:=by
 cases p<;>first|(exact aP h)|skip
 exact MG
def Hg{c:Ci.E}{a b:Ss}{p:Stmt}(h:eP Γ N sc (.ite c a b) p=true):∃q pa pb pos,p=.If q pa pb pos/\fQ c=true/\aZ Γ N sc c q=true/\dB Γ N sc a pa=true/\dB Γ N sc b pb=true:=by
 cases p<;>first|(exact aP h)|skip
 replace h:=az h
 try simp! [zza] at h
 exact⟨_,_,_,_,rfl,h.1.1.1,h.1.1.2,h.1.2,h.2⟩
def FQ{tg:Tg}{it:I}{b:Ss}{p:Stmt}(h:eP Γ N sc (.cQ tg it b) p=true):∃cL gB pb pos,p=.For cL gB pb [] pos/\gh N sc (λ_=>true) tg cL=true/\EE it=true/\yX Γ N sc cL it gB=true/\dB Γ N sc b pb=true:=by
 cases p<;>first|(exact aP h)|skip
 replace h:=az h
 try simp! [zza] at h
 cases List.isEmpty_iff.mp h.1.1.1.1;exact⟨_,_,_,_,rfl,h.1.1.1.2,h.1.1.2,h.1.2,h.2⟩
def Fi{c:Ci.E}{b:Ss}{p:Stmt}(h:eP Γ N sc (.xD c b) p=true):∃q pb pos,p=.While q pb [] pos/\fQ c=true/\aZ Γ N sc c q=true/\dB Γ N sc b pb=true:=by
 cases p<;>first|(exact aP h)|skip
 replace h:=az h
 try simp! [zza] at h
 cases List.isEmpty_iff.mp h.1.1.1;exact⟨_,_,_,rfl,h.1.1.2,h.1.2,h.2⟩
def Gw{ps:List Stmt}(h:dB Γ N sc .nil ps=true):ps=[]:=by
 cases ps with
 |nil=>rfl
 |cons _ _=>exact aP h
def Bx{s:Ci.S}{ss:Ss}{ps:List Stmt}(h:dB Γ N sc (.cons s ss) ps=true):(∃i,s=.bE i/\dB Γ N sc ss ps=true)\/∃q qs,ps=q::qs/\eP Γ N sc s q=true/\dB Γ N sc ss qs=true:=by
 by_cases hz:∃i,s=.bE i
 ·obtain⟨i,rfl⟩:=hz
  exact .inl ⟨i,rfl,h⟩
 ·cases ps with
  |nil=>cases s<;>first|(exact absurd ⟨_,rfl⟩ hz)|(exact aP h)
  |cons p ps=>
   have h2:(eP Γ N sc s p&&dB Γ N sc ss ps)=true:=by
    cases s<;>first|(exact absurd ⟨_,rfl⟩ hz)|(exact h)
   rw [zza] at h2;exact .inr ⟨p,ps,rfl,h2.1,h2.2⟩
mutual
theorem Rh(S:ef Γ F W N sc k E X):∀(s:Ci.S) (p:Stmt),eP Γ N sc s p=true->GS X W F H0 E s p
 |.expr e,p,h=>BM S e p h
 |.set i e,p,h=>EZ S i e p h
 |.own i e,p,h=>Hm S i e p h
 |.F8 tg e,p,h=>FV S tg e p h
 |.bE i,p,h=>GH S i p h
 |.app i e,p,h=>Fe S i e p h
 |.qZ i e,p,h=>BU S i e p h
 |.put i kk e,p,h=>E8 S i kk e p h
 |.mM i e,p,h=>AD S i e p h
 |.j5 i,p,h=>B7 S i p h
 |.eO i j n,p,h=>vD S i j n p h
 |.md m i,p,h=>B3 S m i p h
 |.ret e,p,h=>Hi S e p h
 |.ite c a b,p,h=>by
  obtain⟨q,pa,pb,pos,rfl,h1,h2,h3,h4⟩:=Hg h
  exact Kv S ((bx c S.C _ h2).gt h1) (nD S a _ h3) (nD S b _ h4)
 |.cQ tg it b,p,h=>by
  obtain⟨cL,gB,pb,pos,rfl,h1,h2,h3,h4⟩:=FQ h
  exact JO S h1 h2 (B2 it S.C cL gB h3) (je h3 _) (nD S b _ h4)
 |.xD c b,p,h=>by
  obtain⟨q,pb,pos,rfl,h1,h2,h3⟩:=Fi h
  exact Lm S ((bx c S.C _ h2).gt h1) (nD S b _ h3)
 |.raise c m,p,h=>zP S c m p h
 |.vC b c i j,p,h=>JE S b c i j p h
 |.brk,p,h=>GL S p h
theorem nD(S:ef Γ F W N sc k E X):∀(ss:Ss) (ps:List Stmt),dB Γ N sc ss ps=true->DZ X W F H0 E ss ps
 |.nil,ps,h=>by
  cases Gw h;exact Ht
 |.cons s ss,ps,h=>by
  rcases Bx h with⟨i,e,h2⟩|⟨q,qs,e,h1,h2⟩
  ·have:=F1 (i:=i) (nD S ss ps h2)
   rw [<-e] at this;exact this
  ·rw [e];exact Cu (Rh S s q h1) (nD S ss qs h2)
end
end
end Ci
namespace L2
open PySem PySem.Spec PyProof.Rows
def gK{K:zz8}{C c:Addr}{b:Bool}(h1:PySem.W.isClsIn K c=true)(h2:PySem.W.typeIn K (.ref c)=some (.type "type"))(h3:PySem.W.subIn K (.ref C) (.ref c)=some b)(h4:b=true\/(C==c)=false):PySem.W.kitOne K (.ref C) (.ref c)=some b:=by
 have k:PySem.W.kitCls K (.ref C) (.ref c)=some b:=by
  show(if((PySem.W.clsIn K c).isSome&&PySem.W.typeIn K (.ref c)==some (.type "type"))=true then PySem.W.subIn K (.ref C) (.ref c) else none)=some b
  rw [show(PySem.W.clsIn K c).isSome=true from h1,h2,h3]
  rfl
 unfold PySem.W.kitOne;split
 ·rename_i e;rcases h4 with rfl|h4
  ·rfl
  ·have e2:C=c:=Value.ref.inj (zzy.mp e)
   rw [e2,beq_self_eq_true] at h4;cases h4
 ·exact k
def Dq{K:zz8}{C:Addr}{T:String}{b:Bool}(h1:PySem.W.kitMeta T=true)(h3:PySem.W.subIn K (.ref C) (.type T)=some b):PySem.W.kitOne K (.ref C) (.type T)=some b:=by
 unfold PySem.W.kitOne;split
 ·rename_i e;cases zzy.mp e
 ·show(if PySem.W.kitMeta T=true then PySem.W.subIn K (.ref C) (.type T) else none)=some b
  rw [if_pos h1];exact h3
def Au{K:zz8}{C c:Addr}{b:Bool}(h0:PySem.W.subIn K (.ref c) (.type "BaseException")=some true)(h1:PySem.W.isClsIn K c=true)(h2:PySem.W.typeIn K (.ref c)=some (.type "type"))(h3:PySem.W.subIn K (.ref C) (.ref c)=some b):PySem.W.exmOne K (.ref C) (.ref c)=some b:=by
 unfold PySem.W.exmOne;rw [h0];show PySem.W.kitCls K (.ref C) (.ref c)=some b
 show(if((PySem.W.clsIn K c).isSome&&PySem.W.typeIn K (.ref c)==some (.type "type"))=true then PySem.W.subIn K (.ref C) (.ref c) else none)=some b
 rw [show(PySem.W.clsIn K c).isSome=true from h1,h2,h3]
 rfl
def JB{K:zz8}{h:Heap}{mg:Str->Option Value}{x:Str}{C:Addr}{TN:List Value}{newId:String}(X:K.In h)(hm:mg x=some (.ref C))(q:PySem.W.excIn K C TN newId=true):OwnCls x C TN newId mg h:=by
 constructor
 ·exact hm
 ·unfold PySem.W.excIn at q;split at q
  ·rename_i dd cd sl ho;split at q
   ·rename_i C1 bm1 k0 k1 k2 k3 n1 k5 MC HG;simp! [zza,zzy,Bool.not_eq_true'] at q;obtain⟨⟨⟨⟨⟨q1,q2⟩,q3⟩,q4⟩,q5⟩,q6⟩:=q
    subst q1 q2;obtain⟨nm,bs,mro,ns,qn,hd,sn,sub,ab,col,del⟩:=cd
    have NR:mro=.ref C1::bm1:=MC
    have hd2:del=false:=q3
    have Ui:PySem.W.nsOkIn K ns=true:=q5
    have Vu:PySem.W.nsIn K ns "__init__"=some none:=q6
    subst NR hd2;obtain⟨ls⟩:=sl
    have xb:ls=[k0,k1,k2,k3,some (.builtin n1),k5]:=HG
    subst xb;exact⟨bm1,ns,nm,qn,bs,hd,sn,sub,ab,col,dd,k0,k1,k2,k3,k5,_,X _ _ ho,.of_isNs (PySem.W.isNs_of_in X Ui),PySem.W.nsMap_none_of_in X Ui Vu,PySem.W.tail_of_in X q4⟩
   ·cases q
  ·cases q
end L2
namespace Ci
open PySem L2
abbrev BD:List Value:=[.type "ValueError",.type "Exception",.type "BaseException",.type "object"]
structure uR(K:zz8)(mg:Str->Option Value)(Γ:Pg)(W:Wd):Prop where
 hK:W.K=K
 hm:W.mg=mg
 gs:∀q∈Γ.gs,∃u v,mg q.1=some u/\RelV v u/\∀G,Rep W G q.2 v
 bs:∀g∈Γ.bs,mg g=none
 M8:Γ.cs.contains "ValueError"=false
 cls:∀c∈Γ.cs,∃C,mg c=some (.ref C)
 xc:∀d∈W.xs,∀D,mg d=some (.ref D)->ng K D/\(∀c∈Γ.cs,∀C,mg c=some (.ref C)->PySem.W.kitOne K (.ref D) (.ref C)=some (c==d||c=="FloorError"))/\PySem.W.kitOne K (.ref D) (.type "ValueError")=some true
 xs:∀c,Γ.rs.contains c=true->c∈W.xs
 rm:∀c,Γ.rs.contains c=true->∃C,mg c=some (.ref C)/\PySem.W.excIn K C BD "ValueError.__new__"=true
 OS:Γ.cs.contains "FloorError"=true->∀c D,c∈W.xs->mg c=some (.ref D)->∀T,mg "FloorError"=some (.ref T)->PySem.W.exmOne K (.ref D) (.ref T)=some true
 bm:W.ts≠[]->∃bm o,mg "__builtins__"=some (.ref bm)/\bm≠builtinsNs/\bm≠mainGlobals/\K.lookup bm=some o/\o.cls=.type "module"/\o.dict=some builtinsNs/\o.data=.plain
structure Row where
 f:Str
 h:Str
 d:Def
 st:Stmt
 hl:Bool:=false
abbrev d5:Type:=List Row
def nN(l:d5):List Str:=l.filterMap λr=>if r.d.iU.isNone then some r.f else none
def yB(l:d5):List Hs:=l.filterMap λr=>r.d.iU.map λq=>⟨r.f,r.h,q.1,q.2,r.d.np⟩
def tab(l:d5):List (Str×Def):=l.map λq=>(q.f,q.d)
noncomputable def Pg.at(Γ:Pg)(l:d5)(hl:Bool):Pg:={Γ with fs:=nN l,hs:=yB l,hl:=hl}
structure cD(Γ:Pg)(n:Str)(d:Def)(st:Stmt):Prop where
 sc:lP d.N (d.N.take d.np) (aY st)
 np:d.np<=d.N.length
 bind:∀(kV doc pm:Value) (an:Option Addr) (gb ct:Value) (us:List Value),us.length=(d.N.take d.np).length->bindArgs (PySem.W.fnOf n n (dv st) (cV st) (aY st) .none kV doc pm an gb ct) ⟨us,[]⟩=pure ((d.N.take d.np).zip us)
 Wg:dB Γ d.N (aY st) d.body (cV st)=true
theorem stM{Γ:Pg}{n:Str}{d:Def}{st:Stmt}(b:∀(kV doc pm:Value) (an:Option Addr) (gb ct:Value) (us:List Value),us.length=(d.N.take d.np).length->bindArgs (PySem.W.fnOf n n (dv st) (cV st) (aY st) .none kV doc pm an gb ct) ⟨us,[]⟩=pure ((d.N.take d.np).zip us))
 (a1:(aY st).kind=.function:=by rfl) (a2:(aY st).isCoroutine=false:=by rfl) (a3:(aY st).isGenerator=false:=by rfl) (a4:d.N.Nodup:=by decide+kernel) (a5:d.N.take (d.N.take d.np).length=d.N.take d.np:=by rfl)
 (a6:∀x∈d.N.take d.np,(aY st).names.lookup x=some .local\/(aY st).names.lookup x=some .cell:=by decide+kernel) (a7:∀y∈(aY st).names,y.2≠.free:=by decide+kernel) (a8:d.np<=d.N.length:=by decide+kernel) (a9:dB Γ d.N (aY st) d.body (cV st)=true:=by decide+kernel):cD Γ n d st:=⟨⟨a1,a2,a3,a4,a5,a6,a7⟩,a8,b,a9⟩
def f9(K:zz8)(c P:Addr):Prop:=∃o vs file tf flags tg Rj text tt,K.lookup c=some o/\o.cls=.type "code"/\o.data=.fields vs/\vs[11]?=some (.ref P)/\vs.getD 11 .none=.ref P/\vs.getD 18 .none=.str file tf/\
 vs.getD 7 .none=.int flags tg/\vs.getD 9 .none=.bool Rj/\vs.getD 10 .none=.int text tt/\c≠P
def mF(n:Str):Str:=(n++".<locals>.")++"<lambda>"
def zX(K:zz8)(ts:List (Addr×Str))(hl:Bool)(n:Str)(st:Stmt):Prop:=∃(f:Addr) (oc:Value) (od:Option Addr) (kV doc pm:Value) (an:Option Addr) (gb ct:Value) (vo:Array (Option Value)),
 PySem.W.nsIn K mainGlobals n=some (some (.ref f))/\K.lookup f=some ⟨oc,od,.func (PySem.W.fnOf n n (dv st) (cV st) (aY st) .none kV doc pm an gb ct),vo⟩/\PySem.W.codeIn K gb n=true/\PySem.W.keepIn K (.ref f)=true/\
 (hl=true->∃c P,gb=.ref c/\f9 K c P/\(P,mF n)∈ts/\∀q',(P,q')∈ts->q'=mF n)
def RS{K:zz8}{ts:List (Addr×Str)}{n:Str}{st:Stmt}{f:Addr}{oc:Value}{od:Option Addr}{kV doc pm:Value}{an:Option Addr}{gb ct:Value}{vo:Array (Option Value)}(a:PySem.W.nsIn K mainGlobals n=some (some (.ref f)))
 (l:K.lookup f=some ⟨oc,od,.func (PySem.W.fnOf n n (dv st) (cV st) (aY st) .none kV doc pm an gb ct),vo⟩) (c:PySem.W.codeIn K gb n=true) (k:PySem.W.keepIn K (.ref f)=true):zX K ts false n st:=⟨f,oc,od,kV,doc,pm,an,gb,ct,vo,a,l,c,k,(λz=>nomatch z)⟩
structure qb(P:Program)(w:World)(K:zz8)(mg:Str->Option Value)(base:Heap)(W:Wd)(F:aL)(k:Nat)(f:Str):Prop where
 ex:∃fa fd ps,gW P w K mg base (dW P w) k fa fd ps (Aq W F f ps.length none)/\mg f=some (.ref fa)/\PySem.W.keepIn K (.ref fa)=true/\Binds K fd ps []/\∀as,F f as≠.bad->as.length=ps.length
structure Ld(P:Program)(w:World)(K:zz8)(mg:Str->Option Value)(base:Heap)(W:Wd)(F:aL)(k:Nat)(q:Hs):Prop where
 ex:∃fa fd ps,gW P w K mg base (dW P w) k fa fd ps (Aq W F q.f ps.length (some (q.g,q.idx)))/\mg q.h=some (.ref fa)/\PySem.W.keepIn K (.ref fa)=true/\Binds K fd ps []/\ps.length=q.np
section
variable{P:Program}{w:World}{K:zz8}{mg:Str->Option Value}{base:Heap}{Γ:Pg}{W:Wd}
def yk{c p:Addr}(KB:K.In base)(h:f9 K c p):PySem.W.CodeHd base c p:=by
 obtain⟨o,vs,file,tf,flags,tg,Rj,text,tt,e,r⟩:=h
 exact⟨o,vs,file,tf,flags,tg,Rj,text,tt,KB _ _ e,r⟩
theorem IP(M:uR K mg Γ W)(KB:K.In base){F:aL}{k:Nat}{N ps:List Str}{qual:Str}{sc:Scope}(S:lP N ps sc)(hF:∀f,Γ.fs.contains f=true->qb P w K mg base W F k f)(hH:∀q∈Γ.hs,Ld P w K mg base W F k q)(hA:∀g as,F g as≠.bad->Γ.fs.contains g=true\/gU g=true){f:Addr}{cd:Value}
 (hL:Γ.hl=true->∃c p,cd=.ref c/\f9 K c p/\(p,mF qual)∈W.ts/\∀q',(p,q')∈W.ts->q'=mF qual) {A:Around} {outer:List Env} {s:Shared} {H:Hp} {E:XK} (hr:dP (k+1) (A.deeper (PyProof.Rows.envOfC qual sc (zz9 s) f cd))):
 ef Γ F W N sc k E (dQ (dW P w) P w K mg base N qual sc f cd A outer s H E) where
 C:=⟨rfl,rfl,rfl,S.nd,M.hK,M.hm,M.gs,M.bs,hr,λg hg=>⟨(hF g hg).ex⟩,M.M8,M.cls,M.xc,λq hq=>⟨(hH q hq).ex⟩,hA,λz=>by
  obtain⟨c,p,e1,e2,e3,e4⟩:=hL z
  exact⟨c,p,e1,yk KB e2,e3,e4⟩,λz=>by
  obtain⟨c,p,e1,e2,e3,e4⟩:=hL z
  obtain⟨bm,o,b1,b2,b3,b4,b5⟩:=M.bm (λy=>by rw [y] at e3;cases e3)
  exact⟨bm,o,b1,b2,b3,KB _ _ b4,b5⟩,λ_ _=>rfl⟩
 fn:=λ_=>rfl
 own:=PassesOwn.leaving
 pass:=Px
 kind:=S.kind
 Cq:=rfl
 frame:=rfl
 xs:=M.xs
 rm:=λc hc=>let⟨C,h,_⟩:=M.rm c hc;⟨C,h⟩
 rz:=λc z j np zp cp pos h1 h2 h3=>by
  obtain⟨C,hC,hx⟩:=M.rm c h1
  have hg:Gl (dQ (dW P w) P w K mg base N qual sc f cd A outer s H E) c:=zzy.mp h2
  refine L2.PS.imp (Dh hg (JB KB hC hx) PySem.F.excBase_ValueError (bM DM dq) rfl rfl (cZ h3).1) λD σ H1 h=>⟨(show 1<=sizeLine by decide),λe he=>h C e hC he⟩
 OS:=M.OS
def sV{H G:Hp}{N:List Str}{as:List PV}{vs:List V}(sg:aA G H)(tb:cN W G H)(l:aq W G as vs)(hn:as.length<=N.length):SR W H (as.map .val++List.replicate (N.length-as.length) .no) (start N vs) G H:=by
 have hl:=l.length
 unfold L2.start;refine⟨by simp;omega,sg,ib.refl _,λi s e=>?_,λi j p q a e1 _ _ _=>?_,tb,tb⟩
 ·by_cases hi:i<as.length
  ·rw [zzr (by simpa using hi),zzQ] at e;obtain⟨p,hp,rfl⟩:=zzJ.mp e
   obtain⟨v,hv,rv⟩:=l.nZ hp
   exact⟨some v,by rw [zzr (by simpa using (show i<vs.length by omega)),zzQ,hv];rfl,v,rfl,rv⟩
  ·rw [zzs (by simpa using hi),List.getElem?_replicate] at e;split at e
   ·rename_i h2;cases e;rw [zzl] at h2;exact⟨none,by rw [zzs (by simp;omega),List.getElem?_replicate,if_pos (by rw [zzl];omega)],trivial⟩
   ·cases e
 ·exfalso
  by_cases hi:i<as.length
  ·rw [zzr (by simpa using hi),zzQ] at e1;obtain⟨p,hp,e⟩:=zzJ.mp e1
   cases e
  ·rw [zzs (by simpa using hi),List.getElem?_replicate] at e1;split at e1<;>cases e1
def SR.Py{H0 G H:Hp}{env:Sl}{σ:St}{g:Str}{idx:List Nat}{c7:List PV}{v:V}(i:Nat)(r:SR W H0 env σ G H)(h:p7 W G g idx c7 v):SR W H0 (env.set i (.fn g idx c7)) (σ.set i (some v)) G H where
 len:=by simpa using r.len
 sub:=r.sub
 base:=r.base
 tab:=r.tab
 jq:=r.jq
 slot:=λj s e=>by
  by_cases hj:i=j
  ·subst hj;have bS:i<env.length:=by
    have:=(zzH.mp e).1
    simpa using this
   rw [zzo bS] at e;cases e;exact⟨some v,zzo (by rw [<-r.len];exact bS),v,rfl,h⟩
  ·rw [zzS hj] at e;obtain⟨o,h1,h2⟩:=r.slot j s e
   exact⟨o,by rw [zzS hj];exact h1,h2⟩
 apart:=λa b q q' ad e1 e2 e3 e4=>by
  have ne:∀{c:Nat} {q:PV},(env.set i (.fn g idx c7))[c]?=some (.own q)->i≠c:=λ{c q} e z=>by
   subst z;have bS:i<env.length:=by
    have:=(zzH.mp e).1
    simpa using this
   rw [zzo bS] at e;cases e
  have n1:=ne e1
  have n2:=ne e2
  rw [zzS n1] at e1 e3;rw [zzS n2] at e2 e4;exact r.apart a b q q' ad e1 e2 e3 e4
def w6{α:Type}{l r:List α}{a b:α}:(l++a::r).set l.length b=l++b::r:=by
 rw [List.set_append_right _ _ (zzE _),Nat.sub_self];rfl
def y8{d:Def}{H G:Hp}{as:List PV}{vs:List V}(SU:d.np<=d.N.length)(sg:aA G H)(tb:cN W G H)(l:B9 W G d.iU as vs)(hv:vs.length=d.np):cA d as=true/\SR W H (cx d as) (start d.N vs) G H:=by
 unfold cA cx;cases hc:d.iU with
 |none=>
  rw [hc] at l;have l:aq W G as vs:=l
  exact⟨by rw [<-l.length,hv];simp,sV sg tb l (by rw [<-l.length,hv];exact SU)⟩
 |some q=>
  rw [hc] at l;obtain⟨uH,c7,xE,v,rfl,rfl,l1,cr⟩:=l
  have N2:=l1.length
  have hn:xE.length=d.np-1/\0<d.np:=by rw [zzM] at hv;simp at hv;omega
  have ha:uH.length=d.np-1:=by omega
  refine⟨by simp;omega,?_⟩;have h0:=sV (N:=d.N) sg tb l1 (by omega)
  have h1:=h0.Py uH.length cr
  have e1:(uH.map Slot.val++List.replicate (d.N.length-uH.length) Slot.no).set uH.length (.fn q.1 q.2 c7)=((uH++c7).take (d.np-1)).map .val++.fn q.1 q.2 ((uH++c7).drop (d.np-1))::List.replicate (d.N.length-d.np) Slot.no:=by
   rw [<-ha,List.take_left',List.drop_left',show d.N.length-uH.length=(d.N.length-d.np)+1 by omega,List.replicate_succ]
   ·have:=w6 (l:=uH.map Slot.val) (r:=List.replicate (d.N.length-d.np) Slot.no) (a:=Slot.no) (b:=.fn q.1 q.2 c7)
    rw [zzl] at this;exact this
   ·rfl
   ·rfl
  have e2:(start d.N xE).set uH.length (some v)=start d.N (xE++[v]):=by
   unfold L2.start;rw [zzM,List.length_singleton,show d.N.length-xE.length=(d.N.length-(xE.length+1))+1 by omega,List.replicate_succ,<-N2];have:=w6 (l:=xE.map some) (r:=List.replicate (d.N.length-(xE.length+1)) none) (a:=none) (b:=some v)
   rw [zzl] at this;rw [this];simp
  rw [e1,e2] at h1;exact h1
def HL(M:uR K mg Γ W)(KB:K.In base){F:aL}{k:Nat}{n nf:Str}{d:Def}{st:Stmt}{fa:Addr}{fd:FuncData}(St:cD Γ n d st)(Fu:P4 K n n st fa fd)(hF:∀f,Γ.fs.contains f=true->qb P w K mg base W F k f)(hH:∀q∈Γ.hs,Ld P w K mg base W F k q)(hA:∀g as,F g as≠.bad->Γ.fs.contains g=true\/gU g=true)
 (hL:Γ.hl=true->∃c p,fd.code=.ref c/\f9 K c p/\(p,mF n)∈W.ts/\∀q',(p,q')∈W.ts->q'=mF n):
 gW P w K mg base (dW P w) (k+2) fa fd (d.N.take d.np) (Aq W (λ_ as=>ax F d as) nf (d.N.take d.np).length d.iU):=by
 have hlen:(d.N.take d.np).length=d.np:=by rw [List.length_take];have:=St.np;omega
 obtain⟨oc,od,kV,doc,pm,an,gb,ct,vo,rfl,lk,nq⟩:=Fu.ex
 refine Oq lk nq St.sc (λvs H Q E h=>h.1) λA outer s H vs Q E hr h=>?_
 obtain⟨hl,G,as,sg,tb,l,o⟩:=h
 rw [hlen] at hl;obtain⟨ar,sr⟩:=y8 St.np sg tb l hl
 refine⟨S1 W F H E d.body,nD (IP M KB St.sc hF hH hA hL hr) d.body _ St.Wg,G,cx d as,sr,?_⟩;dsimp only at o;unfold ax at o;rw [if_pos ar] at o;cases r:aE F d.body (cx d as) with
 |bad=>rw [r] at o;exact o
 |exc c=>rw [r] at o;exact o
 |ok fl=>
  rw [r] at o;cases fl with
  |nx env=>exact λσ' G' H' sr g=>o .aD G' H' g .n
  |rt p=>exact λv G' H' rv g=>o v G' H' g rv
  |bk env=>exact o.elim
  |ct env=>exact o.elim
def AllK(K:zz8)(ts:List (Addr×Str))(Γ:Pg):d5->Prop
 |[]=>True
 |r::l=>zX K ts r.hl r.h r.st/\cD (Γ.at l r.hl) r.h r.d r.st/\((l.map (·.f)).contains r.f=false/\(r.d.iU.isNone==!gU r.f)=true/\(r.d.iU.isNone=true->r.f=r.h))/\AllK K ts Γ l
def wG(M:uR K mg Γ W)(l:d5)(hl:Bool):uR K mg (Γ.at l hl) W:=⟨M.hK,M.hm,M.gs,M.bs,M.M8,M.cls,M.xc,M.xs,M.rm,M.OS,M.bm⟩
def qb.mono{F:aL}{j k:Nat}{f:Str}(h:qb P w K mg base W F j f)(hk:j<=k):qb P w K mg base W F k f:=by
 obtain⟨fa,fd,ps,h1,h2⟩:=h.ex
 exact⟨fa,fd,ps,h1.mono hk,h2⟩
def l0{F F':aL}{f f':Str}{n:Nat}{q:Option (Str×List Nat)}(e:∀as,F' f' as=F f as):Aq W F' f' n q=Aq W F f n q:=by
 funext vs H Q E
 unfold Aq;simp! [e]
def qb.swap{F F':aL}{k:Nat}{f:Str}(h:qb P w K mg base W F k f)(e:∀as,F' f as=F f as):qb P w K mg base W F' k f:=by
 obtain⟨fa,fd,ps,h1,h2,h3,h4,h5⟩:=h.ex
 refine⟨fa,fd,ps,?_,h2,h3,h4,λas hn=>h5 as (by rw [<-e];exact hn)⟩
 rw [l0 e];exact h1
def Ld.swap{F F':aL}{j k:Nat}{q:Hs}(h:Ld P w K mg base W F j q)(hk:j<=k)(e:∀as,F' q.f as=F q.f as):Ld P w K mg base W F' k q:=by
 obtain⟨fa,fd,ps,h1,h2,h3,h4,h5⟩:=h.ex
 refine⟨fa,fd,ps,?_,h2,h3,h4,h5⟩;rw [l0 e];exact h1.mono hk
def mf{r:Row}{l:d5}{g:Str}(h:(g==r.f)=false)(as:List PV):den (tab (r::l)) g as=den (tab l) g as:=by
 show(if(g==r.f)=true then _ else _)=_
 rw [h]
 rfl
def sj{r:Row}{l:d5}(as:List PV):den (tab (r::l)) r.f as=ax (den (tab l)) r.d as:=by
 show(if(r.f==r.f)=true then _ else _)=_
 rw [beq_self_eq_true]
 rfl
theorem qr:∀(l:d5) {ts:List (Addr×Str)},AllK K ts Γ l->∀g as,den (tab l) g as≠.bad->(nN l).contains g=true\/gU g=true
 |[],_,_,g,as,h=>absurd rfl h
 |r::l,ts,⟨_,_,⟨_,hn,_⟩,hr⟩,g,as,h=>by
  by_cases e:(g==r.f)=true
  ·have e2:=zzy.mp e
   subst e2;cases hc:r.d.iU with
   |none=>
    left
    unfold nN;rw [List.filterMap_cons,hc];simp
   |some q=>
    right
    rw [hc] at hn
    simpa using hn
  ·rw [mf (by simpa using e)] at h;rcases qr l hr g as h with z|z
   ·left
    unfold nN at z⊢;rw [List.filterMap_cons];split
    ·exact z
    ·rw [List.contains_cons,z,Bool.or_true]
   ·exact .inr z
theorem Cr(M:uR K mg Γ W)(KB:K.In base)(G:base.Ns mainGlobals mg):∀(l:d5),AllK K W.ts Γ l->(∀f,(nN l).contains f=true->qb P w K mg base W (den (tab l)) (2*l.length) f)/\∀q∈yB l,Ld P w K mg base W (den (tab l)) (2*l.length) q
 |[],_=>⟨λf hf=>by simp [nN] at hf,λq hq=>by simp [yB] at hq⟩
 |r::l,hall=>by
  obtain⟨he,hs,⟨hfr,hnm,hfh⟩,hr⟩:=hall
  obtain⟨ih,ihH⟩:=Cr M KB G l hr
  obtain⟨fa,oc,od,kV,doc,pm,an,gb,ct,vo,e1,e2,e3,e4,e5⟩:=he
  have Fu:=AX (st:=r.st) e2 e3 e4
  have ok:=HL (P:=P) (w:=w) (nf:=r.f) (wG M l r.hl) KB (k:=2*l.length) hs Fu (λg hg=>ih g hg) (λq hq=>ihH q hq) (qr l hr) e5
  have F7:∀g,(l.map (·.f)).contains g=true->(g==r.f)=false:=λg hg=>by
   cases z:g==r.f with
   |false=>rfl
   |true=>rw [zzy.mp z,hfr] at hg;cases hg
  have sp:Aq W (λ_ as=>ax (den (tab l)) r.d as) r.f (r.d.N.take r.d.np).length r.d.iU=Aq W (den (tab (r::l))) r.f (r.d.N.take r.d.np).length r.d.iU:=l0 λas=>(sj as).symm
  rw [sp] at ok;have hlen:(r.d.N.take r.d.np).length=r.d.np:=by rw [List.length_take];have:=hs.np;omega
  have ml:∀f,(nN l).contains f=true->(l.map (·.f)).contains f=true:=λf hf=>by
   rw [zzn] at hf⊢;unfold nN at hf;obtain⟨x,hx,e⟩:=zz1.mp hf
   split at e
   ·cases e;exact List.mem_map_of_mem (f:=(·.f)) hx
   ·cases e
  refine⟨λf hf=>?_,λq hq=>?_⟩
  ·by_cases mJ:(f==r.f)=true/\r.d.iU=none
   ·obtain⟨h1,h2⟩:=mJ
    have e:=zzy.mp h1
    subst e;refine⟨fa,_,r.d.N.take r.d.np,by rw [h2] at ok;exact ok,?_,e4,Fu.binds hs.bind,λas hn=>?_⟩
    ·rw [hfh (by rw [h2];rfl)];exact PySem.W.mg_of KB G e1
    ·rw [sj] at hn;unfold ax at hn
     by_cases ha:cA r.d as=true
     ·unfold cA at ha;rw [h2] at ha;rw [hlen];exact zzy.mp ha
     ·rw [if_neg ha] at hn;exact absurd rfl hn
   ·have U4:(nN l).contains f=true:=by
     unfold nN at hf⊢;rw [List.filterMap_cons] at hf;split at hf
     ·exact hf
     ·rename_i y hy;split at hy
      ·rename_i hc;cases hy;rw [List.contains_cons,zzt] at hf;rcases hf with z|z
       ·exact absurd ⟨z,Option.isNone_iff_eq_none.mp hc⟩ mJ
       ·exact z
      ·cases hy
    exact((ih f U4).mono (by rw [zzL];omega)).swap λas=>mf (F7 f (ml f U4)) as
  ·unfold yB at hq;rw [List.filterMap_cons] at hq;have tail:q∈yB l->Ld P w K mg base W (den (tab (r::l))) (2*(r::l).length) q:=λhq=>by
    refine(ihH q hq).swap (by rw [zzL];omega) λas=>mf (F7 q.f ?_) as
    unfold yB at hq;obtain⟨x,hx,e⟩:=zz1.mp hq
    obtain⟨y,_,rfl⟩:=zzJ.mp e
    rw [zzn];exact List.mem_map_of_mem (f:=(·.f)) hx
   cases hc:r.d.iU with
   |none=>rw [hc] at hq;exact tail hq
   |some y=>
    rw [hc] at hq;rcases zzm.mp hq with z|z
    ·subst z;rw [hc] at ok;exact⟨fa,_,r.d.N.take r.d.np,ok,PySem.W.mg_of KB G e1,e4,Fu.binds hs.bind,hlen⟩
    ·exact tail z
end
end Ci
namespace L2
open PySem PySem.Spec PyProof.Rows
def zL{P:Program}{w:World}{K:zz8}{mg mb:Str->Option Value}{CX:Ao}{k:Nat}{fa a:Addr}{fd:FuncData}{x:Str}{sp:Sp}{s₁:Shared}{vs:List Value}{ns:List Int}(nt:List Addr)
 (KX:K.In s₁.heap) (Qo:s₁.heap.Ns mainGlobals mg) (hb:s₁.heap.Ns builtinsNs mb) (WL:∀x:Str,x≠"__name__"->mb x=bootBuiltins x) (yH:s₁.heap.NoLimit) (hg:s₁.gens=#[])
 (hT:∀p∈nt,s₁.heap.get? p=some (PySem.W.tabObj #[])) (hC:∀p∈nt,∃c,Ci.f9 K c p) (WC:∀p∈nt,K.lookup p=none)
 (ha:s₁.heap.get? a=some {cls:=.type "list",data:=.seq vs.toArray}) (hi:IntsAre vs ns) (hl:ns.length<=sizeLine) (hr:dP k callerA)
 (F:∀base:Heap,K.In base->base.Ns mainGlobals mg->gW P w K mg base CX k fa fd [x] sp) (O5:∀(s:Shared) (u:Value),BindsTo s fd ⟨[u],[]⟩ [(x,u)])
 (MM:∀H:Hp,(∀p∈nt,H p=some (.gv #[]))->Ci.uD K H a (ns.map V.int)->sp [.ref a] H (λv _=>v=.bl true) λ_ _ _=>False)
 (SQ:∀H e s',CX [] H s₁ (λ_ _ _=>False) e s'->False):
 codeAny (model P w) callerA (.call (.ref fa) ⟨[.ref a],[]⟩) (λr s'=>r=.ok (.ret (.bool true))/\OldK s₁.heap s'.heap/\s'.os=s₁.os/\AllBare s'.gens) s₁:=by
 have rv:=pd hi
 have Nx:=hi.length
 have aT:a∉nt:=λz=>by have:=hT a z;rw [ha] at this;cases this
 have core:∀H:Hp,(∀p∈nt,H p=some (.gv #[]))->Ci.uD K H a (ns.map V.int)->eg P w H s₁.heap->(∀b,H b≠none->b∈nt\/b=a/\∃o xs,H b=some (.bE o xs))->(H a≠none->K.lookup a=none)->
  codeAny (model P w) callerA (.call (.ref fa) ⟨[.ref a],[]⟩) (λr s'=>r=.ok (.ret (.bool true))/\OldK s₁.heap s'.heap/\s'.os=s₁.os/\AllBare s'.gens) s₁:=by
  intro H hO hS aJ hA hK;have wO:∀{b:Addr} {o:Obj},s₁.heap.get? b=some o->H b=none->(qh s₁.heap H).get? b=some o:=λe n=>DL e n
  have EX:∀{b:Addr} {o:Obj} {es:Array DictEntry} {ep:Nat},s₁.heap.get? b=some o->o.data=.dict es ep->H b=none:=λ{b o es ep} e d=>by
   cases q:H b with
   |none=>rfl
   |some u=>
    rcases hA b (by rw [q];simp) with z|⟨z,_⟩
    ·rw [hT b z] at e;cases e;cases d
    ·subst z;rw [ha] at e;cases e;have d':Data.seq vs.toArray _=Data.dict es ep:=d
     cases d'
  have Qs:∀{b:Addr} {m:Str->Option Value},s₁.heap.Ns b m->(qh s₁.heap H).Ns b m:=λ{b m} ⟨o,es,ep,e,d,r⟩=>⟨o,es,ep,wO e (EX e d),d,r⟩
  have Uu:K.In (qh s₁.heap H):=λb o e=>wO (KX b o e) (by
   cases q:H b with
   |none=>rfl
   |some u=>
    rcases hA b (by rw [q];simp) with z|⟨z,_⟩
    ·rw [WC b z] at e;cases e
    ·subst z;rw [hK (by rw [q];simp)] at e;cases e)
  have hM:Mod K mg (qh s₁.heap H):=⟨Uu,Qs Qo,⟨mb,Qs hb,WL⟩,let⟨mc,h1,h2⟩:=yH;⟨mc,Qs h1,h2⟩⟩
  have e0:ju P w K mg (qh s₁.heap H) callerA [] s₁ H:=⟨rfl,hM,λb o e=>Ec e,Nat.le_of_eq (Ag _ _),trivial,λb hb=>absurd (show b∈([]:List Addr) from hb) (by simp),aJ,.of_eq hg⟩
  refine codeAny_mono ((F _ Uu (Qs Qo)).run callerA [] s₁ H ⟨[.ref a],[]⟩ [.ref a] [.ref a] _ _ hr e0 (O5 s₁ (.ref a)) (.cons rfl .nil) (MM H hO hS)) λr s' h=>?_
  cases r with
  |error e=>exact(SQ H e s' h).elim
  |ok fl=>
   cases fl with
   |next=>exact zzk h
   |brk=>exact zzk h
   |cont=>exact zzk h
   |ret u=>
    obtain⟨v,H',os,bare,un,EH,r',q⟩:=h
    have q':v=.bl true:=q
    subst q';obtain rfl:u=Value.bool true:=r'
    have key:∀b o,s₁.heap.get? b=some o->s'.heap.get? b=some o\/b∈nt/\∃m,s'.heap.get? b=some (PySem.W.tabObj m):=λb o e=>by
     cases q:H b with
     |none=>exact .inl (un.keep b o e q (by intro z;exact absurd (show b∈([]:List Addr) from z) (by simp)) (by simp))
     |some u=>
      rcases hA b (by rw [q];simp) with z|⟨z,ob,xs,z2⟩
      ·right
       obtain⟨m,hm⟩:=un.fN b _ (hO b z)
       exact⟨z,_,EH b _ hm⟩
      ·left
       have z3:=un.fg b ob _ z2
       obtain⟨e1,_⟩:=aJ b _ z2
       obtain⟨e2,_⟩:=EH b _ z3
       rw [e] at e1;cases e1;exact e2
    refine⟨rfl,⟨λb o e=>?_,λb o e=>?_⟩,os,bare⟩
    ·rcases key b o e with z|⟨z,m,z2⟩
     ·exact .inl z
     ·have e':=hT b z
      rw [e] at e';cases e';obtain⟨c,o',vs',_,_,_,_,_,_,_,k1,k2,k3,k4,_⟩:=hC b z
      have tb:s₁.heap.TableAt c b #[]:=⟨⟨o',vs',KX _ _ k1,k2,k3,k4⟩,e⟩
      exact .inr (.inl ⟨tb.isCodeTable,rfl,#[],m,rfl,by rw [z2];simp⟩)
    ·rcases key b o e with z|⟨_,m,z⟩
     ·exact⟨_,z⟩
     ·exact⟨_,z⟩
 cases hk:K.lookup a with
 |some o=>
  have e:=KX a o hk
  rw [ha] at e;cases e;refine core (λb=>if b∈nt then some (.gv #[]) else none) (λp hp=>if_pos hp) (.inr ⟨vs.toArray,_,hk,by rw [zzC,Nx];exact hl,by simpa using rv⟩) (λb u z=>?_) (λb z=>?_) λz=>absurd (if_neg aT) z
  ·by_cases hb:b∈nt
   ·have z':=(if_pos hb).symm.trans z
    cases z';exact hT b hb
   ·have z':=(if_neg hb).symm.trans z
    cases z'
  ·by_cases hb:b∈nt
   ·exact .inl hb
   ·exact absurd (if_neg hb) z
 |none=>
  refine core (λb=>if b=a then some (.bE {cls:=.type "list",data:=.seq vs.toArray} (.lst (ns.map V.int))) else if b∈nt then some (.gv #[]) else none) (λp hp=>?_) (.inl (.inr ⟨{cls:=.type "list",data:=.seq vs.toArray},if_pos rfl⟩)) (λb u z=>?_) (λb z=>?_) λ_=>hk
  ·show(if p=a then _ else _)=_
   rw [if_neg (show¬p=a from λz=>aT (by rw [<-z];exact hp)),if_pos hp]
  ·by_cases hb:b=a
   ·have z':=(if_pos hb).symm.trans z
    cases z';subst hb;exact⟨ha,by rw [zzl];exact hl,vs,_,rv,ha⟩
   ·replace z:=(if_neg hb).symm.trans z
    by_cases hc:b∈nt
    ·have z':=(if_pos hc).symm.trans z
     cases z';exact hT b hc
    ·have z':=(if_neg hc).symm.trans z
     cases z'
  ·by_cases hb:b=a
   ·exact .inr ⟨hb,_,_,if_pos hb⟩
   ·by_cases hc:b∈nt
    ·exact .inl hc
    ·exact absurd ((if_neg hb).trans (if_neg hc)) z
def Ke{l:PySem.W.OpenLaw}{n k:Nat}{q:Program}{loose:List Str}{XP:(Str->Option Value)->Heap->Prop}{YP:World->Heap->Prop}{d:DefRec}{K:Params->zz8}{CX:World->Ao}{sp:World->Sp}{x:Str}(nt:List Addr)
 (hn:l.most=some n) (Ji:n<=sizeLine) (NJ:d.params.defaults=[]) (hr:dP k callerA)
 (hY:∀(w:World) (h:Heap),YP w h->(K w.params).In h/\∀p∈nt,h.get? p=some (PySem.W.tabObj #[])) (hC:∀(w:World),∀p∈nt,(∃c,Ci.f9 (K w.params) c p)/\(K w.params).lookup p=none)
 (F:∀(w:World) (mg:Str->Option Value) (fa:Addr) (h:Heap),(K w.params).In h->h.Ns mainGlobals mg->mg d.name=some (.ref fa)->
  ∃fd:FuncData,(∀(s:Shared) (u:Value),BindsTo s fd ⟨[u],[]⟩ [(x,u)])/\
   ∀base:Heap,(K w.params).In base->base.Ns mainGlobals mg->gW l.prog w (K w.params) mg base (CX w) k fa fd [x] (sp w))
 (MM:∀(w:World) (H:Hp) (a:Addr) (ns:List Int),ns.length<=n->(∀p∈nt,H p=some (.gv #[]))->Ci.uD (K w.params) H a (ns.map V.int)->sp w [.ref a] H (λv _=>v=.bl true) λ_ _ _=>False)
 (SQ:∀(w:World) (H:Hp) (s:Shared) (e:Value) (s':Shared),CX w [] H s (λ_ _ _=>False) e s'->False):
 PySem.W.WalkO q loose XP YP l.row.toRowW d [] (λf vs=>PySem.call f vs):=by
 refine Att.tO hn NJ λw s₀ s₁ mg mb fa o pm cd doc a vs ns G Y ho hd nq hmg hobj hints hlen hg=>?_
 obtain⟨KX,hT⟩:=hY w _ Y
 obtain⟨fd,hb,hF⟩:=F w mg fa _ KX G.T.g hmg
 exact zL nt KX G.T.g G.T.b G.T.builtins G.T.nolimit hg hT (λp hp=>(hC w p hp).1) (λp hp=>(hC w p hp).2) hobj hints (zzU hlen Ji) hr hF hb (λH hO hS=>MM w H a ns hlen hO hS) λH e s'=>SQ w H s₁ e s'
end L2
namespace Ci
open PySem L2
theorem mE{W:Wd}{G:Hp}:∀(ns:List Int),aq W G (ns.map PV.int) (ns.map V.int)
 |[]=>.nil
 |n::ns=>.cons .i (mE ns)
def oR(H:Hp):Hp:=λb=>match H b with
 |some (.gv _)=>none
 |o=>o
def vI(H:Hp):aA (oR H) H:=λb o e=>by
 unfold oR at e;split at e
 ·cases e
 ·exact e
def sS{H:Hp}{b:Addr}{o:HO}(h:H b=some o)(n:∀ps,o≠.gv ps):oR H b=some o:=by
 unfold oR;rw [h];cases o with
 |gv ps=>exact absurd rfl (n ps)
 |_=>rfl
noncomputable def Og(K:zz8)(nt:List Addr):Sp:=λvs H Q _=>∃(a:Addr) (ns:List Int),vs=[.ref a]/\(∀p∈nt,H p=some (.gv #[]))/\uD K H a (ns.map V.int)/\ns.length<=63/\∀H',Q (.bl true) H'
def walk{l:PySem.W.OpenLaw}{q:Program}{loose:List Str}{XP:(Str->Option Value)->Heap->Prop}{YP:World->Heap->Prop}{d:DefRec}{K:Params->zz8}(rest:d5)(Γ:Pg)(x:Str)(dl:Def)(xs:List Str)(ts:List (Addr×Str))(st:Stmt)
 (hx:dl.N.take dl.np=[x]) (ID:dl.iU=none) (VQ:d.name="law") (hn:l.most=some 63) (NJ:d.params.defaults=[]) (hr:dP (2*rest.length+2) callerA) (hY:∀(w:World) (h:Heap),YP w h->(K w.params).In h/\∀p∈ts.map (·.1),h.get? p=some (PySem.W.tabObj #[]))
 (hC:∀(w:World),∀p∈ts.map (·.1),(∃c,f9 (K w.params) c p)/\(K w.params).lookup p=none)
 (hM:∀(w:World) (mg:Str->Option Value) (h:Heap),(K w.params).In h->h.Ns mainGlobals mg->uR (K w.params) mg Γ ⟨K w.params,mg,xs,ts⟩)
 (hE:∀w:World,zX (K w.params) ts false "law" st) (hS:cD (Γ.at rest false) "law" dl st)
 (hA:∀w:World,AllK (K w.params) ts Γ rest)
 (So:∀ns:List Int,ns.length<=63->ax (den (tab rest)) dl [.lst (ns.map .int)]=.ok (.bl true)):
 PySem.W.WalkO q loose XP YP l.row.toRowW d [] (λf vs=>PySem.call f vs):=by
 refine L2.Ke (n:=63) (k:=2*rest.length+2) (x:=x) (CX:=λw=>dW l.prog w) (sp:=λw=>Og (K w.params) (ts.map (·.1))) (ts.map (·.1)) hn (by decide) NJ hr hY hC ?_ ?_ ?_
 ·intro w mg fa h KX G hmg;rw [VQ] at hmg;obtain⟨f,oc,od,kV,doc,pm,an,gb,ct,vo,e1,e2,e3,e4,e5⟩:=hE w
  have hf:fa=f:=by
   have z:=hmg.symm.trans (PySem.W.mg_of KX G e1)
   cases z
   rfl
  subst hf;refine⟨PySem.W.fnOf "law" "law" (dv st) (cV st) (aY st) .none kV doc pm an gb ct,λs u=>?_,λbase KB GB=>?_⟩
  ·have hb:=hS.bind kV doc pm an gb ct [u]
   rw [hx] at hb;exact .of_eq (hb rfl)
  ·have M:=hM w mg base KB GB
   obtain⟨a1,a2⟩:=Cr (P:=l.prog) (w:=w) M KB GB rest (hA w)
   have ok:=HL (P:=l.prog) (w:=w) (nf:="law") (wG M rest false) KB (k:=2*rest.length) hS (AX (st:=st) e2 e3 e4) (λg hg=>a1 g hg) (λq hq=>a2 q hq) (qr rest (hA w)) (λz=>nomatch z)
   rw [hx] at ok;refine ok.imp λvs H Q E h=>?_
   obtain⟨a,ns,rfl,ht,hl,hlen,q⟩:=h
   refine⟨rfl,oR H,[.lst (ns.map .int)],vI H,λP q m=>?_,?_,?_⟩
   ·have hP:=ht P (List.mem_map_of_mem (f:=(·.1)) m)
    refine⟨by unfold oR;rw [hP],#[],hP,trivial,λpos cv e=>nomatch e⟩
   ·rw [ID];refine aq.cons (.l ?_ (mE ns)) .nil;rcases hl with(h|⟨o,h⟩)|h
    ·exact .inl (.inl (sS h (λ_ z=>nomatch z)))
    ·exact .inl (.inr ⟨o,sS h (λ_ z=>nomatch z)⟩)
    ·exact .inr h
   ·dsimp only;rw [So ns hlen];intro v G' H' _ rv;simp! [Rep] at rv;subst rv;exact q H'
 ·intro w H a ns hlen hO B0;exact⟨a,ns,rfl,hO,B0,hlen,λ_=>rfl⟩
 ·intro w H s e s' h;obtain⟨a,C,t,vs,H',B,rfl,F⟩:=h
  exact F.ends
end Ci
namespace Hd
open PySem PySem.W PySem.Calls
noncomputable def Lg(st:SharedT->Thread->Option (SharedT×Thread))(ok:Thread->Bool)(n:Nat):SharedT->Thread->Option SharedT:=
 @Nat.rec (λ_=>SharedT->Thread->Option SharedT) (λ_ _=>none) (λ_ ih s t=>match through t with
  |true=>some s
  |false=>match ok t with
   |false=>none
   |true=>match st s t with
    |some (s',t')=>ih s' t'
    |none=>none) n
theorem pK{tb:String->Option Builtin}{p:Program}{w:World}{n₀:Nat}{ann:Option Value}:∀{n:Nat} {s s':SharedT} {t:Thread},Lg (stepT (denote tb) p w) (stepOk n₀ ann) n s t=some s'->topRun tb p w n₀ ann n s.abs t=some s'.abs
 |0,_,_,_,h=>by cases h
 |n+1,s,s',t,h=>by
  have h:(match through t with
   |true=>some s
   |false=>match stepOk n₀ ann t with
    |false=>none
    |true=>match stepT (denote tb) p w s t with
     |some (s',t')=>Lg (stepT (denote tb) p w) (stepOk n₀ ann) n s' t'
     |none=>none)=some s':=h
  unfold topRun;cases ht:through t with
  |true=>rw [ht] at h;cases h;rfl
  |false=>
   rw [ht] at h;cases hk:stepOk n₀ ann t with
   |false=>rw [hk] at h;cases h
   |true=>
    rw [hk] at h;cases hs:stepT (denote tb) p w s t with
    |none=>rw [hs] at h;cases h
    |some r=>obtain⟨s₂,t₂⟩:=r;rw [hs] at h;rw [stepT_spec hs];exact pK h
def treeOf(l:List Obj):BT:=(l.foldl (λ(T,i) o=>(BT.ins T i o,i+1)) (BT.nil,0)).1
def Hl{p q:Program}{loose:List Str}{Xt:Shared->Bool}{α:Type}{Yf:Shared->α}{Ya:World->α}{N:Nat}{g0:Bool}{T₀:Params->BT}{life:Life}{m₀:Nat}{ann:Option Value}{M:Nat}
 (e:opening p=plainProg p.main.scope.names) (hN:Nat.ble 600 N=true) (f:∀s,fenceModules? p s=some s)
 (e0:∀P:Params,absHeap (T₀ P) m₀ life=boot_heap P)
 (size:∀w:World,((boot_heap w.params).isNs mainGlobals,(boot_heap w.params).nsMap mainGlobals "__annotations__")=(true,ann))
 (le:Nat.ble M N=true)
 (run:∀(w:World) (os:OsState),(Lg (stepT (denote treeTable) p w) (stepOk m₀ ann) M ⟨T₀ w.params,m₀,life,Array.mk [],boot_drawn,boot_toks,os⟩ (topStub p)).map (λs=>
  ((staticsOk (importedModules p.main.body) (boot_heap w.params) s.abs.heap&&namesBound p s.abs.heap&&gensDone s.abs&&laidKept (boot_heap w.params) s.abs.heap),openSeen q loose (importedModules p.main.body) Xt g0 s.abs,Yf s.abs))
  =some (true,openGood q loose,Ya w)):LeftO p q loose Xt Yf Ya N g0:=λw=>by
 obtain⟨⟨h,gs,d,k,os⟩,e1,e'⟩:=zzJ.mp (boot_open e hN f w)
 obtain⟨rfl,rfl,rfl,rfl⟩:h=boot_heap w.params/\gs=Array.mk []/\d=boot_drawn/\k=boot_toks:=by simpa using e'
 obtain⟨z1,z3⟩:_/\_:=by simpa only [Prod.mk.injEq] using size w
 obtain⟨s,r,l⟩:=zzJ.mp (run w os)
 obtain⟨l1,l2,l3⟩:_/\_/\_:=by simpa only [Prod.mk.injEq] using l
 have r:=pK r
 have r:=topRun_mono (N-M) _ _ _ _ r
 rw [show M+(N-M)=N by have:=Nat.le_of_ble_eq_true le;omega] at r;have hs:(boot_heap w.params).objs.size=m₀:=by rw [<-e0 w.params];exact absHeap_size _ _ _
 have r:topRun treeTable p w m₀ ann N ⟨boot_heap w.params,Array.mk [],boot_drawn,boot_toks,os⟩ (topStub p)=some s.abs:=by
  have:(⟨T₀ w.params,m₀,life,Array.mk [],boot_drawn,boot_toks,os⟩:SharedT).abs=⟨boot_heap w.params,Array.mk [],boot_drawn,boot_toks,os⟩:=by
   show Shared.mk _ _ _ _ _=_
   rw [show absHeap (T₀ w.params) m₀ life=boot_heap w.params from e0 w.params]
  rw [<-this];exact r
 have t:topFrom treeTable p w N ⟨boot_heap w.params,Array.mk [],boot_drawn,boot_toks,os⟩=some s.abs:=by
  unfold topFrom;dsimp only;rw [z1,z3,hs,r];show(match staticsOk (importedModules p.main.body) (boot_heap w.params) s.abs.heap&&namesBound p s.abs.heap&&gensDone s.abs&&laidKept (boot_heap w.params) s.abs.heap with|true=>_|false=>_)=_
  rw [l1]
 unfold openEnds;rw [e1];show(topFrom treeTable p w N _).map _=_
 rw [t];exact congrArg some (Prod.ext l2 l3)
end Hd
namespace Hd
open PySem PySem.W
def OP:∀P:Params,absHeap (treeOf (boot_heap P).objs.toList) 11 {}=boot_heap P:=λP=>by kernel_rfl
def OR:∀w:World,((boot_heap w.params).isNs mainGlobals,(boot_heap w.params).nsMap mainGlobals "__annotations__")=(true,some (.ref 6)):=λw=>by kernel_rfl
abbrev de(P:Params)(x:Str)(t:Tok)(v:Value):DictEntry:={hash:=PyData.keyHash P x,key:=.str x t,val:=v}
theorem holds{l:OpenLaw}{keep:List Nat}{K:Params->Frag}{as:List Addr}{d:DefRec}{N:Nat}(QP:l.wellSaid=true)
 (ka:∀P,as=(K P).map (·.1))
 (left:LeftO l.row.prog (view l.row.prog keep) [] (λs=>xlAt (view l.row.prog keep) [] s&&recOk l.row.toRowW.records s) (kHook K as ka).obs (kHook K as ka).val N)
 (Jv:defOf (view l.row.prog keep) l.row.name=some (d,[])) (hp:l.row.prog.theDef l.row.name=some (d.params,d.body,d.scope)) (hk:kwWritten? d.params.kwonlyargs d.params.kw_defaults=some [])
 (ok:(chainsOk (view l.row.prog keep)&&opensWell l.row.prog&&(frees l.row.toRowW&&l.row.within.isEmpty))=true) (hb:l.row.prog.bare) (hw:l.row.toRowW.promised)
 (call:WalkO (view l.row.prog keep) [] (XL (view l.row.prog keep) []) (kHook K as ka).says l.row.toRowW d [] λf vs=>PySem.call f vs):l.Holds:=
 holds_law QP λk1=>holds_open (N:=N) left (Hook.of (kHook K as ka)) (Hook.keeps (kHook K as ka)) (λs e=>xl_of s (Bool.and_eq_true_iff.mp e).1) XL.keeps Jv hp hk (λs e=>recFacts_of (Bool.and_eq_true_iff.mp e).2) (by cases h:l.row.writes<;>rfl) k1 ok hb hw call
theorem K9{P:List Value->Prop}(h:∀a0,P [a0]):∀us:List Value,us.length=1->P us
 |[a0],_=>h a0
theorem DD{P:List Value->Prop}(h:∀a0 a1,P [a0,a1]):∀us:List Value,us.length=2->P us
 |[a0,a1],_=>h a0 a1
theorem wY{P:List Value->Prop}(h:∀a0 a1 a2,P [a0,a1,a2]):∀us:List Value,us.length=3->P us
 |[a0,a1,a2],_=>h a0 a1 a2
theorem Se{P:List Value->Prop}(h:∀a0 a1 a2 a3,P [a0,a1,a2,a3]):∀us:List Value,us.length=4->P us
 |[a0,a1,a2,a3],_=>h a0 a1 a2 a3
theorem VZ{P:List Value->Prop}(h:∀a0 a1 a2 a3 a4,P [a0,a1,a2,a3,a4]):∀us:List Value,us.length=5->P us
 |[a0,a1,a2,a3,a4],_=>h a0 a1 a2 a3 a4
end Hd
namespace KJ
open PySem L2 Ci
theorem rO{α β:Type}{a:α}{f:α->Res β}:(Res.ok a).bind f=f a:=rfl
theorem MQ{α:Type}{a:α}:(Res.ok a).well=.ok a:=rfl
theorem Tj{α:Type}{a:α}:Res.of (some a)=.ok a:=rfl
theorem U9{env:Sl}{k:Sl->Res Fl}:(Fl.nx env).seq k=k env:=rfl
theorem UM{p:PV}{k:Sl->Res Fl}:(Fl.rt p).seq k=.ok (.rt p):=rfl
theorem Ua{env:Sl}{k:Sl->Res Fl}:(Fl.bk env).seq k=.ok (.bk env):=rfl
theorem sv{p:PV}:oQ (some (.val p))=.ok p:=rfl
theorem Tz{p:PV}:DO (some (.val p))=.ok p:=rfl
theorem US{p:PV}:DO (some (.own p))=.ok p:=rfl
theorem Ik{α:Type}{b:Bool}{f:Bool->Res α}:sJ (.bl b) f=f b:=rfl
theorem Ij{i j:Int}:binOp .add (.int i) (.int j)=.ok (.int (i+j)):=rfl
theorem Ip{i j:Str}:binOp .add (.str i) (.str j)=if i.length+j.length<=fv then .ok (.str (i++j)) else .bad:=rfl
theorem Nv{i j:Int}:binOp .sub (.int i) (.int j)=.ok (.int (i-j)):=rfl
theorem O4{i j:Int}:binOp .mul (.int i) (.int j)=if aO i||aO j then .ok (.int (i*j)) else .bad:=rfl
theorem O9{i j:Int}:binOp .mod (.int i) (.int j)=if 0<j then .ok (.int (i%j)) else .bad:=rfl
theorem ON{i j:Int}:binOp .fdiv (.int i) (.int j)=if 0<j/\j<1073741824 then .ok (.int (i/j)) else .bad:=rfl
theorem TV:dN .eq=gq:=rfl
theorem Vl:dN .ne=gL:=rfl
theorem TK:dN .lt=sC:=rfl
theorem Vi:dN .le=tX:=rfl
theorem U1:dN .Ax=oj:=rfl
theorem Pq:dN .lJ=f7:=rfl
theorem oLt{i j:Int}:sC (.int i) (.int j)=.ok (.bl (decide (i<j))):=rfl
theorem oLe{i j:Int}:tX (.int i) (.int j)=.ok (.bl (decide (i<=j))):=rfl
theorem lL{xs:List PV}:dS .len [.lst xs]=.ok (.int xs.length):=rfl
theorem lT{xs:List PV}:dS .len [.tup xs]=.ok (.int xs.length):=rfl
theorem lS{z:Str}:dS .len [.str z]=if z.length<=fv then .ok (.int z.length) else .bad:=rfl
theorem tL{xs:List PV}:dS .tuple [.lst xs]=.ok (.tup xs):=rfl
theorem Qd{i:Nat}{p:PV}{env:Sl}:(Tg.one i).put p env=.ok (env.set i (.val p)):=rfl
theorem S7{i j:Nat}{a b:PV}{env:Sl}:(Tg.two i j).put (.tup [a,b]) env=.ok ((env.set i (.val a)).set j (.val b)):=rfl
theorem D1{p:PV}:mv (.own p)=.val p:=rfl
theorem jA{α:Type}{a:α}{as:List α}:(a::as).length=as.length+1:=rfl
theorem jB{α:Type}:([]:List α).length=0:=rfl
theorem jC{α β:Type}{f:α->β}{a:α}{l:List α}:(a::l).map f=f a::l.map f:=rfl
theorem jD{α β:Type}{f:α->β}:([]:List α).map f=[]:=rfl
theorem jE{α:Type}{a:α}{as bs:List α}:a::as++bs=a::(as++bs):=rfl
theorem jF{α:Type}{as:List α}:[]++as=as:=rfl
theorem jG{α:Type}{a:α}{l:List α}:(a::l)[0]?=some a:=rfl
theorem jH{α:Type}{a:α}{l:List α}{i:Nat}:(a::l)[i+1]?=l[i]?:=rfl
theorem jI{α:Type}{a b:α}{l:List α}:(a::l).set 0 b=b::l:=rfl
theorem jJ{α:Type}{a b:α}{l:List α}{i:Nat}:(a::l).set (i+1) b=a::l.set i b:=rfl
theorem jK{α:Type}{a d:α}{l:List α}:(a::l).getD 0 d=a:=rfl
theorem jL{α:Type}{a d:α}{l:List α}{i:Nat}:(a::l).getD (i+1) d=l.getD i d:=rfl
def jM{n:Nat}:0+n=n:=Nat.zero_add _
theorem jN:(!true)=false:=rfl
theorem jO:(!false)=true:=rfl
def jP:(false=true)=False:=zze
theorem rP{e:E}{xs:List PV}:AZ e (.lst xs)=.ok xs:=rfl
theorem UC{e:E}{xs:List PV}:AZ e (.tup xs)=.ok xs:=rfl
theorem Qj{xs:List PV}:itemsOf (.tup xs)=.ok xs:=rfl
theorem Qp{xs:List PV}:itemsOf (.lst xs)=.ok xs:=rfl
theorem PZ{z:Str}:itemsOf (.str z)=.ok (chars z):=rfl
theorem jQ{α:Type}{f:α->α}{a:α}{l:List α}:(a::l).modify 0 f=f a::l:=rfl
def jR{α:Type}{f:α->α}{a:α}{l:List α}{i:Nat}:(a::l).modify (i+1) f=a::l.modify i f:=by simp
theorem jS{α:Type}{a:α}:List.replicate 0 a=[]:=id rfl
theorem jT{α:Type}{a:α}{n:Nat}:List.replicate (n+1) a=a::List.replicate n a:=id rfl
def jU{n:Nat}:(n==n)=true:=beq_self_eq_true n
noncomputable def J:=And.intro @jS (And.intro @jT (And.intro @jU (And.intro @rO (And.intro @MQ (And.intro @Tj (And.intro @U9 (And.intro @UM (And.intro @Ua (And.intro @sv (And.intro @Tz (And.intro @US (And.intro @Ik (And.intro @Ij (And.intro @Ip (And.intro @Nv (And.intro @O4 (And.intro @O9 (And.intro @ON (And.intro @TV (And.intro @Vl (And.intro @TK (And.intro @Vi (And.intro @U1 (And.intro @Pq (And.intro @oLt (And.intro @oLe (And.intro @lL (And.intro @lT (And.intro @lS (And.intro @tL (And.intro @Qd (And.intro @S7 (And.intro @D1 (And.intro @jA (And.intro @jB (And.intro @jC (And.intro @jD (And.intro @jE (And.intro @jF (And.intro @jG (And.intro @jH (And.intro @jI (And.intro @jJ (And.intro @jK (And.intro @jL (And.intro @jM (And.intro @jN (And.intro @jO (And.intro @jP (And.intro @rP (And.intro @UC (And.intro @Qj (And.intro @Qp (And.intro @PZ (And.intro @jQ (@jR))))))))))))))))))))))))))))))))))))))))))))))))))))))))
def Ja{n:Str}{d:Def}{r:List (Str×Def)}:den ((n,d)::r) n=ax (den r) d:=by
 funext as;simp [den]
def Mv{n f:Str}{d:Def}{r:List (Str×Def)}(h:(f==n)=false):den ((n,d)::r) f=den r f:=by
 funext as;simp [den,h]
theorem tv{f:Str}:∀(n:Nat) {T:List (Str×Def)},((T.take n).all λx=>!(f==x.1))=true->den T f=den (T.drop n) f
 |0,_,_=>rfl
 |n+1,[],_=>rfl
 |n+1,(m,d)::r,h=>by
  rw [List.take_succ_cons,List.all_cons,zza,Bool.not_eq_true'] at h;exact(Mv h.1).trans (tv n h.2)
def dk{f:Str}{d:Def}{r T:List (Str×Def)}(k:Nat)(h:((T.take k).all λx=>!(f==x.1))=true:=by decide+kernel)(e:T.drop k=(f,d)::r:=by rfl):den T f=ax (den r) d:=by
 rw [tv k h,e];exact Ja
end KJ
local macro_rules | `(#v[]) => `(.nil) | `(#v[$x]) => `(.cons $x .nil) | `(#v[$x, $xs,*]) => `(.cons $x #v[$xs,*]) | `(!$n:num) => `(.var $n) | `(¬$n:num) => `(.cst (.int $n))
namespace K10
open PySem L2 Ci KJ
noncomputable def df:Def:=⟨["_law_script","_law_k"],2,#v[.ite (.cmp .lt (!1) (.blt .len #v[!0])) #v[.ret (.sub (!0) (!1))] .nil,.ite (.cmp .eq (!0) (.lst .nil)) #v[.ret (¬0)] .nil,.ret (.bin .add (.bin .mul (.sub (!0) (.bin .mod (!1) (.blt .len #v[!0]))) (¬31)) (!1))],none⟩
noncomputable def bQ:Def:=⟨["_law_script","_law_k","_law_many","_law_drawn"],3,#v[.set 3 (.bin .mod (.bin .mul (.bin .add (.call "_law_cell" #v[!0,!1]) (.bin .mul (¬6151) (.bin .add (!1) (¬1)))) (¬40692)) (¬2147483399)),.ret (.bin .mod (.bin .mod (.bin .add (.bin .mul (!3) (!3)) (.bin .fdiv (!3) (¬31))) (¬2147483629)) (!2))],none⟩
noncomputable def cG:Def:=⟨["_law_script","_law_at","_law_most","_law_rows","_law_columns","_law_shuts","_law_top","_law_made","_law_row","_law_signs","_law_column","_law_drawn"],3,#v[.set 3 (.bin .add (¬1) (.call "_law_pick" #v[!0,!1,!2])),.set 4 (.bin .add (¬1) (.call "_law_pick" #v[!0,.bin .add (!1) (¬1),!2])),.set 5 (.sub (.lst #v[¬0,¬2,¬4,¬6]) (.call "_law_pick" #v[!0,.bin .add (!1) (¬2),¬4])),.set 6 (.sub (.lst #v[¬1,¬2,¬3,¬10]) (.call "_law_pick" #v[!0,.bin .add (!1) (¬3),¬4])),.own 7 (.lst .nil),.cQ (.one 8) (.uc (!3)) #v[.set 9 (.cst (.str "")),.cQ (.one 10) (.uc (!4)) #v[.set 11 (.call "_law_pick" #v[!0,.bin .add (.bin .add (.bin .add (!1) (¬4)) (.bin .mul (!2) (!8))) (!10),.bin .mul (¬12) (!6)]),.set 9 (.bin .add (!9) (.ite (.cmp .lt (.bin .mod (!11) (¬12)) (!5)) (.cst (.str "#")) (.blt .str #v[.bin .fdiv (!11) (¬12)])))],.app 7 (!9)],.ret (.blt .tuple #v[.dR 7])],none⟩
noncomputable def cJ:Def:=⟨["_law_script","_law_at"],2,#v[.ret (.tup #v[.cmp .eq (.call "_law_pick" #v[!0,!1,¬2]) (¬0),.sub (.lst #v[¬0,¬1,¬2,¬9]) (.call "_law_pick" #v[!0,.bin .add (!1) (¬1),¬4]),.call "_law_pick" #v[!0,.bin .add (!1) (¬2),¬4]])],none⟩
noncomputable def bC:Def:=⟨["_law_floor_here","_law_made","_law_row","_law_signs"],1,#v[.own 1 (.lst .nil),.cQ (.two 2 3) (.enum (!0)) #v[.qZ 1 (.dc 2 [2] (.two 0 1) (.enum (!3)) (.cmp .ne (!1) (.cst (.str "#"))) (.tup #v[!2,!0]))],.bE 1,.ret (!1)],none⟩
noncomputable def bX:Def:=⟨["_law_script","_law_at","_law_floor_here"],3,#v[.ret (.tup #v[.bin .sub (.call "_law_pick" #v[!0,!1,.bin .add (.blt .len #v[!2]) (¬2)]) (¬1),.bin .sub (.call "_law_pick" #v[!0,.bin .add (!1) (¬1),.bin .add (.blt .len #v[.sub (!2) (¬0)]) (¬2)]) (¬1)])],none⟩
noncomputable def dJ:Def:=⟨["_law_kept","_law_kinds"],1,#v[.set 1 (.lst #v[.D0 "NoSign" (!0),.D0 "NoSize" (!0),.D0 "NoSpot" (!0),.D0 "NoWay" (!0)]),.ite (.or (.cmp .ne (.KN .iM (!1) #v[.cst (.bl true)]) (¬1)) (.or (.not (.D0 "ValueError" (!0))) (.not (.D0 "FloorError" (!0))))) #v[.ret (.cst (.str "wrong"))] .nil,.ret (.sub (.lst #v[.cst (.str "no sign"),.cst (.str "no size"),.cst (.str "no spot"),.cst (.str "no way")]) (.KN .index (!1) #v[.cst (.bl true)]))],none⟩
def er:Def:=⟨["thing"],1,#v[.ret (.and (.ty .int (!0)) (.not (.ty .bool (!0))))],none⟩
def d6:Def:=⟨["thing"],1,#v[.ret (.and (.ty .tuple (!0)) (.and (.cmp .eq (.blt .len #v[!0]) (¬2)) (.and (.call "is_whole" #v[.sub (!0) (¬0)]) (.call "is_whole" #v[.sub (!0) (¬1)]))))],none⟩
def cI:Def:=⟨["floor","spot"],2,#v[.ret (.and (.ch .le .lt (¬0) (.sub (!1) (¬0)) (.blt .len #v[!0])) (.ch .le .lt (¬0) (.sub (!1) (¬1)) (.blt .len #v[.sub (!0) (.sub (!1) (¬0))])))],none⟩
noncomputable def cR:Def:=⟨["floor","thing"],2,#v[.ret (.and (.call "is_spot" #v[!1]) (.and (.call "is_on_floor" #v[!0,!1]) (.cmp .ne (.sub (.sub (!0) (.sub (!1) (¬0))) (.sub (!1) (¬1))) (.glob "WALL" (.str "#")))))],none⟩
def aR:Def:=⟨["floor","spot"],2,#v[.ite (.not (.call "is_open" #v[!0,!1])) #v[.raise "NoSpot" "the spot is not on the floor or a wall"] .nil],none⟩
noncomputable def cT:Def:=⟨["one","other"],2,#v[.ret (.and (.cmp .ne (!0) (!1)) (.and (.cmp .le (.blt .abs #v[.bin .sub (.sub (!0) (¬0)) (.sub (!1) (¬0))]) (¬1)) (.cmp .le (.blt .abs #v[.bin .sub (.sub (!0) (¬1)) (.sub (!1) (¬1))]) (¬1))))],none⟩
def dg:Def:=⟨["floor","spot"],2,#v[.expr (.call "need_open" #v[!0,!1]),.ret (.blt .int #v[.sub (.sub (!0) (.sub (!1) (¬0))) (.sub (!1) (¬1))])],none⟩
def bB:Def:=⟨["floor","one","other"],3,#v[.ret (.and (.call "is_open" #v[!0,.tup #v[.sub (!1) (¬0),.sub (!2) (¬1)]]) (.call "is_open" #v[!0,.tup #v[.sub (!2) (¬0),.sub (!1) (¬1)]]))],none⟩
noncomputable def bI:Def:=⟨["floor","walker","one","other","is_slanting","rise","flat_cost"],4,#v[.ite (.not (.call "are_beside" #v[!2,!3])) #v[.ret (.cst .aD)] .nil,.set 4 (.and (.cmp .ne (.sub (!2) (¬0)) (.sub (!3) (¬0))) (.cmp .ne (.sub (!2) (¬1)) (.sub (!3) (¬1)))),.ite (.and (!4) (.not (.and (.sub (!1) (¬0)) (.call "has_open_corners" #v[!0,!2,!3])))) #v[.ret (.cst .aD)] .nil,.set 5 (.bin .sub (.call "height_at" #v[!0,!3]) (.call "height_at" #v[!0,!2])),.ite (.cmp .gt (.blt .abs #v[!5]) (.sub (!1) (¬1))) #v[.ret (.cst .aD)] .nil,.set 6 (.ite (!4) (.glob "SLANTING_COST" (.int 3)) (.glob "STRAIGHT_COST" (.int 2))),.ret (.bin .add (!6) (.bin .mul (.sub (!1) (¬2)) (.blt .max2 #v[!5,¬0])))],none⟩
noncomputable def bt:Def:=⟨["floor","spot","beside","row","column"],2,#v[.own 2 (.lst .nil),.cQ (.one 3) (.qP (.bin .sub (.sub (!1) (¬0)) (¬1)) (.bin .add (.sub (!1) (¬0)) (¬2))) #v[.cQ (.one 4) (.qP (.bin .sub (.sub (!1) (¬1)) (¬1)) (.bin .add (.sub (!1) (¬1)) (¬2))) #v[.ite (.and (.cmp .ne (.tup #v[!3,!4]) (!1)) (.call "is_open" #v[!0,.tup #v[!3,!4]])) #v[.app 2 (.tup #v[!3,!4])] .nil]],.bE 2,.ret (!2)],none⟩
noncomputable def b9:Def:=⟨["floor","walker","spot","steps","other","cost"],3,#v[.expr (.call "need_open" #v[!0,!2]),.own 3 (.lst .nil),.cQ (.one 4) (.seq (.call "open_spots_beside" #v[!0,!2])) #v[.set 5 (.call "step_cost" #v[!0,!1,!2,!4]),.ite (.cmp .A6 (!5) (.cst .aD)) #v[.app 3 (.tup #v[!4,!5])] .nil],.bE 3,.ret (!3)],none⟩
noncomputable def dD:Def:=⟨["floor","walker","spot"],3,#v[.ret (.comp 1 [1,2,0] (.one 0) (.seq (.call "steps_from" #v[!0,!1,!2])) (.tup #v[.sub (!0) (¬0),.call "step_cost" #v[!3,!1,.sub (!0) (¬0),!2]]))],none⟩
noncomputable def bJ:Def:=⟨["starts","steps","reached","waiting","start","spot","other","cost","together"],2,#v[.j5 2,.j5 3,.cQ (.one 4) (.seq (!0)) #v[.put 3 (!4) (.tup #v[¬0,.cst .aD])],.xD (.cmp .gt (.blt .len #v[.dR 3]) (¬0)) #v[.md 5 3,.eO 2 3 5,.cQ (.two 6 7) (.seq (.kF 1 #v[!5])) #v[.set 8 (.bin .add (.sub (.sub (.dR 2) (!5)) (¬0)) (!7)),.ite (.and (.cmp .lJ (!6) (.dR 2)) (.or (.cmp .lJ (!6) (.dR 3)) (.cmp .lt (!8) (.sub (.sub (.dR 3) (!6)) (¬0))))) #v[.put 3 (!6) (.tup #v[!8,!5])] .nil]],.bE 2,.ret (!2)],some ("steps_to",[1,2,1,0])⟩
def bH:Def:=⟨["floor","walker","goals","goal"],3,#v[.cQ (.one 3) (.seq (!2)) #v[.expr (.call "need_open" #v[!0,!3])],.ret (.oU "spread@steps_to" #v[!2] "steps_to" [1,2,1,0] [1,0])],none⟩
noncomputable def fC:Def:=⟨["reached","place","trace"],2,#v[.own 2 (.lst #v[!1]),.xD (.cmp .A6 (.sub (.sub (!0) (.sub (.dR 2) (.neg (¬1)))) (¬1)) (.cst .aD)) #v[.app 2 (.sub (.sub (!0) (.sub (.dR 2) (.neg (¬1)))) (¬1))],.bE 2,.ret (!2)],none⟩
noncomputable def bP:Def:=⟨["floor","walker","start","goal","reached"],4,#v[.expr (.call "need_open" #v[!0,!2]),.set 4 (.call "spread_to" #v[!0,!1,.lst #v[!3]]),.ite (.cmp .lJ (!2) (!4)) #v[.ret (.cst .aD)] .nil,.ret (.tup #v[.sub (.sub (!4) (!2)) (¬0),.call "traced" #v[!4,!2]])],none⟩
def bK:Def:=⟨["reached"],1,#v[.ret (.comp 1 [0] (.one 0) (.seq (.blt .sorted #v[!0])) (.tup #v[!0,.sub (.sub (!1) (!0)) (¬0)]))],none⟩
noncomputable def bo:Def:=⟨["starts","steps","reached","waiting","start","spot","other","cost","together"],2,#v[.j5 2,.j5 3,.cQ (.one 4) (.seq (!0)) #v[.put 3 (!4) (.tup #v[¬0,.cst .aD])],.xD (.cmp .gt (.blt .len #v[.dR 3]) (¬0)) #v[.md 5 3,.eO 2 3 5,.cQ (.two 6 7) (.seq (.kF 1 #v[!5])) #v[.set 8 (.bin .add (.sub (.sub (.dR 2) (!5)) (¬0)) (!7)),.ite (.and (.cmp .lJ (!6) (.dR 2)) (.or (.cmp .lJ (!6) (.dR 3)) (.cmp .lt (!8) (.sub (.sub (.dR 3) (!6)) (¬0))))) #v[.put 3 (!6) (.tup #v[!8,!5])] .nil]],.bE 2,.ret (!2)],some ("steps_from",[1,2,1,0])⟩
def bO:Def:=⟨["floor","walker","start"],3,#v[.expr (.call "need_open" #v[!0,!2]),.ret (.oU "spread@steps_from" #v[.lst #v[!2]] "steps_from" [1,2,1,0] [1,0])],none⟩
def aX:Def:=⟨["floor","walker","start"],3,#v[.ret (.call "rising_costs" #v[.call "spread_from" #v[!0,!1,!2]])],none⟩
def bG:Def:=⟨["floor","walker","goal"],3,#v[.ret (.call "rising_costs" #v[.call "spread_to" #v[!0,!1,.lst #v[!2]]])],none⟩
noncomputable def aF:Def:=⟨["_law_what","_law_floor_here","_law_walker_here","_law_start","_law_goal","_law_kept","_law_answer","e"],5,#v[.set 5 (.cst .aD),.set 6 (.cst .aD),.vC #v[.ite (.cmp .eq (!0) (¬0)) #v[.set 6 (.call "least_way" #v[!1,!2,!3,!4])] #v[.ite (.cmp .eq (!0) (¬1)) #v[.set 6 (.call "distances_from" #v[!1,!2,!3])] #v[.set 6 (.call "distances_to" #v[!1,!2,!4])]]] "FloorError" 7 5,.ite (.cmp .is (!5) (.cst .aD)) #v[.ret (!6)] .nil,.ret (.call "_law_word" #v[!5])],none⟩
noncomputable def cb:Def:=⟨["_law_floor_here","_law_walker_here","_law_spot","_law_goal","_law_rise","_law_cost_here"],4,#v[.set 4 (.bin .sub (.blt .int #v[.sub (.sub (!0) (.sub (!3) (¬0))) (.sub (!3) (¬1))]) (.blt .int #v[.sub (.sub (!0) (.sub (!2) (¬0))) (.sub (!2) (¬1))])),.set 5 (¬2),.ite (.or (.cmp .gt (!4) (.sub (!1) (¬1))) (.cmp .gt (.bin .sub (¬0) (!4)) (.sub (!1) (¬1)))) #v[.ret (.cst .aD)] .nil,.ite (.and (.cmp .ne (.sub (!2) (¬0)) (.sub (!3) (¬0))) (.cmp .ne (.sub (!2) (¬1)) (.sub (!3) (¬1)))) #v[.ite (.or (.not (.sub (!1) (¬0))) (.or (.cmp .eq (.sub (.sub (!0) (.sub (!2) (¬0))) (.sub (!3) (¬1))) (.cst (.str "#"))) (.cmp .eq (.sub (.sub (!0) (.sub (!3) (¬0))) (.sub (!2) (¬1))) (.cst (.str "#"))))) #v[.ret (.cst .aD)] .nil,.set 5 (¬3)] .nil,.ret (.bin .add (!5) (.ite (.cmp .gt (!4) (¬0)) (.bin .mul (.sub (!1) (¬2)) (!4)) (¬0)))],none⟩
noncomputable def br:Def:=⟨["_law_floor_here","_law_walker_here","_law_spot","_law_made","_law_k","_law_row","_law_column","_law_cost_here"],3,#v[.own 3 (.lst .nil),.cQ (.one 4) (.uc (¬9)) #v[.set 5 (.bin .add (.bin .sub (.sub (!2) (¬0)) (¬1)) (.bin .fdiv (!4) (¬3))),.set 6 (.bin .add (.bin .sub (.sub (!2) (¬1)) (¬1)) (.bin .mod (!4) (¬3))),.ite (.and (.ch .le .lt (¬0) (!5) (.blt .len #v[!0])) (.and (.ch .le .lt (¬0) (!6) (.blt .len #v[.sub (!0) (¬0)])) (.and (.cmp .ne (!4) (¬4)) (.cmp .ne (.sub (.sub (!0) (!5)) (!6)) (.cst (.str "#")))))) #v[.set 7 (.call "_law_cost" #v[!0,!1,!2,.tup #v[!5,!6]]),.ite (.cmp .A6 (!7) (.cst .aD)) #v[.app 3 (.tup #v[.tup #v[!5,!6],!7])] .nil] .nil],.bE 3,.ret (!3)],none⟩
noncomputable def bY:Def:=⟨["_law_floor_here","_law_walker_here","_law_starts","_law_steps_here","_law_costs_here","_law_again","_law_spot","_law_goal","_law_cost_here"],3,#v[.set 3 (.blt .dict #v[.comp 1 [1,0] (.one 0) (.seq (.call "_law_spots" #v[!0])) (.tup #v[!0,.call "_law_steps" #v[!2,!1,!0]])]),.mM 4 (.comp 1 [] (.one 0) (.seq (!2)) (.tup #v[!0,¬0])),.set 5 (.cst (.bl true)),.xD (!5) #v[.set 5 (.cst (.bl false)),.cQ (.one 6) (.seq (.blt .ma #v[.dR 4])) #v[.cQ (.two 7 8) (.seq (.sub (!3) (!6))) #v[.ite (.or (.cmp .lJ (!7) (.dR 4)) (.cmp .lt (.bin .add (.sub (.dR 4) (!6)) (!8)) (.sub (.dR 4) (!7)))) #v[.put 4 (!7) (.bin .add (.sub (.dR 4) (!6)) (!8)),.set 5 (.cst (.bl true))] .nil]]],.bE 4,.ret (!4)],none⟩
noncomputable def cO:Def:=⟨["_law_floor_here","_law_walker_here","_law_way","_law_spots_here","_law_cost_here","_law_k","_law_goal","_law_found"],3,#v[.set 3 (.call "_law_spots" #v[!0]),.ite (.or (.not (.ty .list (!2))) (.or (.cmp .eq (!2) (.lst .nil)) (.cmp .ne (.dc 1 [3] (.one 0) (.seq (!2)) (.cmp .lJ (!0) (!1)) (!0)) (.lst .nil)))) #v[.ret (.cst .aD)] .nil,.set 4 (¬0),.cQ (.two 5 6) (.enum (.slice (!2) (.some (¬1)) .no)) #v[.set 7 (.dc 1 [6] (.one 0) (.seq (.call "_law_steps" #v[!0,!1,.sub (!2) (!5)])) (.cmp .eq (.sub (!0) (¬0)) (!1)) (.sub (!0) (¬1))),.ite (.cmp .eq (!7) (.lst .nil)) #v[.ret (.cst .aD)] .nil,.set 4 (.bin .add (!4) (.sub (!7) (¬0)))],.ret (!4)],none⟩
noncomputable def bw:Def:=⟨["_law_floor_here","_law_walker_here","_law_goals","_law_spots_here","_law_steps_here","_law_costs_here","_law_again","_law_spot","_law_goal","_law_cost_here","_law_new"],3,#v[.set 3 (.call "_law_spots" #v[!0]),.set 4 (.blt .dict #v[.comp 1 [1,0] (.one 0) (.seq (!3)) (.tup #v[!0,.call "_law_steps" #v[!2,!1,!0]])]),.mM 5 (.comp 1 [] (.one 0) (.seq (!2)) (.tup #v[!0,¬0])),.set 6 (.cst (.bl true)),.xD (!6) #v[.set 6 (.cst (.bl false)),.cQ (.one 7) (.seq (!3)) #v[.cQ (.two 8 9) (.seq (.sub (!4) (!7))) #v[.ite (.cmp .Ax (!8) (.dR 5)) #v[.set 10 (.bin .add (.sub (.dR 5) (!8)) (!9)),.ite (.or (.cmp .lJ (!7) (.dR 5)) (.cmp .lt (!10) (.sub (.dR 5) (!7)))) #v[.put 5 (!7) (!10),.set 6 (.cst (.bl true))] .nil] .nil]]],.bE 5,.ret (!5)],none⟩
noncomputable def cE:Def:=⟨["_law_script","_law_floor_here","_law_walker_here","_law_spots_here","_law_start","_law_goal","_law_costs_here","_law_due","_law_answer","_law_cost_here","_law_way"],1,#v[.set 1 (.call "_law_floor" #v[!0,¬0,¬5]),.set 2 (.call "_law_walker" #v[!0,¬40]),.set 3 (.call "_law_spots" #v[!1]),.set 4 (.call "_law_any_spot" #v[!0,¬50,!1]),.set 5 (.call "_law_any_spot" #v[!0,¬52,!1]),.ite (.and (.cmp .gt (.call "_law_pick" #v[!0,¬54,¬4]) (¬0)) (.cmp .ne (!3) (.lst .nil))) #v[.set 4 (.sub (!3) (.call "_law_pick" #v[!0,¬55,.blt .len #v[!3]])),.set 5 (.sub (!3) (.call "_law_pick" #v[!0,¬56,.blt .len #v[!3]]))] .nil,.set 6 (.cst .aD),.ite (.cmp .Ax (!4) (!3)) #v[.set 6 (.call "_law_costs" #v[!1,!2,.lst #v[!4]])] .nil,.ite (.cmp .ne (.call "_law_tried" #v[¬1,!1,!2,!4,!5]) (.ite (.cmp .is (!6) (.cst .aD)) (.cst (.str "no spot")) (.sF (!6)))) #v[.ret (.cst (.bl false))] .nil,.set 7 (.cst (.str "no spot")),.ite (.cmp .Ax (!5) (!3)) #v[.set 7 (.sF (.call "_law_costs_to" #v[!1,!2,.lst #v[!5]]))] .nil,.ite (.cmp .ne (.call "_law_tried" #v[¬2,!1,!2,!4,!5]) (!7)) #v[.ret (.cst (.bl false))] .nil,.set 8 (.call "_law_tried" #v[¬0,!1,!2,!4,!5]),.ite (.or (.cmp .is (!6) (.cst .aD)) (.cmp .lJ (!5) (!3))) #v[.ret (.cmp .eq (!8) (.cst (.str "no spot")))] .nil,.ite (.cmp .lJ (!5) (!6)) #v[.ret (.cmp .is (!8) (.cst .aD))] .nil,.F8 (.two 9 10) (!8),.ret (.and (.cmp .eq (!9) (.sub (!6) (!5))) (.and (.cmp .eq (.sub (!10) (¬0)) (!4)) (.and (.cmp .eq (.sub (!10) (.neg (¬1))) (!5)) (.cmp .eq (.call "_law_sum" #v[!1,!2,!10]) (!9)))))],none⟩
noncomputable def oW:Def:=⟨["_law_script","_law_turn"],1,#v[.cQ (.one 1) (.uc (¬6)) #v[.ite (.not (.call "_law_once" #v[.comp 1 [1] (.one 0) (.seq (!0)) (.bin .add (!0) (.bin .mul (¬7919) (!1)))])) #v[.ret (.cst (.bl false))] .nil,.ite (.cmp .eq (!0) (.lst .nil)) #v[.brk] .nil],.ret (.cst (.bl true))],none⟩
def T0:List (Str×Def):=[]
noncomputable def T1:List (Str×Def):=(("_law_cell":Str),df)::T0
noncomputable def T2:List (Str×Def):=(("_law_pick":Str),bQ)::T1
noncomputable def T3:List (Str×Def):=(("_law_floor":Str),cG)::T2
noncomputable def T4:List (Str×Def):=(("_law_walker":Str),cJ)::T3
noncomputable def T5:List (Str×Def):=(("_law_spots":Str),bC)::T4
noncomputable def T6:List (Str×Def):=(("_law_any_spot":Str),bX)::T5
noncomputable def T7:List (Str×Def):=(("_law_word":Str),dJ)::T6
noncomputable def T8:List (Str×Def):=(("is_whole":Str),er)::T7
noncomputable def T9:List (Str×Def):=(("is_spot":Str),d6)::T8
noncomputable def JW:List (Str×Def):=(("is_on_floor":Str),cI)::T9
noncomputable def Ga:List (Str×Def):=(("is_open":Str),cR)::JW
noncomputable def Ta:List (Str×Def):=(("need_open":Str),aR)::Ga
noncomputable def Q8:List (Str×Def):=(("are_beside":Str),cT)::Ta
noncomputable def QI:List (Str×Def):=(("height_at":Str),dg)::Q8
noncomputable def Lh:List (Str×Def):=(("has_open_corners":Str),bB)::QI
noncomputable def Rg:List (Str×Def):=(("step_cost":Str),bI)::Lh
noncomputable def IG:List (Str×Def):=(("open_spots_beside":Str),bt)::Rg
noncomputable def Qy:List (Str×Def):=(("steps_from":Str),b9)::IG
noncomputable def P9:List (Str×Def):=(("steps_to":Str),dD)::Qy
noncomputable def IE:List (Str×Def):=(("spread@steps_to":Str),bJ)::P9
noncomputable def TF:List (Str×Def):=(("spread_to":Str),bH)::IE
noncomputable def MS:List (Str×Def):=(("traced":Str),fC)::TF
noncomputable def Qe:List (Str×Def):=(("least_way":Str),bP)::MS
noncomputable def Sk:List (Str×Def):=(("rising_costs":Str),bK)::Qe
noncomputable def N6:List (Str×Def):=(("spread@steps_from":Str),bo)::Sk
noncomputable def M6:List (Str×Def):=(("spread_from":Str),bO)::N6
noncomputable def Ny:List (Str×Def):=(("distances_from":Str),aX)::M6
noncomputable def D8:List (Str×Def):=(("distances_to":Str),bG)::Ny
noncomputable def TR:List (Str×Def):=(("_law_tried":Str),aF)::D8
noncomputable def Nc:List (Str×Def):=(("_law_cost":Str),cb)::TR
noncomputable def Qr:List (Str×Def):=(("_law_steps":Str),br)::Nc
noncomputable def Qw:List (Str×Def):=(("_law_costs":Str),bY)::Qr
noncomputable def QA:List (Str×Def):=(("_law_sum":Str),cO)::Qw
noncomputable def Am:List (Str×Def):=(("_law_costs_to":Str),bw)::QA
noncomputable def Va:List (Str×Def):=(("_law_once":Str),cE)::Am
def NI:den T1 "_law_cell"=ax (den T0) df:=dk 0
def O3:den T2 "_law_pick"=ax (den T1) bQ:=dk 0
def Nj:den T3 "_law_pick"=ax (den T1) bQ:=dk 1
def Pr:den T5 "_law_pick"=ax (den T1) bQ:=dk 3
def OH:den T8 "is_whole"=ax (den T7) er:=dk 0
def JM:den JW "is_spot"=ax (den T8) d6:=dk 1
def Ei:den JW "is_on_floor"=ax (den T9) cI:=dk 0
def wH:den Ga "is_open"=ax (den JW) cR:=dk 0
def Ex:den Q8 "need_open"=ax (den Ga) aR:=dk 1
def Fb:den QI "is_open"=ax (den JW) cR:=dk 3
def FF:den Lh "are_beside"=ax (den Ta) cT:=dk 2
def G7:den Lh "has_open_corners"=ax (den QI) bB:=dk 0
def Eo:den Lh "height_at"=ax (den Q8) dg:=dk 1
def F0:den Rg "is_open"=ax (den JW) cR:=dk 5
def FP:den IG "need_open"=ax (den Ga) aR:=dk 5
def Gu:den IG "open_spots_beside"=ax (den Rg) bt:=dk 0
def Gd:den IG "step_cost"=ax (den Lh) bI:=dk 1
def F2:den Qy "steps_from"=ax (den IG) b9:=dk 0
def Fj:den Qy "step_cost"=ax (den Lh) bI:=dk 2
def Fc:den P9 "steps_to"=ax (den Qy) dD:=dk 0
def xW:den IE "need_open"=ax (den Ga) aR:=dk 8
def Fm:den IE "spread@steps_to"=ax (den P9) bJ:=dk 0
def qt:den MS "need_open"=ax (den Ga) aR:=dk 10
def yh:den MS "spread_to"=ax (den IE) bH:=dk 1
def Hq:den MS "traced"=ax (den TF) fC:=dk 0
def Ep:den Sk "steps_from"=ax (den IG) b9:=dk 6
def wA:den N6 "need_open"=ax (den Ga) aR:=dk 13
def EK:den N6 "spread@steps_from"=ax (den Sk) bo:=dk 0
def FR:den M6 "rising_costs"=ax (den Qe) bK:=dk 2
def wN:den M6 "spread_from"=ax (den N6) bO:=dk 0
def Em:den Ny "rising_costs"=ax (den Qe) bK:=dk 3
def xR:den Ny "spread_to"=ax (den IE) bH:=dk 6
def wV:den D8 "least_way"=ax (den MS) bP:=dk 5
def xV:den D8 "distances_from"=ax (den M6) aX:=dk 1
def wc:den D8 "distances_to"=ax (den Ny) bG:=dk 0
def I0:den D8 "_law_word"=ax (den T6) dJ:=dk 21
def Ff:den Nc "_law_cost"=ax (den TR) cb:=dk 0
def IY:den Qr "_law_spots"=ax (den T4) bC:=dk 26
def EN:den Qr "_law_steps"=ax (den Nc) br:=dk 0
def Ku:den Qw "_law_spots"=ax (den T4) bC:=dk 27
def FU:den Qw "_law_steps"=ax (den Nc) br:=dk 1
def KD:den QA "_law_spots"=ax (den T4) bC:=dk 28
def GG:den QA "_law_steps"=ax (den Nc) br:=dk 2
def LK:den Am "_law_floor"=ax (den T2) cG:=dk 31
def Jh:den Am "_law_walker"=ax (den T3) cJ:=dk 30
def LL:den Am "_law_spots"=ax (den T4) bC:=dk 29
def Ln:den Am "_law_any_spot"=ax (den T5) bX:=dk 28
def Lw:den Am "_law_pick"=ax (den T1) bQ:=dk 32
def FL:den Am "_law_costs"=ax (den Qr) bY:=dk 2
def Ee:den Am "_law_tried"=ax (den D8) aF:=dk 5
def Hh:den Am "_law_costs_to"=ax (den QA) bw:=dk 0
def Hf:den Am "_law_sum"=ax (den Qw) cO:=dk 1
def F4:den Va "_law_once"=ax (den Am) cE:=dk 0
end K10
namespace L2
open PySem PySem.Spec PyProof.Rows PySem.W
theorem run_bind{α β:Type}(lt:Nat->Nat->Bool)(f:α->KasT β):∀t:KasT α,aH lt (t.bind f)=aH lt (f (aH lt t))
 |.ret a=>rfl
 |.ask i j k=>run_bind lt f (k (lt i j))
structure Lo(n:Nat)(lt:Nat->Nat->Bool):Prop where
 t:∀a b,a<n->b<n->a≠b->lt a b=true\/lt b a=true
 a:∀a b,lt a b=true->lt b a=false
 r:∀a b c,lt a b=true->lt b c=true->lt a c=true
abbrev gp(p:Array Nat)(i:Nat):Nat:=p.getD i 0
def Sg(lt:Nat->Nat->Bool)(p:Array Nat)(r:Nat):Prop:=∀i j,i<j->j<r->lt (gp p i) (gp p j)=true
section
variable{n:Nat}{lt:Nat->Nat->Bool}
def Pm.size{p:Array Nat}(h:Pm n p):p.size=n:=by
 have:=h.length_eq
 simpa using this
def Pm.ne{p:Array Nat}(h:Pm n p){i j:Nat}(hi:i<n)(hj:j<n)(hn:i≠j):gp p i≠gp p j:=by
 have nd:p.toList.Nodup:=h.nodup_iff.2 List.nodup_range
 have sz:=h.size
 intro e;rw [gp,gp,Array.getD_eq_getD_getElem?,Array.getD_eq_getD_getElem?,zz2 (by omega),zz2 (by omega)] at e;simp! [Option.getD_some] at e;have:=(List.getElem_inj nd (h₀:=by simpa [sz] using hi) (h₁:=by simpa [sz] using hj)).1 (by simpa using e)
 exact hn this
def Pm.or{p:Array Nat}(L:Lo n lt)(h:Pm n p){i j:Nat}(hi:i<n)(hj:j<n)(hn:i≠j)(f:lt (gp p i) (gp p j)=false):lt (gp p j) (gp p i)=true:=
 (L.t _ _ (h.lt (by omega) i) (h.lt (by omega) j) (h.ne hi hj hn)).resolve_left (by rw [f];exact zzf)
def Sg.one(p:Array Nat):Sg lt p 1:=λi j h1 h2=>by omega
def Sg.snoc(L:Lo n lt){p:Array Nat}{m:Nat}(h1:1<=m)(h:Sg lt p m)(e:lt (gp p (m-1)) (gp p m)=true):Sg lt p (m+1):=λi j sE hj=>by
 by_cases hm:j=m
 ·subst hm
  by_cases hi:i=j-1
  ·subst hi;exact e
  ·exact L.r _ _ _ (h i (j-1) (by omega) (by omega)) e
 ·exact h i j sE (by omega)
theorem qB(L:Lo n lt){p:Array Nat}(P:Pm n p):∀f m,1<=m->m+f<=n->Sg lt p m->m<=aH lt (kas_asc p f m)/\aH lt (kas_asc p f m)<=m+f/\Sg lt p (aH lt (kas_asc p f m))/\(aH lt (kas_asc p f m)<m+f->lt (gp p (aH lt (kas_asc p f m))) (gp p (aH lt (kas_asc p f m)-1))=true)
 |0,m,h1,h2,h3=>⟨zzE _,zzE _,h3,λz=>absurd z (Nat.lt_irrefl _)⟩
 |f+1,m,h1,h2,h3=>by
  unfold kas_asc;simp! [aH];cases e:lt (gp p m) (gp p (m-1)) with
  |true=>rw [if_pos rfl];exact⟨zzE _,Nat.le_add_right _ _,h3,λ_=>e⟩
  |false=>
   rw [if_neg zzf];have e2:=P.or L (by omega) (by omega) (by omega) e
   obtain⟨a,b,c,d⟩:=qB L P f (m+1) (by omega) (by omega) (h3.snoc L h1 e2)
   exact⟨by omega,by omega,c,λz=>d (by omega)⟩
def Dg(lt:Nat->Nat->Bool)(p:Array Nat)(r:Nat):Prop:=∀i j,i<j->j<r->lt (gp p j) (gp p i)=true
theorem sP(L:Lo n lt){p:Array Nat}(P:Pm n p):∀f m,1<=m->m+f<=n->Dg lt p m->∃m',aH lt (kas_desc f p m 0)=(p,m',0)/\m<=m'/\m'<=m+f/\Dg lt p m'
 |0,m,h1,h2,h3=>⟨m,rfl,zzE _,zzE _,h3⟩
 |f+1,m,h1,h2,h3=>by
  unfold kas_desc;simp! [aH];cases e:lt (gp p m) (gp p (m-1)) with
  |true=>
   rw [if_pos rfl,if_neg (Nat.lt_irrefl 0)];obtain⟨m',a,b,c,d⟩:=sP L P f (m+1) (by omega) (by omega) (λi j sE hj=>by
    by_cases hm:j=m
    ·subst hm
     by_cases hi:i=j-1
     ·subst hi;exact e
     ·exact L.r _ _ _ e (h3 i (j-1) (by omega) (by omega))
    ·exact h3 i j sE (by omega))
   exact⟨m',a,by omega,by omega,d⟩
  |false=>
   have e2:=P.or L (by omega) (by omega) (by omega) e
   rw [if_neg zzf];simp! [aH];rw [show lt (p.getD (m-1) 0) (p.getD m 0)=true from e2,if_pos rfl];exact⟨m,rfl,zzE _,by omega,h3⟩
def yf{p:Array Nat}{m:Nat}(h:m<=p.size)(k:Nat):gp (kas_rev p 0 m) k=if k<m then gp p (m-1-k) else gp p k:=by
 unfold kas_rev gp;rw [Array.getD_eq_getD_getElem?,getElem?_mirror_all h];simp! [Nat.zero_le,true_and,Nat.zero_add];split<;>rw [Array.getD_eq_getD_getElem?]
def Dg.rev{p:Array Nat}{m:Nat}(h:m<=p.size)(d:Dg lt p m):Sg lt (kas_rev p 0 m) m:=λi j sE hj=>by
 rw [yf h,yf h,if_pos (by omega),if_pos hj];exact d _ _ (by omega) (by omega)
def zf(L:Lo n lt)(h0:0<n){p:Array Nat}(P:Pm n p):Sg lt (aH lt (kas_count n p)).2 (aH lt (kas_count n p)).1/\Pm n (aH lt (kas_count n p)).2/\1<=(aH lt (kas_count n p)).1/\(aH lt (kas_count n p)).1<=n:=by
 unfold kas_count;rw [run_bind];obtain⟨a,b,c,d⟩:=qB L P (n-1) 1 (zzE _) (by omega) (Sg.one p)
 generalize aH lt (kas_asc p (n-1) 1)=m at a b c d
 split
 ·exact⟨c,P,a,by show m<=n;omega⟩
 ·rename_i hm;have kG:m≠n:=λz=>hm (by rw [z];exact beq_self_eq_true n)
  split
  ·rename_i h1;simp! [aH];rw [show lt (p.getD 0 0) (p.getD (m-1) 0)=true from c 0 (m-1) (by omega) (by omega),if_pos rfl];exact⟨c,P,a,by show m<=n;omega⟩
  ·have MC:m=1:=by omega
   subst MC;have e:=d (by omega)
   unfold kas_descPart;rw [run_bind];obtain⟨m',r,r1,r2,r3⟩:=sP L P (n-(1+1)) (1+1) (by omega) (by omega) (λi j sE hj=>by
    have WG:i=0:=by omega
    have WH:j=1:=by omega
    subst WG;subst WH;exact e)
   rw [r];dsimp only;rw [if_neg (Nat.lt_irrefl 0)];unfold kas_tail3;rw [run_bind];have P':=P.rev 0 m'
   obtain⟨a',b',c',_⟩:=qB L P' (n-m') m' (by omega) (by omega) (r3.rev (by rw [P.size];omega))
   simp! [aH];exact⟨c',P',by omega,by omega⟩
theorem kq(L:Lo n lt){p:Array Nat}(P:Pm n p){k:Nat}(hk:k<n)(S:Sg lt p k):∀f l r,r-l<=f->l<=r->r<=k->(∀i,i<l->lt (gp p i) (gp p k)=true)->(∀i,r<=i->i<k->lt (gp p k) (gp p i)=true)->
 aH lt (kas_place p k f l r)<=k/\(∀i,i<aH lt (kas_place p k f l r)->lt (gp p i) (gp p k)=true)/\∀i,aH lt (kas_place p k f l r)<=i->i<k->lt (gp p k) (gp p i)=true
 |0,l,r,h1,h2,h3,h4,h5=>by
  have hl:l=r:=by omega
  subst hl;exact⟨h3,h4,h5⟩
 |f+1,l,r,h1,h2,h3,h4,h5=>by
  unfold kas_place;split
  ·have hl:l=r:=by omega
   subst hl;exact⟨h3,h4,h5⟩
  ·simp! [aH];have bS:l<r:=by omega
   have m1:l<=(l+r)/2:=by omega
   have m2:(l+r)/2<r:=by omega
   generalize hm:(l+r)/2=m at m1 m2
   cases e:lt (gp p k) (gp p m) with
   |true=>
    rw [if_pos rfl];refine kq L P hk S f l m (by omega) m1 (by omega) h4 λi hi Vy=>?_
    by_cases z:i=m
    ·subst z;exact e
    ·exact L.r _ _ _ e (S m i (by omega) Vy)
   |false=>
    rw [if_neg zzf];have e2:=P.or L hk (by omega) (by omega) e
    refine kq L P hk S f (m+1) r (by omega) (by omega) h3 (λi hi=>?_) h5
    by_cases z:i=m
    ·subst z;exact e2
    ·exact L.r _ _ _ (S i m (by omega) (by omega)) e2
def xu{p:Array Nat}{k x:Nat}(hk:k<p.size)(hx:x<=k)(i:Nat):gp (bubble p k (k-x)) i=if i=x then gp p k else if x<i/\i<=k then gp p (i-1) else gp p i:=by
 have g:∀(q:Array Nat) j,gp q j=(q[j]?).getD 0:=λq j=>Array.getD_eq_getD_getElem? ..
 rw [g,g,g,g,getElem?_bubble hk (k-x) (by omega),show k-(k-x)=x by omega];split
 ·rfl
 ·split<;>rfl
theorem xT(L:Lo n lt):∀f (p:Array Nat) k,k+f=n->Pm n p->Sg lt p k->Sg lt (aH lt (kas_bin f p k)) n
 |0,p,k,h,P,S=>by
  have:k=n:=by omega
  subst this;exact S
 |f+1,p,k,h,P,S=>by
  unfold kas_bin;rw [run_bind];obtain⟨a,b,c⟩:=kq L P (k:=k) (by omega) S k 0 k (by omega) (Nat.zero_le _) (zzE _) (λi hi=>absurd hi (Nat.not_lt_zero _)) (λi h1 h2=>by omega)
  generalize aH lt (kas_place p k k 0 k)=x at a b c
  refine xT L f _ (k+1) (by omega) (P.TX _ _) λi j sE hj=>?_
  have hs:k<p.size:=by rw [P.size];omega
  rw [xu hs a,xu hs a]
  by_cases hi:i=x
  ·rw [if_pos hi,if_neg (by omega),if_pos (by omega)];exact c _ (by omega) (by omega)
  ·rw [if_neg hi]
   by_cases Ah:j=x
   ·rw [if_pos Ah,if_neg (by omega)];exact b _ (by omega)
   ·rw [if_neg Ah]
    by_cases i2:x<i/\i<=k
    ·rw [if_pos i2,if_pos (by omega)];exact S _ _ (by omega) (by omega)
    ·rw [if_neg i2]
     by_cases j2:x<j/\j<=k
     ·rw [if_pos j2]
      by_cases z:i=j-1
      ·omega
      ·exact S _ _ (by omega) (by omega)
     ·rw [if_neg j2];exact S _ _ sE (by omega)
def n8(L:Lo n lt)(h0:0<n):(jZ n lt).Pairwise λa b=>lt a b=true:=by
 have key:Sg lt (aH lt (kas_sort n)) n:=by
  unfold kas_sort;rw [run_bind];obtain⟨a,b,c,d⟩:=zf L h0 (p:=(List.range n).toArray) (List.Perm.refl _)
  generalize aH lt (kas_count n (List.range n).toArray)=r at a b c d
  split
  ·rw [Nat.max_eq_left c];exact xT L _ _ _ (by omega) b a
  ·have:r.1=n:=by omega
   rw [this] at a;exact a
 have P:Pm n (aH lt (kas_sort n)):=gX h0 lt
 have sz:=P.size
 rw [List.pairwise_iff_getElem];intro i j hi hj sE;have Ah:j<(aH lt (kas_sort n)).size:=by simpa [jZ] using hj
 have:=key i j sE (by omega)
 simpa [gp,jZ,Array.getD_eq_getD_getElem?,zz2 Ah,zz2 (Nat.lt_trans sE Ah)] using this
end
end L2
namespace K10
open PySem L2 Ci KJ
abbrev sp(r c:Int):PV:=.tup [.int r,.int c]
abbrev fM(ns:List Int):PV:=.lst (ns.map .int)
theorem aI{i:Int}:dS .abs [.int i]=.ok (.int (if i<0 then -i else i)):=rfl
theorem mX{i j:Int}:dS .max2 [.int i,.int j]=.ok (.int (if j>i then j else i)):=rfl
theorem UL:dN .gt=vi:=rfl
theorem Uc{i j:Int}:vi (.int i) (.int j)=.ok (.bl (decide (j<i))):=rfl
theorem OC:dN .A6=f6:=rfl
abbrev wk(sl:Bool)(cl pr:Int):PV:=.tup [.bl sl,.int cl,.int pr]
theorem OZ{r c:Int}:aG (sp r c) (.int 0)=.ok (.int r):=rfl
theorem NS{r c:Int}:aG (sp r c) (.int 1)=.ok (.int c):=rfl
theorem Ul{sl:Bool}{cl pr:Int}:aG (wk sl cl pr) (.int 0)=.ok (.bl sl):=rfl
theorem UA{sl:Bool}{cl pr:Int}:aG (wk sl cl pr) (.int 1)=.ok (.int cl):=rfl
theorem U7{sl:Bool}{cl pr:Int}:aG (wk sl cl pr) (.int 2)=.ok (.int pr):=rfl
theorem nI{i j:Int}:gL (.int i) (.int j)=.ok (.bl (!(i==j))):=rfl
theorem eI{i j:Int}:gq (.int i) (.int j)=.ok (.bl (i==j)):=rfl
theorem nS{r c r' c':Int}:gL (sp r c) (sp r' c')=.ok (.bl (!((r==r')&&((c==c')&&true)))):=rfl
theorem eS{r c r' c':Int}:gq (sp r c) (sp r' c')=.ok (.bl ((r==r')&&((c==c')&&true))):=rfl
theorem TU:dN .is=i4:=rfl
theorem KC{α β:Type}{c:Str}{f:α->Res β}:(Res.exc c:Res α).bind f=.exc c:=rfl
noncomputable def J2:=And.intro @OZ (And.intro @NS (And.intro @Ul (And.intro @UA (And.intro @U7 (And.intro @aI (And.intro @mX (And.intro @UL (And.intro @Uc (And.intro @nI (And.intro @eI (And.intro @nS (And.intro @eS (And.intro @OC (And.intro @TU (And.intro @KC (And.intro @Qp (And.intro @Qj (@PZ))))))))))))))))))
set_option hygiene false
local macro_rules | `(tactic| simp! only [$x,*] $[$l:location]?) => `(tactic| simp only [ax, cx, cA, aE, fH, aK, cY, xj, sU, fZ, k9, iG, List.replicate, Nat.reduceAdd, Nat.reduceSub, reduceIte, ite_true, ite_false, BEq.rfl, beq_self_eq_true, rO, MQ, Tj, U9, UM, Ua, sv, Tz, US, Ik, Ij, Ip, Nv, O4, O9, ON, TV, Vl, TK, Vi, U1, Pq, oLt, oLe, lL, lT, lS, tL, Qd, S7, D1, jA, jB, jC, jD, jE, jF, jG, jH, jI, jJ, jK, jL, jM, jN, jO, jP, KJ.rP, UC, Qj, Qp, PZ, jQ, jR, OZ, NS, Ul, UA, U7, aI, mX, UL, Uc, nI, eI, nS, eS, OC, TU, KC, $x,*] $[$l]?)
local macro_rules | `(tactic| dsimp! only [$x,*] $[$l:location]?) => `(tactic| simp only [ax, cx, cA, aE, fH, aK, cY, xj, sU, fZ, k9, iG, List.replicate, Nat.reduceAdd, Nat.reduceSub, reduceIte, ite_true, ite_false, BEq.rfl, beq_self_eq_true, J, J2, $x,*] $[$l]?)
set_option hygiene true
theorem qO(F:aL)(i:Int):ax F er [.int i]=.ok (.bl true):=by rfl
def gO{α:Type}{xs:List α}{k:Nat}(h:k<xs.length):rC xs (k:Int)=some xs[k]:=by
 unfold rC HA;have:((k:Nat):Int)<(xs.length:Int):=by omega
 simp [this,h]
def wj{ns:List Int}{k:Int}(h0:0<=k)(h:k<ns.length):∃m,rC (ns.map PV.int) k=some (.int m):=by
 obtain⟨j,rfl⟩:=zzw h0
 refine⟨ns[j]'(by omega),?_⟩;rw [gO (k:=j) (by simp;omega)];simp
def Cp(ns:List Int)(n:Nat):Ci.plain (n+1) (.lst (ns.map .int))=true:=by
 simp! [Ci.plain,zzT,zzx]
 rintro x ⟨i,_,rfl⟩
 cases n<;>rfl
def eq_nil(ns:List Int):gq (fM ns) (.lst [])=.ok (.bl (decide (ns=[]))):=by
 have e:uF (fM ns)=true:=Cp ns 8
 unfold gq;rw [e];cases ns<;>rfl
def Fw(F:aL)(ns:List Int)(k:Int)(hk:0<=k):∃m,ax F df [fM ns,.int k]=.ok (.int m):=by
 simp! only [df,zzl,eq_nil]
 by_cases h:k<(ns.length:Int)
 ·obtain⟨m,e⟩:=wj hk h
  refine⟨m,?_⟩;simp! only [h,decide_true,aG,e]
 ·simp! only [h,decide_false,eq_nil];cases ns with
  |nil=>exact⟨0,rfl⟩
  |cons n ns=>
   have hl:(0:Int)<((n::ns).length:Int):=by simp! [zzL];omega
   obtain⟨m,e⟩:=wj (ns:=n::ns) (k:=k%((n::ns).length:Int)) (Int.emod_nonneg _ (by omega)) (Int.emod_lt_of_pos _ hl)
   refine⟨m*31+k,?_⟩;have e3:(aO m||aO 31)=true:=by rw [zzt];exact .inr (by decide)
   have e4:aG (fM (n::ns)) (.int (k%((n::ns).length:Int)))=.ok (.int m):=by simp! [aG,e];rfl
   have e5:decide ((n::ns)=[])=false:=rfl
   simp! [zzL] at hl e4;simp! only [e5,zzl,hl,e4,e3]
def Gy(F:aL)(hc:∀ns k,0<=k->∃m,F "_law_cell" [fM ns,.int k]=.ok (.int m))(ns:List Int)(k q:Int)(hk:0<=k)(hq:0<q):∃m,ax F bQ [fM ns,.int k,.int q]=.ok (.int m)/\0<=m/\m<q:=by
 obtain⟨m,e⟩:=hc ns k hk
 have s1:(aO 6151||aO (k+1))=true:=by rw [zzt];exact .inl (by decide)
 have s2:(aO (m+6151*(k+1))||aO 40692)=true:=by rw [zzt];exact .inr (by decide)
 have s3:(0:Int)<2147483399:=by decide
 have s4:(0:Int)<2147483629:=by decide
 have s5:(0:Int)<31/\(31:Int)<1073741824:=by decide
 have a0:=Int.emod_nonneg ((m+6151*(k+1))*40692) (b:=2147483399) (by decide)
 have a1:=Int.emod_lt_of_pos ((m+6151*(k+1))*40692) s3
 refine⟨((((m+6151*(k+1))*40692%2147483399)*((m+6151*(k+1))*40692%2147483399)+((m+6151*(k+1))*40692%2147483399)/31)%2147483629)%q,?_,Int.emod_nonneg _ (by omega),Int.emod_lt_of_pos _ hq⟩;generalize hd:(m+6151*(k+1))*40692%2147483399=d at a0 a1
 have s6:(aO d||aO d)=true:=by
  have:aO d=true:=by simp! [aO,zza,zzN];omega
  rw [this];rfl
 simp! only [bQ,fM] at e⊢;simp! only [e,s1,s2,s3,s4,s5,hd,s6,hq,and_self]
def lB(aa:List Str):Prop:=aa.length<=6/\∀z∈aa,z.length<=6
abbrev fl(aa:List Str):PV:=.tup (aa.map .str)
def cd(aa:List Str)(r c:Nat):Option Nat:=(aa[r]?).bind λz=>z.cps.toList[c]?
def DX(aa:List Str)(r c:Nat):Bool:=match cd aa r c with|some x=>x !=35|none=>false
def bj(aa:List Str)(r c:Int):Bool:=decide (0<=r)&&decide (0<=c)&&DX aa r.toNat c.toNat
def v9(F:aL)(h:∀i,F "is_whole" [.int i]=.ok (.bl true))(r c:Int):ax F d6 [sp r c]=.ok (.bl true):=by
 have e0:aG (sp r c) (.int 0)=.ok (.int r):=rfl
 have e1:aG (sp r c) (.int 1)=.ok (.int c):=rfl
 have e2:gq (.int ((2:Nat):Int)) (.int 2)=.ok (.bl true):=rfl
 simp! only [d6,vm,h,e0,e1,e2]
def Od(F:aL)(aa:List Str)(R:lB aa)(r c:Int):ax F cI [fl aa,sp r c]=.ok (.bl (decide (0<=r)&&decide (0<=c)&&(cd aa r.toNat c.toNat).isSome)):=by
 have e0:aG (sp r c) (.int 0)=.ok (.int r):=rfl
 have e1:aG (sp r c) (.int 1)=.ok (.int c):=rfl
 simp! only [cI,vm,e0,e1,tX,sC,zzl]
 by_cases h0:0<=r
 ·by_cases h1:r<(aa.length:Int)
  ·obtain⟨j,rfl⟩:=zzw h0
   have hj:j<aa.length:=by omega
   have e2:aG (fl aa) (.int (j:Int))=.ok (.str aa[j]):=by
    simp! [aG,fl];rw [gO (k:=j) (by simpa using hj)];simp [Res.of]
   have e3:(aa[j]).length<=fv:=zzU (R.2 _ (List.getElem_mem hj)) (by decide)
   have e4:(aa[j]).cps.size=(aa[j]).length:=rfl
   simp! only [h0,h1,decide_true,e2,e3]
   by_cases h2:0<=c
   ·obtain⟨i,rfl⟩:=zzw h2
    simp! only [h2,decide_true,cd,zz4,zzg hj,Option.bind_some,Bool.and_self,Bool.true_and,Res.ok.injEq,PV.bl.injEq];rw [Bool.eq_iff_iff];simp [e4]
   ·simp [ax,cx,cA,aE,fH,aK,cY,xj,sU,fZ,k9,iG,List.replicate,Nat.reduceAdd,Nat.reduceSub,reduceIte,ite_true,ite_false,BEq.rfl,beq_self_eq_true,J,h2]
  ·have:cd aa r.toNat c.toNat=none:=by
    unfold cd;rw [List.getElem?_eq_none (by omega)];rfl
   simp [ax,cx,cA,aE,fH,aK,cY,xj,sU,fZ,k9,iG,List.replicate,Nat.reduceAdd,Nat.reduceSub,reduceIte,ite_true,ite_false,BEq.rfl,beq_self_eq_true,J,h0,h1,this]
 ·simp [ax,cx,cA,aE,fH,aK,cY,xj,sU,fZ,k9,iG,List.replicate,Nat.reduceAdd,Nat.reduceSub,reduceIte,ite_true,ite_false,BEq.rfl,beq_self_eq_true,J,h0]
def Dt{aa:List Str}{j:Nat}{z:Str}(h:aa[j]?=some z):aG (fl aa) (.int (j:Int))=.ok (.str z):=by
 obtain⟨hj,rfl⟩:=zzH.1 h
 simp! [aG,fl];rw [gO (k:=j) (by simpa using hj)];simp [Res.of]
def GZ{z:Str}{i x:Nat}(hz:z.length<=fv)(h:z.cps.toList[i]?=some x):aG (.str z) (.int (i:Int))=.ok (.str ⟨#[x]⟩):=by
 obtain⟨hj,rfl⟩:=zzH.1 h
 simp! [aG,hz,if_true];rw [gO (k:=i) hj]
 rfl
def AY{aa:List Str}(R:lB aa){j i x:Nat}(h:cd aa j i=some x):∃z,aa[j]?=some z/\aG (fl aa) (.int (j:Int))=.ok (.str z)/\aG (.str z) (.int (i:Int))=.ok (.str ⟨#[x]⟩):=by
 unfold cd at h;cases hz:aa[j]? with
 |none=>rw [hz] at h;cases h
 |some z=>
  rw [hz] at h;exact⟨z,rfl,Dt hz,GZ (zzU (R.2 _ (zzD hz)) (by decide)) h⟩
def v5(x:Nat):gL (.str ⟨#[x]⟩) (.str "#")=.ok (.bl (x !=35)):=by
 have:(("#":Str))=⟨#[35]⟩:=by decide+kernel
 rw [this];show Res.ok (PV.bl (!((⟨#[x]⟩:Str)==⟨#[35]⟩)))=_
 congr 2
 rw [bne,Bool.eq_iff_iff];simp
def FX(F:aL)(hs:∀r c,F "is_spot" [sp r c]=.ok (.bl true))(ho:∀aa,lB aa->∀r c,F "is_on_floor" [fl aa,sp r c]=.ok (.bl (decide (0<=r)&&decide (0<=c)&&(cd aa r.toNat c.toNat).isSome)))
 (aa:List Str) (R:lB aa) (r c:Int):ax F cR [fl aa,sp r c]=.ok (.bl (bj aa r c)):=by
 have e0:aG (sp r c) (.int 0)=.ok (.int r):=rfl
 have e1:aG (sp r c) (.int 1)=.ok (.int c):=rfl
 simp! only [cR,hs,ho aa R,e0,e1];unfold bj DX
 by_cases h0:0<=r
 ·by_cases h1:0<=c
  ·obtain⟨j,rfl⟩:=zzw h0
   obtain⟨i,rfl⟩:=zzw h1
   simp! [h0,h1,decide_true,Bool.true_and,Bool.and_self,zz4];cases hc:cd aa j i with
   |none=>simp [ax,cx,cA,aE,fH,aK,cY,xj,sU,fZ,k9,iG,List.replicate,Nat.reduceAdd,Nat.reduceSub,reduceIte,ite_true,ite_false,BEq.rfl,beq_self_eq_true,J]
   |some x=>
    obtain⟨z,_,e2,e3⟩:=AY R hc
    simp! only [Option.isSome_some,e2,e3,v5]
  ·simp [ax,cx,cA,aE,fH,aK,cY,xj,sU,fZ,k9,iG,List.replicate,Nat.reduceAdd,Nat.reduceSub,reduceIte,ite_true,ite_false,BEq.rfl,beq_self_eq_true,J,h1]
 ·simp [ax,cx,cA,aE,fH,aK,cY,xj,sU,fZ,k9,iG,List.replicate,Nat.reduceAdd,Nat.reduceSub,reduceIte,ite_true,ite_false,BEq.rfl,beq_self_eq_true,J,h0]
def rA(F:aL)(ho:∀aa,lB aa->∀r c,F "is_open" [fl aa,sp r c]=.ok (.bl (bj aa r c)))(aa:List Str)(R:lB aa)(r c:Int)(h:bj aa r c=true):ax F aR [fl aa,sp r c]=.ok .aD:=by
 simp! only [aR,ho aa R,h]
abbrev Ii(p:Int×Int):PV:=sp p.1 p.2
theorem d7{α:Type}{f:PV->Res (Option PV)}{p:α->PV}{g:α->PV}:∀{xs:List α},(∀x∈xs,f (p x)=.ok (some (g x)))->bq f (xs.map p)=.ok (xs.map g)
 |[],_=>rfl
 |x::xs,h=>by
  simp! [zzF,bq,h x (zzP ..),Res.well,Res.bind,d7 (xs:=xs) λy hy=>h y (zzI _ hy),oc]
def lY{aa:List Str}{r c:Int}:bj aa r c=true↔0<=r/\0<=c/\DX aa r.toNat c.toNat=true:=by
 simp! [bj,zza,zzN,and_assoc]
theorem ie{body:PV->Sl->Res Fl}{P:Nat->Sl->Prop}:∀(xs:List PV) (k:Nat) (env:Sl),P k env->(∀i x env,xs[i]?=some x->P (k+i) env->∃au,body x env=.ok (.nx au)/\P (k+i+1) au)->∃au,forL body xs env=.ok (.nx au)/\P (k+xs.length) au
 |[],k,env,h,_=>⟨env,rfl,h⟩
 |x::xs,k,env,h,g=>by
  obtain⟨e1,b1,p1⟩:=g 0 x env rfl h
  obtain⟨e2,b2,p2⟩:=ie xs (k+1) e1 p1 λi y env hy hp=>by
   obtain⟨e3,b3,p3⟩:=g (i+1) y env hy (by rw [show k+(i+1)=k+1+i by omega];exact hp)
   exact⟨e3,b3,by rw [show k+1+i+1=k+(i+1)+1 by omega];exact p3⟩
  refine⟨e2,?_,by rw [zzL,show k+(xs.length+1)=k+1+xs.length by omega];exact p2⟩;simp! [forL,b1,rO,b2]
def B5{n i:Nat}{x:PV}(h:(fy 0 n)[i]?=some x):i<n/\x=.int (i:Int):=by
 simp! [fy,zzQ,zzJ] at h;obtain⟨j,hj,rfl⟩:=h
 obtain⟨h1,h2⟩:=zzH.1 hj
 simp! [List.getElem_range] at h2;subst h2;simp! [List.length_range] at h1;exact⟨h1,by simp⟩
def iE(F:aL):Prop:=∀(ns:List Int) (k q:Int),0<=k->0<q->∃m,F "_law_pick" [fM ns,.int k,.int q]=.ok (.int m)/\0<=m/\m<q
def rE{a b c d m:Int}(h0:0<=m)(h1:m<4):∃v,aG (.lst [.int a,.int b,.int c,.int d]) (.int m)=.ok (.int v)/\(v=a\/v=b\/v=c\/v=d):=by
 have:m=0\/m=1\/m=2\/m=3:=by omega
 rcases this with rfl|rfl|rfl|rfl
 ·exact⟨a,rfl,.inl rfl⟩
 ·exact⟨b,rfl,.inr (.inl rfl)⟩
 ·exact⟨c,rfl,.inr (.inr (.inl rfl))⟩
 ·exact⟨d,rfl,.inr (.inr (.inr rfl))⟩
noncomputable def HW:Ss:=#v[.set 11 (.call "_law_pick" #v[!0,.bin .add (.bin .add (.bin .add (!1) (¬4)) (.bin .mul (!2) (!8))) (!10),.bin .mul (¬12) (!6)]),.set 9 (.bin .add (!9) (.ite (.cmp .lt (.bin .mod (!11) (¬12)) (!5)) (.cst (.str "#")) (.blt .str #v[.bin .fdiv (!11) (¬12)])))]
noncomputable def JC:Ss:=#v[.set 9 (.cst (.str "")),.cQ (.one 10) (.uc (!4)) HW,.app 7 (!9)]
structure Fl(aa:List Str)(w:Nat):Prop where
 qe:lB aa
 ne:0<aa.length
 w1:1<=w
 EO:∀z∈aa,z.length=w
 dig:∀z∈aa,∀x∈z.cps.toList,x=35\/(48<=x/\x<=57)
def EY{v:Int}(h0:0<=v)(h1:v<10):dS .str [.int v]=.ok (.str ⟨#[48+v.toNat]⟩):=by
 obtain⟨n,rfl⟩:=zzw h0
 have key:∀k:Fin 10,(((k.1:Nat):Int).natAbs.log2<1920)/\((toString ((k.1:Nat):Int)):Str)=⟨#[48+k.1]⟩:=by decide+kernel
 have k:=key ⟨n,Int.ofNat_lt.1 h1⟩
 show(if _ then Res.ok (PV.str _) else _)=_
 rw [if_pos k.1,zz4,k.2]
def E9{x:Nat}(h0:48<=x)(h1:x<=57):dS .int [.str ⟨#[x]⟩]=.ok (.int ((x:Int)-48)):=by
 have key:∀k:Fin 10,PySem.intText? (⟨#[48+k.1]⟩:Str)=some (((48+k.1:Nat):Int)-48):=by decide+kernel
 obtain⟨k,rfl⟩:=Nat.exists_eq_add_of_le h0
 have e:=key ⟨k,Nat.lt_succ_of_le (Nat.le_of_add_le_add_left (a:=48) h1)⟩
 show(if(⟨#[48+k]⟩:Str).length<=640 then(Res.of (PySem.intText? (⟨#[48+k]⟩:Str))).bind λn=>Res.ok (PV.int n) else .bad)=_
 rw [if_pos (show(⟨#[48+k]⟩:Str).length<=640 from(by show 1<=640;decide)),e]
 rfl
def LN(F:aL)(hp:iE F)(ns:List Int)(q a b sh tp:Int)(Ww:0<=q)(TQ:q<=6)(h1:1<=tp)(h2:tp<=10)(own:PV)(i n:Nat)(hn:n<=6)(jj Li:Ci.Slot):
 ∃(z:Str) (qp HP:Ci.Slot),z.length=n/\(∀x∈z.cps.toList,x=35\/(48<=x/\x<=57))/\forL (λx env=>((Tg.one 10).put x env).bind λau=>aE F HW au) (fy 0 n) [.val (fM ns),.val (.int 0),.val (.int q),.val (.int a),.val (.int b),.val (.int sh),.val (.int tp),.own own,.val (.int i),.val (.str ""),jj,Li]=
  .ok (.nx [.val (fM ns),.val (.int 0),.val (.int q),.val (.int a),.val (.int b),.val (.int sh),.val (.int tp),.own own,.val (.int i),.val (.str z),qp,HP]):=by
 obtain⟨au,e,z,qp,HP,hz,hd,rfl⟩:=ie (body:=λx env=>((Tg.one 10).put x env).bind λau=>aE F HW au) (P:=λj env=>∃(z:Str) (qp HP:Ci.Slot),z.length=j/\(∀x∈z.cps.toList,x=35\/(48<=x/\x<=57))/\env=[.val (fM ns),.val (.int 0),.val (.int q),.val (.int a),.val (.int b),.val (.int sh),.val (.int tp),.own own,.val (.int i),.val (.str z),qp,HP]) (fy 0 n) 0 [.val (fM ns),.val (.int 0),.val (.int q),.val (.int a),.val (.int b),.val (.int sh),.val (.int tp),.own own,.val (.int i),.val (.str ""),jj,Li] ⟨_,_,_,by decide+kernel,by decide+kernel,rfl⟩ (by
  intro j x env hx hq;obtain⟨hj,rfl⟩:=B5 hx
  obtain⟨z,qp,HP,hz,hd,rfl⟩:=hq
  obtain⟨m,em,m0,m1⟩:=hp ns (0+4+q*(i:Int)+(j:Int)) (12*tp) (by
   have:=Int.mul_nonneg Ww (Int.natCast_nonneg i)
   omega) (by omega)
  have q1:(aO q||aO (i:Int))=true:=by
   have:aO q=true:=by simp! [aO,zza,zzN];omega
   rw [this];rfl
  have q2:(aO 12||aO tp)=true:=by rw [zzt];exact .inl (by decide)
  have q3:(0:Int)<12:=by decide
  have q4:(0:Int)<12/\(12:Int)<1073741824:=by decide
  have ew:=EY (v:=m/12) (by omega) (by omega)
  have QW:(("#":Str))=⟨#[35]⟩:=by decide+kernel
  by_cases hm:m%12<sh
  ·refine⟨[.val (fM ns),.val (.int 0),.val (.int q),.val (.int a),.val (.int b),.val (.int sh),.val (.int tp),.own own,.val (.int i),.val (.str (z++"#")),.val (.int j),.val (.int m)],?_,_,_,_,?_,?_,rfl⟩
   ·have l:z.length+(("#":Str)).length<=fv:=zzU (show _<=8 by rw [QW];show z.length+1<=8;omega) (by decide)
    simp! only [HW,q1,q2,q3,q4,em,hm,decide_true,l,and_self]
   ·rw [Str.length_append,QW];show z.length+1=_;omega
   ·rw [QW];show∀x∈(z.cps++#[35]).toList,_;intro x hx;simp! [Array.toList_append,List.mem_append,zzi] at hx;rcases hx with hx|hx
    ·exact hd x hx
    ·exact .inl hx
  ·refine⟨[.val (fM ns),.val (.int 0),.val (.int q),.val (.int a),.val (.int b),.val (.int sh),.val (.int tp),.own own,.val (.int i),.val (.str (z++⟨#[48+(m/12).toNat]⟩)),.val (.int j),.val (.int m)],?_,_,_,_,?_,?_,rfl⟩
   ·have l:z.length+(⟨#[48+(m/12).toNat]⟩:Str).length<=fv:=zzU (show z.length+1<=8 by omega) (by decide)
    simp! only [HW,q1,q2,q3,q4,em,hm,decide_false,l,and_self,ew]
   ·rw [Str.length_append];show z.length+1=_;omega
   ·show∀x∈(z.cps++#[48+(m/12).toNat]).toList,_
    intro x hx;simp! [Array.toList_append,List.mem_append,zzi] at hx;rcases hx with hx|hx
    ·exact hd x hx
    ·exact .inr (by omega))
 refine⟨z,qp,HP,?_,hd,e⟩
 simpa [fy] using hz
def yR(F:aL)(hp:iE F)(ns:List Int)(q:Int)(D9:1<=q)(TQ:q<=6):∃aa w,Fl aa w/\ax F cG [fM ns,.int 0,.int q]=.ok (fl aa):=by
 obtain⟨a,ea,a0,a6⟩:=hp ns 0 q (by decide) (by omega)
 obtain⟨b,eb,b0,b6⟩:=hp ns (0+1) q (by decide) (by omega)
 obtain⟨c,ec,c0,c4⟩:=hp ns (0+2) 4 (by decide) (by decide)
 obtain⟨d,ed,d0,d4⟩:=hp ns (0+3) 4 (by decide) (by decide)
 obtain⟨sh,es,hs⟩:=rE (a:=0) (b:=2) (c:=4) (d:=6) c0 c4
 obtain⟨tp,et,ht⟩:=rE (a:=1) (b:=2) (c:=3) (d:=10) d0 d4
 have t1:1<=tp:=by omega
 have t2:tp<=10:=by omega
 have sa:bg (1+a)=true:=by simp! [bg,zza,zzN];omega
 have sb:bg (1+b)=true:=by simp! [bg,zza,zzN];omega
 obtain⟨au,e,aa,s8,s9,jj,Li,hl,hr,hd,rfl⟩:=ie (body:=λx env=>((Tg.one 8).put x env).bind λau=>aE F JC au)
  (P:=λi env=>∃(aa:List Str) (s8 s9 jj Li:Ci.Slot),aa.length=i/\(∀z∈aa,z.length=(1+b).toNat)/\(∀z∈aa,∀x∈z.cps.toList,x=35\/(48<=x/\x<=57))/\env=[.val (fM ns),.val (.int 0),.val (.int q),.val (.int (1+a)),.val (.int (1+b)),.val (.int sh),.val (.int tp),.own (.lst (aa.map .str)),s8,s9,jj,Li])
  (fy 0 (1+a).toNat) 0 [.val (fM ns),.val (.int 0),.val (.int q),.val (.int (1+a)),.val (.int (1+b)),.val (.int sh),.val (.int tp),.own (.lst []),.no,.no,.no,.no] ⟨[],_,_,_,_,rfl,(λz hz=>by cases hz),(λz hz=>by cases hz),rfl⟩ (by
  intro i x env hx hq;obtain⟨hi,rfl⟩:=B5 hx
  obtain⟨aa,s8,s9,jj,Li,hl,hr,hd,rfl⟩:=hq
  obtain⟨z,qp,HP,hz,hzd,e⟩:=LN F hp ns q (1+a) (1+b) sh tp (by omega) TQ t1 t2 (.lst (aa.map .str)) i (1+b).toNat (by omega) jj Li
  have l:(aa.map PV.str).length<fv:=zzV (m:=6) (by simp! [zzl];omega) (by decide)
  refine⟨[.val (fM ns),.val (.int 0),.val (.int q),.val (.int (1+a)),.val (.int (1+b)),.val (.int sh),.val (.int tp),.own (.lst ((aa++[z]).map .str)),.val (.int i),.val (.str z),qp,HP],?_,aa++[z],_,_,_,_,by simp;omega,?_,?_,rfl⟩
  ·have e':=e
   simp! only [HW] at e';simp! [zzl] at l;simp! only [JC,HW,sb,e',zzl,l,List.map_append]
  ·intro y hy;simp! [List.mem_append,zzi] at hy;rcases hy with hy|rfl
   ·exact hr y hy
   ·exact hz
  ·intro y hy;simp! [List.mem_append,zzi] at hy;rcases hy with hy|rfl
   ·exact hd y hy
   ·exact hzd)
 have uh:aa.length=(1+a).toNat:=by simpa [fy] using hl
 refine⟨aa,(1+b).toNat,⟨⟨by omega,λz hz=>by rw [hr z hz];omega⟩,by omega,by omega,hr,hd⟩,?_⟩
 simp! only [JC,HW] at e;simp! only [cG,cG,ea,eb,ec,ed,es,et,sa,e]
def cH(aa:List Str)(r c:Int):Int:=match cd aa r.toNat c.toNat with
 |some x=>(x:Int)-48
 |none=>0
def BE{aa:List Str}{r c:Int}(h:bj aa r c=true):∃(i j x:Nat),r=i/\c=j/\cd aa i j=some x/\x≠35:=by
 obtain⟨h0,h1,h2⟩:=lY.1 h
 obtain⟨i,rfl⟩:=zzw h0
 obtain⟨j,rfl⟩:=zzw h1
 simp! [zz4,DX] at h2;cases hc:cd aa i j with
 |none=>rw [hc] at h2;cases h2
 |some x=>
  rw [hc] at h2;exact⟨i,j,x,rfl,rfl,hc,by simpa using h2⟩
def LD{aa:List Str}{w:Nat}(L:Fl aa w){i j x:Nat}(h:cd aa i j=some x):x=35\/(48<=x/\x<=57):=by
 unfold cd at h;cases hz:aa[i]? with
 |none=>rw [hz] at h;cases h
 |some z=>
  rw [hz] at h;exact L.dig z (zzD hz) x (zzD h)
def nc{aa:List Str}{w:Nat}(L:Fl aa w){r c:Int}(h:bj aa r c=true):∃z x,aG (fl aa) (.int r)=.ok (.str z)/\aG (.str z) (.int c)=.ok (.str ⟨#[x]⟩)/\dS .int [.str ⟨#[x]⟩]=.ok (.int (cH aa r c))/\0<=cH aa r c/\cH aa r c<=9:=by
 obtain⟨i,j,x,rfl,rfl,hc,hx⟩:=BE h
 obtain⟨z,_,e1,e2⟩:=AY L.qe hc
 have hd:=(LD L hc).resolve_left hx
 have hh:cH aa i j=(x:Int)-48:=by simp! [cH,zz4,hc]
 refine⟨z,x,e1,e2,?_,?_⟩
 ·rw [hh];exact E9 hd.1 hd.2
 ·rw [hh];omega
noncomputable def cW(aa:List Str)(sl:Bool)(cl pr:Int)(r c r' c':Int):Option Int:=
 if(r=r'/\c=c')\/1<r-r'\/1<r'-r\/1<c-c'\/1<c'-c then none
 else if(r≠r'/\c≠c')/\¬(sl=true/\bj aa r c'=true/\bj aa r' c=true) then none
 else if cl<cH aa r' c'-cH aa r c\/cl<cH aa r c-cH aa r' c' then none
 else some ((if r≠r'/\c≠c' then 3 else 2)+pr*(if cH aa r' c'-cH aa r c>0 then cH aa r' c'-cH aa r c else 0))
def oP:Option Int->PV
 |none=>.aD
 |some i=>.int i
def gZ(r c r' c':Int):Prop:=(r=r'/\c=c')\/1<r-r'\/1<r'-r\/1<c-c'\/1<c'-c
instance(r c r' c':Int):Decidable (gZ r c r' c'):=by unfold gZ;infer_instance
def zR(F:aL)(r c r' c':Int):ax F cT [sp r c,sp r' c']=.ok (.bl (!decide (gZ r c r' c'))):=by
 simp! only [cT,OZ,NS,aI,nS];have key:∀(a b d:Bool),(Res.ok (PV.bl a)).bind (λx=>sJ x λt=>if t then(Res.ok (PV.bl b)).bind (λx=>sJ x λt=>if t then Res.ok (PV.bl d) else Res.ok (PV.bl false)) else Res.ok (PV.bl false))=Res.ok (PV.bl (a&&(b&&d))):=by
  intro a b d;cases a<;>cases b<;>cases d<;>rfl
 by_cases h1:r=r'/\c=c'
 ·obtain⟨rfl,rfl⟩:=h1
  have:gZ r c r c:=.inl ⟨rfl,rfl⟩
  simp [ax,cx,cA,aE,fH,aK,cY,xj,sU,fZ,k9,iG,List.replicate,Nat.reduceAdd,Nat.reduceSub,reduceIte,ite_true,ite_false,BEq.rfl,beq_self_eq_true,J,this]
 ·have b1:(!((r==r')&&((c==c')&&true)))=true:=by
   cases hh:((r==r')&&((c==c')&&true)) with
   |false=>rfl
   |true=>exact absurd (by simpa using hh) h1
  simp! only [b1]
  by_cases h2:(if r-r'<0 then -(r-r') else r-r')<=1
  ·by_cases h3:(if c-c'<0 then -(c-c') else c-c')<=1
   ·have:¬gZ r c r' c':=by
     rintro (h|h|h|h|h)
     ·exact h1 h
     all_goals (split at h2<;>split at h3<;>omega)
    simp! only [h2,h3,this,decide_true,decide_false]
   ·have:gZ r c r' c':=by
     unfold gZ;split at h3<;>omega
    simp! only [h2,h3,this,decide_true,decide_false]
  ·have:gZ r c r' c':=by
    unfold gZ;split at h2<;>omega
   simp! only [h2,this,decide_true,decide_false]
def pY(F:aL):Prop:=∀aa,lB aa->∀r c,F "is_open" [fl aa,sp r c]=.ok (.bl (bj aa r c))
def yE(F:aL)(hn:∀aa,lB aa->∀r c,bj aa r c=true->F "need_open" [fl aa,sp r c]=.ok .aD){aa:List Str}{w:Nat}(L:Fl aa w){r c:Int}(h:bj aa r c=true):ax F dg [fl aa,sp r c]=.ok (.int (cH aa r c)):=by
 obtain⟨z,x,e1,e2,e3,_⟩:=nc L h
 simp! only [dg,hn aa L.qe r c h,OZ,NS,e1,e2,e3]
def vy(F:aL)(ho:pY F){aa:List Str}(R:lB aa)(r c r' c':Int):ax F bB [fl aa,sp r c,sp r' c']=.ok (.bl (bj aa r c'&&bj aa r' c)):=by
 simp! only [bB,OZ,NS,ho aa R];cases bj aa r c'<;>simp! only [Bool.false_and,Bool.true_and]
def pJ{i j:Int}(h0:0<=i)(h1:i<4):(aO i||aO j)=true:=by
 have:aO i=true:=by simp! [aO,zza,zzN];omega
 rw [this];rfl
structure Wk(cl pr:Int):Prop where
 c0:0<=cl
 p0:0<=pr
 p4:pr<4
 c9:cl<=9
def Gf(F:aL)(hb:∀r c r' c',F "are_beside" [sp r c,sp r' c']=.ok (.bl (!decide (gZ r c r' c'))))(hk:∀aa,lB aa->∀r c r' c',F "has_open_corners" [fl aa,sp r c,sp r' c']=.ok (.bl (bj aa r c'&&bj aa r' c)))
 (hh:∀aa w,Fl aa w->∀r c,bj aa r c=true->F "height_at" [fl aa,sp r c]=.ok (.int (cH aa r c))) {aa:List Str} {w:Nat} (L:Fl aa w) {sl:Bool} {cl pr:Int} (V:Wk cl pr) {r c r' c':Int} (h:bj aa r c=true) (h':bj aa r' c'=true):
 ax F bI [fl aa,wk sl cl pr,sp r c,sp r' c']=.ok (oP (cW aa sl cl pr r c r' c')):=by
 have e1:=hh aa w L r c h
 have e2:=hh aa w L r' c' h'
 have e3:=hk aa L.qe r c r' c'
 have e4:=hb r c r' c'
 by_cases h1:gZ r c r' c'
 ·have:cW aa sl cl pr r c r' c'=none:=if_pos h1
  simp! only [bI,e4,h1,decide_true,this,oP]
 ·have q1:cW aa sl cl pr r c r' c'=_:=if_neg h1
  rw [q1];have ms:=λj=>pJ (j:=j) V.p0 V.p4
  obtain⟨s,hs⟩:∃s,((!(r==r'))&&!(c==c'))=s:=⟨_,rfl⟩
  have PM:s=true↔r≠r'/\c≠c':=by rw [<-hs];simp
  have ia:∀{t u:Bool},(if t=true then Res.ok (PV.bl u) else Res.ok (PV.bl false))=Res.ok (PV.bl (t&&u)):=λ{t u}=>by cases t<;>rfl
  have ii:(if s=true then Res.ok (PV.int 3) else Res.ok (PV.int 2))=Res.ok (PV.int (if r≠r'/\c≠c' then 3 else 2)):=by
   by_cases n3:r≠r'/\c≠c'
   ·rw [if_pos (PM.2 n3),if_pos n3]
   ·rw [if_neg (λz=>n3 (PM.1 z)),if_neg n3]
  have mx:(if(0:Int)>cH aa r' c'-cH aa r c then 0 else cH aa r' c'-cH aa r c)=(if cH aa r' c'-cH aa r c>0 then cH aa r' c'-cH aa r c else 0):=by
   split<;>split<;>omega
  have cc:(if sl=true then Res.ok (PV.bl (bj aa r c'&&bj aa r' c)) else Res.ok (PV.bl false))=Res.ok (PV.bl (sl&&(bj aa r c'&&bj aa r' c))):=ia
  by_cases hblk:(r≠r'/\c≠c')/\¬(sl=true/\bj aa r c'=true/\bj aa r' c=true)
  ·rw [if_pos hblk];have hB:(!(sl&&(bj aa r c'&&bj aa r' c)))=true:=by
    rw [Bool.not_eq_true',Bool.eq_false_iff];intro z;rw [zza,zza] at z;exact hblk.2 z
   simp! only [bI,e4,e3,h1,decide_false,ia,hs,PM.2 hblk.1,hB,Bool.and_self,oP]
  ·rw [if_neg hblk];have hB:(s&&!(sl&&(bj aa r c'&&bj aa r' c)))=false:=by
    rw [Bool.eq_false_iff];intro z;rw [zza,Bool.not_eq_true',Bool.eq_false_iff] at z;exact hblk ⟨PM.1 z.1,λy=>z.2 (by rw [zza,zza];exact y)⟩
   by_cases hq:cl<(if cH aa r' c'-cH aa r c<0 then -(cH aa r' c'-cH aa r c) else cH aa r' c'-cH aa r c)
   ·have hz:cl<cH aa r' c'-cH aa r c\/cl<cH aa r c-cH aa r' c':=by split at hq<;>omega
    simp! only [bI,e4,e3,e1,e2,h1,decide_false,ia,hs,hB,oP,hq,decide_true,if_pos hz]
   ·have hz:¬(cl<cH aa r' c'-cH aa r c\/cl<cH aa r c-cH aa r' c'):=by split at hq<;>omega
    simp! only [bI,e4,e3,e1,e2,h1,decide_false,ia,hs,hB,oP,hq,if_neg hz,ii,ms,mx]
def N9{aa:List Str}{w:Nat}(L:Fl aa w){i j:Nat}(hi:i<aa.length)(hj:j<w):∃x,cd aa i j=some x:=by
 have hz:aa[i]?=some aa[i]:=zzg hi
 have hl:=L.EO _ (zzD hz)
 refine⟨(aa[i]).cps.toList[j]'(by simp! [zzd];rw [<-hl] at hj;exact hj),?_⟩;unfold cd;rw [hz];exact zzg _
def jW{aa:List Str}{w:Nat}(L:Fl aa w){r c:Int}(h:bj aa r c=true):0<=r/\r<aa.length/\0<=c/\c<w:=by
 obtain⟨i,j,x,rfl,rfl,hc,_⟩:=BE h
 unfold cd at hc;cases hz:aa[i]? with
 |none=>rw [hz] at hc;cases hc
 |some z=>
  rw [hz] at hc;have h1:=(zzH.1 hz).1
  have h2:=(zzH.1 hc).1
  have hl:=L.EO _ (zzD hz)
  simp! [zzd] at h2;have:z.cps.size=z.length:=rfl
  omega
abbrev kN(p:Nat×Nat):List Int:=[(p.1:Int),(p.2:Int)]
abbrev Up(L:List (Nat×Nat)):Prop:=L.Pairwise λp q=>HT.lexLt (kN p) (kN q)=true
def BR:Up []:=.nil
def UX{p q:Nat×Nat}(h:p.1<q.1\/p.1=q.1/\p.2<q.2):HT.lexLt (kN p) (kN q)=true:=by
 simp! [HT.lexLt];rcases h with h|⟨h1,h2⟩
 ·rw [if_neg (by omega)];exact zzh (by omega)
 ·rw [if_pos (by omega),if_neg (by omega)];exact zzh (by omega)
abbrev IK(p:Nat×Nat):PV:=sp p.1 p.2
theorem xr:∀{xs:List PV} {k i:Nat} {x:PV},(cM k xs)[i]?=some x->∃y,xs[i]?=some y/\x=.tup [.int ((k+i:Nat):Int),y]
 |[],_,_,_,h=>by cases h
 |y::ys,k,0,x,h=>by
  simp! [cM,List.getElem?_cons_zero,Option.some.injEq] at h;exact⟨y,rfl,h.symm⟩
 |y::ys,k,i+1,x,h=>by
  simp! [cM,List.getElem?_cons_succ] at h;obtain⟨w,h1,h2⟩:=xr h
  refine⟨w,h1,?_⟩;rw [h2,show k+1+i=k+(i+1) by omega]
theorem dm:∀(xs:List PV) (k:Nat),(cM k xs).length=xs.length
 |[],_=>rfl
 |x::xs,k=>by simp! [cM,zzL,dm xs]
theorem uv{f:PV->Res (Option PV)}{r:Nat}(hf:∀c x:Nat,f (.tup [.int c,.str ⟨#[x]⟩])=.ok (if x !=35 then some (sp r c) else none)):∀(xs:List Nat) (k:Nat),∃L:List (Nat×Nat),bq f (cM k (xs.map λx=>.str ⟨#[x]⟩))=.ok (L.map IK)/\Up L/\L.length<=xs.length/\∀a b,(a,b)∈L↔a=r/\k<=b/\∃x,xs[b-k]?=some x/\x≠35
 |[],k=>⟨[],rfl,BR,zzE _,λa b=>by simp⟩
 |x::xs,k=>by
  obtain⟨L,e,nd,l,h⟩:=uv hf xs (k+1)
  by_cases hx:x=35
  ·refine⟨L,?_,nd,Nat.le_succ_of_le l,λa b=>?_⟩
   ·have:(x !=35)=false:=by simp [hx]
    simp! [zzF,cM,bq,hf,this,MQ,rO,e,oc]
    rfl
   ·rw [h]
    constructor
    ·rintro ⟨h1,h2,y,h3,h4⟩
     refine⟨h1,by omega,y,?_,h4⟩;rw [show b-k=(b-(k+1))+1 by omega];exact h3
    ·rintro ⟨h1,h2,y,h3,h4⟩
     have:b≠k:=by
      rintro rfl
      simp at h3;omega
     refine⟨h1,by omega,y,?_,h4⟩;rw [show b-k=(b-(k+1))+1 by omega] at h3;exact h3
  ·refine⟨(r,k)::L,?_,List.pairwise_cons.2 ⟨(λp hp=>UX (by have:=(h p.1 p.2).1 hp;omega)),nd⟩,Nat.succ_le_succ l,λa b=>?_⟩
   ·have:(x !=35)=true:=by simp [hx]
    simp! [zzF,cM,bq,hf,this,MQ,rO,e,oc,if_true]
   ·rw [zzm,h]
    constructor
    ·rintro (h1|⟨h1,h2,y,h3,h4⟩)
     ·cases h1;exact⟨rfl,zzE _,x,by simp,hx⟩
     ·refine⟨h1,by omega,y,?_,h4⟩;rw [show b-k=(b-(k+1))+1 by omega];exact h3
    ·rintro ⟨h1,h2,y,h3,h4⟩
     by_cases hb:b=k
     ·subst hb;subst h1;exact .inl rfl
     ·refine .inr ⟨h1,by omega,y,?_,h4⟩;rw [show b-k=(b-(k+1))+1 by omega] at h3;exact h3
def x6{aa:List Str}{r c:Nat}:DX aa r c=true↔∃z,aa[r]?=some z/\∃x,z.cps.toList[c]?=some x/\x≠35:=by
 unfold DX cd;cases hz:aa[r]? with
 |none=>simp
 |some z=>
  simp! [Option.bind_some];cases hx:z.cps.toList[c]? with
  |none=>
   refine⟨(λh=>by cases h),?_⟩
   rintro ⟨w,hw,x,zO,_⟩
   cases hw;rw [hx] at zO;cases zO
  |some x=>
   refine⟨λh=>⟨z,rfl,x,hx,by simpa using h⟩,?_⟩
   rintro ⟨w,hw,y,hy,h⟩
   cases hw;rw [hx] at hy;cases hy
   simpa using h
def Br:Ss:=#v[.qZ 1 (.dc 2 [2] (.two 0 1) (.enum (!3)) (.cmp .ne (!1) (.cst (.str "#"))) (.tup #v[!2,!0]))]
def qE(F:aL):Prop:=∀aa,lB aa->∃L:List (Nat×Nat),F "_law_spots" [fl aa]=.ok (.lst (L.map IK))/\Up L/\L.length<=36/\∀r c,(r,c)∈L↔DX aa r c=true
def Cn(F:aL)(aa:List Str)(R:lB aa):∃L:List (Nat×Nat),ax F bC [fl aa]=.ok (.lst (L.map IK))/\Up L/\L.length<=36/\∀r c,(r,c)∈L↔DX aa r c=true:=by
 have W2:=R.1
 obtain⟨au,e,L,s2,s3,nd,hl,hm,rfl⟩:=ie (body:=λx env=>((Tg.two 2 3).put x env).bind λau=>aE F Br au) (P:=λi env=>∃(L:List (Nat×Nat)) (s2 s3:Slot),Up L/\L.length<=6*i/\(∀r c,(r,c)∈L↔r<i/\DX aa r c=true)/\env=[.val (fl aa),.own (.lst (L.map IK)),s2,s3])
  (cM 0 (aa.map .str)) 0 [.val (fl aa),.own (.lst []),.no,.no] ⟨[],_,_,BR,zzE _,(λr c=>by simp),rfl⟩ (by
  intro i x env hx hq;obtain⟨y,hy,rfl⟩:=xr hx
  obtain⟨L,s2,s3,nd,hl,hm,rfl⟩:=hq
  simp! [zzQ,zzJ] at hy;obtain⟨z,hz,rfl⟩:=hy
  have Pl:=R.2 z (zzD hz)
  have hi:i<aa.length:=(zzH.1 hz).1
  obtain⟨M,eM,nM,lM,hM⟩:=uv (f:=λx=>((Tg.two 0 1).put x [.no,.no,.val (.int i)]).bind λau=>((oQ au[1]?).bind λx=>gL x (.str "#")).bind λt=>sJ t λt=>if t then(((oQ au[2]?).bind λp=>((oQ au[0]?).bind λp=>.ok [p]).bind λps=>.ok (p::ps)).bind λps=>.ok (.tup ps)).bind λy=>.ok (some y) else .ok none) (r:=i) (λc x=>by
   simp! only [v5];cases(x !=35)<;>rfl) z.cps.toList 0
  have lz:(cM 0 (chars z)).length<fv:=by
   rw [dm];refine zzV (m:=6) ?_ (by decide)
   simpa [chars,Str.length] using Pl
  have ll:(L.map IK).length+(M.map IK).length<=fv:=by
   refine zzU (m:=100) ?_ (by decide);simp! [zzl];have:z.cps.toList.length=z.length:=by simp [Str.length]
   omega
  refine⟨[.val (fl aa),.own (.lst ((L++M).map IK)),.val (.int i),.val (.str z)],?_,L++M,_,_,List.pairwise_append.2 ⟨nd,nM,λa ha b hb=>UX (.inl (by have h1:=((hm a.1 a.2).1 ha).1;have h2:=((hM b.1 b.2).1 hb).1;omega))⟩,?_,?_,rfl⟩
  ·simp! only [Br,PZ,Nat.zero_add,lz];rw [show chars z=z.cps.toList.map λx=>PV.str ⟨#[x]⟩ from rfl,eM]
   simp! only [ll,List.map_append]
  ·have:z.cps.toList.length=z.length:=by simp [Str.length]
   simp! [zzM];omega
  ·intro r c;rw [List.mem_append,hm,hM,x6]
   constructor
   ·rintro (⟨h1,h2⟩|⟨rfl,_,x,h3,h4⟩)
    ·exact⟨by omega,h2⟩
    ·exact⟨by omega,z,hz,x,h3,h4⟩
   ·rintro ⟨h1,w,h2,x,h3,h4⟩
    by_cases hr:r=i
    ·subst hr;rw [hz] at h2;cases h2;exact .inr ⟨rfl,Nat.zero_le _,x,h3,h4⟩
    ·exact .inl ⟨by omega,w,h2,x,h3,h4⟩)
 refine⟨L,?_,nd,(by rw [dm,zzl] at hl;omega),λr c=>?_⟩
 ·simp! only [Br] at e;simp! only [bC,Qj,e,List.modify_succ_cons,List.modify_zero_cons,D1]
 ·rw [hm];refine⟨λh=>h.2,λh=>⟨?_,h⟩⟩
  obtain⟨z,hz,_⟩:=x6.1 h
  have:=(zzH.1 hz).1
  rw [dm,zzl];omega
def Ae(F:aL)(hp:iE F)(ns:List Int)(k:Int)(hk:0<=k):∃sl cl pr,Wk cl pr/\ax F cJ [fM ns,.int k]=.ok (wk sl cl pr):=by
 obtain⟨a,ea,a0,a2⟩:=hp ns k 2 hk (by decide)
 obtain⟨b,eb,b0,b4⟩:=hp ns (k+1) 4 (by omega) (by decide)
 obtain⟨c,ec,c0,c4⟩:=hp ns (k+2) 4 (by omega) (by decide)
 obtain⟨v,ev,hv⟩:=rE (a:=0) (b:=1) (c:=2) (d:=9) b0 b4
 refine⟨(a==0),v,c,⟨by omega,c0,c4,by omega⟩,?_⟩;simp! only [cJ,ea,eb,ec,ev]
theorem gD{α σ:Type}{body:PV->Sl->Res Ci.Fl}{g:α->PV}{mk:List PV->σ->Sl}{app:α->List PV}{m M:Nat}:∀(l:List α) (acc:List PV) (s:σ),(∀a∈l,(app a).length<=m)->(∀a∈l,∀acc s,acc.length+m<=M->∃s',body (g a) (mk acc s)=.ok (.nx (mk (acc++app a) s')))->acc.length+m*l.length<=M->∃s',forL body (l.map g) (mk acc s)=.ok (.nx (mk (acc++l.flatMap app) s'))
 |[],acc,s,_,_,_=>⟨s,by simp [forL]⟩
 |a::l,acc,s,h1,h2,h3=>by
  have ha:=h1 a (zzP ..)
  rw [zzL,Nat.mul_succ] at h3;obtain⟨s1,e1⟩:=h2 a (zzP ..) acc s (by omega)
  obtain⟨s2,e2⟩:=gD l (acc++app a) s1 (λb hb=>h1 b (zzI _ hb)) (λb hb=>h2 b (zzI _ hb)) (by rw [zzM];omega)
  refine⟨s2,?_⟩;simp! [zzF,forL,e1,rO,e2,List.flatMap_cons,List.append_assoc]
def gG(x:Int):List Int:=[x-1+(0:Nat),x-1+(1:Nat),x-1+(2:Nat)]
def NX(x:Int):fy (x-1) (x+2-(x-1)).toNat=(gG x).map .int:=by
 rw [show(x+2-(x-1)).toNat=3 by omega]
 rfl
def oI:Ss:=#v[.ite (.and (.cmp .ne (.tup #v[!3,!4]) (!1)) (.call "is_open" #v[!0,.tup #v[!3,!4]])) #v[.app 2 (.tup #v[!3,!4])] .nil]
def oO:Ss:=#v[.cQ (.one 4) (.qP (.bin .sub (.sub (!1) (¬1)) (¬1)) (.bin .add (.sub (!1) (¬1)) (¬2))) oI]
def D2(aa:List Str)(r c r' c':Int):Bool:=!((r'==r)&&((c'==c)&&true))&&bj aa r' c'
def tQ(aa:List Str)(r c r':Int):List (Int×Int):=(gG c).flatMap λc'=>if D2 aa r c r' c' then [(r',c')] else []
def ql(aa:List Str)(r c:Int):List (Int×Int):=(gG r).flatMap (tQ aa r c)
def jl(aa:List Str)(r c r':Int):(tQ aa r c r').length<=3:=by
 have:∀c',(if D2 aa r c r' c' then [(r',c')] else []).length<=1:=λc'=>by split<;>simp
 simp! [tQ,gG,List.flatMap_cons,List.flatMap_nil,zzM,List.length_nil];have h1:=this (c-1+(0:Nat));have h2:=this (c-1+(1:Nat));have h3:=this (c-1+(2:Nat))
 omega
def sk(aa:List Str)(r c:Int):(ql aa r c).length<=9:=by
 simp! [ql,gG,List.flatMap_cons,List.flatMap_nil,zzM,List.length_nil];have h1:=jl aa r c (r-1+(0:Nat));have h2:=jl aa r c (r-1+(1:Nat));have h3:=jl aa r c (r-1+(2:Nat))
 omega
def mw{aa:List Str}{r c r' c':Int}:(r',c')∈ql aa r c↔¬gZ r c r' c'/\bj aa r' c'=true:=by
 have hn:∀x y:Int,y∈gG x↔¬1<x-y/\¬1<y-x:=by
  intro x y;simp! [gG,zzm,List.not_mem_nil,or_false];omega
 simp! [ql,tQ,List.mem_flatMap,hn]
 constructor
 ·rintro ⟨a,ha,b,hb,h⟩
  split at h
  ·rename_i hk;simp! [zzi,Prod.mk.injEq] at h;obtain⟨rfl,rfl⟩:=h
   simp! [D2,zza,Bool.not_eq_true',Bool.and_true] at hk;refine⟨?_,hk.2⟩;unfold gZ;have h1:=hk.1
   rw [Bool.and_eq_false_iff] at h1;simp! [beq_eq_false_iff_ne,ne_eq] at h1;omega
  ·cases h
 ·rintro ⟨hf,ho⟩
  unfold gZ at hf;refine⟨r',by omega,c',by omega,?_⟩;have:D2 aa r c r' c'=true:=by
   simp! [D2,ho,Bool.and_true,Bool.not_eq_true',Bool.and_eq_false_iff,beq_eq_false_iff_ne,ne_eq];omega
  rw [if_pos this];exact zzi.2 rfl
def mB{r:Int}(h0:0<=r)(h6:r<6):(bg (r-1)&&bg (r+2))=true:=by
 simp! [bg,zza,zzN];omega
def Jy(F:aL)(ho:pY F){aa:List Str}(R:lB aa){r c:Int}(VT:0<=r)(hr:r<6)(VW:0<=c)(hc:c<6):
 ax F bt [fl aa,sp r c]=.ok (.lst ((ql aa r c).map Ii)):=by
 have inner:∀(r':Int) (acc:List PV) (s4:Ci.Slot),acc.length+3<=50->∃Sj,forL (λx env=>((Tg.one 4).put x env).bind λau=>aE F oI au) ((gG c).map .int) [.val (fl aa),.val (sp r c),.own (.lst acc),.val (.int r'),s4]=.ok (.nx [.val (fl aa),.val (sp r c),.own (.lst (acc++(tQ aa r c r').map Ii)),.val (.int r'),Sj]):=by
  intro r' acc s4 hl;obtain⟨s',e⟩:=gD (body:=λx env=>((Tg.one 4).put x env).bind λau=>aE F oI au) (g:=PV.int) (mk:=λacc (s:Ci.Slot)=>[.val (fl aa),.val (sp r c),.own (.lst acc),.val (.int r'),s]) (app:=λc'=>if D2 aa r c r' c' then [sp r' c'] else []) (m:=1) (M:=60) (gG c) acc s4 (λc' _=>by split<;>simp) (λc' _ acc s hl=>by
   have l:acc.length<fv:=zzV (m:=60) (by omega) (by decide)
   refine⟨.val (.int c'),?_⟩;cases h1:(!((r'==r)&&((c'==c)&&true))) with
   |false=>simp! only [oI,h1,D2,Bool.false_and,zz6]
   |true=>
    cases h2:bj aa r' c' with
    |false=>simp! only [oI,h1,h2,D2,ho aa R,Bool.and_false,zz6]
    |true=>simp! only [oI,h1,h2,D2,ho aa R,Bool.and_self,l]) (by show acc.length+1*3<=60;omega)
  have k:(gG c).flatMap (λc'=>if D2 aa r c r' c' then [sp r' c'] else [])=(tQ aa r c r').map Ii:=by
   simp! [tQ,List.map_flatMap]
   congr 1
   funext c'
   split<;>rfl
  exact⟨s',by rw [e,k]⟩
 obtain⟨s',e⟩:=gD (body:=λx env=>((Tg.one 3).put x env).bind λau=>aE F oO au) (g:=PV.int) (mk:=λacc (s:Ci.Slot×Ci.Slot)=>[.val (fl aa),.val (sp r c),.own (.lst acc),s.1,s.2]) (app:=λr'=>(tQ aa r c r').map Ii) (m:=3) (M:=50) (gG r) [] (.no,.no) (λr' _=>by rw [zzl];exact jl ..) (λr' _ acc s hl=>by
  obtain⟨Sj,e⟩:=inner r' acc s.2 hl
  refine⟨(.val (.int r'),Sj),?_⟩;simp! only [oI] at e;simp! only [oO,oI,mB VW hc,NX,e]) (by show 0+3*3<=50;omega)
 simp! only [oO,oI] at e;simp! only [bt,mB VT hr,NX,e,D1,ql,List.map_flatMap]
def E1(aa:List Str)(sl:Bool)(cl pr:Int)(u v:List Int)(e:Int):Prop:=∃r c r' c',u=[r,c]/\v=[r',c']/\bj aa r c=true/\bj aa r' c'=true/\cW aa sl cl pr r c r' c'=some e
abbrev tK(t:List Int×Int):PV:=.tup [ah t.1,.int t.2]
def uM(F:aL):Prop:=∀aa w,Fl aa w->∀sl cl pr,Wk cl pr->∀r c r' c',bj aa r c=true->bj aa r' c'=true->F "step_cost" [fl aa,wk sl cl pr,sp r c,sp r' c']=.ok (oP (cW aa sl cl pr r c r' c'))
def HU(F:aL):Prop:=∀aa,lB aa->∀r c,0<=r->r<6->0<=c->c<6->F "open_spots_beside" [fl aa,sp r c]=.ok (.lst ((ql aa r c).map Ii))
def j9(F:aL):Prop:=∀aa,lB aa->∀r c,bj aa r c=true->F "need_open" [fl aa,sp r c]=.ok .aD
def tW(f:List PV->Res PV):Prop:=∀aa w,Fl aa w->∀sl cl pr,Wk cl pr->∀r c,bj aa r c=true->∃T:List (List Int×Int),f [fl aa,wk sl cl pr,ah [r,c]]=.ok (.lst (T.map tK))/\T.length<=9/\∀v e,(v,e)∈T↔E1 aa sl cl pr [r,c] v e
def lx(F:aL):Prop:=tW (F "steps_from")
def PN:Ss:=#v[.set 5 (.call "step_cost" #v[!0,!1,!2,!4]),.ite (.cmp .A6 (!5) (.cst .aD)) #v[.app 3 (.tup #v[!4,!5])] .nil]
def HE{aa:List Str}{w:Nat}(L:Fl aa w){r c:Int}(h:bj aa r c=true):0<=r/\r<6/\0<=c/\c<6:=by
 have h1:=jW L h
 have h2:=L.qe.1
 have h3:=L.qe.2 _ (List.getElem_mem L.ne)
 rw [L.EO _ (List.getElem_mem L.ne)] at h3;omega
def Bm(F:aL)(hn:j9 F)(hb:HU F)(hs:uM F):tW (ax F b9):=by
 intro aa w L sl cl pr V r c h;obtain⟨r0,r6,c0,c6⟩:=HE L h
 have Ia:∀p:Int×Int,((cW aa sl cl pr r c p.1 p.2).toList.map λe=>(([p.1,p.2]:List Int),e)).length<=1:=λp=>by cases cW aa sl cl pr r c p.1 p.2<;>simp
 refine⟨(ql aa r c).flatMap λp=>(cW aa sl cl pr r c p.1 p.2).toList.map λe=>([p.1,p.2],e),?_,?_,?_⟩
 ·obtain⟨s',e⟩:=gD (body:=λx env=>((Tg.one 4).put x env).bind λau=>aE F PN au) (g:=Ii) (mk:=λacc (s:Ci.Slot×Ci.Slot)=>[.val (fl aa),.val (wk sl cl pr),.val (sp r c),.own (.lst acc),s.1,s.2]) (app:=λp=>((cW aa sl cl pr r c p.1 p.2).toList.map λe=>(([p.1,p.2]:List Int),e)).map tK) (m:=1) (M:=50) (ql aa r c) [] (.no,.no) (λp _=>by rw [zzl];exact Ia p) (λp hp acc s hl=>by
   have l:acc.length<fv:=zzV (m:=50) (by omega) (by decide)
   have e:=hs aa w L sl cl pr V r c p.1 p.2 h (mw.1 hp).2
   cases hq:cW aa sl cl pr r c p.1 p.2 with
   |none=>
    rw [hq] at e;have e5:f6 .aD .aD=.ok (.bl false):=rfl
    simp! [oP] at e;exact⟨(.val (Ii p),.val .aD),by simp! only [PN,e,e5,Option.toList_none,zz6]⟩
   |some v=>
    rw [hq] at e;have e5:f6 (.int v) .aD=.ok (.bl true):=rfl
    simp! [oP] at e;exact⟨(.val (Ii p),.val (.int v)),by simp! only [PN,e,e5,Option.toList_some,l];rfl⟩) (by
   have:=sk aa r c
   show 0+1*_<=50
   omega)
  have k:ah [r,c]=sp r c:=rfl
  simp! only [PN] at e;simp! only [k,b9,hn aa L.qe r c h,hb aa L.qe r c r0 r6 c0 c6,e,D1,List.map_flatMap]
 ·have:=sk aa r c
  have key:∀l:List (Int×Int),(l.flatMap λp=>(cW aa sl cl pr r c p.1 p.2).toList.map λe=>(([p.1,p.2]:List Int),e)).length<=l.length:=by
   intro l
   induction l with
   |nil=>exact zzE _
   |cons p l ih=>
    have:=Ia p
    simp! [List.flatMap_cons,zzM,zzL];omega
  exact zzU (key _) this
 ·intro v e;simp! [List.mem_flatMap,zzx,Option.mem_toList,Option.mem_def,Prod.mk.injEq]
  constructor
  ·rintro ⟨p,hp,e',he,rfl,rfl⟩
   exact⟨r,c,p.1,p.2,rfl,rfl,h,(mw.1 hp).2,he⟩
  ·rintro ⟨a,b,r',c',hu,rfl,_,ho,he⟩
   cases hu;refine⟨(r',c'),mw.2 ⟨λhf=>?_,ho⟩,e,he,rfl,rfl⟩
   rw [show cW aa sl cl pr r c r' c'=none from if_pos hf] at he;cases he
theorem iW:∀k:List Int,intsOf (k.map .int)=some k
 |[]=>rfl
 |i::k=>by simp! [zzF,intsOf,iW k,Option.map_some]
def du(k:List Int):iD (ah k)=some k:=iW k
theorem aS{α:Type}:∀{ks:List (List Int)} {vs:List α} (k:List Int),ks.length=vs.length->cg ks k=(av ks vs k).isSome
 |[],[],_,_=>rfl
 |k'::ks,v::vs,k,h=>by
  have ih:=aS (ks:=ks) (vs:=vs) k (by simpa using h)
  by_cases e:k'=k
  ·simp [cg,av,e]
  ·simp! [cg] at ih;simp [cg,av,e,ih]
theorem jo{α β:Type}(f:α->β):∀(ks:List (List Int)) (vs:List α) (k:List Int),av ks (vs.map f) k=(av ks vs k).map f
 |[],_,_=>by simp [av]
 |_::_,[],_=>by simp [av]
 |k'::ks,v::vs,k=>by
  simp! [zzF,av,jo f ks vs k];split<;>rfl
theorem mC{α β:Type}(f:α->β):∀(ks:List (List Int)) (vs:List α) (k:List Int),aW ks (vs.map f) k=(aW ks vs k).map f
 |[],_,_=>by simp [aW]
 |_::_,[],_=>by simp [aW]
 |k'::ks,v::vs,k=>by
  simp! [zzF,aW,mC f ks vs k];split<;>rfl
def j1{α β:Type}(f:α->β)(ks:List (List Int))(vs:List α)(k:List Int)(p:α):aU ks (vs.map f) k (f p)=(aU ks vs k p).map f:=by
 unfold aU;split
 ·rw [List.zipWith_map_right,List.map_zipWith]
  congr 1
  funext a b
  split<;>rfl
 ·simp
theorem tY{α:Type}(k:List Int)(p:α):∀(ks:List (List Int)) (vs:List α) (x:List Int),av ks (List.zipWith (λk' v=>if k'=k then p else v) ks vs) x=(av ks vs x).map λv=>if x=k then p else v
 |[],_,_=>by simp [av]
 |_::_,[],_=>by simp [av]
 |k'::ks,v::vs,x=>by
  simp! [List.zipWith_cons_cons,av,tY k p ks vs x]
  by_cases e:k'=x
  ·subst e;simp
  ·simp [e]
theorem oZ{α:Type}(k:List Int)(p:α):∀(ks:List (List Int)) (vs:List α) (x:List Int),ks.length=vs.length->av (ks++[k]) (vs++[p]) x=(av ks vs x).or (if k=x then some p else none)
 |[],[],x,_=>by simp [av]
 |k'::ks,v::vs,x,h=>by
  simp! [List.cons_append,av,oZ k p ks vs x (by simpa using h)];split<;>simp
def bA{α:Type}{ks:List (List Int)}{vs:List α}(h:ks.length=vs.length)(k:List Int)(p:α)(x:List Int):av (aV ks k) (aU ks vs k p) x=if k=x then some p else av ks vs x:=by
 have hh:=aS (vs:=vs) k h
 unfold aV aU;cases hk:cg ks k with
 |true=>
  rw [hk] at hh;simp! [if_true,tY]
  by_cases e:k=x
  ·subst e;obtain⟨v,hv⟩:=zzp.1 hh.symm
   simp [hv]
  ·rw [if_neg e];have e':¬x=k:=λz=>e z.symm
   cases av ks vs x<;>simp [e']
 |false=>
  rw [hk] at hh;simp! [zze,if_false,oZ k p ks vs x h]
  by_cases e:k=x
  ·subst e;have:av ks vs k=none:=by simpa using hh.symm
   simp [this]
  ·simp [e]
def jh{α:Type}{ks:List (List Int)}{vs:List α}(h:ks.length=vs.length)(k:List Int)(p:α):(aV ks k).length=(aU ks vs k p).length:=by
 unfold aV aU;split<;>simp [h]
def yq(ks:List (List Int))(k:List Int):(aV ks k).length<=ks.length+1:=by
 unfold aV;split<;>simp
def cy{ks:List (List Int)}{k:List Int}:cg ks k=true↔k∈ks:=by
 simp [cg]
def g7{ks:List (List Int)}(h:ks.Nodup)(k:List Int):(aV ks k).Nodup:=by
 unfold aV;split
 ·exact h
 ·rename_i hk;rw [cy] at hk;refine List.nodup_append.2 ⟨h,by simp,?_⟩;intro a ha b hb e;rw [zzi] at hb;exact hk (hb▸e▸ha)
theorem dZ{α:Type}(k:List Int):∀(ks:List (List Int)) (vs:List α) (x:List Int),ks.length=vs.length->av (cm ks k) (aW ks vs k) x=if k=x then none else av ks vs x
 |[],[],x,_=>by simp [cm,aW,av]
 |k'::ks,v::vs,x,h=>by
  have ih:=dZ k ks vs x (by simpa using h)
  simp! [cm] at ih
  by_cases e:k'=k
  ·subst e;simp! [cm,aW,av,zz3,ne_eq,not_true_eq_false,decide_false,zze,if_false,if_true,ih];split<;>simp_all
  ·simp! [cm,aW,av,zz3,ne_eq,e,not_false_eq_true,decide_true,if_true,if_false]
   by_cases e2:k'=x
   ·subst e2;have:¬k=k':=λz=>e z.symm
    simp [av,this]
   ·simp! [av,e2,if_false];exact ih
theorem pz{α:Type}(k:List Int):∀(ks:List (List Int)) (vs:List α),ks.length=vs.length->(cm ks k).length=(aW ks vs k).length
 |[],[],_=>rfl
 |k'::ks,v::vs,h=>by
  have ih:=pz k ks vs (by simpa using h)
  simp! [cm] at ih
  by_cases e:k'=k
  ·simpa [cm,aW,e] using ih
  ·simpa [cm,aW,e] using ih
theorem xJ{α:Type}:∀{ks:List (List Int)} {vs:List α} {i:Nat} {k:List Int} {q:α},ks.Nodup->ks[i]?=some k->vs[i]?=some q->av ks vs k=some q
 |[],_,_,_,_,_,h,_=>by simp at h
 |_::_,[],_,_,_,_,_,h=>by simp at h
 |k'::ks,v::vs,0,k,q,_,h1,h2=>by
  simp! [List.getElem?_cons_zero,Option.some.injEq] at h1 h2;simp [av,h1,h2]
 |k'::ks,v::vs,i+1,k,q,nd,h1,h2=>by
  simp! [List.getElem?_cons_succ] at h1 h2;have Vn:=List.nodup_cons.1 nd
  have:¬k'=k:=λz=>Vn.1 (z▸zzD h1)
  simp! [av,this,if_false];exact xJ Vn.2 h1 h2
theorem uj{α:Type}:∀{ks:List (List Int)} {vs:List α} {k:List Int} {q:α},av ks vs k=some q->q∈vs
 |[],_,_,_,h=>by simp [av] at h
 |_::_,[],_,_,h=>by simp [av] at h
 |k'::ks,v::vs,k,q,h=>by
  simp! [av] at h;split at h
  ·cases h;exact zzP ..
  ·exact zzI _ (uj h)
theorem j0:∀(cs:List Int) (b:Nat) (m:Int) (pre:List Int),pre[b]?=some m->(∀x∈pre,m<=x)->∃y,(pre++cs)[eY cs pre.length b m]?=some y/\∀x∈pre++cs,y<=x
 |[],b,m,pre,h1,h2=>⟨m,by simpa [eY] using h1,by simpa using h2⟩
 |c::cs,b,m,pre,h1,h2=>by
  have hb:=(zzH.1 h1).1
  simp! [eY];have hl:pre.length+1=(pre++[c]).length:=by simp
  split
  ·rename_i hc;have:=j0 cs pre.length c (pre++[c]) (by simp) (λx hx=>by
    simp! [List.mem_append,zzi] at hx;rcases hx with hx|hx
    ·have:=h2 x hx;omega
    ·omega)
   rw [<-hl] at this
   simpa using this
  ·rename_i hc;have:=j0 cs b m (pre++[c]) (by rw [zzr hb];exact h1) (λx hx=>by
    simp! [List.mem_append,zzi] at hx;rcases hx with hx|hx
    ·exact h2 x hx
    ·omega)
   rw [<-hl] at this
   simpa using this
def Ef{cs:List Int}(h:cs≠[]):∃i y,Av cs=some i/\cs[i]?=some y/\∀x∈cs,y<=x:=by
 cases cs with
 |nil=>exact absurd rfl h
 |cons c cs=>
  obtain⟨y,h1,h2⟩:=j0 cs 0 c [c] rfl (by simp)
  exact⟨_,y,rfl,h1,h2⟩
abbrev val(q:Int×PV):PV:=.tup [.int q.1,q.2]
theorem pI:∀V:List (Int×PV),iK (V.map val)=some (V.map (·.1))
 |[]=>rfl
 |q::V=>by simp! [zzF,iK,pI V,Option.map_some]
def zl{ks:List (List Int)}{V:List (Int×PV)}(h:ks.length=V.length)(nd:ks.Nodup)(g8:ks≠[]):∃k q,((Av (V.map (·.1))).bind λx=>ks[x]?)=some k/\av ks V k=some q/\∀x q',av ks V x=some q'->q.1<=q'.1:=by
 have hV:V.map (·.1)≠[]:=by
  intro z;rw [List.map_eq_nil_iff] at z;rw [z] at h;exact g8 (List.eq_nil_of_length_eq_zero h)
 obtain⟨i,y,h1,h2,h3⟩:=Ef hV
 rw [zzQ,zzJ] at h2;obtain⟨q,hq,rfl⟩:=h2
 have hi:=(zzH.1 hq).1
 have hk:ks[i]?=some (ks[i]'(by omega)):=zzg _
 refine⟨_,q,by rw [h1];exact hk,xJ nd hk hq,λx q' hx=>h3 _ (zzx.2 ⟨q',uj hx,rfl⟩)⟩
inductive og(E:List Int->List Int->Int->Prop)(s:List Int):List Int->Int->Prop
 |here:og E s s 0
 |go {u v:List Int} {d e:Int}:og E s u d->E u v e->og E s v (d+e)
abbrev Ks:=List (List Int)
abbrev Vs:=List (Int×PV)
def Kn(kr:Ks)(Vr:Vs)(kw:Ks)(Vw:Vs)(k:List Int)(c:Int):Prop:=(∃q,av kr Vr k=some q/\q.1<=c)\/∃q,av kw Vw k=some q/\q.1<=c
structure rR(E:List Int->List Int->Int->Prop)(O:List Int->Prop)(s:List Int)(kr:Ks)(Vr:Vs)(kw:Ks)(Vw:Vs)(X:List Int->List Int->Int->Prop)(n:Nat)(b:Int):Prop where
 lr:kr.length=Vr.length
 lw:kw.length=Vw.length
 nw:kw.Nodup
 MJ:∀k q q',av kr Vr k=some q->av kw Vw k=some q'->False
 wr:∀k q,av kr Vr k=some q->O k/\og E s k q.1
 ww:∀k q,av kw Vw k=some q->O k/\og E s k q.1
 mono:∀k q k' q',av kr Vr k=some q->av kw Vw k'=some q'->q.1<=q'.1
 iU:∀u q,av kr Vr u=some q->∀v e,X u v e->Kn kr Vr kw Vw v (q.1+e)
 st:Kn kr Vr kw Vw s 0
 cw:kw.length<=n
 pre:∀k q,av kr Vr k=some q\/av kw Vw k=some q->(q.2=.aD/\k=s/\q.1=0)\/∃y q' e,q.2=ah y/\av kr Vr y=some q'/\E y k e/\q.1=q'.1+e
 bd:∀k q,av kr Vr k=some q\/av kw Vw k=some q->0<=q.1/\q.1<=b
 nr:kr.Nodup
def Kn.put{kr:Ks}{Vr:Vs}{kw:Ks}{Vw:Vs}(h:kw.length=Vw.length){v:List Int}{c:Int}{p:PV}(hv:∀q,av kw Vw v=some q->c<=q.1){k:List Int}{x:Int}(H:Kn kr Vr kw Vw k x):Kn kr Vr (aV kw v) (aU kw Vw v (c,p)) k x:=by
 rcases H with H|⟨q,h1,h2⟩
 ·exact .inl H
 ·refine .inr ?_;rw [bA h]
  by_cases e:v=k
  ·subst e;exact⟨(c,p),if_pos rfl,Int.le_trans (hv q h1) h2⟩
  ·exact⟨q,by rw [if_neg e];exact h1,h2⟩
def rR.put{E:List Int->List Int->Int->Prop}{O:List Int->Prop}{s:List Int}{kr:Ks}{Vr:Vs}{kw:Ks}{Vw:Vs}{X:List Int->List Int->Int->Prop}{n:Nat}{b:Int}(M:rR E O s kr Vr kw Vw X n b){u v:List Int}{d e:Int}{p0:PV}(hu:av kr Vr u=some (d,p0))(hd:∀k q,av kr Vr k=some q->q.1<=d)(he:E u v e)(h0:0<e)(hb:d+e<=b)(ho:O v)
 (hv:av kr Vr v=none) (hw:∀q,av kw Vw v=some q->d+e<=q.1):rR E O s kr Vr (aV kw v) (aU kw Vw v (d+e,ah u)) (λa b c=>X a b c\/a=u/\b=v/\c=e) (n+1) b where
 lr:=M.lr
 lw:=jh M.lw _ _
 nw:=g7 M.nw _
 MJ:=λk q q' h1 h2=>by
  rw [bA M.lw] at h2;split at h2
  ·rename_i z;subst z;rw [hv] at h1;cases h1
  ·exact M.MJ k q q' h1 h2
 wr:=M.wr
 ww:=λk q h=>by
  rw [bA M.lw] at h;split at h
  ·rename_i z;subst z;cases h;exact⟨ho,.go (M.wr u _ hu).2 he⟩
  ·exact M.ww k q h
 mono:=λk q k' q' h1 h2=>by
  rw [bA M.lw] at h2;split at h2
  ·cases h2;have:=hd k q h1;show q.1<=d+e;omega
  ·exact M.mono k q k' q' h1 h2
 iU:=λa q h1 b c hx=>by
  rcases hx with hx|⟨rfl,rfl,rfl⟩
  ·exact(M.iU a q h1 b c hx).put M.lw hw
  ·rw [hu] at h1;cases h1;exact .inr ⟨(d+c,ah a),by rw [bA M.lw,if_pos rfl],Int.le_refl _⟩
 st:=M.st.put M.lw hw
 cw:=by have:=yq kw v;have:=M.cw;omega
 pre:=λk q h=>by
  rcases h with h|h
  ·exact M.pre k q (.inl h)
  ·rw [bA M.lw] at h;split at h
   ·rename_i z;subst z;cases h;exact .inr ⟨u,(d,p0),e,rfl,hu,he,rfl⟩
   ·exact M.pre k q (.inr h)
 bd:=λk q h=>by
  rcases h with h|h
  ·exact M.bd k q (.inl h)
  ·rw [bA M.lw] at h;split at h
   ·cases h;have:=(M.bd u _ (.inl hu)).1;exact⟨by show 0<=d+e;omega,hb⟩
   ·exact M.bd k q (.inr h)
 nr:=M.nr
def rR.keep{E:List Int->List Int->Int->Prop}{O:List Int->Prop}{s:List Int}{kr:Ks}{Vr:Vs}{kw:Ks}{Vw:Vs}{X Y:List Int->List Int->Int->Prop}{n m:Nat}{b b':Int}(M:rR E O s kr Vr kw Vw X n b)(hm:n<=m)(hb:b<=b')(h:∀u q,av kr Vr u=some q->∀v e,Y u v e->Kn kr Vr kw Vw v (q.1+e)):rR E O s kr Vr kw Vw Y m b':=
 ⟨M.lr,M.lw,M.nw,M.MJ,M.wr,M.ww,M.mono,h,M.st,zzU M.cw hm,M.pre,λk q z=>⟨(M.bd k q z).1,Int.le_trans (M.bd k q z).2 hb⟩,M.nr⟩
def Kn.move{kr:Ks}{Vr:Vs}{kw:Ks}{Vw:Vs}(hr:kr.length=Vr.length)(hw:kw.length=Vw.length){k:List Int}{q0:Int×PV}(h0:av kw Vw k=some q0)(hk:av kr Vr k=none){x:List Int}{c:Int}(H:Kn kr Vr kw Vw x c):Kn (aV kr k) (aU kr Vr k q0) (cm kw k) (aW kw Vw k) x c:=by
 unfold Kn;rw [bA hr,dZ k kw Vw x hw]
 by_cases e:k=x
 ·subst e;rcases H with⟨q,h1,_⟩|⟨q,h1,h2⟩
  ·rw [hk] at h1;cases h1
  ·rw [h0] at h1;cases h1;exact .inl ⟨q0,if_pos rfl,h2⟩
 ·simp! [e,if_false];exact H
def rR.move{E:List Int->List Int->Int->Prop}{O:List Int->Prop}{s:List Int}{kr:Ks}{Vr:Vs}{kw:Ks}{Vw:Vs}{n:Nat}{b:Int}(M:rR E O s kr Vr kw Vw E n b){k:List Int}{q0:Int×PV}(h0:av kw Vw k=some q0)(hl:∀x q',av kw Vw x=some q'->q0.1<=q'.1):
 rR E O s (aV kr k) (aU kr Vr k q0) (cm kw k) (aW kw Vw k) (λa b c=>E a b c/\a≠k) n b/\av (aV kr k) (aU kr Vr k q0) k=some q0/\∀x q,av (aV kr k) (aU kr Vr k q0) x=some q->q.1<=q0.1:=by
 have hk:av kr Vr k=none:=by
  cases h:av kr Vr k with
  |none=>rfl
  |some q=>exact(M.MJ k q q0 h h0).elim
 have old:∀x q,av (aV kr k) (aU kr Vr k q0) x=some q\/av (cm kw k) (aW kw Vw k) x=some q->av kr Vr x=some q\/av kw Vw x=some q:=λx q h=>by
  rcases h with h|h
  ·rw [bA M.lr] at h;split at h
   ·rename_i z;subst z;cases h;exact .inr h0
   ·exact .inl h
  ·rw [dZ k kw Vw x M.lw] at h;split at h
   ·cases h
   ·exact .inr h
 refine⟨?_,by rw [bA M.lr,if_pos rfl],λx q h=>?_⟩
 ·refine⟨jh M.lr _ _,pz k kw Vw M.lw,M.nw.filter _,λx q q' h1 h2=>?_,λx q h=>?_,λx q h=>?_,λx q x' q' h1 h2=>?_,λu q h1 v e hx=>?_,M.st.move M.lr M.lw h0 hk,zzU (List.length_filter_le ..) M.cw,λx q h=>?_,λx q h=>M.bd x q (old x q h),g7 M.nr _⟩
  ·rw [bA M.lr] at h1;rw [dZ k kw Vw x M.lw] at h2;split at h2
   ·cases h2
   ·rename_i z;rw [if_neg z] at h1;exact M.MJ x q q' h1 h2
  ·rw [bA M.lr] at h;split at h
   ·rename_i z;subst z;cases h;exact M.ww k _ h0
   ·exact M.wr x q h
  ·rw [dZ k kw Vw x M.lw] at h;split at h
   ·cases h
   ·exact M.ww x q h
  ·rw [bA M.lr] at h1;rw [dZ k kw Vw x' M.lw] at h2;split at h2
   ·cases h2
   ·split at h1
    ·cases h1;exact hl x' q' h2
    ·exact M.mono x q x' q' h1 h2
  ·rw [bA M.lr,if_neg (λz=>hx.2 z.symm)] at h1;exact(M.iU u q h1 v e hx.1).move M.lr M.lw h0 hk
  ·rcases M.pre x q (old x q h) with z|⟨y,q',e,z1,z2,z3⟩
   ·exact .inl z
   ·refine .inr ⟨y,q',e,z1,?_,z3⟩;rw [bA M.lr,if_neg (λz=>by rw [<-z,hk] at z2;cases z2)];exact z2
 ·rw [bA M.lr] at h;split at h
  ·cases h;exact Int.le_refl _
  ·exact M.mono x q k q0 h h0
def Bq{ks:Ks}{V:Vs}{k:List Int}{q:Int×PV}(h:av ks V k=some q):aG (.bf ks (V.map val)) (ah k)=.ok (val q):=by
 show(Res.of (iD (ah k))).bind (λk=>Res.of (av ks (V.map val) k))=_
 rw [du];show Res.of (av ks (V.map val) k)=_
 rw [jo,h]
 rfl
theorem zw{q:Int×PV}:aG (val q) (.int 0)=.ok (.int q.1):=rfl
def ke{ks:Ks}{vs:List PV}{k:List Int}:f7 (ah k) (.bf ks vs)=.ok (.bl (!cg ks k)):=by
 show(Res.of (iD (ah k))).bind (λk=>Res.ok (PV.bl (!cg ks k)))=_
 rw [du]
 rfl
theorem QL{ks:Ks}{vs:List PV}:dS .len [.bf ks vs]=.ok (.int ks.length):=rfl
noncomputable def wS:Ss:=#v[.set 8 (.bin .add (.sub (.sub (.dR 2) (!5)) (¬0)) (!7)),.ite (.and (.cmp .lJ (!6) (.dR 2)) (.or (.cmp .lJ (!6) (.dR 3)) (.cmp .lt (!8) (.sub (.sub (.dR 3) (!6)) (¬0))))) #v[.put 3 (!6) (.tup #v[!8,!5])] .nil]
noncomputable abbrev tR(gn:Str)(ix:List Nat)(cp:List PV)(z:PV)(kr:Ks)(Vr:Vs)(kw:Ks)(Vw:Vs)(s4 s5 s6 s7 s8:Ci.Slot):Sl:=[.val z,.fn gn ix cp,.own (.bf kr (Vr.map val)),.own (.bf kw (Vw.map val)),s4,s5,s6,s7,s8]
def w4(kw:Ks)(Vw:Vs)(v:List Int)(c:Int)(p:PV):aU kw (Vw.map val) v (.tup [.int c,p])=(aU kw Vw v (c,p)).map val:=j1 val kw Vw v (c,p)
def OA(F:aL){gn:Str}{ix:List Nat}{cp:List PV}{z:PV}{E:List Int->List Int->Int->Prop}{O:List Int->Prop}{s:List Int}{kr:Ks}{Vr:Vs}{kw:Ks}{Vw:Vs}{X:List Int->List Int->Int->Prop}{n:Nat}{b:Int}(M:rR E O s kr Vr kw Vw X n b)(hn:n<=3000){u v:List Int}{d e:Int}{p0:PV}(hu:av kr Vr u=some (d,p0))(hd:∀k q,av kr Vr k=some q->q.1<=d)(he:E u v e)(h0:0<e)(hb:d+e<=b)(ho:O v)(s4 s6 s7 s8:Ci.Slot):
 ∃Iy IC Lz Kz Jf,(((Tg.two 6 7).put (tK (v,e)) (tR gn ix cp z kr Vr kw Vw s4 (.val (ah u)) s6 s7 s8)).bind λau=>aE F wS au)=.ok (.nx (tR gn ix cp z kr Vr Iy IC s4 (.val (ah u)) Lz Kz Jf))/\rR E O s kr Vr Iy IC (λa b c=>X a b c\/a=u/\b=v/\c=e) (n+1) b:=by
 have e1:=Bq hu
 have l:kw.length<fv:=zzV (zzU M.cw hn) (by decide)
 have g1:=aS (vs:=Vr) v M.lr
 have g2:=aS (vs:=Vw) v M.lw
 cases hv:av kr Vr v with
 |some q=>
  rw [hv] at g1;have yy:cg kr v=true:=g1
  refine⟨kw,Vw,.val (ah v),.val (.int e),.val (.int (d+e)),by simp! only [wS,tR,e1,zw,ke,yy],M.keep (Nat.le_succ n) (Int.le_refl _) ?_⟩
  rintro a q' ha b c (hx|⟨rfl,rfl,rfl⟩)
  ·exact M.iU a q' ha b c hx
  ·rw [hu] at ha;cases ha;refine .inl ⟨q,hv,?_⟩;have:=hd _ q hv
   show q.1<=d+c
   omega
 |none=>
  rw [hv] at g1;have yy:cg kr v=false:=g1
  cases hw:av kw Vw v with
  |none=>
   rw [hw] at g2;have MI:cg kw v=false:=g2
   refine⟨_,_,.val (ah v),.val (.int e),.val (.int (d+e)),?_,M.put hu hd he h0 hb ho hv (λq h=>by rw [hw] at h;cases h)⟩;simp! only [wS,tR,e1,zw,ke,yy,MI,du,l,w4]
  |some q=>
   rw [hw] at g2;have MI:cg kw v=true:=g2
   have e2:=Bq hw
   by_cases bS:d+e<q.1
   ·refine⟨_,_,.val (ah v),.val (.int e),.val (.int (d+e)),?_,M.put hu hd he h0 hb ho hv (λq' h=>by rw [hw] at h;cases h;omega)⟩;simp! only [wS,tR,e1,e2,zw,ke,yy,MI,bS,decide_true,du,l,w4]
   ·refine⟨kw,Vw,.val (ah v),.val (.int e),.val (.int (d+e)),by simp! only [wS,tR,e1,e2,zw,ke,yy,MI,bS,decide_false],M.keep (Nat.le_succ n) (Int.le_refl _) ?_⟩
    rintro a q' ha b c (hx|⟨rfl,rfl,rfl⟩)
    ·exact M.iU a q' ha b c hx
    ·rw [hu] at ha;cases ha;exact .inr ⟨q,hw,by show q.1<=d+c;omega⟩
theorem H9(F:aL){gn:Str}{ix:List Nat}{cp:List PV}{z:PV}{E:List Int->List Int->Int->Prop}{O:List Int->Prop}{s:List Int}{b:Int}(hE:∀u v e,E u v e->0<e/\e<=30/\O v){kr:Ks}{Vr:Vs}{u:List Int}{d:Int}{p0:PV}(hu:av kr Vr u=some (d,p0))(hd:∀k q,av kr Vr k=some q->q.1<=d)(Pc:d+30<=b)(s4:Ci.Slot):
 ∀(T:List (List Int×Int)) (kw:Ks) (Vw:Vs) (X:List Int->List Int->Int->Prop) (n:Nat) (s6 s7 s8:Ci.Slot),(∀t∈T,E u t.1 t.2)->rR E O s kr Vr kw Vw X n b->n+T.length<=3000->∃Iy IC Lz Kz Jf,forL (λx env=>((Tg.two 6 7).put x env).bind λau=>aE F wS au) (T.map tK) (tR gn ix cp z kr Vr kw Vw s4 (.val (ah u)) s6 s7 s8)=.ok (.nx (tR gn ix cp z kr Vr Iy IC s4 (.val (ah u)) Lz Kz Jf))/\rR E O s kr Vr Iy IC (λa b c=>X a b c\/a=u/\(b,c)∈T) (n+T.length) b
 |[],kw,Vw,X,n,s6,s7,s8,_,M,_=>⟨kw,Vw,s6,s7,s8,rfl,M.keep (zzE _) (Int.le_refl _) (λa q ha b c hx=>M.iU a q ha b c (hx.resolve_right λz=>by cases z.2))⟩
 |t::T,kw,Vw,X,n,s6,s7,s8,hT,M,hn=>by
  have ht:=hT t (zzP ..)
  rw [zzL] at hn;obtain⟨M7,Vw1,a6,a7,a8,e1,M1⟩:=OA F (gn:=gn) (ix:=ix) (cp:=cp) (z:=z) M (by omega) hu hd ht (hE _ _ _ ht).1 (by have:=(hE _ _ _ ht).2.1;omega) (hE _ _ _ ht).2.2 s4 s6 s7 s8
  obtain⟨kw2,Vw2,b6,b7,b8,e2,M2⟩:=H9 F hE hu hd Pc s4 T M7 Vw1 _ (n+1) a6 a7 a8 (λx hx=>hT x (zzI _ hx)) M1 (by omega)
  refine⟨kw2,Vw2,b6,b7,b8,?_,M2.keep (by rw [zzL];omega) (Int.le_refl _) λa q ha b c hx=>M2.iU a q ha b c ?_⟩
  ·rw [zzF,forL,e1,rO];exact e2
  ·rcases hx with hx|⟨h1,h2⟩
   ·exact .inl (.inl hx)
   ·rcases zzm.1 h2 with h2|h2
    ·exact .inl (.inr ⟨h1,by rw [<-h2],by rw [<-h2]⟩)
    ·exact .inr ⟨h1,h2⟩
def D5(U kr:Ks):Nat:=(U.filter λx=>!cg kr x).length
def Fd{U kr:Ks}{k:List Int}(hk:k∈U)(hn:cg kr k=false):D5 U (aV kr k)<D5 U kr:=by
 have hh:∀x,cg (aV kr k) x=(cg kr x||decide (x=k)):=by
  intro x;rw [Bool.eq_iff_iff,zzt,cy,cy,zzN];unfold aV;rw [hn];simp
 unfold D5;simp! [hh]
 induction U with
 |nil=>cases hk
 |cons y U ih=>
  have mono:(U.filter λx=>!(cg kr x||decide (x=k))).length<=(U.filter λx=>!cg kr x).length:=by
   rw [<-List.countP_eq_length_filter,<-List.countP_eq_length_filter];refine List.countP_mono_left λx _ h=>?_
   simp! [Bool.not_or,zza] at h;exact h.1
  rw [zz3,zz3]
  by_cases e:y=k
  ·subst e;simp! [hn,decide_true,Bool.or_true,Bool.not_true,zze,if_false,Bool.not_false,if_true,zzL];omega
  ·have:=ih ((zzm.1 hk).resolve_left λz=>e z.symm)
   simp! [e,decide_false,Bool.or_false];cases cg kr y<;>simp! [Bool.not_true,Bool.not_false,zze,if_true,if_false,zzL]<;>omega
def wC:E:=.cmp .gt (.blt .len #v[.dR 3]) (¬0)
noncomputable def wB:Ss:=#v[.md 5 3,.eO 2 3 5,.cQ (.two 6 7) (.seq (.kF 1 #v[!5])) wS]
def Fn(F:aL){gn:Str}{ix:List Nat}{cp:List PV}{z:PV}{as:List Int->List PV}(Ih:ix.head?=some 1)(MR:∀u,fD (ah u::cp) ix.tail=.ok (as u)){E:List Int->List Int->Int->Prop}{O:List Int->Prop}{s:List Int}{U:Ks}(hU:∀u,O u->u∈U)(Jl:U.length<=36)(hE:∀u v e,E u v e->0<e/\e<=30/\O v)(dG:∀u,O u->∃T:List (List Int×Int),F gn (as u)=.ok (.lst (T.map tK))/\T.length<=60/\∀v e,(v,e)∈T↔E u v e)
 {kr:Ks} {Vr:Vs} {kw:Ks} {Vw:Vs} (M:rR E O s kr Vr kw Vw E (1+60*kr.length) (30*kr.length)) (hc:kr.length+D5 U kr<=U.length) (g8:kw≠[]) (s4 s5 s6 s7 s8:Ci.Slot):
 ∃vf Pb Iy IC QO Lz Kz Jf,aE F wB (tR gn ix cp z kr Vr kw Vw s4 s5 s6 s7 s8)=.ok (.nx (tR gn ix cp z vf Pb Iy IC s4 QO Lz Kz Jf))/\rR E O s vf Pb Iy IC E (1+60*vf.length) (30*vf.length)/\vf.length+D5 U vf<=U.length/\D5 U vf<D5 U kr:=by
 obtain⟨k,q,h1,h2,h3⟩:=zl M.lw M.nw g8
 obtain⟨M1,h4,h5⟩:=M.move h2 h3
 obtain⟨ho,_⟩:=M.ww k q h2
 have hk:cg kr k=false:=by
  rw [aS (vs:=Vr) k M.lr];cases h:av kr Vr k with
  |none=>rfl
  |some q'=>exact(M.MJ k q' q h h2).elim
 have hl:(aV kr k).length=kr.length+1:=by unfold aV;rw [hk];simp
 have bS:=Fd (hU k ho) hk
 obtain⟨T,e1,hT,hT2⟩:=dG k ho
 obtain⟨d,p0⟩:=q
 obtain⟨kw2,Vw2,b6,b7,b8,e2,M2⟩:=H9 F (gn:=gn) (ix:=ix) (cp:=cp) (z:=z) (b:=30*kr.length+30) hE h4 h5 (by have:=(M.bd k (d,p0) (.inr h2)).2;show d+30<=_;omega) s4 T _ _ _ _ s6 s7 s8 (λt ht=>(hT2 t.1 t.2).1 ht) (M1.keep (zzE _) (by omega) M1.iU) (by omega)
 refine⟨_,_,kw2,Vw2,.val (ah k),b6,b7,b8,?_,M2.keep (by omega) (by omega) (λa q ha b c hx=>M2.iU a q ha b c ?_),by omega,bS⟩
 ·have l:kr.length<fv/\2≠3:=⟨zzV (m:=36) (by omega) (by decide),by decide⟩
  have gm:av kw (Vw.map val) k=some (val (d,p0)):=by rw [jo,h2];rfl
  have gp:aU kr (Vr.map val) k (val (d,p0))=(aU kr Vr k (d,p0)).map val:=j1 val kr Vr k (d,p0)
  have ha:=MR k
  simp! only [wS,tR] at e2;simp! only [wB,wS,tR,pI,h1,du,gm,l,and_self,mC,gp,Ih,ha,e1,e2,ne_eq,not_false_eq_true]
 ·by_cases e:a=k
  ·subst e;exact .inr ⟨rfl,(hT2 b c).2 hx⟩
  ·exact .inl ⟨hx,e⟩
theorem ya(F:aL){gn:Str}{ix:List Nat}{cp:List PV}{z:PV}{as:List Int->List PV}(Ih:ix.head?=some 1)(MR:∀u,fD (ah u::cp) ix.tail=.ok (as u)){E:List Int->List Int->Int->Prop}{O:List Int->Prop}{s:List Int}{U:Ks}(hU:∀u,O u->u∈U)(Jl:U.length<=36)(hE:∀u v e,E u v e->0<e/\e<=30/\O v)(dG:∀u,O u->∃T:List (List Int×Int),F gn (as u)=.ok (.lst (T.map tK))/\T.length<=60/\∀v e,(v,e)∈T↔E u v e)(s4:Ci.Slot):
 ∀(n:Nat) (kr:Ks) (Vr:Vs) (kw:Ks) (Vw:Vs) (s5 s6 s7 s8:Ci.Slot),rR E O s kr Vr kw Vw E (1+60*kr.length) (30*kr.length)->kr.length+D5 U kr<=U.length->D5 U kr<n->∃vf Pb V2 QO Lz Kz Jf,cK (aK F wC) (aE F wB) n (tR gn ix cp z kr Vr kw Vw s4 s5 s6 s7 s8)=.ok (.nx [.val z,.fn gn ix cp,.own (.bf vf (Pb.map val)),V2,s4,QO,Lz,Kz,Jf])/\vf.length<=36/\∃m,rR E O s vf Pb [] [] E m 1080
 |0,_,_,_,_,_,_,_,_,_,_,h=>absurd h (Nat.not_lt_zero _)
 |n+1,kr,Vr,kw,Vw,s5,s6,s7,s8,M,hc,hn=>by
  have ec:aK F wC (tR gn ix cp z kr Vr kw Vw s4 s5 s6 s7 s8)=.ok (.bl (decide ((0:Int)<kw.length))):=by simp! only [wC,tR,QL]
  by_cases hk:kw=[]
  ·subst hk;have hv:Vw=[]:=List.eq_nil_of_length_eq_zero M.lw.symm
   subst hv;refine⟨kr,Vr,.own (.bf [] []),s5,s6,s7,s8,?_,by omega,_,M.keep (zzE _) (by omega) M.iU⟩;have:decide ((0:Int)<(([]:Ks).length:Nat))=false:=rfl
   rw [this] at ec;simp! [cK,ec,rO,Ik,zze,if_false,tR]
   rfl
  ·obtain⟨kr1,Vr1,M7,Vw1,t5,t6,t7,t8,e1,M1,hc1,bS⟩:=Fn F (gn:=gn) (z:=z) Ih MR hU Jl hE dG M hc hk s4 s5 s6 s7 s8
   obtain⟨kr2,Vr2,u3,u5,u6,u7,u8,e2,h2⟩:=ya F (gn:=gn) (z:=z) Ih MR hU Jl hE dG s4 n kr1 Vr1 M7 Vw1 t5 t6 t7 t8 M1 hc1 (by omega)
   refine⟨kr2,Vr2,u3,u5,u6,u7,u8,?_,h2⟩;have:decide ((0:Int)<(kw.length:Nat))=true:=by
    have:=List.length_pos_iff.2 hk
    simp;omega
   rw [this] at ec;simp! [cK,ec,rO,Ik,if_true,e1,e2]
structure oM(E:List Int->List Int->Int->Prop)(s:List Int)(kr:Ks)(Vr:Vs):Prop where
 len:kr.length=Vr.length
 le:kr.length<=36
 rQ:∀k q,av kr Vr k=some q->k.length=2/\og E s k q.1
 iU:∀u q,av kr Vr u=some q->∀v e,E u v e->∃q',av kr Vr v=some q'/\q'.1<=q.1+e
 st:∃q,av kr Vr s=some q/\q.1<=0
 pre:∀k q,av kr Vr k=some q->(q.2=.aD/\k=s/\q.1=0)\/∃y q' e,q.2=ah y/\av kr Vr y=some q'/\E y k e/\q.1=q'.1+e
 bd:∀k q,av kr Vr k=some q->0<=q.1/\q.1<=1080
 nr:kr.Nodup
noncomputable def Ie(gn:Str)(ix:List Nat):Def:=⟨["starts","steps","reached","waiting","start","spot","other","cost","together"],2,(.cons (.j5 2)
 (.cons (.j5 3)
 (.cons (.cQ (.one 4) (.seq (.var 0))
  (.cons (.put 3 (.var 4) (.tup (.cons (.cst (.int 0)) (.cons (.cst .aD) .nil))))
  .nil))
 (.cons (.xD (.cmp .gt (.blt .len (.cons (.dR 3) .nil)) (.cst (.int 0)))
  (.cons (.md 5 3)
  (.cons (.eO 2 3 5)
  (.cons (.cQ (.two 6 7) (.seq (.kF 1 (.cons (.var 5) .nil)))
   (.cons (.set 8 (.bin .add (.sub (.sub (.dR 2) (.var 5)) (.cst (.int 0))) (.var 7)))
   (.cons (.ite (.and (.cmp .lJ (.var 6) (.dR 2)) (.or (.cmp .lJ (.var 6) (.dR 3)) (.cmp .lt (.var 8) (.sub (.sub (.dR 3) (.var 6)) (.cst (.int 0))))))
    (.cons (.put 3 (.var 6) (.tup (.cons (.var 8) (.cons (.var 5) .nil))))
    .nil)
    .nil)
   .nil)))
  .nil))))
 (.cons (.bE 2)
 (.cons (.ret (.var 2))
 .nil)))))),some (gn,ix)⟩
def pR(F:aL)(gn:Str){ix:List Nat}{cp:List PV}{as:List Int->List PV}(Ih:ix.head?=some 1)(MR:∀u,fD (ah u::cp) ix.tail=.ok (as u)){E:List Int->List Int->Int->Prop}{O:List Int->Prop}{s:List Int}{U:Ks}(hU:∀u,O u->u∈U)(Jl:U.length<=36)(h2:∀u,O u->u.length=2)(hE:∀u v e,E u v e->0<e/\e<=30/\O v)(dG:∀u,O u->∃T:List (List Int×Int),F gn (as u)=.ok (.lst (T.map tK))/\T.length<=60/\∀v e,(v,e)∈T↔E u v e)(hs:O s):
 ∃kr Vr,ax F (Ie gn ix) (.lst [ah s]::cp)=.ok (.bf kr (Vr.map val))/\oM E s kr Vr:=by
 have g:∀x q,av [s] [((0:Int),PV.aD)] x=some q->s=x/\q=(0,.aD):=λx q h=>by
  simp! [av] at h;split at h
  ·rename_i z;cases h;exact⟨z,rfl⟩
  ·cases h
 have M:rR E O s [] [] [s] [(0,.aD)] E (1+60*([]:Ks).length) (30*(([]:Ks).length:Nat)):=⟨rfl,rfl,by simp,(λk q q' h=>by simp [av] at h),(λk q h=>by simp [av] at h),(λk q h=>by obtain⟨rfl,rfl⟩:=g k q h;exact⟨hs,.here⟩),(λk q k' q' h=>by simp [av] at h),(λu q h=>by simp [av] at h),.inr ⟨(0,.aD),by simp [av],Int.le_refl _⟩,by simp,(λk q h=>h.elim (λh=>by simp [av] at h) λh=>by obtain⟨z,rfl⟩:=g k q h;exact .inl ⟨rfl,z.symm,rfl⟩),(λk q h=>h.elim (λh=>by simp [av] at h) λh=>by obtain⟨_,rfl⟩:=g k q h;exact⟨Int.le_refl _,Int.le_refl _⟩),List.nodup_nil⟩
 have hl:D5 U []<=U.length:=List.length_filter_le ..
 obtain⟨kr,Vr,u3,u5,u6,u7,u8,e,h3,m,M'⟩:=ya F (gn:=gn) (z:=.lst [ah s]) Ih MR hU Jl hE dG (.val (ah s)) WN [] [] [s] [(0,.aD)] .no .no .no .no M (by simpa using hl) (zzV (zzU hl Jl) (by decide))
 refine⟨kr,Vr,?_,M'.lr,h3,λk q h=>⟨h2 k (M'.wr k q h).1,(M'.wr k q h).2⟩,λu q h v c hx=>?_,?_,?_,?_,?_⟩
 ·have l:(0:Nat)<fv:=by decide
  have p1:aV [] s=[s]:=rfl
  have p2:∀p:PV,aU ([]:Ks) [] s p=[p]:=λp=>rfl
  have a2:List.take 1 (PV.lst [ah s]::cp)=[.lst [ah s]]:=rfl
  have a3:List.drop 1 (PV.lst [ah s]::cp)=cp:=rfl
  simp! only [wC,wB,wS,tR] at e;simp! only [Ie,a2,a3,forL,du,l,p1,p2,e,D1];exact if_pos rfl
 ·rcases M'.iU u q h v c hx with h|⟨q',h,_⟩
  ·exact h
  ·simp [av] at h
 ·rcases M'.st with h|⟨q',h,_⟩
  ·exact h
  ·simp [av] at h
 ·exact λk q h=>M'.pre k q (.inl h)
 ·exact λk q h=>M'.bd k q (.inl h)
 ·exact M'.nr
def Ar{α:Type}(xs:List α)(x:α):rC (xs++[x]) (-1)=some x:=by
 unfold rC HA;have h1:¬(0:Int)<= -1:=by decide
 have h2: -((xs++[x]).length:Int)<= -1:=by simp! [zzM,List.length_singleton];omega
 rw [if_neg h1,if_pos h2];have h3:(-1+((xs++[x]).length:Int)).toNat=xs.length:=by simp! [zzM,List.length_singleton];omega
 rw [h3];simp
theorem Jm{q:Int×PV}:aG (val q) (.int 1)=.ok q.2:=rfl
def MX:E:=.cmp .A6 (.sub (.sub (!0) (.sub (.dR 2) (.neg (¬1)))) (¬1)) (.cst .aD)
def QE:Ss:=#v[.app 2 (.sub (.sub (!0) (.sub (.dR 2) (.neg (¬1)))) (¬1))]
def xw(xs:List PV)(x:PV):aG (.lst (xs++[x])) (.int (-1))=.ok x:=by
 simp! [aG,Ar]
 rfl
inductive D3(E:List Int->List Int->Int->Prop)(s:List Int):List Int->Ks->Int->Prop
 |here:D3 E s s [s] 0
 |go {u v:List Int} {l:Ks} {d e:Int}:D3 E s u l d->E u v e->D3 E s v (v::l) (d+e)
theorem x9(F:aL){E:List Int->List Int->Int->Prop}{s:List Int}{kr:Ks}{Vr:Vs}(R:oM E s kr Vr)(hE:∀u v e,E u v e->0<e)(z:PV):∀(n:Nat) (xs:List PV) (y:List Int) (q:Int×PV),av kr Vr y=some q->q.1<n->(xs.length:Int)+q.1<=2000->∃l,cK (aK F MX) (aE F QE) n [.val (.bf kr (Vr.map val)),.val z,.own (.lst (xs++[ah y]))]=.ok (.nx [.val (.bf kr (Vr.map val)),.val z,.own (.lst (xs++l.map ah))])/\D3 E s y l q.1
 |0,xs,y,q,h,hn,_=>by have:=(R.bd y q h).1;omega
 |n+1,xs,y,q,h,hn,hl=>by
  have e1:=xw xs (ah y)
  have e2:=Bq h
  have b0:=(R.bd y q h).1
  have l:(xs++[ah y]).length<fv:=zzV (m:=3000) (by rw [zzM,List.length_singleton];omega) (by decide)
  rcases R.pre y q h with⟨p,rfl,h0⟩|⟨y',q',e,p,h',he,hq⟩
  ·refine⟨[y],?_,by rw [h0];exact .here⟩;have e5:f6 .aD .aD=.ok (.bl false):=rfl
   have ec:aK F MX [.val (.bf kr (Vr.map val)),.val z,.own (.lst (xs++[ah y]))]=.ok (.bl false):=by simp! only [MX,e1,e2,Jm,p,e5]
   simp! [cK,ec,rO,Ik,zze,if_false]
   rfl
  ·have e5:f6 (ah y') .aD=.ok (.bl true):=rfl
   have ec:aK F MX [.val (.bf kr (Vr.map val)),.val z,.own (.lst (xs++[ah y]))]=.ok (.bl true):=by simp! only [MX,e1,e2,Jm,p,e5]
   have eb:aE F QE [.val (.bf kr (Vr.map val)),.val z,.own (.lst (xs++[ah y]))]=.ok (.nx [.val (.bf kr (Vr.map val)),.val z,.own (.lst (xs++[ah y]++[ah y']))]):=by simp! only [QE,e1,e2,Jm,p,l]
   have hp:=hE _ _ _ he
   obtain⟨l',e',t⟩:=x9 F R hE z n (xs++[ah y]) y' q' h' (by omega) (by rw [zzM,List.length_singleton];omega)
   refine⟨y::l',?_,by rw [hq];exact .go t he⟩;simp! [cK,ec,rO,Ik,if_true,eb,e'];simp
def zj(F:aL){E:List Int->List Int->Int->Prop}{s:List Int}{kr:Ks}{Vr:Vs}(R:oM E s kr Vr)(hE:∀u v e,E u v e->0<e){k:List Int}{q:Int×PV}(hq:av kr Vr k=some q):∃l:Ks,ax F fC [.bf kr (Vr.map val),ah k]=.ok (.lst (l.map ah))/\D3 E s k l q.1:=by
 have hb:=(R.bd k q hq).2
 obtain⟨l,e,hu⟩:=x9 F R hE (ah k) WN [] k q hq (Int.lt_of_le_of_lt hb (by decide)) (by simp;omega)
 refine⟨l,?_,hu⟩;simp! only [MX,QE,List.nil_append] at e;simp! only [fC,e,D1]
theorem si:∀{a b c:List Int},HT.lexLt a b=true->HT.lexLt b c=true->HT.lexLt a c=true
 |[],[],_,h,_=>by cases h
 |[],_::_,[],_,h=>by cases h
 |[],_::_,_::_,_,_=>rfl
 |_::_,[],_,h,_=>by cases h
 |_::_,_::_,[],_,h=>by cases h
 |x::a,y::b,z::c,h,k=>by
  simp! [HT.lexLt] at h k⊢;split at h
  ·subst x;split at k
   ·subst y;rw [if_pos rfl];exact si h k
   ·rw [if_neg ‹_›];exact k
  ·have h:=zzY h
   split at k
   ·subst y;rw [if_neg ‹_›];exact zzh h
   ·have k:=zzY k
    rw [if_neg (by omega)];exact zzh (by omega)
theorem lI:∀{a b:List Int},HT.lexLt a b=true->HT.lexLt b a=false
 |[],[],h=>by cases h
 |[],_::_,_=>rfl
 |_::_,[],h=>by cases h
 |x::a,y::b,h=>by
  simp! [HT.lexLt] at h⊢;split at h
  ·subst x;rw [if_pos rfl];exact lI h
  ·have h:=zzY h
   rw [if_neg (by omega)];exact zz0 (by omega)
theorem By:∀{a b:List Int},a≠b->HT.lexLt a b=true\/HT.lexLt b a=true
 |[],[],h=>absurd rfl h
 |[],_::_,_=>.inl rfl
 |_::_,[],_=>.inr rfl
 |x::a,y::b,h=>by
  simp! [HT.lexLt]
  by_cases e:x=y
  ·subst x;rw [if_pos rfl,if_pos rfl];exact By λz=>h (by rw [z])
  ·rw [if_neg e,if_neg (λz=>e z.symm)]
   by_cases l:x<y
   ·exact .inl (zzh l)
   ·exact .inr (zzh (by omega))
def u4(a:List Int):HT.lexLt a a=false:=by
 cases h:HT.lexLt a a with
 |false=>rfl
 |true=>have:=lI h;rw [h] at this;exact this
abbrev vX(L:Ks):Prop:=L.Pairwise λa b=>HT.lexLt a b=true
def vX.nodup{L:Ks}(h:vX L):L.Nodup:=h.imp λ{a b} e z=>by rw [z,u4] at e;cases e
theorem xX:∀{L M:Ks},vX L->vX M->(∀x,x∈L↔x∈M)->L=M
 |[],[],_,_,_=>rfl
 |[],y::M,_,_,h=>absurd ((h y).2 (zzP ..)) (by simp)
 |x::L,[],_,_,h=>absurd ((h x).1 (zzP ..)) (by simp)
 |x::L,y::M,hL,hM,h=>by
  have pL:=List.pairwise_cons.1 hL
  have pM:=List.pairwise_cons.1 hM
  have e:x=y:=by
   rcases zzm.1 ((h x).1 (zzP ..)) with z|z
   ·exact z
   ·rcases zzm.1 ((h y).2 (zzP ..)) with w|w
    ·exact w.symm
    ·have:=lI (pM.1 x z)
     rw [pL.1 y w] at this;cases this
  subst e;rw [xX pL.2 pM.2 λz=>?_]
  constructor
  ·intro hz;rcases zzm.1 ((h z).1 (zzI _ hz)) with w|w
   ·subst w;have:=pL.1 z hz;rw [u4] at this;cases this
   ·exact w
  ·intro hz;rcases zzm.1 ((h z).2 (zzI _ hz)) with w|w
   ·subst w;have:=pM.1 z hz;rw [u4] at this;cases this
   ·exact w
def range_getD{α:Type}(d:α)(l:List α):(List.range l.length).map (λi=>l.getD i d)=l:=by
 refine List.ext_getElem (by simp) λi h1 h2=>?_
 simp [zzK,zzg h2]
def xo{α:Type}(d:α)(f:α->PV)(g:α->List Int){l:List α}(nd:(l.map g).Nodup):i8 PV.aD (l.map f) (l.map g)=(i8 d l (l.map g)).map f/\(i8 d l (l.map g)).Perm l/\vX ((i8 d l (l.map g)).map g):=by
 by_cases h:l.length<2
 ·unfold i8;rw [if_pos h,if_pos (by simpa using h)];refine⟨rfl,.refl _,?_⟩
  match l,h with
  |[],_=>exact .nil
  |[a],_=>exact List.pairwise_singleton ..
  |_::_::_,h=>simp! [zzL] at h;omega
 ·have gl:∀i,i<l.length->(l.map g).getD i []=g (l.getD i d):=λi hi=>by simp [zzK,zzg hi]
  have P:=gX (n:=l.length) (by omega) λi j=>HT.lexLt ((l.map g).getD i []) ((l.map g).getD j [])
  have U:=n8 (n:=l.length) (lt:=λi j=>HT.lexLt ((l.map g).getD i []) ((l.map g).getD j [])) ⟨λa b ha hb hn=>By λz=>hn (by
   have ha:a<(l.map g).length:=by simpa using ha
   have hb:b<(l.map g).length:=by simpa using hb
   simp! [zzK,zzg ha,zzg hb,Option.getD_some] at z;exact(List.getElem_inj nd).1 z),λa b=>lI,λa b c=>si⟩ (by omega)
  unfold i8;rw [if_neg h,if_neg (by simpa using h),zzl,List.map_map];refine⟨List.map_congr_left λi hi=>?_,?_,List.pairwise_map.2 (List.pairwise_map.2 (List.Pairwise.imp_of_mem (λ{a b} ha hb e=>?_) U))⟩
  ·have hl:i<l.length:=List.mem_range.1 (P.mem_iff.1 hi)
   simp [zzK,zzg hl]
  ·have Q:=P.map λi=>l.getD i d
   rw [range_getD] at Q;exact Q
  ·rw [gl a (List.mem_range.1 (P.mem_iff.1 ha)),gl b (List.mem_range.1 (P.mem_iff.1 hb))] at e;exact e
def KL{ks:Ks}(nd:ks.Nodup):∃S:Ks,i8 PV.aD (ks.map ah) ks=S.map ah/\S.length=ks.length/\(∀k,k∈S↔k∈ks)/\vX S:=by
 obtain⟨e,P,s⟩:=xo ([]:List Int) ah id (l:=ks) (by rwa [List.map_id])
 simp! [List.map_id] at e s P;exact⟨_,e,P.length_eq,λk=>P.mem_iff,s⟩
def vB{ks:Ks}{vs:List PV}(nd:ks.Nodup)(hl:ks.length<64)(h2:∀k∈ks,k≠[]):∃S:Ks,dS .sorted [.bf ks vs]=.ok (.lst (S.map ah))/\(∀k,k∈S↔k∈ks)/\vX S:=by
 obtain⟨S,e,_,hm,hs⟩:=KL nd
 refine⟨S,?_,hm,hs⟩;show(if(decide (ks.length<64)&&ks.all λk=>!k.isEmpty)=true then Res.ok (PV.lst (i8 .aD (ks.map ah) ks)) else .bad)=_
 rw [if_pos,e];rw [zza];refine⟨zzh hl,zzT.2 λk hk=>?_⟩
 have:=h2 k hk
 cases k with
 |nil=>exact absurd rfl this
 |cons a b=>rfl
theorem xH:∀(n:Nat) (a b:List Int),eqs (jx n) (a.map .int) (b.map .int)=decide (a=b)
 |_,[],[]=>rfl
 |_,[],_::_=>rfl
 |_,_::_,[]=>rfl
 |n,x::a,y::b=>by
  have:jx n (.int x) (.int y)=(x==y):=by cases n<;>rfl
  simp! [zzF,eqs,xH n a b,this];rw [Bool.eq_iff_iff];simp
def ny(n:Nat)(a b:List Int):jx (n+1) (ah a) (ah b)=decide (a=b):=xH n a b
theorem m9:∀(n:Nat) (a b:Ks),eqs (jx (n+1)) (a.map ah) (b.map ah)=decide (a=b)
 |_,[],[]=>rfl
 |_,[],_::_=>rfl
 |_,_::_,[]=>rfl
 |n,x::a,y::b=>by
  simp! [zzF,eqs,m9 n a b,ny];rw [Bool.eq_iff_iff];simp
def FY(n:Nat)(a:List Int):(a.map PV.int).all (Ci.plain n)=true:=by
 simp! [zzT,zzx]
 rintro x ⟨i,_,rfl⟩
 cases n<;>rfl
def jY(n:Nat)(a:List Int):Ci.plain (n+1) (ah a)=true:=FY n a
def qA(n:Nat)(a:Ks):(a.map ah).all (Ci.plain (n+1))=true:=by
 simp! [zzT,zzx]
 rintro x ⟨i,_,rfl⟩
 exact jY n i
def lK(n:Nat)(a:Ks):Ci.plain (n+2) (.lst (a.map ah))=true:=qA n a
def WZ(a b:Ks):gq (.lst (a.map ah)) (.lst (b.map ah))=.ok (.bl (decide (a=b))):=by
 show(if(Ci.plain 9 (.lst (a.map ah))&&Ci.plain 9 (.lst (b.map ah)))=true then Res.ok (PV.bl (jx 9 (.lst (a.map ah)) (.lst (b.map ah)))) else .bad)=_
 rw [lK 7,lK 7];exact congrArg (λz=>Res.ok (PV.bl z)) (m9 7 a b)
def P7(a b:Ks):gL (.lst (a.map ah)) (.lst (b.map ah))=.ok (.bl (!decide (a=b))):=by
 show(if(Ci.plain 9 (.lst (a.map ah))&&Ci.plain 9 (.lst (b.map ah)))=true then Res.ok (PV.bl (!jx 9 (.lst (a.map ah)) (.lst (b.map ah)))) else .bad)=_
 rw [lK 7,lK 7];exact congrArg (λz=>Res.ok (PV.bl (!z))) (m9 7 a b)
def mem_keys(k:List Int)(L:Ks):yC (ah k) (L.map ah)=decide (k∈L):=by
 unfold yC;rw [List.any_map,Bool.eq_iff_iff,zzj,zzN]
 constructor
 ·rintro ⟨x,hx,e⟩
  have:decide (x=k)=true:=(ny 8 x k).symm.trans e
  exact zzY this▸hx
 ·intro h;exact⟨k,h,(ny 8 k k).trans (zzh rfl)⟩
def Kb(k:List Int)(L:Ks):f7 (ah k) (.lst (L.map ah))=.ok (.bl (!decide (k∈L))):=by
 show(if(Ci.plain 9 (ah k)&&(L.map ah).all (Ci.plain 9))=true then Res.ok (PV.bl (!yC (ah k) (L.map ah))) else .bad)=_
 rw [jY 8,qA 8,mem_keys]
 rfl
def Ux(k:List Int)(L:Ks):oj (ah k) (.lst (L.map ah))=.ok (.bl (decide (k∈L))):=by
 show(if(Ci.plain 9 (ah k)&&(L.map ah).all (Ci.plain 9))=true then Res.ok (PV.bl (yC (ah k) (L.map ah))) else .bad)=_
 rw [jY 8,qA 8,mem_keys]
 rfl
def kW(aa:List Str)(u:List Int):Prop:=∃r c,u=[r,c]/\bj aa r c=true
def qG:Ks:=(List.range 6).flatMap λ(r:Nat)=>(List.range 6).map λ(c:Nat)=>[(r:Int),(c:Int)]
def qN:qG.length=36:=by decide
def MV{aa:List Str}{w:Nat}(L:Fl aa w){u:List Int}(h:kW aa u):u∈qG:=by
 obtain⟨r,c,rfl,h⟩:=h
 obtain⟨a,b,d,e⟩:=HE L h
 refine List.mem_flatMap.2 ⟨r.toNat,List.mem_range.2 (by omega),zzx.2 ⟨c.toNat,List.mem_range.2 (by omega),?_⟩⟩;rw [Int.toNat_of_nonneg a,Int.toNat_of_nonneg d]
def fY{aa:List Str}{sl:Bool}{cl pr r c r' c' e:Int}:cW aa sl cl pr r c r' c'=some e↔¬gZ r c r' c'/\(r≠r'/\c≠c'->sl=true/\bj aa r c'=true/\bj aa r' c=true)/\cH aa r' c'-cH aa r c<=cl/\cH aa r c-cH aa r' c'<=cl/\e=(if r≠r'/\c≠c' then 3 else 2)+pr*(if cH aa r' c'-cH aa r c>0 then cH aa r' c'-cH aa r c else 0):=by
 unfold cW
 by_cases h1:gZ r c r' c'
 ·rw [if_pos (show(r=r'/\c=c')\/1<r-r'\/1<r'-r\/1<c-c'\/1<c'-c from h1)];exact⟨(λz=>by cases z),λz=>absurd h1 z.1⟩
 ·have La:¬((r=r'/\c=c')\/1<r-r'\/1<r'-r\/1<c-c'\/1<c'-c):=h1
  rw [if_neg La]
  by_cases h2:(r≠r'/\c≠c')/\¬(sl=true/\bj aa r c'=true/\bj aa r' c=true)
  ·rw [if_pos h2];exact⟨(λz=>by cases z),λz=>absurd (z.2.1 h2.1) h2.2⟩
  ·rw [if_neg h2];have oF:r≠r'/\c≠c'->sl=true/\bj aa r c'=true/\bj aa r' c=true:=λa=>Classical.byContradiction λb=>h2 ⟨a,b⟩
   by_cases h3:cl<cH aa r' c'-cH aa r c\/cl<cH aa r c-cH aa r' c'
   ·rw [if_pos h3];exact⟨(λz=>by cases z),λz=>by omega⟩
   ·rw [if_neg h3];refine⟨λz=>⟨h1,oF,by omega,by omega,by cases z;rfl⟩,λz=>by rw [z.2.2.2.2]⟩
def Dy{aa:List Str}{sl:Bool}{cl pr:Int}{u v:List Int}{e:Int}(h:E1 aa sl cl pr u v e):∃e',E1 aa sl cl pr v u e':=by
 obtain⟨r,c,r',c',h1,h2,h3,h4,h5⟩:=h
 rw [fY] at h5;refine⟨_,r',c',r,c,h2,h1,h4,h3,fY.2 ⟨?_,λz=>?_,h5.2.2.2.1,h5.2.2.1,rfl⟩⟩
 ·have:=h5.1
  unfold gZ at this⊢;omega
 ·obtain⟨a,b,d⟩:=h5.2.1 ⟨λx=>z.1 x.symm,λx=>z.2 x.symm⟩
  exact⟨a,d,b⟩
def kA{aa:List Str}{w:Nat}(L:Fl aa w){sl:Bool}{cl pr:Int}(V:Wk cl pr){u v:List Int}{e:Int}(h:E1 aa sl cl pr u v e):0<e/\e<=30/\kW aa v:=by
 obtain⟨r,c,r',c',h1,h2,h3,h4,h5⟩:=h
 rw [fY] at h5;obtain⟨_,_,_,_,_,l1,l2⟩:=nc L h3
 obtain⟨_,_,_,_,_,m1,m2⟩:=nc L h4
 have p0:=V.p0
 have p4:=V.p4
 have e5:=h5.2.2.2.2
 generalize hm:(if cH aa r' c'-cH aa r c>0 then cH aa r' c'-cH aa r c else 0)=m at e5
 have Q4:0<=m/\m<=9:=by rw [<-hm];split<;>omega
 generalize hf:(if r≠r'/\c≠c' then(3:Int) else 2)=f at e5
 have W0:2<=f/\f<=3:=by rw [<-hf];split<;>omega
 have a1:=Int.mul_nonneg p0 Q4.1
 have a2:pr*m<=3*9:=Int.mul_le_mul (by omega) Q4.2 Q4.1 (by omega)
 exact⟨by omega,by omega,r',c',h2,h4⟩
def Et(aa:List Str)(sl:Bool)(cl pr:Int)(u v:List Int)(e:Int):Prop:=E1 aa sl cl pr v u e
def uz(f:List PV->Res PV):Prop:=∀aa w,Fl aa w->∀sl cl pr,Wk cl pr->∀r c,bj aa r c=true->∃T:List (List Int×Int),f [fl aa,wk sl cl pr,ah [r,c]]=.ok (.lst (T.map tK))/\T.length<=9/\∀v e,(v,e)∈T↔Et aa sl cl pr [r,c] v e
def qS(F:aL):Prop:=uz (F "steps_to")
def HV(f:List PV->Res PV):Prop:=∀aa w,Fl aa w->∀sl cl pr,Wk cl pr->∀r c,bj aa r c=true->∃kr Vr,f [.lst [sp r c],wk sl cl pr,fl aa]=.ok (.bf kr (Vr.map val))/\oM (E1 aa sl cl pr) [r,c] kr Vr
def KU(F:aL):Prop:=HV (F "spread@steps_from")
def Il(f:List PV->Res PV):Prop:=∀aa w,Fl aa w->∀sl cl pr,Wk cl pr->∀r c,bj aa r c=true->∃kr Vr,f [.lst [sp r c],wk sl cl pr,fl aa]=.ok (.bf kr (Vr.map val))/\oM (Et aa sl cl pr) [r,c] kr Vr
def LX(F:aL):Prop:=Il (F "spread@steps_to")
def vH(F:aL)(hs:lx F)(hc:uM F):uz (ax F dD):=by
 intro aa w L sl cl pr V r c h;obtain⟨T,e1,hl,hT⟩:=hs aa w L sl cl pr V r c h
 have key:∀t∈T,∃e,Et aa sl cl pr [r,c] t.1 e/\F "step_cost" [fl aa,wk sl cl pr,ah t.1,ah [r,c]]=.ok (.int e):=λt ht=>by
  obtain⟨e',he⟩:=Dy ((hT t.1 t.2).1 ht)
  refine⟨e',he,?_⟩;obtain⟨a,b,a',b',g1,g2,g3,g4,g5⟩:=he
  cases g2;have:=hc aa w L sl cl pr V a b r c g3 g4
  rw [g5] at this;rw [g1];exact this
 let cf:List Int->Int:=λv=>match v with
  |[a,b]=>(cW aa sl cl pr a b r c).getD 0
  |_=>0
 have D4:∀v e,Et aa sl cl pr [r,c] v e->cf v=e:=by
  rintro v e ⟨a,b,a',b',rfl,h2,_,_,g⟩
  cases h2;show(cW aa sl cl pr a b r c).getD 0=e
  rw [g]
  rfl
 refine⟨T.map λt=>(t.1,cf t.1),?_,by simpa using hl,λv e=>?_⟩
 ·have l:T.length<fv:=zzV hl (by decide)
  have t0:∀t:List Int×Int,aG (tK t) (.int 0)=.ok (ah t.1):=λt=>rfl
  simp! only [dD,e1,zzl,l];rw [d7 (p:=tK) (g:=λt=>tK (t.1,cf t.1)) (λt ht=>by
   obtain⟨e,he,ee⟩:=key t ht
   simp! only [t0,ee,D4 _ _ he])]
  simp! only [List.map_map]
  rfl
 ·rw [zzx]
  constructor
  ·rintro ⟨t,ht,z⟩
   cases z;obtain⟨e,he,_⟩:=key t ht
   rw [D4 _ _ he];exact he
  ·intro he;obtain⟨e',h'⟩:=Dy he
   exact⟨(v,e'),(hT v e').2 h',by rw [D4 _ _ he]⟩
theorem EG(F:aL)(hs:lx F):HV (ax F bo):=λaa w L sl cl pr V r c h=>
 pR F "steps_from" (ix:=[1,2,1,0]) (cp:=[wk sl cl pr,fl aa]) (as:=λu=>[fl aa,wk sl cl pr,ah u]) rfl (λ_=>rfl) (E:=E1 aa sl cl pr) (O:=kW aa) (s:=[r,c]) (U:=qG) (λu hu=>MV L hu) (Nat.le_of_eq qN) (λu hu=>by obtain⟨_,_,rfl,_⟩:=hu;rfl) (λu v e he=>kA L V he)
  (λu hu=>by obtain⟨a,b,rfl,ho⟩:=hu;obtain⟨T,e,hl,hT⟩:=hs aa w L sl cl pr V a b ho;exact⟨T,e,by omega,hT⟩) ⟨r,c,rfl,h⟩
theorem Gb(F:aL)(hs:qS F):Il (ax F bJ):=λaa w L sl cl pr V r c h=>
 pR F "steps_to" (ix:=[1,2,1,0]) (cp:=[wk sl cl pr,fl aa]) (as:=λu=>[fl aa,wk sl cl pr,ah u]) rfl (λ_=>rfl) (E:=Et aa sl cl pr) (O:=kW aa) (s:=[r,c]) (U:=qG) (λu hu=>MV L hu) (Nat.le_of_eq qN) (λu hu=>by obtain⟨_,_,rfl,_⟩:=hu;rfl) (λu v e he=>⟨(kA L V he).1,(kA L V he).2.1,by obtain⟨a,b,_,_,h1,_,h3,_⟩:=he;exact⟨a,b,h1,h3⟩⟩)
  (λu hu=>by obtain⟨a,b,rfl,ho⟩:=hu;obtain⟨T,e,hl,hT⟩:=hs aa w L sl cl pr V a b ho;exact⟨T,e,by omega,hT⟩) ⟨r,c,rfl,h⟩
def sX(F:aL)(hn:j9 F)(hs:LX F){aa:List Str}{w:Nat}(L:Fl aa w){sl:Bool}{cl pr:Int}(V:Wk cl pr){r c:Int}(h:bj aa r c=true):∃kr Vr,ax F bH [fl aa,wk sl cl pr,.lst [sp r c]]=.ok (.bf kr (Vr.map val))/\oM (Et aa sl cl pr) [r,c] kr Vr:=by
 obtain⟨kr,Vr,e,R⟩:=hs aa w L sl cl pr V r c h
 exact⟨kr,Vr,by simp! only [bH,forL,hn aa L.qe r c h,kh,e],R⟩
def xO(f:List PV->Res PV):Prop:=∀aa w,Fl aa w->∀sl cl pr,Wk cl pr->∀r c,bj aa r c=true->∃kr Vr,f [fl aa,wk sl cl pr,sp r c]=.ok (.bf kr (Vr.map val))/\oM (E1 aa sl cl pr) [r,c] kr Vr
def ve(F:aL):Prop:=xO (F "spread_from")
theorem Fg(F:aL)(hn:j9 F)(hs:KU F):xO (ax F bO):=λaa w L sl cl pr V r c h=>by
 obtain⟨kr,Vr,e,R⟩:=hs aa w L sl cl pr V r c h
 exact⟨kr,Vr,by simp! only [bO,hn aa L.qe r c h,kh,e],R⟩
def og.cons{E:List Int->List Int->Int->Prop}{s u v:List Int}{d e:Int}(h:E s u e)(k:og E u v d):og E s v (e+d):=by
 induction k with
 |here=>have:=og.go (og.here (E:=E) (s:=s)) h;rw [Int.zero_add] at this;rwa [Int.add_zero]
 |go _ he ih=>have:=ih.go he;rwa [Int.add_assoc] at this
def w5{E E':List Int->List Int->Int->Prop}(hE:∀u v e,E u v e->E' v u e){s u:List Int}{c:Int}(h:og E s u c):og E' u s c:=by
 induction h with
 |here=>exact .here
 |go _ he ih=>have:=og.cons (hE _ _ _ he) ih;rwa [Int.add_comm] at this
def qJ{E:List Int->List Int->Int->Prop}{s:List Int}{kr:Ks}{Vr:Vs}(R:oM E s kr Vr){k:List Int}{c:Int}(h:og E s k c):∃q,av kr Vr k=some q/\q.1<=c:=by
 induction h with
 |here=>exact R.st
 |go _ he ih=>
  obtain⟨q,h1,h2⟩:=ih
  obtain⟨q',h3,h4⟩:=R.iU _ q h1 _ _ he
  exact⟨q',h3,by omega⟩
def Gm{E:List Int->List Int->Int->Prop}{s:List Int}(hE:∀u v e,E u v e->0<e){k:List Int}{l:Ks}{d:Int}(h:D3 E s k l d):(l.length:Int)<=d+1:=by
 induction h with
 |here=>simp
 |go _ he ih=>have:=hE _ _ _ he;rw [zzL];omega
def U5(E:List Int->List Int->Int->Prop)(u g:List Int)(p:PV):Prop:=(p=.aD/\∀c,¬og E u g c)\/∃d l,p=.tup [.int d,.lst (l.map ah)]/\D3 (λa b e=>E b a e) g u l d/\l.length<=2000/\∀c,og E u g c->d<=c
def Co(f:List PV->Res PV):Prop:=∀aa w,Fl aa w->∀sl cl pr,Wk cl pr->∀r c r' c',bj aa r c=true->bj aa r' c'=true->∃p,f [fl aa,wk sl cl pr,sp r c,sp r' c']=.ok p/\U5 (E1 aa sl cl pr) [r,c] [r',c'] p
def Du(F:aL)(hn:j9 F)(hs:∀aa w,Fl aa w->∀sl cl pr,Wk cl pr->∀r c,bj aa r c=true->∃kr Vr,F "spread_to" [fl aa,wk sl cl pr,.lst [sp r c]]=.ok (.bf kr (Vr.map val))/\oM (Et aa sl cl pr) [r,c] kr Vr)
 (ht:∀E s kr Vr,oM E s kr Vr->(∀u v e,E u v e->0<e)->∀k q,av kr Vr k=some q->∃l:Ks,F "traced" [.bf kr (Vr.map val),ah k]=.ok (.lst (l.map ah))/\D3 E s k l q.1):
 Co (ax F bP):=by
 intro aa w L sl cl pr V r c r' c' h h';obtain⟨kr,Vr,e,R⟩:=hs aa w L sl cl pr V r' c' h'
 have n1:=hn aa L.qe r c h
 have k:sp r c=ah [r,c]:=rfl
 have g1:=aS (vs:=Vr) [r,c] R.len
 cases hq:av kr Vr [r,c] with
 |none=>
  rw [hq] at g1;have yy:cg kr [r,c]=false:=g1
  refine⟨.aD,?_,.inl ⟨rfl,λc' hw=>?_⟩⟩
  ·rw [k] at n1⊢;simp! only [bP,n1,e,ke,yy]
  ·obtain⟨q,h1,_⟩:=qJ R (w5 (E':=Et aa sl cl pr) (λ_ _ _ z=>z) hw)
   rw [hq] at h1;cases h1
 |some q=>
  rw [hq] at g1;have yy:cg kr [r,c]=true:=g1
  obtain⟨l,e2,tr⟩:=ht _ _ _ _ R (λu v e he=>(kA L V he).1) [r,c] q hq
  refine⟨.tup [.int q.1,.lst (l.map ah)],?_,.inr ⟨q.1,l,rfl,tr,by have:=Gm (λu v e he=>(kA L V he).1) tr;have:=(R.bd _ q hq).2;omega,λc' hw=>?_⟩⟩
  ·rw [k] at n1⊢;simp! only [bP,n1,e,ke,yy,Bq hq,zw,e2]
  ·obtain⟨q',h1,h2⟩:=qJ R (w5 (E':=Et aa sl cl pr) (λ_ _ _ z=>z) hw)
   rw [hq] at h1;cases h1;exact h2
def cst(kr:Ks)(Vr:Vs)(k:List Int):Int:=((av kr Vr k).map (·.1)).getD 0
def Aj(F:aL){E:List Int->List Int->Int->Prop}{s:List Int}{kr:Ks}{Vr:Vs}(R:oM E s kr Vr)(h2:∀k∈kr,k≠[]):∃S:Ks,ax F bK [.bf kr (Vr.map val)]=.ok (.lst (S.map λk=>tK (k,cst kr Vr k)))/\S.length<=36/\(∀k,k∈S↔k∈kr)/\vX S:=by
 obtain⟨S,e,hm,hs⟩:=vB (vs:=Vr.map val) R.nr (by have:=R.le;omega) h2
 have hl:S.length<=36:=by
  have:=(List.perm_ext_iff_of_nodup hs.nodup R.nr).2 hm
  rw [this.length_eq];exact R.le
 refine⟨S,?_,hl,hm,hs⟩;have ll:S.length<fv:=zzV hl (by decide)
 simp! only [bK,e,zzl,ll];rw [d7 (p:=ah) (g:=λk=>tK (k,cst kr Vr k)) (λk hk=>by
  have:(av kr Vr k).isSome=true:=by rw [<-aS k R.len];exact cy.2 ((hm k).1 hk)
  obtain⟨q,hq⟩:=zzp.1 this
  have ec:cst kr Vr k=q.1:=by unfold cst;rw [hq];rfl
  simp! only [Bq hq,zw,ec])]
 rfl
def Hx(f:List PV->Res PV):Prop:=∀aa,lB aa->∃S:Ks,f [fl aa]=.ok (.lst (S.map ah))/\S.length<=36/\vX S/\∀k,k∈S↔kW aa k
def vJ{F:aL}(h:qE F):Hx (F "_law_spots"):=by
 intro aa R;obtain⟨L,e,hu,hl,hm⟩:=h aa R
 refine⟨L.map kN,?_,by simpa using hl,?_,λk=>?_⟩
 ·rw [e,List.map_map]
  rfl
 ·exact List.pairwise_map.2 hu
 ·rw [zzx]
  constructor
  ·rintro ⟨p,hp,rfl⟩
   have:=(hm p.1 p.2).1 hp
   exact⟨_,_,rfl,lY.2 ⟨by omega,by omega,this⟩⟩
  ·rintro ⟨r,c,rfl,h⟩
   obtain⟨a,b,d⟩:=lY.1 h
   refine⟨(r.toNat,c.toNat),(hm _ _).2 d,?_⟩;show [(r.toNat:Int),(c.toNat:Int)]=[r,c]
   rw [Int.toNat_of_nonneg a,Int.toNat_of_nonneg b]
def IW{α:Type}(xs:List α){k:Nat}(h:k<=xs.length):DE xs (some (k:Int)) none=xs.drop k:=by
 unfold DE;rw [HT.GO,HT.A7,Nat.min_eq_left h];exact List.take_of_length_le (by simp)
def qF{aa:List Str}{w:Nat}(L:Fl aa w){r c:Int}(h0:0<=r)(h1:r<aa.length)(h2:0<=c)(h3:c<w):∃z,aG (fl aa) (.int r)=.ok (.str z)/\∃x:Nat,aG (.str z) (.int c)=.ok (.str ⟨#[x]⟩)/\(x !=35)=bj aa r c:=by
 obtain⟨i,rfl⟩:=zzw h0
 obtain⟨j,rfl⟩:=zzw h2
 obtain⟨x,hx⟩:=N9 L (i:=i) (j:=j) (by omega) (by omega)
 obtain⟨z,_,e1,e2⟩:=AY L.qe hx
 exact⟨z,e1,x,e2,by simp [bj,DX,hx]⟩
def Ay(x:Nat):gq (.str ⟨#[x]⟩) (.str "#")=.ok (.bl (!(x !=35))):=by
 have:(("#":Str))=⟨#[35]⟩:=by decide+kernel
 rw [this];show Res.ok (PV.bl ((⟨#[x]⟩:Str)==⟨#[35]⟩))=_
 congr 2
 rw [bne,Bool.not_not,Bool.eq_iff_iff];simp
def G8{t u:Bool}:(if t=true then Res.ok (PV.bl true) else Res.ok (PV.bl u))=Res.ok (PV.bl (t||u)):=by cases t<;>rfl
def Qb:Ss:=#v[.ret (.bin .add (!5) (.ite (.cmp .gt (!4) (¬0)) (.bin .mul (.sub (!1) (¬2)) (!4)) (¬0)))]
noncomputable def M5:Ss:=.cons (.ite (.and (.cmp .ne (.sub (!2) (¬0)) (.sub (!3) (¬0))) (.cmp .ne (.sub (!2) (¬1)) (.sub (!3) (¬1)))) #v[.ite (.or (.not (.sub (!1) (¬0))) (.or (.cmp .eq (.sub (.sub (!0) (.sub (!2) (¬0))) (.sub (!3) (¬1))) (.cst (.str "#"))) (.cmp .eq (.sub (.sub (!0) (.sub (!3) (¬0))) (.sub (!2) (¬1))) (.cst (.str "#"))))) #v[.ret (.cst .aD)] .nil,.set 5 (¬3)] .nil) Qb
noncomputable def PX:Ss:=.cons (.ite (.or (.cmp .gt (!4) (.sub (!1) (¬1))) (.cmp .gt (.bin .sub (¬0) (!4)) (.sub (!1) (¬1)))) #v[.ret (.cst .aD)] .nil) M5
theorem EJ:cb.body=(.cons (.set 4 (.bin .sub (.blt .int #v[.sub (.sub (!0) (.sub (!3) (¬0))) (.sub (!3) (¬1))]) (.blt .int #v[.sub (.sub (!0) (.sub (!2) (¬0))) (.sub (!2) (¬1))]))) (.cons (.set 5 (¬2)) PX)):=rfl
abbrev RO(A:PV)(sl:Bool)(cl pr r c r' c' ri k:Int):Sl:=[.val A,.val (wk sl cl pr),.val (sp r c),.val (sp r' c'),.val (.int ri),.val (.int k)]
def AM(F:aL)(A:PV)(sl:Bool){cl pr:Int}(V:Wk cl pr)(r c r' c' ri k:Int):aE F Qb (RO A sl cl pr r c r' c' ri k)=.ok (.rt (.int (k+pr*(if ri>0 then ri else 0)))):=by
 have ms:=pJ (j:=ri) V.p0 V.p4
 by_cases hp:0<ri
 ·rw [if_pos hp];simp! only [Qb,hp,decide_true,ms]
 ·rw [if_neg hp,Int.mul_zero];simp! only [Qb,hp,decide_false]
def K7(F:aL){aa:List Str}{w:Nat}(L:Fl aa w){sl:Bool}{cl pr:Int}(V:Wk cl pr){r c r' c':Int}(h:bj aa r c=true)(h':bj aa r' c'=true)(ri:Int):
 aE F M5 (RO (fl aa) sl cl pr r c r' c' ri 2)=.ok (.rt (if(r≠r'/\c≠c')/\¬(sl=true/\bj aa r c'=true/\bj aa r' c=true) then .aD else .int ((if r≠r'/\c≠c' then 3 else 2)+pr*(if ri>0 then ri else 0)))):=by
 have i1:=jW L h
 have i2:=jW L h'
 obtain⟨z3,c1,x3,c2,c3⟩:=qF L (r:=r) (c:=c') i1.1 i1.2.1 i2.2.2.1 i2.2.2.2
 obtain⟨z4,d1,x4,d2,d3⟩:=qF L (r:=r') (c:=c) i2.1 i2.2.1 i1.2.2.1 i1.2.2.2
 have e3:=AM F (fl aa) sl V r c r' c' ri 3
 have e2:=AM F (fl aa) sl V r c r' c' ri 2
 by_cases n3:r≠r'/\c≠c'
 ·have HG:(!(r==r'))=true:=by simpa using n3.1
  have xb:(!(c==c'))=true:=by simpa using n3.2
  rw [if_pos n3]
  by_cases hb:sl=true/\bj aa r c'=true/\bj aa r' c=true
  ·rw [if_neg λz=>z.2 hb]
   have hB:(!sl||(!bj aa r c'||!bj aa r' c))=false:=by rw [hb.1,hb.2.1,hb.2.2];rfl
   simp! only [M5,c1,c2,d1,d2,Ay,c3,d3,G8,HG,xb,hB,Bool.true_or,e3]
  ·rw [if_pos ⟨n3,hb⟩];have hB:(!sl||(!bj aa r c'||!bj aa r' c))=true:=by
    cases sl with
    |false=>rfl
    |true=>
     cases o1:bj aa r c' with
     |false=>rfl
     |true=>
      cases o2:bj aa r' c with
      |false=>rfl
      |true=>exact absurd ⟨rfl,o1,o2⟩ hb
   simp! only [M5,c1,c2,d1,d2,Ay,c3,d3,G8,HG,xb,hB,Bool.true_or]
 ·rw [if_neg λz=>n3 z.1,if_neg n3]
  cases HG:(!(r==r')) with
  |false=>simp! only [M5,HG,e2]
  |true=>
   have xb:(!(c==c'))=false:=by
    cases xb:(!(c==c')) with
    |false=>rfl
    |true=>exact absurd ⟨by simpa using HG,by simpa using xb⟩ n3
   simp! only [M5,HG,xb,e2]
def vT(F:aL){aa:List Str}{w:Nat}(L:Fl aa w){sl:Bool}{cl pr:Int}(V:Wk cl pr){r c r' c':Int}(h:bj aa r c=true)(h':bj aa r' c'=true)(hf:¬gZ r c r' c'):
 ax F cb [fl aa,wk sl cl pr,sp r c,sp r' c']=.ok (oP (cW aa sl cl pr r c r' c')):=by
 obtain⟨z1,x1,a1,a2,a3,_⟩:=nc L h
 obtain⟨z2,x2,b1,b2,b3,_⟩:=nc L h'
 have q1:cW aa sl cl pr r c r' c'=_:=if_neg hf
 rw [q1];have st:cx cb [fl aa,wk sl cl pr,sp r c,sp r' c']=[.val (fl aa),.val (wk sl cl pr),.val (sp r c),.val (sp r' c'),.no,.no]:=rfl
 have ar:cA cb [fl aa,wk sl cl pr,sp r c,sp r' c']=true:=rfl
 have e4:=K7 F L V (sl:=sl) h h' (cH aa r' c'-cH aa r c)
 have go:∀x,aE F PX (RO (fl aa) sl cl pr r c r' c' (cH aa r' c'-cH aa r c) 2)=.ok (.rt x)->ax F cb [fl aa,wk sl cl pr,sp r c,sp r' c']=.ok x:=λx e=>by
  unfold ax;rw [ar,if_pos rfl,st,EJ];simp! [aE,fH,aK,cY,J,J2,a1,a2,a3,b1,b2,b3,e]
 by_cases hz:cl<cH aa r' c'-cH aa r c\/cl<cH aa r c-cH aa r' c'
 ·have:(if(r≠r'/\c≠c')/\¬(sl=true/\bj aa r c'=true/\bj aa r' c=true) then none else if cl<cH aa r' c'-cH aa r c\/cl<cH aa r c-cH aa r' c' then none else some ((if r≠r'/\c≠c' then 3 else 2)+pr*(if cH aa r' c'-cH aa r c>0 then cH aa r' c'-cH aa r c else 0)))=(none:Option Int):=by
   rw [if_pos hz];split<;>rfl
  rw [this];have hb:(decide (cl<cH aa r' c'-cH aa r c)||decide (cl<0-(cH aa r' c'-cH aa r c)))=true:=by
   rw [zzt,zzN,zzN];omega
  refine go .aD ?_;simp! only [PX,G8,hb]
 ·have hb:(decide (cl<cH aa r' c'-cH aa r c)||decide (cl<0-(cH aa r' c'-cH aa r c)))=false:=by
   rw [Bool.or_eq_false_iff,decide_eq_false_iff_not,decide_eq_false_iff_not];omega
  rw [if_neg hz];refine(go _ ((?_:_=_).trans e4)).trans ?_
  ·simp! only [PX,G8,hb]
  ·split<;>rfl
def o9(F:aL):Prop:=∀aa w,Fl aa w->∀sl cl pr,Wk cl pr->∀r c r' c',bj aa r c=true->bj aa r' c'=true->¬gZ r c r' c'->F "_law_cost" [fl aa,wk sl cl pr,sp r c,sp r' c']=.ok (oP (cW aa sl cl pr r c r' c'))
noncomputable def Mg(aa:List Str)(sl:Bool)(cl pr r c:Int)(i:Nat):Option (List Int×Int):=if i≠4/\bj aa (r-1+i/3) (c-1+i%3)=true then(cW aa sl cl pr r c (r-1+i/3) (c-1+i%3)).map λv=>([r-1+(i:Int)/3,c-1+(i:Int)%3],v) else none
noncomputable def Kl(aa:List Str)(sl:Bool)(cl pr r c:Int)(i:Nat):Option PV:=if i≠4/\bj aa (r-1+i/3) (c-1+i%3)=true then(cW aa sl cl pr r c (r-1+i/3) (c-1+i%3)).map λv=>tK ([r-1+(i:Int)/3,c-1+(i:Int)%3],v) else none
noncomputable def kC:E:=.and (.ch .le .lt (¬0) (!5) (.blt .len #v[!0])) (.and (.ch .le .lt (¬0) (!6) (.blt .len #v[.sub (!0) (¬0)])) (.and (.cmp .ne (!4) (¬4)) (.cmp .ne (.sub (.sub (!0) (!5)) (!6)) (.cst (.str "#")))))
def kT:Ss:=#v[.set 7 (.call "_law_cost" #v[!0,!1,!2,.tup #v[!5,!6]]),.ite (.cmp .A6 (!7) (.cst .aD)) #v[.app 3 (.tup #v[.tup #v[!5,!6],!7])] .nil]
noncomputable def kR:Ss:=#v[.ite kC kT .nil]
noncomputable def ub:Ss:=.cons (.set 5 (.bin .add (.bin .sub (.sub (!2) (¬0)) (¬1)) (.bin .fdiv (!4) (¬3)))) (.cons (.set 6 (.bin .add (.bin .sub (.sub (!2) (¬1)) (¬1)) (.bin .mod (!4) (¬3)))) kR)
def C8{t u:Bool}:(if t=true then Res.ok (PV.bl u) else Res.ok (PV.bl false))=Res.ok (PV.bl (t&&u)):=by cases t<;>rfl
def Vm{aa:List Str}{w:Nat}(L:Fl aa w):∃z,aG (fl aa) (.int 0)=.ok (.str z)/\z.length=w/\z.length<=fv:=by
 have hz:aa[0]?=some (aa[0]'L.ne):=zzg L.ne
 have hm:=zzD hz
 exact⟨_,Dt (j:=0) hz,L.EO _ hm,zzU (L.qe.2 _ hm) (by decide)⟩
def OD(F:aL){aa:List Str}{w:Nat}(L:Fl aa w)(A B:PV)(i:Nat)(s3 s7:Ci.Slot)(r' c':Int):
 aK F kC [.val (fl aa),.val A,.val B,s3,.val (.int i),.val (.int r'),.val (.int c'),s7]=.ok (.bl (decide (i≠4/\bj aa r' c'=true))):=by
 obtain⟨z0,f1,f2,f3⟩:=Vm L
 have UG:(z0.length:Int)=(w:Int):=by rw [f2]
 by_cases hA:0<=r'/\r'<aa.length
 ·by_cases hB:0<=c'/\c'<w
  ·obtain⟨z,g1,x,g2,g3⟩:=qF L hA.1 hA.2 hB.1 hB.2
   have e:decide (i≠4/\bj aa r' c'=true)=((!((i:Int)==4))&&bj aa r' c'):=by
    rw [Bool.eq_iff_iff,zza,zzN];simp;omega
   rw [e];simp! only [kC,hA.1,hA.2,hB.1,hB.2,f1,UG,f3,decide_true,zzl,g1,g2,g3,v5,C8,Bool.true_and]
  ·have e:decide (i≠4/\bj aa r' c'=true)=false:=zz0 λz=>hB (jW L z.2).2.2
   have q:(decide (0<=c')&&decide (c'<(w:Int)))=false:=by
    rw [<-Bool.decide_and];exact zz0 hB
   rw [e];simp! only [kC,hA.1,hA.2,f1,UG,f3,decide_true,zzl,C8,q,Bool.true_and,Bool.false_and]
 ·have e:decide (i≠4/\bj aa r' c'=true)=false:=zz0 λz=>hA ⟨(jW L z.2).1,(jW L z.2).2.1⟩
  have q:(decide (0<=r')&&decide (r'<(aa.length:Int)))=false:=by
   rw [<-Bool.decide_and];exact zz0 hA
  rw [e];simp! only [kC,zzl,C8,q,Bool.true_and,Bool.false_and]
def Cy(F:aL)(hc:o9 F){aa:List Str}{w:Nat}(L:Fl aa w){sl:Bool}{cl pr:Int}(V:Wk cl pr){r c:Int}(h:bj aa r c=true)(i:Nat)(hi:i<9)(acc:List PV)(hT:acc.length<=100)(t4 t5 t6 t7:Ci.Slot):
 ∃(u:Ci.Slot),(((Tg.one 4).put (.int i) [.val (fl aa),.val (wk sl cl pr),.val (sp r c),.own (.lst acc),t4,t5,t6,t7]).bind λau=>aE F ub au)=
  .ok (.nx [.val (fl aa),.val (wk sl cl pr),.val (sp r c),.own (.lst (acc++(Kl aa sl cl pr r c i).toList)),.val (.int i),.val (.int (r-1+i/3)),.val (.int (c-1+i%3)),u]):=by
 have q3:(0:Int)<3:=by decide
 have q4:(0:Int)<3/\(3:Int)<1073741824:=by decide
 have VS:acc.length<fv:=zzV hT (by decide)
 have kc:=OD F L (wk sl cl pr) (sp r c) i (.own (.lst acc)) t7 (r-1+(i:Int)/3) (c-1+(i:Int)%3)
 have go:∀x,aE F kR [.val (fl aa),.val (wk sl cl pr),.val (sp r c),.own (.lst acc),.val (.int i),.val (.int (r-1+i/3)),.val (.int (c-1+i%3)),t7]=x->(((Tg.one 4).put (.int i) [.val (fl aa),.val (wk sl cl pr),.val (sp r c),.own (.lst acc),t4,t5,t6,t7]).bind λau=>aE F ub au)=x:=λx e=>by
  simp! only [ub,q3,q4,and_self,e]
 unfold Kl
 by_cases hq:i≠4/\bj aa (r-1+i/3) (c-1+i%3)=true
 ·rw [if_pos hq];rw [zzh hq] at kc;have nf:¬gZ r c (r-1+i/3) (c-1+i%3):=by unfold gZ;omega
  have e:=hc aa w L sl cl pr V r c _ _ h hq.2 nf
  cases hs:cW aa sl cl pr r c (r-1+i/3) (c-1+i%3) with
  |none=>
   rw [hs] at e;simp! [oP] at e;have e5:f6 .aD .aD=.ok (.bl false):=rfl
   refine⟨.val .aD,go _ ?_⟩;rw [kR,aE,fH,kc];simp! only [kT,e,e5,Option.map_none,Option.toList_none,zz6]
  |some v=>
   rw [hs] at e;simp! [oP] at e;have e5:f6 (.int v) .aD=.ok (.bl true):=rfl
   refine⟨.val (.int v),go _ ?_⟩;rw [kR,aE,fH,kc];simp! only [kT,e,e5,VS,Option.map_some,Option.toList_some]
   rfl
 ·rw [if_neg hq];rw [zz0 hq] at kc;refine⟨t7,go _ ?_⟩;rw [kR,aE,fH,kc];simp! only [Option.toList_none,zz6]
def JP(aa:List Str)(sl:Bool)(cl pr r c:Int)(i:Nat):Kl aa sl cl pr r c i=(Mg aa sl cl pr r c i).map tK:=by
 unfold Kl Mg;split
 ·rw [Option.map_map];rfl
 ·rfl
theorem yb{α β:Type}(f:α->Option β):∀l:List α,(l.flatMap λa=>(f a).toList)=l.filterMap f
 |[]=>rfl
 |a::l=>by
  rw [List.flatMap_cons,yb f l,List.filterMap_cons];cases f a<;>rfl
def pA(f:List PV->Res PV):Prop:=∀aa w,Fl aa w->∀sl cl pr,Wk cl pr->∀r c,bj aa r c=true->∃T:List (List Int×Int),f [fl aa,wk sl cl pr,ah [r,c]]=.ok (.lst (T.map tK))/\T.length<=9/\(T.Pairwise λa b=>a.1≠b.1)/\∀v e,(v,e)∈T↔E1 aa sl cl pr [r,c] v e
def eE(F:aL):Prop:=pA (F "_law_steps")
def yV(F:aL)(hc:o9 F):pA (ax F br):=by
 intro aa w L sl cl pr V r c h;refine⟨(List.range 9).filterMap (Mg aa sl cl pr r c),?_,zzU (List.length_filterMap_le _ _) (by simp),?_,λv e=>?_⟩
 ·obtain⟨s',e⟩:=gD (body:=λx env=>((Tg.one 4).put x env).bind λau=>aE F ub au) (g:=λi:Nat=>PV.int (i:Int)) (mk:=λacc (s:Ci.Slot×Ci.Slot×Ci.Slot×Ci.Slot)=>[.val (fl aa),.val (wk sl cl pr),.val (sp r c),.own (.lst acc),s.1,s.2.1,s.2.2.1,s.2.2.2]) (app:=λi=>(Kl aa sl cl pr r c i).toList) (m:=1) (M:=50) (List.range 9) [] (.no,.no,.no,.no) (λi _=>by cases Kl aa sl cl pr r c i<;>simp) (λi hi acc s hl=>by
   obtain⟨u,e⟩:=Cy F hc L V h i (List.mem_range.1 hi) acc (by omega) s.1 s.2.1 s.2.2.1 s.2.2.2
   exact⟨(_,_,_,u),e⟩) (by decide)
  have k:ah [r,c]=sp r c:=rfl
  have s:bg 9=true:=by decide
  have rg:fy 0 (9:Int).toNat=(List.range 9).map λi:Nat=>PV.int (i:Int):=by
   unfold fy;refine List.map_congr_left λi _=>?_
   rw [Int.zero_add]
  have fm:((List.range 9).flatMap λi=>(Kl aa sl cl pr r c i).toList)=((List.range 9).filterMap (Mg aa sl cl pr r c)).map tK:=by
   rw [yb,List.map_filterMap]
   congr 1
   funext i
   exact JP ..
  rw [fm,<-rg] at e;have db:br.body=.cons (.own 3 (.lst .nil)) (.cons (.cQ (.one 4) (.uc (.cst (.int 9))) ub) (.cons (.bE 3) (.cons (.ret (.var 3)) .nil))):=rfl
  have st:cx br [fl aa,wk sl cl pr,sp r c]=[.val (fl aa),.val (wk sl cl pr),.val (sp r c),.no,.no,.no,.no,.no]:=rfl
  have ar:cA br [fl aa,wk sl cl pr,sp r c]=true:=rfl
  rw [k];unfold ax;rw [ar,if_pos rfl,st,db];simp! only [s] at e⊢;simp! only [e,D1]
 ·refine List.Pairwise.filterMap (S:=λa b:List Int×Int=>a.1≠b.1) (R:=λi j:Nat=>i≠j) _ (λi j sE a ha b hb Qc=>sE ?_) (List.nodup_range (n:=9));unfold Mg at ha hb;split at ha
  ·split at hb
   ·obtain⟨_,_,rfl⟩:=zzJ.1 ha
    obtain⟨_,_,rfl⟩:=zzJ.1 hb
    simp! [List.cons.injEq,and_true] at Qc;omega
   ·cases hb
  ·cases ha
 ·rw [zz1]
  constructor
  ·rintro ⟨i,hi,g⟩
   unfold Mg at g;split at g
   ·rename_i hh;obtain⟨x,hx,g⟩:=zzJ.1 g
    cases g;exact⟨r,c,_,_,rfl,rfl,h,hh.2,hx⟩
   ·cases g
  ·rintro ⟨a,b,r',c',g1,rfl,_,ho,hs⟩
   cases g1;have nf:=(fY.1 hs).1
   unfold gZ at nf;refine⟨(3*(r'-r+1)+(c'-c+1)).toNat,List.mem_range.2 (by omega),?_⟩;have e1:r-1+((3*(r'-r+1)+(c'-c+1)).toNat:Int)/3=r':=by omega
   have e2:c-1+((3*(r'-r+1)+(c'-c+1)).toNat:Int)%3=c':=by omega
   unfold Mg;rw [e1,e2,if_pos ⟨by omega,ho⟩,hs]
   rfl
inductive Jg(E:List Int->List Int->Int->Prop):Ks->Int->Prop
 |one {x:List Int}:Jg E [x] 0
 |cons {x y:List Int} {l:Ks} {e d:Int}:E x y e->Jg E (y::l) d->Jg E (x::y::l) (e+d)
def Ge{E:List Int->List Int->Int->Prop}{g u:List Int}{l:Ks}{d:Int}(h:D3 (λa b e=>E b a e) g u l d):og E u g d:=by
 induction h with
 |here=>exact .here
 |go _ he ih=>have:=og.cons he ih;rwa [Int.add_comm] at this
def OV{aa:List Str}{sl:Bool}{cl pr:Int}{u v:List Int}{e e':Int}(h:E1 aa sl cl pr u v e)(h':E1 aa sl cl pr u v e'):e'=e:=by
 obtain⟨r,c,r',c',rfl,rfl,_,_,h5⟩:=h
 obtain⟨_,_,_,_,g1,g2,_,_,g5⟩:=h'
 cases g1;cases g2;rw [h5] at g5;cases g5
 rfl
theorem mO{f:PV->Res (Option PV)}{g:List Int}(hf:∀t:List Int×Int,f (tK t)=.ok (if decide (t.1=g) then some (.int t.2) else none)):∀T:List (List Int×Int),bq f (T.map tK)=.ok (((T.filter λt=>decide (t.1=g)).map (·.2)).map PV.int)
 |[]=>rfl
 |t::T=>by
  simp! [zzF,bq,hf,MQ,rO,mO hf T,zz3];cases(decide (t.1=g))<;>rfl
def Ds{aa:List Str}{sl:Bool}{cl pr:Int}{u g:List Int}{e:Int}{T:List (List Int×Int)}(hT:∀v e,(v,e)∈T↔E1 aa sl cl pr u v e)(he:E1 aa sl cl pr u g e):∃ns,(T.filter λt=>decide (t.1=g)).map (·.2)=e::ns:=by
 cases hq:T.filter λt=>decide (t.1=g) with
 |nil=>
  have:(g,e)∈T.filter λt=>decide (t.1=g):=List.mem_filter.2 ⟨(hT g e).2 he,zzh rfl⟩
  rw [hq] at this;cases this
 |cons t r=>
  have:t∈T.filter λt=>decide (t.1=g):=by rw [hq];exact zzP ..
  obtain⟨h1,h2⟩:=List.mem_filter.1 this
  obtain⟨a,b⟩:=t
  have h2:a=g:=zzY h2
  subst h2;rw [zzF];exact⟨_,congrArg (·::_) (OV he ((hT a b).1 h1))⟩
noncomputable def xC:Ss:=#v[.set 7 (.dc 1 [6] (.one 0) (.seq (.call "_law_steps" #v[!0,!1,.sub (!2) (!5)])) (.cmp .eq (.sub (!0) (¬0)) (!1)) (.sub (!0) (¬1))),.ite (.cmp .eq (!7) (.lst .nil)) #v[.ret (.cst .aD)] .nil,.set 4 (.bin .add (!4) (.sub (!7) (¬0)))]
def S3(a b:List Int):gq (ah a) (ah b)=.ok (.bl (decide (a=b))):=by
 show(if(Ci.plain 9 (ah a)&&Ci.plain 9 (ah b))=true then Res.ok (PV.bl (jx 9 (ah a) (ah b))) else .bad)=_
 rw [jY 8,jY 8];exact congrArg (λz=>Res.ok (PV.bl z)) (ny 8 a b)
theorem ue(F:aL)(hs:eE F){aa:List Str}{w:Nat}(L:Fl aa w){sl:Bool}{cl pr:Int}(V:Wk cl pr)(A:PV)(W:Ks):∀(l:Ks) (x:List Int) (d s:Int) (k:Nat) (s5 s6 s7:Ci.Slot),Jg (E1 aa sl cl pr) (x::l) d->W.drop k=x::l->∃t5 t6 t7,forL (λx env=>((Tg.two 5 6).put x env).bind λau=>aE F xC au) (cM k (l.map ah)) [.val (fl aa),.val (wk sl cl pr),.val (.lst (W.map ah)),.val A,.val (.int s),s5,s6,s7]=.ok (.nx [.val (fl aa),.val (wk sl cl pr),.val (.lst (W.map ah)),.val A,.val (.int (s+d)),t5,t6,t7])
 |[],x,d,s,k,s5,s6,s7,hp,hW=>by
  cases hp;exact⟨s5,s6,s7,by rw [Int.add_zero];rfl⟩
 |y::l,x,d,s,k,s5,s6,s7,hp,hW=>by
  cases hp with
  |@cons _ _ _ e d he hp=>
   obtain⟨r,c,hx,ho⟩:kW aa x:=by obtain⟨r,c,_,_,h1,_,h3,_⟩:=he;exact⟨r,c,h1,h3⟩
   obtain⟨T,e1,lT,_,hT⟩:=hs aa w L sl cl pr V r c ho
   rw [<-hx] at e1 hT;obtain⟨ns,hn⟩:=Ds hT he
   have lT:T.length<fv:=zzV lT (by decide)
   have hk:W[k]?=some x:=by
    have:=congrArg (λz:Ks=>z[0]?) hW
    simpa using this
   have Wj:=(zzH.1 hk).1
   have es:aG (.lst (W.map ah)) (.int k)=.ok (ah x):=by
    simp! [aG];rw [gO (k:=k) (by simpa using Wj)];rw [List.getElem_map,(zzH.1 hk).2]
    rfl
   have t0:∀t:List Int×Int,aG (tK t) (.int 0)=.ok (ah t.1):=λt=>rfl
   have t1:∀t:List Int×Int,aG (tK t) (.int 1)=.ok (.int t.2):=λt=>rfl
   have q1:gq (.lst ((e::ns).map PV.int)) (.lst [])=.ok (.bl false):=by
    have:=eq_nil (e::ns)
    rwa [zz0 (List.cons_ne_nil _ _)] at this
   have q2:aG (.lst ((e::ns).map PV.int)) (.int 0)=.ok (.int e):=by
    simp! [aG];rw [show(0:Int)=((0:Nat):Int) from rfl,gO (k:=0) (by simp)]
    rfl
   rw [zzF] at q1 q2;have eb:(((Tg.two 5 6).put (.tup [.int (k:Nat),ah y]) [.val (fl aa),.val (wk sl cl pr),.val (.lst (W.map ah)),.val A,.val (.int s),s5,s6,s7]).bind λau=>aE F xC au)=.ok (.nx [.val (fl aa),.val (wk sl cl pr),.val (.lst (W.map ah)),.val A,.val (.int (s+e)),.val (.int k),.val (ah y),.val (.lst ((e::ns).map PV.int))]):=by
    simp! only [xC,es,e1,zzl,lT];rw [mO (g:=y) (λt=>by
     simp! only [t0,t1,S3];cases decide (t.1=y)<;>simp! only [t1]),hn]
    simp! only [q1,q2]
   obtain⟨t5,t6,t7,ih⟩:=ue F hs L V A W l y d (s+e) (k+1) (.val (.int k)) (.val (ah y)) (.val (.lst ((e::ns).map PV.int))) hp (by
    rw [<-List.drop_drop,hW]
    rfl)
   refine⟨t5,t6,t7,?_⟩;rw [zzF,cM,forL,eb,<-Int.add_assoc];exact ih
theorem nv{α:Type}{f:PV->Res (Option PV)}{p:α->PV}:∀{xs:List α},(∀x∈xs,f (p x)=.ok none)->bq f (xs.map p)=.ok []
 |[],_=>rfl
 |x::xs,h=>by
  simp! [zzF,bq,h x (zzP ..),MQ,rO,nv λy hy=>h y (zzI _ hy)]
  rfl
def AR(f:List PV->Res PV):Prop:=∀aa w,Fl aa w->∀sl cl pr,Wk cl pr->∀(l:Ks) d,Jg (E1 aa sl cl pr) l d->(∀x∈l,kW aa x)->l.length<=2000->f [fl aa,wk sl cl pr,.lst (l.map ah)]=.ok (.int d)
def wW(F:aL):Prop:=AR (F "_law_sum")
def Jq(F:aL)(hp:qE F)(hs:eE F):AR (ax F cO):=by
 intro aa w L sl cl pr V l d h ho hl;obtain⟨S,e1,_,lS,hS⟩:=hp aa L.qe
 have eS:S.map IK=(S.map λp=>[(p.1:Int),(p.2:Int)]).map ah:=by rw [List.map_map];rfl
 rw [eS] at e1;generalize hK:(S.map λp=>[(p.1:Int),(p.2:Int)])=K at e1
 have Qu:∀x∈l,x∈K:=λx hx=>by
  obtain⟨r,c,rfl,hr⟩:=ho x hx
  obtain⟨a,b,h2⟩:=lY.1 hr
  rw [<-hK];exact zzx.2 ⟨(r.toNat,c.toNat),(hS _ _).2 h2,by rw [Int.toNat_of_nonneg a,Int.toNat_of_nonneg b]⟩
 obtain⟨x,t,rfl⟩:∃x t,l=x::t:=by cases h<;>exact⟨_,_,rfl⟩
 obtain⟨t5,t6,t7,e2⟩:=ue F hs L V (.lst (K.map ah)) (x::t) t x d 0 0 .no .no .no h rfl
 have ll:(x::t).length<fv:=zzV hl (by decide)
 have q1:gq (.lst ((x::t).map ah)) (.lst [])=.ok (.bl false):=by
  have:=WZ (x::t) []
  rwa [zz0 (List.cons_ne_nil _ _)] at this
 have q2:gL (.lst []) (.lst [])=.ok (.bl false):=rfl
 have q3:hX (.lst ((x::t).map ah)) (some 1) none=.ok (.lst (t.map ah)):=by
  have:=IW ((x::t).map ah) (k:=1) (by simp)
  exact congrArg (λz=>Res.ok (PV.lst z)) this
 have db:cO.body=.cons (.set 3 (.call "_law_spots" (.cons (.var 0) .nil)))
  (.cons (.ite (.or (.not (.ty .list (.var 2))) (.or (.cmp .eq (.var 2) (.lst .nil)) (.cmp .ne (.dc 1 [3] (.one 0) (.seq (.var 2)) (.cmp .lJ (.var 0) (.var 1)) (.var 0)) (.lst .nil)))) (.cons (.ret (.cst .aD)) .nil) .nil)
  (.cons (.set 4 (.cst (.int 0))) (.cons (.cQ (.two 5 6) (.enum (.slice (.var 2) (.some (.cst (.int 1))) .no)) xC) (.cons (.ret (.var 4)) .nil)))):=rfl
 have st:cx cO [fl aa,wk sl cl pr,.lst ((x::t).map ah)]=[.val (fl aa),.val (wk sl cl pr),.val (.lst ((x::t).map ah)),.no,.no,.no,.no,.no]:=rfl
 have ar:cA cO [fl aa,wk sl cl pr,.lst ((x::t).map ah)]=true:=rfl
 unfold ax;rw [ar,if_pos rfl,st,db];rw [zzF] at q1 q3;have ll:t.length+1<fv:=ll
 have hc:bq (λx=>(f7 x (.lst (K.map ah))).bind λt=>sJ t λt=>if t=true then Res.ok (some x) else Res.ok none) (ah x::t.map ah)=.ok []:=by
  rw [<-zzF (f:=ah)];refine nv λy hy=>?_
  have q:=Kb y K
  rw [zzh (Qu y hy)] at q;rw [q]
  rfl
 simp! only [] at e2⊢;simp! only [e1,q1,zzl,ll,hc,q2,q3,e2,Int.zero_add]
def MB{aa:List Str}{sl:Bool}{cl pr:Int}{l:Ks}{d:Int}(h:Jg (E1 aa sl cl pr) l d)(h0:∀x,l=[x]->kW aa x):∀x∈l,kW aa x:=by
 induction h with
 |one=>intro x hx;rw [zzi.1 hx];exact h0 _ rfl
 |@cons x y l e d he hp ih=>
  obtain⟨r,c,r',c',h1,h2,h3,h4,_⟩:=he
  intro z hz;rcases zzm.1 hz with rfl|hz
  ·exact⟨r,c,h1,h3⟩
  ·exact ih (λw hw=>by cases hw;exact⟨r',c',h2,h4⟩) z hz
def GX{E:List Int->List Int->Int->Prop}{g u:List Int}{l:Ks}{d:Int}(h:D3 (λa b e=>E b a e) g u l d):Jg E l d/\(∃t,l=u::t)/\∃t,l=t++[g]:=by
 induction h with
 |here=>exact⟨.one,⟨[],rfl⟩,[],rfl⟩
 |go _ he ih=>
  obtain⟨p,⟨t,rfl⟩,t',e'⟩:=ih
  refine⟨?_,⟨_,rfl⟩,_::t',by rw [e'];rfl⟩;rw [Int.add_comm];exact .cons he p
def nj{ks:Ks}{ns:List Int}{k:List Int}{n:Int}(h:av ks ns k=some n):aG (.bf ks (ns.map .int)) (ah k)=.ok (.int n):=by
 show(Res.of (iD (ah k))).bind (λk=>Res.of (av _ _ k))=_
 rw [du];show Res.of (av _ _ k)=_
 rw [jo,h]
 rfl
def wt(ks:Ks)(ns:List Int)(k:List Int):Nat:=match av ks ns k with
 |some n=>n.toNat
 |none=>1081
def rY(ks:Ks)(ns:List Int):Nat:=(qG.map (wt ks ns)).sum
theorem uK{α:Type}{f g:α->Nat}:∀{l:List α},(∀a∈l,f a<=g a)->(l.map f).sum<=(l.map g).sum
 |[],_=>zzE _
 |a::l,h=>by
  have:=uK (l:=l) λb hb=>h b (zzI _ hb)
  have:=h a (zzP ..)
  simp! [zzF,List.sum_cons];omega
theorem AG{α:Type}{f g:α->Nat}{x:α}:∀{l:List α},(∀a∈l,f a<=g a)->x∈l->f x<g x->(l.map f).sum<(l.map g).sum
 |a::l,h,hx,hl=>by
  have h1:=uK (l:=l) λb hb=>h b (zzI _ hb)
  have h2:=h a (zzP ..)
  simp! [zzF,List.sum_cons];rcases zzm.1 hx with rfl|hx
  ·omega
  ·have:=AG (l:=l) (λb hb=>h b (zzI _ hb)) hx hl
   omega
def wK(ks:Ks)(ns:List Int)(h:∀k n,av ks ns k=some n->n<=1081):rY ks ns<=38916:=by
 have h1:(qG.map (wt ks ns)).sum<=(qG.map λ_=>1081).sum:=uK λk _=>by
  unfold wt;cases hg:av ks ns k with
  |none=>exact zzE _
  |some n=>have:=h k n hg;show n.toNat<=1081;omega
 have h2:(qG.map λ_=>1081).sum=38916:=by decide+kernel
 exact h2▸h1
theorem pG{α:Type}:∀(ps:List (List Int×α)) (ks:Ks) (vs:List α),(ks++ps.map (·.1)).Nodup->eL ps ks vs=(ks++ps.map (·.1),vs++ps.map (·.2))
 |[],ks,vs,_=>by simp [eL]
 |p::ps,ks,vs,h=>by
  have hn:cg ks p.1=false:=by
   cases hx:cg ks p.1 with
   |false=>rfl
   |true=>
    have:=(List.nodup_append.1 h).2.2 _ (cy.1 hx) p.1 (by simp)
    exact absurd rfl this
  have hm:=pG ps (ks++[p.1]) (vs++[p.2]) (by rw [List.append_assoc];exact h)
  rw [eL,aV,aU,hn,if_neg (by simp),if_neg (by simp),hm,List.append_assoc,List.append_assoc]
  rfl
theorem sD{α:Type}(f:List Int->α):∀{ks:Ks} {k:List Int},k∈ks->av ks (ks.map f) k=some (f k)
 |a::ks,k,h=>by
  show(if a=k then some (f a) else av ks (ks.map f) k)=_
  by_cases ha:a=k
  ·rw [if_pos ha,ha]
  ·rw [if_neg ha];exact sD f ((zzm.1 h).resolve_left λz=>ha z.symm)
abbrev lh(S:Ks)(f:List Int->List (List Int×Int)):PV:=.bf S (S.map λk=>.lst ((f k).map tK))
def BK{S:Ks}{f:List Int->List (List Int×Int)}{k:List Int}(h:k∈S):aG (lh S f) (ah k)=.ok (.lst ((f k).map tK)):=by
 show(Res.of (iD (ah k))).bind (λk=>Res.of (av _ _ k))=_
 rw [du];show Res.of (av _ _ k)=_
 rw [sD _ h]
 rfl
theorem CK(f:List Int->PV):∀S:Ks,uQ (S.map λk=>.tup [ah k,f k])=some (S.map λk=>(k,f k))
 |[]=>rfl
 |k::S=>by
  show(iD (ah k)).bind (λk'=>(uQ (S.map λk=>.tup [ah k,f k])).map ((k',f k)::·))=_
  rw [du,CK f S]
  rfl
def lD{S:Ks}(nd:S.Nodup)(f:List Int->PV):dS .dict [.lst (S.map λk=>.tup [ah k,f k])]=.ok (.bf S (S.map f)):=by
 show(Res.of (uQ _)).bind _=_
 rw [CK];show Res.ok (PV.bf (eL (S.map λk=>(k,f k)) [] []).1 (eL (S.map λk=>(k,f k)) [] []).2)=_
 rw [pG _ _ _ (by simpa [Function.comp_def] using nd)];simp [Function.comp_def]
def Eh{U:Ks}{ks:Ks}(nd:ks.Nodup)(h:∀k∈ks,k∈U):ks.length<=U.length:=by
 induction ks generalizing U with
 |nil=>exact Nat.zero_le _
 |cons a ks ih=>
  obtain⟨n1,n2⟩:=List.nodup_cons.1 nd
  have ha:=h a (zzP ..)
  have:=ih (U:=U.erase a) n2 λk hk=>(List.mem_erase_of_ne (λz:k=a=>n1 (by rw [<-z];exact hk))).2 (h k (zzI _ hk))
  rw [List.length_erase_of_mem ha] at this;have:=List.length_pos_of_mem ha
  rw [zzL];omega
structure nQ(E:List Int->List Int->Int->Prop)(O:List Int->Prop)(g:List Int)(ks:Ks)(ns:List Int):Prop where
 len:ks.length=ns.length
 nd:ks.Nodup
 rQ:∀k n,av ks ns k=some n->O k/\og E g k n/\0<=n/\n+30<=30*ks.length
 st:av ks ns g=some 0
def nQ.has{E:List Int->List Int->Int->Prop}{O:List Int->Prop}{g:List Int}{ks:Ks}{ns:List Int}(C:nQ E O g ks ns){k:List Int}(h:k∈ks):∃n,av ks ns k=some n:=by
 have:=aS (vs:=ns) k C.len
 rw [cy.2 h] at this;exact zzp.1 this.symm
def nQ.le{E:List Int->List Int->Int->Prop}{O:List Int->Prop}{g:List Int}{ks:Ks}{ns:List Int}(C:nQ E O g ks ns)(hO:∀k,O k->k∈qG):ks.length<=36:=by
 rw [<-qN];exact Eh C.nd λk hk=>by
  obtain⟨n,hn⟩:=C.has hk
  exact hO k (C.rQ k n hn).1
def nQ.put{E:List Int->List Int->Int->Prop}{O:List Int->Prop}{g:List Int}{ks:Ks}{ns:List Int}(C:nQ E O g ks ns)(hO:∀k,O k->k∈qG){u v:List Int}{n e:Int}(hv:av ks ns v=some n)(hu:O u)(he:E v u e)(e0:0<e)(P8:e<=30)(hb:∀m,av ks ns u=some m->n+e<m):nQ E O g (aV ks u) (aU ks ns u (n+e))/\rY (aV ks u) (aU ks ns u (n+e))<rY ks ns:=by
 have gp:=bA C.len u (n+e)
 obtain⟨_,w1,w2,w3⟩:=C.rQ v n hv
 have Jl:=C.le hO
 have lp:ks.length<=(aV ks u).length:=by
  unfold aV;split
  ·exact zzE _
  ·rw [zzM];omega
 have wu:n+e+30<=30*(aV ks u).length:=by
  unfold aV;cases hx:cg ks u with
  |true=>
   obtain⟨m,hm⟩:=C.has (cy.1 hx)
   have a:=hb m hm
   have b:=(C.rQ u m hm).2.2.2
   simp! [if_true];omega
  |false=>
   simp! [zze,if_false,zzM,zzL,List.length_nil];omega
 refine⟨⟨jh C.len u _,g7 C.nd u,λk m hk=>?_,?_⟩,?_⟩
 ·rw [gp] at hk;split at hk
  ·rename_i h;subst h;cases hk;exact⟨hu,w1.go he,by omega,wu⟩
  ·obtain⟨a,b,c,d⟩:=C.rQ k m hk
   exact⟨a,b,c,by omega⟩
 ·rw [gp];split
  ·rename_i h;subst h;have:=hb 0 C.st
   omega
  ·exact C.st
 ·have bS:wt (aV ks u) (aU ks ns u (n+e)) u<wt ks ns u:=by
   unfold wt;rw [gp,if_pos rfl];cases hx:av ks ns u with
   |some m=>have:=hb m hx;show(n+e).toNat<m.toNat;omega
   |none=>show(n+e).toNat<1081;omega
  refine AG (x:=u) (λa _=>?_) (hO u hu) bS
  by_cases h:u=a
  ·subst h;exact Nat.le_of_lt bS
  ·unfold wt;rw [gp,if_neg h];exact zzE _
def i5(ks:Ks)(ns:List Int)(u:List Int)(n:Int):aU ks (ns.map .int) u (PV.int n)=(aU ks ns u n).map .int:=j1 PV.int ks ns u n
theorem gE{α:Type}{body:PV->Sl->Res Ci.Fl}{g:α->PV}{P:List α->Sl->Prop}:∀(l pre:List α) (env:Sl),(∀a∈l,∀pre env,P pre env->∃au,body (g a) env=.ok (.nx au)/\P (a::pre) au)->P pre env->∃au,forL body (l.map g) env=.ok (.nx au)/\P (l.reverse++pre) au
 |[],pre,env,_,h=>⟨env,rfl,h⟩
 |a::l,pre,env,h,h0=>by
  obtain⟨e1,b1,p1⟩:=h a (zzP ..) pre env h0
  obtain⟨e2,b2,p2⟩:=gE l (a::pre) e1 (λb hb=>h b (zzI _ hb)) p1
  exact⟨e2,by simp! [zzF,forL,b1,rO,b2],by rw [List.reverse_cons,List.append_assoc];exact p2⟩
noncomputable def M4:Ss:=#v[.ite (.or (.cmp .lJ (!7) (.dR 4)) (.cmp .lt (.bin .add (.sub (.dR 4) (!6)) (!8)) (.sub (.dR 4) (!7)))) #v[.put 4 (!7) (.bin .add (.sub (.dR 4) (!6)) (!8)),.set 5 (.cst (.bl true))] .nil]
noncomputable def Qa:Ss:=#v[.cQ (.two 7 8) (.seq (.sub (!3) (!6))) M4]
noncomputable def P2:Ss:=#v[.set 5 (.cst (.bl false)),.cQ (.one 6) (.seq (.blt .ma #v[.dR 4])) Qa]
abbrev vG(A B G Q:PV)(ks:Ks)(ns:List Int)(ag:Bool)(s6 s7 s8:Ci.Slot):Sl:=[.val A,.val B,.val G,.val Q,.own (.bf ks (ns.map .int)),.val (.bl ag),s6,s7,s8]
def Ir(ks:Ks)(ns:List Int)(u:List Int)(t:List Int×Int):Prop:=∀n,av ks ns u=some n->∃m,av ks ns t.1=some m/\m<=n+t.2
def Jn(E:List Int->List Int->Int->Prop)(O:List Int->Prop)(g:List Int)(A B G Q:PV)(k0:Ks)(n0:List Int)(D:Prop)(s:Option Ci.Slot)(env:Sl):Prop:=∃ks ns ag s6 s7 s8,env=vG A B G Q ks ns ag s6 s7 s8/\(∀x,s=some x->s6=x)/\nQ E O g ks ns/\(∀k∈k0,k∈ks)/\rY ks ns<=rY k0 n0/\(ag=true->rY ks ns<rY k0 n0)/\(ag=false->ks=k0/\ns=n0/\D)
section
variable{E:List Int->List Int->Int->Prop}{O:List Int->Prop}{g:List Int}{A B G Q:PV}
def KP(F:aL)(hO:∀k,O k->k∈qG)(k0:Ks)(n0:List Int)(D:Prop){u:List Int}(hu:u∈k0)(t:List Int×Int)(he:E u t.1 t.2)(ho:O t.1)(e0:0<t.2)(P8:t.2<=30)(env:Sl)(h:Jn E O g A B G Q k0 n0 D (some (.val (ah u))) env):∃au,(((Tg.two 7 8).put (tK t) env).bind λau=>aE F M4 au)=.ok (.nx au)/\Jn E O g A B G Q k0 n0 (D/\Ir k0 n0 u t) (some (.val (ah u))) au:=by
 obtain⟨ks,ns,ag,s6,s7,s8,rfl,h6,C,hk,hp,ha,hd⟩:=h
 cases h6 _ rfl;have l:ks.length<fv:=zzV (C.le hO) (by decide)
 have g2:=aS (vs:=ns) t.1 C.len
 obtain⟨n,hn⟩:=C.has (hk u hu)
 have e1:=nj hn
 have done:(∀m,av ks ns t.1=some m->n+t.2<m)->Jn E O g A B G Q k0 n0 (D/\Ir k0 n0 u t) (some (.val (ah u))) (vG A B G Q (aV ks t.1) (aU ks ns t.1 (n+t.2)) true (.val (ah u)) (.val (ah t.1)) (.val (.int t.2))):=λhb=>by
  obtain⟨C',hl⟩:=C.put hO hn ho he e0 P8 hb
  refine⟨_,_,true,_,_,_,rfl,(λx z=>by cases z;rfl),C',λk h=>?_,by omega,λ_=>by omega,λz=>by cases z⟩
  have:=cy.2 (hk k h)
  have q:=aS (vs:=aU ks ns t.1 (n+t.2)) k (jh C.len t.1 (n+t.2))
  rw [bA C.len] at q;refine cy.1 (q.trans ?_);split
  ·rfl
  ·rw [<-aS k C.len];exact this
 cases hw:av ks ns t.1 with
 |none=>
  rw [hw] at g2;have g3:cg ks t.1=false:=g2
  refine⟨_,?_,done λm hm=>by rw [hw] at hm;cases hm⟩
  simp! only [M4,vG,ke,g3,e1,du,l,i5]
 |some m=>
  rw [hw] at g2;have g3:cg ks t.1=true:=g2
  have e2:=nj hw
  by_cases bS:n+t.2<m
  ·refine⟨_,?_,done λm' hm=>by rw [hw] at hm;cases hm;exact bS⟩
   simp! only [M4,vG,ke,g3,e1,e2,bS,decide_true,du,l,i5]
  ·refine⟨_,?_,ks,ns,ag,_,.val (ah t.1),.val (.int t.2),rfl,(λx z=>by cases z;rfl),C,hk,hp,ha,λz=>?_⟩
   ·simp! only [M4,vG,ke,g3,e1,e2,bS,decide_false]
   ·obtain⟨rfl,rfl,d⟩:=hd z
    exact⟨rfl,rfl,d,λn' h'=>by rw [hn] at h';cases h';exact⟨m,hw,by omega⟩⟩
variable{S:Ks}{f:List Int->List (List Int×Int)}
def Jn.mono{k0:Ks}{n0:List Int}{D D':Prop}{s:Option Ci.Slot}{env:Sl}(h:Jn E O g A B G Q k0 n0 D s env)(d:D->D'):Jn E O g A B G Q k0 n0 D' s env:=by
 obtain⟨ks,ns,ag,s6,s7,s8,e,h6,C,hk,hp,ha,hd⟩:=h
 exact⟨ks,ns,ag,s6,s7,s8,e,h6,C,hk,hp,ha,λz=>⟨(hd z).1,(hd z).2.1,d (hd z).2.2⟩⟩
def Mn(F:aL)(hO:∀k,O k->k∈qG)(hf:∀u∈S,∀t∈f u,E u t.1 t.2/\O t.1/\0<t.2/\t.2<=30)(k0:Ks)(n0:List Int)(D:Prop){u:List Int}(hu:u∈k0)(hs:u∈S)(env:Sl)(h:Jn E O g A B G (lh S f) k0 n0 D none env):∃au,(((Tg.one 6).put (ah u) env).bind λau=>aE F Qa au)=.ok (.nx au)/\Jn E O g A B G (lh S f) k0 n0 (D/\∀t∈f u,Ir k0 n0 u t) none au:=by
 obtain⟨ks,ns,ag,s6,s7,s8,rfl,_,C,hk,hp,ha,hd⟩:=h
 have e1:=BK (f:=f) hs
 obtain⟨au,e2,J2⟩:=gE (body:=λx env=>((Tg.two 7 8).put x env).bind λau=>aE F M4 au) (g:=tK) (P:=λpre=>Jn E O g A B G (lh S f) k0 n0 (D/\∀t∈pre,Ir k0 n0 u t) (some (.val (ah u)))) (f u) [] (vG A B G (lh S f) ks ns ag (.val (ah u)) s7 s8) (λt h pre env hj=>by
  obtain⟨a,b,c,d⟩:=hf u hs t h
  obtain⟨au,e,J⟩:=KP F hO k0 n0 _ hu t a b c d env hj
  exact⟨au,e,J.mono λz=>⟨z.1.1,λt' ht=>by
   rcases zzm.1 ht with rfl|ht
   ·exact z.2
   ·exact z.1.2 t' ht⟩⟩) ⟨ks,ns,ag,_,s7,s8,rfl,(λx z=>by cases z;rfl),C,hk,hp,ha,λz=>⟨(hd z).1,(hd z).2.1,(hd z).2.2,λt ht=>nomatch ht⟩⟩
 obtain⟨kL,iu,qc,t6,t7,t8,rfl,_,C',hk',Nb,GC,nL⟩:=J2
 refine⟨_,?_,kL,iu,qc,t6,t7,t8,rfl,(λx z=>by cases z),C',hk',Nb,GC,λz=>⟨(nL z).1,(nL z).2.1,(nL z).2.2.1,λt ht=>(nL z).2.2.2 t (by simpa using ht)⟩⟩
 simp! only [Qa,vG,e1] at e2⊢;simp! only [e2]
def Mc(F:aL)(hO:∀k,O k->k∈qG)(hS:∀k,O k->k∈S)(hf:∀u∈S,∀t∈f u,E u t.1 t.2/\O t.1/\0<t.2/\t.2<=30){ks:Ks}{ns:List Int}(C:nQ E O g ks ns)(ag:Bool)(s6 s7 s8:Ci.Slot):∃kL iu qc t6 t7 t8,aE F P2 (vG A B G (lh S f) ks ns ag s6 s7 s8)=.ok (.nx (vG A B G (lh S f) kL iu qc t6 t7 t8))/\nQ E O g kL iu/\(qc=true->rY kL iu<rY ks ns)/\(qc=false->kL=ks/\iu=ns/\∀u∈ks,∀t∈f u,Ir ks ns u t):=by
 obtain⟨au,e2,J2⟩:=gE (body:=λx env=>((Tg.one 6).put x env).bind λau=>aE F Qa au) (g:=ah) (P:=λpre=>Jn E O g A B G (lh S f) ks ns (∀u∈pre,∀t∈f u,Ir ks ns u t) none) ks [] (vG A B G (lh S f) ks ns false s6 s7 s8) (λu hu pre env hj=>by
  obtain⟨n,hn⟩:=C.has hu
  obtain⟨au,e,J⟩:=Mn F hO hf ks ns _ hu (hS u (C.rQ u n hn).1) env hj
  exact⟨au,e,J.mono λz u' hu'=>by
   rcases zzm.1 hu' with rfl|hu'
   ·exact z.2
   ·exact z.1 u' hu'⟩) ⟨ks,ns,false,s6,s7,s8,rfl,(λx z=>by cases z),C,λ_ h=>h,zzE _,(λz=>by cases z),λ_=>⟨rfl,rfl,λu hu=>nomatch hu⟩⟩
 obtain⟨kL,iu,qc,t6,t7,t8,rfl,_,C',_,_,GC,nL⟩:=J2
 refine⟨kL,iu,qc,t6,t7,t8,?_,C',GC,λz=>⟨(nL z).1,(nL z).2.1,λu hu=>(nL z).2.2 u (by simpa using hu)⟩⟩
 have l:ks.length<=fv:=zzU (C.le hO) (by decide)
 have e3:dS .ma [.bf ks (ns.map .int)]=.ok (.lst (ks.map ah)):=if_pos l
 simp! only [P2,vG] at e2⊢;simp! only [e3,e2]
theorem xl(F:aL)(hO:∀k,O k->k∈qG)(hS:∀k,O k->k∈S)(hf:∀u∈S,∀t∈f u,E u t.1 t.2/\O t.1/\0<t.2/\t.2<=30):∀(n:Nat) (ks:Ks) (ns:List Int) (ag:Bool) (s6 s7 s8:Ci.Slot),nQ E O g ks ns->0<n->(ag=true->rY ks ns+1<n)->(ag=false->∀u∈ks,∀t∈f u,Ir ks ns u t)->∃kL iu qc t6 t7 t8,cK (aK F (.var 5)) (aE F P2) n (vG A B G (lh S f) ks ns ag s6 s7 s8)=.ok (.nx (vG A B G (lh S f) kL iu qc t6 t7 t8))/\nQ E O g kL iu/\∀u∈kL,∀t∈f u,Ir kL iu u t
 |0,_,_,_,_,_,_,_,h,_,_=>absurd h (Nat.lt_irrefl _)
 |n+1,ks,ns,false,s6,s7,s8,C,_,_,c=>⟨ks,ns,false,s6,s7,s8,rfl,C,c rfl⟩
 |n+1,ks,ns,true,s6,s7,s8,C,_,h,_=>by
  have h':=h rfl
  obtain⟨ks1,ns1,ag1,t6,t7,t8,e1,C1,p1,c1⟩:=Mc F (A:=A) (B:=B) (G:=G) hO hS hf C true s6 s7 s8
  obtain⟨ks2,ns2,ag2,u6,u7,u8,e2,C2,c2⟩:=xl F hO hS hf n ks1 ns1 ag1 t6 t7 t8 C1 (by omega) (λz=>by have:=p1 z;omega) (λz=>by obtain⟨rfl,rfl,d⟩:=c1 z;exact d)
  refine⟨ks2,ns2,ag2,u6,u7,u8,?_,C2,c2⟩;have ec:aK F (.var 5) (vG A B G (lh S f) ks ns true s6 s7 s8)=.ok (.bl true):=rfl
  simp! [cK,ec,rO,Ik,if_true,e1,e2]
end
structure Lc(E:List Int->List Int->Int->Prop)(O:List Int->Prop)(g:List Int)(ks:Ks)(ns:List Int):Prop where
 c:nQ E O g ks ns
 all:∀k c,og E g k c->∃n,av ks ns k=some n/\n<=c
def vP(f:List PV->Res PV):Prop:=∀aa w,Fl aa w->∀sl cl pr,Wk cl pr->∀g,kW aa g->∃ks ns,f [fl aa,wk sl cl pr,.lst [ah g]]=.ok (.bf ks (ns.map .int))/\Lc (E1 aa sl cl pr) (kW aa) g ks ns
theorem Np{E:List Int->List Int->Int->Prop}{O:List Int->Prop}{g:List Int}(hg:O g):nQ E O g [g] [0]:=⟨rfl,by simp,(λk n h=>by
 by_cases hk:g=k
 ·subst hk;have:(if g=g then some (0:Int) else none)=some n:=h
  rw [if_pos rfl] at this;cases this;exact⟨hg,.here,by omega,by simp⟩
 ·have:(if g=k then some (0:Int) else none)=some n:=h
  rw [if_neg hk] at this;cases this),(if_pos rfl:(if g=g then some (0:Int) else none)=some 0)⟩
def yd{F:aL}(hs:eE F){aa:List Str}{w:Nat}(L:Fl aa w){sl:Bool}{cl pr:Int}(V:Wk cl pr){S:Ks}(hm:∀k,k∈S↔kW aa k):∃f:List Int->List (List Int×Int),∀k∈S,F "_law_steps" [fl aa,wk sl cl pr,ah k]=.ok (.lst ((f k).map tK))/\∀v e,(v,e)∈f k↔E1 aa sl cl pr k v e:=by
 have:∀k,∃T:List (List Int×Int),k∈S->F "_law_steps" [fl aa,wk sl cl pr,ah k]=.ok (.lst (T.map tK))/\∀v e,(v,e)∈T↔E1 aa sl cl pr k v e:=λk=>by
  by_cases h:k∈S
  ·obtain⟨r,c,rfl,ho⟩:=(hm k).1 h
   obtain⟨T,e,_,_,hT⟩:=hs aa w L sl cl pr V r c ho
   exact⟨T,λ_=>⟨e,hT⟩⟩
  ·exact⟨[],λz=>absurd z h⟩
 exact Classical.skolem.1 this
def BG(F:aL)(hk:Hx (F "_law_spots"))(hs:eE F):vP (ax F bY):=by
 intro aa w L sl cl pr V g hg;obtain⟨S,e1,hl,hS,hm⟩:=hk aa L.qe
 obtain⟨f,hf⟩:=yd hs L (sl:=sl) V hm
 have Kw:∀u∈S,∀t∈f u,E1 aa sl cl pr u t.1 t.2/\kW aa t.1/\0<t.2/\t.2<=30:=λu hu t ht=>by
  have:=((hf u hu).2 t.1 t.2).1 ht
  obtain⟨a,b,c⟩:=kA L V this
  exact⟨this,c,a,b⟩
 have C0:nQ (E1 aa sl cl pr) (kW aa) g [g] [0]:=Np hg
 have hp:=wK [g] [0] λk n h=>by have:=(C0.rQ k n h).2.2.2;simp at this;omega
 obtain⟨ks,ns,ag,t6,t7,t8,e2,C,cl'⟩:=xl F (A:=fl aa) (B:=wk sl cl pr) (G:=.lst [ah g]) (S:=S) (f:=f) (λk hk=>MV L hk) (λk hk=>(hm k).2 hk) Kw WN [g] [0] true .no .no .no C0 (by decide) (λ_=>by have:WN=1000000:=rfl;omega) (λz=>by cases z)
 refine⟨ks,ns,?_,C,λk c hw=>?_⟩
 ·have l:(S.map ah).length<fv:=by
   rw [zzl];exact zzV hl (by decide)
  have e3:=lD hS.nodup λk=>.lst ((f k).map tK)
  have e4:iw [.lst [.tup [ah g,.int 0]]]=.ok (.bf [g] [.int 0]):=lD (S:=[g]) (by simp) λ_=>.int 0
  have e6:bq (λx=>Res.ok (some (PV.tup [x,PV.int 0]))) [ah g]=.ok [.tup [ah g,.int 0]]:=rfl
  have l1:1<fv:=by decide
  have db:bY.body=#v[.set 3 (.blt .dict #v[.comp 1 [1,0] (.one 0) (.seq (.call "_law_spots" #v[!0])) (.tup #v[!0,.call "_law_steps" #v[!2,!1,!0]])]),.mM 4 (.comp 1 [] (.one 0) (.seq (!2)) (.tup #v[!0,¬0])),.set 5 (.cst (.bl true)),.xD (!5) P2,.bE 4,.ret (!4)]:=rfl
  have st:cx bY [fl aa,wk sl cl pr,.lst [ah g]]=[.val (fl aa),.val (wk sl cl pr),.val (.lst [ah g]),.no,.no,.no,.no,.no,.no]:=rfl
  have ar:cA bY [fl aa,wk sl cl pr,.lst [ah g]]=true:=rfl
  unfold ax;rw [ar,if_pos rfl,st,db];dsimp! only [e1,l];rw [d7 (p:=ah) (g:=λk=>.tup [ah k,.lst ((f k).map tK)]) λk hk=>by dsimp! only [(hf k hk).1]]
  dsimp! only [vG,lh,zzF,List.map_nil] at e2;dsimp! only [e3,e4,e6,l1,zzL,List.length_nil,Nat.zero_add,e2,List.modify_succ_cons,List.modify_zero_cons,mv,D1]
 ·induction hw with
  |here=>exact⟨0,C.st,Int.le_refl _⟩
  |go _ he ih=>
   obtain⟨n,hn,hle⟩:=ih
   have ho:=(C.rQ _ n hn).1
   obtain⟨m,kG,hle'⟩:=cl' _ (cy.1 ((aS _ C.len).trans (by rw [hn];rfl))) _ (((hf _ ((hm _).2 ho)).2 _ _).2 he) n hn
   exact⟨m,kG,by simp only at hle';omega⟩
def inD{ks:Ks}{vs:List PV}{k:List Int}:oj (ah k) (.bf ks vs)=.ok (.bl (cg ks k)):=by
 show(Res.of (iD (ah k))).bind _=_
 rw [du]
 rfl
noncomputable def J7:Ss:=#v[.ite (.cmp .Ax (!8) (.dR 5)) #v[.set 10 (.bin .add (.sub (.dR 5) (!8)) (!9)),.ite (.or (.cmp .lJ (!7) (.dR 5)) (.cmp .lt (!10) (.sub (.dR 5) (!7)))) #v[.put 5 (!7) (!10),.set 6 (.cst (.bl true))] .nil] .nil]
noncomputable def PU:Ss:=#v[.cQ (.two 8 9) (.seq (.sub (!4) (!7))) J7]
noncomputable def Qg:Ss:=#v[.set 6 (.cst (.bl false)),.cQ (.one 7) (.seq (!3)) PU]
abbrev uC(A B G S Q:PV)(ks:Ks)(ns:List Int)(ag:Bool)(s7 s8 s9 jj:Ci.Slot):Sl:=[.val A,.val B,.val G,.val S,.val Q,.own (.bf ks (ns.map .int)),.val (.bl ag),s7,s8,s9,jj]
def HM(ks:Ks)(ns:List Int)(u:List Int)(t:List Int×Int):Prop:=∀n,av ks ns t.1=some n->∃m,av ks ns u=some m/\m<=n+t.2
def Ju(E:List Int->List Int->Int->Prop)(O:List Int->Prop)(g:List Int)(A B G S Q:PV)(k0:Ks)(n0:List Int)(D:Prop)(s:Option Ci.Slot)(env:Sl):Prop:=∃ks ns ag s7 s8 s9 jj,env=uC A B G S Q ks ns ag s7 s8 s9 jj/\(∀x,s=some x->s7=x)/\nQ E O g ks ns/\rY ks ns<=rY k0 n0/\(ag=true->rY ks ns<rY k0 n0)/\(ag=false->ks=k0/\ns=n0/\D)
section
variable{E:List Int->List Int->Int->Prop}{O:List Int->Prop}{g:List Int}{A B G Q:PV}{S:Ks}{f:List Int->List (List Int×Int)}
def Ju.mono{P:PV}{k0:Ks}{n0:List Int}{D D':Prop}{s:Option Ci.Slot}{env:Sl}(h:Ju E O g A B G P Q k0 n0 D s env)(d:D->D'):Ju E O g A B G P Q k0 n0 D' s env:=by
 obtain⟨ks,ns,ag,s7,s8,s9,jj,e,h7,C,hp,ha,hd⟩:=h
 exact⟨ks,ns,ag,s7,s8,s9,jj,e,h7,C,hp,ha,λz=>⟨(hd z).1,(hd z).2.1,d (hd z).2.2⟩⟩
def J0(F:aL){P:PV}(hO:∀k,O k->k∈qG)(k0:Ks)(n0:List Int)(D:Prop){u:List Int}(hu:O u)(t:List Int×Int)(he:E t.1 u t.2)(e0:0<t.2)(P8:t.2<=30)(env:Sl)(h:Ju E O g A B G P Q k0 n0 D (some (.val (ah u))) env):∃au,(((Tg.two 8 9).put (tK t) env).bind λau=>aE F J7 au)=.ok (.nx au)/\Ju E O g A B G P Q k0 n0 (D/\HM k0 n0 u t) (some (.val (ah u))) au:=by
 obtain⟨ks,ns,ag,s7,s8,s9,jj,rfl,h7,C,hp,ha,hd⟩:=h
 cases h7 _ rfl;have l:ks.length<fv:=zzV (C.le hO) (by decide)
 have g1:=aS (vs:=ns) t.1 C.len
 have g2:=aS (vs:=ns) u C.len
 cases hv:av ks ns t.1 with
 |none=>
  rw [hv] at g1;have g':cg ks t.1=false:=g1
  refine⟨_,?_,ks,ns,ag,_,.val (ah t.1),.val (.int t.2),jj,rfl,(λx z=>by cases z;rfl),C,hp,ha,λz=>?_⟩
  ·simp! only [J7,uC,inD,g']
  ·obtain⟨rfl,rfl,d⟩:=hd z
   exact⟨rfl,rfl,d,λn hn=>by rw [hv] at hn;cases hn⟩
 |some n=>
  rw [hv] at g1;have g':cg ks t.1=true:=g1
  have e1:=nj hv
  have done:(∀m,av ks ns u=some m->n+t.2<m)->Ju E O g A B G P Q k0 n0 (D/\HM k0 n0 u t) (some (.val (ah u))) (uC A B G P Q (aV ks u) (aU ks ns u (n+t.2)) true (.val (ah u)) (.val (ah t.1)) (.val (.int t.2)) (.val (.int (n+t.2)))):=λhb=>by
   obtain⟨C',hl⟩:=C.put hO hv hu he e0 P8 hb
   exact⟨_,_,true,_,_,_,_,rfl,(λx z=>by cases z;rfl),C',by omega,λ_=>by omega,λz=>by cases z⟩
  cases hw:av ks ns u with
  |none=>
   rw [hw] at g2;have g3:cg ks u=false:=g2
   refine⟨_,?_,done λm hm=>by rw [hw] at hm;cases hm⟩
   simp! only [J7,uC,inD,ke,g',g3,e1,du,l,i5]
  |some m=>
   rw [hw] at g2;have g3:cg ks u=true:=g2
   have e2:=nj hw
   by_cases bS:n+t.2<m
   ·refine⟨_,?_,done λm' hm=>by rw [hw] at hm;cases hm;exact bS⟩
    simp! only [J7,uC,inD,ke,g',g3,e1,e2,bS,decide_true,du,l,i5]
   ·refine⟨_,?_,ks,ns,ag,_,.val (ah t.1),.val (.int t.2),.val (.int (n+t.2)),rfl,(λx z=>by cases z;rfl),C,hp,ha,λz=>?_⟩
    ·simp! only [J7,uC,inD,ke,g',g3,e1,e2,bS,decide_false]
    ·obtain⟨rfl,rfl,d⟩:=hd z
     exact⟨rfl,rfl,d,λn' hn=>by rw [hv] at hn;cases hn;exact⟨m,hw,by omega⟩⟩
def Mo(F:aL)(hO:∀k,O k->k∈qG)(hf:∀u∈S,O u/\∀t∈f u,E t.1 u t.2/\0<t.2/\t.2<=30)(k0:Ks)(n0:List Int)(D:Prop){u:List Int}(hu:u∈S)(env:Sl)(h:Ju E O g A B G (.lst (S.map ah)) (lh S f) k0 n0 D none env):∃au,(((Tg.one 7).put (ah u) env).bind λau=>aE F PU au)=.ok (.nx au)/\Ju E O g A B G (.lst (S.map ah)) (lh S f) k0 n0 (D/\∀t∈f u,HM k0 n0 u t) none au:=by
 obtain⟨ks,ns,ag,s7,s8,s9,jj,rfl,_,C,hp,ha,hd⟩:=h
 have e1:=BK (f:=f) hu
 obtain⟨ho,ht⟩:=hf u hu
 obtain⟨au,e2,J2⟩:=gE (body:=λx env=>((Tg.two 8 9).put x env).bind λau=>aE F J7 au) (g:=tK) (P:=λpre=>Ju E O g A B G (.lst (S.map ah)) (lh S f) k0 n0 (D/\∀t∈pre,HM k0 n0 u t) (some (.val (ah u)))) (f u) [] (uC A B G (.lst (S.map ah)) (lh S f) ks ns ag (.val (ah u)) s8 s9 jj) (λt h pre env hj=>by
  obtain⟨a,b,c⟩:=ht t h
  obtain⟨au,e,J⟩:=J0 F hO k0 n0 _ ho t a b c env hj
  exact⟨au,e,J.mono λz=>⟨z.1.1,λt' ht=>by
   rcases zzm.1 ht with rfl|ht
   ·exact z.2
   ·exact z.1.2 t' ht⟩⟩) ⟨ks,ns,ag,_,s8,s9,jj,rfl,(λx z=>by cases z;rfl),C,hp,ha,λz=>⟨(hd z).1,(hd z).2.1,(hd z).2.2,λt ht=>nomatch ht⟩⟩
 obtain⟨kL,iu,qc,t7,t8,t9,qp,rfl,_,C',Nb,GC,nL⟩:=J2
 refine⟨_,?_,kL,iu,qc,t7,t8,t9,qp,rfl,(λx z=>by cases z),C',Nb,GC,λz=>⟨(nL z).1,(nL z).2.1,(nL z).2.2.1,λt ht=>(nL z).2.2.2 t (by simpa using ht)⟩⟩
 simp! only [PU,uC,e1] at e2⊢;simp! only [e2]
def LR(F:aL)(hO:∀k,O k->k∈qG)(hf:∀u∈S,O u/\∀t∈f u,E t.1 u t.2/\0<t.2/\t.2<=30){ks:Ks}{ns:List Int}(C:nQ E O g ks ns)(ag:Bool)(s7 s8 s9 jj:Ci.Slot):∃kL iu qc t7 t8 t9 qp,aE F Qg (uC A B G (.lst (S.map ah)) (lh S f) ks ns ag s7 s8 s9 jj)=.ok (.nx (uC A B G (.lst (S.map ah)) (lh S f) kL iu qc t7 t8 t9 qp))/\nQ E O g kL iu/\(qc=true->rY kL iu<rY ks ns)/\(qc=false->kL=ks/\iu=ns/\∀u∈S,∀t∈f u,HM ks ns u t):=by
 obtain⟨au,e2,J2⟩:=gE (body:=λx env=>((Tg.one 7).put x env).bind λau=>aE F PU au) (g:=ah) (P:=λpre=>Ju E O g A B G (.lst (S.map ah)) (lh S f) ks ns (∀u∈pre,∀t∈f u,HM ks ns u t) none) S [] (uC A B G (.lst (S.map ah)) (lh S f) ks ns false s7 s8 s9 jj) (λu hu pre env hj=>by
  obtain⟨au,e,J⟩:=Mo F hO hf ks ns _ hu env hj
  exact⟨au,e,J.mono λz u' hu'=>by
   rcases zzm.1 hu' with rfl|hu'
   ·exact z.2
   ·exact z.1 u' hu'⟩) ⟨ks,ns,false,s7,s8,s9,jj,rfl,(λx z=>by cases z),C,zzE _,(λz=>by cases z),λ_=>⟨rfl,rfl,λu hu=>nomatch hu⟩⟩
 obtain⟨kL,iu,qc,t7,t8,t9,qp,rfl,_,C',_,GC,nL⟩:=J2
 refine⟨kL,iu,qc,t7,t8,t9,qp,?_,C',GC,λz=>⟨(nL z).1,(nL z).2.1,λu hu=>(nL z).2.2 u (by simpa using hu)⟩⟩
 simp! only [Qg,uC] at e2⊢;simp! only [e2]
theorem xG(F:aL)(hO:∀k,O k->k∈qG)(hf:∀u∈S,O u/\∀t∈f u,E t.1 u t.2/\0<t.2/\t.2<=30):∀(n:Nat) (ks:Ks) (ns:List Int) (ag:Bool) (s7 s8 s9 jj:Ci.Slot),nQ E O g ks ns->0<n->(ag=true->rY ks ns+1<n)->(ag=false->∀u∈S,∀t∈f u,HM ks ns u t)->∃kL iu qc t7 t8 t9 qp,cK (aK F (.var 6)) (aE F Qg) n (uC A B G (.lst (S.map ah)) (lh S f) ks ns ag s7 s8 s9 jj)=.ok (.nx (uC A B G (.lst (S.map ah)) (lh S f) kL iu qc t7 t8 t9 qp))/\nQ E O g kL iu/\∀u∈S,∀t∈f u,HM kL iu u t
 |0,_,_,_,_,_,_,_,_,h,_,_=>absurd h (Nat.lt_irrefl _)
 |n+1,ks,ns,false,s7,s8,s9,jj,C,_,_,c=>⟨ks,ns,false,s7,s8,s9,jj,rfl,C,c rfl⟩
 |n+1,ks,ns,true,s7,s8,s9,jj,C,_,h,_=>by
  have h':=h rfl
  obtain⟨ks1,ns1,ag1,t7,t8,t9,qp,e1,C1,p1,c1⟩:=LR F (A:=A) (B:=B) (G:=G) hO hf C true s7 s8 s9 jj
  obtain⟨ks2,ns2,ag2,u7,u8,u9,u10,e2,C2,c2⟩:=xG F hO hf n ks1 ns1 ag1 t7 t8 t9 qp C1 (by omega) (λz=>by have:=p1 z;omega) (λz=>by obtain⟨rfl,rfl,d⟩:=c1 z;exact d)
  refine⟨ks2,ns2,ag2,u7,u8,u9,u10,?_,C2,c2⟩;have ec:aK F (.var 6) (uC A B G (.lst (S.map ah)) (lh S f) ks ns true s7 s8 s9 jj)=.ok (.bl true):=rfl
  simp! [cK,ec,rO,Ik,if_true,e1,e2]
end
def Ej(f:List PV->Res PV):Prop:=∀aa w,Fl aa w->∀sl cl pr,Wk cl pr->∀g,kW aa g->∃ks ns,f [fl aa,wk sl cl pr,.lst [ah g]]=.ok (.bf ks (ns.map .int))/\Lc (Et aa sl cl pr) (kW aa) g ks ns
def KS(F:aL)(hk:Hx (F "_law_spots"))(hs:eE F):Ej (ax F bw):=by
 intro aa w L sl cl pr V g hg;obtain⟨S,e1,hl,hS,hm⟩:=hk aa L.qe
 obtain⟨f,hf⟩:=yd hs L (sl:=sl) V hm
 have Kw:∀u∈S,kW aa u/\∀t∈f u,Et aa sl cl pr t.1 u t.2/\0<t.2/\t.2<=30:=λu hu=>⟨(hm u).1 hu,λt ht=>by
  have:=((hf u hu).2 t.1 t.2).1 ht
  exact⟨this,(kA L V this).1,(kA L V this).2.1⟩⟩
 have C0:nQ (Et aa sl cl pr) (kW aa) g [g] [0]:=Np hg
 have hp:=wK [g] [0] λk n h=>by have:=(C0.rQ k n h).2.2.2;simp at this;omega
 obtain⟨ks,ns,ag,t7,t8,t9,qp,e2,C,cd'⟩:=xG F (A:=fl aa) (B:=wk sl cl pr) (G:=.lst [ah g]) (S:=S) (f:=f) (λk hk=>MV L hk) Kw WN [g] [0] true .no .no .no .no C0 (by decide) (λ_=>by have:WN=1000000:=rfl;omega) (λz=>by cases z)
 refine⟨ks,ns,?_,C,λk c hw=>?_⟩
 ·have l:(S.map ah).length<fv:=by
   rw [zzl];exact zzV hl (by decide)
  have e3:=lD hS.nodup λk=>.lst ((f k).map tK)
  have e4:iw [.lst [.tup [ah g,.int 0]]]=.ok (.bf [g] [.int 0]):=lD (S:=[g]) (by simp) λ_=>.int 0
  have e6:bq (λx=>Res.ok (some (PV.tup [x,PV.int 0]))) [ah g]=.ok [.tup [ah g,.int 0]]:=rfl
  have l1:1<fv:=by decide
  have db:bw.body=#v[.set 3 (.call "_law_spots" #v[!0]),.set 4 (.blt .dict #v[.comp 1 [1,0] (.one 0) (.seq (!3)) (.tup #v[!0,.call "_law_steps" #v[!2,!1,!0]])]),.mM 5 (.comp 1 [] (.one 0) (.seq (!2)) (.tup #v[!0,¬0])),.set 6 (.cst (.bl true)),.xD (!6) Qg,.bE 5,.ret (!5)]:=rfl
  have st:cx bw [fl aa,wk sl cl pr,.lst [ah g]]=[.val (fl aa),.val (wk sl cl pr),.val (.lst [ah g]),.no,.no,.no,.no,.no,.no,.no,.no]:=rfl
  have ar:cA bw [fl aa,wk sl cl pr,.lst [ah g]]=true:=rfl
  unfold ax;rw [ar,if_pos rfl,st,db];dsimp! only [e1,l];rw [d7 (p:=ah) (g:=λk=>.tup [ah k,.lst ((f k).map tK)]) λk hk=>by dsimp! only [(hf k hk).1]]
  dsimp! only [uC,lh,zzF,List.map_nil] at e2;dsimp! only [e3,e4,e6,l1,zzL,List.length_nil,Nat.zero_add,e2,List.modify_succ_cons,List.modify_zero_cons,mv,D1]
 ·induction hw with
  |here=>exact⟨0,C.st,Int.le_refl _⟩
  |go _ he ih=>
   obtain⟨n,hn,hle⟩:=ih
   obtain⟨r,c,r',c',h1,h2,h3,h4,h5⟩:=id he
   have hu:=(hm _).2 ⟨r,c,h1,h3⟩
   obtain⟨m,kG,hle'⟩:=cd' _ hu _ (((hf _ hu).2 _ _).2 he) n hn
   exact⟨m,kG,by simp only at hle';omega⟩
def Nq(E:List Str->Bool->Int->Int->List Int->List Int->Int->Prop)(f:List PV->Res PV):Prop:=∀aa w,Fl aa w->∀sl cl pr,Wk cl pr->∀r c,bj aa r c=true->∃kr Vr S,f [fl aa,wk sl cl pr,sp r c]=.ok (.lst (S.map λk=>tK (k,cst kr Vr k)))/\oM (E aa sl cl pr) [r,c] kr Vr/\S.length<=36/\(∀k,k∈S↔k∈kr)/\vX S
def DV(f:List PV->Res PV):Prop:=∀E s kr Vr,oM E s kr Vr->(∀k∈kr,k≠[])->∃S:Ks,f [.bf kr (Vr.map val)]=.ok (.lst (S.map λk=>tK (k,cst kr Vr k)))/\S.length<=36/\(∀k,k∈S↔k∈kr)/\vX S
def oM.ne{E:List Int->List Int->Int->Prop}{s:List Int}{kr:Ks}{Vr:Vs}(R:oM E s kr Vr):∀k∈kr,k≠[]:=λk hk=>by
 have:(av kr Vr k).isSome=true:=by rw [<-aS k R.len];exact cy.2 hk
 obtain⟨q,hq⟩:=zzp.1 this
 have:=(R.rQ k q hq).1
 rintro rfl
 cases this
def zQ(F:aL)(hs:∀aa w,Fl aa w->∀sl cl pr,Wk cl pr->∀r c,bj aa r c=true->∃kr Vr,F "spread_to" [fl aa,wk sl cl pr,.lst [sp r c]]=.ok (.bf kr (Vr.map val))/\oM (Et aa sl cl pr) [r,c] kr Vr)(hr:DV (F "rising_costs")):Nq Et (ax F bG):=by
 intro aa w L sl cl pr V r c h;obtain⟨kr,Vr,e,R⟩:=hs aa w L sl cl pr V r c h
 obtain⟨S,e2,hl,hm,hS⟩:=hr _ _ _ _ R R.ne
 exact⟨kr,Vr,S,by simp! only [bG,e,e2],R,hl,hm,hS⟩
def Dv(F:aL)(hs:ve F)(hr:DV (F "rising_costs")):Nq E1 (ax F aX):=by
 intro aa w L sl cl pr V r c h;obtain⟨kr,Vr,e,R⟩:=hs aa w L sl cl pr V r c h
 obtain⟨S,e2,hl,hm,hS⟩:=hr _ _ _ _ R R.ne
 exact⟨kr,Vr,S,by simp! only [aX,e,e2],R,hl,hm,hS⟩
def Iv(q:List Int×Int):List Int:=q.1++[q.2]
def wy{p q:List Int×Int}(h:Iv p=Iv q):p=q:=by
 obtain⟨h1,h2⟩:=List.append_inj' h rfl
 exact Prod.ext h1 (by simpa using h2)
def Fv{ks:Ks}{ns:List Int}(nd:ks.Nodup)(hl:ks.length=ns.length){k:List Int}{n:Int}:(k,n)∈ks.zip ns↔av ks ns k=some n:=by
 induction ks generalizing ns with
 |nil=>simp [av]
 |cons a ks ih=>
  cases ns with
  |nil=>cases hl
  |cons m ns=>
   obtain⟨n1,n2⟩:=List.nodup_cons.1 nd
   have:=ih n2 (by simpa using hl) (ns:=ns)
   show(k,n)∈(a,m)::ks.zip ns↔(if a=k then some m else av ks ns k)=some n
   rw [zzm,this]
   by_cases h:a=k
   ·subst h;rw [if_pos rfl]
    constructor
    ·rintro (h|h)
     ·cases h;rfl
     ·exact absurd (List.of_mem_zip (this.2 h)).1 n1
    ·rintro h;cases h;exact .inl rfl
   ·rw [if_neg h]
    constructor
    ·rintro (h'|h')
     ·cases h';exact absurd rfl h
     ·exact h'
    ·exact .inr
theorem HS:∀{a b:List Int} {x y:Int},a.length=b.length->HT.lexLt a b=true->HT.lexLt (a++[x]) (b++[y])=true
 |[],[],_,_,_,h=>absurd h (by rw [HT.dF];decide)
 |u::a,v::b,x,y,hl,h=>by
  rw [HT.c8] at h;rw [List.cons_append,List.cons_append,HT.c8]
  by_cases e:u=v
  ·rw [if_pos e] at h⊢;exact HS (by simpa using hl) h
  ·rw [if_neg e] at h⊢;exact h
def xm{E:List Int->List Int->Int->Prop}{O:List Int->Prop}{s:List Int}{kr:Ks}{Vr:Vs}(R:oM E s kr Vr){S:Ks}(hm:∀k,k∈S↔k∈kr)(hS:vX S){ks:Ks}{ns:List Int}(L:Lc E O s ks ns)(hO:∀k,O k->k∈qG/\k.length=2):sortI (.bf ks (ns.map .int))=.ok (.lst (S.map λk=>tK (k,cst kr Vr k))):=by
 have hi:intsOf (ns.map .int)=some ns:=iW ns
 have h2:∀k∈ks,k.length=2:=λk hk=>by obtain⟨n,hn⟩:=L.c.has hk;exact(hO k (L.c.rQ k n hn).1).2
 have hc:(decide (ks.length<64)&&ks.all λk=>k.length==2)=true:=by
  rw [zza,zzN,zzT];exact⟨zzV (L.c.le λk hk=>(hO k hk).1) (by decide),λk hk=>zzy.2 (h2 k hk)⟩
 have nz:((ks.zip ns).map Iv).Nodup:=by
  have:(ks.zip ns).Nodup:=by
   have:((ks.zip ns).map (·.1)).Nodup:=by rw [List.map_fst_zip (Nat.le_of_eq L.c.len)];exact L.c.nd
   exact(List.pairwise_map.1 this).imp λg8 h=>g8 (congrArg _ h)
  exact List.pairwise_map.2 (this.imp λg8 h=>g8 (wy h))
 obtain⟨e,P,U⟩:=xo (([],0):List Int×Int) tK Iv nz
 show(Res.of (intsOf (ns.map .int))).bind (λns=>if(decide (ks.length<64)&&ks.all λk=>k.length==2)=true then Res.ok (PV.lst (i8 PV.aD ((ks.zip ns).map tK) ((ks.zip ns).map Iv))) else .bad)=_
 rw [hi];show(if(decide (ks.length<64)&&ks.all λk=>k.length==2)=true then Res.ok (PV.lst (i8 PV.aD ((ks.zip ns).map tK) ((ks.zip ns).map Iv))) else .bad)=_
 rw [if_pos hc,e];have cs:∀k q,av kr Vr k=some q->cst kr Vr k=q.1:=λk q h=>by unfold cst;rw [h];rfl
 have has:∀k∈kr,∃q,av kr Vr k=some q:=λk hk=>zzp.1 (by rw [<-aS k R.len];exact cy.2 hk)
 have mem:∀p:List Int×Int,p∈i8 (([],0):List Int×Int) (ks.zip ns) ((ks.zip ns).map Iv)↔p∈S.map λk=>(k,cst kr Vr k):=λp=>by
  obtain⟨k,n⟩:=p
  rw [P.mem_iff,Fv L.c.nd L.c.len,zzx]
  constructor
  ·intro h;obtain⟨q,hq,hle⟩:=qJ R (L.c.rQ k n h).2.1
   obtain⟨n',ML,hle'⟩:=L.all k q.1 (R.rQ k q hq).2
   rw [h] at ML;cases ML;refine⟨k,(hm k).2 (cy.1 ((aS k R.len).trans (by rw [hq];rfl))),?_⟩;rw [cs k q hq];exact Prod.ext rfl (Int.le_antisymm hle hle')
  ·rintro ⟨k',hk',h⟩
   obtain⟨q,hq⟩:=has k' ((hm k').1 hk')
   rw [cs k' q hq] at h;cases h;obtain⟨n,hn,hle⟩:=L.all k q.1 (R.rQ k q hq).2
   obtain⟨q',hq',hle'⟩:=qJ R (L.c.rQ k n hn).2.1
   rw [hq] at hq';cases hq';rw [hn];exact congrArg some (Int.le_antisymm hle hle')
 have l2:∀k∈S,k.length=2:=λk hk=>by obtain⟨q,hq⟩:=has k ((hm k).1 hk);exact(R.rQ k q hq).1
 have B0:vX ((S.map λk=>(k,cst kr Vr k)).map Iv):=by
  rw [List.map_map];exact List.pairwise_map.2 (List.Pairwise.imp_of_mem (λ{a b} ha hb h=>HS ((l2 a ha).trans (l2 b hb).symm) h) hS)
 have:=xX U B0 λx=>by
  rw [zzx,zzx];exact⟨λ⟨p,h1,h2⟩=>⟨p,(mem p).1 h1,h2⟩,λ⟨p,h1,h2⟩=>⟨p,(mem p).2 h1,h2⟩⟩
 rw [(List.map_inj_right λ_ _ h=>wy h).1 this,List.map_map]
 rfl
def neT(T:List (List Int×Int)):gL (.lst (T.map tK)) (.lst (T.map tK))=.ok (.bl false):=by
 have h1:∀T:List (List Int×Int),(T.map tK).all (Ci.plain 8)=true:=λT=>by
  simp! [zzT,zzx]
  rintro _ ⟨t,_,rfl⟩
  show(Ci.plain 7 (ah t.1)&&(Ci.plain 7 (.int t.2)&&true))=true
  rw [jY 6]
  rfl
 have h2:∀T:List (List Int×Int),eqs (jx 8) (T.map tK) (T.map tK)=true:=λT=>by
  induction T with
  |nil=>rfl
  |cons t T ih=>
   show((jx 7 (ah t.1) (ah t.1)&&((t.2==t.2)&&true))&&eqs (jx 8) (T.map tK) (T.map tK))=true
   rw [ih,ny 6,zzh rfl,beq_self_eq_true]
   rfl
 show(if((T.map tK).all (Ci.plain 8)&&(T.map tK).all (Ci.plain 8))=true then Res.ok (PV.bl (!eqs (jx 8) (T.map tK) (T.map tK))) else .bad)=_
 rw [h1,h2]
 rfl
def xa(F:aL):Prop:=∀aa,lB aa->∀r c,bj aa r c=false->F "need_open" [fl aa,sp r c]=.exc "NoSpot"
def AV(F:aL)(ho:pY F)(aa:List Str)(R:lB aa)(r c:Int)(h:bj aa r c=false):ax F aR [fl aa,sp r c]=.exc "NoSpot":=by
 simp! only [aR,ho aa R,h,KC]
def qL(F:aL)(hf:xa F){aa:List Str}(R:lB aa)(B:PV){r c:Int}(h:bj aa r c=false):ax F bH [fl aa,B,.lst [sp r c]]=.exc "NoSpot":=by
 simp! only [bH,forL,hf aa R r c h]
def zI(F:aL)(hn:j9 F)(hf:xa F)(hs:∀aa,lB aa->∀B r c,bj aa r c=false->F "spread_to" [fl aa,B,.lst [sp r c]]=.exc "NoSpot"){aa:List Str}(R:lB aa)(B:PV){r c r' c':Int}(h:¬(bj aa r c=true/\bj aa r' c'=true)):ax F bP [fl aa,B,sp r c,sp r' c']=.exc "NoSpot":=by
 cases h1:bj aa r c with
 |false=>simp! only [bP,hf aa R r c h1]
 |true=>
  have h2:bj aa r' c'=false:=Bool.eq_false_iff.2 λz=>h ⟨h1,z⟩
  simp! only [bP,hn aa R r c h1,hs aa R B r' c' h2]
def Ad(F:aL)(B:PV)(A C:PV)(h:F "spread_from" [A,B,C]=.exc "NoSpot"):ax F aX [A,B,C]=.exc "NoSpot":=by
 simp! only [aX,h]
def yJ(F:aL)(B:PV)(A C:PV)(h:F "spread_to" [A,B,.lst [C]]=.exc "NoSpot"):ax F bG [A,B,C]=.exc "NoSpot":=by
 simp! only [bG,h]
def BW(F:aL)(hf:xa F){aa:List Str}(R:lB aa)(B:PV){r c:Int}(h:bj aa r c=false):ax F bO [fl aa,B,sp r c]=.exc "NoSpot":=by
 simp! only [bO,hf aa R r c h]
theorem GY(F:aL):ax F dJ [.exc "NoSpot"]=.ok (.str "no spot"):=rfl
def J6(F:aL)(A B D G:PV):(∀v,F "least_way" [A,B,D,G]=.ok v->ax F aF [.int 0,A,B,D,G]=.ok v)/\∀n v,F "least_way" [A,B,D,G]=.exc n->F "_law_word" [.exc n]=.ok v->ax F aF [.int 0,A,B,D,G]=.ok v:=by
 have e2:([.val (.int 0),.val A,.val B,.val D,.val G,.val .aD,.val .aD,.no]:Sl).any Ci.Slot.mZ=false:=rfl
 have e1:i4 .aD .aD=.ok (.bl true):=rfl
 refine⟨λv h=>?_,λn v h hw=>?_⟩
 ·simp! only [aF,h,e1,e2]
 ·have e3:i4 (.exc n) .aD=.ok (.bl false):=rfl
  simp! only [aF,h,e3,e2,hw]
def J4(F:aL)(A B D G:PV):(∀v,F "distances_from" [A,B,D]=.ok v->ax F aF [.int 1,A,B,D,G]=.ok v)/\∀n v,F "distances_from" [A,B,D]=.exc n->F "_law_word" [.exc n]=.ok v->ax F aF [.int 1,A,B,D,G]=.ok v:=by
 have e2:([.val (.int 1),.val A,.val B,.val D,.val G,.val .aD,.val .aD,.no]:Sl).any Ci.Slot.mZ=false:=rfl
 have e1:i4 .aD .aD=.ok (.bl true):=rfl
 refine⟨λv h=>?_,λn v h hw=>?_⟩
 ·simp! only [aF,h,show((1:Int)==0)=false from rfl,e1,e2]
 ·have e3:i4 (.exc n) .aD=.ok (.bl false):=rfl
  simp! only [aF,h,show((1:Int)==0)=false from rfl,e3,e2,hw]
def Km(F:aL)(A B D G:PV):(∀v,F "distances_to" [A,B,G]=.ok v->ax F aF [.int 2,A,B,D,G]=.ok v)/\∀n v,F "distances_to" [A,B,G]=.exc n->F "_law_word" [.exc n]=.ok v->ax F aF [.int 2,A,B,D,G]=.ok v:=by
 have e2:([.val (.int 2),.val A,.val B,.val D,.val G,.val .aD,.val .aD,.no]:Sl).any Ci.Slot.mZ=false:=rfl
 have e1:i4 .aD .aD=.ok (.bl true):=rfl
 refine⟨λv h=>?_,λn v h hw=>?_⟩
 ·simp! only [aF,h,show((2:Int)==0)=false from rfl,show((2:Int)==1)=false from rfl,e1,e2]
 ·have e3:i4 (.exc n) .aD=.ok (.bl false):=rfl
  simp! only [aF,h,show((2:Int)==0)=false from rfl,show((2:Int)==1)=false from rfl,e3,e2,hw]
def Dk{S:Ks}{m:Int}(h0:0<=m)(h:m<S.length):∃u∈S,aG (.lst (S.map ah)) (.int m)=.ok (ah u):=by
 obtain⟨k,rfl⟩:=zzw h0
 have hk:k<S.length:=by omega
 refine⟨S[k],List.getElem_mem hk,?_⟩;show Res.of (rC (S.map ah) (k:Int))=_
 rw [gO (by simpa using hk),List.getElem_map]
 rfl
def eW{aa:List Str}{a b:Int}:kW aa [a,b]↔bj aa a b=true:=⟨λ⟨r,c,e,h⟩=>by cases e;exact h,λh=>⟨a,b,rfl,h⟩⟩
def MU(f:List PV->Res PV):Prop:=∀aa w,Fl aa w->∀sl cl pr,Wk cl pr->∀a b c d,
 (((bj aa a b=true/\bj aa c d=true)->∃p,f [.int 0,fl aa,wk sl cl pr,sp a b,sp c d]=.ok p/\U5 (E1 aa sl cl pr) [a,b] [c,d] p)/\(¬(bj aa a b=true/\bj aa c d=true)->f [.int 0,fl aa,wk sl cl pr,sp a b,sp c d]=.ok (.str "no spot")))/\
 ((bj aa a b=true->∃kr Vr S,f [.int 1,fl aa,wk sl cl pr,sp a b,sp c d]=.ok (.lst (S.map λk=>tK (k,cst kr Vr k)))/\oM (E1 aa sl cl pr) [a,b] kr Vr/\(∀k,k∈S↔k∈kr)/\vX S)/\(bj aa a b=false->f [.int 1,fl aa,wk sl cl pr,sp a b,sp c d]=.ok (.str "no spot")))/\
 ((bj aa c d=true->∃kr Vr S,f [.int 2,fl aa,wk sl cl pr,sp a b,sp c d]=.ok (.lst (S.map λk=>tK (k,cst kr Vr k)))/\oM (Et aa sl cl pr) [c,d] kr Vr/\(∀k,k∈S↔k∈kr)/\vX S)/\(bj aa c d=false->f [.int 2,fl aa,wk sl cl pr,sp a b,sp c d]=.ok (.str "no spot")))
noncomputable def oD:Ss:=#v[.set 8 (.call "_law_tried" #v[¬0,!1,!2,!4,!5]),.ite (.or (.cmp .is (!6) (.cst .aD)) (.cmp .lJ (!5) (!3))) #v[.ret (.cmp .eq (!8) (.cst (.str "no spot")))] .nil,.ite (.cmp .lJ (!5) (!6)) #v[.ret (.cmp .is (!8) (.cst .aD))] .nil,.F8 (.two 9 10) (!8),.ret (.and (.cmp .eq (!9) (.sub (!6) (!5))) (.and (.cmp .eq (.sub (!10) (¬0)) (!4)) (.and (.cmp .eq (.sub (!10) (.neg (¬1))) (!5)) (.cmp .eq (.call "_law_sum" #v[!1,!2,!10]) (!9)))))]
noncomputable def oC:Ss:=.cons (.set 7 (.cst (.str "no spot"))) (.cons (.ite (.cmp .Ax (!5) (!3)) #v[.set 7 (.sF (.call "_law_costs_to" #v[!1,!2,.lst #v[!5]]))] .nil) (.cons (.ite (.cmp .ne (.call "_law_tried" #v[¬2,!1,!2,!4,!5]) (!7)) #v[.ret (.cst (.bl false))] .nil) oD))
noncomputable def oB:Ss:=.cons (.set 6 (.cst .aD)) (.cons (.ite (.cmp .Ax (!4) (!3)) #v[.set 6 (.call "_law_costs" #v[!1,!2,.lst #v[!4]])] .nil) (.cons (.ite (.cmp .ne (.call "_law_tried" #v[¬1,!1,!2,!4,!5]) (.ite (.cmp .is (!6) (.cst .aD)) (.cst (.str "no spot")) (.sF (!6)))) #v[.ret (.cst (.bl false))] .nil) oC))
section
variable{aa:List Str}{w:Nat}{sl:Bool}{cl pr a b c d:Int}{S:Ks}{N:PV}{F:aL}
theorem P6(ks:Ks)(vs:List PV):i4 (.bf ks vs) .aD=.ok (.bl false):=rfl
theorem RE:i4 .aD .aD=.ok (.bl true):=rfl
theorem TH:gq (.str "no spot") (.str "no spot")=.ok (.bl true):=rfl
theorem NZ:gL (.str "no spot") (.str "no spot")=.ok (.bl false):=rfl
def BC(ht:MU (F "_law_tried"))(L:Fl aa w)(V:Wk cl pr)(hm:∀k,k∈S↔kW aa k)(h:¬(bj aa a b=true/\bj aa c d=true)){p:PV}(hp:(bj aa a b=false->p=.aD)/\(bj aa a b=true->∃ks vs,p=.bf ks vs))(x7:Ci.Slot):aE F oD [.val N,.val (fl aa),.val (wk sl cl pr),.val (.lst (S.map ah)),.val (sp a b),.val (sp c d),.val p,x7,.no,.no,.no]=.ok (.rt (.bl true)):=by
 have e1:=(ht aa w L sl cl pr V a b c d).1.2 h
 cases ho:bj aa a b with
 |false=>
  cases hp.1 ho;simp! only [oD,e1,RE,TH]
 |true=>
  obtain⟨ks,vs,rfl⟩:=hp.2 ho
  have e2:f7 (sp c d) (.lst (S.map ah))=.ok (.bl (!decide ([c,d]∈S))):=Kb [c,d] S
  rw [zz0 λz=>h ⟨ho,eW.1 ((hm _).1 z)⟩] at e2
  simp! only [oD,e1,e2,P6,TH]
def Pw(ht:MU (F "_law_tried"))(hs:wW F)(L:Fl aa w)(V:Wk cl pr)(hm:∀k,k∈S↔kW aa k)(h1:bj aa a b=true)(h2:bj aa c d=true){ks:Ks}{ns:List Int}(hc:Lc (E1 aa sl cl pr) (kW aa) [a,b] ks ns)(x7:Ci.Slot):aE F oD [.val N,.val (fl aa),.val (wk sl cl pr),.val (.lst (S.map ah)),.val (sp a b),.val (sp c d),.val (.bf ks (ns.map .int)),x7,.no,.no,.no]=.ok (.rt (.bl true)):=by
 obtain⟨p,e1,hp⟩:=(ht aa w L sl cl pr V a b c d).1.1 ⟨h1,h2⟩
 have e2:f7 (sp c d) (.lst (S.map ah))=.ok (.bl (!decide ([c,d]∈S))):=Kb [c,d] S
 rw [zzh ((hm _).2 (eW.2 h2))] at e2;have g:=aS (vs:=ns) [c,d] hc.c.len
 have e3:f7 (sp c d) (.bf ks (ns.map .int))=.ok (.bl (!cg ks [c,d])):=ke (k:=[c,d])
 rcases hp with⟨rfl,hn⟩|⟨n,l,rfl,tr,ll,le⟩
 ·have g':cg ks [c,d]=false:=by
   rw [g];cases hg:av ks ns [c,d] with
   |none=>rfl
   |some n=>exact absurd (hc.c.rQ _ n hg).2.1 (hn n)
  rw [g'] at e3;simp! only [oD,e1,e2,e3,P6,RE]
 ·obtain⟨m,kG,hle⟩:=hc.all _ n (Ge tr)
  have:=le m (hc.c.rQ _ m kG).2.1
  have hd:av ks ns [c,d]=some n:=by rw [kG];exact congrArg some (by omega)
  have g':cg ks [c,d]=true:=by rw [g,hd];rfl
  rw [g'] at e3;obtain⟨pt,⟨t,ht1⟩,t',ht2⟩:=GX tr
  have e4:aG (.bf ks (ns.map .int)) (sp c d)=.ok (.int n):=nj hd
  have e5:=hs _ w L sl cl pr V l n pt (MB pt λx hx=>by rw [ht1] at hx;cases hx;exact⟨a,b,rfl,h1⟩) ll
  have e6:aG (.lst (l.map ah)) (.int 0)=.ok (sp a b):=by
   rw [ht1];show Res.of (rC (([a,b]::t).map ah) ((0:Nat):Int))=_
   rw [gO (by simp)]
   rfl
  have e7:aG (.lst (l.map ah)) (.int (-1))=.ok (sp c d):=by rw [ht2,List.map_append];exact xw _ _
  have e8:∀x y,gq (sp x y) (sp x y)=.ok (.bl true):=λx y=>by have:=S3 [x,y] [x,y];rwa [zzh rfl] at this
  simp! only [oD,e1,e2,e3,e4,e5,e6,e7,e8,P6]
def HJ(ht:MU (F "_law_tried"))(hc:Ej (F "_law_costs_to"))(L:Fl aa w)(V:Wk cl pr)(hm:∀k,k∈S↔kW aa k){p:PV}(hD:∀x7,aE F oD [.val N,.val (fl aa),.val (wk sl cl pr),.val (.lst (S.map ah)),.val (sp a b),.val (sp c d),.val p,x7,.no,.no,.no]=.ok (.rt (.bl true))):aE F oC [.val N,.val (fl aa),.val (wk sl cl pr),.val (.lst (S.map ah)),.val (sp a b),.val (sp c d),.val p,.no,.no,.no,.no]=.ok (.rt (.bl true)):=by
 have e2:oj (sp c d) (.lst (S.map ah))=.ok (.bl (decide ([c,d]∈S))):=Ux [c,d] S
 obtain⟨_,_,t1,t2⟩:=ht aa w L sl cl pr V a b c d
 cases ho:bj aa c d with
 |false=>
  rw [zz0 λz=>by rw [eW.1 ((hm _).1 z)] at ho;cases ho] at e2
  simp! only [oC,e2,t2 ho,NZ,hD]
 |true=>
  rw [zzh ((hm _).2 (eW.2 ho))] at e2;obtain⟨kr,Vr,Q,e3,R,hq,hS⟩:=t1 ho
  obtain⟨ks,ns,e4,lc⟩:=hc aa w L sl cl pr V [c,d] (eW.2 ho)
  have e5:=xm R hq hS lc λk hk=>⟨MV L hk,by obtain⟨_,_,rfl,_⟩:=hk;rfl⟩
  replace e4:F "_law_costs_to" [fl aa,wk sl cl pr,.lst [sp c d]]=.ok (.bf ks (ns.map .int)):=e4
  have e6:gL (.lst (Q.map λk=>tK (k,cst kr Vr k))) (.lst (Q.map λk=>tK (k,cst kr Vr k)))=.ok (.bl false):=by
   have:=neT (Q.map λk=>(k,cst kr Vr k))
   rwa [List.map_map] at this
  simp! only [oC,e2,e3,e4,e5,e6,hD]
def NO(ht:MU (F "_law_tried"))(hs:wW F)(hf:vP (F "_law_costs"))(hc:Ej (F "_law_costs_to"))(L:Fl aa w)(V:Wk cl pr)(hm:∀k,k∈S↔kW aa k):aE F oB [.val N,.val (fl aa),.val (wk sl cl pr),.val (.lst (S.map ah)),.val (sp a b),.val (sp c d),.no,.no,.no,.no,.no]=.ok (.rt (.bl true)):=by
 have e2:oj (sp a b) (.lst (S.map ah))=.ok (.bl (decide ([a,b]∈S))):=Ux [a,b] S
 obtain⟨_,⟨t1,t2⟩,_⟩:=ht aa w L sl cl pr V a b c d
 cases ho:bj aa a b with
 |false=>
  rw [zz0 λz=>by rw [eW.1 ((hm _).1 z)] at ho;cases ho] at e2
  have eC:=HJ (a:=a) (b:=b) (c:=c) (d:=d) (N:=N) (sl:=sl) ht hc L V hm (p:=.aD) λx7=>BC ht L V hm (λz=>by rw [z.1] at ho;cases ho) ⟨λ_=>rfl,λz=>by rw [z] at ho;cases ho⟩ x7
  dsimp! only [oB,e2,t2 ho,RE,NZ,eC]
 |true=>
  rw [zzh ((hm _).2 (eW.2 ho))] at e2;obtain⟨kr,Vr,Q,e3,R,hq,hS⟩:=t1 ho
  obtain⟨ks,ns,e4,lc⟩:=hf aa w L sl cl pr V [a,b] (eW.2 ho)
  have e5:=xm R hq hS lc λk hk=>⟨MV L hk,by obtain⟨_,_,rfl,_⟩:=hk;rfl⟩
  replace e4:F "_law_costs" [fl aa,wk sl cl pr,.lst [sp a b]]=.ok (.bf ks (ns.map .int)):=e4
  have e6:gL (.lst (Q.map λk=>tK (k,cst kr Vr k))) (.lst (Q.map λk=>tK (k,cst kr Vr k)))=.ok (.bl false):=by
   have:=neT (Q.map λk=>(k,cst kr Vr k))
   rwa [List.map_map] at this
  have eC:=HJ (a:=a) (b:=b) (c:=c) (d:=d) (N:=N) (sl:=sl) ht hc L V hm (p:=.bf ks (ns.map .int)) λx7=>by
   by_cases h:bj aa c d=true
   ·exact Pw ht hs L V hm ho h lc x7
   ·exact BC ht L V hm (λz=>h z.2) ⟨(λz=>by rw [z] at ho;cases ho),λ_=>⟨_,_,rfl⟩⟩ x7
  dsimp! only [oB,e2,e3,e4,e5,e6,P6,eC]
end
def iR(F:aL)(hp:iE F)(ns:List Int)(k:Int)(hk:0<=k){aa:List Str}{w:Nat}(L:Fl aa w):∃a b,ax F bX [fM ns,.int k,fl aa]=.ok (sp a b):=by
 obtain⟨z,f1,f2,f3⟩:=Vm L
 obtain⟨a,ea,_⟩:=hp ns k ((aa.length:Int)+2) hk (by omega)
 obtain⟨b,eb,_⟩:=hp ns (k+1) ((z.length:Int)+2) (by omega) (by omega)
 refine⟨a-1,b-1,?_⟩;simp! only [bX,zzl,ea,f1,f3,eb]
noncomputable def oA:Ss:=.cons (.ite (.and (.cmp .gt (.call "_law_pick" #v[!0,¬54,¬4]) (¬0)) (.cmp .ne (!3) (.lst .nil))) #v[.set 4 (.sub (!3) (.call "_law_pick" #v[!0,¬55,.blt .len #v[!3]])),.set 5 (.sub (!3) (.call "_law_pick" #v[!0,¬56,.blt .len #v[!3]]))] .nil) oB
def Pu{F:aL}(hp:iE F){aa:List Str}{S:Ks}(hm:∀k,k∈S->kW aa k)(W:PV)(ns:List Int)(eB:∀a b c d,aE F oB [.val (fM ns),.val (fl aa),.val W,.val (.lst (S.map ah)),.val (sp a b),.val (sp c d),.no,.no,.no,.no,.no]=.ok (.rt (.bl true)))(a b c d:Int):aE F oA [.val (fM ns),.val (fl aa),.val W,.val (.lst (S.map ah)),.val (sp a b),.val (sp c d),.no,.no,.no,.no,.no]=.ok (.rt (.bl true)):=by
 obtain⟨x,ex,_,_⟩:=hp ns 54 4 (by decide) (by decide)
 have eN:gL (.lst (S.map ah)) (.lst [])=.ok (.bl (!decide (S=[]))):=P7 S []
 by_cases hx:0<x
 ·by_cases hS:S=[]
  ·rw [zzh hS] at eN;dsimp! only [oA,ex,hx,decide_true,eN,eB]
  ·rw [zz0 hS] at eN;have hlen:(0:Int)<S.length:=by have:=List.length_pos_iff.2 hS;omega
   obtain⟨y,ey,y0,y1⟩:=hp ns 55 S.length (by decide) hlen
   obtain⟨z,ez,z0,z1⟩:=hp ns 56 S.length (by decide) hlen
   obtain⟨u,hu,eu⟩:=Dk y0 y1
   obtain⟨v,hv,ev⟩:=Dk z0 z1
   obtain⟨r,q,rfl,_⟩:=hm u hu
   obtain⟨r',q',rfl,_⟩:=hm v hv
   replace eu:aG (.lst (S.map ah)) (.int y)=.ok (sp r q):=eu
   replace ev:aG (.lst (S.map ah)) (.int z)=.ok (sp r' q'):=ev
   dsimp! only [oA,ex,hx,decide_true,eN,zzl,ey,ez,eu,ev,eB]
 ·dsimp! only [oA,ex,hx,decide_false,eB]
def Gv(F:aL)(ht:MU (F "_law_tried"))(hs:wW F)(hk:Hx (F "_law_spots"))(hf:vP (F "_law_costs"))(hc:Ej (F "_law_costs_to"))(hp:iE F)(h1:∀ns,∃aa w,Fl aa w/\F "_law_floor" [fM ns,.int 0,.int 5]=.ok (fl aa))(h2:∀ns,∃sl cl pr,Wk cl pr/\F "_law_walker" [fM ns,.int 40]=.ok (wk sl cl pr))
 (h3:∀ns k aa w,0<=k->Fl aa w->∃a b,F "_law_any_spot" [fM ns,.int k,fl aa]=.ok (sp a b)) (ns:List Int):ax F cE [fM ns]=.ok (.bl true):=by
 obtain⟨aa,w,L,e1⟩:=h1 ns
 obtain⟨sl,cl,pr,V,e2⟩:=h2 ns
 obtain⟨S,e3,_,_,hm⟩:=hk aa L.qe
 obtain⟨a,b,e4⟩:=h3 ns 50 aa w (by decide) L
 obtain⟨c,d,e5⟩:=h3 ns 52 aa w (by decide) L
 have eB:∀a b c d,aE F oB [.val (fM ns),.val (fl aa),.val (wk sl cl pr),.val (.lst (S.map ah)),.val (sp a b),.val (sp c d),.no,.no,.no,.no,.no]=.ok (.rt (.bl true)):=λa b c d=>NO ht hs hf hc L V hm
 have eA:=Pu hp (λk hk=>(hm k).1 hk) (wk sl cl pr) ns eB a b c d
 have db:cE.body=(.cons (.set 1 (.call "_law_floor" #v[!0,¬0,¬5])) (.cons (.set 2 (.call "_law_walker" #v[!0,¬40])) (.cons (.set 3 (.call "_law_spots" #v[!1])) (.cons (.set 4 (.call "_law_any_spot" #v[!0,¬50,!1])) (.cons (.set 5 (.call "_law_any_spot" #v[!0,¬52,!1])) oA))))):=rfl
 have st:cx cE [fM ns]=[.val (fM ns),.no,.no,.no,.no,.no,.no,.no,.no,.no,.no]:=rfl
 have ar:cA cE [fM ns]=true:=rfl
 unfold ax;rw [ar,if_pos rfl,st,db];dsimp! only [e1,e2,e3,e4,e5,eA]
noncomputable def wR:Ss:=#v[.ite (.not (.call "_law_once" #v[.comp 1 [1] (.one 0) (.seq (!0)) (.bin .add (!0) (.bin .mul (¬7919) (!1)))])) #v[.ret (.cst (.bl false))] .nil,.ite (.cmp .eq (!0) (.lst .nil)) #v[.brk] .nil]
def sA(F:aL)(ho:∀ns,F "_law_once" [fM ns]=.ok (.bl true))(ns:List Int)(hl:ns.length<=63)(t:Int):aE F wR [.val (fM ns),.val (.int t)]=.ok (if ns=[] then .bk [.val (fM ns),.val (.int t)] else .nx [.val (fM ns),.val (.int t)]):=by
 have l:ns.length<fv:=zzV hl (by decide)
 have s:(aO 7919||aO t)=true:=by rw [zzt];exact .inl (by decide)
 dsimp! only [wR,Qp,zzl,l];rw [d7 (g:=λn:Int=>.int (n+7919*t)) (λn _=>by dsimp! only [s])]
 have e:=ho (ns.map λn=>n+7919*t)
 simp! [fM,List.map_map,Function.comp_def] at e;dsimp! only [e,eq_nil]
 by_cases h:ns=[]
 ·dsimp! only [h,decide_true]
 ·dsimp! only [h,decide_false]
def Jk(F:aL)(ho:∀ns,F "_law_once" [fM ns]=.ok (.bl true))(ns:List Int)(hl:ns.length<=63):ax F oW [fM ns]=.ok (.bl true):=by
 have e:∃t:Int,forL (λx env=>((Tg.one 1).put x env).bind λau=>aE F wR au) (fy 0 (6:Int).toNat) [.val (fM ns),.no]=.ok (.nx [.val (fM ns),.val (.int t)]):=by
  rw [show fy 0 (6:Int).toNat=[.int 0,.int 1,.int 2,.int 3,.int 4,.int 5] from rfl]
  by_cases h:ns=[]
  ·refine⟨0,?_⟩;simp! [forL,Qd,rO,List.set_cons_succ,List.set_cons_zero,sA F ho ns hl,if_pos h]
  ·refine⟨5,?_⟩;simp! [forL,Qd,rO,List.set_cons_succ,List.set_cons_zero,sA F ho ns hl,h,if_false]
 obtain⟨t,e⟩:=e
 have s:bg 6=true:=by decide
 dsimp! only [wR] at e;dsimp! only [oW,s,e]
def Ox(ns:List Int)(hl:ns.length<=63):ax (den Va) oW [fM ns]=.ok (.bl true):=by
 have pick:∀F:aL,F "_law_pick"=ax (den T1) bQ->iE F:=λF hF ns k q hk hq=>by
  rw [hF];exact Gy (den T1) (λns k hk=>by rw [NI];exact Fw _ ns k hk) ns k q hk hq
 have wZ:∀F:aL,F "is_open"=ax (den JW) cR->pY F:=λF hF aa R r c=>by
  rw [hF];exact FX _ (λr c=>by rw [JM];exact v9 _ (λi=>by rw [OH];exact qO _ i) r c) (λaa R r c=>by rw [Ei];exact Od _ aa R r c) aa R r c
 have pC:∀F:aL,F "need_open"=ax (den Ga) aR->j9 F:=λF hF aa R r c h=>by
  rw [hF];exact rA _ (wZ _ wH) aa R r c h
 have nF:∀F:aL,F "need_open"=ax (den Ga) aR->xa F:=λF hF aa R r c h=>by
  rw [hF];exact AV _ (wZ _ wH) aa R r c h
 have step:∀F:aL,F "step_cost"=ax (den Lh) bI->uM F:=λF hF aa w L sl cl pr V r c r' c' h h'=>by
  rw [hF];exact Gf _ (λr c r' c'=>by rw [FF];exact zR _ r c r' c') (λaa R r c r' c'=>by rw [G7];exact vy _ (wZ _ Fb) R r c r' c') (λaa w L r c h=>by rw [Eo];exact yE _ (pC _ Ex) L h) L V h h'
 have V7:HU (den IG):=λaa R r c a b d e=>by
  rw [Gu];exact Jy _ (wZ _ F0) R a b d e
 have steps:∀F:aL,F "steps_from"=ax (den IG) b9->lx F:=λF hF=>by
  unfold lx;rw [hF];exact Bm _ (pC _ FP) V7 (step _ Gd)
 have ET:qS (den P9):=by
  unfold qS;rw [Fc];exact vH _ (steps _ F2) (step _ Fj)
 have SH:LX (den IE):=by
  unfold LX;rw [Fm];exact Gb _ ET
 have spT:∀F:aL,F "spread_to"=ax (den IE) bH->∀aa w,Fl aa w->∀sl cl pr,Wk cl pr->∀r c,bj aa r c=true->∃kr Vr,F "spread_to" [fl aa,wk sl cl pr,.lst [sp r c]]=.ok (.bf kr (Vr.map val))/\oM (Et aa sl cl pr) [r,c] kr Vr:=λF hF aa w L sl cl pr V r c h=>by
  rw [hF];exact sX _ (pC _ xW) SH L V h
 have Ud:∀F:aL,F "spread_to"=ax (den IE) bH->∀aa,lB aa->∀B r c,bj aa r c=false->F "spread_to" [fl aa,B,.lst [sp r c]]=.exc "NoSpot":=λF hF aa R B r c h=>by
  rw [hF];exact qL _ (nF _ xW) R B h
 have RQ:KU (den N6):=by
  unfold KU;rw [EK];exact EG _ (steps _ Ep)
 have Nu:ve (den M6):=by
  unfold ve;rw [wN];exact Fg _ (pC _ wA) RQ
 have rise:∀F:aL,F "rising_costs"=ax (den Qe) bK->DV (F "rising_costs"):=λF hF E s kr Vr R h=>by
  rw [hF];exact Aj _ R h
 have wS:den D8 "_law_word" [.exc "NoSpot"]=.ok (.str "no spot"):=by rw [I0];exact GY _
 have uU:∀F:aL,F "_law_steps"=ax (den Nc) br->eE F:=λF hF=>by
  unfold eE;rw [hF];exact yV _ (λaa w L sl cl pr V r c r' c' h h' hf=>by rw [Ff];exact vT _ L V h h' hf)
 have wx:∀F:aL,F "_law_spots"=ax (den T4) bC->qE F:=λF hF aa R=>by
  rw [hF];exact Cn _ aa R
 have Ow:MU (den Am "_law_tried"):=λaa w L sl cl pr V a b c d=>by
  rw [Ee];obtain⟨p1,p2⟩:=J6 (den D8) (fl aa) (wk sl cl pr) (sp a b) (sp c d)
  obtain⟨q1,q2⟩:=J4 (den D8) (fl aa) (wk sl cl pr) (sp a b) (sp c d)
  obtain⟨r1,r2⟩:=Km (den D8) (fl aa) (wk sl cl pr) (sp a b) (sp c d)
  refine⟨⟨λh=>?_,λh=>p2 _ _ ?_ wS⟩,⟨λh=>?_,λh=>q2 _ _ ?_ wS⟩,λh=>?_,λh=>r2 _ _ ?_ wS⟩
  ·obtain⟨p,e,lp⟩:=Du (den MS) (pC _ qt) (spT _ yh) (λE s kr Vr R hE k q hq=>by rw [Hq];exact zj _ R hE hq) aa w L sl cl pr V a b c d h.1 h.2
   exact⟨p,p1 p (by rw [wV];exact e),lp⟩
  ·rw [wV];exact zI _ (pC _ qt) (nF _ qt) (Ud _ yh) L.qe _ h
  ·obtain⟨kr,Vr,S,e,R,_,hm,hS⟩:=Dv (den M6) Nu (rise _ FR) aa w L sl cl pr V a b h
   exact⟨kr,Vr,S,q1 _ (by rw [xV];exact e),R,hm,hS⟩
  ·rw [xV];exact Ad _ _ _ _ (by rw [wN];exact BW _ (nF _ wA) L.qe _ h)
  ·obtain⟨kr,Vr,S,e,R,_,hm,hS⟩:=zQ (den Ny) (spT _ xR) (rise _ Em) aa w L sl cl pr V c d h
   exact⟨kr,Vr,S,r1 _ (by rw [wc];exact e),R,hm,hS⟩
  ·rw [wc];exact yJ _ _ _ _ (Ud _ xR aa L.qe _ c d h)
 refine Jk _ (λns=>?_) ns hl;rw [F4];refine Gv _ Ow ?_ (vJ (wx _ LL)) ?_ ?_ (pick _ Lw) (λns=>by rw [LK];exact yR _ (pick _ O3) ns 5 (by decide) (by decide)) (λns=>by rw [Jh];exact Ae _ (pick _ Nj) ns 40 (by decide)) (λns k aa w hk L=>by rw [Ln];exact iR _ (pick _ Pr) ns k hk L) ns
 ·unfold wW;rw [Hf];exact Jq _ (wx _ Ku) (uU _ FU)
 ·rw [FL];exact BG _ (vJ (wx _ IY)) (uU _ EN)
 ·rw [Hh];exact KS _ (vJ (wx _ KD)) (uU _ GG)
end K10
namespace Hd
open PySem PySem.W L2
noncomputable abbrev fo(n:Str)(st:Stmt)(pm:Value)(c:Addr):Obj:=⟨.type "function",none,.func (fnOf n n (dv st) (cV st) (aY st) .none .none .none pm none (.ref c) .none),#[]⟩
noncomputable abbrev co(n:Str)(a:Nat)(L A:Int)(r:Nat)(x y:Value)(q z:Nat):Obj:={cls:=.type "code",data:=.fields #[.str n a,.str n (a+1),.str "/claim/cut.py" (a+2),.int L 0,.int A 0,.int 0 0,.int 0 0,.int 3 0,.ref r,.bool Bool.true,.int 181 0,.ref (r+1),.none,x,y,.ref q,.int z 0,.int L 0,.str "/claim/cut.py" (z+1)]}
def Sn(s:Stmt):Pos:=match s with
 |.FunctionDef _ _ _ _ _ _ _ _ _ p=>p
 |_=>⟨0,0,0,0⟩
def ent{K:Frag}{ts:List (Addr×Str)}{n:Str}{st:Stmt}(f c:Addr)(pm:Value)(a:nsIn K mainGlobals n=some (some (.ref f)):=by kernel_rfl)(l:K.lookup f=some (fo n st pm c):=by kernel_rfl)(d:codeIn K (.ref c) n=true:=by kernel_rfl)(k:keepIn K (.ref f)=true:=by kernel_rfl):Ci.zX K ts false n st:=Ci.RS a l d k
def Gh{K:Frag}{ts:List (Addr×Str)}{n:Str}{st:Stmt}(f c p:Addr)(pm:Value)(ck:Ci.f9 K c p)(m:(p,Ci.mF n)∈ts)(u:∀q∈ts,q.1=p->q.2=Ci.mF n)(a:nsIn K mainGlobals n=some (some (.ref f)):=by kernel_rfl)(l:K.lookup f=some (fo n st pm c):=by kernel_rfl)(d:codeIn K (.ref c) n=true:=by kernel_rfl)(k:keepIn K (.ref f)=true:=by kernel_rfl):Ci.zX K ts true n st:=⟨f,_,_,_,_,_,_,_,_,_,a,l,d,k,λ_=>⟨c,p,rfl,ck,m,λq' h=>u _ h rfl⟩⟩
def ac{K:Frag}{ts:List (Addr×Str)}{Γ:Ci.Pg}{r:Ci.Row}{l:Ci.d5}(e:Ci.zX K ts r.hl r.h r.st)(s:Ci.cD (Γ.at l r.hl) r.h r.d r.st)(t:Ci.AllK K ts Γ l)(a:(l.map (·.f)).contains r.f=false:=by decide+kernel)(b:(r.d.iU.isNone==!Ci.gU r.f)=true:=by decide+kernel)(c:r.d.iU.isNone=true->r.f=r.h:=by first|exact λ_=>rfl|exact λz=>absurd z (by decide)):Ci.AllK K ts Γ (r::l):=⟨e,s,⟨a,b,c⟩,t⟩
def B4{K L:Frag}{b:Addr}{o:Obj}(e:K.lookup b=some o):(K++L).lookup b=some o:=by
 rw [List.lookup_append,e]
 rfl
end Hd
namespace K10
open PySem L2 Ci
abbrev lw:=PySem.Challenge.rw_cellways_k10_whole_least
def top(i:Nat):Stmt:=PySem.Challenge.pw_cellways_k10_whole_least.main.body.getD i (.Pass ⟨0,0,0,0⟩)
noncomputable def K(P:Params):zz8:=[(2,{cls:=.none,data:=.dict #[]}),
 (3,{cls:=.type "dict",data:=.dict #[Hd.de P "__name__" 165 (.str "law_cellways_k10_whole_least" 468),Hd.de P "__doc__" 166 (.none),Hd.de P "__package__" 167 (.none),Hd.de P "__loader__" 168 (.builtin "__main__.__loader__#opaque"),Hd.de P "__spec__" 169 (.none),Hd.de P "__annotations__" 170 (.ref 6),Hd.de P "__builtins__" 171 (.ref 4),Hd.de P "__file__" 173 (.str "/claim/cut.py" 172),Hd.de P "__cached__" 174 (.none),Hd.de P "FloorError" 206 (.ref 24),Hd.de P "NoSpot" 222 (.ref 37),Hd.de P "NoWay" 238 (.ref 49),Hd.de P "NoSign" 254 (.ref 61),Hd.de P "NoSize" 270 (.ref 73),Hd.de P "WALL" 274 (.str "#" 273),Hd.de P "STRAIGHT_COST" 276 (.int 2 275),Hd.de P "SLANTING_COST" 278 (.int 3 277),Hd.de P "is_whole" 285 (.ref 82),Hd.de P "is_spot" 292 (.ref 89),Hd.de P "is_on_floor" 300 (.ref 96),Hd.de P "is_open" 308 (.ref 103),Hd.de P "need_open" 316 (.ref 110),Hd.de P "height_at" 324 (.ref 117),Hd.de P "open_spots_beside" 335 (.ref 124),Hd.de P "are_beside" 343 (.ref 131),Hd.de P "has_open_corners" 352 (.ref 138),Hd.de P "step_cost" 365 (.ref 145),Hd.de P "steps_from" 377 (.ref 152),Hd.de P "steps_to" 383 (.ref 157),Hd.de P "spread" 400 (.ref 164),Hd.de P "spread_from" 411 (.ref 171),Hd.de P "spread_to" 423 (.ref 178),Hd.de P "rising_costs" 429 (.ref 183),Hd.de P "distances_from" 438 (.ref 190),Hd.de P "distances_to" 447 (.ref 197),Hd.de P "traced" 456 (.ref 204),Hd.de P "least_way" 467 (.ref 211),Hd.de P "_law_cell" 477 (.ref 218),Hd.de P "_law_pick" 487 (.ref 225),Hd.de P "_law_floor" 505 (.ref 232),Hd.de P "_law_walker" 513 (.ref 239),Hd.de P "_law_spots" 519 (.ref 244),Hd.de P "_law_cost" 531 (.ref 251),Hd.de P "_law_steps" 545 (.ref 258),Hd.de P "_law_costs" 551 (.ref 263),Hd.de P "_law_costs_to" 557 (.ref 268),Hd.de P "_law_sum" 563 (.ref 273),Hd.de P "_law_word" 571 (.ref 280),Hd.de P "_law_any_spot" 580 (.ref 287),Hd.de P "_law_tried" 594 (.ref 294),Hd.de P "_law_once" 611 (.ref 301),Hd.de P "law" 617 (.ref 306)] 52}),
 (4,{cls:=.type "module",dict:=some builtinsNs,data:=.plain}),
 (23,{cls:=.type "dict",data:=.dict #[Hd.de P "__module__" 196 (.str "cellways.errors" 187),Hd.de P "__firstlineno__" 200 (.int 2 199),Hd.de P "__static_attributes__" 201 (.ref 22),Hd.de P "__weakref__" 203 (.ref 25),Hd.de P "__doc__" 204 (.none)] 3}),
 (24,{cls:=.type "type",data:=.cls {name:="FloorError",bases:=[.type "ValueError"],mro:=[.ref 24,.type "ValueError",.type "Exception",.type "BaseException",.type "object"],ns:=23,qualname:="FloorError",subclasses:=[.ref 37,.ref 49,.ref 61,.ref 73]},slots:=#[some (.ref 15),none,some (.str "FloorError" 189),some (.str "FloorError" 197),some (.builtin "ValueError.__new__"),some (.bool Bool.true)]}),
 (36,{cls:=.type "dict",data:=.dict #[Hd.de P "__module__" 214 (.str "cellways.errors" 187),Hd.de P "__firstlineno__" 218 (.int 4 217),Hd.de P "__static_attributes__" 219 (.ref 35),Hd.de P "__doc__" 220 (.none)] 2}),
 (37,{cls:=.type "type",data:=.cls {name:="NoSpot",bases:=[.ref 24],mro:=[.ref 37,.ref 24,.type "ValueError",.type "Exception",.type "BaseException",.type "object"],ns:=36,qualname:="NoSpot"},slots:=#[some (.ref 28),none,some (.str "NoSpot" 207),some (.str "NoSpot" 215),some (.builtin "ValueError.__new__"),some (.bool Bool.true)]}),
 (48,{cls:=.type "dict",data:=.dict #[Hd.de P "__module__" 230 (.str "cellways.errors" 187),Hd.de P "__firstlineno__" 234 (.int 6 233),Hd.de P "__static_attributes__" 235 (.ref 47),Hd.de P "__doc__" 236 (.none)] 2}),
 (49,{cls:=.type "type",data:=.cls {name:="NoWay",bases:=[.ref 24],mro:=[.ref 49,.ref 24,.type "ValueError",.type "Exception",.type "BaseException",.type "object"],ns:=48,qualname:="NoWay"},slots:=#[some (.ref 40),none,some (.str "NoWay" 223),some (.str "NoWay" 231),some (.builtin "ValueError.__new__"),some (.bool Bool.true)]}),
 (60,{cls:=.type "dict",data:=.dict #[Hd.de P "__module__" 246 (.str "cellways.errors" 187),Hd.de P "__firstlineno__" 250 (.int 8 249),Hd.de P "__static_attributes__" 251 (.ref 59),Hd.de P "__doc__" 252 (.none)] 2}),
 (61,{cls:=.type "type",data:=.cls {name:="NoSign",bases:=[.ref 24],mro:=[.ref 61,.ref 24,.type "ValueError",.type "Exception",.type "BaseException",.type "object"],ns:=60,qualname:="NoSign"},slots:=#[some (.ref 52),none,some (.str "NoSign" 239),some (.str "NoSign" 247),some (.builtin "ValueError.__new__"),some (.bool Bool.true)]}),
 (72,{cls:=.type "dict",data:=.dict #[Hd.de P "__module__" 262 (.str "cellways.errors" 187),Hd.de P "__firstlineno__" 266 (.int 10 265),Hd.de P "__static_attributes__" 267 (.ref 71),Hd.de P "__doc__" 268 (.none)] 2}),
 (73,{cls:=.type "type",data:=.cls {name:="NoSize",bases:=[.ref 24],mro:=[.ref 73,.ref 24,.type "ValueError",.type "Exception",.type "BaseException",.type "object"],ns:=72,qualname:="NoSize"},slots:=#[some (.ref 64),none,some (.str "NoSize" 255),some (.str "NoSize" 263),some (.builtin "ValueError.__new__"),some (.bool Bool.true)]}),
 (81,Hd.co "is_whole" 279 16 1 76 (.ref 78) (.ref 79) 80 283),
 (82,Hd.fo "is_whole" (top 10) (.str "cellways.floors" 271) 81),
 (88,Hd.co "is_spot" 286 18 1 83 (.ref 85) (.ref 86) 87 290),
 (89,Hd.fo "is_spot" (top 11) (.str "cellways.floors" 271) 88),
 (95,Hd.co "is_on_floor" 293 20 2 90 (.ref 92) (.ref 93) 94 298),
 (96,Hd.fo "is_on_floor" (top 12) (.str "cellways.floors" 271) 95),
 (102,Hd.co "is_open" 301 22 2 97 (.ref 99) (.ref 100) 101 306),
 (103,Hd.fo "is_open" (top 13) (.str "cellways.floors" 271) 102),
 (109,Hd.co "need_open" 309 24 2 104 (.ref 106) (.ref 107) 108 314),
 (110,Hd.fo "need_open" (top 14) (.str "cellways.floors" 271) 109),
 (116,Hd.co "height_at" 317 27 2 111 (.ref 113) (.ref 114) 115 322),
 (117,Hd.fo "height_at" (top 15) (.str "cellways.floors" 271) 116),
 (123,Hd.co "open_spots_beside" 325 30 2 118 (.ref 120) (.ref 121) 122 333),
 (124,Hd.fo "open_spots_beside" (top 16) (.str "cellways.floors" 271) 123),
 (130,Hd.co "are_beside" 336 37 2 125 (.ref 127) (.ref 128) 129 341),
 (131,Hd.fo "are_beside" (top 17) (.str "cellways.floors" 271) 130),
 (137,Hd.co "has_open_corners" 344 39 3 132 (.ref 134) (.ref 135) 136 350),
 (138,Hd.fo "has_open_corners" (top 18) (.str "cellways.floors" 271) 137),
 (144,Hd.co "step_cost" 353 41 4 139 (.ref 141) (.ref 142) 143 363),
 (145,Hd.fo "step_cost" (top 19) (.str "cellways.floors" 271) 144),
 (151,Hd.co "steps_from" 366 52 3 146 (.ref 148) (.ref 149) 150 375),
 (152,Hd.fo "steps_from" (top 20) (.str "cellways.floors" 271) 151),
 (156,Hd.co "steps_to" 378 60 3 153 .none .none 155 381),
 (157,Hd.fo "steps_to" (top 21) (.str "cellways.floors" 271) 156),
 (163,Hd.co "spread" 386 63 2 158 (.ref 160) (.ref 161) 162 398),
 (164,Hd.fo "spread" (top 23) (.str "cellways.ways" 384) 163),
 (170,Hd.co "spread_from" 401 76 3 165 (.ref 167) (.ref 168) 169 409),
 (171,Hd.fo "spread_from" (top 24) (.str "cellways.ways" 384) 170),
 (177,Hd.co "spread_to" 412 79 3 172 (.ref 174) (.ref 175) 176 421),
 (178,Hd.fo "spread_to" (top 25) (.str "cellways.ways" 384) 177),
 (182,Hd.co "rising_costs" 424 83 1 179 .none .none 181 427),
 (183,Hd.fo "rising_costs" (top 26) (.str "cellways.ways" 384) 182),
 (189,Hd.co "distances_from" 430 85 3 184 (.ref 186) (.ref 187) 188 436),
 (190,Hd.fo "distances_from" (top 27) (.str "cellways.ways" 384) 189),
 (196,Hd.co "distances_to" 439 87 3 191 (.ref 193) (.ref 194) 195 445),
 (197,Hd.fo "distances_to" (top 28) (.str "cellways.ways" 384) 196),
 (203,Hd.co "traced" 448 89 2 198 (.ref 200) (.ref 201) 202 454),
 (204,Hd.fo "traced" (top 29) (.str "cellways.ways" 384) 203),
 (210,Hd.co "least_way" 457 94 4 205 (.ref 207) (.ref 208) 209 465),
 (211,Hd.fo "least_way" (top 30) (.str "cellways.ways" 384) 210),
 (217,Hd.co "_law_cell" 470 101 2 212 (.ref 214) (.ref 215) 216 475),
 (218,Hd.fo "_law_cell" (top 32) (.str "law_cellways_k10_whole_least" 468) 217),
 (224,Hd.co "_law_pick" 478 107 3 219 (.ref 221) (.ref 222) 223 485),
 (225,Hd.fo "_law_pick" (top 33) (.str "law_cellways_k10_whole_least" 468) 224),
 (231,Hd.co "_law_floor" 488 110 3 226 (.ref 228) (.ref 229) 230 503),
 (232,Hd.fo "_law_floor" (top 34) (.str "law_cellways_k10_whole_least" 468) 231),
 (238,Hd.co "_law_walker" 506 123 2 233 (.ref 235) (.ref 236) 237 511),
 (239,Hd.fo "_law_walker" (top 35) (.str "law_cellways_k10_whole_least" 468) 238),
 (243,Hd.co "_law_spots" 514 125 1 240 .none .none 242 517),
 (244,Hd.fo "_law_spots" (top 36) (.str "law_cellways_k10_whole_least" 468) 243),
 (250,Hd.co "_law_cost" 520 130 4 245 (.ref 247) (.ref 248) 249 529),
 (251,Hd.fo "_law_cost" (top 37) (.str "law_cellways_k10_whole_least" 468) 250),
 (257,Hd.co "_law_steps" 532 140 3 252 (.ref 254) (.ref 255) 256 543),
 (258,Hd.fo "_law_steps" (top 38) (.str "law_cellways_k10_whole_least" 468) 257),
 (262,Hd.co "_law_costs" 546 150 3 259 .none .none 261 549),
 (263,Hd.fo "_law_costs" (top 39) (.str "law_cellways_k10_whole_least" 468) 262),
 (267,Hd.co "_law_costs_to" 552 162 3 264 .none .none 266 555),
 (268,Hd.fo "_law_costs_to" (top 40) (.str "law_cellways_k10_whole_least" 468) 267),
 (272,Hd.co "_law_sum" 558 177 3 269 .none .none 271 561),
 (273,Hd.fo "_law_sum" (top 41) (.str "law_cellways_k10_whole_least" 468) 272),
 (279,Hd.co "_law_word" 564 188 1 274 (.ref 276) (.ref 277) 278 569),
 (280,Hd.fo "_law_word" (top 42) (.str "law_cellways_k10_whole_least" 468) 279),
 (286,Hd.co "_law_any_spot" 572 193 3 281 (.ref 283) (.ref 284) 285 578),
 (287,Hd.fo "_law_any_spot" (top 43) (.str "law_cellways_k10_whole_least" 468) 286),
 (293,Hd.co "_law_tried" 581 195 5 288 (.ref 290) (.ref 291) 292 592),
 (294,Hd.fo "_law_tried" (top 44) (.str "law_cellways_k10_whole_least" 468) 293),
 (300,Hd.co "_law_once" 595 210 1 295 (.ref 297) (.ref 298) 299 609),
 (301,Hd.fo "_law_once" (top 45) (.str "law_cellways_k10_whole_least" 468) 300),
 (305,Hd.co "law" 612 236 1 302 .none .none 304 615),
 (306,Hd.fo "law" (top 46) (.str "law_cellways_k10_whole_least" 468) 305)]
def ts:List (Addr×Str):=[(159,mF "spread"),(173,mF "spread_to"),(166,mF "spread_from")]
noncomputable def K2(P:Params):zz8:=K P++[(159,PySem.W.tabObj #[]),(173,PySem.W.tabObj #[]),(166,PySem.W.tabObj #[])]
noncomputable def as:List Addr:=[2,3,4,23,24,36,37,48,49,60,61,72,73,81,82,88,89,95,96,102,103,109,110,116,117,123,124,130,131,137,138,144,145,151,152,156,157,163,164,170,171,177,178,182,183,189,190,196,197,203,204,210,211,217,218,224,225,231,232,238,239,243,244,250,251,257,258,262,263,267,268,272,273,279,280,286,287,293,294,300,301,305,306,159,173,166]
noncomputable def Γ:Pg:=⟨[("WALL",(.str "#")),("STRAIGHT_COST",(.int 2)),("SLANTING_COST",(.int 3))],["len","abs","max","min","int","str","list","tuple","isinstance","bool","range","enumerate","ValueError","sorted","dict"],["FloorError","NoSign","NoSize","NoSpot","NoWay"],[],["NoSpot"],[],false⟩
def R0:d5:=[]
def qa:cD (Γ.at R0 false) "_law_cell" df (top 32):=stM λ_ _ _ _ _ _=>Hd.DD λ_ _=>rfl
noncomputable def R1:d5:=⟨"_law_cell","_law_cell",df,top 32,false⟩::R0
def rK:cD (Γ.at R1 false) "_law_pick" bQ (top 33):=stM λ_ _ _ _ _ _=>Hd.wY λ_ _ _=>rfl
noncomputable def R2:d5:=⟨"_law_pick","_law_pick",bQ,top 33,false⟩::R1
def n5:cD (Γ.at R2 false) "_law_floor" cG (top 34):=stM λ_ _ _ _ _ _=>Hd.wY λ_ _ _=>rfl
noncomputable def R3:d5:=⟨"_law_floor","_law_floor",cG,top 34,false⟩::R2
def mV:cD (Γ.at R3 false) "_law_walker" cJ (top 35):=stM λ_ _ _ _ _ _=>Hd.DD λ_ _=>rfl
noncomputable def R4:d5:=⟨"_law_walker","_law_walker",cJ,top 35,false⟩::R3
def nW:cD (Γ.at R4 false) "_law_spots" bC (top 36):=stM λ_ _ _ _ _ _=>Hd.K9 λ_=>rfl
noncomputable def R5:d5:=⟨"_law_spots","_law_spots",bC,top 36,false⟩::R4
def j3:cD (Γ.at R5 false) "_law_any_spot" bX (top 43):=stM λ_ _ _ _ _ _=>Hd.wY λ_ _ _=>rfl
noncomputable def R6:d5:=⟨"_law_any_spot","_law_any_spot",bX,top 43,false⟩::R5
def rD:cD (Γ.at R6 false) "_law_word" dJ (top 42):=stM λ_ _ _ _ _ _=>Hd.K9 λ_=>rfl
noncomputable def R7:d5:=⟨"_law_word","_law_word",dJ,top 42,false⟩::R6
def rZ:cD (Γ.at R7 false) "is_whole" er (top 10):=stM λ_ _ _ _ _ _=>Hd.K9 λ_=>rfl
noncomputable def R8:d5:=⟨"is_whole","is_whole",er,top 10,false⟩::R7
def uS:cD (Γ.at R8 false) "is_spot" d6 (top 11):=stM λ_ _ _ _ _ _=>Hd.K9 λ_=>rfl
noncomputable def R9:d5:=⟨"is_spot","is_spot",d6,top 11,false⟩::R8
def mi:cD (Γ.at R9 false) "is_on_floor" cI (top 12):=stM λ_ _ _ _ _ _=>Hd.DD λ_ _=>rfl
noncomputable def Tc:d5:=⟨"is_on_floor","is_on_floor",cI,top 12,false⟩::R9
def v8:cD (Γ.at Tc false) "is_open" cR (top 13):=stM λ_ _ _ _ _ _=>Hd.DD λ_ _=>rfl
noncomputable def Vf:d5:=⟨"is_open","is_open",cR,top 13,false⟩::Tc
def qd:cD (Γ.at Vf false) "need_open" aR (top 14):=stM λ_ _ _ _ _ _=>Hd.DD λ_ _=>rfl
noncomputable def Tn:d5:=⟨"need_open","need_open",aR,top 14,false⟩::Vf
def nY:cD (Γ.at Tn false) "are_beside" cT (top 17):=stM λ_ _ _ _ _ _=>Hd.DD λ_ _=>rfl
noncomputable def Ur:d5:=⟨"are_beside","are_beside",cT,top 17,false⟩::Tn
def q9:cD (Γ.at Ur false) "height_at" dg (top 15):=stM λ_ _ _ _ _ _=>Hd.DD λ_ _=>rfl
noncomputable def Uy:d5:=⟨"height_at","height_at",dg,top 15,false⟩::Ur
def ir:cD (Γ.at Uy false) "has_open_corners" bB (top 18):=stM λ_ _ _ _ _ _=>Hd.wY λ_ _ _=>rfl
noncomputable def TB:d5:=⟨"has_open_corners","has_open_corners",bB,top 18,false⟩::Uy
def p8:cD (Γ.at TB false) "step_cost" bI (top 19):=stM λ_ _ _ _ _ _=>Hd.Se λ_ _ _ _=>rfl
noncomputable def Vp:d5:=⟨"step_cost","step_cost",bI,top 19,false⟩::TB
def gJ:cD (Γ.at Vp false) "open_spots_beside" bt (top 16):=stM λ_ _ _ _ _ _=>Hd.DD λ_ _=>rfl
noncomputable def TL:d5:=⟨"open_spots_beside","open_spots_beside",bt,top 16,false⟩::Vp
def nR:cD (Γ.at TL false) "steps_from" b9 (top 20):=stM λ_ _ _ _ _ _=>Hd.wY λ_ _ _=>rfl
noncomputable def S5:d5:=⟨"steps_from","steps_from",b9,top 20,false⟩::TL
def sZ:cD (Γ.at S5 false) "steps_to" dD (top 21):=stM λ_ _ _ _ _ _=>Hd.wY λ_ _ _=>rfl
noncomputable def Us:d5:=⟨"steps_to","steps_to",dD,top 21,false⟩::S5
def gz:cD (Γ.at Us true) "spread" bJ (top 23):=stM λ_ _ _ _ _ _=>Hd.DD λ_ _=>rfl
noncomputable def UP:d5:=⟨"spread@steps_to","spread",bJ,top 23,true⟩::Us
def ra:cD (Γ.at UP true) "spread_to" bH (top 25):=stM λ_ _ _ _ _ _=>Hd.wY λ_ _ _=>rfl
noncomputable def Vh:d5:=⟨"spread_to","spread_to",bH,top 25,true⟩::UP
def zJ:cD (Γ.at Vh false) "traced" fC (top 29):=stM λ_ _ _ _ _ _=>Hd.DD λ_ _=>rfl
noncomputable def S9:d5:=⟨"traced","traced",fC,top 29,false⟩::Vh
def qD:cD (Γ.at S9 false) "least_way" bP (top 30):=stM λ_ _ _ _ _ _=>Hd.Se λ_ _ _ _=>rfl
noncomputable def U2:d5:=⟨"least_way","least_way",bP,top 30,false⟩::S9
def kZ:cD (Γ.at U2 false) "rising_costs" bK (top 26):=stM λ_ _ _ _ _ _=>Hd.K9 λ_=>rfl
noncomputable def Tb:d5:=⟨"rising_costs","rising_costs",bK,top 26,false⟩::U2
def fJ:cD (Γ.at Tb true) "spread" bo (top 23):=stM λ_ _ _ _ _ _=>Hd.DD λ_ _=>rfl
noncomputable def Vd:d5:=⟨"spread@steps_from","spread",bo,top 23,true⟩::Tb
def mG:cD (Γ.at Vd true) "spread_from" bO (top 24):=stM λ_ _ _ _ _ _=>Hd.wY λ_ _ _=>rfl
noncomputable def Vj:d5:=⟨"spread_from","spread_from",bO,top 24,true⟩::Vd
def jd:cD (Γ.at Vj false) "distances_from" aX (top 27):=stM λ_ _ _ _ _ _=>Hd.wY λ_ _ _=>rfl
noncomputable def Uq:d5:=⟨"distances_from","distances_from",aX,top 27,false⟩::Vj
def kO:cD (Γ.at Uq false) "distances_to" bG (top 28):=stM λ_ _ _ _ _ _=>Hd.wY λ_ _ _=>rfl
noncomputable def UB:d5:=⟨"distances_to","distances_to",bG,top 28,false⟩::Uq
def nX:cD (Γ.at UB false) "_law_tried" aF (top 44):=stM λ_ _ _ _ _ _=>Hd.VZ λ_ _ _ _ _=>rfl
noncomputable def U0:d5:=⟨"_law_tried","_law_tried",aF,top 44,false⟩::UB
def qV:cD (Γ.at U0 false) "_law_cost" cb (top 37):=stM λ_ _ _ _ _ _=>Hd.Se λ_ _ _ _=>rfl
noncomputable def Tx:d5:=⟨"_law_cost","_law_cost",cb,top 37,false⟩::U0
def om:cD (Γ.at Tx false) "_law_steps" br (top 38):=stM λ_ _ _ _ _ _=>Hd.wY λ_ _ _=>rfl
noncomputable def Uh:d5:=⟨"_law_steps","_law_steps",br,top 38,false⟩::Tx
def oe:cD (Γ.at Uh false) "_law_costs" bY (top 39):=stM λ_ _ _ _ _ _=>Hd.wY λ_ _ _=>rfl
noncomputable def Tf:d5:=⟨"_law_costs","_law_costs",bY,top 39,false⟩::Uh
def tV:cD (Γ.at Tf false) "_law_sum" cO (top 41):=stM λ_ _ _ _ _ _=>Hd.wY λ_ _ _=>rfl
noncomputable def Uv:d5:=⟨"_law_sum","_law_sum",cO,top 41,false⟩::Tf
def jX:cD (Γ.at Uv false) "_law_costs_to" bw (top 40):=stM λ_ _ _ _ _ _=>Hd.wY λ_ _ _=>rfl
noncomputable def UN:d5:=⟨"_law_costs_to","_law_costs_to",bw,top 40,false⟩::Uv
def rf:cD (Γ.at UN false) "_law_once" cE (top 45):=stM λ_ _ _ _ _ _=>Hd.K9 λ_=>rfl
noncomputable def Ql:d5:=⟨"_law_once","_law_once",cE,top 45,false⟩::UN
def IU:cD (Γ.at Ql false) "law" oW (top 46):=stM λ_ _ _ _ _ _=>Hd.K9 λ_=>rfl
def j6(P:Params):f9 (K P) 163 159:=⟨Hd.co "spread" 386 63 2 158 (.ref 160) (.ref 161) 162 398,_,_,_,_,_,_,_,_,by kernel_rfl,rfl,rfl,rfl,rfl,rfl,rfl,rfl,rfl,by decide⟩
def i6(P:Params):f9 (K P) 177 173:=⟨Hd.co "spread_to" 412 79 3 172 (.ref 174) (.ref 175) 176 421,_,_,_,_,_,_,_,_,by kernel_rfl,rfl,rfl,rfl,rfl,rfl,rfl,rfl,rfl,by decide⟩
def g6(P:Params):f9 (K P) 170 166:=⟨Hd.co "spread_from" 401 76 3 165 (.ref 167) (.ref 168) 169 409,_,_,_,_,_,_,_,_,by kernel_rfl,rfl,rfl,rfl,rfl,rfl,rfl,rfl,rfl,by decide⟩
def Oc(ns:List Int)(hl:ns.length<=63):ax (den (tab Ql)) oW [.lst (ns.map .int)]=.ok (.bl true):=Ox ns hl
def SW(P:Params):AllK (K P) ts Γ Ql:=
 Hd.ac (Hd.ent 301 300 (.str "law_cellways_k10_whole_least" 468)) rf <| Hd.ac (Hd.ent 268 267 (.str "law_cellways_k10_whole_least" 468)) jX <| Hd.ac (Hd.ent 273 272 (.str "law_cellways_k10_whole_least" 468)) tV <| Hd.ac (Hd.ent 263 262 (.str "law_cellways_k10_whole_least" 468)) oe <| Hd.ac (Hd.ent 258 257 (.str "law_cellways_k10_whole_least" 468)) om <| Hd.ac (Hd.ent 251 250 (.str "law_cellways_k10_whole_least" 468)) qV <| Hd.ac (Hd.ent 294 293 (.str "law_cellways_k10_whole_least" 468)) nX <| Hd.ac (Hd.ent 197 196 (.str "cellways.ways" 384)) kO <| Hd.ac (Hd.ent 190 189 (.str "cellways.ways" 384)) jd <| Hd.ac (Hd.Gh 171 170 166 (.str "cellways.ways" 384) (g6 P) (by decide+kernel) (by decide+kernel)) mG <| Hd.ac (Hd.Gh 164 163 159 (.str "cellways.ways" 384) (j6 P) (by decide+kernel) (by decide+kernel)) fJ <| Hd.ac (Hd.ent 183 182 (.str "cellways.ways" 384)) kZ <| Hd.ac (Hd.ent 211 210 (.str "cellways.ways" 384)) qD <| Hd.ac (Hd.ent 204 203 (.str "cellways.ways" 384)) zJ <| Hd.ac (Hd.Gh 178 177 173 (.str "cellways.ways" 384) (i6 P) (by decide+kernel) (by decide+kernel)) ra <| Hd.ac (Hd.Gh 164 163 159 (.str "cellways.ways" 384) (j6 P) (by decide+kernel) (by decide+kernel)) gz <| Hd.ac (Hd.ent 157 156 (.str "cellways.floors" 271)) sZ <| Hd.ac (Hd.ent 152 151 (.str "cellways.floors" 271)) nR <| Hd.ac (Hd.ent 124 123 (.str "cellways.floors" 271)) gJ <| Hd.ac (Hd.ent 145 144 (.str "cellways.floors" 271)) p8 <| Hd.ac (Hd.ent 138 137 (.str "cellways.floors" 271)) ir <| Hd.ac (Hd.ent 117 116 (.str "cellways.floors" 271)) q9 <| Hd.ac (Hd.ent 131 130 (.str "cellways.floors" 271)) nY <| Hd.ac (Hd.ent 110 109 (.str "cellways.floors" 271)) qd <| Hd.ac (Hd.ent 103 102 (.str "cellways.floors" 271)) v8 <| Hd.ac (Hd.ent 96 95 (.str "cellways.floors" 271)) mi <| Hd.ac (Hd.ent 89 88 (.str "cellways.floors" 271)) uS <| Hd.ac (Hd.ent 82 81 (.str "cellways.floors" 271)) rZ <| Hd.ac (Hd.ent 280 279 (.str "law_cellways_k10_whole_least" 468)) rD <| Hd.ac (Hd.ent 287 286 (.str "law_cellways_k10_whole_least" 468)) j3 <| Hd.ac (Hd.ent 244 243 (.str "law_cellways_k10_whole_least" 468)) nW <| Hd.ac (Hd.ent 239 238 (.str "law_cellways_k10_whole_least" 468)) mV <| Hd.ac (Hd.ent 232 231 (.str "law_cellways_k10_whole_least" 468)) n5 <| Hd.ac (Hd.ent 225 224 (.str "law_cellways_k10_whole_least" 468)) rK <| Hd.ac (Hd.ent 218 217 (.str "law_cellways_k10_whole_least" 468)) qa trivial
structure Oo(K:zz8)(d:Str)(D:Addr):Prop where
 e:PySem.W.nsIn K mainGlobals d=some (some (.ref D))
 xc:ng K D
 vt:PySem.W.kitOne K (.ref D) (.type "ValueError")=some true
 ex:PySem.W.excIn K D BD "ValueError.__new__"=true
def Q0{K:zz8}{d:Str}{D:Addr}(e:PySem.W.nsIn K mainGlobals d=some (some (.ref D)):=by kernel_rfl)(i:PySem.W.isClsIn K D=true:=by kernel_rfl)(v:PySem.W.subIn K (.ref D) (.type "ValueError")=some true:=by kernel_rfl)(ga:PySem.W.findIn K (.ref D) "__getattribute__"=some (some (.builtin "BaseException.__getattribute__")):=by kernel_rfl)(hk:PySem.W.findIn K (.ref D) "__getattr__"=some none:=by kernel_rfl)
 (cl:PySem.W.findIn K (.ref D) "__class__"=some (some (.builtin "object.__class__")):=by kernel_rfl) (mo:PySem.W.mroIn K D (.type "object")=some true:=by kernel_rfl) (mb:PySem.W.mroIn K D (.type "BaseException")=some true:=by kernel_rfl) (ex:PySem.W.excIn K D BD "ValueError.__new__"=true:=by kernel_rfl):Oo K d D:=
 ⟨e,⟨ga,hk,cl,mo,mb,i⟩,Dq (by decide+kernel) v,ex⟩
def Sb(P:Params){mg:Str->Option Value}{h:Heap}(X:(K P).In h)(G:h.Ns mainGlobals mg):uR (K P) mg Γ ⟨K P,mg,["NoSpot"],ts⟩:=by
 have rL:∀{x:Str} {u:Value},PySem.W.nsIn (K P) mainGlobals x=some (some u)->mg x=some u:=λa=>PySem.W.mg_of X G a
 have vV:∀{x:Str},PySem.W.nsIn (K P) mainGlobals x=some none->mg x=none:=λa=>PySem.W.mg_none_of X G a
 have dM:Oo (K P) "NoSpot" 37:=Q0
 have fO:PySem.W.nsIn (K P) mainGlobals "FloorError"=some (some (.ref 24)):=by kernel_rfl
 have sy:PySem.W.nsIn (K P) mainGlobals "NoSign"=some (some (.ref 61)):=by kernel_rfl
 have uB:PySem.W.nsIn (K P) mainGlobals "NoSize"=some (some (.ref 73)):=by kernel_rfl
 have wa:PySem.W.nsIn (K P) mainGlobals "NoWay"=some (some (.ref 49)):=by kernel_rfl
 refine⟨rfl,rfl,λq hq=>?_,λg hg=>?_,by decide+kernel,λc hc=>?_,λd hd D hD=>?_,λc hc=>?_,λc hc=>?_,λ_ c D hc hD T hT=>?_,λ_=>⟨4,⟨.type "module",some builtinsNs,.plain,#[]⟩,rL (by kernel_rfl),by decide,by decide,by kernel_rfl,rfl,rfl,rfl⟩⟩
 ·simp! [Γ,zzm,List.not_mem_nil,or_false] at hq;rcases hq with rfl|rfl|rfl
  ·exact⟨.str "#" 273,.str "#",rL (by kernel_rfl),⟨_,rfl⟩,λG=>.s⟩
  ·exact⟨.int 2 275,.int 2,rL (by kernel_rfl),⟨_,rfl⟩,λG=>.i⟩
  ·exact⟨.int 3 277,.int 3,rL (by kernel_rfl),⟨_,rfl⟩,λG=>.i⟩
 ·simp! [Γ,zzm,List.not_mem_nil,or_false] at hg;rcases hg with rfl|rfl|rfl|rfl|rfl|rfl|rfl|rfl|rfl|rfl|rfl|rfl|rfl|rfl|rfl
  ·exact vV (by kernel_rfl)
  ·exact vV (by kernel_rfl)
  ·exact vV (by kernel_rfl)
  ·exact vV (by kernel_rfl)
  ·exact vV (by kernel_rfl)
  ·exact vV (by kernel_rfl)
  ·exact vV (by kernel_rfl)
  ·exact vV (by kernel_rfl)
  ·exact vV (by kernel_rfl)
  ·exact vV (by kernel_rfl)
  ·exact vV (by kernel_rfl)
  ·exact vV (by kernel_rfl)
  ·exact vV (by kernel_rfl)
  ·exact vV (by kernel_rfl)
  ·exact vV (by kernel_rfl)
 ·simp! [Γ,zzm,List.not_mem_nil,or_false] at hc;rcases hc with rfl|rfl|rfl|rfl|rfl
  ·exact⟨_,rL fO⟩
  ·exact⟨_,rL sy⟩
  ·exact⟨_,rL uB⟩
  ·exact⟨_,rL dM.e⟩
  ·exact⟨_,rL wa⟩
 ·simp! [zzm,List.not_mem_nil,or_false] at hd;rcases hd with rfl
  ·cases(rL dM.e).symm.trans hD;refine⟨dM.xc,λc hc C hC=>?_,dM.vt⟩
   simp! [Γ,zzm,List.not_mem_nil,or_false] at hc;rcases hc with rfl|rfl|rfl|rfl|rfl
   ·cases(rL fO).symm.trans hC;exact gK (by kernel_rfl) (by kernel_rfl) (by kernel_rfl) (.inl rfl)
   ·cases(rL sy).symm.trans hC;exact gK (by kernel_rfl) (by kernel_rfl) (by kernel_rfl) (.inr (by decide))
   ·cases(rL uB).symm.trans hC;exact gK (by kernel_rfl) (by kernel_rfl) (by kernel_rfl) (.inr (by decide))
   ·cases(rL dM.e).symm.trans hC;exact gK (by kernel_rfl) (by kernel_rfl) (by kernel_rfl) (.inl rfl)
   ·cases(rL wa).symm.trans hC;exact gK (by kernel_rfl) (by kernel_rfl) (by kernel_rfl) (.inr (by decide))
 ·simp! [Γ,zzn,zzm,List.not_mem_nil,or_false] at hc⊢;exact hc
 ·simp! [Γ,zzn,zzm,List.not_mem_nil,or_false] at hc;rcases hc with rfl
  ·exact⟨_,rL dM.e,dM.ex⟩
 ·simp! [zzm,List.not_mem_nil,or_false] at hc;cases(rL fO).symm.trans hT;rcases hc with rfl
  ·cases(rL dM.e).symm.trans hD;exact Au (by kernel_rfl) (by kernel_rfl) (by kernel_rfl) (by kernel_rfl)
def hY{P:Params}{h:Heap}(X:(K2 P).In h):(K P).In h/\∀p∈ts.map (·.1),h.get? p=some (PySem.W.tabObj #[]):=⟨λb o e=>X b o (Hd.B4 e),λp hp=>by
 simp! [ts,zzF,List.map_nil,zzm,List.not_mem_nil,or_false] at hp;rcases hp with rfl|rfl|rfl
 ·exact X _ _ (by kernel_rfl)
 ·exact X _ _ (by kernel_rfl)
 ·exact X _ _ (by kernel_rfl)
⟩
def hC(P:Params):∀p∈ts.map (·.1),(∃c,f9 (K P) c p)/\(K P).lookup p=none:=λp hp=>by
 simp! [ts,zzF,List.map_nil,zzm,List.not_mem_nil,or_false] at hp;rcases hp with rfl|rfl|rfl
 ·exact⟨⟨_,j6 P⟩,by kernel_rfl⟩
 ·exact⟨⟨_,i6 P⟩,by kernel_rfl⟩
 ·exact⟨⟨_,g6 P⟩,by kernel_rfl⟩
def keep:List Nat:=[1,2,3,4,5,7,8,9,10,11,12,13,14,15,16,17,18,19,20,21,23,24,25,26,27,28,29,30,32,33,34,35,36,37,38,39,40,41,42,43,44,45,46]
def ka:∀P,as=(K2 P).map (·.1):=λ_=>by kernel_rfl
def left:PySem.W.LeftO lw.row.prog (PySem.W.view lw.row.prog keep) [] (λs=>PySem.W.xlAt (PySem.W.view lw.row.prog keep) [] s&&PySem.W.recOk lw.row.toRowW.records s) (PySem.W.kHook K2 as ka).obs (PySem.W.kHook K2 as ka).val 4510:=by
 refine Hd.Hl (T₀:=λP=>Hd.treeOf (PySem.W.boot_heap P).objs.toList) (m₀:=11) (life:={}) (ann:=some (.ref 6)) (M:=4460) (by kernel_rfl) (by kernel_rfl) (λs=>by kernel_rfl) Hd.OP Hd.OR (by kernel_rfl) λw os=>?_
 rw [PySem.W.Fast.te10156331382660048174,PySem.W.Fast.te11892475500146522536,PySem.W.Fast.te14364793385576792824,PySem.W.Fast.te6613529449190102663,PySem.W.Fast.te4187177175401517315,PySem.W.Fast.te5923862056798008813]
 kernel_rfl
end K10
open PySem PySem.W PyProof.Rows
set_option maxRecDepth 100000 in
set_option maxHeartbeats 0 in
theorem PySem.Challenge.cw_cellways_k10_whole_least_holds : PySem.Challenge.rw_cellways_k10_whole_least.Holds := by
 refine Hd.holds (d:=⟨"law",L2.dv (K10.top 46),L2.cV (K10.top 46),L2.aY (K10.top 46),Hd.Sn (K10.top 46)⟩) (by kernel_rfl) K10.ka K10.left (by kernel_rfl) (by kernel_rfl) (by kernel_rfl) (by kernel_rfl) ⟨rfl,rfl,rfl,rfl,rfl,by decide+kernel⟩ ?hw ?hc
 case hw=>w_witness2
 case hc=>exact Ci.walk (l:=PySem.Challenge.rw_cellways_k10_whole_least) K10.Ql K10.Γ "_law_script" K10.oW ["NoSpot"] K10.ts (K10.top 46) rfl rfl rfl rfl rfl ⟨rfl,by decide,by decide⟩ (λw h Y=>K10.hY (PySem.W.kIn_of Y)) (λw=>K10.hC w.params) (λw mg h KX G=>K10.Sb _ KX G) (λw=>Hd.ent 306 305 (.str "law_cellways_k10_whole_least" 468)) K10.IU (λw=>K10.SW _) K10.Oc
#print axioms PySem.Challenge.cw_cellways_k10_whole_least_holds
