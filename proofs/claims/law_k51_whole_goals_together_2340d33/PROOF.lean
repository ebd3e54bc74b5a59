import PyProof.Rows.All
import Wide.All
import OpenK.AllK
import Wide.FinOn
import Lean
import PyProof.EqAt
import PyProof.EqKinds
import PyProof.TupleCall
import PySem.Challenge.RW_cellways_k51_whole_goals_together
set_option Elab.async false
set_option linter.all false
set_option genSizeOf false
set_option genSizeOfSpec false
set_option bootstrap.genMatcherCode false
set_option compiler.extract_closed false
set_option compiler.reuse false
set_option maxRecDepth 100000
abbrev zz8:=PySem.W.Frag
local macro_rules | `(zz9 $x) => `(($x).heap.objs.size)
local macro_rules | `(tactic| simp! [$x,*] $[$l:location]?) => `(tactic| simp only [$x,*] $[$l]?)
theorem zzf:¬false=true:=Bool.false_ne_true
theorem zza(a b:Bool):((a&&b)=true)=(a=true/\b=true):=Bool.and_eq_true a b
theorem zzg.{u}{α:Type u}{l:List α}{i:Nat}(h:i<l.length):l[i]?=some l[i]:=List.getElem?_eq_getElem h
theorem zzl.{u,v}{α:Type u}{β:Type v}{l:List α}(f:α->β):(l.map f).length=l.length:=List.length_map f
def zzA:=@PySem.wpAny_bind
def zzB:=@PySem.Heap.get?_push_of_some
def zzC:=@List.size_toArray
def zzD:=@List.mem_of_getElem?
def zzE:=@Nat.le_refl
def zzF:=@List.map_cons
def zzG:=@PySem.wpAny_pure
def zzH:=@List.getElem?_eq_some_iff
def zzI:=@List.mem_cons_of_mem
def zzJ:=@Option.map_eq_some_iff
def zzK:=@List.getD_eq_getElem?_getD
def zzL:=@List.length_cons
def zzM:=@List.length_append
def zzN:=@decide_eq_true_eq
def zzO:=@PySem.Heap.lt_size
def zzP:=@List.mem_cons_self
def zzQ:=@List.getElem?_map
def zzR:=@List.mem_append_right
def zzS:=@List.getElem?_set_ne
def zzT:=@List.all_eq_true
def zzU:=@Nat.le_trans
def zzV:=@Nat.lt_of_le_of_lt
def zzW:=@Nat.lt_of_lt_of_le
def zzX:=@PySem.Heap.get?_push_size
def zzY:=@of_decide_eq_true
def zzZ:=@Option.bind_eq_some_iff
def zzb:=@Nat.ne_of_lt
def zzc:=@List.mem_append_left
def zzd:=@Array.length_toList
def zze:=@Bool.false_eq_true
def zzh:=@decide_eq_true
def zzi:=@List.mem_singleton
def zzj:=@List.any_eq_true
def zzk:=@False.elim
def zzm:=@List.mem_cons
def zzn:=@List.contains_iff_mem
def zzo:=@List.getElem?_set_self
def zzp:=@Option.isSome_iff_exists
def zzq:=@Option.some.inj
def zzr:=@List.getElem?_append_left
def zzs:=@List.getElem?_append_right
def zzt:=@Bool.or_eq_true
def zzu:=@PySem.Heap.SameBut.update
def zzw:=@Int.eq_ofNat_of_zero_le
def zzx:=@List.mem_map
def zzy:=@beq_iff_eq
def zz0:=@decide_eq_false
def zz1:=@List.mem_filterMap
def zz2:=@Array.getElem?_eq_getElem
def zz3:=@List.filter_cons
def zz4:=@Int.toNat_natCast
def zz5:=@List.lookup_cons
def zz6:=@List.append_nil
def zz7:=@PySem.Around.under_plainId
namespace L2
open PySem PySem.Spec PyProof.Rows
abbrev Key:=Sum Int Str
noncomputable def oD:Key->Value->Bool
 |.inl k,v=>Value.isInt k v
 |.inr x,v=>Value.isStrOf x v
noncomputable def OS(w:World):Key->Int
 |.inl k=>hashInt k
 |.inr x=>hashStr w x
theorem bL:∀{k:Key} {v:Value},oD k v=true->(∃i t,k=Sum.inl i/\v=Value.int i t)\/(∃x t,k=Sum.inr x/\v=Value.str x t)
 |.inl i,v,h=>by
  obtain⟨t,e⟩:=Value.isInt_shape (k:=i) (v:=v) h
  exact .inl ⟨i,t,rfl,e⟩
 |.inr x,v,h=>by
  obtain⟨t,e⟩:=Value.isStrOf_shape (x:=x) (v:=v) h
  exact .inr ⟨x,t,rfl,e⟩
def yr(i:Int)(t:Tok):oD (.inl i) (.int i t)=true:=by simp [oD,Value.isInt]
def yb(x:Str)(t:Tok):oD (.inr x) (.str x t)=true:=by simp [oD,Value.isStrOf]
def HE(a b:Int):decide ((Sum.inl a:Key)=Sum.inl b)=(a==b):=by
 by_cases e:a=b
 ·subst e;simp
 ·have h:¬(Sum.inl a:Key)=Sum.inl b:=λq=>e (Sum.inl.inj q)
  rw [zz0 h];exact(beq_eq_false_iff_ne.mpr e).symm
def HG(a b:Str):decide ((Sum.inr a:Key)=Sum.inr b)=decide (a=b):=by
 by_cases e:a=b
 ·subst e;simp
 ·have h:¬(Sum.inr a:Key)=Sum.inr b:=λq=>e (Sum.inr.inj q)
  rw [zz0 h,zz0 e]
def Jr(a:Int)(b:Str):decide ((Sum.inl a:Key)=Sum.inr b)=false:=zz0 (λq=>nomatch q)
def Hv(a:Str)(b:Int):decide ((Sum.inr a:Key)=Sum.inl b)=false:=zz0 (λq=>nomatch q)
noncomputable def aF(prog:Program)(w:World):PySem.KeyKind prog w Key where
 is:=oD
 hash:=OS w
 inj:=λv a b ha hb=>by
  rcases bL ha with⟨i,t,rfl,rfl⟩|⟨x,t,rfl,rfl⟩
  ·rcases bL hb with⟨j,u,rfl,e⟩|⟨y,u,rfl,e⟩
   ·injection e with e1 _;rw [e1]
   ·exact nomatch e
  ·rcases bL hb with⟨j,u,rfl,e⟩|⟨y,u,rfl,e⟩
   ·exact nomatch e
   ·injection e with e1 _;rw [e1]
 byValue:=λk v h=>by
  rcases bL h with⟨i,t,rfl,rfl⟩|⟨x,t,rfl,rfl⟩<;>rfl
 pyHash:=λhv h=>by
  rcases bL hv with⟨i,t,rfl,rfl⟩|⟨x,t,rfl,rfl⟩
  ·exact wpAny_pyHash_int h
  ·exact wpAny_pyHash_str h
 eqBool:=λhu hv h=>by
  rcases bL hu with⟨i,t,rfl,rfl⟩|⟨x,t,rfl,rfl⟩
  ·rcases bL hv with⟨j,u,rfl,rfl⟩|⟨y,u,rfl,rfl⟩
   ·rw [HE] at h;exact wpAny_eqBool_int h
   ·rw [Jr] at h;exact SeqAt.EqAt.int_str i t y u _ _ _ _ h
  ·rcases bL hv with⟨j,u,rfl,rfl⟩|⟨y,u,rfl,rfl⟩
   ·rw [Hv] at h;exact SeqAt.EqAt.str_int x t j u _ _ _ _ h
   ·rw [HG] at h;exact wpAny_eqBool_str h
 «strs»:=λk x t v h=>by
  rcases bL h with⟨i,u,rfl,e⟩|⟨y,u,rfl,e⟩
  ·exact nomatch e
  ·injection e with e1 _
   subst e1;cases v<;>rfl
def sD(prog:Program)(w:World)(i:Int)(t:Tok):(aF prog w).is (.inl i) (.int i t)=true:=yr i t
def qR(prog:Program)(w:World)(x:Str)(t:Tok):(aF prog w).is (.inr x) (.str x t)=true:=yb x t
inductive V where
 |aH|bl (b:Bool)|int (i:Int)|str (x:Str)|QA (b:Array UInt8)|P6 (b:UInt64)|ref (a:Addr)|ty (n:String)
 deriving DecidableEq
def RelV:V->Value->Prop
 |.aH,u=>u=Value.none
 |.bl b,u=>u=Value.bool b
 |.int i,u=>∃t,u=Value.int i t
 |.str x,u=>∃t,u=Value.str x t
 |.QA b,u=>∃t,u=Value.bytes b t
 |.P6 b,u=>∃t,u=Value.float b t
 |.ref a,u=>u=Value.ref a
 |.ty n,u=>u=Value.type n
abbrev Vals:List V->List Value->Prop:=Paired RelV
def Vals.length{xs:List V}{us:List Value}(r:Vals xs us):xs.length=us.length:=Paired.length r
theorem Vals.get:∀{xs:List V} {us:List Value} {i:Nat} {x:V},Vals xs us->xs[i]?=some x->∃u,us[i]?=some u/\RelV x u
 |_,_,_,_,.nil,e=>by simp at e
 |_,_,0,_,.cons r _,e=>by simp at e;subst e;exact⟨_,rfl,r⟩
 |_,_,i+1,x,.cons _ t,e=>by
  obtain⟨u,h1,h2⟩:=Vals.get (i:=i) (x:=x) t (by simpa using e)
  exact⟨u,by simpa using h1,h2⟩
theorem Vals.append:∀{xs ys:List V} {us ws:List Value},Vals xs us->Vals ys ws->Vals (xs++ys) (us++ws)
 |_,_,_,_,.nil,s=>s
 |_,_,_,_,.cons r t,s=>.cons r (Vals.append t s)
theorem Vals.take:∀{xs:List V} {us:List Value} (n:Nat),Vals xs us->Vals (xs.take n) (us.take n)
 |_,_,0,_=>.nil
 |_,_,_+1,.nil=>.nil
 |_,_,n+1,.cons r t=>.cons r (Vals.take n t)
theorem Vals.drop:∀{xs:List V} {us:List Value} (n:Nat),Vals xs us->Vals (xs.drop n) (us.drop n)
 |_,_,0,r=>r
 |_,_,_+1,.nil=>.nil
 |_,_,n+1,.cons _ t=>Vals.drop n t
def km:Option V->Option Value->Prop
 |some v,some u=>RelV v u
 |none,none=>True
 |_,_=>False
def KV{κ:Type}:List (κ×V)->List (κ×Value)->Prop:=Paired λ(p:κ×V) (q:κ×Value)=>p.1=q.1/\RelV p.2 q.2
noncomputable def kV:Key->V
 |.inl i=>.int i
 |.inr x=>.str x
inductive HO where
 |lst (xs:List V)
 |tup (xs:List V)
 |dK (au:List (Key×V))|dT (au:List (List Key×V))
 |set (S:Int->Bool) (n:Nat)
 |ins (C dx:Addr) (fs:List (Str×V))
 |own (x:Addr)
 |xd (fs:List (Str×V))
 |met (f x:Addr)
 |pH (lo hi:Int)
 |bz (o:Obj) (u:HO)
 |fT (ps:Array Value)
 |ext (φ:Heap->Prop)
abbrev Hp:=Addr->Option HO
noncomputable def upd(H:Hp)(a:Addr)(o:HO):Hp:=λb=>if b=a then some o else H b
def aq{H:Hp}{a:Addr}{o:HO}:upd H a o a=some o:=by unfold upd;rw [if_pos rfl]
def af{H:Hp}{a b:Addr}{o:HO}(h:b≠a):upd H a o b=H b:=by unfold upd;rw [if_neg h]
def fc{H:Hp}{a b:Addr}{o u:HO}(h:H a=some o)(h':H b=some u)(d:o≠u):a≠b:=by
 intro e;subst e;rw [h] at h';exact d (zzq h')
def c8{H:Hp}{a b:Addr}{o:HO}(h:H a=some o)(h':H b=none):a≠b:=by
 intro e;subst e;rw [h] at h';cases h'
section
variable(P:Program)(w:World)
def bO(H:Hp)(h:Heap)(a:Addr):HO->Prop
 |.lst xs=>xs.length<=sizeLine/\∃(ax:List Value) (n:Nat),Vals xs ax/\h.get? a=some {cls:=.type "list",data:=.seq ax.toArray n}
 |.tup xs=>xs.length<=sizeLine/\∃ax:List Value,Vals xs ax/\IsTup h a ax.toArray
 |.dK au=>au.length<=sizeLine/\(a==sysModules)=false/\∃vs,KV au vs/\h.DictOf (aF P w) a vs
 |.dT au=>au.length<=sizeLine/\(a==sysModules)=false/\∃xs:List (List Key×Addr×Value),
  Paired (λ(p:List Key×V) (q:List Key×Addr×Value)=>p.1=q.1/\H q.2.1=some (.tup (p.1.map kV))/\RelV p.2 q.2.2) au xs/\
  ∃o es ep,h.get? a=some o/\o.ExactDict/\o.data=.dict es ep/\es.toList=xs.map (entryOfKey (tupleKind (aF P w)))/\(xs.map (·.1)).Nodup
 |.set S n=>h.SetOf (intKind P w) a S n
 |.ins C dx fs=>H dx=some (.own a)/\fs.length<=1000/\dx≠a/\h.get? a=some (PySem.W.instObj C dx)/\
  ∃mA,h.Ns1 dx mA/\(∀f,km (fs.lookup f) (mA f))/\PySem.Within mA (fs.map (·.1))
 |.own _=>∃o,h.get? a=some o
 |.xd fs=>∃mA,h.Ns1 a mA/\∀f,km (fs.lookup f) (mA f)
 |.pH lo hi=>∃t u v,h.get? a=some {cls:=.type "range",data:=.fields #[.int lo t,.int hi u,.int 1 v]}
 |.bz o u=>h.get? a=some o/\bO H h a u
 |.fT ps=>h.get? a=some {cls:=.none,data:=.fields ps}
 |.met f x=>h.get? a=some (PySem.W.methodObj (.ref f) (.ref x))
 |.ext φ=>φ h/\(∃o,h.get? a=some o)/\∀h1 h2:Heap,φ h1->(∀o,h1.get? a=some o->h2.get? a=some o)->φ h2
def d6(H:Hp)(h:Heap):Prop:=∀a o,H a=some o->bO P w H h a o
end
section
variable{P:Program}{w:World}{H H':Hp}{h h':Heap}{a:Addr}{o:HO}
def bO.lt(x:bO P w H h a o):a<h.objs.size:=by
 cases o with
 |lst xs=>obtain⟨_,_,_,_,e⟩:=x;exact zzO e
 |tup xs=>obtain⟨_,_,_,p⟩:=x;exact p.lt
 |dK au=>obtain⟨_,_,_,_,o,_,_,e,_⟩:=x;exact zzO e
 |dT au=>obtain⟨_,_,_,_,o,_,_,e,_⟩:=x;exact zzO e
 |set S n=>obtain⟨o,_,_,_,e,_⟩:=x;exact zzO e
 |ins C dx fs=>obtain⟨_,_,_,e,_⟩:=x;exact zzO e
 |own y=>obtain⟨_,e⟩:=x;exact zzO e
 |xd fs=>obtain⟨_,⟨_,_,_,e,_⟩,_⟩:=x;exact zzO e
 |pH lo hi=>obtain⟨_,_,_,e⟩:=x;exact zzO e
 |bz ob u=>obtain⟨e,_⟩:=x;exact zzO e
 |fT ps=>exact zzO (show h.get? a=some _ from x)
 |met f y=>exact zzO (show h.get? a=some _ from x)
 |ext φ=>obtain⟨_,⟨_,e⟩,_⟩:=x;exact zzO e
theorem Paired.uv{α β:Type}{F G:α->β->Prop}:∀{l₁:List α} {l₂:List β},Paired F l₁ l₂->(∀a b,F a b->G a b)->Paired G l₁ l₂
 |_,_,.nil,_=>.nil
 |_,_,.cons r t,f=>.cons (f _ _ r) (Paired.uv t f)
def bO.dZ(x:bO P w H h a o)(k:∀b u,(b=a\/H b=some (.own a))->h.get? b=some u->h'.get? b=some u)
 (ho:∀b,H b=some (.own a)->H' b=some (.own a)) (ht:∀b xs,H b=some (.tup xs)->H' b=some (.tup xs)):bO P w H' h' a o:=by
 induction o with
 |lst xs=>obtain⟨z,ax,n,r,e⟩:=x;exact⟨z,ax,n,r,k _ _ (.inl rfl) e⟩
 |tup xs=>obtain⟨z,ax,r,ob,e,c⟩:=x;exact⟨z,ax,r,ob,k _ _ (.inl rfl) e,c⟩
 |dK au=>obtain⟨z,y,vs,r,ob,es,ep,e,c⟩:=x;exact⟨z,y,vs,r,ob,es,ep,k _ _ (.inl rfl) e,c⟩
 |dT au=>
  obtain⟨z,y,xs,r,ob,es,ep,e,c⟩:=x
  exact⟨z,y,xs,Paired.uv r λp q z=>⟨z.1,ht _ _ z.2.1,z.2.2⟩,ob,es,ep,k _ _ (.inl rfl) e,c⟩
 |set S n=>obtain⟨ob,es,ep,t,e,c⟩:=x;exact⟨ob,es,ep,t,k _ _ (.inl rfl) e,c⟩
 |ins C dx fs=>
  obtain⟨d,z,ne,e,mA,⟨od,es,ep,e2,c⟩,r⟩:=x
  exact⟨ho _ d,z,ne,k _ _ (.inl rfl) e,mA,⟨od,es,ep,k _ _ (.inr d) e2,c⟩,r⟩
 |own y=>obtain⟨ob,e⟩:=x;exact⟨ob,k _ _ (.inl rfl) e⟩
 |xd fs=>obtain⟨mA,⟨od,es,ep,e,c⟩,r⟩:=x;exact⟨mA,⟨od,es,ep,k _ _ (.inl rfl) e,c⟩,r⟩
 |pH lo hi=>obtain⟨t,u,v,e⟩:=x;exact⟨t,u,v,k _ _ (.inl rfl) e⟩
 |bz ob u ih=>obtain⟨e,q⟩:=x;exact⟨k _ _ (.inl rfl) e,ih q⟩
 |fT ps=>
  have e:h.get? a=some {cls:=.none,data:=.fields ps}:=x
  show h'.get? a=some {cls:=.none,data:=.fields ps}
  exact k a _ (.inl rfl) e
 |met f y=>
  have e:h.get? a=some (PySem.W.methodObj (.ref f) (.ref y)):=x
  show h'.get? a=some (PySem.W.methodObj (.ref f) (.ref y))
  exact k a _ (.inl rfl) e
 |ext φ=>obtain⟨p,⟨o,e⟩,st⟩:=x;exact⟨st _ _ p λo q=>k _ _ (.inl rfl) q,⟨o,k _ _ (.inl rfl) e⟩,st⟩
def d6.lt(x:d6 P w H h)(e:H a=some o):a<h.objs.size:=(x a o e).lt
def d6.fresh(x:d6 P w H h)(e:h.objs.size<=a):H a=none:=by
 cases q:H a with
 |none=>rfl
 |some u=>exact absurd (zzW (x.lt q) e) (Nat.lt_irrefl _)
def d6.kept(x:d6 P w H h)(k:∀b u,h.get? b=some u->h'.get? b=some u):d6 P w H h':=λa o e=>
 (x a o e).dZ (λb u _ q=>k b u q) (λ_ q=>q) λ_ _ q=>q
theorem d6.laid(x:d6 P w H h)(k:∀b u,h.get? b=some u->h'.get? b=some u)(hp:h.objs.size<=a)(new:bO P w (upd H a o) h' a o):d6 P w (upd H a o) h':=λb u e=>by
 have hn:=x.fresh hp
 by_cases hb:b=a
 ·subst hb;rw [aq] at e;cases e;exact new
 ·rw [af hb] at e;exact(x b u e).dZ (λc v _ q=>k c v q) (λc q=>by rw [af (c8 q hn)];exact q) λc xs q=>by rw [af (c8 q hn)];exact q
end
def Rd(H:Hp)(a:Addr)(u:HO):Prop:=H a=some u\/∃o,H a=some (.bz o u)
def Rd.ok{P:Program}{w:World}{H:Hp}{h:Heap}{a:Addr}{u:HO}(r:Rd H a u)(x:d6 P w H h):bO P w H h a u:=by
 rcases r with r|⟨o,r⟩
 ·exact x a u r
 ·obtain⟨_,q⟩:=x a _ r
  exact q
def K6:Option HO->Prop
 |some (.lst _)=>True
 |some (.dK _)=>True
 |some (.dT _)=>True
 |some (.set _ _)=>True
 |some (.ins _ _ _)=>True
 |some (.ext _)=>True
 |_=>False
section
variable{P:Program}{w:World}{H:Hp}{h h':Heap}{x e:Addr}{o':HO}
def d6.write(ok:d6 P w H h)(mu:K6 (H x))(he:e=x\/H e=some (.own x))(k:∀b u,b≠e->h.get? b=some u->h'.get? b=some u)(K3:∃u,h'.get? e=some u)
 (new:bO P w (upd H x o') h' x o'):d6 P w (upd H x o') h':=λb u q=>by
 have M7:∀c y,H c=some (.own y)->c≠x:=λc y r z=>by subst z;rw [r] at mu;exact mu
 have Qd:∀c xs,H c=some (.tup xs)->c≠x:=λc xs r z=>by subst z;rw [r] at mu;exact mu
 by_cases hb:b=x
 ·subst hb;rw [aq] at q;cases q;exact new
 ·rw [af hb] at q
  by_cases hbe:b=e
  ·have q':H b=some (.own x):=by
    rcases he with z|z
    ·exact absurd (hbe.trans z) hb
    ·rw [hbe];exact z
   rw [q] at q';cases q';obtain⟨v,hv⟩:=K3
   exact⟨v,by rw [hbe];exact hv⟩
  ·refine(ok b u q).dZ (λc v hc r=>k c v ?_ r) (λc r=>by rw [af (M7 c b r)];exact r) λc xs r=>by rw [af (Qd c xs r)];exact r
   rcases hc with rfl|hc
   ·exact hbe
   ·rintro rfl
    rcases he with z|z
    ·exact M7 c b hc z
    ·rw [hc] at z;cases z;exact hb rfl
end
structure Un(fs ex:List Addr)(H H':Hp)(h h':Heap):Prop where
 keep:∀b o,h.get? b=some o->H b=none->b∉fs->b∉ex->h'.get? b=some o
 slot:∀b o,h.get? b=some o->H b=none->b∈fs->b∉ex->∃sl,h'.get? b=some {o with slots:=sl}
 free:∀b o,h.get? b=some o->H b=none->b∉ex->H' b=none
 there:∀b o,h.get? b=some o->b∉ex->∃o',h'.get? b=some o'
 gU:∀b xs,H b=some (.tup xs)->H' b=some (.tup xs)
 fE:∀b o u,H b=some (.bz o u)->H' b=some (.bz o u)
 gj:∀b ps,H b=some (.fT ps)->∃more,H' b=some (.fT (ps++more))
section
variable{fs ex:List Addr}{H H1:Hp}{h h1 h':Heap}{a x e:Addr}{o:HO}
def Un.any(u:Un fs ex H H1 h h1){b:Addr}{ob:Obj}(q:h.get? b=some ob)(n:H b=none)(hx:b∉ex):∃sl,h1.get? b=some {ob with slots:=sl}:=by
 by_cases hb:b∈fs
 ·exact u.slot b ob q n hb hx
 ·exact⟨ob.slots,u.keep b ob q n hb hx⟩
def Un.kept(k:∀b u,h.get? b=some u->h'.get? b=some u):Un fs ex H H h h':=
 ⟨λb ob q _ _ _=>k b ob q,λb ob q _ _ _=>⟨ob.slots,k b ob q⟩,λ_ _ _ n _=>n,λb ob q _=>⟨ob,k b ob q⟩,λ_ _ q=>q,λ_ _ _ q=>q,λ_ ps q=>⟨#[],by rw [q];simp⟩⟩
def Un.refl:Un fs ex H H h h:=Un.kept λ_ _ q=>q
theorem Un.laid(k:∀b u,h.get? b=some u->h'.get? b=some u)(hp:h.objs.size<=a)(hn:H a=none):Un fs ex H (upd H a o) h h' where
 keep:=λb u q _ _ _=>k b u q
 slot:=λb u q _ _ _=>⟨u.slots,k b u q⟩
 free:=λb u q n _=>by rw [af (zzb (zzW (zzO q) hp))];exact n
 there:=λb u q _=>⟨u,k b u q⟩
 gU:=λb xs q=>by rw [af (c8 q hn)];exact q
 fE:=λb u xs q=>by rw [af (c8 q hn)];exact q
 gj:=λb ps q=>⟨#[],by rw [af (c8 q hn),q];simp⟩
def Un.write(mu:K6 (H x))(he:e=x\/H e=some (.own x))(k:∀b u,b≠e->h.get? b=some u->h'.get? b=some u)(K3:∃u,h'.get? e=some u):Un fs ex H (upd H x o) h h':=by
 have hx:∀b,H b=none->b≠x:=λb n z=>by subst z;rw [n] at mu;exact mu
 have hb:∀b,H b=none->b≠e:=λb n z=>by
  subst z;rcases he with r|r
  ·exact hx b n r
  ·rw [n] at r;cases r
 have hm:∀b u,H b=some u->¬K6 (some u)->b≠x:=λb u q nm z=>by subst z;rw [q] at mu;exact nm mu
 refine⟨λb u q n _ _=>k b u (hb b n) q,λb u q n _ _=>⟨u.slots,k b u (hb b n) q⟩,λb u q n _=>by rw [af (hx b n)];exact n,λb u q _=>?_,
  λb xs q=>by rw [af (hm b _ q λz=>z)];exact q,λb u xs q=>by rw [af (hm b _ q λz=>z)];exact q,λb ps q=>⟨#[],by rw [af (hm b _ q λz=>z),q];simp⟩⟩
 by_cases hbe:b=e
 ·subst hbe;exact K3
 ·exact⟨u,k b u hbe q⟩
end
noncomputable def NU(h:Heap)(H:Hp):List Addr:=(List.range h.objs.size).filter λa=>(H a).isSome
noncomputable def qb(h:Heap)(H:Hp):Heap:=PySem.W.hideAll h (NU h H)
def yJ(h:Heap)(H:Hp):(qb h H).objs.size=h.objs.size:=PySem.W.hideAll_size _ _
theorem Bd{h:Heap}{H:Hp}{b:Addr}{o:Obj}(e:h.get? b=some o)(n:H b=none):(qb h H).get? b=some o:=
 PySem.W.hideAll_get _ e λhm=>by
  have q:(H b).isSome=true:=(List.mem_filter.mp hm).2
  rw [n] at q;simp at q
def E6{h:Heap}{H:Hp}{b:Addr}{o:Obj}(e:(qb h H).get? b=some o):h.get? b=some o/\H b=none:=by
 have e':h.get? b=some o:=PySem.W.of_hideAll (NU h H) e
 refine⟨e',?_⟩;cases q:H b with
 |none=>rfl
 |some x=>
  have hm:b∈NU h H:=List.mem_filter.mpr ⟨List.mem_range.mpr (zzO e'),by simp [q]⟩
  have z:(qb h H).get? b=none:=PySem.W.hideAll_none (NU h H) hm
  rw [z] at e;cases e
noncomputable def DO(g h:Heap)(L:Addr):List (Addr×Obj):=(List.range h.objs.size).filterMap λa=>if a=L\/(g.get? a).isSome=true then none else(h.get? a).map λo=>(a,o)
noncomputable def rest(g h:Heap)(L d:Addr):List (Addr×Obj):=(DO g h L).filter λp=>decide (p.1≠d)
structure Mod(K:zz8)(mg:Str->Option Value)(base:Heap):Prop where
 Mg:K.In base
 glob:base.Ns mainGlobals mg
 blt:∃mb,base.Ns builtinsNs mb/\∀x:Str,x≠"__name__"->mb x=bootBuiltins x
 nolimit:base.NoLimit
structure Cx where
 prog:Program
 w:World
 K:zz8
 mg:Str->Option Value
 base:Heap
 A:Around
 N:List Str
 s₀:Shared
 H₀:Hp
 env:Env
 outer:List Env
 stack:List Env
 ex:List Addr
 fn:Str->Bool
 calm:Bool
 pn:List (Addr×Obj)
 xe:Value->Shared->Prop
noncomputable def eA(l:List Env):List Addr:=l.filterMap (·.frame)
noncomputable abbrev Cx.fs(X:Cx):List Addr:=eA X.outer
def Mt(sc:Scope)(x:Str):Prop:=sc.names.lookup x=some .local\/sc.names.lookup x=some .cell\/sc.names.lookup x=some .free
def Loc(sc:Scope)(x:Str):Prop:=sc.names.lookup x=some .local\/sc.names.lookup x=some .cell
def Look(env:Env)(h:Heap)(m:Str->Option Value)(x:Str)(u:Value):Prop:=
 (env.kindOf x=some .local/\m x=some u)\/((env.kindOf x=some .cell\/env.kindOf x=some .free)/\∃c,env.cells.lookup x=some c/\h.IsCell c (some u))
structure Cx.Ok(X:Cx):Prop where
 mod:Mod X.K X.mg X.base
 kind:X.env.scope.kind=.function
 glob:X.env.globals=mainGlobals
 blt:X.env.builtins=builtinsNs
 above:X.s₀.heap.objs.size<=X.env.locals
 inj:∀x y c,X.env.cells.lookup x=some c->X.env.cells.lookup y=some c->x=y
 has:∀x,(X.env.kindOf x=some .cell\/X.env.kindOf x=some .free)->∃c,X.env.cells.lookup x=some c
 KZ:∀x c,X.fn x=true->X.env.cells.lookup x=some c->X.s₀.heap.objs.size<=c
 hd:X.calm=true->X.A.handled=none
 frames:X.A.frames=some X.stack
 Lc:X.stack=X.outer\/(X.stack=X.env::X.outer/\X.env.frame=some X.env.locals)
 exf:∀b∈X.ex,b≠X.env.locals/\∀x c,X.env.cells.lookup x=some c->c≠b
 bs:∀b o,X.base.get? b=some o->X.s₀.heap.get? b=some o/\X.H₀ b=none
 xR:X.base.objs.size<=X.s₀.heap.objs.size
 DX:∀b o,X.base.get? b=some o->b∉X.ex
 GV:∀b∈X.ex,b∉X.fs
 gq:X.s₀.heap.FunFrames X.base X.outer
 ym:∀b∈X.fs,X.H₀ b=none
structure Inv(X:Cx)(aa:List (Addr×Obj))(σ:List (Option V))(H:Hp)(s:Shared):Prop where
 ok:X.Ok
 os:s.os=X.s₀.os
 bare:AllBare s.gens
 base:Un X.fs X.ex X.H₀ H X.s₀.heap s.heap
 loc:∃m,s.heap.Ns X.env.locals m/\∀(i:Nat) (x:Str) (v:V),X.N[i]?=some x->σ[i]?=some (some v)->Mt X.env.scope x->∃u,RelV v u/\Look X.env s.heap m x u
 cell:∀x c,X.env.cells.lookup x=some c->∃v,s.heap.IsCell c v
 free:H X.env.locals=none
 gY:∀x c,X.env.cells.lookup x=some c->H c=none
 pin:∀p∈X.pn++aa,s.heap.get? p.1=some p.2/\H p.1=none/\p.1≠X.env.locals/\p.1∉X.fs/\∀v,p.2.data≠.cell v
 aK:d6 X.prog X.w H s.heap
 len:σ.length=X.N.length
section
variable{X:Cx}{aa:List (Addr×Obj)}{σ:List (Option V)}{H H':Hp}{s:Shared}{h':Heap}
theorem Cx.Ok.QD(ok:X.Ok){b:Addr}{o:Obj}(e:X.base.get? b=some o):b∉X.fs:=λhb=>by
 have:=(ok.gq.mem hb).1
 rw [e] at this;cases this
def Inv.bs(I:Inv X aa σ H s):∀b o,X.base.get? b=some o->s.heap.get? b=some o/\H b=none:=λb o e=>
 ⟨I.base.keep b o (I.ok.bs b o e).1 (I.ok.bs b o e).2 (I.ok.QD e) (I.ok.DX b o e),I.base.free b o (I.ok.bs b o e).1 (I.ok.bs b o e).2 (I.ok.DX b o e)⟩
def Inv.bk(I:Inv X aa σ H s):∀b o,X.base.get? b=some o->s.heap.get? b=some o:=λb o e=>(I.bs b o e).1
def Inv.mod(I:Inv X aa σ H s):Mod X.K X.mg X.base:=I.ok.mod
def Inv.tj(I:Inv X aa σ H s):X.K.In s.heap:=I.ok.mod.Mg.keeps I.bk
theorem Inv.fr(I:Inv X aa σ H s):∃m,Fr X.base X.env.locals s.heap m:=
 let⟨m,hn,_⟩:=I.loc
 ⟨m,hn,I.bk,zzU I.ok.xR I.ok.above⟩
theorem Inv.lt(I:Inv X aa σ H s):X.env.locals<(zz9 s):=let⟨_,hn,_⟩:=I.loc;hn.lt
def Inv.sz(I:Inv X aa σ H s):X.s₀.heap.objs.size<=(zz9 s):=zzU I.ok.above (Nat.le_of_lt I.lt)
theorem Inv.PH(I:Inv X aa σ H s){a:Addr}(h:(zz9 s)<=a):a∉X.fs:=λhb=>by
 obtain⟨_,o,ho,_⟩:=I.ok.gq.mem hb
 exact absurd (zzW (zzO ho) (zzU I.sz h)) (Nat.lt_irrefl _)
theorem Inv.Fi(I:Inv X aa σ H s):∀x c,X.env.cells.lookup x=some c->c≠X.env.locals:=λx c e z=>by
 obtain⟨v,o,ho,hd⟩:=I.cell x c e
 obtain⟨m,⟨o',es,ep,iF,FZ,_⟩,_⟩:=I.loc
 rw [z,iF] at ho;cases ho;rw [FZ] at hd;cases hd
def Inv.gq(I:Inv X aa σ H s):s.heap.FunFrames X.base X.outer:=by
 have all:∀(l:List Env),(∀b∈eA l,b∈X.fs)->X.s₀.heap.FunFrames X.base l->s.heap.FunFrames X.base l:=by
  intro l
  induction l with
  |nil=>intro _ _;trivial
  |cons env r ih=>
   intro hs hl;obtain⟨hk,⟨L,o,hf,hn,ho,hd⟩,hr⟩:=hl
   have hL:L∈X.fs:=hs L (by unfold eA;rw [List.filterMap_cons,hf];exact zzP)
   obtain⟨sl,e⟩:=I.base.slot L o ho (I.ok.ym L hL) hL λz=>I.ok.GV L z hL
   exact⟨hk,⟨L,_,hf,hn,e,hd⟩,ih (λb hb=>hs b (by unfold eA;rw [List.filterMap_cons,hf];exact zzI _ hb)) hr⟩
 exact all X.outer (λ_ hb=>hb) I.ok.gq
def Inv.stack(I:Inv X aa σ H s):s.heap.FunFrames X.base X.stack:=by
 rcases I.ok.Lc with e|⟨e,hf⟩
 ·rw [e];exact I.gq
 ·rw [e];obtain⟨m,hn,_⟩:=I.loc
  refine .cons (by rw [I.ok.kind];decide) hf hn ?_ I.gq;exact Heap.get?_none_of_le (zzU I.ok.xR I.ok.above)
def Inv.ij(I:Inv X aa σ H s):∀b∈eA X.stack,b∈X.env.locals::X.fs:=λb hb=>by
 rcases I.ok.Lc with e|⟨e,hf⟩
 ·rw [e] at hb;exact zzI _ hb
 ·rw [e] at hb;unfold eA at hb;rw [List.filterMap_cons,hf] at hb;exact hb
theorem Inv.kM(I:Inv X aa σ H s):∀b∈eA X.stack,H b=none:=λb hb=>by
 rcases zzm.mp (I.ij b hb) with e|hb
 ·rw [e];exact I.free
 ·obtain⟨_,o,ho,_⟩:=I.ok.gq.mem hb
  exact I.base.free b o ho (I.ok.ym b hb) λz=>I.ok.GV b z hb
def Inv.step{g':Array GenState}{t':Nat}{d':Drawn}{ch:List Addr}(I:Inv X aa σ H s)
 (yZ:∀b∈ch,(b∈X.ex\/X.s₀.heap.objs.size<=b)/\b≠X.env.locals/\(∀x c,X.env.cells.lookup x=some c->c≠b)/\∀p∈X.pn++aa,p.1≠b)
 (keep:∀b o,b≠X.env.locals->b∉X.fs->b∉ch->s.heap.get? b=some o->H b=none->h'.get? b=some o)
 (slot:∀b o,b≠X.env.locals->b∈X.fs->b∉ch->s.heap.get? b=some o->H b=none->∃sl,h'.get? b=some {o with slots:=sl}) (free:∀b o,b∉ch->s.heap.get? b=some o->H b=none->H' b=none)
 (there:∀b o,b∉ch->s.heap.get? b=some o->∃o',h'.get? b=some o')
 (gU:∀b xs,H b=some (.tup xs)->H' b=some (.tup xs)) (fE:∀b o u,H b=some (.bz o u)->H' b=some (.bz o u)) (gj:∀b ps,H b=some (.fT ps)->∃more,H' b=some (.fT (ps++more)))
 (ns:∀m,s.heap.Ns X.env.locals m->h'.Ns X.env.locals m) (aK:d6 X.prog X.w H' h') (hg:AllBare g'):
 Inv X aa σ H' {s with heap:=h',gens:=g',drawn:=d',toks:=t'}:=by
 have NV:∀b o,X.s₀.heap.get? b=some o->b≠X.env.locals:=λb o e=>zzb (zzW (zzO e) I.ok.above)
 have Kg:∀b o,X.s₀.heap.get? b=some o->b∉X.ex->b∉ch:=λb o e hx hb=>by
  rcases(yZ b hb).1 with z|z
  ·exact hx z
  ·exact absurd (zzW (zzO e) z) (Nat.lt_irrefl _)
 have cellK:∀x c,X.env.cells.lookup x=some c->∀v,s.heap.IsCell c v->h'.IsCell c v:=λx c e v ⟨o,ho,hd⟩=>by
  have Nu:c∉ch:=λz=>(yZ c z).2.2.1 x c e rfl
  by_cases hc:c∈X.fs
  ·obtain⟨sl,q⟩:=slot c o (I.Fi x c e) hc Nu ho (I.gY x c e)
   exact⟨_,q,hd⟩
  ·exact⟨o,keep c o (I.Fi x c e) hc Nu ho (I.gY x c e),hd⟩
 refine⟨I.ok,I.os,hg,⟨λb o e n hb hx=>?_,λb o e n hb hx=>?_,λb o e n hx=>?_,λb o e hx=>?_,λb xs e=>gU b xs (I.base.gU b xs e),λb o xs e=>fE b o xs (I.base.fE b o xs e),λb ps e=>?_⟩,?_,λx c e=>?_,?_,λx c e=>?_,λp hp=>?_,aK,I.len⟩
 ·exact keep b o (NV b o e) hb (Kg b o e hx) (I.base.keep b o e n hb hx) (I.base.free b o e n hx)
 ·obtain⟨sl,e1⟩:=I.base.slot b o e n hb hx
  obtain⟨sl',e2⟩:=slot b _ (NV b o e) hb (Kg b o e hx) e1 (I.base.free b o e n hx)
  exact⟨sl',e2⟩
 ·obtain⟨o',e1⟩:=I.base.there b o e hx
  exact free b o' (Kg b o e hx) e1 (I.base.free b o e n hx)
 ·obtain⟨o',e1⟩:=I.base.there b o e hx
  exact there b o' (Kg b o e hx) e1
 ·obtain⟨m1,e1⟩:=I.base.gj b ps e
  obtain⟨m2,e2⟩:=gj b _ e1
  exact⟨m1++m2,by rw [e2,Array.append_assoc]⟩
 ·obtain⟨m,hn,hl⟩:=I.loc
  refine⟨m,ns m hn,λi x v e1 e2 e3=>?_⟩
  obtain⟨u,r,l⟩:=hl i x v e1 e2 e3
  refine⟨u,r,?_⟩;rcases l with l|⟨k,c,e,z⟩
  ·exact .inl l
  ·exact .inr ⟨k,c,e,cellK x c e _ z⟩
 ·obtain⟨v,z⟩:=I.cell x c e
  exact⟨v,cellK x c e v z⟩
 ·obtain⟨m,⟨o,_,_,ho,_⟩,_⟩:=I.loc
  exact free _ o (λz=>(yZ _ z).2.1 rfl) ho I.free
 ·obtain⟨v,o,ho,hd⟩:=I.cell x c e
  exact free c o (λz=>(yZ c z).2.2.1 x c e rfl) ho (I.gY x c e)
 ·obtain⟨e,n,ne,nf,d⟩:=I.pin p hp
  have Nu:p.1∉ch:=λz=>(yZ p.1 z).2.2.2 p hp rfl
  exact⟨keep p.1 p.2 ne nf Nu e n,free p.1 p.2 Nu e n,ne,nf,d⟩
def Inv.un{t':Nat}(I:Inv X aa σ H s)(u:Un X.fs [] H H' s.heap h')(aK:d6 X.prog X.w H' h'):Inv X aa σ H' {s with heap:=h',toks:=t'}:=by
 obtain⟨m,⟨o,es,ep,ho,r⟩,_⟩:=id I.loc
 obtain⟨sl,hL⟩:=u.any ho I.free (by simp)
 exact I.step (g':=s.gens) (d':=s.drawn) (ch:=[]) (λ_ z=>nomatch z) (λb o _ hb _ e n=>u.keep b o e n hb (by simp)) (λb o _ hb _ e n=>u.slot b o e n hb (by simp)) (λb o _ e n=>u.free b o e n (by simp)) (λb o _ e=>u.there b o e (by simp)) u.gU u.fE u.gj (λm' hm=>by
  obtain⟨o',qW,ep',iF,r'⟩:=hm
  rw [ho] at iF;cases iF;exact⟨_,qW,ep',hL,r'⟩) aK I.bare
def Inv.call{g':Array GenState}{t':Nat}{d':Drawn}{ch:List Addr}(I:Inv X aa σ H s)(u:Un (eA X.stack) ch H H' s.heap h')(aK:d6 X.prog X.w H' h')(hg:AllBare g')
 (yZ:∀b∈ch,(b∈X.ex\/X.s₀.heap.objs.size<=b)/\b≠X.env.locals/\(∀x c,X.env.cells.lookup x=some c->c≠b)/\∀p∈X.pn++aa,p.1≠b):
 Inv X aa σ H' {s with heap:=h',gens:=g',drawn:=d',toks:=t'}:=by
 obtain⟨m,⟨o,es,ep,ho,r⟩,_⟩:=id I.loc
 obtain⟨sl,hL⟩:=u.any ho I.free λz=>(yZ _ z).2.1 rfl
 exact I.step (ch:=ch) yZ (λb o hL hb hc e n=>u.keep b o e n (λz=>(zzm.mp (I.ij b z)).elim hL hb) hc) (λb o _ _ hc e n=>u.any e n hc) (λb o hc e n=>u.free b o e n hc) (λb o hc e=>u.there b o e hc) u.gU u.fE u.gj (λm' hm=>by
  obtain⟨o',qW,ep',iF,r'⟩:=hm
  rw [ho] at iF;cases iF;exact⟨_,qW,ep',hL,r'⟩) aK hg
def Inv.turned{t':Nat}{it:Addr}(I:Inv X aa σ H s)(k:∀b o,b≠it->s.heap.get? b=some o->h'.get? b=some o)(hn:H it=none)(hL:it≠X.env.locals)
 (h1:it∈X.ex\/X.s₀.heap.objs.size<=it) (h2:∀x c,X.env.cells.lookup x=some c->c≠it) (h3:∀p∈X.pn++aa,p.1≠it):Inv X aa σ H {s with heap:=h',toks:=t'}:=by
 have Sb:∀b u,H b=some u->b≠it:=λb u e z=>by rw [z,hn] at e;cases e
 refine I.step (g':=s.gens) (d':=s.drawn) (ch:=[it]) (λb hb=>?_) (λb o _ _ hc e _=>k b o (λz=>hc (by simp [z])) e) (λb o _ _ hc e _=>⟨o.slots,k b o (λz=>hc (by simp [z])) e⟩) (λ_ _ _ _ n=>n)
  (λb o hc e=>⟨o,k b o (λz=>hc (by simp [z])) e⟩) (λ_ _ e=>e) (λ_ _ _ e=>e) (λb ps e=>⟨#[],by rw [e];simp⟩) (λm hm=>?_) (λb u e=>?_) I.bare
 ·have e:b=it:=by simpa using hb
  subst e;exact⟨h1,hL,h2,h3⟩
 ·obtain⟨o,es,ep,ho,r⟩:=hm
  exact⟨o,es,ep,k _ o (Ne.symm hL) ho,r⟩
 ·refine(I.aK b u e).dZ (λc v hc q=>k c v ?_ q) (λ_ q=>q) λ_ _ q=>q
  rcases hc with z|z
  ·rw [z];exact Sb b u e
  ·exact Sb c _ z
theorem Inv.tok(I:Inv X aa σ H s)(t:Nat):Inv X aa σ H {s with toks:=t}:=I.un (h':=s.heap) (t':=t) Un.refl I.aK
theorem Inv.kept{t':Nat}(I:Inv X aa σ H s)(k:∀b u,s.heap.get? b=some u->h'.get? b=some u):Inv X aa σ H {s with heap:=h',toks:=t'}:=I.un (Un.kept k) (I.aK.kept k)
theorem Inv.laid{a:Addr}{o:HO}{t':Nat}(I:Inv X aa σ H s)(k:∀b u,s.heap.get? b=some u->h'.get? b=some u)(hp:(zz9 s)<=a)(new:bO X.prog X.w (upd H a o) h' a o):
 Inv X aa σ (upd H a o) {s with heap:=h',toks:=t'}:=I.un (Un.laid k hp (I.aK.fresh hp)) (I.aK.laid k hp new)
theorem Inv.write{x e:Addr}{o:HO}{t':Nat}(I:Inv X aa σ H s)(mu:K6 (H x))(he:e=x\/H e=some (.own x))(k:∀b u,b≠e->s.heap.get? b=some u->h'.get? b=some u)(K3:∃u,h'.get? e=some u)
 (new:bO X.prog X.w (upd H x o) h' x o):Inv X aa σ (upd H x o) {s with heap:=h',toks:=t'}:=I.un (Un.write mu he k K3) (I.aK.write mu he k K3 new)
def Inv.gN{vx:List (Addr×Obj)}(I:Inv X aa σ H s)(h:∀p∈vx,s.heap.get? p.1=some p.2/\H p.1=none/\p.1≠X.env.locals/\p.1∉X.fs/\∀v,p.2.data≠.cell v):Inv X vx σ H s:=
 ⟨I.ok,I.os,I.bare,I.base,I.loc,I.cell,I.free,I.gY,λp hp=>(List.mem_append.mp hp).elim (λz=>I.pin p (zzc _ z)) (h p),I.aK,I.len⟩
def mi{N:List Str}(hN:N.Nodup){i j:Nat}{x:Str}(a:N[i]?=some x)(b:N[j]?=some x):i=j:=by
 obtain⟨h1,e1⟩:=zzH.mp a
 obtain⟨h2,e2⟩:=zzH.mp b
 exact(List.getElem_inj hN).mp (e1.trans e2.symm)
def jr{M:Model}{A:Around}{E:Value->Shared->Prop}{i:Nat}{x:Str}{v:V}{u:Value}{Q:Unit->Shared->Prop}(I:Inv X aa σ H s)(hN:X.N.Nodup)(hi:X.N[i]?=some x)(hx:Loc X.env.scope x)(r:RelV v u)
 (h:∀s',Inv X aa (σ.set i (some v)) H s'->(∃a,Heap.SameBut a s.heap s'.heap/\(a=X.env.locals\/X.env.cells.lookup x=some a))->Q () s') (hf:X.fn x=true\/X.env.scope.names.lookup x=some .local:=by first|exact .inl rfl|exact .inr rfl|assumption):wpAny M A (storeName X.env x u) Q E s:=by
 obtain⟨m,hn,hl⟩:=id I.loc
 have OD:(X.env.scope.kind==.class||(X.env.scope.kind==.module&&X.env.locals !=X.env.globals))=false:=by rw [I.ok.kind];rfl
 have hiσ:i<σ.length:=by rw [I.len];exact(zzH.mp hi).1
 have Fi:=I.Fi
 have tracked:∀{a:Addr} {h':Heap},(∃o,s.heap.get? a=some o/\H a=none)->Heap.SameBut a s.heap h'->d6 X.prog X.w H h':=λ{a h'} ha hs b ob e=>by
  obtain⟨_,_,hfree⟩:=ha
  refine(I.aK b ob e).dZ (λc w' hc q=>(hs.2 c ?_).trans q) (λ_ q=>q) λ_ _ q=>q
  rintro rfl
  rcases hc with rfl|hc
  ·rw [hfree] at e;cases e
  ·rw [hfree] at hc;cases hc
 rcases hx with hk|hk
 ·refine wpAny_storeName_local hk hn (λh' Mn hs=>?_) OD;obtain⟨oL,_,_,Oi,_⟩:=id hn
  refine h _ ⟨I.ok,I.os,I.bare,⟨λb o e n hb hx=>?_,λb o e n hb hx=>?_,I.base.free,λb o e hx=>?_,I.base.gU,I.base.fE,I.base.gj⟩,⟨_,Mn,λj y v' e1 e2 e3=>?_⟩,λy c e=>?_,I.free,I.gY,λp hp=>?_,tracked ⟨oL,Oi,I.free⟩ hs,by simpa using I.len⟩ ⟨_,hs,.inl rfl⟩
  ·exact(hs.2 b (zzb (zzW (zzO e) I.ok.above))).trans (I.base.keep b o e n hb hx)
  ·obtain⟨sl,e1⟩:=I.base.slot b o e n hb hx
   exact⟨sl,(hs.2 b (zzb (zzW (zzO e) I.ok.above))).trans e1⟩
  ·obtain⟨o',e1⟩:=I.base.there b o e hx
   exact⟨o',(hs.2 b (zzb (zzW (zzO e) I.ok.above))).trans e1⟩
  ·by_cases hj:j=i
   ·subst hj;rw [hi] at e1;cases e1;rw [zzo hiσ] at e2;cases e2;exact⟨u,r,.inl ⟨hk,by simp⟩⟩
   ·rw [zzS (Ne.symm hj)] at e2;obtain⟨u',r',q⟩:=hl j y v' e1 e2 e3
    refine⟨u',r',?_⟩;rcases q with⟨k,e⟩|⟨k,c,e,z⟩
    ·refine .inl ⟨k,?_⟩;have:y≠x:=λe=>hj (mi hN e1 (e▸hi))
     simp [this,e]
    ·exact .inr ⟨k,c,e,z.sameBut hs (Fi y c e)⟩
  ·obtain⟨w',z⟩:=I.cell y c e
   exact⟨w',z.sameBut hs (Fi y c e)⟩
  ·obtain⟨e,n,ne,nf,d⟩:=I.pin p hp
   exact⟨(hs.2 p.1 ne).trans e,n,ne,nf,d⟩
 ·have mI:X.fn x=true:=by
   rcases hf with z|z
   ·exact z
   ·rw [z] at hk;cases hk
  obtain⟨c,hc⟩:=I.ok.has x (.inl hk)
  obtain⟨w',z⟩:=I.cell x c hc
  refine wpAny_storeName_cell I.ok.kind hk hc z (λh' iK hs=>?_);obtain⟨oc,hoc,hocd⟩:=id z
  refine h {s with heap:=h'} ⟨I.ok,I.os,I.bare,⟨λb o e n hb hx=>?_,λb o e n hb hx=>?_,I.base.free,λb o e hx=>?_,I.base.gU,I.base.fE,I.base.gj⟩,⟨m,hn.sameBut hs (Ne.symm (Fi x c hc)),λj y v' e1 e2 e3=>?_⟩,λy c' e=>?_,I.free,I.gY,λp hp=>?_,tracked ⟨oc,hoc,I.gY x c hc⟩ hs,by simpa using I.len⟩ ⟨c,hs,.inr hc⟩
  ·exact(hs.2 b (zzb (zzW (zzO e) (I.ok.KZ x c mI hc)))).trans (I.base.keep b o e n hb hx)
  ·obtain⟨sl,e1⟩:=I.base.slot b o e n hb hx
   exact⟨sl,(hs.2 b (zzb (zzW (zzO e) (I.ok.KZ x c mI hc)))).trans e1⟩
  ·obtain⟨o',e1⟩:=I.base.there b o e hx
   exact⟨o',(hs.2 b (zzb (zzW (zzO e) (I.ok.KZ x c mI hc)))).trans e1⟩
  ·by_cases hj:j=i
   ·subst hj;rw [hi] at e1;cases e1;rw [zzo hiσ] at e2;cases e2;exact⟨u,r,.inr ⟨.inl hk,c,hc,iK⟩⟩
   ·rw [zzS (Ne.symm hj)] at e2;obtain⟨u',r',q⟩:=hl j y v' e1 e2 e3
    refine⟨u',r',?_⟩;rcases q with q|⟨k,c',e,z'⟩
    ·exact .inl q
    ·refine .inr ⟨k,c',e,z'.sameBut hs ?_⟩
     rintro rfl
     exact hj (mi hN e1 (I.ok.inj _ _ _ e hc▸hi))
  ·by_cases hcc:c'=c
   ·subst hcc;exact⟨_,iK⟩
   ·obtain⟨w2,z2⟩:=I.cell y c' e
    exact⟨w2,z2.sameBut hs hcc⟩
  ·obtain⟨e,n,ne,nf,d⟩:=I.pin p hp
   refine⟨(hs.2 p.1 ?_).trans e,n,ne,nf,d⟩;intro q;rw [q,hoc] at e;have q':oc=p.2:=zzq e
   exact d w' (by rw [<-q'];exact hocd)
def qY{M:Model}{A:Around}{E:Value->Shared->Prop}{i:Nat}{x:Str}{v:V}{u:Value}{Q:Unit->Shared->Prop}(I:Inv X aa σ H s)(hN:X.N.Nodup)(hi:X.N[i]?=some x)(hx:Loc X.env.scope x)(r:RelV v u)
 (h:∀s',Inv X aa (σ.set i (some v)) H s'->Q () s') (hf:X.fn x=true\/X.env.scope.names.lookup x=some .local:=by first|exact .inl rfl|exact .inr rfl|assumption):wpAny M A (storeName X.env x u) Q E s:=
 jr I hN hi hx r (λs' I' _=>h s' I') hf
def Inv.ME{s':Shared}{ch:List Addr}(I:Inv X aa σ H s)(ho:s'.os=s.os)(u:Un (eA X.stack) ch H H' s.heap s'.heap)(aK:d6 X.prog X.w H' s'.heap)(hg:AllBare s'.gens)
 (yZ:∀b∈ch,(b∈X.ex\/X.s₀.heap.objs.size<=b)/\b≠X.env.locals/\(∀x c,X.env.cells.lookup x=some c->c≠b)/\∀p∈X.pn++aa,p.1≠b):Inv X aa σ H' s':=by
 obtain⟨h',g',d',t',o'⟩:=s'
 have e:o'=s.os:=ho
 subst e;exact I.call (g':=g') (t':=t') (d':=d') u aK hg yZ
end
noncomputable abbrev XK:=Value->Option Addr->Hp->Prop
abbrev St:=List (Option V)
abbrev VK:=V->Hp->Prop
abbrev TE:=St->Hp->VK->Prop
noncomputable abbrev TT:=St->Hp->(Bool->Hp->Prop)->Prop
noncomputable abbrev TA:=St->Hp->(List V->Hp->Prop)->Prop
structure Ends where
 nx:St->Hp->Prop
 rt:VK
 bk:St->Hp->Prop:=λ_ _=>False
 ct:St->Hp->Prop:=λ_ _=>False
abbrev TS:=Ends->St->Hp->Prop
def EP(X:Cx)(aa:List (Addr×Obj))(σ:St)(Q:VK)(u:Value)(s':Shared):Prop:=∃v H',Inv X aa σ H' s'/\RelV v u/\Q v H'
def TP(X:Cx)(aa:List (Addr×Obj))(σ:St)(Q:Bool->Hp->Prop)(b:Bool)(s':Shared):Prop:=∃H',Inv X aa σ H' s'/\Q b H'
def AP(X:Cx)(aa:List (Addr×Obj))(σ:St)(Q:List V->Hp->Prop)(us:List Value)(s':Shared):Prop:=∃vs H',Inv X aa σ H' s'/\Vals vs us/\Q vs H'
def SP(X:Cx)(aa:List (Addr×Obj))(D:Ends)(f:Flow)(s':Shared):Prop:=
 match f with
 |.next=>∃σ' H',Inv X aa σ' H' s'/\D.nx σ' H'
 |.brk=>∃σ' H',Inv X aa σ' H' s'/\D.bk σ' H'
 |.cont=>∃σ' H',Inv X aa σ' H' s'/\D.ct σ' H'
 |.ret u=>∃v σ' H',Inv X aa σ' H' s'/\RelV v u/\D.rt v H'
def PE(X:Cx)(e:Expr)(t:TE):Prop:=
 ∀(aa:List (Addr×Obj)) (s:Shared) (σ:St) (H:Hp) (Q:VK),Inv X aa σ H s->t σ H Q->wpAny (model X.prog X.w) X.A (eval e X.env) (EP X aa σ Q) X.xe s
def PT(X:Cx)(e:Expr)(t:TT):Prop:=
 ∀(aa:List (Addr×Obj)) (s:Shared) (σ:St) (H:Hp) (Q:Bool->Hp->Prop),Inv X aa σ H s->t σ H Q->wpAny (model X.prog X.w) X.A (isTrue e X.env (eval e X.env)) (TP X aa σ Q) X.xe s
def PW(X:Cx)(e:Expr)(t:TT):Prop:=
 ∀(whole:Sem Value) (aa:List (Addr×Obj)) (s:Shared) (σ:St) (H:Hp) (Q:Bool->Hp->Prop),Inv X aa σ H s->t σ H Q->wpAny (model X.prog X.w) X.A (isTrue e X.env whole) (TP X aa σ Q) X.xe s
def PW.pt{X:Cx}{e:Expr}{t:TT}(h:PW X e t):PT X e t:=h _
def PA(X:Cx)(es:List Expr)(t:TA):Prop:=
 ∀(pos:Pos) (aa:List (Addr×Obj)) (s:Shared) (σ:St) (H:Hp) (Q:List V->Hp->Prop),Inv X aa σ H s->t σ H Q->wpAny (model X.prog X.w) X.A (spliced (backTo pos (starEach es X.env))) (AP X aa σ Q) X.xe s
def PS(X:Cx)(st:Stmt)(t:TS):Prop:=
 ∀(aa:List (Addr×Obj)) (s:Shared) (σ:St) (H:Hp) (D:Ends),Inv X aa σ H s->t D σ H->wpAny (model X.prog X.w) X.A (exec st X.env) (SP X aa D) X.xe s
def wJ(X:Cx)(st:List Stmt)(t:TS):Prop:=
 ∀(aa:List (Addr×Obj)) (s:Shared) (σ:St) (H:Hp) (D:Ends),Inv X aa σ H s->t D σ H->wpAny (model X.prog X.w) X.A (execs st X.env) (SP X aa D) X.xe s
def bP{α:Type}{t:Sem α}{Q Q':α->Shared->Prop}{M:Model}{A:Around}{E:Value->Shared->Prop}{s:Shared}(h:wpAny M A t Q E s)(hQ:∀a s,Q a s->Q' a s):wpAny M A t Q' E s:=wpAny_mono h hQ λ_ _ x=>x
section
variable{X:Cx}
def bin{a b:Expr}{ta tb:TE}(ha:PE X a ta)(hb:PE X b tb){aa:List (Addr×Obj)}{s:Shared}{σ:St}{H:Hp}{R:V->V->Hp->Prop}(I:Inv X aa σ H s)(h:ta σ H λx H1=>tb σ H1 λy H2=>R x y H2)
 {α:Type} {Q:α->Shared->Prop} {f:Value->Value->Sem α}
 (hf:∀v u s2 x y H2,Inv X aa σ H2 s2->RelV x v->RelV y u->R x y H2->wpAny (model X.prog X.w) X.A (f v u) Q X.xe s2):
 wpAny (model X.prog X.w) X.A (eval a X.env) (λv s₁=>wpAny (model X.prog X.w) X.A (eval b X.env) (λu s₂=>wpAny (model X.prog X.w) X.A (f v u) Q X.xe s₂) X.xe s₁) X.xe s:=by
 refine bP (ha aa s σ H _ I h) λv s1 ⟨x,H1,I1,r1,q1⟩=>?_
 refine bP (hb aa s1 σ H1 _ I1 q1) λu s2 ⟨y,H2,I2,r2,q2⟩=>?_
 exact hf v u s2 x y H2 I2 r1 r2 q2
noncomputable def BZ(i:Nat):TE:=λσ H Q=>∃v,σ[i]?=some (some v)/\Q v H
noncomputable def tC(v:V):TE:=λ_ H Q=>Q v H
def fu{i:Nat}{x:Str}{pos:Pos}(hN:X.N[i]?=some x)(hv:Mt X.env.scope x)(hd:(x==("__debug__":Str))=false:=by decide)(uj:(x==("__classdict__":Str))=false:=by decide):PE X (.Name x pos) (BZ i):=by
 intro aa s σ H Q I h;obtain⟨v,e,h⟩:=h
 obtain⟨m,hn,hl⟩:=I.loc
 obtain⟨u,r,l⟩:=hl i x v hN e hv
 have fin:EP X aa σ Q u s:=⟨v,H,I,r,h⟩
 rcases l with⟨hk,hm⟩|⟨hk,c,hc,dX⟩
 ·exact wpAny_Name (wpAny_loadName_local I.ok.kind hk hn hm fin) hd
 ·rcases hk with hk|hk
  ·exact wpAny_Name (wpAny_loadName_cell I.ok.kind hk hc dX fin) hd
  ·exact wpAny_Name (wpAny_loadName_free I.ok.kind hk hc dX fin uj) hd
def zL{i j pos}:PE X (.Constant (.int i) j pos) (tC (.int i)):=λ_ _ _ H _ I h=>wpAny_Constant_int ⟨.int i,H,I.tok _,⟨_,rfl⟩,h⟩
def Nf{b j pos}:PE X (.Constant (.bool b) j pos) (tC (.bl b)):=λ_ _ _ H _ I h=>Constant_bool ⟨.bl b,H,I,rfl,h⟩
def A7{j pos}:PE X (.Constant .none j pos) (tC .aH):=λ_ _ _ H _ I h=>Constant_none ⟨.aH,H,I,rfl,h⟩
def B6{x j pos}:PE X (.Constant (.str x) j pos) (tC (.str x)):=λ_ _ _ H _ I h=>Calls.Constant_str ⟨.str x,H,I.tok _,⟨_,rfl⟩,h⟩
def Gl(X:Cx)(x:Str):Prop:=X.env.kindOf x=some .globalImplicit
def gE{E:Value->Shared->Prop}{aa:List (Addr×Obj)}{s:Shared}{σ:St}{H:Hp}{x:Str}{u:Value}{pos:Pos}{Q:Value->Shared->Prop}(I:Inv X aa σ H s)(hg:Gl X x)(hm:X.mg x=some u)(h:Q u s)
 (hd:(x==("__debug__":Str))=false:=by decide):wpAny (model X.prog X.w) X.A (eval (.Name x pos) X.env) Q E s:=
 Calls.Name_function_global I.ok.kind hg (Calls.loadGlobal_global (by rw [I.ok.glob];exact I.mod.glob.keeps I.bk) hm h) hd
def eC{E:Value->Shared->Prop}{aa:List (Addr×Obj)}{s:Shared}{σ:St}{H:Hp}{x:Str}{u:Value}{pos:Pos}{Q:Value->Shared->Prop}(I:Inv X aa σ H s)(hg:Gl X x)(hm:X.mg x=none)(hv:bootBuiltins x=some u)(h:Q u s)
 (hn:x≠"__name__":=by decide) (hd:(x==("__debug__":Str))=false:=by decide):wpAny (model X.prog X.w) X.A (eval (.Name x pos) X.env) Q E s:=by
 obtain⟨mb,h1,h2⟩:=I.mod.blt
 exact Calls.Name_function_global I.ok.kind hg (Calls.loadGlobal_builtin (by rw [I.ok.glob];exact I.mod.glob.keeps I.bk) hm (by rw [I.ok.blt];exact h1.keeps I.bk) ((h2 x hn).trans hv) h) hd
def EA{x:Str}{v:V}{u:Value}{pos:Pos}(hg:Gl X x)(hm:X.mg x=some u)(r:RelV v u)(hd:(x==("__debug__":Str))=false:=by decide):PE X (.Name x pos) (tC v):=
 λ_ _ _ H _ I h=>gE I hg hm ⟨v,H,I,r,h⟩ hd
def E0{x:Str}{v:V}{u:Value}{pos:Pos}(hg:Gl X x)(hm:X.mg x=none)(hv:bootBuiltins x=some u)(r:RelV v u)(hn:x≠"__name__":=by decide)(hd:(x==("__debug__":Str))=false:=by decide):PE X (.Name x pos) (tC v):=
 λ_ _ _ H _ I h=>eC I hg hm hv ⟨v,H,I,r,h⟩ hn hd
variable{a b:Expr}{ta tb:TE}{pos:Pos}
noncomputable def tB(t:TE):TT:=λσ H Q=>t σ H λx H1=>∃c,x=.bl c/\Q c H1
def HQ{e:Expr}{t:TE}(h:PE X e t)(he:∀whole,isTrue e X.env whole=(do let v<-whole;standAt e.pos;holding [v] (truthy v)):=by intro _;rfl):PT X e (tB t):=by
 intro aa s σ H Q I hw;refine isTrue_plain (bP (h aa s σ H _ I hw) λv s1 ⟨x,H1,I1,r1,q1⟩=>?_) (he _)
 obtain⟨d,rfl,q⟩:=q1
 cases r1;exact wpAny_truthy_bool ⟨H1,I1,q⟩
variable{tA NS:TT}{rest:List Expr}
noncomputable def Qi(t u:TT):TT:=λσ H Q=>t σ H λc H1=>if c=true then u σ H1 Q else Q false H1
noncomputable def UI(t u:TT):TT:=λσ H Q=>t σ H λc H1=>if c=true then Q true H1 else u σ H1 Q
noncomputable def OT(t:TT):TT:=λσ H Q=>t σ H λc H1=>Q (!c) H1
def pw_and1(ha:PT X a tA):PW X (.BoolOp .And [a] pos) tA:=by
 intro wh aa s σ H Q I h;refine isTrue_and (bP (ha aa s σ H Q I h) λc s1 e=>?_)
 cases c with
 |true=>exact isTrue_and_nil e
 |false=>exact e
def pw_or1(ha:PT X a tA):PW X (.BoolOp .Or [a] pos) tA:=by
 intro wh aa s σ H Q I h;refine isTrue_or (bP (ha aa s σ H Q I h) λc s1 e=>?_)
 cases c with
 |false=>exact isTrue_or_nil e
 |true=>exact e
def pw_and(ha:PT X a tA)(hb:PW X (.BoolOp .And (b::rest) pos) NS):PW X (.BoolOp .And (a::b::rest) pos) (Qi tA NS):=by
 intro wh aa s σ H Q I h;refine isTrue_and (bP (ha aa s σ H _ I h) λc s1 ⟨H1,I1,q1⟩=>?_)
 cases c with
 |true=>exact hb wh aa s1 σ H1 Q I1 q1
 |false=>exact⟨H1,I1,q1⟩
def pw_or(ha:PT X a tA)(hb:PW X (.BoolOp .Or (b::rest) pos) NS):PW X (.BoolOp .Or (a::b::rest) pos) (UI tA NS):=by
 intro wh aa s σ H Q I h;refine isTrue_or (bP (ha aa s σ H _ I h) λc s1 ⟨H1,I1,q1⟩=>?_)
 cases c with
 |true=>exact⟨H1,I1,q1⟩
 |false=>exact hb wh aa s1 σ H1 Q I1 q1
def IW(ha:PT X a tA):PT X (.UnaryOp .Not a pos) (OT tA):=by
 intro aa s σ H Q I h;exact isTrue_not (ha aa s σ H (λc H1=>Q (!c) H1) I h)
noncomputable def LY(ta tb:TE):TE:=λσ H Q=>ta σ H λx H1=>∃c,x=.bl c/\if c=true then tb σ H1 Q else Q (.bl false) H1
noncomputable def OZ(ta tb:TE):TE:=λσ H Q=>ta σ H λx H1=>∃c,x=.bl c/\if c=true then Q (.bl true) H1 else tb σ H1 Q
noncomputable def Lp(ta:TE):TE:=λσ H Q=>ta σ H λx H1=>∃c,x=.bl c/\Q (.bl (!c)) H1
def Br{op}{t:TE}(h:PE X a t):PE X (.BoolOp op [a] pos) t:=λaa s σ H Q I hw=>BoolOp_one (h aa s σ H Q I hw)
def Kt(ha:PE X a ta)(hb:PE X (.BoolOp .And (b::rest) pos) tb):PE X (.BoolOp .And (a::b::rest) pos) (LY ta tb):=by
 intro aa s σ H Q I h;refine BoolOp_and (bP (ha aa s σ H _ I h) λv s1 ⟨x,H1,I1,r1,q1⟩=>?_)
 obtain⟨c,rfl,q1⟩:=q1
 cases r1;refine wpAny_truthy_bool ?_;cases c with
 |true=>exact hb aa s1 σ H1 Q I1 q1
 |false=>exact⟨.bl false,H1,I1,rfl,q1⟩
def Ly(ha:PE X a ta)(hb:PE X (.BoolOp .Or (b::rest) pos) tb):PE X (.BoolOp .Or (a::b::rest) pos) (OZ ta tb):=by
 intro aa s σ H Q I h;refine BoolOp_or (bP (ha aa s σ H _ I h) λv s1 ⟨x,H1,I1,r1,q1⟩=>?_)
 obtain⟨c,rfl,q1⟩:=q1
 cases r1;refine wpAny_truthy_bool ?_;cases c with
 |false=>exact hb aa s1 σ H1 Q I1 q1
 |true=>exact⟨.bl true,H1,I1,rfl,q1⟩
def JX(ha:PE X a ta):PE X (.UnaryOp .Not a pos) (Lp ta):=by
 intro aa s σ H Q I h;refine UnaryOp_ (bP (ha aa s σ H _ I h) λv s1 ⟨x,H1,I1,r1,q1⟩=>?_)
 obtain⟨c,rfl,q1⟩:=q1
 cases r1;exact not_of (wpAny_truthy_bool ⟨.bl (!c),H1,I1,rfl,q1⟩)
noncomputable def Uq(t:TT)(ta tb:TE):TE:=λσ H Q=>t σ H λc H1=>if c=true then ta σ H1 Q else tb σ H1 Q
def BB{c:Expr}(hc:PT X c tA)(ha:PE X a ta)(hb:PE X b tb):PE X (.IfExp c a b pos) (Uq tA ta tb):=by
 intro aa s σ H Q I h;refine wpAny_IfExp (bP (hc aa s σ H _ I h) λd s1 ⟨H1,I1,q1⟩=>?_)
 cases d with
 |true=>exact ha aa s1 σ H1 Q I1 q1
 |false=>exact hb aa s1 σ H1 Q I1 q1
end
def fH(K:zz8)(H:Hp)(a:Addr)(xs:List V):Prop:=
 Rd H a (.lst xs)\/
  ∃(o:Obj) (ax:Array Value) (n:Nat),K.lookup a=some o/\o.cls=.type "list"/\o.dict=none/\o.data=.seq ax n/\ax.size<=sizeLine/\Vals xs ax.toList
def eV(K:zz8)(H:Hp)(a:Addr)(xs:List V):Prop:=
 Rd H a (.tup xs)\/
  ∃(o:Obj) (ax:Array Value) (n:Nat),K.lookup a=some o/\o.cls=.type "tuple"/\o.data=.seq ax n/\ax.size<=sizeLine/\Vals xs ax.toList
noncomputable def Pc:Value->Option V
 |.none=>some .aH
 |.bool b=>some (.bl b)
 |.int i _=>some (.int i)
 |.str x _=>some (.str x)
 |.bytes b _=>some (.QA b)
 |.float b _=>some (.P6 b)
 |.ref a=>some (.ref a)
 |.type n=>some (.ty n)
 |_=>none
def RelV.abs{x:V}{u:Value}(r:RelV x u):Pc u=some x:=by
 cases x with
 |aH=>cases r;rfl
 |bl _=>cases r;rfl
 |int _=>obtain⟨t,rfl⟩:=r;rfl
 |str _=>obtain⟨t,rfl⟩:=r;rfl
 |QA _=>obtain⟨t,rfl⟩:=r;rfl
 |P6 _=>obtain⟨t,rfl⟩:=r;rfl
 |ref _=>cases r;rfl
 |ty _=>cases r;rfl
def RelV.inj{x y:V}{u:Value}(r:RelV x u)(q:RelV y u):x=y:=zzq (r.abs.symm.trans q.abs)
theorem Vals.inj:∀{xs ys:List V} {us:List Value},Vals xs us->Vals ys us->xs=ys
 |_,_,_,.nil,.nil=>rfl
 |_,_,_,.cons r t,.cons r' t'=>by rw [r.inj r',Vals.inj t t']
section
variable{X:Cx}{aa:List (Addr×Obj)}{σ:St}{H:Hp}{s:Shared}{a:Addr}{xs ys:List V}
def fH.of{K:zz8}(h:H a=some (.lst xs)):fH K H a xs:=.inl (.inl h)
def Inv.list(I:Inv X aa σ H s)(h:fH X.K H a xs):∃ax:List Value,Vals xs ax/\PlainL s.heap a ax.toArray/\xs.length<=sizeLine:=by
 rcases h with h|⟨o,ax,n,hk,hc,hd,hs,hz,r⟩
 ·obtain⟨z,ax,n,r,e⟩:=h.ok I.aK
  exact⟨ax,r,⟨_,n,e,rfl,rfl,rfl⟩,z⟩
 ·refine⟨ax.toList,r,⟨o,n,I.tj a o hk,hc,hd,by simpa using hs⟩,?_⟩;have e:=r.length
  simp! [zzd] at e;omega
def Inv.tuple(I:Inv X aa σ H s)(h:eV X.K H a xs):∃ax:List Value,Vals xs ax/\IsTup s.heap a ax.toArray/\xs.length<=sizeLine:=by
 rcases h with h|⟨o,ax,n,hk,hc,hs,hz,r⟩
 ·obtain⟨z,ax,r,p⟩:=h.ok I.aK
  exact⟨ax,r,p,z⟩
 ·refine⟨ax.toList,r,⟨o,I.tj a o hk,hc,n,by simpa using hs⟩,?_⟩;have e:=r.length
  simp! [zzd] at e;omega
def Inv.qQ(I:Inv X aa σ H s)(h:fH X.K H a xs)(h':fH X.K H a ys):xs=ys:=by
 obtain⟨ax,r,⟨o,n,e,_,_,d⟩,_⟩:=I.list h
 obtain⟨its',r',⟨o',n',e',_,_,d'⟩,_⟩:=I.list h'
 rw [e] at e';cases e';rw [d] at d'
 injection d' with d1 _
 have:ax=its':=by simpa using congrArg Array.toList d1
 subst this;exact r.inj r'
def Inv.oj(I:Inv X aa σ H s)(h:eV X.K H a xs)(h':eV X.K H a ys):xs=ys:=by
 obtain⟨ax,r,⟨o,e,_,n,d⟩,_⟩:=I.tuple h
 obtain⟨its',r',⟨o',e',_,n',d'⟩,_⟩:=I.tuple h'
 rw [e] at e';cases e';rw [d] at d'
 injection d' with d1 _
 have:ax=its':=by simpa using congrArg Array.toList d1
 subst this;exact r.inj r'
variable{st:Stmt}{rest:List Stmt}{t u:TS}{e:Expr}{te:TE}{pos:Pos}
def Lu:TS:=λD σ H=>D.nx σ H
noncomputable def O2(t u:TS):TS:=λD σ H=>t {D with nx:=u D} σ H
def EO:wJ X [] Lu:=λ_ _ σ H _ I h=>wpAny_execs_nil ⟨σ,H,I,h⟩
def Aa(h1:PS X st t)(h2:wJ X rest u):wJ X (st::rest) (O2 t u):=by
 intro aa s σ H D I h;refine wpAny_execs_cons (bP (h1 aa s σ H {D with nx:=u D} I h) λf s1 q=>?_)
 cases f with
 |next=>
  obtain⟨σ',H',I',q⟩:=q
  exact h2 aa s1 σ' H' D I' q
 |ret v=>exact q
 |brk=>exact q
 |cont=>exact q
def Inv.quiet{aa:List (Addr×Obj)}{σ:St}{H:Hp}{s:Shared}(I:Inv X aa σ H s):interactive X.env=false:=by simp [interactive,I.ok.kind]
noncomputable def Ln(te:TE):TS:=λD σ H=>te σ H λ_ H1=>D.nx σ H1
theorem o7(he:PE X e te)(hs:swapsWith e none pos.line X.env=pure false:=by rfl):PS X (.Expr e pos) (Ln te):=by
 intro aa s σ H D I h;exact wpAny_Expr_any (bP (he aa s σ H _ I h) λv s1 ⟨x,H1,I1,r1,q1⟩=>⟨σ,H1,I1,q1⟩) I.quiet hs
noncomputable def PL(te:TE):TS:=λD σ H=>te σ H D.rt
def Im(he:PE X e te):PS X (.Return (some e) pos) (PL te):=by
 intro aa s σ H D I h;exact wpAny_Return_some (bP (he aa s σ H _ I h) λv s1 ⟨x,H1,I1,r1,q1⟩=>⟨x,σ,H1,I1,r1,q1⟩)
noncomputable def Pe(c:TT)(t u:TS):TS:=λD σ H=>c σ H λb H1=>if b=true then t D σ H1 else u D σ H1
def MA{c:Expr}{a b:List Stmt}{tc:TT}(hc:PT X c tc)(ha:wJ X a t)(hb:wJ X b u):PS X (.If c a b pos) (Pe tc t u):=by
 intro aa s σ H D I h;refine wpAny_If (bP (hc aa s σ H _ I h) λd s1 ⟨H1,I1,q1⟩=>?_)
 cases d with
 |true=>exact ha aa s1 σ H1 D I1 q1
 |false=>exact hb aa s1 σ H1 D I1 q1
end
noncomputable abbrev TG:=V->St->Hp->(St->Hp->Prop)->Prop
noncomputable abbrev Gb:=List V->St->Hp->(St->Hp->Prop)->Prop
def PG(X:Cx)(target:Expr)(t:TG):Prop:=
 ∀(aa:List (Addr×Obj)) (s:Shared) (σ:St) (H:Hp) (v:V) (u:Value) (Q:St->Hp->Prop),Inv X aa σ H s->RelV v u->t v σ H Q->
  wpAny (model X.prog X.w) X.A (assign target X.env u) (λ_ s'=>∃σ' H',Inv X aa σ' H' s'/\Q σ' H') X.xe s
def Nk(X:Cx)(ts:List Expr)(t:Gb):Prop:=
 ∀(aa:List (Addr×Obj)) (s:Shared) (σ:St) (H:Hp) (vs:List V) (us:List Value) (Q:St->Hp->Prop),Inv X aa σ H s->Vals vs us->t vs σ H Q->
  wpAny (model X.prog X.w) X.A (assignInOrder ((assignEach ts X.env).map (·.2)) us) (λ_ s'=>∃σ' H',Inv X aa σ' H' s'/\Q σ' H') X.xe s
noncomputable abbrev JS:=V->V->V->Hp->(Hp->Prop)->Prop
def Mr(X:Cx)(t:JS):Prop:=
 ∀(aa:List (Addr×Obj)) (s:Shared) (σ:St) (H:Hp) (o i v:V) (ov iv u:Value) (Q:Hp->Prop),Inv X aa σ H s->RelV o ov->RelV i iv->RelV v u->t o i v H Q->
  wpAny (model X.prog X.w) X.A (setItem ov iv u) (λ_ s'=>∃H',Inv X aa σ H' s'/\Q H') X.xe s
section
variable{X:Cx}{pos:Pos}
noncomputable def gB(i:Nat):TG:=λv σ H Q=>Q (σ.set i (some v)) H
def DJ{i:Nat}{x:Str}(hN:X.N.Nodup)(hi:X.N[i]?=some x)(hx:Loc X.env.scope x)(hf:X.fn x=true\/X.env.scope.names.lookup x=some .local:=by first|exact .inl rfl|exact .inr rfl|assumption):PG X (.Name x pos) (gB i):=by
 intro aa s σ H v u Q I r h;exact wpAny_assign_Name (qY I hN hi hx r (λs' I'=>⟨_,H,I',h⟩) hf)
noncomputable def II:Gb:=λvs σ H Q=>vs=[]/\Q σ H
noncomputable def vS(t:TG)(u:Gb):Gb:=λvs σ H Q=>∃v r,vs=v::r/\t v σ H λσ' H'=>u r σ' H' Q
def Ep:Nk X [] II:=by
 intro aa s σ H vs us Q I r h;obtain⟨e,h⟩:=h
 subst e;cases r;exact assignInOrder_nil ⟨σ,H,I,h⟩
theorem BV{e:Expr}{es:List Expr}{t:TG}{u:Gb}(h1:PG X e t)(h2:Nk X es u)
 (hs:(assignEach (e::es) X.env).map (·.2)=assign e X.env::(assignEach es X.env).map (·.2):=by rfl):Nk X (e::es) (vS t u):=by
 intro aa s σ H vs us Q I r h;obtain⟨v,vr,e1,h⟩:=h
 subst e1;cases r with
 |cons r rr=>
  rw [hs];refine assignInOrder_cons (bP (h1 aa s σ H _ _ _ I r h) λ_ s1 ⟨σ1,H1,I1,q1⟩=>?_)
  exact h2 aa s1 σ1 H1 _ _ Q I1 rr q1
noncomputable def LU(K:zz8)(n:Nat)(t:Gb):TG:=λv σ H Q=>∃a xs,v=.ref a/\eV K H a xs/\xs.length=n/\t xs σ H Q
theorem Hr{es:List Expr}{k:Nat}{t:Gb}{n:Nat}(hc:X.calm=true)(h:Nk X es t)
 (hn:(assignEach es X.env).length=n:=by rfl) (d7:(assignEach es X.env).findIdx? (·.1)=none:=by rfl):PG X (.Tuple es k pos) (LU X.K n t):=by
 intro aa s σ H v u Q I r hw;obtain⟨a,xs,e1,hq,hl,hw⟩:=hw
 subst e1;cases r;obtain⟨ax,rv,ht,hz⟩:=I.tuple hq
 refine assign_Tuple_tuple (I.ok.hd hc) ht (by simp [hn,<-hl,rv.length]) d7 λh' hx=>?_
 have I1:Inv X aa σ H {s with heap:=h'}:=I.kept (t':=s.toks) λb o e=>hx b o (zzb (zzO e)) e
 exact h aa _ σ H xs _ Q I1 (by simpa using rv) hw
noncomputable def QL(to ti:TE)(t:JS):TG:=λv σ H Q=>to σ H λo H1=>ti σ H1 λi H2=>t o i v H2 λH3=>Q σ H3
def An{o i:Expr}{to ti:TE}{t:JS}(ho:PE X o to)(hi:PE X i ti)(hs:Mr X t)
 (ha:∀v,assign (.Subscript o i pos) X.env v=(do
  let ov<-holding [v] (eval o X.env)
  let iv<-holding [v,ov] (eval i X.env)
  standAt pos
  holding [v,ov,iv] (setItem ov iv v)
  release [v,ov,iv] []):=by intro _;rfl):PG X (.Subscript o i pos) (QL to ti t):=by
 intro aa s σ H v u Q I r h;rw [ha];refine zzA (wpAny_holding (bP (ho aa s σ H _ I h) λov s1 ⟨x,H1,I1,r1,q1⟩=>?_))
 refine zzA (wpAny_holding (bP (hi aa s1 σ H1 _ I1 q1) λiv s2 ⟨y,H2,I2,r2,q2⟩=>?_))
 refine zzA (wpAny_standAt (zzA (wpAny_holding (bP (hs aa s2 σ H2 x y v ov iv u _ I2 r1 r2 r q2) λ_ s3 ⟨H3,I3,q3⟩=>?_))))
 exact wpAny_release ⟨σ,H3,I3,q3⟩
noncomputable def Cy(te:TE)(g:TG):TS:=λD σ H=>te σ H λx H1=>g x σ H1 D.nx
theorem BC{tg e:Expr}{te:TE}{g:TG}(he:PE X e te)(hg:PG X tg g)(hs:swapsWithSole [tg] e pos.line X.env=pure false:=by rfl)(hw:swappedStores [tg] e X.env=pure none:=by rfl)
 (h1:(assignEach [tg] X.env).map (·.2)=[assign tg X.env]:=by rfl):PS X (.Assign [tg] e pos) (Cy te g):=by
 intro aa s σ H D I h;refine wpAny_Assign_stores (bP (he aa s σ H _ I h) λv s1 ⟨x,H1,I1,r1,q1⟩=>?_) hs hw
 rw [h1];exact bP (hg aa s1 σ H1 x v _ I1 r1 q1) λ_ s2 q=>q
theorem qy{i:Nat}{x:Str}{e:Expr}{te:TE}{pos':Pos}(hN:X.N.Nodup)(hi:X.N[i]?=some x)(hx:Loc X.env.scope x)(he:PE X e te)(hs:swapsWith e (some (.Name x pos')) pos.line X.env=pure false:=by rfl)(hf:X.fn x=true\/X.env.scope.names.lookup x=some .local:=by first|exact .inl rfl|exact .inr rfl|assumption):
 PS X (.Assign [.Name x pos'] e pos) (Cy te (gB i)):=by
 intro aa s σ H D I h;refine wpAny_Assign_Name (bP (he aa s σ H _ I h) λv s1 ⟨y,H1,I1,r1,q1⟩=>?_) hs
 exact qY I1 hN hi hx r1 (λs2 I2=>⟨_,H1,I2,q1⟩) hf
noncomputable def G6(c:TT)(tb:TS):TS:=λD σ H=>∃W:Nat->St->Hp->Prop,(∃m,W m σ H)/\∀m σ H,W m σ H->
 c σ H λb H1=>if b=true then∃N:St->Hp->Prop,(∀σ' H',N σ' H'->∃m',m'<m/\W m' σ' H')/\tb {D with nx:=N,ct:=N,bk:=D.nx} σ H1 else D.nx σ H1
def Ac{c:Expr}{body:List Stmt}{tc:TT}{tb:TS}(hp:PassesOwn (model X.prog X.w) X.A X.env X.xe)(hc:PT X c tc)(hb:wJ X body tb):PS X (.While c body [] pos) (G6 tc tb):=by
 intro aa s σ H D I h;obtain⟨W,⟨m0,w0⟩,turn⟩:=h
 refine wpAny_While (codeAny_whileLoop (λn s'=>∃σ' H',Inv X aa σ' H' s'/\W n σ' H') ?_ m0 ⟨σ,H,I,w0⟩)
 rintro n s1 ⟨σ1,H1,I1,w1⟩
 refine wpAny_passesOwn hp (bP (hc aa s1 σ1 H1 _ I1 (turn n σ1 H1 w1)) λb s2 ⟨H2,I2,q2⟩=>?_)
 cases b with
 |true=>
  obtain⟨N,hN,q2⟩:=q2
  rw [if_pos rfl];refine wpAny_passesOwn hp (bP (hb aa s2 σ1 H2 _ I2 q2) λf s3 q3=>?_)
  cases f with
  |next=>
   obtain⟨σ3,H3,I3,n3⟩:=q3
   obtain⟨m',hm,w3⟩:=hN σ3 H3 n3
   exact⟨m',hm,σ3,H3,I3,w3⟩
  |cont=>
   obtain⟨σ3,H3,I3,n3⟩:=q3
   obtain⟨m',hm,w3⟩:=hN σ3 H3 n3
   exact⟨m',hm,σ3,H3,I3,w3⟩
  |brk=>exact q3
  |ret v=>exact q3
 |false=>
  rw [if_neg zzf];exact wpAny_execs_nil ⟨σ1,H2,I2,q2⟩
end
structure It where
 go:Nat->Hp->Prop
 KI:Nat->Hp->V->Hp->Prop
 stop:Nat->Hp->Prop
def fe(X:Cx)(aa:List (Addr×Obj))(H:Hp)(b:Addr):Prop:=
 H b=none/\b≠X.env.locals/\b∉X.fs/\(b∈X.ex\/X.s₀.heap.objs.size<=b)/\(∀x c,X.env.cells.lookup x=some c->c≠b)/\∀p∈X.pn++aa,p.1≠b
def Inv.mP{X:Cx}{aa:List (Addr×Obj)}{σ:St}{H H':Hp}{s:Shared}{b:Addr}(I:Inv X aa σ H s)(hb:(zz9 s)<=b)(hn:H' b=none):fe X aa H' b:=by
 refine⟨hn,Nat.ne_of_gt (zzW I.lt hb),I.PH hb,.inr (zzU I.sz hb),λx c e z=>?_,λp hp z=>?_⟩
 ·obtain⟨v,q⟩:=I.cell x c e
  exact absurd (zzW q.lt (by rw [z];exact hb)) (Nat.lt_irrefl _)
 ·exact absurd (zzW (zzO (I.pin p hp).1) (by rw [z];exact hb)) (Nat.lt_irrefl _)
structure Turn(P:Program)(w:World)(K:zz8)(tg:Expr)(J:It)(fp:List Addr)(it:Addr)(tn:Nat->Heap->Prop):Prop where
 mem:it∈fp
 obj:∀i h,tn i h->∀b∈fp,∃o,h.get? b=some o/\∀v,o.data≠.cell v
 keep:∀i h h',tn i h->(∀b∈fp,∀o,h.get? b=some o->h'.get? b=some o)->tn i h'
 item:∀(X:Cx),X.prog=P->X.w=w->X.K=K->X.calm=true->∀(i:Nat) (aa:List (Addr×Obj)) (s:Shared) (σ:St) (H:Hp) (E:Value->Shared->Prop),Inv X aa σ H s->(∀b∈fp,fe X aa H b)->tn i s.heap->J.go i H->
  wpAny (model P w) X.A (pyNext (.ref it)) (λr s1=>∃u,r=some u/\
   wpAny (model P w) X.A (letOwnedTupleGo tg (.ref it) u) (λ_ s2=>∃x H',Inv X aa σ H' s2/\RelV x u/\J.KI i H x H'/\tn (i+1) s2.heap/\∀b∈fp,H' b=none) E s1) E s
 done:∀(X:Cx),X.prog=P->X.w=w->X.K=K->X.calm=true->∀(i:Nat) (aa:List (Addr×Obj)) (s:Shared) (σ:St) (H:Hp) (E:Value->Shared->Prop),Inv X aa σ H s->(∀b∈fp,fe X aa H b)->tn i s.heap->J.stop i H->
  wpAny (model P w) X.A (pyNext (.ref it)) (λr s1=>r=none/\Inv X aa σ H s1) E s
 self:∀(A:Around) (i:Nat) (s:Shared) (Q:Value->Shared->Prop) (E:Value->Shared->Prop),tn i s.heap->Q (.ref it) s->wpAny (model P w) A (pyIter (.ref it)) Q E s
noncomputable abbrev TI:=St->Hp->(It->Hp->Prop)->Prop
def SD(X:Cx)(aa:List (Addr×Obj))(σ:St)(tg:Expr)(R:It->Hp->Prop)(Pw:Value)(s2:Shared):Prop:=
 ∃(it:Addr) (fp:List Addr) (tn:Nat->Heap->Prop) (J:It) (H':Hp),Pw=.ref it/\Inv X aa σ H' s2/\Turn X.prog X.w X.K tg J fp it tn/\tn 0 s2.heap/\(∀b∈fp,fe X aa H' b)/\R J H'
def PI(X:Cx)(tg iter:Expr)(wi:TI):Prop:=
 ∀(aa:List (Addr×Obj)) (s:Shared) (σ:St) (H:Hp) (R:It->Hp->Prop),Inv X aa σ H s->wi σ H R->
  wpAny (model X.prog X.w) X.A (eval iter X.env) (λv s1=>wpAny (model X.prog X.w) X.A (pyIter v) (SD X aa σ tg R) X.xe s1) X.xe s
def vQ{M:Model}{A:Around}{E:Value->Shared->Prop}{s:Shared}{tg:Expr}{it:Addr}{u:Value}{o:Obj}{n:String}{vs:Array Value}{Q:Unit->Shared->Prop}(ho:s.heap.get? it=some o)(hc:o.cls=.type n)(hd:o.data=.fields vs)
 (hn:["enumerate","zip","dict_itemiterator","dict_reverseitemiterator","odict_iterator","itertools.zip_longest","itertools.pairwise"].contains n=false) (hQ:Q () s):wpAny M A (letOwnedTupleGo tg (.ref it) u) Q E s:=by
 unfold letOwnedTupleGo;cases tg<;>first
  |exact zzG hQ
  |(cases u<;>first
   |exact zzG hQ
   | (refine zzA (wpAny_load ho ?_)
      rw [hc,hd];show wpAny M A (if(["enumerate","zip","dict_itemiterator","dict_reverseitemiterator","odict_iterator","itertools.zip_longest","itertools.pairwise"].contains n&&vs[0]?==some (rawInt _))=true then _ else _) Q E s;rw [if_neg (by intro h;rw [hn,Bool.false_and] at h;cases h)];exact zzG hQ))
noncomputable def Qh(K:zz8)(a:Addr):It:=
 ⟨λi H=>∃xs x,fH K H a xs/\xs[i]?=some x,λi H x H'=>H'=H/\∀xs,fH K H a xs->xs[i]?=some x,λi H=>∃xs,fH K H a xs/\xs.length<=i⟩
noncomputable def P4(K:zz8)(a:Addr):It:=
 ⟨λi H=>∃xs x,eV K H a xs/\xs[i]?=some x,λi H x H'=>H'=H/\∀xs,eV K H a xs->xs[i]?=some x,λi H=>∃xs,eV K H a xs/\xs.length<=i⟩
noncomputable def L6(lo:Int)(n:Nat):It:=⟨λi _=>i<n,λi H x H'=>H'=H/\x=.int (lo+i),λi _=>n<=i⟩
def xD{P:Program}{w:World}{K:zz8}{tg:Expr}(a it:Addr):Turn P w K tg (Qh K a) [it] it (λi h=>h.IsListIter it a i) where
 mem:=by simp
 obj:=λi h st b hb=>by
  have e:b=it:=by simpa using hb
  subst e;obtain⟨o,e,c,d⟩:=st
  exact⟨o,e,λv z=>by rw [d] at z;cases z⟩
 keep:=λi h h' st k=>st.at λo e=>k it (by simp) o e
 item:=by
  intro X hP hw hK hc i aa s σ H E I hf st hg;subst hP hw hK;obtain⟨xs,x,hq,hx⟩:=hg
  obtain⟨ax,rv,p,hz⟩:=I.list hq
  obtain⟨u,hu,ru⟩:=rv.get hx
  obtain⟨f0,f1,f2,f3,f4,f5⟩:=hf it (by simp)
  refine wpAny_pyNext_list_item st p.isList (x:=u) (by simpa using hu) λh' fK sb=>?_
  have I1:Inv X aa σ H {s with heap:=h'}:=I.turned (t':=s.toks) (λb o hb e=>(sb.2 b hb).trans e) f0 f1 f3 f4 f5
  obtain⟨o,e,c,d⟩:=id fK
  exact⟨u,rfl,vQ (s:={s with heap:=h'}) e c d (by decide) ⟨x,H,I1,ru,⟨rfl,λys hy=>by rw [I.qQ hy hq];exact hx⟩,fK,λb hb=>(hf b hb).1⟩⟩
 done:=by
  intro X hP hw hK hc i aa s σ H E I hf st hg;subst hP hw hK;obtain⟨xs,hq,hx⟩:=hg
  obtain⟨ax,rv,p,hz⟩:=I.list hq
  obtain⟨f0,f1,f2,f3,f4,f5⟩:=hf it (by simp)
  have hl:=rv.length
  exact wpAny_pyNext_list_end (I.ok.hd hc) st p.isList (by simp;omega) λh' eb=>⟨rfl,I.turned (t':=s.toks) (λb o hb e=>eb b o hb e) f0 f1 f3 f4 f5⟩
 self:=λ_ _ _ _ _ st h=>wpAny_pyIter_listiter st h
def uJ{P:Program}{w:World}{K:zz8}{tg:Expr}(a it:Addr):Turn P w K tg (P4 K a) [it] it (λi h=>h.IsTupleIter it a i) where
 mem:=by simp
 obj:=λi h st b hb=>by
  have e:b=it:=by simpa using hb
  subst e;obtain⟨o,e,c,d⟩:=st
  exact⟨o,e,λv z=>by rw [d] at z;cases z⟩
 keep:=λi h h' st k=>st.at λo e=>k it (by simp) o e
 item:=by
  intro X hP hw hK hc i aa s σ H E I hf st hg;subst hP hw hK;obtain⟨xs,x,hq,hx⟩:=hg
  obtain⟨ax,rv,p,hz⟩:=I.tuple hq
  obtain⟨u,hu,ru⟩:=rv.get hx
  obtain⟨f0,f1,f2,f3,f4,f5⟩:=hf it (by simp)
  refine wpAny_pyNext_tuple_item st (show s.heap.IsTuple a ax.toArray from p) (x:=u) (by simpa using hu) λh' fK sb=>?_
  have I1:Inv X aa σ H {s with heap:=h'}:=I.turned (t':=s.toks) (λb o hb e=>(sb.2 b hb).trans e) f0 f1 f3 f4 f5
  obtain⟨o,e,c,d⟩:=id fK
  exact⟨u,rfl,vQ (s:={s with heap:=h'}) e c d (by decide) ⟨x,H,I1,ru,⟨rfl,λys hy=>by rw [I.oj hy hq];exact hx⟩,fK,λb hb=>(hf b hb).1⟩⟩
 done:=by
  intro X hP hw hK hc i aa s σ H E I hf st hg;subst hP hw hK;obtain⟨xs,hq,hx⟩:=hg
  obtain⟨ax,rv,p,hz⟩:=I.tuple hq
  obtain⟨f0,f1,f2,f3,f4,f5⟩:=hf it (by simp)
  have hl:=rv.length
  exact wpAny_pyNext_tuple_end (I.ok.hd hc) st (show s.heap.IsTuple a ax.toArray from p) (by simp;omega) λh' eb=>⟨rfl,I.turned (t':=s.toks) (λb o hb e=>eb b o hb e) f0 f1 f3 f4 f5⟩
 self:=λ_ _ _ _ _ st h=>wpAny_pyIter_tupleiter st h
def vg{P:Program}{w:World}{K:zz8}{tg:Expr}(it:Addr)(lo:Int)(n:Nat):Turn P w K tg (L6 lo n) [it] it (λi h=>IsRangeIter h it (lo+(i:Nat)*1) ((n:Int)-(i:Nat)) 1) where
 mem:=by simp
 obj:=λi h st b hb=>by
  have e:b=it:=by simpa using hb
  subst e;exact⟨_,st,λv z=>by
   have z':Data.fields _=Data.cell v:=z
   cases z'⟩
 keep:=λi h h' st k=>k it (by simp) _ st
 item:=by
  intro X hP hw hK hc i aa s σ H E I hf st hg;subst hP hw hK;obtain⟨f0,f1,f2,f3,f4,f5⟩:=hf it (by simp)
  have W:=Walks.range (prog:=X.prog) (w:=X.w) (I.ok.hd hc) it lo 1 n
  refine W.item i s _ _ hg st λv h' tk hv fK kk=>?_
  obtain⟨t,rfl⟩:=hv
  have I1:Inv X aa σ H {s with heap:=h',toks:=tk}:=I.turned (λb o hb e=>kk b o (by simpa using hb) e) f0 f1 f3 f4 f5
  refine⟨_,rfl,vQ (s:={s with heap:=h',toks:=tk}) (n:="range_iterator") fK rfl rfl (by decide) ⟨.int (lo+i),H,I1,⟨t,?_⟩,⟨rfl,rfl⟩,fK,λb hb=>(hf b hb).1⟩⟩
  rw [Int.mul_one]
 done:=by
  intro X hP hw hK hc i aa s σ H E I hf st hg;subst hP hw hK;obtain⟨f0,f1,f2,f3,f4,f5⟩:=hf it (by simp)
  exact wpAny_pyNext_range_end (I.ok.hd hc) st (by have:n<=i:=hg;omega) λh' eb=>⟨rfl,I.turned (t':=s.toks) (λb o hb e=>eb b o hb e) f0 f1 f3 f4 f5⟩
 self:=λ_ _ _ _ _ st h=>wpAny_pyIter_rangeiter st h
section
variable{X:Cx}{tg:Expr}
noncomputable def MU(K:zz8)(tl:TE):TI:=λσ H R=>tl σ H λx H1=>∃a,x=.ref a/\(∃xs,fH K H1 a xs)/\R (Qh K a) H1
noncomputable def Qr(K:zz8)(tl:TE):TI:=λσ H R=>tl σ H λx H1=>∃a,x=.ref a/\(∃xs,eV K H1 a xs)/\R (P4 K a) H1
def wb{l:Expr}{tl:TE}(hl:PE X l tl):PI X tg l (MU X.K tl):=by
 intro aa s σ H R I h;refine bP (hl aa s σ H _ I h) λv s1 ⟨x,H1,I1,r1,q1⟩=>?_
 obtain⟨a,e,⟨xs,hq⟩,q⟩:=q1
 subst e;cases r1;obtain⟨ax,rv,p,hz⟩:=I1.list hq
 refine wpAny_pyIter_list p.isList ?_;refine⟨(zz9 s1),[(zz9 s1)],_,_,H1,rfl,I1.kept (t':=s1.toks) λb o e=>zzB _ e,xD a _,⟨_,zzX _ rfl,rfl,rfl⟩,λb hb=>?_,q⟩
 have e:b=(zz9 s1):=by simpa using hb
 subst e;exact I1.mP (zzE _) (I1.aK.fresh (zzE _))
def Iu{l:Expr}{tl:TE}(hl:PE X l tl):PI X tg l (Qr X.K tl):=by
 intro aa s σ H R I h;refine bP (hl aa s σ H _ I h) λv s1 ⟨x,H1,I1,r1,q1⟩=>?_
 obtain⟨a,e,⟨xs,hq⟩,q⟩:=q1
 subst e;cases r1;obtain⟨ax,rv,p,hz⟩:=I1.tuple hq
 refine wpAny_pyIter_tuple (show s1.heap.IsTuple a ax.toArray from p) ?_;refine⟨(zz9 s1),[(zz9 s1)],_,_,H1,rfl,I1.kept (t':=s1.toks) λb o e=>zzB _ e,uJ a _,⟨_,zzX _ rfl,rfl,rfl⟩,λb hb=>?_,q⟩
 have e:b=(zz9 s1):=by simpa using hb
 subst e;exact I1.mP (zzE _) (I1.aK.fresh (zzE _))
def rW{aa:List (Addr×Obj)}{σ:St}{H:Hp}{s:Shared}{R:It->Hp->Prop}{E:Value->Shared->Prop}{lo hi:Int}{t u v:Tok}{tk:Nat}(I:Inv X aa σ H s)(h1: -(2^62)<=lo)(h2:lo<2^62)(h3: -(2^62)<=hi)(h4:hi<2^62)
 (q:R (L6 lo (hi-lo).toNat) H):wpAny (model X.prog X.w) X.A (pyIter (.ref (zz9 s))) (SD X aa σ tg R) E {s with heap:=s.heap.push {cls:=.type "range",data:=.fields #[.int lo t,.int hi u,.int 1 v]},toks:=tk}:=by
 refine wpAny_pyIter_range (IsRange.new ..) (small_one h1 h2 h3 h4) ?_;have I1:Inv X aa σ H {s with heap:=s.heap.push {cls:=.type "range",data:=.fields #[.int lo t,.int hi u,.int 1 v]},toks:=tk}:=I.kept λb o e=>zzB _ e
 refine⟨(s.heap.push {cls:=.type "range",data:=.fields #[.int lo t,.int hi u,.int 1 v]}).objs.size,[(s.heap.push {cls:=.type "range",data:=.fields #[.int lo t,.int hi u,.int 1 v]}).objs.size],_,_,H,rfl,
  I1.kept (t':=tk) λb o e=>zzB _ e,vg _ lo (hi-lo).toNat,?_,λb hb=>?_,q⟩
 ·have e1:lo+((0:Nat):Int)*1=lo:=by simp
  have e2:(((hi-lo).toNat:Nat):Int)-((0:Nat):Int)=Builtin.Range.rangeSize lo hi 1:=by rw [rangeSize_one];split<;>omega
  show IsRangeIter _ _ (lo+((0:Nat):Int)*1) ((((hi-lo).toNat:Nat):Int)-((0:Nat):Int)) 1
  rw [e1,e2];exact zzX _ rfl
 ·have e:b=(s.heap.push {cls:=.type "range",data:=.fields #[.int lo t,.int hi u,.int 1 v]}).objs.size:=by simpa using hb
  subst e;exact I1.mP (zzE _) (I1.aK.fresh (zzE _))
noncomputable def Mb(ta:TA):TI:=λσ H R=>ta σ H λvs H1=>∃j:Int,vs=[.int j]/\ -(2^62)<=j/\j<2^62/\R (L6 0 j.toNat) H1
noncomputable def LO(ta:TA):TI:=λσ H R=>ta σ H λvs H1=>∃i j:Int,vs=[.int i,.int j]/\(-(2^62)<=i/\i<2^62/\ -(2^62)<=j/\j<2^62)/\R (L6 i (j-i).toNat) H1
theorem xl{a:Expr}{ta:TA}{p pos:Pos}(hg:Gl X "range")(hm:X.mg "range"=none)(ha:PA X [a] ta)(hs:starEach [a] X.env=[(false,eval a X.env)]:=by rfl):PI X tg (.Call (.Name "range" p) [a] [] pos) (Mb ta):=by
 intro aa s σ H R I h;refine Call_ (eC I hg hm boot_range (PyProof.Rows.callWith_type1 (bP (ha pos aa s σ H _ I h) λus s1 ⟨vs,H1,I1,r1,q1⟩=>?_) hs rfl))
 obtain⟨j,e,q1,q2,q⟩:=q1
 subst e;cases r1 with
 |cons r rr=>
  cases rr;obtain⟨t,rfl⟩:=r
  exact call_range_1 (rW I1 (by omega) (by omega) q1 q2 (by simpa using q))
theorem yq{a b:Expr}{ta:TA}{p pos:Pos}(hg:Gl X "range")(hm:X.mg "range"=none)(ha:PA X [a,b] ta)(hs:starEach [a,b] X.env=[(false,eval a X.env),(false,eval b X.env)]:=by rfl)(JK:starEach [b] X.env=[(false,eval b X.env)]:=by rfl):
 PI X tg (.Call (.Name "range" p) [a,b] [] pos) (LO ta):=by
 intro aa s σ H R I h;refine Call_ (eC I hg hm boot_range (PyProof.Rows.callWith_type1 (bP (ha pos aa s σ H _ I h) λus s1 ⟨vs,H1,I1,r1,q1⟩=>?_) (by rw [hs,JK]) (by rw [JK];rfl)))
 obtain⟨i,j,e,⟨q1,q2,q3,q4⟩,q⟩:=q1
 subst e;cases r1 with
 |cons r rr=>
  cases rr with
  |cons r' rr=>
   cases rr;obtain⟨t,rfl⟩:=r
   obtain⟨t',rfl⟩:=r'
   exact call_range_2 (rW I1 q1 q2 q3 q4 q)
noncomputable def PN(wi:TI)(g:TG)(tb:TS):TS:=λD σ H=>wi σ H λJ H1=>∃W:Nat->Nat->St->Hp->Prop,(∃m,W 0 m σ H1)/\∀i m σ H,W i m σ H->
 (J.stop i H/\D.nx σ H)\/(J.go i H/\∃N:St->Hp->Prop,(∀σ' H',N σ' H'->∃m',m'<m/\W (i+1) m' σ' H')/\∀x H',J.KI i H x H'->g x σ H' λσ2 H2=>tb {D with nx:=N,ct:=N,bk:=D.nx} σ2 H2)
noncomputable def pj(fp:List Addr)(h:Heap):List (Addr×Obj):=fp.filterMap λb=>(h.get? b).map λo=>(b,o)
def df{fp:List Addr}{h:Heap}{b:Addr}{o:Obj}(hb:b∈fp)(e:h.get? b=some o):(b,o)∈pj fp h:=zz1.mpr ⟨b,hb,by rw [e];rfl⟩
def yN{fp:List Addr}{h:Heap}{p:Addr×Obj}(hp:p∈pj fp h):p.1∈fp/\h.get? p.1=some p.2:=by
 obtain⟨b,hb,e⟩:=zz1.mp hp
 cases q:h.get? b with
 |none=>rw [q] at e;cases e
 |some o=>
  rw [q] at e;have e':(b,o)=p:=zzq e
  subst e';exact⟨hb,q⟩
theorem Inv.pinned{aa:List (Addr×Obj)}{σ:St}{H:Hp}{s:Shared}{fp:List Addr}(I:Inv X aa σ H s)(hf:∀b∈fp,fe X aa H b)(ho:∀b∈fp,∃o,s.heap.get? b=some o/\∀v,o.data≠.cell v):Inv X (aa++pj fp s.heap) σ H s:=
 I.gN λp hp=>(List.mem_append.mp hp).elim (λz=>I.pin p (zzR _ z)) λz=>by
  obtain⟨hb,e⟩:=yN z
  obtain⟨f0,f1,f2,_⟩:=hf p.1 hb
  obtain⟨o,e',d⟩:=ho p.1 hb
  rw [e] at e';cases e';exact⟨e,f0,f1,f2,d⟩
def Inv.iR{aa pl:List (Addr×Obj)}{σ:St}{H:Hp}{s:Shared}(I:Inv X (aa++pl) σ H s):Inv X aa σ H s:=I.gN λp hp=>I.pin p (zzR _ (zzc _ hp))
def Ko{iter:Expr}{body:List Stmt}{wi:TI}{g:TG}{tb:TS}{pos:Pos}(hp:PassesOwn (model X.prog X.w) X.A X.env X.xe)(hc:X.calm=true)(hi:PI X tg iter wi)(hg:PG X tg g)(hb:wJ X body tb)
 (hs:∀x,foldedSetIterable iter X.env x=pure x:=by intro _;rfl):PS X (.For tg iter body [] pos) (PN wi g tb):=by
 intro aa s σ H D I h;refine wpAny_For (bP (hi aa s σ H _ I h) λv s1 h1=>bP h1 λPw s2 h2=>?_) hs
 obtain⟨it,fp,tn,J,H2,e,I2,T,LH,f2,W,⟨m0,w0⟩,turn⟩:=h2
 subst e;have IH:∀{H':Hp},(∀b∈fp,H' b=none)->∀b∈fp,fe X aa H' b:=λhn b hb=>⟨hn b hb,(f2 b hb).2⟩
 refine codeAny_forLoop_any (λn s'=>∃i σ' H',Inv X aa σ' H' s'/\tn i s'.heap/\(∀b∈fp,H' b=none)/\W i n σ' H') ?_ m0 ⟨0,σ,H2,I2,LH,λb hb=>(f2 b hb).1,w0⟩
 rintro n s3 ⟨i,σ3,H3,I3,st3,fr3,w3⟩
 rcases turn i n σ3 H3 w3 with⟨stop,qn⟩|⟨go,N,hN,step⟩
 ·refine wpAny_passesOwn hp (bP (T.done X rfl rfl rfl hc i aa s3 σ3 H3 X.xe I3 (IH fr3) st3 stop) λr s4 ⟨hr,I4⟩=>?_)
  subst hr;exact wpAny_execs_nil ⟨σ3,H3,I4,qn⟩
 ·refine wpAny_passesOwn hp (bP (T.item X rfl rfl rfl hc i aa s3 σ3 H3 X.xe I3 (IH fr3) st3 go) λr s4 ⟨u,hr,h4⟩=>?_)
  subst hr;refine wpAny_passesOwn hp (bP h4 λ_ s5 ⟨x,H5,I5,r5,y5,st5,fr5⟩=>?_);have OP:=I5.pinned (IH fr5) (T.obj _ _ st5)
  refine wpAny_passesOwn hp (bP (hg _ s5 σ3 H5 x u _ OP r5 (step x H5 y5)) λ_ s6 ⟨σ6,H6,I6,q6⟩=>?_)
  refine wpAny_passesOwn hp (bP (hb _ s6 σ6 H6 _ I6 q6) λf s7 q7=>?_)
  have again:∀{σ7:St} {H7:Hp},Inv X (aa++pj fp s5.heap) σ7 H7 s7->N σ7 H7->∃m,m<n/\∃i σ' H',Inv X aa σ' H' s7/\tn i s7.heap/\(∀b∈fp,H' b=none)/\W i m σ' H':=λ{σ7 H7} I7 n7=>by
   obtain⟨m',hm,w7⟩:=hN σ7 H7 n7
   refine⟨m',hm,i+1,σ7,H7,I7.iR,T.keep _ _ _ st5 λb hb o e=>(I7.pin (b,o) (zzR _ (zzR _ (df hb e)))).1,λb hb=>?_,w7⟩
   obtain⟨o,e,d⟩:=T.obj _ _ st5 b hb
   exact(I7.pin (b,o) (zzR _ (zzR _ (df hb e)))).2.1
  cases f with
  |next=>obtain⟨σ7,H7,I7,n7⟩:=q7;exact again I7 n7
  |cont=>obtain⟨σ7,H7,I7,n7⟩:=q7;exact again I7 n7
  |brk=>obtain⟨σ7,H7,I7,q7⟩:=q7;exact⟨σ7,H7,I7.iR,q7⟩
  |ret v=>obtain⟨x7,σ7,H7,I7,r7,q7⟩:=q7;exact⟨x7,σ7,H7,I7.iR,r7,q7⟩
end
noncomputable abbrev R2:=V->V->Hp->VK->Prop
def ik(X:Cx)(f:Value->Value->Sem Value)(r:R2):Prop:=
 ∀(aa:List (Addr×Obj)) (s:Shared) (σ:St) (H:Hp) (x y:V) (v u:Value) (Q:VK),Inv X aa σ H s->RelV x v->RelV y u->r x y H Q->
  wpAny (model X.prog X.w) X.A (f v u) (EP X aa σ Q) X.xe s
def bW(X:Cx)(f:Value)(r:List V->Hp->VK->Prop):Prop:=
 ∀(aa:List (Addr×Obj)) (s:Shared) (σ:St) (H:Hp) (xs:List V) (us:List Value) (Q:VK),Inv X aa σ H s->Vals xs us->r xs H Q->
  wpAny (model X.prog X.w) X.A (call f us) (EP X aa σ Q) X.xe s
noncomputable def Kz(r:R2)(ta tb:TE):TE:=λσ H Q=>ta σ H λx H1=>tb σ H1 λy H2=>r x y H2 Q
noncomputable def rI(C:Int->Int->Prop)(g:Int->Int->V):R2:=λx y H Q=>∃i j,x=.int i/\y=.int j/\C i j/\Q (g i j) H
noncomputable def H8(g:Int->Int->V):R2:=λx y H Q=>∃i j,x=.int i/\y=.int j/\Q (g i j) H
section
variable{X:Cx}{a b:Expr}{ta tb:TE}{pos:Pos}
def Hb(ha:PE X a ta)(hb:PE X b tb){aa:List (Addr×Obj)}{s:Shared}{σ:St}{H:Hp}{R:V->V->Hp->Prop}(I:Inv X aa σ H s)
 (h:ta σ H λx H1=>tb σ H1 λy H2=>R x y H2) {Q:Value->Shared->Prop} {f:Value->Value->Sem Value}
 (hf:∀v u s2 x y H2,Inv X aa σ H2 s2->RelV x v->RelV y u->R x y H2->wpAny (model X.prog X.w) X.A (f v u) Q X.xe s2):
 wpAny (model X.prog X.w) X.A (eval a X.env) (λv s₁=>wpAny (model X.prog X.w) X.A (eval b X.env) (λu s₂=>wpAny (model X.prog X.w) X.A (f v u) Q X.xe s₂) X.xe s₁) X.xe s:=by
 refine bP (ha aa s σ H _ I h) λv s1 ⟨x,H1,I1,r1,q1⟩=>?_
 refine bP (hb aa s1 σ H1 _ I1 q1) λu s2 ⟨y,H2,I2,r2,q2⟩=>?_
 exact hf v u s2 x y H2 I2 r1 r2 q2
def MT{op:Operator}{r:R2}(ho:ik X (binaryOp op) r)(ha:PE X a ta)(hb:PE X b tb):PE X (.BinOp a op b pos) (Kz r ta tb):=by
 intro aa s σ H Q I h;exact wpAny_BinOp (Hb ha hb I h λv u s2 x y H2 I2 rx ry q=>ho aa s2 σ H2 x y v u Q I2 rx ry q)
def O0{f:Value->Value->Sem Value}{C:Int->Int->Prop}{g:Int->Int->Int}
 (rule:∀(i j:Int) (t u:Tok) (s:Shared) (Q:Value->Shared->Prop) (E:Value->Shared->Prop),C i j->Q (.int (g i j) s.toks) {s with toks:=s.toks+1}->wpAny (model X.prog X.w) X.A (f (.int i t) (.int j u)) Q E s):
 ik X f (rI C λi j=>.int (g i j)):=by
 intro aa s σ H x y v u Q I rx ry h;obtain⟨i,j,rfl,rfl,hc,q⟩:=h
 obtain⟨t,rfl⟩:=rx
 obtain⟨t',rfl⟩:=ry
 exact rule i j t t' s _ _ hc ⟨.int (g i j),H,I.tok _,⟨_,rfl⟩,q⟩
def LN{f:Value->Value->Sem Value}{g:Int->Int->Int}
 (rule:∀(i j:Int) (t u:Tok) (s:Shared) (Q:Value->Shared->Prop) (E:Value->Shared->Prop),Q (.int (g i j) s.toks) {s with toks:=s.toks+1}->wpAny (model X.prog X.w) X.A (f (.int i t) (.int j u)) Q E s):
 ik X f (H8 λi j=>.int (g i j)):=by
 intro aa s σ H x y v u Q I rx ry h;obtain⟨i,j,rfl,rfl,q⟩:=h
 obtain⟨t,rfl⟩:=rx
 obtain⟨t',rfl⟩:=ry
 exact rule i j t t' s _ _ ⟨.int (g i j),H,I.tok _,⟨_,rfl⟩,q⟩
def JZ{f:Value->Value->Sem Value}{g:Int->Int->Bool}
 (rule:∀(i j:Int) (t u:Tok) (s:Shared) (Q:Value->Shared->Prop) (E:Value->Shared->Prop),Q (.bool (g i j)) s->wpAny (model X.prog X.w) X.A (f (.int i t) (.int j u)) Q E s):
 ik X f (H8 λi j=>.bl (g i j)):=by
 intro aa s σ H x y v u Q I rx ry h;obtain⟨i,j,rfl,rfl,q⟩:=h
 obtain⟨t,rfl⟩:=rx
 obtain⟨t',rfl⟩:=ry
 exact rule i j t t' s _ _ ⟨.bl (g i j),H,I,rfl,q⟩
def Oy(i j:Int):Prop:=0<j/\j<1073741824
def Iz(i j:Int):Prop:=(-(2^64)<i/\i<2^64)\/(-(2^64)<j/\j<2^64)
def Iz.ok{i j:Int}(h:Iz i j):IntMulOk i j:=by
 rcases h with⟨h1,h2⟩|⟨h1,h2⟩
 ·exact .of_left (intBits_le_64 h1 h2)
 ·exact .of_right (intBits_le_64 h1 h2)
def H9:ik X (binaryOp .Add) (H8 λi j=>.int (i+j)):=LN λ_ _ _ _ _ _ _ q=>add_int q
def Hy:ik X (binaryOp .Sub) (H8 λi j=>.int (i-j)):=LN λ_ _ _ _ _ _ _ q=>sub_int q
def HV:ik X (binaryOp .Mult) (rI Iz λi j=>.int (i*j)):=O0 λ_ _ _ _ _ _ _ hc q=>mul_int q hc.ok
theorem D4:ik X (binaryOp .FloorDiv) (rI Oy λi j=>.int (i/j)):=O0 λi j _ _ _ _ _ hc q=>by
 have h1:(0:Int)<j:=hc.1
 have h2:j<1073741824:=hc.2
 exact floordiv_int (by omega) (by rw [Int.fdiv_eq_ediv_of_nonneg i (by omega)];exact q) (.inl (PyProof.noPylong_small (by omega)))
theorem JM:ik X (binaryOp .Mod) (rI (λ_ j=>0<j) λi j=>.int (i%j)):=O0 λi j _ _ _ _ _ hc q=>by
 have h1:(0:Int)<j:=hc
 exact mod_int' (by omega) (by rw [Int.fmod_eq_emod_of_nonneg i (by omega)];exact q)
variable{c:Expr}{tc:TE}
def Iq{aa:List (Addr×Obj)}{σ:St}{H:Hp}{s:Shared}{Q:VK}{k k':Bool}(I:Inv X aa σ H s)(q:Q (.bl k) H)(e:k=k'):EP X aa σ Q (.bool k') s:=by
 subst e;exact⟨.bl k,H,I,rfl,q⟩
def Me:ik X (compareOp .Lt) (H8 λi j=>.bl (decide (i<j))):=JZ λ_ _ _ _ _ _ _ q=>lt_int q
def M5:ik X (compareOp .LtE) (H8 λi j=>.bl (decide (i<=j))):=JZ λ_ _ _ _ _ _ _ q=>le_int q
def LK:ik X (compareOp .Gt) (H8 λi j=>.bl (decide (j<i))):=JZ λ_ _ _ _ _ _ _ q=>gt_int q
def E7:ik X (compareOp .IsNot) (λx y H Q=>y=.aH/\Q (.bl (!decide (x=.aH))) H):=by
 intro aa s σ H x y v u Q I rx ry h;obtain⟨rfl,q⟩:=h
 cases ry;refine isnot_none_gen (Iq I q ?_);cases x<;>first
  |(cases rx;rfl)
  |(obtain⟨t,rfl⟩:=rx;rfl)
def QC(b:Expr){op:CmpOp}(h:op≠.In:=by decide)(h2:op≠.NotIn:=by decide):behindInMarks op b=false:=by
 have e1:(op==CmpOp.In)=false:=by cases op<;>first|rfl|exact absurd rfl h
 have e2:(op==CmpOp.NotIn)=false:=by cases op<;>first|rfl|exact absurd rfl h2
 cases b<;>simp [behindInMarks,e1,e2]
def DQ{op:CmpOp}{r:R2}(ho:ik X (compareOp op) r)(ha:PE X a ta)(hb:PE X b tb)(hm:behindInMarks op b=false):PE X (.Compare a [op] [b] pos) (Kz r ta tb):=by
 intro aa s σ H Q I h;exact wpAny_Compare1 (Hb ha hb I h λv u s2 x y H2 I2 rx ry q=>ho aa s2 σ H2 x y v u Q I2 rx ry q) hm
noncomputable def zC(t:TE):TT:=λσ H Q=>t σ H λx H'=>∃k,x=.bl k/\Q k H'
def Eg{op:CmpOp}{r:R2}(ho:ik X (compareOp op) r)(ha:PE X a ta)(hb:PE X b tb)(hm:behindInMarks op b=false):PT X (.Compare a [op] [b] pos) (zC (Kz r ta tb)):=by
 intro aa s σ H Q I h;refine wpAny_isTrue_Compare1 (bP (ha aa s σ H _ I h) λv s1 ⟨x,H1,I1,r1,q1⟩=>bP (hb aa s1 σ H1 _ I1 q1) λu s2 ⟨y,H2,I2,r2,q2⟩=>
  bP (ho aa s2 σ H2 x y v u _ I2 r1 r2 q2) λc s3 ⟨z,H3,I3,r3,k,e,q3⟩=>?_) hm
 subst e;cases r3;exact wpAny_truthy_bool ⟨H3,I3,q3⟩
noncomputable def uw(r r':R2)(ta tb tc:TE):TE:=λσ H Q=>ta σ H λx H1=>tb σ H1 λy H2=>r x y H2 λz H3=>∃k,z=.bl k/\
 (if k=true then tc σ H3 λw' H4=>r' y w' H4 Q else Q (.bl false) H3)
def A8{op Ii:CmpOp}{r r':R2}(ho:ik X (compareOp op) r)(iF:ik X (compareOp Ii) r')(ha:PE X a ta)(hb:PE X b tb)(hc:PE X c tc)
 (hm:lastMarks [op,Ii] [b,c]=false:=by with_unfolding_all rfl):PE X (.Compare a [op,Ii] [b,c] pos) (uw r r' ta tb tc):=by
 intro aa s σ H Q I h;refine Compare_chain (bP (ha aa s σ H _ I h) λv s1 ⟨x,H1,I1,r1,q1⟩=>chain_link (bP (hb aa s1 σ H1 _ I1 q1) λu s2 ⟨y,H2,I2,r2,q2⟩=>
  bP (ho aa s2 σ H2 x y v u _ I2 r1 r2 q2) λd s3 ⟨z,H3,I3,r3,k,e,q3⟩=>?_)) hm
 subst e;cases r3;refine wpAny_truthy_bool ?_;cases k with
 |false=>exact ite_ff ⟨.bl false,H3,I3,rfl,q3⟩
 |true=>exact ite_tt (chain_last (bP (hc aa s3 σ H3 _ I3 q3) λw' s4 ⟨z',H4,I4,r4,q4⟩=>iF aa s4 σ H4 y z' u w' Q I4 r2 r4 q4))
def Ap{op Ii:CmpOp}{r r':R2}(ho:ik X (compareOp op) r)(iF:ik X (compareOp Ii) r')(ha:PE X a ta)(hb:PE X b tb)(hc:PE X c tc)
 (hm:lastMarks [op,Ii] [b,c]=false:=by with_unfolding_all rfl):PT X (.Compare a [op,Ii] [b,c] pos) (zC (uw r r' ta tb tc)):=by
 intro aa s σ H Q I h;refine isTrue_chain (bP (ha aa s σ H _ I h) λv s1 ⟨x,H1,I1,r1,q1⟩=>test_link (bP (hb aa s1 σ H1 _ I1 q1) λu s2 ⟨y,H2,I2,r2,q2⟩=>
  bP (ho aa s2 σ H2 x y v u _ I2 r1 r2 q2) λd s3 ⟨z,H3,I3,r3,k,e,q3⟩=>?_)) hm
 subst e;cases r3;refine wpAny_truthy_bool ?_;cases k with
 |false=>
  obtain⟨k',e',q'⟩:=q3
  cases e';exact ite_ff ⟨H3,I3,q'⟩
 |true=>
  refine ite_tt (test_last (bP (hc aa s3 σ H3 _ I3 q3) λw' s4 ⟨z',H4,I4,r4,q4⟩=>bP (iF aa s4 σ H4 y z' u w' _ I4 r2 r4 q4) λd' s5 ⟨z2,H5,I5,r5,k2,e2,q5⟩=>?_))
  subst e2;cases r5;exact wpAny_truthy_bool ⟨H5,I5,q5⟩
def lj:(sizeLine:Nat)<2^63:=by rw [sizeLine_eq];decide
def uC:ik X (binaryOp .Add) (λx y H Q=>∃i j,x=.str i/\y=.str j/\i.length+j.length<=sizeLine/\Q (.str (i++j)) H):=by
 intro aa s σ H x y v u Q I rx ry h;obtain⟨i,j,rfl,rfl,hz,q⟩:=h
 obtain⟨t,rfl⟩:=rx
 obtain⟨t',rfl⟩:=ry
 exact add_str (λt' tk=>⟨.str (i++j),H,I.tok _,⟨_,rfl⟩,q⟩) hz
def vals1{x:V}{us:List Value}(r:Vals [x] us):∃u,us=[u]/\RelV x u:=by
 cases r with
 |cons r1 r2=>cases r2;exact⟨_,rfl,r1⟩
def vals2{x y:V}{us:List Value}(r:Vals [x,y] us):∃u w',us=[u,w']/\RelV x u/\RelV y w':=by
 cases r with
 |cons r1 r2=>
  cases r2 with
  |cons r3 r4=>cases r4;exact⟨_,_,rfl,r1,r3⟩
def BX:bW X (.builtin "abs") (λxs H Q=>∃i,xs=[.int i]/\Q (.int (if i<0 then -i else i)) H):=by
 intro aa s σ H xs us Q I r h;obtain⟨i,rfl,q⟩:=h
 obtain⟨u,rfl,t,rfl⟩:=vals1 r
 exact call_abs_int λu tk=>⟨.int (if i<0 then -i else i),H,I.tok _,⟨_,rfl⟩,q⟩
def xo(hc:X.calm=true):bW X (.builtin "max") (λxs H Q=>∃i j,xs=[.int i,.int j]/\Q (.int (if j>i then j else i)) H):=by
 intro aa s σ H xs us Q I r h;obtain⟨i,j,rfl,q⟩:=h
 obtain⟨u,w',rfl,⟨t,rfl⟩,⟨t',rfl⟩⟩:=vals2 r
 refine max_two_ints (I.ok.hd hc) λh' tk k=>⟨_,H,I.kept k,?_,q⟩
 by_cases hj:j>i
 ·rw [if_pos hj,if_pos hj];exact⟨_,rfl⟩
 ·rw [if_neg hj,if_neg hj];exact⟨_,rfl⟩
def pf:bW X (.type "str") (λxs H Q=>∃i,xs=[.int i]/\i.natAbs.log2<1920/\Q (.str (toString i)) H):=by
 intro aa s σ H xs us Q I r h;obtain⟨i,rfl,hz,q⟩:=h
 obtain⟨u,rfl,t,rfl⟩:=vals1 r
 exact PySem.P.str_of_int hz ⟨.str _,H,I.tok _,⟨_,rfl⟩,q⟩
end
def km.some_of{v:V}{o:Option Value}(r:km (some v) o):∃u,o=some u/\RelV v u:=by
 cases o with
 |none=>exact(show False from r).elim
 |some u=>exact⟨u,rfl,r⟩
structure du(k:Nat)(A:Around):Prop where
 hd:A.handled=none
 dp:A.depth+3*k+5<recursionLimit
 un:A.units+16*k+200<cLine
theorem du.mono{j k:Nat}{A:Around}(r:du k A)(h:j<=k):du j A:=⟨r.hd,by have:=r.dp;omega,by have:=r.un;omega⟩
theorem du.deeper{k:Nat}{A:Around}(r:du (k+1) A)(env:Env):du k (A.deeper env):=
 ⟨r.hd,by have:=r.dp;show A.depth+1+3*k+5<_;omega,by have:=r.un;show A.units+3+16*k+200<_;omega⟩
theorem du.in1{k:Nat}{A:Around}(r:du (k+1) A):du k A.in1:=
 ⟨r.hd,by have:=r.dp;show A.depth+3*k+5<_;omega,by have:=r.un;show A.units+1+16*k+200<_;omega⟩
def du.depth{k:Nat}{A:Around}(r:du k A):A.depth<recursionLimit:=by have:=r.dp;omega
def du.units{k:Nat}{A:Around}(r:du k A):A.units+64<cLine:=by have:=r.un;omega
noncomputable def Qq:TA:=λ_ H Q=>Q [] H
noncomputable def Lf(ta:TE)(tr:TA):TA:=λσ H Q=>ta σ H λx H1=>tr σ H1 λxs H2=>Q (x::xs) H2
section
variable{X:Cx}{e:Expr}{es:List Expr}{te:TE}{t:TA}{pos:Pos}
def dc:PA X [] Qq:=λ_ _ _ _ H Q I h=>Calls.spliced_nil ⟨[],H,I,.nil,h⟩
theorem bS(ha:PE X e te)(hr:PA X es t)(hs:starEach (e::es) X.env=(false,eval e X.env)::starEach es X.env:=by rfl):PA X (e::es) (Lf te t):=by
 intro pos aa s σ H Q I h;rw [hs];show wpAny _ _ (spliced ((false,eval e X.env)::backTo pos (starEach es X.env))) _ _ s;refine Calls.spliced_cons (bP (ha aa s σ H _ I h) λu s1 ⟨x,H1,I1,r1,q1⟩=>?_)
 exact bP (hr pos aa s1 σ H1 _ I1 q1) λus s2 ⟨xs,H2,I2,r2,q2⟩=>⟨x::xs,H2,I2,.cons r1 r2,q2⟩
noncomputable def Pr(t:TA):TE:=λσ H Q=>t σ H λxs H1=>xs.length<=sizeLine/\∀p,H1 p=none->Q (.ref p) (upd H1 p (.tup xs))
noncomputable def Po(t:TA):TE:=λσ H Q=>t σ H λxs H1=>xs.length<=sizeLine/\∀p,H1 p=none->Q (.ref p) (upd H1 p (.lst xs))
def Jo{x1}(h:PA X es t):PE X (.Tuple es x1 pos) (Pr t):=by
 intro aa s σ H Q I hq;refine wpAny_Tuple_spliced (bP (h pos aa s σ H _ I hq) λus s1 ⟨xs,H1,I1,r,z,q⟩=>⟨by rw [<-r.length];exact z,?_⟩)
 have hf:H1 (zz9 s1)=none:=I1.aK.fresh (zzE _)
 refine⟨.ref (zz9 s1),upd H1 (zz9 s1) (.tup xs),I1.laid (t':=s1.toks) (λb u e=>zzB _ e) (zzE _) ?_,rfl,q _ hf⟩;exact⟨z,us,r,⟨_,zzX _ rfl,rfl,_,rfl⟩⟩
def Kq(h:PA X es t):PE X (.List es pos) (Po t):=by
 intro aa s σ H Q I hq;refine wpAny_List_spliced (bP (h pos aa s σ H _ I hq) λus s1 ⟨xs,H1,I1,r,z,q⟩=>⟨by rw [<-r.length];exact z,?_⟩)
 have hf:H1 (zz9 s1)=none:=I1.aK.fresh (zzE _)
 refine⟨.ref (zz9 s1),upd H1 (zz9 s1) (.lst xs),I1.laid (t':=s1.toks) (λb u e=>zzB _ e) (zzE _) ?_,rfl,q _ hf⟩;exact⟨z,us,0,r,zzX _ rfl⟩
end
noncomputable abbrev Sp:=List V->Hp->VK->XK->Prop
noncomputable abbrev yX:=List Env->Hp->Shared->XK->Value->Shared->Prop
structure iU(P:Program)(w:World)(K:zz8)(mg:Str->Option Value)(base:Heap)(A:Around)(outer:List Env)(s:Shared)(H:Hp):Prop where
 frames:A.frames=some outer
 mod:Mod K mg base
 bs:∀b o,base.get? b=some o->s.heap.get? b=some o/\H b=none
 xR:base.objs.size<=(zz9 s)
 gq:s.heap.FunFrames base outer
 ym:∀b∈eA outer,H b=none
 aK:d6 P w H s.heap
 bare:AllBare s.gens
def CE(outer:List Env)(P:Program)(w:World)(H:Hp)(s:Shared)(Q:VK)(u:Value)(s':Shared):Prop:=
 ∃v H',s'.os=s.os/\AllBare s'.gens/\Un (eA outer) [] H H' s.heap s'.heap/\d6 P w H' s'.heap/\RelV v u/\Q v H'
def CR(CX:yX)(outer:List Env)(P:Program)(w:World)(H:Hp)(s:Shared)(Q:VK)(E:XK)(r:Result)(s':Shared):Prop:=
 match r with
 |.ok (.ret u)=>CE outer P w H s Q u s'
 |.ok _=>False
 |.error e=>CX outer H s E e s'
structure gf(P:Program)(w:World)(K:zz8)(mg:Str->Option Value)(base:Heap)(CX:yX)(k:Nat)(f:Addr)(fd:FuncData)(ps:List Str)(sp:Sp):Prop where
 len:∀vs H Q E,sp vs H Q E->vs.length=ps.length
 run:∀(A:Around) (outer:List Env) (s:Shared) (H:Hp) (args:Args) (us:List Value) (vs:List V) (Q:VK) (E:XK),du k A->iU P w K mg base A outer s H->BindsTo s fd args (ps.zip us)->Vals vs us->sp vs H Q E->
  codeAny (model P w) A (.call (.ref f) args) (CR CX outer P w H s Q E) s
def gf.mono{P:Program}{w:World}{K:zz8}{mg:Str->Option Value}{base:Heap}{CX:yX}{j k:Nat}{f:Addr}{fd:FuncData}{ps:List Str}{sp:Sp}(F:gf P w K mg base CX j f fd ps sp)(h:j<=k):
 gf P w K mg base CX k f fd ps sp:=⟨F.len,λA outer s H args us vs Q E hr=>F.run A outer s H args us vs Q E (hr.mono h)⟩
def gf.imp{P:Program}{w:World}{K:zz8}{mg:Str->Option Value}{base:Heap}{CX:yX}{k:Nat}{f:Addr}{fd:FuncData}{ps:List Str}{sp Sh:Sp}(F:gf P w K mg base CX k f fd ps sp)
 (h:∀vs H Q E,Sh vs H Q E->sp vs H Q E):gf P w K mg base CX k f fd ps Sh:=
 ⟨λvs H Q E q=>F.len vs H Q E (h _ _ _ _ q),λA outer s H args us vs Q E hr he hb hv hs=>F.run A outer s H args us vs Q E hr he hb hv (h _ _ _ _ hs)⟩
def iU.in1{P:Program}{w:World}{K:zz8}{mg:Str->Option Value}{base:Heap}{A:Around}{outer:List Env}{s:Shared}{H:Hp}(e:iU P w K mg base A outer s H):
 iU P w K mg base A.in1 outer s H:=⟨e.frames,e.mod,e.bs,e.xR,e.gq,e.ym,e.aK,e.bare⟩
section
variable{X:Cx}{aa:List (Addr×Obj)}{σ:St}{H:Hp}{s s':Shared}
def Inv.yc(I:Inv X aa σ H s):iU X.prog X.w X.K X.mg X.base X.A X.stack s H:=
 ⟨I.ok.frames,I.ok.mod,I.bs,zzU I.ok.xR I.sz,I.stack,I.kM,I.aK,I.bare⟩
def Inv.after{Q:VK}{u:Value}(I:Inv X aa σ H s)(h:CE X.stack X.prog X.w H s Q u s'):EP X aa σ Q u s':=by
 obtain⟨v,H',os,bare,un,aK,r,q⟩:=h
 obtain⟨hh,g,d,t,os'⟩:=s'
 obtain rfl:os'=s.os:=os
 exact⟨v,H',I.call (h':=hh) (g':=g) (d':=d) (t':=t) (ch:=[]) un aK bare (λb z=>absurd z (by simp)),r,q⟩
end
def Binds(K:zz8)(fd:FuncData)(ps:List Str)(ds:List Value):Prop:=
 ∀(s:Shared) (us:List Value),K.In s.heap->(us++ds).length=ps.length->BindsTo s fd ⟨us,[]⟩ (ps.zip (us++ds))
def Binds.all{K:zz8}{fd:FuncData}{ps:List Str}(h:∀us:List Value,us.length=ps.length->bindArgs fd ⟨us,[]⟩=pure (ps.zip us)):Binds K fd ps []:=λs us _ hl=>by
 rw [zz6] at hl⊢;exact .of_eq (h us hl)
def Passes(CX:yX)(X:Cx)(E:XK):Prop:=∀(aa:List (Addr×Obj)) (σ:St) (H:Hp) (s:Shared) (e:Value) (s':Shared),Inv X aa σ H s->CX X.stack H s E e s'->X.xe e s'
structure kO(N P:List Str)(sc:Scope):Prop where
 kind:sc.kind=.function
 co:sc.isCoroutine=false
 gen:sc.isGenerator=false
 nd:N.Nodup
 pre:N.take P.length=P
 par:∀x∈P,sc.names.lookup x=some .local\/sc.names.lookup x=some .cell
 GP:∀y∈sc.names,y.2≠.free
theorem oQ{kindOf:Str->Option NameKind}{x:Str}:∀{binds:List (Str×Value)} {m:Str->Option Value},(∀v,(x,v)∉binds)->bindL kindOf binds m x=m x
 |[],_,_=>rfl
 |(n,v)::r,m,h=>by
  unfold bindL;rw [oQ λw hw=>h w (zzI _ hw)]
  split
  ·have:x≠n:=by rintro rfl;exact h v zzP
   simp [this]
  ·rfl
theorem oq{kindOf:Str->Option NameKind}{x:Str}:∀{binds:List (Str×Value)} {m:Str->Option Value},(∀v,(x,v)∉binds)->bindC kindOf binds m x=m x
 |[],_,_=>rfl
 |(n,v)::r,m,h=>by
  unfold bindC;rw [oq λw hw=>h w (zzI _ hw)]
  split
  ·rfl
  ·have:x≠n:=by rintro rfl;exact h v zzP
   simp [this]
theorem oz{kindOf:Str->Option NameKind}{x:Str}{v:Value}:∀{P:List Str} {vs:List Value} {i:Nat} {m:Str->Option Value},P.Nodup->P[i]?=some x->vs[i]?=some v->kindOf x=some .local->
 bindL kindOf (P.zip vs) m x=some v
 |[],_,_,_,_,h,_,_=>by simp at h
 |_::_,[],_,_,_,_,h,_=>by simp at h
 |p::P,w::vs,0,m,nd,h1,h2,hk=>by
  simp at h1 h2;subst h1;subst h2;show bindL kindOf ((p,w)::P.zip vs) m p=_
  unfold bindL;rw [oQ λv hv=>(List.nodup_cons.mp nd).1 (List.of_mem_zip hv).1,if_pos hk]
  simp
 |p::P,w::vs,i+1,m,nd,h1,h2,hk=>by
  show bindL kindOf ((p,w)::P.zip vs) m x=_
  unfold bindL;exact oz (i:=i) (List.nodup_cons.mp nd).2 (by simpa using h1) (by simpa using h2) hk
theorem nV{kindOf:Str->Option NameKind}{x:Str}{v:Value}:∀{P:List Str} {vs:List Value} {i:Nat} {m:Str->Option Value},P.Nodup->P[i]?=some x->vs[i]?=some v->kindOf x≠some .local->
 bindC kindOf (P.zip vs) m x=some v
 |[],_,_,_,_,h,_,_=>by simp at h
 |_::_,[],_,_,_,_,h,_=>by simp at h
 |p::P,w::vs,0,m,nd,h1,h2,hk=>by
  simp at h1 h2;subst h1;subst h2;show bindC kindOf ((p,w)::P.zip vs) m p=_
  unfold bindC;rw [oq λv hv=>(List.nodup_cons.mp nd).1 (List.of_mem_zip hv).1,if_neg hk]
  simp
 |p::P,w::vs,i+1,m,nd,h1,h2,hk=>by
  show bindC kindOf ((p,w)::P.zip vs) m x=_
  unfold bindC;exact nV (i:=i) (List.nodup_cons.mp nd).2 (by simpa using h1) (by simpa using h2) hk
noncomputable def start(N:List Str)(vs:List V):St:=vs.map some++List.replicate (N.length-vs.length) none
noncomputable def dA(CX:yX)(P:Program)(w:World)(K:zz8)(mg:Str->Option Value)(base:Heap)(N:List Str)(qual:Str)(scope:Scope)(f:Addr)(cd:Value)(A:Around)(outer:List Env)(s:Shared)(H:Hp)(E:XK):Cx where
 prog:=P
 w:=w
 K:=K
 mg:=mg
 base:=base
 A:=A.deeper (envOfC qual scope (zz9 s) f cd)
 N:=N
 s₀:=s
 H₀:=H
 env:=envOfC qual scope (zz9 s) f cd
 outer:=outer
 stack:=envOfC qual scope (zz9 s) f cd::outer
 ex:=[]
 calm:=true
 fn:=λ_=>true
 pn:=[]
 xe:=λe s'=>wpAny (model P w) (A.deeper (envOfC qual scope (zz9 s) f cd)) (leaving (envOfC qual scope (zz9 s) f cd) e) (λ_ FG=>CX outer H s E e FG) (λe' FG=>CX outer H s E e' FG) s'
def rY{sc:Scope}{n:Nat}{x:Str}(h:sc.names.lookup x=some .cell):∃c,(cellsFrom n sc.names []).lookup x=some c:=by
 have q:=PySem.W.cellsFrom_some sc.names n [] (.inl h)
 exact zzp.mp q
def yE{CX:yX}{P:Program}{w:World}{K:zz8}{mg:Str->Option Value}{base:Heap}{N ps:List Str}{qual:Str}{scope:Scope}{f:Addr}{cd:Value}{A:Around}{outer:List Env}{s s1:Shared}{H:Hp}{E:XK}{us:List Value}{vs:List V}
 (S:kO N ps scope) (hd:A.handled=none) (e0:iU P w K mg base A outer s H) (hl:vs.length=ps.length) (r:Vals vs us)
 (x:InCallC s (zz9 s) (bindL (envOfC qual scope (zz9 s) f cd).kindOf (ps.zip us) λ_=>none) (cellsFrom ((zz9 s)+1) scope.names []) (bindC (envOfC qual scope (zz9 s) f cd).kindOf (ps.zip us) λ_=>none) s1):
 Inv (dA CX P w K mg base N qual scope f cd A outer s H E) [] (start N vs) H s1:=by
 have hpl:ps.length<=N.length:=by have:=congrArg List.length S.pre;rw [List.length_take] at this;omega
 obtain⟨h1,tk,rfl,hk⟩:=x.done
 have Fc:∀b:Addr,b∉(dA CX P w K mg base N qual scope f cd A outer s H E).ex:=λb z=>absurd (show b∈([]:List Addr) from z) (by simp)
 refine⟨⟨e0.mod,S.kind,rfl,rfl,zzE _,λy z c h1 h2=>?_,λy hy=>?_,λy c _ h=>?_,λ_=>hd,Around.frames_deeper e0.frames,.inr ⟨rfl,rfl⟩,λb z=>absurd z (Fc b),e0.bs,e0.xR,λb _ _=>Fc b,λb z=>absurd z (Fc b),e0.gq,e0.ym⟩,
  rfl,e0.bare,Un.kept hk,⟨_,x.toInCall.ns,λi y v h1 h2 h3=>?_⟩,λy c h=>⟨_,x.cell y c h⟩,e0.aK.fresh (zzE _),λy c h=>?_,λp hp=>absurd (show p∈([]:List (Addr×Obj)) from hp) (by simp),e0.aK.kept hk,?_⟩
 ·exact name_of_addr x.apart (PySem.mem_of_lookup h1) (PySem.mem_of_lookup h2)
 ·have hy:scope.names.lookup y=some .cell\/scope.names.lookup y=some .free:=hy
  rcases hy with hy|hy
  ·exact rY hy
  ·exact absurd rfl (S.GP _ (PySem.mem_of_lookup hy))
 ·exact Nat.le_of_lt (x.above y c (PySem.mem_of_lookup h))
 ·have hi:i<vs.length:=by
   unfold start at h2
   by_cases hi:i<vs.length
   ·exact hi
   ·rw [zzs (by simpa using hi)] at h2;rw [List.getElem?_replicate] at h2;split at h2<;>cases h2
  have ha:vs[i]?=some v:=by
   unfold start at h2;rw [zzr (by simpa using hi),zzQ] at h2;cases e:vs[i]? with
   |none=>rw [e] at h2;cases h2
   |some a=>rw [e] at h2;cases h2;rfl
  obtain⟨u,hu,rv⟩:=r.get ha
  have hp:ps[i]?=some y:=by
   rw [<-S.pre,List.getElem?_take_of_lt (by omega)];exact h1
  have RE:ps.Nodup:=by rw [<-S.pre];exact S.nd.sublist (List.take_sublist _ _)
  refine⟨u,rv,?_⟩;rcases S.par y (zzD hp) with k|k
  ·exact .inl ⟨k,oz RE hp hu k⟩
  ·obtain⟨c,e⟩:=rY (n:=(zz9 s)+1) k
   refine .inr ⟨.inl k,c,e,?_⟩;have q:=x.cell y c e
   rw [nV RE hp hu (by show scope.names.lookup y≠_;rw [k];decide)] at q;exact q
 ·exact e0.aK.fresh (Nat.le_of_lt (x.above y c (PySem.mem_of_lookup h)))
 ·unfold start;show _=N.length
  rw [zzM,zzl,List.length_replicate];omega
def M8{CX:yX}{P:Program}{w:World}{K:zz8}{mg:Str->Option Value}{base:Heap}{k:Nat}{f:Addr}{name qual:Str}{params:Arguments}{body:List Stmt}{scope:Scope}{dV kV doc pm fL ct oc:Value}{an od:Option Addr}
 {uZ:Array (Option Value)} {N ps:List Str} {sp:Sp} (lk:K.lookup f=some ⟨oc,od,.func (PySem.W.fnOf name qual params body scope dV kV doc pm an fL ct),uZ⟩) (uj:PySem.W.codeIn K fL qual=true) (S:kO N ps scope)
 (len:∀vs H Q E,sp vs H Q E->vs.length=ps.length)
 (My:∀(A:Around) (outer:List Env) (s:Shared) (H:Hp) (vs:List V) (Q:VK) (E:XK),du k (A.deeper (envOfC qual scope (zz9 s) f fL))->sp vs H Q E->
  ∃t,wJ (dA CX P w K mg base N qual scope f fL A outer s H E) body t/\t {nx:=λ_ H'=>Q .aH H',rt:=Q} (start N vs) H):
 gf P w K mg base CX (k+1) f (PySem.W.fnOf name qual params body scope dV kV doc pm an fL ct) ps sp:=by
 refine⟨len,λA outer s H args us vs Q E hr e0 hb r KN=>?_⟩
 have hl:=len _ _ _ _ KN
 have KX:K.In s.heap:=e0.mod.Mg.keeps λb o e=>(e0.bs b o e).1
 have lim:s.heap.NoLimit:=e0.mod.nolimit.keeps λb o e=>(e0.bs b o e).1
 have Nt:∀y∈ps.zip us,scope.names.lookup y.1=some .local\/(scope.names.lookup y.1=some .cell/\((cellsFrom ((zz9 s)+1) scope.names []).lookup y.1).isSome=true):=λ⟨n,v⟩ hy=>by
  rcases S.par n (List.of_mem_zip hy).1 with q|q
  ·exact .inl q
  ·exact .inr ⟨q,PySem.W.cellsFrom_some _ _ _ (.inl q)⟩
 refine codeAny_call_function hr.depth (KX _ _ lk) rfl S.co S.gen rfl (PySem.W.codeRec_of KX uj) (hb _ _ _ _ ?_);refine wpAny_newFunctionEnv_cells S.kind Nt λenv he s1 x=>?_
 subst he;refine⟨lim.keeps x.toInCall.keep,codeAny_func ?_⟩;obtain⟨t,ht,hq⟩:=My A outer s H vs Q E (hr.deeper _) KN
 have I:Inv (dA CX P w K mg base N qual scope f fL A outer s H E) [] (start N vs) H s1:=yE S hr.hd e0 hl r x
 refine wpAny_mono (ht [] s1 (start N vs) H _ I hq) (λfl s' hs=>?_) λe s' hs=>hs
 have fin:∀{σ':St} {H':Hp} {v:V} {u:Value},Inv (dA CX P w K mg base N qual scope f fL A outer s H E) [] σ' H' s'->RelV v u->Q v H'->CE outer P w H s Q u s':=
  λ{σ' H' v u} J rv q=>⟨v,H',J.os,J.bare,J.base,J.aK,rv,q⟩
 cases fl with
 |ret u=>
  obtain⟨v,σ',H',J,rv,q⟩:=hs
  exact fin J rv q
 |next=>
  obtain⟨σ',H',J,q⟩:=hs
  exact fin (v:=V.aH) (u:=Value.none) J rfl q
 |brk=>
  obtain⟨_,_,_,q⟩:=hs
  exact zzk q
 |cont=>
  obtain⟨_,_,_,q⟩:=hs
  exact zzk q
section
variable{X:Cx}{x:Str}{p pos:Pos}{e:Expr}{es:List Expr}{t:TA}{id T:String}{r:List V->Hp->VK->Prop}
noncomputable def Ol(r:List V->Hp->VK->Prop)(t:TA):TE:=λσ H Q=>t σ H λvs H1=>r vs H1 Q
def dW(hc:bW X (.builtin id) r)(hg:Gl X x)(hm:X.mg x=none)(hv:bootBuiltins x=some (.builtin id))(ha:PA X (e::es) t)(hn:x≠"__name__":=by decide)(Mf:(x==("__debug__":Str))=false:=by decide)
 (he:starEach (e::es) X.env=(false,eval e X.env)::starEach es X.env:=by rfl) (hpl:(backTo pos (starEach es X.env)).any (·.1)=false:=by rfl):PE X (.Call (.Name x p) (e::es) [] pos) (Ol r t):=by
 intro aa s σ H Q I h;refine wpAny_Call_Name_kw (eC I hg hm hv ?_ hn Mf);exact PyProof.Rows.callWith_builtin1 (bP (ha pos aa s σ H _ I h) λus s1 ⟨vs,H1,I1,r1,q1⟩=>hc aa s1 σ H1 vs us Q I1 r1 q1) he hpl
def fg(hc:bW X (.type T) r)(hg:Gl X x)(hm:X.mg x=none)(hv:bootBuiltins x=some (.type T))(ha:PA X (e::es) t)(hn:x≠"__name__":=by decide)(Mf:(x==("__debug__":Str))=false:=by decide)
 (he:starEach (e::es) X.env=(false,eval e X.env)::starEach es X.env:=by rfl) (hpl:(backTo pos (starEach es X.env)).any (·.1)=false:=by rfl):PE X (.Call (.Name x p) (e::es) [] pos) (Ol r t):=by
 intro aa s σ H Q I h;refine wpAny_Call_Name_kw (eC I hg hm hv ?_ hn Mf);exact PyProof.Rows.callWith_type1 (bP (ha pos aa s σ H _ I h) λus s1 ⟨vs,H1,I1,r1,q1⟩=>hc aa s1 σ H1 vs us Q I1 r1 q1) he hpl
end
end L2
namespace HT
open PySem PyProof.Rows
noncomputable def lexLt:List Int->List Int->Bool
 |[],[]=>false
 |[],_::_=>true
 |_::_,[]=>false
 |x::xs,y::ys=>if x=y then lexLt xs ys else decide (x<y)
theorem uT(x y:Int)(xs ys:List Int):lexLt (x::xs) (y::ys)=if x=y then lexLt xs ys else decide (x<y):=rfl
theorem ny:lexLt [] []=false:=rfl
section
variable{prog:Program}{w:World}{A:Around}{E:Value->Shared->Prop}{s:Shared}
noncomputable def eo(n d:Nat):Option Int->Nat
 |none=>d
 |some v=>if v<0 then(v+(n:Int)).toNat else min v.toNat n
def Hu(n d:Nat)(hd:d<=n)(o:Option Int):eo n d o<=n:=by
 cases o with
 |none=>exact hd
 |some v=>
  show(if v<0 then(v+(n:Int)).toNat else min v.toNat n)<=n
  by_cases hv:v<0
  ·rw [if_pos hv];omega
  ·rw [if_neg hv];exact Nat.min_le_right _ _
def wy(v:Int)(n d:Nat):(if v<0 then max (v+(n:Int)) 0 else min v (n:Int))=((eo n d (some v):Nat):Int):=by
 show(if v<0 then max (v+(n:Int)) 0 else min v (n:Int))=(((if v<0 then(v+(n:Int)).toNat else min v.toNat n):Nat):Int)
 by_cases hv:v<0
 ·simp! [if_pos hv];omega
 ·simp! [if_neg hv];omega
def tZ(lo hi:Option Int)(n:Nat):Builtin.Slice.sliceAdjust lo hi 1 (n:Int)=(((eo n 0 lo:Nat):Int),((eo n n hi:Nat):Int)):=by
 have h1:¬((1:Int)<0):=by omega
 unfold Builtin.Slice.sliceAdjust;simp! [h1,if_false];refine Prod.ext ?_ ?_
 ·cases lo with
  |none=>rfl
  |some v=>exact wy v n 0
 ·cases hi with
  |none=>rfl
  |some v=>exact wy v n n
def uX(i j:Nat):Builtin.Slice.slicePlaces (i:Int) (j:Int) 1=j-i:=by
 unfold Builtin.Slice.slicePlaces;have h1:(1:Int)>0:=by omega
 simp! [h1,if_true,Int.ediv_one];split<;>omega
def mf{v:Value}{o:Option Int}{Q:Option Int->Shared->Prop}(p:IsPart v o)(h:Q o s):wpAny (model prog w) A (Builtin.Slice.slicePartIndex v) Q E s:=by
 cases p with
 |none=>exact slicePart_none h
 |int i t=>exact slicePart_int h
def jl{sl:Addr}{vl vu:Value}{lo hi:Option Int}{n:Nat}{Q:Int×Int×Nat->Shared->Prop}(hs:s.heap.IsSliceOf sl vl vu .none)(pl:IsPart vl lo)(pu:IsPart vu hi)
 (h:Q (((eo n 0 lo:Nat):Int),1,eo n n hi-eo n 0 lo) s):wpAny (model prog w) A (Builtin.Slice.sliceApplied (.ref sl) (pure (n:Int))) Q E s:=by
 obtain⟨os,hos,hcs,hds⟩:=id hs
 unfold Builtin.Slice.sliceApplied Builtin.Slice.sliceFields;refine zzA (zzA (wpAny_field hos hds (x:=vl) rfl (zzA (wpAny_field hos hds (x:=vu) rfl (zzA (wpAny_field hos hds (x:=.none) rfl (zzG ?_)))))));refine zzA (slicePart_none ?_);show wpAny _ _ (if((1:Int)==0)=true then _ else _) _ _ s;rw [if_neg (by decide)];refine zzA (mf pl (zzA (mf pu (zzA (zzG ?_)))));show wpAny _ _ (match Builtin.Slice.sliceAdjust lo hi 1 (n:Int) with|(lo,hi)=>pure (lo,(1:Int),Builtin.Slice.slicePlaces lo hi 1)) _ _ s
 rw [tZ lo hi n];show wpAny _ _ (pure (((eo n 0 lo:Nat):Int),(1:Int),Builtin.Slice.slicePlaces ((eo n 0 lo:Nat):Int) ((eo n n hi:Nat):Int) 1)) _ _ s;rw [uX];exact zzG h
def As(xs:Array Value)(i k:Nat):((List.range k).filterMap λ(m:Nat)=>xs[((i:Int)+(m:Int)*1).toNat]?).toArray=((xs.toList.drop i).take k).toArray:=by
 have e:(λ(m:Nat)=>xs[((i:Int)+(m:Int)*1).toNat]?)=λm=>xs[i+m]?:=by
  funext m
  have:((i:Int)+(m:Int)*1).toNat=i+m:=by omega
  rw [this]
 rw [e];have:=pick_run xs i k
 rw [List.filterMap_map] at this;have e2:((λx=>xs[x]?)∘λx=>i+x)=λm=>xs[i+m]?:=rfl
 rw [e2] at this;rw [this]
def iP{t sl:Addr}{items:Array Value}{vl vu:Value}{lo hi:Option Int}{Q:Value->Shared->Prop}(ht:IsTup s.heap t items)(hs:s.heap.IsSliceOf sl vl vu .none)(pl:IsPart vl lo)(pu:IsPart vu hi)
 (hw:¬(eo items.size 0 lo=0/\eo items.size items.size hi=items.size))
 (h:Q (.ref (zz9 s)) {s with heap:=s.heap.push {cls:=.type "tuple",data:=.seq ((items.toList.drop (eo items.size 0 lo)).take (eo items.size items.size hi-eo items.size 0 lo)).toArray}})
 (hsz:items.size<=sizeLine):wpAny (model prog w) A (getItem (.ref t) (.ref sl)) Q E s:=by
 have wI:sizeOk (.seq ((items.toList.drop (eo items.size 0 lo)).take (eo items.size items.size hi-eo items.size 0 lo)).toArray):=by
  show((items.toList.drop (eo items.size 0 lo)).take (eo items.size items.size hi-eo items.size 0 lo)).toArray.size<=sizeLine
  rw [zzC,List.length_take,List.length_drop,zzd];omega
 have hj:eo items.size items.size hi<=items.size:=Hu _ _ (zzE _) hi
 obtain⟨os,hos,hcs,hds⟩:=id hs
 have SS:s.TypeIs (.ref sl) "slice":=⟨os,hos,hcs⟩
 unfold getItem
 try with_reducible refine wpAny_holding ?_
 first|refine zzA (zzG ?_)|skip
 refine zzA (wpAny_sequenceKey ht.typeIs (by decide) ?_);refine zzA (wpAny_callSpecial?_slot (name:=Str.ofString "__getitem__") ht.typeIs PyProof.Rows.slot_tuple_getitem
  (wpAny_call_entry PyProof.Rows.slot_tuple_getitem ht.typeIs entry_tuple_getitem ?_ (args_tuple_getitem _ _)))
 show wpAny _ _ (Builtin.Tuple.tupleItemsOf (.ref t)>>=_) _ _ s
 refine zzA (tupleItemsOf_ ht ?_);refine zzA (wpAny_typeOf SS ?_);rw [if_pos (by decide)];refine zzA (jl hs pl pu ?_);have UP:¬((((eo items.size 0 lo:Nat):Int)==0&&(1:Int)==1&&(eo items.size items.size hi-eo items.size 0 lo)==items.size)=true):=by
  intro q;rw [zza,zza] at q;have q1:((eo items.size 0 lo:Nat):Int)=0:=eq_of_beq q.1.1
  have q2:eo items.size items.size hi-eo items.size 0 lo=items.size:=eq_of_beq q.2
  exact hw ⟨by omega,by omega⟩
 show wpAny _ _ (if(((eo items.size 0 lo:Nat):Int)==0&&(1:Int)==1&&(eo items.size items.size hi-eo items.size 0 lo)==items.size)=true then _ else _) _ _ s
 rw [if_neg UP,As]
 first
  |exact zzA (m:=Builtin.Tuple.tupleExact _) (wpAny_newObj_type (zzG ⟨_,rfl,zzG h⟩) wI)
  |exact zzA (m:=Builtin.Tuple.tupleExact _) (wpAny_newObj_type (zzA (zzG (zzG ⟨_,rfl,zzG h⟩))) wI)
  |exact zzA (zzA (m:=Builtin.Tuple.tupleExact _) (wpAny_newObj_type (zzG (zzG ⟨_,rfl,zzG h⟩)) wI))
  |exact zzA (zzA (m:=Builtin.Tuple.tupleExact _) (wpAny_newObj_type (zzG ⟨_,rfl,zzG h⟩) wI))
end
end HT
namespace L2
open PySem PySem.Spec PyProof.Rows
noncomputable abbrev TO:=St->Hp->(Option Int->Hp->Prop)->Prop
def PO(X:Cx)(e:Option Expr)(t:TO):Prop:=
 ∀(aa:List (Addr×Obj)) (s:Shared) (σ:St) (H:Hp) (Q:Option Int->Hp->Prop),Inv X aa σ H s->t σ H Q->
  wpAny (model X.prog X.w) X.A (evalPart e X.env) (λu s'=>∃o H',Inv X aa σ H' s'/\IsPart u o/\Q o H') X.xe s
noncomputable def E3:TO:=λ_ H Q=>Q none H
noncomputable def Nb(t:TE):TO:=λσ H Q=>t σ H λx H1=>∃i,x=.int i/\Q (some i) H1
section
variable{X:Cx}{e:Expr}{te:TE}{lo hi:Option Expr}{tl th:TO}{pos p2:Pos}
def DZ:PO X none E3:=by
 intro aa s σ H Q I h;rw [evalPart_none];exact zzG ⟨none,H,I,.none,h⟩
def D0(h:PE X e te):PO X (some e) (Nb te):=by
 intro aa s σ H Q I hw;rw [evalPart_some];refine bP (h aa s σ H _ I hw) λu s1 ⟨x,H1,I1,r1,q1⟩=>?_
 obtain⟨i,rfl,q⟩:=q1
 obtain⟨t,rfl⟩:=r1
 exact⟨some i,H1,I1,.int i t,q⟩
def F5(X:Cx)(r:V->Option Int->Option Int->Hp->VK->Prop):Prop:=
 ∀(aa:List (Addr×Obj)) (s:Shared) (σ:St) (H:Hp) (x:V) (v vl vu:Value) (lo hi:Option Int) (sl:Addr) (Q:VK),Inv X aa σ H s->RelV x v->s.heap.IsSliceOf sl vl vu .none->IsPart vl lo->IsPart vu hi->r x lo hi H Q->
  ∃T id,typeLookup (.type T) "__getitem__"=pure (some (.builtin id))/\s.TypeIs v T/\wpAny (model X.prog X.w) X.A (getItem v (.ref sl)) (EP X aa σ Q) X.xe s
noncomputable def TM(r:V->Option Int->Option Int->Hp->VK->Prop)(te:TE)(tl th:TO):TE:=λσ H Q=>te σ H λx H1=>tl σ H1 λl H2=>th σ H2 λu H3=>r x l u H3 Q
def A4{r:V->Option Int->Option Int->Hp->VK->Prop}(hr:F5 X r)(he:PE X e te)(hl:PO X lo tl)(hu:PO X hi th):PE X (.Subscript e (.Slice lo hi none p2) pos) (TM r te tl th):=by
 intro aa s σ H Q I h;refine Subscript_ (bP (he aa s σ H _ I h) λv s1 ⟨x,H1,I1,r1,q1⟩=>?_)
 refine wpAny_Slice (bP (hl aa s1 σ H1 _ I1 q1) λvl s2 ⟨l,H2,I2,pl,q2⟩=>bP (hu aa s2 σ H2 _ I2 q2) λvu s3 ⟨u,H3,I3,pu,q3⟩=>?_)
 rw [evalPart_none];refine zzG ?_;have I4:Inv X aa σ H3 {s3 with heap:=s3.heap.push {cls:=.type "slice",data:=.fields #[vl,vu,.none]}}:=I3.kept (t':=s3.toks) λb ob q=>zzB _ q
 obtain⟨T,id,hT,ht,hg⟩:=hr aa {s3 with heap:=s3.heap.push {cls:=.type "slice",data:=.fields #[vl,vu,.none]}} σ H3 x v vl vu l u (zz9 s3) Q I4 r1 (Heap.IsSliceOf.new ..) pl pu q3
 show wpAny (model X.prog X.w) X.A (subscriptTail e (.Slice lo hi none p2) v (.ref (zz9 s3))) (EP X aa σ Q) X.xe {s3 with heap:=s3.heap.push {cls:=.type "slice",data:=.fields #[vl,vu,.none]}}
 exact tail_any (ops:=[.ref (zz9 s3),v]) ht hT hg (by with_unfolding_all rfl)
noncomputable def yf(xs:List V)(lo hi:Option Int):List V:=(xs.drop (HT.eo xs.length 0 lo)).take (HT.eo xs.length xs.length hi-HT.eo xs.length 0 lo)
def sE(xs:List V)(lo hi:Option Int):(yf xs lo hi).length<=xs.length:=by
 unfold yf;rw [List.length_take,List.length_drop];omega
def QF(K:zz8):V->Option Int->Option Int->Hp->VK->Prop:=λx lo hi H Q=>∃a xs,x=.ref a/\eV K H a xs/\
 ¬(HT.eo xs.length 0 lo=0/\HT.eo xs.length xs.length hi=xs.length)/\∀p,H p=none->Q (.ref p) (upd H p (.tup (yf xs lo hi)))
def G8:F5 X (QF X.K):=by
 intro aa s σ H x v vl vu lo hi sl Q I rx hs pl pu h;obtain⟨a,xs,rfl,hx,hw,q⟩:=h
 cases rx;obtain⟨ax,r,ht,hz⟩:=I.tuple hx
 have hlen:ax.toArray.size=xs.length:=by rw [zzC];exact r.length.symm
 refine⟨"tuple",_,PyProof.Rows.slot_tuple_getitem.lookup,ht.typeIs,?_⟩;refine HT.iP ht hs pl pu (by rw [hlen];exact hw) ?_ (by rw [hlen];exact hz);rw [hlen];refine⟨.ref (zz9 s),_,I.laid (t':=s.toks) (o:=.tup (yf xs lo hi)) (λb ob q=>zzB _ q) (zzE _) ?_,rfl,q _ (I.aK.fresh (zzE _))⟩;exact⟨zzU (sE xs lo hi) hz,_,(r.drop (HT.eo xs.length 0 lo)).take (HT.eo xs.length xs.length hi-HT.eo xs.length 0 lo),IsTup.new _ _⟩
end
noncomputable def JY(n:Nat)(i:Int):Option Nat:=if 0<=i then(if i<n then some i.toNat else none) else if -(n:Int)<=i then some (i+n).toNat else none
noncomputable def tG{α:Type}(xs:List α)(i:Int):Option α:=(JY xs.length i).bind λj=>xs[j]?
def FA{n:Nat}{i:Int}{j:Nat}(h:JY n i=some j):seqIndex? i n=some j/\j<n/\ -(n:Int)<=i/\i<n:=by
 unfold JY at h
 by_cases h0:0<=i
 ·rw [if_pos h0] at h
  by_cases h1:i<n
  ·rw [if_pos h1] at h;have e:i.toNat=j:=zzq h
   exact⟨by rw [seqIndex_of h0 h1,e],by omega,by omega,h1⟩
  ·rw [if_neg h1] at h;cases h
 ·rw [if_neg h0] at h
  by_cases h1: -(n:Int)<=i
  ·rw [if_pos h1] at h;have e:(i+n).toNat=j:=zzq h
   exact⟨by rw [seqIndex_neg (by omega) h1,e],by omega,h1,by omega⟩
  ·rw [if_neg h1] at h;cases h
def pJ{α:Type}{xs:List α}{i:Int}{v:α}(h:tG xs i=some v):∃j,seqIndex? i xs.length=some j/\xs[j]?=some v/\j<xs.length/\ -(xs.length:Int)<=i/\i<xs.length:=by
 unfold tG at h;cases e:JY xs.length i with
 |none=>rw [e] at h;cases h
 |some j=>
  rw [e] at h;obtain⟨h1,h2,h3,h4⟩:=FA e
  exact⟨j,h1,h,h2,h3,h4⟩
def qm(b:Expr):Prop:=∀o i,subscripted b false o i=operate [o,i] (getItem o i)
def KG(X:Cx)(r:R2):Prop:=
 ∀(value slice:Expr) (aa:List (Addr×Obj)) (s:Shared) (σ:St) (H:Hp) (x y:V) (v u:Value) (Q:VK),Inv X aa σ H s->RelV x v->RelV y u->r x y H Q->
  subscripted slice false v u=operate [v,u] (getItem v u)->wpAny (model X.prog X.w) X.A (subscriptTail value slice v u) (EP X aa σ Q) X.xe s
def Q6(X:Cx)(id:String)(r:V->List V->Hp->VK->Prop):Prop:=
 ∀(aa:List (Addr×Obj)) (s:Shared) (σ:St) (H:Hp) (x:V) (xs:List V) (v:Value) (us:List Value) (Q:VK),Inv X aa σ H s->RelV x v->Vals xs us->r x xs H Q->
  wpAny (model X.prog X.w) X.A (call (.builtin id) (v::us)) (EP X aa σ Q) X.xe s
section
variable{X:Cx}{a b:Expr}{ta tb:TE}{pos:Pos}
def Gr{r:R2}(hr:KG X r)(ha:PE X a ta)(hb:PE X b tb)(hs:qm b):PE X (.Subscript a b pos) (Kz r ta tb):=by
 intro aa s σ H Q I h;exact Subscript_ (Hb ha hb I h λv u s2 x y H2 I2 rx ry q=>hr a b aa s2 σ H2 x y v u Q I2 rx ry q (hs _ _))
noncomputable def Qn(K:zz8):R2:=λx y H Q=>∃p xs i v,x=.ref p/\y=.int i/\fH K H p xs/\tG xs i=some v/\Q v H
noncomputable def Mh(K:zz8):R2:=λx y H Q=>∃p xs i v,x=.ref p/\y=.int i/\eV K H p xs/\tG xs i=some v/\Q v H
noncomputable def Pj:R2:=λx y H Q=>∃z i c,x=.str z/\y=.int i/\z.length<=sizeLine/\tG z.cps.toList i=some c/\Q (.str ⟨#[c]⟩) H
def Ez:KG X (Qn X.K):=by
 intro value slice aa s σ H x y v u Q I rx ry h hs;obtain⟨p,xs,i,z,rfl,rfl,hq,he,q⟩:=h
 cases rx;obtain⟨t,rfl⟩:=ry
 obtain⟨ax,r,pl,hz⟩:=I.list hq
 obtain⟨j,h1,h2,h3,h4,h5⟩:=pJ he
 obtain⟨w,ew,jg⟩:=r.get h2
 have hl:=r.length
 have hn:=lj
 have fin:EP X aa σ Q w s:=⟨z,H,I,jg,q⟩
 by_cases h0:0<=i
 ·have hj:i.toNat=j:=by
   rw [seqIndex_of h0 h5] at h1;exact zzq h1
  exact item_listR pl.isList h0 (by omega) (by rw [hj];simpa using ew) fin hs
 ·have hj:(i+(ax.toArray.size:Int)).toNat=j:=by
   rw [seqIndex_neg (by omega) h4] at h1;rw [zzC,<-hl];exact zzq h1
  exact subscriptTail_builtinR (x:=w) pl.isList.typeIs slot_list_getitem.lookup
   (wpAny_getItem_list_neg (Q:=λr s'=>r=w/\EP X aa σ Q r s') pl.isList (by omega) (by rw [zzC]<;>omega) (by omega) (by rw [hj];simpa using ew) ⟨rfl,fin⟩) hs
def y9:KG X (Mh X.K):=by
 intro value slice aa s σ H x y v u Q I rx ry h hs;obtain⟨p,xs,i,z,rfl,rfl,hq,he,q⟩:=h
 cases rx;obtain⟨t,rfl⟩:=ry
 obtain⟨ax,r,pl,hz⟩:=I.tuple hq
 obtain⟨j,h1,h2,h3,h4,h5⟩:=pJ he
 obtain⟨w,ew,jg⟩:=r.get h2
 have hl:=r.length
 have hn:=lj
 have fin:EP X aa σ Q w s:=⟨z,H,I,jg,q⟩
 exact subscriptTail_builtinR (x:=w) pl.typeIs slot_tuple_getitem.lookup
  (getItem_tuple (j:=j) (Q:=λr s'=>r=w/\EP X aa σ Q r s') pl (by omega) (by omega) (by rw [zzC,<-hl];exact h1) (by simpa using ew) ⟨rfl,fin⟩) hs
def Il:KG X Pj:=by
 intro value slice aa s σ H x y v u Q I rx ry h hs;obtain⟨z,i,c,rfl,rfl,hz,he,q⟩:=h
 obtain⟨t,rfl⟩:=rx
 obtain⟨t',rfl⟩:=ry
 obtain⟨j,h1,h2,h3,h4,h5⟩:=pJ he
 have hl:z.cps.toList.length=z.length:=by simp [Str.length]
 rw [hl] at h1 h4 h5;have hn:=lj
 exact tail_any (typeIs_str s z t) slot_str_getitem.lookup (getItem_str (c:=c) (by
  have e1:decide (i< -(2^63:Int))=false:=zz0 (by omega)
  have e2:decide (i>=2^63)=false:=zz0 (by omega)
  rw [e1,e2,Bool.or_false]) (by rw [h1];simpa using h2) ⟨.str ⟨#[c]⟩,H,I.tok _,⟨_,rfl⟩,q⟩) hs
def i4:bW X (.builtin "len") (λxs H Q=>∃p ys,xs=[.ref p]/\(fH X.K H p ys\/eV X.K H p ys)/\Q (.int ys.length) H):=by
 intro aa s σ H xs us Q I r h;obtain⟨p,ys,rfl,hq,q⟩:=h
 obtain⟨u,rfl,rx⟩:=vals1 r
 cases rx;have hn:=lj
 rcases hq with hq|hq
 ·obtain⟨ax,r',pl,hz⟩:=I.list hq
  have hlen:=r'.length
  exact Calls.call_len_list pl.isList (by simp! [zzC]<;>omega) ⟨.int ys.length,H,I.tok _,⟨s.toks+1,by rw [zzC,hlen]⟩,q⟩
 ·obtain⟨ax,r',pl,hz⟩:=I.tuple hq
  have hlen:=r'.length
  exact len_tuple pl (by simp! [zzC]<;>omega) ⟨.int ys.length,H,I.tok _,⟨s.toks+1,by rw [zzC,hlen]⟩,q⟩
def pF:bW X (.builtin "len") (λxs H Q=>∃z,xs=[.str z]/\z.length<=sizeLine/\Q (.int z.length) H):=by
 intro aa s σ H xs us Q I r h;obtain⟨z,rfl,hz,q⟩:=h
 obtain⟨u,rfl,t,rfl⟩:=vals1 r
 have hn:=lj
 exact len_str (by omega) ⟨.int z.length,H,I.tok _,⟨_,rfl⟩,q⟩
def nF:bW X (.type "tuple") (λxs H Q=>∃p ys,xs=[.ref p]/\((fH X.K H p ys/\∀l,H l=none->Q (.ref l) (upd H l (.tup ys)))\/(eV X.K H p ys/\Q (.ref p) H))):=by
 intro aa s σ H xs us Q I r h;obtain⟨p,ys,rfl,h⟩:=h
 obtain⟨u,rfl,rx⟩:=vals1 r
 cases rx;rcases h with⟨hq,q⟩|⟨hq,q⟩
 ·obtain⟨ax,r',pl,hz⟩:=I.list hq
  have hlen:=r'.length
  refine call_tuple_list pl.isList (λh' kp=>?_) (by simp! [zzC]<;>omega);have I1:Inv X aa σ H {s with heap:=h'}:=I.kept (t':=s.toks) kp
  have I2:Inv X aa σ (upd H h'.objs.size (.tup ys)) {s with heap:=h'.push {cls:=.type "tuple",data:=.seq ax.toArray}}:=
   I1.laid (t':=s.toks) (λb o e=>zzB _ e) (zzE _) (show bO X.prog X.w _ _ _ (.tup ys) from⟨hz,ax,r',IsTup.new _ _⟩)
  exact⟨.ref h'.objs.size,_,I2,rfl,q _ (I1.aK.fresh (zzE _))⟩
 ·obtain⟨ax,r',pl,hz⟩:=I.tuple hq
  exact call_tuple_same pl ⟨.ref p,H,I,rfl,q⟩
def RJ(K:zz8)(T:String)(x:V)(H:Hp):Prop:=match x with
 |.str _=>T="str"
 |.int _=>T="int"
 |.ref p=>(T="list"/\∃xs,fH K H p xs)\/(T="tuple"/\∃o,K.lookup p=some o/\o.cls=.type "tuple"/\o.dict=none)\/
  (T="dict"/\((∃au,H p=some (.dK au))\/∃au,H p=some (.dT au)))\/(T="set"/\∃S n,H p=some (.set S n))
 |_=>False
def HF{aa:List (Addr×Obj)}{σ:St}{H:Hp}{s:Shared}{T:String}{x:V}{v:Value}(I:Inv X aa σ H s)(r:RelV x v)(ty:RJ X.K T x H):
 s.TypeIs v T/\∀a,v=.ref a->∃ob,s.heap.get? a=some ob/\ob.dict=none:=by
 cases x with
 |str z=>
  obtain⟨t,rfl⟩:=r
  cases(show T="str" from ty);exact⟨typeIs_str s z t,λ_ e=>nomatch e⟩
 |int i=>
  obtain⟨t,rfl⟩:=r
  cases(show T="int" from ty);exact⟨typeIs_int s i t,λ_ e=>nomatch e⟩
 |ref p=>
  cases r;rcases ty with⟨rfl,xs,hq⟩|⟨rfl,o,hk,hc,hd⟩|⟨rfl,hk⟩|⟨rfl,S,n,hk⟩
  ·obtain⟨ax,_,pl,_⟩:=I.list hq
   refine⟨pl.isList.typeIs,λa e=>?_⟩
   cases e;obtain⟨o,n,e,c,hd,_⟩:=pl
   exact⟨o,e,hd⟩
  ·refine⟨⟨o,I.tj p o hk,hc⟩,λa e=>?_⟩
   cases e;exact⟨o,I.tj _ o hk,hd⟩
  ·have z:∃o,s.heap.get? p=some o/\o.ExactDict:=by
    rcases hk with⟨au,hk⟩|⟨au,hk⟩
    ·obtain⟨_,_,_,_,o,_,_,e,ex,_⟩:=I.aK p _ hk
     exact⟨o,e,ex⟩
    ·obtain⟨_,_,_,_,o,_,_,e,ex,_⟩:=I.aK p _ hk
     exact⟨o,e,ex⟩
   obtain⟨o,e,ex⟩:=z
   refine⟨⟨o,e,ex.1⟩,λa e2=>?_⟩
   cases e2;exact⟨o,e,ex.2.1⟩
  ·obtain⟨o,_,_,_,e,ex,_⟩:=I.aK p _ hk
   refine⟨⟨o,e,ex.1⟩,λa e2=>?_⟩
   cases e2;exact⟨o,e,ex.2.1⟩
 |_=>exact zzk ty
noncomputable def Ut(K:zz8)(T:String)(r:V->List V->Hp->VK->Prop)(to:TE)(t:TA):TE:=λσ H Q=>to σ H λx H1=>RJ K T x H1/\t σ H1 λxs H2=>r x xs H2 Q
variable{o e:Expr}{es:List Expr}{to:TE}{t:TA}{name:Str}{apos bU:Pos}{T id:String}{r:V->List V->Hp->VK->Prop}
theorem Gp(pa:PlainAttrs T)(slot:Slot T name id)(Uc:typeOf (.builtin id)=pure (.type "method_descriptor"))(hm:Q6 X id r)(ho:PE X o to)(ha:PA X (e::es) t)
 (gZ:attributeBase o name X.env (eval o X.env)=eval o X.env:=by rfl)
 (Hi:((backTo bU (starEach (e::es) X.env)).all (λx=>!x.1)&&(backToKw bU (keywordEach [] X.env)).all (λx=>x.1.isSome)
  &&decide ((e::es).length+([]:List Keyword).length+(if([]:List Keyword).isEmpty then 0 else 1)<30))=true:=by rfl)
 (k7:(apos.endLine==bU.line)=true:=by rfl) (hs:starEach (e::es) X.env=(false,eval e X.env)::starEach es X.env:=by rfl) (ui:(backTo bU (starEach es X.env)).any (·.1)=false:=by rfl):
 PE X (.Call (.Attribute o name apos) (e::es) [] bU) (Ut X.K T r to t):=by
 intro aa s σ H Q I h;refine wpAny_Call_method_late gZ Hi k7 rfl (bP (ho aa s σ H _ I h) λv s1 ⟨x,H1,I1,r1,ty,q1⟩=>?_)
 obtain⟨h1,h2⟩:=HF I1 r1 ty
 refine⟨T,id,pa,slot,Uc,h1,h2,?_⟩;have hA:=ha bU aa s1 σ H1 _ I1 q1
 rw [hs] at hA⊢;refine Calls.callWith_builtin (by show(false||(backTo bU (starEach es X.env)).any (·.1))=false;rw [ui]<;>rfl) (Calls.evalArgs_plain ?_);exact bP hA λus s2 ⟨vs,H2,I2,r2,q2⟩=>hm aa s2 σ H2 x vs v us Q I2 r1 r2 q2
end
def Ur(X:Cx)(id:String)(r:V->List V->Hp->VK->Prop):Prop:=
 ∀(aa:List (Addr×Obj)) (s:Shared) (σ:St) (H:Hp) (x:V) (xs:List V) (v:Value) (us:List Value) (Q:VK),Inv X aa σ H s->RelV x v->Vals xs us->r x xs H Q->
  wpAny (model X.prog X.w) X.A (call (.builtin id) (v::us)) (EP X aa σ Q) X.xe s
theorem Vals.one:∀{x:V} {us:List Value},Vals [x] us->∃u,us=[u]/\RelV x u
 |_,_,.cons r .nil=>⟨_,rfl,r⟩
def Vals.two{x y:V}{us:List Value}(h:Vals [x,y] us):∃u v,us=[u,v]/\RelV x u/\RelV y v:=by
 cases h with
 |cons r q=>
  cases q with
  |cons q n=>cases n;exact⟨_,_,rfl,r,q⟩
section
variable{X:Cx}{aa:List (Addr×Obj)}{σ:St}{H:Hp}{s:Shared}{l:Addr}{xs ys:List V}
def Inv.Ma{ax its':List Value}{n:Nat}{f:Array Value->Array Value}{t':Nat}(I:Inv X aa σ H s)(hH:H l=some (.lst xs))
 (e:s.heap.get? l=some {cls:=.type "list",data:=.seq ax.toArray n}) (hf:f ax.toArray=its'.toArray) (hv:Vals ys its') (hz:ys.length<=sizeLine):
 Inv X aa σ (upd H l (.lst ys)) {s with heap:=s.heap.update l (Obj.mapSeq f),toks:=t'}:=by
 have q:=PySem.IsL.update e f
 rw [hf] at q;refine I.write (x:=l) (e:=l) (by rw [hH];exact trivial) (.inl rfl) (λb' u hb hu=>(Heap.get?_update_other s.heap (Obj.mapSeq f) (Ne.symm hb)).trans hu) ⟨_,q⟩ ?_
 exact⟨hz,its',_,hv,q⟩
theorem Inv.O9{ax:List Value}{t':Nat}(I:Inv X aa σ H s)(hv:Vals ys ax)(hz:ys.length<=sizeLine):
 Inv X aa σ (upd H (zz9 s) (.lst ys)) {s with heap:=s.heap.push {cls:=.type "list",data:=.seq ax.toArray},toks:=t'}:=
 I.laid (λ_ _ q=>zzB _ q) (zzE _) ⟨hz,ax,0,hv,zzX _ rfl⟩
def Inv.fresh(I:Inv X aa σ H s):H (zz9 s)=none:=I.aK.fresh (zzE _)
def Inv.MM(I:Inv X aa σ H s)(hH:H l=some (.lst xs)):xs.length<=sizeLine/\∃(ax:List Value) (n:Nat),Vals xs ax/\xs.length=ax.length/\s.heap.get? l=some {cls:=.type "list",data:=.seq ax.toArray n}:=by
 obtain⟨z,ax,n,r,e⟩:=I.aK l _ hH
 exact⟨z,ax,n,r,r.length,e⟩
def BK{n:Nat}(h:n<=sizeLine):Builtin.List.listTooLong n=false:=by
 unfold Builtin.List.listTooLong;exact zz0 (by omega)
def EE:V->List V->Hp->VK->Prop:=λx vs H Q=>∃l xs y,x=.ref l/\vs=[y]/\H l=some (.lst xs)/\xs.length<sizeLine/\Q .aH (upd H l (.lst (xs++[y])))
def xx:Ur X "list.append" EE:=by
 intro aa s σ H x vs v us Q I rx rv h;obtain⟨l,xs,y,rfl,rfl,hH,hz,q⟩:=h
 cases rx;obtain⟨u,rfl,ru⟩:=rv.one
 obtain⟨z,ax,n,r,hl,e⟩:=I.MM hH
 refine call_meets F.slot_list_append ⟨_,e,rfl⟩ F.entry_list_append (F.args_list_append_2 _ _) (PySem.list_append l ax.toArray n u (by rw [zzC];omega)) ⟨e,?_⟩;refine⟨.aH,_,I.Ma (its':=ax++[u]) hH e (by simp) (r.append (.cons ru .nil)) ?_,rfl,q⟩;rw [zzM,List.length_singleton];omega
end
end L2
namespace Att
open PySem PySem.W PySem.Calls PyProof.Rows
def kj{P:Params}{h:Heap}:∀(ns:List Int) (vs:List Value),WellAll P h vs (ns.map WData.int)->IntsAre vs ns:=by
 intro ns
 induction ns with
 |nil=>
  intro vs w;rw [List.map_nil] at w;cases w;exact .nil
 |cons n ns ih=>
  intro vs w;rw [zzF] at w;cases w with
  |cons a b=>
   cases a;exact .cons _ _ (ih _ b)
def yj{l:OpenLaw}{n:Nat}(hn:l.most=some n){P:Params}{h:Heap}{args:List WData}{vals:List Value}
 (EV:l.row.toRowW.claim.pre args=true) (Qt:WellAll P h vals args):
 ∃a vs ns,vals=[Value.ref a]/\args=[WData.list (ns.map WData.int)]/\h.get? a=some {cls:=.type "list",data:=.seq vs.toArray}/\IntsAre vs ns/\ns.length<=n:=by
 have NC:WShape.hasAll [] args [.list .int]=true:=(pre_splitW EV).1
 have hc:l.pre.holds [] {args:=args}=true:=(pre_splitW EV).2
 obtain⟨d,r,rfl,h1,h2⟩:=hasAllW_cons NC
 obtain rfl:=hasAllW_nil h2
 obtain⟨xs,rfl,h3⟩:=hasW_list h1
 obtain⟨ns,rfl⟩:=items_int h3
 have hlen:ns.length<=n:=by
  unfold OpenLaw.pre at hc;have h4:(WTm.not (.lt (.lit (.int (n:Int))) (.len (.arg 0)))).holds [] {args:=[.list (ns.map .int)]}=true:=by
   have h4:=(holds_andW hc).1
   rw [hn] at h4;exact h4
  have h5:=condW_of h4 (w_not (w_lt w_lit (w_len_list (w_arg rfl))))
  rw [zzl] at h5;refine Nat.le_of_not_lt λq=>?_
  have q':(n:Int)<((ns.length:Nat):Int):=by omega
  first
   |(rw [zzh q'] at h5;exact absurd h5 (by decide))
   |(simp at h5;omega)
 cases Qt with
 |cons w1 w2=>
  cases w2;cases w1 with
  |list ho iZ=>exact⟨_,_,ns,rfl,rfl,ho,kj ns _ iZ,hlen⟩
theorem xY(l:OpenLaw)(args:List WData):l.row.toRowW.claim.post args (.bool true) args=true:=
 postW_of (r:=l.row.toRowW) (X:=(true==true))
  (show WShape.has [] (.bool true) .bool=true by first|rfl|decide|simp [WShape.has,WShape.arms,WShape.armsAll])
  (show(WTm.eq .res (.lit (.bool true))).value [] {args:=args,res:=some (.bool true),after:=args}=some (.bool (true==true)) from w_eq_bool (w_res rfl) w_lit) rfl
def rR{l:OpenLaw}{n:Nat}{q:Program}{loose:List Str}{XP:(Str->Option Value)->Heap->Prop}{YP:World->Heap->Prop}{d:DefRec}
 (hn:l.most=some n) (Nw:d.params.defaults=[])
 (call:∀(w:World) (s₀ s₁:Shared) (mg mb:Str->Option Value) (fa:Addr) (o:Obj) (pm cd doc:Value) (a:Addr) (vs:List Value) (ns:List Int),
  Ground q loose [] XP w s₀ mg mb s₁.heap->YP w s₁.heap->
  s₁.heap.get? fa=some o->o.data=.func (docDef d.name d.params d.body d.scope pm cd doc)->s₁.heap.CodeRec cd d.name->mg d.name=some (.ref fa)->
  s₁.heap.get? a=some {cls:=.type "list",data:=.seq vs.toArray}->IntsAre vs ns->ns.length<=n->s₁.gens=#[]->
  codeAny (model l.prog w) callerA (.call (.ref fa) ⟨[.ref a],[]⟩) (λr s'=>r=.ok (.ret (.bool true))/\OldK s₁.heap s'.heap/\s'.os=s₁.os/\AllBare s'.gens) s₁):
 WalkO q loose XP YP l.row.toRowW d [] (λf vs=>PySem.call f vs):=by
 intro w s₀ s₁ mg mb G Y fa o pm cd doc dV kV ho hd uj hD hmg hg args vals as EV hlay hrd Qt hlo;obtain rfl:dV=.none:=Dflts.none hD Nw
 obtain rfl:kV=.none:=Dflts.noKw hD
 obtain⟨a,vs,ns,rfl,rfl,hobj,hints,hlen⟩:=yj hn EV Qt
 refine enter_call (codeAny_mono (call w s₀ s₁ mg mb fa o pm cd doc a vs ns G Y ho (fd_plain hd) uj hmg hobj hints hlen hg) λr s' hq=>?_)
 obtain⟨rfl,h2,h3,h4⟩:=hq
 exact⟨.inl ⟨.bool true,.bool true,[],rfl,λ_=>rfl,.bool true,xY l _,λ_=>⟨List.Pairwise.nil,λ_ hm=>(nomatch hm)⟩⟩,h2,h3,h4⟩
section
noncomputable def ledger(h:Heap)(L d:Addr):List (Addr×Obj):=(List.range h.objs.size).filterMap λa=>if a=L\/a=d then none else(h.get? a).map λo=>(a,o)
end
end Att
namespace L2
open PySem PySem.Spec PyProof.Rows
theorem oN:∀{vs:List Value} {ns:List Int},IntsAre vs ns->Vals (ns.map V.int) vs
 |_,_,.nil=>.nil
 |_,_,.cons n t h=>.cons ⟨t,rfl⟩ (oN h)
noncomputable def cU(s:Stmt):Arguments:=match s with
 |.FunctionDef _ a _ _ _ _ _ _ _ _=>a
 |_=>{posonlyargs:=[],args:=[],vararg:=none,kwonlyargs:=[],kw_defaults:=[],kwarg:=none,defaults:=[]}
noncomputable def cu(s:Stmt):List Stmt:=match s with
 |.FunctionDef _ _ b _ _ _ _ _ _ _=>b
 |_=>[]
noncomputable def aP(s:Stmt):Scope:=match s with
 |.FunctionDef _ _ _ _ _ _ sc _ _ _=>sc
 |_=>{kind:=.function,names:=[],isGenerator:=false,isCoroutine:=false}
structure NH(K:zz8)(x qual:Str)(st:Stmt)(f:Addr)(fd:FuncData):Prop where
 ex:∃(oc:Value) (od:Option Addr) (kV doc pm:Value) (an:Option Addr) (fL ct:Value) (uZ:Array (Option Value)),
  fd=PySem.W.fnOf x qual (cU st) (cu st) (aP st) .none kV doc pm an fL ct/\K.lookup f=some ⟨oc,od,.func fd,uZ⟩/\PySem.W.codeIn K fL qual=true
 kp:PySem.W.keepIn K (.ref f)=true
section
variable{K:zz8}
def NH.binds{x qual:Str}{st:Stmt}{f:Addr}{fd:FuncData}{ps:List Str}(F:NH K x qual st f fd)
 (h:∀(kV doc pm:Value) (an:Option Addr) (fL ct:Value) (us:List Value),us.length=ps.length->bindArgs (PySem.W.fnOf x qual (cU st) (cu st) (aP st) .none kV doc pm an fL ct) ⟨us,[]⟩=pure (ps.zip us)):Binds K fd ps []:=by
 obtain⟨oc,od,kV,doc,pm,an,fL,ct,uZ,rfl,lk,uj⟩:=F.ex
 exact .all (h kV doc pm an fL ct)
def BP{x qual:Str}{st:Stmt}{f:Addr}{oc:Value}{od an:Option Addr}{uZ:Array (Option Value)}{kV doc pm fL ct:Value}(l:K.lookup f=some ⟨oc,od,.func (PySem.W.fnOf x qual (cU st) (cu st) (aP st) .none kV doc pm an fL ct),uZ⟩)
 (c:PySem.W.codeIn K fL qual=true) (k:PySem.W.keepIn K (.ref f)=true):NH K x qual st f (PySem.W.fnOf x qual (cU st) (cu st) (aP st) .none kV doc pm an fL ct):=⟨⟨oc,od,kV,doc,pm,an,fL,ct,uZ,rfl,l,c⟩,k⟩
variable{X:Cx}
theorem pv(i:Nat){x:Str}{pos:Pos}(hN:X.N[i]?=some x:=by rfl)(hv:Mt X.env.scope x:=by first|exact Or.inl rfl|exact Or.inr (Or.inl rfl)|exact Or.inr (Or.inr rfl))(hd:(x==("__debug__":Str))=false:=by decide)
 (uj:(x==("__classdict__":Str))=false:=by decide):PE X (.Name x pos) (BZ i):=fu hN hv hd uj
end
def Qz{A B:Prop}(h:B):if false=true then A else B:=by
 rw [if_neg zzf];exact h
def PM{A B:Prop}(h:A):if true=true then A else B:=by
 rw [if_pos rfl];exact h
def az(H H':Hp):Prop:=∀b o,H b=some o->H' b=some o
def az.refl(H:Hp):az H H:=λ_ _ h=>h
def az.trans{H H1 H2:Hp}(a:az H H1)(b:az H1 H2):az H H2:=λc o h=>b c o (a c o h)
def az.free{H H':Hp}(e:az H H'){l:Addr}(h:H' l=Option.none):H l=Option.none:=by
 cases q:H l with
 |none=>rfl
 |some o=>
  rw [e l o q] at h;cases h
def az.seq{K:zz8}{H H':Hp}{a:Addr}{xs:List V}(e:az H H')(h:fH K H a xs):fH K H' a xs:=by
 rcases h with(h|⟨o,h⟩)|h
 ·exact .inl (.inl (e _ _ h))
 ·exact .inl (.inr ⟨o,e _ _ h⟩)
 ·exact .inr h
end L2
set_option maxHeartbeats 8000000
namespace L2
open PySem PySem.Spec PyProof.Rows
open PySem.W (hideAll hideAll_get of_hideAll funFrames_hide)
structure Di(P:Program)(w:World)(outer:List Env)(H:Hp)(s:Shared)(E:XK)(a C t:Addr)(vs:List Value)(H':Hp)(B:Heap)(s':Shared):Prop where
 os:s'.os=s.os
 bare:AllBare s'.gens
 aK:d6 P w H' B
 Cm:Heap.FlyingW B outer a (.ref C) (.ref t) s'.heap
 tn:B.get? t=none
 tup:s'.heap.TupAt t vs
 dN:∀b o,s.heap.get? b=some o->H b=none->b∉eA outer->B.get? b=some o
 cR:∀b o,s.heap.get? b=some o->b∉eA outer->∃o',B.get? b=some o'
 un:Un (eA outer) [] H H' s.heap s'.heap
 ends:E (.ref C) (some a) H'
noncomputable def dI(P:Program)(w:World):yX:=λouter H s E e s'=>∃a C t vs H' B,e=.ref a/\Di P w outer H s E a C t vs H' B s'
section
variable{P:Program}{w:World}{K:zz8}{mg:Str->Option Value}{base:Heap}{N:List Str}{qual:Str}{scope:Scope}{f:Addr}{cd:Value}{A:Around}{outer:List Env}{s0:Shared}{H0:Hp}{E:XK}
def j1{X:Cx}{aa:List (Addr×Obj)}{σ:St}{H:Hp}{s:Shared}(I:Inv X aa σ H s){b:Addr}{o:Obj}(hl:X.env.locals=X.s₀.heap.objs.size)(q:X.s₀.heap.get? b=some o)(hb:b∉X.fs):b∉eA X.stack:=λz=>by
 rcases zzm.mp (I.ij b z) with e|e
 ·rw [hl] at e;exact absurd (zzO q) (by rw [e];exact Nat.lt_irrefl _)
 ·exact hb e
def MK:Passes (dI P w) (dA (dI P w) P w K mg base N qual scope f cd A outer s0 H0 E) E:=by
 rintro aa σ H s e s' I ⟨a,C,t,vs,H',B,rfl,F⟩
 have nx:∀b:Addr,b∉(dA (dI P w) P w K mg base N qual scope f cd A outer s0 H0 E).ex:=λb z=>nomatch (show b∈([]:List Addr) from z)
 have dN:∀b o,s0.heap.get? b=some o->H0 b=none->b∉eA outer->B.get? b=some o:=λb o q n hb=>
  F.dN b o (I.base.keep b o q n hb (nx b)) (I.base.free b o q n (nx b)) (j1 I rfl q hb)
 have cR:∀b o,s0.heap.get? b=some o->b∉eA outer->∃o',B.get? b=some o':=λb o q hb=>by
  obtain⟨o1,q1⟩:=I.base.there b o q (nx b)
  exact F.cR b o1 q1 (j1 I rfl q hb)
 refine wpAny_leaves_onW I.ok.frames rfl F.Cm λh' x1 x2=>⟨a,C,t,vs,H',B,rfl,?_⟩
 have slot:∀b o,s0.heap.get? b=some o->H0 b=none->b∈eA outer->∃sl,h'.get? b=some {o with slots:=sl}:=λb o q n hb=>by
  obtain⟨sl,q1⟩:=I.base.slot b o q n hb (nx b)
  obtain⟨sl2,q2⟩:=F.un.any q1 (I.base.free b o q n (nx b)) (λz=>nomatch z)
  obtain⟨_,o',q3,hd⟩:=F.Cm.2.2.1.mem (b:=b) (zz1.mpr (let⟨v,h1,h2⟩:=zz1.mp hb;⟨v,.tail _ h1,h2⟩))
  rw [q2] at q3;cases q3;obtain⟨Ik,q4⟩:=x2 b _ q2 hd
  exact⟨Ik,q4⟩
 refine⟨F.os.trans I.os,F.bare,F.aK,x1,F.tn,F.tup.of_slots x2,dN,cR,⟨λb o q n hb _=>x1.1 _ _ (dN b o q n hb),λb o q n hb _=>slot b o q n hb,λb o q n _=>?_,λb o q _=>?_,λb xs q=>F.un.gU _ _ (I.base.gU _ _ q),λb o u q=>F.un.fE _ _ _ (I.base.fE _ _ _ q),λb ps q=>?_⟩,F.ends⟩
 ·obtain⟨sl,q1⟩:=I.base.any q n (nx b)
  exact F.un.free b _ q1 (I.base.free b o q n (nx b)) (λz=>nomatch z)
 ·by_cases hb:b∈eA outer
  ·obtain⟨sl,q1⟩:=slot b o q (I.ok.ym b hb) hb
   exact⟨_,q1⟩
  ·obtain⟨o',q1⟩:=cR b o q hb
   exact⟨o',x1.1 _ _ q1⟩
 ·obtain⟨m1,q1⟩:=I.base.gj b ps q
  obtain⟨m2,q2⟩:=F.un.gj b _ q1
  exact⟨m1++m2,by rw [<-Array.append_assoc];exact q2⟩
def Ih{aa:List (Addr×Obj)}{σ:St}{H:Hp}{s:Shared}{h1:Heap}{e C:Addr}{us:List Value}(I:Inv (dA (dI P w) P w K mg base N qual scope f cd A outer s0 H0 E) aa σ H s)
 (hx:Heap.MadeExcOf s.heap h1 e (.ref C) us) (hE:E (.ref C) (some e) H):(dA (dI P w) P w K mg base N qual scope f cd A outer s0 H0 E).xe (.ref e) {s with heap:=h1}:=by
 have nx:∀b:Addr,b∉(dA (dI P w) P w K mg base N qual scope f cd A outer s0 H0 E).ex:=λb z=>nomatch (show b∈([]:List Addr) from z)
 have CN:∀env∈(dA (dI P w) P w K mg base N qual scope f cd A outer s0 H0 E).stack,∀b,env.frame=some b->b∈eA (dA (dI P w) P w K mg base N qual scope f cd A outer s0 H0 E).stack:=λenv he b hb=>zz1.mpr ⟨env,he,hb⟩
 refine wpAny_leaves_madeW (h:=s.heap) I.ok.frames rfl (λb o q=>of_hideAll _ q) (funFrames_hide I.stack CN) hx λh' t x1 x2 x3 x4=>⟨e,C,t,us,H,hideAll s.heap (eA (dA (dI P w) P w K mg base N qual scope f cd A outer s0 H0 E).stack),rfl,?_⟩
 have dN:∀b o,s0.heap.get? b=some o->H0 b=none->b∉eA outer->(hideAll s.heap (eA (dA (dI P w) P w K mg base N qual scope f cd A outer s0 H0 E).stack)).get? b=some o:=λb o q n hb=>
  hideAll_get _ (I.base.keep b o q n hb (nx b)) (j1 I rfl q hb)
 have cR:∀b o,s0.heap.get? b=some o->b∉eA outer->∃o',(hideAll s.heap (eA (dA (dI P w) P w K mg base N qual scope f cd A outer s0 H0 E).stack)).get? b=some o':=λb o q hb=>by
  obtain⟨o1,q1⟩:=I.base.there b o q (nx b)
  exact⟨o1,hideAll_get _ q1 (j1 I rfl q hb)⟩
 have slot:∀b o,s0.heap.get? b=some o->H0 b=none->b∈eA outer->∃sl,h'.get? b=some {o with slots:=sl}:=λb o q n hb=>by
  obtain⟨sl,q1⟩:=I.base.slot b o q n hb (nx b)
  obtain⟨_,o',q3,hd⟩:=I.stack.mem (b:=b) (zz1.mpr (let⟨v,h1,h2⟩:=zz1.mp hb;⟨v,.tail _ h1,h2⟩))
  rw [q1] at q3;cases q3;obtain⟨Ik,q4⟩:=x4 b _ (hx.keeps _ _ q1) hd
  exact⟨Ik,q4⟩
 refine⟨I.os,I.bare,λb o q=>?_,x1,x3,x2,dN,cR,⟨λb o q n hb _=>x1.1 _ _ (dN b o q n hb),λb o q n hb _=>slot b o q n hb,λb o q n _=>I.base.free b o q n (nx b),λb o q _=>?_,I.base.gU,I.base.fE,I.base.gj⟩,hE⟩
 ·refine(I.aK b o q).dZ (λc v hc r=>hideAll_get _ r λz=>?_) (λ_ q=>q) λ_ _ q=>q
  have z':=I.kM c z
  rcases hc with rfl|hc
  ·rw [q] at z';cases z'
  ·rw [hc] at z';cases z'
 ·by_cases hb:b∈eA outer
  ·obtain⟨sl,q1⟩:=slot b o q (I.ok.ym b hb) hb
   exact⟨_,q1⟩
  ·obtain⟨o',q1⟩:=cR b o q hb
   exact⟨o',x1.1 _ _ q1⟩
end
def j4{P:Program}{w:World}{H:Hp}{h:Heap}{a:Addr}{o:HO}(x:bO P w H h a o):∃o',h.get? a=some o':=by
 cases o with
 |lst xs=>obtain⟨_,_,_,_,e⟩:=x;exact⟨_,e⟩
 |tup xs=>obtain⟨_,_,_,o,e,_⟩:=x;exact⟨_,e⟩
 |dK au=>obtain⟨_,_,_,_,o,_,_,e,_⟩:=x;exact⟨_,e⟩
 |dT au=>obtain⟨_,_,_,_,o,_,_,e,_⟩:=x;exact⟨_,e⟩
 |set S n=>obtain⟨o,_,_,_,e,_⟩:=x;exact⟨_,e⟩
 |ins C dx fs=>obtain⟨_,_,_,e,_⟩:=x;exact⟨_,e⟩
 |own y=>exact x
 |xd fs=>obtain⟨_,⟨_,_,_,e,_⟩,_⟩:=x;exact⟨_,e⟩
 |pH lo hi=>obtain⟨_,_,_,e⟩:=x;exact⟨_,e⟩
 |bz ob u=>obtain⟨e,_⟩:=x;exact⟨_,e⟩
 |fT ps=>exact⟨_,x⟩
 |met f y=>exact⟨_,x⟩
 |ext φ=>exact x.2.1
noncomputable def Kh(C:Addr)(E:XK)(ta:TA):TS:=λ_ σ H=>ta σ H λvs H1=>vs.length<=sizeLine/\∀e,H1 e=none->E (.ref C) (some e) H1
section
variable{P:Program}{w:World}{K:zz8}{mg:Str->Option Value}{base:Heap}{N:List Str}{qual:Str}{scope:Scope}{f:Addr}{cd:Value}{A:Around}{outer:List Env}{s0:Shared}{H0:Hp}{E:XK}
theorem A3{x:Str}{C:Addr}{Bn newId IY:String}{bm:List Value}{e₀:Expr}{rest:List Expr}{np bU pos:Pos}{ta:TA}(hg:Gl (dA (dI P w) P w K mg base N qual scope f cd A outer s0 H0 E) x)(O:OwnCls x C bm newId mg base)(FB:ExcBaseFacts Bn newId IY bm)
 (ha:PA (dA (dI P w) P w K mg base N qual scope f cd A outer s0 H0 E) (e₀::rest) ta)
 (he:starEach (e₀::rest) (dA (dI P w) P w K mg base N qual scope f cd A outer s0 H0 E).env=(false,eval e₀ (dA (dI P w) P w K mg base N qual scope f cd A outer s0 H0 E).env)::starEach rest (dA (dI P w) P w K mg base N qual scope f cd A outer s0 H0 E).env:=by rfl)
 (ui:(backTo bU (starEach rest (dA (dI P w) P w K mg base N qual scope f cd A outer s0 H0 E).env)).any (·.1)=false:=by rfl) (hd:(x==("__debug__":Str))=false:=by decide):
 PS (dA (dI P w) P w K mg base N qual scope f cd A outer s0 H0 E) (.Raise (some (.Call (.Name x np) (e₀::rest) [] bU)) none pos) (Kh C E ta):=by
 intro aa s σ H D I h;obtain⟨tl,Nn,nm,q,bs,hdct,sn,sub,ab,col,dd,k0,k1,k2,k3,k5,mN,hC,hN,hni,T⟩:=O.obj
 refine wpAny_Raise_call_subT (C:=C) (nm:=nm) (q:=q) (N:=Nn) (bs:=bs) (bm:=tl) (hdct:=hdct) (sn:=sn) (sub:=sub) (ab:=ab) (col:=col) (dd:=dd) (k0:=k0) (k1:=k1) (k2:=k2) (k3:=k3) (k5:=k5)
  FB (mN:=mN) (T.hasType FB.hasBase) (I.ok.hd rfl) (by rw [he];show(false||(backTo bU (starEach rest (dA (dI P w) P w K mg base N qual scope f cd A outer s0 H0 E).env)).any (·.1))=false;rw [ui];rfl) hni (gE I hg O.bound ⟨rfl,?_⟩ hd)
 have h2:=ha bU aa s σ H _ I h
 rw [he] at h2⊢;refine Calls.evalArgs_plain (wpAny_mono h2 (λus s2 ⟨vs,H1,I1,rv,hl,hE⟩=>?_) λ_ _ y=>y)
 refine⟨rfl,by rw [<-rv.length];exact hl,I1.bk _ _ hC,hN.keeps I1.bk,T.keeps I1.bk,λh1 e hx=>Ih I1 hx (hE e ?_)⟩
 cases z:H1 e with
 |none=>rfl
 |some o=>
  obtain⟨o',iF⟩:∃o',s2.heap.get? e=some o':=by
   exact j4 (I1.aK _ _ z)
  rw [hx.new] at iF;cases iF
end
noncomputable def Mq(a C:Addr):HO:=.ext λh=>∃ob vs,h.get? a=some ob/\ob.cls=.ref C/\ob.data=.fields vs
section
variable{P:Program}{w:World}
def Di.fresh{outer:List Env}{H:Hp}{s s':Shared}{E:XK}{a C t:Addr}{vs:List Value}{H':Hp}{B:Heap}(F:Di P w outer H s E a C t vs H' B s'):H' a=none:=by
 cases z:H' a with
 |none=>rfl
 |some o=>
  obtain⟨o',iF⟩:=j4 (F.aK _ _ z)
  rw [F.Cm.2.1] at iF;cases iF
end
noncomputable def bE(env:Env)(ys:List Str):List (Str×Addr):=ys.map λy=>(y,(env.cells.lookup y).getD 0)
noncomputable def AD(σ:St)(is:List Nat):St:=is.map λi=>(σ[i]?).join
noncomputable def lN(scope:Scope)(x:Str):Bool:=scope.names.lookup x==some .cell
theorem uO{x:Str}{c:Addr}:∀(names:List (Str×NameKind)) (n:Nat) (acc:List (Str×Addr)),(x,c)∈cellsFrom n names acc->(x,c)∈acc\/(x,NameKind.cell)∈names/\n<=c
 |[],n,acc,h=>by rw [cellsFrom.eq_def] at h;exact .inl h
 | (y,k)::r,n,acc,h=>by
  rw [cellsFrom.eq_def] at h;dsimp only at h;split at h
  ·rename_i hk;cases eq_of_beq hk;rcases uO r (n+1) _ h with z|⟨z1,z2⟩
   ·rcases zzm.mp z with z|z
    ·cases z;exact .inr ⟨zzP ..,zzE _⟩
    ·exact .inl z
   ·exact .inr ⟨zzI _ z1,Nat.le_of_succ_le z2⟩
  ·rcases uO r n _ h with z|⟨z1,z2⟩
   ·exact .inl z
   ·exact .inr ⟨zzI _ z1,z2⟩
theorem pS{x:Str}{c:Addr}:∀(names:List (Str×NameKind)) (n:Nat) (acc:List (Str×Addr)),(cellsFrom n names acc).lookup x=some c->acc.lookup x=some c\/(x,NameKind.cell)∈names/\n<=c
 |[],n,acc,h=>by rw [cellsFrom.eq_def] at h;exact .inl h
 | (y,k)::r,n,acc,h=>by
  rw [cellsFrom.eq_def] at h;dsimp only at h;split at h
  ·rename_i hk;cases eq_of_beq hk;rcases pS r (n+1) _ h with z|⟨z1,z2⟩
   ·rw [zz5] at z;cases e:x==y with
    |true=>rw [e] at z;cases z;cases eq_of_beq e;exact .inr ⟨zzP ..,zzE _⟩
    |false=>rw [e] at z;exact .inl z
   ·exact .inr ⟨zzI _ z1,Nat.le_of_succ_le z2⟩
  ·rcases pS r n _ h with z|⟨z1,z2⟩
   ·exact .inl z
   ·exact .inr ⟨zzI _ z1,z2⟩
theorem qg{x:Str}:∀(names:List (Str×NameKind)) (n:Nat) (acc:List (Str×Addr)),(x,NameKind.cell)∉names->(cellsFrom n names acc).lookup x=acc.lookup x
 |[],n,acc,_=>by rw [cellsFrom.eq_def]
 |(y,k)::r,n,acc,h=>by
  rw [cellsFrom.eq_def];dsimp only;have hr:(x,NameKind.cell)∉r:=λz=>h (zzI _ z)
  split
  ·rename_i hk;cases eq_of_beq hk;rw [qg r (n+1) _ hr,zz5];cases e:x==y with
   |true=>cases eq_of_beq e;exact absurd (zzP ..) h
   |false=>rfl
  ·exact qg r n acc hr
theorem IP{x:Str}{c:Addr}:∀(names:List (Str×NameKind)) (n:Nat) (acc:List (Str×Addr)),(x,c)∈cellsFrom n names acc->(∀p∈acc,p.2≠c)->(x,c)∈cellsFrom n names []
 |names,n,acc,h,ha=>by
  have key:∀(names:List (Str×NameKind)) (n:Nat) (acc b:List (Str×Addr)),(x,c)∈cellsFrom n names (b++acc)->(∀p∈acc,p.2≠c)->(x,c)∈cellsFrom n names b:=by
   intro names
   induction names with
   |nil=>
    intro n acc b h ha;rw [cellsFrom.eq_def] at h⊢;rcases List.mem_append.mp h with z|z
    ·exact z
    ·exact absurd rfl (ha _ z)
   |cons y r ih=>
    intro n acc b h ha;obtain⟨y,k⟩:=y
    rw [cellsFrom.eq_def] at h⊢;dsimp only at h⊢;split at h
    ·rename_i hk;rw [if_pos hk];exact ih (n+1) acc ((y,n)::b) h ha
    ·rename_i hk;rw [if_neg hk];exact ih n acc b h ha
  exact key names n acc [] h ha
theorem p8{x y:Str}{c:Addr}:∀(names:List (Str×NameKind)) (n:Nat) (acc:List (Str×Addr)),(∀p∈acc,p.2<n)->n<=c->(x,c)∈cellsFrom n names acc->(y,c)∈cellsFrom n names acc->x=y
 |[],n,acc,ha,hc,h1,h2=>by
  rw [cellsFrom.eq_def] at h1;exact absurd (ha _ h1) (Nat.not_lt.mpr hc)
 | (z,k)::r,n,acc,ha,hc,h1,h2=>by
  rw [cellsFrom.eq_def] at h1 h2;dsimp only at h1 h2;split at h1
  ·rename_i hk;rw [if_pos hk] at h2;have UU:∀p∈(z,n)::acc,p.2<n+1:=λp hp=>by
    rcases zzm.mp hp with q|q
    ·rw [q];exact Nat.lt_succ_self _
    ·exact Nat.lt_succ_of_lt (ha p q)
   by_cases hn:n+1<=c
   ·exact p8 r (n+1) _ UU hn h1 h2
   ·have one:∀{w:Str},(w,c)∈cellsFrom (n+1) r ((z,n)::acc)->w=z:=λ{w} h=>by
     rcases uO r (n+1) _ h with q|q
     ·rcases zzm.mp q with q|q
      ·cases q;rfl
      ·exact absurd (ha _ q) (Nat.not_lt.mpr hc)
     ·exact absurd q.2 hn
    rw [one h1,one h2]
  ·rename_i hk;rw [if_neg hk] at h2;exact p8 r n acc ha hc h1 h2
def uB{M:Model}{A:Around}{E:Value->Shared->Prop}{s:Shared}{scope:Scope}{g:Addr}{cl:List (Str×Addr)}{qual:Str}{around:Env}{Q:Env->Shared->Prop}
 (h:Q (newEnv scope (zz9 s) g (cellsFrom ((zz9 s)+1) scope.names cl) qual none .none (some around) builtinsNs) {s with heap:=pushCells (s.heap.push {cls:=.type "dict",data:=.dict #[]}) scope.names}):
 wpAny M A (newFunctionEnv scope g cl [] qual none .none (some around)) Q E s:=by
 unfold newFunctionEnv;refine zzA (wpAny_alloc ?_);refine zzA (wpAny_forIn_list _ (λrest b s'=>s'={s with heap:=s'.heap}/\pushCells s'.heap rest=pushCells (s.heap.push {cls:=.type "dict",data:=.dict #[]}) scope.names/\cellsFrom (zz9 s') rest b=cellsFrom ((zz9 s)+1) scope.names cl) _ (λx rest b s' hI=>?_) (λb s' hI=>?_) scope.names cl ⟨rfl,rfl,by rw [Heap.size_push]⟩)
 ·obtain⟨h1,h2,h3⟩:=hI
  obtain⟨nm,k⟩:=x
  rw [pushCells.eq_def] at h2;rw [cellsFrom.eq_def] at h3;dsimp only at h2 h3⊢;split
  ·rename_i hk;rw [if_pos hk] at h2 h3;refine zzA (wpAny_alloc (zzG ⟨by rw [h1],h2,?_⟩));dsimp only;rw [Heap.size_push];exact h3
  ·rename_i hk;rw [if_neg hk] at h2 h3;exact zzG ⟨h1,h2,h3⟩
 ·obtain⟨h1,h2,h3⟩:=hI
  rw [pushCells.eq_def] at h2;rw [cellsFrom.eq_def] at h3;dsimp only at h2 h3;subst h3;rw [h1,h2];exact zzA (zzG (zzG h))
noncomputable def bT(X:Cx)(N':List Str)(scope:Scope)(cl:List (Str×Addr))(fp:List Addr)(s₁:Shared)(H₁:Hp)(C:Addr):Cx where
 prog:=X.prog
 w:=X.w
 K:=X.K
 mg:=X.mg
 base:=X.base
 A:=X.A
 N:=N'
 s₀:=s₁
 H₀:=H₁
 env:=compEnvC scope (cellsFrom (C+1) scope.names cl) C X.env
 outer:=X.stack
 stack:=X.stack
 ex:=fp
 fn:=lN scope
 calm:=true
 pn:=[]
 xe:=λ_ _=>False
theorem d9{env:Env}:∀{ys:List Str},(ys.all λy=>(env.cells.lookup y).isSome)=true->∀(x:Str) (c:Addr),(bE env ys).lookup x=some c->env.cells.lookup x=some c
 |[],_,_,_,h=>by simp [bE] at h
 |y::ys,ha,x,c,h=>by
  rw [List.all_cons,zza] at ha;have ih:=d9 (env:=env) ha.2 x c
  unfold bE at h ih;rw [zzF,zz5] at h;cases e:x==y with
  |true=>
   rw [e] at h;have Qw:x=y:=zzy.mp e
   subst Qw;obtain⟨c',iK⟩:=zzp.mp ha.1
   rw [iK] at h⊢;exact h
  |false=>
   rw [e] at h;exact ih h
theorem iN{env:Env}:∀{ys:List Str} {x:Str},x∈ys->∃c,(bE env ys).lookup x=some c
 |[],_,h=>nomatch h
 |y::ys,x,h=>by
  unfold bE;rw [zzF,zz5];cases e:x==y with
  |true=>exact⟨_,rfl⟩
  |false=>
   have hx:x∈ys:=by
    rcases zzm.mp h with z|z
    ·rw [z] at e;simp at e
    ·exact z
   exact iN (env:=env) hx
def j7{scope:Scope}{env:Env}{x:Str}{k:NameKind}(h:(relabel scope env).names.lookup x=some k)(hk:k=.cell\/k=.free):∃k',(x,k')∈scope.names/\(k'=.cell\/k'=.free):=by
 have hm:=PySem.mem_of_lookup h
 unfold relabel at hm;obtain⟨⟨n,k0⟩,h0,e⟩:=zzx.mp hm
 dsimp only at e;split at e
 ·rename_i hc;cases e;refine⟨k0,h0,.inr ?_⟩;rw [zza,zza] at hc;exact zzy.mp hc.1.1
 ·cases e;exact⟨k,h0,hk⟩
structure eJ(X:Cx)(scope:Scope)(xs ys:List Str)(is:List Nat):Prop where
 kind:scope.kind=.function
 Pk:closureFor scope X.env=pure (bE X.env ys)
 cells:(ys.all λy=>(X.env.cells.lookup y).isSome)=true
 Jn:(scope.names.all λy=>(decide (y.2≠.cell)||!ys.contains y.1)&&(decide (y.2≠.free)||ys.contains y.1))=true
 own:(scope.names.all λy=>decide (y.2≠.cell)||decide (scope.names.lookup y.1=some .cell))=true
 names:(scope.names.all λy=>decide (y.2≠.local)||decide (scope.names.lookup y.1=some .local))=true
 slots:is.map (λi=>X.N[i]?)=ys.map some
 kX:(ys.all λy=>decide (X.env.kindOf y=some .cell))=true
 kY:(ys.all λy=>decide ((relabel scope X.env).names.lookup y=some .cell))=true
section
variable{X:Cx}{aa:List (Addr×Obj)}{σ:St}{H:Hp}{s:Shared}{scope:Scope}{xs ys:List Str}{is:List Nat}
def eJ.IJ(S:eJ X scope xs ys is){x:Str}(h:(x,NameKind.cell)∈scope.names):scope.names.lookup x=some .cell/\x∉ys:=by
 have q:=zzT.mp S.own _ h
 have c:=zzT.mp S.Jn _ h
 rw [zza,zzt] at c;rw [zzt] at q;refine⟨zzY (q.resolve_left λz=>zzY z rfl),λhy=>?_⟩
 rcases c.1 with z|z
 ·exact zzY z rfl
 ·rw [zzn.mpr hy] at z;cases z
def f9(I:Inv X aa σ H s)(S:eJ X scope xs ys is){C:Addr}(hC:(zz9 s)<=C){x:Str}{c:Addr}(h:(cellsFrom (C+1) scope.names (bE X.env ys)).lookup x=some c):
 (X.env.cells.lookup x=some c/\c<(zz9 s)/\x∈ys)\/((x,NameKind.cell)∈scope.names/\C+1<=c):=by
 rcases pS _ _ _ h with z|z
 ·have e:=d9 S.cells x c z
  obtain⟨v,q⟩:=I.cell x c e
  refine .inl ⟨e,q.lt,?_⟩;have hm:=PySem.mem_of_lookup z
  unfold bE at hm;obtain⟨y,hy,e2⟩:=zzx.mp hm
  cases e2;exact hy
 ·exact .inr z
def xK(I:Inv X aa σ H s)(hc:X.calm=true)(S:eJ X scope xs ys is){N':List Str}{fp:List Addr}{C:Addr}(hC:(zz9 s)<=C)(hf:∀b∈fp,fe X aa H b)(GO:∀b∈fp,b<(zz9 s)):
 (bT X N' scope (bE X.env ys) fp s H C).Ok where
 mod:=I.ok.mod
 kind:=S.kind
 glob:=I.ok.glob
 blt:=I.ok.blt
 above:=hC
 inj:=λx y c h1 h2=>by
  rcases f9 I S hC h1 with z1|z1
  ·rcases f9 I S hC h2 with z2|z2
   ·exact I.ok.inj x y c z1.1 z2.1
   ·exact absurd z1.2.1 (Nat.not_lt.mpr (zzU hC (Nat.le_of_succ_le z2.2)))
  ·refine p8 scope.names (C+1) (bE X.env ys) (λp hp=>?_) z1.2 (PySem.mem_of_lookup h1) (PySem.mem_of_lookup h2);unfold bE at hp;obtain⟨y,hy,rfl⟩:=zzx.mp hp
   obtain⟨c',iK⟩:=zzp.mp (zzT.mp S.cells y hy)
   obtain⟨v,q⟩:=I.cell y c' iK
   dsimp only;rw [iK];exact Nat.lt_succ_of_le (zzU (Nat.le_of_lt q.lt) hC)
 has:=λx hx=>by
  have ve:(relabel scope X.env).names.lookup x=some .cell\/(relabel scope X.env).names.lookup x=some .free:=hx
  have:∃k',(x,k')∈scope.names/\(k'=.cell\/k'=.free):=by
   rcases ve with z|z
   ·exact j7 z (.inl rfl)
   ·exact j7 z (.inr rfl)
  obtain⟨k',hm,hk⟩:=this
  have cv:=zzT.mp S.Jn _ hm
  rw [zza,zzt,zzt] at cv;rcases hk with z|z
  ·subst z;exact zzp.mp (PySem.W.cellsFrom_some _ _ _ (.inl (S.IJ hm).1))
  ·rcases cv.2 with q|q
   ·exact absurd z (zzY q)
   ·refine zzp.mp (PySem.W.cellsFrom_some _ _ _ (.inr ?_));obtain⟨c,e⟩:=iN (env:=X.env) (zzn.mp q)
    rw [e];rfl
 KZ:=λx c h e=>by
  have hm:(x,NameKind.cell)∈scope.names:=PySem.mem_of_lookup (eq_of_beq h)
  rcases f9 I S hC e with z|z
  ·exact absurd z.2.2 (S.IJ hm).2
  ·exact zzU hC (Nat.le_of_succ_le z.2)
 hd:=λ_=>I.ok.hd hc
 frames:=I.ok.frames
 Lc:=.inl rfl
 exf:=λb hb=>⟨zzb (zzW (GO b hb) hC),λx c h=>(f9 I S hC h).elim (λz=>(hf b hb).2.2.2.2.1 x c z.1) λz q=>absurd (GO b hb) (Nat.not_lt.mpr (q▸zzU hC (Nat.le_of_succ_le z.2)))⟩
 bs:=λb o e=>I.bs b o e
 xR:=zzU I.ok.xR I.sz
 DX:=λb o e hb=>by
  rcases(hf b hb).2.2.2.1 with z|z
  ·exact I.ok.DX b o e z
  ·exact absurd (zzW (zzO e) (zzU I.ok.xR z)) (Nat.lt_irrefl _)
 GV:=λb hb hs=>(zzm.mp (I.ij b hs)).elim (hf b hb).2.1 (hf b hb).2.2.1
 gq:=I.stack
 ym:=λb hb=>I.kM b hb
theorem wA{N:List Str}:∀{is:List Nat} {ys:List Str},is.map (λi=>N[i]?)=ys.map some->∀(j:Nat) (y:Str) (v:V),ys[j]?=some y->(AD σ is)[j]?=some (some v)->∃i:Nat,N[i]?=some y/\σ[i]?=some (some v)
 |[],[],_,_,_,_,h,_=>by simp at h
 |[],_::_,h,_,_,_,_,_=>by simp at h
 |_::_,[],h,_,_,_,_,_=>by simp at h
 |i::is,y0::ys,h,0,y,v,h1,h2=>by
  rw [zzF,zzF] at h;have h0:=(List.cons.inj h).1
  simp! [List.getElem?_cons_zero,Option.some.injEq] at h1;subst h1;refine⟨i,h0,?_⟩;unfold AD at h2;simp! [zzF,List.getElem?_cons_zero,Option.some.injEq] at h2;exact Option.join_eq_some_iff.mp h2
 |i::is,y0::ys,h,j+1,y,v,h1,h2=>by
  rw [zzF,zzF] at h;refine wA (is:=is) (ys:=ys) (List.cons.inj h).2 j y v (by simpa using h1) ?_;unfold AD at h2⊢
  simpa using h2
noncomputable abbrev lobj(ax:List Value)(n:Nat):Obj:={cls:=.type "list",data:=.seq ax.toArray n}
def yo(ax:List Value)(n:Nat)(v:Option Value):(lobj ax n).data≠.cell v:=λz=>by cases z
noncomputable abbrev tests(ifs:List Expr)(env:Env):Sem Bool:=forIn ifs true λc r=>if r=true then do let ok<-isTrue c env (eval c env);pure (ForInStep.yield ok) else pure (ForInStep.yield r)
theorem pA{prog:Program}{w:World}{A:Around}{R:Result->Shared->Prop}{s:Shared}{elt target iter:Expr}{ifs:List Expr}{scope:Scope}{pos:Pos}{it acc:Value}{env:Env}(I:Nat->Shared->Prop)
 (turn:∀n s,I n s->wpAny (model prog w) A (pyNext it) (λr s₁=>match r with
  |none=>R (.ok .next) s₁
  |some v=>wpAny (model prog w) A (letOwnedTupleGo target it v) (λ_ s₁'=>wpAny (model prog w) A (assign target env v) (λ_ s₂=>
   wpAny (model prog w) A (tests ifs env) (λok s₃=>if ok=true then wpAny (model prog w) A (eval elt env) (λx s₄=>
    wpAny (model prog w) A (call (.builtin "list.append") [acc,x]) (λ_ s₅=>∃m,m<n/\I m s₅) (notedBy (model prog w) A env λe s'=>R (.error e) s') s₄) (notedBy (model prog w) A env λe s'=>R (.error e) s') s₃
    else∃m,m<n/\I m s₃) (notedBy (model prog w) A env λe s'=>R (.error e) s') s₂)
   (notedBy (model prog w) A env λe s'=>R (.error e) s') s₁') (notedBy (model prog w) A env λe s'=>R (.error e) s') s₁) (notedBy (model prog w) A env λe s'=>R (.error e) s') s)
 (n:Nat) (h:I n s):
 codeAny (model prog w) A (.compLoop (.ListComp elt [⟨target,iter,ifs,0⟩] scope pos) 0 it acc env) R s:=by
 refine codeAny_loop rfl I (λn s hI=>?_) n h;show wpAny _ A ((compTurn (.ListComp elt [⟨target,iter,ifs,0⟩] scope pos) 0 it acc env).onRaise (λx=>do noteFrame x env;theTreesLotGoes x)) _ _ s;refine wpAny_noted ?_;rw [compTurn_list];refine zzA (wpAny_standAt (zzA (wpAny_mono (turn n s hI) (λr s₁ h₁=>?_) λ_ _ h'=>h')))
 cases r with
 |none=>exact zzG h₁
 |some v=>
  refine zzA (wpAny_mono h₁ (λ_ s₁' h₁'=>?_) λ_ _ h'=>h')
  refine zzA (wpAny_mono h₁' (λ_ s₂ h₂=>zzA (wpAny_mono h₂ (λok s₃ h₃=>?_) λ_ _ h'=>h')) λ_ _ h'=>h')
  cases ok with
  |false=>exact zzG ⟨rfl,h₃⟩
  |true=>exact zzA (zzA (wpAny_mono h₃ (λx s₄ h₄=>zzA (wpAny_mono h₄ (λ_ s₅ h₅=>zzG (zzG ⟨rfl,h₅⟩)) λ_ _ h'=>h')) λ_ _ h'=>h'))
def Ow(X:Cx)(ifs:List Expr)(t:TT):Prop:=
 ∀(aa:List (Addr×Obj)) (s:Shared) (σ:St) (H:Hp) (Q:Bool->Hp->Prop),Inv X aa σ H s->t σ H Q->wpAny (model X.prog X.w) X.A (tests ifs X.env) (TP X aa σ Q) X.xe s
def vM{X:Cx}:Ow X [] (λ_ H q=>q true H):=λ_ _ _ H _ I h=>wpAny_tests_nil ⟨H,I,h⟩
def vG{X:Cx}{e:Expr}{t:TT}(h:PT X e t):Ow X [e] t:=λaa s σ H Q I z=>wpAny_tests_one (h aa s σ H Q I z)
def Lk(J:It)(k:Nat)(g:TG)(te:TE)(fs:St)(Q:VK)(H1:Hp):Prop:=∃(n:Nat) (W:Nat->List V->St->Hp->Prop),W 0 [] (List.replicate k none++fs) H1/\
 ∀i ys σ' H',W i ys σ' H'->ys.length<sizeLine/\((J.stop i H'/\∀p,H' p=none->Q (.ref p) (upd H' p (.lst ys)))\/
  (J.go i H'/\i<n/\∀x nh,J.KI i H' x nh->g x σ' nh λσ2 H2=>te σ2 H2 λy H3=>W (i+1) (ys++[y]) σ2 H3))
noncomputable def zV(wi:TI)(k:Nat)(g:TG)(te:TE)(is:List Nat):TE:=λσ H Q=>wi σ H λJ H1=>Lk J k g te (AD σ is) Q H1
def Dv(J:It)(k:Nat)(g:TG)(tt:TT)(te:TE)(fs:St)(Q:VK)(H1:Hp):Prop:=∃(n:Nat) (W:Nat->List V->St->Hp->Prop),W 0 [] (List.replicate k none++fs) H1/\
 ∀i ys σ' H',W i ys σ' H'->ys.length<sizeLine/\((J.stop i H'/\∀p,H' p=none->Q (.ref p) (upd H' p (.lst ys)))\/
  (J.go i H'/\i<n/\∀x nh,J.KI i H' x nh->g x σ' nh λσ2 H2=>tt σ2 H2 λb H3=>if b=true then te σ2 H3 (λy H4=>W (i+1) (ys++[y]) σ2 H4) else W (i+1) ys σ2 H3))
noncomputable def kP(wi:TI)(k:Nat)(g:TG)(tt:TT)(te:TE)(is:List Nat):TE:=λσ H Q=>wi σ H λJ H1=>Dv J k g tt te (AD σ is) Q H1
def gH{elt tg iter:Expr}{ifs:List Expr}{pos pp:Pos}{wi:TI}{g:TG}{te:TE}{tt:TT}{use:Option (Value->Sem Unit)}{QQ:Value->Shared->Prop}{Q:VK}(hc:X.calm=true)(S:eJ X scope xs ys is)(hi:PI X tg iter wi)
 (hg:∀fp s1 H1 C,PG (bT X (xs++ys) scope (bE X.env ys) fp s1 H1 C) tg g) (ht:∀fp s1 H1 C,Ow (bT X (xs++ys) scope (bE X.env ys) fp s1 H1 C) ifs tt) (he:∀fp s1 H1 C,PE (bT X (xs++ys) scope (bE X.env ys) fp s1 H1 C) elt te)
 (hs:∀x,foldedSetIterable iter X.env x=pure x) (I:Inv X aa σ H s) (h:kP wi xs.length g tt te is σ H Q)
 (fin:∀(D C:Addr) (s4:Shared) (H4:Hp) (m:Str->Option Value),Inv X aa σ H4 s4->s4.heap.Ns C m->fe X aa H4 C->Q (.ref D) H4->compPost (model X.prog X.w) X.A X.xe use QQ (.ref D) C (.ok .next) s4):
 wpAny (model X.prog X.w) X.A (comprehension (.ListComp elt [⟨tg,iter,ifs,0⟩] scope pos) scope X.env pp (newList []) false (eval iter X.env) use) QQ X.xe s:=by
 have Ja:∀x∈scope.names,x.2=.local->scope.names.lookup x.1=some .local:=λx hx hl=>by
  have q:=zzT.mp S.names x hx
  rw [zzt] at q;rcases q with q|q
  ·exact absurd hl (zzY q)
  ·exact zzY q
 refine wpAny_comprehension_free (use:=use) (Q:=QQ) (g:=⟨tg,iter,ifs,0⟩) (gs:=[]) rfl hs S.Pk S.kind Ja (bP (hi aa s σ H _ I h) λxv s0 h0=>bP h0 λPw s1 h1=>?_)
 obtain⟨it,fp,tn,J,H1,rfl,I1,T,Kj,f1,n,W,w0,turn⟩:=h1
 refine wpAny_newObj_type (uB ?_);dsimp only;generalize hH2:s1.heap.push {cls:=.type "list",dict:=none,data:=.seq ([]:List Value).toArray}=G2
 generalize hh₁:pushCells (G2.push {cls:=.type "dict",data:=.dict #[]}) scope.names=h₁
 have OO:∀b o,(G2.push {cls:=.type "dict",data:=.dict #[]}).get? b=some o->h₁.get? b=some o:=λb o e=>by rw [<-hh₁];exact pushCells_keeps _ _ b o e
 have hns₁:h₁.Ns G2.objs.size λ_=>none:=(Heap.Ns.new G2 (.type "dict")).keeps OO
 have RD:G2.objs.size=(zz9 s1)+1:=by rw [<-hH2,Heap.size_push]
 have nD:(zz9 s1)<=G2.objs.size:=by rw [RD];exact Nat.le_succ _
 have Of:(zz9 s1)≠G2.objs.size:=by rw [RD];exact zzb (Nat.lt_succ_self _)
 have old:∀b o,s1.heap.get? b=some o->h₁.get? b=some o:=λb o e=>OO b o (zzB _ (hH2▸zzB _ e))
 have Kr:h₁.get? (zz9 s1)=some (lobj [] 0):=OO _ _ (zzB _ (hH2▸zzX _ rfl))
 have GO:∀b∈fp,b<(zz9 s1):=λb hb=>by
  obtain⟨o,e,_⟩:=T.obj _ _ Kj b hb
  exact zzO e
 generalize hY:bT X (xs++ys) scope (bE X.env ys) fp s1 H1 G2.objs.size=Y
 have TL:Y.Ok:=by rw [<-hY];exact xK I1 hc S nD f1 GO
 have SO:∀b∈fp,(zz9 s1)≠b:=λb hb=>Ne.symm (zzb (GO b hb))
 have ON:∀b,b∈Y.fs->b=X.env.locals\/b∈X.fs:=λb hb=>by
  rw [<-hY] at hb;exact zzm.mp (I1.ij b hb)
 have QG:∀b∈Y.fs,b<(zz9 s1):=λb hb=>by
  rw [<-hY] at hb;obtain⟨_,o,ho,_⟩:=I1.stack.mem hb
  exact zzO ho
 have PX:(zz9 s1)∉Y.fs:=λz=>Nat.lt_irrefl _ (QG _ z)
 have JR:Y.env.locals=G2.objs.size:=by rw [<-hY];rfl
 have NL:∀x c,Y.env.cells.lookup x=some c->(X.env.cells.lookup x=some c/\c<(zz9 s1)/\x∈ys)\/((x,NameKind.cell)∈scope.names/\G2.objs.size+1<=c):=λx c e=>by
  rw [<-hY] at e;exact f9 I1 S nD e
 have UW:∀x c,Y.env.cells.lookup x=some c->G2.objs.size+1<=c->h₁.IsCell c none:=λx c e hle=>by
  rw [<-hY] at e;have hm:(x,c)∈cellsFrom (G2.objs.size+1) scope.names []:=IP scope.names _ _ (PySem.mem_of_lookup e) λp hp=>by
   unfold bE at hp;obtain⟨y,hy,rfl⟩:=zzx.mp hp
   obtain⟨c',iK⟩:=zzp.mp (zzT.mp S.cells y hy)
   obtain⟨v,q⟩:=I1.cell y c' iK
   dsimp only;rw [iK];exact zzb (zzW q.lt (zzU nD (Nat.le_of_succ_le hle)))
  have ck:=cellsFrom_ok scope.names (G2.push {cls:=.type "dict",data:=.dict #[]}) 0 [] ⟨(λ_ _ z=>nomatch z),.nil⟩ (Nat.zero_le _)
  rw [Heap.size_push,hh₁] at ck;exact(ck.empty x c hm).1
 have UC:∀x c,Y.env.cells.lookup x=some c->c≠(zz9 s1):=λx c e=>(NL x c e).elim (λz=>zzb z.2.1) λz=>Ne.symm (zzb (zzV nD z.2))
 have AI:Y.pn=[]:=by rw [<-hY];rfl
 have MC:Y.ex=fp:=by rw [<-hY];rfl
 have K5:Y.s₀=s1:=by rw [<-hY];rfl
 have SQ:Y.H₀=H1:=by rw [<-hY];rfl
 have MN:Y.prog=X.prog:=by rw [<-hY];rfl
 have ML:Y.w=X.w:=by rw [<-hY];rfl
 have Sq:Y.K=X.K:=by rw [<-hY];rfl
 have PY:Y.A=X.A:=by rw [<-hY];rfl
 have Ue:compEnvC scope (cellsFrom (G2.objs.size+1) scope.names (bE X.env ys)) G2.objs.size X.env=Y.env:=by rw [<-hY];rfl
 have MJ:Y.calm=true:=by rw [<-hY];rfl
 have IB:Y.xe=λ_ _=>False:=by rw [<-hY];rfl
 have Ld:Y.fs=eA X.stack:=by rw [<-hY];rfl
 have Na:∀{H':Hp} {s':Shared} {ax:List Value} {k:Nat},s'.heap.get? (zz9 s1)=some (lobj ax k)->H' (zz9 s1)=none->∀p∈[((zz9 s1),lobj ax k)],s'.heap.get? p.1=some p.2/\H' p.1=none/\p.1≠Y.env.locals/\p.1∉Y.fs/\∀v,p.2.data≠.cell v:=
  λ{H' s' ax k} e hn p hp=>by
   obtain rfl:=zzi.mp hp
   exact⟨e,hn,by rw [JR];exact Of,PX,λv=>yo ax k v⟩
 have Qj:∀{H':Hp} {ax:List Value} {k:Nat},(∀b∈fp,H' b=none)->∀b∈fp,fe Y [((zz9 s1),lobj ax k)] H' b:=λ{H' ax k} hn b hb=>
  ⟨hn b hb,by rw [JR];exact zzb (zzW (GO b hb) nD),λz=>(ON b z).elim (f1 b hb).2.1 (f1 b hb).2.2.1,.inl (by rw [MC];exact hb),
   λx c e=>(NL x c e).elim (λz=>(f1 b hb).2.2.2.2.1 x c z.1) (λz q=>absurd (GO b hb) (Nat.not_lt.mpr (q▸zzU nD (Nat.le_of_succ_le z.2)))),λp hp=>by
    rw [AI,List.nil_append] at hp;obtain rfl:=zzi.mp hp
    exact SO b hb⟩
 have K7:H1 (zz9 s1)=none:=I1.aK.fresh (zzE _)
 have I2:∀tk,Inv Y [((zz9 s1),lobj [] 0)] (List.replicate xs.length none++AD σ is) H1 {s1 with heap:=h₁,toks:=tk}:=λtk=>by
  refine⟨TL,by rw [K5],I1.bare,by rw [K5,SQ];exact Un.kept old,⟨_,by rw [JR];exact hns₁,λi x v e1 e2 e3=>?_⟩,λx c e=>?_,?_,λx c e=>(NL x c e).elim (λz=>I1.gY x c z.1) (λz=>I1.aK.fresh (zzU nD (Nat.le_of_succ_le z.2))),λp hp=>?_,by rw [MN,ML];exact I1.aK.kept old,?_⟩
  ·
   have OX:Y.N=xs++ys:=by rw [<-hY];rfl
   rw [OX] at e1
   by_cases bH:i<xs.length
   ·rw [zzr (by rw [List.length_replicate];exact bH),List.getElem?_replicate,if_pos bH] at e2;cases e2
   ·have IK:xs.length<=i:=Nat.not_lt.mp bH
    rw [zzs (by rw [List.length_replicate];exact IK),List.length_replicate] at e2;rw [zzs IK] at e1;obtain⟨i0,h0,h1⟩:=wA S.slots _ x v e1 e2
    have hm:x∈ys:=zzD e1
    have kx:X.env.kindOf x=some .cell:=zzY (zzT.mp S.kX x hm)
    have ky:(relabel scope X.env).names.lookup x=some .cell:=zzY (zzT.mp S.kY x hm)
    obtain⟨m,_,hl⟩:=I1.loc
    obtain⟨u,ru,lk⟩:=hl i0 x v h0 h1 (.inr (.inl kx))
    refine⟨u,ru,.inr ⟨.inl (by rw [<-hY];exact ky),?_⟩⟩;rcases lk with⟨z,_⟩|⟨_,c,hc1,hc2⟩
    ·rw [kx] at z;cases z
    ·obtain⟨c',iK⟩:=iN (env:=X.env) hm
     have Mv:=d9 S.cells x c' iK
     rw [hc1] at Mv;cases Mv;refine⟨c,by rw [<-hY];exact(qg _ _ _ λz=>(S.IJ z).2 hm).trans iK,?_⟩
     obtain⟨o,ho,hd⟩:=hc2
     exact⟨o,old _ _ ho,hd⟩
  ·rcases NL x c e with z|z
   ·obtain⟨v,o,ho,hd⟩:=I1.cell x c z.1
    exact⟨v,o,old _ _ ho,hd⟩
   ·exact⟨none,UW x c e z.2⟩
  ·rw [JR];exact I1.aK.fresh nD
  ·rw [AI,List.nil_append] at hp;exact Na (s':={s1 with heap:=h₁,toks:=tk}) Kr K7 p hp
  ·have OX:Y.N=xs++ys:=by rw [<-hY];rfl
   have hl:=congrArg List.length S.slots
   rw [zzl,zzl] at hl;rw [OX,zzM,zzM,List.length_replicate];unfold AD;rw [zzl,hl]
 have loop:∀s₃:Shared,s₃={s1 with heap:=h₁}->
  codeAny (model X.prog X.w) X.A (.compLoop (.ListComp elt [⟨tg,iter,ifs,0⟩] scope pos) 0 (.ref it) (.ref (zz9 s1)) (compEnvC scope (cellsFrom (G2.objs.size+1) scope.names (bE X.env ys)) G2.objs.size X.env))
   (compPost (model X.prog X.w) X.A X.xe use QQ (.ref (zz9 s1)) G2.objs.size) s₃:=by
  rintro s₃ rfl
  rw [Ue];refine pA (λk s'=>∃i made σ' H' ax c,Inv Y [((zz9 s1),lobj ax c)] σ' H' s'/\tn i s'.heap/\(∀b∈fp,H' b=none)/\Vals made ax/\k=n-i/\W i made σ' H') ?_ n
   ⟨0,[],_,H1,[],0,I2 _,T.keep _ _ _ Kj λb _ o e=>old b o e,λb hb=>(f1 b hb).1,.nil,rfl,w0⟩
  rintro k s' ⟨i,made,σ',H',ax,c,I3,st3,fr3,rv,rfl,w3⟩
  obtain⟨hz,tw⟩:=turn i made σ' H' w3
  have pD:=I3.pin ((zz9 s1),lobj ax c) (by rw [AI];exact zzi.mpr rfl)
  rcases tw with⟨stop,hq⟩|⟨go,CN,step⟩
  ·rw [<-PY];refine bP (T.done Y MN ML Sq MJ i _ s' σ' H' _ I3 (Qj fr3) st3 stop) λr s4 ⟨hr,I4⟩=>?_
   subst hr;obtain⟨m,hn4,_⟩:=I4.loc
   rw [JR] at hn4;have Pa:=I4.pin ((zz9 s1),lobj ax c) (by rw [AI];exact zzi.mpr rfl)
   have kp:∀b o,b≠G2.objs.size->s4.heap.get? b=some o->s4.heap.get? b=some o:=λb o hb e=>e
   have Qo:∀{b o},s1.heap.get? b=some o->b≠G2.objs.size:=λ{b o} e=>zzb (zzW (zzO e) nD)
   have gZ:=I4.base
   rw [K5,SQ,MC,Ld] at gZ;have OB:∀{b o},H1 b=some o->b≠(zz9 s1):=λ{b o} e=>zzb (I1.aK.lt e)
   have u:Un (eA X.stack) fp H1 (upd H' (zz9 s1) (.lst made)) s1.heap s4.heap:=by
    refine⟨λb o e n hb hx=>kp b o (Qo e) (gZ.keep b o e n hb hx),λb o e n hb hx=>?_,λb o e n hx=>?_,λb o e hx=>?_,λb xs e=>?_,λb o u e=>?_,λb ps e=>?_⟩
    ·obtain⟨sl,q⟩:=gZ.slot b o e n hb hx
     exact⟨sl,kp b _ (Qo e) q⟩
    ·rw [af (zzb (zzO e))];exact gZ.free b o e n hx
    ·obtain⟨o',q⟩:=gZ.there b o e hx
     exact⟨o',kp b _ (Qo e) q⟩
    ·rw [af (OB e)];exact gZ.gU b xs e
    ·rw [af (OB e)];exact gZ.fE b o u e
    ·obtain⟨more,q⟩:=gZ.gj b ps e
     exact⟨more,by rw [af (OB e)];exact q⟩
   have SI:H' G2.objs.size=none:=by rw [<-JR];exact I4.free
   have Em:d6 X.prog X.w (upd H' (zz9 s1) (.lst made)) s4.heap:=λb o e=>by
    by_cases hb:b=(zz9 s1)
    ·subst hb;rw [aq] at e;cases e;exact⟨Nat.le_of_lt hz,ax,c,rv,kp _ _ Of Pa.1⟩
    ·rw [af hb] at e;have x4:=I4.aK b o e
     rw [MN,ML] at x4;have Kg:∀b' u,H' b'=some u->b'≠G2.objs.size:=λb' u q z=>by rw [z,SI] at q;cases q
     have RN:∀b' u,H' b'=some u->b'≠(zz9 s1):=λb' u q z=>by rw [z,Pa.2.1] at q;cases q
     refine x4.dZ (λb' u m9 q=>kp b' u ?_ q) (λb' q=>?_) λb' xs q=>?_
     ·rcases m9 with z|z
      ·rw [z];exact Kg b o e
      ·exact Kg b' _ z
     ·rw [af (RN b' _ q)];exact q
     ·rw [af (RN b' _ q)];exact q
   have I5:Inv X aa σ (upd H' (zz9 s1) (.lst made)) s4:=I1.ME (by show s4.os=s1.os;rw [I4.os,K5]) u Em I4.bare λb hb=>⟨(f1 b hb).2.2.2.1,(f1 b hb).2.1,(f1 b hb).2.2.2.2.1,(f1 b hb).2.2.2.2.2⟩
   dsimp only;rw [PY];exact fin (zz9 s1) G2.objs.size s4 _ m I5 hn4 (I1.mP nD (by rw [af (Ne.symm Of)];exact SI)) (hq _ Pa.2.1)
  ·rw [<-PY];refine bP (T.item Y MN ML Sq MJ i _ s' σ' H' _ I3 (Qj fr3) st3 go) λr s4 ⟨u,hr,h4⟩=>?_
   subst hr;dsimp only;refine bP h4 λ_ s5 ⟨x,H5,I5,r5,y5,st5,fr5⟩=>?_
   have OP:=I5.pinned (Qj fr5) (T.obj _ _ st5)
   have Se:=hg fp s1 H1 G2.objs.size
   have Rf:=he fp s1 H1 G2.objs.size
   have Rt:=ht fp s1 H1 G2.objs.size
   rw [hY] at Se Rf Rt;rw [<-MN,<-ML];refine wpAny_mono (Se _ s5 σ' H5 x u _ OP r5 (step x H5 y5)) (λ_ s6 ⟨σ6,H6,I6,q6⟩=>?_) (λ_ _ f=>by rw [IB] at f;exact f.elim);refine wpAny_mono (Rt _ s6 σ6 H6 _ I6 q6) (λokb sT ⟨HT,IT,qT⟩=>?_) (λ_ _ f=>by rw [IB] at f;exact f.elim);have U1:=IT.pin ((zz9 s1),lobj ax c) (zzR _ (zzc _ (zzi.mpr rfl)))
   have Tr:tn (i+1) sT.heap:=T.keep _ _ _ st5 λb hb o e=>(IT.pin (b,o) (zzR _ (zzR _ (df hb e)))).1
   cases okb with
   |false=>
    refine⟨n-(i+1),by omega,i+1,made,σ6,HT,ax,c,IT.iR,Tr,λb hb=>?_,rv,rfl,qT⟩
    obtain⟨o,e,d⟩:=T.obj _ _ st5 b hb
    exact(IT.pin (b,o) (zzR _ (zzR _ (df hb e)))).2.1
   |true=>
   refine wpAny_mono (Rf _ sT σ6 HT _ IT qT) (λv s7 ⟨y,H7,I7,r7,q7⟩=>?_) (λ_ _ f=>by rw [IB] at f;exact f.elim);have QP:=I7.pin ((zz9 s1),lobj ax c) (zzR _ (zzc _ (zzi.mpr rfl)))
   have e7:s7.heap.get? (zz9 s1)=some {cls:=.type "list",data:=.seq ax.toArray c}:=QP.1
   refine append_at (hsz:=by rw [zzC,<-rv.length];exact Nat.le_of_lt hz) e7 λh' tH SX=>?_
   have I8:Inv Y [] σ6 H7 s7:=I7.gN λ_ z=>nomatch z
   have I9:Inv Y [] σ6 H7 {s7 with heap:=h'}:=I8.turned (t':=s7.toks) (it:=(zz9 s1)) (λb o hb e=>tH.extBut b o hb e) QP.2.1 (by rw [JR];exact Of) (.inr (by rw [K5];exact zzE _))
    (λx c' e=>UC x c' e) (λp hp=>by rw [AI] at hp;cases hp)
   have eD:h'.get? (zz9 s1)=some (lobj (ax++[v]) (c+1)):=by rw [SX,List.push_toArray]
   have TC:tn (i+1) s7.heap:=T.keep _ _ _ st5 λb hb o e=>(I7.pin (b,o) (zzR _ (zzR _ (df hb e)))).1
   refine⟨n-(i+1),by omega,i+1,made++[y],σ6,H7,ax++[v],c+1,I9.gN (Na (s':={s7 with heap:=h'}) eD QP.2.1),T.keep _ _ _ TC λb hb o e=>tH.extBut b o (Ne.symm (SO b hb)) e,λb hb=>?_,rv.append (.cons r7 .nil),rfl,q7⟩
   obtain⟨o,e,d⟩:=T.obj _ _ st5 b hb
   exact(I7.pin (b,o) (zzR _ (zzR _ (df hb e)))).2.1
 exact codeAny_compStart_list (loop _ rfl) (T.self _ 0 _ _ _ (T.keep _ _ _ Kj λb _ o e=>old b o e) (loop _ rfl))
def DG{elt tg iter:Expr}{pos:Pos}{wi:TI}{g:TG}{te:TE}(hc:X.calm=true)(S:eJ X scope xs ys is)(hi:PI X tg iter wi)
 (hg:∀fp s1 H1 C,PG (bT X (xs++ys) scope (bE X.env ys) fp s1 H1 C) tg g) (he:∀fp s1 H1 C,PE (bT X (xs++ys) scope (bE X.env ys) fp s1 H1 C) elt te)
 (hs:∀x,foldedSetIterable iter X.env x=pure x:=by intro _;rfl):
 PE X (.ListComp elt [⟨tg,iter,[],0⟩] scope pos) (zV wi xs.length g te is):=by
 intro aa s σ H Q I h;rw [eval_ListComp];exact gH (use:=none) (Q:=Q) hc S hi hg (λ_ _ _ _=>vM) he hs I h (λD C s4 H4 m I5 hn ⟨g0,g1,_,g3,g4,g5⟩ q=>⟨m,hn,λh' tH=>⟨.ref D,H4,I5.turned (t':=s4.toks) (it:=C) (λb o hb e=>tH.extBut b o hb e) g0 g1 g3 g4 g5,rfl,q⟩⟩)
def yD{elt tg iter Jx:Expr}{pos:Pos}{wi:TI}{g:TG}{te:TE}{tt:TT}(hc:X.calm=true)(S:eJ X scope xs ys is)(hi:PI X tg iter wi)
 (hg:∀fp s1 H1 C,PG (bT X (xs++ys) scope (bE X.env ys) fp s1 H1 C) tg g) (ht:∀fp s1 H1 C,PT (bT X (xs++ys) scope (bE X.env ys) fp s1 H1 C) Jx tt) (he:∀fp s1 H1 C,PE (bT X (xs++ys) scope (bE X.env ys) fp s1 H1 C) elt te)
 (hs:∀x,foldedSetIterable iter X.env x=pure x:=by intro _;rfl):
 PE X (.ListComp elt [⟨tg,iter,[Jx],0⟩] scope pos) (kP wi xs.length g tt te is):=by
 intro aa s σ H Q I h;rw [eval_ListComp];exact gH (use:=none) (Q:=Q) hc S hi hg (λfp s1 H1 C=>vG (ht fp s1 H1 C)) he hs I h (λD C s4 H4 m I5 hn ⟨g0,g1,_,g3,g4,g5⟩ q=>⟨m,hn,λh' tH=>⟨.ref D,H4,I5.turned (t':=s4.toks) (it:=C) (λb o hb e=>tH.extBut b o hb e) g0 g1 g3 g4 g5,rfl,q⟩⟩)
end
def bx{H:Hp}{p:Addr}{o:HO}(h:H p=none):az H (upd H p o):=λb u e=>by rw [af (c8 e h)];exact e
section
end
end L2
namespace Cw
open PySem L2
noncomputable def sgn(c:Nat):Bool:=c==35||(48<=c&&c<=57)
noncomputable def Ts:V->Bool
 |.str z=>decide (1<=z.cps.toList.length)&&decide (z.cps.toList.length<=12)&&z.cps.toList.all sgn
 |_=>false
noncomputable def Md:V->Nat
 |.str z=>z.cps.toList.length
 |_=>0
section
variable{K:zz8}
abbrev Ct(K:zz8)(t n:String)(b:Bool):Prop:=PySem.W.kitOne K (.type t) (.type n)=some b
def zH{K:zz8}(t:String):Ct K t t true:=by unfold Ct PySem.W.kitOne;rw [if_pos (by simp)]
def Cb{t n:String}{b:Bool}(h0:(Value.type t==Value.type n)=false)(h1:PySem.W.kitMeta n=true)(h2:(fastBuiltinMro t).map (·.contains (Value.type n))=some b):Ct K t n b:=by
 unfold Ct PySem.W.kitOne;rw [if_neg (by rw [h0];exact zzf)];show(if PySem.W.kitMeta n=true then PySem.W.subIn K (.type t) (.type n) else none)=some b
 rw [if_pos h1];exact h2
end
abbrev Ro:Str:="#0123456789"
end Cw
namespace L2
open PySem PySem.Spec PyProof.Rows
structure Jj(K:zz8)(C:Addr):Prop where
 ga:PySem.W.findIn K (.ref C) "__getattribute__"=some (some (.builtin "BaseException.__getattribute__"))
 hk:PySem.W.findIn K (.ref C) "__getattr__"=some none
 cl:PySem.W.findIn K (.ref C) "__class__"=some (some (.builtin "object.__class__"))
 mo:PySem.W.mroIn K C (.type "object")=some true
 mb:PySem.W.mroIn K C (.type "BaseException")=some true
 is:(PySem.W.clsIn K C).isSome=true
open PySem.AutoSeq1 (wpAny_loadPart')
end L2
namespace Cw
open PySem L2
end Cw
namespace L2
open PySem PySem.Spec PyProof.Rows
section
variable{X:Cx}
def qk:bW X (.type "int") (λxs H Q=>∃z n,xs=[.str z]/\PySem.intText? z=some n/\z.length<=640/\Q (.int n) H):=by
 intro aa s σ H xs us Q I r h;obtain⟨z,n,rfl,h1,h2,q⟩:=h
 obtain⟨u,rfl,t,rfl⟩:=vals1 r
 exact PySem.W.KIN.call_text h1 h2 ⟨.int n,H,I.tok _,⟨_,rfl⟩,q⟩
end
end L2
namespace Cw
open PySem L2
end Cw
namespace L2
open PySem PySem.Spec PyProof.Rows
theorem oR{α β:Type}{R:α->β->Prop}:∀{xs:List α} {ys:List β},Paired R xs ys->∀{i:Nat} {x:α},xs[i]?=some x->∃y,ys[i]?=some y/\R x y
 |_,_,.nil,_,_,h=>by simp at h
 |_,_,.cons r t,0,x,h=>by simp at h;subst h;exact⟨_,rfl,r⟩
 |_,_,.cons r t,i+1,x,h=>by
  obtain⟨y,h1,h2⟩:=oR t (i:=i) (x:=x) (by simpa using h)
  exact⟨y,by simpa using h1,h2⟩
theorem lJ{α β:Type}{R:α->β->Prop}:∀{xs:List α} {ys:List β},Paired R xs ys->xs.length=ys.length
 |_,_,.nil=>rfl
 |_,_,.cons _ t=>by simp [lJ t]
section
def B8{vs:List V}{ax:List Value}(r:Vals vs ax){j:Nat}(h:j<ax.toArray.size):∃v,vs[j]?=some v/\RelV v ax.toArray[j]:=by
 have hl:=r.length
 rw [zzC] at h;have hj:j<vs.length:=by omega
 obtain⟨u,hu,ru⟩:=r.get (i:=j) (x:=vs[j]) (zzg hj)
 rw [zzg h] at hu;cases hu;exact⟨_,zzg hj,by simpa using ru⟩
end
abbrev bF:HO:=.ext λ_=>True
def mO{P:Program}{w:World}{H:Hp}{h:Heap}{a:Addr}{o:Obj}(e:h.get? a=some o):bO P w H h a (.bz o bF):=⟨e,trivial,⟨o,e⟩,λ_ _ _ _=>trivial⟩
noncomputable def aM(Z:List (Addr×Obj))(H:Hp):Hp:=λb=>match Z.lookup b with
 |some o=>some (.bz o bF)
 |none=>H b
noncomputable def aS(Z:List (Addr×Obj))(H:Hp):Hp:=λb=>match Z.lookup b with
 |some _=>none
 |none=>H b
section
variable{Z:List (Addr×Obj)}{H H':Hp}{b:Addr}{o:Obj}
def aZ(e:Z.lookup b=some o):aM Z H b=some (.bz o bF):=by unfold aM;rw [e]
def ai(e:Z.lookup b=none):aM Z H b=H b:=by unfold aM;rw [e]
def e8(e:Z.lookup b=some o):aS Z H b=none:=by unfold aS;rw [e]
def aw(e:Z.lookup b=none):aS Z H b=H b:=by unfold aS;rw [e]
def dU{u:HO}(e:aS Z H b=some u):Z.lookup b=none/\H b=some u:=by
 cases q:Z.lookup b with
 |none=>rw [aw q] at e;exact⟨rfl,e⟩
 |some o=>rw [e8 q] at e;cases e
def iC(h:H b=none):aS Z H b=none:=by
 cases q:Z.lookup b with
 |none=>rw [aw q];exact h
 |some o=>exact e8 q
structure uY(Z:List (Addr×Obj))(H:Hp)(fs:List Addr)(h:Heap):Prop where
 at_:∀b o,Z.lookup b=some o->h.get? b=some o
 no:∀b o,Z.lookup b=some o->H b=none
 fr:∀b o,Z.lookup b=some o->b∉fs
variable{P:Program}{w:World}{fs:List Addr}{h h':Heap}
theorem uY.aK(z:uY Z H fs h)(k:d6 P w H h):d6 P w (aM Z H) h:=λb u e=>by
 cases q:Z.lookup b with
 |some o=>rw [aZ q] at e;cases e;exact mO (z.at_ b o q)
 |none=>
  rw [ai q] at e;have nz:∀c v,H c=some v->Z.lookup c=none:=λc v hv=>by
   cases y:Z.lookup c with
   |none=>rfl
   |some o=>rw [z.no c o y] at hv;cases hv
  exact(k b u e).dZ (λc v _ r=>r) (λc r=>by rw [ai (nz c _ r)];exact r) λc xs r=>by rw [ai (nz c _ r)];exact r
def uY.wx(z:uY Z H fs h)(u:Un fs [] (aM Z H) H' h h')(k:d6 P w H' h'):Un fs [] H (aS Z H') h h'/\d6 P w (aS Z H') h':=by
 have zk:∀b o,Z.lookup b=some o->H' b=some (.bz o bF):=λb o q=>u.fE b o _ (aZ q)
 have zh:∀b o,Z.lookup b=some o->h'.get? b=some o:=λb o q=>(k b _ (zk b o q)).1
 have nz:∀c v,H c=some v->Z.lookup c=none:=λc v hv=>by
  cases y:Z.lookup c with
  |none=>rfl
  |some o=>rw [z.no c o y] at hv;cases hv
 refine⟨⟨λb o e n hb hx=>?_,λb o e n hb hx=>?_,λb o e n hx=>?_,λb o e hx=>u.there b o e hx,λb xs e=>?_,λb o v e=>?_,λb ps e=>?_⟩,λb v e=>?_⟩
 ·cases q:Z.lookup b with
  |some o'=>
   have e2:=z.at_ b o' q
   rw [e] at e2;cases e2;exact zh b o q
  |none=>exact u.keep b o e (by rw [ai q];exact n) hb hx
 ·cases q:Z.lookup b with
  |some o'=>exact absurd hb (z.fr b o' q)
  |none=>exact u.slot b o e (by rw [ai q];exact n) hb hx
 ·cases q:Z.lookup b with
  |some o'=>exact e8 q
  |none=>rw [aw q];exact u.free b o e (by rw [ai q];exact n) hx
 ·rw [aw (nz b _ e)];exact u.gU b xs (by rw [ai (nz b _ e)];exact e)
 ·rw [aw (nz b _ e)];exact u.fE b o v (by rw [ai (nz b _ e)];exact e)
 ·rw [aw (nz b _ e)];exact u.gj b ps (by rw [ai (nz b _ e)];exact e)
 ·obtain⟨q,e1⟩:=dU e
  refine(k b v e1).dZ (λc y _ r=>r) (λc r=>?_) λc xs r=>?_
  ·cases y:Z.lookup c with
   |none=>rw [aw y];exact r
   |some o=>rw [zk c o y] at r;cases r
  ·cases y:Z.lookup c with
   |none=>rw [aw y];exact r
   |some o=>rw [zk c o y] at r;cases r
def uY.xb(z:uY Z H fs h)(u:Un fs [] H H' h h')(k:d6 P w H' h'):Un fs [] (aM Z H) (aM Z H') h h'/\d6 P w (aM Z H') h':=by
 have zh:∀b o,Z.lookup b=some o->h'.get? b=some o:=λb o q=>u.keep b o (z.at_ b o q) (z.no b o q) (z.fr b o q) (λy=>nomatch y)
 have zn:∀b o,Z.lookup b=some o->H' b=none:=λb o q=>u.free b o (z.at_ b o q) (z.no b o q) (λy=>nomatch y)
 have nz:∀c v,H' c=some v->Z.lookup c=none:=λc v hv=>by
  cases y:Z.lookup c with
  |none=>rfl
  |some o=>rw [zn c o y] at hv;cases hv
 have nw:∀b,aM Z H b=none->Z.lookup b=none/\H b=none:=λb e=>by
  cases q:Z.lookup b with
  |some o=>rw [aZ q] at e;cases e
  |none=>rw [ai q] at e;exact⟨rfl,e⟩
 refine⟨⟨λb o e n hb hx=>u.keep b o e (nw b n).2 hb hx,λb o e n hb hx=>u.slot b o e (nw b n).2 hb hx,λb o e n hx=>?_,λb o e hx=>u.there b o e hx,λb xs e=>?_,λb o v e=>?_,λb ps e=>?_⟩,λb v e=>?_⟩
 ·rw [ai (nw b n).1];exact u.free b o e (nw b n).2 hx
 ·cases q:Z.lookup b with
  |some o=>rw [aZ q] at e;cases e
  |none=>rw [ai q] at e⊢;exact u.gU b xs e
 ·cases q:Z.lookup b with
  |some o'=>rw [aZ q] at e⊢;exact e
  |none=>rw [ai q] at e⊢;exact u.fE b o v e
 ·cases q:Z.lookup b with
  |some o=>rw [aZ q] at e;cases e
  |none=>rw [ai q] at e⊢;exact u.gj b ps e
 ·cases q:Z.lookup b with
  |some o=>rw [aZ q] at e;cases e;exact mO (zh b o q)
  |none=>
   rw [ai q] at e;exact(k b v e).dZ (λc y _ r=>r) (λc r=>by rw [ai (nz c _ r)];exact r) λc xs r=>by rw [ai (nz c _ r)];exact r
variable{K:zz8}{mg:Str->Option Value}{base:Heap}{A:Around}{outer:List Env}{s s':Shared}
theorem iU.aM(e:iU P w K mg base A outer s H)(z:uY Z H (eA outer) s.heap)(zb:∀b o,Z.lookup b=some o->base.get? b=none):iU P w K mg base A outer s (aM Z H) where
 frames:=e.frames
 mod:=e.mod
 bs:=λb o q=>⟨(e.bs b o q).1,by
  cases y:Z.lookup b with
  |some o'=>rw [zb b o' y] at q;cases q
  |none=>rw [ai y];exact(e.bs b o q).2⟩
 xR:=e.xR
 gq:=e.gq
 ym:=λb hb=>by
  cases y:Z.lookup b with
  |some o'=>exact absurd hb (z.fr b o' y)
  |none=>rw [ai y];exact e.ym b hb
 aK:=z.aK e.aK
 bare:=e.bare
def CE.less{Q:VK}{u:Value}(z:uY Z H (eA outer) s.heap)(h:CE outer P w (aM Z H) s (λv H'=>Q v (aS Z H')) u s'):CE outer P w H s Q u s':=by
 obtain⟨v,H',os,bare,un,aK,r,q⟩:=h
 obtain⟨u1,k1⟩:=z.wx un aK
 exact⟨v,_,os,bare,u1,k1,r,q⟩
def CE.more{Q:VK}{u:Value}(z:uY Z H (eA outer) s.heap)(h:CE outer P w H s (λv H'=>(∀b o,Z.lookup b=some o->H' b=none)->Q v (aM Z H')) u s'):CE outer P w (aM Z H) s Q u s':=by
 obtain⟨v,H',os,bare,un,aK,r,q⟩:=h
 obtain⟨u1,k1⟩:=z.xb un aK
 exact⟨v,_,os,bare,u1,k1,r,q λb o y=>un.free b o (z.at_ b o y) (z.no b o y) (λy=>nomatch y)⟩
def dI.less{E:XK}{e:Value}(z:uY Z H (eA outer) s.heap)(h:dI P w outer (aM Z H) s (λC a H'=>E C a (aS Z H')) e s'):dI P w outer H s E e s':=by
 obtain⟨a,C,t,vs,H',B,rfl,F⟩:=h
 have zk:∀b o,Z.lookup b=some o->H' b=some (.bz o bF):=λb o q=>F.un.fE b o _ (aZ q)
 have kB:∀b o,s.heap.get? b=some o->H b=none->b∉eA outer->B.get? b=some o:=λb o e n hb=>by
  cases q:Z.lookup b with
  |some o'=>
   have e2:=z.at_ b o' q
   rw [e] at e2;cases e2;exact(F.aK b _ (zk b o q)).1
  |none=>exact F.dN b o e (by rw [ai q];exact n) hb
 have hB:d6 P w (aS Z H') B:=λb v e=>by
  obtain⟨q,e1⟩:=dU e
  refine(F.aK b v e1).dZ (λc y _ r=>r) (λc r=>?_) λc xs r=>?_
  ·cases y:Z.lookup c with
   |none=>rw [aw y];exact r
   |some o=>rw [zk c o y] at r;cases r
  ·cases y:Z.lookup c with
   |none=>rw [aw y];exact r
   |some o=>rw [zk c o y] at r;cases r
 have hs:d6 P w H' s'.heap:=λb v e=>(F.aK b v e).dZ (λc y _ r=>F.Cm.1 _ _ r) (λ_ r=>r) λ_ _ r=>r
 obtain⟨u1,_⟩:=z.wx (P:=P) (w:=w) F.un hs
 exact⟨a,C,t,vs,_,B,rfl,⟨F.os,F.bare,hB,F.Cm,F.tn,F.tup,kB,F.cR,u1,F.ends⟩⟩
def dI.more{E:XK}{e:Value}(z:uY Z H (eA outer) s.heap)(h:dI P w outer H s (λC a H'=>(∀b o,Z.lookup b=some o->H' b=none)->E C a (aM Z H')) e s'):dI P w outer (aM Z H) s E e s':=by
 obtain⟨a,C,t,vs,H',B,rfl,F⟩:=h
 have zB:∀b o,Z.lookup b=some o->B.get? b=some o:=λb o q=>F.dN b o (z.at_ b o q) (z.no b o q) (z.fr b o q)
 have zn:∀b o,Z.lookup b=some o->H' b=none:=λb o q=>F.un.free b o (z.at_ b o q) (z.no b o q) (λy=>nomatch y)
 have nz:∀c v,H' c=some v->Z.lookup c=none:=λc v hv=>by
  cases y:Z.lookup c with
  |none=>rfl
  |some o=>rw [zn c o y] at hv;cases hv
 have hB:d6 P w (aM Z H') B:=λb v e=>by
  cases q:Z.lookup b with
  |some o=>rw [aZ q] at e;cases e;exact mO (zB b o q)
  |none=>
   rw [ai q] at e;exact(F.aK b v e).dZ (λc y _ r=>r) (λc r=>by rw [ai (nz c _ r)];exact r) λc xs r=>by rw [ai (nz c _ r)];exact r
 have hs:d6 P w H' s'.heap:=λb v e=>(F.aK b v e).dZ (λc y _ r=>F.Cm.1 _ _ r) (λ_ r=>r) λ_ _ r=>r
 obtain⟨u1,_⟩:=z.xb (P:=P) (w:=w) F.un hs
 refine⟨a,C,t,vs,_,B,rfl,⟨F.os,F.bare,hB,F.Cm,F.tn,F.tup,λb o e n hb=>F.dN b o e ?_ hb,F.cR,u1,F.ends zn⟩⟩
 cases q:Z.lookup b with
 |some o=>rw [aZ q] at n;cases n
 |none=>rw [ai q] at n;exact n
end
structure tx(ps ys:List Str)(scope:Scope):Prop where
 kind:scope.kind=.function
 co:scope.isCoroutine=false
 gen:scope.isGenerator=false
 nd:(ps++ys).Nodup
 zv:∀x∈scope.names,x.2≠.cell
 par:∀x∈ps,scope.names.lookup x=some .local
 OH:∀y∈ys,scope.names.lookup y=some .free
 Jn:∀x,scope.names.lookup x=some .free->x∈ys
noncomputable def F7(P:Program)(w:World)(K:zz8)(mg:Str->Option Value)(base:Heap)(N:List Str)(qual:Str)(scope:Scope)(f:Addr)(cd:Value)(cl:List (Str×Addr))(A:Around)(outer:List Env)(s:Shared)(H:Hp)(E:XK):Cx where
 prog:=P
 w:=w
 K:=K
 mg:=mg
 base:=base
 A:=A.deeper (PySem.W.envX qual scope (zz9 s) f cd cl)
 N:=N
 s₀:=s
 H₀:=H
 env:=PySem.W.envX qual scope (zz9 s) f cd cl
 outer:=outer
 stack:=PySem.W.envX qual scope (zz9 s) f cd cl::outer
 ex:=[]
 calm:=true
 fn:=λ_=>false
 pn:=[]
 xe:=λe s'=>wpAny (model P w) (A.deeper (PySem.W.envX qual scope (zz9 s) f cd cl)) (leaving (PySem.W.envX qual scope (zz9 s) f cd cl) e) (λ_ FG=>dI P w outer H s E e FG) (λe' FG=>dI P w outer H s E e' FG) s'
theorem oF{α:Type}:∀{l:List (Str×α)} {x:Str} {v:α},(l.map (·.1)).Nodup->(x,v)∈l->l.lookup x=some v
 |(y,u)::r,x,v,nd,h=>by
  rw [zzF,List.nodup_cons] at nd;rw [zz5];rcases zzm.mp h with e|e
  ·cases e;simp
  ·have ff:(x==y)=false:=beq_eq_false_iff_ne.mpr λz=>nd.1 (by subst z;exact List.mem_map_of_mem (f:=(·.1)) e)
   rw [ff];exact oF nd.2 e
def lC{ps:List Str}{us:List Value}{i:Nat}{x:Str}{u:Value}(nd:ps.Nodup)(h1:ps[i]?=some x)(h2:us[i]?=some u):(ps.zip us).reverse.lookup x=some u:=by
 have hs:∀{ps:List Str} {us:List Value},List.Sublist ((ps.zip us).map (·.1)) ps:=λ{ps us}=>by
  induction ps generalizing us with
  |nil=>simp
  |cons p ps ih=>
   cases us with
   |nil=>simp
   |cons q us=>simpa using ih
 refine oF ?_ ?_
 ·rw [List.map_reverse];exact List.pairwise_reverse.mpr ((nd.sublist hs).imp λh=>Ne.symm h)
 ·rw [List.mem_reverse];refine zzD (i:=i) ?_;rw [List.getElem?_zip_eq_some];exact⟨h1,h2⟩
section
variable{P:Program}{w:World}{K:zz8}{mg:Str->Option Value}{base:Heap}{ps ys:List Str}{qual:Str}{scope:Scope}{f:Addr}{cd:Value}{cl:List (Str×Addr)}{A:Around}{outer:List Env}{s:Shared}{H:Hp}{E:XK}
def uE{us:List Value}{vs ws:List V}{h':Heap}{tk:Nat}(S:tx ps ys scope)(hd:A.handled=none)(e0:iU P w K mg base A outer s H)(Kw:∀y∈ys,∃c,cl.lookup y=some c)(inj:∀x y c,cl.lookup x=some c->cl.lookup y=some c->x=y)
 (r:Vals vs us) (hl:vs.length=ps.length) (hw:ws.length=ys.length) (cells:∀(i:Nat) y c,ys[i]?=some y->cl.lookup y=some c->∀v,ws[i]?=some v->∃u,RelV v u/\s.heap.IsCell c (some u)) (Qu:∀x c,cl.lookup x=some c->∃v,s.heap.IsCell c v)
 (K8:∀x c,cl.lookup x=some c->H c=none) (ns:h'.Ns (zz9 s) (λx=>(ps.zip us).reverse.lookup x)) (hk:∀b o,s.heap.get? b=some o->h'.get? b=some o):
 Inv (F7 P w K mg base (ps++ys) qual scope f cd cl A outer s H E) [] (vs.map some++ws.map some) H {s with heap:=h',toks:=tk}:=by
 have Fc:∀b:Addr,b∉(F7 P w K mg base (ps++ys) qual scope f cd cl A outer s H E).ex:=λb z=>absurd (show b∈([]:List Addr) from z) (by simp)
 have ck:∀c v,s.heap.IsCell c v->h'.IsCell c v:=λc v ⟨o,ho,hd⟩=>⟨o,hk c o ho,hd⟩
 refine⟨⟨e0.mod,S.kind,rfl,rfl,zzE _,inj,λx hx=>?_,(λx c z=>nomatch z),λ_=>hd,Around.frames_deeper e0.frames,.inr ⟨rfl,rfl⟩,λb z=>absurd z (Fc b),e0.bs,e0.xR,λb _ _=>Fc b,λb z=>absurd z (Fc b),e0.gq,e0.ym⟩,
  rfl,e0.bare,Un.kept hk,⟨_,ns,λi x v h1 h2 h3=>?_⟩,λx c h=>let⟨v,z⟩:=Qu x c h;⟨v,ck c v z⟩,e0.aK.fresh (zzE _),K8,λp hp=>absurd (show p∈([]:List (Addr×Obj)) from hp) (by simp),e0.aK.kept hk,?_⟩
 ·have hx:scope.names.lookup x=some .cell\/scope.names.lookup x=some .free:=hx
  rcases hx with hx|hx
  ·exact absurd rfl (S.zv _ (PySem.mem_of_lookup hx))
  ·exact Kw x (S.Jn x hx)
 ·have h1:(ps++ys)[i]?=some x:=h1
  by_cases hi:i<vs.length
  ·rw [zzr (by simpa using hi),zzQ] at h2;have ha:vs[i]?=some v:=by
    cases e:vs[i]? with
    |none=>rw [e] at h2;cases h2
    |some a=>rw [e] at h2;cases h2;rfl
   obtain⟨u,hu,rv⟩:=r.get ha
   have hp:ps[i]?=some x:=by rw [zzr (by omega)] at h1;exact h1
   exact⟨u,rv,.inl ⟨S.par x (zzD hp),lC (S.nd.sublist (List.sublist_append_left _ _)) hp hu⟩⟩
  ·rw [zzs (by simpa using hi),zzQ,zzl] at h2;rw [zzs (by omega)] at h1;have ha:ws[i-vs.length]?=some v:=by
    cases e:ws[i-vs.length]? with
    |none=>rw [e] at h2;cases h2
    |some a=>rw [e] at h2;cases h2;rfl
   rw [<-hl] at h1;obtain⟨c,hc⟩:=Kw x (zzD h1)
   obtain⟨u,rv,z⟩:=cells _ x c h1 hc v ha
   exact⟨u,rv,.inr ⟨.inr (S.OH x (zzD h1)),c,hc,ck c _ z⟩⟩
 ·show _=(ps++ys).length
  rw [zzM,zzM,zzl,zzl,hl,hw]
def Ml{N:List Str}:Passes (dI P w) (F7 P w K mg base N qual scope f cd cl A outer s H E) E:=by
 rintro aa σ H1 s1 e s' I ⟨a,C,t,vs,H',B,rfl,F⟩
 have nx:∀b:Addr,b∉(F7 P w K mg base N qual scope f cd cl A outer s H E).ex:=λb z=>nomatch (show b∈([]:List Addr) from z)
 have dN:∀b o,s.heap.get? b=some o->H b=none->b∉eA outer->B.get? b=some o:=λb o q n hb=>
  F.dN b o (I.base.keep b o q n hb (nx b)) (I.base.free b o q n (nx b)) (j1 I rfl q hb)
 have cR:∀b o,s.heap.get? b=some o->b∉eA outer->∃o',B.get? b=some o':=λb o q hb=>by
  obtain⟨o1,q1⟩:=I.base.there b o q (nx b)
  exact F.cR b o1 q1 (j1 I rfl q hb)
 refine wpAny_leaves_onW I.ok.frames rfl F.Cm λh' x1 x2=>⟨a,C,t,vs,H',B,rfl,?_⟩
 have slot:∀b o,s.heap.get? b=some o->H b=none->b∈eA outer->∃sl,h'.get? b=some {o with slots:=sl}:=λb o q n hb=>by
  obtain⟨sl,q1⟩:=I.base.slot b o q n hb (nx b)
  obtain⟨sl2,q2⟩:=F.un.any q1 (I.base.free b o q n (nx b)) (λz=>nomatch z)
  obtain⟨_,o',q3,hd⟩:=F.Cm.2.2.1.mem (b:=b) (zz1.mpr (let⟨v,h1,h2⟩:=zz1.mp hb;⟨v,.tail _ h1,h2⟩))
  rw [q2] at q3;cases q3;obtain⟨Ik,q4⟩:=x2 b _ q2 hd
  exact⟨Ik,q4⟩
 refine⟨F.os.trans I.os,F.bare,F.aK,x1,F.tn,F.tup.of_slots x2,dN,cR,⟨λb o q n hb _=>x1.1 _ _ (dN b o q n hb),λb o q n hb _=>slot b o q n hb,λb o q n _=>?_,λb o q _=>?_,λb xs q=>F.un.gU _ _ (I.base.gU _ _ q),λb o u q=>F.un.fE _ _ _ (I.base.fE _ _ _ q),λb ps q=>?_⟩,F.ends⟩
 ·obtain⟨sl,q1⟩:=I.base.any q n (nx b)
  exact F.un.free b _ q1 (I.base.free b o q n (nx b)) (λz=>nomatch z)
 ·by_cases hb:b∈eA outer
  ·obtain⟨sl,q1⟩:=slot b o q (I.ok.ym b hb) hb
   exact⟨_,q1⟩
  ·obtain⟨o',q1⟩:=cR b o q hb
   exact⟨o',x1.1 _ _ q1⟩
 ·obtain⟨m1,q1⟩:=I.base.gj b ps q
  obtain⟨m2,q2⟩:=F.un.gj b _ q1
  exact⟨m1++m2,by rw [<-Array.append_assoc];exact q2⟩
def wZ{k:Nat}{params:Arguments}{body:Expr}{pm fy:Value}{c':Addr}{oc:Obj}{cQ:Array Value}{ct:Tok}{us:List Value}{vs ws:List V}{Q:VK}{Z:List (Addr×Obj)}{t:TE}
 (S:tx ps ys scope) (hr:du k A) (e0:iU P w K mg base A outer s H) (z:uY Z H (eA outer) s.heap) (zb:∀b o,Z.lookup b=some o->base.get? b=none)
 (ho:s.heap.get? f=some (PySem.W.kla_obj "<lambda>" qual params body scope cl pm c' fy)) (hc:s.heap.get? c'=some oc) (uj:oc.data=.fields cQ) (FK:cQ[1]?=some (.str qual ct))
 (hb:bindArgs (PySem.W.kla_fn "<lambda>" qual params body scope cl pm (.ref c') fy) ⟨us,[]⟩=pure (ps.zip us)) (r:Vals vs us) (hl:vs.length=ps.length) (hw:ws.length=ys.length)
 (Kw:∀y∈ys,∃c,cl.lookup y=some c) (inj:∀x y c,cl.lookup x=some c->cl.lookup y=some c->x=y)
 (cz:∀x c,cl.lookup x=some c->∃o v,Z.lookup c=some o/\o.data=.cell v)
 (cells:∀(i:Nat) y c,ys[i]?=some y->cl.lookup y=some c->∀v,ws[i]?=some v->∃u,RelV v u/\s.heap.IsCell c (some u))
 (ht:PE (F7 P w K mg base (ps++ys) qual scope f (.ref c') cl A outer s H (λC a H'=>(∀b o,Z.lookup b=some o->H' b=none)->E C a (aM Z H'))) body t)
 (hq:t (vs.map some++ws.map some) H λv H'=>(∀b o,Z.lookup b=some o->H' b=none)->Q v (aM Z H')):
 codeAny (model P w) A (.call (.ref f) ⟨us,[]⟩) (CR (dI P w) outer P w (aM Z H) s Q E) s:=by
 have lim:s.heap.NoLimit:=e0.mod.nolimit.keeps λb o e=>(e0.bs b o e).1
 refine PySem.W.kla_callFunE hr.depth ho rfl S.co S.gen rfl ⟨c',oc,cQ,ct,rfl,hc,uj,FK⟩ ?_;rw [hb];refine zzG (wpAny_newFunctionEnv S.zv (λy hy=>S.par y.1 (List.of_mem_zip hy).1) (λh₁ Ky hsb=>?_) S.kind)
 have hk₁:∀b o,s.heap.get? b=some o->h₁.get? b=some o:=λb o e=>hsb.extBut b o (zzb (zzO e)) (zzB _ e)
 refine⟨lim.keeps hk₁,?_⟩;show codeAny _ _ (.expr body (PySem.W.envX qual scope (zz9 s) f (.ref c') cl)) _ _;have I:=uE (E:=λC a H'=>(∀b o,Z.lookup b=some o->H' b=none)->E C a (aM Z H')) (cd:=.ref c') (f:=f) (qual:=qual) (tk:=s.toks+(ps.zip us).length) S hr.hd e0 Kw inj r hl hw cells (λx c h=>by
  obtain⟨o,v,h1,h2⟩:=cz x c h
  exact⟨v,o,z.at_ c o h1,h2⟩) (λx c h=>by
  obtain⟨o,v,h1,h2⟩:=cz x c h
  exact z.no c o h1) Ky hk₁
 refine PySem.W.kla_codeExpr (wpAny_mono (ht [] _ _ H _ I hq) (λu s' hs=>?_) λe s' hs=>?_)
 ·obtain⟨v,H',J,rv,q⟩:=hs
  exact CE.more z ⟨v,H',J.os,J.bare,J.base,J.aK,rv,q⟩
 ·exact wpAny_mono hs (λ_ FG y=>dI.more z y) λe' FG y=>dI.more z y
end
def tO{p:Pos}{a b:Int}{c cv:Value}:∀(l:List Value),TriplesOk l->codeAmong p (l++[rawInt a,rawInt b,c])=some cv->codeAmong p l=some cv\/cv=c:=by
 intro l h e
 fun_induction TriplesOk l with
 |case1=>
  simp! [List.nil_append,codeAmong,rawInt] at e;split at e
  ·cases e;exact .inr rfl
  ·cases e
 |case2 a' t b' u x rest ih=>
  simp! [List.cons_append,codeAmong] at e⊢;split at e
  ·rename_i hc;rw [if_pos hc];exact .inl e
  ·rename_i hc;rw [if_neg hc];exact ih h e
 |case3 l h1 h2=>exact h.elim
def zy(mg:Str->Option Value)(base:Heap):Prop:=∃bm o,mg "__builtins__"=some (.ref bm)/\bm≠builtinsNs/\bm≠mainGlobals/\base.get? bm=some o/\o.cls=.type "module"/\o.dict=some builtinsNs/\o.data=.plain
noncomputable def fZ(H:Hp)(P:Addr)(qI:Array Value)(c':Addr)(oc:Obj)(f:Addr)(fo:Obj):Hp:=upd (upd (upd H P (.fT qI)) c' (.bz oc bF)) f (.bz fo bF)
section
variable{X:Cx}{aa:List (Addr×Obj)}{σ:St}{H:Hp}{s:Shared}{c P c' f:Addr}{ps qI:Array Value}{oc fo:Obj}
def Inv.lam{h':Heap}{tk:Nat}(I:Inv X aa σ H s)(hP:H P=some (.fT ps))(hx:∀b o,b≠P->s.heap.get? b=some o->h'.get? b=some o)(Sf:h'.get? P=some (PySem.W.tabObj qI))(more:∃m,qI=ps++m)
 (hc:H c'=none/\(zz9 s)<=c'\/H c'=some (.bz oc bF)) (UN:h'.get? c'=some oc) (hf:(zz9 s)<=f) (Tq:h'.get? f=some fo) (Cn:c'≠f):
 Inv X aa σ (fZ H P qI c' oc f fo) {s with heap:=h',toks:=tk}:=by
 have fr:H f=none:=I.aK.fresh hf
 have nP:∀b u,H b=some u->(∀q,u≠.fT q)->b≠P:=λb u e n z=>by subst z;rw [hP] at e;cases e;exact n _ rfl
 have nf:∀b u,H b=some u->b≠f:=λb u e z=>by subst z;rw [fr] at e;cases e
 have cP:c'≠P:=λz=>by
  subst z;rcases hc with⟨e,_⟩|e
  ·rw [hP] at e;cases e
  ·rw [hP] at e;cases e
 have fP:f≠P:=λz=>by subst z;rw [hP] at fr;cases fr
 have at_:∀b u,H b=some u->(∀q,u≠.fT q)->fZ H P qI c' oc f fo b=some u:=λb u e n=>by
  unfold fZ;rw [af (nf b u e)]
  by_cases hb:b=c'
  ·subst hb;rw [aq];rcases hc with⟨z,_⟩|z
   ·rw [z] at e;cases e
   ·rw [z] at e;exact e
  ·rw [af hb,af (nP b u e n)];exact e
 have no:∀b o,s.heap.get? b=some o->H b=none->fZ H P qI c' oc f fo b=none:=λb o e n=>by
  have CL:b≠f:=λz=>absurd (zzO e) (by rw [z];exact Nat.not_lt.mpr hf)
  have Ku:b≠P:=λz=>by subst z;rw [hP] at n;cases n
  have yY:b≠c':=λz=>by
   rcases hc with⟨_,y⟩|y
   ·exact absurd (zzO e) (by rw [z];exact Nat.not_lt.mpr y)
   ·rw [z,y] at n;cases n
  unfold fZ;rw [af CL,af yY,af Ku];exact n
 have kp:∀b o,s.heap.get? b=some o->H b=none->h'.get? b=some o:=λb o e n=>hx b o (λz=>by subst z;rw [hP] at n;cases n) e
 refine I.un ⟨λb o e n _ _=>kp b o e n,λb o e n _ _=>⟨o.slots,kp b o e n⟩,λb o e n _=>no b o e n,λb o e _=>?_,λb xs e=>at_ b _ e (λ_ z=>nomatch z),λb o u e=>at_ b _ e (λ_ z=>nomatch z),λb qs e=>?_⟩ λb u e=>?_
 ·by_cases hb:b=P
  ·exact⟨_,by rw [hb];exact Sf⟩
  ·exact⟨o,hx b o hb e⟩
 ·by_cases hb:b=P
  ·subst hb;rw [hP] at e;cases e;obtain⟨m,rfl⟩:=more
   exact⟨m,by unfold fZ;rw [af (Ne.symm fP),af (Ne.symm cP),aq]⟩
  ·have yY:b≠c':=λz=>by
    subst z;rcases hc with⟨y,_⟩|y
    ·rw [y] at e;cases e
    ·rw [y] at e;cases e
   exact⟨#[],by unfold fZ;rw [af (nf b _ e),af yY,af hb,e];simp⟩
 ·unfold fZ at e
  by_cases h1:b=f
  ·subst h1;rw [aq] at e;cases e;exact mO Tq
  ·rw [af h1] at e
   by_cases h2:b=c'
   ·subst h2;rw [aq] at e;cases e;exact mO UN
   ·rw [af h2] at e
    by_cases h3:b=P
    ·subst h3;rw [aq] at e;cases e;exact Sf
    ·rw [af h3] at e;refine(I.aK b u e).dZ (λd v hd q=>hx d v ?_ q) (λd q=>at_ d _ q (λ_ z=>nomatch z)) λd xs q=>at_ d _ q (λ_ z=>nomatch z)
     rcases hd with hd|hd
     ·rw [hd];exact h3
     ·exact nP d _ hd (λ_ z=>nomatch z)
def zg{R:Addr->Obj->Prop}{params:Arguments}{body:Expr}{scope:Scope}{pos:Pos}{cl:List (Str×Addr)}{Q:Value->Shared->Prop}{E:Value->Shared->Prop}(I:Inv X aa σ H s)(hP:H P=some (.fT ps))(ht:TriplesOk ps.toList)(wQ:X.env.code=.ref c)(C:PySem.W.CodeHd X.base c P)
 (Tb:zy X.mg X.base) (BQ:closureFor scope X.env=pure cl) (Ij:defaultsOf params X.env=([],[]))
 (hit:∀cv,codeAmong pos ps.toList=some cv->∃c' oc cQ t,cv=.ref c'/\H c'=some (.bz oc bF)/\R c' oc/\oc.data=.fields cQ/\cQ[1]?=some (.str (X.env.qual++"<lambda>") t))
 (h:∀(f c':Addr) (oc:Obj) (cQ:Array Value) (t:Tok) (fy:Value) (qI:Array Value) (h':Heap) (tk:Nat),H f=none->(H c'=none\/H c'=some (.bz oc bF)/\R c' oc)->c'≠f->f≠P->c'≠P->oc.data=.fields cQ->cQ[1]?=some (.str (X.env.qual++"<lambda>") t)->TriplesOk qI.toList->
  (∀p cv,codeAmong p qI.toList=some cv->codeAmong p ps.toList=some cv\/cv=.ref c')->(∃m,qI=ps++m)->
  Inv X aa σ (fZ H P qI c' oc f (PySem.W.kla_obj "<lambda>" (X.env.qual++"<lambda>") params body scope cl ((X.mg "__name__").getD .none) c' fy)) {s with heap:=h',toks:=tk}->Q (.ref f) {s with heap:=h',toks:=tk}):
 wpAny (model X.prog X.w) X.A (eval (.Lambda params body scope pos) X.env) Q E s:=by
 have OG:s.heap.get? P=some (PySem.W.tabObj ps):=I.aK P _ hP
 have hg:=I.ok.mod.glob.keeps I.bk
 have TZ:mainGlobals≠P:=λq=>by
  obtain⟨o,es,ep,e,_⟩:=I.ok.mod.glob
  have:=(I.bs _ _ e).2
  rw [q,hP] at this;cases this
 obtain⟨bm,ob,b1,b2,b3,b4,b5,b6,b7⟩:=Tb
 have hB:s.heap.BuiltinsAt X.mg P:=⟨bm,ob,b1,b2,b3,(λq=>by
  have:=(I.bs _ _ b4).2
  rw [q,hP] at this;cases this),I.bk _ _ b4,b5,b6,b7⟩
 refine PySem.W.kla_eval Ij ?_;cases hm:codeAmong pos ps.toList with
 |none=>
  refine PySem.W.kla_makeFunction (mg:=X.mg) BQ I.ok.glob hg wQ (C.keeps I.bk) OG ht hm TZ hB λc' fy h' tk hx IK bH OE UK=>?_
  obtain⟨c₂,oc,vs,t,e2,hoc,hd,hv⟩:=OE
  cases e2;have FK:H c'=none:=I.aK.fresh IK
  have hsz:(zz9 s)<=h'.objs.size:=zzU IK (Nat.le_of_lt bH)
  have mI:H h'.objs.size=none:=I.aK.fresh hsz
  refine h h'.objs.size c' oc vs t fy _ _ tk mI (.inl FK) (zzb bH) (λz=>by rw [z,hP] at mI;cases mI) (λz=>by rw [z,hP] at FK;cases FK) hd hv ?_ ?_ ⟨_,rfl⟩
   (I.lam hP (λb o hb e=>zzB _ (hx b o hb e)) (zzB _ UK) ⟨_,rfl⟩ (.inl ⟨FK,IK⟩) (zzB _ hoc) hsz (zzX _ rfl) (zzb bH))
  ·rw [Array.toList_append];exact TriplesOk_snoc _ _ _ _ ht
  ·intro p cv e;rw [Array.toList_append] at e;exact tO _ ht e
 |some cv=>
  obtain⟨c',oc,cQ,t,rfl,iK,hR,hd,hv⟩:=hit cv hm
  refine PySem.W.kla_makeFunctionHit (mg:=X.mg) BQ I.ok.glob hg wQ (C.keeps I.bk) OG ht hm hB λfy h' tk hk hsz=>?_
  have mI:H h'.objs.size=none:=I.aK.fresh hsz
  have yZ:s.heap.get? c'=some oc:=(I.aK c' _ iK).1
  have Cn:c'≠h'.objs.size:=λz=>by rw [z,mI] at iK;cases iK
  refine h h'.objs.size c' oc cQ t fy ps _ tk mI (.inr ⟨iK,hR⟩) Cn (λz=>by rw [z,hP] at mI;cases mI) (λz=>by rw [z,hP] at iK;cases iK) hd hv ht (λp cv e=>.inl e) ⟨#[],by simp⟩
   (I.lam hP (λb o hb e=>zzB _ (hk b o e)) (zzB _ (hk _ _ OG)) ⟨#[],by simp⟩ (.inr iK) (zzB _ (hk _ _ yZ)) hsz (zzX _ rfl) Cn)
end
section
end
section
end
section
variable{a b:Expr}
end
section
end
section
variable{κ:Type} [DecidableEq κ]
noncomputable def gV(au:List (κ×V))(k:κ):Option V:=(au.find? λkv=>decide (kv.1=k)).map (·.2)
noncomputable def putK(au:List (κ×V))(k:κ)(v:V):List (κ×V):=
 if(au.any λkv=>decide (kv.1=k))=true then au.map (λkv=>if kv.1=k then(kv.1,v) else kv) else au++[(k,v)]
noncomputable def fI(au:List (κ×V))(k:κ):List (κ×V):=au.filter λkv=>decide (kv.1≠k)
def gb{p:κ×V}{r:List (κ×V)}{k:κ}(e:p.1=k):gV (p::r) k=some p.2:=by simp [gV,List.find?_cons,e]
def f7{p:κ×V}{r:List (κ×V)}{k:κ}(e:¬p.1=k):gV (p::r) k=gV r k:=by simp [gV,List.find?_cons,e]
theorem lW(k:κ):∀au:List (κ×V),(au.any λkv=>decide (kv.1=k))=(gV au k).isSome
 |[]=>rfl
 |p::r=>by
  rw [List.any_cons]
  by_cases e:p.1=k
  ·simp! [gb e,zzh e,Bool.true_or,Option.isSome_some]
  ·rw [f7 e,zz0 e,Bool.false_or];exact lW k r
def eh(au:List (κ×V))(k:κ)(v:V):(putK au k v).length<=au.length+1:=by
 unfold putK;split
 ·rw [zzl];omega
 ·rw [zzM,zzL,List.length_nil];omega
def km.eT{o:Option V}{u:Option Value}(r:km o u):o.isSome=u.isSome:=by
 cases o with
 |none=>cases u with
  |none=>rfl
  |some _=>exact(show False from r).elim
 |some _=>cases u with
  |none=>exact(show False from r).elim
  |some _=>rfl
def KV.val{au:List (κ×V)}{vs:List (κ×Value)}(r:KV au vs)(k:κ):km (gV au k) (valueAt vs k):=by
 unfold KV at r
 induction r with
 |nil=>exact True.intro
 |@cons p q ps qs h t ih=>
  obtain⟨h1,h2⟩:=h
  by_cases e:p.1=k
  ·have e':q.1=k:=h1.symm.trans e
   have b:valueAt (q::qs) k=some q.2:=by simp [valueAt,List.find?_cons,e']
   rw [gb e,b];exact h2
  ·have e':¬q.1=k:=λz=>e (h1.trans z)
   have b:valueAt (q::qs) k=valueAt qs k:=by simp [valueAt,List.find?_cons,e']
   rw [f7 e,b];exact ih
def KV.any{au:List (κ×V)}{vs:List (κ×Value)}(r:KV au vs)(k:κ):(au.any λkv=>decide (kv.1=k))=vs.any λkv=>decide (kv.1=k):=by
 unfold KV at r
 induction r with
 |nil=>rfl
 |cons h t ih=>rw [List.any_cons,List.any_cons,ih,h.1]
def KV.HM{au:List (κ×V)}{vs:List (κ×Value)}(r:KV au vs)(k:κ){y:V}{u:Value}(ry:RelV y u):
 KV (au.map λkv=>if kv.1=k then(kv.1,y) else kv) (vs.map λkv=>if kv.1=k then(kv.1,u) else kv):=by
 unfold KV at r⊢
 induction r with
 |nil=>exact .nil
 |@cons p q ps qs h t ih=>
  rw [zzF,zzF];refine .cons ?_ ih;obtain⟨h1,h2⟩:=h
  by_cases e:p.1=k
  ·rw [if_pos e,if_pos (h1.symm.trans e)];exact⟨h1,ry⟩
  ·rw [if_neg e,if_neg (λz=>e (h1.trans z))];exact⟨h1,h2⟩
def KV.put{au:List (κ×V)}{vs:List (κ×Value)}(r:KV au vs)(k:κ){y:V}{u:Value}(ry:RelV y u):KV (putK au k y) (stored vs k u):=by
 unfold putK stored;rw [r.any k]
 by_cases e:(vs.any λkv=>decide (kv.1=k))=true
 ·rw [if_pos e,if_pos e];exact r.HM k ry
 ·rw [if_neg e,if_neg e];exact Paired.snoc r ⟨rfl,ry⟩
def KV.length{au:List (κ×V)}{vs:List (κ×Value)}(r:KV au vs):au.length=vs.length:=Paired.length r
def AQ(au:List (κ×V))(k:κ):(fI au k).length<=au.length:=List.length_filter_le _ _
end
def rD{P:Program}{w:World}{k:Key}{u:Value}(r:RelV (kV k) u):(aF P w).is k u=true:=by
 cases k with
 |inl i=>obtain⟨t,e⟩:=(show∃t,u=Value.int i t from r);subst e;exact sD P w i t
 |inr x=>obtain⟨t,e⟩:=(show∃t,u=Value.str x t from r);subst e;exact qR P w x t
theorem ju{P:Program}{w:World}:∀{ks:List Key} {us:List Value},Vals (ks.map kV) us->ItemsAre (aF P w) ks us
 |[],_,r=>by rw [List.map_nil] at r;cases r;exact .nil
 |k::ks,_,r=>by
  rw [zzF] at r;cases r with
  |cons h t=>exact .cons (rD h) (ju t)
abbrev KT(H:Hp):List (List Key×V)->List (List Key×Addr×Value)->Prop:=Paired λp q=>p.1=q.1/\H q.2.1=some (.tup (p.1.map kV))/\RelV p.2 q.2.2
def KT.val{H:Hp}{au:List (List Key×V)}{xs:List (List Key×Addr×Value)}(r:KT H au xs)(k:List Key):km (gV au k) ((atKey xs k).map (·.2)):=by
 induction r with
 |nil=>exact True.intro
 |@cons p q ps qs h t ih=>
  obtain⟨h1,_,h2⟩:=h
  by_cases e:p.1=k
  ·have e':q.1=k:=h1.symm.trans e
   have b:atKey (q::qs) k=some q.2:=by simp [atKey,List.find?_cons,e']
   rw [gb e,b];exact h2
  ·have e':¬q.1=k:=λz=>e (h1.trans z)
   have b:atKey (q::qs) k=atKey qs k:=by simp [atKey,List.find?_cons,e']
   rw [f7 e,b];exact ih
def KT.HM{H:Hp}{au:List (List Key×V)}{xs:List (List Key×Addr×Value)}(r:KT H au xs)(k:List Key){y:V}{u:Value}(ry:RelV y u):
 KT H (au.map λkv=>if kv.1=k then(kv.1,y) else kv) (xs.map (putAt k u)):=by
 induction r with
 |nil=>exact .nil
 |@cons p q ps qs h t ih=>
  rw [zzF,zzF];refine .cons ?_ ih;obtain⟨h1,h2,h3⟩:=h
  unfold putAt
  by_cases e:p.1=k
  ·rw [if_pos e,if_pos (h1.symm.trans e)];exact⟨h1,h2,ry⟩
  ·rw [if_neg e,if_neg (λz=>e (h1.trans z))];exact⟨h1,h2,h3⟩
def KT.put{H:Hp}{au:List (List Key×V)}{xs:List (List Key×Addr×Value)}(r:KT H au xs)(k:List Key){b:Addr}{y:V}{u:Value}(hb:H b=some (.tup (k.map kV)))(ry:RelV y u):
 KT H (putK au k y) (storedH xs k b u):=by
 have e:(au.any λkv=>decide (kv.1=k))=(atKey xs k).isSome:=by
  rw [lW,(r.val k).eT,Option.isSome_map]
 unfold putK storedH;rw [e]
 by_cases q:(atKey xs k).isSome=true
 ·rw [if_pos q,if_pos q];exact r.HM k ry
 ·rw [if_neg q,if_neg q];exact Paired.snoc r ⟨rfl,hb,ry⟩
def KT.keeps{H H':Hp}{au:List (List Key×V)}{xs:List (List Key×Addr×Value)}(r:KT H au xs)(ht:∀b ys,H b=some (.tup ys)->H' b=some (.tup ys)):KT H' au xs:=
 Paired.uv r λ_ _ z=>⟨z.1,ht _ _ z.2.1,z.2.2⟩
section
variable{P:Program}{w:World}{H:Hp}{h:Heap}{a:Addr}
def GC{u:HO}(ok:d6 P w H h)(e:Rd H a u):bO P w H h a u:=e.ok ok
def nK{au:List (Key×V)}(ok:d6 P w H h)(e:Rd H a (.dK au)):au.length<=sizeLine/\(a==sysModules)=false/\∃vs,KV au vs/\h.DictOf (aF P w) a vs:=
 show bO P w H h a (.dK au) from GC ok e
def LA{au:List (Key×V)}(ok:d6 P w H h)(e:H a=some (.dK au)):au.length<=sizeLine/\(a==sysModules)=false/\∃vs,KV au vs/\h.DictOf (aF P w) a vs:=nK ok (.inl e)
def fY{ks:List Key}(ok:d6 P w H h)(e:H a=some (.tup (ks.map kV))):(tupleKind (aF P w)).is h ks a:=by
 obtain⟨_,ax,r,o,h1,h2,n,h3⟩:=(show bO P w H h a (.tup (ks.map kV)) from ok a _ e)
 exact⟨o,ax.toArray,n,h1,h2,h3,by simpa using ju r⟩
def j5{au:List (List Key×V)}(ok:d6 P w H h)(e:Rd H a (.dT au)):au.length<=sizeLine/\(a==sysModules)=false/\
 ∃xs,KT H au xs/\h.DictOfH (tupleKind (aF P w)) a xs:=by
 obtain⟨z,y,xs,r,o,es,ep,h1,h2,h3,h4,h5⟩:=(show bO P w H h a (.dT au) from GC ok e)
 refine⟨z,y,xs,r,o,es,ep,h1,h2,h3,h4,λx hx=>?_,h5⟩
 have all:∀{l:List (List Key×V)} {m:List (List Key×Addr×Value)},KT H l m->∀x∈m,(tupleKind (aF P w)).is h x.1 x.2.1:=by
  intro l m q
  induction q with
  |nil=>intro x hx;exact nomatch hx
  |@cons p q ps qs hq t ih=>
   intro x hx;rcases zzm.mp hx with e|hx
   ·subst e;exact fY ok (by rw [<-hq.1];exact hq.2.1)
   ·exact ih x hx
 exact all r x hx
def Ba{au:List (List Key×V)}(ok:d6 P w H h)(e:H a=some (.dT au)):au.length<=sizeLine/\(a==sysModules)=false/\
 ∃xs,KT H au xs/\h.DictOfH (tupleKind (aF P w)) a xs:=j5 ok (.inl e)
end
def Ad(H:Hp)(a:Addr)(y:V)(r:Option V):Prop:=
 (∃au k,Rd H a (.dK au)/\y=kV k/\r=gV au k)\/∃au k b,Rd H a (.dT au)/\y=.ref b/\H b=some (.tup (k.map kV))/\r=gV au k
def yy(H:Hp)(a:Addr)(y v:V)(H':Hp):Prop:=
 (∃au k,H a=some (.dK au)/\y=kV k/\au.length<sizeLine/\H'=upd H a (.dK (putK au k v)))\/
 ∃au k b,H a=some (.dT au)/\y=.ref b/\H b=some (.tup (k.map kV))/\au.length<sizeLine/\H'=upd H a (.dT (putK au k v))
def yy.t{H:Hp}{a b:Addr}{au:List (List Key×V)}{k:List Key}{v:V}(e:H a=some (.dT au))(eb:H b=some (.tup (k.map kV)))(hl:au.length<sizeLine):
 yy H a (.ref b) v (upd H a (.dT (putK au k v))):=.inr ⟨au,k,b,e,rfl,eb,hl,rfl⟩
section
variable{X:Cx}{aa:List (Addr×Obj)}{σ:St}{H:Hp}{s:Shared}{a:Addr}{y v:V}{u r:Value}{o:Option V}{A:Around}{E:Value->Shared->Prop}
def Inv.big(I:Inv X aa σ H s):sysModules<(zz9 s):=by
 have h:mainGlobals<(zz9 s):=(I.mod.glob.keeps I.bk).lt
 exact Nat.lt_trans (by decide) h
def xM{Q:Value->Shared->Prop}(hu:A.units+1<cLine)(I:Inv X aa σ H s)(g:Ad H a y (some v))(ry:RelV y u)(h:∀w' s',Inv X aa σ H s'->RelV v w'->Q w' s'):
 wpAny (model X.prog X.w) A (getItem (.ref a) u) Q E s:=by
 rcases g with⟨au,k,e,ey,l⟩|⟨au,k,b,e,ey,eb,l⟩
 ·subst ey;obtain⟨z,hd,vs,rel,dd⟩:=nK I.aK e
  obtain⟨w',hw,jg⟩:=km.some_of (v:=v) (o:=valueAt vs k) (by rw [l];exact rel.val k)
  exact wpAny_getItem_of (rD ry) dd.mapOf hw (h w' _ (I.tok _) jg)
 ·subst ey;cases(show u=Value.ref b from ry);obtain⟨z,hd,xs,rel,dd⟩:=j5 I.aK e
  obtain⟨w',hw,jg⟩:=km.some_of (v:=v) (o:=(atKey xs k).map (·.2)) (by rw [l];exact rel.val k)
  obtain⟨p,hp,hp2⟩:=zzJ.mp hw
  refine wpAny_getItem_heap (tupleKind_room_in1 hu) (fY I.aK eb) dd hp ?_;rw [hp2];exact h w' _ (I.tok _) jg
def Ql{Q:Value->Shared->Prop}(hu:A.units+1<cLine)(I:Inv X aa σ H s)(g:Ad H a y o)(ry:RelV y u)(h:∀s',Inv X aa σ H s'->Q (.bool o.isSome) s'):
 wpAny (model X.prog X.w) A (compareOp .In u (.ref a)) Q E s:=by
 rcases g with⟨au,k,e,ey,l⟩|⟨au,k,b,e,ey,eb,l⟩
 ·subst ey;obtain⟨z,hd,vs,rel,dd⟩:=nK I.aK e
  refine wpAny_in_of (rD ry) hd dd.mapOf ?_;rw [<-(rel.val k).eT,<-l];exact h _ (I.tok _)
 ·subst ey;cases(show u=Value.ref b from ry);obtain⟨z,hd,xs,rel,dd⟩:=j5 I.aK e
  refine wpAny_in_heap (tupleKind_room_in1 hu) (fY I.aK eb) hd dd ?_;have q:=(rel.val k).eT
  rw [Option.isSome_map] at q;rw [<-q,<-l];exact h _ (I.tok _)
def Dx{Q:Value->Shared->Prop}(hu:A.units+1<cLine)(I:Inv X aa σ H s)(g:Ad H a y o)(ry:RelV y u)(h:∀s',Inv X aa σ H s'->Q (.bool (!o.isSome)) s'):
 wpAny (model X.prog X.w) A (compareOp .NotIn u (.ref a)) Q E s:=by
 rcases g with⟨au,k,e,ey,l⟩|⟨au,k,b,e,ey,eb,l⟩
 ·subst ey;obtain⟨z,hd,vs,rel,dd⟩:=nK I.aK e
  refine wpAny_notIn_of (rD ry) hd dd.mapOf ?_;rw [<-(rel.val k).eT,<-l];exact h _ (I.tok _)
 ·subst ey;cases(show u=Value.ref b from ry);obtain⟨z,hd,xs,rel,dd⟩:=j5 I.aK e
  refine wpAny_notIn_heap (tupleKind_room_in1 hu) (fY I.aK eb) hd dd ?_;have q:=(rel.val k).eT
  rw [Option.isSome_map] at q;rw [<-q,<-l];exact h _ (I.tok _)
theorem gM{h':Heap}{t':Nat}{ob:HO}(I:Inv X aa σ H s)(mu:K6 (H a))(hs:Heap.SameBut a s.heap h')(he:∃q,h'.get? a=some q)(new:bO X.prog X.w (upd H a ob) h' a ob):
 Inv X aa σ (upd H a ob) {s with heap:=h',toks:=t'}:=
 I.write (x:=a) (e:=a) mu (.inl rfl) (λb q hb z=>(hs.2 b hb).trans z) he new
def Jb{P:Program}{w:World}{H':Hp}{h':Heap}{au:List (Key×V)}{vs:List (Key×Value)}(z:au.length<=sizeLine)(hd:(a==sysModules)=false)(rel:KV au vs)(dd:h'.DictOf (aF P w) a vs):
 bO P w H' h' a (.dK au):=⟨z,hd,vs,rel,dd⟩
def yu{H':Hp}{Q:Unit->Shared->Prop}(hu:A.units+1<cLine)(I:Inv X aa σ H s)(g:yy H a y v H')(ry:RelV y u)(rv:RelV v r)(h:∀s',Inv X aa σ H' s'->Q () s'):
 wpAny (model X.prog X.w) A (setItem (.ref a) u r) Q E s:=by
 rcases g with⟨au,k,e,ey,l,eH⟩|⟨au,k,b,e,ey,eb,l,eH⟩
 ·subst ey eH;obtain⟨z,hd,vs,rel,dd⟩:=LA I.aK e
  have hz:vs.length<=sizeLine:=by rw [<-rel.length];exact z
  have hl:(putK au k v).length<=sizeLine:=by have:=eh au k v;omega
  refine wpAny_setItem_pairs (hsz:=hz) (rD ry) dd λh' FY hs=>h _ ?_
  have he:∃q,h'.get? a=some q:=let⟨q,_,_,hq,_⟩:=FY;⟨q,hq⟩
  exact gM I (by rw [e];exact True.intro) hs he (Jb hl hd (rel.put k rv) FY)
 ·subst ey eH;cases(show u=Value.ref b from ry);obtain⟨z,hd,xs,rel,dd⟩:=Ba I.aK e
  have hz:xs.length<=sizeLine:=by rw [<-Paired.length rel];exact z
  have hl:(putK au k v).length<=sizeLine:=by have:=eh au k v;omega
  refine wpAny_setItem_heap (hsz:=hz) (tupleKind_room_in1 hu) (fY I.aK eb) dd λh' FY hs=>h _ ?_
  obtain⟨q,es,ep,hq,h2,h3,h4,_,h5⟩:=FY
  refine gM I (by rw [e];exact True.intro) hs ⟨q,hq⟩ ⟨hl,hd,_,(rel.put k eb rv).keeps λc ys ec=>?_,q,es,ep,hq,h2,h3,h4,h5⟩
  rw [af (fc ec e (λz=>nomatch z))];exact ec
end
def Mo(i:Expr):Prop:=∀ov iv,subscripted i false ov iv=operate [ov,iv] (getItem ov iv)
def Fo{prog:Program}{w:World}{A:Around}{E:Value->Shared->Prop}{s:Shared}{env:Env}{value slice:Expr}{pos:Pos}{T id:String}{Q:Value->Shared->Prop}
 (hl:typeLookup (.type T) "__getitem__"=pure (some (.builtin id))) (hs:Mo slice)
 (h:wpAny (model prog w) A (eval value env) (λo s₁=>wpAny (model prog w) A (eval slice env) (λi s₂=>s₂.TypeIs o T/\wpAny (model prog w) A (getItem o i) Q E s₂) E s₁) E s):
 wpAny (model prog w) A (eval (.Subscript value slice pos) env) Q E s:=by
 refine Subscript_ (wpAny_mono h (λo s₁ h₁=>wpAny_mono h₁ (λi s₂ h₂=>?_) λ_ _ x=>x) λ_ _ x=>x)
 obtain⟨hT,h₂⟩:=h₂
 unfold subscriptTail;refine zzA ?_;rw [getitemInPython_of_ne hT.not_modules];refine zzA (wpAny_specialOf hT hl ?_);have fin:wpAny (model prog w) A (subscripted slice false o i) (λr s₃=>wpAny (model prog w) A (letTemporaryGo value o r>>=λ_=>pure r) Q E s₃) E s₂:=by
  rw [hs o i];exact wpAny_operating (wpAny_mono h₂ (λr s₃ h₃=>zzA (wpAny_letTemporaryGo (zzG h₃))) λ_ _ x=>x)
 first
  |exact zzG (zzA fin)
  |exact zzA (zzG (zzA fin))
  |exact zzA fin
def r8{X:Cx}{aa:List (Addr×Obj)}{σ:St}{H:Hp}{s:Shared}{a:Addr}{y:V}{o:Option V}(I:Inv X aa σ H s)(g:Ad H a y o):s.TypeIs (.ref a) "dict":=by
 rcases g with⟨au,k,e,_,_⟩|⟨au,k,b,e,_,_,_⟩
 ·obtain⟨_,_,vs,_,dd⟩:=nK I.aK e
  exact dd.typeIs
 ·obtain⟨_,_,xs,_,dd⟩:=j5 I.aK e
  exact dd.typeIs
noncomputable def FR(td ty:TE):TE:=λσ H Q=>td σ H λx H1=>ty σ H1 λy H2=>∃a v,x=.ref a/\Ad H2 a y (some v)/\Q v H2
section
variable{X:Cx}{o i:Expr}{pos:Pos}{td ty:TE}
def Ds(hu:X.A.units+1<cLine)(ho:PE X o td)(hi:PE X i ty)(hs:Mo i):PE X (.Subscript o i pos) (FR td ty):=by
 intro aa s σ H Q I h;refine Fo PySem.F.slot_dict_getitem.lookup hs (bP (ho aa s σ H _ I h) λu s1 ⟨x,H1,I1,rx,q1⟩=>bP (hi aa s1 σ H1 _ I1 q1) λiv s2 ⟨y,H2,I2,ry,a,v,ex,g,q2⟩=>?_)
 subst ex;obtain rfl:u=Value.ref a:=rx
 exact⟨r8 I2 g,xM hu I2 g ry λw' s3 I3 jg=>⟨v,H2,I3,jg,q2⟩⟩
end
theorem sy{P:Program}{w:World}{H:Hp}(h:Heap)(hb:sysModules<h.objs.size):bO P w H (h.push {cls:=.type "dict",data:=.dict #[]}) h.objs.size (.dT []):=
 ⟨Nat.zero_le _,beq_eq_false_iff_ne.mpr (Ne.symm (zzb hb)),[],.nil,_,#[],0,zzX _ rfl,⟨rfl,rfl,rfl⟩,rfl,rfl,List.nodup_nil⟩
noncomputable def JV:TE:=λ_ H Q=>∀p,H p=none->Q (.ref p) (upd H p (.dT []))
section
variable{X:Cx}{pos:Pos}
theorem Bo:PE X (.Dict [] [] pos) JV:=λaa s σ H Q I h=>
 wpAny_Dict_empty ⟨.ref (zz9 s),_,I.laid (a:=(zz9 s)) (o:=.dT []) (t':=s.toks) (λ_ _ q=>zzB _ q) (zzE _) (sy s.heap I.big),rfl,h _ (I.aK.fresh (zzE _))⟩
end
structure M1(X:Cx)(o:Expr)(m:Str)(apos:Pos)(e:Expr)(bU:Pos):Prop where
 base:attributeBase o m X.env (eval o X.env)=eval o X.env
 KA:((backTo bU (starEach [e] X.env)).all (λx=>!x.1)&&(backToKw bU (keywordEach [] X.env)).all (λx=>x.1.isSome)
  &&decide (([e]:List Expr).length+([]:List Keyword).length+(if([]:List Keyword).isEmpty then 0 else 1)<30))=true
 line:(apos.endLine==bU.line)=true
 trees:backTo bU (starEach [e] X.env)=[(false,eval e X.env)]
structure M2(X:Cx)(o:Expr)(m:Str)(apos:Pos)(e f:Expr)(bU:Pos):Prop where
 base:attributeBase o m X.env (eval o X.env)=eval o X.env
 KA:((backTo bU (starEach [e,f] X.env)).all (λx=>!x.1)&&(backToKw bU (keywordEach [] X.env)).all (λx=>x.1.isSome)
  &&decide (([e,f]:List Expr).length+([]:List Keyword).length+(if([]:List Keyword).isEmpty then 0 else 1)<30))=true
 line:(apos.endLine==bU.line)=true
 trees:backTo bU (starEach [e,f] X.env)=[(false,eval e X.env),(false,eval f X.env)]
def FX(H:Hp)(a:Addr):Prop:=(∃au,Rd H a (.dK au))\/∃au,Rd H a (.dT au)
def Hj{X:Cx}{aa:List (Addr×Obj)}{σ:St}{H:Hp}{s:Shared}{a:Addr}(I:Inv X aa σ H s)(d:FX H a):
 s.TypeIs (.ref a) "dict"/\(∀b,Value.ref a=.ref b->∃ob,s.heap.get? b=some ob/\ob.dict=none)/\(a==sysModules)=false:=by
 rcases d with⟨au,e⟩|⟨au,e⟩
 ·obtain⟨_,hd,vs,_,dd⟩:=nK I.aK e
  refine⟨dd.typeIs,λb q=>?_,hd⟩
  cases q;obtain⟨ob,_,_,h1,h2,_⟩:=dd
  exact⟨ob,h1,h2.2.1⟩
 ·obtain⟨_,hd,xs,_,dd⟩:=j5 I.aK e
  refine⟨dd.typeIs,λb q=>?_,hd⟩
  cases q;obtain⟨ob,_,_,h1,h2,_⟩:=dd
  exact⟨ob,h1,h2.2.1⟩
end L2
namespace Att
open PySem PySem.W PySem.Calls PyProof.Rows
section
end
end Att
namespace L2
open PySem PySem.Spec PyProof.Rows
section
variable{κ:Type} [DecidableEq κ]
def xu{p:κ×V}{r:List (κ×V)}{k:κ}(e:p.1=k):fI (p::r) k=fI r k:=by
 unfold fI;rw [zz3,if_neg (by simp [e])]
def yB{p:κ×V}{r:List (κ×V)}{k:κ}(e:¬p.1=k):fI (p::r) k=p::fI r k:=by
 unfold fI;rw [zz3,if_pos (by simp [e])]
end
section
variable{prog:Program}{w:World}{κ:Type} [DecidableEq κ]{knd:HeapKind prog w κ}{A:Around}{E:Value->Shared->Prop}{s:Shared}{d a:Addr}{xs:List (κ×Addr×Value)}{k:κ}
theorem qf(d:Addr)(lo:(d==sysModules)=false):MeetsIn prog w (Builtin.«dict.__len__» ⟨[.ref d],[]⟩) (λ_ R s=>∃xs,s.heap.DictOfH knd d xs/\R (.ok (.ret (.int xs.length s.toks))) {s with toks:=s.toks+1}):=
 .of_wp λA R s ⟨xs,⟨o,es,ep,h1,_,h2,h3,_⟩,h⟩=>by
  show wpAny _ _ (dictSize d>>=λn=>_) _ _ s
  unfold dictSize;refine zzA (zzA (wpAny_dictEntries h1 h2 (zzG (zzA (wpAny_pendingCount_other lo (wpAny_ret_mkInt ?_))))));rw [Nat.add_zero,size_of_entries h3];exact h
def Ki{Q:Value->Shared->Prop}(lo:(d==sysModules)=false)(hm:s.heap.DictOfH knd d xs)(hf:(xs.length:Int)<2^63)(h:Q (.int xs.length (s.toks+1)) {s with toks:=s.toks+1+1}):wpAny (model prog w) A (call (.builtin "len") [.ref d]) Q E s:=by
 refine Calls.call_function_entry kind_len plain_len entry_len (args_len1 _) ?_;unfold Builtin.«len»;refine zzA (m:=oneArg "len" _) (zzG (zzA (m:=callSpecial? (.ref d) (Str.ofString "__len__")) (wpAny_callSpecial?_slot (name:=Str.ofString "__len__") hm.typeIs F.slot_dict_len
  (call_meetsIn F.slot_dict_len hm.typeIs F.entry_dict_len (F.args_dict_len_1 _) (qf (knd:=knd) d lo) ⟨xs,hm,?_⟩))))
 show wpAny _ _ (holding _ _>>=λz=>_) _ _ {s with toks:=s.toks+1}
 refine zzA (wpAny_holding (zzG (zzA (wpAny_letGo ?_))));show wpAny _ _ (if((xs.length:Nat):Int)<0 then _ else(if((xs.length:Nat):Int)>=2^63 then _ else _)) _ _ _;rw [if_neg (by omega),if_neg (by omega)];exact zzA (wpAny_mkInt (zzG ⟨_,rfl,h⟩))
def zi{l:List (κ×Addr×Value)}:∀{j:Nat} {p:Addr×Value},(l.map (·.1)).Nodup->l[j]?=some (k,p)->l.eraseIdx j=l.filter λx=>decide (x.1≠k):=by
 induction l with
 |nil=>intro j p _ h;simp at h
 |cons x r ih=>
  intro j p nd h;rw [zzF,List.nodup_cons] at nd;cases j with
  |zero=>
   simp! [List.getElem?_cons_zero,Option.some.injEq] at h;subst h;simp! [List.eraseIdx_cons_zero,ne_eq,zz3,not_true,decide_false,zze,if_false];refine(List.filter_eq_self.mpr λy hy=>?_).symm;exact zzh λe=>nd.1 (e▸List.mem_map_of_mem (f:=(·.1)) hy)
  |succ j=>
   simp! [List.getElem?_cons_succ] at h;have ff:¬x.1=k:=λe=>nd.1 (e▸zzx.mpr ⟨(k,p),zzD h,rfl⟩)
   rw [List.eraseIdx_cons_succ,zz3,if_pos (by simpa using ff),ih nd.2 h]
theorem nW{α β:Type}(f:α->β):∀(l:List α) (j:Nat),(l.eraseIdx j).map f=(l.map f).eraseIdx j
 |[],_=>by simp
 |x::r,0=>by simp
 |x::r,j+1=>by simp [nW f r j]
def tY{p:Addr×Value}{Q:Option DictEntry->Shared->Prop}(hu:knd.room A)(hk:knd.is s.heap k a)(hm:s.heap.DictOfH knd d xs)(hp:atKey xs k=some p)(hz:xs.length<=sizeLine)
 (hQ:∀h' e,e.val=p.2->h'.DictOfH knd d (xs.filter λx=>decide (x.1≠k))->Heap.SameBut d s.heap h'->Q (some e) {s with heap:=h',toks:=s.toks+knd.draws k}):wpAny (model prog w) A (Builtin.Dict.takeOut d (.ref a)) Q E s:=by
 obtain⟨o,es,ep,h1,hc,h2,h3,his,nd⟩:=hm
 unfold Builtin.Dict.takeOut
 try with_reducible refine wpAny_holding ?_
 refine zzA (knd.pyHash hu hk (zzA (wpAny_dictFind_heap (s:={s with toks:=s.toks+knd.draws k}) hu hk h1 h2 h3 his nd (λno=>?_) λj q hj=>?_)))
 ·rw [atKey_none_of_get no] at hp;cases hp
 ·rw [atKey_of_get nd hj] at hp;cases hp;refine zzA (wpAny_dictEntries (s:={s with toks:=s.toks+knd.draws k}) h1 h2 ?_);rw [entry_at h3 j,hj];refine zzA (wpAny_updateDictKeys (hz:=by have e:=size_of_entries h3;omega) (s:={s with toks:=s.toks+knd.draws k}) h1 h2 (zzG (hQ _ _ rfl ⟨_,_,ep+1,Heap.get?_update_self _ h1 (Obj.isFreed_of_dict (Obj.data_mapDictKeys h2 _)),
   hc.mapDictKeys _,Obj.data_mapDictKeys h2 _,?_,λx hx=>knd.keeps (his x (List.mem_filter.mp hx).1) h1 h2 (zzu ..),nd.sublist (List.filter_sublist.map _)⟩ (zzu ..))))
  rw [<-zi nd hj,nW,<-h3];obtain⟨l⟩:=es
  simp [Array.eraseIdxIfInBounds];split
  ·simp
  ·rename_i hh;rw [List.eraseIdx_of_length_le (by simpa using hh)]
def pW(d a:Addr):MeetsIn prog w (Builtin.«dict.pop» ⟨[.ref d,.ref a],[]⟩) (λA R s=>knd.room A.in1/\∃k xs p,knd.is s.heap k a/\s.heap.DictOfH knd d xs/\xs.length<=sizeLine/\atKey xs k=some p/\
 ∀h',h'.DictOfH knd d (xs.filter λx=>decide (x.1≠k))->Heap.SameBut d s.heap h'->R (.ok (.ret p.2)) {s with heap:=h',toks:=s.toks+knd.draws k}):=
 .of_wp λA R s ⟨hu,k,xs,p,hk,hm,hz,hp,h⟩=>by
  obtain⟨o,es,ep,h1,_,h2,h3,_⟩:=id hm
  have ne:es.isEmpty=false:=by
   cases xs with
   |nil=>cases hp
   |cons x r=>
    have:=size_of_entries h3
    rw [zzL] at this;rw [Array.isEmpty_eq_false_iff_exists_mem];exact⟨es[0]'(by omega),Array.getElem_mem _⟩
  unfold Builtin.«dict.pop»;refine zzA ?_;unfold Builtin.Dict.keyAndDefault;refine zzA (wpAny_notOrdered_dict hm.typeIs ?_);show wpAny _ _ (pure (d,Value.ref a,Option.none)) _ _ s;refine zzG ?_;have kp:(keyPart (Value.ref a)).isSome=false:=rfl
  simp! [kp,zze,if_false];refine zzA (wpAny_dictEntries h1 h2 (zzA (zzG ?_)));rw [ne];simp! [zze,if_false];refine zzA (tY hu hk hm hp hz λh' e ev m5 hs=>?_);simp! [Option.isNone_some,zze,if_false];exact zzA (wpAny_letGo (zzG ⟨e.val,rfl,by rw [ev];exact h h' m5 hs⟩))
def oY{o:Obj}{es:Array DictEntry}{ep:Nat}{Q:Value->Shared->Prop}(lo:(d==sysModules)=false)(h1:s.heap.get? d=some o)(hc:o.ExactDict)(h2:o.data=.dict es ep)
 (hQ:Q (.ref (zz9 s)) {s with heap:=s.heap.push {cls:=.type "dict_keyiterator",data:=.fields #[.ref d,.int 0 0,.int es.size 0,.int ep 0]}}):wpAny (model prog w) A (pyIter (.ref d)) Q E s:=by
 have T:s.TypeIs (.ref d) "dict":=⟨o,h1,hc.1⟩
 refine wpAny_pyIter_slot T F.slot_dict_iter (wpAny_call_entry F.slot_dict_iter T F.entry_dict_iter ?_ (F.args_dict_iter_1 _));unfold Builtin.«dict.__iter__» Builtin.Dict.dictSlotNone;refine zzA (zzA (wpAny_notOrdered_dict T ?_));show wpAny _ _ (pure (Value.ref d):Sem Value) _ _ s;refine zzG ?_;show wpAny _ _ (Builtin.Dict.showsAll d>>=λ_=>_) _ _ s;unfold Builtin.Dict.showsAll;rw [if_neg (by rw [lo];exact zzf)];refine zzA (zzG (zzA (wpAny_dictEntries h1 h2 (zzA (wpAny_dictEpoch h1 h2 ?_)))));refine zzA (wpAny_newObj_type (zzG ⟨_,rfl,"dict_keyiterator",_,⟨_,zzX _ rfl,rfl⟩,F.slot_dict_keyiterator_next.lookup,?_⟩))
 simpa [rawInt] using hQ
def kA{it:Addr}{i ep:Nat}{o:Obj}{es:Array DictEntry}{Q:Option Value->Shared->Prop}(st:s.heap.IsKeyIter it d i es.size ep)(h1:s.heap.get? d=some o)(h2:o.data=.dict es ep)(hi:i<es.size)
 (hQ:∀h',h'.IsKeyIter it d (i+1) es.size ep->Heap.SameBut it s.heap h'->Q (some es[i].key) {s with heap:=h'}):wpAny (model prog w) A (pyNext (.ref it)) Q E s:=by
 obtain⟨oi,g1,g2,g3⟩:=id st
 have own:Builtin.Dict_items.ownsTuple "dict_keyiterator"=false:=by decide
 unfold pyNext;refine zzA (wpAny_attempt (wpAny_callSpecial?_slot (name:=Str.ofString "__next__") st.typeIs F.slot_dict_keyiterator_next (wpAny_call_entry F.slot_dict_keyiterator_next st.typeIs F.entry_dict_keyiterator_next ?_ (F.args_dict_keyiterator_next_1 _))));refine zzA (zzG (zzA (zzA ?_)))
 first|refine zzA (wpAny_typeNameOfWhole_keyiter st.typeIs (zzG (zzA (wpAny_fieldsOf g1 g3 ?_))))|refine zzA (wpAny_typeNameOf_keyiter st.typeIs (zzG (zzA (wpAny_fieldsOf g1 g3 ?_))))
 simp! [own,zze,if_false];show wpAny _ _ (if(Value.ref d==Value.none)=true then _ else _:Sem _) _ _ s;rw [if_neg (show¬((Value.ref d==Value.none)=true) from zzf)];refine zzA (zzG (zzA (wpAny_dictEntries h1 h2 ?_)));rw [if_neg (by simp)];refine zzA (zzG (zzA (wpAny_dictEpoch h1 h2 ?_)));rw [if_neg (by simp)];refine zzG ?_;simp! [show¬((i:Int)<0) from by omega,if_false,zz4,zz2 hi];refine zzA ?_
 first|refine zzA (wpAny_typeNameOfWhole_keyiter st.typeIs (zzG (zzA (wpAny_isOneOf_keyiter st.typeIs ?_))))|refine zzA (wpAny_typeNameOf_keyiter st.typeIs (zzG (zzA (wpAny_isOneOf_keyiter st.typeIs ?_))))
 show wpAny _ _ (setField (.ref it) 1 (rawInt ((i:Int)+1))>>=λ_=>_) _ _ s
 have fK:(s.heap.update it (Obj.mapFields (·.setIfInBounds 1 (rawInt ((i:Int)+1))))).IsKeyIter it d (i+1) es.size ep:=
  ⟨_,Heap.get?_update_self _ g1 (Obj.isFreed_of_fields (Obj.data_mapFields g3 _)),(Obj.cls_mapFields ..).trans g2,by rw [Obj.data_mapFields g3];simp [rawInt]⟩
 refine zzA (wpAny_setField g1 g3 (by simp) (zzA (wpAny_holding (zzA (wpAny_isOneOf_keyiter (s:={s with heap:=s.heap.update it (Obj.mapFields (·.setIfInBounds 1 (rawInt ((i:Int)+1))))}) fK.typeIs ?_)))));show wpAny _ _ (pure es[i].key:Sem Value) _ _ _;exact zzG (zzG ⟨_,rfl,zzG (hQ _ fK (zzu ..))⟩)
def uc{it:Addr}{i ep:Nat}{o:Obj}{es:Array DictEntry}{Q:Option Value->Shared->Prop}(hh:A.handled=none)(st:s.heap.IsKeyIter it d i es.size ep)(h1:s.heap.get? d=some o)(h2:o.data=.dict es ep)(hi:es.size<=i)
 (hQ:∀h',Heap.ExtBut it s.heap h'->Q none {s with heap:=h'}):wpAny (model prog w) A (pyNext (.ref it)) Q E s:=by
 obtain⟨oi,g1,g2,g3⟩:=id st
 have own:Builtin.Dict_items.ownsTuple "dict_keyiterator"=false:=by decide
 unfold pyNext;refine zzA (wpAny_attempt (wpAny_callSpecial?_slot (name:=Str.ofString "__next__") st.typeIs F.slot_dict_keyiterator_next (wpAny_call_entry F.slot_dict_keyiterator_next st.typeIs F.entry_dict_keyiterator_next ?_ (F.args_dict_keyiterator_next_1 _))));refine zzA (zzG (zzA (zzA ?_)))
 first|refine zzA (wpAny_typeNameOfWhole_keyiter st.typeIs (zzG (zzA (wpAny_fieldsOf g1 g3 ?_))))|refine zzA (wpAny_typeNameOf_keyiter st.typeIs (zzG (zzA (wpAny_fieldsOf g1 g3 ?_))))
 simp! [own,zze,if_false];show wpAny _ _ (if(Value.ref d==Value.none)=true then _ else _:Sem _) _ _ s;rw [if_neg (show¬((Value.ref d==Value.none)=true) from zzf)];refine zzA (zzG (zzA (wpAny_dictEntries h1 h2 ?_)));rw [if_neg (by simp)];refine zzA (zzG (zzA (wpAny_dictEpoch h1 h2 ?_)));rw [if_neg (by simp)];refine zzG ?_;simp! [show¬((i:Int)<0) from by omega,if_false,zz4,Array.getElem?_eq_none hi];refine zzA ?_
 first|refine zzA (wpAny_typeNameOfWhole_keyiter st.typeIs (zzG ?_))|refine zzA (wpAny_typeNameOf_keyiter st.typeIs (zzG ?_))
 show wpAny _ _ (setField (.ref it) 0 .none>>=λ_=>_) _ _ s
 refine zzA (wpAny_setField g1 g3 (by simp) ?_);show wpAny _ _ (newExc (.type "StopIteration") []>>=λ_=>_) _ _ _
 refine zzA ?_;simp! [newExc,newTuple];refine zzA (wpAny_newObj_type (zzA (m:=firstArgMember _ _) (wpAny_of_eq (a:=Value.none) (by first|rfl|(simp! [firstArgMember];rfl)) (wpAny_newObj_type ?_ (by size_fits)))) (by size_fits));simp! [raiseNew];refine zzA (wpAny_handled ?_);rw [show A.in1.handled=none from hh];refine zzA (zzG (wpAny_throw ?_));refine zzA (wpAny_isInstance (T:="StopIteration") (b:=true) ⟨_,zzX _ rfl,rfl⟩ isSubtype_stop ?_);exact zzG (hQ _ (((zzu ..).extBut.push _).push _))
end
def KT.drop{H:Hp}{au:List (List Key×V)}{xs:List (List Key×Addr×Value)}(r:KT H au xs)(k:List Key):KT H (fI au k) (xs.filter λx=>decide (x.1≠k)):=by
 unfold fI
 induction r with
 |nil=>exact .nil
 |@cons p q ps qs h t ih=>
  rw [zz3,zz3,<-h.1];split
  ·exact .cons h ih
  ·exact ih
def KT.len{H:Hp}{au:List (List Key×V)}{xs:List (List Key×Addr×Value)}(r:KT H au xs):au.length=xs.length:=Paired.length r
section
variable{X:Cx}{aa:List (Addr×Obj)}{σ:St}{H:Hp}{s:Shared}{a b:Addr}{au:List (List Key×V)}{k:List Key}{A:Around}{E:Value->Shared->Prop}
def Io{Q:Value->Shared->Prop}(I:Inv X aa σ H s)(e:Rd H a (.dT au))(h:∀t s',Inv X aa σ H s'->Q (.int au.length t) s'):wpAny (model X.prog X.w) A (call (.builtin "len") [.ref a]) Q E s:=by
 obtain⟨z,lo,xs,rel,dd⟩:=j5 I.aK e
 refine Ki lo dd (by rw [<-rel.len];rw [sizeLine_eq] at z;omega) ?_;rw [<-rel.len];exact h _ _ (I.tok _)
def GZ{v:V}{Q:Value->Shared->Prop}(hu:A.units+1<cLine)(I:Inv X aa σ H s)(e:H a=some (.dT au))(eb:H b=some (.tup (k.map kV)))(l:gV au k=some v)
 (h:∀w' s',Inv X aa σ (upd H a (.dT (fI au k))) s'->RelV v w'->Q w' s'):wpAny (model X.prog X.w) A (call (.builtin "dict.pop") [.ref a,.ref b]) Q E s:=by
 obtain⟨z,lo,xs,rel,dd⟩:=Ba I.aK e
 obtain⟨w',hw,jg⟩:=km.some_of (v:=v) (o:=(atKey xs k).map (·.2)) (by rw [<-l];exact rel.val k)
 obtain⟨p,hp,hp2⟩:=zzJ.mp hw
 refine call_meetsIn PySem.F.slot_dict_pop dd.typeIs PySem.F.entry_dict_pop (PySem.F.args_dict_pop_2 _ _) (pW (knd:=tupleKind (aF X.prog X.w)) a b) ⟨tupleKind_room_in1 hu,k,xs,p,fY I.aK eb,dd,by rw [<-rel.len];exact z,hp,λh' FY hs=>?_⟩
 rw [hp2];obtain⟨q,es,ep,hq,h2,h3,h4,_,h5⟩:=FY
 refine h w' _ (gM I (by rw [e];exact True.intro) hs ⟨q,hq⟩ ⟨zzU (AQ au k) z,lo,_,(rel.drop k).keeps λc ys ec=>?_,q,es,ep,hq,h2,h3,h4,h5⟩) jg
 rw [af (fc ec e (λz=>nomatch z))];exact ec
def Inv.freeze(I:Inv X aa σ H s)(e:H a=some (.dT au)):∃o,Inv X aa σ (upd H a (.bz o (.dT au))) s:=by
 obtain⟨z,lo,xs,rel,o,es,ep,h1,h2,h3,h4,h5⟩:=(show bO X.prog X.w H s.heap a (.dT au) from I.aK a _ e)
 refine⟨o,gM (h':=s.heap) (t':=s.toks) I (by rw [e];exact True.intro) ⟨rfl,λ_ _=>rfl⟩ ⟨o,h1⟩ ⟨h1,z,lo,xs,?_,o,es,ep,h1,h2,h3,h4,h5⟩⟩
 exact KT.keeps (H:=H) rel λc ys ec=>by rw [af (fc ec e (λz=>nomatch z))];exact ec
end
noncomputable def QK(a:Addr)(o:Obj)(au:List (List Key×V)):It:=
 ⟨λi H=>H a=some (.bz o (.dT au))/\i<au.length,λi H x H'=>H'=H/\∃b k v,x=.ref b/\au[i]?=some (k,v)/\H b=some (.tup (k.map kV)),λi H=>H a=some (.bz o (.dT au))/\au.length<=i⟩
def iD{α β:Type}{R:α->β->Prop}{l:List α}{m:List β}(r:Paired R l m):∀{i:Nat} {p:α} {q:β},l[i]?=some p->m[i]?=some q->R p q:=by
 induction r with
 |nil=>intro i p q h;simp at h
 |cons h t ih=>
  intro i p q h1 h2;cases i with
  |zero=>simp at h1 h2;subst h1 h2;exact h
  |succ i=>simp at h1 h2;exact ih h1 h2
def zG{P:Program}{w:World}{H:Hp}{h:Heap}{a:Addr}{au:List (List Key×V)}(x:bO P w H h a (.dT au)):(a==sysModules)=false/\(au.map (·.1)).Nodup/\∃o es ep,h.get? a=some o/\o.ExactDict/\o.data=.dict es ep/\es.size=au.length/\∀(i:Nat) (hi:i<es.size),∃b k v,es[i].key=.ref b/\au[i]?=some (k,v)/\H b=some (.tup (k.map kV))/\RelV v es[i].val:=by
 obtain⟨z,lo,xs,rel,o,es,ep,h1,h2,h3,h4,h5⟩:=x
 have hl:es.size=xs.length:=size_of_entries h4
 have hx:au.length=xs.length:=Paired.length rel
 have ks:au.map (·.1)=xs.map (·.1):=by
  clear hl hx h4 h5 z
  induction rel with
  |nil=>rfl
  |cons h t ih=>rw [zzF,zzF,h.1,ih]
 refine⟨lo,ks▸h5,o,es,ep,h1,h2,h3,hl.trans hx.symm,λi hi=>?_⟩
 have e1:es[i]?=(xs[i]?).map (entryOfKey (tupleKind (aF P w))):=entry_at h4 i
 rw [zzg (show i<xs.length by omega),zz2 hi] at e1;have q:=iD rel (zzg (show i<au.length by omega)) (zzg (show i<xs.length by omega))
 rw [zzq e1];exact⟨_,_,_,rfl,zzg (show i<au.length by omega),q.2.1,q.2.2⟩
def k8{X:Cx}{aa:List (Addr×Obj)}{σ:St}{H:Hp}{s:Shared}{a:Addr}{o:Obj}{au:List (List Key×V)}(I:Inv X aa σ H s)(e:H a=some (.bz o (.dT au))):
 (a==sysModules)=false/\s.heap.get? a=some o/\o.ExactDict/\∃es ep,o.data=.dict es ep/\es.size=au.length/\∀(i:Nat) (h:i<es.size),∃b k v,es[i].key=.ref b/\au[i]?=some (k,v)/\H b=some (.tup (k.map kV)):=by
 obtain⟨h0,ok⟩:=(show bO X.prog X.w H s.heap a (.bz o (.dT au)) from I.aK a _ e)
 obtain⟨lo,_,o',es,ep,h1,h2,h3,hl,hk⟩:=zG ok
 rw [h0] at h1;cases h1;exact⟨lo,h0,h2,es,ep,h3,hl,λi hi=>let⟨b,k,v,e1,e2,e3,_⟩:=hk i hi;⟨b,k,v,e1,e2,e3⟩⟩
def xT{P:Program}{w:World}{K:zz8}{tg:Expr}{a it:Addr}{o:Obj}{es:Array DictEntry}{ep:Nat}{au:List (List Key×V)}(hd:o.data=.dict es ep)(hl:es.size=au.length):
 Turn P w K tg (QK a o au) [it] it (λi h=>h.IsKeyIter it a i es.size ep) where
 mem:=by simp
 obj:=λi h st b hb=>by
  have e:b=it:=by simpa using hb
  subst e;obtain⟨q,e,c,d⟩:=st
  exact⟨q,e,λv z=>by rw [d] at z;cases z⟩
 keep:=λi h h' st k=>st.at λo e=>k it (by simp) o e
 item:=by
  intro X hP hw hK hc i aa s σ H E I hf st hg;subst hP hw hK;obtain⟨g1,g2⟩:=hg
  obtain⟨lo,h0,hx,qW,ep',h3,oJ,wR⟩:=k8 I g1
  rw [hd] at h3;cases h3;obtain⟨f0,f1,f2,f3,f4,f5⟩:=hf it (by simp)
  have hi:i<es.size:=by omega
  refine kA st h0 hd hi λh' fK sb=>?_
  obtain⟨b,k,v,e1,e2,e3⟩:=wR i hi
  have I1:Inv X aa σ H {s with heap:=h'}:=I.turned (t':=s.toks) (λb o hb e=>(sb.2 b hb).trans e) f0 f1 f3 f4 f5
  obtain⟨q,e,c,d⟩:=id fK
  refine⟨_,rfl,vQ (s:={s with heap:=h'}) e c d (by decide) ⟨.ref b,H,I1,?_,⟨rfl,b,k,v,rfl,e2,e3⟩,fK,λb hb=>(hf b hb).1⟩⟩
  rw [e1];exact rfl
 done:=by
  intro X hP hw hK hc i aa s σ H E I hf st hg;subst hP hw hK;obtain⟨g1,g2⟩:=hg
  obtain⟨lo,h0,hx,qW,ep',h3,oJ,wR⟩:=k8 I g1
  rw [hd] at h3;cases h3;obtain⟨f0,f1,f2,f3,f4,f5⟩:=hf it (by simp)
  exact uc (I.ok.hd hc) st h0 hd (by omega) λh' eb=>⟨rfl,I.turned (t':=s.toks) (λb o hb e=>eb b o hb e) f0 f1 f3 f4 f5⟩
 self:=λ_ _ _ _ _ st h=>wpAny_pyIter_keyiter st h
noncomputable def Qx(tl:TE):TI:=λσ H R=>tl σ H λx H1=>∃a o au,x=.ref a/\H1 a=some (.bz o (.dT au))/\R (QK a o au) H1
section
variable{X:Cx}{o e:Expr}{apos bU:Pos}{td ty:TE}
def Jl{tg l:Expr}{tl:TE}(hl:PE X l tl):PI X tg l (Qx tl):=by
 intro aa s σ H R I h;refine bP (hl aa s σ H _ I h) λv s1 ⟨x,H1,I1,r1,q1⟩=>?_
 obtain⟨a,o,au,e,hq,q⟩:=q1
 subst e;cases r1;obtain⟨lo,h0,hx,es,ep,h3,oJ,wR⟩:=k8 I1 hq
 refine oY lo h0 hx h3 ?_;refine⟨(zz9 s1),[(zz9 s1)],_,_,H1,rfl,I1.kept (t':=s1.toks) λb o e=>zzB _ e,xT h3 oJ,⟨_,zzX _ rfl,rfl,rfl⟩,λb hb=>?_,q⟩
 have e:b=(zz9 s1):=by simpa using hb
 subst e;exact I1.mP (zzE _) (I1.aK.fresh (zzE _))
noncomputable def LL(td ty:TE):TE:=λσ H Q=>td σ H λx H1=>∃a,x=.ref a/\FX H1 a/\ty σ H1 λy H2=>∃au k b v,H2 a=some (.dT au)/\y=.ref b/\H2 b=some (.tup (k.map kV))/\gV au k=some v/\Q v (upd H2 a (.dT (fI au k)))
def EY(hu:X.A.units+1<cLine)(ho:PE X o td)(he:PE X e ty)(m:M1 X o "pop" apos e bU):PE X (.Call (.Attribute o "pop" apos) [e] [] bU) (LL td ty):=by
 intro aa s σ H Q I h;refine wpAny_Call_method m.base m.KA m.line PySem.F.plainAttrs_dict PySem.F.slot_dict_pop PySem.F.type_dict_pop (bP (ho aa s σ H _ I h) λu s1 ⟨x,H1,I1,rx,a,ex,d,q1⟩=>?_)
 subst ex;obtain rfl:u=Value.ref a:=rx
 obtain⟨t1,t2,_⟩:=Hj I1 d
 refine⟨t1,t2,?_⟩;rw [m.trees];refine Calls.callWith_builtin rfl (Calls.evalArgs_plain (Calls.spliced_cons (bP (he aa s1 σ H1 _ I1 q1) λiv s2 ⟨y,H2,I2,ry,au,k,b,v,ea,ey,eb,l,q2⟩=>Calls.spliced_nil ?_)))
 subst ey;cases(show iv=Value.ref b from ry);exact GZ hu I2 ea eb l λw' s3 I3 jg=>⟨v,_,I3,jg,q2⟩
end
end L2
namespace L2
open PySem PySem.Spec PyProof.Rows PySem.W
noncomputable def aC{α:Type}(lt:Nat->Nat->Bool):KasT α->α
 |.ret a=>a
 |.ask i j k=>aC lt (k (lt i j))
def dG{α:Type}(n:Nat)(R:α->Prop):KasT α->Prop
 |.ret a=>R a
 |.ask i j k=>i<n/\j<n/\∀b,dG n R (k b)
theorem dG.bind{α β:Type}{n:Nat}{R:α->Prop}{R':β->Prop}{f:α->KasT β}(hf:∀a,R a->dG n R' (f a)):∀(t:KasT α),dG n R t->dG n R' (t.bind f)
 |.ret a,h=>hf a h
 |.ask i j k,h=>⟨h.1,h.2.1,λb=>dG.bind hf (k b) (h.2.2 b)⟩
theorem dG.run{α:Type}{n:Nat}{R:α->Prop}(lt:Nat->Nat->Bool):∀(t:KasT α),dG n R t->R (aC lt t)
 |.ret a,h=>h
 |.ask i j k,h=>dG.run lt (k (lt i j)) (h.2.2 _)
theorem zU{α:Type}{n:Nat}{R:α->Prop}{cmp:Nat->Nat->(Bool->Shared->Prop)->Shared->Prop}{lt:Nat->Nat->Bool}{Q:α->Shared->Prop}{s:Shared}
 (hc:∀i j C,i<n->j<n->C (lt i j) s->cmp i j C s):∀(t:KasT α),dG n R t->Q (aC lt t) s->t.kasWp cmp Q s
 |.ret a,_,h=>h
 |.ask i j k,a,h=>hc i j _ a.1 a.2.1 (zU hc (k (lt i j)) (a.2.2 _) h)
abbrev Pm(n:Nat)(p:Array Nat):Prop:=p.toList.Perm (List.range n)
def Pm.lt{n:Nat}{p:Array Nat}(h:Pm n p)(h0:0<n)(i:Nat):p.getD i 0<n:=by
 rw [Array.getD_eq_getD_getElem?];cases e:p[i]? with
 |none=>exact h0
 |some x=>
  have:x∈p.toList:=by rw [Array.mem_toList_iff];exact Array.mem_of_getElem? e
  exact List.mem_range.mp (h.mem_iff.mp this)
def Pm.rev{n:Nat}{p:Array Nat}(h:Pm n p)(i j:Nat):Pm n (kas_rev p i j):=(mirror_perm p i j _).toList.trans h
def Pm.SA{n:Nat}{p:Array Nat}(h:Pm n p)(i j:Nat):Pm n (bubble p i j):=(bubble_perm p i j).toList.trans h
section
variable{n:Nat}(h0:0<n)
include h0
theorem mR{p:Array Nat}(h:Pm n p):∀f m,dG n (λ_=>True) (kas_asc p f m)
 |0,m=>trivial
 |f+1,m=>⟨h.lt h0 _,h.lt h0 _,λb=>by dsimp only;split;exact trivial;exact mR h f (m+1)⟩
theorem gK:∀f (p:Array Nat) m q,Pm n p->dG n (λr=>Pm n r.1) (kas_desc f p m q)
 |0,p,m,q,h=>h
 |f+1,p,m,q,h=>⟨h.lt h0 _,h.lt h0 _,λb=>by
  cases b with
  |true=>
   dsimp only;rw [if_pos rfl];split
   ·exact gK f _ _ _ (h.rev _ _)
   ·exact gK f _ _ _ h
  |false=>
   dsimp only;rw [if_neg (by simp)];exact⟨h.lt h0 _,h.lt h0 _,λb=>by dsimp only;split;exact h;exact gK f _ _ _ h⟩⟩
def oE{p:Array Nat}(h:Pm n p)(m r:Nat):dG n (λr=>Pm n r.2) (kas_tail3 m r p):=by
 unfold kas_tail3;refine dG.bind (R:=λ_=>True) (λa _=>?_) _ (mR h0 (h.rev _ _) _ _);exact h.rev 0 m
def nY{p:Array Nat}(h:Pm n p)(m r:Nat):dG n (λr=>Pm n r.2) (kas_descPart m r p):=dG.bind (λa ha=>by
 split
 ·exact oE h0 (Pm.rev ha _ _) _ _
 ·exact oE h0 ha _ _) _ (gK h0 _ _ _ _ h)
def ud{p:Array Nat}(h:Pm n p)(r:Nat):dG n (λr=>Pm n r.2) (kas_count r p):=dG.bind (λa _=>by
 split
 ·exact h
 ·split
  ·exact⟨h.lt h0 _,h.lt h0 _,λb=>by dsimp only;split;exact h;exact nY h0 (h.rev _ _) _ _⟩
  ·exact nY h0 h _ _) _ (mR h0 h _ _)
theorem iH{p:Array Nat}(h:Pm n p)(k:Nat):∀f l r,dG n (λ_=>True) (kas_place p k f l r)
 |0,l,r=>trivial
 |f+1,l,r=>by
  unfold kas_place;split
  ·exact trivial
  ·exact⟨h.lt h0 _,h.lt h0 _,λb=>by dsimp only;split;exact iH h k f _ _;exact iH h k f _ _⟩
theorem r9:∀f (p:Array Nat) k,Pm n p->dG n (Pm n) (kas_bin f p k)
 |0,p,k,h=>h
 |f+1,p,k,h=>dG.bind (λl _=>r9 f _ _ (h.SA _ _)) _ (iH h0 h k _ _ _)
def oT:dG n (Pm n) (kas_sort n):=dG.bind (λa ha=>by
 split
 ·exact r9 h0 _ _ _ ha
 ·exact ha) _ (ud h0 (List.Perm.refl _) n)
end
noncomputable def jm(n:Nat)(lt:Nat->Nat->Bool):List Nat:=(aC lt (kas_sort n)).toList
def gC{n:Nat}(h:0<n)(lt:Nat->Nat->Bool):(jm n lt).Perm (List.range n):=dG.run lt _ (oT h)
section
variable{prog:Program}{w:World}{A:Around}{E:Value->Shared->Prop}{s:Shared}{a:Addr}{vs:List Value}{nss:List (List Int)}
def mB{S:Addr}{h:Heap}{c:Nat}{xs ys:Array Value}(e:h.get? S=some (seqObj "list" xs c)):∃c',(h.update S (Obj.mapSeq λ_=>ys)).get? S=some (seqObj "list" ys c'):=⟨_,get?_update_seq e λ_=>ys⟩
def mZ(h:Heap)(vs:List Value)(nss:List (List Int)):Prop:=Paired (λv ns=>∃b o ax n,v=.ref b/\h.get? b=some o/\o.cls=.type "tuple"/\o.data=.seq ax n/\Vals (ns.map V.int) ax.toList/\ns≠[]) vs nss
def mZ.keep{h h':Heap}(t:mZ h vs nss)(k:∀b o,h.get? b=some o->o.cls=.type "tuple"->h'.get? b=some o):mZ h' vs nss:=
 Paired.uv t λ_ _ ⟨b,o,ax,n,e1,e2,e3,e4,e5,e6⟩=>⟨b,o,ax,n,e1,k b o e2 e3,e3,e4,e5,e6⟩
theorem mU{b:Bool}{Q:Bool->Shared->Prop}:∀(ns ms:List Int) (xs ys:List Value) (i:Nat),Vals (ns.map V.int) xs->Vals (ms.map V.int) ys->Q (HT.lexLt ns ms) s->KatLex prog w A b (decide (xs.length<ys.length)) Q (xs.zip ys) i s
 |[],[],_,_,i,.nil,.nil,h=>by simpa [KatLex,HT.ny] using h
 |[],m::ms,_,_,i,.nil,.cons _ _,h=>by simpa [KatLex,HT.lexLt] using h
 |n::ns,[],_,_,i,.cons _ _,.nil,h=>by simpa [KatLex,HT.lexLt] using h
 |n::ns,m::ms,_,_,i,.cons (a:=_) (b:=u) h1 t1,.cons (b:=v) h2 t2,h=>by
  obtain⟨t,rfl⟩:=h1
  obtain⟨t',rfl⟩:=h2
  rw [HT.uT] at h;refine kat_cons (wpAny_eqBool_int ?_)
  by_cases e:n=m
  ·subst e;rw [if_pos rfl] at h;rw [show(n==n)=true from by simp];refine kat_yes ?_;have:=mU (b:=b) ns ms _ _ (i+1) t1 t2 h
   simp! [zzL,Nat.add_lt_add_iff_right];exact this
  ·rw [if_neg e] at h;rw [show(n==m)=false from by simpa using e];refine kat_no ?_;cases hb:(b&&i==0) with
   |true=>exact oneLt_int h
   |false=>exact kat_one _ _ (PyProof.Rows.lt_int h)
def Nm(prog:Program)(w:World)(A:Around)(E:Value->Shared->Prop)(vs:List Value)(lt:Nat->Nat->Bool)(s:Shared):Prop:=∃κ:SortKind,(∀Q:SortKind->Shared->Prop,Q κ s->wpAny (model prog w) A (keyKind' vs.toArray) Q E s)/\∀i j (C:Bool->Shared->Prop),i<vs.length->j<vs.length->C (lt i j) s->kas_ask prog w A κ vs i j C s
def AM(t1:mZ s.heap vs nss)(h2:2<=vs.length):Nm prog w A E vs (λi j=>HT.lexLt (nss.getD i []) (nss.getD j [])) s:=by
 have hlen:vs.length=nss.length:=Paired.length t1
 have kt:∃fs,KatTups s.heap vs fs/\fs.length=vs.length/\∀v∈fs,∃i t,v=.int i t:=by
  clear hlen h2
  induction t1 with
  |nil=>exact⟨[],trivial,rfl,λv hv=>nomatch hv⟩
  |cons h t ih=>
   obtain⟨fs,i1,i2,i3⟩:=ih
   obtain⟨b,o,ax,n,rfl,g1,g2,g3,g4,g5⟩:=h
   rename_i ns _ _;cases ns with
   |nil=>exact absurd rfl g5
   |cons m ms=>
    rw [zzF] at g4;cases hi:ax.toList with
    |nil=>rw [hi] at g4;cases g4
    |cons f r=>
     rw [hi] at g4;cases g4 with
     |cons r1 r2=>
      obtain⟨tk,rfl⟩:=r1
      have f0:ax[0]?=some (.int m tk):=by rw [<-Array.getElem?_toList,hi];rfl
      exact⟨.int m tk::fs,.cons g1 g2 g3 f0 i1,by simp [i2],λv hv=>by
       rcases zzm.mp hv with rfl|hv
       ·exact⟨m,tk,rfl⟩
       ·exact i3 v hv⟩
 obtain⟨fs,kt1,kt2,kt3⟩:=kt
 refine⟨_,λQ q=>kat_kind (T:=.type "int") kt1 (by omega) (λv hv=>?_) rfl q,λi j C hi hj hC=>?_⟩
 ·obtain⟨i,t,rfl⟩:=kt3 v hv
  exact .now
 ·unfold kas_ask;obtain⟨b,o,ax,n,e1,g1,g2,g3,g4,_⟩:=iD t1 (zzg hi) (zzg (show i<nss.length by omega))
  obtain⟨b',o',its',n',e1',JP,L5,g3',g4',_⟩:=iD t1 (zzg hj) (zzg (show j<nss.length by omega))
  have v1:vs.getD i Value.none=.ref b:=by simp [hi,e1]
  have v2:vs.getD j Value.none=.ref b':=by simp [hj,e1']
  have n1:nss.getD i []=nss[i]'(by omega):=by simp [show i<nss.length by omega]
  have n2:nss.getD j []=nss[j]'(by omega):=by simp [show j<nss.length by omega]
  rw [v1,v2];dsimp only at hC;rw [n1,n2] at hC;refine kat_lt g1 g3 JP g3' ?_;have:=mU (prog:=prog) (w:=w) (A:=A) (b:=(Value.type "int" !=Value.type "tuple")) _ _ _ _ 0 g4 g4' hC
  simpa using this
def yS{n:Nat}{P:PySem.Fin->Shared->Prop}{lt:Nat->Nat->Bool}(ho:s.heap.get? a=some (seqObj "list" vs.toArray n))(h2:2<=vs.length)(Gu:vs.length<64)(rd:∀h',(∀b o,b≠a->s.heap.get? b=some o->h'.get? b=some o)->Nm prog w A E vs lt {s with heap:=h'})
 (h:∀h' c,(∀b o,b≠a->s.heap.get? b=some o->h'.get? b=some o)->h'.get? a=some (seqObj "list" ((jm vs.length lt).map λi=>vs.getD i Value.none).toArray c)->P (.done (.ret .none)) {s with heap:=h'}):
 wpAny (model prog w) A (Builtin.«list.sort» ⟨[.ref a],[]⟩) P E s:=by
 have s1:=zzu s.heap a (Obj.mapSeq λ_=>(#[]:Array Value))
 obtain⟨e1,ho1⟩:∃e1,(s.heap.update a (Obj.mapSeq λ_=>(#[]:Array Value))).get? a=some (seqObj "list" #[] e1):=⟨_,get?_update_seq ho λ_=>#[]⟩
 generalize hH:(((s.heap.update a (Obj.mapSeq λ_=>(#[]:Array Value))).push (seqObj "tuple" vs.toArray 0)).push (seqObj "list" #[] 0))=H1
 have k1:∀b o,b≠a->s.heap.get? b=some o->H1.get? b=some o:=λb o hb e=>by rw [<-hH];exact zzB _ (zzB _ ((s1.2 b hb).trans e))
 have a1:H1.get? a=some (seqObj "list" #[] e1):=by rw [<-hH];exact zzB _ (zzB _ ho1)
 obtain⟨κ,kk,lts⟩:=rd H1 k1
 rw [list_sort_plain];refine zzA (listItems_at ho rfl (zzA (listUpdate_at ho rfl ?_ (by rw [zzC,sizeLine_eq];omega) (Nat.zero_le _))));refine zzA (seqEpoch_at ho1 rfl (zzA (wpAny_newTuple ?_ (by show vs.length<=_;rw [sizeLine_eq];omega))));refine zzA (wpAny_newList ?_ (Nat.zero_le _));refine wpAny_holding ?_;show wpAny (model prog w) A _ P E {s with heap:=((s.heap.update a (Obj.mapSeq λ_=>(#[]:Array Value))).push (seqObj "tuple" vs.toArray 0)).push (seqObj "list" #[] 0)}
 rw [hH];dsimp only;have JT:¬vs.toArray.size<2:=by rw [zzC];omega
 rw [if_neg JT,if_neg JT];refine zzA (kk _ ?_);refine zzA (wpAny_mono (kat_run (Q:=λfK s'=>∃p:Array Nat,p.size=vs.length/\arrOf fK=p.map (kas_item (vs.toArray.zip vs.toArray))/\failedOf fK=none/\p=aC lt (kas_sort vs.length)/\s'={s with heap:=H1})
  rfl h2 Gu (λp' fK s' a1 a2 a3 a4=>⟨p',a1,a2,a3,a4⟩) (zU lts _ (oT (by omega)) ⟨rfl,rfl⟩)) ?_ λ_ _ e=>e)
 rintro ⟨⟨⟩,fK⟩ s' ⟨p,hp,har,hf,rfl,rfl⟩
 dsimp only;have Jz:=kat_snds rfl har
 rw [Jz];have s2:=zzu H1 a (Obj.mapSeq λ_=>List.toArray ((aC lt (kas_sort vs.length)).toList.map λi=>vs.getD i Value.none))
 obtain⟨c2,hc2⟩:=mB (ys:=List.toArray ((aC lt (kas_sort vs.length)).toList.map λi=>vs.getD i Value.none)) a1
 refine zzA (seqEpoch_at a1 rfl (zzA (listUpdate_at a1 rfl ?_ (Nat.zero_le _) (by
  show(List.toArray _).size<=_
  rw [zzC,zzl,zzd,hp,sizeLine_eq];omega))))
 rw [hf];simp! [bne_self_eq_false,zze,if_false];exact zzG (h _ c2 (λb o hb e=>(s2.2 b hb).trans (k1 b o hb e)) hc2)
end
end L2
namespace L2
open PySem PySem.Spec PyProof.Rows
def yg:typeLookup (.type "list") "keys"=pure none:=by rw [typeLookup_type,builtinLookup_eq_fast];kernel_rfl
def se:entryFor table "dict.update.loop"=some Builtin.«dict.update.loop»:=entryFor_of_tree (by kernel_rfl)
def i5:plainId "dict.update.loop"=true:=by decide+kernel
section
variable{prog:Program}{w:World}{A:Around}{E:Value->Shared->Prop}{s:Shared}{a:Addr}{o:Obj}{xs:Array Value}{k:Nat}
def E2{Q:Option Value->Shared->Prop}(hx:s.heap.get? a=some o)(hc:o.cls=.type "list")(Lj:o.data=.seq xs k)(hd:o.dict=none)(hA:A.handled=none)
 (h:∀h' tk,(∀b o,s.heap.get? b=some o->h'.get? b=some o)->Q none {s with heap:=h',toks:=tk}):wpAny (model prog w) A (getAttr? (.ref a) "keys") Q E s:=by
 obtain⟨c,bo,dat,sl⟩:=o
 simp only at hc Lj hd;subst hc Lj hd;obtain⟨hp,g,d,tk,os⟩:=s
 have hT:∀AE,(⟨hp,g,d,AE,os⟩:Shared).TypeIs (.ref a) "list":=λ_=>⟨_,hx,rfl⟩
 have f1:=sub_AttributeError
 have f3:=F.slot_list_getattribute.lookup
 have f4:=F.slot_list_getattribute.bind (.ref a)
 have f5:=am_list_getattr_none
 unfold getAttr? getAttrBy? getAttrBy
 repeat (any_goals (first|assumption|exact hT _|((with_reducible show wpAny _ _ (call (Value.builtin "list.__getattribute__") _ _) _ _ _);refine call_meets F.slot_list_getattribute (hT _) am_entry_list_getattribute (F.args_list_getattribute_2 _ _) (meets_getattribute_miss_list a xs k sl "keys" _ yg (by decide) (by size_fits)) ⟨hx,hA,λh' AE e ve=>?_⟩)|wp_step))
 obtain⟨t',u',he⟩:=ve.there
 show wpAny _ _ (getattributeRaised _ _ _ _ _ _ _) _ _ _
 unfold getattributeRaised
 repeat (any_goals (first|assumption|wp_step))
 exact h h' AE ve.keeps
end
noncomputable def dY(au more:List (List Key×V)):List (List Key×V):=more.foldl (λacc kv=>putK acc kv.1 kv.2) au
abbrev hW(K:zz8)(H:Hp)(vs:List V)(au:List (List Key×V)):Prop:=Paired (λv kv=>∃q b,v=V.ref q/\eV K H q [.ref b,kv.2]/\H b=some (.tup (kv.1.map kV))) vs au
section
variable{X:Cx}{aa:List (Addr×Obj)}{σ:St}{l d it:Addr}{vs:List V}{A:Around}{E:Value->Shared->Prop}{R:Result->Shared->Prop}
def Je{H:Hp}{s:Shared}{a b:Addr}{au:List (List Key×V)}{k:List Key}{v:V}{r:Value}{Q:Unit->Shared->Prop}(hu:A.units<cLine)(I:Inv X aa σ H s)(e:H a=some (.dT au))(eb:H b=some (.tup (k.map kV)))(l:au.length<sizeLine)(rv:RelV v r)
 (h:∀h' t,Heap.SameBut a s.heap h'->Inv X aa σ (upd H a (.dT (putK au k v))) {s with heap:=h',toks:=t}->Q () {s with heap:=h',toks:=t}):wpAny (model X.prog X.w) A (dictSet a (.ref b) r) Q E s:=by
 obtain⟨z,lo,xs,rel,dd⟩:=Ba I.aK e
 have hz:xs.length<=sizeLine:=by rw [<-rel.len];exact z
 have hl:(putK au k v).length<=sizeLine:=by have:=eh au k v;omega
 refine wpAny_dictSet_heap (hsz:=hz) (knd:=tupleKind (aF X.prog X.w)) hu (fY I.aK eb) dd λh' FY hs=>h h' _ hs ?_
 obtain⟨q,es,ep,hq,h2,h3,h4,_,h5⟩:=FY
 refine gM I (by rw [e];exact True.intro) hs ⟨q,hq⟩ ⟨hl,lo,_,(rel.put k eb rv).keeps λc ys ec=>?_,q,es,ep,hq,h2,h3,h4,h5⟩
 rw [af (fc ec e (λz=>nomatch z))];exact ec
def eV.iL{K:zz8}{H H':Hp}{a:Addr}{xs:List V}(h:eV K H a xs)(e:∀b,b≠d->H' b=H b){acc:List (List Key×V)}(hd:H d=some (.dT acc)):eV K H' a xs:=by
 rcases h with(h|⟨o,h⟩)|h
 ·exact .inl (.inl (by rw [e a (fc h hd (λz=>nomatch z))];exact h))
 ·exact .inl (.inr ⟨o,by rw [e a (fc h hd (λz=>nomatch z))];exact h⟩)
 ·exact .inr h
def fH.iL{K:zz8}{H H':Hp}{a:Addr}{xs:List V}(h:fH K H a xs)(e:∀b,b≠d->H' b=H b){acc:List (List Key×V)}(hd:H d=some (.dT acc)):fH K H' a xs:=by
 rcases h with(h|⟨o,h⟩)|h
 ·exact .inl (.inl (by rw [e a (fc h hd (λz=>nomatch z))];exact h))
 ·exact .inl (.inr ⟨o,by rw [e a (fc h hd (λz=>nomatch z))];exact h⟩)
 ·exact .inr h
def hW.iL{K:zz8}{H H':Hp}{au:List (List Key×V)}(e:∀b,b≠d->H' b=H b){acc:List (List Key×V)}(hd:H d=some (.dT acc)):∀{vs:List V},hW K H vs au->hW K H' vs au:=λh=>
 Paired.uv h λ_ _ ⟨q,b,e1,e2,e3⟩=>⟨q,b,e1,eV.iL e2 e hd,by rw [e b (fc e3 hd (λz=>nomatch z))];exact e3⟩
def Fe(hu:A.units+1<cLine)(hh:A.handled=none):∀(rest:List (List Key×V)) (i:Nat) (j:Int) (acc:List (List Key×V)) (H:Hp) (s:Shared),Inv X aa σ H s->fe X aa H it->s.heap.IsListIter it l i->fH X.K H l vs->hW X.K H (vs.drop i) rest->H d=some (.dT acc)->acc.length+rest.length<=sizeLine->
 (∀s' H',Inv X aa σ H' s'->H' d=some (.dT (dY acc rest))->(∀b,b≠d->H' b=H b)->R (.ok (.ret .none)) s')->codeAny (model X.prog X.w) A (.builtin "dict.update.loop" ⟨[.ref d,.ref it,rawInt j,.none],[]⟩) R s:=by
 intro rest
 induction rest with
 |nil=>
  intro i j acc H s I hf st hl pr hd hz k;obtain⟨ax,rv,p,_⟩:=I.list hl
  obtain⟨f0,f1,f2,f3,f4,f5⟩:=hf
  have hi:vs.length<=i:=List.drop_eq_nil_iff.mp (by cases h:vs.drop i with|nil=>rfl|cons x r=>rw [h] at pr;cases pr)
  have hle:=rv.length
  refine codeAny_builtin se ?_;rw [zz7 i5 _];show wpAny _ A.in1 (pyNext (.ref it)>>=λz=>_) _ _ s
  refine zzA (wpAny_pyNext_list_end hh st p.isList (by simp;omega) λh' eb=>?_)
  show wpAny _ _ (Builtin.Dict.addKeywords d []>>=λ_=>_) _ _ _
  exact zzA (zzG (zzG (k _ H (I.turned (t':=s.toks) (λb o hb e=>eb b o hb e) f0 f1 f3 f4 f5) hd λ_ _=>rfl)))
 |cons kv rest ih=>
  intro i j acc H s I hf st hl pr hd hz k;obtain⟨ax,rv,p,_⟩:=I.list hl
  obtain⟨f0,f1,f2,f3,f4,f5⟩:=id hf
  obtain⟨v,vr,hv,⟨q,b,rfl,hq,hb⟩,pr'⟩:∃v vr,vs.drop i=v::vr/\(∃q b,v=V.ref q/\eV X.K H q [.ref b,kv.2]/\H b=some (.tup (kv.1.map kV)))/\hW X.K H vr rest:=by
   cases h:vs.drop i with
   |nil=>rw [h] at pr;cases pr
   |cons x r=>rw [h] at pr;cases pr with|cons h1 h2=>exact⟨x,r,rfl,h1,h2⟩
  have Ug:vs[i]?=some (.ref q):=by rw [<-List.head?_drop,hv];rfl
  have UQ:vs.drop (i+1)=vr:=by rw [<-List.drop_drop,hv];rfl
  obtain⟨u,Qe,ru⟩:=rv.get Ug
  cases(show u=Value.ref q from ru);refine codeAny_builtin se ?_;rw [zz7 i5 _];show wpAny _ A.in1 (pyNext (.ref it)>>=λz=>_) _ _ s
  refine zzA (wpAny_pyNext_list_item st p.isList (x:=Value.ref q) (by simpa using Qe) λh' fK sb=>?_)
  have I1:Inv X aa σ H {s with heap:=h'}:=I.turned (t':=s.toks) (λb o hb e=>(sb.2 b hb).trans e) f0 f1 f3 f4 f5
  obtain⟨dR,rv2,p2,_⟩:=I1.tuple hq
  obtain⟨o2,g1,g2,n2,g3⟩:=id p2
  obtain⟨u1,u2,rfl,ru1,ru2⟩:∃u1 u2,dR=[u1,u2]/\RelV (.ref b) u1/\RelV kv.2 u2:=by
   cases rv2 with|cons h1 h2=>cases h2 with|cons h3 h4=>cases h4;exact⟨_,_,rfl,h1,h3⟩
  cases(show u1=Value.ref b from ru1);show wpAny _ A.in1 (holding [Value.ref q] _>>=λz=>_) _ _ {s with heap:=h'};refine zzA (wpAny_holding (zzA (wpAny_tryCatch ?_)));unfold Builtin.Dict.pairItems;refine zzA (wpAny_typeOf (s:={s with heap:=h'}) ⟨o2,g1,g2⟩ ?_);rw [if_pos (by decide)];refine zzA (wpAny_seqItems g1 g3 (zzG ?_));show wpAny _ A.in1 (holding [Value.ref b,u2] (dictSet d (.ref b) u2)) _ _ _;refine wpAny_holding (Je hu I1 hd hb (by rw [zzL] at hz;omega) ru2 λh2 t2 Ox I2=>?_)
  have iL:∀c,c≠d->upd H d (.dT (putK acc kv.1 kv.2)) c=H c:=λc hc=>af hc
  have nd:it≠d:=λz=>by rw [z,hd] at f0;cases f0
  refine zzG ⟨plainId_quiet i5 _,ih (i+1) (j+1) _ _ _ I2 ⟨by rw [iL _ nd];exact f0,f1,f2,f3,f4,f5⟩ (fK.at λo e=>(Ox.2 it nd).trans e) (fH.iL hl iL hd) (hW.iL iL hd (by rw [UQ];exact pr')) aq ?_ λs' H' J1 J2 J3=>k s' H' J1 J2 λc hc=>(J3 c hc).trans (iL c hc)⟩
  have:=eh acc kv.1 kv.2
  rw [zzL] at hz;omega
def vj(hc:X.calm=true)(hu:X.A.units+3<cLine):bW X (.type "dict") (λxs H Q=>∃l vs au,xs=[V.ref l]/\fH X.K H l vs/\hW X.K H vs au/\∀p,H p=none->Q (.ref p) (upd H p (.dT (dY [] au)))):=by
 intro aa s σ H xs us Q I r h;obtain⟨l,vs,au,rfl,hl,pr,q⟩:=h
 obtain⟨u,rfl,ru⟩:=vals1 r
 cases ru;have hh:X.A.handled=none:=I.ok.hd hc
 refine callType_codes (Q₁:=λobj s₁=>obj=.ref (zz9 s)/\s₁={s with heap:=s.heap.push {cls:=.type "dict",data:=.dict #[]}}) F.kt_called_dict (F.kt_typeCall_dict_1 _) F.entry_dict_init (kt_code_dict_new _ ⟨rfl,rfl⟩) ?_
 rintro obj s₁ ⟨rfl,rfl⟩
 have hn:H (zz9 s)=none:=I.aK.fresh (zzE _)
 have I1:=I.laid (a:=(zz9 s)) (o:=.dT []) (t':=s.toks) (λ_ _ q=>zzB _ q) (zzE _) (sy s.heap I.big)
 have T:(⟨s.heap.push {cls:=.type "dict",data:=.dict #[]},s.gens,s.drawn,s.toks,s.os⟩:Shared).TypeIs (.ref (zz9 s)) "dict":=⟨_,zzX _ rfl,rfl⟩
 have iL:∀c,c≠(zz9 s)->upd H (zz9 s) (.dT []) c=H c:=λc hc=>af hc
 have same:az H (upd H (zz9 s) (.dT [])):=bx hn
 have L7:fH X.K (upd H (zz9 s) (.dT [])) l vs:=same.seq hl
 obtain⟨ax,rv,p,hz⟩:=I1.list L7
 obtain⟨o,n,g1,g2,g3,g4⟩:=id p
 refine⟨T,F.args_dict_init_2 _ _,?_⟩;unfold Builtin.«dict.__init__» Builtin.Dict.selfAndRest;refine zzA (zzA (wpAny_notOrdered_dict T ?_));show wpAny _ _ (pure ((zz9 s),[Value.ref l]):Sem _) _ _ _;refine zzG ?_;show wpAny _ _ (Builtin.Dict.updateFrom "dict.__init__" (zz9 s) (.ref l) [] .none) _ _ _;unfold Builtin.Dict.updateFrom;refine zzA (wpAny_typeOf ⟨o,g1,g2⟩ ?_);rw [if_pos (by decide)];refine zzA (E2 g1 g2 g4 g3 hh λh' tk hk=>?_);rw [if_pos (by decide)];refine zzA (wpAny_rule ?_);have I2:=I1.kept (h':=h') (t':=tk) hk
 obtain⟨its',rv',p',_⟩:=I2.list L7
 refine zzA (wpAny_pyIter_list p'.isList ?_);have I3:=I2.kept (h':=h'.push {cls:=.type "list_iterator",data:=.fields #[.ref l,.int 0 0]}) (t':=tk) λb o e=>zzB _ e
 have S4:(h'.push {cls:=.type "list_iterator",data:=.fields #[.ref l,.int 0 0]}).IsListIter h'.objs.size l 0:=⟨_,zzX _ rfl,rfl,rfl⟩
 have Ul:fe X aa (upd H (zz9 s) (.dT [])) h'.objs.size:=I2.mP (zzE _) (I2.aK.fresh (zzE _))
 refine zzG ⟨plainId_quiet i5 _,Fe (X:=X) (A:=X.A.in1) (aa:=aa) (σ:=σ) (l:=l) (d:=(zz9 s)) (it:=h'.objs.size) (vs:=vs) (by show X.A.units+1+1<cLine;omega) (show X.A.in1.handled=none from hh) au 0 0 [] _ _ I3 Ul S4 L7 ?_ aq ?_ λs' H' J1 J2 J3=>⟨rfl,?_⟩⟩
 ·exact Paired.uv pr λ_ _ ⟨q,b,e1,e2,e3⟩=>⟨q,b,e1,(show eV X.K _ q _ from by
   rcases e2 with(e2|⟨o,e2⟩)|e2
   ·exact .inl (.inl (same _ _ e2))
   ·exact .inl (.inr ⟨o,same _ _ e2⟩)
   ·exact .inr e2),same _ _ e3⟩
 ·have:=Paired.length pr
  rw [List.length_nil];omega
 ·have e:H'=upd H (zz9 s) (.dT (dY [] au)):=by
   funext b
   by_cases hb:b=(zz9 s)
   ·rw [hb,aq];exact J2
   ·rw [af hb,J3 b hb,af hb]
  rw [e] at J1;exact⟨.ref (zz9 s),_,J1,rfl,q _ hn⟩
def vf(hc:X.calm=true)(hu:X.A.units+3<cLine):bW X (.type "dict") (λxs H Q=>∃l vs au,xs=[V.ref l]/\fH X.K H l vs/\hW X.K H vs au/\∀p o,H p=none->Q (.ref p) (upd H p (.bz o (.dT (dY [] au))))):=by
 intro aa s σ H xs us Q I r h;obtain⟨l,vs,au,rfl,hl,pr,q⟩:=h
 refine wpAny_mono (vj hc hu aa s σ H _ us (λv H'=>∃p,v=.ref p/\H p=none/\H'=upd H p (.dT (dY [] au))) I r ⟨l,vs,au,rfl,hl,pr,λp hp=>⟨p,rfl,hp,rfl⟩⟩) ?_ λ_ _ z=>z
 rintro u s' ⟨v,H',I',rv,p,rfl,hp,rfl⟩
 obtain⟨o,J⟩:=I'.freeze aq
 have e:upd (upd H p (.dT (dY [] au))) p (.bz o (.dT (dY [] au)))=upd H p (.bz o (.dT (dY [] au))):=by
  funext b
  by_cases hb:b=p
  ·rw [hb,aq,aq]
  ·rw [af hb,af hb,af hb]
 rw [e] at J;exact⟨_,_,J,rv,q p o hp⟩
end
structure zP(H Hw:Hp)(d:Addr)(o:Obj)(au:List (List Key×V)):Prop where
 at_:Hw d=some (.bz o (.dT au))
 dt:H d=some (.dT au)
 same:∀b u,H b=some u->b≠d->Hw b=some u
 new:∀b u,Hw b=some u->H b=none->∃ob,u=.bz ob bF
section
variable{P:Program}{w:World}{H Hw:Hp}{d:Addr}{o:Obj}{au:List (List Key×V)}{fs:List Addr}{h h':Heap}
def zP.back(z:zP H Hw d o au)(u:Un fs [] Hw Hw h h')(k:d6 P w Hw h)(k':d6 P w Hw h'):Un fs [] H H h h'/\d6 P w H h'/\h'.get? d=some o:=by
 have fz:∀b ob,Hw b=some (.bz ob bF)->∀o,h.get? b=some o->h'.get? b=some o:=λb ob e o q=>by
  have h1:h.get? b=some ob:=(k b _ e).1
  have h2:h'.get? b=some ob:=(k' b _ e).1
  rw [h1] at q;cases q;exact h2
 have st:∀c v,Hw c=some v->(∀ob u,v≠.bz ob u)->H c=some v:=λc v e n=>by
  cases q:H c with
  |none=>obtain⟨ob,rfl⟩:=z.new c v e q;exact absurd rfl (n ob _)
  |some u=>
   by_cases hc:c=d
   ·subst hc;rw [z.at_] at e;cases e;exact absurd rfl (n _ _)
   ·rw [z.same c u q hc] at e;exact e
 refine⟨⟨λb ob e n hb hx=>?_,λb ob e n hb hx=>?_,λb ob e n hx=>n,λb ob e hx=>u.there b ob e hx,λ_ _ e=>e,λ_ _ _ e=>e,λb ps e=>⟨#[],by simpa using e⟩⟩,λb v e=>?_,(k' d _ z.at_).1⟩
 ·cases q:Hw b with
  |none=>exact u.keep b ob e q hb hx
  |some v=>obtain⟨o',rfl⟩:=z.new b v q n;exact fz b o' q ob e
 ·cases q:Hw b with
  |none=>exact u.slot b ob e q hb hx
  |some v=>obtain⟨o',rfl⟩:=z.new b v q n;exact⟨ob.slots,fz b o' q ob e⟩
 ·have go:∀v,bO P w Hw h' b v->bO P w H h' b v:=λv y=>y.dZ (λ_ _ _ r=>r) (λc r=>st c _ r (λ_ _ z=>nomatch z)) λc xs r=>st c _ r (λ_ _ z=>nomatch z)
  by_cases hb:b=d
  ·subst hb;rw [z.dt] at e;cases e;exact go _ (k' b _ z.at_).2
  ·exact go v (k' b v (z.same b v e hb))
end
structure uz(p y:Str)(params:Arguments)(body:Expr)(scope:Scope):Prop where
 body:∃q1 q2 q3 q4 q5 j,body=.Subscript (.Subscript (.Name y q1) (.Name p q2) q3) (.Constant (.int 0) j q4) q5
 sc:tx [p] [y] scope
 d1:(p==("__debug__":Str))=false
 d2:(p==("__classdict__":Str))=false
 d3:(y==("__debug__":Str))=false
 d4:(y==("__classdict__":Str))=false
section
variable{X:Cx}{aa:List (Addr×Obj)}{σ:St}{H:Hp}{s:Shared}{d f c c' b:Addr}{o oc:Obj}{au:List (List Key×V)}{kk:Nat}{p y qual:Str}{params:Arguments}{body:Expr}{scope:Scope}{pm fy:Value}{cQ:Array Value}{ct:Tok}{k:List Key}{q:Addr}{n:Int}{r:List V}{A:Around}{E:Value->Shared->Prop}
def zj(hA:A=X.A.in1)(L:uz p y params body scope)(hr:du (kk+1) X.A)(I:Inv X aa σ H s)(hd:H d=some (.dT au))(ho:s.heap.get? d=some o)
 (dX:X.env.cells.lookup y=some c) (Oo:X.s₀.heap.objs.size<=c) (SW:s.heap.IsCell c (some (.ref d)))
 (hf:H f=some (.bz (PySem.W.kla_obj "<lambda>" qual params body scope [(y,c)] pm c' fy) bF)) (iK:H c'=some (.bz oc bF)) (uj:oc.data=.fields cQ) (FK:cQ[1]?=some (.str qual ct))
 (hb:∀u,bindArgs (PySem.W.kla_fn "<lambda>" qual params body scope [(y,c)] pm (.ref c') fy) ⟨[u],[]⟩=pure ([p].zip [u]))
 (Lz:H b=some (.tup (k.map kV))) (hv:gV au k=some (.ref q)) (hq:eV X.K H q (.int n::r)):
 wpAny (model X.prog X.w) A (call (.ref f) [.ref b]) (λu s'=>(∃t,u=.int n t)/\Inv X aa σ H s'/\s'.heap.get? d=some o) E s:=by
 subst hA;obtain⟨q1,q2,q3,q4,q5,j,rfl⟩:=L.body
 obtain⟨ocell,g1,g2⟩:=id SW
 have Fh:H c=none:=I.gY y c dX
 obtain⟨z0,lo,xs,rel,o',es,ep,h1,h2,h3,h4,h5⟩:=(show bO X.prog X.w H s.heap d (.dT au) from I.aK d _ hd)
 rw [ho] at h1;cases h1;have If:Inv X aa σ (upd H d (.bz o (.dT au))) s:=by
  refine gM (h':=s.heap) (t':=s.toks) I (by rw [hd];exact True.intro) ⟨rfl,λ_ _=>rfl⟩ ⟨o,ho⟩ ⟨ho,z0,lo,xs,?_,o,es,ep,ho,h2,h3,h4,h5⟩
  exact KT.keeps (H:=H) rel λc ys ec=>by rw [af (fc ec hd (λz=>nomatch z))];exact ec
 have To:c≠d:=λz=>by rw [z,hd] at Fh;cases Fh
 have SU:f≠d:=fc hf hd (λz=>nomatch z)
 have PF:c'≠d:=fc iK hd (λz=>nomatch z)
 have Ea:uY [(c,ocell)] (upd H d (.bz o (.dT au))) (eA X.stack) s.heap:=by
  have lk:∀b o,List.lookup b [(c,ocell)]=some o->b=c/\o=ocell:=λb o e=>by
   rw [zz5] at e;cases yY:b==c with
   |true=>rw [yY] at e;cases e;exact⟨zzy.mp yY,rfl⟩
   |false=>rw [yY] at e;cases e
  refine⟨λb o e=>?_,λb o e=>?_,λb o e=>?_⟩
  ·obtain⟨rfl,rfl⟩:=lk b o e;exact g1
  ·obtain⟨rfl,rfl⟩:=lk b o e;rw [af To];exact Fh
  ·obtain⟨rfl,rfl⟩:=lk b o e
   intro Qy;rcases zzm.mp (I.ij b Qy) with z|z
   ·exact I.Fi y b dX z
   ·obtain⟨_,o',h4,_⟩:=I.ok.gq.mem z
    exact absurd (zzO h4) (Nat.not_lt.mpr Oo)
 have zc:List.lookup c [(c,ocell)]=some ocell:=by simp
 have N8:∀x c1,List.lookup x [(y,c)]=some c1->x=y/\c1=c:=λx c1 e=>by
  rw [zz5] at e;cases hx:x==y with
  |true=>rw [hx] at e;cases e;exact⟨zzy.mp hx,rfl⟩
  |false=>rw [hx] at e;cases e
 have zb:∀b o,List.lookup b [(c,ocell)]=some o->X.base.get? b=none:=λb o e=>by
  rw [zz5] at e;cases yY:b==c with
  |true=>
   have:=zzy.mp yY;subst this
   cases y':X.base.get? b with
   |none=>rfl
   |some o'=>exact absurd (zzO (I.ok.bs b o' y').1) (Nat.not_lt.mpr Oo)
  |false=>rw [yY] at e;cases e
 have Uv:eV X.K (upd H d (.bz o (.dT au))) q (.int n::r):=eV.iL hq (λb hb=>af hb) hd
 have TJ:upd H d (.bz o (.dT au)) b=some (.tup (k.map kV)):=by rw [af (fc Lz hd (λz=>nomatch z))];exact Lz
 have wd:zP H (aM [(c,ocell)] (upd H d (.bz o (.dT au)))) d o au:=by
  have nz:∀b u,H b=some u->List.lookup b [(c,ocell)]=none:=λb u e=>by
   rw [zz5];cases yY:b==c with
   |true=>have:=zzy.mp yY;subst this;rw [Fh] at e;cases e
   |false=>rfl
  refine⟨by rw [ai (nz d _ hd),aq],hd,λb u e hb=>by rw [ai (nz b u e),af hb];exact e,λb u e n=>?_⟩
  cases hz:List.lookup b [(c,ocell)] with
  |some ob=>rw [aZ hz] at e;cases e;exact⟨_,rfl⟩
  |none=>
   rw [ai hz] at e;have UT:b≠d:=λz=>by rw [z,hd] at n;cases n
   rw [af UT,n] at e;cases e
 refine wpAny_call (codeAny_mono (wZ (k:=kk) (E:=λ_ _ _=>False) (Q:=λv H'=>v=.int n/\H'=aM [(c,ocell)] (upd H d (.bz o (.dT au)))) (Z:=[(c,ocell)]) (ws:=[.ref d]) (vs:=[.ref b]) (us:=[.ref b])
  (t:=Kz (Mh X.K) (FR (BZ 1) (BZ 0)) (tC (.int 0))) L.sc hr.in1 If.yc.in1 Ea zb ?fo ?co uj FK (hb _) (.cons rfl .nil) rfl rfl ?Kw ?inj ?cz ?cells ?ht ?hq) λrr s' O5=>?_)
 case fo=>
  have z:upd H d (.bz o (.dT au)) f=H f:=af SU
  exact(If.aK f _ (z.trans hf)).1
 case co=>
  have z:upd H d (.bz o (.dT au)) c'=some (.bz oc bF):=by rw [af PF];exact iK
  exact(If.aK c' _ z).1
 case Kw=>intro y' hy';exact⟨c,by rw [zzi.mp hy'];simp⟩
 case inj=>intro x y' c1 e1 e2;rw [(N8 x c1 e1).1,(N8 y' c1 e2).1]
 case cz=>intro x c1 e;obtain⟨rfl,rfl⟩:=N8 x c1 e;exact⟨ocell,_,zc,g2⟩
 case cells=>
  intro i y' c1 e1 e2 v e3;obtain⟨rfl,rfl⟩:=N8 y' c1 e2
  cases i with
  |zero=>cases e3;exact⟨.ref d,rfl,ocell,g1,g2⟩
  |succ i=>cases e3
 case ht=>
  refine Gr y9 (Ds ?_ (fu (i:=1) rfl (.inr (.inr (L.sc.OH y (by simp)))) L.d3 L.d4) (fu (i:=0) rfl (.inl (L.sc.par p (by simp))) L.d1 L.d2) λ_ _=>rfl) zL λ_ _=>rfl
  have:=hr.un
  show X.A.units+1+3+1<cLine
  omega
 case hq=>
  refine⟨_,rfl,_,rfl,d,.ref q,rfl,?_,?_⟩
  ·exact .inr ⟨au,k,b,.inr ⟨o,aq⟩,rfl,TJ,hv.symm⟩
  ·exact⟨q,.int n::r,0,.int n,rfl,rfl,Uv,by simp [tG,JY],λ_=>⟨rfl,rfl⟩⟩
 ·cases rr with
  |error e=>
   obtain⟨a,C,t,vs,H',B,e1,F⟩:=O5
   exact(F.ends).elim
  |ok fl=>
   cases fl with
   |ret u=>
    obtain⟨v,H',os,bare,un,aK,rv,rfl,rfl⟩:=O5
    obtain⟨t,rfl⟩:=rv
    obtain⟨u1,k1,NY⟩:=wd.back un (Ea.aK If.aK) aK
    obtain⟨hh,g,dr,tk,os'⟩:=s'
    obtain rfl:os'=s.os:=os
    exact⟨⟨t,rfl⟩,I.call (h':=hh) (g':=g) (d':=dr) (t':=tk) (ch:=[]) u1 k1 bare (λb z=>absurd z (by simp)),NY⟩
   |_=>exact O5.elim
end
structure KM(X:Cx)(σ:St)(H:Hp)(kk:Nat)(d f:Addr)(au:List (List Key×V))(cf:Nat->Int):Prop where
 room:du (kk+1) X.A
 dt:H d=some (.dT au)
 lam:∃(p y:Str) (params:Arguments) (body:Expr) (scope:Scope) (qual:Str) (c c':Addr) (oc:Obj) (cQ:Array Value) (ct:Tok) (pm fy:Value) (iy:Nat),uz p y params body scope/\X.env.cells.lookup y=some c/\X.s₀.heap.objs.size<=c/\H f=some (.bz (PySem.W.kla_obj "<lambda>" qual params body scope [(y,c)] pm c' fy) bF)/\
  H c'=some (.bz oc bF)/\oc.data=.fields cQ/\cQ[1]?=some (.str qual ct)/\(∀u,bindArgs (PySem.W.kla_fn "<lambda>" qual params body scope [(y,c)] pm (.ref c') fy) ⟨[u],[]⟩=pure ([p].zip [u]))/\
  X.N[iy]?=some y/\σ[iy]?=some (some (V.ref d))/\X.env.scope.names.lookup y=some .cell
 cost:∀(i:Nat) k v,au[i]?=some (k,v)->∃q r,v=V.ref q/\eV X.K H q (.int (cf i)::r)
def Fy{au:List (List Key×V)}:∀{i:Nat} {k:List Key} {v:V},(au.map (·.1)).Nodup->au[i]?=some (k,v)->gV au k=some v:=by
 induction au with
 |nil=>intro i k v _ h;simp at h
 |cons x r ih=>
  intro i k v nd h;rw [zzF,List.nodup_cons] at nd;cases i with
  |zero=>simp at h;subst h;exact gb rfl
  |succ i=>
   simp at h;rw [f7 λe=>nd.1 (e▸zzx.mpr ⟨(k,v),zzD h,rfl⟩)]
   exact ih nd.2 h
section
variable{X:Cx}{aa:List (Addr×Obj)}{σ:St}{H:Hp}{s:Shared}{d f it S:Addr}{o:Obj}{es:Array DictEntry}{ep:Nat}{au:List (List Key×V)}{kk:Nat}{cf:Nat->Int}{R:Result->Shared->Prop}
def DM(I:Inv X aa σ H s)(e:H d=some (.dT au)):(d==sysModules)=false/\(au.map (·.1)).Nodup/\∃o es ep,s.heap.get? d=some o/\o.ExactDict/\o.data=.dict es ep/\es.size=au.length/\∀(i:Nat) (h:i<es.size),∃b k v,es[i].key=.ref b/\au[i]?=some (k,v)/\H b=some (.tup (k.map kV)):=by
 obtain⟨lo,nd,o,es,ep,h1,h2,h3,hl,hk⟩:=zG (I.aK d _ e)
 exact⟨lo,nd,o,es,ep,h1,h2,h3,hl,λi hi=>let⟨b,k,v,e1,e2,e3,_⟩:=hk i hi;⟨b,k,v,e1,e2,e3⟩⟩
def fe.pin{b:Addr}{ob:Obj}(h:fe X aa H b)(e:s.heap.get? b=some ob)(n:∀v,ob.data≠.cell v):s.heap.get? b=some ob/\H b=none/\b≠X.env.locals/\b∉X.fs/\∀v,ob.data≠.cell v:=⟨e,h.1,h.2.1,h.2.2.1,n⟩
def Cf(M:KM X σ H kk d f au cf)(I:Inv X aa σ H s)(fi:fe X aa H it)(fS:fe X aa H S)(ho:s.heap.get? d=some o){oi oS:Obj}(hi:s.heap.get? it=some oi)(ci:∀v,oi.data≠.cell v)(hS:s.heap.get? S=some oS)(cS:∀v,oS.data≠.cell v)
 (nd:(au.map (·.1)).Nodup) {i:Nat} {k:List Key} {v:V} {b:Addr} (hk:au[i]?=some (k,v)) (hb:H b=some (.tup (k.map kV))) {E:Value->Shared->Prop} {Q:Value->Shared->Prop}
 (h:∀t s',Inv X aa σ H s'->s'.heap.get? d=some o->s'.heap.get? it=some oi->s'.heap.get? S=some oS->Q (.int (cf i) t) s'):wpAny (model X.prog X.w) X.A.in1 (call (.ref f) [.ref b]) Q E s:=by
 obtain⟨p,y,params,body,scope,qual,c,c',oc,cQ,ct,pm,fy,iy,L,l1,l2,l3,l4,l5,l6,l7,l8,l9,l10⟩:=M.lam
 obtain⟨q,r,rfl,hq⟩:=M.cost i k v hk
 have I1:Inv X ((it,oi)::(S,oS)::aa) σ H s:=by
  refine I.gN λp hp=>?_
  rcases zzm.mp hp with rfl|hp
  ·exact fi.pin hi ci
  ·rcases zzm.mp hp with rfl|hp
   ·exact fS.pin hS cS
   ·exact I.pin p (zzR _ hp)
 have cell:s.heap.IsCell c (some (.ref d)):=by
  obtain⟨m,_,hloc⟩:=I.loc
  obtain⟨u,ru,lk⟩:=hloc iy y (.ref d) l8 l9 (.inr (.inl l10))
  cases(show u=Value.ref d from ru);rcases lk with⟨z,_⟩|⟨_,c2,hc2,z⟩
  ·have z2:X.env.scope.names.lookup y=some .local:=z
   rw [l10] at z2;cases z2
  ·rw [l1] at hc2;cases hc2;exact z
 refine wpAny_mono (zj (kk:=kk) rfl L M.room I1 M.dt ho l1 l2 cell l3 l4 l5 l6 l7 hb (Fy nd hk) hq) (λu s' hu=>?_) λ_ _ z=>z
 obtain⟨⟨t,rfl⟩,J,hd⟩:=hu
 refine h t s' (J.gN λp hp=>J.pin p (zzR _ (.tail _ (.tail _ hp)))) hd (J.pin (it,oi) (zzR _ (.head _))).1 (J.pin (S,oS) (zzR _ (.tail _ (.head _)))).1
def kR{h:Heap}{c:Nat}{xs ys:Array Value}(e:h.get? S=some (seqObj "list" xs c)):∃c',(h.update S (Obj.mapSeq λ_=>ys)).get? S=some (seqObj "list" ys c'):=⟨_,get?_update_seq e λ_=>ys⟩
def lQ{xs:Array Value}{c:Nat}:∀v,(seqObj "list" xs c).data≠.cell v:=λv z=>nomatch z
def zS(M:KM X σ H kk d f au cf)(hh:X.A.handled=none)(hd:o.data=.dict es ep)(hl:es.size=au.length)(wR:∀(i:Nat) (h:i<es.size),∃b k v,es[i].key=.ref b/\au[i]?=some (k,v)/\H b=some (.tup (k.map kV)))(nd:(au.map (·.1)).Nodup)
 (fi:fe X aa H it) (fS:fe X aa H S) (nS:S≠it) (hR:∀(i:Nat) (h:i<es.size) s',(∀j,j<es.size->cf i<=cf j/\(j<i->cf i<cf j))->Inv X aa σ H s'->R (.ok (.ret es[i].key)) s'):
 ∀(r j i:Nat) (s:Shared) (t:Tok) (c:Nat) (hi:i<es.size),es.size-(j+1)=r->j+1<=es.size->Inv X aa σ H s->s.heap.get? d=some o->s.heap.IsKeyIter it d (j+1) es.size ep->s.heap.get? S=some (seqObj "list" #[es[i].key,.int (cf i) t] c)->i<=j->(∀j',j'<=j->cf i<=cf j'/\(j'<i->cf i<cf j'))->
  codeAny (model X.prog X.w) X.A (.builtin "min.loop" ⟨[.ref it,.ref f,.ref S],[]⟩) R s:=by
 have name:(toString "min"++toString ".loop":String)="min.loop":=by decide
 have OL:S≠d:=λz=>by have:=fS.1;rw [z,M.dt] at this;cases this
 have Qk:it≠d:=λz=>by have:=fi.1;rw [z,M.dt] at this;cases this
 intro r
 induction r with
 |zero=>
  intro j i s t c hi hr hj I ho st hS vc best;refine codeAny_builtin PySem.F.entry_min_loop ?_;rw [zz7 PySem.F.plain_min_loop _];show wpAny _ X.A.in1 (seqItems? (.ref S)>>=λz=>_) _ _ _
  refine zzA (wpAny_seqItems hS rfl ?_);show wpAny _ X.A.in1 (tryCatch (pyNext (.ref it)) _>>=λz=>_) _ _ _
  refine zzA (wpAny_tryCatch (uc hh st ho hd (by omega) λh' eb=>?_))
  have qH:=eb S _ nS hS
  have I1:=I.turned (h':=h') (t':=s.toks) (λb o hb e=>eb b o hb e) fi.1 fi.2.1 fi.2.2.2.1 fi.2.2.2.2.1 fi.2.2.2.2.2
  show wpAny _ X.A.in1 (updateSeq S (λ_=>#[])>>=λz=>_) _ _ _
  refine zzA (wpAny_updateSeq qH rfl (zzA (wpAny_letGo (zzG ?_))));have s1:=zzu h' S (Obj.mapSeq λ_=>(#[]:Array Value))
  exact hR i hi _ (λj' Bi=>best j' (by omega)) (I1.turned (t':=s.toks) (λb o hb e=>(s1.2 b hb).trans e) fS.1 fS.2.1 fS.2.2.2.1 fS.2.2.2.2.1 fS.2.2.2.2.2)
 |succ r ih=>
  intro j i s t c hi hr hj I ho st hS vc best;have bH:j+1<es.size:=by omega
  refine codeAny_builtin PySem.F.entry_min_loop ?_;rw [zz7 PySem.F.plain_min_loop _];show wpAny _ X.A.in1 (seqItems? (.ref S)>>=λz=>_) _ _ _
  refine zzA (wpAny_seqItems hS rfl ?_);show wpAny _ X.A.in1 (tryCatch (pyNext (.ref it)) _>>=λz=>_) _ _ _
  refine zzA (wpAny_tryCatch (kA st ho hd bH λh' fK sb=>?_));have qH:=(sb.2 S nS).trans hS
  have iF:=(sb.2 d (Ne.symm Qk)).trans ho
  have I1:=I.turned (h':=h') (t':=s.toks) (λb o hb e=>(sb.2 b hb).trans e) fi.1 fi.2.1 fi.2.2.2.1 fi.2.2.2.2.1 fi.2.2.2.2.2
  obtain⟨oi,gi,gc,gd⟩:=id fK
  obtain⟨b,k,v,e1,e2,e3⟩:=wR (j+1) bH
  rw [e1];show wpAny _ X.A.in1 (tryCatch (holding [Value.ref b] (call (.ref f) [Value.ref b])) _>>=λz=>_) _ _ _
  refine zzA (wpAny_tryCatch (wpAny_holding (Cf M I1 fi fS iF gi (λv z=>by rw [gd] at z;cases z) qH lQ nd e2 e3 λt2 s2 I2 NI EC K1=>?_)))
  have LH:s2.heap.IsKeyIter it d (j+1+1) es.size ep:=⟨oi,EC,gc,gd⟩
  show wpAny _ X.A.in1 (tryCatch (holding [Value.ref b,.int (cf (j+1)) t2] (richCompare .Lt (.int (cf (j+1)) t2) (.int (cf i) t)>>=λz=>_)) _>>=λz=>_) _ _ _
  refine zzA (wpAny_tryCatch (wpAny_holding (zzA (CmpOf.ints_lt (prog:=X.prog) (w:=X.w) (A:=X.A.in1) (P:=λi v=>∃t,v=.int (cf i) t) cf (λi v h=>h) (j+1) i _ _ _ _ _ ⟨t2,rfl⟩ ⟨t,rfl⟩ ?_))))
  refine zzA (wpAny_holding (wpAny_truthy_bool (zzA (wpAny_letGo (zzG ?_)))))
  by_cases m9:cf (j+1)<cf i
  ·obtain⟨c2,hc2⟩:=kR (ys:=#[Value.ref b,.int (cf (j+1)) t2]) K1
   have s1:=zzu s2.heap S (Obj.mapSeq λ_=>#[Value.ref b,.int (cf (j+1)) t2])
   simp! [m9,decide_true,if_true];refine zzA (wpAny_updateSeq K1 rfl (zzA (wpAny_letGo ?_)));rw [name];rw [<-e1] at hc2 s1⊢;refine zzG ⟨plainId_quiet PySem.F.plain_min_loop _,ih (j+1) (j+1) _ t2 c2 bH (by omega) bH (I2.turned (t':=s2.toks) (λb o hb e=>(s1.2 b hb).trans e) fS.1 fS.2.1 fS.2.2.2.1 fS.2.2.2.2.1 fS.2.2.2.2.2) ?_ ?_ ?_ (zzE _) λj' Bi=>?_⟩
   ·exact(s1.2 d (Ne.symm OL)).trans NI
   ·exact⟨oi,(s1.2 it (Ne.symm nS)).trans EC,gc,gd⟩
   ·exact hc2
   ·by_cases e:j'=j+1
    ·subst e;exact⟨by omega,λ_=>by omega⟩
    ·have:=best j' (by omega)
     exact⟨by omega,λ_=>by omega⟩
  ·simp! [m9,decide_false,zze,if_false];refine zzA (wpAny_letGo ?_);rw [name];refine zzG ⟨plainId_quiet PySem.F.plain_min_loop _,ih (j+1) i _ t c hi (by omega) bH I2 NI LH K1 (by omega) λj' Bi=>?_⟩
   by_cases e:j'=j+1
   ·subst e;exact⟨by omega,λ_=>by omega⟩
   ·exact best j' (by omega)
def xn(M:KM X σ H kk d f au cf)(ff:0<au.length)(I:Inv X aa σ H s){Q:VK}
 (q:∀i k v b,au[i]?=some (k,v)->H b=some (.tup (k.map kV))->(∀j,j<au.length->cf i<=cf j/\(j<i->cf i<cf j))->Q (.ref b) H):wpAny (model X.prog X.w) X.A (call (.builtin "min") [.ref d] [(Str.ofString "key",.ref f)]) (EP X aa σ Q) X.xe s:=by
 have name:(toString "min"++toString ".loop":String)="min.loop":=by decide
 have hh:X.A.handled=none:=M.room.hd
 obtain⟨lo,nd,o,es,ep,ho,hx,hd,hl,wR⟩:=DM I M.dt
 have fin:∀(i:Nat) (h:i<es.size) s',(∀j,j<es.size->cf i<=cf j/\(j<i->cf i<cf j))->Inv X aa σ H s'->EP X aa σ Q es[i].key s':=λi h s' b J=>by
  obtain⟨a,k,v,e1,e2,e3⟩:=wR i h
  rw [e1];exact⟨.ref a,H,J,rfl,q i k v a e2 e3 λj hj=>b j (by omega)⟩
 refine kmk_tree PySem.F.kind_min PySem.F.plain_min PySem.F.entry_min (kmk_min_key _ _) ?_;show wpAny _ X.A.in1 (Builtin.Builtins.bindParams "min" ["key","default"] 0 ⟨[],[(Str.ofString "key",.ref f)]⟩>>=λz=>_) _ _ s
 refine zzA (wpAny_of_eq (show Builtin.Builtins.bindParams "min" ["key","default"] 0 ⟨[],[(Str.ofString "key",.ref f)]⟩=pure [some (.ref f),none] from rfl) (zzA (zzG ?_)));refine zzA (oY lo ho hx hd (zzA (wpAny_newList ?_ (Nat.zero_le _))));rw [name];generalize hit:(zz9 s)=it
 generalize hSS:(s.heap.push {cls:=.type "dict_keyiterator",data:=.fields #[.ref d,.int 0 0,.int es.size 0,.int ep 0]}).objs.size=S
 have eS:S=it+1:=by rw [<-hSS,<-hit];exact size_push' ..
 have nS:S≠it:=by omega
 have hH:(zz9 s)<=S:=by omega
 have fi:fe X aa H it:=by rw [<-hit];exact I.mP (zzE _) (I.aK.fresh (zzE _))
 have fS:fe X aa H S:=I.mP hH (I.aK.fresh hH)
 have keep:∀b ob,s.heap.get? b=some ob->((s.heap.push {cls:=.type "dict_keyiterator",data:=.fields #[.ref d,.int 0 0,.int es.size 0,.int ep 0]}).push (seqObj "list" #[] 0)).get? b=some ob:=λb ob e=>zzB _ (zzB _ e)
 have I1:=I.kept (t':=s.toks) keep
 have gI:((s.heap.push {cls:=.type "dict_keyiterator",data:=.fields #[.ref d,.int 0 0,.int es.size 0,.int ep 0]}).push (seqObj "list" #[] 0)).get? it=some {cls:=.type "dict_keyiterator",data:=.fields #[.ref d,.int 0 0,.int es.size 0,.int ep 0]}:=by
  rw [<-hit];exact zzB _ (zzX _ rfl)
 have gS:((s.heap.push {cls:=.type "dict_keyiterator",data:=.fields #[.ref d,.int 0 0,.int es.size 0,.int ep 0]}).push (seqObj "list" #[] 0)).get? S=some (seqObj "list" #[] 0):=by
  rw [<-hSS];exact zzX _ rfl
 have OL:S≠d:=λz=>by have:=fS.1;rw [z,M.dt] at this;cases this
 have Qk:it≠d:=λz=>by have:=fi.1;rw [z,M.dt] at this;cases this
 refine zzG ⟨plainId_quiet PySem.F.plain_min_loop _,codeAny_builtin PySem.F.entry_min_loop ?_⟩;rw [zz7 PySem.F.plain_min_loop _];show wpAny _ X.A.in1 (seqItems? (.ref S)>>=λz=>_) _ _ _
 refine zzA (wpAny_seqItems gS rfl ?_);show wpAny _ X.A.in1 (tryCatch (pyNext (.ref it)) _>>=λz=>_) _ _ _
 have h0:0<es.size:=by omega
 refine zzA (wpAny_tryCatch (kA (i:=0) ⟨_,gI,rfl,rfl⟩ (keep _ _ ho) hd h0 λh' fK sb=>?_))
 have qH:=(sb.2 S nS).trans gS
 have iF:=(sb.2 d (Ne.symm Qk)).trans (keep _ _ ho)
 have I2:=I1.turned (h':=h') (t':=s.toks) (λb o hb e=>(sb.2 b hb).trans e) fi.1 fi.2.1 fi.2.2.2.1 fi.2.2.2.2.1 fi.2.2.2.2.2
 obtain⟨oi,gi,gc,gd⟩:=id fK
 obtain⟨b,k,v,e1,e2,e3⟩:=wR 0 h0
 rw [e1];show wpAny _ X.A.in1 (tryCatch (holding [Value.ref b] (call (.ref f) [Value.ref b])) _>>=λz=>_) _ _ _
 refine zzA (wpAny_tryCatch (wpAny_holding (Cf M I2 fi fS iF gi (λv z=>by rw [gd] at z;cases z) qH lQ nd e2 e3 λt2 s2 I3 NI EC K1=>?_)))
 obtain⟨c2,hc2⟩:=kR (ys:=#[Value.ref b,.int (cf 0) t2]) K1
 have s1:=zzu s2.heap S (Obj.mapSeq λ_=>#[Value.ref b,.int (cf 0) t2])
 show wpAny _ X.A.in1 (updateSeq S (λ_=>#[Value.ref b,.int (cf 0) t2])>>=λz=>_) _ _ _
 refine zzA (wpAny_updateSeq K1 rfl ?_);rw [name];rw [<-e1] at hc2 s1⊢;refine zzG ⟨plainId_quiet PySem.F.plain_min_loop _,zS M hh hd hl wR nd fi fS nS fin _ 0 0 _ t2 c2 h0 rfl h0 (I3.turned (t':=s2.toks) (λb o hb e=>(s1.2 b hb).trans e) fS.1 fS.2.1 fS.2.2.2.1 fS.2.2.2.2.1 fS.2.2.2.2.2) ((s1.2 d (Ne.symm OL)).trans NI) ⟨oi,(s1.2 it (Ne.symm nS)).trans EC,gc,gd⟩ hc2 (zzE _) λj' Bi=>?_⟩
 have e:j'=0:=by omega
 subst e;exact⟨by omega,λh=>absurd h (Nat.lt_irrefl _)⟩
end
end L2
namespace L2
open PySem PySem.Spec PyProof.Rows PySem.W
noncomputable def kL{α:Type}(dflt:α)(l:List α)(nss:List (List Int)):List α:=if l.length<2 then l else(jm l.length λi j=>HT.lexLt (nss.getD i []) (nss.getD j [])).map λi=>l.getD i dflt
section
variable{prog:Program}{w:World}{A:Around}{E:Value->Shared->Prop}{s:Shared}{a:Addr}{vs:List Value}{nss:List (List Int)}
def AA{n:Nat}{P:PySem.Fin->Shared->Prop}(ho:s.heap.get? a=some (seqObj "list" vs.toArray n))(h2:vs.length<2)
 (h:∀h' c,(∀b o,b≠a->s.heap.get? b=some o->h'.get? b=some o)->h'.get? a=some (seqObj "list" vs.toArray c)->P (.done (.ret .none)) {s with heap:=h'}):wpAny (model prog w) A (Builtin.«list.sort» ⟨[.ref a],[]⟩) P E s:=by
 have s1:=zzu s.heap a (Obj.mapSeq λ_=>(#[]:Array Value))
 obtain⟨e1,ho1⟩:=mB (ys:=(#[]:Array Value)) ho
 generalize hH:(((s.heap.update a (Obj.mapSeq λ_=>(#[]:Array Value))).push (seqObj "tuple" vs.toArray 0)).push (seqObj "list" #[] 0))=H1
 have k1:∀b o,b≠a->s.heap.get? b=some o->H1.get? b=some o:=λb o hb e=>by rw [<-hH];exact zzB _ (zzB _ ((s1.2 b hb).trans e))
 have a1:H1.get? a=some (seqObj "list" #[] e1):=by rw [<-hH];exact zzB _ (zzB _ ho1)
 rw [list_sort_plain];refine zzA (listItems_at ho rfl (zzA (listUpdate_at ho rfl ?_ (by rw [zzC,sizeLine_eq];omega) (Nat.zero_le _))));refine zzA (seqEpoch_at ho1 rfl (zzA (wpAny_newTuple ?_ (by show vs.length<=_;rw [sizeLine_eq];omega))));refine zzA (wpAny_newList ?_ (Nat.zero_le _));refine wpAny_holding ?_;show wpAny (model prog w) A _ P E {s with heap:=((s.heap.update a (Obj.mapSeq λ_=>(#[]:Array Value))).push (seqObj "tuple" vs.toArray 0)).push (seqObj "list" #[] 0)}
 rw [hH];dsimp only;have JT:vs.toArray.size<2:=by rw [zzC];omega
 rw [if_pos JT,if_pos JT];refine zzA (zzG (zzA ?_));show wpAny (model prog w) A (pure ((),SortSt.mk' general' (vs.toArray.zip vs.toArray) #[] 7 none)) _ E _;refine zzG ?_;dsimp only;have Jz:(arrOf (SortSt.mk' general' (vs.toArray.zip vs.toArray) #[] 7 none)).map (·.2)=vs.toArray:=by
  show(vs.toArray.zip vs.toArray).map (·.2)=vs.toArray
  apply Array.toList_inj.mp
  simp! [Array.toList_map,Array.toList_zip];exact List.map_snd_zip (zzE _)
 rw [Jz];have s2:=zzu H1 a (Obj.mapSeq λ_=>vs.toArray)
 obtain⟨c2,hc2⟩:=mB (ys:=vs.toArray) a1
 refine zzA (seqEpoch_at a1 rfl (zzA (listUpdate_at a1 rfl ?_ (Nat.zero_le _) (by rw [zzC,sizeLine_eq];omega))));simp! [bne_self_eq_false,zze,if_false];exact zzG (h _ c2 (λb o hb e=>(s2.2 b hb).trans (k1 b o hb e)) hc2)
def BI{n:Nat}{P:PySem.Fin->Shared->Prop}(ho:s.heap.get? a=some (seqObj "list" vs.toArray n))(Gu:vs.length<64)(rd:2<=vs.length->∀h',(∀b o,b≠a->s.heap.get? b=some o->h'.get? b=some o)->Nm prog w A E vs (λi j=>HT.lexLt (nss.getD i []) (nss.getD j [])) {s with heap:=h'})
 (h:∀h' c,(∀b o,b≠a->s.heap.get? b=some o->h'.get? b=some o)->h'.get? a=some (seqObj "list" (kL Value.none vs nss).toArray c)->P (.done (.ret .none)) {s with heap:=h'}):wpAny (model prog w) A (Builtin.«list.sort» ⟨[.ref a],[]⟩) P E s:=by
 by_cases h2:vs.length<2
 ·exact AA ho h2 λh' c k e=>h h' c k (by unfold kL;rw [if_pos h2];exact e)
 ·exact yS ho (by omega) Gu (rd (by omega)) λh' c k e=>h h' c k (by unfold kL;rw [if_neg h2];exact e)
def B0{d:Addr}{o:Obj}{es:Array DictEntry}{ep:Nat}(lo:(d==sysModules)=false)(hx:o.ExactDict)(hd:o.data=.dict es ep):KdlSrc prog w "dict" d d es.size (λi v=>∃h:i<es.size,v=es[i].key) (λh=>h.get? d=some o) where
 type:=λs e=>⟨o,e,hx.1⟩
 there:=λh e=>⟨zzO e,zzO e⟩
 keep:=λh h' e k=>k d (.inl rfl) o e
 notList:=by decide
 notTuple:=by decide
 hint:=λA E s Q e q=>kdl_hint_dict ⟨o,e,hx.1⟩ q
 iter:=λA s hh e=>⟨_,λi h=>h.IsKeyIter (zz9 s) d i es.size ep/\h.get? d=some o,(λE Q q=>oY lo e hx hd q),{
  sub:=λb hb=>by simp at hb;simp [hb]
  frame:=λ_ _ _ st hk=>⟨st.1.at λo e=>hk _ (by simp) o e,hk d (by simp) o st.2⟩
  item:=λi s' Q E hi st hQ=>kA st.1 st.2 hd hi λh' fK sb=>hQ _ h' s'.toks ⟨hi,rfl⟩ ⟨fK,(sb.2 d (zzb (zzO e))).trans st.2⟩ λb o hb z=>(sb.2 b (λy=>hb (by simp [y]))).trans z
  done:=λs' Q E st hQ=>uc hh st.1 st.2 hd (zzE _) λh' eb=>hQ h' s'.toks λb o hb z=>eb b o (λy=>hb (by simp [y])) z
  self:=λ_ _ _ _ st hQ=>wpAny_pyIter_keyiter st.1 hQ},⟨⟨_,zzX _ rfl,rfl,rfl⟩,zzB _ e⟩⟩
def sd{Q:List Value->Shared->Prop}{T:String}{r d:Addr}{n:Nat}{P:Nat->Value->Prop}{OK:Heap->Prop}(K:KdlSrc prog w T r d n P OK)(hh:A.handled=none)(aK:OK s.heap)(hn:n<=sizeLine)
 (hQ:∀h' tk (acc:Array Value),(∀b o,s.heap.get? b=some o->h'.get? b=some o)->ItemsOf P acc n->Q acc.toList {s with heap:=h',toks:=tk}):wpAny (model prog w) A (collect (.ref r)) Q E s:=by
 have hS:(s.heap.push (seqObj "list" #[] 0)).get? (zz9 s)=some {cls:=.type "list",data:=.seq #[] 0}:=zzX _ rfl
 have bH:=K.there _ aK
 have main:codeAny (model prog w) A (.builtin "proto.collect" ⟨[.ref r],[]⟩) (λres s'=>∃h' tk o6 c',res=.ok (.ret (.ref (zz9 s)))/\s'={s with heap:=h',toks:=tk}/\(∀b o,s.heap.get? b=some o->h'.get? b=some o)/\h'.get? (zz9 s)=some {cls:=.type "list",dict:=none,data:=.seq o6 c',slots:=#[]}/\ItemsOf P o6 n) s:=by
  refine codeAny_builtin F.entry_proto_collect ?_;rw [zz7 F.plain_proto_collect _];show wpAny _ A.in1 (newList []>>=λl=>again (.builtin "list.__iadd__" ⟨[l,.ref r],[]⟩)) _ _ s
  refine zzA (wpAny_newList (zzG ⟨plainId_quiet F.plain_list_iadd _,codeAny_builtin F.entry_list_iadd ?_⟩) (Nat.zero_le _));rw [zz7 F.plain_list_iadd _];exact kdl_extend (R:=λres s'=>∃h' tk o6 c',res=.ok (.ret (.ref (zz9 s)))/\s'={s with heap:=h',toks:=tk}/\(∀b o,s.heap.get? b=some o->h'.get? b=some o)/\h'.get? (zz9 s)=some {cls:=.type "list",dict:=none,data:=.seq o6 c',slots:=#[]}/\ItemsOf P o6 n)
   (s:={s with heap:=s.heap.push (seqObj "list" #[] 0)}) (A:=A) K hh (K.keep _ _ aK λb _ o e=>zzB _ e) _ (Nat.ne_of_gt bH.1) (Nat.ne_of_gt bH.2) (.ref (zz9 s)) 0 hS (λh' tk o6 c' hk qH Kr=>⟨h',tk,o6,c',rfl,rfl,λb o e=>hk b o (zzb (zzO e)) (zzB _ e),qH,Kr⟩) hn
 unfold collect;refine zzA (wpAny_runValue (codeAny_mono main λres s' hr=>?_));obtain⟨h',tk,o6,c',rfl,rfl,k1,k2,k3⟩:=hr
 show wpAny _ A (load (zz9 s)>>=λz=>_) _ _ _
 exact zzA (wpAny_load k2 (zzG (hQ h' tk o6 k1 k3)))
end
abbrev kZ(K:zz8)(H:Hp)(vs:List V)(nss:List (List Int)):Prop:=Paired (λv ns=>∃b,v=V.ref b/\eV K H b (ns.map V.int)/\ns≠[]) vs nss
section
variable{X:Cx}{aa:List (Addr×Obj)}{σ:St}{H:Hp}{s:Shared}{vs:List V}{us:List Value}{nss:List (List Int)}{A:Around}{E:Value->Shared->Prop}{Q:VK}
def DF(I:Inv X aa σ H s):∀{vs:List V} {us:List Value} {nss:List (List Int)},Vals vs us->kZ X.K H vs nss->mZ s.heap us nss:=by
 intro vs us nss r t
 induction t generalizing us with
 |nil=>cases r;exact .nil
 |cons h t ih=>
  obtain⟨b,rfl,hq,ff⟩:=h
  cases r with
  |cons r1 r2=>
   cases(show _=Value.ref b from r1);obtain⟨ax,rv,⟨o,g1,g2,n,g3⟩,_⟩:=I.tuple hq
   exact .cons ⟨b,o,ax.toArray,n,rfl,g1,g2,g3,by simpa using rv,ff⟩ (ih r2)
def AL(r:Vals vs us):Vals (kL V.aH vs nss) (kL Value.none us nss):=by
 have hl:=r.length
 unfold kL;rw [hl];split
 ·exact r
 ·have go:∀l:List Nat,Vals (l.map λi=>vs.getD i V.aH) (l.map λi=>us.getD i Value.none):=by
   intro l
   induction l with
   |nil=>exact .nil
   |cons i l ih=>
    refine .cons ?_ ih;dsimp only
    by_cases hi:i<vs.length
    ·obtain⟨u,hu,ru⟩:=r.get (zzg hi)
     have e1:vs.getD i V.aH=vs[i]:=by simp [hi]
     have e2:us.getD i Value.none=u:=by simp [hu]
     rw [e1,e2];exact ru
    ·have e1:vs.getD i V.aH=.aH:=by simp [Nat.le_of_not_lt hi]
     have e2:us.getD i Value.none=.none:=by simp [Nat.le_of_not_lt (hl▸hi)]
     rw [e1,e2];exact rfl
  exact go _
def Dm{α:Type}{d:α}{l:List α}:(kL d l nss).length=l.length:=by
 unfold kL;split
 ·rfl
 ·rename_i h;rw [zzl,(gC (by omega) _).length_eq,List.length_range]
def lZ(I:Inv X aa σ H s)(r:Vals vs us)(rd:2<=us.length->∀h',(∀b o,s.heap.get? b=some o->h'.get? b=some o)->Nm X.prog X.w A.in1 E us (λi j=>HT.lexLt (nss.getD i []) (nss.getD j [])) {s with heap:=h'})(Gu:vs.length<64)(q:∀p,H p=none->Q (.ref p) (upd H p (.lst (kL V.aH vs nss)))):
 wpAny (model X.prog X.w) A (newList us>>=λl=>holding [l] (call (.builtin "list.sort") [l] [])>>=λ_=>ret l) (λfin s'=>∃v,fin=.done (.ret v)/\EP X aa σ Q v s') E s:=by
 have hl:=r.length
 refine zzA (wpAny_newList ?_ (by rw [sizeLine_eq];omega));have Oi:(s.heap.push (seqObj "list" us.toArray 0)).get? (zz9 s)=some (seqObj "list" us.toArray 0):=zzX _ rfl
 have kp:∀b o,s.heap.get? b=some o->(s.heap.push (seqObj "list" us.toArray 0)).get? b=some o:=λb o e=>zzB _ e
 refine zzA (wpAny_holding (wpAny_call_entry slot_list_sort ⟨_,Oi,rfl⟩ entry_list_sort ?_ (args_list_sort _)));refine BI (s:={s with heap:=s.heap.push (seqObj "list" us.toArray 0)}) Oi (by omega) (λh2 h' k=>rd h2 h' λb o e=>k b o (zzb (zzO e)) (kp b o e)) λh' c k e=>⟨_,rfl,zzG ⟨_,rfl,.ref (zz9 s),upd H (zz9 s) (.lst (kL V.aH vs nss)),?_,rfl,q _ (I.aK.fresh (zzE _))⟩⟩
 exact I.laid (a:=(zz9 s)) (t':=s.toks) (λb o z=>k b o (zzb (zzO z)) (kp b o z)) (zzE _) ⟨by rw [Dm,sizeLine_eq];omega,_,c,AL r,e⟩
theorem sN(I:Inv X aa σ H s)(r:Vals vs us)(t:kZ X.K H vs nss)(h2:2<=us.length)(h':Heap)(k:∀b o,s.heap.get? b=some o->h'.get? b=some o):Nm X.prog X.w A E us (λi j=>HT.lexLt (nss.getD i []) (nss.getD j [])) {s with heap:=h'}:=AM (s:={s with heap:=h'}) ((DF I r t).keep λb o e _=>k b o e) h2
def yR{d:Addr}{au:List (List Key×V)}(I:Inv X aa σ H s)(e:Rd H d (.dT au)):(d==sysModules)=false/\∃o es ep,s.heap.get? d=some o/\o.ExactDict/\o.data=.dict es ep/\es.size=au.length/\∀(i:Nat) (h:i<es.size),∃b k v,es[i].key=.ref b/\au[i]?=some (k,v)/\H b=some (.tup (k.map kV))/\RelV v es[i].val:=by
 have ok:bO X.prog X.w H s.heap d (.dT au):=by
  rcases e with e|⟨o,e⟩
  ·exact I.aK d _ e
  ·exact(I.aK d _ e).2
 obtain⟨lo,_,r⟩:=zG ok
 exact⟨lo,r⟩
def CV{d:Addr}{au:List (List Key×V)}(I:Inv X aa σ H s)(e:Rd H d (.dT au)):(d==sysModules)=false/\∃o es ep,s.heap.get? d=some o/\o.ExactDict/\o.data=.dict es ep/\es.size=au.length/\∀(i:Nat) (h:i<es.size),∃b k v,es[i].key=.ref b/\au[i]?=some (k,v)/\H b=some (.tup (k.map kV)):=by
 obtain⟨lo,o,es,ep,h1,h2,h3,hl,hk⟩:=yR I e
 exact⟨lo,o,es,ep,h1,h2,h3,hl,λi hi=>let⟨b,k,v,e1,e2,e3,_⟩:=hk i hi;⟨b,k,v,e1,e2,e3⟩⟩
def Bq(I:Inv X aa σ H s){a:Addr}{au:List (List Key×V)}{nss:List (List Int)}{es:Array DictEntry}{acc:Array Value}(hk:au.map (·.1)=nss.map (·.map .inl))(oJ:es.size=au.length)(wR:∀(i:Nat) (h:i<es.size),∃b k v,es[i].key=.ref b/\au[i]?=some (k,v)/\H b=some (.tup (k.map kV)))(it:ItemsOf (λi v=>∃h:i<es.size,v=es[i].key) acc es.size):∃vs:List V,Vals vs acc.toList/\Paired (λv ns=>∃b,v=V.ref b/\H b=some (.tup (ns.map V.int))) vs nss:=by
 have hn:nss.length=au.length:=by have:=congrArg List.length hk;simpa using this.symm
 have hs:acc.toList.length=nss.length:=by rw [zzd,it.1];omega
 have ev:∀(i:Nat) v ns,acc.toList[i]?=some v->nss[i]?=some ns->∃b,v=.ref b/\H b=some (.tup (ns.map V.int)):=λi v ns e1 e2=>by
  obtain⟨hi,ev⟩:=it.2 i v (by rw [<-Array.getElem?_toList];exact e1)
  obtain⟨b,k,x,g1,g2,g3⟩:=wR i hi
  refine⟨b,ev.trans g1,?_⟩;have vk:k=ns.map .inl:=by
   have:=congrArg (λl=>l[i]?) hk
   simp! [zzQ,g2,e2,Option.map_some] at this;exact zzq this
  rw [g3,vk,List.map_map]
  rfl
 clear it wR hk I
 generalize acc.toList=us at hs ev
 clear hn
 induction nss generalizing us with
 |nil=>cases us with
  |nil=>exact⟨[],.nil,.nil⟩
  |cons u us=>simp at hs
 |cons ns nss ih=>
  cases us with
  |nil=>simp at hs
  |cons u us=>
   obtain⟨vs,h1,h2⟩:=ih us (by simpa using hs) λi v ns e1 e2=>ev (i+1) v ns (by simpa using e1) (by simpa using e2)
   obtain⟨b,rfl,hb⟩:=ev 0 u ns rfl rfl
   exact⟨.ref b::vs,.cons rfl h1,.cons ⟨b,rfl,hb⟩ h2⟩
def qo(hc:X.calm=true):bW X (.builtin "sorted") (λxs H Q=>∃a au nss,xs=[V.ref a]/\Rd H a (.dT au)/\au.map (·.1)=nss.map (·.map .inl)/\(∀ns∈nss,ns≠[])/\au.length<64/\
 ∀p vs,H p=none->Paired (λv ns=>∃b,v=V.ref b/\H b=some (.tup (ns.map V.int))) vs nss->Q (.ref p) (upd H p (.lst (kL V.aH vs nss)))):=by
 intro aa s σ H xs us Q I r h;obtain⟨a,au,nss,rfl,hl,hk,ff,Gu,q⟩:=h
 obtain⟨u,rfl,ru⟩:=vals1 r
 cases ru;obtain⟨lo,o,es,ep,h0,hx,h3,oJ,wR⟩:=CV I hl
 refine Calls.call_function_entry kind_sorted plain_sorted entry_sorted (args_sorted1 _) ?_;unfold Builtin.«sorted»;refine zzA (m:=checkCount "sorted" 1 1 _) (zzG (zzA (sd (B0 lo hx h3) (show X.A.in1.handled=none from I.ok.hd hc) h0 (by rw [sizeLine_eq];omega) λh' tk acc kp it=>?_)))
 have I1:=I.kept (t':=tk) (h':=h') kp
 obtain⟨vs,rv,pv⟩:=Bq I1 (a:=a) hk oJ wR it
 have hlen:vs.length<64:=by have:=Paired.length pv;have h9:=congrArg List.length hk;simp at h9;omega
 refine lZ I1 rv (sN I1 rv ?_) hlen λp hp=>q p vs hp pv
 clear hlen rv hk Gu q
 induction pv with
 |nil=>exact .nil
 |cons h t ih=>
  obtain⟨b,rfl,hb⟩:=h
  exact .cons ⟨b,rfl,.inl (.inl hb),ff _ (.head _)⟩ (ih λns hm=>ff ns (.tail _ hm))
end
end L2
namespace L2
open PySem PySem.Spec PyProof.Rows
end L2
namespace Ci
open PySem L2
def bG{p:Prop}(h:false=true):p:=absurd h zzf
inductive PV where
 |aH|bl (b:Bool)|int (i:Int)|str (z:Str)
 |tup (xs:List PV)|lst (xs:List PV)
 |exc (c:Str)
 |bo (ks:List (List Int)) (vs:List PV)
 deriving Inhabited
structure Wd where
 K:zz8
 mg:Str->Option Value
 xs:List Str
 ts:List (Addr×Str):=[]
def qJ(K:zz8)(H:Hp)(a:Addr)(vs:List V):Prop:=
 Rd H a (.lst vs)\/∃(ax:Array Value) (n:Nat),K.lookup a=some {cls:=.type "list",data:=.seq ax n}/\ax.size<=sizeLine/\Vals vs ax.toList
def KC(K:zz8)(G:Hp)(a:Addr)(vs:List V):Prop:=G a=some (.tup vs)\/eV K G a vs/\∃z,V.str z∈vs
theorem KC.sq{K:zz8}{G:Hp}{a:Addr}{vs:List V}:KC K G a vs->eV K G a vs
 |.inl h=>.inl (.inl h)
 |.inr h=>h.1
noncomputable def kz(ks:List (List Int))(us:List V):List (List Key×V):=(ks.map λk=>k.map Sum.inl).zip us
mutual
def Rep(W:Wd)(G:Hp):PV->V->Prop
 |.aH,v=>v=.aH
 |.bl b,v=>v=.bl b
 |.int i,v=>v=.int i
 |.str z,v=>v=.str z
 |.tup xs,v=>∃a vs,v=.ref a/\KC W.K G a vs/\aj W G xs vs
 |.lst xs,v=>∃a vs,v=.ref a/\qJ W.K G a vs/\aj W G xs vs
 |.exc c,v=>∃a C,v=.ref a/\c∈W.xs/\W.mg c=some (.ref C)/\G a=some (Mq a C)
 |.bo ks vs,v=>∃a o us,v=.ref a/\ks.length=us.length/\G a=some (.bz o (.dT (kz ks us)))/\aj W G vs us
def aj(W:Wd)(G:Hp):List PV->List V->Prop
 |[],vs=>vs=[]
 |p::ps,vs=>∃v r,vs=v::r/\Rep W G p v/\aj W G ps r
end
def az.tup{K:zz8}{H H':Hp}{a:Addr}{xs:List V}(e:az H H')(h:eV K H a xs):eV K H' a xs:=by
 rcases h with(h|⟨o,h⟩)|h
 ·exact .inl (.inl (e _ _ h))
 ·exact .inl (.inr ⟨o,e _ _ h⟩)
 ·exact .inr h
def az.tp{K:zz8}{H H':Hp}{a:Addr}{xs:List V}(e:az H H')(h:KC K H a xs):KC K H' a xs:=h.elim (λz=>.inl (e _ _ z)) λz=>.inr ⟨az.tup e z.1,z.2⟩
def az.rd{H H':Hp}{a:Addr}{u:HO}(e:az H H')(h:Rd H a u):Rd H' a u:=by
 rcases h with h|⟨o,h⟩
 ·exact .inl (e _ _ h)
 ·exact .inr ⟨o,e _ _ h⟩
def az.ls{K:zz8}{H H':Hp}{a:Addr}{vs:List V}(e:az H H')(h:qJ K H a vs):qJ K H' a vs:=h.elim (λz=>.inl (az.rd e z)) .inr
section
variable{W:Wd}{G G':Hp}
mutual
theorem Rep.same(s:az G G'):∀(p:PV) {v:V},Rep W G p v->Rep W G' p v
 |.aH,_,h=>by simpa only [Rep] using h
 |.bl b,_,h=>by simpa only [Rep] using h
 |.int i,_,h=>by simpa only [Rep] using h
 |.str z,_,h=>by simpa only [Rep] using h
 |.tup xs,_,h=>by
  simp! [Rep] at h⊢;obtain⟨a,vs,e,q,l⟩:=h
  exact⟨a,vs,e,az.tp s q,aj.same s xs l⟩
 |.lst xs,_,h=>by
  simp! [Rep] at h⊢;obtain⟨a,vs,e,q,l⟩:=h
  exact⟨a,vs,e,az.ls s q,aj.same s xs l⟩
 |.exc c,_,h=>by
  simp! [Rep] at h⊢;obtain⟨a,C,e,x,m,q⟩:=h
  exact⟨a,C,e,x,m,s _ _ q⟩
 |.bo ks vs,_,h=>by
  simp! [Rep] at h⊢;obtain⟨a,o,us,e,n,m,l⟩:=h
  exact⟨a,o,us,e,n,s _ _ m,aj.same s vs l⟩
theorem aj.same(s:az G G'):∀(ps:List PV) {vs:List V},aj W G ps vs->aj W G' ps vs
 |[],_,h=>by simpa only [aj] using h
 |p::ps,_,h=>by
  simp! [aj] at h⊢;obtain⟨v,r,e,h1,h2⟩:=h
  exact⟨v,r,e,Rep.same s p h1,aj.same s ps h2⟩
end
theorem aj.paired:∀{ps:List PV} {vs:List V},aj W G ps vs->Paired (λv p=>Rep W G p v) vs ps
 |[],_,h=>by simp! [aj] at h;subst h;exact .nil
 |p::ps,_,h=>by
  simp! [aj] at h;obtain⟨v,r,rfl,h1,h2⟩:=h
  exact .cons h1 (aj.paired h2)
def aj.length{ps:List PV}{vs:List V}(h:aj W G ps vs):vs.length=ps.length:=lJ h.paired
def aj.nil:aj W G [] []:=by simp! [aj]
def aj.cons{p:PV}{v:V}{ps:List PV}{vs:List V}(h:Rep W G p v)(t:aj W G ps vs):aj W G (p::ps) (v::vs):=by simp! [aj];exact⟨_,_,rfl,h,t⟩
def aj.bI{p:PV}{ps:List PV}{vs:List V}(h:aj W G (p::ps) vs):∃v r,vs=v::r/\Rep W G p v/\aj W G ps r:=by simpa only [aj] using h
theorem aj.append:∀{ps qs:List PV} {vs us:List V},aj W G ps vs->aj W G qs us->aj W G (ps++qs) (vs++us)
 |[],_,_,_,h,k=>by simp! [aj] at h;subst h;exact k
 |p::ps,_,_,_,h,k=>by
  obtain⟨v,r,rfl,h1,h2⟩:=h.bI
  exact .cons h1 (h2.append k)
def aj.get:∀{ps:List PV} {vs:List V} {i:Nat} {v:V},aj W G ps vs->vs[i]?=some v->∃p,ps[i]?=some p/\Rep W G p v:=λh e=>oR h.paired e
theorem aj.nE:∀{ps:List PV} {vs:List V} {i:Nat} {p:PV},aj W G ps vs->ps[i]?=some p->∃v,vs[i]?=some v/\Rep W G p v
 |[],_,_,_,_,e=>by simp at e
 |p::ps,_,0,q,h,e=>by
  obtain⟨v,r,rfl,h1,h2⟩:=h.bI
  simp at e;subst e;exact⟨v,rfl,h1⟩
 |p::ps,_,i+1,q,h,e=>by
  obtain⟨v,r,rfl,h1,h2⟩:=h.bI
  obtain⟨u,e1,k⟩:=h2.nE (i:=i) (by simpa using e)
  exact⟨u,by simpa using e1,k⟩
theorem aj.drop:∀{ps:List PV} {vs:List V} (n:Nat),aj W G ps vs->aj W G (ps.drop n) (vs.drop n)
 |_,_,0,h=>by simpa using h
 |[],_,n+1,h=>by simp! [aj] at h;subst h;simp! [List.drop_nil];exact .nil
 |p::ps,_,n+1,h=>by
  obtain⟨v,r,rfl,h1,h2⟩:=h.bI
  simpa using h2.drop n
theorem aj.take:∀{ps:List PV} {vs:List V} (n:Nat),aj W G ps vs->aj W G (ps.take n) (vs.take n)
 |_,_,0,h=>by simp! [List.take_zero];exact .nil
 |[],_,n+1,h=>by simp! [aj] at h;subst h;simp! [List.take_nil];exact .nil
 |p::ps,_,n+1,h=>by
  obtain⟨v,r,rfl,h1,h2⟩:=h.bI
  simp! [List.take_succ_cons];exact .cons h1 (h2.take n)
end
def iu(H H':Hp):Prop:=∀b o,H b=some o->(∀ps,o≠.fT ps)/\H' b=some o\/∃ps m,o=.fT ps/\H' b=some (.fT (ps++m))
def iu.refl(H:Hp):iu H H:=λb o h=>by
 cases o with
 |fT ps=>exact .inr ⟨ps,#[],rfl,by simpa using h⟩
 |_=>exact .inl ⟨(λ_ z=>nomatch z),h⟩
def iu.trans{H H1 H2:Hp}(a:iu H H1)(b:iu H1 H2):iu H H2:=λc o h=>by
 rcases a c o h with⟨n,e⟩|⟨ps,m,rfl,e⟩
 ·rcases b c o e with y|⟨ps,m,rfl,e2⟩
  ·exact .inl y
  ·exact absurd rfl (n ps)
 ·rcases b c _ e with⟨n,_⟩|⟨qI,m',e2,e3⟩
  ·exact absurd rfl (n _)
  ·cases e2;exact .inr ⟨ps,m++m',rfl,by rw [e3,Array.append_assoc]⟩
def iu.free{H H':Hp}(e:iu H H'){l:Addr}(h:H' l=Option.none):H l=Option.none:=by
 cases q:H l with
 |none=>rfl
 |some o=>
  rcases e l o q with⟨_,z⟩|⟨_,_,_,z⟩
  ·rw [h] at z;cases z
  ·rw [h] at z;cases z
def iu.at{H H':Hp}(e:iu H H'){b:Addr}{o:HO}(h:H b=some o)(n:∀ps,o≠.fT ps):H' b=some o:=by
 rcases e b o h with⟨_,z⟩|⟨ps,_,rfl,_⟩
 ·exact z
 ·exact absurd rfl (n ps)
def iu.w6{H H':Hp}(e:iu H H'){b:Addr}(h:H b≠none)(n:∀vs,H b≠some (.tup vs)):∀vs,H' b≠some (.tup vs):=λvs z=>by
 cases q:H b with
 |none=>exact h q
 |some o=>
  rcases e b o q with⟨_,y⟩|⟨_,_,_,y⟩
  ·rw [z] at y;cases y;exact n vs q
  ·rw [z] at y;cases y
def iu.of{H H':Hp}(e:az H H'):iu H H':=λb o h=>by
 cases o with
 |fT ps=>exact .inr ⟨ps,#[],rfl,by simpa using e _ _ h⟩
 |_=>exact .inl ⟨(λ_ z=>nomatch z),e _ _ h⟩
def iu.tup{K:zz8}{H H':Hp}{a:Addr}{xs:List V}(e:iu H H')(h:eV K H a xs):eV K H' a xs:=by
 rcases h with(h|⟨o,h⟩)|h
 ·exact .inl (.inl (e.at h (λ_ z=>nomatch z)))
 ·exact .inl (.inr ⟨o,e.at h (λ_ z=>nomatch z)⟩)
 ·exact .inr h
def iu.ls{K:zz8}{H H':Hp}{a:Addr}{vs:List V}(e:iu H H')(h:qJ K H a vs):qJ K H' a vs:=by
 rcases h with(h|⟨o,h⟩)|h
 ·exact .inl (.inl (e.at h (λ_ z=>nomatch z)))
 ·exact .inl (.inr ⟨o,e.at h (λ_ z=>nomatch z)⟩)
 ·exact .inr h
def cq(W:Wd)(G H:Hp):Prop:=∀P q,(P,q)∈W.ts->G P=none/\∃ps,H P=some (.fT ps)/\TriplesOk ps.toList/\
 ∀pos cv,codeAmong pos ps.toList=some cv->∃c' oc cQ t,cv=.ref c'/\G c'=some (.bz oc bF)/\oc.data=.fields cQ/\cQ[1]?=some (.str q t)
theorem cq.same{W:Wd}{G G' H H':Hp}(t:cq W G H)(g:az G G')(own:∀a,H a≠none->(∀vs,H a≠some (.tup vs))->G a=none->G' a=none)(h:∀P ps,H P=some (.fT ps)->H' P=some (.fT ps)):cq W G' H':=λP q m=>by
 obtain⟨n,ps,e,tr,al⟩:=t P q m
 refine⟨own P (by rw [e];exact λz=>nomatch z) (by rw [e];exact λ_ z=>nomatch z) n,ps,h P ps e,tr,λpos cv y=>?_⟩
 obtain⟨c',oc,cQ,t,e1,e2,e3,e4⟩:=al pos cv y
 exact⟨c',oc,cQ,t,e1,g _ _ e2,e3,e4⟩
structure aB(W:Wd)(G H G' H':Hp):Prop where
 g:az G G'
 h:iu H H'
 sub:az G' H'
 own:∀a,H a≠none->(∀vs,H a≠some (.tup vs))->G a=none->G' a=none
 tab:cq W G H->cq W G' H'
section
variable{W:Wd}
def aB.refl{G H:Hp}(s:az G H):aB W G H G H:=⟨az.refl _,iu.refl _,s,λ_ _ _ h=>h,id⟩
def aB.trans{G H G1 H1 G2 H2:Hp}(a:aB W G H G1 H1)(b:aB W G1 H1 G2 H2):aB W G H G2 H2:=
 ⟨a.g.trans b.g,a.h.trans b.h,b.sub,λx hx ht hg=>b.own x (λz=>hx (a.h.free z)) (a.h.w6 hx ht) (a.own x hx ht hg),λt=>b.tab (a.tab t)⟩
def qj{H:Hp}{p:Addr}{o:HO}(h:∀ps,H p≠some (.fT ps))(P:Addr)(ps:Array Value)(e:H P=some (.fT ps)):upd H p o P=some (.fT ps):=by
 rw [af (λz=>by subst z;exact h ps e)];exact e
theorem aB.new{G H:Hp}{p:Addr}{o:HO}(s:az G H)(h:H p=none):aB W G H (upd G p o) (upd H p o) where
 g:=bx (s.free h)
 h:=.of (bx h)
 sub:=λb u e=>by
  by_cases hb:b=p
  ·subst hb;rw [aq] at e⊢;exact e
  ·rw [af hb] at e⊢;exact s _ _ e
 own:=λa ha _ hg=>by
  have:a≠p:=λz=>by subst z;exact ha h
  rw [af this];exact hg
 tab:=λt=>t.same (bx (s.free h)) (λa ha _ hg=>by
  have:a≠p:=λz=>by subst z;exact ha h
  rw [af this];exact hg) (qj (λps z=>by rw [h] at z;cases z))
def aB.adopt{G H:Hp}{b:Addr}{vs:List V}(s:az G H)(h:H b=some (.tup vs)):aB W G H (upd G b (.tup vs)) H:=by
 have sm:az G (upd G b (.tup vs)):=λc u e=>by
  by_cases hc:c=b
  ·subst hc;rw [aq];have:=s _ _ e;rw [h] at this;exact this
  ·rw [af hc];exact e
 have ow:∀a,H a≠none->(∀vs,H a≠some (.tup vs))->G a=none->upd G b (.tup vs) a=none:=λa _ n e=>by
  have:a≠b:=λz=>by subst z;exact n vs h
  rw [af this];exact e
 exact⟨sm,iu.refl _,λc u e=>by
  by_cases hc:c=b
  ·subst hc;rw [aq] at e;cases e;exact h
  ·rw [af hc] at e;exact s _ _ e,ow,λt=>t.same sm ow λ_ _ e=>e⟩
def aB.M4{G H:Hp}{p:Addr}{o:HO}(s:az G H)(h:H p=none):aB W G H G (upd H p o):=
 ⟨az.refl _,.of (bx h),s.trans (bx h),λ_ _ _ hg=>hg,λt=>t.same (az.refl _) (λ_ _ _ h=>h) (qj (λps z=>by rw [h] at z;cases z))⟩
end
noncomputable def bf(scope:Scope):List Str:=((scope.names.filter λp=>p.2==.free).map (·.1)).reverse
noncomputable def okN(x:Str):Bool:=!(x=="__debug__")&&!(x=="__classdict__")&&!(x=="__name__")
noncomputable def gk(x:Str):Bool:=x.cps.toList.contains 64
def iI{α:Type}{a:α}{p:Prop}(h:(none:Option α)=some a):p:=nomatch h
def Cc{α:Type}{o:Option α}{f:α->Bool}(h:o.any f=true):∃x,o=some x/\f x=true:=by
 cases o with
 |none=>cases h
 |some x=>exact⟨x,rfl,h⟩
noncomputable def eR:Expr->Option Str
 |.Name x _=>some x
 |_=>none
def cj{e:Expr}{x:Str}(h:eR e=some x):∃p,e=.Name x p:=by
 cases e with
 |Name y p=>cases h;exact⟨_,rfl⟩
 |_=>exact iI h
noncomputable def Ka:Expr->Option (Expr×List Expr×List Keyword×Pos)
 |.Call f a k p=>some (f,a,k,p)
 |_=>none
def jY{e:Expr}{q:Expr×List Expr×List Keyword×Pos}(h:Ka e=some q):e=.Call q.1 q.2.1 q.2.2.1 q.2.2.2:=by
 cases e with
 |Call f a k p=>cases h;rfl
 |_=>exact iI h
noncomputable def O1:List Arg->Option (List Str)
 |[]=>some []
 |[a]=>some [a.arg]
 |_=>none
noncomputable def pG(p:Arguments):Option (List Str):=if(p.posonlyargs.isEmpty&&p.vararg.isNone&&p.kwonlyargs.isEmpty&&p.kw_defaults.isEmpty&&p.kwarg.isNone&&p.defaults.isEmpty)=true then O1 p.args else none
def vT{p:Arguments}{ps:List Str}(h:pG p=some ps):(p=⟨[],[],none,[],[],none,[]⟩/\ps=[])\/∃a,p=⟨[],[a],none,[],[],none,[]⟩/\ps=[a.arg]:=by
 obtain⟨a,b,c,d,e,f,g⟩:=p
 unfold pG at h;split at h
 ·rename_i q;simp! [zza,List.isEmpty_iff,Option.isNone_iff_eq_none] at q;obtain⟨⟨⟨⟨⟨q1,q2⟩,q3⟩,q4⟩,q5⟩,q6⟩:=q
  subst q1 q2 q3 q4 q5 q6;cases b with
  |nil=>cases h;exact .inl ⟨rfl,rfl⟩
  |cons a b=>
   cases b with
   |nil=>cases h;exact .inr ⟨a,rfl,rfl⟩
   |cons _ _=>exact iI h
 ·exact iI h
noncomputable def eK:List Expr->List (Option Str)->Bool
 |[],[]=>true
 |.Name x _::r,some y::t=>x==y&&okN x&&eK r t
 |_,_=>false
noncomputable def N0(ps:List Str)(scope:Scope):Bool:=
 scope.kind==.function&&!scope.isCoroutine&&!scope.isGenerator&&decide ((ps++bf scope).Nodup)&&(scope.names.all λy=>decide (y.2≠.cell))&&(ps.all λx=>decide (scope.names.lookup x=some .local))&&((bf scope).all λx=>decide (scope.names.lookup x=some .free))
noncomputable def Fp(g:Str)(idx:List Nat)(params:Arguments)(body:Expr)(scope:Scope):Bool:=(pG params).any λps=>(Ka body).any λq=>eR q.1==some g&&q.2.2.1.isEmpty&&!q.2.1.isEmpty&&decide (idx.head?=some ps.length)&&scope.names.lookup g==some .globalImplicit&&okN g&&!gk g&&eK q.2.1 (idx.tail.map λi=>(ps++bf scope)[i]?)&&N0 ps scope
structure QM(W:Wd)(G:Hp)(g:Str)(idx:List Nat)(cE:List PV)(f c':Addr)(oc:Obj)(cQ:Array Value)(t:Tok)(fy pm:Value)(params:Arguments)(body:Expr)(scope:Scope)(qual:Str)(cl:List (Str×Addr))(Z:List (Addr×Obj))(ws:List V):Prop where
 lg:Fp g idx params body scope=true
 fo:G f=some (.bz (PySem.W.kla_obj "<lambda>" qual params body scope cl pm c' fy) bF)
 co:G c'=some (.bz oc bF)
 cd:oc.data=.fields cQ
 cn:cQ[1]?=some (.str qual t)
 fz:Z.lookup f=none
 cz:Z.lookup c'=none
 inj:∀x y c,cl.lookup x=some c->cl.lookup y=some c->x=y
 has:∀y∈bf scope,∃c,cl.lookup y=some c
 cells:∀x c,cl.lookup x=some c->∃o v,Z.lookup c=some o/\o.data=.cell v
 zs:∀b o,Z.lookup b=some o->G b=some (.bz o bF)
 zc:∀b o,Z.lookup b=some o->∃v,o.data=.cell v
 vals:∀(i:Nat) y c,(bf scope)[i]?=some y->cl.lookup y=some c->∀v,ws[i]?=some v->∃u o,RelV v u/\Z.lookup c=some o/\o.data=.cell (some u)
 len:ws.length=(bf scope).length
 rep:aj W (aS Z G) cE ws
def ql(W:Wd)(G:Hp)(g:Str)(idx:List Nat)(cE:List PV)(v:V):Prop:=∃f c' oc cQ t fy pm params body scope qual cl Z ws,v=.ref f/\QM W G g idx cE f c' oc cQ t fy pm params body scope qual cl Z ws
theorem nU{Z:List (Addr×Obj)}{G G':Hp}(s:az G G'):az (aS Z G) (aS Z G'):=λb u e=>by
 obtain⟨q,e1⟩:=dU e
 rw [aw q];exact s _ _ e1
def ql.same{W:Wd}{G G':Hp}{g:Str}{idx:List Nat}{cE:List PV}{v:V}(s:az G G')(h:ql W G g idx cE v):ql W G' g idx cE v:=by
 obtain⟨f,c',oc,cQ,t,fy,pm,params,body,scope,qual,cl,Z,ws,e,d⟩:=h
 exact⟨f,c',oc,cQ,t,fy,pm,params,body,scope,qual,cl,Z,ws,e,⟨d.lg,s _ _ d.fo,s _ _ d.co,d.cd,d.cn,d.fz,d.cz,d.inj,d.has,d.cells,λb o q=>s _ _ (d.zs b o q),d.zc,d.vals,d.len,aj.same (nU s) cE d.rep⟩⟩
inductive Slot where
 |no|val (p:PV)|own (p:PV)|fn (g:Str) (idx:List Nat) (cE:List PV)
 deriving Inhabited
abbrev Sl:=List Slot
def Own(W:Wd)(H0 G H:Hp):PV->V->Prop
 |.lst xs,v=>∃a vs,v=.ref a/\H a=some (.lst vs)/\G a=none/\H0 a=none/\aj W G xs vs
 |.bo ks ps,v=>∃a us,v=.ref a/\ks.length=us.length/\H a=some (.dT (kz ks us))/\G a=none/\H0 a=none/\aj W G ps us
 |_,_=>False
def Top(W:Wd)(H0 G H:Hp)(p:PV)(v:V):Prop:=Rep W G p v\/Own W H0 G H p v
def F5(W:Wd)(H0 G H:Hp):Slot->Option V->Prop
 |.no,_=>True
 |.val p,o=>∃v,o=some v/\Rep W G p v
 |.own p,o=>∃v,o=some v/\Own W H0 G H p v
 |.fn g idx cE,o=>∃v,o=some v/\ql W G g idx cE v
structure SR(W:Wd)(H0:Hp)(env:Sl)(σ:St)(G H:Hp):Prop where
 len:env.length=σ.length
 sub:az G H
 base:iu H0 H
 slot:∀(i:Nat) (s:Slot),env[i]?=some s->∃o,σ[i]?=some o/\F5 W H0 G H s o
 apart:∀(i j:Nat) (p q:PV) (a:Addr),env[i]?=some (.own p)->env[j]?=some (.own q)->σ[i]?=some (some (.ref a))->σ[j]?=some (some (.ref a))->i=j
 tab:cq W G H
 ng:cq W G H0
section
variable{W:Wd}{H0 G H G' H':Hp}{env:Sl}{σ:St}
theorem Own.grow(g:aB W G H G' H'):∀{p:PV} {v:V},Own W H0 G H p v->Own W H0 G' H' p v
 |.lst xs,_,h=>by
  obtain⟨a,vs,e,h1,h2,h3,l⟩:=h
  exact⟨a,vs,e,g.h.at h1 (λ_ z=>nomatch z),g.own a (by rw [h1];exact λz=>by cases z) (by rw [h1];exact λ_ z=>by cases z) h2,h3,aj.same g.g xs l⟩
 |.bo ks ps,_,h=>by
  obtain⟨a,vs,e,n,h1,h2,h3,l⟩:=h
  exact⟨a,vs,e,n,g.h.at h1 (λ_ z=>nomatch z),g.own a (by rw [h1];exact λz=>by cases z) (by rw [h1];exact λ_ z=>by cases z) h2,h3,aj.same g.g ps l⟩
 |.aH,_,h=>h|.bl _,_,h=>h|.int _,_,h=>h|.str _,_,h=>h|.tup _,_,h=>h|.exc _,_,h=>h
theorem F5.grow(g:aB W G H G' H'):∀{s:Slot} {o:Option V},F5 W H0 G H s o->F5 W H0 G' H' s o
 |.no,_,_=>trivial
 |.val p,_,h=>by obtain⟨v,e,r⟩:=h;exact⟨v,e,Rep.same g.g p r⟩
 |.own p,_,h=>by obtain⟨v,e,r⟩:=h;exact⟨v,e,r.grow g⟩
 |.fn _ _ _,_,h=>by obtain⟨v,e,r⟩:=h;exact⟨v,e,r.same g.g⟩
theorem SR.grow(r:SR W H0 env σ G H)(g:aB W G H G' H'):SR W H0 env σ G' H':=
 ⟨r.len,g.sub,r.base.trans g.h,λi s e=>by obtain⟨o,h1,h2⟩:=r.slot i s e;exact⟨o,h1,h2.grow g⟩,r.apart,g.tab r.tab,r.ng.same g.g (λa h1 h3 h2=>g.own a (λz=>h1 (r.base.free z)) (r.base.w6 h1 h3) h2) λ_ _ h=>h⟩
def Top.grow{p:PV}{v:V}(g:aB W G H G' H')(h:Top W H0 G H p v):Top W H0 G' H' p v:=h.elim (λz=>.inl (Rep.same g.g p z)) λz=>.inr (z.grow g)
def Top.lst{xs:List PV}{v:V}(s:az G H)(h:Top W H0 G H (.lst xs) v):∃a vs,v=.ref a/\qJ W.K H a vs/\aj W G xs vs:=by
 rcases h with h|h
 ·simp! [Rep] at h;obtain⟨a,vs,e,q,l⟩:=h
  exact⟨a,vs,e,az.ls s q,l⟩
 ·obtain⟨a,vs,e,h1,_,_,l⟩:=h
  exact⟨a,vs,e,.inl (.inl h1),l⟩
def Top.tup{xs:List PV}{v:V}(s:az G H)(h:Top W H0 G H (.tup xs) v):∃a vs,v=.ref a/\eV W.K H a vs/\aj W G xs vs:=by
 rcases h with h|h
 ·simp! [Rep] at h;obtain⟨a,vs,e,q,l⟩:=h
  exact⟨a,vs,e,az.tup s q.sq,l⟩
 ·exact h.elim
def Top.tupI{xs:List PV}{v:V}{ns:List Int}(s:az G H)(hx:xs=ns.map .int)(h:Top W H0 G H (.tup xs) v):∃a,v=.ref a/\G a=some (.tup (ns.map V.int)):=by
 rcases h with h|h
 ·simp! [Rep] at h;obtain⟨a,vs,e,q,l⟩:=h
  have ev:vs=ns.map V.int:=by
   subst hx
   clear q e
   induction ns generalizing vs with
   |nil=>simp! [List.map_nil,aj] at l;exact l
   |cons n ns ih=>
    obtain⟨u,r,rfl,h1,h2⟩:=l.bI
    simp! [Rep] at h1;rw [h1,ih r h2]
    rfl
  subst ev;rcases q with q|⟨_,z,hz⟩
  ·exact⟨a,e,q⟩
  ·obtain⟨n,_,hn⟩:=zzx.mp hz
   cases hn
 ·exact h.elim
def Top.bo{ks:List (List Int)}{ps:List PV}{v:V}(s:az G H)(h:Top W H0 G H (.bo ks ps) v):∃a us,v=.ref a/\ks.length=us.length/\Rd H a (.dT (kz ks us))/\aj W G ps us:=by
 rcases h with h|h
 ·simp! [Rep] at h;obtain⟨a,o,us,e,n,q,l⟩:=h
  exact⟨a,us,e,n,.inr ⟨o,s _ _ q⟩,l⟩
 ·obtain⟨a,vs,e,n,q,_,_,l⟩:=h
  exact⟨a,vs,e,n,.inl q,l⟩
def Top.int{i:Int}{v:V}(h:Top W H0 G H (.int i) v):v=.int i:=h.elim (λz=>by simpa only [Rep] using z) λz=>z.elim
def Top.bl{b:Bool}{v:V}(h:Top W H0 G H (.bl b) v):v=.bl b:=h.elim (λz=>by simpa only [Rep] using z) λz=>z.elim
def Top.str{b:Str}{v:V}(h:Top W H0 G H (.str b) v):v=.str b:=h.elim (λz=>by simpa only [Rep] using z) λz=>z.elim
def Top.aH{v:V}(h:Top W H0 G H .aH v):v=.aH:=h.elim (λz=>by simpa only [Rep] using z) λz=>z.elim
def Rep.i{i:Int}:Rep W G (.int i) (.int i):=by simp! [Rep]
def Rep.b{i:Bool}:Rep W G (.bl i) (.bl i):=by simp! [Rep]
def Rep.s{i:Str}:Rep W G (.str i) (.str i):=by simp! [Rep]
def Rep.n:Rep W G .aH .aH:=by simp! [Rep]
def Rep.l{a:Addr}{xs:List PV}{vs:List V}(h:qJ W.K G a vs)(l:aj W G xs vs):Rep W G (.lst xs) (.ref a):=by simp! [Rep];exact⟨a,vs,rfl,h,l⟩
def Rep.t{a:Addr}{xs:List PV}{vs:List V}(h:KC W.K G a vs)(l:aj W G xs vs):Rep W G (.tup xs) (.ref a):=by simp! [Rep];exact⟨a,vs,rfl,h,l⟩
end
end Ci
namespace L2
open PySem PySem.Spec PyProof.Rows
end L2
namespace HT
open PySem PySem.Spec PyProof.Rows
section
end
end HT
namespace L2
open PySem PySem.Spec PyProof.Rows
end L2
namespace L2
open PySem PySem.Spec PyProof.Rows PySem.W
end L2
namespace L2
open PySem PySem.Spec PyProof.Rows
noncomputable def aY(ns:List Int):Nat->Int
 |0=>ns.getD 0 0
 |k+1=>if ns.getD (k+1) 0<aY ns k then ns.getD (k+1) 0 else aY ns k
noncomputable def jx(ns:List Int):V:=if ns=[] then .aH else .int (aY ns (ns.length-1))
def xk(a v:Value):argsOk "min" ⟨[a],[(Str.ofString "default",v)]⟩:=by unfold argsOk;kernel_rfl
section
variable{prog:Program}{w:World}{A:Around}{it l S:Addr}{ns:List Int}{ax:List Value}{dv:Value}{R:Result->Shared->Prop}
def xP(hh:A.handled=none)(n1:S≠it)(n2:l≠it)(n3:l≠S)(hv:∀i (h:i<ns.length),∃t,ax[i]?=some (.int ns[i] t))(UY:ax.length=ns.length){s0:Shared}
 (hR:∀t h' tk,(∀b o,b≠it->b≠S->s0.heap.get? b=some o->h'.get? b=some o)->R (.ok (.ret (.int (aY ns (ns.length-1)) t))) {s0 with heap:=h',toks:=tk}):
 ∀(r j:Nat) (h:Heap) (tk:Nat) (t:Tok) (c:Nat),ns.length-(j+1)=r->j+1<=ns.length->(∀b o,b≠it->b≠S->s0.heap.get? b=some o->h.get? b=some o)->h.IsListIter it l (j+1)->h.IsList l ax.toArray->h.get? S=some (seqObj "list" #[.int (aY ns j) t,.int (aY ns j) t] c)->
  codeAny (model prog w) A (.builtin "min.loop" ⟨[.ref it,.none,.ref S],[(Str.ofString "default",dv)]⟩) R {s0 with heap:=h,toks:=tk}:=by
 have name:(toString "min"++toString ".loop":String)="min.loop":=by decide
 intro r
 induction r with
 |zero=>
  intro j h tk t c hr hj kk st hl hS;refine codeAny_builtin PySem.F.entry_min_loop ?_;rw [zz7 PySem.F.plain_min_loop _];show wpAny _ A.in1 (seqItems? (.ref S)>>=λz=>_) _ _ _
  refine zzA (wpAny_seqItems hS rfl ?_);show wpAny _ A.in1 (tryCatch (pyNext (.ref it)) _>>=λz=>_) _ _ _
  refine zzA (wpAny_tryCatch (wpAny_pyNext_list_end hh st hl (by simp;omega) λh' eb=>?_))
  have qH:=eb S _ n1 hS
  show wpAny _ A.in1 (updateSeq S (λ_=>#[])>>=λz=>_) _ _ _
  refine zzA (wpAny_updateSeq qH rfl (zzA (wpAny_letGo (zzG ?_))));have s1:=zzu h' S (Obj.mapSeq λ_=>(#[]:Array Value))
  have e:j=ns.length-1:=by omega
  rw [e];exact hR t _ tk λb o b1 b2 q=>(s1.2 b b2).trans (eb b o b1 (kk b o b1 b2 q))
 |succ r ih=>
  intro j h tk t c hr hj kk st hl hS;have bH:j+1<ns.length:=by omega
  obtain⟨t2,ht2⟩:=hv (j+1) bH
  refine codeAny_builtin PySem.F.entry_min_loop ?_;rw [zz7 PySem.F.plain_min_loop _];show wpAny _ A.in1 (seqItems? (.ref S)>>=λz=>_) _ _ _
  refine zzA (wpAny_seqItems hS rfl ?_);show wpAny _ A.in1 (tryCatch (pyNext (.ref it)) _>>=λz=>_) _ _ _
  refine zzA (wpAny_tryCatch (wpAny_pyNext_list_item st hl (x:=.int ns[j+1] t2) (by simpa using ht2) λh' fK sb=>?_))
  have qH:=(sb.2 S n1).trans hS
  have oJ:h'.IsList l ax.toArray:=hl.at λo q=>(sb.2 l n2).trans q
  have Rh:∀b o,b≠it->b≠S->s0.heap.get? b=some o->h'.get? b=some o:=λb o b1 b2 q=>(sb.2 b b1).trans (kk b o b1 b2 q)
  refine zzA (zzG ?_);show wpAny _ A.in1 (tryCatch (holding [Value.int ns[j+1] t2,.int ns[j+1] t2] (richCompare .Lt (.int ns[j+1] t2) (.int (aY ns j) t)>>=λz=>_)) _>>=λz=>_) _ _ _
  let cf:Nat->Int:=λk=>if k=0 then aY ns j else ns[j+1]
  refine zzA (wpAny_tryCatch (wpAny_holding (zzA (CmpOf.ints_lt (prog:=prog) (w:=w) (A:=A.in1) (P:=λi v=>∃t,v=.int (cf i) t) cf (λi v h=>h) 1 0 _ _ _ _ _ ⟨t2,rfl⟩ ⟨t,rfl⟩ ?_))))
  refine zzA (wpAny_holding (wpAny_truthy_bool (zzA (wpAny_letGo (zzG ?_)))));have N6:aY ns (j+1)=if ns[j+1]<aY ns j then ns[j+1] else aY ns j:=by
   rw [aY,zzK,zzg bH]
   rfl
  by_cases hb:ns[j+1]<aY ns j
  ·rw [if_pos hb] at N6;obtain⟨c2,hc2⟩:=kR (ys:=#[Value.int ns[j+1] t2,.int ns[j+1] t2]) qH
   have s1:=zzu h' S (Obj.mapSeq λ_=>#[Value.int ns[j+1] t2,.int ns[j+1] t2])
   have hd:decide (cf 1<cf 0)=true:=zzh hb
   simp! [hd,if_true];refine zzA (wpAny_updateSeq qH rfl (zzA (wpAny_letGo ?_)));rw [name];refine zzG ⟨plainId_quiet PySem.F.plain_min_loop _,ih (j+1) _ tk t2 c2 (by omega) bH (λb o b1 b2 q=>(s1.2 b b2).trans (Rh b o b1 b2 q)) ?_ ?_ (by rw [N6];exact hc2)⟩
   ·exact fK.at λo q=>(s1.2 it (Ne.symm n1)).trans q
   ·exact oJ.at λo q=>(s1.2 l n3).trans q
  ·rw [if_neg hb] at N6;have hd:decide (cf 1<cf 0)=false:=zz0 hb
   simp! [hd,zze,if_false];refine zzA (wpAny_letGo ?_);rw [name];exact zzG ⟨plainId_quiet PySem.F.plain_min_loop _,ih (j+1) _ tk t c (by omega) bH Rh fK oJ (by rw [N6];exact qH)⟩
end
def yT{X:Cx}(hc:X.calm=true){aa:List (Addr×Obj)}{s:Shared}{σ:St}{H:Hp}{p:Addr}{ns:List Int}{Q:VK}(I:Inv X aa σ H s)(hp:fH X.K H p (ns.map V.int))(q:Q (jx ns) H):
 wpAny (model X.prog X.w) X.A (call (.builtin "min") [.ref p] [(Str.ofString "default",.none)]) (EP X aa σ Q) X.xe s:=by
 have name:(toString "min"++toString ".loop":String)="min.loop":=by decide
 have hh:X.A.handled=none:=I.ok.hd hc
 obtain⟨ax,rv,pl,hz⟩:=I.list hp
 have bH:p<(zz9 s):=by obtain⟨_,e,_⟩:=pl.isList;exact zzO e
 have hlen:ax.length=ns.length:=by rw [<-rv.length,zzl]
 have By:∀i (h:i<ns.length),∃t,ax[i]?=some (.int ns[i] t):=λi hi=>by
  obtain⟨u,hu,t,ru⟩:=rv.get (i:=i) (x:=V.int ns[i]) (by rw [zzQ,zzg hi];rfl)
  exact⟨t,by rw [hu,ru]⟩
 refine kmk_tree PySem.F.kind_min PySem.F.plain_min PySem.F.entry_min (xk _ _) ?_;show wpAny _ X.A.in1 (Builtin.Builtins.bindParams "min" ["key","default"] 0 ⟨[],[(Str.ofString "default",.none)]⟩>>=λz=>_) _ _ s
 refine zzA (wpAny_of_eq (show Builtin.Builtins.bindParams "min" ["key","default"] 0 ⟨[],[(Str.ofString "default",.none)]⟩=pure [none,some (.none)] from rfl) (zzA (zzG ?_)));refine zzA (wpAny_pyIter_list pl.isList (zzA (wpAny_newList ?_ (Nat.zero_le _))));rw [name];generalize hit:(zz9 s)=it
 generalize hSS:(s.heap.push {cls:=.type "list_iterator",data:=.fields #[.ref p,.int 0 0]}).objs.size=S
 have eS:S=it+1:=by rw [<-hSS,<-hit];exact size_push' ..
 have nS:S≠it:=by omega
 have np:p≠it:=by rw [<-hit];exact zzb bH
 have Ra:p≠S:=by rw [eS,<-hit];exact zzb (Nat.lt_succ_of_lt bH)
 have keep:∀b ob,s.heap.get? b=some ob->((s.heap.push {cls:=.type "list_iterator",data:=.fields #[.ref p,.int 0 0]}).push (seqObj "list" #[] 0)).get? b=some ob:=λb ob e=>zzB _ (zzB _ e)
 have gI:((s.heap.push {cls:=.type "list_iterator",data:=.fields #[.ref p,.int 0 0]}).push (seqObj "list" #[] 0)).IsListIter it p 0:=by
  rw [<-hit];exact⟨_,zzB _ (zzX _ rfl),rfl,rfl⟩
 have gS:((s.heap.push {cls:=.type "list_iterator",data:=.fields #[.ref p,.int 0 0]}).push (seqObj "list" #[] 0)).get? S=some (seqObj "list" #[] 0):=by
  rw [<-hSS];exact zzX _ rfl
 have gl:((s.heap.push {cls:=.type "list_iterator",data:=.fields #[.ref p,.int 0 0]}).push (seqObj "list" #[] 0)).IsList p ax.toArray:=pl.isList.at λo e=>keep _ _ e
 generalize hg:((s.heap.push {cls:=.type "list_iterator",data:=.fields #[.ref p,.int 0 0]}).push (seqObj "list" #[] 0))=g at keep gI gS gl
 have nH:∀b o,s.heap.get? b=some o->b≠it/\b≠S:=λb o e=>by
  have:=zzO e
  rw [hit] at this;exact⟨zzb this,by rw [eS];exact zzb (Nat.lt_succ_of_lt this)⟩
 have fin:∀(z:Value) (h':Heap) (tk:Nat),RelV (jx ns) z->(∀b o,b≠it->b≠S->g.get? b=some o->h'.get? b=some o)->EP X aa σ Q z {s with heap:=h',toks:=tk}:=λz h' tk S1 kk=>
  ⟨jx ns,H,I.kept λb o e=>kk b o (nH b o e).1 (nH b o e).2 (keep b o e),S1,q⟩
 refine zzG ⟨plainId_quiet PySem.F.plain_min_loop _,codeAny_builtin PySem.F.entry_min_loop ?_⟩;rw [zz7 PySem.F.plain_min_loop _];show wpAny _ X.A.in1 (seqItems? (.ref S)>>=λz=>_) _ _ _
 refine zzA (wpAny_seqItems gS rfl ?_);show wpAny _ X.A.in1 (tryCatch (pyNext (.ref it)) _>>=λz=>_) _ _ _
 by_cases hn:ns=[]
 ·refine zzA (wpAny_tryCatch (wpAny_pyNext_list_end hh gI gl (by simp [hlen,hn]) λh' eb=>?_))
  refine zzA (wpAny_rule (zzG ?_));exact fin .none h' s.toks (by unfold jx;rw [if_pos hn];exact rfl) λb o b1 b2 e=>eb b o b1 e
 ·have h0:0<ns.length:=List.length_pos_iff.2 hn
  obtain⟨t,ht⟩:=By 0 h0
  refine zzA (wpAny_tryCatch (wpAny_pyNext_list_item gI gl (x:=.int ns[0] t) (by simpa using ht) λh' fK sb=>?_))
  have qH:=(sb.2 S nS).trans gS
  refine zzA (zzG ?_);obtain⟨c2,hc2⟩:=kR (ys:=#[Value.int ns[0] t,.int ns[0] t]) qH
  have s1:=zzu h' S (Obj.mapSeq λ_=>#[Value.int ns[0] t,.int ns[0] t])
  show wpAny _ X.A.in1 (updateSeq S (λ_=>#[Value.int ns[0] t,.int ns[0] t])>>=λz=>_) _ _ _
  refine zzA (wpAny_updateSeq qH rfl ?_);rw [name];have m0:aY ns 0=ns[0]:=by rw [aY,zzK,zzg h0];rfl
  refine zzG ⟨plainId_quiet PySem.F.plain_min_loop _,xP (s0:={s with heap:=g}) hh nS np Ra By hlen (λt h' tk kk=>fin _ h' tk (by unfold jx;rw [if_neg hn];exact⟨t,rfl⟩) kk) _ 0 _ s.toks t c2 rfl h0 (λb o b1 b2 e=>(s1.2 b b2).trans ((sb.2 b b1).trans e)) (fK.at λo q=>(s1.2 it (Ne.symm nS)).trans q) ((gl.at λo q=>(sb.2 p np).trans q).at λo q=>(s1.2 p Ra).trans q) (by rw [m0];exact hc2)⟩
theorem lV(ns:List Int):∀k,ns.getD (argBest (λi j=>decide (ns.getD i 0<ns.getD j 0)) k) 0=aY ns k
 |0=>rfl
 |k+1=>by
  rw [argBest,aY,lV ns k]
  by_cases h:ns.getD (k+1) 0<aY ns k
  ·rw [if_pos h,if_pos (zzh h)]
  ·rw [if_neg h,if_neg (λz=>h (zzY z)),lV ns k]
def yz{X:Cx}(hc:X.calm=true):bW X (.builtin "min") (λxs H Q=>∃(p:Addr) (ns:List Int),xs=[.ref p]/\fH X.K H p (ns.map V.int)/\0<ns.length/\Q (.int (aY ns (ns.length-1))) H):=by
 intro aa s σ H xs us Q I r h;obtain⟨p,ns,rfl,hp,h0,q⟩:=h
 obtain⟨u,rfl,ru⟩:=vals1 r
 cases ru;obtain⟨ax,rv,pl,hz⟩:=I.list hp
 have bH:p<(zz9 s):=by obtain⟨_,e,_⟩:=pl.isList;exact zzO e
 have hlen:ax.length=ns.length:=by rw [<-rv.length,zzl]
 have By:∀i v,ax.toArray[i]?=some v->∃t,v=Value.int (ns.getD i 0) t:=λi v hP=>by
  have hv:ax[i]?=some v:=by simpa using hP
  have hi:i<ns.length:=by rw [<-hlen];exact(zzH.mp hv).1
  obtain⟨u,hu,t,ru⟩:=rv.get (i:=i) (x:=V.int ns[i]) (by rw [zzQ,zzg hi];rfl)
  rw [hv] at hu;cases hu;refine⟨t,?_⟩;rw [ru,zzK,zzg hi]
  rfl
 refine call_min_walk (wpAny_pyIter_list pl.isList ?_);refine⟨(zz9 s),_,_,ax.toArray.size,_,_,_,rfl,Walks.list (A:=X.A.in1) (I.ok.hd hc) (zz9 s) p (zzb bH) ax.toArray,⟨⟨_,zzX _ rfl,rfl,rfl⟩,pl.isList.push _⟩,λb hb=>?_,by rw [zzC,hlen];exact h0,CmpOf.ints_lt (λi=>ns.getD i 0) By,λv h' tk hP hk=>?_⟩
 ·have:b=(zz9 s)\/b=p:=by simpa using hb
  rw [Heap.size_push];rcases this with e|e
  ·rw [e];exact Nat.lt_succ_self _
  ·rw [e];exact Nat.lt_succ_of_lt bH
 ·obtain⟨t,rfl⟩:=By _ _ hP
  rw [lV,zzC,hlen];exact⟨.int _,H,I.kept λb o e=>hk b o (by simp;exact zzb (zzO e)) (zzB _ e),⟨_,rfl⟩,q⟩
end L2
namespace St
noncomputable def Ay:List Int->Bool
 |[r,c]=>decide (0<=r)&&decide (r<6)&&(decide (0<=c)&&decide (c<6))
 |_=>false
end St
namespace Ci
open PySem L2
inductive Res(α:Type) where
 |ok (a:α)|exc (c:Str)|bad
noncomputable def Res.bind{α β:Type}:Res α->(α->Res β)->Res β
 |.ok a,f=>f a
 |.exc c,_=>.exc c
 |.bad,_=>.bad
noncomputable instance:Monad Res where
 pure:=.ok
 bind:=Res.bind
def Res.aR{α β:Type}{r:Res α}{f:α->Res β}{b:β}(h:r.bind f=.ok b):∃a,r=.ok a/\f a=.ok b:=by
 cases r with
 |ok a=>exact⟨a,rfl,h⟩
 |exc c=>cases h
 |bad=>cases h
def Res.dq{α β:Type}{r:Res α}{f:α->Res β}{c:Str}(h:r.bind f=.exc c):r=.exc c\/∃a,r=.ok a/\f a=.exc c:=by
 cases r with
 |ok a=>exact .inr ⟨a,rfl,h⟩
 |exc c'=>cases h;exact .inl rfl
 |bad=>cases h
noncomputable def Res.of{α:Type}:Option α->Res α
 |some a=>.ok a
 |none=>.bad
noncomputable def Res.well{α:Type}:Res α->Res α
 |.ok a=>.ok a
 |_=>.bad
abbrev fF:Nat:=1000000
noncomputable def eqs(f:PV->PV->Bool):List PV->List PV->Bool
 |[],[]=>true
 |x::xs,y::ys=>f x y&&eqs f xs ys
 |_,_=>false
noncomputable def kE:Nat->PV->PV->Bool
 |_,.aH,.aH=>true
 |_,.bl a,.bl b=>a==b
 |_,.bl a,.int i=>(if a then 1 else 0)==i
 |_,.int i,.bl a=>i==(if a then 1 else 0)
 |_,.int i,.int j=>i==j
 |_,.str x,.str y=>x==y
 |n+1,.tup xs,.tup ys=>eqs (kE n) xs ys
 |n+1,.lst xs,.lst ys=>eqs (kE n) xs ys
 |_,_,_=>false
noncomputable def plain:Nat->PV->Bool
 |_,.aH=>true
 |_,.bl _=>true
 |_,.int _=>true
 |_,.str _=>true
 |n+1,.tup xs=>xs.all (plain n)
 |n+1,.lst xs=>xs.all (plain n)
 |_,_=>false
abbrev DP:Nat:=9
noncomputable abbrev eqv:PV->PV->Bool:=kE DP
noncomputable abbrev KW:PV->Bool:=plain DP
inductive KS where|add|sub|mul|mod|fdiv
inductive BJ where|eq|ne|lt|le|gt|HN|xy|vi
noncomputable def aN(i:Int):Bool:=decide (-(2^64)<i)&&decide (i<2^64)
noncomputable def binOp:KS->PV->PV->Res PV
 |.add,.int i,.int j=>.ok (.int (i+j))
 |.add,.str x,.str y=>if x.length+y.length<=fF then .ok (.str (x++y)) else .bad
 |.add,.lst x,.lst y=>if x.length+y.length<=fF then .ok (.lst (x++y)) else .bad
 |.sub,.int i,.int j=>.ok (.int (i-j))
 |.mul,.int i,.int j=>if aN i||aN j then .ok (.int (i*j)) else .bad
 |.mod,.int i,.int j=>if 0<j then .ok (.int (i%j)) else .bad
 |.fdiv,.int i,.int j=>if 0<j/\j<1073741824 then .ok (.int (i/j)) else .bad
 |_,_,_=>.bad
noncomputable def intsOf:List PV->Option (List Int)
 |[]=>some []
 |.int i::r=>(intsOf r).map (i::·)
 |_=>none
noncomputable def ag{α:Type}:List (List Int)->List α->List Int->Option α
 |k'::ks,v::vs,k=>if k'=k then some v else ag ks vs k
 |_,_,_=>none
noncomputable def cm(ks:List (List Int))(k:List Int):Bool:=ks.any λk'=>decide (k'=k)
noncomputable def bp(ks:List (List Int))(k:List Int):List (List Int):=if cm ks k then ks else ks++[k]
noncomputable def aX{α:Type}(ks:List (List Int))(vs:List α)(k:List Int)(p:α):List α:=if cm ks k then List.zipWith (λk' v=>if k'=k then p else v) ks vs else vs++[p]
noncomputable def bQ(ks:List (List Int))(k:List Int):List (List Int):=ks.filter λk'=>decide (k'≠k)
noncomputable def aO{α:Type}:List (List Int)->List α->List Int->List α
 |k'::ks,v::vs,k=>if k'=k then aO ks vs k else v::aO ks vs k
 |_,_,_=>[]
noncomputable def ah(k:List Int):PV:=.tup (k.map .int)
noncomputable def gQ:PV->Option (List Int)
 |.tup xs=>intsOf xs
 |_=>none
noncomputable def fG:List PV->Option (List (List Int))
 |[]=>some []
 |x::r=>(gQ x).bind λk=>(fG r).map (k::·)
noncomputable def va:List PV->Option (List (List Int×PV))
 |[]=>some []
 |.tup [x,y]::r=>(gQ x).bind λk=>(va r).map ((k,y)::·)
 |_=>none
noncomputable def dQ{α:Type}:List (List Int×α)->List (List Int)->List α->List (List Int)×List α
 |[],ks,vs=>(ks,vs)
 |p::r,ks,vs=>dQ r (bp ks p.1) (aX ks vs p.1 p.2)
noncomputable def iQ(a b:PV):Res PV:=if KW a&&KW b then .ok (.bl (eqv a b)) else .bad
noncomputable def gy(a b:PV):Res PV:=if KW a&&KW b then .ok (.bl (!eqv a b)) else .bad
noncomputable def rK:PV->PV->Res PV
 |.int i,.int j=>.ok (.bl (decide (i<j)))
 |_,_=>.bad
noncomputable def rh:PV->PV->Res PV
 |.int i,.int j=>.ok (.bl (decide (i<=j)))
 |_,_=>.bad
noncomputable def uq:PV->PV->Res PV
 |.int i,.int j=>.ok (.bl (decide (j<i)))
 |_,_=>.bad
noncomputable def FP:PV->Bool
 |.aH=>true
 |_=>false
noncomputable def kc:PV->PV->Res PV
 |a,.aH=>.ok (.bl (!FP a))
 |_,_=>.bad
noncomputable def kU:PV->PV->Res PV
 |a,.bo ks _=>(Res.of (gQ a)).bind λk=>.ok (.bl (cm ks k))
 |_,_=>.bad
noncomputable def i6:PV->PV->Res PV
 |a,.bo ks _=>(Res.of (gQ a)).bind λk=>.ok (.bl (!cm ks k))
 |_,_=>.bad
noncomputable def dC:BJ->PV->PV->Res PV
 |.eq=>iQ|.ne=>gy|.lt=>rK|.le=>rh|.gt=>uq|.HN=>kc|.xy=>kU|.vi=>i6
noncomputable def bg:PV->PV->Res PV
 |.lst xs,.int i=>Res.of (tG xs i)
 |.tup xs,.int i=>Res.of (tG xs i)
 |.str z,.int i=>if z.length<=fF then(Res.of (tG z.cps.toList i)).bind λc=>.ok (.str ⟨#[c]⟩) else .bad
 |.bo ks vs,y=>(Res.of (gQ y)).bind λk=>Res.of (ag ks vs k)
 |_,_=>.bad
noncomputable def Kp{α:Type}(xs:List α)(lo hi:Option Int):List α:=(xs.drop (HT.eo xs.length 0 lo)).take (HT.eo xs.length xs.length hi-HT.eo xs.length 0 lo)
noncomputable def gD:PV->Option Int->Option Int->Res PV
 |.tup xs,lo,hi=>if HT.eo xs.length 0 lo=0/\HT.eo xs.length xs.length hi=xs.length then .bad else .ok (.tup (Kp xs lo hi))
 |_,_,_=>.bad
inductive B where|len|abs|max2|int|str|tuple|sorted|dict|vb
noncomputable def chars(z:Str):List PV:=z.cps.toList.map λc=>.str ⟨#[c]⟩
noncomputable def uH:List PV->Res PV
 |[.lst xs]=>.ok (.int xs.length)
 |[.tup xs]=>.ok (.int xs.length)
 |[.str z]=>if z.length<=fF then .ok (.int z.length) else .bad
 |[.bo ks _]=>.ok (.int ks.length)
 |_=>.bad
noncomputable def BY:List PV->Res PV
 |[.int i]=>.ok (.int (if i<0 then -i else i))
 |_=>.bad
noncomputable def BA:List PV->Res PV
 |[.int i,.int j]=>.ok (.int (if j>i then j else i))
 |_=>.bad
noncomputable def BN:List PV->Res PV
 |[.str z]=>if z.length<=640 then(Res.of (PySem.intText? z)).bind λn=>.ok (.int n) else .bad
 |_=>.bad
noncomputable def AG:List PV->Res PV
 |[.int i]=>if i.natAbs.log2<1920 then .ok (.str (toString i)) else .bad
 |_=>.bad
noncomputable def me:List PV->Res PV
 |[.lst xs]=>.ok (.tup xs)
 |_=>.bad
noncomputable def iY:List PV->Res PV
 |[.bo ks _]=>if decide (ks.length<64)&&ks.all (λk=>!k.isEmpty) then .ok (.lst (kL .aH (ks.map ah) ks)) else .bad
 |_=>.bad
noncomputable def mh(k:List Int):List (List Int)->List (List Int)
 |[]=>[k]
 |x::l=>if k=x then x::l else if HT.lexLt k x=true then k::x::l else x::mh k l
noncomputable def cb(nss:List (List Int)):List (List Int):=nss.foldr mh []
noncomputable def Gy:PV->Res PV
 |.lst xs=>(Res.of (fG xs)).bind λnss=>if nss.all St.Ay&&decide ((cb nss).length<=18) then .ok (.lst ((cb nss).map ah)) else .bad
 |_=>.bad
noncomputable def qM:List PV->Res PV
 |[.lst xs]=>(Res.of (intsOf xs)).bind λns=>if 0<ns.length then .ok (.int (aY ns (ns.length-1))) else .bad
 |_=>.bad
noncomputable def nX:List PV->Res PV
 |[.lst xs]=>(Res.of (va xs)).bind λps=>.ok (.bo (dQ ps [] []).1 (dQ ps [] []).2)
 |_=>.bad
noncomputable def dD:B->List PV->Res PV
 |.len=>uH|.abs=>BY|.max2=>BA|.int=>BN|.str=>AG|.tuple=>me|.sorted=>iY|.dict=>nX|.vb=>qM
inductive Ty where|int|bool|tuple
noncomputable def ip:Ty->PV->Bool
 |.int,.int _=>true
 |.int,.bl _=>true
 |.bool,.bl _=>true
 |.tuple,.tup _=>true
 |_,_=>false
noncomputable def ko(t:Ty):PV->Res PV
 |.exc _=>.bad
 |.bo _ _=>.bad
 |p=>.ok (.bl (ip t p))
inductive Tg where
 |one (i:Nat)|two (i j:Nat)
mutual
inductive E where
 |var (i:Nat)|iM (i:Nat)
 |cst (p:PV)
 |glob (g:Str) (p:PV)
 |call (f:Str) (as:Es)
 |j3 (i:Nat) (as:Es)
 |oC (f:Str) (as:Es) (g:Str) (idx:List Nat) (aU:List Nat)
 |blt (b:B) (as:Es)
 |ty (t:Ty) (a:E)
 |bin (o:KS) (a b:E)
 |cmp (o:BJ) (a b:E)
 |ch (o1 o2:BJ) (a b c:E)
 |not (a:E)
 |and (a b:E)|or (a b:E)
 |ite (c a b:E)
 |tup (as:Es)|lst (as:Es)
 |sub (a b:E)
 |slice (a:E) (lo hi:Oe)
 |comp (k:Nat) (aU:List Nat) (tg:Tg) (it:I) (elt:E)
 |cG (k:Nat) (aU:List Nat) (tg:Tg) (it:I) (c elt:E)
 |tR (a:E)
 |jx (a:E)
inductive Es where
 |nil|cons (e:E) (es:Es)
inductive Oe where
 |no|some (e:E)
inductive I where
 |seq (e:E)|pH (e:E)|o9 (a b:E)|enum (e:E)
end
mutual
inductive S where
 |expr (e:E)
 |set (i:Nat) (e:E)
 |own (i:Nat) (e:E)
 |bz (i:Nat)
 |app (i:Nat) (e:E)
 |ni (i:Nat) (e:E)
 |put (i:Nat) (k e:E)
 |ret (e:E)
 |ite (c:E) (a b:Ss)
 |da (tg:Tg) (it:I) (b:Ss)
 |Gf (c:E) (b:Ss)
 |raise (c:Str) (m:Str)
 |kh (i:Nat)
 |eO (i j n:Nat)
 |m8 (m i:Nat)
inductive Ss where
 |nil|cons (s:S) (ss:Ss)
end
noncomputable def eF:List Int->Nat->Nat->Int->Nat
 |[],_,b,_=>b
 |c::cs,j,b,m=>if c<m then eF cs (j+1) j c else eF cs (j+1) b m
noncomputable def AB:List Int->Option Nat
 |[]=>none
 |c::cs=>some (eF cs 1 0 c)
noncomputable def iE:List PV->Option (List Int)
 |[]=>some []
 |.tup (.int c::_)::r=>(iE r).map (c::·)
 |_=>none
abbrev bb:=Str->List PV->Res PV
noncomputable def og:Option Slot->Res PV
 |some (.val p)=>.ok p
 |_=>.bad
noncomputable def AS:Option Slot->Res PV
 |some (.val p)=>.ok p
 |some (.own p)=>.ok p
 |_=>.bad
noncomputable def Tg.put:Tg->PV->Sl->Res Sl
 |.one i,p,env=>.ok (env.set i (.val p))
 |.two i j,.tup [a,b],env=>.ok ((env.set i (.val a)).set j (.val b))
 |_,_,_=>.bad
noncomputable def jZ(env:Sl):List Nat->Res (List PV)
 |[]=>.ok []
 |i::r=>(og env[i]?).bind λp=>(jZ env r).bind λps=>.ok (p::ps)
noncomputable def eY(l:List PV):List Nat->Res (List PV)
 |[]=>.ok []
 |i::r=>(Res.of l[i]?).bind λp=>(eY l r).bind λps=>.ok (p::ps)
noncomputable def fC(env:Sl)(aU:List Nat):Sl:=aU.map λi=>env.getD i .no
noncomputable def itemsOf:PV->Res (List PV)
 |.lst xs=>.ok xs
 |.tup xs=>.ok xs
 |.str z=>.ok (chars z)
 |_=>.bad
noncomputable def A2(e:E)(p:PV):Res (List PV):=match p,e with
 |.bo _ _,.iM _=>.bad
 |.bo ks _,_=>.ok (ks.map ah)
 |.lst xs,_=>.ok xs
 |.tup xs,_=>.ok xs
 |_,_=>.bad
noncomputable def gr(lo:Int)(n:Nat):List PV:=(List.range n).map λi=>.int (lo+(i:Nat))
noncomputable def aV(i:Int):Bool:=decide (-(2^62)<=i)&&decide (i<2^62)
noncomputable def cC(n:Nat):List PV->List PV
 |[]=>[]
 |x::xs=>.tup [.int (n:Nat),x]::cC (n+1) xs
noncomputable def oc:Option PV->List PV->List PV
 |some y,ys=>y::ys
 |none,ys=>ys
noncomputable def aL(f:PV->Res (Option PV)):List PV->Res (List PV)
 |[]=>.ok []
 |x::xs=>(f x).well.bind λo=>(aL f xs).bind λys=>.ok (oc o ys)
noncomputable def pB{α:Type}(p:PV)(f:Bool->Res α):Res α:=match p with
 |.bl b=>f b
 |_=>.bad
section
variable(F:bb)
mutual
noncomputable def aD:E->Sl->Res PV
 |.var i,env=>og env[i]?
 |.iM i,env=>AS env[i]?
 |.cst p,_=>.ok p
 |.glob _ p,_=>.ok p
 |.call f as,env=>(cB as env).bind λps=>F f ps
 |.j3 i as,env=>match env[i]? with
  |some (.fn g idx cE)=>(cB as env).bind λps=>if idx.head?=some ps.length then(eY (ps++cE) idx.tail).bind λqs=>F g qs else .bad
  |_=>.bad
 |.oC f as _ _ aU,env=>(cB as env).bind λps=>(jZ env aU).bind λcs=>F f (ps++cs)
 |.blt b as,env=>(cB as env).bind λps=>dD b ps
 |.ty t a,env=>(aD a env).bind λp=>ko t p
 |.bin o a b,env=>(aD a env).bind λx=>(aD b env).bind λy=>binOp o x y
 |.cmp o a b,env=>(aD a env).bind λx=>(aD b env).bind λy=>dC o x y
 |.ch o1 o2 a b c,env=>(aD a env).bind λx=>(aD b env).bind λy=>(dC o1 x y).bind λt=>pB t λt=>
  if t then(aD c env).bind λz=>dC o2 y z else .ok (.bl false)
 |.not a,env=>(aD a env).bind λx=>pB x λb=>.ok (.bl (!b))
 |.and a b,env=>(aD a env).bind λx=>pB x λt=>if t then aD b env else .ok (.bl false)
 |.or a b,env=>(aD a env).bind λx=>pB x λt=>if t then .ok (.bl true) else aD b env
 |.ite c a b,env=>(aD c env).bind λx=>pB x λt=>if t then aD a env else aD b env
 |.tup as,env=>(cB as env).bind λps=>.ok (.tup ps)
 |.lst as,env=>(cB as env).bind λps=>.ok (.lst ps)
 |.sub a b,env=>(aD a env).bind λx=>(aD b env).bind λy=>bg x y
 |.slice a lo hi,env=>(aD a env).bind λx=>(wF lo env).bind λl=>(wF hi env).bind λh=>gD x l h
 |.comp k aU tg it elt,env=>(qV it env).bind λxs=>if xs.length<fF then(aL (λx=>(tg.put x (List.replicate k .no++fC env aU)).bind λav=>(aD elt av).bind λy=>.ok (some y)) xs).bind λys=>.ok (.lst ys) else .bad
 |.cG k aU tg it c elt,env=>(qV it env).bind λxs=>if xs.length<fF then(aL (λx=>(tg.put x (List.replicate k .no++fC env aU)).bind λav=>(aD c av).bind λt=>pB t λt=>if t then(aD elt av).bind λy=>.ok (some y) else .ok none) xs).bind λys=>.ok (.lst ys) else .bad
 |.tR a,env=>(aD a env).bind Gy
 |.jx a,env=>(aD a env).bind λp=>match p with|.lst xs=>(Res.of (intsOf xs)).bind λns=>.ok (if ns=[] then .aH else .int (aY ns (ns.length-1)))|_=>.bad
noncomputable def cB:Es->Sl->Res (List PV)
 |.nil,_=>.ok []
 |.cons e es,env=>(aD e env).bind λp=>(cB es env).bind λps=>.ok (p::ps)
noncomputable def wF:Oe->Sl->Res (Option Int)
 |.no,_=>.ok none
 |.some e,env=>(aD e env).bind λp=>match p with|.int i=>.ok (some i)|_=>.bad
noncomputable def qV:I->Sl->Res (List PV)
 |.seq e,env=>(aD e env).bind (A2 e)
 |.pH e,env=>(aD e env).bind λp=>match p with|.int j=>if aV j then .ok (gr 0 j.toNat) else .bad|_=>.bad
 |.o9 a b,env=>(aD a env).bind λp=>(aD b env).bind λq=>match p,q with|.int i,.int j=>if aV i&&aV j then .ok (gr i (j-i).toNat) else .bad|_,_=>.bad
 |.enum e,env=>(aD e env).bind λp=>(itemsOf p).bind λxs=>.ok (cC 0 xs)
end
end
inductive Fl where
 |nx (env:Sl)|bk (env:Sl)|ct (env:Sl)|rt (p:PV)
noncomputable def Fl.seq(f:Fl)(k:Sl->Res Fl):Res Fl:=match f with
 |.nx env=>k env
 |f=>.ok f
noncomputable def forL(body:PV->Sl->Res Fl):List PV->Sl->Res Fl
 |[],env=>.ok (.nx env)
 |x::xs,env=>(body x env).bind λf=>match f with
  |.nx av=>forL body xs av
  |.ct av=>forL body xs av
  |.bk av=>.ok (.nx av)
  |.rt p=>.ok (.rt p)
noncomputable def d5(c:Sl->Res PV)(body:Sl->Res Fl):Nat->Sl->Res Fl
 |0,_=>.bad
 |n+1,env=>(c env).bind λt=>pB t λt=>if t then(body env).bind λf=>(match f with
  |.nx av=>d5 c body n av
  |.ct av=>d5 c body n av
  |.bk av=>.ok (.nx av)
  |.rt p=>.ok (.rt p)) else .ok (.nx env)
abbrev WN:Nat:=1000000
noncomputable def qB:Slot->Slot
 |.own p=>.val p
 |s=>s
section
variable(F:bb)
mutual
noncomputable def fU:S->Sl->Res Fl
 |.expr e,env=>(aD F e env).bind λ_=>.ok (.nx env)
 |.set i e,env=>(aD F e env).bind λp=>.ok (.nx (env.set i (.val p)))
 |.own i e,env=>(aD F e env).bind λp=>.ok (.nx (env.set i (.own p)))
 |.bz i,env=>.ok (.nx (env.modify i qB))
 |.app i e,env=>match env[i]? with
  |some (.own (.lst xs))=>(aD F e env).bind λp=>if xs.length<fF then .ok (.nx (env.set i (.own (.lst (xs++[p]))))) else .bad
  |_=>.bad
 |.ni i e,env=>match env[i]? with
  |some (.own (.lst xs))=>(aD F e env).bind λp=>match p with
   |.lst ys=>if xs.length+ys.length<=fF then .ok (.nx (env.set i (.own (.lst (xs++ys))))) else .bad
   |_=>.bad
  |_=>.bad
 |.put i k e,env=>(aD F e env).bind λp=>match env[i]? with
  |some (.own (.bo ks vs))=>(aD F k env).bind λkp=>match gQ kp with
   |some kk=>if ks.length<fF then .ok (.nx (env.set i (.own (.bo (bp ks kk) (aX ks vs kk p))))) else .bad
   |none=>.bad
  |_=>.bad
 |.ret e,env=>(aD F e env).bind λp=>.ok (.rt p)
 |.ite c a b,env=>(aD F c env).bind λp=>pB p λt=>if t then aG a env else aG b env
 |.da tg it b,env=>(qV F it env).bind λxs=>forL (λx env=>(tg.put x env).bind λav=>aG b av) xs env
 |.Gf c b,env=>d5 (aD F c) (aG b) WN env
 |.raise c _,_=>.exc c
 |.kh i,env=>.ok (.nx (env.set i (.own (.bo [] []))))
 |.eO i j n,env=>match env[j]?,env[i]?,env[n]? with
  |some (.own (.bo ks vs)),some (.own (.bo ks2 vs2)),some (.val kp)=>match gQ kp with
   |some kk=>match ag ks vs kk with
    |some p=>if ks2.length<fF/\i≠j then .ok (.nx ((env.set j (.own (.bo (bQ ks kk) (aO ks vs kk)))).set i (.own (.bo (bp ks2 kk) (aX ks2 vs2 kk p))))) else .bad
    |none=>.bad
   |none=>.bad
  |_,_,_=>.bad
 |.m8 m i,env=>match env[i]? with
  |some (.own (.bo ks vs))=>match iE vs with
   |some cs=>match(AB cs).bind λx=>ks[x]? with
    |some k=>.ok (.nx (env.set m (.val (ah k))))
    |none=>.bad
   |none=>.bad
  |_=>.bad
noncomputable def aG:Ss->Sl->Res Fl
 |.nil,env=>.ok (.nx env)
 |.cons s ss,env=>(fU s env).bind λf=>f.seq (aG ss)
end
end
structure Def where
 N:List Str
 np:Nat
 body:Ss
 ib:Option (Str×List Nat):=none
noncomputable def cT(d:Def)(as:List PV):Sl:=match d.ib with
 |none=>as.map .val++List.replicate (d.N.length-as.length) .no
 |some q=>(as.take (d.np-1)).map .val++.fn q.1 q.2 (as.drop (d.np-1))::List.replicate (d.N.length-d.np) .no
noncomputable def cJ(d:Def)(as:List PV):Bool:=match d.ib with
 |none=>as.length==d.np
 |some _=>decide (0<d.np)&&decide (d.np-1<=as.length)
noncomputable def aA(F:bb)(d:Def)(as:List PV):Res PV:=
 if cJ d as then(aG F d.body (cT d as)).bind λf=>match f with
  |.nx _=>.ok .aH
  |.rt p=>.ok p
  |_=>.bad
 else .bad
noncomputable def den:List (Str×Def)->bb
 |[],_,_=>.bad
 |(n,d)::r,f,as=>if f==n then aA (den r) d as else den r f as
noncomputable abbrev ki(k:List Int):List Key:=k.map Sum.inl
def tP{a b:List Int}(h:ki a=ki b):a=b:=by
 induction a generalizing b with
 |nil=>cases b with|nil=>rfl|cons=>cases h
 |cons x a ih=>cases b with
  |nil=>cases h
  |cons y b=>simp! [ki,zzF,List.cons.injEq,Sum.inl.injEq] at h;rw [h.1,ih h.2]
def qw(k:List Int):(ki k).map kV=k.map V.int:=by
 unfold ki;rw [List.map_map]
 rfl
theorem iX{k:List Int}{ks:List (List Int)}{u:V}{us:List V}:kz (k::ks) (u::us)=(ki k,u)::kz ks us:=rfl
def fv{ks:List (List Int)}{us:List V}(h:ks.length=us.length):(kz ks us).length=ks.length:=by
 unfold kz;rw [List.length_zip,zzl];omega
def pZ{ks:List (List Int)}{us:List V}(h:ks.length=us.length):(kz ks us).map (·.1)=ks.map ki:=by
 unfold kz;exact List.map_fst_zip (by rw [zzl];omega)
theorem jn(k:List Int):∀(ks:List (List Int)) (us:List V),gV (kz ks us) (ki k)=ag ks us k
 |[],us=>by unfold ag;rfl
 |a::ks,[]=>by unfold ag;rfl
 |a::ks,u::us=>by
  rw [iX];unfold ag
  by_cases h:a=k
  ·subst h;rw [if_pos rfl];exact gb rfl
  ·rw [if_neg h,f7 (λz=>h (tP z))];exact jn k ks us
theorem kF{α:Type}(k:List Int):∀(ks:List (List Int)) (us:List α),ks.length=us.length->(ag ks us k).isSome=cm ks k
 |[],[],_=>rfl
 |a::ks,u::us,h=>by
  unfold ag cm;rw [List.any_cons]
  by_cases e:a=k
  ·simp [e]
  ·rw [if_neg e];have:=kF k ks us (by simpa using h)
   unfold cm at this;rw [this];simp [e]
 |[],_::_,h=>by simp at h
 |_::_,[],h=>by simp at h
def JA(k:List Int):∀(ks:List (List Int)) (us:List V),ks.length=us.length->((kz ks us).any λkv=>decide (kv.1=ki k))=cm ks k:=λks us h=>by
 rw [lW,jn,kF k ks us h]
def u4{ks:List (List Int)}{us:List V}(h:ks.length=us.length)(k:List Int)(v:V):putK (kz ks us) (ki k) v=kz (bp ks k) (aX ks us k v):=by
 unfold putK bp aX;rw [JA k ks us h];split
 ·have go:∀(ks:List (List Int)) (us:List V),(kz ks us).map (λkv=>if kv.1=ki k then(kv.1,v) else kv)=kz ks (List.zipWith (λk' u=>if k'=k then v else u) ks us):=by
   intro ks
   induction ks with
   |nil=>intro us;simp [kz]
   |cons a ks ih=>
    intro us;cases us with
    |nil=>simp [kz]
    |cons u us=>
     rw [iX,zzF,List.zipWith_cons_cons,iX,ih]
     by_cases e:a=k
     ·simp [e]
     ·rw [if_neg (λz=>e (tP z)),if_neg e]
  exact go ks us
 ·unfold kz;rw [List.map_append,List.zip_append (by rw [zzl];exact h)]
  rfl
def mM{α:Type}{ks:List (List Int)}{us:List α}(h:ks.length=us.length)(k:List Int)(v:α):(bp ks k).length=(aX ks us k v).length:=by
 unfold bp aX;split
 ·rw [List.length_zipWith];omega
 ·simp [h]
theorem vv(k:List Int):∀{ks:List (List Int)} {us:List V},ks.length=us.length->fI (kz ks us) (ki k)=kz (bQ ks k) (aO ks us k)
 |[],[],_=>rfl
 |a::ks,u::us,h=>by
  have ih:=vv k (ks:=ks) (us:=us) (by simpa using h)
  unfold bQ aO;rw [iX,zz3]
  by_cases e:a=k
  ·subst e;rw [xu rfl,ih];simp [bQ]
  ·rw [yB (λz=>e (tP z)),ih,if_neg e,if_pos (by simpa using e),iX]
   rfl
 |[],_::_,h=>by simp at h
 |_::_,[],h=>by simp at h
theorem su{α:Type}(k:List Int):∀{ks:List (List Int)} {us:List α},ks.length=us.length->(bQ ks k).length=(aO ks us k).length
 |[],[],_=>by unfold aO;rfl
 |a::ks,u::us,h=>by
  have ih:=su k (ks:=ks) (us:=us) (by simpa using h)
  unfold bQ aO;rw [zz3]
  by_cases e:a=k
  ·subst e;rw [if_neg (by simp),if_pos rfl];exact ih
  ·rw [if_neg e,if_pos (by simpa using e),zzL,zzL];exact congrArg (·+1) ih
 |[],_::_,h=>by simp at h
 |_::_,[],h=>by simp at h
section
variable{W:Wd}{G:Hp}
theorem pP{k:List Int}{p:PV}:∀{ks:List (List Int)} {ps:List PV} {us:List V},aj W G ps us->ag ks ps k=some p->∃v,ag ks us k=some v/\Rep W G p v
 |[],_,_,_,e=>by unfold ag at e;cases e
 |a::ks,[],_,_,e=>by unfold ag at e;cases e
 |a::ks,q::ps,_,l,e=>by
  obtain⟨v,r,rfl,h1,h2⟩:=l.bI
  unfold ag at e⊢
  by_cases h:a=k
  ·rw [if_pos h] at e⊢;cases e;exact⟨v,rfl,h1⟩
  ·rw [if_neg h] at e⊢;exact pP h2 e
theorem Bh{k:List Int}{p:PV}{v:V}(hp:Rep W G p v):∀{ks:List (List Int)} {ps:List PV} {us:List V},aj W G ps us->aj W G (List.zipWith (λk' v=>if k'=k then p else v) ks ps) (List.zipWith (λk' u=>if k'=k then v else u) ks us)
 |[],_,_,_=>by simp! [List.zipWith_nil_left];exact .nil
 |a::ks,[],_,l=>by simp! [aj] at l;subst l;simp! [List.zipWith_nil_right];exact .nil
 |a::ks,q::ps,_,l=>by
  obtain⟨u,r,rfl,h1,h2⟩:=l.bI
  rw [List.zipWith_cons_cons,List.zipWith_cons_cons];refine .cons ?_ (Bh hp h2);split
  ·exact hp
  ·exact h1
def qD{ks:List (List Int)}{ps:List PV}{us:List V}{k:List Int}{p:PV}{v:V}(l:aj W G ps us)(hp:Rep W G p v):aj W G (aX ks ps k p) (aX ks us k v):=by
 unfold aX;split
 ·exact Bh hp l
 ·exact l.append (.cons hp .nil)
theorem kW{k:List Int}:∀{ks:List (List Int)} {ps:List PV} {us:List V},aj W G ps us->aj W G (aO ks ps k) (aO ks us k)
 |[],_,_,_=>by unfold aO;exact .nil
 |a::ks,[],_,l=>by simp! [aj] at l;subst l;unfold aO;exact .nil
 |a::ks,q::ps,_,l=>by
  obtain⟨u,r,rfl,h1,h2⟩:=l.bI
  unfold aO;split
  ·exact kW h2
  ·exact .cons h1 (kW h2)
end
theorem oh:∀{xs:List PV} {ns:List Int},intsOf xs=some ns->xs=ns.map .int
 |[],_,e=>by cases e;rfl
 |.int i::r,_,e=>by
  unfold intsOf at e;obtain⟨ns,h1,rfl⟩:=zzJ.mp e
  rw [oh h1];rfl
 |.aH::_,_,e=>by cases e
 |.bl _::_,_,e=>by cases e
 |.str _::_,_,e=>by cases e
 |.tup _::_,_,e=>by cases e
 |.lst _::_,_,e=>by cases e
 |.exc _::_,_,e=>by cases e
 |.bo _ _::_,_,e=>by cases e
def eg{p:PV}{k:List Int}(h:gQ p=some k):p=ah k:=by
 unfold gQ at h;split at h
 ·rw [oh h];rfl
 ·cases h
end Ci
namespace L2
open PySem PySem.Spec PyProof.Rows
end L2
namespace Ci
open PySem L2
def lP{n:Nat}(h:n<=fF):n<=sizeLine:=zzU h (by decide)
section
variable{X:Cx}{W:Wd}{H0 G H:Hp}
def cZ(W:Wd)(G H:Hp)(r:PV)(Q:VK):Prop:=∀v G' H',aB W G H G' H'->Rep W G' r v->Q v H'
def cZ.at{r:PV}{Q:VK}{v:V}(h:cZ W G H r Q)(s:az G H)(k:Rep W G r v):Q v H:=h v G H (.refl s) k
def cZ.tup{xs:List PV}{Q:VK}{vs:List V}{p:Addr}(h:cZ W G H (.tup xs) Q)(s:az G H)(k:aj W G xs vs)(hp:H p=none):Q (.ref p) (upd H p (.tup vs)):=
 h _ _ _ (.new s hp) (.t (.inl aq) (aj.same (bx (s.free hp)) xs k))
def cZ.lst{xs:List PV}{Q:VK}{vs:List V}{p:Addr}(h:cZ W G H (.lst xs) Q)(s:az G H)(k:aj W G xs vs)(hp:H p=none):Q (.ref p) (upd H p (.lst vs)):=
 h _ _ _ (.new s hp) (.l (.inl (.inl aq)) (aj.same (bx (s.free hp)) xs k))
theorem kC{f:PV->PV->Bool}:∀{xs ys:List PV},xs.length≠ys.length->eqs f xs ys=false
 |[],[],h=>absurd rfl h
 |_::xs,_::ys,h=>by simp! [eqs];rw [kC (xs:=xs) (ys:=ys) (λz=>h (by simp [z]))];simp
 |[],_::_,_=>rfl
 |_::_,[],_=>rfl
theorem kI{f:PV->PV->Bool}:∀{xs ys:List PV},xs.length=ys.length->eqs f xs ys=(List.range xs.length).all λj=>f (xs.getD j .aH) (ys.getD j .aH)
 |[],[],_=>rfl
 |x::xs,y::ys,h=>by
  simp! [eqs];rw [kI (xs:=xs) (ys:=ys) (by simpa using h),zzL,List.range_succ_eq_map,List.all_cons,List.all_map]
  rfl
 |[],_::_,h=>by simp at h
 |_::_,[],h=>by simp at h
def oM{f:PV->PV->Bool}:∀{xs ys:List PV},((List.range (min xs.length ys.length)).all (λj=>f (xs.getD j .aH) (ys.getD j .aH))&&xs.length==ys.length)=eqs f xs ys:=λ{xs ys}=>by
 by_cases h:xs.length=ys.length
 ·rw [kI h,h,Nat.min_self,beq_self_eq_true,Bool.and_true]
 ·rw [kC h,beq_eq_false_iff_ne.mpr h,Bool.and_false]
theorem rE{f:PV->PV->Bool}:∀{xs ys:List PV},xs.length=ys.length->(∀(j:Nat) x y,xs[j]?=some x->ys[j]?=some y->f x y=true)->eqs f xs ys=true
 |[],[],_,_=>rfl
 |x::xs,y::ys,h,k=>by
  simp! [eqs];rw [k 0 x y rfl rfl,rE (xs:=xs) (ys:=ys) (by simpa using h) λj a b ha hb=>k (j+1) a b (by simpa using ha) (by simpa using hb)]
  rfl
 |[],_::_,h,_=>by simp at h
 |_::_,[],h,_=>by simp at h
def sX(hK:W.K=X.K){a:Addr}{vs:List V}(h:qJ W.K H a vs):fH X.K H a vs:=by
 rw [hK] at h;rcases h with h|⟨ax,n,h1,h2,h3⟩
 ·exact .inl h
 ·exact .inr ⟨_,ax,n,h1,rfl,rfl,rfl,h2,h3⟩
def sf{aa:List (Addr×Obj)}{σ:St}{s:Shared}(I:Inv X aa σ H s){a:Addr}{vs us:List V}(h1:eV X.K H a vs)(h2:fH X.K H a us):False:=by
 obtain⟨ax,_,⟨o,e,hc,_⟩,_⟩:=I.tuple h1
 obtain⟨dR,_,⟨o2,n,e2,hc2,_⟩,_⟩:=I.list h2
 rw [e] at e2;cases e2;rw [hc] at hc2;exact absurd hc2 (by decide)
theorem oA{α:Type}:∀{xs ys:List α},xs.length=ys.length->(∀(j:Nat) x y,xs[j]?=some x->ys[j]?=some y->x=y)->xs=ys
 |[],[],_,_=>rfl
 |x::xs,y::ys,h,k=>by rw [k 0 x y rfl rfl,oA (xs:=xs) (ys:=ys) (by simpa using h) λj a b ha hb=>k (j+1) a b (by simpa using ha) (by simpa using hb)]
 |[],_::_,h,_=>by simp at h
 |_::_,[],h,_=>by simp at h
def Ta(X:Cx)(W:Wd)(G H:Hp):PV->V->Prop
 |.aH,v=>v=.aH
 |.bl b,v=>v=.bl b
 |.int i,v=>v=.int i
 |.str z,v=>v=.str z
 |.tup xs,v=>∃a,v=.ref a/\∃vs,eV X.K H a vs/\aj W G xs vs
 |.lst xs,v=>∃a,v=.ref a/\∃vs,fH X.K H a vs/\aj W G xs vs
 |_,_=>False
def NJ(hK:W.K=X.K)(sg:az G H){n:Nat}{p:PV}{v:V}(hp:plain n p=true)(h:Top W H0 G H p v):Ta X W G H p v:=by
 cases p with
 |aH=>exact h.aH
 |bl b=>exact h.bl
 |int i=>exact h.int
 |str z=>exact h.str
 |tup xs=>
  obtain⟨a,vs,e,sq,l⟩:=h.tup sg
  rw [hK] at sq;exact⟨a,e,vs,sq,l⟩
 |lst xs=>
  obtain⟨a,vs,e,sq,l⟩:=h.lst sg
  exact⟨a,e,vs,sX hK sq,l⟩
 |exc c=>cases n<;>exact bG hp
 |bo a b=>cases n<;>exact bG hp
def CO{aa:List (Addr×Obj)}{σ:St}{s:Shared}(I:Inv X aa σ H s)(hK:W.K=X.K)(sg:az G H):∀(n:Nat) {p q:PV} {v:V},plain n p=true->plain n q=true->Top W H0 G H p v->Top W H0 G H q v->p=q:=by
 intro n
 induction n with
 |zero=>
  intro p q v hp hq h1 h2;have a:=NJ hK sg hp h1
  have b:=NJ hK sg hq h2
  cases p<;>cases q<;>first|exact bG hp|exact bG hq|(cases a;cases b;rfl)|(cases a;cases b)
 |succ n ih=>
  intro p q v hp hq h1 h2;have a:=NJ hK sg hp h1
  have b:=NJ hK sg hq h2
  have el:∀{xs ys:List PV} {vs:List V},xs.all (plain n)=true->ys.all (plain n)=true->aj W G xs vs->aj W G ys vs->xs=ys:=λ{xs ys vs} a1 a2 l1 l2=>
   oA (by rw [<-l1.length,l2.length]) λj x y ex ey=>by
    obtain⟨u,eu,ku⟩:=l1.nE ex
    obtain⟨y',ey',ky⟩:=l2.get eu
    rw [ey] at ey';cases ey';exact ih (zzT.mp a1 _ (zzD ex)) (zzT.mp a2 _ (zzD ey)) (.inl ku) (.inl ky)
  cases p<;>cases q<;>first|exact bG hp|exact bG hq|(cases a;cases b;done)|(cases a;cases b;rfl)|(obtain⟨_,e1,_⟩:=a;cases b;cases e1;done)|(obtain⟨_,e2,_⟩:=b;cases a;cases e2;done)|(obtain⟨x,rfl,vs,s1,l1⟩:=a;obtain⟨y,e2,us,s2,l2⟩:=b;cases e2;first|exact(sf I s1 s2).elim|exact(sf I s2 s1).elim|(cases I.oj s1 s2;rw [el hp hq l1 l2])|(cases I.qQ s1 s2;rw [el hp hq l1 l2]))
def AN:∀{n:Nat} {p:PV},plain n p=true->kE n p p=true:=by
 intro n
 induction n with
 |zero=>intro p h;cases p<;>first|exact bG h|rfl|exact beq_self_eq_true _
 |succ n ih=>
  intro p h;cases p<;>first|exact bG h|rfl|exact beq_self_eq_true _|exact rE rfl λj x y e1 e2=>by rw [e1] at e2;cases e2;exact ih (zzT.mp h _ (zzD e1))
def wH{aa:List (Addr×Obj)}{σ:St}{s:Shared}(I:Inv X aa σ H s)(hK:W.K=X.K)(sg:az G H):∀(n:Nat) {p q:PV} {v:V},plain n p=true->plain n q=true->Top W H0 G H p v->Top W H0 G H q v->kE n p q=true:=λn {p q v} hp hq h1 h2=>by
 cases CO I hK sg n hp hq h1 h2;exact AN hp
def kJ{x:V}{a:Addr}(r:RelV x (.ref a)):x=.ref a:=by
 cases x<;>first|(cases r;rfl)|(obtain⟨_,h⟩:=r;cases h)|cases r
def Td(W:Wd)(G:Hp)(h:Heap):PV->Value->Prop
 |.aH,v=>∃_t:Nat,v=.none/\True
 |.bl b,v=>∃_t:Nat,v=.bool b/\True
 |.int i,v=>∃t,v=.int i t/\True
 |.str z,v=>∃t,v=.str z t/\True
 |.tup xs,v=>∃a,v=.ref a/\∃ax vs,aj W G xs vs/\Vals vs ax/\h.IsTuple a ax.toArray
 |.lst xs,v=>∃a,v=.ref a/\∃ax vs,aj W G xs vs/\Vals vs ax/\h.IsList a ax.toArray
 |_,_=>False
def Gz{aa:List (Addr×Obj)}{σ:St}{s:Shared}(I:Inv X aa σ H s)(hK:W.K=X.K)(sg:az G H){n:Nat}{p:PV}{v:V}{v':Value}(hp:plain n p=true)(h:Top W H0 G H p v)(r:RelV v v'):Td W G s.heap p v':=by
 cases p with
 |aH=>cases h.aH;cases r;exact⟨0,rfl,trivial⟩
 |bl b=>cases h.bl;cases r;exact⟨0,rfl,trivial⟩
 |int i=>cases h.int;obtain⟨t,rfl⟩:=r;exact⟨t,rfl,trivial⟩
 |str z=>cases h.str;obtain⟨t,rfl⟩:=r;exact⟨t,rfl,trivial⟩
 |tup xs=>
  obtain⟨a,vs,rfl,sq,l⟩:=h.tup sg
  rw [hK] at sq;cases r;obtain⟨ax,q,z,_⟩:=I.tuple sq
  exact⟨a,rfl,ax,vs,l,q,z⟩
 |lst xs=>
  obtain⟨a,vs,rfl,sq,l⟩:=h.lst sg
  cases r;obtain⟨ax,q,z,_⟩:=I.list (sX hK sq)
  exact⟨a,rfl,ax,vs,l,q,z.isList⟩
 |exc c=>cases n<;>exact bG hp
 |bo a b=>cases n<;>exact bG hp
def rO(W:Wd)(G:Hp)(s:Shared)(n:Nat)(A:Around)(xs ys:List PV):Prop:=∀{vs us:List V} {ax dR:List Value},aj W G xs vs->aj W G ys us->Vals vs ax->Vals us dR->∀j (h1:j<ax.toArray.size) (h2:j<dR.toArray.size),SeqAt.EqAt A s ax.toArray[j] dR.toArray[j] (kE n (xs.getD j .aH) (ys.getD j .aH))
theorem zK{s:Shared}{n:Nat}{A:Around}{xs ys:List PV}(h:∀{p q:PV} {v u:V} {v' u':Value},plain n p=true->plain n q=true->Rep W G p v->Rep W G q u->RelV v v'->RelV u u'->SeqAt.EqAt A s v' u' (kE n p q))(a1:xs.all (plain n)=true)(a2:ys.all (plain n)=true):rO W G s n A xs ys:=λ{vs us ax dR} l1 l2 q1 q2 j g1 g2=>by
 obtain⟨x,hx,rx⟩:=B8 q1 g1
 obtain⟨y,hy,ry⟩:=B8 q2 g2
 obtain⟨px,ex,kx⟩:=l1.get hx
 obtain⟨py,ey,ky⟩:=l2.get hy
 rw [zzK,zzK,ex,ey];exact h (zzT.mp a1 _ (zzD ex)) (zzT.mp a2 _ (zzD ey)) kx ky rx ry
def wX{s:Shared}{n:Nat}{A:Around}{a b:Addr}{xs ys:List PV}(hu:A.units<cLine)(el:rO W G s n A.in1 xs ys)(k1:∃ax vs,aj W G xs vs/\Vals vs ax/\s.heap.IsTuple a ax.toArray)(k2:∃ax vs,aj W G ys vs/\Vals vs ax/\s.heap.IsTuple b ax.toArray):SeqAt.RcAt A s (.ref a) (.ref b) (eqs (kE n) xs ys):=by
 obtain⟨ax,vs,l,q1,z1⟩:=k1
 obtain⟨dR,us,l2,q2,z2⟩:=k2
 have m1:ax.length=xs.length:=by rw [<-q1.length,l.length]
 have m2:dR.length=ys.length:=by rw [<-q2.length,l2.length]
 have:=SeqAt.RcAt.tuples (e:=λj=>kE n (xs.getD j .aH) (ys.getD j .aH)) z1 z2 hu (el l l2 q1 q2)
 rw [zzC,zzC,m1,m2,oM] at this;exact this
def xf{s:Shared}{n:Nat}{A:Around}{a b:Addr}{xs ys:List PV}(hu:A.units<cLine)(el:rO W G s n A.in1 xs ys)(k1:∃ax vs,aj W G xs vs/\Vals vs ax/\s.heap.IsList a ax.toArray)(k2:∃ax vs,aj W G ys vs/\Vals vs ax/\s.heap.IsList b ax.toArray):SeqAt.RcAt A s (.ref a) (.ref b) (eqs (kE n) xs ys):=by
 obtain⟨ax,vs,l,q1,z1⟩:=k1
 obtain⟨dR,us,l2,q2,z2⟩:=k2
 have m1:ax.length=xs.length:=by rw [<-q1.length,l.length]
 have m2:dR.length=ys.length:=by rw [<-q2.length,l2.length]
 by_cases hl:xs.length=ys.length
 ·have:=SeqAt.RcAt.lists (e:=λj=>kE n (xs.getD j .aH) (ys.getD j .aH)) z1 z2 (by rw [zzC,zzC];omega) hu (el l l2 q1 q2)
  rw [zzC,m1,<-kI hl] at this;exact this
 ·have:=SeqAt.RcAt.lists_lengths z1 z2 (by rw [zzC,zzC,m1,m2];simp [hl]) hu
  rw [kC hl];exact this
open SeqAt.EqAt in
def Ga{aa:List (Addr×Obj)}{σ:St}{s:Shared}(I:Inv X aa σ H s)(hK:W.K=X.K)(sg:az G H):∀(n:Nat) {A:Around} {p q:PV} {v u:V} {v' u':Value},A.units+(n+1)<cLine->plain n p=true->plain n q=true->Top W H0 G H p v->Top W H0 G H q u->RelV v v'->RelV u u'->
 SeqAt.EqAt A s v' u' (kE n p q):=by
 intro n
 induction n with
 |zero=>
  intro A p q v u v' u' hu hp hq h1 h2 r1 r2;have a:=Gz I hK sg hp h1 r1
  have b:=Gz I hK sg hq h2 r2
  cases p<;>cases q<;>first|exact bG hp|exact bG hq|(obtain⟨t1,rfl,_⟩:=a;obtain⟨t2,rfl,_⟩:=b)
  exact same _
  exact none_bool _
  exact none_int _ _
  exact none_str _ _
  exact bool_none _
  exact bool_bool _ _
  exact bool_int _ _ _
  exact bool_str _ _ _
  exact int_none _ _
  exact int_bool _ _ _
  exact int_int _ _ _ _
  exact int_str _ _ _ _
  exact str_none _ _
  exact str_bool _ _ _
  exact str_int _ _ _ _
  exact str_str _ _ _ _
 |succ n ih=>
  intro A p q v u v' u' hu hp hq h1 h2 r1 r2;have cK:A.units<cLine:=by omega
  have a:=Gz I hK sg hp h1 r1
  have b:=Gz I hK sg hq h2 r2
  have el:∀{xs ys:List PV},xs.all (plain n)=true->ys.all (plain n)=true->rO W G s n A.in1 xs ys:=λa1 a2=>zK (λhp hq h1 h2 r1 r2=>ih (by show A.units+1+(n+1)<_;omega) hp hq (.inl h1) (.inl h2) r1 r2) a1 a2
  cases p<;>cases q<;>first|exact bG hp|exact bG hq|(obtain⟨t1,rfl,k1⟩:=a;obtain⟨t2,rfl,k2⟩:=b;try obtain⟨_,_,_,_,z1⟩:=id k1;try obtain⟨_,_,_,_,z2⟩:=id k2)
  exact same _
  exact none_bool _
  exact none_int _ _
  exact none_str _ _
  exact none_tuple z2 cK
  exact none_list z2 cK
  exact bool_none _
  exact bool_bool _ _
  exact bool_int _ _ _
  exact bool_str _ _ _
  exact bool_tuple _ z2 cK
  exact bool_list _ z2 cK
  exact int_none _ _
  exact int_bool _ _ _
  exact int_int _ _ _ _
  exact int_str _ _ _ _
  exact int_tuple _ _ z2 cK
  exact int_list _ _ z2 cK
  exact str_none _ _
  exact str_bool _ _ _
  exact str_int _ _ _ _
  exact str_str _ _ _ _
  exact str_tuple _ _ z2 cK
  exact str_list _ _ z2 cK
  exact tuple_none z1 cK
  exact tuple_bool _ z1 cK
  exact tuple_int _ _ z1 cK
  exact tuple_str _ _ z1 cK
  by_cases ff:t1=t2
  ·subst ff;cases kJ r1;cases kJ r2;rw [wH I hK sg (n+1) hp hq h1 h2];exact same _
  ·exact of_refs ff (wX cK (el hp hq) k1 k2)
  exact tuple_list z1 z2 cK
  exact list_none z1 cK
  exact list_bool _ z1 cK
  exact list_int _ _ z1 cK
  exact list_str _ _ z1 cK
  exact list_tuple z1 z2 cK
  by_cases ff:t1=t2
  ·subst ff;cases kJ r1;cases kJ r2;rw [wH I hK sg (n+1) hp hq h1 h2];exact same _
  ·exact of_refs ff (xf cK (el hp hq) k1 k2)
end
section
variable{X:Cx}{W:Wd}{H0 G H:Hp}
open SeqAt.RcAt in
def MF{aa:List (Addr×Obj)}{σ:St}{s:Shared}(I:Inv X aa σ H s)(hK:W.K=X.K)(sg:az G H)(n:Nat){A:Around}{p q:PV}{v u:V}{v' u':Value}(hu:A.units+(n+2)<cLine)(hp:plain (n+1) p=true)(hq:plain (n+1) q=true)(h1:Top W H0 G H p v)(h2:Top W H0 G H q u)(r1:RelV v v')(r2:RelV u u'):
 SeqAt.RcAt A s v' u' (kE (n+1) p q):=by
 have cK:A.units<cLine:=by omega
 have a:=Gz I hK sg hp h1 r1
 have b:=Gz I hK sg hq h2 r2
 have el:∀{xs ys:List PV},xs.all (plain n)=true->ys.all (plain n)=true->rO W G s n A.in1 xs ys:=λa1 a2=>zK (λhp hq h1 h2 r1 r2=>Ga (H0:=H0) I hK sg n (by show A.units+1+(n+1)<_;omega) hp hq (.inl h1) (.inl h2) r1 r2) a1 a2
 cases p<;>cases q<;>first|exact bG hp|exact bG hq|(obtain⟨t1,rfl,k1⟩:=a;obtain⟨t2,rfl,k2⟩:=b;try obtain⟨_,_,_,_,z1⟩:=id k1;try obtain⟨_,_,_,_,z2⟩:=id k2)
 exact none_none
 exact none_bool _
 exact none_int _ _
 exact none_str _ _
 exact none_tuple z2 cK
 exact none_list z2 cK
 exact bool_none _
 exact bool_bool _ _
 exact bool_int _ _ _
 exact bool_str _ _ _
 exact bool_tuple _ z2 cK
 exact bool_list _ z2 cK
 exact int_none _ _
 exact int_bool _ _ _
 exact int_int _ _ _ _
 exact int_str _ _ _ _
 exact int_tuple _ _ z2 cK
 exact int_list _ _ z2 cK
 exact str_none _ _
 exact str_bool _ _ _
 exact str_int _ _ _ _
 exact str_str _ _ _ _
 exact str_tuple _ _ z2 cK
 exact str_list _ _ z2 cK
 exact tuple_none z1 cK
 exact tuple_bool _ z1 cK
 exact tuple_int _ _ z1 cK
 exact tuple_str _ _ z1 cK
 exact wX cK (el hp hq) k1 k2
 exact tuple_list z1 z2 cK
 exact list_none z1 cK
 exact list_bool _ z1 cK
 exact list_int _ _ z1 cK
 exact list_str _ _ z1 cK
 exact list_tuple z1 z2 cK
 exact xf cK (el hp hq) k1 k2
def xC{s:Shared}{n:Nat}{A:Around}{a b:Addr}{xs ys:List PV}(hu:A.units<cLine)(el:rO W G s n A.in1 xs ys)(k1:∃ax vs,aj W G xs vs/\Vals vs ax/\s.heap.IsTuple a ax.toArray)(k2:∃ax vs,aj W G ys vs/\Vals vs ax/\s.heap.IsTuple b ax.toArray):SeqAt.RcNeAt A s (.ref a) (.ref b) (!eqs (kE n) xs ys):=by
 obtain⟨ax,vs,l,q1,z1⟩:=k1
 obtain⟨dR,us,l2,q2,z2⟩:=k2
 have m1:ax.length=xs.length:=by rw [<-q1.length,l.length]
 have m2:dR.length=ys.length:=by rw [<-q2.length,l2.length]
 have:=SeqAt.RcNeAt.tuples (e:=λj=>kE n (xs.getD j .aH) (ys.getD j .aH)) z1 z2 hu (el l l2 q1 q2)
 rw [zzC,zzC,m1,m2,oM] at this;exact this
def xE{s:Shared}{n:Nat}{A:Around}{a b:Addr}{xs ys:List PV}(hu:A.units<cLine)(el:rO W G s n A.in1 xs ys)(k1:∃ax vs,aj W G xs vs/\Vals vs ax/\s.heap.IsList a ax.toArray)(k2:∃ax vs,aj W G ys vs/\Vals vs ax/\s.heap.IsList b ax.toArray):SeqAt.RcNeAt A s (.ref a) (.ref b) (!eqs (kE n) xs ys):=by
 obtain⟨ax,vs,l,q1,z1⟩:=k1
 obtain⟨dR,us,l2,q2,z2⟩:=k2
 have m1:ax.length=xs.length:=by rw [<-q1.length,l.length]
 have m2:dR.length=ys.length:=by rw [<-q2.length,l2.length]
 by_cases hl:xs.length=ys.length
 ·have:=SeqAt.RcNeAt.lists (e:=λj=>kE n (xs.getD j .aH) (ys.getD j .aH)) z1 z2 (by rw [zzC,zzC];omega) hu (el l l2 q1 q2)
  rw [zzC,m1,<-kI hl] at this;exact this
 ·have:=SeqAt.RcNeAt.lists_lengths z1 z2 (by rw [zzC,zzC,m1,m2];simp [hl]) hu
  rw [kC hl];exact this
open SeqAt.RcNeAt in
def D6{aa:List (Addr×Obj)}{σ:St}{s:Shared}(I:Inv X aa σ H s)(hK:W.K=X.K)(sg:az G H)(n:Nat){A:Around}{p q:PV}{v u:V}{v' u':Value}(hu:A.units+(n+2)<cLine)(hp:plain (n+1) p=true)(hq:plain (n+1) q=true)(h1:Top W H0 G H p v)(h2:Top W H0 G H q u)(r1:RelV v v')(r2:RelV u u'):
 SeqAt.RcNeAt A s v' u' (!kE (n+1) p q):=by
 have cK:A.units<cLine:=by omega
 have a:=Gz I hK sg hp h1 r1
 have b:=Gz I hK sg hq h2 r2
 have el:∀{xs ys:List PV},xs.all (plain n)=true->ys.all (plain n)=true->rO W G s n A.in1 xs ys:=λa1 a2=>zK (λhp hq h1 h2 r1 r2=>Ga (H0:=H0) I hK sg n (by show A.units+1+(n+1)<_;omega) hp hq (.inl h1) (.inl h2) r1 r2) a1 a2
 cases p<;>cases q<;>first|exact bG hp|exact bG hq|(obtain⟨t1,rfl,k1⟩:=a;obtain⟨t2,rfl,k2⟩:=b;try obtain⟨_,_,_,_,z1⟩:=id k1;try obtain⟨_,_,_,_,z2⟩:=id k2)
 exact none_none
 exact none_bool _
 exact none_int _ _
 exact none_str _ _
 exact none_tuple z2 cK
 exact none_list z2 cK
 exact bool_none _
 exact bool_bool _ _
 exact bool_int _ _ _
 exact bool_str _ _ _
 exact bool_tuple _ z2 cK
 exact bool_list _ z2 cK
 exact int_none _ _
 exact int_bool _ _ _
 exact int_int _ _ _ _
 exact int_str _ _ _ _
 exact int_tuple _ _ z2 cK
 exact int_list _ _ z2 cK
 exact str_none _ _
 exact str_bool _ _ _
 exact str_int _ _ _ _
 exact str_str _ _ _ _
 exact str_tuple _ _ z2 cK
 exact str_list _ _ z2 cK
 exact tuple_none z1 cK
 exact tuple_bool _ z1 cK
 exact tuple_int _ _ z1 cK
 exact tuple_str _ _ z1 cK
 exact xC cK (el hp hq) k1 k2
 exact tuple_list z1 z2 cK
 exact list_none z1 cK
 exact list_bool _ z1 cK
 exact list_int _ _ z1 cK
 exact list_str _ _ z1 cK
 exact list_tuple z1 z2 cK
 exact xE cK (el hp hq) k1 k2
end
end Ci
namespace L2
open PySem PySem.Spec PyProof.Rows
open PySem.AutoSeq1 (wpAny_loadPart')
end L2
namespace Ci
open PySem L2
section
variable{X:Cx}{W:Wd}
def Fz(hK:W.K=X.K){aa:List (Addr×Obj)}{σ:St}{H:Hp}{s:Shared}{a:Addr}{xs:List V}(I:Inv X aa σ H s)(h:qJ W.K H a xs):∃(ax:List Value) (n:Nat),Vals xs ax/\xs.length=ax.length/\xs.length<=sizeLine/\s.heap.get? a=some {cls:=.type "list",data:=.seq ax.toArray n}:=by
 rw [hK] at h;rcases h with h|⟨ax,n,h1,h2,h3⟩
 ·obtain⟨z,ax,n,r,e⟩:=h.ok I.aK
  exact⟨ax,n,r,r.length,z,e⟩
 ·refine⟨ax.toList,n,h3,h3.length,?_,by simpa using I.tj a _ h1⟩;rw [h3.length,zzd];exact h2
def DY(hK:W.K=X.K):ik X (binaryOp .Add) (λx y H Q=>∃l b xs zs,x=.ref l/\y=.ref b/\qJ W.K H l xs/\qJ W.K H b zs/\xs.length+zs.length<=sizeLine/\∀p,H p=none->Q (.ref p) (upd H p (.lst (xs++zs)))):=by
 intro aa s σ H x y v u Q I rx ry h;obtain⟨l,b,xs,zs,rfl,rfl,hH,hB,hz,q⟩:=h
 cases rx;cases ry;obtain⟨ax,n,r,hl,_,e⟩:=Fz hK I hH
 obtain⟨dR,n2,r2,Qc,_,e2⟩:=Fz hK I hB
 refine PySem.P.add_list e e2 ?_ (by rw [zzC,zzC];omega);have ea:ax.toArray++dR.toArray=(ax++dR).toArray:=by simp
 rw [ea];exact⟨.ref _,_,I.O9 (t':=s.toks) (r.append r2) (by rw [zzM];omega),rfl,q _ I.fresh⟩
noncomputable def Qf:KS->Operator
 |.add=>.Add|.sub=>.Sub|.mul=>.Mult|.mod=>.Mod|.fdiv=>.FloorDiv
noncomputable def wD(W:Wd)(f:PV->PV->Res PV):R2:=λx y H Q=>∃H0 G p q r,az G H/\Top W H0 G H p x/\Top W H0 G H q y/\f p q=.ok r/\cZ W G H r Q
def JH(hK:W.K=X.K)(o:KS):ik X (binaryOp (Qf o)) (wD W (binOp o)):=by
 intro aa s σ H x y v u Q I rx ry h;obtain⟨H0,G,p,q,r,sg,t1,t2,e,wq⟩:=h
 unfold binOp at e;split at e
 ·cases e;exact H9 aa s σ H x y v u Q I rx ry ⟨_,_,t1.int,t2.int,wq.at sg .i⟩
 ·split at e
  ·rename_i hl;cases e;exact uC aa s σ H x y v u Q I rx ry ⟨_,_,t1.str,t2.str,lP hl,wq.at sg .s⟩
  ·cases e
 ·split at e
  ·rename_i hl;cases e;obtain⟨a,vs,rfl,h1,l1⟩:=t1.lst sg
   obtain⟨b,us,rfl,h2,l2⟩:=t2.lst sg
   exact DY hK aa s σ H _ _ v u Q I rx ry ⟨a,b,vs,us,rfl,rfl,h1,h2,by rw [l1.length,l2.length];exact lP hl,λp hp=>wq.lst sg (l1.append l2) hp⟩
  ·cases e
 ·cases e;exact Hy aa s σ H x y v u Q I rx ry ⟨_,_,t1.int,t2.int,wq.at sg .i⟩
 ·split at e
  ·rename_i hc;cases e;refine HV aa s σ H x y v u Q I rx ry ⟨_,_,t1.int,t2.int,?_,wq.at sg .i⟩;rw [zzt] at hc;unfold aN at hc;simp! [zza,zzN] at hc;exact hc
  ·cases e
 ·split at e
  ·rename_i hc;cases e;exact JM aa s σ H x y v u Q I rx ry ⟨_,_,t1.int,t2.int,hc,wq.at sg .i⟩
  ·cases e
 ·split at e
  ·rename_i hc;cases e;exact D4 aa s σ H x y v u Q I rx ry ⟨_,_,t1.int,t2.int,hc,wq.at sg .i⟩
  ·cases e
 ·cases e
noncomputable def qG:BJ->CmpOp
 |.eq=>.Eq|.ne=>.NotEq|.lt=>.Lt|.le=>.LtE|.gt=>.Gt|.HN=>.IsNot|.xy=>.In|.vi=>.NotIn
def v9{aa:List (Addr×Obj)}{σ:St}{H G:Hp}{s:Shared}{Q:VK}{k:Bool}(I:Inv X aa σ H s)(sg:az G H)(wq:cZ W G H (.bl k) Q):EP X aa σ Q (.bool k) s:=⟨.bl k,H,I,rfl,wq.at sg .b⟩
def Jc(hK:W.K=X.K)(hu:X.A.units+64<cLine):ik X (compareOp .Eq) (wD W iQ):=by
 intro aa s σ H x y v u Q I rx ry h;obtain⟨H0,G,p,q,r,sg,t1,t2,e,wq⟩:=h
 unfold iQ at e;split at e
 ·rename_i hc;rw [zza] at hc;cases e;exact MF I hK sg 8 (by omega) hc.1 hc.2 t1 t2 rx ry _ _ _ _ (v9 I sg wq)
 ·cases e
def GN(hK:W.K=X.K)(hu:X.A.units+64<cLine):ik X (compareOp .NotEq) (wD W gy):=by
 intro aa s σ H x y v u Q I rx ry h;obtain⟨H0,G,p,q,r,sg,t1,t2,e,wq⟩:=h
 unfold gy at e;split at e
 ·rename_i hc;rw [zza] at hc;cases e;exact D6 I hK sg 8 (by omega) hc.1 hc.2 t1 t2 rx ry _ _ _ _ (v9 I sg wq)
 ·cases e
theorem iG{G:Hp}:∀{xs:List PV} {vs:List V} {ns:List Int},aj W G xs vs->intsOf xs=some ns->vs=ns.map V.int
 |[],vs,ns,h,e=>by simp! [aj] at h;subst h;cases e;rfl
 |.int i::r,vs,ns,h,e=>by
  obtain⟨v,t,rfl,h1,h2⟩:=h.bI
  simp! [Rep] at h1;subst h1;unfold intsOf at e;obtain⟨m,hm,rfl⟩:=zzJ.mp e
  rw [iG h2 hm]
  rfl
 |.aH::_,_,_,_,e=>by cases e
 |.bl _::_,_,_,_,e=>by cases e
 |.str _::_,_,_,_,e=>by cases e
 |.tup _::_,_,_,_,e=>by cases e
 |.lst _::_,_,_,_,e=>by cases e
 |.exc _::_,_,_,_,e=>by cases e
 |.bo _ _::_,_,_,_,e=>by cases e
def Res.of_ok{α:Type}{o:Option α}{a:α}(h:Res.of o=.ok a):o=some a:=by
 cases o with
 |none=>cases h
 |some b=>cases h;rfl
def HX(hK:W.K=X.K)(hu:X.A.units+64<cLine):ik X (compareOp .Lt) (wD W rK):=by
 intro aa s σ H x y v u Q I rx ry h;obtain⟨H0,G,p,q,r,sg,t1,t2,e,wq⟩:=h
 unfold rK at e;split at e
 ·cases e;exact Me aa s σ H x y v u Q I rx ry ⟨_,_,t1.int,t2.int,wq.at sg .b⟩
 ·cases e
def JC:ik X (compareOp .LtE) (wD W rh):=by
 intro aa s σ H x y v u Q I rx ry h;obtain⟨H0,G,p,q,r,sg,t1,t2,e,wq⟩:=h
 unfold rh at e;split at e
 ·cases e;exact M5 aa s σ H x y v u Q I rx ry ⟨_,_,t1.int,t2.int,wq.at sg .b⟩
 ·cases e
def Ju:ik X (compareOp .Gt) (wD W uq):=by
 intro aa s σ H x y v u Q I rx ry h;obtain⟨H0,G,p,q,r,sg,t1,t2,e,wq⟩:=h
 unfold uq at e;split at e
 ·cases e;exact LK aa s σ H x y v u Q I rx ry ⟨_,_,t1.int,t2.int,wq.at sg .b⟩
 ·cases e
def x9{H0 G H:Hp}{p:PV}{x:V}(sg:az G H)(t:Top W H0 G H p x):decide (x=.aH)=FP p:=by
 cases p with
 |aH=>cases t.aH;rfl
 |bl b=>cases t.bl;rfl
 |int b=>cases t.int;rfl
 |str b=>cases t.str;rfl
 |tup b=>obtain⟨a,vs,rfl,_⟩:=t.tup sg;rfl
 |lst b=>obtain⟨a,vs,rfl,_⟩:=t.lst sg;rfl
 |bo b c=>obtain⟨a,vs,rfl,_⟩:=t.bo sg;rfl
 |exc c=>
  rcases t with t|t
  ·simp! [Rep] at t;obtain⟨a,C,rfl,_⟩:=t
   rfl
  ·exact t.elim
def ED:ik X (compareOp .IsNot) (wD W kc):=by
 intro aa s σ H x y v u Q I rx ry h;obtain⟨H0,G,p,q,r,sg,t1,t2,e,wq⟩:=h
 unfold kc at e;split at e
 ·cases e;refine E7 aa s σ H x y v u Q I rx ry ⟨t2.aH,?_⟩;rw [x9 sg t1];exact wq.at sg .b
 ·cases e
variable{H0 G H:Hp}
def HK(hK:W.K=X.K)(hu:X.A.units+64<cLine):ik X (compareOp .In) (wD W kU):=by
 intro aa s σ H x y v u Q I rx ry h;obtain⟨H0,G,p,q,r,sg,t1,t2,e,wq⟩:=h
 have Qe:X.A.in1.units+32<cLine:=by show X.A.units+1+32<_;omega
 unfold kU at e;split at e
 ·obtain⟨k,hk,e⟩:=Res.aR e
  cases e;have hk:=eg (Res.of_ok hk)
  subst hk;obtain⟨b,rfl,hb⟩:=t1.tupI (ns:=k) sg rfl
  obtain⟨a,us,rfl,n,hd,l⟩:=t2.bo sg
  cases ry;refine Ql (show X.A.units+1<cLine by omega) I (.inr ⟨_,ki k,b,hd,rfl,(by rw [qw];exact sg _ _ hb),rfl⟩) rx λs' I'=>?_
  rw [jn,kF k _ us n];exact v9 I' sg wq
 ·cases e
def DE(hK:W.K=X.K)(hu:X.A.units+64<cLine):ik X (compareOp .NotIn) (wD W i6):=by
 intro aa s σ H x y v u Q I rx ry h;obtain⟨H0,G,p,q,r,sg,t1,t2,e,wq⟩:=h
 have Qe:X.A.in1.units+32<cLine:=by show X.A.units+1+32<_;omega
 unfold i6 at e;split at e
 ·obtain⟨k,hk,e⟩:=Res.aR e
  cases e;have hk:=eg (Res.of_ok hk)
  subst hk;obtain⟨b,rfl,hb⟩:=t1.tupI (ns:=k) sg rfl
  obtain⟨a,us,rfl,n,hd,l⟩:=t2.bo sg
  cases ry;refine Dx (show X.A.units+1<cLine by omega) I (.inr ⟨_,ki k,b,hd,rfl,(by rw [qw];exact sg _ _ hb),rfl⟩) rx λs' I'=>?_
  rw [jn,kF k _ us n];exact v9 I' sg wq
 ·cases e
theorem gG(hK:W.K=X.K)(hu:X.A.units+64<cLine):∀o:BJ,ik X (compareOp (qG o)) (wD W (dC o))
 |.eq=>Jc hK hu|.ne=>GN hK hu|.lt=>HX hK hu|.le=>JC|.gt=>Ju|.HN=>ED|.xy=>HK hK hu|.vi=>DE hK hu
def vR{ps:List PV}{vs:List V}{i:Int}{p:PV}(l:aj W G ps vs)(h:tG ps i=some p):∃v,tG vs i=some v/\Rep W G p v:=by
 unfold tG at h⊢;rw [l.length];cases e:JY ps.length i with
 |none=>rw [e] at h;cases h
 |some j=>
  rw [e] at h;exact l.nE h
def Hm(hu:X.A.units+1<cLine):KG X (λx y H Q=>∃a au k b v,x=.ref a/\Rd H a (.dT au)/\y=.ref b/\H b=some (.tup (k.map kV))/\gV au k=some v/\Q v H):=by
 intro value slice aa s σ H x y v u Q I rx ry h hs;obtain⟨a,au,k,b,z,rfl,hd,rfl,hb,hv,q⟩:=h
 cases rx;cases ry;obtain⟨_,_,xs,rel,dd⟩:=j5 I.aK hd
 obtain⟨w',hw,jg⟩:=km.some_of (v:=z) (o:=(atKey xs k).map (·.2)) (by rw [<-hv];exact rel.val k)
 obtain⟨p,hp,hp2⟩:=zzJ.mp hw
 exact PyProof.Rows.subscriptTail_builtinR (x:=w') dd.typeIs PySem.F.slot_dict_getitem.lookup (wpAny_getItem_heap (Q:=λr s'=>r=w'/\EP X aa σ Q r s') (tupleKind_room_in1 hu) (fY I.aK hb) dd hp ⟨hp2,by rw [hp2];exact⟨z,H,I.tok _,jg,q⟩⟩) hs
def QJ(hK:W.K=X.K)(hu:X.A.units+64<cLine):KG X (wD W bg):=by
 intro value slice aa s σ H x y v u Q I rx ry h hs;obtain⟨H0,G,p,q,r,sg,t1,t2,e,wq⟩:=h
 unfold bg at e;split at e
 ·obtain⟨a,vs,rfl,h1,l1⟩:=t1.lst sg
  obtain⟨w,hw,kw⟩:=vR l1 (Res.of_ok e)
  exact Ez value slice aa s σ H _ y v u Q I rx ry ⟨a,vs,_,w,rfl,t2.int,sX hK h1,hw,wq.at sg kw⟩ hs
 ·obtain⟨a,vs,rfl,h1,l1⟩:=t1.tup sg
  rw [hK] at h1;obtain⟨w,hw,kw⟩:=vR l1 (Res.of_ok e)
  exact y9 value slice aa s σ H _ y v u Q I rx ry ⟨a,vs,_,w,rfl,t2.int,h1,hw,wq.at sg kw⟩ hs
 ·split at e
  ·rename_i hl;obtain⟨c,hc,e⟩:=Res.aR e
   cases e;exact Il value slice aa s σ H x y v u Q I rx ry ⟨_,_,c,t1.str,t2.int,lP hl,Res.of_ok hc,wq.at sg .s⟩ hs
  ·cases e
 ·obtain⟨k,hk,e2⟩:=Res.aR e
  have hk:=eg (Res.of_ok hk)
  subst hk;obtain⟨b,rfl,hb⟩:=t2.tupI (ns:=k) sg rfl
  obtain⟨a,us,rfl,n,hd,l⟩:=t1.bo sg
  obtain⟨w,hw,kw⟩:=pP l (Res.of_ok e2)
  exact Hm (by omega) value slice aa s σ H _ _ v u Q I rx ry ⟨a,_,ki k,b,w,rfl,hd,rfl,(by rw [qw];exact sg _ _ hb),(by rw [jn];exact hw),wq.at sg kw⟩ hs
 ·cases e
def EU{ps:List PV}{vs:List V}(lo hi:Option Int)(l:aj W G ps vs):aj W G (Kp ps lo hi) (yf vs lo hi):=by
 unfold Kp yf;rw [l.length];exact(l.drop _).take _
def OU(hK:W.K=X.K):L2.F5 X (λx lo hi H Q=>∃H0 G p r,az G H/\Top W H0 G H p x/\gD p lo hi=.ok r/\cZ W G H r Q):=by
 intro aa s σ H x v vl vu lo hi sl Q I rx hs pl pu h;obtain⟨H0,G,p,r,sg,t1,e,wq⟩:=h
 unfold gD at e;split at e
 ·split at e
  ·cases e
  ·rename_i hw;cases e;obtain⟨a,vs,rfl,h1,l1⟩:=t1.tup sg
   rw [hK] at h1;exact G8 aa s σ H _ v vl vu _ _ sl Q I rx hs pl pu ⟨a,vs,rfl,h1,by rw [l1.length];exact hw,λp hp=>wq.tup sg (EU _ _ l1) hp⟩
 ·cases e
def AK(W:Wd)(f:List PV->Res PV):List V->Hp->VK->Prop:=λvs H Q=>∃H0 G ps r,az G H/\Paired (λv p=>Top W H0 G H p v) vs ps/\f ps=.ok r/\cZ W G H r Q
def f6{H0 G H:Hp}{vs:List V}{p:PV}(h:Paired (λv p=>Top W H0 G H p v) vs [p]):∃v,vs=[v]/\Top W H0 G H p v:=by
 cases h with
 |cons h t=>cases t;exact⟨_,rfl,h⟩
def Lq{H0 G H:Hp}{vs:List V}{p q:PV}(h:Paired (λv p=>Top W H0 G H p v) vs [p,q]):∃v u,vs=[v,u]/\Top W H0 G H p v/\Top W H0 G H q u:=by
 cases h with
 |cons h t=>
  cases t with
  |cons h2 t2=>cases t2;exact⟨_,_,rfl,h,h2⟩
def xi(hK:W.K=X.K):bW X (.builtin "len") (AK W uH):=by
 intro aa s σ H xs us Q I r h;obtain⟨H0,G,ps,rr,sg,tp,e,wq⟩:=h
 unfold uH at e;split at e
 ·cases e;obtain⟨v,rfl,t⟩:=f6 tp
  obtain⟨a,vs,rfl,h1,l1⟩:=t.lst sg
  exact i4 aa s σ H _ us Q I r ⟨a,vs,rfl,.inl (sX hK h1),by rw [l1.length];exact wq.at sg .i⟩
 ·cases e;obtain⟨v,rfl,t⟩:=f6 tp
  obtain⟨a,vs,rfl,h1,l1⟩:=t.tup sg
  rw [hK] at h1;exact i4 aa s σ H _ us Q I r ⟨a,vs,rfl,.inr h1,by rw [l1.length];exact wq.at sg .i⟩
 ·split at e
  ·rename_i hl;cases e;obtain⟨v,rfl,t⟩:=f6 tp
   exact pF aa s σ H _ us Q I r ⟨_,by rw [t.str],lP hl,wq.at sg .i⟩
  ·cases e
 ·cases e;obtain⟨v,rfl,t⟩:=f6 tp
  obtain⟨a,us',rfl,n,hd,l⟩:=t.bo sg
  obtain⟨u,rfl,ru⟩:=vals1 r
  cases ru;exact Io I hd λt s' I'=>⟨.int _,H,I',⟨t,rfl⟩,by rw [fv n];exact wq.at sg .i⟩
 ·cases e
def yA:bW X (.builtin "abs") (AK W BY):=by
 intro aa s σ H xs us Q I r h;obtain⟨H0,G,ps,rr,sg,tp,e,wq⟩:=h
 unfold BY at e;split at e
 ·cases e;obtain⟨v,rfl,t⟩:=f6 tp
  exact BX aa s σ H _ us Q I r ⟨_,by rw [t.int],wq.at sg .i⟩
 ·cases e
def yw(hc:X.calm=true):bW X (.builtin "max") (AK W BA):=by
 intro aa s σ H xs us Q I r h;obtain⟨H0,G,ps,rr,sg,tp,e,wq⟩:=h
 unfold BA at e;split at e
 ·cases e;obtain⟨v,u,rfl,t,t2⟩:=Lq tp
  exact xo hc aa s σ H _ us Q I r ⟨_,_,by rw [t.int,t2.int],wq.at sg .i⟩
 ·cases e
def x8:bW X (.type "int") (AK W BN):=by
 intro aa s σ H xs us Q I r h;obtain⟨H0,G,ps,rr,sg,tp,e,wq⟩:=h
 unfold BN at e;split at e
 ·split at e
  ·rename_i hl;obtain⟨n,hn,e⟩:=Res.aR e
   cases e;obtain⟨v,rfl,t⟩:=f6 tp
   exact qk aa s σ H _ us Q I r ⟨_,n,by rw [t.str],Res.of_ok hn,hl,wq.at sg .i⟩
  ·cases e
 ·cases e
def yd:bW X (.type "str") (AK W AG):=by
 intro aa s σ H xs us Q I r h;obtain⟨H0,G,ps,rr,sg,tp,e,wq⟩:=h
 unfold AG at e;split at e
 ·split at e
  ·rename_i hl;cases e;obtain⟨v,rfl,t⟩:=f6 tp
   exact pf aa s σ H _ us Q I r ⟨_,by rw [t.int],hl,wq.at sg .s⟩
  ·cases e
 ·cases e
def q9(hK:W.K=X.K):bW X (.type "tuple") (AK W me):=by
 intro aa s σ H xs us Q I r h;obtain⟨H0,G,ps,rr,sg,tp,e,wq⟩:=h
 unfold me at e;split at e
 ·cases e;obtain⟨v,rfl,t⟩:=f6 tp
  obtain⟨a,vs,rfl,h1,l1⟩:=t.lst sg
  exact nF aa s σ H _ us Q I r ⟨a,vs,rfl,.inl ⟨sX hK h1,λp hp=>wq.tup sg l1 hp⟩⟩
 ·cases e
noncomputable def tQ:Ty->String
 |.int=>"int"|.bool=>"bool"|.tuple=>"tuple"
def Np{K:zz8}(t:Ty):Cw.Ct K "NoneType" (tQ t) false/\(∀b,Cw.Ct K "bool" (tQ t) (ip t (.bl b)))/\(∀i,Cw.Ct K "int" (tQ t) (ip t (.int i)))/\(∀z,Cw.Ct K "str" (tQ t) (ip t (.str z)))/\(∀z,Cw.Ct K "tuple" (tQ t) (ip t (.tup z)))/\(∀z,Cw.Ct K "list" (tQ t) (ip t (.lst z))):=by
 cases t
 all_goals refine⟨?_,λb=>?_,λb=>?_,λb=>?_,λb=>?_,λb=>?_⟩
 all_goals first
  |exact Cw.zH _
  |exact Cw.Cb (b:=false) (by decide+kernel) (by decide+kernel) (by decide+kernel)
  |exact Cw.Cb (b:=true) (by decide+kernel) (by decide+kernel) (by decide+kernel)
def zZ(hK:W.K=X.K)(t:Ty):bW X (.builtin "isinstance") (λxs H Q=>∃v H0 G p r,xs=[v,.ty (tQ t)]/\az G H/\Top W H0 G H p v/\ko t p=.ok r/\cZ W G H r Q):=by
 intro aa s σ H xs us Q I rr h;obtain⟨v,H0,G,p,r,rfl,sg,tp,e,wq⟩:=h
 obtain⟨u,u2,rfl,ru,ru2⟩:=Vals.two rr
 cases ru2;obtain⟨k1,k2,k3,k4,k5,k6⟩:=Np (K:=X.K) t
 cases p with
 |exc c=>cases e
 |bo a b=>cases e
 |aH=>cases e;cases tp.aH;cases ru;cases t<;>exact PySem.W.kia_one PySem.W.kitx_none I.tj True.intro k1 (λz=>nomatch z) λtk=>⟨.bl _,H,I.tok tk,rfl,wq.at sg .b⟩
 |bl b=>cases e;cases tp.bl;cases ru;exact PySem.W.kia_one PySem.W.kitx_bool I.tj True.intro (k2 b) (λz=>nomatch z) λtk=>⟨.bl _,H,I.tok tk,rfl,wq.at sg .b⟩
 |int b=>cases e;cases tp.int;obtain⟨t1,rfl⟩:=ru;exact PySem.W.kia_one PySem.W.kitx_int I.tj True.intro (k3 b) (λz=>nomatch z) λtk=>⟨.bl _,H,I.tok tk,rfl,wq.at sg .b⟩
 |str b=>cases e;cases tp.str;obtain⟨t1,rfl⟩:=ru;exact PySem.W.kia_one PySem.W.kitx_str I.tj True.intro (k4 b) (λz=>nomatch z) λtk=>⟨.bl _,H,I.tok tk,rfl,wq.at sg .b⟩
 |tup b=>
  cases e;obtain⟨a,vs,rfl,h1,l1⟩:=tp.tup sg
  rw [hK] at h1;cases ru;obtain⟨ax,_,⟨o,e1,e2,_⟩,_⟩:=I.tuple h1
  exact PySem.W.kia_one PySem.W.kitx_tuple I.tj ⟨o,e1,e2⟩ (k5 b) (λz=>nomatch z) λtk=>⟨.bl _,H,I.tok tk,rfl,wq.at sg .b⟩
 |lst b=>
  cases e;obtain⟨a,vs,rfl,h1,l1⟩:=tp.lst sg
  cases ru;obtain⟨ax,n,_,_,_,e1⟩:=Fz hK I h1
  exact PySem.W.kia_one PySem.W.kitx_list I.tj ⟨_,e1,rfl⟩ (k6 b) (λz=>nomatch z) λtk=>⟨.bl _,H,I.tok tk,rfl,wq.at sg .b⟩
theorem oV{k:List Int}{v:V}(h:Rep W G (ah k) v):∃b,v=.ref b/\G b=some (.tup (k.map V.int)):=Top.tupI (H0:=G) (az.refl G) rfl (.inl h)
theorem pN{K:zz8}(sg:az G H):∀{xs:List PV} {nss:List (List Int)} {vs:List V},fG xs=some nss->aj W G xs vs->nss.all (λk=>!k.isEmpty)=true->kZ K H vs nss
 |[],_,_,e,l,_=>by cases e;simp! [aj] at l;subst l;exact .nil
 |x::xs,nss,vs,e,l,ne=>by
  unfold fG at e;obtain⟨k,hk,e⟩:=zzZ.mp e
  obtain⟨r,hr,rfl⟩:=zzJ.mp e
  obtain⟨v,vr,rfl,h1,h2⟩:=l.bI
  rw [List.all_cons,zza] at ne;rw [eg hk] at h1;obtain⟨b,rfl,hb⟩:=oV h1
  exact .cons ⟨b,rfl,.inl (.inl (sg _ _ hb)),λz=>by rw [z] at ne;exact absurd ne.1 (by decide)⟩ (pN sg hr h2 ne.2)
def w4{ps:List PV}{vs:List V}{nss:List (List Int)}(l:aj W G ps vs):aj W G (kL .aH ps nss) (kL V.aH vs nss):=by
 unfold kL;rw [l.length];split
 ·exact l
 ·have go:∀ix:List Nat,aj W G (ix.map λi=>ps.getD i .aH) (ix.map λi=>vs.getD i V.aH):=by
   intro ix
   induction ix with
   |nil=>exact .nil
   |cons i ix ih=>
    refine .cons ?_ ih;dsimp only
    by_cases hi:i<ps.length
    ·obtain⟨v,hv,rv⟩:=l.nE (zzg hi)
     have e1:ps.getD i .aH=ps[i]:=by simp [hi]
     have e2:vs.getD i V.aH=v:=by simp [hv]
     rw [e1,e2];exact rv
    ·have e1:ps.getD i .aH=.aH:=by simp [Nat.le_of_not_lt hi]
     have e2:vs.getD i V.aH=.aH:=by simp [Nat.le_of_not_lt (l.length▸hi)]
     rw [e1,e2];exact .n
  exact go _
theorem gF:∀{vs:List V} {nss:List (List Int)} {G:Hp},az G H->Paired (λv ns=>∃b,v=V.ref b/\H b=some (.tup (ns.map V.int))) vs nss->∃G',aB W G H G' H/\aj W G' (nss.map ah) vs
 |_,_,G,sg,.nil=>⟨G,.refl sg,.nil⟩
 |_,_,G,sg,.cons (b:=ns) h t=>by
  obtain⟨b,rfl,hb⟩:=h
  have g1:=aB.adopt (W:=W) sg hb
  obtain⟨G2,g2,l⟩:=gF g1.sub t
  refine⟨G2,g1.trans g2,.cons (Rep.same g2.g _ ?_) l⟩;refine .t (.inl aq) ?_;have go:∀ns:List Int,aj W (upd G b (.tup (ns.map V.int))) (ns.map .int) (ns.map V.int)/\True:=λ_=>⟨by
   rename_i ns';have all:∀(G':Hp) (l:List Int),aj W G' (l.map .int) (l.map V.int):=λG' l=>by
    induction l with
    |nil=>exact .nil
    |cons x l ih=>exact .cons .i ih
   exact all _ _,trivial⟩
  exact(go ns).1
def qz(hK:W.K=X.K)(hc:X.calm=true):bW X (.builtin "sorted") (AK W iY):=by
 intro aa s σ H xs us Q I r h;obtain⟨H0,G,ps,rr,sg,tp,e,wq⟩:=h
 unfold iY at e;split at e
 ·split at e
  ·rename_i ks qI hb;rw [zza,zzN] at hb;cases e;obtain⟨v,rfl,t⟩:=f6 tp
   obtain⟨a,us',rfl,n,hd,l⟩:=t.bo sg
   refine qo hc aa s σ H _ us Q I r ⟨a,_,ks,rfl,hd,pZ n,λns hm z=>?_,by rw [fv n];exact hb.1,λp vs hp pv=>?_⟩
   ·have:=zzT.mp hb.2 ns hm
    rw [z] at this;exact absurd this (by decide)
   ·obtain⟨G1,g1,l1⟩:=gF (W:=W) sg pv
    exact wq _ _ _ (g1.trans (.new g1.sub hp)) (.l (.inl (.inl aq)) (aj.same (bx (g1.sub.free hp)) _ (w4 l1)))
  ·cases e
 ·cases e
def tX(hK:W.K=X.K)(hc:X.calm=true):bW X (.builtin "min") (AK W qM):=by
 intro aa s σ H xs us Q I r h;obtain⟨H0,G,ps,rr,sg,tp,e,wq⟩:=h
 unfold qM at e;split at e
 ·obtain⟨ns,hn,e⟩:=Res.aR e
  split at e
  ·rename_i hb;cases e;obtain⟨v,rfl,t⟩:=f6 tp
   obtain⟨a,vs,rfl,h1,l1⟩:=t.lst sg
   cases iG l1 (Res.of_ok hn);exact yz hc aa s σ H _ us Q I r ⟨a,ns,rfl,sX hK h1,hb,wq.at sg .i⟩
  ·cases e
 ·cases e
theorem zw{K:zz8}(hK:W.K=K)(sg:az G H):∀{xs:List PV} {ps:List (List Int×PV)} {vs:List V},va xs=some ps->aj W G xs vs->∃us,aj W G (ps.map (·.2)) us/\hW K H vs ((ps.map λp=>ki p.1).zip us)
 |[],_,_,e,l=>by cases e;simp! [aj] at l;subst l;exact⟨[],.nil,.nil⟩
 |x::xs,ps,vs,e,l=>by
  obtain⟨v,vr,rfl,h1,h2⟩:=l.bI
  unfold va at e;split at e
  ·rename_i heq;cases heq
  ·rename_i heq;cases heq;obtain⟨k,hk,e⟩:=zzZ.mp e
   obtain⟨r,hr,rfl⟩:=zzJ.mp e
   obtain⟨us,l2,p2⟩:=zw hK sg hr h2
   simp! [Rep] at h1;obtain⟨q,ws,rfl,tq,lq⟩:=h1
   obtain⟨w1,wr,rfl,k1,lq⟩:=lq.bI
   obtain⟨w2,wr2,rfl,k2,lq⟩:=lq.bI
   simp! [aj] at lq;subst lq;rw [eg hk] at k1;obtain⟨b,rfl,hb⟩:=oV k1
   refine⟨w2::us,.cons k2 l2,.cons ⟨q,b,rfl,?_,by rw [qw];exact sg _ _ hb⟩ p2⟩;rw [<-hK];exact az.tup sg tq.sq
  ·cases e
theorem n0:∀(ps:List (List Int×PV)) {us:List V} {ks:List (List Int)} {qs:List PV} {ws:List V},aj W G (ps.map (·.2)) us->ks.length=ws.length->aj W G qs ws->∃zs,(dQ ps ks qs).1.length=zs.length/\aj W G (dQ ps ks qs).2 zs/\dY (kz ks ws) ((ps.map λp=>ki p.1).zip us)=kz (dQ ps ks qs).1 zs
 |[],us,ks,qs,ws,_,n,l=>⟨ws,n,l,rfl⟩
 |p::ps,us,ks,qs,ws,lu,n,l=>by
  obtain⟨u,ur,rfl,h1,h2⟩:=lu.bI
  obtain⟨zs,z1,z2,z3⟩:=n0 ps h2 (mM n p.1 u) (qD (ks:=ks) (k:=p.1) l h1)
  refine⟨zs,z1,z2,?_⟩;show dY (putK (kz ks ws) (ki p.1) u) _=_
  rw [u4 n];exact z3
def BU(hK:W.K=X.K){H0:Hp}{ps:List PV}{q:PV}{xs:List V}(sg:az G H)(tp:Paired (λv p=>Top W H0 G H p v) xs ps)(e:nX ps=.ok q):∃ks qs,q=.bo ks qs/\∃a vs au,xs=[V.ref a]/\fH X.K H a vs/\hW X.K H vs au/\∃zs,ks.length=zs.length/\aj W G qs zs/\dY [] au=kz ks zs:=by
 unfold nX at e;split at e
 ·obtain⟨ps,hp,e⟩:=Res.aR e
  cases e;obtain⟨v,rfl,t⟩:=f6 tp
  obtain⟨a,vs,rfl,h1,l1⟩:=t.lst sg
  obtain⟨ws,lw,pw⟩:=zw hK sg (Res.of_ok hp) l1
  obtain⟨zs,z1,z2,z3⟩:=n0 ps (ks:=[]) (qs:=[]) (ws:=[]) lw rfl .nil
  exact⟨_,_,rfl,a,vs,_,rfl,sX hK h1,pw,zs,z1,z2,z3⟩
 ·cases e
def rj(hK:W.K=X.K)(hc:X.calm=true)(hu:X.A.units+64<cLine):bW X (.type "dict") (AK W nX):=by
 intro aa s σ H xs us Q I r h;obtain⟨H0,G,ps,rr,sg,tp,e,wq⟩:=h
 obtain⟨ks,qs,rfl,a,vs,au,rfl,h1,pw,zs,z1,z2,z3⟩:=BU hK sg tp e
 refine vf hc (by omega) aa s σ H _ us Q I r ⟨a,vs,_,rfl,h1,pw,λp o hn=>?_⟩
 rw [z3];refine wq _ _ _ (.new sg hn) ?_;simp! [Rep];exact⟨p,o,zs,rfl,z1,aq,aj.same (bx (sg.free hn)) _ z2⟩
end
end Ci
namespace L2
open PySem PySem.Spec PyProof.Rows
section
variable{X:Cx}{scope:Scope}{xs ys:List Str}{is:List Nat}
theorem pY{i₀:Nat}{x₀:Str}{pos' fN:Pos}{elt tg iter Jx:Expr}{pos:Pos}{wi:TI}{g:TG}{te:TE}{tt:TT}(hN₀:X.N.Nodup)(hi₀:X.N[i₀]?=some x₀)(hx₀:Loc X.env.scope x₀)(hc:X.calm=true)(S:eJ X scope xs ys is)(hi:PI X tg iter wi)
 (hg:∀fp s1 H1 C,PG (bT X (xs++ys) scope (bE X.env ys) fp s1 H1 C) tg g) (ht:∀fp s1 H1 C,PT (bT X (xs++ys) scope (bE X.env ys) fp s1 H1 C) Jx tt) (he:∀fp s1 H1 C,PE (bT X (xs++ys) scope (bE X.env ys) fp s1 H1 C) elt te)
 (Ce:swapsWith (.ListComp elt [⟨tg,iter,[Jx],0⟩] scope pos) (some (.Name x₀ pos')) fN.line X.env=pure true:=by rfl)
 (hs:∀x,foldedSetIterable iter X.env x=pure x:=by intro _;rfl) (hf₀:X.fn x₀=true\/X.env.scope.names.lookup x₀=some .local:=by first|exact .inl rfl|exact .inr rfl|assumption):
 PS X (.Assign [.Name x₀ pos'] (.ListComp elt [⟨tg,iter,[Jx],0⟩] scope pos) fN) (Cy (kP wi xs.length g tt te is) (gB i₀)):=by
 intro aa s σ H D₀ I h;rw [exec_Assign_Name_used _ _ _ _ Ce];refine zzA (wpAny_standAt (zzA ?_));show wpAny _ X.A (do let _<-comprehension (.ListComp elt [⟨tg,iter,[Jx],0⟩] scope pos) scope X.env _ (newList []) false (eval iter X.env) (some (assign (.Name x₀ pos') X.env))) _ _ s;refine zzA (wpAny_mono (gH (QQ:=λ_ s'=>∃σ2 H2,Inv X aa σ2 H2 s'/\D₀.nx σ2 H2) (Q:=λv H4=>gB i₀ v σ H4 D₀.nx) hc S hi hg (λfp s1 H1 C=>vG (ht fp s1 H1 C)) he hs I h λD C s4 H4 m I5 hn ⟨g0,g1,_,g3,g4,g5⟩ q=>?_) (λ_ s' hq=>zzG (zzG hq)) λ_ _ e=>e)
 refine wpAny_assign_Name (jr I5 hN₀ hi₀ hx₀ (show RelV (.ref D) (.ref D) from rfl) (λs6 I6 ⟨a6,sb6,ha6⟩=>?_) hf₀);have Bv:C≠a6:=by
  rcases ha6 with z|z
  ·rw [z];exact g1
  ·exact λz2=>g4 _ _ z z2.symm
 exact⟨m,hn.sameBut sb6 Bv,λh' tH=>⟨_,_,I6.turned (t':=s6.toks) (it:=C) (λb o hb e=>tH.extBut b o hb e) g0 g1 g3 g4 g5,q⟩⟩
end
open PySem.AutoSeq1 (wpAny_loadPart')
section
variable{prog:Program}{w:World}{A:Around}{E:Value->Shared->Prop}{s:Shared}{jt tu:Addr}{i:Nat}{ax:Array Value}{Q:Value->Shared->Prop}
def kg{x:Value}(ih:s.heap.IsTupleIter jt tu i)(th:s.heap.IsTuple tu ax)(hx:ax[i]?=some x)
 (k:∀g,g.IsTupleIter jt tu (i+1)->Heap.SameBut jt s.heap g->Q x {s with heap:=g}):wpAny (model prog w) A (Builtin.SmallTypes.nextOf (.ref jt)) Q E s:=by
 obtain⟨ob,e1,e2,e3⟩:=id ih
 obtain⟨ot,f1,_,nn,f2⟩:=th
 unfold Builtin.SmallTypes.nextOf;refine zzA (wpAny_callSpecial?_slot (name:=Str.ofString "__next__") ih.typeIs F.slot_tuple_iterator_next (wpAny_call_entry F.slot_tuple_iterator_next ih.typeIs F.entry_tuple_iterator_next ?_ (F.args_tuple_iterator_next_1 _)));show wpAny _ _ (field (.ref jt) 0>>=_) _ _ s;refine zzA (wpAny_field e1 e3 (x:=.ref tu) rfl ?_);show wpAny _ _ (if(Value.ref tu==Value.none)=true then _ else _) _ _ s;rw [if_neg (show¬((Value.ref tu==Value.none)=true) from zzf)];show wpAny _ _ (field (.ref jt) 1>>=_) _ _ s;refine zzA (wpAny_field e1 e3 (x:=.int i 0) rfl ?_);show wpAny _ _ (seqItems? (.ref tu)>>=_) _ _ s;refine zzA (wpAny_seqItems f1 f2 ?_);simp! [zz4,hx];refine zzA (wpAny_setField e1 e3 (by simp) (zzG ⟨x,rfl,zzG (k _ ?_ (zzu ..))⟩));exact⟨_,Heap.get?_update_self _ e1 (Obj.isFreed_of_fields (Obj.data_mapFields e3 _)),(Obj.cls_mapFields ..).trans e2,by rw [Obj.data_mapFields e3];simp [rawInt]⟩
def ma(hh:A.handled=none)(ih:s.heap.IsTupleIter jt tu i)(th:s.heap.IsTuple tu ax)(hx:ax[i]?=none)
 (k:∀g e,Heap.ExtBut jt s.heap g->(∃o,g.get? e=some o/\o.cls=.type "StopIteration")->E (.ref e) {s with heap:=g}):wpAny (model prog w) A (Builtin.SmallTypes.nextOf (.ref jt)) Q E s:=by
 obtain⟨ob,e1,e2,e3⟩:=id ih
 obtain⟨ot,f1,_,nn,f2⟩:=th
 unfold Builtin.SmallTypes.nextOf;refine zzA (wpAny_callSpecial?_slot (name:=Str.ofString "__next__") ih.typeIs F.slot_tuple_iterator_next (wpAny_call_entry F.slot_tuple_iterator_next ih.typeIs F.entry_tuple_iterator_next ?_ (F.args_tuple_iterator_next_1 _)));show wpAny _ _ (field (.ref jt) 0>>=_) _ _ s;refine zzA (wpAny_field e1 e3 (x:=.ref tu) rfl ?_);show wpAny _ _ (if(Value.ref tu==Value.none)=true then _ else _) _ _ s;rw [if_neg (show¬((Value.ref tu==Value.none)=true) from zzf)];show wpAny _ _ (field (.ref jt) 1>>=_) _ _ s;refine zzA (wpAny_field e1 e3 (x:=.int i 0) rfl ?_);show wpAny _ _ (seqItems? (.ref tu)>>=_) _ _ s;refine zzA (wpAny_seqItems f1 f2 ?_);simp! [zz4,hx];refine zzA (wpAny_rule (zzA (wpAny_setField e1 e3 (by simp) ?_)));show wpAny _ _ (newExc (.type "StopIteration") []>>=_) _ _ _;refine zzA ?_;simp! [newExc,newTuple];refine zzA (wpAny_newObj_type ?_ (by size_fits));refine zzA (m:=firstArgMember _ _) (wpAny_of_eq (a:=Value.none) (by first|rfl|(simp! [firstArgMember];rfl)) ?_);refine wpAny_newObj_type ?_ (by size_fits);simp! [raiseNew];refine zzA (wpAny_handled ?_)
 first|rw [show A.in1.handled=none from hh]|rw [hh]
 refine zzA (zzG (wpAny_throw ?_));exact k _ _ (((zzu ..).extBut.push _).push _) ⟨_,zzX _ rfl,rfl⟩
end
theorem nT{prog:Program}{w:World}{A:Around}(hh:A.handled=none)(jt tu:Addr)(ff:tu≠jt)(ax:Array Value):
 Draws prog w A jt [jt,tu] ax.size (λi v=>ax[i]?=some v) (λi h=>h.IsTupleIter jt tu i/\h.IsTuple tu ax) where
 live:=λ_ _ st=>let⟨o,ho,_⟩:=st.1;⟨o,ho⟩
 frame:=λ_ _ _ st hk=>⟨st.1.at λo e=>hk jt (by simp) o e,by obtain⟨o,e,r⟩:=st.2;exact⟨o,hk tu (by simp) o e,r⟩⟩
 item:=λi s Q E hi st hQ=>kg st.1 st.2 (x:=ax[i]) (by simp [hi]) λg ig sb=>hQ _ g s.toks (by simp [hi]) ⟨ig,by obtain⟨o,e,r⟩:=st.2;exact⟨o,sb.extBut _ _ ff e,r⟩⟩ sb
 done:=λs Q E st hE=>ma hh st.1 st.2 (by simp) hE
theorem xX(l:Addr)(items:Array Value)(n:Nat)(bo:Option Addr)(sl:Array (Option Value)):
 Meets (Builtin.«enumerate.__new__» ⟨[.type "enumerate",.ref l],[]⟩) (λ_ R s=>s.heap.get? l=some {cls:=.type "tuple",dict:=bo,data:=.seq items n,slots:=sl}/\
  R (.ok (.ret (.ref (s.heap.push {cls:=.type "tuple_iterator",data:=.fields #[.ref l,.int 0 0]}).objs.size)))
   {s with heap:=(s.heap.push {cls:=.type "tuple_iterator",data:=.fields #[.ref l,.int 0 0]}).push {cls:=.type "enumerate",data:=.fields #[.none,.bool false,.ref (zz9 s),rawInt 0,.none,.none]}}):=
 .of_wp λprog w A R s h=>by
  obtain⟨hp,g,d,tk,os⟩:=s
  obtain⟨hl,h⟩:=h
  have Tj:=sub_enumerate
  have hL:Heap.IsTuple (Shared.heap ⟨hp,g,d,tk,os⟩) l items:=⟨_,hl,rfl,n,rfl⟩
  wp_walk using wpAny_loadPart' hl
  refine wpAny_stack_any λst=>zzG ?_
  split
  ·rename_i c _ _ _ _ _;cases(c==Value.type "enumerate")<;>(wp_walk using wpAny_loadPart' hl,wpAny_pyIter_tuple hL;exact⟨_,rfl,h⟩)
  ·wp_walk using wpAny_loadPart' hl,wpAny_pyIter_tuple hL
   exact⟨_,rfl,h⟩
def fA{h:Heap}{a b:Addr}{o1 o2:Obj}(h1:h.get? a=some o1)(h2:h.get? b=some o2)(hc:o1.cls≠o2.cls):a≠b:=λz=>by
 subst z;rw [h1] at h2;cases h2;exact hc rfl
def ez(z:Str):strIterType z="str_ascii_iterator"\/strIterType z="str_iterator":=by
 unfold strIterType;split
 ·exact .inl rfl
 ·exact .inr rfl
def jW{X:Cx}{aa:List (Addr×Obj)}{σ:St}{H:Hp}{s:Shared}{E:Value->Shared->Prop}{e it:Addr}{Sk:List Addr}{n i:Nat}{Pv:Nat->Value->Prop}{Sv:Nat->Heap->Prop}{old:Value}{Gx:V->Prop}{elts:List Expr}{x1:Nat}{pos:Pos}
 (I:Inv X aa σ H s) (D:Draws X.prog X.w X.A.in1 it Sk n Pv Sv) (he:IsEnum s.heap e it i old) (d7:Sv i s.heap) (bH:i<n) (ff:e≠it) (Rr:e∉Sk) (hf:∀b∈[e,it],fe X aa H b) (hP:∀u,Pv i u->∃x,RelV x u/\Gx x):
 wpAny (model X.prog X.w) X.A (pyNext (.ref e)) (λr s1=>∃u,r=some u/\wpAny (model X.prog X.w) X.A (letOwnedTupleGo (.Tuple elts x1 pos) (.ref e) u) (λ_ s2=>∃x p,u=.ref p/\Gx x/\H p=none/\e≠p/\it≠p/\
  Inv X aa σ (upd H p (.tup [.int i,x])) s2/\(∃P9,IsEnum s2.heap e it ((i:Int)+1) P9)/\Sv (i+1) s2.heap) E s1) E s:=by
 refine wpAny_pyNext_enum_itemD D he d7 bH ff Rr λu h' tk pu ho fK ht hz kk=>?_
 obtain⟨x,rx,gx⟩:=hP u pu
 obtain⟨f0,f1,f2,f3,f4,f5⟩:=hf e (by simp)
 obtain⟨g0,g1,g2,g3,g4,g5⟩:=hf it (by simp)
 have Dr:H (zz9 s)=none:=I.aK.fresh (zzE _)
 obtain⟨oi,hoi⟩:=D.live _ _ d7
 have Q2:e≠(zz9 s):=zzb (zzO he)
 have Te:it≠(zz9 s):=zzb (zzO hoi)
 have E4:∀b o,H b=some o->b≠e/\b≠it/\b≠(zz9 s):=λb o q=>⟨(λz=>(by rw [z,f0] at q;cases q)),(λz=>(by rw [z,g0] at q;cases q)),zzb (I.aK.lt q)⟩
 have I1:Inv X aa σ (upd H (zz9 s) (.tup [.int i,x])) {s with heap:=h',toks:=tk+1}:=by
  refine I.step (g':=s.gens) (d':=s.drawn) (ch:=[e,it]) (λb hb=>?_) (λb o _ _ hc q _=>kk b o (λz=>hc (by simp [z])) (λz=>hc (by simp [z])) q)
   (λb o _ _ hc q _=>⟨o.slots,kk b o (λz=>hc (by simp [z])) (λz=>hc (by simp [z])) q⟩) (λb o _ q nb=>by rw [af (zzb (zzO q))];exact nb)
   (λb o hc q=>⟨o,kk b o (λz=>hc (by simp [z])) (λz=>hc (by simp [z])) q⟩) (λb xs q=>by rw [af (E4 b _ q).2.2];exact q) (λb o u q=>by rw [af (E4 b _ q).2.2];exact q)
   (λb ps q=>⟨#[],by rw [af (E4 b _ q).2.2,q];simp⟩) (λm hm=>?_) (λb o q=>?_) I.bare
  ·rcases zzm.mp hb with z|z
   ·subst z;exact⟨f3,f1,f4,f5⟩
   ·rw [zzi.mp z];exact⟨g3,g1,g4,g5⟩
  ·obtain⟨o,es,ep,q,r⟩:=hm
   exact⟨o,es,ep,kk _ o (Ne.symm f1) (Ne.symm g1) q,r⟩
  ·by_cases hb:b=(zz9 s)
   ·subst hb;rw [aq] at q;cases q;exact⟨(show 2<=sizeLine by decide),[.int i tk,u],.cons ⟨tk,rfl⟩ (.cons rx .nil),⟨_,ht,rfl,_,rfl⟩⟩
   ·rw [af hb] at q;refine(I.aK b o q).dZ (λc v hc z=>kk c v ?_ ?_ z) (λc z=>by rw [af (E4 c _ z).2.2];exact z) λc xs z=>by rw [af (E4 c _ z).2.2];exact z
    ·rcases hc with z'|z'
     ·rw [z'];exact(E4 b o q).1
     ·exact(E4 c _ z').1
    ·rcases hc with z'|z'
     ·rw [z'];exact(E4 b o q).2.1
     ·exact(E4 c _ z').2.1
 refine⟨_,rfl,wpAny_letOwnedTupleGo_enum ho λh2 J9 sb=>?_⟩
 refine⟨x,(zz9 s),rfl,gx,Dr,Q2,Te,I1.turned (t':=tk+1) (it:=e) (λb o hb q=>sb.extBut b o hb q) (by rw [af Q2];exact f0) f1 f3 f4 f5,⟨_,J9⟩,D.frame _ _ _ fK λb hb o q=>sb.extBut b o (λz=>Rr (z▸hb)) q⟩
noncomputable def QR(K:zz8)(a:Addr)(xs:List V):It:=
 ⟨λi H=>eV K H a xs/\i<xs.length,λi H v H'=>∃p x,v=.ref p/\H p=none/\H'=upd H p (.tup [.int (i:Nat),x])/\xs[i]?=some x,λi H=>eV K H a xs/\i=xs.length⟩
noncomputable def NO(z:Str):It:=
 ⟨λi _=>i<z.cps.size,λi H v H'=>∃p c,v=.ref p/\H p=none/\H'=upd H p (.tup [.int (i:Nat),.str ⟨#[c]⟩])/\z.cps[i]?=some c,λi _=>i=z.cps.size⟩
def t9{P:Program}{w:World}{K:zz8}{elts:List Expr}{x1:Nat}{pos:Pos}(a e it:Addr)(xs:List V):Turn P w K (.Tuple elts x1 pos) (QR K a xs) [e,it] e (λi h=>(∃old,IsEnum h e it i old)/\h.IsTupleIter it a i) where
 mem:=by simp
 obj:=λi h st b hb=>by
  obtain⟨⟨old,he⟩,o,ho,_,hd⟩:=st
  rcases zzm.mp hb with z|z
  ·subst z;exact⟨_,he,λv q=>by cases q⟩
  ·rw [zzi.mp z];exact⟨o,ho,λv q=>by rw [hd] at q;cases q⟩
 keep:=λi h h' st k=>⟨by obtain⟨old,he⟩:=st.1;exact⟨old,k e (by simp) _ he⟩,st.2.at λo q=>k it (by simp) o q⟩
 item:=by
  intro X hP hw hK hc i aa s σ H E I hf st hg;subst hP hw hK;obtain⟨hq,bH⟩:=hg
  obtain⟨⟨old,he⟩,hit⟩:=st
  obtain⟨ax,rv,p,hz⟩:=I.tuple hq
  have hl:=rv.length
  have kl:=hit
  obtain⟨oi,e1,e2,_⟩:=hit
  obtain⟨oa,a1,a2,_⟩:=id p
  have Bv:a≠it:=fA a1 e1 (by rw [a2,e2];decide+kernel)
  have Gd:e≠it:=fA he e1 (by rw [e2];show Value.type "enumerate"≠_;decide+kernel)
  have J8:e≠a:=fA he a1 (by rw [a2];show Value.type "enumerate"≠_;decide+kernel)
  refine bP (jW (Gx:=λx=>xs[i]?=some x) I (nT (A:=X.A.in1) (I.ok.hd hc) it a Bv ax.toArray) he ⟨kl,p⟩ (by rw [zzC];omega) Gd (by simp [Gd,J8]) hf (λu hu=>?_)) λr s1 ⟨u,hr,k⟩=>⟨u,hr,bP k λ_ s2 ⟨x,q,z1,z2,z3,z4,z5,z6,z7,z8⟩=>?_⟩
  ·have LQ:xs[i]?=some xs[i]:=zzg bH
   obtain⟨u',CJ,ru'⟩:=rv.get LQ
   have:ax.toArray[i]?=some u':=by simpa using CJ
   have La:ax.toArray[i]?=some u:=hu
   rw [this] at La;cases La;exact⟨xs[i],ru',LQ⟩
  ·exact⟨.ref q,_,z6,z1.symm▸rfl,⟨q,x,rfl,z3,rfl,z2⟩,⟨z7,z8.1⟩,λb hb=>by
    rcases zzm.mp hb with w|w
    ·rw [w,af z4];exact(hf e (by simp)).1
    ·rw [zzi.mp w,af z5];exact(hf it (by simp)).1⟩
 done:=by
  intro X hP hw hK hc i aa s σ H E I hf st hg;subst hP hw hK;obtain⟨hq,rfl⟩:=hg
  obtain⟨⟨old,he⟩,hit⟩:=st
  obtain⟨ax,rv,p,hz⟩:=I.tuple hq
  have hl:=rv.length
  have kl:=hit
  obtain⟨oi,e1,e2,_⟩:=hit
  obtain⟨oa,a1,a2,_⟩:=id p
  have Bv:a≠it:=fA a1 e1 (by rw [a2,e2];decide+kernel)
  obtain⟨g0,g1,g2,g3,g4,g5⟩:=hf it (by simp)
  refine wpAny_pyNext_enum_endD (nT (A:=X.A.in1) (I.ok.hd hc) it a Bv ax.toArray) he ⟨by rw [zzC,<-hl];exact kl,p⟩ λh' eb=>⟨rfl,I.turned (t':=s.toks) (λb o hb q=>eb b o hb q) g0 g1 g3 g4 g5⟩
 self:=λ_ _ _ _ _ st h=>by obtain⟨⟨old,he⟩,_⟩:=st;exact wpAny_pyIter_enum he h
def nv{prog:Program}{w:World}{A:Around}{E:Value->Shared->Prop}{s:Shared}{l:Addr}{items:Array Value}{Q:Value->Shared->Prop}(hL:IsTup s.heap l items)
 (h:∀g,IsEnum g ((zz9 s)+1) (zz9 s) 0 .none->g.IsTupleIter (zz9 s) l 0->(∀b o,s.heap.get? b=some o->g.get? b=some o)->Q (.ref ((zz9 s)+1)) {s with heap:=g}):
 wpAny (model prog w) A (call (.type "enumerate") [.ref l]) Q E s:=by
 obtain⟨⟨cls,dd,data,sl⟩,ho,hc,n,hd⟩:=id hL
 simp only at hc hd;subst hc hd;have hz:(s.heap.push {cls:=.type "tuple_iterator",data:=.fields #[.ref l,.int 0 0]}).objs.size=(zz9 s)+1:=Heap.size_push ..
 refine callType_new F.called_enumerate (by decide) (F.typeCall_enumerate_1 _) (F.newCall_enumerate_1 _) (λobj=>F.args_object_init_2 obj _) F.entry_enumerate_new (xX l items n dd sl) ⟨ho,?_⟩;show _/\_;rw [hz];have he:IsEnum ((s.heap.push {cls:=.type "tuple_iterator",data:=.fields #[.ref l,.int 0 0]}).push {cls:=.type "enumerate",data:=.fields #[.none,.bool false,.ref (zz9 s),rawInt 0,.none,.none]}) ((zz9 s)+1) (zz9 s) 0 .none:=by
  have q:=zzX (s.heap.push {cls:=.type "tuple_iterator",data:=.fields #[.ref l,.int 0 0]}) (o:={cls:=.type "enumerate",data:=.fields #[.none,.bool false,.ref (zz9 s),rawInt 0,.none,.none]}) rfl
  rw [hz] at q;exact q
 exact⟨⟨_,he,rfl⟩,h _ he ⟨_,zzB _ (zzX _ rfl),rfl,rfl⟩ λb o x=>zzB _ (zzB _ x)⟩
section
variable{X:Cx}{elts:List Expr}{x1:Nat}{uQ:Pos}
noncomputable def O6(K:zz8)(ta:TA):TI:=λσ H R=>ta σ H λvs H1=>∃a xs,vs=[.ref a]/\eV K H1 a xs/\R (QR K a xs) H1
theorem Bt{a:Expr}{ta:TA}{p pos:Pos}(hg:Gl X "enumerate")(hm:X.mg "enumerate"=none)(ha:PA X [a] ta)(hs:starEach [a] X.env=[(false,eval a X.env)]:=by rfl):PI X (.Tuple elts x1 uQ) (.Call (.Name "enumerate" p) [a] [] pos) (O6 X.K ta):=by
 intro aa s σ H R I h;refine Call_ (eC I hg hm boot_enumerate (PyProof.Rows.callWith_type1 (bP (ha pos aa s σ H _ I h) λus s1 ⟨vs,H1,I1,r1,q1⟩=>?_) hs rfl))
 obtain⟨a,xs,e,hq,q⟩:=q1
 subst e;obtain⟨u,rfl,ru⟩:=vals1 r1
 cases ru;obtain⟨ax,rv,pt,hz⟩:=I1.tuple hq
 refine nv pt λg he hi kp=>wpAny_pyIter_enum he ?_
 have I2:Inv X aa σ H1 {s1 with heap:=g}:=I1.kept (t':=s1.toks) kp
 refine⟨(zz9 s1)+1,[(zz9 s1)+1,(zz9 s1)],_,_,H1,rfl,I2,t9 a _ (zz9 s1) xs,⟨⟨_,he⟩,hi⟩,λb hb=>?_,q⟩
 have m9:(zz9 s1)<=b:=by
  rcases zzm.mp hb with z|z
  ·rw [z];exact Nat.le_succ _
  ·rw [zzi.mp z];exact zzE _
 exact I1.mP m9 (I1.aK.fresh m9)
end
def u0{P:Program}{w:World}{K:zz8}{elts:List Expr}{x1:Nat}{pos:Pos}(z:Str)(t:Tok)(e it:Addr):Turn P w K (.Tuple elts x1 pos) (NO z) [e,it] e (λi h=>(∃old,IsEnum h e it i old)/\h.IsStrIter it (strIterType z) z t i) where
 mem:=by simp
 obj:=λi h st b hb=>by
  obtain⟨⟨old,he⟩,o,ho,_,hd⟩:=st
  rcases zzm.mp hb with q|q
  ·subst q;exact⟨_,he,λv q=>by cases q⟩
  ·rw [zzi.mp q];exact⟨o,ho,λv q=>by rw [hd] at q;cases q⟩
 keep:=λi h h' st k=>⟨by obtain⟨old,he⟩:=st.1;exact⟨old,k e (by simp) _ he⟩,by obtain⟨o,q,r⟩:=st.2;exact⟨o,k it (by simp) o q,r⟩⟩
 item:=by
  intro X hP hw hK hc i aa s σ H E I hf st hg;subst hP hw hK;have bH:i<z.cps.size:=hg
  obtain⟨⟨old,he⟩,hit⟩:=st
  have kl:=hit
  obtain⟨oi,e1,e2,_⟩:=hit
  have Gd:e≠it:=fA he e1 (by
   rw [e2];show Value.type "enumerate"≠_;rcases ez z with q|q<;>rw [q]<;>decide+kernel)
  have fin:∀{Sv:Nat->Heap->Prop},Draws X.prog X.w X.A.in1 it [it] z.cps.size (λi v=>∃c u,z.cps[i]?=some c/\v=.str ⟨#[c]⟩ u) Sv->Sv i s.heap->(∀h,Sv (i+1) h->h.IsStrIter it (strIterType z) z t (i+1))->
   wpAny (model X.prog X.w) X.A (pyNext (.ref e)) (λr s1=>∃u,r=some u/\wpAny (model X.prog X.w) X.A (letOwnedTupleGo (.Tuple elts x1 pos) (.ref e) u) (λ_ s2=>∃x H',Inv X aa σ H' s2/\RelV x u/\(NO z).KI i H x H'/\((∃old,IsEnum s2.heap e it (((i+1:Nat)):Int) old)/\s2.heap.IsStrIter it (strIterType z) z t (i+1))/\∀b∈[e,it],H' b=none) E s1) E s:=by
   intro Sv D d7 back;refine bP (jW (Gx:=λx=>∃c,x=.str ⟨#[c]⟩/\z.cps[i]?=some c) I D he d7 bH Gd (by simp [Gd]) hf (λu ⟨c,tk,hc,hu⟩=>⟨.str ⟨#[c]⟩,⟨tk,hu⟩,c,rfl,hc⟩)) λr s1 ⟨u,hr,k⟩=>⟨u,hr,bP k λ_ s2 ⟨x,q,z1,⟨c,z2,z2'⟩,z3,z4,z5,z6,z7,z8⟩=>?_⟩
   subst z2;exact⟨.ref q,_,z6,z1.symm▸rfl,⟨q,c,rfl,z3,rfl,z2'⟩,⟨z7,back _ z8⟩,λb hb=>by
    rcases zzm.mp hb with w|w
    ·rw [w,af z4];exact(hf e (by simp)).1
    ·rw [zzi.mp w,af z5];exact(hf it (by simp)).1⟩
  rcases ez z with q|q
  ·rw [q] at kl⊢;rw [q] at fin;exact fin (Draws.strAscii (A:=X.A.in1) (I.ok.hd hc) it z t) kl λh st=>st
  ·rw [q] at kl⊢;rw [q] at fin;exact fin (Draws.strWide (A:=X.A.in1) (I.ok.hd hc) it z t) kl λh st=>st
 done:=by
  intro X hP hw hK hc i aa s σ H E I hf st hg;subst hP hw hK;have hi:i=z.cps.size:=hg
  subst hi;obtain⟨⟨old,he⟩,hit⟩:=st
  obtain⟨g0,g1,g2,g3,g4,g5⟩:=hf it (by simp)
  rcases ez z with q|q
  ·rw [q] at hit;exact wpAny_pyNext_enum_endD (Draws.strAscii (A:=X.A.in1) (I.ok.hd hc) it z t) he hit λh' eb=>⟨rfl,I.turned (t':=s.toks) (λb o hb q=>eb b o hb q) g0 g1 g3 g4 g5⟩
  ·rw [q] at hit;exact wpAny_pyNext_enum_endD (Draws.strWide (A:=X.A.in1) (I.ok.hd hc) it z t) he hit λh' eb=>⟨rfl,I.turned (t':=s.toks) (λb o hb q=>eb b o hb q) g0 g1 g3 g4 g5⟩
 self:=λ_ _ _ _ _ st h=>by obtain⟨⟨old,he⟩,_⟩:=st;exact wpAny_pyIter_enum he h
section
variable{X:Cx}{elts:List Expr}{x1:Nat}{uQ:Pos}
noncomputable def PZ(ta:TA):TI:=λσ H R=>ta σ H λvs H1=>∃z,vs=[.str z]/\R (NO z) H1
theorem BR{a:Expr}{ta:TA}{p pos:Pos}(hg:Gl X "enumerate")(hm:X.mg "enumerate"=none)(ha:PA X [a] ta)(hs:starEach [a] X.env=[(false,eval a X.env)]:=by rfl):PI X (.Tuple elts x1 uQ) (.Call (.Name "enumerate" p) [a] [] pos) (PZ ta):=by
 intro aa s σ H R I h;refine Call_ (eC I hg hm boot_enumerate (PyProof.Rows.callWith_type1 (bP (ha pos aa s σ H _ I h) λus s1 ⟨vs,H1,I1,r1,q1⟩=>?_) hs rfl))
 obtain⟨z,e,q⟩:=q1
 subst e;obtain⟨u,rfl,t,rfl⟩:=vals1 r1
 refine call_enumerate_str λg he hi hz kp=>wpAny_pyIter_enum he ?_
 have I2:Inv X aa σ H1 {s1 with heap:=g}:=I1.kept (t':=s1.toks) kp
 refine⟨(zz9 s1)+1,[(zz9 s1)+1,(zz9 s1)],_,_,H1,rfl,I2,u0 z t _ (zz9 s1),⟨⟨_,he⟩,hi⟩,λb hb=>?_,q⟩
 have m9:(zz9 s1)<=b:=by
  rcases zzm.mp hb with z|z
  ·rw [z];exact Nat.le_succ _
  ·rw [zzi.mp z];exact zzE _
 exact I1.mP m9 (I1.aK.fresh m9)
end
noncomputable def Ke(K:zz8)(a:Addr)(xs:List V):It:=
 ⟨λi H=>fH K H a xs/\i<xs.length,λi H v H'=>∃p x,v=.ref p/\H p=none/\H'=upd H p (.tup [.int (i:Nat),x])/\xs[i]?=some x,λi H=>fH K H a xs/\i=xs.length⟩
def ue{P:Program}{w:World}{K:zz8}{elts:List Expr}{x1:Nat}{pos:Pos}(a e it:Addr)(xs:List V):Turn P w K (.Tuple elts x1 pos) (Ke K a xs) [e,it] e (λi h=>(∃old,IsEnum h e it i old)/\h.IsListIter it a i) where
 mem:=by simp
 obj:=λi h st b hb=>by
  obtain⟨⟨old,he⟩,o,ho,_,hd⟩:=st
  rcases zzm.mp hb with z|z
  ·subst z;exact⟨_,he,λv q=>by cases q⟩
  ·rw [zzi.mp z];exact⟨o,ho,λv q=>by rw [hd] at q;cases q⟩
 keep:=λi h h' st k=>⟨by obtain⟨old,he⟩:=st.1;exact⟨old,k e (by simp) _ he⟩,st.2.at λo q=>k it (by simp) o q⟩
 item:=by
  intro X hP hw hK hc i aa s σ H E I hf st hg;subst hP hw hK;obtain⟨hq,bH⟩:=hg
  obtain⟨⟨old,he⟩,hit⟩:=st
  obtain⟨ax,rv,p,hz⟩:=I.list hq
  have hl:=rv.length
  have kl:=hit
  obtain⟨oi,e1,e2,_⟩:=hit
  obtain⟨oa,a1,a2,_⟩:=p.isList
  have Bv:a≠it:=fA a1 e1 (by rw [a2,e2];decide+kernel)
  have Gd:e≠it:=fA he e1 (by rw [e2];show Value.type "enumerate"≠_;decide+kernel)
  have J8:e≠a:=fA he a1 (by rw [a2];show Value.type "enumerate"≠_;decide+kernel)
  refine bP (jW (Gx:=λx=>xs[i]?=some x) I (Draws.list (A:=X.A.in1) (I.ok.hd hc) it a Bv ax.toArray) he ⟨kl,p.isList⟩ (by rw [zzC];omega) Gd (by simp [Gd,J8]) hf (λu hu=>?_)) λr s1 ⟨u,hr,k⟩=>⟨u,hr,bP k λ_ s2 ⟨x,q,z1,z2,z3,z4,z5,z6,z7,z8⟩=>?_⟩
  ·have LQ:xs[i]?=some xs[i]:=zzg bH
   obtain⟨u',CJ,ru'⟩:=rv.get LQ
   have:ax.toArray[i]?=some u':=by simpa using CJ
   have La:ax.toArray[i]?=some u:=hu
   rw [this] at La;cases La;exact⟨xs[i],ru',LQ⟩
  ·exact⟨.ref q,_,z6,z1.symm▸rfl,⟨q,x,rfl,z3,rfl,z2⟩,⟨z7,z8.1⟩,λb hb=>by
    rcases zzm.mp hb with w|w
    ·rw [w,af z4];exact(hf e (by simp)).1
    ·rw [zzi.mp w,af z5];exact(hf it (by simp)).1⟩
 done:=by
  intro X hP hw hK hc i aa s σ H E I hf st hg;subst hP hw hK;obtain⟨hq,rfl⟩:=hg
  obtain⟨⟨old,he⟩,hit⟩:=st
  obtain⟨ax,rv,p,hz⟩:=I.list hq
  have hl:=rv.length
  have kl:=hit
  obtain⟨oi,e1,e2,_⟩:=hit
  obtain⟨oa,a1,a2,_⟩:=p.isList
  have Bv:a≠it:=fA a1 e1 (by rw [a2,e2];decide+kernel)
  obtain⟨g0,g1,g2,g3,g4,g5⟩:=hf it (by simp)
  refine wpAny_pyNext_enum_endD (Draws.list (A:=X.A.in1) (I.ok.hd hc) it a Bv ax.toArray) he ⟨by rw [zzC,<-hl];exact kl,p.isList⟩ λh' eb=>⟨rfl,I.turned (t':=s.toks) (λb o hb q=>eb b o hb q) g0 g1 g3 g4 g5⟩
 self:=λ_ _ _ _ _ st h=>by obtain⟨⟨old,he⟩,_⟩:=st;exact wpAny_pyIter_enum he h
section
variable{X:Cx}{elts:List Expr}{x1:Nat}{uQ:Pos}
noncomputable def PR(K:zz8)(ta:TA):TI:=λσ H R=>ta σ H λvs H1=>∃a xs,vs=[.ref a]/\fH K H1 a xs/\R (Ke K a xs) H1
theorem rT{a:Expr}{ta:TA}{p pos:Pos}(hg:Gl X "enumerate")(hm:X.mg "enumerate"=none)(ha:PA X [a] ta)(hs:starEach [a] X.env=[(false,eval a X.env)]:=by rfl):PI X (.Tuple elts x1 uQ) (.Call (.Name "enumerate" p) [a] [] pos) (PR X.K ta):=by
 intro aa s σ H R I h;refine Call_ (eC I hg hm boot_enumerate (PyProof.Rows.callWith_type1 (bP (ha pos aa s σ H _ I h) λus s1 ⟨vs,H1,I1,r1,q1⟩=>?_) hs rfl))
 obtain⟨a,xs,e,hq,q⟩:=q1
 subst e;obtain⟨u,rfl,ru⟩:=vals1 r1
 cases ru;obtain⟨ax,rv,pt,hz⟩:=I1.list hq
 refine call_enumerate_list pt.isList λg he hi _ kp=>wpAny_pyIter_enum he ?_
 have I2:Inv X aa σ H1 {s1 with heap:=g}:=I1.kept (t':=s1.toks) kp
 refine⟨(zz9 s1)+1,[(zz9 s1)+1,(zz9 s1)],_,_,H1,rfl,I2,ue a _ (zz9 s1) xs,⟨⟨_,he⟩,hi⟩,λb hb=>?_,q⟩
 have m9:(zz9 s1)<=b:=by
  rcases zzm.mp hb with z|z
  ·rw [z];exact Nat.le_succ _
  ·rw [zzi.mp z];exact zzE _
 exact I1.mP m9 (I1.aK.fresh m9)
end
structure Zd where
 it:Addr
 fp:List Addr
 n:Nat
 P:Nat->Value->Prop
 St:Nat->Heap->Prop
end L2
namespace Ci
open PySem L2
structure Hs where
 f:Str
 h:Str
 g:Str
 idx:List Nat
 np:Nat
structure Pg where
 gs:List (Str×PV)
 bs:List Str
 cs:List Str
 fs:List Str
 rs:List Str
 hs:List Hs:=[]
 hl:Bool:=false
noncomputable def fO(sc:Scope)(x:Str):Bool:=sc.names.lookup x==some .local||sc.names.lookup x==some .cell
noncomputable def eN(sc:Scope)(x:Str):Bool:=fO sc x||sc.names.lookup x==some .free
noncomputable def gR(sc:Scope)(x:Str):Bool:=sc.names.lookup x==some .globalImplicit
noncomputable def litS:List PV->List PV->Bool
 |[],[]=>true
 |.str x::xs,.str y::ys=>x==y&&litS xs ys
 |_,_=>false
noncomputable def vP:PV->PV->Bool
 |.int i,.int j=>i==j
 |.str x,.str y=>x==y
 |.tup xs,.tup ys=>litS xs ys
 |_,_=>false
theorem litS_eq:∀{xs ys:List PV},litS xs ys=true->xs=ys
 |[],[],_=>rfl
 |.str x::xs,.str y::ys,h=>by
  unfold litS at h;rw [zza] at h;rw [zzy.mp h.1,litS_eq h.2]
def Ag{p q:PV}(h:vP p q=true):p=q:=by
 unfold vP at h;split at h
 ·rw [zzy.mp h]
 ·rw [zzy.mp h]
 ·rw [litS_eq h]
 ·cases h
noncomputable def bN:B->Str
 |.len=>"len"|.abs=>"abs"|.max2=>"max"|.int=>"int"|.str=>"str"|.tuple=>"tuple"|.sorted=>"sorted"|.dict=>"dict"|.vb=>"min"
noncomputable def gX:E->Bool
 |.iM _=>false
 |_=>true
noncomputable def gP:Es->Bool
 |.nil=>true
 |.cons e es=>gX e&&gP es
noncomputable def C8:I->Bool
 |.seq e=>gX e
 |.pH _=>true
 |.o9 _ _=>true
 |.enum e=>gX e
noncomputable def isNil:Es->Bool
 |.nil=>true
 |_=>false
noncomputable def jc:Es->Nat
 |.nil=>0
 |.cons _ es=>jc es+1
noncomputable def Kd:Expr->Option (List Expr)
 |.Tuple es _ _=>some es
 |_=>none
def wG{e:Expr}{es:List Expr}(h:Kd e=some es):∃k p,e=.Tuple es k p:=by
 cases e with
 |Tuple es k p=>cases h;exact⟨_,_,rfl⟩
 |_=>exact iI h
noncomputable def yt{α:Type}:List α->Option (α×α)
 |[a,b]=>some (a,b)
 |_=>none
def DK{α:Type}{ts:List α}{q:α×α}(h:yt ts=some q):ts=[q.1,q.2]:=by
 cases ts with
 |nil=>exact iI h
 |cons a ts=>
  cases ts with
  |nil=>exact iI h
  |cons b ts=>
   cases ts with
   |cons _ _=>exact iI h
   |nil=>cases h;rfl
noncomputable def PB(N:List Str)(sc:Scope)(fn:Str->Bool)(i:Nat)(p:Expr):Bool:=(eR p).any λx=>N[i]?==some x&&fO sc x&&(fn x||sc.names.lookup x==some .local)
noncomputable def IC(N:List Str)(sc:Scope)(fn:Str->Bool):List Nat->List Expr->Bool
 |i::is,a::as=>PB N sc fn i a&&IC N sc fn is as
 |[],[]=>true
 |_,_=>false
noncomputable def ic(N:List Str)(sc:Scope)(fn:Str->Bool):Tg->Expr->Bool
 |.one i,p=>PB N sc fn i p
 |.two i j,p=>(Kd p).any (IC N sc fn [i,j])
noncomputable def aE:Expr->List Str
 |.Name x _=>[x]
 |.Tuple [.Name x _,.Name y _] _ _=>[x,y]
 |.Tuple [.Name x _,.Name y _,.Name z _] _ _=>[x,y,z]
 |.Tuple [.Name x _,.Tuple [.Name y _,.Name z _] _ _] _ _=>[x,y,z]
 |_=>[]
noncomputable def cV(scope sc:Scope):Scope:=
 {scope with names:=scope.names.map λ(n,k)=>if(k==.free&&sc.kind==.function&&sc.names.lookup n==some .cell) then(n,.cell) else(n,k)}
noncomputable def freeOf(scope:Scope):List Str:=((scope.names.filter λp=>p.2==.free).map (·.1)).reverse
noncomputable def vO(N:List Str)(sc scope:Scope)(k:Nat)(aU:List Nat)(xs:List Str):Bool:=
 scope.kind==.function&&xs.length==k&&decide ((xs++freeOf scope).Nodup)
 &&(scope.names.all λy=>(decide (y.2≠.cell)||!(freeOf scope).contains y.1)&&(decide (y.2≠.free)||(freeOf scope).contains y.1))
 &&(scope.names.all λy=>decide (y.2≠.cell)||decide (scope.names.lookup y.1=some .cell))
 &&(scope.names.all λy=>decide (y.2≠.local)||decide (scope.names.lookup y.1=some .local))
 &&decide (aU.map (λi=>N[i]?)=(freeOf scope).map some)
 &&((freeOf scope).all λy=>decide (sc.names.lookup y=some .cell))
 &&((freeOf scope).all λy=>decide ((cV scope sc).names.lookup y=some .cell))
noncomputable def md(k:Nat):Tg->Bool
 |.one i=>decide (i<k)
 |.two i j=>decide (i<k)&&decide (j<k)
noncomputable def fQ:E->Bool
 |.ite _ _ _=>false
 |.not a=>fQ a
 |.and a b=>fQ a&&fQ b
 |.or a b=>fQ a&&fQ b
 |_=>true
noncomputable def isTup:Expr->Bool
 |.Tuple .. =>true
 |_=>false
noncomputable abbrev Pg.Cp(Γ:Pg):Pg:={Γ with hl:=false}
def m6{α β:Type}{o:Option α}{f:α->Option β}{b:β}(h:o.bind f=some b):∃a,o=some a/\f a=some b:=zzZ.1 h
def if1{α:Type}{c:Bool}{a b:α}(h:(if c=true then some a else none)=some b):c=true/\a=b:=by
 cases c with
 |true=>cases h;exact⟨rfl,rfl⟩
 |false=>exact iI h
noncomputable def e9{α:Type}:List α->Option α
 |[t]=>some t
 |_=>none
def dj{α:Type}{ts:List α}{t:α}(h:e9 ts=some t):ts=[t]:=by
 cases ts with
 |nil=>exact iI h
 |cons a ts=>
  cases ts with
  |cons _ _=>exact iI h
  |nil=>cases h;rfl
noncomputable def NY:Expr->Option (Expr×Str×Pos)
 |.Attribute o m p=>some (o,m,p)
 |_=>none
def IM{e:Expr}{q:Expr×Str×Pos}(h:NY e=some q):e=.Attribute q.1 q.2.1 q.2.2:=by
 cases e with
 |Attribute o m p=>cases h;rfl
 |_=>exact iI h
noncomputable def Pl:Expr->Option (Arguments×Expr×Scope)
 |.Lambda p b s _=>some (p,b,s)
 |_=>none
def ux{e:Expr}{q:Arguments×Expr×Scope}(h:Pl e=some q):∃p,e=.Lambda q.1 q.2.1 q.2.2 p:=by
 cases e with
 |Lambda p b s x=>cases h;exact⟨_,rfl⟩
 |_=>exact iI h
noncomputable def HA:Expr->Option (Expr×Expr)
 |.Subscript a b _=>some (a,b)
 |_=>none
def pq{e:Expr}{q:Expr×Expr}(h:HA e=some q):∃p,e=.Subscript q.1 q.2 p:=by
 cases e with
 |Subscript a b p=>cases h;exact⟨_,rfl⟩
 |_=>exact iI h
noncomputable def KL:Expr->Option Const
 |.Constant c _ _=>some c
 |_=>none
def u9{e:Expr}{c:Const}(h:KL e=some c):∃p q,e=.Constant c p q:=by
 cases e with
 |Constant c p q=>cases h;exact⟨_,_,rfl⟩
 |_=>exact iI h
noncomputable def Kj:Const->Option Str
 |.str z=>some z
 |_=>none
def B9{c:Const}{z:Str}(h:Kj c=some z):c=.str z:=by
 cases c with
 |str y=>cases h;rfl
 |_=>exact iI h
noncomputable def PU:Const->Option Int
 |.int n=>some n
 |_=>none
def AU{c:Const}{n:Int}(h:PU c=some n):c=.int n:=by
 cases c with
 |int y=>cases h;rfl
 |_=>exact iI h
def GU{α:Type}{l:List α}(h:l.isEmpty=true):l=[]:=by
 cases l with
 |nil=>rfl
 |cons _ _=>exact bG h
def P1{α:Type}{o:Option α}(h:o.isNone=true):o=none:=by
 cases o with
 |none=>rfl
 |some _=>exact bG h
noncomputable def RU:Const->Option Bool
 |.bool b=>some b
 |_=>none
def HZ{c:Const}{b:Bool}(h:RU c=some b):c=.bool b:=by
 cases c with
 |bool y=>cases h;rfl
 |_=>exact iI h
noncomputable def Pq:Const->Bool
 |.none=>true
 |_=>false
def A6{c:Const}(h:Pq c=true):c=.none:=by
 cases c with
 |none=>rfl
 |_=>exact bG h
noncomputable def Ry:Expr->Option (Expr×Operator×Expr)
 |.BinOp a o b _=>some (a,o,b)
 |_=>none
def Ho{e:Expr}{q:Expr×Operator×Expr}(h:Ry e=some q):∃p,e=.BinOp q.1 q.2.1 q.2.2 p:=by
 cases e with
 |BinOp a o b p=>cases h;exact⟨_,rfl⟩
 |_=>exact iI h
noncomputable def NW:Expr->Option (Expr×List CmpOp×List Expr)
 |.Compare a o b _=>some (a,o,b)
 |_=>none
def Km{e:Expr}{q:Expr×List CmpOp×List Expr}(h:NW e=some q):∃p,e=.Compare q.1 q.2.1 q.2.2 p:=by
 cases e with
 |Compare a o b p=>cases h;exact⟨_,rfl⟩
 |_=>exact iI h
noncomputable def Pd:Expr->Option (UnaryOp×Expr)
 |.UnaryOp o a _=>some (o,a)
 |_=>none
def Jg{e:Expr}{q:UnaryOp×Expr}(h:Pd e=some q):∃p,e=.UnaryOp q.1 q.2 p:=by
 cases e with
 |UnaryOp o a p=>cases h;exact⟨_,rfl⟩
 |_=>exact iI h
noncomputable def FN:UnaryOp->Bool
 |.Not=>true
 |_=>false
def Al{o:UnaryOp}(h:FN o=true):o=.Not:=by
 cases o with
 |Not=>rfl
 |_=>exact bG h
noncomputable def v5:BoolOp->Bool
 |.And=>true
 |.Or=>false
def B2{o:BoolOp}(h:v5 o=true):o=.And:=by
 cases o with
 |And=>rfl
 |Or=>exact bG h
def DW{o:BoolOp}(h:(!v5 o)=true):o=.Or:=by
 cases o with
 |Or=>rfl
 |And=>exact bG h
noncomputable def NR:Expr->Option (BoolOp×List Expr×Pos)
 |.BoolOp o vs p=>some (o,vs,p)
 |_=>none
def Kc{e:Expr}{q:BoolOp×List Expr×Pos}(h:NR e=some q):e=.BoolOp q.1 q.2.1 q.2.2:=by
 cases e with
 |BoolOp o vs p=>cases h;rfl
 |_=>exact iI h
noncomputable def Qm(o:BoolOp)(pos:Pos):List Expr->Option (Expr×Expr)
 |a::b::[]=>some (a,b)
 |a::b::c::r=>some (a,.BoolOp o (b::c::r) pos)
 |_=>none
def BL{o:BoolOp}{pos:Pos}{vs:List Expr}{q:Expr×Expr}(h:Qm o pos vs=some q):vs=[q.1,q.2]\/∃b c r,vs=q.1::b::c::r/\q.2=.BoolOp o (b::c::r) pos:=by
 cases vs with
 |nil=>exact iI h
 |cons a vs=>
  cases vs with
  |nil=>exact iI h
  |cons b vs=>
   cases vs with
   |nil=>cases h;exact .inl rfl
   |cons c r=>cases h;exact .inr ⟨b,c,r,rfl,rfl⟩
noncomputable def RW:Expr->Option (Expr×Expr×Expr)
 |.IfExp c a b _=>some (c,a,b)
 |_=>none
def Ha{e:Expr}{q:Expr×Expr×Expr}(h:RW e=some q):∃p,e=.IfExp q.1 q.2.1 q.2.2 p:=by
 cases e with
 |IfExp c a b p=>cases h;exact⟨_,rfl⟩
 |_=>exact iI h
noncomputable def Si:Expr->Option (List Expr)
 |.List es _=>some es
 |_=>none
def Bm{e:Expr}{es:List Expr}(h:Si e=some es):∃p,e=.List es p:=by
 cases e with
 |List es p=>cases h;exact⟨_,rfl⟩
 |_=>exact iI h
noncomputable def KD:Expr->Option (Option Expr×Option Expr×Option Expr)
 |.Slice a b c _=>some (a,b,c)
 |_=>none
def Ie{e:Expr}{q:Option Expr×Option Expr×Option Expr}(h:KD e=some q):∃p,e=.Slice q.1 q.2.1 q.2.2 p:=by
 cases e with
 |Slice a b c p=>cases h;exact⟨_,rfl⟩
 |_=>exact iI h
noncomputable def Oa:Expr->Option (Expr×List Comprehension×Scope)
 |.ListComp e gs s _=>some (e,gs,s)
 |_=>none
def GX{e:Expr}{q:Expr×List Comprehension×Scope}(h:Oa e=some q):∃p,e=.ListComp q.1 q.2.1 q.2.2 p:=by
 cases e with
 |ListComp e gs s p=>cases h;exact⟨_,rfl⟩
 |_=>exact iI h
noncomputable def yW(e:Expr):Option (Str×List Expr):=(Ka e).bind λq=>(eR q.1).bind λg=>if q.2.2.1.isEmpty=true then some (g,q.2.1) else none
def Kk{e:Expr}{q:Str×List Expr}(h:yW e=some q):∃np p,e=.Call (.Name q.1 np) q.2 [] p:=by
 obtain⟨⟨f,a,k,p⟩,h1,h⟩:=m6 h
 obtain⟨g,h2,h⟩:=m6 h
 obtain⟨h3,rfl⟩:=if1 h
 obtain⟨np,z⟩:=cj h2
 have z3:=GU h3
 dsimp only at z z3;subst z z3;exact⟨np,p,jY h1⟩
noncomputable def Mi:PV->Const->Bool
 |.aH,c=>Pq c
 |.bl b,c=>(RU c).any λx=>b==x
 |.int i,c=>(PU c).any λx=>i==x
 |.str z,c=>(Kj c).any λx=>z==x
 |_,_=>false
noncomputable def Jt:List Keyword->Option (Str×Expr)
 |[⟨some n,v,_⟩]=>some (n,v)
 |_=>none
def Ar{ks:List Keyword}{q:Str×Expr}(h:Jt ks=some q):∃p,ks=[⟨some q.1,q.2,p⟩]:=by
 cases ks with
 |nil=>exact iI h
 |cons k ks=>
  obtain⟨kn,kv,kp⟩:=k
  cases kn with
  |none=>exact iI h
  |some n=>
   cases ks with
   |cons _ _=>exact iI h
   |nil=>cases h;exact⟨_,rfl⟩
def ay{a b:Bool}(h:(a&&b)=true):a=true/\b=true:=Bool.and_eq_true_iff.mp h
def ak{α:Type}{o:Option α}{f:α->Bool}(h:o.any f=true):∃x,o=some x/\f x=true:=by
 cases o with
 |none=>cases h
 |some x=>exact⟨x,rfl,h⟩
theorem jw{α:Type}{l:List α}{f:α->Bool}(h:(e9 l).any f=true):∃a,l=[a]/\f a=true:=let⟨a,e,h1⟩:=ak h;⟨a,dj e,h1⟩
theorem Eb{α:Type}{l:List α}{f:α×α->Bool}(h:(yt l).any f=true):∃a b,l=[a,b]/\f (a,b)=true:=let⟨q,e,h1⟩:=ak h;⟨q.1,q.2,DK e,h1⟩
theorem Lm{p:Expr}{f:Str->Bool}(h:(eR p).any f=true):∃x np,p=.Name x np/\f x=true:=let⟨x,e,h1⟩:=ak h;let⟨np,z⟩:=cj e;⟨x,np,z,h1⟩
theorem SJ{p:Expr}{f:Const->Bool}(h:(KL p).any f=true):∃x a b,p=.Constant x a b/\f x=true:=let⟨x,e,h1⟩:=ak h;let⟨a,b,z⟩:=u9 e;⟨x,a,b,z,h1⟩
theorem Cu{p:Expr}{f:Str×List Expr->Bool}(h:(yW p).any f=true):∃g as np pos,p=.Call (.Name g np) as [] pos/\f (g,as)=true:=let⟨q,e,h1⟩:=ak h;let⟨a,b,z⟩:=Kk e;⟨q.1,q.2,a,b,z,h1⟩
theorem Sw{p:Expr}{f:Expr×Expr->Bool}(h:(HA p).any f=true):∃a b pos,p=.Subscript a b pos/\f (a,b)=true:=let⟨q,e,h1⟩:=ak h;let⟨x,z⟩:=pq e;⟨q.1,q.2,x,z,h1⟩
theorem UB{p:Expr}{f:Option Expr×Option Expr×Option Expr->Bool}(h:(KD p).any f=true):∃a b c pos,p=.Slice a b c pos/\f (a,b,c)=true:=let⟨q,e,h1⟩:=ak h;let⟨x,z⟩:=Ie e;⟨q.1,q.2.1,q.2.2,x,z,h1⟩
theorem Tw{p:Expr}{f:UnaryOp×Expr->Bool}(h:(Pd p).any f=true):∃o a pos,p=.UnaryOp o a pos/\f (o,a)=true:=let⟨q,e,h1⟩:=ak h;let⟨x,z⟩:=Jg e;⟨q.1,q.2,x,z,h1⟩
theorem Sa{p:Expr}{f:Expr×List CmpOp×List Expr->Bool}(h:(NW p).any f=true):∃a o b pos,p=.Compare a o b pos/\f (a,o,b)=true:=let⟨q,e,h1⟩:=ak h;let⟨x,z⟩:=Km e;⟨q.1,q.2.1,q.2.2,x,z,h1⟩
theorem Ot{p:Expr}{f:Expr×List Comprehension×Scope->Bool}(h:(Oa p).any f=true):∃a g s pos,p=.ListComp a g s pos/\f (a,g,s)=true:=let⟨q,e,h1⟩:=ak h;let⟨x,z⟩:=GX e;⟨q.1,q.2.1,q.2.2,x,z,h1⟩
theorem RG{p:Expr}{f:BoolOp×List Expr×Pos->Bool}(h:(NR p).any f=true):∃o vs pos,p=.BoolOp o vs pos/\f (o,vs,pos)=true:=let⟨q,e,h1⟩:=ak h;⟨q.1,q.2.1,q.2.2,Kc e,h1⟩
mutual
noncomputable def br(Γ:Pg)(N:List Str)(sc:Scope):E->Expr->Bool
 |.var i,p=>(eR p).any λx=>N[i]?==some x&&eN sc x&&okN x
 |.iM i,p=>(eR p).any λx=>N[i]?==some x&&eN sc x&&okN x
 |.cst q,p=>(KL p).any (Mi q)
 |.glob g p,e=>(eR e).any λx=>g==x&&gR sc x&&okN x&&Γ.gs.any λq=>q.1==g&&vP q.2 p
 |.call f as,p=>(yW p).any λq=>f==q.1&&Γ.fs.contains q.1&&gR sc q.1&&okN q.1&&gP as&&j6 Γ N sc as q.2
 |.j3 i as,p=>(yW p).any λq=>N[i]?==some q.1&&eN sc q.1&&okN q.1&&gP as&&!isNil as&&j6 Γ N sc as q.2
 |.oC f as g idx aU,p=>(yW p).any λr=>Γ.hl&&gR sc r.1&&okN r.1&&gP as&&!isNil as&&(Γ.hs.any λq=>q.f==f&&q.h==r.1&&q.g==g&&q.idx==idx&&decide (q.np=jc as+1))&&wL Γ N sc g idx aU as r.2
 |.blt b as,p=>(yW p).any λq=>bN b==q.1&&gR sc q.1&&Γ.bs.contains q.1&&!isNil as&&j6 Γ N sc as q.2
 |.ty t a,p=>(yW p).any λq=>(yt q.2).any λr=>(eR r.2).any λtn=>q.1==("isinstance":Str)&&gR sc q.1&&Γ.bs.contains q.1&&tn==Str.ofString (tQ t)&&gR sc tn&&Γ.bs.contains tn&&br Γ N sc a r.1
 |.bin o a b,p=>(Ry p).any λq=>decide (Qf o=q.2.1)&&br Γ N sc a q.1&&br Γ N sc b q.2.2
 |.cmp o a b,p=>(NW p).any λq=>(e9 q.2.1).any λop=>(e9 q.2.2).any λpb=>decide (qG o=op)&&br Γ N sc a q.1&&br Γ N sc b pb
 |.ch o1 o2 a b c,p=>(NW p).any λq=>(yt q.2.1).any λop=>(yt q.2.2).any λpb=>decide (qG o1=op.1)&&decide (qG o2=op.2)&&br Γ N sc a q.1&&br Γ N sc b pb.1&&br Γ N sc c pb.2
 |.not a,p=>(Pd p).any λq=>FN q.1&&br Γ N sc a q.2
 |.and a b,p=>(NR p).any λq=>(Qm q.1 q.2.2 q.2.1).any λr=>v5 q.1&&gX b&&br Γ N sc a r.1&&br Γ N sc b r.2
 |.or a b,p=>(NR p).any λq=>(Qm q.1 q.2.2 q.2.1).any λr=>!v5 q.1&&gX b&&br Γ N sc a r.1&&br Γ N sc b r.2
 |.ite c a b,p=>(RW p).any λq=>fQ c&&gX a&&gX b&&br Γ N sc c q.1&&br Γ N sc a q.2.1&&br Γ N sc b q.2.2
 |.tup as,p=>(Kd p).any λps=>gP as&&decide (jc as<1000)&&j6 Γ N sc as ps
 |.lst as,p=>(Si p).any λps=>gP as&&decide (jc as<1000)&&j6 Γ N sc as ps
 |.sub a b,p=>(HA p).any λq=>br Γ N sc a q.1&&br Γ N sc b q.2
 |.slice a lo hi,p=>(HA p).any λq=>(KD q.2).any λr=>r.2.2.isNone&&br Γ N sc a q.1&&HR Γ N sc lo r.1&&HR Γ N sc hi r.2.1
 |.comp k aU tg it elt,p=>(Oa p).any λq=>(e9 q.2.1).any λg=>g.ifs.isEmpty&&(vO N sc q.2.2 k aU (aE g.target)&&md k tg&&gX elt&&xO Γ N sc g.target it g.iter&&ic (aE g.target++freeOf q.2.2) (cV q.2.2 sc) (lN q.2.2) tg g.target&&br Γ.Cp (aE g.target++freeOf q.2.2) (cV q.2.2 sc) elt q.1&&decide (g.is_async=0))
 |.cG k aU tg it c elt,p=>(Oa p).any λq=>(e9 q.2.1).any λg=>(e9 g.ifs).any λpc=>fQ c&&vO N sc q.2.2 k aU (aE g.target)&&md k tg&&gX elt&&xO Γ N sc g.target it g.iter&&ic (aE g.target++freeOf q.2.2) (cV q.2.2 sc) (lN q.2.2) tg g.target&&br Γ.Cp (aE g.target++freeOf q.2.2) (cV q.2.2 sc) c pc&&br Γ.Cp (aE g.target++freeOf q.2.2) (cV q.2.2 sc) elt q.1&&decide (g.is_async=0)
 |.tR a,p=>(yW p).any λq=>(e9 q.2).any λz=>(yW z).any λr=>(e9 r.2).any λpa=>q.1==("sorted":Str)&&gR sc q.1&&Γ.bs.contains q.1&&r.1==("set":Str)&&gR sc r.1&&Γ.bs.contains r.1&&br Γ N sc a pa
 |.jx a,p=>(Ka p).any λq=>(eR q.1).any λf=>(e9 q.2.1).any λpa=>(Jt q.2.2.1).any λr=>(KL r.2).any λc=>f==("min":Str)&&gR sc f&&Γ.bs.contains f&&r.1==("default":Str)&&Pq c&&br Γ N sc a pa
noncomputable def j6(Γ:Pg)(N:List Str)(sc:Scope):Es->List Expr->Bool
 |.nil,[]=>true
 |.cons e es,p::ps=>br Γ N sc e p&&j6 Γ N sc es ps
 |_,_=>false
noncomputable def wL(Γ:Pg)(N:List Str)(sc:Scope)(g:Str)(idx aU:List Nat):Es->List Expr->Bool
 |.nil,ps=>(e9 ps).any λp=>(Pl p).any λl=>Fp g idx l.1 l.2.1 l.2.2&&decide (aU.map (λi=>N[i]?)=(bf l.2.2).map some)&&((bf l.2.2).all λy=>decide (sc.names.lookup y=some .cell))
 |.cons e es,p::ps=>br Γ N sc e p&&wL Γ N sc g idx aU es ps
 |_,_=>false
noncomputable def HR(Γ:Pg)(N:List Str)(sc:Scope):Oe->Option Expr->Bool
 |.no,none=>true
 |.some e,some p=>br Γ N sc e p
 |_,_=>false
noncomputable def xO(Γ:Pg)(N:List Str)(sc:Scope)(tg:Expr):I->Expr->Bool
 |.seq e,p=>br Γ N sc e p
 |.pH e,p=>(yW p).any λq=>(e9 q.2).any λr=>q.1==("range":Str)&&gR sc q.1&&Γ.bs.contains q.1&&br Γ N sc e r
 |.o9 a b,p=>(yW p).any λq=>(yt q.2).any λr=>q.1==("range":Str)&&gR sc q.1&&Γ.bs.contains q.1&&br Γ N sc a r.1&&br Γ N sc b r.2
 |.enum e,p=>(yW p).any λq=>(e9 q.2).any λr=>isTup tg&&q.1==("enumerate":Str)&&gR sc q.1&&Γ.bs.contains q.1&&br Γ N sc e r
end
noncomputable def XE(W:Wd)(c:Str)(G1 H1:Hp):XK:=λCv ao H'=>∃C a G',Cv=.ref C/\ao=some a/\c∈W.xs/\W.mg c=some (.ref C)/\aB W G1 H1 G' H'
def vd(X:Cx)(W:Wd)(σ:St)(c:Str)(G H:Hp):Prop:=∀(aa:List (Addr×Obj)) (G1 H1:Hp) (s1:Shared) (e:Value) (s':Shared),Inv X aa σ H1 s1->aB W G H G1 H1->dI X.prog X.w X.stack H1 s1 (XE W c G1 H1) e s'->X.xe e s'
def Out{α:Type}(X:Cx)(W:Wd)(r:Res α)(σ:St)(G H:Hp)(k:α->Prop):Prop:=match r with
 |.ok a=>k a
 |.exc c=>vd X W σ c G H
 |.bad=>False
section
variable{X:Cx}{W:Wd}{F:bb}{σ:St}{G H G1 H1:Hp}{α β:Type}
def vd.grow{c:Str}(h:vd X W σ c G H)(g:aB W G H G1 H1):vd X W σ c G1 H1:=λaa G2 H2 s1 e s' I g2 x=>h aa G2 H2 s1 e s' I (g.trans g2) x
def Out.grow{r:Res α}{k:α->Prop}(h:Out X W r σ G H k)(g:aB W G H G1 H1):Out X W r σ G1 H1 k:=by
 cases r with
 |ok a=>exact h
 |exc c=>exact vd.grow h g
 |bad=>exact h
def Out.imp{r:Res α}{k k':α->Prop}(h:Out X W r σ G H k)(i:∀a,k a->k' a):Out X W r σ G H k':=by
 cases r with
 |ok a=>exact i a h
 |exc c=>exact h
 |bad=>exact h
def Out.bind{r:Res α}{f:α->Res β}{k:β->Prop}(h:Out X W (r.bind f) σ G H k):Out X W r σ G H λa=>Out X W (f a) σ G H k:=by
 cases r with
 |ok a=>exact h
 |exc c=>exact h
 |bad=>exact h
def Out.val{r:Res α}{k:α->Prop}(h:Out X W r σ G H k)(n:∀c,r≠.exc c):∃a,r=.ok a/\k a:=by
 cases r with
 |ok a=>exact⟨a,rfl,h⟩
 |exc c=>exact absurd rfl (n c)
 |bad=>exact h.elim
structure Got(W:Wd)(H0 G H:Hp)(e:E)(p:PV)(v:V):Prop where
 top:Top W H0 G H p v
 rep:gX e=true->Rep W G p v
def Got.of{H0:Hp}{e:E}{p:PV}{v:V}(h:Rep W G p v):Got W H0 G H e p v:=⟨.inl h,λ_=>h⟩
noncomputable def tE(X:Cx)(W:Wd)(F:bb)(e:E):TE:=λσ H Q=>∃H0 G env,SR W H0 env σ G H/\Out X W (aD F e env) σ G H λp=>∀v G' H',aB W G H G' H'->Got W H0 G' H' e p v->Q v H'
noncomputable def tT(X:Cx)(W:Wd)(F:bb)(e:E):TT:=λσ H Q=>∃H0 G env,SR W H0 env σ G H/\Out X W (aD F e env) σ G H λp=>∃b,p=.bl b/\∀G' H',aB W G H G' H'->Q b H'
structure MO(W:Wd)(H0 G H:Hp)(es:Es)(ps:List PV)(vs:List V):Prop where
 top:Paired (λv p=>Top W H0 G H p v) vs ps
 rep:gP es=true->aj W G ps vs
noncomputable def tA(X:Cx)(W:Wd)(F:bb)(es:Es):TA:=λσ H Q=>∃H0 G env,SR W H0 env σ G H/\Out X W (cB F es env) σ G H λps=>∀vs G' H',aB W G H G' H'->MO W H0 G' H' es ps vs->Q vs H'
noncomputable def Ao(X:Cx)(W:Wd)(F:bb)(o:Oe):TO:=λσ H Q=>∃H0 G env,SR W H0 env σ G H/\Out X W (wF F o env) σ G H λi=>∀G' H',aB W G H G' H'->Q i H'
def one{H0:Hp}{env:Sl}{e:E}{f:PV->Res β}{k:β->Prop}{Q:VK}(sr:SR W H0 env σ G H)(o:Out X W ((aD F e env).bind f) σ G H k)
 (h:∀p v G1 H1,aB W G H G1 H1->Got W H0 G1 H1 e p v->SR W H0 env σ G1 H1->Out X W (f p) σ G1 H1 k->Q v H1):tE X W F e σ H Q:=
 ⟨H0,G,env,sr,o.bind.imp λp hp v G1 H1 g t=>h p v G1 H1 g t (sr.grow g) (hp.grow g)⟩
def CI{H0:Hp}{env:Sl}{e:E}{f:Bool->Res β}{k:β->Prop}{Q:Bool->Hp->Prop}(sr:SR W H0 env σ G H)(o:Out X W ((aD F e env).bind λp=>pB p f) σ G H k)
 (h:∀b G1 H1,aB W G H G1 H1->SR W H0 env σ G1 H1->Out X W (f b) σ G1 H1 k->Q b H1):tT X W F e σ H Q:=by
 refine⟨H0,G,env,sr,o.bind.imp λp hp=>?_⟩
 cases p with
 |bl b=>exact⟨b,rfl,λG1 H1 g=>h b G1 H1 g (sr.grow g) (Out.grow hp g)⟩
 |aH=>exact zzk hp
 |int _=>exact zzk hp
 |str _=>exact zzk hp
 |tup _=>exact zzk hp
 |lst _=>exact zzk hp
 |exc _=>exact zzk hp
 |bo _ _=>exact zzk hp
def args{H0:Hp}{env:Sl}{es:Es}{f:List PV->Res β}{k:β->Prop}{Q:List V->Hp->Prop}(sr:SR W H0 env σ G H)(o:Out X W ((cB F es env).bind f) σ G H k)
 (h:∀ps vs G1 H1,aB W G H G1 H1->MO W H0 G1 H1 es ps vs->SR W H0 env σ G1 H1->Out X W (f ps) σ G1 H1 k->Q vs H1):tA X W F es σ H Q:=
 ⟨H0,G,env,sr,o.bind.imp λp hp v G1 H1 g t=>h p v G1 H1 g t (sr.grow g) (hp.grow g)⟩
def A9(W:Wd)(G:Hp):Option (Str×List Nat)->List PV->List V->Prop
 |none,as,vs=>aj W G as vs
 |some q,as,vs=>∃vp cE wW v,as=vp++cE/\vs=wW++[v]/\aj W G vp wW/\ql W G q.1 q.2 cE v
noncomputable def yU(W:Wd)(F:bb)(f:Str)(n:Nat)(q:Option (Str×List Nat)):Sp:=λvs H Q E=>vs.length=n/\∃G as,az G H/\cq W G H/\A9 W G q as vs/\(match F f as with
 |.ok p=>∀v G' H',aB W G H G' H'->Rep W G' p v->Q v H'
 |.exc c=>∀Cv ao H',XE W c G H Cv ao H'->E Cv ao H'
 |.bad=>False)
structure IL(X:Cx)(W:Wd)(F:bb)(k:Nat)(f:Str):Prop where
 ex:∃fa fd ps,gf X.prog X.w X.K X.mg X.base (dI X.prog X.w) k fa fd ps (yU W F f ps.length none)/\X.mg f=some (.ref fa)/\PySem.W.keepIn X.K (.ref fa)=true/\Binds X.K fd ps []/\∀as,F f as≠.bad->as.length=ps.length
structure MI(X:Cx)(W:Wd)(F:bb)(k:Nat)(q:Hs):Prop where
 ex:∃fa fd ps,gf X.prog X.w X.K X.mg X.base (dI X.prog X.w) k fa fd ps (yU W F q.f ps.length (some (q.g,q.idx)))/\X.mg q.h=some (.ref fa)/\PySem.W.keepIn X.K (.ref fa)=true/\Binds X.K fd ps []/\ps.length=q.np
structure dF(Γ:Pg)(F:bb)(W:Wd)(N:List Str)(sc:Scope)(k:Nat)(X:Cx):Prop where
 hN:X.N=N
 eP:X.env.scope=sc
 calm:X.calm=true
 nd:N.Nodup
 K:W.K=X.K
 mg:W.mg=X.mg
 gs:∀q∈Γ.gs,∃u v,X.mg q.1=some u/\RelV v u/\∀G,Rep W G q.2 v
 bs:∀g∈Γ.bs,X.mg g=none
 room:du (k+1) X.A
 fns:∀f,Γ.fs.contains f=true->IL X W F k f
 Oc:Γ.cs.contains "ValueError"=false
 cls:∀c∈Γ.cs,∃C,X.mg c=some (.ref C)
 xc:∀d∈W.xs,∀D,X.mg d=some (.ref D)->Jj X.K D/\(∀c∈Γ.cs,∀C,X.mg c=some (.ref C)->PySem.W.kitOne X.K (.ref D) (.ref C)=some (c==d||c=="FloorError"))/\PySem.W.kitOne X.K (.ref D) (.type "ValueError")=some true
 tJ:∀q∈Γ.hs,MI X W F k q
 any:∀g as,F g as≠.bad->Γ.fs.contains g=true\/gk g=true
 tb:Γ.hl=true->∃c P,X.env.code=.ref c/\PySem.W.CodeHd X.base c P/\(P,X.env.qual++"<lambda>")∈W.ts/\∀q',(P,q')∈W.ts->q'=X.env.qual++"<lambda>"
 bm:Γ.hl=true->zy X.mg X.base
 fl:Γ.hl=true->∀x,X.fn x=true
variable{Γ:Pg}{N:List Str}{sc:Scope}{k:Nat}
def oX(C:dF Γ F W N sc k X){x:Str}(h:eN sc x=true):Mt X.env.scope x:=by
 rw [C.eP];unfold eN fO at h;simp! [zzt,zzy] at h;rcases h with(h|h)|h
 ·exact .inl h
 ·exact .inr (.inl h)
 ·exact .inr (.inr h)
def ei(C:dF Γ F W N sc k X){x:Str}(h:gR sc x=true):Gl X x:=by
 show X.env.scope.names.lookup x=_
 rw [C.eP];exact zzy.mp h
def dy{x:Str}(h:okN x=true):(x==("__debug__":Str))=false/\(x==("__classdict__":Str))=false/\x≠"__name__":=by
 unfold okN at h;simp! [zza,Bool.not_eq_true',beq_eq_false_iff_ne] at h;exact⟨beq_eq_false_iff_ne.mpr h.1.1,beq_eq_false_iff_ne.mpr h.1.2,h.2⟩
abbrev GE(X:Cx)(W:Wd)(F:bb)(e:E)(p:Expr):Prop:=PE X p (tE X W F e)
abbrev GT(X:Cx)(W:Wd)(F:bb)(e:E)(p:Expr):Prop:=PT X p (tT X W F e)
abbrev GW(X:Cx)(W:Wd)(F:bb)(e:E)(p:Expr):Prop:=PW X p (tT X W F e)
def _root_.L2.PE.imp{p:Expr}{t t':TE}(h:PE X p t)(i:∀σ H Q,t' σ H Q->t σ H Q):PE X p t':=λaa s σ H Q I hw=>h aa s σ H Q I (i σ H Q hw)
def _root_.L2.PT.imp{p:Expr}{t t':TT}(h:PT X p t)(i:∀σ H Q,t' σ H Q->t σ H Q):PT X p t':=λaa s σ H Q I hw=>h aa s σ H Q I (i σ H Q hw)
def _root_.L2.PW.imp{p:Expr}{t t':TT}(h:PW X p t)(i:∀σ H Q,t' σ H Q->t σ H Q):PW X p t':=λw aa s σ H Q I hw=>h w aa s σ H Q I (i σ H Q hw)
def _root_.L2.PA.imp{p:List Expr}{t t':TA}(h:PA X p t)(i:∀σ H Q,t' σ H Q->t σ H Q):PA X p t':=λpos aa s σ H Q I hw=>h pos aa s σ H Q I (i σ H Q hw)
def Gk{e:E}(σ:St)(H:Hp)(Q:Bool->Hp->Prop)(h:tT X W F e σ H Q):tB (tE X W F e) σ H Q:=by
 obtain⟨H0,G,env,sr,o⟩:=h
 refine⟨H0,G,env,sr,o.imp λp hp v G' H' g t=>?_⟩
 obtain⟨b,rfl,q⟩:=hp
 exact⟨b,t.top.bl,q G' H' g⟩
def rC{e:E}(σ:St)(H:Hp)(Q:Bool->Hp->Prop)(h:tT X W F e σ H Q):zC (tE X W F e) σ H Q:=Gk σ H Q h
def Hq(C:dF Γ F W N sc k X){i:Nat}{x:Str}{pos:Pos}(h:(N[i]?==some x&&eN sc x&&okN x)=true):GE X W F (.var i) (.Name x pos):=by
 simp! [zza,zzy] at h;obtain⟨h1,h2,h3⟩:=dy h.2
 refine(fu (i:=i) (by rw [C.hN];exact h.1.1) (oX C h.1.2) h1 h2).imp λσ H Q hq=>?_
 obtain⟨H0,G,env,sr,o⟩:=hq
 cases e:env[i]? with
 |none=>unfold aD at o;rw [e] at o;exact o.elim
 |some sl=>
  cases sl with
  |no=>unfold aD at o;rw [e] at o;exact o.elim
  |fn _ _ _=>unfold aD at o;rw [e] at o;exact o.elim
  |own p=>unfold aD at o;rw [e] at o;exact o.elim
  |val p=>
   unfold aD at o;rw [e] at o;obtain⟨o2,hs,v,rfl,r⟩:=sr.slot i _ e
   exact⟨v,hs,o v G H (.refl sr.sub) (.of r)⟩
def G9(C:dF Γ F W N sc k X){i:Nat}{x:Str}{pos:Pos}(h:(N[i]?==some x&&eN sc x&&okN x)=true):GE X W F (.iM i) (.Name x pos):=by
 simp! [zza,zzy] at h;obtain⟨h1,h2,h3⟩:=dy h.2
 refine(fu (i:=i) (by rw [C.hN];exact h.1.1) (oX C h.1.2) h1 h2).imp λσ H Q hq=>?_
 obtain⟨H0,G,env,sr,o⟩:=hq
 cases e:env[i]? with
 |none=>unfold aD at o;rw [e] at o;exact o.elim
 |some sl=>
  cases sl with
  |no=>unfold aD at o;rw [e] at o;exact o.elim
  |fn _ _ _=>unfold aD at o;rw [e] at o;exact o.elim
  |own p=>
   unfold aD at o;rw [e] at o;obtain⟨o2,hs,v,rfl,r⟩:=sr.slot i _ e
   exact⟨v,hs,o v G H (.refl sr.sub) ⟨.inr r,λz=>nomatch z⟩⟩
  |val p=>
   unfold aD at o;rw [e] at o;obtain⟨o2,hs,v,rfl,r⟩:=sr.slot i _ e
   exact⟨v,hs,o v G H (.refl sr.sub) (.of r)⟩
def iS{p:PV}{v:V}{e:Expr}(h:PE X e (tC v))(r:∀G,Rep W G p v):GE X W F (.cst p) e:=by
 refine L2.PE.imp h λσ H Q hq=>?_
 obtain⟨H0,G,env,sr,o⟩:=hq
 exact o v G H (.refl sr.sub) (.of (r G))
def E9(C:dF Γ F W N sc k X){g x:Str}{p:PV}{pos:Pos}(h:(g==x&&gR sc x&&okN x&&Γ.gs.any λq=>q.1==g&&vP q.2 p)=true):GE X W F (.glob g p) (.Name x pos):=by
 simp! [zza,zzy,zzj] at h;obtain⟨⟨⟨rfl,h2⟩,h3⟩,q,hq,e1,e2⟩:=h
 obtain⟨u,v,hm,rv,hr⟩:=C.gs q hq
 rw [e1] at hm;cases Ag e2;refine(EA (ei C h2) hm rv (dy h3).1).imp λσ H Q hq=>?_
 obtain⟨H0,G,env,sr,o⟩:=hq
 exact o v G H (.refl sr.sub) (.of (hr G))
def Res.aQ{α:Type}{o:Option α}(c:Str):Res.of o≠.exc c:=by cases o<;>exact λz=>nomatch z
def pd{α β:Type}{o:Option α}{f:α->Res β}{c:Str}(h:∀a,f a≠.exc c):(Res.of o).bind f≠.exc c:=by
 cases o with
 |none=>exact λz=>nomatch z
 |some a=>exact h a
def nu{o:KS}{p q:PV}(c:Str):binOp o p q≠.exc c:=by
 unfold binOp
 repeat' split
 all_goals exact λz=>nomatch z
def DU{p q:PV}(c:Str):iQ p q≠.exc c:=by
 unfold iQ
 (repeat' first|split|refine pd λ_=>?_|exact Res.aQ c|exact(λz=>nomatch z))
def D1{p q:PV}(c:Str):gy p q≠.exc c:=by
 unfold gy
 (repeat' first|split|refine pd λ_=>?_|exact Res.aQ c|exact(λz=>nomatch z))
def Ey{p q:PV}(c:Str):rK p q≠.exc c:=by
 unfold rK
 (repeat' first|split|refine pd λ_=>?_|exact Res.aQ c|exact(λz=>nomatch z))
def Fg{p q:PV}(c:Str):rh p q≠.exc c:=by
 unfold rh
 (repeat' first|split|refine pd λ_=>?_|exact Res.aQ c|exact(λz=>nomatch z))
def EZ{p q:PV}(c:Str):uq p q≠.exc c:=by
 unfold uq
 (repeat' first|split|refine pd λ_=>?_|exact Res.aQ c|exact(λz=>nomatch z))
def zf{p q:PV}(c:Str):kc p q≠.exc c:=by
 unfold kc
 (repeat' first|split|refine pd λ_=>?_|exact Res.aQ c|exact(λz=>nomatch z))
def D5{p q:PV}(c:Str):kU p q≠.exc c:=by
 unfold kU
 (repeat' first|split|refine pd λ_=>?_|exact Res.aQ c|exact(λz=>nomatch z))
def B3{p q:PV}(c:Str):i6 p q≠.exc c:=by
 unfold i6
 (repeat' first|split|refine pd λ_=>?_|exact Res.aQ c|exact(λz=>nomatch z))
def di{o:BJ}{p q:PV}(c:Str):dC o p q≠.exc c:=match o with
 |.eq=>DU c|.ne=>D1 c|.lt=>Ey c|.le=>Fg c|.gt=>EZ c|.HN=>zf c|.xy=>D5 c|.vi=>B3 c
def two{op:PV->PV->Res PV}{ea eb:E}{e:E}{σ:St}{H:Hp}{Q:VK}(hn:∀p q c,op p q≠.exc c)(he:∀env,aD F e env=(aD F ea env).bind λx=>(aD F eb env).bind λy=>op x y)
 (h:tE X W F e σ H Q):Kz (wD W op) (tE X W F ea) (tE X W F eb) σ H Q:=by
 obtain⟨H0,G,env,sr,o⟩:=h
 rw [he] at o;refine one sr o λp v G1 H1 g1 t1 bR o1=>one bR o1 λq u G2 H2 g2 t2 fM o2=>?_
 obtain⟨r,hr,kr⟩:=o2.val (hn p q)
 exact⟨H0,G2,p,q,r,fM.sub,t1.top.grow g2,t2.top,hr,λw G' H' g' jg=>kr w G' H' ((g1.trans g2).trans g') (.of jg)⟩
def JD(C:dF Γ F W N sc k X){o:KS}{a b:E}{pa pb:Expr}{pos:Pos}(ha:GE X W F a pa)(hb:GE X W F b pb):GE X W F (.bin o a b) (.BinOp pa (Qf o) pb pos):=
 (MT (JH C.K o) ha hb).imp λσ H Q h=>two (λp q c=>nu c) (λenv=>by rw [aD]) h
def Jv(C:dF Γ F W N sc k X){o:BJ}{a b:E}{pa pb:Expr}{pos:Pos}(ha:GE X W F a pa)(hb:GE X W F b pb)(hm:behindInMarks (qG o) pb=false):GE X W F (.cmp o a b) (.Compare pa [qG o] [pb] pos):=
 (DQ (gG C.K C.room.units o) ha hb hm).imp λσ H Q h=>two (λp q c=>di c) (λenv=>by rw [aD]) h
theorem GH(C:dF Γ F W N sc k X){o:BJ}{a b:E}{pa pb:Expr}{pos:Pos}(ha:GE X W F a pa)(hb:GE X W F b pb)(hm:behindInMarks (qG o) pb=false):GT X W F (.cmp o a b) (.Compare pa [qG o] [pb] pos):=
 (Eg (gG C.K C.room.units o) ha hb hm).imp λσ H Q h=>by
  have h2:=rC σ H Q h
  exact two (λp q c=>di c) (λenv=>by rw [aD]) h2
def FU{c1 c2:BJ}{a b c:E}(σ:St)(H:Hp)(Q:VK)(h:tE X W F (.ch c1 c2 a b c) σ H Q):uw (wD W (dC c1)) (wD W (dC c2)) (tE X W F a) (tE X W F b) (tE X W F c) σ H Q:=by
 obtain⟨H0,G,env,sr,o⟩:=h
 rw [aD] at o;refine one sr o λp v G1 H1 g1 t1 bR o1=>one bR o1 λq u G2 H2 g2 t2 fM o2=>?_
 obtain⟨r,hr,kr⟩:=o2.bind.val (di)
 refine⟨H0,G2,p,q,r,fM.sub,t1.top.grow g2,t2.top,hr,λw G3 H3 g3 jg=>?_⟩
 cases r with
 |bl t=>
  simp! [Rep] at jg;subst jg;refine⟨t,rfl,?_⟩;cases t with
  |false=>
   rw [if_neg zzf];have uV:Out X W (Res.ok (PV.bl false)) σ G2 H2 _:=kr
   exact uV _ G3 H3 ((g1.trans g2).trans g3) (.of .b)
  |true=>
   rw [if_pos rfl];have uV:Out X W ((aD F c env).bind λz=>dC c2 q z) σ G2 H2 _:=kr
   refine one (fM.grow g3) (uV.grow g3) λz y G4 H4 g4 t4 Ig o4=>?_
   obtain⟨r4,hr4,kr4⟩:=o4.val (di)
   exact⟨H0,G4,q,z,r4,Ig.sub,t2.top.grow (g3.trans g4),t4.top,hr4,λw G5 H5 g5 UJ=>kr4 w G5 H5 ((((g1.trans g2).trans g3).trans g4).trans g5) (.of UJ)⟩
 |aH=>exact zzk kr
 |int _=>exact zzk kr
 |str _=>exact zzk kr
 |tup _=>exact zzk kr
 |lst _=>exact zzk kr
 |exc _=>exact zzk kr
 |bo _ _=>exact zzk kr
def Mj(C:dF Γ F W N sc k X){o1 o2:BJ}{a b c:E}{pa pb pc:Expr}{pos:Pos}(ha:GE X W F a pa)(hb:GE X W F b pb)(hc:GE X W F c pc)(hm:lastMarks [qG o1,qG o2] [pb,pc]=false):GE X W F (.ch o1 o2 a b c) (.Compare pa [qG o1,qG o2] [pb,pc] pos):=
 (A8 (gG C.K C.room.units o1) (gG C.K C.room.units o2) ha hb hc hm).imp FU
def M9(C:dF Γ F W N sc k X){o1 o2:BJ}{a b c:E}{pa pb pc:Expr}{pos:Pos}(ha:GE X W F a pa)(hb:GE X W F b pb)(hc:GE X W F c pc)(hm:lastMarks [qG o1,qG o2] [pb,pc]=false):GT X W F (.ch o1 o2 a b c) (.Compare pa [qG o1,qG o2] [pb,pc] pos):=
 (Ap (gG C.K C.room.units o1) (gG C.K C.room.units o2) ha hb hc hm).imp λσ H Q h=>FU σ H _ (rC σ H Q h)
theorem J4{a:E}{pa:Expr}{pos:Pos}(ha:GE X W F a pa):GE X W F (.not a) (.UnaryOp .Not pa pos):=
 (JX ha).imp λσ H Q h=>by
  obtain⟨H0,G,env,sr,o⟩:=h
  rw [aD] at o;refine one sr o λp v G1 H1 g1 t1 bR o1=>?_
  cases p with
  |bl b=>exact⟨b,t1.top.bl,o1 _ G1 H1 g1 (.of .b)⟩
  |int _=>exact zzk o1
  |aH=>exact zzk o1
  |str _=>exact zzk o1
  |tup _=>exact zzk o1
  |lst _=>exact zzk o1
  |exc _=>exact zzk o1
  |bo _ _=>exact zzk o1
theorem JB{a:E}{pa:Expr}{pos:Pos}(ha:GT X W F a pa):GT X W F (.not a) (.UnaryOp .Not pa pos):=
 (IW ha).imp λσ H Q h=>by
  obtain⟨H0,G,env,sr,o⟩:=h
  rw [aD] at o;refine CI sr o λb G1 H1 g1 bR o1=>?_
  obtain⟨b',e,q⟩:=o1
  cases e;exact q G1 H1 g1
theorem za{a b:E}{pa pb:Expr}{r:List Expr}{pos:Pos}(he:gX b=true)(ha:GE X W F a pa)(hb:GE X W F b (.BoolOp .And (pb::r) pos)):GE X W F (.and a b) (.BoolOp .And (pa::pb::r) pos):=
 (Kt ha hb).imp λσ H Q h=>by
  obtain⟨H0,G,env,sr,o⟩:=h
  rw [aD] at o;refine one sr o λp v G1 H1 g1 t1 bR o1=>?_
  cases p with
  |bl t=>
   refine⟨t,t1.top.bl,?_⟩;cases t with
   |true=>
    rw [if_pos rfl];have sU:Out X W (aD F b env) σ G1 H1 _:=o1
    exact⟨H0,G1,env,bR,sU.imp λp hp v G' H' g' t'=>hp v G' H' (g1.trans g') (.of (t'.rep he))⟩
   |false=>
    rw [if_neg zzf];have sU:Out X W (Res.ok (PV.bl false)) σ G1 H1 _:=o1
    exact sU _ G1 H1 g1 (.of .b)
  |int _=>exact zzk o1
  |aH=>exact zzk o1
  |str _=>exact zzk o1
  |tup _=>exact zzk o1
  |lst _=>exact zzk o1
  |exc _=>exact zzk o1
  |bo _ _=>exact zzk o1
theorem FI{a b:E}{pa pb:Expr}{r:List Expr}{pos:Pos}(he:gX b=true)(ha:GE X W F a pa)(hb:GE X W F b (.BoolOp .Or (pb::r) pos)):GE X W F (.or a b) (.BoolOp .Or (pa::pb::r) pos):=
 (Ly ha hb).imp λσ H Q h=>by
  obtain⟨H0,G,env,sr,o⟩:=h
  rw [aD] at o;refine one sr o λp v G1 H1 g1 t1 bR o1=>?_
  cases p with
  |bl t=>
   refine⟨t,t1.top.bl,?_⟩;cases t with
   |false=>
    rw [if_neg zzf];have sU:Out X W (aD F b env) σ G1 H1 _:=o1
    exact⟨H0,G1,env,bR,sU.imp λp hp v G' H' g' t'=>hp v G' H' (g1.trans g') (.of (t'.rep he))⟩
   |true=>
    rw [if_pos rfl];have sU:Out X W (Res.ok (PV.bl true)) σ G1 H1 _:=o1
    exact sU _ G1 H1 g1 (.of .b)
  |int _=>exact zzk o1
  |aH=>exact zzk o1
  |str _=>exact zzk o1
  |tup _=>exact zzk o1
  |lst _=>exact zzk o1
  |exc _=>exact zzk o1
  |bo _ _=>exact zzk o1
theorem BF{a b:E}{pa pb:Expr}{r:List Expr}{pos:Pos}(ha:GT X W F a pa)(hb:GW X W F b (.BoolOp .And (pb::r) pos)):GW X W F (.and a b) (.BoolOp .And (pa::pb::r) pos):=
 (pw_and ha hb).imp λσ H Q h=>by
  obtain⟨H0,G,env,sr,o⟩:=h
  rw [aD] at o;refine CI sr o λt G1 H1 g1 bR o1=>?_
  cases t with
  |true=>
   rw [if_pos rfl];have sU:Out X W (aD F b env) σ G1 H1 _:=o1
   exact⟨H0,G1,env,bR,sU.imp λp hp=>by obtain⟨c,rfl,q⟩:=hp;exact⟨c,rfl,λG' H' g'=>q G' H' (g1.trans g')⟩⟩
  |false=>
   rw [if_neg zzf];obtain⟨c,e,q⟩:=(show Out X W (Res.ok (PV.bl false)) σ G1 H1 _ from o1)
   cases e;exact q G1 H1 g1
theorem FL{a b:E}{pa pb:Expr}{r:List Expr}{pos:Pos}(ha:GT X W F a pa)(hb:GW X W F b (.BoolOp .Or (pb::r) pos)):GW X W F (.or a b) (.BoolOp .Or (pa::pb::r) pos):=
 (pw_or ha hb).imp λσ H Q h=>by
  obtain⟨H0,G,env,sr,o⟩:=h
  rw [aD] at o;refine CI sr o λt G1 H1 g1 bR o1=>?_
  cases t with
  |false=>
   rw [if_neg zzf];have sU:Out X W (aD F b env) σ G1 H1 _:=o1
   exact⟨H0,G1,env,bR,sU.imp λp hp=>by obtain⟨c,rfl,q⟩:=hp;exact⟨c,rfl,λG' H' g'=>q G' H' (g1.trans g')⟩⟩
  |true=>
   rw [if_pos rfl];obtain⟨c,e,q⟩:=(show Out X W (Res.ok (PV.bl true)) σ G1 H1 _ from o1)
   cases e;exact q G1 H1 g1
theorem Jf{c a b:E}{pc pa pb:Expr}{pos:Pos}(S5:gX a=true)(Tn:gX b=true)(hc:GT X W F c pc)(ha:GE X W F a pa)(hb:GE X W F b pb):GE X W F (.ite c a b) (.IfExp pc pa pb pos):=
 (BB hc ha hb).imp λσ H Q h=>by
  obtain⟨H0,G,env,sr,o⟩:=h
  rw [aD] at o;refine CI sr o λt G1 H1 g1 bR o1=>?_
  cases t with
  |true=>
   rw [if_pos rfl];have sU:Out X W (aD F a env) σ G1 H1 _:=o1
   exact⟨H0,G1,env,bR,sU.imp λp hp v G' H' g' t'=>hp v G' H' (g1.trans g') (.of (t'.rep S5))⟩
  |false=>
   rw [if_neg zzf];have sU:Out X W (aD F b env) σ G1 H1 _:=o1
   exact⟨H0,G1,env,bR,sU.imp λp hp v G' H' g' t'=>hp v G' H' (g1.trans g') (.of (t'.rep Tn))⟩
noncomputable def tF(X:Cx)(W:Wd)(F:bb)(e:E):TE:=λσ H Q=>∃H0 G env,SR W H0 env σ G H/\Out X W (aD F e env) σ G H λp=>∃xs,p=.lst xs/\∀a vs G' H',aB W G H G' H'->H' a=none->aj W G' xs vs->Q (.ref a) (upd H' a (.lst vs))
abbrev GF(X:Cx)(W:Wd)(F:bb)(e:E)(p:Expr):Prop:=PE X p (tF X W F e)
theorem GF.ge{e:E}{p:Expr}(h:GF X W F e p)(hl:∀env q,aD F e env=.ok q->∃xs,q=.lst xs):GE X W F e p:=
 L2.PE.imp h λσ H Q hq=>by
  obtain⟨H0,G,env,sr,o⟩:=hq
  refine⟨H0,G,env,sr,?_⟩;cases r:aD F e env with
  |bad=>rw [r] at o;exact o
  |exc c=>rw [r] at o;exact o
  |ok q=>
   rw [r] at o;obtain⟨xs,rfl⟩:=hl env q r
   exact⟨xs,rfl,λa vs G' H' g ha l=>o _ _ _ (g.trans (.new g.sub ha)) (.of (.l (.inl (.inl aq)) (aj.same (bx (g.sub.free ha)) xs l)))⟩
def notStar{e:E}{p:Expr}(h:br Γ N sc e p=true):∀env ps,starEach (p::ps) env=(false,eval p env)::starEach ps env:=by
 intro env ps;cases p<;>first|rfl|(cases e<;>first|(exact bG h)|(rename_i q;cases q<;>exact bG h))
theorem fD:∀{es:Es} {ps:List Expr},j6 Γ N sc es ps=true->∀env pos,(backTo pos (starEach ps env)).any (·.1)=false
 |.nil,[],_,_,_=>rfl
 |.cons e es,p::ps,h,env,pos=>by
  replace h:=ay h
  rw [notStar h.1];show(false||(backTo pos (starEach ps env)).any (·.1))=false
  rw [fD h.2]
  rfl
 |.nil,_::_,h,_,_=>bG h
 |.cons _ _,[],h,_,_=>bG h
abbrev GA(X:Cx)(W:Wd)(F:bb)(es:Es)(ps:List Expr):Prop:=PA X ps (tA X W F es)
theorem GK:GA X W F .nil []:=L2.PA.imp dc λσ H Q h=>by
 obtain⟨H0,G,env,sr,o⟩:=h
 rw [cB] at o;exact o [] G H (.refl sr.sub) ⟨.nil,λ_=>.nil⟩
theorem Dh{e:E}{es:Es}{p:Expr}{ps:List Expr}(he:GE X W F e p)(hs:GA X W F es ps)(d7:starEach (p::ps) X.env=(false,eval p X.env)::starEach ps X.env):GA X W F (.cons e es) (p::ps):=
 L2.PA.imp (bS he hs d7) λσ H Q h=>by
  obtain⟨H0,G,env,sr,o⟩:=h
  rw [cB] at o;refine one sr o λq v G1 H1 g1 t1 bR o1=>args bR o1 λqs vs G2 H2 g2 t2 fM o2=>?_
  refine o2 (v::vs) G2 H2 (g1.trans g2) ⟨.cons (t1.top.grow g2) t2.top,λz=>?_⟩
  unfold gP at z;rw [zza] at z;exact .cons (Rep.same g2.g q (t1.rep z.1)) (t2.rep z.2)
theorem ja:∀{es:Es} {env:Sl} {ps:List PV},cB F es env=.ok ps->ps.length=jc es
 |.nil,env,ps,h=>by rw [cB] at h;cases h;rfl
 |.cons e es,env,ps,h=>by
  rw [cB] at h;obtain⟨p,_,h⟩:=Res.aR h
  obtain⟨qs,hq,h⟩:=Res.aR h
  cases h;rw [zzL,ja hq]
  rfl
theorem Hh{es:Es}{ps:List Expr}{x1:Nat}{pos:Pos}(Bb:gP es=true)(hl:jc es<1000)(h:GA X W F es ps):GE X W F (.tup es) (.Tuple ps x1 pos):=
 L2.PE.imp (Jo h) λσ H Q hq=>by
  obtain⟨H0,G,env,sr,o⟩:=hq
  rw [aD] at o;have o':=o
  refine⟨H0,G,env,sr,?_⟩;cases r:cB F es env with
  |bad=>rw [r] at o;exact o
  |exc c=>rw [r] at o;exact o
  |ok qs=>
   rw [r] at o;have hlen:=ja r
   intro vs G1 H1 g1 t;have l:=t.rep Bb
   refine⟨by rw [l.length,hlen];exact Nat.le_of_lt (Nat.lt_trans hl (by decide)),λp hp=>?_⟩
   exact o _ _ _ (g1.trans (.new g1.sub hp)) (.of (.t (.inl aq) (aj.same (bx (g1.sub.free hp)) qs l)))
theorem Ca{es:Es}{ps:List Expr}{pos:Pos}(Bb:gP es=true)(hl:jc es<1000)(h:GA X W F es ps):GF X W F (.lst es) (.List ps pos):=
 L2.PE.imp (Kq h) λσ H Q hq=>by
  obtain⟨H0,G,env,sr,o⟩:=hq
  rw [aD] at o;refine⟨H0,G,env,sr,?_⟩;cases r:cB F es env with
  |bad=>rw [r] at o;exact o
  |exc c=>rw [r] at o;exact o
  |ok qs=>
   rw [r] at o;have hlen:=ja r
   obtain⟨xs,e,o⟩:=o
   cases e;intro vs G1 H1 g1 t;have l:=t.rep Bb
   exact⟨by rw [l.length,hlen];exact Nat.le_of_lt (Nat.lt_trans hl (by decide)),λp hp=>o p vs G1 H1 g1 hp l⟩
theorem lst_is{es:Es}:∀env q,aD F (.lst es) env=.ok q->∃xs,q=.lst xs:=λenv q h=>by
 rw [aD] at h;obtain⟨ps,_,h⟩:=Res.aR h
 cases h;exact⟨_,rfl⟩
def xJ{p q:PV}(c:Str):bg p q≠.exc c:=by
 unfold bg
 (repeat' first|split|refine pd λ_=>?_|exact Res.aQ c|exact(λz=>nomatch z))
def JU(C:dF Γ F W N sc k X){a b:E}{pa pb:Expr}{pos:Pos}(ha:GE X W F a pa)(hb:GE X W F b pb)(hs:qm pb):GE X W F (.sub a b) (.Subscript pa pb pos):=
 (Gr (QJ C.K C.room.units) ha hb hs).imp λσ H Q h=>two (λp q c=>xJ c) (λenv=>by rw [aD]) h
def AH{e:E}{p:Expr}(h:br Γ N sc e p=true):qm p:=by
 intro o i;cases p<;>first|rfl|(cases e<;>first|(exact bG h)|(rename_i q;cases q<;>exact bG h))
def pI{e:E}{p:Expr}(h:br Γ N sc e p=true)(op:CmpOp):behindInMarks op p=false:=by
 cases p<;>first|rfl|(cases e<;>first|(exact bG h)|(rename_i q;cases q<;>exact bG h))
theorem Dy:PO X none (Ao X W F .no):=λaa s σ H Q I h=>DZ aa s σ H Q I (by
 obtain⟨H0,G,env,sr,o⟩:=h
 rw [wF] at o;exact o G H (.refl sr.sub))
theorem Ft{e:E}{p:Expr}(h:GE X W F e p):PO X (some p) (Ao X W F (.some e)):=λaa s σ H Q I hq=>D0 h aa s σ H Q I (by
 obtain⟨H0,G,env,sr,o⟩:=hq
 rw [wF] at o;refine one sr o λq v G1 H1 g1 t1 bR o1=>?_
 cases q with
 |int i=>exact⟨i,t1.top.int,o1 G1 H1 g1⟩
 |bl _=>exact zzk o1
 |aH=>exact zzk o1
 |str _=>exact zzk o1
 |tup _=>exact zzk o1
 |lst _=>exact zzk o1
 |exc _=>exact zzk o1
 |bo _ _=>exact zzk o1)
def rf{p:PV}{lo hi:Option Int}(c:Str):gD p lo hi≠.exc c:=by
 unfold gD
 (repeat' first|split|refine pd λ_=>?_|exact Res.aQ c|exact(λz=>nomatch z))
theorem Aw(C:dF Γ F W N sc k X){a:E}{lo hi:Oe}{pa:Expr}{pl ph:Option Expr}{p2 pos:Pos}(ha:GE X W F a pa)(hl:PO X pl (Ao X W F lo))(hh:PO X ph (Ao X W F hi)):GE X W F (.slice a lo hi) (.Subscript pa (.Slice pl ph none p2) pos):=
 (A4 (OU C.K) ha hl hh).imp λσ H Q h=>by
  obtain⟨H0,G,env,sr,o⟩:=h
  rw [aD] at o;refine one sr o λp v G1 H1 g1 t1 bR o1=>?_
  refine⟨H0,G1,env,bR,o1.bind.imp λl oJ G2 H2 g2=>?_⟩
  refine⟨H0,G2,env,bR.grow g2,(oJ.grow g2).bind.imp λh' TH G3 H3 g3=>?_⟩
  obtain⟨r,hr,kr⟩:=(TH.grow g3).val (λc=>rf c)
  exact⟨H0,G3,p,r,((bR.grow g2).grow g3).sub,t1.top.grow (g2.trans g3),hr,λw G' H' g' jg=>kr w G' H' (((g1.trans g2).trans g3).trans g') (.of jg)⟩
def CK{CX:yX}{f:Addr}{fd:FuncData}{ps:List Str}{sp:Sp}{E:XK}{aa:List (Addr×Obj)}{σ:St}{H:Hp}{s:Shared}{Q:VK}{us:List Value}{vs:List V}(FO:gf X.prog X.w X.K X.mg X.base CX k f fd ps sp)(hr:du k X.A)(hb:Binds X.K fd ps [])
 (hx:∀e s',CX X.stack H s E e s'->X.xe e s') (I:Inv X aa σ H s) (r:Vals vs us) (h:sp vs H Q E):wpAny (model X.prog X.w) X.A (call (.ref f) us) (EP X aa σ Q) X.xe s:=by
 have hl:us.length=ps.length:=by rw [<-r.length];exact FO.len _ _ _ _ h
 have m9:=hb s us I.tj (by rw [zz6];exact hl)
 rw [zz6] at m9;refine wpAny_call (codeAny_mono (FO.run X.A X.stack s H ⟨us,[]⟩ us vs Q E hr I.yc m9 r h) λr s' hq=>?_)
 cases r with
 |error e=>exact hx e s' hq
 |ok fl=>
  cases fl with
  |ret u=>exact I.after hq
  |next=>exact zzk hq
  |brk=>exact zzk hq
  |cont=>exact zzk hq
def Di.imp{P:Program}{w:World}{outer:List Env}{H:Hp}{s s':Shared}{E E':XK}{e:Value}(h:dI P w outer H s E e s')(i:∀C a H',E C a H'->E' C a H'):dI P w outer H s E' e s':=by
 obtain⟨a,C,t,vs,H',B,rfl,F⟩:=h
 exact⟨a,C,t,vs,H',B,rfl,⟨F.os,F.bare,F.aK,F.Cm,F.tn,F.tup,F.dN,F.cR,F.un,i _ _ _ F.ends⟩⟩
def mK(hr:du k X.A){f:Str}{fa:Addr}{fd:FuncData}{pn:List Str}{q:Option (Str×List Nat)}{aa:List (Addr×Obj)}{σ:St}{G H:Hp}{s:Shared}{Q:VK}{us:List Value}{vs:List V}{as:List PV}
 (FO:gf X.prog X.w X.K X.mg X.base (dI X.prog X.w) k fa fd pn (yU W F f pn.length q)) (hb:Binds X.K fd pn []) (hlen:F f as≠.bad->vs.length=pn.length)
 (I:Inv X aa σ H s) (sg:az G H) (tb:cq W G H) (l:A9 W G q as vs) (r:Vals vs us) (o:Out X W (F f as) σ G H λp=>cZ W G H p Q):wpAny (model X.prog X.w) X.A (call (.ref fa) us) (EP X aa σ Q) X.xe s:=by
 have Bs:F f as≠.bad:=λz=>by rw [z] at o;exact o
 refine CK (E:=λCv ao H'=>∃c,F f as=.exc c/\XE W c G H Cv ao H') FO hr hb (λe s' x=>?_) I r ⟨hlen Bs,G,as,sg,tb,l,?_⟩
 ·cases z:F f as with
  |ok q=>
   obtain⟨a,C',t,vs,H',B,rfl,Fl⟩:=x
   obtain⟨c,e1,_⟩:=Fl.ends
   rw [z] at e1;cases e1
  |exc c=>
   rw [z] at o;refine o aa G H s e s' I (.refl sg) (Di.imp x λC1 a H' y=>?_);obtain⟨c',e1,y⟩:=y
   rw [z] at e1;cases e1;exact y
  |bad=>exact absurd z Bs
 ·cases z:F f as with
  |ok q=>
   rw [z] at o;exact λv G' H' g' rp=>o v G' H' g' rp
  |exc c=>exact λCv ao H' x=>⟨c,rfl,x⟩
  |bad=>exact absurd z Bs
def dF.rm(C:dF Γ F W N sc k X):du k X.A:=C.room.mono (Nat.le_succ k)
def C0(C:dF Γ F W N sc k X){f:Str}{e:E}{es:Es}{p:Expr}{ps:List Expr}{np pos:Pos}(hf:Γ.fs.contains f=true)(hg:gR sc f=true)(ho:okN f=true)(Bb:gP (.cons e es)=true)(ha:GA X W F (.cons e es) (p::ps))
 (d7:starEach (p::ps) X.env=(false,eval p X.env)::starEach ps X.env) (hpl:(backTo pos (starEach ps X.env)).any (·.1)=false):GE X W F (.call f (.cons e es)) (.Call (.Name f np) (p::ps) [] pos):=by
 intro aa s σ H Q I h;obtain⟨H0,G,env,sr,o⟩:=h
 rw [aD] at o;obtain⟨fa,fd,pn,FO,hm,hk,hb,hlen⟩:=(C.fns f hf).ex
 refine wpAny_Call_Name_kw (gE I (ei C hg) hm ?_ (dy ho).1);refine PySem.W.callWith_K (h₀:=X.base) I.ok.mod.Mg hk (bP (ha pos aa s σ H (λvs H1=>∃G1 as,az G1 H1/\cq W G1 H1/\aj W G1 as vs/\Out X W (F f as) σ G1 H1 λp=>cZ W G1 H1 p Q) I ?_) λus s1 ⟨vs,H1,I1,r,q⟩=>⟨I1.tj,?_⟩) d7 hpl
 ·refine args sr o λas vs G1 H1 g1 t bR o1=>⟨G1,as,bR.sub,bR.tab,t.rep Bb,o1.imp λp hp v G' H' g' rp=>hp v G' H' (g1.trans g') (.of rp)⟩
 ·obtain⟨G1,as,sg,tb,l,o1⟩:=q
  exact mK C.rm FO hb (λz=>by rw [l.length];exact hlen as z) I1 sg tb l r o1
def Be(C:dF Γ F W N sc k X){f:Str}{np pos:Pos}(hf:Γ.fs.contains f=true)(hg:gR sc f=true)(ho:okN f=true):GE X W F (.call f .nil) (.Call (.Name f np) [] [] pos):=by
 intro aa s σ H Q I h;obtain⟨H0,G,env,sr,o⟩:=h
 rw [aD,cB] at o;obtain⟨fa,fd,pn,FO,hm,hk,hb,hlen⟩:=(C.fns f hf).ex
 refine wpAny_Call_Name_kw (gE I (ei C hg) hm ?_ (dy ho).1);refine PySem.W.callWith_K0 I.tj hk ?_;have o':Out X W (F f []) σ G H λp=>∀v G' H',aB W G H G' H'->Got W H0 G' H' (.call f .nil) p v->Q v H':=o
 exact mK (us:=[]) (vs:=[]) (as:=[]) (q:=none) C.rm FO hb (λz=>hlen [] z) I sr.sub sr.tab (show aj W G [] [] from .nil) .nil (o'.imp λp hp v G' H' g' rp=>hp v G' H' g' (.of rp))
def Dl{ps:List PV}(c:Str):uH ps≠.exc c:=by
 unfold uH
 (repeat' first|split|refine pd λ_=>?_|exact Res.aQ c|exact(λz=>nomatch z))
def CA{ps:List PV}(c:Str):BY ps≠.exc c:=by
 unfold BY
 (repeat' first|split|refine pd λ_=>?_|exact Res.aQ c|exact(λz=>nomatch z))
def Dt{ps:List PV}(c:Str):BA ps≠.exc c:=by
 unfold BA
 (repeat' first|split|refine pd λ_=>?_|exact Res.aQ c|exact(λz=>nomatch z))
def Ed{ps:List PV}(c:Str):BN ps≠.exc c:=by
 unfold BN
 (repeat' first|split|refine pd λ_=>?_|exact Res.aQ c|exact(λz=>nomatch z))
def DS{ps:List PV}(c:Str):AG ps≠.exc c:=by
 unfold AG
 (repeat' first|split|refine pd λ_=>?_|exact Res.aQ c|exact(λz=>nomatch z))
def xq{ps:List PV}(c:Str):me ps≠.exc c:=by
 unfold me
 (repeat' first|split|refine pd λ_=>?_|exact Res.aQ c|exact(λz=>nomatch z))
def uk{ps:List PV}(c:Str):iY ps≠.exc c:=by
 unfold iY
 (repeat' first|split|refine pd λ_=>?_|exact Res.aQ c|exact(λz=>nomatch z))
def B7{ps:List PV}(c:Str):nX ps≠.exc c:=by
 unfold nX
 (repeat' first|split|refine pd λ_=>?_|exact Res.aQ c|exact(λz=>nomatch z))
def BS{ps:List PV}(c:Str):qM ps≠.exc c:=by
 unfold qM
 (repeat' first|split|refine pd λ_=>?_|exact Res.aQ c|exact(λz=>nomatch z))
def xr{b:B}{ps:List PV}(c:Str):dD b ps≠.exc c:=match b with
 |.len=>Dl c|.abs=>CA c|.max2=>Dt c|.int=>Ed c|.str=>DS c|.tuple=>xq c|.sorted=>uk c|.dict=>B7 c|.vb=>BS c
def Kb(C:dF Γ F W N sc k X)(b:B){e:Expr}{es:List Expr}{t:TA}{np pos:Pos}(hg:gR sc (bN b)=true)(hm:Γ.bs.contains (bN b)=true)(ha:PA X (e::es) t)
 (he:starEach (e::es) X.env=(false,eval e X.env)::starEach es X.env) (hpl:(backTo pos (starEach es X.env)).any (·.1)=false):PE X (.Call (.Name (bN b) np) (e::es) [] pos) (Ol (AK W (dD b)) t):=by
 have m5:=C.bs _ (zzn.mp hm)
 have tD:=ei C hg
 cases b
 case len=>exact dW (xi C.K) tD m5 PySem.boot_len ha (he:=he) (hpl:=hpl)
 case abs=>exact dW yA tD m5 (by decide+kernel) ha (he:=he) (hpl:=hpl)
 case max2=>exact dW (yw C.calm) tD m5 (by decide+kernel) ha (he:=he) (hpl:=hpl)
 case int=>exact fg x8 tD m5 (by decide+kernel) ha (he:=he) (hpl:=hpl)
 case str=>exact fg yd tD m5 (by decide+kernel) ha (he:=he) (hpl:=hpl)
 case tuple=>exact fg (q9 C.K) tD m5 (by decide+kernel) ha (he:=he) (hpl:=hpl)
 case sorted=>exact dW (qz C.K C.calm) tD m5 (by decide+kernel) ha (he:=he) (hpl:=hpl)
 case dict=>exact fg (rj C.K C.calm C.room.units) tD m5 (by decide+kernel) ha (he:=he) (hpl:=hpl)
 case vb=>exact dW (tX C.K C.calm) tD m5 (by decide+kernel) ha (he:=he) (hpl:=hpl)
def HS{op:List PV->Res PV}{es:Es}{e:E}{σ:St}{H:Hp}{Q:VK}(hn:∀ps c,op ps≠.exc c)(he:∀env,aD F e env=(cB F es env).bind λps=>op ps)(h:tE X W F e σ H Q):Ol (AK W op) (tA X W F es) σ H Q:=by
 obtain⟨H0,G,env,sr,o⟩:=h
 rw [he] at o;refine args sr o λps vs G1 H1 g1 t bR o1=>?_
 obtain⟨r,hr,kr⟩:=o1.val (hn ps)
 exact⟨H0,G1,ps,r,bR.sub,t.top,hr,λw G' H' g' jg=>kr w G' H' (g1.trans g') (.of jg)⟩
def IU(C:dF Γ F W N sc k X)(b:B){es:Es}{e:Expr}{ps:List Expr}{np pos:Pos}(hg:gR sc (bN b)=true)(hm:Γ.bs.contains (bN b)=true)(ha:GA X W F es (e::ps))
 (he:starEach (e::ps) X.env=(false,eval e X.env)::starEach ps X.env) (hpl:(backTo pos (starEach ps X.env)).any (·.1)=false):GE X W F (.blt b es) (.Call (.Name (bN b) np) (e::ps) [] pos):=
 (Kb C b hg hm ha he hpl).imp λσ H Q h=>HS (λps c=>xr c) (λenv=>by rw [aD]) h
def AX{t:Ty}{p:PV}(c:Str):ko t p≠.exc c:=by
 cases p<;>exact λz=>nomatch z
def Ip(C:dF Γ F W N sc k X)(t:Ty){pos:Pos}(hg:gR sc (Str.ofString (tQ t))=true)(hm:Γ.bs.contains (Str.ofString (tQ t))=true):PE X (.Name (Str.ofString (tQ t)) pos) (tC (.ty (tQ t))):=by
 have m5:=C.bs _ (zzn.mp hm)
 have tD:=ei C hg
 cases t
 all_goals exact E0 tD m5 (u:=.type _) (by decide+kernel) rfl (by decide+kernel) (by decide+kernel)
def MH(C:dF Γ F W N sc k X){t:Ty}{a:E}{pa:Expr}{np tp pos:Pos}(hi:gR sc "isinstance"=true)(hb:Γ.bs.contains "isinstance"=true)(hg:gR sc (Str.ofString (tQ t))=true)(hm:Γ.bs.contains (Str.ofString (tQ t))=true)(ha:GE X W F a pa)
 (d7:∀env ps,starEach (pa::ps) env=(false,eval pa env)::starEach ps env):GE X W F (.ty t a) (.Call (.Name "isinstance" np) [pa,.Name (Str.ofString (tQ t)) tp] [] pos):=by
 refine(dW (zZ C.K t) (ei C hi) (C.bs _ (zzn.mp hb)) (by decide+kernel) (bS ha (bS (Ip C t hg hm) dc) (d7 _ _)) (he:=d7 _ _)).imp λσ H Q h=>?_
 obtain⟨H0,G,env,sr,o⟩:=h
 rw [aD] at o;refine one sr o λp v G1 H1 g1 t1 bR o1=>?_
 obtain⟨r,hr,kr⟩:=o1.val (λc=>AX c)
 exact⟨v,H0,G1,p,r,rfl,bR.sub,t1.top,hr,λw G' H' g' jg=>kr w G' H' (g1.trans g') (.of jg)⟩
def SR.set{H0 G H:Hp}{env:Sl}{σ:St}{p:PV}{v:V}(i:Nat)(r:SR W H0 env σ G H)(h:Rep W G p v):SR W H0 (env.set i (.val p)) (σ.set i (some v)) G H where
 len:=by simpa using r.len
 sub:=r.sub
 tab:=r.tab
 ng:=r.ng
 base:=r.base
 slot:=λj s e=>by
  by_cases hj:i=j
  ·subst hj;have bH:i<env.length:=by
    have:=(zzH.mp e).1
    simpa using this
   rw [zzo bH] at e;cases e;exact⟨some v,zzo (by rw [<-r.len];exact bH),v,rfl,h⟩
  ·rw [zzS hj] at e;obtain⟨o,h1,h2⟩:=r.slot j s e
   exact⟨o,by rw [zzS hj];exact h1,h2⟩
 apart:=λa b q q' ad e1 e2 e3 e4=>by
  have ne:∀{c:Nat} {q:PV},(env.set i (.val p))[c]?=some (.own q)->i≠c:=λ{c q} e z=>by
   subst z;have bH:i<env.length:=by
    have:=(zzH.mp e).1
    simpa using this
   rw [zzo bH] at e;cases e
  have n1:=ne e1
  have n2:=ne e2
  rw [zzS n1] at e1 e3;rw [zzS n2] at e2 e4;exact r.apart a b q q' ad e1 e2 e3 e4
noncomputable def gT(K:zz8):Tg->TG
 |.one i=>gB i
 |.two i j=>LU K 2 (vS (gB i) (vS (gB j) II))
def uA{K:zz8}(hK:W.K=K){tg:Tg}{H0 G H:Hp}{env av:Sl}{σ:St}{p:PV}{v:V}{Q:St->Hp->Prop}(e:Tg.put tg p env=.ok av)(r:SR W H0 env σ G H)(h:Rep W G p v)(hq:∀σ',SR W H0 av σ' G H->Q σ' H):gT K tg v σ H Q:=by
 unfold Tg.put at e;split at e
 ·cases e;exact hq _ (r.set _ h)
 ·cases e;simp! [Rep] at h;obtain⟨a,vs,rfl,sq,l⟩:=h
  obtain⟨v1,r1,rfl,h1,l⟩:=l.bI
  obtain⟨v2,r2,rfl,h2,l⟩:=l.bI
  simp! [aj] at l;subst l;rw [hK] at sq;exact⟨a,_,rfl,az.tup r.sub sq.sq,rfl,_,_,rfl,_,_,rfl,rfl,hq _ ((r.set _ h1).set _ h2)⟩
 ·cases e
def AO{x:Str}(eP:X.env.scope=sc)(h:fO sc x=true):Loc X.env.scope x:=by
 rw [eP];unfold fO at h;simp! [zzt,zzy] at h;exact h
def FQ{fn:Str->Bool}{i:Nat}{p:Expr}(hN:X.N=N)(nd:N.Nodup)(eP:X.env.scope=sc)(mI:∀x,fn x=true->X.fn x=true)(h:PB N sc fn i p=true):PG X p (gB i)/\∃x q,p=.Name x q:=by
 obtain⟨x,hx,h2⟩:=ak h
 obtain⟨q,rfl⟩:=cj hx
 simp! [zza,zzy,zzt] at h2;refine⟨DJ (by rw [hN];exact nd) (by rw [hN];exact h2.1.1) (AO eP h2.1.2) ?_,x,q,rfl⟩;rcases h2.2 with z|z
 ·exact .inl (mI x z)
 ·exact .inr (by rw [eP];exact z)
noncomputable def Rz:List Nat->Gb
 |[]=>II
 |i::is=>vS (gB i) (Rz is)
theorem y8{fn:Str->Bool}(hN:X.N=N)(nd:N.Nodup)(eP:X.env.scope=sc)(mI:∀x,fn x=true->X.fn x=true):∀(is:List Nat) (es:List Expr),IC N sc fn is es=true->Nk X es (Rz is)/\(assignEach es X.env).length=is.length/\(assignEach es X.env).findIdx? (·.1)=none
 |[],[],_=>⟨Ep,rfl,rfl⟩
 |i::is,a::as,h=>by
  have h:=ay h
  obtain⟨g1,x,p,rfl⟩:=FQ hN nd eP mI h.1
  obtain⟨g,l,f⟩:=y8 hN nd eP mI is as h.2
  have e:assignEach (.Name x p::as) X.env=(false,assign (.Name x p) X.env)::assignEach as X.env:=rfl
  refine⟨BV g1 g,by rw [e,zzL,l,zzL],?_⟩;rw [e,List.findIdx?_cons,f]
  rfl
 |[],_::_,h=>bG h
 |_::_,[],h=>bG h
def Ae{fn:Str->Bool}{tg:Tg}{p:Expr}(hN:X.N=N)(nd:N.Nodup)(eP:X.env.scope=sc)(hc:X.calm=true)(mI:∀x,fn x=true->X.fn x=true)(h:ic N sc fn tg p=true):PG X p (gT X.K tg):=by
 cases tg with
 |one i=>exact(FQ hN nd eP mI h).1
 |two i j=>
  obtain⟨es,h1,h2⟩:=ak h
  obtain⟨k,q,rfl⟩:=wG h1
  obtain⟨g,l,f⟩:=y8 hN nd eP mI _ _ h2
  exact Hr hc g l f
def oZ(W:Wd)(J:It)(G B:Hp)(ps:List PV):Prop:=∀(i:Nat) (G' H':Hp),az G G'->iu B H'->az G' H'->
 (i=ps.length->J.stop i H')/\∀p,ps[i]?=some p->J.go i H'/\∀x nh,J.KI i H' x nh->∃vI,aB W G' H' vI nh/\Rep W vI p x
structure LC(W:Wd)(G H:Hp)(it:I)(J:It)(ps:List PV):Prop where
 any:oZ W J G H ps
 bz:C8 it=true->oZ W J G G ps
noncomputable def tI(X:Cx)(W:Wd)(F:bb)(it:I):TI:=λσ H R=>∃H0 G env,SR W H0 env σ G H/\Out X W (qV F it env) σ G H λps=>∀J G' H',aB W G H G' H'->LC W G' H' it J ps->R J H'
abbrev GI(X:Cx)(W:Wd)(F:bb)(tg:Expr)(it:I)(p:Expr):Prop:=PI X tg p (tI X W F it)
theorem vy(hK:W.K=X.K){G B:Hp}{a:Addr}{vs:List V}{ps:List PV}(h:qJ W.K B a vs)(l:aj W G ps vs):oZ W (Qh X.K a) G B ps:=λi G' H' sG sB sub=>by
 have hq:fH X.K H' a vs:=sX hK (iu.ls sB h)
 refine⟨λhi=>⟨vs,hq,by rw [l.length];omega⟩,λp hp=>?_⟩
 obtain⟨v,hv,rv⟩:=l.nE hp
 refine⟨⟨vs,v,hq,hv⟩,λx nh hy=>?_⟩
 obtain⟨rfl,hy⟩:=hy
 have:=hy vs hq
 rw [hv] at this;cases this;exact⟨G',.refl sub,Rep.same sG p rv⟩
theorem zM{K:zz8}{G B:Hp}{a:Addr}{vs:List V}{ps:List PV}(h:eV K B a vs)(l:aj W G ps vs):oZ W (P4 K a) G B ps:=λi G' H' sG sB sub=>by
 have hq:eV K H' a vs:=iu.tup sB h
 refine⟨λhi=>⟨vs,hq,by rw [l.length];omega⟩,λp hp=>?_⟩
 obtain⟨v,hv,rv⟩:=l.nE hp
 refine⟨⟨vs,v,hq,hv⟩,λx nh hy=>?_⟩
 obtain⟨rfl,hy⟩:=hy
 have:=hy vs hq
 rw [hv] at this;cases this;exact⟨G',.refl sub,Rep.same sG p rv⟩
def zt{G B:Hp}{a:Addr}{o:Obj}{ks:List (List Int)}{us:List V}(n:ks.length=us.length)(h:B a=some (.bz o (.dT (kz ks us)))):oZ W (QK a o (kz ks us)) G B (ks.map ah):=λi G' H' sG sB sub=>by
 have hq:H' a=some (.bz o (.dT (kz ks us))):=sB.at h (λ_ z=>nomatch z)
 refine⟨λhi=>⟨hq,by rw [fv n];rw [zzl] at hi;omega⟩,λp hp=>?_⟩
 rw [zzQ] at hp;obtain⟨k,hk,rfl⟩:=zzJ.mp hp
 have hi:i<ks.length:=(zzH.mp hk).1
 refine⟨⟨hq,by rw [fv n];exact hi⟩,λx nh hy=>?_⟩
 obtain⟨rfl,b,k',v,rfl,e2,e3⟩:=hy
 have ek:k'=ki k:=by
  have:=congrArg (λl=>l[i]?) (pZ (us:=us) n)
  simp! [zzQ,e2,hk,Option.map_some] at this;exact zzq this
 rw [ek,qw] at e3;obtain⟨G2,g2,l2⟩:=gF (W:=W) (vs:=[.ref b]) (nss:=[k]) sub (.cons ⟨b,rfl,e3⟩ .nil)
 obtain⟨w,r,ew,hw,_⟩:=l2.bI
 cases ew;exact⟨G2,g2,hw⟩
def xI{z:Str}{i:Nat}{p:PV}(h:(chars z)[i]?=some p):∃c,z.cps[i]?=some c/\p=.str ⟨#[c]⟩:=by
 unfold chars at h;rw [zzQ] at h;obtain⟨c,hc,rfl⟩:=zzJ.mp h
 rw [Array.getElem?_toList] at hc;exact⟨c,hc,rfl⟩
def yi(z:Str):(chars z).length=z.cps.size:=by unfold chars;rw [zzl,zzd]
theorem qq{G B:Hp}(lo:Int)(n:Nat):oZ W (L6 lo n) G B (gr lo n):=λi G' H' sG sB sub=>by
 unfold gr;refine⟨λhi=>by rw [zzl,List.length_range] at hi;exact Nat.le_of_eq hi.symm,λp hp=>?_⟩
 rw [zzQ] at hp;obtain⟨c,hc,rfl⟩:=zzJ.mp hp
 obtain⟨h1,h2⟩:=zzH.mp hc
 rw [List.length_range] at h1;rw [List.getElem_range] at h2;subst h2;refine⟨h1,λx nh hy=>?_⟩
 obtain⟨rfl,rfl⟩:=hy
 exact⟨G',.refl sub,.i⟩
def mT{G H:Hp}{p q:PV}{v u:V}{a:Addr}(sub:az G H)(ha:H a=none)(h1:Rep W G p v)(h2:Rep W G q u):∃vI,aB W G H vI (upd H a (.tup [v,u]))/\Rep W vI (.tup [p,q]) (.ref a):=
 ⟨_,.new sub ha,.t (.inl aq) (aj.same (bx (sub.free ha)) _ (.cons h1 (.cons h2 .nil)))⟩
theorem i9:∀{xs:List PV} {n i:Nat} {p:PV},(cC n xs)[i]?=some p->∃x,xs[i]?=some x/\p=.tup [.int ((n+i:Nat):Int),x]
 |[],_,_,_,h=>by simp [cC] at h
 |x::xs,n,0,p,h=>by simp [cC] at h;exact⟨x,rfl,by rw [<-h];simp⟩
 |x::xs,n,i+1,p,h=>by
  simp! [cC,List.getElem?_cons_succ] at h;obtain⟨y,h1,h2⟩:=i9 h
  exact⟨y,by simpa using h1,by rw [h2,show n+1+i=n+(i+1) by omega]⟩
theorem cW:∀(xs:List PV) (n:Nat),(cC n xs).length=xs.length
 |[],_=>rfl
 |_::xs,n=>by simp! [cC,zzL,cW xs]
theorem qO{K:zz8}{G B:Hp}{a:Addr}{vs:List V}{ps:List PV}(h:eV K B a vs)(l:aj W G ps vs):oZ W (QR K a vs) G B (cC 0 ps):=λi G' H' sG sB sub=>by
 have hq:eV K H' a vs:=iu.tup sB h
 refine⟨λhi=>⟨hq,by rw [cW] at hi;rw [l.length];exact hi⟩,λp hp=>?_⟩
 obtain⟨x,hx,rfl⟩:=i9 hp
 obtain⟨v,hv,rv⟩:=l.nE hx
 refine⟨⟨hq,(zzH.mp hv).1⟩,λy nh hy=>?_⟩
 obtain⟨b,x',rfl,hb,rfl,ve⟩:=hy
 rw [hv] at ve;cases ve;rw [Nat.zero_add];exact mT sub hb .i (Rep.same sG x rv)
theorem k9(hK:W.K=X.K){G B:Hp}{a:Addr}{vs:List V}{ps:List PV}(h:qJ W.K B a vs)(l:aj W G ps vs):oZ W (Ke X.K a vs) G B (cC 0 ps):=λi G' H' sG sB sub=>by
 have hq:fH X.K H' a vs:=sX hK (iu.ls sB h)
 refine⟨λhi=>⟨hq,by rw [cW] at hi;rw [l.length];exact hi⟩,λp hp=>?_⟩
 obtain⟨x,hx,rfl⟩:=i9 hp
 obtain⟨v,hv,rv⟩:=l.nE hx
 refine⟨⟨hq,(zzH.mp hv).1⟩,λy nh hy=>?_⟩
 obtain⟨b,x',rfl,hb,rfl,ve⟩:=hy
 rw [hv] at ve;cases ve;rw [Nat.zero_add];exact mT sub hb .i (Rep.same sG x rv)
theorem sO{G B:Hp}(z:Str):oZ W (NO z) G B (cC 0 (chars z)):=λi G' H' sG sB sub=>by
 refine⟨λhi=>by rw [cW,yi] at hi;exact hi,λp hp=>?_⟩
 obtain⟨x,hx,rfl⟩:=i9 hp
 obtain⟨c,hc,rfl⟩:=xI hx
 refine⟨(Array.getElem?_eq_some_iff.mp hc).1,λy nh hy=>?_⟩
 obtain⟨b,c',rfl,hb,rfl,iK⟩:=hy
 rw [hc] at iK;cases iK;rw [Nat.zero_add];exact mT sub hb .i .s
def eX{e:E}{σ:St}{H0 G H:Hp}{env:Sl}{Q:VK}{p:PV}(sr:SR W H0 env σ G H)(e1:aD F e env=.ok p)(h:∀v G1 H1,aB W G H G1 H1->Got W H0 G1 H1 e p v->Q v H1):tE X W F e σ H Q:=⟨H0,G,env,sr,by rw [e1];exact h⟩
def BM{e:E}{σ:St}{H0 G H:Hp}{env:Sl}{Q:VK}{c:Str}(sr:SR W H0 env σ G H)(e1:aD F e env=.exc c)(h:vd X W σ c G H):tE X W F e σ H Q:=⟨H0,G,env,sr,by rw [e1];exact h⟩
def Kl(C:dF Γ F W N sc k X){tg p:Expr}{e:E}(he:GE X W F e p):GI X W F tg (.seq e) p:=by
 intro aa s σ H R I h;obtain⟨H0,G,env,sr,o⟩:=h
 rw [qV] at o;cases r:aD F e env with
 |bad=>rw [r] at o;exact o.elim
 |exc c=>rw [r] at o;exact wb he aa s σ H R I (BM sr r o)
 |ok q=>
  rw [r] at o;cases q with
  |lst xs=>
   refine wb he aa s σ H R I (eX sr r λv G1 H1 g1 t=>?_);have t':=t
   obtain⟨a,vs,rfl,h1,l1⟩:=t.top.lst g1.sub
   refine⟨a,rfl,⟨vs,sX C.K h1⟩,o _ G1 H1 g1 ⟨vy C.K h1 l1,λz=>?_⟩⟩
   have rp:=t'.rep z
   simp! [Rep] at rp;obtain⟨a',tM,e1,h2,l2⟩:=rp
   cases e1;exact vy C.K h2 l2
  |tup xs=>
   refine Iu he aa s σ H R I (eX sr r λv G1 H1 g1 t=>?_);have t':=t
   obtain⟨a,vs,rfl,h1,l1⟩:=t.top.tup g1.sub
   rw [C.K] at h1;refine⟨a,rfl,⟨vs,h1⟩,o _ G1 H1 g1 ⟨zM h1 l1,λz=>?_⟩⟩
   have rp:=t'.rep z
   simp! [Rep] at rp;obtain⟨a',tM,e1,h2,l2⟩:=rp
   cases e1;rw [C.K] at h2;exact zM h2.sq l2
  |str z=>exact zzk o
  |int _=>exact zzk o
  |bl _=>exact zzk o
  |aH=>exact zzk o
  |exc _=>exact zzk o
  |bo ks qs=>
   by_cases J9:gX e=true
   ·have Uu:A2 e (.bo ks qs)=.ok (ks.map ah):=by
     cases e<;>first|rfl|exact bG J9
    have o2:Out X W (A2 e (.bo ks qs)) σ G H λps=>∀(J:It) (G' H':Hp),aB W G H G' H'->LC W G' H' (Ci.I.seq e) J ps->R J H':=o
    rw [Uu] at o2;refine Jl he aa s σ H R I (eX sr r λv G1 H1 g1 t=>?_);have rp:=t.rep J9
    simp! [Rep] at rp;obtain⟨a,ob,us,rfl,n,h1,l1⟩:=rp
    exact⟨a,ob,_,rfl,g1.sub _ _ h1,o2 _ G1 H1 g1 ⟨zt n (g1.sub _ _ h1),λ_=>zt n h1⟩⟩
   ·have:∃i,e=.iM i:=by
     cases e<;>first|exact⟨_,rfl⟩|exact absurd rfl J9
    obtain⟨i,rfl⟩:=this
    exact zzk o
def dg{i:Int}(h:aV i=true): -(2^62)<=i/\i<2^62:=by
 unfold aV at h
 simpa using h
def IX(C:dF Γ F W N sc k X){tg p:Expr}{e:E}{np pos:Pos}(hg:gR sc "range"=true)(hb:Γ.bs.contains "range"=true)(d7:∀env ps,starEach (p::ps) env=(false,eval p env)::starEach ps env)(he:GE X W F e p):GI X W F tg (.pH e) (.Call (.Name "range" np) [p] [] pos):=by
 intro aa s σ H R I h;refine xl (ei C hg) (C.bs _ (zzn.mp hb)) (bS he dc (d7 _ _)) (d7 _ _) aa s σ H R I ?_;obtain⟨H0,G,env,sr,o⟩:=h
 rw [qV] at o;refine one sr o λq v G1 H1 g1 t bR o1=>?_
 cases q with
 |int j=>
  by_cases hj:aV j=true
  ·have o2:Out X W (if aV j=true then Res.ok (gr 0 j.toNat) else .bad) σ G1 H1 _:=o1
   rw [if_pos hj] at o2;exact⟨j,by rw [t.top.int],(dg hj).1,(dg hj).2,o2 _ G1 H1 g1 ⟨qq _ _,λ_=>qq _ _⟩⟩
  ·have o2:Out X W (if aV j=true then Res.ok (gr 0 j.toNat) else .bad) σ G1 H1 _:=o1
   rw [if_neg hj] at o2;exact o2.elim
 |bl _=>exact zzk o1
 |aH=>exact zzk o1
 |str _=>exact zzk o1
 |tup _=>exact zzk o1
 |lst _=>exact zzk o1
 |exc _=>exact zzk o1
 |bo _ _=>exact zzk o1
def Eo(C:dF Γ F W N sc k X){tg p q:Expr}{a b:E}{np pos:Pos}(hg:gR sc "range"=true)(hb:Γ.bs.contains "range"=true)(d7:∀env ps,starEach (p::ps) env=(false,eval p env)::starEach ps env)(Ht:∀env ps,starEach (q::ps) env=(false,eval q env)::starEach ps env)
 (ha:GE X W F a p) (m9:GE X W F b q):GI X W F tg (.o9 a b) (.Call (.Name "range" np) [p,q] [] pos):=by
 intro aa s σ H R I h;refine yq (ei C hg) (C.bs _ (zzn.mp hb)) (bS ha (bS m9 dc (Ht _ _)) (d7 _ _)) (by rw [d7,Ht];rfl) (Ht _ _) aa s σ H R I ?_;obtain⟨H0,G,env,sr,o⟩:=h
 rw [qV] at o;refine one sr o λx v G1 H1 g1 t bR o1=>one bR o1 λy u G2 H2 g2 t2 fM o2=>?_
 cases x<;>cases y<;>first
  |(exact zzk o2)
  | (rename_i i j
     by_cases hj:(aV i&&aV j)=true
     ·have o3:Out X W (if(aV i&&aV j)=true then Res.ok (gr i (j-i).toNat) else .bad) σ G2 H2 _:=o2
      rw [if_pos hj] at o3;rw [zza] at hj;exact⟨i,j,by rw [t.top.int,t2.top.int],⟨(dg hj.1).1,(dg hj.1).2,(dg hj.2).1,(dg hj.2).2⟩,o3 _ G2 H2 (g1.trans g2) ⟨qq _ _,λ_=>qq _ _⟩⟩
     ·have o3:Out X W (if(aV i&&aV j)=true then Res.ok (gr i (j-i).toNat) else .bad) σ G2 H2 _:=o2
      rw [if_neg hj] at o3;exact o3.elim)
def Eu(C:dF Γ F W N sc k X){elts:List Expr}{x1:Nat}{uQ:Pos}{p:Expr}{e:E}{np pos:Pos}(hg:gR sc "enumerate"=true)(hb:Γ.bs.contains "enumerate"=true)(d7:∀env ps,starEach (p::ps) env=(false,eval p env)::starEach ps env)(he:GE X W F e p):
 GI X W F (.Tuple elts x1 uQ) (.enum e) (.Call (.Name "enumerate" np) [p] [] pos):=by
 intro aa s σ H R I h;have tD:=ei C hg
 have m5:=C.bs _ (zzn.mp hb)
 have pa:=bS he dc (d7 _ _)
 obtain⟨H0,G,env,sr,o⟩:=h
 rw [qV] at o;cases r:aD F e env with
 |bad=>rw [r] at o;exact o.elim
 |exc c=>rw [r] at o;exact rT tD m5 pa (d7 _ _) aa s σ H R I (BM sr r o)
 |ok q=>
  rw [r] at o;cases q with
  |lst xs=>
   refine rT tD m5 pa (d7 _ _) aa s σ H R I (eX sr r λv G1 H1 g1 t=>?_)
   by_cases hz:gX e=true
   ·have rp:=t.rep hz
    simp! [Rep] at rp;obtain⟨a,vs,rfl,h2,l2⟩:=rp
    exact⟨a,vs,rfl,sX C.K (az.ls g1.sub h2),o _ G1 H1 g1 ⟨k9 C.K (az.ls g1.sub h2) l2,λ_=>k9 C.K h2 l2⟩⟩
   ·obtain⟨a,vs,rfl,h1,l1⟩:=t.top.lst g1.sub
    exact⟨a,vs,rfl,sX C.K h1,o _ G1 H1 g1 ⟨k9 C.K h1 l1,λz=>absurd z hz⟩⟩
  |tup xs=>
   refine Bt tD m5 pa (d7 _ _) aa s σ H R I (eX sr r λv G1 H1 g1 t=>?_);have t':=t.top
   rcases t' with rp|z
   ·simp! [Rep] at rp;obtain⟨a,vs,rfl,h2,l2⟩:=rp
    rw [C.K] at h2;exact⟨a,vs,rfl,az.tup g1.sub h2.sq,o _ G1 H1 g1 ⟨qO (az.tup g1.sub h2.sq) l2,λz=>qO h2.sq l2⟩⟩
   ·exact z.elim
  |str z=>exact BR tD m5 pa (d7 _ _) aa s σ H R I (eX sr r λv G1 H1 g1 t=>⟨z,by rw [t.top.str],o _ G1 H1 g1 ⟨sO z,λ_=>sO z⟩⟩)
  |int _=>exact zzk o
  |bl _=>exact zzk o
  |aH=>exact zzk o
  |exc _=>exact zzk o
  |bo _ _=>exact zzk o
end
def yO{env:Env}{x:Str}{c:Addr}(h:env.cells.lookup x=some c):cellOf env x=pure c:=by
 unfold cellOf;rw [h]
noncomputable def frees(names:List (Str×NameKind)):List Str:=((names.filter λp=>p.2==.free).map (·.1)).reverse
def iw{scope:Scope}{env:Env}(h:∀y∈scope.names,y.2=.free->∃c,env.cells.lookup y.1=some c):closureFor scope env=pure (bE env (freeOf scope)):=by
 simp! [closureFor];have key:∀(names:List (Str×NameKind)) (acc:List (Str×Addr)),(∀y∈names,y.2=.free->∃c,env.cells.lookup y.1=some c)->
  (forIn (m:=Sem) names acc λx r=>if(x.2==NameKind.free)=true then do
   let c<-cellOf env x.1
   pure (ForInStep.yield ((x.1,c)::r))
   else pure (ForInStep.yield r))=pure (bE env (frees names)++acc):=by
  intro names
  induction names with
  |nil=>intro acc _;rfl
  |cons p r ih=>
   intro acc hh;obtain⟨n,kd⟩:=p
   rw [List.forIn_cons]
   by_cases hk:(kd==NameKind.free)=true
   ·obtain⟨c,hc⟩:=hh (n,kd) (by simp) (zzy.mp hk)
    simp! [hk,if_true,yO hc,pure_bind];rw [ih ((n,c)::acc) λy hy=>hh y (zzI _ hy)]
    have e:frees ((n,kd)::r)=frees r++[n]:=by
     unfold frees;rw [zz3,if_pos hk,zzF,List.reverse_cons]
    rw [e];unfold bE;rw [List.map_append,zzF,List.map_nil,List.append_assoc];show _=pure (_++([(n,(env.cells.lookup n).getD 0)]++acc))
    rw [show env.cells.lookup n=some c from hc]
    rfl
   ·simp! [hk,zze,if_false,pure_bind];rw [ih acc λy hy=>hh y (zzI _ hy)]
    have e:frees ((n,kd)::r)=frees r:=by
     unfold frees;rw [zz3,if_neg hk]
    rw [e]
 have:=key scope.names [] h
 rw [zz6] at this;simp! [bind_pure_comp,map_pure,id_map',bind_pure];exact this
section
variable{X:Cx}{W:Wd}{N:List Str}{sc:Scope}
def eW{scope:Scope}(h:X.env.scope=sc):relabel scope X.env=cV scope sc:=by
 subst h
 rfl
structure mV(N:List Str)(sc scope:Scope)(kk:Nat)(aU:List Nat)(xs:List Str):Prop where
 kind:scope.kind=.function
 len:xs.length=kk
 nd:(xs++freeOf scope).Nodup
 Jn:(scope.names.all λy=>(decide (y.2≠.cell)||!(freeOf scope).contains y.1)&&(decide (y.2≠.free)||(freeOf scope).contains y.1))=true
 own:(scope.names.all λy=>decide (y.2≠.cell)||decide (scope.names.lookup y.1=some .cell))=true
 names:(scope.names.all λy=>decide (y.2≠.local)||decide (scope.names.lookup y.1=some .local))=true
 slots:aU.map (λi=>N[i]?)=(freeOf scope).map some
 kX:((freeOf scope).all λy=>decide (sc.names.lookup y=some .cell))=true
 kY:((freeOf scope).all λy=>decide ((cV scope sc).names.lookup y=some .cell))=true
def i7{scope:Scope}{kk:Nat}{aU:List Nat}{xs:List Str}(h:vO N sc scope kk aU xs=true):mV N sc scope kk aU xs:=by
 unfold vO at h;simp! [zza] at h;obtain⟨⟨⟨⟨⟨⟨⟨⟨h1,h2⟩,h3⟩,h4⟩,h9⟩,h5⟩,h6⟩,h7⟩,h8⟩:=h
 exact⟨zzy.mp h1,zzy.mp h2,zzY h3,h4,h9,h5,zzY h6,h7,h8⟩
def o5(hN:X.N=N)(eP:X.env.scope=sc)(ok:X.Ok){scope:Scope}{kk:Nat}{aU:List Nat}{xs:List Str}(h:mV N sc scope kk aU xs):eJ X scope xs (freeOf scope) aU:=by
 have dX:∀y∈freeOf scope,∃c,X.env.cells.lookup y=some c:=λy hy=>ok.has y (.inl (by
  have:=zzY (zzT.mp h.kX y hy)
  show X.env.scope.names.lookup y=_
  rw [eP];exact this))
 refine⟨h.kind,iw λy hy hf=>?_,zzT.mpr λy hy=>?_,h.Jn,h.own,h.names,by rw [hN];exact h.slots,zzT.mpr λy hy=>?_,?_⟩
 ·have c:=zzT.mp h.Jn y hy
  rw [zza,zzt,zzt] at c;rcases c.2 with z|z
  ·exact absurd hf (zzY z)
  ·exact dX _ (zzn.mp z)
 ·obtain⟨c,hc⟩:=dX y hy
  rw [hc];rfl
 ·have:=zzY (zzT.mp h.kX y hy)
  refine zzh ?_;show X.env.scope.names.lookup y=_
  rw [eP];exact this
 ·rw [eW eP];exact h.kY
theorem ir{f:PV->Res (Option PV)}{x:PV}:∀{xs:List PV},aL f (xs++[x])=(aL f xs).bind λys=>(f x).well.bind λo=>.ok (ys++o.toList)
 |[]=>by
  simp! [List.nil_append,aL,Res.bind];cases(f x).well with
  |ok o=>cases o<;>rfl
  |exc c=>rfl
  |bad=>rfl
 |y::xs=>by
  rw [List.cons_append];simp! [aL];rw [ir (xs:=xs)];cases(f y).well with
  |exc c=>rfl
  |bad=>rfl
  |ok o=>
   show(((aL f xs).bind λys=>(f x).well.bind λo=>.ok (ys++o.toList)).bind λys=>.ok (oc o ys))=((aL f xs).bind λys=>.ok (oc o ys)).bind λys=>(f x).well.bind λo=>.ok (ys++o.toList)
   cases aL f xs with
   |exc c=>rfl
   |bad=>rfl
   |ok zs=>
    show(((f x).well.bind λo=>.ok (zs++o.toList)).bind λys=>.ok (oc o ys))=(f x).well.bind λo2=>.ok ((oc o zs)++o2.toList)
    cases(f x).well with
    |exc c=>rfl
    |bad=>rfl
    |ok o2=>cases o<;>rfl
theorem mW{f:PV->Res (Option PV)}:∀{xs ys:List PV},aL f xs=.ok ys->∀i,∃zs,aL f (xs.take i)=.ok zs/\zs.length<=i
 |_,_,_,0=>⟨[],by simp [aL],zzE _⟩
 |[],ys,h,i+1=>⟨[],by simp [aL],Nat.zero_le _⟩
 |x::xs,ys,h,i+1=>by
  simp! [aL] at h;obtain⟨o,ho,h⟩:=Res.aR h
  obtain⟨zs,hz,h⟩:=Res.aR h
  obtain⟨ws,hw,hl⟩:=mW hz i
  refine⟨oc o ws,?_,?_⟩
  ·rw [List.take_succ_cons];simp! [aL];rw [ho];show((aL f (xs.take i)).bind λys=>.ok (oc o ys))=_
   rw [hw]
   rfl
  ·cases o with
   |none=>exact Nat.le_succ_of_le hl
   |some y=>exact Nat.succ_le_succ hl
def Dd{α:Type}{r:Res α}{a:α}(h:r.well=.ok a):r=.ok a:=by
 cases r with
 |ok b=>cases h;rfl
 |exc c=>cases h
 |bad=>cases h
def sC{f:PV->Res (Option PV)}{xs ys zs:List PV}{i:Nat}{x:PV}(h:aL f xs=.ok ys)(hx:xs[i]?=some x)(hz:aL f (xs.take i)=.ok zs):∃o,f x=.ok o/\aL f (xs.take (i+1))=.ok (zs++o.toList):=by
 have e:xs.take (i+1)=xs.take i++[x]:=by rw [List.take_add_one,hx];rfl
 obtain⟨ws,hw,_⟩:=mW h (i+1)
 rw [e,ir,hz] at hw;obtain⟨o,ho,hw⟩:=Res.aR (show((f x).well.bind λo=>Res.ok (zs++o.toList))=.ok ws from hw)
 refine⟨o,Dd ho,?_⟩;rw [e,ir,hz];show((f x).well.bind λo=>Res.ok (zs++o.toList))=_
 rw [ho]
 rfl
def qP{H0 G H:Hp}{env:Sl}{σ:St}{aU:List Nat}{ys:List Str}(kk:Nat)(sr:SR W H0 env σ G H)(hs:aU.map (λi=>N[i]?)=ys.map some)(nd:ys.Nodup):SR W H0 (List.replicate kk .no++fC env aU) (List.replicate kk none++AD σ aU) G H:=by
 have Tz:∀(i j:Nat) (a:Nat),aU[i]?=some a->aU[j]?=some a->i=j:=λi j a h1 h2=>by
  have e1:(ys.map some)[i]?=some (N[a]?):=by rw [<-hs,zzQ,h1];rfl
  have e2:(ys.map some)[j]?=some (N[a]?):=by rw [<-hs,zzQ,h2];rfl
  rw [zzQ] at e1 e2;obtain⟨y1,g1,q1⟩:=zzJ.mp e1
  obtain⟨y2,g2,q2⟩:=zzJ.mp e2
  have:y1=y2:=zzq (q1.trans q2.symm)
  subst this;exact mi nd g1 g2
 have inner:∀(j:Nat) (s:Slot),(List.replicate kk Slot.no++fC env aU)[j]?=some s->(j<kk/\s=.no)\/∃a,kk<=j/\aU[j-kk]?=some a/\s=env.getD a .no:=λj s e=>by
  by_cases hj:j<kk
  ·rw [zzr (by simpa using hj),List.getElem?_replicate,if_pos hj] at e;cases e;exact .inl ⟨hj,rfl⟩
  ·rw [zzs (by simpa using hj),List.length_replicate] at e;unfold fC at e;rw [zzQ] at e;obtain⟨a,ha,rfl⟩:=zzJ.mp e
   exact .inr ⟨a,by omega,ha,rfl⟩
 have val:∀(j a:Nat),kk<=j->aU[j-kk]?=some a->(List.replicate kk none++AD σ aU)[j]?=some ((σ[a]?).join):=λj a hj ha=>by
  rw [zzs (by simpa using hj),List.length_replicate];unfold AD;rw [zzQ,ha]
  rfl
 refine⟨by unfold fC AD;simp,sr.sub,sr.base,λj s e=>?_,λi j p q a e1 e2 e3 e4=>?_,sr.tab,sr.ng⟩
 ·rcases inner j s e with⟨hj,rfl⟩|⟨a,hj,ha,rfl⟩
  ·exact⟨none,by rw [zzr (by simpa using hj),List.getElem?_replicate,if_pos hj],trivial⟩
  ·refine⟨_,val j a hj ha,?_⟩;rw [zzK];cases e1:env[a]? with
   |none=>exact trivial
   |some s=>
    obtain⟨o,h1,h2⟩:=sr.slot a s e1
    rw [h1];exact h2
 ·rcases inner i _ e1 with⟨_,z⟩|⟨b,hi,hb,z1⟩
  ·cases z
  rcases inner j _ e2 with⟨_,z⟩|⟨c,hj,hc,z2⟩
  ·cases z
  rw [val i b hi hb] at e3;rw [val j c hj hc] at e4;have f1:env[b]?=some (.own p):=by
   rw [zzK] at z1;cases e:env[b]? with
   |none=>rw [e] at z1;cases z1
   |some s=>rw [e] at z1;exact congrArg some z1.symm
  have f2:env[c]?=some (.own q):=by
   rw [zzK] at z2;cases e:env[c]? with
   |none=>rw [e] at z2;cases z2
   |some s=>rw [e] at z2;exact congrArg some z2.symm
  have g1:σ[b]?=some (some (.ref a)):=Option.join_eq_some_iff.mp (zzq e3)
  have g2:σ[c]?=some (some (.ref a)):=Option.join_eq_some_iff.mp (zzq e4)
  have bc:=sr.apart b c p q a f1 f2 g1 g2
  subst bc;have:=Tz _ _ b hb hc
  omega
def jy{H0 G H:Hp}{kk:Nat}{rest av:Sl}{σ:St}{tg:Tg}{p:PV}(bH:md kk tg=true)(e:Tg.put tg p (List.replicate kk .no++rest)=.ok av)(r:SR W H0 av σ G H):SR W H0 (List.replicate kk .no++rest) σ G H:=by
 have key:∀(j:Nat) (s:Slot),(List.replicate kk Slot.no++rest)[j]?=some s->s≠.no->av[j]?=some s:=λj s h hs=>by
  have IK:¬j<kk:=λz=>by
   rw [zzr (by simpa using z),List.getElem?_replicate,if_pos z] at h;cases h;exact hs rfl
  unfold Tg.put at e;split at e
  ·cases e;unfold md at bH;simp! [zzN] at bH;rw [zzS (by omega)];exact h
  ·cases e;unfold md at bH;simp! [zza,zzN] at bH;rw [zzS (by omega),zzS (by omega)];exact h
  ·cases e
 have hlen:(List.replicate kk Slot.no++rest).length=σ.length:=by
  rw [<-r.len];unfold Tg.put at e;split at e<;>first|(cases e;simp;done)|(cases e;done)
 refine⟨hlen,r.sub,r.base,λj s h=>?_,λi j p q a e1 e2 e3 e4=>r.apart i j p q a (key i _ e1 (λz=>nomatch z)) (key j _ e2 (λz=>nomatch z)) e3 e4,r.tab,r.ng⟩
 by_cases hs:s=.no
 ·subst hs;have:j<σ.length:=by rw [<-hlen];exact(zzH.mp h).1
  exact⟨σ[j],zzg this,trivial⟩
 ·exact r.slot j s (key j s h hs)
variable{Γ:Pg}{F:bb}{k:Nat}
noncomputable def tN(W:Wd)(F:bb)(e:E):TE:=λσ H Q=>∃H0 G env,SR W H0 env σ G H/\∃p,aD F e env=.ok p/\∀v G' H',aB W G H G' H'->Got W H0 G' H' e p v->Q v H'
noncomputable def NQ(W:Wd)(F:bb)(e:E):TT:=λσ H Q=>∃H0 G env,SR W H0 env σ G H/\∃b,aD F e env=.ok (.bl b)/\∀G' H',aB W G H G' H'->Q b H'
def vX{e:E}(σ:St)(H:Hp)(Q:VK)(h:tN W F e σ H Q):tE X W F e σ H Q:=by
 obtain⟨H0,G,env,sr,p,e1,q⟩:=h
 exact⟨H0,G,env,sr,by rw [e1];exact q⟩
def AZ{e:E}(σ:St)(H:Hp)(Q:Bool->Hp->Prop)(h:NQ W F e σ H Q):tT X W F e σ H Q:=by
 obtain⟨H0,G,env,sr,p,e1,q⟩:=h
 exact⟨H0,G,env,sr,by rw [e1];exact⟨p,rfl,q⟩⟩
def fj(C:dF Γ F W N sc k X){scope:Scope}{kk:Nat}{aU:List Nat}{xs:List Str}(h:mV N sc scope kk aU xs)(fp:List Addr)(s1:Shared)(H1:Hp)(A:Addr):dF Γ.Cp F W (xs++freeOf scope) (cV scope sc) k (bT X (xs++freeOf scope) scope (bE X.env (freeOf scope)) fp s1 H1 A):=
 ⟨rfl,eW C.eP,rfl,h.nd,C.K,C.mg,C.gs,C.bs,C.room,λf hf=>⟨(C.fns f hf).ex⟩,C.Oc,C.cls,C.xc,λq hq=>⟨(C.tJ q hq).ex⟩,C.any,(λz=>nomatch z),(λz=>nomatch z),(λz=>nomatch z)⟩
def GR{e:E}{p:Expr}(h:br Γ N sc e p=true)(env:Env):∀x,foldedSetIterable p env x=pure x:=by
 intro x;cases p<;>first|rfl|(cases e<;>first|(exact bG h)|(rename_i q;cases q<;>exact bG h))
def iO{tg:Expr}{it:I}{p:Expr}(h:xO Γ N sc tg it p=true)(env:Env):∀x,foldedSetIterable p env x=pure x:=by
 intro x;cases it with
 |seq e=>exact GR h env x
 |pH e=>cases p<;>first|rfl|(exact bG h)
 |o9 a b=>cases p<;>first|rfl|(exact bG h)
 |enum e=>cases p<;>first|rfl|(exact bG h)
def CW(W:Wd)(H0 G1 H1:Hp)(yc:Sl)(f:PV->Res (Option PV))(ps:List PV)(i:Nat)(ys:List V)(σ':St)(H':Hp):Prop:=
 i<=ps.length/\∃G',aB W G1 H1 G' H'/\SR W H0 yc σ' G' H'/\∃zs,aL f (ps.take i)=.ok zs/\zs.length<=i/\aj W G' zs ys
def v7(hK:W.K=X.K){kk:Nat}{aU:List Nat}{tg:Tg}{it:I}{elt:E}{ys:List Str}(bH:md kk tg=true)(dz:gX elt=true)(hs:aU.map (λi=>N[i]?)=ys.map some)(nd:ys.Nodup)(σ:St)(H:Hp)(Q:VK)(h:tF X W F (.comp kk aU tg it elt) σ H Q):
 zV (tI X W F it) kk (gT X.K tg) (tN W F elt) aU σ H Q:=by
 obtain⟨H0,G,env,sr,o⟩:=h
 rw [aD] at o;refine⟨H0,G,env,sr,o.bind.imp λps kQ J G1 H1 g1 gi=>?_⟩
 by_cases oJ:¬ps.length<fF
 ·rw [if_neg oJ] at kQ;exact kQ.elim
 have hl:=Decidable.not_not.mp oJ
 rw [if_pos hl] at kQ;generalize hf:(λx=>(tg.put x (List.replicate kk .no++fC env aU)).bind λav=>(aD F elt av).bind λy=>Res.ok (some y))=f at kQ
 cases hc:aL f ps with
 |bad=>rw [hc] at kQ;exact kQ.elim
 |exc c=>
  exfalso
  have:∀(l:List PV) (c:Str),aL f l≠.exc c:=λl=>by
   induction l with
   |nil=>intro c z;cases z
   |cons a l ih=>
    intro c z;simp! [aL] at z;rcases Res.dq z with z|⟨o1,_,z⟩
    ·cases e:f a with
     |ok _=>rw [e] at z;cases z
     |exc _=>rw [e] at z;cases z
     |bad=>rw [e] at z;cases z
    ·rcases Res.dq z with z|⟨o2,_,z⟩
     ·exact ih c z
     ·cases z
  exact this _ _ hc
 |ok all=>
  rw [hc] at kQ;obtain⟨xs,e1,fin⟩:=kQ
  cases e1;have bR:=sr.grow g1
  refine⟨ps.length,CW W H0 G1 H1 (List.replicate kk .no++fC env aU) f ps,⟨Nat.zero_le _,G1,.refl g1.sub,qP kk bR hs nd,[],rfl,zzE _,.nil⟩,?_⟩
  rintro i made σ' H' ⟨hi,G',g',sr',zs,hz,MY,l⟩
  refine⟨by rw [l.length];exact zzV (zzU MY hi) (zzW hl (by decide)),?_⟩;obtain⟨ist,igo⟩:=gi.any i G' H' g'.g g'.h g'.sub
  by_cases hlast:i=ps.length
  ·refine .inl ⟨ist hlast,λp hp=>?_⟩
   rw [hlast,List.take_length,hc] at hz;cases hz;exact fin p made G' H' (g1.trans g') hp l
  ·have nt:i<ps.length:=by omega
   obtain⟨hgo,hyld⟩:=igo ps[i] (zzg nt)
   refine .inr ⟨hgo,nt,λx nh hy=>?_⟩
   obtain⟨vI,g'',rx⟩:=hyld x nh hy
   obtain⟨o1,ho,hnext⟩:=sC hc (zzg nt) hz
   rw [<-hf] at ho;obtain⟨av,he',ho⟩:=Res.aR ho
   obtain⟨y,hy',ho⟩:=Res.aR ho
   cases ho;refine uA hK he' (sr'.grow g'') rx λσ2 fM=>⟨H0,vI,av,fM,y,hy',λv G3 H3 g3 t=>?_⟩
   refine⟨nt,G3,g'.trans (g''.trans g3),(jy bH he' fM).grow g3,_,hnext,?_,?_⟩
   ·rw [zzM];show zs.length+1<=i+1;omega
   ·exact(aj.same (g''.trans g3).g zs l).append (.cons (t.rep dz) .nil)
def nQ(hK:W.K=X.K){kk:Nat}{aU:List Nat}{tg:Tg}{it:I}{c elt:E}{ys:List Str}(bH:md kk tg=true)(dz:gX elt=true)(hs:aU.map (λi=>N[i]?)=ys.map some)(nd:ys.Nodup)(σ:St)(H:Hp)(Q:VK)(h:tF X W F (.cG kk aU tg it c elt) σ H Q):
 kP (tI X W F it) kk (gT X.K tg) (NQ W F c) (tN W F elt) aU σ H Q:=by
 obtain⟨H0,G,env,sr,o⟩:=h
 rw [aD] at o;refine⟨H0,G,env,sr,o.bind.imp λps kQ J G1 H1 g1 gi=>?_⟩
 by_cases oJ:¬ps.length<fF
 ·rw [if_neg oJ] at kQ;exact kQ.elim
 have hl:=Decidable.not_not.mp oJ
 rw [if_pos hl] at kQ;generalize hf:(λx=>(tg.put x (List.replicate kk .no++fC env aU)).bind λav=>(aD F c av).bind λt=>pB t λt=>if t then(aD F elt av).bind λy=>Res.ok (some y) else .ok none)=f at kQ
 cases hc:aL f ps with
 |bad=>rw [hc] at kQ;exact kQ.elim
 |exc c=>
  exfalso
  have:∀(l:List PV) (c:Str),aL f l≠.exc c:=λl=>by
   induction l with
   |nil=>intro c z;cases z
   |cons a l ih=>
    intro c z;simp! [aL] at z;rcases Res.dq z with z|⟨o1,_,z⟩
    ·cases e:f a with
     |ok _=>rw [e] at z;cases z
     |exc _=>rw [e] at z;cases z
     |bad=>rw [e] at z;cases z
    ·rcases Res.dq z with z|⟨o2,_,z⟩
     ·exact ih c z
     ·cases z
  exact this _ _ hc
 |ok all=>
  rw [hc] at kQ;obtain⟨xs,e1,fin⟩:=kQ
  cases e1;have bR:=sr.grow g1
  refine⟨ps.length,CW W H0 G1 H1 (List.replicate kk .no++fC env aU) f ps,⟨Nat.zero_le _,G1,.refl g1.sub,qP kk bR hs nd,[],rfl,zzE _,.nil⟩,?_⟩
  rintro i made σ' H' ⟨hi,G',g',sr',zs,hz,MY,l⟩
  refine⟨by rw [l.length];exact zzV (zzU MY hi) (zzW hl (by decide)),?_⟩;obtain⟨ist,igo⟩:=gi.any i G' H' g'.g g'.h g'.sub
  by_cases hlast:i=ps.length
  ·refine .inl ⟨ist hlast,λp hp=>?_⟩
   rw [hlast,List.take_length,hc] at hz;cases hz;exact fin p made G' H' (g1.trans g') hp l
  ·have nt:i<ps.length:=by omega
   obtain⟨hgo,hyld⟩:=igo ps[i] (zzg nt)
   refine .inr ⟨hgo,nt,λx nh hy=>?_⟩
   obtain⟨vI,g'',rx⟩:=hyld x nh hy
   obtain⟨o1,ho,hnext⟩:=sC hc (zzg nt) hz
   rw [<-hf] at ho;obtain⟨av,he',ho⟩:=Res.aR ho
   obtain⟨t,ht,ho⟩:=Res.aR ho
   obtain⟨b,rfl⟩:∃b,t=.bl b:=by
    cases t<;>first|exact⟨_,rfl⟩|(cases ho)
   refine uA hK he' (sr'.grow g'') rx λσ2 fM=>⟨H0,vI,av,fM,b,ht,λG3 H3 g3=>?_⟩
   have iF:(if b=true then(aD F elt av).bind λy=>Res.ok (some y) else .ok none)=Res.ok o1:=ho
   cases b with
   |true=>
    rw [if_pos rfl] at iF;refine PM ?_;obtain⟨y,hy',iF⟩:=Res.aR iF
    cases iF;refine⟨H0,G3,av,fM.grow g3,y,hy',λv G4 H4 g4 t4=>?_⟩
    refine⟨nt,G4,g'.trans (g''.trans (g3.trans g4)),(jy bH he' fM).grow (g3.trans g4),_,hnext,?_,?_⟩
    ·rw [zzM];show zs.length+1<=i+1;omega
    ·exact(aj.same (g''.trans (g3.trans g4)).g zs l).append (.cons (t4.rep dz) .nil)
   |false=>
    rw [if_neg zzf] at iF;refine Qz ?_;cases iF;refine⟨nt,G3,g'.trans (g''.trans g3),(jy bH he' fM).grow g3,_,hnext,?_,?_⟩
    ·rw [zzM];show zs.length+0<=i+1;omega
    ·show aj W G3 (zs++[]) made
     rw [zz6];exact aj.same (g''.trans g3).g zs l
def w9(C:dF Γ F W N sc k X){kk:Nat}{aU:List Nat}{tg:Tg}{it:I}{elt:E}{cO fV eE:Expr}{scope:Scope}{pos:Pos}(h:mV N sc scope kk aU (aE cO))(bH:md kk tg=true)(dz:gX elt=true)(hi:GI X W F cO it fV)(tJ:∀x,foldedSetIterable fV X.env x=pure x)
 (Bp:ic (aE cO++freeOf scope) (cV scope sc) (lN scope) tg cO=true) (he:∀Y,dF Γ.Cp F W (aE cO++freeOf scope) (cV scope sc) k Y->GE Y W F elt eE):GF X W F (.comp kk aU tg it elt) (.ListComp eE [⟨cO,fV,[],0⟩] scope pos):=by
 intro aa s σ H Q I hq;have JE:(freeOf scope).Nodup:=(List.nodup_append.mp h.nd).2.1
 have rd:=v7 (N:=N) C.K bH dz h.slots JE σ H Q hq
 have:=DG (g:=gT X.K tg) (te:=tN W F elt) (xs:=aE cO) (ys:=freeOf scope) (is:=aU) (pos:=pos) C.calm (o5 C.hN C.eP I.ok h) hi
  (λfp s1 H1 A=>Ae (fn:=lN scope) (X:=bT X (aE cO++freeOf scope) scope (bE X.env (freeOf scope)) fp s1 H1 A) rfl h.nd (eW C.eP) rfl (λ_ z=>z) Bp)
  (λfp s1 H1 A=>L2.PE.imp (he _ (fj C h fp s1 H1 A)) λσ H Q z=>vX σ H Q z) tJ aa s σ H Q I
 rw [h.len] at this;exact this rd
def nO(C:dF Γ F W N sc k X){kk:Nat}{aU:List Nat}{tg:Tg}{it:I}{c elt:E}{cO fV pc eE:Expr}{scope:Scope}{pos:Pos}(h:mV N sc scope kk aU (aE cO))(bH:md kk tg=true)(dz:gX elt=true)(hi:GI X W F cO it fV)(tJ:∀x,foldedSetIterable fV X.env x=pure x)
 (Bp:ic (aE cO++freeOf scope) (cV scope sc) (lN scope) tg cO=true) (hc:∀Y,dF Γ.Cp F W (aE cO++freeOf scope) (cV scope sc) k Y->GT Y W F c pc) (he:∀Y,dF Γ.Cp F W (aE cO++freeOf scope) (cV scope sc) k Y->GE Y W F elt eE):
 GF X W F (.cG kk aU tg it c elt) (.ListComp eE [⟨cO,fV,[pc],0⟩] scope pos):=by
 intro aa s σ H Q I hq;have JE:(freeOf scope).Nodup:=(List.nodup_append.mp h.nd).2.1
 have rd:=nQ (N:=N) C.K bH dz h.slots JE σ H Q hq
 have:=yD (g:=gT X.K tg) (tt:=NQ W F c) (te:=tN W F elt) (xs:=aE cO) (ys:=freeOf scope) (is:=aU) (pos:=pos) C.calm (o5 C.hN C.eP I.ok h) hi
  (λfp s1 H1 A=>Ae (fn:=lN scope) (X:=bT X (aE cO++freeOf scope) scope (bE X.env (freeOf scope)) fp s1 H1 A) rfl h.nd (eW C.eP) rfl (λ_ z=>z) Bp)
  (λfp s1 H1 A=>L2.PT.imp (hc _ (fj C h fp s1 H1 A)) λσ H Q z=>AZ σ H Q z)
  (λfp s1 H1 A=>L2.PE.imp (he _ (fj C h fp s1 H1 A)) λσ H Q z=>vX σ H Q z) tJ aa s σ H Q I
 rw [h.len] at this;exact this rd
variable{Z:List (Addr×Obj)}{G H:Hp}
mutual
theorem Rep.less(zs:∀b o,Z.lookup b=some o->G b=some (.bz o bF)):∀(p:PV) {v:V},Rep W G p v->Rep W (aS Z G) p v
 |.aH,_,h=>by simpa only [Rep] using h
 |.bl b,_,h=>by simpa only [Rep] using h
 |.int i,_,h=>by simpa only [Rep] using h
 |.str z,_,h=>by simpa only [Rep] using h
 |.tup xs,_,h=>by
  simp! [Rep] at h⊢;obtain⟨a,vs,e,q,l⟩:=h
  refine⟨a,vs,e,?_,aj.less zs xs l⟩;rcases q with q|⟨(q|⟨o,q⟩)|q,z⟩
  ·cases y:Z.lookup a with
   |none=>exact .inl (by rw [aw y];exact q)
   |some o'=>rw [zs a o' y] at q;cases q
  ·cases y:Z.lookup a with
   |none=>exact .inl (by rw [aw y];exact q)
   |some o'=>rw [zs a o' y] at q;cases q
  ·cases y:Z.lookup a with
   |none=>exact .inr ⟨.inl (.inr ⟨o,by rw [aw y];exact q⟩),z⟩
   |some o'=>rw [zs a o' y] at q;cases q
  ·exact .inr ⟨.inr q,z⟩
 |.lst xs,_,h=>by
  simp! [Rep] at h⊢;obtain⟨a,vs,e,q,l⟩:=h
  refine⟨a,vs,e,?_,aj.less zs xs l⟩;rcases q with(q|⟨o,q⟩)|q
  ·cases y:Z.lookup a with
   |none=>exact .inl (.inl (by rw [aw y];exact q))
   |some o'=>rw [zs a o' y] at q;cases q
  ·cases y:Z.lookup a with
   |none=>exact .inl (.inr ⟨o,by rw [aw y];exact q⟩)
   |some o'=>rw [zs a o' y] at q;cases q
  ·exact .inr q
 |.exc c,_,h=>by
  simp! [Rep] at h⊢;obtain⟨a,C,e,x,m,q⟩:=h
  cases y:Z.lookup a with
  |none=>exact⟨a,C,e,x,m,by rw [aw y];exact q⟩
  |some o'=>
   rw [zs a o' y] at q;unfold Mq at q;cases q
 |.bo ks vs,_,h=>by
  simp! [Rep] at h⊢;obtain⟨a,o,us,e,n,m,l⟩:=h
  refine⟨a,o,us,e,n,?_,aj.less zs vs l⟩;cases y:Z.lookup a with
  |none=>rw [aw y];exact m
  |some o'=>rw [zs a o' y] at m;cases m
theorem aj.less(zs:∀b o,Z.lookup b=some o->G b=some (.bz o bF)):∀(ps:List PV) {vs:List V},aj W G ps vs->aj W (aS Z G) ps vs
 |[],_,h=>by simpa only [aj] using h
 |p::ps,_,h=>by
  simp! [aj] at h⊢;obtain⟨v,r,e,h1,h2⟩:=h
  exact⟨v,r,e,Rep.less zs p h1,aj.less zs ps h2⟩
end
theorem mQ(t:cq W G H)(sg:az G H)(zs:∀b o,Z.lookup b=some o->G b=some (.bz o bF))(zc:∀b o,Z.lookup b=some o->∃v,o.data=.cell v):cq W (aS Z G) (aS Z H):=λP q m=>by
 obtain⟨n,ps,e,tr,al⟩:=t P q m
 refine⟨iC n,ps,?_,tr,λpos cv y=>?_⟩
 ·cases y:Z.lookup P with
  |none=>rw [aw y];exact e
  |some o=>rw [sg _ _ (zs P o y)] at e;cases e
 ·obtain⟨c',oc,cQ,t',e1,e2,e3,e4⟩:=al pos cv y
  refine⟨c',oc,cQ,t',e1,?_,e3,e4⟩;cases y:Z.lookup c' with
  |none=>rw [aw y];exact e2
  |some o=>
   rw [zs c' o y] at e2;cases e2;obtain⟨v,hv⟩:=zc c' _ y
   rw [e3] at hv;cases hv
theorem aB.wz{G3 H3:Hp}(g:aB W (aS Z G) (aS Z H) G3 H3)(sg:az G H)(zs:∀b o,Z.lookup b=some o->G b=some (.bz o bF))(zc:∀b o,Z.lookup b=some o->∃v,o.data=.cell v)(zn:∀b o,Z.lookup b=some o->H3 b=none):aB W G H (aM Z G3) (aM Z H3) where
 g:=λb u e=>by
  cases y:Z.lookup b with
  |none=>rw [ai y];exact g.g _ _ (by rw [aw y];exact e)
  |some o=>rw [aZ y];rw [zs b o y] at e;exact e
 h:=λb u e=>by
  cases y:Z.lookup b with
  |none=>rw [ai y];exact g.h _ _ (by rw [aw y];exact e)
  |some o=>
   rw [sg _ _ (zs b o y)] at e;cases e;exact .inl ⟨(λ_ z=>nomatch z),aZ y⟩
 sub:=λb u e=>by
  cases y:Z.lookup b with
  |none=>rw [ai y] at e⊢;exact g.sub _ _ e
  |some o=>rw [aZ y] at e⊢;exact e
 own:=λa h1 h3 h2=>by
  cases y:Z.lookup a with
  |none=>rw [ai y];exact g.own a (by rw [aw y];exact h1) (by rw [aw y];exact h3) (by rw [aw y];exact h2)
  |some o=>rw [zs a o y] at h2;cases h2
 tab:=λt P q m=>by
  obtain⟨n,ps,e,tr,al⟩:=g.tab (mQ t sg zs zc) P q m
  refine⟨?_,ps,?_,tr,λpos cv y=>?_⟩
  ·cases y:Z.lookup P with
   |none=>rw [ai y];exact n
   |some o=>rw [zn P o y] at e;cases e
  ·cases y:Z.lookup P with
   |none=>rw [ai y];exact e
   |some o=>rw [zn P o y] at e;cases e
  ·obtain⟨c',oc,cQ,t',e1,e2,e3,e4⟩:=al pos cv y
   refine⟨c',oc,cQ,t',e1,?_,e3,e4⟩;cases y:Z.lookup c' with
   |none=>rw [ai y];exact e2
   |some o=>have:=g.sub _ _ e2;rw [zn c' o y] at this;cases this
theorem rL(t:cq W G H)(sg:az G H)(zn:∀b o,Z.lookup b=some o->H b=none):cq W (aM Z G) (aM Z H):=λP q m=>by
 obtain⟨n,ps,e,tr,al⟩:=t P q m
 refine⟨?_,ps,?_,tr,λpos cv y=>?_⟩
 ·cases y:Z.lookup P with
  |none=>rw [ai y];exact n
  |some o=>rw [zn P o y] at e;cases e
 ·cases y:Z.lookup P with
  |none=>rw [ai y];exact e
  |some o=>rw [zn P o y] at e;cases e
 ·obtain⟨c',oc,cQ,t',e1,e2,e3,e4⟩:=al pos cv y
  refine⟨c',oc,cQ,t',e1,?_,e3,e4⟩;cases y:Z.lookup c' with
  |none=>rw [ai y];exact e2
  |some o=>have:=sg _ _ e2;rw [zn c' o y] at this;cases this
theorem aB.lz{G' H':Hp}(g:aB W (aM Z G) (aM Z H) G' H')(sg:az G H)(zc:∀b o,Z.lookup b=some o->∃v,o.data=.cell v)(zn:∀b o,Z.lookup b=some o->H b=none):aB W G H (aS Z G') (aS Z H') where
 g:=λb u e=>by
  cases y:Z.lookup b with
  |none=>rw [aw y];exact g.g _ _ (by rw [ai y];exact e)
  |some o=>have:=sg _ _ e;rw [zn b o y] at this;cases this
 h:=λb u e=>by
  cases y:Z.lookup b with
  |none=>rw [aw y];exact g.h _ _ (by rw [ai y];exact e)
  |some o=>rw [zn b o y] at e;cases e
 sub:=λb u e=>by
  obtain⟨q,e1⟩:=dU e
  rw [aw q];exact g.sub _ _ e1
 own:=λa h1 h3 h2=>by
  cases y:Z.lookup a with
  |none=>rw [aw y];exact g.own a (by rw [ai y];exact h1) (by rw [ai y];exact h3) (by rw [ai y];exact h2)
  |some o=>exact e8 y
 tab:=λt=>mQ (g.tab (rL t sg zn)) g.sub (λb o q=>g.g _ _ (aZ q)) zc
def yP(sg:az G H):az (aM Z G) (aM Z H):=λb u e=>by
 cases y:Z.lookup b with
 |none=>rw [ai y] at e⊢;exact sg _ _ e
 |some o=>rw [aZ y] at e⊢;exact e
theorem uy{G3 H3:Hp}(s:az G3 H3)(zn:∀b o,Z.lookup b=some o->H3 b=none):az G3 (aM Z G3):=λb u e=>by
 cases y:Z.lookup b with
 |none=>rw [ai y];exact e
 |some o=>have:=s _ _ e;rw [zn b o y] at this;cases this
def sV(zs:∀b o,Z.lookup b=some o->H b=some (.bz o bF)):aM Z (aS Z H)=H:=by
 funext b
 cases y:Z.lookup b with
 |none=>rw [ai y,aw y]
 |some o=>rw [aZ y,zs b o y]
def tm(zs:∀b o,Z.lookup b=some o->H b=none):aS Z (aM Z H)=H:=by
 funext b
 cases y:Z.lookup b with
 |none=>rw [aw y,ai y]
 |some o=>rw [e8 y,zs b o y]
theorem zF{P:Program}{w:World}{h:Heap}(k:d6 P w H h)(zs:∀b o,Z.lookup b=some o->H b=some (.bz o bF)):d6 P w (aS Z H) h:=λb v e=>by
 obtain⟨q,e1⟩:=dU e
 refine(k b v e1).dZ (λc y _ r=>r) (λc r=>?_) λc xs r=>?_
 ·cases y:Z.lookup c with
  |none=>rw [aw y];exact r
  |some o=>rw [zs c o y] at r;cases r
 ·cases y:Z.lookup c with
  |none=>rw [aw y];exact r
  |some o=>rw [zs c o y] at r;cases r
def yI{P:Program}{w:World}{K:zz8}{mg:Str->Option Value}{base:Heap}{A:Around}{outer:List Env}{s:Shared}(e:iU P w K mg base A outer s H)(zs:∀b o,Z.lookup b=some o->H b=some (.bz o bF)):iU P w K mg base A outer s (aS Z H):=
 ⟨e.frames,e.mod,λb o q=>⟨(e.bs b o q).1,iC (e.bs b o q).2⟩,e.xR,e.gq,λb hb=>iC (e.ym b hb),zF e.aK zs,e.bare⟩
def AF{ps:List Str}{scope:Scope}(h:N0 ps scope=true):tx ps (bf scope) scope:=by
 unfold N0 at h;simp! [zza,zzy,Bool.not_eq_true',zzN,zzT] at h;obtain⟨⟨⟨⟨⟨⟨h1,h2⟩,h3⟩,h4⟩,h5⟩,h6⟩,h7⟩:=h
 refine⟨h1,h2,h3,h4,h5,h6,h7,λx hx=>?_⟩
 unfold bf;rw [List.mem_reverse,zzx];exact⟨(x,.free),List.mem_filter.mpr ⟨PySem.mem_of_lookup hx,rfl⟩,rfl⟩
def vE{params:Arguments}{ps:List Str}{qual:Str}{body:Expr}{scope:Scope}{cl:List (Str×Addr)}{pm fL ct:Value}(h:pG params=some ps)(us:List Value)(hl:us.length=ps.length):bindArgs (PySem.W.kla_fn "<lambda>" qual params body scope cl pm fL ct) ⟨us,[]⟩=pure (ps.zip us):=by
 rcases vT h with⟨rfl,rfl⟩|⟨a,rfl,rfl⟩
 ·match us,hl with
  |[],_=>rfl
 ·match us,hl with
  |[u],_=>
   simp [bindArgs,seqItems?,PySem.W.kla_fn]
   rfl
def EH{params:Arguments}{ps:List Str}{env:Env}(h:pG params=some ps):defaultsOf params env=([],[]):=by
 rcases vT h with⟨rfl,rfl⟩|⟨a,rfl,rfl⟩
 ·rfl
 ·rfl
theorem oe:∀{idx:List Nat} {l qs:List PV} {us:List V},eY l idx=.ok qs->aj W G l us->∃vs:List V,aj W G qs vs/\vs.length=idx.length/\∀(j i:Nat),idx[j]?=some i->∃v,us[i]?=some v/\vs[j]?=some v
 |[],l,qs,us,h,r=>by
  unfold eY at h;cases h;exact⟨[],.nil,rfl,λj i e=>by simp at e⟩
 |i::idx,l,qs,us,h,r=>by
  unfold eY at h;obtain⟨p,hp,h⟩:=Res.aR h
  obtain⟨ps,kQ,h⟩:=Res.aR h
  cases h;obtain⟨v,hv,rv⟩:=r.nE (Res.of_ok hp)
  obtain⟨vs,l1,l2,l3⟩:=oe kQ r
  refine⟨v::vs,.cons rv l1,by simp [l2],λj k e=>?_⟩
  cases j with
  |zero=>simp at e;subst e;exact⟨v,hv,rfl⟩
  |succ j=>simpa using l3 j k (by simpa using e)
theorem j8{l:List PV}(c:Str):∀{idx:List Nat},eY l idx≠.exc c
 |[]=>λz=>nomatch z
 |i::idx=>λz=>by
  unfold eY at z;rcases Res.dq z with z|⟨p,_,z⟩
  ·exact Res.aQ c z
  ·rcases Res.dq z with z|⟨ps,_,z⟩
   ·exact j8 c z
   ·cases z
end
noncomputable def Ab(idx:List Nat):TA:=λσ H Q=>∃vs:List V,vs.length=idx.length/\(∀(j i:Nat),idx[j]?=some i->∃v,σ[i]?=some (some v)/\vs[j]?=some v)/\Q vs H
def rV{a:Expr}{as:List Expr}{xs:List (Option Str)}(h:eK (a::as) xs=true):∃x np,a=.Name x np/\∃Mx,eK as Mx=true:=by
 cases xs with
 |nil=>cases a<;>exact bG h
 |cons y ys=>
  cases y with
  |none=>cases a<;>exact bG h
  |some y=>
   cases a with
   |Name x np=>exact⟨x,np,rfl,ys,(Bool.and_eq_true_iff.mp h).2⟩
   |_=>exact bG h
theorem mE{env:Env}:∀{as:List Expr} {xs:List (Option Str)} {pos:Pos},eK as xs=true->(backTo pos (starEach as env)).any (·.1)=false
 |[],_,_,_=>rfl
 |a::as,xs,pos,h=>by
  obtain⟨x,np,rfl,Mx,h2⟩:=rV h
  show(false||(backTo pos (starEach as env)).any (·.1))=false
  rw [mE h2]
  rfl
theorem tv{X:Cx}(hv:∀(i:Nat) (x:Str),X.N[i]?=some x->Mt X.env.scope x):∀{as:List Expr} {idx:List Nat},eK as (idx.map λi=>X.N[i]?)=true->PA X as (Ab idx)
 |[],[],_=>L2.PA.imp dc λσ H Q h=>by
  obtain⟨vs,h1,_,h3⟩:=h
  cases vs with
  |nil=>exact h3
  |cons _ _=>simp at h1
 |a::as,i::idx,h=>by
  rw [zzF] at h;cases e:X.N[i]? with
  |none=>rw [e] at h;cases a<;>exact bG h
  |some y=>
   rw [e] at h;cases a<;>first|(exact bG h)|skip
   rename_i x np;unfold eK at h;rw [zza,zza] at h;have Qw:=zzy.mp h.1.1
   subst Qw;have Sx:(x==("__debug__":Str))=false/\(x==("__classdict__":Str))=false:=by
    have h2:=h.1.2
    unfold okN at h2;simp! [zza,Bool.not_eq_true'] at h2;exact⟨h2.1.1,h2.1.2⟩
   refine L2.PA.imp (bS (fu (i:=i) e (hv i x e) Sx.1 Sx.2) (tv hv h.2) rfl) λσ H Q hq=>?_
   obtain⟨vs,h1,h2,h3⟩:=hq
   cases vs with
   |nil=>simp at h1
   |cons v vs=>
    obtain⟨v',hv1,hv2⟩:=h2 0 i rfl
    simp at hv2;subst hv2;exact⟨v,hv1,vs,by simpa using h1,λj k ej=>by simpa using h2 (j+1) k (by simpa using ej),h3⟩
 |[],_::_,h=>by cases h
 |a::_,[],h=>by cases a<;>cases h
section
variable{Γ:Pg}{X:Cx}{W:Wd}{F:bb}{N:List Str}{sc:Scope}{k:Nat}
def wo{g:Str}{idx:List Nat}{params:Arguments}{body:Expr}{scope:Scope}(h:Fp g idx params body scope=true):∃ps a as np pos,pG params=some ps/\idx.head?=some ps.length/\body=.Call (.Name g np) (a::as) [] pos/\scope.names.lookup g=some .globalImplicit/\okN g=true/\gk g=false/\eK (a::as) (idx.tail.map λi=>(ps++bf scope)[i]?)=true/\tx ps (bf scope) scope:=by
 obtain⟨ps,e1,h⟩:=Cc h
 obtain⟨⟨f,args,kws,pos⟩,e2,h⟩:=Cc h
 simp! [zza,zzy,Bool.not_eq_true',zzN] at h;obtain⟨⟨⟨⟨⟨⟨⟨⟨h1,h7⟩,h8⟩,h0⟩,h2⟩,h3⟩,h4⟩,h5⟩,h6⟩:=h
 obtain⟨np,z1⟩:=cj h1
 have z7:=List.isEmpty_iff.1 h7
 try dsimp only at z1 z7
 subst z1 z7;cases args with
 |nil=>cases h8
 |cons a as=>exact⟨ps,a,as,np,pos,e1,h0,jY e2,h2,h3,h4,h5,AF h6⟩
def uI{a:Expr}{as:List Expr}{xs:List (Option Str)}{env:Env}(h:eK (a::as) xs=true):∃x np,a=.Name x np/\∃Mx,eK as Mx=true:=rV h
def CQ(C:dF Γ F W N sc k X){g:Str}{idx:List Nat}{cE as qs:List PV}{f:Addr}{aa:List (Addr×Obj)}{σ:St}{G H:Hp}{s:Shared}{Q:VK}{us:List Value}{vs:List V}
 (I:Inv X aa σ H s) (sg:az G H) (tb:cq W G H) (cr:ql W G g idx cE (.ref f)) (l:aj W G as vs) (r:Vals vs us) (hn:idx.head?=some as.length) (hq:eY (as++cE) idx.tail=.ok qs)
 (o:Out X W (F g qs) σ G H λp=>cZ W G H p Q):wpAny (model X.prog X.w) X.A (call (.ref f) us) (EP X aa σ Q) X.xe s:=by
 obtain⟨f',c',oc,cQ,t,fy,pm,params,body,scope,qual,cl,Z,ws,e,d⟩:=cr
 cases e;obtain⟨ps,a,as',np,pos,e1,e0,rfl,e2,e3,e4,e5,S⟩:=wo d.lg
 have Bs:F g qs≠.bad:=λz=>by rw [z] at o;exact o
 have hlen:as.length=ps.length:=zzq (hn.symm.trans e0)
 have LS:∀b o,Z.lookup b=some o->H b=some (.bz o bF):=λb o q=>sg _ _ (d.zs b o q)
 have Uw:aM Z (aS Z H)=H:=sV LS
 have Ea:uY Z (aS Z H) (eA X.stack) s.heap:=⟨λb o q=>(I.aK b _ (LS b o q)).1,λb o q=>e8 q,λb o q hb=>by have:=I.kM b hb;rw [LS b o q] at this;cases this⟩
 have rl:aj W (aS Z G) (as++cE) (vs++ws):=(aj.less d.zs as l).append d.rep
 obtain⟨ys,ry,ly,py⟩:=oe hq rl
 have tJ:Γ.fs.contains g=true:=by
  rcases C.any g qs Bs with z|z
  ·exact z
  ·rw [e4] at z;cases z
 obtain⟨fa,fd,pn,FO,hm,hk,hb,hal⟩:=(C.fns g tJ).ex
 have UH:az (aS Z G) (aS Z H):=nU sg
 refine wpAny_call (codeAny_mono (L2.wZ (E:=λCv ao H'=>∃c,F g qs=.exc c/\XE W c G H Cv ao H') (Q:=Q) (Z:=Z) (ws:=ws) (vs:=vs) (t:=λσ' H1 Q1=>H1=aS Z H/\Ab idx.tail σ' H1 λzs H2=>H2=H1/\zs=ys/\∀u H3,(match F g qs with
  |.ok p=>∃G3,aB W (aS Z G) (aS Z H) G3 H3/\Rep W G3 p u
  |_=>False)->Q1 u H3) S C.room (yI I.yc LS) Ea ?zb (I.aK _ _ (sg _ _ d.fo)).1 (I.aK _ _ (sg _ _ d.co)).1 d.cd d.cn (vE e1 us (by rw [<-r.length,l.length,hlen])) r (by rw [l.length,hlen]) d.len d.has d.inj d.cells ?cells ?ht ?hq) λrr s' hr=>?end_)
 case zb=>
  intro b o q;cases y:X.base.get? b with
  |none=>rfl
  |some o'=>have:=(I.bs b o' y).2;rw [LS b o q] at this;cases this
 case cells=>
  intro i y c h1 h2 v h3;obtain⟨u,o',q1,q2,q3⟩:=d.vals i y c h1 h2 v h3
  exact⟨u,q1,o',Ea.at_ c o' q2,q3⟩
 case hq=>
  refine⟨rfl,ys,ly,λj i ej=>?_,rfl,rfl,λu H3 h3 zn=>?_⟩
  ·obtain⟨v,h1,h2⟩:=py j i ej
   refine⟨v,?_,h2⟩;rw [<-List.map_append,zzQ,h1]
   rfl
  ·cases z:F g qs with
   |ok p=>
    rw [z] at h3 o;obtain⟨G3,g3,r3⟩:=h3
    exact o u _ _ (g3.wz sg d.zs d.zc zn) (Rep.same (uy g3.sub zn) p r3)
   |exc c=>rw [z] at h3;exact h3.elim
   |bad=>exact absurd z Bs
 case ht=>
  intro vx s1 σ' H1 Q1 I1 h1;obtain⟨rfl,h1⟩:=h1
  obtain⟨x0,np0,rfl,Mx,wO⟩:=uI (env:=X.env) e5
  refine wpAny_Call_Name_kw (gE (X:=F7 X.prog X.w X.K X.mg X.base (ps++bf scope) qual scope f (.ref c') cl X.A X.stack s (aS Z H) _) I1 e2 hm ?_ (dy e3).1);refine PySem.W.callWith_K (h₀:=X.base) I.ok.mod.Mg hk (bP (tv (X:=F7 X.prog X.w X.K X.mg X.base (ps++bf scope) qual scope f (.ref c') cl X.A X.stack s (aS Z H) _) (λi x hx=>?_) e5 pos vx s1 σ' _ _ I1 h1) λus2 s2 ⟨vs2,H2,I2,r2,q2⟩=>⟨I2.tj,?_⟩) rfl (mE wO)
  ·rcases List.mem_append.mp (zzD hx) with z|z
   ·exact .inl (S.par x z)
   ·exact .inr (.inr (S.OH x z))
  ·obtain⟨rfl,rfl,q2⟩:=q2
   refine mK (X:=F7 X.prog X.w X.K X.mg X.base (ps++bf scope) qual scope f (.ref c') cl X.A X.stack s (aS Z H) _) (q:=none) (as:=qs) (G:=aS Z G) (C.room.deeper _) FO hb (λz=>by rw [ry.length];exact hal qs z) I2 UH (mQ tb sg d.zs d.zc) ry r2 ?_;cases z:F g qs with
   |ok p=>
    rw [z] at q2;exact λv G' H' g' rp=>q2 v H' ⟨G',g',rp⟩
   |exc c=>
    intro pins3 G3 H3 s3 e s' I3 g3 x3;refine Ml pins3 σ' H3 s3 e s' I3 (Di.imp x3 λCv ao H' y zn=>?_);obtain⟨C4,a4,G4,y1,y2,y3,y4,y5⟩:=y
    exact⟨c,rfl,C4,a4,_,y1,y2,y3,y4,(g3.trans y5).wz sg d.zs d.zc zn⟩
   |bad=>exact absurd z Bs
 case end_=>
  rw [Uw] at hr;cases rr with
  |error e=>
   have hr:dI X.prog X.w X.stack H s (λCv ao H'=>∃c,F g qs=.exc c/\XE W c G H Cv ao H') e s':=hr
   cases z:F g qs with
   |ok q=>
    obtain⟨a,C',t,vs,H',B,rfl,Fl⟩:=hr
    obtain⟨c,e1,_⟩:=Fl.ends
    rw [z] at e1;cases e1
   |exc c=>
    rw [z] at o;refine o aa G H s e s' I (.refl sg) (Di.imp hr λC1 a H' y=>?_);obtain⟨c',e1,y⟩:=y
    rw [z] at e1;cases e1;exact y
   |bad=>exact absurd z Bs
  |ok fl=>
   cases fl with
   |ret u=>exact I.after hr
   |next=>exact zzk hr
   |brk=>exact zzk hr
   |cont=>exact zzk hr
def AY(C:dF Γ F W N sc k X){i:Nat}{x:Str}{e:E}{es:Es}{p:Expr}{ps:List Expr}{np pos:Pos}(h:(N[i]?==some x&&eN sc x&&okN x)=true)(Bb:gP (.cons e es)=true)(ha:GA X W F (.cons e es) (p::ps))
 (d7:starEach (p::ps) X.env=(false,eval p X.env)::starEach ps X.env) (hpl:(backTo pos (starEach ps X.env)).any (·.1)=false):GE X W F (.j3 i (.cons e es)) (.Call (.Name x np) (p::ps) [] pos):=by
 simp! [zza,zzy] at h;obtain⟨h1,h2,h3⟩:=dy h.2
 intro aa s σ H Q I hq;obtain⟨H0,G,env,sr,o⟩:=hq
 rw [aD] at o;cases e1:env[i]? with
 |none=>rw [e1] at o;exact o.elim
 |some sl=>
  cases sl with
  |no=>rw [e1] at o;exact o.elim
  |val _=>rw [e1] at o;exact o.elim
  |own _=>rw [e1] at o;exact o.elim
  |fn g idx cE=>
   rw [e1] at o;obtain⟨o2,hs,v,rfl,cr⟩:=sr.slot i _ e1
   have Tc:=cr
   obtain⟨f,c',oc,cQ,t,fy,pm,params,body,scope,qual,cl,Z,ws,e2,d⟩:=Tc
   subst e2;refine wpAny_Call_Name_kw (wpAny_mono (fu (i:=i) (by rw [C.hN];exact h.1.1) (oX C h.1.2) h1 h2 aa s σ H (λv' H1=>v'=.ref f/\H1=H) I ⟨_,hs,rfl,rfl⟩) (λu s1 hu=>?_) λ_ _ y=>y)
   obtain⟨v',H1,I1,ru,rfl,rfl⟩:=hu
   cases ru;refine PySem.W.callWith_F ⟨_,_,_,_,(I1.aK _ _ (sr.sub _ _ d.fo)).1⟩ (bP (ha pos aa s1 σ H1 (λvs H2=>∃G2 as qs,az G2 H2/\cq W G2 H2/\aj W G2 as vs/\ql W G2 g idx cE (.ref f)/\G2 f=some (.bz (PySem.W.kla_obj "<lambda>" qual params body scope cl pm c' fy) bF)/\idx.head?=some as.length/\eY (as++cE) idx.tail=.ok qs/\Out X W (F g qs) σ G2 H2 λp=>cZ W G2 H2 p Q) I1 ?_) λus s2 ⟨vs,H2,I2,r,q⟩=>?_) d7 hpl
   ·refine args sr o λas vs G1 H2 g1 t1 bR o1=>?_
    split at o1
    ·rename_i hn;cases hq:eY (as++cE) idx.tail with
     |ok qs=>
      rw [hq] at o1;have sU:Out X W (F g qs) σ G1 H2 _:=o1
      exact⟨G1,as,qs,bR.sub,bR.tab,t1.rep Bb,cr.same g1.g,g1.g _ _ d.fo,hn,hq,sU.imp λp hp v G' H' g' rp=>hp v G' H' (g1.trans g') (.of rp)⟩
     |exc c=>exact absurd hq (j8 c)
     |bad=>rw [hq] at o1;exact o1.elim
    ·exact o1.elim
   ·obtain⟨G2,as,qs,sg,tb,l,cr2,fo2,hn,hqs,o2⟩:=q
    exact⟨⟨_,_,_,_,(I2.aK _ _ (sg _ _ fo2)).1⟩,CQ C I2 sg tb cr2 l r hn hqs o2⟩
def qd(X:Cx)(W:Wd)(params:Arguments)(body:Expr)(scope:Scope)(cl:List (Str×Addr))(G1 H1 G2 H2:Hp)(f:Addr):Prop:=aB W G1 H1 G2 H2/\∃c' oc cQ t fy pm,G2 f=some (.bz (PySem.W.kla_obj "<lambda>" (X.env.qual++"<lambda>") params body scope cl pm c' fy) bF)/\G2 c'=some (.bz oc bF)/\oc.data=.fields cQ/\cQ[1]?=some (.str (X.env.qual++"<lambda>") t)
def BE(C:dF Γ F W N sc k X)(hl:Γ.hl=true){params:Arguments}{ps:List Str}{body:Expr}{scope:Scope}{pos:Pos}{cl:List (Str×Addr)}(hp:pG params=some ps)(BQ:closureFor scope X.env=pure cl):
 PE X (.Lambda params body scope pos) (λσ H Q=>∃G,az G H/\cq W G H/\∀f G2 H2,qd X W params body scope cl G H G2 H2 f->Q (.ref f) H2):=by
 intro aa s σ H Q I h;obtain⟨G,sg,tb,q⟩:=h
 obtain⟨c,P,wQ,CH,hts,huq⟩:=C.tb hl
 obtain⟨nG,lI,hP,tr,al⟩:=tb P _ hts
 refine L2.zg (R:=λc' oc=>G c'=some (.bz oc bF)) I hP tr wQ CH (C.bm hl) BQ (EH hp) (λcv e=>?_) λf c' oc cQ t fy qI h' tk hf hc Cn SV TU hd hv Tp Ub more I'=>?_
 ·obtain⟨c',oc,cQ,t,e1,e2,e3,e4⟩:=al pos cv e
  exact⟨c',oc,cQ,t,e1,sg _ _ e2,e2,e3,e4⟩
 ·have TN:G f=none:=sg.free hf
  have TR:G c'=none\/G c'=some (.bz oc bF):=by
   rcases hc with z|z
   ·exact .inl (sg.free z)
   ·exact .inr z.2
  have fo:∀fo,fZ H P qI c' oc f fo f=some (.bz fo bF):=λfo=>by unfold fZ;rw [aq]
  have sG:∀fo,az G (upd (upd G c' (.bz oc bF)) f (.bz fo bF)):=λfo b u e=>by
   have CL:b≠f:=λz=>by rw [z,TN] at e;cases e
   rw [af CL]
   by_cases hb:b=c'
   ·subst hb;rw [aq];rcases TR with z|z
    ·rw [z] at e;cases e
    ·rw [z] at e;exact e
   ·rw [af hb];exact e
  have Qa:∀fo a,H a≠none->(∀vs,H a≠some (.tup vs))->G a=none->(upd (upd G c' (.bz oc bF)) f (.bz fo bF)) a=none:=λfo a h1 _ h2=>by
   have TF:a≠f:=λz=>h1 (by rw [z];exact hf)
   rw [af TF]
   by_cases ha:a=c'
   ·subst ha;rcases hc with z|z
    ·exact absurd z h1
    ·rw [z.2] at h2;cases h2
   ·rw [af ha];exact h2
  refine⟨.ref f,_,I',rfl,q f (upd (upd G c' (.bz oc bF)) f (.bz _ bF)) _ ⟨⟨sG _,λb u e=>?_,λb u e=>?_,Qa _,λ_ P' q' m=>?_⟩,c',oc,cQ,t,fy,(X.mg "__name__").getD .none,aq,by rw [af Cn,aq],hd,hv⟩⟩
  ·have CL:b≠f:=λz=>by rw [z,hf] at e;cases e
   by_cases Ku:b=P
   ·subst Ku;rw [hP] at e;cases e;obtain⟨m,rfl⟩:=more
    exact .inr ⟨lI,m,rfl,by unfold fZ;rw [af (Ne.symm SV),af (Ne.symm TU),aq]⟩
   ·have e2:fZ H P qI c' oc f (PySem.W.kla_obj "<lambda>" (X.env.qual++"<lambda>") params body scope cl ((X.mg "__name__").getD .none) c' fy) b=H b:=by
     unfold fZ;rw [af CL]
     by_cases hb:b=c'
     ·subst hb;rw [aq];rcases hc with z|z
      ·rw [z] at e;cases e
      ·rw [z.1]
     ·rw [af hb,af Ku]
    rw [e2];exact iu.refl H b u e
  ·by_cases CL:b=f
   ·subst CL;rw [aq] at e;rw [fo];exact e
   ·rw [af CL] at e;unfold fZ;rw [af CL]
    by_cases hb:b=c'
    ·subst hb;rw [aq] at e⊢;exact e
    ·rw [af hb] at e⊢;have Ku:b≠P:=λz=>by rw [z,nG] at e;cases e
     rw [af Ku];exact sg _ _ e
  ·obtain⟨n1,qs,Cg,tr1,al1⟩:=tb P' q' m
   have PC:P'≠f:=λz=>by rw [z,hf] at Cg;cases Cg
   have iK:P'≠c':=λz=>by
    rcases hc with y|y
    ·rw [z,y] at Cg;cases Cg
    ·rw [z,y.1] at Cg;cases Cg
   refine⟨by rw [af PC,af iK];exact n1,?_⟩
   by_cases hPP:P'=P
   ·subst hPP;rw [hP] at Cg;cases Cg;refine⟨qI,by unfold fZ;rw [af PC,af iK,aq],Tp,λpos' cv y=>?_⟩
    rcases Ub pos' cv y with y|y
    ·obtain⟨c2,oc2,cvs2,t2,e1,e2,e3,e4⟩:=al1 pos' cv y
     exact⟨c2,oc2,cvs2,t2,e1,sG _ _ _ e2,e3,e4⟩
    ·exact⟨c',oc,cQ,t,y,by rw [af Cn,aq],hd,by rw [huq q' m];exact hv⟩
   ·refine⟨qs,by unfold fZ;rw [af PC,af iK,af hPP];exact Cg,tr1,λpos' cv y=>?_⟩
    obtain⟨c2,oc2,cvs2,t2,e1,e2,e3,e4⟩:=al1 pos' cv y
    exact⟨c2,oc2,cvs2,t2,e1,sG _ _ _ e2,e3,e4⟩
structure A5(N:List Str)(sc:Scope)(g:Str)(idx aU:List Nat)(params:Arguments)(body:Expr)(scope:Scope):Prop where
 lb:Fp g idx params body scope=true
 cn:aU.map (λi=>N[i]?)=(bf scope).map some
 cc:∀y∈bf scope,sc.names.lookup y=some .cell
noncomputable def Ni(X:Cx)(W:Wd)(F:bb)(N:List Str)(sc:Scope)(g:Str)(idx aU:List Nat)(es:Es):TA:=λσ H Q=>∃H0 G env,SR W H0 env σ G H/\Out X W (cB F es env) σ G H λas=>∀vs G1 H1,aB W G H G1 H1->aj W G1 as vs->∀params body scope f G2 H2,A5 N sc g idx aU params body scope->qd X W params body scope (bE X.env (bf scope)) G1 H1 G2 H2 f->Q (vs++[.ref f]) H2
def Aq(C:dF Γ F W N sc k X)(ok:X.Ok){g:Str}{idx aU:List Nat}{params:Arguments}{body:Expr}{scope:Scope}(a:A5 N sc g idx aU params body scope):closureFor scope X.env=pure (bE X.env (bf scope)):=by
 refine iw λy hy hf=>ok.has y.1 (.inl ?_)
 show X.env.scope.names.lookup y.1=_
 rw [C.eP];refine a.cc y.1 ?_;unfold bf;rw [List.mem_reverse,zzx];exact⟨y,List.mem_filter.mpr ⟨hy,by rw [hf];rfl⟩,rfl⟩
def Fj(C:dF Γ F W N sc k X)(hl:Γ.hl=true){g:Str}{idx aU:List Nat}{params:Arguments}{body:Expr}{scope:Scope}{pos:Pos}(a:A5 N sc g idx aU params body scope):PA X [.Lambda params body scope pos] (Ni X W F N sc g idx aU .nil):=by
 obtain⟨ps,_,_,_,_,e1,_⟩:=wo a.lb
 intro pos' aa s σ H Q I h;refine bS (BE C hl e1 (Aq C I.ok a)) dc rfl pos' aa s σ H Q I ?_;obtain⟨H0,G,env,sr,o⟩:=h
 rw [cB] at o;refine⟨G,sr.sub,sr.tab,λf G2 H2 m=>?_⟩
 exact o [] G H (.refl sr.sub) .nil params body scope f G2 H2 a m
theorem BW{g:Str}{idx aU:List Nat}{e:E}{es:Es}{p:Expr}{ps:List Expr}(Bb:gP (.cons e es)=true)(he:GE X W F e p)(hs:PA X ps (Ni X W F N sc g idx aU es))(d7:starEach (p::ps) X.env=(false,eval p X.env)::starEach ps X.env):PA X (p::ps) (Ni X W F N sc g idx aU (.cons e es)):=
 L2.PA.imp (bS he hs d7) λσ H Q h=>by
  obtain⟨H0,G,env,sr,o⟩:=h
  rw [cB] at o;unfold gP at Bb;rw [zza] at Bb;refine one sr o λq v G1 H1 g1 t1 bR o1=>⟨H0,G1,env,bR,o1.bind.imp λas ha vs G2 H2 g2 l=>?_⟩
  intro params body scope f G3 H3 la lm;have:=ha (v::vs) G2 H2 (g1.trans g2) (.cons (Rep.same g2.g q (t1.rep Bb.1)) l) params body scope f G3 H3 la lm
  simpa using this
def lookup_all{Z:List (Addr×Obj)}{h:Heap}(ha:∀q∈Z,h.get? q.1=some q.2):∀{c:Addr} {o:Obj},(c,o)∈Z->Z.lookup c=some o:=by
 induction Z with
 |nil=>intro c o m;cases m
 |cons q Z ih=>
  intro c o m;obtain⟨c1,o1⟩:=q
  rw [zz5];cases e:c==c1 with
  |true=>
   have e2:=zzy.mp e
   subst e2;have h1:=ha (c,o1) zzP
   have h2:h.get? c=some o:=ha (c,o) m
   rw [h1] at h2;exact h2
  |false=>
   rcases zzm.mp m with z|z
   ·cases z;simp at e
   ·exact ih (λq hq=>ha q (zzI _ hq)) z
theorem rQ{H0 G H:Hp}{env:Sl}{σ:St}(sr:SR W H0 env σ G H):∀{aU:List Nat} {cs:List PV},jZ env aU=.ok cs->∃ws:List V,aj W G cs ws/\ws.length=aU.length/\∀(j:Nat) (i:Nat),aU[j]?=some i->∃v,ws[j]?=some v/\σ[i]?=some (some v)
 |[],cs,h=>by
  unfold jZ at h;cases h;exact⟨[],.nil,rfl,λj i e=>by simp at e⟩
 |i::aU,cs,h=>by
  unfold jZ at h;obtain⟨p,hp,h⟩:=Res.aR h
  obtain⟨ps,kQ,h⟩:=Res.aR h
  cases h;have hs:env[i]?=some (.val p):=by
   cases e:env[i]? with
   |none=>rw [e] at hp;cases hp
   |some s=>rw [e] at hp;cases s<;>cases hp;rfl
  obtain⟨o,h1,v,rfl,rv⟩:=sr.slot i _ hs
  obtain⟨ws,l1,l2,l3⟩:=rQ sr kQ
  refine⟨v::ws,.cons rv l1,by simp [l2],λj k e=>?_⟩
  cases j with
  |zero=>simp at e;subst e;exact⟨v,rfl,h1⟩
  |succ j=>simpa using l3 j k (by simpa using e)
theorem mY{env:Sl}(c:Str):∀{aU:List Nat},jZ env aU≠.exc c
 |[]=>λz=>nomatch z
 |i::aU=>λz=>by
  unfold jZ at z;rcases Res.dq z with z|⟨p,_,z⟩
  ·cases e:env[i]? with
   |none=>rw [e] at z;cases z
   |some s=>rw [e] at z;cases s<;>cases z
  ·rcases Res.dq z with z|⟨ps,_,z⟩
   ·exact mY c z
   ·cases z
def yC(C:dF Γ F W N sc k X)(hl:Γ.hl=true){q:Hs}{aU:List Nat}{fa:Addr}{fd:FuncData}{pn:List Str}(FO:gf X.prog X.w X.K X.mg X.base (dI X.prog X.w) k fa fd pn (yU W F q.f pn.length (some (q.g,q.idx))))(hb:Binds X.K fd pn []){aa:List (Addr×Obj)}{σ:St}{H0 G H:Hp}{env:Sl}{s:Shared}{Q:VK}{us:List Value}{vs:List V}{as cs:List PV}{params:Arguments}{body:Expr}{scope:Scope}{f c':Addr}{oc:Obj}{cQ:Array Value}{t:Tok}{fy pm:Value}
 (I:Inv X aa σ H s) (sr:SR W H0 env σ G H) (a:A5 N sc q.g q.idx aU params body scope) (Pp:jZ env aU=.ok cs) (l:aj W G as vs) (fo:G f=some (.bz (PySem.W.kla_obj "<lambda>" (X.env.qual++"<lambda>") params body scope (bE X.env (bf scope)) pm c' fy) bF)) (co:G c'=some (.bz oc bF)) (cd:oc.data=.fields cQ) (cn:cQ[1]?=some (.str (X.env.qual++"<lambda>") t))
 (hlen:(vs++[V.ref f]).length=pn.length) (r:Vals (vs++[.ref f]) us) (o:Out X W (F q.f (as++cs)) σ G H λp=>cZ W G H p Q):wpAny (model X.prog X.w) X.A (call (.ref fa) us) (EP X aa σ Q) X.xe s:=by
 have Bs:F q.f (as++cs)≠.bad:=λz=>by rw [z] at o;exact o
 obtain⟨ws,rws,lws,pws⟩:=rQ sr Pp
 have dX:∀y∈bf scope,∃c,X.env.cells.lookup y=some c:=λy hy=>I.ok.has y (.inl (by show X.env.scope.names.lookup y=_;rw [C.eP];exact a.cc y hy))
 have call:((bf scope).all λy=>(X.env.cells.lookup y).isSome)=true:=zzT.mpr λy hy=>by obtain⟨c,e⟩:=dX y hy;rw [e];rfl
 let Z:List (Addr×Obj):=(bf scope).filterMap λy=>(X.env.cells.lookup y).bind λc=>(s.heap.get? c).map λo=>(c,o)
 have Lb:∀q∈Z,∃y,y∈bf scope/\X.env.cells.lookup y=some q.1/\s.heap.get? q.1=some q.2:=λq hq=>by
  obtain⟨y,hy,e⟩:=zz1.mp hq
  obtain⟨c,hc,e⟩:=zzZ.mp e
  obtain⟨o,ho,rfl⟩:=zzJ.mp e
  exact⟨y,hy,hc,ho⟩
 have P8:∀q∈Z,s.heap.get? q.1=some q.2:=λq hq=>let⟨_,_,_,h⟩:=Lb q hq;h
 have SE:∀y c o,y∈bf scope->X.env.cells.lookup y=some c->s.heap.get? c=some o->Z.lookup c=some o:=λy c o hy hc ho=>lookup_all P8 (zz1.mpr ⟨y,hy,by rw [hc];show(s.heap.get? c).map _=_;rw [ho];rfl⟩)
 have Mu:∀b o,Z.lookup b=some o->∃y,y∈bf scope/\X.env.cells.lookup y=some b/\s.heap.get? b=some o:=λb o e=>by
  obtain⟨y,h1,h2,h3⟩:=Lb (b,o) (PySem.W.mem_of_lookupK e)
  exact⟨y,h1,h2,h3⟩
 have zc:∀b o,Z.lookup b=some o->∃v,o.data=.cell v:=λb o e=>by
  obtain⟨y,_,h2,h3⟩:=Mu b o e
  obtain⟨v,o',h4,h5⟩:=I.cell y b h2
  rw [h3] at h4;cases h4;exact⟨v,h5⟩
 have Mk:∀b o,Z.lookup b=some o->H b=none:=λb o e=>by obtain⟨y,_,h2,_⟩:=Mu b o e;exact I.gY y b h2
 have Rq:∀b o,Z.lookup b=some o->G b=none:=λb o e=>sr.sub.free (Mk b o e)
 have rb:∀b u,G b=some u->Z.lookup b=none:=λb u e=>by
  cases y:Z.lookup b with
  |none=>rfl
  |some o=>rw [Rq b o y] at e;cases e
 have Ng:∀x c,(bE X.env (bf scope)).lookup x=some c->X.env.cells.lookup x=some c:=d9 call
 have QH:∀x c,(bE X.env (bf scope)).lookup x=some c->x∈bf scope:=λx c e=>by
  have:=PySem.mem_of_lookup e
  unfold bE at this;obtain⟨y,hy,e2⟩:=zzx.mp this
  cases e2;exact hy
 have RB:∀b o,Z.lookup b=some o->X.s₀.heap.objs.size<=b:=λb o e=>by
  obtain⟨y,_,h2,_⟩:=Mu b o e
  exact I.ok.KZ y b (C.fl hl y) h2
 have Ea:uY Z H (eA X.stack) s.heap:=⟨λb o e=>let⟨_,_,_,h⟩:=Mu b o e;h,Mk,λb o e Qy=>by
  obtain⟨y,_,h2,h3⟩:=Mu b o e
  rcases zzm.mp (I.ij b Qy) with z|z
  ·exact I.Fi y b h2 z
  ·obtain⟨_,o',h4,_⟩:=I.ok.gq.mem z
   exact absurd (zzO h4) (Nat.not_lt.mpr (RB b o e))⟩
 have zb:∀b o,Z.lookup b=some o->X.base.get? b=none:=λb o e=>by
  cases y:X.base.get? b with
  |none=>rfl
  |some o'=>exact absurd (zzO (I.ok.bs b o' y).1) (Nat.not_lt.mpr (RB b o e))
 have UA:(bf scope).length=aU.length:=by have:=congrArg List.length a.cn;simpa using this.symm
 have cr:ql W (aM Z G) q.g q.idx cs (.ref f):=by
  refine⟨f,c',oc,cQ,t,fy,pm,params,body,scope,_,bE X.env (bf scope),Z,ws,rfl,⟨a.lb,by rw [ai (rb f _ fo)];exact fo,by rw [ai (rb c' _ co)];exact co,cd,cn,rb f _ fo,rb c' _ co,λx y c h1 h2=>I.ok.inj x y c (Ng x c h1) (Ng y c h2),λy hy=>iN hy,λx c h=>?_,λb o e=>aZ e,zc,λi y c h1 h2 v h3=>?_,by rw [lws,UA],by rw [tm Rq];exact rws⟩⟩
  ·obtain⟨v,o,h1,h2⟩:=I.cell x c (Ng x c h)
   exact⟨o,v,SE x c o (QH x c h) (Ng x c h) h1,h2⟩
  ·have hi:i<aU.length:=by rw [<-lws];exact(zzH.mp h3).1
   obtain⟨v',q1,q2⟩:=pws i aU[i] (zzg hi)
   rw [h3] at q1;cases q1;have Ux:X.N[aU[i]]?=some y:=by
    rw [C.hN];have:=congrArg (λl=>l[i]?) a.cn
    simp! [zzQ,h1,zzg hi,Option.map_some] at this;exact zzq this
   obtain⟨m,_,hloc⟩:=I.loc
   obtain⟨u,ru,lk⟩:=hloc aU[i] y v Ux q2 (.inr (.inl (by rw [C.eP];exact a.cc y (zzD h1))))
   have RF:=Ng y c h2
   rcases lk with⟨z,_⟩|⟨_,c2,hc2,o,ho,hd⟩
   ·have z2:X.env.scope.names.lookup y=some .local:=z
    rw [C.eP,a.cc y (zzD h1)] at z2;cases z2
   ·rw [RF] at hc2;cases hc2;exact⟨u,o,ru,SE y c o (zzD h1) RF ho,hd⟩
 have Qc:us.length=pn.length:=by rw [<-r.length];exact hlen
 have m9:=hb s us I.tj (by rw [zz6];exact Qc)
 rw [zz6] at m9;have UE:aj W (aM Z G) as vs:=aj.same (λb u e=>by rw [ai (rb b u e)];exact e) as l
 have UO:∀G' H',aB W (aM Z G) (aM Z H) G' H'->∀b o,Z.lookup b=some o->G' b=some (.bz o bF):=λG' H' g b o e=>g.g _ _ (aZ e)
 refine wpAny_call (codeAny_mono (FO.run X.A X.stack s (aM Z H) ⟨us,[]⟩ us _ (λv H'=>Q v (aS Z H')) (λCv ao H'=>∃c,F q.f (as++cs)=.exc c/\XE W c G H Cv ao (aS Z H')) C.rm (I.yc.aM Ea zb) m9 r ⟨hlen,aM Z G,as++cs,yP sr.sub,rL sr.tab sr.sub Mk,⟨as,cs,vs,.ref f,rfl,rfl,UE,cr⟩,?_⟩) λrr s' hr=>?_)
 ·cases z:F q.f (as++cs) with
  |ok p=>
   rw [z] at o;exact λv G' H' g' rp=>o v _ _ (g'.lz sr.sub zc Mk) (Rep.less (UO G' H' g') p rp)
  |exc c=>
   intro Cv ao H' y;obtain⟨C4,a4,G4,y1,y2,y3,y4,y5⟩:=y
   exact⟨c,rfl,C4,a4,_,y1,y2,y3,y4,y5.lz sr.sub zc Mk⟩
  |bad=>exact absurd z Bs
 ·cases rr with
  |error e=>
   have hr:dI X.prog X.w X.stack H s (λCv ao H'=>∃c,F q.f (as++cs)=.exc c/\XE W c G H Cv ao H') e s':=dI.less Ea hr
   cases z:F q.f (as++cs) with
   |ok q=>
    obtain⟨a,C',t,vs,H',B,rfl,Fl⟩:=hr
    obtain⟨c,e1,_⟩:=Fl.ends
    rw [z] at e1;cases e1
   |exc c=>
    rw [z] at o;refine o aa G H s e s' I (.refl sr.sub) (Di.imp hr λC1 a H' y=>?_);obtain⟨c',e1,y⟩:=y
    rw [z] at e1;cases e1;exact y
   |bad=>exact absurd z Bs
  |ok fl=>
   cases fl with
   |ret u=>exact I.after (CE.less Ea hr)
   |next=>exact zzk hr
   |brk=>exact zzk hr
   |cont=>exact zzk hr
def Bk(C:dF Γ F W N sc k X)(hl:Γ.hl=true){q:Hs}(hq:q∈Γ.hs){aU:List Nat}{es:Es}{p:Expr}{ps:List Expr}{np pos:Pos}(hg:gR sc q.h=true)(ho:okN q.h=true)(hn:q.np=jc es+1)(ha:PA X (p::ps) (Ni X W F N sc q.g q.idx aU es))
 (d7:starEach (p::ps) X.env=(false,eval p X.env)::starEach ps X.env) (hpl:(backTo pos (starEach ps X.env)).any (·.1)=false):GE X W F (.oC q.f es q.g q.idx aU) (.Call (.Name q.h np) (p::ps) [] pos):=by
 intro aa s σ H Q I h;obtain⟨H0,G,env,sr,o⟩:=h
 rw [aD] at o;obtain⟨fa,fd,pn,FO,hm,hk,hb,hpn⟩:=(C.tJ q hq).ex
 refine wpAny_Call_Name_kw (gE I (ei C hg) hm ?_ (dy ho).1);refine PySem.W.callWith_K (h₀:=X.base) I.ok.mod.Mg hk (bP (ha pos aa s σ H (λvs H2=>∃G2 as cs wW params body scope f c' oc cQ t fy pm,vs=wW++[.ref f]/\as.length=jc es/\SR W H0 env σ G2 H2/\A5 N sc q.g q.idx aU params body scope/\jZ env aU=.ok cs/\aj W G2 as wW/\G2 f=some (.bz (PySem.W.kla_obj "<lambda>" (X.env.qual++"<lambda>") params body scope (bE X.env (bf scope)) pm c' fy) bF)/\G2 c'=some (.bz oc bF)/\oc.data=.fields cQ/\cQ[1]?=some (.str (X.env.qual++"<lambda>") t)/\Out X W (F q.f (as++cs)) σ G2 H2 λp=>cZ W G2 H2 p Q) I ?_) λus s1 ⟨vs,H1,I1,r,y⟩=>⟨I1.tj,?_⟩) d7 hpl
 ·refine⟨H0,G,env,sr,?_⟩;cases e1:cB F es env with
  |bad=>rw [e1] at o;exact o
  |exc c=>rw [e1] at o;exact o
  |ok as=>
   rw [e1] at o;have o:Out X W ((jZ env aU).bind λcs=>F q.f (as++cs)) σ G H _:=o
   cases e2:jZ env aU with
   |bad=>rw [e2] at o;exact o.elim
   |exc c=>exact absurd e2 (mY c)
   |ok cs=>
    rw [e2] at o;have o:Out X W (F q.f (as++cs)) σ G H _:=o
    intro vs G1 H1 g1 l params body scope f G2 H2 la lm;obtain⟨g2,c',oc,cQ,t,fy,pm,m1,m2,m3,m4⟩:=lm
    exact⟨G2,as,cs,vs,params,body,scope,f,c',oc,cQ,t,fy,pm,rfl,ja e1,(sr.grow g1).grow g2,la,rfl,aj.same g2.g as l,m1,m2,m3,m4,(o.grow (g1.trans g2)).imp λp hp v G' H' g' rp=>hp v G' H' ((g1.trans g2).trans g') (.of rp)⟩
 ·obtain⟨G2,as,cs,wW,params,body,scope,f,c',oc,cQ,t,fy,pm,rfl,hal,fM,la,hcs,l,m1,m2,m3,m4,o2⟩:=y
  exact yC C hl FO hb I1 fM la hcs l m1 m2 m3 m4 (by rw [zzM,l.length,hal,hpn,hn];rfl) r o2
end
end Ci
namespace St
open PySem
abbrev Jp(xs:List Nat):Prop:=xs.Pairwise (·<·)
theorem kT{xs:Array Nat}{j:Nat}(hr:Jp xs.toList):∀(fuel lo hi:Nat),hi-lo<=fuel->lo<=hi->hi<=xs.size->(∀i x,xs.toList[i]?=some x->i<lo->x<j)->(∀i x,xs.toList[i]?=some x->hi<=i->j<=x)->
 SetTable.below.go xs j fuel lo hi<=xs.size/\(∀i x,xs.toList[i]?=some x->i<SetTable.below.go xs j fuel lo hi->x<j)/\(∀i x,xs.toList[i]?=some x->SetTable.below.go xs j fuel lo hi<=i->j<=x)
 |0,lo,hi,h1,h2,h3,h4,h5=>by
  have:lo=hi:=by omega
  subst this;exact⟨h3,h4,h5⟩
 |fuel+1,lo,hi,h1,h2,h3,h4,h5=>by
  unfold SetTable.below.go
  by_cases hl:lo<hi
  ·rw [if_pos hl];have hm:(lo+hi)/2<xs.size:=by omega
   have e:xs.getD ((lo+hi)/2) j=xs[(lo+hi)/2]:=by simp [Array.getD,hm]
   have q:xs.toList[(lo+hi)/2]?=some xs[(lo+hi)/2]:=by simp [hm]
   have mono:∀i x k y,xs.toList[i]?=some x->xs.toList[k]?=some y->i<=k->x<=y:=λi x k y e1 e2 hle=>by
    rcases Nat.lt_or_ge i k with h|h
    ·obtain⟨a,b⟩:=zzH.1 e1
     obtain⟨c,d⟩:=zzH.1 e2
     have:=List.pairwise_iff_getElem.1 hr i k a c h
     omega
    ·have:i=k:=Nat.le_antisymm hle h
     subst this;rw [e1] at e2;cases e2;exact zzE _
   dsimp only
   by_cases hx:xs.getD ((lo+hi)/2) j<j
   ·rw [if_pos hx];rw [e] at hx;exact kT hr fuel _ _ (by omega) (by omega) h3 (λi x h hi=>zzV (mono _ _ _ _ h q (by omega)) hx) h5
   ·rw [if_neg hx];rw [e] at hx;exact kT hr fuel _ _ (by omega) (by omega) (by omega) h4 (λi x h hi=>zzU (by omega) (mono _ _ _ _ q h hi))
  ·rw [if_neg hl];have:lo=hi:=by omega
   subst this;exact⟨h3,h4,h5⟩
def mw{xs:Array Nat}(hr:Jp xs.toList)(j:Nat):SetTable.below xs j<=xs.size/\(∀i x,xs.toList[i]?=some x->i<SetTable.below xs j->x<j)/\(∀i x,xs.toList[i]?=some x->SetTable.below xs j<=i->j<=x):=by
 refine kT hr xs.size 0 xs.size (by omega) (by omega) (zzE _) (λi x _ h=>by omega) (λi x h hi=>?_);have:=(zzH.1 h).1
 rw [zzd] at this;omega
def below_at{xs:Array Nat}(hr:Jp xs.toList){i j:Nat}(h:xs.toList[i]?=some j):SetTable.below xs j=i:=by
 obtain⟨_,a,b⟩:=mw hr j
 rcases Nat.lt_trichotomy (SetTable.below xs j) i with z|z|z
 ·have hi:=(zzH.1 h).1
  have hb:SetTable.below xs j<xs.toList.length:=by omega
  have e:=zzg hb
  have h1:=b _ _ e (zzE _)
  have h2:=List.pairwise_iff_getElem.1 hr _ _ hb hi z
  have h3:=(zzH.1 h).2
  omega
 ·exact z
 ·have:=a _ _ h z
  omega
def yL{xs:Array Nat}{j:Nat}(h:j∉xs.toList):xs[SetTable.below xs j]?≠some j:=λz=>h (by
 rw [<-Array.getElem?_toList] at z;exact zzD z)
def om{t:SetTable}(hr:Jp t.place.toList){i j:Nat}(h:t.place.toList[i]?=some j):t.slot j=.live i:=by
 unfold SetTable.slot;rw [below_at hr h];have:(t.place[i]?==some j)=true:=by rw [<-Array.getElem?_toList,h];simp
 simp! [this,if_true]
def uU{t:SetTable}(hd:t.dummies=#[]){j:Nat}(h:j∉t.place.toList):t.slot j=.empty:=by
 unfold SetTable.slot;have h1:(t.place[SetTable.below t.place j]?==some j)=false:=beq_eq_false_iff_ne.mpr (yL h)
 have h2:SetTable.has t.dummies j=false:=by
  rw [hd];unfold SetTable.has;exact beq_eq_false_iff_ne.mpr (by simp)
 simp! [h1,h2,zze,if_false]
noncomputable def ps(mask:Nat)(h:Int):SetTable.Probe:={j:=SetTable.bits h%(mask+1),more:=SetTable.runEnd mask (SetTable.bits h%(mask+1))-SetTable.bits h%(mask+1),i:=SetTable.bits h%(mask+1),perturb:=SetTable.bits h,dummy:=none}
noncomputable def uW(mask:Nat)(p:SetTable.Probe):SetTable.Probe:=
 if p.more>0 then{p with j:=p.j+1,more:=p.more-1} else
 {p with j:=(SetTable.leap mask p.i p.perturb).1,more:=SetTable.runEnd mask (SetTable.leap mask p.i p.perturb).1-(SetTable.leap mask p.i p.perturb).1,i:=(SetTable.leap mask p.i p.perturb).1,perturb:=(SetTable.leap mask p.i p.perturb).2}
noncomputable def pr(mask:Nat)(h:Int):Nat->SetTable.Probe
 |0=>ps mask h
 |n+1=>uW mask (pr mask h n)
noncomputable abbrev sq(mask:Nat)(h:Int)(n:Nat):Nat:=(pr mask h n).j
theorem rB(mask:Nat)(h:Int):∀n,(pr mask h n).dummy=none
 |0=>rfl
 |n+1=>by
  show(uW mask (pr mask h n)).dummy=none
  unfold uW;split<;>exact rB mask h n
def CS{t:SetTable}{f:Nat->Int}{h:Int}{fuel n i:Nat}(hs:t.slot (sq t.mask h n)=.live i)(ff:f i≠h):SetTable.probe.go t f h (fuel+1) (pr t.mask h n)=SetTable.probe.go t f h fuel (pr t.mask h (n+1)):=by
 have e:(f i==h)=false:=beq_eq_false_iff_ne.mpr ff
 rw [SetTable.probe.go,hs];simp! [e,zze,if_false]
 rfl
def CT{t:SetTable}{f:Nat->Int}{h:Int}{fuel n i:Nat}(hs:t.slot (sq t.mask h n)=.live i)(he:f i=h):SetTable.probe.go t f h (fuel+1) (pr t.mask h n)=some (.candidate (sq t.mask h n) i (pr t.mask h (n+1))):=by
 have e:(f i==h)=true:=zzy.mpr he
 rw [SetTable.probe.go,hs];simp! [e,if_true]
 rfl
def zT{t:SetTable}{f:Nat->Int}{h:Int}{fuel n:Nat}(hs:t.slot (sq t.mask h n)=.empty):SetTable.probe.go t f h (fuel+1) (pr t.mask h n)=some (.empty (sq t.mask h n) none):=by
 rw [SetTable.probe.go,hs];simp! [rB]
theorem lU{t:SetTable}{f:Nat->Int}{h:Int}{N:Nat}(wN:∀m,m<N->∃i,t.slot (sq t.mask h m)=.live i)(Ej:t.slot (sq t.mask h N)=.empty):∀(d n fuel:Nat),N-n=d->n<=N->d<fuel->
 (∃m i,n<=m/\m<N/\t.slot (sq t.mask h m)=.live i/\f i=h/\(∀k i',n<=k->k<m->t.slot (sq t.mask h k)=.live i'->f i'≠h)/\SetTable.probe.go t f h fuel (pr t.mask h n)=some (.candidate (sq t.mask h m) i (pr t.mask h (m+1))))\/
 ((∀k i',n<=k->k<N->t.slot (sq t.mask h k)=.live i'->f i'≠h)/\SetTable.probe.go t f h fuel (pr t.mask h n)=some (.empty (sq t.mask h N) none))
 |0,n,fuel+1,hd,hn,_=>by
  have:n=N:=by omega
  subst this;exact .inr ⟨λk i' a b=>by omega,zT Ej⟩
 |d+1,n,fuel+1,hd,hn,hf=>by
  obtain⟨i,hi⟩:=wN n (by omega)
  by_cases he:f i=h
  ·exact .inl ⟨n,i,zzE _,by omega,hi,he,λk i' a b=>by omega,CT hi he⟩
  ·rw [CS hi he];have first:∀i',t.slot (sq t.mask h n)=.live i'->f i'≠h:=λi' q=>by
    rw [hi] at q;cases q;exact he
   rcases lU wN Ej d (n+1) fuel (by omega) (by omega) (by omega) with⟨m,i',a,b,c,e,g,r⟩|⟨g,r⟩
   ·refine .inl ⟨m,i',by omega,b,c,e,λk i2 p q s=>?_,r⟩
    by_cases hk:k=n
    ·subst hk;exact first i2 s
    ·exact g k i2 (by omega) q s
   ·refine .inr ⟨λk i2 p q s=>?_,r⟩
    by_cases hk:k=n
    ·subst hk;exact first i2 s
    ·exact g k i2 (by omega) q s
def rU{α:Type}(xs:Array α)(p:Nat)(x:α):(SetTable.insertAt xs p x).toList=xs.toList.take p++x::xs.toList.drop p:=by
 exact SetTable.toList_insertAt ..
def d8{α:Type} [DecidableEq α]{U ks:List α}(nd:ks.Nodup)(h:∀k∈ks,k∈U):ks.length<=U.length:=by
 induction ks generalizing U with
 |nil=>exact Nat.zero_le _
 |cons a ks ih=>
  obtain⟨n1,n2⟩:=List.nodup_cons.1 nd
  have ha:=h a (zzP ..)
  have:=ih (U:=U.erase a) n2 λk hk=>(List.mem_erase_of_ne (λz:k=a=>n1 (by rw [<-z];exact hk))).2 (h k (zzI _ hk))
  rw [List.length_erase_of_mem ha] at this;have:=List.length_pos_of_mem ha
  rw [zzL];omega
def least{P:Nat->Prop}{B:Nat}:(∃n,n<B/\P n)->∃N,N<B/\P N/\∀m,m<N->¬P m:=by
 induction B with
 |zero=>rintro ⟨n,h,_⟩;omega
 |succ B ih=>
  rintro ⟨n,h,hp⟩
  by_cases hx:∃n,n<B/\P n
  ·obtain⟨N,a,b,c⟩:=ih hx
   exact⟨N,by omega,b,c⟩
  ·have:n=B:=Classical.byContradiction λz=>hx ⟨n,by omega,hp⟩
   subst this;exact⟨n,by omega,hp,λm hm z=>hx ⟨m,hm,z⟩⟩
def LW(mask:Nat)(h:Int):Prop:=∀j,j<=mask->∃n,n<10*SetTable.turns mask/\sq mask h n=j
structure m7(t:SetTable)(es:List (Int×Value)):Prop where
 FV:Jp t.place.toList
 le:∀j∈t.place.toList,j<=t.mask
 MW:t.dummies=#[]
 len:t.place.toList.length=es.length
 path:∀(i j:Nat) (e:Int×Value),t.place.toList[i]?=some j->es[i]?=some e->∃n,sq t.mask e.1 n=j/\∀m,m<n->sq t.mask e.1 m∈t.place.toList
def m7.live{t:SetTable}{es:List (Int×Value)}(ok:m7 t es){j:Nat}(h:j∈t.place.toList):∃i e,t.place.toList[i]?=some j/\es[i]?=some e/\t.slot j=.live i:=by
 obtain⟨i,hi,e⟩:=List.mem_iff_getElem.1 h
 have e1:t.place.toList[i]?=some j:=by rw [zzg hi,e]
 exact⟨i,es[i]'(by rw [<-ok.len];exact hi),e1,zzg (by rw [<-ok.len];exact hi),om ok.FV e1⟩
def m7.free{t:SetTable}{es:List (Int×Value)}(ok:m7 t es){h:Int}(c:LW t.mask h)(hl:es.length<=t.mask):∃N,N<10*SetTable.turns t.mask/\sq t.mask h N∉t.place.toList/\∀m,m<N->sq t.mask h m∈t.place.toList:=by
 have:∃j,j<=t.mask/\j∉t.place.toList:=Classical.byContradiction λz=>by
  have:=d8 (U:=t.place.toList) (ks:=List.range (t.mask+1)) List.nodup_range λk hk=>Classical.byContradiction λy=>z ⟨k,by have:=List.mem_range.1 hk;omega,y⟩
  rw [List.length_range,ok.len] at this;omega
 obtain⟨j,h1,h2⟩:=this
 obtain⟨n,h3,h4⟩:=c j h1
 obtain⟨N,a,b,d⟩:=least (P:=λn=>sq t.mask h n∉t.place.toList) ⟨n,h3,by rw [h4];exact h2⟩
 exact⟨N,a,b,λm hm=>Classical.byContradiction λz=>d m hm z⟩
def GQ{mask:Nat}{p:SetTable.Probe}(h1:p.j+p.more<=mask)(h2:p.i<=mask):(uW mask p).j+(uW mask p).more<=mask/\(uW mask p).i<=mask:=by
 unfold uW;split
 ·exact⟨by dsimp only;omega,h2⟩
 ·have hl:(SetTable.leap mask p.i p.perturb).1<=mask:=by
   unfold SetTable.leap;exact Nat.le_of_lt_succ (Nat.mod_lt _ (Nat.succ_pos _))
  refine⟨?_,hl⟩;dsimp only;unfold SetTable.runEnd;split<;>omega
theorem zO(mask:Nat)(h:Int):∀n,(pr mask h n).j+(pr mask h n).more<=mask/\(pr mask h n).i<=mask
 |0=>by
  have hl:SetTable.bits h%(mask+1)<=mask:=Nat.le_of_lt_succ (Nat.mod_lt _ (Nat.succ_pos _))
  refine⟨?_,hl⟩;show SetTable.bits h%(mask+1)+(SetTable.runEnd mask (SetTable.bits h%(mask+1))-SetTable.bits h%(mask+1))<=mask;unfold SetTable.runEnd;split<;>omega
 |n+1=>GQ (zO mask h n).1 (zO mask h n).2
def Bw(mask:Nat)(h:Int)(n:Nat):sq mask h n<=mask:=zzU (Nat.le_add_right _ _) (zO mask h n).1
def get_ins{α:Type}(xs:List α)(p:Nat)(hp:p<=xs.length)(x:α)(i:Nat):(xs.take p++x::xs.drop p)[i]?=if i<p then xs[i]? else if i=p then some x else xs[i-1]?:=by
 split
 ·rename_i h;rw [zzr (by rw [List.length_take];omega),List.getElem?_take_of_lt h]
 ·rename_i h;rw [zzs (by rw [List.length_take];omega),List.length_take,Nat.min_eq_left hp];split
  ·rename_i e;subst e;simp
  ·rename_i e;obtain⟨k,hk⟩:∃k,i-p=k+1:=⟨i-p-1,by omega⟩
   rw [hk,List.getElem?_cons_succ,List.getElem?_drop]
   congr 1
   omega
def Hg{t:SetTable}{es:List (Int×Value)}(ok:m7 t es){h:Int}{x:Value}{n:Nat}(hj:sq t.mask h n∉t.place.toList)(hp:∀m,m<n->sq t.mask h m∈t.place.toList):
 ∃p,p=(t.put (sq t.mask h n)).2/\p<=es.length/\(t.put (sq t.mask h n)).1.mask=t.mask/\(t.put (sq t.mask h n)).1.led=t.led/\(t.put (sq t.mask h n)).1.plain=t.plain/\m7 (t.put (sq t.mask h n)).1 (es.take p++(h,x)::es.drop p):=by
 generalize hJ:sq t.mask h n=j at hj
 obtain⟨b1,b2,b3⟩:=mw ok.FV j
 have hpl:SetTable.below t.place j<=t.place.toList.length:=by rw [zzd];exact b1
 have pl:(t.put j).1.place.toList=t.place.toList.take (SetTable.below t.place j)++j::t.place.toList.drop (SetTable.below t.place j):=rU ..
 have mem:∀y,y∈(t.put j).1.place.toList↔y=j\/y∈t.place.toList:=λy=>by
  rw [pl,List.mem_append,zzm]
  constructor
  ·rintro (z|z|z)
   ·exact .inr (List.mem_of_mem_take z)
   ·exact .inl z
   ·exact .inr (List.mem_of_mem_drop z)
  ·rintro (z|z)
   ·exact .inr (.inl z)
   ·rw [<-List.take_append_drop (SetTable.below t.place j) t.place.toList,List.mem_append] at z;rcases z with z|z
    ·exact .inl z
    ·exact .inr (.inr z)
 refine⟨SetTable.below t.place j,rfl,by rw [<-ok.len];exact hpl,rfl,rfl,rfl,?_,λy hy=>?_,?_,?_,λi jj e h1 h2=>?_⟩
 ·rw [pl];refine List.pairwise_append.2 ⟨ok.FV.sublist (List.take_sublist ..),List.pairwise_cons.2 ⟨λy hy=>?_,ok.FV.sublist (List.drop_sublist ..)⟩,λa ha b hb=>?_⟩
  ·obtain⟨k,hk⟩:=List.mem_iff_getElem?.1 hy
   rw [List.getElem?_drop] at hk;have:=b3 _ _ hk (by omega)
   exact Nat.lt_of_le_of_ne this λz=>hj (by rw [z];exact zzD hk)
  ·obtain⟨k,hk⟩:=List.mem_iff_getElem?.1 ha
   have Ic:k<SetTable.below t.place j:=by
    have:=(zzH.1 hk).1
    rw [List.length_take] at this;omega
   rw [List.getElem?_take_of_lt Ic] at hk;have h1:=b2 _ _ hk Ic
   rcases zzm.1 hb with rfl|hb
   ·exact h1
   ·obtain⟨l,hl⟩:=List.mem_iff_getElem?.1 hb
    rw [List.getElem?_drop] at hl;have:=b3 _ _ hl (by omega)
    exact zzW h1 this
 ·rcases(mem y).1 hy with rfl|z
  ·rw [<-hJ];exact Bw ..
  ·exact ok.le y z
 ·show(if SetTable.has t.dummies j then SetTable.eraseAt t.dummies (SetTable.below t.dummies j) else t.dummies)=#[]
  have h2:SetTable.has t.dummies j=false:=by
   rw [ok.MW];unfold SetTable.has;exact beq_eq_false_iff_ne.mpr (by simp)
  rw [h2,if_neg zzf];exact ok.MW
 ·rw [pl];have:=ok.len
  simp! [zzM,zzL,List.length_take,List.length_drop];omega
 ·show∃n,sq t.mask e.1 n=jj/\_
  rw [pl,get_ins _ _ hpl] at h1;rw [get_ins _ _ (by rw [<-ok.len];exact hpl)] at h2;split at h1
  ·rename_i hi;rw [if_pos hi] at h2;obtain⟨k,a,b⟩:=ok.path _ _ _ h1 h2
   exact⟨k,a,λm hm=>(mem _).2 (.inr (b m hm))⟩
  ·rename_i hi;rw [if_neg hi] at h2;split at h1
   ·rename_i EC;rw [if_pos EC] at h2;cases h1;cases h2;exact⟨n,hJ,λm hm=>(mem _).2 (.inr (hp m hm))⟩
   ·rename_i EC;rw [if_neg EC] at h2;obtain⟨k,a,b⟩:=ok.path _ _ _ h1 h2
    exact⟨k,a,λm hm=>(mem _).2 (.inr (b m hm))⟩
def HY(f m:Nat)(l:Bool):m7 (SetTable.fresh f m l) []:=⟨.nil,(λj h=>by cases h),rfl,rfl,λi j e h=>by cases h⟩
def Am{α:Type}(es:List α)(p:Nat)(x:α):(es.take p++x::es.drop p).Perm (x::es):=by
 have:=List.perm_middle (a:=x) (l₁:=es.take p) (l₂:=es.drop p)
 rwa [List.take_append_drop] at this
noncomputable def ws(mask:Nat)(h:Int):Nat->Nat×Nat
 |0=>(SetTable.bits h%(mask+1),SetTable.bits h)
 |w+1=>SetTable.leap mask (ws mask h w).1 (ws mask h w).2
def xw(mask:Nat)(h:Int):Prop:=∀j,j<=mask->∃w,w<SetTable.turns mask/\(ws mask h w).1<=j/\j<=SetTable.runEnd mask (ws mask h w).1
def nN(mask i:Nat):i<=SetTable.runEnd mask i:=by
 unfold SetTable.runEnd;split<;>omega
structure HH(mask:Nat)(h:Int)(n i perturb:Nat):Prop where
 jj:(pr mask h n).j=i
 ii:(pr mask h n).i=i
 pe:(pr mask h n).perturb=perturb
 mo:(pr mask h n).more=SetTable.runEnd mask i-i
def OA(mask:Nat)(h:Int):HH mask h 0 (ws mask h 0).1 (ws mask h 0).2:=⟨rfl,rfl,rfl,rfl⟩
theorem HH.in{mask:Nat}{h:Int}{n i perturb:Nat}(b:HH mask h n i perturb):∀k,k<=SetTable.runEnd mask i-i->(pr mask h (n+k)).j=i+k/\(pr mask h (n+k)).i=i/\(pr mask h (n+k)).perturb=perturb/\(pr mask h (n+k)).more=SetTable.runEnd mask i-i-k
 |0,_=>⟨b.jj,b.ii,b.pe,b.mo⟩
 |k+1,hk=>by
  obtain⟨a1,a2,a3,a4⟩:=b.in k (by omega)
  have hm:(pr mask h (n+k)).more>0:=by omega
  show(uW mask (pr mask h (n+k))).j=_/\(uW mask (pr mask h (n+k))).i=_/\(uW mask (pr mask h (n+k))).perturb=_/\(uW mask (pr mask h (n+k))).more=_
  unfold uW;rw [if_pos hm];exact⟨by dsimp only;omega,a2,a3,by dsimp only;omega⟩
def HH.next{mask:Nat}{h:Int}{n i perturb:Nat}(b:HH mask h n i perturb):HH mask h (n+(SetTable.runEnd mask i-i)+1) (SetTable.leap mask i perturb).1 (SetTable.leap mask i perturb).2:=by
 obtain⟨a1,a2,a3,a4⟩:=b.in _ (zzE _)
 have hm:¬(pr mask h (n+(SetTable.runEnd mask i-i))).more>0:=by omega
 have e:pr mask h (n+(SetTable.runEnd mask i-i)+1)={pr mask h (n+(SetTable.runEnd mask i-i)) with j:=(SetTable.leap mask i perturb).1,more:=SetTable.runEnd mask (SetTable.leap mask i perturb).1-(SetTable.leap mask i perturb).1,i:=(SetTable.leap mask i perturb).1,perturb:=(SetTable.leap mask i perturb).2}:=by
  show uW mask (pr mask h (n+(SetTable.runEnd mask i-i)))=_
  unfold uW;rw [if_neg hm,a2,a3]
 exact⟨by rw [e],by rw [e],by rw [e],by rw [e]⟩
theorem n9{mask:Nat}{h:Int}{owner:Array (Option Nat)}:∀(fuel n i perturb j:Nat),HH mask h n i perturb->SetTable.layClean.free mask owner fuel i perturb=some j->∃m,n<=m/\sq mask h m=j/\(owner.getD j (some 0)).isNone=true/\∀k,n<=k->k<m->(owner.getD (sq mask h k) (some 0)).isNone=false
 |0,_,_,_,_,_,h=>by cases h
 |fuel+1,n,i,perturb,j,b,h=>by
  rw [SetTable.layClean.free] at h;cases hf:(List.range (SetTable.runEnd mask i+1-i)).find? λk=>(owner.getD (i+k) (some 0)).isNone with
  |some k=>
   rw [hf] at h;cases h;obtain⟨h1,h2,h3⟩:=List.find?_range_eq_some.1 hf
   have hk:k<=SetTable.runEnd mask i-i:=by
    have:=List.mem_range.1 h2
    have:=nN mask i
    omega
   refine⟨n+k,by omega,(b.in k hk).1,h1,λm a c=>?_⟩
   obtain⟨d,rfl⟩:=Nat.exists_eq_add_of_le a
   show(owner.getD (pr mask _ (n+d)).j (some 0)).isNone=false
   rw [(b.in d (by omega)).1];have:=h3 d (by omega)
   simpa using this
  |none=>
   rw [hf] at h;obtain⟨m,a,c,d,e⟩:=n9 fuel _ _ _ j b.next h
   have hn:=List.find?_range_eq_none.1 hf
   refine⟨m,by omega,c,d,λk x y=>?_⟩
   by_cases hk:k<=n+(SetTable.runEnd mask i-i)
   ·obtain⟨q,rfl⟩:=Nat.exists_eq_add_of_le x
    show(owner.getD (pr mask _ (n+q)).j (some 0)).isNone=false
    rw [(b.in q (by omega)).1];have:=nN mask i
    have:=hn q (by omega)
    simpa using this
   ·exact e k (by omega) y
theorem oG{mask:Nat}{h:Int}{owner:Array (Option Nat)}:∀(fuel w:Nat),SetTable.layClean.free mask owner fuel (ws mask h w).1 (ws mask h w).2=none->∀v,w<=v->v<w+fuel->∀j,(ws mask h v).1<=j->j<=SetTable.runEnd mask (ws mask h v).1->(owner.getD j (some 0)).isNone=false
 |0,w,_,v,a,b,_,_,_=>by omega
 |fuel+1,w,h0,v,a,b,j,c,d=>by
  rw [SetTable.layClean.free] at h0;cases hf:(List.range (SetTable.runEnd mask (ws mask h w).1+1-(ws mask h w).1)).find? λk=>(owner.getD ((ws mask h w).1+k) (some 0)).isNone with
  |some k=>rw [hf] at h0;cases h0
  |none=>
   rw [hf] at h0
   by_cases hv:v=w
   ·subst hv;have hn:=List.find?_range_eq_none.1 hf (j-(ws mask h v).1) (by omega)
    rw [show(ws mask h v).1+(j-(ws mask h v).1)=j by omega] at hn
    simpa using hn
   ·exact oG fuel (w+1) h0 v (by omega) (by omega) j c d
structure B4(mask:Nat)(hs:List Int)(js:List Nat)(owner:Array (Option Nat)):Prop where
 size:owner.size=mask+1
 len:js.length=hs.length
 at_:∀(k j:Nat),js[k]?=some j->owner[j]?=some (some k)
 of:∀(j k:Nat),owner[j]?=some (some k)->js[k]?=some j
 path:∀(k j:Nat) (h:Int),js[k]?=some j->hs[k]?=some h->∃n,sq mask h n=j/\∀m,m<n->sq mask h m∈js
def B4.Qg{mask:Nat}{hs:List Int}{js:List Nat}{owner:Array (Option Nat)}(l:B4 mask hs js owner){j:Nat}(hj:j<=mask):(owner.getD j (some 0)).isNone=false↔j∈js:=by
 have tH:j<owner.size:=by rw [l.size];omega
 have e:owner.getD j (some 0)=owner[j]:=by simp [Array.getD,tH]
 have e2:owner[j]?=some owner[j]:=by simp [tH]
 rw [e]
 constructor
 ·intro z;cases hx:owner[j] with
  |none=>rw [hx] at z;cases z
  |some k=>
   rw [hx] at e2;exact zzD (l.of j k e2)
 ·intro z;obtain⟨k,hk⟩:=List.mem_iff_getElem?.1 z
  have:=l.at_ k j hk
  rw [e2] at this;rw [zzq this]
  rfl
def B4.step{mask:Nat}{hs:List Int}{js:List Nat}{owner:Array (Option Nat)}(l:B4 mask hs js owner){h:Int}(c:xw mask h)(hl:hs.length<=mask):∃j,SetTable.layClean.free mask owner (SetTable.turns mask) (SetTable.bits h%(mask+1)) (SetTable.bits h)=some j/\B4 mask (hs++[h]) (js++[j]) (owner.setIfInBounds j (some hs.length)):=by
 have:∃j,j<=mask/\j∉js:=Classical.byContradiction λz=>by
  have:=d8 (U:=js) (ks:=List.range (mask+1)) List.nodup_range λk hk=>Classical.byContradiction λy=>z ⟨k,by have:=List.mem_range.1 hk;omega,y⟩
  rw [List.length_range,l.len] at this;omega
 obtain⟨j0,h1,h2⟩:=this
 cases hf:SetTable.layClean.free mask owner (SetTable.turns mask) (SetTable.bits h%(mask+1)) (SetTable.bits h) with
 |none=>
  obtain⟨w,a,b,d⟩:=c j0 h1
  exact absurd ((l.Qg h1).1 (oG (h:=h) (SetTable.turns mask) 0 hf w (Nat.zero_le _) (by omega) j0 b d)) h2
 |some j=>
  obtain⟨m,_,hm,hn,hp⟩:=n9 (h:=h) _ 0 _ _ j (OA mask h) hf
  have S9:j<=mask:=by rw [<-hm];exact Bw ..
  have hj:j∉js:=λz=>by
   have:=(l.Qg S9).2 z
   rw [hn] at this;cases this
  have Rl:j<owner.size:=by rw [l.size];omega
  refine⟨j,rfl,by rw [Array.size_setIfInBounds];exact l.size,by rw [zzM,zzM,l.len];rfl,λk i hk=>?_,λi k hk=>?_,λk i h' hk hh=>?_⟩
  ·by_cases Ic:k<js.length
   ·rw [zzr Ic] at hk;have ne:j≠i:=λz=>hj (by rw [z];exact zzD hk)
    rw [Array.getElem?_setIfInBounds_ne ne];exact l.at_ k i hk
   ·rw [zzs (by omega)] at hk;have N7:k-js.length=0:=by
     have:=(zzH.1 hk).1
     rw [List.length_singleton] at this;omega
    rw [N7] at hk;cases hk;have:k=hs.length:=by have:=l.len;omega
    rw [this];simp [Rl]
  ·by_cases vc:j=i
   ·subst vc;have:(owner.setIfInBounds j (some hs.length))[j]?=some (some hs.length):=by simp [Rl]
    rw [this] at hk;cases hk;rw [<-l.len];simp
   ·rw [Array.getElem?_setIfInBounds_ne vc] at hk;have:=l.of i k hk
    rw [zzr (zzH.1 this).1];exact this
  ·by_cases Ic:k<js.length
   ·rw [zzr Ic] at hk;rw [zzr (by rw [<-l.len];exact Ic)] at hh;obtain⟨n,x,y⟩:=l.path k i h' hk hh
    exact⟨n,x,λq hq=>zzc _ (y q hq)⟩
   ·rw [zzs (by omega)] at hk;rw [zzs (by rw [<-l.len];omega)] at hh;have N7:k-js.length=0:=by
     have:=(zzH.1 hk).1
     rw [List.length_singleton] at this;omega
    rw [N7] at hk;rw [<-l.len,N7] at hh;cases hk;cases hh;exact⟨m,hm,λq hq=>zzc _ ((l.Qg (Bw ..)).1 (hp q (Nat.zero_le _) hq))⟩
noncomputable def zo(mask:Nat)(acc:Option (Array (Option Nat)×Nat))(h:Int):Option (Array (Option Nat)×Nat):=do
 let(owner,k)<-acc
 let j<-SetTable.layClean.free mask owner (SetTable.turns mask) (SetTable.bits h%(mask+1)) (SetTable.bits h)
 pure (owner.setIfInBounds j (some k),k+1)
theorem qZ{mask:Nat}:∀(rest done:List Int) (js:List Nat) (owner:Array (Option Nat)),B4 mask done js owner->(∀h∈rest,xw mask h)->done.length+rest.length<=mask+1->∃OF qi,rest.foldl (zo mask) (some (owner,done.length))=some (qi,(done++rest).length)/\B4 mask (done++rest) OF qi
 |[],done,js,owner,l,_,_=>⟨js,owner,by simp,by rw [zz6];exact l⟩
 |h::rest,done,js,owner,l,hc,hl=>by
  rw [zzL] at hl;obtain⟨j,e,l1⟩:=l.step (hc h (zzP ..)) (by omega)
  obtain⟨OF,qi,e2,l2⟩:=qZ rest (done++[h]) _ _ l1 (λx hx=>hc x (zzI _ hx)) (by rw [zzM,List.length_singleton];omega)
  rw [List.append_assoc] at e2 l2;refine⟨OF,qi,?_,l2⟩;rw [List.foldl_cons];have:zo mask (some (owner,done.length)) h=some (owner.setIfInBounds j (some done.length),(done++[h]).length):=by
   unfold zo;simp! [Option.bind_eq_bind,Option.bind_some,e,zzM,List.length_singleton]
   rfl
  rw [this];exact e2
def qL{mask:Nat}(hs:Array Int)(hc:∀h∈hs.toList,xw mask h)(hl:hs.size<=mask+1):∃js owner,SetTable.layClean mask hs=some owner/\B4 mask hs.toList js owner:=by
 have l0:B4 mask [] [] (Array.replicate (mask+1) none):=⟨by simp,rfl,(λk j h=>by cases h),(λj k h=>by
  rw [Array.getElem?_replicate] at h;split at h<;>cases h),(λk j h a=>by cases a)⟩
 obtain⟨js,owner,e,l⟩:=qZ hs.toList [] [] _ l0 hc (by rw [List.length_nil,zzd];omega)
 rw [List.nil_append] at e l;refine⟨js,owner,?_,l⟩;unfold SetTable.layClean;have:hs.foldl (init:=some (Array.replicate (mask+1) none,0)) (zo mask)=some (owner,hs.toList.length):=by
  rw [<-Array.foldl_toList];exact e
 show Option.map (·.1) (hs.foldl (init:=some (Array.replicate (mask+1) none,0)) (zo mask))=_
 rw [this]
 rfl
noncomputable def lv(mask:Nat)(owner:Array (Option Nat)):List (Nat×Nat):=(List.range (mask+1)).filterMap λj=>(owner.getD j none).map (j,·)
def iq{mask:Nat}{hs:List Int}{js:List Nat}{owner:Array (Option Nat)}(l:B4 mask hs js owner){j k:Nat}:(j,k)∈lv mask owner↔js[k]?=some j:=by
 unfold lv;rw [zz1]
 constructor
 ·rintro ⟨x,hx,h⟩
  obtain⟨y,hy,e⟩:=zzJ.1 h
  obtain⟨rfl,rfl⟩:=Prod.mk.inj e
  have hl:=List.mem_range.1 hx
  have:owner[x]?=some (some y):=by
   have e:owner.getD x none=owner[x]'(by rw [l.size];exact hl):=by simp [Array.getD,l.size,hl]
   rw [e] at hy;rw [zz2 (by rw [l.size];exact hl),hy]
  exact l.of _ _ this
 ·intro h;have h1:=l.at_ _ _ h
  have hj:j<owner.size:=(Array.getElem?_eq_some_iff.1 h1).1
  refine⟨j,List.mem_range.2 (by rw [<-l.size];exact hj),?_⟩;have e:owner.getD j none=owner[j]:=by simp [Array.getD,hj]
  rw [e,(Array.getElem?_eq_some_iff.1 h1).2]
  rfl
def Bj(mask:Nat)(owner:Array (Option Nat)):((lv mask owner).map (·.1)).Sublist (List.range (mask+1)):=by
 unfold lv;generalize List.range (mask+1)=L
 induction L with
 |nil=>exact .slnil
 |cons a L ih=>
  rw [List.filterMap_cons];cases h:owner.getD a none with
  |none=>exact ih.cons _
  |some k=>exact ih.cons₂ _
def z9(mask:Nat)(owner:Array (Option Nat)):Jp ((lv mask owner).map (·.1)):=List.Pairwise.sublist (Bj mask owner) List.pairwise_lt_range
def Hn{mask:Nat}{hs:List Int}{js:List Nat}{owner:Array (Option Nat)}(l:B4 mask hs js owner):((lv mask owner).map (·.2)).Perm (List.range hs.length):=by
 have nd:((lv mask owner).map (·.2)).Nodup:=by
  refine List.pairwise_map.2 ?_;have h1:(lv mask owner).Pairwise λa b=>a.1<b.1:=List.pairwise_map.1 (z9 mask owner)
  refine List.Pairwise.imp_of_mem (λ{a b} ha hb bH z=>?_) h1;have e1:=(iq l).1 (show(a.1,a.2)∈lv mask owner from ha)
  have e2:=(iq l).1 (show(b.1,b.2)∈lv mask owner from hb)
  rw [z,e2] at e1;have:=zzq e1
  omega
 refine(List.perm_ext_iff_of_nodup nd List.nodup_range).2 λk=>?_
 rw [zzx,List.mem_range,<-l.len]
 constructor
 ·rintro ⟨⟨j,k'⟩,h,rfl⟩
  exact(zzH.1 ((iq l).1 h)).1
 ·exact λh=>⟨(js[k],k),(iq l).2 (zzg h),rfl⟩
theorem Bz{α β:Type}{f:α->Option β}{g:α->β}:∀{l:List α},(∀a∈l,f a=some (g a))->l.filterMap f=l.map g
 |[],_=>rfl
 |a::l,h=>by
  rw [List.filterMap_cons,h a (zzP ..),zzF,Bz λb hb=>h b (zzI _ hb)]
def Dk{mask finger moves:Nat}{led plain:Bool}(es:Array (Int×Value))(hc:∀e∈es.toList,xw mask e.1)(hl:es.size<=mask+1):∃t order,SetTable.laid mask finger moves led plain (es.map (·.1))=some (t,order)/\t.mask=mask/\t.led=led/\t.plain=plain/\(order.filterMap (es[·]?)).toList.Perm es.toList/\m7 t (order.filterMap (es[·]?)).toList:=by
 obtain⟨js,owner,e,l⟩:=qL (mask:=mask) (es.map (·.1)) (λh hh=>by
  rw [Array.toList_map] at hh;obtain⟨x,hx,rfl⟩:=zzx.1 hh
  exact hc x hx) (by rw [Array.size_map];exact hl)
 have hlen:(es.map (·.1)).toList.length=es.toList.length:=by rw [Array.toList_map,zzl]
 have sn:=Hn l
 rw [hlen] at sn;have lt:∀p∈lv mask owner,p.2<es.toList.length:=λp hp=>List.mem_range.1 (sn.subset (List.mem_map_of_mem hp))
 have E:((((lv mask owner).map (·.2)).toArray).filterMap (es[·]?)).toList=(lv mask owner).map λp=>(es.toList[p.2]?).getD (0,.none):=by
  rw [Array.toList_filterMap];show((lv mask owner).map (·.2)).filterMap (es[·]?)=_
  rw [List.filterMap_map];exact Bz λp hp=>by
   show es[p.2]?=some ((es.toList[p.2]?).getD (0,.none))
   rw [<-Array.getElem?_toList,zzg (lt p hp)]
   rfl
 refine⟨⟨mask,((lv mask owner).map (·.1)).toArray,#[],finger,led,moves,plain⟩,((lv mask owner).map (·.2)).toArray,?_,rfl,rfl,rfl,?_,?_⟩
 ·unfold SetTable.laid;rw [e]
  rfl
 ·rw [E];have:((lv mask owner).map λp=>(es.toList[p.2]?).getD (0,.none))=((lv mask owner).map (·.2)).map λk=>(es.toList[k]?).getD (0,.none):=by rw [List.map_map];rfl
  rw [this];refine(sn.map _).trans ?_;have:(List.range es.toList.length).map (λk=>(es.toList[k]?).getD (0,.none))=es.toList:=by
   refine List.ext_getElem (by simp) λi h1 h2=>?_
   rw [List.getElem_map,List.getElem_range,zzg h2]
   rfl
  rw [this]
 ·rw [E];have mem:∀j,j∈(lv mask owner).map (·.1)↔j∈js:=λj=>by
   rw [zzx]
   constructor
   ·rintro ⟨⟨j',k⟩,h,rfl⟩
    exact zzD ((iq l).1 h)
   ·intro h;obtain⟨k,hk⟩:=List.mem_iff_getElem?.1 h
    exact⟨(j,k),(iq l).2 hk,rfl⟩
  refine⟨z9 mask owner,λj hj=>?_,rfl,by show((lv mask owner).map (·.1)).length=_;rw [zzl,zzl],λi j x h1 h2=>?_⟩
  ·have:=List.mem_range.1 ((Bj mask owner).subset hj)
   show j<=mask
   omega
  ·replace h1:((lv mask owner).map (·.1))[i]?=some j:=h1
   rw [zzQ,zzJ] at h1 h2;obtain⟨p,hp,rfl⟩:=h1
   obtain⟨q,hq,rfl⟩:=h2
   rw [hp] at hq;cases hq;have hm:=(iq l).1 (show(p.1,p.2)∈lv mask owner from zzD hp)
   have bH:=lt p (zzD hp)
   have hh:(es.map (·.1)).toList[p.2]?=some ((es.toList[p.2]?).getD (0,.none)).1:=by
    rw [Array.toList_map,zzQ,zzg bH]
    rfl
   obtain⟨n,a,b⟩:=l.path _ _ _ hm hh
   exact⟨n,a,λm hm=>(mem _).2 (b m hm)⟩
noncomputable def seen(mask:Nat):Nat->SetTable.Probe->List Nat->List Nat
 |0,_,out=>out
 |n+1,p,out=>seen mask n (uW mask p) (if out.contains p.j then out else p.j::out)
theorem wV{mask:Nat}{h:Int}:∀(n k:Nat) (out:List Nat),(∀j∈out,∃m,m<k/\sq mask h m=j)->∀j∈seen mask n (pr mask h k) out,∃m,m<k+n/\sq mask h m=j
 |0,k,out,ho,j,hj=>by obtain⟨m,a,b⟩:=ho j hj;exact⟨m,by omega,b⟩
 |n+1,k,out,ho,j,hj=>by
  obtain⟨m,a,b⟩:=wV n (k+1) (if out.contains (pr mask h k).j then out else(pr mask h k).j::out) (λi hi=>by
   split at hi
   ·obtain⟨m,a,b⟩:=ho i hi
    exact⟨m,by omega,b⟩
   ·rcases zzm.1 hi with rfl|hi
    ·exact⟨k,by omega,rfl⟩
    ·obtain⟨m,a,b⟩:=ho i hi
     exact⟨m,by omega,b⟩) j hj
  exact⟨m,by omega,b⟩
noncomputable def HP(mask:Nat)(h:Int):Bool:=(List.range (mask+1)).all λj=>(seen mask (10*SetTable.turns mask) (ps mask h) []).contains j
theorem wc{mask:Nat}{h:Int}(c:HP mask h=true):LW mask h:=λj hj=>by
 have:=zzT.1 c j (List.mem_range.2 (by omega))
 obtain⟨m,a,b⟩:=wV (mask:=mask) (h:=h) (10*SetTable.turns mask) 0 [] (λj hj=>by cases hj) j (zzn.1 this)
 exact⟨m,by omega,b⟩
noncomputable def MX(mask:Nat)(h:Int):Bool:=(List.range (mask+1)).all λj=>(List.range (SetTable.turns mask)).any λw=>decide ((ws mask h w).1<=j)&&decide (j<=SetTable.runEnd mask (ws mask h w).1)
theorem D2{mask:Nat}{h:Int}(c:MX mask h=true):xw mask h:=λj hj=>by
 obtain⟨w,hw,e⟩:=zzj.1 (zzT.1 c j (List.mem_range.2 (by omega)))
 rw [zza,zzN,zzN] at e;exact⟨w,List.mem_range.1 hw,e⟩
section
variable{prog:Program}{w:World}{K:Type} [DecidableEq K](knd:KeyKind prog w K)
def TK(h:Heap)(k:List K)(a:Addr):Prop:=∃o items n,h.get? a=some o/\o.cls=.type "tuple"/\o.data=.seq items n/\ItemsAre knd k items.toList/\∀v∈items.toList,plainKind v=true
def aJ(h:Heap)(e:Int×Value)(k:List K):Prop:=∃b,e=(tupleKeyHash knd k,.ref b)/\TK knd h k b
variable{knd}
variable{A:Around}{E:Value->Shared->Prop}{s:Shared}
theorem TK.key{h:Heap}{k:List K}{a:Addr}(x:TK knd h k a):IsTupleKey knd h k a:=let⟨o,i,n,a,b,c,d,_⟩:=x;⟨o,i,n,a,b,c,d⟩
def TK.inj{h:Heap}{k k':List K}{a:Addr}(x:TK knd h k a)(y:TK knd h k' a):k=k':=x.key.inj y.key
def aJ.inj{h:Heap}{e:Int×Value}{k k':List K}(x:aJ knd h e k)(y:aJ knd h e k'):k=k':=by
 obtain⟨b,rfl,t⟩:=x
 obtain⟨b',e,t'⟩:=y
 have:b=b':=by
  have:=congrArg Prod.snd e
  exact Value.ref.inj this
 subst this;exact t.inj t'
def rF(n:Nat){v:Value}(h:carriedByValue v=true):ofAClassStatement n v=pure false:=by
 cases v with
 |ref a=>simp [carriedByValue] at h
 |_=>first|rfl|simp [ofAClassStatement]|(unfold ofAClassStatement;rfl)
def n6{k:List K}{a:Addr}{Q:Bool->Shared->Prop}(hk:IsTupleKey knd s.heap k a)(h:Q false s):wpAny (model prog w) A (ofAClassStatement 8 (.ref a)) Q E s:=by
 have hT:=hk.typeIs
 obtain⟨o,items,n,ho,_,hd,hi⟩:=hk
 unfold ofAClassStatement;refine zzA (wpAny_typeOf hT ?_);dsimp only;rw [if_pos (by decide)];refine zzA (zzG ?_);simp! [Bool.not_true,zze,if_false];refine zzA (wpAny_seqItems ho hd ?_);dsimp only;refine zzA ?_;rw [<-Array.forIn_toList];refine wpAny_forIn_list _ (λrest r s'=>r.1=none/\s'=s/\∀v∈rest,carriedByValue v=true) _ ?_ ?_ _ _ ⟨rfl,rfl,hi.byValue⟩
 ·rintro v rest r s' ⟨hr,rfl,iZ⟩
  rw [rF _ (iZ v zzP)];refine zzA (zzG ?_);simp! [zze,if_false];exact zzG ⟨rfl,rfl,λu CJ=>iZ u (zzI _ CJ)⟩
 ·rintro ⟨r1,r2⟩ s' ⟨hr,rfl,_⟩
  simp only at hr;subst hr;exact zzG h
def sk{k:List K}{a:Addr}{Q:Bool->Shared->Prop}(hk:IsTupleKey knd s.heap k a)(L:List Value)(hL:∀v∈L,∃b k',v=.ref b/\IsTupleKey knd s.heap k' b)(h:Q false s):wpAny (model prog w) A (searchCouldBeSeen (.ref a) L) Q E s:=by
 unfold searchCouldBeSeen;refine zzA ?_;refine wpAny_forIn_list _ (λrest r s'=>r.1=none/\s'=s/\∀v∈rest,∃b k',v=.ref b/\IsTupleKey knd s.heap k' b) _ ?_ ?_ _ _ ⟨rfl,rfl,hL⟩
 ·rintro v rest r s' ⟨hr,rfl,iZ⟩
  have wO:∀u∈rest,∃b k',u=.ref b/\IsTupleKey knd s'.heap k' b:=λu CJ=>iZ u (zzI _ CJ)
  obtain⟨b,k',rfl,hb⟩:=iZ v zzP
  dsimp only;split
  ·exact zzG ⟨rfl,rfl,wO⟩
  ·refine zzA (wpAny_eqIsQuiet_tuple hk ?_);simp! [Bool.not_true,zze,if_false];refine zzA (wpAny_eqIsQuiet_tuple hb ?_);simp! [Bool.not_true,zze,if_false];refine zzA (n6 hk ?_);simp! [zze,if_false];refine zzA (n6 hb ?_);simp! [zze,if_false];exact zzG ⟨rfl,rfl,wO⟩
 ·rintro ⟨r1,r2⟩ s' ⟨hr,rfl,_⟩
  simp only at hr;subst hr;exact zzG h
def xt(n:Nat){v:Value}(h:plainKind v=true):hashByValue n v=pure true:=by
 cases n<;>cases v<;>simp_all [plainKind,hashByValue]
def xB{k:List K}{a:Addr}{Q:Bool->Shared->Prop}(hk:TK knd s.heap k a)(h:Q true s):wpAny (model prog w) A (hashByValue 8 (.ref a)) Q E s:=by
 have hT:=hk.key.typeIs
 obtain⟨o,items,n,ho,_,hd,_,hi⟩:=hk
 unfold hashByValue;refine zzA (wpAny_specialOf hT F.slot_tuple_hash.lookup ?_);dsimp only;refine zzA (wpAny_seqItems ho hd ?_);refine zzA ?_;show wpAny _ _ (forIn items _ _) _ _ s;rw [<-Array.forIn_toList];refine wpAny_forIn_list _ (λrest r s'=>r.1=none/\s'=s/\∀v∈rest,plainKind v=true) _ ?_ ?_ _ _ ⟨rfl,rfl,hi⟩
 ·rintro v rest r s' ⟨hr,rfl,iZ⟩
  rw [xt _ (iZ v zzP)];refine zzA (zzG ?_);simp! [Bool.not_true,zze,if_false];exact zzG ⟨rfl,rfl,λu CJ=>iZ u (zzI _ CJ)⟩
 ·rintro ⟨r1,r2⟩ s' ⟨hr,rfl,_⟩
  simp only at hr;subst hr;exact zzG h
end
section
variable{prog:Program}{w:World}{K:Type} [DecidableEq K](knd:KeyKind prog w K)
structure uG(h:Int):Prop where
 c7:LW 7 h
 Uh:LW 31 h
 US:xw 31 h
structure gW(h:Heap)(a:Addr)(es:List (Int×Value)):Prop where
 ex:∃o arr ep t,h.get? a=some o/\o.ExactSet/\o.data=.set arr ep t/\arr.toList=es/\m7 t es/\t.plain=true/\t.led=(!w.params.followText "set-order")/\((t.mask=7/\es.length<=4)\/(t.mask=31/\es.length<=18))
 key:∀e∈es,∃k,aJ knd h e k/\uG e.1
 nd:es.Pairwise λe e'=>∀k,aJ knd h e k->¬aJ knd h e' k
variable{knd}
variable{A:Around}{E:Value->Shared->Prop}{s:Shared}
def m7.fits{t:SetTable}{arr:Array (Int×Value)}(ok:m7 t arr.toList)(hl:arr.toList.length<=t.mask):t.fits arr.size=true:=by
 have h1:t.place.size=arr.size:=by have:=ok.len;rwa [zzd,zzd] at this
 have h2:t.fill<=t.mask:=by
  unfold SetTable.fill;rw [ok.MW,h1]
  simpa using hl
 simp [SetTable.fits,h1,h2]
def xW{a b:Addr}{o:Obj}{arr:Array (Int×Value)}{ep:Nat}{t:SetTable}{k:List K}{N:Nat}(hu:A.units<cLine)(ho:s.heap.get? a=some o)(hd:o.data=.set arr ep t)(ok:m7 t arr.toList)(hl:arr.toList.length<=t.mask)(Pb:t.mask%2=1)
 (hk:∀e∈arr.toList,∃k,aJ knd s.heap e k) (hb:TK knd s.heap k b) (hN:N<10*SetTable.turns t.mask) (hf:sq t.mask (tupleKeyHash knd k) N∉t.place.toList) (hp:∀m,m<N->sq t.mask (tupleKeyHash knd k) m∈t.place.toList) {Q:SetFound->Shared->Prop}
 (q1:(∃e∈arr.toList,aJ knd s.heap e k)->Q (.there none) s) (q2:(∀e∈arr.toList,¬aJ knd s.heap e k)->Q (.free (sq t.mask (tupleKeyHash knd k) N) false) s):
 ∀(d n fuel:Nat) (Bf:Option SetTable.Probe),Bf.getD (t.probeStart (tupleKeyHash knd k))=pr t.mask (tupleKeyHash knd k) n->N-n=d->n<=N->d<fuel->
 (∀m i e,m<n->t.slot (sq t.mask (tupleKeyHash knd k) m)=.live i->arr.toList[i]?=some e->¬aJ knd s.heap e k)->wpAny (model prog w) A (setSearchFrom a (.ref b) (tupleKeyHash knd k) true fuel Bf) Q E s:=by
 have wN:∀m,m<N->∃i,t.slot (sq t.mask (tupleKeyHash knd k) m)=.live i:=λm hm=>by
  obtain⟨i,_,_,_,z⟩:=ok.live (hp m hm)
  exact⟨i,z⟩
 have Ej:=uU ok.MW hf
 have Uo:t.gaveWay=false:=by
  unfold SetTable.gaveWay;rw [Pb]
  rfl
 intro d
 induction d using Nat.strongRecOn with
 |ind d ih=>
  intro n fuel Bf hs hd1 hn hfu hbef;cases fuel with
  |zero=>omega
  |succ fuel=>
   unfold setSearchFrom;refine zzA (wpAny_setState_of ho hd (ok.fits hl) ?_);dsimp only;rw [Uo];simp! [zze,if_false];rw [hs];unfold SetTable.probe;generalize hG:SetTable.probe.go t _ (tupleKeyHash knd k) (10*SetTable.turns t.mask) (pr t.mask (tupleKeyHash knd k) n)=G
   have fx:∀(i:Nat) (e:Int×Value),arr.toList[i]?=some e->((arr[i]?.map (·.1)).getD 0:Int)=e.1:=λi e z=>by
    rw [<-Array.getElem?_toList,z]
    rfl
   rcases lU (f:=λi=>((arr[i]?.map (·.1)).getD 0:Int)) wN Ej d n (10*SetTable.turns t.mask) hd1 hn (by omega) with⟨m,i,a1,a2,a3,a4,a5,a6⟩|⟨a5,a6⟩
   ·have eG:G=some (.candidate (sq t.mask (tupleKeyHash knd k) m) i (pr t.mask (tupleKeyHash knd k) (m+1))):=hG.symm.trans a6
    subst eG;obtain⟨i',e,b1,b2,b3⟩:=ok.live (hp m a2)
    rw [a3] at b3;cases b3;have he:=zzD b2
    obtain⟨k',bk,rfl,tk⟩:=hk e he
    have NG:arr[i]?=some (tupleKeyHash knd k',.ref bk):=by rw [<-Array.getElem?_toList];exact b2
    have sm:t.sameMemory t.moves t.mask=some true:=by
     unfold SetTable.sameMemory;rw [if_pos (beq_self_eq_true _)]
    have dZ:∀m' i2 e2,m'<m+1->t.slot (sq t.mask (tupleKeyHash knd k) m')=.live i2->arr.toList[i2]?=some e2->k'≠k->¬aJ knd s.heap e2 k:=λm' i2 e2 z1 z2 z3 z4=>by
     by_cases h1:m'<n
     ·exact hbef m' i2 e2 h1 z2 z3
     ·by_cases h2:m'=m
      ·subst h2;rw [a3] at z2;cases z2;rw [b2] at z3;cases z3;exact λy=>z4 (aJ.inj ⟨bk,rfl,tk⟩ y)
      ·have:=a5 m' i2 (by omega) (by omega) z2
       rw [fx i2 e2 z3] at this
       rintro ⟨b',rfl,_⟩
       exact this rfl
    have go:k'≠k->wpAny (model prog w) A (setSearchFrom a (.ref b) (tupleKeyHash knd k) true fuel (some (pr t.mask (tupleKeyHash knd k) (m+1)))) Q E s:=λz=>
     ih (N-(m+1)) (by omega) (m+1) fuel _ rfl rfl (by omega) (by omega) λm' i2 e2 z1 z2 z3=>dZ m' i2 e2 z1 z2 z3 z
    dsimp only;cases uF:t.led
    ·simp! [Bool.not_false,if_true,NG];refine zzA (sk hb.key _ (λv hv=>?_) ?_)
     ·obtain⟨x,hx,rfl⟩:=zzx.1 hv
      have ve:x∈arr.toList:=by
       rw [Array.toList_filter] at hx;exact(List.mem_filter.1 hx).1
      obtain⟨k2,b2,rfl,t2⟩:=hk x ve
      exact⟨b2,k2,rfl,t2.key⟩
     ·simp! [zze,if_false];refine zzA (wpAny_holding (wpAny_eqBool_tuple hu tk.key hb.key ?_));refine zzA (wpAny_setState_of ho hd (ok.fits hl) ?_)
      by_cases vk:k'=k
      ·subst vk;simp! [decide_true,Bool.and_self,if_true];exact zzG (q1 ⟨_,he,bk,rfl,tk⟩)
      ·simp! [vk,decide_false,Bool.and_false,zze,if_false,sm,if_true,a3,NG];refine zzA (wpAny_isSame_ref_self ?_);simp! [if_true];refine zzA (zzG ?_);simp only;exact go vk
    ·simp! [Bool.not_true,zze,if_false,NG];refine zzA (wpAny_holding (wpAny_eqBool_tuple hu tk.key hb.key ?_));refine zzA (wpAny_setState_of ho hd (ok.fits hl) ?_)
     by_cases vk:k'=k
     ·subst vk;simp! [decide_true,Bool.and_self,if_true];exact zzG (q1 ⟨_,he,bk,rfl,tk⟩)
     ·simp! [vk,decide_false,Bool.and_false,zze,if_false,sm,if_true,a3,NG];refine zzA (wpAny_isSame_ref_self ?_);simp! [if_true];refine zzA (zzG ?_);simp only;exact go vk
   ·have eG:G=some (.empty (sq t.mask (tupleKeyHash knd k) N) none):=hG.symm.trans a6
    subst eG;dsimp only;refine zzG (q2 λe he z=>?_);obtain⟨i,hi⟩:=List.mem_iff_getElem?.1 he
    have AW:i<t.place.toList.length:=by rw [ok.len];exact(zzH.1 hi).1
    obtain⟨n',c1,c2⟩:=ok.path i _ e (zzg AW) hi
    have e1:e.1=tupleKeyHash knd k:=by
     obtain⟨b',rfl,_⟩:=z
     rfl
    rw [e1] at c1 c2;have Mn:n'<N:=by
     rcases Nat.lt_trichotomy n' N with y|y|y
     ·exact y
     ·rw [y] at c1;exact absurd (by rw [c1];exact List.getElem_mem AW) hf
     ·exact absurd (c2 N y) hf
    have sl:t.slot (sq t.mask (tupleKeyHash knd k) n')=.live i:=by
     rw [c1];exact om ok.FV (zzg AW)
    by_cases h1:n'<n
    ·exact hbef n' i e h1 sl hi z
    ·exact a5 n' i (by omega) Mn sl ((fx i e hi).trans e1)
end
section
variable{prog:Program}{w:World}{K:Type} [DecidableEq K]{knd:KeyKind prog w K}
variable{A:Around}{E:Value->Shared->Prop}{s:Shared}
def TK.keeps{h h':Heap}{k:List K}{a b:Addr}{o:Obj}{es ep t}(x:TK knd h k b)(ho:h.get? a=some o)(hd:o.data=.set es ep t)(hs:Heap.SameBut a h h'):TK knd h' k b:=by
 obtain⟨o',items,n,iF,hc,FZ,hi⟩:=x
 have ff:b≠a:=by
  rintro rfl
  obtain rfl:o'=o:=zzq (iF.symm.trans ho)
  rw [hd] at FZ;exact nomatch FZ
 exact⟨o',items,n,(hs.2 b ff).trans iF,hc,FZ,hi⟩
def aJ.keeps{h h':Heap}{k:List K}{a:Addr}{e:Int×Value}{o:Obj}{es ep t}(x:aJ knd h e k)(ho:h.get? a=some o)(hd:o.data=.set es ep t)(hs:Heap.SameBut a h h'):aJ knd h' e k:=by
 obtain⟨b,e,t⟩:=x
 exact⟨b,e,t.keeps ho hd hs⟩
structure kq(knd:KeyKind prog w K)(h:Heap)(es:List (Int×Value)):Prop where
 key:∀e∈es,∃k,aJ knd h e k/\uG e.1
 nd:es.Pairwise λe e'=>∀k,aJ knd h e k->¬aJ knd h e' k
def kq.keeps{h h':Heap}{a:Addr}{es:List (Int×Value)}{o:Obj}{arr ep t}(x:kq knd h es)(ho:h.get? a=some o)(hd:o.data=.set arr ep t)(hs:Heap.SameBut a h h'):kq knd h' es:=by
 refine⟨λe he=>?_,List.Pairwise.imp_of_mem (λ{e e'} he he' ff k z z'=>?_) x.nd⟩
 ·obtain⟨k,z,c⟩:=x.key e he
  exact⟨k,z.keeps ho hd hs,c⟩
 ·obtain⟨k1,y1,_⟩:=x.key e he
  obtain⟨k2,y2,_⟩:=x.key e' he'
  have e1:=(y1.keeps ho hd hs).inj z
  have e2:=(y2.keeps ho hd hs).inj z'
  subst e1 e2;exact ff _ y1 y2
def kq.perm{h:Heap}{es qW:List (Int×Value)}(x:kq knd h es)(p:qW.Perm es):kq knd h qW:=
 ⟨λe he=>x.key e (p.subset he),(p.symm.pairwise_iff (λ{a b} Oo k z z'=>Oo k z' z)).1 x.nd⟩
def kq.cons{h:Heap}{es:List (Int×Value)}{k:List K}{b:Addr}(x:kq knd h es)(hb:TK knd h k b)(hc:uG (tupleKeyHash knd k))(hn:∀e∈es,¬aJ knd h e k):kq knd h ((tupleKeyHash knd k,.ref b)::es):=by
 refine⟨λe he=>?_,List.pairwise_cons.2 ⟨λe he k' z z'=>?_,x.nd⟩⟩
 ·rcases zzm.1 he with rfl|he
  ·exact⟨k,⟨b,rfl,hb⟩,hc⟩
  ·exact x.key e he
 ·have:=z.inj ⟨b,rfl,hb⟩
  subst this;exact hn e he z'
def gW.ents{h:Heap}{a:Addr}{es:List (Int×Value)}(S:gW knd h a es):kq knd h es:=⟨S.key,S.nd⟩
def stored{h:Heap}{a:Addr}{o:Obj}{arr ep t}{arr':Array (Int×Value)}{t':SetTable}(ho:h.get? a=some o)(hx:o.ExactSet)(hd:o.data=.set arr ep t):∃o',(h.update a (Obj.putSet arr' t')).get? a=some o'/\o'.ExactSet/\o'.data=.set arr' (ep+1) t':=by
 refine⟨{o with data:=.set arr' (ep+1) t'},?_,hx,rfl⟩;rw [Heap.get?_update_self _ ho (by rw [putSet_of arr' t' hd];rfl),putSet_of arr' t' hd]
def zJ{a:Addr}{o:Obj}{arr:Array (Int×Value)}{ep:Nat}{t:SetTable}(ho:s.heap.get? a=some o)(hx:o.ExactSet)(hd:o.data=.set arr ep t)(ok:m7 t arr.toList)(hl:arr.toList.length<=t.mask)(hp:t.plain=true)(uF:t.led=(!w.params.followText "set-order"))(h5:arr.toList.length=5)(X:kq knd s.heap arr.toList){Q:Unit->Shared->Prop}
 (q:∀h' qW,Heap.SameBut a s.heap h'->gW knd h' a qW->qW.Perm arr.toList->Q () {s with heap:=h'}):wpAny (model prog w) A (setRelay a (SetTable.grown 5)) Q E s:=by
 unfold setRelay;refine zzA (wpAny_setState_of ho hd (ok.fits hl) ?_);dsimp only;have hz:¬SetTable.sizeAbove (SetTable.grown 5)>sizeLine:=by rw [sizeLine_eq];decide
 rw [if_neg hz];have hsz:arr.size=5:=by rw [<-zzd];exact h5
 obtain⟨t',order,e,m1,m2,m3,pm,ok'⟩:=Dk (mask:=31) (finger:=t.finger) (moves:=t.movedTo 31) (led:=t.led) (plain:=t.plain) arr (λx hx=>by obtain⟨_,_,c⟩:=X.key x hx;exact c.US) (by omega)
 have er:t.relaid (arr.map (·.1)) (SetTable.grown 5)=some (t',order):=e
 rw [er];have sz:((order.filterMap (arr[·]?)).size !=arr.size)=false:=by
  rw [<-zzd,pm.length_eq,zzd];simp
 refine zzA ?_;show wpAny _ _ (if((order.filterMap (arr[·]?)).size !=arr.size)=true then unsupported _ else pure (order.filterMap (arr[·]?),t')) _ _ s;rw [sz,if_neg zzf];refine zzG ?_;have QI:(order.filterMap (arr[·]?)).toList.length=5:=by rw [pm.length_eq];exact h5
 refine wpAny_storeSet_of ho hd ?_ (by rw [<-zzd,QI,sizeLine_eq];decide);obtain⟨o',g1,g2,g3⟩:=stored (arr':=order.filterMap (arr[·]?)) (t':=t') ho hx hd
 have sb:=zzu s.heap a (Obj.putSet (order.filterMap (arr[·]?)) t')
 have X':=(X.keeps ho hd sb).perm pm
 exact q _ _ sb ⟨⟨o',_,_,t',g1,g2,g3,rfl,ok',m3.trans hp,m2.trans uF,.inr ⟨m1,by omega⟩⟩,X'.key,X'.nd⟩ pm
def Hx{a b:Addr}{k:List K}{es:List (Int×Value)}(hu:A.units<cLine)(S:gW knd s.heap a es)(hb:TK knd s.heap k b)(hc:uG (tupleKeyHash knd k))(TB:(∀e∈es,¬aJ knd s.heap e k)->es.length<=17){Q:Bool->Shared->Prop}
 (q:∀h' qW c,Heap.SameBut a s.heap h'->gW knd h' a qW->((∃e∈es,aJ knd s.heap e k)/\qW=es\/(∀e∈es,¬aJ knd s.heap e k)/\qW.Perm ((tupleKeyHash knd k,.ref b)::es))->Q c {s with heap:=h'}):
 wpAny (model prog w) A (setAddHashed a (.ref b) (tupleKeyHash knd k)) Q E s:=by
 obtain⟨o,arr,ep,t,ho,hx,hd,rfl,ok,hp,uF,hm⟩:=S.ex
 have Ov:arr.toList.length<=t.mask:=by omega
 have cv:LW t.mask (tupleKeyHash knd k):=by
  rcases hm with⟨z,_⟩|⟨z,_⟩
  ·rw [z];exact hc.c7
  ·rw [z];exact hc.Uh
 obtain⟨N,n1,n2,n3⟩:=ok.free cv Ov
 unfold setAddHashed;refine wpAny_holding ?_;unfold setAddHashedIn;refine zzA (wpAny_setState_of ho hd (ok.fits Ov) ?_);have bs:byScan (.ref b) arr=false:=rfl
 dsimp only;rw [bs];simp! [zze,if_false];refine zzA ?_;unfold setSearch;refine xW (knd:=knd) (N:=N) hu ho hd ok Ov (by omega) (λe he=>by obtain⟨k',z,_⟩:=S.key e he;exact⟨k',z⟩) hb n1 n2 n3 (λz=>?_) (λz=>?_) N 0 100000 none rfl (by omega) (by omega) ?_ (λm i e h=>by omega)
 ·dsimp only;have:=q s.heap arr.toList false (Heap.SameBut.refl a s.heap) S (.inl ⟨z,rfl⟩)
  exact zzG this
 ·have hl:=TB z
  dsimp only;refine zzA (wpAny_setState_of ho hd (ok.fits Ov) ?_);obtain⟨p,pe,pl,q1,q2,q3,ok2⟩:=Hg (x:=.ref b) ok n2 n3
  have e1:(SetTable.insertAt arr p (tupleKeyHash knd k,Value.ref b)).toList=arr.toList.take p++(tupleKeyHash knd k,.ref b)::arr.toList.drop p:=rU ..
  have pm:=Am arr.toList p (tupleKeyHash knd k,Value.ref b)
  have B5:(SetTable.insertAt arr p (tupleKeyHash knd k,Value.ref b)).toList.length=arr.toList.length+1:=by rw [e1,pm.length_eq,zzL]
  dsimp only;generalize hput:t.put (sq t.mask (tupleKeyHash knd k) N)=pt at *
  obtain⟨t2,p2⟩:=pt
  dsimp only at q1 q2 q3 ok2 pe⊢;subst pe;rw [q3,hp,if_pos rfl];refine zzA (xB hb ?_);simp! [if_true];have X2:kq knd s.heap (arr.toList.take p++(tupleKeyHash knd k,.ref b)::arr.toList.drop p):=(S.ents.cons hb hc z).perm pm
  refine zzA (wpAny_storeSet_of ho hd ?_ (by rw [<-zzd,B5,sizeLine_eq];omega));obtain⟨o',g1,g2,g3⟩:=stored (arr':=SetTable.insertAt arr p (tupleKeyHash knd k,Value.ref b)) (t':=t2) ho hx hd
  have sb:=zzu s.heap a (Obj.putSet (SetTable.insertAt arr p (tupleKeyHash knd k,Value.ref b)) t2)
  have X3:=X2.keeps ho hd sb
  rw [<-e1] at X3 ok2 pm;have Gi:t2.fill=arr.toList.length+1:=by
   unfold SetTable.fill;rw [ok2.MW,<-zzd,ok2.len,B5];simp
  have UZ:arr.size=arr.toList.length:=(zzd).symm
  simp! [Bool.not_false,Bool.true_and]
  by_cases hf:t2.tooFull=true
  ·rw [if_pos hf];have h4:arr.toList.length=4/\t.mask=7:=by
    unfold SetTable.tooFull at hf;have:=zzY hf
    rw [Gi,q1] at this;rcases hm with⟨z1,z2⟩|⟨z1,z2⟩
    ·rw [z1] at this;omega
    ·rw [z1] at this;omega
   have e5:arr.size+1=5:=by omega
   rw [e5];refine zzA (zJ (knd:=knd) (s:={s with heap:=s.heap.update a (Obj.putSet (SetTable.insertAt arr p (tupleKeyHash knd k,Value.ref b)) t2)}) g1 g2 g3 ok2 (by rw [B5,q1];omega) (q3.trans hp) (q2.trans uF) (by rw [B5];omega) X3 λh' qW Ox S2 Ua=>?_)
   exact zzG (q h' qW true (sb.trans Ox) S2 (.inr ⟨z,Ua.trans pm⟩))
  ·rw [if_neg hf];refine zzG (q _ _ true sb ⟨⟨o',_,_,t2,g1,g2,g3,rfl,ok2,q3.trans hp,q2.trans uF,?_⟩,X3.key,X3.nd⟩ (.inr ⟨z,pm⟩));rw [q1,B5];rcases hm with⟨z1,z2⟩|⟨z1,z2⟩
   ·refine .inl ⟨z1,?_⟩;have:¬(t2.fill*5>=t2.mask*3):=λy=>hf (zzh y)
    rw [Gi,q1,z1] at this;omega
   ·exact .inr ⟨z1,by omega⟩
 ·have:SetTable.turns t.mask<=46:=by
   unfold SetTable.turns;rcases hm with⟨z1,_⟩|⟨z1,_⟩<;>rw [z1]<;>decide
  omega
end
section
variable{prog:Program}{w:World}{K:Type} [DecidableEq K]{knd:KeyKind prog w K}
variable{A:Around}{s:Shared}
def TK.move{h h':Heap}{k:List K}{b I:Addr}{oI:Obj}(x:TK knd h k b)(hI:h.get? I=some oI)(hc:oI.cls≠.type "tuple")(hk:∀b o,b≠I->h.get? b=some o->h'.get? b=some o):TK knd h' k b:=by
 obtain⟨o,items,n,ho,c,r⟩:=x
 refine⟨o,items,n,hk b o (λz=>?_) ho,c,r⟩;subst z;rw [hI] at ho;cases ho;exact hc c
def aJ.move{h h':Heap}{k:List K}{e:Int×Value}{I:Addr}{oI:Obj}(x:aJ knd h e k)(hI:h.get? I=some oI)(hc:oI.cls≠.type "tuple")(hk:∀b o,b≠I->h.get? b=some o->h'.get? b=some o):aJ knd h' e k:=by
 obtain⟨b,e,t⟩:=x
 exact⟨b,e,t.move hI hc hk⟩
def J6(knd:KeyKind prog w K)(h:Heap)(es:List (Int×Value))(P:List K->Prop):Prop:=∀k,(∃e∈es,aJ knd h e k)↔P k
def gW.move{h h':Heap}{a I:Addr}{es:List (Int×Value)}{oI:Obj}{P:List K->Prop}(S:gW knd h a es)(H:J6 knd h es P)(hI:h.get? I=some oI)(hc:oI.cls≠.type "tuple")(ha:a≠I)(hk:∀b o,b≠I->h.get? b=some o->h'.get? b=some o):gW knd h' a es/\J6 knd h' es P:=by
 have back:∀e∈es,∀k,aJ knd h' e k->aJ knd h e k:=λe he k z=>by
  obtain⟨k1,y,_⟩:=S.key e he
  have:=(y.move hI hc hk).inj z
  subst this;exact y
 obtain⟨o,arr,ep,t,ho,r⟩:=S.ex
 refine⟨⟨⟨o,arr,ep,t,hk a o ha ho,r⟩,λe he=>?_,List.Pairwise.imp_of_mem (λ{e e'} he he' ff k z z'=>ff k (back e he k z) (back e' he' k z')) S.nd⟩,λk=>?_⟩
 ·obtain⟨k,y,c⟩:=S.key e he
  exact⟨k,y.move hI hc hk,c⟩
 ·rw [<-H k];exact⟨λ⟨e,he,z⟩=>⟨e,he,back e he k z⟩,λ⟨e,he,z⟩=>⟨e,he,z.move hI hc hk⟩⟩
def gW.KA{h:Heap}{a:Addr}{es:List (Int×Value)}(S:gW knd h a es){U:List (List K)}(hU:∀e∈es,∀k,aJ knd h e k->k∈U):es.length<=U.length:=by
 have key:∀es:List (Int×Value),(∀e∈es,∃k,aJ knd h e k)->(es.Pairwise λe e'=>∀k,aJ knd h e k->¬aJ knd h e' k)->∃ks:List (List K),ks.length=es.length/\ks.Nodup/\∀k∈ks,∃e∈es,aJ knd h e k:=by
  intro es
  induction es with
  |nil=>exact λ_ _=>⟨[],rfl,List.nodup_nil,λk hk=>by cases hk⟩
  |cons e es ih=>
   intro h1 h2;obtain⟨p1,p2⟩:=List.pairwise_cons.1 h2
   obtain⟨ks,a1,a2,a3⟩:=ih (λx hx=>h1 x (zzI _ hx)) p2
   obtain⟨k,z⟩:=h1 e (zzP ..)
   refine⟨k::ks,by rw [zzL,zzL,a1],List.nodup_cons.2 ⟨λy=>?_,a2⟩,λk' hk'=>?_⟩
   ·obtain⟨e',he',z'⟩:=a3 k y
    exact p1 e' he' k z z'
   ·rcases zzm.1 hk' with rfl|hk'
    ·exact⟨e,zzP ..,z⟩
    ·obtain⟨e',he',z'⟩:=a3 k' hk'
     exact⟨e',zzI _ he',z'⟩
 obtain⟨ks,a1,a2,a3⟩:=key es (λe he=>by obtain⟨k,z,_⟩:=S.key e he;exact⟨k,z⟩) S.nd
 rw [<-a1];exact d8 a2 λk hk=>by
  obtain⟨e,he,z⟩:=a3 k hk
  exact hU e he k z
def yH{R:Result->Shared->Prop}{S I l:Addr}{items:Array Value}{kf:Nat->List K}{U:List (List K)}(hu:A.units+1<cLine)(hh:A.handled=none)(P7:S≠I)(Uy:S≠l)(Us:l≠I)(hU:∀i,i<items.size->kf i∈U/\uG (tupleKeyHash knd (kf i)))(Oj:U.length<=18)(s0:Shared)
 (h0:∀i v,items[i]?=some v->∃b,v=.ref b/\b≠S/\b≠I/\TK knd s0.heap (kf i) b)
 (hR:∀h' tk es,gW knd h' S es->J6 knd h' es (λk=>∃j,j<items.size/\k=kf j)->(∀e∈es,∃j:Nat,items[j]?=some e.2)->(∀b o,b≠S->b≠I->s0.heap.get? b=some o->h'.get? b=some o)->R (.ok (.ret .none)) {s0 with heap:=h',toks:=tk}):
 ∀(d i:Nat) (h:Heap) (tk:Nat) (es:List (Int×Value)),items.size-i=d->i<=items.size->h.IsListIter I l i/\h.IsList l items->gW knd h S es->J6 knd h es (λk=>∃j,j<i/\k=kf j)->(∀e∈es,∃j:Nat,items[j]?=some e.2)->(∀b o,b≠S->b≠I->s0.heap.get? b=some o->h.get? b=some o)->
  codeAny (model prog w) A (.builtin "set.update.loop" ⟨[.ref S,.ref I],[]⟩) R {s0 with heap:=h,toks:=tk}:=by
 have W:=Walks.list (prog:=prog) (w:=w) (A:=A.in1) hh I l Us items
 intro d
 induction d with
 |zero=>
  intro i h tk es hd hi st T Hs mm kp;have CN:i=items.size:=by omega
  subst CN;refine codeAny_builtin PyProof.Rows.F.entry_set_update_loop ?_;rw [zz7 PyProof.Rows.F.plain_set_update_loop _];obtain⟨oI,gI,cI,_⟩:=id st.1
  refine zzA (W.done {s0 with heap:=h,toks:=tk} _ _ st λh' AE k'=>?_);have kk:∀b o,b≠I->h.get? b=some o->h'.get? b=some o:=λb o hb e=>k' b o (by simpa using hb) e
  obtain⟨T',H'⟩:=T.move Hs gI (by rw [cI];decide) P7 kk
  exact zzG (hR h' AE es T' H' mm λb o h1 h2 e=>kk b o h2 (kp b o h1 h2 e))
 |succ d ih=>
  intro i h tk es hd hi st T Hs mm kp;have bH:i<items.size:=by omega
  refine codeAny_builtin PyProof.Rows.F.entry_set_update_loop ?_;rw [zz7 PyProof.Rows.F.plain_set_update_loop _];obtain⟨oI,gI,cI,_⟩:=id st.1
  refine zzA (W.item i {s0 with heap:=h,toks:=tk} _ _ bH st λv h' AE hP fK k'=>?_);have kk:∀b o,b≠I->h.get? b=some o->h'.get? b=some o:=λb o hb e=>k' b o (by simpa using hb) e
  obtain⟨T',H'⟩:=T.move Hs gI (by rw [cI];decide) P7 kk
  obtain⟨b,rfl,hbS,hbI,tb⟩:=h0 i v hP
  have NA:TK knd h' (kf i) b:=by
   obtain⟨o,it,n,g,r⟩:=tb
   exact⟨o,it,n,kk b o hbI (kp b o hbS hbI g),r⟩
  refine zzA (wpAny_holding ?_);unfold setAdd;refine wpAny_holding ?_;refine zzA (wpAny_pyHash_tuple (s:={s0 with heap:=h',toks:=AE}) (by show A.units+1<cLine;exact hu) NA.key ?_);refine Hx (knd:=knd) (es:=es) (by show A.units+1<cLine;exact hu) T' NA (hU i bH).2 (λhn=>?_) λh2 N4 c sb T2 alt=>?_
  ·have:=T'.ents.cons NA (hU i bH).2 hn
   have iZ:∀e∈es,∀k,aJ knd h' e k->k∈U.erase (kf i):=λe he k z=>by
    obtain⟨j,hj,rfl⟩:=(H' k).1 ⟨e,he,z⟩
    refine(List.mem_erase_of_ne λy=>?_).2 (hU j (by omega)).1;rw [y] at z;exact hn e he z
   have f:=T'.KA iZ
   rw [List.length_erase_of_mem (hU i bH).1] at f;omega
  ·obtain⟨o,arr,ep,t,ho,hx,hdt,_⟩:=T'.ex
   have kb:∀b o,b≠S->h'.get? b=some o->h2.get? b=some o:=λb o hb e=>(sb.2 b hb).trans e
   have LH:h2.IsListIter I l (i+1)/\h2.IsList l items:=W.frame _ _ _ fK λb hb o e=>kb b o (by
    simp! [zzm,List.not_mem_nil,or_false] at hb;rcases hb with rfl|rfl
    ·exact P7.symm
    ·exact Uy.symm) e
   have H2:J6 knd h2 N4 (λk=>∃j,j<i+1/\k=kf j):=λk=>by
    have fw:∀e∈es,aJ knd h' e k↔aJ knd h2 e k:=λe he=>⟨λz=>z.keeps ho hdt sb,λz=>by
     obtain⟨k1,y,_⟩:=T'.key e he
     have:=(y.keeps ho hdt sb).inj z
     subst this;exact y⟩
    have new:aJ knd h2 (tupleKeyHash knd (kf i),.ref b) (kf i):=⟨b,rfl,NA.keeps ho hdt sb⟩
    have sp:(∃j,j<i+1/\k=kf j)↔(∃j,j<i/\k=kf j)\/k=kf i:=by
     constructor
     ·rintro ⟨j,hj,rfl⟩
      by_cases z:j=i
      ·subst z;exact .inr rfl
      ·exact .inl ⟨j,by omega,rfl⟩
     ·rintro (⟨j,hj,rfl⟩|rfl)
      ·exact⟨j,by omega,rfl⟩
      ·exact⟨i,by omega,rfl⟩
    have Hk:(∃e∈es,aJ knd h' e k)↔∃j,j<i/\k=kf j:=H' k
    show(∃e∈N4,aJ knd h2 e k)↔(∃j,j<i+1/\k=kf j)
    rw [sp,<-Hk];rcases alt with⟨⟨e0,he0,z0⟩,rfl⟩|⟨hn,pm⟩
    ·constructor
     ·rintro ⟨e,he,z⟩
      exact .inl ⟨e,he,(fw e he).2 z⟩
     ·rintro (⟨e,he,z⟩|rfl)
      ·exact⟨e,he,(fw e he).1 z⟩
      ·exact⟨e0,he0,(fw e0 he0).1 z0⟩
    ·constructor
     ·rintro ⟨e,he,z⟩
      rcases zzm.1 (pm.subset he) with rfl|he
      ·exact .inr (z.inj new)
      ·exact .inl ⟨e,he,(fw e he).2 z⟩
     ·rintro (⟨e,he,z⟩|rfl)
      ·exact⟨e,pm.symm.subset (zzI _ he),(fw e he).1 z⟩
      ·exact⟨_,pm.symm.subset (zzP ..),new⟩
   have Uk:∀e∈N4,∃j:Nat,items[j]?=some e.2:=λe he=>by
    rcases alt with⟨_,rfl⟩|⟨_,pm⟩
    ·exact mm e he
    ·rcases zzm.1 (pm.subset he) with rfl|he
     ·exact⟨i,hP⟩
     ·exact mm e he
   exact zzG ⟨plainId_quiet PyProof.Rows.F.plain_set_update_loop _,ih (i+1) h2 _ N4 (by omega) bH LH T2 H2 Uk λb o h1 h3 e=>kb b o h1 (kk b o h3 (kp b o h1 h3 e))⟩
end
section
variable{prog:Program}{w:World}{K:Type} [DecidableEq K]{knd:KeyKind prog w K}
variable{A:Around}{E:Value->Shared->Prop}{s:Shared}
noncomputable abbrev iT(led:Bool):Obj:={cls:=.type "set",dict:=none,data:=.set #[] 0 (.fresh 0 0 led)}
def yK{h:Heap}{a:Addr}(e:h.get? a=some (iT (!w.params.followText "set-order"))):gW knd h a []:=⟨⟨_,#[],0,_,e,⟨rfl,rfl,rfl⟩,rfl,rfl,HY ..,rfl,rfl,.inl ⟨rfl,by decide⟩⟩,(λe he=>by cases he),.nil⟩
def zD(a:Value){Q:Value->Shared->Prop}(h:Q (.ref (zz9 s)) {s with heap:=s.heap.push (iT (!w.params.followText "set-order"))}):codeAny (model prog w) A (.call (.builtin "set.__new__") ⟨[.type "set",a],[]⟩) (wants Q E) s:=by
 refine codeAny_of_tree ?_;refine zzA (wpAny_of_eq (F.newCall_set_1 a) (zzG ⟨plainId_quiet F.plain_set_new _,codeAny_builtin F.entry_set_new ?_⟩));rw [zz7 F.plain_set_new _];unfold Builtin.«set.__new__» Builtin.Frozenset.newClass;have g:=sub_set_self
 obtain⟨hp,gg,d,tk,os⟩:=s
 dsimp only
 wp_walk
 refine wpAny_askSetting (zzG ?_);dsimp only;simp! [newObj];exact zzA (wpAny_alloc (zzG (zzG h)))
def yk{l:Addr}{items:Array Value}{kf:Nat->List K}{U:List (List K)}{Q:Value->Shared->Prop}(hu:A.units+8<cLine)(hh:A.handled=none)(hl:s.heap.IsList l items)(hU:∀i,i<items.size->kf i∈U/\uG (tupleKeyHash knd (kf i)))(Oj:U.length<=18)
 (h0:∀i v,items[i]?=some v->∃b,v=.ref b/\TK knd s.heap (kf i) b)
 (q:∀h' tk es,gW knd h' (zz9 s) es->J6 knd h' es (λk=>∃j,j<items.size/\k=kf j)->(∀e∈es,∃j:Nat,items[j]?=some e.2)->(∀b o,s.heap.get? b=some o->h'.get? b=some o)->Q (.ref (zz9 s)) {s with heap:=h',toks:=tk}):
 wpAny (model prog w) A (call (.type "set") [.ref l]) Q E s:=by
 obtain⟨c,tl,hmro⟩:=F.called_set.mro
 have g1:=F.called_set.made
 have g2:=F.called_set.sub
 refine wpAny_call (codeAny_of_tree ?_);refine zzG ⟨Code.quiet_builtin _ (by decide+kernel),codeAny_builtin F.entry_type_call ?_⟩;rw [Around.under_plain (weight_type_call_type "set" [.ref l] []) rfl];have g3:=F.called_set.notType
 have g4:=F.called_set.canCreate
 have g5:=F.typeCall_set_1 (.ref l)
 repeat (any_goals (first|assumption|wp_step))
 refine codeAny_mono (zD (.ref l) (E:=E) (Q:=λx z=>x=.ref (zz9 s)/\z={s with heap:=s.heap.push (iT (!w.params.followText "set-order"))}) ⟨rfl,rfl⟩) λr s₁ hr=>?_
 cases r with
 |error e=>exact hr
 |ok fl=>
  cases fl with
  |ret obj=>
   obtain⟨rfl,rfl⟩:=hr
   generalize uF:(!w.params.followText "set-order")=led
   have eS:(s.heap.push (iT led)).get? (zz9 s)=some (iT led):=zzX _ rfl
   have T:Shared.TypeIs {s with heap:=s.heap.push (iT led)} (.ref (zz9 s)) "set":=⟨_,eS,rfl⟩
   have g6:=F.called_set.init.lookup
   have g7:=F.called_set.init.bind (.ref (zz9 s))
   repeat (any_goals (first|assumption|wp_step))
   refine codeAny_mono (codeAny_call_builtin (R:=wants (λr z=>r=.none/\∃h' tk es,z={s with heap:=h',toks:=tk}/\gW knd h' (zz9 s) es/\J6 knd h' es (λk=>∃j,j<items.size/\k=kf j)/\(∀e∈es,∃j:Nat,items[j]?=some e.2)/\∀b o,s.heap.get? b=some o->h'.get? b=some o) E) F.called_set.init.plain F.entry_set_init (check_set_init_1 T ?_)) λr₂ s₂ hr₂=>?_
   ·obtain⟨⟨k1,k2,k3,k4⟩,hol,BQ,nl,hdl⟩:=id hl
    simp only at BQ hdl;subst BQ;subst hdl;have eL:(s.heap.push (iT led)).get? l=some {cls:=.type "list",dict:=k2,data:=.seq items nl,slots:=k4}:=zzB _ hol
    have g8:=F.sub_list_set
    have g9:=F.sub_list_frozenset
    have ga:(Value.type "list"==Value.type "dict")=false:=by decide
    have Q4:(s.heap.push (iT led)).IsList l items:=⟨_,eL,rfl,nl,rfl⟩
    unfold Builtin.«set.__init__» noKeywords Builtin.Frozenset.updateFrom;generalize hPI:pyIter=PI
    wp_walk
    subst hPI;refine wpAny_pyIter_list Q4 ?_;refine zzA (wpAny_runValue ?_);have lS:l<(zz9 s):=zzO hol
    have sz:(s.heap.push (iT led)).objs.size=(zz9 s)+1:=Heap.size_push ..
    have up:∀b o,s.heap.get? b=some o->((s.heap.push (iT led)).push {cls:=.type "list_iterator",data:=.fields #[.ref l,.int 0 0]}).get? b=some o:=λb o e=>zzB _ (zzB _ e)
    have TQ:((s.heap.push (iT led)).push {cls:=.type "list_iterator",data:=.fields #[.ref l,.int 0 0]}).get? (zz9 s)=some (iT led):=zzB _ eS
    have S0:gW knd ((s.heap.push (iT led)).push {cls:=.type "list_iterator",data:=.fields #[.ref l,.int 0 0]}) (zz9 s) []:=yK (by rw [uF];exact TQ)
    refine yH (knd:=knd) (A:=A.in1.in1) (S:=(zz9 s)) (I:=(s.heap.push (iT led)).objs.size) (l:=l) (items:=items) (kf:=kf) (U:=U) (by show A.units+1+1+1<cLine;omega) (by simp [hh]) (by rw [sz];exact zzb (Nat.lt_succ_self _)) (Nat.ne_of_gt lS) (by rw [sz];exact zzb (Nat.lt_succ_of_lt lS)) hU Oj s (λi v hv=>?_) (λh' tk es a1 a2 a4 a3=>?_) items.size 0 _ s.toks [] (by omega) (Nat.zero_le _) ⟨⟨_,zzX _ rfl,rfl,rfl⟩,Q4.push _⟩ S0 ?_ (λe he=>by cases he) (λb o _ _ e=>up b o e)
    ·obtain⟨b,rfl,t⟩:=h0 i v hv
     have hb:b<(zz9 s):=by
      obtain⟨o,_,_,e,_⟩:=t
      exact zzO e
     exact⟨b,rfl,zzb hb,by rw [sz];exact zzb (Nat.lt_succ_of_lt hb),t⟩
    ·refine zzG ?_;refine zzG ⟨rfl,h',tk,es,rfl,a1,a2,a4,λb o e=>a3 b o (zzb (zzO e)) ?_ e⟩
     rw [sz];exact zzb (Nat.lt_succ_of_lt (zzO e))
    ·intro k;exact⟨λ⟨e,he,_⟩=>by(cases he),λ⟨j,hj,_⟩=>by omega⟩
   ·cases r₂ with
    |error e=>exact hr₂
    |ok fl₂=>
     cases fl₂ with
     |ret r=>
      obtain⟨rfl,h',tk,es,rfl,a1,a2,a4,a3⟩:=hr₂
      repeat (any_goals (first|assumption|wp_step))
      exact q h' tk es a1 a2 a4 a3
     |_=>exact hr₂.elim
  |_=>exact hr.elim
end
end St
namespace L2
open PySem PySem.Spec PyProof.Rows PySem.W
noncomputable abbrev lO(acc:Array Value)(c:Nat):Obj:={cls:=.type "list",dict:=none,data:=.seq acc c,slots:=#[]}
end L2
namespace St
open PySem PySem.Spec PyProof.Rows
def HD:Manifest.owners.lookup (String.ofList ("rotareti_tes".toList).reverse)=some Manifest.sig_set_iterator:=by kernel_rfl
def jb:Slot "set_iterator" "__next__" "set_iterator.__next__":=by
 refine .of (owner:="set_iterator") (n:="__next__") ?_ ?_ ?_ ?_ ?_ ?_
 ·rw [typeLookup_type,builtinLookup_eq_fast]
  kernel_rfl
 ·decide+kernel
 ·decide+kernel
 ·decide+kernel
 ·first
   |exact .inl (by decide+kernel)
   |exact .inr (by decide+kernel)
 ·rw [isSubtype_type]
  kernel_rfl
def rS:entryFor table "set_iterator.__next__"=some Builtin.«set_iterator.__next__»:=by
 refine entryFor_of_tree ?_
 kernel_rfl
def yh:entryFor table "set.__iter__"=some Builtin.«frozenset.__iter__»:=by
 refine entryFor_alias (id':="frozenset.__iter__") ?_ rfl ?_ ?_
 ·kernel_rfl
 ·decide+kernel
 ·kernel_rfl
def w8(a:Value):argsOk "set_iterator.__next__" ⟨[a],[]⟩:=by
 unfold argsOk;rw [signature?_of (id:="set_iterator.__next__") (n:=['_','_','t','x','e','n','_','_']) (o:=['r','o','t','a','r','e','t','i','_','t','e','s']) (by kernel_rfl) HD]
 kernel_rfl
theorem vK{α:Type}:∀(l:List α) (i:Nat) (h:i<l.length),(l[i]::l.eraseIdx i).Perm l
 |a::l,0,h=>.refl _
 |a::l,i+1,h=>by
  have ih:=vK l i (by simpa using h)
  show(l[i]'(by simpa using h)::a::l.eraseIdx i).Perm (a::l)
  exact(List.Perm.swap _ _ _).trans (ih.cons a)
theorem Gh{α:Type}(next:Nat->Nat):∀(fuel k:Nat) (left:List α) (out:Array α),left.length<=fuel->(pickOrder.go next fuel k left out).toList.Perm (out.toList++left)
 |0,k,left,out,h=>by
  have:left=[]:=List.length_eq_zero_iff.1 (by omega)
  subst this;rw [zz6];exact .refl _
 |fuel+1,k,left,out,h=>by
  rw [pickOrder.go];cases e:left[next k%left.length]? with
  |none=>
   have:left=[]:=by
    cases left with
    |nil=>rfl
    |cons a l=>
     have:=List.getElem?_eq_none_iff.1 e
     have:=Nat.mod_lt (next k) (show 0<(a::l).length by simp)
     omega
   subst this;simp
  |some x=>
   obtain⟨hi,hx⟩:=zzH.1 e
   have ih:=Gh next fuel (k+1) (left.eraseIdx (next k%left.length)) (out.push x) (by rw [List.length_eraseIdx_of_lt hi];omega)
   refine ih.trans ?_;rw [Array.toList_push,List.append_assoc];refine List.Perm.append_left _ ?_;show(x::left.eraseIdx (next k%left.length)).Perm left;subst hx;exact vK left _ hi
def EF{α:Type}(next:Nat->Nat)(xs:Array α):(pickOrder next xs).toList.Perm xs.toList:=by
 have:=Gh next xs.size 0 xs.toList #[] (by rw [zzd];exact zzE _)
 unfold pickOrder
 simpa using this
section
variable{prog:Program}{w:World}{A:Around}{E:Value->Shared->Prop}{s:Shared}{S it:Addr}{o:Obj}{arr:Array (Int×Value)}{ep:Nat}{t:SetTable}
noncomputable def cH(w:World)(S:Addr)(ep:Nat)(arr:Array (Int×Value)):Array (Int×Value):=if w.params.followText "set-order" then pickOrder (w.params.setOrder S ep) arr else arr
def oH(w:World)(S:Addr)(ep:Nat)(arr:Array (Int×Value)):(cH w S ep arr).toList.Perm arr.toList:=by
 unfold cH;split
 ·exact EF ..
 ·exact .refl _
def fb(w:World)(S:Addr)(ep:Nat)(arr:Array (Int×Value)):(cH w S ep arr).size=arr.size:=by
 have:=(oH w S ep arr).length_eq
 rwa [zzd,zzd] at this
noncomputable def KY(sl i n ep:Nat)(S:Addr):Obj:={cls:=.type "set_iterator",data:=.fields #[rawInt sl,rawInt i,.ref S,rawInt n,rawInt ep]}
noncomputable def slt(w:World)(t:SetTable):Nat->Nat
 |0=>0
 |i+1=>if w.params.followText "set-order" then 0 else t.place.toList.getD i 0+1
def Od(w:World)(h:Heap)(it S:Addr)(t:SetTable)(i n ep:Nat):Prop:=h.get? it=some (KY (slt w t i) i n ep S)
def EK{Q:Value->Shared->Prop}(ho:s.heap.get? S=some o)(hx:o.ExactSet)(hd:o.data=.set arr ep t)(hf:t.fits arr.size=true)(hp:t.plain=true)(q:Q (.ref (zz9 s)) {s with heap:=s.heap.push (KY 0 0 arr.size ep S)}):wpAny (model prog w) A (pyIter (.ref S)) Q E s:=by
 have T:s.TypeIs (.ref S) "set":=⟨o,ho,hx.1⟩
 refine wpAny_pyIter_slot T F.slot_set_iter (wpAny_call_entry F.slot_set_iter T yh ?_ (F.args_set_iter_1 _));unfold Builtin.«frozenset.__iter__» Builtin.Frozenset.slot0 Builtin.Frozenset.addrOf Builtin.Frozenset.sizeOf;refine zzA (zzA (zzG (zzG (zzA (zzA (wpAny_setEntries_of ho hd hf (zzG ?_)))))));unfold setDrawn setsByText;refine zzA (zzA (wpAny_setState_of ho hd hf (zzA (zzA (wpAny_askSetting (zzG (zzG ?_)))))));dsimp only;rw [if_neg λz=>by
  have y:(!t.plain&&decide (arr.size>1))=true:=(Bool.and_eq_true_iff.1 z).2
  rw [hp] at y;simp at y]
 refine zzA (zzG ?_);unfold setEpoch newFields;refine zzA (zzA (wpAny_setState_of ho hd hf (zzG ?_)));refine zzA (wpAny_newObj_type (zzG ⟨_,rfl,"set_iterator",_,⟨_,zzX _ rfl,rfl⟩,jb.lookup,?_⟩) (by size_fits));exact q
def sR{xs:Array Nat}(hr:Jp xs.toList){v i:Nat}(hi:i<=xs.size)(h1:∀k x,xs.toList[k]?=some x->k<i->x<v)(h2:∀k x,xs.toList[k]?=some x->i<=k->v<=x):SetTable.below xs v=i:=by
 obtain⟨c,a,b⟩:=mw hr v
 rcases Nat.lt_trichotomy (SetTable.below xs v) i with z|z|z
 ·have hb:SetTable.below xs v<xs.toList.length:=by rw [zzd];omega
  have e:=zzg hb
  have:=b _ _ e (zzE _)
  have:=h1 _ _ e z
  omega
 ·exact z
 ·have hb:i<xs.toList.length:=by rw [zzd];omega
  have e:=zzg hb
  have:=a _ _ e z
  have:=h2 _ _ e (zzE _)
  omega
def xG(ok:m7 t arr.toList)(hb:w.params.followText "set-order"=false){i:Nat}(hi:i<=arr.size):SetTable.below t.place (slt w t i)=i:=by
 have sz:t.place.size=arr.size:=by have:=ok.len;rwa [zzd,zzd] at this
 have mono:∀k x k' x',t.place.toList[k]?=some x->t.place.toList[k']?=some x'->k<k'->x<x':=λk x k' x' e e' h=>by
  obtain⟨a,rfl⟩:=zzH.1 e
  obtain⟨b,rfl⟩:=zzH.1 e'
  exact List.pairwise_iff_getElem.1 ok.FV k k' a b h
 cases i with
 |zero=>exact sR ok.FV (Nat.zero_le _) (λk x _ h=>by omega) (λk x _ _=>Nat.zero_le _)
 |succ i=>
  have AW:i<t.place.toList.length:=by rw [zzd];omega
  have e:=zzg AW
  have sl:slt w t (i+1)=t.place.toList[i]+1:=by
   show(if w.params.followText "set-order" then 0 else t.place.toList.getD i 0+1)=_
   rw [hb,if_neg zzf,zzK,e]
   rfl
  rw [sl];refine sR ok.FV (by omega) (λk x ek h=>?_) (λk x ek h=>?_)
  ·by_cases z:k=i
   ·subst z;rw [e] at ek;cases ek;omega
   ·have:=mono _ _ _ _ ek e (by omega)
    omega
  ·exact mono _ _ _ _ e ek (by omega)
def zN(ho:s.heap.get? S=some o)(hd:o.data=.set arr ep t)(hf:t.fits arr.size=true)(ok:m7 t arr.toList)(hp:t.plain=true)(hl:t.led=(!w.params.followText "set-order")){i:Nat}(hi:i<=arr.size){Q:Option (Value×Nat)->Shared->Prop}(q:Q ((cH w S ep arr)[i]?.map λe=>(e.2,slt w t (i+1))) s):wpAny (model prog w) A (setNext S (slt w t i) i ep) Q E s:=by
 unfold setNext setsByText;refine zzA (wpAny_setState_of ho hd hf (zzA (zzA (wpAny_askSetting (zzG ?_)))));dsimp only;show wpAny _ _ (if w.params.followText "set-order"=true then _ else _) _ _ s;cases hb:w.params.followText "set-order" with
 |true=>
  rw [if_pos rfl,if_neg (by simp)];unfold setWalk setsByText;refine zzA (zzA (wpAny_setState_of ho hd hf (zzA (zzA (wpAny_askSetting (zzG ?_))))));show wpAny _ _ (if w.params.followText "set-order"=true then _ else _) _ _ s;rw [hb,if_pos rfl];refine zzA (wpAny_askSetting (zzG (zzG ?_)));have s0:∀i,slt w t i=0:=λi=>by cases i<;>simp [slt,hb]
  unfold cH at q;rw [hb,if_pos rfl,s0] at q;rw [s0];exact q
 |false=>
  rw [if_neg zzf];rw [if_neg λz=>by
   have y:(!t.plain&&decide (arr.size>1))=true:=z
   rw [hp] at y;simp at y]
  refine zzA ?_;show wpAny _ _ (if(!t.led&&!arr.isEmpty)=true then unsupported _ else pure ()) _ _ s;rw [hl,hb,if_neg (by simp)];refine zzG ?_;rw [xG ok hb hi];refine zzG ?_;unfold cH at q;rw [hb,if_neg zzf] at q;have sz:t.place.size=arr.size:=by have:=ok.len;rwa [zzd,zzd] at this
  cases e:arr[i]? with
  |none=>
   rw [e] at q;cases t.place[i]?<;>exact q
  |some x=>
   rw [e] at q;have AW:i<t.place.size:=by rw [sz];exact(Array.getElem?_eq_some_iff.1 e).1
   have e2:t.place[i]?=some t.place[i]:=by simp [AW]
   have e3:slt w t (i+1)=t.place[i]+1:=by
    show(if w.params.followText "set-order" then 0 else t.place.toList.getD i 0+1)=_
    rw [hb,if_neg zzf,zzK,Array.getElem?_toList,e2]
    rfl
   rw [e3] at q;rw [e2];exact q
def MZ(ho:s.heap.get? S=some o)(hd:o.data=.set arr ep t)(hf:t.fits arr.size=true)(ok:m7 t arr.toList)(hp:t.plain=true)(hl:t.led=(!w.params.followText "set-order")){i:Nat}{e:Int×Value}(hi:(cH w S ep arr)[i]?=some e){Q:Option (Value×Nat)->Shared->Prop}(q:Q (some (e.2,slt w t (i+1))) s):wpAny (model prog w) A (setNext S (slt w t i) i ep) Q E s:=
 zN ho hd hf ok hp hl (by rw [<-fb w S ep arr];exact Nat.le_of_lt (Array.getElem?_eq_some_iff.1 hi).1) (by rw [hi];exact q)
def LZ(ho:s.heap.get? S=some o)(hd:o.data=.set arr ep t)(hf:t.fits arr.size=true)(ok:m7 t arr.toList)(hp:t.plain=true)(hl:t.led=(!w.params.followText "set-order")){Q:Option (Value×Nat)->Shared->Prop}(q:Q none s):wpAny (model prog w) A (setNext S (slt w t arr.size) arr.size ep) Q E s:=
 zN ho hd hf ok hp hl (zzE _) (by rw [Array.getElem?_eq_none (by rw [fb];exact zzE _)];exact q)
def C3{Q:Option Value->Shared->Prop}{i:Nat}{e:Int×Value}(st:Od w s.heap it S t i arr.size ep)(ho:s.heap.get? S=some o)(hd:o.data=.set arr ep t)(hf:t.fits arr.size=true)(ok:m7 t arr.toList)(hp:t.plain=true)(hl:t.led=(!w.params.followText "set-order"))(hi:(cH w S ep arr)[i]?=some e)(hS:S≠it)
 (q:∀h',Od w h' it S t (i+1) arr.size ep->Heap.SameBut it s.heap h'->Q (some e.2) {s with heap:=h'}):wpAny (model prog w) A (pyNext (.ref it)) Q E s:=by
 have T:s.TypeIs (.ref it) "set_iterator":=⟨_,st,rfl⟩
 have CN:i<arr.size:=by rw [<-fb w S ep arr];exact(Array.getElem?_eq_some_iff.1 hi).1
 unfold pyNext;refine zzA (wpAny_attempt (wpAny_callSpecial?_slot (name:=Str.ofString "__next__") T jb (wpAny_call_entry jb T rS ?_ (w8 _))));refine zzA (zzG (zzA (wpAny_fieldsOf st rfl ?_)));show wpAny _ _ (setEntries S>>=λz=>_) _ _ s;refine zzA (wpAny_setEntries_of ho hd hf ?_);rw [if_neg (by simp)];show wpAny _ _ (setNext S (slt w t i) i ep>>=λz=>_) _ _ s
 refine zzA (MZ ho hd hf ok hp hl hi ?_);show wpAny _ _ (setField (.ref it) 0 (rawInt (slt w t (i+1)))>>=λ_=>_) _ _ s
 refine zzA (wpAny_setField_rec st (by simp) λh1 e1 s1=>?_)
 refine zzA (wpAny_setField_rec (s:={s with heap:=h1}) e1 (by simp) λh2 e2 s2=>?_)
 exact zzG ⟨_,rfl,zzG (q h2 e2 (s1.trans s2))⟩
def Iv{Q:Option Value->Shared->Prop}(hh:A.handled=none)(st:Od w s.heap it S t arr.size arr.size ep)(ho:s.heap.get? S=some o)(hd:o.data=.set arr ep t)(hf:t.fits arr.size=true)(ok:m7 t arr.toList)(hp:t.plain=true)(hl:t.led=(!w.params.followText "set-order"))
 (q:∀h',Heap.ExtBut it s.heap h'->Q none {s with heap:=h'}):wpAny (model prog w) A (pyNext (.ref it)) Q E s:=by
 have T:s.TypeIs (.ref it) "set_iterator":=⟨_,st,rfl⟩
 unfold pyNext;refine zzA (wpAny_attempt (wpAny_callSpecial?_slot (name:=Str.ofString "__next__") T jb (wpAny_call_entry jb T rS ?_ (w8 _))));refine zzA (zzG (zzA (wpAny_fieldsOf st rfl ?_)));show wpAny _ _ (setEntries S>>=λz=>_) _ _ s;refine zzA (wpAny_setEntries_of ho hd hf ?_);rw [if_neg (by simp)];show wpAny _ _ (setNext S (slt w t arr.size) arr.size ep>>=λz=>_) _ _ s
 refine zzA (LZ ho hd hf ok hp hl ?_);show wpAny _ _ (setField (.ref it) 2 .none>>=λ_=>_) _ _ s
 refine zzA (wpAny_setField st rfl (by simp) ?_);show wpAny _ _ (newExc (.type "StopIteration") []>>=λ_=>_) _ _ _
 refine zzA ?_;simp! [newExc,newTuple];refine zzA (wpAny_newObj_type (zzA (m:=firstArgMember _ _) (wpAny_of_eq (a:=Value.none) (by first|rfl|(simp! [firstArgMember];rfl)) (wpAny_newObj_type ?_ (by size_fits)))) (by size_fits));simp! [raiseNew];refine zzA (wpAny_handled ?_);rw [show A.in1.handled=none from hh];refine zzA (zzG (wpAny_throw ?_));refine zzA (wpAny_isInstance (T:="StopIteration") (b:=true) ⟨_,zzX _ rfl,rfl⟩ isSubtype_stop ?_);exact zzG (q _ (((zzu ..).extBut.push _).push _))
end
end St
namespace St
open PySem PySem.Spec PyProof.Rows PySem.W L2
section
variable{prog:Program}{w:World}{A:Around}{E:Value->Shared->Prop}{s:Shared}{S:Addr}{o:Obj}{arr:Array (Int×Value)}{ep:Nat}{t:SetTable}
def BD(T:s.TypeIs (.ref S) "set"){Q:Bool->Shared->Prop}(h:Q false s):wpAny (model prog w) A (Builtin.List.listLengthHint (.ref S)) Q E s:=by
 unfold Builtin.List.listLengthHint;refine zzA (wpAny_specialOf T F.slot_set_len.lookup ?_);generalize hid:("set.__len__":String)=i0
 wp_delta
 rw [show splitId i0=some ("set","__len__") from by subst hid;decide+kernel];subst hid;refine zzA (wpAny_isInstance (T:="set") (b:=true) T sub_set_self ?_);refine wpAny_ite_split (λz=>absurd z (by decide)) (λ_=>?_)
 refine wpAny_ite_split (λ_=>?_) (λz=>absurd (by decide+kernel) z)
 exact zzA (wpAny_typeOf T (zzG h))
structure KR(w:World)(h:Heap)(S:Addr)(arr:Array (Int×Value))(ep:Nat)(t:SetTable):Prop where
 ex:∃o,h.get? S=some o/\o.ExactSet/\o.data=.set arr ep t
 fit:t.fits arr.size=true
 ok:m7 t arr.toList
 pl:t.plain=true
 led:t.led=(!w.params.followText "set-order")
 KA:arr.size<=1000
def KR.at{h h':Heap}(x:KR w h S arr ep t)(k:∀o,h.get? S=some o->h'.get? S=some o):KR w h' S arr ep t:=by
 obtain⟨o,a,b⟩:=x.ex
 exact⟨⟨o,k o a,b⟩,x.fit,x.ok,x.pl,x.led,x.KA⟩
def Az{R:Result->Shared->Prop}{Z I:Addr}{h1:Heap}(hh:A.handled=none)(QB:Z≠I)(hZ:S≠Z)(hI:S≠I)(res:Value)
 (hR:∀h' tk c,(∀b x,b≠Z->b≠I->h1.get? b=some x->h'.get? b=some x)->h'.get? Z=some (lO ((cH w S ep arr).map (·.2)) c)->R (.ok (.ret res)) {s with heap:=h',toks:=tk}):
 ∀(k i:Nat) (h:Heap) (tk c:Nat),arr.size-i=k->i<=arr.size->Od w h I S t i arr.size ep->KR w h S arr ep t->(∀b x,b≠Z->b≠I->h1.get? b=some x->h.get? b=some x)->h.get? Z=some (lO (((cH w S ep arr).map (·.2)).extract 0 i) c)->
  codeAny (model prog w) A (.builtin "list.extend.loop" ⟨[.ref Z,.ref I,res],[]⟩) R {s with heap:=h,toks:=tk}:=by
 have sz:((cH w S ep arr).map (·.2)).size=arr.size:=by rw [Array.size_map,fb]
 intro k
 induction k with
 |zero=>
  intro i h tk c hk hi st x kp eZ;have CN:i=arr.size:=by omega
  subst CN;obtain⟨⟨o,ho,hx,hd⟩,hf,ok,hp,hl,Hi⟩:=x
  refine codeAny_builtin PySem.F.entry_extend_loop ?_;rw [zz7 PySem.F.plain_extend_loop _];refine zzA (Iv (s:={s with heap:=h,toks:=tk}) (A:=A.in1) hh st ho hd hf ok hp hl λh' y=>?_)
  refine zzG (hR h' tk c (λb z q1 q2 q=>y b z q2 (kp b z q1 q2 q)) (y Z _ QB ?_))
  rw [eZ]
  congr 2
  rw [<-sz];exact Array.extract_size
 |succ k ih=>
  intro i h tk c hk hi st x kp eZ;have bH:i<(cH w S ep arr).size:=by rw [fb];omega
  obtain⟨⟨o,ho,hx,hd⟩,hf,ok,hp,hl,Hi⟩:=id x
  refine codeAny_builtin PySem.F.entry_extend_loop ?_;rw [zz7 PySem.F.plain_extend_loop _];refine zzA (C3 (s:={s with heap:=h,toks:=tk}) (A:=A.in1) (e:=(cH w S ep arr)[i]) st ho hd hf ok hp hl (zz2 bH) hI λh' fK sb=>?_)
  have RL:h'.get? Z=some (lO (((cH w S ep arr).map (·.2)).extract 0 i) c):=(sb.2 Z QB).trans eZ
  have up:∀b z,b≠Z->h'.get? b=some z->(h'.update Z (Obj.mapSeq (·.push ((cH w S ep arr)[i]).2))).get? b=some z:=λb z hb q=>(Heap.get?_update_other _ _ (Ne.symm hb)).trans q
  show wpAny _ A.in1 (updateSeq Z (·.push ((cH w S ep arr)[i]).2)>>=λ_=>_) _ _ _
  have ext:(((cH w S ep arr).map (·.2)).extract 0 i).push ((cH w S ep arr)[i]).2=((cH w S ep arr).map (·.2)).extract 0 (i+1):=by
   apply Array.toList_inj.1
   simp! [Array.toList_push,Array.toList_extract,List.extract_eq_take_drop,Array.toList_map,Nat.sub_zero,List.drop_zero];rw [List.take_succ,zzQ,Array.getElem?_toList,zz2 bH]
   rfl
  have Om:=Heap.get?_update_self (Obj.mapSeq (·.push ((cH w S ep arr)[i]).2)) RL rfl
  have LV:∃c',(h'.update Z (Obj.mapSeq (·.push ((cH w S ep arr)[i]).2))).get? Z=some (lO (((cH w S ep arr).map (·.2)).extract 0 (i+1)) c'):=by
   rw [<-ext];exact⟨_,Om⟩
  obtain⟨c',LV⟩:=LV
  refine zzA (wpAny_updateSeq (hz:=by
   have:(((cH w S ep arr).map (·.2)).extract 0 i).size<=1001:=by
    rw [Array.size_extract];omega
   exact zzU (m:=1001) this (by rw [sizeLine_eq];decide)) RL rfl (zzG ⟨plainId_quiet PySem.F.plain_extend_loop _,ih (i+1) _ tk c' (by omega) (by omega) (up I _ QB.symm fK) ((x.at λo e=>(sb.2 S hI).trans e).at λo e=>up S o hZ e) (λb z q1 q2 q=>up b z q1 ((sb.2 b q2).trans (kp b z q1 q2 q))) LV⟩))
def um{R:Result->Shared->Prop}{Z:Addr}(hh:A.handled=none)(x:KR w s.heap S arr ep t)(OM:S≠Z)(res:Value)(c:Nat)(eZ:s.heap.get? Z=some (lO #[] c))
 (hR:∀h' tk c,(∀b y,b≠Z->s.heap.get? b=some y->h'.get? b=some y)->h'.get? Z=some (lO ((cH w S ep arr).map (·.2)) c)->R (.ok (.ret res)) {s with heap:=h',toks:=tk}):
 wpAny (model prog w) A.in1 (Builtin.List.listExtendWith (.ref Z) (.ref S) res) (λfin s'=>match fin with|.done f=>R (.ok f) s'|.again c'=>c'.quiet=true/\codeAny (model prog w) A c' R s') (λe s'=>R (.error e) s') s:=by
 obtain⟨o,ho,hx,hd⟩:=x.ex
 have T:s.TypeIs (.ref S) "set":=⟨o,ho,hx.1⟩
 have zI:Z<(zz9 s):=zzO eZ
 have sI:S<(zz9 s):=zzO ho
 have kp:∀b y,s.heap.get? b=some y->(s.heap.push (KY 0 0 arr.size ep S)).get? b=some y:=λb y q=>zzB _ q
 have eI:(s.heap.push (KY 0 0 arr.size ep S)).get? (zz9 s)=some (KY 0 0 arr.size ep S):=zzX _ rfl
 have QS:((cH w S ep arr).map (·.2)).extract 0 0=#[]:=by simp
 have key:∀(h:Heap) (c1 tk:Nat),(∀b y,b≠Z->(s.heap.push (KY 0 0 arr.size ep S)).get? b=some y->h.get? b=some y)->h.get? Z=some (lO #[] c1)->codeAny (model prog w) A (.builtin "list.extend.loop" ⟨[.ref Z,.ref (zz9 s),res],[]⟩) R {s with heap:=h,toks:=tk}:=λh c1 tk hk e1=>
  Az (h1:=s.heap) (w:=w) (t:=t) hh (zzb zI) OM (zzb sI) res (λh' AE c q1 q2=>hR h' AE c (λb y hb q=>q1 b y hb (zzb (zzO q)) q) q2) arr.size 0 h tk c1 rfl (Nat.zero_le _) (hk _ _ (Nat.ne_of_gt zI) eI) (x.at λo e=>hk S o OM (kp S o e)) (λb y q1 q2 q=>hk b y q1 (kp b y q)) (by rw [QS];exact e1)
 unfold Builtin.List.listExtendWith;refine zzA (wpAny_typeOf T ?_);have e1:Builtin.List.listSameRef (.ref Z) (.ref S)=false:=by simp [Builtin.List.listSameRef,OM.symm]
 have e2:(Value.type "set"==Value.type "list")=false:=by decide
 have e3:(Value.type "set"==Value.type "tuple")=false:=by decide
 simp! [e1,e2,e3,Bool.or_false,zze,if_false];refine zzA (EK ho hx hd x.fit x.pl ?_);have OW:=kp _ _ eZ
 refine zzA (wpAny_holding (BD ⟨o,kp _ _ ho,hx.1⟩ ?_));refine wpAny_ite_split (λ_=>?_) (λ_=>zzG ⟨plainId_quiet PySem.F.plain_extend_loop _,key _ c _ (λb y _ q=>q) OW⟩)
 refine zzA (wpAny_rule (zzA ?_));show wpAny _ _ (updateSeq Z (·.push .none)>>=λ_=>updateSeq Z (·.pop)) _ _ _
 refine zzA (wpAny_updateSeq OW rfl ?_);have Om:=Heap.get?_update_self (Obj.mapSeq (·.push Value.none)) OW rfl
 refine wpAny_updateSeq (hz:=by seq_fits) Om rfl ?_;have LV:=Heap.get?_update_self (Obj.mapSeq (·.pop)) Om rfl
 exact zzG ⟨plainId_quiet PySem.F.plain_extend_loop _,key _ _ _ (λb y hb q=>(Heap.get?_update_other _ _ (Ne.symm hb)).trans ((Heap.get?_update_other _ _ (Ne.symm hb)).trans q)) LV⟩
def Nc(w:World)(s:Shared)(S:Addr)(ep:Nat)(arr:Array (Int×Value))(res:Result)(s':Shared):Prop:=∃h' tk c,res=.ok (.ret (.ref (zz9 s)))/\s'={s with heap:=h',toks:=tk}/\(∀b y,s.heap.get? b=some y->h'.get? b=some y)/\h'.get? (zz9 s)=some (lO ((cH w S ep arr).map (·.2)) c)
def qS{Q:List Value->Shared->Prop}(hh:A.handled=none)(x:KR w s.heap S arr ep t)
 (q:∀h' tk,(∀b y,s.heap.get? b=some y->h'.get? b=some y)->Q ((cH w S ep arr).toList.map (·.2)) {s with heap:=h',toks:=tk}):wpAny (model prog w) A (collect (.ref S)) Q E s:=by
 obtain⟨o,ho,hx,hd⟩:=x.ex
 have eZ:(s.heap.push (seqObj "list" #[] 0)).get? (zz9 s)=some (lO #[] 0):=zzX _ rfl
 have kp:∀b y,s.heap.get? b=some y->(s.heap.push (seqObj "list" #[] 0)).get? b=some y:=λb y q=>zzB _ q
 have main:codeAny (model prog w) A (.builtin "proto.collect" ⟨[.ref S],[]⟩) (Nc w s S ep arr) s:=by
  refine codeAny_builtin F.entry_proto_collect ?_;rw [zz7 F.plain_proto_collect _];show wpAny _ A.in1 (newList []>>=λl=>again (.builtin "list.__iadd__" ⟨[l,.ref S],[]⟩)) _ _ s
  refine zzA (wpAny_newList (zzG ⟨plainId_quiet F.plain_list_iadd _,codeAny_builtin F.entry_list_iadd ?_⟩) (Nat.zero_le _));rw [zz7 F.plain_list_iadd _];exact um (R:=Nc w s S ep arr) (s:={s with heap:=s.heap.push (seqObj "list" #[] 0)}) hh (x.at λo e=>kp S o e) (zzb (zzO ho)) (.ref (zz9 s)) 0 eZ λh' tk c q1 q2=>⟨h',tk,c,rfl,rfl,λb y e=>q1 b y (zzb (zzO e)) (kp b y e),q2⟩
 unfold collect;refine zzA (wpAny_runValue (codeAny_mono main λres s' hr=>?_));obtain⟨h',tk,c,rfl,rfl,k1,k2⟩:=hr
 show wpAny _ A (load (zz9 s)>>=λz=>_) _ _ _
 refine zzA (wpAny_load k2 (zzG ?_));show Q ((cH w S ep arr).map (·.2)).toList _;rw [Array.toList_map];exact q h' tk k1
end
end St
namespace L2
open PySem PySem.Spec PyProof.Rows PySem.W
end L2
namespace St
open PySem PySem.Spec PyProof.Rows PySem.W L2
noncomputable def NC(r c:Int):Int:=reduceHash (Builtin.Tuple.tupleHashOf [hashInt r,hashInt c])
noncomputable def F3(h:Int):Bool:=HP 7 h&&HP 31 h&&MX 31 h
def Lr:((List.range 6).all λ(r:Nat)=>(List.range 6).all λ(c:Nat)=>F3 (NC (r:Int) (c:Int)))=true:=by decide+kernel
def HU{P:Program}{w:World}{ns:List Int}(h:Ay ns=true):uG (tupleKeyHash (aF P w) (ns.map .inl)):=by
 match ns,h with
 |[r,c],h=>
  simp! [Ay,zza,zzN] at h;obtain⟨⟨h1,h2⟩,h3,h4⟩:=h
  obtain⟨r,rfl⟩:=zzw h1
  obtain⟨c,rfl⟩:=zzw h3
  have z:=zzT.1 (zzT.1 Lr r (List.mem_range.2 (by omega))) c (List.mem_range.2 (by omega))
  have e:tupleKeyHash (aF P w) ([(r:Int),(c:Int)].map .inl)=NC r c:=rfl
  rw [e];simp! [F3,zza] at z;exact⟨wc z.1.1,wc z.1.2,D2 z.2⟩
noncomputable def NT(p:Addr)(o:Obj):HO:=.ext λh=>h.get? p=some o
def RS(w:World)(p:Addr)(o:Obj)(us:List Value):Prop:=∃arr ep t,o.ExactSet/\o.data=.set arr ep t/\t.fits arr.size=true/\m7 t arr.toList/\t.plain=true/\t.led=(!w.params.followText "set-order")/\arr.size<=1000/\us=(cH w p ep arr).toList.map (·.2)
theorem wu{P:Program}{w:World}{h:Heap}{Z:List (V×List Int)}:∀{es:List (Int×Value)},(∀e∈es,∃v ns,RelV v e.2/\(v,ns)∈Z/\aJ (aF P w) h e (ns.map .inl))->
 ∃vs nss,Vals vs (es.map (·.2))/\Paired (λv ns=>(v,ns)∈Z) vs nss/\Paired (λe (ns:List Int)=>aJ (aF P w) h e (ns.map .inl)) es nss
 |[],_=>⟨[],[],.nil,.nil,.nil⟩
 |e::es,H=>by
  obtain⟨v,ns,h1,h2,h3⟩:=H e (zzP ..)
  obtain⟨vs,nss,a,b,c⟩:=wu λx hx=>H x (zzI _ hx)
  exact⟨v::vs,ns::nss,.cons h1 a,.cons h2 b,.cons h3 c⟩
theorem wm{α β:Type}{F:α->β->Prop}:∀{l:List α} {m:List β},Paired F l m->∀{a},a∈l->∃b∈m,F a b
 |_,_,.nil,_,h=>by cases h
 |_,_,.cons h t,a,hm=>by
  rcases zzm.1 hm with rfl|hm
  ·exact⟨_,zzP ..,h⟩
  ·obtain⟨b,hb,f⟩:=wm t hm
   exact⟨b,zzI _ hb,f⟩
theorem pE{α β:Type}{F:α->β->Prop}:∀{l:List α} {m:List β},Paired F l m->∀{b},b∈m->∃a∈l,F a b
 |_,_,.nil,_,h=>by cases h
 |_,_,.cons h t,a,hm=>by
  rcases zzm.1 hm with rfl|hm
  ·exact⟨_,zzP ..,h⟩
  ·obtain⟨b,hb,f⟩:=pE t hm
   exact⟨b,zzI _ hb,f⟩
theorem Cd{α β:Type}{F:α->β->Prop}:∀{l:List α} {m:List β},Paired F l m->∀{a b},(a,b)∈l.zip m->F a b
 |_,_,.nil,_,_,h=>by cases h
 |_,_,.cons h t,a,b,hm=>by
  rw [List.zip_cons_cons] at hm;rcases zzm.1 hm with e|hm
  ·cases e;exact h
  ·exact Cd t hm
theorem DB{a b:List Int}(e:a.map (Sum.inl (β:=Str))=b.map .inl):a=b:=(List.map_inj_right λx y z=>Sum.inl.inj z).1 e
theorem rq{P:Program}{w:World}{h:Heap}:∀{es:List (Int×Value)} {nss:List (List Int)},Paired (λe (ns:List Int)=>aJ (aF P w) h e (ns.map .inl)) es nss->(es.Pairwise λe e'=>∀k,aJ (aF P w) h e k->¬aJ (aF P w) h e' k)->nss.Nodup
 |_,_,.nil,_=>List.nodup_nil
 |_,_,.cons a t,q=>by
  obtain⟨q1,q2⟩:=List.pairwise_cons.1 q
  refine List.nodup_cons.2 ⟨λhm=>?_,rq t q2⟩
  obtain⟨e',he',z⟩:=pE t hm
  exact q1 e' he' _ a z
def yG{X:Cx}(hu:X.A.units+64<cLine)(hc:X.calm=true):bW X (.type "set") (λxs H Q=>∃a vs nss,∃U:List (List Int),xs=[V.ref a]/\fH X.K H a vs/\kZ X.K H vs nss/\(∀ns∈nss,ns∈U/\Ay ns=true)/\U.length<=18/\
 ∀p o us tM jv,H p=none->RS X.w p o us->Vals tM us->Paired (λv ns=>(v,ns)∈vs.zip nss) tM jv->jv.Nodup->(∀k,k∈jv↔k∈nss)->Q (.ref p) (upd H p (NT p o))):=by
 intro aa s σ H xs us Q I r h;obtain⟨a,vs,nss,U,rfl,hl,t,hU,Oj,q⟩:=h
 obtain⟨u,rfl,ru⟩:=vals1 r
 cases ru;obtain⟨ax,rv,p,hz⟩:=I.list hl
 have hn:nss.length=ax.length:=by rw [<-t.length,rv.length]
 have at_:∀(i:Nat) v,ax[i]?=some v->∃b,v=.ref b/\∃ns,nss[i]?=some ns/\(V.ref b,ns)∈vs.zip nss/\TK (aF X.prog X.w) s.heap (ns.map .inl) b:=by
  clear hz p hl hU q r hn
  intro i
  induction t generalizing ax i with
  |nil=>cases rv;intro v hv;cases hv
  |cons hd tl ih=>
   cases rv with
   |cons r1 r2=>
    obtain⟨b,rfl,hq,ff⟩:=hd
    cases(show _=Value.ref b from r1);cases i with
    |zero=>
     intro v hv;cases hv;obtain⟨is,rv',⟨o,g1,g2,n,g3⟩,_⟩:=I.tuple hq
     refine⟨b,rfl,_,rfl,zzP ..,o,is.toArray,n,g1,g2,g3,?_,?_⟩
     ·refine ju ?_;rw [List.map_map];exact rv'
     ·intro v hv;have:∀{ns:List Int} {is:List Value},Vals (ns.map V.int) is->∀v∈is,plainKind v=true:=by
       intro ns
       induction ns with
       |nil=>intro is h v hv;cases h;cases hv
       |cons n ns ih=>
        intro is h v hv;cases h with
        |cons h1 h2=>
         obtain⟨t,rfl⟩:=(show∃t,_=Value.int n t from h1)
         rcases zzm.1 hv with rfl|hv
         ·rfl
         ·exact ih h2 v hv
      exact this rv' v hv
    |succ i=>
     intro v hv;obtain⟨b',e,ns,e1,e2,e3⟩:=ih _ r2 i v hv
     exact⟨b',e,ns,e1,zzI _ e2,e3⟩
 refine yk (knd:=aF X.prog X.w) (l:=a) (items:=ax.toArray) (kf:=λi=>(nss.getD i []).map .inl) (U:=U.map λns=>ns.map .inl) (by omega) (I.ok.hd hc) p.isList (λi hi=>?_) (by rw [zzl];exact Oj) (λi v hv=>?_) λh' tk es S Hs mm kp=>?_
 ·have Lh:i<nss.length:=by rw [hn];simpa using hi
  have e:nss.getD i []=nss[i]:=by simp [Lh]
  have:=hU nss[i] (List.getElem_mem Lh)
  rw [e];exact⟨zzx.2 ⟨_,this.1,rfl⟩,HU this.2⟩
 ·have Uz:ax[i]?=some v:=by simpa using hv
  obtain⟨b,rfl,ns,e1,_,tk⟩:=at_ i v Uz
  refine⟨b,rfl,?_⟩;rw [zzK,e1];exact tk
 ·obtain⟨o,arr,ep,tb,ho,hx,hd,he,ok,hp,oJ,hm⟩:=id S.ex
  have ok:m7 tb arr.toList:=he▸ok
  have hlen:arr.toList.length<=18/\arr.toList.length<=tb.mask:=by
   rw [he];rcases hm with⟨m1,m2⟩|⟨m1,m2⟩<;>rw [m1]<;>omega
  have pm:=oH X.w (zz9 s) ep arr
  have each:∀e∈(cH X.w (zz9 s) ep arr).toList,∃v ns,RelV v e.2/\(v,ns)∈vs.zip nss/\aJ (aF X.prog X.w) h' e (ns.map .inl):=λe hm=>by
   have m5:e∈es:=he▸pm.subset hm
   obtain⟨j,hj⟩:=mm e m5
   have Bi:ax[j]?=some e.2:=by simpa using hj
   obtain⟨b,eb,ns,e1,e2,e3⟩:=at_ j _ Bi
   obtain⟨k,⟨b',rfl,AE⟩,_⟩:=S.key e m5
   cases eb;have SM:TK (aF X.prog X.w) h' (ns.map .inl) b:=by
    obtain⟨o,i,n,a1,a2⟩:=e3
    exact⟨o,i,n,kp _ _ a1,a2⟩
   have:=AE.inj SM
   subst this;exact⟨.ref b,ns,rfl,e2,b,rfl,SM⟩
  obtain⟨tM,jv,b1,b2,b3⟩:=wu each
  have sym:(cH X.w (zz9 s) ep arr).toList.Pairwise λe e'=>∀k,aJ (aF X.prog X.w) h' e k->¬aJ (aF X.prog X.w) h' e' k:=by
   have:=S.nd
   rw [<-he] at this;exact(pm.pairwise_iff λ{x y} z k a b=>z k b a).2 this
  refine⟨.ref (zz9 s),_,I.laid (a:=(zz9 s)) (o:=NT (zz9 s) o) (t':=tk) kp (zzE _) ⟨ho,⟨_,ho⟩,λh1 h2 q1 q2=>q2 _ q1⟩,rfl,q _ o _ tM jv (I.aK.fresh (zzE _)) ⟨arr,ep,tb,hx,hd,ok.fits hlen.2,ok,hp,oJ,by have:=hlen.1;rw [zzd] at this;omega,rfl⟩ b1 b2 (rq b3 sym) λk=>⟨λhk=>?_,λhk=>?_⟩⟩
  ·obtain⟨v,_,z⟩:=pE b2 hk
   exact(List.of_mem_zip z).2
  ·obtain⟨j,hj,e⟩:=List.mem_iff_getElem.1 hk
   obtain⟨e',he',z⟩:=(Hs (k.map .inl)).2 ⟨j,by rw [hn] at hj;simpa using hj,by rw [<-e];simp [hj]⟩
   obtain⟨ns,Ky,z'⟩:=wm b3 (pm.mem_iff.2 (he▸he'))
   rw [DB (z.inj z')];exact Ky
def pQ{X:Cx}(hc:X.calm=true):bW X (.builtin "sorted") (λxs H Q=>∃p o us tM jv,xs=[V.ref p]/\H p=some (NT p o)/\RS X.w p o us/\Vals tM us/\kZ X.K H tM jv/\tM.length<64/\∀l,H l=none->Q (.ref l) (upd H l (.lst (kL V.aH tM jv)))):=by
 intro aa s σ H xs us Q I r h;obtain⟨p,o,us',tM,jv,rfl,hp,⟨arr,ep,tb,hx,hd,hf,ok,hpl,hl,hz,rfl⟩,rv,t,Gu,q⟩:=h
 obtain⟨u,rfl,ru⟩:=vals1 r
 cases ru;have ho:s.heap.get? p=some o:=(I.aK p _ hp).1
 refine Calls.call_function_entry kind_sorted plain_sorted entry_sorted (args_sorted1 _) ?_;unfold Builtin.«sorted»;refine zzA (m:=checkCount "sorted" 1 1 _) (zzG (zzA (qS (show X.A.in1.handled=none from I.ok.hd hc) ⟨⟨o,ho,hx,hd⟩,hf,ok,hpl,hl,hz⟩ λh' tk kp=>?_)))
 have I1:=I.kept (t':=tk) (h':=h') kp
 exact lZ I1 rv (sN I1 rv t) Gu q
end St
namespace L2
open PySem PySem.Spec PyProof.Rows PySem.W
theorem run_bind{α β:Type}(lt:Nat->Nat->Bool)(f:α->KasT β):∀t:KasT α,aC lt (t.bind f)=aC lt (f (aC lt t))
 |.ret a=>rfl
 |.ask i j k=>run_bind lt f (k (lt i j))
structure Lo(n:Nat)(lt:Nat->Nat->Bool):Prop where
 t:∀a b,a<n->b<n->a≠b->lt a b=true\/lt b a=true
 a:∀a b,lt a b=true->lt b a=false
 r:∀a b c,lt a b=true->lt b c=true->lt a c=true
noncomputable abbrev gp(p:Array Nat)(i:Nat):Nat:=p.getD i 0
def Sg(lt:Nat->Nat->Bool)(p:Array Nat)(r:Nat):Prop:=∀i j,i<j->j<r->lt (gp p i) (gp p j)=true
section
variable{n:Nat}{lt:Nat->Nat->Bool}
def Pm.size{p:Array Nat}(h:Pm n p):p.size=n:=by
 have:=h.length_eq
 simpa using this
def Pm.ne{p:Array Nat}(h:Pm n p){i j:Nat}(hi:i<n)(hj:j<n)(hn:i≠j):gp p i≠gp p j:=by
 have nd:p.toList.Nodup:=h.nodup_iff.2 List.nodup_range
 have sz:=h.size
 intro e;rw [gp,gp,Array.getD_eq_getD_getElem?,Array.getD_eq_getD_getElem?,zz2 (by omega),zz2 (by omega)] at e;simp! [Option.getD_some] at e;have:=(List.getElem_inj nd (h₀:=by simpa [sz] using hi) (h₁:=by simpa [sz] using hj)).1 (by simpa using e)
 exact hn this
def Pm.or{p:Array Nat}(L:Lo n lt)(h:Pm n p){i j:Nat}(hi:i<n)(hj:j<n)(hn:i≠j)(f:lt (gp p i) (gp p j)=false):lt (gp p j) (gp p i)=true:=
 (L.t _ _ (h.lt (by omega) i) (h.lt (by omega) j) (h.ne hi hj hn)).resolve_left (by rw [f];exact zzf)
def Sg.one(p:Array Nat):Sg lt p 1:=λi j h1 h2=>by omega
def Sg.snoc(L:Lo n lt){p:Array Nat}{m:Nat}(h1:1<=m)(h:Sg lt p m)(e:lt (gp p (m-1)) (gp p m)=true):Sg lt p (m+1):=λi j vc hj=>by
 by_cases hm:j=m
 ·subst hm
  by_cases hi:i=j-1
  ·subst hi;exact e
  ·exact L.r _ _ _ (h i (j-1) (by omega) (by omega)) e
 ·exact h i j vc (by omega)
theorem qC(L:Lo n lt){p:Array Nat}(P:Pm n p):∀f m,1<=m->m+f<=n->Sg lt p m->m<=aC lt (kas_asc p f m)/\aC lt (kas_asc p f m)<=m+f/\Sg lt p (aC lt (kas_asc p f m))/\(aC lt (kas_asc p f m)<m+f->lt (gp p (aC lt (kas_asc p f m))) (gp p (aC lt (kas_asc p f m)-1))=true)
 |0,m,h1,h2,h3=>⟨zzE _,zzE _,h3,λz=>absurd z (Nat.lt_irrefl _)⟩
 |f+1,m,h1,h2,h3=>by
  unfold kas_asc;simp! [aC];cases e:lt (gp p m) (gp p (m-1)) with
  |true=>rw [if_pos rfl];exact⟨zzE _,Nat.le_add_right _ _,h3,λ_=>e⟩
  |false=>
   rw [if_neg zzf];have e2:=P.or L (by omega) (by omega) (by omega) e
   obtain⟨a,b,c,d⟩:=qC L P f (m+1) (by omega) (by omega) (h3.snoc L h1 e2)
   exact⟨by omega,by omega,c,λz=>d (by omega)⟩
def Dg(lt:Nat->Nat->Bool)(p:Array Nat)(r:Nat):Prop:=∀i j,i<j->j<r->lt (gp p j) (gp p i)=true
theorem sP(L:Lo n lt){p:Array Nat}(P:Pm n p):∀f m,1<=m->m+f<=n->Dg lt p m->∃m',aC lt (kas_desc f p m 0)=(p,m',0)/\m<=m'/\m'<=m+f/\Dg lt p m'
 |0,m,h1,h2,h3=>⟨m,rfl,zzE _,zzE _,h3⟩
 |f+1,m,h1,h2,h3=>by
  unfold kas_desc;simp! [aC];cases e:lt (gp p m) (gp p (m-1)) with
  |true=>
   rw [if_pos rfl,if_neg (Nat.lt_irrefl 0)];obtain⟨m',a,b,c,d⟩:=sP L P f (m+1) (by omega) (by omega) (λi j vc hj=>by
    by_cases hm:j=m
    ·subst hm
     by_cases hi:i=j-1
     ·subst hi;exact e
     ·exact L.r _ _ _ e (h3 i (j-1) (by omega) (by omega))
    ·exact h3 i j vc (by omega))
   exact⟨m',a,by omega,by omega,d⟩
  |false=>
   have e2:=P.or L (by omega) (by omega) (by omega) e
   rw [if_neg zzf];simp! [aC];rw [show lt (p.getD (m-1) 0) (p.getD m 0)=true from e2,if_pos rfl];exact⟨m,rfl,zzE _,by omega,h3⟩
def wY{p:Array Nat}{m:Nat}(h:m<=p.size)(k:Nat):gp (kas_rev p 0 m) k=if k<m then gp p (m-1-k) else gp p k:=by
 unfold kas_rev gp;rw [Array.getD_eq_getD_getElem?,getElem?_mirror_all h];simp! [Nat.zero_le,true_and,Nat.zero_add];split<;>rw [Array.getD_eq_getD_getElem?]
def Dg.rev{p:Array Nat}{m:Nat}(h:m<=p.size)(d:Dg lt p m):Sg lt (kas_rev p 0 m) m:=λi j vc hj=>by
 rw [wY h,wY h,if_pos (by omega),if_pos hj];exact d _ _ (by omega) (by omega)
def xH(L:Lo n lt)(h0:0<n){p:Array Nat}(P:Pm n p):Sg lt (aC lt (kas_count n p)).2 (aC lt (kas_count n p)).1/\Pm n (aC lt (kas_count n p)).2/\1<=(aC lt (kas_count n p)).1/\(aC lt (kas_count n p)).1<=n:=by
 unfold kas_count;rw [run_bind];obtain⟨a,b,c,d⟩:=qC L P (n-1) 1 (zzE _) (by omega) (Sg.one p)
 generalize aC lt (kas_asc p (n-1) 1)=m at a b c d
 split
 ·exact⟨c,P,a,by show m<=n;omega⟩
 ·rename_i hm;have m5:m≠n:=λz=>hm (by rw [z];exact beq_self_eq_true n)
  split
  ·rename_i h1;simp! [aC];rw [show lt (p.getD 0 0) (p.getD (m-1) 0)=true from c 0 (m-1) (by omega) (by omega),if_pos rfl];exact⟨c,P,a,by show m<=n;omega⟩
  ·have KU:m=1:=by omega
   subst KU;have e:=d (by omega)
   unfold kas_descPart;rw [run_bind];obtain⟨m',r,r1,r2,r3⟩:=sP L P (n-(1+1)) (1+1) (by omega) (by omega) (λi j vc hj=>by
    have TY:i=0:=by omega
    have SY:j=1:=by omega
    subst TY;subst SY;exact e)
   rw [r];dsimp only;rw [if_neg (Nat.lt_irrefl 0)];unfold kas_tail3;rw [run_bind];have P':=P.rev 0 m'
   obtain⟨a',b',c',_⟩:=qC L P' (n-m') m' (by omega) (by omega) (r3.rev (by rw [P.size];omega))
   simp! [aC];exact⟨c',P',by omega,by omega⟩
theorem jo(L:Lo n lt){p:Array Nat}(P:Pm n p){k:Nat}(hk:k<n)(S:Sg lt p k):∀f l r,r-l<=f->l<=r->r<=k->(∀i,i<l->lt (gp p i) (gp p k)=true)->(∀i,r<=i->i<k->lt (gp p k) (gp p i)=true)->
 aC lt (kas_place p k f l r)<=k/\(∀i,i<aC lt (kas_place p k f l r)->lt (gp p i) (gp p k)=true)/\∀i,aC lt (kas_place p k f l r)<=i->i<k->lt (gp p k) (gp p i)=true
 |0,l,r,h1,h2,h3,h4,h5=>by
  have hl:l=r:=by omega
  subst hl;exact⟨h3,h4,h5⟩
 |f+1,l,r,h1,h2,h3,h4,h5=>by
  unfold kas_place;split
  ·have hl:l=r:=by omega
   subst hl;exact⟨h3,h4,h5⟩
  ·simp! [aC];have bH:l<r:=by omega
   have m1:l<=(l+r)/2:=by omega
   have m2:(l+r)/2<r:=by omega
   generalize hm:(l+r)/2=m at m1 m2
   cases e:lt (gp p k) (gp p m) with
   |true=>
    rw [if_pos rfl];refine jo L P hk S f l m (by omega) m1 (by omega) h4 λi hi S6=>?_
    by_cases z:i=m
    ·subst z;exact e
    ·exact L.r _ _ _ e (S m i (by omega) S6)
   |false=>
    rw [if_neg zzf];have e2:=P.or L hk (by omega) (by omega) e
    refine jo L P hk S f (m+1) r (by omega) (by omega) h3 (λi hi=>?_) h5
    by_cases z:i=m
    ·subst z;exact e2
    ·exact L.r _ _ _ (S i m (by omega) (by omega)) e2
def vJ{p:Array Nat}{k x:Nat}(hk:k<p.size)(hx:x<=k)(i:Nat):gp (bubble p k (k-x)) i=if i=x then gp p k else if x<i/\i<=k then gp p (i-1) else gp p i:=by
 have g:∀(q:Array Nat) j,gp q j=(q[j]?).getD 0:=λq j=>Array.getD_eq_getD_getElem? ..
 rw [g,g,g,g,getElem?_bubble hk (k-x) (by omega),show k-(k-x)=x by omega];split
 ·rfl
 ·split<;>rfl
theorem wg(L:Lo n lt):∀f (p:Array Nat) k,k+f=n->Pm n p->Sg lt p k->Sg lt (aC lt (kas_bin f p k)) n
 |0,p,k,h,P,S=>by
  have:k=n:=by omega
  subst this;exact S
 |f+1,p,k,h,P,S=>by
  unfold kas_bin;rw [run_bind];obtain⟨a,b,c⟩:=jo L P (k:=k) (by omega) S k 0 k (by omega) (Nat.zero_le _) (zzE _) (λi hi=>absurd hi (Nat.not_lt_zero _)) (λi h1 h2=>by omega)
  generalize aC lt (kas_place p k k 0 k)=x at a b c
  refine wg L f _ (k+1) (by omega) (P.SA _ _) λi j vc hj=>?_
  have hs:k<p.size:=by rw [P.size];omega
  rw [vJ hs a,vJ hs a]
  by_cases hi:i=x
  ·rw [if_pos hi,if_neg (by omega),if_pos (by omega)];exact c _ (by omega) (by omega)
  ·rw [if_neg hi]
   by_cases Bi:j=x
   ·rw [if_pos Bi,if_neg (by omega)];exact b _ (by omega)
   ·rw [if_neg Bi]
    by_cases i2:x<i/\i<=k
    ·rw [if_pos i2,if_pos (by omega)];exact S _ _ (by omega) (by omega)
    ·rw [if_neg i2]
     by_cases j2:x<j/\j<=k
     ·rw [if_pos j2]
      by_cases z:i=j-1
      ·omega
      ·exact S _ _ (by omega) (by omega)
     ·rw [if_neg j2];exact S _ _ vc (by omega)
def nB(L:Lo n lt)(h0:0<n):(jm n lt).Pairwise λa b=>lt a b=true:=by
 have key:Sg lt (aC lt (kas_sort n)) n:=by
  unfold kas_sort;rw [run_bind];obtain⟨a,b,c,d⟩:=xH L h0 (p:=(List.range n).toArray) (List.Perm.refl _)
  generalize aC lt (kas_count n (List.range n).toArray)=r at a b c d
  split
  ·rw [Nat.max_eq_left c];exact wg L _ _ _ (by omega) b a
  ·have:r.1=n:=by omega
   rw [this] at a;exact a
 have P:Pm n (aC lt (kas_sort n)):=gC h0 lt
 have sz:=P.size
 rw [List.pairwise_iff_getElem];intro i j hi hj vc;have Bi:j<(aC lt (kas_sort n)).size:=by simpa [jm] using hj
 have:=key i j vc (by omega)
 simpa [gp,jm,Array.getD_eq_getD_getElem?,zz2 Bi,zz2 (Nat.lt_trans vc Bi)] using this
end
end L2
namespace Ci
open PySem L2
theorem mS:∀{a b c:List Int},HT.lexLt a b=true->HT.lexLt b c=true->HT.lexLt a c=true
 |[],[],_,h,_=>by cases h
 |[],_::_,[],_,h=>by cases h
 |[],_::_,_::_,_,_=>rfl
 |_::_,[],_,h,_=>by cases h
 |_::_,_::_,[],_,h=>by cases h
 |x::a,y::b,z::c,h,k=>by
  simp! [HT.lexLt] at h k⊢;split at h
  ·subst x;split at k
   ·subst y;rw [if_pos rfl];exact mS h k
   ·rw [if_neg ‹_›];exact k
  ·have h:=zzY h
   split at k
   ·subst y;rw [if_neg ‹_›];exact zzh h
   ·have k:=zzY k
    rw [if_neg (by omega)];exact zzh (by omega)
theorem kD:∀{a b:List Int},HT.lexLt a b=true->HT.lexLt b a=false
 |[],[],h=>by cases h
 |[],_::_,_=>rfl
 |_::_,[],h=>by cases h
 |x::a,y::b,h=>by
  simp! [HT.lexLt] at h⊢;split at h
  ·subst x;rw [if_pos rfl];exact kD h
  ·have h:=zzY h
   rw [if_neg (by omega)];exact zz0 (by omega)
theorem uK:∀{a b:List Int},a≠b->HT.lexLt a b=true\/HT.lexLt b a=true
 |[],[],h=>absurd rfl h
 |[],_::_,_=>.inl rfl
 |_::_,[],_=>.inr rfl
 |x::a,y::b,h=>by
  simp! [HT.lexLt]
  by_cases e:x=y
  ·subst x;rw [if_pos rfl,if_pos rfl];exact uK λz=>h (by rw [z])
  ·rw [if_neg e,if_neg (λz=>e z.symm)]
   by_cases l:x<y
   ·exact .inl (zzh l)
   ·exact .inr (zzh (by omega))
def vm(a:List Int):HT.lexLt a a=false:=by
 cases h:HT.lexLt a a with
 |false=>rfl
 |true=>have:=kD h;rw [h] at this;exact this
abbrev yV(L:List (List Int)):Prop:=L.Pairwise λa b=>HT.lexLt a b=true
def yV.nodup{L:List (List Int)}(h:yV L):L.Nodup:=h.imp λ{a b} e z=>by rw [z,vm] at e;cases e
theorem qA:∀{L M:List (List Int)},yV L->yV M->(∀x,x∈L↔x∈M)->L=M
 |[],[],_,_,_=>rfl
 |[],y::M,_,_,h=>absurd ((h y).2 (zzP ..)) (by simp)
 |x::L,[],_,_,h=>absurd ((h x).1 (zzP ..)) (by simp)
 |x::L,y::M,hL,hM,h=>by
  have pL:=List.pairwise_cons.1 hL
  have pM:=List.pairwise_cons.1 hM
  have e:x=y:=by
   rcases zzm.1 ((h x).1 (zzP ..)) with z|z
   ·exact z
   ·rcases zzm.1 ((h y).2 (zzP ..)) with w|w
    ·exact w.symm
    ·have:=kD (pM.1 x z)
     rw [pL.1 y w] at this;cases this
  subst e;rw [qA pL.2 pM.2 λz=>?_]
  constructor
  ·intro hz;rcases zzm.1 ((h z).1 (zzI _ hz)) with w|w
   ·subst w;have:=pL.1 z hz;rw [vm] at this;cases this
   ·exact w
  ·intro hz;rcases zzm.1 ((h z).2 (zzI _ hz)) with w|w
   ·subst w;have:=pM.1 z hz;rw [vm] at this;cases this
   ·exact w
def range_getD{α:Type}(d:α)(l:List α):(List.range l.length).map (λi=>l.getD i d)=l:=by
 refine List.ext_getElem (by simp) λi h1 h2=>?_
 simp [zzK,zzg h2]
def EG{α:Type}(d:α)(f:α->PV)(g:α->List Int){l:List α}(nd:(l.map g).Nodup):kL PV.aH (l.map f) (l.map g)=(kL d l (l.map g)).map f/\(kL d l (l.map g)).Perm l/\yV ((kL d l (l.map g)).map g):=by
 by_cases h:l.length<2
 ·unfold kL;rw [if_pos h,if_pos (by simpa using h)];refine⟨rfl,.refl _,?_⟩
  match l,h with
  |[],_=>exact .nil
  |[a],_=>exact List.pairwise_singleton ..
  |_::_::_,h=>simp! [zzL] at h;omega
 ·have gl:∀i,i<l.length->(l.map g).getD i []=g (l.getD i d):=λi hi=>by simp [zzK,zzg hi]
  have P:=gC (n:=l.length) (by omega) λi j=>HT.lexLt ((l.map g).getD i []) ((l.map g).getD j [])
  have U:=nB (n:=l.length) (lt:=λi j=>HT.lexLt ((l.map g).getD i []) ((l.map g).getD j [])) ⟨λa b ha hb hn=>uK λz=>hn (by
   have ha:a<(l.map g).length:=by simpa using ha
   have hb:b<(l.map g).length:=by simpa using hb
   simp! [zzK,zzg ha,zzg hb,Option.getD_some] at z;exact(List.getElem_inj nd).1 z),λa b=>kD,λa b c=>mS⟩ (by omega)
  unfold kL;rw [if_neg h,if_neg (by simpa using h),zzl,List.map_map];refine⟨List.map_congr_left λi hi=>?_,?_,List.pairwise_map.2 (List.pairwise_map.2 (List.Pairwise.imp_of_mem (λ{a b} ha hb e=>?_) U))⟩
  ·have hl:i<l.length:=List.mem_range.1 (P.mem_iff.1 hi)
   simp [zzK,zzg hl]
  ·have Q:=P.map λi=>l.getD i d
   rw [range_getD] at Q;exact Q
  ·rw [gl a (List.mem_range.1 (P.mem_iff.1 ha)),gl b (List.mem_range.1 (P.mem_iff.1 hb))] at e;exact e
theorem mD{k z:List Int}:∀{l:List (List Int)},z∈mh k l↔z=k\/z∈l
 |[]=>by simp [mh]
 |x::l=>by
  unfold mh;split
  ·rename_i e;subst e
   constructor
   ·exact .inr
   ·rintro (rfl|h)
    ·exact zzP ..
    ·exact h
  ·split
   ·exact zzm
   ·rw [zzm,mD,zzm]
    constructor
    ·rintro (h|h|h)
     ·exact .inr (.inl h)
     ·exact .inl h
     ·exact .inr (.inr h)
    ·rintro (h|h|h)
     ·exact .inr (.inl h)
     ·exact .inl h
     ·exact .inr (.inr h)
theorem ra{k:List Int}:∀{l:List (List Int)},yV l->yV (mh k l)
 |[],_=>List.pairwise_singleton ..
 |x::l,h=>by
  have p:=List.pairwise_cons.1 h
  unfold mh;split
  ·exact h
  ·rename_i ff;split
   ·rename_i hl;refine List.pairwise_cons.2 ⟨λz hz=>?_,h⟩
    rcases zzm.1 hz with e|hz
    ·rw [e];exact hl
    ·exact mS hl (p.1 z hz)
   ·rename_i hl;refine List.pairwise_cons.2 ⟨λz hz=>?_,ra p.2⟩
    rcases mD.1 hz with e|hz
    ·rw [e];rcases uK ff with q|q
     ·exact absurd q hl
     ·exact q
    ·exact p.1 z hz
theorem cF{z:List Int}:∀{l:List (List Int)},z∈cb l↔z∈l
 |[]=>by simp [cb]
 |x::l=>by
  show z∈mh x (cb l)↔_
  rw [mD,cF,zzm]
theorem eU:∀{l:List (List Int)},yV (cb l)
 |[]=>.nil
 |x::l=>ra (k:=x) (eU (l:=l))
def wU{L nss:List (List Int)}(nd:L.Nodup)(m:∀k,k∈L↔k∈nss):kL PV.aH (L.map ah) L=(cb nss).map ah:=by
 have U:=EG [] ah id (l:=L) (by rw [List.map_id];exact nd)
 rw [List.map_id] at U;rw [U.1];have V:=U.2.2
 rw [List.map_id] at V;rw [qA V eU λx=>by rw [U.2.1.mem_iff,m,cF]]
section
variable{Γ:Pg}{X:Cx}{W:Wd}{F:bb}{N:List Str}{sc:Scope}{k:Nat}{G:Hp}
theorem vV:∀{xs:List PV} {nss:List (List Int)} {vs:List V},fG xs=some nss->aj W G xs vs->∀{v ns},(v,ns)∈vs.zip nss->Rep W G (ah ns) v
 |[],_,_,e,l,v,ns,h=>by cases e;simp! [aj] at l;subst l;cases h
 |x::xs,nss,vs,e,l,v,ns,h=>by
  unfold fG at e;obtain⟨k,hk,e⟩:=zzZ.mp e
  obtain⟨r,hr,rfl⟩:=zzJ.mp e
  obtain⟨v',vr,rfl,h1,h2⟩:=l.bI
  rw [eg hk] at h1;rw [List.zip_cons_cons] at h;rcases zzm.1 h with e|h
  ·cases e;exact h1
  ·exact vV hr h2 h
theorem vW{Z:List (V×List Int)}(hZ:∀{v ns},(v,ns)∈Z->Rep W G (ah ns) v):∀{vs:List V} {nss:List (List Int)},Paired (λv ns=>(v,ns)∈Z) vs nss->aj W G (nss.map ah) vs
 |_,_,.nil=>.nil
 |_,_,.cons h t=>.cons (hZ h) (vW hZ t)
theorem CM(C:dF Γ F W N sc k X){a:E}{pa:Expr}{p1 p2 pos PJ:Pos}(hg:gR sc "sorted"=true)(hm:Γ.bs.contains "sorted"=true)(TX:gR sc "set"=true)(MQ:Γ.bs.contains "set"=true)(ha:GE X W F a pa)(he:starEach [pa] X.env=(false,eval pa X.env)::starEach [] X.env):
 GE X W F (.tR a) (.Call (.Name "sorted" p1) [.Call (.Name "set" p2) [pa] [] PJ] [] pos):=
 (dW (St.pQ C.calm) (ei C hg) (C.bs _ (zzn.mp hm)) (by decide+kernel) (bS (fg (St.yG (by have:=C.room.un;omega) C.calm) (ei C TX) (C.bs _ (zzn.mp MQ)) (by decide+kernel) (bS ha dc he) (he:=he)) dc rfl)).imp λσ H Q h=>by
  obtain⟨H0,G,env,sr,o⟩:=h
  rw [aD] at o;refine one sr o λp v G1 H1 g t bR o1=>?_
  cases p with
  |lst xs=>
   obtain⟨l,vs,rfl,h1,l1⟩:=t.top.lst bR.sub
   cases hk:fG xs with
   |none=>
    have o2:Out X W ((Res.of (fG xs)).bind _) σ G1 H1 _:=o1
    rw [hk] at o2;exact zzk o2
   |some nss=>
    have o2:Out X W ((Res.of (fG xs)).bind _) σ G1 H1 _:=o1
    rw [hk] at o2
    by_cases hc:(nss.all St.Ay&&decide ((cb nss).length<=18))=true
    ·have o3:Out X W (if(nss.all St.Ay&&decide ((cb nss).length<=18))=true then Res.ok _ else .bad) σ G1 H1 _:=o2
     rw [if_pos hc] at o3;rw [zza,zzN] at hc;have ne:nss.all (λk=>!k.isEmpty)=true:=zzT.2 λz hz=>by
      have:=zzT.1 hc.1 z hz
      match z,this with
      |_::_,_=>rfl
     refine⟨l,vs,nss,cb nss,rfl,sX C.K h1,pN bR.sub hk l1 ne,λns hn=>⟨cF.2 hn,zzT.1 hc.1 ns hn⟩,hc.2,λp o us tM jv hp so rv pz nd mem=>?_⟩
     have g1:=aB.M4 (W:=W) (o:=St.NT p o) bR.sub hp
     have hlen:jv.length<=18:=zzU (St.d8 nd λk hk=>cF.2 ((mem k).1 hk)) hc.2
     refine⟨p,o,us,tM,jv,rfl,aq,so,rv,L2.Paired.uv pz λv ns hz=>St.Cd (pN g1.sub hk l1 ne) hz,by rw [pz.length];omega,λx hx=>?_⟩
     have l2:=w4 (nss:=jv) (vW (vV hk l1) pz)
     rw [wU nd mem] at l2;exact cZ.lst (W:=W) (G:=G1) (λw G' H' g' jg=>o3 w G' H' (g.trans (g1.trans g')) (.of jg)) g1.sub l2 hx
    ·have o3:Out X W (if(nss.all St.Ay&&decide ((cb nss).length<=18))=true then Res.ok _ else .bad) σ G1 H1 _:=o2
     rw [if_neg hc] at o3;exact zzk o3
  |_=>exact zzk o1
end
end Ci
namespace L2
open PySem PySem.Spec PyProof.Rows
end L2
namespace Ci
open PySem L2
section
variable{Γ:Pg}{X:Cx}{W:Wd}{F:bb}{N:List Str}{sc:Scope}{k:Nat}
def D9(C:dF Γ F W N sc k X){a:E}{pa:Expr}{c1:Nat}{c2 q1 q4 q5:Pos}(hg:gR sc "min"=true)(hm:Γ.bs.contains "min"=true)(ha:GE X W F a pa)(hs:starEach [pa] X.env=(false,eval pa X.env)::starEach [] X.env):
 GE X W F (.jx a) (.Call (.Name "min" q1) [pa] [⟨some "default",.Constant .none c1 c2,q4⟩] q5):=by
 intro aa s σ H Q I h;obtain⟨H0,G,env,sr,o⟩:=h
 rw [aD] at o;refine wpAny_Call_Name_kw (eC I (ei C hg) (C.bs _ (zzn.mp hm)) (u:=.builtin "min") (by decide+kernel) ?_);refine PyProof.Rows.callWith_kw (bP ((bS ha dc hs) q5 aa s σ H (λvs H1=>∃p ns,vs=[.ref p]/\fH X.K H1 p (ns.map V.int)/\Q (jx ns) H1) I ?_) λus s1 ⟨vs,H1,I1,r1,q1⟩=>?_) (by rw [hs];rfl) (by rw [hs];rfl)
 ·refine one sr o λx v G1 H1 g1 t bR o1=>?_
  cases x with
  |lst xs=>
   obtain⟨a',vs,rfl,h1,l1⟩:=t.top.lst bR.sub
   have o2:Out X W ((Res.of (intsOf xs)).bind _) σ G1 H1 _:=o1
   cases e:intsOf xs with
   |none=>rw [e] at o2;exact zzk o2
   |some ns=>
    rw [e] at o2;cases iG l1 e;refine⟨a',ns,rfl,sX C.K h1,?_⟩;have o3:Out X W (Res.ok (if ns=[] then PV.aH else .int (aY ns (ns.length-1)))) σ G1 H1 _:=o2
    unfold jx
    by_cases hn:ns=[]
    ·rw [if_pos hn] at o3⊢;exact o3 _ G1 H1 g1 (.of .n)
    ·rw [if_neg hn] at o3⊢;exact o3 _ G1 H1 g1 (.of .i)
  |_=>exact zzk o1
 ·obtain⟨p,ns,rfl,hp,q⟩:=q1
  obtain⟨u,rfl,ru⟩:=vals1 r1
  cases ru;refine PyProof.Rows.kws_cons (bP (A7 aa s1 σ H1 (λv2 H2=>v2=.aH/\H2=H1) I1 ⟨rfl,rfl⟩) λu s2 hu=>PyProof.Rows.kws_nil ?_)
  obtain⟨v2,H2,I2,ru2,rfl,rfl⟩:=hu
  cases ru2;exact yT C.calm I2 hp q
def Js{X:Cx}{e:E}{p:Expr}(h:GE X W F e p)(he:∀whole,isTrue p X.env whole=(do let v<-whole;standAt p.pos;holding [v] (truthy v))):GT X W F e p:=
 L2.PT.imp (HQ h he) λσ H Q hq=>Gk σ H Q hq
structure Rc(X:Cx)(W:Wd)(F:bb)(e:E)(p:Expr):Prop where
 ge:GE X W F e p
 gt:fQ e=true->GT X W F e p
 gw:fQ e=true->∀op vs pos,p=.BoolOp op vs pos->GW X W F e p
def bA{X:Cx}{e:E}{p:Expr}(h:GE X W F e p)(he:∀whole,isTrue p X.env whole=(do let v<-whole;standAt p.pos;holding [v] (truthy v)))(hb:∀op vs pos,p≠.BoolOp op vs pos):Rc X W F e p:=
 ⟨h,λ_=>Js h he,λ_ op vs pos e=>absurd e (hb op vs pos)⟩
def isTrue_plain{p:Expr}{env:Env}(h:(match p with|.UnaryOp .Not _ _=>false|.BoolOp .. =>false|.IfExp .. =>false|.Compare .. =>false|_=>true)=true):∀whole,isTrue p env whole=(do let v<-whole;standAt p.pos;holding [v] (truthy v)):=by
 intro whole;cases p with
 |UnaryOp op a pos=>cases op<;>first|rfl|(exact bG h)
 |BoolOp _ _ _=>exact bG h
 |IfExp _ _ _ _=>exact bG h
 |Compare _ _ _ _=>exact bG h
 |_=>rfl
theorem j9{N:List Str}{sc:Scope}{g:Str}{idx aU:List Nat}:∀{es:Es} {ps:List Expr},wL Γ N sc g idx aU es ps=true->∀env pos,(backTo pos (starEach ps env)).any (·.1)=false
 |.cons e es,p::ps,h,env,pos=>by
  replace h:=ay h
  rw [notStar h.1];show(false||(backTo pos (starEach ps env)).any (·.1))=false
  rw [j9 h.2]
  rfl
 |.nil,ps,h,env,pos=>by
  obtain⟨p,e1,h⟩:=ak h
  obtain⟨l,e2,_⟩:=ak h
  rw [dj e1];obtain⟨_,rfl⟩:=ux e2
  rfl
 |.cons _ _,[],h,_,_=>bG h
def IG{X:Cx}{q:PV}{c:Const}{kk:Nat}{pos:Pos}(h:Mi q c=true):GE X W F (.cst q) (.Constant c kk pos):=by
 cases q with
 |aH=>cases A6 h;exact iS A7 λG=>.n
 |bl b=>
  obtain⟨x,e,h⟩:=ak h
  cases HZ e;cases eq_of_beq h;exact iS Nf λG=>.b
 |int i=>
  obtain⟨x,e,h⟩:=ak h
  cases AU e;cases eq_of_beq h;exact iS zL λG=>.i
 |str z=>
  obtain⟨x,e,h⟩:=ak h
  cases B9 e;cases eq_of_beq h;exact iS B6 λG=>.s
 |_=>exact bG h
def zm{α:Type}{r:Res α}{c:α->Prop} [∀a,Decidable (c a)]{f:α->Res (List PV)}{q:PV}(e:(r.bind λa=>if c a then(f a).bind λys=>.ok (.lst ys) else .bad)=.ok q):∃ys,q=.lst ys:=by
 obtain⟨ps,_,e⟩:=Res.aR e
 split at e
 ·obtain⟨ys,_,e⟩:=Res.aR e
  cases e;exact⟨_,rfl⟩
 ·cases e
def vC{kk:Nat}{aU:List Nat}{tg:Tg}{it:I}{elt:E}(env:Sl)(q:PV)(e:aD F (.comp kk aU tg it elt) env=.ok q):∃ys,q=.lst ys:=by
 rw [aD] at e;exact zm e
def n5{kk:Nat}{aU:List Nat}{tg:Tg}{it:I}{c elt:E}(env:Sl)(q:PV)(e:aD F (.cG kk aU tg it c elt) env=.ok q):∃ys,q=.lst ys:=by
 rw [aD] at e;exact zm e
mutual
theorem bB:∀(e:E) {Γ:Pg} {N:List Str} {sc:Scope} {X:Cx} (C:dF Γ F W N sc k X) (p:Expr),br Γ N sc e p=true->Rc X W F e p
 |.var i,Γ,N,sc,X,C,p,h=>by
  obtain⟨x,_,rfl,h9⟩:=Lm h
  clear h
  have h:=h9
  clear h9
  exact bA (Hq C h) (λ_=>rfl) (λ_ _ _ z=>nomatch z)
 |.iM i,Γ,N,sc,X,C,p,h=>by
  obtain⟨x,_,rfl,h9⟩:=Lm h
  clear h
  have h:=h9
  clear h9
  exact bA (G9 C h) (λ_=>rfl) (λ_ _ _ z=>nomatch z)
 |.cst q,Γ,N,sc,X,C,p,h=>by
  obtain⟨c,_,_,rfl,h9⟩:=SJ h
  clear h
  have h:=h9
  clear h9
  refine bA (IG h) (λ_=>rfl) (λ_ _ _ z=>nomatch z)
 |.glob g q,Γ,N,sc,X,C,p,h=>by
  obtain⟨x,_,rfl,h9⟩:=Lm h
  clear h
  have h:=h9
  clear h9
  exact bA (E9 C h) (λ_=>rfl) (λ_ _ _ z=>nomatch z)
 |.call f as,Γ,N,sc,X,C,p,h=>by
  obtain⟨g,args,_,_,rfl,h9⟩:=Cu h
  clear h
  have h:=h9
  clear h9
  replace h:=ay h
  try simp! [zza,zzy] at h
  obtain⟨⟨⟨⟨⟨rfl,h1⟩,h2⟩,h3⟩,h4⟩,h5⟩:=h
  have ga:=mH as C args h5
  cases as with
  |nil=>
   cases args with
   |nil=>exact bA (Be C h1 h2 h3) (λ_=>rfl) (λ_ _ _ z=>nomatch z)
   |cons _ _=>exact bG h5
  |cons e es=>
   cases args with
   |nil=>exact bG h5
   |cons q qs=>
    have h6:=ay h5
    exact bA (C0 C h1 h2 h3 h4 ga (notStar h6.1 _ _) (fD h6.2 _ _)) (λ_=>rfl) (λ_ _ _ z=>nomatch z)
 |.j3 i as,Γ,N,sc,X,C,p,h=>by
  obtain⟨g,args,_,_,rfl,h9⟩:=Cu h
  clear h
  have h:=h9
  clear h9
  replace h:=ay h
  simp! [zza] at h;obtain⟨⟨⟨⟨⟨h1,h2⟩,h3⟩,h4⟩,h6⟩,h5⟩:=h
  have ga:=mH as C args h5
  cases as with
  |nil=>exact bG h6
  |cons e es=>
   cases args with
   |nil=>exact bG h5
   |cons q qs=>
    have h6:=ay h5
    exact bA (AY C (by rw [h1,h2,h3];rfl) h4 ga (notStar h6.1 _ _) (fD h6.2 _ _)) (λ_=>rfl) (λ_ _ _ z=>nomatch z)
 |.oC f as g idx aU,Γ,N,sc,X,C,p,h=>by
  obtain⟨hN,args,_,_,rfl,h9⟩:=Cu h
  clear h
  have h:=h9
  clear h9
  replace h:=ay h
  simp! [zza,zzj,zzy] at h;obtain⟨⟨⟨⟨⟨⟨h1,h2⟩,h3⟩,h4⟩,h6⟩,q,hq,⟨⟨⟨rfl,rfl⟩,rfl⟩,rfl⟩,hd⟩,h5⟩:=h
  have OY:=zzY hd
  have ga:=GG as C h1 q.g q.idx aU args h4 h5
  cases as with
  |nil=>exact bG h6
  |cons e es=>
   cases args with
   |nil=>exact bG h5
   |cons p qs=>
    have h6:=ay h5
    exact bA (Bk C h1 hq h2 h3 OY ga (notStar h6.1 _ _) (j9 h6.2 _ _)) (λ_=>rfl) (λ_ _ _ z=>nomatch z)
 |.blt b as,Γ,N,sc,X,C,p,h=>by
  obtain⟨g,args,_,_,rfl,h9⟩:=Cu h
  clear h
  have h:=h9
  clear h9
  replace h:=ay h
  try simp! [zza,zzy] at h
  obtain⟨⟨⟨⟨rfl,h1⟩,h2⟩,h3⟩,h5⟩:=h
  have ga:=mH as C args h5
  cases as with
  |nil=>exact bG h3
  |cons e es=>
   cases args with
   |nil=>exact bG h5
   |cons q qs=>
    have h6:=ay h5
    exact bA (IU C b h1 h2 ga (notStar h6.1 _ _) (fD h6.2 _ _)) (λ_=>rfl) (λ_ _ _ z=>nomatch z)
 |.ty t a,Γ,N,sc,X,C,p,h=>by
  obtain⟨g,args,_,_,rfl,h9⟩:=Cu h
  clear h
  have h:=h9
  clear h9
  obtain⟨pa,pb,z2,h2⟩:=Eb h
  obtain⟨tn,_,z3,h3⟩:=Lm h2
  dsimp only at z2 z3;subst z2 z3
  clear h h2
  have h:=h3
  clear h3
  replace h:=ay h
  try simp! [zza,zzy] at h
  obtain⟨⟨⟨⟨⟨⟨rfl,h1⟩,h2⟩,rfl⟩,h3⟩,h4⟩,h5⟩:=h
  exact bA (MH C h1 h2 h3 h4 (bB a C pa h5).ge (notStar h5)) (λ_=>rfl) (λ_ _ _ z=>nomatch z)
 |.bin o a b,Γ,N,sc,X,C,p,h=>by
  obtain⟨q,e,h1⟩:=ak h
  obtain⟨_,rfl⟩:=Ho e
  clear h
  have h:=ay h1
  have h0:=ay h.1
  rw [<-zzY h0.1];exact bA (JD C (bB a C _ h0.2).ge (bB b C _ h.2).ge) (λ_=>rfl) (λ_ _ _ z=>nomatch z)
 |.cmp o a b,Γ,N,sc,X,C,p,h=>by
  obtain⟨pa,ops,cs,_,rfl,h1⟩:=Sa h
  obtain⟨op,z2,h2⟩:=jw h1
  obtain⟨pb,z3,h3⟩:=jw h2
  dsimp only at z2 z3;subst z2 z3
  clear h h1 h2
  have h:=h3
  clear h3
  replace h:=ay h
  have h0:=ay h.1
  cases zzY h0.1;have h1:=h0.2
  have h2:=h.2
  exact⟨Jv C (bB a C _ h1).ge (bB b C _ h2).ge (pI h2 _),λ_=>GH C (bB a C _ h1).ge (bB b C _ h2).ge (pI h2 _),(λ_ _ _ _ z=>nomatch z)⟩
 |.ch o1 o2 a b c,Γ,N,sc,X,C,p,h=>by
  obtain⟨pa,ops,cs,_,rfl,h1⟩:=Sa h
  obtain⟨op1,op2,z2,h2⟩:=Eb h1
  obtain⟨pb,pc,z3,h3⟩:=Eb h2
  dsimp only at z2 z3;subst z2 z3
  clear h h1 h2
  have h:=h3
  clear h3
  replace h:=ay h
  try simp! [zza,zzN] at h
  obtain⟨⟨⟨⟨rfl,rfl⟩,h1⟩,h2⟩,h3⟩:=h
  have hm:lastMarks [qG o1,qG o2] [pb,pc]=false:=pI h3 _
  exact⟨Mj C (bB a C _ h1).ge (bB b C _ h2).ge (bB c C _ h3).ge hm,λ_=>M9 C (bB a C _ h1).ge (bB b C _ h2).ge (bB c C _ h3).ge hm,(λ_ _ _ _ z=>nomatch z)⟩
 |.not a,Γ,N,sc,X,C,p,h=>by
  obtain⟨o,pa,_,rfl,h1⟩:=Tw h
  clear h
  have h:=ay h1
  cases Al h.1;have s:=bB a C pa h.2
  exact⟨J4 s.ge,λz=>JB (s.gt (by simpa only [fQ] using z)),(λ_ _ _ _ z=>nomatch z)⟩
 |.and a b,Γ,N,sc,X,C,p,h=>by
  obtain⟨o,vs,pos,rfl,h1⟩:=RG h
  obtain⟨⟨pa,pb⟩,e2,h2⟩:=ak h1
  clear h h1
  have h:=ay h2
  clear h2
  try simp! [zza] at h
  obtain⟨⟨⟨h0,he⟩,h1⟩,h2⟩:=h
  cases B2 h0;have sa:=bB a C pa h1
  have sb:=bB b C pb h2
  rcases BL e2 with z|⟨q,c,r,z,z2⟩
  ·dsimp only at z;subst z;have gw:fQ (.and a b)=true->GW X W F (.and a b) (.BoolOp .And [pa,pb] pos):=λz=>by
    have z:=ay z
    exact BF (sa.gt z.1) (pw_and1 (sb.gt z.2))
   exact⟨za he sa.ge (Br sb.ge),λz=>(gw z).pt,λz _ _ _ _=>gw z⟩
  ·dsimp only at z z2;subst z z2;have gw:fQ (.and a b)=true->GW X W F (.and a b) (.BoolOp .And (pa::q::c::r) pos):=λz=>by
    have z:=ay z
    exact BF (sa.gt z.1) (sb.gw z.2 _ _ _ rfl)
   exact⟨za he sa.ge sb.ge,λz=>(gw z).pt,λz _ _ _ _=>gw z⟩
 |.or a b,Γ,N,sc,X,C,p,h=>by
  obtain⟨o,vs,pos,rfl,h1⟩:=RG h
  obtain⟨⟨pa,pb⟩,e2,h2⟩:=ak h1
  clear h h1
  have h:=ay h2
  clear h2
  try simp! [zza] at h
  obtain⟨⟨⟨h0,he⟩,h1⟩,h2⟩:=h
  cases DW h0;have sa:=bB a C pa h1
  have sb:=bB b C pb h2
  rcases BL e2 with z|⟨q,c,r,z,z2⟩
  ·dsimp only at z;subst z;have gw:fQ (.or a b)=true->GW X W F (.or a b) (.BoolOp .Or [pa,pb] pos):=λz=>by
    have z:=ay z
    exact FL (sa.gt z.1) (pw_or1 (sb.gt z.2))
   exact⟨FI he sa.ge (Br sb.ge),λz=>(gw z).pt,λz _ _ _ _=>gw z⟩
  ·dsimp only at z z2;subst z z2;have gw:fQ (.or a b)=true->GW X W F (.or a b) (.BoolOp .Or (pa::q::c::r) pos):=λz=>by
    have z:=ay z
    exact FL (sa.gt z.1) (sb.gw z.2 _ _ _ rfl)
   exact⟨FI he sa.ge sb.ge,λz=>(gw z).pt,λz _ _ _ _=>gw z⟩
 |.ite c a b,Γ,N,sc,X,C,p,h=>by
  obtain⟨q,e,h1⟩:=ak h
  obtain⟨_,rfl⟩:=Ha e
  clear h
  have h:=ay h1
  clear h1
  try simp! [zza] at h
  obtain⟨⟨⟨⟨⟨h0,h1⟩,h2⟩,h3⟩,h4⟩,h5⟩:=h
  exact⟨Jf h1 h2 ((bB c C _ h3).gt h0) (bB a C _ h4).ge (bB b C _ h5).ge,(λz=>nomatch z),(λ_ _ _ _ z=>nomatch z)⟩
 |.tup as,Γ,N,sc,X,C,p,h=>by
  obtain⟨ps,e,h1⟩:=ak h
  obtain⟨_,_,rfl⟩:=wG e
  clear h
  have h:=ay h1
  have h0:=ay h.1
  exact bA (Hh h0.1 (zzY h0.2) (mH as C _ h.2)) (λ_=>rfl) (λ_ _ _ z=>nomatch z)
 |.lst as,Γ,N,sc,X,C,p,h=>by
  obtain⟨ps,e,h1⟩:=ak h
  obtain⟨_,rfl⟩:=Bm e
  clear h
  have h:=ay h1
  have h0:=ay h.1
  exact bA ((Ca h0.1 (zzY h0.2) (mH as C _ h.2)).ge lst_is) (λ_=>rfl) (λ_ _ _ z=>nomatch z)
 |.sub a b,Γ,N,sc,X,C,p,h=>by
  obtain⟨pa,pb,_,rfl,h9⟩:=Sw h
  clear h
  have h:=h9
  clear h9
  replace h:=ay h
  exact bA (JU C (bB a C _ h.1).ge (bB b C _ h.2).ge (AH h.2)) (λ_=>rfl) (λ_ _ _ z=>nomatch z)
 |.jx a,Γ,N,sc,X,C,p,h=>by
  obtain⟨⟨f,as,kws,pos⟩,e3,h3⟩:=ak h
  have z3:=jY e3
  obtain⟨g,gp,z4,h4⟩:=Lm h3
  obtain⟨pa,z5,h5⟩:=jw h4
  obtain⟨⟨kn,kv⟩,e6,h6⟩:=ak h5
  obtain⟨kp,z6⟩:=Ar e6
  obtain⟨c,c1,c2,z7,h7⟩:=SJ h6
  have g:=ay h7
  simp! [zza] at g;obtain⟨⟨⟨⟨⟨e1,h1⟩,h2⟩,e2⟩,e3⟩,h8⟩:=g
  cases zzy.mp e1;cases zzy.mp e2;have z8:=A6 e3
  dsimp only at z3 z4 z5 z6 z7 z8;subst z3 z4 z5 z6 z7 z8;exact bA (D9 C h1 h2 (bB a C pa h8).ge (notStar h8 _ _)) (λ_=>rfl) (λ_ _ _ z=>nomatch z)
 |.tR a,Γ,N,sc,X,C,p,h=>by
  obtain⟨g,args,_,_,rfl,h9⟩:=Cu h
  clear h
  have h:=h9
  clear h9
  obtain⟨z,z2,h2⟩:=jw h
  obtain⟨g2,a2,_,_,z3,h3⟩:=Cu h2
  obtain⟨pa,z4,h4⟩:=jw h3
  dsimp only at z2 z3 z4;subst z2 z3 z4
  clear h h2 h3
  have h:=ay h4
  clear h4
  simp! [zza] at h;obtain⟨⟨⟨⟨⟨⟨e1,h1⟩,h2⟩,e2⟩,h3⟩,h4⟩,h5⟩:=h
  cases zzy.mp e1;cases zzy.mp e2;exact bA (CM C h1 h2 h3 h4 (bB a C pa h5).ge (notStar h5 _ _)) (λ_=>rfl) (λ_ _ _ z=>nomatch z)
 |.slice a lo hi,Γ,N,sc,X,C,p,h=>by
  obtain⟨pa,ps,_,rfl,h1⟩:=Sw h
  obtain⟨pl,ph,pst,_,z2,h2⟩:=UB h1
  clear h h1
  have h:=ay h2
  simp! [zza] at h;have w:=P1 h.1.1.1
  dsimp only at z2 w;subst z2 w;exact bA (Aw C (bB a C _ h.1.1.2).ge (Nj lo C pl h.1.2) (Nj hi C ph h.2)) (λ_=>rfl) (λ_ _ _ z=>nomatch z)
 |.comp kk aU tg it elt,Γ,N,sc,X,C,p,h=>by
  obtain⟨eE,gens,scope,_,rfl,h1⟩:=Ot h
  obtain⟨⟨cO,fV,ifs,asy⟩,z2,h2⟩:=jw h1
  have h3:=ay h2
  have z3:=GU h3.1
  dsimp only at z2 z3;subst z2 z3
  clear h h1 h2
  have h:=ay h3.2
  clear h3
  simp! [zza] at h;obtain⟨⟨⟨⟨⟨⟨h1,h2⟩,h3⟩,h4⟩,h5⟩,h6⟩,iA⟩:=h
  have iA:=zzY iA
  subst iA;exact bA ((w9 C (i7 h1) h2 h3 (Af it C cO fV h4) (iO h4 _) h5 λY CY=>(bB elt CY eE h6).ge).ge vC) (λ_=>rfl) (λ_ _ _ z=>nomatch z)
 |.cG kk aU tg it c elt,Γ,N,sc,X,C,p,h=>by
  obtain⟨eE,gens,scope,_,rfl,h1⟩:=Ot h
  obtain⟨⟨cO,fV,ifs,asy⟩,z2,h2⟩:=jw h1
  obtain⟨pc,z3,h3⟩:=jw h2
  dsimp only at z2 z3;subst z2 z3
  clear h h1 h2
  have h:=ay h3
  clear h3
  simp! [zza] at h;obtain⟨⟨⟨⟨⟨⟨⟨⟨h0,h1⟩,h2⟩,h3⟩,h4⟩,h5⟩,h6⟩,h7⟩,iA⟩:=h
  have iA:=zzY iA
  subst iA;exact bA ((nO C (i7 h1) h2 h3 (Af it C cO fV h4) (iO h4 _) h5 (λY CY=>(bB c CY pc h6).gt h0) λY CY=>(bB elt CY eE h7).ge).ge n5) (λ_=>rfl) (λ_ _ _ z=>nomatch z)
theorem mH:∀(es:Es) {Γ:Pg} {N:List Str} {sc:Scope} {X:Cx} (C:dF Γ F W N sc k X) (ps:List Expr),j6 Γ N sc es ps=true->GA X W F es ps
 |.nil,Γ,N,sc,X,C,ps,h=>by
  cases ps with
  |nil=>exact GK
  |cons _ _=>exact bG h
 |.cons e es,Γ,N,sc,X,C,ps,h=>by
  cases ps with
  |nil=>exact bG h
  |cons p ps=>
   replace h:=ay h
   exact Dh (bB e C p h.1).ge (mH es C ps h.2) (notStar h.1 _ _)
theorem GG:∀(es:Es) {Γ:Pg} {N:List Str} {sc:Scope} {X:Cx} (C:dF Γ F W N sc k X) (hl:Γ.hl=true) (g:Str) (idx aU:List Nat) (ps:List Expr),gP es=true->wL Γ N sc g idx aU es ps=true->PA X ps (Ni X W F N sc g idx aU es)
 |.nil,Γ,N,sc,X,C,hl,g,idx,aU,ps,he,h=>by
  obtain⟨p,e1,h⟩:=ak h
  obtain⟨l,e2,h⟩:=ak h
  rw [dj e1];obtain⟨_,rfl⟩:=ux e2
  replace h:=ay h
  have h1:=ay h.1
  exact Fj C hl ⟨h1.1,zzY h1.2,λy hy=>zzY (zzT.mp h.2 y hy)⟩
 |.cons e es,Γ,N,sc,X,C,hl,g,idx,aU,ps,he,h=>by
  cases ps with
  |nil=>exact bG h
  |cons p ps=>
   replace h:=ay h
   have J9:=ay (show(gX e&&gP es)=true from he)
   exact BW he (bB e C p h.1).ge (GG es C hl g idx aU ps J9.2 h.2) (notStar h.1 _ _)
theorem Nj:∀(o:Oe) {Γ:Pg} {N:List Str} {sc:Scope} {X:Cx} (C:dF Γ F W N sc k X) (p:Option Expr),HR Γ N sc o p=true->PO X p (Ao X W F o)
 |.no,Γ,N,sc,X,C,p,h=>by
  cases p with
  |none=>exact Dy
  |some _=>exact bG h
 |.some e,Γ,N,sc,X,C,p,h=>by
  cases p with
  |none=>exact bG h
  |some p=>
   exact Ft (bB e C p h).ge
theorem Af:∀(it:I) {Γ:Pg} {N:List Str} {sc:Scope} {X:Cx} (C:dF Γ F W N sc k X) (tg p:Expr),xO Γ N sc tg it p=true->GI X W F tg it p
 |.seq e,Γ,N,sc,X,C,tg,p,h=>by
  exact Kl C (bB e C p h).ge
 |.pH e,Γ,N,sc,X,C,tg,p,h=>by
  obtain⟨g,args,_,_,rfl,h9⟩:=Cu h
  clear h
  have h:=h9
  clear h9
  obtain⟨q,z2,h2⟩:=jw h
  dsimp only at z2;subst z2
  clear h
  have h:=ay h2
  clear h2
  simp! [zza] at h;obtain⟨⟨⟨e1,h1⟩,h2⟩,h3⟩:=h
  cases zzy.mp e1;exact IX C h1 h2 (notStar h3) (bB e C q h3).ge
 |.o9 a b,Γ,N,sc,X,C,tg,p,h=>by
  obtain⟨g,args,_,_,rfl,h9⟩:=Cu h
  clear h
  have h:=h9
  clear h9
  obtain⟨q,r,z2,h2⟩:=Eb h
  dsimp only at z2;subst z2
  clear h
  have h:=ay h2
  clear h2
  simp! [zza] at h;obtain⟨⟨⟨⟨e1,h1⟩,h2⟩,h3⟩,h4⟩:=h
  cases zzy.mp e1;exact Eo C h1 h2 (notStar h3) (notStar h4) (bB a C q h3).ge (bB b C r h4).ge
 |.enum e,Γ,N,sc,X,C,tg,p,h=>by
  obtain⟨g,args,_,_,rfl,h9⟩:=Cu h
  clear h
  have h:=h9
  clear h9
  obtain⟨q,z2,h2⟩:=jw h
  dsimp only at z2;subst z2
  clear h
  have h:=ay h2
  clear h2
  simp! [zza] at h;obtain⟨⟨⟨⟨h0,e1⟩,h1⟩,h2⟩,h3⟩:=h
  cases zzy.mp e1;cases tg<;>first|(exact bG h0)|skip
  exact Eu C h1 h2 (notStar h3) (bB e C q h3).ge
end
end
end Ci
namespace L2
open PySem PySem.Spec PyProof.Rows
section
variable{X:Cx}{scope:Scope}{xs ys:List Str}{is:List Nat}
theorem uL{i₀:Nat}{x₀:Str}{pos' fN:Pos}{elt tg iter:Expr}{pos:Pos}{wi:TI}{g:TG}{te:TE}(hN₀:X.N.Nodup)(hi₀:X.N[i₀]?=some x₀)(hx₀:Loc X.env.scope x₀)(hc:X.calm=true)(S:eJ X scope xs ys is)(hi:PI X tg iter wi)
 (hg:∀fp s1 H1 C,PG (bT X (xs++ys) scope (bE X.env ys) fp s1 H1 C) tg g) (he:∀fp s1 H1 C,PE (bT X (xs++ys) scope (bE X.env ys) fp s1 H1 C) elt te)
 (Ce:swapsWith (.ListComp elt [⟨tg,iter,[],0⟩] scope pos) (some (.Name x₀ pos')) fN.line X.env=pure true:=by rfl)
 (hs:∀x,foldedSetIterable iter X.env x=pure x:=by intro _;rfl) (hf₀:X.fn x₀=true\/X.env.scope.names.lookup x₀=some .local:=by first|exact .inl rfl|exact .inr rfl|assumption):
 PS X (.Assign [.Name x₀ pos'] (.ListComp elt [⟨tg,iter,[],0⟩] scope pos) fN) (Cy (zV wi xs.length g te is) (gB i₀)):=by
 intro aa s σ H D₀ I h;rw [exec_Assign_Name_used _ _ _ _ Ce];refine zzA (wpAny_standAt (zzA ?_));show wpAny _ X.A (do let _<-comprehension (.ListComp elt [⟨tg,iter,[],0⟩] scope pos) scope X.env _ (newList []) false (eval iter X.env) (some (assign (.Name x₀ pos') X.env))) _ _ s;refine zzA (wpAny_mono (gH (QQ:=λ_ s'=>∃σ2 H2,Inv X aa σ2 H2 s'/\D₀.nx σ2 H2) (Q:=λv H4=>gB i₀ v σ H4 D₀.nx) hc S hi hg (λ_ _ _ _=>vM) he hs I h λD C s4 H4 m I5 hn ⟨g0,g1,_,g3,g4,g5⟩ q=>?_) (λ_ s' hq=>zzG (zzG hq)) λ_ _ e=>e)
 refine wpAny_assign_Name (jr I5 hN₀ hi₀ hx₀ (show RelV (.ref D) (.ref D) from rfl) (λs6 I6 ⟨a6,sb6,ha6⟩=>?_) hf₀);have Bv:C≠a6:=by
  rcases ha6 with z|z
  ·rw [z];exact g1
  ·exact λz2=>g4 _ _ z z2.symm
 exact⟨m,hn.sameBut sb6 Bv,λh' tH=>⟨_,_,I6.turned (t':=s6.toks) (it:=C) (λb o hb e=>tH.extBut b o hb e) g0 g1 g3 g4 g5,q⟩⟩
end
end L2
namespace Ci
open PySem L2
section
variable{W:Wd}{G0 H0 G H:Hp}{env:Sl}{σ:St}
def Own.F9{p:PV}{v:V}(h:Own W H0 G H p v):∃a o,v=.ref a/\H a=some o/\G a=none/\H0 a=none/\((∀G',az G G'->G' a=some o->Rep W G' p (.ref a))\/∃au,o=.dT au/\∀ob G',az G G'->G' a=some (.bz ob (.dT au))->Rep W G' p (.ref a)):=by
 cases p with
 |lst xs=>
  obtain⟨a,vs,rfl,h1,h2,h3,l⟩:=h
  exact⟨a,_,rfl,h1,h2,h3,.inl λG' s e=>.l (.inl (.inl e)) (aj.same s xs l)⟩
 |bo ks ps=>
  obtain⟨a,us,rfl,n,h1,h2,h3,l⟩:=h
  exact⟨a,_,rfl,h1,h2,h3,.inr ⟨_,rfl,λob G' s e=>by simp! [Rep];exact⟨a,ob,us,rfl,n,e,aj.same s ps l⟩⟩⟩
 |aH=>exact h.elim
 |bl _=>exact h.elim
 |int _=>exact h.elim
 |str _=>exact h.elim
 |tup _=>exact h.elim
 |exc _=>exact h.elim
theorem Own.AR{p:PV}{a:Addr}(h:Own W H0 G H p (.ref a))(ps:Array Value):H a≠some (.fT ps):=λz=>by
 cases p with
 |lst xs=>obtain⟨b,vs,e,h1,_⟩:=h;cases e;rw [z] at h1;cases h1
 |bo ks qs=>
  obtain⟨b,us,e,_,h1,_⟩:=h
  cases e;rw [z] at h1;cases h1
 |aH=>exact h.elim
 |bl _=>exact h.elim
 |int _=>exact h.elim
 |str _=>exact h.elim
 |tup _=>exact h.elim
 |exc _=>exact h.elim
theorem qe{a:Addr}{ob:HO}{H':Hp}(t:cq W G H)(hG:G a=none)(n:∀ps,H a≠some (.fT ps))(hH:∀b,b≠a->H' b=H b):cq W (upd G a ob) H':=λP q m=>by
 obtain⟨n1,ps,e,tr,al⟩:=t P q m
 have hP:P≠a:=λz=>by subst z;exact n ps e
 refine⟨by rw [af hP];exact n1,ps,by rw [hH P hP];exact e,tr,λpos cv y=>?_⟩
 obtain⟨c',oc,cQ,t',e1,e2,e3,e4⟩:=al pos cv y
 exact⟨c',oc,cQ,t',e1,bx hG _ _ e2,e3,e4⟩
def Own.dZ{p:PV}{v:V}{a:Addr}{G' H':Hp}(h:Own W H0 G H p v)(hv:v≠.ref a)(sG:az G G')(hG:∀b,b≠a->G' b=G b)(hH:∀b,b≠a->H' b=H b):Own W H0 G' H' p v:=by
 cases p with
 |lst xs=>
  obtain⟨b,vs,rfl,h1,h2,h3,l⟩:=h
  have hb:b≠a:=λz=>hv (by rw [z])
  exact⟨b,vs,rfl,by rw [hH b hb];exact h1,by rw [hG b hb];exact h2,h3,aj.same sG xs l⟩
 |bo ks ps=>
  obtain⟨b,us,rfl,n,h1,h2,h3,l⟩:=h
  have hb:b≠a:=λz=>hv (by rw [z])
  exact⟨b,us,rfl,n,by rw [hH b hb];exact h1,by rw [hG b hb];exact h2,h3,aj.same sG ps l⟩
 |aH=>exact h.elim
 |bl _=>exact h.elim
 |int _=>exact h.elim
 |str _=>exact h.elim
 |tup _=>exact h.elim
 |exc _=>exact h.elim
def getElem?_modify{α:Type}(l:List α)(i j:Nat)(f:α->α):(l.modify i f)[j]?=if i=j then(l[j]?).map f else l[j]?:=by
 rw [List.getElem?_modify];split<;>simp_all
def qK(r:SR W H0 env σ G H)(g:aB W G0 H0 G H){i:Nat}{p:PV}{a:Addr}{ob K0:HO}{H':Hp}(hp:env[i]?=some (.own p))(ho:σ[i]?=some (some (.ref a)))(LM:Own W H0 G H p (.ref a))(hH:H a=some ob)(hG:G a=none)(Cj:H0 a=none)
 (A1:∀G',az G G'->G' a=some K0->Rep W G' p (.ref a)) (h1:H' a=some K0) (h2:∀b,b≠a->H' b=H b):SR W H0 (env.modify i qB) σ (upd G a K0) H'/\aB W G0 H0 (upd G a K0) H':=by
 have sG:az G (upd G a K0):=bx hG
 have sub:az (upd G a K0) H':=λb u e=>by
  by_cases hb:b=a
  ·subst hb;rw [aq] at e;cases e;exact h1
  ·rw [af hb] at e;rw [h2 b hb];exact r.sub _ _ e
 have base:∀{B:Hp},B a=none->iu B H->iu B H':=λhB k b u e=>by
  have hb:b≠a:=λz=>by rw [z,hB] at e;cases e
  rw [h2 b hb];exact k b u e
 refine⟨⟨by rw [List.length_modify];exact r.len,sub,base Cj r.base,λj s e=>?_,λj l q q' c e1 e2 e3 e4=>?_,qe r.tab hG LM.AR h2,qe r.ng hG (λps z=>by rw [Cj] at z;cases z) λ_ _=>rfl⟩,⟨g.g.trans sG,base Cj g.h,sub,λb h3 h5 h4=>?_,λt=>qe (g.tab t) hG LM.AR h2⟩⟩
 ·rw [getElem?_modify] at e;split at e
  ·rename_i z;subst z;rw [hp] at e;cases e;exact⟨_,ho,_,rfl,A1 _ sG aq⟩
  ·rename_i z;obtain⟨o2,k1,k2⟩:=r.slot j s e
   refine⟨o2,k1,?_⟩;cases s with
   |no=>exact trivial
   |val q=>
    obtain⟨v2,rfl,rv⟩:=k2
    exact⟨v2,rfl,Rep.same sG q rv⟩
   |fn _ _ _=>
    obtain⟨v2,rfl,rv⟩:=k2
    exact⟨v2,rfl,rv.same sG⟩
   |own q=>
    obtain⟨v2,rfl,ov⟩:=k2
    refine⟨v2,rfl,ov.dZ (a:=a) (λzz=>?_) sG (λb hb=>af hb) h2⟩;subst zz;exact z (r.apart i j p q a hp e ho k1)
 ·rw [getElem?_modify] at e1 e2;have ne:∀{j:Nat} {q:PV},(if i=j then(env[j]?).map qB else env[j]?)=some (.own q)->i≠j/\env[j]?=some (.own q):=λ{j q} e=>by
   split at e
   ·rename_i z;subst z;rw [hp] at e;cases e
   ·rename_i z;exact⟨z,e⟩
  exact r.apart j l q q' c (ne e1).2 (ne e2).2 e3 e4
 ·have hb:b≠a:=λz=>h3 (by rw [z];exact Cj)
  rw [af hb];exact g.own b h3 h5 h4
def Jk(r:SR W H0 env σ G H)(g:aB W G0 H0 G H)(i:Nat):(∃G',SR W H0 (env.modify i qB) σ G' H/\aB W G0 H0 G' H)\/∃a au,H a=some (.dT au)/\∀o,∃G',SR W H0 (env.modify i qB) σ G' (upd H a (.bz o (.dT au)))/\aB W G0 H0 G' (upd H a (.bz o (.dT au))):=by
 have same:(∀p,env[i]?≠some (.own p))->env.modify i qB=env:=λh=>by
  refine List.ext_getElem? λj=>?_
  rw [getElem?_modify];split
  ·rename_i e;subst e;cases q:env[i]? with
   |none=>rfl
   |some s=>
    cases s with
    |own p=>exact absurd q (h p)
    |no=>rfl
    |val p=>rfl
    |fn _ _ _=>rfl
  ·rfl
 by_cases hx:∃p,env[i]?=some (.own p)
 ·obtain⟨p,hp⟩:=hx
  obtain⟨o,ho,v,rfl,ow⟩:=r.slot i _ hp
  have LM:=ow
  obtain⟨a,ob,rfl,hH,hG,Cj,A1|⟨au,rfl,A1⟩⟩:=ow.F9
  ·obtain⟨k1,k2⟩:=qK r g hp ho LM hH hG Cj A1 hH λ_ _=>rfl
   exact .inl ⟨_,k1,k2⟩
  ·refine .inr ⟨a,au,hH,λo=>?_⟩
   obtain⟨k1,k2⟩:=qK r g hp ho LM hH hG Cj (A1 o) aq λb hb=>af hb
   exact⟨_,k1,k2⟩
 ·exact .inl ⟨G,by rw [same λp z=>hx ⟨p,z⟩];exact r,g⟩
def mq(r:SR W H0 env σ G H)(g:aB W G0 H0 G H){i:Nat}{p p':PV}{a:Addr}{ob:HO}(hp:env[i]?=some (.own p))(hs:σ[i]?=some (some (.ref a)))(hG:G a=none)(Cj:H0 a=none)(hn:Own W H0 G (upd H a ob) p' (.ref a)):
 SR W H0 (env.set i (.own p')) σ G (upd H a ob)/\aB W G0 H0 G (upd H a ob):=by
 have bH:i<env.length:=(zzH.mp hp).1
 have Tx:∀ps,H a≠some (.fT ps):=by
  obtain⟨o2,h1,v2,rfl,ow⟩:=r.slot i _ hp
  rw [hs] at h1;cases h1;exact ow.AR
 have tab:∀{G1:Hp},cq W G1 H->cq W G1 (upd H a ob):=λt=>t.same (az.refl _) (λ_ _ _ h=>h) (qj Tx)
 refine⟨⟨by rw [List.length_set];exact r.len,λb u e=>?_,λb u e=>?_,λj s e=>?_,λj l q q' c e1 e2 e3 e4=>?_,tab r.tab,r.ng⟩,⟨g.g,λb u e=>?_,λb u e=>?_,g.own,λt=>tab (g.tab t)⟩⟩
 ·rw [af (λz=>by subst z;rw [hG] at e;cases e)];exact r.sub _ _ e
 ·rw [af (λz=>by subst z;rw [Cj] at e;cases e)];exact r.base _ _ e
 ·by_cases hj:i=j
  ·subst hj;rw [zzo bH] at e;cases e;exact⟨_,hs,_,rfl,hn⟩
  ·rw [zzS hj] at e;obtain⟨o2,h1,h2⟩:=r.slot j s e
   refine⟨o2,h1,?_⟩;cases s with
   |no=>exact trivial
   |val q=>exact h2
   |fn _ _ _=>exact h2
   |own q=>
    obtain⟨v2,rfl,ov⟩:=h2
    refine⟨v2,rfl,ov.dZ (a:=a) (λzz=>?_) (az.refl _) (λb hb=>rfl) λb hb=>af hb⟩
    subst zz;exact hj (r.apart i j p q a hp e hs h1)
 ·have tr:∀{j:Nat} {q:PV},(env.set i (.own p'))[j]?=some (.own q)->∃q2,env[j]?=some (.own q2):=λ{j q} e=>by
   by_cases hj:i=j
   ·subst hj;exact⟨p,hp⟩
   ·rw [zzS hj] at e;exact⟨q,e⟩
  obtain⟨q2,f1⟩:=tr e1
  obtain⟨q3,f2⟩:=tr e2
  exact r.apart j l q2 q3 c f1 f2 e3 e4
 ·rw [af (λz=>by subst z;rw [Cj] at e;cases e)];exact g.h _ _ e
 ·rw [af (λz=>by subst z;rw [hG] at e;cases e)];exact g.sub _ _ e
def Bc(r:SR W H0 env σ G H)(g:aB W G0 H0 G H){i:Nat}{p:PV}{a:Addr}{ob:HO}(hi:i<env.length)(ha:H a=none)(hn:Own W H0 G (upd H a ob) p (.ref a)):
 SR W H0 (env.set i (.own p)) (σ.set i (some (.ref a))) G (upd H a ob)/\aB W G0 H0 G (upd H a ob):=by
 have gm:aB W G H G (upd H a ob):=.M4 r.sub ha
 have r1:=r.grow gm
 have old:∀{j:Nat} {q:PV},env[j]?=some (.own q)->σ[j]?=some (some (.ref a))->False:=λ{j q} e1 e2=>by
  obtain⟨o2,h1,v2,rfl,ov⟩:=r.slot j _ e1
  rw [e2] at h1;cases h1;obtain⟨a',o',e3,hH,_⟩:=ov.F9
  cases e3;rw [ha] at hH;cases hH
 refine⟨⟨by rw [List.length_set,List.length_set];exact r.len,r1.sub,r1.base,λj s e=>?_,λj l q q' c e1 e2 e3 e4=>?_,r1.tab,r1.ng⟩,g.trans gm⟩
 ·by_cases hj:i=j
  ·subst hj;rw [zzo hi] at e;cases e;exact⟨_,zzo (by rw [<-r.len];exact hi),_,rfl,hn⟩
  ·rw [zzS hj] at e;obtain⟨o2,h1,h2⟩:=r1.slot j s e
   exact⟨o2,by rw [zzS hj];exact h1,h2⟩
 ·by_cases hj:i=j
  ·by_cases hl:i=l
   ·exact hj.symm.trans hl
   ·exfalso
    subst hj;rw [zzo (by rw [<-r.len];exact hi)] at e3;rw [zzS hl] at e2 e4;cases e3;exact old e2 e4
  ·by_cases hl:i=l
   ·exfalso
    subst hl;rw [zzo (by rw [<-r.len];exact hi)] at e4;rw [zzS hj] at e1 e3;cases e4;exact old e1 e3
   ·rw [zzS hj] at e1 e3;rw [zzS hl] at e2 e4;exact r.apart j l q q' c e1 e2 e3 e4
end
noncomputable def iV:E->Bool
 |.lst _=>true
 |.comp _ _ _ _ _=>true
 |.cG _ _ _ _ _ _=>true
 |_=>false
noncomputable def p7:Expr->Bool
 |.ListComp .. =>false
 |.SetComp .. =>false
 |.DictComp .. =>false
 |_=>true
noncomputable def OR(sc:Scope)(x:Str)(xp:Pos):Expr->Bool
 |.ListComp _ _ s p=>sc.names.lookup x==some .local&&xp.line==p.line&&!(s.names.any λ(n,k)=>n==x&&(k==.local||k==.cell))
 |_=>false
noncomputable def Nl(ts:List Expr):Option Str:=(e9 ts).bind eR
noncomputable def N5(e:Expr):Option (Str×Str×List Expr):=(Ka e).bind λq=>(NY q.1).bind λr=>(eR r.1).bind λx=>if(q.2.2.1.isEmpty&&r.2.2.endLine==q.2.2.2.line)=true then some (x,r.2.1,q.2.1) else none
noncomputable def RH(e:Expr):Option (Str×Arguments×Expr×Scope):=(Ka e).bind λq=>(eR q.1).bind λf=>(e9 q.2.1).bind λa=>(eR a).bind λx=>(Jt q.2.2.1).bind λr=>(Pl r.2).bind λl=>if(f=="min"&&r.1=="key")=true then some (x,l.1,l.2.1,l.2.2) else none
def IS{e:Expr}{c:Str×Arguments×Expr×Scope}(h:RH e=some c):∃q1 q2 q3 q4 q5,e=.Call (.Name "min" q1) [.Name c.1 q2] [⟨some "key",.Lambda c.2.1 c.2.2.1 c.2.2.2 q3,q4⟩] q5:=by
 obtain⟨⟨f,a,k,p⟩,h1,h⟩:=m6 h
 obtain⟨g,h2,h⟩:=m6 h
 obtain⟨b,h3,h⟩:=m6 h
 obtain⟨x,h4,h⟩:=m6 h
 obtain⟨⟨n,v⟩,h5,h⟩:=m6 h
 obtain⟨⟨l1,l2,l3⟩,h6,h⟩:=m6 h
 obtain⟨h7,rfl⟩:=if1 h
 rw [zza,zzy,zzy] at h7;obtain⟨rfl,z8⟩:=h7
 obtain⟨p2,z2⟩:=cj h2
 obtain⟨p4,z4⟩:=cj h4
 obtain⟨p5,z5⟩:=Ar h5
 obtain⟨p6,z6⟩:=ux h6
 have z3:=dj h3
 dsimp only at z2 z3 z4 z5 z6 z8;subst z2 z3 z4 z5 z6 z8;exact⟨_,_,_,_,_,jY h1⟩
noncomputable def Fq(x p:Str)(e:Expr):Bool:=(HA e).any λq=>(HA q.1).any λr=>eR r.1==some x&&eR r.2==some p&&(KL q.2).bind PU==some 0
noncomputable def v8(x:Str)(params:Arguments)(body:Expr)(scope:Scope):Bool:=match pG params with
 |some [p]=>Fq x p body&&decide (bf scope=[x])&&N0 [p] scope&&okN p&&okN x
 |_=>false
def zr{x:Str}{params:Arguments}{body:Expr}{scope:Scope}(h:v8 x params body scope=true):∃p,pG params=some [p]/\uz p x params body scope/\bf scope=[x]/\okN x=true:=by
 unfold v8 at h;split at h
 ·rename_i p e;simp! [zza,zzN] at h;obtain⟨⟨⟨⟨h1,h2⟩,h3⟩,h4⟩,h5⟩:=h
  refine⟨p,e,⟨?_,by rw [<-h2];exact AF h3,(dy h4).1,(dy h4).2.1,(dy h5).1,(dy h5).2.1⟩,h2,h5⟩;obtain⟨⟨a,b⟩,e1,h6⟩:=ak h1
  obtain⟨⟨c,d⟩,e2,h7⟩:=ak h6
  simp! [zza,zzy] at h7;obtain⟨p1,rfl⟩:=pq e1
  obtain⟨p2,z2⟩:=pq e2
  obtain⟨p3,z3⟩:=cj h7.1.1
  obtain⟨p4,z4⟩:=cj h7.1.2
  obtain⟨c5,y5,y6⟩:=m6 h7.2
  obtain⟨p5,p6,z5⟩:=u9 y5
  cases AU y6;dsimp only at z2 z3 z4 z5;subst z3 z4 z5 z2;exact⟨_,_,_,_,_,_,rfl⟩
 ·cases h
noncomputable def OJ(ts:List Expr):Option (Str×Expr):=(e9 ts).bind λt=>(HA t).bind λq=>(eR q.1).bind λx=>some (x,q.2)
noncomputable def Rb(o:Option Expr):Option (Str×Str):=o.bind λe=>(Ka e).bind λq=>(eR q.1).bind λx=>(e9 q.2.1).bind λa=>(KL a).bind λc=>(Kj c).bind λz=>if q.2.2.1.isEmpty=true then some (x,z) else none
noncomputable def vp:Stmt->Option (List Expr×Expr×Pos)
 |.Assign ts v p=>some (ts,v,p)
 |_=>none
def oW{ts:List Expr}{x:Str}(h:Nl ts=some x):∃xp,ts=[.Name x xp]:=by
 obtain⟨t,h1,h2⟩:=m6 h
 obtain⟨p,rfl⟩:=cj h2
 exact⟨p,dj h1⟩
def ub{p:Expr}{x m:Str}{args:List Expr}(h:N5 p=some (x,m,args)):∃np apos bU,p=.Call (.Attribute (.Name x np) m apos) args [] bU/\(apos.endLine==bU.line)=true:=by
 obtain⟨⟨f,a,k,cp⟩,h1,h⟩:=m6 h
 obtain⟨⟨o,m',ap⟩,h2,h⟩:=m6 h
 obtain⟨y,h3,h⟩:=m6 h
 obtain⟨h4,h⟩:=if1 h
 cases h;rw [zza] at h4;obtain⟨p3,z3⟩:=cj h3
 have z2:=IM h2
 have z5:=List.isEmpty_iff.1 h4.1
 dsimp only at z2 z3 z5;subst z3 z2 z5;exact⟨_,_,_,jY h1,h4.2⟩
def Au{ts:List Expr}{x:Str}{pk:Expr}(h:OJ ts=some (x,pk)):∃np sp,ts=[.Subscript (.Name x np) pk sp]:=by
 obtain⟨t,h1,h⟩:=m6 h
 obtain⟨⟨a,b⟩,h2,h⟩:=m6 h
 obtain⟨y,h3,h⟩:=m6 h
 cases h;obtain⟨p3,z3⟩:=cj h3
 obtain⟨p2,z2⟩:=pq h2
 dsimp only at z3;subst z3 z2;exact⟨_,_,dj h1⟩
def Kf{o:Option Expr}{x z:Str}(h:Rb o=some (x,z)):∃np j zp cp,o=some (.Call (.Name x np) [.Constant (.str z) j zp] [] cp):=by
 obtain⟨e,h0,h⟩:=m6 h
 obtain⟨⟨f,a,k,cp⟩,h1,h⟩:=m6 h
 obtain⟨y,h2,h⟩:=m6 h
 obtain⟨t,h3,h⟩:=m6 h
 obtain⟨c,h4,h⟩:=m6 h
 obtain⟨w,h5,h⟩:=m6 h
 obtain⟨h6,h⟩:=if1 h
 cases h;obtain⟨p2,z2⟩:=cj h2
 obtain⟨p4,q4,z4⟩:=u9 h4
 have z3:=dj h3
 have z5:=B9 h5
 have z6:=List.isEmpty_iff.1 h6
 dsimp only at z2 z3 z6;subst z2 z5 z4 z3 z6;exact⟨_,_,_,_,h0.trans (congrArg some (jY h1))⟩
mutual
noncomputable def ft(Γ:Pg)(N:List Str)(sc:Scope):S->Stmt->Bool
 |.expr e,.Expr p _=>p7 p&&br Γ N sc e p
 |.set i e,.Assign ts p _=>(Nl ts).any λx=>N[i]?==some x&&fO sc x&&gX e&&br Γ N sc e p
 |.own i e,.Assign ts p _=>(Nl ts).any λx=>N[i]?==some x&&fO sc x&&iV e&&br Γ N sc e p
 |.app i e,.Expr v _=>(N5 v).any λc=>N[i]?==some c.1&&eN sc c.1&&okN c.1&&c.2.1==("append":Str)&&gX e&&(e9 c.2.2).any λp=>br Γ N sc e p
 |.ni i e,.Expr v _=>(N5 v).any λc=>N[i]?==some c.1&&eN sc c.1&&okN c.1&&c.2.1==("extend":Str)&&(e9 c.2.2).any λp=>br Γ N sc e p
 |.put i kk e,.Assign ts p _=>(OJ ts).any λc=>N[i]?==some c.1&&eN sc c.1&&okN c.1&&gX e&&br Γ N sc kk c.2&&br Γ N sc e p
 |.ret e,.Return (some p) _=>gX e&&br Γ N sc e p
 |.ite c a b,.If p pa pb _=>fQ c&&br Γ N sc c p&&cY Γ N sc a pa&&cY Γ N sc b pb
 |.da tg it b,.For cO fV pb els _=>els.isEmpty&&ic N sc (λ_=>true) tg cO&&C8 it&&xO Γ N sc cO it fV&&cY Γ N sc b pb
 |.Gf c b,.While p pb els _=>els.isEmpty&&fQ c&&br Γ N sc c p&&cY Γ N sc b pb
 |.raise c m,.Raise ex fr _=>fr.isNone&&(Rb ex).any λq=>c==q.1&&m==q.2&&Γ.rs.contains c&&gR sc c&&okN c
 |.kh i,.Assign ts (.Dict [] [] _) _=>(Nl ts).any λx=>N[i]?==some x&&fO sc x
 |.eO i j n,.Assign ts v _=>(OJ ts).any λc=>(eR c.2).any λz=>N[i]?==some c.1&&eN sc c.1&&okN c.1&&N[n]?==some z&&eN sc z&&okN z&&(N5 v).any λd=>d.2.1==("pop":Str)&&(e9 d.2.2).any λe=>(eR e).any λz2=>z==z2&&N[j]?==some d.1&&eN sc d.1&&okN d.1
 |.m8 m i,.Assign ts v _=>(Nl ts).any λy=>(RH v).any λc=>N[m]?==some y&&fO sc y&&N[i]?==some c.1&&sc.names.lookup c.1==some .cell&&gR sc "min"&&Γ.bs.contains "min"&&Γ.hl&&v8 c.1 c.2.1 c.2.2.1 c.2.2.2
 |_,_=>false
noncomputable def cY(Γ:Pg)(N:List Str)(sc:Scope):Ss->List Stmt->Bool
 |.nil,[]=>true
 |.cons (.bz _) ss,ps=>cY Γ N sc ss ps
 |.cons s ss,p::ps=>ft Γ N sc s p&&cY Γ N sc ss ps
 |_,_=>false
end
section
variable{Γ:Pg}{X:Cx}{W:Wd}{F:bb}{N:List Str}{sc:Scope}{k:Nat}{H0:Hp}{E:XK}
def SR.go{env:Sl}{σ:St}{G H:Hp}(r:SR W H0 env σ G H):aB W G H0 G H:=⟨az.refl _,r.base,r.sub,λ_ _ _ h=>h,λ_=>r.tab⟩
def aB.then{G G1 H1 G2 H2:Hp}(a:aB W G H0 G1 H1)(b:aB W G1 H0 G2 H2):aB W G H0 G2 H2:=⟨a.g.trans b.g,b.h,b.sub,λx h1 h3 h2=>b.own x h1 h3 (a.own x h1 h3 h2),λt=>b.tab (t.same a.g a.own λ_ _ h=>h)⟩
def SR.on{env:Sl}{σ:St}{G H G1 H1:Hp}(r:SR W H0 env σ G H)(g:aB W G H G1 H1):aB W G H0 G1 H1:=⟨g.g,r.base.trans g.h,g.sub,λx h1 h3 h2=>g.own x (λz=>h1 (r.base.free z)) (r.base.w6 h1 h3) h2,λ_=>g.tab r.tab⟩
def Dn(W:Wd)(H0 G:Hp)(D:Ends):Fl->Prop
 |.nx env=>∀σ G' H',SR W H0 env σ G' H'->aB W G H0 G' H'->D.nx σ H'
 |.bk env=>∀σ G' H',SR W H0 env σ G' H'->aB W G H0 G' H'->D.bk σ H'
 |.ct env=>∀σ G' H',SR W H0 env σ G' H'->aB W G H0 G' H'->D.ct σ H'
 |.rt p=>∀v G' H',Rep W G' p v->aB W G H0 G' H'->D.rt v H'
def cg(W:Wd)(H0 G:Hp)(E:XK)(r:Res Fl)(D:Ends):Prop:=match r with
 |.ok f=>Dn W H0 G D f
 |.exc c=>∀Cv ao H',XE W c G H0 Cv ao H'->E Cv ao H'
 |.bad=>False
def Dn.on{G G1 H1:Hp}{D:Ends}{f:Fl}(h:Dn W H0 G D f)(g:aB W G H0 G1 H1):Dn W H0 G1 D f:=by
 cases f with
 |nx env=>exact λσ G' H' r g'=>h σ G' H' r (g.then g')
 |bk env=>exact λσ G' H' r g'=>h σ G' H' r (g.then g')
 |ct env=>exact λσ G' H' r g'=>h σ G' H' r (g.then g')
 |rt p=>exact λv G' H' r g'=>h v G' H' r (g.then g')
def cg.on{G G1 H1:Hp}{D:Ends}{r:Res Fl}(h:cg W H0 G E r D)(g:aB W G H0 G1 H1):cg W H0 G1 E r D:=by
 cases r with
 |ok f=>exact Dn.on h g
 |exc c=>
  intro Cv ao H' x;obtain⟨C,a,G',e1,e2,e3,e4,g2⟩:=x
  exact h Cv ao H' ⟨C,a,G',e1,e2,e3,e4,g.then g2⟩
 |bad=>exact h
noncomputable def tS(W:Wd)(F:bb)(H0:Hp)(E:XK)(s:S):TS:=λD σ H=>∃G env,SR W H0 env σ G H/\cg W H0 G E (fU F s env) D
noncomputable def QV(W:Wd)(F:bb)(H0:Hp)(E:XK)(ss:Ss):TS:=λD σ H=>∃G env,SR W H0 env σ G H/\cg W H0 G E (aG F ss env) D
abbrev GS(X:Cx)(W:Wd)(F:bb)(H0:Hp)(E:XK)(s:S)(p:Stmt):Prop:=PS X p (tS W F H0 E s)
abbrev Cq(X:Cx)(W:Wd)(F:bb)(H0:Hp)(E:XK)(s:Ss)(p:List Stmt):Prop:=wJ X p (QV W F H0 E s)
def _root_.L2.PS.imp{p:Stmt}{t t':TS}(h:PS X p t)(i:∀D σ H,t' D σ H->t D σ H):PS X p t':=λaa s σ H D I hw=>h aa s σ H D I (i D σ H hw)
def _root_.L2.wJ.imp{p:List Stmt}{t t':TS}(h:wJ X p t)(i:∀D σ H,t' D σ H->t D σ H):wJ X p t':=λaa s σ H D I hw=>h aa s σ H D I (i D σ H hw)
structure eQ(Γ:Pg)(F:bb)(W:Wd)(N:List Str)(sc:Scope)(k:Nat)(E:XK)(X:Cx):Prop where
 C:dF Γ F W N sc k X
 fn:∀x,X.fn x=true
 own:PassesOwn (model X.prog X.w) X.A X.env X.xe
 pass:Passes (dI X.prog X.w) X E
 kind:sc.kind=.function
 Lc:X.stack=X.env::X.outer
 frame:X.env.frame=some X.env.locals
 xs:∀c,Γ.rs.contains c=true->c∈W.xs
 rm:∀c,Γ.rs.contains c=true->∃C,X.mg c=some (.ref C)
 rz:∀(c z:Str) (j:Nat) (np zp cp pos:Pos),Γ.rs.contains c=true->gR sc c=true->okN c=true->PS X (.Raise (some (.Call (.Name c np) [.Constant (.str z) j zp] [] cp)) none pos) (λ_ _ H=>∀C e,X.mg c=some (.ref C)->H e=none->E (.ref C) (some e) H)
 NB:Γ.cs.contains "FloorError"=true->∀c D,c∈W.xs->X.mg c=some (.ref D)->∀T,X.mg "FloorError"=some (.ref T)->PySem.W.exmOne X.K (.ref D) (.ref T)=some true
theorem Ei(S:eQ Γ F W N sc k E X){c:Str}{σ:St}{Gs G H:Hp}(g:aB W Gs H0 G H)(h:∀Cv ao H',XE W c Gs H0 Cv ao H'->E Cv ao H'):vd X W σ c G H:=λaa G1 H1 s1 e s' I g1 x=>
 S.pass aa σ H1 s1 e s' I (Di.imp x λCv a H' y=>h Cv a H' (by
  obtain⟨C,a',G',e1,e2,e3,e4,g2⟩:=y
  have g3:=g1.trans g2
  exact⟨C,a',G',e1,e2,e3,e4,g.g.trans g3.g,g.h.trans g3.h,g3.sub,λx h1 h3 h2=>g3.own x (λz=>h1 (g.h.free z)) (g.h.w6 h1 h3) (g.own x h1 h3 h2),λt=>g3.tab (g.tab t)⟩))
def cg.bind{α:Type}(S:eQ Γ F W N sc k E X){r:Res α}{f:α->Res Fl}{D:Ends}{env:Sl}{σ:St}{G H:Hp}(sr:SR W H0 env σ G H)(h:cg W H0 G E (r.bind f) D):Out X W r σ G H λa=>cg W H0 G E (f a) D:=by
 cases r with
 |ok a=>exact h
 |exc c=>exact Ei S sr.go h
 |bad=>exact h
def sH(S:eQ Γ F W N sc k E X){env:Sl}{σ:St}{G H:Hp}{e:Ci.E}{f:PV->Res Fl}{D:Ends}{Q:VK}(sr:SR W H0 env σ G H)(o:cg W H0 G E ((aD F e env).bind f) D)
 (h:∀p v G1 H1,aB W G H G1 H1->Got W H0 G1 H1 e p v->SR W H0 env σ G1 H1->cg W H0 G1 E (f p) D->Q v H1):tE X W F e σ H Q:=
 ⟨H0,G,env,sr,(o.bind S sr).imp λp hp v G1 H1 g1 t=>h p v G1 H1 g1 t (sr.grow g1) (hp.on (sr.on g1))⟩
def FJ(S:eQ Γ F W N sc k E X){env:Sl}{σ:St}{G H:Hp}{e:Ci.E}{f:Bool->Res Fl}{D:Ends}{Q:Bool->Hp->Prop}(sr:SR W H0 env σ G H)(o:cg W H0 G E ((aD F e env).bind λp=>pB p f) D)
 (h:∀b G1 H1,aB W G H G1 H1->SR W H0 env σ G1 H1->cg W H0 G1 E (f b) D->Q b H1):tT X W F e σ H Q:=by
 refine⟨H0,G,env,sr,(o.bind S sr).imp λp hp=>?_⟩
 cases p with
 |bl b=>exact⟨b,rfl,λG1 H1 g1=>h b G1 H1 g1 (sr.grow g1) (cg.on hp (sr.on g1))⟩
 |aH=>exact zzk hp
 |int _=>exact zzk hp
 |str _=>exact zzk hp
 |tup _=>exact zzk hp
 |lst _=>exact zzk hp
 |exc _=>exact zzk hp
 |bo _ _=>exact zzk hp
def LD(S:eQ Γ F W N sc k E X){env:Sl}{σ:St}{G H:Hp}{e:Ci.E}{f:PV->Res Fl}{D:Ends}{Q:VK}(hl:∀env q,aD F e env=.ok q->∃xs,q=.lst xs)(sr:SR W H0 env σ G H)(o:cg W H0 G E ((aD F e env).bind f) D)
 (h:∀xs a vs G1 H1,aB W G H G1 H1->H1 a=none->aj W G1 xs vs->SR W H0 env σ G1 H1->cg W H0 G1 E (f (.lst xs)) D->Q (.ref a) (upd H1 a (.lst vs))):tF X W F e σ H Q:=by
 refine⟨H0,G,env,sr,?_⟩;have o2:=o.bind S sr
 cases r:aD F e env with
 |bad=>rw [r] at o2;exact o2
 |exc c=>rw [r] at o2;exact o2
 |ok q=>
  rw [r] at o2;obtain⟨xs,rfl⟩:=hl env q r
  exact⟨xs,rfl,λa vs G' H' g ha l=>h xs a vs G' H' g ha l (sr.grow g) (cg.on o2 (sr.on g))⟩
def qx{p:Expr}{t:Option Expr}{l:Nat}{env:Env}(h:p7 p=true):swapsWith p t l env=pure false:=by
 cases p<;>first|rfl|(exact bG h)
def kK{elt:Expr}{gens:List Comprehension}{s:Scope}{p:Pos}{x:Str}{xp:Pos}{l:Nat}(eP:X.env.scope=sc)(hk:sc.kind=.function):swapsWith (.ListComp elt gens s p) (some (.Name x xp)) l X.env=pure (OR sc x xp (.ListComp elt gens s p)):=by
 have hb:X.env.blockKind=.function:=by
  unfold Env.blockKind;rw [eP,hk]
  rfl
 show(pure (X.env.blockKind==.function&&X.env.kindOf x==some .local&&xp.line==p.line&&!(s.names.any λ(n,k)=>n==x&&(k==.local||k==.cell))):Sem Bool)=_
 rw [hb];show(pure (true&&X.env.scope.names.lookup x==some .local&&_&&_):Sem Bool)=_
 rw [eP]
 rfl
theorem CP(S:eQ Γ F W N sc k E X){e:Ci.E}{p:Expr}{pos:Pos}(he:GE X W F e p)(hn:p7 p=true):GS X W F H0 E (.expr e) (.Expr p pos):=
 L2.PS.imp (o7 he (qx hn)) λD σ H h=>by
  obtain⟨G,env,sr,o⟩:=h
  rw [fU] at o;exact sH S sr o λq v G1 H1 g t bR o1=>o1 σ G1 H1 bR bR.go
theorem JQ(S:eQ Γ F W N sc k E X){e:Ci.E}{p:Expr}{pos:Pos}(dz:gX e=true)(he:GE X W F e p):GS X W F H0 E (.ret e) (.Return (some p) pos):=
 L2.PS.imp (Im he) λD σ H h=>by
  obtain⟨G,env,sr,o⟩:=h
  rw [fU] at o;exact sH S sr o λq v G1 H1 g t bR o1=>o1 v G1 H1 (t.rep dz) bR.go
theorem Ah(S:eQ Γ F W N sc k E X){c m:Str}{j:Nat}{np zp cp pos:Pos}(h1:Γ.rs.contains c=true)(h2:gR sc c=true)(h3:okN c=true):GS X W F H0 E (.raise c m) (.Raise (some (.Call (.Name c np) [.Constant (.str m) j zp] [] cp)) none pos):=
 L2.PS.imp (S.rz c m j np zp cp pos h1 h2 h3) λD σ H h C e hC he=>by
  obtain⟨G,env,sr,o⟩:=h
  rw [fU] at o;exact o _ _ _ ⟨C,e,G,rfl,rfl,S.xs c h1,by rw [S.C.mg];exact hC,sr.go⟩
def fh(S:eQ Γ F W N sc k E X){i:Nat}{x:Str}(h:N[i]?=some x)(hl:fO sc x=true):X.N.Nodup/\X.N[i]?=some x/\Loc X.env.scope x:=by
 refine⟨by rw [S.C.hN];exact S.C.nd,by rw [S.C.hN];exact h,AO S.C.eP hl⟩
def Jh(S:eQ Γ F W N sc k E X){i:Nat}{x:Str}{e:Ci.E}{p:Expr}{xp pos:Pos}(h:N[i]?=some x)(hl:fO sc x=true)(dz:gX e=true)(he:GE X W F e p)(hs:swapsWith p (some (.Name x xp)) pos.line X.env=pure false):GS X W F H0 E (.set i e) (.Assign [.Name x xp] p pos):=by
 obtain⟨a1,a2,a3⟩:=fh S h hl
 refine L2.PS.imp (qy a1 a2 a3 he hs (.inl (S.fn x))) λD σ H h=>?_
 obtain⟨G,env,sr,o⟩:=h
 rw [fU] at o;exact sH S sr o λq v G1 H1 g t bR o1=>o1 _ G1 H1 (bR.set i (t.rep dz)) bR.go
noncomputable def KQ(X:Cx)(W:Wd)(F:bb)(i:Nat)(e:Ci.E):TS:=λD σ H=>tF X W F e σ H λv H1=>D.nx (σ.set i (some v)) H1
def MP{e:Ci.E}(hl:∀env q,aD F e env=.ok q->∃xs,q=.lst xs)(σ:St)(H:Hp)(Q:VK)(h:tE X W F e σ H Q):tF X W F e σ H Q:=by
 obtain⟨H0,G,env,sr,o⟩:=h
 refine⟨H0,G,env,sr,?_⟩;cases r:aD F e env with
 |bad=>rw [r] at o;exact o
 |exc c=>rw [r] at o;exact o
 |ok q=>
  rw [r] at o;obtain⟨xs,rfl⟩:=hl env q r
  exact⟨xs,rfl,λa vs G' H' g ha l=>o _ _ _ (g.trans (.new g.sub ha)) (.of (.l (.inl (.inl aq)) (aj.same (bx (g.sub.free ha)) xs l)))⟩
theorem D7(S:eQ Γ F W N sc k E X){i:Nat}{e:Ci.E}{p:Stmt}(hl:∀env q,aD F e env=.ok q->∃xs,q=.lst xs)(dz:gX e=true)(h:PS X p (KQ X W F i e)):GS X W F H0 E (.set i e) p:=
 L2.PS.imp h λD σ H hq=>by
  obtain⟨G,env,sr,o⟩:=hq
  rw [fU] at o;refine MP hl σ H _ (sH S sr o λq v G1 H1 g t bR o1=>?_);exact o1 _ G1 H1 (bR.set i (t.rep dz)) bR.go
def EL(S:eQ Γ F W N sc k E X){i:Nat}{x:Str}{e:Ci.E}{p:Stmt}(hi:N[i]?=some x)(hl:∀env q,aD F e env=.ok q->∃xs,q=.lst xs)(h:PS X p (KQ X W F i e)):GS X W F H0 E (.own i e) p:=by
 intro aa s σ H D I hq;have AW:i<σ.length:=by rw [I.len,S.C.hN];exact(zzH.mp hi).1
 refine h aa s σ H D I ?_;obtain⟨G,env,sr,o⟩:=hq
 rw [fU] at o;refine LD S hl sr o λxs a vs G1 H1 g ha l bR o1=>?_
 have hO:Own W H0 G1 (upd H1 a (.lst vs)) (.lst xs) (.ref a):=⟨a,vs,rfl,aq,bR.sub.free ha,bR.base.free ha,l⟩
 obtain⟨r2,g2⟩:=Bc bR bR.go (i:=i) (by rw [bR.len];exact AW) ha hO
 exact o1 _ G1 _ r2 g2
def o8{i:Nat}{x:Str}{e:Ci.E}{p:Expr}{xp pos:Pos}(S:eQ Γ F W N sc k E X)(h:N[i]?=some x)(hl:fO sc x=true)(he:GF X W F e p)(hs:swapsWith p (some (.Name x xp)) pos.line X.env=pure false):PS X (.Assign [.Name x xp] p pos) (KQ X W F i e):=by
 obtain⟨a1,a2,a3⟩:=fh S h hl
 exact qy a1 a2 a3 he hs (.inl (S.fn x))
def Bg(S:eQ Γ F W N sc k E X){i:Nat}{x:Str}{xp fN:Pos}(hx:N[i]?=some x)(Fv:fO sc x=true){kk:Nat}{aU:List Nat}{tg:Tg}{it:I}{elt:Ci.E}{cO fV eE:Expr}{scope:Scope}{pos:Pos}(h:mV N sc scope kk aU (aE cO))(bH:md kk tg=true)(dz:gX elt=true)(hi:GI X W F cO it fV)(tJ:∀x,foldedSetIterable fV X.env x=pure x)
 (Bp:ic (aE cO++freeOf scope) (cV scope sc) (lN scope) tg cO=true) (he:∀Y,dF Γ.Cp F W (aE cO++freeOf scope) (cV scope sc) k Y->GE Y W F elt eE):PS X (.Assign [.Name x xp] (.ListComp eE [⟨cO,fV,[],0⟩] scope pos) fN) (KQ X W F i (.comp kk aU tg it elt)):=by
 obtain⟨a1,a2,a3⟩:=fh S hx Fv
 cases Ce:OR sc x xp (.ListComp eE [⟨cO,fV,[],0⟩] scope pos) with
 |false=>exact o8 S hx Fv (w9 S.C h bH dz hi tJ Bp he) (by rw [kK S.C.eP S.kind,Ce])
 |true=>
  intro aa s σ H D I hq;have JE:(freeOf scope).Nodup:=(List.nodup_append.mp h.nd).2.1
  have rd:=v7 (N:=N) S.C.K bH dz h.slots JE σ H _ hq
  have:=uL (g:=gT X.K tg) (te:=tN W F elt) (xs:=aE cO) (ys:=freeOf scope) (is:=aU) (pos:=pos) a1 a2 a3 S.C.calm (o5 S.C.hN S.C.eP I.ok h) hi
   (λfp s1 H1 A=>Ae (fn:=lN scope) (X:=bT X (aE cO++freeOf scope) scope (bE X.env (freeOf scope)) fp s1 H1 A) rfl h.nd (eW S.C.eP) rfl (λ_ z=>z) Bp)
   (λfp s1 H1 A=>L2.PE.imp (he _ (fj S.C h fp s1 H1 A)) λσ H Q z=>vX σ H Q z) (by rw [kK (l:=fN.line) S.C.eP S.kind,Ce]) tJ (.inl (S.fn x)) aa s σ H D I
  rw [h.len] at this;exact this rd
def uN(S:eQ Γ F W N sc k E X){i:Nat}{x:Str}{xp fN:Pos}(hx:N[i]?=some x)(Fv:fO sc x=true){kk:Nat}{aU:List Nat}{tg:Tg}{it:I}{c elt:Ci.E}{cO fV pc eE:Expr}{scope:Scope}{pos:Pos}(h:mV N sc scope kk aU (aE cO))(bH:md kk tg=true)(dz:gX elt=true)(hi:GI X W F cO it fV)(tJ:∀x,foldedSetIterable fV X.env x=pure x)
 (Bp:ic (aE cO++freeOf scope) (cV scope sc) (lN scope) tg cO=true) (hc:∀Y,dF Γ.Cp F W (aE cO++freeOf scope) (cV scope sc) k Y->GT Y W F c pc) (he:∀Y,dF Γ.Cp F W (aE cO++freeOf scope) (cV scope sc) k Y->GE Y W F elt eE):PS X (.Assign [.Name x xp] (.ListComp eE [⟨cO,fV,[pc],0⟩] scope pos) fN) (KQ X W F i (.cG kk aU tg it c elt)):=by
 obtain⟨a1,a2,a3⟩:=fh S hx Fv
 cases Ce:OR sc x xp (.ListComp eE [⟨cO,fV,[pc],0⟩] scope pos) with
 |false=>exact o8 S hx Fv (nO S.C h bH dz hi tJ Bp hc he) (by rw [kK S.C.eP S.kind,Ce])
 |true=>
  intro aa s σ H D I hq;have JE:(freeOf scope).Nodup:=(List.nodup_append.mp h.nd).2.1
  have rd:=nQ (N:=N) S.C.K bH dz h.slots JE σ H _ hq
  have:=pY (g:=gT X.K tg) (tt:=NQ W F c) (te:=tN W F elt) (xs:=aE cO) (ys:=freeOf scope) (is:=aU) (pos:=pos) a1 a2 a3 S.C.calm (o5 S.C.hN S.C.eP I.ok h) hi
   (λfp s1 H1 A=>Ae (fn:=lN scope) (X:=bT X (aE cO++freeOf scope) scope (bE X.env (freeOf scope)) fp s1 H1 A) rfl h.nd (eW S.C.eP) rfl (λ_ z=>z) Bp)
   (λfp s1 H1 A=>L2.PT.imp (hc _ (fj S.C h fp s1 H1 A)) λσ H Q z=>AZ σ H Q z)
   (λfp s1 H1 A=>L2.PE.imp (he _ (fj S.C h fp s1 H1 A)) λσ H Q z=>vX σ H Q z) (by rw [kK (l:=fN.line) S.C.eP S.kind,Ce]) tJ (.inl (S.fn x)) aa s σ H D I
  rw [h.len] at this;exact this rd
def xh{tg:Tg}{p:PV}{env:Sl}(c:Str):Tg.put tg p env≠.exc c:=by
 unfold Tg.put;split<;>exact λz=>nomatch z
theorem HW(S:eQ Γ F W N sc k E X){c:Ci.E}{a b:Ss}{p:Expr}{pa pb:List Stmt}{pos:Pos}(hc:GT X W F c p)(ha:Cq X W F H0 E a pa)(hb:Cq X W F H0 E b pb):GS X W F H0 E (.ite c a b) (.If p pa pb pos):=
 L2.PS.imp (MA hc ha hb) λD σ H h=>by
  obtain⟨G,env,sr,o⟩:=h
  rw [fU] at o;refine FJ S sr o λt G1 H1 g bR o1=>?_
  cases t with
  |true=>
   rw [if_pos rfl] at o1⊢;exact⟨G1,env,bR,o1⟩
  |false=>
   rw [if_neg zzf] at o1⊢;exact⟨G1,env,bR,o1⟩
theorem Jq(S:eQ Γ F W N sc k E X){c:Ci.E}{b:Ss}{p:Expr}{pb:List Stmt}{pos:Pos}(hc:GT X W F c p)(hb:Cq X W F H0 E b pb):GS X W F H0 E (.Gf c b) (.While p pb [] pos):=
 L2.PS.imp (Ac S.own hc hb) λD σ H h=>by
  obtain⟨G,env,sr,o⟩:=h
  rw [fU] at o;refine⟨λm σ' H'=>∃G' av,SR W H0 av σ' G' H'/\aB W G H0 G' H'/\cg W H0 G' E (d5 (aD F c) (aG F b) m av) D,⟨_,G,env,sr,sr.go,o⟩,?_⟩
  rintro m σ' H' ⟨G',av,sr',g',o'⟩
  cases m with
  |zero=>exact o'.elim
  |succ m=>
   unfold d5 at o';refine FJ S sr' o' λt G1 H1 g1 bR o1=>?_
   cases t with
   |false=>
    rw [if_neg zzf] at o1⊢;exact o1 σ' G1 H1 bR bR.go
   |true=>
    rw [if_pos rfl] at o1⊢;refine⟨λσ2 H2=>∃G2 eB,SR W H0 eB σ2 G2 H2/\aB W G H0 G2 H2/\cg W H0 G2 E (d5 (aD F c) (aG F b) m eB) D,λσ2 H2 h2=>⟨m,Nat.lt_succ_self _,h2⟩,G1,av,bR,?_⟩
    have gg:=g'.then (sr'.on g1)
    cases r:aG F b av with
    |bad=>rw [r] at o1;exact o1.elim
    |exc cc=>rw [r] at o1;exact o1
    |ok f=>
     rw [r] at o1;cases f with
     |nx eB=>exact λσ2 G2 H2 fM g2=>⟨G2,eB,fM,gg.then g2,cg.on (show cg W H0 G1 E (d5 (aD F c) (aG F b) m eB) D from o1) g2⟩
     |ct eB=>exact λσ2 G2 H2 fM g2=>⟨G2,eB,fM,gg.then g2,cg.on (show cg W H0 G1 E (d5 (aD F c) (aG F b) m eB) D from o1) g2⟩
     |bk eB=>exact λσ2 G2 H2 fM g2=>o1 σ2 G2 H2 fM g2
     |rt q=>exact λv G2 H2 rv g2=>o1 v G2 H2 rv g2
def Iy(S:eQ Γ F W N sc k E X){tg:Tg}{it:I}{b:Ss}{cO fV:Expr}{pb:List Stmt}{pos:Pos}(Bp:ic N sc (λ_=>true) tg cO=true)(hit:C8 it=true)(hi:GI X W F cO it fV)(tJ:∀x,foldedSetIterable fV X.env x=pure x)(hb:Cq X W F H0 E b pb):GS X W F H0 E (.da tg it b) (.For cO fV pb [] pos):=
 L2.PS.imp (Ko S.own S.C.calm hi (Ae (fn:=λ_=>true) S.C.hN S.C.nd S.C.eP S.C.calm (λx _=>S.fn x) Bp) hb tJ) λD σ H h=>by
  obtain⟨G,env,sr,o⟩:=h
  rw [fU] at o;refine⟨H0,G,env,sr,(o.bind S sr).imp λps kQ J G1 H1 g1 gi=>?_⟩
  have bz:=gi.bz hit
  generalize hf:(λ(x:PV) (env:Sl)=>(tg.put x env).bind λav=>aG F b av)=f at kQ
  have bR:=sr.grow g1
  refine⟨λi m σ' H'=>i<=ps.length/\m=ps.length-i/\∃G' av,SR W H0 av σ' G' H'/\aB W G1 H0 G' H'/\cg W H0 G' E (forL f (ps.drop i) av) D,⟨_,Nat.zero_le _,rfl,G1,env,bR,bR.go,by rw [List.drop_zero];exact cg.on kQ (sr.on g1)⟩,?_⟩
  rintro i m σ' H' ⟨EC,hm,G',av,sr',g',o'⟩
  obtain⟨ist,igo⟩:=bz i G' H' g'.g (.of (g'.g.trans sr'.sub)) sr'.sub
  by_cases hlast:i=ps.length
  ·refine .inl ⟨ist hlast,?_⟩;rw [hlast,List.drop_length] at o';exact o' σ' G' H' sr' sr'.go
  ·have bH:i<ps.length:=by omega
   obtain⟨hgo,hyld⟩:=igo ps[i] (zzg bH)
   refine .inr ⟨hgo,λσ2 H2=>i+1<=ps.length/\∃G2 eB,SR W H0 eB σ2 G2 H2/\aB W G1 H0 G2 H2/\cg W H0 G2 E (forL f (ps.drop (i+1)) eB) D,λσ2 H2 h2=>⟨ps.length-(i+1),by omega,h2.1,rfl,h2.2⟩,λx nh hy=>?_⟩
   obtain⟨vI,g'',rx⟩:=hyld x nh hy
   rw [List.drop_eq_getElem_cons bH] at o';unfold forL at o';have Ti:f ps[i] av=(tg.put ps[i] av).bind λav=>aG F b av:=by rw [<-hf]
   rw [Ti] at o';have fM:=sr'.grow g''
   have g2:=g'.then (sr'.on g'')
   cases r:tg.put ps[i] av with
   |bad=>rw [r] at o';exact o'.elim
   |exc c=>exact absurd r (xh c)
   |ok eB=>
    rw [r] at o';refine uA S.C.K r fM rx λσ2 sr3=>⟨vI,eB,sr3,?_⟩
    have o2:cg W H0 vI E ((aG F b eB).bind λfl=>match fl with
     |.nx av=>forL f (ps.drop (i+1)) av
     |.ct av=>forL f (ps.drop (i+1)) av
     |.bk av=>.ok (.nx av)
     |.rt p=>.ok (.rt p)) D:=cg.on o' (sr'.on g'')
    cases r2:aG F b eB with
    |bad=>rw [r2] at o2;exact o2.elim
    |exc cc=>rw [r2] at o2;exact o2
    |ok fl=>
     rw [r2] at o2;cases fl with
     |nx env3=>exact λσ3 G3 H3 Ig g3=>⟨bH,G3,env3,Ig,g2.then g3,cg.on (show cg W H0 vI E (forL f (ps.drop (i+1)) env3) D from o2) g3⟩
     |ct env3=>exact λσ3 G3 H3 Ig g3=>⟨bH,G3,env3,Ig,g2.then g3,cg.on (show cg W H0 vI E (forL f (ps.drop (i+1)) env3) D from o2) g3⟩
     |bk env3=>exact λσ3 G3 H3 Ig g3=>o2 σ3 G3 H3 Ig g3
     |rt q=>exact λv G3 H3 rv g3=>o2 v G3 H3 rv g3
theorem En:Cq X W F H0 E .nil []:=L2.wJ.imp EO λD σ H h=>by
 obtain⟨G,env,sr,o⟩:=h
 rw [aG] at o;exact o σ G H sr sr.go
theorem ze{s:Ci.S}{ss:Ss}{p:Stmt}{ps:List Stmt}(h1:GS X W F H0 E s p)(h2:Cq X W F H0 E ss ps):Cq X W F H0 E (.cons s ss) (p::ps):=
 L2.wJ.imp (Aa h1 h2) λD σ H h=>by
  obtain⟨G,env,sr,o⟩:=h
  rw [aG] at o;refine⟨G,env,sr,?_⟩;cases r:fU F s env with
  |bad=>rw [r] at o;exact o
  |exc c=>rw [r] at o;exact o
  |ok f=>
   rw [r] at o;cases f with
   |nx eB=>exact λσ2 G2 H2 fM g2=>⟨G2,eB,fM,cg.on (show cg W H0 G E (aG F ss eB) D from o) g2⟩
   |bk eB=>exact o
   |ct eB=>exact o
   |rt q=>exact o
def EX{i:Nat}{ss:Ss}{ps:List Stmt}(h:Cq X W F H0 E ss ps):Cq X W F H0 E (.cons (.bz i) ss) ps:=by
 intro aa s σ H D I hq;obtain⟨G,env,sr,o⟩:=hq
 rw [aG,fU] at o;rcases Jk sr sr.go i with⟨G',sr',g'⟩|⟨a,au,ha,k⟩
 ·exact h aa s σ H D I ⟨G',_,sr',cg.on (show cg W H0 G E (aG F ss (env.modify i qB)) D from o) g'⟩
 ·obtain⟨ob,J⟩:=I.freeze ha
  obtain⟨G',sr',g'⟩:=k ob
  exact h aa s σ _ D J ⟨G',_,sr',cg.on (show cg W H0 G E (aG F ss (env.modify i qB)) D from o) g'⟩
def tV(hK:W.K=X.K):Q6 X "list.extend" (λx vs H Q=>∃l b xs zs,x=.ref l/\vs=[.ref b]/\H l=some (.lst xs)/\qJ W.K H b zs/\xs.length+zs.length<=sizeLine/\Q .aH (upd H l (.lst (xs++zs)))):=by
 intro aa s σ H x vs v us Q I rx rv h;obtain⟨l,b,xs,zs,rfl,rfl,hH,hB,hz,q⟩:=h
 cases rx;obtain⟨u,rfl,ru⟩:=Vals.one rv
 cases ru;obtain⟨z,ax,n,r,hl,e⟩:=I.MM hH
 obtain⟨dR,n2,r2,Qc,z2,e2⟩:=Fz hK I hB
 have hsz:ax.toArray.size+dR.toArray.size<=sizeLine:=by rw [zzC,zzC];omega
 have Nx:¬(!ax.toArray.isEmpty&&Builtin.List.listTooLong (ax.toArray.size+dR.toArray.size))=true:=by
  rw [BK hsz,Bool.and_false];exact zzf
 refine PySem.call_meets PySem.F.slot_list_extend ⟨_,e,rfl⟩ PySem.F.entry_list_extend (PySem.F.args_list_extend_2 _ _)
  (PySem.AutoSeq1.list_extend_list_list_0 l ax.toArray n b dR.toArray n2 Nx (by rw [zzC];omega) (by omega)) ⟨e,e2,?_⟩
 refine⟨.aH,_,I.Ma (its':=ax++dR) hH e (by simp) (r.append r2) ?_,rfl,q⟩;rw [zzM];omega
def il(S:eQ Γ F W N sc k E X){i:Nat}{x:Str}{pos:Pos}(h:N[i]?=some x)(hv:eN sc x=true)(ho:okN x=true):PE X (.Name x pos) (BZ i):=
 fu (by rw [S.C.hN];exact h) (oX S.C hv) (dy ho).1 (dy ho).2.1
def wK{env:Sl}{σ:St}{G H:Hp}{i:Nat}{xs:List PV}(sr:SR W H0 env σ G H)(h:env[i]?=some (.own (.lst xs))):∃a vs,σ[i]?=some (some (.ref a))/\H a=some (.lst vs)/\G a=none/\H0 a=none/\aj W G xs vs:=by
 obtain⟨o,ho,v,rfl,a,vs,rfl,h1,h2,h3,l⟩:=sr.slot i _ h
 exact⟨a,vs,ho,h1,h2,h3,l⟩
def J5(S:eQ Γ F W N sc k E X){i:Nat}{x:Str}{e:Ci.E}{p:Expr}{np apos bU pos:Pos}(h:N[i]?=some x)(hv:eN sc x=true)(ho:okN x=true)(k7:(apos.endLine==bU.line)=true)(dz:gX e=true)(he:GE X W F e p)
 (d7:∀env ps,starEach (p::ps) env=(false,eval p env)::starEach ps env):GS X W F H0 E (.app i e) (.Expr (.Call (.Attribute (.Name x np) "append" apos) [p] [] bU) pos):=by
 refine L2.PS.imp (o7 (Gp PySem.F.plainAttrs_list PySem.F.slot_list_append PySem.F.type_list_append xx (il S h hv ho) (bS he dc (d7 _ _)) rfl (by rw [d7];rfl) k7 (d7 _ _) rfl) rfl) λD σ H hq=>?_
 obtain⟨G,env,sr,o⟩:=hq
 rw [fU] at o;split at o
 ·rename_i xs hx;obtain⟨a,vs,hs,h1,h2,h3,l⟩:=wK sr hx
  refine⟨.ref a,hs,.inl ⟨rfl,_,fH.of h1⟩,sH S sr o λq v G1 H1 g t bR o1=>?_⟩
  split at o1
  ·rename_i hl;have IE:=g.h.at h1 (λ_ z=>nomatch z)
   have Cs:=g.own a (by rw [h1];exact λz=>nomatch z) (by rw [h1];exact λ_ z=>nomatch z) h2
   have l':=aj.same g.g xs l
   refine⟨a,vs,v,rfl,rfl,IE,by rw [l.length];exact zzW hl (by decide),?_⟩;obtain⟨r2,g2⟩:=mq (p':=.lst (xs++[q])) (ob:=.lst (vs++[v])) bR bR.go hx hs Cs h3 ⟨a,_,rfl,aq,Cs,h3,l'.append (.cons (t.rep dz) .nil)⟩
   exact o1 _ G1 _ r2 g2
  ·exact o1.elim
 ·exact o.elim
def FF(S:eQ Γ F W N sc k E X){i:Nat}{x:Str}{e:Ci.E}{p:Expr}{np apos bU pos:Pos}(h:N[i]?=some x)(hv:eN sc x=true)(ho:okN x=true)(k7:(apos.endLine==bU.line)=true)(he:GE X W F e p)
 (d7:∀env ps,starEach (p::ps) env=(false,eval p env)::starEach ps env):GS X W F H0 E (.ni i e) (.Expr (.Call (.Attribute (.Name x np) "extend" apos) [p] [] bU) pos):=by
 refine L2.PS.imp (o7 (Gp PySem.F.plainAttrs_list PySem.F.slot_list_extend PySem.F.type_list_extend (tV S.C.K) (il S h hv ho) (bS he dc (d7 _ _)) rfl (by rw [d7];rfl) k7 (d7 _ _) rfl) rfl) λD σ H hq=>?_
 obtain⟨G,env,sr,o⟩:=hq
 rw [fU] at o;split at o
 ·rename_i xs hx;obtain⟨a,vs,hs,h1,h2,h3,l⟩:=wK sr hx
  refine⟨.ref a,hs,.inl ⟨rfl,_,fH.of h1⟩,sH S sr o λq v G1 H1 g t bR o1=>?_⟩
  split at o1
  ·rename_i ys;split at o1
   ·rename_i hl;have IE:=g.h.at h1 (λ_ z=>nomatch z)
    have Cs:=g.own a (by rw [h1];exact λz=>nomatch z) (by rw [h1];exact λ_ z=>nomatch z) h2
    have l':=aj.same g.g xs l
    obtain⟨b,us,rfl,hb,lb⟩:=t.top.lst bR.sub
    refine⟨a,b,vs,us,rfl,rfl,IE,hb,by rw [l.length,lb.length];exact lP hl,?_⟩;obtain⟨r2,g2⟩:=mq (p':=.lst (xs++ys)) (ob:=.lst (vs++us)) bR bR.go hx hs Cs h3 ⟨a,_,rfl,aq,Cs,h3,l'.append lb⟩
    exact o1 _ G1 _ r2 g2
   ·exact o1.elim
  ·exact o1.elim
 ·exact o.elim
def Nv:V->V->V->Hp->(Hp->Prop)->Prop:=λo i v H Q=>∃a H',o=.ref a/\yy H a i v H'/\Q H'
def vn(hu:X.A.units+1<cLine):Mr X Nv:=by
 intro aa s σ H o i v ov iv u Q I ro ri rv h;obtain⟨a,H',rfl,g,q⟩:=h
 cases ro;exact yu hu I g ri rv λs' I'=>⟨H',I',q⟩
def i8{env:Sl}{σ:St}{G H:Hp}{i:Nat}{ks:List (List Int)}{ps:List PV}(sr:SR W H0 env σ G H)(h:env[i]?=some (.own (.bo ks ps))):∃a us,σ[i]?=some (some (.ref a))/\ks.length=us.length/\H a=some (.dT (kz ks us))/\G a=none/\H0 a=none/\aj W G ps us:=by
 obtain⟨o,ho,v,rfl,a,us,rfl,n,h1,h2,h3,l⟩:=sr.slot i _ h
 exact⟨a,us,ho,n,h1,h2,h3,l⟩
def Ji(S:eQ Γ F W N sc k E X){i:Nat}{x:Str}{kk e:Ci.E}{pk p:Expr}{np fN pos:Pos}(h:N[i]?=some x)(hv:eN sc x=true)(ho:okN x=true)(dz:gX e=true)(Sj:br Γ N sc kk pk=true)(hk:GE X W F kk pk)(he:GE X W F e p):GS X W F H0 E (.put i kk e) (.Assign [.Subscript (.Name x np) pk fN] p pos):=by
 have Ce:swappedStores [.Subscript (.Name x np) pk fN] p X.env=pure none:=by cases p<;>rfl
 have ha:∀v,assign (.Subscript (.Name x np) pk fN) X.env v=(do
  let ov<-holding [v] (eval (.Name x np) X.env)
  let iv<-holding [v,ov] (eval pk X.env)
  standAt fN
  holding [v,ov,iv] (setItem ov iv v)
  release [v,ov,iv] []):=by
  intro v;cases pk<;>first|rfl|(cases kk<;>first|(exact bG Sj)|(rename_i q;cases q<;>exact bG Sj))
 refine L2.PS.imp (BC he (An (il S h hv ho) hk (vn (by have:=S.C.room.un;omega)) ha) (by cases p<;>rfl) Ce) λD σ H hq=>?_
 obtain⟨G,env,sr,o⟩:=hq
 rw [fU] at o;refine sH S sr o λq v G1 H1 g t bR o1=>?_
 split at o1
 ·rename_i ks ps hx;obtain⟨a,us,hs,n,h1,h2,h3,l⟩:=i8 bR hx
  refine⟨.ref a,hs,sH S bR o1 λq2 v2 G2 H2 g2 t2 fM o2=>?_⟩
  split at o2
  ·rename_i kk vk;split at o2
   ·rename_i yQ;have e2:=eg vk
    subst e2;obtain⟨b,rfl,hb⟩:=t2.top.tupI (ns:=kk) fM.sub rfl
    have IE:=g2.h.at h1 (λ_ z=>nomatch z)
    have Cs:=g2.own a (by rw [h1];exact λz=>nomatch z) (by rw [h1];exact λ_ z=>nomatch z) h2
    have l':=aj.same g2.g ps l
    refine⟨a,upd H2 a (.dT (putK (kz ks us) (ki kk) v)),rfl,yy.t IE (by rw [qw];exact fM.sub _ _ hb) (by rw [fv n];exact zzW yQ (by decide)),?_⟩;rw [u4 n];obtain⟨r2,gg⟩:=mq (p':=.bo (bp ks kk) (aX ks ps kk q)) (ob:=.dT (kz (bp ks kk) (aX ks us kk v))) fM fM.go hx hs Cs h3 ⟨a,_,rfl,mM n kk v,aq,Cs,h3,qD l' (Rep.same g2.g q (t.rep dz))⟩
    exact o2 _ G2 _ r2 gg
   ·exact o2.elim
  ·exact o2.elim
 ·exact o1.elim
def DR(S:eQ Γ F W N sc k E X){i:Nat}{x:Str}{np dp pos:Pos}(h:N[i]?=some x)(hl:fO sc x=true):GS X W F H0 E (.kh i) (.Assign [.Name x np] (.Dict [] [] dp) pos):=by
 obtain⟨a1,a2,a3⟩:=fh S h hl
 intro aa s σ H D I hq;have AW:i<σ.length:=by rw [I.len,S.C.hN];exact(zzH.mp h).1
 refine qy a1 a2 a3 Bo rfl (.inl (S.fn x)) aa s σ H D I ?_;obtain⟨G,env,sr,o⟩:=hq
 rw [fU] at o;intro p hp;obtain⟨r2,g2⟩:=Bc (i:=i) (p:=.bo [] []) (ob:=.dT []) sr sr.go (by rw [sr.len];exact AW) hp ⟨p,[],rfl,rfl,aq,sr.sub.free hp,sr.base.free hp,.nil⟩
 exact o _ G _ r2 g2
def xU(S:eQ Γ F W N sc k E X){i j n:Nat}{x y z:Str}{np zp fN yp apos SG bU pos:Pos}(h:N[i]?=some x)(hv:eN sc x=true)(ho:okN x=true)(hz:N[n]?=some z)(Rj:eN sc z=true)(Rm:okN z=true)(hy:N[j]?=some y)(Tu:eN sc y=true)(Tf:okN y=true)
 (k7:(apos.endLine==bU.line)=true):GS X W F H0 E (.eO i j n) (.Assign [.Subscript (.Name x np) (.Name z zp) fN] (.Call (.Attribute (.Name y yp) "pop" apos) [.Name z SG] [] bU) pos):=by
 have hu:X.A.units+1<cLine:=by have:=S.C.room.un;omega
 refine L2.PS.imp (BC (EY hu (il S hy Tu Tf) (il S hz Rj Rm) ⟨rfl,rfl,k7,rfl⟩) (An (il S h hv ho) (il S hz Rj Rm) (vn hu) λ_=>rfl) (by unfold swapsWithSole;exact qx rfl) rfl) λD σ H hq=>?_
 obtain⟨G,env,sr,o⟩:=hq
 rw [fU] at o;split at o
 ·rename_i ks ps ks2 ps2 kp e1 e2 e3;split at o
  ·rename_i kk vk;split at o
   ·rename_i p hp;split at o
    ·rename_i yQ;have ek:=eg vk
     subst ek;obtain⟨a,us,hs,nn,h1,h2,h3,l⟩:=i8 sr e1
     obtain⟨ok,hk1,v,rfl,rv⟩:=sr.slot n _ e3
     obtain⟨b,rfl,hb⟩:=oV rv
     obtain⟨w,hw,kw⟩:=pP l hp
     refine⟨.ref a,hs,a,rfl,.inr ⟨_,.inl h1⟩,.ref b,hk1,_,ki kk,b,w,h1,rfl,(by rw [qw];exact sr.sub _ _ hb),(by rw [jn];exact hw),?_⟩;rw [vv kk nn];obtain⟨r1,g1⟩:=mq (p':=.bo (bQ ks kk) (aO ks ps kk)) (ob:=.dT (kz (bQ ks kk) (aO ks us kk))) sr sr.go e1 hs h2 h3 ⟨a,_,rfl,su kk nn,aq,h2,h3,kW l⟩
     have QU:(env.set j (.own (.bo (bQ ks kk) (aO ks ps kk))))[i]?=some (.own (.bo ks2 ps2)):=by rw [zzS (Ne.symm yQ.2)];exact e2
     obtain⟨a2,us2,JK,n2,k1,k2,k3,l2⟩:=i8 r1 QU
     refine⟨.ref a2,JK,.ref b,hk1,a2,_,rfl,yy.t k1 (by rw [qw];exact r1.sub _ _ hb) (by rw [fv n2];exact zzW yQ.1 (by decide)),?_⟩;rw [u4 n2];obtain⟨r2,g2⟩:=mq (p':=.bo (bp ks2 kk) (aX ks2 ps2 kk p)) (ob:=.dT (kz (bp ks2 kk) (aX ks2 us2 kk w))) r1 g1 QU JK k2 k3 ⟨a2,_,rfl,mM n2 kk w,aq,k2,k3,qD l2 kw⟩
     exact o _ G _ r2 g2
    ·exact o.elim
   ·exact o.elim
  ·exact o.elim
 ·exact o.elim
end
end Ci
namespace L2
open PySem PySem.Spec PyProof.Rows
end L2
namespace Ci
open PySem L2
theorem pT:∀(cs:List Int) (all:List Int) (j b:Nat) (m:Int),all.drop j=cs->all[b]?=some m->b<j->(∀i c,all[i]?=some c->i<j->m<=c/\(i<b->m<c))->
 ∃m',all[eF cs j b m]?=some m'/\∀i c,all[i]?=some c->m'<=c/\(i<eF cs j b m->m'<c)
 |[],all,j,b,m,hd,hb,_,best=>by
  unfold eF;have hl:all.length<=j:=List.drop_eq_nil_iff.mp hd
  exact⟨m,hb,λi c e=>best i c e (zzW (zzH.mp e).1 hl)⟩
 |x::cs,all,j,b,m,hd,hb,hbj,best=>by
  have hx:all[j]?=some x:=by rw [<-List.head?_drop,hd];rfl
  have FZ:all.drop (j+1)=cs:=by rw [<-List.drop_drop,hd];rfl
  unfold eF;split
  ·rename_i bH;refine pT cs all (j+1) j x FZ hx (by omega) λi c e hi=>?_
   by_cases h:i=j
   ·subst h;rw [hx] at e;cases e;exact⟨Int.le_refl _,λz=>absurd z (Nat.lt_irrefl _)⟩
   ·have:=best i c e (by omega)
    exact⟨by omega,λ_=>by omega⟩
  ·rename_i bH;refine pT cs all (j+1) b m FZ hb (by omega) λi c e hi=>?_
   by_cases h:i=j
   ·subst h;rw [hx] at e;cases e;exact⟨by omega,λz=>by omega⟩
   ·exact best i c e (by omega)
def Dz{cs:List Int}{x:Nat}(h:AB cs=some x):∃m,cs[x]?=some m/\∀i c,cs[i]?=some c->m<=c/\(i<x->m<c):=by
 cases cs with
 |nil=>cases h
 |cons c cs=>
  cases h;refine pT cs (c::cs) 1 0 c rfl rfl (by omega) λi d e hi=>?_
  have:i=0:=by omega
  subst this;cases e;exact⟨Int.le_refl _,λz=>absurd z (Nat.not_lt_zero _)⟩
theorem nJ{W:Wd}{G H:Hp}{K:zz8}(hK:W.K=K)(sg:az G H):∀{ps:List PV} {us:List V} {cs:List Int},iE ps=some cs->aj W G ps us->cs.length=ps.length/\∀(i:Nat) v,us[i]?=some v->∃q r,v=V.ref q/\eV K H q (.int (cs.getD i 0)::r)
 |[],_,_,e,l=>by cases e;simp! [aj] at l;subst l;exact⟨rfl,λi v h=>by simp at h⟩
 |p::ps,us,cs,e,l=>by
  obtain⟨u,ur,rfl,h1,h2⟩:=l.bI
  unfold iE at e;split at e
  ·rename_i heq;cases heq
  ·rename_i heq;cases heq;obtain⟨r,hr,rfl⟩:=zzJ.mp e
   obtain⟨i1,i2⟩:=nJ hK sg hr h2
   refine⟨by simp [i1],λi v hv=>?_⟩
   cases i with
   |zero=>
    cases hv;simp! [Rep] at h1;obtain⟨q,ws,rfl,tq,lq⟩:=h1
    obtain⟨w,wr,rfl,k1,lq⟩:=lq.bI
    simp! [Rep] at k1;subst k1;exact⟨q,wr,rfl,by rw [<-hK];simpa using az.tup sg tq.sq⟩
   |succ i=>simpa using i2 i v (by simpa using hv)
  ·cases e
section
variable{Γ:Pg}{X:Cx}{W:Wd}{F:bb}{N:List Str}{sc:Scope}{k:Nat}{H0:Hp}{E:XK}
def Ek(S:eQ Γ F W N sc k E X){m i:Nat}{x y:Str}{params:Arguments}{body:Expr}{scope:Scope}{yp q1 q2 q3 q4 q5 pos:Pos}(h1:N[m]?=some y)(h2:fO sc y=true)(h3:N[i]?=some x)(h4:sc.names.lookup x=some .cell)(h5:gR sc "min"=true)(h6:Γ.bs.contains "min"=true)(h7:Γ.hl=true)
 (h8:v8 x params body scope=true):GS X W F H0 E (.m8 m i) (.Assign [.Name y yp] (.Call (.Name "min" q1) [.Name x q2] [⟨some "key",.Lambda params body scope q3,q4⟩] q5) pos):=by
 obtain⟨a1,a2,a3⟩:=fh S h1 h2
 obtain⟨p,ep,L,hfr,hox⟩:=zr h8
 have pe:PE X (.Call (.Name "min" q1) [.Name x q2] [⟨some "key",.Lambda params body scope q3,q4⟩] q5) (λσ H Q=>∃G env ks ps cs ix kk,SR W H0 env σ G H/\env[i]?=some (.own (.bo ks ps))/\iE ps=some cs/\AB cs=some ix/\ks[ix]?=some kk/\∀v G' H',aB W G H G' H'->Rep W G' (ah kk) v->Q v H'):=by
  intro aa s σ H Q I hq;obtain⟨G,env,ks,ps,cs,ix,kk,sr,e1,e2,e3,e4,q⟩:=hq
  obtain⟨d,us,hs,n,k1,k2,k3,l⟩:=i8 sr e1
  obtain⟨c,dX⟩:=I.ok.has x (.inl (by show X.env.scope.names.lookup x=_;rw [S.C.eP];exact h4))
  have BQ:closureFor scope X.env=pure [(x,c)]:=by
   rw [iw λy hy hf=>?_]
   ·show pure (bE X.env (bf scope))=_
    rw [hfr];simp [bE,dX]
   ·have:y.1∈bf scope:=by
     unfold bf;rw [List.mem_reverse,zzx];exact⟨y,List.mem_filter.mpr ⟨hy,by rw [hf];rfl⟩,rfl⟩
    rw [hfr] at this;rw [zzi.mp this];exact⟨c,dX⟩
  refine wpAny_Call_Name_kw (eC I (ei S.C h5) (S.C.bs _ (zzn.mp h6)) (u:=.builtin "min") (by decide+kernel) ?_);refine PyProof.Rows.callWith_kw ?_;refine Calls.spliced_cons (bP (fu (i:=i) (by rw [S.C.hN];exact h3) (.inr (.inl (by show X.env.scope.names.lookup x=_;rw [S.C.eP];exact h4))) (dy hox).1 (dy hox).2.1 aa s σ H (λv' H1=>v'=.ref d/\H1=H) I ⟨_,hs,rfl,rfl⟩) λu s1 hu=>Calls.spliced_nil ?_)
  obtain⟨v',H1,I1,ru,rfl,rfl⟩:=hu
  cases ru;refine PyProof.Rows.kws_cons (bP (BE S.C h7 ep BQ aa s1 σ H1 (λv2 H2=>∃f G2,v2=.ref f/\qd X W params body scope [(x,c)] G H1 G2 H2 f) I1 ⟨G,sr.sub,sr.tab,λf G2 H2 lm=>⟨f,G2,rfl,lm⟩⟩) λu s2 hu=>PyProof.Rows.kws_nil ?_)
  obtain⟨v2,H2,I2,ru,f,G2,rfl,g2,c',oc,cQ,t,fy,pm,fo,co,cd,cn⟩:=hu
  cases ru;have fM:=sr.grow g2
  obtain⟨d',us',tH,n',k1',k2',k3',l'⟩:=i8 fM e1
  rw [hs] at tH;cases tH;obtain⟨cl1,cl2⟩:=nJ (K:=X.K) S.C.K fM.sub e2 l'
  have M:KM X σ H2 k d f (kz ks us') (λi=>cs.getD i 0):=by
   refine⟨S.C.room,k1',⟨p,x,params,body,scope,_,c,c',oc,cQ,t,pm,fy,i,L,dX,I.ok.KZ x c (S.C.fl h7 x) dX,fM.sub _ _ fo,fM.sub _ _ co,cd,cn,λu=>vE ep [u] rfl,by rw [S.C.hN];exact h3,hs,by rw [S.C.eP];exact h4⟩,λj kx v e=>?_⟩
   have:us'[j]?=some v:=by
    unfold kz at e;rw [List.getElem?_zip_eq_some] at e;exact e.2
   exact cl2 j v this
  obtain⟨mm,KU,MQ⟩:=Dz e3
  have Qv:ix<ks.length:=(zzH.mp e4).1
  have Uj:cs.length=ks.length:=by rw [cl1,<-l'.length,n']
  refine xn M (by rw [fv n'];omega) I2 λj kx v b e hb best=>?_
  rw [fv n'] at best;have hj:j<ks.length:=by
   have:=(zzH.mp e).1
   rw [fv n'] at this;exact this
  have ej:j=ix:=by
   have ca:∀a,a<cs.length->cs[a]?=some (cs.getD a 0):=λa ha=>by simp [ha]
   have b1:=best ix Qv
   have b2:=MQ j _ (ca j (by omega))
   have em:mm=cs.getD ix 0:=by rw [ca ix (by omega)] at KU;exact(zzq KU).symm
   rw [em] at b2;rcases Nat.lt_trichotomy j ix with z|z|z
   ·have:=b2.2 z;have:=b1.1;omega
   ·exact z
   ·have:=b1.2 z;have:=b2.1;omega
  subst ej;have ek:kx=ki kk:=by
   have:=congrArg (λl=>l[j]?) (pZ (us:=us') n')
   simp! [zzQ,e,e4,Option.map_some] at this;exact zzq this
  rw [ek,qw] at hb;obtain⟨G3,g3,l3⟩:=gF (W:=W) (vs:=[.ref b]) (nss:=[kk]) fM.sub (.cons ⟨b,rfl,hb⟩ .nil)
  obtain⟨w,r,ew,hw,_⟩:=l3.bI
  cases ew;exact q _ _ _ (g2.trans g3) hw
 refine L2.PS.imp (qy a1 a2 a3 pe rfl (.inl (S.fn y))) λD σ H hq=>?_
 obtain⟨G,env,sr,o⟩:=hq
 rw [fU] at o;split at o
 ·rename_i ks ps hx;split at o
  ·rename_i cs hcs;split at o
   ·rename_i kk vk;obtain⟨ix,Gj,hk2⟩:=zzZ.mp vk
    exact⟨G,env,ks,ps,cs,ix,kk,sr,hx,hcs,Gj,hk2,λv G' H' g' rp=>o _ G' _ ((sr.grow g').set m rp) (sr.on g')⟩
   ·exact o.elim
  ·exact o.elim
 ·exact o.elim
def rA{e:Ci.E}(h:iV e=true):∀env q,aD F e env=.ok q->∃xs,q=.lst xs:=by
 cases e<;>first|(exact bG h)|exact lst_is|exact vC|exact n5
def oB(S:eQ Γ F W N sc k E X){i:Nat}{x:Str}{xp pos:Pos}(hx:N[i]?=some x)(Fv:fO sc x=true)(e:Ci.E)(p:Expr)(hf:iV e=true)(h:br Γ N sc e p=true):PS X (.Assign [.Name x xp] p pos) (KQ X W F i e):=by
 cases e with
 |lst as=>
  obtain⟨ps,e,h1⟩:=ak h
  obtain⟨_,rfl⟩:=Bm e
  have h2:=ay h1
  have h0:=ay h2.1
  exact o8 S hx Fv (Ca h0.1 (zzY h0.2) (mH as S.C _ h2.2)) rfl
 |comp kk aU tg it elt=>
  obtain⟨eE,gens,scope,_,rfl,h1⟩:=Ot h
  obtain⟨⟨cO,fV,ifs,asy⟩,z2,h2⟩:=jw h1
  have h3:=ay h2
  have z3:=GU h3.1
  dsimp only at z2 z3;subst z2 z3
  clear h h1 h2
  have h:=ay h3.2
  clear h3
  simp! [zza] at h;obtain⟨⟨⟨⟨⟨⟨h1,h2⟩,h3⟩,h4⟩,h5⟩,h6⟩,iA⟩:=h
  have iA:=zzY iA
  subst iA;exact Bg S hx Fv (i7 h1) h2 h3 (Af it S.C cO fV h4) (iO h4 _) h5 λY CY=>(bB elt CY eE h6).ge
 |cG kk aU tg it c elt=>
  obtain⟨eE,gens,scope,_,rfl,h1⟩:=Ot h
  obtain⟨⟨cO,fV,ifs,asy⟩,z2,h2⟩:=jw h1
  obtain⟨pc,z3,h3⟩:=jw h2
  dsimp only at z2 z3;subst z2 z3
  clear h h1 h2
  have h:=ay h3
  clear h3
  simp! [zza] at h;obtain⟨⟨⟨⟨⟨⟨⟨⟨h0,h1⟩,h2⟩,h3⟩,h4⟩,h5⟩,h6⟩,h7⟩,iA⟩:=h
  have iA:=zzY iA
  subst iA;exact uN S hx Fv (i7 h1) h2 h3 (Af it S.C cO fV h4) (iO h4 _) h5 (λY CY=>(bB c CY pc h6).gt h0) λY CY=>(bB elt CY eE h7).ge
 |_=>exact bG hf
def ye{e:Ci.E}{p:Expr}(h:br Γ N sc e p=true)(hf:iV e=false):p7 p=true:=by
 cases p<;>first|rfl|(cases e<;>first|(exact bG h)|(rename_i q;cases q<;>exact bG h)|(cases hf;done))
def xQ(S:eQ Γ F W N sc k E X){i:Nat}{x:Str}{e:Ci.E}{p:Expr}{xp pos:Pos}(h:N[i]?=some x)(hl:fO sc x=true)(dz:gX e=true)(hc:br Γ N sc e p=true):GS X W F H0 E (.set i e) (.Assign [.Name x xp] p pos):=by
 cases hf:iV e with
 |true=>exact D7 S (rA hf) dz (oB S h hl e p hf hc)
 |false=>exact Jh S h hl dz (bB e S.C p hc).ge (qx (ye hc hf))
def zX(S:eQ Γ F W N sc k E X)(e:Ci.E)(p:Stmt)(h:ft Γ N sc (.expr e) p=true):GS X W F H0 E (.expr e) p:=by
 cases p<;>first|(exact bG h)|skip
 replace h:=ay h
 try simp! [zza] at h
 exact CP S (bB e S.C _ h.2).ge h.1
def Du(S:eQ Γ F W N sc k E X)(i:Nat)(e:Ci.E)(p:Stmt)(h:ft Γ N sc (.set i e) p=true):GS X W F H0 E (.set i e) p:=by
 cases p<;>first|(exact bG h)|skip
 replace h:=ak h
 simp! [Option.any_eq_true,zza,zzy] at h;obtain⟨x,h0,h1⟩:=h
 obtain⟨xp,rfl⟩:=oW h0
 exact xQ S h1.1.1.1 h1.1.1.2 h1.1.2 h1.2
def DL(S:eQ Γ F W N sc k E X)(i:Nat)(e:Ci.E)(p:Stmt)(h:ft Γ N sc (.own i e) p=true):GS X W F H0 E (.own i e) p:=by
 cases p<;>first|(exact bG h)|skip
 replace h:=ak h
 simp! [Option.any_eq_true,zza,zzy] at h;obtain⟨x,h0,h⟩:=h
 obtain⟨xp,rfl⟩:=oW h0
 exact EL S h.1.1.1 (rA h.1.2) (oB S h.1.1.1 h.1.1.2 e _ h.1.2 h.2)
def Fx(S:eQ Γ F W N sc k E X)(i:Nat)(p:Stmt)(h:ft Γ N sc (.bz i) p=true):GS X W F H0 E (.bz i) p:=by
 cases p<;>exact bG h
def Fb(S:eQ Γ F W N sc k E X)(i:Nat)(e:Ci.E)(p:Stmt)(h:ft Γ N sc (.app i e) p=true):GS X W F H0 E (.app i e) p:=by
 cases p<;>first|(exact bG h)|skip
 replace h:=ak h
 simp! [Option.any_eq_true,zza,zzy] at h;obtain⟨⟨x,m,args⟩,h0,⟨⟨⟨⟨h1,h2⟩,h3⟩,h4⟩,h5⟩,q,h6,h7⟩:=h
 obtain⟨np,apos,bU,rfl,hl⟩:=ub h0
 cases dj h6;cases h4;exact J5 S h1 h2 h3 hl h5 (bB e S.C q h7).ge (notStar h7)
def Bx(S:eQ Γ F W N sc k E X)(i:Nat)(e:Ci.E)(p:Stmt)(h:ft Γ N sc (.ni i e) p=true):GS X W F H0 E (.ni i e) p:=by
 cases p<;>first|(exact bG h)|skip
 replace h:=ak h
 simp! [Option.any_eq_true,zza,zzy] at h;obtain⟨⟨x,m,args⟩,h0,⟨⟨⟨h1,h2⟩,h3⟩,h4⟩,q,h6,h7⟩:=h
 obtain⟨np,apos,bU,rfl,hl⟩:=ub h0
 cases dj h6;cases h4;exact FF S h1 h2 h3 hl (bB e S.C q h7).ge (notStar h7)
def CU(S:eQ Γ F W N sc k E X)(i:Nat)(kk e:Ci.E)(p:Stmt)(h:ft Γ N sc (.put i kk e) p=true):GS X W F H0 E (.put i kk e) p:=by
 cases p<;>first|(exact bG h)|skip
 replace h:=ak h
 simp! [Option.any_eq_true,zza,zzy] at h;obtain⟨⟨x,pk⟩,h0,⟨⟨⟨⟨h1,h2⟩,h3⟩,h5⟩,h6⟩,h7⟩:=h
 obtain⟨np,sp,rfl⟩:=Au h0
 exact Ji S h1 h2 h3 h5 h6 (bB kk S.C pk h6).ge (bB e S.C _ h7).ge
def zd(S:eQ Γ F W N sc k E X)(i:Nat)(p:Stmt)(h:ft Γ N sc (.kh i) p=true):GS X W F H0 E (.kh i) p:=by
 cases p<;>first|(exact bG h)|skip
 rename_i ts v pos;cases v<;>first|(exact bG h)|skip
 rename_i ks vs dp;cases ks<;>first|(exact bG h)|skip
 cases vs<;>first|(exact bG h)|skip
 replace h:=ak h
 simp! [Option.any_eq_true,zza,zzy] at h;obtain⟨x,h0,h1,h2⟩:=h
 obtain⟨yp,rfl⟩:=oW h0
 exact DR S h1 h2
def uM(S:eQ Γ F W N sc k E X)(i j n:Nat)(p:Stmt)(h:ft Γ N sc (.eO i j n) p=true):GS X W F H0 E (.eO i j n) p:=by
 cases p<;>first|(exact bG h)|skip
 replace h:=ak h
 simp! [Option.any_eq_true,zza,zzy] at h;obtain⟨⟨x,pk⟩,h0,z,hz,⟨⟨⟨⟨⟨h1,h2⟩,h3⟩,h4⟩,h5⟩,h6⟩,⟨y,m,args⟩,h7,h8,e,he,z2,hz2,⟨⟨h9,h10⟩,h11⟩,h12⟩:=h
 obtain⟨np,sp,rfl⟩:=Au h0
 obtain⟨zp,rfl⟩:=cj hz
 obtain⟨yp,apos,bU,rfl,hl⟩:=ub h7
 cases h8;cases dj he;obtain⟨SG,rfl⟩:=cj hz2
 subst h9;exact xU S h1 h2 h3 h4 h5 h6 h10 h11 h12 hl
def Bl(S:eQ Γ F W N sc k E X)(m i:Nat)(p:Stmt)(h:ft Γ N sc (.m8 m i) p=true):GS X W F H0 E (.m8 m i) p:=by
 cases p<;>first|(exact bG h)|skip
 replace h:=ak h
 simp! [Option.any_eq_true,zza,zzy] at h;obtain⟨y,hy,c,hc,⟨⟨⟨⟨⟨⟨h1,h2⟩,h3⟩,h4⟩,h5⟩,h6⟩,h7⟩,h8⟩:=h
 obtain⟨yp,rfl⟩:=oW hy
 obtain⟨q1,q2,q3,q4,q5,rfl⟩:=IS hc
 exact Ek S h1 h2 h3 h4 h5 h6 h7 h8
def FE(S:eQ Γ F W N sc k E X)(e:Ci.E)(p:Stmt)(h:ft Γ N sc (.ret e) p=true):GS X W F H0 E (.ret e) p:=by
 cases p<;>first|(exact bG h)|skip
 rename_i v pos;cases v with
 |none=>exact bG h
 |some v=>
  replace h:=ay h
  try simp! [zza] at h
  exact JQ S h.1 (bB e S.C v h.2).ge
def yx(S:eQ Γ F W N sc k E X)(c m:Str)(p:Stmt)(h:ft Γ N sc (.raise c m) p=true):GS X W F H0 E (.raise c m) p:=by
 cases p<;>first|(exact bG h)|skip
 replace h:=ay h
 simp! [Option.any_eq_true,zza,zzy] at h;obtain⟨hn,⟨x,z⟩,h0,⟨⟨⟨h1,h2⟩,h3⟩,h4⟩,h5⟩:=h
 obtain⟨np,j,zp,cp,rfl⟩:=Kf h0
 cases h1;cases h2;rename_i fr pos;cases Option.isNone_iff_eq_none.mp hn;exact Ah S h3 h4 h5
def De{c:Ci.E}{a b:Ss}{p:Stmt}(h:ft Γ N sc (.ite c a b) p=true):∃q pa pb pos,p=.If q pa pb pos/\fQ c=true/\br Γ N sc c q=true/\cY Γ N sc a pa=true/\cY Γ N sc b pb=true:=by
 cases p<;>first|(exact bG h)|skip
 replace h:=ay h
 try simp! [zza] at h
 exact⟨_,_,_,_,rfl,h.1.1.1,h.1.1.2,h.1.2,h.2⟩
def CC{tg:Tg}{it:I}{b:Ss}{p:Stmt}(h:ft Γ N sc (.da tg it b) p=true):∃cO fV pb pos,p=.For cO fV pb [] pos/\ic N sc (λ_=>true) tg cO=true/\C8 it=true/\xO Γ N sc cO it fV=true/\cY Γ N sc b pb=true:=by
 cases p<;>first|(exact bG h)|skip
 replace h:=ay h
 try simp! [zza] at h
 cases List.isEmpty_iff.mp h.1.1.1.1;exact⟨_,_,_,_,rfl,h.1.1.1.2,h.1.1.2,h.1.2,h.2⟩
def FC{c:Ci.E}{b:Ss}{p:Stmt}(h:ft Γ N sc (.Gf c b) p=true):∃q pb pos,p=.While q pb [] pos/\fQ c=true/\br Γ N sc c q=true/\cY Γ N sc b pb=true:=by
 cases p<;>first|(exact bG h)|skip
 replace h:=ay h
 try simp! [zza] at h
 cases List.isEmpty_iff.mp h.1.1.1;exact⟨_,_,_,rfl,h.1.1.2,h.1.2,h.2⟩
def EI{ps:List Stmt}(h:cY Γ N sc .nil ps=true):ps=[]:=by
 cases ps with
 |nil=>rfl
 |cons _ _=>exact bG h
def zx{s:Ci.S}{ss:Ss}{ps:List Stmt}(h:cY Γ N sc (.cons s ss) ps=true):(∃i,s=.bz i/\cY Γ N sc ss ps=true)\/∃q qs,ps=q::qs/\ft Γ N sc s q=true/\cY Γ N sc ss qs=true:=by
 by_cases hz:∃i,s=.bz i
 ·obtain⟨i,rfl⟩:=hz
  exact .inl ⟨i,rfl,h⟩
 ·cases ps with
  |nil=>cases s<;>first|(exact absurd ⟨_,rfl⟩ hz)|(exact bG h)
  |cons p ps=>
   have h2:(ft Γ N sc s p&&cY Γ N sc ss ps)=true:=by
    cases s<;>first|(exact absurd ⟨_,rfl⟩ hz)|(exact h)
   rw [zza] at h2;exact .inr ⟨p,ps,rfl,h2.1,h2.2⟩
mutual
theorem P0(S:eQ Γ F W N sc k E X):∀(s:Ci.S) (p:Stmt),ft Γ N sc s p=true->GS X W F H0 E s p
 |.expr e,p,h=>zX S e p h
 |.set i e,p,h=>Du S i e p h
 |.own i e,p,h=>DL S i e p h
 |.bz i,p,h=>Fx S i p h
 |.app i e,p,h=>Fb S i e p h
 |.ni i e,p,h=>Bx S i e p h
 |.put i kk e,p,h=>CU S i kk e p h
 |.kh i,p,h=>zd S i p h
 |.eO i j n,p,h=>uM S i j n p h
 |.m8 m i,p,h=>Bl S m i p h
 |.ret e,p,h=>FE S e p h
 |.ite c a b,p,h=>by
  obtain⟨q,pa,pb,pos,rfl,h1,h2,h3,h4⟩:=De h
  exact HW S ((bB c S.C _ h2).gt h1) (mz S a _ h3) (mz S b _ h4)
 |.da tg it b,p,h=>by
  obtain⟨cO,fV,pb,pos,rfl,h1,h2,h3,h4⟩:=CC h
  exact Iy S h1 h2 (Af it S.C cO fV h3) (iO h3 _) (mz S b _ h4)
 |.Gf c b,p,h=>by
  obtain⟨q,pb,pos,rfl,h1,h2,h3⟩:=FC h
  exact Jq S ((bB c S.C _ h2).gt h1) (mz S b _ h3)
 |.raise c m,p,h=>yx S c m p h
theorem mz(S:eQ Γ F W N sc k E X):∀(ss:Ss) (ps:List Stmt),cY Γ N sc ss ps=true->Cq X W F H0 E ss ps
 |.nil,ps,h=>by
  cases EI h;exact En
 |.cons s ss,ps,h=>by
  rcases zx h with⟨i,e,h2⟩|⟨q,qs,e,h1,h2⟩
  ·have:=EX (i:=i) (mz S ss ps h2)
   rw [<-e] at this;exact this
  ·rw [e];exact ze (P0 S s q h1) (mz S ss qs h2)
end
end
end Ci
namespace L2
open PySem PySem.Spec PyProof.Rows
def BO{K:zz8}{C:Addr}{T:String}{b:Bool}(h1:PySem.W.kitMeta T=true)(h3:PySem.W.subIn K (.ref C) (.type T)=some b):PySem.W.kitOne K (.ref C) (.type T)=some b:=by
 unfold PySem.W.kitOne;split
 ·rename_i e;cases zzy.mp e
 ·show(if PySem.W.kitMeta T=true then PySem.W.subIn K (.ref C) (.type T) else none)=some b
  rw [if_pos h1];exact h3
def JG{K:zz8}{h:Heap}{mg:Str->Option Value}{x:Str}{C:Addr}{Rn:List Value}{newId:String}(X:K.In h)(hm:mg x=some (.ref C))(q:PySem.W.excIn K C Rn newId=true):OwnCls x C Rn newId mg h:=by
 constructor
 ·exact hm
 ·unfold PySem.W.excIn at q;split at q
  ·rename_i dd cd sl ho;split at q
   ·rename_i C1 bm1 k0 k1 k2 k3 n1 k5 KU hs1;simp! [zza,zzy,Bool.not_eq_true'] at q;obtain⟨⟨⟨⟨⟨q1,q2⟩,q3⟩,q4⟩,q5⟩,q6⟩:=q
    subst q1 q2;obtain⟨nm,bs,mro,ns,qn,hd,sn,sub,ab,col,del⟩:=cd
    have MQ:mro=.ref C1::bm1:=KU
    have hd2:del=false:=q3
    have SH:PySem.W.nsOkIn K ns=true:=q5
    have UG:PySem.W.nsIn K ns "__init__"=some none:=q6
    subst MQ hd2;obtain⟨ls⟩:=sl
    have JK:ls=[k0,k1,k2,k3,some (.builtin n1),k5]:=hs1
    subst JK;exact⟨bm1,ns,nm,qn,bs,hd,sn,sub,ab,col,dd,k0,k1,k2,k3,k5,_,X _ _ ho,.of_isNs (PySem.W.isNs_of_in X SH),PySem.W.nsMap_none_of_in X SH UG,PySem.W.tail_of_in X q4⟩
   ·cases q
  ·cases q
end L2
namespace Ci
open PySem L2
noncomputable abbrev zR:List Value:=[.type "ValueError",.type "Exception",.type "BaseException",.type "object"]
structure tW(K:zz8)(mg:Str->Option Value)(Γ:Pg)(W:Wd):Prop where
 hK:W.K=K
 hm:W.mg=mg
 gs:∀q∈Γ.gs,∃u v,mg q.1=some u/\RelV v u/\∀G,Rep W G q.2 v
 bs:∀g∈Γ.bs,mg g=none
 Oc:Γ.cs.contains "ValueError"=false
 cls:∀c∈Γ.cs,∃C,mg c=some (.ref C)
 xc:∀d∈W.xs,∀D,mg d=some (.ref D)->Jj K D/\(∀c∈Γ.cs,∀C,mg c=some (.ref C)->PySem.W.kitOne K (.ref D) (.ref C)=some (c==d||c=="FloorError"))/\PySem.W.kitOne K (.ref D) (.type "ValueError")=some true
 xs:∀c,Γ.rs.contains c=true->c∈W.xs
 rm:∀c,Γ.rs.contains c=true->∃C,mg c=some (.ref C)/\PySem.W.excIn K C zR "ValueError.__new__"=true
 NB:Γ.cs.contains "FloorError"=true->∀c D,c∈W.xs->mg c=some (.ref D)->∀T,mg "FloorError"=some (.ref T)->PySem.W.exmOne K (.ref D) (.ref T)=some true
 bm:W.ts≠[]->∃bm o,mg "__builtins__"=some (.ref bm)/\bm≠builtinsNs/\bm≠mainGlobals/\K.lookup bm=some o/\o.cls=.type "module"/\o.dict=some builtinsNs/\o.data=.plain
structure Row where
 f:Str
 h:Str
 d:Def
 st:Stmt
 hl:Bool:=false
abbrev fB:Type:=List Row
noncomputable def nA(l:fB):List Str:=l.filterMap λr=>if r.d.ib.isNone then some r.f else none
noncomputable def xN(l:fB):List Hs:=l.filterMap λr=>r.d.ib.map λq=>⟨r.f,r.h,q.1,q.2,r.d.np⟩
noncomputable def tab(l:fB):List (Str×Def):=l.map λq=>(q.f,q.d)
noncomputable def Pg.at(Γ:Pg)(l:fB)(hl:Bool):Pg:={Γ with fs:=nA l,hs:=xN l,hl:=hl}
structure cD(Γ:Pg)(n:Str)(d:Def)(st:Stmt):Prop where
 sc:kO d.N (d.N.take d.np) (aP st)
 np:d.np<=d.N.length
 bind:∀(kV doc pm:Value) (an:Option Addr) (fL ct:Value) (us:List Value),us.length=(d.N.take d.np).length->bindArgs (PySem.W.fnOf n n (cU st) (cu st) (aP st) .none kV doc pm an fL ct) ⟨us,[]⟩=pure ((d.N.take d.np).zip us)
 Ui:cY Γ d.N (aP st) d.body (cu st)=true
theorem stM{Γ:Pg}{n:Str}{d:Def}{st:Stmt}(b:∀(kV doc pm:Value) (an:Option Addr) (fL ct:Value) (us:List Value),us.length=(d.N.take d.np).length->bindArgs (PySem.W.fnOf n n (cU st) (cu st) (aP st) .none kV doc pm an fL ct) ⟨us,[]⟩=pure ((d.N.take d.np).zip us))
 (a1:(aP st).kind=.function:=by rfl) (a2:(aP st).isCoroutine=false:=by rfl) (a3:(aP st).isGenerator=false:=by rfl) (a4:d.N.Nodup:=by decide+kernel) (a5:d.N.take (d.N.take d.np).length=d.N.take d.np:=by rfl)
 (a6:∀x∈d.N.take d.np,(aP st).names.lookup x=some .local\/(aP st).names.lookup x=some .cell:=by decide+kernel) (a7:∀y∈(aP st).names,y.2≠.free:=by decide+kernel) (a8:d.np<=d.N.length:=by decide+kernel) (a9:cY Γ d.N (aP st) d.body (cu st)=true:=by decide+kernel):cD Γ n d st:=⟨⟨a1,a2,a3,a4,a5,a6,a7⟩,a8,b,a9⟩
def fJ(K:zz8)(c P:Addr):Prop:=∃o vs file tf flags tg P5 text tt,K.lookup c=some o/\o.cls=.type "code"/\o.data=.fields vs/\vs[11]?=some (.ref P)/\vs.getD 11 .none=.ref P/\vs.getD 18 .none=.str file tf/\
 vs.getD 7 .none=.int flags tg/\vs.getD 9 .none=.bool P5/\vs.getD 10 .none=.int text tt/\c≠P
noncomputable def lR(n:Str):Str:=(n++".<locals>.")++"<lambda>"
def xV(K:zz8)(ts:List (Addr×Str))(hl:Bool)(n:Str)(st:Stmt):Prop:=∃(f:Addr) (oc:Value) (od:Option Addr) (kV doc pm:Value) (an:Option Addr) (fL ct:Value) (uZ:Array (Option Value)),
 PySem.W.nsIn K mainGlobals n=some (some (.ref f))/\K.lookup f=some ⟨oc,od,.func (PySem.W.fnOf n n (cU st) (cu st) (aP st) .none kV doc pm an fL ct),uZ⟩/\PySem.W.codeIn K fL n=true/\PySem.W.keepIn K (.ref f)=true/\
 (hl=true->∃c P,fL=.ref c/\fJ K c P/\(P,lR n)∈ts/\∀q',(P,q')∈ts->q'=lR n)
def Py{K:zz8}{ts:List (Addr×Str)}{n:Str}{st:Stmt}{f:Addr}{oc:Value}{od:Option Addr}{kV doc pm:Value}{an:Option Addr}{fL ct:Value}{uZ:Array (Option Value)}(a:PySem.W.nsIn K mainGlobals n=some (some (.ref f)))
 (l:K.lookup f=some ⟨oc,od,.func (PySem.W.fnOf n n (cU st) (cu st) (aP st) .none kV doc pm an fL ct),uZ⟩) (c:PySem.W.codeIn K fL n=true) (k:PySem.W.keepIn K (.ref f)=true):xV K ts false n st:=⟨f,oc,od,kV,doc,pm,an,fL,ct,uZ,a,l,c,k,(λz=>nomatch z)⟩
structure qu(P:Program)(w:World)(K:zz8)(mg:Str->Option Value)(base:Heap)(W:Wd)(F:bb)(k:Nat)(f:Str):Prop where
 ex:∃fa fd ps,gf P w K mg base (dI P w) k fa fd ps (yU W F f ps.length none)/\mg f=some (.ref fa)/\PySem.W.keepIn K (.ref fa)=true/\Binds K fd ps []/\∀as,F f as≠.bad->as.length=ps.length
structure I0(P:Program)(w:World)(K:zz8)(mg:Str->Option Value)(base:Heap)(W:Wd)(F:bb)(k:Nat)(q:Hs):Prop where
 ex:∃fa fd ps,gf P w K mg base (dI P w) k fa fd ps (yU W F q.f ps.length (some (q.g,q.idx)))/\mg q.h=some (.ref fa)/\PySem.W.keepIn K (.ref fa)=true/\Binds K fd ps []/\ps.length=q.np
section
variable{P:Program}{w:World}{K:zz8}{mg:Str->Option Value}{base:Heap}{Γ:Pg}{W:Wd}
def xA{c p:Addr}(KB:K.In base)(h:fJ K c p):PySem.W.CodeHd base c p:=by
 obtain⟨o,vs,file,tf,flags,tg,P5,text,tt,e,r⟩:=h
 exact⟨o,vs,file,tf,flags,tg,P5,text,tt,KB _ _ e,r⟩
theorem GL(M:tW K mg Γ W)(KB:K.In base){F:bb}{k:Nat}{N ps:List Str}{qual:Str}{sc:Scope}(S:kO N ps sc)(hF:∀f,Γ.fs.contains f=true->qu P w K mg base W F k f)(hH:∀q∈Γ.hs,I0 P w K mg base W F k q)(hA:∀g as,F g as≠.bad->Γ.fs.contains g=true\/gk g=true){f:Addr}{cd:Value}
 (hL:Γ.hl=true->∃c p,cd=.ref c/\fJ K c p/\(p,lR qual)∈W.ts/\∀q',(p,q')∈W.ts->q'=lR qual) {A:Around} {outer:List Env} {s:Shared} {H:Hp} {E:XK} (hr:du (k+1) (A.deeper (PyProof.Rows.envOfC qual sc (zz9 s) f cd))):
 eQ Γ F W N sc k E (dA (dI P w) P w K mg base N qual sc f cd A outer s H E) where
 C:=⟨rfl,rfl,rfl,S.nd,M.hK,M.hm,M.gs,M.bs,hr,λg hg=>⟨(hF g hg).ex⟩,M.Oc,M.cls,M.xc,λq hq=>⟨(hH q hq).ex⟩,hA,λz=>by
  obtain⟨c,p,e1,e2,e3,e4⟩:=hL z
  exact⟨c,p,e1,xA KB e2,e3,e4⟩,λz=>by
  obtain⟨c,p,e1,e2,e3,e4⟩:=hL z
  obtain⟨bm,o,b1,b2,b3,b4,b5⟩:=M.bm (λy=>by rw [y] at e3;cases e3)
  exact⟨bm,o,b1,b2,b3,KB _ _ b4,b5⟩,λ_ _=>rfl⟩
 fn:=λ_=>rfl
 own:=PassesOwn.leaving
 pass:=MK
 kind:=S.kind
 Lc:=rfl
 frame:=rfl
 xs:=M.xs
 rm:=λc hc=>let⟨C,h,_⟩:=M.rm c hc;⟨C,h⟩
 rz:=λc z j np zp cp pos h1 h2 h3=>by
  obtain⟨C,hC,hx⟩:=M.rm c h1
  have hg:Gl (dA (dI P w) P w K mg base N qual sc f cd A outer s H E) c:=zzy.mp h2
  refine L2.PS.imp (A3 hg (JG KB hC hx) PySem.F.excBase_ValueError (bS B6 dc) rfl rfl (dy h3).1) λD σ H1 h=>⟨(show 1<=sizeLine by decide),λe he=>h C e hC he⟩
 NB:=M.NB
def rZ{H G:Hp}{N:List Str}{as:List PV}{vs:List V}(sg:az G H)(tb:cq W G H)(l:aj W G as vs)(hn:as.length<=N.length):SR W H (as.map .val++List.replicate (N.length-as.length) .no) (start N vs) G H:=by
 have hl:=l.length
 unfold L2.start;refine⟨by simp;omega,sg,iu.refl _,λi s e=>?_,λi j p q a e1 _ _ _=>?_,tb,tb⟩
 ·by_cases hi:i<as.length
  ·rw [zzr (by simpa using hi),zzQ] at e;obtain⟨p,hp,rfl⟩:=zzJ.mp e
   obtain⟨v,hv,rv⟩:=l.nE hp
   exact⟨some v,by rw [zzr (by simpa using (show i<vs.length by omega)),zzQ,hv];rfl,v,rfl,rv⟩
  ·rw [zzs (by simpa using hi),List.getElem?_replicate] at e;split at e
   ·rename_i h2;cases e;rw [zzl] at h2;exact⟨none,by rw [zzs (by simp;omega),List.getElem?_replicate,if_pos (by rw [zzl];omega)],trivial⟩
   ·cases e
 ·exfalso
  by_cases hi:i<as.length
  ·rw [zzr (by simpa using hi),zzQ] at e1;obtain⟨p,hp,e⟩:=zzJ.mp e1
   cases e
  ·rw [zzs (by simpa using hi),List.getElem?_replicate] at e1;split at e1<;>cases e1
def SR.Mp{H0 G H:Hp}{env:Sl}{σ:St}{g:Str}{idx:List Nat}{cE:List PV}{v:V}(i:Nat)(r:SR W H0 env σ G H)(h:ql W G g idx cE v):SR W H0 (env.set i (.fn g idx cE)) (σ.set i (some v)) G H where
 len:=by simpa using r.len
 sub:=r.sub
 base:=r.base
 tab:=r.tab
 ng:=r.ng
 slot:=λj s e=>by
  by_cases hj:i=j
  ·subst hj;have bH:i<env.length:=by
    have:=(zzH.mp e).1
    simpa using this
   rw [zzo bH] at e;cases e;exact⟨some v,zzo (by rw [<-r.len];exact bH),v,rfl,h⟩
  ·rw [zzS hj] at e;obtain⟨o,h1,h2⟩:=r.slot j s e
   exact⟨o,by rw [zzS hj];exact h1,h2⟩
 apart:=λa b q q' ad e1 e2 e3 e4=>by
  have ne:∀{c:Nat} {q:PV},(env.set i (.fn g idx cE))[c]?=some (.own q)->i≠c:=λ{c q} e z=>by
   subst z;have bH:i<env.length:=by
    have:=(zzH.mp e).1
    simpa using this
   rw [zzo bH] at e;cases e
  have n1:=ne e1
  have n2:=ne e2
  rw [zzS n1] at e1 e3;rw [zzS n2] at e2 e4;exact r.apart a b q q' ad e1 e2 e3 e4
def vU{α:Type}{l r:List α}{a b:α}:(l++a::r).set l.length b=l++b::r:=by
 rw [List.set_append_right _ _ (zzE _),Nat.sub_self];rfl
def xm{d:Def}{H G:Hp}{as:List PV}{vs:List V}(OY:d.np<=d.N.length)(sg:az G H)(tb:cq W G H)(l:A9 W G d.ib as vs)(hv:vs.length=d.np):cJ d as=true/\SR W H (cT d as) (start d.N vs) G H:=by
 unfold cJ cT;cases hc:d.ib with
 |none=>
  rw [hc] at l;have l:aj W G as vs:=l
  exact⟨by rw [<-l.length,hv];simp,rZ sg tb l (by rw [<-l.length,hv];exact OY)⟩
 |some q=>
  rw [hc] at l;obtain⟨vp,cE,wW,v,rfl,rfl,l1,cr⟩:=l
  have L7:=l1.length
  have hn:wW.length=d.np-1/\0<d.np:=by rw [zzM] at hv;simp at hv;omega
  have ha:vp.length=d.np-1:=by omega
  refine⟨by simp;omega,?_⟩;have h0:=rZ (N:=d.N) sg tb l1 (by omega)
  have h1:=h0.Mp vp.length cr
  have e1:(vp.map Slot.val++List.replicate (d.N.length-vp.length) Slot.no).set vp.length (.fn q.1 q.2 cE)=((vp++cE).take (d.np-1)).map .val++.fn q.1 q.2 ((vp++cE).drop (d.np-1))::List.replicate (d.N.length-d.np) Slot.no:=by
   rw [<-ha,List.take_left',List.drop_left',show d.N.length-vp.length=(d.N.length-d.np)+1 by omega,List.replicate_succ]
   ·have:=vU (l:=vp.map Slot.val) (r:=List.replicate (d.N.length-d.np) Slot.no) (a:=Slot.no) (b:=.fn q.1 q.2 cE)
    rw [zzl] at this;exact this
   ·rfl
   ·rfl
  have e2:(start d.N wW).set vp.length (some v)=start d.N (wW++[v]):=by
   unfold L2.start;rw [zzM,List.length_singleton,show d.N.length-wW.length=(d.N.length-(wW.length+1))+1 by omega,List.replicate_succ,<-L7];have:=vU (l:=wW.map some) (r:=List.replicate (d.N.length-(wW.length+1)) none) (a:=none) (b:=some v)
   rw [zzl] at this;rw [this];simp
  rw [e1,e2] at h1;exact h1
def F6(M:tW K mg Γ W)(KB:K.In base){F:bb}{k:Nat}{n nf:Str}{d:Def}{st:Stmt}{fa:Addr}{fd:FuncData}(St:cD Γ n d st)(Fu:NH K n n st fa fd)(hF:∀f,Γ.fs.contains f=true->qu P w K mg base W F k f)(hH:∀q∈Γ.hs,I0 P w K mg base W F k q)(hA:∀g as,F g as≠.bad->Γ.fs.contains g=true\/gk g=true)
 (hL:Γ.hl=true->∃c p,fd.code=.ref c/\fJ K c p/\(p,lR n)∈W.ts/\∀q',(p,q')∈W.ts->q'=lR n):
 gf P w K mg base (dI P w) (k+2) fa fd (d.N.take d.np) (yU W (λ_ as=>aA F d as) nf (d.N.take d.np).length d.ib):=by
 have hlen:(d.N.take d.np).length=d.np:=by rw [List.length_take];have:=St.np;omega
 obtain⟨oc,od,kV,doc,pm,an,fL,ct,uZ,rfl,lk,uj⟩:=Fu.ex
 refine M8 lk uj St.sc (λvs H Q E h=>h.1) λA outer s H vs Q E hr h=>?_
 obtain⟨hl,G,as,sg,tb,l,o⟩:=h
 rw [hlen] at hl;obtain⟨ar,sr⟩:=xm St.np sg tb l hl
 refine⟨QV W F H E d.body,mz (GL M KB St.sc hF hH hA hL hr) d.body _ St.Ui,G,cT d as,sr,?_⟩;dsimp only at o;unfold aA at o;rw [if_pos ar] at o;cases r:aG F d.body (cT d as) with
 |bad=>rw [r] at o;exact o
 |exc c=>rw [r] at o;exact o
 |ok fl=>
  rw [r] at o;cases fl with
  |nx env=>exact λσ' G' H' sr g=>o .aH G' H' g .n
  |rt p=>exact λv G' H' rv g=>o v G' H' g rv
  |bk env=>exact o.elim
  |ct env=>exact o.elim
def AllK(K:zz8)(ts:List (Addr×Str))(Γ:Pg):fB->Prop
 |[]=>True
 |r::l=>xV K ts r.hl r.h r.st/\cD (Γ.at l r.hl) r.h r.d r.st/\((l.map (·.f)).contains r.f=false/\(r.d.ib.isNone==!gk r.f)=true/\(r.d.ib.isNone=true->r.f=r.h))/\AllK K ts Γ l
def vZ(M:tW K mg Γ W)(l:fB)(hl:Bool):tW K mg (Γ.at l hl) W:=⟨M.hK,M.hm,M.gs,M.bs,M.Oc,M.cls,M.xc,M.xs,M.rm,M.NB,M.bm⟩
def qu.mono{F:bb}{j k:Nat}{f:Str}(h:qu P w K mg base W F j f)(hk:j<=k):qu P w K mg base W F k f:=by
 obtain⟨fa,fd,ps,h1,h2⟩:=h.ex
 exact⟨fa,fd,ps,h1.mono hk,h2⟩
def mL{F F':bb}{f f':Str}{n:Nat}{q:Option (Str×List Nat)}(e:∀as,F' f' as=F f as):yU W F' f' n q=yU W F f n q:=by
 funext vs H Q E
 unfold yU;simp! [e]
def qu.swap{F F':bb}{k:Nat}{f:Str}(h:qu P w K mg base W F k f)(e:∀as,F' f as=F f as):qu P w K mg base W F' k f:=by
 obtain⟨fa,fd,ps,h1,h2,h3,h4,h5⟩:=h.ex
 refine⟨fa,fd,ps,?_,h2,h3,h4,λas hn=>h5 as (by rw [<-e];exact hn)⟩
 rw [mL e];exact h1
def I0.swap{F F':bb}{j k:Nat}{q:Hs}(h:I0 P w K mg base W F j q)(hk:j<=k)(e:∀as,F' q.f as=F q.f as):I0 P w K mg base W F' k q:=by
 obtain⟨fa,fd,ps,h1,h2,h3,h4,h5⟩:=h.ex
 refine⟨fa,fd,ps,?_,h2,h3,h4,h5⟩;rw [mL e];exact h1.mono hk
def mr{r:Row}{l:fB}{g:Str}(h:(g==r.f)=false)(as:List PV):den (tab (r::l)) g as=den (tab l) g as:=by
 show(if(g==r.f)=true then _ else _)=_
 rw [h]
 rfl
def rJ{r:Row}{l:fB}(as:List PV):den (tab (r::l)) r.f as=aA (den (tab l)) r.d as:=by
 show(if(r.f==r.f)=true then _ else _)=_
 rw [beq_self_eq_true]
 rfl
theorem pg:∀(l:fB) {ts:List (Addr×Str)},AllK K ts Γ l->∀g as,den (tab l) g as≠.bad->(nA l).contains g=true\/gk g=true
 |[],_,_,g,as,h=>absurd rfl h
 |r::l,ts,⟨_,_,⟨_,hn,_⟩,hr⟩,g,as,h=>by
  by_cases e:(g==r.f)=true
  ·have e2:=zzy.mp e
   subst e2;cases hc:r.d.ib with
   |none=>
    left
    unfold nA;rw [List.filterMap_cons,hc];simp
   |some q=>
    right
    rw [hc] at hn
    simpa using hn
  ·rw [mr (by simpa using e)] at h;rcases pg l hr g as h with z|z
   ·left
    unfold nA at z⊢;rw [List.filterMap_cons];split
    ·exact z
    ·rw [List.contains_cons,z,Bool.or_true]
   ·exact .inr z
theorem BH(M:tW K mg Γ W)(KB:K.In base)(G:base.Ns mainGlobals mg):∀(l:fB),AllK K W.ts Γ l->(∀f,(nA l).contains f=true->qu P w K mg base W (den (tab l)) (2*l.length) f)/\∀q∈xN l,I0 P w K mg base W (den (tab l)) (2*l.length) q
 |[],_=>⟨λf hf=>by simp [nA] at hf,λq hq=>by simp [xN] at hq⟩
 |r::l,iZ=>by
  obtain⟨he,hs,⟨hfr,hnm,hfh⟩,hr⟩:=iZ
  obtain⟨ih,ihH⟩:=BH M KB G l hr
  obtain⟨fa,oc,od,kV,doc,pm,an,fL,ct,uZ,e1,e2,e3,e4,e5⟩:=he
  have Fu:=BP (st:=r.st) e2 e3 e4
  have ok:=F6 (P:=P) (w:=w) (nf:=r.f) (vZ M l r.hl) KB (k:=2*l.length) hs Fu (λg hg=>ih g hg) (λq hq=>ihH q hq) (pg l hr) e5
  have Dr:∀g,(l.map (·.f)).contains g=true->(g==r.f)=false:=λg hg=>by
   cases z:g==r.f with
   |false=>rfl
   |true=>rw [zzy.mp z,hfr] at hg;cases hg
  have sp:yU W (λ_ as=>aA (den (tab l)) r.d as) r.f (r.d.N.take r.d.np).length r.d.ib=yU W (den (tab (r::l))) r.f (r.d.N.take r.d.np).length r.d.ib:=mL λas=>(rJ as).symm
  rw [sp] at ok;have hlen:(r.d.N.take r.d.np).length=r.d.np:=by rw [List.length_take];have:=hs.np;omega
  have ml:∀f,(nA l).contains f=true->(l.map (·.f)).contains f=true:=λf hf=>by
   rw [zzn] at hf⊢;unfold nA at hf;obtain⟨x,hx,e⟩:=zz1.mp hf
   split at e
   ·cases e;exact List.mem_map_of_mem (f:=(·.f)) hx
   ·cases e
  refine⟨λf hf=>?_,λq hq=>?_⟩
  ·by_cases mI:(f==r.f)=true/\r.d.ib=none
   ·obtain⟨h1,h2⟩:=mI
    have e:=zzy.mp h1
    subst e;refine⟨fa,_,r.d.N.take r.d.np,by rw [h2] at ok;exact ok,?_,e4,Fu.binds hs.bind,λas hn=>?_⟩
    ·rw [hfh (by rw [h2];rfl)];exact PySem.W.mg_of KB G e1
    ·rw [rJ] at hn;unfold aA at hn
     by_cases ha:cJ r.d as=true
     ·unfold cJ at ha;rw [h2] at ha;rw [hlen];exact zzy.mp ha
     ·rw [if_neg ha] at hn;exact absurd rfl hn
   ·have RT:(nA l).contains f=true:=by
     unfold nA at hf⊢;rw [List.filterMap_cons] at hf;split at hf
     ·exact hf
     ·rename_i y hy;split at hy
      ·rename_i hc;cases hy;rw [List.contains_cons,zzt] at hf;rcases hf with z|z
       ·exact absurd ⟨z,Option.isNone_iff_eq_none.mp hc⟩ mI
       ·exact z
      ·cases hy
    exact((ih f RT).mono (by rw [zzL];omega)).swap λas=>mr (Dr f (ml f RT)) as
  ·unfold xN at hq;rw [List.filterMap_cons] at hq;have tail:q∈xN l->I0 P w K mg base W (den (tab (r::l))) (2*(r::l).length) q:=λhq=>by
    refine(ihH q hq).swap (by rw [zzL];omega) λas=>mr (Dr q.f ?_) as
    unfold xN at hq;obtain⟨x,hx,e⟩:=zz1.mp hq
    obtain⟨y,_,rfl⟩:=zzJ.mp e
    rw [zzn];exact List.mem_map_of_mem (f:=(·.f)) hx
   cases hc:r.d.ib with
   |none=>rw [hc] at hq;exact tail hq
   |some y=>
    rw [hc] at hq;rcases zzm.mp hq with z|z
    ·subst z;rw [hc] at ok;exact⟨fa,_,r.d.N.take r.d.np,ok,PySem.W.mg_of KB G e1,e4,Fu.binds hs.bind,hlen⟩
    ·exact tail z
end
end Ci
namespace L2
open PySem PySem.Spec PyProof.Rows
def yM{P:Program}{w:World}{K:zz8}{mg mb:Str->Option Value}{CX:yX}{k:Nat}{fa a:Addr}{fd:FuncData}{x:Str}{sp:Sp}{s₁:Shared}{vs:List Value}{ns:List Int}(lI:List Addr)
 (KX:K.In s₁.heap) (Ky:s₁.heap.Ns mainGlobals mg) (hb:s₁.heap.Ns builtinsNs mb) (TV:∀x:Str,x≠"__name__"->mb x=bootBuiltins x) (yQ:s₁.heap.NoLimit) (hg:s₁.gens=#[])
 (hT:∀p∈lI,s₁.heap.get? p=some (PySem.W.tabObj #[])) (hC:∀p∈lI,∃c,Ci.fJ K c p) (Ud:∀p∈lI,K.lookup p=none)
 (ha:s₁.heap.get? a=some {cls:=.type "list",data:=.seq vs.toArray}) (hi:IntsAre vs ns) (hl:ns.length<=sizeLine) (hr:du k callerA)
 (F:∀base:Heap,K.In base->base.Ns mainGlobals mg->gf P w K mg base CX k fa fd [x] sp) (L0:∀(s:Shared) (u:Value),BindsTo s fd ⟨[u],[]⟩ [(x,u)])
 (KN:∀H:Hp,(∀p∈lI,H p=some (.fT #[]))->Ci.qJ K H a (ns.map V.int)->sp [.ref a] H (λv _=>v=.bl true) λ_ _ _=>False)
 (PK:∀H e s',CX [] H s₁ (λ_ _ _=>False) e s'->False):
 codeAny (model P w) callerA (.call (.ref fa) ⟨[.ref a],[]⟩) (λr s'=>r=.ok (.ret (.bool true))/\OldK s₁.heap s'.heap/\s'.os=s₁.os/\AllBare s'.gens) s₁:=by
 have rv:=oN hi
 have Md:=hi.length
 have aT:a∉lI:=λz=>by have:=hT a z;rw [ha] at this;cases this
 have core:∀H:Hp,(∀p∈lI,H p=some (.fT #[]))->Ci.qJ K H a (ns.map V.int)->d6 P w H s₁.heap->(∀b,H b≠none->b∈lI\/b=a/\∃o xs,H b=some (.bz o xs))->(H a≠none->K.lookup a=none)->
  codeAny (model P w) callerA (.call (.ref fa) ⟨[.ref a],[]⟩) (λr s'=>r=.ok (.ret (.bool true))/\OldK s₁.heap s'.heap/\s'.os=s₁.os/\AllBare s'.gens) s₁:=by
  intro H hO hS aK hA hK;have vB:∀{b:Addr} {o:Obj},s₁.heap.get? b=some o->H b=none->(qb s₁.heap H).get? b=some o:=λe n=>Bd e n
  have Fc:∀{b:Addr} {o:Obj} {es:Array DictEntry} {ep:Nat},s₁.heap.get? b=some o->o.data=.dict es ep->H b=none:=λ{b o es ep} e d=>by
   cases q:H b with
   |none=>rfl
   |some u=>
    rcases hA b (by rw [q];simp) with z|⟨z,_⟩
    ·rw [hT b z] at e;cases e;cases d
    ·subst z;rw [ha] at e;cases e;have d':Data.seq vs.toArray _=Data.dict es ep:=d
     cases d'
  have Oh:∀{b:Addr} {m:Str->Option Value},s₁.heap.Ns b m->(qb s₁.heap H).Ns b m:=λ{b m} ⟨o,es,ep,e,d,r⟩=>⟨o,es,ep,vB e (Fc e d),d,r⟩
  have RM:K.In (qb s₁.heap H):=λb o e=>vB (KX b o e) (by
   cases q:H b with
   |none=>rfl
   |some u=>
    rcases hA b (by rw [q];simp) with z|⟨z,_⟩
    ·rw [Ud b z] at e;cases e
    ·subst z;rw [hK (by rw [q];simp)] at e;cases e)
  have hM:Mod K mg (qb s₁.heap H):=⟨RM,Oh Ky,⟨mb,Oh hb,TV⟩,let⟨mc,h1,h2⟩:=yQ;⟨mc,Oh h1,h2⟩⟩
  have e0:iU P w K mg (qb s₁.heap H) callerA [] s₁ H:=⟨rfl,hM,λb o e=>E6 e,Nat.le_of_eq (yJ _ _),trivial,λb hb=>absurd (show b∈([]:List Addr) from hb) (by simp),aK,.of_eq hg⟩
  refine codeAny_mono ((F _ RM (Oh Ky)).run callerA [] s₁ H ⟨[.ref a],[]⟩ [.ref a] [.ref a] _ _ hr e0 (L0 s₁ (.ref a)) (.cons rfl .nil) (KN H hO hS)) λr s' h=>?_
  cases r with
  |error e=>exact(PK H e s' h).elim
  |ok fl=>
   cases fl with
   |next=>exact zzk h
   |brk=>exact zzk h
   |cont=>exact zzk h
   |ret u=>
    obtain⟨v,H',os,bare,un,Em,r',q⟩:=h
    have q':v=.bl true:=q
    subst q';obtain rfl:u=Value.bool true:=r'
    have key:∀b o,s₁.heap.get? b=some o->s'.heap.get? b=some o\/b∈lI/\∃m,s'.heap.get? b=some (PySem.W.tabObj m):=λb o e=>by
     cases q:H b with
     |none=>exact .inl (un.keep b o e q (by intro z;exact absurd (show b∈([]:List Addr) from z) (by simp)) (by simp))
     |some u=>
      rcases hA b (by rw [q];simp) with z|⟨z,ob,xs,z2⟩
      ·right
       obtain⟨m,hm⟩:=un.gj b _ (hO b z)
       exact⟨z,_,Em b _ hm⟩
      ·left
       have z3:=un.fE b ob _ z2
       obtain⟨e1,_⟩:=aK b _ z2
       obtain⟨e2,_⟩:=Em b _ z3
       rw [e] at e1;cases e1;exact e2
    refine⟨rfl,⟨λb o e=>?_,λb o e=>?_⟩,os,bare⟩
    ·rcases key b o e with z|⟨z,m,z2⟩
     ·exact .inl z
     ·have e':=hT b z
      rw [e] at e';cases e';obtain⟨c,o',tM,_,_,_,_,_,_,_,k1,k2,k3,k4,_⟩:=hC b z
      have tb:s₁.heap.TableAt c b #[]:=⟨⟨o',tM,KX _ _ k1,k2,k3,k4⟩,e⟩
      exact .inr (.inl ⟨tb.isCodeTable,rfl,#[],m,rfl,by rw [z2];simp⟩)
    ·rcases key b o e with z|⟨_,m,z⟩
     ·exact⟨_,z⟩
     ·exact⟨_,z⟩
 cases hk:K.lookup a with
 |some o=>
  have e:=KX a o hk
  rw [ha] at e;cases e;refine core (λb=>if b∈lI then some (.fT #[]) else none) (λp hp=>if_pos hp) (.inr ⟨vs.toArray,_,hk,by rw [zzC,Md];exact hl,by simpa using rv⟩) (λb u z=>?_) (λb z=>?_) λz=>absurd (if_neg aT) z
  ·by_cases hb:b∈lI
   ·have z':=(if_pos hb).symm.trans z
    cases z';exact hT b hb
   ·have z':=(if_neg hb).symm.trans z
    cases z'
  ·by_cases hb:b∈lI
   ·exact .inl hb
   ·exact absurd (if_neg hb) z
 |none=>
  refine core (λb=>if b=a then some (.bz {cls:=.type "list",data:=.seq vs.toArray} (.lst (ns.map V.int))) else if b∈lI then some (.fT #[]) else none) (λp hp=>?_) (.inl (.inr ⟨{cls:=.type "list",data:=.seq vs.toArray},if_pos rfl⟩)) (λb u z=>?_) (λb z=>?_) λ_=>hk
  ·show(if p=a then _ else _)=_
   rw [if_neg (show¬p=a from λz=>aT (by rw [<-z];exact hp)),if_pos hp]
  ·by_cases hb:b=a
   ·have z':=(if_pos hb).symm.trans z
    cases z';subst hb;exact⟨ha,by rw [zzl];exact hl,vs,_,rv,ha⟩
   ·replace z:=(if_neg hb).symm.trans z
    by_cases hc:b∈lI
    ·have z':=(if_pos hc).symm.trans z
     cases z';exact hT b hc
    ·have z':=(if_neg hc).symm.trans z
     cases z'
  ·by_cases hb:b=a
   ·exact .inr ⟨hb,_,_,if_pos hb⟩
   ·by_cases hc:b∈lI
    ·exact .inl hc
    ·exact absurd ((if_neg hb).trans (if_neg hc)) z
def HB{l:PySem.W.OpenLaw}{n k:Nat}{q:Program}{loose:List Str}{XP:(Str->Option Value)->Heap->Prop}{YP:World->Heap->Prop}{d:DefRec}{K:Params->zz8}{CX:World->yX}{sp:World->Sp}{x:Str}(lI:List Addr)
 (hn:l.most=some n) (JT:n<=sizeLine) (Nw:d.params.defaults=[]) (hr:du k callerA)
 (hY:∀(w:World) (h:Heap),YP w h->(K w.params).In h/\∀p∈lI,h.get? p=some (PySem.W.tabObj #[])) (hC:∀(w:World),∀p∈lI,(∃c,Ci.fJ (K w.params) c p)/\(K w.params).lookup p=none)
 (F:∀(w:World) (mg:Str->Option Value) (fa:Addr) (h:Heap),(K w.params).In h->h.Ns mainGlobals mg->mg d.name=some (.ref fa)->
  ∃fd:FuncData,(∀(s:Shared) (u:Value),BindsTo s fd ⟨[u],[]⟩ [(x,u)])/\
   ∀base:Heap,(K w.params).In base->base.Ns mainGlobals mg->gf l.prog w (K w.params) mg base (CX w) k fa fd [x] (sp w))
 (KN:∀(w:World) (H:Hp) (a:Addr) (ns:List Int),ns.length<=n->(∀p∈lI,H p=some (.fT #[]))->Ci.qJ (K w.params) H a (ns.map V.int)->sp w [.ref a] H (λv _=>v=.bl true) λ_ _ _=>False)
 (PK:∀(w:World) (H:Hp) (s:Shared) (e:Value) (s':Shared),CX w [] H s (λ_ _ _=>False) e s'->False):
 PySem.W.WalkO q loose XP YP l.row.toRowW d [] (λf vs=>PySem.call f vs):=by
 refine Att.rR hn Nw λw s₀ s₁ mg mb fa o pm cd doc a vs ns G Y ho hd uj hmg hobj hints hlen hg=>?_
 obtain⟨KX,hT⟩:=hY w _ Y
 obtain⟨fd,hb,hF⟩:=F w mg fa _ KX G.T.g hmg
 exact yM lI KX G.T.g G.T.b G.T.builtins G.T.nolimit hg hT (λp hp=>(hC w p hp).1) (λp hp=>(hC w p hp).2) hobj hints (zzU hlen JT) hr hF hb (λH hO hS=>KN w H a ns hlen hO hS) λH e s'=>PK w H s₁ e s'
end L2
namespace Ci
open PySem L2
theorem mG{W:Wd}{G:Hp}:∀(ns:List Int),aj W G (ns.map PV.int) (ns.map V.int)
 |[]=>.nil
 |n::ns=>.cons .i (mG ns)
noncomputable def ox(H:Hp):Hp:=λb=>match H b with
 |some (.fT _)=>none
 |o=>o
def vh(H:Hp):az (ox H) H:=λb o e=>by
 unfold ox at e;split at e
 ·cases e
 ·exact e
def rM{H:Hp}{b:Addr}{o:HO}(h:H b=some o)(n:∀ps,o≠.fT ps):ox H b=some o:=by
 unfold ox;rw [h];cases o with
 |fT ps=>exact absurd rfl (n ps)
 |_=>rfl
noncomputable def LJ(K:zz8)(lI:List Addr):Sp:=λvs H Q _=>∃(a:Addr) (ns:List Int),vs=[.ref a]/\(∀p∈lI,H p=some (.fT #[]))/\qJ K H a (ns.map V.int)/\ns.length<=63/\∀H',Q (.bl true) H'
def walk{l:PySem.W.OpenLaw}{q:Program}{loose:List Str}{XP:(Str->Option Value)->Heap->Prop}{YP:World->Heap->Prop}{d:DefRec}{K:Params->zz8}(rest:fB)(Γ:Pg)(x:Str)(dl:Def)(xs:List Str)(ts:List (Addr×Str))(st:Stmt)
 (hx:dl.N.take dl.np=[x]) (BQ:dl.ib=none) (Tt:d.name="law") (hn:l.most=some 63) (Nw:d.params.defaults=[]) (hr:du (2*rest.length+2) callerA) (hY:∀(w:World) (h:Heap),YP w h->(K w.params).In h/\∀p∈ts.map (·.1),h.get? p=some (PySem.W.tabObj #[]))
 (hC:∀(w:World),∀p∈ts.map (·.1),(∃c,fJ (K w.params) c p)/\(K w.params).lookup p=none)
 (hM:∀(w:World) (mg:Str->Option Value) (h:Heap),(K w.params).In h->h.Ns mainGlobals mg->tW (K w.params) mg Γ ⟨K w.params,mg,xs,ts⟩)
 (hE:∀w:World,xV (K w.params) ts false "law" st) (hS:cD (Γ.at rest false) "law" dl st)
 (hA:∀w:World,AllK (K w.params) ts Γ rest)
 (Pn:∀ns:List Int,ns.length<=63->aA (den (tab rest)) dl [.lst (ns.map .int)]=.ok (.bl true)):
 PySem.W.WalkO q loose XP YP l.row.toRowW d [] (λf vs=>PySem.call f vs):=by
 refine L2.HB (n:=63) (k:=2*rest.length+2) (x:=x) (CX:=λw=>dI l.prog w) (sp:=λw=>LJ (K w.params) (ts.map (·.1))) (ts.map (·.1)) hn (by decide) Nw hr hY hC ?_ ?_ ?_
 ·intro w mg fa h KX G hmg;rw [Tt] at hmg;obtain⟨f,oc,od,kV,doc,pm,an,fL,ct,uZ,e1,e2,e3,e4,e5⟩:=hE w
  have hf:fa=f:=by
   have z:=hmg.symm.trans (PySem.W.mg_of KX G e1)
   cases z
   rfl
  subst hf;refine⟨PySem.W.fnOf "law" "law" (cU st) (cu st) (aP st) .none kV doc pm an fL ct,λs u=>?_,λbase KB GB=>?_⟩
  ·have hb:=hS.bind kV doc pm an fL ct [u]
   rw [hx] at hb;exact .of_eq (hb rfl)
  ·have M:=hM w mg base KB GB
   obtain⟨a1,a2⟩:=BH (P:=l.prog) (w:=w) M KB GB rest (hA w)
   have ok:=F6 (P:=l.prog) (w:=w) (nf:="law") (vZ M rest false) KB (k:=2*rest.length) hS (BP (st:=st) e2 e3 e4) (λg hg=>a1 g hg) (λq hq=>a2 q hq) (pg rest (hA w)) (λz=>nomatch z)
   rw [hx] at ok;refine ok.imp λvs H Q E h=>?_
   obtain⟨a,ns,rfl,ht,hl,hlen,q⟩:=h
   refine⟨rfl,ox H,[.lst (ns.map .int)],vh H,λP q m=>?_,?_,?_⟩
   ·have hP:=ht P (List.mem_map_of_mem (f:=(·.1)) m)
    refine⟨by unfold ox;rw [hP],#[],hP,trivial,λpos cv e=>nomatch e⟩
   ·rw [BQ];refine aj.cons (.l ?_ (mG ns)) .nil;rcases hl with(h|⟨o,h⟩)|h
    ·exact .inl (.inl (rM h (λ_ z=>nomatch z)))
    ·exact .inl (.inr ⟨o,rM h (λ_ z=>nomatch z)⟩)
    ·exact .inr h
   ·dsimp only;rw [Pn ns hlen];intro v G' H' _ rv;simp! [Rep] at rv;subst rv;exact q H'
 ·intro w H a ns hlen hO qH;exact⟨a,ns,rfl,hO,qH,hlen,λ_=>rfl⟩
 ·intro w H s e s' h;obtain⟨a,C,t,vs,H',B,rfl,F⟩:=h
  exact F.ends
end Ci
namespace Hd
open PySem PySem.W PySem.Calls
noncomputable def Iw(st:SharedT->Thread->Option (SharedT×Thread))(ok:Thread->Bool)(n:Nat):SharedT->Thread->Option SharedT:=
 @Nat.rec (λ_=>SharedT->Thread->Option SharedT) (λ_ _=>none) (λ_ ih s t=>match through t with
  |true=>some s
  |false=>match ok t with
   |false=>none
   |true=>match st s t with
    |some (s',t')=>ih s' t'
    |none=>none) n
theorem oU{tb:String->Option Builtin}{p:Program}{w:World}{n₀:Nat}{ann:Option Value}:∀{n:Nat} {s s':SharedT} {t:Thread},Iw (stepT (denote tb) p w) (stepOk n₀ ann) n s t=some s'->topRun tb p w n₀ ann n s.abs t=some s'.abs
 |0,_,_,_,h=>by cases h
 |n+1,s,s',t,h=>by
  have h:(match through t with
   |true=>some s
   |false=>match stepOk n₀ ann t with
    |false=>none
    |true=>match stepT (denote tb) p w s t with
     |some (s',t')=>Iw (stepT (denote tb) p w) (stepOk n₀ ann) n s' t'
     |none=>none)=some s':=h
  unfold topRun;cases ht:through t with
  |true=>rw [ht] at h;cases h;rfl
  |false=>
   rw [ht] at h;cases hk:stepOk n₀ ann t with
   |false=>rw [hk] at h;cases h
   |true=>
    rw [hk] at h;cases hs:stepT (denote tb) p w s t with
    |none=>rw [hs] at h;cases h
    |some r=>obtain⟨s₂,t₂⟩:=r;rw [hs] at h;rw [stepT_spec hs];exact oU h
noncomputable def treeOf(l:List Obj):BT:=(l.foldl (λ(T,i) o=>(BT.ins T i o,i+1)) (BT.nil,0)).1
def Ex{p q:Program}{loose:List Str}{Xt:Shared->Bool}{α:Type}{Yf:Shared->α}{Ya:World->α}{N:Nat}{g0:Bool}{T₀:Params->BT}{life:Life}{m₀:Nat}{ann:Option Value}{M:Nat}
 (e:opening p=plainProg p.main.scope.names) (hN:Nat.ble 600 N=true) (f:∀s,fenceModules? p s=some s)
 (e0:∀P:Params,absHeap (T₀ P) m₀ life=boot_heap P)
 (size:∀w:World,((boot_heap w.params).isNs mainGlobals,(boot_heap w.params).nsMap mainGlobals "__annotations__")=(true,ann))
 (le:Nat.ble M N=true)
 (run:∀(w:World) (os:OsState),(Iw (stepT (denote treeTable) p w) (stepOk m₀ ann) M ⟨T₀ w.params,m₀,life,Array.mk [],boot_drawn,boot_toks,os⟩ (topStub p)).map (λs=>
  ((staticsOk (importedModules p.main.body) (boot_heap w.params) s.abs.heap&&namesBound p s.abs.heap&&gensDone s.abs&&laidKept (boot_heap w.params) s.abs.heap),openSeen q loose (importedModules p.main.body) Xt g0 s.abs,Yf s.abs))
  =some (true,openGood q loose,Ya w)):LeftO p q loose Xt Yf Ya N g0:=λw=>by
 obtain⟨⟨h,gs,d,k,os⟩,e1,e'⟩:=zzJ.mp (boot_open e hN f w)
 obtain⟨rfl,rfl,rfl,rfl⟩:h=boot_heap w.params/\gs=Array.mk []/\d=boot_drawn/\k=boot_toks:=by simpa using e'
 obtain⟨z1,z3⟩:_/\_:=by simpa only [Prod.mk.injEq] using size w
 obtain⟨s,r,l⟩:=zzJ.mp (run w os)
 obtain⟨l1,l2,l3⟩:_/\_/\_:=by simpa only [Prod.mk.injEq] using l
 have r:=oU r
 have r:=topRun_mono (N-M) _ _ _ _ r
 rw [show M+(N-M)=N by have:=Nat.le_of_ble_eq_true le;omega] at r;have hs:(boot_heap w.params).objs.size=m₀:=by rw [<-e0 w.params];exact absHeap_size _ _ _
 have r:topRun treeTable p w m₀ ann N ⟨boot_heap w.params,Array.mk [],boot_drawn,boot_toks,os⟩ (topStub p)=some s.abs:=by
  have:(⟨T₀ w.params,m₀,life,Array.mk [],boot_drawn,boot_toks,os⟩:SharedT).abs=⟨boot_heap w.params,Array.mk [],boot_drawn,boot_toks,os⟩:=by
   show Shared.mk _ _ _ _ _=_
   rw [show absHeap (T₀ w.params) m₀ life=boot_heap w.params from e0 w.params]
  rw [<-this];exact r
 have t:topFrom treeTable p w N ⟨boot_heap w.params,Array.mk [],boot_drawn,boot_toks,os⟩=some s.abs:=by
  unfold topFrom;dsimp only;rw [z1,z3,hs,r];show(match staticsOk (importedModules p.main.body) (boot_heap w.params) s.abs.heap&&namesBound p s.abs.heap&&gensDone s.abs&&laidKept (boot_heap w.params) s.abs.heap with|true=>_|false=>_)=_
  rw [l1]
 unfold openEnds;rw [e1];show(topFrom treeTable p w N _).map _=_
 rw [t];exact congrArg some (Prod.ext l2 l3)
end Hd
namespace Hd
open PySem PySem.W
def Ny:∀P:Params,absHeap (treeOf (boot_heap P).objs.toList) 11 {}=boot_heap P:=λP=>by kernel_rfl
def MG:∀w:World,((boot_heap w.params).isNs mainGlobals,(boot_heap w.params).nsMap mainGlobals "__annotations__")=(true,some (.ref 6)):=λw=>by kernel_rfl
noncomputable abbrev de(P:Params)(x:Str)(t:Tok)(v:Value):DictEntry:={hash:=PyData.keyHash P x,key:=.str x t,val:=v}
theorem holds{l:OpenLaw}{keep:List Nat}{K:Params->Frag}{as:List Addr}{d:DefRec}{N:Nat}(Qp:l.wellSaid=true)
 (ka:∀P,as=(K P).map (·.1))
 (left:LeftO l.row.prog (view l.row.prog keep) [] (λs=>xlAt (view l.row.prog keep) [] s&&recOk l.row.toRowW.records s) (kHook K as ka).obs (kHook K as ka).val N)
 (Ij:defOf (view l.row.prog keep) l.row.name=some (d,[])) (hp:l.row.prog.theDef l.row.name=some (d.params,d.body,d.scope)) (hk:kwWritten? d.params.kwonlyargs d.params.kw_defaults=some [])
 (ok:(chainsOk (view l.row.prog keep)&&opensWell l.row.prog&&(frees l.row.toRowW&&l.row.within.isEmpty))=true) (hb:l.row.prog.bare) (hw:l.row.toRowW.promised)
 (call:WalkO (view l.row.prog keep) [] (XL (view l.row.prog keep) []) (kHook K as ka).says l.row.toRowW d [] λf vs=>PySem.call f vs):l.Holds:=
 holds_law Qp λk1=>holds_open (N:=N) left (Hook.of (kHook K as ka)) (Hook.keeps (kHook K as ka)) (λs e=>xl_of s (Bool.and_eq_true_iff.mp e).1) XL.keeps Ij hp hk (λs e=>recFacts_of (Bool.and_eq_true_iff.mp e).2) (by cases h:l.row.writes<;>rfl) k1 ok hb hw call
theorem Ob{P:List Value->Prop}(h:∀a0,P [a0]):∀us:List Value,us.length=1->P us
 |[a0],_=>h a0
theorem B1{P:List Value->Prop}(h:∀a0 a1,P [a0,a1]):∀us:List Value,us.length=2->P us
 |[a0,a1],_=>h a0 a1
theorem CD{P:List Value->Prop}(h:∀a0 a1 a2,P [a0,a1,a2]):∀us:List Value,us.length=3->P us
 |[a0,a1,a2],_=>h a0 a1 a2
theorem OV{P:List Value->Prop}(h:∀a0 a1 a2 a3,P [a0,a1,a2,a3]):∀us:List Value,us.length=4->P us
 |[a0,a1,a2,a3],_=>h a0 a1 a2 a3
end Hd
namespace KJ
open PySem L2 Ci
theorem qr{α β:Type}{a:α}{f:α->Res β}:(Res.ok a).bind f=f a:=rfl
theorem NZ{α:Type}{a:α}:(Res.ok a).well=.ok a:=rfl
theorem Q9{α:Type}{a:α}:Res.of (some a)=.ok a:=rfl
theorem HL{env:Sl}{k:Sl->Res Fl}:(Fl.nx env).seq k=k env:=rfl
theorem SF{p:PV}{k:Sl->Res Fl}:(Fl.rt p).seq k=.ok (.rt p):=rfl
theorem Sn{env:Sl}{k:Sl->Res Fl}:(Fl.bk env).seq k=.ok (.bk env):=rfl
theorem sv{p:PV}:og (some (.val p))=.ok p:=rfl
theorem Sd{p:PV}:AS (some (.val p))=.ok p:=rfl
theorem RV{p:PV}:AS (some (.own p))=.ok p:=rfl
theorem Oq{α:Type}{b:Bool}{f:Bool->Res α}:pB (.bl b) f=f b:=rfl
theorem Gg{i j:Int}:binOp .add (.int i) (.int j)=.ok (.int (i+j)):=rfl
theorem Gv{i j:Str}:binOp .add (.str i) (.str j)=if i.length+j.length<=fF then .ok (.str (i++j)) else .bad:=rfl
theorem F2{i j:List PV}:binOp .add (.lst i) (.lst j)=if i.length+j.length<=fF then .ok (.lst (i++j)) else .bad:=rfl
theorem Lg{i j:Int}:binOp .sub (.int i) (.int j)=.ok (.int (i-j)):=rfl
theorem K4{i j:Int}:binOp .mul (.int i) (.int j)=if aN i||aN j then .ok (.int (i*j)) else .bad:=rfl
theorem Lv{i j:Int}:binOp .mod (.int i) (.int j)=if 0<j then .ok (.int (i%j)) else .bad:=rfl
theorem LF{i j:Int}:binOp .fdiv (.int i) (.int j)=if 0<j/\j<1073741824 then .ok (.int (i/j)) else .bad:=rfl
theorem SN:dC .eq=iQ:=rfl
theorem Q3:dC .ne=gy:=rfl
theorem Ri:dC .lt=rK:=rfl
theorem Q8:dC .le=rh:=rfl
theorem Sr:dC .xy=kU:=rfl
theorem Ll:dC .vi=i6:=rfl
theorem oLt{i j:Int}:rK (.int i) (.int j)=.ok (.bl (decide (i<j))):=rfl
theorem oLe{i j:Int}:rh (.int i) (.int j)=.ok (.bl (decide (i<=j))):=rfl
theorem lL{xs:List PV}:dD .len [.lst xs]=.ok (.int xs.length):=rfl
theorem lT{xs:List PV}:dD .len [.tup xs]=.ok (.int xs.length):=rfl
theorem lS{z:Str}:dD .len [.str z]=if z.length<=fF then .ok (.int z.length) else .bad:=rfl
theorem tL{xs:List PV}:dD .tuple [.lst xs]=.ok (.tup xs):=rfl
theorem RI{i:Nat}{p:PV}{env:Sl}:(Tg.one i).put p env=.ok (env.set i (.val p)):=rfl
theorem Rg{i j:Nat}{a b:PV}{env:Sl}:(Tg.two i j).put (.tup [a,b]) env=.ok ((env.set i (.val a)).set j (.val b)):=rfl
theorem KO{p:PV}:qB (.own p)=.val p:=rfl
theorem jA{α:Type}{a:α}{as:List α}:(a::as).length=as.length+1:=rfl
theorem jB{α:Type}:([]:List α).length=0:=rfl
theorem jC{α β:Type}{f:α->β}{a:α}{l:List α}:(a::l).map f=f a::l.map f:=rfl
theorem jD{α β:Type}{f:α->β}:([]:List α).map f=[]:=rfl
theorem jE{α:Type}{a:α}{as bs:List α}:a::as++bs=a::(as++bs):=rfl
theorem jF{α:Type}{as:List α}:[]++as=as:=rfl
theorem jG{α:Type}{a:α}{l:List α}:(a::l)[0]?=some a:=rfl
theorem jH{α:Type}{a:α}{l:List α}{i:Nat}:(a::l)[i+1]?=l[i]?:=rfl
theorem jI{α:Type}{a b:α}{l:List α}:(a::l).set 0 b=b::l:=rfl
theorem jJ{α:Type}{a b:α}{l:List α}{i:Nat}:(a::l).set (i+1) b=a::l.set i b:=rfl
theorem jK{α:Type}{a d:α}{l:List α}:(a::l).getD 0 d=a:=rfl
theorem jL{α:Type}{a d:α}{l:List α}{i:Nat}:(a::l).getD (i+1) d=l.getD i d:=rfl
def jM{n:Nat}:0+n=n:=Nat.zero_add _
theorem jN:(!true)=false:=rfl
theorem jO:(!false)=true:=rfl
def jP:(false=true)=False:=zze
theorem sX{e:E}{xs:List PV}:A2 e (.lst xs)=.ok xs:=rfl
theorem RO{e:E}{xs:List PV}:A2 e (.tup xs)=.ok xs:=rfl
theorem NN{xs:List PV}:itemsOf (.tup xs)=.ok xs:=rfl
theorem Qs{xs:List PV}:itemsOf (.lst xs)=.ok xs:=rfl
theorem NP{z:Str}:itemsOf (.str z)=.ok (chars z):=rfl
theorem jQ{α:Type}{f:α->α}{a:α}{l:List α}:(a::l).modify 0 f=f a::l:=rfl
def jR{α:Type}{f:α->α}{a:α}{l:List α}{i:Nat}:(a::l).modify (i+1) f=a::l.modify i f:=by simp
theorem jS{α:Type}{a:α}:List.replicate 0 a=[]:=id rfl
theorem jT{α:Type}{a:α}{n:Nat}:List.replicate (n+1) a=a::List.replicate n a:=id rfl
def jU{n:Nat}:(n==n)=true:=beq_self_eq_true n
noncomputable def J:=And.intro @jS (And.intro @jT (And.intro @jU (And.intro @qr (And.intro @NZ (And.intro @Q9 (And.intro @HL (And.intro @SF (And.intro @Sn (And.intro @sv (And.intro @Sd (And.intro @RV (And.intro @Oq (And.intro @Gg (And.intro @Gv (And.intro @F2 (And.intro @Lg (And.intro @K4 (And.intro @Lv (And.intro @LF (And.intro @SN (And.intro @Q3 (And.intro @Ri (And.intro @Q8 (And.intro @Sr (And.intro @Ll (And.intro @oLt (And.intro @oLe (And.intro @lL (And.intro @lT (And.intro @lS (And.intro @tL (And.intro @RI (And.intro @Rg (And.intro @KO (And.intro @jA (And.intro @jB (And.intro @jC (And.intro @jD (And.intro @jE (And.intro @jF (And.intro @jG (And.intro @jH (And.intro @jI (And.intro @jJ (And.intro @jK (And.intro @jL (And.intro @jM (And.intro @jN (And.intro @jO (And.intro @jP (And.intro @sX (And.intro @RO (And.intro @NN (And.intro @Qs (And.intro @NP (And.intro @jQ (@jR)))))))))))))))))))))))))))))))))))))))))))))))))))))))))
def Ib{n:Str}{d:Def}{r:List (Str×Def)}:den ((n,d)::r) n=aA (den r) d:=by
 funext as;simp [den]
def IA{n f:Str}{d:Def}{r:List (Str×Def)}(h:(f==n)=false):den ((n,d)::r) f=den r f:=by
 funext as;simp [den,h]
theorem rG{f:Str}:∀(n:Nat) {T:List (Str×Def)},((T.take n).all λx=>!(f==x.1))=true->den T f=den (T.drop n) f
 |0,_,_=>rfl
 |n+1,[],_=>rfl
 |n+1,(m,d)::r,h=>by
  rw [List.take_succ_cons,List.all_cons,zza,Bool.not_eq_true'] at h;exact(IA h.1).trans (rG n h.2)
def dk{f:Str}{d:Def}{r T:List (Str×Def)}(k:Nat)(h:((T.take k).all λx=>!(f==x.1))=true:=by decide+kernel)(e:T.drop k=(f,d)::r:=by rfl):den T f=aA (den r) d:=by
 rw [rG k h,e];exact Ib
end KJ
local macro_rules | `(#v[]) => `(.nil) | `(#v[$x]) => `(.cons $x .nil) | `(#v[$x, $xs,*]) => `(.cons $x #v[$xs,*]) | `(!$n:num) => `(.var $n) | `(¬$n:num) => `(.cst (.int $n))
namespace K51
open PySem L2 Ci KJ
noncomputable def cL:Def:=⟨["_law_script","_law_k"],2,#v[.ite (.cmp .lt (!1) (.blt .len #v[!0])) #v[.ret (.sub (!0) (!1))] .nil,.ite (.cmp .eq (!0) (.lst .nil)) #v[.ret (¬0)] .nil,.ret (.bin .add (.bin .mul (.sub (!0) (.bin .mod (!1) (.blt .len #v[!0]))) (¬31)) (!1))],none⟩
noncomputable def bM:Def:=⟨["_law_script","_law_k","_law_many","_law_drawn"],3,#v[.set 3 (.bin .mod (.bin .mul (.bin .add (.call "_law_cell" #v[!0,!1]) (.bin .mul (¬6151) (.bin .add (!1) (¬1)))) (¬40692)) (¬2147483399)),.ret (.bin .mod (.bin .mod (.bin .add (.bin .mul (!3) (!3)) (.bin .fdiv (!3) (¬31))) (¬2147483629)) (!2))],none⟩
noncomputable def bV:Def:=⟨["_law_script","_law_at","_law_most","_law_rows","_law_columns","_law_shuts","_law_top","_law_made","_law_row","_law_signs","_law_column","_law_drawn"],3,#v[.set 3 (.bin .add (¬1) (.call "_law_pick" #v[!0,!1,!2])),.set 4 (.bin .add (¬1) (.call "_law_pick" #v[!0,.bin .add (!1) (¬1),!2])),.set 5 (.sub (.lst #v[¬0,¬2,¬4,¬6]) (.call "_law_pick" #v[!0,.bin .add (!1) (¬2),¬4])),.set 6 (.sub (.lst #v[¬1,¬2,¬3,¬10]) (.call "_law_pick" #v[!0,.bin .add (!1) (¬3),¬4])),.own 7 (.lst .nil),.da (.one 8) (.pH (!3)) #v[.set 9 (.cst (.str "")),.da (.one 10) (.pH (!4)) #v[.set 11 (.call "_law_pick" #v[!0,.bin .add (.bin .add (.bin .add (!1) (¬4)) (.bin .mul (!2) (!8))) (!10),.bin .mul (¬12) (!6)]),.set 9 (.bin .add (!9) (.ite (.cmp .lt (.bin .mod (!11) (¬12)) (!5)) (.cst (.str "#")) (.blt .str #v[.bin .fdiv (!11) (¬12)])))],.app 7 (!9)],.ret (.blt .tuple #v[.iM 7])],none⟩
noncomputable def bZ:Def:=⟨["_law_script","_law_at"],2,#v[.ret (.tup #v[.cmp .eq (.call "_law_pick" #v[!0,!1,¬2]) (¬0),.sub (.lst #v[¬0,¬1,¬2,¬9]) (.call "_law_pick" #v[!0,.bin .add (!1) (¬1),¬4]),.call "_law_pick" #v[!0,.bin .add (!1) (¬2),¬4]])],none⟩
noncomputable def cA:Def:=⟨["_law_floor_here","_law_made","_law_row","_law_signs"],1,#v[.own 1 (.lst .nil),.da (.two 2 3) (.enum (!0)) #v[.ni 1 (.cG 2 [2] (.two 0 1) (.enum (!3)) (.cmp .ne (!1) (.cst (.str "#"))) (.tup #v[!2,!0]))],.bz 1,.ret (!1)],none⟩
noncomputable def dP:Def:=⟨["thing"],1,#v[.ret (.and (.ty .int (!0)) (.not (.ty .bool (!0))))],none⟩
noncomputable def dM:Def:=⟨["thing"],1,#v[.ret (.and (.ty .tuple (!0)) (.and (.cmp .eq (.blt .len #v[!0]) (¬2)) (.and (.call "is_whole" #v[.sub (!0) (¬0)]) (.call "is_whole" #v[.sub (!0) (¬1)]))))],none⟩
noncomputable def b9:Def:=⟨["floor","spot"],2,#v[.ret (.and (.ch .le .lt (¬0) (.sub (!1) (¬0)) (.blt .len #v[!0])) (.ch .le .lt (¬0) (.sub (!1) (¬1)) (.blt .len #v[.sub (!0) (.sub (!1) (¬0))])))],none⟩
noncomputable def cx:Def:=⟨["floor","thing"],2,#v[.ret (.and (.call "is_spot" #v[!1]) (.and (.call "is_on_floor" #v[!0,!1]) (.cmp .ne (.sub (.sub (!0) (.sub (!1) (¬0))) (.sub (!1) (¬1))) (.glob "WALL" (.str "#")))))],none⟩
noncomputable def bq:Def:=⟨["floor","spot"],2,#v[.ite (.not (.call "is_open" #v[!0,!1])) #v[.raise "NoSpot" "the spot is not on the floor or a wall"] .nil],none⟩
noncomputable def bK:Def:=⟨["floor","goals","goal"],2,#v[.ite (.cmp .eq (.blt .len #v[!1]) (¬0)) #v[.raise "NoSpot" "there are no goals"] .nil,.da (.one 2) (.seq (!1)) #v[.expr (.call "need_open" #v[!0,!2])]],none⟩
noncomputable def ba:Def:=⟨["floor","spot","beside","row","column"],2,#v[.own 2 (.lst .nil),.da (.one 3) (.o9 (.bin .sub (.sub (!1) (¬0)) (¬1)) (.bin .add (.sub (!1) (¬0)) (¬2))) #v[.da (.one 4) (.o9 (.bin .sub (.sub (!1) (¬1)) (¬1)) (.bin .add (.sub (!1) (¬1)) (¬2))) #v[.ite (.and (.cmp .ne (.tup #v[!3,!4]) (!1)) (.call "is_open" #v[!0,.tup #v[!3,!4]])) #v[.app 2 (.tup #v[!3,!4])] .nil]],.bz 2,.ret (!2)],none⟩
noncomputable def cy:Def:=⟨["one","other"],2,#v[.ret (.and (.cmp .ne (!0) (!1)) (.and (.cmp .le (.blt .abs #v[.bin .sub (.sub (!0) (¬0)) (.sub (!1) (¬0))]) (¬1)) (.cmp .le (.blt .abs #v[.bin .sub (.sub (!0) (¬1)) (.sub (!1) (¬1))]) (¬1))))],none⟩
noncomputable def cN:Def:=⟨["floor","spot"],2,#v[.expr (.call "need_open" #v[!0,!1]),.ret (.blt .int #v[.sub (.sub (!0) (.sub (!1) (¬0))) (.sub (!1) (¬1))])],none⟩
noncomputable def bj:Def:=⟨["floor","one","other"],3,#v[.ret (.and (.call "is_open" #v[!0,.tup #v[.sub (!1) (¬0),.sub (!2) (¬1)]]) (.call "is_open" #v[!0,.tup #v[.sub (!2) (¬0),.sub (!1) (¬1)]]))],none⟩
noncomputable def bt:Def:=⟨["floor","walker","one","other","is_slanting","rise","flat_cost"],4,#v[.ite (.not (.call "are_beside" #v[!2,!3])) #v[.ret (.cst .aH)] .nil,.set 4 (.and (.cmp .ne (.sub (!2) (¬0)) (.sub (!3) (¬0))) (.cmp .ne (.sub (!2) (¬1)) (.sub (!3) (¬1)))),.ite (.and (!4) (.not (.and (.sub (!1) (¬0)) (.call "has_open_corners" #v[!0,!2,!3])))) #v[.ret (.cst .aH)] .nil,.set 5 (.bin .sub (.call "height_at" #v[!0,!3]) (.call "height_at" #v[!0,!2])),.ite (.cmp .gt (.blt .abs #v[!5]) (.sub (!1) (¬1))) #v[.ret (.cst .aH)] .nil,.set 6 (.ite (!4) (.glob "SLANTING_COST" (.int 3)) (.glob "STRAIGHT_COST" (.int 2))),.ret (.bin .add (!6) (.bin .mul (.sub (!1) (¬2)) (.blt .max2 #v[!5,¬0])))],none⟩
noncomputable def bC:Def:=⟨["floor","walker","spot","steps","other","cost"],3,#v[.expr (.call "need_open" #v[!0,!2]),.own 3 (.lst .nil),.da (.one 4) (.seq (.call "open_spots_beside" #v[!0,!2])) #v[.set 5 (.call "step_cost" #v[!0,!1,!2,!4]),.ite (.cmp .HN (!5) (.cst .aH)) #v[.app 3 (.tup #v[!4,!5])] .nil],.bz 3,.ret (!3)],none⟩
noncomputable def aW:Def:=⟨["starts","steps","reached","waiting","start","spot","other","cost","together"],2,#v[.kh 2,.kh 3,.da (.one 4) (.seq (!0)) #v[.put 3 (!4) (.tup #v[¬0,.cst .aH])],.Gf (.cmp .gt (.blt .len #v[.iM 3]) (¬0)) #v[.m8 5 3,.eO 2 3 5,.da (.two 6 7) (.seq (.j3 1 #v[!5])) #v[.set 8 (.bin .add (.sub (.sub (.iM 2) (!5)) (¬0)) (!7)),.ite (.and (.cmp .vi (!6) (.iM 2)) (.or (.cmp .vi (!6) (.iM 3)) (.cmp .lt (!8) (.sub (.sub (.iM 3) (!6)) (¬0))))) #v[.put 3 (!6) (.tup #v[!8,!5])] .nil]],.bz 2,.ret (!2)],some ("steps_from",[1,2,1,0])⟩
noncomputable def bX:Def:=⟨["floor","walker","start"],3,#v[.expr (.call "need_open" #v[!0,!2]),.ret (.oC "spread@steps_from" #v[.lst #v[!2]] "steps_from" [1,2,1,0] [1,0])],none⟩
noncomputable def bJ:Def:=⟨["floor","walker","goals","start","reached","found","least"],4,#v[.expr (.call "need_goals" #v[!0,!2]),.set 4 (.call "spread_from" #v[!0,!1,!3]),.set 5 (.cG 1 [4] (.one 0) (.seq (.tR (!2))) (.cmp .xy (!0) (!1)) (!0)),.set 6 (.jx (.comp 1 [4] (.one 0) (.seq (!5)) (.sub (.sub (!1) (!0)) (¬0)))),.ret (.cG 1 [4,6] (.one 0) (.seq (!5)) (.cmp .eq (.sub (.sub (!1) (!0)) (¬0)) (!2)) (!0))],none⟩
noncomputable def dh:Def:=⟨["floor","walker","spot"],3,#v[.ret (.comp 1 [1,2,0] (.one 0) (.seq (.call "steps_from" #v[!0,!1,!2])) (.tup #v[.sub (!0) (¬0),.call "step_cost" #v[!3,!1,.sub (!0) (¬0),!2]]))],none⟩
noncomputable def bu:Def:=⟨["starts","steps","reached","waiting","start","spot","other","cost","together"],2,#v[.kh 2,.kh 3,.da (.one 4) (.seq (!0)) #v[.put 3 (!4) (.tup #v[¬0,.cst .aH])],.Gf (.cmp .gt (.blt .len #v[.iM 3]) (¬0)) #v[.m8 5 3,.eO 2 3 5,.da (.two 6 7) (.seq (.j3 1 #v[!5])) #v[.set 8 (.bin .add (.sub (.sub (.iM 2) (!5)) (¬0)) (!7)),.ite (.and (.cmp .vi (!6) (.iM 2)) (.or (.cmp .vi (!6) (.iM 3)) (.cmp .lt (!8) (.sub (.sub (.iM 3) (!6)) (¬0))))) #v[.put 3 (!6) (.tup #v[!8,!5])] .nil]],.bz 2,.ret (!2)],some ("steps_to",[1,2,1,0])⟩
noncomputable def cM:Def:=⟨["floor","walker","goals","goal"],3,#v[.da (.one 3) (.seq (!2)) #v[.expr (.call "need_open" #v[!0,!3])],.ret (.oC "spread@steps_to" #v[!2] "steps_to" [1,2,1,0] [1,0])],none⟩
noncomputable def bw:Def:=⟨["floor","walker","goals"],3,#v[.expr (.call "need_goals" #v[!0,!2]),.ret (.call "spread_to" #v[!0,!1,!2])],none⟩
noncomputable def bD:Def:=⟨["floor","walker","reached","spot","other","cost"],4,#v[.da (.two 4 5) (.seq (.call "steps_from" #v[!0,!1,!3])) #v[.ite (.cmp .eq (.sub (.sub (!2) (!3)) (¬0)) (.bin .add (!5) (.sub (.sub (!2) (!4)) (¬0)))) #v[.ret (!4)] .nil],.ret (.cst .aH)],none⟩
noncomputable def gL:Def:=⟨["floor","walker","goals","reached"],3,#v[.set 3 (.call "spread_to_goals" #v[!0,!1,!2]),.ret (.comp 1 [1,3,0] (.one 0) (.seq (.blt .sorted #v[!3])) (.tup #v[!0,.sub (.sub (!2) (!0)) (¬0),.call "least_onward" #v[!3,!1,!2,!0]]))],none⟩
noncomputable def oy:Def:=⟨["_law_script","_law_floor_here","_law_walker_here","_law_spots_here","_law_ones","_law_others","_law_one","_law_other","_law_both","_law_spot","_law_some","_law_due","_law_goals","_law_book"],1,#v[.set 1 (.call "_law_floor" #v[!0,¬0,¬5]),.set 2 (.call "_law_walker" #v[!0,¬40]),.set 3 (.call "_law_spots" #v[!1]),.ite (.cmp .eq (!3) (.lst .nil)) #v[.ret (.cst (.bl true))] .nil,.set 4 (.comp 1 [3,0] (.one 0) (.pH (.bin .add (¬1) (.call "_law_pick" #v[!0,¬50,¬3]))) (.sub (!1) (.call "_law_pick" #v[!2,.bin .add (¬51) (!0),.blt .len #v[!1]]))),.set 5 (.comp 1 [3,0] (.one 0) (.pH (.bin .add (¬1) (.call "_law_pick" #v[!0,¬55,¬3]))) (.sub (!1) (.call "_law_pick" #v[!2,.bin .add (¬56) (!0),.blt .len #v[!1]]))),.set 6 (.blt .dict #v[.comp 1 [] (.one 0) (.seq (.call "field" #v[!1,!2,!4])) (.slice (!0) .no (.some (¬2)))]),.set 7 (.blt .dict #v[.comp 1 [] (.one 0) (.seq (.call "field" #v[!1,!2,!5])) (.slice (!0) .no (.some (¬2)))]),.set 8 (.blt .dict #v[.comp 1 [] (.one 0) (.seq (.call "field" #v[!1,!2,.bin .add (!4) (!5)])) (.slice (!0) .no (.some (¬2)))]),.da (.one 9) (.seq (!3)) #v[.set 10 (.cG 1 [9] (.one 0) (.seq (.tup #v[!6,!7])) (.cmp .xy (!1) (!0)) (.sub (!0) (!1))),.ite (.or (.cmp .ne (.cmp .eq (!10) (.lst .nil)) (.cmp .vi (!9) (!8))) (.and (.cmp .ne (!10) (.lst .nil)) (.cmp .ne (.sub (!8) (!9)) (.blt .vb #v[!10])))) #v[.ret (.cst (.bl false))] .nil,.own 11 (.lst .nil),.da (.two 12 13) (.seq (.tup #v[.tup #v[!4,!6],.tup #v[!5,!7]])) #v[.ite (.and (.cmp .xy (!9) (!13)) (.cmp .eq (.sub (!13) (!9)) (.sub (!8) (!9)))) #v[.ni 11 (.call "nearest_goals" #v[!1,!2,!12,!9])] .nil],.ite (.cmp .ne (.call "nearest_goals" #v[!1,!2,.bin .add (!4) (!5),!9]) (.tR (.iM 11))) #v[.ret (.cst (.bl false))] .nil],.ret (.cst (.bl true))],none⟩
def T0:List (Str×Def):=[]
noncomputable def T1:List (Str×Def):=(("_law_cell":Str),cL)::T0
noncomputable def T2:List (Str×Def):=(("_law_pick":Str),bM)::T1
noncomputable def T3:List (Str×Def):=(("_law_floor":Str),bV)::T2
noncomputable def T4:List (Str×Def):=(("_law_walker":Str),bZ)::T3
noncomputable def T5:List (Str×Def):=(("_law_spots":Str),cA)::T4
noncomputable def T6:List (Str×Def):=(("is_whole":Str),dP)::T5
noncomputable def T7:List (Str×Def):=(("is_spot":Str),dM)::T6
noncomputable def T8:List (Str×Def):=(("is_on_floor":Str),b9)::T7
noncomputable def T9:List (Str×Def):=(("is_open":Str),cx)::T8
noncomputable def Ms:List (Str×Def):=(("need_open":Str),bq)::T9
noncomputable def O3:List (Str×Def):=(("need_goals":Str),bK)::Ms
noncomputable def RX:List (Str×Def):=(("open_spots_beside":Str),ba)::O3
noncomputable def OI:List (Str×Def):=(("are_beside":Str),cy)::RX
noncomputable def PQ:List (Str×Def):=(("height_at":Str),cN)::OI
noncomputable def HI:List (Str×Def):=(("has_open_corners":Str),bj)::PQ
noncomputable def Ef:List (Str×Def):=(("step_cost":Str),bt)::HI
noncomputable def Ph:List (Str×Def):=(("steps_from":Str),bC)::Ef
noncomputable def L1:List (Str×Def):=(("spread@steps_from":Str),aW)::Ph
noncomputable def Lw:List (Str×Def):=(("spread_from":Str),bX)::L1
noncomputable def Nz:List (Str×Def):=(("nearest_goals":Str),bJ)::Lw
noncomputable def NK:List (Str×Def):=(("steps_to":Str),dh)::Nz
noncomputable def L3:List (Str×Def):=(("spread@steps_to":Str),bu)::NK
noncomputable def LX:List (Str×Def):=(("spread_to":Str),cM)::L3
noncomputable def P2:List (Str×Def):=(("spread_to_goals":Str),bw)::LX
noncomputable def Li:List (Str×Def):=(("least_onward":Str),bD)::P2
noncomputable def JO:List (Str×Def):=(("field":Str),gL)::Li
def K9:den T1 "_law_cell"=aA (den T0) cL:=dk 0
def Mz:den T2 "_law_pick"=aA (den T1) bM:=dk 0
def LI:den T3 "_law_pick"=aA (den T1) bM:=dk 1
def M0:den T6 "is_whole"=aA (den T5) dP:=dk 0
def LP:den T8 "is_spot"=aA (den T6) dM:=dk 1
def L9:den T8 "is_on_floor"=aA (den T7) b9:=dk 0
def LG:den T9 "is_open"=aA (den T8) cx:=dk 0
def CZ:den Ms "need_open"=aA (den T9) bq:=dk 0
def Jy:den O3 "is_open"=aA (den T8) cx:=dk 2
def EB:den OI "need_open"=aA (den T9) bq:=dk 3
def HJ:den PQ "is_open"=aA (den T8) cx:=dk 5
def Dc:den HI "are_beside"=aA (den RX) cy:=dk 2
def ET:den HI "has_open_corners"=aA (den PQ) bj:=dk 0
def E5:den HI "height_at"=aA (den OI) cN:=dk 1
def EJ:den Ef "need_open"=aA (den T9) bq:=dk 6
def Dj:den Ef "open_spots_beside"=aA (den O3) ba:=dk 4
def Dw:den Ef "step_cost"=aA (den HI) bt:=dk 0
def Df:den Ph "steps_from"=aA (den Ef) bC:=dk 0
def ER:den L1 "need_open"=aA (den T9) bq:=dk 8
def Fw:den L1 "spread@steps_from"=aA (den Ph) aW:=dk 0
def E8:den Lw "need_goals"=aA (den Ms) bK:=dk 8
def Ee:den Lw "spread_from"=aA (den L1) bX:=dk 0
def DA:den Nz "steps_from"=aA (den Ef) bC:=dk 3
def EN:den Nz "step_cost"=aA (den HI) bt:=dk 4
def DD:den NK "steps_to"=aA (den Nz) dh:=dk 0
def DC:den L3 "need_open"=aA (den T9) bq:=dk 12
def CF:den L3 "spread@steps_to"=aA (den NK) bu:=dk 0
def DH:den LX "need_goals"=aA (den Ms) bK:=dk 12
def Ff:den LX "spread_to"=aA (den L3) cM:=dk 0
def Eh:den P2 "steps_from"=aA (den Ef) bC:=dk 7
def C7:den Li "spread_to_goals"=aA (den LX) bw:=dk 1
def Er:den Li "least_onward"=aA (den P2) bD:=dk 0
def IQ:den JO "_law_floor"=aA (den T2) bV:=dk 23
def JI:den JO "_law_walker"=aA (den T3) bZ:=dk 22
def G7:den JO "_law_spots"=aA (den T4) cA:=dk 21
def JJ:den JO "_law_pick"=aA (den T1) bM:=dk 24
def DV:den JO "field"=aA (den Li) gL:=dk 0
def Fm:den JO "nearest_goals"=aA (den Lw) bJ:=dk 6
noncomputable abbrev sp(r c:Int):PV:=.tup [.int r,.int c]
noncomputable abbrev cX(ns:List Int):PV:=.lst (ns.map .int)
theorem aI{i:Int}:dD .abs [.int i]=.ok (.int (if i<0 then -i else i)):=rfl
theorem mX{i j:Int}:dD .max2 [.int i,.int j]=.ok (.int (if j>i then j else i)):=rfl
theorem Sz:dC .gt=uq:=rfl
theorem QW{i j:Int}:uq (.int i) (.int j)=.ok (.bl (decide (j<i))):=rfl
theorem M6:dC .HN=kc:=rfl
noncomputable abbrev wk(sl:Bool)(cl pr:Int):PV:=.tup [.bl sl,.int cl,.int pr]
theorem Mm{r c:Int}:bg (sp r c) (.int 0)=.ok (.int r):=rfl
theorem Le{r c:Int}:bg (sp r c) (.int 1)=.ok (.int c):=rfl
theorem RK{sl:Bool}{cl pr:Int}:bg (wk sl cl pr) (.int 0)=.ok (.bl sl):=rfl
theorem QX{sl:Bool}{cl pr:Int}:bg (wk sl cl pr) (.int 1)=.ok (.int cl):=rfl
theorem Ru{sl:Bool}{cl pr:Int}:bg (wk sl cl pr) (.int 2)=.ok (.int pr):=rfl
theorem nI{i j:Int}:gy (.int i) (.int j)=.ok (.bl (!(i==j))):=rfl
theorem eI{i j:Int}:iQ (.int i) (.int j)=.ok (.bl (i==j)):=rfl
theorem nS{r c r' c':Int}:gy (sp r c) (sp r' c')=.ok (.bl (!((r==r')&&((c==c')&&true)))):=rfl
theorem eS{r c r' c':Int}:iQ (sp r c) (sp r' c')=.ok (.bl ((r==r')&&((c==c')&&true))):=rfl
theorem Mw{α β:Type}{c:Str}{f:α->Res β}:(Res.exc c:Res α).bind f=.exc c:=rfl
noncomputable def J2:=And.intro @Mm (And.intro @Le (And.intro @RK (And.intro @QX (And.intro @Ru (And.intro @aI (And.intro @mX (And.intro @Sz (And.intro @QW (And.intro @nI (And.intro @eI (And.intro @nS (And.intro @eS (And.intro @M6 (And.intro @Mw (And.intro @Qs (And.intro @NN (@NP)))))))))))))))))
set_option hygiene false
local macro_rules | `(tactic| simp! only [$x,*] $[$l:location]?) => `(tactic| simp only [aA, cT, cJ, aG, fU, aD, cB, wF, qV, fC, ko, ip, List.replicate, Nat.reduceAdd, Nat.reduceSub, reduceIte, ite_true, ite_false, BEq.rfl, beq_self_eq_true, qr, NZ, Q9, HL, SF, Sn, sv, Sd, RV, Oq, Gg, Gv, F2, Lg, K4, Lv, LF, SN, Q3, Ri, Q8, Sr, Ll, oLt, oLe, lL, lT, lS, tL, RI, Rg, KO, jA, jB, jC, jD, jE, jF, jG, jH, jI, jJ, jK, jL, jM, jN, jO, jP, KJ.sX, RO, NN, Qs, NP, jQ, jR, Mm, Le, RK, QX, Ru, aI, mX, Sz, QW, nI, eI, nS, eS, M6, Mw, $x,*] $[$l]?)
local macro_rules | `(tactic| dsimp! only [$x,*] $[$l:location]?) => `(tactic| simp only [aA, cT, cJ, aG, fU, aD, cB, wF, qV, fC, ko, ip, List.replicate, Nat.reduceAdd, Nat.reduceSub, reduceIte, ite_true, ite_false, BEq.rfl, beq_self_eq_true, J, J2, $x,*] $[$l]?)
set_option hygiene true
theorem qv(F:bb)(i:Int):aA F dP [.int i]=.ok (.bl true):=by rfl
def my{α:Type}{xs:List α}{k:Nat}(h:k<xs.length):tG xs (k:Int)=some xs[k]:=by
 unfold tG JY;have:((k:Nat):Int)<(xs.length:Int):=by omega
 simp [this,h]
def vF{ns:List Int}{k:Int}(h0:0<=k)(h:k<ns.length):∃m,tG (ns.map PV.int) k=some (.int m):=by
 obtain⟨j,rfl⟩:=zzw h0
 refine⟨ns[j]'(by omega),?_⟩;rw [my (k:=j) (by simp;omega)];simp
def sQ(ns:List Int)(n:Nat):Ci.plain (n+1) (.lst (ns.map .int))=true:=by
 simp! [Ci.plain,zzT,zzx]
 rintro x ⟨i,_,rfl⟩
 cases n<;>rfl
def eq_nil(ns:List Int):iQ (cX ns) (.lst [])=.ok (.bl (decide (ns=[]))):=by
 have e:KW (cX ns)=true:=sQ ns 8
 unfold iQ;rw [e];cases ns<;>rfl
def ES(F:bb)(ns:List Int)(k:Int)(hk:0<=k):∃m,aA F cL [cX ns,.int k]=.ok (.int m):=by
 simp! only [cL,zzl,eq_nil]
 by_cases h:k<(ns.length:Int)
 ·obtain⟨m,e⟩:=vF hk h
  refine⟨m,?_⟩;simp! only [h,decide_true,bg,e]
 ·simp! only [h,decide_false,eq_nil];cases ns with
  |nil=>exact⟨0,rfl⟩
  |cons n ns=>
   have hl:(0:Int)<((n::ns).length:Int):=by simp! [zzL];omega
   obtain⟨m,e⟩:=vF (ns:=n::ns) (k:=k%((n::ns).length:Int)) (Int.emod_nonneg _ (by omega)) (Int.emod_lt_of_pos _ hl)
   refine⟨m*31+k,?_⟩;have e3:(aN m||aN 31)=true:=by rw [zzt];exact .inr (by decide)
   have e4:bg (cX (n::ns)) (.int (k%((n::ns).length:Int)))=.ok (.int m):=by simp! [bg,e];rfl
   have e5:decide ((n::ns)=[])=false:=rfl
   simp! [zzL] at hl e4;simp! only [e5,zzl,hl,e4,e3]
def Cz(F:bb)(hc:∀ns k,0<=k->∃m,F "_law_cell" [cX ns,.int k]=.ok (.int m))(ns:List Int)(k q:Int)(hk:0<=k)(hq:0<q):∃m,aA F bM [cX ns,.int k,.int q]=.ok (.int m)/\0<=m/\m<q:=by
 obtain⟨m,e⟩:=hc ns k hk
 have s1:(aN 6151||aN (k+1))=true:=by rw [zzt];exact .inl (by decide)
 have s2:(aN (m+6151*(k+1))||aN 40692)=true:=by rw [zzt];exact .inr (by decide)
 have s3:(0:Int)<2147483399:=by decide
 have s4:(0:Int)<2147483629:=by decide
 have s5:(0:Int)<31/\(31:Int)<1073741824:=by decide
 have a0:=Int.emod_nonneg ((m+6151*(k+1))*40692) (b:=2147483399) (by decide)
 have a1:=Int.emod_lt_of_pos ((m+6151*(k+1))*40692) s3
 refine⟨((((m+6151*(k+1))*40692%2147483399)*((m+6151*(k+1))*40692%2147483399)+((m+6151*(k+1))*40692%2147483399)/31)%2147483629)%q,?_,Int.emod_nonneg _ (by omega),Int.emod_lt_of_pos _ hq⟩;generalize hd:(m+6151*(k+1))*40692%2147483399=d at a0 a1
 have s6:(aN d||aN d)=true:=by
  have:aN d=true:=by simp! [aN,zza,zzN];omega
  rw [this];rfl
 simp! only [bM,cX] at e⊢;simp! only [e,s1,s2,s3,s4,s5,hd,s6,hq,and_self]
def rk(ae:List Str):Prop:=ae.length<=6/\∀z∈ae,z.length<=6
noncomputable abbrev fl(ae:List Str):PV:=.tup (ae.map .str)
noncomputable def cd(ae:List Str)(r c:Nat):Option Nat:=(ae[r]?).bind λz=>z.cps.toList[c]?
noncomputable def DN(ae:List Str)(r c:Nat):Bool:=match cd ae r c with|some x=>x !=35|none=>false
noncomputable def dE(ae:List Str)(r c:Int):Bool:=decide (0<=r)&&decide (0<=c)&&DN ae r.toNat c.toNat
def uh(F:bb)(h:∀i,F "is_whole" [.int i]=.ok (.bl true))(r c:Int):aA F dM [sp r c]=.ok (.bl true):=by
 have e0:bg (sp r c) (.int 0)=.ok (.int r):=rfl
 have e1:bg (sp r c) (.int 1)=.ok (.int c):=rfl
 have e2:iQ (.int ((2:Nat):Int)) (.int 2)=.ok (.bl true):=rfl
 simp! only [dM,uH,h,e0,e1,e2]
def MR(F:bb)(ae:List Str)(R:rk ae)(r c:Int):aA F b9 [fl ae,sp r c]=.ok (.bl (decide (0<=r)&&decide (0<=c)&&(cd ae r.toNat c.toNat).isSome)):=by
 have e0:bg (sp r c) (.int 0)=.ok (.int r):=rfl
 have e1:bg (sp r c) (.int 1)=.ok (.int c):=rfl
 simp! only [b9,uH,e0,e1,rh,rK,zzl]
 by_cases h0:0<=r
 ·by_cases h1:r<(ae.length:Int)
  ·obtain⟨j,rfl⟩:=zzw h0
   have hj:j<ae.length:=by omega
   have e2:bg (fl ae) (.int (j:Int))=.ok (.str ae[j]):=by
    simp! [bg,fl];rw [my (k:=j) (by simpa using hj)];simp [Res.of]
   have e3:(ae[j]).length<=fF:=zzU (R.2 _ (List.getElem_mem hj)) (by decide)
   have e4:(ae[j]).cps.size=(ae[j]).length:=rfl
   simp! only [h0,h1,decide_true,e2,e3]
   by_cases h2:0<=c
   ·obtain⟨i,rfl⟩:=zzw h2
    simp! only [h2,decide_true,cd,zz4,zzg hj,Option.bind_some,Bool.and_self,Bool.true_and,Res.ok.injEq,PV.bl.injEq];rw [Bool.eq_iff_iff];simp [e4]
   ·simp [aA,cT,cJ,aG,fU,aD,cB,wF,qV,fC,ko,ip,List.replicate,Nat.reduceAdd,Nat.reduceSub,reduceIte,ite_true,ite_false,BEq.rfl,beq_self_eq_true,J,h2]
  ·have:cd ae r.toNat c.toNat=none:=by
    unfold cd;rw [List.getElem?_eq_none (by omega)];rfl
   simp [aA,cT,cJ,aG,fU,aD,cB,wF,qV,fC,ko,ip,List.replicate,Nat.reduceAdd,Nat.reduceSub,reduceIte,ite_true,ite_false,BEq.rfl,beq_self_eq_true,J,h0,h1,this]
 ·simp [aA,cT,cJ,aG,fU,aD,cB,wF,qV,fC,ko,ip,List.replicate,Nat.reduceAdd,Nat.reduceSub,reduceIte,ite_true,ite_false,BEq.rfl,beq_self_eq_true,J,h0]
def JW{ae:List Str}{j:Nat}{z:Str}(h:ae[j]?=some z):bg (fl ae) (.int (j:Int))=.ok (.str z):=by
 obtain⟨hj,rfl⟩:=zzH.1 h
 simp! [bg,fl];rw [my (k:=j) (by simpa using hj)];simp [Res.of]
def El{z:Str}{i x:Nat}(hz:z.length<=fF)(h:z.cps.toList[i]?=some x):bg (.str z) (.int (i:Int))=.ok (.str ⟨#[x]⟩):=by
 obtain⟨hj,rfl⟩:=zzH.1 h
 simp! [bg,hz,if_true];rw [my (k:=i) hj]
 rfl
def FW{ae:List Str}(R:rk ae){j i x:Nat}(h:cd ae j i=some x):∃z,ae[j]?=some z/\bg (fl ae) (.int (j:Int))=.ok (.str z)/\bg (.str z) (.int (i:Int))=.ok (.str ⟨#[x]⟩):=by
 unfold cd at h;cases hz:ae[j]? with
 |none=>rw [hz] at h;cases h
 |some z=>
  rw [hz] at h;exact⟨z,rfl,JW hz,El (zzU (R.2 _ (zzD hz)) (by decide)) h⟩
def y7(x:Nat):gy (.str ⟨#[x]⟩) (.str "#")=.ok (.bl (x !=35)):=by
 have:(("#":Str))=⟨#[35]⟩:=by decide+kernel
 rw [this];show Res.ok (PV.bl (!((⟨#[x]⟩:Str)==⟨#[35]⟩)))=_
 congr 2
 rw [bne,Bool.eq_iff_iff];simp
def C2(F:bb)(hs:∀r c,F "is_spot" [sp r c]=.ok (.bl true))(ho:∀ae,rk ae->∀r c,F "is_on_floor" [fl ae,sp r c]=.ok (.bl (decide (0<=r)&&decide (0<=c)&&(cd ae r.toNat c.toNat).isSome)))
 (ae:List Str) (R:rk ae) (r c:Int):aA F cx [fl ae,sp r c]=.ok (.bl (dE ae r c)):=by
 have e0:bg (sp r c) (.int 0)=.ok (.int r):=rfl
 have e1:bg (sp r c) (.int 1)=.ok (.int c):=rfl
 simp! only [cx,hs,ho ae R,e0,e1];unfold dE DN
 by_cases h0:0<=r
 ·by_cases h1:0<=c
  ·obtain⟨j,rfl⟩:=zzw h0
   obtain⟨i,rfl⟩:=zzw h1
   simp! [h0,h1,decide_true,Bool.true_and,Bool.and_self,zz4];cases hc:cd ae j i with
   |none=>simp [aA,cT,cJ,aG,fU,aD,cB,wF,qV,fC,ko,ip,List.replicate,Nat.reduceAdd,Nat.reduceSub,reduceIte,ite_true,ite_false,BEq.rfl,beq_self_eq_true,J]
   |some x=>
    obtain⟨z,_,e2,e3⟩:=FW R hc
    simp! only [Option.isSome_some,e2,e3,y7]
  ·simp [aA,cT,cJ,aG,fU,aD,cB,wF,qV,fC,ko,ip,List.replicate,Nat.reduceAdd,Nat.reduceSub,reduceIte,ite_true,ite_false,BEq.rfl,beq_self_eq_true,J,h1]
 ·simp [aA,cT,cJ,aG,fU,aD,cB,wF,qV,fC,ko,ip,List.replicate,Nat.reduceAdd,Nat.reduceSub,reduceIte,ite_true,ite_false,BEq.rfl,beq_self_eq_true,J,h0]
def pR(F:bb)(ho:∀ae,rk ae->∀r c,F "is_open" [fl ae,sp r c]=.ok (.bl (dE ae r c)))(ae:List Str)(R:rk ae)(r c:Int)(h:dE ae r c=true):aA F bq [fl ae,sp r c]=.ok .aH:=by
 simp! only [bq,ho ae R,h]
noncomputable abbrev F1(p:Int×Int):PV:=sp p.1 p.2
theorem dJ{α:Type}{f:PV->Res (Option PV)}{p:α->PV}{g:α->PV}:∀{xs:List α},(∀x∈xs,f (p x)=.ok (some (g x)))->aL f (xs.map p)=.ok (xs.map g)
 |[],_=>rfl
 |x::xs,h=>by
  simp! [zzF,aL,h x (zzP ..),Res.well,Res.bind,dJ (xs:=xs) λy hy=>h y (zzI _ hy),oc]
def pC{ae:List Str}{r c:Int}:dE ae r c=true↔0<=r/\0<=c/\DN ae r.toNat c.toNat=true:=by
 simp! [dE,zza,zzN,and_assoc]
theorem gJ{body:PV->Sl->Res Fl}{P:Nat->Sl->Prop}:∀(xs:List PV) (k:Nat) (env:Sl),P k env->(∀i x env,xs[i]?=some x->P (k+i) env->∃av,body x env=.ok (.nx av)/\P (k+i+1) av)->∃av,forL body xs env=.ok (.nx av)/\P (k+xs.length) av
 |[],k,env,h,_=>⟨env,rfl,h⟩
 |x::xs,k,env,h,g=>by
  obtain⟨e1,b1,p1⟩:=g 0 x env rfl h
  obtain⟨e2,b2,p2⟩:=gJ xs (k+1) e1 p1 λi y env hy hp=>by
   obtain⟨e3,b3,p3⟩:=g (i+1) y env hy (by rw [show k+(i+1)=k+1+i by omega];exact hp)
   exact⟨e3,b3,by rw [show k+1+i+1=k+(i+1)+1 by omega];exact p3⟩
  refine⟨e2,?_,by rw [zzL,show k+(xs.length+1)=k+1+xs.length by omega];exact p2⟩;simp! [forL,b1,qr,b2]
def AJ{n i:Nat}{x:PV}(h:(gr 0 n)[i]?=some x):i<n/\x=.int (i:Int):=by
 simp! [gr,zzQ,zzJ] at h;obtain⟨j,hj,rfl⟩:=h
 obtain⟨h1,h2⟩:=zzH.1 hj
 simp! [List.getElem_range] at h2;subst h2;simp! [List.length_range] at h1;exact⟨h1,by simp⟩
def jV(F:bb):Prop:=∀(ns:List Int) (k q:Int),0<=k->0<q->∃m,F "_law_pick" [cX ns,.int k,.int q]=.ok (.int m)/\0<=m/\m<q
def qh{a b c d m:Int}(h0:0<=m)(h1:m<4):∃v,bg (.lst [.int a,.int b,.int c,.int d]) (.int m)=.ok (.int v)/\(v=a\/v=b\/v=c\/v=d):=by
 have:m=0\/m=1\/m=2\/m=3:=by omega
 rcases this with rfl|rfl|rfl|rfl
 ·exact⟨a,rfl,.inl rfl⟩
 ·exact⟨b,rfl,.inr (.inl rfl)⟩
 ·exact⟨c,rfl,.inr (.inr (.inl rfl))⟩
 ·exact⟨d,rfl,.inr (.inr (.inr rfl))⟩
noncomputable def FH:Ss:=#v[.set 11 (.call "_law_pick" #v[!0,.bin .add (.bin .add (.bin .add (!1) (¬4)) (.bin .mul (!2) (!8))) (!10),.bin .mul (¬12) (!6)]),.set 9 (.bin .add (!9) (.ite (.cmp .lt (.bin .mod (!11) (¬12)) (!5)) (.cst (.str "#")) (.blt .str #v[.bin .fdiv (!11) (¬12)])))]
noncomputable def Hf:Ss:=#v[.set 9 (.cst (.str "")),.da (.one 10) (.pH (!4)) FH,.app 7 (!9)]
structure Fl(ae:List Str)(w:Nat):Prop where
 Cr:rk ae
 ne:0<ae.length
 w1:1<=w
 M3:∀z∈ae,z.length=w
 dig:∀z∈ae,∀x∈z.cps.toList,x=35\/(48<=x/\x<=57)
def Ec{v:Int}(h0:0<=v)(h1:v<10):dD .str [.int v]=.ok (.str ⟨#[48+v.toNat]⟩):=by
 obtain⟨n,rfl⟩:=zzw h0
 have key:∀k:Fin 10,(((k.1:Nat):Int).natAbs.log2<1920)/\((toString ((k.1:Nat):Int)):Str)=⟨#[48+k.1]⟩:=by decide+kernel
 have k:=key ⟨n,Int.ofNat_lt.1 h1⟩
 show(if _ then Res.ok (PV.str _) else _)=_
 rw [if_pos k.1,zz4,k.2]
def C9{x:Nat}(h0:48<=x)(h1:x<=57):dD .int [.str ⟨#[x]⟩]=.ok (.int ((x:Int)-48)):=by
 have key:∀k:Fin 10,PySem.intText? (⟨#[48+k.1]⟩:Str)=some (((48+k.1:Nat):Int)-48):=by decide+kernel
 obtain⟨k,rfl⟩:=Nat.exists_eq_add_of_le h0
 have e:=key ⟨k,Nat.lt_succ_of_le (Nat.le_of_add_le_add_left (a:=48) h1)⟩
 show(if(⟨#[48+k]⟩:Str).length<=640 then(Res.of (PySem.intText? (⟨#[48+k]⟩:Str))).bind λn=>Res.ok (PV.int n) else .bad)=_
 rw [if_pos (show(⟨#[48+k]⟩:Str).length<=640 from(by show 1<=640;decide)),e]
 rfl
def Jw(F:bb)(hp:jV F)(ns:List Int)(q a b sh tp:Int)(UM:0<=q)(RZ:q<=6)(h1:1<=tp)(h2:tp<=10)(own:PV)(i n:Nat)(hn:n<=6)(s10 s11:Ci.Slot):
 ∃(z:Str) (Gw Gq:Ci.Slot),z.length=n/\(∀x∈z.cps.toList,x=35\/(48<=x/\x<=57))/\forL (λx env=>((Tg.one 10).put x env).bind λav=>aG F FH av) (gr 0 n) [.val (cX ns),.val (.int 0),.val (.int q),.val (.int a),.val (.int b),.val (.int sh),.val (.int tp),.own own,.val (.int i),.val (.str ""),s10,s11]=
  .ok (.nx [.val (cX ns),.val (.int 0),.val (.int q),.val (.int a),.val (.int b),.val (.int sh),.val (.int tp),.own own,.val (.int i),.val (.str z),Gw,Gq]):=by
 obtain⟨av,e,z,Gw,Gq,hz,hd,rfl⟩:=gJ (body:=λx env=>((Tg.one 10).put x env).bind λav=>aG F FH av) (P:=λj env=>∃(z:Str) (Gw Gq:Ci.Slot),z.length=j/\(∀x∈z.cps.toList,x=35\/(48<=x/\x<=57))/\env=[.val (cX ns),.val (.int 0),.val (.int q),.val (.int a),.val (.int b),.val (.int sh),.val (.int tp),.own own,.val (.int i),.val (.str z),Gw,Gq]) (gr 0 n) 0 [.val (cX ns),.val (.int 0),.val (.int q),.val (.int a),.val (.int b),.val (.int sh),.val (.int tp),.own own,.val (.int i),.val (.str ""),s10,s11] ⟨_,_,_,by decide+kernel,by decide+kernel,rfl⟩ (by
  intro j x env hx hq;obtain⟨hj,rfl⟩:=AJ hx
  obtain⟨z,Gw,Gq,hz,hd,rfl⟩:=hq
  obtain⟨m,em,m0,m1⟩:=hp ns (0+4+q*(i:Int)+(j:Int)) (12*tp) (by
   have:=Int.mul_nonneg UM (Int.natCast_nonneg i)
   omega) (by omega)
  have q1:(aN q||aN (i:Int))=true:=by
   have:aN q=true:=by simp! [aN,zza,zzN];omega
   rw [this];rfl
  have q2:(aN 12||aN tp)=true:=by rw [zzt];exact .inl (by decide)
  have q3:(0:Int)<12:=by decide
  have q4:(0:Int)<12/\(12:Int)<1073741824:=by decide
  have ew:=Ec (v:=m/12) (by omega) (by omega)
  have QO:(("#":Str))=⟨#[35]⟩:=by decide+kernel
  by_cases hm:m%12<sh
  ·refine⟨[.val (cX ns),.val (.int 0),.val (.int q),.val (.int a),.val (.int b),.val (.int sh),.val (.int tp),.own own,.val (.int i),.val (.str (z++"#")),.val (.int j),.val (.int m)],?_,_,_,_,?_,?_,rfl⟩
   ·have l:z.length+(("#":Str)).length<=fF:=zzU (show _<=8 by rw [QO];show z.length+1<=8;omega) (by decide)
    simp! only [FH,q1,q2,q3,q4,em,hm,decide_true,l,and_self]
   ·rw [Str.length_append,QO];show z.length+1=_;omega
   ·rw [QO];show∀x∈(z.cps++#[35]).toList,_;intro x hx;simp! [Array.toList_append,List.mem_append,zzi] at hx;rcases hx with hx|hx
    ·exact hd x hx
    ·exact .inl hx
  ·refine⟨[.val (cX ns),.val (.int 0),.val (.int q),.val (.int a),.val (.int b),.val (.int sh),.val (.int tp),.own own,.val (.int i),.val (.str (z++⟨#[48+(m/12).toNat]⟩)),.val (.int j),.val (.int m)],?_,_,_,_,?_,?_,rfl⟩
   ·have l:z.length+(⟨#[48+(m/12).toNat]⟩:Str).length<=fF:=zzU (show z.length+1<=8 by omega) (by decide)
    simp! only [FH,q1,q2,q3,q4,em,hm,decide_false,l,and_self,ew]
   ·rw [Str.length_append];show z.length+1=_;omega
   ·show∀x∈(z.cps++#[48+(m/12).toNat]).toList,_
    intro x hx;simp! [Array.toList_append,List.mem_append,zzi] at hx;rcases hx with hx|hx
    ·exact hd x hx
    ·exact .inr (by omega))
 refine⟨z,Gw,Gq,?_,hd,e⟩
 simpa [gr] using hz
def yn(F:bb)(hp:jV F)(ns:List Int)(q:Int)(Cg:1<=q)(RZ:q<=6):∃ae w,Fl ae w/\aA F bV [cX ns,.int 0,.int q]=.ok (fl ae):=by
 obtain⟨a,ea,a0,a6⟩:=hp ns 0 q (by decide) (by omega)
 obtain⟨b,eb,b0,b6⟩:=hp ns (0+1) q (by decide) (by omega)
 obtain⟨c,ec,c0,c4⟩:=hp ns (0+2) 4 (by decide) (by decide)
 obtain⟨d,ed,d0,d4⟩:=hp ns (0+3) 4 (by decide) (by decide)
 obtain⟨sh,es,hs⟩:=qh (a:=0) (b:=2) (c:=4) (d:=6) c0 c4
 obtain⟨tp,et,ht⟩:=qh (a:=1) (b:=2) (c:=3) (d:=10) d0 d4
 have t1:1<=tp:=by omega
 have t2:tp<=10:=by omega
 have sa:aV (1+a)=true:=by simp! [aV,zza,zzN];omega
 have sb:aV (1+b)=true:=by simp! [aV,zza,zzN];omega
 obtain⟨av,e,ae,s8,s9,s10,s11,hl,hr,hd,rfl⟩:=gJ (body:=λx env=>((Tg.one 8).put x env).bind λav=>aG F Hf av)
  (P:=λi env=>∃(ae:List Str) (s8 s9 s10 s11:Ci.Slot),ae.length=i/\(∀z∈ae,z.length=(1+b).toNat)/\(∀z∈ae,∀x∈z.cps.toList,x=35\/(48<=x/\x<=57))/\env=[.val (cX ns),.val (.int 0),.val (.int q),.val (.int (1+a)),.val (.int (1+b)),.val (.int sh),.val (.int tp),.own (.lst (ae.map .str)),s8,s9,s10,s11])
  (gr 0 (1+a).toNat) 0 [.val (cX ns),.val (.int 0),.val (.int q),.val (.int (1+a)),.val (.int (1+b)),.val (.int sh),.val (.int tp),.own (.lst []),.no,.no,.no,.no] ⟨[],_,_,_,_,rfl,(λz hz=>by cases hz),(λz hz=>by cases hz),rfl⟩ (by
  intro i x env hx hq;obtain⟨hi,rfl⟩:=AJ hx
  obtain⟨ae,s8,s9,s10,s11,hl,hr,hd,rfl⟩:=hq
  obtain⟨z,Gw,Gq,hz,hzd,e⟩:=Jw F hp ns q (1+a) (1+b) sh tp (by omega) RZ t1 t2 (.lst (ae.map .str)) i (1+b).toNat (by omega) s10 s11
  have l:(ae.map PV.str).length<fF:=zzV (m:=6) (by simp! [zzl];omega) (by decide)
  refine⟨[.val (cX ns),.val (.int 0),.val (.int q),.val (.int (1+a)),.val (.int (1+b)),.val (.int sh),.val (.int tp),.own (.lst ((ae++[z]).map .str)),.val (.int i),.val (.str z),Gw,Gq],?_,ae++[z],_,_,_,_,by simp;omega,?_,?_,rfl⟩
  ·have e':=e
   simp! only [FH] at e';simp! [zzl] at l;simp! only [Hf,FH,sb,e',zzl,l,List.map_append]
  ·intro y hy;simp! [List.mem_append,zzi] at hy;rcases hy with hy|rfl
   ·exact hr y hy
   ·exact hz
  ·intro y hy;simp! [List.mem_append,zzi] at hy;rcases hy with hy|rfl
   ·exact hd y hy
   ·exact hzd)
 have oJ:ae.length=(1+a).toNat:=by simpa [gr] using hl
 refine⟨ae,(1+b).toNat,⟨⟨by omega,λz hz=>by rw [hr z hz];omega⟩,by omega,by omega,hr,hd⟩,?_⟩
 simp! only [Hf,FH] at e;simp! only [bV,bV,ea,eb,ec,ed,es,et,sa,e]
noncomputable def dw(ae:List Str)(r c:Int):Int:=match cd ae r.toNat c.toNat with
 |some x=>(x:Int)-48
 |none=>0
def Ax{ae:List Str}{r c:Int}(h:dE ae r c=true):∃(i j x:Nat),r=i/\c=j/\cd ae i j=some x/\x≠35:=by
 obtain⟨h0,h1,h2⟩:=pC.1 h
 obtain⟨i,rfl⟩:=zzw h0
 obtain⟨j,rfl⟩:=zzw h1
 simp! [zz4,DN] at h2;cases hc:cd ae i j with
 |none=>rw [hc] at h2;cases h2
 |some x=>
  rw [hc] at h2;exact⟨i,j,x,rfl,rfl,hc,by simpa using h2⟩
def J0{ae:List Str}{w:Nat}(L:Fl ae w){i j x:Nat}(h:cd ae i j=some x):x=35\/(48<=x/\x<=57):=by
 unfold cd at h;cases hz:ae[i]? with
 |none=>rw [hz] at h;cases h
 |some z=>
  rw [hz] at h;exact L.dig z (zzD hz) x (zzD h)
def uu{ae:List Str}{w:Nat}(L:Fl ae w){r c:Int}(h:dE ae r c=true):∃z x,bg (fl ae) (.int r)=.ok (.str z)/\bg (.str z) (.int c)=.ok (.str ⟨#[x]⟩)/\dD .int [.str ⟨#[x]⟩]=.ok (.int (dw ae r c))/\0<=dw ae r c/\dw ae r c<=9:=by
 obtain⟨i,j,x,rfl,rfl,hc,hx⟩:=Ax h
 obtain⟨z,_,e1,e2⟩:=FW L.Cr hc
 have hd:=(J0 L hc).resolve_left hx
 have hh:dw ae i j=(x:Int)-48:=by simp! [dw,zz4,hc]
 refine⟨z,x,e1,e2,?_,?_⟩
 ·rw [hh];exact C9 hd.1 hd.2
 ·rw [hh];omega
noncomputable def dB(ae:List Str)(sl:Bool)(cl pr:Int)(r c r' c':Int):Option Int:=
 if(r=r'/\c=c')\/1<r-r'\/1<r'-r\/1<c-c'\/1<c'-c then none
 else if(r≠r'/\c≠c')/\¬(sl=true/\dE ae r c'=true/\dE ae r' c=true) then none
 else if cl<dw ae r' c'-dw ae r c\/cl<dw ae r c-dw ae r' c' then none
 else some ((if r≠r'/\c≠c' then 3 else 2)+pr*(if dw ae r' c'-dw ae r c>0 then dw ae r' c'-dw ae r c else 0))
noncomputable def oP:Option Int->PV
 |none=>.aH
 |some i=>.int i
def iL(r c r' c':Int):Prop:=(r=r'/\c=c')\/1<r-r'\/1<r'-r\/1<c-c'\/1<c'-c
noncomputable instance(r c r' c':Int):Decidable (iL r c r' c'):=by unfold iL;infer_instance
def yl(F:bb)(r c r' c':Int):aA F cy [sp r c,sp r' c']=.ok (.bl (!decide (iL r c r' c'))):=by
 simp! only [cy,Mm,Le,aI,nS];have key:∀(a b d:Bool),(Res.ok (PV.bl a)).bind (λx=>pB x λt=>if t then(Res.ok (PV.bl b)).bind (λx=>pB x λt=>if t then Res.ok (PV.bl d) else Res.ok (PV.bl false)) else Res.ok (PV.bl false))=Res.ok (PV.bl (a&&(b&&d))):=by
  intro a b d;cases a<;>cases b<;>cases d<;>rfl
 by_cases h1:r=r'/\c=c'
 ·obtain⟨rfl,rfl⟩:=h1
  have:iL r c r c:=.inl ⟨rfl,rfl⟩
  simp [aA,cT,cJ,aG,fU,aD,cB,wF,qV,fC,ko,ip,List.replicate,Nat.reduceAdd,Nat.reduceSub,reduceIte,ite_true,ite_false,BEq.rfl,beq_self_eq_true,J,this]
 ·have b1:(!((r==r')&&((c==c')&&true)))=true:=by
   cases hh:((r==r')&&((c==c')&&true)) with
   |false=>rfl
   |true=>exact absurd (by simpa using hh) h1
  simp! only [b1]
  by_cases h2:(if r-r'<0 then -(r-r') else r-r')<=1
  ·by_cases h3:(if c-c'<0 then -(c-c') else c-c')<=1
   ·have:¬iL r c r' c':=by
     rintro (h|h|h|h|h)
     ·exact h1 h
     all_goals (split at h2<;>split at h3<;>omega)
    simp! only [h2,h3,this,decide_true,decide_false]
   ·have:iL r c r' c':=by
     unfold iL;split at h3<;>omega
    simp! only [h2,h3,this,decide_true,decide_false]
  ·have:iL r c r' c':=by
    unfold iL;split at h2<;>omega
   simp! only [h2,this,decide_true,decide_false]
def ua(F:bb):Prop:=∀ae,rk ae->∀r c,F "is_open" [fl ae,sp r c]=.ok (.bl (dE ae r c))
def ya(F:bb)(hn:∀ae,rk ae->∀r c,dE ae r c=true->F "need_open" [fl ae,sp r c]=.ok .aH){ae:List Str}{w:Nat}(L:Fl ae w){r c:Int}(h:dE ae r c=true):aA F cN [fl ae,sp r c]=.ok (.int (dw ae r c)):=by
 obtain⟨z,x,e1,e2,e3,_⟩:=uu L h
 simp! only [cN,hn ae L.Cr r c h,Mm,Le,e1,e2,e3]
def tU(F:bb)(ho:ua F){ae:List Str}(R:rk ae)(r c r' c':Int):aA F bj [fl ae,sp r c,sp r' c']=.ok (.bl (dE ae r c'&&dE ae r' c)):=by
 simp! only [bj,Mm,Le,ho ae R];cases dE ae r c'<;>simp! only [Bool.false_and,Bool.true_and]
def yF{i j:Int}(h0:0<=i)(h1:i<4):(aN i||aN j)=true:=by
 have:aN i=true:=by simp! [aN,zza,zzN];omega
 rw [this];rfl
structure Wk(cl pr:Int):Prop where
 c0:0<=cl
 p0:0<=pr
 p4:pr<4
 c9:cl<=9
def DI(F:bb)(hb:∀r c r' c',F "are_beside" [sp r c,sp r' c']=.ok (.bl (!decide (iL r c r' c'))))(hk:∀ae,rk ae->∀r c r' c',F "has_open_corners" [fl ae,sp r c,sp r' c']=.ok (.bl (dE ae r c'&&dE ae r' c)))
 (hh:∀ae w,Fl ae w->∀r c,dE ae r c=true->F "height_at" [fl ae,sp r c]=.ok (.int (dw ae r c))) {ae:List Str} {w:Nat} (L:Fl ae w) {sl:Bool} {cl pr:Int} (V:Wk cl pr) {r c r' c':Int} (h:dE ae r c=true) (h':dE ae r' c'=true):
 aA F bt [fl ae,wk sl cl pr,sp r c,sp r' c']=.ok (oP (dB ae sl cl pr r c r' c')):=by
 have e1:=hh ae w L r c h
 have e2:=hh ae w L r' c' h'
 have e3:=hk ae L.Cr r c r' c'
 have e4:=hb r c r' c'
 by_cases h1:iL r c r' c'
 ·have:dB ae sl cl pr r c r' c'=none:=if_pos h1
  simp! only [bt,e4,h1,decide_true,this,oP]
 ·have q1:dB ae sl cl pr r c r' c'=_:=if_neg h1
  rw [q1];have ms:=λj=>yF (j:=j) V.p0 V.p4
  obtain⟨s,hs⟩:∃s,((!(r==r'))&&!(c==c'))=s:=⟨_,rfl⟩
  have Ou:s=true↔r≠r'/\c≠c':=by rw [<-hs];simp
  have ia:∀{t u:Bool},(if t=true then Res.ok (PV.bl u) else Res.ok (PV.bl false))=Res.ok (PV.bl (t&&u)):=λ{t u}=>by cases t<;>rfl
  have ii:(if s=true then Res.ok (PV.int 3) else Res.ok (PV.int 2))=Res.ok (PV.int (if r≠r'/\c≠c' then 3 else 2)):=by
   by_cases n3:r≠r'/\c≠c'
   ·rw [if_pos (Ou.2 n3),if_pos n3]
   ·rw [if_neg (λz=>n3 (Ou.1 z)),if_neg n3]
  have mx:(if(0:Int)>dw ae r' c'-dw ae r c then 0 else dw ae r' c'-dw ae r c)=(if dw ae r' c'-dw ae r c>0 then dw ae r' c'-dw ae r c else 0):=by
   split<;>split<;>omega
  have cc:(if sl=true then Res.ok (PV.bl (dE ae r c'&&dE ae r' c)) else Res.ok (PV.bl false))=Res.ok (PV.bl (sl&&(dE ae r c'&&dE ae r' c))):=ia
  by_cases hblk:(r≠r'/\c≠c')/\¬(sl=true/\dE ae r c'=true/\dE ae r' c=true)
  ·rw [if_pos hblk];have hB:(!(sl&&(dE ae r c'&&dE ae r' c)))=true:=by
    rw [Bool.not_eq_true',Bool.eq_false_iff];intro z;rw [zza,zza] at z;exact hblk.2 z
   simp! only [bt,e4,e3,h1,decide_false,ia,hs,Ou.2 hblk.1,hB,Bool.and_self,oP]
  ·rw [if_neg hblk];have hB:(s&&!(sl&&(dE ae r c'&&dE ae r' c)))=false:=by
    rw [Bool.eq_false_iff];intro z;rw [zza,Bool.not_eq_true',Bool.eq_false_iff] at z;exact hblk ⟨Ou.1 z.1,λy=>z.2 (by rw [zza,zza];exact y)⟩
   by_cases hq:cl<(if dw ae r' c'-dw ae r c<0 then -(dw ae r' c'-dw ae r c) else dw ae r' c'-dw ae r c)
   ·have hz:cl<dw ae r' c'-dw ae r c\/cl<dw ae r c-dw ae r' c':=by split at hq<;>omega
    simp! only [bt,e4,e3,e1,e2,h1,decide_false,ia,hs,hB,oP,hq,decide_true,if_pos hz]
   ·have hz:¬(cl<dw ae r' c'-dw ae r c\/cl<dw ae r c-dw ae r' c'):=by split at hq<;>omega
    simp! only [bt,e4,e3,e1,e2,h1,decide_false,ia,hs,hB,oP,hq,if_neg hz,ii,ms,mx]
def Hl{ae:List Str}{w:Nat}(L:Fl ae w){r c:Int}(h:dE ae r c=true):0<=r/\r<ae.length/\0<=c/\c<w:=by
 obtain⟨i,j,x,rfl,rfl,hc,_⟩:=Ax h
 unfold cd at hc;cases hz:ae[i]? with
 |none=>rw [hz] at hc;cases hc
 |some z=>
  rw [hz] at hc;have h1:=(zzH.1 hz).1
  have h2:=(zzH.1 hc).1
  have hl:=L.M3 _ (zzD hz)
  simp! [zzd] at h2;have:z.cps.size=z.length:=rfl
  omega
noncomputable abbrev kN(p:Nat×Nat):List Int:=[(p.1:Int),(p.2:Int)]
abbrev Up(L:List (Nat×Nat)):Prop:=L.Pairwise λp q=>HT.lexLt (kN p) (kN q)=true
def Ai:Up []:=.nil
def Rv{p q:Nat×Nat}(h:p.1<q.1\/p.1=q.1/\p.2<q.2):HT.lexLt (kN p) (kN q)=true:=by
 simp! [HT.lexLt];rcases h with h|⟨h1,h2⟩
 ·rw [if_neg (by omega)];exact zzh (by omega)
 ·rw [if_pos (by omega),if_neg (by omega)];exact zzh (by omega)
noncomputable abbrev Jm(p:Nat×Nat):PV:=sp p.1 p.2
theorem vD:∀{xs:List PV} {k i:Nat} {x:PV},(cC k xs)[i]?=some x->∃y,xs[i]?=some y/\x=.tup [.int ((k+i:Nat):Int),y]
 |[],_,_,_,h=>by cases h
 |y::ys,k,0,x,h=>by
  simp! [cC,List.getElem?_cons_zero,Option.some.injEq] at h;exact⟨y,rfl,h.symm⟩
 |y::ys,k,i+1,x,h=>by
  simp! [cC,List.getElem?_cons_succ] at h;obtain⟨w,h1,h2⟩:=vD h
  refine⟨w,h1,?_⟩;rw [h2,show k+1+i=k+(i+1) by omega]
theorem cW:∀(xs:List PV) (k:Nat),(cC k xs).length=xs.length
 |[],_=>rfl
 |x::xs,k=>by simp! [cC,zzL,cW xs]
theorem si{f:PV->Res (Option PV)}{r:Nat}(hf:∀c x:Nat,f (.tup [.int c,.str ⟨#[x]⟩])=.ok (if x !=35 then some (sp r c) else none)):∀(xs:List Nat) (k:Nat),∃L:List (Nat×Nat),aL f (cC k (xs.map λx=>.str ⟨#[x]⟩))=.ok (L.map Jm)/\Up L/\L.length<=xs.length/\∀a b,(a,b)∈L↔a=r/\k<=b/\∃x,xs[b-k]?=some x/\x≠35
 |[],k=>⟨[],rfl,Ai,zzE _,λa b=>by simp⟩
 |x::xs,k=>by
  obtain⟨L,e,nd,l,h⟩:=si hf xs (k+1)
  by_cases hx:x=35
  ·refine⟨L,?_,nd,Nat.le_succ_of_le l,λa b=>?_⟩
   ·have:(x !=35)=false:=by simp [hx]
    simp! [zzF,cC,aL,hf,this,NZ,qr,e,oc]
    rfl
   ·rw [h]
    constructor
    ·rintro ⟨h1,h2,y,h3,h4⟩
     refine⟨h1,by omega,y,?_,h4⟩;rw [show b-k=(b-(k+1))+1 by omega];exact h3
    ·rintro ⟨h1,h2,y,h3,h4⟩
     have:b≠k:=by
      rintro rfl
      simp at h3;omega
     refine⟨h1,by omega,y,?_,h4⟩;rw [show b-k=(b-(k+1))+1 by omega] at h3;exact h3
  ·refine⟨(r,k)::L,?_,List.pairwise_cons.2 ⟨(λp hp=>Rv (by have:=(h p.1 p.2).1 hp;omega)),nd⟩,Nat.succ_le_succ l,λa b=>?_⟩
   ·have:(x !=35)=true:=by simp [hx]
    simp! [zzF,cC,aL,hf,this,NZ,qr,e,oc,if_true]
   ·rw [zzm,h]
    constructor
    ·rintro (h1|⟨h1,h2,y,h3,h4⟩)
     ·cases h1;exact⟨rfl,zzE _,x,by simp,hx⟩
     ·refine⟨h1,by omega,y,?_,h4⟩;rw [show b-k=(b-(k+1))+1 by omega];exact h3
    ·rintro ⟨h1,h2,y,h3,h4⟩
     by_cases hb:b=k
     ·subst hb;subst h1;exact .inl rfl
     ·refine .inr ⟨h1,by omega,y,?_,h4⟩;rw [show b-k=(b-(k+1))+1 by omega] at h3;exact h3
def vq{ae:List Str}{r c:Nat}:DN ae r c=true↔∃z,ae[r]?=some z/\∃x,z.cps.toList[c]?=some x/\x≠35:=by
 unfold DN cd;cases hz:ae[r]? with
 |none=>simp
 |some z=>
  simp! [Option.bind_some];cases hx:z.cps.toList[c]? with
  |none=>
   refine⟨(λh=>by cases h),?_⟩
   rintro ⟨w,hw,x,ve,_⟩
   cases hw;rw [hx] at ve;cases ve
  |some x=>
   refine⟨λh=>⟨z,rfl,x,hx,by simpa using h⟩,?_⟩
   rintro ⟨w,hw,y,hy,h⟩
   cases hw;rw [hx] at hy;cases hy
   simpa using h
noncomputable def zE:Ss:=#v[.ni 1 (.cG 2 [2] (.two 0 1) (.enum (!3)) (.cmp .ne (!1) (.cst (.str "#"))) (.tup #v[!2,!0]))]
def CG(F:bb):Prop:=∀ae,rk ae->∃L:List (Nat×Nat),F "_law_spots" [fl ae]=.ok (.lst (L.map Jm))/\Up L/\L.length<=36/\∀r c,(r,c)∈L↔DN ae r c=true
def zl(F:bb)(ae:List Str)(R:rk ae):∃L:List (Nat×Nat),aA F cA [fl ae]=.ok (.lst (L.map Jm))/\Up L/\L.length<=36/\∀r c,(r,c)∈L↔DN ae r c=true:=by
 have UX:=R.1
 obtain⟨av,e,L,s2,s3,nd,hl,hm,rfl⟩:=gJ (body:=λx env=>((Tg.two 2 3).put x env).bind λav=>aG F zE av) (P:=λi env=>∃(L:List (Nat×Nat)) (s2 s3:Slot),Up L/\L.length<=6*i/\(∀r c,(r,c)∈L↔r<i/\DN ae r c=true)/\env=[.val (fl ae),.own (.lst (L.map Jm)),s2,s3])
  (cC 0 (ae.map .str)) 0 [.val (fl ae),.own (.lst []),.no,.no] ⟨[],_,_,Ai,zzE _,(λr c=>by simp),rfl⟩ (by
  intro i x env hx hq;obtain⟨y,hy,rfl⟩:=vD hx
  obtain⟨L,s2,s3,nd,hl,hm,rfl⟩:=hq
  simp! [zzQ,zzJ] at hy;obtain⟨z,hz,rfl⟩:=hy
  have MY:=R.2 z (zzD hz)
  have hi:i<ae.length:=(zzH.1 hz).1
  obtain⟨M,eM,nM,lM,hM⟩:=si (f:=λx=>((Tg.two 0 1).put x [.no,.no,.val (.int i)]).bind λav=>((og av[1]?).bind λx=>gy x (.str "#")).bind λt=>pB t λt=>if t then(((og av[2]?).bind λp=>((og av[0]?).bind λp=>.ok [p]).bind λps=>.ok (p::ps)).bind λps=>.ok (.tup ps)).bind λy=>.ok (some y) else .ok none) (r:=i) (λc x=>by
   simp! only [y7];cases(x !=35)<;>rfl) z.cps.toList 0
  have lz:(cC 0 (chars z)).length<fF:=by
   rw [cW];refine zzV (m:=6) ?_ (by decide)
   simpa [chars,Str.length] using MY
  have ll:(L.map Jm).length+(M.map Jm).length<=fF:=by
   refine zzU (m:=100) ?_ (by decide);simp! [zzl];have:z.cps.toList.length=z.length:=by simp [Str.length]
   omega
  refine⟨[.val (fl ae),.own (.lst ((L++M).map Jm)),.val (.int i),.val (.str z)],?_,L++M,_,_,List.pairwise_append.2 ⟨nd,nM,λa ha b hb=>Rv (.inl (by have h1:=((hm a.1 a.2).1 ha).1;have h2:=((hM b.1 b.2).1 hb).1;omega))⟩,?_,?_,rfl⟩
  ·simp! only [zE,NP,Nat.zero_add,lz];rw [show chars z=z.cps.toList.map λx=>PV.str ⟨#[x]⟩ from rfl,eM]
   simp! only [ll,List.map_append]
  ·have:z.cps.toList.length=z.length:=by simp [Str.length]
   simp! [zzM];omega
  ·intro r c;rw [List.mem_append,hm,hM,vq]
   constructor
   ·rintro (⟨h1,h2⟩|⟨rfl,_,x,h3,h4⟩)
    ·exact⟨by omega,h2⟩
    ·exact⟨by omega,z,hz,x,h3,h4⟩
   ·rintro ⟨h1,w,h2,x,h3,h4⟩
    by_cases hr:r=i
    ·subst hr;rw [hz] at h2;cases h2;exact .inr ⟨rfl,Nat.zero_le _,x,h3,h4⟩
    ·exact .inl ⟨by omega,w,h2,x,h3,h4⟩)
 refine⟨L,?_,nd,(by rw [cW,zzl] at hl;omega),λr c=>?_⟩
 ·simp! only [zE] at e;simp! only [cA,NN,e,List.modify_succ_cons,List.modify_zero_cons,KO]
 ·rw [hm];refine⟨λh=>h.2,λh=>⟨?_,h⟩⟩
  obtain⟨z,hz,_⟩:=vq.1 h
  have:=(zzH.1 hz).1
  rw [cW,zzl];omega
def xF(F:bb)(hp:jV F)(ns:List Int)(k:Int)(hk:0<=k):∃sl cl pr,Wk cl pr/\aA F bZ [cX ns,.int k]=.ok (wk sl cl pr):=by
 obtain⟨a,ea,a0,a2⟩:=hp ns k 2 hk (by decide)
 obtain⟨b,eb,b0,b4⟩:=hp ns (k+1) 4 (by omega) (by decide)
 obtain⟨c,ec,c0,c4⟩:=hp ns (k+2) 4 (by omega) (by decide)
 obtain⟨v,ev,hv⟩:=qh (a:=0) (b:=1) (c:=2) (d:=9) b0 b4
 refine⟨(a==0),v,c,⟨by omega,c0,c4,by omega⟩,?_⟩;simp! only [bZ,ea,eb,ec,ev]
theorem iW{α σ:Type}{body:PV->Sl->Res Ci.Fl}{g:α->PV}{mk:List PV->σ->Sl}{app:α->List PV}{m M:Nat}:∀(l:List α) (acc:List PV) (s:σ),(∀a∈l,(app a).length<=m)->(∀a∈l,∀acc s,acc.length+m<=M->∃s',body (g a) (mk acc s)=.ok (.nx (mk (acc++app a) s')))->acc.length+m*l.length<=M->∃s',forL body (l.map g) (mk acc s)=.ok (.nx (mk (acc++l.flatMap app) s'))
 |[],acc,s,_,_,_=>⟨s,by simp [forL]⟩
 |a::l,acc,s,h1,h2,h3=>by
  have ha:=h1 a (zzP ..)
  rw [zzL,Nat.mul_succ] at h3;obtain⟨s1,e1⟩:=h2 a (zzP ..) acc s (by omega)
  obtain⟨s2,e2⟩:=iW l (acc++app a) s1 (λb hb=>h1 b (zzI _ hb)) (λb hb=>h2 b (zzI _ hb)) (by rw [zzM];omega)
  refine⟨s2,?_⟩;simp! [zzF,forL,e1,qr,e2,List.flatMap_cons,List.append_assoc]
noncomputable def gv(x:Int):List Int:=[x-1+(0:Nat),x-1+(1:Nat),x-1+(2:Nat)]
def Ls(x:Int):gr (x-1) (x+2-(x-1)).toNat=(gv x).map .int:=by
 rw [show(x+2-(x-1)).toNat=3 by omega]
 rfl
noncomputable def oI:Ss:=#v[.ite (.and (.cmp .ne (.tup #v[!3,!4]) (!1)) (.call "is_open" #v[!0,.tup #v[!3,!4]])) #v[.app 2 (.tup #v[!3,!4])] .nil]
noncomputable def oO:Ss:=#v[.da (.one 4) (.o9 (.bin .sub (.sub (!1) (¬1)) (¬1)) (.bin .add (.sub (!1) (¬1)) (¬2))) oI]
noncomputable def Co(ae:List Str)(r c r' c':Int):Bool:=!((r'==r)&&((c'==c)&&true))&&dE ae r' c'
noncomputable def q8(ae:List Str)(r c r':Int):List (Int×Int):=(gv c).flatMap λc'=>if Co ae r c r' c' then [(r',c')] else []
noncomputable def qc(ae:List Str)(r c:Int):List (Int×Int):=(gv r).flatMap (q8 ae r c)
def jd(ae:List Str)(r c r':Int):(q8 ae r c r').length<=3:=by
 have:∀c',(if Co ae r c r' c' then [(r',c')] else []).length<=1:=λc'=>by split<;>simp
 simp! [q8,gv,List.flatMap_cons,List.flatMap_nil,zzM,List.length_nil];have h1:=this (c-1+(0:Nat));have h2:=this (c-1+(1:Nat));have h3:=this (c-1+(2:Nat))
 omega
def qU(ae:List Str)(r c:Int):(qc ae r c).length<=9:=by
 simp! [qc,gv,List.flatMap_cons,List.flatMap_nil,zzM,List.length_nil];have h1:=jd ae r c (r-1+(0:Nat));have h2:=jd ae r c (r-1+(1:Nat));have h3:=jd ae r c (r-1+(2:Nat))
 omega
def mj{ae:List Str}{r c r' c':Int}:(r',c')∈qc ae r c↔¬iL r c r' c'/\dE ae r' c'=true:=by
 have hn:∀x y:Int,y∈gv x↔¬1<x-y/\¬1<y-x:=by
  intro x y;simp! [gv,zzm,List.not_mem_nil,or_false];omega
 simp! [qc,q8,List.mem_flatMap,hn]
 constructor
 ·rintro ⟨a,ha,b,hb,h⟩
  split at h
  ·rename_i hk;simp! [zzi,Prod.mk.injEq] at h;obtain⟨rfl,rfl⟩:=h
   simp! [Co,zza,Bool.not_eq_true',Bool.and_true] at hk;refine⟨?_,hk.2⟩;unfold iL;have h1:=hk.1
   rw [Bool.and_eq_false_iff] at h1;simp! [beq_eq_false_iff_ne,ne_eq] at h1;omega
  ·cases h
 ·rintro ⟨hf,ho⟩
  unfold iL at hf;refine⟨r',by omega,c',by omega,?_⟩;have:Co ae r c r' c'=true:=by
   simp! [Co,ho,Bool.and_true,Bool.not_eq_true',Bool.and_eq_false_iff,beq_eq_false_iff_ne,ne_eq];omega
  rw [if_pos this];exact zzi.2 rfl
def lK{r:Int}(h0:0<=r)(h6:r<6):(aV (r-1)&&aV (r+2))=true:=by
 simp! [aV,zza,zzN];omega
def HC(F:bb)(ho:ua F){ae:List Str}(R:rk ae){r c:Int}(S3:0<=r)(hr:r<6)(Um:0<=c)(hc:c<6):
 aA F ba [fl ae,sp r c]=.ok (.lst ((qc ae r c).map F1)):=by
 have inner:∀(r':Int) (acc:List PV) (s4:Ci.Slot),acc.length+3<=50->∃Dp,forL (λx env=>((Tg.one 4).put x env).bind λav=>aG F oI av) ((gv c).map .int) [.val (fl ae),.val (sp r c),.own (.lst acc),.val (.int r'),s4]=.ok (.nx [.val (fl ae),.val (sp r c),.own (.lst (acc++(q8 ae r c r').map F1)),.val (.int r'),Dp]):=by
  intro r' acc s4 hl;obtain⟨s',e⟩:=iW (body:=λx env=>((Tg.one 4).put x env).bind λav=>aG F oI av) (g:=PV.int) (mk:=λacc (s:Ci.Slot)=>[.val (fl ae),.val (sp r c),.own (.lst acc),.val (.int r'),s]) (app:=λc'=>if Co ae r c r' c' then [sp r' c'] else []) (m:=1) (M:=60) (gv c) acc s4 (λc' _=>by split<;>simp) (λc' _ acc s hl=>by
   have l:acc.length<fF:=zzV (m:=60) (by omega) (by decide)
   refine⟨.val (.int c'),?_⟩;cases h1:(!((r'==r)&&((c'==c)&&true))) with
   |false=>simp! only [oI,h1,Co,Bool.false_and,zz6]
   |true=>
    cases h2:dE ae r' c' with
    |false=>simp! only [oI,h1,h2,Co,ho ae R,Bool.and_false,zz6]
    |true=>simp! only [oI,h1,h2,Co,ho ae R,Bool.and_self,l]) (by show acc.length+1*3<=60;omega)
  have k:(gv c).flatMap (λc'=>if Co ae r c r' c' then [sp r' c'] else [])=(q8 ae r c r').map F1:=by
   simp! [q8,List.map_flatMap]
   congr 1
   funext c'
   split<;>rfl
  exact⟨s',by rw [e,k]⟩
 obtain⟨s',e⟩:=iW (body:=λx env=>((Tg.one 3).put x env).bind λav=>aG F oO av) (g:=PV.int) (mk:=λacc (s:Ci.Slot×Ci.Slot)=>[.val (fl ae),.val (sp r c),.own (.lst acc),s.1,s.2]) (app:=λr'=>(q8 ae r c r').map F1) (m:=3) (M:=50) (gv r) [] (.no,.no) (λr' _=>by rw [zzl];exact jd ..) (λr' _ acc s hl=>by
  obtain⟨Dp,e⟩:=inner r' acc s.2 hl
  refine⟨(.val (.int r'),Dp),?_⟩;simp! only [oI] at e;simp! only [oO,oI,lK Um hc,Ls,e]) (by show 0+3*3<=50;omega)
 simp! only [oO,oI] at e;simp! only [ba,lK S3 hr,Ls,e,KO,qc,List.map_flatMap]
def E1(ae:List Str)(sl:Bool)(cl pr:Int)(u v:List Int)(e:Int):Prop:=∃r c r' c',u=[r,c]/\v=[r',c']/\dE ae r c=true/\dE ae r' c'=true/\dB ae sl cl pr r c r' c'=some e
noncomputable abbrev tK(t:List Int×Int):PV:=.tup [ah t.1,.int t.2]
def uD(F:bb):Prop:=∀ae w,Fl ae w->∀sl cl pr,Wk cl pr->∀r c r' c',dE ae r c=true->dE ae r' c'=true->F "step_cost" [fl ae,wk sl cl pr,sp r c,sp r' c']=.ok (oP (dB ae sl cl pr r c r' c'))
def Ge(F:bb):Prop:=∀ae,rk ae->∀r c,0<=r->r<6->0<=c->c<6->F "open_spots_beside" [fl ae,sp r c]=.ok (.lst ((qc ae r c).map F1))
def ji(F:bb):Prop:=∀ae,rk ae->∀r c,dE ae r c=true->F "need_open" [fl ae,sp r c]=.ok .aH
def sx(f:List PV->Res PV):Prop:=∀ae w,Fl ae w->∀sl cl pr,Wk cl pr->∀r c,dE ae r c=true->∃T:List (List Int×Int),f [fl ae,wk sl cl pr,ah [r,c]]=.ok (.lst (T.map tK))/\T.length<=9/\∀v e,(v,e)∈T↔E1 ae sl cl pr [r,c] v e
def je(F:bb):Prop:=sx (F "steps_from")
noncomputable def NF:Ss:=#v[.set 5 (.call "step_cost" #v[!0,!1,!2,!4]),.ite (.cmp .HN (!5) (.cst .aH)) #v[.app 3 (.tup #v[!4,!5])] .nil]
def zu{ae:List Str}{w:Nat}(L:Fl ae w){r c:Int}(h:dE ae r c=true):0<=r/\r<6/\0<=c/\c<6:=by
 have h1:=Hl L h
 have h2:=L.Cr.1
 have h3:=L.Cr.2 _ (List.getElem_mem L.ne)
 rw [L.M3 _ (List.getElem_mem L.ne)] at h3;omega
def zA(F:bb)(hn:ji F)(hb:Ge F)(hs:uD F):sx (aA F bC):=by
 intro ae w L sl cl pr V r c h;obtain⟨r0,r6,c0,c6⟩:=zu L h
 have KD:∀p:Int×Int,((dB ae sl cl pr r c p.1 p.2).toList.map λe=>(([p.1,p.2]:List Int),e)).length<=1:=λp=>by cases dB ae sl cl pr r c p.1 p.2<;>simp
 refine⟨(qc ae r c).flatMap λp=>(dB ae sl cl pr r c p.1 p.2).toList.map λe=>([p.1,p.2],e),?_,?_,?_⟩
 ·obtain⟨s',e⟩:=iW (body:=λx env=>((Tg.one 4).put x env).bind λav=>aG F NF av) (g:=F1) (mk:=λacc (s:Ci.Slot×Ci.Slot)=>[.val (fl ae),.val (wk sl cl pr),.val (sp r c),.own (.lst acc),s.1,s.2]) (app:=λp=>((dB ae sl cl pr r c p.1 p.2).toList.map λe=>(([p.1,p.2]:List Int),e)).map tK) (m:=1) (M:=50) (qc ae r c) [] (.no,.no) (λp _=>by rw [zzl];exact KD p) (λp hp acc s hl=>by
   have l:acc.length<fF:=zzV (m:=50) (by omega) (by decide)
   have e:=hs ae w L sl cl pr V r c p.1 p.2 h (mj.1 hp).2
   cases hq:dB ae sl cl pr r c p.1 p.2 with
   |none=>
    rw [hq] at e;have e5:kc .aH .aH=.ok (.bl false):=rfl
    simp! [oP] at e;exact⟨(.val (F1 p),.val .aH),by simp! only [NF,e,e5,Option.toList_none,zz6]⟩
   |some v=>
    rw [hq] at e;have e5:kc (.int v) .aH=.ok (.bl true):=rfl
    simp! [oP] at e;exact⟨(.val (F1 p),.val (.int v)),by simp! only [NF,e,e5,Option.toList_some,l];rfl⟩) (by
   have:=qU ae r c
   show 0+1*_<=50
   omega)
  have k:ah [r,c]=sp r c:=rfl
  simp! only [NF] at e;simp! only [k,bC,hn ae L.Cr r c h,hb ae L.Cr r c r0 r6 c0 c6,e,KO,List.map_flatMap]
 ·have:=qU ae r c
  have key:∀l:List (Int×Int),(l.flatMap λp=>(dB ae sl cl pr r c p.1 p.2).toList.map λe=>(([p.1,p.2]:List Int),e)).length<=l.length:=by
   intro l
   induction l with
   |nil=>exact zzE _
   |cons p l ih=>
    have:=KD p
    simp! [List.flatMap_cons,zzM,zzL];omega
  exact zzU (key _) this
 ·intro v e;simp! [List.mem_flatMap,zzx,Option.mem_toList,Option.mem_def,Prod.mk.injEq]
  constructor
  ·rintro ⟨p,hp,e',he,rfl,rfl⟩
   exact⟨r,c,p.1,p.2,rfl,rfl,h,(mj.1 hp).2,he⟩
  ·rintro ⟨a,b,r',c',hu,rfl,_,ho,he⟩
   cases hu;refine⟨(r',c'),mj.2 ⟨λhf=>?_,ho⟩,e,he,rfl,rfl⟩
   rw [show dB ae sl cl pr r c r' c'=none from if_pos hf] at he;cases he
theorem fq:∀k:List Int,intsOf (k.map .int)=some k
 |[]=>rfl
 |i::k=>by simp! [zzF,intsOf,fq k,Option.map_some]
def dS(k:List Int):gQ (ah k)=some k:=fq k
theorem bY{α:Type}:∀{ks:List (List Int)} {vs:List α} (k:List Int),ks.length=vs.length->cm ks k=(ag ks vs k).isSome
 |[],[],_,_=>rfl
 |k'::ks,v::vs,k,h=>by
  have ih:=bY (ks:=ks) (vs:=vs) k (by simpa using h)
  by_cases e:k'=k
  ·simp [cm,ag,e]
  ·simp! [cm] at ih;simp [cm,ag,e,ih]
theorem fX{α β:Type}(f:α->β):∀(ks:List (List Int)) (vs:List α) (k:List Int),ag ks (vs.map f) k=(ag ks vs k).map f
 |[],_,_=>by simp [ag]
 |_::_,[],_=>by simp [ag]
 |k'::ks,v::vs,k=>by
  simp! [zzF,ag,fX f ks vs k];split<;>rfl
theorem lH{α β:Type}(f:α->β):∀(ks:List (List Int)) (vs:List α) (k:List Int),aO ks (vs.map f) k=(aO ks vs k).map f
 |[],_,_=>by simp [aO]
 |_::_,[],_=>by simp [aO]
 |k'::ks,v::vs,k=>by
  simp! [zzF,aO,lH f ks vs k];split<;>rfl
def jz{α β:Type}(f:α->β)(ks:List (List Int))(vs:List α)(k:List Int)(p:α):aX ks (vs.map f) k (f p)=(aX ks vs k p).map f:=by
 unfold aX;split
 ·rw [List.zipWith_map_right,List.map_zipWith]
  congr 1
  funext a b
  split<;>rfl
 ·simp
theorem sJ{α:Type}(k:List Int)(p:α):∀(ks:List (List Int)) (vs:List α) (x:List Int),ag ks (List.zipWith (λk' v=>if k'=k then p else v) ks vs) x=(ag ks vs x).map λv=>if x=k then p else v
 |[],_,_=>by simp [ag]
 |_::_,[],_=>by simp [ag]
 |k'::ks,v::vs,x=>by
  simp! [List.zipWith_cons_cons,ag,sJ k p ks vs x]
  by_cases e:k'=x
  ·subst e;simp
  ·simp [e]
theorem n8{α:Type}(k:List Int)(p:α):∀(ks:List (List Int)) (vs:List α) (x:List Int),ks.length=vs.length->ag (ks++[k]) (vs++[p]) x=(ag ks vs x).or (if k=x then some p else none)
 |[],[],x,_=>by simp [ag]
 |k'::ks,v::vs,x,h=>by
  simp! [List.cons_append,ag,n8 k p ks vs x (by simpa using h)];split<;>simp
def bh{α:Type}{ks:List (List Int)}{vs:List α}(h:ks.length=vs.length)(k:List Int)(p:α)(x:List Int):ag (bp ks k) (aX ks vs k p) x=if k=x then some p else ag ks vs x:=by
 have hh:=bY (vs:=vs) k h
 unfold bp aX;cases hk:cm ks k with
 |true=>
  rw [hk] at hh;simp! [if_true,sJ]
  by_cases e:k=x
  ·subst e;obtain⟨v,hv⟩:=zzp.1 hh.symm
   simp [hv]
  ·rw [if_neg e];have e':¬x=k:=λz=>e z.symm
   cases ag ks vs x<;>simp [e']
 |false=>
  rw [hk] at hh;simp! [zze,if_false,n8 k p ks vs x h]
  by_cases e:k=x
  ·subst e;have:ag ks vs k=none:=by simpa using hh.symm
   simp [this]
  ·simp [e]
def mJ{α:Type}{ks:List (List Int)}{vs:List α}(h:ks.length=vs.length)(k:List Int)(p:α):(bp ks k).length=(aX ks vs k p).length:=by
 unfold bp aX;split<;>simp [h]
def xZ(ks:List (List Int))(k:List Int):(bp ks k).length<=ks.length+1:=by
 unfold bp;split<;>simp
def dO{ks:List (List Int)}{k:List Int}:cm ks k=true↔k∈ks:=by
 simp [cm]
def gA{ks:List (List Int)}(h:ks.Nodup)(k:List Int):(bp ks k).Nodup:=by
 unfold bp;split
 ·exact h
 ·rename_i hk;rw [dO] at hk;refine List.nodup_append.2 ⟨h,by simp,?_⟩;intro a ha b hb e;rw [zzi] at hb;exact hk (hb▸e▸ha)
theorem dH{α:Type}(k:List Int):∀(ks:List (List Int)) (vs:List α) (x:List Int),ks.length=vs.length->ag (bQ ks k) (aO ks vs k) x=if k=x then none else ag ks vs x
 |[],[],x,_=>by simp [bQ,aO,ag]
 |k'::ks,v::vs,x,h=>by
  have ih:=dH k ks vs x (by simpa using h)
  simp! [bQ] at ih
  by_cases e:k'=k
  ·subst e;simp! [bQ,aO,ag,zz3,ne_eq,not_true_eq_false,decide_false,zze,if_false,if_true,ih];split<;>simp_all
  ·simp! [bQ,aO,ag,zz3,ne_eq,e,not_false_eq_true,decide_true,if_true,if_false]
   by_cases e2:k'=x
   ·subst e2;have:¬k=k':=λz=>e z.symm
    simp [ag,this]
   ·simp! [ag,e2,if_false];exact ih
theorem oo{α:Type}(k:List Int):∀(ks:List (List Int)) (vs:List α),ks.length=vs.length->(bQ ks k).length=(aO ks vs k).length
 |[],[],_=>rfl
 |k'::ks,v::vs,h=>by
  have ih:=oo k ks vs (by simpa using h)
  simp! [bQ] at ih
  by_cases e:k'=k
  ·simpa [bQ,aO,e] using ih
  ·simpa [bQ,aO,e] using ih
theorem vH{α:Type}:∀{ks:List (List Int)} {vs:List α} {i:Nat} {k:List Int} {q:α},ks.Nodup->ks[i]?=some k->vs[i]?=some q->ag ks vs k=some q
 |[],_,_,_,_,_,h,_=>by simp at h
 |_::_,[],_,_,_,_,_,h=>by simp at h
 |k'::ks,v::vs,0,k,q,_,h1,h2=>by
  simp! [List.getElem?_cons_zero,Option.some.injEq] at h1 h2;simp [ag,h1,h2]
 |k'::ks,v::vs,i+1,k,q,nd,h1,h2=>by
  simp! [List.getElem?_cons_succ] at h1 h2;have Q0:=List.nodup_cons.1 nd
  have:¬k'=k:=λz=>Q0.1 (z▸zzD h1)
  simp! [ag,this,if_false];exact vH Q0.2 h1 h2
theorem qX{α:Type}:∀{ks:List (List Int)} {vs:List α} {k:List Int} {q:α},ag ks vs k=some q->q∈vs
 |[],_,_,_,h=>by simp [ag] at h
 |_::_,[],_,_,h=>by simp [ag] at h
 |k'::ks,v::vs,k,q,h=>by
  simp! [ag] at h;split at h
  ·cases h;exact zzP ..
  ·exact zzI _ (qX h)
theorem jX:∀(cs:List Int) (b:Nat) (m:Int) (pre:List Int),pre[b]?=some m->(∀x∈pre,m<=x)->∃y,(pre++cs)[eF cs pre.length b m]?=some y/\∀x∈pre++cs,y<=x
 |[],b,m,pre,h1,h2=>⟨m,by simpa [eF] using h1,by simpa using h2⟩
 |c::cs,b,m,pre,h1,h2=>by
  have hb:=(zzH.1 h1).1
  simp! [eF];have hl:pre.length+1=(pre++[c]).length:=by simp
  split
  ·rename_i hc;have:=jX cs pre.length c (pre++[c]) (by simp) (λx hx=>by
    simp! [List.mem_append,zzi] at hx;rcases hx with hx|hx
    ·have:=h2 x hx;omega
    ·omega)
   rw [<-hl] at this
   simpa using this
  ·rename_i hc;have:=jX cs b m (pre++[c]) (by rw [zzr hb];exact h1) (λx hx=>by
    simp! [List.mem_append,zzi] at hx;rcases hx with hx|hx
    ·exact h2 x hx
    ·omega)
   rw [<-hl] at this
   simpa using this
def EW{cs:List Int}(h:cs≠[]):∃i y,AB cs=some i/\cs[i]?=some y/\∀x∈cs,y<=x:=by
 cases cs with
 |nil=>exact absurd rfl h
 |cons c cs=>
  obtain⟨y,h1,h2⟩:=jX cs 0 c [c] rfl (by simp)
  exact⟨_,y,rfl,h1,h2⟩
noncomputable abbrev val(q:Int×PV):PV:=.tup [.int q.1,q.2]
theorem nL:∀V:List (Int×PV),iE (V.map val)=some (V.map (·.1))
 |[]=>rfl
 |q::V=>by simp! [zzF,iE,nL V,Option.map_some]
def x6{ks:List (List Int)}{V:List (Int×PV)}(h:ks.length=V.length)(nd:ks.Nodup)(ff:ks≠[]):∃k q,((AB (V.map (·.1))).bind λx=>ks[x]?)=some k/\ag ks V k=some q/\∀x q',ag ks V x=some q'->q.1<=q'.1:=by
 have hV:V.map (·.1)≠[]:=by
  intro z;rw [List.map_eq_nil_iff] at z;rw [z] at h;exact ff (List.eq_nil_of_length_eq_zero h)
 obtain⟨i,y,h1,h2,h3⟩:=EW hV
 rw [zzQ,zzJ] at h2;obtain⟨q,hq,rfl⟩:=h2
 have hi:=(zzH.1 hq).1
 have hk:ks[i]?=some (ks[i]'(by omega)):=zzg _
 refine⟨_,q,by rw [h1];exact hk,vH nd hk hq,λx q' hx=>h3 _ (zzx.2 ⟨q',qX hx,rfl⟩)⟩
inductive jh(E:List Int->List Int->Int->Prop)(s:List Int->Prop):List Int->Int->Prop
 |here {x:List Int}:s x->jh E s x 0
 |go {u v:List Int} {d e:Int}:jh E s u d->E u v e->jh E s v (d+e)
abbrev Ks:=List (List Int)
abbrev Vs:=List (Int×PV)
def Kn(kr:Ks)(Vr:Vs)(kw:Ks)(Vw:Vs)(k:List Int)(c:Int):Prop:=(∃q,ag kr Vr k=some q/\q.1<=c)\/∃q,ag kw Vw k=some q/\q.1<=c
structure qF(E:List Int->List Int->Int->Prop)(O:List Int->Prop)(s:List Int->Prop)(kr:Ks)(Vr:Vs)(kw:Ks)(Vw:Vs)(X:List Int->List Int->Int->Prop)(n:Nat)(b:Int):Prop where
 lr:kr.length=Vr.length
 lw:kw.length=Vw.length
 nw:kw.Nodup
 KH:∀k q q',ag kr Vr k=some q->ag kw Vw k=some q'->False
 wr:∀k q,ag kr Vr k=some q->O k/\jh E s k q.1
 ww:∀k q,ag kw Vw k=some q->O k/\jh E s k q.1
 mono:∀k q k' q',ag kr Vr k=some q->ag kw Vw k'=some q'->q.1<=q'.1
 ib:∀u q,ag kr Vr u=some q->∀v e,X u v e->Kn kr Vr kw Vw v (q.1+e)
 st:∀x,s x->Kn kr Vr kw Vw x 0
 cw:kw.length<=n
 pre:∀k q,ag kr Vr k=some q\/ag kw Vw k=some q->(q.2=.aH/\s k/\q.1=0)\/∃y q' e,q.2=ah y/\ag kr Vr y=some q'/\E y k e/\q.1=q'.1+e
 bd:∀k q,ag kr Vr k=some q\/ag kw Vw k=some q->0<=q.1/\q.1<=b
 nr:kr.Nodup
def Kn.put{kr:Ks}{Vr:Vs}{kw:Ks}{Vw:Vs}(h:kw.length=Vw.length){v:List Int}{c:Int}{p:PV}(hv:∀q,ag kw Vw v=some q->c<=q.1){k:List Int}{x:Int}(H:Kn kr Vr kw Vw k x):Kn kr Vr (bp kw v) (aX kw Vw v (c,p)) k x:=by
 rcases H with H|⟨q,h1,h2⟩
 ·exact .inl H
 ·refine .inr ?_;rw [bh h]
  by_cases e:v=k
  ·subst e;exact⟨(c,p),if_pos rfl,Int.le_trans (hv q h1) h2⟩
  ·exact⟨q,by rw [if_neg e];exact h1,h2⟩
def qF.put{E:List Int->List Int->Int->Prop}{O:List Int->Prop}{s:List Int->Prop}{kr:Ks}{Vr:Vs}{kw:Ks}{Vw:Vs}{X:List Int->List Int->Int->Prop}{n:Nat}{b:Int}(M:qF E O s kr Vr kw Vw X n b){u v:List Int}{d e:Int}{p0:PV}(hu:ag kr Vr u=some (d,p0))(hd:∀k q,ag kr Vr k=some q->q.1<=d)(he:E u v e)(h0:0<e)(hb:d+e<=b)(ho:O v)
 (hv:ag kr Vr v=none) (hw:∀q,ag kw Vw v=some q->d+e<=q.1):qF E O s kr Vr (bp kw v) (aX kw Vw v (d+e,ah u)) (λa b c=>X a b c\/a=u/\b=v/\c=e) (n+1) b where
 lr:=M.lr
 lw:=mJ M.lw _ _
 nw:=gA M.nw _
 KH:=λk q q' h1 h2=>by
  rw [bh M.lw] at h2;split at h2
  ·rename_i z;subst z;rw [hv] at h1;cases h1
  ·exact M.KH k q q' h1 h2
 wr:=M.wr
 ww:=λk q h=>by
  rw [bh M.lw] at h;split at h
  ·rename_i z;subst z;cases h;exact⟨ho,.go (M.wr u _ hu).2 he⟩
  ·exact M.ww k q h
 mono:=λk q k' q' h1 h2=>by
  rw [bh M.lw] at h2;split at h2
  ·cases h2;have:=hd k q h1;show q.1<=d+e;omega
  ·exact M.mono k q k' q' h1 h2
 ib:=λa q h1 b c hx=>by
  rcases hx with hx|⟨rfl,rfl,rfl⟩
  ·exact(M.ib a q h1 b c hx).put M.lw hw
  ·rw [hu] at h1;cases h1;exact .inr ⟨(d+c,ah a),by rw [bh M.lw,if_pos rfl],Int.le_refl _⟩
 st:=λx hx=>(M.st x hx).put M.lw hw
 cw:=by have:=xZ kw v;have:=M.cw;omega
 pre:=λk q h=>by
  rcases h with h|h
  ·exact M.pre k q (.inl h)
  ·rw [bh M.lw] at h;split at h
   ·rename_i z;subst z;cases h;exact .inr ⟨u,(d,p0),e,rfl,hu,he,rfl⟩
   ·exact M.pre k q (.inr h)
 bd:=λk q h=>by
  rcases h with h|h
  ·exact M.bd k q (.inl h)
  ·rw [bh M.lw] at h;split at h
   ·cases h;have:=(M.bd u _ (.inl hu)).1;exact⟨by show 0<=d+e;omega,hb⟩
   ·exact M.bd k q (.inr h)
 nr:=M.nr
def qF.keep{E:List Int->List Int->Int->Prop}{O:List Int->Prop}{s:List Int->Prop}{kr:Ks}{Vr:Vs}{kw:Ks}{Vw:Vs}{X Y:List Int->List Int->Int->Prop}{n m:Nat}{b b':Int}(M:qF E O s kr Vr kw Vw X n b)(hm:n<=m)(hb:b<=b')(h:∀u q,ag kr Vr u=some q->∀v e,Y u v e->Kn kr Vr kw Vw v (q.1+e)):qF E O s kr Vr kw Vw Y m b':=
 ⟨M.lr,M.lw,M.nw,M.KH,M.wr,M.ww,M.mono,h,M.st,zzU M.cw hm,M.pre,λk q z=>⟨(M.bd k q z).1,Int.le_trans (M.bd k q z).2 hb⟩,M.nr⟩
def Kn.move{kr:Ks}{Vr:Vs}{kw:Ks}{Vw:Vs}(hr:kr.length=Vr.length)(hw:kw.length=Vw.length){k:List Int}{q0:Int×PV}(h0:ag kw Vw k=some q0)(hk:ag kr Vr k=none){x:List Int}{c:Int}(H:Kn kr Vr kw Vw x c):Kn (bp kr k) (aX kr Vr k q0) (bQ kw k) (aO kw Vw k) x c:=by
 unfold Kn;rw [bh hr,dH k kw Vw x hw]
 by_cases e:k=x
 ·subst e;rcases H with⟨q,h1,_⟩|⟨q,h1,h2⟩
  ·rw [hk] at h1;cases h1
  ·rw [h0] at h1;cases h1;exact .inl ⟨q0,if_pos rfl,h2⟩
 ·simp! [e,if_false];exact H
def qF.move{E:List Int->List Int->Int->Prop}{O:List Int->Prop}{s:List Int->Prop}{kr:Ks}{Vr:Vs}{kw:Ks}{Vw:Vs}{n:Nat}{b:Int}(M:qF E O s kr Vr kw Vw E n b){k:List Int}{q0:Int×PV}(h0:ag kw Vw k=some q0)(hl:∀x q',ag kw Vw x=some q'->q0.1<=q'.1):
 qF E O s (bp kr k) (aX kr Vr k q0) (bQ kw k) (aO kw Vw k) (λa b c=>E a b c/\a≠k) n b/\ag (bp kr k) (aX kr Vr k q0) k=some q0/\∀x q,ag (bp kr k) (aX kr Vr k q0) x=some q->q.1<=q0.1:=by
 have hk:ag kr Vr k=none:=by
  cases h:ag kr Vr k with
  |none=>rfl
  |some q=>exact(M.KH k q q0 h h0).elim
 have old:∀x q,ag (bp kr k) (aX kr Vr k q0) x=some q\/ag (bQ kw k) (aO kw Vw k) x=some q->ag kr Vr x=some q\/ag kw Vw x=some q:=λx q h=>by
  rcases h with h|h
  ·rw [bh M.lr] at h;split at h
   ·rename_i z;subst z;cases h;exact .inr h0
   ·exact .inl h
  ·rw [dH k kw Vw x M.lw] at h;split at h
   ·cases h
   ·exact .inr h
 refine⟨?_,by rw [bh M.lr,if_pos rfl],λx q h=>?_⟩
 ·refine⟨mJ M.lr _ _,oo k kw Vw M.lw,M.nw.filter _,λx q q' h1 h2=>?_,λx q h=>?_,λx q h=>?_,λx q x' q' h1 h2=>?_,λu q h1 v e hx=>?_,λx hx=>(M.st x hx).move M.lr M.lw h0 hk,zzU (List.length_filter_le ..) M.cw,λx q h=>?_,λx q h=>M.bd x q (old x q h),gA M.nr _⟩
  ·rw [bh M.lr] at h1;rw [dH k kw Vw x M.lw] at h2;split at h2
   ·cases h2
   ·rename_i z;rw [if_neg z] at h1;exact M.KH x q q' h1 h2
  ·rw [bh M.lr] at h;split at h
   ·rename_i z;subst z;cases h;exact M.ww k _ h0
   ·exact M.wr x q h
  ·rw [dH k kw Vw x M.lw] at h;split at h
   ·cases h
   ·exact M.ww x q h
  ·rw [bh M.lr] at h1;rw [dH k kw Vw x' M.lw] at h2;split at h2
   ·cases h2
   ·split at h1
    ·cases h1;exact hl x' q' h2
    ·exact M.mono x q x' q' h1 h2
  ·rw [bh M.lr,if_neg (λz=>hx.2 z.symm)] at h1;exact(M.ib u q h1 v e hx.1).move M.lr M.lw h0 hk
  ·rcases M.pre x q (old x q h) with z|⟨y,q',e,z1,z2,z3⟩
   ·exact .inl z
   ·refine .inr ⟨y,q',e,z1,?_,z3⟩;rw [bh M.lr,if_neg (λz=>by rw [<-z,hk] at z2;cases z2)];exact z2
 ·rw [bh M.lr] at h;split at h
  ·cases h;exact Int.le_refl _
  ·exact M.mono x q k q0 h h0
def MB{ks:Ks}{V:Vs}{k:List Int}{q:Int×PV}(h:ag ks V k=some q):bg (.bo ks (V.map val)) (ah k)=.ok (val q):=by
 show(Res.of (gQ (ah k))).bind (λk=>Res.of (ag ks (V.map val) k))=_
 rw [dS];show Res.of (ag ks (V.map val) k)=_
 rw [fX,h]
 rfl
theorem FD{q:Int×PV}:bg (val q) (.int 0)=.ok (.int q.1):=rfl
def Ak{ks:Ks}{vs:List PV}{k:List Int}:i6 (ah k) (.bo ks vs)=.ok (.bl (!cm ks k)):=by
 show(Res.of (gQ (ah k))).bind (λk=>Res.ok (PV.bl (!cm ks k)))=_
 rw [dS]
 rfl
theorem QN{ks:Ks}{vs:List PV}:dD .len [.bo ks vs]=.ok (.int ks.length):=rfl
noncomputable def wS:Ss:=#v[.set 8 (.bin .add (.sub (.sub (.iM 2) (!5)) (¬0)) (!7)),.ite (.and (.cmp .vi (!6) (.iM 2)) (.or (.cmp .vi (!6) (.iM 3)) (.cmp .lt (!8) (.sub (.sub (.iM 3) (!6)) (¬0))))) #v[.put 3 (!6) (.tup #v[!8,!5])] .nil]
noncomputable abbrev rN(gn:Str)(ix:List Nat)(cp:List PV)(z:PV)(kr:Ks)(Vr:Vs)(kw:Ks)(Vw:Vs)(s4 s5 s6 s7 s8:Ci.Slot):Sl:=[.val z,.fn gn ix cp,.own (.bo kr (Vr.map val)),.own (.bo kw (Vw.map val)),s4,s5,s6,s7,s8]
def wa(kw:Ks)(Vw:Vs)(v:List Int)(c:Int)(p:PV):aX kw (Vw.map val) v (.tup [.int c,p])=(aX kw Vw v (c,p)).map val:=jz val kw Vw v (c,p)
def L4(F:bb){gn:Str}{ix:List Nat}{cp:List PV}{z:PV}{E:List Int->List Int->Int->Prop}{O:List Int->Prop}{s:List Int->Prop}{kr:Ks}{Vr:Vs}{kw:Ks}{Vw:Vs}{X:List Int->List Int->Int->Prop}{n:Nat}{b:Int}(M:qF E O s kr Vr kw Vw X n b)(hn:n<=3000){u v:List Int}{d e:Int}{p0:PV}(hu:ag kr Vr u=some (d,p0))(hd:∀k q,ag kr Vr k=some q->q.1<=d)(he:E u v e)(h0:0<e)(hb:d+e<=b)(ho:O v)(s4 s6 s7 s8:Ci.Slot):
 ∃yv xS Hc GY IZ,(((Tg.two 6 7).put (tK (v,e)) (rN gn ix cp z kr Vr kw Vw s4 (.val (ah u)) s6 s7 s8)).bind λav=>aG F wS av)=.ok (.nx (rN gn ix cp z kr Vr yv xS s4 (.val (ah u)) Hc GY IZ))/\qF E O s kr Vr yv xS (λa b c=>X a b c\/a=u/\b=v/\c=e) (n+1) b:=by
 have e1:=MB hu
 have l:kw.length<fF:=zzV (zzU M.cw hn) (by decide)
 have g1:=bY (vs:=Vr) v M.lr
 have g2:=bY (vs:=Vw) v M.lw
 cases hv:ag kr Vr v with
 |some q=>
  rw [hv] at g1;have JP:cm kr v=true:=g1
  refine⟨kw,Vw,.val (ah v),.val (.int e),.val (.int (d+e)),by simp! only [wS,rN,e1,FD,Ak,JP],M.keep (Nat.le_succ n) (Int.le_refl _) ?_⟩
  rintro a q' ha b c (hx|⟨rfl,rfl,rfl⟩)
  ·exact M.ib a q' ha b c hx
  ·rw [hu] at ha;cases ha;refine .inl ⟨q,hv,?_⟩;have:=hd _ q hv
   show q.1<=d+c
   omega
 |none=>
  rw [hv] at g1;have JP:cm kr v=false:=g1
  cases hw:ag kw Vw v with
  |none=>
   rw [hw] at g2;have L5:cm kw v=false:=g2
   refine⟨_,_,.val (ah v),.val (.int e),.val (.int (d+e)),?_,M.put hu hd he h0 hb ho hv (λq h=>by rw [hw] at h;cases h)⟩;simp! only [wS,rN,e1,FD,Ak,JP,L5,dS,l,wa]
  |some q=>
   rw [hw] at g2;have L5:cm kw v=true:=g2
   have e2:=MB hw
   by_cases bH:d+e<q.1
   ·refine⟨_,_,.val (ah v),.val (.int e),.val (.int (d+e)),?_,M.put hu hd he h0 hb ho hv (λq' h=>by rw [hw] at h;cases h;omega)⟩;simp! only [wS,rN,e1,e2,FD,Ak,JP,L5,bH,decide_true,dS,l,wa]
   ·refine⟨kw,Vw,.val (ah v),.val (.int e),.val (.int (d+e)),by simp! only [wS,rN,e1,e2,FD,Ak,JP,L5,bH,decide_false],M.keep (Nat.le_succ n) (Int.le_refl _) ?_⟩
    rintro a q' ha b c (hx|⟨rfl,rfl,rfl⟩)
    ·exact M.ib a q' ha b c hx
    ·rw [hu] at ha;cases ha;exact .inr ⟨q,hw,by show q.1<=d+c;omega⟩
theorem GD(F:bb){gn:Str}{ix:List Nat}{cp:List PV}{z:PV}{E:List Int->List Int->Int->Prop}{O:List Int->Prop}{s:List Int->Prop}{b:Int}(hE:∀u v e,E u v e->0<e/\e<=30/\O v){kr:Ks}{Vr:Vs}{u:List Int}{d:Int}{p0:PV}(hu:ag kr Vr u=some (d,p0))(hd:∀k q,ag kr Vr k=some q->q.1<=d)(Mf:d+30<=b)(s4:Ci.Slot):
 ∀(T:List (List Int×Int)) (kw:Ks) (Vw:Vs) (X:List Int->List Int->Int->Prop) (n:Nat) (s6 s7 s8:Ci.Slot),(∀t∈T,E u t.1 t.2)->qF E O s kr Vr kw Vw X n b->n+T.length<=3000->∃yv xS Hc GY IZ,forL (λx env=>((Tg.two 6 7).put x env).bind λav=>aG F wS av) (T.map tK) (rN gn ix cp z kr Vr kw Vw s4 (.val (ah u)) s6 s7 s8)=.ok (.nx (rN gn ix cp z kr Vr yv xS s4 (.val (ah u)) Hc GY IZ))/\qF E O s kr Vr yv xS (λa b c=>X a b c\/a=u/\(b,c)∈T) (n+T.length) b
 |[],kw,Vw,X,n,s6,s7,s8,_,M,_=>⟨kw,Vw,s6,s7,s8,rfl,M.keep (zzE _) (Int.le_refl _) (λa q ha b c hx=>M.ib a q ha b c (hx.resolve_right λz=>by cases z.2))⟩
 |t::T,kw,Vw,X,n,s6,s7,s8,hT,M,hn=>by
  have ht:=hT t (zzP ..)
  rw [zzL] at hn;obtain⟨Jt,Vw1,a6,a7,a8,e1,M1⟩:=L4 F (gn:=gn) (ix:=ix) (cp:=cp) (z:=z) M (by omega) hu hd ht (hE _ _ _ ht).1 (by have:=(hE _ _ _ ht).2.1;omega) (hE _ _ _ ht).2.2 s4 s6 s7 s8
  obtain⟨kw2,Vw2,b6,b7,b8,e2,M2⟩:=GD F hE hu hd Mf s4 T Jt Vw1 _ (n+1) a6 a7 a8 (λx hx=>hT x (zzI _ hx)) M1 (by omega)
  refine⟨kw2,Vw2,b6,b7,b8,?_,M2.keep (by rw [zzL];omega) (Int.le_refl _) λa q ha b c hx=>M2.ib a q ha b c ?_⟩
  ·rw [zzF,forL,e1,qr];exact e2
  ·rcases hx with hx|⟨h1,h2⟩
   ·exact .inl (.inl hx)
   ·rcases zzm.1 h2 with h2|h2
    ·exact .inl (.inr ⟨h1,by rw [<-h2],by rw [<-h2]⟩)
    ·exact .inr ⟨h1,h2⟩
noncomputable def Ck(U kr:Ks):Nat:=(U.filter λx=>!cm kr x).length
def CB{U kr:Ks}{k:List Int}(hk:k∈U)(hn:cm kr k=false):Ck U (bp kr k)<Ck U kr:=by
 have hh:∀x,cm (bp kr k) x=(cm kr x||decide (x=k)):=by
  intro x;rw [Bool.eq_iff_iff,zzt,dO,dO,zzN];unfold bp;rw [hn];simp
 unfold Ck;simp! [hh]
 induction U with
 |nil=>cases hk
 |cons y U ih=>
  have mono:(U.filter λx=>!(cm kr x||decide (x=k))).length<=(U.filter λx=>!cm kr x).length:=by
   rw [<-List.countP_eq_length_filter,<-List.countP_eq_length_filter];refine List.countP_mono_left λx _ h=>?_
   simp! [Bool.not_or,zza] at h;exact h.1
  rw [zz3,zz3]
  by_cases e:y=k
  ·subst e;simp! [hn,decide_true,Bool.or_true,Bool.not_true,zze,if_false,Bool.not_false,if_true,zzL];omega
  ·have:=ih ((zzm.1 hk).resolve_left λz=>e z.symm)
   simp! [e,decide_false,Bool.or_false];cases cm kr y<;>simp! [Bool.not_true,Bool.not_false,zze,if_true,if_false,zzL]<;>omega
noncomputable def wC:E:=.cmp .gt (.blt .len #v[.iM 3]) (¬0)
noncomputable def wB:Ss:=#v[.m8 5 3,.eO 2 3 5,.da (.two 6 7) (.seq (.j3 1 #v[!5])) wS]
def D3(F:bb){gn:Str}{ix:List Nat}{cp:List PV}{z:PV}{as:List Int->List PV}(Gj:ix.head?=some 1)(Kx:∀u,eY (ah u::cp) ix.tail=.ok (as u)){E:List Int->List Int->Int->Prop}{O:List Int->Prop}{s:List Int->Prop}{U:Ks}(hU:∀u,O u->u∈U)(KP:U.length<=36)(hE:∀u v e,E u v e->0<e/\e<=30/\O v)(d7:∀u,O u->∃T:List (List Int×Int),F gn (as u)=.ok (.lst (T.map tK))/\T.length<=60/\∀v e,(v,e)∈T↔E u v e)
 {kr:Ks} {Vr:Vs} {kw:Ks} {Vw:Vs} (M:qF E O s kr Vr kw Vw E (40+60*kr.length) (30*kr.length)) (hc:kr.length+Ck U kr<=U.length) (ff:kw≠[]) (s4 s5 s6 s7 s8:Ci.Slot):
 ∃uV LR yv xS Lx Hc GY IZ,aG F wB (rN gn ix cp z kr Vr kw Vw s4 s5 s6 s7 s8)=.ok (.nx (rN gn ix cp z uV LR yv xS s4 Lx Hc GY IZ))/\qF E O s uV LR yv xS E (40+60*uV.length) (30*uV.length)/\uV.length+Ck U uV<=U.length/\Ck U uV<Ck U kr:=by
 obtain⟨k,q,h1,h2,h3⟩:=x6 M.lw M.nw ff
 obtain⟨M1,h4,h5⟩:=M.move h2 h3
 obtain⟨ho,_⟩:=M.ww k q h2
 have hk:cm kr k=false:=by
  rw [bY (vs:=Vr) k M.lr];cases h:ag kr Vr k with
  |none=>rfl
  |some q'=>exact(M.KH k q' q h h2).elim
 have hl:(bp kr k).length=kr.length+1:=by unfold bp;rw [hk];simp
 have bH:=CB (hU k ho) hk
 obtain⟨T,e1,hT,hT2⟩:=d7 k ho
 obtain⟨d,p0⟩:=q
 obtain⟨kw2,Vw2,b6,b7,b8,e2,M2⟩:=GD F (gn:=gn) (ix:=ix) (cp:=cp) (z:=z) (b:=30*kr.length+30) hE h4 h5 (by have:=(M.bd k (d,p0) (.inr h2)).2;show d+30<=_;omega) s4 T _ _ _ _ s6 s7 s8 (λt ht=>(hT2 t.1 t.2).1 ht) (M1.keep (zzE _) (by omega) M1.ib) (by omega)
 refine⟨_,_,kw2,Vw2,.val (ah k),b6,b7,b8,?_,M2.keep (by omega) (by omega) (λa q ha b c hx=>M2.ib a q ha b c ?_),by omega,bH⟩
 ·have l:kr.length<fF/\2≠3:=⟨zzV (m:=36) (by omega) (by decide),by decide⟩
  have gm:ag kw (Vw.map val) k=some (val (d,p0)):=by rw [fX,h2];rfl
  have gp:aX kr (Vr.map val) k (val (d,p0))=(aX kr Vr k (d,p0)).map val:=jz val kr Vr k (d,p0)
  have ha:=Kx k
  simp! only [wS,rN] at e2;simp! only [wB,wS,rN,nL,h1,dS,gm,l,and_self,lH,gp,Gj,ha,e1,e2,ne_eq,not_false_eq_true]
 ·by_cases e:a=k
  ·subst e;exact .inr ⟨rfl,(hT2 b c).2 hx⟩
  ·exact .inl ⟨hx,e⟩
theorem vN(F:bb){gn:Str}{ix:List Nat}{cp:List PV}{z:PV}{as:List Int->List PV}(Gj:ix.head?=some 1)(Kx:∀u,eY (ah u::cp) ix.tail=.ok (as u)){E:List Int->List Int->Int->Prop}{O:List Int->Prop}{s:List Int->Prop}{U:Ks}(hU:∀u,O u->u∈U)(KP:U.length<=36)(hE:∀u v e,E u v e->0<e/\e<=30/\O v)(d7:∀u,O u->∃T:List (List Int×Int),F gn (as u)=.ok (.lst (T.map tK))/\T.length<=60/\∀v e,(v,e)∈T↔E u v e)(s4:Ci.Slot):
 ∀(n:Nat) (kr:Ks) (Vr:Vs) (kw:Ks) (Vw:Vs) (s5 s6 s7 s8:Ci.Slot),qF E O s kr Vr kw Vw E (40+60*kr.length) (30*kr.length)->kr.length+Ck U kr<=U.length->Ck U kr<n->∃uV LR UD Lx Hc GY IZ,d5 (aD F wC) (aG F wB) n (rN gn ix cp z kr Vr kw Vw s4 s5 s6 s7 s8)=.ok (.nx [.val z,.fn gn ix cp,.own (.bo uV (LR.map val)),UD,s4,Lx,Hc,GY,IZ])/\uV.length<=36/\∃m,qF E O s uV LR [] [] E m 1080
 |0,_,_,_,_,_,_,_,_,_,_,h=>absurd h (Nat.not_lt_zero _)
 |n+1,kr,Vr,kw,Vw,s5,s6,s7,s8,M,hc,hn=>by
  have ec:aD F wC (rN gn ix cp z kr Vr kw Vw s4 s5 s6 s7 s8)=.ok (.bl (decide ((0:Int)<kw.length))):=by simp! only [wC,rN,QN]
  by_cases hk:kw=[]
  ·subst hk;have hv:Vw=[]:=List.eq_nil_of_length_eq_zero M.lw.symm
   subst hv;refine⟨kr,Vr,.own (.bo [] []),s5,s6,s7,s8,?_,by omega,_,M.keep (zzE _) (by omega) M.ib⟩;have:decide ((0:Int)<(([]:Ks).length:Nat))=false:=rfl
   rw [this] at ec;simp! [d5,ec,qr,Oq,zze,if_false,rN]
   rfl
  ·obtain⟨kr1,Vr1,Jt,Vw1,t5,t6,t7,t8,e1,M1,hc1,bH⟩:=D3 F (gn:=gn) (z:=z) Gj Kx hU KP hE d7 M hc hk s4 s5 s6 s7 s8
   obtain⟨kr2,Vr2,u3,u5,u6,u7,u8,e2,h2⟩:=vN F (gn:=gn) (z:=z) Gj Kx hU KP hE d7 s4 n kr1 Vr1 Jt Vw1 t5 t6 t7 t8 M1 hc1 (by omega)
   refine⟨kr2,Vr2,u3,u5,u6,u7,u8,?_,h2⟩;have:decide ((0:Int)<(kw.length:Nat))=true:=by
    have:=List.length_pos_iff.2 hk
    simp;omega
   rw [this] at ec;simp! [d5,ec,qr,Oq,if_true,e1,e2]
structure sY(E:List Int->List Int->Int->Prop)(s:List Int->Prop)(kr:Ks)(Vr:Vs):Prop where
 len:kr.length=Vr.length
 le:kr.length<=36
 OC:∀k q,ag kr Vr k=some q->k.length=2/\jh E s k q.1
 ib:∀u q,ag kr Vr u=some q->∀v e,E u v e->∃q',ag kr Vr v=some q'/\q'.1<=q.1+e
 st:∀x,s x->∃q,ag kr Vr x=some q/\q.1<=0
 pre:∀k q,ag kr Vr k=some q->(q.2=.aH/\s k/\q.1=0)\/∃y q' e,q.2=ah y/\ag kr Vr y=some q'/\E y k e/\q.1=q'.1+e
 bd:∀k q,ag kr Vr k=some q->0<=q.1/\q.1<=1080
 nr:kr.Nodup
noncomputable def FT(gn:Str)(ix:List Nat):Def:=⟨["starts","steps","reached","waiting","start","spot","other","cost","together"],2,(.cons (.kh 2)
 (.cons (.kh 3)
 (.cons (.da (.one 4) (.seq (.var 0))
  (.cons (.put 3 (.var 4) (.tup (.cons (.cst (.int 0)) (.cons (.cst .aH) .nil))))
  .nil))
 (.cons (.Gf (.cmp .gt (.blt .len (.cons (.iM 3) .nil)) (.cst (.int 0)))
  (.cons (.m8 5 3)
  (.cons (.eO 2 3 5)
  (.cons (.da (.two 6 7) (.seq (.j3 1 (.cons (.var 5) .nil)))
   (.cons (.set 8 (.bin .add (.sub (.sub (.iM 2) (.var 5)) (.cst (.int 0))) (.var 7)))
   (.cons (.ite (.and (.cmp .vi (.var 6) (.iM 2)) (.or (.cmp .vi (.var 6) (.iM 3)) (.cmp .lt (.var 8) (.sub (.sub (.iM 3) (.var 6)) (.cst (.int 0))))))
    (.cons (.put 3 (.var 6) (.tup (.cons (.var 8) (.cons (.var 5) .nil))))
    .nil)
    .nil)
   .nil)))
  .nil))))
 (.cons (.bz 2)
 (.cons (.ret (.var 2))
 .nil)))))),some (gn,ix)⟩
structure MD(G:Ks)(kw:Ks)(Vw:Vs):Prop where
 len:kw.length=Vw.length
 nd:kw.Nodup
 of:∀x q,ag kw Vw x=some q->x∈G/\q=(0,.aH)
 to:∀x∈G,ag kw Vw x=some (0,.aH)
 le:kw.length<=G.length
noncomputable def N9:Ss:=#v[.put 3 (!4) (.tup #v[¬0,.cst .aH])]
def MD.put{G kw:Ks}{Vw:Vs}(h:MD G kw Vw)(v:List Int):MD (G++[v]) (bp kw v) (aX kw Vw v (0,.aH)) where
 len:=mJ h.len _ _
 nd:=gA h.nd _
 of:=λx q hq=>by
  rw [bh h.len] at hq;split at hq
  ·rename_i z;cases hq;exact⟨by simp [z],rfl⟩
  ·obtain⟨a,b⟩:=h.of x q hq
   exact⟨by simp [a],b⟩
 to:=λx hx=>by
  rw [bh h.len]
  by_cases z:v=x
  ·rw [if_pos z]
  ·rw [if_neg z];rcases List.mem_append.1 hx with a|a
   ·exact h.to x a
   ·exact absurd (zzi.1 a).symm z
 le:=by
  have:(bp kw v).length<=kw.length+1:=by
   unfold bp;split
   ·omega
   ·simp
  rw [zzM];have:=h.le
  simp! [zzL,List.length_nil];omega
theorem wj(F:bb){gn:Str}{ix:List Nat}{cp:List PV}{z a2:PV}:∀(Q G kw:Ks) (Vw:Vs) (s4:Ci.Slot),MD G kw Vw->G.length+Q.length<=1000->∃yv xS Dp,forL (λx env=>((Tg.one 4).put x env).bind λav=>aG F N9 av) (Q.map ah) [.val z,.fn gn ix cp,.own a2,.own (.bo kw (Vw.map val)),s4,.no,.no,.no,.no]=.ok (.nx [.val z,.fn gn ix cp,.own a2,.own (.bo yv (xS.map val)),Dp,.no,.no,.no,.no])/\MD (G++Q) yv xS
 |[],G,kw,Vw,s4,h,_=>⟨kw,Vw,s4,rfl,by rw [zz6];exact h⟩
 |v::Q,G,kw,Vw,s4,h,hl=>by
  rw [zzL] at hl;obtain⟨yv,xS,Dp,e,h'⟩:=wj F (gn:=gn) (ix:=ix) (cp:=cp) (z:=z) (a2:=a2) Q (G++[v]) _ _ (.val (ah v)) (h.put v) (by rw [zzM];simp! [zzL,List.length_nil];omega)
  rw [List.append_assoc,List.singleton_append] at h';refine⟨yv,xS,Dp,?_,h'⟩;have l:kw.length<fF:=zzV (m:=1000) (by have:=h.le;omega) (by decide)
  have gp:aX kw (Vw.map val) v (val (0,.aH))=(aX kw Vw v (0,.aH)).map val:=jz val kw Vw v (0,.aH)
  have Tv:aX kw (Vw.map val) v (.tup [.int 0,.aH])=(aX kw Vw v (0,.aH)).map val:=gp
  have eb:(((Tg.one 4).put (ah v) [.val z,.fn gn ix cp,.own a2,.own (.bo kw (Vw.map val)),s4,.no,.no,.no,.no]).bind λav=>aG F N9 av)=.ok (.nx [.val z,.fn gn ix cp,.own a2,.own (.bo (bp kw v) ((aX kw Vw v (0,.aH)).map val)),.val (ah v),.no,.no,.no,.no]):=by
   simp! only [N9,dS,l,Tv]
  rw [zzF,forL,eb,qr];exact e
def nR(F:bb)(gn:Str){ix:List Nat}{cp:List PV}{as:List Int->List PV}(Gj:ix.head?=some 1)(Kx:∀u,eY (ah u::cp) ix.tail=.ok (as u)){E:List Int->List Int->Int->Prop}{O:List Int->Prop}{G:Ks}{U:Ks}(hU:∀u,O u->u∈U)(KP:U.length<=36)(h2:∀u,O u->u.length=2)(hE:∀u v e,E u v e->0<e/\e<=30/\O v)(d7:∀u,O u->∃T:List (List Int×Int),F gn (as u)=.ok (.lst (T.map tK))/\T.length<=60/\∀v e,(v,e)∈T↔E u v e)(hs:∀u∈G,O u)(lG:G.length<=40):
 ∃kr Vr,aA F (FT gn ix) (.lst (G.map ah)::cp)=.ok (.bo kr (Vr.map val))/\sY E (·∈G) kr Vr:=by
 obtain⟨kw,Vw,s4,e0,S⟩:=wj F (gn:=gn) (ix:=ix) (cp:=cp) (z:=.lst (G.map ah)) (a2:=.bo [] []) G [] [] [] .no ⟨rfl,List.nodup_nil,(λx q h=>by simp [ag] at h),(λx h=>by cases h),zzE _⟩ (by rw [List.length_nil];omega)
 rw [List.nil_append] at S;have M:qF E O (·∈G) [] [] kw Vw E (40+60*([]:Ks).length) (30*(([]:Ks).length:Nat)):=⟨rfl,S.len,S.nd,(λk q q' h=>by simp [ag] at h),(λk q h=>by simp [ag] at h),(λk q h=>by obtain⟨a,rfl⟩:=S.of k q h;exact⟨hs k a,.here a⟩),(λk q k' q' h=>by simp [ag] at h),(λu q h=>by simp [ag] at h),(λx hx=>.inr ⟨(0,.aH),S.to x hx,Int.le_refl _⟩),(by have:=S.le;simp! [List.length_nil];omega),(λk q h=>h.elim (λh=>by simp [ag] at h) λh=>by obtain⟨z,rfl⟩:=S.of k q h;exact .inl ⟨rfl,z,rfl⟩),(λk q h=>h.elim (λh=>by simp [ag] at h) λh=>by obtain⟨_,rfl⟩:=S.of k q h;exact⟨Int.le_refl _,Int.le_refl _⟩),List.nodup_nil⟩
 have hl:Ck U []<=U.length:=List.length_filter_le ..
 obtain⟨kr,Vr,u3,u5,u6,u7,u8,e,h3,m,M'⟩:=vN F (gn:=gn) (z:=.lst (G.map ah)) Gj Kx hU KP hE d7 s4 WN [] [] kw Vw .no .no .no .no M (by simpa using hl) (zzV (zzU hl KP) (by decide))
 refine⟨kr,Vr,?_,M'.lr,h3,λk q h=>⟨h2 k (M'.wr k q h).1,(M'.wr k q h).2⟩,λu q h v c hx=>?_,λx hx=>?_,?_,?_,?_⟩
 ·have a2:List.take 1 (PV.lst (G.map ah)::cp)=[.lst (G.map ah)]:=rfl
  have a3:List.drop 1 (PV.lst (G.map ah)::cp)=cp:=rfl
  have lg:(G.map ah).length<fF:=zzV (m:=40) (by rw [zzl];exact lG) (by decide)
  change forL _ _ [.val (.lst (G.map ah)),.fn gn ix cp,.own (.bo [] []),.own (.bo [] []),.no,.no,.no,.no,.no]=_ at e0
  simp! only [N9] at e0;simp! only [wC,wB,wS,rN] at e;simp! only [FT,a2,a3,lg,e0,e,KO];exact if_pos rfl
 ·rcases M'.ib u q h v c hx with h|⟨q',h,_⟩
  ·exact h
  ·simp [ag] at h
 ·rcases M'.st x hx with h|⟨q',h,_⟩
  ·exact h
  ·simp [ag] at h
 ·exact λk q h=>M'.pre k q (.inl h)
 ·exact λk q h=>M'.bd k q (.inl h)
 ·exact M'.nr
def fm(ae:List Str)(u:List Int):Prop:=∃r c,u=[r,c]/\dE ae r c=true
noncomputable def NM:Ks:=(List.range 6).flatMap λ(r:Nat)=>(List.range 6).map λ(c:Nat)=>[(r:Int),(c:Int)]
def vY:NM.length=36:=by decide
def Rx{ae:List Str}{w:Nat}(L:Fl ae w){u:List Int}(h:fm ae u):u∈NM:=by
 obtain⟨r,c,rfl,h⟩:=h
 obtain⟨a,b,d,e⟩:=zu L h
 refine List.mem_flatMap.2 ⟨r.toNat,List.mem_range.2 (by omega),zzx.2 ⟨c.toNat,List.mem_range.2 (by omega),?_⟩⟩;rw [Int.toNat_of_nonneg a,Int.toNat_of_nonneg d]
def iz{ae:List Str}{sl:Bool}{cl pr r c r' c' e:Int}:dB ae sl cl pr r c r' c'=some e↔¬iL r c r' c'/\(r≠r'/\c≠c'->sl=true/\dE ae r c'=true/\dE ae r' c=true)/\dw ae r' c'-dw ae r c<=cl/\dw ae r c-dw ae r' c'<=cl/\e=(if r≠r'/\c≠c' then 3 else 2)+pr*(if dw ae r' c'-dw ae r c>0 then dw ae r' c'-dw ae r c else 0):=by
 unfold dB
 by_cases h1:iL r c r' c'
 ·rw [if_pos (show(r=r'/\c=c')\/1<r-r'\/1<r'-r\/1<c-c'\/1<c'-c from h1)];exact⟨(λz=>by cases z),λz=>absurd h1 z.1⟩
 ·have IE:¬((r=r'/\c=c')\/1<r-r'\/1<r'-r\/1<c-c'\/1<c'-c):=h1
  rw [if_neg IE]
  by_cases h2:(r≠r'/\c≠c')/\¬(sl=true/\dE ae r c'=true/\dE ae r' c=true)
  ·rw [if_pos h2];exact⟨(λz=>by cases z),λz=>absurd (z.2.1 h2.1) h2.2⟩
  ·rw [if_neg h2];have Cs:r≠r'/\c≠c'->sl=true/\dE ae r c'=true/\dE ae r' c=true:=λa=>Classical.byContradiction λb=>h2 ⟨a,b⟩
   by_cases h3:cl<dw ae r' c'-dw ae r c\/cl<dw ae r c-dw ae r' c'
   ·rw [if_pos h3];exact⟨(λz=>by cases z),λz=>by omega⟩
   ·rw [if_neg h3];refine⟨λz=>⟨h1,Cs,by omega,by omega,by cases z;rfl⟩,λz=>by rw [z.2.2.2.2]⟩
def uf{ae:List Str}{sl:Bool}{cl pr:Int}{u v:List Int}{e:Int}(h:E1 ae sl cl pr u v e):∃e',E1 ae sl cl pr v u e':=by
 obtain⟨r,c,r',c',h1,h2,h3,h4,h5⟩:=h
 rw [iz] at h5;refine⟨_,r',c',r,c,h2,h1,h4,h3,iz.2 ⟨?_,λz=>?_,h5.2.2.2.1,h5.2.2.1,rfl⟩⟩
 ·have:=h5.1
  unfold iL at this⊢;omega
 ·obtain⟨a,b,d⟩:=h5.2.1 ⟨λx=>z.1 x.symm,λx=>z.2 x.symm⟩
  exact⟨a,d,b⟩
def zq{ae:List Str}{w:Nat}(L:Fl ae w){sl:Bool}{cl pr:Int}(V:Wk cl pr){u v:List Int}{e:Int}(h:E1 ae sl cl pr u v e):0<e/\e<=30/\fm ae v:=by
 obtain⟨r,c,r',c',h1,h2,h3,h4,h5⟩:=h
 rw [iz] at h5;obtain⟨_,_,_,_,_,l1,l2⟩:=uu L h3
 obtain⟨_,_,_,_,_,m1,m2⟩:=uu L h4
 have p0:=V.p0
 have p4:=V.p4
 have e5:=h5.2.2.2.2
 generalize hm:(if dw ae r' c'-dw ae r c>0 then dw ae r' c'-dw ae r c else 0)=m at e5
 have OQ:0<=m/\m<=9:=by rw [<-hm];split<;>omega
 generalize hf:(if r≠r'/\c≠c' then(3:Int) else 2)=f at e5
 have U0:2<=f/\f<=3:=by rw [<-hf];split<;>omega
 have a1:=Int.mul_nonneg p0 OQ.1
 have a2:pr*m<=3*9:=Int.mul_le_mul (by omega) OQ.2 OQ.1 (by omega)
 exact⟨by omega,by omega,r',c',h2,h4⟩
def Et(ae:List Str)(sl:Bool)(cl pr:Int)(u v:List Int)(e:Int):Prop:=E1 ae sl cl pr v u e
def sZ(f:List PV->Res PV):Prop:=∀ae w,Fl ae w->∀sl cl pr,Wk cl pr->∀r c,dE ae r c=true->∃T:List (List Int×Int),f [fl ae,wk sl cl pr,ah [r,c]]=.ok (.lst (T.map tK))/\T.length<=9/\∀v e,(v,e)∈T↔Et ae sl cl pr [r,c] v e
def qE(F:bb):Prop:=sZ (F "steps_to")
def uR(F:bb)(hs:je F)(hc:uD F):sZ (aA F dh):=by
 intro ae w L sl cl pr V r c h;obtain⟨T,e1,hl,hT⟩:=hs ae w L sl cl pr V r c h
 have key:∀t∈T,∃e,Et ae sl cl pr [r,c] t.1 e/\F "step_cost" [fl ae,wk sl cl pr,ah t.1,ah [r,c]]=.ok (.int e):=λt ht=>by
  obtain⟨e',he⟩:=uf ((hT t.1 t.2).1 ht)
  refine⟨e',he,?_⟩;obtain⟨a,b,a',b',g1,g2,g3,g4,g5⟩:=he
  cases g2;have:=hc ae w L sl cl pr V a b r c g3 g4
  rw [g5] at this;rw [g1];exact this
 let cf:List Int->Int:=λv=>match v with
  |[a,b]=>(dB ae sl cl pr a b r c).getD 0
  |_=>0
 have Cn:∀v e,Et ae sl cl pr [r,c] v e->cf v=e:=by
  rintro v e ⟨a,b,a',b',rfl,h2,_,_,g⟩
  cases h2;show(dB ae sl cl pr a b r c).getD 0=e
  rw [g]
  rfl
 refine⟨T.map λt=>(t.1,cf t.1),?_,by simpa using hl,λv e=>?_⟩
 ·have l:T.length<fF:=zzV hl (by decide)
  have t0:∀t:List Int×Int,bg (tK t) (.int 0)=.ok (ah t.1):=λt=>rfl
  simp! only [dh,e1,zzl,l];rw [dJ (p:=tK) (g:=λt=>tK (t.1,cf t.1)) (λt ht=>by
   obtain⟨e,he,ee⟩:=key t ht
   simp! only [t0,ee,Cn _ _ he])]
  simp! only [List.map_map]
  rfl
 ·rw [zzx]
  constructor
  ·rintro ⟨t,ht,z⟩
   cases z;obtain⟨e,he,_⟩:=key t ht
   rw [Cn _ _ he];exact he
  ·intro he;obtain⟨e',h'⟩:=uf he
   exact⟨(v,e'),(hT v e').2 h',by rw [Cn _ _ he]⟩
noncomputable abbrev lp(m:Ks):PV:=.lst (m.map ah)
def Gn(f:List PV->Res PV):Prop:=∀ae w,Fl ae w->∀sl cl pr,Wk cl pr->∀G:Ks,(∀u∈G,fm ae u)->G.length<=40->∃kr Vr,f [.lst (G.map ah),wk sl cl pr,fl ae]=.ok (.bo kr (Vr.map val))/\sY (E1 ae sl cl pr) (·∈G) kr Vr
def JF(F:bb):Prop:=Gn (F "spread@steps_from")
def F4(f:List PV->Res PV):Prop:=∀ae w,Fl ae w->∀sl cl pr,Wk cl pr->∀G:Ks,(∀u∈G,fm ae u)->G.length<=40->∃kr Vr,f [.lst (G.map ah),wk sl cl pr,fl ae]=.ok (.bo kr (Vr.map val))/\sY (Et ae sl cl pr) (·∈G) kr Vr
def J7(F:bb):Prop:=F4 (F "spread@steps_to")
theorem D8(F:bb)(hs:je F):Gn (aA F aW):=λae w L sl cl pr V G h lG=>
 nR F "steps_from" (ix:=[1,2,1,0]) (cp:=[wk sl cl pr,fl ae]) (as:=λu=>[fl ae,wk sl cl pr,ah u]) rfl (λ_=>rfl) (E:=E1 ae sl cl pr) (O:=fm ae) (G:=G) (U:=NM) (λu hu=>Rx L hu) (Nat.le_of_eq vY) (λu hu=>by obtain⟨_,_,rfl,_⟩:=hu;rfl) (λu v e he=>zq L V he)
  (λu hu=>by obtain⟨a,b,rfl,ho⟩:=hu;obtain⟨T,e,hl,hT⟩:=hs ae w L sl cl pr V a b ho;exact⟨T,e,by omega,hT⟩) h lG
theorem DT(F:bb)(hs:qE F):F4 (aA F bu):=λae w L sl cl pr V G h lG=>
 nR F "steps_to" (ix:=[1,2,1,0]) (cp:=[wk sl cl pr,fl ae]) (as:=λu=>[fl ae,wk sl cl pr,ah u]) rfl (λ_=>rfl) (E:=Et ae sl cl pr) (O:=fm ae) (G:=G) (U:=NM) (λu hu=>Rx L hu) (Nat.le_of_eq vY) (λu hu=>by obtain⟨_,_,rfl,_⟩:=hu;rfl) (λu v e he=>⟨(zq L V he).1,(zq L V he).2.1,by obtain⟨a,b,_,_,h1,_,h3,_⟩:=he;exact⟨a,b,h1,h3⟩⟩)
  (λu hu=>by obtain⟨a,b,rfl,ho⟩:=hu;obtain⟨T,e,hl,hT⟩:=hs ae w L sl cl pr V a b ho;exact⟨T,e,by omega,hT⟩) h lG
theorem lX(F:bb)(hn:ji F){ae:List Str}{w:Nat}(L:Fl ae w){mk:Ci.Slot->Sl}{B:Ss}{i:Nat}(hB:∀(u:List Int) (a:Ci.Slot),F "need_open" [fl ae,ah u]=.ok .aH->(((Tg.one i).put (ah u) (mk a)).bind λav=>aG F B av)=.ok (.nx (mk (.val (ah u))))):∀(G:Ks) (a:Ci.Slot),(∀u∈G,fm ae u)->∃a',forL (λx env=>((Tg.one i).put x env).bind λav=>aG F B av) (G.map ah) (mk a)=.ok (.nx (mk a'))
 |[],a,_=>⟨a,rfl⟩
 |u::G,a,h=>by
  obtain⟨r,c,rfl,ho⟩:=h u (zzP ..)
  obtain⟨a',e⟩:=lX F hn L hB G (.val (ah [r,c])) λv hv=>h v (zzI _ hv)
  exact⟨a',by rw [zzF,forL,hB [r,c] a (hn ae L.Cr r c ho),qr];exact e⟩
def rn(F:bb)(hn:ji F)(hs:J7 F){ae:List Str}{w:Nat}(L:Fl ae w){sl:Bool}{cl pr:Int}(V:Wk cl pr){G:Ks}(h:∀u∈G,fm ae u)(lG:G.length<=40):∃kr Vr,aA F cM [fl ae,wk sl cl pr,lp G]=.ok (.bo kr (Vr.map val))/\sY (Et ae sl cl pr) (·∈G) kr Vr:=by
 obtain⟨kr,Vr,e,R⟩:=hs ae w L sl cl pr V G h lG
 obtain⟨a',e1⟩:=lX F hn L (mk:=λa=>[.val (fl ae),.val (wk sl cl pr),.val (lp G),a]) (i:=3) (B:=(.cons (.expr (.call "need_open" (.cons (.var 0) (.cons (.var 3) .nil)))) .nil)) (λu a hu=>by dsimp! only [hu]) G .no h
 refine⟨kr,Vr,?_,R⟩;dsimp! only [J] at e1;have e:F "spread@steps_to" [lp G,wk sl cl pr,fl ae]=.ok (.bo kr (Vr.map val)):=e
 dsimp! only [cM,e1,jZ,e]
def wt(f:List PV->Res PV):Prop:=∀ae w,Fl ae w->∀sl cl pr,Wk cl pr->∀u,fm ae u->∃kr Vr,f [fl ae,wk sl cl pr,ah u]=.ok (.bo kr (Vr.map val))/\sY (E1 ae sl cl pr) (·∈[u]) kr Vr
def BG(F:bb):Prop:=wt (F "spread_from")
theorem EM(F:bb)(hn:ji F)(hs:JF F):wt (aA F bX):=λae w L sl cl pr V u h=>by
 obtain⟨kr,Vr,e,R⟩:=hs ae w L sl cl pr V [u] (λv hv=>by rw [zzi.1 hv];exact h) (by simp)
 obtain⟨r,c,rfl,ho⟩:=h
 have Mn:F "need_open" [fl ae,ah [r,c]]=.ok .aH:=hn ae L.Cr r c ho
 have e:F "spread@steps_from" [.lst [ah [r,c]],wk sl cl pr,fl ae]=.ok (.bo kr (Vr.map val)):=e
 exact⟨kr,Vr,by dsimp! only [bX,Mn,jZ,e],R⟩
def jh.cons{E:List Int->List Int->Int->Prop}{s u v:List Int}{d e:Int}(h:E s u e)(k:jh E (·=u) v d):jh E (·=s) v (e+d):=by
 induction k with
 |here hx=>subst hx;have:=jh.go (jh.here (E:=E) (s:=(·=s)) rfl) h;rw [Int.zero_add] at this;rwa [Int.add_zero]
 |go _ he ih=>have:=ih.go he;rwa [Int.add_assoc] at this
def vw{E E':List Int->List Int->Int->Prop}(hE:∀u v e,E u v e->E' v u e){S:List Int->Prop}{u:List Int}{c:Int}(h:jh E S u c):∃s,S s/\jh E' (·=u) s c:=by
 induction h with
 |here hx=>exact⟨_,hx,.here rfl⟩
 |go _ he ih=>
  obtain⟨s,hs,k⟩:=ih
  have:=jh.cons (hE _ _ _ he) k
  rw [Int.add_comm] at this;exact⟨s,hs,this⟩
def pU{E:List Int->List Int->Int->Prop}{S T:List Int->Prop}(h:∀x,S x->T x){u:List Int}{c:Int}(k:jh E S u c):jh E T u c:=by
 induction k with
 |here hx=>exact .here (h _ hx)
 |go _ he ih=>exact ih.go he
def zY{E:List Int->List Int->Int->Prop}{s:List Int->Prop}{kr:Ks}{Vr:Vs}(R:sY E s kr Vr){k:List Int}{c:Int}(h:jh E s k c):∃q,ag kr Vr k=some q/\q.1<=c:=by
 induction h with
 |here hx=>exact R.st _ hx
 |go _ he ih=>
  obtain⟨q,h1,h2⟩:=ih
  obtain⟨q',h3,h4⟩:=R.ib _ q h1 _ _ he
  exact⟨q',h3,by omega⟩
section
variable{ae:List Str}{w:Nat}{sl:Bool}{cl pr:Int}{G:Ks}
def pV(F:bb)(hn:ji F)(L:Fl ae w)(h:∀u∈G,fm ae u)(h0:G≠[]):aA F bK [fl ae,lp G]=.ok .aH:=by
 obtain⟨a',e1⟩:=lX F hn L (mk:=λa=>[.val (fl ae),.val (lp G),a]) (i:=2) (B:=(.cons (.expr (.call "need_open" (.cons (.var 0) (.cons (.var 2) .nil)))) .nil)) (λu a hu=>by dsimp! only [hu]) G .no h
 have z:(((G.map ah).length:Int)==0)=false:=by
  have:=List.length_pos_iff.2 h0
  rw [zzl]
  simpa using h0
 dsimp! only [J] at e1;dsimp! only [bK,z,e1]
def ug(F:bb)(hg:∀G:Ks,(∀u∈G,fm ae u)->G≠[]->F "need_goals" [fl ae,lp G]=.ok .aH)(hs:∀G:Ks,(∀u∈G,fm ae u)->G.length<=40->∃kr Vr,F "spread_to" [fl ae,wk sl cl pr,lp G]=.ok (.bo kr (Vr.map val))/\sY (Et ae sl cl pr) (·∈G) kr Vr)(h:∀u∈G,fm ae u)(h0:G≠[])(lG:G.length<=40):∃kr Vr,aA F bw [fl ae,wk sl cl pr,lp G]=.ok (.bo kr (Vr.map val))/\sY (Et ae sl cl pr) (·∈G) kr Vr:=by
 obtain⟨kr,Vr,e,R⟩:=hs G h lG
 exact⟨kr,Vr,by dsimp! only [bw,hg G h h0,e],R⟩
noncomputable def F0:Ss:=#v[.ite (.cmp .eq (.sub (.sub (!2) (!3)) (¬0)) (.bin .add (!5) (.sub (.sub (!2) (!4)) (¬0)))) #v[.ret (!4)] .nil]
def rH{kr:Ks}{Vr:Vs}{u:List Int}{q:Int×PV}(h:ag kr Vr u=some q):bg (.bo kr (Vr.map val)) (ah u)=.ok (val q):=by
 show(Res.of (gQ (ah u))).bind (λk=>Res.of (ag kr (Vr.map val) k))=_
 rw [dS];show Res.of (ag kr (Vr.map val) u)=_
 rw [fX,h]
 rfl
theorem sj{q:Int×PV}:bg (val q) (.int 0)=.ok (.int q.1):=rfl
theorem xg(F:bb){kr:Ks}{Vr:Vs}{u:List Int}{q:Int×PV}{A B:PV}(hu:ag kr Vr u=some q):∀(T:List (List Int×Int)) (s4 s5:Ci.Slot),(∀t∈T,∃q',ag kr Vr t.1=some q')->(∃v,forL (λx env=>((Tg.two 4 5).put x env).bind λav=>aG F F0 av) (T.map tK) [.val A,.val B,.val (.bo kr (Vr.map val)),.val (ah u),s4,s5]=.ok (.rt (ah v)))\/∃Dp Lx,forL (λx env=>((Tg.two 4 5).put x env).bind λav=>aG F F0 av) (T.map tK) [.val A,.val B,.val (.bo kr (Vr.map val)),.val (ah u),s4,s5]=.ok (.nx [.val A,.val B,.val (.bo kr (Vr.map val)),.val (ah u),Dp,Lx])
 |[],s4,s5,_=>.inr ⟨s4,s5,rfl⟩
 |t::T,s4,s5,h=>by
  obtain⟨q',hq⟩:=h t (zzP ..)
  have e1:=rH hu
  have e2:=rH hq
  have tp:(Tg.two 4 5).put (tK t) [.val A,.val B,.val (.bo kr (Vr.map val)),.val (ah u),s4,s5]=.ok [.val A,.val B,.val (.bo kr (Vr.map val)),.val (ah u),.val (ah t.1),.val (.int t.2)]:=rfl
  cases hc:(q.1==t.2+q'.1) with
  |true=>
   have eb:(((Tg.two 4 5).put (tK t) [.val A,.val B,.val (.bo kr (Vr.map val)),.val (ah u),s4,s5]).bind λav=>aG F F0 av)=.ok (.rt (ah t.1)):=by
    rw [tp];dsimp! only [F0,e1,e2,sj,hc]
   exact .inl ⟨t.1,by rw [zzF,forL,eb];rfl⟩
  |false=>
   have eb:(((Tg.two 4 5).put (tK t) [.val A,.val B,.val (.bo kr (Vr.map val)),.val (ah u),s4,s5]).bind λav=>aG F F0 av)=.ok (.nx [.val A,.val B,.val (.bo kr (Vr.map val)),.val (ah u),.val (ah t.1),.val (.int t.2)]):=by
    rw [tp];dsimp! only [F0,e1,e2,sj,hc]
   rcases xg F hu T (.val (ah t.1)) (.val (.int t.2)) λx hx=>h x (zzI _ hx) with⟨v,e⟩|⟨a,b,e⟩
   ·exact .inl ⟨v,by rw [zzF,forL,eb,qr];exact e⟩
   ·exact .inr ⟨a,b,by rw [zzF,forL,eb,qr];exact e⟩
def xj(F:bb)(hs:je F)(L:Fl ae w)(V:Wk cl pr){S:List Int->Prop}{kr:Ks}{Vr:Vs}(R:sY (Et ae sl cl pr) S kr Vr){u:List Int}(ho:fm ae u){q:Int×PV}(hu:ag kr Vr u=some q):∃p,aA F bD [fl ae,wk sl cl pr,.bo kr (Vr.map val),ah u]=.ok p:=by
 obtain⟨r,c,rfl,ho⟩:=ho
 obtain⟨T,e,_,hT⟩:=hs ae w L sl cl pr V r c ho
 have CN:∀t∈T,∃q',ag kr Vr t.1=some q':=λt ht=>by
  obtain⟨e',he⟩:=uf ((hT t.1 t.2).1 ht)
  obtain⟨q',h,_⟩:=R.ib _ q hu t.1 e' he
  exact⟨q',h⟩
 rcases xg F (A:=fl ae) (B:=wk sl cl pr) hu T .no .no CN with⟨v,el⟩|⟨a,b,el⟩
 ·refine⟨ah v,?_⟩;dsimp! only [F0] at el;dsimp! only [bD,e,el]
 ·refine⟨.aH,?_⟩;dsimp! only [F0] at el;dsimp! only [bD,e,el]
end
def uP{ks:Ks}{vs:List PV}(nd:ks.Nodup)(hl:ks.length<64)(h2:∀k∈ks,k≠[]):dD .sorted [.bo ks vs]=.ok (lp (cb ks)):=by
 show(if(decide (ks.length<64)&&ks.all λk=>!k.isEmpty)=true then Res.ok (PV.lst (kL .aH (ks.map ah) ks)) else .bad)=_
 rw [if_pos,wU nd λ_=>Iff.rfl]
 rw [zza];refine⟨zzh hl,zzT.2 λk hk=>?_⟩
 have:=h2 k hk
 cases k with
 |nil=>exact absurd rfl this
 |cons a b=>rfl
def sL{ks:Ks}(nd:ks.Nodup):(cb ks).length=ks.length:=((List.perm_ext_iff_of_nodup eU.nodup nd).2 λ_=>cF).length_eq
noncomputable def cst(kr:Ks)(Vr:Vs)(k:List Int):Int:=((ag kr Vr k).getD (0,.aH)).1
section
variable{ae:List Str}{sl:Bool}{cl pr:Int}{G:Ks}
def zW(F:bb)(hg:∀G:Ks,(∀u∈G,fm ae u)->G≠[]->G.length<=40->∃kr Vr,F "spread_to_goals" [fl ae,wk sl cl pr,lp G]=.ok (.bo kr (Vr.map val))/\sY (Et ae sl cl pr) (·∈G) kr Vr/\∀k∈kr,fm ae k)(UL:∀(S:List Int->Prop) kr Vr,sY (Et ae sl cl pr) S kr Vr->∀u,fm ae u->∀q,ag kr Vr u=some q->∃p,F "least_onward" [fl ae,wk sl cl pr,.bo kr (Vr.map val),ah u]=.ok p)(h:∀u∈G,fm ae u)(h0:G≠[])(lG:G.length<=40):
 ∃kr Vr,∃p:List Int->PV,aA F gL [fl ae,wk sl cl pr,lp G]=.ok (.lst ((cb kr).map λk=>.tup [ah k,.int (cst kr Vr k),p k]))/\sY (Et ae sl cl pr) (·∈G) kr Vr/\∀k∈kr,fm ae k:=by
 obtain⟨kr,Vr,e,R,ho⟩:=hg G h h0 lG
 have at_:∀k∈kr,∃q,ag kr Vr k=some q:=λk hk=>zzp.1 (by rw [<-bY k R.len];exact dO.2 hk)
 have st:∀k,∃p,k∈kr->F "least_onward" [fl ae,wk sl cl pr,.bo kr (Vr.map val),ah k]=.ok p:=λk=>by
  by_cases hk:k∈kr
  ·obtain⟨q,hq⟩:=at_ k hk
   obtain⟨p,hp⟩:=UL _ kr Vr R k (ho k hk) q hq
   exact⟨p,λ_=>hp⟩
  ·exact⟨.aH,λz=>absurd z hk⟩
 obtain⟨p,hp⟩:=Classical.skolem.1 st
 refine⟨kr,Vr,p,?_,R,ho⟩;have so:=uP (vs:=Vr.map val) R.nr (by have:=R.le;omega) λk hk=>by obtain⟨_,_,rfl,_⟩:=ho k hk;simp
 have ll:((cb kr).map ah).length<fF:=zzV (m:=36) (by rw [zzl,sL R.nr];exact R.le) (by decide)
 have cc:aL (λx=>((Tg.one 0).put x [.no,.val (wk sl cl pr),.val (.bo kr (Vr.map val)),.val (fl ae)]).bind λav=>(aD F (.tup (.cons (.var 0) (.cons (.sub (.sub (.var 2) (.var 0)) (.cst (.int 0))) (.cons (.call "least_onward" (.cons (.var 3) (.cons (.var 1) (.cons (.var 2) (.cons (.var 0) .nil))))) .nil)))) av).bind λy=>.ok (some y)) ((cb kr).map ah)=.ok ((cb kr).map λk=>.tup [ah k,.int (cst kr Vr k),p k]):=by
  rw [dJ (p:=ah) (g:=λk=>.tup [ah k,.int (cst kr Vr k),p k]) λk hk=>?_]
  have hk:=cF.1 hk
  obtain⟨q,hq⟩:=at_ k hk
  have ec:cst kr Vr k=q.1:=by unfold cst;rw [hq];rfl
  dsimp! only [rH hq,sj,hp k hk,ec]
 dsimp! only [J] at cc;dsimp! only [gL,e,so,ll,cc]
end
theorem vo(k:List Int):∀l:Ks,(mh k l).length<=l.length+1
 |[]=>zzE _
 |x::l=>by
  unfold mh;split
  ·omega
  ·split
   ·exact zzE _
   ·have:=vo k l
    simp! [zzL];omega
theorem kG:∀l:Ks,(cb l).length<=l.length
 |[]=>zzE _
 |x::l=>by
  have h1:=vo x (cb l)
  have h2:=kG l
  show(mh x (cb l)).length<=l.length+1
  omega
theorem oK:∀M:Ks,fG (M.map ah)=some M
 |[]=>rfl
 |k::M=>by
  rw [zzF,fG,dS,oK M]
  rfl
def rg{M:Ks}(h1:∀k∈M,St.Ay k=true)(h2:(cb M).length<=18):Gy (lp M)=.ok (lp (cb M)):=by
 show(Res.of (fG (M.map ah))).bind _=_
 rw [oK];show(if(M.all St.Ay&&decide ((cb M).length<=18))=true then Res.ok _ else .bad)=_
 rw [if_pos];rw [zza,zzN];exact⟨zzT.2 h1,h2⟩
def Bu{ae:List Str}{w:Nat}(L:Fl ae w){k:List Int}(h:fm ae k):St.Ay k=true:=by
 obtain⟨r,c,rfl,ho⟩:=h
 have:=zu L ho
 simp! [St.Ay,zza,zzN];exact⟨⟨this.1,this.2.1⟩,this.2.2⟩
theorem sM{ns:List Int}:∀j,∃i,i<=j/\aY ns j=ns.getD i 0
 |0=>⟨0,zzE _,rfl⟩
 |j+1=>by
  unfold aY;split
  ·exact⟨j+1,zzE _,rfl⟩
  ·obtain⟨i,hi,e⟩:=sM (ns:=ns) j
   exact⟨i,by omega,e⟩
theorem rX{ns:List Int}:∀j i,i<=j->aY ns j<=ns.getD i 0
 |0,i,h=>by rw [show i=0 by omega];exact Int.le_refl _
 |j+1,i,h=>by
  unfold aY
  by_cases e:i=j+1
  ·subst e;split<;>omega
  ·have:=rX (ns:=ns) j i (by omega)
   split<;>omega
def n4{ns:List Int}(h:ns≠[]):(∀n∈ns,aY ns (ns.length-1)<=n)/\aY ns (ns.length-1)∈ns:=by
 have hp:=List.length_pos_iff.2 h
 refine⟨λn hn=>?_,?_⟩
 ·obtain⟨i,hi,e⟩:=List.getElem_of_mem hn
  have:=rX (ns:=ns) (ns.length-1) i (by omega)
  rw [zzK,zzg hi] at this;rw [<-e];exact this
 ·obtain⟨i,hi,e⟩:=sM (ns:=ns) (ns.length-1)
  have Lh:i<ns.length:=by omega
  rw [e,zzK,zzg Lh];exact List.getElem_mem Lh
theorem ie{α:Type}{f:PV->Res (Option PV)}{p q:α->PV}{g:α->Bool}:∀{xs:List α},(∀x∈xs,f (p x)=.ok (if g x then some (q x) else none))->aL f (xs.map p)=.ok ((xs.filter g).map q)
 |[],_=>rfl
 |x::xs,h=>by
  have ih:=ie (xs:=xs) λy hy=>h y (zzI _ hy)
  have h1:=h x (zzP ..)
  cases hg:g x with
  |true=>rw [hg] at h1;simp! [zzF,aL,h1,if_true,Res.well,Res.bind,ih,oc,zz3,hg]
  |false=>rw [hg] at h1;simp! [zzF,aL,h1,zze,if_false,Res.well,Res.bind,ih,oc,zz3,hg]
def inD{ks:Ks}{vs:List PV}{k:List Int}:kU (ah k) (.bo ks vs)=.ok (.bl (cm ks k)):=by
 show(Res.of (gQ (ah k))).bind (λk=>Res.ok (PV.bl (cm ks k)))=_
 rw [dS]
 rfl
def Nr(E:List Int->List Int->Int->Prop)(u:List Int)(G:Ks)(k:List Int):Prop:=k∈G/\∃c,jh E (·=u) k c/\∀k'∈G,∀c',jh E (·=u) k' c'->c<=c'
def mv{kr:Ks}{Vr:Vs}{E:List Int->List Int->Int->Prop}{S:List Int->Prop}(R:sY E S kr Vr){k:List Int}:k∈kr↔∃q,ag kr Vr k=some q:=by
 rw [<-dO,bY k R.len,zzp]
section
variable{ae:List Str}{w:Nat}{sl:Bool}{cl pr:Int}{G:Ks}{u:List Int}
def C6(F:bb)(L:Fl ae w)(hg:F "need_goals" [fl ae,lp G]=.ok .aH){kr:Ks}{Vr:Vs}(hf:F "spread_from" [fl ae,wk sl cl pr,ah u]=.ok (.bo kr (Vr.map val)))(R:sY (E1 ae sl cl pr) (·∈[u]) kr Vr)(h:∀u∈G,fm ae u)(lG:G.length<=18):
 ∃N:Ks,aA F bJ [fl ae,wk sl cl pr,lp G,ah u]=.ok (lp N)/\yV N/\∀k,k∈N↔Nr (E1 ae sl cl pr) u G k:=by
 have so:=rg (M:=G) (λk hk=>Bu L (h k hk)) (zzU (kG G) lG)
 have l1:((cb G).map ah).length<fF:=zzV (m:=18) (by rw [zzl];exact zzU (kG G) lG) (by decide)
 generalize hFd:(cb G).filter (λk=>cm kr k)=Fd
 have lF:(Fd.map ah).length<fF:=zzV (m:=18) (by rw [zzl,<-hFd];exact zzU (List.length_filter_le ..) (zzU (kG G) lG)) (by decide)
 have mF:∀k,k∈Fd↔k∈G/\k∈kr:=λk=>by rw [<-hFd,List.mem_filter,cF,dO]
 have at_:∀k∈Fd,∃q,ag kr Vr k=some q/\cst kr Vr k=q.1:=λk hk=>by
  obtain⟨q,hq⟩:=(mv R).1 ((mF k).1 hk).2
  exact⟨q,hq,by unfold cst;rw [hq];rfl⟩
 have c1:aL (λx=>((Tg.one 0).put x [.no,.val (.bo kr (Vr.map val))]).bind λav=>(aD F (.cmp .xy (.var 0) (.var 1)) av).bind λt=>pB t λt=>if t then(aD F (.var 0) av).bind λy=>.ok (some y) else .ok none) ((cb G).map ah)=.ok (Fd.map ah):=by
  rw [<-hFd];refine ie λk hk=>?_
  dsimp! only [inD];cases cm kr k<;>dsimp! only [J]
 have c2:aL (λx=>((Tg.one 0).put x [.no,.val (.bo kr (Vr.map val))]).bind λav=>(aD F (.sub (.sub (.var 1) (.var 0)) (.cst (.int 0))) av).bind λy=>.ok (some y)) (Fd.map ah)=.ok ((Fd.map (cst kr Vr)).map .int):=by
  rw [List.map_map,dJ (p:=ah) (g:=λk=>.int (cst kr Vr k)) λk hk=>?_]
  ·rfl
  ·obtain⟨q,hq,ec⟩:=at_ k hk
   dsimp! only [rH hq,sj,ec]
 generalize hm:(if Fd.map (cst kr Vr)=[] then PV.aH else .int (aY (Fd.map (cst kr Vr)) ((Fd.map (cst kr Vr)).length-1)))=m at *
 have c3:aL (λx=>((Tg.one 0).put x [.no,.val (.bo kr (Vr.map val)),.val m]).bind λav=>(aD F (.cmp .eq (.sub (.sub (.var 1) (.var 0)) (.cst (.int 0))) (.var 2)) av).bind λt=>pB t λt=>if t then(aD F (.var 0) av).bind λy=>.ok (some y) else .ok none) (Fd.map ah)=.ok ((Fd.filter λk=>cst kr Vr k==aY (Fd.map (cst kr Vr)) ((Fd.map (cst kr Vr)).length-1)).map ah):=by
  refine ie λk hk=>?_
  have ff:Fd.map (cst kr Vr)≠[]:=λz=>by rw [List.map_eq_nil_iff] at z;rw [z] at hk;cases hk
  rw [if_neg ff] at hm;obtain⟨q,hq,ec⟩:=at_ k hk
  rw [ec];subst hm;dsimp! only [rH hq,sj];cases(q.1==aY (Fd.map (cst kr Vr)) ((Fd.map (cst kr Vr)).length-1))<;>dsimp! only [J]
 refine⟨Fd.filter λk=>cst kr Vr k==aY (Fd.map (cst kr Vr)) ((Fd.map (cst kr Vr)).length-1),?_,?_,λk=>?_⟩
 ·dsimp! only [J] at c1 c2 c3;have io:intsOf ((Fd.map (cst kr Vr)).map .int)=some (Fd.map (cst kr Vr)):=fq _
  dsimp! only [bJ,hg,hf,so,l1,c1,lF,c2,io,hm,c3]
 ·rw [<-hFd];exact(eU.filter _).filter _
 ·have one:∀x,x∈[u]->x=u:=λx hx=>zzi.1 hx
  have two:∀x,x=u->x∈[u]:=λx hx=>zzi.2 hx
  have Su:∀k∈Fd,jh (E1 ae sl cl pr) (·=u) k (cst kr Vr k):=λk hk=>by
   obtain⟨q,hq,ec⟩:=at_ k hk
   rw [ec];exact pU one (R.OC k q hq).2
  have RP:∀k'∈G,∀c',jh (E1 ae sl cl pr) (·=u) k' c'->k'∈Fd/\cst kr Vr k'<=c':=λk' hk' c' hw=>by
   obtain⟨q,hq,hl⟩:=zY R (pU two hw)
   refine⟨(mF k').2 ⟨hk',(mv R).2 ⟨q,hq⟩⟩,?_⟩;unfold cst;rw [hq];exact hl
  have mn:∀k∈Fd,(∀k'∈Fd,aY (Fd.map (cst kr Vr)) ((Fd.map (cst kr Vr)).length-1)<=cst kr Vr k')/\∃k0∈Fd,cst kr Vr k0=aY (Fd.map (cst kr Vr)) ((Fd.map (cst kr Vr)).length-1):=λk hk=>by
   have ff:Fd.map (cst kr Vr)≠[]:=λz=>by rw [List.map_eq_nil_iff] at z;rw [z] at hk;cases hk
   have:=n4 ff
   exact⟨λk' hk'=>this.1 _ (List.mem_map_of_mem hk'),zzx.1 this.2⟩
  rw [List.mem_filter,zzy]
  constructor
  ·rintro ⟨hk,ek⟩
   refine⟨((mF k).1 hk).1,cst kr Vr k,Su k hk,λk' hk' c' hw=>?_⟩
   obtain⟨a,b⟩:=RP k' hk' c' hw
   have:=(mn k hk).1 k' a
   omega
  ·rintro ⟨hk,c,hw,hle⟩
   obtain⟨a,b⟩:=RP k hk c hw
   obtain⟨m1,k0,m2,m3⟩:=mn k a
   have h1:=hle k0 ((mF k0).1 m2).1 _ (Su k0 m2)
   have h2:=m1 k a
   exact⟨a,by omega⟩
end
theorem w5:∀(n:Nat) (a b:List Int),eqs (kE n) (a.map .int) (b.map .int)=decide (a=b)
 |_,[],[]=>rfl
 |_,[],_::_=>rfl
 |_,_::_,[]=>rfl
 |n,x::a,y::b=>by
  have:kE n (.int x) (.int y)=(x==y):=by cases n<;>rfl
  simp! [zzF,eqs,w5 n a b,this];rw [Bool.eq_iff_iff];simp
def Hz(n:Nat)(a b:List Int):kE (n+1) (ah a) (ah b)=decide (a=b):=w5 n a b
theorem kS:∀(n:Nat) (a b:Ks),eqs (kE (n+1)) (a.map ah) (b.map ah)=decide (a=b)
 |_,[],[]=>rfl
 |_,[],_::_=>rfl
 |_,_::_,[]=>rfl
 |n,x::a,y::b=>by
  simp! [zzF,eqs,kS n a b,Hz];rw [Bool.eq_iff_iff];simp
def Fs(n:Nat)(a:List Int):(a.map PV.int).all (Ci.plain n)=true:=by
 simp! [zzT,zzx]
 rintro x ⟨i,_,rfl⟩
 cases n<;>rfl
def He(n:Nat)(a:List Int):Ci.plain (n+1) (ah a)=true:=Fs n a
def C5(n:Nat)(a:Ks):(a.map ah).all (Ci.plain (n+1))=true:=by
 simp! [zzT,zzx]
 rintro x ⟨i,_,rfl⟩
 exact He n i
def kH(n:Nat)(a:Ks):Ci.plain (n+2) (.lst (a.map ah))=true:=C5 n a
def UR(a b:Ks):iQ (.lst (a.map ah)) (.lst (b.map ah))=.ok (.bl (decide (a=b))):=by
 show(if(Ci.plain 9 (.lst (a.map ah))&&Ci.plain 9 (.lst (b.map ah)))=true then Res.ok (PV.bl (kE 9 (.lst (a.map ah)) (.lst (b.map ah)))) else .bad)=_
 rw [kH 7,kH 7];exact congrArg (λz=>Res.ok (PV.bl z)) (kS 7 a b)
def NV(a b:Ks):gy (.lst (a.map ah)) (.lst (b.map ah))=.ok (.bl (!decide (a=b))):=by
 show(if(Ci.plain 9 (.lst (a.map ah))&&Ci.plain 9 (.lst (b.map ah)))=true then Res.ok (PV.bl (!kE 9 (.lst (a.map ah)) (.lst (b.map ah)))) else .bad)=_
 rw [kH 7,kH 7];exact congrArg (λz=>Res.ok (PV.bl (!z))) (kS 7 a b)
def Nd(f:List PV->Res PV):Prop:=∀ae,rk ae->∃S:Ks,f [fl ae]=.ok (.lst (S.map ah))/\S.length<=36/\yV S/\∀k,k∈S↔fm ae k
def IV{F:bb}(h:CG F):Nd (F "_law_spots"):=by
 intro ae R;obtain⟨L,e,hu,hl,hm⟩:=h ae R
 refine⟨L.map kN,?_,by simpa using hl,?_,λk=>?_⟩
 ·rw [e,List.map_map]
  rfl
 ·exact List.pairwise_map.2 hu
 ·rw [zzx]
  constructor
  ·rintro ⟨p,hp,rfl⟩
   have:=(hm p.1 p.2).1 hp
   exact⟨_,_,rfl,pC.2 ⟨by omega,by omega,this⟩⟩
  ·rintro ⟨r,c,rfl,h⟩
   obtain⟨a,b,d⟩:=pC.1 h
   refine⟨(r.toNat,c.toNat),(hm _ _).2 d,?_⟩;show [(r.toNat:Int),(c.toNat:Int)]=[r,c]
   rw [Int.toNat_of_nonneg a,Int.toNat_of_nonneg b]
theorem nZ{α:Type}:∀(ps:List (List Int×α)) (ks:Ks) (vs:List α),(ks++ps.map (·.1)).Nodup->dQ ps ks vs=(ks++ps.map (·.1),vs++ps.map (·.2))
 |[],ks,vs,_=>by simp [dQ]
 |p::ps,ks,vs,h=>by
  have hn:cm ks p.1=false:=by
   cases hx:cm ks p.1 with
   |false=>rfl
   |true=>
    have:=(List.nodup_append.1 h).2.2 _ (dO.1 hx) p.1 (by simp)
    exact absurd rfl this
  have hm:=nZ ps (ks++[p.1]) (vs++[p.2]) (by rw [List.append_assoc];exact h)
  rw [dQ,bp,aX,hn,if_neg (by simp),if_neg (by simp),hm,List.append_assoc,List.append_assoc]
  rfl
def d8{U:Ks}{ks:Ks}(nd:ks.Nodup)(h:∀k∈ks,k∈U):ks.length<=U.length:=by
 induction ks generalizing U with
 |nil=>exact Nat.zero_le _
 |cons a ks ih=>
  obtain⟨n1,n2⟩:=List.nodup_cons.1 nd
  have ha:=h a (zzP ..)
  have:=ih (U:=U.erase a) n2 λk hk=>(List.mem_erase_of_ne (λz:k=a=>n1 (by rw [<-z];exact hk))).2 (h k (zzI _ hk))
  rw [List.length_erase_of_mem ha] at this;have:=List.length_pos_of_mem ha
  rw [zzL];omega
theorem F8:∀L:List (List Int×PV),va (L.map λq=>.tup [ah q.1,q.2])=some L
 |[]=>rfl
 |q::L=>by
  show(gQ (ah q.1)).bind (λk'=>(va (L.map λq=>.tup [ah q.1,q.2])).map ((k',q.2)::·))=_
  rw [dS,F8 L]
  rfl
def Ir{L:List (List Int×PV)}(nd:(L.map (·.1)).Nodup):dD .dict [.lst (L.map λq=>.tup [ah q.1,q.2])]=.ok (.bo (L.map (·.1)) (L.map (·.2))):=by
 show(Res.of (va _)).bind _=_
 rw [F8];show Res.ok (PV.bo (dQ L [] []).1 (dQ L [] []).2)=_
 rw [nZ _ _ _ (by rw [List.nil_append];exact nd)]
 rfl
theorem sA{α σ:Type}{body:PV->Sl->Res Ci.Fl}{g:α->PV}{mk:σ->Sl}:∀(l:List α) (s:σ),(∀a∈l,∀s,∃s',body (g a) (mk s)=.ok (.nx (mk s')))->∃s',forL body (l.map g) (mk s)=.ok (.nx (mk s'))
 |[],s,_=>⟨s,rfl⟩
 |a::l,s,h=>by
  obtain⟨s1,e1⟩:=h a (zzP ..) s
  obtain⟨s2,e2⟩:=sA l s1 λb hb=>h b (zzI _ hb)
  exact⟨s2,by rw [zzF,forL,e1,qr];exact e2⟩
def lY(E:List Int->List Int->Int->Prop)(G:Ks)(u:List Int)(m:Option Int):Prop:=(∀c,m=some c->(∃g∈G,jh E (·=u) g c)/\∀g∈G,∀c',jh E (·=u) g c'->c<=c')/\(m=none->∀g∈G,∀c,¬jh E (·=u) g c)
section
variable{E:List Int->List Int->Int->Prop}{G H:Ks}{u:List Int}{m m' n:Option Int}
def lY.swap(h:lY E (G++H) u n):lY E (H++G) u n:=by
 have e:∀g,g∈H++G↔g∈G++H:=λg=>by rw [List.mem_append,List.mem_append,Or.comm]
 refine⟨λc hc=>⟨?_,λg hg=>(h.1 c hc).2 g ((e g).1 hg)⟩,λhn g hg=>h.2 hn g ((e g).1 hg)⟩
 obtain⟨g,hg,k⟩:=(h.1 c hc).1
 exact⟨g,(e g).2 hg,k⟩
def lY.le(h:lY E (G++H) u n){c:Int}(h1:lY E G u (some c)):∃d,n=some d/\d<=c:=by
 obtain⟨g,hg,k⟩:=(h1.1 c rfl).1
 cases n with
 |none=>exact absurd k (h.2 rfl g (List.mem_append.2 (.inl hg)) c)
 |some d=>exact⟨d,rfl,(h.1 d rfl).2 g (List.mem_append.2 (.inl hg)) c k⟩
def lY.of(h:lY E (G++H) u n)(h1:lY E G u m)(h2:lY E H u m'){d:Int}(hd:n=some d):m=some d\/m'=some d:=by
 obtain⟨g,hg,k⟩:=(h.1 d hd).1
 rcases List.mem_append.1 hg with hg|hg
 ·left
  cases m with
  |none=>exact absurd k (h1.2 rfl g hg d)
  |some c=>
   have a:=(h1.1 c rfl).2 g hg d k
   obtain⟨d',e,b⟩:=h.le h1
   rw [hd] at e;cases e;rw [show c=d by omega]
 ·right
  cases m' with
  |none=>exact absurd k (h2.2 rfl g hg d)
  |some c=>
   have a:=(h2.1 c rfl).2 g hg d k
   obtain⟨d',e,b⟩:=h.swap.le h2
   rw [hd] at e;cases e;rw [show c=d by omega]
def lY.nr(h:lY E G u m){k:List Int}:Nr E u G k↔∃c,m=some c/\k∈G/\jh E (·=u) k c:=by
 constructor
 ·rintro ⟨hk,c,w,l⟩
  cases m with
  |none=>exact absurd w (h.2 rfl k hk c)
  |some d=>
   obtain⟨g,hg,w'⟩:=(h.1 d rfl).1
   have a:=l g hg d w'
   have b:=(h.1 d rfl).2 k hk c w
   exact⟨d,rfl,hk,by rw [show d=c by omega];exact w⟩
 ·rintro ⟨c,hc,hk,w⟩
  exact⟨hk,c,w,(h.1 c hc).2⟩
def lY.both(h:lY E (G++H) u n)(h1:lY E G u m)(h2:lY E H u m'){k:List Int}:Nr E u (G++H) k↔(∃d,n=some d/\m=some d/\Nr E u G k)\/∃d,n=some d/\m'=some d/\Nr E u H k:=by
 rw [h.nr]
 constructor
 ·rintro ⟨d,hd,hk,w⟩
  rcases List.mem_append.1 hk with hk|hk
  ·left
   cases m with
   |none=>exact absurd w (h1.2 rfl k hk d)
   |some c=>
    have a:=(h1.1 c rfl).2 k hk d w
    obtain⟨d',e,b⟩:=h.le h1
    rw [hd] at e;cases e;have z:c=d:=by omega
    subst z;exact⟨c,hd,rfl,h1.nr.2 ⟨c,rfl,hk,w⟩⟩
  ·right
   cases m' with
   |none=>exact absurd w (h2.2 rfl k hk d)
   |some c=>
    have a:=(h2.1 c rfl).2 k hk d w
    obtain⟨d',e,b⟩:=h.swap.le h2
    rw [hd] at e;cases e;have z:c=d:=by omega
    subst z;exact⟨c,hd,rfl,h2.nr.2 ⟨c,rfl,hk,w⟩⟩
 ·rintro (⟨d,hd,e,k'⟩|⟨d,hd,e,k'⟩)
  ·obtain⟨c,e',hk,w⟩:=h1.nr.1 k'
   rw [e] at e';cases e';exact⟨d,hd,List.mem_append.2 (.inl hk),w⟩
  ·obtain⟨c,e',hk,w⟩:=h2.nr.1 k'
   rw [e] at e';cases e';exact⟨d,hd,List.mem_append.2 (.inr hk),w⟩
end
structure sF(E:List Int->List Int->Int->Prop)(G ks:Ks)(vs:List Int):Prop where
 len:ks.length=vs.length
 lst:∀u,lY E G u (ag ks vs u)
theorem xa{α:Type}{f:List Int->α}{k:List Int}:∀{L:Ks},ag L (L.map f) k=if k∈L then some (f k) else none
 |[]=>rfl
 |x::L=>by
  show(if x=k then some (f x) else ag L (L.map f) k)=_
  rw [xa]
  by_cases e:x=k
  ·subst e;simp
  ·have:(k∈x::L)=(k∈L):=by rw [zzm,eq_iff_iff];exact⟨λz=>z.resolve_left λy=>e y.symm,.inr⟩
   simp! [this,if_neg e]
def Ew{ae:List Str}{sl:Bool}{cl pr:Int}{G:Ks}{kr:Ks}{Vr:Vs}(R:sY (Et ae sl cl pr) (·∈G) kr Vr):sF (E1 ae sl cl pr) G (cb kr) ((cb kr).map (cst kr Vr)):=by
 refine⟨by rw [zzl],λu=>?_⟩
 have to:∀g∈G,∀c,jh (E1 ae sl cl pr) (·=u) g c->∃q,ag kr Vr u=some q/\q.1<=c:=λg hg c k=>by
  obtain⟨s,rfl,k'⟩:=vw (E':=Et ae sl cl pr) (λ_ _ _ h=>h) k
  exact zY R (pU (λx hx=>by rw [hx];exact hg) k')
 rw [xa];refine⟨λc hc=>?_,λhn g hg c k=>?_⟩
 ·split at hc
  ·rename_i hk;obtain⟨q,hq⟩:=(mv R).1 (cF.1 hk)
   have ec:cst kr Vr u=q.1:=by unfold cst;rw [hq];rfl
   rw [ec] at hc;cases hc;refine⟨?_,λg hg c' k=>?_⟩
   ·obtain⟨s,hs,k⟩:=vw (E':=E1 ae sl cl pr) (λ_ _ _ h=>h) (R.OC u q hq).2
    exact⟨s,hs,k⟩
   ·obtain⟨q',hq',l⟩:=to g hg c' k
    rw [hq] at hq';cases hq';exact l
  ·cases hc
 ·split at hn
  ·cases hn
  ·rename_i hk;obtain⟨q,hq,_⟩:=to g hg c k
   exact hk (cF.2 ((mv R).2 ⟨q,hq⟩))
noncomputable abbrev bk(ks:Ks)(vs:List Int):PV:=.bo ks (vs.map .int)
def wM{ks:Ks}{vs:List Int}{u:List Int}{c:Int}(h:ag ks vs u=some c):bg (bk ks vs) (ah u)=.ok (.int c):=by
 show(Res.of (gQ (ah u))).bind (λk=>Res.of (ag ks (vs.map PV.int) k))=_
 rw [dS];show Res.of (ag ks (vs.map PV.int) u)=_
 rw [fX,h]
 rfl
def vL(ns:List Int):gy (cX ns) (.lst [])=.ok (.bl (!decide (ns=[]))):=by
 have e:KW (cX ns)=true:=sQ ns 8
 unfold gy;rw [e];cases ns<;>rfl
def ID{S:Ks}{m:Int}(h0:0<=m)(h1:m<((S.map ah).length:Int)):∃k∈S,bg (lp S) (.int m)=.ok (ah k):=by
 obtain⟨j,rfl⟩:=zzw h0
 rw [zzl] at h1;have hj:j<S.length:=by omega
 refine⟨S[j],List.getElem_mem hj,?_⟩;show Res.of (tG (S.map ah) (j:Int))=_
 rw [my (k:=j) (by simpa using hj),List.getElem_map]
 rfl
def qN(F:bb)(hp:jV F){ns:List Int}{S:Ks}(hS:S≠[]){a b:Int}(ha:0<=a)(hb:0<=b){s1 s2:Ci.Slot}{r:Sl}:∃G:Ks,G≠[]/\G.length<=3/\(∀k∈G,k∈S)/\aD F (.comp 1 [3,0] (.one 0) (.pH (.bin .add (.cst (.int 1)) (.call "_law_pick" (.cons (.var 0) (.cons (.cst (.int a)) (.cons (.cst (.int 3)) .nil)))))) (.sub (.var 1) (.call "_law_pick" (.cons (.var 2) (.cons (.bin .add (.cst (.int b)) (.var 0)) (.cons (.blt .len (.cons (.var 1) .nil)) .nil)))))) (.val (cX ns)::s1::s2::.val (lp S)::r)=.ok (lp G):=by
 obtain⟨m,em,m0,m3⟩:=hp ns a 3 ha (by decide)
 have key:∀i:Nat,∃k,k∈S/\∃m,F "_law_pick" [cX ns,.int (b+(0+(i:Int))),.int ((S.map ah).length:Int)]=.ok (.int m)/\bg (lp S) (.int m)=.ok (ah k):=λi=>by
  obtain⟨m,e,h0,h1⟩:=hp ns (b+(0+(i:Int))) ((S.map ah).length:Int) (by omega) (by rw [zzl];have:=List.length_pos_iff.2 hS;omega)
  obtain⟨k,hk,e'⟩:=ID h0 h1
  exact⟨k,hk,m,e,e'⟩
 obtain⟨f,hf⟩:=Classical.skolem.1 key
 obtain⟨n,hn⟩:=zzw m0
 have hr:gr 0 (1+m).toNat=(List.range (1+n)).map λi:Nat=>PV.int (0+(i:Int)):=by
  rw [show(1+m).toNat=1+n by omega]
  rfl
 have sm:aV (1+m)=true:=by simp! [aV,zza,zzN];omega
 have ll:((List.range (1+n)).map λi:Nat=>PV.int (0+(i:Int))).length<fF:=by
  rw [zzl,List.length_range];exact zzV (m:=3) (by omega) (by decide)
 refine⟨(List.range (1+n)).map f,λz=>?_,by rw [zzl,List.length_range];omega,λk hk=>?_,?_⟩
 ·rw [List.map_eq_nil_iff,List.range_eq_nil] at z;omega
 ·obtain⟨i,_,rfl⟩:=zzx.1 hk
  exact(hf i).1
 ·have cc:aL (λx=>((Tg.one 0).put x [.no,.val (lp S),.val (cX ns)]).bind λav=>(aD F (.sub (.var 1) (.call "_law_pick" (.cons (.var 2) (.cons (.bin .add (.cst (.int b)) (.var 0)) (.cons (.blt .len (.cons (.var 1) .nil)) .nil))))) av).bind λy=>.ok (some y)) ((List.range (1+n)).map λi:Nat=>PV.int (0+(i:Int)))=.ok ((List.range (1+n)).map λi=>ah (f i)):=by
   refine dJ λi _=>?_
   obtain⟨_,m',e1,e2⟩:=hf i
   dsimp! only [e1,e2]
  dsimp! only [J] at cc;dsimp! only [em,sm,hr,ll,cc];show _=Res.ok (PV.lst (((List.range (1+n)).map f).map ah))
  rw [List.map_map]
  rfl
def pX(F:bb){ae:List Str}{sl:Bool}{cl pr:Int}{G:Ks}{as:Es}{env:Sl}(ha:cB F as env=.ok [fl ae,wk sl cl pr,lp G])(h:∃kr Vr,∃p:List Int->PV,F "field" [fl ae,wk sl cl pr,lp G]=.ok (.lst ((cb kr).map λk=>.tup [ah k,.int (cst kr Vr k),p k]))/\sY (Et ae sl cl pr) (·∈G) kr Vr/\∀k∈kr,fm ae k):∃ks vs,aD F (.blt .dict (.cons (.comp 1 [] (.one 0) (.seq (.call "field" as)) (.slice (.var 0) .no (.some (.cst (.int 2))))) .nil)) env=.ok (bk ks vs)/\sF (E1 ae sl cl pr) G ks vs:=by
 obtain⟨kr,Vr,p,e,R,_⟩:=h
 refine⟨_,_,?_,Ew R⟩;have ll:((cb kr).map λk=>PV.tup [ah k,.int (cst kr Vr k),p k]).length<fF:=zzV (m:=36) (by rw [zzl,sL R.nr];exact R.le) (by decide)
 have Ik:∀a b c:PV,gD (.tup [a,b,c]) none (some 2)=.ok (.tup [a,b]):=λa b c=>rfl
 have cc:aL (λx=>((Tg.one 0).put x [.no]).bind λav=>(aD F (.slice (.var 0) .no (.some (.cst (.int 2)))) av).bind λy=>.ok (some y)) ((cb kr).map λk=>PV.tup [ah k,.int (cst kr Vr k),p k])=.ok ((cb kr).map λk=>PV.tup [ah k,.int (cst kr Vr k)]):=by
  refine dJ λk _=>?_
  dsimp! only [Ik]
 have dd:=Ir (L:=(cb kr).map λk=>(k,PV.int (cst kr Vr k))) (by rw [List.map_map];exact(List.map_id (cb kr)).symm▸eU.nodup)
 simp! [List.map_map,Function.comp_def,List.map_id'] at dd;dsimp! only [J] at cc;dsimp! only [ha,e,ll,cc,dd];show _=Res.ok (PV.bo _ (((cb kr).map (cst kr Vr)).map PV.int))
 rw [List.map_map]
 rfl
noncomputable def iB:Ss:=#v[.ite (.and (.cmp .xy (!9) (!13)) (.cmp .eq (.sub (!13) (!9)) (.sub (!8) (!9)))) #v[.ni 11 (.call "nearest_goals" #v[!1,!2,!12,!9])] .nil]
noncomputable def Dn(m n:Option Int)(N:Ks):Ks:=if m≠none/\m=n then N else []
def Gm(F:bb){A B:PV}{s0 s3 s4 s5 s6 s7 s10 s12 s13:Ci.Slot}{G ks k3:Ks}{vs v3:List Int}{u:List Int}{N acc:Ks}(l1:ks.length=vs.length)(hn:F "nearest_goals" [A,B,lp G,ah u]=.ok (lp N))(hc:∀c,ag ks vs u=some c->∃d,ag k3 v3 u=some d)(hN:N.length<=3)(ha:acc.length<=3):
 (((Tg.two 12 13).put (.tup [lp G,bk ks vs]) [s0,.val A,.val B,s3,s4,s5,s6,s7,.val (bk k3 v3),.val (ah u),s10,.own (lp acc),s12,s13]).bind λav=>aG F iB av)=.ok (.nx [s0,.val A,.val B,s3,s4,s5,s6,s7,.val (bk k3 v3),.val (ah u),s10,.own (lp (acc++Dn (ag ks vs u) (ag k3 v3 u) N)),.val (lp G),.val (bk ks vs)]):=by
 have gh:=bY (vs:=vs) u l1
 cases hm:ag ks vs u with
 |none=>
  rw [hm] at gh;have e1:kU (ah u) (bk ks vs)=.ok (.bl false):=by rw [inD,gh];rfl
  dsimp! only [iB,e1,Dn,ne_eq,not_true_eq_false,false_and,if_false,zz6]
 |some c=>
  rw [hm] at gh;obtain⟨d,hd⟩:=hc c hm
  have e1:kU (ah u) (bk ks vs)=.ok (.bl true):=by rw [inD,gh];rfl
  have e2:=wM hm
  have e3:=wM hd
  rw [hd]
  by_cases z:c=d
  ·have z1:(c==d)=true:=by rw [z];exact beq_self_eq_true d
   have ll:(acc.map ah).length+(N.map ah).length<=fF:=zzU (m:=6) (by rw [zzl,zzl];omega) (by decide)
   have z2:Dn (some c) (some d) N=N:=by unfold Dn;rw [if_pos];exact⟨(λq=>by cases q),by rw [z]⟩
   rw [z2,show lp (acc++N)=.lst (acc.map ah++N.map ah) from congrArg PV.lst List.map_append];dsimp! only [iB,e1,e2,e3,z1,hn,ll]
  ·have z1:(c==d)=false:=by rw [beq_eq_false_iff_ne];exact z
   have z2:Dn (some c) (some d) N=[]:=by unfold Dn;rw [if_neg];rintro ⟨_,q⟩;cases q;exact z rfl
   rw [z2,zz6];dsimp! only [iB,e1,e2,e3,z1]
noncomputable def QE:S:=.set 10 (.cG 1 [9] (.one 0) (.seq (.tup (.cons (.var 6) (.cons (.var 7) .nil)))) (.cmp .xy (.var 1) (.var 0)) (.sub (.var 0) (.var 1)))
noncomputable def ND:S:=.ite (.or (.cmp .ne (.cmp .eq (.var 10) (.lst .nil)) (.cmp .vi (.var 9) (.var 8))) (.and (.cmp .ne (.var 10) (.lst .nil)) (.cmp .ne (.sub (.var 8) (.var 9)) (.blt .vb (.cons (.var 10) .nil)))))
 (.cons (.ret (.cst (.bl false)))
 .nil)
 .nil
noncomputable def Pf:S:=.da (.two 12 13) (.seq (.tup (.cons (.tup (.cons (.var 4) (.cons (.var 6) .nil))) (.cons (.tup (.cons (.var 5) (.cons (.var 7) .nil))) .nil)))) iB
noncomputable def NX:S:=.ite (.cmp .ne (.call "nearest_goals" (.cons (.var 1) (.cons (.var 2) (.cons (.bin .add (.var 4) (.var 5)) (.cons (.var 9) .nil))))) (.tR (.iM 11)))
 (.cons (.ret (.cst (.bl false)))
 .nil)
 .nil
noncomputable def lB:Ss:=#v[QE,ND,.own 11 (.lst .nil),Pf,NX]
section
variable{s0 s3 s4 s5 s6 s7 s8 s10 s11 s12 s13:Ci.Slot}{A B:PV}{k1 k2 k3:Ks}{v1 v2 v3:List Int}{u:List Int}
def JN(F:bb)(l1:k1.length=v1.length)(l2:k2.length=v2.length):fU F QE [s0,.val A,.val B,s3,s4,s5,.val (bk k1 v1),.val (bk k2 v2),s8,.val (ah u),s10,s11,s12,s13]=.ok (.nx [s0,.val A,.val B,s3,s4,s5,.val (bk k1 v1),.val (bk k2 v2),s8,.val (ah u),.val (cX ((ag k1 v1 u).toList++(ag k2 v2 u).toList)),s11,s12,s13]):=by
 have one:∀(k:Ks) (v:List Int),k.length=v.length->(((Tg.one 0).put (bk k v) [.no,.val (ah u)]).bind λav=>(aD F (.cmp .xy (.var 1) (.var 0)) av).bind λt=>pB t λt=>if t then(aD F (.sub (.var 0) (.var 1)) av).bind λy=>.ok (some y) else .ok none)=.ok ((ag k v u).map PV.int):=λk v l=>by
  have gh:=bY (vs:=v) u l
  cases hm:ag k v u with
  |none=>
   rw [hm] at gh;have e1:kU (ah u) (bk k v)=.ok (.bl false):=by rw [inD,gh];rfl
   dsimp! only [e1]
   rfl
  |some c=>
   rw [hm] at gh;have e1:kU (ah u) (bk k v)=.ok (.bl true):=by rw [inD,gh];rfl
   dsimp! only [e1,wM hm]
   rfl
 have cc:aL (λx=>((Tg.one 0).put x [.no,.val (ah u)]).bind λav=>(aD F (.cmp .xy (.var 1) (.var 0)) av).bind λt=>pB t λt=>if t then(aD F (.sub (.var 0) (.var 1)) av).bind λy=>.ok (some y) else .ok none) [bk k1 v1,bk k2 v2]=.ok (((ag k1 v1 u).toList++(ag k2 v2 u).toList).map PV.int):=by
  rw [aL,one k1 v1 l1,aL,one k2 v2 l2];cases ag k1 v1 u<;>cases ag k2 v2 u<;>rfl
 have ll:(2:Nat)<fF:=by decide
 dsimp! only [J] at cc;dsimp! only [QE,ll,cc]
def IF(F:bb)(l3:k3.length=v3.length){X:List Int}(h:X=[]/\ag k3 v3 u=none\/X≠[]/\ag k3 v3 u=some (aY X (X.length-1))):fU F ND [s0,.val A,.val B,s3,s4,s5,s6,s7,.val (bk k3 v3),.val (ah u),.val (cX X),s11,s12,s13]=.ok (.nx [s0,.val A,.val B,s3,s4,s5,s6,s7,.val (bk k3 v3),.val (ah u),.val (cX X),s11,s12,s13]):=by
 have gh:=bY (vs:=v3) u l3
 have e3:i6 (ah u) (bk k3 v3)=.ok (.bl (!cm k3 u)):=Ak
 rcases h with⟨rfl,hm⟩|⟨hX,hm⟩
 ·rw [hm] at gh;rw [gh] at e3;have e1:iQ (cX []) (.lst [])=.ok (.bl true):=eq_nil []
  have e2:gy (cX []) (.lst [])=.ok (.bl false):=vL []
  have e3:i6 (ah u) (bk k3 v3)=.ok (.bl true):=e3
  have q:gy (.bl true) (.bl true)=.ok (.bl false):=rfl
  dsimp! only [ND,e1,e2,e3,q]
 ·rw [hm] at gh;rw [gh] at e3;have e1:=eq_nil X
  have e2:=vL X
  rw [zz0 hX] at e1 e2;have q:gy (.bl false) (.bl (!(some (aY X (X.length-1))).isSome))=.ok (.bl false):=rfl
  have io:dD .vb [cX X]=.ok (.int (aY X (X.length-1))):=by
   show(Res.of (intsOf (X.map .int))).bind _=_
   rw [fq];exact if_pos (List.length_pos_iff.2 hX)
  dsimp! only [ND,e1,e2,e3,q,wM hm,io]
def Jd{E:List Int->List Int->Int->Prop}{G H N1 N2 N3:Ks}{m1 m2 m3:Option Int}(h:lY E (G++H) u m3)(h1:lY E G u m1)(h2:lY E H u m2)(s3:yV N3)(n1:∀k,k∈N1↔Nr E u G k)(n2:∀k,k∈N2↔Nr E u H k)(n3:∀k,k∈N3↔Nr E u (G++H) k):cb ([]++Dn m1 m3 N1++Dn m2 m3 N2)=N3:=by
 have dn:∀(m:Option Int) (N:Ks) k,k∈Dn m m3 N↔∃d,m3=some d/\m=some d/\k∈N:=λm N k=>by
  unfold Dn;split
  ·rename_i z;cases m with
   |none=>exact absurd rfl z.1
   |some d=>exact⟨λy=>⟨d,z.2.symm,rfl,y⟩,λ⟨_,_,_,y⟩=>y⟩
  ·rename_i z;refine⟨(λy=>by cases y),?_⟩
   rintro ⟨d,a,b,_⟩
   exact absurd ⟨by rw [b];exact(λq=>by cases q),by rw [a,b]⟩ z
 refine qA eU s3 λk=>?_
 rw [cF,List.nil_append,List.mem_append,dn,dn,n3,h.both h1 h2];simp! [n1,n2]
def Ia{E:List Int->List Int->Int->Prop}{G H:Ks}{m1 m2 m3:Option Int}(h:lY E (G++H) u m3)(h1:lY E G u m1)(h2:lY E H u m2):(m1.toList++m2.toList)=[]/\m3=none\/(m1.toList++m2.toList)≠[]/\m3=some (aY (m1.toList++m2.toList) ((m1.toList++m2.toList).length-1)):=by
 have mt:∀{ns:List Int} {d:Int},d∈ns->(∀n∈ns,d<=n)->ns≠[]/\some d=some (aY ns (ns.length-1)):=λ{ns d} hd hl=>by
  have ff:ns≠[]:=λz=>by rw [z] at hd;cases hd
  obtain⟨a,b⟩:=n4 ff
  have c:=a d hd
  have e:=hl _ b
  exact⟨ff,congrArg some (by omega)⟩
 have all:∀d,m3=some d->∀n∈m1.toList++m2.toList,d<=n:=λd hd n hn=>by
  rcases List.mem_append.1 hn with hn|hn
  ·rw [Option.mem_toList] at hn;rw [hn] at h1;obtain⟨d',e,l⟩:=h.le h1
   rw [hd] at e;cases e;exact l
  ·rw [Option.mem_toList] at hn;rw [hn] at h2;obtain⟨d',e,l⟩:=h.swap.le h2
   rw [hd] at e;cases e;exact l
 cases m3 with
 |none=>
  left
  refine⟨?_,rfl⟩;cases m1 with
  |some c=>obtain⟨_,e,_⟩:=h.le h1;cases e
  |none=>
   cases m2 with
   |some c=>obtain⟨_,e,_⟩:=h.swap.le h2;cases e
   |none=>rfl
 |some d=>
  right
  refine mt ?_ (all d rfl);rcases h.of h1 h2 rfl with z|z
  ·exact List.mem_append.2 (.inl (by rw [z];exact zzi.2 rfl))
  ·exact List.mem_append.2 (.inr (by rw [z];exact zzi.2 rfl))
variable{ae:List Str}{w:Nat}{sl:Bool}{cl pr:Int}{S G1 G2:Ks}{ns:List Int}
noncomputable abbrev lE(ns:List Int)(ae:List Str)(sl:Bool)(cl pr:Int)(S G1 G2 k1 k2 k3:Ks)(v1 v2 v3:List Int)(s9 s10 s11 s12 s13:Ci.Slot):Sl:=[.val (cX ns),.val (fl ae),.val (wk sl cl pr),.val (lp S),.val (lp G1),.val (lp G2),.val (bk k1 v1),.val (bk k2 v2),.val (bk k3 v3),s9,s10,s11,s12,s13]
def vz(f:List PV->Res PV)(ae:List Str)(sl:Bool)(cl pr:Int):Prop:=∀(G:Ks) (u:List Int),(∀u∈G,fm ae u)->G≠[]->G.length<=18->fm ae u->∃N:Ks,f [fl ae,wk sl cl pr,lp G,ah u]=.ok (lp N)/\yV N/\∀k,k∈N↔Nr (E1 ae sl cl pr) u G k
def Nh(F:bb)(L:Fl ae w)(hN:vz (F "nearest_goals") ae sl cl pr)(o1:∀u∈G1,fm ae u)(o2:∀u∈G2,fm ae u)(ne1:G1≠[])(ne2:G2≠[])(l1:G1.length<=3)(l2:G2.length<=3)(b1:sF (E1 ae sl cl pr) G1 k1 v1)(b2:sF (E1 ae sl cl pr) G2 k2 v2)(b3:sF (E1 ae sl cl pr) (G1++G2) k3 v3)(ou:fm ae u)(s10 s11 s12 s13:Ci.Slot):
 ∃PD Pu O8 Oz,aG F lB (lE ns ae sl cl pr S G1 G2 k1 k2 k3 v1 v2 v3 (.val (ah u)) s10 s11 s12 s13)=.ok (.nx (lE ns ae sl cl pr S G1 G2 k1 k2 k3 v1 v2 v3 (.val (ah u)) PD Pu O8 Oz)):=by
 obtain⟨N1,e1,t1,n1⟩:=hN G1 u o1 ne1 (by omega) ou
 obtain⟨N2,e2,t2,n2⟩:=hN G2 u o2 ne2 (by omega) ou
 have o3:∀u∈G1++G2,fm ae u:=λu hu=>(List.mem_append.1 hu).elim (o1 u) (o2 u)
 obtain⟨N3,e3,t3,n3⟩:=hN (G1++G2) u o3 (λz=>ne1 (List.append_eq_nil_iff.1 z).1) (by rw [zzM];omega) ou
 have q1:=b1.lst u
 have q2:=b2.lst u
 have q3:=b3.lst u
 have c1:N1.length<=3:=zzU (d8 t1.nodup λk hk=>((n1 k).1 hk).1) l1
 have c2:N2.length<=3:=zzU (d8 t2.nodup λk hk=>((n2 k).1 hk).1) l2
 have QY:=Jd q3 q1 q2 t3 n1 n2 n3
 have dl:∀m n (N:Ks),N.length<=3->(Dn m n N).length<=3:=λm n N h=>by unfold Dn;split;exact h;exact Nat.zero_le _
 have dm:∀m n (N:Ks) k,k∈Dn m n N->k∈N:=λm n N k h=>by unfold Dn at h;split at h;exact h;cases h
 have x1:=Gm F (A:=fl ae) (B:=wk sl cl pr) (s0:=.val (cX ns)) (s3:=.val (lp S)) (s4:=.val (lp G1)) (s5:=.val (lp G2)) (s6:=.val (bk k1 v1)) (s7:=.val (bk k2 v2)) (s10:=.val (cX ((ag k1 v1 u).toList++(ag k2 v2 u).toList))) (s12:=s12) (s13:=s13) (k3:=k3) (v3:=v3) (acc:=[]) b1.len e1 (λc hc=>by rw [hc] at q1;obtain⟨d,hd,_⟩:=q3.le q1;exact⟨d,hd⟩) c1 (by decide)
 have x2:=Gm F (A:=fl ae) (B:=wk sl cl pr) (s0:=.val (cX ns)) (s3:=.val (lp S)) (s4:=.val (lp G1)) (s5:=.val (lp G2)) (s6:=.val (bk k1 v1)) (s7:=.val (bk k2 v2)) (s10:=.val (cX ((ag k1 v1 u).toList++(ag k2 v2 u).toList))) (s12:=.val (lp G1)) (s13:=.val (bk k1 v1)) (k3:=k3) (v3:=v3) (acc:=[]++Dn (ag k1 v1 u) (ag k3 v3 u) N1) b2.len e2 (λc hc=>by rw [hc] at q2;obtain⟨d,hd,_⟩:=q3.swap.le q2;exact⟨d,hd⟩) c2 (by rw [List.nil_append];exact dl _ _ _ c1)
 have x4:fU F Pf (lE ns ae sl cl pr S G1 G2 k1 k2 k3 v1 v2 v3 (.val (ah u)) (.val (cX ((ag k1 v1 u).toList++(ag k2 v2 u).toList))) (.own (.lst [])) s12 s13)=.ok (.nx (lE ns ae sl cl pr S G1 G2 k1 k2 k3 v1 v2 v3 (.val (ah u)) (.val (cX ((ag k1 v1 u).toList++(ag k2 v2 u).toList))) (.own (lp ([]++Dn (ag k1 v1 u) (ag k3 v3 u) N1++Dn (ag k2 v2 u) (ag k3 v3 u) N2))) (.val (lp G2)) (.val (bk k2 v2)))):=by
  show forL (λx env=>((Tg.two 12 13).put x env).bind λav=>aG F iB av) [.tup [lp G1,bk k1 v1],.tup [lp G2,bk k2 v2]] _=_
  rw [forL];refine(congrArg (λz=>Res.bind z _) x1).trans ?_;show forL _ _ _=_
  rw [forL];refine(congrArg (λz=>Res.bind z _) x2).trans ?_
  rfl
 have so:=rg (M:=[]++Dn (ag k1 v1 u) (ag k3 v3 u) N1++Dn (ag k2 v2 u) (ag k3 v3 u) N2) (λk hk=>Bu L (by
  rw [List.nil_append] at hk;rcases List.mem_append.1 hk with hk|hk
  ·exact o1 k ((n1 k).1 (dm _ _ _ _ hk)).1
  ·exact o2 k ((n2 k).1 (dm _ _ _ _ hk)).1)) (by rw [QY];exact zzU (d8 t3.nodup λk hk=>((n3 k).1 hk).1) (by rw [zzM];omega))
 rw [QY] at so;have x5:fU F NX (lE ns ae sl cl pr S G1 G2 k1 k2 k3 v1 v2 v3 (.val (ah u)) (.val (cX ((ag k1 v1 u).toList++(ag k2 v2 u).toList))) (.own (lp ([]++Dn (ag k1 v1 u) (ag k3 v3 u) N1++Dn (ag k2 v2 u) (ag k3 v3 u) N2))) (.val (lp G2)) (.val (bk k2 v2)))=.ok (.nx (lE ns ae sl cl pr S G1 G2 k1 k2 k3 v1 v2 v3 (.val (ah u)) (.val (cX ((ag k1 v1 u).toList++(ag k2 v2 u).toList))) (.own (lp ([]++Dn (ag k1 v1 u) (ag k3 v3 u) N1++Dn (ag k2 v2 u) (ag k3 v3 u) N2))) (.val (lp G2)) (.val (bk k2 v2)))):=by
  generalize []++Dn (ag k1 v1 u) (ag k3 v3 u) N1++Dn (ag k2 v2 u) (ag k3 v3 u) N2=D at so
  have ll:(G1.map ah).length+(G2.map ah).length<=fF:=zzU (m:=6) (by rw [zzl,zzl];omega) (by decide)
  have e3:F "nearest_goals" [fl ae,wk sl cl pr,.lst (G1.map ah++G2.map ah),ah u]=.ok (lp N3):=by rw [<-List.map_append];exact e3
  have ne:gy (lp N3) (lp N3)=.ok (.bl false):=by rw [NV,zzh rfl];rfl
  dsimp! only [NX,lE,ll,e3,so,ne]
 have Th:=JN F (s0:=.val (cX ns)) (A:=fl ae) (B:=wk sl cl pr) (s3:=.val (lp S)) (s4:=.val (lp G1)) (s5:=.val (lp G2)) (s8:=.val (bk k3 v3)) (s10:=s10) (s11:=s11) (s12:=s12) (s13:=s13) (u:=u) b1.len b2.len
 have S8:=IF F (s0:=.val (cX ns)) (A:=fl ae) (B:=wk sl cl pr) (s3:=.val (lp S)) (s4:=.val (lp G1)) (s5:=.val (lp G2)) (s6:=.val (bk k1 v1)) (s7:=.val (bk k2 v2)) (s11:=s11) (s12:=s12) (s13:=s13) b3.len (Ia q3 q1 q2)
 refine⟨.val (cX ((ag k1 v1 u).toList++(ag k2 v2 u).toList)),.own (lp ([]++Dn (ag k1 v1 u) (ag k3 v3 u) N1++Dn (ag k2 v2 u) (ag k3 v3 u) N2)),.val (lp G2),.val (bk k2 v2),?_⟩;rw [lB,aG,Th,qr,HL,aG,S8,qr,HL,aG];show((Res.ok (Fl.nx (lE ns ae sl cl pr S G1 G2 k1 k2 k3 v1 v2 v3 (.val (ah u)) (.val (cX ((ag k1 v1 u).toList++(ag k2 v2 u).toList))) (.own (.lst [])) s12 s13))).bind λf=>f.seq (aG F (.cons Pf (.cons NX .nil))))=_
 rw [qr,HL,aG,x4,qr,HL,aG,x5,qr,HL,aG]
noncomputable def lF:Ss:=#v[.da (.one 9) (.seq (!3)) lB,.ret (.cst (.bl true))]
def MV(F:bb)(L:Fl ae w)(hN:vz (F "nearest_goals") ae sl cl pr)(o1:∀u∈G1,fm ae u)(o2:∀u∈G2,fm ae u)(ne1:G1≠[])(ne2:G2≠[])(l1:G1.length<=3)(l2:G2.length<=3)(b1:sF (E1 ae sl cl pr) G1 k1 v1)(b2:sF (E1 ae sl cl pr) G2 k2 v2)(b3:sF (E1 ae sl cl pr) (G1++G2) k3 v3)(oS:∀u∈S,fm ae u):
 aG F lF (lE ns ae sl cl pr S G1 G2 k1 k2 k3 v1 v2 v3 .no .no .no .no .no)=.ok (.rt (.bl true)):=by
 obtain⟨⟨a,b,c,d,e⟩,h⟩:=sA (body:=λx env=>((Tg.one 9).put x env).bind λav=>aG F lB av) (g:=ah) (mk:=λs:Ci.Slot×Ci.Slot×Ci.Slot×Ci.Slot×Ci.Slot=>lE ns ae sl cl pr S G1 G2 k1 k2 k3 v1 v2 v3 s.1 s.2.1 s.2.2.1 s.2.2.2.1 s.2.2.2.2) S (.no,.no,.no,.no,.no) λu hu s=>by
  obtain⟨a,b,c,d,e⟩:=Nh F L hN o1 o2 ne1 ne2 l1 l2 b1 b2 b3 (oS u hu) (ns:=ns) (S:=S) s.2.1 s.2.2.1 s.2.2.2.1 s.2.2.2.2
  exact⟨(.val (ah u),a,b,c,d),e⟩
 rw [lF,aG,fU];refine(congrArg (λz=>Res.bind z _) h).trans ?_
 rfl
noncomputable def lD:Ss:=.cons (.set 6 (.blt .dict #v[.comp 1 [] (.one 0) (.seq (.call "field" #v[!1,!2,!4])) (.slice (!0) .no (.some (¬2)))])) (.cons (.set 7 (.blt .dict #v[.comp 1 [] (.one 0) (.seq (.call "field" #v[!1,!2,!5])) (.slice (!0) .no (.some (¬2)))])) (.cons (.set 8 (.blt .dict #v[.comp 1 [] (.one 0) (.seq (.call "field" #v[!1,!2,.bin .add (!4) (!5)])) (.slice (!0) .no (.some (¬2)))])) lF))
def AV(f:List PV->Res PV)(ae:List Str)(sl:Bool)(cl pr:Int):Prop:=∀G:Ks,(∀u∈G,fm ae u)->G≠[]->G.length<=40->∃kr Vr,∃p:List Int->PV,f [fl ae,wk sl cl pr,lp G]=.ok (.lst ((cb kr).map λk=>.tup [ah k,.int (cst kr Vr k),p k]))/\sY (Et ae sl cl pr) (·∈G) kr Vr/\∀k∈kr,fm ae k
def Mc(F:bb)(L:Fl ae w)(hN:vz (F "nearest_goals") ae sl cl pr)(hF:AV (F "field") ae sl cl pr)(o1:∀u∈G1,fm ae u)(o2:∀u∈G2,fm ae u)(ne1:G1≠[])(ne2:G2≠[])(l1:G1.length<=3)(l2:G2.length<=3)(oS:∀u∈S,fm ae u):
 aG F lD [.val (cX ns),.val (fl ae),.val (wk sl cl pr),.val (lp S),.val (lp G1),.val (lp G2),.no,.no,.no,.no,.no,.no,.no,.no]=.ok (.rt (.bl true)):=by
 have ll:(G1.map ah).length+(G2.map ah).length<=fF:=zzU (m:=6) (by rw [zzl,zzl];omega) (by decide)
 obtain⟨k1,v1,e1,b1⟩:=pX F (G:=G1) (as:=(.cons (.var 1) (.cons (.var 2) (.cons (.var 4) .nil)))) (env:=[.val (cX ns),.val (fl ae),.val (wk sl cl pr),.val (lp S),.val (lp G1),.val (lp G2),.no,.no,.no,.no,.no,.no,.no,.no]) rfl (hF G1 o1 ne1 (by omega))
 obtain⟨k2,v2,e2,b2⟩:=pX F (G:=G2) (as:=(.cons (.var 1) (.cons (.var 2) (.cons (.var 5) .nil)))) (env:=[.val (cX ns),.val (fl ae),.val (wk sl cl pr),.val (lp S),.val (lp G1),.val (lp G2),.val (bk k1 v1),.no,.no,.no,.no,.no,.no,.no]) rfl (hF G2 o2 ne2 (by omega))
 obtain⟨k3,v3,e3,b3⟩:=pX F (G:=G1++G2) (as:=(.cons (.var 1) (.cons (.var 2) (.cons (.bin .add (.var 4) (.var 5)) .nil)))) (env:=[.val (cX ns),.val (fl ae),.val (wk sl cl pr),.val (lp S),.val (lp G1),.val (lp G2),.val (bk k1 v1),.val (bk k2 v2),.no,.no,.no,.no,.no,.no]) (by rw [show lp (G1++G2)=.lst (G1.map ah++G2.map ah) from congrArg PV.lst List.map_append];dsimp! only [ll]) (hF (G1++G2) (λu hu=>(List.mem_append.1 hu).elim (o1 u) (o2 u)) (λz=>ne1 (List.append_eq_nil_iff.1 z).1) (by rw [zzM];omega))
 rw [lD,aG,fU,e1];show aG F (.cons (.set 7 _) _) [.val (cX ns),.val (fl ae),.val (wk sl cl pr),.val (lp S),.val (lp G1),.val (lp G2),.val (bk k1 v1),.no,.no,.no,.no,.no,.no,.no]=_
 rw [aG,fU,e2];show aG F (.cons (.set 8 _) _) [.val (cX ns),.val (fl ae),.val (wk sl cl pr),.val (lp S),.val (lp G1),.val (lp G2),.val (bk k1 v1),.val (bk k2 v2),.no,.no,.no,.no,.no,.no]=_
 rw [aG,fU,e3];exact MV F L hN o1 o2 ne1 ne2 l1 l2 b1 b2 b3 oS
noncomputable def lA:Ss:=.cons (.set 1 (.call "_law_floor" #v[!0,¬0,¬5])) (.cons (.set 2 (.call "_law_walker" #v[!0,¬40])) (.cons (.set 3 (.call "_law_spots" #v[!1])) (.cons (.ite (.cmp .eq (!3) (.lst .nil)) #v[.ret (.cst (.bl true))] .nil) (.cons (.set 4 (.comp 1 [3,0] (.one 0) (.pH (.bin .add (¬1) (.call "_law_pick" #v[!0,¬50,¬3]))) (.sub (!1) (.call "_law_pick" #v[!2,.bin .add (¬51) (!0),.blt .len #v[!1]])))) (.cons (.set 5 (.comp 1 [3,0] (.one 0) (.pH (.bin .add (¬1) (.call "_law_pick" #v[!0,¬55,¬3]))) (.sub (!1) (.call "_law_pick" #v[!2,.bin .add (¬56) (!0),.blt .len #v[!1]])))) lD)))))
def JL(F:bb)(hp:jV F)(hf:∃ae w,Fl ae w/\F "_law_floor" [cX ns,.int 0,.int 5]=.ok (fl ae))(hw:∃sl cl pr,Wk cl pr/\F "_law_walker" [cX ns,.int 40]=.ok (wk sl cl pr))(hs:Nd (F "_law_spots"))(hN:∀ae w,Fl ae w->∀sl cl pr,Wk cl pr->vz (F "nearest_goals") ae sl cl pr/\AV (F "field") ae sl cl pr):aA F oy [cX ns]=.ok (.bl true):=by
 obtain⟨ae,w,L,ef⟩:=hf
 obtain⟨sl,cl,pr,V,ew⟩:=hw
 obtain⟨S,es,_,_,hm⟩:=hs ae L.Cr
 obtain⟨hN,hF⟩:=hN ae w L sl cl pr V
 have en:iQ (.lst (S.map ah)) (.lst [])=.ok (.bl (decide (S=[]))):=UR S []
 show(if cJ ⟨oy.N,1,lA,none⟩ [cX ns] then _ else _)=_
 by_cases h:S=[]
 ·rw [zzh h] at en;show((aG F lA [.val (cX ns),.no,.no,.no,.no,.no,.no,.no,.no,.no,.no,.no,.no,.no]).bind λf=>match f with|.nx _=>.ok .aH|.rt p=>.ok p|_=>.bad)=_
  dsimp! only [lA,ef,ew,es,en]
 ·rw [zz0 h] at en;obtain⟨G1,ne1,l1,m1,e1⟩:=qN F hp (ns:=ns) h (a:=50) (b:=51) (by decide) (by decide) (s1:=.val (fl ae)) (s2:=.val (wk sl cl pr)) (r:=[.no,.no,.no,.no,.no,.no,.no,.no,.no,.no])
  obtain⟨G2,ne2,l2,m2,e2⟩:=qN F hp (ns:=ns) h (a:=55) (b:=56) (by decide) (by decide) (s1:=.val (fl ae)) (s2:=.val (wk sl cl pr)) (r:=[.val (lp G1),.no,.no,.no,.no,.no,.no,.no,.no,.no])
  have e3:=Mc F L hN hF (ns:=ns) (S:=S) (λu hu=>(hm u).1 (m1 u hu)) (λu hu=>(hm u).1 (m2 u hu)) ne1 ne2 l1 l2 λu hu=>(hm u).1 hu
  show((aG F lA [.val (cX ns),.no,.no,.no,.no,.no,.no,.no,.no,.no,.no,.no,.no,.no]).bind λf=>match f with|.nx _=>.ok .aH|.rt p=>.ok p|_=>.bad)=_
  dsimp! only [J] at e1 e2;dsimp! only [lA,ef,ew,es,en,e1,e2,e3]
end
def A0{ae:List Str}{sl:Bool}{cl pr:Int}{G:Ks}(h:∀u∈G,fm ae u){k:List Int}{c:Int}(w:jh (Et ae sl cl pr) (·∈G) k c):fm ae k:=by
 cases w with
 |here hx=>exact h _ hx
 |go _ he=>obtain⟨a,b,_,_,h1,_,h3,_⟩:=he;exact⟨a,b,h1,h3⟩
def Nq(ns:List Int)(hl:ns.length<=63):aA (den JO) oy [cX ns]=.ok (.bl true):=by
 have pick:∀F:bb,F "_law_pick"=aA (den T1) bM->jV F:=λF hF ns k q hk hq=>by
  rw [hF];exact Cz (den T1) (λns k hk=>by rw [K9];exact ES _ ns k hk) ns k q hk hq
 have Aj:∀F:bb,F "is_open"=aA (den T8) cx->ua F:=λF hF ae R r c=>by
  rw [hF];exact C2 _ (λr c=>by rw [LP];exact uh _ (λi=>by rw [M0];exact qv _ i) r c) (λae R r c=>by rw [L9];exact MR _ ae R r c) ae R r c
 have sS:∀F:bb,F "need_open"=aA (den T9) bq->ji F:=λF hF ae R r c h=>by
  rw [hF];exact pR _ (Aj _ LG) ae R r c h
 have step:∀F:bb,F "step_cost"=aA (den HI) bt->uD F:=λF hF ae w L sl cl pr V r c r' c' h h'=>by
  rw [hF];exact DI _ (λr c r' c'=>by rw [Dc];exact yl _ r c r' c') (λae R r c r' c'=>by rw [ET];exact tU _ (Aj _ HJ) R r c r' c') (λae w L r c h=>by rw [E5];exact ya _ (sS _ EB) L h) L V h h'
 have S7:Ge (den Ef):=λae R r c a b d e=>by
  rw [Dj];exact HC _ (Aj _ Jy) R a b d e
 have steps:∀F:bb,F "steps_from"=aA (den Ef) bC->je F:=λF hF=>by
  unfold je;rw [hF];exact zA _ (sS _ EJ) S7 (step _ Dw)
 have goals:∀F:bb,F "need_goals"=aA (den Ms) bK->∀ae w,Fl ae w->∀G:Ks,(∀u∈G,fm ae u)->G≠[]->F "need_goals" [fl ae,lp G]=.ok .aH:=λF hF ae w L G h h0=>by
  rw [hF];exact pV _ (sS _ CZ) L h h0
 have O7:JF (den L1):=by
  unfold JF;rw [Fw];exact D8 _ (steps _ Df)
 have L8:BG (den Lw):=by
  unfold BG;rw [Ee];exact EM _ (sS _ ER) O7
 have Dq:qE (den NK):=by
  unfold qE;rw [DD];exact uR _ (steps _ DA) (step _ EN)
 have Px:J7 (den L3):=by
  unfold J7;rw [CF];exact DT _ Dq
 refine JL _ (pick _ JJ) (by rw [IQ];exact yn _ (pick _ Mz) ns 5 (by decide) (by decide)) (by rw [JI];exact xF _ (pick _ LI) ns 40 (by decide)) (IV λae R=>by rw [G7];exact zl _ ae R) λae w L sl cl pr V=>⟨?_,?_⟩
 ·intro G u h h0 lG ho;rw [Fm];obtain⟨kr,Vr,e,R⟩:=L8 ae w L sl cl pr V u ho
  exact C6 _ L (goals _ E8 ae w L G h h0) e R h lG
 ·intro G h h0 lG;rw [DV];refine zW (den Li) (λG h h0 lG=>?_) (λS kr Vr R u ho q hu=>by rw [Er];exact xj _ (steps _ Eh) L V R ho hu) h h0 lG
  rw [C7];obtain⟨kr,Vr,e,R⟩:=ug (den LX) (sl:=sl) (cl:=cl) (pr:=pr) (goals _ DH ae w L) (λG h lG=>by rw [Ff];exact rn _ (sS _ DC) Px L V h lG) h h0 lG
  exact⟨kr,Vr,e,R,λk hk=>by obtain⟨q,hq⟩:=(mv R).1 hk;exact A0 h (R.OC k q hq).2⟩
end K51
namespace Hd
open PySem PySem.W L2
noncomputable abbrev fo(n:Str)(st:Stmt)(pm:Value)(c:Addr):Obj:=⟨.type "function",none,.func (fnOf n n (cU st) (cu st) (aP st) .none .none .none pm none (.ref c) .none),#[]⟩
noncomputable abbrev co(n:Str)(a:Nat)(L A:Int)(r:Nat)(x y:Value)(q z:Nat):Obj:={cls:=.type "code",data:=.fields #[.str n a,.str n (a+1),.str "/claim/cut.py" (a+2),.int L 0,.int A 0,.int 0 0,.int 0 0,.int 3 0,.ref r,.bool Bool.true,.int 181 0,.ref (r+1),.none,x,y,.ref q,.int z 0,.int L 0,.str "/claim/cut.py" (z+1)]}
noncomputable def Pt(s:Stmt):Pos:=match s with
 |.FunctionDef _ _ _ _ _ _ _ _ _ p=>p
 |_=>⟨0,0,0,0⟩
def ent{K:Frag}{ts:List (Addr×Str)}{n:Str}{st:Stmt}(f c:Addr)(pm:Value)(a:nsIn K mainGlobals n=some (some (.ref f)):=by kernel_rfl)(l:K.lookup f=some (fo n st pm c):=by kernel_rfl)(d:codeIn K (.ref c) n=true:=by kernel_rfl)(k:keepIn K (.ref f)=true:=by kernel_rfl):Ci.xV K ts false n st:=Ci.Py a l d k
def Fn{K:Frag}{ts:List (Addr×Str)}{n:Str}{st:Stmt}(f c p:Addr)(pm:Value)(ck:Ci.fJ K c p)(m:(p,Ci.lR n)∈ts)(u:∀q∈ts,q.1=p->q.2=Ci.lR n)(a:nsIn K mainGlobals n=some (some (.ref f)):=by kernel_rfl)(l:K.lookup f=some (fo n st pm c):=by kernel_rfl)(d:codeIn K (.ref c) n=true:=by kernel_rfl)(k:keepIn K (.ref f)=true:=by kernel_rfl):Ci.xV K ts true n st:=⟨f,_,_,_,_,_,_,_,_,_,a,l,d,k,λ_=>⟨c,p,rfl,ck,m,λq' h=>u _ h rfl⟩⟩
def ac{K:Frag}{ts:List (Addr×Str)}{Γ:Ci.Pg}{r:Ci.Row}{l:Ci.fB}(e:Ci.xV K ts r.hl r.h r.st)(s:Ci.cD (Γ.at l r.hl) r.h r.d r.st)(t:Ci.AllK K ts Γ l)(a:(l.map (·.f)).contains r.f=false:=by decide+kernel)(b:(r.d.ib.isNone==!Ci.gk r.f)=true:=by decide+kernel)(c:r.d.ib.isNone=true->r.f=r.h:=by first|exact λ_=>rfl|exact λz=>absurd z (by decide)):Ci.AllK K ts Γ (r::l):=⟨e,s,⟨a,b,c⟩,t⟩
def zQ{K L:Frag}{b:Addr}{o:Obj}(e:K.lookup b=some o):(K++L).lookup b=some o:=by
 rw [List.lookup_append,e]
 rfl
end Hd
namespace K51
open PySem L2 Ci
noncomputable abbrev lw:=PySem.Challenge.rw_cellways_k51_whole_goals_together
noncomputable def top(i:Nat):Stmt:=PySem.Challenge.pw_cellways_k51_whole_goals_together.main.body.getD i (.Pass ⟨0,0,0,0⟩)
noncomputable abbrev m1:Value:=.str "cellways.floors" 223
noncomputable abbrev m2:Value:=.str "cellways.ways" 336
noncomputable abbrev m3:Value:=.str "cellways.fields" 376
noncomputable abbrev m4:Value:=.str "law_cellways_k51_whole_goals_together" 420
noncomputable def K(P:Params):zz8:=[(2,{cls:=.none,data:=.dict #[]}),
 (3,{cls:=.type "dict",data:=.dict #[Hd.de P "__name__" 165 (.str "law_cellways_k51_whole_goals_together" 420),Hd.de P "__doc__" 166 (.none),Hd.de P "__package__" 167 (.none),Hd.de P "__loader__" 168 (.builtin "__main__.__loader__#opaque"),Hd.de P "__spec__" 169 (.none),Hd.de P "__annotations__" 170 (.ref 6),Hd.de P "__builtins__" 171 (.ref 4),Hd.de P "__file__" 173 (.str "/claim/cut.py" 172),Hd.de P "__cached__" 174 (.none),Hd.de P "FloorError" 206 (.ref 24),Hd.de P "NoSpot" 222 (.ref 37),Hd.de P "WALL" 226 (.str "#" 225),Hd.de P "STRAIGHT_COST" 228 (.int 2 227),Hd.de P "SLANTING_COST" 230 (.int 3 229),Hd.de P "is_whole" 237 (.ref 46),Hd.de P "is_spot" 244 (.ref 53),Hd.de P "is_on_floor" 252 (.ref 60),Hd.de P "is_open" 260 (.ref 67),Hd.de P "need_open" 268 (.ref 74),Hd.de P "height_at" 276 (.ref 81),Hd.de P "open_spots_beside" 287 (.ref 88),Hd.de P "are_beside" 295 (.ref 95),Hd.de P "has_open_corners" 304 (.ref 102),Hd.de P "step_cost" 317 (.ref 109),Hd.de P "steps_from" 329 (.ref 116),Hd.de P "steps_to" 335 (.ref 121),Hd.de P "spread" 352 (.ref 128),Hd.de P "spread_from" 363 (.ref 135),Hd.de P "spread_to" 375 (.ref 142),Hd.de P "need_goals" 386 (.ref 149),Hd.de P "spread_to_goals" 395 (.ref 156),Hd.de P "least_onward" 407 (.ref 163),Hd.de P "field" 413 (.ref 168),Hd.de P "nearest_goals" 419 (.ref 173),Hd.de P "_law_cell" 429 (.ref 180),Hd.de P "_law_pick" 439 (.ref 187),Hd.de P "_law_floor" 457 (.ref 194),Hd.de P "_law_walker" 465 (.ref 201),Hd.de P "_law_spots" 471 (.ref 206),Hd.de P "law" 477 (.ref 211)] 40}),
 (4,{cls:=.type "module",dict:=some builtinsNs,data:=.plain}),
 (23,{cls:=.type "dict",data:=.dict #[Hd.de P "__module__" 196 (.str "cellways.errors" 187),Hd.de P "__firstlineno__" 200 (.int 2 199),Hd.de P "__static_attributes__" 201 (.ref 22),Hd.de P "__weakref__" 203 (.ref 25),Hd.de P "__doc__" 204 (.none)] 3}),
 (24,{cls:=.type "type",data:=.cls {name:="FloorError",bases:=[.type "ValueError"],mro:=[.ref 24,.type "ValueError",.type "Exception",.type "BaseException",.type "object"],ns:=23,qualname:="FloorError",subclasses:=[.ref 37]},slots:=#[some (.ref 15),none,some (.str "FloorError" 189),some (.str "FloorError" 197),some (.builtin "ValueError.__new__"),some (.bool Bool.true)]}),
 (36,{cls:=.type "dict",data:=.dict #[Hd.de P "__module__" 214 (.str "cellways.errors" 187),Hd.de P "__firstlineno__" 218 (.int 4 217),Hd.de P "__static_attributes__" 219 (.ref 35),Hd.de P "__doc__" 220 (.none)] 2}),
 (37,{cls:=.type "type",data:=.cls {name:="NoSpot",bases:=[.ref 24],mro:=[.ref 37,.ref 24,.type "ValueError",.type "Exception",.type "BaseException",.type "object"],ns:=36,qualname:="NoSpot"},slots:=#[some (.ref 28),none,some (.str "NoSpot" 207),some (.str "NoSpot" 215),some (.builtin "ValueError.__new__"),some (.bool Bool.true)]}),
 (45,Hd.co "is_whole" 231 10 1 40 (.ref 42) (.ref 43) 44 235),
 (46,Hd.fo "is_whole" (top 7) m1 45),
 (52,Hd.co "is_spot" 238 12 1 47 (.ref 49) (.ref 50) 51 242),
 (53,Hd.fo "is_spot" (top 8) m1 52),
 (59,Hd.co "is_on_floor" 245 14 2 54 (.ref 56) (.ref 57) 58 250),
 (60,Hd.fo "is_on_floor" (top 9) m1 59),
 (66,Hd.co "is_open" 253 16 2 61 (.ref 63) (.ref 64) 65 258),
 (67,Hd.fo "is_open" (top 10) m1 66),
 (73,Hd.co "need_open" 261 18 2 68 (.ref 70) (.ref 71) 72 266),
 (74,Hd.fo "need_open" (top 11) m1 73),
 (80,Hd.co "height_at" 269 21 2 75 (.ref 77) (.ref 78) 79 274),
 (81,Hd.fo "height_at" (top 12) m1 80),
 (87,Hd.co "open_spots_beside" 277 24 2 82 (.ref 84) (.ref 85) 86 285),
 (88,Hd.fo "open_spots_beside" (top 13) m1 87),
 (94,Hd.co "are_beside" 288 31 2 89 (.ref 91) (.ref 92) 93 293),
 (95,Hd.fo "are_beside" (top 14) m1 94),
 (101,Hd.co "has_open_corners" 296 33 3 96 (.ref 98) (.ref 99) 100 302),
 (102,Hd.fo "has_open_corners" (top 15) m1 101),
 (108,Hd.co "step_cost" 305 35 4 103 (.ref 105) (.ref 106) 107 315),
 (109,Hd.fo "step_cost" (top 16) m1 108),
 (115,Hd.co "steps_from" 318 46 3 110 (.ref 112) (.ref 113) 114 327),
 (116,Hd.fo "steps_from" (top 17) m1 115),
 (120,Hd.co "steps_to" 330 54 3 117 .none .none 119 333),
 (121,Hd.fo "steps_to" (top 18) m1 120),
 (127,Hd.co "spread" 338 57 2 122 (.ref 124) (.ref 125) 126 350),
 (128,Hd.fo "spread" (top 20) m2 127),
 (134,Hd.co "spread_from" 353 70 3 129 (.ref 131) (.ref 132) 133 361),
 (135,Hd.fo "spread_from" (top 21) m2 134),
 (141,Hd.co "spread_to" 364 73 3 136 (.ref 138) (.ref 139) 140 373),
 (142,Hd.fo "spread_to" (top 22) m2 141),
 (148,Hd.co "need_goals" 378 78 2 143 (.ref 145) (.ref 146) 147 384),
 (149,Hd.fo "need_goals" (top 24) m3 148),
 (155,Hd.co "spread_to_goals" 387 83 3 150 (.ref 152) (.ref 153) 154 393),
 (156,Hd.fo "spread_to_goals" (top 25) m3 155),
 (162,Hd.co "least_onward" 396 86 4 157 (.ref 159) (.ref 160) 161 405),
 (163,Hd.fo "least_onward" (top 26) m3 162),
 (167,Hd.co "field" 408 91 3 164 .none .none 166 411),
 (168,Hd.fo "field" (top 27) m3 167),
 (172,Hd.co "nearest_goals" 414 94 4 169 .none .none 171 417),
 (173,Hd.fo "nearest_goals" (top 28) m3 172),
 (179,Hd.co "_law_cell" 422 101 2 174 (.ref 176) (.ref 177) 178 427),
 (180,Hd.fo "_law_cell" (top 30) m4 179),
 (186,Hd.co "_law_pick" 430 107 3 181 (.ref 183) (.ref 184) 185 437),
 (187,Hd.fo "_law_pick" (top 31) m4 186),
 (193,Hd.co "_law_floor" 440 110 3 188 (.ref 190) (.ref 191) 192 455),
 (194,Hd.fo "_law_floor" (top 32) m4 193),
 (200,Hd.co "_law_walker" 458 123 2 195 (.ref 197) (.ref 198) 199 463),
 (201,Hd.fo "_law_walker" (top 33) m4 200),
 (205,Hd.co "_law_spots" 466 125 1 202 .none .none 204 469),
 (206,Hd.fo "_law_spots" (top 34) m4 205),
 (210,Hd.co "law" 472 130 1 207 .none .none 209 475),
 (211,Hd.fo "law" (top 35) m4 210)]
noncomputable def ts:List (Addr×Str):=[(123,lR "spread"),(130,lR "spread_from"),(137,lR "spread_to")]
noncomputable def K2(P:Params):zz8:=K P++[(123,PySem.W.tabObj #[]),(130,PySem.W.tabObj #[]),(137,PySem.W.tabObj #[])]
noncomputable def as:List Addr:=[2,3,4,23,24,36,37,45,46,52,53,59,60,66,67,73,74,80,81,87,88,94,95,101,102,108,109,115,116,120,121,127,128,134,135,141,142,148,149,155,156,162,163,167,168,172,173,179,180,186,187,193,194,200,201,205,206,210,211,123,130,137]
noncomputable def Γ:Pg:=⟨[("WALL",(.str "#")),("STRAIGHT_COST",(.int 2)),("SLANTING_COST",(.int 3))],["len","abs","max","min","int","str","tuple","isinstance","bool","range","enumerate","sorted","dict","set"],[],[],["NoSpot"],[],false⟩
def R0:fB:=[]
def qp:cD (Γ.at R0 false) "_law_cell" cL (top 30):=stM λ_ _ _ _ _ _=>Hd.B1 λ_ _=>rfl
noncomputable def R1:fB:=⟨"_law_cell","_law_cell",cL,top 30,false⟩::R0
def pO:cD (Γ.at R1 false) "_law_pick" bM (top 31):=stM λ_ _ _ _ _ _=>Hd.CD λ_ _ _=>rfl
noncomputable def R2:fB:=⟨"_law_pick","_law_pick",bM,top 31,false⟩::R1
def nq:cD (Γ.at R2 false) "_law_floor" bV (top 32):=stM λ_ _ _ _ _ _=>Hd.CD λ_ _ _=>rfl
noncomputable def R3:fB:=⟨"_law_floor","_law_floor",bV,top 32,false⟩::R2
def lx:cD (Γ.at R3 false) "_law_walker" bZ (top 33):=stM λ_ _ _ _ _ _=>Hd.B1 λ_ _=>rfl
noncomputable def R4:fB:=⟨"_law_walker","_law_walker",bZ,top 33,false⟩::R3
def nC:cD (Γ.at R4 false) "_law_spots" cA (top 34):=stM λ_ _ _ _ _ _=>Hd.Ob λ_=>rfl
noncomputable def R5:fB:=⟨"_law_spots","_law_spots",cA,top 34,false⟩::R4
def rP:cD (Γ.at R5 false) "is_whole" dP (top 7):=stM λ_ _ _ _ _ _=>Hd.Ob λ_=>rfl
noncomputable def R6:fB:=⟨"is_whole","is_whole",dP,top 7,false⟩::R5
def uo:cD (Γ.at R6 false) "is_spot" dM (top 8):=stM λ_ _ _ _ _ _=>Hd.Ob λ_=>rfl
noncomputable def R7:fB:=⟨"is_spot","is_spot",dM,top 8,false⟩::R6
def mC:cD (Γ.at R7 false) "is_on_floor" b9 (top 9):=stM λ_ _ _ _ _ _=>Hd.B1 λ_ _=>rfl
noncomputable def R8:fB:=⟨"is_on_floor","is_on_floor",b9,top 9,false⟩::R7
def uS:cD (Γ.at R8 false) "is_open" cx (top 10):=stM λ_ _ _ _ _ _=>Hd.B1 λ_ _=>rfl
noncomputable def R9:fB:=⟨"is_open","is_open",cx,top 10,false⟩::R8
def pK:cD (Γ.at R9 false) "need_open" bq (top 11):=stM λ_ _ _ _ _ _=>Hd.B1 λ_ _=>rfl
noncomputable def QT:fB:=⟨"need_open","need_open",bq,top 11,false⟩::R9
def nj:cD (Γ.at QT false) "need_goals" bK (top 24):=stM λ_ _ _ _ _ _=>Hd.B1 λ_ _=>rfl
noncomputable def RA:fB:=⟨"need_goals","need_goals",bK,top 24,false⟩::QT
def gz:cD (Γ.at RA false) "open_spots_beside" ba (top 13):=stM λ_ _ _ _ _ _=>Hd.B1 λ_ _=>rfl
noncomputable def So:fB:=⟨"open_spots_beside","open_spots_beside",ba,top 13,false⟩::RA
def nk:cD (Γ.at So false) "are_beside" cy (top 14):=stM λ_ _ _ _ _ _=>Hd.B1 λ_ _=>rfl
noncomputable def Rk:fB:=⟨"are_beside","are_beside",cy,top 14,false⟩::So
def qt:cD (Γ.at Rk false) "height_at" cN (top 12):=stM λ_ _ _ _ _ _=>Hd.B1 λ_ _=>rfl
noncomputable def QZ:fB:=⟨"height_at","height_at",cN,top 12,false⟩::Rk
def gO:cD (Γ.at QZ false) "has_open_corners" bj (top 15):=stM λ_ _ _ _ _ _=>Hd.CD λ_ _ _=>rfl
noncomputable def RC:fB:=⟨"has_open_corners","has_open_corners",bj,top 15,false⟩::QZ
def qa:cD (Γ.at RC false) "step_cost" bt (top 16):=stM λ_ _ _ _ _ _=>Hd.OV λ_ _ _ _=>rfl
noncomputable def Sm:fB:=⟨"step_cost","step_cost",bt,top 16,false⟩::RC
def nc:cD (Γ.at Sm false) "steps_from" bC (top 17):=stM λ_ _ _ _ _ _=>Hd.CD λ_ _ _=>rfl
noncomputable def Q7:fB:=⟨"steps_from","steps_from",bC,top 17,false⟩::Sm
def fk:cD (Γ.at Q7 true) "spread" aW (top 20):=stM λ_ _ _ _ _ _=>Hd.B1 λ_ _=>rfl
noncomputable def RQ:fB:=⟨"spread@steps_from","spread",aW,top 20,true⟩::Q7
def lh:cD (Γ.at RQ true) "spread_from" bX (top 21):=stM λ_ _ _ _ _ _=>Hd.CD λ_ _ _=>rfl
noncomputable def Sy:fB:=⟨"spread_from","spread_from",bX,top 21,true⟩::RQ
def jk:cD (Γ.at Sy false) "nearest_goals" bJ (top 28):=stM λ_ _ _ _ _ _=>Hd.OV λ_ _ _ _=>rfl
noncomputable def SK:fB:=⟨"nearest_goals","nearest_goals",bJ,top 28,false⟩::Sy
def sW:cD (Γ.at SK false) "steps_to" dh (top 18):=stM λ_ _ _ _ _ _=>Hd.CD λ_ _ _=>rfl
noncomputable def Rp:fB:=⟨"steps_to","steps_to",dh,top 18,false⟩::SK
def fR:cD (Γ.at Rp true) "spread" bu (top 20):=stM λ_ _ _ _ _ _=>Hd.B1 λ_ _=>rfl
noncomputable def RR:fB:=⟨"spread@steps_to","spread",bu,top 20,true⟩::Rp
def p9:cD (Γ.at RR true) "spread_to" cM (top 22):=stM λ_ _ _ _ _ _=>Hd.CD λ_ _ _=>rfl
noncomputable def Rw:fB:=⟨"spread_to","spread_to",cM,top 22,true⟩::RR
def iJ:cD (Γ.at Rw false) "spread_to_goals" bw (top 25):=stM λ_ _ _ _ _ _=>Hd.CD λ_ _ _=>rfl
noncomputable def Q5:fB:=⟨"spread_to_goals","spread_to_goals",bw,top 25,false⟩::Rw
def ke:cD (Γ.at Q5 false) "least_onward" bD (top 26):=stM λ_ _ _ _ _ _=>Hd.OV λ_ _ _ _=>rfl
noncomputable def RY:fB:=⟨"least_onward","least_onward",bD,top 26,false⟩::Q5
def Av:cD (Γ.at RY false) "field" gL (top 27):=stM λ_ _ _ _ _ _=>Hd.CD λ_ _ _=>rfl
noncomputable def Og:fB:=⟨"field","field",gL,top 27,false⟩::RY
def GJ:cD (Γ.at Og false) "law" oy (top 35):=stM λ_ _ _ _ _ _=>Hd.Ob λ_=>rfl
def jq(P:Params):fJ (K P) 127 123:=⟨Hd.co "spread" 338 57 2 122 (.ref 124) (.ref 125) 126 350,_,_,_,_,_,_,_,_,by kernel_rfl,rfl,rfl,rfl,rfl,rfl,rfl,rfl,rfl,by decide⟩
def gu(P:Params):fJ (K P) 134 130:=⟨Hd.co "spread_from" 353 70 3 129 (.ref 131) (.ref 132) 133 361,_,_,_,_,_,_,_,_,by kernel_rfl,rfl,rfl,rfl,rfl,rfl,rfl,rfl,rfl,by decide⟩
def jf(P:Params):fJ (K P) 141 137:=⟨Hd.co "spread_to" 364 73 3 136 (.ref 138) (.ref 139) 140 373,_,_,_,_,_,_,_,_,by kernel_rfl,rfl,rfl,rfl,rfl,rfl,rfl,rfl,rfl,by decide⟩
def MS(ns:List Int)(hl:ns.length<=63):aA (den (tab Og)) oy [.lst (ns.map .int)]=.ok (.bl true):=Nq ns hl
def Qb(P:Params):AllK (K P) ts Γ Og:=
 Hd.ac (Hd.ent 168 167 m3) Av <| Hd.ac (Hd.ent 163 162 m3) ke <| Hd.ac (Hd.ent 156 155 m3) iJ <| Hd.ac (Hd.Fn 142 141 137 m2 (jf P) (by decide+kernel) (by decide+kernel)) p9 <| Hd.ac (Hd.Fn 128 127 123 m2 (jq P) (by decide+kernel) (by decide+kernel)) fR <| Hd.ac (Hd.ent 121 120 m1) sW <| Hd.ac (Hd.ent 173 172 m3) jk <| Hd.ac (Hd.Fn 135 134 130 m2 (gu P) (by decide+kernel) (by decide+kernel)) lh <| Hd.ac (Hd.Fn 128 127 123 m2 (jq P) (by decide+kernel) (by decide+kernel)) fk <| Hd.ac (Hd.ent 116 115 m1) nc <| Hd.ac (Hd.ent 109 108 m1) qa <| Hd.ac (Hd.ent 102 101 m1) gO <| Hd.ac (Hd.ent 81 80 m1) qt <| Hd.ac (Hd.ent 95 94 m1) nk <| Hd.ac (Hd.ent 88 87 m1) gz <| Hd.ac (Hd.ent 149 148 m3) nj <| Hd.ac (Hd.ent 74 73 m1) pK <| Hd.ac (Hd.ent 67 66 m1) uS <| Hd.ac (Hd.ent 60 59 m1) mC <| Hd.ac (Hd.ent 53 52 m1) uo <| Hd.ac (Hd.ent 46 45 m1) rP <| Hd.ac (Hd.ent 206 205 m4) nC <| Hd.ac (Hd.ent 201 200 m4) lx <| Hd.ac (Hd.ent 194 193 m4) nq <| Hd.ac (Hd.ent 187 186 m4) pO <| Hd.ac (Hd.ent 180 179 m4) qp trivial
structure LB(K:zz8)(d:Str)(D:Addr):Prop where
 e:PySem.W.nsIn K mainGlobals d=some (some (.ref D))
 xc:Jj K D
 vt:PySem.W.kitOne K (.ref D) (.type "ValueError")=some true
 ex:PySem.W.excIn K D zR "ValueError.__new__"=true
def Pz{K:zz8}{d:Str}{D:Addr}(e:PySem.W.nsIn K mainGlobals d=some (some (.ref D)):=by kernel_rfl)(i:PySem.W.isClsIn K D=true:=by kernel_rfl)(v:PySem.W.subIn K (.ref D) (.type "ValueError")=some true:=by kernel_rfl)(ga:PySem.W.findIn K (.ref D) "__getattribute__"=some (some (.builtin "BaseException.__getattribute__")):=by kernel_rfl)(hk:PySem.W.findIn K (.ref D) "__getattr__"=some none:=by kernel_rfl)
 (cl:PySem.W.findIn K (.ref D) "__class__"=some (some (.builtin "object.__class__")):=by kernel_rfl) (mo:PySem.W.mroIn K D (.type "object")=some true:=by kernel_rfl) (mb:PySem.W.mroIn K D (.type "BaseException")=some true:=by kernel_rfl) (ex:PySem.W.excIn K D zR "ValueError.__new__"=true:=by kernel_rfl):LB K d D:=
 ⟨e,⟨ga,hk,cl,mo,mb,i⟩,BO (by decide+kernel) v,ex⟩
def O4(P:Params){mg:Str->Option Value}{h:Heap}(X:(K P).In h)(G:h.Ns mainGlobals mg):tW (K P) mg Γ ⟨K P,mg,["NoSpot"],ts⟩:=by
 have Kv:∀{x:Str} {u:Value},PySem.W.nsIn (K P) mainGlobals x=some (some u)->mg x=some u:=λa=>PySem.W.mg_of X G a
 have vA:∀{x:Str},PySem.W.nsIn (K P) mainGlobals x=some none->mg x=none:=λa=>PySem.W.mg_none_of X G a
 have fW:LB (K P) "NoSpot" 37:=Pz
 refine⟨rfl,rfl,λq hq=>?_,λg hg=>?_,by decide+kernel,λc hc=>?_,λd hd D hD=>?_,λc hc=>?_,λc hc=>?_,λz=>absurd z (by decide+kernel),λ_=>⟨4,⟨.type "module",some builtinsNs,.plain,#[]⟩,Kv (by kernel_rfl),by decide,by decide,by kernel_rfl,rfl,rfl,rfl⟩⟩
 ·simp! [Γ,zzm,List.not_mem_nil,or_false] at hq;rcases hq with rfl|rfl|rfl
  ·exact⟨.str "#" 225,.str "#",Kv (by kernel_rfl),⟨_,rfl⟩,λG=>.s⟩
  ·exact⟨.int 2 227,.int 2,Kv (by kernel_rfl),⟨_,rfl⟩,λG=>.i⟩
  ·exact⟨.int 3 229,.int 3,Kv (by kernel_rfl),⟨_,rfl⟩,λG=>.i⟩
 ·simp! [Γ,zzm,List.not_mem_nil,or_false] at hg;rcases hg with rfl|rfl|rfl|rfl|rfl|rfl|rfl|rfl|rfl|rfl|rfl|rfl|rfl|rfl
  ·exact vA (by kernel_rfl)
  ·exact vA (by kernel_rfl)
  ·exact vA (by kernel_rfl)
  ·exact vA (by kernel_rfl)
  ·exact vA (by kernel_rfl)
  ·exact vA (by kernel_rfl)
  ·exact vA (by kernel_rfl)
  ·exact vA (by kernel_rfl)
  ·exact vA (by kernel_rfl)
  ·exact vA (by kernel_rfl)
  ·exact vA (by kernel_rfl)
  ·exact vA (by kernel_rfl)
  ·exact vA (by kernel_rfl)
  ·exact vA (by kernel_rfl)
 ·simp! [Γ,zzm,List.not_mem_nil,or_false] at hc
 ·simp! [zzm,List.not_mem_nil,or_false] at hd;rcases hd with rfl
  ·cases(Kv fW.e).symm.trans hD;refine⟨fW.xc,λc hc C hC=>?_,fW.vt⟩
   simp! [Γ,zzm,List.not_mem_nil,or_false] at hc
 ·simp! [Γ,zzn,zzm,List.not_mem_nil,or_false] at hc⊢;exact hc
 ·simp! [Γ,zzn,zzm,List.not_mem_nil,or_false] at hc;rcases hc with rfl
  ·exact⟨_,Kv fW.e,fW.ex⟩
def hY{P:Params}{h:Heap}(X:(K2 P).In h):(K P).In h/\∀p∈ts.map (·.1),h.get? p=some (PySem.W.tabObj #[]):=⟨λb o e=>X b o (Hd.zQ e),λp hp=>by
 simp! [ts,zzF,List.map_nil,zzm,List.not_mem_nil,or_false] at hp;rcases hp with rfl|rfl|rfl
 ·exact X _ _ (by kernel_rfl)
 ·exact X _ _ (by kernel_rfl)
 ·exact X _ _ (by kernel_rfl)
⟩
def hC(P:Params):∀p∈ts.map (·.1),(∃c,fJ (K P) c p)/\(K P).lookup p=none:=λp hp=>by
 simp! [ts,zzF,List.map_nil,zzm,List.not_mem_nil,or_false] at hp;rcases hp with rfl|rfl|rfl
 ·exact⟨⟨_,jq P⟩,by kernel_rfl⟩
 ·exact⟨⟨_,gu P⟩,by kernel_rfl⟩
 ·exact⟨⟨_,jf P⟩,by kernel_rfl⟩
noncomputable def keep:List Nat:=[1,2,4,5,6,7,8,9,10,11,12,13,14,15,16,17,18,20,21,22,24,25,26,27,28,30,31,32,33,34,35]
def ka:∀P,as=(K2 P).map (·.1):=λ_=>by kernel_rfl
def left:PySem.W.LeftO lw.row.prog (PySem.W.view lw.row.prog keep) [] (λs=>PySem.W.xlAt (PySem.W.view lw.row.prog keep) [] s&&PySem.W.recOk lw.row.toRowW.records s) (PySem.W.kHook K2 as ka).obs (PySem.W.kHook K2 as ka).val 2674:=by
 refine Hd.Ex (T₀:=λP=>Hd.treeOf (PySem.W.boot_heap P).objs.toList) (m₀:=11) (life:={}) (ann:=some (.ref 6)) (M:=2624) (by kernel_rfl) (by kernel_rfl) (λs=>by kernel_rfl) Hd.Ny Hd.MG (by kernel_rfl) λw os=>?_
 rw [PySem.W.Fast.te10156331382660048174,PySem.W.Fast.te11892475500146522536,PySem.W.Fast.te14364793385576792824,PySem.W.Fast.te6613529449190102663,PySem.W.Fast.te4187177175401517315,PySem.W.Fast.te5923862056798008813]
 kernel_rfl
end K51
open PySem PySem.W PyProof.Rows
set_option maxRecDepth 100000 in
set_option maxHeartbeats 0 in
theorem PySem.Challenge.cw_cellways_k51_whole_goals_together_holds : PySem.Challenge.rw_cellways_k51_whole_goals_together.Holds := by
 refine Hd.holds (d:=⟨"law",L2.cU (K51.top 35),L2.cu (K51.top 35),L2.aP (K51.top 35),Hd.Pt (K51.top 35)⟩) (by kernel_rfl) K51.ka K51.left (by kernel_rfl) (by kernel_rfl) (by kernel_rfl) (by kernel_rfl) ⟨rfl,rfl,rfl,rfl,rfl,by decide+kernel⟩ ?hw ?hc
 case hw=>w_witness2
 case hc=>exact Ci.walk (l:=PySem.Challenge.rw_cellways_k51_whole_goals_together) K51.Og K51.Γ "_law_script" K51.oy ["NoSpot"] K51.ts (K51.top 35) rfl rfl rfl rfl rfl ⟨rfl,by decide,by decide⟩ (λw h Y=>K51.hY (PySem.W.kIn_of Y)) (λw=>K51.hC w.params) (λw mg h KX G=>K51.O4 _ KX G) (λw=>Hd.ent 211 210 K51.m4) K51.GJ (λw=>K51.Qb _) K51.MS
#print axioms PySem.Challenge.cw_cellways_k51_whole_goals_together_holds
