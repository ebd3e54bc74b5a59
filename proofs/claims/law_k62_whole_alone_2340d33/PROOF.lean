import PyProof.Rows.All
import Wide.All
import OpenK.AllK
import Wide.FinOn
import Lean
import PyProof.EqAt
import PyProof.EqKinds
import PyProof.TupleCall
import PyProof.TupleKey
import PyProof.SetKind
import PyProof.IsRules
import PyProof.SetScanFacts
import PyProof.Rows.SetFrom
import PySem.Challenge.RW_cellways_k62_whole_alone
set_option Elab.async false
set_option linter.all false
set_option genSizeOf false
set_option genSizeOfSpec false
set_option bootstrap.genMatcherCode false
set_option compiler.extract_closed false
set_option compiler.reuse false
set_option maxRecDepth 100000
abbrev zz8:=PySem.W.Frag
local macro_rules | `(zz9 $x) => `(($x).heap.objs.size)
local macro_rules | `(tactic| simp! [$x,*] $[$l:location]?) => `(tactic| simp only [$x,*] $[$l]?)
theorem zzf:¬false=true:=Bool.false_ne_true
theorem zza(a b:Bool):((a&&b)=true)=(a=true/\b=true):=Bool.and_eq_true a b
theorem zzg.{u}{α:Type u}{l:List α}{i:Nat}(h:i<l.length):l[i]?=some l[i]:=List.getElem?_eq_getElem h
theorem zzl.{u,v}{α:Type u}{β:Type v}{l:List α}(f:α->β):(l.map f).length=l.length:=List.length_map f
def zzA:=@PySem.wpAny_bind
def zzB:=@PySem.Heap.get?_push_of_some
def zzC:=@List.size_toArray
def zzD:=@List.mem_of_getElem?
def zzE:=@Nat.le_refl
def zzF:=@List.map_cons
def zzG:=@PySem.wpAny_pure
def zzH:=@List.getElem?_eq_some_iff
def zzI:=@List.mem_cons_of_mem
def zzJ:=@Option.map_eq_some_iff
def zzK:=@List.getD_eq_getElem?_getD
def zzL:=@List.length_cons
def zzM:=@List.length_append
def zzN:=@decide_eq_true_eq
def zzO:=@PySem.Heap.lt_size
def zzP:=@List.mem_cons_self
def zzQ:=@List.getElem?_map
def zzR:=@List.mem_append_right
def zzS:=@List.getElem?_set_ne
def zzT:=@List.all_eq_true
def zzU:=@Nat.le_trans
def zzV:=@Nat.lt_of_le_of_lt
def zzW:=@Nat.lt_of_lt_of_le
def zzX:=@PySem.Heap.get?_push_size
def zzY:=@of_decide_eq_true
def zzZ:=@Option.bind_eq_some_iff
def zzb:=@Nat.ne_of_lt
def zzc:=@List.mem_append_left
def zzd:=@Array.length_toList
def zze:=@Bool.false_eq_true
def zzh:=@decide_eq_true
def zzi:=@List.mem_singleton
def zzj:=@List.any_eq_true
def zzk:=@False.elim
def zzm:=@List.mem_cons
def zzn:=@List.contains_iff_mem
def zzo:=@List.getElem?_set_self
def zzp:=@Option.isSome_iff_exists
def zzq:=@Option.some.inj
def zzr:=@List.getElem?_append_left
def zzs:=@List.getElem?_append_right
def zzt:=@Bool.or_eq_true
def zzu:=@PySem.Heap.SameBut.update
def zzw:=@Int.eq_ofNat_of_zero_le
def zzx:=@List.mem_map
def zzy:=@beq_iff_eq
def zz0:=@decide_eq_false
def zz1:=@List.mem_filterMap
def zz2:=@Array.getElem?_eq_getElem
def zz3:=@List.filter_cons
def zz4:=@Int.toNat_natCast
def zz5:=@List.lookup_cons
def zz6:=@List.append_nil
def zz7:=@PySem.Around.under_plainId
namespace L2
open PySem PySem.Spec PyProof.Rows
abbrev Key:=Sum Int Str
noncomputable def mS:Key->Value->Bool
 |.inl k,v=>Value.isInt k v
 |.inr x,v=>Value.isStrOf x v
noncomputable def OL(w:World):Key->Int
 |.inl k=>hashInt k
 |.inr x=>hashStr w x
theorem bu:∀{k:Key} {v:Value},mS k v=true->(∃i t,k=Sum.inl i/\v=Value.int i t)\/(∃x t,k=Sum.inr x/\v=Value.str x t)
 |.inl i,v,h=>by
  obtain⟨t,e⟩:=Value.isInt_shape (k:=i) (v:=v) h
  exact .inl ⟨i,t,rfl,e⟩
 |.inr x,v,h=>by
  obtain⟨t,e⟩:=Value.isStrOf_shape (x:=x) (v:=v) h
  exact .inr ⟨x,t,rfl,e⟩
def wI(i:Int)(t:Tok):mS (.inl i) (.int i t)=true:=by simp [mS,Value.isInt]
def w9(x:Str)(t:Tok):mS (.inr x) (.str x t)=true:=by simp [mS,Value.isStrOf]
def Ig(a b:Int):decide ((Sum.inl a:Key)=Sum.inl b)=(a==b):=by
 by_cases e:a=b
 ·subst e;simp
 ·have h:¬(Sum.inl a:Key)=Sum.inl b:=λq=>e (Sum.inl.inj q)
  rw [zz0 h];exact(beq_eq_false_iff_ne.mpr e).symm
def GK(a b:Str):decide ((Sum.inr a:Key)=Sum.inr b)=decide (a=b):=by
 by_cases e:a=b
 ·subst e;simp
 ·have h:¬(Sum.inr a:Key)=Sum.inr b:=λq=>e (Sum.inr.inj q)
  rw [zz0 h,zz0 e]
def JI(a:Int)(b:Str):decide ((Sum.inl a:Key)=Sum.inr b)=false:=zz0 (λq=>nomatch q)
def Hj(a:Str)(b:Int):decide ((Sum.inr a:Key)=Sum.inl b)=false:=zz0 (λq=>nomatch q)
noncomputable def aC(prog:Program)(w:World):PySem.KeyKind prog w Key where
 is:=mS
 hash:=OL w
 inj:=λv a b ha hb=>by
  rcases bu ha with⟨i,t,rfl,rfl⟩|⟨x,t,rfl,rfl⟩
  ·rcases bu hb with⟨j,u,rfl,e⟩|⟨y,u,rfl,e⟩
   ·injection e with e1 _;rw [e1]
   ·exact nomatch e
  ·rcases bu hb with⟨j,u,rfl,e⟩|⟨y,u,rfl,e⟩
   ·exact nomatch e
   ·injection e with e1 _;rw [e1]
 byValue:=λk v h=>by
  rcases bu h with⟨i,t,rfl,rfl⟩|⟨x,t,rfl,rfl⟩<;>rfl
 pyHash:=λhv h=>by
  rcases bu hv with⟨i,t,rfl,rfl⟩|⟨x,t,rfl,rfl⟩
  ·exact wpAny_pyHash_int h
  ·exact wpAny_pyHash_str h
 eqBool:=λhu hv h=>by
  rcases bu hu with⟨i,t,rfl,rfl⟩|⟨x,t,rfl,rfl⟩
  ·rcases bu hv with⟨j,u,rfl,rfl⟩|⟨y,u,rfl,rfl⟩
   ·rw [Ig] at h;exact wpAny_eqBool_int h
   ·rw [JI] at h;exact SeqAt.EqAt.int_str i t y u _ _ _ _ h
  ·rcases bu hv with⟨j,u,rfl,rfl⟩|⟨y,u,rfl,rfl⟩
   ·rw [Hj] at h;exact SeqAt.EqAt.str_int x t j u _ _ _ _ h
   ·rw [GK] at h;exact wpAny_eqBool_str h
 «strs»:=λk x t v h=>by
  rcases bu h with⟨i,u,rfl,e⟩|⟨y,u,rfl,e⟩
  ·exact nomatch e
  ·injection e with e1 _
   subst e1;cases v<;>rfl
def rD(prog:Program)(w:World)(i:Int)(t:Tok):(aC prog w).is (.inl i) (.int i t)=true:=wI i t
def qX(prog:Program)(w:World)(x:Str)(t:Tok):(aC prog w).is (.inr x) (.str x t)=true:=w9 x t
inductive V where
 |ay|bl (b:Bool)|int (i:Int)|str (x:Str)|OM (b:Array UInt8)|Pn (b:UInt64)|ref (a:Addr)|ty (n:String)
 deriving DecidableEq
def RelV:V->Value->Prop
 |.ay,u=>u=Value.none
 |.bl b,u=>u=Value.bool b
 |.int i,u=>∃t,u=Value.int i t
 |.str x,u=>∃t,u=Value.str x t
 |.OM b,u=>∃t,u=Value.bytes b t
 |.Pn b,u=>∃t,u=Value.float b t
 |.ref a,u=>u=Value.ref a
 |.ty n,u=>u=Value.type n
abbrev Vals:List V->List Value->Prop:=Paired RelV
def Vals.length{xs:List V}{us:List Value}(r:Vals xs us):xs.length=us.length:=Paired.length r
theorem Vals.get:∀{xs:List V} {us:List Value} {i:Nat} {x:V},Vals xs us->xs[i]?=some x->∃u,us[i]?=some u/\RelV x u
 |_,_,_,_,.nil,e=>by simp at e
 |_,_,0,_,.cons r _,e=>by simp at e;subst e;exact⟨_,rfl,r⟩
 |_,_,i+1,x,.cons _ t,e=>by
  obtain⟨u,h1,h2⟩:=Vals.get (i:=i) (x:=x) t (by simpa using e)
  exact⟨u,by simpa using h1,h2⟩
theorem Vals.set{x:V}{u:Value}(r:RelV x u):∀{xs:List V} {us:List Value} (i:Nat),Vals xs us->Vals (xs.set i x) (us.set i u)
 |_,_,_,.nil=>.nil
 |_,_,0,.cons _ t=>.cons r t
 |_,_,i+1,.cons q t=>.cons q (Vals.set r i t)
theorem Vals.append:∀{xs ys:List V} {us ws:List Value},Vals xs us->Vals ys ws->Vals (xs++ys) (us++ws)
 |_,_,_,_,.nil,s=>s
 |_,_,_,_,.cons r t,s=>.cons r (Vals.append t s)
theorem Vals.take:∀{xs:List V} {us:List Value} (n:Nat),Vals xs us->Vals (xs.take n) (us.take n)
 |_,_,0,_=>.nil
 |_,_,_+1,.nil=>.nil
 |_,_,n+1,.cons r t=>.cons r (Vals.take n t)
theorem Vals.drop:∀{xs:List V} {us:List Value} (n:Nat),Vals xs us->Vals (xs.drop n) (us.drop n)
 |_,_,0,r=>r
 |_,_,_+1,.nil=>.nil
 |_,_,n+1,.cons _ t=>Vals.drop n t
def jX:Option V->Option Value->Prop
 |some v,some u=>RelV v u
 |none,none=>True
 |_,_=>False
def KV{κ:Type}:List (κ×V)->List (κ×Value)->Prop:=Paired λ(p:κ×V) (q:κ×Value)=>p.1=q.1/\RelV p.2 q.2
noncomputable def kV:Key->V
 |.inl i=>.int i
 |.inr x=>.str x
inductive HO where
 |lst (xs:List V)
 |tup (xs:List V)
 |dK (ax:List (Key×V))|dT (ax:List (List Key×V))
 |set (S:Int->Bool) (n:Nat)
 |ins (C dx:Addr) (fs:List (Str×V))
 |own (x:Addr)
 |xd (fs:List (Str×V))
 |met (f x:Addr)
 |md (lo hi:Int)
 |cN (o:Obj) (u:HO)
 |fX (ps:Array Value)
 |ext (φ:Heap->Prop)
abbrev Hp:=Addr->Option HO
noncomputable def upd(H:Hp)(a:Addr)(o:HO):Hp:=λb=>if b=a then some o else H b
def ak{H:Hp}{a:Addr}{o:HO}:upd H a o a=some o:=by unfold upd;rw [if_pos rfl]
def ai{H:Hp}{a b:Addr}{o:HO}(h:b≠a):upd H a o b=H b:=by unfold upd;rw [if_neg h]
def vV{H:Hp}{a:Addr}{o u:HO}:upd (upd H a o) a u=upd H a u:=by
 funext b;unfold upd;split<;>rfl
def iK{H:Hp}{a b:Addr}{o u:HO}(h:H a=some o)(h':H b=some u)(d:o≠u):a≠b:=by
 intro e;subst e;rw [h] at h';exact d (zzq h')
def da{H:Hp}{a b:Addr}{o:HO}(h:H a=some o)(h':H b=none):a≠b:=by
 intro e;subst e;rw [h] at h';cases h'
section
variable(P:Program)(w:World)
def bF(H:Hp)(h:Heap)(a:Addr):HO->Prop
 |.lst xs=>xs.length<=sizeLine/\∃(aj:List Value) (n:Nat),Vals xs aj/\h.get? a=some {cls:=.type "list",data:=.seq aj.toArray n}
 |.tup xs=>xs.length<=sizeLine/\∃aj:List Value,Vals xs aj/\IsTup h a aj.toArray
 |.dK ax=>ax.length<=sizeLine/\(a==sysModules)=false/\∃vs,KV ax vs/\h.DictOf (aC P w) a vs
 |.dT ax=>ax.length<=sizeLine/\(a==sysModules)=false/\∃xs:List (List Key×Addr×Value),
  Paired (λ(p:List Key×V) (q:List Key×Addr×Value)=>p.1=q.1/\H q.2.1=some (.tup (p.1.map kV))/\RelV p.2 q.2.2) ax xs/\
  ∃o es ep,h.get? a=some o/\o.ExactDict/\o.data=.dict es ep/\es.toList=xs.map (entryOfKey (tupleKind (aC P w)))/\(xs.map (·.1)).Nodup
 |.set S n=>h.SetOf (intKind P w) a S n
 |.ins C dx fs=>H dx=some (.own a)/\fs.length<=1000/\dx≠a/\h.get? a=some (PySem.W.instObj C dx)/\
  ∃mA,h.Ns1 dx mA/\(∀f,jX (fs.lookup f) (mA f))/\PySem.Within mA (fs.map (·.1))
 |.own _=>∃o,h.get? a=some o
 |.xd fs=>∃mA,h.Ns1 a mA/\∀f,jX (fs.lookup f) (mA f)
 |.md lo hi=>∃t u v,h.get? a=some {cls:=.type "range",data:=.fields #[.int lo t,.int hi u,.int 1 v]}
 |.cN o u=>h.get? a=some o/\bF H h a u
 |.fX ps=>h.get? a=some {cls:=.none,data:=.fields ps}
 |.met f x=>h.get? a=some (PySem.W.methodObj (.ref f) (.ref x))
 |.ext φ=>φ h/\(∃o,h.get? a=some o)/\∀h1 h2:Heap,φ h1->(∀o,h1.get? a=some o->h2.get? a=some o)->φ h2
def gD(H:Hp)(h:Heap):Prop:=∀a o,H a=some o->bF P w H h a o
end
section
variable{P:Program}{w:World}{H H':Hp}{h h':Heap}{a:Addr}{o:HO}
def bF.lt(x:bF P w H h a o):a<h.objs.size:=by
 cases o with
 |lst xs=>obtain⟨_,_,_,_,e⟩:=x;exact zzO e
 |tup xs=>obtain⟨_,_,_,p⟩:=x;exact p.lt
 |dK ax=>obtain⟨_,_,_,_,o,_,_,e,_⟩:=x;exact zzO e
 |dT ax=>obtain⟨_,_,_,_,o,_,_,e,_⟩:=x;exact zzO e
 |set S n=>obtain⟨o,_,_,_,e,_⟩:=x;exact zzO e
 |ins C dx fs=>obtain⟨_,_,_,e,_⟩:=x;exact zzO e
 |own y=>obtain⟨_,e⟩:=x;exact zzO e
 |xd fs=>obtain⟨_,⟨_,_,_,e,_⟩,_⟩:=x;exact zzO e
 |md lo hi=>obtain⟨_,_,_,e⟩:=x;exact zzO e
 |cN ob u=>obtain⟨e,_⟩:=x;exact zzO e
 |fX ps=>exact zzO (show h.get? a=some _ from x)
 |met f y=>exact zzO (show h.get? a=some _ from x)
 |ext φ=>obtain⟨_,⟨_,e⟩,_⟩:=x;exact zzO e
theorem Paired.uL{α β:Type}{F G:α->β->Prop}:∀{l₁:List α} {l₂:List β},Paired F l₁ l₂->(∀a b,F a b->G a b)->Paired G l₁ l₂
 |_,_,.nil,_=>.nil
 |_,_,.cons r t,f=>.cons (f _ _ r) (Paired.uL t f)
def bF.eU(x:bF P w H h a o)(k:∀b u,(b=a\/H b=some (.own a))->h.get? b=some u->h'.get? b=some u)
 (ho:∀b,H b=some (.own a)->H' b=some (.own a)) (ht:∀b xs,H b=some (.tup xs)->H' b=some (.tup xs)):bF P w H' h' a o:=by
 induction o with
 |lst xs=>obtain⟨z,aj,n,r,e⟩:=x;exact⟨z,aj,n,r,k _ _ (.inl rfl) e⟩
 |tup xs=>obtain⟨z,aj,r,ob,e,c⟩:=x;exact⟨z,aj,r,ob,k _ _ (.inl rfl) e,c⟩
 |dK ax=>obtain⟨z,y,vs,r,ob,es,ep,e,c⟩:=x;exact⟨z,y,vs,r,ob,es,ep,k _ _ (.inl rfl) e,c⟩
 |dT ax=>
  obtain⟨z,y,xs,r,ob,es,ep,e,c⟩:=x
  exact⟨z,y,xs,Paired.uL r λp q z=>⟨z.1,ht _ _ z.2.1,z.2.2⟩,ob,es,ep,k _ _ (.inl rfl) e,c⟩
 |set S n=>obtain⟨ob,es,ep,t,e,c⟩:=x;exact⟨ob,es,ep,t,k _ _ (.inl rfl) e,c⟩
 |ins C dx fs=>
  obtain⟨d,z,ne,e,mA,⟨od,es,ep,e2,c⟩,r⟩:=x
  exact⟨ho _ d,z,ne,k _ _ (.inl rfl) e,mA,⟨od,es,ep,k _ _ (.inr d) e2,c⟩,r⟩
 |own y=>obtain⟨ob,e⟩:=x;exact⟨ob,k _ _ (.inl rfl) e⟩
 |xd fs=>obtain⟨mA,⟨od,es,ep,e,c⟩,r⟩:=x;exact⟨mA,⟨od,es,ep,k _ _ (.inl rfl) e,c⟩,r⟩
 |md lo hi=>obtain⟨t,u,v,e⟩:=x;exact⟨t,u,v,k _ _ (.inl rfl) e⟩
 |cN ob u ih=>obtain⟨e,q⟩:=x;exact⟨k _ _ (.inl rfl) e,ih q⟩
 |fX ps=>
  have e:h.get? a=some {cls:=.none,data:=.fields ps}:=x
  show h'.get? a=some {cls:=.none,data:=.fields ps}
  exact k a _ (.inl rfl) e
 |met f y=>
  have e:h.get? a=some (PySem.W.methodObj (.ref f) (.ref y)):=x
  show h'.get? a=some (PySem.W.methodObj (.ref f) (.ref y))
  exact k a _ (.inl rfl) e
 |ext φ=>obtain⟨p,⟨o,e⟩,st⟩:=x;exact⟨st _ _ p λo q=>k _ _ (.inl rfl) q,⟨o,k _ _ (.inl rfl) e⟩,st⟩
def gD.lt(x:gD P w H h)(e:H a=some o):a<h.objs.size:=(x a o e).lt
def gD.fresh(x:gD P w H h)(e:h.objs.size<=a):H a=none:=by
 cases q:H a with
 |none=>rfl
 |some u=>exact absurd (zzW (x.lt q) e) (Nat.lt_irrefl _)
def gD.kept(x:gD P w H h)(k:∀b u,h.get? b=some u->h'.get? b=some u):gD P w H h':=λa o e=>
 (x a o e).eU (λb u _ q=>k b u q) (λ_ q=>q) λ_ _ q=>q
theorem gD.laid(x:gD P w H h)(k:∀b u,h.get? b=some u->h'.get? b=some u)(hp:h.objs.size<=a)(new:bF P w (upd H a o) h' a o):gD P w (upd H a o) h':=λb u e=>by
 have hn:=x.fresh hp
 by_cases hb:b=a
 ·subst hb;rw [ak] at e;cases e;exact new
 ·rw [ai hb] at e;exact(x b u e).eU (λc v _ q=>k c v q) (λc q=>by rw [ai (da q hn)];exact q) λc xs q=>by rw [ai (da q hn)];exact q
end
def Rd(H:Hp)(a:Addr)(u:HO):Prop:=H a=some u\/∃o,H a=some (.cN o u)
def Rd.ok{P:Program}{w:World}{H:Hp}{h:Heap}{a:Addr}{u:HO}(r:Rd H a u)(x:gD P w H h):bF P w H h a u:=by
 rcases r with r|⟨o,r⟩
 ·exact x a u r
 ·obtain⟨_,q⟩:=x a _ r
  exact q
def LA:Option HO->Prop
 |some (.lst _)=>True
 |some (.dK _)=>True
 |some (.dT _)=>True
 |some (.set _ _)=>True
 |some (.ins _ _ _)=>True
 |some (.ext _)=>True
 |_=>False
section
variable{P:Program}{w:World}{H:Hp}{h h':Heap}{x e:Addr}{o':HO}
def gD.write(ok:gD P w H h)(mu:LA (H x))(he:e=x\/H e=some (.own x))(k:∀b u,b≠e->h.get? b=some u->h'.get? b=some u)(KP:∃u,h'.get? e=some u)
 (new:bF P w (upd H x o') h' x o'):gD P w (upd H x o') h':=λb u q=>by
 have K0:∀c y,H c=some (.own y)->c≠x:=λc y r z=>by subst z;rw [r] at mu;exact mu
 have QM:∀c xs,H c=some (.tup xs)->c≠x:=λc xs r z=>by subst z;rw [r] at mu;exact mu
 by_cases hb:b=x
 ·subst hb;rw [ak] at q;cases q;exact new
 ·rw [ai hb] at q
  by_cases hbe:b=e
  ·have q':H b=some (.own x):=by
    rcases he with z|z
    ·exact absurd (hbe.trans z) hb
    ·rw [hbe];exact z
   rw [q] at q';cases q';obtain⟨v,hv⟩:=KP
   exact⟨v,by rw [hbe];exact hv⟩
  ·refine(ok b u q).eU (λc v hc r=>k c v ?_ r) (λc r=>by rw [ai (K0 c b r)];exact r) λc xs r=>by rw [ai (QM c xs r)];exact r
   rcases hc with rfl|hc
   ·exact hbe
   ·rintro rfl
    rcases he with z|z
    ·exact K0 c b hc z
    ·rw [hc] at z;cases z;exact hb rfl
end
structure Un(fs ex:List Addr)(H H':Hp)(h h':Heap):Prop where
 keep:∀b o,h.get? b=some o->H b=none->b∉fs->b∉ex->h'.get? b=some o
 slot:∀b o,h.get? b=some o->H b=none->b∈fs->b∉ex->∃sl,h'.get? b=some {o with slots:=sl}
 free:∀b o,h.get? b=some o->H b=none->b∉ex->H' b=none
 there:∀b o,h.get? b=some o->b∉ex->∃o',h'.get? b=some o'
 iV:∀b xs,H b=some (.tup xs)->H' b=some (.tup xs)
 iF:∀b o u,H b=some (.cN o u)->H' b=some (.cN o u)
 iE:∀b ps,H b=some (.fX ps)->∃more,H' b=some (.fX (ps++more))
section
variable{fs ex:List Addr}{H H1:Hp}{h h1 h':Heap}{a x e:Addr}{o:HO}
def Un.any(u:Un fs ex H H1 h h1){b:Addr}{ob:Obj}(q:h.get? b=some ob)(n:H b=none)(hx:b∉ex):∃sl,h1.get? b=some {ob with slots:=sl}:=by
 by_cases hb:b∈fs
 ·exact u.slot b ob q n hb hx
 ·exact⟨ob.slots,u.keep b ob q n hb hx⟩
def Un.kept(k:∀b u,h.get? b=some u->h'.get? b=some u):Un fs ex H H h h':=
 ⟨λb ob q _ _ _=>k b ob q,λb ob q _ _ _=>⟨ob.slots,k b ob q⟩,λ_ _ _ n _=>n,λb ob q _=>⟨ob,k b ob q⟩,λ_ _ q=>q,λ_ _ _ q=>q,λ_ ps q=>⟨#[],by rw [q];simp⟩⟩
def Un.refl:Un fs ex H H h h:=Un.kept λ_ _ q=>q
theorem Un.laid(k:∀b u,h.get? b=some u->h'.get? b=some u)(hp:h.objs.size<=a)(hn:H a=none):Un fs ex H (upd H a o) h h' where
 keep:=λb u q _ _ _=>k b u q
 slot:=λb u q _ _ _=>⟨u.slots,k b u q⟩
 free:=λb u q n _=>by rw [ai (zzb (zzW (zzO q) hp))];exact n
 there:=λb u q _=>⟨u,k b u q⟩
 iV:=λb xs q=>by rw [ai (da q hn)];exact q
 iF:=λb u xs q=>by rw [ai (da q hn)];exact q
 iE:=λb ps q=>⟨#[],by rw [ai (da q hn),q];simp⟩
def Un.write(mu:LA (H x))(he:e=x\/H e=some (.own x))(k:∀b u,b≠e->h.get? b=some u->h'.get? b=some u)(KP:∃u,h'.get? e=some u):Un fs ex H (upd H x o) h h':=by
 have hx:∀b,H b=none->b≠x:=λb n z=>by subst z;rw [n] at mu;exact mu
 have hb:∀b,H b=none->b≠e:=λb n z=>by
  subst z;rcases he with r|r
  ·exact hx b n r
  ·rw [n] at r;cases r
 have hm:∀b u,H b=some u->¬LA (some u)->b≠x:=λb u q nm z=>by subst z;rw [q] at mu;exact nm mu
 refine⟨λb u q n _ _=>k b u (hb b n) q,λb u q n _ _=>⟨u.slots,k b u (hb b n) q⟩,λb u q n _=>by rw [ai (hx b n)];exact n,λb u q _=>?_,
  λb xs q=>by rw [ai (hm b _ q λz=>z)];exact q,λb u xs q=>by rw [ai (hm b _ q λz=>z)];exact q,λb ps q=>⟨#[],by rw [ai (hm b _ q λz=>z),q];simp⟩⟩
 by_cases hbe:b=e
 ·subst hbe;exact KP
 ·exact⟨u,k b u hbe q⟩
end
noncomputable def Ov(h:Heap)(H:Hp):List Addr:=(List.range h.objs.size).filter λa=>(H a).isSome
noncomputable def o6(h:Heap)(H:Hp):Heap:=PySem.W.hideAll h (Ov h H)
def wA(h:Heap)(H:Hp):(o6 h H).objs.size=h.objs.size:=PySem.W.hideAll_size _ _
theorem yR{h:Heap}{H:Hp}{b:Addr}{o:Obj}(e:h.get? b=some o)(n:H b=none):(o6 h H).get? b=some o:=
 PySem.W.hideAll_get _ e λhm=>by
  have q:(H b).isSome=true:=(List.mem_filter.mp hm).2
  rw [n] at q;simp at q
def CS{h:Heap}{H:Hp}{b:Addr}{o:Obj}(e:(o6 h H).get? b=some o):h.get? b=some o/\H b=none:=by
 have e':h.get? b=some o:=PySem.W.of_hideAll (Ov h H) e
 refine⟨e',?_⟩;cases q:H b with
 |none=>rfl
 |some x=>
  have hm:b∈Ov h H:=List.mem_filter.mpr ⟨List.mem_range.mpr (zzO e'),by simp [q]⟩
  have z:(o6 h H).get? b=none:=PySem.W.hideAll_none (Ov h H) hm
  rw [z] at e;cases e
noncomputable def EK(g h:Heap)(L:Addr):List (Addr×Obj):=(List.range h.objs.size).filterMap λa=>if a=L\/(g.get? a).isSome=true then none else(h.get? a).map λo=>(a,o)
noncomputable def rest(g h:Heap)(L d:Addr):List (Addr×Obj):=(EK g h L).filter λp=>decide (p.1≠d)
structure Mod(K:zz8)(mg:Str->Option Value)(base:Heap):Prop where
 PB:K.In base
 glob:base.Ns mainGlobals mg
 blt:∃mb,base.Ns builtinsNs mb/\∀x:Str,x≠"__name__"->mb x=bootBuiltins x
 nolimit:base.NoLimit
structure Cx where
 prog:Program
 w:World
 K:zz8
 mg:Str->Option Value
 base:Heap
 A:Around
 N:List Str
 s₀:Shared
 H₀:Hp
 env:Env
 outer:List Env
 stack:List Env
 ex:List Addr
 fn:Str->Bool
 calm:Bool
 pn:List (Addr×Obj)
 xe:Value->Shared->Prop
noncomputable def gM(l:List Env):List Addr:=l.filterMap (·.frame)
noncomputable abbrev Cx.fs(X:Cx):List Addr:=gM X.outer
def ND(sc:Scope)(x:Str):Prop:=sc.names.lookup x=some .local\/sc.names.lookup x=some .cell\/sc.names.lookup x=some .free
def Loc(sc:Scope)(x:Str):Prop:=sc.names.lookup x=some .local\/sc.names.lookup x=some .cell
def Look(env:Env)(h:Heap)(m:Str->Option Value)(x:Str)(u:Value):Prop:=
 (env.kindOf x=some .local/\m x=some u)\/((env.kindOf x=some .cell\/env.kindOf x=some .free)/\∃c,env.cells.lookup x=some c/\h.IsCell c (some u))
structure Cx.Ok(X:Cx):Prop where
 mod:Mod X.K X.mg X.base
 kind:X.env.scope.kind=.function
 glob:X.env.globals=mainGlobals
 blt:X.env.builtins=builtinsNs
 above:X.s₀.heap.objs.size<=X.env.locals
 inj:∀x y c,X.env.cells.lookup x=some c->X.env.cells.lookup y=some c->x=y
 has:∀x,(X.env.kindOf x=some .cell\/X.env.kindOf x=some .free)->∃c,X.env.cells.lookup x=some c
 Ot:∀x c,X.fn x=true->X.env.cells.lookup x=some c->X.s₀.heap.objs.size<=c
 hd:X.calm=true->X.A.handled=none
 frames:X.A.frames=some X.stack
 LS:X.stack=X.outer\/(X.stack=X.env::X.outer/\X.env.frame=some X.env.locals)
 exf:∀b∈X.ex,b≠X.env.locals/\∀x c,X.env.cells.lookup x=some c->c≠b
 bs:∀b o,X.base.get? b=some o->X.s₀.heap.get? b=some o/\X.H₀ b=none
 FP:X.base.objs.size<=X.s₀.heap.objs.size
 D9:∀b o,X.base.get? b=some o->b∉X.ex
 IP:∀b∈X.ex,b∉X.fs
 l7:X.s₀.heap.FunFrames X.base X.outer
 H9:∀b∈X.fs,X.H₀ b=none
structure Inv(X:Cx)(aa:List (Addr×Obj))(σ:List (Option V))(H:Hp)(s:Shared):Prop where
 ok:X.Ok
 os:s.os=X.s₀.os
 bare:AllBare s.gens
 base:Un X.fs X.ex X.H₀ H X.s₀.heap s.heap
 loc:∃m,s.heap.Ns X.env.locals m/\∀(i:Nat) (x:Str) (v:V),X.N[i]?=some x->σ[i]?=some (some v)->ND X.env.scope x->∃u,RelV v u/\Look X.env s.heap m x u
 cell:∀x c,X.env.cells.lookup x=some c->∃v,s.heap.IsCell c v
 free:H X.env.locals=none
 iP:∀x c,X.env.cells.lookup x=some c->H c=none
 pin:∀p∈X.pn++aa,s.heap.get? p.1=some p.2/\H p.1=none/\p.1≠X.env.locals/\p.1∉X.fs/\∀v,p.2.data≠.cell v
 bj:gD X.prog X.w H s.heap
 len:σ.length=X.N.length
section
variable{X:Cx}{aa:List (Addr×Obj)}{σ:List (Option V)}{H H':Hp}{s:Shared}{h':Heap}
theorem Cx.Ok.Qj(ok:X.Ok){b:Addr}{o:Obj}(e:X.base.get? b=some o):b∉X.fs:=λhb=>by
 have:=(ok.l7.mem hb).1
 rw [e] at this;cases this
def Inv.bs(I:Inv X aa σ H s):∀b o,X.base.get? b=some o->s.heap.get? b=some o/\H b=none:=λb o e=>
 ⟨I.base.keep b o (I.ok.bs b o e).1 (I.ok.bs b o e).2 (I.ok.Qj e) (I.ok.D9 b o e),I.base.free b o (I.ok.bs b o e).1 (I.ok.bs b o e).2 (I.ok.D9 b o e)⟩
def Inv.bk(I:Inv X aa σ H s):∀b o,X.base.get? b=some o->s.heap.get? b=some o:=λb o e=>(I.bs b o e).1
def Inv.mod(I:Inv X aa σ H s):Mod X.K X.mg X.base:=I.ok.mod
def Inv.vc(I:Inv X aa σ H s):X.K.In s.heap:=I.ok.mod.PB.keeps I.bk
theorem Inv.fr(I:Inv X aa σ H s):∃m,Fr X.base X.env.locals s.heap m:=
 let⟨m,hn,_⟩:=I.loc
 ⟨m,hn,I.bk,zzU I.ok.FP I.ok.above⟩
theorem Inv.lt(I:Inv X aa σ H s):X.env.locals<(zz9 s):=let⟨_,hn,_⟩:=I.loc;hn.lt
def Inv.sz(I:Inv X aa σ H s):X.s₀.heap.objs.size<=(zz9 s):=zzU I.ok.above (Nat.le_of_lt I.lt)
theorem Inv.Qb(I:Inv X aa σ H s){a:Addr}(h:(zz9 s)<=a):a∉X.fs:=λhb=>by
 obtain⟨_,o,ho,_⟩:=I.ok.l7.mem hb
 exact absurd (zzW (zzO ho) (zzU I.sz h)) (Nat.lt_irrefl _)
theorem Inv.HC(I:Inv X aa σ H s):∀x c,X.env.cells.lookup x=some c->c≠X.env.locals:=λx c e z=>by
 obtain⟨v,o,ho,hd⟩:=I.cell x c e
 obtain⟨m,⟨o',es,ep,iD,hd',_⟩,_⟩:=I.loc
 rw [z,iD] at ho;cases ho;rw [hd'] at hd;cases hd
def Inv.l7(I:Inv X aa σ H s):s.heap.FunFrames X.base X.outer:=by
 have all:∀(l:List Env),(∀b∈gM l,b∈X.fs)->X.s₀.heap.FunFrames X.base l->s.heap.FunFrames X.base l:=by
  intro l
  induction l with
  |nil=>intro _ _;trivial
  |cons env r ih=>
   intro hs hl;obtain⟨hk,⟨L,o,hf,hn,ho,hd⟩,hr⟩:=hl
   have hL:L∈X.fs:=hs L (by unfold gM;rw [List.filterMap_cons,hf];exact zzP)
   obtain⟨sl,e⟩:=I.base.slot L o ho (I.ok.H9 L hL) hL λz=>I.ok.IP L z hL
   exact⟨hk,⟨L,_,hf,hn,e,hd⟩,ih (λb hb=>hs b (by unfold gM;rw [List.filterMap_cons,hf];exact zzI _ hb)) hr⟩
 exact all X.outer (λ_ hb=>hb) I.ok.l7
def Inv.stack(I:Inv X aa σ H s):s.heap.FunFrames X.base X.stack:=by
 rcases I.ok.LS with e|⟨e,hf⟩
 ·rw [e];exact I.l7
 ·rw [e];obtain⟨m,hn,_⟩:=I.loc
  refine .cons (by rw [I.ok.kind];decide) hf hn ?_ I.l7;exact Heap.get?_none_of_le (zzU I.ok.FP I.ok.above)
def Inv.kQ(I:Inv X aa σ H s):∀b∈gM X.stack,b∈X.env.locals::X.fs:=λb hb=>by
 rcases I.ok.LS with e|⟨e,hf⟩
 ·rw [e] at hb;exact zzI _ hb
 ·rw [e] at hb;unfold gM at hb;rw [List.filterMap_cons,hf] at hb;exact hb
theorem Inv.pW(I:Inv X aa σ H s):∀b∈gM X.stack,H b=none:=λb hb=>by
 rcases zzm.mp (I.kQ b hb) with e|hb
 ·rw [e];exact I.free
 ·obtain⟨_,o,ho,_⟩:=I.ok.l7.mem hb
  exact I.base.free b o ho (I.ok.H9 b hb) λz=>I.ok.IP b z hb
def Inv.step{g':Array GenState}{t':Nat}{d':Drawn}{ch:List Addr}(I:Inv X aa σ H s)
 (BS:∀b∈ch,(b∈X.ex\/X.s₀.heap.objs.size<=b)/\b≠X.env.locals/\(∀x c,X.env.cells.lookup x=some c->c≠b)/\∀p∈X.pn++aa,p.1≠b)
 (keep:∀b o,b≠X.env.locals->b∉X.fs->b∉ch->s.heap.get? b=some o->H b=none->h'.get? b=some o)
 (slot:∀b o,b≠X.env.locals->b∈X.fs->b∉ch->s.heap.get? b=some o->H b=none->∃sl,h'.get? b=some {o with slots:=sl}) (free:∀b o,b∉ch->s.heap.get? b=some o->H b=none->H' b=none)
 (there:∀b o,b∉ch->s.heap.get? b=some o->∃o',h'.get? b=some o')
 (iV:∀b xs,H b=some (.tup xs)->H' b=some (.tup xs)) (iF:∀b o u,H b=some (.cN o u)->H' b=some (.cN o u)) (iE:∀b ps,H b=some (.fX ps)->∃more,H' b=some (.fX (ps++more)))
 (ns:∀m,s.heap.Ns X.env.locals m->h'.Ns X.env.locals m) (bj:gD X.prog X.w H' h') (hg:AllBare g'):
 Inv X aa σ H' {s with heap:=h',gens:=g',drawn:=d',toks:=t'}:=by
 have NF:∀b o,X.s₀.heap.get? b=some o->b≠X.env.locals:=λb o e=>zzb (zzW (zzO e) I.ok.above)
 have GC:∀b o,X.s₀.heap.get? b=some o->b∉X.ex->b∉ch:=λb o e hx hb=>by
  rcases(BS b hb).1 with z|z
  ·exact hx z
  ·exact absurd (zzW (zzO e) z) (Nat.lt_irrefl _)
 have cellK:∀x c,X.env.cells.lookup x=some c->∀v,s.heap.IsCell c v->h'.IsCell c v:=λx c e v ⟨o,ho,hd⟩=>by
  have LQ:c∉ch:=λz=>(BS c z).2.2.1 x c e rfl
  by_cases hc:c∈X.fs
  ·obtain⟨sl,q⟩:=slot c o (I.HC x c e) hc LQ ho (I.iP x c e)
   exact⟨_,q,hd⟩
  ·exact⟨o,keep c o (I.HC x c e) hc LQ ho (I.iP x c e),hd⟩
 refine⟨I.ok,I.os,hg,⟨λb o e n hb hx=>?_,λb o e n hb hx=>?_,λb o e n hx=>?_,λb o e hx=>?_,λb xs e=>iV b xs (I.base.iV b xs e),λb o xs e=>iF b o xs (I.base.iF b o xs e),λb ps e=>?_⟩,?_,λx c e=>?_,?_,λx c e=>?_,λp hp=>?_,bj,I.len⟩
 ·exact keep b o (NF b o e) hb (GC b o e hx) (I.base.keep b o e n hb hx) (I.base.free b o e n hx)
 ·obtain⟨sl,e1⟩:=I.base.slot b o e n hb hx
  obtain⟨sl',e2⟩:=slot b _ (NF b o e) hb (GC b o e hx) e1 (I.base.free b o e n hx)
  exact⟨sl',e2⟩
 ·obtain⟨o',e1⟩:=I.base.there b o e hx
  exact free b o' (GC b o e hx) e1 (I.base.free b o e n hx)
 ·obtain⟨o',e1⟩:=I.base.there b o e hx
  exact there b o' (GC b o e hx) e1
 ·obtain⟨m1,e1⟩:=I.base.iE b ps e
  obtain⟨m2,e2⟩:=iE b _ e1
  exact⟨m1++m2,by rw [e2,Array.append_assoc]⟩
 ·obtain⟨m,hn,hl⟩:=I.loc
  refine⟨m,ns m hn,λi x v e1 e2 e3=>?_⟩
  obtain⟨u,r,l⟩:=hl i x v e1 e2 e3
  refine⟨u,r,?_⟩;rcases l with l|⟨k,c,e,z⟩
  ·exact .inl l
  ·exact .inr ⟨k,c,e,cellK x c e _ z⟩
 ·obtain⟨v,z⟩:=I.cell x c e
  exact⟨v,cellK x c e v z⟩
 ·obtain⟨m,⟨o,_,_,ho,_⟩,_⟩:=I.loc
  exact free _ o (λz=>(BS _ z).2.1 rfl) ho I.free
 ·obtain⟨v,o,ho,hd⟩:=I.cell x c e
  exact free c o (λz=>(BS c z).2.2.1 x c e rfl) ho (I.iP x c e)
 ·obtain⟨e,n,ne,nf,d⟩:=I.pin p hp
  have LQ:p.1∉ch:=λz=>(BS p.1 z).2.2.2 p hp rfl
  exact⟨keep p.1 p.2 ne nf LQ e n,free p.1 p.2 LQ e n,ne,nf,d⟩
def Inv.un{t':Nat}(I:Inv X aa σ H s)(u:Un X.fs [] H H' s.heap h')(bj:gD X.prog X.w H' h'):Inv X aa σ H' {s with heap:=h',toks:=t'}:=by
 obtain⟨m,⟨o,es,ep,ho,r⟩,_⟩:=id I.loc
 obtain⟨sl,hL⟩:=u.any ho I.free (by simp)
 exact I.step (g':=s.gens) (d':=s.drawn) (ch:=[]) (λ_ z=>nomatch z) (λb o _ hb _ e n=>u.keep b o e n hb (by simp)) (λb o _ hb _ e n=>u.slot b o e n hb (by simp)) (λb o _ e n=>u.free b o e n (by simp)) (λb o _ e=>u.there b o e (by simp)) u.iV u.iF u.iE (λm' hm=>by
  obtain⟨o',rl,ep',iD,r'⟩:=hm
  rw [ho] at iD;cases iD;exact⟨_,rl,ep',hL,r'⟩) bj I.bare
def Inv.call{g':Array GenState}{t':Nat}{d':Drawn}{ch:List Addr}(I:Inv X aa σ H s)(u:Un (gM X.stack) ch H H' s.heap h')(bj:gD X.prog X.w H' h')(hg:AllBare g')
 (BS:∀b∈ch,(b∈X.ex\/X.s₀.heap.objs.size<=b)/\b≠X.env.locals/\(∀x c,X.env.cells.lookup x=some c->c≠b)/\∀p∈X.pn++aa,p.1≠b):
 Inv X aa σ H' {s with heap:=h',gens:=g',drawn:=d',toks:=t'}:=by
 obtain⟨m,⟨o,es,ep,ho,r⟩,_⟩:=id I.loc
 obtain⟨sl,hL⟩:=u.any ho I.free λz=>(BS _ z).2.1 rfl
 exact I.step (ch:=ch) BS (λb o hL hb hc e n=>u.keep b o e n (λz=>(zzm.mp (I.kQ b z)).elim hL hb) hc) (λb o _ _ hc e n=>u.any e n hc) (λb o hc e n=>u.free b o e n hc) (λb o hc e=>u.there b o e hc) u.iV u.iF u.iE (λm' hm=>by
  obtain⟨o',rl,ep',iD,r'⟩:=hm
  rw [ho] at iD;cases iD;exact⟨_,rl,ep',hL,r'⟩) bj hg
def Inv.turned{t':Nat}{it:Addr}(I:Inv X aa σ H s)(k:∀b o,b≠it->s.heap.get? b=some o->h'.get? b=some o)(hn:H it=none)(hL:it≠X.env.locals)
 (h1:it∈X.ex\/X.s₀.heap.objs.size<=it) (h2:∀x c,X.env.cells.lookup x=some c->c≠it) (h3:∀p∈X.pn++aa,p.1≠it):Inv X aa σ H {s with heap:=h',toks:=t'}:=by
 have Rt:∀b u,H b=some u->b≠it:=λb u e z=>by rw [z,hn] at e;cases e
 refine I.step (g':=s.gens) (d':=s.drawn) (ch:=[it]) (λb hb=>?_) (λb o _ _ hc e _=>k b o (λz=>hc (by simp [z])) e) (λb o _ _ hc e _=>⟨o.slots,k b o (λz=>hc (by simp [z])) e⟩) (λ_ _ _ _ n=>n)
  (λb o hc e=>⟨o,k b o (λz=>hc (by simp [z])) e⟩) (λ_ _ e=>e) (λ_ _ _ e=>e) (λb ps e=>⟨#[],by rw [e];simp⟩) (λm hm=>?_) (λb u e=>?_) I.bare
 ·have e:b=it:=by simpa using hb
  subst e;exact⟨h1,hL,h2,h3⟩
 ·obtain⟨o,es,ep,ho,r⟩:=hm
  exact⟨o,es,ep,k _ o (Ne.symm hL) ho,r⟩
 ·refine(I.bj b u e).eU (λc v hc q=>k c v ?_ q) (λ_ q=>q) λ_ _ q=>q
  rcases hc with z|z
  ·rw [z];exact Rt b u e
  ·exact Rt c _ z
theorem Inv.tok(I:Inv X aa σ H s)(t:Nat):Inv X aa σ H {s with toks:=t}:=I.un (h':=s.heap) (t':=t) Un.refl I.bj
theorem Inv.kept{t':Nat}(I:Inv X aa σ H s)(k:∀b u,s.heap.get? b=some u->h'.get? b=some u):Inv X aa σ H {s with heap:=h',toks:=t'}:=I.un (Un.kept k) (I.bj.kept k)
theorem Inv.laid{a:Addr}{o:HO}{t':Nat}(I:Inv X aa σ H s)(k:∀b u,s.heap.get? b=some u->h'.get? b=some u)(hp:(zz9 s)<=a)(new:bF X.prog X.w (upd H a o) h' a o):
 Inv X aa σ (upd H a o) {s with heap:=h',toks:=t'}:=I.un (Un.laid k hp (I.bj.fresh hp)) (I.bj.laid k hp new)
theorem Inv.write{x e:Addr}{o:HO}{t':Nat}(I:Inv X aa σ H s)(mu:LA (H x))(he:e=x\/H e=some (.own x))(k:∀b u,b≠e->s.heap.get? b=some u->h'.get? b=some u)(KP:∃u,h'.get? e=some u)
 (new:bF X.prog X.w (upd H x o) h' x o):Inv X aa σ (upd H x o) {s with heap:=h',toks:=t'}:=I.un (Un.write mu he k KP) (I.bj.write mu he k KP new)
def Inv.jl{FG:List (Addr×Obj)}(I:Inv X aa σ H s)(h:∀p∈FG,s.heap.get? p.1=some p.2/\H p.1=none/\p.1≠X.env.locals/\p.1∉X.fs/\∀v,p.2.data≠.cell v):Inv X FG σ H s:=
 ⟨I.ok,I.os,I.bare,I.base,I.loc,I.cell,I.free,I.iP,λp hp=>(List.mem_append.mp hp).elim (λz=>I.pin p (zzc _ z)) (h p),I.bj,I.len⟩
def j8{N:List Str}(hN:N.Nodup){i j:Nat}{x:Str}(a:N[i]?=some x)(b:N[j]?=some x):i=j:=by
 obtain⟨h1,e1⟩:=zzH.mp a
 obtain⟨h2,e2⟩:=zzH.mp b
 exact(List.getElem_inj hN).mp (e1.trans e2.symm)
def iA{M:Model}{A:Around}{E:Value->Shared->Prop}{i:Nat}{x:Str}{v:V}{u:Value}{Q:Unit->Shared->Prop}(I:Inv X aa σ H s)(hN:X.N.Nodup)(hi:X.N[i]?=some x)(hx:Loc X.env.scope x)(r:RelV v u)
 (h:∀s',Inv X aa (σ.set i (some v)) H s'->(∃a,Heap.SameBut a s.heap s'.heap/\(a=X.env.locals\/X.env.cells.lookup x=some a))->Q () s') (hf:X.fn x=true\/X.env.scope.names.lookup x=some .local:=by first|exact .inl rfl|exact .inr rfl|assumption):wpAny M A (storeName X.env x u) Q E s:=by
 obtain⟨m,hn,hl⟩:=id I.loc
 have QW:(X.env.scope.kind==.class||(X.env.scope.kind==.module&&X.env.locals !=X.env.globals))=false:=by rw [I.ok.kind];rfl
 have hiσ:i<σ.length:=by rw [I.len];exact(zzH.mp hi).1
 have HC:=I.HC
 have tracked:∀{a:Addr} {h':Heap},(∃o,s.heap.get? a=some o/\H a=none)->Heap.SameBut a s.heap h'->gD X.prog X.w H h':=λ{a h'} ha hs b ob e=>by
  obtain⟨_,_,hfree⟩:=ha
  refine(I.bj b ob e).eU (λc w' hc q=>(hs.2 c ?_).trans q) (λ_ q=>q) λ_ _ q=>q
  rintro rfl
  rcases hc with rfl|hc
  ·rw [hfree] at e;cases e
  ·rw [hfree] at hc;cases hc
 rcases hx with hk|hk
 ·refine wpAny_storeName_local hk hn (λh' Qc hs=>?_) QW;obtain⟨oL,_,_,NC,_⟩:=id hn
  refine h _ ⟨I.ok,I.os,I.bare,⟨λb o e n hb hx=>?_,λb o e n hb hx=>?_,I.base.free,λb o e hx=>?_,I.base.iV,I.base.iF,I.base.iE⟩,⟨_,Qc,λj y v' e1 e2 e3=>?_⟩,λy c e=>?_,I.free,I.iP,λp hp=>?_,tracked ⟨oL,NC,I.free⟩ hs,by simpa using I.len⟩ ⟨_,hs,.inl rfl⟩
  ·exact(hs.2 b (zzb (zzW (zzO e) I.ok.above))).trans (I.base.keep b o e n hb hx)
  ·obtain⟨sl,e1⟩:=I.base.slot b o e n hb hx
   exact⟨sl,(hs.2 b (zzb (zzW (zzO e) I.ok.above))).trans e1⟩
  ·obtain⟨o',e1⟩:=I.base.there b o e hx
   exact⟨o',(hs.2 b (zzb (zzW (zzO e) I.ok.above))).trans e1⟩
  ·by_cases hj:j=i
   ·subst hj;rw [hi] at e1;cases e1;rw [zzo hiσ] at e2;cases e2;exact⟨u,r,.inl ⟨hk,by simp⟩⟩
   ·rw [zzS (Ne.symm hj)] at e2;obtain⟨u',r',q⟩:=hl j y v' e1 e2 e3
    refine⟨u',r',?_⟩;rcases q with⟨k,e⟩|⟨k,c,e,z⟩
    ·refine .inl ⟨k,?_⟩;have:y≠x:=λe=>hj (j8 hN e1 (e▸hi))
     simp [this,e]
    ·exact .inr ⟨k,c,e,z.sameBut hs (HC y c e)⟩
  ·obtain⟨w',z⟩:=I.cell y c e
   exact⟨w',z.sameBut hs (HC y c e)⟩
  ·obtain⟨e,n,ne,nf,d⟩:=I.pin p hp
   exact⟨(hs.2 p.1 ne).trans e,n,ne,nf,d⟩
 ·have vd:X.fn x=true:=by
   rcases hf with z|z
   ·exact z
   ·rw [z] at hk;cases hk
  obtain⟨c,hc⟩:=I.ok.has x (.inl hk)
  obtain⟨w',z⟩:=I.cell x c hc
  refine wpAny_storeName_cell I.ok.kind hk hc z (λh' qf hs=>?_);obtain⟨oc,hoc,hocd⟩:=id z
  refine h {s with heap:=h'} ⟨I.ok,I.os,I.bare,⟨λb o e n hb hx=>?_,λb o e n hb hx=>?_,I.base.free,λb o e hx=>?_,I.base.iV,I.base.iF,I.base.iE⟩,⟨m,hn.sameBut hs (Ne.symm (HC x c hc)),λj y v' e1 e2 e3=>?_⟩,λy c' e=>?_,I.free,I.iP,λp hp=>?_,tracked ⟨oc,hoc,I.iP x c hc⟩ hs,by simpa using I.len⟩ ⟨c,hs,.inr hc⟩
  ·exact(hs.2 b (zzb (zzW (zzO e) (I.ok.Ot x c vd hc)))).trans (I.base.keep b o e n hb hx)
  ·obtain⟨sl,e1⟩:=I.base.slot b o e n hb hx
   exact⟨sl,(hs.2 b (zzb (zzW (zzO e) (I.ok.Ot x c vd hc)))).trans e1⟩
  ·obtain⟨o',e1⟩:=I.base.there b o e hx
   exact⟨o',(hs.2 b (zzb (zzW (zzO e) (I.ok.Ot x c vd hc)))).trans e1⟩
  ·by_cases hj:j=i
   ·subst hj;rw [hi] at e1;cases e1;rw [zzo hiσ] at e2;cases e2;exact⟨u,r,.inr ⟨.inl hk,c,hc,qf⟩⟩
   ·rw [zzS (Ne.symm hj)] at e2;obtain⟨u',r',q⟩:=hl j y v' e1 e2 e3
    refine⟨u',r',?_⟩;rcases q with q|⟨k,c',e,z'⟩
    ·exact .inl q
    ·refine .inr ⟨k,c',e,z'.sameBut hs ?_⟩
     rintro rfl
     exact hj (j8 hN e1 (I.ok.inj _ _ _ e hc▸hi))
  ·by_cases hcc:c'=c
   ·subst hcc;exact⟨_,qf⟩
   ·obtain⟨w2,z2⟩:=I.cell y c' e
    exact⟨w2,z2.sameBut hs hcc⟩
  ·obtain⟨e,n,ne,nf,d⟩:=I.pin p hp
   refine⟨(hs.2 p.1 ?_).trans e,n,ne,nf,d⟩;intro q;rw [q,hoc] at e;have q':oc=p.2:=zzq e
   exact d w' (by rw [<-q'];exact hocd)
def rH{M:Model}{A:Around}{E:Value->Shared->Prop}{i:Nat}{x:Str}{v:V}{u:Value}{Q:Unit->Shared->Prop}(I:Inv X aa σ H s)(hN:X.N.Nodup)(hi:X.N[i]?=some x)(hx:Loc X.env.scope x)(r:RelV v u)
 (h:∀s',Inv X aa (σ.set i (some v)) H s'->Q () s') (hf:X.fn x=true\/X.env.scope.names.lookup x=some .local:=by first|exact .inl rfl|exact .inr rfl|assumption):wpAny M A (storeName X.env x u) Q E s:=
 iA I hN hi hx r (λs' I' _=>h s' I') hf
def Inv.MQ{s':Shared}{ch:List Addr}(I:Inv X aa σ H s)(ho:s'.os=s.os)(u:Un (gM X.stack) ch H H' s.heap s'.heap)(bj:gD X.prog X.w H' s'.heap)(hg:AllBare s'.gens)
 (BS:∀b∈ch,(b∈X.ex\/X.s₀.heap.objs.size<=b)/\b≠X.env.locals/\(∀x c,X.env.cells.lookup x=some c->c≠b)/\∀p∈X.pn++aa,p.1≠b):Inv X aa σ H' s':=by
 obtain⟨h',g',d',t',o'⟩:=s'
 have e:o'=s.os:=ho
 subst e;exact I.call (g':=g') (t':=t') (d':=d') u bj hg BS
end
noncomputable abbrev XK:=Value->Option Addr->Hp->Prop
abbrev St:=List (Option V)
abbrev VK:=V->Hp->Prop
abbrev TE:=St->Hp->VK->Prop
noncomputable abbrev TT:=St->Hp->(Bool->Hp->Prop)->Prop
noncomputable abbrev TA:=St->Hp->(List V->Hp->Prop)->Prop
structure Ends where
 nx:St->Hp->Prop
 rt:VK
 bk:St->Hp->Prop:=λ_ _=>False
 ct:St->Hp->Prop:=λ_ _=>False
abbrev TS:=Ends->St->Hp->Prop
def EP(X:Cx)(aa:List (Addr×Obj))(σ:St)(Q:VK)(u:Value)(s':Shared):Prop:=∃v H',Inv X aa σ H' s'/\RelV v u/\Q v H'
def TP(X:Cx)(aa:List (Addr×Obj))(σ:St)(Q:Bool->Hp->Prop)(b:Bool)(s':Shared):Prop:=∃H',Inv X aa σ H' s'/\Q b H'
def AP(X:Cx)(aa:List (Addr×Obj))(σ:St)(Q:List V->Hp->Prop)(us:List Value)(s':Shared):Prop:=∃vs H',Inv X aa σ H' s'/\Vals vs us/\Q vs H'
def SP(X:Cx)(aa:List (Addr×Obj))(D:Ends)(f:Flow)(s':Shared):Prop:=
 match f with
 |.next=>∃σ' H',Inv X aa σ' H' s'/\D.nx σ' H'
 |.brk=>∃σ' H',Inv X aa σ' H' s'/\D.bk σ' H'
 |.cont=>∃σ' H',Inv X aa σ' H' s'/\D.ct σ' H'
 |.ret u=>∃v σ' H',Inv X aa σ' H' s'/\RelV v u/\D.rt v H'
def PE(X:Cx)(e:Expr)(t:TE):Prop:=
 ∀(aa:List (Addr×Obj)) (s:Shared) (σ:St) (H:Hp) (Q:VK),Inv X aa σ H s->t σ H Q->wpAny (model X.prog X.w) X.A (eval e X.env) (EP X aa σ Q) X.xe s
def PT(X:Cx)(e:Expr)(t:TT):Prop:=
 ∀(aa:List (Addr×Obj)) (s:Shared) (σ:St) (H:Hp) (Q:Bool->Hp->Prop),Inv X aa σ H s->t σ H Q->wpAny (model X.prog X.w) X.A (isTrue e X.env (eval e X.env)) (TP X aa σ Q) X.xe s
def PW(X:Cx)(e:Expr)(t:TT):Prop:=
 ∀(whole:Sem Value) (aa:List (Addr×Obj)) (s:Shared) (σ:St) (H:Hp) (Q:Bool->Hp->Prop),Inv X aa σ H s->t σ H Q->wpAny (model X.prog X.w) X.A (isTrue e X.env whole) (TP X aa σ Q) X.xe s
def PW.pt{X:Cx}{e:Expr}{t:TT}(h:PW X e t):PT X e t:=h _
def PA(X:Cx)(es:List Expr)(t:TA):Prop:=
 ∀(pos:Pos) (aa:List (Addr×Obj)) (s:Shared) (σ:St) (H:Hp) (Q:List V->Hp->Prop),Inv X aa σ H s->t σ H Q->wpAny (model X.prog X.w) X.A (spliced (backTo pos (starEach es X.env))) (AP X aa σ Q) X.xe s
def PS(X:Cx)(st:Stmt)(t:TS):Prop:=
 ∀(aa:List (Addr×Obj)) (s:Shared) (σ:St) (H:Hp) (D:Ends),Inv X aa σ H s->t D σ H->wpAny (model X.prog X.w) X.A (exec st X.env) (SP X aa D) X.xe s
def vi(X:Cx)(st:List Stmt)(t:TS):Prop:=
 ∀(aa:List (Addr×Obj)) (s:Shared) (σ:St) (H:Hp) (D:Ends),Inv X aa σ H s->t D σ H->wpAny (model X.prog X.w) X.A (execs st X.env) (SP X aa D) X.xe s
def bA{α:Type}{t:Sem α}{Q Q':α->Shared->Prop}{M:Model}{A:Around}{E:Value->Shared->Prop}{s:Shared}(h:wpAny M A t Q E s)(hQ:∀a s,Q a s->Q' a s):wpAny M A t Q' E s:=wpAny_mono h hQ λ_ _ x=>x
section
variable{X:Cx}
def bin{a b:Expr}{ta tb:TE}(ha:PE X a ta)(hb:PE X b tb){aa:List (Addr×Obj)}{s:Shared}{σ:St}{H:Hp}{R:V->V->Hp->Prop}(I:Inv X aa σ H s)(h:ta σ H λx H1=>tb σ H1 λy H2=>R x y H2)
 {α:Type} {Q:α->Shared->Prop} {f:Value->Value->Sem α}
 (hf:∀v u s2 x y H2,Inv X aa σ H2 s2->RelV x v->RelV y u->R x y H2->wpAny (model X.prog X.w) X.A (f v u) Q X.xe s2):
 wpAny (model X.prog X.w) X.A (eval a X.env) (λv s₁=>wpAny (model X.prog X.w) X.A (eval b X.env) (λu s₂=>wpAny (model X.prog X.w) X.A (f v u) Q X.xe s₂) X.xe s₁) X.xe s:=by
 refine bA (ha aa s σ H _ I h) λv s1 ⟨x,H1,I1,r1,q1⟩=>?_
 refine bA (hb aa s1 σ H1 _ I1 q1) λu s2 ⟨y,H2,I2,r2,q2⟩=>?_
 exact hf v u s2 x y H2 I2 r1 r2 q2
noncomputable def Ez(i:Nat):TE:=λσ H Q=>∃v,σ[i]?=some (some v)/\Q v H
noncomputable def tC(v:V):TE:=λ_ H Q=>Q v H
def lD{i:Nat}{x:Str}{pos:Pos}(hN:X.N[i]?=some x)(hv:ND X.env.scope x)(hd:(x==("__debug__":Str))=false:=by decide)(AH:(x==("__classdict__":Str))=false:=by decide):PE X (.Name x pos) (Ez i):=by
 intro aa s σ H Q I h;obtain⟨v,e,h⟩:=h
 obtain⟨m,hn,hl⟩:=I.loc
 obtain⟨u,r,l⟩:=hl i x v hN e hv
 have fin:EP X aa σ Q u s:=⟨v,H,I,r,h⟩
 rcases l with⟨hk,hm⟩|⟨hk,c,hc,rE⟩
 ·exact wpAny_Name (wpAny_loadName_local I.ok.kind hk hn hm fin) hd
 ·rcases hk with hk|hk
  ·exact wpAny_Name (wpAny_loadName_cell I.ok.kind hk hc rE fin) hd
  ·exact wpAny_Name (wpAny_loadName_free I.ok.kind hk hc rE fin AH) hd
def zb{i j pos}:PE X (.Constant (.int i) j pos) (tC (.int i)):=λ_ _ _ H _ I h=>wpAny_Constant_int ⟨.int i,H,I.tok _,⟨_,rfl⟩,h⟩
def Ll{b j pos}:PE X (.Constant (.bool b) j pos) (tC (.bl b)):=λ_ _ _ H _ I h=>Constant_bool ⟨.bl b,H,I,rfl,h⟩
def yO{j pos}:PE X (.Constant .none j pos) (tC .ay):=λ_ _ _ H _ I h=>Constant_none ⟨.ay,H,I,rfl,h⟩
def Aq{x j pos}:PE X (.Constant (.str x) j pos) (tC (.str x)):=λ_ _ _ H _ I h=>Calls.Constant_str ⟨.str x,H,I.tok _,⟨_,rfl⟩,h⟩
def Gl(X:Cx)(x:Str):Prop:=X.env.kindOf x=some .globalImplicit
def jb{E:Value->Shared->Prop}{aa:List (Addr×Obj)}{s:Shared}{σ:St}{H:Hp}{x:Str}{u:Value}{pos:Pos}{Q:Value->Shared->Prop}(I:Inv X aa σ H s)(hg:Gl X x)(hm:X.mg x=some u)(h:Q u s)
 (hd:(x==("__debug__":Str))=false:=by decide):wpAny (model X.prog X.w) X.A (eval (.Name x pos) X.env) Q E s:=
 Calls.Name_function_global I.ok.kind hg (Calls.loadGlobal_global (by rw [I.ok.glob];exact I.mod.glob.keeps I.bk) hm h) hd
def cZ{E:Value->Shared->Prop}{aa:List (Addr×Obj)}{s:Shared}{σ:St}{H:Hp}{x:Str}{u:Value}{pos:Pos}{Q:Value->Shared->Prop}(I:Inv X aa σ H s)(hg:Gl X x)(hm:X.mg x=none)(hv:bootBuiltins x=some u)(h:Q u s)
 (hn:x≠"__name__":=by decide) (hd:(x==("__debug__":Str))=false:=by decide):wpAny (model X.prog X.w) X.A (eval (.Name x pos) X.env) Q E s:=by
 obtain⟨mb,h1,h2⟩:=I.mod.blt
 exact Calls.Name_function_global I.ok.kind hg (Calls.loadGlobal_builtin (by rw [I.ok.glob];exact I.mod.glob.keeps I.bk) hm (by rw [I.ok.blt];exact h1.keeps I.bk) ((h2 x hn).trans hv) h) hd
def DV{x:Str}{v:V}{u:Value}{pos:Pos}(hg:Gl X x)(hm:X.mg x=some u)(r:RelV v u)(hd:(x==("__debug__":Str))=false:=by decide):PE X (.Name x pos) (tC v):=
 λ_ _ _ H _ I h=>jb I hg hm ⟨v,H,I,r,h⟩ hd
def CB{x:Str}{v:V}{u:Value}{pos:Pos}(hg:Gl X x)(hm:X.mg x=none)(hv:bootBuiltins x=some u)(r:RelV v u)(hn:x≠"__name__":=by decide)(hd:(x==("__debug__":Str))=false:=by decide):PE X (.Name x pos) (tC v):=
 λ_ _ _ H _ I h=>cZ I hg hm hv ⟨v,H,I,r,h⟩ hn hd
variable{a b:Expr}{ta tb:TE}{pos:Pos}
noncomputable def tB(t:TE):TT:=λσ H Q=>t σ H λx H1=>∃c,x=.bl c/\Q c H1
def Ht{e:Expr}{t:TE}(h:PE X e t)(he:∀whole,isTrue e X.env whole=(do let v<-whole;standAt e.pos;holding [v] (truthy v)):=by intro _;rfl):PT X e (tB t):=by
 intro aa s σ H Q I hw;refine isTrue_plain (bA (h aa s σ H _ I hw) λv s1 ⟨x,H1,I1,r1,q1⟩=>?_) (he _)
 obtain⟨d,rfl,q⟩:=q1
 cases r1;exact wpAny_truthy_bool ⟨H1,I1,q⟩
variable{tA Oi:TT}{rest:List Expr}
noncomputable def Pl(t u:TT):TT:=λσ H Q=>t σ H λc H1=>if c=true then u σ H1 Q else Q false H1
noncomputable def UA(t u:TT):TT:=λσ H Q=>t σ H λc H1=>if c=true then Q true H1 else u σ H1 Q
noncomputable def O2(t:TT):TT:=λσ H Q=>t σ H λc H1=>Q (!c) H1
def pw_and1(ha:PT X a tA):PW X (.BoolOp .And [a] pos) tA:=by
 intro wh aa s σ H Q I h;refine isTrue_and (bA (ha aa s σ H Q I h) λc s1 e=>?_)
 cases c with
 |true=>exact isTrue_and_nil e
 |false=>exact e
def pw_or1(ha:PT X a tA):PW X (.BoolOp .Or [a] pos) tA:=by
 intro wh aa s σ H Q I h;refine isTrue_or (bA (ha aa s σ H Q I h) λc s1 e=>?_)
 cases c with
 |false=>exact isTrue_or_nil e
 |true=>exact e
def pw_and(ha:PT X a tA)(hb:PW X (.BoolOp .And (b::rest) pos) Oi):PW X (.BoolOp .And (a::b::rest) pos) (Pl tA Oi):=by
 intro wh aa s σ H Q I h;refine isTrue_and (bA (ha aa s σ H _ I h) λc s1 ⟨H1,I1,q1⟩=>?_)
 cases c with
 |true=>exact hb wh aa s1 σ H1 Q I1 q1
 |false=>exact⟨H1,I1,q1⟩
def pw_or(ha:PT X a tA)(hb:PW X (.BoolOp .Or (b::rest) pos) Oi):PW X (.BoolOp .Or (a::b::rest) pos) (UA tA Oi):=by
 intro wh aa s σ H Q I h;refine isTrue_or (bA (ha aa s σ H _ I h) λc s1 ⟨H1,I1,q1⟩=>?_)
 cases c with
 |true=>exact⟨H1,I1,q1⟩
 |false=>exact hb wh aa s1 σ H1 Q I1 q1
def JJ(ha:PT X a tA):PT X (.UnaryOp .Not a pos) (O2 tA):=by
 intro aa s σ H Q I h;exact isTrue_not (ha aa s σ H (λc H1=>Q (!c) H1) I h)
noncomputable def Lh(ta tb:TE):TE:=λσ H Q=>ta σ H λx H1=>∃c,x=.bl c/\if c=true then tb σ H1 Q else Q (.bl false) H1
noncomputable def QP(ta tb:TE):TE:=λσ H Q=>ta σ H λx H1=>∃c,x=.bl c/\if c=true then Q (.bl true) H1 else tb σ H1 Q
noncomputable def Nh(ta:TE):TE:=λσ H Q=>ta σ H λx H1=>∃c,x=.bl c/\Q (.bl (!c)) H1
def AX{op}{t:TE}(h:PE X a t):PE X (.BoolOp op [a] pos) t:=λaa s σ H Q I hw=>BoolOp_one (h aa s σ H Q I hw)
def G6(ha:PE X a ta)(hb:PE X (.BoolOp .And (b::rest) pos) tb):PE X (.BoolOp .And (a::b::rest) pos) (Lh ta tb):=by
 intro aa s σ H Q I h;refine BoolOp_and (bA (ha aa s σ H _ I h) λv s1 ⟨x,H1,I1,r1,q1⟩=>?_)
 obtain⟨c,rfl,q1⟩:=q1
 cases r1;refine wpAny_truthy_bool ?_;cases c with
 |true=>exact hb aa s1 σ H1 Q I1 q1
 |false=>exact⟨.bl false,H1,I1,rfl,q1⟩
def Lj(ha:PE X a ta)(hb:PE X (.BoolOp .Or (b::rest) pos) tb):PE X (.BoolOp .Or (a::b::rest) pos) (QP ta tb):=by
 intro aa s σ H Q I h;refine BoolOp_or (bA (ha aa s σ H _ I h) λv s1 ⟨x,H1,I1,r1,q1⟩=>?_)
 obtain⟨c,rfl,q1⟩:=q1
 cases r1;refine wpAny_truthy_bool ?_;cases c with
 |false=>exact hb aa s1 σ H1 Q I1 q1
 |true=>exact⟨.bl true,H1,I1,rfl,q1⟩
def JT(ha:PE X a ta):PE X (.UnaryOp .Not a pos) (Nh ta):=by
 intro aa s σ H Q I h;refine UnaryOp_ (bA (ha aa s σ H _ I h) λv s1 ⟨x,H1,I1,r1,q1⟩=>?_)
 obtain⟨c,rfl,q1⟩:=q1
 cases r1;exact not_of (wpAny_truthy_bool ⟨.bl (!c),H1,I1,rfl,q1⟩)
noncomputable def UT(t:TT)(ta tb:TE):TE:=λσ H Q=>t σ H λc H1=>if c=true then ta σ H1 Q else tb σ H1 Q
def y6{c:Expr}(hc:PT X c tA)(ha:PE X a ta)(hb:PE X b tb):PE X (.IfExp c a b pos) (UT tA ta tb):=by
 intro aa s σ H Q I h;refine wpAny_IfExp (bA (hc aa s σ H _ I h) λd s1 ⟨H1,I1,q1⟩=>?_)
 cases d with
 |true=>exact ha aa s1 σ H1 Q I1 q1
 |false=>exact hb aa s1 σ H1 Q I1 q1
end
def di(K:zz8)(H:Hp)(a:Addr)(xs:List V):Prop:=
 Rd H a (.lst xs)\/
  ∃(o:Obj) (aj:Array Value) (n:Nat),K.lookup a=some o/\o.cls=.type "list"/\o.dict=none/\o.data=.seq aj n/\aj.size<=sizeLine/\Vals xs aj.toList
def eB(K:zz8)(H:Hp)(a:Addr)(xs:List V):Prop:=
 Rd H a (.tup xs)\/
  ∃(o:Obj) (aj:Array Value) (n:Nat),K.lookup a=some o/\o.cls=.type "tuple"/\o.data=.seq aj n/\aj.size<=sizeLine/\Vals xs aj.toList
noncomputable def PH:Value->Option V
 |.none=>some .ay
 |.bool b=>some (.bl b)
 |.int i _=>some (.int i)
 |.str x _=>some (.str x)
 |.bytes b _=>some (.OM b)
 |.float b _=>some (.Pn b)
 |.ref a=>some (.ref a)
 |.type n=>some (.ty n)
 |_=>none
def RelV.abs{x:V}{u:Value}(r:RelV x u):PH u=some x:=by
 cases x with
 |ay=>cases r;rfl
 |bl _=>cases r;rfl
 |int _=>obtain⟨t,rfl⟩:=r;rfl
 |str _=>obtain⟨t,rfl⟩:=r;rfl
 |OM _=>obtain⟨t,rfl⟩:=r;rfl
 |Pn _=>obtain⟨t,rfl⟩:=r;rfl
 |ref _=>cases r;rfl
 |ty _=>cases r;rfl
def RelV.inj{x y:V}{u:Value}(r:RelV x u)(q:RelV y u):x=y:=zzq (r.abs.symm.trans q.abs)
theorem Vals.inj:∀{xs ys:List V} {us:List Value},Vals xs us->Vals ys us->xs=ys
 |_,_,_,.nil,.nil=>rfl
 |_,_,_,.cons r t,.cons r' t'=>by rw [r.inj r',Vals.inj t t']
section
variable{X:Cx}{aa:List (Addr×Obj)}{σ:St}{H:Hp}{s:Shared}{a:Addr}{xs ys:List V}
def di.of{K:zz8}(h:H a=some (.lst xs)):di K H a xs:=.inl (.inl h)
def Inv.list(I:Inv X aa σ H s)(h:di X.K H a xs):∃aj:List Value,Vals xs aj/\PlainL s.heap a aj.toArray/\xs.length<=sizeLine:=by
 rcases h with h|⟨o,aj,n,hk,hc,hd,hs,hz,r⟩
 ·obtain⟨z,aj,n,r,e⟩:=h.ok I.bj
  exact⟨aj,r,⟨_,n,e,rfl,rfl,rfl⟩,z⟩
 ·refine⟨aj.toList,r,⟨o,n,I.vc a o hk,hc,hd,by simpa using hs⟩,?_⟩;have e:=r.length
  simp! [zzd] at e;omega
def Inv.tuple(I:Inv X aa σ H s)(h:eB X.K H a xs):∃aj:List Value,Vals xs aj/\IsTup s.heap a aj.toArray/\xs.length<=sizeLine:=by
 rcases h with h|⟨o,aj,n,hk,hc,hs,hz,r⟩
 ·obtain⟨z,aj,r,p⟩:=h.ok I.bj
  exact⟨aj,r,p,z⟩
 ·refine⟨aj.toList,r,⟨o,I.vc a o hk,hc,n,by simpa using hs⟩,?_⟩;have e:=r.length
  simp! [zzd] at e;omega
def Inv.qB(I:Inv X aa σ H s)(h:di X.K H a xs)(h':di X.K H a ys):xs=ys:=by
 obtain⟨aj,r,⟨o,n,e,_,_,d⟩,_⟩:=I.list h
 obtain⟨its',r',⟨o',n',e',_,_,d'⟩,_⟩:=I.list h'
 rw [e] at e';cases e';rw [d] at d'
 injection d' with d1 _
 have:aj=its':=by simpa using congrArg Array.toList d1
 subst this;exact r.inj r'
def Inv.nK(I:Inv X aa σ H s)(h:eB X.K H a xs)(h':eB X.K H a ys):xs=ys:=by
 obtain⟨aj,r,⟨o,e,_,n,d⟩,_⟩:=I.tuple h
 obtain⟨its',r',⟨o',e',_,n',d'⟩,_⟩:=I.tuple h'
 rw [e] at e';cases e';rw [d] at d'
 injection d' with d1 _
 have:aj=its':=by simpa using congrArg Array.toList d1
 subst this;exact r.inj r'
variable{st:Stmt}{rest:List Stmt}{t u:TS}{e:Expr}{te:TE}{pos:Pos}
def Ni:TS:=λD σ H=>D.nx σ H
noncomputable def QI(t u:TS):TS:=λD σ H=>t {D with nx:=u D} σ H
def EL:vi X [] Ni:=λ_ _ σ H _ I h=>wpAny_execs_nil ⟨σ,H,I,h⟩
def BG(h1:PS X st t)(h2:vi X rest u):vi X (st::rest) (QI t u):=by
 intro aa s σ H D I h;refine wpAny_execs_cons (bA (h1 aa s σ H {D with nx:=u D} I h) λf s1 q=>?_)
 cases f with
 |next=>
  obtain⟨σ',H',I',q⟩:=q
  exact h2 aa s1 σ' H' D I' q
 |ret v=>exact q
 |brk=>exact q
 |cont=>exact q
def HS:TS:=λD σ H=>D.bk σ H
def Bh:PS X (.Break pos) HS:=λ_ _ σ H _ I h=>wpAny_Break ⟨σ,H,I,h⟩
def Inv.quiet{aa:List (Addr×Obj)}{σ:St}{H:Hp}{s:Shared}(I:Inv X aa σ H s):interactive X.env=false:=by simp [interactive,I.ok.kind]
noncomputable def M6(te:TE):TS:=λD σ H=>te σ H λ_ H1=>D.nx σ H1
theorem jg(he:PE X e te)(hs:swapsWith e none pos.line X.env=pure false:=by rfl):PS X (.Expr e pos) (M6 te):=by
 intro aa s σ H D I h;exact wpAny_Expr_any (bA (he aa s σ H _ I h) λv s1 ⟨x,H1,I1,r1,q1⟩=>⟨σ,H1,I1,q1⟩) I.quiet hs
noncomputable def PZ(te:TE):TS:=λD σ H=>te σ H D.rt
def JF(he:PE X e te):PS X (.Return (some e) pos) (PZ te):=by
 intro aa s σ H D I h;exact wpAny_Return_some (bA (he aa s σ H _ I h) λv s1 ⟨x,H1,I1,r1,q1⟩=>⟨x,σ,H1,I1,r1,q1⟩)
noncomputable def Pj(c:TT)(t u:TS):TS:=λD σ H=>c σ H λb H1=>if b=true then t D σ H1 else u D σ H1
def LH{c:Expr}{a b:List Stmt}{tc:TT}(hc:PT X c tc)(ha:vi X a t)(hb:vi X b u):PS X (.If c a b pos) (Pj tc t u):=by
 intro aa s σ H D I h;refine wpAny_If (bA (hc aa s σ H _ I h) λd s1 ⟨H1,I1,q1⟩=>?_)
 cases d with
 |true=>exact ha aa s1 σ H1 D I1 q1
 |false=>exact hb aa s1 σ H1 D I1 q1
end
noncomputable abbrev TG:=V->St->Hp->(St->Hp->Prop)->Prop
noncomputable abbrev BM:=List V->St->Hp->(St->Hp->Prop)->Prop
def PG(X:Cx)(target:Expr)(t:TG):Prop:=
 ∀(aa:List (Addr×Obj)) (s:Shared) (σ:St) (H:Hp) (v:V) (u:Value) (Q:St->Hp->Prop),Inv X aa σ H s->RelV v u->t v σ H Q->
  wpAny (model X.prog X.w) X.A (assign target X.env u) (λ_ s'=>∃σ' H',Inv X aa σ' H' s'/\Q σ' H') X.xe s
def Kp(X:Cx)(ts:List Expr)(t:BM):Prop:=
 ∀(aa:List (Addr×Obj)) (s:Shared) (σ:St) (H:Hp) (vs:List V) (us:List Value) (Q:St->Hp->Prop),Inv X aa σ H s->Vals vs us->t vs σ H Q->
  wpAny (model X.prog X.w) X.A (assignInOrder ((assignEach ts X.env).map (·.2)) us) (λ_ s'=>∃σ' H',Inv X aa σ' H' s'/\Q σ' H') X.xe s
noncomputable abbrev Iq:=V->V->V->Hp->(Hp->Prop)->Prop
def Lm(X:Cx)(t:Iq):Prop:=
 ∀(aa:List (Addr×Obj)) (s:Shared) (σ:St) (H:Hp) (o i v:V) (ov iv u:Value) (Q:Hp->Prop),Inv X aa σ H s->RelV o ov->RelV i iv->RelV v u->t o i v H Q->
  wpAny (model X.prog X.w) X.A (setItem ov iv u) (λ_ s'=>∃H',Inv X aa σ H' s'/\Q H') X.xe s
section
variable{X:Cx}{pos:Pos}
noncomputable def fD(i:Nat):TG:=λv σ H Q=>Q (σ.set i (some v)) H
def Dm{i:Nat}{x:Str}(hN:X.N.Nodup)(hi:X.N[i]?=some x)(hx:Loc X.env.scope x)(hf:X.fn x=true\/X.env.scope.names.lookup x=some .local:=by first|exact .inl rfl|exact .inr rfl|assumption):PG X (.Name x pos) (fD i):=by
 intro aa s σ H v u Q I r h;exact wpAny_assign_Name (rH I hN hi hx r (λs' I'=>⟨_,H,I',h⟩) hf)
noncomputable def HG:BM:=λvs σ H Q=>vs=[]/\Q σ H
noncomputable def vP(t:TG)(u:BM):BM:=λvs σ H Q=>∃v r,vs=v::r/\t v σ H λσ' H'=>u r σ' H' Q
def DC:Kp X [] HG:=by
 intro aa s σ H vs us Q I r h;obtain⟨e,h⟩:=h
 subst e;cases r;exact assignInOrder_nil ⟨σ,H,I,h⟩
theorem A1{e:Expr}{es:List Expr}{t:TG}{u:BM}(h1:PG X e t)(h2:Kp X es u)
 (hs:(assignEach (e::es) X.env).map (·.2)=assign e X.env::(assignEach es X.env).map (·.2):=by rfl):Kp X (e::es) (vP t u):=by
 intro aa s σ H vs us Q I r h;obtain⟨v,vr,e1,h⟩:=h
 subst e1;cases r with
 |cons r rr=>
  rw [hs];refine assignInOrder_cons (bA (h1 aa s σ H _ _ _ I r h) λ_ s1 ⟨σ1,H1,I1,q1⟩=>?_)
  exact h2 aa s1 σ1 H1 _ _ Q I1 rr q1
noncomputable def KQ(K:zz8)(n:Nat)(t:BM):TG:=λv σ H Q=>∃a xs,v=.ref a/\eB K H a xs/\xs.length=n/\t xs σ H Q
theorem IH{es:List Expr}{k:Nat}{t:BM}{n:Nat}(hc:X.calm=true)(h:Kp X es t)
 (hn:(assignEach es X.env).length=n:=by rfl) (cx:(assignEach es X.env).findIdx? (·.1)=none:=by rfl):PG X (.Tuple es k pos) (KQ X.K n t):=by
 intro aa s σ H v u Q I r hw;obtain⟨a,xs,e1,hq,hl,hw⟩:=hw
 subst e1;cases r;obtain⟨aj,rv,ht,hz⟩:=I.tuple hq
 refine assign_Tuple_tuple (I.ok.hd hc) ht (by simp [hn,<-hl,rv.length]) cx λh' hx=>?_
 have I1:Inv X aa σ H {s with heap:=h'}:=I.kept (t':=s.toks) λb o e=>hx b o (zzb (zzO e)) e
 exact h aa _ σ H xs _ Q I1 (by simpa using rv) hw
noncomputable def Px(to ti:TE)(t:Iq):TG:=λv σ H Q=>to σ H λo H1=>ti σ H1 λi H2=>t o i v H2 λH3=>Q σ H3
def Gz{o i:Expr}{to ti:TE}{t:Iq}(ho:PE X o to)(hi:PE X i ti)(hs:Lm X t)
 (ha:∀v,assign (.Subscript o i pos) X.env v=(do
  let ov<-holding [v] (eval o X.env)
  let iv<-holding [v,ov] (eval i X.env)
  standAt pos
  holding [v,ov,iv] (setItem ov iv v)
  release [v,ov,iv] []):=by intro _;rfl):PG X (.Subscript o i pos) (Px to ti t):=by
 intro aa s σ H v u Q I r h;rw [ha];refine zzA (wpAny_holding (bA (ho aa s σ H _ I h) λov s1 ⟨x,H1,I1,r1,q1⟩=>?_))
 refine zzA (wpAny_holding (bA (hi aa s1 σ H1 _ I1 q1) λiv s2 ⟨y,H2,I2,r2,q2⟩=>?_))
 refine zzA (wpAny_standAt (zzA (wpAny_holding (bA (hs aa s2 σ H2 x y v ov iv u _ I2 r1 r2 r q2) λ_ s3 ⟨H3,I3,q3⟩=>?_))))
 exact wpAny_release ⟨σ,H3,I3,q3⟩
noncomputable def DF(te:TE)(g:TG):TS:=λD σ H=>te σ H λx H1=>g x σ H1 D.nx
theorem zC{tg e:Expr}{te:TE}{g:TG}(he:PE X e te)(hg:PG X tg g)(hs:swapsWithSole [tg] e pos.line X.env=pure false:=by rfl)(hw:swappedStores [tg] e X.env=pure none:=by rfl)
 (h1:(assignEach [tg] X.env).map (·.2)=[assign tg X.env]:=by rfl):PS X (.Assign [tg] e pos) (DF te g):=by
 intro aa s σ H D I h;refine wpAny_Assign_stores (bA (he aa s σ H _ I h) λv s1 ⟨x,H1,I1,r1,q1⟩=>?_) hs hw
 rw [h1];exact bA (hg aa s1 σ H1 x v _ I1 r1 q1) λ_ s2 q=>q
theorem pV{i:Nat}{x:Str}{e:Expr}{te:TE}{pos':Pos}(hN:X.N.Nodup)(hi:X.N[i]?=some x)(hx:Loc X.env.scope x)(he:PE X e te)(hs:swapsWith e (some (.Name x pos')) pos.line X.env=pure false:=by rfl)(hf:X.fn x=true\/X.env.scope.names.lookup x=some .local:=by first|exact .inl rfl|exact .inr rfl|assumption):
 PS X (.Assign [.Name x pos'] e pos) (DF te (fD i)):=by
 intro aa s σ H D I h;refine wpAny_Assign_Name (bA (he aa s σ H _ I h) λv s1 ⟨y,H1,I1,r1,q1⟩=>?_) hs
 exact rH I1 hN hi hx r1 (λs2 I2=>⟨_,H1,I2,q1⟩) hf
noncomputable def F1(c:TT)(tb:TS):TS:=λD σ H=>∃W:Nat->St->Hp->Prop,(∃m,W m σ H)/\∀m σ H,W m σ H->
 c σ H λb H1=>if b=true then∃N:St->Hp->Prop,(∀σ' H',N σ' H'->∃m',m'<m/\W m' σ' H')/\tb {D with nx:=N,ct:=N,bk:=D.nx} σ H1 else D.nx σ H1
def AL{c:Expr}{body:List Stmt}{tc:TT}{tb:TS}(hp:PassesOwn (model X.prog X.w) X.A X.env X.xe)(hc:PT X c tc)(hb:vi X body tb):PS X (.While c body [] pos) (F1 tc tb):=by
 intro aa s σ H D I h;obtain⟨W,⟨m0,w0⟩,turn⟩:=h
 refine wpAny_While (codeAny_whileLoop (λn s'=>∃σ' H',Inv X aa σ' H' s'/\W n σ' H') ?_ m0 ⟨σ,H,I,w0⟩)
 rintro n s1 ⟨σ1,H1,I1,w1⟩
 refine wpAny_passesOwn hp (bA (hc aa s1 σ1 H1 _ I1 (turn n σ1 H1 w1)) λb s2 ⟨H2,I2,q2⟩=>?_)
 cases b with
 |true=>
  obtain⟨N,hN,q2⟩:=q2
  rw [if_pos rfl];refine wpAny_passesOwn hp (bA (hb aa s2 σ1 H2 _ I2 q2) λf s3 q3=>?_)
  cases f with
  |next=>
   obtain⟨σ3,H3,I3,n3⟩:=q3
   obtain⟨m',hm,w3⟩:=hN σ3 H3 n3
   exact⟨m',hm,σ3,H3,I3,w3⟩
  |cont=>
   obtain⟨σ3,H3,I3,n3⟩:=q3
   obtain⟨m',hm,w3⟩:=hN σ3 H3 n3
   exact⟨m',hm,σ3,H3,I3,w3⟩
  |brk=>exact q3
  |ret v=>exact q3
 |false=>
  rw [if_neg zzf];exact wpAny_execs_nil ⟨σ1,H2,I2,q2⟩
end
structure It where
 go:Nat->Hp->Prop
 Kn:Nat->Hp->V->Hp->Prop
 stop:Nat->Hp->Prop
def fO(X:Cx)(aa:List (Addr×Obj))(H:Hp)(b:Addr):Prop:=
 H b=none/\b≠X.env.locals/\b∉X.fs/\(b∈X.ex\/X.s₀.heap.objs.size<=b)/\(∀x c,X.env.cells.lookup x=some c->c≠b)/\∀p∈X.pn++aa,p.1≠b
def Inv.kO{X:Cx}{aa:List (Addr×Obj)}{σ:St}{H H':Hp}{s:Shared}{b:Addr}(I:Inv X aa σ H s)(hb:(zz9 s)<=b)(hn:H' b=none):fO X aa H' b:=by
 refine⟨hn,Nat.ne_of_gt (zzW I.lt hb),I.Qb hb,.inr (zzU I.sz hb),λx c e z=>?_,λp hp z=>?_⟩
 ·obtain⟨v,q⟩:=I.cell x c e
  exact absurd (zzW q.lt (by rw [z];exact hb)) (Nat.lt_irrefl _)
 ·exact absurd (zzW (zzO (I.pin p hp).1) (by rw [z];exact hb)) (Nat.lt_irrefl _)
structure Turn(P:Program)(w:World)(K:zz8)(tg:Expr)(J:It)(fp:List Addr)(it:Addr)(tn:Nat->Heap->Prop):Prop where
 mem:it∈fp
 obj:∀i h,tn i h->∀b∈fp,∃o,h.get? b=some o/\∀v,o.data≠.cell v
 keep:∀i h h',tn i h->(∀b∈fp,∀o,h.get? b=some o->h'.get? b=some o)->tn i h'
 item:∀(X:Cx),X.prog=P->X.w=w->X.K=K->X.calm=true->∀(i:Nat) (aa:List (Addr×Obj)) (s:Shared) (σ:St) (H:Hp) (E:Value->Shared->Prop),Inv X aa σ H s->(∀b∈fp,fO X aa H b)->tn i s.heap->J.go i H->
  wpAny (model P w) X.A (pyNext (.ref it)) (λr s1=>∃u,r=some u/\
   wpAny (model P w) X.A (letOwnedTupleGo tg (.ref it) u) (λ_ s2=>∃x H',Inv X aa σ H' s2/\RelV x u/\J.Kn i H x H'/\tn (i+1) s2.heap/\∀b∈fp,H' b=none) E s1) E s
 done:∀(X:Cx),X.prog=P->X.w=w->X.K=K->X.calm=true->∀(i:Nat) (aa:List (Addr×Obj)) (s:Shared) (σ:St) (H:Hp) (E:Value->Shared->Prop),Inv X aa σ H s->(∀b∈fp,fO X aa H b)->tn i s.heap->J.stop i H->
  wpAny (model P w) X.A (pyNext (.ref it)) (λr s1=>r=none/\Inv X aa σ H s1) E s
 self:∀(A:Around) (i:Nat) (s:Shared) (Q:Value->Shared->Prop) (E:Value->Shared->Prop),tn i s.heap->Q (.ref it) s->wpAny (model P w) A (pyIter (.ref it)) Q E s
noncomputable abbrev TI:=St->Hp->(It->Hp->Prop)->Prop
def Sj(X:Cx)(aa:List (Addr×Obj))(σ:St)(tg:Expr)(R:It->Hp->Prop)(NV:Value)(s2:Shared):Prop:=
 ∃(it:Addr) (fp:List Addr) (tn:Nat->Heap->Prop) (J:It) (H':Hp),NV=.ref it/\Inv X aa σ H' s2/\Turn X.prog X.w X.K tg J fp it tn/\tn 0 s2.heap/\(∀b∈fp,fO X aa H' b)/\R J H'
def PI(X:Cx)(tg iter:Expr)(wi:TI):Prop:=
 ∀(aa:List (Addr×Obj)) (s:Shared) (σ:St) (H:Hp) (R:It->Hp->Prop),Inv X aa σ H s->wi σ H R->
  wpAny (model X.prog X.w) X.A (eval iter X.env) (λv s1=>wpAny (model X.prog X.w) X.A (pyIter v) (Sj X aa σ tg R) X.xe s1) X.xe s
def qO{M:Model}{A:Around}{E:Value->Shared->Prop}{s:Shared}{tg:Expr}{it:Addr}{u:Value}{o:Obj}{n:String}{vs:Array Value}{Q:Unit->Shared->Prop}(ho:s.heap.get? it=some o)(hc:o.cls=.type n)(hd:o.data=.fields vs)
 (hn:["enumerate","zip","dict_itemiterator","dict_reverseitemiterator","odict_iterator","itertools.zip_longest","itertools.pairwise"].contains n=false) (hQ:Q () s):wpAny M A (letOwnedTupleGo tg (.ref it) u) Q E s:=by
 unfold letOwnedTupleGo;cases tg<;>first
  |exact zzG hQ
  |(cases u<;>first
   |exact zzG hQ
   | (refine zzA (wpAny_load ho ?_)
      rw [hc,hd];show wpAny M A (if(["enumerate","zip","dict_itemiterator","dict_reverseitemiterator","odict_iterator","itertools.zip_longest","itertools.pairwise"].contains n&&vs[0]?==some (rawInt _))=true then _ else _) Q E s;rw [if_neg (by intro h;rw [hn,Bool.false_and] at h;cases h)];exact zzG hQ))
noncomputable def OT(K:zz8)(a:Addr):It:=
 ⟨λi H=>∃xs x,di K H a xs/\xs[i]?=some x,λi H x H'=>H'=H/\∀xs,di K H a xs->xs[i]?=some x,λi H=>∃xs,di K H a xs/\xs.length<=i⟩
noncomputable def Qd(K:zz8)(a:Addr):It:=
 ⟨λi H=>∃xs x,eB K H a xs/\xs[i]?=some x,λi H x H'=>H'=H/\∀xs,eB K H a xs->xs[i]?=some x,λi H=>∃xs,eB K H a xs/\xs.length<=i⟩
noncomputable def Lg(lo:Int)(n:Nat):It:=⟨λi _=>i<n,λi H x H'=>H'=H/\x=.int (lo+i),λi _=>n<=i⟩
def xE{P:Program}{w:World}{K:zz8}{tg:Expr}(a it:Addr):Turn P w K tg (OT K a) [it] it (λi h=>h.IsListIter it a i) where
 mem:=by simp
 obj:=λi h st b hb=>by
  have e:b=it:=by simpa using hb
  subst e;obtain⟨o,e,c,d⟩:=st
  exact⟨o,e,λv z=>by rw [d] at z;cases z⟩
 keep:=λi h h' st k=>st.at λo e=>k it (by simp) o e
 item:=by
  intro X hP hw hK hc i aa s σ H E I hf st hg;subst hP hw hK;obtain⟨xs,x,hq,hx⟩:=hg
  obtain⟨aj,rv,p,hz⟩:=I.list hq
  obtain⟨u,hu,ru⟩:=rv.get hx
  obtain⟨f0,f1,f2,f3,f4,f5⟩:=hf it (by simp)
  refine wpAny_pyNext_list_item st p.isList (x:=u) (by simpa using hu) λh' eY sb=>?_
  have I1:Inv X aa σ H {s with heap:=h'}:=I.turned (t':=s.toks) (λb o hb e=>(sb.2 b hb).trans e) f0 f1 f3 f4 f5
  obtain⟨o,e,c,d⟩:=id eY
  exact⟨u,rfl,qO (s:={s with heap:=h'}) e c d (by decide) ⟨x,H,I1,ru,⟨rfl,λys hy=>by rw [I.qB hy hq];exact hx⟩,eY,λb hb=>(hf b hb).1⟩⟩
 done:=by
  intro X hP hw hK hc i aa s σ H E I hf st hg;subst hP hw hK;obtain⟨xs,hq,hx⟩:=hg
  obtain⟨aj,rv,p,hz⟩:=I.list hq
  obtain⟨f0,f1,f2,f3,f4,f5⟩:=hf it (by simp)
  have hl:=rv.length
  exact wpAny_pyNext_list_end (I.ok.hd hc) st p.isList (by simp;omega) λh' eb=>⟨rfl,I.turned (t':=s.toks) (λb o hb e=>eb b o hb e) f0 f1 f3 f4 f5⟩
 self:=λ_ _ _ _ _ st h=>wpAny_pyIter_listiter st h
def tQ{P:Program}{w:World}{K:zz8}{tg:Expr}(a it:Addr):Turn P w K tg (Qd K a) [it] it (λi h=>h.IsTupleIter it a i) where
 mem:=by simp
 obj:=λi h st b hb=>by
  have e:b=it:=by simpa using hb
  subst e;obtain⟨o,e,c,d⟩:=st
  exact⟨o,e,λv z=>by rw [d] at z;cases z⟩
 keep:=λi h h' st k=>st.at λo e=>k it (by simp) o e
 item:=by
  intro X hP hw hK hc i aa s σ H E I hf st hg;subst hP hw hK;obtain⟨xs,x,hq,hx⟩:=hg
  obtain⟨aj,rv,p,hz⟩:=I.tuple hq
  obtain⟨u,hu,ru⟩:=rv.get hx
  obtain⟨f0,f1,f2,f3,f4,f5⟩:=hf it (by simp)
  refine wpAny_pyNext_tuple_item st (show s.heap.IsTuple a aj.toArray from p) (x:=u) (by simpa using hu) λh' eY sb=>?_
  have I1:Inv X aa σ H {s with heap:=h'}:=I.turned (t':=s.toks) (λb o hb e=>(sb.2 b hb).trans e) f0 f1 f3 f4 f5
  obtain⟨o,e,c,d⟩:=id eY
  exact⟨u,rfl,qO (s:={s with heap:=h'}) e c d (by decide) ⟨x,H,I1,ru,⟨rfl,λys hy=>by rw [I.nK hy hq];exact hx⟩,eY,λb hb=>(hf b hb).1⟩⟩
 done:=by
  intro X hP hw hK hc i aa s σ H E I hf st hg;subst hP hw hK;obtain⟨xs,hq,hx⟩:=hg
  obtain⟨aj,rv,p,hz⟩:=I.tuple hq
  obtain⟨f0,f1,f2,f3,f4,f5⟩:=hf it (by simp)
  have hl:=rv.length
  exact wpAny_pyNext_tuple_end (I.ok.hd hc) st (show s.heap.IsTuple a aj.toArray from p) (by simp;omega) λh' eb=>⟨rfl,I.turned (t':=s.toks) (λb o hb e=>eb b o hb e) f0 f1 f3 f4 f5⟩
 self:=λ_ _ _ _ _ st h=>wpAny_pyIter_tupleiter st h
def sJ{P:Program}{w:World}{K:zz8}{tg:Expr}(it:Addr)(lo:Int)(n:Nat):Turn P w K tg (Lg lo n) [it] it (λi h=>IsRangeIter h it (lo+(i:Nat)*1) ((n:Int)-(i:Nat)) 1) where
 mem:=by simp
 obj:=λi h st b hb=>by
  have e:b=it:=by simpa using hb
  subst e;exact⟨_,st,λv z=>by
   have z':Data.fields _=Data.cell v:=z
   cases z'⟩
 keep:=λi h h' st k=>k it (by simp) _ st
 item:=by
  intro X hP hw hK hc i aa s σ H E I hf st hg;subst hP hw hK;obtain⟨f0,f1,f2,f3,f4,f5⟩:=hf it (by simp)
  have W:=Walks.range (prog:=X.prog) (w:=X.w) (I.ok.hd hc) it lo 1 n
  refine W.item i s _ _ hg st λv h' tk hv eY kk=>?_
  obtain⟨t,rfl⟩:=hv
  have I1:Inv X aa σ H {s with heap:=h',toks:=tk}:=I.turned (λb o hb e=>kk b o (by simpa using hb) e) f0 f1 f3 f4 f5
  refine⟨_,rfl,qO (s:={s with heap:=h',toks:=tk}) (n:="range_iterator") eY rfl rfl (by decide) ⟨.int (lo+i),H,I1,⟨t,?_⟩,⟨rfl,rfl⟩,eY,λb hb=>(hf b hb).1⟩⟩
  rw [Int.mul_one]
 done:=by
  intro X hP hw hK hc i aa s σ H E I hf st hg;subst hP hw hK;obtain⟨f0,f1,f2,f3,f4,f5⟩:=hf it (by simp)
  exact wpAny_pyNext_range_end (I.ok.hd hc) st (by have:n<=i:=hg;omega) λh' eb=>⟨rfl,I.turned (t':=s.toks) (λb o hb e=>eb b o hb e) f0 f1 f3 f4 f5⟩
 self:=λ_ _ _ _ _ st h=>wpAny_pyIter_rangeiter st h
section
variable{X:Cx}{tg:Expr}
noncomputable def Nl(K:zz8)(tl:TE):TI:=λσ H R=>tl σ H λx H1=>∃a,x=.ref a/\(∃xs,di K H1 a xs)/\R (OT K a) H1
noncomputable def Qz(K:zz8)(tl:TE):TI:=λσ H R=>tl σ H λx H1=>∃a,x=.ref a/\(∃xs,eB K H1 a xs)/\R (Qd K a) H1
def uQ{l:Expr}{tl:TE}(hl:PE X l tl):PI X tg l (Nl X.K tl):=by
 intro aa s σ H R I h;refine bA (hl aa s σ H _ I h) λv s1 ⟨x,H1,I1,r1,q1⟩=>?_
 obtain⟨a,e,⟨xs,hq⟩,q⟩:=q1
 subst e;cases r1;obtain⟨aj,rv,p,hz⟩:=I1.list hq
 refine wpAny_pyIter_list p.isList ?_;refine⟨(zz9 s1),[(zz9 s1)],_,_,H1,rfl,I1.kept (t':=s1.toks) λb o e=>zzB _ e,xE a _,⟨_,zzX _ rfl,rfl,rfl⟩,λb hb=>?_,q⟩
 have e:b=(zz9 s1):=by simpa using hb
 subst e;exact I1.kO (zzE _) (I1.bj.fresh (zzE _))
def Jj{l:Expr}{tl:TE}(hl:PE X l tl):PI X tg l (Qz X.K tl):=by
 intro aa s σ H R I h;refine bA (hl aa s σ H _ I h) λv s1 ⟨x,H1,I1,r1,q1⟩=>?_
 obtain⟨a,e,⟨xs,hq⟩,q⟩:=q1
 subst e;cases r1;obtain⟨aj,rv,p,hz⟩:=I1.tuple hq
 refine wpAny_pyIter_tuple (show s1.heap.IsTuple a aj.toArray from p) ?_;refine⟨(zz9 s1),[(zz9 s1)],_,_,H1,rfl,I1.kept (t':=s1.toks) λb o e=>zzB _ e,tQ a _,⟨_,zzX _ rfl,rfl,rfl⟩,λb hb=>?_,q⟩
 have e:b=(zz9 s1):=by simpa using hb
 subst e;exact I1.kO (zzE _) (I1.bj.fresh (zzE _))
def rG{aa:List (Addr×Obj)}{σ:St}{H:Hp}{s:Shared}{R:It->Hp->Prop}{E:Value->Shared->Prop}{lo hi:Int}{t u v:Tok}{tk:Nat}(I:Inv X aa σ H s)(h1: -(2^62)<=lo)(h2:lo<2^62)(h3: -(2^62)<=hi)(h4:hi<2^62)
 (q:R (Lg lo (hi-lo).toNat) H):wpAny (model X.prog X.w) X.A (pyIter (.ref (zz9 s))) (Sj X aa σ tg R) E {s with heap:=s.heap.push {cls:=.type "range",data:=.fields #[.int lo t,.int hi u,.int 1 v]},toks:=tk}:=by
 refine wpAny_pyIter_range (IsRange.new ..) (small_one h1 h2 h3 h4) ?_;have I1:Inv X aa σ H {s with heap:=s.heap.push {cls:=.type "range",data:=.fields #[.int lo t,.int hi u,.int 1 v]},toks:=tk}:=I.kept λb o e=>zzB _ e
 refine⟨(s.heap.push {cls:=.type "range",data:=.fields #[.int lo t,.int hi u,.int 1 v]}).objs.size,[(s.heap.push {cls:=.type "range",data:=.fields #[.int lo t,.int hi u,.int 1 v]}).objs.size],_,_,H,rfl,
  I1.kept (t':=tk) λb o e=>zzB _ e,sJ _ lo (hi-lo).toNat,?_,λb hb=>?_,q⟩
 ·have e1:lo+((0:Nat):Int)*1=lo:=by simp
  have e2:(((hi-lo).toNat:Nat):Int)-((0:Nat):Int)=Builtin.Range.rangeSize lo hi 1:=by rw [rangeSize_one];split<;>omega
  show IsRangeIter _ _ (lo+((0:Nat):Int)*1) ((((hi-lo).toNat:Nat):Int)-((0:Nat):Int)) 1
  rw [e1,e2];exact zzX _ rfl
 ·have e:b=(s.heap.push {cls:=.type "range",data:=.fields #[.int lo t,.int hi u,.int 1 v]}).objs.size:=by simpa using hb
  subst e;exact I1.kO (zzE _) (I1.bj.fresh (zzE _))
noncomputable def L6(ta:TA):TI:=λσ H R=>ta σ H λvs H1=>∃j:Int,vs=[.int j]/\ -(2^62)<=j/\j<2^62/\R (Lg 0 j.toNat) H1
noncomputable def Lc(ta:TA):TI:=λσ H R=>ta σ H λvs H1=>∃i j:Int,vs=[.int i,.int j]/\(-(2^62)<=i/\i<2^62/\ -(2^62)<=j/\j<2^62)/\R (Lg i (j-i).toNat) H1
theorem xo{a:Expr}{ta:TA}{p pos:Pos}(hg:Gl X "range")(hm:X.mg "range"=none)(ha:PA X [a] ta)(hs:starEach [a] X.env=[(false,eval a X.env)]:=by rfl):PI X tg (.Call (.Name "range" p) [a] [] pos) (L6 ta):=by
 intro aa s σ H R I h;refine Call_ (cZ I hg hm boot_range (PyProof.Rows.callWith_type1 (bA (ha pos aa s σ H _ I h) λus s1 ⟨vs,H1,I1,r1,q1⟩=>?_) hs rfl))
 obtain⟨j,e,q1,q2,q⟩:=q1
 subst e;cases r1 with
 |cons r rr=>
  cases rr;obtain⟨t,rfl⟩:=r
  exact call_range_1 (rG I1 (by omega) (by omega) q1 q2 (by simpa using q))
theorem wG{a b:Expr}{ta:TA}{p pos:Pos}(hg:Gl X "range")(hm:X.mg "range"=none)(ha:PA X [a,b] ta)(hs:starEach [a,b] X.env=[(false,eval a X.env),(false,eval b X.env)]:=by rfl)(Bm:starEach [b] X.env=[(false,eval b X.env)]:=by rfl):
 PI X tg (.Call (.Name "range" p) [a,b] [] pos) (Lc ta):=by
 intro aa s σ H R I h;refine Call_ (cZ I hg hm boot_range (PyProof.Rows.callWith_type1 (bA (ha pos aa s σ H _ I h) λus s1 ⟨vs,H1,I1,r1,q1⟩=>?_) (by rw [hs,Bm]) (by rw [Bm];rfl)))
 obtain⟨i,j,e,⟨q1,q2,q3,q4⟩,q⟩:=q1
 subst e;cases r1 with
 |cons r rr=>
  cases rr with
  |cons r' rr=>
   cases rr;obtain⟨t,rfl⟩:=r
   obtain⟨t',rfl⟩:=r'
   exact call_range_2 (rG I1 q1 q2 q3 q4 q)
noncomputable def Qy(wi:TI)(g:TG)(tb:TS):TS:=λD σ H=>wi σ H λJ H1=>∃W:Nat->Nat->St->Hp->Prop,(∃m,W 0 m σ H1)/\∀i m σ H,W i m σ H->
 (J.stop i H/\D.nx σ H)\/(J.go i H/\∃N:St->Hp->Prop,(∀σ' H',N σ' H'->∃m',m'<m/\W (i+1) m' σ' H')/\∀x H',J.Kn i H x H'->g x σ H' λσ2 H2=>tb {D with nx:=N,ct:=N,bk:=D.nx} σ2 H2)
noncomputable def pF(fp:List Addr)(h:Heap):List (Addr×Obj):=fp.filterMap λb=>(h.get? b).map λo=>(b,o)
def cX{fp:List Addr}{h:Heap}{b:Addr}{o:Obj}(hb:b∈fp)(e:h.get? b=some o):(b,o)∈pF fp h:=zz1.mpr ⟨b,hb,by rw [e];rfl⟩
def xC{fp:List Addr}{h:Heap}{p:Addr×Obj}(hp:p∈pF fp h):p.1∈fp/\h.get? p.1=some p.2:=by
 obtain⟨b,hb,e⟩:=zz1.mp hp
 cases q:h.get? b with
 |none=>rw [q] at e;cases e
 |some o=>
  rw [q] at e;have e':(b,o)=p:=zzq e
  subst e';exact⟨hb,q⟩
theorem Inv.pinned{aa:List (Addr×Obj)}{σ:St}{H:Hp}{s:Shared}{fp:List Addr}(I:Inv X aa σ H s)(hf:∀b∈fp,fO X aa H b)(ho:∀b∈fp,∃o,s.heap.get? b=some o/\∀v,o.data≠.cell v):Inv X (aa++pF fp s.heap) σ H s:=
 I.jl λp hp=>(List.mem_append.mp hp).elim (λz=>I.pin p (zzR _ z)) λz=>by
  obtain⟨hb,e⟩:=xC z
  obtain⟨f0,f1,f2,_⟩:=hf p.1 hb
  obtain⟨o,e',d⟩:=ho p.1 hb
  rw [e] at e';cases e';exact⟨e,f0,f1,f2,d⟩
def Inv.gV{aa pl:List (Addr×Obj)}{σ:St}{H:Hp}{s:Shared}(I:Inv X (aa++pl) σ H s):Inv X aa σ H s:=I.jl λp hp=>I.pin p (zzR _ (zzc _ hp))
def Gq{iter:Expr}{body:List Stmt}{wi:TI}{g:TG}{tb:TS}{pos:Pos}(hp:PassesOwn (model X.prog X.w) X.A X.env X.xe)(hc:X.calm=true)(hi:PI X tg iter wi)(hg:PG X tg g)(hb:vi X body tb)
 (hs:∀x,foldedSetIterable iter X.env x=pure x:=by intro _;rfl):PS X (.For tg iter body [] pos) (Qy wi g tb):=by
 intro aa s σ H D I h;refine wpAny_For (bA (hi aa s σ H _ I h) λv s1 h1=>bA h1 λNV s2 h2=>?_) hs
 obtain⟨it,fp,tn,J,H2,e,I2,T,Ju,f2,W,⟨m0,w0⟩,turn⟩:=h2
 subst e;have HV:∀{H':Hp},(∀b∈fp,H' b=none)->∀b∈fp,fO X aa H' b:=λhn b hb=>⟨hn b hb,(f2 b hb).2⟩
 refine codeAny_forLoop_any (λn s'=>∃i σ' H',Inv X aa σ' H' s'/\tn i s'.heap/\(∀b∈fp,H' b=none)/\W i n σ' H') ?_ m0 ⟨0,σ,H2,I2,Ju,λb hb=>(f2 b hb).1,w0⟩
 rintro n s3 ⟨i,σ3,H3,I3,st3,fr3,w3⟩
 rcases turn i n σ3 H3 w3 with⟨stop,qn⟩|⟨go,N,hN,step⟩
 ·refine wpAny_passesOwn hp (bA (T.done X rfl rfl rfl hc i aa s3 σ3 H3 X.xe I3 (HV fr3) st3 stop) λr s4 ⟨hr,I4⟩=>?_)
  subst hr;exact wpAny_execs_nil ⟨σ3,H3,I4,qn⟩
 ·refine wpAny_passesOwn hp (bA (T.item X rfl rfl rfl hc i aa s3 σ3 H3 X.xe I3 (HV fr3) st3 go) λr s4 ⟨u,hr,h4⟩=>?_)
  subst hr;refine wpAny_passesOwn hp (bA h4 λ_ s5 ⟨x,H5,I5,r5,y5,st5,fr5⟩=>?_);have Pb:=I5.pinned (HV fr5) (T.obj _ _ st5)
  refine wpAny_passesOwn hp (bA (hg _ s5 σ3 H5 x u _ Pb r5 (step x H5 y5)) λ_ s6 ⟨σ6,H6,I6,q6⟩=>?_)
  refine wpAny_passesOwn hp (bA (hb _ s6 σ6 H6 _ I6 q6) λf s7 q7=>?_)
  have again:∀{σ7:St} {H7:Hp},Inv X (aa++pF fp s5.heap) σ7 H7 s7->N σ7 H7->∃m,m<n/\∃i σ' H',Inv X aa σ' H' s7/\tn i s7.heap/\(∀b∈fp,H' b=none)/\W i m σ' H':=λ{σ7 H7} I7 n7=>by
   obtain⟨m',hm,w7⟩:=hN σ7 H7 n7
   refine⟨m',hm,i+1,σ7,H7,I7.gV,T.keep _ _ _ st5 λb hb o e=>(I7.pin (b,o) (zzR _ (zzR _ (cX hb e)))).1,λb hb=>?_,w7⟩
   obtain⟨o,e,d⟩:=T.obj _ _ st5 b hb
   exact(I7.pin (b,o) (zzR _ (zzR _ (cX hb e)))).2.1
  cases f with
  |next=>obtain⟨σ7,H7,I7,n7⟩:=q7;exact again I7 n7
  |cont=>obtain⟨σ7,H7,I7,n7⟩:=q7;exact again I7 n7
  |brk=>obtain⟨σ7,H7,I7,q7⟩:=q7;exact⟨σ7,H7,I7.gV,q7⟩
  |ret v=>obtain⟨x7,σ7,H7,I7,r7,q7⟩:=q7;exact⟨x7,σ7,H7,I7.gV,r7,q7⟩
end
noncomputable abbrev R2:=V->V->Hp->VK->Prop
def e8(X:Cx)(f:Value->Value->Sem Value)(r:R2):Prop:=
 ∀(aa:List (Addr×Obj)) (s:Shared) (σ:St) (H:Hp) (x y:V) (v u:Value) (Q:VK),Inv X aa σ H s->RelV x v->RelV y u->r x y H Q->
  wpAny (model X.prog X.w) X.A (f v u) (EP X aa σ Q) X.xe s
def NZ(X:Cx)(f:Value->Sem Value)(r:V->Hp->VK->Prop):Prop:=
 ∀(aa:List (Addr×Obj)) (s:Shared) (σ:St) (H:Hp) (x:V) (v:Value) (Q:VK),Inv X aa σ H s->RelV x v->r x H Q->
  wpAny (model X.prog X.w) X.A (f v) (EP X aa σ Q) X.xe s
def bV(X:Cx)(f:Value)(r:List V->Hp->VK->Prop):Prop:=
 ∀(aa:List (Addr×Obj)) (s:Shared) (σ:St) (H:Hp) (xs:List V) (us:List Value) (Q:VK),Inv X aa σ H s->Vals xs us->r xs H Q->
  wpAny (model X.prog X.w) X.A (call f us) (EP X aa σ Q) X.xe s
noncomputable def Mr(r:R2)(ta tb:TE):TE:=λσ H Q=>ta σ H λx H1=>tb σ H1 λy H2=>r x y H2 Q
noncomputable def Vb(r:V->Hp->VK->Prop)(ta:TE):TE:=λσ H Q=>ta σ H λx H1=>r x H1 Q
noncomputable def rI(C:Int->Int->Prop)(g:Int->Int->V):R2:=λx y H Q=>∃i j,x=.int i/\y=.int j/\C i j/\Q (g i j) H
noncomputable def Ff(g:Int->Int->V):R2:=λx y H Q=>∃i j,x=.int i/\y=.int j/\Q (g i j) H
def rU(g:Int->V):V->Hp->VK->Prop:=λx H Q=>∃i,x=.int i/\Q (g i) H
section
variable{X:Cx}{a b:Expr}{ta tb:TE}{pos:Pos}
def F2(ha:PE X a ta)(hb:PE X b tb){aa:List (Addr×Obj)}{s:Shared}{σ:St}{H:Hp}{R:V->V->Hp->Prop}(I:Inv X aa σ H s)
 (h:ta σ H λx H1=>tb σ H1 λy H2=>R x y H2) {Q:Value->Shared->Prop} {f:Value->Value->Sem Value}
 (hf:∀v u s2 x y H2,Inv X aa σ H2 s2->RelV x v->RelV y u->R x y H2->wpAny (model X.prog X.w) X.A (f v u) Q X.xe s2):
 wpAny (model X.prog X.w) X.A (eval a X.env) (λv s₁=>wpAny (model X.prog X.w) X.A (eval b X.env) (λu s₂=>wpAny (model X.prog X.w) X.A (f v u) Q X.xe s₂) X.xe s₁) X.xe s:=by
 refine bA (ha aa s σ H _ I h) λv s1 ⟨x,H1,I1,r1,q1⟩=>?_
 refine bA (hb aa s1 σ H1 _ I1 q1) λu s2 ⟨y,H2,I2,r2,q2⟩=>?_
 exact hf v u s2 x y H2 I2 r1 r2 q2
def LI{op:Operator}{r:R2}(ho:e8 X (binaryOp op) r)(ha:PE X a ta)(hb:PE X b tb):PE X (.BinOp a op b pos) (Mr r ta tb):=by
 intro aa s σ H Q I h;exact wpAny_BinOp (F2 ha hb I h λv u s2 x y H2 I2 rx ry q=>ho aa s2 σ H2 x y v u Q I2 rx ry q)
def KR{op:UnaryOp}{r:V->Hp->VK->Prop}(ho:NZ X (unaryOp op) r)(ha:PE X a ta):PE X (.UnaryOp op a pos) (Vb r ta):=by
 intro aa s σ H Q I h;exact UnaryOp_ (bA (ha aa s σ H _ I h) λv s1 ⟨x,H1,I1,r1,q1⟩=>ho aa s1 σ H1 x v Q I1 r1 q1)
def Bv{f:Value->Value->Sem Value}{C:Int->Int->Prop}{g:Int->Int->Int}
 (rule:∀(i j:Int) (t u:Tok) (s:Shared) (Q:Value->Shared->Prop) (E:Value->Shared->Prop),C i j->Q (.int (g i j) s.toks) {s with toks:=s.toks+1}->wpAny (model X.prog X.w) X.A (f (.int i t) (.int j u)) Q E s):
 e8 X f (rI C λi j=>.int (g i j)):=by
 intro aa s σ H x y v u Q I rx ry h;obtain⟨i,j,rfl,rfl,hc,q⟩:=h
 obtain⟨t,rfl⟩:=rx
 obtain⟨t',rfl⟩:=ry
 exact rule i j t t' s _ _ hc ⟨.int (g i j),H,I.tok _,⟨_,rfl⟩,q⟩
def K8{f:Value->Value->Sem Value}{g:Int->Int->Int}
 (rule:∀(i j:Int) (t u:Tok) (s:Shared) (Q:Value->Shared->Prop) (E:Value->Shared->Prop),Q (.int (g i j) s.toks) {s with toks:=s.toks+1}->wpAny (model X.prog X.w) X.A (f (.int i t) (.int j u)) Q E s):
 e8 X f (Ff λi j=>.int (g i j)):=by
 intro aa s σ H x y v u Q I rx ry h;obtain⟨i,j,rfl,rfl,q⟩:=h
 obtain⟨t,rfl⟩:=rx
 obtain⟨t',rfl⟩:=ry
 exact rule i j t t' s _ _ ⟨.int (g i j),H,I.tok _,⟨_,rfl⟩,q⟩
def C4{f:Value->Value->Sem Value}{g:Int->Int->Bool}
 (rule:∀(i j:Int) (t u:Tok) (s:Shared) (Q:Value->Shared->Prop) (E:Value->Shared->Prop),Q (.bool (g i j)) s->wpAny (model X.prog X.w) X.A (f (.int i t) (.int j u)) Q E s):
 e8 X f (Ff λi j=>.bl (g i j)):=by
 intro aa s σ H x y v u Q I rx ry h;obtain⟨i,j,rfl,rfl,q⟩:=h
 obtain⟨t,rfl⟩:=rx
 obtain⟨t',rfl⟩:=ry
 exact rule i j t t' s _ _ ⟨.bl (g i j),H,I,rfl,q⟩
def QZ(i j:Int):Prop:=0<j/\j<1073741824
def IX(i j:Int):Prop:=(-(2^64)<i/\i<2^64)\/(-(2^64)<j/\j<2^64)
def IX.ok{i j:Int}(h:IX i j):IntMulOk i j:=by
 rcases h with⟨h1,h2⟩|⟨h1,h2⟩
 ·exact .of_left (intBits_le_64 h1 h2)
 ·exact .of_right (intBits_le_64 h1 h2)
def GO:e8 X (binaryOp .Add) (Ff λi j=>.int (i+j)):=K8 λ_ _ _ _ _ _ _ q=>add_int q
def Hy:e8 X (binaryOp .Sub) (Ff λi j=>.int (i-j)):=K8 λ_ _ _ _ _ _ _ q=>sub_int q
def Hv:e8 X (binaryOp .Mult) (rI IX λi j=>.int (i*j)):=Bv λ_ _ _ _ _ _ _ hc q=>mul_int q hc.ok
theorem Eg:e8 X (binaryOp .FloorDiv) (rI QZ λi j=>.int (i/j)):=Bv λi j _ _ _ _ _ hc q=>by
 have h1:(0:Int)<j:=hc.1
 have h2:j<1073741824:=hc.2
 exact floordiv_int (by omega) (by rw [Int.fdiv_eq_ediv_of_nonneg i (by omega)];exact q) (.inl (PyProof.noPylong_small (by omega)))
theorem Ip:e8 X (binaryOp .Mod) (rI (λ_ j=>0<j) λi j=>.int (i%j)):=Bv λi j _ _ _ _ _ hc q=>by
 have h1:(0:Int)<j:=hc
 exact mod_int' (by omega) (by rw [Int.fmod_eq_emod_of_nonneg i (by omega)];exact q)
def Uc{f:Value->Sem Value}{g:Int->Int}
 (rule:∀(i:Int) (t:Tok) (s:Shared) (Q:Value->Shared->Prop) (E:Value->Shared->Prop),Q (.int (g i) s.toks) {s with toks:=s.toks+1}->wpAny (model X.prog X.w) X.A (f (.int i t)) Q E s):
 NZ X f (rU λi=>.int (g i)):=by
 intro aa s σ H x v Q I rx h;obtain⟨i,rfl,q⟩:=h
 obtain⟨t,rfl⟩:=rx
 exact rule i t s _ _ ⟨.int (g i),H,I.tok _,⟨_,rfl⟩,q⟩
def IG:NZ X (unaryOp .USub) (rU λi=>.int (-i)):=Uc λ_ _ _ _ _ q=>neg_int q
variable{c:Expr}{tc:TE}
def oV{aa:List (Addr×Obj)}{σ:St}{H:Hp}{s:Shared}{Q:VK}{k k':Bool}(I:Inv X aa σ H s)(q:Q (.bl k) H)(e:k=k'):EP X aa σ Q (.bool k') s:=by
 subst e;exact⟨.bl k,H,I,rfl,q⟩
def LJ:e8 X (compareOp .Lt) (Ff λi j=>.bl (decide (i<j))):=C4 λ_ _ _ _ _ _ _ q=>lt_int q
def Me:e8 X (compareOp .LtE) (Ff λi j=>.bl (decide (i<=j))):=C4 λ_ _ _ _ _ _ _ q=>le_int q
def MS:e8 X (compareOp .Gt) (Ff λi j=>.bl (decide (j<i))):=C4 λ_ _ _ _ _ _ _ q=>gt_int q
def K9:e8 X (compareOp .GtE) (Ff λi j=>.bl (decide (j<=i))):=C4 λ_ _ _ _ _ _ _ q=>ge_int q
def Gv:e8 X (compareOp .Is) (λx y H Q=>y=.ay/\Q (.bl (decide (x=.ay))) H):=by
 intro aa s σ H x y v u Q I rx ry h;obtain⟨rfl,q⟩:=h
 cases ry;refine is_none_gen (oV I q ?_);cases x<;>first
  |(cases rx;rfl)
  |(obtain⟨t,rfl⟩:=rx;rfl)
def D4:e8 X (compareOp .IsNot) (λx y H Q=>y=.ay/\Q (.bl (!decide (x=.ay))) H):=by
 intro aa s σ H x y v u Q I rx ry h;obtain⟨rfl,q⟩:=h
 cases ry;refine isnot_none_gen (oV I q ?_);cases x<;>first
  |(cases rx;rfl)
  |(obtain⟨t,rfl⟩:=rx;rfl)
def Qs(b:Expr){op:CmpOp}(h:op≠.In:=by decide)(h2:op≠.NotIn:=by decide):behindInMarks op b=false:=by
 have e1:(op==CmpOp.In)=false:=by cases op<;>first|rfl|exact absurd rfl h
 have e2:(op==CmpOp.NotIn)=false:=by cases op<;>first|rfl|exact absurd rfl h2
 cases b<;>simp [behindInMarks,e1,e2]
def Co{op:CmpOp}{r:R2}(ho:e8 X (compareOp op) r)(ha:PE X a ta)(hb:PE X b tb)(hm:behindInMarks op b=false):PE X (.Compare a [op] [b] pos) (Mr r ta tb):=by
 intro aa s σ H Q I h;exact wpAny_Compare1 (F2 ha hb I h λv u s2 x y H2 I2 rx ry q=>ho aa s2 σ H2 x y v u Q I2 rx ry q) hm
noncomputable def Bb(t:TE):TT:=λσ H Q=>t σ H λx H'=>∃k,x=.bl k/\Q k H'
def BX{op:CmpOp}{r:R2}(ho:e8 X (compareOp op) r)(ha:PE X a ta)(hb:PE X b tb)(hm:behindInMarks op b=false):PT X (.Compare a [op] [b] pos) (Bb (Mr r ta tb)):=by
 intro aa s σ H Q I h;refine wpAny_isTrue_Compare1 (bA (ha aa s σ H _ I h) λv s1 ⟨x,H1,I1,r1,q1⟩=>bA (hb aa s1 σ H1 _ I1 q1) λu s2 ⟨y,H2,I2,r2,q2⟩=>
  bA (ho aa s2 σ H2 x y v u _ I2 r1 r2 q2) λc s3 ⟨z,H3,I3,r3,k,e,q3⟩=>?_) hm
 subst e;cases r3;exact wpAny_truthy_bool ⟨H3,I3,q3⟩
noncomputable def ue(r r':R2)(ta tb tc:TE):TE:=λσ H Q=>ta σ H λx H1=>tb σ H1 λy H2=>r x y H2 λz H3=>∃k,z=.bl k/\
 (if k=true then tc σ H3 λw' H4=>r' y w' H4 Q else Q (.bl false) H3)
def zr{op GD:CmpOp}{r r':R2}(ho:e8 X (compareOp op) r)(iD:e8 X (compareOp GD) r')(ha:PE X a ta)(hb:PE X b tb)(hc:PE X c tc)
 (hm:lastMarks [op,GD] [b,c]=false:=by with_unfolding_all rfl):PE X (.Compare a [op,GD] [b,c] pos) (ue r r' ta tb tc):=by
 intro aa s σ H Q I h;refine Compare_chain (bA (ha aa s σ H _ I h) λv s1 ⟨x,H1,I1,r1,q1⟩=>chain_link (bA (hb aa s1 σ H1 _ I1 q1) λu s2 ⟨y,H2,I2,r2,q2⟩=>
  bA (ho aa s2 σ H2 x y v u _ I2 r1 r2 q2) λd s3 ⟨z,H3,I3,r3,k,e,q3⟩=>?_)) hm
 subst e;cases r3;refine wpAny_truthy_bool ?_;cases k with
 |false=>exact ite_ff ⟨.bl false,H3,I3,rfl,q3⟩
 |true=>exact ite_tt (chain_last (bA (hc aa s3 σ H3 _ I3 q3) λw' s4 ⟨z',H4,I4,r4,q4⟩=>iD aa s4 σ H4 y z' u w' Q I4 r2 r4 q4))
def Bk{op GD:CmpOp}{r r':R2}(ho:e8 X (compareOp op) r)(iD:e8 X (compareOp GD) r')(ha:PE X a ta)(hb:PE X b tb)(hc:PE X c tc)
 (hm:lastMarks [op,GD] [b,c]=false:=by with_unfolding_all rfl):PT X (.Compare a [op,GD] [b,c] pos) (Bb (ue r r' ta tb tc)):=by
 intro aa s σ H Q I h;refine isTrue_chain (bA (ha aa s σ H _ I h) λv s1 ⟨x,H1,I1,r1,q1⟩=>test_link (bA (hb aa s1 σ H1 _ I1 q1) λu s2 ⟨y,H2,I2,r2,q2⟩=>
  bA (ho aa s2 σ H2 x y v u _ I2 r1 r2 q2) λd s3 ⟨z,H3,I3,r3,k,e,q3⟩=>?_)) hm
 subst e;cases r3;refine wpAny_truthy_bool ?_;cases k with
 |false=>
  obtain⟨k',e',q'⟩:=q3
  cases e';exact ite_ff ⟨H3,I3,q'⟩
 |true=>
  refine ite_tt (test_last (bA (hc aa s3 σ H3 _ I3 q3) λw' s4 ⟨z',H4,I4,r4,q4⟩=>bA (iD aa s4 σ H4 y z' u w' _ I4 r2 r4 q4) λd' s5 ⟨z2,H5,I5,r5,k2,e2,q5⟩=>?_))
  subst e2;cases r5;exact wpAny_truthy_bool ⟨H5,I5,q5⟩
def kH:(sizeLine:Nat)<2^63:=by rw [sizeLine_eq];decide
def uh:e8 X (binaryOp .Add) (λx y H Q=>∃i j,x=.str i/\y=.str j/\i.length+j.length<=sizeLine/\Q (.str (i++j)) H):=by
 intro aa s σ H x y v u Q I rx ry h;obtain⟨i,j,rfl,rfl,hz,q⟩:=h
 obtain⟨t,rfl⟩:=rx
 obtain⟨t',rfl⟩:=ry
 exact add_str (λt' tk=>⟨.str (i++j),H,I.tok _,⟨_,rfl⟩,q⟩) hz
def vals1{x:V}{us:List Value}(r:Vals [x] us):∃u,us=[u]/\RelV x u:=by
 cases r with
 |cons r1 r2=>cases r2;exact⟨_,rfl,r1⟩
def vals2{x y:V}{us:List Value}(r:Vals [x,y] us):∃u w',us=[u,w']/\RelV x u/\RelV y w':=by
 cases r with
 |cons r1 r2=>
  cases r2 with
  |cons r3 r4=>cases r4;exact⟨_,_,rfl,r1,r3⟩
def Ag:bV X (.builtin "abs") (λxs H Q=>∃i,xs=[.int i]/\Q (.int (if i<0 then -i else i)) H):=by
 intro aa s σ H xs us Q I r h;obtain⟨i,rfl,q⟩:=h
 obtain⟨u,rfl,t,rfl⟩:=vals1 r
 exact call_abs_int λu tk=>⟨.int (if i<0 then -i else i),H,I.tok _,⟨_,rfl⟩,q⟩
def xK(hc:X.calm=true):bV X (.builtin "max") (λxs H Q=>∃i j,xs=[.int i,.int j]/\Q (.int (if j>i then j else i)) H):=by
 intro aa s σ H xs us Q I r h;obtain⟨i,j,rfl,q⟩:=h
 obtain⟨u,w',rfl,⟨t,rfl⟩,⟨t',rfl⟩⟩:=vals2 r
 refine max_two_ints (I.ok.hd hc) λh' tk k=>⟨_,H,I.kept k,?_,q⟩
 by_cases hj:j>i
 ·rw [if_pos hj,if_pos hj];exact⟨_,rfl⟩
 ·rw [if_neg hj,if_neg hj];exact⟨_,rfl⟩
def wB(hc:X.calm=true):bV X (.builtin "min") (λxs H Q=>∃i j,xs=[.int i,.int j]/\Q (.int (if j<i then j else i)) H):=by
 intro aa s σ H xs us Q I r h;obtain⟨i,j,rfl,q⟩:=h
 obtain⟨u,w',rfl,⟨t,rfl⟩,⟨t',rfl⟩⟩:=vals2 r
 refine min_two_ints (I.ok.hd hc) λh' tk k=>⟨_,H,I.kept k,?_,q⟩
 by_cases hj:j<i
 ·rw [if_pos hj,if_pos hj];exact⟨_,rfl⟩
 ·rw [if_neg hj,if_neg hj];exact⟨_,rfl⟩
def pX:bV X (.type "str") (λxs H Q=>∃i,xs=[.int i]/\i.natAbs.log2<1920/\Q (.str (toString i)) H):=by
 intro aa s σ H xs us Q I r h;obtain⟨i,rfl,hz,q⟩:=h
 obtain⟨u,rfl,t,rfl⟩:=vals1 r
 exact PySem.P.str_of_int hz ⟨.str _,H,I.tok _,⟨_,rfl⟩,q⟩
end
def jX.some_of{v:V}{o:Option Value}(r:jX (some v) o):∃u,o=some u/\RelV v u:=by
 cases o with
 |none=>exact(show False from r).elim
 |some u=>exact⟨u,rfl,r⟩
structure d8(k:Nat)(A:Around):Prop where
 hd:A.handled=none
 dp:A.depth+3*k+5<recursionLimit
 un:A.units+16*k+200<cLine
theorem d8.mono{j k:Nat}{A:Around}(r:d8 k A)(h:j<=k):d8 j A:=⟨r.hd,by have:=r.dp;omega,by have:=r.un;omega⟩
theorem d8.deeper{k:Nat}{A:Around}(r:d8 (k+1) A)(env:Env):d8 k (A.deeper env):=
 ⟨r.hd,by have:=r.dp;show A.depth+1+3*k+5<_;omega,by have:=r.un;show A.units+3+16*k+200<_;omega⟩
def d8.depth{k:Nat}{A:Around}(r:d8 k A):A.depth<recursionLimit:=by have:=r.dp;omega
def d8.units{k:Nat}{A:Around}(r:d8 k A):A.units+64<cLine:=by have:=r.un;omega
noncomputable def Pa:TA:=λ_ H Q=>Q [] H
noncomputable def Ng(ta:TE)(tr:TA):TA:=λσ H Q=>ta σ H λx H1=>tr σ H1 λxs H2=>Q (x::xs) H2
section
variable{X:Cx}{e:Expr}{es:List Expr}{te:TE}{t:TA}{pos:Pos}
def cw:PA X [] Pa:=λ_ _ _ _ H Q I h=>Calls.spliced_nil ⟨[],H,I,.nil,h⟩
theorem bp(ha:PE X e te)(hr:PA X es t)(hs:starEach (e::es) X.env=(false,eval e X.env)::starEach es X.env:=by rfl):PA X (e::es) (Ng te t):=by
 intro pos aa s σ H Q I h;rw [hs];show wpAny _ _ (spliced ((false,eval e X.env)::backTo pos (starEach es X.env))) _ _ s;refine Calls.spliced_cons (bA (ha aa s σ H _ I h) λu s1 ⟨x,H1,I1,r1,q1⟩=>?_)
 exact bA (hr pos aa s1 σ H1 _ I1 q1) λus s2 ⟨xs,H2,I2,r2,q2⟩=>⟨x::xs,H2,I2,.cons r1 r2,q2⟩
noncomputable def Po(t:TA):TE:=λσ H Q=>t σ H λxs H1=>xs.length<=sizeLine/\∀p,H1 p=none->Q (.ref p) (upd H1 p (.tup xs))
noncomputable def O5(t:TA):TE:=λσ H Q=>t σ H λxs H1=>xs.length<=sizeLine/\∀p,H1 p=none->Q (.ref p) (upd H1 p (.lst xs))
def HL{x1}(h:PA X es t):PE X (.Tuple es x1 pos) (Po t):=by
 intro aa s σ H Q I hq;refine wpAny_Tuple_spliced (bA (h pos aa s σ H _ I hq) λus s1 ⟨xs,H1,I1,r,z,q⟩=>⟨by rw [<-r.length];exact z,?_⟩)
 have hf:H1 (zz9 s1)=none:=I1.bj.fresh (zzE _)
 refine⟨.ref (zz9 s1),upd H1 (zz9 s1) (.tup xs),I1.laid (t':=s1.toks) (λb u e=>zzB _ e) (zzE _) ?_,rfl,q _ hf⟩;exact⟨z,us,r,⟨_,zzX _ rfl,rfl,_,rfl⟩⟩
def JH(h:PA X es t):PE X (.List es pos) (O5 t):=by
 intro aa s σ H Q I hq;refine wpAny_List_spliced (bA (h pos aa s σ H _ I hq) λus s1 ⟨xs,H1,I1,r,z,q⟩=>⟨by rw [<-r.length];exact z,?_⟩)
 have hf:H1 (zz9 s1)=none:=I1.bj.fresh (zzE _)
 refine⟨.ref (zz9 s1),upd H1 (zz9 s1) (.lst xs),I1.laid (t':=s1.toks) (λb u e=>zzB _ e) (zzE _) ?_,rfl,q _ hf⟩;exact⟨z,us,0,r,zzX _ rfl⟩
end
noncomputable abbrev Sp:=List V->Hp->VK->XK->Prop
noncomputable abbrev x9:=List Env->Hp->Shared->XK->Value->Shared->Prop
structure Ca(P:Program)(w:World)(K:zz8)(mg:Str->Option Value)(base:Heap)(A:Around)(outer:List Env)(s:Shared)(H:Hp):Prop where
 frames:A.frames=some outer
 mod:Mod K mg base
 bs:∀b o,base.get? b=some o->s.heap.get? b=some o/\H b=none
 FP:base.objs.size<=(zz9 s)
 l7:s.heap.FunFrames base outer
 H9:∀b∈gM outer,H b=none
 bj:gD P w H s.heap
 bare:AllBare s.gens
def CE(outer:List Env)(P:Program)(w:World)(H:Hp)(s:Shared)(Q:VK)(u:Value)(s':Shared):Prop:=
 ∃v H',s'.os=s.os/\AllBare s'.gens/\Un (gM outer) [] H H' s.heap s'.heap/\gD P w H' s'.heap/\RelV v u/\Q v H'
def CR(CX:x9)(outer:List Env)(P:Program)(w:World)(H:Hp)(s:Shared)(Q:VK)(E:XK)(r:Result)(s':Shared):Prop:=
 match r with
 |.ok (.ret u)=>CE outer P w H s Q u s'
 |.ok _=>False
 |.error e=>CX outer H s E e s'
structure fR(P:Program)(w:World)(K:zz8)(mg:Str->Option Value)(base:Heap)(CX:x9)(k:Nat)(f:Addr)(fd:FuncData)(ps:List Str)(sp:Sp):Prop where
 len:∀vs H Q E,sp vs H Q E->vs.length=ps.length
 run:∀(A:Around) (outer:List Env) (s:Shared) (H:Hp) (args:Args) (us:List Value) (vs:List V) (Q:VK) (E:XK),d8 k A->Ca P w K mg base A outer s H->BindsTo s fd args (ps.zip us)->Vals vs us->sp vs H Q E->
  codeAny (model P w) A (.call (.ref f) args) (CR CX outer P w H s Q E) s
def fR.mono{P:Program}{w:World}{K:zz8}{mg:Str->Option Value}{base:Heap}{CX:x9}{j k:Nat}{f:Addr}{fd:FuncData}{ps:List Str}{sp:Sp}(F:fR P w K mg base CX j f fd ps sp)(h:j<=k):
 fR P w K mg base CX k f fd ps sp:=⟨F.len,λA outer s H args us vs Q E hr=>F.run A outer s H args us vs Q E (hr.mono h)⟩
def fR.imp{P:Program}{w:World}{K:zz8}{mg:Str->Option Value}{base:Heap}{CX:x9}{k:Nat}{f:Addr}{fd:FuncData}{ps:List Str}{sp Rv:Sp}(F:fR P w K mg base CX k f fd ps sp)
 (h:∀vs H Q E,Rv vs H Q E->sp vs H Q E):fR P w K mg base CX k f fd ps Rv:=
 ⟨λvs H Q E q=>F.len vs H Q E (h _ _ _ _ q),λA outer s H args us vs Q E hr he hb hv hs=>F.run A outer s H args us vs Q E hr he hb hv (h _ _ _ _ hs)⟩
section
variable{X:Cx}{aa:List (Addr×Obj)}{σ:St}{H:Hp}{s s':Shared}
def Inv.Jx(I:Inv X aa σ H s):Ca X.prog X.w X.K X.mg X.base X.A X.stack s H:=
 ⟨I.ok.frames,I.ok.mod,I.bs,zzU I.ok.FP I.sz,I.stack,I.pW,I.bj,I.bare⟩
def Inv.after{Q:VK}{u:Value}(I:Inv X aa σ H s)(h:CE X.stack X.prog X.w H s Q u s'):EP X aa σ Q u s':=by
 obtain⟨v,H',os,bare,un,bj,r,q⟩:=h
 obtain⟨hh,g,d,t,os'⟩:=s'
 obtain rfl:os'=s.os:=os
 exact⟨v,H',I.call (h':=hh) (g':=g) (d':=d) (t':=t) (ch:=[]) un bj bare (λb z=>absurd z (by simp)),r,q⟩
end
def Binds(K:zz8)(fd:FuncData)(ps:List Str)(ds:List Value):Prop:=
 ∀(s:Shared) (us:List Value),K.In s.heap->(us++ds).length=ps.length->BindsTo s fd ⟨us,[]⟩ (ps.zip (us++ds))
def Binds.all{K:zz8}{fd:FuncData}{ps:List Str}(h:∀us:List Value,us.length=ps.length->bindArgs fd ⟨us,[]⟩=pure (ps.zip us)):Binds K fd ps []:=λs us _ hl=>by
 rw [zz6] at hl⊢;exact .of_eq (h us hl)
def Passes(CX:x9)(X:Cx)(E:XK):Prop:=∀(aa:List (Addr×Obj)) (σ:St) (H:Hp) (s:Shared) (e:Value) (s':Shared),Inv X aa σ H s->CX X.stack H s E e s'->X.xe e s'
structure i8(N P:List Str)(sc:Scope):Prop where
 kind:sc.kind=.function
 co:sc.isCoroutine=false
 gen:sc.isGenerator=false
 nd:N.Nodup
 pre:N.take P.length=P
 par:∀x∈P,sc.names.lookup x=some .local\/sc.names.lookup x=some .cell
 HP:∀y∈sc.names,y.2≠.free
theorem nh{kindOf:Str->Option NameKind}{x:Str}:∀{binds:List (Str×Value)} {m:Str->Option Value},(∀v,(x,v)∉binds)->bindL kindOf binds m x=m x
 |[],_,_=>rfl
 |(n,v)::r,m,h=>by
  unfold bindL;rw [nh λw hw=>h w (zzI _ hw)]
  split
  ·have:x≠n:=by rintro rfl;exact h v zzP
   simp [this]
  ·rfl
theorem nT{kindOf:Str->Option NameKind}{x:Str}:∀{binds:List (Str×Value)} {m:Str->Option Value},(∀v,(x,v)∉binds)->bindC kindOf binds m x=m x
 |[],_,_=>rfl
 |(n,v)::r,m,h=>by
  unfold bindC;rw [nT λw hw=>h w (zzI _ hw)]
  split
  ·rfl
  ·have:x≠n:=by rintro rfl;exact h v zzP
   simp [this]
theorem m7{kindOf:Str->Option NameKind}{x:Str}{v:Value}:∀{P:List Str} {vs:List Value} {i:Nat} {m:Str->Option Value},P.Nodup->P[i]?=some x->vs[i]?=some v->kindOf x=some .local->
 bindL kindOf (P.zip vs) m x=some v
 |[],_,_,_,_,h,_,_=>by simp at h
 |_::_,[],_,_,_,_,h,_=>by simp at h
 |p::P,w::vs,0,m,nd,h1,h2,hk=>by
  simp at h1 h2;subst h1;subst h2;show bindL kindOf ((p,w)::P.zip vs) m p=_
  unfold bindL;rw [nh λv hv=>(List.nodup_cons.mp nd).1 (List.of_mem_zip hv).1,if_pos hk]
  simp
 |p::P,w::vs,i+1,m,nd,h1,h2,hk=>by
  show bindL kindOf ((p,w)::P.zip vs) m x=_
  unfold bindL;exact m7 (i:=i) (List.nodup_cons.mp nd).2 (by simpa using h1) (by simpa using h2) hk
theorem mU{kindOf:Str->Option NameKind}{x:Str}{v:Value}:∀{P:List Str} {vs:List Value} {i:Nat} {m:Str->Option Value},P.Nodup->P[i]?=some x->vs[i]?=some v->kindOf x≠some .local->
 bindC kindOf (P.zip vs) m x=some v
 |[],_,_,_,_,h,_,_=>by simp at h
 |_::_,[],_,_,_,_,h,_=>by simp at h
 |p::P,w::vs,0,m,nd,h1,h2,hk=>by
  simp at h1 h2;subst h1;subst h2;show bindC kindOf ((p,w)::P.zip vs) m p=_
  unfold bindC;rw [nT λv hv=>(List.nodup_cons.mp nd).1 (List.of_mem_zip hv).1,if_neg hk]
  simp
 |p::P,w::vs,i+1,m,nd,h1,h2,hk=>by
  show bindC kindOf ((p,w)::P.zip vs) m x=_
  unfold bindC;exact mU (i:=i) (List.nodup_cons.mp nd).2 (by simpa using h1) (by simpa using h2) hk
noncomputable def start(N:List Str)(vs:List V):St:=vs.map some++List.replicate (N.length-vs.length) none
noncomputable def dj(CX:x9)(P:Program)(w:World)(K:zz8)(mg:Str->Option Value)(base:Heap)(N:List Str)(qual:Str)(scope:Scope)(f:Addr)(cd:Value)(A:Around)(outer:List Env)(s:Shared)(H:Hp)(E:XK):Cx where
 prog:=P
 w:=w
 K:=K
 mg:=mg
 base:=base
 A:=A.deeper (envOfC qual scope (zz9 s) f cd)
 N:=N
 s₀:=s
 H₀:=H
 env:=envOfC qual scope (zz9 s) f cd
 outer:=outer
 stack:=envOfC qual scope (zz9 s) f cd::outer
 ex:=[]
 calm:=true
 fn:=λ_=>true
 pn:=[]
 xe:=λe s'=>wpAny (model P w) (A.deeper (envOfC qual scope (zz9 s) f cd)) (leaving (envOfC qual scope (zz9 s) f cd) e) (λ_ Qm=>CX outer H s E e Qm) (λe' Qm=>CX outer H s E e' Qm) s'
def qY{sc:Scope}{n:Nat}{x:Str}(h:sc.names.lookup x=some .cell):∃c,(cellsFrom n sc.names []).lookup x=some c:=by
 have q:=PySem.W.cellsFrom_some sc.names n [] (.inl h)
 exact zzp.mp q
def wx{CX:x9}{P:Program}{w:World}{K:zz8}{mg:Str->Option Value}{base:Heap}{N ps:List Str}{qual:Str}{scope:Scope}{f:Addr}{cd:Value}{A:Around}{outer:List Env}{s s1:Shared}{H:Hp}{E:XK}{us:List Value}{vs:List V}
 (S:i8 N ps scope) (hd:A.handled=none) (e0:Ca P w K mg base A outer s H) (hl:vs.length=ps.length) (r:Vals vs us)
 (x:InCallC s (zz9 s) (bindL (envOfC qual scope (zz9 s) f cd).kindOf (ps.zip us) λ_=>none) (cellsFrom ((zz9 s)+1) scope.names []) (bindC (envOfC qual scope (zz9 s) f cd).kindOf (ps.zip us) λ_=>none) s1):
 Inv (dj CX P w K mg base N qual scope f cd A outer s H E) [] (start N vs) H s1:=by
 have hpl:ps.length<=N.length:=by have:=congrArg List.length S.pre;rw [List.length_take] at this;omega
 obtain⟨h1,tk,rfl,hk⟩:=x.done
 have MA:∀b:Addr,b∉(dj CX P w K mg base N qual scope f cd A outer s H E).ex:=λb z=>absurd (show b∈([]:List Addr) from z) (by simp)
 refine⟨⟨e0.mod,S.kind,rfl,rfl,zzE _,λy z c h1 h2=>?_,λy hy=>?_,λy c _ h=>?_,λ_=>hd,Around.frames_deeper e0.frames,.inr ⟨rfl,rfl⟩,λb z=>absurd z (MA b),e0.bs,e0.FP,λb _ _=>MA b,λb z=>absurd z (MA b),e0.l7,e0.H9⟩,
  rfl,e0.bare,Un.kept hk,⟨_,x.toInCall.ns,λi y v h1 h2 h3=>?_⟩,λy c h=>⟨_,x.cell y c h⟩,e0.bj.fresh (zzE _),λy c h=>?_,λp hp=>absurd (show p∈([]:List (Addr×Obj)) from hp) (by simp),e0.bj.kept hk,?_⟩
 ·exact name_of_addr x.apart (PySem.mem_of_lookup h1) (PySem.mem_of_lookup h2)
 ·have hy:scope.names.lookup y=some .cell\/scope.names.lookup y=some .free:=hy
  rcases hy with hy|hy
  ·exact qY hy
  ·exact absurd rfl (S.HP _ (PySem.mem_of_lookup hy))
 ·exact Nat.le_of_lt (x.above y c (PySem.mem_of_lookup h))
 ·have hi:i<vs.length:=by
   unfold start at h2
   by_cases hi:i<vs.length
   ·exact hi
   ·rw [zzs (by simpa using hi)] at h2;rw [List.getElem?_replicate] at h2;split at h2<;>cases h2
  have ha:vs[i]?=some v:=by
   unfold start at h2;rw [zzr (by simpa using hi),zzQ] at h2;cases e:vs[i]? with
   |none=>rw [e] at h2;cases h2
   |some a=>rw [e] at h2;cases h2;rfl
  obtain⟨u,hu,rv⟩:=r.get ha
  have hp:ps[i]?=some y:=by
   rw [<-S.pre,List.getElem?_take_of_lt (by omega)];exact h1
  have SI:ps.Nodup:=by rw [<-S.pre];exact S.nd.sublist (List.take_sublist _ _)
  refine⟨u,rv,?_⟩;rcases S.par y (zzD hp) with k|k
  ·exact .inl ⟨k,m7 SI hp hu k⟩
  ·obtain⟨c,e⟩:=qY (n:=(zz9 s)+1) k
   refine .inr ⟨.inl k,c,e,?_⟩;have q:=x.cell y c e
   rw [mU SI hp hu (by show scope.names.lookup y≠_;rw [k];decide)] at q;exact q
 ·exact e0.bj.fresh (Nat.le_of_lt (x.above y c (PySem.mem_of_lookup h)))
 ·unfold start;show _=N.length
  rw [zzM,zzl,List.length_replicate];omega
def ME{CX:x9}{P:Program}{w:World}{K:zz8}{mg:Str->Option Value}{base:Heap}{k:Nat}{f:Addr}{name qual:Str}{params:Arguments}{body:List Stmt}{scope:Scope}{dV kV doc pm fc ct oc:Value}{an od:Option Addr}
 {ud:Array (Option Value)} {N ps:List Str} {sp:Sp} (lk:K.lookup f=some ⟨oc,od,.func (PySem.W.fnOf name qual params body scope dV kV doc pm an fc ct),ud⟩) (AH:PySem.W.codeIn K fc qual=true) (S:i8 N ps scope)
 (len:∀vs H Q E,sp vs H Q E->vs.length=ps.length)
 (LB:∀(A:Around) (outer:List Env) (s:Shared) (H:Hp) (vs:List V) (Q:VK) (E:XK),d8 k (A.deeper (envOfC qual scope (zz9 s) f fc))->sp vs H Q E->
  ∃t,vi (dj CX P w K mg base N qual scope f fc A outer s H E) body t/\t {nx:=λ_ H'=>Q .ay H',rt:=Q} (start N vs) H):
 fR P w K mg base CX (k+1) f (PySem.W.fnOf name qual params body scope dV kV doc pm an fc ct) ps sp:=by
 refine⟨len,λA outer s H args us vs Q E hr e0 hb r Km=>?_⟩
 have hl:=len _ _ _ _ Km
 have KX:K.In s.heap:=e0.mod.PB.keeps λb o e=>(e0.bs b o e).1
 have lim:s.heap.NoLimit:=e0.mod.nolimit.keeps λb o e=>(e0.bs b o e).1
 have Nt:∀y∈ps.zip us,scope.names.lookup y.1=some .local\/(scope.names.lookup y.1=some .cell/\((cellsFrom ((zz9 s)+1) scope.names []).lookup y.1).isSome=true):=λ⟨n,v⟩ hy=>by
  rcases S.par n (List.of_mem_zip hy).1 with q|q
  ·exact .inl q
  ·exact .inr ⟨q,PySem.W.cellsFrom_some _ _ _ (.inl q)⟩
 refine codeAny_call_function hr.depth (KX _ _ lk) rfl S.co S.gen rfl (PySem.W.codeRec_of KX AH) (hb _ _ _ _ ?_);refine wpAny_newFunctionEnv_cells S.kind Nt λenv he s1 x=>?_
 subst he;refine⟨lim.keeps x.toInCall.keep,codeAny_func ?_⟩;obtain⟨t,ht,hq⟩:=LB A outer s H vs Q E (hr.deeper _) Km
 have I:Inv (dj CX P w K mg base N qual scope f fc A outer s H E) [] (start N vs) H s1:=wx S hr.hd e0 hl r x
 refine wpAny_mono (ht [] s1 (start N vs) H _ I hq) (λfl s' hs=>?_) λe s' hs=>hs
 have fin:∀{σ':St} {H':Hp} {v:V} {u:Value},Inv (dj CX P w K mg base N qual scope f fc A outer s H E) [] σ' H' s'->RelV v u->Q v H'->CE outer P w H s Q u s':=
  λ{σ' H' v u} J rv q=>⟨v,H',J.os,J.bare,J.base,J.bj,rv,q⟩
 cases fl with
 |ret u=>
  obtain⟨v,σ',H',J,rv,q⟩:=hs
  exact fin J rv q
 |next=>
  obtain⟨σ',H',J,q⟩:=hs
  exact fin (v:=V.ay) (u:=Value.none) J rfl q
 |brk=>
  obtain⟨_,_,_,q⟩:=hs
  exact zzk q
 |cont=>
  obtain⟨_,_,_,q⟩:=hs
  exact zzk q
section
variable{X:Cx}{x:Str}{p pos:Pos}{e:Expr}{es:List Expr}{t:TA}{id T:String}{r:List V->Hp->VK->Prop}
noncomputable def NK(r:List V->Hp->VK->Prop)(t:TA):TE:=λσ H Q=>t σ H λvs H1=>r vs H1 Q
def dZ(hc:bV X (.builtin id) r)(hg:Gl X x)(hm:X.mg x=none)(hv:bootBuiltins x=some (.builtin id))(ha:PA X (e::es) t)(hn:x≠"__name__":=by decide)(QV:(x==("__debug__":Str))=false:=by decide)
 (he:starEach (e::es) X.env=(false,eval e X.env)::starEach es X.env:=by rfl) (hpl:(backTo pos (starEach es X.env)).any (·.1)=false:=by rfl):PE X (.Call (.Name x p) (e::es) [] pos) (NK r t):=by
 intro aa s σ H Q I h;refine wpAny_Call_Name_kw (cZ I hg hm hv ?_ hn QV);exact PyProof.Rows.callWith_builtin1 (bA (ha pos aa s σ H _ I h) λus s1 ⟨vs,H1,I1,r1,q1⟩=>hc aa s1 σ H1 vs us Q I1 r1 q1) he hpl
def dy(hc:bV X (.type T) r)(hg:Gl X x)(hm:X.mg x=none)(hv:bootBuiltins x=some (.type T))(ha:PA X (e::es) t)(hn:x≠"__name__":=by decide)(QV:(x==("__debug__":Str))=false:=by decide)
 (he:starEach (e::es) X.env=(false,eval e X.env)::starEach es X.env:=by rfl) (hpl:(backTo pos (starEach es X.env)).any (·.1)=false:=by rfl):PE X (.Call (.Name x p) (e::es) [] pos) (NK r t):=by
 intro aa s σ H Q I h;refine wpAny_Call_Name_kw (cZ I hg hm hv ?_ hn QV);exact PyProof.Rows.callWith_type1 (bA (ha pos aa s σ H _ I h) λus s1 ⟨vs,H1,I1,r1,q1⟩=>hc aa s1 σ H1 vs us Q I1 r1 q1) he hpl
end
end L2
namespace HT
open PySem PyProof.Rows
noncomputable def lexLt:List Int->List Int->Bool
 |[],[]=>false
 |[],_::_=>true
 |_::_,[]=>false
 |x::xs,y::ys=>if x=y then lexLt xs ys else decide (x<y)
theorem ux(x y:Int)(xs ys:List Int):lexLt (x::xs) (y::ys)=if x=y then lexLt xs ys else decide (x<y):=rfl
theorem mD:lexLt [] []=false:=rfl
section
noncomputable def lW(n d:Nat):Option Int->Nat
 |none=>d
 |some v=>if v<0 then(v+(n:Int)).toNat else min v.toNat n
theorem kD(n d:Nat):lW n d none=d:=rfl
def uT(n d k:Nat):lW n d (some (k:Int))=min k n:=by
 show(if(k:Int)<0 then((k:Int)+(n:Int)).toNat else min (k:Int).toNat n)=min k n
 rw [if_neg (by omega),zz4]
end
end HT
namespace L2
open PySem PySem.Spec PyProof.Rows
noncomputable abbrev TO:=St->Hp->(Option Int->Hp->Prop)->Prop
def PO(X:Cx)(e:Option Expr)(t:TO):Prop:=
 ∀(aa:List (Addr×Obj)) (s:Shared) (σ:St) (H:Hp) (Q:Option Int->Hp->Prop),Inv X aa σ H s->t σ H Q->
  wpAny (model X.prog X.w) X.A (evalPart e X.env) (λu s'=>∃o H',Inv X aa σ H' s'/\IsPart u o/\Q o H') X.xe s
noncomputable def Ec:TO:=λ_ H Q=>Q none H
noncomputable def MI(t:TE):TO:=λσ H Q=>t σ H λx H1=>∃i,x=.int i/\Q (some i) H1
section
variable{X:Cx}{e:Expr}{te:TE}{lo hi:Option Expr}{tl th:TO}{pos p2:Pos}
def B9:PO X none Ec:=by
 intro aa s σ H Q I h;rw [evalPart_none];exact zzG ⟨none,H,I,.none,h⟩
def Dd(h:PE X e te):PO X (some e) (MI te):=by
 intro aa s σ H Q I hw;rw [evalPart_some];refine bA (h aa s σ H _ I hw) λu s1 ⟨x,H1,I1,r1,q1⟩=>?_
 obtain⟨i,rfl,q⟩:=q1
 obtain⟨t,rfl⟩:=r1
 exact⟨some i,H1,I1,.int i t,q⟩
def FD(X:Cx)(r:V->Option Int->Option Int->Hp->VK->Prop):Prop:=
 ∀(aa:List (Addr×Obj)) (s:Shared) (σ:St) (H:Hp) (x:V) (v vl vu:Value) (lo hi:Option Int) (sl:Addr) (Q:VK),Inv X aa σ H s->RelV x v->s.heap.IsSliceOf sl vl vu .none->IsPart vl lo->IsPart vu hi->r x lo hi H Q->
  ∃T id,typeLookup (.type T) "__getitem__"=pure (some (.builtin id))/\s.TypeIs v T/\wpAny (model X.prog X.w) X.A (getItem v (.ref sl)) (EP X aa σ Q) X.xe s
noncomputable def Ve(r:V->Option Int->Option Int->Hp->VK->Prop)(te:TE)(tl th:TO):TE:=λσ H Q=>te σ H λx H1=>tl σ H1 λl H2=>th σ H2 λu H3=>r x l u H3 Q
def Bl{r:V->Option Int->Option Int->Hp->VK->Prop}(hr:FD X r)(he:PE X e te)(hl:PO X lo tl)(hu:PO X hi th):PE X (.Subscript e (.Slice lo hi none p2) pos) (Ve r te tl th):=by
 intro aa s σ H Q I h;refine Subscript_ (bA (he aa s σ H _ I h) λv s1 ⟨x,H1,I1,r1,q1⟩=>?_)
 refine wpAny_Slice (bA (hl aa s1 σ H1 _ I1 q1) λvl s2 ⟨l,H2,I2,pl,q2⟩=>bA (hu aa s2 σ H2 _ I2 q2) λvu s3 ⟨u,H3,I3,pu,q3⟩=>?_)
 rw [evalPart_none];refine zzG ?_;have I4:Inv X aa σ H3 {s3 with heap:=s3.heap.push {cls:=.type "slice",data:=.fields #[vl,vu,.none]}}:=I3.kept (t':=s3.toks) λb ob q=>zzB _ q
 obtain⟨T,id,hT,ht,hg⟩:=hr aa {s3 with heap:=s3.heap.push {cls:=.type "slice",data:=.fields #[vl,vu,.none]}} σ H3 x v vl vu l u (zz9 s3) Q I4 r1 (Heap.IsSliceOf.new ..) pl pu q3
 show wpAny (model X.prog X.w) X.A (subscriptTail e (.Slice lo hi none p2) v (.ref (zz9 s3))) (EP X aa σ Q) X.xe {s3 with heap:=s3.heap.push {cls:=.type "slice",data:=.fields #[vl,vu,.none]}}
 exact tail_any (ops:=[.ref (zz9 s3),v]) ht hT hg (by with_unfolding_all rfl)
noncomputable def wH(xs:List V)(lo hi:Option Int):List V:=(xs.drop (HT.lW xs.length 0 lo)).take (HT.lW xs.length xs.length hi-HT.lW xs.length 0 lo)
def qR(xs:List V)(lo hi:Option Int):(wH xs lo hi).length<=xs.length:=by
 unfold wH;rw [List.length_take,List.length_drop];omega
end
noncomputable def F9(n:Nat)(i:Int):Option Nat:=if 0<=i then(if i<n then some i.toNat else none) else if -(n:Int)<=i then some (i+n).toNat else none
noncomputable def sA{α:Type}(xs:List α)(i:Int):Option α:=(F9 xs.length i).bind λj=>xs[j]?
def DE{n:Nat}{i:Int}{j:Nat}(h:F9 n i=some j):seqIndex? i n=some j/\j<n/\ -(n:Int)<=i/\i<n:=by
 unfold F9 at h
 by_cases h0:0<=i
 ·rw [if_pos h0] at h
  by_cases h1:i<n
  ·rw [if_pos h1] at h;have e:i.toNat=j:=zzq h
   exact⟨by rw [seqIndex_of h0 h1,e],by omega,by omega,h1⟩
  ·rw [if_neg h1] at h;cases h
 ·rw [if_neg h0] at h
  by_cases h1: -(n:Int)<=i
  ·rw [if_pos h1] at h;have e:(i+n).toNat=j:=zzq h
   exact⟨by rw [seqIndex_neg (by omega) h1,e],by omega,h1,by omega⟩
  ·rw [if_neg h1] at h;cases h
def o8{α:Type}{xs:List α}{i:Int}{v:α}(h:sA xs i=some v):∃j,seqIndex? i xs.length=some j/\xs[j]?=some v/\j<xs.length/\ -(xs.length:Int)<=i/\i<xs.length:=by
 unfold sA at h;cases e:F9 xs.length i with
 |none=>rw [e] at h;cases h
 |some j=>
  rw [e] at h;obtain⟨h1,h2,h3,h4⟩:=DE e
  exact⟨j,h1,h,h2,h3,h4⟩
def oh(b:Expr):Prop:=∀o i,subscripted b false o i=operate [o,i] (getItem o i)
def KG(X:Cx)(r:R2):Prop:=
 ∀(value slice:Expr) (aa:List (Addr×Obj)) (s:Shared) (σ:St) (H:Hp) (x y:V) (v u:Value) (Q:VK),Inv X aa σ H s->RelV x v->RelV y u->r x y H Q->
  subscripted slice false v u=operate [v,u] (getItem v u)->wpAny (model X.prog X.w) X.A (subscriptTail value slice v u) (EP X aa σ Q) X.xe s
def Su(X:Cx)(id:String)(r:V->List V->Hp->VK->Prop):Prop:=
 ∀(aa:List (Addr×Obj)) (s:Shared) (σ:St) (H:Hp) (x:V) (xs:List V) (v:Value) (us:List Value) (Q:VK),Inv X aa σ H s->RelV x v->Vals xs us->r x xs H Q->
  wpAny (model X.prog X.w) X.A (call (.builtin id) (v::us)) (EP X aa σ Q) X.xe s
section
variable{X:Cx}{a b:Expr}{ta tb:TE}{pos:Pos}
def Mk{r:R2}(hr:KG X r)(ha:PE X a ta)(hb:PE X b tb)(hs:oh b):PE X (.Subscript a b pos) (Mr r ta tb):=by
 intro aa s σ H Q I h;exact Subscript_ (F2 ha hb I h λv u s2 x y H2 I2 rx ry q=>hr a b aa s2 σ H2 x y v u Q I2 rx ry q (hs _ _))
noncomputable def Qf(K:zz8):R2:=λx y H Q=>∃p xs i v,x=.ref p/\y=.int i/\di K H p xs/\sA xs i=some v/\Q v H
noncomputable def QK(K:zz8):R2:=λx y H Q=>∃p xs i v,x=.ref p/\y=.int i/\eB K H p xs/\sA xs i=some v/\Q v H
noncomputable def Qp:R2:=λx y H Q=>∃z i c,x=.str z/\y=.int i/\z.length<=sizeLine/\sA z.cps.toList i=some c/\Q (.str ⟨#[c]⟩) H
def B2:KG X (Qf X.K):=by
 intro value slice aa s σ H x y v u Q I rx ry h hs;obtain⟨p,xs,i,z,rfl,rfl,hq,he,q⟩:=h
 cases rx;obtain⟨t,rfl⟩:=ry
 obtain⟨aj,r,pl,hz⟩:=I.list hq
 obtain⟨j,h1,h2,h3,h4,h5⟩:=o8 he
 obtain⟨w,ew,gF⟩:=r.get h2
 have hl:=r.length
 have hn:=kH
 have fin:EP X aa σ Q w s:=⟨z,H,I,gF,q⟩
 by_cases h0:0<=i
 ·have hj:i.toNat=j:=by
   rw [seqIndex_of h0 h5] at h1;exact zzq h1
  exact item_listR pl.isList h0 (by omega) (by rw [hj];simpa using ew) fin hs
 ·have hj:(i+(aj.toArray.size:Int)).toNat=j:=by
   rw [seqIndex_neg (by omega) h4] at h1;rw [zzC,<-hl];exact zzq h1
  exact subscriptTail_builtinR (x:=w) pl.isList.typeIs slot_list_getitem.lookup
   (wpAny_getItem_list_neg (Q:=λr s'=>r=w/\EP X aa σ Q r s') pl.isList (by omega) (by rw [zzC]<;>omega) (by omega) (by rw [hj];simpa using ew) ⟨rfl,fin⟩) hs
def Gb:KG X (QK X.K):=by
 intro value slice aa s σ H x y v u Q I rx ry h hs;obtain⟨p,xs,i,z,rfl,rfl,hq,he,q⟩:=h
 cases rx;obtain⟨t,rfl⟩:=ry
 obtain⟨aj,r,pl,hz⟩:=I.tuple hq
 obtain⟨j,h1,h2,h3,h4,h5⟩:=o8 he
 obtain⟨w,ew,gF⟩:=r.get h2
 have hl:=r.length
 have hn:=kH
 have fin:EP X aa σ Q w s:=⟨z,H,I,gF,q⟩
 exact subscriptTail_builtinR (x:=w) pl.typeIs slot_tuple_getitem.lookup
  (getItem_tuple (j:=j) (Q:=λr s'=>r=w/\EP X aa σ Q r s') pl (by omega) (by omega) (by rw [zzC,<-hl];exact h1) (by simpa using ew) ⟨rfl,fin⟩) hs
def JD:KG X Qp:=by
 intro value slice aa s σ H x y v u Q I rx ry h hs;obtain⟨z,i,c,rfl,rfl,hz,he,q⟩:=h
 obtain⟨t,rfl⟩:=rx
 obtain⟨t',rfl⟩:=ry
 obtain⟨j,h1,h2,h3,h4,h5⟩:=o8 he
 have hl:z.cps.toList.length=z.length:=by simp [Str.length]
 rw [hl] at h1 h4 h5;have hn:=kH
 exact tail_any (typeIs_str s z t) slot_str_getitem.lookup (getItem_str (c:=c) (by
  have e1:decide (i< -(2^63:Int))=false:=zz0 (by omega)
  have e2:decide (i>=2^63)=false:=zz0 (by omega)
  rw [e1,e2,Bool.or_false]) (by rw [h1];simpa using h2) ⟨.str ⟨#[c]⟩,H,I.tok _,⟨_,rfl⟩,q⟩) hs
def pE(lo hi:Option Int)(n:Nat):(sliceBounds lo hi none n).1=((HT.lW n 0 lo:Nat):Int)/\(sliceBounds lo hi none n).2.1=((HT.lW n n hi:Nat):Int)/\(sliceBounds lo hi none n).2.2=1:=by
 refine⟨?_,?_,rfl⟩
 ·cases lo with
  |none=>simp [sliceBounds,HT.lW]
  |some i=>
   simp! [sliceBounds,HT.lW,Option.getD_none,show(1:Int)>0 by decide,if_true]
   by_cases h:i<0
   ·simp! [h,if_true]<;>omega
   ·simp! [h,if_false]<;>omega
 ·cases hi with
  |none=>simp [sliceBounds,HT.lW]
  |some i=>
   simp! [sliceBounds,HT.lW,Option.getD_none,show(1:Int)>0 by decide,if_true]
   by_cases h:i<0
   ·simp! [h,if_true]<;>omega
   ·simp! [h,if_false]<;>omega
def l5(aj:List Value)(lo hi:Option Int):slicePick aj.toArray lo hi none=((aj.drop (HT.lW aj.length 0 lo)).take (HT.lW aj.length aj.length hi-HT.lW aj.length 0 lo)).toArray:=by
 obtain⟨h1,h2,h3⟩:=pE lo hi aj.toArray.size
 unfold slicePick;rw [h1,h2,h3];simp! [sliceRange_one,pick_run,zzC]<;>rfl
def O0(K:zz8):V->Option Int->Option Int->Hp->VK->Prop:=λx lo hi H Q=>∃a xs,x=.ref a/\di K H a xs/\∀p,H p=none->Q (.ref p) (upd H p (.lst (wH xs lo hi)))
def CC:FD X (O0 X.K):=by
 intro aa s σ H x v vl vu lo hi sl Q I rx hs pl pu h;obtain⟨a,xs,rfl,hx,q⟩:=h
 cases rx;obtain⟨aj,r,ht,hz⟩:=I.list hx
 have hlen:=r.length
 refine⟨"list",_,slot_list_getitem.lookup,ht.isList.typeIs,?_⟩;refine wpAny_getItem_list_slice ht.isList hs pl pu .none (by simp) ?_ (by rw [zzC]<;>omega);rw [l5,<-hlen];refine⟨.ref (zz9 s),_,I.laid (t':=s.toks) (o:=.lst (wH xs lo hi)) (λb ob q=>zzB _ q) (zzE _) ?_,rfl,q _ (I.bj.fresh (zzE _))⟩;exact⟨zzU (qR xs lo hi) hz,_,0,(r.drop (HT.lW xs.length 0 lo)).take (HT.lW xs.length xs.length hi-HT.lW xs.length 0 lo),zzX _ rfl⟩
def hX:bV X (.builtin "len") (λxs H Q=>∃p ys,xs=[.ref p]/\(di X.K H p ys\/eB X.K H p ys)/\Q (.int ys.length) H):=by
 intro aa s σ H xs us Q I r h;obtain⟨p,ys,rfl,hq,q⟩:=h
 obtain⟨u,rfl,rx⟩:=vals1 r
 cases rx;have hn:=kH
 rcases hq with hq|hq
 ·obtain⟨aj,r',pl,hz⟩:=I.list hq
  have hlen:=r'.length
  exact Calls.call_len_list pl.isList (by simp! [zzC]<;>omega) ⟨.int ys.length,H,I.tok _,⟨s.toks+1,by rw [zzC,hlen]⟩,q⟩
 ·obtain⟨aj,r',pl,hz⟩:=I.tuple hq
  have hlen:=r'.length
  exact len_tuple pl (by simp! [zzC]<;>omega) ⟨.int ys.length,H,I.tok _,⟨s.toks+1,by rw [zzC,hlen]⟩,q⟩
def n9:bV X (.builtin "len") (λxs H Q=>∃z,xs=[.str z]/\z.length<=sizeLine/\Q (.int z.length) H):=by
 intro aa s σ H xs us Q I r h;obtain⟨z,rfl,hz,q⟩:=h
 obtain⟨u,rfl,t,rfl⟩:=vals1 r
 have hn:=kH
 exact len_str (by omega) ⟨.int z.length,H,I.tok _,⟨_,rfl⟩,q⟩
def oQ:bV X (.type "list") (λxs H Q=>∃p ys,xs=[.ref p]/\(di X.K H p ys\/eB X.K H p ys)/\∀l,H l=none->Q (.ref l) (upd H l (.lst ys))):=by
 intro aa s σ H xs us Q I r h;obtain⟨p,ys,rfl,hq,q⟩:=h
 obtain⟨u,rfl,rx⟩:=vals1 r
 cases rx;have fin:∀(aj:List Value),Vals ys aj->ys.length<=sizeLine->∀(h':Heap) (c':Nat),(∀b o',s.heap.get? b=some o'->h'.get? b=some o')->
  h'.get? (zz9 s)=some {cls:=.type "list",dict:=none,data:=.seq aj.toArray c',slots:=#[]}->EP X aa σ Q (.ref (zz9 s)) {s with heap:=h'}:=λaj r' hz h' c' kp e=>
  ⟨.ref (zz9 s),_,I.laid (t':=s.toks) kp (zzE _) (show bF X.prog X.w _ h' _ (.lst ys) from⟨hz,aj,c',r',e⟩),rfl,q _ (I.bj.fresh (zzE _))⟩
 rcases hq with hq|hq
 ·obtain⟨aj,r',pl,hz⟩:=I.list hq
  have hlen:=r'.length
  obtain⟨o,ho,hc,n,hd⟩:=pl.isList
  exact call_list_seq p (.inl rfl) ho hc hd (λh' c' kp e=>fin aj r' hz h' c' kp e) (by simp! [zzC]<;>omega)
 ·obtain⟨aj,r',pl,hz⟩:=I.tuple hq
  have hlen:=r'.length
  obtain⟨o,ho,hc,n,hd⟩:=pl
  exact call_list_seq p (.inr rfl) ho hc hd (λh' c' kp e=>fin aj r' hz h' c' kp e) (by simp! [zzC]<;>omega)
def mJ:bV X (.type "tuple") (λxs H Q=>∃p ys,xs=[.ref p]/\((di X.K H p ys/\∀l,H l=none->Q (.ref l) (upd H l (.tup ys)))\/(eB X.K H p ys/\Q (.ref p) H))):=by
 intro aa s σ H xs us Q I r h;obtain⟨p,ys,rfl,h⟩:=h
 obtain⟨u,rfl,rx⟩:=vals1 r
 cases rx;rcases h with⟨hq,q⟩|⟨hq,q⟩
 ·obtain⟨aj,r',pl,hz⟩:=I.list hq
  have hlen:=r'.length
  refine call_tuple_list pl.isList (λh' kp=>?_) (by simp! [zzC]<;>omega);have I1:Inv X aa σ H {s with heap:=h'}:=I.kept (t':=s.toks) kp
  have I2:Inv X aa σ (upd H h'.objs.size (.tup ys)) {s with heap:=h'.push {cls:=.type "tuple",data:=.seq aj.toArray}}:=
   I1.laid (t':=s.toks) (λb o e=>zzB _ e) (zzE _) (show bF X.prog X.w _ _ _ (.tup ys) from⟨hz,aj,r',IsTup.new _ _⟩)
  exact⟨.ref h'.objs.size,_,I2,rfl,q _ (I1.bj.fresh (zzE _))⟩
 ·obtain⟨aj,r',pl,hz⟩:=I.tuple hq
  exact call_tuple_same pl ⟨.ref p,H,I,rfl,q⟩
def S8(K:zz8)(T:String)(x:V)(H:Hp):Prop:=match x with
 |.str _=>T="str"
 |.int _=>T="int"
 |.ref p=>(T="list"/\∃xs,di K H p xs)\/(T="tuple"/\∃o,K.lookup p=some o/\o.cls=.type "tuple"/\o.dict=none)\/
  (T="dict"/\((∃ax,H p=some (.dK ax))\/∃ax,H p=some (.dT ax)))\/(T="set"/\∃S n,H p=some (.set S n))
 |_=>False
def IA{aa:List (Addr×Obj)}{σ:St}{H:Hp}{s:Shared}{T:String}{x:V}{v:Value}(I:Inv X aa σ H s)(r:RelV x v)(ty:S8 X.K T x H):
 s.TypeIs v T/\∀a,v=.ref a->∃ob,s.heap.get? a=some ob/\ob.dict=none:=by
 cases x with
 |str z=>
  obtain⟨t,rfl⟩:=r
  cases(show T="str" from ty);exact⟨typeIs_str s z t,λ_ e=>nomatch e⟩
 |int i=>
  obtain⟨t,rfl⟩:=r
  cases(show T="int" from ty);exact⟨typeIs_int s i t,λ_ e=>nomatch e⟩
 |ref p=>
  cases r;rcases ty with⟨rfl,xs,hq⟩|⟨rfl,o,hk,hc,hd⟩|⟨rfl,hk⟩|⟨rfl,S,n,hk⟩
  ·obtain⟨aj,_,pl,_⟩:=I.list hq
   refine⟨pl.isList.typeIs,λa e=>?_⟩
   cases e;obtain⟨o,n,e,c,hd,_⟩:=pl
   exact⟨o,e,hd⟩
  ·refine⟨⟨o,I.vc p o hk,hc⟩,λa e=>?_⟩
   cases e;exact⟨o,I.vc _ o hk,hd⟩
  ·have z:∃o,s.heap.get? p=some o/\o.ExactDict:=by
    rcases hk with⟨ax,hk⟩|⟨ax,hk⟩
    ·obtain⟨_,_,_,_,o,_,_,e,ex,_⟩:=I.bj p _ hk
     exact⟨o,e,ex⟩
    ·obtain⟨_,_,_,_,o,_,_,e,ex,_⟩:=I.bj p _ hk
     exact⟨o,e,ex⟩
   obtain⟨o,e,ex⟩:=z
   refine⟨⟨o,e,ex.1⟩,λa e2=>?_⟩
   cases e2;exact⟨o,e,ex.2.1⟩
  ·obtain⟨o,_,_,_,e,ex,_⟩:=I.bj p _ hk
   refine⟨⟨o,e,ex.1⟩,λa e2=>?_⟩
   cases e2;exact⟨o,e,ex.2.1⟩
 |_=>exact zzk ty
noncomputable def Uo(K:zz8)(T:String)(r:V->List V->Hp->VK->Prop)(to:TE)(t:TA):TE:=λσ H Q=>to σ H λx H1=>S8 K T x H1/\t σ H1 λxs H2=>r x xs H2 Q
variable{o e:Expr}{es:List Expr}{to:TE}{t:TA}{name:Str}{apos bz:Pos}{T id:String}{r:V->List V->Hp->VK->Prop}
theorem vY(pa:PlainAttrs T)(slot:Slot T name id)(Vd:typeOf (.builtin id)=pure (.type "method_descriptor"))(hm:Su X id r)(ho:PE X o to)(ha:PA X (e::es) t)
 (fZ:attributeBase o name X.env (eval o X.env)=eval o X.env:=by rfl)
 (IW:((backTo bz (starEach (e::es) X.env)).all (λx=>!x.1)&&(backToKw bz (keywordEach [] X.env)).all (λx=>x.1.isSome)
  &&decide ((e::es).length+([]:List Keyword).length+(if([]:List Keyword).isEmpty then 0 else 1)<30))=true:=by rfl)
 (jo:(apos.endLine==bz.line)=true:=by rfl) (hs:starEach (e::es) X.env=(false,eval e X.env)::starEach es X.env:=by rfl) (sQ:(backTo bz (starEach es X.env)).any (·.1)=false:=by rfl):
 PE X (.Call (.Attribute o name apos) (e::es) [] bz) (Uo X.K T r to t):=by
 intro aa s σ H Q I h;refine wpAny_Call_method_late fZ IW jo rfl (bA (ho aa s σ H _ I h) λv s1 ⟨x,H1,I1,r1,ty,q1⟩=>?_)
 obtain⟨h1,h2⟩:=IA I1 r1 ty
 refine⟨T,id,pa,slot,Vd,h1,h2,?_⟩;have hA:=ha bz aa s1 σ H1 _ I1 q1
 rw [hs] at hA⊢;refine Calls.callWith_builtin (by show(false||(backTo bz (starEach es X.env)).any (·.1))=false;rw [sQ]<;>rfl) (Calls.evalArgs_plain ?_);exact bA hA λus s2 ⟨vs,H2,I2,r2,q2⟩=>hm aa s2 σ H2 x vs v us Q I2 r1 r2 q2
end
def Rp(X:Cx)(id:String)(r:V->List V->Hp->VK->Prop):Prop:=
 ∀(aa:List (Addr×Obj)) (s:Shared) (σ:St) (H:Hp) (x:V) (xs:List V) (v:Value) (us:List Value) (Q:VK),Inv X aa σ H s->RelV x v->Vals xs us->r x xs H Q->
  wpAny (model X.prog X.w) X.A (call (.builtin id) (v::us)) (EP X aa σ Q) X.xe s
theorem Vals.one:∀{x:V} {us:List Value},Vals [x] us->∃u,us=[u]/\RelV x u
 |_,_,.cons r .nil=>⟨_,rfl,r⟩
def Vals.two{x y:V}{us:List Value}(h:Vals [x,y] us):∃u v,us=[u,v]/\RelV x u/\RelV y v:=by
 cases h with
 |cons r q=>
  cases q with
  |cons q n=>cases n;exact⟨_,_,rfl,r,q⟩
theorem Vals.eraseIdx:∀{xs:List V} {us:List Value} (i:Nat),Vals xs us->Vals (xs.eraseIdx i) (us.eraseIdx i)
 |_,_,_,.nil=>.nil
 |_,_,0,.cons _ t=>t
 |_,_,i+1,.cons r t=>.cons r (Vals.eraseIdx i t)
theorem nJ{α:Type}:∀(l:List α) (i:Nat),(l.eraseIdx i).length<=l.length
 |[],_=>zzE _
 |_::_,0=>Nat.le_succ _
 |_::r,i+1=>Nat.succ_le_succ (nJ r i)
section
variable{X:Cx}{aa:List (Addr×Obj)}{σ:St}{H:Hp}{s:Shared}{l:Addr}{xs ys:List V}
def Inv.JG{aj its':List Value}{n:Nat}{f:Array Value->Array Value}{t':Nat}(I:Inv X aa σ H s)(hH:H l=some (.lst xs))
 (e:s.heap.get? l=some {cls:=.type "list",data:=.seq aj.toArray n}) (hf:f aj.toArray=its'.toArray) (hv:Vals ys its') (hz:ys.length<=sizeLine):
 Inv X aa σ (upd H l (.lst ys)) {s with heap:=s.heap.update l (Obj.mapSeq f),toks:=t'}:=by
 have q:=PySem.IsL.update e f
 rw [hf] at q;refine I.write (x:=l) (e:=l) (by rw [hH];exact trivial) (.inl rfl) (λb' u hb hu=>(Heap.get?_update_other s.heap (Obj.mapSeq f) (Ne.symm hb)).trans hu) ⟨_,q⟩ ?_
 exact⟨hz,its',_,hv,q⟩
theorem Inv.QR{aj:List Value}{t':Nat}(I:Inv X aa σ H s)(hv:Vals ys aj)(hz:ys.length<=sizeLine):
 Inv X aa σ (upd H (zz9 s) (.lst ys)) {s with heap:=s.heap.push {cls:=.type "list",data:=.seq aj.toArray},toks:=t'}:=
 I.laid (λ_ _ q=>zzB _ q) (zzE _) ⟨hz,aj,0,hv,zzX _ rfl⟩
def Inv.fresh(I:Inv X aa σ H s):H (zz9 s)=none:=I.bj.fresh (zzE _)
def Inv.Jf(I:Inv X aa σ H s)(hH:H l=some (.lst xs)):xs.length<=sizeLine/\∃(aj:List Value) (n:Nat),Vals xs aj/\xs.length=aj.length/\s.heap.get? l=some {cls:=.type "list",data:=.seq aj.toArray n}:=by
 obtain⟨z,aj,n,r,e⟩:=I.bj l _ hH
 exact⟨z,aj,n,r,r.length,e⟩
def A4{n:Nat}(h:n<=sizeLine):Builtin.List.listTooLong n=false:=by
 unfold Builtin.List.listTooLong;exact zz0 (by omega)
def Ds:V->List V->Hp->VK->Prop:=λx vs H Q=>∃l xs y,x=.ref l/\vs=[y]/\H l=some (.lst xs)/\xs.length<sizeLine/\Q .ay (upd H l (.lst (xs++[y])))
def mL:Rp X "list.append" Ds:=by
 intro aa s σ H x vs v us Q I rx rv h;obtain⟨l,xs,y,rfl,rfl,hH,hz,q⟩:=h
 cases rx;obtain⟨u,rfl,ru⟩:=rv.one
 obtain⟨z,aj,n,r,hl,e⟩:=I.Jf hH
 refine call_meets F.slot_list_append ⟨_,e,rfl⟩ F.entry_list_append (F.args_list_append_2 _ _) (PySem.list_append l aj.toArray n u (by rw [zzC];omega)) ⟨e,?_⟩;refine⟨.ay,_,I.JG (its':=aj++[u]) hH e (by simp) (r.append (.cons ru .nil)) ?_,rfl,q⟩;rw [zzM,List.length_singleton];omega
def J4:V->List V->Hp->VK->Prop:=λx vs H Q=>∃l xs i k y,x=.ref l/\vs=[.int i]/\H l=some (.lst xs)/\ -(2^63)<=i/\i<2^63/\seqIndex? i xs.length=some k/\xs[k]?=some y/\Q y (upd H l (.lst (xs.eraseIdx k)))
def BD:Rp X "list.pop" J4:=by
 intro aa s σ H x vs v us Q I rx rv h;obtain⟨l,xs,i,k,y,rfl,rfl,hH,h1,h2,hk,hy,q⟩:=h
 cases rx;obtain⟨u,rfl,ru⟩:=rv.one
 obtain⟨t,rfl⟩:=ru
 obtain⟨z,aj,n,r,hl,e⟩:=I.Jf hH
 obtain⟨w,hw,gF⟩:=r.get hy
 refine call_meets F.slot_list_pop ⟨_,e,rfl⟩ F.entry_list_pop (F.args_list_pop_2 _ _)
  (MeetsSeq.list_pop_at l aj.toArray n i t k w (fitsIndex_both h1 h2) (by rw [zzC,<-hl];exact hk) (by rw [<-Array.getElem?_toList];exact hw) (by rw [zzC];omega)) ⟨e,?_⟩
 refine⟨y,_,I.JG (its':=aj.eraseIdx k) hH e ?_ (r.eraseIdx k) ?_,gF,q⟩
 ·show aj.toArray.eraseIdxIfInBounds k=(aj.eraseIdx k).toArray
  rw [List.eraseIdxIfInBounds_toArray]
 ·have:=nJ xs k
  omega
end
end L2
namespace Att
open PySem PySem.W PySem.Calls PyProof.Rows
def iW{P:Params}{h:Heap}:∀(ns:List Int) (vs:List Value),WellAll P h vs (ns.map WData.int)->IntsAre vs ns:=by
 intro ns
 induction ns with
 |nil=>
  intro vs w;rw [List.map_nil] at w;cases w;exact .nil
 |cons n ns ih=>
  intro vs w;rw [zzF] at w;cases w with
  |cons a b=>
   cases a;exact .cons _ _ (ih _ b)
def wj{l:OpenLaw}{n:Nat}(hn:l.most=some n){P:Params}{h:Heap}{args:List WData}{vals:List Value}
 (EO:l.row.toRowW.claim.pre args=true) (OZ:WellAll P h vals args):
 ∃a vs ns,vals=[Value.ref a]/\args=[WData.list (ns.map WData.int)]/\h.get? a=some {cls:=.type "list",data:=.seq vs.toArray}/\IntsAre vs ns/\ns.length<=n:=by
 have Ol:WShape.hasAll [] args [.list .int]=true:=(pre_splitW EO).1
 have hc:l.pre.holds [] {args:=args}=true:=(pre_splitW EO).2
 obtain⟨d,r,rfl,h1,h2⟩:=hasAllW_cons Ol
 obtain rfl:=hasAllW_nil h2
 obtain⟨xs,rfl,h3⟩:=hasW_list h1
 obtain⟨ns,rfl⟩:=items_int h3
 have hlen:ns.length<=n:=by
  unfold OpenLaw.pre at hc;have h4:(WTm.not (.lt (.lit (.int (n:Int))) (.len (.arg 0)))).holds [] {args:=[.list (ns.map .int)]}=true:=by
   have h4:=(holds_andW hc).1
   rw [hn] at h4;exact h4
  have h5:=condW_of h4 (w_not (w_lt w_lit (w_len_list (w_arg rfl))))
  rw [zzl] at h5;refine Nat.le_of_not_lt λq=>?_
  have q':(n:Int)<((ns.length:Nat):Int):=by omega
  first
   |(rw [zzh q'] at h5;exact absurd h5 (by decide))
   |(simp at h5;omega)
 cases OZ with
 |cons w1 w2=>
  cases w2;cases w1 with
  |list ho fS=>exact⟨_,_,ns,rfl,rfl,ho,iW ns _ fS,hlen⟩
theorem wz(l:OpenLaw)(args:List WData):l.row.toRowW.claim.post args (.bool true) args=true:=
 postW_of (r:=l.row.toRowW) (X:=(true==true))
  (show WShape.has [] (.bool true) .bool=true by first|rfl|decide|simp [WShape.has,WShape.arms,WShape.armsAll])
  (show(WTm.eq .res (.lit (.bool true))).value [] {args:=args,res:=some (.bool true),after:=args}=some (.bool (true==true)) from w_eq_bool (w_res rfl) w_lit) rfl
def qF{l:OpenLaw}{n:Nat}{q:Program}{loose:List Str}{XP:(Str->Option Value)->Heap->Prop}{YP:World->Heap->Prop}{d:DefRec}
 (hn:l.most=some n) (Mz:d.params.defaults=[])
 (call:∀(w:World) (s₀ s₁:Shared) (mg mb:Str->Option Value) (fa:Addr) (o:Obj) (pm cd doc:Value) (a:Addr) (vs:List Value) (ns:List Int),
  Ground q loose [] XP w s₀ mg mb s₁.heap->YP w s₁.heap->
  s₁.heap.get? fa=some o->o.data=.func (docDef d.name d.params d.body d.scope pm cd doc)->s₁.heap.CodeRec cd d.name->mg d.name=some (.ref fa)->
  s₁.heap.get? a=some {cls:=.type "list",data:=.seq vs.toArray}->IntsAre vs ns->ns.length<=n->s₁.gens=#[]->
  codeAny (model l.prog w) callerA (.call (.ref fa) ⟨[.ref a],[]⟩) (λr s'=>r=.ok (.ret (.bool true))/\OldK s₁.heap s'.heap/\s'.os=s₁.os/\AllBare s'.gens) s₁):
 WalkO q loose XP YP l.row.toRowW d [] (λf vs=>PySem.call f vs):=by
 intro w s₀ s₁ mg mb G Y fa o pm cd doc dV kV ho hd AH hD hmg hg args vals as EO hlay hrd OZ hlo;obtain rfl:dV=.none:=Dflts.none hD Mz
 obtain rfl:kV=.none:=Dflts.noKw hD
 obtain⟨a,vs,ns,rfl,rfl,hobj,hints,hlen⟩:=wj hn EO OZ
 refine enter_call (codeAny_mono (call w s₀ s₁ mg mb fa o pm cd doc a vs ns G Y ho (fd_plain hd) AH hmg hobj hints hlen hg) λr s' hq=>?_)
 obtain⟨rfl,h2,h3,h4⟩:=hq
 exact⟨.inl ⟨.bool true,.bool true,[],rfl,λ_=>rfl,.bool true,wz l _,λ_=>⟨List.Pairwise.nil,λ_ hm=>(nomatch hm)⟩⟩,h2,h3,h4⟩
section
noncomputable def ledger(h:Heap)(L d:Addr):List (Addr×Obj):=(List.range h.objs.size).filterMap λa=>if a=L\/a=d then none else(h.get? a).map λo=>(a,o)
end
end Att
namespace L2
open PySem PySem.Spec PyProof.Rows
theorem nQ:∀{vs:List Value} {ns:List Int},IntsAre vs ns->Vals (ns.map V.int) vs
 |_,_,.nil=>.nil
 |_,_,.cons n t h=>.cons ⟨t,rfl⟩ (nQ h)
noncomputable def cQ(s:Stmt):Arguments:=match s with
 |.FunctionDef _ a _ _ _ _ _ _ _ _=>a
 |_=>{posonlyargs:=[],args:=[],vararg:=none,kwonlyargs:=[],kw_defaults:=[],kwarg:=none,defaults:=[]}
noncomputable def cj(s:Stmt):List Stmt:=match s with
 |.FunctionDef _ _ b _ _ _ _ _ _ _=>b
 |_=>[]
noncomputable def aL(s:Stmt):Scope:=match s with
 |.FunctionDef _ _ _ _ _ _ sc _ _ _=>sc
 |_=>{kind:=.function,names:=[],isGenerator:=false,isCoroutine:=false}
structure NW(K:zz8)(x qual:Str)(st:Stmt)(f:Addr)(fd:FuncData):Prop where
 ex:∃(oc:Value) (od:Option Addr) (kV doc pm:Value) (an:Option Addr) (fc ct:Value) (ud:Array (Option Value)),
  fd=PySem.W.fnOf x qual (cQ st) (cj st) (aL st) .none kV doc pm an fc ct/\K.lookup f=some ⟨oc,od,.func fd,ud⟩/\PySem.W.codeIn K fc qual=true
 kp:PySem.W.keepIn K (.ref f)=true
section
variable{K:zz8}
def NW.binds{x qual:Str}{st:Stmt}{f:Addr}{fd:FuncData}{ps:List Str}(F:NW K x qual st f fd)
 (h:∀(kV doc pm:Value) (an:Option Addr) (fc ct:Value) (us:List Value),us.length=ps.length->bindArgs (PySem.W.fnOf x qual (cQ st) (cj st) (aL st) .none kV doc pm an fc ct) ⟨us,[]⟩=pure (ps.zip us)):Binds K fd ps []:=by
 obtain⟨oc,od,kV,doc,pm,an,fc,ct,ud,rfl,lk,AH⟩:=F.ex
 exact .all (h kV doc pm an fc ct)
def zj{x qual:Str}{st:Stmt}{f:Addr}{oc:Value}{od an:Option Addr}{ud:Array (Option Value)}{kV doc pm fc ct:Value}(l:K.lookup f=some ⟨oc,od,.func (PySem.W.fnOf x qual (cQ st) (cj st) (aL st) .none kV doc pm an fc ct),ud⟩)
 (c:PySem.W.codeIn K fc qual=true) (k:PySem.W.keepIn K (.ref f)=true):NW K x qual st f (PySem.W.fnOf x qual (cQ st) (cj st) (aL st) .none kV doc pm an fc ct):=⟨⟨oc,od,kV,doc,pm,an,fc,ct,ud,rfl,l,c⟩,k⟩
variable{X:Cx}
theorem pv(i:Nat){x:Str}{pos:Pos}(hN:X.N[i]?=some x:=by rfl)(hv:ND X.env.scope x:=by first|exact Or.inl rfl|exact Or.inr (Or.inl rfl)|exact Or.inr (Or.inr rfl))(hd:(x==("__debug__":Str))=false:=by decide)
 (AH:(x==("__classdict__":Str))=false:=by decide):PE X (.Name x pos) (Ez i):=lD hN hv hd AH
end
def OS{A B:Prop}(h:B):if false=true then A else B:=by
 rw [if_neg zzf];exact h
def Qr{A B:Prop}(h:A):if true=true then A else B:=by
 rw [if_pos rfl];exact h
def av(H H':Hp):Prop:=∀b o,H b=some o->H' b=some o
def av.refl(H:Hp):av H H:=λ_ _ h=>h
def av.trans{H H1 H2:Hp}(a:av H H1)(b:av H1 H2):av H H2:=λc o h=>b c o (a c o h)
def av.free{H H':Hp}(e:av H H'){l:Addr}(h:H' l=Option.none):H l=Option.none:=by
 cases q:H l with
 |none=>rfl
 |some o=>
  rw [e l o q] at h;cases h
def av.seq{K:zz8}{H H':Hp}{a:Addr}{xs:List V}(e:av H H')(h:di K H a xs):di K H' a xs:=by
 rcases h with(h|⟨o,h⟩)|h
 ·exact .inl (.inl (e _ _ h))
 ·exact .inl (.inr ⟨o,e _ _ h⟩)
 ·exact .inr h
end L2
set_option maxHeartbeats 8000000
namespace L2
open PySem PySem.Spec PyProof.Rows
open PySem.W (hideAll hideAll_get of_hideAll funFrames_hide)
structure Kv(P:Program)(w:World)(outer:List Env)(H:Hp)(s:Shared)(E:XK)(a C t:Addr)(vs:List Value)(H':Hp)(B:Heap)(s':Shared):Prop where
 os:s'.os=s.os
 bare:AllBare s'.gens
 bj:gD P w H' B
 Od:Heap.FlyingW B outer a (.ref C) (.ref t) s'.heap
 tn:B.get? t=none
 tup:s'.heap.TupAt t vs
 iQ:∀b o,s.heap.get? b=some o->H b=none->b∉gM outer->B.get? b=some o
 fi:∀b o,s.heap.get? b=some o->b∉gM outer->∃o',B.get? b=some o'
 un:Un (gM outer) [] H H' s.heap s'.heap
 ends:E (.ref C) (some a) H'
noncomputable def f6(P:Program)(w:World):x9:=λouter H s E e s'=>∃a C t vs H' B,e=.ref a/\Kv P w outer H s E a C t vs H' B s'
section
variable{P:Program}{w:World}{K:zz8}{mg:Str->Option Value}{base:Heap}{N:List Str}{qual:Str}{scope:Scope}{f:Addr}{cd:Value}{A:Around}{outer:List Env}{s0:Shared}{H0:Hp}{E:XK}
def pG{X:Cx}{aa:List (Addr×Obj)}{σ:St}{H:Hp}{s:Shared}(I:Inv X aa σ H s){b:Addr}{o:Obj}(hl:X.env.locals=X.s₀.heap.objs.size)(q:X.s₀.heap.get? b=some o)(hb:b∉X.fs):b∉gM X.stack:=λz=>by
 rcases zzm.mp (I.kQ b z) with e|e
 ·rw [hl] at e;exact absurd (zzO q) (by rw [e];exact Nat.lt_irrefl _)
 ·exact hb e
def Lu:Passes (f6 P w) (dj (f6 P w) P w K mg base N qual scope f cd A outer s0 H0 E) E:=by
 rintro aa σ H s e s' I ⟨a,C,t,vs,H',B,rfl,F⟩
 have nx:∀b:Addr,b∉(dj (f6 P w) P w K mg base N qual scope f cd A outer s0 H0 E).ex:=λb z=>nomatch (show b∈([]:List Addr) from z)
 have iQ:∀b o,s0.heap.get? b=some o->H0 b=none->b∉gM outer->B.get? b=some o:=λb o q n hb=>
  F.iQ b o (I.base.keep b o q n hb (nx b)) (I.base.free b o q n (nx b)) (pG I rfl q hb)
 have fi:∀b o,s0.heap.get? b=some o->b∉gM outer->∃o',B.get? b=some o':=λb o q hb=>by
  obtain⟨o1,q1⟩:=I.base.there b o q (nx b)
  exact F.fi b o1 q1 (pG I rfl q hb)
 refine wpAny_leaves_onW I.ok.frames rfl F.Od λh' x1 x2=>⟨a,C,t,vs,H',B,rfl,?_⟩
 have slot:∀b o,s0.heap.get? b=some o->H0 b=none->b∈gM outer->∃sl,h'.get? b=some {o with slots:=sl}:=λb o q n hb=>by
  obtain⟨sl,q1⟩:=I.base.slot b o q n hb (nx b)
  obtain⟨sl2,q2⟩:=F.un.any q1 (I.base.free b o q n (nx b)) (λz=>nomatch z)
  obtain⟨_,o',q3,hd⟩:=F.Od.2.2.1.mem (b:=b) (zz1.mpr (let⟨v,h1,h2⟩:=zz1.mp hb;⟨v,.tail _ h1,h2⟩))
  rw [q2] at q3;cases q3;obtain⟨sl3,q4⟩:=x2 b _ q2 hd
  exact⟨sl3,q4⟩
 refine⟨F.os.trans I.os,F.bare,F.bj,x1,F.tn,F.tup.of_slots x2,iQ,fi,⟨λb o q n hb _=>x1.1 _ _ (iQ b o q n hb),λb o q n hb _=>slot b o q n hb,λb o q n _=>?_,λb o q _=>?_,λb xs q=>F.un.iV _ _ (I.base.iV _ _ q),λb o u q=>F.un.iF _ _ _ (I.base.iF _ _ _ q),λb ps q=>?_⟩,F.ends⟩
 ·obtain⟨sl,q1⟩:=I.base.any q n (nx b)
  exact F.un.free b _ q1 (I.base.free b o q n (nx b)) (λz=>nomatch z)
 ·by_cases hb:b∈gM outer
  ·obtain⟨sl,q1⟩:=slot b o q (I.ok.H9 b hb) hb
   exact⟨_,q1⟩
  ·obtain⟨o',q1⟩:=fi b o q hb
   exact⟨o',x1.1 _ _ q1⟩
 ·obtain⟨m1,q1⟩:=I.base.iE b ps q
  obtain⟨m2,q2⟩:=F.un.iE b _ q1
  exact⟨m1++m2,by rw [<-Array.append_assoc];exact q2⟩
def Jo{aa:List (Addr×Obj)}{σ:St}{H:Hp}{s:Shared}{h1:Heap}{e C:Addr}{us:List Value}(I:Inv (dj (f6 P w) P w K mg base N qual scope f cd A outer s0 H0 E) aa σ H s)
 (hx:Heap.MadeExcOf s.heap h1 e (.ref C) us) (hE:E (.ref C) (some e) H):(dj (f6 P w) P w K mg base N qual scope f cd A outer s0 H0 E).xe (.ref e) {s with heap:=h1}:=by
 have nx:∀b:Addr,b∉(dj (f6 P w) P w K mg base N qual scope f cd A outer s0 H0 E).ex:=λb z=>nomatch (show b∈([]:List Addr) from z)
 have Gu:∀env∈(dj (f6 P w) P w K mg base N qual scope f cd A outer s0 H0 E).stack,∀b,env.frame=some b->b∈gM (dj (f6 P w) P w K mg base N qual scope f cd A outer s0 H0 E).stack:=λenv he b hb=>zz1.mpr ⟨env,he,hb⟩
 refine wpAny_leaves_madeW (h:=s.heap) I.ok.frames rfl (λb o q=>of_hideAll _ q) (funFrames_hide I.stack Gu) hx λh' t x1 x2 x3 x4=>⟨e,C,t,us,H,hideAll s.heap (gM (dj (f6 P w) P w K mg base N qual scope f cd A outer s0 H0 E).stack),rfl,?_⟩
 have iQ:∀b o,s0.heap.get? b=some o->H0 b=none->b∉gM outer->(hideAll s.heap (gM (dj (f6 P w) P w K mg base N qual scope f cd A outer s0 H0 E).stack)).get? b=some o:=λb o q n hb=>
  hideAll_get _ (I.base.keep b o q n hb (nx b)) (pG I rfl q hb)
 have fi:∀b o,s0.heap.get? b=some o->b∉gM outer->∃o',(hideAll s.heap (gM (dj (f6 P w) P w K mg base N qual scope f cd A outer s0 H0 E).stack)).get? b=some o':=λb o q hb=>by
  obtain⟨o1,q1⟩:=I.base.there b o q (nx b)
  exact⟨o1,hideAll_get _ q1 (pG I rfl q hb)⟩
 have slot:∀b o,s0.heap.get? b=some o->H0 b=none->b∈gM outer->∃sl,h'.get? b=some {o with slots:=sl}:=λb o q n hb=>by
  obtain⟨sl,q1⟩:=I.base.slot b o q n hb (nx b)
  obtain⟨_,o',q3,hd⟩:=I.stack.mem (b:=b) (zz1.mpr (let⟨v,h1,h2⟩:=zz1.mp hb;⟨v,.tail _ h1,h2⟩))
  rw [q1] at q3;cases q3;obtain⟨sl3,q4⟩:=x4 b _ (hx.keeps _ _ q1) hd
  exact⟨sl3,q4⟩
 refine⟨I.os,I.bare,λb o q=>?_,x1,x3,x2,iQ,fi,⟨λb o q n hb _=>x1.1 _ _ (iQ b o q n hb),λb o q n hb _=>slot b o q n hb,λb o q n _=>I.base.free b o q n (nx b),λb o q _=>?_,I.base.iV,I.base.iF,I.base.iE⟩,hE⟩
 ·refine(I.bj b o q).eU (λc v hc r=>hideAll_get _ r λz=>?_) (λ_ q=>q) λ_ _ q=>q
  have z':=I.pW c z
  rcases hc with rfl|hc
  ·rw [q] at z';cases z'
  ·rw [hc] at z';cases z'
 ·by_cases hb:b∈gM outer
  ·obtain⟨sl,q1⟩:=slot b o q (I.ok.H9 b hb) hb
   exact⟨_,q1⟩
  ·obtain⟨o',q1⟩:=fi b o q hb
   exact⟨o',x1.1 _ _ q1⟩
end
def iH{P:Program}{w:World}{H:Hp}{h:Heap}{a:Addr}{o:HO}(x:bF P w H h a o):∃o',h.get? a=some o':=by
 cases o with
 |lst xs=>obtain⟨_,_,_,_,e⟩:=x;exact⟨_,e⟩
 |tup xs=>obtain⟨_,_,_,o,e,_⟩:=x;exact⟨_,e⟩
 |dK ax=>obtain⟨_,_,_,_,o,_,_,e,_⟩:=x;exact⟨_,e⟩
 |dT ax=>obtain⟨_,_,_,_,o,_,_,e,_⟩:=x;exact⟨_,e⟩
 |set S n=>obtain⟨o,_,_,_,e,_⟩:=x;exact⟨_,e⟩
 |ins C dx fs=>obtain⟨_,_,_,e,_⟩:=x;exact⟨_,e⟩
 |own y=>exact x
 |xd fs=>obtain⟨_,⟨_,_,_,e,_⟩,_⟩:=x;exact⟨_,e⟩
 |md lo hi=>obtain⟨_,_,_,e⟩:=x;exact⟨_,e⟩
 |cN ob u=>obtain⟨e,_⟩:=x;exact⟨_,e⟩
 |fX ps=>exact⟨_,x⟩
 |met f y=>exact⟨_,x⟩
 |ext φ=>exact x.2.1
noncomputable def Hm(C:Addr)(E:XK)(ta:TA):TS:=λ_ σ H=>ta σ H λvs H1=>vs.length<=sizeLine/\∀e,H1 e=none->E (.ref C) (some e) H1
section
variable{P:Program}{w:World}{K:zz8}{mg:Str->Option Value}{base:Heap}{N:List Str}{qual:Str}{scope:Scope}{f:Addr}{cd:Value}{A:Around}{outer:List Env}{s0:Shared}{H0:Hp}{E:XK}
theorem yt{x:Str}{C:Addr}{Bn newId Hn:String}{bm:List Value}{e₀:Expr}{rest:List Expr}{np bz pos:Pos}{ta:TA}(hg:Gl (dj (f6 P w) P w K mg base N qual scope f cd A outer s0 H0 E) x)(O:OwnCls x C bm newId mg base)(FB:ExcBaseFacts Bn newId Hn bm)
 (ha:PA (dj (f6 P w) P w K mg base N qual scope f cd A outer s0 H0 E) (e₀::rest) ta)
 (he:starEach (e₀::rest) (dj (f6 P w) P w K mg base N qual scope f cd A outer s0 H0 E).env=(false,eval e₀ (dj (f6 P w) P w K mg base N qual scope f cd A outer s0 H0 E).env)::starEach rest (dj (f6 P w) P w K mg base N qual scope f cd A outer s0 H0 E).env:=by rfl)
 (sQ:(backTo bz (starEach rest (dj (f6 P w) P w K mg base N qual scope f cd A outer s0 H0 E).env)).any (·.1)=false:=by rfl) (hd:(x==("__debug__":Str))=false:=by decide):
 PS (dj (f6 P w) P w K mg base N qual scope f cd A outer s0 H0 E) (.Raise (some (.Call (.Name x np) (e₀::rest) [] bz)) none pos) (Hm C E ta):=by
 intro aa s σ H D I h;obtain⟨tl,Nn,nm,q,bs,hdct,sn,sub,ab,col,dd,k0,k1,k2,k3,k5,mN,hC,hN,hni,T⟩:=O.obj
 refine wpAny_Raise_call_subT (C:=C) (nm:=nm) (q:=q) (N:=Nn) (bs:=bs) (bm:=tl) (hdct:=hdct) (sn:=sn) (sub:=sub) (ab:=ab) (col:=col) (dd:=dd) (k0:=k0) (k1:=k1) (k2:=k2) (k3:=k3) (k5:=k5)
  FB (mN:=mN) (T.hasType FB.hasBase) (I.ok.hd rfl) (by rw [he];show(false||(backTo bz (starEach rest (dj (f6 P w) P w K mg base N qual scope f cd A outer s0 H0 E).env)).any (·.1))=false;rw [sQ];rfl) hni (jb I hg O.bound ⟨rfl,?_⟩ hd)
 have h2:=ha bz aa s σ H _ I h
 rw [he] at h2⊢;refine Calls.evalArgs_plain (wpAny_mono h2 (λus s2 ⟨vs,H1,I1,rv,hl,hE⟩=>?_) λ_ _ y=>y)
 refine⟨rfl,by rw [<-rv.length];exact hl,I1.bk _ _ hC,hN.keeps I1.bk,T.keeps I1.bk,λh1 e hx=>Jo I1 hx (hE e ?_)⟩
 cases z:H1 e with
 |none=>rfl
 |some o=>
  obtain⟨o',iD⟩:∃o',s2.heap.get? e=some o':=by
   exact iH (I1.bj _ _ z)
  rw [hx.new] at iD;cases iD
end
noncomputable def Q4(a C:Addr):HO:=.ext λh=>∃ob vs,h.get? a=some ob/\ob.cls=.ref C/\ob.data=.fields vs
section
variable{P:Program}{w:World}
def Kv.fresh{outer:List Env}{H:Hp}{s s':Shared}{E:XK}{a C t:Addr}{vs:List Value}{H':Hp}{B:Heap}(F:Kv P w outer H s E a C t vs H' B s'):H' a=none:=by
 cases z:H' a with
 |none=>rfl
 |some o=>
  obtain⟨o',iD⟩:=iH (F.bj _ _ z)
  rw [F.Od.2.1] at iD;cases iD
end
noncomputable def bW(env:Env)(ys:List Str):List (Str×Addr):=ys.map λy=>(y,(env.cells.lookup y).getD 0)
noncomputable def Az(σ:St)(is:List Nat):St:=is.map λi=>(σ[i]?).join
noncomputable def kU(scope:Scope)(x:Str):Bool:=scope.names.lookup x==some .cell
theorem tD{x:Str}{c:Addr}:∀(names:List (Str×NameKind)) (n:Nat) (acc:List (Str×Addr)),(x,c)∈cellsFrom n names acc->(x,c)∈acc\/(x,NameKind.cell)∈names/\n<=c
 |[],n,acc,h=>by rw [cellsFrom.eq_def] at h;exact .inl h
 | (y,k)::r,n,acc,h=>by
  rw [cellsFrom.eq_def] at h;dsimp only at h;split at h
  ·rename_i hk;cases eq_of_beq hk;rcases tD r (n+1) _ h with z|⟨z1,z2⟩
   ·rcases zzm.mp z with z|z
    ·cases z;exact .inr ⟨zzP ..,zzE _⟩
    ·exact .inl z
   ·exact .inr ⟨zzI _ z1,Nat.le_of_succ_le z2⟩
  ·rcases tD r n _ h with z|⟨z1,z2⟩
   ·exact .inl z
   ·exact .inr ⟨zzI _ z1,z2⟩
theorem pI{x:Str}{c:Addr}:∀(names:List (Str×NameKind)) (n:Nat) (acc:List (Str×Addr)),(cellsFrom n names acc).lookup x=some c->acc.lookup x=some c\/(x,NameKind.cell)∈names/\n<=c
 |[],n,acc,h=>by rw [cellsFrom.eq_def] at h;exact .inl h
 | (y,k)::r,n,acc,h=>by
  rw [cellsFrom.eq_def] at h;dsimp only at h;split at h
  ·rename_i hk;cases eq_of_beq hk;rcases pI r (n+1) _ h with z|⟨z1,z2⟩
   ·rw [zz5] at z;cases e:x==y with
    |true=>rw [e] at z;cases z;cases eq_of_beq e;exact .inr ⟨zzP ..,zzE _⟩
    |false=>rw [e] at z;exact .inl z
   ·exact .inr ⟨zzI _ z1,Nat.le_of_succ_le z2⟩
  ·rcases pI r n _ h with z|⟨z1,z2⟩
   ·exact .inl z
   ·exact .inr ⟨zzI _ z1,z2⟩
theorem oz{x:Str}:∀(names:List (Str×NameKind)) (n:Nat) (acc:List (Str×Addr)),(x,NameKind.cell)∉names->(cellsFrom n names acc).lookup x=acc.lookup x
 |[],n,acc,_=>by rw [cellsFrom.eq_def]
 |(y,k)::r,n,acc,h=>by
  rw [cellsFrom.eq_def];dsimp only;have hr:(x,NameKind.cell)∉r:=λz=>h (zzI _ z)
  split
  ·rename_i hk;cases eq_of_beq hk;rw [oz r (n+1) _ hr,zz5];cases e:x==y with
   |true=>cases eq_of_beq e;exact absurd (zzP ..) h
   |false=>rfl
  ·exact oz r n acc hr
theorem IC{x:Str}{c:Addr}:∀(names:List (Str×NameKind)) (n:Nat) (acc:List (Str×Addr)),(x,c)∈cellsFrom n names acc->(∀p∈acc,p.2≠c)->(x,c)∈cellsFrom n names []
 |names,n,acc,h,ha=>by
  have key:∀(names:List (Str×NameKind)) (n:Nat) (acc b:List (Str×Addr)),(x,c)∈cellsFrom n names (b++acc)->(∀p∈acc,p.2≠c)->(x,c)∈cellsFrom n names b:=by
   intro names
   induction names with
   |nil=>
    intro n acc b h ha;rw [cellsFrom.eq_def] at h⊢;rcases List.mem_append.mp h with z|z
    ·exact z
    ·exact absurd rfl (ha _ z)
   |cons y r ih=>
    intro n acc b h ha;obtain⟨y,k⟩:=y
    rw [cellsFrom.eq_def] at h⊢;dsimp only at h⊢;split at h
    ·rename_i hk;rw [if_pos hk];exact ih (n+1) acc ((y,n)::b) h ha
    ·rename_i hk;rw [if_neg hk];exact ih n acc b h ha
  exact key names n acc [] h ha
theorem oF{x y:Str}{c:Addr}:∀(names:List (Str×NameKind)) (n:Nat) (acc:List (Str×Addr)),(∀p∈acc,p.2<n)->n<=c->(x,c)∈cellsFrom n names acc->(y,c)∈cellsFrom n names acc->x=y
 |[],n,acc,ha,hc,h1,h2=>by
  rw [cellsFrom.eq_def] at h1;exact absurd (ha _ h1) (Nat.not_lt.mpr hc)
 | (z,k)::r,n,acc,ha,hc,h1,h2=>by
  rw [cellsFrom.eq_def] at h1 h2;dsimp only at h1 h2;split at h1
  ·rename_i hk;rw [if_pos hk] at h2;have TB:∀p∈(z,n)::acc,p.2<n+1:=λp hp=>by
    rcases zzm.mp hp with q|q
    ·rw [q];exact Nat.lt_succ_self _
    ·exact Nat.lt_succ_of_lt (ha p q)
   by_cases hn:n+1<=c
   ·exact oF r (n+1) _ TB hn h1 h2
   ·have one:∀{w:Str},(w,c)∈cellsFrom (n+1) r ((z,n)::acc)->w=z:=λ{w} h=>by
     rcases tD r (n+1) _ h with q|q
     ·rcases zzm.mp q with q|q
      ·cases q;rfl
      ·exact absurd (ha _ q) (Nat.not_lt.mpr hc)
     ·exact absurd q.2 hn
    rw [one h1,one h2]
  ·rename_i hk;rw [if_neg hk] at h2;exact oF r n acc ha hc h1 h2
def ui{M:Model}{A:Around}{E:Value->Shared->Prop}{s:Shared}{scope:Scope}{g:Addr}{cl:List (Str×Addr)}{qual:Str}{around:Env}{Q:Env->Shared->Prop}
 (h:Q (newEnv scope (zz9 s) g (cellsFrom ((zz9 s)+1) scope.names cl) qual none .none (some around) builtinsNs) {s with heap:=pushCells (s.heap.push {cls:=.type "dict",data:=.dict #[]}) scope.names}):
 wpAny M A (newFunctionEnv scope g cl [] qual none .none (some around)) Q E s:=by
 unfold newFunctionEnv;refine zzA (wpAny_alloc ?_);refine zzA (wpAny_forIn_list _ (λrest b s'=>s'={s with heap:=s'.heap}/\pushCells s'.heap rest=pushCells (s.heap.push {cls:=.type "dict",data:=.dict #[]}) scope.names/\cellsFrom (zz9 s') rest b=cellsFrom ((zz9 s)+1) scope.names cl) _ (λx rest b s' hI=>?_) (λb s' hI=>?_) scope.names cl ⟨rfl,rfl,by rw [Heap.size_push]⟩)
 ·obtain⟨h1,h2,h3⟩:=hI
  obtain⟨nm,k⟩:=x
  rw [pushCells.eq_def] at h2;rw [cellsFrom.eq_def] at h3;dsimp only at h2 h3⊢;split
  ·rename_i hk;rw [if_pos hk] at h2 h3;refine zzA (wpAny_alloc (zzG ⟨by rw [h1],h2,?_⟩));dsimp only;rw [Heap.size_push];exact h3
  ·rename_i hk;rw [if_neg hk] at h2 h3;exact zzG ⟨h1,h2,h3⟩
 ·obtain⟨h1,h2,h3⟩:=hI
  rw [pushCells.eq_def] at h2;rw [cellsFrom.eq_def] at h3;dsimp only at h2 h3;subst h3;rw [h1,h2];exact zzA (zzG (zzG h))
noncomputable def bB(X:Cx)(N':List Str)(scope:Scope)(cl:List (Str×Addr))(fp:List Addr)(s₁:Shared)(H₁:Hp)(C:Addr):Cx where
 prog:=X.prog
 w:=X.w
 K:=X.K
 mg:=X.mg
 base:=X.base
 A:=X.A
 N:=N'
 s₀:=s₁
 H₀:=H₁
 env:=compEnvC scope (cellsFrom (C+1) scope.names cl) C X.env
 outer:=X.stack
 stack:=X.stack
 ex:=fp
 fn:=kU scope
 calm:=true
 pn:=[]
 xe:=λ_ _=>False
theorem fj{env:Env}:∀{ys:List Str},(ys.all λy=>(env.cells.lookup y).isSome)=true->∀(x:Str) (c:Addr),(bW env ys).lookup x=some c->env.cells.lookup x=some c
 |[],_,_,_,h=>by simp [bW] at h
 |y::ys,ha,x,c,h=>by
  rw [List.all_cons,zza] at ha;have ih:=fj (env:=env) ha.2 x c
  unfold bW at h ih;rw [zzF,zz5] at h;cases e:x==y with
  |true=>
   rw [e] at h;have U9:x=y:=zzy.mp e
   subst U9;obtain⟨c',qf⟩:=zzp.mp ha.1
   rw [qf] at h⊢;exact h
  |false=>
   rw [e] at h;exact ih h
theorem lN{env:Env}:∀{ys:List Str} {x:Str},x∈ys->∃c,(bW env ys).lookup x=some c
 |[],_,h=>nomatch h
 |y::ys,x,h=>by
  unfold bW;rw [zzF,zz5];cases e:x==y with
  |true=>exact⟨_,rfl⟩
  |false=>
   have hx:x∈ys:=by
    rcases zzm.mp h with z|z
    ·rw [z] at e;simp at e
    ·exact z
   exact lN (env:=env) hx
def iG{scope:Scope}{env:Env}{x:Str}{k:NameKind}(h:(relabel scope env).names.lookup x=some k)(hk:k=.cell\/k=.free):∃k',(x,k')∈scope.names/\(k'=.cell\/k'=.free):=by
 have hm:=PySem.mem_of_lookup h
 unfold relabel at hm;obtain⟨⟨n,k0⟩,h0,e⟩:=zzx.mp hm
 dsimp only at e;split at e
 ·rename_i hc;cases e;refine⟨k0,h0,.inr ?_⟩;rw [zza,zza] at hc;exact zzy.mp hc.1.1
 ·cases e;exact⟨k,h0,hk⟩
structure dQ(X:Cx)(scope:Scope)(xs ys:List Str)(is:List Nat):Prop where
 kind:scope.kind=.function
 OY:closureFor scope X.env=pure (bW X.env ys)
 cells:(ys.all λy=>(X.env.cells.lookup y).isSome)=true
 L5:(scope.names.all λy=>(decide (y.2≠.cell)||!ys.contains y.1)&&(decide (y.2≠.free)||ys.contains y.1))=true
 own:(scope.names.all λy=>decide (y.2≠.cell)||decide (scope.names.lookup y.1=some .cell))=true
 names:(scope.names.all λy=>decide (y.2≠.local)||decide (scope.names.lookup y.1=some .local))=true
 slots:is.map (λi=>X.N[i]?)=ys.map some
 kX:(ys.all λy=>decide (X.env.kindOf y=some .cell))=true
 kY:(ys.all λy=>decide ((relabel scope X.env).names.lookup y=some .cell))=true
section
variable{X:Cx}{aa:List (Addr×Obj)}{σ:St}{H:Hp}{s:Shared}{scope:Scope}{xs ys:List Str}{is:List Nat}
def dQ.iX(S:dQ X scope xs ys is){x:Str}(h:(x,NameKind.cell)∈scope.names):scope.names.lookup x=some .cell/\x∉ys:=by
 have q:=zzT.mp S.own _ h
 have c:=zzT.mp S.L5 _ h
 rw [zza,zzt] at c;rw [zzt] at q;refine⟨zzY (q.resolve_left λz=>zzY z rfl),λhy=>?_⟩
 rcases c.1 with z|z
 ·exact zzY z rfl
 ·rw [zzn.mpr hy] at z;cases z
def fg(I:Inv X aa σ H s)(S:dQ X scope xs ys is){C:Addr}(hC:(zz9 s)<=C){x:Str}{c:Addr}(h:(cellsFrom (C+1) scope.names (bW X.env ys)).lookup x=some c):
 (X.env.cells.lookup x=some c/\c<(zz9 s)/\x∈ys)\/((x,NameKind.cell)∈scope.names/\C+1<=c):=by
 rcases pI _ _ _ h with z|z
 ·have e:=fj S.cells x c z
  obtain⟨v,q⟩:=I.cell x c e
  refine .inl ⟨e,q.lt,?_⟩;have hm:=PySem.mem_of_lookup z
  unfold bW at hm;obtain⟨y,hy,e2⟩:=zzx.mp hm
  cases e2;exact hy
 ·exact .inr z
def xm(I:Inv X aa σ H s)(hc:X.calm=true)(S:dQ X scope xs ys is){N':List Str}{fp:List Addr}{C:Addr}(hC:(zz9 s)<=C)(hf:∀b∈fp,fO X aa H b)(Hu:∀b∈fp,b<(zz9 s)):
 (bB X N' scope (bW X.env ys) fp s H C).Ok where
 mod:=I.ok.mod
 kind:=S.kind
 glob:=I.ok.glob
 blt:=I.ok.blt
 above:=hC
 inj:=λx y c h1 h2=>by
  rcases fg I S hC h1 with z1|z1
  ·rcases fg I S hC h2 with z2|z2
   ·exact I.ok.inj x y c z1.1 z2.1
   ·exact absurd z1.2.1 (Nat.not_lt.mpr (zzU hC (Nat.le_of_succ_le z2.2)))
  ·refine oF scope.names (C+1) (bW X.env ys) (λp hp=>?_) z1.2 (PySem.mem_of_lookup h1) (PySem.mem_of_lookup h2);unfold bW at hp;obtain⟨y,hy,rfl⟩:=zzx.mp hp
   obtain⟨c',qf⟩:=zzp.mp (zzT.mp S.cells y hy)
   obtain⟨v,q⟩:=I.cell y c' qf
   dsimp only;rw [qf];exact Nat.lt_succ_of_le (zzU (Nat.le_of_lt q.lt) hC)
 has:=λx hx=>by
  have oX:(relabel scope X.env).names.lookup x=some .cell\/(relabel scope X.env).names.lookup x=some .free:=hx
  have:∃k',(x,k')∈scope.names/\(k'=.cell\/k'=.free):=by
   rcases oX with z|z
   ·exact iG z (.inl rfl)
   ·exact iG z (.inr rfl)
  obtain⟨k',hm,hk⟩:=this
  have cv:=zzT.mp S.L5 _ hm
  rw [zza,zzt,zzt] at cv;rcases hk with z|z
  ·subst z;exact zzp.mp (PySem.W.cellsFrom_some _ _ _ (.inl (S.iX hm).1))
  ·rcases cv.2 with q|q
   ·exact absurd z (zzY q)
   ·refine zzp.mp (PySem.W.cellsFrom_some _ _ _ (.inr ?_));obtain⟨c,e⟩:=lN (env:=X.env) (zzn.mp q)
    rw [e];rfl
 Ot:=λx c h e=>by
  have hm:(x,NameKind.cell)∈scope.names:=PySem.mem_of_lookup (eq_of_beq h)
  rcases fg I S hC e with z|z
  ·exact absurd z.2.2 (S.iX hm).2
  ·exact zzU hC (Nat.le_of_succ_le z.2)
 hd:=λ_=>I.ok.hd hc
 frames:=I.ok.frames
 LS:=.inl rfl
 exf:=λb hb=>⟨zzb (zzW (Hu b hb) hC),λx c h=>(fg I S hC h).elim (λz=>(hf b hb).2.2.2.2.1 x c z.1) λz q=>absurd (Hu b hb) (Nat.not_lt.mpr (q▸zzU hC (Nat.le_of_succ_le z.2)))⟩
 bs:=λb o e=>I.bs b o e
 FP:=zzU I.ok.FP I.sz
 D9:=λb o e hb=>by
  rcases(hf b hb).2.2.2.1 with z|z
  ·exact I.ok.D9 b o e z
  ·exact absurd (zzW (zzO e) (zzU I.ok.FP z)) (Nat.lt_irrefl _)
 IP:=λb hb hs=>(zzm.mp (I.kQ b hs)).elim (hf b hb).2.1 (hf b hb).2.2.1
 l7:=I.stack
 H9:=λb hb=>I.pW b hb
theorem vZ{N:List Str}:∀{is:List Nat} {ys:List Str},is.map (λi=>N[i]?)=ys.map some->∀(j:Nat) (y:Str) (v:V),ys[j]?=some y->(Az σ is)[j]?=some (some v)->∃i:Nat,N[i]?=some y/\σ[i]?=some (some v)
 |[],[],_,_,_,_,h,_=>by simp at h
 |[],_::_,h,_,_,_,_,_=>by simp at h
 |_::_,[],h,_,_,_,_,_=>by simp at h
 |i::is,y0::ys,h,0,y,v,h1,h2=>by
  rw [zzF,zzF] at h;have h0:=(List.cons.inj h).1
  simp! [List.getElem?_cons_zero,Option.some.injEq] at h1;subst h1;refine⟨i,h0,?_⟩;unfold Az at h2;simp! [zzF,List.getElem?_cons_zero,Option.some.injEq] at h2;exact Option.join_eq_some_iff.mp h2
 |i::is,y0::ys,h,j+1,y,v,h1,h2=>by
  rw [zzF,zzF] at h;refine vZ (is:=is) (ys:=ys) (List.cons.inj h).2 j y v (by simpa using h1) ?_;unfold Az at h2⊢
  simpa using h2
noncomputable abbrev lobj(aj:List Value)(n:Nat):Obj:={cls:=.type "list",data:=.seq aj.toArray n}
def xW(aj:List Value)(n:Nat)(v:Option Value):(lobj aj n).data≠.cell v:=λz=>by cases z
noncomputable abbrev tests(ifs:List Expr)(env:Env):Sem Bool:=forIn ifs true λc r=>if r=true then do let ok<-isTrue c env (eval c env);pure (ForInStep.yield ok) else pure (ForInStep.yield r)
theorem pq{prog:Program}{w:World}{A:Around}{R:Result->Shared->Prop}{s:Shared}{elt target iter:Expr}{ifs:List Expr}{scope:Scope}{pos:Pos}{it acc:Value}{env:Env}(I:Nat->Shared->Prop)
 (turn:∀n s,I n s->wpAny (model prog w) A (pyNext it) (λr s₁=>match r with
  |none=>R (.ok .next) s₁
  |some v=>wpAny (model prog w) A (letOwnedTupleGo target it v) (λ_ s₁'=>wpAny (model prog w) A (assign target env v) (λ_ s₂=>
   wpAny (model prog w) A (tests ifs env) (λok s₃=>if ok=true then wpAny (model prog w) A (eval elt env) (λx s₄=>
    wpAny (model prog w) A (call (.builtin "list.append") [acc,x]) (λ_ s₅=>∃m,m<n/\I m s₅) (notedBy (model prog w) A env λe s'=>R (.error e) s') s₄) (notedBy (model prog w) A env λe s'=>R (.error e) s') s₃
    else∃m,m<n/\I m s₃) (notedBy (model prog w) A env λe s'=>R (.error e) s') s₂)
   (notedBy (model prog w) A env λe s'=>R (.error e) s') s₁') (notedBy (model prog w) A env λe s'=>R (.error e) s') s₁) (notedBy (model prog w) A env λe s'=>R (.error e) s') s)
 (n:Nat) (h:I n s):
 codeAny (model prog w) A (.compLoop (.ListComp elt [⟨target,iter,ifs,0⟩] scope pos) 0 it acc env) R s:=by
 refine codeAny_loop rfl I (λn s hI=>?_) n h;show wpAny _ A ((compTurn (.ListComp elt [⟨target,iter,ifs,0⟩] scope pos) 0 it acc env).onRaise (λx=>do noteFrame x env;theTreesLotGoes x)) _ _ s;refine wpAny_noted ?_;rw [compTurn_list];refine zzA (wpAny_standAt (zzA (wpAny_mono (turn n s hI) (λr s₁ h₁=>?_) λ_ _ h'=>h')))
 cases r with
 |none=>exact zzG h₁
 |some v=>
  refine zzA (wpAny_mono h₁ (λ_ s₁' h₁'=>?_) λ_ _ h'=>h')
  refine zzA (wpAny_mono h₁' (λ_ s₂ h₂=>zzA (wpAny_mono h₂ (λok s₃ h₃=>?_) λ_ _ h'=>h')) λ_ _ h'=>h')
  cases ok with
  |false=>exact zzG ⟨rfl,h₃⟩
  |true=>exact zzA (zzA (wpAny_mono h₃ (λx s₄ h₄=>zzA (wpAny_mono h₄ (λ_ s₅ h₅=>zzG (zzG ⟨rfl,h₅⟩)) λ_ _ h'=>h')) λ_ _ h'=>h'))
def PN(X:Cx)(ifs:List Expr)(t:TT):Prop:=
 ∀(aa:List (Addr×Obj)) (s:Shared) (σ:St) (H:Hp) (Q:Bool->Hp->Prop),Inv X aa σ H s->t σ H Q->wpAny (model X.prog X.w) X.A (tests ifs X.env) (TP X aa σ Q) X.xe s
def v7{X:Cx}:PN X [] (λ_ H q=>q true H):=λ_ _ _ H _ I h=>wpAny_tests_nil ⟨H,I,h⟩
def uW{X:Cx}{e:Expr}{t:TT}(h:PT X e t):PN X [e] t:=λaa s σ H Q I z=>wpAny_tests_one (h aa s σ H Q I z)
def Mo(J:It)(k:Nat)(g:TG)(te:TE)(fs:St)(Q:VK)(H1:Hp):Prop:=∃(n:Nat) (W:Nat->List V->St->Hp->Prop),W 0 [] (List.replicate k none++fs) H1/\
 ∀i ys σ' H',W i ys σ' H'->ys.length<sizeLine/\((J.stop i H'/\∀p,H' p=none->Q (.ref p) (upd H' p (.lst ys)))\/
  (J.go i H'/\i<n/\∀x lC,J.Kn i H' x lC->g x σ' lC λσ2 H2=>te σ2 H2 λy H3=>W (i+1) (ys++[y]) σ2 H3))
noncomputable def yD(wi:TI)(k:Nat)(g:TG)(te:TE)(is:List Nat):TE:=λσ H Q=>wi σ H λJ H1=>Mo J k g te (Az σ is) Q H1
def Dl(J:It)(k:Nat)(g:TG)(tt:TT)(te:TE)(fs:St)(Q:VK)(H1:Hp):Prop:=∃(n:Nat) (W:Nat->List V->St->Hp->Prop),W 0 [] (List.replicate k none++fs) H1/\
 ∀i ys σ' H',W i ys σ' H'->ys.length<sizeLine/\((J.stop i H'/\∀p,H' p=none->Q (.ref p) (upd H' p (.lst ys)))\/
  (J.go i H'/\i<n/\∀x lC,J.Kn i H' x lC->g x σ' lC λσ2 H2=>tt σ2 H2 λb H3=>if b=true then te σ2 H3 (λy H4=>W (i+1) (ys++[y]) σ2 H4) else W (i+1) ys σ2 H3))
noncomputable def ja(wi:TI)(k:Nat)(g:TG)(tt:TT)(te:TE)(is:List Nat):TE:=λσ H Q=>wi σ H λJ H1=>Dl J k g tt te (Az σ is) Q H1
def fI{elt tg iter:Expr}{ifs:List Expr}{pos pp:Pos}{wi:TI}{g:TG}{te:TE}{tt:TT}{use:Option (Value->Sem Unit)}{QQ:Value->Shared->Prop}{Q:VK}(hc:X.calm=true)(S:dQ X scope xs ys is)(hi:PI X tg iter wi)
 (hg:∀fp s1 H1 C,PG (bB X (xs++ys) scope (bW X.env ys) fp s1 H1 C) tg g) (ht:∀fp s1 H1 C,PN (bB X (xs++ys) scope (bW X.env ys) fp s1 H1 C) ifs tt) (he:∀fp s1 H1 C,PE (bB X (xs++ys) scope (bW X.env ys) fp s1 H1 C) elt te)
 (hs:∀x,foldedSetIterable iter X.env x=pure x) (I:Inv X aa σ H s) (h:ja wi xs.length g tt te is σ H Q)
 (fin:∀(D C:Addr) (s4:Shared) (H4:Hp) (m:Str->Option Value),Inv X aa σ H4 s4->s4.heap.Ns C m->fO X aa H4 C->Q (.ref D) H4->compPost (model X.prog X.w) X.A X.xe use QQ (.ref D) C (.ok .next) s4):
 wpAny (model X.prog X.w) X.A (comprehension (.ListComp elt [⟨tg,iter,ifs,0⟩] scope pos) scope X.env pp (newList []) false (eval iter X.env) use) QQ X.xe s:=by
 have F7:∀x∈scope.names,x.2=.local->scope.names.lookup x.1=some .local:=λx hx hl=>by
  have q:=zzT.mp S.names x hx
  rw [zzt] at q;rcases q with q|q
  ·exact absurd hl (zzY q)
  ·exact zzY q
 refine wpAny_comprehension_free (use:=use) (Q:=QQ) (g:=⟨tg,iter,ifs,0⟩) (gs:=[]) rfl hs S.OY S.kind F7 (bA (hi aa s σ H _ I h) λxv s0 h0=>bA h0 λNV s1 h1=>?_)
 obtain⟨it,fp,tn,J,H1,rfl,I1,T,sE,f1,n,W,w0,turn⟩:=h1
 refine wpAny_newObj_type (ui ?_);dsimp only;generalize hH2:s1.heap.push {cls:=.type "list",dict:=none,data:=.seq ([]:List Value).toArray}=G2
 generalize hh₁:pushCells (G2.push {cls:=.type "dict",data:=.dict #[]}) scope.names=h₁
 have OG:∀b o,(G2.push {cls:=.type "dict",data:=.dict #[]}).get? b=some o->h₁.get? b=some o:=λb o e=>by rw [<-hh₁];exact pushCells_keeps _ _ b o e
 have hns₁:h₁.Ns G2.objs.size λ_=>none:=(Heap.Ns.new G2 (.type "dict")).keeps OG
 have RZ:G2.objs.size=(zz9 s1)+1:=by rw [<-hH2,Heap.size_push]
 have mF:(zz9 s1)<=G2.objs.size:=by rw [RZ];exact Nat.le_succ _
 have NU:(zz9 s1)≠G2.objs.size:=by rw [RZ];exact zzb (Nat.lt_succ_self _)
 have old:∀b o,s1.heap.get? b=some o->h₁.get? b=some o:=λb o e=>OG b o (zzB _ (hH2▸zzB _ e))
 have pP:h₁.get? (zz9 s1)=some (lobj [] 0):=OG _ _ (zzB _ (hH2▸zzX _ rfl))
 have Hu:∀b∈fp,b<(zz9 s1):=λb hb=>by
  obtain⟨o,e,_⟩:=T.obj _ _ sE b hb
  exact zzO e
 generalize hY:bB X (xs++ys) scope (bW X.env ys) fp s1 H1 G2.objs.size=Y
 have Uv:Y.Ok:=by rw [<-hY];exact xm I1 hc S mF f1 Hu
 have SM:∀b∈fp,(zz9 s1)≠b:=λb hb=>Ne.symm (zzb (Hu b hb))
 have PX:∀b,b∈Y.fs->b=X.env.locals\/b∈X.fs:=λb hb=>by
  rw [<-hY] at hb;exact zzm.mp (I1.kQ b hb)
 have OJ:∀b∈Y.fs,b<(zz9 s1):=λb hb=>by
  rw [<-hY] at hb;obtain⟨_,o,ho,_⟩:=I1.stack.mem hb
  exact zzO ho
 have OU:(zz9 s1)∉Y.fs:=λz=>Nat.lt_irrefl _ (OJ _ z)
 have Gf:Y.env.locals=G2.objs.size:=by rw [<-hY];rfl
 have Oa:∀x c,Y.env.cells.lookup x=some c->(X.env.cells.lookup x=some c/\c<(zz9 s1)/\x∈ys)\/((x,NameKind.cell)∈scope.names/\G2.objs.size+1<=c):=λx c e=>by
  rw [<-hY] at e;exact fg I1 S mF e
 have US:∀x c,Y.env.cells.lookup x=some c->G2.objs.size+1<=c->h₁.IsCell c none:=λx c e hle=>by
  rw [<-hY] at e;have hm:(x,c)∈cellsFrom (G2.objs.size+1) scope.names []:=IC scope.names _ _ (PySem.mem_of_lookup e) λp hp=>by
   unfold bW at hp;obtain⟨y,hy,rfl⟩:=zzx.mp hp
   obtain⟨c',qf⟩:=zzp.mp (zzT.mp S.cells y hy)
   obtain⟨v,q⟩:=I1.cell y c' qf
   dsimp only;rw [qf];exact zzb (zzW q.lt (zzU mF (Nat.le_of_succ_le hle)))
  have ck:=cellsFrom_ok scope.names (G2.push {cls:=.type "dict",data:=.dict #[]}) 0 [] ⟨(λ_ _ z=>nomatch z),.nil⟩ (Nat.zero_le _)
  rw [Heap.size_push,hh₁] at ck;exact(ck.empty x c hm).1
 have U2:∀x c,Y.env.cells.lookup x=some c->c≠(zz9 s1):=λx c e=>(Oa x c e).elim (λz=>zzb z.2.1) λz=>Ne.symm (zzb (zzV mF z.2))
 have Ak:Y.pn=[]:=by rw [<-hY];rfl
 have L1:Y.ex=fp:=by rw [<-hY];rfl
 have MY:Y.s₀=s1:=by rw [<-hY];rfl
 have Rj:Y.H₀=H1:=by rw [<-hY];rfl
 have LY:Y.prog=X.prog:=by rw [<-hY];rfl
 have MR:Y.w=X.w:=by rw [<-hY];rfl
 have Sa:Y.K=X.K:=by rw [<-hY];rfl
 have P2:Y.A=X.A:=by rw [<-hY];rfl
 have TY:compEnvC scope (cellsFrom (G2.objs.size+1) scope.names (bW X.env ys)) G2.objs.size X.env=Y.env:=by rw [<-hY];rfl
 have Mt:Y.calm=true:=by rw [<-hY];rfl
 have HA:Y.xe=λ_ _=>False:=by rw [<-hY];rfl
 have MM:Y.fs=gM X.stack:=by rw [<-hY];rfl
 have LU:∀{H':Hp} {s':Shared} {aj:List Value} {k:Nat},s'.heap.get? (zz9 s1)=some (lobj aj k)->H' (zz9 s1)=none->∀p∈[((zz9 s1),lobj aj k)],s'.heap.get? p.1=some p.2/\H' p.1=none/\p.1≠Y.env.locals/\p.1∉Y.fs/\∀v,p.2.data≠.cell v:=
  λ{H' s' aj k} e hn p hp=>by
   obtain rfl:=zzi.mp hp
   exact⟨e,hn,by rw [Gf];exact NU,OU,λv=>xW aj k v⟩
 have Pp:∀{H':Hp} {aj:List Value} {k:Nat},(∀b∈fp,H' b=none)->∀b∈fp,fO Y [((zz9 s1),lobj aj k)] H' b:=λ{H' aj k} hn b hb=>
  ⟨hn b hb,by rw [Gf];exact zzb (zzW (Hu b hb) mF),λz=>(PX b z).elim (f1 b hb).2.1 (f1 b hb).2.2.1,.inl (by rw [L1];exact hb),
   λx c e=>(Oa x c e).elim (λz=>(f1 b hb).2.2.2.2.1 x c z.1) (λz q=>absurd (Hu b hb) (Nat.not_lt.mpr (q▸zzU mF (Nat.le_of_succ_le z.2)))),λp hp=>by
    rw [Ak,List.nil_append] at hp;obtain rfl:=zzi.mp hp
    exact SM b hb⟩
 have Li:H1 (zz9 s1)=none:=I1.bj.fresh (zzE _)
 have I2:∀tk,Inv Y [((zz9 s1),lobj [] 0)] (List.replicate xs.length none++Az σ is) H1 {s1 with heap:=h₁,toks:=tk}:=λtk=>by
  refine⟨Uv,by rw [MY],I1.bare,by rw [MY,Rj];exact Un.kept old,⟨_,by rw [Gf];exact hns₁,λi x v e1 e2 e3=>?_⟩,λx c e=>?_,?_,λx c e=>(Oa x c e).elim (λz=>I1.iP x c z.1) (λz=>I1.bj.fresh (zzU mF (Nat.le_of_succ_le z.2))),λp hp=>?_,by rw [LY,MR];exact I1.bj.kept old,?_⟩
  ·
   have QY:Y.N=xs++ys:=by rw [<-hY];rfl
   rw [QY] at e1
   by_cases bX:i<xs.length
   ·rw [zzr (by rw [List.length_replicate];exact bX),List.getElem?_replicate,if_pos bX] at e2;cases e2
   ·have Qn:xs.length<=i:=Nat.not_lt.mp bX
    rw [zzs (by rw [List.length_replicate];exact Qn),List.length_replicate] at e2;rw [zzs Qn] at e1;obtain⟨i0,h0,h1⟩:=vZ S.slots _ x v e1 e2
    have hm:x∈ys:=zzD e1
    have kx:X.env.kindOf x=some .cell:=zzY (zzT.mp S.kX x hm)
    have ky:(relabel scope X.env).names.lookup x=some .cell:=zzY (zzT.mp S.kY x hm)
    obtain⟨m,_,hl⟩:=I1.loc
    obtain⟨u,ru,lk⟩:=hl i0 x v h0 h1 (.inr (.inl kx))
    refine⟨u,ru,.inr ⟨.inl (by rw [<-hY];exact ky),?_⟩⟩;rcases lk with⟨z,_⟩|⟨_,c,hc1,hc2⟩
    ·rw [kx] at z;cases z
    ·obtain⟨c',qf⟩:=lN (env:=X.env) hm
     have KW:=fj S.cells x c' qf
     rw [hc1] at KW;cases KW;refine⟨c,by rw [<-hY];exact(oz _ _ _ λz=>(S.iX z).2 hm).trans qf,?_⟩
     obtain⟨o,ho,hd⟩:=hc2
     exact⟨o,old _ _ ho,hd⟩
  ·rcases Oa x c e with z|z
   ·obtain⟨v,o,ho,hd⟩:=I1.cell x c z.1
    exact⟨v,o,old _ _ ho,hd⟩
   ·exact⟨none,US x c e z.2⟩
  ·rw [Gf];exact I1.bj.fresh mF
  ·rw [Ak,List.nil_append] at hp;exact LU (s':={s1 with heap:=h₁,toks:=tk}) pP Li p hp
  ·have QY:Y.N=xs++ys:=by rw [<-hY];rfl
   have hl:=congrArg List.length S.slots
   rw [zzl,zzl] at hl;rw [QY,zzM,zzM,List.length_replicate];unfold Az;rw [zzl,hl]
 have loop:∀s₃:Shared,s₃={s1 with heap:=h₁}->
  codeAny (model X.prog X.w) X.A (.compLoop (.ListComp elt [⟨tg,iter,ifs,0⟩] scope pos) 0 (.ref it) (.ref (zz9 s1)) (compEnvC scope (cellsFrom (G2.objs.size+1) scope.names (bW X.env ys)) G2.objs.size X.env))
   (compPost (model X.prog X.w) X.A X.xe use QQ (.ref (zz9 s1)) G2.objs.size) s₃:=by
  rintro s₃ rfl
  rw [TY];refine pq (λk s'=>∃i made σ' H' aj c,Inv Y [((zz9 s1),lobj aj c)] σ' H' s'/\tn i s'.heap/\(∀b∈fp,H' b=none)/\Vals made aj/\k=n-i/\W i made σ' H') ?_ n
   ⟨0,[],_,H1,[],0,I2 _,T.keep _ _ _ sE λb _ o e=>old b o e,λb hb=>(f1 b hb).1,.nil,rfl,w0⟩
  rintro k s' ⟨i,made,σ',H',aj,c,I3,st3,fr3,rv,rfl,w3⟩
  obtain⟨hz,tw⟩:=turn i made σ' H' w3
  have pD:=I3.pin ((zz9 s1),lobj aj c) (by rw [Ak];exact zzi.mpr rfl)
  rcases tw with⟨stop,hq⟩|⟨go,Gu,step⟩
  ·rw [<-P2];refine bA (T.done Y LY MR Sa Mt i _ s' σ' H' _ I3 (Pp fr3) st3 stop) λr s4 ⟨hr,I4⟩=>?_
   subst hr;obtain⟨m,hn4,_⟩:=I4.loc
   rw [Gf] at hn4;have OV:=I4.pin ((zz9 s1),lobj aj c) (by rw [Ak];exact zzi.mpr rfl)
   have kp:∀b o,b≠G2.objs.size->s4.heap.get? b=some o->s4.heap.get? b=some o:=λb o hb e=>e
   have PD:∀{b o},s1.heap.get? b=some o->b≠G2.objs.size:=λ{b o} e=>zzb (zzW (zzO e) mF)
   have fZ:=I4.base
   rw [MY,Rj,L1,MM] at fZ;have Pc:∀{b o},H1 b=some o->b≠(zz9 s1):=λ{b o} e=>zzb (I1.bj.lt e)
   have u:Un (gM X.stack) fp H1 (upd H' (zz9 s1) (.lst made)) s1.heap s4.heap:=by
    refine⟨λb o e n hb hx=>kp b o (PD e) (fZ.keep b o e n hb hx),λb o e n hb hx=>?_,λb o e n hx=>?_,λb o e hx=>?_,λb xs e=>?_,λb o u e=>?_,λb ps e=>?_⟩
    ·obtain⟨sl,q⟩:=fZ.slot b o e n hb hx
     exact⟨sl,kp b _ (PD e) q⟩
    ·rw [ai (zzb (zzO e))];exact fZ.free b o e n hx
    ·obtain⟨o',q⟩:=fZ.there b o e hx
     exact⟨o',kp b _ (PD e) q⟩
    ·rw [ai (Pc e)];exact fZ.iV b xs e
    ·rw [ai (Pc e)];exact fZ.iF b o u e
    ·obtain⟨more,q⟩:=fZ.iE b ps e
     exact⟨more,by rw [ai (Pc e)];exact q⟩
   have Rf:H' G2.objs.size=none:=by rw [<-Gf];exact I4.free
   have Cb:gD X.prog X.w (upd H' (zz9 s1) (.lst made)) s4.heap:=λb o e=>by
    by_cases hb:b=(zz9 s1)
    ·subst hb;rw [ak] at e;cases e;exact⟨Nat.le_of_lt hz,aj,c,rv,kp _ _ NU OV.1⟩
    ·rw [ai hb] at e;have x4:=I4.bj b o e
     rw [LY,MR] at x4;have GC:∀b' u,H' b'=some u->b'≠G2.objs.size:=λb' u q z=>by rw [z,Rf] at q;cases q
     have Ru:∀b' u,H' b'=some u->b'≠(zz9 s1):=λb' u q z=>by rw [z,OV.2.1] at q;cases q
     refine x4.eU (λb' u iJ q=>kp b' u ?_ q) (λb' q=>?_) λb' xs q=>?_
     ·rcases iJ with z|z
      ·rw [z];exact GC b o e
      ·exact GC b' _ z
     ·rw [ai (Ru b' _ q)];exact q
     ·rw [ai (Ru b' _ q)];exact q
   have I5:Inv X aa σ (upd H' (zz9 s1) (.lst made)) s4:=I1.MQ (by show s4.os=s1.os;rw [I4.os,MY]) u Cb I4.bare λb hb=>⟨(f1 b hb).2.2.2.1,(f1 b hb).2.1,(f1 b hb).2.2.2.2.1,(f1 b hb).2.2.2.2.2⟩
   dsimp only;rw [P2];exact fin (zz9 s1) G2.objs.size s4 _ m I5 hn4 (I1.kO mF (by rw [ai (Ne.symm NU)];exact Rf)) (hq _ OV.2.1)
  ·rw [<-P2];refine bA (T.item Y LY MR Sa Mt i _ s' σ' H' _ I3 (Pp fr3) st3 go) λr s4 ⟨u,hr,h4⟩=>?_
   subst hr;dsimp only;refine bA h4 λ_ s5 ⟨x,H5,I5,r5,y5,st5,fr5⟩=>?_
   have Pb:=I5.pinned (Pp fr5) (T.obj _ _ st5)
   have Sn:=hg fp s1 H1 G2.objs.size
   have Ra:=he fp s1 H1 G2.objs.size
   have RI:=ht fp s1 H1 G2.objs.size
   rw [hY] at Sn Ra RI;rw [<-LY,<-MR];refine wpAny_mono (Sn _ s5 σ' H5 x u _ Pb r5 (step x H5 y5)) (λ_ s6 ⟨σ6,H6,I6,q6⟩=>?_) (λ_ _ f=>by rw [HA] at f;exact f.elim);refine wpAny_mono (RI _ s6 σ6 H6 _ I6 q6) (λokb sT ⟨HT,IT,qT⟩=>?_) (λ_ _ f=>by rw [HA] at f;exact f.elim);have Vr:=IT.pin ((zz9 s1),lobj aj c) (zzR _ (zzc _ (zzi.mpr rfl)))
   have UP:tn (i+1) sT.heap:=T.keep _ _ _ st5 λb hb o e=>(IT.pin (b,o) (zzR _ (zzR _ (cX hb e)))).1
   cases okb with
   |false=>
    refine⟨n-(i+1),by omega,i+1,made,σ6,HT,aj,c,IT.gV,UP,λb hb=>?_,rv,rfl,qT⟩
    obtain⟨o,e,d⟩:=T.obj _ _ st5 b hb
    exact(IT.pin (b,o) (zzR _ (zzR _ (cX hb e)))).2.1
   |true=>
   refine wpAny_mono (Ra _ sT σ6 HT _ IT qT) (λv s7 ⟨y,H7,I7,r7,q7⟩=>?_) (λ_ _ f=>by rw [HA] at f;exact f.elim);have Pf:=I7.pin ((zz9 s1),lobj aj c) (zzR _ (zzc _ (zzi.mpr rfl)))
   have e7:s7.heap.get? (zz9 s1)=some {cls:=.type "list",data:=.seq aj.toArray c}:=Pf.1
   refine append_at (hsz:=by rw [zzC,<-rv.length];exact Nat.le_of_lt hz) e7 λh' qU PQ=>?_
   have I8:Inv Y [] σ6 H7 s7:=I7.jl λ_ z=>nomatch z
   have I9:Inv Y [] σ6 H7 {s7 with heap:=h'}:=I8.turned (t':=s7.toks) (it:=(zz9 s1)) (λb o hb e=>qU.extBut b o hb e) Pf.2.1 (by rw [Gf];exact NU) (.inr (by rw [MY];exact zzE _))
    (λx c' e=>U2 x c' e) (λp hp=>by rw [Ak] at hp;cases hp)
   have eD:h'.get? (zz9 s1)=some (lobj (aj++[v]) (c+1)):=by rw [PQ,List.push_toArray]
   have Tr:tn (i+1) s7.heap:=T.keep _ _ _ st5 λb hb o e=>(I7.pin (b,o) (zzR _ (zzR _ (cX hb e)))).1
   refine⟨n-(i+1),by omega,i+1,made++[y],σ6,H7,aj++[v],c+1,I9.jl (LU (s':={s7 with heap:=h'}) eD Pf.2.1),T.keep _ _ _ Tr λb hb o e=>qU.extBut b o (Ne.symm (SM b hb)) e,λb hb=>?_,rv.append (.cons r7 .nil),rfl,q7⟩
   obtain⟨o,e,d⟩:=T.obj _ _ st5 b hb
   exact(I7.pin (b,o) (zzR _ (zzR _ (cX hb e)))).2.1
 exact codeAny_compStart_list (loop _ rfl) (T.self _ 0 _ _ _ (T.keep _ _ _ sE λb _ o e=>old b o e) (loop _ rfl))
def Dj{elt tg iter:Expr}{pos:Pos}{wi:TI}{g:TG}{te:TE}(hc:X.calm=true)(S:dQ X scope xs ys is)(hi:PI X tg iter wi)
 (hg:∀fp s1 H1 C,PG (bB X (xs++ys) scope (bW X.env ys) fp s1 H1 C) tg g) (he:∀fp s1 H1 C,PE (bB X (xs++ys) scope (bW X.env ys) fp s1 H1 C) elt te)
 (hs:∀x,foldedSetIterable iter X.env x=pure x:=by intro _;rfl):
 PE X (.ListComp elt [⟨tg,iter,[],0⟩] scope pos) (yD wi xs.length g te is):=by
 intro aa s σ H Q I h;rw [eval_ListComp];exact fI (use:=none) (Q:=Q) hc S hi hg (λ_ _ _ _=>v7) he hs I h (λD C s4 H4 m I5 hn ⟨g0,g1,_,g3,g4,g5⟩ q=>⟨m,hn,λh' qU=>⟨.ref D,H4,I5.turned (t':=s4.toks) (it:=C) (λb o hb e=>qU.extBut b o hb e) g0 g1 g3 g4 g5,rfl,q⟩⟩)
def xy{elt tg iter Gi:Expr}{pos:Pos}{wi:TI}{g:TG}{te:TE}{tt:TT}(hc:X.calm=true)(S:dQ X scope xs ys is)(hi:PI X tg iter wi)
 (hg:∀fp s1 H1 C,PG (bB X (xs++ys) scope (bW X.env ys) fp s1 H1 C) tg g) (ht:∀fp s1 H1 C,PT (bB X (xs++ys) scope (bW X.env ys) fp s1 H1 C) Gi tt) (he:∀fp s1 H1 C,PE (bB X (xs++ys) scope (bW X.env ys) fp s1 H1 C) elt te)
 (hs:∀x,foldedSetIterable iter X.env x=pure x:=by intro _;rfl):
 PE X (.ListComp elt [⟨tg,iter,[Gi],0⟩] scope pos) (ja wi xs.length g tt te is):=by
 intro aa s σ H Q I h;rw [eval_ListComp];exact fI (use:=none) (Q:=Q) hc S hi hg (λfp s1 H1 C=>uW (ht fp s1 H1 C)) he hs I h (λD C s4 H4 m I5 hn ⟨g0,g1,_,g3,g4,g5⟩ q=>⟨m,hn,λh' qU=>⟨.ref D,H4,I5.turned (t':=s4.toks) (it:=C) (λb o hb e=>qU.extBut b o hb e) g0 g1 g3 g4 g5,rfl,q⟩⟩)
end
def aW{H:Hp}{p:Addr}{o:HO}(h:H p=none):av H (upd H p o):=λb u e=>by rw [ai (da e h)];exact e
section
variable{X:Cx}
def yL:e8 X (compareOp .Is) (λx y H Q=>∃c d,x=.bl c/\y=.bl d/\Q (.bl (c==d)) H):=by
 intro aa s σ H x y v u Q I rx ry h;obtain⟨c,d,rfl,rfl,q⟩:=h
 cases rx;cases ry;exact is_bool (oV I q rfl)
def rk:e8 X (compareOp .IsNot) (λx y H Q=>∃c d,x=.bl c/\y=.bl d/\Q (.bl (c !=d)) H):=by
 intro aa s σ H x y v u Q I rx ry h;obtain⟨c,d,rfl,rfl,q⟩:=h
 cases rx;cases ry;exact isnot_bool (oV I q rfl)
end
end L2
namespace Cw
open PySem L2
noncomputable def sgn(c:Nat):Bool:=c==35||(48<=c&&c<=57)
noncomputable def Tz:V->Bool
 |.str z=>decide (1<=z.cps.toList.length)&&decide (z.cps.toList.length<=12)&&z.cps.toList.all sgn
 |_=>false
noncomputable def KS:V->Nat
 |.str z=>z.cps.toList.length
 |_=>0
section
variable{K:zz8}
abbrev BO(K:zz8)(t n:String)(b:Bool):Prop:=PySem.W.kitOne K (.type t) (.type n)=some b
def Ad{K:zz8}(t:String):BO K t t true:=by unfold BO PySem.W.kitOne;rw [if_pos (by simp)]
def y9{t n:String}{b:Bool}(h0:(Value.type t==Value.type n)=false)(h1:PySem.W.kitMeta n=true)(h2:(fastBuiltinMro t).map (·.contains (Value.type n))=some b):BO K t n b:=by
 unfold BO PySem.W.kitOne;rw [if_neg (by rw [h0];exact zzf)];show(if PySem.W.kitMeta n=true then PySem.W.subIn K (.type t) (.type n) else none)=some b
 rw [if_pos h1];exact h2
end
abbrev RU:Str:="#0123456789"
end Cw
namespace L2
open PySem PySem.Spec PyProof.Rows
structure Gg(K:zz8)(C:Addr):Prop where
 ga:PySem.W.findIn K (.ref C) "__getattribute__"=some (some (.builtin "BaseException.__getattribute__"))
 hk:PySem.W.findIn K (.ref C) "__getattr__"=some none
 cl:PySem.W.findIn K (.ref C) "__class__"=some (some (.builtin "object.__class__"))
 mo:PySem.W.mroIn K C (.type "object")=some true
 mb:PySem.W.mroIn K C (.type "BaseException")=some true
 is:(PySem.W.clsIn K C).isSome=true
open PySem.AutoSeq1 (wpAny_loadPart')
end L2
namespace Cw
open PySem L2
end Cw
namespace L2
open PySem PySem.Spec PyProof.Rows
section
variable{X:Cx}
def qc:bV X (.type "int") (λxs H Q=>∃z n,xs=[.str z]/\PySem.intText? z=some n/\z.length<=640/\Q (.int n) H):=by
 intro aa s σ H xs us Q I r h;obtain⟨z,n,rfl,h1,h2,q⟩:=h
 obtain⟨u,rfl,t,rfl⟩:=vals1 r
 exact PySem.W.KIN.call_text h1 h2 ⟨.int n,H,I.tok _,⟨_,rfl⟩,q⟩
end
end L2
namespace Cw
open PySem L2
end Cw
namespace L2
open PySem PySem.Spec PyProof.Rows
theorem n4{α β:Type}{R:α->β->Prop}:∀{xs:List α} {ys:List β},Paired R xs ys->∀{i:Nat} {x:α},xs[i]?=some x->∃y,ys[i]?=some y/\R x y
 |_,_,.nil,_,_,h=>by simp at h
 |_,_,.cons r t,0,x,h=>by simp at h;subst h;exact⟨_,rfl,r⟩
 |_,_,.cons r t,i+1,x,h=>by
  obtain⟨y,h1,h2⟩:=n4 t (i:=i) (x:=x) (by simpa using h)
  exact⟨y,by simpa using h1,h2⟩
theorem lK{α β:Type}{R:α->β->Prop}:∀{xs:List α} {ys:List β},Paired R xs ys->xs.length=ys.length
 |_,_,.nil=>rfl
 |_,_,.cons _ t=>by simp [lK t]
section
def Ao{vs:List V}{aj:List Value}(r:Vals vs aj){j:Nat}(h:j<aj.toArray.size):∃v,vs[j]?=some v/\RelV v aj.toArray[j]:=by
 have hl:=r.length
 rw [zzC] at h;have hj:j<vs.length:=by omega
 obtain⟨u,hu,ru⟩:=r.get (i:=j) (x:=vs[j]) (zzg hj)
 rw [zzg h] at hu;cases hu;exact⟨_,zzg hj,by simpa using ru⟩
end
abbrev um:HO:=.ext λ_=>True
noncomputable def u6(Z:List (Addr×Obj))(H:Hp):Hp:=λb=>match Z.lookup b with
 |some o=>some (.cN o um)
 |none=>H b
noncomputable def fA(Z:List (Addr×Obj))(H:Hp):Hp:=λb=>match Z.lookup b with
 |some _=>none
 |none=>H b
section
variable{Z:List (Addr×Obj)}{H:Hp}{b:Addr}{o:Obj}
def Lk(e:Z.lookup b=some o):u6 Z H b=some (.cN o um):=by unfold u6;rw [e]
def Kj(e:Z.lookup b=none):u6 Z H b=H b:=by unfold u6;rw [e]
def rn(e:Z.lookup b=some o):fA Z H b=none:=by unfold fA;rw [e]
def eh(e:Z.lookup b=none):fA Z H b=H b:=by unfold fA;rw [e]
def tJ{u:HO}(e:fA Z H b=some u):Z.lookup b=none/\H b=some u:=by
 cases q:Z.lookup b with
 |none=>rw [eh q] at e;exact⟨rfl,e⟩
 |some o=>rw [rn q] at e;cases e
def uK(h:H b=none):fA Z H b=none:=by
 cases q:Z.lookup b with
 |none=>rw [eh q];exact h
 |some o=>exact rn q
structure Vm(Z:List (Addr×Obj))(H:Hp)(fs:List Addr)(h:Heap):Prop where
 at_:∀b o,Z.lookup b=some o->h.get? b=some o
 no:∀b o,Z.lookup b=some o->H b=none
 fr:∀b o,Z.lookup b=some o->b∉fs
end
def Jz(mg:Str->Option Value)(base:Heap):Prop:=∃bm o,mg "__builtins__"=some (.ref bm)/\bm≠builtinsNs/\bm≠mainGlobals/\base.get? bm=some o/\o.cls=.type "module"/\o.dict=some builtinsNs/\o.data=.plain
section
end
section
end
section
variable{a b:Expr}
end
section
end
section
variable{κ:Type} [DecidableEq κ]
noncomputable def iC(ax:List (κ×V))(k:κ):Option V:=(ax.find? λkv=>decide (kv.1=k)).map (·.2)
noncomputable def putK(ax:List (κ×V))(k:κ)(v:V):List (κ×V):=
 if(ax.any λkv=>decide (kv.1=k))=true then ax.map (λkv=>if kv.1=k then(kv.1,v) else kv) else ax++[(k,v)]
def gK{p:κ×V}{r:List (κ×V)}{k:κ}(e:p.1=k):iC (p::r) k=some p.2:=by simp [iC,List.find?_cons,e]
def gR{p:κ×V}{r:List (κ×V)}{k:κ}(e:¬p.1=k):iC (p::r) k=iC r k:=by simp [iC,List.find?_cons,e]
theorem kj(k:κ):∀ax:List (κ×V),(ax.any λkv=>decide (kv.1=k))=(iC ax k).isSome
 |[]=>rfl
 |p::r=>by
  rw [List.any_cons]
  by_cases e:p.1=k
  ·simp! [gK e,zzh e,Bool.true_or,Option.isSome_some]
  ·rw [gR e,zz0 e,Bool.false_or];exact kj k r
def dO(ax:List (κ×V))(k:κ)(v:V):(putK ax k v).length<=ax.length+1:=by
 unfold putK;split
 ·rw [zzl];omega
 ·rw [zzM,zzL,List.length_nil];omega
def jX.en{o:Option V}{u:Option Value}(r:jX o u):o.isSome=u.isSome:=by
 cases o with
 |none=>cases u with
  |none=>rfl
  |some _=>exact(show False from r).elim
 |some _=>cases u with
  |none=>exact(show False from r).elim
  |some _=>rfl
def jX.getD{o:Option V}{u:Option Value}{d:V}{d':Value}(r:jX o u)(rd:RelV d d'):RelV (o.getD d) (u.getD d'):=by
 cases o with
 |none=>cases u with
  |none=>exact rd
  |some _=>exact(show False from r).elim
 |some _=>cases u with
  |none=>exact(show False from r).elim
  |some _=>exact r
def KV.val{ax:List (κ×V)}{vs:List (κ×Value)}(r:KV ax vs)(k:κ):jX (iC ax k) (valueAt vs k):=by
 unfold KV at r
 induction r with
 |nil=>exact True.intro
 |@cons p q ps qs h t ih=>
  obtain⟨h1,h2⟩:=h
  by_cases e:p.1=k
  ·have e':q.1=k:=h1.symm.trans e
   have b:valueAt (q::qs) k=some q.2:=by simp [valueAt,List.find?_cons,e']
   rw [gK e,b];exact h2
  ·have e':¬q.1=k:=λz=>e (h1.trans z)
   have b:valueAt (q::qs) k=valueAt qs k:=by simp [valueAt,List.find?_cons,e']
   rw [gR e,b];exact ih
def KV.any{ax:List (κ×V)}{vs:List (κ×Value)}(r:KV ax vs)(k:κ):(ax.any λkv=>decide (kv.1=k))=vs.any λkv=>decide (kv.1=k):=by
 unfold KV at r
 induction r with
 |nil=>rfl
 |cons h t ih=>rw [List.any_cons,List.any_cons,ih,h.1]
def KV.GL{ax:List (κ×V)}{vs:List (κ×Value)}(r:KV ax vs)(k:κ){y:V}{u:Value}(ry:RelV y u):
 KV (ax.map λkv=>if kv.1=k then(kv.1,y) else kv) (vs.map λkv=>if kv.1=k then(kv.1,u) else kv):=by
 unfold KV at r⊢
 induction r with
 |nil=>exact .nil
 |@cons p q ps qs h t ih=>
  rw [zzF,zzF];refine .cons ?_ ih;obtain⟨h1,h2⟩:=h
  by_cases e:p.1=k
  ·rw [if_pos e,if_pos (h1.symm.trans e)];exact⟨h1,ry⟩
  ·rw [if_neg e,if_neg (λz=>e (h1.trans z))];exact⟨h1,h2⟩
def KV.put{ax:List (κ×V)}{vs:List (κ×Value)}(r:KV ax vs)(k:κ){y:V}{u:Value}(ry:RelV y u):KV (putK ax k y) (stored vs k u):=by
 unfold putK stored;rw [r.any k]
 by_cases e:(vs.any λkv=>decide (kv.1=k))=true
 ·rw [if_pos e,if_pos e];exact r.GL k ry
 ·rw [if_neg e,if_neg e];exact Paired.snoc r ⟨rfl,ry⟩
def KV.length{ax:List (κ×V)}{vs:List (κ×Value)}(r:KV ax vs):ax.length=vs.length:=Paired.length r
end
def qw{P:Program}{w:World}{k:Key}{u:Value}(r:RelV (kV k) u):(aC P w).is k u=true:=by
 cases k with
 |inl i=>obtain⟨t,e⟩:=(show∃t,u=Value.int i t from r);subst e;exact rD P w i t
 |inr x=>obtain⟨t,e⟩:=(show∃t,u=Value.str x t from r);subst e;exact qX P w x t
theorem ik{P:Program}{w:World}:∀{ks:List Key} {us:List Value},Vals (ks.map kV) us->ItemsAre (aC P w) ks us
 |[],_,r=>by rw [List.map_nil] at r;cases r;exact .nil
 |k::ks,_,r=>by
  rw [zzF] at r;cases r with
  |cons h t=>exact .cons (qw h) (ik t)
abbrev KT(H:Hp):List (List Key×V)->List (List Key×Addr×Value)->Prop:=Paired λp q=>p.1=q.1/\H q.2.1=some (.tup (p.1.map kV))/\RelV p.2 q.2.2
def KT.val{H:Hp}{ax:List (List Key×V)}{xs:List (List Key×Addr×Value)}(r:KT H ax xs)(k:List Key):jX (iC ax k) ((atKey xs k).map (·.2)):=by
 induction r with
 |nil=>exact True.intro
 |@cons p q ps qs h t ih=>
  obtain⟨h1,_,h2⟩:=h
  by_cases e:p.1=k
  ·have e':q.1=k:=h1.symm.trans e
   have b:atKey (q::qs) k=some q.2:=by simp [atKey,List.find?_cons,e']
   rw [gK e,b];exact h2
  ·have e':¬q.1=k:=λz=>e (h1.trans z)
   have b:atKey (q::qs) k=atKey qs k:=by simp [atKey,List.find?_cons,e']
   rw [gR e,b];exact ih
def KT.GL{H:Hp}{ax:List (List Key×V)}{xs:List (List Key×Addr×Value)}(r:KT H ax xs)(k:List Key){y:V}{u:Value}(ry:RelV y u):
 KT H (ax.map λkv=>if kv.1=k then(kv.1,y) else kv) (xs.map (putAt k u)):=by
 induction r with
 |nil=>exact .nil
 |@cons p q ps qs h t ih=>
  rw [zzF,zzF];refine .cons ?_ ih;obtain⟨h1,h2,h3⟩:=h
  unfold putAt
  by_cases e:p.1=k
  ·rw [if_pos e,if_pos (h1.symm.trans e)];exact⟨h1,h2,ry⟩
  ·rw [if_neg e,if_neg (λz=>e (h1.trans z))];exact⟨h1,h2,h3⟩
def KT.put{H:Hp}{ax:List (List Key×V)}{xs:List (List Key×Addr×Value)}(r:KT H ax xs)(k:List Key){b:Addr}{y:V}{u:Value}(hb:H b=some (.tup (k.map kV)))(ry:RelV y u):
 KT H (putK ax k y) (storedH xs k b u):=by
 have e:(ax.any λkv=>decide (kv.1=k))=(atKey xs k).isSome:=by
  rw [kj,(r.val k).en,Option.isSome_map]
 unfold putK storedH;rw [e]
 by_cases q:(atKey xs k).isSome=true
 ·rw [if_pos q,if_pos q];exact r.GL k ry
 ·rw [if_neg q,if_neg q];exact Paired.snoc r ⟨rfl,hb,ry⟩
def KT.keeps{H H':Hp}{ax:List (List Key×V)}{xs:List (List Key×Addr×Value)}(r:KT H ax xs)(ht:∀b ys,H b=some (.tup ys)->H' b=some (.tup ys)):KT H' ax xs:=
 Paired.uL r λ_ _ z=>⟨z.1,ht _ _ z.2.1,z.2.2⟩
section
variable{P:Program}{w:World}{H:Hp}{h:Heap}{a:Addr}
def Fv{u:HO}(ok:gD P w H h)(e:Rd H a u):bF P w H h a u:=e.ok ok
def qP{ax:List (Key×V)}(ok:gD P w H h)(e:Rd H a (.dK ax)):ax.length<=sizeLine/\(a==sysModules)=false/\∃vs,KV ax vs/\h.DictOf (aC P w) a vs:=
 show bF P w H h a (.dK ax) from Fv ok e
def Le{ax:List (Key×V)}(ok:gD P w H h)(e:H a=some (.dK ax)):ax.length<=sizeLine/\(a==sysModules)=false/\∃vs,KV ax vs/\h.DictOf (aC P w) a vs:=qP ok (.inl e)
def gr{ks:List Key}(ok:gD P w H h)(e:H a=some (.tup (ks.map kV))):(tupleKind (aC P w)).is h ks a:=by
 obtain⟨_,aj,r,o,h1,h2,n,h3⟩:=(show bF P w H h a (.tup (ks.map kV)) from ok a _ e)
 exact⟨o,aj.toArray,n,h1,h2,h3,by simpa using ik r⟩
def lJ{ax:List (List Key×V)}(ok:gD P w H h)(e:Rd H a (.dT ax)):ax.length<=sizeLine/\(a==sysModules)=false/\
 ∃xs,KT H ax xs/\h.DictOfH (tupleKind (aC P w)) a xs:=by
 obtain⟨z,y,xs,r,o,es,ep,h1,h2,h3,h4,h5⟩:=(show bF P w H h a (.dT ax) from Fv ok e)
 refine⟨z,y,xs,r,o,es,ep,h1,h2,h3,h4,λx hx=>?_,h5⟩
 have all:∀{l:List (List Key×V)} {m:List (List Key×Addr×Value)},KT H l m->∀x∈m,(tupleKind (aC P w)).is h x.1 x.2.1:=by
  intro l m q
  induction q with
  |nil=>intro x hx;exact nomatch hx
  |@cons p q ps qs hq t ih=>
   intro x hx;rcases zzm.mp hx with e|hx
   ·subst e;exact gr ok (by rw [<-hq.1];exact hq.2.1)
   ·exact ih x hx
 exact all r x hx
def FE{ax:List (List Key×V)}(ok:gD P w H h)(e:H a=some (.dT ax)):ax.length<=sizeLine/\(a==sysModules)=false/\
 ∃xs,KT H ax xs/\h.DictOfH (tupleKind (aC P w)) a xs:=lJ ok (.inl e)
end
def DS(H:Hp)(a:Addr)(y:V)(r:Option V):Prop:=
 (∃ax k,Rd H a (.dK ax)/\y=kV k/\r=iC ax k)\/∃ax k b,Rd H a (.dT ax)/\y=.ref b/\H b=some (.tup (k.map kV))/\r=iC ax k
def yT(H:Hp)(a:Addr)(y v:V)(H':Hp):Prop:=
 (∃ax k,H a=some (.dK ax)/\y=kV k/\ax.length<sizeLine/\H'=upd H a (.dK (putK ax k v)))\/
 ∃ax k b,H a=some (.dT ax)/\y=.ref b/\H b=some (.tup (k.map kV))/\ax.length<sizeLine/\H'=upd H a (.dT (putK ax k v))
def yT.t{H:Hp}{a b:Addr}{ax:List (List Key×V)}{k:List Key}{v:V}(e:H a=some (.dT ax))(eb:H b=some (.tup (k.map kV)))(hl:ax.length<sizeLine):
 yT H a (.ref b) v (upd H a (.dT (putK ax k v))):=.inr ⟨ax,k,b,e,rfl,eb,hl,rfl⟩
section
variable{X:Cx}{aa:List (Addr×Obj)}{σ:St}{H:Hp}{s:Shared}{a:Addr}{y v:V}{u r:Value}{o:Option V}{A:Around}{E:Value->Shared->Prop}
def Inv.big(I:Inv X aa σ H s):sysModules<(zz9 s):=by
 have h:mainGlobals<(zz9 s):=(I.mod.glob.keeps I.bk).lt
 exact Nat.lt_trans (by decide) h
def Qt{Q:Value->Shared->Prop}(hu:A.units+1<cLine)(I:Inv X aa σ H s)(g:DS H a y o)(ry:RelV y u)(h:∀s',Inv X aa σ H s'->Q (.bool o.isSome) s'):
 wpAny (model X.prog X.w) A (compareOp .In u (.ref a)) Q E s:=by
 rcases g with⟨ax,k,e,ey,l⟩|⟨ax,k,b,e,ey,eb,l⟩
 ·subst ey;obtain⟨z,hd,vs,rel,dd⟩:=qP I.bj e
  refine wpAny_in_of (qw ry) hd dd.mapOf ?_;rw [<-(rel.val k).en,<-l];exact h _ (I.tok _)
 ·subst ey;cases(show u=Value.ref b from ry);obtain⟨z,hd,xs,rel,dd⟩:=lJ I.bj e
  refine wpAny_in_heap (tupleKind_room_in1 hu) (gr I.bj eb) hd dd ?_;have q:=(rel.val k).en
  rw [Option.isSome_map] at q;rw [<-q,<-l];exact h _ (I.tok _)
def Eu{Q:Value->Shared->Prop}(hu:A.units+1<cLine)(I:Inv X aa σ H s)(g:DS H a y o)(ry:RelV y u)(h:∀s',Inv X aa σ H s'->Q (.bool (!o.isSome)) s'):
 wpAny (model X.prog X.w) A (compareOp .NotIn u (.ref a)) Q E s:=by
 rcases g with⟨ax,k,e,ey,l⟩|⟨ax,k,b,e,ey,eb,l⟩
 ·subst ey;obtain⟨z,hd,vs,rel,dd⟩:=qP I.bj e
  refine wpAny_notIn_of (qw ry) hd dd.mapOf ?_;rw [<-(rel.val k).en,<-l];exact h _ (I.tok _)
 ·subst ey;cases(show u=Value.ref b from ry);obtain⟨z,hd,xs,rel,dd⟩:=lJ I.bj e
  refine wpAny_notIn_heap (tupleKind_room_in1 hu) (gr I.bj eb) hd dd ?_;have q:=(rel.val k).en
  rw [Option.isSome_map] at q;rw [<-q,<-l];exact h _ (I.tok _)
theorem jh{h':Heap}{t':Nat}{ob:HO}(I:Inv X aa σ H s)(mu:LA (H a))(hs:Heap.SameBut a s.heap h')(he:∃q,h'.get? a=some q)(new:bF X.prog X.w (upd H a ob) h' a ob):
 Inv X aa σ (upd H a ob) {s with heap:=h',toks:=t'}:=
 I.write (x:=a) (e:=a) mu (.inl rfl) (λb q hb z=>(hs.2 b hb).trans z) he new
def Gm{P:Program}{w:World}{H':Hp}{h':Heap}{ax:List (Key×V)}{vs:List (Key×Value)}(z:ax.length<=sizeLine)(hd:(a==sysModules)=false)(rel:KV ax vs)(dd:h'.DictOf (aC P w) a vs):
 bF P w H' h' a (.dK ax):=⟨z,hd,vs,rel,dd⟩
def wo{H':Hp}{Q:Unit->Shared->Prop}(hu:A.units+1<cLine)(I:Inv X aa σ H s)(g:yT H a y v H')(ry:RelV y u)(rv:RelV v r)(h:∀s',Inv X aa σ H' s'->Q () s'):
 wpAny (model X.prog X.w) A (setItem (.ref a) u r) Q E s:=by
 rcases g with⟨ax,k,e,ey,l,eH⟩|⟨ax,k,b,e,ey,eb,l,eH⟩
 ·subst ey eH;obtain⟨z,hd,vs,rel,dd⟩:=Le I.bj e
  have hz:vs.length<=sizeLine:=by rw [<-rel.length];exact z
  have hl:(putK ax k v).length<=sizeLine:=by have:=dO ax k v;omega
  refine wpAny_setItem_pairs (hsz:=hz) (qw ry) dd λh' KN hs=>h _ ?_
  have he:∃q,h'.get? a=some q:=let⟨q,_,_,hq,_⟩:=KN;⟨q,hq⟩
  exact jh I (by rw [e];exact True.intro) hs he (Gm hl hd (rel.put k rv) KN)
 ·subst ey eH;cases(show u=Value.ref b from ry);obtain⟨z,hd,xs,rel,dd⟩:=FE I.bj e
  have hz:xs.length<=sizeLine:=by rw [<-Paired.length rel];exact z
  have hl:(putK ax k v).length<=sizeLine:=by have:=dO ax k v;omega
  refine wpAny_setItem_heap (hsz:=hz) (tupleKind_room_in1 hu) (gr I.bj eb) dd λh' KN hs=>h _ ?_
  obtain⟨q,es,ep,hq,h2,h3,h4,_,h5⟩:=KN
  refine jh I (by rw [e];exact True.intro) hs ⟨q,hq⟩ ⟨hl,hd,_,(rel.put k eb rv).keeps λc ys ec=>?_,q,es,ep,hq,h2,h3,h4,h5⟩
  rw [ai (iK ec e (λz=>nomatch z))];exact ec
end
theorem lh{P:Program}{w:World}{H:Hp}(h:Heap)(hb:sysModules<h.objs.size):bF P w H (h.push {cls:=.type "dict",data:=.dict #[]}) h.objs.size (.dT []):=
 ⟨Nat.zero_le _,beq_eq_false_iff_ne.mpr (Ne.symm (zzb hb)),[],.nil,_,#[],0,zzX _ rfl,⟨rfl,rfl,rfl⟩,rfl,rfl,List.nodup_nil⟩
noncomputable def GX:TE:=λ_ H Q=>∀p,H p=none->Q (.ref p) (upd H p (.dT []))
section
variable{X:Cx}{pos:Pos}
theorem yP:PE X (.Dict [] [] pos) GX:=λaa s σ H Q I h=>
 wpAny_Dict_empty ⟨.ref (zz9 s),_,I.laid (a:=(zz9 s)) (o:=.dT []) (t':=s.toks) (λ_ _ q=>zzB _ q) (zzE _) (lh s.heap I.big),rfl,h _ (I.bj.fresh (zzE _))⟩
end
structure M1(X:Cx)(o:Expr)(m:Str)(apos:Pos)(e:Expr)(bz:Pos):Prop where
 base:attributeBase o m X.env (eval o X.env)=eval o X.env
 Dh:((backTo bz (starEach [e] X.env)).all (λx=>!x.1)&&(backToKw bz (keywordEach [] X.env)).all (λx=>x.1.isSome)
  &&decide (([e]:List Expr).length+([]:List Keyword).length+(if([]:List Keyword).isEmpty then 0 else 1)<30))=true
 line:(apos.endLine==bz.line)=true
 trees:backTo bz (starEach [e] X.env)=[(false,eval e X.env)]
structure M2(X:Cx)(o:Expr)(m:Str)(apos:Pos)(e f:Expr)(bz:Pos):Prop where
 base:attributeBase o m X.env (eval o X.env)=eval o X.env
 Dh:((backTo bz (starEach [e,f] X.env)).all (λx=>!x.1)&&(backToKw bz (keywordEach [] X.env)).all (λx=>x.1.isSome)
  &&decide (([e,f]:List Expr).length+([]:List Keyword).length+(if([]:List Keyword).isEmpty then 0 else 1)<30))=true
 line:(apos.endLine==bz.line)=true
 trees:backTo bz (starEach [e,f] X.env)=[(false,eval e X.env),(false,eval f X.env)]
def FY(H:Hp)(a:Addr):Prop:=(∃ax,Rd H a (.dK ax))\/∃ax,Rd H a (.dT ax)
def Jg{X:Cx}{aa:List (Addr×Obj)}{σ:St}{H:Hp}{s:Shared}{a:Addr}(I:Inv X aa σ H s)(d:FY H a):
 s.TypeIs (.ref a) "dict"/\(∀b,Value.ref a=.ref b->∃ob,s.heap.get? b=some ob/\ob.dict=none)/\(a==sysModules)=false:=by
 rcases d with⟨ax,e⟩|⟨ax,e⟩
 ·obtain⟨_,hd,vs,_,dd⟩:=qP I.bj e
  refine⟨dd.typeIs,λb q=>?_,hd⟩
  cases q;obtain⟨ob,_,_,h1,h2,_⟩:=dd
  exact⟨ob,h1,h2.2.1⟩
 ·obtain⟨_,hd,xs,_,dd⟩:=lJ I.bj e
  refine⟨dd.typeIs,λb q=>?_,hd⟩
  cases q;obtain⟨ob,_,_,h1,h2,_⟩:=dd
  exact⟨ob,h1,h2.2.1⟩
section
variable{X:Cx}{aa:List (Addr×Obj)}{σ:St}{H:Hp}{s:Shared}{a:Addr}{y:V}{u:Value}{o:Option V}{A:Around}{E:Value->Shared->Prop}
def Js{Q:Value->Shared->Prop}(hu:A.units+1<cLine)(I:Inv X aa σ H s)(g:DS H a y o)(ry:RelV y u)(h:∀w' s',Inv X aa σ H s'->RelV (o.getD .ay) w'->Q w' s'):
 wpAny (model X.prog X.w) A (call (.builtin "dict.get") [.ref a,u]) Q E s:=by
 rcases g with⟨ax,k,e,ey,l⟩|⟨ax,k,b,e,ey,eb,l⟩
 ·subst ey;obtain⟨z,hd,vs,rel,dd⟩:=qP I.bj e
  refine call_meetsIn PySem.F.slot_dict_get dd.typeIs PySem.F.entry_dict_get (PySem.F.args_dict_get_2 _ _) (meets_dict_get (aC X.prog X.w) a (qw ry) hd) ⟨_,dd.mapOf,h _ _ (I.tok _) ?_⟩;rw [l];exact(rel.val k).getD rfl
 ·subst ey;cases(show u=Value.ref b from ry);obtain⟨z,hd,xs,rel,dd⟩:=lJ I.bj e
  refine call_meetsIn PySem.F.slot_dict_get dd.typeIs PySem.F.entry_dict_get (PySem.F.args_dict_get_2 _ _) (meetsH_dict_get (tupleKind (aC X.prog X.w)) a b hd) ⟨tupleKind_room_in1 hu,k,xs,gr I.bj eb,dd,h _ _ (I.tok _) ?_⟩;rw [l];exact(rel.val k).getD rfl
end
noncomputable def J5(td ty:TE):TE:=λσ H Q=>td σ H λx H1=>∃a,x=.ref a/\FY H1 a/\ty σ H1 λy H2=>∃o,DS H2 a y o/\Q (o.getD .ay) H2
section
variable{X:Cx}{o e:Expr}{apos bz:Pos}{td ty:TE}
def As(hu:X.A.units+1<cLine)(ho:PE X o td)(he:PE X e ty)(m:M1 X o "get" apos e bz):PE X (.Call (.Attribute o "get" apos) [e] [] bz) (J5 td ty):=by
 intro aa s σ H Q I h;refine wpAny_Call_method m.base m.Dh m.line PySem.F.plainAttrs_dict PySem.F.slot_dict_get PySem.F.type_dict_get (bA (ho aa s σ H _ I h) λu s1 ⟨x,H1,I1,rx,a,ex,d,q1⟩=>?_)
 subst ex;obtain rfl:u=Value.ref a:=rx
 obtain⟨t1,t2,_⟩:=Jg I1 d
 refine⟨t1,t2,?_⟩;rw [m.trees];refine Calls.callWith_builtin rfl (Calls.evalArgs_plain (Calls.spliced_cons (bA (he aa s1 σ H1 _ I1 q1) λiv s2 ⟨y,H2,I2,ry,ov,g,q2⟩=>Calls.spliced_nil ?_)))
 exact Js hu I2 g ry λw' s3 I3 gF=>⟨_,H2,I3,gF,q2⟩
end
end L2
namespace Att
open PySem PySem.W PySem.Calls PyProof.Rows
section
end
end Att
namespace L2
open PySem PySem.Spec PyProof.Rows
section
variable{prog:Program}{w:World}{κ:Type} [DecidableEq κ]{knd:HeapKind prog w κ}{A:Around}{E:Value->Shared->Prop}{s:Shared}{d a:Addr}{xs:List (κ×Addr×Value)}
theorem pC(d:Addr)(lo:(d==sysModules)=false):MeetsIn prog w (Builtin.«dict.__len__» ⟨[.ref d],[]⟩) (λ_ R s=>∃xs,s.heap.DictOfH knd d xs/\R (.ok (.ret (.int xs.length s.toks))) {s with toks:=s.toks+1}):=
 .of_wp λA R s ⟨xs,⟨o,es,ep,h1,_,h2,h3,_⟩,h⟩=>by
  show wpAny _ _ (dictSize d>>=λn=>_) _ _ s
  unfold dictSize;refine zzA (zzA (wpAny_dictEntries h1 h2 (zzG (zzA (wpAny_pendingCount_other lo (wpAny_ret_mkInt ?_))))));rw [Nat.add_zero,size_of_entries h3];exact h
def ID{Q:Value->Shared->Prop}(lo:(d==sysModules)=false)(hm:s.heap.DictOfH knd d xs)(hf:(xs.length:Int)<2^63)(h:Q (.int xs.length (s.toks+1)) {s with toks:=s.toks+1+1}):wpAny (model prog w) A (call (.builtin "len") [.ref d]) Q E s:=by
 refine Calls.call_function_entry kind_len plain_len entry_len (args_len1 _) ?_;unfold Builtin.«len»;refine zzA (m:=oneArg "len" _) (zzG (zzA (m:=callSpecial? (.ref d) (Str.ofString "__len__")) (wpAny_callSpecial?_slot (name:=Str.ofString "__len__") hm.typeIs F.slot_dict_len
  (call_meetsIn F.slot_dict_len hm.typeIs F.entry_dict_len (F.args_dict_len_1 _) (pC (knd:=knd) d lo) ⟨xs,hm,?_⟩))))
 show wpAny _ _ (holding _ _>>=λz=>_) _ _ {s with toks:=s.toks+1}
 refine zzA (wpAny_holding (zzG (zzA (wpAny_letGo ?_))));show wpAny _ _ (if((xs.length:Nat):Int)<0 then _ else(if((xs.length:Nat):Int)>=2^63 then _ else _)) _ _ _;rw [if_neg (by omega),if_neg (by omega)];exact zzA (wpAny_mkInt (zzG ⟨_,rfl,h⟩))
def Cn{o:Obj}{es:Array DictEntry}{ep:Nat}{Q:Value->Shared->Prop}(lo:(d==sysModules)=false)(h1:s.heap.get? d=some o)(hc:o.ExactDict)(h2:o.data=.dict es ep)
 (hQ:Q (.ref (zz9 s)) {s with heap:=s.heap.push {cls:=.type "dict_keyiterator",data:=.fields #[.ref d,.int 0 0,.int es.size 0,.int ep 0]}}):wpAny (model prog w) A (pyIter (.ref d)) Q E s:=by
 have T:s.TypeIs (.ref d) "dict":=⟨o,h1,hc.1⟩
 refine wpAny_pyIter_slot T F.slot_dict_iter (wpAny_call_entry F.slot_dict_iter T F.entry_dict_iter ?_ (F.args_dict_iter_1 _));unfold Builtin.«dict.__iter__» Builtin.Dict.dictSlotNone;refine zzA (zzA (wpAny_notOrdered_dict T ?_));show wpAny _ _ (pure (Value.ref d):Sem Value) _ _ s;refine zzG ?_;show wpAny _ _ (Builtin.Dict.showsAll d>>=λ_=>_) _ _ s;unfold Builtin.Dict.showsAll;rw [if_neg (by rw [lo];exact zzf)];refine zzA (zzG (zzA (wpAny_dictEntries h1 h2 (zzA (wpAny_dictEpoch h1 h2 ?_)))));refine zzA (wpAny_newObj_type (zzG ⟨_,rfl,"dict_keyiterator",_,⟨_,zzX _ rfl,rfl⟩,F.slot_dict_keyiterator_next.lookup,?_⟩))
 simpa [rawInt] using hQ
def EY{it:Addr}{i ep:Nat}{o:Obj}{es:Array DictEntry}{Q:Option Value->Shared->Prop}(st:s.heap.IsKeyIter it d i es.size ep)(h1:s.heap.get? d=some o)(h2:o.data=.dict es ep)(hi:i<es.size)
 (hQ:∀h',h'.IsKeyIter it d (i+1) es.size ep->Heap.SameBut it s.heap h'->Q (some es[i].key) {s with heap:=h'}):wpAny (model prog w) A (pyNext (.ref it)) Q E s:=by
 obtain⟨oi,g1,g2,g3⟩:=id st
 have own:Builtin.Dict_items.ownsTuple "dict_keyiterator"=false:=by decide
 unfold pyNext;refine zzA (wpAny_attempt (wpAny_callSpecial?_slot (name:=Str.ofString "__next__") st.typeIs F.slot_dict_keyiterator_next (wpAny_call_entry F.slot_dict_keyiterator_next st.typeIs F.entry_dict_keyiterator_next ?_ (F.args_dict_keyiterator_next_1 _))));refine zzA (zzG (zzA (zzA ?_)))
 first|refine zzA (wpAny_typeNameOfWhole_keyiter st.typeIs (zzG (zzA (wpAny_fieldsOf g1 g3 ?_))))|refine zzA (wpAny_typeNameOf_keyiter st.typeIs (zzG (zzA (wpAny_fieldsOf g1 g3 ?_))))
 simp! [own,zze,if_false];show wpAny _ _ (if(Value.ref d==Value.none)=true then _ else _:Sem _) _ _ s;rw [if_neg (show¬((Value.ref d==Value.none)=true) from zzf)];refine zzA (zzG (zzA (wpAny_dictEntries h1 h2 ?_)));rw [if_neg (by simp)];refine zzA (zzG (zzA (wpAny_dictEpoch h1 h2 ?_)));rw [if_neg (by simp)];refine zzG ?_;simp! [show¬((i:Int)<0) from by omega,if_false,zz4,zz2 hi];refine zzA ?_
 first|refine zzA (wpAny_typeNameOfWhole_keyiter st.typeIs (zzG (zzA (wpAny_isOneOf_keyiter st.typeIs ?_))))|refine zzA (wpAny_typeNameOf_keyiter st.typeIs (zzG (zzA (wpAny_isOneOf_keyiter st.typeIs ?_))))
 show wpAny _ _ (setField (.ref it) 1 (rawInt ((i:Int)+1))>>=λ_=>_) _ _ s
 have eY:(s.heap.update it (Obj.mapFields (·.setIfInBounds 1 (rawInt ((i:Int)+1))))).IsKeyIter it d (i+1) es.size ep:=
  ⟨_,Heap.get?_update_self _ g1 (Obj.isFreed_of_fields (Obj.data_mapFields g3 _)),(Obj.cls_mapFields ..).trans g2,by rw [Obj.data_mapFields g3];simp [rawInt]⟩
 refine zzA (wpAny_setField g1 g3 (by simp) (zzA (wpAny_holding (zzA (wpAny_isOneOf_keyiter (s:={s with heap:=s.heap.update it (Obj.mapFields (·.setIfInBounds 1 (rawInt ((i:Int)+1))))}) eY.typeIs ?_)))));show wpAny _ _ (pure es[i].key:Sem Value) _ _ _;exact zzG (zzG ⟨_,rfl,zzG (hQ _ eY (zzu ..))⟩)
def Ik{it:Addr}{i ep:Nat}{o:Obj}{es:Array DictEntry}{Q:Option Value->Shared->Prop}(hh:A.handled=none)(st:s.heap.IsKeyIter it d i es.size ep)(h1:s.heap.get? d=some o)(h2:o.data=.dict es ep)(hi:es.size<=i)
 (hQ:∀h',Heap.ExtBut it s.heap h'->Q none {s with heap:=h'}):wpAny (model prog w) A (pyNext (.ref it)) Q E s:=by
 obtain⟨oi,g1,g2,g3⟩:=id st
 have own:Builtin.Dict_items.ownsTuple "dict_keyiterator"=false:=by decide
 unfold pyNext;refine zzA (wpAny_attempt (wpAny_callSpecial?_slot (name:=Str.ofString "__next__") st.typeIs F.slot_dict_keyiterator_next (wpAny_call_entry F.slot_dict_keyiterator_next st.typeIs F.entry_dict_keyiterator_next ?_ (F.args_dict_keyiterator_next_1 _))));refine zzA (zzG (zzA (zzA ?_)))
 first|refine zzA (wpAny_typeNameOfWhole_keyiter st.typeIs (zzG (zzA (wpAny_fieldsOf g1 g3 ?_))))|refine zzA (wpAny_typeNameOf_keyiter st.typeIs (zzG (zzA (wpAny_fieldsOf g1 g3 ?_))))
 simp! [own,zze,if_false];show wpAny _ _ (if(Value.ref d==Value.none)=true then _ else _:Sem _) _ _ s;rw [if_neg (show¬((Value.ref d==Value.none)=true) from zzf)];refine zzA (zzG (zzA (wpAny_dictEntries h1 h2 ?_)));rw [if_neg (by simp)];refine zzA (zzG (zzA (wpAny_dictEpoch h1 h2 ?_)));rw [if_neg (by simp)];refine zzG ?_;simp! [show¬((i:Int)<0) from by omega,if_false,zz4,Array.getElem?_eq_none hi];refine zzA ?_
 first|refine zzA (wpAny_typeNameOfWhole_keyiter st.typeIs (zzG ?_))|refine zzA (wpAny_typeNameOf_keyiter st.typeIs (zzG ?_))
 show wpAny _ _ (setField (.ref it) 0 .none>>=λ_=>_) _ _ s
 refine zzA (wpAny_setField g1 g3 (by simp) ?_);show wpAny _ _ (newExc (.type "StopIteration") []>>=λ_=>_) _ _ _
 refine zzA ?_;simp! [newExc,newTuple];refine zzA (wpAny_newObj_type (zzA (m:=firstArgMember _ _) (wpAny_of_eq (a:=Value.none) (by first|rfl|(simp! [firstArgMember];rfl)) (wpAny_newObj_type ?_ (by size_fits)))) (by size_fits));simp! [raiseNew];refine zzA (wpAny_handled ?_);rw [show A.in1.handled=none from hh];refine zzA (zzG (wpAny_throw ?_));refine zzA (wpAny_isInstance (T:="StopIteration") (b:=true) ⟨_,zzX _ rfl,rfl⟩ isSubtype_stop ?_);exact zzG (hQ _ (((zzu ..).extBut.push _).push _))
end
def KT.len{H:Hp}{ax:List (List Key×V)}{xs:List (List Key×Addr×Value)}(r:KT H ax xs):ax.length=xs.length:=Paired.length r
section
variable{X:Cx}{aa:List (Addr×Obj)}{σ:St}{H:Hp}{s:Shared}{a:Addr}{ax:List (List Key×V)}{A:Around}{E:Value->Shared->Prop}
def IQ{Q:Value->Shared->Prop}(I:Inv X aa σ H s)(e:Rd H a (.dT ax))(h:∀t s',Inv X aa σ H s'->Q (.int ax.length t) s'):wpAny (model X.prog X.w) A (call (.builtin "len") [.ref a]) Q E s:=by
 obtain⟨z,lo,xs,rel,dd⟩:=lJ I.bj e
 refine ID lo dd (by rw [<-rel.len];rw [sizeLine_eq] at z;omega) ?_;rw [<-rel.len];exact h _ _ (I.tok _)
def Inv.freeze(I:Inv X aa σ H s)(e:H a=some (.dT ax)):∃o,Inv X aa σ (upd H a (.cN o (.dT ax))) s:=by
 obtain⟨z,lo,xs,rel,o,es,ep,h1,h2,h3,h4,h5⟩:=(show bF X.prog X.w H s.heap a (.dT ax) from I.bj a _ e)
 refine⟨o,jh (h':=s.heap) (t':=s.toks) I (by rw [e];exact True.intro) ⟨rfl,λ_ _=>rfl⟩ ⟨o,h1⟩ ⟨h1,z,lo,xs,?_,o,es,ep,h1,h2,h3,h4,h5⟩⟩
 exact KT.keeps (H:=H) rel λc ys ec=>by rw [ai (iK ec e (λz=>nomatch z))];exact ec
end
noncomputable def P1(a:Addr)(o:Obj)(ax:List (List Key×V)):It:=
 ⟨λi H=>H a=some (.cN o (.dT ax))/\i<ax.length,λi H x H'=>H'=H/\∃b k v,x=.ref b/\ax[i]?=some (k,v)/\H b=some (.tup (k.map kV)),λi H=>H a=some (.cN o (.dT ax))/\ax.length<=i⟩
def gj{α β:Type}{R:α->β->Prop}{l:List α}{m:List β}(r:Paired R l m):∀{i:Nat} {p:α} {q:β},l[i]?=some p->m[i]?=some q->R p q:=by
 induction r with
 |nil=>intro i p q h;simp at h
 |cons h t ih=>
  intro i p q h1 h2;cases i with
  |zero=>simp at h1 h2;subst h1 h2;exact h
  |succ i=>simp at h1 h2;exact ih h1 h2
def MW{P:Program}{w:World}{H:Hp}{h:Heap}{a:Addr}{ax:List (List Key×V)}(x:bF P w H h a (.dT ax)):(a==sysModules)=false/\(ax.map (·.1)).Nodup/\∃o es ep,h.get? a=some o/\o.ExactDict/\o.data=.dict es ep/\es.size=ax.length/\∀(i:Nat) (hi:i<es.size),∃b k v,es[i].key=.ref b/\ax[i]?=some (k,v)/\H b=some (.tup (k.map kV))/\RelV v es[i].val:=by
 obtain⟨z,lo,xs,rel,o,es,ep,h1,h2,h3,h4,h5⟩:=x
 have hl:es.size=xs.length:=size_of_entries h4
 have hx:ax.length=xs.length:=Paired.length rel
 have ks:ax.map (·.1)=xs.map (·.1):=by
  clear hl hx h4 h5 z
  induction rel with
  |nil=>rfl
  |cons h t ih=>rw [zzF,zzF,h.1,ih]
 refine⟨lo,ks▸h5,o,es,ep,h1,h2,h3,hl.trans hx.symm,λi hi=>?_⟩
 have e1:es[i]?=(xs[i]?).map (entryOfKey (tupleKind (aC P w))):=entry_at h4 i
 rw [zzg (show i<xs.length by omega),zz2 hi] at e1;have q:=gj rel (zzg (show i<ax.length by omega)) (zzg (show i<xs.length by omega))
 rw [zzq e1];exact⟨_,_,_,rfl,zzg (show i<ax.length by omega),q.2.1,q.2.2⟩
def k9{X:Cx}{aa:List (Addr×Obj)}{σ:St}{H:Hp}{s:Shared}{a:Addr}{o:Obj}{ax:List (List Key×V)}(I:Inv X aa σ H s)(e:H a=some (.cN o (.dT ax))):
 (a==sysModules)=false/\s.heap.get? a=some o/\o.ExactDict/\∃es ep,o.data=.dict es ep/\es.size=ax.length/\∀(i:Nat) (h:i<es.size),∃b k v,es[i].key=.ref b/\ax[i]?=some (k,v)/\H b=some (.tup (k.map kV)):=by
 obtain⟨h0,ok⟩:=(show bF X.prog X.w H s.heap a (.cN o (.dT ax)) from I.bj a _ e)
 obtain⟨lo,_,o',es,ep,h1,h2,h3,hl,hk⟩:=MW ok
 rw [h0] at h1;cases h1;exact⟨lo,h0,h2,es,ep,h3,hl,λi hi=>let⟨b,k,v,e1,e2,e3,_⟩:=hk i hi;⟨b,k,v,e1,e2,e3⟩⟩
def wJ{P:Program}{w:World}{K:zz8}{tg:Expr}{a it:Addr}{o:Obj}{es:Array DictEntry}{ep:Nat}{ax:List (List Key×V)}(hd:o.data=.dict es ep)(hl:es.size=ax.length):
 Turn P w K tg (P1 a o ax) [it] it (λi h=>h.IsKeyIter it a i es.size ep) where
 mem:=by simp
 obj:=λi h st b hb=>by
  have e:b=it:=by simpa using hb
  subst e;obtain⟨q,e,c,d⟩:=st
  exact⟨q,e,λv z=>by rw [d] at z;cases z⟩
 keep:=λi h h' st k=>st.at λo e=>k it (by simp) o e
 item:=by
  intro X hP hw hK hc i aa s σ H E I hf st hg;subst hP hw hK;obtain⟨g1,g2⟩:=hg
  obtain⟨lo,h0,hx,rl,ep',h3,qi,hks⟩:=k9 I g1
  rw [hd] at h3;cases h3;obtain⟨f0,f1,f2,f3,f4,f5⟩:=hf it (by simp)
  have hi:i<es.size:=by omega
  refine EY st h0 hd hi λh' eY sb=>?_
  obtain⟨b,k,v,e1,e2,e3⟩:=hks i hi
  have I1:Inv X aa σ H {s with heap:=h'}:=I.turned (t':=s.toks) (λb o hb e=>(sb.2 b hb).trans e) f0 f1 f3 f4 f5
  obtain⟨q,e,c,d⟩:=id eY
  refine⟨_,rfl,qO (s:={s with heap:=h'}) e c d (by decide) ⟨.ref b,H,I1,?_,⟨rfl,b,k,v,rfl,e2,e3⟩,eY,λb hb=>(hf b hb).1⟩⟩
  rw [e1];exact rfl
 done:=by
  intro X hP hw hK hc i aa s σ H E I hf st hg;subst hP hw hK;obtain⟨g1,g2⟩:=hg
  obtain⟨lo,h0,hx,rl,ep',h3,qi,hks⟩:=k9 I g1
  rw [hd] at h3;cases h3;obtain⟨f0,f1,f2,f3,f4,f5⟩:=hf it (by simp)
  exact Ik (I.ok.hd hc) st h0 hd (by omega) λh' eb=>⟨rfl,I.turned (t':=s.toks) (λb o hb e=>eb b o hb e) f0 f1 f3 f4 f5⟩
 self:=λ_ _ _ _ _ st h=>wpAny_pyIter_keyiter st h
noncomputable def PK(tl:TE):TI:=λσ H R=>tl σ H λx H1=>∃a o ax,x=.ref a/\H1 a=some (.cN o (.dT ax))/\R (P1 a o ax) H1
section
variable{X:Cx}{o e:Expr}
def IB{tg l:Expr}{tl:TE}(hl:PE X l tl):PI X tg l (PK tl):=by
 intro aa s σ H R I h;refine bA (hl aa s σ H _ I h) λv s1 ⟨x,H1,I1,r1,q1⟩=>?_
 obtain⟨a,o,ax,e,hq,q⟩:=q1
 subst e;cases r1;obtain⟨lo,h0,hx,es,ep,h3,qi,hks⟩:=k9 I1 hq
 refine Cn lo h0 hx h3 ?_;refine⟨(zz9 s1),[(zz9 s1)],_,_,H1,rfl,I1.kept (t':=s1.toks) λb o e=>zzB _ e,wJ h3 qi,⟨_,zzX _ rfl,rfl,rfl⟩,λb hb=>?_,q⟩
 have e:b=(zz9 s1):=by simpa using hb
 subst e;exact I1.kO (zzE _) (I1.bj.fresh (zzE _))
end
end L2
namespace L2
open PySem PySem.Spec PyProof.Rows PySem.W
noncomputable def aB{α:Type}(lt:Nat->Nat->Bool):KasT α->α
 |.ret a=>a
 |.ask i j k=>aB lt (k (lt i j))
def dt{α:Type}(n:Nat)(R:α->Prop):KasT α->Prop
 |.ret a=>R a
 |.ask i j k=>i<n/\j<n/\∀b,dt n R (k b)
theorem dt.bind{α β:Type}{n:Nat}{R:α->Prop}{R':β->Prop}{f:α->KasT β}(hf:∀a,R a->dt n R' (f a)):∀(t:KasT α),dt n R t->dt n R' (t.bind f)
 |.ret a,h=>hf a h
 |.ask i j k,h=>⟨h.1,h.2.1,λb=>dt.bind hf (k b) (h.2.2 b)⟩
theorem dt.run{α:Type}{n:Nat}{R:α->Prop}(lt:Nat->Nat->Bool):∀(t:KasT α),dt n R t->R (aB lt t)
 |.ret a,h=>h
 |.ask i j k,h=>dt.run lt (k (lt i j)) (h.2.2 _)
theorem zV{α:Type}{n:Nat}{R:α->Prop}{cmp:Nat->Nat->(Bool->Shared->Prop)->Shared->Prop}{lt:Nat->Nat->Bool}{Q:α->Shared->Prop}{s:Shared}
 (hc:∀i j C,i<n->j<n->C (lt i j) s->cmp i j C s):∀(t:KasT α),dt n R t->Q (aB lt t) s->t.kasWp cmp Q s
 |.ret a,_,h=>h
 |.ask i j k,a,h=>hc i j _ a.1 a.2.1 (zV hc (k (lt i j)) (a.2.2 _) h)
abbrev Pm(n:Nat)(p:Array Nat):Prop:=p.toList.Perm (List.range n)
def Pm.lt{n:Nat}{p:Array Nat}(h:Pm n p)(h0:0<n)(i:Nat):p.getD i 0<n:=by
 rw [Array.getD_eq_getD_getElem?];cases e:p[i]? with
 |none=>exact h0
 |some x=>
  have:x∈p.toList:=by rw [Array.mem_toList_iff];exact Array.mem_of_getElem? e
  exact List.mem_range.mp (h.mem_iff.mp this)
def Pm.rev{n:Nat}{p:Array Nat}(h:Pm n p)(i j:Nat):Pm n (kas_rev p i j):=(mirror_perm p i j _).toList.trans h
def Pm.RO{n:Nat}{p:Array Nat}(h:Pm n p)(i j:Nat):Pm n (bubble p i j):=(bubble_perm p i j).toList.trans h
section
variable{n:Nat}(h0:0<n)
include h0
theorem j1{p:Array Nat}(h:Pm n p):∀f m,dt n (λ_=>True) (kas_asc p f m)
 |0,m=>trivial
 |f+1,m=>⟨h.lt h0 _,h.lt h0 _,λb=>by dsimp only;split;exact trivial;exact j1 h f (m+1)⟩
theorem fF:∀f (p:Array Nat) m q,Pm n p->dt n (λr=>Pm n r.1) (kas_desc f p m q)
 |0,p,m,q,h=>h
 |f+1,p,m,q,h=>⟨h.lt h0 _,h.lt h0 _,λb=>by
  cases b with
  |true=>
   dsimp only;rw [if_pos rfl];split
   ·exact fF f _ _ _ (h.rev _ _)
   ·exact fF f _ _ _ h
  |false=>
   dsimp only;rw [if_neg (by simp)];exact⟨h.lt h0 _,h.lt h0 _,λb=>by dsimp only;split;exact h;exact fF f _ _ _ h⟩⟩
def mR{p:Array Nat}(h:Pm n p)(m r:Nat):dt n (λr=>Pm n r.2) (kas_tail3 m r p):=by
 unfold kas_tail3;refine dt.bind (R:=λ_=>True) (λa _=>?_) _ (j1 h0 (h.rev _ _) _ _);exact h.rev 0 m
def nF{p:Array Nat}(h:Pm n p)(m r:Nat):dt n (λr=>Pm n r.2) (kas_descPart m r p):=dt.bind (λa ha=>by
 split
 ·exact mR h0 (Pm.rev ha _ _) _ _
 ·exact mR h0 ha _ _) _ (fF h0 _ _ _ _ h)
def uB{p:Array Nat}(h:Pm n p)(r:Nat):dt n (λr=>Pm n r.2) (kas_count r p):=dt.bind (λa _=>by
 split
 ·exact h
 ·split
  ·exact⟨h.lt h0 _,h.lt h0 _,λb=>by dsimp only;split;exact h;exact nF h0 (h.rev _ _) _ _⟩
  ·exact nF h0 h _ _) _ (j1 h0 h _ _)
theorem gu{p:Array Nat}(h:Pm n p)(k:Nat):∀f l r,dt n (λ_=>True) (kas_place p k f l r)
 |0,l,r=>trivial
 |f+1,l,r=>by
  unfold kas_place;split
  ·exact trivial
  ·exact⟨h.lt h0 _,h.lt h0 _,λb=>by dsimp only;split;exact gu h k f _ _;exact gu h k f _ _⟩
theorem qS:∀f (p:Array Nat) k,Pm n p->dt n (Pm n) (kas_bin f p k)
 |0,p,k,h=>h
 |f+1,p,k,h=>dt.bind (λl _=>qS f _ _ (h.RO _ _)) _ (gu h0 h k _ _ _)
def m9:dt n (Pm n) (kas_sort n):=dt.bind (λa ha=>by
 split
 ·exact qS h0 _ _ _ ha
 ·exact ha) _ (uB h0 (List.Perm.refl _) n)
end
noncomputable def iq(n:Nat)(lt:Nat->Nat->Bool):List Nat:=(aB lt (kas_sort n)).toList
def fh{n:Nat}(h:0<n)(lt:Nat->Nat->Bool):(iq n lt).Perm (List.range n):=dt.run lt _ (m9 h)
section
variable{prog:Program}{w:World}{A:Around}{E:Value->Shared->Prop}{s:Shared}{a:Addr}{vs:List Value}{nss:List (List Int)}
def jY{S:Addr}{h:Heap}{c:Nat}{xs ys:Array Value}(e:h.get? S=some (seqObj "list" xs c)):∃c',(h.update S (Obj.mapSeq λ_=>ys)).get? S=some (seqObj "list" ys c'):=⟨_,get?_update_seq e λ_=>ys⟩
def lU(h:Heap)(vs:List Value)(nss:List (List Int)):Prop:=Paired (λv ns=>∃b o aj n,v=.ref b/\h.get? b=some o/\o.cls=.type "tuple"/\o.data=.seq aj n/\Vals (ns.map V.int) aj.toList/\ns≠[]) vs nss
def lU.keep{h h':Heap}(t:lU h vs nss)(k:∀b o,h.get? b=some o->o.cls=.type "tuple"->h'.get? b=some o):lU h' vs nss:=
 Paired.uL t λ_ _ ⟨b,o,aj,n,e1,e2,e3,e4,e5,e6⟩=>⟨b,o,aj,n,e1,k b o e2 e3,e3,e4,e5,e6⟩
theorem k7{b:Bool}{Q:Bool->Shared->Prop}:∀(ns ms:List Int) (xs ys:List Value) (i:Nat),Vals (ns.map V.int) xs->Vals (ms.map V.int) ys->Q (HT.lexLt ns ms) s->KatLex prog w A b (decide (xs.length<ys.length)) Q (xs.zip ys) i s
 |[],[],_,_,i,.nil,.nil,h=>by simpa [KatLex,HT.mD] using h
 |[],m::ms,_,_,i,.nil,.cons _ _,h=>by simpa [KatLex,HT.lexLt] using h
 |n::ns,[],_,_,i,.cons _ _,.nil,h=>by simpa [KatLex,HT.lexLt] using h
 |n::ns,m::ms,_,_,i,.cons (a:=_) (b:=u) h1 t1,.cons (b:=v) h2 t2,h=>by
  obtain⟨t,rfl⟩:=h1
  obtain⟨t',rfl⟩:=h2
  rw [HT.ux] at h;refine kat_cons (wpAny_eqBool_int ?_)
  by_cases e:n=m
  ·subst e;rw [if_pos rfl] at h;rw [show(n==n)=true from by simp];refine kat_yes ?_;have:=k7 (b:=b) ns ms _ _ (i+1) t1 t2 h
   simp! [zzL,Nat.add_lt_add_iff_right];exact this
  ·rw [if_neg e] at h;rw [show(n==m)=false from by simpa using e];refine kat_no ?_;cases hb:(b&&i==0) with
   |true=>exact oneLt_int h
   |false=>exact kat_one _ _ (PyProof.Rows.lt_int h)
def Ly(prog:Program)(w:World)(A:Around)(E:Value->Shared->Prop)(vs:List Value)(lt:Nat->Nat->Bool)(s:Shared):Prop:=∃κ:SortKind,(∀Q:SortKind->Shared->Prop,Q κ s->wpAny (model prog w) A (keyKind' vs.toArray) Q E s)/\∀i j (C:Bool->Shared->Prop),i<vs.length->j<vs.length->C (lt i j) s->kas_ask prog w A κ vs i j C s
def Bj(t1:lU s.heap vs nss)(h2:2<=vs.length):Ly prog w A E vs (λi j=>HT.lexLt (nss.getD i []) (nss.getD j [])) s:=by
 have hlen:vs.length=nss.length:=Paired.length t1
 have kt:∃fs,KatTups s.heap vs fs/\fs.length=vs.length/\∀v∈fs,∃i t,v=.int i t:=by
  clear hlen h2
  induction t1 with
  |nil=>exact⟨[],trivial,rfl,λv hv=>nomatch hv⟩
  |cons h t ih=>
   obtain⟨fs,i1,i2,i3⟩:=ih
   obtain⟨b,o,aj,n,rfl,g1,g2,g3,g4,g5⟩:=h
   rename_i ns _ _;cases ns with
   |nil=>exact absurd rfl g5
   |cons m ms=>
    rw [zzF] at g4;cases hi:aj.toList with
    |nil=>rw [hi] at g4;cases g4
    |cons f r=>
     rw [hi] at g4;cases g4 with
     |cons r1 r2=>
      obtain⟨tk,rfl⟩:=r1
      have f0:aj[0]?=some (.int m tk):=by rw [<-Array.getElem?_toList,hi];rfl
      exact⟨.int m tk::fs,.cons g1 g2 g3 f0 i1,by simp [i2],λv hv=>by
       rcases zzm.mp hv with rfl|hv
       ·exact⟨m,tk,rfl⟩
       ·exact i3 v hv⟩
 obtain⟨fs,kt1,kt2,kt3⟩:=kt
 refine⟨_,λQ q=>kat_kind (T:=.type "int") kt1 (by omega) (λv hv=>?_) rfl q,λi j C hi hj hC=>?_⟩
 ·obtain⟨i,t,rfl⟩:=kt3 v hv
  exact .now
 ·unfold kas_ask;obtain⟨b,o,aj,n,e1,g1,g2,g3,g4,_⟩:=gj t1 (zzg hi) (zzg (show i<nss.length by omega))
  obtain⟨b',o',its',n',e1',g1',g2',g3',g4',_⟩:=gj t1 (zzg hj) (zzg (show j<nss.length by omega))
  have v1:vs.getD i Value.none=.ref b:=by simp [hi,e1]
  have v2:vs.getD j Value.none=.ref b':=by simp [hj,e1']
  have n1:nss.getD i []=nss[i]'(by omega):=by simp [show i<nss.length by omega]
  have n2:nss.getD j []=nss[j]'(by omega):=by simp [show j<nss.length by omega]
  rw [v1,v2];dsimp only at hC;rw [n1,n2] at hC;refine kat_lt g1 g3 g1' g3' ?_;have:=k7 (prog:=prog) (w:=w) (A:=A) (b:=(Value.type "int" !=Value.type "tuple")) _ _ _ _ 0 g4 g4' hC
  simpa using this
def xf{n:Nat}{P:PySem.Fin->Shared->Prop}{lt:Nat->Nat->Bool}(ho:s.heap.get? a=some (seqObj "list" vs.toArray n))(h2:2<=vs.length)(Ko:vs.length<64)(rd:∀h',(∀b o,b≠a->s.heap.get? b=some o->h'.get? b=some o)->Ly prog w A E vs lt {s with heap:=h'})
 (h:∀h' c,(∀b o,b≠a->s.heap.get? b=some o->h'.get? b=some o)->h'.get? a=some (seqObj "list" ((iq vs.length lt).map λi=>vs.getD i Value.none).toArray c)->P (.done (.ret .none)) {s with heap:=h'}):
 wpAny (model prog w) A (Builtin.«list.sort» ⟨[.ref a],[]⟩) P E s:=by
 have s1:=zzu s.heap a (Obj.mapSeq λ_=>(#[]:Array Value))
 obtain⟨e1,ho1⟩:∃e1,(s.heap.update a (Obj.mapSeq λ_=>(#[]:Array Value))).get? a=some (seqObj "list" #[] e1):=⟨_,get?_update_seq ho λ_=>#[]⟩
 generalize hH:(((s.heap.update a (Obj.mapSeq λ_=>(#[]:Array Value))).push (seqObj "tuple" vs.toArray 0)).push (seqObj "list" #[] 0))=H1
 have k1:∀b o,b≠a->s.heap.get? b=some o->H1.get? b=some o:=λb o hb e=>by rw [<-hH];exact zzB _ (zzB _ ((s1.2 b hb).trans e))
 have a1:H1.get? a=some (seqObj "list" #[] e1):=by rw [<-hH];exact zzB _ (zzB _ ho1)
 obtain⟨κ,kk,lts⟩:=rd H1 k1
 rw [list_sort_plain];refine zzA (listItems_at ho rfl (zzA (listUpdate_at ho rfl ?_ (by rw [zzC,sizeLine_eq];omega) (Nat.zero_le _))));refine zzA (seqEpoch_at ho1 rfl (zzA (wpAny_newTuple ?_ (by show vs.length<=_;rw [sizeLine_eq];omega))));refine zzA (wpAny_newList ?_ (Nat.zero_le _));refine wpAny_holding ?_;show wpAny (model prog w) A _ P E {s with heap:=((s.heap.update a (Obj.mapSeq λ_=>(#[]:Array Value))).push (seqObj "tuple" vs.toArray 0)).push (seqObj "list" #[] 0)}
 rw [hH];dsimp only;have HW:¬vs.toArray.size<2:=by rw [zzC];omega
 rw [if_neg HW,if_neg HW];refine zzA (kk _ ?_);refine zzA (wpAny_mono (kat_run (Q:=λeY s'=>∃p:Array Nat,p.size=vs.length/\arrOf eY=p.map (kas_item (vs.toArray.zip vs.toArray))/\failedOf eY=none/\p=aB lt (kas_sort vs.length)/\s'={s with heap:=H1})
  rfl h2 Ko (λp' eY s' a1 a2 a3 a4=>⟨p',a1,a2,a3,a4⟩) (zV lts _ (m9 (by omega)) ⟨rfl,rfl⟩)) ?_ λ_ _ e=>e)
 rintro ⟨⟨⟩,eY⟩ s' ⟨p,hp,har,hf,rfl,rfl⟩
 dsimp only;have Ii:=kat_snds rfl har
 rw [Ii];have s2:=zzu H1 a (Obj.mapSeq λ_=>List.toArray ((aB lt (kas_sort vs.length)).toList.map λi=>vs.getD i Value.none))
 obtain⟨c2,hc2⟩:=jY (ys:=List.toArray ((aB lt (kas_sort vs.length)).toList.map λi=>vs.getD i Value.none)) a1
 refine zzA (seqEpoch_at a1 rfl (zzA (listUpdate_at a1 rfl ?_ (Nat.zero_le _) (by
  show(List.toArray _).size<=_
  rw [zzC,zzl,zzd,hp,sizeLine_eq];omega))))
 rw [hf];simp! [bne_self_eq_false,zze,if_false];exact zzG (h _ c2 (λb o hb e=>(s2.2 b hb).trans (k1 b o hb e)) hc2)
end
end L2
namespace L2
open PySem PySem.Spec PyProof.Rows
def wX:typeLookup (.type "list") "keys"=pure none:=by rw [typeLookup_type,builtinLookup_eq_fast];kernel_rfl
def qQ:entryFor table "dict.update.loop"=some Builtin.«dict.update.loop»:=entryFor_of_tree (by kernel_rfl)
def hV:plainId "dict.update.loop"=true:=by decide+kernel
section
variable{prog:Program}{w:World}{A:Around}{E:Value->Shared->Prop}{s:Shared}{a:Addr}{o:Obj}{xs:Array Value}{k:Nat}
def C8{Q:Option Value->Shared->Prop}(hx:s.heap.get? a=some o)(hc:o.cls=.type "list")(Nj:o.data=.seq xs k)(hd:o.dict=none)(hA:A.handled=none)
 (h:∀h' tk,(∀b o,s.heap.get? b=some o->h'.get? b=some o)->Q none {s with heap:=h',toks:=tk}):wpAny (model prog w) A (getAttr? (.ref a) "keys") Q E s:=by
 obtain⟨c,br,dat,sl⟩:=o
 simp only at hc Nj hd;subst hc Nj hd;obtain⟨hp,g,d,tk,os⟩:=s
 have hT:∀Bp,(⟨hp,g,d,Bp,os⟩:Shared).TypeIs (.ref a) "list":=λ_=>⟨_,hx,rfl⟩
 have f1:=sub_AttributeError
 have f3:=F.slot_list_getattribute.lookup
 have f4:=F.slot_list_getattribute.bind (.ref a)
 have f5:=am_list_getattr_none
 unfold getAttr? getAttrBy? getAttrBy
 repeat (any_goals (first|assumption|exact hT _|((with_reducible show wpAny _ _ (call (Value.builtin "list.__getattribute__") _ _) _ _ _);refine call_meets F.slot_list_getattribute (hT _) am_entry_list_getattribute (F.args_list_getattribute_2 _ _) (meets_getattribute_miss_list a xs k sl "keys" _ wX (by decide) (by size_fits)) ⟨hx,hA,λh' Bp e oX=>?_⟩)|wp_step))
 obtain⟨t',u',he⟩:=oX.there
 show wpAny _ _ (getattributeRaised _ _ _ _ _ _ _) _ _ _
 unfold getattributeRaised
 repeat (any_goals (first|assumption|wp_step))
 exact h h' Bp oX.keeps
end
noncomputable def dF(ax more:List (List Key×V)):List (List Key×V):=more.foldl (λacc kv=>putK acc kv.1 kv.2) ax
abbrev f7(K:zz8)(H:Hp)(vs:List V)(ax:List (List Key×V)):Prop:=Paired (λv kv=>∃q b,v=V.ref q/\eB K H q [.ref b,kv.2]/\H b=some (.tup (kv.1.map kV))) vs ax
section
variable{X:Cx}{aa:List (Addr×Obj)}{σ:St}{l d it:Addr}{vs:List V}{A:Around}{E:Value->Shared->Prop}{R:Result->Shared->Prop}
def yv{H:Hp}{s:Shared}{a b:Addr}{ax:List (List Key×V)}{k:List Key}{v:V}{r:Value}{Q:Unit->Shared->Prop}(hu:A.units<cLine)(I:Inv X aa σ H s)(e:H a=some (.dT ax))(eb:H b=some (.tup (k.map kV)))(l:ax.length<sizeLine)(rv:RelV v r)
 (h:∀h' t,Heap.SameBut a s.heap h'->Inv X aa σ (upd H a (.dT (putK ax k v))) {s with heap:=h',toks:=t}->Q () {s with heap:=h',toks:=t}):wpAny (model X.prog X.w) A (dictSet a (.ref b) r) Q E s:=by
 obtain⟨z,lo,xs,rel,dd⟩:=FE I.bj e
 have hz:xs.length<=sizeLine:=by rw [<-rel.len];exact z
 have hl:(putK ax k v).length<=sizeLine:=by have:=dO ax k v;omega
 refine wpAny_dictSet_heap (hsz:=hz) (knd:=tupleKind (aC X.prog X.w)) hu (gr I.bj eb) dd λh' KN hs=>h h' _ hs ?_
 obtain⟨q,es,ep,hq,h2,h3,h4,_,h5⟩:=KN
 refine jh I (by rw [e];exact True.intro) hs ⟨q,hq⟩ ⟨hl,lo,_,(rel.put k eb rv).keeps λc ys ec=>?_,q,es,ep,hq,h2,h3,h4,h5⟩
 rw [ai (iK ec e (λz=>nomatch z))];exact ec
def eB.fN{K:zz8}{H H':Hp}{a:Addr}{xs:List V}(h:eB K H a xs)(e:∀b,b≠d->H' b=H b){acc:List (List Key×V)}(hd:H d=some (.dT acc)):eB K H' a xs:=by
 rcases h with(h|⟨o,h⟩)|h
 ·exact .inl (.inl (by rw [e a (iK h hd (λz=>nomatch z))];exact h))
 ·exact .inl (.inr ⟨o,by rw [e a (iK h hd (λz=>nomatch z))];exact h⟩)
 ·exact .inr h
def di.fN{K:zz8}{H H':Hp}{a:Addr}{xs:List V}(h:di K H a xs)(e:∀b,b≠d->H' b=H b){acc:List (List Key×V)}(hd:H d=some (.dT acc)):di K H' a xs:=by
 rcases h with(h|⟨o,h⟩)|h
 ·exact .inl (.inl (by rw [e a (iK h hd (λz=>nomatch z))];exact h))
 ·exact .inl (.inr ⟨o,by rw [e a (iK h hd (λz=>nomatch z))];exact h⟩)
 ·exact .inr h
def f7.fN{K:zz8}{H H':Hp}{ax:List (List Key×V)}(e:∀b,b≠d->H' b=H b){acc:List (List Key×V)}(hd:H d=some (.dT acc)):∀{vs:List V},f7 K H vs ax->f7 K H' vs ax:=λh=>
 Paired.uL h λ_ _ ⟨q,b,e1,e2,e3⟩=>⟨q,b,e1,eB.fN e2 e hd,by rw [e b (iK e3 hd (λz=>nomatch z))];exact e3⟩
def C3(hu:A.units+1<cLine)(hh:A.handled=none):∀(rest:List (List Key×V)) (i:Nat) (j:Int) (acc:List (List Key×V)) (H:Hp) (s:Shared),Inv X aa σ H s->fO X aa H it->s.heap.IsListIter it l i->di X.K H l vs->f7 X.K H (vs.drop i) rest->H d=some (.dT acc)->acc.length+rest.length<=sizeLine->
 (∀s' H',Inv X aa σ H' s'->H' d=some (.dT (dF acc rest))->(∀b,b≠d->H' b=H b)->R (.ok (.ret .none)) s')->codeAny (model X.prog X.w) A (.builtin "dict.update.loop" ⟨[.ref d,.ref it,rawInt j,.none],[]⟩) R s:=by
 intro rest
 induction rest with
 |nil=>
  intro i j acc H s I hf st hl pr hd hz k;obtain⟨aj,rv,p,_⟩:=I.list hl
  obtain⟨f0,f1,f2,f3,f4,f5⟩:=hf
  have hi:vs.length<=i:=List.drop_eq_nil_iff.mp (by cases h:vs.drop i with|nil=>rfl|cons x r=>rw [h] at pr;cases pr)
  have hle:=rv.length
  refine codeAny_builtin qQ ?_;rw [zz7 hV _];show wpAny _ A.in1 (pyNext (.ref it)>>=λz=>_) _ _ s
  refine zzA (wpAny_pyNext_list_end hh st p.isList (by simp;omega) λh' eb=>?_)
  show wpAny _ _ (Builtin.Dict.addKeywords d []>>=λ_=>_) _ _ _
  exact zzA (zzG (zzG (k _ H (I.turned (t':=s.toks) (λb o hb e=>eb b o hb e) f0 f1 f3 f4 f5) hd λ_ _=>rfl)))
 |cons kv rest ih=>
  intro i j acc H s I hf st hl pr hd hz k;obtain⟨aj,rv,p,_⟩:=I.list hl
  obtain⟨f0,f1,f2,f3,f4,f5⟩:=id hf
  obtain⟨v,vr,hv,⟨q,b,rfl,hq,hb⟩,pr'⟩:∃v vr,vs.drop i=v::vr/\(∃q b,v=V.ref q/\eB X.K H q [.ref b,kv.2]/\H b=some (.tup (kv.1.map kV)))/\f7 X.K H vr rest:=by
   cases h:vs.drop i with
   |nil=>rw [h] at pr;cases pr
   |cons x r=>rw [h] at pr;cases pr with|cons h1 h2=>exact⟨x,r,rfl,h1,h2⟩
  have TF:vs[i]?=some (.ref q):=by rw [<-List.head?_drop,hv];rfl
  have Uk:vs.drop (i+1)=vr:=by rw [<-List.drop_drop,hv];rfl
  obtain⟨u,Fw,ru⟩:=rv.get TF
  cases(show u=Value.ref q from ru);refine codeAny_builtin qQ ?_;rw [zz7 hV _];show wpAny _ A.in1 (pyNext (.ref it)>>=λz=>_) _ _ s
  refine zzA (wpAny_pyNext_list_item st p.isList (x:=Value.ref q) (by simpa using Fw) λh' eY sb=>?_)
  have I1:Inv X aa σ H {s with heap:=h'}:=I.turned (t':=s.toks) (λb o hb e=>(sb.2 b hb).trans e) f0 f1 f3 f4 f5
  obtain⟨dC,rv2,p2,_⟩:=I1.tuple hq
  obtain⟨o2,g1,g2,n2,g3⟩:=id p2
  obtain⟨u1,u2,rfl,ru1,ru2⟩:∃u1 u2,dC=[u1,u2]/\RelV (.ref b) u1/\RelV kv.2 u2:=by
   cases rv2 with|cons h1 h2=>cases h2 with|cons h3 h4=>cases h4;exact⟨_,_,rfl,h1,h3⟩
  cases(show u1=Value.ref b from ru1);show wpAny _ A.in1 (holding [Value.ref q] _>>=λz=>_) _ _ {s with heap:=h'};refine zzA (wpAny_holding (zzA (wpAny_tryCatch ?_)));unfold Builtin.Dict.pairItems;refine zzA (wpAny_typeOf (s:={s with heap:=h'}) ⟨o2,g1,g2⟩ ?_);rw [if_pos (by decide)];refine zzA (wpAny_seqItems g1 g3 (zzG ?_));show wpAny _ A.in1 (holding [Value.ref b,u2] (dictSet d (.ref b) u2)) _ _ _;refine wpAny_holding (yv hu I1 hd hb (by rw [zzL] at hz;omega) ru2 λh2 t2 Qh I2=>?_)
  have fN:∀c,c≠d->upd H d (.dT (putK acc kv.1 kv.2)) c=H c:=λc hc=>ai hc
  have nd:it≠d:=λz=>by rw [z,hd] at f0;cases f0
  refine zzG ⟨plainId_quiet hV _,ih (i+1) (j+1) _ _ _ I2 ⟨by rw [fN _ nd];exact f0,f1,f2,f3,f4,f5⟩ (eY.at λo e=>(Qh.2 it nd).trans e) (di.fN hl fN hd) (f7.fN fN hd (by rw [Uk];exact pr')) ak ?_ λs' H' J1 J2 J3=>k s' H' J1 J2 λc hc=>(J3 c hc).trans (fN c hc)⟩
  have:=dO acc kv.1 kv.2
  rw [zzL] at hz;omega
def tY(hc:X.calm=true)(hu:X.A.units+3<cLine):bV X (.type "dict") (λxs H Q=>∃l vs ax,xs=[V.ref l]/\di X.K H l vs/\f7 X.K H vs ax/\∀p,H p=none->Q (.ref p) (upd H p (.dT (dF [] ax)))):=by
 intro aa s σ H xs us Q I r h;obtain⟨l,vs,ax,rfl,hl,pr,q⟩:=h
 obtain⟨u,rfl,ru⟩:=vals1 r
 cases ru;have hh:X.A.handled=none:=I.ok.hd hc
 refine callType_codes (Q₁:=λobj s₁=>obj=.ref (zz9 s)/\s₁={s with heap:=s.heap.push {cls:=.type "dict",data:=.dict #[]}}) F.kt_called_dict (F.kt_typeCall_dict_1 _) F.entry_dict_init (kt_code_dict_new _ ⟨rfl,rfl⟩) ?_
 rintro obj s₁ ⟨rfl,rfl⟩
 have hn:H (zz9 s)=none:=I.bj.fresh (zzE _)
 have I1:=I.laid (a:=(zz9 s)) (o:=.dT []) (t':=s.toks) (λ_ _ q=>zzB _ q) (zzE _) (lh s.heap I.big)
 have T:(⟨s.heap.push {cls:=.type "dict",data:=.dict #[]},s.gens,s.drawn,s.toks,s.os⟩:Shared).TypeIs (.ref (zz9 s)) "dict":=⟨_,zzX _ rfl,rfl⟩
 have fN:∀c,c≠(zz9 s)->upd H (zz9 s) (.dT []) c=H c:=λc hc=>ai hc
 have same:av H (upd H (zz9 s) (.dT [])):=aW hn
 have Nk:di X.K (upd H (zz9 s) (.dT [])) l vs:=same.seq hl
 obtain⟨aj,rv,p,hz⟩:=I1.list Nk
 obtain⟨o,n,g1,g2,g3,g4⟩:=id p
 refine⟨T,F.args_dict_init_2 _ _,?_⟩;unfold Builtin.«dict.__init__» Builtin.Dict.selfAndRest;refine zzA (zzA (wpAny_notOrdered_dict T ?_));show wpAny _ _ (pure ((zz9 s),[Value.ref l]):Sem _) _ _ _;refine zzG ?_;show wpAny _ _ (Builtin.Dict.updateFrom "dict.__init__" (zz9 s) (.ref l) [] .none) _ _ _;unfold Builtin.Dict.updateFrom;refine zzA (wpAny_typeOf ⟨o,g1,g2⟩ ?_);rw [if_pos (by decide)];refine zzA (C8 g1 g2 g4 g3 hh λh' tk hk=>?_);rw [if_pos (by decide)];refine zzA (wpAny_rule ?_);have I2:=I1.kept (h':=h') (t':=tk) hk
 obtain⟨its',rv',p',_⟩:=I2.list Nk
 refine zzA (wpAny_pyIter_list p'.isList ?_);have I3:=I2.kept (h':=h'.push {cls:=.type "list_iterator",data:=.fields #[.ref l,.int 0 0]}) (t':=tk) λb o e=>zzB _ e
 have Uu:(h'.push {cls:=.type "list_iterator",data:=.fields #[.ref l,.int 0 0]}).IsListIter h'.objs.size l 0:=⟨_,zzX _ rfl,rfl,rfl⟩
 have U1:fO X aa (upd H (zz9 s) (.dT [])) h'.objs.size:=I2.kO (zzE _) (I2.bj.fresh (zzE _))
 refine zzG ⟨plainId_quiet hV _,C3 (X:=X) (A:=X.A.in1) (aa:=aa) (σ:=σ) (l:=l) (d:=(zz9 s)) (it:=h'.objs.size) (vs:=vs) (by show X.A.units+1+1<cLine;omega) (show X.A.in1.handled=none from hh) ax 0 0 [] _ _ I3 U1 Uu Nk ?_ ak ?_ λs' H' J1 J2 J3=>⟨rfl,?_⟩⟩
 ·exact Paired.uL pr λ_ _ ⟨q,b,e1,e2,e3⟩=>⟨q,b,e1,(show eB X.K _ q _ from by
   rcases e2 with(e2|⟨o,e2⟩)|e2
   ·exact .inl (.inl (same _ _ e2))
   ·exact .inl (.inr ⟨o,same _ _ e2⟩)
   ·exact .inr e2),same _ _ e3⟩
 ·have:=Paired.length pr
  rw [List.length_nil];omega
 ·have e:H'=upd H (zz9 s) (.dT (dF [] ax)):=by
   funext b
   by_cases hb:b=(zz9 s)
   ·rw [hb,ak];exact J2
   ·rw [ai hb,J3 b hb,ai hb]
  rw [e] at J1;exact⟨.ref (zz9 s),_,J1,rfl,q _ hn⟩
def uj(hc:X.calm=true)(hu:X.A.units+3<cLine):bV X (.type "dict") (λxs H Q=>∃l vs ax,xs=[V.ref l]/\di X.K H l vs/\f7 X.K H vs ax/\∀p o,H p=none->Q (.ref p) (upd H p (.cN o (.dT (dF [] ax))))):=by
 intro aa s σ H xs us Q I r h;obtain⟨l,vs,ax,rfl,hl,pr,q⟩:=h
 refine wpAny_mono (tY hc hu aa s σ H _ us (λv H'=>∃p,v=.ref p/\H p=none/\H'=upd H p (.dT (dF [] ax))) I r ⟨l,vs,ax,rfl,hl,pr,λp hp=>⟨p,rfl,hp,rfl⟩⟩) ?_ λ_ _ z=>z
 rintro u s' ⟨v,H',I',rv,p,rfl,hp,rfl⟩
 obtain⟨o,J⟩:=I'.freeze ak
 have e:upd (upd H p (.dT (dF [] ax))) p (.cN o (.dT (dF [] ax)))=upd H p (.cN o (.dT (dF [] ax))):=by
  funext b
  by_cases hb:b=p
  ·rw [hb,ak,ak]
  ·rw [ai hb,ai hb,ai hb]
 rw [e] at J;exact⟨_,_,J,rv,q p o hp⟩
variable{S:Addr}
def uP{h:Heap}{c:Nat}{xs ys:Array Value}(e:h.get? S=some (seqObj "list" xs c)):∃c',(h.update S (Obj.mapSeq λ_=>ys)).get? S=some (seqObj "list" ys c'):=⟨_,get?_update_seq e λ_=>ys⟩
end
end L2
namespace L2
open PySem PySem.Spec PyProof.Rows PySem.W
noncomputable def my{α:Type}(dflt:α)(l:List α)(nss:List (List Int)):List α:=if l.length<2 then l else(iq l.length λi j=>HT.lexLt (nss.getD i []) (nss.getD j [])).map λi=>l.getD i dflt
section
variable{prog:Program}{w:World}{A:Around}{E:Value->Shared->Prop}{s:Shared}{a:Addr}{vs:List Value}{nss:List (List Int)}
def yJ{n:Nat}{P:PySem.Fin->Shared->Prop}(ho:s.heap.get? a=some (seqObj "list" vs.toArray n))(h2:vs.length<2)
 (h:∀h' c,(∀b o,b≠a->s.heap.get? b=some o->h'.get? b=some o)->h'.get? a=some (seqObj "list" vs.toArray c)->P (.done (.ret .none)) {s with heap:=h'}):wpAny (model prog w) A (Builtin.«list.sort» ⟨[.ref a],[]⟩) P E s:=by
 have s1:=zzu s.heap a (Obj.mapSeq λ_=>(#[]:Array Value))
 obtain⟨e1,ho1⟩:=jY (ys:=(#[]:Array Value)) ho
 generalize hH:(((s.heap.update a (Obj.mapSeq λ_=>(#[]:Array Value))).push (seqObj "tuple" vs.toArray 0)).push (seqObj "list" #[] 0))=H1
 have k1:∀b o,b≠a->s.heap.get? b=some o->H1.get? b=some o:=λb o hb e=>by rw [<-hH];exact zzB _ (zzB _ ((s1.2 b hb).trans e))
 have a1:H1.get? a=some (seqObj "list" #[] e1):=by rw [<-hH];exact zzB _ (zzB _ ho1)
 rw [list_sort_plain];refine zzA (listItems_at ho rfl (zzA (listUpdate_at ho rfl ?_ (by rw [zzC,sizeLine_eq];omega) (Nat.zero_le _))));refine zzA (seqEpoch_at ho1 rfl (zzA (wpAny_newTuple ?_ (by show vs.length<=_;rw [sizeLine_eq];omega))));refine zzA (wpAny_newList ?_ (Nat.zero_le _));refine wpAny_holding ?_;show wpAny (model prog w) A _ P E {s with heap:=((s.heap.update a (Obj.mapSeq λ_=>(#[]:Array Value))).push (seqObj "tuple" vs.toArray 0)).push (seqObj "list" #[] 0)}
 rw [hH];dsimp only;have HW:vs.toArray.size<2:=by rw [zzC];omega
 rw [if_pos HW,if_pos HW];refine zzA (zzG (zzA ?_));show wpAny (model prog w) A (pure ((),SortSt.mk' general' (vs.toArray.zip vs.toArray) #[] 7 none)) _ E _;refine zzG ?_;dsimp only;have Ii:(arrOf (SortSt.mk' general' (vs.toArray.zip vs.toArray) #[] 7 none)).map (·.2)=vs.toArray:=by
  show(vs.toArray.zip vs.toArray).map (·.2)=vs.toArray
  apply Array.toList_inj.mp
  simp! [Array.toList_map,Array.toList_zip];exact List.map_snd_zip (zzE _)
 rw [Ii];have s2:=zzu H1 a (Obj.mapSeq λ_=>vs.toArray)
 obtain⟨c2,hc2⟩:=jY (ys:=vs.toArray) a1
 refine zzA (seqEpoch_at a1 rfl (zzA (listUpdate_at a1 rfl ?_ (Nat.zero_le _) (by rw [zzC,sizeLine_eq];omega))));simp! [bne_self_eq_false,zze,if_false];exact zzG (h _ c2 (λb o hb e=>(s2.2 b hb).trans (k1 b o hb e)) hc2)
def yy{n:Nat}{P:PySem.Fin->Shared->Prop}(ho:s.heap.get? a=some (seqObj "list" vs.toArray n))(Ko:vs.length<64)(rd:2<=vs.length->∀h',(∀b o,b≠a->s.heap.get? b=some o->h'.get? b=some o)->Ly prog w A E vs (λi j=>HT.lexLt (nss.getD i []) (nss.getD j [])) {s with heap:=h'})
 (h:∀h' c,(∀b o,b≠a->s.heap.get? b=some o->h'.get? b=some o)->h'.get? a=some (seqObj "list" (my Value.none vs nss).toArray c)->P (.done (.ret .none)) {s with heap:=h'}):wpAny (model prog w) A (Builtin.«list.sort» ⟨[.ref a],[]⟩) P E s:=by
 by_cases h2:vs.length<2
 ·exact yJ ho h2 λh' c k e=>h h' c k (by unfold my;rw [if_pos h2];exact e)
 ·exact xf ho (by omega) Ko (rd (by omega)) λh' c k e=>h h' c k (by unfold my;rw [if_neg h2];exact e)
end
abbrev j3(K:zz8)(H:Hp)(vs:List V)(nss:List (List Int)):Prop:=Paired (λv ns=>∃b,v=V.ref b/\eB K H b (ns.map V.int)/\ns≠[]) vs nss
section
variable{X:Cx}{aa:List (Addr×Obj)}{σ:St}{H:Hp}{s:Shared}{vs:List V}{us:List Value}{nss:List (List Int)}{A:Around}{E:Value->Shared->Prop}{Q:VK}
def Ck(I:Inv X aa σ H s):∀{vs:List V} {us:List Value} {nss:List (List Int)},Vals vs us->j3 X.K H vs nss->lU s.heap us nss:=by
 intro vs us nss r t
 induction t generalizing us with
 |nil=>cases r;exact .nil
 |cons h t ih=>
  obtain⟨b,rfl,hq,dH⟩:=h
  cases r with
  |cons r1 r2=>
   cases(show _=Value.ref b from r1);obtain⟨aj,rv,⟨o,g1,g2,n,g3⟩,_⟩:=I.tuple hq
   exact .cons ⟨b,o,aj.toArray,n,rfl,g1,g2,g3,by simpa using rv,dH⟩ (ih r2)
def BH(r:Vals vs us):Vals (my V.ay vs nss) (my Value.none us nss):=by
 have hl:=r.length
 unfold my;rw [hl];split
 ·exact r
 ·have go:∀l:List Nat,Vals (l.map λi=>vs.getD i V.ay) (l.map λi=>us.getD i Value.none):=by
   intro l
   induction l with
   |nil=>exact .nil
   |cons i l ih=>
    refine .cons ?_ ih;dsimp only
    by_cases hi:i<vs.length
    ·obtain⟨u,hu,ru⟩:=r.get (zzg hi)
     have e1:vs.getD i V.ay=vs[i]:=by simp [hi]
     have e2:us.getD i Value.none=u:=by simp [hu]
     rw [e1,e2];exact ru
    ·have e1:vs.getD i V.ay=.ay:=by simp [Nat.le_of_not_lt hi]
     have e2:us.getD i Value.none=.none:=by simp [Nat.le_of_not_lt (hl▸hi)]
     rw [e1,e2];exact rfl
  exact go _
def CM{α:Type}{d:α}{l:List α}:(my d l nss).length=l.length:=by
 unfold my;split
 ·rfl
 ·rename_i h;rw [zzl,(fh (by omega) _).length_eq,List.length_range]
def sU(I:Inv X aa σ H s)(r:Vals vs us)(rd:2<=us.length->∀h',(∀b o,s.heap.get? b=some o->h'.get? b=some o)->Ly X.prog X.w A.in1 E us (λi j=>HT.lexLt (nss.getD i []) (nss.getD j [])) {s with heap:=h'})(Ko:vs.length<64)(q:∀p,H p=none->Q (.ref p) (upd H p (.lst (my V.ay vs nss)))):
 wpAny (model X.prog X.w) A (newList us>>=λl=>holding [l] (call (.builtin "list.sort") [l] [])>>=λ_=>ret l) (λfin s'=>∃v,fin=.done (.ret v)/\EP X aa σ Q v s') E s:=by
 have hl:=r.length
 refine zzA (wpAny_newList ?_ (by rw [sizeLine_eq];omega));have NC:(s.heap.push (seqObj "list" us.toArray 0)).get? (zz9 s)=some (seqObj "list" us.toArray 0):=zzX _ rfl
 have kp:∀b o,s.heap.get? b=some o->(s.heap.push (seqObj "list" us.toArray 0)).get? b=some o:=λb o e=>zzB _ e
 refine zzA (wpAny_holding (wpAny_call_entry slot_list_sort ⟨_,NC,rfl⟩ entry_list_sort ?_ (args_list_sort _)));refine yy (s:={s with heap:=s.heap.push (seqObj "list" us.toArray 0)}) NC (by omega) (λh2 h' k=>rd h2 h' λb o e=>k b o (zzb (zzO e)) (kp b o e)) λh' c k e=>⟨_,rfl,zzG ⟨_,rfl,.ref (zz9 s),upd H (zz9 s) (.lst (my V.ay vs nss)),?_,rfl,q _ (I.bj.fresh (zzE _))⟩⟩
 exact I.laid (a:=(zz9 s)) (t':=s.toks) (λb o z=>k b o (zzb (zzO z)) (kp b o z)) (zzE _) ⟨by rw [CM,sizeLine_eq];omega,_,c,BH r,e⟩
theorem zR(I:Inv X aa σ H s)(r:Vals vs us)(t:j3 X.K H vs nss)(h2:2<=us.length)(h':Heap)(k:∀b o,s.heap.get? b=some o->h'.get? b=some o):Ly X.prog X.w A E us (λi j=>HT.lexLt (nss.getD i []) (nss.getD j [])) {s with heap:=h'}:=Bj (s:={s with heap:=h'}) ((Ck I r t).keep λb o e _=>k b o e) h2
end
end L2
namespace L2
open PySem PySem.Spec PyProof.Rows
noncomputable def cy(ns:List Int):Nat->Int
 |0=>ns.getD 0 0
 |k+1=>if cy ns k<ns.getD (k+1) 0 then ns.getD (k+1) 0 else cy ns k
noncomputable def maxD(ns:List Int)(d:Int):Int:=if ns=[] then d else cy ns (ns.length-1)
def xS(a v:Value):argsOk "max" ⟨[a],[(Str.ofString "default",v)]⟩:=by unfold argsOk;kernel_rfl
section
variable{prog:Program}{w:World}{A:Around}{it l S:Addr}{ns:List Int}{aj:List Value}{dv:Value}{R:Result->Shared->Prop}
def xB(hh:A.handled=none)(n1:S≠it)(n2:l≠it)(n3:l≠S)(hv:∀i (h:i<ns.length),∃t,aj[i]?=some (.int ns[i] t))(Vn:aj.length=ns.length){s0:Shared}
 (hR:∀t h' tk,(∀b o,b≠it->b≠S->s0.heap.get? b=some o->h'.get? b=some o)->R (.ok (.ret (.int (cy ns (ns.length-1)) t))) {s0 with heap:=h',toks:=tk}):
 ∀(r j:Nat) (h:Heap) (tk:Nat) (t:Tok) (c:Nat),ns.length-(j+1)=r->j+1<=ns.length->(∀b o,b≠it->b≠S->s0.heap.get? b=some o->h.get? b=some o)->h.IsListIter it l (j+1)->h.IsList l aj.toArray->h.get? S=some (seqObj "list" #[.int (cy ns j) t,.int (cy ns j) t] c)->
  codeAny (model prog w) A (.builtin "max.loop" ⟨[.ref it,.none,.ref S],[(Str.ofString "default",dv)]⟩) R {s0 with heap:=h,toks:=tk}:=by
 have name:(toString "max"++toString ".loop":String)="max.loop":=by decide
 intro r
 induction r with
 |zero=>
  intro j h tk t c hr hj kk st hl hS;refine codeAny_builtin PySem.F.entry_max_loop ?_;rw [zz7 PySem.F.plain_max_loop _];show wpAny _ A.in1 (seqItems? (.ref S)>>=λz=>_) _ _ _
  refine zzA (wpAny_seqItems hS rfl ?_);show wpAny _ A.in1 (tryCatch (pyNext (.ref it)) _>>=λz=>_) _ _ _
  refine zzA (wpAny_tryCatch (wpAny_pyNext_list_end hh st hl (by simp;omega) λh' eb=>?_))
  have sC:=eb S _ n1 hS
  show wpAny _ A.in1 (updateSeq S (λ_=>#[])>>=λz=>_) _ _ _
  refine zzA (wpAny_updateSeq sC rfl (zzA (wpAny_letGo (zzG ?_))));have s1:=zzu h' S (Obj.mapSeq λ_=>(#[]:Array Value))
  have e:j=ns.length-1:=by omega
  rw [e];exact hR t _ tk λb o b1 b2 q=>(s1.2 b b2).trans (eb b o b1 (kk b o b1 b2 q))
 |succ r ih=>
  intro j h tk t c hr hj kk st hl hS;have bX:j+1<ns.length:=by omega
  obtain⟨t2,ht2⟩:=hv (j+1) bX
  refine codeAny_builtin PySem.F.entry_max_loop ?_;rw [zz7 PySem.F.plain_max_loop _];show wpAny _ A.in1 (seqItems? (.ref S)>>=λz=>_) _ _ _
  refine zzA (wpAny_seqItems hS rfl ?_);show wpAny _ A.in1 (tryCatch (pyNext (.ref it)) _>>=λz=>_) _ _ _
  refine zzA (wpAny_tryCatch (wpAny_pyNext_list_item st hl (x:=.int ns[j+1] t2) (by simpa using ht2) λh' eY sb=>?_))
  have sC:=(sb.2 S n1).trans hS
  have qi:h'.IsList l aj.toArray:=hl.at λo q=>(sb.2 l n2).trans q
  have So:∀b o,b≠it->b≠S->s0.heap.get? b=some o->h'.get? b=some o:=λb o b1 b2 q=>(sb.2 b b1).trans (kk b o b1 b2 q)
  refine zzA (zzG ?_);show wpAny _ A.in1 (tryCatch (holding [Value.int ns[j+1] t2,.int ns[j+1] t2] (richCompare .Gt (.int ns[j+1] t2) (.int (cy ns j) t)>>=λz=>_)) _>>=λz=>_) _ _ _
  let cf:Nat->Int:=λk=>if k=0 then cy ns j else ns[j+1]
  refine zzA (wpAny_tryCatch (wpAny_holding (zzA (CmpOf.ints_gt (prog:=prog) (w:=w) (A:=A.in1) (P:=λi v=>∃t,v=.int (cf i) t) cf (λi v h=>h) 1 0 _ _ _ _ _ ⟨t2,rfl⟩ ⟨t,rfl⟩ ?_))))
  refine zzA (wpAny_holding (wpAny_truthy_bool (zzA (wpAny_letGo (zzG ?_)))));have NJ:cy ns (j+1)=if cy ns j<ns[j+1] then ns[j+1] else cy ns j:=by
   rw [cy,zzK,zzg bX]
   rfl
  by_cases hb:cy ns j<ns[j+1]
  ·rw [if_pos hb] at NJ;obtain⟨c2,hc2⟩:=uP (ys:=#[Value.int ns[j+1] t2,.int ns[j+1] t2]) sC
   have s1:=zzu h' S (Obj.mapSeq λ_=>#[Value.int ns[j+1] t2,.int ns[j+1] t2])
   have hd:decide (cf 1>cf 0)=true:=zzh hb
   simp! [hd,if_true];refine zzA (wpAny_updateSeq sC rfl (zzA (wpAny_letGo ?_)));rw [name];refine zzG ⟨plainId_quiet PySem.F.plain_max_loop _,ih (j+1) _ tk t2 c2 (by omega) bX (λb o b1 b2 q=>(s1.2 b b2).trans (So b o b1 b2 q)) ?_ ?_ (by rw [NJ];exact hc2)⟩
   ·exact eY.at λo q=>(s1.2 it (Ne.symm n1)).trans q
   ·exact qi.at λo q=>(s1.2 l n3).trans q
  ·rw [if_neg hb] at NJ;have hd:decide (cf 1>cf 0)=false:=zz0 hb
   simp! [hd,zze,if_false];refine zzA (wpAny_letGo ?_);rw [name];exact zzG ⟨plainId_quiet PySem.F.plain_max_loop _,ih (j+1) _ tk t c (by omega) bX So eY qi (by rw [NJ];exact sC)⟩
end
def v9{X:Cx}(hc:X.calm=true){aa:List (Addr×Obj)}{s:Shared}{σ:St}{H:Hp}{p:Addr}{ns:List Int}{d:Int}{t0:Tok}{Q:VK}(I:Inv X aa σ H s)(hp:di X.K H p (ns.map V.int))(q:Q (.int (maxD ns d)) H):
 wpAny (model X.prog X.w) X.A (call (.builtin "max") [.ref p] [(Str.ofString "default",.int d t0)]) (EP X aa σ Q) X.xe s:=by
 have name:(toString "max"++toString ".loop":String)="max.loop":=by decide
 have hh:X.A.handled=none:=I.ok.hd hc
 obtain⟨aj,rv,pl,hz⟩:=I.list hp
 have bX:p<(zz9 s):=by obtain⟨_,e,_⟩:=pl.isList;exact zzO e
 have hlen:aj.length=ns.length:=by rw [<-rv.length,zzl]
 have K5:∀i (h:i<ns.length),∃t,aj[i]?=some (.int ns[i] t):=λi hi=>by
  obtain⟨u,hu,t,ru⟩:=rv.get (i:=i) (x:=V.int ns[i]) (by rw [zzQ,zzg hi];rfl)
  exact⟨t,by rw [hu,ru]⟩
 refine kmk_tree PySem.F.kind_max PySem.F.plain_max PySem.F.entry_max (xS _ _) ?_;show wpAny _ X.A.in1 (Builtin.Builtins.bindParams "max" ["key","default"] 0 ⟨[],[(Str.ofString "default",.int d t0)]⟩>>=λz=>_) _ _ s
 refine zzA (wpAny_of_eq (show Builtin.Builtins.bindParams "max" ["key","default"] 0 ⟨[],[(Str.ofString "default",.int d t0)]⟩=pure [none,some (.int d t0)] from rfl) (zzA (zzG ?_)));refine zzA (wpAny_pyIter_list pl.isList (zzA (wpAny_newList ?_ (Nat.zero_le _))));rw [name];generalize hit:(zz9 s)=it
 generalize hSS:(s.heap.push {cls:=.type "list_iterator",data:=.fields #[.ref p,.int 0 0]}).objs.size=S
 have eS:S=it+1:=by rw [<-hSS,<-hit];exact size_push' ..
 have nS:S≠it:=by omega
 have np:p≠it:=by rw [<-hit];exact zzb bX
 have RK:p≠S:=by rw [eS,<-hit];exact zzb (Nat.lt_succ_of_lt bX)
 have keep:∀b ob,s.heap.get? b=some ob->((s.heap.push {cls:=.type "list_iterator",data:=.fields #[.ref p,.int 0 0]}).push (seqObj "list" #[] 0)).get? b=some ob:=λb ob e=>zzB _ (zzB _ e)
 have gI:((s.heap.push {cls:=.type "list_iterator",data:=.fields #[.ref p,.int 0 0]}).push (seqObj "list" #[] 0)).IsListIter it p 0:=by
  rw [<-hit];exact⟨_,zzB _ (zzX _ rfl),rfl,rfl⟩
 have gS:((s.heap.push {cls:=.type "list_iterator",data:=.fields #[.ref p,.int 0 0]}).push (seqObj "list" #[] 0)).get? S=some (seqObj "list" #[] 0):=by
  rw [<-hSS];exact zzX _ rfl
 have gl:((s.heap.push {cls:=.type "list_iterator",data:=.fields #[.ref p,.int 0 0]}).push (seqObj "list" #[] 0)).IsList p aj.toArray:=pl.isList.at λo e=>keep _ _ e
 generalize hg:((s.heap.push {cls:=.type "list_iterator",data:=.fields #[.ref p,.int 0 0]}).push (seqObj "list" #[] 0))=g at keep gI gS gl
 have nH:∀b o,s.heap.get? b=some o->b≠it/\b≠S:=λb o e=>by
  have:=zzO e
  rw [hit] at this;exact⟨zzb this,by rw [eS];exact zzb (Nat.lt_succ_of_lt this)⟩
 have fin:∀(z:Int) (t:Tok) (h':Heap) (tk:Nat),z=maxD ns d->(∀b o,b≠it->b≠S->g.get? b=some o->h'.get? b=some o)->EP X aa σ Q (.int z t) {s with heap:=h',toks:=tk}:=λz t h' tk TN kk=>by
  rw [TN];exact⟨.int _,H,I.kept λb o e=>kk b o (nH b o e).1 (nH b o e).2 (keep b o e),⟨_,rfl⟩,q⟩
 refine zzG ⟨plainId_quiet PySem.F.plain_max_loop _,codeAny_builtin PySem.F.entry_max_loop ?_⟩;rw [zz7 PySem.F.plain_max_loop _];show wpAny _ X.A.in1 (seqItems? (.ref S)>>=λz=>_) _ _ _
 refine zzA (wpAny_seqItems gS rfl ?_);show wpAny _ X.A.in1 (tryCatch (pyNext (.ref it)) _>>=λz=>_) _ _ _
 by_cases hn:ns=[]
 ·refine zzA (wpAny_tryCatch (wpAny_pyNext_list_end hh gI gl (by simp [hlen,hn]) λh' eb=>?_))
  refine zzA (wpAny_rule (zzG ?_));exact fin d t0 h' s.toks (by unfold maxD;rw [if_pos hn]) λb o b1 b2 e=>eb b o b1 e
 ·have h0:0<ns.length:=List.length_pos_iff.2 hn
  obtain⟨t,ht⟩:=K5 0 h0
  refine zzA (wpAny_tryCatch (wpAny_pyNext_list_item gI gl (x:=.int ns[0] t) (by simpa using ht) λh' eY sb=>?_))
  have sC:=(sb.2 S nS).trans gS
  refine zzA (zzG ?_);obtain⟨c2,hc2⟩:=uP (ys:=#[Value.int ns[0] t,.int ns[0] t]) sC
  have s1:=zzu h' S (Obj.mapSeq λ_=>#[Value.int ns[0] t,.int ns[0] t])
  show wpAny _ X.A.in1 (updateSeq S (λ_=>#[Value.int ns[0] t,.int ns[0] t])>>=λz=>_) _ _ _
  refine zzA (wpAny_updateSeq sC rfl ?_);rw [name];have m0:cy ns 0=ns[0]:=by rw [cy,zzK,zzg h0];rfl
  refine zzG ⟨plainId_quiet PySem.F.plain_max_loop _,xB (s0:={s with heap:=g}) hh nS np RK K5 hlen (λt h' tk kk=>fin _ t h' tk (by unfold maxD;rw [if_neg hn]) kk) _ 0 _ s.toks t c2 rfl h0 (λb o b1 b2 e=>(s1.2 b b2).trans ((sb.2 b b1).trans e)) (eY.at λo q=>(s1.2 it (Ne.symm nS)).trans q) ((gl.at λo q=>(sb.2 p np).trans q).at λo q=>(s1.2 p RK).trans q) (by rw [m0];exact hc2)⟩
end L2
namespace Ci
open PySem L2
def bq{p:Prop}(h:false=true):p:=absurd h zzf
inductive PV where
 |ay|bl (b:Bool)|int (i:Int)|str (z:Str)
 |tup (xs:List PV)|lst (xs:List PV)
 |exc (c:Str)
 |br (ks:List (List Int)) (vs:List PV)
 deriving Inhabited
structure Wd where
 K:zz8
 mg:Str->Option Value
 xs:List Str
 ts:List (Addr×Str):=[]
def mV(K:zz8)(H:Hp)(a:Addr)(vs:List V):Prop:=
 Rd H a (.lst vs)\/∃(aj:Array Value) (n:Nat),K.lookup a=some {cls:=.type "list",data:=.seq aj n}/\aj.size<=sizeLine/\Vals vs aj.toList
def Jk(K:zz8)(G:Hp)(a:Addr)(vs:List V):Prop:=G a=some (.tup vs)\/eB K G a vs/\∃z,V.str z∈vs
theorem Jk.sq{K:zz8}{G:Hp}{a:Addr}{vs:List V}:Jk K G a vs->eB K G a vs
 |.inl h=>.inl (.inl h)
 |.inr h=>h.1
noncomputable def kz(ks:List (List Int))(us:List V):List (List Key×V):=(ks.map λk=>k.map Sum.inl).zip us
mutual
def Rep(W:Wd)(G:Hp):PV->V->Prop
 |.ay,v=>v=.ay
 |.bl b,v=>v=.bl b
 |.int i,v=>v=.int i
 |.str z,v=>v=.str z
 |.tup xs,v=>∃a vs,v=.ref a/\Jk W.K G a vs/\ag W G xs vs
 |.lst xs,v=>∃a vs,v=.ref a/\mV W.K G a vs/\ag W G xs vs
 |.exc c,v=>∃a C,v=.ref a/\c∈W.xs/\W.mg c=some (.ref C)/\G a=some (Q4 a C)
 |.br ks vs,v=>∃a o us,v=.ref a/\ks.length=us.length/\G a=some (.cN o (.dT (kz ks us)))/\ag W G vs us
def ag(W:Wd)(G:Hp):List PV->List V->Prop
 |[],vs=>vs=[]
 |p::ps,vs=>∃v r,vs=v::r/\Rep W G p v/\ag W G ps r
end
def av.tup{K:zz8}{H H':Hp}{a:Addr}{xs:List V}(e:av H H')(h:eB K H a xs):eB K H' a xs:=by
 rcases h with(h|⟨o,h⟩)|h
 ·exact .inl (.inl (e _ _ h))
 ·exact .inl (.inr ⟨o,e _ _ h⟩)
 ·exact .inr h
def av.tp{K:zz8}{H H':Hp}{a:Addr}{xs:List V}(e:av H H')(h:Jk K H a xs):Jk K H' a xs:=h.elim (λz=>.inl (e _ _ z)) λz=>.inr ⟨av.tup e z.1,z.2⟩
def av.rd{H H':Hp}{a:Addr}{u:HO}(e:av H H')(h:Rd H a u):Rd H' a u:=by
 rcases h with h|⟨o,h⟩
 ·exact .inl (e _ _ h)
 ·exact .inr ⟨o,e _ _ h⟩
def av.ls{K:zz8}{H H':Hp}{a:Addr}{vs:List V}(e:av H H')(h:mV K H a vs):mV K H' a vs:=h.elim (λz=>.inl (av.rd e z)) .inr
section
variable{W:Wd}{G G':Hp}
mutual
theorem Rep.same(s:av G G'):∀(p:PV) {v:V},Rep W G p v->Rep W G' p v
 |.ay,_,h=>by simpa only [Rep] using h
 |.bl b,_,h=>by simpa only [Rep] using h
 |.int i,_,h=>by simpa only [Rep] using h
 |.str z,_,h=>by simpa only [Rep] using h
 |.tup xs,_,h=>by
  simp! [Rep] at h⊢;obtain⟨a,vs,e,q,l⟩:=h
  exact⟨a,vs,e,av.tp s q,ag.same s xs l⟩
 |.lst xs,_,h=>by
  simp! [Rep] at h⊢;obtain⟨a,vs,e,q,l⟩:=h
  exact⟨a,vs,e,av.ls s q,ag.same s xs l⟩
 |.exc c,_,h=>by
  simp! [Rep] at h⊢;obtain⟨a,C,e,x,m,q⟩:=h
  exact⟨a,C,e,x,m,s _ _ q⟩
 |.br ks vs,_,h=>by
  simp! [Rep] at h⊢;obtain⟨a,o,us,e,n,m,l⟩:=h
  exact⟨a,o,us,e,n,s _ _ m,ag.same s vs l⟩
theorem ag.same(s:av G G'):∀(ps:List PV) {vs:List V},ag W G ps vs->ag W G' ps vs
 |[],_,h=>by simpa only [ag] using h
 |p::ps,_,h=>by
  simp! [ag] at h⊢;obtain⟨v,r,e,h1,h2⟩:=h
  exact⟨v,r,e,Rep.same s p h1,ag.same s ps h2⟩
end
theorem ag.paired:∀{ps:List PV} {vs:List V},ag W G ps vs->Paired (λv p=>Rep W G p v) vs ps
 |[],_,h=>by simp! [ag] at h;subst h;exact .nil
 |p::ps,_,h=>by
  simp! [ag] at h;obtain⟨v,r,rfl,h1,h2⟩:=h
  exact .cons h1 (ag.paired h2)
def ag.length{ps:List PV}{vs:List V}(h:ag W G ps vs):vs.length=ps.length:=lK h.paired
def ag.nil:ag W G [] []:=by simp! [ag]
def ag.cons{p:PV}{v:V}{ps:List PV}{vs:List V}(h:Rep W G p v)(t:ag W G ps vs):ag W G (p::ps) (v::vs):=by simp! [ag];exact⟨_,_,rfl,h,t⟩
def ag.aZ{p:PV}{ps:List PV}{vs:List V}(h:ag W G (p::ps) vs):∃v r,vs=v::r/\Rep W G p v/\ag W G ps r:=by simpa only [ag] using h
theorem ag.append:∀{ps qs:List PV} {vs us:List V},ag W G ps vs->ag W G qs us->ag W G (ps++qs) (vs++us)
 |[],_,_,_,h,k=>by simp! [ag] at h;subst h;exact k
 |p::ps,_,_,_,h,k=>by
  obtain⟨v,r,rfl,h1,h2⟩:=h.aZ
  exact .cons h1 (h2.append k)
def ag.get:∀{ps:List PV} {vs:List V} {i:Nat} {v:V},ag W G ps vs->vs[i]?=some v->∃p,ps[i]?=some p/\Rep W G p v:=λh e=>n4 h.paired e
theorem ag.lZ:∀{ps:List PV} {vs:List V} {i:Nat} {p:PV},ag W G ps vs->ps[i]?=some p->∃v,vs[i]?=some v/\Rep W G p v
 |[],_,_,_,_,e=>by simp at e
 |p::ps,_,0,q,h,e=>by
  obtain⟨v,r,rfl,h1,h2⟩:=h.aZ
  simp at e;subst e;exact⟨v,rfl,h1⟩
 |p::ps,_,i+1,q,h,e=>by
  obtain⟨v,r,rfl,h1,h2⟩:=h.aZ
  obtain⟨u,e1,k⟩:=h2.lZ (i:=i) (by simpa using e)
  exact⟨u,by simpa using e1,k⟩
theorem ag.drop:∀{ps:List PV} {vs:List V} (n:Nat),ag W G ps vs->ag W G (ps.drop n) (vs.drop n)
 |_,_,0,h=>by simpa using h
 |[],_,n+1,h=>by simp! [ag] at h;subst h;simp! [List.drop_nil];exact .nil
 |p::ps,_,n+1,h=>by
  obtain⟨v,r,rfl,h1,h2⟩:=h.aZ
  simpa using h2.drop n
theorem ag.take:∀{ps:List PV} {vs:List V} (n:Nat),ag W G ps vs->ag W G (ps.take n) (vs.take n)
 |_,_,0,h=>by simp! [List.take_zero];exact .nil
 |[],_,n+1,h=>by simp! [ag] at h;subst h;simp! [List.take_nil];exact .nil
 |p::ps,_,n+1,h=>by
  obtain⟨v,r,rfl,h1,h2⟩:=h.aZ
  simp! [List.take_succ_cons];exact .cons h1 (h2.take n)
end
def gA(H H':Hp):Prop:=∀b o,H b=some o->(∀ps,o≠.fX ps)/\H' b=some o\/∃ps m,o=.fX ps/\H' b=some (.fX (ps++m))
def gA.refl(H:Hp):gA H H:=λb o h=>by
 cases o with
 |fX ps=>exact .inr ⟨ps,#[],rfl,by simpa using h⟩
 |_=>exact .inl ⟨(λ_ z=>nomatch z),h⟩
def gA.trans{H H1 H2:Hp}(a:gA H H1)(b:gA H1 H2):gA H H2:=λc o h=>by
 rcases a c o h with⟨n,e⟩|⟨ps,m,rfl,e⟩
 ·rcases b c o e with y|⟨ps,m,rfl,e2⟩
  ·exact .inl y
  ·exact absurd rfl (n ps)
 ·rcases b c _ e with⟨n,_⟩|⟨ps',m',e2,e3⟩
  ·exact absurd rfl (n _)
  ·cases e2;exact .inr ⟨ps,m++m',rfl,by rw [e3,Array.append_assoc]⟩
def gA.free{H H':Hp}(e:gA H H'){l:Addr}(h:H' l=Option.none):H l=Option.none:=by
 cases q:H l with
 |none=>rfl
 |some o=>
  rcases e l o q with⟨_,z⟩|⟨_,_,_,z⟩
  ·rw [h] at z;cases z
  ·rw [h] at z;cases z
def gA.at{H H':Hp}(e:gA H H'){b:Addr}{o:HO}(h:H b=some o)(n:∀ps,o≠.fX ps):H' b=some o:=by
 rcases e b o h with⟨_,z⟩|⟨ps,_,rfl,_⟩
 ·exact z
 ·exact absurd rfl (n ps)
def gA.vR{H H':Hp}(e:gA H H'){b:Addr}(h:H b≠none)(n:∀vs,H b≠some (.tup vs)):∀vs,H' b≠some (.tup vs):=λvs z=>by
 cases q:H b with
 |none=>exact h q
 |some o=>
  rcases e b o q with⟨_,y⟩|⟨_,_,_,y⟩
  ·rw [z] at y;cases y;exact n vs q
  ·rw [z] at y;cases y
def gA.of{H H':Hp}(e:av H H'):gA H H':=λb o h=>by
 cases o with
 |fX ps=>exact .inr ⟨ps,#[],rfl,by simpa using e _ _ h⟩
 |_=>exact .inl ⟨(λ_ z=>nomatch z),e _ _ h⟩
def gA.tup{K:zz8}{H H':Hp}{a:Addr}{xs:List V}(e:gA H H')(h:eB K H a xs):eB K H' a xs:=by
 rcases h with(h|⟨o,h⟩)|h
 ·exact .inl (.inl (e.at h (λ_ z=>nomatch z)))
 ·exact .inl (.inr ⟨o,e.at h (λ_ z=>nomatch z)⟩)
 ·exact .inr h
def gA.ls{K:zz8}{H H':Hp}{a:Addr}{vs:List V}(e:gA H H')(h:mV K H a vs):mV K H' a vs:=by
 rcases h with(h|⟨o,h⟩)|h
 ·exact .inl (.inl (e.at h (λ_ z=>nomatch z)))
 ·exact .inl (.inr ⟨o,e.at h (λ_ z=>nomatch z)⟩)
 ·exact .inr h
def cW(W:Wd)(G H:Hp):Prop:=∀P q,(P,q)∈W.ts->G P=none/\∃ps,H P=some (.fX ps)/\TriplesOk ps.toList/\
 ∀pos cv,codeAmong pos ps.toList=some cv->∃c' oc tX t,cv=.ref c'/\G c'=some (.cN oc um)/\oc.data=.fields tX/\tX[1]?=some (.str q t)
theorem cW.same{W:Wd}{G G' H H':Hp}(t:cW W G H)(g:av G G')(own:∀a,H a≠none->(∀vs,H a≠some (.tup vs))->G a=none->G' a=none)(h:∀P ps,H P=some (.fX ps)->H' P=some (.fX ps)):cW W G' H':=λP q m=>by
 obtain⟨n,ps,e,tr,al⟩:=t P q m
 refine⟨own P (by rw [e];exact λz=>nomatch z) (by rw [e];exact λ_ z=>nomatch z) n,ps,h P ps e,tr,λpos cv y=>?_⟩
 obtain⟨c',oc,tX,t,e1,e2,e3,e4⟩:=al pos cv y
 exact⟨c',oc,tX,t,e1,g _ _ e2,e3,e4⟩
structure aD(W:Wd)(G H G' H':Hp):Prop where
 g:av G G'
 h:gA H H'
 sub:av G' H'
 own:∀a,H a≠none->(∀vs,H a≠some (.tup vs))->G a=none->G' a=none
 tab:cW W G H->cW W G' H'
section
variable{W:Wd}
def aD.refl{G H:Hp}(s:av G H):aD W G H G H:=⟨av.refl _,gA.refl _,s,λ_ _ _ h=>h,id⟩
def aD.trans{G H G1 H1 G2 H2:Hp}(a:aD W G H G1 H1)(b:aD W G1 H1 G2 H2):aD W G H G2 H2:=
 ⟨a.g.trans b.g,a.h.trans b.h,b.sub,λx hx ht hg=>b.own x (λz=>hx (a.h.free z)) (a.h.vR hx ht) (a.own x hx ht hg),λt=>b.tab (a.tab t)⟩
def o5{H:Hp}{p:Addr}{o:HO}(h:∀ps,H p≠some (.fX ps))(P:Addr)(ps:Array Value)(e:H P=some (.fX ps)):upd H p o P=some (.fX ps):=by
 rw [ai (λz=>by subst z;exact h ps e)];exact e
theorem aD.new{G H:Hp}{p:Addr}{o:HO}(s:av G H)(h:H p=none):aD W G H (upd G p o) (upd H p o) where
 g:=aW (s.free h)
 h:=.of (aW h)
 sub:=λb u e=>by
  by_cases hb:b=p
  ·subst hb;rw [ak] at e⊢;exact e
  ·rw [ai hb] at e⊢;exact s _ _ e
 own:=λa ha _ hg=>by
  have:a≠p:=λz=>by subst z;exact ha h
  rw [ai this];exact hg
 tab:=λt=>t.same (aW (s.free h)) (λa ha _ hg=>by
  have:a≠p:=λz=>by subst z;exact ha h
  rw [ai this];exact hg) (o5 (λps z=>by rw [h] at z;cases z))
def aD.adopt{G H:Hp}{b:Addr}{vs:List V}(s:av G H)(h:H b=some (.tup vs)):aD W G H (upd G b (.tup vs)) H:=by
 have sm:av G (upd G b (.tup vs)):=λc u e=>by
  by_cases hc:c=b
  ·subst hc;rw [ak];have:=s _ _ e;rw [h] at this;exact this
  ·rw [ai hc];exact e
 have ow:∀a,H a≠none->(∀vs,H a≠some (.tup vs))->G a=none->upd G b (.tup vs) a=none:=λa _ n e=>by
  have:a≠b:=λz=>by subst z;exact n vs h
  rw [ai this];exact e
 exact⟨sm,gA.refl _,λc u e=>by
  by_cases hc:c=b
  ·subst hc;rw [ak] at e;cases e;exact h
  ·rw [ai hc] at e;exact s _ _ e,ow,λt=>t.same sm ow λ_ _ e=>e⟩
def aD.MK{G H:Hp}{p:Addr}{o:HO}(s:av G H)(h:H p=none):aD W G H G (upd H p o):=
 ⟨av.refl _,.of (aW h),s.trans (aW h),λ_ _ _ hg=>hg,λt=>t.same (av.refl _) (λ_ _ _ h=>h) (o5 (λps z=>by rw [h] at z;cases z))⟩
end
noncomputable def mP(scope:Scope):List Str:=((scope.names.filter λp=>p.2==.free).map (·.1)).reverse
noncomputable def okN(x:Str):Bool:=!(x=="__debug__")&&!(x=="__classdict__")&&!(x=="__name__")
noncomputable def gf(x:Str):Bool:=x.cps.toList.contains 64
def fL{α:Type}{a:α}{p:Prop}(h:(none:Option α)=some a):p:=nomatch h
noncomputable def gB:Expr->Option Str
 |.Name x _=>some x
 |_=>none
def eJ{e:Expr}{x:Str}(h:gB e=some x):∃p,e=.Name x p:=by
 cases e with
 |Name y p=>cases h;exact⟨_,rfl⟩
 |_=>exact fL h
noncomputable def Fy:Expr->Option (Expr×List Expr×List Keyword×Pos)
 |.Call f a k p=>some (f,a,k,p)
 |_=>none
def j5{e:Expr}{q:Expr×List Expr×List Keyword×Pos}(h:Fy e=some q):e=.Call q.1 q.2.1 q.2.2.1 q.2.2.2:=by
 cases e with
 |Call f a k p=>cases h;rfl
 |_=>exact fL h
noncomputable def QC:List Arg->Option (List Str)
 |[]=>some []
 |[a]=>some [a.arg]
 |_=>none
noncomputable def QO(p:Arguments):Option (List Str):=if(p.posonlyargs.isEmpty&&p.vararg.isNone&&p.kwonlyargs.isEmpty&&p.kw_defaults.isEmpty&&p.kwarg.isNone&&p.defaults.isEmpty)=true then QC p.args else none
noncomputable def zH:List Expr->List (Option Str)->Bool
 |[],[]=>true
 |.Name x _::r,some y::t=>x==y&&okN x&&zH r t
 |_,_=>false
noncomputable def TL(ps:List Str)(scope:Scope):Bool:=
 scope.kind==.function&&!scope.isCoroutine&&!scope.isGenerator&&decide ((ps++mP scope).Nodup)&&(scope.names.all λy=>decide (y.2≠.cell))&&(ps.all λx=>decide (scope.names.lookup x=some .local))&&((mP scope).all λx=>decide (scope.names.lookup x=some .free))
noncomputable def P4(g:Str)(idx:List Nat)(params:Arguments)(body:Expr)(scope:Scope):Bool:=(QO params).any λps=>(Fy body).any λq=>gB q.1==some g&&q.2.2.1.isEmpty&&!q.2.1.isEmpty&&decide (idx.head?=some ps.length)&&scope.names.lookup g==some .globalImplicit&&okN g&&!gf g&&zH q.2.1 (idx.tail.map λi=>(ps++mP scope)[i]?)&&TL ps scope
structure QN(W:Wd)(G:Hp)(g:Str)(idx:List Nat)(dI:List PV)(f c':Addr)(oc:Obj)(tX:Array Value)(t:Tok)(MV pm:Value)(params:Arguments)(body:Expr)(scope:Scope)(qual:Str)(cl:List (Str×Addr))(Z:List (Addr×Obj))(ws:List V):Prop where
 lg:P4 g idx params body scope=true
 fo:G f=some (.cN (PySem.W.kla_obj "<lambda>" qual params body scope cl pm c' MV) um)
 co:G c'=some (.cN oc um)
 cd:oc.data=.fields tX
 cn:tX[1]?=some (.str qual t)
 fz:Z.lookup f=none
 cz:Z.lookup c'=none
 inj:∀x y c,cl.lookup x=some c->cl.lookup y=some c->x=y
 has:∀y∈mP scope,∃c,cl.lookup y=some c
 cells:∀x c,cl.lookup x=some c->∃o v,Z.lookup c=some o/\o.data=.cell v
 zs:∀b o,Z.lookup b=some o->G b=some (.cN o um)
 zc:∀b o,Z.lookup b=some o->∃v,o.data=.cell v
 vals:∀(i:Nat) y c,(mP scope)[i]?=some y->cl.lookup y=some c->∀v,ws[i]?=some v->∃u o,RelV v u/\Z.lookup c=some o/\o.data=.cell (some u)
 len:ws.length=(mP scope).length
 rep:ag W (fA Z G) dI ws
def wZ(W:Wd)(G:Hp)(g:Str)(idx:List Nat)(dI:List PV)(v:V):Prop:=∃f c' oc tX t MV pm params body scope qual cl Z ws,v=.ref f/\QN W G g idx dI f c' oc tX t MV pm params body scope qual cl Z ws
theorem xu{Z:List (Addr×Obj)}{G G':Hp}(s:av G G'):av (fA Z G) (fA Z G'):=λb u e=>by
 obtain⟨q,e1⟩:=tJ e
 rw [eh q];exact s _ _ e1
def wZ.same{W:Wd}{G G':Hp}{g:Str}{idx:List Nat}{dI:List PV}{v:V}(s:av G G')(h:wZ W G g idx dI v):wZ W G' g idx dI v:=by
 obtain⟨f,c',oc,tX,t,MV,pm,params,body,scope,qual,cl,Z,ws,e,d⟩:=h
 exact⟨f,c',oc,tX,t,MV,pm,params,body,scope,qual,cl,Z,ws,e,⟨d.lg,s _ _ d.fo,s _ _ d.co,d.cd,d.cn,d.fz,d.cz,d.inj,d.has,d.cells,λb o q=>s _ _ (d.zs b o q),d.zc,d.vals,d.len,ag.same (xu s) dI d.rep⟩⟩
inductive Slot where
 |no|val (p:PV)|own (p:PV)|fn (g:Str) (idx:List Nat) (dI:List PV)
 deriving Inhabited
abbrev Sl:=List Slot
def Own(W:Wd)(H0 G H:Hp):PV->V->Prop
 |.lst xs,v=>∃a vs,v=.ref a/\H a=some (.lst vs)/\G a=none/\H0 a=none/\ag W G xs vs
 |.br ks ps,v=>∃a us,v=.ref a/\ks.length=us.length/\H a=some (.dT (kz ks us))/\G a=none/\H0 a=none/\ag W G ps us
 |_,_=>False
def Top(W:Wd)(H0 G H:Hp)(p:PV)(v:V):Prop:=Rep W G p v\/Own W H0 G H p v
def FD(W:Wd)(H0 G H:Hp):Slot->Option V->Prop
 |.no,_=>True
 |.val p,o=>∃v,o=some v/\Rep W G p v
 |.own p,o=>∃v,o=some v/\Own W H0 G H p v
 |.fn g idx dI,o=>∃v,o=some v/\wZ W G g idx dI v
structure SR(W:Wd)(H0:Hp)(env:Sl)(σ:St)(G H:Hp):Prop where
 len:env.length=σ.length
 sub:av G H
 base:gA H0 H
 slot:∀(i:Nat) (s:Slot),env[i]?=some s->∃o,σ[i]?=some o/\FD W H0 G H s o
 apart:∀(i j:Nat) (p q:PV) (a:Addr),env[i]?=some (.own p)->env[j]?=some (.own q)->σ[i]?=some (some (.ref a))->σ[j]?=some (some (.ref a))->i=j
 tab:cW W G H
 l8:cW W G H0
section
variable{W:Wd}{H0 G H G' H':Hp}{env:Sl}{σ:St}
theorem Own.grow(g:aD W G H G' H'):∀{p:PV} {v:V},Own W H0 G H p v->Own W H0 G' H' p v
 |.lst xs,_,h=>by
  obtain⟨a,vs,e,h1,h2,h3,l⟩:=h
  exact⟨a,vs,e,g.h.at h1 (λ_ z=>nomatch z),g.own a (by rw [h1];exact λz=>by cases z) (by rw [h1];exact λ_ z=>by cases z) h2,h3,ag.same g.g xs l⟩
 |.br ks ps,_,h=>by
  obtain⟨a,vs,e,n,h1,h2,h3,l⟩:=h
  exact⟨a,vs,e,n,g.h.at h1 (λ_ z=>nomatch z),g.own a (by rw [h1];exact λz=>by cases z) (by rw [h1];exact λ_ z=>by cases z) h2,h3,ag.same g.g ps l⟩
 |.ay,_,h=>h|.bl _,_,h=>h|.int _,_,h=>h|.str _,_,h=>h|.tup _,_,h=>h|.exc _,_,h=>h
theorem FD.grow(g:aD W G H G' H'):∀{s:Slot} {o:Option V},FD W H0 G H s o->FD W H0 G' H' s o
 |.no,_,_=>trivial
 |.val p,_,h=>by obtain⟨v,e,r⟩:=h;exact⟨v,e,Rep.same g.g p r⟩
 |.own p,_,h=>by obtain⟨v,e,r⟩:=h;exact⟨v,e,r.grow g⟩
 |.fn _ _ _,_,h=>by obtain⟨v,e,r⟩:=h;exact⟨v,e,r.same g.g⟩
theorem SR.grow(r:SR W H0 env σ G H)(g:aD W G H G' H'):SR W H0 env σ G' H':=
 ⟨r.len,g.sub,r.base.trans g.h,λi s e=>by obtain⟨o,h1,h2⟩:=r.slot i s e;exact⟨o,h1,h2.grow g⟩,r.apart,g.tab r.tab,r.l8.same g.g (λa h1 h3 h2=>g.own a (λz=>h1 (r.base.free z)) (r.base.vR h1 h3) h2) λ_ _ h=>h⟩
def Top.grow{p:PV}{v:V}(g:aD W G H G' H')(h:Top W H0 G H p v):Top W H0 G' H' p v:=h.elim (λz=>.inl (Rep.same g.g p z)) λz=>.inr (z.grow g)
def Top.lst{xs:List PV}{v:V}(s:av G H)(h:Top W H0 G H (.lst xs) v):∃a vs,v=.ref a/\mV W.K H a vs/\ag W G xs vs:=by
 rcases h with h|h
 ·simp! [Rep] at h;obtain⟨a,vs,e,q,l⟩:=h
  exact⟨a,vs,e,av.ls s q,l⟩
 ·obtain⟨a,vs,e,h1,_,_,l⟩:=h
  exact⟨a,vs,e,.inl (.inl h1),l⟩
def Top.tup{xs:List PV}{v:V}(s:av G H)(h:Top W H0 G H (.tup xs) v):∃a vs,v=.ref a/\eB W.K H a vs/\ag W G xs vs:=by
 rcases h with h|h
 ·simp! [Rep] at h;obtain⟨a,vs,e,q,l⟩:=h
  exact⟨a,vs,e,av.tup s q.sq,l⟩
 ·exact h.elim
def Top.tupI{xs:List PV}{v:V}{ns:List Int}(s:av G H)(hx:xs=ns.map .int)(h:Top W H0 G H (.tup xs) v):∃a,v=.ref a/\G a=some (.tup (ns.map V.int)):=by
 rcases h with h|h
 ·simp! [Rep] at h;obtain⟨a,vs,e,q,l⟩:=h
  have ev:vs=ns.map V.int:=by
   subst hx
   clear q e
   induction ns generalizing vs with
   |nil=>simp! [List.map_nil,ag] at l;exact l
   |cons n ns ih=>
    obtain⟨u,r,rfl,h1,h2⟩:=l.aZ
    simp! [Rep] at h1;rw [h1,ih r h2]
    rfl
  subst ev;rcases q with q|⟨_,z,hz⟩
  ·exact⟨a,e,q⟩
  ·obtain⟨n,_,hn⟩:=zzx.mp hz
   cases hn
 ·exact h.elim
def Top.br{ks:List (List Int)}{ps:List PV}{v:V}(s:av G H)(h:Top W H0 G H (.br ks ps) v):∃a us,v=.ref a/\ks.length=us.length/\Rd H a (.dT (kz ks us))/\ag W G ps us:=by
 rcases h with h|h
 ·simp! [Rep] at h;obtain⟨a,o,us,e,n,q,l⟩:=h
  exact⟨a,us,e,n,.inr ⟨o,s _ _ q⟩,l⟩
 ·obtain⟨a,vs,e,n,q,_,_,l⟩:=h
  exact⟨a,vs,e,n,.inl q,l⟩
def Top.int{i:Int}{v:V}(h:Top W H0 G H (.int i) v):v=.int i:=h.elim (λz=>by simpa only [Rep] using z) λz=>z.elim
def Top.bl{b:Bool}{v:V}(h:Top W H0 G H (.bl b) v):v=.bl b:=h.elim (λz=>by simpa only [Rep] using z) λz=>z.elim
def Top.str{b:Str}{v:V}(h:Top W H0 G H (.str b) v):v=.str b:=h.elim (λz=>by simpa only [Rep] using z) λz=>z.elim
def Top.ay{v:V}(h:Top W H0 G H .ay v):v=.ay:=h.elim (λz=>by simpa only [Rep] using z) λz=>z.elim
def Rep.i{i:Int}:Rep W G (.int i) (.int i):=by simp! [Rep]
def Rep.b{i:Bool}:Rep W G (.bl i) (.bl i):=by simp! [Rep]
def Rep.s{i:Str}:Rep W G (.str i) (.str i):=by simp! [Rep]
def Rep.n:Rep W G .ay .ay:=by simp! [Rep]
def Rep.l{a:Addr}{xs:List PV}{vs:List V}(h:mV W.K G a vs)(l:ag W G xs vs):Rep W G (.lst xs) (.ref a):=by simp! [Rep];exact⟨a,vs,rfl,h,l⟩
def Rep.t{a:Addr}{xs:List PV}{vs:List V}(h:Jk W.K G a vs)(l:ag W G xs vs):Rep W G (.tup xs) (.ref a):=by simp! [Rep];exact⟨a,vs,rfl,h,l⟩
end
end Ci
namespace L2
open PySem PySem.Spec PyProof.Rows
end L2
namespace HT
open PySem PySem.Spec PyProof.Rows
section
end
end HT
namespace L2
open PySem PySem.Spec PyProof.Rows
end L2
namespace L2
open PySem PySem.Spec PyProof.Rows PySem.W
end L2
namespace St
noncomputable def A8:List Int->Bool
 |[r,c]=>decide (0<=r)&&decide (r<6)&&(decide (0<=c)&&decide (c<6))
 |_=>false
end St
namespace Ci
open PySem L2
inductive Res(α:Type) where
 |ok (a:α)|exc (c:Str)|bad
noncomputable def Res.bind{α β:Type}:Res α->(α->Res β)->Res β
 |.ok a,f=>f a
 |.exc c,_=>.exc c
 |.bad,_=>.bad
noncomputable instance:Monad Res where
 pure:=.ok
 bind:=Res.bind
def Res.aY{α β:Type}{r:Res α}{f:α->Res β}{b:β}(h:r.bind f=.ok b):∃a,r=.ok a/\f a=.ok b:=by
 cases r with
 |ok a=>exact⟨a,rfl,h⟩
 |exc c=>cases h
 |bad=>cases h
def Res.gN{α β:Type}{r:Res α}{f:α->Res β}{c:Str}(h:r.bind f=.exc c):r=.exc c\/∃a,r=.ok a/\f a=.exc c:=by
 cases r with
 |ok a=>exact .inr ⟨a,rfl,h⟩
 |exc c'=>cases h;exact .inl rfl
 |bad=>cases h
noncomputable def Res.of{α:Type}:Option α->Res α
 |some a=>.ok a
 |none=>.bad
noncomputable def Res.well{α:Type}:Res α->Res α
 |.ok a=>.ok a
 |_=>.bad
abbrev dh:Nat:=1000000
noncomputable def eqs(f:PV->PV->Bool):List PV->List PV->Bool
 |[],[]=>true
 |x::xs,y::ys=>f x y&&eqs f xs ys
 |_,_=>false
noncomputable def gq:Nat->PV->PV->Bool
 |_,.ay,.ay=>true
 |_,.bl a,.bl b=>a==b
 |_,.bl a,.int i=>(if a then 1 else 0)==i
 |_,.int i,.bl a=>i==(if a then 1 else 0)
 |_,.int i,.int j=>i==j
 |_,.str x,.str y=>x==y
 |n+1,.tup xs,.tup ys=>eqs (gq n) xs ys
 |n+1,.lst xs,.lst ys=>eqs (gq n) xs ys
 |_,_,_=>false
noncomputable def plain:Nat->PV->Bool
 |_,.ay=>true
 |_,.bl _=>true
 |_,.int _=>true
 |_,.str _=>true
 |n+1,.tup xs=>xs.all (plain n)
 |n+1,.lst xs=>xs.all (plain n)
 |_,_=>false
abbrev DP:Nat:=9
noncomputable abbrev eqv:PV->PV->Bool:=gq DP
noncomputable abbrev yc:PV->Bool:=plain DP
inductive Kh where|add|sub|mul|mod|fdiv
inductive zB where|eq|ne|lt|le|gt|ge|is|vn|Fp|yg
noncomputable def aJ(i:Int):Bool:=decide (-(2^64)<i)&&decide (i<2^64)
noncomputable def binOp:Kh->PV->PV->Res PV
 |.add,.int i,.int j=>.ok (.int (i+j))
 |.add,.str x,.str y=>if x.length+y.length<=dh then .ok (.str (x++y)) else .bad
 |.add,.lst x,.lst y=>if x.length+y.length<=dh then .ok (.lst (x++y)) else .bad
 |.sub,.int i,.int j=>.ok (.int (i-j))
 |.mul,.int i,.int j=>if aJ i||aJ j then .ok (.int (i*j)) else .bad
 |.mod,.int i,.int j=>if 0<j then .ok (.int (i%j)) else .bad
 |.fdiv,.int i,.int j=>if 0<j/\j<1073741824 then .ok (.int (i/j)) else .bad
 |_,_,_=>.bad
noncomputable def intsOf:List PV->Option (List Int)
 |[]=>some []
 |.int i::r=>(intsOf r).map (i::·)
 |_=>none
noncomputable def ba{α:Type}:List (List Int)->List α->List Int->Option α
 |k'::ks,v::vs,k=>if k'=k then some v else ba ks vs k
 |_,_,_=>none
noncomputable def cS(ks:List (List Int))(k:List Int):Bool:=ks.any λk'=>decide (k'=k)
noncomputable def cu(ks:List (List Int))(k:List Int):List (List Int):=if cS ks k then ks else ks++[k]
noncomputable def cP{α:Type}(ks:List (List Int))(vs:List α)(k:List Int)(p:α):List α:=if cS ks k then List.zipWith (λk' v=>if k'=k then p else v) ks vs else vs++[p]
noncomputable def ae(k:List Int):PV:=.tup (k.map .int)
noncomputable def d5:PV->Option (List Int)
 |.tup xs=>intsOf xs
 |_=>none
noncomputable def eQ:List PV->Option (List (List Int))
 |[]=>some []
 |x::r=>(d5 x).bind λk=>(eQ r).map (k::·)
noncomputable def tV:List PV->Option (List (List Int×PV))
 |[]=>some []
 |.tup [x,y]::r=>(d5 x).bind λk=>(tV r).map ((k,y)::·)
 |_=>none
noncomputable def dB{α:Type}:List (List Int×α)->List (List Int)->List α->List (List Int)×List α
 |[],ks,vs=>(ks,vs)
 |p::r,ks,vs=>dB r (cu ks p.1) (cP ks vs p.1 p.2)
noncomputable def xM(x:PV)(ys:List PV):Bool:=ys.any λy=>eqv y x
noncomputable def iB(a b:PV):Res PV:=if yc a&&yc b then .ok (.bl (eqv a b)) else .bad
noncomputable def eX(a b:PV):Res PV:=if yc a&&yc b then .ok (.bl (!eqv a b)) else .bad
noncomputable def q0:PV->PV->Res PV
 |.int i,.int j=>.ok (.bl (decide (i<j)))
 |_,_=>.bad
noncomputable def qZ:PV->PV->Res PV
 |.int i,.int j=>.ok (.bl (decide (i<=j)))
 |_,_=>.bad
noncomputable def uF:PV->PV->Res PV
 |.int i,.int j=>.ok (.bl (decide (j<i)))
 |_,_=>.bad
noncomputable def qA:PV->PV->Res PV
 |.int i,.int j=>.ok (.bl (decide (j<=i)))
 |_,_=>.bad
noncomputable def Bi:PV->Bool
 |.ay=>true
 |_=>false
noncomputable def pR:PV->PV->Res PV
 |a,.ay=>.ok (.bl (Bi a))
 |.bl a,.bl b=>.ok (.bl (a==b))
 |_,_=>.bad
noncomputable def ef:PV->PV->Res PV
 |a,.ay=>.ok (.bl (!Bi a))
 |.bl a,.bl b=>.ok (.bl (a !=b))
 |_,_=>.bad
noncomputable def uC:PV->PV->Res PV
 |a,.lst ys=>if yc a&&ys.all yc then .ok (.bl (xM a ys)) else .bad
 |a,.br ks _=>(Res.of (d5 a)).bind λk=>.ok (.bl (cS ks k))
 |_,_=>.bad
noncomputable def f9:PV->PV->Res PV
 |a,.lst ys=>if yc a&&ys.all yc then .ok (.bl (!xM a ys)) else .bad
 |a,.br ks _=>(Res.of (d5 a)).bind λk=>.ok (.bl (!cS ks k))
 |_,_=>.bad
noncomputable def cV:zB->PV->PV->Res PV
 |.eq=>iB|.ne=>eX|.lt=>q0|.le=>qZ|.gt=>uF|.ge=>qA|.is=>pR|.vn=>ef|.Fp=>uC|.yg=>f9
noncomputable def aE:PV->PV->Res PV
 |.lst xs,.int i=>Res.of (sA xs i)
 |.tup xs,.int i=>Res.of (sA xs i)
 |.str z,.int i=>if z.length<=dh then(Res.of (sA z.cps.toList i)).bind λc=>.ok (.str ⟨#[c]⟩) else .bad
 |.br ks vs,y=>(Res.of (d5 y)).bind λk=>Res.of (ba ks vs k)
 |_,_=>.bad
noncomputable def lY{α:Type}(xs:List α)(lo hi:Option Int):List α:=(xs.drop (HT.lW xs.length 0 lo)).take (HT.lW xs.length xs.length hi-HT.lW xs.length 0 lo)
noncomputable def du:PV->Option Int->Option Int->Res PV
 |.lst xs,lo,hi=>.ok (.lst (lY xs lo hi))
 |_,_,_=>.bad
inductive B where|len|abs|max2|min2|int|str|tuple|dict
noncomputable def chars(z:Str):List PV:=z.cps.toList.map λc=>.str ⟨#[c]⟩
noncomputable def uk:List PV->Res PV
 |[.lst xs]=>.ok (.int xs.length)
 |[.tup xs]=>.ok (.int xs.length)
 |[.str z]=>if z.length<=dh then .ok (.int z.length) else .bad
 |[.br ks _]=>.ok (.int ks.length)
 |_=>.bad
noncomputable def A7:List PV->Res PV
 |[.int i]=>.ok (.int (if i<0 then -i else i))
 |_=>.bad
noncomputable def zg:List PV->Res PV
 |[.int i,.int j]=>.ok (.int (if j>i then j else i))
 |_=>.bad
noncomputable def zD:List PV->Res PV
 |[.int i,.int j]=>.ok (.int (if j<i then j else i))
 |_=>.bad
noncomputable def zF:List PV->Res PV
 |[.str z]=>if z.length<=640 then(Res.of (PySem.intText? z)).bind λn=>.ok (.int n) else .bad
 |_=>.bad
noncomputable def zP:List PV->Res PV
 |[.int i]=>if i.natAbs.log2<1920 then .ok (.str (toString i)) else .bad
 |_=>.bad
noncomputable def kF:List PV->Res PV
 |[.lst xs]=>.ok (.tup xs)
 |_=>.bad
noncomputable def sk(k:List Int):List (List Int)->List (List Int)
 |[]=>[k]
 |x::l=>if k=x then x::l else if HT.lexLt k x=true then k::x::l else x::sk k l
noncomputable def eW(nss:List (List Int)):List (List Int):=nss.foldr sk []
noncomputable def Fq:PV->Res PV
 |.lst xs=>(Res.of (eQ xs)).bind λnss=>if nss.all St.A8&&decide ((eW nss).length<=18) then .ok (.lst ((eW nss).map ae)) else .bad
 |_=>.bad
noncomputable def nL:List PV->Res PV
 |[.lst xs]=>(Res.of (tV xs)).bind λps=>.ok (.br (dB ps [] []).1 (dB ps [] []).2)
 |_=>.bad
noncomputable def cH:B->List PV->Res PV
 |.len=>uk|.abs=>A7|.max2=>zg|.min2=>zD|.int=>zF|.str=>zP|.tuple=>kF|.dict=>nL
inductive Ty where|int|bool|tuple
noncomputable def gy:Ty->PV->Bool
 |.int,.int _=>true
 |.int,.bl _=>true
 |.bool,.bl _=>true
 |.tuple,.tup _=>true
 |_,_=>false
noncomputable def iT(t:Ty):PV->Res PV
 |.exc _=>.bad
 |.br _ _=>.bad
 |p=>.ok (.bl (gy t p))
inductive Tg where
 |one (i:Nat)|two (i j:Nat)
mutual
inductive E where
 |var (i:Nat)|ic (i:Nat)
 |cst (p:PV)
 |glob (g:Str) (p:PV)
 |call (f:Str) (as:Es)
 |blt (b:B) (as:Es)
 |ty (t:Ty) (a:E)
 |bin (o:Kh) (a b:E)
 |cmp (o:zB) (a b:E)
 |ch (o1 o2:zB) (a b c:E)
 |not (a:E)
 |neg (a:E)
 |and (a b:E)|or (a b:E)
 |ite (c a b:E)
 |tup (as:Es)|lst (as:Es)
 |sub (a b:E)
 |slice (a:E) (lo hi:Oe)
 |comp (k:Nat) (cb:List Nat) (tg:Tg) (it:I) (elt:E)
 |cA (k:Nat) (cb:List Nat) (tg:Tg) (it:I) (c elt:E)
 |zM (a:E)
 |xP (a:E)
 |get (a k:E)
 |maxD (a:E) (n:Int)
 |M3 (n:Nat)
inductive Es where
 |nil|cons (e:E) (es:Es)
inductive Oe where
 |no|some (e:E)
inductive I where
 |seq (e:E)|md (e:E)|o7 (a b:E)|enum (e:E)|zip (as:Es)|tW (e:E)
end
mutual
inductive S where
 |expr (e:E)
 |set (i:Nat) (e:E)
 |own (i:Nat) (e:E)
 |cN (i:Nat)
 |app (i:Nat) (e:E)
 |mG (i:Nat) (e:E)
 |put (i:Nat) (k e:E)
 |fy (i j:Nat) (e:E)
 |iX (i:Nat) (e:E)
 |ret (e:E)
 |ite (c:E) (a b:Ss)
 |bZ (tg:Tg) (it:I) (b:Ss)
 |Kk (c:E) (b:Ss)
 |raise (c:Str) (m:Str)
 |brk
 |qy (i:Nat)
 |uM (i j:Nat) (e:E)
inductive Ss where
 |nil|cons (s:S) (ss:Ss)
end
abbrev aN:=Str->List PV->Res PV
noncomputable def nZ:Option Slot->Res PV
 |some (.val p)=>.ok p
 |_=>.bad
noncomputable def yV:Option Slot->Res PV
 |some (.val p)=>.ok p
 |some (.own p)=>.ok p
 |_=>.bad
noncomputable def Tg.put:Tg->PV->Sl->Res Sl
 |.one i,p,env=>.ok (env.set i (.val p))
 |.two i j,.tup [a,b],env=>.ok ((env.set i (.val a)).set j (.val b))
 |_,_,_=>.bad
noncomputable def eC(env:Sl)(cb:List Nat):Sl:=cb.map λi=>env.getD i .no
noncomputable def itemsOf:PV->Res (List PV)
 |.lst xs=>.ok xs
 |.tup xs=>.ok xs
 |.str z=>.ok (chars z)
 |_=>.bad
noncomputable def uH(e:E)(p:PV):Res (List PV):=match p,e with
 |.br _ _,.ic _=>.bad
 |.br ks _,_=>.ok (ks.map ae)
 |.lst xs,_=>.ok xs
 |.tup xs,_=>.ok xs
 |_,_=>.bad
noncomputable def dr(lo:Int)(n:Nat):List PV:=(List.range n).map λi=>.int (lo+(i:Nat))
noncomputable def aH(i:Int):Bool:=decide (-(2^62)<=i)&&decide (i<2^62)
noncomputable def DU:PV->Option (List PV)
 |.lst xs=>some xs
 |.tup xs=>some xs
 |_=>none
noncomputable def ko:List PV->Option (List (List PV))
 |[]=>some []
 |p::r=>(DU p).bind λxs=>(ko r).map (xs::·)
noncomputable def jv:List (List PV)->Nat
 |[]=>0
 |[xs]=>xs.length
 |xs::r=>min xs.length (jv r)
noncomputable def qW(xss:List (List PV)):List PV:=(List.range (jv xss)).map λi=>.tup (xss.map λxs=>xs.getD i .ay)
noncomputable def bO(n:Nat):List PV->List PV
 |[]=>[]
 |x::xs=>.tup [.int (n:Nat),x]::bO (n+1) xs
noncomputable def oc:Option PV->List PV->List PV
 |some y,ys=>y::ys
 |none,ys=>ys
noncomputable def aK(f:PV->Res (Option PV)):List PV->Res (List PV)
 |[]=>.ok []
 |x::xs=>(f x).well.bind λo=>(aK f xs).bind λys=>.ok (oc o ys)
noncomputable def se{α:Type}(p:PV)(f:Bool->Res α):Res α:=match p with
 |.bl b=>f b
 |_=>.bad
section
variable(F:aN)
mutual
noncomputable def aA:E->Sl->Res PV
 |.var i,env=>nZ env[i]?
 |.ic i,env=>yV env[i]?
 |.cst p,_=>.ok p
 |.glob _ p,_=>.ok p
 |.call f as,env=>(cT as env).bind λps=>F f ps
 |.blt b as,env=>(cT as env).bind λps=>cH b ps
 |.ty t a,env=>(aA a env).bind λp=>iT t p
 |.bin o a b,env=>(aA a env).bind λx=>(aA b env).bind λy=>binOp o x y
 |.cmp o a b,env=>(aA a env).bind λx=>(aA b env).bind λy=>cV o x y
 |.ch o1 o2 a b c,env=>(aA a env).bind λx=>(aA b env).bind λy=>(cV o1 x y).bind λt=>se t λt=>
  if t then(aA c env).bind λz=>cV o2 y z else .ok (.bl false)
 |.not a,env=>(aA a env).bind λx=>se x λb=>.ok (.bl (!b))
 |.neg a,env=>(aA a env).bind λx=>match x with|.int i=>.ok (.int (-i))|_=>.bad
 |.and a b,env=>(aA a env).bind λx=>se x λt=>if t then aA b env else .ok (.bl false)
 |.or a b,env=>(aA a env).bind λx=>se x λt=>if t then .ok (.bl true) else aA b env
 |.ite c a b,env=>(aA c env).bind λx=>se x λt=>if t then aA a env else aA b env
 |.tup as,env=>(cT as env).bind λps=>.ok (.tup ps)
 |.lst as,env=>(cT as env).bind λps=>.ok (.lst ps)
 |.sub a b,env=>(aA a env).bind λx=>(aA b env).bind λy=>aE x y
 |.slice a lo hi,env=>(aA a env).bind λx=>(vg lo env).bind λl=>(vg hi env).bind λh=>du x l h
 |.comp k cb tg it elt,env=>(p6 it env).bind λxs=>if xs.length<dh then(aK (λx=>(tg.put x (List.replicate k .no++eC env cb)).bind λaf=>(aA elt af).bind λy=>.ok (some y)) xs).bind λys=>.ok (.lst ys) else .bad
 |.cA k cb tg it c elt,env=>(p6 it env).bind λxs=>if xs.length<dh then(aK (λx=>(tg.put x (List.replicate k .no++eC env cb)).bind λaf=>(aA c af).bind λt=>se t λt=>if t then(aA elt af).bind λy=>.ok (some y) else .ok none) xs).bind λys=>.ok (.lst ys) else .bad
 |.zM a,env=>(aA a env).bind λp=>match p with|.lst xs=>.ok (.lst xs.reverse)|_=>.bad
 |.xP a,env=>(aA a env).bind Fq
 |.get a k,env=>(aA a env).bind λp=>match p with|.br ks vs=>(aA k env).bind λq=>(Res.of (d5 q)).bind λz=>.ok ((ba ks vs z).getD .ay)|_=>.bad
 |.maxD a n,env=>(aA a env).bind λp=>match p with|.lst xs=>(Res.of (intsOf xs)).bind λns=>.ok (.int (L2.maxD ns n))|_=>.bad
 |.M3 n,env=>(nZ env[n]?).bind λkp=>(Res.of (d5 kp)).bind λkk=>.ok (.br [kk] [.ay])
noncomputable def cT:Es->Sl->Res (List PV)
 |.nil,_=>.ok []
 |.cons e es,env=>(aA e env).bind λp=>(cT es env).bind λps=>.ok (p::ps)
noncomputable def vg:Oe->Sl->Res (Option Int)
 |.no,_=>.ok none
 |.some e,env=>(aA e env).bind λp=>match p with|.int i=>.ok (some i)|_=>.bad
noncomputable def p6:I->Sl->Res (List PV)
 |.seq e,env=>(aA e env).bind (uH e)
 |.md e,env=>(aA e env).bind λp=>match p with|.int j=>if aH j then .ok (dr 0 j.toNat) else .bad|_=>.bad
 |.o7 a b,env=>(aA a env).bind λp=>(aA b env).bind λq=>match p,q with|.int i,.int j=>if aH i&&aH j then .ok (dr i (j-i).toNat) else .bad|_,_=>.bad
 |.enum e,env=>(aA e env).bind λp=>(itemsOf p).bind λxs=>.ok (bO 0 xs)
 |.zip as,env=>(cT as env).bind λps=>(Res.of (ko ps)).bind λxss=>.ok (qW xss)
 |.tW e,env=>(aA e env).bind λp=>match p with|.lst xs=>.ok xs.reverse|_=>.bad
end
end
inductive Fl where
 |nx (env:Sl)|bk (env:Sl)|ct (env:Sl)|rt (p:PV)
noncomputable def Fl.seq(f:Fl)(k:Sl->Res Fl):Res Fl:=match f with
 |.nx env=>k env
 |f=>.ok f
noncomputable def forL(body:PV->Sl->Res Fl):List PV->Sl->Res Fl
 |[],env=>.ok (.nx env)
 |x::xs,env=>(body x env).bind λf=>match f with
  |.nx af=>forL body xs af
  |.ct af=>forL body xs af
  |.bk af=>.ok (.nx af)
  |.rt p=>.ok (.rt p)
noncomputable def c8(c:Sl->Res PV)(body:Sl->Res Fl):Nat->Sl->Res Fl
 |0,_=>.bad
 |n+1,env=>(c env).bind λt=>se t λt=>if t then(body env).bind λf=>(match f with
  |.nx af=>c8 c body n af
  |.ct af=>c8 c body n af
  |.bk af=>.ok (.nx af)
  |.rt p=>.ok (.rt p)) else .ok (.nx env)
abbrev WN:Nat:=1000000
noncomputable def pN:Slot->Slot
 |.own p=>.val p
 |s=>s
section
variable(F:aN)
mutual
noncomputable def fK:S->Sl->Res Fl
 |.expr e,env=>(aA F e env).bind λ_=>.ok (.nx env)
 |.set i e,env=>(aA F e env).bind λp=>.ok (.nx (env.set i (.val p)))
 |.own i e,env=>(aA F e env).bind λp=>.ok (.nx (env.set i (.own p)))
 |.cN i,env=>.ok (.nx (env.modify i pN))
 |.app i e,env=>match env[i]? with
  |some (.own (.lst xs))=>(aA F e env).bind λp=>if xs.length<dh then .ok (.nx (env.set i (.own (.lst (xs++[p]))))) else .bad
  |_=>.bad
 |.mG i e,env=>match env[i]? with
  |some (.own (.lst xs))=>(aA F e env).bind λp=>match p with
   |.lst ys=>if xs.length+ys.length<=dh then .ok (.nx (env.set i (.own (.lst (xs++ys))))) else .bad
   |_=>.bad
  |_=>.bad
 |.put i k e,env=>(aA F e env).bind λp=>match env[i]? with
  |some (.own (.br ks vs))=>(aA F k env).bind λkp=>match d5 kp with
   |some kk=>if ks.length<dh then .ok (.nx (env.set i (.own (.br (cu ks kk) (cP ks vs kk p))))) else .bad
   |none=>.bad
  |_=>.bad
 |.iX i e,env=>(aA F e env).bind λp=>(Res.of (DU p)).bind λxs=>.ok (.nx (env.set i (.own (.lst xs))))
 |.fy i j e,env=>match env[i]?,env[j]? with
  |some (.own (.lst xs)),some (.own (.lst ys))=>(aA F e env).bind λp=>match p with
   |.int n=>if 0<=n/\n<ys.length/\ys.length<dh/\xs.length<dh/\i≠j then(Res.of ys[n.toNat]?).bind λq=>.ok (.nx ((env.set j (.own (.lst (ys.eraseIdx n.toNat)))).set i (.own (.lst (xs++[q]))))) else .bad
   |_=>.bad
  |_,_=>.bad
 |.ret e,env=>(aA F e env).bind λp=>.ok (.rt p)
 |.ite c a b,env=>(aA F c env).bind λp=>se p λt=>if t then az a env else az b env
 |.bZ tg it b,env=>(p6 F it env).bind λxs=>forL (λx env=>(tg.put x env).bind λaf=>az b af) xs env
 |.Kk c b,env=>c8 (aA F c) (az b) WN env
 |.raise c _,_=>.exc c
 |.brk,env=>.ok (.bk env)
 |.qy i,env=>.ok (.nx (env.set i (.own (.br [] []))))
 |.uM i j e,env=>(aA F e env).bind λp=>match p with
  |.lst [a,b]=>.ok (.nx ((env.set i (.val a)).set j (.val b)))
  |_=>.bad
noncomputable def az:Ss->Sl->Res Fl
 |.nil,env=>.ok (.nx env)
 |.cons s ss,env=>(fK s env).bind λf=>f.seq (az ss)
end
end
structure Def where
 N:List Str
 np:Nat
 body:Ss
 rV:Option (Str×List Nat):=none
noncomputable def bJ(d:Def)(as:List PV):Sl:=match d.rV with
 |none=>as.map .val++List.replicate (d.N.length-as.length) .no
 |some q=>(as.take (d.np-1)).map .val++.fn q.1 q.2 (as.drop (d.np-1))::List.replicate (d.N.length-d.np) .no
noncomputable def bL(d:Def)(as:List PV):Bool:=match d.rV with
 |none=>as.length==d.np
 |some _=>decide (0<d.np)&&decide (d.np-1<=as.length)
noncomputable def au(F:aN)(d:Def)(as:List PV):Res PV:=
 if bL d as then(az F d.body (bJ d as)).bind λf=>match f with
  |.nx _=>.ok .ay
  |.rt p=>.ok p
  |_=>.bad
 else .bad
noncomputable def den:List (Str×Def)->aN
 |[],_,_=>.bad
 |(n,d)::r,f,as=>if f==n then au (den r) d as else den r f as
noncomputable abbrev ki(k:List Int):List Key:=k.map Sum.inl
def y3{a b:List Int}(h:ki a=ki b):a=b:=by
 induction a generalizing b with
 |nil=>cases b with|nil=>rfl|cons=>cases h
 |cons x a ih=>cases b with
  |nil=>cases h
  |cons y b=>simp! [ki,zzF,List.cons.injEq,Sum.inl.injEq] at h;rw [h.1,ih h.2]
def uy(k:List Int):(ki k).map kV=k.map V.int:=by
 unfold ki;rw [List.map_map]
 rfl
theorem o9{k:List Int}{ks:List (List Int)}{u:V}{us:List V}:kz (k::ks) (u::us)=(ki k,u)::kz ks us:=rfl
def qb{ks:List (List Int)}{us:List V}(h:ks.length=us.length):(kz ks us).length=ks.length:=by
 unfold kz;rw [List.length_zip,zzl];omega
def Df{ks:List (List Int)}{us:List V}(h:ks.length=us.length):(kz ks us).map (·.1)=ks.map ki:=by
 unfold kz;exact List.map_fst_zip (by rw [zzl];omega)
theorem iy(k:List Int):∀(ks:List (List Int)) (us:List V),iC (kz ks us) (ki k)=ba ks us k
 |[],us=>by unfold ba;rfl
 |a::ks,[]=>by unfold ba;rfl
 |a::ks,u::us=>by
  rw [o9];unfold ba
  by_cases h:a=k
  ·subst h;rw [if_pos rfl];exact gK rfl
  ·rw [if_neg h,gR (λz=>h (y3 z))];exact iy k ks us
theorem fH{α:Type}(k:List Int):∀(ks:List (List Int)) (us:List α),ks.length=us.length->(ba ks us k).isSome=cS ks k
 |[],[],_=>rfl
 |a::ks,u::us,h=>by
  unfold ba cS;rw [List.any_cons]
  by_cases e:a=k
  ·simp [e]
  ·rw [if_neg e];have:=fH k ks us (by simpa using h)
   unfold cS at this;rw [this];simp [e]
 |[],_::_,h=>by simp at h
 |_::_,[],h=>by simp at h
def Hw(k:List Int):∀(ks:List (List Int)) (us:List V),ks.length=us.length->((kz ks us).any λkv=>decide (kv.1=ki k))=cS ks k:=λks us h=>by
 rw [kj,iy,fH k ks us h]
def yQ{ks:List (List Int)}{us:List V}(h:ks.length=us.length)(k:List Int)(v:V):putK (kz ks us) (ki k) v=kz (cu ks k) (cP ks us k v):=by
 unfold putK cu cP;rw [Hw k ks us h];split
 ·have go:∀(ks:List (List Int)) (us:List V),(kz ks us).map (λkv=>if kv.1=ki k then(kv.1,v) else kv)=kz ks (List.zipWith (λk' u=>if k'=k then v else u) ks us):=by
   intro ks
   induction ks with
   |nil=>intro us;simp [kz]
   |cons a ks ih=>
    intro us;cases us with
    |nil=>simp [kz]
    |cons u us=>
     rw [o9,zzF,List.zipWith_cons_cons,o9,ih]
     by_cases e:a=k
     ·simp [e]
     ·rw [if_neg (λz=>e (y3 z)),if_neg e]
  exact go ks us
 ·unfold kz;rw [List.map_append,List.zip_append (by rw [zzl];exact h)]
  rfl
def rY{α:Type}{ks:List (List Int)}{us:List α}(h:ks.length=us.length)(k:List Int)(v:α):(cu ks k).length=(cP ks us k v).length:=by
 unfold cu cP;split
 ·rw [List.length_zipWith];omega
 ·simp [h]
section
variable{W:Wd}{G:Hp}
theorem oy{k:List Int}{p:PV}:∀{ks:List (List Int)} {ps:List PV} {us:List V},ag W G ps us->ba ks ps k=some p->∃v,ba ks us k=some v/\Rep W G p v
 |[],_,_,_,e=>by unfold ba at e;cases e
 |a::ks,[],_,_,e=>by unfold ba at e;cases e
 |a::ks,q::ps,_,l,e=>by
  obtain⟨v,r,rfl,h1,h2⟩:=l.aZ
  unfold ba at e⊢
  by_cases h:a=k
  ·rw [if_pos h] at e⊢;cases e;exact⟨v,rfl,h1⟩
  ·rw [if_neg h] at e⊢;exact oy h2 e
theorem AZ{k:List Int}{p:PV}{v:V}(hp:Rep W G p v):∀{ks:List (List Int)} {ps:List PV} {us:List V},ag W G ps us->ag W G (List.zipWith (λk' v=>if k'=k then p else v) ks ps) (List.zipWith (λk' u=>if k'=k then v else u) ks us)
 |[],_,_,_=>by simp! [List.zipWith_nil_left];exact .nil
 |a::ks,[],_,l=>by simp! [ag] at l;subst l;simp! [List.zipWith_nil_right];exact .nil
 |a::ks,q::ps,_,l=>by
  obtain⟨u,r,rfl,h1,h2⟩:=l.aZ
  rw [List.zipWith_cons_cons,List.zipWith_cons_cons];refine .cons ?_ (AZ hp h2);split
  ·exact hp
  ·exact h1
def vI{ks:List (List Int)}{ps:List PV}{us:List V}{k:List Int}{p:PV}{v:V}(l:ag W G ps us)(hp:Rep W G p v):ag W G (cP ks ps k p) (cP ks us k v):=by
 unfold cP;split
 ·exact AZ hp l
 ·exact l.append (.cons hp .nil)
end
theorem nX:∀{xs:List PV} {ns:List Int},intsOf xs=some ns->xs=ns.map .int
 |[],_,e=>by cases e;rfl
 |.int i::r,_,e=>by
  unfold intsOf at e;obtain⟨ns,h1,rfl⟩:=zzJ.mp e
  rw [nX h1];rfl
 |.ay::_,_,e=>by cases e
 |.bl _::_,_,e=>by cases e
 |.str _::_,_,e=>by cases e
 |.tup _::_,_,e=>by cases e
 |.lst _::_,_,e=>by cases e
 |.exc _::_,_,e=>by cases e
 |.br _ _::_,_,e=>by cases e
def dw{p:PV}{k:List Int}(h:d5 p=some k):p=ae k:=by
 unfold d5 at h;split at h
 ·rw [nX h];rfl
 ·cases h
end Ci
namespace L2
open PySem PySem.Spec PyProof.Rows
end L2
namespace Ci
open PySem L2
def kJ{n:Nat}(h:n<=dh):n<=sizeLine:=zzU h (by decide)
section
variable{X:Cx}{W:Wd}{H0 G H:Hp}
def dq(W:Wd)(G H:Hp)(r:PV)(Q:VK):Prop:=∀v G' H',aD W G H G' H'->Rep W G' r v->Q v H'
def dq.at{r:PV}{Q:VK}{v:V}(h:dq W G H r Q)(s:av G H)(k:Rep W G r v):Q v H:=h v G H (.refl s) k
def dq.tup{xs:List PV}{Q:VK}{vs:List V}{p:Addr}(h:dq W G H (.tup xs) Q)(s:av G H)(k:ag W G xs vs)(hp:H p=none):Q (.ref p) (upd H p (.tup vs)):=
 h _ _ _ (.new s hp) (.t (.inl ak) (ag.same (aW (s.free hp)) xs k))
def dq.lst{xs:List PV}{Q:VK}{vs:List V}{p:Addr}(h:dq W G H (.lst xs) Q)(s:av G H)(k:ag W G xs vs)(hp:H p=none):Q (.ref p) (upd H p (.lst vs)):=
 h _ _ _ (.new s hp) (.l (.inl (.inl ak)) (ag.same (aW (s.free hp)) xs k))
theorem i7{f:PV->PV->Bool}:∀{xs ys:List PV},xs.length≠ys.length->eqs f xs ys=false
 |[],[],h=>absurd rfl h
 |_::xs,_::ys,h=>by simp! [eqs];rw [i7 (xs:=xs) (ys:=ys) (λz=>h (by simp [z]))];simp
 |[],_::_,_=>rfl
 |_::_,[],_=>rfl
theorem ji{f:PV->PV->Bool}:∀{xs ys:List PV},xs.length=ys.length->eqs f xs ys=(List.range xs.length).all λj=>f (xs.getD j .ay) (ys.getD j .ay)
 |[],[],_=>rfl
 |x::xs,y::ys,h=>by
  simp! [eqs];rw [ji (xs:=xs) (ys:=ys) (by simpa using h),zzL,List.range_succ_eq_map,List.all_cons,List.all_map]
  rfl
 |[],_::_,h=>by simp at h
 |_::_,[],h=>by simp at h
def nG{f:PV->PV->Bool}:∀{xs ys:List PV},((List.range (min xs.length ys.length)).all (λj=>f (xs.getD j .ay) (ys.getD j .ay))&&xs.length==ys.length)=eqs f xs ys:=λ{xs ys}=>by
 by_cases h:xs.length=ys.length
 ·rw [ji h,h,Nat.min_self,beq_self_eq_true,Bool.and_true]
 ·rw [i7 h,beq_eq_false_iff_ne.mpr h,Bool.and_false]
theorem r9{f:PV->PV->Bool}:∀{xs ys:List PV},xs.length=ys.length->(∀(j:Nat) x y,xs[j]?=some x->ys[j]?=some y->f x y=true)->eqs f xs ys=true
 |[],[],_,_=>rfl
 |x::xs,y::ys,h,k=>by
  simp! [eqs];rw [k 0 x y rfl rfl,r9 (xs:=xs) (ys:=ys) (by simpa using h) λj a b ha hb=>k (j+1) a b (by simpa using ha) (by simpa using hb)]
  rfl
 |[],_::_,h,_=>by simp at h
 |_::_,[],h,_=>by simp at h
def iO(hK:W.K=X.K){a:Addr}{vs:List V}(h:mV W.K H a vs):di X.K H a vs:=by
 rw [hK] at h;rcases h with h|⟨aj,n,h1,h2,h3⟩
 ·exact .inl h
 ·exact .inr ⟨_,aj,n,h1,rfl,rfl,rfl,h2,h3⟩
def sy{aa:List (Addr×Obj)}{σ:St}{s:Shared}(I:Inv X aa σ H s){a:Addr}{vs us:List V}(h1:eB X.K H a vs)(h2:di X.K H a us):False:=by
 obtain⟨aj,_,⟨o,e,hc,_⟩,_⟩:=I.tuple h1
 obtain⟨dC,_,⟨o2,n,e2,hc2,_⟩,_⟩:=I.list h2
 rw [e] at e2;cases e2;rw [hc] at hc2;exact absurd hc2 (by decide)
theorem iu{α:Type}:∀{xs ys:List α},xs.length=ys.length->(∀(j:Nat) x y,xs[j]?=some x->ys[j]?=some y->x=y)->xs=ys
 |[],[],_,_=>rfl
 |x::xs,y::ys,h,k=>by rw [k 0 x y rfl rfl,iu (xs:=xs) (ys:=ys) (by simpa using h) λj a b ha hb=>k (j+1) a b (by simpa using ha) (by simpa using hb)]
 |[],_::_,h,_=>by simp at h
 |_::_,[],h,_=>by simp at h
def Us(X:Cx)(W:Wd)(G H:Hp):PV->V->Prop
 |.ay,v=>v=.ay
 |.bl b,v=>v=.bl b
 |.int i,v=>v=.int i
 |.str z,v=>v=.str z
 |.tup xs,v=>∃a,v=.ref a/\∃vs,eB X.K H a vs/\ag W G xs vs
 |.lst xs,v=>∃a,v=.ref a/\∃vs,di X.K H a vs/\ag W G xs vs
 |_,_=>False
def N7(hK:W.K=X.K)(sg:av G H){n:Nat}{p:PV}{v:V}(hp:plain n p=true)(h:Top W H0 G H p v):Us X W G H p v:=by
 cases p with
 |ay=>exact h.ay
 |bl b=>exact h.bl
 |int i=>exact h.int
 |str z=>exact h.str
 |tup xs=>
  obtain⟨a,vs,e,sq,l⟩:=h.tup sg
  rw [hK] at sq;exact⟨a,e,vs,sq,l⟩
 |lst xs=>
  obtain⟨a,vs,e,sq,l⟩:=h.lst sg
  exact⟨a,e,vs,iO hK sq,l⟩
 |exc c=>cases n<;>exact bq hp
 |br a b=>cases n<;>exact bq hp
def vG{aa:List (Addr×Obj)}{σ:St}{s:Shared}(I:Inv X aa σ H s)(hK:W.K=X.K)(sg:av G H):∀(n:Nat) {p q:PV} {v:V},plain n p=true->plain n q=true->Top W H0 G H p v->Top W H0 G H q v->p=q:=by
 intro n
 induction n with
 |zero=>
  intro p q v hp hq h1 h2;have a:=N7 hK sg hp h1
  have b:=N7 hK sg hq h2
  cases p<;>cases q<;>first|exact bq hp|exact bq hq|(cases a;cases b;rfl)|(cases a;cases b)
 |succ n ih=>
  intro p q v hp hq h1 h2;have a:=N7 hK sg hp h1
  have b:=N7 hK sg hq h2
  have el:∀{xs ys:List PV} {vs:List V},xs.all (plain n)=true->ys.all (plain n)=true->ag W G xs vs->ag W G ys vs->xs=ys:=λ{xs ys vs} a1 a2 l1 l2=>
   iu (by rw [<-l1.length,l2.length]) λj x y ex ey=>by
    obtain⟨u,eu,ku⟩:=l1.lZ ex
    obtain⟨y',ey',ky⟩:=l2.get eu
    rw [ey] at ey';cases ey';exact ih (zzT.mp a1 _ (zzD ex)) (zzT.mp a2 _ (zzD ey)) (.inl ku) (.inl ky)
  cases p<;>cases q<;>first|exact bq hp|exact bq hq|(cases a;cases b;done)|(cases a;cases b;rfl)|(obtain⟨_,e1,_⟩:=a;cases b;cases e1;done)|(obtain⟨_,e2,_⟩:=b;cases a;cases e2;done)|(obtain⟨x,rfl,vs,s1,l1⟩:=a;obtain⟨y,e2,us,s2,l2⟩:=b;cases e2;first|exact(sy I s1 s2).elim|exact(sy I s2 s1).elim|(cases I.nK s1 s2;rw [el hp hq l1 l2])|(cases I.qB s1 s2;rw [el hp hq l1 l2]))
def yG:∀{n:Nat} {p:PV},plain n p=true->gq n p p=true:=by
 intro n
 induction n with
 |zero=>intro p h;cases p<;>first|exact bq h|rfl|exact beq_self_eq_true _
 |succ n ih=>
  intro p h;cases p<;>first|exact bq h|rfl|exact beq_self_eq_true _|exact r9 rfl λj x y e1 e2=>by rw [e1] at e2;cases e2;exact ih (zzT.mp h _ (zzD e1))
def vE{aa:List (Addr×Obj)}{σ:St}{s:Shared}(I:Inv X aa σ H s)(hK:W.K=X.K)(sg:av G H):∀(n:Nat) {p q:PV} {v:V},plain n p=true->plain n q=true->Top W H0 G H p v->Top W H0 G H q v->gq n p q=true:=λn {p q v} hp hq h1 h2=>by
 cases vG I hK sg n hp hq h1 h2;exact yG hp
def i6{x:V}{a:Addr}(r:RelV x (.ref a)):x=.ref a:=by
 cases x<;>first|(cases r;rfl)|(obtain⟨_,h⟩:=r;cases h)|cases r
def Vh(W:Wd)(G:Hp)(h:Heap):PV->Value->Prop
 |.ay,v=>∃_t:Nat,v=.none/\True
 |.bl b,v=>∃_t:Nat,v=.bool b/\True
 |.int i,v=>∃t,v=.int i t/\True
 |.str z,v=>∃t,v=.str z t/\True
 |.tup xs,v=>∃a,v=.ref a/\∃aj vs,ag W G xs vs/\Vals vs aj/\h.IsTuple a aj.toArray
 |.lst xs,v=>∃a,v=.ref a/\∃aj vs,ag W G xs vs/\Vals vs aj/\h.IsList a aj.toArray
 |_,_=>False
def FZ{aa:List (Addr×Obj)}{σ:St}{s:Shared}(I:Inv X aa σ H s)(hK:W.K=X.K)(sg:av G H){n:Nat}{p:PV}{v:V}{v':Value}(hp:plain n p=true)(h:Top W H0 G H p v)(r:RelV v v'):Vh W G s.heap p v':=by
 cases p with
 |ay=>cases h.ay;cases r;exact⟨0,rfl,trivial⟩
 |bl b=>cases h.bl;cases r;exact⟨0,rfl,trivial⟩
 |int i=>cases h.int;obtain⟨t,rfl⟩:=r;exact⟨t,rfl,trivial⟩
 |str z=>cases h.str;obtain⟨t,rfl⟩:=r;exact⟨t,rfl,trivial⟩
 |tup xs=>
  obtain⟨a,vs,rfl,sq,l⟩:=h.tup sg
  rw [hK] at sq;cases r;obtain⟨aj,q,z,_⟩:=I.tuple sq
  exact⟨a,rfl,aj,vs,l,q,z⟩
 |lst xs=>
  obtain⟨a,vs,rfl,sq,l⟩:=h.lst sg
  cases r;obtain⟨aj,q,z,_⟩:=I.list (iO hK sq)
  exact⟨a,rfl,aj,vs,l,q,z.isList⟩
 |exc c=>cases n<;>exact bq hp
 |br a b=>cases n<;>exact bq hp
def qV(W:Wd)(G:Hp)(s:Shared)(n:Nat)(A:Around)(xs ys:List PV):Prop:=∀{vs us:List V} {aj dC:List Value},ag W G xs vs->ag W G ys us->Vals vs aj->Vals us dC->∀j (h1:j<aj.toArray.size) (h2:j<dC.toArray.size),SeqAt.EqAt A s aj.toArray[j] dC.toArray[j] (gq n (xs.getD j .ay) (ys.getD j .ay))
theorem BJ{s:Shared}{n:Nat}{A:Around}{xs ys:List PV}(h:∀{p q:PV} {v u:V} {v' u':Value},plain n p=true->plain n q=true->Rep W G p v->Rep W G q u->RelV v v'->RelV u u'->SeqAt.EqAt A s v' u' (gq n p q))(a1:xs.all (plain n)=true)(a2:ys.all (plain n)=true):qV W G s n A xs ys:=λ{vs us aj dC} l1 l2 q1 q2 j g1 g2=>by
 obtain⟨x,hx,rx⟩:=Ao q1 g1
 obtain⟨y,hy,ry⟩:=Ao q2 g2
 obtain⟨px,ex,kx⟩:=l1.get hx
 obtain⟨py,ey,ky⟩:=l2.get hy
 rw [zzK,zzK,ex,ey];exact h (zzT.mp a1 _ (zzD ex)) (zzT.mp a2 _ (zzD ey)) kx ky rx ry
def u4{s:Shared}{n:Nat}{A:Around}{a b:Addr}{xs ys:List PV}(hu:A.units<cLine)(el:qV W G s n A.in1 xs ys)(k1:∃aj vs,ag W G xs vs/\Vals vs aj/\s.heap.IsTuple a aj.toArray)(k2:∃aj vs,ag W G ys vs/\Vals vs aj/\s.heap.IsTuple b aj.toArray):SeqAt.RcAt A s (.ref a) (.ref b) (eqs (gq n) xs ys):=by
 obtain⟨aj,vs,l,q1,z1⟩:=k1
 obtain⟨dC,us,l2,q2,z2⟩:=k2
 have m1:aj.length=xs.length:=by rw [<-q1.length,l.length]
 have m2:dC.length=ys.length:=by rw [<-q2.length,l2.length]
 have:=SeqAt.RcAt.tuples (e:=λj=>gq n (xs.getD j .ay) (ys.getD j .ay)) z1 z2 hu (el l l2 q1 q2)
 rw [zzC,zzC,m1,m2,nG] at this;exact this
def vh{s:Shared}{n:Nat}{A:Around}{a b:Addr}{xs ys:List PV}(hu:A.units<cLine)(el:qV W G s n A.in1 xs ys)(k1:∃aj vs,ag W G xs vs/\Vals vs aj/\s.heap.IsList a aj.toArray)(k2:∃aj vs,ag W G ys vs/\Vals vs aj/\s.heap.IsList b aj.toArray):SeqAt.RcAt A s (.ref a) (.ref b) (eqs (gq n) xs ys):=by
 obtain⟨aj,vs,l,q1,z1⟩:=k1
 obtain⟨dC,us,l2,q2,z2⟩:=k2
 have m1:aj.length=xs.length:=by rw [<-q1.length,l.length]
 have m2:dC.length=ys.length:=by rw [<-q2.length,l2.length]
 by_cases hl:xs.length=ys.length
 ·have:=SeqAt.RcAt.lists (e:=λj=>gq n (xs.getD j .ay) (ys.getD j .ay)) z1 z2 (by rw [zzC,zzC];omega) hu (el l l2 q1 q2)
  rw [zzC,m1,<-ji hl] at this;exact this
 ·have:=SeqAt.RcAt.lists_lengths z1 z2 (by rw [zzC,zzC,m1,m2];simp [hl]) hu
  rw [i7 hl];exact this
open SeqAt.EqAt in
def A3{aa:List (Addr×Obj)}{σ:St}{s:Shared}(I:Inv X aa σ H s)(hK:W.K=X.K)(sg:av G H):∀(n:Nat) {A:Around} {p q:PV} {v u:V} {v' u':Value},A.units+(n+1)<cLine->plain n p=true->plain n q=true->Top W H0 G H p v->Top W H0 G H q u->RelV v v'->RelV u u'->
 SeqAt.EqAt A s v' u' (gq n p q):=by
 intro n
 induction n with
 |zero=>
  intro A p q v u v' u' hu hp hq h1 h2 r1 r2;have a:=FZ I hK sg hp h1 r1
  have b:=FZ I hK sg hq h2 r2
  cases p<;>cases q<;>first|exact bq hp|exact bq hq|(obtain⟨t1,rfl,_⟩:=a;obtain⟨t2,rfl,_⟩:=b)
  exact same _
  exact none_bool _
  exact none_int _ _
  exact none_str _ _
  exact bool_none _
  exact bool_bool _ _
  exact bool_int _ _ _
  exact bool_str _ _ _
  exact int_none _ _
  exact int_bool _ _ _
  exact int_int _ _ _ _
  exact int_str _ _ _ _
  exact str_none _ _
  exact str_bool _ _ _
  exact str_int _ _ _ _
  exact str_str _ _ _ _
 |succ n ih=>
  intro A p q v u v' u' hu hp hq h1 h2 r1 r2;have cD:A.units<cLine:=by omega
  have a:=FZ I hK sg hp h1 r1
  have b:=FZ I hK sg hq h2 r2
  have el:∀{xs ys:List PV},xs.all (plain n)=true->ys.all (plain n)=true->qV W G s n A.in1 xs ys:=λa1 a2=>BJ (λhp hq h1 h2 r1 r2=>ih (by show A.units+1+(n+1)<_;omega) hp hq (.inl h1) (.inl h2) r1 r2) a1 a2
  cases p<;>cases q<;>first|exact bq hp|exact bq hq|(obtain⟨t1,rfl,k1⟩:=a;obtain⟨t2,rfl,k2⟩:=b;try obtain⟨_,_,_,_,z1⟩:=id k1;try obtain⟨_,_,_,_,z2⟩:=id k2)
  exact same _
  exact none_bool _
  exact none_int _ _
  exact none_str _ _
  exact none_tuple z2 cD
  exact none_list z2 cD
  exact bool_none _
  exact bool_bool _ _
  exact bool_int _ _ _
  exact bool_str _ _ _
  exact bool_tuple _ z2 cD
  exact bool_list _ z2 cD
  exact int_none _ _
  exact int_bool _ _ _
  exact int_int _ _ _ _
  exact int_str _ _ _ _
  exact int_tuple _ _ z2 cD
  exact int_list _ _ z2 cD
  exact str_none _ _
  exact str_bool _ _ _
  exact str_int _ _ _ _
  exact str_str _ _ _ _
  exact str_tuple _ _ z2 cD
  exact str_list _ _ z2 cD
  exact tuple_none z1 cD
  exact tuple_bool _ z1 cD
  exact tuple_int _ _ z1 cD
  exact tuple_str _ _ z1 cD
  by_cases dH:t1=t2
  ·subst dH;cases i6 r1;cases i6 r2;rw [vE I hK sg (n+1) hp hq h1 h2];exact same _
  ·exact of_refs dH (u4 cD (el hp hq) k1 k2)
  exact tuple_list z1 z2 cD
  exact list_none z1 cD
  exact list_bool _ z1 cD
  exact list_int _ _ z1 cD
  exact list_str _ _ z1 cD
  exact list_tuple z1 z2 cD
  by_cases dH:t1=t2
  ·subst dH;cases i6 r1;cases i6 r2;rw [vE I hK sg (n+1) hp hq h1 h2];exact same _
  ·exact of_refs dH (vh cD (el hp hq) k1 k2)
end
section
variable{X:Cx}{W:Wd}{H0 G H:Hp}
open SeqAt.RcAt in
def Mx{aa:List (Addr×Obj)}{σ:St}{s:Shared}(I:Inv X aa σ H s)(hK:W.K=X.K)(sg:av G H)(n:Nat){A:Around}{p q:PV}{v u:V}{v' u':Value}(hu:A.units+(n+2)<cLine)(hp:plain (n+1) p=true)(hq:plain (n+1) q=true)(h1:Top W H0 G H p v)(h2:Top W H0 G H q u)(r1:RelV v v')(r2:RelV u u'):
 SeqAt.RcAt A s v' u' (gq (n+1) p q):=by
 have cD:A.units<cLine:=by omega
 have a:=FZ I hK sg hp h1 r1
 have b:=FZ I hK sg hq h2 r2
 have el:∀{xs ys:List PV},xs.all (plain n)=true->ys.all (plain n)=true->qV W G s n A.in1 xs ys:=λa1 a2=>BJ (λhp hq h1 h2 r1 r2=>A3 (H0:=H0) I hK sg n (by show A.units+1+(n+1)<_;omega) hp hq (.inl h1) (.inl h2) r1 r2) a1 a2
 cases p<;>cases q<;>first|exact bq hp|exact bq hq|(obtain⟨t1,rfl,k1⟩:=a;obtain⟨t2,rfl,k2⟩:=b;try obtain⟨_,_,_,_,z1⟩:=id k1;try obtain⟨_,_,_,_,z2⟩:=id k2)
 exact none_none
 exact none_bool _
 exact none_int _ _
 exact none_str _ _
 exact none_tuple z2 cD
 exact none_list z2 cD
 exact bool_none _
 exact bool_bool _ _
 exact bool_int _ _ _
 exact bool_str _ _ _
 exact bool_tuple _ z2 cD
 exact bool_list _ z2 cD
 exact int_none _ _
 exact int_bool _ _ _
 exact int_int _ _ _ _
 exact int_str _ _ _ _
 exact int_tuple _ _ z2 cD
 exact int_list _ _ z2 cD
 exact str_none _ _
 exact str_bool _ _ _
 exact str_int _ _ _ _
 exact str_str _ _ _ _
 exact str_tuple _ _ z2 cD
 exact str_list _ _ z2 cD
 exact tuple_none z1 cD
 exact tuple_bool _ z1 cD
 exact tuple_int _ _ z1 cD
 exact tuple_str _ _ z1 cD
 exact u4 cD (el hp hq) k1 k2
 exact tuple_list z1 z2 cD
 exact list_none z1 cD
 exact list_bool _ z1 cD
 exact list_int _ _ z1 cD
 exact list_str _ _ z1 cD
 exact list_tuple z1 z2 cD
 exact vh cD (el hp hq) k1 k2
def xl{s:Shared}{n:Nat}{A:Around}{a b:Addr}{xs ys:List PV}(hu:A.units<cLine)(el:qV W G s n A.in1 xs ys)(k1:∃aj vs,ag W G xs vs/\Vals vs aj/\s.heap.IsTuple a aj.toArray)(k2:∃aj vs,ag W G ys vs/\Vals vs aj/\s.heap.IsTuple b aj.toArray):SeqAt.RcNeAt A s (.ref a) (.ref b) (!eqs (gq n) xs ys):=by
 obtain⟨aj,vs,l,q1,z1⟩:=k1
 obtain⟨dC,us,l2,q2,z2⟩:=k2
 have m1:aj.length=xs.length:=by rw [<-q1.length,l.length]
 have m2:dC.length=ys.length:=by rw [<-q2.length,l2.length]
 have:=SeqAt.RcNeAt.tuples (e:=λj=>gq n (xs.getD j .ay) (ys.getD j .ay)) z1 z2 hu (el l l2 q1 q2)
 rw [zzC,zzC,m1,m2,nG] at this;exact this
def xG{s:Shared}{n:Nat}{A:Around}{a b:Addr}{xs ys:List PV}(hu:A.units<cLine)(el:qV W G s n A.in1 xs ys)(k1:∃aj vs,ag W G xs vs/\Vals vs aj/\s.heap.IsList a aj.toArray)(k2:∃aj vs,ag W G ys vs/\Vals vs aj/\s.heap.IsList b aj.toArray):SeqAt.RcNeAt A s (.ref a) (.ref b) (!eqs (gq n) xs ys):=by
 obtain⟨aj,vs,l,q1,z1⟩:=k1
 obtain⟨dC,us,l2,q2,z2⟩:=k2
 have m1:aj.length=xs.length:=by rw [<-q1.length,l.length]
 have m2:dC.length=ys.length:=by rw [<-q2.length,l2.length]
 by_cases hl:xs.length=ys.length
 ·have:=SeqAt.RcNeAt.lists (e:=λj=>gq n (xs.getD j .ay) (ys.getD j .ay)) z1 z2 (by rw [zzC,zzC];omega) hu (el l l2 q1 q2)
  rw [zzC,m1,<-ji hl] at this;exact this
 ·have:=SeqAt.RcNeAt.lists_lengths z1 z2 (by rw [zzC,zzC,m1,m2];simp [hl]) hu
  rw [i7 hl];exact this
open SeqAt.RcNeAt in
def DZ{aa:List (Addr×Obj)}{σ:St}{s:Shared}(I:Inv X aa σ H s)(hK:W.K=X.K)(sg:av G H)(n:Nat){A:Around}{p q:PV}{v u:V}{v' u':Value}(hu:A.units+(n+2)<cLine)(hp:plain (n+1) p=true)(hq:plain (n+1) q=true)(h1:Top W H0 G H p v)(h2:Top W H0 G H q u)(r1:RelV v v')(r2:RelV u u'):
 SeqAt.RcNeAt A s v' u' (!gq (n+1) p q):=by
 have cD:A.units<cLine:=by omega
 have a:=FZ I hK sg hp h1 r1
 have b:=FZ I hK sg hq h2 r2
 have el:∀{xs ys:List PV},xs.all (plain n)=true->ys.all (plain n)=true->qV W G s n A.in1 xs ys:=λa1 a2=>BJ (λhp hq h1 h2 r1 r2=>A3 (H0:=H0) I hK sg n (by show A.units+1+(n+1)<_;omega) hp hq (.inl h1) (.inl h2) r1 r2) a1 a2
 cases p<;>cases q<;>first|exact bq hp|exact bq hq|(obtain⟨t1,rfl,k1⟩:=a;obtain⟨t2,rfl,k2⟩:=b;try obtain⟨_,_,_,_,z1⟩:=id k1;try obtain⟨_,_,_,_,z2⟩:=id k2)
 exact none_none
 exact none_bool _
 exact none_int _ _
 exact none_str _ _
 exact none_tuple z2 cD
 exact none_list z2 cD
 exact bool_none _
 exact bool_bool _ _
 exact bool_int _ _ _
 exact bool_str _ _ _
 exact bool_tuple _ z2 cD
 exact bool_list _ z2 cD
 exact int_none _ _
 exact int_bool _ _ _
 exact int_int _ _ _ _
 exact int_str _ _ _ _
 exact int_tuple _ _ z2 cD
 exact int_list _ _ z2 cD
 exact str_none _ _
 exact str_bool _ _ _
 exact str_int _ _ _ _
 exact str_str _ _ _ _
 exact str_tuple _ _ z2 cD
 exact str_list _ _ z2 cD
 exact tuple_none z1 cD
 exact tuple_bool _ z1 cD
 exact tuple_int _ _ z1 cD
 exact tuple_str _ _ z1 cD
 exact xl cD (el hp hq) k1 k2
 exact tuple_list z1 z2 cD
 exact list_none z1 cD
 exact list_bool _ z1 cD
 exact list_int _ _ z1 cD
 exact list_str _ _ z1 cD
 exact list_tuple z1 z2 cD
 exact xG cD (el hp hq) k1 k2
end
end Ci
namespace L2
open PySem PySem.Spec PyProof.Rows
open PySem.AutoSeq1 (wpAny_loadPart')
end L2
namespace Ci
open PySem L2
section
variable{X:Cx}{W:Wd}
def C0(hK:W.K=X.K){aa:List (Addr×Obj)}{σ:St}{H:Hp}{s:Shared}{a:Addr}{xs:List V}(I:Inv X aa σ H s)(h:mV W.K H a xs):∃(aj:List Value) (n:Nat),Vals xs aj/\xs.length=aj.length/\xs.length<=sizeLine/\s.heap.get? a=some {cls:=.type "list",data:=.seq aj.toArray n}:=by
 rw [hK] at h;rcases h with h|⟨aj,n,h1,h2,h3⟩
 ·obtain⟨z,aj,n,r,e⟩:=h.ok I.bj
  exact⟨aj,n,r,r.length,z,e⟩
 ·refine⟨aj.toList,n,h3,h3.length,?_,by simpa using I.vc a _ h1⟩;rw [h3.length,zzd];exact h2
def EI(hK:W.K=X.K):e8 X (binaryOp .Add) (λx y H Q=>∃l b xs zs,x=.ref l/\y=.ref b/\mV W.K H l xs/\mV W.K H b zs/\xs.length+zs.length<=sizeLine/\∀p,H p=none->Q (.ref p) (upd H p (.lst (xs++zs)))):=by
 intro aa s σ H x y v u Q I rx ry h;obtain⟨l,b,xs,zs,rfl,rfl,hH,hB,hz,q⟩:=h
 cases rx;cases ry;obtain⟨aj,n,r,hl,_,e⟩:=C0 hK I hH
 obtain⟨dC,n2,r2,hl2,_,e2⟩:=C0 hK I hB
 refine PySem.P.add_list e e2 ?_ (by rw [zzC,zzC];omega);have ea:aj.toArray++dC.toArray=(aj++dC).toArray:=by simp
 rw [ea];exact⟨.ref _,_,I.QR (t':=s.toks) (r.append r2) (by rw [zzM];omega),rfl,q _ I.fresh⟩
noncomputable def Qx:Kh->Operator
 |.add=>.Add|.sub=>.Sub|.mul=>.Mult|.mod=>.Mod|.fdiv=>.FloorDiv
noncomputable def sF(W:Wd)(f:PV->PV->Res PV):R2:=λx y H Q=>∃H0 G p q r,av G H/\Top W H0 G H p x/\Top W H0 G H q y/\f p q=.ok r/\dq W G H r Q
def JM(hK:W.K=X.K)(o:Kh):e8 X (binaryOp (Qx o)) (sF W (binOp o)):=by
 intro aa s σ H x y v u Q I rx ry h;obtain⟨H0,G,p,q,r,sg,t1,t2,e,wq⟩:=h
 unfold binOp at e;split at e
 ·cases e;exact GO aa s σ H x y v u Q I rx ry ⟨_,_,t1.int,t2.int,wq.at sg .i⟩
 ·split at e
  ·rename_i hl;cases e;exact uh aa s σ H x y v u Q I rx ry ⟨_,_,t1.str,t2.str,kJ hl,wq.at sg .s⟩
  ·cases e
 ·split at e
  ·rename_i hl;cases e;obtain⟨a,vs,rfl,h1,l1⟩:=t1.lst sg
   obtain⟨b,us,rfl,h2,l2⟩:=t2.lst sg
   exact EI hK aa s σ H _ _ v u Q I rx ry ⟨a,b,vs,us,rfl,rfl,h1,h2,by rw [l1.length,l2.length];exact kJ hl,λp hp=>wq.lst sg (l1.append l2) hp⟩
  ·cases e
 ·cases e;exact Hy aa s σ H x y v u Q I rx ry ⟨_,_,t1.int,t2.int,wq.at sg .i⟩
 ·split at e
  ·rename_i hc;cases e;refine Hv aa s σ H x y v u Q I rx ry ⟨_,_,t1.int,t2.int,?_,wq.at sg .i⟩;rw [zzt] at hc;unfold aJ at hc;simp! [zza,zzN] at hc;exact hc
  ·cases e
 ·split at e
  ·rename_i hc;cases e;exact Ip aa s σ H x y v u Q I rx ry ⟨_,_,t1.int,t2.int,hc,wq.at sg .i⟩
  ·cases e
 ·split at e
  ·rename_i hc;cases e;exact Eg aa s σ H x y v u Q I rx ry ⟨_,_,t1.int,t2.int,hc,wq.at sg .i⟩
  ·cases e
 ·cases e
def DO:NZ X (unaryOp .USub) (λx H Q=>∃(H0 G:Hp) (i:Int),av G H/\Top W H0 G H (.int i) x/\dq W G H (.int (-i)) Q):=by
 intro aa s σ H x v Q I rx h;obtain⟨H0,G,i,sg,t,wq⟩:=h
 exact IG aa s σ H x v Q I rx ⟨i,t.int,wq.at sg .i⟩
noncomputable def qg:zB->CmpOp
 |.eq=>.Eq|.ne=>.NotEq|.lt=>.Lt|.le=>.LtE|.gt=>.Gt|.ge=>.GtE|.is=>.Is|.vn=>.IsNot|.Fp=>.In|.yg=>.NotIn
def nD{aa:List (Addr×Obj)}{σ:St}{H G:Hp}{s:Shared}{Q:VK}{k:Bool}(I:Inv X aa σ H s)(sg:av G H)(wq:dq W G H (.bl k) Q):EP X aa σ Q (.bool k) s:=⟨.bl k,H,I,rfl,wq.at sg .b⟩
def Gw(hK:W.K=X.K)(hu:X.A.units+64<cLine):e8 X (compareOp .Eq) (sF W iB):=by
 intro aa s σ H x y v u Q I rx ry h;obtain⟨H0,G,p,q,r,sg,t1,t2,e,wq⟩:=h
 unfold iB at e;split at e
 ·rename_i hc;rw [zza] at hc;cases e;exact Mx I hK sg 8 (by omega) hc.1 hc.2 t1 t2 rx ry _ _ _ _ (nD I sg wq)
 ·cases e
def GZ(hK:W.K=X.K)(hu:X.A.units+64<cLine):e8 X (compareOp .NotEq) (sF W eX):=by
 intro aa s σ H x y v u Q I rx ry h;obtain⟨H0,G,p,q,r,sg,t1,t2,e,wq⟩:=h
 unfold eX at e;split at e
 ·rename_i hc;rw [zza] at hc;cases e;exact DZ I hK sg 8 (by omega) hc.1 hc.2 t1 t2 rx ry _ _ _ _ (nD I sg wq)
 ·cases e
theorem kE{G:Hp}:∀{xs:List PV} {vs:List V} {ns:List Int},ag W G xs vs->intsOf xs=some ns->vs=ns.map V.int
 |[],vs,ns,h,e=>by simp! [ag] at h;subst h;cases e;rfl
 |.int i::r,vs,ns,h,e=>by
  obtain⟨v,t,rfl,h1,h2⟩:=h.aZ
  simp! [Rep] at h1;subst h1;unfold intsOf at e;obtain⟨m,hm,rfl⟩:=zzJ.mp e
  rw [kE h2 hm]
  rfl
 |.ay::_,_,_,_,e=>by cases e
 |.bl _::_,_,_,_,e=>by cases e
 |.str _::_,_,_,_,e=>by cases e
 |.tup _::_,_,_,_,e=>by cases e
 |.lst _::_,_,_,_,e=>by cases e
 |.exc _::_,_,_,_,e=>by cases e
 |.br _ _::_,_,_,_,e=>by cases e
def Res.of_ok{α:Type}{o:Option α}{a:α}(h:Res.of o=.ok a):o=some a:=by
 cases o with
 |none=>cases h
 |some b=>cases h;rfl
def Jp(hK:W.K=X.K)(hu:X.A.units+64<cLine):e8 X (compareOp .Lt) (sF W q0):=by
 intro aa s σ H x y v u Q I rx ry h;obtain⟨H0,G,p,q,r,sg,t1,t2,e,wq⟩:=h
 unfold q0 at e;split at e
 ·cases e;exact LJ aa s σ H x y v u Q I rx ry ⟨_,_,t1.int,t2.int,wq.at sg .b⟩
 ·cases e
def Jm:e8 X (compareOp .LtE) (sF W qZ):=by
 intro aa s σ H x y v u Q I rx ry h;obtain⟨H0,G,p,q,r,sg,t1,t2,e,wq⟩:=h
 unfold qZ at e;split at e
 ·cases e;exact Me aa s σ H x y v u Q I rx ry ⟨_,_,t1.int,t2.int,wq.at sg .b⟩
 ·cases e
def GN:e8 X (compareOp .Gt) (sF W uF):=by
 intro aa s σ H x y v u Q I rx ry h;obtain⟨H0,G,p,q,r,sg,t1,t2,e,wq⟩:=h
 unfold uF at e;split at e
 ·cases e;exact MS aa s σ H x y v u Q I rx ry ⟨_,_,t1.int,t2.int,wq.at sg .b⟩
 ·cases e
def HE:e8 X (compareOp .GtE) (sF W qA):=by
 intro aa s σ H x y v u Q I rx ry h;obtain⟨H0,G,p,q,r,sg,t1,t2,e,wq⟩:=h
 unfold qA at e;split at e
 ·cases e;exact K9 aa s σ H x y v u Q I rx ry ⟨_,_,t1.int,t2.int,wq.at sg .b⟩
 ·cases e
def mM{H0 G H:Hp}{p:PV}{x:V}(sg:av G H)(t:Top W H0 G H p x):decide (x=.ay)=Bi p:=by
 cases p with
 |ay=>cases t.ay;rfl
 |bl b=>cases t.bl;rfl
 |int b=>cases t.int;rfl
 |str b=>cases t.str;rfl
 |tup b=>obtain⟨a,vs,rfl,_⟩:=t.tup sg;rfl
 |lst b=>obtain⟨a,vs,rfl,_⟩:=t.lst sg;rfl
 |br b c=>obtain⟨a,vs,rfl,_⟩:=t.br sg;rfl
 |exc c=>
  rcases t with t|t
  ·simp! [Rep] at t;obtain⟨a,C,rfl,_⟩:=t
   rfl
  ·exact t.elim
def JP:e8 X (compareOp .Is) (sF W pR):=by
 intro aa s σ H x y v u Q I rx ry h;obtain⟨H0,G,p,q,r,sg,t1,t2,e,wq⟩:=h
 unfold pR at e;split at e
 ·cases e;refine Gv aa s σ H x y v u Q I rx ry ⟨t2.ay,?_⟩;rw [mM sg t1];exact wq.at sg .b
 ·cases e;exact yL aa s σ H x y v u Q I rx ry ⟨_,_,t1.bl,t2.bl,wq.at sg .b⟩
 ·cases e
def DR:e8 X (compareOp .IsNot) (sF W ef):=by
 intro aa s σ H x y v u Q I rx ry h;obtain⟨H0,G,p,q,r,sg,t1,t2,e,wq⟩:=h
 unfold ef at e;split at e
 ·cases e;refine D4 aa s σ H x y v u Q I rx ry ⟨t2.ay,?_⟩;rw [mM sg t1];exact wq.at sg .b
 ·cases e;exact rk aa s σ H x y v u Q I rx ry ⟨_,_,t1.bl,t2.bl,wq.at sg .b⟩
 ·cases e
variable{H0 G H:Hp}
def uU{aa:List (Addr×Obj)}{σ:St}{s:Shared}(I:Inv X aa σ H s)(hK:W.K=X.K)(sg:av G H){A:Around}{a:PV}{x:V}{x':Value}{ys:List PV}{us:List V}{aj:List Value}(hu:A.units+32<cLine)(ha:yc a=true)(hy:ys.all yc=true)(ta:Top W H0 G H a x)(rx:RelV x x')(l:ag W G ys us)(r:Vals us aj):
 ∃e:Value->Bool,(∀y∈aj,SeqAt.EqAt A s y x' (e y))/\∀(j:Nat) (y:Value) (p:PV),aj[j]?=some y->ys[j]?=some p->e y=eqv p a:=by
 classical
 have key:∀(j:Nat) (y:Value),aj[j]?=some y->∃p u,ys[j]?=some p/\us[j]?=some u/\Rep W G p u/\RelV u y/\yc p=true:=λj y e=>by
  have hj:=(zzH.mp e).1
  have hl:=r.length
  obtain⟨u,Fw,GQ⟩:=r.get (i:=j) (x:=us[j]'(by omega)) (zzg (by omega))
  rw [e] at Fw;cases Fw;obtain⟨p,hp,kp⟩:=l.get (zzg (show j<us.length by omega))
  exact⟨p,_,hp,zzg (by omega),kp,GQ,zzT.mp hy p (zzD hp)⟩
 refine⟨λy=>if h:∃(j:Nat) (p:PV),aj[j]?=some y/\ys[j]?=some p then eqv h.choose_spec.choose a else false,λy Dx=>?_,λj y p e1 e2=>?_⟩
 ·obtain⟨j,hj,e⟩:=List.getElem_of_mem Dx
  have ej:aj[j]?=some y:=by rw [zzg hj,e]
  obtain⟨p,u,h1,h2,h3,h4,h5⟩:=key j y ej
  have hex:∃(j:Nat) (p:PV),aj[j]?=some y/\ys[j]?=some p:=⟨j,p,ej,h1⟩
  dsimp only;rw [dif_pos hex];have sp:=hex.choose_spec.choose_spec
  obtain⟨p2,u2,g1,g2,g3,g4,g5⟩:=key _ y sp.1
  have e3:hex.choose_spec.choose=p2:=zzq (sp.2.symm.trans g1)
  rw [e3];exact A3 (H0:=H0) I hK sg 9 (by omega) g5 ha (.inl g3) ta g4 rx
 ·have hex:∃(j:Nat) (p:PV),aj[j]?=some y/\ys[j]?=some p:=⟨j,p,e1,e2⟩
  dsimp only;rw [dif_pos hex];obtain⟨p1,u1,f1,f2,f3,f4,f5⟩:=key j y e1
  rw [e2] at f1;cases f1;have sp:=hex.choose_spec.choose_spec
  obtain⟨p2,u2,g1,g2,g3,g4,g5⟩:=key _ y sp.1
  have e3:hex.choose_spec.choose=p2:=zzq (sp.2.symm.trans g1)
  have e4:u1=u2:=f4.inj g4
  subst e4;rw [e3,vG I hK sg DP g5 f5 (.inl g3:Top W H0 G H p2 u1) (.inl f3)]
def zA{aj:List Value}{ys:List PV}{e:Value->Bool}{f:PV->Bool}:aj.length=ys.length->(∀(j:Nat) (y:Value) (p:PV),aj[j]?=some y->ys[j]?=some p->e y=f p)->aj.any e=ys.any f:=by
 intro hl h;have:aj.map e=ys.map f:=iu (by simpa using hl) λj x y hx hy=>by
  rw [zzQ] at hx hy;obtain⟨a,ha,rfl⟩:=zzJ.mp hx
  obtain⟨b,hb,rfl⟩:=zzJ.mp hy
  exact h j a b ha hb
 calc aj.any e=(aj.map e).any id:=by rw [List.any_map];rfl
  _=(ys.map f).any id:=by rw [this]
  _=ys.any f:=by rw [List.any_map];rfl
def IV(hK:W.K=X.K)(hu:X.A.units+64<cLine):e8 X (compareOp .In) (sF W uC):=by
 intro aa s σ H x y v u Q I rx ry h;obtain⟨H0,G,p,q,r,sg,t1,t2,e,wq⟩:=h
 have Fw:X.A.in1.units+32<cLine:=by show X.A.units+1+32<_;omega
 unfold uC at e;split at e
 ·split at e
  ·rename_i hc;rw [zza] at hc;cases e;obtain⟨b,us,rfl,q2,l2⟩:=t2.lst sg
   cases ry;obtain⟨aj,rv,z,_⟩:=I.list (iO hK q2)
   obtain⟨e,he,hv⟩:=uU I hK sg Fw hc.1 hc.2 t1 rx l2 rv
   refine SeqAt.in_listAt e z.isList (λy hy=>he y (by simpa using hy)) ?_
   have:=zA (by rw [<-rv.length,l2.length]) hv
   rw [List.any_toArray,this];exact nD I sg wq
  ·cases e
 ·obtain⟨k,hk,e⟩:=Res.aY e
  cases e;have hk:=dw (Res.of_ok hk)
  subst hk;obtain⟨b,rfl,hb⟩:=t1.tupI (ns:=k) sg rfl
  obtain⟨a,us,rfl,n,hd,l⟩:=t2.br sg
  cases ry;refine Qt (show X.A.units+1<cLine by omega) I (.inr ⟨_,ki k,b,hd,rfl,(by rw [uy];exact sg _ _ hb),rfl⟩) rx λs' I'=>?_
  rw [iy,fH k _ us n];exact nD I' sg wq
 ·cases e
def Di(hK:W.K=X.K)(hu:X.A.units+64<cLine):e8 X (compareOp .NotIn) (sF W f9):=by
 intro aa s σ H x y v u Q I rx ry h;obtain⟨H0,G,p,q,r,sg,t1,t2,e,wq⟩:=h
 have Fw:X.A.in1.units+32<cLine:=by show X.A.units+1+32<_;omega
 unfold f9 at e;split at e
 ·split at e
  ·rename_i hc;rw [zza] at hc;cases e;obtain⟨b,us,rfl,q2,l2⟩:=t2.lst sg
   cases ry;obtain⟨aj,rv,z,_⟩:=I.list (iO hK q2)
   obtain⟨e,he,hv⟩:=uU I hK sg Fw hc.1 hc.2 t1 rx l2 rv
   refine SeqAt.notIn_listAt e z.isList (λy hy=>he y (by simpa using hy)) ?_
   have:=zA (by rw [<-rv.length,l2.length]) hv
   rw [List.any_toArray,this];exact nD I sg wq
  ·cases e
 ·obtain⟨k,hk,e⟩:=Res.aY e
  cases e;have hk:=dw (Res.of_ok hk)
  subst hk;obtain⟨b,rfl,hb⟩:=t1.tupI (ns:=k) sg rfl
  obtain⟨a,us,rfl,n,hd,l⟩:=t2.br sg
  cases ry;refine Eu (show X.A.units+1<cLine by omega) I (.inr ⟨_,ki k,b,hd,rfl,(by rw [uy];exact sg _ _ hb),rfl⟩) rx λs' I'=>?_
  rw [iy,fH k _ us n];exact nD I' sg wq
 ·cases e
theorem fM(hK:W.K=X.K)(hu:X.A.units+64<cLine):∀o:zB,e8 X (compareOp (qg o)) (sF W (cV o))
 |.eq=>Gw hK hu|.ne=>GZ hK hu|.lt=>Jp hK hu|.le=>Jm|.gt=>GN|.ge=>HE|.is=>JP|.vn=>DR|.Fp=>IV hK hu|.yg=>Di hK hu
def u5{ps:List PV}{vs:List V}{i:Int}{p:PV}(l:ag W G ps vs)(h:sA ps i=some p):∃v,sA vs i=some v/\Rep W G p v:=by
 unfold sA at h⊢;rw [l.length];cases e:F9 ps.length i with
 |none=>rw [e] at h;cases h
 |some j=>
  rw [e] at h;exact l.lZ h
def Ha(hu:X.A.units+1<cLine):KG X (λx y H Q=>∃a ax k b v,x=.ref a/\Rd H a (.dT ax)/\y=.ref b/\H b=some (.tup (k.map kV))/\iC ax k=some v/\Q v H):=by
 intro value slice aa s σ H x y v u Q I rx ry h hs;obtain⟨a,ax,k,b,z,rfl,hd,rfl,hb,hv,q⟩:=h
 cases rx;cases ry;obtain⟨_,_,xs,rel,dd⟩:=lJ I.bj hd
 obtain⟨w',hw,gF⟩:=jX.some_of (v:=z) (o:=(atKey xs k).map (·.2)) (by rw [<-hv];exact rel.val k)
 obtain⟨p,hp,hp2⟩:=zzJ.mp hw
 exact PyProof.Rows.subscriptTail_builtinR (x:=w') dd.typeIs PySem.F.slot_dict_getitem.lookup (wpAny_getItem_heap (Q:=λr s'=>r=w'/\EP X aa σ Q r s') (tupleKind_room_in1 hu) (gr I.bj hb) dd hp ⟨hp2,by rw [hp2];exact⟨z,H,I.tok _,gF,q⟩⟩) hs
def OH(hK:W.K=X.K)(hu:X.A.units+64<cLine):KG X (sF W aE):=by
 intro value slice aa s σ H x y v u Q I rx ry h hs;obtain⟨H0,G,p,q,r,sg,t1,t2,e,wq⟩:=h
 unfold aE at e;split at e
 ·obtain⟨a,vs,rfl,h1,l1⟩:=t1.lst sg
  obtain⟨w,hw,kw⟩:=u5 l1 (Res.of_ok e)
  exact B2 value slice aa s σ H _ y v u Q I rx ry ⟨a,vs,_,w,rfl,t2.int,iO hK h1,hw,wq.at sg kw⟩ hs
 ·obtain⟨a,vs,rfl,h1,l1⟩:=t1.tup sg
  rw [hK] at h1;obtain⟨w,hw,kw⟩:=u5 l1 (Res.of_ok e)
  exact Gb value slice aa s σ H _ y v u Q I rx ry ⟨a,vs,_,w,rfl,t2.int,h1,hw,wq.at sg kw⟩ hs
 ·split at e
  ·rename_i hl;obtain⟨c,hc,e⟩:=Res.aY e
   cases e;exact JD value slice aa s σ H x y v u Q I rx ry ⟨_,_,c,t1.str,t2.int,kJ hl,Res.of_ok hc,wq.at sg .s⟩ hs
  ·cases e
 ·obtain⟨k,hk,e2⟩:=Res.aY e
  have hk:=dw (Res.of_ok hk)
  subst hk;obtain⟨b,rfl,hb⟩:=t2.tupI (ns:=k) sg rfl
  obtain⟨a,us,rfl,n,hd,l⟩:=t1.br sg
  obtain⟨w,hw,kw⟩:=oy l (Res.of_ok e2)
  exact Ha (by omega) value slice aa s σ H _ _ v u Q I rx ry ⟨a,_,ki k,b,w,rfl,hd,rfl,(by rw [uy];exact sg _ _ hb),(by rw [iy];exact hw),wq.at sg kw⟩ hs
 ·cases e
def B0{ps:List PV}{vs:List V}(lo hi:Option Int)(l:ag W G ps vs):ag W G (lY ps lo hi) (wH vs lo hi):=by
 unfold lY wH;rw [l.length];exact(l.drop _).take _
def OP(hK:W.K=X.K):L2.FD X (λx lo hi H Q=>∃H0 G p r,av G H/\Top W H0 G H p x/\du p lo hi=.ok r/\dq W G H r Q):=by
 intro aa s σ H x v vl vu lo hi sl Q I rx hs pl pu h;obtain⟨H0,G,p,r,sg,t1,e,wq⟩:=h
 unfold du at e;split at e
 ·cases e;obtain⟨a,vs,rfl,h1,l1⟩:=t1.lst sg
  exact CC aa s σ H _ v vl vu _ _ sl Q I rx hs pl pu ⟨a,vs,rfl,iO hK h1,λp hp=>wq.lst sg (B0 _ _ l1) hp⟩
 ·cases e
def BP(W:Wd)(f:List PV->Res PV):List V->Hp->VK->Prop:=λvs H Q=>∃H0 G ps r,av G H/\Paired (λv p=>Top W H0 G H p v) vs ps/\f ps=.ok r/\dq W G H r Q
def gO{H0 G H:Hp}{vs:List V}{p:PV}(h:Paired (λv p=>Top W H0 G H p v) vs [p]):∃v,vs=[v]/\Top W H0 G H p v:=by
 cases h with
 |cons h t=>cases t;exact⟨_,rfl,h⟩
def FA{H0 G H:Hp}{vs:List V}{p q:PV}(h:Paired (λv p=>Top W H0 G H p v) vs [p,q]):∃v u,vs=[v,u]/\Top W H0 G H p v/\Top W H0 G H q u:=by
 cases h with
 |cons h t=>
  cases t with
  |cons h2 t2=>cases t2;exact⟨_,_,rfl,h,h2⟩
def xr(hK:W.K=X.K):bV X (.builtin "len") (BP W uk):=by
 intro aa s σ H xs us Q I r h;obtain⟨H0,G,ps,rr,sg,tp,e,wq⟩:=h
 unfold uk at e;split at e
 ·cases e;obtain⟨v,rfl,t⟩:=gO tp
  obtain⟨a,vs,rfl,h1,l1⟩:=t.lst sg
  exact hX aa s σ H _ us Q I r ⟨a,vs,rfl,.inl (iO hK h1),by rw [l1.length];exact wq.at sg .i⟩
 ·cases e;obtain⟨v,rfl,t⟩:=gO tp
  obtain⟨a,vs,rfl,h1,l1⟩:=t.tup sg
  rw [hK] at h1;exact hX aa s σ H _ us Q I r ⟨a,vs,rfl,.inr h1,by rw [l1.length];exact wq.at sg .i⟩
 ·split at e
  ·rename_i hl;cases e;obtain⟨v,rfl,t⟩:=gO tp
   exact n9 aa s σ H _ us Q I r ⟨_,by rw [t.str],kJ hl,wq.at sg .i⟩
  ·cases e
 ·cases e;obtain⟨v,rfl,t⟩:=gO tp
  obtain⟨a,us',rfl,n,hd,l⟩:=t.br sg
  obtain⟨u,rfl,ru⟩:=vals1 r
  cases ru;exact IQ I hd λt s' I'=>⟨.int _,H,I',⟨t,rfl⟩,by rw [qb n];exact wq.at sg .i⟩
 ·cases e
def wu:bV X (.builtin "abs") (BP W A7):=by
 intro aa s σ H xs us Q I r h;obtain⟨H0,G,ps,rr,sg,tp,e,wq⟩:=h
 unfold A7 at e;split at e
 ·cases e;obtain⟨v,rfl,t⟩:=gO tp
  exact Ag aa s σ H _ us Q I r ⟨_,by rw [t.int],wq.at sg .i⟩
 ·cases e
def xN(hc:X.calm=true):bV X (.builtin "max") (BP W zg):=by
 intro aa s σ H xs us Q I r h;obtain⟨H0,G,ps,rr,sg,tp,e,wq⟩:=h
 unfold zg at e;split at e
 ·cases e;obtain⟨v,u,rfl,t,t2⟩:=FA tp
  exact xK hc aa s σ H _ us Q I r ⟨_,_,by rw [t.int,t2.int],wq.at sg .i⟩
 ·cases e
def xw(hc:X.calm=true):bV X (.builtin "min") (BP W zD):=by
 intro aa s σ H xs us Q I r h;obtain⟨H0,G,ps,rr,sg,tp,e,wq⟩:=h
 unfold zD at e;split at e
 ·cases e;obtain⟨v,u,rfl,t,t2⟩:=FA tp
  exact wB hc aa s σ H _ us Q I r ⟨_,_,by rw [t.int,t2.int],wq.at sg .i⟩
 ·cases e
def wY:bV X (.type "int") (BP W zF):=by
 intro aa s σ H xs us Q I r h;obtain⟨H0,G,ps,rr,sg,tp,e,wq⟩:=h
 unfold zF at e;split at e
 ·split at e
  ·rename_i hl;obtain⟨n,hn,e⟩:=Res.aY e
   cases e;obtain⟨v,rfl,t⟩:=gO tp
   exact qc aa s σ H _ us Q I r ⟨_,n,by rw [t.str],Res.of_ok hn,hl,wq.at sg .i⟩
  ·cases e
 ·cases e
def xF:bV X (.type "str") (BP W zP):=by
 intro aa s σ H xs us Q I r h;obtain⟨H0,G,ps,rr,sg,tp,e,wq⟩:=h
 unfold zP at e;split at e
 ·split at e
  ·rename_i hl;cases e;obtain⟨v,rfl,t⟩:=gO tp
   exact pX aa s σ H _ us Q I r ⟨_,by rw [t.int],hl,wq.at sg .s⟩
  ·cases e
 ·cases e
def rC(hK:W.K=X.K):bV X (.type "tuple") (BP W kF):=by
 intro aa s σ H xs us Q I r h;obtain⟨H0,G,ps,rr,sg,tp,e,wq⟩:=h
 unfold kF at e;split at e
 ·cases e;obtain⟨v,rfl,t⟩:=gO tp
  obtain⟨a,vs,rfl,h1,l1⟩:=t.lst sg
  exact mJ aa s σ H _ us Q I r ⟨a,vs,rfl,.inl ⟨iO hK h1,λp hp=>wq.tup sg l1 hp⟩⟩
 ·cases e
noncomputable def ug:Ty->String
 |.int=>"int"|.bool=>"bool"|.tuple=>"tuple"
def Mi{K:zz8}(t:Ty):Cw.BO K "NoneType" (ug t) false/\(∀b,Cw.BO K "bool" (ug t) (gy t (.bl b)))/\(∀i,Cw.BO K "int" (ug t) (gy t (.int i)))/\(∀z,Cw.BO K "str" (ug t) (gy t (.str z)))/\(∀z,Cw.BO K "tuple" (ug t) (gy t (.tup z)))/\(∀z,Cw.BO K "list" (ug t) (gy t (.lst z))):=by
 cases t
 all_goals refine⟨?_,λb=>?_,λb=>?_,λb=>?_,λb=>?_,λb=>?_⟩
 all_goals first
  |exact Cw.Ad _
  |exact Cw.y9 (b:=false) (by decide+kernel) (by decide+kernel) (by decide+kernel)
  |exact Cw.y9 (b:=true) (by decide+kernel) (by decide+kernel) (by decide+kernel)
def Ab(hK:W.K=X.K)(t:Ty):bV X (.builtin "isinstance") (λxs H Q=>∃v H0 G p r,xs=[v,.ty (ug t)]/\av G H/\Top W H0 G H p v/\iT t p=.ok r/\dq W G H r Q):=by
 intro aa s σ H xs us Q I rr h;obtain⟨v,H0,G,p,r,rfl,sg,tp,e,wq⟩:=h
 obtain⟨u,u2,rfl,ru,ru2⟩:=Vals.two rr
 cases ru2;obtain⟨k1,k2,k3,k4,k5,k6⟩:=Mi (K:=X.K) t
 cases p with
 |exc c=>cases e
 |br a b=>cases e
 |ay=>cases e;cases tp.ay;cases ru;cases t<;>exact PySem.W.kia_one PySem.W.kitx_none I.vc True.intro k1 (λz=>nomatch z) λtk=>⟨.bl _,H,I.tok tk,rfl,wq.at sg .b⟩
 |bl b=>cases e;cases tp.bl;cases ru;exact PySem.W.kia_one PySem.W.kitx_bool I.vc True.intro (k2 b) (λz=>nomatch z) λtk=>⟨.bl _,H,I.tok tk,rfl,wq.at sg .b⟩
 |int b=>cases e;cases tp.int;obtain⟨t1,rfl⟩:=ru;exact PySem.W.kia_one PySem.W.kitx_int I.vc True.intro (k3 b) (λz=>nomatch z) λtk=>⟨.bl _,H,I.tok tk,rfl,wq.at sg .b⟩
 |str b=>cases e;cases tp.str;obtain⟨t1,rfl⟩:=ru;exact PySem.W.kia_one PySem.W.kitx_str I.vc True.intro (k4 b) (λz=>nomatch z) λtk=>⟨.bl _,H,I.tok tk,rfl,wq.at sg .b⟩
 |tup b=>
  cases e;obtain⟨a,vs,rfl,h1,l1⟩:=tp.tup sg
  rw [hK] at h1;cases ru;obtain⟨aj,_,⟨o,e1,e2,_⟩,_⟩:=I.tuple h1
  exact PySem.W.kia_one PySem.W.kitx_tuple I.vc ⟨o,e1,e2⟩ (k5 b) (λz=>nomatch z) λtk=>⟨.bl _,H,I.tok tk,rfl,wq.at sg .b⟩
 |lst b=>
  cases e;obtain⟨a,vs,rfl,h1,l1⟩:=tp.lst sg
  cases ru;obtain⟨aj,n,_,_,_,e1⟩:=C0 hK I h1
  exact PySem.W.kia_one PySem.W.kitx_list I.vc ⟨_,e1,rfl⟩ (k6 b) (λz=>nomatch z) λtk=>⟨.bl _,H,I.tok tk,rfl,wq.at sg .b⟩
theorem om{k:List Int}{v:V}(h:Rep W G (ae k) v):∃b,v=.ref b/\G b=some (.tup (k.map V.int)):=Top.tupI (H0:=G) (av.refl G) rfl (.inl h)
theorem pY{K:zz8}(sg:av G H):∀{xs:List PV} {nss:List (List Int)} {vs:List V},eQ xs=some nss->ag W G xs vs->nss.all (λk=>!k.isEmpty)=true->j3 K H vs nss
 |[],_,_,e,l,_=>by cases e;simp! [ag] at l;subst l;exact .nil
 |x::xs,nss,vs,e,l,ne=>by
  unfold eQ at e;obtain⟨k,hk,e⟩:=zzZ.mp e
  obtain⟨r,hr,rfl⟩:=zzJ.mp e
  obtain⟨v,vr,rfl,h1,h2⟩:=l.aZ
  rw [List.all_cons,zza] at ne;rw [dw hk] at h1;obtain⟨b,rfl,hb⟩:=om h1
  exact .cons ⟨b,rfl,.inl (.inl (sg _ _ hb)),λz=>by rw [z] at ne;exact absurd ne.1 (by decide)⟩ (pY sg hr h2 ne.2)
def EU{ps:List PV}{vs:List V}{nss:List (List Int)}(l:ag W G ps vs):ag W G (my .ay ps nss) (my V.ay vs nss):=by
 unfold my;rw [l.length];split
 ·exact l
 ·have go:∀ix:List Nat,ag W G (ix.map λi=>ps.getD i .ay) (ix.map λi=>vs.getD i V.ay):=by
   intro ix
   induction ix with
   |nil=>exact .nil
   |cons i ix ih=>
    refine .cons ?_ ih;dsimp only
    by_cases hi:i<ps.length
    ·obtain⟨v,hv,rv⟩:=l.lZ (zzg hi)
     have e1:ps.getD i .ay=ps[i]:=by simp [hi]
     have e2:vs.getD i V.ay=v:=by simp [hv]
     rw [e1,e2];exact rv
    ·have e1:ps.getD i .ay=.ay:=by simp [Nat.le_of_not_lt hi]
     have e2:vs.getD i V.ay=.ay:=by simp [Nat.le_of_not_lt (l.length▸hi)]
     rw [e1,e2];exact .n
  exact go _
theorem nu:∀{vs:List V} {nss:List (List Int)} {G:Hp},av G H->Paired (λv ns=>∃b,v=V.ref b/\H b=some (.tup (ns.map V.int))) vs nss->∃G',aD W G H G' H/\ag W G' (nss.map ae) vs
 |_,_,G,sg,.nil=>⟨G,.refl sg,.nil⟩
 |_,_,G,sg,.cons (b:=ns) h t=>by
  obtain⟨b,rfl,hb⟩:=h
  have g1:=aD.adopt (W:=W) sg hb
  obtain⟨G2,g2,l⟩:=nu g1.sub t
  refine⟨G2,g1.trans g2,.cons (Rep.same g2.g _ ?_) l⟩;refine .t (.inl ak) ?_;have go:∀ns:List Int,ag W (upd G b (.tup (ns.map V.int))) (ns.map .int) (ns.map V.int)/\True:=λ_=>⟨by
   rename_i ns';have all:∀(G':Hp) (l:List Int),ag W G' (l.map .int) (l.map V.int):=λG' l=>by
    induction l with
    |nil=>exact .nil
    |cons x l ih=>exact .cons .i ih
   exact all _ _,trivial⟩
  exact(go ns).1
theorem Bx{K:zz8}(hK:W.K=K)(sg:av G H):∀{xs:List PV} {ps:List (List Int×PV)} {vs:List V},tV xs=some ps->ag W G xs vs->∃us,ag W G (ps.map (·.2)) us/\f7 K H vs ((ps.map λp=>ki p.1).zip us)
 |[],_,_,e,l=>by cases e;simp! [ag] at l;subst l;exact⟨[],.nil,.nil⟩
 |x::xs,ps,vs,e,l=>by
  obtain⟨v,vr,rfl,h1,h2⟩:=l.aZ
  unfold tV at e;split at e
  ·rename_i heq;cases heq
  ·rename_i heq;cases heq;obtain⟨k,hk,e⟩:=zzZ.mp e
   obtain⟨r,hr,rfl⟩:=zzJ.mp e
   obtain⟨us,l2,p2⟩:=Bx hK sg hr h2
   simp! [Rep] at h1;obtain⟨q,ws,rfl,tq,lq⟩:=h1
   obtain⟨w1,wr,rfl,k1,lq⟩:=lq.aZ
   obtain⟨w2,wr2,rfl,k2,lq⟩:=lq.aZ
   simp! [ag] at lq;subst lq;rw [dw hk] at k1;obtain⟨b,rfl,hb⟩:=om k1
   refine⟨w2::us,.cons k2 l2,.cons ⟨q,b,rfl,?_,by rw [uy];exact sg _ _ hb⟩ p2⟩;rw [<-hK];exact av.tup sg tq.sq
  ·cases e
theorem mO:∀(ps:List (List Int×PV)) {us:List V} {ks:List (List Int)} {qs:List PV} {ws:List V},ag W G (ps.map (·.2)) us->ks.length=ws.length->ag W G qs ws->∃zs,(dB ps ks qs).1.length=zs.length/\ag W G (dB ps ks qs).2 zs/\dF (kz ks ws) ((ps.map λp=>ki p.1).zip us)=kz (dB ps ks qs).1 zs
 |[],us,ks,qs,ws,_,n,l=>⟨ws,n,l,rfl⟩
 |p::ps,us,ks,qs,ws,lu,n,l=>by
  obtain⟨u,ur,rfl,h1,h2⟩:=lu.aZ
  obtain⟨zs,z1,z2,z3⟩:=mO ps h2 (rY n p.1 u) (vI (ks:=ks) (k:=p.1) l h1)
  refine⟨zs,z1,z2,?_⟩;show dF (putK (kz ks ws) (ki p.1) u) _=_
  rw [yQ n];exact z3
def zi(hK:W.K=X.K){H0:Hp}{ps:List PV}{q:PV}{xs:List V}(sg:av G H)(tp:Paired (λv p=>Top W H0 G H p v) xs ps)(e:nL ps=.ok q):∃ks qs,q=.br ks qs/\∃a vs ax,xs=[V.ref a]/\di X.K H a vs/\f7 X.K H vs ax/\∃zs,ks.length=zs.length/\ag W G qs zs/\dF [] ax=kz ks zs:=by
 unfold nL at e;split at e
 ·obtain⟨ps,hp,e⟩:=Res.aY e
  cases e;obtain⟨v,rfl,t⟩:=gO tp
  obtain⟨a,vs,rfl,h1,l1⟩:=t.lst sg
  obtain⟨ws,lw,pw⟩:=Bx hK sg (Res.of_ok hp) l1
  obtain⟨zs,z1,z2,z3⟩:=mO ps (ks:=[]) (qs:=[]) (ws:=[]) lw rfl .nil
  exact⟨_,_,rfl,a,vs,_,rfl,iO hK h1,pw,zs,z1,z2,z3⟩
 ·cases e
def qE(hK:W.K=X.K)(hc:X.calm=true)(hu:X.A.units+64<cLine):bV X (.type "dict") (BP W nL):=by
 intro aa s σ H xs us Q I r h;obtain⟨H0,G,ps,rr,sg,tp,e,wq⟩:=h
 obtain⟨ks,qs,rfl,a,vs,ax,rfl,h1,pw,zs,z1,z2,z3⟩:=zi hK sg tp e
 refine uj hc (by omega) aa s σ H _ us Q I r ⟨a,vs,_,rfl,h1,pw,λp o hn=>?_⟩
 rw [z3];refine wq _ _ _ (.new sg hn) ?_;simp! [Rep];exact⟨p,o,zs,rfl,z1,ak,ag.same (aW (sg.free hn)) _ z2⟩
end
end Ci
namespace L2
open PySem PySem.Spec PyProof.Rows
section
variable{X:Cx}{scope:Scope}{xs ys:List Str}{is:List Nat}
theorem pK{i₀:Nat}{x₀:Str}{pos' fP:Pos}{elt tg iter Gi:Expr}{pos:Pos}{wi:TI}{g:TG}{te:TE}{tt:TT}(hN₀:X.N.Nodup)(hi₀:X.N[i₀]?=some x₀)(hx₀:Loc X.env.scope x₀)(hc:X.calm=true)(S:dQ X scope xs ys is)(hi:PI X tg iter wi)
 (hg:∀fp s1 H1 C,PG (bB X (xs++ys) scope (bW X.env ys) fp s1 H1 C) tg g) (ht:∀fp s1 H1 C,PT (bB X (xs++ys) scope (bW X.env ys) fp s1 H1 C) Gi tt) (he:∀fp s1 H1 C,PE (bB X (xs++ys) scope (bW X.env ys) fp s1 H1 C) elt te)
 (wc:swapsWith (.ListComp elt [⟨tg,iter,[Gi],0⟩] scope pos) (some (.Name x₀ pos')) fP.line X.env=pure true:=by rfl)
 (hs:∀x,foldedSetIterable iter X.env x=pure x:=by intro _;rfl) (hf₀:X.fn x₀=true\/X.env.scope.names.lookup x₀=some .local:=by first|exact .inl rfl|exact .inr rfl|assumption):
 PS X (.Assign [.Name x₀ pos'] (.ListComp elt [⟨tg,iter,[Gi],0⟩] scope pos) fP) (DF (ja wi xs.length g tt te is) (fD i₀)):=by
 intro aa s σ H D₀ I h;rw [exec_Assign_Name_used _ _ _ _ wc];refine zzA (wpAny_standAt (zzA ?_));show wpAny _ X.A (do let _<-comprehension (.ListComp elt [⟨tg,iter,[Gi],0⟩] scope pos) scope X.env _ (newList []) false (eval iter X.env) (some (assign (.Name x₀ pos') X.env))) _ _ s;refine zzA (wpAny_mono (fI (QQ:=λ_ s'=>∃σ2 H2,Inv X aa σ2 H2 s'/\D₀.nx σ2 H2) (Q:=λv H4=>fD i₀ v σ H4 D₀.nx) hc S hi hg (λfp s1 H1 C=>uW (ht fp s1 H1 C)) he hs I h λD C s4 H4 m I5 hn ⟨g0,g1,_,g3,g4,g5⟩ q=>?_) (λ_ s' hq=>zzG (zzG hq)) λ_ _ e=>e)
 refine wpAny_assign_Name (iA I5 hN₀ hi₀ hx₀ (show RelV (.ref D) (.ref D) from rfl) (λs6 I6 ⟨a6,sb6,ha6⟩=>?_) hf₀);have AM:C≠a6:=by
  rcases ha6 with z|z
  ·rw [z];exact g1
  ·exact λz2=>g4 _ _ z z2.symm
 exact⟨m,hn.sameBut sb6 AM,λh' qU=>⟨_,_,I6.turned (t':=s6.toks) (it:=C) (λb o hb e=>qU.extBut b o hb e) g0 g1 g3 g4 g5,q⟩⟩
end
open PySem.AutoSeq1 (wpAny_loadPart')
section
variable{prog:Program}{w:World}{A:Around}{E:Value->Shared->Prop}{s:Shared}{jt tu:Addr}{i:Nat}{aj:Array Value}{Q:Value->Shared->Prop}
def iY{x:Value}(ih:s.heap.IsTupleIter jt tu i)(th:s.heap.IsTuple tu aj)(hx:aj[i]?=some x)
 (k:∀g,g.IsTupleIter jt tu (i+1)->Heap.SameBut jt s.heap g->Q x {s with heap:=g}):wpAny (model prog w) A (Builtin.SmallTypes.nextOf (.ref jt)) Q E s:=by
 obtain⟨ob,e1,e2,e3⟩:=id ih
 obtain⟨ot,f1,_,nn,f2⟩:=th
 unfold Builtin.SmallTypes.nextOf;refine zzA (wpAny_callSpecial?_slot (name:=Str.ofString "__next__") ih.typeIs F.slot_tuple_iterator_next (wpAny_call_entry F.slot_tuple_iterator_next ih.typeIs F.entry_tuple_iterator_next ?_ (F.args_tuple_iterator_next_1 _)));show wpAny _ _ (field (.ref jt) 0>>=_) _ _ s;refine zzA (wpAny_field e1 e3 (x:=.ref tu) rfl ?_);show wpAny _ _ (if(Value.ref tu==Value.none)=true then _ else _) _ _ s;rw [if_neg (show¬((Value.ref tu==Value.none)=true) from zzf)];show wpAny _ _ (field (.ref jt) 1>>=_) _ _ s;refine zzA (wpAny_field e1 e3 (x:=.int i 0) rfl ?_);show wpAny _ _ (seqItems? (.ref tu)>>=_) _ _ s;refine zzA (wpAny_seqItems f1 f2 ?_);simp! [zz4,hx];refine zzA (wpAny_setField e1 e3 (by simp) (zzG ⟨x,rfl,zzG (k _ ?_ (zzu ..))⟩));exact⟨_,Heap.get?_update_self _ e1 (Obj.isFreed_of_fields (Obj.data_mapFields e3 _)),(Obj.cls_mapFields ..).trans e2,by rw [Obj.data_mapFields e3];simp [rawInt]⟩
def lP(hh:A.handled=none)(ih:s.heap.IsTupleIter jt tu i)(th:s.heap.IsTuple tu aj)(hx:aj[i]?=none)
 (k:∀g e,Heap.ExtBut jt s.heap g->(∃o,g.get? e=some o/\o.cls=.type "StopIteration")->E (.ref e) {s with heap:=g}):wpAny (model prog w) A (Builtin.SmallTypes.nextOf (.ref jt)) Q E s:=by
 obtain⟨ob,e1,e2,e3⟩:=id ih
 obtain⟨ot,f1,_,nn,f2⟩:=th
 unfold Builtin.SmallTypes.nextOf;refine zzA (wpAny_callSpecial?_slot (name:=Str.ofString "__next__") ih.typeIs F.slot_tuple_iterator_next (wpAny_call_entry F.slot_tuple_iterator_next ih.typeIs F.entry_tuple_iterator_next ?_ (F.args_tuple_iterator_next_1 _)));show wpAny _ _ (field (.ref jt) 0>>=_) _ _ s;refine zzA (wpAny_field e1 e3 (x:=.ref tu) rfl ?_);show wpAny _ _ (if(Value.ref tu==Value.none)=true then _ else _) _ _ s;rw [if_neg (show¬((Value.ref tu==Value.none)=true) from zzf)];show wpAny _ _ (field (.ref jt) 1>>=_) _ _ s;refine zzA (wpAny_field e1 e3 (x:=.int i 0) rfl ?_);show wpAny _ _ (seqItems? (.ref tu)>>=_) _ _ s;refine zzA (wpAny_seqItems f1 f2 ?_);simp! [zz4,hx];refine zzA (wpAny_rule (zzA (wpAny_setField e1 e3 (by simp) ?_)));show wpAny _ _ (newExc (.type "StopIteration") []>>=_) _ _ _;refine zzA ?_;simp! [newExc,newTuple];refine zzA (wpAny_newObj_type ?_ (by size_fits));refine zzA (m:=firstArgMember _ _) (wpAny_of_eq (a:=Value.none) (by first|rfl|(simp! [firstArgMember];rfl)) ?_);refine wpAny_newObj_type ?_ (by size_fits);simp! [raiseNew];refine zzA (wpAny_handled ?_)
 first|rw [show A.in1.handled=none from hh]|rw [hh]
 refine zzA (zzG (wpAny_throw ?_));exact k _ _ (((zzu ..).extBut.push _).push _) ⟨_,zzX _ rfl,rfl⟩
end
theorem iw{prog:Program}{w:World}{A:Around}(hh:A.handled=none)(jt tu:Addr)(dH:tu≠jt)(aj:Array Value):
 Draws prog w A jt [jt,tu] aj.size (λi v=>aj[i]?=some v) (λi h=>h.IsTupleIter jt tu i/\h.IsTuple tu aj) where
 live:=λ_ _ st=>let⟨o,ho,_⟩:=st.1;⟨o,ho⟩
 frame:=λ_ _ _ st hk=>⟨st.1.at λo e=>hk jt (by simp) o e,by obtain⟨o,e,r⟩:=st.2;exact⟨o,hk tu (by simp) o e,r⟩⟩
 item:=λi s Q E hi st hQ=>iY st.1 st.2 (x:=aj[i]) (by simp [hi]) λg ig sb=>hQ _ g s.toks (by simp [hi]) ⟨ig,by obtain⟨o,e,r⟩:=st.2;exact⟨o,sb.extBut _ _ dH e,r⟩⟩ sb
 done:=λs Q E st hE=>lP hh st.1 st.2 (by simp) hE
theorem wM(l:Addr)(items:Array Value)(n:Nat)(br:Option Addr)(sl:Array (Option Value)):
 Meets (Builtin.«enumerate.__new__» ⟨[.type "enumerate",.ref l],[]⟩) (λ_ R s=>s.heap.get? l=some {cls:=.type "tuple",dict:=br,data:=.seq items n,slots:=sl}/\
  R (.ok (.ret (.ref (s.heap.push {cls:=.type "tuple_iterator",data:=.fields #[.ref l,.int 0 0]}).objs.size)))
   {s with heap:=(s.heap.push {cls:=.type "tuple_iterator",data:=.fields #[.ref l,.int 0 0]}).push {cls:=.type "enumerate",data:=.fields #[.none,.bool false,.ref (zz9 s),rawInt 0,.none,.none]}}):=
 .of_wp λprog w A R s h=>by
  obtain⟨hp,g,d,tk,os⟩:=s
  obtain⟨hl,h⟩:=h
  have QB:=sub_enumerate
  have hL:Heap.IsTuple (Shared.heap ⟨hp,g,d,tk,os⟩) l items:=⟨_,hl,rfl,n,rfl⟩
  wp_walk using wpAny_loadPart' hl
  refine wpAny_stack_any λst=>zzG ?_
  split
  ·rename_i c _ _ _ _ _;cases(c==Value.type "enumerate")<;>(wp_walk using wpAny_loadPart' hl,wpAny_pyIter_tuple hL;exact⟨_,rfl,h⟩)
  ·wp_walk using wpAny_loadPart' hl,wpAny_pyIter_tuple hL
   exact⟨_,rfl,h⟩
def eN{h:Heap}{a b:Addr}{o1 o2:Obj}(h1:h.get? a=some o1)(h2:h.get? b=some o2)(hc:o1.cls≠o2.cls):a≠b:=λz=>by
 subst z;rw [h1] at h2;cases h2;exact hc rfl
def dW(z:Str):strIterType z="str_ascii_iterator"\/strIterType z="str_iterator":=by
 unfold strIterType;split
 ·exact .inl rfl
 ·exact .inr rfl
def ij{X:Cx}{aa:List (Addr×Obj)}{σ:St}{H:Hp}{s:Shared}{E:Value->Shared->Prop}{e it:Addr}{Tf:List Addr}{n i:Nat}{Pv:Nat->Value->Prop}{Sv:Nat->Heap->Prop}{old:Value}{Gx:V->Prop}{elts:List Expr}{x1:Nat}{pos:Pos}
 (I:Inv X aa σ H s) (D:Draws X.prog X.w X.A.in1 it Tf n Pv Sv) (he:IsEnum s.heap e it i old) (cx:Sv i s.heap) (bX:i<n) (dH:e≠it) (Ti:e∉Tf) (hf:∀b∈[e,it],fO X aa H b) (hP:∀u,Pv i u->∃x,RelV x u/\Gx x):
 wpAny (model X.prog X.w) X.A (pyNext (.ref e)) (λr s1=>∃u,r=some u/\wpAny (model X.prog X.w) X.A (letOwnedTupleGo (.Tuple elts x1 pos) (.ref e) u) (λ_ s2=>∃x p,u=.ref p/\Gx x/\H p=none/\e≠p/\it≠p/\
  Inv X aa σ (upd H p (.tup [.int i,x])) s2/\(∃ON,IsEnum s2.heap e it ((i:Int)+1) ON)/\Sv (i+1) s2.heap) E s1) E s:=by
 refine wpAny_pyNext_enum_itemD D he cx bX dH Ti λu h' tk pu ho eY ht hz kk=>?_
 obtain⟨x,rx,gx⟩:=hP u pu
 obtain⟨f0,f1,f2,f3,f4,f5⟩:=hf e (by simp)
 obtain⟨g0,g1,g2,g3,g4,g5⟩:=hf it (by simp)
 have wW:H (zz9 s)=none:=I.bj.fresh (zzE _)
 obtain⟨oi,hoi⟩:=D.live _ _ cx
 have To:e≠(zz9 s):=zzb (zzO he)
 have U6:it≠(zz9 s):=zzb (zzO hoi)
 have nW:∀b o,H b=some o->b≠e/\b≠it/\b≠(zz9 s):=λb o q=>⟨(λz=>(by rw [z,f0] at q;cases q)),(λz=>(by rw [z,g0] at q;cases q)),zzb (I.bj.lt q)⟩
 have I1:Inv X aa σ (upd H (zz9 s) (.tup [.int i,x])) {s with heap:=h',toks:=tk+1}:=by
  refine I.step (g':=s.gens) (d':=s.drawn) (ch:=[e,it]) (λb hb=>?_) (λb o _ _ hc q _=>kk b o (λz=>hc (by simp [z])) (λz=>hc (by simp [z])) q)
   (λb o _ _ hc q _=>⟨o.slots,kk b o (λz=>hc (by simp [z])) (λz=>hc (by simp [z])) q⟩) (λb o _ q nb=>by rw [ai (zzb (zzO q))];exact nb)
   (λb o hc q=>⟨o,kk b o (λz=>hc (by simp [z])) (λz=>hc (by simp [z])) q⟩) (λb xs q=>by rw [ai (nW b _ q).2.2];exact q) (λb o u q=>by rw [ai (nW b _ q).2.2];exact q)
   (λb ps q=>⟨#[],by rw [ai (nW b _ q).2.2,q];simp⟩) (λm hm=>?_) (λb o q=>?_) I.bare
  ·rcases zzm.mp hb with z|z
   ·subst z;exact⟨f3,f1,f4,f5⟩
   ·rw [zzi.mp z];exact⟨g3,g1,g4,g5⟩
  ·obtain⟨o,es,ep,q,r⟩:=hm
   exact⟨o,es,ep,kk _ o (Ne.symm f1) (Ne.symm g1) q,r⟩
  ·by_cases hb:b=(zz9 s)
   ·subst hb;rw [ak] at q;cases q;exact⟨(show 2<=sizeLine by decide),[.int i tk,u],.cons ⟨tk,rfl⟩ (.cons rx .nil),⟨_,ht,rfl,_,rfl⟩⟩
   ·rw [ai hb] at q;refine(I.bj b o q).eU (λc v hc z=>kk c v ?_ ?_ z) (λc z=>by rw [ai (nW c _ z).2.2];exact z) λc xs z=>by rw [ai (nW c _ z).2.2];exact z
    ·rcases hc with z'|z'
     ·rw [z'];exact(nW b o q).1
     ·exact(nW c _ z').1
    ·rcases hc with z'|z'
     ·rw [z'];exact(nW b o q).2.1
     ·exact(nW c _ z').2.1
 refine⟨_,rfl,wpAny_letOwnedTupleGo_enum ho λh2 Lx sb=>?_⟩
 refine⟨x,(zz9 s),rfl,gx,wW,To,U6,I1.turned (t':=tk+1) (it:=e) (λb o hb q=>sb.extBut b o hb q) (by rw [ai To];exact f0) f1 f3 f4 f5,⟨_,Lx⟩,D.frame _ _ _ eY λb hb o q=>sb.extBut b o (λz=>Ti (z▸hb)) q⟩
noncomputable def Q1(K:zz8)(a:Addr)(xs:List V):It:=
 ⟨λi H=>eB K H a xs/\i<xs.length,λi H v H'=>∃p x,v=.ref p/\H p=none/\H'=upd H p (.tup [.int (i:Nat),x])/\xs[i]?=some x,λi H=>eB K H a xs/\i=xs.length⟩
noncomputable def Ow(z:Str):It:=
 ⟨λi _=>i<z.cps.size,λi H v H'=>∃p c,v=.ref p/\H p=none/\H'=upd H p (.tup [.int (i:Nat),.str ⟨#[c]⟩])/\z.cps[i]?=some c,λi _=>i=z.cps.size⟩
def tM{P:Program}{w:World}{K:zz8}{elts:List Expr}{x1:Nat}{pos:Pos}(a e it:Addr)(xs:List V):Turn P w K (.Tuple elts x1 pos) (Q1 K a xs) [e,it] e (λi h=>(∃old,IsEnum h e it i old)/\h.IsTupleIter it a i) where
 mem:=by simp
 obj:=λi h st b hb=>by
  obtain⟨⟨old,he⟩,o,ho,_,hd⟩:=st
  rcases zzm.mp hb with z|z
  ·subst z;exact⟨_,he,λv q=>by cases q⟩
  ·rw [zzi.mp z];exact⟨o,ho,λv q=>by rw [hd] at q;cases q⟩
 keep:=λi h h' st k=>⟨by obtain⟨old,he⟩:=st.1;exact⟨old,k e (by simp) _ he⟩,st.2.at λo q=>k it (by simp) o q⟩
 item:=by
  intro X hP hw hK hc i aa s σ H E I hf st hg;subst hP hw hK;obtain⟨hq,bX⟩:=hg
  obtain⟨⟨old,he⟩,hit⟩:=st
  obtain⟨aj,rv,p,hz⟩:=I.tuple hq
  have hl:=rv.length
  have i4:=hit
  obtain⟨oi,e1,e2,_⟩:=hit
  obtain⟨oa,a1,a2,_⟩:=id p
  have AM:a≠it:=eN a1 e1 (by rw [a2,e2];decide+kernel)
  have FC:e≠it:=eN he e1 (by rw [e2];show Value.type "enumerate"≠_;decide+kernel)
  have He:e≠a:=eN he a1 (by rw [a2];show Value.type "enumerate"≠_;decide+kernel)
  refine bA (ij (Gx:=λx=>xs[i]?=some x) I (iw (A:=X.A.in1) (I.ok.hd hc) it a AM aj.toArray) he ⟨i4,p⟩ (by rw [zzC];omega) FC (by simp [FC,He]) hf (λu hu=>?_)) λr s1 ⟨u,hr,k⟩=>⟨u,hr,bA k λ_ s2 ⟨x,q,z1,z2,z3,z4,z5,z6,z7,z8⟩=>?_⟩
  ·have M5:xs[i]?=some xs[i]:=zzg bX
   obtain⟨u',yf,ru'⟩:=rv.get M5
   have:aj.toArray[i]?=some u':=by simpa using yf
   have GQ:aj.toArray[i]?=some u:=hu
   rw [this] at GQ;cases GQ;exact⟨xs[i],ru',M5⟩
  ·exact⟨.ref q,_,z6,z1.symm▸rfl,⟨q,x,rfl,z3,rfl,z2⟩,⟨z7,z8.1⟩,λb hb=>by
    rcases zzm.mp hb with w|w
    ·rw [w,ai z4];exact(hf e (by simp)).1
    ·rw [zzi.mp w,ai z5];exact(hf it (by simp)).1⟩
 done:=by
  intro X hP hw hK hc i aa s σ H E I hf st hg;subst hP hw hK;obtain⟨hq,rfl⟩:=hg
  obtain⟨⟨old,he⟩,hit⟩:=st
  obtain⟨aj,rv,p,hz⟩:=I.tuple hq
  have hl:=rv.length
  have i4:=hit
  obtain⟨oi,e1,e2,_⟩:=hit
  obtain⟨oa,a1,a2,_⟩:=id p
  have AM:a≠it:=eN a1 e1 (by rw [a2,e2];decide+kernel)
  obtain⟨g0,g1,g2,g3,g4,g5⟩:=hf it (by simp)
  refine wpAny_pyNext_enum_endD (iw (A:=X.A.in1) (I.ok.hd hc) it a AM aj.toArray) he ⟨by rw [zzC,<-hl];exact i4,p⟩ λh' eb=>⟨rfl,I.turned (t':=s.toks) (λb o hb q=>eb b o hb q) g0 g1 g3 g4 g5⟩
 self:=λ_ _ _ _ _ st h=>by obtain⟨⟨old,he⟩,_⟩:=st;exact wpAny_pyIter_enum he h
def mH{prog:Program}{w:World}{A:Around}{E:Value->Shared->Prop}{s:Shared}{l:Addr}{items:Array Value}{Q:Value->Shared->Prop}(hL:IsTup s.heap l items)
 (h:∀g,IsEnum g ((zz9 s)+1) (zz9 s) 0 .none->g.IsTupleIter (zz9 s) l 0->(∀b o,s.heap.get? b=some o->g.get? b=some o)->Q (.ref ((zz9 s)+1)) {s with heap:=g}):
 wpAny (model prog w) A (call (.type "enumerate") [.ref l]) Q E s:=by
 obtain⟨⟨cls,dd,data,sl⟩,ho,hc,n,hd⟩:=id hL
 simp only at hc hd;subst hc hd;have hz:(s.heap.push {cls:=.type "tuple_iterator",data:=.fields #[.ref l,.int 0 0]}).objs.size=(zz9 s)+1:=Heap.size_push ..
 refine callType_new F.called_enumerate (by decide) (F.typeCall_enumerate_1 _) (F.newCall_enumerate_1 _) (λobj=>F.args_object_init_2 obj _) F.entry_enumerate_new (wM l items n dd sl) ⟨ho,?_⟩;show _/\_;rw [hz];have he:IsEnum ((s.heap.push {cls:=.type "tuple_iterator",data:=.fields #[.ref l,.int 0 0]}).push {cls:=.type "enumerate",data:=.fields #[.none,.bool false,.ref (zz9 s),rawInt 0,.none,.none]}) ((zz9 s)+1) (zz9 s) 0 .none:=by
  have q:=zzX (s.heap.push {cls:=.type "tuple_iterator",data:=.fields #[.ref l,.int 0 0]}) (o:={cls:=.type "enumerate",data:=.fields #[.none,.bool false,.ref (zz9 s),rawInt 0,.none,.none]}) rfl
  rw [hz] at q;exact q
 exact⟨⟨_,he,rfl⟩,h _ he ⟨_,zzB _ (zzX _ rfl),rfl,rfl⟩ λb o x=>zzB _ (zzB _ x)⟩
section
variable{X:Cx}{elts:List Expr}{x1:Nat}{iS:Pos}
noncomputable def PU(K:zz8)(ta:TA):TI:=λσ H R=>ta σ H λvs H1=>∃a xs,vs=[.ref a]/\eB K H1 a xs/\R (Q1 K a xs) H1
theorem AF{a:Expr}{ta:TA}{p pos:Pos}(hg:Gl X "enumerate")(hm:X.mg "enumerate"=none)(ha:PA X [a] ta)(hs:starEach [a] X.env=[(false,eval a X.env)]:=by rfl):PI X (.Tuple elts x1 iS) (.Call (.Name "enumerate" p) [a] [] pos) (PU X.K ta):=by
 intro aa s σ H R I h;refine Call_ (cZ I hg hm boot_enumerate (PyProof.Rows.callWith_type1 (bA (ha pos aa s σ H _ I h) λus s1 ⟨vs,H1,I1,r1,q1⟩=>?_) hs rfl))
 obtain⟨a,xs,e,hq,q⟩:=q1
 subst e;obtain⟨u,rfl,ru⟩:=vals1 r1
 cases ru;obtain⟨aj,rv,pt,hz⟩:=I1.tuple hq
 refine mH pt λg he hi kp=>wpAny_pyIter_enum he ?_
 have I2:Inv X aa σ H1 {s1 with heap:=g}:=I1.kept (t':=s1.toks) kp
 refine⟨(zz9 s1)+1,[(zz9 s1)+1,(zz9 s1)],_,_,H1,rfl,I2,tM a _ (zz9 s1) xs,⟨⟨_,he⟩,hi⟩,λb hb=>?_,q⟩
 have iJ:(zz9 s1)<=b:=by
  rcases zzm.mp hb with z|z
  ·rw [z];exact Nat.le_succ _
  ·rw [zzi.mp z];exact zzE _
 exact I1.kO iJ (I1.bj.fresh iJ)
end
def uD{P:Program}{w:World}{K:zz8}{elts:List Expr}{x1:Nat}{pos:Pos}(z:Str)(t:Tok)(e it:Addr):Turn P w K (.Tuple elts x1 pos) (Ow z) [e,it] e (λi h=>(∃old,IsEnum h e it i old)/\h.IsStrIter it (strIterType z) z t i) where
 mem:=by simp
 obj:=λi h st b hb=>by
  obtain⟨⟨old,he⟩,o,ho,_,hd⟩:=st
  rcases zzm.mp hb with q|q
  ·subst q;exact⟨_,he,λv q=>by cases q⟩
  ·rw [zzi.mp q];exact⟨o,ho,λv q=>by rw [hd] at q;cases q⟩
 keep:=λi h h' st k=>⟨by obtain⟨old,he⟩:=st.1;exact⟨old,k e (by simp) _ he⟩,by obtain⟨o,q,r⟩:=st.2;exact⟨o,k it (by simp) o q,r⟩⟩
 item:=by
  intro X hP hw hK hc i aa s σ H E I hf st hg;subst hP hw hK;have bX:i<z.cps.size:=hg
  obtain⟨⟨old,he⟩,hit⟩:=st
  have i4:=hit
  obtain⟨oi,e1,e2,_⟩:=hit
  have FC:e≠it:=eN he e1 (by
   rw [e2];show Value.type "enumerate"≠_;rcases dW z with q|q<;>rw [q]<;>decide+kernel)
  have fin:∀{Sv:Nat->Heap->Prop},Draws X.prog X.w X.A.in1 it [it] z.cps.size (λi v=>∃c u,z.cps[i]?=some c/\v=.str ⟨#[c]⟩ u) Sv->Sv i s.heap->(∀h,Sv (i+1) h->h.IsStrIter it (strIterType z) z t (i+1))->
   wpAny (model X.prog X.w) X.A (pyNext (.ref e)) (λr s1=>∃u,r=some u/\wpAny (model X.prog X.w) X.A (letOwnedTupleGo (.Tuple elts x1 pos) (.ref e) u) (λ_ s2=>∃x H',Inv X aa σ H' s2/\RelV x u/\(Ow z).Kn i H x H'/\((∃old,IsEnum s2.heap e it (((i+1:Nat)):Int) old)/\s2.heap.IsStrIter it (strIterType z) z t (i+1))/\∀b∈[e,it],H' b=none) E s1) E s:=by
   intro Sv D cx back;refine bA (ij (Gx:=λx=>∃c,x=.str ⟨#[c]⟩/\z.cps[i]?=some c) I D he cx bX FC (by simp [FC]) hf (λu ⟨c,tk,hc,hu⟩=>⟨.str ⟨#[c]⟩,⟨tk,hu⟩,c,rfl,hc⟩)) λr s1 ⟨u,hr,k⟩=>⟨u,hr,bA k λ_ s2 ⟨x,q,z1,⟨c,z2,z2'⟩,z3,z4,z5,z6,z7,z8⟩=>?_⟩
   subst z2;exact⟨.ref q,_,z6,z1.symm▸rfl,⟨q,c,rfl,z3,rfl,z2'⟩,⟨z7,back _ z8⟩,λb hb=>by
    rcases zzm.mp hb with w|w
    ·rw [w,ai z4];exact(hf e (by simp)).1
    ·rw [zzi.mp w,ai z5];exact(hf it (by simp)).1⟩
  rcases dW z with q|q
  ·rw [q] at i4⊢;rw [q] at fin;exact fin (Draws.strAscii (A:=X.A.in1) (I.ok.hd hc) it z t) i4 λh st=>st
  ·rw [q] at i4⊢;rw [q] at fin;exact fin (Draws.strWide (A:=X.A.in1) (I.ok.hd hc) it z t) i4 λh st=>st
 done:=by
  intro X hP hw hK hc i aa s σ H E I hf st hg;subst hP hw hK;have hi:i=z.cps.size:=hg
  subst hi;obtain⟨⟨old,he⟩,hit⟩:=st
  obtain⟨g0,g1,g2,g3,g4,g5⟩:=hf it (by simp)
  rcases dW z with q|q
  ·rw [q] at hit;exact wpAny_pyNext_enum_endD (Draws.strAscii (A:=X.A.in1) (I.ok.hd hc) it z t) he hit λh' eb=>⟨rfl,I.turned (t':=s.toks) (λb o hb q=>eb b o hb q) g0 g1 g3 g4 g5⟩
  ·rw [q] at hit;exact wpAny_pyNext_enum_endD (Draws.strWide (A:=X.A.in1) (I.ok.hd hc) it z t) he hit λh' eb=>⟨rfl,I.turned (t':=s.toks) (λb o hb q=>eb b o hb q) g0 g1 g3 g4 g5⟩
 self:=λ_ _ _ _ _ st h=>by obtain⟨⟨old,he⟩,_⟩:=st;exact wpAny_pyIter_enum he h
section
variable{X:Cx}{elts:List Expr}{x1:Nat}{iS:Pos}
noncomputable def Qw(ta:TA):TI:=λσ H R=>ta σ H λvs H1=>∃z,vs=[.str z]/\R (Ow z) H1
theorem Ac{a:Expr}{ta:TA}{p pos:Pos}(hg:Gl X "enumerate")(hm:X.mg "enumerate"=none)(ha:PA X [a] ta)(hs:starEach [a] X.env=[(false,eval a X.env)]:=by rfl):PI X (.Tuple elts x1 iS) (.Call (.Name "enumerate" p) [a] [] pos) (Qw ta):=by
 intro aa s σ H R I h;refine Call_ (cZ I hg hm boot_enumerate (PyProof.Rows.callWith_type1 (bA (ha pos aa s σ H _ I h) λus s1 ⟨vs,H1,I1,r1,q1⟩=>?_) hs rfl))
 obtain⟨z,e,q⟩:=q1
 subst e;obtain⟨u,rfl,t,rfl⟩:=vals1 r1
 refine call_enumerate_str λg he hi hz kp=>wpAny_pyIter_enum he ?_
 have I2:Inv X aa σ H1 {s1 with heap:=g}:=I1.kept (t':=s1.toks) kp
 refine⟨(zz9 s1)+1,[(zz9 s1)+1,(zz9 s1)],_,_,H1,rfl,I2,uD z t _ (zz9 s1),⟨⟨_,he⟩,hi⟩,λb hb=>?_,q⟩
 have iJ:(zz9 s1)<=b:=by
  rcases zzm.mp hb with z|z
  ·rw [z];exact Nat.le_succ _
  ·rw [zzi.mp z];exact zzE _
 exact I1.kO iJ (I1.bj.fresh iJ)
end
noncomputable def Gk(K:zz8)(a:Addr)(xs:List V):It:=
 ⟨λi H=>di K H a xs/\i<xs.length,λi H v H'=>∃p x,v=.ref p/\H p=none/\H'=upd H p (.tup [.int (i:Nat),x])/\xs[i]?=some x,λi H=>di K H a xs/\i=xs.length⟩
def ua{P:Program}{w:World}{K:zz8}{elts:List Expr}{x1:Nat}{pos:Pos}(a e it:Addr)(xs:List V):Turn P w K (.Tuple elts x1 pos) (Gk K a xs) [e,it] e (λi h=>(∃old,IsEnum h e it i old)/\h.IsListIter it a i) where
 mem:=by simp
 obj:=λi h st b hb=>by
  obtain⟨⟨old,he⟩,o,ho,_,hd⟩:=st
  rcases zzm.mp hb with z|z
  ·subst z;exact⟨_,he,λv q=>by cases q⟩
  ·rw [zzi.mp z];exact⟨o,ho,λv q=>by rw [hd] at q;cases q⟩
 keep:=λi h h' st k=>⟨by obtain⟨old,he⟩:=st.1;exact⟨old,k e (by simp) _ he⟩,st.2.at λo q=>k it (by simp) o q⟩
 item:=by
  intro X hP hw hK hc i aa s σ H E I hf st hg;subst hP hw hK;obtain⟨hq,bX⟩:=hg
  obtain⟨⟨old,he⟩,hit⟩:=st
  obtain⟨aj,rv,p,hz⟩:=I.list hq
  have hl:=rv.length
  have i4:=hit
  obtain⟨oi,e1,e2,_⟩:=hit
  obtain⟨oa,a1,a2,_⟩:=p.isList
  have AM:a≠it:=eN a1 e1 (by rw [a2,e2];decide+kernel)
  have FC:e≠it:=eN he e1 (by rw [e2];show Value.type "enumerate"≠_;decide+kernel)
  have He:e≠a:=eN he a1 (by rw [a2];show Value.type "enumerate"≠_;decide+kernel)
  refine bA (ij (Gx:=λx=>xs[i]?=some x) I (Draws.list (A:=X.A.in1) (I.ok.hd hc) it a AM aj.toArray) he ⟨i4,p.isList⟩ (by rw [zzC];omega) FC (by simp [FC,He]) hf (λu hu=>?_)) λr s1 ⟨u,hr,k⟩=>⟨u,hr,bA k λ_ s2 ⟨x,q,z1,z2,z3,z4,z5,z6,z7,z8⟩=>?_⟩
  ·have M5:xs[i]?=some xs[i]:=zzg bX
   obtain⟨u',yf,ru'⟩:=rv.get M5
   have:aj.toArray[i]?=some u':=by simpa using yf
   have GQ:aj.toArray[i]?=some u:=hu
   rw [this] at GQ;cases GQ;exact⟨xs[i],ru',M5⟩
  ·exact⟨.ref q,_,z6,z1.symm▸rfl,⟨q,x,rfl,z3,rfl,z2⟩,⟨z7,z8.1⟩,λb hb=>by
    rcases zzm.mp hb with w|w
    ·rw [w,ai z4];exact(hf e (by simp)).1
    ·rw [zzi.mp w,ai z5];exact(hf it (by simp)).1⟩
 done:=by
  intro X hP hw hK hc i aa s σ H E I hf st hg;subst hP hw hK;obtain⟨hq,rfl⟩:=hg
  obtain⟨⟨old,he⟩,hit⟩:=st
  obtain⟨aj,rv,p,hz⟩:=I.list hq
  have hl:=rv.length
  have i4:=hit
  obtain⟨oi,e1,e2,_⟩:=hit
  obtain⟨oa,a1,a2,_⟩:=p.isList
  have AM:a≠it:=eN a1 e1 (by rw [a2,e2];decide+kernel)
  obtain⟨g0,g1,g2,g3,g4,g5⟩:=hf it (by simp)
  refine wpAny_pyNext_enum_endD (Draws.list (A:=X.A.in1) (I.ok.hd hc) it a AM aj.toArray) he ⟨by rw [zzC,<-hl];exact i4,p.isList⟩ λh' eb=>⟨rfl,I.turned (t':=s.toks) (λb o hb q=>eb b o hb q) g0 g1 g3 g4 g5⟩
 self:=λ_ _ _ _ _ st h=>by obtain⟨⟨old,he⟩,_⟩:=st;exact wpAny_pyIter_enum he h
section
variable{X:Cx}{elts:List Expr}{x1:Nat}{iS:Pos}
noncomputable def QX(K:zz8)(ta:TA):TI:=λσ H R=>ta σ H λvs H1=>∃a xs,vs=[.ref a]/\di K H1 a xs/\R (Gk K a xs) H1
theorem rA{a:Expr}{ta:TA}{p pos:Pos}(hg:Gl X "enumerate")(hm:X.mg "enumerate"=none)(ha:PA X [a] ta)(hs:starEach [a] X.env=[(false,eval a X.env)]:=by rfl):PI X (.Tuple elts x1 iS) (.Call (.Name "enumerate" p) [a] [] pos) (QX X.K ta):=by
 intro aa s σ H R I h;refine Call_ (cZ I hg hm boot_enumerate (PyProof.Rows.callWith_type1 (bA (ha pos aa s σ H _ I h) λus s1 ⟨vs,H1,I1,r1,q1⟩=>?_) hs rfl))
 obtain⟨a,xs,e,hq,q⟩:=q1
 subst e;obtain⟨u,rfl,ru⟩:=vals1 r1
 cases ru;obtain⟨aj,rv,pt,hz⟩:=I1.list hq
 refine call_enumerate_list pt.isList λg he hi _ kp=>wpAny_pyIter_enum he ?_
 have I2:Inv X aa σ H1 {s1 with heap:=g}:=I1.kept (t':=s1.toks) kp
 refine⟨(zz9 s1)+1,[(zz9 s1)+1,(zz9 s1)],_,_,H1,rfl,I2,ua a _ (zz9 s1) xs,⟨⟨_,he⟩,hi⟩,λb hb=>?_,q⟩
 have iJ:(zz9 s1)<=b:=by
  rcases zzm.mp hb with z|z
  ·rw [z];exact Nat.le_succ _
  ·rw [zzi.mp z];exact zzE _
 exact I1.kO iJ (I1.bj.fresh iJ)
variable{aa:List (Addr×Obj)}{σ:St}{H:Hp}{s:Shared}{h':Heap}{ch:List Addr}
def Inv.moved{tk:Nat}(I:Inv X aa σ H s)(hf:∀b∈ch,fO X aa H b)(kk:∀b o,b∉ch->s.heap.get? b=some o->h'.get? b=some o):Inv X aa σ H {s with heap:=h',toks:=tk}:=by
 have nW:∀b o,H b=some o->b∉ch:=λb o q z=>by rw [(hf b z).1] at q;cases q
 refine I.step (g':=s.gens) (d':=s.drawn) (ch:=ch) (λb hb=>?_) (λb o _ _ hc q _=>kk b o hc q) (λb o _ _ hc q _=>⟨o.slots,kk b o hc q⟩) (λ_ _ _ _ n=>n)
  (λb o hc q=>⟨o,kk b o hc q⟩) (λb xs q=>q) (λb o u q=>q) (λb ps q=>⟨#[],by rw [q];simp⟩) (λm hm=>?_) (λb o q=>?_) I.bare
 ·obtain⟨f0,f1,f2,f3,f4,f5⟩:=hf b hb
  exact⟨f3,f1,f4,f5⟩
 ·obtain⟨o,es,ep,q,r⟩:=hm
  exact⟨o,es,ep,kk _ o (λz=>(hf _ z).2.1 rfl) q,r⟩
 ·refine(I.bj b o q).eU (λc v hc z=>kk c v ?_ z) (λc z=>z) λc xs z=>z
  rcases hc with z'|z'
  ·rw [z'];exact nW b o q
  ·exact nW c _ z'
end
structure Zd where
 it:Addr
 fp:List Addr
 n:Nat
 P:Nat->Value->Prop
 St:Nat->Heap->Prop
structure Nc(prog:Program)(w:World)(A:Around)(z TI TO:Addr)(ds:List Zd):Prop where
 D:∀d∈ds,Draws prog w A d.it d.fp d.n d.P d.St
 zf:∀d∈ds,z∉d.fp/\TO∉d.fp/\d.it≠z/\d.it≠TO/\d.it≠TI
 ap:ds.Pairwise λa b=>a.it∉b.fp/\b.it∉a.fp
 tz:TI≠z/\TO≠z/\TI≠TO
abbrev gE(h:Heap)(T:Addr)(xs:Array Value):Prop:=h.get? T=some {cls:=.type "tuple",data:=.seq xs}
section
variable{prog:Program}{w:World}{A:Around}{E:Value->Shared->Prop}{s:Shared}{z TI TO:Addr}{ds:List Zd}{k:Nat}
def OI(z TI TO:Addr)(k:Nat)(h0:Heap)(ds:List Zd)(rest:List (Value×Nat))(h:Heap):Prop:=
 ∃dn lf xs ys,ds=dn++lf/\rest=(lf.map λd=>Value.ref d.it).zipIdx dn.length/\Paired (λd x=>d.P k x) dn xs/\ys.length=lf.length/\IsZip h z TI TO .ellipsis/\gE h TO (xs++ys).toArray/\
  (∀d∈dn,d.St (k+1) h)/\(∀d∈lf,d.St k h)/\h.objs.size=h0.objs.size/\∀c o,c≠z->c≠TO->(∀d∈ds,c≠d.it)->h0.get? c=some o->h.get? c=some o
def sx{Q:Fin->Shared->Prop}(Z:Nc prog w A z TI TO ds)(hl:ds.length<=9)(dH:ds≠[])(hz:IsZip s.heap z TI TO .none)(UD:gE s.heap TI (ds.map λd=>Value.ref d.it).toArray)(Tt:∃c,gE s.heap TO c/\c.size=ds.length)(hs:∀d∈ds,d.St k s.heap/\k<=d.n)
 (hQ:∀h' tk xs,Paired (λd x=>d.P k x) ds xs->IsZip h' z TI TO (rawInt (zz9 s))->(∃c,gE h' TO c/\c.size=ds.length)->(∀d∈ds,d.St (k+1) h')->gE h' (zz9 s) xs.toArray->h'.objs.size=(zz9 s)+1->
  (∀c o,c≠z->c≠TO->(∀d∈ds,c≠d.it)->s.heap.get? c=some o->h'.get? c=some o)->Q (.done (.ret (.ref (zz9 s)))) {s with heap:=h',toks:=tk})
 (hE:∀h' tk e,(∃d∈ds,d.n<=k)->(∀c o,c≠z->c≠TO->(∀d∈ds,c≠d.it)->s.heap.get? c=some o->h'.get? c=some o)->(∃o,h'.get? e=some o/\o.cls=.type "StopIteration")->E (.ref e) {s with heap:=h',toks:=tk}):
 wpAny (model prog w) A (Builtin.«zip.__next__» ⟨[.ref z],[]⟩) Q E s:=by
 obtain⟨t1,t2,t3⟩:=Z.tz
 show wpAny _ _ (field (.ref z) 2>>=_) _ _ _
 refine zzA (wpAny_field hz rfl (x:=.bool false) rfl ?_);show wpAny _ _ (field (.ref z) 3>>=_) _ _ _;refine zzA (wpAny_field hz rfl (x:=.ref TI) rfl ?_);refine zzA (wpAny_seqItems UD rfl ?_);have wU:(ds.map λd=>Value.ref d.it).toArray.isEmpty=false:=by cases ds<;>simp_all
 simp! [wU,zze,if_false];show wpAny _ _ (Builtin.SmallTypes.ownedTupleIsFree (.ref z)>>=_) _ _ _;refine zzA ?_;unfold Builtin.SmallTypes.ownedTupleIsFree;refine zzA (wpAny_field hz rfl (x:=.none) rfl (zzG ?_));simp! [if_true];refine zzA (wpAny_rule ?_);refine zzA (wpAny_field hz rfl (x:=.ref TO) rfl ?_);refine zzA (wpAny_setField_rec hz (by simp) λh₁ hz₁ hs₁=>?_)
 replace hz₁:IsZip h₁ z TI TO .ellipsis:=hz₁
 refine zzA ?_;obtain⟨c,hc,Kq⟩:=Tt
 have MN:∀{h h':Heap},Heap.SameBut z h h'->∀d∈ds,∀{i},d.St i h->d.St i h':=λsb d hd i q=>(Z.D d hd).frame _ _ _ q λb hb o e=>sb.extBut b o (λx=>(Z.zf d hd).1 (x▸hb)) e
 refine wpAny_forIn_list _ (λrest b s'=>b=⟨none,PUnit.unit⟩/\∃h tk,s'={s with heap:=h,toks:=tk}/\OI z TI TO k s.heap ds rest h) _ ?_ ?_ _ _ ⟨rfl,h₁,s.toks,rfl,[],ds,[],c.toList,rfl,rfl,.nil,by simpa using Kq,hz₁,?_,(λd hd=>nomatch hd),(λd hd=>MN hs₁ d hd (hs d hd).1),hs₁.1,λc o h1 _ _ e=>hs₁.extBut _ _ h1 e⟩
 ·rintro ⟨NV,j⟩ rest b s' ⟨rfl,h,tk,rfl,dn,lf,xs,ys,rfl,hr,pr,hyl,hzh,hto,sd,sl,hsz,kk⟩
  cases lf with
  |nil=>cases hr
  |cons d lf=>
   simp! [zzF,List.zipIdx_cons,List.cons.injEq,Prod.mk.injEq] at hr;obtain⟨⟨rfl,rfl⟩,rfl⟩:=hr
   have hd:d∈dn++d::lf:=by simp
   have D:=Z.D d hd
   obtain⟨f1,f2,f3,f4,f5⟩:=Z.zf d hd
   refine zzA (wpAny_onRaise ?_);show wpAny _ _ (Builtin.SmallTypes.nextOf (.ref d.it)>>=_) _ _ _;have Sb:∀a∈dn++lf,d.it∉a.fp/\a.it∉d.fp:=λa ha=>by
    have q:=List.pairwise_append.1 Z.ap
    rcases List.mem_append.1 ha with ha|ha
    ·exact(q.2.2 a ha d (zzP ..)).symm
    ·exact(List.pairwise_cons.1 q.2.1).1 a ha
   by_cases hk:k<d.n
   ·refine zzA (D.item k _ _ _ hk (sl d (zzP ..)) λx h2 LR px Ju sb=>zzG ?_)
    have Jw:gE h2 TO (xs++ys).toArray:=sb.extBut _ _ (Ne.symm f4) hto
    refine zzA (wpAny_seqItems Jw rfl ?_);have lx:=Paired.length pr
    obtain⟨y,yr,rfl⟩:∃y yr,ys=y::yr:=by cases ys with|nil=>cases hyl|cons y yr=>exact⟨y,yr,rfl⟩
    have M4:(xs++y::yr).toArray.size<=sizeLine:=by
     have:(xs++y::yr).toArray.size<=9:=by simp! [zzC,zzM,zzL] at hyl hl⊢;omega
     exact zzU this (by decide)
    refine zzA (wpAny_updateSeq Jw rfl ?_ M4 (by rw [Array.size_setIfInBounds];exact Nat.le_succ_of_le M4));refine zzA (wpAny_letGo (zzG ?_));have Ky:Heap.SameBut TO h2 (h2.update TO (Obj.mapSeq λv=>v.setIfInBounds dn.length x)):=zzu ..
    have Qe:gE (h2.update TO (Obj.mapSeq λv=>v.setIfInBounds dn.length x)) TO (xs++[x]++yr).toArray:=by
     show Heap.get? _ TO=_
     rw [Heap.get?_update_self _ Jw rfl];have:(xs++y::yr).toArray.setIfInBounds dn.length x=(xs++[x]++yr).toArray:=by
      rw [List.setIfInBounds_toArray,lx,List.set_append_right _ _ (zzE _),Nat.sub_self,List.set_cons_zero];simp
     have ls:((xs++[x]++yr).toArray.size==(xs++y::yr).toArray.size)=true:=by simp
     simp! [Obj.mapSeq,this,ls,if_true]
    refine⟨rfl,_,LR,rfl,dn++[d],lf,xs++[x],yr,by simp,by simp,Paired.snoc pr px,by simpa using hyl,?_,Qe,λa ha=>?_,λa ha=>?_,?_,λc o c1 c2 c3 e=>?_⟩
    ·exact Ky.extBut _ _ (Ne.symm t2) (sb.extBut _ _ (Ne.symm f3) hzh)
    ·rcases List.mem_append.1 ha with ha|ha
     ·refine(Z.D a (by simp [ha])).frame _ _ _ (sd a ha) λb hb o e=>Ky.extBut _ _ (λq=>(Z.zf a (by simp [ha])).2.1 (q▸hb)) (sb.extBut _ _ (λq=>(Sb a (by simp [ha])).1 (q▸hb)) e)
     ·rw [zzi.1 ha];exact D.frame _ _ _ Ju λb hb o e=>Ky.extBut _ _ (λq=>f2 (q▸hb)) e
    ·refine(Z.D a (by simp [ha])).frame _ _ _ (sl a (zzI _ ha)) λb hb o e=>Ky.extBut _ _ (λq=>(Z.zf a (by simp [ha])).2.1 (q▸hb)) (sb.extBut _ _ (λq=>(Sb a (by simp [ha])).1 (q▸hb)) e)
    ·rw [Ky.1,sb.1,hsz]
    ·exact Ky.extBut _ _ c2 (sb.extBut _ _ (c3 d hd) (kk c o c1 c2 c3 e))
   ·have hn:d.n=k:=Nat.le_antisymm (Nat.le_of_not_lt hk) (hs d hd).2
    refine zzA (D.done _ _ _ (by rw [hn];exact sl d (zzP ..)) λh2 e eb he=>?_)
    obtain⟨oe,hoe,hce⟩:=he
    have Oq:IsZip h2 z TI TO .ellipsis:=eb _ _ (Ne.symm f3) hzh
    have Vg:e≠z:=λq=>by subst q;rw [Oq] at hoe;cases hoe;simp at hce
    exact wpAny_setField_rec Oq (by simp) λh3 _ Sr=>hE h3 tk e ⟨d,hd,Nat.le_of_eq hn⟩ (λc o c1 c2 c3 q=>Sr.extBut _ _ c1 (eb _ _ (c3 d hd) (kk c o c1 c2 c3 q))) ⟨oe,Sr.extBut _ _ Vg hoe,hce⟩
 ·rintro b s' ⟨rfl,h,tk,rfl,dn,lf,xs,ys,rfl,hr,pr,hyl,hzh,hto,sd,sl,hsz,kk⟩
  obtain rfl:lf=[]:=by cases lf with|nil=>rfl|cons d lf=>cases hr
  obtain rfl:ys=[]:=List.eq_nil_of_length_eq_zero hyl
  simp! [zz6] at hto hQ Z kk hl;have lx:=Paired.length pr
  refine zzA (wpAny_seqItems hto rfl ?_);refine zzA (wpAny_newTuple ?_ (zzU (m:=9) (by show xs.length<=9;omega) (by decide)));show wpAny _ _ (Builtin.SmallTypes.ownedTupleHandOut (.ref z) (.ref h.objs.size)>>=_) _ _ _;refine zzA ?_;unfold Builtin.SmallTypes.ownedTupleHandOut;have RY:z<h.objs.size:=zzO hzh
  have TU:IsZip (h.push {cls:=.type "tuple",data:=.seq xs.toArray}) z TI TO .ellipsis:=zzB _ hzh
  refine zzA (wpAny_setField_rec TU (by simp) λh7 Py PF=>?_)
  replace Py:IsZip h7 z TI TO (rawInt h.objs.size):=Py
  refine wpAny_setField_rec Py (by simp) λh8 N0 OK=>?_
  replace N0:IsZip h8 z TI TO (rawInt h.objs.size):=N0
  have up:∀c o,c≠z->h.get? c=some o->h8.get? c=some o:=λc o c1 e=>OK.extBut _ _ c1 (PF.extBut _ _ c1 (zzB _ e))
  have Rr:gE h8 h.objs.size xs.toArray:=OK.extBut _ _ (Nat.ne_of_gt RY) (PF.extBut _ _ (Nat.ne_of_gt RY) (zzX _ rfl))
  have Sx:h8.objs.size=h.objs.size+1:=by rw [OK.1,PF.1,Heap.size_push]
  rw [hsz] at N0 Rr Sx;refine zzG ?_;show Q (.done (.ret (.ref h.objs.size))) _;rw [hsz];exact hQ h8 tk xs pr N0 ⟨_,up _ _ t2 hto,by simp [lx]⟩ (λd hd=>(Z.D d hd).frame _ _ _ (sd d hd) λb hb o e=>up b o (λq=>(Z.zf d hd).1 (q▸hb)) e) Rr Sx λc o c1 c2 c3 e=>up c o c1 (kk c o c1 c2 c3 e)
 ·show gE h₁ TO _
  exact hs₁.extBut _ _ t2 (by simpa using hc)
variable{X:Cx}{aa:List (Addr×Obj)}{σ:St}{H:Hp}{h':Heap}{ch:List Addr}
def Inv.zW{tk:Nat}{xs:List V}{us:List Value}{ob:Obj}{n:Nat}(I:Inv X aa σ H s)(hf:∀b∈ch,fO X aa H b)(kk:∀b o,b∉ch->s.heap.get? b=some o->h'.get? b=some o)
 (hp:h'.get? (zz9 s)=some ob) (hc:ob.cls=.type "tuple") (hd:ob.data=.seq us.toArray n) (rx:Vals xs us) (hl:xs.length<=sizeLine):Inv X aa σ (upd H (zz9 s) (.tup xs)) {s with heap:=h',toks:=tk}:=by
 have nW:∀b o,H b=some o->b∉ch/\b≠(zz9 s):=λb o q=>⟨(λz=>(by rw [(hf b z).1] at q;cases q)),zzb (I.bj.lt q)⟩
 refine I.step (g':=s.gens) (d':=s.drawn) (ch:=ch) (λb hb=>?_) (λb o _ _ hc q _=>kk b o hc q) (λb o _ _ hc q _=>⟨o.slots,kk b o hc q⟩) (λb o _ q nb=>by rw [ai (zzb (zzO q))];exact nb)
  (λb o hc q=>⟨o,kk b o hc q⟩) (λb xs q=>by rw [ai (nW b _ q).2];exact q) (λb o u q=>by rw [ai (nW b _ q).2];exact q) (λb ps q=>⟨#[],by rw [ai (nW b _ q).2,q];simp⟩) (λm hm=>?_) (λb o q=>?_) I.bare
 ·obtain⟨f0,f1,f2,f3,f4,f5⟩:=hf b hb
  exact⟨f3,f1,f4,f5⟩
 ·obtain⟨o,es,ep,q,r⟩:=hm
  exact⟨o,es,ep,kk _ o (λz=>(hf _ z).2.1 rfl) q,r⟩
 ·by_cases hb:b=(zz9 s)
  ·subst hb;rw [ak] at q;cases q;exact⟨hl,us,rx,⟨_,hp,hc,_,hd⟩⟩
  ·rw [ai hb] at q;refine(I.bj b o q).eU (λc v hc z=>kk c v ?_ z) (λc z=>by rw [ai (nW c _ z).2];exact z) λc xs z=>by rw [ai (nW c _ z).2];exact z
   rcases hc with z'|z'
   ·rw [z'];exact(nW b o q).1
   ·exact(nW c _ z').1
end
structure Zs where
 it:Addr
 b:Bool
 a:Addr
 xs:List V
def Zs.iter(q:Zs)(i:Nat)(h:Heap):Prop:=if q.b=true then h.IsListIter q.it q.a i else h.IsTupleIter q.it q.a i
abbrev Zt:=Bool×Addr×List V
noncomputable def Zs.t(q:Zs):Zt:=(q.b,q.a,q.xs)
def Zq(K:zz8)(H:Hp)(q:Zt):Prop:=if q.1=true then di K H q.2.1 q.2.2 else eB K H q.2.1 q.2.2
def Zs.sq(K:zz8)(H:Hp)(q:Zs):Prop:=if q.b=true then di K H q.a q.xs else eB K H q.a q.xs
def Zs.vH{q:Zs}{i:Nat}{h h':Heap}(st:q.iter i h)(k:∀o,h.get? q.it=some o->h'.get? q.it=some o):q.iter i h':=by
 unfold Zs.iter at st⊢;split
 ·rename_i e;rw [if_pos e] at st;exact st.at k
 ·rename_i e;rw [if_neg e] at st;exact st.at k
def Zs.qK{q:Zs}{i:Nat}{h:Heap}(st:q.iter i h):∃o,h.get? q.it=some o/\∀v,o.data≠.cell v:=by
 unfold Zs.iter at st;split at st
 ·obtain⟨o,ho,_,hd⟩:=st;exact⟨o,ho,λv z=>by rw [hd] at z;cases z⟩
 ·obtain⟨o,ho,_,hd⟩:=st;exact⟨o,ho,λv z=>by rw [hd] at z;cases z⟩
noncomputable def P7(K:zz8)(ts:List Zt):It:=
 ⟨λi H=>∀q∈ts,Zq K H q/\i<q.2.2.length,λi H v H'=>∃p ys,v=.ref p/\H p=none/\H'=upd H p (.tup ys)/\Paired (λ(q:Zt) y=>q.2.2[i]?=some y) ts ys,
  λi H=>(∀q∈ts,Zq K H q/\i<=q.2.2.length)/\∃q∈ts,q.2.2.length=i⟩
structure zv(prog:Program)(w:World)(A:Around)(i:Nat)(h:Heap)(q:Zs)(d:Zd):Prop where
 it:d.it=q.it
 fp:d.fp=[q.it,q.a]
 n:d.n=q.xs.length
 D:Draws prog w A d.it d.fp d.n d.P d.St
 st:d.St i h
 back:∀j g,d.St j g->q.iter j g
 val:∀j u,d.P j u->∃x,RelV x u/\q.xs[j]?=some x
section
variable{X:Cx}{aa:List (Addr×Obj)}{σ:St}{H:Hp}{s:Shared}
def Bo{xs:List V}{aj:List Value}(rv:Vals xs aj)(j:Nat)(u:Value)(hu:aj.toArray[j]?=some u):∃x,RelV x u/\xs[j]?=some x:=by
 have hu:aj[j]?=some u:=by simpa using hu
 have hj:j<xs.length:=by rw [rv.length];exact(zzH.mp hu).1
 obtain⟨u',yf,ru'⟩:=rv.get (zzg hj)
 rw [hu] at yf;cases yf;exact⟨_,ru',zzg hj⟩
def Nf(hc:X.calm=true)(I:Inv X aa σ H s){q:Zs}{i:Nat}(dH:q.a≠q.it)(h:q.sq X.K H)(st:q.iter i s.heap):∃d,zv X.prog X.w X.A.in1 i s.heap q d:=by
 unfold Zs.sq at h;unfold Zs.iter at st;cases hb:q.b with
 |true=>
  rw [if_pos hb] at h st;obtain⟨aj,rv,p,_⟩:=I.list h
  refine⟨⟨q.it,[q.it,q.a],aj.toArray.size,_,_⟩,rfl,rfl,?_,Draws.list (A:=X.A.in1) (I.ok.hd hc) q.it q.a dH aj.toArray,⟨st,p.isList⟩,λj g z=>?_,Bo rv⟩
  ·rw [zzC,<-rv.length]
  ·unfold Zs.iter;rw [if_pos hb];exact z.1
 |false=>
  have iJ:¬q.b=true:=by rw [hb];exact zzf
  rw [if_neg iJ] at h st;obtain⟨aj,rv,p,_⟩:=I.tuple h
  refine⟨⟨q.it,[q.it,q.a],aj.toArray.size,_,_⟩,rfl,rfl,?_,iw (A:=X.A.in1) (I.ok.hd hc) q.it q.a dH aj.toArray,⟨st,p⟩,λj g z=>?_,Bo rv⟩
  ·rw [zzC,<-rv.length]
  ·unfold Zs.iter;rw [if_neg iJ];exact z.1
theorem tx(hc:X.calm=true)(I:Inv X aa σ H s){i:Nat}:∀{qs:List Zs},(∀q∈qs,q.a≠q.it/\q.sq X.K H/\q.iter i s.heap)->∃ds,Paired (zv X.prog X.w X.A.in1 i s.heap) qs ds
 |[],_=>⟨[],.nil⟩
 |q::qs,h=>by
  obtain⟨h1,h2,h3⟩:=h q (zzP ..)
  obtain⟨d,hd⟩:=Nf hc I h1 h2 h3
  obtain⟨ds,hds⟩:=tx hc I (qs:=qs) λr hr=>h r (zzI _ hr)
  exact⟨d::ds,.cons hd hds⟩
variable{α β:Type}{R:α->β->Prop}
theorem bY:∀{l:List α} {m:List β},Paired R l m->∀b∈m,∃a∈l,R a b
 |_,_,.cons h t,b,hb=>by
  rcases zzm.1 hb with rfl|hb
  ·exact⟨_,zzP ..,h⟩
  ·obtain⟨a,h1,h2⟩:=bY t b hb
   exact⟨a,zzI _ h1,h2⟩
theorem dY:∀{l:List α} {m:List β},Paired R l m->∀a∈l,∃b∈m,R a b
 |_,_,.cons h t,b,hb=>by
  rcases zzm.1 hb with rfl|hb
  ·exact⟨_,zzP ..,h⟩
  ·obtain⟨a,h1,h2⟩:=dY t b hb
   exact⟨a,zzI _ h1,h2⟩
theorem m5{S:α->α->Prop}{T:β->β->Prop}(h:∀a a' b b',R a b->R a' b'->S a a'->T b b'):∀{l:List α} {m:List β},Paired R l m->l.Pairwise S->m.Pairwise T
 |_,_,.nil,_=>.nil
 |_,_,.cons r t,p=>by
  obtain⟨p1,p2⟩:=List.pairwise_cons.1 p
  refine List.pairwise_cons.2 ⟨λb hb=>?_,m5 h t p2⟩
  obtain⟨a,h1,h2⟩:=bY t b hb
  exact h _ _ _ _ r h2 (p1 a h1)
end
structure O7(z TI TO:Addr)(qs:List Zs):Prop where
 tz:TI≠z/\TO≠z/\TI≠TO
 ne:qs≠[]
 len:qs.length<=9
 it:∀q∈qs,q.it≠z/\q.it≠TO/\q.it≠TI
 a:∀q∈qs,q.a≠z/\q.a≠TO/\∀r∈qs,q.a≠r.it
 pw:qs.Pairwise λa b=>a.it≠b.it
def Uw(z TI TO:Addr)(qs:List Zs)(i:Nat)(h:Heap):Prop:=IsZip h z TI TO .none/\gE h TI (qs.map λq=>Value.ref q.it).toArray/\(∃c,gE h TO c/\c.size=qs.length)/\∀q∈qs,q.iter i h
def Aw{prog:Program}{w:World}{A:Around}{i:Nat}{h:Heap}{z TI TO:Addr}{qs:List Zs}{ds:List Zd}(Z:O7 z TI TO qs)(p:Paired (zv prog w A i h) qs ds):Nc prog w A z TI TO ds where
 D:=λd hd=>by obtain⟨q,_,r⟩:=bY p d hd;exact r.D
 zf:=λd hd=>by
  obtain⟨q,hq,r⟩:=bY p d hd
  obtain⟨a1,a2,a3⟩:=Z.it q hq
  obtain⟨b1,b2,_⟩:=Z.a q hq
  rw [r.fp,r.it];simp! [zzm,List.not_mem_nil,or_false,not_or];exact⟨⟨Ne.symm a1,Ne.symm b1⟩,⟨Ne.symm a2,Ne.symm b2⟩,a1,a2,a3⟩
 ap:=by
  have q:qs.Pairwise λa b=>a.it≠b.it/\a.it≠b.a/\b.it≠a.a:=by
   refine List.Pairwise.imp_of_mem (λ{a b} ha hb h=>⟨h,λz=>(Z.a b hb).2.2 a ha z.symm,λz=>(Z.a a ha).2.2 b hb z.symm⟩) Z.pw
  refine m5 (λa a' b b' r r' ⟨h1,h2,h3⟩=>?_) p q;rw [r.fp,r'.fp,r.it,r'.it];simp! [zzm,List.not_mem_nil,or_false,not_or];exact⟨⟨h1,h2⟩,Ne.symm h1,h3⟩
 tz:=Z.tz
theorem gk{prog:Program}{w:World}{A:Around}{i:Nat}{h:Heap}:∀{qs:List Zs} {ds:List Zd},Paired (zv prog w A i h) qs ds->(qs.map λq=>Value.ref q.it)=ds.map λd=>Value.ref d.it
 |_,_,.nil=>rfl
 |_,_,.cons r t=>by rw [zzF,zzF,r.it,gk t]
theorem ly{prog:Program}{w:World}{A:Around}{i:Nat}{h:Heap}:∀{qs:List Zs} {ds:List Zd} {us:List Value},Paired (zv prog w A i h) qs ds->Paired (λd x=>d.P i x) ds us->∃ys,Vals ys us/\Paired (λ(q:Zt) y=>q.2.2[i]?=some y) (qs.map Zs.t) ys
 |_,_,_,.nil,.nil=>⟨[],.nil,.nil⟩
 |_,_,_,.cons r t,.cons u v=>by
  obtain⟨x,h1,h2⟩:=r.val i _ u
  obtain⟨ys,h3,h4⟩:=ly t v
  exact⟨x::ys,.cons h1 h3,.cons h2 h4⟩
def w6{P:Program}{w:World}{K:zz8}{elts:List Expr}{x1:Nat}{pos:Pos}{z TI TO:Addr}{qs:List Zs}(Z:O7 z TI TO qs):
 Turn P w K (.Tuple elts x1 pos) (P7 K (qs.map Zs.t)) (z::TI::TO::qs.map (·.it)) z (Uw z TI TO qs) where
 mem:=by simp
 obj:=λi h st c hc=>by
  obtain⟨q1,q2,⟨_,q3,_⟩,q4⟩:=st
  simp! [zzm,zzx] at hc;rcases hc with rfl|rfl|rfl|⟨q,hq,rfl⟩
  ·exact⟨_,q1,λv q=>by cases q⟩
  ·exact⟨_,q2,λv q=>by cases q⟩
  ·exact⟨_,q3,λv q=>by cases q⟩
  ·exact Zs.qK (q4 q hq)
 keep:=λi h h' st k=>by
  obtain⟨q1,q2,⟨c,q3,q5⟩,q4⟩:=st
  exact⟨k z (by simp) _ q1,k TI (by simp) _ q2,⟨c,k TO (by simp) _ q3,q5⟩,λq hq=>Zs.vH (q4 q hq) λo e=>k q.it (by simp;exact .inr (.inr (.inr ⟨q,hq,rfl⟩))) o e⟩
 item:=by
  intro X hP hw hK hc i aa s σ H E I hf st hg;subst hP hw hK;replace hg:∀q∈qs,q.sq X.K H/\i<q.xs.length:=λq hq=>hg q.t (List.mem_map_of_mem hq)
  obtain⟨q1,q2,⟨c,q3,q5⟩,q4⟩:=st
  obtain⟨ds,pd⟩:=tx hc I λq hq=>⟨(Z.a q hq).2.2 q hq,(hg q hq).1,q4 q hq⟩
  have hT:s.TypeIs (.ref z) "zip":=⟨_,q1,rfl⟩
  have len:=Paired.length pd
  have wW:H (zz9 s)=none:=I.bj.fresh (zzE _)
  have lt:∀b∈z::TI::TO::qs.map (·.it),b<(zz9 s):=λb hb=>by
   simp! [zzm,zzx] at hb;rcases hb with rfl|rfl|rfl|⟨q,hq,rfl⟩
   ·exact zzO q1
   ·exact zzO q2
   ·exact zzO q3
   ·obtain⟨o,ho,_⟩:=Zs.qK (q4 q hq);exact zzO ho
  unfold pyNext;refine zzA (wpAny_attempt (wpAny_callSpecial?_slot (name:=Str.ofString "__next__") hT PySem.F.slot_zip_next (wpAny_call_entry PySem.F.slot_zip_next hT PySem.F.entry_zip_next
   (sx (k:=i) (Aw Z pd) (by rw [<-len];exact Z.len) (by have:=Z.ne;intro e;subst e;cases pd;exact this rfl) q1 (by rw [<-gk pd];exact q2) ⟨c,q3,by rw [<-len];exact q5⟩ (λd hd=>by obtain⟨q,hq,r⟩:=bY pd d hd;exact⟨r.st,by rw [r.n];exact Nat.le_of_lt (hg q hq).2⟩)
    (λh' tk us pu z1 z2 z3 z4 z5 kk=>⟨_,rfl,zzG ?_⟩) λh' tk e hex _ _=>?_) (PySem.F.args_zip_next_1 _))))
  ·obtain⟨ys,rv,py⟩:=ly pd pu
   have OC:∀b∈z::TO::qs.map (·.it),fO X aa H b:=λb hb=>hf b (by simp! [zzm] at hb⊢;rcases hb with h|h|h<;>simp [h])
   have I1:=Inv.zW (tk:=tk) (xs:=ys) I OC (λb o hb e=>kk b o (λq=>hb (by simp [q])) (λq=>hb (by simp [q])) (λd hd q=>hb (by obtain⟨q',mI,r⟩:=bY pd d hd;simp! [zzm,zzx];exact .inr (.inr ⟨q',mI,by rw [q,r.it]⟩))) e) z4 rfl rfl rv (zzU (m:=9) (by have h1:=Paired.length py;have:=Z.len;rw [zzl] at h1;omega) (by decide))
   refine⟨_,rfl,wpAny_letOwnedTupleGo_zip z1 λh2 Oq sb=>?_⟩
   obtain⟨f0,f1,f2,f3,f4,f5⟩:=hf z (by simp)
   have nz:z≠(zz9 s):=zzb (lt z (by simp))
   refine⟨.ref (zz9 s),_,I1.turned (t':=tk) (it:=z) (λb o hb q=>sb.extBut b o hb q) (by rw [ai nz];exact f0) f1 f3 f4 f5,rfl,⟨_,_,rfl,wW,rfl,py⟩,⟨Oq,?_,?_,λq hq=>?_⟩,λb hb=>?_⟩
   ·exact sb.extBut _ _ Z.tz.1 (kk _ _ Z.tz.1 Z.tz.2.2 (λd hd=>by obtain⟨q,hq,r⟩:=bY pd d hd;rw [r.it];exact Ne.symm (Z.it q hq).2.2) q2)
   ·obtain⟨c',e1,e2⟩:=z2
    exact⟨c',sb.extBut _ _ Z.tz.2.1 e1,by rw [e2,len]⟩
   ·obtain⟨d,hd,r⟩:=dY pd q hq
    exact Zs.vH (r.back _ _ (z3 d hd)) λo e=>sb.extBut _ _ (Z.it q hq).1 e
   ·rw [ai (zzb (lt b hb))];exact(hf b hb).1
  ·obtain⟨d,hd,hn⟩:=hex
   obtain⟨q,hq,r⟩:=bY pd d hd
   have:=(hg q hq).2
   rw [r.n] at hn;omega
 done:=by
  intro X hP hw hK hc i aa s σ H E I hf st hg;subst hP hw hK;obtain⟨hg,t0,ht0,hn0⟩:=hg
  replace hg:∀q∈qs,q.sq X.K H/\i<=q.xs.length:=λq hq=>hg q.t (List.mem_map_of_mem hq)
  obtain⟨q1,q2,⟨c,q3,q5⟩,q4⟩:=st
  obtain⟨ds,pd⟩:=tx hc I λq hq=>⟨(Z.a q hq).2.2 q hq,(hg q hq).1,q4 q hq⟩
  have hT:s.TypeIs (.ref z) "zip":=⟨_,q1,rfl⟩
  have len:=Paired.length pd
  unfold pyNext;refine zzA (wpAny_attempt (wpAny_callSpecial?_slot (name:=Str.ofString "__next__") hT PySem.F.slot_zip_next (wpAny_call_entry PySem.F.slot_zip_next hT PySem.F.entry_zip_next
   (sx (k:=i) (Aw Z pd) (by rw [<-len];exact Z.len) (by have:=Z.ne;intro e;subst e;cases pd;exact this rfl) q1 (by rw [<-gk pd];exact q2) ⟨c,q3,by rw [<-len];exact q5⟩ (λd hd=>by obtain⟨q,hq,r⟩:=bY pd d hd;exact⟨r.st,by rw [r.n];exact(hg q hq).2⟩)
    (λh' tk us pu z1 z2 z3 z4 z5 kk=>?_) λh' tk e hex kk he=>?_) (PySem.F.args_zip_next_1 _))))
  ·obtain⟨ys,rv,py⟩:=ly pd pu
   obtain⟨y,_,hy⟩:=dY py t0 ht0
   have:=(zzH.1 hy).1
   omega
  ·obtain⟨o,ho,qf⟩:=he
   refine zzA (wpAny_isInstance (T:="StopIteration") (b:=true) ⟨o,ho,qf⟩ isSubtype_stop ?_);have OC:∀b∈z::TO::qs.map (·.it),fO X aa H b:=λb hb=>hf b (by simp! [zzm] at hb⊢;rcases hb with h|h|h<;>simp [h])
   exact zzG ⟨rfl,Inv.moved (tk:=tk) I OC λb o hb e=>kk b o (λq=>hb (by simp [q])) (λq=>hb (by simp [q])) (λd hd q=>hb (by obtain⟨q',mI,r⟩:=bY pd d hd;simp! [zzm,zzx];exact .inr (.inr ⟨q',mI,by rw [q,r.it]⟩))) e⟩
 self:=λ_ _ _ _ _ st h=>wpAny_pyIter_zip st.1 h
def jr(a b c:Value):checkTypeCall "zip" ⟨[a,b,c],[]⟩=pure ():=by kernel_rfl
def mh(a b c:Value):checkBuiltinCall "zip.__new__" ⟨[.type "zip",a,b,c],[]⟩=pure ():=by kernel_rfl
def gC(a b c d:Value):argsOk "object.__init__" ⟨[a,b,c,d],[]⟩:=by
 unfold argsOk;rw [signature?_of (n:=['_','_','t','i','n','i','_','_']) (by kernel_rfl) PySem.F.owner_object]
 kernel_rfl
def Src(h:Heap)(b:Bool)(a:Addr):Prop:=if b=true then∃aj,h.IsList a aj else∃aj,h.IsTuple a aj
noncomputable def Uh(b:Bool):String:=if b=true then "list_iterator" else "tuple_iterator"
def Src.push{h:Heap}{b:Bool}{a:Addr}(q:Src h b a)(o:Obj):Src (h.push o) b a:=by
 unfold Src at q⊢;split
 ·rename_i e;rw [if_pos e] at q;obtain⟨aj,q⟩:=q;exact⟨aj,q.push o⟩
 ·rename_i e;rw [if_neg e] at q;obtain⟨aj,o',e1,r⟩:=q;exact⟨aj,o',zzB _ e1,r⟩
noncomputable def LG(b:Bool)(a:Addr):Obj:={cls:=.type (Uh b),data:=.fields #[.ref a,.int 0 0]}
section
variable{prog:Program}{w:World}{A:Around}{E:Value->Shared->Prop}{s:Shared}
def uE{b:Bool}{a:Addr}{Q:Value->Shared->Prop}(h:Src s.heap b a)(q:Q (.ref (zz9 s)) {s with heap:=s.heap.push (LG b a)}):wpAny (model prog w) A (pyIter (.ref a)) Q E s:=by
 cases b with
 |true=>obtain⟨aj,h⟩:=h;exact wpAny_pyIter_list h q
 |false=>obtain⟨aj,h⟩:=h;exact wpAny_pyIter_tuple h q
end
noncomputable def fB(h:Heap)(qs:List (Bool×Addr)):Heap:=qs.foldl (λg q=>g.push (LG q.1 q.2)) h
def gv(qs:List (Bool×Addr)):∀h:Heap,(fB h qs).objs.size=h.objs.size+qs.length:=by
 induction qs with
 |nil=>exact λh=>rfl
 |cons q qs ih=>intro h;rw [fB,List.foldl_cons,<-fB,ih,Heap.size_push,zzL];omega
section
variable{prog:Program}{w:World}{A:Around}{E:Value->Shared->Prop}{s:Shared}
def rF{Q:List Value->Shared->Prop}:∀(qs:List (Bool×Addr)),(∀q∈qs,Src s.heap q.1 q.2)->Q ((List.range qs.length).map λi=>Value.ref ((zz9 s)+i)) {s with heap:=fB s.heap qs}->
 wpAny (model prog w) A (Builtin.SmallTypes.iterAll (qs.map λq=>Value.ref q.2)) Q E s:=by
 intro qs hq h;unfold Builtin.SmallTypes.iterAll;refine zzA ?_;refine wpAny_forIn_list _ (λrest (b:Array Value) s'=>∃dn lf,qs=dn++lf/\rest=lf.map (λq=>Value.ref q.2)/\b.toList=(List.range dn.length).map (λi=>Value.ref ((zz9 s)+i))/\s'={s with heap:=fB s.heap dn}) _ ?_ ?_ _ _ ⟨[],qs,rfl,rfl,rfl,rfl⟩
 ·rintro x rest b s' ⟨dn,lf,rfl,hr,hb,rfl⟩
  cases lf with
  |nil=>cases hr
  |cons q lf=>
   simp! [zzF,List.cons.injEq] at hr;obtain⟨rfl,rfl⟩:=hr
   have hs:∀(l:List (Bool×Addr)) (g:Heap),Src g q.1 q.2->Src (fB g l) q.1 q.2:=λl=>by
    induction l with
    |nil=>exact λg h=>h
    |cons r l ih=>exact λg h=>ih _ (h.push _)
   refine zzA (wpAny_holding (uE (hs dn _ (hq q (by simp))) ?_));refine zzG ⟨dn++[q],lf,by simp,rfl,?_,?_⟩
   ·rw [Array.toList_push,hb,zzM,List.length_singleton,List.range_succ,List.map_append];simp [gv]
   ·simp [fB,List.foldl_append]
 ·rintro b s' ⟨dn,lf,rfl,hr,hb,rfl⟩
  obtain rfl:lf=[]:=by cases lf with|nil=>rfl|cons q lf=>cases hr
  refine zzG ?_;rw [hb]
  simpa using h
end
theorem n8{h:Heap}{o:Obj}{n:Addr}(e:h.objs.size=n)(f:o.isFreed=false:=by rfl):(h.push o).get? n=some o:=e▸zzX h f
noncomputable def eR(h:Heap)(qs:List (Bool×Addr)):Heap:=
 (((fB h qs).push {cls:=.type "tuple",data:=.seq ((List.range qs.length).map λi=>Value.ref (h.objs.size+i)).toArray}).push {cls:=.type "tuple",data:=.seq (((List.range qs.length).map λi=>Value.ref (h.objs.size+i)).map λ_=>Value.none).toArray}).push
   {cls:=.type "zip",data:=.fields #[.none,.bool false,.bool false,.ref (h.objs.size+qs.length),.ref (h.objs.size+qs.length+1)]}
theorem y8(qs:List (Bool×Addr))(hl:qs.length<=9):
 Meets (Builtin.«zip.__new__» ⟨.type "zip"::qs.map (λq=>Value.ref q.2),[]⟩) (λ_ R s=>(∀q∈qs,Src s.heap q.1 q.2)/\R (.ok (.ret (.ref ((zz9 s)+qs.length+2)))) {s with heap:=eR s.heap qs}):=
 .of_wp λprog w A R s h=>by
  obtain⟨hs,h⟩:=h
  have QB:=sub_zip
  have fit:∀l:List Value,l.length=qs.length->l.length<=sizeLine:=λl e=>zzU (m:=9) (by omega) (by decide)
  show wpAny _ _ (Builtin.SmallTypes.newClass "zip" _>>=_) _ _ s
  unfold Builtin.SmallTypes.newClass
  wp_walk using rF qs hs
  rw [if_neg (by rw [zzC];exact Nat.not_lt.2 (fit _ (by simp)))]
  wp_walk
  rw [if_neg (by rw [zzC];exact Nat.not_lt.2 (fit _ (by simp)))]
  wp_walk
  refine⟨_,rfl,?_⟩;simp! [Heap.size_push,gv];exact h
def nc(qs:List (Bool×Addr)):∀(h:Heap) (c:Addr) (o:Obj),h.get? c=some o->(fB h qs).get? c=some o:=by
 induction qs with
 |nil=>exact λh c o e=>e
 |cons q qs ih=>exact λh c o e=>ih _ c o (zzB _ e)
theorem q8:∀(qs:List (Bool×Addr)) (h:Heap) (i:Nat) (q:Bool×Addr),qs[i]?=some q->(fB h qs).get? (h.objs.size+i)=some (LG q.1 q.2)
 |q::qs,h,0,r,e=>by
  cases e;exact nc qs _ _ _ (zzX _ rfl)
 |q::qs,h,i+1,r,e=>by
  have:=q8 qs (h.push (LG q.1 q.2)) i r (by simpa using e)
  rw [Heap.size_push] at this;rw [show h.objs.size+(i+1)=h.objs.size+1+i by omega];exact this
section
variable{prog:Program}{w:World}{A:Around}{E:Value->Shared->Prop}{s:Shared}
def w4{qs:List (Bool×Addr)}{Q:Value->Shared->Prop}(hl:qs.length<=9)(hs:∀q∈qs,Src s.heap q.1 q.2)(h1:checkTypeCall "zip" ⟨qs.map (λq=>Value.ref q.2),[]⟩=pure ())(h2:checkBuiltinCall "zip.__new__" ⟨.type "zip"::qs.map (λq=>Value.ref q.2),[]⟩=pure ())(h3:∀obj,argsOk "object.__init__" ⟨obj::qs.map (λq=>Value.ref q.2),[]⟩)
 (h:IsZip (eR s.heap qs) ((zz9 s)+qs.length+2) ((zz9 s)+qs.length) ((zz9 s)+qs.length+1) .none->gE (eR s.heap qs) ((zz9 s)+qs.length) ((List.range qs.length).map λi=>Value.ref ((zz9 s)+i)).toArray->(∃c,gE (eR s.heap qs) ((zz9 s)+qs.length+1) c/\c.size=qs.length)->
  (∀i q,qs[i]?=some q->(eR s.heap qs).get? ((zz9 s)+i)=some (LG q.1 q.2))->(∀c o,s.heap.get? c=some o->(eR s.heap qs).get? c=some o)->Q (.ref ((zz9 s)+qs.length+2)) {s with heap:=eR s.heap qs}):
 wpAny (model prog w) A (call (.type "zip") (qs.map λq=>Value.ref q.2)) Q E s:=by
 have z0:=gv qs s.heap
 have up:∀c o,(fB s.heap qs).get? c=some o->(eR s.heap qs).get? c=some o:=λc o e=>zzB _ (zzB _ (zzB _ e))
 have g5:IsZip (eR s.heap qs) ((zz9 s)+qs.length+2) ((zz9 s)+qs.length) ((zz9 s)+qs.length+1) .none:=n8 (by rw [Heap.size_push,Heap.size_push,z0])
 have g3:gE (eR s.heap qs) ((zz9 s)+qs.length) ((List.range qs.length).map λi=>Value.ref ((zz9 s)+i)).toArray:=zzB _ (zzB _ (n8 z0))
 have g4:gE (eR s.heap qs) ((zz9 s)+qs.length+1) (((List.range qs.length).map λi=>Value.ref ((zz9 s)+i)).map λ_=>Value.none).toArray:=zzB _ (n8 (by rw [Heap.size_push,z0]))
 exact callType_new PySem.F.called_zip (by decide) h1 h2 h3 PySem.F.entry_zip_new (y8 qs hl) ⟨hs,⟨_,g5,rfl⟩,h g5 g3 ⟨_,g4,by simp⟩ (λi q e=>up _ _ (q8 qs _ i q e)) λc o e=>up _ _ (nc qs _ c o e)⟩
end
theorem ng:∀{ts:List Zt} {us:List Value},Vals (ts.map λt=>V.ref t.2.1) us->us=ts.map λt=>Value.ref t.2.1
 |[],_,.nil=>rfl
 |t::ts,_,.cons h r=>by
  cases h;rw [ng r]
  rfl
section
variable{X:Cx}{elts:List Expr}{x1:Nat}{iS:Pos}
noncomputable def Nd(K:zz8)(ta:TA):TI:=λσ H R=>ta σ H λvs H1=>∃ts:List Zt,vs=ts.map (λt=>.ref t.2.1)/\(ts.length=2\/ts.length=3)/\(∀t∈ts,Zq K H1 t)/\R (P7 K ts) H1
def Dr{e:Expr}{es:List Expr}{ta:TA}{p pos:Pos}(hg:Gl X "zip")(hm:X.mg "zip"=none)(ha:PA X (e::es) ta)(he:starEach (e::es) X.env=(false,eval e X.env)::starEach es X.env)(hp:(backTo pos (starEach es X.env)).any (·.1)=false):
 PI X (.Tuple elts x1 iS) (.Call (.Name "zip" p) (e::es) [] pos) (Nd X.K ta):=by
 intro aa s σ H R I h;refine Call_ (cZ I hg hm (show bootBuiltins "zip"=some (.type "zip") by decide+kernel) (PyProof.Rows.callWith_type1 (bA (ha pos aa s σ H _ I h) λus s1 ⟨vs,H1,I1,r1,q1⟩=>?_) he hp))
 obtain⟨ts,rfl,hn,hq,q⟩:=q1
 obtain rfl:=ng r1
 have l9:ts.length<=9:=by omega
 have lm:(ts.map λt=>(t.1,t.2.1)).length=ts.length:=zzl ..
 have em:(ts.map λt=>Value.ref t.2.1)=(ts.map λt=>(t.1,t.2.1)).map λq=>Value.ref q.2:=by rw [List.map_map];rfl
 have src:∀t∈ts,Src s1.heap t.1 t.2.1/\t.2.1<(zz9 s1):=λt ht=>by
  have:=hq t ht
  unfold Zq at this;unfold Src;cases hb:t.1 with
  |true=>
   rw [if_pos hb] at this;obtain⟨aj,_,pl,_⟩:=I1.list this
   exact⟨⟨_,pl.isList⟩,by obtain⟨_,e,_⟩:=pl.isList;exact zzO e⟩
  |false=>
   rw [if_neg (by rw [hb];exact zzf)] at this;obtain⟨aj,_,pl,_⟩:=I1.tuple this
   exact⟨⟨_,pl⟩,by obtain⟨_,e,_⟩:=pl;exact zzO e⟩
 have go:∀l,(l=2\/l=3)->ts.length=l->checkTypeCall "zip" ⟨ts.map (λt=>Value.ref t.2.1),[]⟩=pure ()/\checkBuiltinCall "zip.__new__" ⟨.type "zip"::ts.map (λt=>Value.ref t.2.1),[]⟩=pure ()/\∀obj,argsOk "object.__init__" ⟨obj::ts.map (λt=>Value.ref t.2.1),[]⟩:=λl hl e=>by
  rcases hl with rfl|rfl
  ·match ts,e with
   |[a,b],_=>exact⟨PySem.F.typeCall_zip_2 _ _,PySem.F.newCall_zip_2 _ _,λobj=>PySem.F.args_object_init_3 obj _ _⟩
  ·match ts,e with
   |[a,b,c],_=>exact⟨jr _ _ _,mh _ _ _,λobj=>gC obj _ _ _⟩
 obtain⟨c1,c2,c3⟩:=go _ hn rfl
 rw [em] at c1 c2 c3⊢;refine w4 (by rw [lm];exact l9) (λq mI=>by obtain⟨t,ht,rfl⟩:=zzx.1 mI;exact(src t ht).1) c1 c2 c3 λa1 a2 a3 a4 kk=>wpAny_pyIter_zip a1 ?_
 rw [lm] at a1 a2 a3;have I2:Inv X aa σ H1 {s1 with heap:=eR s1.heap (ts.map λt=>(t.1,t.2.1))}:=I1.kept (t':=s1.toks) kk
 have eqs:(ts.zipIdx.map λp=>(⟨(zz9 s1)+p.2,p.1.1,p.1.2.1,p.1.2.2⟩:Zs)).map Zs.t=ts:=by
  rw [List.map_map];refine List.ext_getElem (by simp) λi h1 h2=>?_
  simp [Zs.t]
 have mq:∀q∈ts.zipIdx.map λp=>(⟨(zz9 s1)+p.2,p.1.1,p.1.2.1,p.1.2.2⟩:Zs),∃i,i<ts.length/\ts[i]?=some q.t/\q.it=(zz9 s1)+i:=λq mI=>by
  obtain⟨⟨t,i⟩,OO,rfl⟩:=zzx.1 mI
  have:=List.mem_zipIdx_iff_getElem?.1 OO
  exact⟨i,(zzH.1 this).1,this,rfl⟩
 have Z:O7 ((zz9 s1)+ts.length+2) ((zz9 s1)+ts.length) ((zz9 s1)+ts.length+1) (ts.zipIdx.map λp=>(⟨(zz9 s1)+p.2,p.1.1,p.1.2.1,p.1.2.2⟩:Zs)):=by
  refine⟨⟨zzb (by show _<_;omega),zzb (by show _<_;omega),zzb (by show _<_;omega)⟩,λz=>?_,by simpa using l9,λq mI=>?_,λq mI=>?_,?_⟩
  ·have:=congrArg List.length z
   simp! [zzl,List.length_zipIdx,List.length_nil] at this;omega
  ·obtain⟨i,h1,_,h3⟩:=mq q mI
   rw [h3];exact⟨zzb (by show _<_;omega),zzb (by show _<_;omega),zzb (by show _<_;omega)⟩
  ·obtain⟨i,h1,h2,h3⟩:=mq q mI
   have h4:q.a<(zz9 s1):=(src q.t (zzD h2)).2
   refine⟨zzb (zzW h4 (by show _<=_;omega)),zzb (zzW h4 (by show _<=_;omega)),λr hr=>?_⟩
   obtain⟨j,_,_,h5⟩:=mq r hr
   rw [h5];exact zzb (zzW h4 (by show _<=_;omega))
  ·refine List.pairwise_map.2 ?_;refine List.pairwise_iff_getElem.2 λi j hi hj oD=>?_
   simp! [List.getElem_zipIdx];exact zzb (by show _<_;omega)
 have T:=w6 (P:=X.prog) (w:=X.w) (K:=X.K) (elts:=elts) (x1:=x1) (pos:=iS) Z
 rw [eqs] at T;refine⟨_,_,_,_,H1,by rw [lm],I2,T,⟨a1,?_,?_,λq mI=>?_⟩,λb hb=>?_,q⟩
 ·have:(ts.zipIdx.map λp=>(⟨(zz9 s1)+p.2,p.1.1,p.1.2.1,p.1.2.2⟩:Zs)).map (λq=>Value.ref q.it)=(List.range ts.length).map λi=>Value.ref ((zz9 s1)+i):=by
   refine List.ext_getElem (by simp) λi h1 h2=>?_
   simp
  rw [this];exact a2
 ·obtain⟨c,h1,h2⟩:=a3
  exact⟨c,h1,by simpa using h2⟩
 ·obtain⟨i,h1,h2,h3⟩:=mq q mI
  have:=a4 i (q.b,q.a) (by rw [zzQ,h2];rfl)
  unfold Zs.iter;rw [h3];cases hb:q.b with
  |true=>rw [hb] at this;exact⟨_,this,rfl,rfl⟩
  |false=>rw [hb] at this;exact⟨_,this,rfl,rfl⟩
 ·have iJ:(zz9 s1)<=b:=by
   simp! [zzm,zzx] at hb;rcases hb with e|e|e|⟨q,mI,e⟩
   ·rw [e];exact zzU (Nat.le_add_right _ _) (Nat.le_add_right _ _)
   ·rw [e];exact Nat.le_add_right _ _
   ·rw [e];exact zzU (Nat.le_add_right _ _) (Nat.le_add_right _ _)
   ·obtain⟨i,_,_,h3⟩:=mq q (zzx.2 mI)
    rw [<-e,h3];exact Nat.le_add_right _ _
  exact I1.kO iJ (I1.bj.fresh iJ)
end
def uv:typeLookup (.type "list_reverseiterator") "__len__"=pure none:=by rw [typeLookup_type,builtinLookup_eq_fast];kernel_rfl
def A5:typeLookup (.type "list_reverseiterator") "__length_hint__"=pure (some (.builtin "list_reverseiterator.__length_hint__")):=by rw [typeLookup_type,builtinLookup_eq_fast];kernel_rfl
section
variable{prog:Program}{w:World}{A:Around}{E:Value->Shared->Prop}{s:Shared}
def Ek{R:Result->Shared->Prop}(hh:A.handled=none){I l:Addr}(dH:l≠I){items:Array Value}(hit:s.heap.IsRevIter I l ((items.size:Int)-1))(hl:s.heap.IsList l items)(S:Addr)(CV:S≠I)(Kb:S≠l)(res:Value)(c₀:Nat)(hS:s.heap.get? S=some {cls:=.type "list",data:=.seq #[] c₀})
 (hR:∀h' tk dS c',(∀b o,b≠S->b≠I->s.heap.get? b=some o->h'.get? b=some o)->h'.get? S=some {cls:=.type "list",dict:=none,data:=.seq dS c',slots:=#[]}->
  ItemsOf (λi v=>items[items.size-1-i]?=some v) dS items.size->R (.ok (.ret res)) {s with heap:=h',toks:=tk}) (hn:items.size<=sizeLine):
 wpAny (model prog w) A.in1 (Builtin.List.listExtendWith (.ref S) (.ref I) res)
  (λfin s'=>match fin with|.done f=>R (.ok f) s'|.again c'=>c'.quiet=true/\codeAny (model prog w) A c' R s') (λe s'=>R (.error e) s') s:=by
 have Tv:S∉[I,l]:=λhm=>by
  rcases zzm.mp hm with e|hm
  ·exact CV e
  ·exact Kb (zzi.mp hm)
 unfold Builtin.List.listExtendWith;refine zzA (wpAny_typeOf hit.typeIs ?_);have h1:Builtin.List.listSameRef (.ref S) (.ref I)=false:=by simp [Builtin.List.listSameRef,CV]
 have h2:(Value.type "list_reverseiterator"==Value.type "list")=false:=by decide
 have h3:(Value.type "list_reverseiterator"==Value.type "tuple")=false:=by decide
 simp! [h1,h2,h3,Bool.or_false,zze,if_false];refine zzA (wpAny_pyIter_revIter hit ?_);refine zzA (wpAny_holding ?_);unfold Builtin.List.listLengthHint;refine zzA (wpAny_specialOf hit.typeIs uv ?_);show wpAny _ A.in1 (specialOf (Value.ref I) (Str.ofString "__length_hint__")>>=_) _ _ _;refine zzA (wpAny_specialOf hit.typeIs A5 ?_)
 wp_delta
 refine zzA (wpAny_isInstance (T:="list_reverseiterator") (v:=.ref I) (b:=true) hit.typeIs (by rw [isSubtype_type];kernel_rfl) ?_);refine zzG ?_;rw [if_neg (by decide)];refine zzG ⟨plainId_quiet F.plain_extend_loop _,codeAny_extend_loopS (Walks.listRev (prog:=prog) (w:=w) (A:=A.in1) hh I l dH items).toS hn _ Tv _ items.size 0 _ _ _ rfl (Nat.zero_le _) ⟨Nat.zero_le _,by simpa using hit,hl⟩ hS (ItemsOf.nil _) λs' dS c' hm sC pP=>?_⟩
 rw [Moved.eq_with hm];refine hR s'.heap s'.toks dS c' (λb ob hb Pt e=>hm.heap b ob (λhmem=>?_) e) sC pP
 rcases zzm.mp hmem with e'|hmem
 ·exact hb e'
 ·exact Pt (zzi.mp hmem)
def Bt{R:Result->Shared->Prop}(hh:A.handled=none){I l:Addr}(dH:l≠I){items:Array Value}(hit:s.heap.IsRevIter I l ((items.size:Int)-1))(hl:s.heap.IsList l items)(S:Addr)(CV:S≠I)(Kb:S≠l)(hS:s.heap.get? S=some {cls:=.type "list",data:=.seq #[]})
 (hR:∀h' tk dS c',(∀b o,b≠S->b≠I->s.heap.get? b=some o->h'.get? b=some o)->h'.get? S=some {cls:=.type "list",dict:=none,data:=.seq dS c',slots:=#[]}->
  ItemsOf (λi v=>items[items.size-1-i]?=some v) dS items.size->R (.ok (.ret .none)) {s with heap:=h',toks:=tk}) (hn:items.size<=sizeLine):
 wpAny (model prog w) A.in1 (Builtin.«list.__init__» ⟨[.ref S,.ref I],[]⟩)
  (λfin s'=>match fin with|.done f=>R (.ok f) s'|.again c'=>c'.quiet=true/\codeAny (model prog w) A c' R s') (λe s'=>R (.error e) s') s:=by
 show wpAny _ _ (do let old<-Builtin.List.listItems (.ref S);Builtin.List.listUpdate (.ref S) (λ_=>#[]);letGo old.toList.reverse;Builtin.List.listExtendWith (.ref S) (.ref I) .none) _ _ s
 refine zzA ?_;unfold Builtin.List.listItems;refine zzA (wpAny_seqItems hS rfl (zzG ?_));show wpAny _ _ (updateSeq S (λ_=>#[])>>=λ_=>letGo (#[]:Array Value).toList.reverse>>=λ_=>Builtin.List.listExtendWith (.ref S) (.ref I) .none) _ _ s
 refine zzA (wpAny_updateSeq hS rfl ?_);have hS₂:=Heap.get?_update_self (Obj.mapSeq (λ_=>(#[]:Array Value))) hS rfl
 have QA:∀b o,b≠S->s.heap.get? b=some o->(s.heap.update S (Obj.mapSeq (λ_=>(#[]:Array Value)))).get? b=some o:=
  λb o hb e=>(Heap.get?_update_other _ _ (Ne.symm hb)).trans e
 refine zzA (wpAny_letGo ?_);refine Ek (hn:=hn) hh dH (hit.at λo e=>QA _ _ (Ne.symm CV) e) (hl.at λo e=>QA _ _ (Ne.symm Kb) e) S CV Kb .none _ hS₂ λh' tk dS c' hk sC pP=>?_
 exact hR h' tk dS c' (λb o hb Pt e=>hk b o hb Pt (QA b o hb e)) sC pP
def mr{Q:Value->Shared->Prop}(hh:A.handled=none){I l:Addr}(dH:l≠I){items:Array Value}(hit:s.heap.IsRevIter I l ((items.size:Int)-1))(hl:s.heap.IsList l items)
 (hQ:∀h' tk dS c',(∀b o,b≠I->s.heap.get? b=some o->h'.get? b=some o)->
  h'.get? (zz9 s)=some {cls:=.type "list",dict:=none,data:=.seq dS c',slots:=#[]}->ItemsOf (λi v=>items[items.size-1-i]?=some v) dS items.size->Q (.ref (zz9 s)) {s with heap:=h',toks:=tk}) (hn:items.size<=sizeLine):
 wpAny (model prog w) A (call (.type "list") [.ref I]) Q E s:=by
 refine callType_codes (Q₁:=λobj s₁=>obj=.ref (zz9 s)/\s₁={s with heap:=s.heap.push {cls:=.type "list",data:=.seq #[]}}) F.called_list (F.typeCall_list_1 _) F.entry_list_init
  (code_list_new _ ⟨rfl,rfl⟩) λobj s₁ h₁=>?_
 obtain⟨rfl,rfl⟩:=h₁
 have hS:(s.heap.push {cls:=.type "list",data:=.seq #[]}).get? (zz9 s)=some {cls:=.type "list",data:=.seq #[]}:=zzX _ rfl
 have n1:(zz9 s)≠I:=λe=>let⟨o,ho,_⟩:=hit;absurd (zzO ho) (by rw [e];exact Nat.lt_irrefl _)
 have n2:(zz9 s)≠l:=λe=>let⟨o,ho,_⟩:=hl;absurd (zzO ho) (by rw [e];exact Nat.lt_irrefl _)
 refine⟨⟨_,hS,rfl⟩,F.args_list_init_2 _ _,Bt (A:=A.in1) (hn:=hn) hh dH (hit.at λo e=>zzB _ e) (hl.at λo e=>zzB _ e) _ n1 n2 hS λh' tk dS c' hk sC pP=>?_⟩
 exact⟨rfl,hQ h' tk dS c' (λb o hb e=>hk b o (zzb (zzO e)) hb (zzB _ e)) sC pP⟩
variable{X:Cx}{e:Expr}{te:TE}{p1 p2 pos uf:Pos}
noncomputable def TX(K:zz8)(te:TE):TE:=λσ H Q=>te σ H λx H1=>∃l vs,x=.ref l/\di K H1 l vs/\∀p,H1 p=none->Q (.ref p) (upd H1 p (.lst vs.reverse))
def My(xs:List V)(P:V->Prop):Prop:=match xs with
 |[x]=>P x
 |_=>False
def CP{xs:List V}{P:V->Prop}(h:My xs P):∃x,xs=[x]/\P x:=by
 cases xs with
 |nil=>exact h.elim
 |cons x r=>
  cases r with
  |nil=>exact⟨x,rfl,h⟩
  |cons _ _=>exact h.elim
def yZ{vs:List V}{us:List Value}(r:Vals vs us):Vals vs.reverse us.reverse:=by
 induction r with
 |nil=>exact .nil
 |cons h t ih=>
  rw [List.reverse_cons,List.reverse_cons];exact ih.append (.cons h .nil)
def tj(hc:X.calm=true)(hg:Gl X "list")(hm:X.mg "list"=none)(Nr:Gl X "reversed")(F4:X.mg "reversed"=none)(h:PE X e te)(he:starEach [e] X.env=(false,eval e X.env)::starEach [] X.env):
 PE X (.Call (.Name "list" p1) [.Call (.Name "reversed" p2) [e] [] uf] [] pos) (TX X.K te):=by
 intro aa s σ H Q I q;refine wpAny_Call_Name_kw (cZ I hg hm (u:=.type "list") (by decide+kernel) ?_);refine PyProof.Rows.callWith_type1 ?_ rfl rfl;show wpAny _ _ (spliced ((false,eval (.Call (.Name "reversed" p2) [e] [] uf) X.env)::backTo pos (starEach [] X.env))) _ _ s;refine Calls.spliced_cons ?_;refine wpAny_Call_Name_kw (cZ I Nr F4 (u:=.type "reversed") (by decide+kernel) ?_);refine PyProof.Rows.callWith_type1 (bA (bp h cw he uf aa s σ H (λxs H1=>My xs λx=>∃l vs,x=.ref l/\di X.K H1 l vs/\∀p,H1 p=none->Q (.ref p) (upd H1 p (.lst vs.reverse))) I q) λus s1 ⟨xs,H1,I1,r1,q1⟩=>?_) he rfl
 ·obtain⟨x,rfl,l,vs,rfl,hq,q1⟩:=CP q1
  obtain⟨u,rfl,rx⟩:=vals1 r1
  cases rx;obtain⟨aj,r',pl,hz⟩:=I1.list hq
  have hlen:=r'.length
  refine call_reversed_list pl.isList ?_;refine Calls.spliced_nil ?_;have hn:aj.toArray.size<=sizeLine:=by simp! [zzC]<;>omega
  obtain⟨ol,hol,_⟩:=id pl.isList
  have dH:l≠(zz9 s1):=λz=>absurd (zzO hol) (by rw [z];exact Nat.lt_irrefl _)
  refine mr (I1.ok.hd hc) dH ⟨_,zzX _ rfl,rfl,rfl⟩ (pl.isList.at λo z=>zzB _ z) (λh' tk dS c' kp e ha=>?_) hn;have pP:dS.toList=aj.reverse:=by
   refine List.ext_getElem? λi=>?_
   by_cases hi:i<aj.length
   ·rw [List.getElem?_reverse hi];have hs:dS.size=aj.length:=by rw [ha.1];simp
    have Na:i<dS.size:=by omega
    have:=ha.2 i dS[i] (zz2 Na)
    rw [Array.getElem?_toList,zz2 Na,<-this];simp
   ·rw [List.getElem?_eq_none (by rw [zzd,ha.1];simpa using hi),List.getElem?_eq_none (by rw [List.length_reverse];omega)]
  have rv:Vals vs.reverse dS.toList:=by rw [pP];exact yZ r'
  exact⟨.ref ((zz9 s1)+1),_,I1.laid (t':=tk) (a:=(zz9 s1)+1) (λb o z=>kp b o (zzb (zzO z)) (zzB _ z)) (Nat.le_succ _) (show bF X.prog X.w _ h' _ (.lst _) from⟨by rw [List.length_reverse];exact hz,dS.toList,c',rv,by simpa using e⟩),by rw [Heap.size_push];rfl,q1 _ (I1.bj.fresh (Nat.le_succ _))⟩
end
noncomputable def PM(K:zz8)(a:Addr)(xs:List V):It:=
 ⟨λi H=>di K H a xs/\i<xs.length,λi H x H'=>H'=H/\xs[xs.length-1-i]?=some x,λi H=>di K H a xs/\i=xs.length⟩
def Au{P:Program}{w:World}{K:zz8}{tg:Expr}(a it:Addr)(xs:List V):Turn P w K tg (PM K a xs) [it] it (λi h=>h.IsRevIter it a ((xs.length:Int)-1-i)) where
 mem:=by simp
 obj:=λi h st b hb=>by
  obtain⟨o,e,c,d⟩:=st
  rw [zzi.1 hb];exact⟨o,e,λv z=>by rw [d] at z;cases z⟩
 keep:=λi h h' st k=>st.at λo e=>k it (by simp) o e
 item:=by
  intro X hP hw hK hc i aa s σ H E I hf st hg;subst hP hw hK;obtain⟨hq,bX⟩:=hg
  have hx:xs[xs.length-1-i]?=some xs[xs.length-1-i]:=zzg (by omega)
  obtain⟨aj,rv,p,hz⟩:=I.list hq
  obtain⟨u,hu,ru⟩:=rv.get hx
  obtain⟨f0,f1,f2,f3,f4,f5⟩:=hf it (by simp)
  have sE:s.heap.IsRevIter it a ((xs.length-1-i:Nat):Int):=by rw [show((xs.length-1-i:Nat):Int)=(xs.length:Int)-1-i by omega];exact st
  refine wpAny_pyNext_rev_item sE p.isList (x:=u) (by simpa using hu) λh' eY sb=>?_
  have I1:Inv X aa σ H {s with heap:=h'}:=I.turned (t':=s.toks) (λb o hb e=>(sb.2 b hb).trans e) f0 f1 f3 f4 f5
  obtain⟨o,e,c,d⟩:=id eY
  refine⟨u,rfl,qO (s:={s with heap:=h'}) e c d (by decide) ⟨_,H,I1,ru,⟨rfl,hx⟩,?_,λb hb=>(hf b hb).1⟩⟩
  rw [show(xs.length:Int)-1-((i+1:Nat):Int)=((xs.length-1-i:Nat):Int)-1 by omega];exact eY
 done:=by
  intro X hP hw hK hc i aa s σ H E I hf st hg;subst hP hw hK;obtain⟨hq,rfl⟩:=hg
  obtain⟨f0,f1,f2,f3,f4,f5⟩:=hf it (by simp)
  have sE:s.heap.IsRevIter it a (-1):=by rw [show(-1:Int)=(xs.length:Int)-1-xs.length by omega];exact st
  exact wpAny_pyNext_rev_end (I.ok.hd hc) sE λh' eb=>⟨rfl,I.turned (t':=s.toks) (λb o hb q=>eb b o hb q) f0 f1 f3 f4 f5⟩
 self:=λ_ _ _ _ _ st h=>wpAny_pyIter_revIter st h
section
variable{X:Cx}{tg:Expr}
noncomputable def OR(K:zz8)(ta:TA):TI:=λσ H R=>ta σ H λvs H1=>∃a xs,vs=[.ref a]/\di K H1 a xs/\R (PM K a xs) H1
def Cp{a:Expr}{ta:TA}{p pos:Pos}(hg:Gl X "reversed")(hm:X.mg "reversed"=none)(ha:PA X [a] ta)(hs:starEach [a] X.env=(false,eval a X.env)::starEach [] X.env):PI X tg (.Call (.Name "reversed" p) [a] [] pos) (OR X.K ta):=by
 intro aa s σ H R I h;refine Call_ (cZ I hg hm (show bootBuiltins "reversed"=some (.type "reversed") by decide+kernel) (PyProof.Rows.callWith_type1 (bA (ha pos aa s σ H _ I h) λus s1 ⟨vs,H1,I1,r1,q1⟩=>?_) hs rfl))
 obtain⟨l,xs,rfl,hq,q⟩:=q1
 obtain⟨u,rfl,ru⟩:=vals1 r1
 cases ru;obtain⟨aj,rv,pl,_⟩:=I1.list hq
 refine call_reversed_list pl.isList (wpAny_pyIter_revIter ⟨_,zzX _ rfl,rfl,rfl⟩ ?_);refine⟨(zz9 s1),[(zz9 s1)],_,_,H1,rfl,I1.kept (t':=s1.toks) λb o e=>zzB _ e,Au l _ xs,⟨_,zzX _ rfl,rfl,?_⟩,λb hb=>?_,q⟩
 ·rw [zzC,<-rv.length,show(xs.length:Int)-1-((0:Nat):Int)=(xs.length:Int)-1 by omega]
  rfl
 ·rw [zzi.1 hb];exact I1.kO (zzE _) (I1.bj.fresh (zzE _))
end
end L2
namespace Ci
open PySem L2
structure Hs where
 f:Str
 h:Str
 g:Str
 idx:List Nat
 np:Nat
structure Pg where
 gs:List (Str×PV)
 bs:List Str
 cs:List Str
 fs:List Str
 rs:List Str
 hs:List Hs:=[]
 hl:Bool:=false
noncomputable def e9(sc:Scope)(x:Str):Bool:=sc.names.lookup x==some .local||sc.names.lookup x==some .cell
noncomputable def eF(sc:Scope)(x:Str):Bool:=e9 sc x||sc.names.lookup x==some .free
noncomputable def eO(sc:Scope)(x:Str):Bool:=sc.names.lookup x==some .globalImplicit
noncomputable def litS:List PV->List PV->Bool
 |[],[]=>true
 |.str x::xs,.str y::ys=>x==y&&litS xs ys
 |_,_=>false
noncomputable def vF:PV->PV->Bool
 |.int i,.int j=>i==j
 |.str x,.str y=>x==y
 |.tup xs,.tup ys=>litS xs ys
 |_,_=>false
theorem litS_eq:∀{xs ys:List PV},litS xs ys=true->xs=ys
 |[],[],_=>rfl
 |.str x::xs,.str y::ys,h=>by
  unfold litS at h;rw [zza] at h;rw [zzy.mp h.1,litS_eq h.2]
def Am{p q:PV}(h:vF p q=true):p=q:=by
 unfold vF at h;split at h
 ·rw [zzy.mp h]
 ·rw [zzy.mp h]
 ·rw [litS_eq h]
 ·cases h
noncomputable def bN:B->Str
 |.len=>"len"|.abs=>"abs"|.max2=>"max"|.min2=>"min"|.int=>"int"|.str=>"str"|.tuple=>"tuple"|.dict=>"dict"
noncomputable def fv:E->Bool
 |.ic _=>false
 |_=>true
noncomputable def ke:Es->Bool
 |.nil=>true
 |.cons e es=>fv e&&ke es
noncomputable def CK:I->Bool
 |.seq e=>fv e
 |.md _=>true
 |.o7 _ _=>true
 |.enum e=>fv e
 |.zip _=>true
 |.tW _=>true
noncomputable def isNil:Es->Bool
 |.nil=>true
 |_=>false
noncomputable def fW:Es->Nat
 |.nil=>0
 |.cons _ es=>fW es+1
noncomputable def CI:Expr->Option (List Expr)
 |.Tuple es _ _=>some es
 |_=>none
def pQ{e:Expr}{es:List Expr}(h:CI e=some es):∃k p,e=.Tuple es k p:=by
 cases e with
 |Tuple es k p=>cases h;exact⟨_,_,rfl⟩
 |_=>exact fL h
noncomputable def xi{α:Type}:List α->Option (α×α)
 |[a,b]=>some (a,b)
 |_=>none
def E3{α:Type}{ts:List α}{q:α×α}(h:xi ts=some q):ts=[q.1,q.2]:=by
 cases ts with
 |nil=>exact fL h
 |cons a ts=>
  cases ts with
  |nil=>exact fL h
  |cons b ts=>
   cases ts with
   |cons _ _=>exact fL h
   |nil=>cases h;rfl
noncomputable def Oz(N:List Str)(sc:Scope)(fn:Str->Bool)(i:Nat)(p:Expr):Bool:=(gB p).any λx=>N[i]?==some x&&e9 sc x&&(fn x||sc.names.lookup x==some .local)
noncomputable def EG(N:List Str)(sc:Scope)(fn:Str->Bool):List Nat->List Expr->Bool
 |i::is,a::as=>Oz N sc fn i a&&EG N sc fn is as
 |[],[]=>true
 |_,_=>false
noncomputable def fY(N:List Str)(sc:Scope)(fn:Str->Bool):Tg->Expr->Bool
 |.one i,p=>Oz N sc fn i p
 |.two i j,p=>(CI p).any (EG N sc fn [i,j])
noncomputable def aF:Expr->List Str
 |.Name x _=>[x]
 |.Tuple [.Name x _,.Name y _] _ _=>[x,y]
 |.Tuple [.Name x _,.Name y _,.Name z _] _ _=>[x,y,z]
 |.Tuple [.Name x _,.Tuple [.Name y _,.Name z _] _ _] _ _=>[x,y,z]
 |_=>[]
noncomputable def cO(scope sc:Scope):Scope:=
 {scope with names:=scope.names.map λ(n,k)=>if(k==.free&&sc.kind==.function&&sc.names.lookup n==some .cell) then(n,.cell) else(n,k)}
noncomputable def freeOf(scope:Scope):List Str:=((scope.names.filter λp=>p.2==.free).map (·.1)).reverse
noncomputable def vj(N:List Str)(sc scope:Scope)(k:Nat)(cb:List Nat)(xs:List Str):Bool:=
 scope.kind==.function&&xs.length==k&&decide ((xs++freeOf scope).Nodup)
 &&(scope.names.all λy=>(decide (y.2≠.cell)||!(freeOf scope).contains y.1)&&(decide (y.2≠.free)||(freeOf scope).contains y.1))
 &&(scope.names.all λy=>decide (y.2≠.cell)||decide (scope.names.lookup y.1=some .cell))
 &&(scope.names.all λy=>decide (y.2≠.local)||decide (scope.names.lookup y.1=some .local))
 &&decide (cb.map (λi=>N[i]?)=(freeOf scope).map some)
 &&((freeOf scope).all λy=>decide (sc.names.lookup y=some .cell))
 &&((freeOf scope).all λy=>decide ((cO scope sc).names.lookup y=some .cell))
noncomputable def jW(k:Nat):Tg->Bool
 |.one i=>decide (i<k)
 |.two i j=>decide (i<k)&&decide (j<k)
noncomputable def eV:E->Bool
 |.ite _ _ _=>false
 |.not a=>eV a
 |.and a b=>eV a&&eV b
 |.or a b=>eV a&&eV b
 |_=>true
noncomputable def isTup:Expr->Bool
 |.Tuple .. =>true
 |_=>false
noncomputable abbrev Pg.BQ(Γ:Pg):Pg:={Γ with hl:=false}
def uz{α β:Type}{o:Option α}{f:α->Option β}{b:β}(h:o.bind f=some b):∃a,o=some a/\f a=some b:=zzZ.1 h
def if1{α:Type}{c:Bool}{a b:α}(h:(if c=true then some a else none)=some b):c=true/\a=b:=by
 cases c with
 |true=>cases h;exact⟨rfl,rfl⟩
 |false=>exact fL h
noncomputable def dm{α:Type}:List α->Option α
 |[t]=>some t
 |_=>none
def eK{α:Type}{ts:List α}{t:α}(h:dm ts=some t):ts=[t]:=by
 cases ts with
 |nil=>exact fL h
 |cons a ts=>
  cases ts with
  |cons _ _=>exact fL h
  |nil=>cases h;rfl
noncomputable def Mb:Expr->Option (Expr×Str×Pos)
 |.Attribute o m p=>some (o,m,p)
 |_=>none
def AO{e:Expr}{q:Expr×Str×Pos}(h:Mb e=some q):e=.Attribute q.1 q.2.1 q.2.2:=by
 cases e with
 |Attribute o m p=>cases h;rfl
 |_=>exact fL h
noncomputable def Ma:Expr->Option (Expr×Expr)
 |.Subscript a b _=>some (a,b)
 |_=>none
def zK{e:Expr}{q:Expr×Expr}(h:Ma e=some q):∃p,e=.Subscript q.1 q.2 p:=by
 cases e with
 |Subscript a b p=>cases h;exact⟨_,rfl⟩
 |_=>exact fL h
noncomputable def Kx:Expr->Option Const
 |.Constant c _ _=>some c
 |_=>none
def Ba{e:Expr}{c:Const}(h:Kx e=some c):∃p q,e=.Constant c p q:=by
 cases e with
 |Constant c p q=>cases h;exact⟨_,_,rfl⟩
 |_=>exact fL h
noncomputable def sE:Const->Option Str
 |.str z=>some z
 |_=>none
def zt{c:Const}{z:Str}(h:sE c=some z):c=.str z:=by
 cases c with
 |str y=>cases h;rfl
 |_=>exact fL h
noncomputable def Qi:Const->Option Int
 |.int n=>some n
 |_=>none
def yo{c:Const}{n:Int}(h:Qi c=some n):c=.int n:=by
 cases c with
 |int y=>cases h;rfl
 |_=>exact fL h
def Fb{α:Type}{l:List α}(h:l.isEmpty=true):l=[]:=by
 cases l with
 |nil=>rfl
 |cons _ _=>exact bq h
def OE{α:Type}{o:Option α}(h:o.isNone=true):o=none:=by
 cases o with
 |none=>rfl
 |some _=>exact bq h
noncomputable def RL:Const->Option Bool
 |.bool b=>some b
 |_=>none
def JA{c:Const}{b:Bool}(h:RL c=some b):c=.bool b:=by
 cases c with
 |bool y=>cases h;rfl
 |_=>exact fL h
noncomputable def QH:Const->Bool
 |.none=>true
 |_=>false
def zJ{c:Const}(h:QH c=true):c=.none:=by
 cases c with
 |none=>rfl
 |_=>exact bq h
noncomputable def RH:Expr->Option (Expr×Operator×Expr)
 |.BinOp a o b _=>some (a,o,b)
 |_=>none
def GV{e:Expr}{q:Expr×Operator×Expr}(h:RH e=some q):∃p,e=.BinOp q.1 q.2.1 q.2.2 p:=by
 cases e with
 |BinOp a o b p=>cases h;exact⟨_,rfl⟩
 |_=>exact fL h
noncomputable def NN:Expr->Option (Expr×List CmpOp×List Expr)
 |.Compare a o b _=>some (a,o,b)
 |_=>none
def Je{e:Expr}{q:Expr×List CmpOp×List Expr}(h:NN e=some q):∃p,e=.Compare q.1 q.2.1 q.2.2 p:=by
 cases e with
 |Compare a o b p=>cases h;exact⟨_,rfl⟩
 |_=>exact fL h
noncomputable def N2:Expr->Option (UnaryOp×Expr)
 |.UnaryOp o a _=>some (o,a)
 |_=>none
def J7{e:Expr}{q:UnaryOp×Expr}(h:N2 e=some q):∃p,e=.UnaryOp q.1 q.2 p:=by
 cases e with
 |UnaryOp o a p=>cases h;exact⟨_,rfl⟩
 |_=>exact fL h
noncomputable def FR:UnaryOp->Bool
 |.Not=>true
 |_=>false
def zQ{o:UnaryOp}(h:FR o=true):o=.Not:=by
 cases o with
 |Not=>rfl
 |_=>exact bq h
noncomputable def isNeg:UnaryOp->Bool
 |.USub=>true
 |_=>false
def zX{o:UnaryOp}(h:isNeg o=true):o=.USub:=by
 cases o with
 |USub=>rfl
 |_=>exact bq h
noncomputable def vS:BoolOp->Bool
 |.And=>true
 |.Or=>false
def Bg{o:BoolOp}(h:vS o=true):o=.And:=by
 cases o with
 |And=>rfl
 |Or=>exact bq h
def Cg{o:BoolOp}(h:(!vS o)=true):o=.Or:=by
 cases o with
 |Or=>rfl
 |And=>exact bq h
noncomputable def N6:Expr->Option (BoolOp×List Expr×Pos)
 |.BoolOp o vs p=>some (o,vs,p)
 |_=>none
def JV{e:Expr}{q:BoolOp×List Expr×Pos}(h:N6 e=some q):e=.BoolOp q.1 q.2.1 q.2.2:=by
 cases e with
 |BoolOp o vs p=>cases h;rfl
 |_=>exact fL h
noncomputable def QL(o:BoolOp)(pos:Pos):List Expr->Option (Expr×Expr)
 |a::b::[]=>some (a,b)
 |a::b::c::r=>some (a,.BoolOp o (b::c::r) pos)
 |_=>none
def yF{o:BoolOp}{pos:Pos}{vs:List Expr}{q:Expr×Expr}(h:QL o pos vs=some q):vs=[q.1,q.2]\/∃b c r,vs=q.1::b::c::r/\q.2=.BoolOp o (b::c::r) pos:=by
 cases vs with
 |nil=>exact fL h
 |cons a vs=>
  cases vs with
  |nil=>exact fL h
  |cons b vs=>
   cases vs with
   |nil=>cases h;exact .inl rfl
   |cons c r=>cases h;exact .inr ⟨b,c,r,rfl,rfl⟩
noncomputable def RC:Expr->Option (Expr×Expr×Expr)
 |.IfExp c a b _=>some (c,a,b)
 |_=>none
def I0{e:Expr}{q:Expr×Expr×Expr}(h:RC e=some q):∃p,e=.IfExp q.1 q.2.1 q.2.2 p:=by
 cases e with
 |IfExp c a b p=>cases h;exact⟨_,rfl⟩
 |_=>exact fL h
noncomputable def Ry:Expr->Option (List Expr)
 |.List es _=>some es
 |_=>none
def yS{e:Expr}{es:List Expr}(h:Ry e=some es):∃p,e=.List es p:=by
 cases e with
 |List es p=>cases h;exact⟨_,rfl⟩
 |_=>exact fL h
noncomputable def Ki:Expr->Option (Option Expr×Option Expr×Option Expr)
 |.Slice a b c _=>some (a,b,c)
 |_=>none
def Ir{e:Expr}{q:Option Expr×Option Expr×Option Expr}(h:Ki e=some q):∃p,e=.Slice q.1 q.2.1 q.2.2 p:=by
 cases e with
 |Slice a b c p=>cases h;exact⟨_,rfl⟩
 |_=>exact fL h
noncomputable def Nw:Expr->Option (Expr×List Comprehension×Scope)
 |.ListComp e gs s _=>some (e,gs,s)
 |_=>none
def Hx{e:Expr}{q:Expr×List Comprehension×Scope}(h:Nw e=some q):∃p,e=.ListComp q.1 q.2.1 q.2.2 p:=by
 cases e with
 |ListComp e gs s p=>cases h;exact⟨_,rfl⟩
 |_=>exact fL h
noncomputable def t8(e:Expr):Option (Str×List Expr):=(Fy e).bind λq=>(gB q.1).bind λg=>if q.2.2.1.isEmpty=true then some (g,q.2.1) else none
def Gn{e:Expr}{q:Str×List Expr}(h:t8 e=some q):∃np p,e=.Call (.Name q.1 np) q.2 [] p:=by
 obtain⟨⟨f,a,k,p⟩,h1,h⟩:=uz h
 obtain⟨g,h2,h⟩:=uz h
 obtain⟨h3,rfl⟩:=if1 h
 obtain⟨np,z⟩:=eJ h2
 have z3:=Fb h3
 dsimp only at z z3;subst z z3;exact⟨np,p,j5 h1⟩
noncomputable def Ls:PV->Const->Bool
 |.ay,c=>QH c
 |.bl b,c=>(RL c).any λx=>b==x
 |.int i,c=>(Qi c).any λx=>i==x
 |.str z,c=>(sE c).any λx=>z==x
 |_,_=>false
noncomputable def RA:List Keyword->Option (Str×Expr)
 |[⟨some n,v,_⟩]=>some (n,v)
 |_=>none
def J8{ks:List Keyword}{q:Str×Expr}(h:RA ks=some q):∃p,ks=[⟨some q.1,q.2,p⟩]:=by
 cases ks with
 |nil=>exact fL h
 |cons k ks=>
  obtain⟨kn,kv,kp⟩:=k
  cases kn with
  |none=>exact fL h
  |some n=>
   cases ks with
   |cons _ _=>exact fL h
   |nil=>cases h;exact⟨_,rfl⟩
noncomputable def Sh:Expr->Option (Expr×Expr)
 |.Dict [some k] [v] _=>some (k,v)
 |_=>none
def GH{e:Expr}{q:Expr×Expr}(h:Sh e=some q):∃p,e=.Dict [some q.1] [q.2] p:=by
 cases e with
 |Dict ks vs p=>
  cases ks with
  |nil=>exact fL h
  |cons k ks=>
   cases k with
   |none=>exact fL h
   |some k=>
    cases ks with
    |cons _ _=>exact fL h
    |nil=>
     cases vs with
     |nil=>exact fL h
     |cons v vs=>
      cases vs with
      |cons _ _=>exact fL h
      |nil=>cases h;exact⟨_,rfl⟩
 |_=>exact fL h
noncomputable def FQ(p:Expr):Bool:=(Fy p).all λq=>!q.2.1.isEmpty
def aq{a b:Bool}(h:(a&&b)=true):a=true/\b=true:=Bool.and_eq_true_iff.mp h
def ah{α:Type}{o:Option α}{f:α->Bool}(h:o.any f=true):∃x,o=some x/\f x=true:=by
 cases o with
 |none=>cases h
 |some x=>exact⟨x,rfl,h⟩
theorem eg{α:Type}{l:List α}{f:α->Bool}(h:(dm l).any f=true):∃a,l=[a]/\f a=true:=let⟨a,e,h1⟩:=ah h;⟨a,eK e,h1⟩
theorem Cm{α:Type}{l:List α}{f:α×α->Bool}(h:(xi l).any f=true):∃a b,l=[a,b]/\f (a,b)=true:=let⟨q,e,h1⟩:=ah h;⟨q.1,q.2,E3 e,h1⟩
theorem KL{p:Expr}{f:Str->Bool}(h:(gB p).any f=true):∃x np,p=.Name x np/\f x=true:=let⟨x,e,h1⟩:=ah h;let⟨np,z⟩:=eJ e;⟨x,np,z,h1⟩
theorem Qa{p:Expr}{f:Const->Bool}(h:(Kx p).any f=true):∃x a b,p=.Constant x a b/\f x=true:=let⟨x,e,h1⟩:=ah h;let⟨a,b,z⟩:=Ba e;⟨x,a,b,z,h1⟩
theorem wd{p:Expr}{f:Str×List Expr->Bool}(h:(t8 p).any f=true):∃g as np pos,p=.Call (.Name g np) as [] pos/\f (g,as)=true:=let⟨q,e,h1⟩:=ah h;let⟨a,b,z⟩:=Gn e;⟨q.1,q.2,a,b,z,h1⟩
theorem Rw{p:Expr}{f:Expr×Expr->Bool}(h:(Ma p).any f=true):∃a b pos,p=.Subscript a b pos/\f (a,b)=true:=let⟨q,e,h1⟩:=ah h;let⟨x,z⟩:=zK e;⟨q.1,q.2,x,z,h1⟩
theorem TJ{p:Expr}{f:Option Expr×Option Expr×Option Expr->Bool}(h:(Ki p).any f=true):∃a b c pos,p=.Slice a b c pos/\f (a,b,c)=true:=let⟨q,e,h1⟩:=ah h;let⟨x,z⟩:=Ir e;⟨q.1,q.2.1,q.2.2,x,z,h1⟩
theorem Si{p:Expr}{f:UnaryOp×Expr->Bool}(h:(N2 p).any f=true):∃o a pos,p=.UnaryOp o a pos/\f (o,a)=true:=let⟨q,e,h1⟩:=ah h;let⟨x,z⟩:=J7 e;⟨q.1,q.2,x,z,h1⟩
theorem RG{p:Expr}{f:Expr×List CmpOp×List Expr->Bool}(h:(NN p).any f=true):∃a o b pos,p=.Compare a o b pos/\f (a,o,b)=true:=let⟨q,e,h1⟩:=ah h;let⟨x,z⟩:=Je e;⟨q.1,q.2.1,q.2.2,x,z,h1⟩
theorem NP{p:Expr}{f:Expr×List Comprehension×Scope->Bool}(h:(Nw p).any f=true):∃a g s pos,p=.ListComp a g s pos/\f (a,g,s)=true:=let⟨q,e,h1⟩:=ah h;let⟨x,z⟩:=Hx e;⟨q.1,q.2.1,q.2.2,x,z,h1⟩
theorem RB{p:Expr}{f:BoolOp×List Expr×Pos->Bool}(h:(N6 p).any f=true):∃o vs pos,p=.BoolOp o vs pos/\f (o,vs,pos)=true:=let⟨q,e,h1⟩:=ah h;⟨q.1,q.2.1,q.2.2,JV e,h1⟩
mutual
noncomputable def aO(Γ:Pg)(N:List Str)(sc:Scope):E->Expr->Bool
 |.var i,p=>(gB p).any λx=>N[i]?==some x&&eF sc x&&okN x
 |.ic i,p=>(gB p).any λx=>N[i]?==some x&&eF sc x&&okN x
 |.cst q,p=>(Kx p).any (Ls q)
 |.glob g p,e=>(gB e).any λx=>g==x&&eO sc x&&okN x&&Γ.gs.any λq=>q.1==g&&vF q.2 p
 |.call f as,p=>(t8 p).any λq=>f==q.1&&Γ.fs.contains q.1&&eO sc q.1&&okN q.1&&ke as&&gU Γ N sc as q.2
 |.blt b as,p=>(t8 p).any λq=>bN b==q.1&&eO sc q.1&&Γ.bs.contains q.1&&!isNil as&&gU Γ N sc as q.2
 |.ty t a,p=>(t8 p).any λq=>(xi q.2).any λr=>(gB r.2).any λtn=>q.1==("isinstance":Str)&&eO sc q.1&&Γ.bs.contains q.1&&tn==Str.ofString (ug t)&&eO sc tn&&Γ.bs.contains tn&&aO Γ N sc a r.1
 |.bin o a b,p=>(RH p).any λq=>decide (Qx o=q.2.1)&&aO Γ N sc a q.1&&aO Γ N sc b q.2.2
 |.cmp o a b,p=>(NN p).any λq=>(dm q.2.1).any λop=>(dm q.2.2).any λpb=>decide (qg o=op)&&aO Γ N sc a q.1&&aO Γ N sc b pb
 |.ch o1 o2 a b c,p=>(NN p).any λq=>(xi q.2.1).any λop=>(xi q.2.2).any λpb=>decide (qg o1=op.1)&&decide (qg o2=op.2)&&aO Γ N sc a q.1&&aO Γ N sc b pb.1&&aO Γ N sc c pb.2
 |.not a,p=>(N2 p).any λq=>FR q.1&&aO Γ N sc a q.2
 |.neg a,p=>(N2 p).any λq=>isNeg q.1&&aO Γ N sc a q.2
 |.and a b,p=>(N6 p).any λq=>(QL q.1 q.2.2 q.2.1).any λr=>vS q.1&&fv b&&aO Γ N sc a r.1&&aO Γ N sc b r.2
 |.or a b,p=>(N6 p).any λq=>(QL q.1 q.2.2 q.2.1).any λr=>!vS q.1&&fv b&&aO Γ N sc a r.1&&aO Γ N sc b r.2
 |.ite c a b,p=>(RC p).any λq=>eV c&&fv a&&fv b&&aO Γ N sc c q.1&&aO Γ N sc a q.2.1&&aO Γ N sc b q.2.2
 |.tup as,p=>(CI p).any λps=>ke as&&decide (fW as<1000)&&gU Γ N sc as ps
 |.lst as,p=>(Ry p).any λps=>ke as&&decide (fW as<1000)&&gU Γ N sc as ps
 |.sub a b,p=>(Ma p).any λq=>aO Γ N sc a q.1&&aO Γ N sc b q.2
 |.slice a lo hi,p=>(Ma p).any λq=>(Ki q.2).any λr=>r.2.2.isNone&&aO Γ N sc a q.1&&Iw Γ N sc lo r.1&&Iw Γ N sc hi r.2.1
 |.comp k cb tg it elt,p=>(Nw p).any λq=>(dm q.2.1).any λg=>g.ifs.isEmpty&&(vj N sc q.2.2 k cb (aF g.target)&&jW k tg&&fv elt&&wa Γ N sc g.target it g.iter&&fY (aF g.target++freeOf q.2.2) (cO q.2.2 sc) (kU q.2.2) tg g.target&&aO Γ.BQ (aF g.target++freeOf q.2.2) (cO q.2.2 sc) elt q.1&&decide (g.is_async=0))
 |.cA k cb tg it c elt,p=>(Nw p).any λq=>(dm q.2.1).any λg=>(dm g.ifs).any λpc=>eV c&&vj N sc q.2.2 k cb (aF g.target)&&jW k tg&&fv elt&&wa Γ N sc g.target it g.iter&&fY (aF g.target++freeOf q.2.2) (cO q.2.2 sc) (kU q.2.2) tg g.target&&aO Γ.BQ (aF g.target++freeOf q.2.2) (cO q.2.2 sc) c pc&&aO Γ.BQ (aF g.target++freeOf q.2.2) (cO q.2.2 sc) elt q.1&&decide (g.is_async=0)
 |.zM a,p=>(t8 p).any λq=>(dm q.2).any λz=>(t8 z).any λr=>(dm r.2).any λpa=>q.1==("list":Str)&&eO sc q.1&&Γ.bs.contains q.1&&r.1==("reversed":Str)&&eO sc r.1&&Γ.bs.contains r.1&&aO Γ N sc a pa
 |.xP a,p=>(t8 p).any λq=>(dm q.2).any λz=>(t8 z).any λr=>(dm r.2).any λpa=>q.1==("sorted":Str)&&eO sc q.1&&Γ.bs.contains q.1&&r.1==("set":Str)&&eO sc r.1&&Γ.bs.contains r.1&&aO Γ N sc a pa
 |.get a k,p=>(Fy p).any λq=>(Mb q.1).any λr=>(dm q.2.1).any λpk=>q.2.2.1.isEmpty&&r.2.1==("get":Str)&&r.2.2.endLine==q.2.2.2.line&&FQ r.1&&aO Γ N sc a r.1&&aO Γ N sc k pk
 |.maxD a n,p=>(Fy p).any λq=>(gB q.1).any λf=>(dm q.2.1).any λpa=>(RA q.2.2.1).any λr=>(Kx r.2).any λc=>f==("max":Str)&&eO sc f&&Γ.bs.contains f&&r.1==("default":Str)&&Qi c==some n&&aO Γ N sc a pa
 |.M3 n,p=>(Sh p).any λq=>(gB q.1).any λz=>(Kx q.2).any λc=>N[n]?==some z&&eF sc z&&okN z&&QH c
noncomputable def gU(Γ:Pg)(N:List Str)(sc:Scope):Es->List Expr->Bool
 |.nil,[]=>true
 |.cons e es,p::ps=>aO Γ N sc e p&&gU Γ N sc es ps
 |_,_=>false
noncomputable def Iw(Γ:Pg)(N:List Str)(sc:Scope):Oe->Option Expr->Bool
 |.no,none=>true
 |.some e,some p=>aO Γ N sc e p
 |_,_=>false
noncomputable def wa(Γ:Pg)(N:List Str)(sc:Scope)(tg:Expr):I->Expr->Bool
 |.seq e,p=>aO Γ N sc e p
 |.md e,p=>(t8 p).any λq=>(dm q.2).any λr=>q.1==("range":Str)&&eO sc q.1&&Γ.bs.contains q.1&&aO Γ N sc e r
 |.o7 a b,p=>(t8 p).any λq=>(xi q.2).any λr=>q.1==("range":Str)&&eO sc q.1&&Γ.bs.contains q.1&&aO Γ N sc a r.1&&aO Γ N sc b r.2
 |.enum e,p=>(t8 p).any λq=>(dm q.2).any λr=>isTup tg&&q.1==("enumerate":Str)&&eO sc q.1&&Γ.bs.contains q.1&&aO Γ N sc e r
 |.zip as,p=>(t8 p).any λq=>isTup tg&&q.1==("zip":Str)&&eO sc q.1&&Γ.bs.contains q.1&&ke as&&(fW as==2||fW as==3)&&gU Γ N sc as q.2
 |.tW e,p=>(t8 p).any λq=>(dm q.2).any λr=>q.1==("reversed":Str)&&eO sc q.1&&Γ.bs.contains q.1&&fv e&&aO Γ N sc e r
end
noncomputable def XE(W:Wd)(c:Str)(G1 H1:Hp):XK:=λCv ao H'=>∃C a G',Cv=.ref C/\ao=some a/\c∈W.xs/\W.mg c=some (.ref C)/\aD W G1 H1 G' H'
def sH(X:Cx)(W:Wd)(σ:St)(c:Str)(G H:Hp):Prop:=∀(aa:List (Addr×Obj)) (G1 H1:Hp) (s1:Shared) (e:Value) (s':Shared),Inv X aa σ H1 s1->aD W G H G1 H1->f6 X.prog X.w X.stack H1 s1 (XE W c G1 H1) e s'->X.xe e s'
def Out{α:Type}(X:Cx)(W:Wd)(r:Res α)(σ:St)(G H:Hp)(k:α->Prop):Prop:=match r with
 |.ok a=>k a
 |.exc c=>sH X W σ c G H
 |.bad=>False
section
variable{X:Cx}{W:Wd}{F:aN}{σ:St}{G H G1 H1:Hp}{α β:Type}
def sH.grow{c:Str}(h:sH X W σ c G H)(g:aD W G H G1 H1):sH X W σ c G1 H1:=λaa G2 H2 s1 e s' I g2 x=>h aa G2 H2 s1 e s' I (g.trans g2) x
def Out.grow{r:Res α}{k:α->Prop}(h:Out X W r σ G H k)(g:aD W G H G1 H1):Out X W r σ G1 H1 k:=by
 cases r with
 |ok a=>exact h
 |exc c=>exact sH.grow h g
 |bad=>exact h
def Out.imp{r:Res α}{k k':α->Prop}(h:Out X W r σ G H k)(i:∀a,k a->k' a):Out X W r σ G H k':=by
 cases r with
 |ok a=>exact i a h
 |exc c=>exact h
 |bad=>exact h
def Out.bind{r:Res α}{f:α->Res β}{k:β->Prop}(h:Out X W (r.bind f) σ G H k):Out X W r σ G H λa=>Out X W (f a) σ G H k:=by
 cases r with
 |ok a=>exact h
 |exc c=>exact h
 |bad=>exact h
def Out.val{r:Res α}{k:α->Prop}(h:Out X W r σ G H k)(n:∀c,r≠.exc c):∃a,r=.ok a/\k a:=by
 cases r with
 |ok a=>exact⟨a,rfl,h⟩
 |exc c=>exact absurd rfl (n c)
 |bad=>exact h.elim
structure Got(W:Wd)(H0 G H:Hp)(e:E)(p:PV)(v:V):Prop where
 top:Top W H0 G H p v
 rep:fv e=true->Rep W G p v
def Got.of{H0:Hp}{e:E}{p:PV}{v:V}(h:Rep W G p v):Got W H0 G H e p v:=⟨.inl h,λ_=>h⟩
noncomputable def tE(X:Cx)(W:Wd)(F:aN)(e:E):TE:=λσ H Q=>∃H0 G env,SR W H0 env σ G H/\Out X W (aA F e env) σ G H λp=>∀v G' H',aD W G H G' H'->Got W H0 G' H' e p v->Q v H'
noncomputable def tT(X:Cx)(W:Wd)(F:aN)(e:E):TT:=λσ H Q=>∃H0 G env,SR W H0 env σ G H/\Out X W (aA F e env) σ G H λp=>∃b,p=.bl b/\∀G' H',aD W G H G' H'->Q b H'
structure La(W:Wd)(H0 G H:Hp)(es:Es)(ps:List PV)(vs:List V):Prop where
 top:Paired (λv p=>Top W H0 G H p v) vs ps
 rep:ke es=true->ag W G ps vs
noncomputable def tA(X:Cx)(W:Wd)(F:aN)(es:Es):TA:=λσ H Q=>∃H0 G env,SR W H0 env σ G H/\Out X W (cT F es env) σ G H λps=>∀vs G' H',aD W G H G' H'->La W H0 G' H' es ps vs->Q vs H'
noncomputable def yk(X:Cx)(W:Wd)(F:aN)(o:Oe):TO:=λσ H Q=>∃H0 G env,SR W H0 env σ G H/\Out X W (vg F o env) σ G H λi=>∀G' H',aD W G H G' H'->Q i H'
def one{H0:Hp}{env:Sl}{e:E}{f:PV->Res β}{k:β->Prop}{Q:VK}(sr:SR W H0 env σ G H)(o:Out X W ((aA F e env).bind f) σ G H k)
 (h:∀p v G1 H1,aD W G H G1 H1->Got W H0 G1 H1 e p v->SR W H0 env σ G1 H1->Out X W (f p) σ G1 H1 k->Q v H1):tE X W F e σ H Q:=
 ⟨H0,G,env,sr,o.bind.imp λp hp v G1 H1 g t=>h p v G1 H1 g t (sr.grow g) (hp.grow g)⟩
def Ed{H0:Hp}{env:Sl}{e:E}{f:Bool->Res β}{k:β->Prop}{Q:Bool->Hp->Prop}(sr:SR W H0 env σ G H)(o:Out X W ((aA F e env).bind λp=>se p f) σ G H k)
 (h:∀b G1 H1,aD W G H G1 H1->SR W H0 env σ G1 H1->Out X W (f b) σ G1 H1 k->Q b H1):tT X W F e σ H Q:=by
 refine⟨H0,G,env,sr,o.bind.imp λp hp=>?_⟩
 cases p with
 |bl b=>exact⟨b,rfl,λG1 H1 g=>h b G1 H1 g (sr.grow g) (Out.grow hp g)⟩
 |ay=>exact zzk hp
 |int _=>exact zzk hp
 |str _=>exact zzk hp
 |tup _=>exact zzk hp
 |lst _=>exact zzk hp
 |exc _=>exact zzk hp
 |br _ _=>exact zzk hp
def args{H0:Hp}{env:Sl}{es:Es}{f:List PV->Res β}{k:β->Prop}{Q:List V->Hp->Prop}(sr:SR W H0 env σ G H)(o:Out X W ((cT F es env).bind f) σ G H k)
 (h:∀ps vs G1 H1,aD W G H G1 H1->La W H0 G1 H1 es ps vs->SR W H0 env σ G1 H1->Out X W (f ps) σ G1 H1 k->Q vs H1):tA X W F es σ H Q:=
 ⟨H0,G,env,sr,o.bind.imp λp hp v G1 H1 g t=>h p v G1 H1 g t (sr.grow g) (hp.grow g)⟩
def Got.grow{H0 G2 H2:Hp}{e:E}{p:PV}{v:V}(h:Got W H0 G H e p v)(g:aD W G H G2 H2):Got W H0 G2 H2 e p v:=⟨h.top.grow g,λz=>Rep.same g.g p (h.rep z)⟩
def Bd(W:Wd)(G:Hp):Option (Str×List Nat)->List PV->List V->Prop
 |none,as,vs=>ag W G as vs
 |some q,as,vs=>∃vv dI BU v,as=vv++dI/\vs=BU++[v]/\ag W G vv BU/\wZ W G q.1 q.2 dI v
noncomputable def Ah(W:Wd)(F:aN)(f:Str)(n:Nat)(q:Option (Str×List Nat)):Sp:=λvs H Q E=>vs.length=n/\∃G as,av G H/\cW W G H/\Bd W G q as vs/\(match F f as with
 |.ok p=>∀v G' H',aD W G H G' H'->Rep W G' p v->Q v H'
 |.exc c=>∀Cv ao H',XE W c G H Cv ao H'->E Cv ao H'
 |.bad=>False)
structure Ga(X:Cx)(W:Wd)(F:aN)(k:Nat)(f:Str):Prop where
 ex:∃fa fd ps,fR X.prog X.w X.K X.mg X.base (f6 X.prog X.w) k fa fd ps (Ah W F f ps.length none)/\X.mg f=some (.ref fa)/\PySem.W.keepIn X.K (.ref fa)=true/\Binds X.K fd ps []/\∀as,F f as≠.bad->as.length=ps.length
structure MJ(X:Cx)(W:Wd)(F:aN)(k:Nat)(q:Hs):Prop where
 ex:∃fa fd ps,fR X.prog X.w X.K X.mg X.base (f6 X.prog X.w) k fa fd ps (Ah W F q.f ps.length (some (q.g,q.idx)))/\X.mg q.h=some (.ref fa)/\PySem.W.keepIn X.K (.ref fa)=true/\Binds X.K fd ps []/\ps.length=q.np
structure dG(Γ:Pg)(F:aN)(W:Wd)(N:List Str)(sc:Scope)(k:Nat)(X:Cx):Prop where
 hN:X.N=N
 fe:X.env.scope=sc
 calm:X.calm=true
 nd:N.Nodup
 K:W.K=X.K
 mg:W.mg=X.mg
 gs:∀q∈Γ.gs,∃u v,X.mg q.1=some u/\RelV v u/\∀G,Rep W G q.2 v
 bs:∀g∈Γ.bs,X.mg g=none
 room:d8 (k+1) X.A
 fns:∀f,Γ.fs.contains f=true->Ga X W F k f
 Om:Γ.cs.contains "ValueError"=false
 cls:∀c∈Γ.cs,∃C,X.mg c=some (.ref C)
 xc:∀d∈W.xs,∀D,X.mg d=some (.ref D)->Gg X.K D/\(∀c∈Γ.cs,∀C,X.mg c=some (.ref C)->PySem.W.kitOne X.K (.ref D) (.ref C)=some (c==d||c=="FloorError"))/\PySem.W.kitOne X.K (.ref D) (.type "ValueError")=some true
 xT:∀q∈Γ.hs,MJ X W F k q
 any:∀g as,F g as≠.bad->Γ.fs.contains g=true\/gf g=true
 tb:Γ.hl=true->∃c P,X.env.code=.ref c/\PySem.W.CodeHd X.base c P/\(P,X.env.qual++"<lambda>")∈W.ts/\∀q',(P,q')∈W.ts->q'=X.env.qual++"<lambda>"
 bm:Γ.hl=true->Jz X.mg X.base
 fl:Γ.hl=true->∀x,X.fn x=true
variable{Γ:Pg}{N:List Str}{sc:Scope}{k:Nat}
def ou(C:dG Γ F W N sc k X){x:Str}(h:eF sc x=true):ND X.env.scope x:=by
 rw [C.fe];unfold eF e9 at h;simp! [zzt,zzy] at h;rcases h with(h|h)|h
 ·exact .inl h
 ·exact .inr (.inl h)
 ·exact .inr (.inr h)
def dg(C:dG Γ F W N sc k X){x:Str}(h:eO sc x=true):Gl X x:=by
 show X.env.scope.names.lookup x=_
 rw [C.fe];exact zzy.mp h
def fV{x:Str}(h:okN x=true):(x==("__debug__":Str))=false/\(x==("__classdict__":Str))=false/\x≠"__name__":=by
 unfold okN at h;simp! [zza,Bool.not_eq_true',beq_eq_false_iff_ne] at h;exact⟨beq_eq_false_iff_ne.mpr h.1.1,beq_eq_false_iff_ne.mpr h.1.2,h.2⟩
abbrev GE(X:Cx)(W:Wd)(F:aN)(e:E)(p:Expr):Prop:=PE X p (tE X W F e)
abbrev GT(X:Cx)(W:Wd)(F:aN)(e:E)(p:Expr):Prop:=PT X p (tT X W F e)
abbrev GW(X:Cx)(W:Wd)(F:aN)(e:E)(p:Expr):Prop:=PW X p (tT X W F e)
def _root_.L2.PE.imp{p:Expr}{t t':TE}(h:PE X p t)(i:∀σ H Q,t' σ H Q->t σ H Q):PE X p t':=λaa s σ H Q I hw=>h aa s σ H Q I (i σ H Q hw)
def _root_.L2.PT.imp{p:Expr}{t t':TT}(h:PT X p t)(i:∀σ H Q,t' σ H Q->t σ H Q):PT X p t':=λaa s σ H Q I hw=>h aa s σ H Q I (i σ H Q hw)
def _root_.L2.PW.imp{p:Expr}{t t':TT}(h:PW X p t)(i:∀σ H Q,t' σ H Q->t σ H Q):PW X p t':=λw aa s σ H Q I hw=>h w aa s σ H Q I (i σ H Q hw)
def _root_.L2.PA.imp{p:List Expr}{t t':TA}(h:PA X p t)(i:∀σ H Q,t' σ H Q->t σ H Q):PA X p t':=λpos aa s σ H Q I hw=>h pos aa s σ H Q I (i σ H Q hw)
def FL{e:E}(σ:St)(H:Hp)(Q:Bool->Hp->Prop)(h:tT X W F e σ H Q):tB (tE X W F e) σ H Q:=by
 obtain⟨H0,G,env,sr,o⟩:=h
 refine⟨H0,G,env,sr,o.imp λp hp v G' H' g t=>?_⟩
 obtain⟨b,rfl,q⟩:=hp
 exact⟨b,t.top.bl,q G' H' g⟩
def qx{e:E}(σ:St)(H:Hp)(Q:Bool->Hp->Prop)(h:tT X W F e σ H Q):Bb (tE X W F e) σ H Q:=FL σ H Q h
def HH(C:dG Γ F W N sc k X){i:Nat}{x:Str}{pos:Pos}(h:(N[i]?==some x&&eF sc x&&okN x)=true):GE X W F (.var i) (.Name x pos):=by
 simp! [zza,zzy] at h;obtain⟨h1,h2,h3⟩:=fV h.2
 refine(lD (i:=i) (by rw [C.hN];exact h.1.1) (ou C h.1.2) h1 h2).imp λσ H Q hq=>?_
 obtain⟨H0,G,env,sr,o⟩:=hq
 cases e:env[i]? with
 |none=>unfold aA at o;rw [e] at o;exact o.elim
 |some sl=>
  cases sl with
  |no=>unfold aA at o;rw [e] at o;exact o.elim
  |fn _ _ _=>unfold aA at o;rw [e] at o;exact o.elim
  |own p=>unfold aA at o;rw [e] at o;exact o.elim
  |val p=>
   unfold aA at o;rw [e] at o;obtain⟨o2,hs,v,rfl,r⟩:=sr.slot i _ e
   exact⟨v,hs,o v G H (.refl sr.sub) (.of r)⟩
def HB(C:dG Γ F W N sc k X){i:Nat}{x:Str}{pos:Pos}(h:(N[i]?==some x&&eF sc x&&okN x)=true):GE X W F (.ic i) (.Name x pos):=by
 simp! [zza,zzy] at h;obtain⟨h1,h2,h3⟩:=fV h.2
 refine(lD (i:=i) (by rw [C.hN];exact h.1.1) (ou C h.1.2) h1 h2).imp λσ H Q hq=>?_
 obtain⟨H0,G,env,sr,o⟩:=hq
 cases e:env[i]? with
 |none=>unfold aA at o;rw [e] at o;exact o.elim
 |some sl=>
  cases sl with
  |no=>unfold aA at o;rw [e] at o;exact o.elim
  |fn _ _ _=>unfold aA at o;rw [e] at o;exact o.elim
  |own p=>
   unfold aA at o;rw [e] at o;obtain⟨o2,hs,v,rfl,r⟩:=sr.slot i _ e
   exact⟨v,hs,o v G H (.refl sr.sub) ⟨.inr r,λz=>nomatch z⟩⟩
  |val p=>
   unfold aA at o;rw [e] at o;obtain⟨o2,hs,v,rfl,r⟩:=sr.slot i _ e
   exact⟨v,hs,o v G H (.refl sr.sub) (.of r)⟩
def ib{p:PV}{v:V}{e:Expr}(h:PE X e (tC v))(r:∀G,Rep W G p v):GE X W F (.cst p) e:=by
 refine L2.PE.imp h λσ H Q hq=>?_
 obtain⟨H0,G,env,sr,o⟩:=hq
 exact o v G H (.refl sr.sub) (.of (r G))
def EE(C:dG Γ F W N sc k X){g x:Str}{p:PV}{pos:Pos}(h:(g==x&&eO sc x&&okN x&&Γ.gs.any λq=>q.1==g&&vF q.2 p)=true):GE X W F (.glob g p) (.Name x pos):=by
 simp! [zza,zzy,zzj] at h;obtain⟨⟨⟨rfl,h2⟩,h3⟩,q,hq,e1,e2⟩:=h
 obtain⟨u,v,hm,rv,hr⟩:=C.gs q hq
 rw [e1] at hm;cases Am e2;refine(DV (dg C h2) hm rv (fV h3).1).imp λσ H Q hq=>?_
 obtain⟨H0,G,env,sr,o⟩:=hq
 exact o v G H (.refl sr.sub) (.of (hr G))
def Res.aM{α:Type}{o:Option α}(c:Str):Res.of o≠.exc c:=by cases o<;>exact λz=>nomatch z
def mZ{α β:Type}{o:Option α}{f:α->Res β}{c:Str}(h:∀a,f a≠.exc c):(Res.of o).bind f≠.exc c:=by
 cases o with
 |none=>exact λz=>nomatch z
 |some a=>exact h a
def mC{o:Kh}{p q:PV}(c:Str):binOp o p q≠.exc c:=by
 unfold binOp
 repeat' split
 all_goals exact λz=>nomatch z
def E2{p q:PV}(c:Str):iB p q≠.exc c:=by
 unfold iB
 (repeat' first|split|refine mZ λ_=>?_|exact Res.aM c|exact(λz=>nomatch z))
def B8{p q:PV}(c:Str):eX p q≠.exc c:=by
 unfold eX
 (repeat' first|split|refine mZ λ_=>?_|exact Res.aM c|exact(λz=>nomatch z))
def Dq{p q:PV}(c:Str):q0 p q≠.exc c:=by
 unfold q0
 (repeat' first|split|refine mZ λ_=>?_|exact Res.aM c|exact(λz=>nomatch z))
def E0{p q:PV}(c:Str):qZ p q≠.exc c:=by
 unfold qZ
 (repeat' first|split|refine mZ λ_=>?_|exact Res.aM c|exact(λz=>nomatch z))
def C5{p q:PV}(c:Str):uF p q≠.exc c:=by
 unfold uF
 (repeat' first|split|refine mZ λ_=>?_|exact Res.aM c|exact(λz=>nomatch z))
def CJ{p q:PV}(c:Str):qA p q≠.exc c:=by
 unfold qA
 (repeat' first|split|refine mZ λ_=>?_|exact Res.aM c|exact(λz=>nomatch z))
def Ey{p q:PV}(c:Str):pR p q≠.exc c:=by
 unfold pR
 (repeat' first|split|refine mZ λ_=>?_|exact Res.aM c|exact(λz=>nomatch z))
def Ae{p q:PV}(c:Str):ef p q≠.exc c:=by
 unfold ef
 (repeat' first|split|refine mZ λ_=>?_|exact Res.aM c|exact(λz=>nomatch z))
def ER{p q:PV}(c:Str):uC p q≠.exc c:=by
 unfold uC
 (repeat' first|split|refine mZ λ_=>?_|exact Res.aM c|exact(λz=>nomatch z))
def BF{p q:PV}(c:Str):f9 p q≠.exc c:=by
 unfold f9
 (repeat' first|split|refine mZ λ_=>?_|exact Res.aM c|exact(λz=>nomatch z))
def dc{o:zB}{p q:PV}(c:Str):cV o p q≠.exc c:=match o with
 |.eq=>E2 c|.ne=>B8 c|.lt=>Dq c|.le=>E0 c|.gt=>C5 c|.ge=>CJ c|.is=>Ey c|.vn=>Ae c|.Fp=>ER c|.yg=>BF c
def two{op:PV->PV->Res PV}{ea eb:E}{e:E}{σ:St}{H:Hp}{Q:VK}(hn:∀p q c,op p q≠.exc c)(he:∀env,aA F e env=(aA F ea env).bind λx=>(aA F eb env).bind λy=>op x y)
 (h:tE X W F e σ H Q):Mr (sF W op) (tE X W F ea) (tE X W F eb) σ H Q:=by
 obtain⟨H0,G,env,sr,o⟩:=h
 rw [he] at o;refine one sr o λp v G1 H1 g1 t1 aX o1=>one aX o1 λq u G2 H2 g2 t2 fT o2=>?_
 obtain⟨r,hr,kr⟩:=o2.val (hn p q)
 exact⟨H0,G2,p,q,r,fT.sub,t1.top.grow g2,t2.top,hr,λw G' H' g' gF=>kr w G' H' ((g1.trans g2).trans g') (.of gF)⟩
def HX(C:dG Γ F W N sc k X){o:Kh}{a b:E}{pa pb:Expr}{pos:Pos}(ha:GE X W F a pa)(hb:GE X W F b pb):GE X W F (.bin o a b) (.BinOp pa (Qx o) pb pos):=
 (LI (JM C.K o) ha hb).imp λσ H Q h=>two (λp q c=>mC c) (λenv=>by rw [aA]) h
def Jv(C:dG Γ F W N sc k X){o:zB}{a b:E}{pa pb:Expr}{pos:Pos}(ha:GE X W F a pa)(hb:GE X W F b pb)(hm:behindInMarks (qg o) pb=false):GE X W F (.cmp o a b) (.Compare pa [qg o] [pb] pos):=
 (Co (fM C.K C.room.units o) ha hb hm).imp λσ H Q h=>two (λp q c=>dc c) (λenv=>by rw [aA]) h
theorem Jl(C:dG Γ F W N sc k X){o:zB}{a b:E}{pa pb:Expr}{pos:Pos}(ha:GE X W F a pa)(hb:GE X W F b pb)(hm:behindInMarks (qg o) pb=false):GT X W F (.cmp o a b) (.Compare pa [qg o] [pb] pos):=
 (BX (fM C.K C.room.units o) ha hb hm).imp λσ H Q h=>by
  have h2:=qx σ H Q h
  exact two (λp q c=>dc c) (λenv=>by rw [aA]) h2
def Fo{c1 c2:zB}{a b c:E}(σ:St)(H:Hp)(Q:VK)(h:tE X W F (.ch c1 c2 a b c) σ H Q):ue (sF W (cV c1)) (sF W (cV c2)) (tE X W F a) (tE X W F b) (tE X W F c) σ H Q:=by
 obtain⟨H0,G,env,sr,o⟩:=h
 rw [aA] at o;refine one sr o λp v G1 H1 g1 t1 aX o1=>one aX o1 λq u G2 H2 g2 t2 fT o2=>?_
 obtain⟨r,hr,kr⟩:=o2.bind.val (dc)
 refine⟨H0,G2,p,q,r,fT.sub,t1.top.grow g2,t2.top,hr,λw G3 H3 g3 gF=>?_⟩
 cases r with
 |bl t=>
  simp! [Rep] at gF;subst gF;refine⟨t,rfl,?_⟩;cases t with
  |false=>
   rw [if_neg zzf];have QG:Out X W (Res.ok (PV.bl false)) σ G2 H2 _:=kr
   exact QG _ G3 H3 ((g1.trans g2).trans g3) (.of .b)
  |true=>
   rw [if_pos rfl];have QG:Out X W ((aA F c env).bind λz=>cV c2 q z) σ G2 H2 _:=kr
   refine one (fT.grow g3) (QG.grow g3) λz y G4 H4 g4 t4 J9 o4=>?_
   obtain⟨r4,hr4,kr4⟩:=o4.val (dc)
   exact⟨H0,G4,q,z,r4,J9.sub,t2.top.grow (g3.trans g4),t4.top,hr4,λw G5 H5 g5 Ut=>kr4 w G5 H5 ((((g1.trans g2).trans g3).trans g4).trans g5) (.of Ut)⟩
 |ay=>exact zzk kr
 |int _=>exact zzk kr
 |str _=>exact zzk kr
 |tup _=>exact zzk kr
 |lst _=>exact zzk kr
 |exc _=>exact zzk kr
 |br _ _=>exact zzk kr
def Lw(C:dG Γ F W N sc k X){o1 o2:zB}{a b c:E}{pa pb pc:Expr}{pos:Pos}(ha:GE X W F a pa)(hb:GE X W F b pb)(hc:GE X W F c pc)(hm:lastMarks [qg o1,qg o2] [pb,pc]=false):GE X W F (.ch o1 o2 a b c) (.Compare pa [qg o1,qg o2] [pb,pc] pos):=
 (zr (fM C.K C.room.units o1) (fM C.K C.room.units o2) ha hb hc hm).imp Fo
def L7(C:dG Γ F W N sc k X){o1 o2:zB}{a b c:E}{pa pb pc:Expr}{pos:Pos}(ha:GE X W F a pa)(hb:GE X W F b pb)(hc:GE X W F c pc)(hm:lastMarks [qg o1,qg o2] [pb,pc]=false):GT X W F (.ch o1 o2 a b c) (.Compare pa [qg o1,qg o2] [pb,pc] pos):=
 (Bk (fM C.K C.room.units o1) (fM C.K C.room.units o2) ha hb hc hm).imp λσ H Q h=>Fo σ H _ (qx σ H Q h)
theorem HN{a:E}{pa:Expr}{pos:Pos}(ha:GE X W F a pa):GE X W F (.neg a) (.UnaryOp .USub pa pos):=
 (KR (DO (W:=W)) ha).imp λσ H Q h=>by
  obtain⟨H0,G,env,sr,o⟩:=h
  rw [aA] at o;refine one sr o λp v G1 H1 g1 t1 aX o1=>?_
  cases p with
  |int i=>exact⟨H0,G1,i,aX.sub,t1.top,λw G' H' g' gF=>o1 w G' H' (g1.trans g') (.of gF)⟩
  |bl _=>exact zzk o1
  |ay=>exact zzk o1
  |str _=>exact zzk o1
  |tup _=>exact zzk o1
  |lst _=>exact zzk o1
  |exc _=>exact zzk o1
  |br _ _=>exact zzk o1
theorem Jn{a:E}{pa:Expr}{pos:Pos}(ha:GE X W F a pa):GE X W F (.not a) (.UnaryOp .Not pa pos):=
 (JT ha).imp λσ H Q h=>by
  obtain⟨H0,G,env,sr,o⟩:=h
  rw [aA] at o;refine one sr o λp v G1 H1 g1 t1 aX o1=>?_
  cases p with
  |bl b=>exact⟨b,t1.top.bl,o1 _ G1 H1 g1 (.of .b)⟩
  |int _=>exact zzk o1
  |ay=>exact zzk o1
  |str _=>exact zzk o1
  |tup _=>exact zzk o1
  |lst _=>exact zzk o1
  |exc _=>exact zzk o1
  |br _ _=>exact zzk o1
theorem JR{a:E}{pa:Expr}{pos:Pos}(ha:GT X W F a pa):GT X W F (.not a) (.UnaryOp .Not pa pos):=
 (JJ ha).imp λσ H Q h=>by
  obtain⟨H0,G,env,sr,o⟩:=h
  rw [aA] at o;refine Ed sr o λb G1 H1 g1 aX o1=>?_
  obtain⟨b',e,q⟩:=o1
  cases e;exact q G1 H1 g1
theorem Be{a b:E}{pa pb:Expr}{r:List Expr}{pos:Pos}(he:fv b=true)(ha:GE X W F a pa)(hb:GE X W F b (.BoolOp .And (pb::r) pos)):GE X W F (.and a b) (.BoolOp .And (pa::pb::r) pos):=
 (G6 ha hb).imp λσ H Q h=>by
  obtain⟨H0,G,env,sr,o⟩:=h
  rw [aA] at o;refine one sr o λp v G1 H1 g1 t1 aX o1=>?_
  cases p with
  |bl t=>
   refine⟨t,t1.top.bl,?_⟩;cases t with
   |true=>
    rw [if_pos rfl];have sR:Out X W (aA F b env) σ G1 H1 _:=o1
    exact⟨H0,G1,env,aX,sR.imp λp hp v G' H' g' t'=>hp v G' H' (g1.trans g') (.of (t'.rep he))⟩
   |false=>
    rw [if_neg zzf];have sR:Out X W (Res.ok (PV.bl false)) σ G1 H1 _:=o1
    exact sR _ G1 H1 g1 (.of .b)
  |int _=>exact zzk o1
  |ay=>exact zzk o1
  |str _=>exact zzk o1
  |tup _=>exact zzk o1
  |lst _=>exact zzk o1
  |exc _=>exact zzk o1
  |br _ _=>exact zzk o1
theorem FT{a b:E}{pa pb:Expr}{r:List Expr}{pos:Pos}(he:fv b=true)(ha:GE X W F a pa)(hb:GE X W F b (.BoolOp .Or (pb::r) pos)):GE X W F (.or a b) (.BoolOp .Or (pa::pb::r) pos):=
 (Lj ha hb).imp λσ H Q h=>by
  obtain⟨H0,G,env,sr,o⟩:=h
  rw [aA] at o;refine one sr o λp v G1 H1 g1 t1 aX o1=>?_
  cases p with
  |bl t=>
   refine⟨t,t1.top.bl,?_⟩;cases t with
   |false=>
    rw [if_neg zzf];have sR:Out X W (aA F b env) σ G1 H1 _:=o1
    exact⟨H0,G1,env,aX,sR.imp λp hp v G' H' g' t'=>hp v G' H' (g1.trans g') (.of (t'.rep he))⟩
   |true=>
    rw [if_pos rfl];have sR:Out X W (Res.ok (PV.bl true)) σ G1 H1 _:=o1
    exact sR _ G1 H1 g1 (.of .b)
  |int _=>exact zzk o1
  |ay=>exact zzk o1
  |str _=>exact zzk o1
  |tup _=>exact zzk o1
  |lst _=>exact zzk o1
  |exc _=>exact zzk o1
  |br _ _=>exact zzk o1
theorem AN{a b:E}{pa pb:Expr}{r:List Expr}{pos:Pos}(ha:GT X W F a pa)(hb:GW X W F b (.BoolOp .And (pb::r) pos)):GW X W F (.and a b) (.BoolOp .And (pa::pb::r) pos):=
 (pw_and ha hb).imp λσ H Q h=>by
  obtain⟨H0,G,env,sr,o⟩:=h
  rw [aA] at o;refine Ed sr o λt G1 H1 g1 aX o1=>?_
  cases t with
  |true=>
   rw [if_pos rfl];have sR:Out X W (aA F b env) σ G1 H1 _:=o1
   exact⟨H0,G1,env,aX,sR.imp λp hp=>by obtain⟨c,rfl,q⟩:=hp;exact⟨c,rfl,λG' H' g'=>q G' H' (g1.trans g')⟩⟩
  |false=>
   rw [if_neg zzf];obtain⟨c,e,q⟩:=(show Out X W (Res.ok (PV.bl false)) σ G1 H1 _ from o1)
   cases e;exact q G1 H1 g1
theorem FX{a b:E}{pa pb:Expr}{r:List Expr}{pos:Pos}(ha:GT X W F a pa)(hb:GW X W F b (.BoolOp .Or (pb::r) pos)):GW X W F (.or a b) (.BoolOp .Or (pa::pb::r) pos):=
 (pw_or ha hb).imp λσ H Q h=>by
  obtain⟨H0,G,env,sr,o⟩:=h
  rw [aA] at o;refine Ed sr o λt G1 H1 g1 aX o1=>?_
  cases t with
  |false=>
   rw [if_neg zzf];have sR:Out X W (aA F b env) σ G1 H1 _:=o1
   exact⟨H0,G1,env,aX,sR.imp λp hp=>by obtain⟨c,rfl,q⟩:=hp;exact⟨c,rfl,λG' H' g'=>q G' H' (g1.trans g')⟩⟩
  |true=>
   rw [if_pos rfl];obtain⟨c,e,q⟩:=(show Out X W (Res.ok (PV.bl true)) σ G1 H1 _ from o1)
   cases e;exact q G1 H1 g1
theorem IY{c a b:E}{pc pa pb:Expr}{pos:Pos}(Uz:fv a=true)(TV:fv b=true)(hc:GT X W F c pc)(ha:GE X W F a pa)(hb:GE X W F b pb):GE X W F (.ite c a b) (.IfExp pc pa pb pos):=
 (y6 hc ha hb).imp λσ H Q h=>by
  obtain⟨H0,G,env,sr,o⟩:=h
  rw [aA] at o;refine Ed sr o λt G1 H1 g1 aX o1=>?_
  cases t with
  |true=>
   rw [if_pos rfl];have sR:Out X W (aA F a env) σ G1 H1 _:=o1
   exact⟨H0,G1,env,aX,sR.imp λp hp v G' H' g' t'=>hp v G' H' (g1.trans g') (.of (t'.rep Uz))⟩
  |false=>
   rw [if_neg zzf];have sR:Out X W (aA F b env) σ G1 H1 _:=o1
   exact⟨H0,G1,env,aX,sR.imp λp hp v G' H' g' t'=>hp v G' H' (g1.trans g') (.of (t'.rep TV))⟩
noncomputable def tF(X:Cx)(W:Wd)(F:aN)(e:E):TE:=λσ H Q=>∃H0 G env,SR W H0 env σ G H/\Out X W (aA F e env) σ G H λp=>∃xs,p=.lst xs/\∀a vs G' H',aD W G H G' H'->H' a=none->ag W G' xs vs->Q (.ref a) (upd H' a (.lst vs))
abbrev GF(X:Cx)(W:Wd)(F:aN)(e:E)(p:Expr):Prop:=PE X p (tF X W F e)
theorem GF.ge{e:E}{p:Expr}(h:GF X W F e p)(hl:∀env q,aA F e env=.ok q->∃xs,q=.lst xs):GE X W F e p:=
 L2.PE.imp h λσ H Q hq=>by
  obtain⟨H0,G,env,sr,o⟩:=hq
  refine⟨H0,G,env,sr,?_⟩;cases r:aA F e env with
  |bad=>rw [r] at o;exact o
  |exc c=>rw [r] at o;exact o
  |ok q=>
   rw [r] at o;obtain⟨xs,rfl⟩:=hl env q r
   exact⟨xs,rfl,λa vs G' H' g ha l=>o _ _ _ (g.trans (.new g.sub ha)) (.of (.l (.inl (.inl ak)) (ag.same (aW (g.sub.free ha)) xs l)))⟩
def notStar{e:E}{p:Expr}(h:aO Γ N sc e p=true):∀env ps,starEach (p::ps) env=(false,eval p env)::starEach ps env:=by
 intro env ps;cases p<;>first|rfl|(cases e<;>first|(exact bq h)|(rename_i q;cases q<;>exact bq h))
theorem eP:∀{es:Es} {ps:List Expr},gU Γ N sc es ps=true->∀env pos,(backTo pos (starEach ps env)).any (·.1)=false
 |.nil,[],_,_,_=>rfl
 |.cons e es,p::ps,h,env,pos=>by
  replace h:=aq h
  rw [notStar h.1];show(false||(backTo pos (starEach ps env)).any (·.1))=false
  rw [eP h.2]
  rfl
 |.nil,_::_,h,_,_=>bq h
 |.cons _ _,[],h,_,_=>bq h
abbrev GA(X:Cx)(W:Wd)(F:aN)(es:Es)(ps:List Expr):Prop:=PA X ps (tA X W F es)
theorem Gy:GA X W F .nil []:=L2.PA.imp cw λσ H Q h=>by
 obtain⟨H0,G,env,sr,o⟩:=h
 rw [cT] at o;exact o [] G H (.refl sr.sub) ⟨.nil,λ_=>.nil⟩
theorem CD{e:E}{es:Es}{p:Expr}{ps:List Expr}(he:GE X W F e p)(hs:GA X W F es ps)(cx:starEach (p::ps) X.env=(false,eval p X.env)::starEach ps X.env):GA X W F (.cons e es) (p::ps):=
 L2.PA.imp (bp he hs cx) λσ H Q h=>by
  obtain⟨H0,G,env,sr,o⟩:=h
  rw [cT] at o;refine one sr o λq v G1 H1 g1 t1 aX o1=>args aX o1 λqs vs G2 H2 g2 t2 fT o2=>?_
  refine o2 (v::vs) G2 H2 (g1.trans g2) ⟨.cons (t1.top.grow g2) t2.top,λz=>?_⟩
  unfold ke at z;rw [zza] at z;exact .cons (Rep.same g2.g q (t1.rep z.1)) (t2.rep z.2)
theorem gP:∀{es:Es} {env:Sl} {ps:List PV},cT F es env=.ok ps->ps.length=fW es
 |.nil,env,ps,h=>by rw [cT] at h;cases h;rfl
 |.cons e es,env,ps,h=>by
  rw [cT] at h;obtain⟨p,_,h⟩:=Res.aY h
  obtain⟨qs,hq,h⟩:=Res.aY h
  cases h;rw [zzL,gP hq]
  rfl
theorem F3{es:Es}{ps:List Expr}{x1:Nat}{pos:Pos}(EN:ke es=true)(hl:fW es<1000)(h:GA X W F es ps):GE X W F (.tup es) (.Tuple ps x1 pos):=
 L2.PE.imp (HL h) λσ H Q hq=>by
  obtain⟨H0,G,env,sr,o⟩:=hq
  rw [aA] at o;have o':=o
  refine⟨H0,G,env,sr,?_⟩;cases r:cT F es env with
  |bad=>rw [r] at o;exact o
  |exc c=>rw [r] at o;exact o
  |ok qs=>
   rw [r] at o;have hlen:=gP r
   intro vs G1 H1 g1 t;have l:=t.rep EN
   refine⟨by rw [l.length,hlen];exact Nat.le_of_lt (Nat.lt_trans hl (by decide)),λp hp=>?_⟩
   exact o _ _ _ (g1.trans (.new g1.sub hp)) (.of (.t (.inl ak) (ag.same (aW (g1.sub.free hp)) qs l)))
theorem zq{es:Es}{ps:List Expr}{pos:Pos}(EN:ke es=true)(hl:fW es<1000)(h:GA X W F es ps):GF X W F (.lst es) (.List ps pos):=
 L2.PE.imp (JH h) λσ H Q hq=>by
  obtain⟨H0,G,env,sr,o⟩:=hq
  rw [aA] at o;refine⟨H0,G,env,sr,?_⟩;cases r:cT F es env with
  |bad=>rw [r] at o;exact o
  |exc c=>rw [r] at o;exact o
  |ok qs=>
   rw [r] at o;have hlen:=gP r
   obtain⟨xs,e,o⟩:=o
   cases e;intro vs G1 H1 g1 t;have l:=t.rep EN
   exact⟨by rw [l.length,hlen];exact Nat.le_of_lt (Nat.lt_trans hl (by decide)),λp hp=>o p vs G1 H1 g1 hp l⟩
theorem lst_is{es:Es}:∀env q,aA F (.lst es) env=.ok q->∃xs,q=.lst xs:=λenv q h=>by
 rw [aA] at h;obtain⟨ps,_,h⟩:=Res.aY h
 cases h;exact⟨_,rfl⟩
def w5{p q:PV}(c:Str):aE p q≠.exc c:=by
 unfold aE
 (repeat' first|split|refine mZ λ_=>?_|exact Res.aM c|exact(λz=>nomatch z))
def Jt(C:dG Γ F W N sc k X){a b:E}{pa pb:Expr}{pos:Pos}(ha:GE X W F a pa)(hb:GE X W F b pb)(hs:oh pb):GE X W F (.sub a b) (.Subscript pa pb pos):=
 (Mk (OH C.K C.room.units) ha hb hs).imp λσ H Q h=>two (λp q c=>w5 c) (λenv=>by rw [aA]) h
def yu{e:E}{p:Expr}(h:aO Γ N sc e p=true):oh p:=by
 intro o i;cases p<;>first|rfl|(cases e<;>first|(exact bq h)|(rename_i q;cases q<;>exact bq h))
def oG{e:E}{p:Expr}(h:aO Γ N sc e p=true)(op:CmpOp):behindInMarks op p=false:=by
 cases p<;>first|rfl|(cases e<;>first|(exact bq h)|(rename_i q;cases q<;>exact bq h))
theorem EJ:PO X none (yk X W F .no):=λaa s σ H Q I h=>B9 aa s σ H Q I (by
 obtain⟨H0,G,env,sr,o⟩:=h
 rw [vg] at o;exact o G H (.refl sr.sub))
theorem Cu{e:E}{p:Expr}(h:GE X W F e p):PO X (some p) (yk X W F (.some e)):=λaa s σ H Q I hq=>Dd h aa s σ H Q I (by
 obtain⟨H0,G,env,sr,o⟩:=hq
 rw [vg] at o;refine one sr o λq v G1 H1 g1 t1 aX o1=>?_
 cases q with
 |int i=>exact⟨i,t1.top.int,o1 G1 H1 g1⟩
 |bl _=>exact zzk o1
 |ay=>exact zzk o1
 |str _=>exact zzk o1
 |tup _=>exact zzk o1
 |lst _=>exact zzk o1
 |exc _=>exact zzk o1
 |br _ _=>exact zzk o1)
def rh{p:PV}{lo hi:Option Int}(c:Str):du p lo hi≠.exc c:=by
 unfold du
 (repeat' first|split|refine mZ λ_=>?_|exact Res.aM c|exact(λz=>nomatch z))
theorem yY(C:dG Γ F W N sc k X){a:E}{lo hi:Oe}{pa:Expr}{pl ph:Option Expr}{p2 pos:Pos}(ha:GE X W F a pa)(hl:PO X pl (yk X W F lo))(hh:PO X ph (yk X W F hi)):GE X W F (.slice a lo hi) (.Subscript pa (.Slice pl ph none p2) pos):=
 (Bl (OP C.K) ha hl hh).imp λσ H Q h=>by
  obtain⟨H0,G,env,sr,o⟩:=h
  rw [aA] at o;refine one sr o λp v G1 H1 g1 t1 aX o1=>?_
  refine⟨H0,G1,env,aX,o1.bind.imp λl qi G2 H2 g2=>?_⟩
  refine⟨H0,G2,env,aX.grow g2,(qi.grow g2).bind.imp λh' UO G3 H3 g3=>?_⟩
  obtain⟨r,hr,kr⟩:=(UO.grow g3).val (λc=>rh c)
  exact⟨H0,G3,p,r,((aX.grow g2).grow g3).sub,t1.top.grow (g2.trans g3),hr,λw G' H' g' gF=>kr w G' H' (((g1.trans g2).trans g3).trans g') (.of gF)⟩
def CF{CX:x9}{f:Addr}{fd:FuncData}{ps:List Str}{sp:Sp}{E:XK}{aa:List (Addr×Obj)}{σ:St}{H:Hp}{s:Shared}{Q:VK}{us:List Value}{vs:List V}(FO:fR X.prog X.w X.K X.mg X.base CX k f fd ps sp)(hr:d8 k X.A)(hb:Binds X.K fd ps [])
 (hx:∀e s',CX X.stack H s E e s'->X.xe e s') (I:Inv X aa σ H s) (r:Vals vs us) (h:sp vs H Q E):wpAny (model X.prog X.w) X.A (call (.ref f) us) (EP X aa σ Q) X.xe s:=by
 have hl:us.length=ps.length:=by rw [<-r.length];exact FO.len _ _ _ _ h
 have iJ:=hb s us I.vc (by rw [zz6];exact hl)
 rw [zz6] at iJ;refine wpAny_call (codeAny_mono (FO.run X.A X.stack s H ⟨us,[]⟩ us vs Q E hr I.Jx iJ r h) λr s' hq=>?_)
 cases r with
 |error e=>exact hx e s' hq
 |ok fl=>
  cases fl with
  |ret u=>exact I.after hq
  |next=>exact zzk hq
  |brk=>exact zzk hq
  |cont=>exact zzk hq
def Kv.imp{P:Program}{w:World}{outer:List Env}{H:Hp}{s s':Shared}{E E':XK}{e:Value}(h:f6 P w outer H s E e s')(i:∀C a H',E C a H'->E' C a H'):f6 P w outer H s E' e s':=by
 obtain⟨a,C,t,vs,H',B,rfl,F⟩:=h
 exact⟨a,C,t,vs,H',B,rfl,⟨F.os,F.bare,F.bj,F.Od,F.tn,F.tup,F.iQ,F.fi,F.un,i _ _ _ F.ends⟩⟩
def si(hr:d8 k X.A){f:Str}{fa:Addr}{fd:FuncData}{pn:List Str}{q:Option (Str×List Nat)}{aa:List (Addr×Obj)}{σ:St}{G H:Hp}{s:Shared}{Q:VK}{us:List Value}{vs:List V}{as:List PV}
 (FO:fR X.prog X.w X.K X.mg X.base (f6 X.prog X.w) k fa fd pn (Ah W F f pn.length q)) (hb:Binds X.K fd pn []) (hlen:F f as≠.bad->vs.length=pn.length)
 (I:Inv X aa σ H s) (sg:av G H) (tb:cW W G H) (l:Bd W G q as vs) (r:Vals vs us) (o:Out X W (F f as) σ G H λp=>dq W G H p Q):wpAny (model X.prog X.w) X.A (call (.ref fa) us) (EP X aa σ Q) X.xe s:=by
 have OB:F f as≠.bad:=λz=>by rw [z] at o;exact o
 refine CF (E:=λCv ao H'=>∃c,F f as=.exc c/\XE W c G H Cv ao H') FO hr hb (λe s' x=>?_) I r ⟨hlen OB,G,as,sg,tb,l,?_⟩
 ·cases z:F f as with
  |ok q=>
   obtain⟨a,C',t,vs,H',B,rfl,Fl⟩:=x
   obtain⟨c,e1,_⟩:=Fl.ends
   rw [z] at e1;cases e1
  |exc c=>
   rw [z] at o;refine o aa G H s e s' I (.refl sg) (Kv.imp x λC1 a H' y=>?_);obtain⟨c',e1,y⟩:=y
   rw [z] at e1;cases e1;exact y
  |bad=>exact absurd z OB
 ·cases z:F f as with
  |ok q=>
   rw [z] at o;exact λv G' H' g' rp=>o v G' H' g' rp
  |exc c=>exact λCv ao H' x=>⟨c,rfl,x⟩
  |bad=>exact absurd z OB
def dG.rm(C:dG Γ F W N sc k X):d8 k X.A:=C.room.mono (Nat.le_succ k)
def Eb(C:dG Γ F W N sc k X){f:Str}{e:E}{es:Es}{p:Expr}{ps:List Expr}{np pos:Pos}(hf:Γ.fs.contains f=true)(hg:eO sc f=true)(ho:okN f=true)(EN:ke (.cons e es)=true)(ha:GA X W F (.cons e es) (p::ps))
 (cx:starEach (p::ps) X.env=(false,eval p X.env)::starEach ps X.env) (hpl:(backTo pos (starEach ps X.env)).any (·.1)=false):GE X W F (.call f (.cons e es)) (.Call (.Name f np) (p::ps) [] pos):=by
 intro aa s σ H Q I h;obtain⟨H0,G,env,sr,o⟩:=h
 rw [aA] at o;obtain⟨fa,fd,pn,FO,hm,hk,hb,hlen⟩:=(C.fns f hf).ex
 refine wpAny_Call_Name_kw (jb I (dg C hg) hm ?_ (fV ho).1);refine PySem.W.callWith_K (h₀:=X.base) I.ok.mod.PB hk (bA (ha pos aa s σ H (λvs H1=>∃G1 as,av G1 H1/\cW W G1 H1/\ag W G1 as vs/\Out X W (F f as) σ G1 H1 λp=>dq W G1 H1 p Q) I ?_) λus s1 ⟨vs,H1,I1,r,q⟩=>⟨I1.vc,?_⟩) cx hpl
 ·refine args sr o λas vs G1 H1 g1 t aX o1=>⟨G1,as,aX.sub,aX.tab,t.rep EN,o1.imp λp hp v G' H' g' rp=>hp v G' H' (g1.trans g') (.of rp)⟩
 ·obtain⟨G1,as,sg,tb,l,o1⟩:=q
  exact si C.rm FO hb (λz=>by rw [l.length];exact hlen as z) I1 sg tb l r o1
def Ar(C:dG Γ F W N sc k X){f:Str}{np pos:Pos}(hf:Γ.fs.contains f=true)(hg:eO sc f=true)(ho:okN f=true):GE X W F (.call f .nil) (.Call (.Name f np) [] [] pos):=by
 intro aa s σ H Q I h;obtain⟨H0,G,env,sr,o⟩:=h
 rw [aA,cT] at o;obtain⟨fa,fd,pn,FO,hm,hk,hb,hlen⟩:=(C.fns f hf).ex
 refine wpAny_Call_Name_kw (jb I (dg C hg) hm ?_ (fV ho).1);refine PySem.W.callWith_K0 I.vc hk ?_;have o':Out X W (F f []) σ G H λp=>∀v G' H',aD W G H G' H'->Got W H0 G' H' (.call f .nil) p v->Q v H':=o
 exact si (us:=[]) (vs:=[]) (as:=[]) (q:=none) C.rm FO hb (λz=>hlen [] z) I sr.sub sr.tab (show ag W G [] [] from .nil) .nil (o'.imp λp hp v G' H' g' rp=>hp v G' H' g' (.of rp))
def CL{ps:List PV}(c:Str):uk ps≠.exc c:=by
 unfold uk
 (repeat' first|split|refine mZ λ_=>?_|exact Res.aM c|exact(λz=>nomatch z))
def Ex{ps:List PV}(c:Str):A7 ps≠.exc c:=by
 unfold A7
 (repeat' first|split|refine mZ λ_=>?_|exact Res.aM c|exact(λz=>nomatch z))
def B1{ps:List PV}(c:Str):zg ps≠.exc c:=by
 unfold zg
 (repeat' first|split|refine mZ λ_=>?_|exact Res.aM c|exact(λz=>nomatch z))
def CA{ps:List PV}(c:Str):zD ps≠.exc c:=by
 unfold zD
 (repeat' first|split|refine mZ λ_=>?_|exact Res.aM c|exact(λz=>nomatch z))
def Dv{ps:List PV}(c:Str):zF ps≠.exc c:=by
 unfold zF
 (repeat' first|split|refine mZ λ_=>?_|exact Res.aM c|exact(λz=>nomatch z))
def Dz{ps:List PV}(c:Str):zP ps≠.exc c:=by
 unfold zP
 (repeat' first|split|refine mZ λ_=>?_|exact Res.aM c|exact(λz=>nomatch z))
def wb{ps:List PV}(c:Str):kF ps≠.exc c:=by
 unfold kF
 (repeat' first|split|refine mZ λ_=>?_|exact Res.aM c|exact(λz=>nomatch z))
def AQ{ps:List PV}(c:Str):nL ps≠.exc c:=by
 unfold nL
 (repeat' first|split|refine mZ λ_=>?_|exact Res.aM c|exact(λz=>nomatch z))
def wy{b:B}{ps:List PV}(c:Str):cH b ps≠.exc c:=match b with
 |.len=>CL c|.abs=>Ex c|.max2=>B1 c|.min2=>CA c|.int=>Dv c|.str=>Dz c|.tuple=>wb c|.dict=>AQ c
def Ic(C:dG Γ F W N sc k X)(b:B){e:Expr}{es:List Expr}{t:TA}{np pos:Pos}(hg:eO sc (bN b)=true)(hm:Γ.bs.contains (bN b)=true)(ha:PA X (e::es) t)
 (he:starEach (e::es) X.env=(false,eval e X.env)::starEach es X.env) (hpl:(backTo pos (starEach es X.env)).any (·.1)=false):PE X (.Call (.Name (bN b) np) (e::es) [] pos) (NK (BP W (cH b)) t):=by
 have p7:=C.bs _ (zzn.mp hm)
 have tH:=dg C hg
 cases b
 case len=>exact dZ (xr C.K) tH p7 PySem.boot_len ha (he:=he) (hpl:=hpl)
 case abs=>exact dZ wu tH p7 (by decide+kernel) ha (he:=he) (hpl:=hpl)
 case max2=>exact dZ (xN C.calm) tH p7 (by decide+kernel) ha (he:=he) (hpl:=hpl)
 case min2=>exact dZ (xw C.calm) tH p7 (by decide+kernel) ha (he:=he) (hpl:=hpl)
 case int=>exact dy wY tH p7 (by decide+kernel) ha (he:=he) (hpl:=hpl)
 case str=>exact dy xF tH p7 (by decide+kernel) ha (he:=he) (hpl:=hpl)
 case tuple=>exact dy (rC C.K) tH p7 (by decide+kernel) ha (he:=he) (hpl:=hpl)
 case dict=>exact dy (qE C.K C.calm C.room.units) tH p7 (by decide+kernel) ha (he:=he) (hpl:=hpl)
def HJ{op:List PV->Res PV}{es:Es}{e:E}{σ:St}{H:Hp}{Q:VK}(hn:∀ps c,op ps≠.exc c)(he:∀env,aA F e env=(cT F es env).bind λps=>op ps)(h:tE X W F e σ H Q):NK (BP W op) (tA X W F es) σ H Q:=by
 obtain⟨H0,G,env,sr,o⟩:=h
 rw [he] at o;refine args sr o λps vs G1 H1 g1 t aX o1=>?_
 obtain⟨r,hr,kr⟩:=o1.val (hn ps)
 exact⟨H0,G1,ps,r,aX.sub,t.top,hr,λw G' H' g' gF=>kr w G' H' (g1.trans g') (.of gF)⟩
def Gh(C:dG Γ F W N sc k X)(b:B){es:Es}{e:Expr}{ps:List Expr}{np pos:Pos}(hg:eO sc (bN b)=true)(hm:Γ.bs.contains (bN b)=true)(ha:GA X W F es (e::ps))
 (he:starEach (e::ps) X.env=(false,eval e X.env)::starEach ps X.env) (hpl:(backTo pos (starEach ps X.env)).any (·.1)=false):GE X W F (.blt b es) (.Call (.Name (bN b) np) (e::ps) [] pos):=
 (Ic C b hg hm ha he hpl).imp λσ H Q h=>HJ (λps c=>wy c) (λenv=>by rw [aA]) h
def An{t:Ty}{p:PV}(c:Str):iT t p≠.exc c:=by
 cases p<;>exact λz=>nomatch z
def Ib(C:dG Γ F W N sc k X)(t:Ty){pos:Pos}(hg:eO sc (Str.ofString (ug t))=true)(hm:Γ.bs.contains (Str.ofString (ug t))=true):PE X (.Name (Str.ofString (ug t)) pos) (tC (.ty (ug t))):=by
 have p7:=C.bs _ (zzn.mp hm)
 have tH:=dg C hg
 cases t
 all_goals exact CB tH p7 (u:=.type _) (by decide+kernel) rfl (by decide+kernel) (by decide+kernel)
def Np(C:dG Γ F W N sc k X){t:Ty}{a:E}{pa:Expr}{np tp pos:Pos}(hi:eO sc "isinstance"=true)(hb:Γ.bs.contains "isinstance"=true)(hg:eO sc (Str.ofString (ug t))=true)(hm:Γ.bs.contains (Str.ofString (ug t))=true)(ha:GE X W F a pa)
 (cx:∀env ps,starEach (pa::ps) env=(false,eval pa env)::starEach ps env):GE X W F (.ty t a) (.Call (.Name "isinstance" np) [pa,.Name (Str.ofString (ug t)) tp] [] pos):=by
 refine(dZ (Ab C.K t) (dg C hi) (C.bs _ (zzn.mp hb)) (by decide+kernel) (bp ha (bp (Ib C t hg hm) cw) (cx _ _)) (he:=cx _ _)).imp λσ H Q h=>?_
 obtain⟨H0,G,env,sr,o⟩:=h
 rw [aA] at o;refine one sr o λp v G1 H1 g1 t1 aX o1=>?_
 obtain⟨r,hr,kr⟩:=o1.val (λc=>An c)
 exact⟨v,H0,G1,p,r,rfl,aX.sub,t1.top,hr,λw G' H' g' gF=>kr w G' H' (g1.trans g') (.of gF)⟩
def SR.set{H0 G H:Hp}{env:Sl}{σ:St}{p:PV}{v:V}(i:Nat)(r:SR W H0 env σ G H)(h:Rep W G p v):SR W H0 (env.set i (.val p)) (σ.set i (some v)) G H where
 len:=by simpa using r.len
 sub:=r.sub
 tab:=r.tab
 l8:=r.l8
 base:=r.base
 slot:=λj s e=>by
  by_cases hj:i=j
  ·subst hj;have bX:i<env.length:=by
    have:=(zzH.mp e).1
    simpa using this
   rw [zzo bX] at e;cases e;exact⟨some v,zzo (by rw [<-r.len];exact bX),v,rfl,h⟩
  ·rw [zzS hj] at e;obtain⟨o,h1,h2⟩:=r.slot j s e
   exact⟨o,by rw [zzS hj];exact h1,h2⟩
 apart:=λa b q q' ad e1 e2 e3 e4=>by
  have ne:∀{c:Nat} {q:PV},(env.set i (.val p))[c]?=some (.own q)->i≠c:=λ{c q} e z=>by
   subst z;have bX:i<env.length:=by
    have:=(zzH.mp e).1
    simpa using this
   rw [zzo bX] at e;cases e
  have n1:=ne e1
  have n2:=ne e2
  rw [zzS n1] at e1 e3;rw [zzS n2] at e2 e4;exact r.apart a b q q' ad e1 e2 e3 e4
noncomputable def gT(K:zz8):Tg->TG
 |.one i=>fD i
 |.two i j=>KQ K 2 (vP (fD i) (vP (fD j) HG))
def sP{K:zz8}(hK:W.K=K){tg:Tg}{H0 G H:Hp}{env af:Sl}{σ:St}{p:PV}{v:V}{Q:St->Hp->Prop}(e:Tg.put tg p env=.ok af)(r:SR W H0 env σ G H)(h:Rep W G p v)(hq:∀σ',SR W H0 af σ' G H->Q σ' H):gT K tg v σ H Q:=by
 unfold Tg.put at e;split at e
 ·cases e;exact hq _ (r.set _ h)
 ·cases e;simp! [Rep] at h;obtain⟨a,vs,rfl,sq,l⟩:=h
  obtain⟨v1,r1,rfl,h1,l⟩:=l.aZ
  obtain⟨v2,r2,rfl,h2,l⟩:=l.aZ
  simp! [ag] at l;subst l;rw [hK] at sq;exact⟨a,_,rfl,av.tup r.sub sq.sq,rfl,_,_,rfl,_,_,rfl,rfl,hq _ ((r.set _ h1).set _ h2)⟩
 ·cases e
def ym{x:Str}(fe:X.env.scope=sc)(h:e9 sc x=true):Loc X.env.scope x:=by
 rw [fe];unfold e9 at h;simp! [zzt,zzy] at h;exact h
def FJ{fn:Str->Bool}{i:Nat}{p:Expr}(hN:X.N=N)(nd:N.Nodup)(fe:X.env.scope=sc)(vd:∀x,fn x=true->X.fn x=true)(h:Oz N sc fn i p=true):PG X p (fD i)/\∃x q,p=.Name x q:=by
 obtain⟨x,hx,h2⟩:=ah h
 obtain⟨q,rfl⟩:=eJ hx
 simp! [zza,zzy,zzt] at h2;refine⟨Dm (by rw [hN];exact nd) (by rw [hN];exact h2.1.1) (ym fe h2.1.2) ?_,x,q,rfl⟩;rcases h2.2 with z|z
 ·exact .inl (vd x z)
 ·exact .inr (by rw [fe];exact z)
noncomputable def Rn:List Nat->BM
 |[]=>HG
 |i::is=>vP (fD i) (Rn is)
theorem ub{fn:Str->Bool}(hN:X.N=N)(nd:N.Nodup)(fe:X.env.scope=sc)(vd:∀x,fn x=true->X.fn x=true):∀(is:List Nat) (es:List Expr),EG N sc fn is es=true->Kp X es (Rn is)/\(assignEach es X.env).length=is.length/\(assignEach es X.env).findIdx? (·.1)=none
 |[],[],_=>⟨DC,rfl,rfl⟩
 |i::is,a::as,h=>by
  have h:=aq h
  obtain⟨g1,x,p,rfl⟩:=FJ hN nd fe vd h.1
  obtain⟨g,l,f⟩:=ub hN nd fe vd is as h.2
  have e:assignEach (.Name x p::as) X.env=(false,assign (.Name x p) X.env)::assignEach as X.env:=rfl
  refine⟨A1 g1 g,by rw [e,zzL,l,zzL],?_⟩;rw [e,List.findIdx?_cons,f]
  rfl
 |[],_::_,h=>bq h
 |_::_,[],h=>bq h
def yC{fn:Str->Bool}{tg:Tg}{p:Expr}(hN:X.N=N)(nd:N.Nodup)(fe:X.env.scope=sc)(hc:X.calm=true)(vd:∀x,fn x=true->X.fn x=true)(h:fY N sc fn tg p=true):PG X p (gT X.K tg):=by
 cases tg with
 |one i=>exact(FJ hN nd fe vd h).1
 |two i j=>
  obtain⟨es,h1,h2⟩:=ah h
  obtain⟨k,q,rfl⟩:=pQ h1
  obtain⟨g,l,f⟩:=ub hN nd fe vd _ _ h2
  exact IH hc g l f
def lI(W:Wd)(J:It)(G B:Hp)(ps:List PV):Prop:=∀(i:Nat) (G' H':Hp),av G G'->gA B H'->av G' H'->
 (i=ps.length->J.stop i H')/\∀p,ps[i]?=some p->J.go i H'/\∀x lC,J.Kn i H' x lC->∃vU,aD W G' H' vU lC/\Rep W vU p x
structure G7(W:Wd)(G H:Hp)(it:I)(J:It)(ps:List PV):Prop where
 any:lI W J G H ps
 cN:CK it=true->lI W J G G ps
noncomputable def tI(X:Cx)(W:Wd)(F:aN)(it:I):TI:=λσ H R=>∃H0 G env,SR W H0 env σ G H/\Out X W (p6 F it env) σ G H λps=>∀J G' H',aD W G H G' H'->G7 W G' H' it J ps->R J H'
abbrev GI(X:Cx)(W:Wd)(F:aN)(tg:Expr)(it:I)(p:Expr):Prop:=PI X tg p (tI X W F it)
theorem vL(hK:W.K=X.K){G B:Hp}{a:Addr}{vs:List V}{ps:List PV}(h:mV W.K B a vs)(l:ag W G ps vs):lI W (OT X.K a) G B ps:=λi G' H' sG sB sub=>by
 have hq:di X.K H' a vs:=iO hK (gA.ls sB h)
 refine⟨λhi=>⟨vs,hq,by rw [l.length];omega⟩,λp hp=>?_⟩
 obtain⟨v,hv,rv⟩:=l.lZ hp
 refine⟨⟨vs,v,hq,hv⟩,λx lC hy=>?_⟩
 obtain⟨rfl,hy⟩:=hy
 have:=hy vs hq
 rw [hv] at this;cases this;exact⟨G',.refl sub,Rep.same sG p rv⟩
theorem Br{K:zz8}{G B:Hp}{a:Addr}{vs:List V}{ps:List PV}(h:eB K B a vs)(l:ag W G ps vs):lI W (Qd K a) G B ps:=λi G' H' sG sB sub=>by
 have hq:eB K H' a vs:=gA.tup sB h
 refine⟨λhi=>⟨vs,hq,by rw [l.length];omega⟩,λp hp=>?_⟩
 obtain⟨v,hv,rv⟩:=l.lZ hp
 refine⟨⟨vs,v,hq,hv⟩,λx lC hy=>?_⟩
 obtain⟨rfl,hy⟩:=hy
 have:=hy vs hq
 rw [hv] at this;cases this;exact⟨G',.refl sub,Rep.same sG p rv⟩
def y7{G B:Hp}{a:Addr}{o:Obj}{ks:List (List Int)}{us:List V}(n:ks.length=us.length)(h:B a=some (.cN o (.dT (kz ks us)))):lI W (P1 a o (kz ks us)) G B (ks.map ae):=λi G' H' sG sB sub=>by
 have hq:H' a=some (.cN o (.dT (kz ks us))):=sB.at h (λ_ z=>nomatch z)
 refine⟨λhi=>⟨hq,by rw [qb n];rw [zzl] at hi;omega⟩,λp hp=>?_⟩
 rw [zzQ] at hp;obtain⟨k,hk,rfl⟩:=zzJ.mp hp
 have hi:i<ks.length:=(zzH.mp hk).1
 refine⟨⟨hq,by rw [qb n];exact hi⟩,λx lC hy=>?_⟩
 obtain⟨rfl,b,k',v,rfl,e2,e3⟩:=hy
 have ek:k'=ki k:=by
  have:=congrArg (λl=>l[i]?) (Df (us:=us) n)
  simp! [zzQ,e2,hk,Option.map_some] at this;exact zzq this
 rw [ek,uy] at e3;obtain⟨G2,g2,l2⟩:=nu (W:=W) (vs:=[.ref b]) (nss:=[k]) sub (.cons ⟨b,rfl,e3⟩ .nil)
 obtain⟨w,r,ew,hw,_⟩:=l2.aZ
 cases ew;exact⟨G2,g2,hw⟩
def xH{z:Str}{i:Nat}{p:PV}(h:(chars z)[i]?=some p):∃c,z.cps[i]?=some c/\p=.str ⟨#[c]⟩:=by
 unfold chars at h;rw [zzQ] at h;obtain⟨c,hc,rfl⟩:=zzJ.mp h
 rw [Array.getElem?_toList] at hc;exact⟨c,hc,rfl⟩
def xQ(z:Str):(chars z).length=z.cps.size:=by unfold chars;rw [zzl,zzd]
theorem oM{G B:Hp}(lo:Int)(n:Nat):lI W (Lg lo n) G B (dr lo n):=λi G' H' sG sB sub=>by
 unfold dr;refine⟨λhi=>by rw [zzl,List.length_range] at hi;exact Nat.le_of_eq hi.symm,λp hp=>?_⟩
 rw [zzQ] at hp;obtain⟨c,hc,rfl⟩:=zzJ.mp hp
 obtain⟨h1,h2⟩:=zzH.mp hc
 rw [List.length_range] at h1;rw [List.getElem_range] at h2;subst h2;refine⟨h1,λx lC hy=>?_⟩
 obtain⟨rfl,rfl⟩:=hy
 exact⟨G',.refl sub,.i⟩
def k8{G H:Hp}{p q:PV}{v u:V}{a:Addr}(sub:av G H)(ha:H a=none)(h1:Rep W G p v)(h2:Rep W G q u):∃vU,aD W G H vU (upd H a (.tup [v,u]))/\Rep W vU (.tup [p,q]) (.ref a):=
 ⟨_,.new sub ha,.t (.inl ak) (ag.same (aW (sub.free ha)) _ (.cons h1 (.cons h2 .nil)))⟩
theorem gX:∀{xs:List PV} {n i:Nat} {p:PV},(bO n xs)[i]?=some p->∃x,xs[i]?=some x/\p=.tup [.int ((n+i:Nat):Int),x]
 |[],_,_,_,h=>by simp [bO] at h
 |x::xs,n,0,p,h=>by simp [bO] at h;exact⟨x,rfl,by rw [<-h];simp⟩
 |x::xs,n,i+1,p,h=>by
  simp! [bO,List.getElem?_cons_succ] at h;obtain⟨y,h1,h2⟩:=gX h
  exact⟨y,by simpa using h1,by rw [h2,show n+1+i=n+(i+1) by omega]⟩
theorem bD:∀(xs:List PV) (n:Nat),(bO n xs).length=xs.length
 |[],_=>rfl
 |_::xs,n=>by simp! [bO,zzL,bD xs]
theorem rN{K:zz8}{G B:Hp}{a:Addr}{vs:List V}{ps:List PV}(h:eB K B a vs)(l:ag W G ps vs):lI W (Q1 K a vs) G B (bO 0 ps):=λi G' H' sG sB sub=>by
 have hq:eB K H' a vs:=gA.tup sB h
 refine⟨λhi=>⟨hq,by rw [bD] at hi;rw [l.length];exact hi⟩,λp hp=>?_⟩
 obtain⟨x,hx,rfl⟩:=gX hp
 obtain⟨v,hv,rv⟩:=l.lZ hx
 refine⟨⟨hq,(zzH.mp hv).1⟩,λy lC hy=>?_⟩
 obtain⟨b,x',rfl,hb,rfl,oX⟩:=hy
 rw [hv] at oX;cases oX;rw [Nat.zero_add];exact k8 sub hb .i (Rep.same sG x rv)
theorem kA(hK:W.K=X.K){G B:Hp}{a:Addr}{vs:List V}{ps:List PV}(h:mV W.K B a vs)(l:ag W G ps vs):lI W (Gk X.K a vs) G B (bO 0 ps):=λi G' H' sG sB sub=>by
 have hq:di X.K H' a vs:=iO hK (gA.ls sB h)
 refine⟨λhi=>⟨hq,by rw [bD] at hi;rw [l.length];exact hi⟩,λp hp=>?_⟩
 obtain⟨x,hx,rfl⟩:=gX hp
 obtain⟨v,hv,rv⟩:=l.lZ hx
 refine⟨⟨hq,(zzH.mp hv).1⟩,λy lC hy=>?_⟩
 obtain⟨b,x',rfl,hb,rfl,oX⟩:=hy
 rw [hv] at oX;cases oX;rw [Nat.zero_add];exact k8 sub hb .i (Rep.same sG x rv)
theorem rO{G B:Hp}(z:Str):lI W (Ow z) G B (bO 0 (chars z)):=λi G' H' sG sB sub=>by
 refine⟨λhi=>by rw [bD,xQ] at hi;exact hi,λp hp=>?_⟩
 obtain⟨x,hx,rfl⟩:=gX hp
 obtain⟨c,hc,rfl⟩:=xH hx
 refine⟨(Array.getElem?_eq_some_iff.mp hc).1,λy lC hy=>?_⟩
 obtain⟨b,c',rfl,hb,rfl,qf⟩:=hy
 rw [hc] at qf;cases qf;rw [Nat.zero_add];exact k8 sub hb .i .s
def Qv(W:Wd)(G:Hp)(t:Zt)(xs:List PV):Prop:=(if t.1=true then mV W.K G t.2.1 t.2.2 else Jk W.K G t.2.1 t.2.2)/\ag W G xs t.2.2
theorem BK{G:Hp}:∀{ps:List PV} {vs:List V} {xss:List (List PV)},ag W G ps vs->ko ps=some xss->∃ts:List Zt,vs=ts.map (λt=>V.ref t.2.1)/\Paired (Qv W G) ts xss
 |[],vs,xss,l,h=>by
  simp! [ag] at l;subst l;cases h;exact⟨[],rfl,.nil⟩
 |p::ps,vs,xss,l,h=>by
  obtain⟨v,r,rfl,h1,h2⟩:=l.aZ
  obtain⟨xs,e1,h⟩:=zzZ.1 (show(DU p).bind (λxs=>(ko ps).map (xs::·))=some xss from h)
  obtain⟨yss,e2,rfl⟩:=zzJ.1 h
  obtain⟨ts,rfl,pd⟩:=BK h2 e2
  cases p with
  |lst ys=>
   cases e1;simp! [Rep] at h1;obtain⟨a,us,rfl,k,m⟩:=h1
   exact⟨(true,a,us)::ts,rfl,.cons ⟨k,m⟩ pd⟩
  |tup ys=>
   cases e1;simp! [Rep] at h1;obtain⟨a,us,rfl,k,m⟩:=h1
   exact⟨(false,a,us)::ts,rfl,.cons ⟨k,m⟩ pd⟩
  |_=>cases e1
theorem v3:∀{xss:List (List PV)},∀xs∈xss,jv xss<=xs.length
 |[xs],ys,h=>by rw [zzi.1 h];exact zzE _
 |xs::y::r,ys,h=>by
  show min xs.length (jv (y::r))<=_
  rcases zzm.1 h with rfl|h
  ·exact Nat.min_le_left ..
  ·exact zzU (Nat.min_le_right ..) (v3 ys h)
theorem vq:∀{xss:List (List PV)},xss≠[]->∃xs∈xss,xs.length=jv xss
 |[xs],_=>⟨xs,zzi.2 rfl,rfl⟩
 |xs::y::r,_=>by
  show∃zs∈xs::y::r,zs.length=min xs.length (jv (y::r))
  rcases Nat.le_total xs.length (jv (y::r)) with h|h
  ·exact⟨xs,zzP ..,(Nat.min_eq_left h).symm⟩
  ·obtain⟨zs,h1,h2⟩:=vq (xss:=y::r) (List.cons_ne_nil _ _)
   exact⟨zs,zzI _ h1,by rw [h2,Nat.min_eq_right h]⟩
theorem uR{G:Hp}{i:Nat}:∀{ts:List Zt} {xss:List (List PV)} {ys:List V},Paired (Qv W G) ts xss->Paired (λ(q:Zt) y=>q.2.2[i]?=some y) ts ys->ag W G (xss.map λxs=>xs.getD i .ay) ys
 |_,_,_,.nil,.nil=>.nil
 |_,_,_,.cons r t,.cons u v=>by
  obtain⟨p,hp,rp⟩:=r.2.get u
  refine .cons ?_ (uR t v);dsimp only;rw [zzK,hp];exact rp
def zU(hK:W.K=X.K){G B:Hp}{ts:List Zt}{xss:List (List PV)}(hn:ts≠[])(h:Paired (Qv W G) ts xss)(hB:av G B):lI W (P7 X.K ts) G B (qW xss):=λi G' H' sG sB sub=>by
 have sq:∀t∈ts,Zq X.K H' t:=λt ht=>by
  obtain⟨xs,_,r⟩:=dY h t ht
  have:=r.1
  unfold Zq;split
  ·rename_i e;rw [if_pos e] at this;exact iO hK (av.ls (λa o z=>sub a o (sG a o z)) this)
  ·rename_i e;rw [if_neg e] at this;exact hK▸av.tup (λa o z=>sub a o (sG a o z)) this.sq
 have len:∀t∈ts,jv xss<=t.2.2.length:=λt ht=>by
  obtain⟨xs,h1,r⟩:=dY h t ht
  rw [r.2.length];exact v3 xs h1
 have zl:(qW xss).length=jv xss:=by simp [qW]
 refine⟨λhi=>?_,λp hp=>?_⟩
 ·rw [zl] at hi;subst hi;refine⟨λt ht=>⟨sq t ht,len t ht⟩,?_⟩
  have hx:xss≠[]:=λz=>by subst z;cases h;exact hn rfl
  obtain⟨xs,h1,h2⟩:=vq hx
  obtain⟨t,ht,r⟩:=bY h xs h1
  exact⟨t,ht,by rw [r.2.length,h2]⟩
 ·have hi:i<jv xss:=by rw [<-zl];exact(zzH.1 hp).1
  have OO:p=.tup (xss.map λxs=>xs.getD i .ay):=by
   unfold qW at hp;rw [zzQ,List.getElem?_range hi] at hp;exact(zzq hp).symm
  refine⟨λt ht=>⟨sq t ht,zzW hi (len t ht)⟩,λx lC hy=>?_⟩
  obtain⟨a,ys,rfl,ha,rfl,py⟩:=hy
  subst OO;refine⟨_,.new sub ha,.t (.inl ak) (ag.same (aW (sub.free ha)) _ (ag.same sG _ (uR h py)))⟩
theorem zy(hK:W.K=X.K){G B:Hp}{a:Addr}{vs:List V}{ps:List PV}(h:mV W.K B a vs)(l:ag W G ps vs):lI W (PM X.K a vs) G B ps.reverse:=λi G' H' sG sB sub=>by
 have hq:di X.K H' a vs:=iO hK (gA.ls sB h)
 refine⟨λhi=>⟨hq,by rw [hi,List.length_reverse,l.length]⟩,λp hp=>?_⟩
 have hi:=(zzH.1 hp).1
 rw [List.length_reverse] at hi;refine⟨⟨hq,by rw [l.length];exact hi⟩,λx lC hy=>?_⟩
 obtain⟨rfl,hy⟩:=hy
 obtain⟨q,mI,rq⟩:=l.get hy
 rw [List.getElem?_reverse hi,<-l.length,mI] at hp;cases hp;exact⟨G',.refl sub,Rep.same sG _ rq⟩
def d7{e:E}{σ:St}{H0 G H:Hp}{env:Sl}{Q:VK}{p:PV}(sr:SR W H0 env σ G H)(e1:aA F e env=.ok p)(h:∀v G1 H1,aD W G H G1 H1->Got W H0 G1 H1 e p v->Q v H1):tE X W F e σ H Q:=⟨H0,G,env,sr,by rw [e1];exact h⟩
def yj{e:E}{σ:St}{H0 G H:Hp}{env:Sl}{Q:VK}{c:Str}(sr:SR W H0 env σ G H)(e1:aA F e env=.exc c)(h:sH X W σ c G H):tE X W F e σ H Q:=⟨H0,G,env,sr,by rw [e1];exact h⟩
def HR(C:dG Γ F W N sc k X){tg p:Expr}{e:E}(he:GE X W F e p):GI X W F tg (.seq e) p:=by
 intro aa s σ H R I h;obtain⟨H0,G,env,sr,o⟩:=h
 rw [p6] at o;cases r:aA F e env with
 |bad=>rw [r] at o;exact o.elim
 |exc c=>rw [r] at o;exact uQ he aa s σ H R I (yj sr r o)
 |ok q=>
  rw [r] at o;cases q with
  |lst xs=>
   refine uQ he aa s σ H R I (d7 sr r λv G1 H1 g1 t=>?_);have t':=t
   obtain⟨a,vs,rfl,h1,l1⟩:=t.top.lst g1.sub
   refine⟨a,rfl,⟨vs,iO C.K h1⟩,o _ G1 H1 g1 ⟨vL C.K h1 l1,λz=>?_⟩⟩
   have rp:=t'.rep z
   simp! [Rep] at rp;obtain⟨a',me,e1,h2,l2⟩:=rp
   cases e1;exact vL C.K h2 l2
  |tup xs=>
   refine Jj he aa s σ H R I (d7 sr r λv G1 H1 g1 t=>?_);have t':=t
   obtain⟨a,vs,rfl,h1,l1⟩:=t.top.tup g1.sub
   rw [C.K] at h1;refine⟨a,rfl,⟨vs,h1⟩,o _ G1 H1 g1 ⟨Br h1 l1,λz=>?_⟩⟩
   have rp:=t'.rep z
   simp! [Rep] at rp;obtain⟨a',me,e1,h2,l2⟩:=rp
   cases e1;rw [C.K] at h2;exact Br h2.sq l2
  |str z=>exact zzk o
  |int _=>exact zzk o
  |bl _=>exact zzk o
  |ay=>exact zzk o
  |exc _=>exact zzk o
  |br ks qs=>
   by_cases Lx:fv e=true
   ·have UY:uH e (.br ks qs)=.ok (ks.map ae):=by
     cases e<;>first|rfl|exact bq Lx
    have o2:Out X W (uH e (.br ks qs)) σ G H λps=>∀(J:It) (G' H':Hp),aD W G H G' H'->G7 W G' H' (Ci.I.seq e) J ps->R J H':=o
    rw [UY] at o2;refine IB he aa s σ H R I (d7 sr r λv G1 H1 g1 t=>?_);have rp:=t.rep Lx
    simp! [Rep] at rp;obtain⟨a,ob,us,rfl,n,h1,l1⟩:=rp
    exact⟨a,ob,_,rfl,g1.sub _ _ h1,o2 _ G1 H1 g1 ⟨y7 n (g1.sub _ _ h1),λ_=>y7 n h1⟩⟩
   ·have:∃i,e=.ic i:=by
     cases e<;>first|exact⟨_,rfl⟩|exact absurd rfl Lx
    obtain⟨i,rfl⟩:=this
    exact zzk o
def cY{i:Int}(h:aH i=true): -(2^62)<=i/\i<2^62:=by
 unfold aH at h
 simpa using h
def Hg(C:dG Γ F W N sc k X){tg p:Expr}{e:E}{np pos:Pos}(hg:eO sc "range"=true)(hb:Γ.bs.contains "range"=true)(cx:∀env ps,starEach (p::ps) env=(false,eval p env)::starEach ps env)(he:GE X W F e p):GI X W F tg (.md e) (.Call (.Name "range" np) [p] [] pos):=by
 intro aa s σ H R I h;refine xo (dg C hg) (C.bs _ (zzn.mp hb)) (bp he cw (cx _ _)) (cx _ _) aa s σ H R I ?_;obtain⟨H0,G,env,sr,o⟩:=h
 rw [p6] at o;refine one sr o λq v G1 H1 g1 t aX o1=>?_
 cases q with
 |int j=>
  by_cases hj:aH j=true
  ·have o2:Out X W (if aH j=true then Res.ok (dr 0 j.toNat) else .bad) σ G1 H1 _:=o1
   rw [if_pos hj] at o2;exact⟨j,by rw [t.top.int],(cY hj).1,(cY hj).2,o2 _ G1 H1 g1 ⟨oM _ _,λ_=>oM _ _⟩⟩
  ·have o2:Out X W (if aH j=true then Res.ok (dr 0 j.toNat) else .bad) σ G1 H1 _:=o1
   rw [if_neg hj] at o2;exact o2.elim
 |bl _=>exact zzk o1
 |ay=>exact zzk o1
 |str _=>exact zzk o1
 |tup _=>exact zzk o1
 |lst _=>exact zzk o1
 |exc _=>exact zzk o1
 |br _ _=>exact zzk o1
def DL(C:dG Γ F W N sc k X){tg p q:Expr}{a b:E}{np pos:Pos}(hg:eO sc "range"=true)(hb:Γ.bs.contains "range"=true)(cx:∀env ps,starEach (p::ps) env=(false,eval p env)::starEach ps env)(IE:∀env ps,starEach (q::ps) env=(false,eval q env)::starEach ps env)
 (ha:GE X W F a p) (iJ:GE X W F b q):GI X W F tg (.o7 a b) (.Call (.Name "range" np) [p,q] [] pos):=by
 intro aa s σ H R I h;refine wG (dg C hg) (C.bs _ (zzn.mp hb)) (bp ha (bp iJ cw (IE _ _)) (cx _ _)) (by rw [cx,IE];rfl) (IE _ _) aa s σ H R I ?_;obtain⟨H0,G,env,sr,o⟩:=h
 rw [p6] at o;refine one sr o λx v G1 H1 g1 t aX o1=>one aX o1 λy u G2 H2 g2 t2 fT o2=>?_
 cases x<;>cases y<;>first
  |(exact zzk o2)
  | (rename_i i j
     by_cases hj:(aH i&&aH j)=true
     ·have o3:Out X W (if(aH i&&aH j)=true then Res.ok (dr i (j-i).toNat) else .bad) σ G2 H2 _:=o2
      rw [if_pos hj] at o3;rw [zza] at hj;exact⟨i,j,by rw [t.top.int,t2.top.int],⟨(cY hj.1).1,(cY hj.1).2,(cY hj.2).1,(cY hj.2).2⟩,o3 _ G2 H2 (g1.trans g2) ⟨oM _ _,λ_=>oM _ _⟩⟩
     ·have o3:Out X W (if(aH i&&aH j)=true then Res.ok (dr i (j-i).toNat) else .bad) σ G2 H2 _:=o2
      rw [if_neg hj] at o3;exact o3.elim)
def CG(C:dG Γ F W N sc k X){elts:List Expr}{x1:Nat}{iS:Pos}{p:Expr}{e:E}{np pos:Pos}(hg:eO sc "enumerate"=true)(hb:Γ.bs.contains "enumerate"=true)(cx:∀env ps,starEach (p::ps) env=(false,eval p env)::starEach ps env)(he:GE X W F e p):
 GI X W F (.Tuple elts x1 iS) (.enum e) (.Call (.Name "enumerate" np) [p] [] pos):=by
 intro aa s σ H R I h;have tH:=dg C hg
 have p7:=C.bs _ (zzn.mp hb)
 have pa:=bp he cw (cx _ _)
 obtain⟨H0,G,env,sr,o⟩:=h
 rw [p6] at o;cases r:aA F e env with
 |bad=>rw [r] at o;exact o.elim
 |exc c=>rw [r] at o;exact rA tH p7 pa (cx _ _) aa s σ H R I (yj sr r o)
 |ok q=>
  rw [r] at o;cases q with
  |lst xs=>
   refine rA tH p7 pa (cx _ _) aa s σ H R I (d7 sr r λv G1 H1 g1 t=>?_)
   by_cases hz:fv e=true
   ·have rp:=t.rep hz
    simp! [Rep] at rp;obtain⟨a,vs,rfl,h2,l2⟩:=rp
    exact⟨a,vs,rfl,iO C.K (av.ls g1.sub h2),o _ G1 H1 g1 ⟨kA C.K (av.ls g1.sub h2) l2,λ_=>kA C.K h2 l2⟩⟩
   ·obtain⟨a,vs,rfl,h1,l1⟩:=t.top.lst g1.sub
    exact⟨a,vs,rfl,iO C.K h1,o _ G1 H1 g1 ⟨kA C.K h1 l1,λz=>absurd z hz⟩⟩
  |tup xs=>
   refine AF tH p7 pa (cx _ _) aa s σ H R I (d7 sr r λv G1 H1 g1 t=>?_);have t':=t.top
   rcases t' with rp|z
   ·simp! [Rep] at rp;obtain⟨a,vs,rfl,h2,l2⟩:=rp
    rw [C.K] at h2;exact⟨a,vs,rfl,av.tup g1.sub h2.sq,o _ G1 H1 g1 ⟨rN (av.tup g1.sub h2.sq) l2,λz=>rN h2.sq l2⟩⟩
   ·exact z.elim
  |str z=>exact Ac tH p7 pa (cx _ _) aa s σ H R I (d7 sr r λv G1 H1 g1 t=>⟨z,by rw [t.top.str],o _ G1 H1 g1 ⟨rO z,λ_=>rO z⟩⟩)
  |int _=>exact zzk o
  |bl _=>exact zzk o
  |ay=>exact zzk o
  |exc _=>exact zzk o
  |br _ _=>exact zzk o
def Io(C:dG Γ F W N sc k X){elts:List Expr}{x1:Nat}{iS:Pos}{p:Expr}{ps:List Expr}{as:Es}{np pos:Pos}(hg:eO sc "zip"=true)(hb:Γ.bs.contains "zip"=true)(EN:ke as=true)(hn:fW as=2\/fW as=3)(ha:GA X W F as (p::ps))
 (cx:starEach (p::ps) X.env=(false,eval p X.env)::starEach ps X.env) (hpl:(backTo pos (starEach ps X.env)).any (·.1)=false):GI X W F (.Tuple elts x1 iS) (.zip as) (.Call (.Name "zip" np) (p::ps) [] pos):=by
 intro aa s σ H R I h;refine Dr (dg C hg) (C.bs _ (zzn.mp hb)) ha cx hpl aa s σ H R I ?_;obtain⟨H0,G,env,sr,o⟩:=h
 rw [p6] at o;refine⟨H0,G,env,sr,?_⟩;cases r:cT F as env with
 |bad=>rw [r] at o;exact o
 |exc c=>rw [r] at o;exact o
 |ok qs=>
  rw [r] at o;have hlen:=gP r
  intro vs G1 H1 g1 t;have l:=t.rep EN
  have o:Out X W ((Res.of (ko qs)).bind λxss=>.ok (qW xss)) σ G H λps=>∀J G' H',aD W G H G' H'->G7 W G' H' (.zip as) J ps->R J H':=o
  cases e:ko qs with
  |none=>rw [e] at o;exact zzk o
  |some xss=>
   rw [e] at o;obtain⟨ts,rfl,pd⟩:=BK l e
   have lt:ts.length=qs.length:=by have:=l.length;rwa [zzl] at this
   have dH:ts≠[]:=λz=>by subst z;simp at lt;omega
   refine⟨ts,rfl,by omega,λq hq=>?_,o _ G1 H1 g1 ⟨zU C.K dH pd g1.sub,λ_=>zU C.K dH pd (av.refl _)⟩⟩
   obtain⟨xs,_,r⟩:=dY pd q hq
   have:=r.1
   unfold Zq;split
   ·rename_i e;rw [if_pos e] at this;exact iO C.K (av.ls g1.sub this)
   ·rename_i e;rw [if_neg e] at this;exact C.K▸av.tup g1.sub this.sq
def IZ(C:dG Γ F W N sc k X){tg:Expr}{p:Expr}{e:E}{np pos:Pos}(hg:eO sc "reversed"=true)(hb:Γ.bs.contains "reversed"=true)(EN:fv e=true)(ha:GE X W F e p)(cx:∀env ps,starEach (p::ps) env=(false,eval p env)::starEach ps env):GI X W F tg (.tW e) (.Call (.Name "reversed" np) [p] [] pos):=by
 intro aa s σ H R I h;refine Cp (dg C hg) (C.bs _ (zzn.mp hb)) (bp ha cw (cx _ _)) (cx _ _) aa s σ H R I ?_;obtain⟨H0,G,env,sr,o⟩:=h
 rw [p6] at o;refine one sr o λx v G1 H1 g1 t aX o1=>?_
 cases x with
 |lst xs=>
  have rp:=t.rep EN
  simp! [Rep] at rp;obtain⟨a,vs,rfl,h1,l1⟩:=rp
  exact⟨a,vs,rfl,iO C.K (av.ls aX.sub h1),o1 _ G1 H1 g1 ⟨zy C.K (av.ls aX.sub h1) l1,λ_=>zy C.K h1 l1⟩⟩
 |_=>exact zzk o1
end
def xx{env:Env}{x:Str}{c:Addr}(h:env.cells.lookup x=some c):cellOf env x=pure c:=by
 unfold cellOf;rw [h]
noncomputable def frees(names:List (Str×NameKind)):List Str:=((names.filter λp=>p.2==.free).map (·.1)).reverse
def uq{scope:Scope}{env:Env}(h:∀y∈scope.names,y.2=.free->∃c,env.cells.lookup y.1=some c):closureFor scope env=pure (bW env (freeOf scope)):=by
 simp! [closureFor];have key:∀(names:List (Str×NameKind)) (acc:List (Str×Addr)),(∀y∈names,y.2=.free->∃c,env.cells.lookup y.1=some c)->
  (forIn (m:=Sem) names acc λx r=>if(x.2==NameKind.free)=true then do
   let c<-cellOf env x.1
   pure (ForInStep.yield ((x.1,c)::r))
   else pure (ForInStep.yield r))=pure (bW env (frees names)++acc):=by
  intro names
  induction names with
  |nil=>intro acc _;rfl
  |cons p r ih=>
   intro acc hh;obtain⟨n,kd⟩:=p
   rw [List.forIn_cons]
   by_cases hk:(kd==NameKind.free)=true
   ·obtain⟨c,hc⟩:=hh (n,kd) (by simp) (zzy.mp hk)
    simp! [hk,if_true,xx hc,pure_bind];rw [ih ((n,c)::acc) λy hy=>hh y (zzI _ hy)]
    have e:frees ((n,kd)::r)=frees r++[n]:=by
     unfold frees;rw [zz3,if_pos hk,zzF,List.reverse_cons]
    rw [e];unfold bW;rw [List.map_append,zzF,List.map_nil,List.append_assoc];show _=pure (_++([(n,(env.cells.lookup n).getD 0)]++acc))
    rw [show env.cells.lookup n=some c from hc]
    rfl
   ·simp! [hk,zze,if_false,pure_bind];rw [ih acc λy hy=>hh y (zzI _ hy)]
    have e:frees ((n,kd)::r)=frees r:=by
     unfold frees;rw [zz3,if_neg hk]
    rw [e]
 have:=key scope.names [] h
 rw [zz6] at this;simp! [bind_pure_comp,map_pure,id_map',bind_pure];exact this
section
variable{X:Cx}{W:Wd}{N:List Str}{sc:Scope}
def eA{scope:Scope}(h:X.env.scope=sc):relabel scope X.env=cO scope sc:=by
 subst h
 rfl
structure j4(N:List Str)(sc scope:Scope)(kk:Nat)(cb:List Nat)(xs:List Str):Prop where
 kind:scope.kind=.function
 len:xs.length=kk
 nd:(xs++freeOf scope).Nodup
 L5:(scope.names.all λy=>(decide (y.2≠.cell)||!(freeOf scope).contains y.1)&&(decide (y.2≠.free)||(freeOf scope).contains y.1))=true
 own:(scope.names.all λy=>decide (y.2≠.cell)||decide (scope.names.lookup y.1=some .cell))=true
 names:(scope.names.all λy=>decide (y.2≠.local)||decide (scope.names.lookup y.1=some .local))=true
 slots:cb.map (λi=>N[i]?)=(freeOf scope).map some
 kX:((freeOf scope).all λy=>decide (sc.names.lookup y=some .cell))=true
 kY:((freeOf scope).all λy=>decide ((cO scope sc).names.lookup y=some .cell))=true
def gG{scope:Scope}{kk:Nat}{cb:List Nat}{xs:List Str}(h:vj N sc scope kk cb xs=true):j4 N sc scope kk cb xs:=by
 unfold vj at h;simp! [zza] at h;obtain⟨⟨⟨⟨⟨⟨⟨⟨h1,h2⟩,h3⟩,h4⟩,h9⟩,h5⟩,h6⟩,h7⟩,h8⟩:=h
 exact⟨zzy.mp h1,zzy.mp h2,zzY h3,h4,h9,h5,zzY h6,h7,h8⟩
def qe(hN:X.N=N)(fe:X.env.scope=sc)(ok:X.Ok){scope:Scope}{kk:Nat}{cb:List Nat}{xs:List Str}(h:j4 N sc scope kk cb xs):dQ X scope xs (freeOf scope) cb:=by
 have rE:∀y∈freeOf scope,∃c,X.env.cells.lookup y=some c:=λy hy=>ok.has y (.inl (by
  have:=zzY (zzT.mp h.kX y hy)
  show X.env.scope.names.lookup y=_
  rw [fe];exact this))
 refine⟨h.kind,uq λy hy hf=>?_,zzT.mpr λy hy=>?_,h.L5,h.own,h.names,by rw [hN];exact h.slots,zzT.mpr λy hy=>?_,?_⟩
 ·have c:=zzT.mp h.L5 y hy
  rw [zza,zzt,zzt] at c;rcases c.2 with z|z
  ·exact absurd hf (zzY z)
  ·exact rE _ (zzn.mp z)
 ·obtain⟨c,hc⟩:=rE y hy
  rw [hc];rfl
 ·have:=zzY (zzT.mp h.kX y hy)
  refine zzh ?_;show X.env.scope.names.lookup y=_
  rw [fe];exact this
 ·rw [eA fe];exact h.kY
theorem gb{f:PV->Res (Option PV)}{x:PV}:∀{xs:List PV},aK f (xs++[x])=(aK f xs).bind λys=>(f x).well.bind λo=>.ok (ys++o.toList)
 |[]=>by
  simp! [List.nil_append,aK,Res.bind];cases(f x).well with
  |ok o=>cases o<;>rfl
  |exc c=>rfl
  |bad=>rfl
 |y::xs=>by
  rw [List.cons_append];simp! [aK];rw [gb (xs:=xs)];cases(f y).well with
  |exc c=>rfl
  |bad=>rfl
  |ok o=>
   show(((aK f xs).bind λys=>(f x).well.bind λo=>.ok (ys++o.toList)).bind λys=>.ok (oc o ys))=((aK f xs).bind λys=>.ok (oc o ys)).bind λys=>(f x).well.bind λo=>.ok (ys++o.toList)
   cases aK f xs with
   |exc c=>rfl
   |bad=>rfl
   |ok zs=>
    show(((f x).well.bind λo=>.ok (zs++o.toList)).bind λys=>.ok (oc o ys))=(f x).well.bind λo2=>.ok ((oc o zs)++o2.toList)
    cases(f x).well with
    |exc c=>rfl
    |bad=>rfl
    |ok o2=>cases o<;>rfl
theorem lF{f:PV->Res (Option PV)}:∀{xs ys:List PV},aK f xs=.ok ys->∀i,∃zs,aK f (xs.take i)=.ok zs/\zs.length<=i
 |_,_,_,0=>⟨[],by simp [aK],zzE _⟩
 |[],ys,h,i+1=>⟨[],by simp [aK],Nat.zero_le _⟩
 |x::xs,ys,h,i+1=>by
  simp! [aK] at h;obtain⟨o,ho,h⟩:=Res.aY h
  obtain⟨zs,hz,h⟩:=Res.aY h
  obtain⟨ws,hw,hl⟩:=lF hz i
  refine⟨oc o ws,?_,?_⟩
  ·rw [List.take_succ_cons];simp! [aK];rw [ho];show((aK f (xs.take i)).bind λys=>.ok (oc o ys))=_
   rw [hw]
   rfl
  ·cases o with
   |none=>exact Nat.le_succ_of_le hl
   |some y=>exact Nat.succ_le_succ hl
def Dc{α:Type}{r:Res α}{a:α}(h:r.well=.ok a):r=.ok a:=by
 cases r with
 |ok b=>cases h;rfl
 |exc c=>cases h
 |bad=>cases h
def rf{f:PV->Res (Option PV)}{xs ys zs:List PV}{i:Nat}{x:PV}(h:aK f xs=.ok ys)(hx:xs[i]?=some x)(hz:aK f (xs.take i)=.ok zs):∃o,f x=.ok o/\aK f (xs.take (i+1))=.ok (zs++o.toList):=by
 have e:xs.take (i+1)=xs.take i++[x]:=by rw [List.take_add_one,hx];rfl
 obtain⟨ws,hw,_⟩:=lF h (i+1)
 rw [e,gb,hz] at hw;obtain⟨o,ho,hw⟩:=Res.aY (show((f x).well.bind λo=>Res.ok (zs++o.toList))=.ok ws from hw)
 refine⟨o,Dc ho,?_⟩;rw [e,gb,hz];show((f x).well.bind λo=>Res.ok (zs++o.toList))=_
 rw [ho]
 rfl
def rB{H0 G H:Hp}{env:Sl}{σ:St}{cb:List Nat}{ys:List Str}(kk:Nat)(sr:SR W H0 env σ G H)(hs:cb.map (λi=>N[i]?)=ys.map some)(nd:ys.Nodup):SR W H0 (List.replicate kk .no++eC env cb) (List.replicate kk none++Az σ cb) G H:=by
 have Uj:∀(i j:Nat) (a:Nat),cb[i]?=some a->cb[j]?=some a->i=j:=λi j a h1 h2=>by
  have e1:(ys.map some)[i]?=some (N[a]?):=by rw [<-hs,zzQ,h1];rfl
  have e2:(ys.map some)[j]?=some (N[a]?):=by rw [<-hs,zzQ,h2];rfl
  rw [zzQ] at e1 e2;obtain⟨y1,g1,q1⟩:=zzJ.mp e1
  obtain⟨y2,g2,q2⟩:=zzJ.mp e2
  have:y1=y2:=zzq (q1.trans q2.symm)
  subst this;exact j8 nd g1 g2
 have inner:∀(j:Nat) (s:Slot),(List.replicate kk Slot.no++eC env cb)[j]?=some s->(j<kk/\s=.no)\/∃a,kk<=j/\cb[j-kk]?=some a/\s=env.getD a .no:=λj s e=>by
  by_cases hj:j<kk
  ·rw [zzr (by simpa using hj),List.getElem?_replicate,if_pos hj] at e;cases e;exact .inl ⟨hj,rfl⟩
  ·rw [zzs (by simpa using hj),List.length_replicate] at e;unfold eC at e;rw [zzQ] at e;obtain⟨a,ha,rfl⟩:=zzJ.mp e
   exact .inr ⟨a,by omega,ha,rfl⟩
 have val:∀(j a:Nat),kk<=j->cb[j-kk]?=some a->(List.replicate kk none++Az σ cb)[j]?=some ((σ[a]?).join):=λj a hj ha=>by
  rw [zzs (by simpa using hj),List.length_replicate];unfold Az;rw [zzQ,ha]
  rfl
 refine⟨by unfold eC Az;simp,sr.sub,sr.base,λj s e=>?_,λi j p q a e1 e2 e3 e4=>?_,sr.tab,sr.l8⟩
 ·rcases inner j s e with⟨hj,rfl⟩|⟨a,hj,ha,rfl⟩
  ·exact⟨none,by rw [zzr (by simpa using hj),List.getElem?_replicate,if_pos hj],trivial⟩
  ·refine⟨_,val j a hj ha,?_⟩;rw [zzK];cases e1:env[a]? with
   |none=>exact trivial
   |some s=>
    obtain⟨o,h1,h2⟩:=sr.slot a s e1
    rw [h1];exact h2
 ·rcases inner i _ e1 with⟨_,z⟩|⟨b,hi,hb,z1⟩
  ·cases z
  rcases inner j _ e2 with⟨_,z⟩|⟨c,hj,hc,z2⟩
  ·cases z
  rw [val i b hi hb] at e3;rw [val j c hj hc] at e4;have f1:env[b]?=some (.own p):=by
   rw [zzK] at z1;cases e:env[b]? with
   |none=>rw [e] at z1;cases z1
   |some s=>rw [e] at z1;exact congrArg some z1.symm
  have f2:env[c]?=some (.own q):=by
   rw [zzK] at z2;cases e:env[c]? with
   |none=>rw [e] at z2;cases z2
   |some s=>rw [e] at z2;exact congrArg some z2.symm
  have g1:σ[b]?=some (some (.ref a)):=Option.join_eq_some_iff.mp (zzq e3)
  have g2:σ[c]?=some (some (.ref a)):=Option.join_eq_some_iff.mp (zzq e4)
  have bc:=sr.apart b c p q a f1 f2 g1 g2
  subst bc;have:=Uj _ _ b hb hc
  omega
def ip{H0 G H:Hp}{kk:Nat}{rest af:Sl}{σ:St}{tg:Tg}{p:PV}(bX:jW kk tg=true)(e:Tg.put tg p (List.replicate kk .no++rest)=.ok af)(r:SR W H0 af σ G H):SR W H0 (List.replicate kk .no++rest) σ G H:=by
 have key:∀(j:Nat) (s:Slot),(List.replicate kk Slot.no++rest)[j]?=some s->s≠.no->af[j]?=some s:=λj s h hs=>by
  have Qn:¬j<kk:=λz=>by
   rw [zzr (by simpa using z),List.getElem?_replicate,if_pos z] at h;cases h;exact hs rfl
  unfold Tg.put at e;split at e
  ·cases e;unfold jW at bX;simp! [zzN] at bX;rw [zzS (by omega)];exact h
  ·cases e;unfold jW at bX;simp! [zza,zzN] at bX;rw [zzS (by omega),zzS (by omega)];exact h
  ·cases e
 have hlen:(List.replicate kk Slot.no++rest).length=σ.length:=by
  rw [<-r.len];unfold Tg.put at e;split at e<;>first|(cases e;simp;done)|(cases e;done)
 refine⟨hlen,r.sub,r.base,λj s h=>?_,λi j p q a e1 e2 e3 e4=>r.apart i j p q a (key i _ e1 (λz=>nomatch z)) (key j _ e2 (λz=>nomatch z)) e3 e4,r.tab,r.l8⟩
 by_cases hs:s=.no
 ·subst hs;have:j<σ.length:=by rw [<-hlen];exact(zzH.mp h).1
  exact⟨σ[j],zzg this,trivial⟩
 ·exact r.slot j s (key j s h hs)
variable{Γ:Pg}{F:aN}{k:Nat}
noncomputable def tN(W:Wd)(F:aN)(e:E):TE:=λσ H Q=>∃H0 G env,SR W H0 env σ G H/\∃p,aA F e env=.ok p/\∀v G' H',aD W G H G' H'->Got W H0 G' H' e p v->Q v H'
noncomputable def NR(W:Wd)(F:aN)(e:E):TT:=λσ H Q=>∃H0 G env,SR W H0 env σ G H/\∃b,aA F e env=.ok (.bl b)/\∀G' H',aD W G H G' H'->Q b H'
def vW{e:E}(σ:St)(H:Hp)(Q:VK)(h:tN W F e σ H Q):tE X W F e σ H Q:=by
 obtain⟨H0,G,env,sr,p,e1,q⟩:=h
 exact⟨H0,G,env,sr,by rw [e1];exact q⟩
def Al{e:E}(σ:St)(H:Hp)(Q:Bool->Hp->Prop)(h:NR W F e σ H Q):tT X W F e σ H Q:=by
 obtain⟨H0,G,env,sr,p,e1,q⟩:=h
 exact⟨H0,G,env,sr,by rw [e1];exact⟨p,rfl,q⟩⟩
def d6(C:dG Γ F W N sc k X){scope:Scope}{kk:Nat}{cb:List Nat}{xs:List Str}(h:j4 N sc scope kk cb xs)(fp:List Addr)(s1:Shared)(H1:Hp)(A:Addr):dG Γ.BQ F W (xs++freeOf scope) (cO scope sc) k (bB X (xs++freeOf scope) scope (bW X.env (freeOf scope)) fp s1 H1 A):=
 ⟨rfl,eA C.fe,rfl,h.nd,C.K,C.mg,C.gs,C.bs,C.room,λf hf=>⟨(C.fns f hf).ex⟩,C.Om,C.cls,C.xc,λq hq=>⟨(C.xT q hq).ex⟩,C.any,(λz=>nomatch z),(λz=>nomatch z),(λz=>nomatch z)⟩
def GU{e:E}{p:Expr}(h:aO Γ N sc e p=true)(env:Env):∀x,foldedSetIterable p env x=pure x:=by
 intro x;cases p<;>first|rfl|(cases e<;>first|(exact bq h)|(rename_i q;cases q<;>exact bq h))
def gQ{tg:Expr}{it:I}{p:Expr}(h:wa Γ N sc tg it p=true)(env:Env):∀x,foldedSetIterable p env x=pure x:=by
 intro x;cases it with
 |seq e=>exact GU h env x
 |md e=>cases p<;>first|rfl|(exact bq h)
 |o7 a b=>cases p<;>first|rfl|(exact bq h)
 |enum e=>cases p<;>first|rfl|(exact bq h)
 |zip as=>cases p<;>first|rfl|(exact bq h)
 |tW e=>cases p<;>first|rfl|(exact bq h)
def CW(W:Wd)(H0 G1 H1:Hp)(Jx:Sl)(f:PV->Res (Option PV))(ps:List PV)(i:Nat)(ys:List V)(σ':St)(H':Hp):Prop:=
 i<=ps.length/\∃G',aD W G1 H1 G' H'/\SR W H0 Jx σ' G' H'/\∃zs,aK f (ps.take i)=.ok zs/\zs.length<=i/\ag W G' zs ys
def vb(hK:W.K=X.K){kk:Nat}{cb:List Nat}{tg:Tg}{it:I}{elt:E}{ys:List Str}(bX:jW kk tg=true)(df:fv elt=true)(hs:cb.map (λi=>N[i]?)=ys.map some)(nd:ys.Nodup)(σ:St)(H:Hp)(Q:VK)(h:tF X W F (.comp kk cb tg it elt) σ H Q):
 yD (tI X W F it) kk (gT X.K tg) (tN W F elt) cb σ H Q:=by
 obtain⟨H0,G,env,sr,o⟩:=h
 rw [aA] at o;refine⟨H0,G,env,sr,o.bind.imp λps n5 J G1 H1 g1 gi=>?_⟩
 by_cases qi:¬ps.length<dh
 ·rw [if_neg qi] at n5;exact n5.elim
 have hl:=Decidable.not_not.mp qi
 rw [if_pos hl] at n5;generalize hf:(λx=>(tg.put x (List.replicate kk .no++eC env cb)).bind λaf=>(aA F elt af).bind λy=>Res.ok (some y))=f at n5
 cases hc:aK f ps with
 |bad=>rw [hc] at n5;exact n5.elim
 |exc c=>
  exfalso
  have:∀(l:List PV) (c:Str),aK f l≠.exc c:=λl=>by
   induction l with
   |nil=>intro c z;cases z
   |cons a l ih=>
    intro c z;simp! [aK] at z;rcases Res.gN z with z|⟨o1,_,z⟩
    ·cases e:f a with
     |ok _=>rw [e] at z;cases z
     |exc _=>rw [e] at z;cases z
     |bad=>rw [e] at z;cases z
    ·rcases Res.gN z with z|⟨o2,_,z⟩
     ·exact ih c z
     ·cases z
  exact this _ _ hc
 |ok all=>
  rw [hc] at n5;obtain⟨xs,e1,fin⟩:=n5
  cases e1;have aX:=sr.grow g1
  refine⟨ps.length,CW W H0 G1 H1 (List.replicate kk .no++eC env cb) f ps,⟨Nat.zero_le _,G1,.refl g1.sub,rB kk aX hs nd,[],rfl,zzE _,.nil⟩,?_⟩
  rintro i made σ' H' ⟨hi,G',g',sr',zs,hz,Kf,l⟩
  refine⟨by rw [l.length];exact zzV (zzU Kf hi) (zzW hl (by decide)),?_⟩;obtain⟨ist,igo⟩:=gi.any i G' H' g'.g g'.h g'.sub
  by_cases hlast:i=ps.length
  ·refine .inl ⟨ist hlast,λp hp=>?_⟩
   rw [hlast,List.take_length,hc] at hz;cases hz;exact fin p made G' H' (g1.trans g') hp l
  ·have mj:i<ps.length:=by omega
   obtain⟨hgo,hyld⟩:=igo ps[i] (zzg mj)
   refine .inr ⟨hgo,mj,λx lC hy=>?_⟩
   obtain⟨vU,g'',rx⟩:=hyld x lC hy
   obtain⟨o1,ho,hnext⟩:=rf hc (zzg mj) hz
   rw [<-hf] at ho;obtain⟨af,he',ho⟩:=Res.aY ho
   obtain⟨y,Dx,ho⟩:=Res.aY ho
   cases ho;refine sP hK he' (sr'.grow g'') rx λσ2 fT=>⟨H0,vU,af,fT,y,Dx,λv G3 H3 g3 t=>?_⟩
   refine⟨mj,G3,g'.trans (g''.trans g3),(ip bX he' fT).grow g3,_,hnext,?_,?_⟩
   ·rw [zzM];show zs.length+1<=i+1;omega
   ·exact(ag.same (g''.trans g3).g zs l).append (.cons (t.rep df) .nil)
def mT(hK:W.K=X.K){kk:Nat}{cb:List Nat}{tg:Tg}{it:I}{c elt:E}{ys:List Str}(bX:jW kk tg=true)(df:fv elt=true)(hs:cb.map (λi=>N[i]?)=ys.map some)(nd:ys.Nodup)(σ:St)(H:Hp)(Q:VK)(h:tF X W F (.cA kk cb tg it c elt) σ H Q):
 ja (tI X W F it) kk (gT X.K tg) (NR W F c) (tN W F elt) cb σ H Q:=by
 obtain⟨H0,G,env,sr,o⟩:=h
 rw [aA] at o;refine⟨H0,G,env,sr,o.bind.imp λps n5 J G1 H1 g1 gi=>?_⟩
 by_cases qi:¬ps.length<dh
 ·rw [if_neg qi] at n5;exact n5.elim
 have hl:=Decidable.not_not.mp qi
 rw [if_pos hl] at n5;generalize hf:(λx=>(tg.put x (List.replicate kk .no++eC env cb)).bind λaf=>(aA F c af).bind λt=>se t λt=>if t then(aA F elt af).bind λy=>Res.ok (some y) else .ok none)=f at n5
 cases hc:aK f ps with
 |bad=>rw [hc] at n5;exact n5.elim
 |exc c=>
  exfalso
  have:∀(l:List PV) (c:Str),aK f l≠.exc c:=λl=>by
   induction l with
   |nil=>intro c z;cases z
   |cons a l ih=>
    intro c z;simp! [aK] at z;rcases Res.gN z with z|⟨o1,_,z⟩
    ·cases e:f a with
     |ok _=>rw [e] at z;cases z
     |exc _=>rw [e] at z;cases z
     |bad=>rw [e] at z;cases z
    ·rcases Res.gN z with z|⟨o2,_,z⟩
     ·exact ih c z
     ·cases z
  exact this _ _ hc
 |ok all=>
  rw [hc] at n5;obtain⟨xs,e1,fin⟩:=n5
  cases e1;have aX:=sr.grow g1
  refine⟨ps.length,CW W H0 G1 H1 (List.replicate kk .no++eC env cb) f ps,⟨Nat.zero_le _,G1,.refl g1.sub,rB kk aX hs nd,[],rfl,zzE _,.nil⟩,?_⟩
  rintro i made σ' H' ⟨hi,G',g',sr',zs,hz,Kf,l⟩
  refine⟨by rw [l.length];exact zzV (zzU Kf hi) (zzW hl (by decide)),?_⟩;obtain⟨ist,igo⟩:=gi.any i G' H' g'.g g'.h g'.sub
  by_cases hlast:i=ps.length
  ·refine .inl ⟨ist hlast,λp hp=>?_⟩
   rw [hlast,List.take_length,hc] at hz;cases hz;exact fin p made G' H' (g1.trans g') hp l
  ·have mj:i<ps.length:=by omega
   obtain⟨hgo,hyld⟩:=igo ps[i] (zzg mj)
   refine .inr ⟨hgo,mj,λx lC hy=>?_⟩
   obtain⟨vU,g'',rx⟩:=hyld x lC hy
   obtain⟨o1,ho,hnext⟩:=rf hc (zzg mj) hz
   rw [<-hf] at ho;obtain⟨af,he',ho⟩:=Res.aY ho
   obtain⟨t,ht,ho⟩:=Res.aY ho
   obtain⟨b,rfl⟩:∃b,t=.bl b:=by
    cases t<;>first|exact⟨_,rfl⟩|(cases ho)
   refine sP hK he' (sr'.grow g'') rx λσ2 fT=>⟨H0,vU,af,fT,b,ht,λG3 H3 g3=>?_⟩
   have iD:(if b=true then(aA F elt af).bind λy=>Res.ok (some y) else .ok none)=Res.ok o1:=ho
   cases b with
   |true=>
    rw [if_pos rfl] at iD;refine Qr ?_;obtain⟨y,Dx,iD⟩:=Res.aY iD
    cases iD;refine⟨H0,G3,af,fT.grow g3,y,Dx,λv G4 H4 g4 t4=>?_⟩
    refine⟨mj,G4,g'.trans (g''.trans (g3.trans g4)),(ip bX he' fT).grow (g3.trans g4),_,hnext,?_,?_⟩
    ·rw [zzM];show zs.length+1<=i+1;omega
    ·exact(ag.same (g''.trans (g3.trans g4)).g zs l).append (.cons (t4.rep df) .nil)
   |false=>
    rw [if_neg zzf] at iD;refine OS ?_;cases iD;refine⟨mj,G3,g'.trans (g''.trans g3),(ip bX he' fT).grow g3,_,hnext,?_,?_⟩
    ·rw [zzM];show zs.length+0<=i+1;omega
    ·show ag W G3 (zs++[]) made
     rw [zz6];exact ag.same (g''.trans g3).g zs l
def uY(C:dG Γ F W N sc k X){kk:Nat}{cb:List Nat}{tg:Tg}{it:I}{elt:E}{cM fb dR:Expr}{scope:Scope}{pos:Pos}(h:j4 N sc scope kk cb (aF cM))(bX:jW kk tg=true)(df:fv elt=true)(hi:GI X W F cM it fb)(xT:∀x,foldedSetIterable fb X.env x=pure x)
 (yw:fY (aF cM++freeOf scope) (cO scope sc) (kU scope) tg cM=true) (he:∀Y,dG Γ.BQ F W (aF cM++freeOf scope) (cO scope sc) k Y->GE Y W F elt dR):GF X W F (.comp kk cb tg it elt) (.ListComp dR [⟨cM,fb,[],0⟩] scope pos):=by
 intro aa s σ H Q I hq;have G9:(freeOf scope).Nodup:=(List.nodup_append.mp h.nd).2.1
 have rd:=vb (N:=N) C.K bX df h.slots G9 σ H Q hq
 have:=Dj (g:=gT X.K tg) (te:=tN W F elt) (xs:=aF cM) (ys:=freeOf scope) (is:=cb) (pos:=pos) C.calm (qe C.hN C.fe I.ok h) hi
  (λfp s1 H1 A=>yC (fn:=kU scope) (X:=bB X (aF cM++freeOf scope) scope (bW X.env (freeOf scope)) fp s1 H1 A) rfl h.nd (eA C.fe) rfl (λ_ z=>z) yw)
  (λfp s1 H1 A=>L2.PE.imp (he _ (d6 C h fp s1 H1 A)) λσ H Q z=>vW σ H Q z) xT aa s σ H Q I
 rw [h.len] at this;exact this rd
def nk(C:dG Γ F W N sc k X){kk:Nat}{cb:List Nat}{tg:Tg}{it:I}{c elt:E}{cM fb pc dR:Expr}{scope:Scope}{pos:Pos}(h:j4 N sc scope kk cb (aF cM))(bX:jW kk tg=true)(df:fv elt=true)(hi:GI X W F cM it fb)(xT:∀x,foldedSetIterable fb X.env x=pure x)
 (yw:fY (aF cM++freeOf scope) (cO scope sc) (kU scope) tg cM=true) (hc:∀Y,dG Γ.BQ F W (aF cM++freeOf scope) (cO scope sc) k Y->GT Y W F c pc) (he:∀Y,dG Γ.BQ F W (aF cM++freeOf scope) (cO scope sc) k Y->GE Y W F elt dR):
 GF X W F (.cA kk cb tg it c elt) (.ListComp dR [⟨cM,fb,[pc],0⟩] scope pos):=by
 intro aa s σ H Q I hq;have G9:(freeOf scope).Nodup:=(List.nodup_append.mp h.nd).2.1
 have rd:=mT (N:=N) C.K bX df h.slots G9 σ H Q hq
 have:=xy (g:=gT X.K tg) (tt:=NR W F c) (te:=tN W F elt) (xs:=aF cM) (ys:=freeOf scope) (is:=cb) (pos:=pos) C.calm (qe C.hN C.fe I.ok h) hi
  (λfp s1 H1 A=>yC (fn:=kU scope) (X:=bB X (aF cM++freeOf scope) scope (bW X.env (freeOf scope)) fp s1 H1 A) rfl h.nd (eA C.fe) rfl (λ_ z=>z) yw)
  (λfp s1 H1 A=>L2.PT.imp (hc _ (d6 C h fp s1 H1 A)) λσ H Q z=>Al σ H Q z)
  (λfp s1 H1 A=>L2.PE.imp (he _ (d6 C h fp s1 H1 A)) λσ H Q z=>vW σ H Q z) xT aa s σ H Q I
 rw [h.len] at this;exact this rd
variable{Z:List (Addr×Obj)}{G H:Hp}
theorem Mm(t:cW W G H)(sg:av G H)(zs:∀b o,Z.lookup b=some o->G b=some (.cN o um))(zc:∀b o,Z.lookup b=some o->∃v,o.data=.cell v):cW W (fA Z G) (fA Z H):=λP q m=>by
 obtain⟨n,ps,e,tr,al⟩:=t P q m
 refine⟨uK n,ps,?_,tr,λpos cv y=>?_⟩
 ·cases y:Z.lookup P with
  |none=>rw [eh y];exact e
  |some o=>rw [sg _ _ (zs P o y)] at e;cases e
 ·obtain⟨c',oc,tX,t',e1,e2,e3,e4⟩:=al pos cv y
  refine⟨c',oc,tX,t',e1,?_,e3,e4⟩;cases y:Z.lookup c' with
  |none=>rw [eh y];exact e2
  |some o=>
   rw [zs c' o y] at e2;cases e2;obtain⟨v,hv⟩:=zc c' _ y
   rw [e3] at hv;cases hv
def wL{G:Hp}{p:PV}{v:V}(h:Rep W G p v):∀{ps:List PV} {vs:List V},ag W G ps vs->ag W G (ps++[p]) (vs++[v]):=by
 intro ps
 induction ps with
 |nil=>
  intro vs t;have:=t.length
  cases vs with
  |nil=>exact .cons h .nil
  |cons _ _=>cases this
 |cons q ps ih=>
  intro vs t;obtain⟨u,r,rfl,h1,t⟩:=t.aZ
  exact .cons h1 (ih t)
def yH{G:Hp}:∀{ps:List PV} {vs:List V},ag W G ps vs->ag W G ps.reverse vs.reverse:=by
 intro ps
 induction ps with
 |nil=>
  intro vs t;have:=t.length
  cases vs with
  |nil=>exact .nil
  |cons _ _=>cases this
 |cons q ps ih=>
  intro vs t;obtain⟨u,r,rfl,h1,t⟩:=t.aZ
  rw [List.reverse_cons,List.reverse_cons];exact wL h1 (ih t)
theorem EA(C:dG Γ F W N sc k X){a:E}{pa:Expr}{p1 p2 pos uf:Pos}(hg:eO sc "list"=true)(hm:Γ.bs.contains "list"=true)(Nr:eO sc "reversed"=true)(F4:Γ.bs.contains "reversed"=true)(ha:GE X W F a pa)(he:starEach [pa] X.env=(false,eval pa X.env)::starEach [] X.env):
 GE X W F (.zM a) (.Call (.Name "list" p1) [.Call (.Name "reversed" p2) [pa] [] uf] [] pos):=
 (tj C.calm (dg C hg) (C.bs _ (zzn.mp hm)) (dg C Nr) (C.bs _ (zzn.mp F4)) ha he).imp λσ H Q h=>by
  obtain⟨H0,G,env,sr,o⟩:=h
  rw [aA] at o;refine one sr o λp v G1 H1 g t aX o1=>?_
  cases p with
  |lst xs=>
   obtain⟨l,vs,rfl,h1,l1⟩:=t.top.lst aX.sub
   exact⟨l,vs,rfl,iO C.K h1,λp hp=>dq.lst (W:=W) (G:=G1) (H:=H1) (xs:=xs.reverse) (λw G' H' g' gF=>o1 w G' H' (g.trans g') (.of gF)) aX.sub (yH l1) hp⟩
  |_=>exact zzk o1
end
end Ci
namespace L2
open PySem PySem.Spec PyProof.Rows PySem.W
noncomputable abbrev lO(acc:Array Value)(c:Nat):Obj:={cls:=.type "list",dict:=none,data:=.seq acc c,slots:=#[]}
end L2
namespace Ci
open PySem L2
section
variable{Γ:Pg}{X:Cx}{W:Wd}{F:aN}{N:List Str}{sc:Scope}{k:Nat}
theorem F8(C:dG Γ F W N sc k X){a b:E}{pa pk:Expr}{apos bz:Pos}(ha:GE X W F a pa)(hk:GE X W F b pk)(hb:attributeBase pa "get" X.env (eval pa X.env)=eval pa X.env)(hl:(apos.endLine==bz.line)=true)(hs:starEach [pk] X.env=(false,eval pk X.env)::starEach [] X.env):
 GE X W F (.get a b) (.Call (.Attribute pa "get" apos) [pk] [] bz):=
 (As (by have:=C.room.un;omega) ha hk ⟨hb,by rw [hs];rfl,hl,by rw [hs];rfl⟩).imp λσ H Q h=>by
  obtain⟨H0,G,env,sr,o⟩:=h
  rw [aA] at o;refine one sr o λp v G1 H1 g t aX o1=>?_
  cases p with
  |br ks vs=>
   obtain⟨d,us,rfl,n,hd,l⟩:=t.top.br aX.sub
   refine⟨d,rfl,.inr ⟨_,hd⟩,?_⟩;refine one aX o1 λq u G2 H2 g2 t2 fT o2=>?_
   obtain⟨d',us',e,n',hd',l'⟩:=(t.grow g2).top.br fT.sub
   cases e;cases hq:d5 q with
   |none=>
    have o3:Out X W ((Res.of (d5 q)).bind _) σ G2 H2 _:=o2
    rw [hq] at o3;exact zzk o3
   |some kk=>
    have o3:Out X W ((Res.of (d5 q)).bind _) σ G2 H2 _:=o2
    rw [hq] at o3;have mI:=dw hq
    subst mI;obtain⟨b',rfl,iJ⟩:=Top.tupI fT.sub rfl t2.top
    refine⟨_,.inr ⟨_,kk.map .inl,b',hd',rfl,?_,rfl⟩,?_⟩
    ·rw [fT.sub _ _ iJ,List.map_map];rfl
    ·rw [show iC (kz ks us') (kk.map .inl)=_ from iy kk ks us'];cases hv:ba ks vs kk with
     |some pv=>
      obtain⟨w',e1,gF⟩:=oy l' hv
      rw [e1];have o4:Out X W (Res.ok ((ba ks vs kk).getD .ay)) σ G2 H2 _:=o3
      rw [hv] at o4;exact o4 w' G2 H2 (g.trans g2) (.of gF)
     |none=>
      have:ba ks us' kk=none:=by
       have h1:=fH kk ks us' n'
       have h2:=fH kk ks vs (by rw [l'.length] at n';exact n')
       rw [hv] at h2;rw [<-h2] at h1;exact Option.isSome_eq_false_iff.mp h1 |> Option.isNone_iff_eq_none.mp
      rw [this];have o4:Out X W (Res.ok ((ba ks vs kk).getD .ay)) σ G2 H2 _:=o3
      rw [hv] at o4;exact o4 .ay G2 H2 (g.trans g2) (.of .n)
  |_=>exact zzk o1
end
end Ci
namespace St
open PySem
abbrev JS(xs:List Nat):Prop:=xs.Pairwise (·<·)
theorem kS{xs:Array Nat}{j:Nat}(hr:JS xs.toList):∀(fuel lo hi:Nat),hi-lo<=fuel->lo<=hi->hi<=xs.size->(∀i x,xs.toList[i]?=some x->i<lo->x<j)->(∀i x,xs.toList[i]?=some x->hi<=i->j<=x)->
 SetTable.below.go xs j fuel lo hi<=xs.size/\(∀i x,xs.toList[i]?=some x->i<SetTable.below.go xs j fuel lo hi->x<j)/\(∀i x,xs.toList[i]?=some x->SetTable.below.go xs j fuel lo hi<=i->j<=x)
 |0,lo,hi,h1,h2,h3,h4,h5=>by
  have:lo=hi:=by omega
  subst this;exact⟨h3,h4,h5⟩
 |fuel+1,lo,hi,h1,h2,h3,h4,h5=>by
  unfold SetTable.below.go
  by_cases hl:lo<hi
  ·rw [if_pos hl];have hm:(lo+hi)/2<xs.size:=by omega
   have e:xs.getD ((lo+hi)/2) j=xs[(lo+hi)/2]:=by simp [Array.getD,hm]
   have q:xs.toList[(lo+hi)/2]?=some xs[(lo+hi)/2]:=by simp [hm]
   have mono:∀i x k y,xs.toList[i]?=some x->xs.toList[k]?=some y->i<=k->x<=y:=λi x k y e1 e2 hle=>by
    rcases Nat.lt_or_ge i k with h|h
    ·obtain⟨a,b⟩:=zzH.1 e1
     obtain⟨c,d⟩:=zzH.1 e2
     have:=List.pairwise_iff_getElem.1 hr i k a c h
     omega
    ·have:i=k:=Nat.le_antisymm hle h
     subst this;rw [e1] at e2;cases e2;exact zzE _
   dsimp only
   by_cases hx:xs.getD ((lo+hi)/2) j<j
   ·rw [if_pos hx];rw [e] at hx;exact kS hr fuel _ _ (by omega) (by omega) h3 (λi x h hi=>zzV (mono _ _ _ _ h q (by omega)) hx) h5
   ·rw [if_neg hx];rw [e] at hx;exact kS hr fuel _ _ (by omega) (by omega) (by omega) h4 (λi x h hi=>zzU (by omega) (mono _ _ _ _ q h hi))
  ·rw [if_neg hl];have:lo=hi:=by omega
   subst this;exact⟨h3,h4,h5⟩
def jn{xs:Array Nat}(hr:JS xs.toList)(j:Nat):SetTable.below xs j<=xs.size/\(∀i x,xs.toList[i]?=some x->i<SetTable.below xs j->x<j)/\(∀i x,xs.toList[i]?=some x->SetTable.below xs j<=i->j<=x):=by
 refine kS hr xs.size 0 xs.size (by omega) (by omega) (zzE _) (λi x _ h=>by omega) (λi x h hi=>?_);have:=(zzH.1 h).1
 rw [zzd] at this;omega
def below_at{xs:Array Nat}(hr:JS xs.toList){i j:Nat}(h:xs.toList[i]?=some j):SetTable.below xs j=i:=by
 obtain⟨_,a,b⟩:=jn hr j
 rcases Nat.lt_trichotomy (SetTable.below xs j) i with z|z|z
 ·have hi:=(zzH.1 h).1
  have hb:SetTable.below xs j<xs.toList.length:=by omega
  have e:=zzg hb
  have h1:=b _ _ e (zzE _)
  have h2:=List.pairwise_iff_getElem.1 hr _ _ hb hi z
  have h3:=(zzH.1 h).2
  omega
 ·exact z
 ·have:=a _ _ h z
  omega
def xh{xs:Array Nat}{j:Nat}(h:j∉xs.toList):xs[SetTable.below xs j]?≠some j:=λz=>h (by
 rw [<-Array.getElem?_toList] at z;exact zzD z)
def nO{t:SetTable}(hr:JS t.place.toList){i j:Nat}(h:t.place.toList[i]?=some j):t.slot j=.live i:=by
 unfold SetTable.slot;rw [below_at hr h];have:(t.place[i]?==some j)=true:=by rw [<-Array.getElem?_toList,h];simp
 simp! [this,if_true]
def sV{t:SetTable}(hd:t.dummies=#[]){j:Nat}(h:j∉t.place.toList):t.slot j=.empty:=by
 unfold SetTable.slot;have h1:(t.place[SetTable.below t.place j]?==some j)=false:=beq_eq_false_iff_ne.mpr (xh h)
 have h2:SetTable.has t.dummies j=false:=by
  rw [hd];unfold SetTable.has;exact beq_eq_false_iff_ne.mpr (by simp)
 simp! [h1,h2,zze,if_false]
noncomputable def ps(mask:Nat)(h:Int):SetTable.Probe:={j:=SetTable.bits h%(mask+1),more:=SetTable.runEnd mask (SetTable.bits h%(mask+1))-SetTable.bits h%(mask+1),i:=SetTable.bits h%(mask+1),perturb:=SetTable.bits h,dummy:=none}
noncomputable def uG(mask:Nat)(p:SetTable.Probe):SetTable.Probe:=
 if p.more>0 then{p with j:=p.j+1,more:=p.more-1} else
 {p with j:=(SetTable.leap mask p.i p.perturb).1,more:=SetTable.runEnd mask (SetTable.leap mask p.i p.perturb).1-(SetTable.leap mask p.i p.perturb).1,i:=(SetTable.leap mask p.i p.perturb).1,perturb:=(SetTable.leap mask p.i p.perturb).2}
noncomputable def pr(mask:Nat)(h:Int):Nat->SetTable.Probe
 |0=>ps mask h
 |n+1=>uG mask (pr mask h n)
noncomputable abbrev sq(mask:Nat)(h:Int)(n:Nat):Nat:=(pr mask h n).j
theorem qM(mask:Nat)(h:Int):∀n,(pr mask h n).dummy=none
 |0=>rfl
 |n+1=>by
  show(uG mask (pr mask h n)).dummy=none
  unfold uG;split<;>exact qM mask h n
def Cs{t:SetTable}{f:Nat->Int}{h:Int}{fuel n i:Nat}(hs:t.slot (sq t.mask h n)=.live i)(dH:f i≠h):SetTable.probe.go t f h (fuel+1) (pr t.mask h n)=SetTable.probe.go t f h fuel (pr t.mask h (n+1)):=by
 have e:(f i==h)=false:=beq_eq_false_iff_ne.mpr dH
 rw [SetTable.probe.go,hs];simp! [e,zze,if_false]
 rfl
def DA{t:SetTable}{f:Nat->Int}{h:Int}{fuel n i:Nat}(hs:t.slot (sq t.mask h n)=.live i)(he:f i=h):SetTable.probe.go t f h (fuel+1) (pr t.mask h n)=some (.candidate (sq t.mask h n) i (pr t.mask h (n+1))):=by
 have e:(f i==h)=true:=zzy.mpr he
 rw [SetTable.probe.go,hs];simp! [e,if_true]
 rfl
def AS{t:SetTable}{f:Nat->Int}{h:Int}{fuel n:Nat}(hs:t.slot (sq t.mask h n)=.empty):SetTable.probe.go t f h (fuel+1) (pr t.mask h n)=some (.empty (sq t.mask h n) none):=by
 rw [SetTable.probe.go,hs];simp! [qM]
theorem la{t:SetTable}{f:Nat->Int}{h:Int}{N:Nat}(vN:∀m,m<N->∃i,t.slot (sq t.mask h m)=.live i)(wU:t.slot (sq t.mask h N)=.empty):∀(d n fuel:Nat),N-n=d->n<=N->d<fuel->
 (∃m i,n<=m/\m<N/\t.slot (sq t.mask h m)=.live i/\f i=h/\(∀k i',n<=k->k<m->t.slot (sq t.mask h k)=.live i'->f i'≠h)/\SetTable.probe.go t f h fuel (pr t.mask h n)=some (.candidate (sq t.mask h m) i (pr t.mask h (m+1))))\/
 ((∀k i',n<=k->k<N->t.slot (sq t.mask h k)=.live i'->f i'≠h)/\SetTable.probe.go t f h fuel (pr t.mask h n)=some (.empty (sq t.mask h N) none))
 |0,n,fuel+1,hd,hn,_=>by
  have:n=N:=by omega
  subst this;exact .inr ⟨λk i' a b=>by omega,AS wU⟩
 |d+1,n,fuel+1,hd,hn,hf=>by
  obtain⟨i,hi⟩:=vN n (by omega)
  by_cases he:f i=h
  ·exact .inl ⟨n,i,zzE _,by omega,hi,he,λk i' a b=>by omega,DA hi he⟩
  ·rw [Cs hi he];have first:∀i',t.slot (sq t.mask h n)=.live i'->f i'≠h:=λi' q=>by
    rw [hi] at q;cases q;exact he
   rcases la vN wU d (n+1) fuel (by omega) (by omega) (by omega) with⟨m,i',a,b,c,e,g,r⟩|⟨g,r⟩
   ·refine .inl ⟨m,i',by omega,b,c,e,λk i2 p q s=>?_,r⟩
    by_cases hk:k=n
    ·subst hk;exact first i2 s
    ·exact g k i2 (by omega) q s
   ·refine .inr ⟨λk i2 p q s=>?_,r⟩
    by_cases hk:k=n
    ·subst hk;exact first i2 s
    ·exact g k i2 (by omega) q s
def rX{α:Type}(xs:Array α)(p:Nat)(x:α):(SetTable.insertAt xs p x).toList=xs.toList.take p++x::xs.toList.drop p:=by
 exact SetTable.toList_insertAt ..
def cq{α:Type} [DecidableEq α]{U ks:List α}(nd:ks.Nodup)(h:∀k∈ks,k∈U):ks.length<=U.length:=by
 induction ks generalizing U with
 |nil=>exact Nat.zero_le _
 |cons a ks ih=>
  obtain⟨n1,n2⟩:=List.nodup_cons.1 nd
  have ha:=h a (zzP ..)
  have:=ih (U:=U.erase a) n2 λk hk=>(List.mem_erase_of_ne (λz:k=a=>n1 (by rw [<-z];exact hk))).2 (h k (zzI _ hk))
  rw [List.length_erase_of_mem ha] at this;have:=List.length_pos_of_mem ha
  rw [zzL];omega
def least{P:Nat->Prop}{B:Nat}:(∃n,n<B/\P n)->∃N,N<B/\P N/\∀m,m<N->¬P m:=by
 induction B with
 |zero=>rintro ⟨n,h,_⟩;omega
 |succ B ih=>
  rintro ⟨n,h,hp⟩
  by_cases hx:∃n,n<B/\P n
  ·obtain⟨N,a,b,c⟩:=ih hx
   exact⟨N,by omega,b,c⟩
  ·have:n=B:=Classical.byContradiction λz=>hx ⟨n,by omega,hp⟩
   subst this;exact⟨n,by omega,hp,λm hm z=>hx ⟨m,hm,z⟩⟩
def MG(mask:Nat)(h:Int):Prop:=∀j,j<=mask->∃n,n<10*SetTable.turns mask/\sq mask h n=j
structure lV(t:SetTable)(es:List (Int×Value)):Prop where
 Fc:JS t.place.toList
 le:∀j∈t.place.toList,j<=t.mask
 Mg:t.dummies=#[]
 len:t.place.toList.length=es.length
 path:∀(i j:Nat) (e:Int×Value),t.place.toList[i]?=some j->es[i]?=some e->∃n,sq t.mask e.1 n=j/\∀m,m<n->sq t.mask e.1 m∈t.place.toList
def lV.live{t:SetTable}{es:List (Int×Value)}(ok:lV t es){j:Nat}(h:j∈t.place.toList):∃i e,t.place.toList[i]?=some j/\es[i]?=some e/\t.slot j=.live i:=by
 obtain⟨i,hi,e⟩:=List.mem_iff_getElem.1 h
 have e1:t.place.toList[i]?=some j:=by rw [zzg hi,e]
 exact⟨i,es[i]'(by rw [<-ok.len];exact hi),e1,zzg (by rw [<-ok.len];exact hi),nO ok.Fc e1⟩
def lV.free{t:SetTable}{es:List (Int×Value)}(ok:lV t es){h:Int}(c:MG t.mask h)(hl:es.length<=t.mask):∃N,N<10*SetTable.turns t.mask/\sq t.mask h N∉t.place.toList/\∀m,m<N->sq t.mask h m∈t.place.toList:=by
 have:∃j,j<=t.mask/\j∉t.place.toList:=Classical.byContradiction λz=>by
  have:=cq (U:=t.place.toList) (ks:=List.range (t.mask+1)) List.nodup_range λk hk=>Classical.byContradiction λy=>z ⟨k,by have:=List.mem_range.1 hk;omega,y⟩
  rw [List.length_range,ok.len] at this;omega
 obtain⟨j,h1,h2⟩:=this
 obtain⟨n,h3,h4⟩:=c j h1
 obtain⟨N,a,b,d⟩:=least (P:=λn=>sq t.mask h n∉t.place.toList) ⟨n,h3,by rw [h4];exact h2⟩
 exact⟨N,a,b,λm hm=>Classical.byContradiction λz=>d m hm z⟩
def Il{mask:Nat}{p:SetTable.Probe}(h1:p.j+p.more<=mask)(h2:p.i<=mask):(uG mask p).j+(uG mask p).more<=mask/\(uG mask p).i<=mask:=by
 unfold uG;split
 ·exact⟨by dsimp only;omega,h2⟩
 ·have hl:(SetTable.leap mask p.i p.perturb).1<=mask:=by
   unfold SetTable.leap;exact Nat.le_of_lt_succ (Nat.mod_lt _ (Nat.succ_pos _))
  refine⟨?_,hl⟩;dsimp only;unfold SetTable.runEnd;split<;>omega
theorem zS(mask:Nat)(h:Int):∀n,(pr mask h n).j+(pr mask h n).more<=mask/\(pr mask h n).i<=mask
 |0=>by
  have hl:SetTable.bits h%(mask+1)<=mask:=Nat.le_of_lt_succ (Nat.mod_lt _ (Nat.succ_pos _))
  refine⟨?_,hl⟩;show SetTable.bits h%(mask+1)+(SetTable.runEnd mask (SetTable.bits h%(mask+1))-SetTable.bits h%(mask+1))<=mask;unfold SetTable.runEnd;split<;>omega
 |n+1=>Il (zS mask h n).1 (zS mask h n).2
def Ai(mask:Nat)(h:Int)(n:Nat):sq mask h n<=mask:=zzU (Nat.le_add_right _ _) (zS mask h n).1
def get_ins{α:Type}(xs:List α)(p:Nat)(hp:p<=xs.length)(x:α)(i:Nat):(xs.take p++x::xs.drop p)[i]?=if i<p then xs[i]? else if i=p then some x else xs[i-1]?:=by
 split
 ·rename_i h;rw [zzr (by rw [List.length_take];omega),List.getElem?_take_of_lt h]
 ·rename_i h;rw [zzs (by rw [List.length_take];omega),List.length_take,Nat.min_eq_left hp];split
  ·rename_i e;subst e;simp
  ·rename_i e;obtain⟨k,hk⟩:∃k,i-p=k+1:=⟨i-p-1,by omega⟩
   rw [hk,List.getElem?_cons_succ,List.getElem?_drop]
   congr 1
   omega
def Im{t:SetTable}{es:List (Int×Value)}(ok:lV t es){h:Int}{x:Value}{n:Nat}(hj:sq t.mask h n∉t.place.toList)(hp:∀m,m<n->sq t.mask h m∈t.place.toList):
 ∃p,p=(t.put (sq t.mask h n)).2/\p<=es.length/\(t.put (sq t.mask h n)).1.mask=t.mask/\(t.put (sq t.mask h n)).1.led=t.led/\(t.put (sq t.mask h n)).1.plain=t.plain/\lV (t.put (sq t.mask h n)).1 (es.take p++(h,x)::es.drop p):=by
 generalize hJ:sq t.mask h n=j at hj
 obtain⟨b1,b2,b3⟩:=jn ok.Fc j
 have hpl:SetTable.below t.place j<=t.place.toList.length:=by rw [zzd];exact b1
 have pl:(t.put j).1.place.toList=t.place.toList.take (SetTable.below t.place j)++j::t.place.toList.drop (SetTable.below t.place j):=rX ..
 have mem:∀y,y∈(t.put j).1.place.toList↔y=j\/y∈t.place.toList:=λy=>by
  rw [pl,List.mem_append,zzm]
  constructor
  ·rintro (z|z|z)
   ·exact .inr (List.mem_of_mem_take z)
   ·exact .inl z
   ·exact .inr (List.mem_of_mem_drop z)
  ·rintro (z|z)
   ·exact .inr (.inl z)
   ·rw [<-List.take_append_drop (SetTable.below t.place j) t.place.toList,List.mem_append] at z;rcases z with z|z
    ·exact .inl z
    ·exact .inr (.inr z)
 refine⟨SetTable.below t.place j,rfl,by rw [<-ok.len];exact hpl,rfl,rfl,rfl,?_,λy hy=>?_,?_,?_,λi jj e h1 h2=>?_⟩
 ·rw [pl];refine List.pairwise_append.2 ⟨ok.Fc.sublist (List.take_sublist ..),List.pairwise_cons.2 ⟨λy hy=>?_,ok.Fc.sublist (List.drop_sublist ..)⟩,λa ha b hb=>?_⟩
  ·obtain⟨k,hk⟩:=List.mem_iff_getElem?.1 hy
   rw [List.getElem?_drop] at hk;have:=b3 _ _ hk (by omega)
   exact Nat.lt_of_le_of_ne this λz=>hj (by rw [z];exact zzD hk)
  ·obtain⟨k,hk⟩:=List.mem_iff_getElem?.1 ha
   have Jy:k<SetTable.below t.place j:=by
    have:=(zzH.1 hk).1
    rw [List.length_take] at this;omega
   rw [List.getElem?_take_of_lt Jy] at hk;have h1:=b2 _ _ hk Jy
   rcases zzm.1 hb with rfl|hb
   ·exact h1
   ·obtain⟨l,hl⟩:=List.mem_iff_getElem?.1 hb
    rw [List.getElem?_drop] at hl;have:=b3 _ _ hl (by omega)
    exact zzW h1 this
 ·rcases(mem y).1 hy with rfl|z
  ·rw [<-hJ];exact Ai ..
  ·exact ok.le y z
 ·show(if SetTable.has t.dummies j then SetTable.eraseAt t.dummies (SetTable.below t.dummies j) else t.dummies)=#[]
  have h2:SetTable.has t.dummies j=false:=by
   rw [ok.Mg];unfold SetTable.has;exact beq_eq_false_iff_ne.mpr (by simp)
  rw [h2,if_neg zzf];exact ok.Mg
 ·rw [pl];have:=ok.len
  simp! [zzM,zzL,List.length_take,List.length_drop];omega
 ·show∃n,sq t.mask e.1 n=jj/\_
  rw [pl,get_ins _ _ hpl] at h1;rw [get_ins _ _ (by rw [<-ok.len];exact hpl)] at h2;split at h1
  ·rename_i hi;rw [if_pos hi] at h2;obtain⟨k,a,b⟩:=ok.path _ _ _ h1 h2
   exact⟨k,a,λm hm=>(mem _).2 (.inr (b m hm))⟩
  ·rename_i hi;rw [if_neg hi] at h2;split at h1
   ·rename_i hi2;rw [if_pos hi2] at h2;cases h1;cases h2;exact⟨n,hJ,λm hm=>(mem _).2 (.inr (hp m hm))⟩
   ·rename_i hi2;rw [if_neg hi2] at h2;obtain⟨k,a,b⟩:=ok.path _ _ _ h1 h2
    exact⟨k,a,λm hm=>(mem _).2 (.inr (b m hm))⟩
def Gj(f m:Nat)(l:Bool):lV (SetTable.fresh f m l) []:=⟨.nil,(λj h=>by cases h),rfl,rfl,λi j e h=>by cases h⟩
def yK{α:Type}(es:List α)(p:Nat)(x:α):(es.take p++x::es.drop p).Perm (x::es):=by
 have:=List.perm_middle (a:=x) (l₁:=es.take p) (l₂:=es.drop p)
 rwa [List.take_append_drop] at this
noncomputable def ws(mask:Nat)(h:Int):Nat->Nat×Nat
 |0=>(SetTable.bits h%(mask+1),SetTable.bits h)
 |w+1=>SetTable.leap mask (ws mask h w).1 (ws mask h w).2
def wt(mask:Nat)(h:Int):Prop:=∀j,j<=mask->∃w,w<SetTable.turns mask/\(ws mask h w).1<=j/\j<=SetTable.runEnd mask (ws mask h w).1
def m4(mask i:Nat):i<=SetTable.runEnd mask i:=by
 unfold SetTable.runEnd;split<;>omega
structure JQ(mask:Nat)(h:Int)(n i perturb:Nat):Prop where
 jj:(pr mask h n).j=i
 ii:(pr mask h n).i=i
 pe:(pr mask h n).perturb=perturb
 mo:(pr mask h n).more=SetTable.runEnd mask i-i
def PL(mask:Nat)(h:Int):JQ mask h 0 (ws mask h 0).1 (ws mask h 0).2:=⟨rfl,rfl,rfl,rfl⟩
theorem JQ.in{mask:Nat}{h:Int}{n i perturb:Nat}(b:JQ mask h n i perturb):∀k,k<=SetTable.runEnd mask i-i->(pr mask h (n+k)).j=i+k/\(pr mask h (n+k)).i=i/\(pr mask h (n+k)).perturb=perturb/\(pr mask h (n+k)).more=SetTable.runEnd mask i-i-k
 |0,_=>⟨b.jj,b.ii,b.pe,b.mo⟩
 |k+1,hk=>by
  obtain⟨a1,a2,a3,a4⟩:=b.in k (by omega)
  have hm:(pr mask h (n+k)).more>0:=by omega
  show(uG mask (pr mask h (n+k))).j=_/\(uG mask (pr mask h (n+k))).i=_/\(uG mask (pr mask h (n+k))).perturb=_/\(uG mask (pr mask h (n+k))).more=_
  unfold uG;rw [if_pos hm];exact⟨by dsimp only;omega,a2,a3,by dsimp only;omega⟩
def JQ.next{mask:Nat}{h:Int}{n i perturb:Nat}(b:JQ mask h n i perturb):JQ mask h (n+(SetTable.runEnd mask i-i)+1) (SetTable.leap mask i perturb).1 (SetTable.leap mask i perturb).2:=by
 obtain⟨a1,a2,a3,a4⟩:=b.in _ (zzE _)
 have hm:¬(pr mask h (n+(SetTable.runEnd mask i-i))).more>0:=by omega
 have e:pr mask h (n+(SetTable.runEnd mask i-i)+1)={pr mask h (n+(SetTable.runEnd mask i-i)) with j:=(SetTable.leap mask i perturb).1,more:=SetTable.runEnd mask (SetTable.leap mask i perturb).1-(SetTable.leap mask i perturb).1,i:=(SetTable.leap mask i perturb).1,perturb:=(SetTable.leap mask i perturb).2}:=by
  show uG mask (pr mask h (n+(SetTable.runEnd mask i-i)))=_
  unfold uG;rw [if_neg hm,a2,a3]
 exact⟨by rw [e],by rw [e],by rw [e],by rw [e]⟩
theorem nj{mask:Nat}{h:Int}{owner:Array (Option Nat)}:∀(fuel n i perturb j:Nat),JQ mask h n i perturb->SetTable.layClean.free mask owner fuel i perturb=some j->∃m,n<=m/\sq mask h m=j/\(owner.getD j (some 0)).isNone=true/\∀k,n<=k->k<m->(owner.getD (sq mask h k) (some 0)).isNone=false
 |0,_,_,_,_,_,h=>by cases h
 |fuel+1,n,i,perturb,j,b,h=>by
  rw [SetTable.layClean.free] at h;cases hf:(List.range (SetTable.runEnd mask i+1-i)).find? λk=>(owner.getD (i+k) (some 0)).isNone with
  |some k=>
   rw [hf] at h;cases h;obtain⟨h1,h2,h3⟩:=List.find?_range_eq_some.1 hf
   have hk:k<=SetTable.runEnd mask i-i:=by
    have:=List.mem_range.1 h2
    have:=m4 mask i
    omega
   refine⟨n+k,by omega,(b.in k hk).1,h1,λm a c=>?_⟩
   obtain⟨d,rfl⟩:=Nat.exists_eq_add_of_le a
   show(owner.getD (pr mask _ (n+d)).j (some 0)).isNone=false
   rw [(b.in d (by omega)).1];have:=h3 d (by omega)
   simpa using this
  |none=>
   rw [hf] at h;obtain⟨m,a,c,d,e⟩:=nj fuel _ _ _ j b.next h
   have hn:=List.find?_range_eq_none.1 hf
   refine⟨m,by omega,c,d,λk x y=>?_⟩
   by_cases hk:k<=n+(SetTable.runEnd mask i-i)
   ·obtain⟨q,rfl⟩:=Nat.exists_eq_add_of_le x
    show(owner.getD (pr mask _ (n+q)).j (some 0)).isNone=false
    rw [(b.in q (by omega)).1];have:=m4 mask i
    have:=hn q (by omega)
    simpa using this
   ·exact e k (by omega) y
theorem nV{mask:Nat}{h:Int}{owner:Array (Option Nat)}:∀(fuel w:Nat),SetTable.layClean.free mask owner fuel (ws mask h w).1 (ws mask h w).2=none->∀v,w<=v->v<w+fuel->∀j,(ws mask h v).1<=j->j<=SetTable.runEnd mask (ws mask h v).1->(owner.getD j (some 0)).isNone=false
 |0,w,_,v,a,b,_,_,_=>by omega
 |fuel+1,w,h0,v,a,b,j,c,d=>by
  rw [SetTable.layClean.free] at h0;cases hf:(List.range (SetTable.runEnd mask (ws mask h w).1+1-(ws mask h w).1)).find? λk=>(owner.getD ((ws mask h w).1+k) (some 0)).isNone with
  |some k=>rw [hf] at h0;cases h0
  |none=>
   rw [hf] at h0
   by_cases hv:v=w
   ·subst hv;have hn:=List.find?_range_eq_none.1 hf (j-(ws mask h v).1) (by omega)
    rw [show(ws mask h v).1+(j-(ws mask h v).1)=j by omega] at hn
    simpa using hn
   ·exact nV fuel (w+1) h0 v (by omega) (by omega) j c d
structure AW(mask:Nat)(hs:List Int)(js:List Nat)(owner:Array (Option Nat)):Prop where
 size:owner.size=mask+1
 len:js.length=hs.length
 at_:∀(k j:Nat),js[k]?=some j->owner[j]?=some (some k)
 of:∀(j k:Nat),owner[j]?=some (some k)->js[k]?=some j
 path:∀(k j:Nat) (h:Int),js[k]?=some j->hs[k]?=some h->∃n,sq mask h n=j/\∀m,m<n->sq mask h m∈js
def AW.Oy{mask:Nat}{hs:List Int}{js:List Nat}{owner:Array (Option Nat)}(l:AW mask hs js owner){j:Nat}(hj:j<=mask):(owner.getD j (some 0)).isNone=false↔j∈js:=by
 have qU:j<owner.size:=by rw [l.size];omega
 have e:owner.getD j (some 0)=owner[j]:=by simp [Array.getD,qU]
 have e2:owner[j]?=some owner[j]:=by simp [qU]
 rw [e]
 constructor
 ·intro z;cases hx:owner[j] with
  |none=>rw [hx] at z;cases z
  |some k=>
   rw [hx] at e2;exact zzD (l.of j k e2)
 ·intro z;obtain⟨k,hk⟩:=List.mem_iff_getElem?.1 z
  have:=l.at_ k j hk
  rw [e2] at this;rw [zzq this]
  rfl
def AW.step{mask:Nat}{hs:List Int}{js:List Nat}{owner:Array (Option Nat)}(l:AW mask hs js owner){h:Int}(c:wt mask h)(hl:hs.length<=mask):∃j,SetTable.layClean.free mask owner (SetTable.turns mask) (SetTable.bits h%(mask+1)) (SetTable.bits h)=some j/\AW mask (hs++[h]) (js++[j]) (owner.setIfInBounds j (some hs.length)):=by
 have:∃j,j<=mask/\j∉js:=Classical.byContradiction λz=>by
  have:=cq (U:=js) (ks:=List.range (mask+1)) List.nodup_range λk hk=>Classical.byContradiction λy=>z ⟨k,by have:=List.mem_range.1 hk;omega,y⟩
  rw [List.length_range,l.len] at this;omega
 obtain⟨j0,h1,h2⟩:=this
 cases hf:SetTable.layClean.free mask owner (SetTable.turns mask) (SetTable.bits h%(mask+1)) (SetTable.bits h) with
 |none=>
  obtain⟨w,a,b,d⟩:=c j0 h1
  exact absurd ((l.Oy h1).1 (nV (h:=h) (SetTable.turns mask) 0 hf w (Nat.zero_le _) (by omega) j0 b d)) h2
 |some j=>
  obtain⟨m,_,hm,hn,hp⟩:=nj (h:=h) _ 0 _ _ j (PL mask h) hf
  have Ug:j<=mask:=by rw [<-hm];exact Ai ..
  have hj:j∉js:=λz=>by
   have:=(l.Oy Ug).2 z
   rw [hn] at this;cases this
  have Tc:j<owner.size:=by rw [l.size];omega
  refine⟨j,rfl,by rw [Array.size_setIfInBounds];exact l.size,by rw [zzM,zzM,l.len];rfl,λk i hk=>?_,λi k hk=>?_,λk i h' hk hh=>?_⟩
  ·by_cases Jy:k<js.length
   ·rw [zzr Jy] at hk;have ne:j≠i:=λz=>hj (by rw [z];exact zzD hk)
    rw [Array.getElem?_setIfInBounds_ne ne];exact l.at_ k i hk
   ·rw [zzs (by omega)] at hk;have NQ:k-js.length=0:=by
     have:=(zzH.1 hk).1
     rw [List.length_singleton] at this;omega
    rw [NQ] at hk;cases hk;have:k=hs.length:=by have:=l.len;omega
    rw [this];simp [Tc]
  ·by_cases oD:j=i
   ·subst oD;have:(owner.setIfInBounds j (some hs.length))[j]?=some (some hs.length):=by simp [Tc]
    rw [this] at hk;cases hk;rw [<-l.len];simp
   ·rw [Array.getElem?_setIfInBounds_ne oD] at hk;have:=l.of i k hk
    rw [zzr (zzH.1 this).1];exact this
  ·by_cases Jy:k<js.length
   ·rw [zzr Jy] at hk;rw [zzr (by rw [<-l.len];exact Jy)] at hh;obtain⟨n,x,y⟩:=l.path k i h' hk hh
    exact⟨n,x,λq hq=>zzc _ (y q hq)⟩
   ·rw [zzs (by omega)] at hk;rw [zzs (by rw [<-l.len];omega)] at hh;have NQ:k-js.length=0:=by
     have:=(zzH.1 hk).1
     rw [List.length_singleton] at this;omega
    rw [NQ] at hk;rw [<-l.len,NQ] at hh;cases hk;cases hh;exact⟨m,hm,λq hq=>zzc _ ((l.Oy (Ai ..)).1 (hp q (Nat.zero_le _) hq))⟩
noncomputable def BE(mask:Nat)(acc:Option (Array (Option Nat)×Nat))(h:Int):Option (Array (Option Nat)×Nat):=do
 let(owner,k)<-acc
 let j<-SetTable.layClean.free mask owner (SetTable.turns mask) (SetTable.bits h%(mask+1)) (SetTable.bits h)
 pure (owner.setIfInBounds j (some k),k+1)
theorem qL{mask:Nat}:∀(rest done:List Int) (js:List Nat) (owner:Array (Option Nat)),AW mask done js owner->(∀h∈rest,wt mask h)->done.length+rest.length<=mask+1->∃Ph pJ,rest.foldl (BE mask) (some (owner,done.length))=some (pJ,(done++rest).length)/\AW mask (done++rest) Ph pJ
 |[],done,js,owner,l,_,_=>⟨js,owner,by simp,by rw [zz6];exact l⟩
 |h::rest,done,js,owner,l,hc,hl=>by
  rw [zzL] at hl;obtain⟨j,e,l1⟩:=l.step (hc h (zzP ..)) (by omega)
  obtain⟨Ph,pJ,e2,l2⟩:=qL rest (done++[h]) _ _ l1 (λx hx=>hc x (zzI _ hx)) (by rw [zzM,List.length_singleton];omega)
  rw [List.append_assoc] at e2 l2;refine⟨Ph,pJ,?_,l2⟩;rw [List.foldl_cons];have:BE mask (some (owner,done.length)) h=some (owner.setIfInBounds j (some done.length),(done++[h]).length):=by
   unfold BE;simp! [Option.bind_eq_bind,Option.bind_some,e,zzM,List.length_singleton]
   rfl
  rw [this];exact e2
def qH{mask:Nat}(hs:Array Int)(hc:∀h∈hs.toList,wt mask h)(hl:hs.size<=mask+1):∃js owner,SetTable.layClean mask hs=some owner/\AW mask hs.toList js owner:=by
 have l0:AW mask [] [] (Array.replicate (mask+1) none):=⟨by simp,rfl,(λk j h=>by cases h),(λj k h=>by
  rw [Array.getElem?_replicate] at h;split at h<;>cases h),(λk j h a=>by cases a)⟩
 obtain⟨js,owner,e,l⟩:=qL hs.toList [] [] _ l0 hc (by rw [List.length_nil,zzd];omega)
 rw [List.nil_append] at e l;refine⟨js,owner,?_,l⟩;unfold SetTable.layClean;have:hs.foldl (init:=some (Array.replicate (mask+1) none,0)) (BE mask)=some (owner,hs.toList.length):=by
  rw [<-Array.foldl_toList];exact e
 show Option.map (·.1) (hs.foldl (init:=some (Array.replicate (mask+1) none,0)) (BE mask))=_
 rw [this]
 rfl
noncomputable def lv(mask:Nat)(owner:Array (Option Nat)):List (Nat×Nat):=(List.range (mask+1)).filterMap λj=>(owner.getD j none).map (j,·)
def gz{mask:Nat}{hs:List Int}{js:List Nat}{owner:Array (Option Nat)}(l:AW mask hs js owner){j k:Nat}:(j,k)∈lv mask owner↔js[k]?=some j:=by
 unfold lv;rw [zz1]
 constructor
 ·rintro ⟨x,hx,h⟩
  obtain⟨y,hy,e⟩:=zzJ.1 h
  obtain⟨rfl,rfl⟩:=Prod.mk.inj e
  have hl:=List.mem_range.1 hx
  have:owner[x]?=some (some y):=by
   have e:owner.getD x none=owner[x]'(by rw [l.size];exact hl):=by simp [Array.getD,l.size,hl]
   rw [e] at hy;rw [zz2 (by rw [l.size];exact hl),hy]
  exact l.of _ _ this
 ·intro h;have h1:=l.at_ _ _ h
  have hj:j<owner.size:=(Array.getElem?_eq_some_iff.1 h1).1
  refine⟨j,List.mem_range.2 (by rw [<-l.size];exact hj),?_⟩;have e:owner.getD j none=owner[j]:=by simp [Array.getD,hj]
  rw [e,(Array.getElem?_eq_some_iff.1 h1).2]
  rfl
def zd(mask:Nat)(owner:Array (Option Nat)):((lv mask owner).map (·.1)).Sublist (List.range (mask+1)):=by
 unfold lv;generalize List.range (mask+1)=L
 induction L with
 |nil=>exact .slnil
 |cons a L ih=>
  rw [List.filterMap_cons];cases h:owner.getD a none with
  |none=>exact ih.cons _
  |some k=>exact ih.cons₂ _
def zT(mask:Nat)(owner:Array (Option Nat)):JS ((lv mask owner).map (·.1)):=List.Pairwise.sublist (zd mask owner) List.pairwise_lt_range
def IF{mask:Nat}{hs:List Int}{js:List Nat}{owner:Array (Option Nat)}(l:AW mask hs js owner):((lv mask owner).map (·.2)).Perm (List.range hs.length):=by
 have nd:((lv mask owner).map (·.2)).Nodup:=by
  refine List.pairwise_map.2 ?_;have h1:(lv mask owner).Pairwise λa b=>a.1<b.1:=List.pairwise_map.1 (zT mask owner)
  refine List.Pairwise.imp_of_mem (λ{a b} ha hb bX z=>?_) h1;have e1:=(gz l).1 (show(a.1,a.2)∈lv mask owner from ha)
  have e2:=(gz l).1 (show(b.1,b.2)∈lv mask owner from hb)
  rw [z,e2] at e1;have:=zzq e1
  omega
 refine(List.perm_ext_iff_of_nodup nd List.nodup_range).2 λk=>?_
 rw [zzx,List.mem_range,<-l.len]
 constructor
 ·rintro ⟨⟨j,k'⟩,h,rfl⟩
  exact(zzH.1 ((gz l).1 h)).1
 ·exact λh=>⟨(js[k],k),(gz l).2 (zzg h),rfl⟩
theorem A9{α β:Type}{f:α->Option β}{g:α->β}:∀{l:List α},(∀a∈l,f a=some (g a))->l.filterMap f=l.map g
 |[],_=>rfl
 |a::l,h=>by
  rw [List.filterMap_cons,h a (zzP ..),zzF,A9 λb hb=>h b (zzI _ hb)]
def DY{mask finger moves:Nat}{led plain:Bool}(es:Array (Int×Value))(hc:∀e∈es.toList,wt mask e.1)(hl:es.size<=mask+1):∃t order,SetTable.laid mask finger moves led plain (es.map (·.1))=some (t,order)/\t.mask=mask/\t.led=led/\t.plain=plain/\(order.filterMap (es[·]?)).toList.Perm es.toList/\lV t (order.filterMap (es[·]?)).toList:=by
 obtain⟨js,owner,e,l⟩:=qH (mask:=mask) (es.map (·.1)) (λh hh=>by
  rw [Array.toList_map] at hh;obtain⟨x,hx,rfl⟩:=zzx.1 hh
  exact hc x hx) (by rw [Array.size_map];exact hl)
 have hlen:(es.map (·.1)).toList.length=es.toList.length:=by rw [Array.toList_map,zzl]
 have sn:=IF l
 rw [hlen] at sn;have lt:∀p∈lv mask owner,p.2<es.toList.length:=λp hp=>List.mem_range.1 (sn.subset (List.mem_map_of_mem hp))
 have E:((((lv mask owner).map (·.2)).toArray).filterMap (es[·]?)).toList=(lv mask owner).map λp=>(es.toList[p.2]?).getD (0,.none):=by
  rw [Array.toList_filterMap];show((lv mask owner).map (·.2)).filterMap (es[·]?)=_
  rw [List.filterMap_map];exact A9 λp hp=>by
   show es[p.2]?=some ((es.toList[p.2]?).getD (0,.none))
   rw [<-Array.getElem?_toList,zzg (lt p hp)]
   rfl
 refine⟨⟨mask,((lv mask owner).map (·.1)).toArray,#[],finger,led,moves,plain⟩,((lv mask owner).map (·.2)).toArray,?_,rfl,rfl,rfl,?_,?_⟩
 ·unfold SetTable.laid;rw [e]
  rfl
 ·rw [E];have:((lv mask owner).map λp=>(es.toList[p.2]?).getD (0,.none))=((lv mask owner).map (·.2)).map λk=>(es.toList[k]?).getD (0,.none):=by rw [List.map_map];rfl
  rw [this];refine(sn.map _).trans ?_;have:(List.range es.toList.length).map (λk=>(es.toList[k]?).getD (0,.none))=es.toList:=by
   refine List.ext_getElem (by simp) λi h1 h2=>?_
   rw [List.getElem_map,List.getElem_range,zzg h2]
   rfl
  rw [this]
 ·rw [E];have mem:∀j,j∈(lv mask owner).map (·.1)↔j∈js:=λj=>by
   rw [zzx]
   constructor
   ·rintro ⟨⟨j',k⟩,h,rfl⟩
    exact zzD ((gz l).1 h)
   ·intro h;obtain⟨k,hk⟩:=List.mem_iff_getElem?.1 h
    exact⟨(j,k),(gz l).2 hk,rfl⟩
  refine⟨zT mask owner,λj hj=>?_,rfl,by show((lv mask owner).map (·.1)).length=_;rw [zzl,zzl],λi j x h1 h2=>?_⟩
  ·have:=List.mem_range.1 ((zd mask owner).subset hj)
   show j<=mask
   omega
  ·replace h1:((lv mask owner).map (·.1))[i]?=some j:=h1
   rw [zzQ,zzJ] at h1 h2;obtain⟨p,hp,rfl⟩:=h1
   obtain⟨q,hq,rfl⟩:=h2
   rw [hp] at hq;cases hq;have hm:=(gz l).1 (show(p.1,p.2)∈lv mask owner from zzD hp)
   have bX:=lt p (zzD hp)
   have hh:(es.map (·.1)).toList[p.2]?=some ((es.toList[p.2]?).getD (0,.none)).1:=by
    rw [Array.toList_map,zzQ,zzg bX]
    rfl
   obtain⟨n,a,b⟩:=l.path _ _ _ hm hh
   exact⟨n,a,λm hm=>(mem _).2 (b m hm)⟩
noncomputable def seen(mask:Nat):Nat->SetTable.Probe->List Nat->List Nat
 |0,_,out=>out
 |n+1,p,out=>seen mask n (uG mask p) (if out.contains p.j then out else p.j::out)
theorem vf{mask:Nat}{h:Int}:∀(n k:Nat) (out:List Nat),(∀j∈out,∃m,m<k/\sq mask h m=j)->∀j∈seen mask n (pr mask h k) out,∃m,m<k+n/\sq mask h m=j
 |0,k,out,ho,j,hj=>by obtain⟨m,a,b⟩:=ho j hj;exact⟨m,by omega,b⟩
 |n+1,k,out,ho,j,hj=>by
  obtain⟨m,a,b⟩:=vf n (k+1) (if out.contains (pr mask h k).j then out else(pr mask h k).j::out) (λi hi=>by
   split at hi
   ·obtain⟨m,a,b⟩:=ho i hi
    exact⟨m,by omega,b⟩
   ·rcases zzm.1 hi with rfl|hi
    ·exact⟨k,by omega,rfl⟩
    ·obtain⟨m,a,b⟩:=ho i hi
     exact⟨m,by omega,b⟩) j hj
  exact⟨m,by omega,b⟩
noncomputable def HI(mask:Nat)(h:Int):Bool:=(List.range (mask+1)).all λj=>(seen mask (10*SetTable.turns mask) (ps mask h) []).contains j
theorem vz{mask:Nat}{h:Int}(c:HI mask h=true):MG mask h:=λj hj=>by
 have:=zzT.1 c j (List.mem_range.2 (by omega))
 obtain⟨m,a,b⟩:=vf (mask:=mask) (h:=h) (10*SetTable.turns mask) 0 [] (λj hj=>by cases hj) j (zzn.1 this)
 exact⟨m,by omega,b⟩
noncomputable def LM(mask:Nat)(h:Int):Bool:=(List.range (mask+1)).all λj=>(List.range (SetTable.turns mask)).any λw=>decide ((ws mask h w).1<=j)&&decide (j<=SetTable.runEnd mask (ws mask h w).1)
theorem EM{mask:Nat}{h:Int}(c:LM mask h=true):wt mask h:=λj hj=>by
 obtain⟨w,hw,e⟩:=zzj.1 (zzT.1 c j (List.mem_range.2 (by omega)))
 rw [zza,zzN,zzN] at e;exact⟨w,List.mem_range.1 hw,e⟩
section
variable{prog:Program}{w:World}{K:Type} [DecidableEq K](knd:KeyKind prog w K)
def TK(h:Heap)(k:List K)(a:Addr):Prop:=∃o items n,h.get? a=some o/\o.cls=.type "tuple"/\o.data=.seq items n/\ItemsAre knd k items.toList/\∀v∈items.toList,plainKind v=true
def aG(h:Heap)(e:Int×Value)(k:List K):Prop:=∃b,e=(tupleKeyHash knd k,.ref b)/\TK knd h k b
variable{knd}
variable{A:Around}{E:Value->Shared->Prop}{s:Shared}
theorem TK.key{h:Heap}{k:List K}{a:Addr}(x:TK knd h k a):IsTupleKey knd h k a:=let⟨o,i,n,a,b,c,d,_⟩:=x;⟨o,i,n,a,b,c,d⟩
def TK.inj{h:Heap}{k k':List K}{a:Addr}(x:TK knd h k a)(y:TK knd h k' a):k=k':=x.key.inj y.key
def aG.inj{h:Heap}{e:Int×Value}{k k':List K}(x:aG knd h e k)(y:aG knd h e k'):k=k':=by
 obtain⟨b,rfl,t⟩:=x
 obtain⟨b',e,t'⟩:=y
 have:b=b':=by
  have:=congrArg Prod.snd e
  exact Value.ref.inj this
 subst this;exact t.inj t'
def rZ(n:Nat){v:Value}(h:carriedByValue v=true):ofAClassStatement n v=pure false:=by
 cases v with
 |ref a=>simp [carriedByValue] at h
 |_=>first|rfl|simp [ofAClassStatement]|(unfold ofAClassStatement;rfl)
def nt{k:List K}{a:Addr}{Q:Bool->Shared->Prop}(hk:IsTupleKey knd s.heap k a)(h:Q false s):wpAny (model prog w) A (ofAClassStatement 8 (.ref a)) Q E s:=by
 have hT:=hk.typeIs
 obtain⟨o,items,n,ho,_,hd,hi⟩:=hk
 unfold ofAClassStatement;refine zzA (wpAny_typeOf hT ?_);dsimp only;rw [if_pos (by decide)];refine zzA (zzG ?_);simp! [Bool.not_true,zze,if_false];refine zzA (wpAny_seqItems ho hd ?_);dsimp only;refine zzA ?_;rw [<-Array.forIn_toList];refine wpAny_forIn_list _ (λrest r s'=>r.1=none/\s'=s/\∀v∈rest,carriedByValue v=true) _ ?_ ?_ _ _ ⟨rfl,rfl,hi.byValue⟩
 ·rintro v rest r s' ⟨hr,rfl,fS⟩
  rw [rZ _ (fS v zzP)];refine zzA (zzG ?_);simp! [zze,if_false];exact zzG ⟨rfl,rfl,λu yf=>fS u (zzI _ yf)⟩
 ·rintro ⟨r1,r2⟩ s' ⟨hr,rfl,_⟩
  simp only at hr;subst hr;exact zzG h
def q9{k:List K}{a:Addr}{Q:Bool->Shared->Prop}(hk:IsTupleKey knd s.heap k a)(L:List Value)(hL:∀v∈L,∃b k',v=.ref b/\IsTupleKey knd s.heap k' b)(h:Q false s):wpAny (model prog w) A (searchCouldBeSeen (.ref a) L) Q E s:=by
 unfold searchCouldBeSeen;refine zzA ?_;refine wpAny_forIn_list _ (λrest r s'=>r.1=none/\s'=s/\∀v∈rest,∃b k',v=.ref b/\IsTupleKey knd s.heap k' b) _ ?_ ?_ _ _ ⟨rfl,rfl,hL⟩
 ·rintro v rest r s' ⟨hr,rfl,fS⟩
  have Ft:∀u∈rest,∃b k',u=.ref b/\IsTupleKey knd s'.heap k' b:=λu yf=>fS u (zzI _ yf)
  obtain⟨b,k',rfl,hb⟩:=fS v zzP
  dsimp only;split
  ·exact zzG ⟨rfl,rfl,Ft⟩
  ·refine zzA (wpAny_eqIsQuiet_tuple hk ?_);simp! [Bool.not_true,zze,if_false];refine zzA (wpAny_eqIsQuiet_tuple hb ?_);simp! [Bool.not_true,zze,if_false];refine zzA (nt hk ?_);simp! [zze,if_false];refine zzA (nt hb ?_);simp! [zze,if_false];exact zzG ⟨rfl,rfl,Ft⟩
 ·rintro ⟨r1,r2⟩ s' ⟨hr,rfl,_⟩
  simp only at hr;subst hr;exact zzG h
def wK(n:Nat){v:Value}(h:plainKind v=true):hashByValue n v=pure true:=by
 cases n<;>cases v<;>simp_all [plainKind,hashByValue]
def wF{k:List K}{a:Addr}{Q:Bool->Shared->Prop}(hk:TK knd s.heap k a)(h:Q true s):wpAny (model prog w) A (hashByValue 8 (.ref a)) Q E s:=by
 have hT:=hk.key.typeIs
 obtain⟨o,items,n,ho,_,hd,_,hi⟩:=hk
 unfold hashByValue;refine zzA (wpAny_specialOf hT F.slot_tuple_hash.lookup ?_);dsimp only;refine zzA (wpAny_seqItems ho hd ?_);refine zzA ?_;show wpAny _ _ (forIn items _ _) _ _ s;rw [<-Array.forIn_toList];refine wpAny_forIn_list _ (λrest r s'=>r.1=none/\s'=s/\∀v∈rest,plainKind v=true) _ ?_ ?_ _ _ ⟨rfl,rfl,hi⟩
 ·rintro v rest r s' ⟨hr,rfl,fS⟩
  rw [wK _ (fS v zzP)];refine zzA (zzG ?_);simp! [Bool.not_true,zze,if_false];exact zzG ⟨rfl,rfl,λu yf=>fS u (zzI _ yf)⟩
 ·rintro ⟨r1,r2⟩ s' ⟨hr,rfl,_⟩
  simp only at hr;subst hr;exact zzG h
end
section
variable{prog:Program}{w:World}{K:Type} [DecidableEq K](knd:KeyKind prog w K)
structure tU(h:Int):Prop where
 c7:MG 7 h
 UR:MG 31 h
 Vk:wt 31 h
structure fQ(h:Heap)(a:Addr)(es:List (Int×Value)):Prop where
 ex:∃o arr ep t,h.get? a=some o/\o.ExactSet/\o.data=.set arr ep t/\arr.toList=es/\lV t es/\t.plain=true/\t.led=(!w.params.followText "set-order")/\((t.mask=7/\es.length<=4)\/(t.mask=31/\es.length<=18))
 key:∀e∈es,∃k,aG knd h e k/\tU e.1
 nd:es.Pairwise λe e'=>∀k,aG knd h e k->¬aG knd h e' k
variable{knd}
variable{A:Around}{E:Value->Shared->Prop}{s:Shared}
def lV.fits{t:SetTable}{arr:Array (Int×Value)}(ok:lV t arr.toList)(hl:arr.toList.length<=t.mask):t.fits arr.size=true:=by
 have h1:t.place.size=arr.size:=by have:=ok.len;rwa [zzd,zzd] at this
 have h2:t.fill<=t.mask:=by
  unfold SetTable.fill;rw [ok.Mg,h1]
  simpa using hl
 simp [SetTable.fits,h1,h2]
def wO{a b:Addr}{o:Obj}{arr:Array (Int×Value)}{ep:Nat}{t:SetTable}{k:List K}{N:Nat}(hu:A.units<cLine)(ho:s.heap.get? a=some o)(hd:o.data=.set arr ep t)(ok:lV t arr.toList)(hl:arr.toList.length<=t.mask)(O8:t.mask%2=1)
 (hk:∀e∈arr.toList,∃k,aG knd s.heap e k) (hb:TK knd s.heap k b) (hN:N<10*SetTable.turns t.mask) (hf:sq t.mask (tupleKeyHash knd k) N∉t.place.toList) (hp:∀m,m<N->sq t.mask (tupleKeyHash knd k) m∈t.place.toList) {Q:SetFound->Shared->Prop}
 (q1:(∃e∈arr.toList,aG knd s.heap e k)->Q (.there none) s) (q2:(∀e∈arr.toList,¬aG knd s.heap e k)->Q (.free (sq t.mask (tupleKeyHash knd k) N) false) s):
 ∀(d n fuel:Nat) (mW:Option SetTable.Probe),mW.getD (t.probeStart (tupleKeyHash knd k))=pr t.mask (tupleKeyHash knd k) n->N-n=d->n<=N->d<fuel->
 (∀m i e,m<n->t.slot (sq t.mask (tupleKeyHash knd k) m)=.live i->arr.toList[i]?=some e->¬aG knd s.heap e k)->wpAny (model prog w) A (setSearchFrom a (.ref b) (tupleKeyHash knd k) true fuel mW) Q E s:=by
 have vN:∀m,m<N->∃i,t.slot (sq t.mask (tupleKeyHash knd k) m)=.live i:=λm hm=>by
  obtain⟨i,_,_,_,z⟩:=ok.live (hp m hm)
  exact⟨i,z⟩
 have wU:=sV ok.Mg hf
 have TC:t.gaveWay=false:=by
  unfold SetTable.gaveWay;rw [O8]
  rfl
 intro d
 induction d using Nat.strongRecOn with
 |ind d ih=>
  intro n fuel mW hs hd1 hn hfu hbef;cases fuel with
  |zero=>omega
  |succ fuel=>
   unfold setSearchFrom;refine zzA (wpAny_setState_of ho hd (ok.fits hl) ?_);dsimp only;rw [TC];simp! [zze,if_false];rw [hs];unfold SetTable.probe;generalize hG:SetTable.probe.go t _ (tupleKeyHash knd k) (10*SetTable.turns t.mask) (pr t.mask (tupleKeyHash knd k) n)=G
   have fx:∀(i:Nat) (e:Int×Value),arr.toList[i]?=some e->((arr[i]?.map (·.1)).getD 0:Int)=e.1:=λi e z=>by
    rw [<-Array.getElem?_toList,z]
    rfl
   rcases la (f:=λi=>((arr[i]?.map (·.1)).getD 0:Int)) vN wU d n (10*SetTable.turns t.mask) hd1 hn (by omega) with⟨m,i,a1,a2,a3,a4,a5,a6⟩|⟨a5,a6⟩
   ·have eG:G=some (.candidate (sq t.mask (tupleKeyHash knd k) m) i (pr t.mask (tupleKeyHash knd k) (m+1))):=hG.symm.trans a6
    subst eG;obtain⟨i',e,b1,b2,b3⟩:=ok.live (hp m a2)
    rw [a3] at b3;cases b3;have he:=zzD b2
    obtain⟨k',bk,rfl,tk⟩:=hk e he
    have NO:arr[i]?=some (tupleKeyHash knd k',.ref bk):=by rw [<-Array.getElem?_toList];exact b2
    have sm:t.sameMemory t.moves t.mask=some true:=by
     unfold SetTable.sameMemory;rw [if_pos (beq_self_eq_true _)]
    have eU:∀m' i2 e2,m'<m+1->t.slot (sq t.mask (tupleKeyHash knd k) m')=.live i2->arr.toList[i2]?=some e2->k'≠k->¬aG knd s.heap e2 k:=λm' i2 e2 z1 z2 z3 z4=>by
     by_cases h1:m'<n
     ·exact hbef m' i2 e2 h1 z2 z3
     ·by_cases h2:m'=m
      ·subst h2;rw [a3] at z2;cases z2;rw [b2] at z3;cases z3;exact λy=>z4 (aG.inj ⟨bk,rfl,tk⟩ y)
      ·have:=a5 m' i2 (by omega) (by omega) z2
       rw [fx i2 e2 z3] at this
       rintro ⟨b',rfl,_⟩
       exact this rfl
    have go:k'≠k->wpAny (model prog w) A (setSearchFrom a (.ref b) (tupleKeyHash knd k) true fuel (some (pr t.mask (tupleKeyHash knd k) (m+1)))) Q E s:=λz=>
     ih (N-(m+1)) (by omega) (m+1) fuel _ rfl rfl (by omega) (by omega) λm' i2 e2 z1 z2 z3=>eU m' i2 e2 z1 z2 z3 z
    dsimp only;cases uI:t.led
    ·simp! [Bool.not_false,if_true,NO];refine zzA (q9 hb.key _ (λv hv=>?_) ?_)
     ·obtain⟨x,hx,rfl⟩:=zzx.1 hv
      have oX:x∈arr.toList:=by
       rw [Array.toList_filter] at hx;exact(List.mem_filter.1 hx).1
      obtain⟨k2,b2,rfl,t2⟩:=hk x oX
      exact⟨b2,k2,rfl,t2.key⟩
     ·simp! [zze,if_false];refine zzA (wpAny_holding (wpAny_eqBool_tuple hu tk.key hb.key ?_));refine zzA (wpAny_setState_of ho hd (ok.fits hl) ?_)
      by_cases hkk:k'=k
      ·subst hkk;simp! [decide_true,Bool.and_self,if_true];exact zzG (q1 ⟨_,he,bk,rfl,tk⟩)
      ·simp! [hkk,decide_false,Bool.and_false,zze,if_false,sm,if_true,a3,NO];refine zzA (wpAny_isSame_ref_self ?_);simp! [if_true];refine zzA (zzG ?_);simp only;exact go hkk
    ·simp! [Bool.not_true,zze,if_false,NO];refine zzA (wpAny_holding (wpAny_eqBool_tuple hu tk.key hb.key ?_));refine zzA (wpAny_setState_of ho hd (ok.fits hl) ?_)
     by_cases hkk:k'=k
     ·subst hkk;simp! [decide_true,Bool.and_self,if_true];exact zzG (q1 ⟨_,he,bk,rfl,tk⟩)
     ·simp! [hkk,decide_false,Bool.and_false,zze,if_false,sm,if_true,a3,NO];refine zzA (wpAny_isSame_ref_self ?_);simp! [if_true];refine zzA (zzG ?_);simp only;exact go hkk
   ·have eG:G=some (.empty (sq t.mask (tupleKeyHash knd k) N) none):=hG.symm.trans a6
    subst eG;dsimp only;refine zzG (q2 λe he z=>?_);obtain⟨i,hi⟩:=List.mem_iff_getElem?.1 he
    have sN:i<t.place.toList.length:=by rw [ok.len];exact(zzH.1 hi).1
    obtain⟨n',c1,c2⟩:=ok.path i _ e (zzg sN) hi
    have e1:e.1=tupleKeyHash knd k:=by
     obtain⟨b',rfl,_⟩:=z
     rfl
    rw [e1] at c1 c2;have Qc:n'<N:=by
     rcases Nat.lt_trichotomy n' N with y|y|y
     ·exact y
     ·rw [y] at c1;exact absurd (by rw [c1];exact List.getElem_mem sN) hf
     ·exact absurd (c2 N y) hf
    have sl:t.slot (sq t.mask (tupleKeyHash knd k) n')=.live i:=by
     rw [c1];exact nO ok.Fc (zzg sN)
    by_cases h1:n'<n
    ·exact hbef n' i e h1 sl hi z
    ·exact a5 n' i (by omega) Qc sl ((fx i e hi).trans e1)
end
section
variable{prog:Program}{w:World}{K:Type} [DecidableEq K]{knd:KeyKind prog w K}
variable{A:Around}{E:Value->Shared->Prop}{s:Shared}
def TK.keeps{h h':Heap}{k:List K}{a b:Addr}{o:Obj}{es ep t}(x:TK knd h k b)(ho:h.get? a=some o)(hd:o.data=.set es ep t)(hs:Heap.SameBut a h h'):TK knd h' k b:=by
 obtain⟨o',items,n,iD,hc,hd',hi⟩:=x
 have dH:b≠a:=by
  rintro rfl
  obtain rfl:o'=o:=zzq (iD.symm.trans ho)
  rw [hd] at hd';exact nomatch hd'
 exact⟨o',items,n,(hs.2 b dH).trans iD,hc,hd',hi⟩
def aG.keeps{h h':Heap}{k:List K}{a:Addr}{e:Int×Value}{o:Obj}{es ep t}(x:aG knd h e k)(ho:h.get? a=some o)(hd:o.data=.set es ep t)(hs:Heap.SameBut a h h'):aG knd h' e k:=by
 obtain⟨b,e,t⟩:=x
 exact⟨b,e,t.keeps ho hd hs⟩
structure iZ(knd:KeyKind prog w K)(h:Heap)(es:List (Int×Value)):Prop where
 key:∀e∈es,∃k,aG knd h e k/\tU e.1
 nd:es.Pairwise λe e'=>∀k,aG knd h e k->¬aG knd h e' k
def iZ.keeps{h h':Heap}{a:Addr}{es:List (Int×Value)}{o:Obj}{arr ep t}(x:iZ knd h es)(ho:h.get? a=some o)(hd:o.data=.set arr ep t)(hs:Heap.SameBut a h h'):iZ knd h' es:=by
 refine⟨λe he=>?_,List.Pairwise.imp_of_mem (λ{e e'} he he' dH k z z'=>?_) x.nd⟩
 ·obtain⟨k,z,c⟩:=x.key e he
  exact⟨k,z.keeps ho hd hs,c⟩
 ·obtain⟨k1,y1,_⟩:=x.key e he
  obtain⟨k2,y2,_⟩:=x.key e' he'
  have e1:=(y1.keeps ho hd hs).inj z
  have e2:=(y2.keeps ho hd hs).inj z'
  subst e1 e2;exact dH _ y1 y2
def iZ.perm{h:Heap}{es rl:List (Int×Value)}(x:iZ knd h es)(p:rl.Perm es):iZ knd h rl:=
 ⟨λe he=>x.key e (p.subset he),(p.symm.pairwise_iff (λ{a b} Q2 k z z'=>Q2 k z' z)).1 x.nd⟩
def iZ.cons{h:Heap}{es:List (Int×Value)}{k:List K}{b:Addr}(x:iZ knd h es)(hb:TK knd h k b)(hc:tU (tupleKeyHash knd k))(hn:∀e∈es,¬aG knd h e k):iZ knd h ((tupleKeyHash knd k,.ref b)::es):=by
 refine⟨λe he=>?_,List.pairwise_cons.2 ⟨λe he k' z z'=>?_,x.nd⟩⟩
 ·rcases zzm.1 he with rfl|he
  ·exact⟨k,⟨b,rfl,hb⟩,hc⟩
  ·exact x.key e he
 ·have:=z.inj ⟨b,rfl,hb⟩
  subst this;exact hn e he z'
def fQ.ents{h:Heap}{a:Addr}{es:List (Int×Value)}(S:fQ knd h a es):iZ knd h es:=⟨S.key,S.nd⟩
def stored{h:Heap}{a:Addr}{o:Obj}{arr ep t}{arr':Array (Int×Value)}{t':SetTable}(ho:h.get? a=some o)(hx:o.ExactSet)(hd:o.data=.set arr ep t):∃o',(h.update a (Obj.putSet arr' t')).get? a=some o'/\o'.ExactSet/\o'.data=.set arr' (ep+1) t':=by
 refine⟨{o with data:=.set arr' (ep+1) t'},?_,hx,rfl⟩;rw [Heap.get?_update_self _ ho (by rw [putSet_of arr' t' hd];rfl),putSet_of arr' t' hd]
def zm{a:Addr}{o:Obj}{arr:Array (Int×Value)}{ep:Nat}{t:SetTable}(ho:s.heap.get? a=some o)(hx:o.ExactSet)(hd:o.data=.set arr ep t)(ok:lV t arr.toList)(hl:arr.toList.length<=t.mask)(hp:t.plain=true)(uI:t.led=(!w.params.followText "set-order"))(h5:arr.toList.length=5)(X:iZ knd s.heap arr.toList){Q:Unit->Shared->Prop}
 (q:∀h' rl,Heap.SameBut a s.heap h'->fQ knd h' a rl->rl.Perm arr.toList->Q () {s with heap:=h'}):wpAny (model prog w) A (setRelay a (SetTable.grown 5)) Q E s:=by
 unfold setRelay;refine zzA (wpAny_setState_of ho hd (ok.fits hl) ?_);dsimp only;have hz:¬SetTable.sizeAbove (SetTable.grown 5)>sizeLine:=by rw [sizeLine_eq];decide
 rw [if_neg hz];have hsz:arr.size=5:=by rw [<-zzd];exact h5
 obtain⟨t',order,e,m1,m2,m3,pm,ok'⟩:=DY (mask:=31) (finger:=t.finger) (moves:=t.movedTo 31) (led:=t.led) (plain:=t.plain) arr (λx hx=>by obtain⟨_,_,c⟩:=X.key x hx;exact c.Vk) (by omega)
 have er:t.relaid (arr.map (·.1)) (SetTable.grown 5)=some (t',order):=e
 rw [er];have sz:((order.filterMap (arr[·]?)).size !=arr.size)=false:=by
  rw [<-zzd,pm.length_eq,zzd];simp
 refine zzA ?_;show wpAny _ _ (if((order.filterMap (arr[·]?)).size !=arr.size)=true then unsupported _ else pure (order.filterMap (arr[·]?),t')) _ _ s;rw [sz,if_neg zzf];refine zzG ?_;have Qq:(order.filterMap (arr[·]?)).toList.length=5:=by rw [pm.length_eq];exact h5
 refine wpAny_storeSet_of ho hd ?_ (by rw [<-zzd,Qq,sizeLine_eq];decide);obtain⟨o',g1,g2,g3⟩:=stored (arr':=order.filterMap (arr[·]?)) (t':=t') ho hx hd
 have sb:=zzu s.heap a (Obj.putSet (order.filterMap (arr[·]?)) t')
 have X':=(X.keeps ho hd sb).perm pm
 exact q _ _ sb ⟨⟨o',_,_,t',g1,g2,g3,rfl,ok',m3.trans hp,m2.trans uI,.inr ⟨m1,by omega⟩⟩,X'.key,X'.nd⟩ pm
def IK{a b:Addr}{k:List K}{es:List (Int×Value)}(hu:A.units<cLine)(S:fQ knd s.heap a es)(hb:TK knd s.heap k b)(hc:tU (tupleKeyHash knd k))(Ua:(∀e∈es,¬aG knd s.heap e k)->es.length<=17){Q:Bool->Shared->Prop}
 (q:∀h' rl c,Heap.SameBut a s.heap h'->fQ knd h' a rl->((∃e∈es,aG knd s.heap e k)/\rl=es\/(∀e∈es,¬aG knd s.heap e k)/\rl.Perm ((tupleKeyHash knd k,.ref b)::es))->Q c {s with heap:=h'}):
 wpAny (model prog w) A (setAddHashed a (.ref b) (tupleKeyHash knd k)) Q E s:=by
 obtain⟨o,arr,ep,t,ho,hx,hd,rfl,ok,hp,uI,hm⟩:=S.ex
 have NS:arr.toList.length<=t.mask:=by omega
 have cv:MG t.mask (tupleKeyHash knd k):=by
  rcases hm with⟨z,_⟩|⟨z,_⟩
  ·rw [z];exact hc.c7
  ·rw [z];exact hc.UR
 obtain⟨N,n1,n2,n3⟩:=ok.free cv NS
 unfold setAddHashed;refine wpAny_holding ?_;unfold setAddHashedIn;refine zzA (wpAny_setState_of ho hd (ok.fits NS) ?_);have bs:byScan (.ref b) arr=false:=rfl
 dsimp only;rw [bs];simp! [zze,if_false];refine zzA ?_;unfold setSearch;refine wO (knd:=knd) (N:=N) hu ho hd ok NS (by omega) (λe he=>by obtain⟨k',z,_⟩:=S.key e he;exact⟨k',z⟩) hb n1 n2 n3 (λz=>?_) (λz=>?_) N 0 100000 none rfl (by omega) (by omega) ?_ (λm i e h=>by omega)
 ·dsimp only;have:=q s.heap arr.toList false (Heap.SameBut.refl a s.heap) S (.inl ⟨z,rfl⟩)
  exact zzG this
 ·have hl:=Ua z
  dsimp only;refine zzA (wpAny_setState_of ho hd (ok.fits NS) ?_);obtain⟨p,pe,pl,q1,q2,q3,ok2⟩:=Im (x:=.ref b) ok n2 n3
  have e1:(SetTable.insertAt arr p (tupleKeyHash knd k,Value.ref b)).toList=arr.toList.take p++(tupleKeyHash knd k,.ref b)::arr.toList.drop p:=rX ..
  have pm:=yK arr.toList p (tupleKeyHash knd k,Value.ref b)
  have zu:(SetTable.insertAt arr p (tupleKeyHash knd k,Value.ref b)).toList.length=arr.toList.length+1:=by rw [e1,pm.length_eq,zzL]
  dsimp only;generalize hput:t.put (sq t.mask (tupleKeyHash knd k) N)=pt at *
  obtain⟨t2,p2⟩:=pt
  dsimp only at q1 q2 q3 ok2 pe⊢;subst pe;rw [q3,hp,if_pos rfl];refine zzA (wF hb ?_);simp! [if_true];have X2:iZ knd s.heap (arr.toList.take p++(tupleKeyHash knd k,.ref b)::arr.toList.drop p):=(S.ents.cons hb hc z).perm pm
  refine zzA (wpAny_storeSet_of ho hd ?_ (by rw [<-zzd,zu,sizeLine_eq];omega));obtain⟨o',g1,g2,g3⟩:=stored (arr':=SetTable.insertAt arr p (tupleKeyHash knd k,Value.ref b)) (t':=t2) ho hx hd
  have sb:=zzu s.heap a (Obj.putSet (SetTable.insertAt arr p (tupleKeyHash knd k,Value.ref b)) t2)
  have X3:=X2.keeps ho hd sb
  rw [<-e1] at X3 ok2 pm;have Fm:t2.fill=arr.toList.length+1:=by
   unfold SetTable.fill;rw [ok2.Mg,<-zzd,ok2.len,zu];simp
  have Vp:arr.size=arr.toList.length:=(zzd).symm
  simp! [Bool.not_false,Bool.true_and]
  by_cases hf:t2.tooFull=true
  ·rw [if_pos hf];have h4:arr.toList.length=4/\t.mask=7:=by
    unfold SetTable.tooFull at hf;have:=zzY hf
    rw [Fm,q1] at this;rcases hm with⟨z1,z2⟩|⟨z1,z2⟩
    ·rw [z1] at this;omega
    ·rw [z1] at this;omega
   have e5:arr.size+1=5:=by omega
   rw [e5];refine zzA (zm (knd:=knd) (s:={s with heap:=s.heap.update a (Obj.putSet (SetTable.insertAt arr p (tupleKeyHash knd k,Value.ref b)) t2)}) g1 g2 g3 ok2 (by rw [zu,q1];omega) (q3.trans hp) (q2.trans uI) (by rw [zu];omega) X3 λh' rl Qh S2 Uy=>?_)
   exact zzG (q h' rl true (sb.trans Qh) S2 (.inr ⟨z,Uy.trans pm⟩))
  ·rw [if_neg hf];refine zzG (q _ _ true sb ⟨⟨o',_,_,t2,g1,g2,g3,rfl,ok2,q3.trans hp,q2.trans uI,?_⟩,X3.key,X3.nd⟩ (.inr ⟨z,pm⟩));rw [q1,zu];rcases hm with⟨z1,z2⟩|⟨z1,z2⟩
   ·refine .inl ⟨z1,?_⟩;have:¬(t2.fill*5>=t2.mask*3):=λy=>hf (zzh y)
    rw [Fm,q1,z1] at this;omega
   ·exact .inr ⟨z1,by omega⟩
 ·have:SetTable.turns t.mask<=46:=by
   unfold SetTable.turns;rcases hm with⟨z1,_⟩|⟨z1,_⟩<;>rw [z1]<;>decide
  omega
end
section
variable{prog:Program}{w:World}{K:Type} [DecidableEq K]{knd:KeyKind prog w K}
variable{A:Around}{s:Shared}
def TK.move{h h':Heap}{k:List K}{b I:Addr}{oI:Obj}(x:TK knd h k b)(hI:h.get? I=some oI)(hc:oI.cls≠.type "tuple")(hk:∀b o,b≠I->h.get? b=some o->h'.get? b=some o):TK knd h' k b:=by
 obtain⟨o,items,n,ho,c,r⟩:=x
 refine⟨o,items,n,hk b o (λz=>?_) ho,c,r⟩;subst z;rw [hI] at ho;cases ho;exact hc c
def aG.move{h h':Heap}{k:List K}{e:Int×Value}{I:Addr}{oI:Obj}(x:aG knd h e k)(hI:h.get? I=some oI)(hc:oI.cls≠.type "tuple")(hk:∀b o,b≠I->h.get? b=some o->h'.get? b=some o):aG knd h' e k:=by
 obtain⟨b,e,t⟩:=x
 exact⟨b,e,t.move hI hc hk⟩
def JX(knd:KeyKind prog w K)(h:Heap)(es:List (Int×Value))(P:List K->Prop):Prop:=∀k,(∃e∈es,aG knd h e k)↔P k
def fQ.move{h h':Heap}{a I:Addr}{es:List (Int×Value)}{oI:Obj}{P:List K->Prop}(S:fQ knd h a es)(H:JX knd h es P)(hI:h.get? I=some oI)(hc:oI.cls≠.type "tuple")(ha:a≠I)(hk:∀b o,b≠I->h.get? b=some o->h'.get? b=some o):fQ knd h' a es/\JX knd h' es P:=by
 have back:∀e∈es,∀k,aG knd h' e k->aG knd h e k:=λe he k z=>by
  obtain⟨k1,y,_⟩:=S.key e he
  have:=(y.move hI hc hk).inj z
  subst this;exact y
 obtain⟨o,arr,ep,t,ho,r⟩:=S.ex
 refine⟨⟨⟨o,arr,ep,t,hk a o ha ho,r⟩,λe he=>?_,List.Pairwise.imp_of_mem (λ{e e'} he he' dH k z z'=>dH k (back e he k z) (back e' he' k z')) S.nd⟩,λk=>?_⟩
 ·obtain⟨k,y,c⟩:=S.key e he
  exact⟨k,y.move hI hc hk,c⟩
 ·rw [<-H k];exact⟨λ⟨e,he,z⟩=>⟨e,he,back e he k z⟩,λ⟨e,he,z⟩=>⟨e,he,z.move hI hc hk⟩⟩
def fQ.Dh{h:Heap}{a:Addr}{es:List (Int×Value)}(S:fQ knd h a es){U:List (List K)}(hU:∀e∈es,∀k,aG knd h e k->k∈U):es.length<=U.length:=by
 have key:∀es:List (Int×Value),(∀e∈es,∃k,aG knd h e k)->(es.Pairwise λe e'=>∀k,aG knd h e k->¬aG knd h e' k)->∃ks:List (List K),ks.length=es.length/\ks.Nodup/\∀k∈ks,∃e∈es,aG knd h e k:=by
  intro es
  induction es with
  |nil=>exact λ_ _=>⟨[],rfl,List.nodup_nil,λk hk=>by cases hk⟩
  |cons e es ih=>
   intro h1 h2;obtain⟨p1,p2⟩:=List.pairwise_cons.1 h2
   obtain⟨ks,a1,a2,a3⟩:=ih (λx hx=>h1 x (zzI _ hx)) p2
   obtain⟨k,z⟩:=h1 e (zzP ..)
   refine⟨k::ks,by rw [zzL,zzL,a1],List.nodup_cons.2 ⟨λy=>?_,a2⟩,λk' hk'=>?_⟩
   ·obtain⟨e',he',z'⟩:=a3 k y
    exact p1 e' he' k z z'
   ·rcases zzm.1 hk' with rfl|hk'
    ·exact⟨e,zzP ..,z⟩
    ·obtain⟨e',he',z'⟩:=a3 k' hk'
     exact⟨e',zzI _ he',z'⟩
 obtain⟨ks,a1,a2,a3⟩:=key es (λe he=>by obtain⟨k,z,_⟩:=S.key e he;exact⟨k,z⟩) S.nd
 rw [<-a1];exact cq a2 λk hk=>by
  obtain⟨e,he,z⟩:=a3 k hk
  exact hU e he k z
def xg{R:Result->Shared->Prop}{S I l:Addr}{items:Array Value}{kf:Nat->List K}{U:List (List K)}(hu:A.units+1<cLine)(hh:A.handled=none)(CV:S≠I)(Kb:S≠l)(UZ:l≠I)(hU:∀i,i<items.size->kf i∈U/\tU (tupleKeyHash knd (kf i)))(Oc:U.length<=18)(s0:Shared)
 (h0:∀i v,items[i]?=some v->∃b,v=.ref b/\b≠S/\b≠I/\TK knd s0.heap (kf i) b)
 (hR:∀h' tk es,fQ knd h' S es->JX knd h' es (λk=>∃j,j<items.size/\k=kf j)->(∀e∈es,∃j:Nat,items[j]?=some e.2)->(∀b o,b≠S->b≠I->s0.heap.get? b=some o->h'.get? b=some o)->R (.ok (.ret .none)) {s0 with heap:=h',toks:=tk}):
 ∀(d i:Nat) (h:Heap) (tk:Nat) (es:List (Int×Value)),items.size-i=d->i<=items.size->h.IsListIter I l i/\h.IsList l items->fQ knd h S es->JX knd h es (λk=>∃j,j<i/\k=kf j)->(∀e∈es,∃j:Nat,items[j]?=some e.2)->(∀b o,b≠S->b≠I->s0.heap.get? b=some o->h.get? b=some o)->
  codeAny (model prog w) A (.builtin "set.update.loop" ⟨[.ref S,.ref I],[]⟩) R {s0 with heap:=h,toks:=tk}:=by
 have W:=Walks.list (prog:=prog) (w:=w) (A:=A.in1) hh I l UZ items
 intro d
 induction d with
 |zero=>
  intro i h tk es hd hi st T Hs mm kp;have Gu:i=items.size:=by omega
  subst Gu;refine codeAny_builtin PyProof.Rows.F.entry_set_update_loop ?_;rw [zz7 PyProof.Rows.F.plain_set_update_loop _];obtain⟨oI,gI,cI,_⟩:=id st.1
  refine zzA (W.done {s0 with heap:=h,toks:=tk} _ _ st λh' Bp k'=>?_);have kk:∀b o,b≠I->h.get? b=some o->h'.get? b=some o:=λb o hb e=>k' b o (by simpa using hb) e
  obtain⟨T',H'⟩:=T.move Hs gI (by rw [cI];decide) CV kk
  exact zzG (hR h' Bp es T' H' mm λb o h1 h2 e=>kk b o h2 (kp b o h1 h2 e))
 |succ d ih=>
  intro i h tk es hd hi st T Hs mm kp;have bX:i<items.size:=by omega
  refine codeAny_builtin PyProof.Rows.F.entry_set_update_loop ?_;rw [zz7 PyProof.Rows.F.plain_set_update_loop _];obtain⟨oI,gI,cI,_⟩:=id st.1
  refine zzA (W.item i {s0 with heap:=h,toks:=tk} _ _ bX st λv h' Bp hP eY k'=>?_);have kk:∀b o,b≠I->h.get? b=some o->h'.get? b=some o:=λb o hb e=>k' b o (by simpa using hb) e
  obtain⟨T',H'⟩:=T.move Hs gI (by rw [cI];decide) CV kk
  obtain⟨b,rfl,hbS,hbI,tb⟩:=h0 i v hP
  have NX:TK knd h' (kf i) b:=by
   obtain⟨o,it,n,g,r⟩:=tb
   exact⟨o,it,n,kk b o hbI (kp b o hbS hbI g),r⟩
  refine zzA (wpAny_holding ?_);unfold setAdd;refine wpAny_holding ?_;refine zzA (wpAny_pyHash_tuple (s:={s0 with heap:=h',toks:=Bp}) (by show A.units+1<cLine;exact hu) NX.key ?_);refine IK (knd:=knd) (es:=es) (by show A.units+1<cLine;exact hu) T' NX (hU i bX).2 (λhn=>?_) λh2 Og c sb T2 alt=>?_
  ·have:=T'.ents.cons NX (hU i bX).2 hn
   have fS:∀e∈es,∀k,aG knd h' e k->k∈U.erase (kf i):=λe he k z=>by
    obtain⟨j,hj,rfl⟩:=(H' k).1 ⟨e,he,z⟩
    refine(List.mem_erase_of_ne λy=>?_).2 (hU j (by omega)).1;rw [y] at z;exact hn e he z
   have f:=T'.Dh fS
   rw [List.length_erase_of_mem (hU i bX).1] at f;omega
  ·obtain⟨o,arr,ep,t,ho,hx,hdt,_⟩:=T'.ex
   have kb:∀b o,b≠S->h'.get? b=some o->h2.get? b=some o:=λb o hb e=>(sb.2 b hb).trans e
   have Ju:h2.IsListIter I l (i+1)/\h2.IsList l items:=W.frame _ _ _ eY λb hb o e=>kb b o (by
    simp! [zzm,List.not_mem_nil,or_false] at hb;rcases hb with rfl|rfl
    ·exact CV.symm
    ·exact Kb.symm) e
   have H2:JX knd h2 Og (λk=>∃j,j<i+1/\k=kf j):=λk=>by
    have fw:∀e∈es,aG knd h' e k↔aG knd h2 e k:=λe he=>⟨λz=>z.keeps ho hdt sb,λz=>by
     obtain⟨k1,y,_⟩:=T'.key e he
     have:=(y.keeps ho hdt sb).inj z
     subst this;exact y⟩
    have new:aG knd h2 (tupleKeyHash knd (kf i),.ref b) (kf i):=⟨b,rfl,NX.keeps ho hdt sb⟩
    have sp:(∃j,j<i+1/\k=kf j)↔(∃j,j<i/\k=kf j)\/k=kf i:=by
     constructor
     ·rintro ⟨j,hj,rfl⟩
      by_cases z:j=i
      ·subst z;exact .inr rfl
      ·exact .inl ⟨j,by omega,rfl⟩
     ·rintro (⟨j,hj,rfl⟩|rfl)
      ·exact⟨j,by omega,rfl⟩
      ·exact⟨i,by omega,rfl⟩
    have Hk:(∃e∈es,aG knd h' e k)↔∃j,j<i/\k=kf j:=H' k
    show(∃e∈Og,aG knd h2 e k)↔(∃j,j<i+1/\k=kf j)
    rw [sp,<-Hk];rcases alt with⟨⟨e0,he0,z0⟩,rfl⟩|⟨hn,pm⟩
    ·constructor
     ·rintro ⟨e,he,z⟩
      exact .inl ⟨e,he,(fw e he).2 z⟩
     ·rintro (⟨e,he,z⟩|rfl)
      ·exact⟨e,he,(fw e he).1 z⟩
      ·exact⟨e0,he0,(fw e0 he0).1 z0⟩
    ·constructor
     ·rintro ⟨e,he,z⟩
      rcases zzm.1 (pm.subset he) with rfl|he
      ·exact .inr (z.inj new)
      ·exact .inl ⟨e,he,(fw e he).2 z⟩
     ·rintro (⟨e,he,z⟩|rfl)
      ·exact⟨e,pm.symm.subset (zzI _ he),(fw e he).1 z⟩
      ·exact⟨_,pm.symm.subset (zzP ..),new⟩
   have UJ:∀e∈Og,∃j:Nat,items[j]?=some e.2:=λe he=>by
    rcases alt with⟨_,rfl⟩|⟨_,pm⟩
    ·exact mm e he
    ·rcases zzm.1 (pm.subset he) with rfl|he
     ·exact⟨i,hP⟩
     ·exact mm e he
   exact zzG ⟨plainId_quiet PyProof.Rows.F.plain_set_update_loop _,ih (i+1) h2 _ Og (by omega) bX Ju T2 H2 UJ λb o h1 h3 e=>kb b o h1 (kk b o h3 (kp b o h1 h3 e))⟩
end
section
variable{prog:Program}{w:World}{K:Type} [DecidableEq K]{knd:KeyKind prog w K}
variable{A:Around}{E:Value->Shared->Prop}{s:Shared}
noncomputable abbrev gL(led:Bool):Obj:={cls:=.type "set",dict:=none,data:=.set #[] 0 (.fresh 0 0 led)}
def wg{h:Heap}{a:Addr}(e:h.get? a=some (gL (!w.params.followText "set-order"))):fQ knd h a []:=⟨⟨_,#[],0,_,e,⟨rfl,rfl,rfl⟩,rfl,rfl,Gj ..,rfl,rfl,.inl ⟨rfl,by decide⟩⟩,(λe he=>by cases he),.nil⟩
def yN(a:Value){Q:Value->Shared->Prop}(h:Q (.ref (zz9 s)) {s with heap:=s.heap.push (gL (!w.params.followText "set-order"))}):codeAny (model prog w) A (.call (.builtin "set.__new__") ⟨[.type "set",a],[]⟩) (wants Q E) s:=by
 refine codeAny_of_tree ?_;refine zzA (wpAny_of_eq (F.newCall_set_1 a) (zzG ⟨plainId_quiet F.plain_set_new _,codeAny_builtin F.entry_set_new ?_⟩));rw [zz7 F.plain_set_new _];unfold Builtin.«set.__new__» Builtin.Frozenset.newClass;have g:=sub_set_self
 obtain⟨hp,gg,d,tk,os⟩:=s
 dsimp only
 wp_walk
 refine wpAny_askSetting (zzG ?_);dsimp only;simp! [newObj];exact zzA (wpAny_alloc (zzG (zzG h)))
def wV{l:Addr}{items:Array Value}{kf:Nat->List K}{U:List (List K)}{Q:Value->Shared->Prop}(hu:A.units+8<cLine)(hh:A.handled=none)(hl:s.heap.IsList l items)(hU:∀i,i<items.size->kf i∈U/\tU (tupleKeyHash knd (kf i)))(Oc:U.length<=18)
 (h0:∀i v,items[i]?=some v->∃b,v=.ref b/\TK knd s.heap (kf i) b)
 (q:∀h' tk es,fQ knd h' (zz9 s) es->JX knd h' es (λk=>∃j,j<items.size/\k=kf j)->(∀e∈es,∃j:Nat,items[j]?=some e.2)->(∀b o,s.heap.get? b=some o->h'.get? b=some o)->Q (.ref (zz9 s)) {s with heap:=h',toks:=tk}):
 wpAny (model prog w) A (call (.type "set") [.ref l]) Q E s:=by
 obtain⟨c,tl,hmro⟩:=F.called_set.mro
 have g1:=F.called_set.made
 have g2:=F.called_set.sub
 refine wpAny_call (codeAny_of_tree ?_);refine zzG ⟨Code.quiet_builtin _ (by decide+kernel),codeAny_builtin F.entry_type_call ?_⟩;rw [Around.under_plain (weight_type_call_type "set" [.ref l] []) rfl];have g3:=F.called_set.notType
 have g4:=F.called_set.canCreate
 have g5:=F.typeCall_set_1 (.ref l)
 repeat (any_goals (first|assumption|wp_step))
 refine codeAny_mono (yN (.ref l) (E:=E) (Q:=λx z=>x=.ref (zz9 s)/\z={s with heap:=s.heap.push (gL (!w.params.followText "set-order"))}) ⟨rfl,rfl⟩) λr s₁ hr=>?_
 cases r with
 |error e=>exact hr
 |ok fl=>
  cases fl with
  |ret obj=>
   obtain⟨rfl,rfl⟩:=hr
   generalize uI:(!w.params.followText "set-order")=led
   have eS:(s.heap.push (gL led)).get? (zz9 s)=some (gL led):=zzX _ rfl
   have T:Shared.TypeIs {s with heap:=s.heap.push (gL led)} (.ref (zz9 s)) "set":=⟨_,eS,rfl⟩
   have g6:=F.called_set.init.lookup
   have g7:=F.called_set.init.bind (.ref (zz9 s))
   repeat (any_goals (first|assumption|wp_step))
   refine codeAny_mono (codeAny_call_builtin (R:=wants (λr z=>r=.none/\∃h' tk es,z={s with heap:=h',toks:=tk}/\fQ knd h' (zz9 s) es/\JX knd h' es (λk=>∃j,j<items.size/\k=kf j)/\(∀e∈es,∃j:Nat,items[j]?=some e.2)/\∀b o,s.heap.get? b=some o->h'.get? b=some o) E) F.called_set.init.plain F.entry_set_init (check_set_init_1 T ?_)) λr₂ s₂ hr₂=>?_
   ·obtain⟨⟨k1,k2,k3,k4⟩,hol,Kq,nl,hdl⟩:=id hl
    simp only at Kq hdl;subst Kq;subst hdl;have eL:(s.heap.push (gL led)).get? l=some {cls:=.type "list",dict:=k2,data:=.seq items nl,slots:=k4}:=zzB _ hol
    have g8:=F.sub_list_set
    have g9:=F.sub_list_frozenset
    have ga:(Value.type "list"==Value.type "dict")=false:=by decide
    have RV:(s.heap.push (gL led)).IsList l items:=⟨_,eL,rfl,nl,rfl⟩
    unfold Builtin.«set.__init__» noKeywords Builtin.Frozenset.updateFrom;generalize hPI:pyIter=PI
    wp_walk
    subst hPI;refine wpAny_pyIter_list RV ?_;refine zzA (wpAny_runValue ?_);have lS:l<(zz9 s):=zzO hol
    have sz:(s.heap.push (gL led)).objs.size=(zz9 s)+1:=Heap.size_push ..
    have up:∀b o,s.heap.get? b=some o->((s.heap.push (gL led)).push {cls:=.type "list_iterator",data:=.fields #[.ref l,.int 0 0]}).get? b=some o:=λb o e=>zzB _ (zzB _ e)
    have Vj:((s.heap.push (gL led)).push {cls:=.type "list_iterator",data:=.fields #[.ref l,.int 0 0]}).get? (zz9 s)=some (gL led):=zzB _ eS
    have S0:fQ knd ((s.heap.push (gL led)).push {cls:=.type "list_iterator",data:=.fields #[.ref l,.int 0 0]}) (zz9 s) []:=wg (by rw [uI];exact Vj)
    refine xg (knd:=knd) (A:=A.in1.in1) (S:=(zz9 s)) (I:=(s.heap.push (gL led)).objs.size) (l:=l) (items:=items) (kf:=kf) (U:=U) (by show A.units+1+1+1<cLine;omega) (by simp [hh]) (by rw [sz];exact zzb (Nat.lt_succ_self _)) (Nat.ne_of_gt lS) (by rw [sz];exact zzb (Nat.lt_succ_of_lt lS)) hU Oc s (λi v hv=>?_) (λh' tk es a1 a2 a4 a3=>?_) items.size 0 _ s.toks [] (by omega) (Nat.zero_le _) ⟨⟨_,zzX _ rfl,rfl,rfl⟩,RV.push _⟩ S0 ?_ (λe he=>by cases he) (λb o _ _ e=>up b o e)
    ·obtain⟨b,rfl,t⟩:=h0 i v hv
     have hb:b<(zz9 s):=by
      obtain⟨o,_,_,e,_⟩:=t
      exact zzO e
     exact⟨b,rfl,zzb hb,by rw [sz];exact zzb (Nat.lt_succ_of_lt hb),t⟩
    ·refine zzG ?_;refine zzG ⟨rfl,h',tk,es,rfl,a1,a2,a4,λb o e=>a3 b o (zzb (zzO e)) ?_ e⟩
     rw [sz];exact zzb (Nat.lt_succ_of_lt (zzO e))
    ·intro k;exact⟨λ⟨e,he,_⟩=>by(cases he),λ⟨j,hj,_⟩=>by omega⟩
   ·cases r₂ with
    |error e=>exact hr₂
    |ok fl₂=>
     cases fl₂ with
     |ret r=>
      obtain⟨rfl,h',tk,es,rfl,a1,a2,a4,a3⟩:=hr₂
      repeat (any_goals (first|assumption|wp_step))
      exact q h' tk es a1 a2 a4 a3
     |_=>exact hr₂.elim
  |_=>exact hr.elim
end
end St
namespace St
open PySem PySem.Spec PyProof.Rows
def J6:Manifest.owners.lookup (String.ofList ("rotareti_tes".toList).reverse)=some Manifest.sig_set_iterator:=by kernel_rfl
def gY:Slot "set_iterator" "__next__" "set_iterator.__next__":=by
 refine .of (owner:="set_iterator") (n:="__next__") ?_ ?_ ?_ ?_ ?_ ?_
 ·rw [typeLookup_type,builtinLookup_eq_fast]
  kernel_rfl
 ·decide+kernel
 ·decide+kernel
 ·decide+kernel
 ·first
   |exact .inl (by decide+kernel)
   |exact .inr (by decide+kernel)
 ·rw [isSubtype_type]
  kernel_rfl
def qz:entryFor table "set_iterator.__next__"=some Builtin.«set_iterator.__next__»:=by
 refine entryFor_of_tree ?_
 kernel_rfl
def xk:entryFor table "set.__iter__"=some Builtin.«frozenset.__iter__»:=by
 refine entryFor_alias (id':="frozenset.__iter__") ?_ rfl ?_ ?_
 ·kernel_rfl
 ·decide+kernel
 ·kernel_rfl
def vT(a:Value):argsOk "set_iterator.__next__" ⟨[a],[]⟩:=by
 unfold argsOk;rw [signature?_of (id:="set_iterator.__next__") (n:=['_','_','t','x','e','n','_','_']) (o:=['r','o','t','a','r','e','t','i','_','t','e','s']) (by kernel_rfl) J6]
 kernel_rfl
theorem vx{α:Type}:∀(l:List α) (i:Nat) (h:i<l.length),(l[i]::l.eraseIdx i).Perm l
 |a::l,0,h=>.refl _
 |a::l,i+1,h=>by
  have ih:=vx l i (by simpa using h)
  show(l[i]'(by simpa using h)::a::l.eraseIdx i).Perm (a::l)
  exact(List.Perm.swap _ _ _).trans (ih.cons a)
theorem Fj{α:Type}(next:Nat->Nat):∀(fuel k:Nat) (left:List α) (out:Array α),left.length<=fuel->(pickOrder.go next fuel k left out).toList.Perm (out.toList++left)
 |0,k,left,out,h=>by
  have:left=[]:=List.length_eq_zero_iff.1 (by omega)
  subst this;rw [zz6];exact .refl _
 |fuel+1,k,left,out,h=>by
  rw [pickOrder.go];cases e:left[next k%left.length]? with
  |none=>
   have:left=[]:=by
    cases left with
    |nil=>rfl
    |cons a l=>
     have:=List.getElem?_eq_none_iff.1 e
     have:=Nat.mod_lt (next k) (show 0<(a::l).length by simp)
     omega
   subst this;simp
  |some x=>
   obtain⟨hi,hx⟩:=zzH.1 e
   have ih:=Fj next fuel (k+1) (left.eraseIdx (next k%left.length)) (out.push x) (by rw [List.length_eraseIdx_of_lt hi];omega)
   refine ih.trans ?_;rw [Array.toList_push,List.append_assoc];refine List.Perm.append_left _ ?_;show(x::left.eraseIdx (next k%left.length)).Perm left;subst hx;exact vx left _ hi
def Ej{α:Type}(next:Nat->Nat)(xs:Array α):(pickOrder next xs).toList.Perm xs.toList:=by
 have:=Fj next xs.size 0 xs.toList #[] (by rw [zzd];exact zzE _)
 unfold pickOrder
 simpa using this
section
variable{prog:Program}{w:World}{A:Around}{E:Value->Shared->Prop}{s:Shared}{S it:Addr}{o:Obj}{arr:Array (Int×Value)}{ep:Nat}{t:SetTable}
noncomputable def cC(w:World)(S:Addr)(ep:Nat)(arr:Array (Int×Value)):Array (Int×Value):=if w.params.followText "set-order" then pickOrder (w.params.setOrder S ep) arr else arr
def ni(w:World)(S:Addr)(ep:Nat)(arr:Array (Int×Value)):(cC w S ep arr).toList.Perm arr.toList:=by
 unfold cC;split
 ·exact Ej ..
 ·exact .refl _
def ez(w:World)(S:Addr)(ep:Nat)(arr:Array (Int×Value)):(cC w S ep arr).size=arr.size:=by
 have:=(ni w S ep arr).length_eq
 rwa [zzd,zzd] at this
noncomputable def KO(sl i n ep:Nat)(S:Addr):Obj:={cls:=.type "set_iterator",data:=.fields #[rawInt sl,rawInt i,.ref S,rawInt n,rawInt ep]}
noncomputable def slt(w:World)(t:SetTable):Nat->Nat
 |0=>0
 |i+1=>if w.params.followText "set-order" then 0 else t.place.toList.getD i 0+1
def NI(w:World)(h:Heap)(it S:Addr)(t:SetTable)(i n ep:Nat):Prop:=h.get? it=some (KO (slt w t i) i n ep S)
def C6{Q:Value->Shared->Prop}(ho:s.heap.get? S=some o)(hx:o.ExactSet)(hd:o.data=.set arr ep t)(hf:t.fits arr.size=true)(hp:t.plain=true)(q:Q (.ref (zz9 s)) {s with heap:=s.heap.push (KO 0 0 arr.size ep S)}):wpAny (model prog w) A (pyIter (.ref S)) Q E s:=by
 have T:s.TypeIs (.ref S) "set":=⟨o,ho,hx.1⟩
 refine wpAny_pyIter_slot T F.slot_set_iter (wpAny_call_entry F.slot_set_iter T xk ?_ (F.args_set_iter_1 _));unfold Builtin.«frozenset.__iter__» Builtin.Frozenset.slot0 Builtin.Frozenset.addrOf Builtin.Frozenset.sizeOf;refine zzA (zzA (zzG (zzG (zzA (zzA (wpAny_setEntries_of ho hd hf (zzG ?_)))))));unfold setDrawn setsByText;refine zzA (zzA (wpAny_setState_of ho hd hf (zzA (zzA (wpAny_askSetting (zzG (zzG ?_)))))));dsimp only;rw [if_neg λz=>by
  have y:(!t.plain&&decide (arr.size>1))=true:=(Bool.and_eq_true_iff.1 z).2
  rw [hp] at y;simp at y]
 refine zzA (zzG ?_);unfold setEpoch newFields;refine zzA (zzA (wpAny_setState_of ho hd hf (zzG ?_)));refine zzA (wpAny_newObj_type (zzG ⟨_,rfl,"set_iterator",_,⟨_,zzX _ rfl,rfl⟩,gY.lookup,?_⟩) (by size_fits));exact q
def rR{xs:Array Nat}(hr:JS xs.toList){v i:Nat}(hi:i<=xs.size)(h1:∀k x,xs.toList[k]?=some x->k<i->x<v)(h2:∀k x,xs.toList[k]?=some x->i<=k->v<=x):SetTable.below xs v=i:=by
 obtain⟨c,a,b⟩:=jn hr v
 rcases Nat.lt_trichotomy (SetTable.below xs v) i with z|z|z
 ·have hb:SetTable.below xs v<xs.toList.length:=by rw [zzd];omega
  have e:=zzg hb
  have:=b _ _ e (zzE _)
  have:=h1 _ _ e z
  omega
 ·exact z
 ·have hb:i<xs.toList.length:=by rw [zzd];omega
  have e:=zzg hb
  have:=a _ _ e z
  have:=h2 _ _ e (zzE _)
  omega
def xU(ok:lV t arr.toList)(hb:w.params.followText "set-order"=false){i:Nat}(hi:i<=arr.size):SetTable.below t.place (slt w t i)=i:=by
 have sz:t.place.size=arr.size:=by have:=ok.len;rwa [zzd,zzd] at this
 have mono:∀k x k' x',t.place.toList[k]?=some x->t.place.toList[k']?=some x'->k<k'->x<x':=λk x k' x' e e' h=>by
  obtain⟨a,rfl⟩:=zzH.1 e
  obtain⟨b,rfl⟩:=zzH.1 e'
  exact List.pairwise_iff_getElem.1 ok.Fc k k' a b h
 cases i with
 |zero=>exact rR ok.Fc (Nat.zero_le _) (λk x _ h=>by omega) (λk x _ _=>Nat.zero_le _)
 |succ i=>
  have sN:i<t.place.toList.length:=by rw [zzd];omega
  have e:=zzg sN
  have sl:slt w t (i+1)=t.place.toList[i]+1:=by
   show(if w.params.followText "set-order" then 0 else t.place.toList.getD i 0+1)=_
   rw [hb,if_neg zzf,zzK,e]
   rfl
  rw [sl];refine rR ok.Fc (by omega) (λk x ek h=>?_) (λk x ek h=>?_)
  ·by_cases z:k=i
   ·subst z;rw [e] at ek;cases ek;omega
   ·have:=mono _ _ _ _ ek e (by omega)
    omega
  ·exact mono _ _ _ _ e ek (by omega)
def yU(ho:s.heap.get? S=some o)(hd:o.data=.set arr ep t)(hf:t.fits arr.size=true)(ok:lV t arr.toList)(hp:t.plain=true)(hl:t.led=(!w.params.followText "set-order")){i:Nat}(hi:i<=arr.size){Q:Option (Value×Nat)->Shared->Prop}(q:Q ((cC w S ep arr)[i]?.map λe=>(e.2,slt w t (i+1))) s):wpAny (model prog w) A (setNext S (slt w t i) i ep) Q E s:=by
 unfold setNext setsByText;refine zzA (wpAny_setState_of ho hd hf (zzA (zzA (wpAny_askSetting (zzG ?_)))));dsimp only;show wpAny _ _ (if w.params.followText "set-order"=true then _ else _) _ _ s;cases hb:w.params.followText "set-order" with
 |true=>
  rw [if_pos rfl,if_neg (by simp)];unfold setWalk setsByText;refine zzA (zzA (wpAny_setState_of ho hd hf (zzA (zzA (wpAny_askSetting (zzG ?_))))));show wpAny _ _ (if w.params.followText "set-order"=true then _ else _) _ _ s;rw [hb,if_pos rfl];refine zzA (wpAny_askSetting (zzG (zzG ?_)));have s0:∀i,slt w t i=0:=λi=>by cases i<;>simp [slt,hb]
  unfold cC at q;rw [hb,if_pos rfl,s0] at q;rw [s0];exact q
 |false=>
  rw [if_neg zzf];rw [if_neg λz=>by
   have y:(!t.plain&&decide (arr.size>1))=true:=z
   rw [hp] at y;simp at y]
  refine zzA ?_;show wpAny _ _ (if(!t.led&&!arr.isEmpty)=true then unsupported _ else pure ()) _ _ s;rw [hl,hb,if_neg (by simp)];refine zzG ?_;rw [xU ok hb hi];refine zzG ?_;unfold cC at q;rw [hb,if_neg zzf] at q;have sz:t.place.size=arr.size:=by have:=ok.len;rwa [zzd,zzd] at this
  cases e:arr[i]? with
  |none=>
   rw [e] at q;cases t.place[i]?<;>exact q
  |some x=>
   rw [e] at q;have sN:i<t.place.size:=by rw [sz];exact(Array.getElem?_eq_some_iff.1 e).1
   have e2:t.place[i]?=some t.place[i]:=by simp [sN]
   have e3:slt w t (i+1)=t.place[i]+1:=by
    show(if w.params.followText "set-order" then 0 else t.place.toList.getD i 0+1)=_
    rw [hb,if_neg zzf,zzK,Array.getElem?_toList,e2]
    rfl
   rw [e3] at q;rw [e2];exact q
def LL(ho:s.heap.get? S=some o)(hd:o.data=.set arr ep t)(hf:t.fits arr.size=true)(ok:lV t arr.toList)(hp:t.plain=true)(hl:t.led=(!w.params.followText "set-order")){i:Nat}{e:Int×Value}(hi:(cC w S ep arr)[i]?=some e){Q:Option (Value×Nat)->Shared->Prop}(q:Q (some (e.2,slt w t (i+1))) s):wpAny (model prog w) A (setNext S (slt w t i) i ep) Q E s:=
 yU ho hd hf ok hp hl (by rw [<-ez w S ep arr];exact Nat.le_of_lt (Array.getElem?_eq_some_iff.1 hi).1) (by rw [hi];exact q)
def Lq(ho:s.heap.get? S=some o)(hd:o.data=.set arr ep t)(hf:t.fits arr.size=true)(ok:lV t arr.toList)(hp:t.plain=true)(hl:t.led=(!w.params.followText "set-order")){Q:Option (Value×Nat)->Shared->Prop}(q:Q none s):wpAny (model prog w) A (setNext S (slt w t arr.size) arr.size ep) Q E s:=
 yU ho hd hf ok hp hl (zzE _) (by rw [Array.getElem?_eq_none (by rw [ez];exact zzE _)];exact q)
def EH{Q:Option Value->Shared->Prop}{i:Nat}{e:Int×Value}(st:NI w s.heap it S t i arr.size ep)(ho:s.heap.get? S=some o)(hd:o.data=.set arr ep t)(hf:t.fits arr.size=true)(ok:lV t arr.toList)(hp:t.plain=true)(hl:t.led=(!w.params.followText "set-order"))(hi:(cC w S ep arr)[i]?=some e)(hS:S≠it)
 (q:∀h',NI w h' it S t (i+1) arr.size ep->Heap.SameBut it s.heap h'->Q (some e.2) {s with heap:=h'}):wpAny (model prog w) A (pyNext (.ref it)) Q E s:=by
 have T:s.TypeIs (.ref it) "set_iterator":=⟨_,st,rfl⟩
 have Gu:i<arr.size:=by rw [<-ez w S ep arr];exact(Array.getElem?_eq_some_iff.1 hi).1
 unfold pyNext;refine zzA (wpAny_attempt (wpAny_callSpecial?_slot (name:=Str.ofString "__next__") T gY (wpAny_call_entry gY T qz ?_ (vT _))));refine zzA (zzG (zzA (wpAny_fieldsOf st rfl ?_)));show wpAny _ _ (setEntries S>>=λz=>_) _ _ s;refine zzA (wpAny_setEntries_of ho hd hf ?_);rw [if_neg (by simp)];show wpAny _ _ (setNext S (slt w t i) i ep>>=λz=>_) _ _ s
 refine zzA (LL ho hd hf ok hp hl hi ?_);show wpAny _ _ (setField (.ref it) 0 (rawInt (slt w t (i+1)))>>=λ_=>_) _ _ s
 refine zzA (wpAny_setField_rec st (by simp) λh1 e1 s1=>?_)
 refine zzA (wpAny_setField_rec (s:={s with heap:=h1}) e1 (by simp) λh2 e2 s2=>?_)
 exact zzG ⟨_,rfl,zzG (q h2 e2 (s1.trans s2))⟩
def Jc{Q:Option Value->Shared->Prop}(hh:A.handled=none)(st:NI w s.heap it S t arr.size arr.size ep)(ho:s.heap.get? S=some o)(hd:o.data=.set arr ep t)(hf:t.fits arr.size=true)(ok:lV t arr.toList)(hp:t.plain=true)(hl:t.led=(!w.params.followText "set-order"))
 (q:∀h',Heap.ExtBut it s.heap h'->Q none {s with heap:=h'}):wpAny (model prog w) A (pyNext (.ref it)) Q E s:=by
 have T:s.TypeIs (.ref it) "set_iterator":=⟨_,st,rfl⟩
 unfold pyNext;refine zzA (wpAny_attempt (wpAny_callSpecial?_slot (name:=Str.ofString "__next__") T gY (wpAny_call_entry gY T qz ?_ (vT _))));refine zzA (zzG (zzA (wpAny_fieldsOf st rfl ?_)));show wpAny _ _ (setEntries S>>=λz=>_) _ _ s;refine zzA (wpAny_setEntries_of ho hd hf ?_);rw [if_neg (by simp)];show wpAny _ _ (setNext S (slt w t arr.size) arr.size ep>>=λz=>_) _ _ s
 refine zzA (Lq ho hd hf ok hp hl ?_);show wpAny _ _ (setField (.ref it) 2 .none>>=λ_=>_) _ _ s
 refine zzA (wpAny_setField st rfl (by simp) ?_);show wpAny _ _ (newExc (.type "StopIteration") []>>=λ_=>_) _ _ _
 refine zzA ?_;simp! [newExc,newTuple];refine zzA (wpAny_newObj_type (zzA (m:=firstArgMember _ _) (wpAny_of_eq (a:=Value.none) (by first|rfl|(simp! [firstArgMember];rfl)) (wpAny_newObj_type ?_ (by size_fits)))) (by size_fits));simp! [raiseNew];refine zzA (wpAny_handled ?_);rw [show A.in1.handled=none from hh];refine zzA (zzG (wpAny_throw ?_));refine zzA (wpAny_isInstance (T:="StopIteration") (b:=true) ⟨_,zzX _ rfl,rfl⟩ isSubtype_stop ?_);exact zzG (q _ (((zzu ..).extBut.push _).push _))
end
end St
namespace St
open PySem PySem.Spec PyProof.Rows PySem.W L2
section
variable{prog:Program}{w:World}{A:Around}{E:Value->Shared->Prop}{s:Shared}{S:Addr}{o:Obj}{arr:Array (Int×Value)}{ep:Nat}{t:SetTable}
def AV(T:s.TypeIs (.ref S) "set"){Q:Bool->Shared->Prop}(h:Q false s):wpAny (model prog w) A (Builtin.List.listLengthHint (.ref S)) Q E s:=by
 unfold Builtin.List.listLengthHint;refine zzA (wpAny_specialOf T F.slot_set_len.lookup ?_);generalize hid:("set.__len__":String)=i0
 wp_delta
 rw [show splitId i0=some ("set","__len__") from by subst hid;decide+kernel];subst hid;refine zzA (wpAny_isInstance (T:="set") (b:=true) T sub_set_self ?_);refine wpAny_ite_split (λz=>absurd z (by decide)) (λ_=>?_)
 refine wpAny_ite_split (λ_=>?_) (λz=>absurd (by decide+kernel) z)
 exact zzA (wpAny_typeOf T (zzG h))
structure Kc(w:World)(h:Heap)(S:Addr)(arr:Array (Int×Value))(ep:Nat)(t:SetTable):Prop where
 ex:∃o,h.get? S=some o/\o.ExactSet/\o.data=.set arr ep t
 fit:t.fits arr.size=true
 ok:lV t arr.toList
 pl:t.plain=true
 led:t.led=(!w.params.followText "set-order")
 Dh:arr.size<=1000
def Kc.at{h h':Heap}(x:Kc w h S arr ep t)(k:∀o,h.get? S=some o->h'.get? S=some o):Kc w h' S arr ep t:=by
 obtain⟨o,a,b⟩:=x.ex
 exact⟨⟨o,k o a,b⟩,x.fit,x.ok,x.pl,x.led,x.Dh⟩
def zw{R:Result->Shared->Prop}{Z I:Addr}{h1:Heap}(hh:A.handled=none)(P5:Z≠I)(hZ:S≠Z)(hI:S≠I)(res:Value)
 (hR:∀h' tk c,(∀b x,b≠Z->b≠I->h1.get? b=some x->h'.get? b=some x)->h'.get? Z=some (lO ((cC w S ep arr).map (·.2)) c)->R (.ok (.ret res)) {s with heap:=h',toks:=tk}):
 ∀(k i:Nat) (h:Heap) (tk c:Nat),arr.size-i=k->i<=arr.size->NI w h I S t i arr.size ep->Kc w h S arr ep t->(∀b x,b≠Z->b≠I->h1.get? b=some x->h.get? b=some x)->h.get? Z=some (lO (((cC w S ep arr).map (·.2)).extract 0 i) c)->
  codeAny (model prog w) A (.builtin "list.extend.loop" ⟨[.ref Z,.ref I,res],[]⟩) R {s with heap:=h,toks:=tk}:=by
 have sz:((cC w S ep arr).map (·.2)).size=arr.size:=by rw [Array.size_map,ez]
 intro k
 induction k with
 |zero=>
  intro i h tk c hk hi st x kp eZ;have Gu:i=arr.size:=by omega
  subst Gu;obtain⟨⟨o,ho,hx,hd⟩,hf,ok,hp,hl,IW⟩:=x
  refine codeAny_builtin PySem.F.entry_extend_loop ?_;rw [zz7 PySem.F.plain_extend_loop _];refine zzA (Jc (s:={s with heap:=h,toks:=tk}) (A:=A.in1) hh st ho hd hf ok hp hl λh' y=>?_)
  refine zzG (hR h' tk c (λb z q1 q2 q=>y b z q2 (kp b z q1 q2 q)) (y Z _ P5 ?_))
  rw [eZ]
  congr 2
  rw [<-sz];exact Array.extract_size
 |succ k ih=>
  intro i h tk c hk hi st x kp eZ;have bX:i<(cC w S ep arr).size:=by rw [ez];omega
  obtain⟨⟨o,ho,hx,hd⟩,hf,ok,hp,hl,IW⟩:=id x
  refine codeAny_builtin PySem.F.entry_extend_loop ?_;rw [zz7 PySem.F.plain_extend_loop _];refine zzA (EH (s:={s with heap:=h,toks:=tk}) (A:=A.in1) (e:=(cC w S ep arr)[i]) st ho hd hf ok hp hl (zz2 bX) hI λh' eY sb=>?_)
  have S5:h'.get? Z=some (lO (((cC w S ep arr).map (·.2)).extract 0 i) c):=(sb.2 Z P5).trans eZ
  have up:∀b z,b≠Z->h'.get? b=some z->(h'.update Z (Obj.mapSeq (·.push ((cC w S ep arr)[i]).2))).get? b=some z:=λb z hb q=>(Heap.get?_update_other _ _ (Ne.symm hb)).trans q
  show wpAny _ A.in1 (updateSeq Z (·.push ((cC w S ep arr)[i]).2)>>=λ_=>_) _ _ _
  have ext:(((cC w S ep arr).map (·.2)).extract 0 i).push ((cC w S ep arr)[i]).2=((cC w S ep arr).map (·.2)).extract 0 (i+1):=by
   apply Array.toList_inj.1
   simp! [Array.toList_push,Array.toList_extract,List.extract_eq_take_drop,Array.toList_map,Nat.sub_zero,List.drop_zero];rw [List.take_succ,zzQ,Array.getElem?_toList,zz2 bX]
   rfl
  have N8:=Heap.get?_update_self (Obj.mapSeq (·.push ((cC w S ep arr)[i]).2)) S5 rfl
  have L4:∃c',(h'.update Z (Obj.mapSeq (·.push ((cC w S ep arr)[i]).2))).get? Z=some (lO (((cC w S ep arr).map (·.2)).extract 0 (i+1)) c'):=by
   rw [<-ext];exact⟨_,N8⟩
  obtain⟨c',L4⟩:=L4
  refine zzA (wpAny_updateSeq (hz:=by
   have:(((cC w S ep arr).map (·.2)).extract 0 i).size<=1001:=by
    rw [Array.size_extract];omega
   exact zzU (m:=1001) this (by rw [sizeLine_eq];decide)) S5 rfl (zzG ⟨plainId_quiet PySem.F.plain_extend_loop _,ih (i+1) _ tk c' (by omega) (by omega) (up I _ P5.symm eY) ((x.at λo e=>(sb.2 S hI).trans e).at λo e=>up S o hZ e) (λb z q1 q2 q=>up b z q1 ((sb.2 b q2).trans (kp b z q1 q2 q))) L4⟩))
def uo{R:Result->Shared->Prop}{Z:Addr}(hh:A.handled=none)(x:Kc w s.heap S arr ep t)(OX:S≠Z)(res:Value)(c:Nat)(eZ:s.heap.get? Z=some (lO #[] c))
 (hR:∀h' tk c,(∀b y,b≠Z->s.heap.get? b=some y->h'.get? b=some y)->h'.get? Z=some (lO ((cC w S ep arr).map (·.2)) c)->R (.ok (.ret res)) {s with heap:=h',toks:=tk}):
 wpAny (model prog w) A.in1 (Builtin.List.listExtendWith (.ref Z) (.ref S) res) (λfin s'=>match fin with|.done f=>R (.ok f) s'|.again c'=>c'.quiet=true/\codeAny (model prog w) A c' R s') (λe s'=>R (.error e) s') s:=by
 obtain⟨o,ho,hx,hd⟩:=x.ex
 have T:s.TypeIs (.ref S) "set":=⟨o,ho,hx.1⟩
 have zI:Z<(zz9 s):=zzO eZ
 have sI:S<(zz9 s):=zzO ho
 have kp:∀b y,s.heap.get? b=some y->(s.heap.push (KO 0 0 arr.size ep S)).get? b=some y:=λb y q=>zzB _ q
 have eI:(s.heap.push (KO 0 0 arr.size ep S)).get? (zz9 s)=some (KO 0 0 arr.size ep S):=zzX _ rfl
 have Pu:((cC w S ep arr).map (·.2)).extract 0 0=#[]:=by simp
 have key:∀(h:Heap) (c1 tk:Nat),(∀b y,b≠Z->(s.heap.push (KO 0 0 arr.size ep S)).get? b=some y->h.get? b=some y)->h.get? Z=some (lO #[] c1)->codeAny (model prog w) A (.builtin "list.extend.loop" ⟨[.ref Z,.ref (zz9 s),res],[]⟩) R {s with heap:=h,toks:=tk}:=λh c1 tk hk e1=>
  zw (h1:=s.heap) (w:=w) (t:=t) hh (zzb zI) OX (zzb sI) res (λh' Bp c q1 q2=>hR h' Bp c (λb y hb q=>q1 b y hb (zzb (zzO q)) q) q2) arr.size 0 h tk c1 rfl (Nat.zero_le _) (hk _ _ (Nat.ne_of_gt zI) eI) (x.at λo e=>hk S o OX (kp S o e)) (λb y q1 q2 q=>hk b y q1 (kp b y q)) (by rw [Pu];exact e1)
 unfold Builtin.List.listExtendWith;refine zzA (wpAny_typeOf T ?_);have e1:Builtin.List.listSameRef (.ref Z) (.ref S)=false:=by simp [Builtin.List.listSameRef,OX.symm]
 have e2:(Value.type "set"==Value.type "list")=false:=by decide
 have e3:(Value.type "set"==Value.type "tuple")=false:=by decide
 simp! [e1,e2,e3,Bool.or_false,zze,if_false];refine zzA (C6 ho hx hd x.fit x.pl ?_);have Qo:=kp _ _ eZ
 refine zzA (wpAny_holding (AV ⟨o,kp _ _ ho,hx.1⟩ ?_));refine wpAny_ite_split (λ_=>?_) (λ_=>zzG ⟨plainId_quiet PySem.F.plain_extend_loop _,key _ c _ (λb y _ q=>q) Qo⟩)
 refine zzA (wpAny_rule (zzA ?_));show wpAny _ _ (updateSeq Z (·.push .none)>>=λ_=>updateSeq Z (·.pop)) _ _ _
 refine zzA (wpAny_updateSeq Qo rfl ?_);have N8:=Heap.get?_update_self (Obj.mapSeq (·.push Value.none)) Qo rfl
 refine wpAny_updateSeq (hz:=by seq_fits) N8 rfl ?_;have L4:=Heap.get?_update_self (Obj.mapSeq (·.pop)) N8 rfl
 exact zzG ⟨plainId_quiet PySem.F.plain_extend_loop _,key _ _ _ (λb y hb q=>(Heap.get?_update_other _ _ (Ne.symm hb)).trans ((Heap.get?_update_other _ _ (Ne.symm hb)).trans q)) L4⟩
def LO(w:World)(s:Shared)(S:Addr)(ep:Nat)(arr:Array (Int×Value))(res:Result)(s':Shared):Prop:=∃h' tk c,res=.ok (.ret (.ref (zz9 s)))/\s'={s with heap:=h',toks:=tk}/\(∀b y,s.heap.get? b=some y->h'.get? b=some y)/\h'.get? (zz9 s)=some (lO ((cC w S ep arr).map (·.2)) c)
def qI{Q:List Value->Shared->Prop}(hh:A.handled=none)(x:Kc w s.heap S arr ep t)
 (q:∀h' tk,(∀b y,s.heap.get? b=some y->h'.get? b=some y)->Q ((cC w S ep arr).toList.map (·.2)) {s with heap:=h',toks:=tk}):wpAny (model prog w) A (collect (.ref S)) Q E s:=by
 obtain⟨o,ho,hx,hd⟩:=x.ex
 have eZ:(s.heap.push (seqObj "list" #[] 0)).get? (zz9 s)=some (lO #[] 0):=zzX _ rfl
 have kp:∀b y,s.heap.get? b=some y->(s.heap.push (seqObj "list" #[] 0)).get? b=some y:=λb y q=>zzB _ q
 have main:codeAny (model prog w) A (.builtin "proto.collect" ⟨[.ref S],[]⟩) (LO w s S ep arr) s:=by
  refine codeAny_builtin F.entry_proto_collect ?_;rw [zz7 F.plain_proto_collect _];show wpAny _ A.in1 (newList []>>=λl=>again (.builtin "list.__iadd__" ⟨[l,.ref S],[]⟩)) _ _ s
  refine zzA (wpAny_newList (zzG ⟨plainId_quiet F.plain_list_iadd _,codeAny_builtin F.entry_list_iadd ?_⟩) (Nat.zero_le _));rw [zz7 F.plain_list_iadd _];exact uo (R:=LO w s S ep arr) (s:={s with heap:=s.heap.push (seqObj "list" #[] 0)}) hh (x.at λo e=>kp S o e) (zzb (zzO ho)) (.ref (zz9 s)) 0 eZ λh' tk c q1 q2=>⟨h',tk,c,rfl,rfl,λb y e=>q1 b y (zzb (zzO e)) (kp b y e),q2⟩
 unfold collect;refine zzA (wpAny_runValue (codeAny_mono main λres s' hr=>?_));obtain⟨h',tk,c,rfl,rfl,k1,k2⟩:=hr
 show wpAny _ A (load (zz9 s)>>=λz=>_) _ _ _
 refine zzA (wpAny_load k2 (zzG ?_));show Q ((cC w S ep arr).map (·.2)).toList _;rw [Array.toList_map];exact q h' tk k1
end
noncomputable def Ol(r c:Int):Int:=reduceHash (Builtin.Tuple.tupleHashOf [hashInt r,hashInt c])
noncomputable def Fg(h:Int):Bool:=HI 7 h&&HI 31 h&&LM 31 h
def MD:((List.range 6).all λ(r:Nat)=>(List.range 6).all λ(c:Nat)=>Fg (Ol (r:Int) (c:Int)))=true:=by decide+kernel
def JK{P:Program}{w:World}{ns:List Int}(h:A8 ns=true):tU (tupleKeyHash (aC P w) (ns.map .inl)):=by
 match ns,h with
 |[r,c],h=>
  simp! [A8,zza,zzN] at h;obtain⟨⟨h1,h2⟩,h3,h4⟩:=h
  obtain⟨r,rfl⟩:=zzw h1
  obtain⟨c,rfl⟩:=zzw h3
  have z:=zzT.1 (zzT.1 MD r (List.mem_range.2 (by omega))) c (List.mem_range.2 (by omega))
  have e:tupleKeyHash (aC P w) ([(r:Int),(c:Int)].map .inl)=Ol r c:=rfl
  rw [e];simp! [Fg,zza] at z;exact⟨vz z.1.1,vz z.1.2,EM z.2⟩
noncomputable def Oj(p:Addr)(o:Obj):HO:=.ext λh=>h.get? p=some o
def Ri(w:World)(p:Addr)(o:Obj)(us:List Value):Prop:=∃arr ep t,o.ExactSet/\o.data=.set arr ep t/\t.fits arr.size=true/\lV t arr.toList/\t.plain=true/\t.led=(!w.params.followText "set-order")/\arr.size<=1000/\us=(cC w p ep arr).toList.map (·.2)
theorem vQ{P:Program}{w:World}{h:Heap}{Z:List (V×List Int)}:∀{es:List (Int×Value)},(∀e∈es,∃v ns,RelV v e.2/\(v,ns)∈Z/\aG (aC P w) h e (ns.map .inl))->
 ∃vs nss,Vals vs (es.map (·.2))/\Paired (λv ns=>(v,ns)∈Z) vs nss/\Paired (λe (ns:List Int)=>aG (aC P w) h e (ns.map .inl)) es nss
 |[],_=>⟨[],[],.nil,.nil,.nil⟩
 |e::es,H=>by
  obtain⟨v,ns,h1,h2,h3⟩:=H e (zzP ..)
  obtain⟨vs,nss,a,b,c⟩:=vQ λx hx=>H x (zzI _ hx)
  exact⟨v::vs,ns::nss,.cons h1 a,.cons h2 b,.cons h3 c⟩
theorem vO{α β:Type}{F:α->β->Prop}:∀{l:List α} {m:List β},Paired F l m->∀{a},a∈l->∃b∈m,F a b
 |_,_,.nil,_,h=>by cases h
 |_,_,.cons h t,a,hm=>by
  rcases zzm.1 hm with rfl|hm
  ·exact⟨_,zzP ..,h⟩
  ·obtain⟨b,hb,f⟩:=vO t hm
   exact⟨b,zzI _ hb,f⟩
theorem oj{α β:Type}{F:α->β->Prop}:∀{l:List α} {m:List β},Paired F l m->∀{b},b∈m->∃a∈l,F a b
 |_,_,.nil,_,h=>by cases h
 |_,_,.cons h t,a,hm=>by
  rcases zzm.1 hm with rfl|hm
  ·exact⟨_,zzP ..,h⟩
  ·obtain⟨b,hb,f⟩:=oj t hm
   exact⟨b,zzI _ hb,f⟩
theorem A2{α β:Type}{F:α->β->Prop}:∀{l:List α} {m:List β},Paired F l m->∀{a b},(a,b)∈l.zip m->F a b
 |_,_,.nil,_,_,h=>by cases h
 |_,_,.cons h t,a,b,hm=>by
  rw [List.zip_cons_cons] at hm;rcases zzm.1 hm with e|hm
  ·cases e;exact h
  ·exact A2 t hm
theorem Ep{a b:List Int}(e:a.map (Sum.inl (β:=Str))=b.map .inl):a=b:=(List.map_inj_right λx y z=>Sum.inl.inj z).1 e
theorem sf{P:Program}{w:World}{h:Heap}:∀{es:List (Int×Value)} {nss:List (List Int)},Paired (λe (ns:List Int)=>aG (aC P w) h e (ns.map .inl)) es nss->(es.Pairwise λe e'=>∀k,aG (aC P w) h e k->¬aG (aC P w) h e' k)->nss.Nodup
 |_,_,.nil,_=>List.nodup_nil
 |_,_,.cons a t,q=>by
  obtain⟨q1,q2⟩:=List.pairwise_cons.1 q
  refine List.nodup_cons.2 ⟨λhm=>?_,sf t q2⟩
  obtain⟨e',he',z⟩:=oj t hm
  exact q1 e' he' _ a z
def wQ{X:Cx}(hu:X.A.units+64<cLine)(hc:X.calm=true):bV X (.type "set") (λxs H Q=>∃a vs nss,∃U:List (List Int),xs=[V.ref a]/\di X.K H a vs/\j3 X.K H vs nss/\(∀ns∈nss,ns∈U/\A8 ns=true)/\U.length<=18/\
 ∀p o us me il,H p=none->Ri X.w p o us->Vals me us->Paired (λv ns=>(v,ns)∈vs.zip nss) me il->il.Nodup->(∀k,k∈il↔k∈nss)->Q (.ref p) (upd H p (Oj p o))):=by
 intro aa s σ H xs us Q I r h;obtain⟨a,vs,nss,U,rfl,hl,t,hU,Oc,q⟩:=h
 obtain⟨u,rfl,ru⟩:=vals1 r
 cases ru;obtain⟨aj,rv,p,hz⟩:=I.list hl
 have hn:nss.length=aj.length:=by rw [<-t.length,rv.length]
 have at_:∀(i:Nat) v,aj[i]?=some v->∃b,v=.ref b/\∃ns,nss[i]?=some ns/\(V.ref b,ns)∈vs.zip nss/\TK (aC X.prog X.w) s.heap (ns.map .inl) b:=by
  clear hz p hl hU q r hn
  intro i
  induction t generalizing aj i with
  |nil=>cases rv;intro v hv;cases hv
  |cons hd tl ih=>
   cases rv with
   |cons r1 r2=>
    obtain⟨b,rfl,hq,dH⟩:=hd
    cases(show _=Value.ref b from r1);cases i with
    |zero=>
     intro v hv;cases hv;obtain⟨is,rv',⟨o,g1,g2,n,g3⟩,_⟩:=I.tuple hq
     refine⟨b,rfl,_,rfl,zzP ..,o,is.toArray,n,g1,g2,g3,?_,?_⟩
     ·refine ik ?_;rw [List.map_map];exact rv'
     ·intro v hv;have:∀{ns:List Int} {is:List Value},Vals (ns.map V.int) is->∀v∈is,plainKind v=true:=by
       intro ns
       induction ns with
       |nil=>intro is h v hv;cases h;cases hv
       |cons n ns ih=>
        intro is h v hv;cases h with
        |cons h1 h2=>
         obtain⟨t,rfl⟩:=(show∃t,_=Value.int n t from h1)
         rcases zzm.1 hv with rfl|hv
         ·rfl
         ·exact ih h2 v hv
      exact this rv' v hv
    |succ i=>
     intro v hv;obtain⟨b',e,ns,e1,e2,e3⟩:=ih _ r2 i v hv
     exact⟨b',e,ns,e1,zzI _ e2,e3⟩
 refine wV (knd:=aC X.prog X.w) (l:=a) (items:=aj.toArray) (kf:=λi=>(nss.getD i []).map .inl) (U:=U.map λns=>ns.map .inl) (by omega) (I.ok.hd hc) p.isList (λi hi=>?_) (by rw [zzl];exact Oc) (λi v hv=>?_) λh' tk es S Hs mm kp=>?_
 ·have Na:i<nss.length:=by rw [hn];simpa using hi
  have e:nss.getD i []=nss[i]:=by simp [Na]
  have:=hU nss[i] (List.getElem_mem Na)
  rw [e];exact⟨zzx.2 ⟨_,this.1,rfl⟩,JK this.2⟩
 ·have TQ:aj[i]?=some v:=by simpa using hv
  obtain⟨b,rfl,ns,e1,_,tk⟩:=at_ i v TQ
  refine⟨b,rfl,?_⟩;rw [zzK,e1];exact tk
 ·obtain⟨o,arr,ep,tb,ho,hx,hd,he,ok,hp,qi,hm⟩:=id S.ex
  have ok:lV tb arr.toList:=he▸ok
  have hlen:arr.toList.length<=18/\arr.toList.length<=tb.mask:=by
   rw [he];rcases hm with⟨m1,m2⟩|⟨m1,m2⟩<;>rw [m1]<;>omega
  have pm:=ni X.w (zz9 s) ep arr
  have each:∀e∈(cC X.w (zz9 s) ep arr).toList,∃v ns,RelV v e.2/\(v,ns)∈vs.zip nss/\aG (aC X.prog X.w) h' e (ns.map .inl):=λe hm=>by
   have p7:e∈es:=he▸pm.subset hm
   obtain⟨j,hj⟩:=mm e p7
   have II:aj[j]?=some e.2:=by simpa using hj
   obtain⟨b,eb,ns,e1,e2,e3⟩:=at_ j _ II
   obtain⟨k,⟨b',rfl,Bp⟩,_⟩:=S.key e p7
   cases eb;have SW:TK (aC X.prog X.w) h' (ns.map .inl) b:=by
    obtain⟨o,i,n,a1,a2⟩:=e3
    exact⟨o,i,n,kp _ _ a1,a2⟩
   have:=Bp.inj SW
   subst this;exact⟨.ref b,ns,rfl,e2,b,rfl,SW⟩
  obtain⟨me,il,b1,b2,b3⟩:=vQ each
  have sym:(cC X.w (zz9 s) ep arr).toList.Pairwise λe e'=>∀k,aG (aC X.prog X.w) h' e k->¬aG (aC X.prog X.w) h' e' k:=by
   have:=S.nd
   rw [<-he] at this;exact(pm.pairwise_iff λ{x y} z k a b=>z k b a).2 this
  refine⟨.ref (zz9 s),_,I.laid (a:=(zz9 s)) (o:=Oj (zz9 s) o) (t':=tk) kp (zzE _) ⟨ho,⟨_,ho⟩,λh1 h2 q1 q2=>q2 _ q1⟩,rfl,q _ o _ me il (I.bj.fresh (zzE _)) ⟨arr,ep,tb,hx,hd,ok.fits hlen.2,ok,hp,qi,by have:=hlen.1;rw [zzd] at this;omega,rfl⟩ b1 b2 (sf b3 sym) λk=>⟨λhk=>?_,λhk=>?_⟩⟩
  ·obtain⟨v,_,z⟩:=oj b2 hk
   exact(List.of_mem_zip z).2
  ·obtain⟨j,hj,e⟩:=List.mem_iff_getElem.1 hk
   obtain⟨e',he',z⟩:=(Hs (k.map .inl)).2 ⟨j,by rw [hn] at hj;simpa using hj,by rw [<-e];simp [hj]⟩
   obtain⟨ns,NA,z'⟩:=vO b3 (pm.mem_iff.2 (he▸he'))
   rw [Ep (z.inj z')];exact NA
def p9{X:Cx}(hc:X.calm=true):bV X (.builtin "sorted") (λxs H Q=>∃p o us me il,xs=[V.ref p]/\H p=some (Oj p o)/\Ri X.w p o us/\Vals me us/\j3 X.K H me il/\me.length<64/\∀l,H l=none->Q (.ref l) (upd H l (.lst (my V.ay me il)))):=by
 intro aa s σ H xs us Q I r h;obtain⟨p,o,us',me,il,rfl,hp,⟨arr,ep,tb,hx,hd,hf,ok,hpl,hl,hz,rfl⟩,rv,t,Ko,q⟩:=h
 obtain⟨u,rfl,ru⟩:=vals1 r
 cases ru;have ho:s.heap.get? p=some o:=(I.bj p _ hp).1
 refine Calls.call_function_entry kind_sorted plain_sorted entry_sorted (args_sorted1 _) ?_;unfold Builtin.«sorted»;refine zzA (m:=checkCount "sorted" 1 1 _) (zzG (zzA (qI (show X.A.in1.handled=none from I.ok.hd hc) ⟨⟨o,ho,hx,hd⟩,hf,ok,hpl,hl,hz⟩ λh' tk kp=>?_)))
 have I1:=I.kept (t':=tk) (h':=h') kp
 exact sU I1 rv (zR I1 rv t) Ko q
end St
namespace L2
open PySem PySem.Spec PyProof.Rows PySem.W
theorem run_bind{α β:Type}(lt:Nat->Nat->Bool)(f:α->KasT β):∀t:KasT α,aB lt (t.bind f)=aB lt (f (aB lt t))
 |.ret a=>rfl
 |.ask i j k=>run_bind lt f (k (lt i j))
structure Lo(n:Nat)(lt:Nat->Nat->Bool):Prop where
 t:∀a b,a<n->b<n->a≠b->lt a b=true\/lt b a=true
 a:∀a b,lt a b=true->lt b a=false
 r:∀a b c,lt a b=true->lt b c=true->lt a c=true
noncomputable abbrev gp(p:Array Nat)(i:Nat):Nat:=p.getD i 0
def Sg(lt:Nat->Nat->Bool)(p:Array Nat)(r:Nat):Prop:=∀i j,i<j->j<r->lt (gp p i) (gp p j)=true
section
variable{n:Nat}{lt:Nat->Nat->Bool}
def Pm.size{p:Array Nat}(h:Pm n p):p.size=n:=by
 have:=h.length_eq
 simpa using this
def Pm.ne{p:Array Nat}(h:Pm n p){i j:Nat}(hi:i<n)(hj:j<n)(hn:i≠j):gp p i≠gp p j:=by
 have nd:p.toList.Nodup:=h.nodup_iff.2 List.nodup_range
 have sz:=h.size
 intro e;rw [gp,gp,Array.getD_eq_getD_getElem?,Array.getD_eq_getD_getElem?,zz2 (by omega),zz2 (by omega)] at e;simp! [Option.getD_some] at e;have:=(List.getElem_inj nd (h₀:=by simpa [sz] using hi) (h₁:=by simpa [sz] using hj)).1 (by simpa using e)
 exact hn this
def Pm.or{p:Array Nat}(L:Lo n lt)(h:Pm n p){i j:Nat}(hi:i<n)(hj:j<n)(hn:i≠j)(f:lt (gp p i) (gp p j)=false):lt (gp p j) (gp p i)=true:=
 (L.t _ _ (h.lt (by omega) i) (h.lt (by omega) j) (h.ne hi hj hn)).resolve_left (by rw [f];exact zzf)
def Sg.one(p:Array Nat):Sg lt p 1:=λi j h1 h2=>by omega
def Sg.snoc(L:Lo n lt){p:Array Nat}{m:Nat}(h1:1<=m)(h:Sg lt p m)(e:lt (gp p (m-1)) (gp p m)=true):Sg lt p (m+1):=λi j oD hj=>by
 by_cases hm:j=m
 ·subst hm
  by_cases hi:i=j-1
  ·subst hi;exact e
  ·exact L.r _ _ _ (h i (j-1) (by omega) (by omega)) e
 ·exact h i j oD (by omega)
theorem oS(L:Lo n lt){p:Array Nat}(P:Pm n p):∀f m,1<=m->m+f<=n->Sg lt p m->m<=aB lt (kas_asc p f m)/\aB lt (kas_asc p f m)<=m+f/\Sg lt p (aB lt (kas_asc p f m))/\(aB lt (kas_asc p f m)<m+f->lt (gp p (aB lt (kas_asc p f m))) (gp p (aB lt (kas_asc p f m)-1))=true)
 |0,m,h1,h2,h3=>⟨zzE _,zzE _,h3,λz=>absurd z (Nat.lt_irrefl _)⟩
 |f+1,m,h1,h2,h3=>by
  unfold kas_asc;simp! [aB];cases e:lt (gp p m) (gp p (m-1)) with
  |true=>rw [if_pos rfl];exact⟨zzE _,Nat.le_add_right _ _,h3,λ_=>e⟩
  |false=>
   rw [if_neg zzf];have e2:=P.or L (by omega) (by omega) (by omega) e
   obtain⟨a,b,c,d⟩:=oS L P f (m+1) (by omega) (by omega) (h3.snoc L h1 e2)
   exact⟨by omega,by omega,c,λz=>d (by omega)⟩
def Dg(lt:Nat->Nat->Bool)(p:Array Nat)(r:Nat):Prop:=∀i j,i<j->j<r->lt (gp p j) (gp p i)=true
theorem rS(L:Lo n lt){p:Array Nat}(P:Pm n p):∀f m,1<=m->m+f<=n->Dg lt p m->∃m',aB lt (kas_desc f p m 0)=(p,m',0)/\m<=m'/\m'<=m+f/\Dg lt p m'
 |0,m,h1,h2,h3=>⟨m,rfl,zzE _,zzE _,h3⟩
 |f+1,m,h1,h2,h3=>by
  unfold kas_desc;simp! [aB];cases e:lt (gp p m) (gp p (m-1)) with
  |true=>
   rw [if_pos rfl,if_neg (Nat.lt_irrefl 0)];obtain⟨m',a,b,c,d⟩:=rS L P f (m+1) (by omega) (by omega) (λi j oD hj=>by
    by_cases hm:j=m
    ·subst hm
     by_cases hi:i=j-1
     ·subst hi;exact e
     ·exact L.r _ _ _ e (h3 i (j-1) (by omega) (by omega))
    ·exact h3 i j oD (by omega))
   exact⟨m',a,by omega,by omega,d⟩
  |false=>
   have e2:=P.or L (by omega) (by omega) (by omega) e
   rw [if_neg zzf];simp! [aB];rw [show lt (p.getD (m-1) 0) (p.getD m 0)=true from e2,if_pos rfl];exact⟨m,rfl,zzE _,by omega,h3⟩
def vw{p:Array Nat}{m:Nat}(h:m<=p.size)(k:Nat):gp (kas_rev p 0 m) k=if k<m then gp p (m-1-k) else gp p k:=by
 unfold kas_rev gp;rw [Array.getD_eq_getD_getElem?,getElem?_mirror_all h];simp! [Nat.zero_le,true_and,Nat.zero_add];split<;>rw [Array.getD_eq_getD_getElem?]
def Dg.rev{p:Array Nat}{m:Nat}(h:m<=p.size)(d:Dg lt p m):Sg lt (kas_rev p 0 m) m:=λi j oD hj=>by
 rw [vw h,vw h,if_pos (by omega),if_pos hj];exact d _ _ (by omega) (by omega)
def xn(L:Lo n lt)(h0:0<n){p:Array Nat}(P:Pm n p):Sg lt (aB lt (kas_count n p)).2 (aB lt (kas_count n p)).1/\Pm n (aB lt (kas_count n p)).2/\1<=(aB lt (kas_count n p)).1/\(aB lt (kas_count n p)).1<=n:=by
 unfold kas_count;rw [run_bind];obtain⟨a,b,c,d⟩:=oS L P (n-1) 1 (zzE _) (by omega) (Sg.one p)
 generalize aB lt (kas_asc p (n-1) 1)=m at a b c d
 split
 ·exact⟨c,P,a,by show m<=n;omega⟩
 ·rename_i hm;have p7:m≠n:=λz=>hm (by rw [z];exact beq_self_eq_true n)
  split
  ·rename_i h1;simp! [aB];rw [show lt (p.getD 0 0) (p.getD (m-1) 0)=true from c 0 (m-1) (by omega) (by omega),if_pos rfl];exact⟨c,P,a,by show m<=n;omega⟩
  ·have Pk:m=1:=by omega
   subst Pk;have e:=d (by omega)
   unfold kas_descPart;rw [run_bind];obtain⟨m',r,r1,r2,r3⟩:=rS L P (n-(1+1)) (1+1) (by omega) (by omega) (λi j oD hj=>by
    have Tw:i=0:=by omega
    have Ub:j=1:=by omega
    subst Tw;subst Ub;exact e)
   rw [r];dsimp only;rw [if_neg (Nat.lt_irrefl 0)];unfold kas_tail3;rw [run_bind];have P':=P.rev 0 m'
   obtain⟨a',b',c',_⟩:=oS L P' (n-m') m' (by omega) (by omega) (r3.rev (by rw [P.size];omega))
   simp! [aB];exact⟨c',P',by omega,by omega⟩
theorem iz(L:Lo n lt){p:Array Nat}(P:Pm n p){k:Nat}(hk:k<n)(S:Sg lt p k):∀f l r,r-l<=f->l<=r->r<=k->(∀i,i<l->lt (gp p i) (gp p k)=true)->(∀i,r<=i->i<k->lt (gp p k) (gp p i)=true)->
 aB lt (kas_place p k f l r)<=k/\(∀i,i<aB lt (kas_place p k f l r)->lt (gp p i) (gp p k)=true)/\∀i,aB lt (kas_place p k f l r)<=i->i<k->lt (gp p k) (gp p i)=true
 |0,l,r,h1,h2,h3,h4,h5=>by
  have hl:l=r:=by omega
  subst hl;exact⟨h3,h4,h5⟩
 |f+1,l,r,h1,h2,h3,h4,h5=>by
  unfold kas_place;split
  ·have hl:l=r:=by omega
   subst hl;exact⟨h3,h4,h5⟩
  ·simp! [aB];have bX:l<r:=by omega
   have m1:l<=(l+r)/2:=by omega
   have m2:(l+r)/2<r:=by omega
   generalize hm:(l+r)/2=m at m1 m2
   cases e:lt (gp p k) (gp p m) with
   |true=>
    rw [if_pos rfl];refine iz L P hk S f l m (by omega) m1 (by omega) h4 λi hi U8=>?_
    by_cases z:i=m
    ·subst z;exact e
    ·exact L.r _ _ _ e (S m i (by omega) U8)
   |false=>
    rw [if_neg zzf];have e2:=P.or L hk (by omega) (by omega) e
    refine iz L P hk S f (m+1) r (by omega) (by omega) h3 (λi hi=>?_) h5
    by_cases z:i=m
    ·subst z;exact e2
    ·exact L.r _ _ _ (S i m (by omega) (by omega)) e2
def uX{p:Array Nat}{k x:Nat}(hk:k<p.size)(hx:x<=k)(i:Nat):gp (bubble p k (k-x)) i=if i=x then gp p k else if x<i/\i<=k then gp p (i-1) else gp p i:=by
 have g:∀(q:Array Nat) j,gp q j=(q[j]?).getD 0:=λq j=>Array.getD_eq_getD_getElem? ..
 rw [g,g,g,g,getElem?_bubble hk (k-x) (by omega),show k-(k-x)=x by omega];split
 ·rfl
 ·split<;>rfl
theorem vJ(L:Lo n lt):∀f (p:Array Nat) k,k+f=n->Pm n p->Sg lt p k->Sg lt (aB lt (kas_bin f p k)) n
 |0,p,k,h,P,S=>by
  have:k=n:=by omega
  subst this;exact S
 |f+1,p,k,h,P,S=>by
  unfold kas_bin;rw [run_bind];obtain⟨a,b,c⟩:=iz L P (k:=k) (by omega) S k 0 k (by omega) (Nat.zero_le _) (zzE _) (λi hi=>absurd hi (Nat.not_lt_zero _)) (λi h1 h2=>by omega)
  generalize aB lt (kas_place p k k 0 k)=x at a b c
  refine vJ L f _ (k+1) (by omega) (P.RO _ _) λi j oD hj=>?_
  have hs:k<p.size:=by rw [P.size];omega
  rw [uX hs a,uX hs a]
  by_cases hi:i=x
  ·rw [if_pos hi,if_neg (by omega),if_pos (by omega)];exact c _ (by omega) (by omega)
  ·rw [if_neg hi]
   by_cases II:j=x
   ·rw [if_pos II,if_neg (by omega)];exact b _ (by omega)
   ·rw [if_neg II]
    by_cases i2:x<i/\i<=k
    ·rw [if_pos i2,if_pos (by omega)];exact S _ _ (by omega) (by omega)
    ·rw [if_neg i2]
     by_cases j2:x<j/\j<=k
     ·rw [if_pos j2]
      by_cases z:i=j-1
      ·omega
      ·exact S _ _ (by omega) (by omega)
     ·rw [if_neg j2];exact S _ _ oD (by omega)
def ma(L:Lo n lt)(h0:0<n):(iq n lt).Pairwise λa b=>lt a b=true:=by
 have key:Sg lt (aB lt (kas_sort n)) n:=by
  unfold kas_sort;rw [run_bind];obtain⟨a,b,c,d⟩:=xn L h0 (p:=(List.range n).toArray) (List.Perm.refl _)
  generalize aB lt (kas_count n (List.range n).toArray)=r at a b c d
  split
  ·rw [Nat.max_eq_left c];exact vJ L _ _ _ (by omega) b a
  ·have:r.1=n:=by omega
   rw [this] at a;exact a
 have P:Pm n (aB lt (kas_sort n)):=fh h0 lt
 have sz:=P.size
 rw [List.pairwise_iff_getElem];intro i j hi hj oD;have II:j<(aB lt (kas_sort n)).size:=by simpa [iq] using hj
 have:=key i j oD (by omega)
 simpa [gp,iq,Array.getD_eq_getD_getElem?,zz2 II,zz2 (Nat.lt_trans oD II)] using this
end
end L2
namespace Ci
open PySem L2
theorem j7:∀{a b c:List Int},HT.lexLt a b=true->HT.lexLt b c=true->HT.lexLt a c=true
 |[],[],_,h,_=>by cases h
 |[],_::_,[],_,h=>by cases h
 |[],_::_,_::_,_,_=>rfl
 |_::_,[],_,h,_=>by cases h
 |_::_,_::_,[],_,h=>by cases h
 |x::a,y::b,z::c,h,k=>by
  simp! [HT.lexLt] at h k⊢;split at h
  ·subst x;split at k
   ·subst y;rw [if_pos rfl];exact j7 h k
   ·rw [if_neg ‹_›];exact k
  ·have h:=zzY h
   split at k
   ·subst y;rw [if_neg ‹_›];exact zzh h
   ·have k:=zzY k
    rw [if_neg (by omega)];exact zzh (by omega)
theorem eE:∀{a b:List Int},HT.lexLt a b=true->HT.lexLt b a=false
 |[],[],h=>by cases h
 |[],_::_,_=>rfl
 |_::_,[],h=>by cases h
 |x::a,y::b,h=>by
  simp! [HT.lexLt] at h⊢;split at h
  ·subst x;rw [if_pos rfl];exact eE h
  ·have h:=zzY h
   rw [if_neg (by omega)];exact zz0 (by omega)
theorem tG:∀{a b:List Int},a≠b->HT.lexLt a b=true\/HT.lexLt b a=true
 |[],[],h=>absurd rfl h
 |[],_::_,_=>.inl rfl
 |_::_,[],_=>.inr rfl
 |x::a,y::b,h=>by
  simp! [HT.lexLt]
  by_cases e:x=y
  ·subst x;rw [if_pos rfl,if_pos rfl];exact tG λz=>h (by rw [z])
  ·rw [if_neg e,if_neg (λz=>e z.symm)]
   by_cases l:x<y
   ·exact .inl (zzh l)
   ·exact .inr (zzh (by omega))
def jq(a:List Int):HT.lexLt a a=false:=by
 cases h:HT.lexLt a a with
 |false=>rfl
 |true=>have:=eE h;rw [h] at this;exact this
abbrev yb(L:List (List Int)):Prop:=L.Pairwise λa b=>HT.lexLt a b=true
def yb.nodup{L:List (List Int)}(h:yb L):L.Nodup:=h.imp λ{a b} e z=>by rw [z,jq] at e;cases e
theorem vo:∀{L M:List (List Int)},yb L->yb M->(∀x,x∈L↔x∈M)->L=M
 |[],[],_,_,_=>rfl
 |[],y::M,_,_,h=>absurd ((h y).2 (zzP ..)) (by simp)
 |x::L,[],_,_,h=>absurd ((h x).1 (zzP ..)) (by simp)
 |x::L,y::M,hL,hM,h=>by
  have pL:=List.pairwise_cons.1 hL
  have pM:=List.pairwise_cons.1 hM
  have e:x=y:=by
   rcases zzm.1 ((h x).1 (zzP ..)) with z|z
   ·exact z
   ·rcases zzm.1 ((h y).2 (zzP ..)) with w|w
    ·exact w.symm
    ·have:=eE (pM.1 x z)
     rw [pL.1 y w] at this;cases this
  subst e;rw [vo pL.2 pM.2 λz=>?_]
  constructor
  ·intro hz;rcases zzm.1 ((h z).1 (zzI _ hz)) with w|w
   ·subst w;have:=pL.1 z hz;rw [jq] at this;cases this
   ·exact w
  ·intro hz;rcases zzm.1 ((h z).2 (zzI _ hz)) with w|w
   ·subst w;have:=pM.1 z hz;rw [jq] at this;cases this
   ·exact w
def range_getD{α:Type}(d:α)(l:List α):(List.range l.length).map (λi=>l.getD i d)=l:=by
 refine List.ext_getElem (by simp) λi h1 h2=>?_
 simp [zzK,zzg h2]
def EV{α:Type}(d:α)(f:α->PV)(g:α->List Int){l:List α}(nd:(l.map g).Nodup):my PV.ay (l.map f) (l.map g)=(my d l (l.map g)).map f/\(my d l (l.map g)).Perm l/\yb ((my d l (l.map g)).map g):=by
 by_cases h:l.length<2
 ·unfold my;rw [if_pos h,if_pos (by simpa using h)];refine⟨rfl,.refl _,?_⟩
  match l,h with
  |[],_=>exact .nil
  |[a],_=>exact List.pairwise_singleton ..
  |_::_::_,h=>simp! [zzL] at h;omega
 ·have gl:∀i,i<l.length->(l.map g).getD i []=g (l.getD i d):=λi hi=>by simp [zzK,zzg hi]
  have P:=fh (n:=l.length) (by omega) λi j=>HT.lexLt ((l.map g).getD i []) ((l.map g).getD j [])
  have U:=ma (n:=l.length) (lt:=λi j=>HT.lexLt ((l.map g).getD i []) ((l.map g).getD j [])) ⟨λa b ha hb hn=>tG λz=>hn (by
   have ha:a<(l.map g).length:=by simpa using ha
   have hb:b<(l.map g).length:=by simpa using hb
   simp! [zzK,zzg ha,zzg hb,Option.getD_some] at z;exact(List.getElem_inj nd).1 z),λa b=>eE,λa b c=>j7⟩ (by omega)
  unfold my;rw [if_neg h,if_neg (by simpa using h),zzl,List.map_map];refine⟨List.map_congr_left λi hi=>?_,?_,List.pairwise_map.2 (List.pairwise_map.2 (List.Pairwise.imp_of_mem (λ{a b} ha hb e=>?_) U))⟩
  ·have hl:i<l.length:=List.mem_range.1 (P.mem_iff.1 hi)
   simp [zzK,zzg hl]
  ·have Q:=P.map λi=>l.getD i d
   rw [range_getD] at Q;exact Q
  ·rw [gl a (List.mem_range.1 (P.mem_iff.1 ha)),gl b (List.mem_range.1 (P.mem_iff.1 hb))] at e;exact e
theorem km{k z:List Int}:∀{l:List (List Int)},z∈sk k l↔z=k\/z∈l
 |[]=>by simp [sk]
 |x::l=>by
  unfold sk;split
  ·rename_i e;subst e
   constructor
   ·exact .inr
   ·rintro (rfl|h)
    ·exact zzP ..
    ·exact h
  ·split
   ·exact zzm
   ·rw [zzm,km,zzm]
    constructor
    ·rintro (h|h|h)
     ·exact .inr (.inl h)
     ·exact .inl h
     ·exact .inr (.inr h)
    ·rintro (h|h|h)
     ·exact .inr (.inl h)
     ·exact .inl h
     ·exact .inr (.inr h)
theorem qD{k:List Int}:∀{l:List (List Int)},yb l->yb (sk k l)
 |[],_=>List.pairwise_singleton ..
 |x::l,h=>by
  have p:=List.pairwise_cons.1 h
  unfold sk;split
  ·exact h
  ·rename_i dH;split
   ·rename_i hl;refine List.pairwise_cons.2 ⟨λz hz=>?_,h⟩
    rcases zzm.1 hz with e|hz
    ·rw [e];exact hl
    ·exact j7 hl (p.1 z hz)
   ·rename_i hl;refine List.pairwise_cons.2 ⟨λz hz=>?_,qD p.2⟩
    rcases km.1 hz with e|hz
    ·rw [e];rcases tG dH with q|q
     ·exact absurd q hl
     ·exact q
    ·exact p.1 z hz
theorem d9{z:List Int}:∀{l:List (List Int)},z∈eW l↔z∈l
 |[]=>by simp [eW]
 |x::l=>by
  show z∈sk x (eW l)↔_
  rw [km,d9,zzm]
theorem lr:∀{l:List (List Int)},yb (eW l)
 |[]=>.nil
 |x::l=>qD (k:=x) (lr (l:=l))
def EC{L nss:List (List Int)}(nd:L.Nodup)(m:∀k,k∈L↔k∈nss):my PV.ay (L.map ae) L=(eW nss).map ae:=by
 have U:=EV [] ae id (l:=L) (by rw [List.map_id];exact nd)
 rw [List.map_id] at U;rw [U.1];have V:=U.2.2
 rw [List.map_id] at V;rw [vo V lr λx=>by rw [U.2.1.mem_iff,m,d9]]
section
variable{Γ:Pg}{X:Cx}{W:Wd}{F:aN}{N:List Str}{sc:Scope}{k:Nat}{G:Hp}
theorem ve:∀{xs:List PV} {nss:List (List Int)} {vs:List V},eQ xs=some nss->ag W G xs vs->∀{v ns},(v,ns)∈vs.zip nss->Rep W G (ae ns) v
 |[],_,_,e,l,v,ns,h=>by cases e;simp! [ag] at l;subst l;cases h
 |x::xs,nss,vs,e,l,v,ns,h=>by
  unfold eQ at e;obtain⟨k,hk,e⟩:=zzZ.mp e
  obtain⟨r,hr,rfl⟩:=zzJ.mp e
  obtain⟨v',vr,rfl,h1,h2⟩:=l.aZ
  rw [dw hk] at h1;rw [List.zip_cons_cons] at h;rcases zzm.1 h with e|h
  ·cases e;exact h1
  ·exact ve hr h2 h
theorem uS{Z:List (V×List Int)}(hZ:∀{v ns},(v,ns)∈Z->Rep W G (ae ns) v):∀{vs:List V} {nss:List (List Int)},Paired (λv ns=>(v,ns)∈Z) vs nss->ag W G (nss.map ae) vs
 |_,_,.nil=>.nil
 |_,_,.cons h t=>.cons (hZ h) (uS hZ t)
theorem ES(C:dG Γ F W N sc k X){a:E}{pa:Expr}{p1 p2 pos uf:Pos}(hg:eO sc "sorted"=true)(hm:Γ.bs.contains "sorted"=true)(Nr:eO sc "set"=true)(F4:Γ.bs.contains "set"=true)(ha:GE X W F a pa)(he:starEach [pa] X.env=(false,eval pa X.env)::starEach [] X.env):
 GE X W F (.xP a) (.Call (.Name "sorted" p1) [.Call (.Name "set" p2) [pa] [] uf] [] pos):=
 (dZ (St.p9 C.calm) (dg C hg) (C.bs _ (zzn.mp hm)) (by decide+kernel) (bp (dy (St.wQ (by have:=C.room.un;omega) C.calm) (dg C Nr) (C.bs _ (zzn.mp F4)) (by decide+kernel) (bp ha cw he) (he:=he)) cw rfl)).imp λσ H Q h=>by
  obtain⟨H0,G,env,sr,o⟩:=h
  rw [aA] at o;refine one sr o λp v G1 H1 g t aX o1=>?_
  cases p with
  |lst xs=>
   obtain⟨l,vs,rfl,h1,l1⟩:=t.top.lst aX.sub
   cases hk:eQ xs with
   |none=>
    have o2:Out X W ((Res.of (eQ xs)).bind _) σ G1 H1 _:=o1
    rw [hk] at o2;exact zzk o2
   |some nss=>
    have o2:Out X W ((Res.of (eQ xs)).bind _) σ G1 H1 _:=o1
    rw [hk] at o2
    by_cases hc:(nss.all St.A8&&decide ((eW nss).length<=18))=true
    ·have o3:Out X W (if(nss.all St.A8&&decide ((eW nss).length<=18))=true then Res.ok _ else .bad) σ G1 H1 _:=o2
     rw [if_pos hc] at o3;rw [zza,zzN] at hc;have ne:nss.all (λk=>!k.isEmpty)=true:=zzT.2 λz hz=>by
      have:=zzT.1 hc.1 z hz
      match z,this with
      |_::_,_=>rfl
     refine⟨l,vs,nss,eW nss,rfl,iO C.K h1,pY aX.sub hk l1 ne,λns hn=>⟨d9.2 hn,zzT.1 hc.1 ns hn⟩,hc.2,λp o us me il hp so rv pz nd mem=>?_⟩
     have g1:=aD.MK (W:=W) (o:=St.Oj p o) aX.sub hp
     have hlen:il.length<=18:=zzU (St.cq nd λk hk=>d9.2 ((mem k).1 hk)) hc.2
     refine⟨p,o,us,me,il,rfl,ak,so,rv,L2.Paired.uL pz λv ns hz=>St.A2 (pY g1.sub hk l1 ne) hz,by rw [pz.length];omega,λx hx=>?_⟩
     have l2:=EU (nss:=il) (uS (ve hk l1) pz)
     rw [EC nd mem] at l2;exact dq.lst (W:=W) (G:=G1) (λw G' H' g' gF=>o3 w G' H' (g.trans (g1.trans g')) (.of gF)) g1.sub l2 hx
    ·have o3:Out X W (if(nss.all St.A8&&decide ((eW nss).length<=18))=true then Res.ok _ else .bad) σ G1 H1 _:=o2
     rw [if_neg hc] at o3;exact zzk o3
  |_=>exact zzk o1
end
end Ci
namespace L2
open PySem PySem.Spec PyProof.Rows
noncomputable def Pz(tk tv:TE):TE:=λσ H Q=>∀p,H p=none->tk σ (upd H p (.dT [])) λx H1=>tv σ H1 λy H2=>∃b ks,x=.ref b/\H2 p=some (.dT [])/\H2 b=some (.tup (ks.map kV))/\Q (.ref p) (upd H2 p (.dT (putK [] ks y)))
def Ie{X:Cx}{pos:Pos}{k v:Expr}{tk tv:TE}(hu:X.A.units<cLine)(hk:PE X k tk)(hv:PE X v tv):PE X (.Dict [some k] [v] pos) (Pz tk tv):=by
 intro aa s σ H Q I q;have hn:=I.bj.fresh (zzE (zz9 s))
 have I1:=I.laid (a:=(zz9 s)) (o:=.dT []) (h':=s.heap.push {cls:=.type "dict",data:=.dict #[]}) (t':=s.toks) (λ_ _ q=>zzB _ q) (zzE _) (lh s.heap I.big)
 refine wpAny_Dict_any rfl rfl (by simp) (show 1<=15 by decide) (pairTrees_cons_walk (bA (hk aa _ σ _ _ I1 (q _ hn)) λu s1 ⟨x,H1,I1',rx,q1⟩=>bA (hv aa s1 σ H1 _ I1' q1) λw2 s2 ⟨y,H2,I2,ry,q2⟩=>pairTrees_nil_walk ?_))
 obtain⟨b,ks,rfl,e,hb,q3⟩:=q2
 cases rx;unfold storeAll;refine wpAny_forIn_list _ (λrest _ s'=>(rest=[(Value.ref b,w2)]/\s'=s2)\/(rest=[]/\∃v' H',Inv X aa σ H' s'/\RelV v' (.ref (zz9 s))/\Q v' H')) _ (λx rest _ s' hI=>?_) (λ_ s' hI=>?_) _ _ (.inl ⟨rfl,rfl⟩)
 ·rcases hI with⟨h1,rfl⟩|⟨h1,_⟩
  ·cases h1;refine zzA (yv hu I2 e hb (by decide) ry λh' t hs I3=>zzG (.inr ⟨rfl,.ref _,_,I3,rfl,q3⟩))
  ·cases h1
 ·rcases hI with⟨h1,_⟩|⟨_,v',H',I',r',q'⟩
  ·cases h1
  ·exact⟨v',H',I',r',q'⟩
def E4{X:Cx}{pos:Pos}{k v:Expr}{n:Nat}{y:V}(hu:X.A.units<cLine)(hk:PE X k (Ez n))(hv:PE X v (tC y)):PE X (.Dict [some k] [v] pos) (λσ H Q=>∃b ks,σ[n]?=some (some (.ref b))/\H b=some (.tup (ks.map kV))/\∀p o,H p=none->Q (.ref p) (upd H p (.cN o (.dT (putK [] ks y))))):=by
 intro aa s σ H Q I ⟨b,ks,hb,ht,q⟩;refine wpAny_mono (Ie hu hk hv aa s σ H (λv' H'=>∃p,v'=.ref p/\H p=none/\H'=upd H p (.dT (putK [] ks y))) I λp hp=>⟨_,hb,b,ks,rfl,ak,?_,p,rfl,hp,?_⟩) ?_ λ_ _ z=>z
 ·rw [ai (λz=>by rw [z,hp] at ht;cases ht)];exact ht
 ·exact vV
 ·rintro u s' ⟨v',H',I',rv,p,rfl,hp,rfl⟩
  obtain⟨o,J⟩:=I'.freeze ak
  rw [vV] at J;exact⟨_,_,J,rv,q p o hp⟩
end L2
namespace Ci
open PySem L2
section
variable{Γ:Pg}{X:Cx}{W:Wd}{F:aN}{N:List Str}{sc:Scope}{k:Nat}
def Et(C:dG Γ F W N sc k X){a:E}{n:Int}{pa:Expr}{c1:Nat}{c2 q1 q4 q5:Pos}(hg:eO sc "max"=true)(hm:Γ.bs.contains "max"=true)(ha:GE X W F a pa)(hs:starEach [pa] X.env=(false,eval pa X.env)::starEach [] X.env):
 GE X W F (.maxD a n) (.Call (.Name "max" q1) [pa] [⟨some "default",.Constant (.int n) c1 c2,q4⟩] q5):=by
 intro aa s σ H Q I h;obtain⟨H0,G,env,sr,o⟩:=h
 rw [aA] at o;refine wpAny_Call_Name_kw (cZ I (dg C hg) (C.bs _ (zzn.mp hm)) (u:=.builtin "max") (by decide+kernel) ?_);refine PyProof.Rows.callWith_kw (bA ((bp ha cw hs) q5 aa s σ H (λvs H1=>∃p ns,vs=[.ref p]/\di X.K H1 p (ns.map V.int)/\Q (.int (maxD ns n)) H1) I ?_) λus s1 ⟨vs,H1,I1,r1,q1⟩=>?_) (by rw [hs];rfl) (by rw [hs];rfl)
 ·refine one sr o λx v G1 H1 g1 t aX o1=>?_
  cases x with
  |lst xs=>
   obtain⟨a',vs,rfl,h1,l1⟩:=t.top.lst aX.sub
   have o2:Out X W ((Res.of (intsOf xs)).bind _) σ G1 H1 _:=o1
   cases e:intsOf xs with
   |none=>rw [e] at o2;exact zzk o2
   |some ns=>
    rw [e] at o2;cases kE l1 e;exact⟨a',ns,rfl,iO C.K h1,o2 _ G1 H1 g1 (.of .i)⟩
  |_=>exact zzk o1
 ·obtain⟨p,ns,rfl,hp,q⟩:=q1
  obtain⟨u,rfl,ru⟩:=vals1 r1
  cases ru;refine PyProof.Rows.kws_cons (bA (zb aa s1 σ H1 (λv2 H2=>v2=.int n/\H2=H1) I1 ⟨rfl,rfl⟩) λu s2 hu=>PyProof.Rows.kws_nil ?_)
  obtain⟨v2,H2,I2,ru2,rfl,rfl⟩:=hu
  obtain⟨t,rfl⟩:=ru2
  exact v9 C.calm I2 hp q
theorem JL(C:dG Γ F W N sc k X){n:Nat}{z:Str}{zp cp pos:Pos}{j:Nat}(hz:N[n]?=some z)(UC:eF sc z=true)(Ro:okN z=true):GE X W F (.M3 n) (.Dict [some (.Name z zp)] [.Constant .none j cp] pos):=
 (E4 (by have:=C.room.un;omega) (lD (by rw [C.hN];exact hz) (ou C UC) (fV Ro).1 (fV Ro).2.1) yO).imp λσ H Q h=>by
  obtain⟨H0,G,env,sr,o⟩:=h
  rw [aA] at o;cases e:env[n]? with
  |none=>rw [e] at o;exact zzk o
  |some sl=>
   rw [e] at o;cases sl with
   |val kp=>
    have o':Out X W ((Res.of (d5 kp)).bind λkk=>Res.ok (PV.br [kk] [.ay])) σ G H _:=o
    cases hk:d5 kp with
    |none=>rw [hk] at o';exact zzk o'
    |some kk=>
     rw [hk] at o';have e2:=dw hk
     subst e2;obtain⟨v,hv,rv⟩:=sr.slot n _ e
     obtain⟨v',rfl,rv⟩:=rv
     obtain⟨ad,rfl,hb⟩:=om rv
     refine⟨ad,ki kk,hv,by rw [uy];exact sr.sub _ _ hb,λp ob hp=>?_⟩
     refine o' _ _ _ (.new sr.sub hp) (.of ?_);simp! [Rep];exact⟨p,ob,[.ay],rfl,rfl,ak,ag.same (aW (sr.sub.free hp)) _ (.cons .n .nil)⟩
   |no=>exact zzk o
   |own _=>exact zzk o
   |fn _ _ _=>exact zzk o
def H8{X:Cx}{e:E}{p:Expr}(h:GE X W F e p)(he:∀whole,isTrue p X.env whole=(do let v<-whole;standAt p.pos;holding [v] (truthy v))):GT X W F e p:=
 L2.PT.imp (Ht h he) λσ H Q hq=>FL σ H Q hq
structure SH(X:Cx)(W:Wd)(F:aN)(e:E)(p:Expr):Prop where
 ge:GE X W F e p
 gt:eV e=true->GT X W F e p
 gw:eV e=true->∀op vs pos,p=.BoolOp op vs pos->GW X W F e p
def aU{X:Cx}{e:E}{p:Expr}(h:GE X W F e p)(he:∀whole,isTrue p X.env whole=(do let v<-whole;standAt p.pos;holding [v] (truthy v)))(hb:∀op vs pos,p≠.BoolOp op vs pos):SH X W F e p:=
 ⟨h,λ_=>H8 h he,λ_ op vs pos e=>absurd e (hb op vs pos)⟩
def isTrue_plain{p:Expr}{env:Env}(h:(match p with|.UnaryOp .Not _ _=>false|.BoolOp .. =>false|.IfExp .. =>false|.Compare .. =>false|_=>true)=true):∀whole,isTrue p env whole=(do let v<-whole;standAt p.pos;holding [v] (truthy v)):=by
 intro whole;cases p with
 |UnaryOp op a pos=>cases op<;>first|rfl|(exact bq h)
 |BoolOp _ _ _=>exact bq h
 |IfExp _ _ _ _=>exact bq h
 |Compare _ _ _ _=>exact bq h
 |_=>rfl
def Bf{po:Expr}{m:Str}{env:Env}(h:FQ po=true):attributeBase po m env (eval po env)=eval po env:=by
 cases po with
 |Call f as kws p=>
  cases as with
  |nil=>exact bq h
  |cons a as=>cases f<;>rfl
 |_=>rfl
def HK{X:Cx}{q:PV}{c:Const}{kk:Nat}{pos:Pos}(h:Ls q c=true):GE X W F (.cst q) (.Constant c kk pos):=by
 cases q with
 |ay=>cases zJ h;exact ib yO λG=>.n
 |bl b=>
  obtain⟨x,e,h⟩:=ah h
  cases JA e;cases eq_of_beq h;exact ib Ll λG=>.b
 |int i=>
  obtain⟨x,e,h⟩:=ah h
  cases yo e;cases eq_of_beq h;exact ib zb λG=>.i
 |str z=>
  obtain⟨x,e,h⟩:=ah h
  cases zt e;cases eq_of_beq h;exact ib Aq λG=>.s
 |_=>exact bq h
def Aa{α:Type}{r:Res α}{c:α->Prop} [∀a,Decidable (c a)]{f:α->Res (List PV)}{q:PV}(e:(r.bind λa=>if c a then(f a).bind λys=>.ok (.lst ys) else .bad)=.ok q):∃ys,q=.lst ys:=by
 obtain⟨ps,_,e⟩:=Res.aY e
 split at e
 ·obtain⟨ys,_,e⟩:=Res.aY e
  cases e;exact⟨_,rfl⟩
 ·cases e
def uV{kk:Nat}{cb:List Nat}{tg:Tg}{it:I}{elt:E}(env:Sl)(q:PV)(e:aA F (.comp kk cb tg it elt) env=.ok q):∃ys,q=.lst ys:=by
 rw [aA] at e;exact Aa e
def m6{kk:Nat}{cb:List Nat}{tg:Tg}{it:I}{c elt:E}(env:Sl)(q:PV)(e:aA F (.cA kk cb tg it c elt) env=.ok q):∃ys,q=.lst ys:=by
 rw [aA] at e;exact Aa e
mutual
theorem aR:∀(e:E) {Γ:Pg} {N:List Str} {sc:Scope} {X:Cx} (C:dG Γ F W N sc k X) (p:Expr),aO Γ N sc e p=true->SH X W F e p
 |.var i,Γ,N,sc,X,C,p,h=>by
  obtain⟨x,_,rfl,h9⟩:=KL h
  clear h
  have h:=h9
  clear h9
  exact aU (HH C h) (λ_=>rfl) (λ_ _ _ z=>nomatch z)
 |.ic i,Γ,N,sc,X,C,p,h=>by
  obtain⟨x,_,rfl,h9⟩:=KL h
  clear h
  have h:=h9
  clear h9
  exact aU (HB C h) (λ_=>rfl) (λ_ _ _ z=>nomatch z)
 |.cst q,Γ,N,sc,X,C,p,h=>by
  obtain⟨c,_,_,rfl,h9⟩:=Qa h
  clear h
  have h:=h9
  clear h9
  refine aU (HK h) (λ_=>rfl) (λ_ _ _ z=>nomatch z)
 |.glob g q,Γ,N,sc,X,C,p,h=>by
  obtain⟨x,_,rfl,h9⟩:=KL h
  clear h
  have h:=h9
  clear h9
  exact aU (EE C h) (λ_=>rfl) (λ_ _ _ z=>nomatch z)
 |.call f as,Γ,N,sc,X,C,p,h=>by
  obtain⟨g,args,_,_,rfl,h9⟩:=wd h
  clear h
  have h:=h9
  clear h9
  replace h:=aq h
  try simp! [zza,zzy] at h
  obtain⟨⟨⟨⟨⟨rfl,h1⟩,h2⟩,h3⟩,h4⟩,h5⟩:=h
  have ga:=kW as C args h5
  cases as with
  |nil=>
   cases args with
   |nil=>exact aU (Ar C h1 h2 h3) (λ_=>rfl) (λ_ _ _ z=>nomatch z)
   |cons _ _=>exact bq h5
  |cons e es=>
   cases args with
   |nil=>exact bq h5
   |cons q qs=>
    have h6:=aq h5
    exact aU (Eb C h1 h2 h3 h4 ga (notStar h6.1 _ _) (eP h6.2 _ _)) (λ_=>rfl) (λ_ _ _ z=>nomatch z)
 |.blt b as,Γ,N,sc,X,C,p,h=>by
  obtain⟨g,args,_,_,rfl,h9⟩:=wd h
  clear h
  have h:=h9
  clear h9
  replace h:=aq h
  try simp! [zza,zzy] at h
  obtain⟨⟨⟨⟨rfl,h1⟩,h2⟩,h3⟩,h5⟩:=h
  have ga:=kW as C args h5
  cases as with
  |nil=>exact bq h3
  |cons e es=>
   cases args with
   |nil=>exact bq h5
   |cons q qs=>
    have h6:=aq h5
    exact aU (Gh C b h1 h2 ga (notStar h6.1 _ _) (eP h6.2 _ _)) (λ_=>rfl) (λ_ _ _ z=>nomatch z)
 |.ty t a,Γ,N,sc,X,C,p,h=>by
  obtain⟨g,args,_,_,rfl,h9⟩:=wd h
  clear h
  have h:=h9
  clear h9
  obtain⟨pa,pb,z2,h2⟩:=Cm h
  obtain⟨tn,_,z3,h3⟩:=KL h2
  dsimp only at z2 z3;subst z2 z3
  clear h h2
  have h:=h3
  clear h3
  replace h:=aq h
  try simp! [zza,zzy] at h
  obtain⟨⟨⟨⟨⟨⟨rfl,h1⟩,h2⟩,rfl⟩,h3⟩,h4⟩,h5⟩:=h
  exact aU (Np C h1 h2 h3 h4 (aR a C pa h5).ge (notStar h5)) (λ_=>rfl) (λ_ _ _ z=>nomatch z)
 |.bin o a b,Γ,N,sc,X,C,p,h=>by
  obtain⟨q,e,h1⟩:=ah h
  obtain⟨_,rfl⟩:=GV e
  clear h
  have h:=aq h1
  have h0:=aq h.1
  rw [<-zzY h0.1];exact aU (HX C (aR a C _ h0.2).ge (aR b C _ h.2).ge) (λ_=>rfl) (λ_ _ _ z=>nomatch z)
 |.cmp o a b,Γ,N,sc,X,C,p,h=>by
  obtain⟨pa,ops,cs,_,rfl,h1⟩:=RG h
  obtain⟨op,z2,h2⟩:=eg h1
  obtain⟨pb,z3,h3⟩:=eg h2
  dsimp only at z2 z3;subst z2 z3
  clear h h1 h2
  have h:=h3
  clear h3
  replace h:=aq h
  have h0:=aq h.1
  cases zzY h0.1;have h1:=h0.2
  have h2:=h.2
  exact⟨Jv C (aR a C _ h1).ge (aR b C _ h2).ge (oG h2 _),λ_=>Jl C (aR a C _ h1).ge (aR b C _ h2).ge (oG h2 _),(λ_ _ _ _ z=>nomatch z)⟩
 |.ch o1 o2 a b c,Γ,N,sc,X,C,p,h=>by
  obtain⟨pa,ops,cs,_,rfl,h1⟩:=RG h
  obtain⟨op1,op2,z2,h2⟩:=Cm h1
  obtain⟨pb,pc,z3,h3⟩:=Cm h2
  dsimp only at z2 z3;subst z2 z3
  clear h h1 h2
  have h:=h3
  clear h3
  replace h:=aq h
  try simp! [zza,zzN] at h
  obtain⟨⟨⟨⟨rfl,rfl⟩,h1⟩,h2⟩,h3⟩:=h
  have hm:lastMarks [qg o1,qg o2] [pb,pc]=false:=oG h3 _
  exact⟨Lw C (aR a C _ h1).ge (aR b C _ h2).ge (aR c C _ h3).ge hm,λ_=>L7 C (aR a C _ h1).ge (aR b C _ h2).ge (aR c C _ h3).ge hm,(λ_ _ _ _ z=>nomatch z)⟩
 |.not a,Γ,N,sc,X,C,p,h=>by
  obtain⟨o,pa,_,rfl,h1⟩:=Si h
  clear h
  have h:=aq h1
  cases zQ h.1;have s:=aR a C pa h.2
  exact⟨Jn s.ge,λz=>JR (s.gt (by simpa only [eV] using z)),(λ_ _ _ _ z=>nomatch z)⟩
 |.neg a,Γ,N,sc,X,C,p,h=>by
  obtain⟨o,pa,_,rfl,h1⟩:=Si h
  clear h
  have h:=aq h1
  cases zX h.1;exact aU (HN (aR a C pa h.2).ge) (λ_=>rfl) (λ_ _ _ z=>nomatch z)
 |.and a b,Γ,N,sc,X,C,p,h=>by
  obtain⟨o,vs,pos,rfl,h1⟩:=RB h
  obtain⟨⟨pa,pb⟩,e2,h2⟩:=ah h1
  clear h h1
  have h:=aq h2
  clear h2
  try simp! [zza] at h
  obtain⟨⟨⟨h0,he⟩,h1⟩,h2⟩:=h
  cases Bg h0;have sa:=aR a C pa h1
  have sb:=aR b C pb h2
  rcases yF e2 with z|⟨q,c,r,z,z2⟩
  ·dsimp only at z;subst z;have gw:eV (.and a b)=true->GW X W F (.and a b) (.BoolOp .And [pa,pb] pos):=λz=>by
    have z:=aq z
    exact AN (sa.gt z.1) (pw_and1 (sb.gt z.2))
   exact⟨Be he sa.ge (AX sb.ge),λz=>(gw z).pt,λz _ _ _ _=>gw z⟩
  ·dsimp only at z z2;subst z z2;have gw:eV (.and a b)=true->GW X W F (.and a b) (.BoolOp .And (pa::q::c::r) pos):=λz=>by
    have z:=aq z
    exact AN (sa.gt z.1) (sb.gw z.2 _ _ _ rfl)
   exact⟨Be he sa.ge sb.ge,λz=>(gw z).pt,λz _ _ _ _=>gw z⟩
 |.or a b,Γ,N,sc,X,C,p,h=>by
  obtain⟨o,vs,pos,rfl,h1⟩:=RB h
  obtain⟨⟨pa,pb⟩,e2,h2⟩:=ah h1
  clear h h1
  have h:=aq h2
  clear h2
  try simp! [zza] at h
  obtain⟨⟨⟨h0,he⟩,h1⟩,h2⟩:=h
  cases Cg h0;have sa:=aR a C pa h1
  have sb:=aR b C pb h2
  rcases yF e2 with z|⟨q,c,r,z,z2⟩
  ·dsimp only at z;subst z;have gw:eV (.or a b)=true->GW X W F (.or a b) (.BoolOp .Or [pa,pb] pos):=λz=>by
    have z:=aq z
    exact FX (sa.gt z.1) (pw_or1 (sb.gt z.2))
   exact⟨FT he sa.ge (AX sb.ge),λz=>(gw z).pt,λz _ _ _ _=>gw z⟩
  ·dsimp only at z z2;subst z z2;have gw:eV (.or a b)=true->GW X W F (.or a b) (.BoolOp .Or (pa::q::c::r) pos):=λz=>by
    have z:=aq z
    exact FX (sa.gt z.1) (sb.gw z.2 _ _ _ rfl)
   exact⟨FT he sa.ge sb.ge,λz=>(gw z).pt,λz _ _ _ _=>gw z⟩
 |.ite c a b,Γ,N,sc,X,C,p,h=>by
  obtain⟨q,e,h1⟩:=ah h
  obtain⟨_,rfl⟩:=I0 e
  clear h
  have h:=aq h1
  clear h1
  try simp! [zza] at h
  obtain⟨⟨⟨⟨⟨h0,h1⟩,h2⟩,h3⟩,h4⟩,h5⟩:=h
  exact⟨IY h1 h2 ((aR c C _ h3).gt h0) (aR a C _ h4).ge (aR b C _ h5).ge,(λz=>nomatch z),(λ_ _ _ _ z=>nomatch z)⟩
 |.tup as,Γ,N,sc,X,C,p,h=>by
  obtain⟨ps,e,h1⟩:=ah h
  obtain⟨_,_,rfl⟩:=pQ e
  clear h
  have h:=aq h1
  have h0:=aq h.1
  exact aU (F3 h0.1 (zzY h0.2) (kW as C _ h.2)) (λ_=>rfl) (λ_ _ _ z=>nomatch z)
 |.lst as,Γ,N,sc,X,C,p,h=>by
  obtain⟨ps,e,h1⟩:=ah h
  obtain⟨_,rfl⟩:=yS e
  clear h
  have h:=aq h1
  have h0:=aq h.1
  exact aU ((zq h0.1 (zzY h0.2) (kW as C _ h.2)).ge lst_is) (λ_=>rfl) (λ_ _ _ z=>nomatch z)
 |.sub a b,Γ,N,sc,X,C,p,h=>by
  obtain⟨pa,pb,_,rfl,h9⟩:=Rw h
  clear h
  have h:=h9
  clear h9
  replace h:=aq h
  exact aU (Jt C (aR a C _ h.1).ge (aR b C _ h.2).ge (yu h.2)) (λ_=>rfl) (λ_ _ _ z=>nomatch z)
 |.get a k,Γ,N,sc,X,C,p,h=>by
  obtain⟨⟨f,as,kws,pos⟩,e3,h3⟩:=ah h
  have z3:=j5 e3
  obtain⟨⟨po,attr,apos⟩,e4,h4⟩:=ah h3
  have z4:=AO e4
  obtain⟨pk,z5,h5⟩:=eg h4
  have g:=aq h5
  simp! [zza] at g;obtain⟨⟨⟨⟨⟨n1,e1⟩,h6⟩,h7⟩,h8⟩,h9⟩:=g
  have z6:=Fb n1
  cases zzy.mp e1;dsimp only at z3 z4 z5 z6;subst z3 z4 z5 z6;exact aU (F8 C (aR a C po h8).ge (aR k C pk h9).ge (Bf h7) h6 (notStar h9 _ _)) (λ_=>rfl) (λ_ _ _ z=>nomatch z)
 |.maxD a n,Γ,N,sc,X,C,p,h=>by
  obtain⟨⟨f,as,kws,pos⟩,e3,h3⟩:=ah h
  have z3:=j5 e3
  obtain⟨g,gp,z4,h4⟩:=KL h3
  obtain⟨pa,z5,h5⟩:=eg h4
  obtain⟨⟨kn,kv⟩,e6,h6⟩:=ah h5
  obtain⟨kp,z6⟩:=J8 e6
  obtain⟨c,c1,c2,z7,h7⟩:=Qa h6
  have g:=aq h7
  simp! [zza] at g;obtain⟨⟨⟨⟨⟨e1,h1⟩,h2⟩,e2⟩,e3⟩,h8⟩:=g
  cases zzy.mp e1;cases zzy.mp e2;have z8:=yo (eq_of_beq e3)
  dsimp only at z3 z4 z5 z6 z7 z8;subst z3 z4 z5 z6 z7 z8;exact aU (Et C h1 h2 (aR a C pa h8).ge (notStar h8 _ _)) (λ_=>rfl) (λ_ _ _ z=>nomatch z)
 |.M3 n,Γ,N,sc,X,C,p,h=>by
  obtain⟨⟨pk,pv⟩,e1,h1⟩:=ah h
  obtain⟨_,z1⟩:=GH e1
  obtain⟨z,zp,z2,h2⟩:=KL h1
  obtain⟨c,c1,c2,z3,h3⟩:=Qa h2
  have g:=aq h3
  simp! [zza] at g;obtain⟨⟨⟨g1,g2⟩,g3⟩,g4⟩:=g
  have z4:=zJ g4
  dsimp only at z1 z2 z3;subst z4 z3 z2 z1;exact aU (JL C (eq_of_beq g1) g2 g3) (λ_=>rfl) (λ_ _ _ z=>nomatch z)
 |.xP a,Γ,N,sc,X,C,p,h=>by
  obtain⟨g,args,_,_,rfl,h9⟩:=wd h
  clear h
  have h:=h9
  clear h9
  obtain⟨z,z2,h2⟩:=eg h
  obtain⟨g2,a2,_,_,z3,h3⟩:=wd h2
  obtain⟨pa,z4,h4⟩:=eg h3
  dsimp only at z2 z3 z4;subst z2 z3 z4
  clear h h2 h3
  have h:=aq h4
  clear h4
  simp! [zza] at h;obtain⟨⟨⟨⟨⟨⟨e1,h1⟩,h2⟩,e2⟩,h3⟩,h4⟩,h5⟩:=h
  cases zzy.mp e1;cases zzy.mp e2;exact aU (ES C h1 h2 h3 h4 (aR a C pa h5).ge (notStar h5 _ _)) (λ_=>rfl) (λ_ _ _ z=>nomatch z)
 |.zM a,Γ,N,sc,X,C,p,h=>by
  obtain⟨g,args,_,_,rfl,h9⟩:=wd h
  clear h
  have h:=h9
  clear h9
  obtain⟨z,z2,h2⟩:=eg h
  obtain⟨g2,a2,_,_,z3,h3⟩:=wd h2
  obtain⟨pa,z4,h4⟩:=eg h3
  dsimp only at z2 z3 z4;subst z2 z3 z4
  clear h h2 h3
  have h:=aq h4
  clear h4
  simp! [zza] at h;obtain⟨⟨⟨⟨⟨⟨e1,h1⟩,h2⟩,e2⟩,h3⟩,h4⟩,h5⟩:=h
  cases zzy.mp e1;cases zzy.mp e2;exact aU (EA C h1 h2 h3 h4 (aR a C pa h5).ge (notStar h5 _ _)) (λ_=>rfl) (λ_ _ _ z=>nomatch z)
 |.slice a lo hi,Γ,N,sc,X,C,p,h=>by
  obtain⟨pa,ps,_,rfl,h1⟩:=Rw h
  obtain⟨pl,ph,pst,_,z2,h2⟩:=TJ h1
  clear h h1
  have h:=aq h2
  simp! [zza] at h;have w:=OE h.1.1.1
  dsimp only at z2 w;subst z2 w;exact aU (yY C (aR a C _ h.1.1.2).ge (K4 lo C pl h.1.2) (K4 hi C ph h.2)) (λ_=>rfl) (λ_ _ _ z=>nomatch z)
 |.comp kk cb tg it elt,Γ,N,sc,X,C,p,h=>by
  obtain⟨dR,gens,scope,_,rfl,h1⟩:=NP h
  obtain⟨⟨cM,fb,ifs,asy⟩,z2,h2⟩:=eg h1
  have h3:=aq h2
  have z3:=Fb h3.1
  dsimp only at z2 z3;subst z2 z3
  clear h h1 h2
  have h:=aq h3.2
  clear h3
  simp! [zza] at h;obtain⟨⟨⟨⟨⟨⟨h1,h2⟩,h3⟩,h4⟩,h5⟩,h6⟩,gn⟩:=h
  have gn:=zzY gn
  subst gn;exact aU ((uY C (gG h1) h2 h3 (yq it C cM fb h4) (gQ h4 _) h5 λY CY=>(aR elt CY dR h6).ge).ge uV) (λ_=>rfl) (λ_ _ _ z=>nomatch z)
 |.cA kk cb tg it c elt,Γ,N,sc,X,C,p,h=>by
  obtain⟨dR,gens,scope,_,rfl,h1⟩:=NP h
  obtain⟨⟨cM,fb,ifs,asy⟩,z2,h2⟩:=eg h1
  obtain⟨pc,z3,h3⟩:=eg h2
  dsimp only at z2 z3;subst z2 z3
  clear h h1 h2
  have h:=aq h3
  clear h3
  simp! [zza] at h;obtain⟨⟨⟨⟨⟨⟨⟨⟨h0,h1⟩,h2⟩,h3⟩,h4⟩,h5⟩,h6⟩,h7⟩,gn⟩:=h
  have gn:=zzY gn
  subst gn;exact aU ((nk C (gG h1) h2 h3 (yq it C cM fb h4) (gQ h4 _) h5 (λY CY=>(aR c CY pc h6).gt h0) λY CY=>(aR elt CY dR h7).ge).ge m6) (λ_=>rfl) (λ_ _ _ z=>nomatch z)
theorem kW:∀(es:Es) {Γ:Pg} {N:List Str} {sc:Scope} {X:Cx} (C:dG Γ F W N sc k X) (ps:List Expr),gU Γ N sc es ps=true->GA X W F es ps
 |.nil,Γ,N,sc,X,C,ps,h=>by
  cases ps with
  |nil=>exact Gy
  |cons _ _=>exact bq h
 |.cons e es,Γ,N,sc,X,C,ps,h=>by
  cases ps with
  |nil=>exact bq h
  |cons p ps=>
   replace h:=aq h
   exact CD (aR e C p h.1).ge (kW es C ps h.2) (notStar h.1 _ _)
theorem K4:∀(o:Oe) {Γ:Pg} {N:List Str} {sc:Scope} {X:Cx} (C:dG Γ F W N sc k X) (p:Option Expr),Iw Γ N sc o p=true->PO X p (yk X W F o)
 |.no,Γ,N,sc,X,C,p,h=>by
  cases p with
  |none=>exact EJ
  |some _=>exact bq h
 |.some e,Γ,N,sc,X,C,p,h=>by
  cases p with
  |none=>exact bq h
  |some p=>
   exact Cu (aR e C p h).ge
theorem yq:∀(it:I) {Γ:Pg} {N:List Str} {sc:Scope} {X:Cx} (C:dG Γ F W N sc k X) (tg p:Expr),wa Γ N sc tg it p=true->GI X W F tg it p
 |.seq e,Γ,N,sc,X,C,tg,p,h=>by
  exact HR C (aR e C p h).ge
 |.md e,Γ,N,sc,X,C,tg,p,h=>by
  obtain⟨g,args,_,_,rfl,h9⟩:=wd h
  clear h
  have h:=h9
  clear h9
  obtain⟨q,z2,h2⟩:=eg h
  dsimp only at z2;subst z2
  clear h
  have h:=aq h2
  clear h2
  simp! [zza] at h;obtain⟨⟨⟨e1,h1⟩,h2⟩,h3⟩:=h
  cases zzy.mp e1;exact Hg C h1 h2 (notStar h3) (aR e C q h3).ge
 |.o7 a b,Γ,N,sc,X,C,tg,p,h=>by
  obtain⟨g,args,_,_,rfl,h9⟩:=wd h
  clear h
  have h:=h9
  clear h9
  obtain⟨q,r,z2,h2⟩:=Cm h
  dsimp only at z2;subst z2
  clear h
  have h:=aq h2
  clear h2
  simp! [zza] at h;obtain⟨⟨⟨⟨e1,h1⟩,h2⟩,h3⟩,h4⟩:=h
  cases zzy.mp e1;exact DL C h1 h2 (notStar h3) (notStar h4) (aR a C q h3).ge (aR b C r h4).ge
 |.enum e,Γ,N,sc,X,C,tg,p,h=>by
  obtain⟨g,args,_,_,rfl,h9⟩:=wd h
  clear h
  have h:=h9
  clear h9
  obtain⟨q,z2,h2⟩:=eg h
  dsimp only at z2;subst z2
  clear h
  have h:=aq h2
  clear h2
  simp! [zza] at h;obtain⟨⟨⟨⟨h0,e1⟩,h1⟩,h2⟩,h3⟩:=h
  cases zzy.mp e1;cases tg<;>first|(exact bq h0)|skip
  exact CG C h1 h2 (notStar h3) (aR e C q h3).ge
 |.tW e,Γ,N,sc,X,C,tg,p,h=>by
  obtain⟨g,args,_,_,rfl,h9⟩:=wd h
  clear h
  obtain⟨q,z2,h2⟩:=eg h9
  dsimp only at z2;subst z2;have h:=aq h2
  simp! [zza] at h;obtain⟨⟨⟨⟨e1,h1⟩,h2⟩,h3⟩,h4⟩:=h
  cases zzy.mp e1;exact IZ C h1 h2 h3 (aR e C q h4).ge (notStar h4)
 |.zip as,Γ,N,sc,X,C,tg,p,h=>by
  obtain⟨g,args,_,_,rfl,h9⟩:=wd h
  clear h
  replace h:=aq h9
  clear h9
  simp! [zza] at h;obtain⟨⟨⟨⟨⟨⟨h0,e1⟩,h1⟩,h2⟩,h3⟩,h4⟩,h5⟩:=h
  cases zzy.mp e1;cases tg<;>first|(exact bq h0)|skip
  rw [zzt,zzy,zzy] at h4;cases as with
  |nil=>exact absurd h4 (by show¬(0=2\/0=3);omega)
  |cons a as=>
   cases args with
   |nil=>exact bq h5
   |cons q qs=>
    have h6:=aq (show(aO Γ N sc a q&&gU Γ N sc as qs)=true from h5)
    exact Io C h1 h2 h3 h4 (kW (.cons a as) C (q::qs) h5) (notStar h6.1 _ _) (eP h6.2 _ _)
end
end
end Ci
namespace L2
open PySem PySem.Spec PyProof.Rows
section
variable{X:Cx}{scope:Scope}{xs ys:List Str}{is:List Nat}
theorem uw{i₀:Nat}{x₀:Str}{pos' fP:Pos}{elt tg iter:Expr}{pos:Pos}{wi:TI}{g:TG}{te:TE}(hN₀:X.N.Nodup)(hi₀:X.N[i₀]?=some x₀)(hx₀:Loc X.env.scope x₀)(hc:X.calm=true)(S:dQ X scope xs ys is)(hi:PI X tg iter wi)
 (hg:∀fp s1 H1 C,PG (bB X (xs++ys) scope (bW X.env ys) fp s1 H1 C) tg g) (he:∀fp s1 H1 C,PE (bB X (xs++ys) scope (bW X.env ys) fp s1 H1 C) elt te)
 (wc:swapsWith (.ListComp elt [⟨tg,iter,[],0⟩] scope pos) (some (.Name x₀ pos')) fP.line X.env=pure true:=by rfl)
 (hs:∀x,foldedSetIterable iter X.env x=pure x:=by intro _;rfl) (hf₀:X.fn x₀=true\/X.env.scope.names.lookup x₀=some .local:=by first|exact .inl rfl|exact .inr rfl|assumption):
 PS X (.Assign [.Name x₀ pos'] (.ListComp elt [⟨tg,iter,[],0⟩] scope pos) fP) (DF (yD wi xs.length g te is) (fD i₀)):=by
 intro aa s σ H D₀ I h;rw [exec_Assign_Name_used _ _ _ _ wc];refine zzA (wpAny_standAt (zzA ?_));show wpAny _ X.A (do let _<-comprehension (.ListComp elt [⟨tg,iter,[],0⟩] scope pos) scope X.env _ (newList []) false (eval iter X.env) (some (assign (.Name x₀ pos') X.env))) _ _ s;refine zzA (wpAny_mono (fI (QQ:=λ_ s'=>∃σ2 H2,Inv X aa σ2 H2 s'/\D₀.nx σ2 H2) (Q:=λv H4=>fD i₀ v σ H4 D₀.nx) hc S hi hg (λ_ _ _ _=>v7) he hs I h λD C s4 H4 m I5 hn ⟨g0,g1,_,g3,g4,g5⟩ q=>?_) (λ_ s' hq=>zzG (zzG hq)) λ_ _ e=>e)
 refine wpAny_assign_Name (iA I5 hN₀ hi₀ hx₀ (show RelV (.ref D) (.ref D) from rfl) (λs6 I6 ⟨a6,sb6,ha6⟩=>?_) hf₀);have AM:C≠a6:=by
  rcases ha6 with z|z
  ·rw [z];exact g1
  ·exact λz2=>g4 _ _ z z2.symm
 exact⟨m,hn.sameBut sb6 AM,λh' qU=>⟨_,_,I6.turned (t':=s6.toks) (it:=C) (λb o hb e=>qU.extBut b o hb e) g0 g1 g3 g4 g5,q⟩⟩
end
end L2
namespace Ci
open PySem L2
section
variable{W:Wd}{G0 H0 G H:Hp}{env:Sl}{σ:St}
def Own.FK{p:PV}{v:V}(h:Own W H0 G H p v):∃a o,v=.ref a/\H a=some o/\G a=none/\H0 a=none/\((∀G',av G G'->G' a=some o->Rep W G' p (.ref a))\/∃ax,o=.dT ax/\∀ob G',av G G'->G' a=some (.cN ob (.dT ax))->Rep W G' p (.ref a)):=by
 cases p with
 |lst xs=>
  obtain⟨a,vs,rfl,h1,h2,h3,l⟩:=h
  exact⟨a,_,rfl,h1,h2,h3,.inl λG' s e=>.l (.inl (.inl e)) (ag.same s xs l)⟩
 |br ks ps=>
  obtain⟨a,us,rfl,n,h1,h2,h3,l⟩:=h
  exact⟨a,_,rfl,h1,h2,h3,.inr ⟨_,rfl,λob G' s e=>by simp! [Rep];exact⟨a,ob,us,rfl,n,e,ag.same s ps l⟩⟩⟩
 |ay=>exact h.elim
 |bl _=>exact h.elim
 |int _=>exact h.elim
 |str _=>exact h.elim
 |tup _=>exact h.elim
 |exc _=>exact h.elim
theorem Own.zL{p:PV}{a:Addr}(h:Own W H0 G H p (.ref a))(ps:Array Value):H a≠some (.fX ps):=λz=>by
 cases p with
 |lst xs=>obtain⟨b,vs,e,h1,_⟩:=h;cases e;rw [z] at h1;cases h1
 |br ks qs=>
  obtain⟨b,us,e,_,h1,_⟩:=h
  cases e;rw [z] at h1;cases h1
 |ay=>exact h.elim
 |bl _=>exact h.elim
 |int _=>exact h.elim
 |str _=>exact h.elim
 |tup _=>exact h.elim
 |exc _=>exact h.elim
theorem pA{a:Addr}{ob:HO}{H':Hp}(t:cW W G H)(hG:G a=none)(n:∀ps,H a≠some (.fX ps))(hH:∀b,b≠a->H' b=H b):cW W (upd G a ob) H':=λP q m=>by
 obtain⟨n1,ps,e,tr,al⟩:=t P q m
 have hP:P≠a:=λz=>by subst z;exact n ps e
 refine⟨by rw [ai hP];exact n1,ps,by rw [hH P hP];exact e,tr,λpos cv y=>?_⟩
 obtain⟨c',oc,tX,t',e1,e2,e3,e4⟩:=al pos cv y
 exact⟨c',oc,tX,t',e1,aW hG _ _ e2,e3,e4⟩
def Own.eU{p:PV}{v:V}{a:Addr}{G' H':Hp}(h:Own W H0 G H p v)(hv:v≠.ref a)(sG:av G G')(hG:∀b,b≠a->G' b=G b)(hH:∀b,b≠a->H' b=H b):Own W H0 G' H' p v:=by
 cases p with
 |lst xs=>
  obtain⟨b,vs,rfl,h1,h2,h3,l⟩:=h
  have hb:b≠a:=λz=>hv (by rw [z])
  exact⟨b,vs,rfl,by rw [hH b hb];exact h1,by rw [hG b hb];exact h2,h3,ag.same sG xs l⟩
 |br ks ps=>
  obtain⟨b,us,rfl,n,h1,h2,h3,l⟩:=h
  have hb:b≠a:=λz=>hv (by rw [z])
  exact⟨b,us,rfl,n,by rw [hH b hb];exact h1,by rw [hG b hb];exact h2,h3,ag.same sG ps l⟩
 |ay=>exact h.elim
 |bl _=>exact h.elim
 |int _=>exact h.elim
 |str _=>exact h.elim
 |tup _=>exact h.elim
 |exc _=>exact h.elim
def getElem?_modify{α:Type}(l:List α)(i j:Nat)(f:α->α):(l.modify i f)[j]?=if i=j then(l[j]?).map f else l[j]?:=by
 rw [List.getElem?_modify];split<;>simp_all
def ra(r:SR W H0 env σ G H)(g:aD W G0 H0 G H){i:Nat}{p:PV}{a:Addr}{ob Ku:HO}{H':Hp}(hp:env[i]?=some (.own p))(ho:σ[i]?=some (some (.ref a)))(MO:Own W H0 G H p (.ref a))(hH:H a=some ob)(hG:G a=none)(BW:H0 a=none)
 (Ay:∀G',av G G'->G' a=some Ku->Rep W G' p (.ref a)) (h1:H' a=some Ku) (h2:∀b,b≠a->H' b=H b):SR W H0 (env.modify i pN) σ (upd G a Ku) H'/\aD W G0 H0 (upd G a Ku) H':=by
 have sG:av G (upd G a Ku):=aW hG
 have sub:av (upd G a Ku) H':=λb u e=>by
  by_cases hb:b=a
  ·subst hb;rw [ak] at e;cases e;exact h1
  ·rw [ai hb] at e;rw [h2 b hb];exact r.sub _ _ e
 have base:∀{B:Hp},B a=none->gA B H->gA B H':=λhB k b u e=>by
  have hb:b≠a:=λz=>by rw [z,hB] at e;cases e
  rw [h2 b hb];exact k b u e
 refine⟨⟨by rw [List.length_modify];exact r.len,sub,base BW r.base,λj s e=>?_,λj l q q' c e1 e2 e3 e4=>?_,pA r.tab hG MO.zL h2,pA r.l8 hG (λps z=>by rw [BW] at z;cases z) λ_ _=>rfl⟩,⟨g.g.trans sG,base BW g.h,sub,λb h3 h5 h4=>?_,λt=>pA (g.tab t) hG MO.zL h2⟩⟩
 ·rw [getElem?_modify] at e;split at e
  ·rename_i z;subst z;rw [hp] at e;cases e;exact⟨_,ho,_,rfl,Ay _ sG ak⟩
  ·rename_i z;obtain⟨o2,k1,k2⟩:=r.slot j s e
   refine⟨o2,k1,?_⟩;cases s with
   |no=>exact trivial
   |val q=>
    obtain⟨v2,rfl,rv⟩:=k2
    exact⟨v2,rfl,Rep.same sG q rv⟩
   |fn _ _ _=>
    obtain⟨v2,rfl,rv⟩:=k2
    exact⟨v2,rfl,rv.same sG⟩
   |own q=>
    obtain⟨v2,rfl,ov⟩:=k2
    refine⟨v2,rfl,ov.eU (a:=a) (λzz=>?_) sG (λb hb=>ai hb) h2⟩;subst zz;exact z (r.apart i j p q a hp e ho k1)
 ·rw [getElem?_modify] at e1 e2;have ne:∀{j:Nat} {q:PV},(if i=j then(env[j]?).map pN else env[j]?)=some (.own q)->i≠j/\env[j]?=some (.own q):=λ{j q} e=>by
   split at e
   ·rename_i z;subst z;rw [hp] at e;cases e
   ·rename_i z;exact⟨z,e⟩
  exact r.apart j l q q' c (ne e1).2 (ne e2).2 e3 e4
 ·have hb:b≠a:=λz=>h3 (by rw [z];exact BW)
  rw [ai hb];exact g.own b h3 h5 h4
def JB(r:SR W H0 env σ G H)(g:aD W G0 H0 G H)(i:Nat):(∃G',SR W H0 (env.modify i pN) σ G' H/\aD W G0 H0 G' H)\/∃a ax,H a=some (.dT ax)/\∀o,∃G',SR W H0 (env.modify i pN) σ G' (upd H a (.cN o (.dT ax)))/\aD W G0 H0 G' (upd H a (.cN o (.dT ax))):=by
 have same:(∀p,env[i]?≠some (.own p))->env.modify i pN=env:=λh=>by
  refine List.ext_getElem? λj=>?_
  rw [getElem?_modify];split
  ·rename_i e;subst e;cases q:env[i]? with
   |none=>rfl
   |some s=>
    cases s with
    |own p=>exact absurd q (h p)
    |no=>rfl
    |val p=>rfl
    |fn _ _ _=>rfl
  ·rfl
 by_cases hx:∃p,env[i]?=some (.own p)
 ·obtain⟨p,hp⟩:=hx
  obtain⟨o,ho,v,rfl,ow⟩:=r.slot i _ hp
  have MO:=ow
  obtain⟨a,ob,rfl,hH,hG,BW,Ay|⟨ax,rfl,Ay⟩⟩:=ow.FK
  ·obtain⟨k1,k2⟩:=ra r g hp ho MO hH hG BW Ay hH λ_ _=>rfl
   exact .inl ⟨_,k1,k2⟩
  ·refine .inr ⟨a,ax,hH,λo=>?_⟩
   obtain⟨k1,k2⟩:=ra r g hp ho MO hH hG BW (Ay o) ak λb hb=>ai hb
   exact⟨_,k1,k2⟩
 ·exact .inl ⟨G,by rw [same λp z=>hx ⟨p,z⟩];exact r,g⟩
def kI(r:SR W H0 env σ G H)(g:aD W G0 H0 G H){i:Nat}{p p':PV}{a:Addr}{ob:HO}(hp:env[i]?=some (.own p))(hs:σ[i]?=some (some (.ref a)))(hG:G a=none)(BW:H0 a=none)(hn:Own W H0 G (upd H a ob) p' (.ref a)):
 SR W H0 (env.set i (.own p')) σ G (upd H a ob)/\aD W G0 H0 G (upd H a ob):=by
 have bX:i<env.length:=(zzH.mp hp).1
 have TM:∀ps,H a≠some (.fX ps):=by
  obtain⟨o2,h1,v2,rfl,ow⟩:=r.slot i _ hp
  rw [hs] at h1;cases h1;exact ow.zL
 have tab:∀{G1:Hp},cW W G1 H->cW W G1 (upd H a ob):=λt=>t.same (av.refl _) (λ_ _ _ h=>h) (o5 TM)
 refine⟨⟨by rw [List.length_set];exact r.len,λb u e=>?_,λb u e=>?_,λj s e=>?_,λj l q q' c e1 e2 e3 e4=>?_,tab r.tab,r.l8⟩,⟨g.g,λb u e=>?_,λb u e=>?_,g.own,λt=>tab (g.tab t)⟩⟩
 ·rw [ai (λz=>by subst z;rw [hG] at e;cases e)];exact r.sub _ _ e
 ·rw [ai (λz=>by subst z;rw [BW] at e;cases e)];exact r.base _ _ e
 ·by_cases hj:i=j
  ·subst hj;rw [zzo bX] at e;cases e;exact⟨_,hs,_,rfl,hn⟩
  ·rw [zzS hj] at e;obtain⟨o2,h1,h2⟩:=r.slot j s e
   refine⟨o2,h1,?_⟩;cases s with
   |no=>exact trivial
   |val q=>exact h2
   |fn _ _ _=>exact h2
   |own q=>
    obtain⟨v2,rfl,ov⟩:=h2
    refine⟨v2,rfl,ov.eU (a:=a) (λzz=>?_) (av.refl _) (λb hb=>rfl) λb hb=>ai hb⟩
    subst zz;exact hj (r.apart i j p q a hp e hs h1)
 ·have tr:∀{j:Nat} {q:PV},(env.set i (.own p'))[j]?=some (.own q)->∃q2,env[j]?=some (.own q2):=λ{j q} e=>by
   by_cases hj:i=j
   ·subst hj;exact⟨p,hp⟩
   ·rw [zzS hj] at e;exact⟨q,e⟩
  obtain⟨q2,f1⟩:=tr e1
  obtain⟨q3,f2⟩:=tr e2
  exact r.apart j l q2 q3 c f1 f2 e3 e4
 ·rw [ai (λz=>by subst z;rw [BW] at e;cases e)];exact g.h _ _ e
 ·rw [ai (λz=>by subst z;rw [hG] at e;cases e)];exact g.sub _ _ e
def sW(r:SR W H0 env σ G H)(g:aD W G0 H0 G H){i:Nat}{p:PV}{a:Addr}{ob:HO}(hi:i<env.length)(ha:H a=none)(hn:Own W H0 G (upd H a ob) p (.ref a)):
 SR W H0 (env.set i (.own p)) (σ.set i (some (.ref a))) G (upd H a ob)/\aD W G0 H0 G (upd H a ob):=by
 have gm:aD W G H G (upd H a ob):=.MK r.sub ha
 have r1:=r.grow gm
 have old:∀{j:Nat} {q:PV},env[j]?=some (.own q)->σ[j]?=some (some (.ref a))->False:=λ{j q} e1 e2=>by
  obtain⟨o2,h1,v2,rfl,ov⟩:=r.slot j _ e1
  rw [e2] at h1;cases h1;obtain⟨a',o',e3,hH,_⟩:=ov.FK
  cases e3;rw [ha] at hH;cases hH
 refine⟨⟨by rw [List.length_set,List.length_set];exact r.len,r1.sub,r1.base,λj s e=>?_,λj l q q' c e1 e2 e3 e4=>?_,r1.tab,r1.l8⟩,g.trans gm⟩
 ·by_cases hj:i=j
  ·subst hj;rw [zzo hi] at e;cases e;exact⟨_,zzo (by rw [<-r.len];exact hi),_,rfl,hn⟩
  ·rw [zzS hj] at e;obtain⟨o2,h1,h2⟩:=r1.slot j s e
   exact⟨o2,by rw [zzS hj];exact h1,h2⟩
 ·by_cases hj:i=j
  ·by_cases hl:i=l
   ·exact hj.symm.trans hl
   ·exfalso
    subst hj;rw [zzo (by rw [<-r.len];exact hi)] at e3;rw [zzS hl] at e2 e4;cases e3;exact old e2 e4
  ·by_cases hl:i=l
   ·exfalso
    subst hl;rw [zzo (by rw [<-r.len];exact hi)] at e4;rw [zzS hj] at e1 e3;cases e4;exact old e1 e3
   ·rw [zzS hj] at e1 e3;rw [zzS hl] at e2 e4;exact r.apart j l q q' c e1 e2 e3 e4
end
noncomputable def gZ:E->Bool
 |.lst _=>true
 |.comp _ _ _ _ _=>true
 |.cA _ _ _ _ _ _=>true
 |_=>false
noncomputable def pO:Expr->Bool
 |.ListComp .. =>false
 |.SetComp .. =>false
 |.DictComp .. =>false
 |_=>true
noncomputable def Iv:Expr->Bool
 |.Tuple .. =>false
 |_=>true
noncomputable def P9(sc:Scope)(x:Str)(xp:Pos):Expr->Bool
 |.ListComp _ _ s p=>sc.names.lookup x==some .local&&xp.line==p.line&&!(s.names.any λ(n,k)=>n==x&&(k==.local||k==.cell))
 |_=>false
noncomputable def MF(ts:List Expr):Option Str:=(dm ts).bind gB
noncomputable def LN(e:Expr):Option (Str×Str×List Expr):=(Fy e).bind λq=>(Mb q.1).bind λr=>(gB r.1).bind λx=>if(q.2.2.1.isEmpty&&r.2.2.endLine==q.2.2.2.line)=true then some (x,r.2.1,q.2.1) else none
noncomputable def SV(ts:List Expr):Option (Str×Expr):=(dm ts).bind λt=>(Ma t).bind λq=>(gB q.1).bind λx=>some (x,q.2)
noncomputable def SN(o:Option Expr):Option (Str×Str):=o.bind λe=>(Fy e).bind λq=>(gB q.1).bind λx=>(dm q.2.1).bind λa=>(Kx a).bind λc=>(sE c).bind λz=>if q.2.2.1.isEmpty=true then some (x,z) else none
noncomputable def vv:Stmt->Option (List Expr×Expr×Pos)
 |.Assign ts v p=>some (ts,v,p)
 |_=>none
def pU{ts:List Expr}{x:Str}(h:MF ts=some x):∃xp,ts=[.Name x xp]:=by
 obtain⟨t,h1,h2⟩:=uz h
 obtain⟨p,rfl⟩:=eJ h2
 exact⟨p,eK h1⟩
def pH{p:Expr}{x m:Str}{args:List Expr}(h:LN p=some (x,m,args)):∃np apos bz,p=.Call (.Attribute (.Name x np) m apos) args [] bz/\(apos.endLine==bz.line)=true:=by
 obtain⟨⟨f,a,k,cp⟩,h1,h⟩:=uz h
 obtain⟨⟨o,m',ap⟩,h2,h⟩:=uz h
 obtain⟨y,h3,h⟩:=uz h
 obtain⟨h4,h⟩:=if1 h
 cases h;rw [zza] at h4;obtain⟨p3,z3⟩:=eJ h3
 have z2:=AO h2
 have z5:=List.isEmpty_iff.1 h4.1
 dsimp only at z2 z3 z5;subst z3 z2 z5;exact⟨_,_,_,j5 h1,h4.2⟩
def Ia{ts:List Expr}{x:Str}{pk:Expr}(h:SV ts=some (x,pk)):∃np sp,ts=[.Subscript (.Name x np) pk sp]:=by
 obtain⟨t,h1,h⟩:=uz h
 obtain⟨⟨a,b⟩,h2,h⟩:=uz h
 obtain⟨y,h3,h⟩:=uz h
 cases h;obtain⟨p3,z3⟩:=eJ h3
 obtain⟨p2,z2⟩:=zK h2
 dsimp only at z3;subst z3 z2;exact⟨_,_,eK h1⟩
def JN{o:Option Expr}{x z:Str}(h:SN o=some (x,z)):∃np j zp cp,o=some (.Call (.Name x np) [.Constant (.str z) j zp] [] cp):=by
 obtain⟨e,h0,h⟩:=uz h
 obtain⟨⟨f,a,k,cp⟩,h1,h⟩:=uz h
 obtain⟨y,h2,h⟩:=uz h
 obtain⟨t,h3,h⟩:=uz h
 obtain⟨c,h4,h⟩:=uz h
 obtain⟨w,h5,h⟩:=uz h
 obtain⟨h6,h⟩:=if1 h
 cases h;obtain⟨p2,z2⟩:=eJ h2
 obtain⟨p4,q4,z4⟩:=Ba h4
 have z3:=eK h3
 have z5:=zt h5
 have z6:=List.isEmpty_iff.1 h6
 dsimp only at z2 z3 z6;subst z2 z5 z4 z3 z6;exact⟨_,_,_,_,h0.trans (congrArg some (j5 h1))⟩
mutual
noncomputable def dX(Γ:Pg)(N:List Str)(sc:Scope):S->Stmt->Bool
 |.expr e,.Expr p _=>pO p&&aO Γ N sc e p
 |.set i e,.Assign ts p _=>(MF ts).any λx=>N[i]?==some x&&e9 sc x&&fv e&&aO Γ N sc e p
 |.own i e,.Assign ts p _=>(MF ts).any λx=>N[i]?==some x&&e9 sc x&&gZ e&&aO Γ N sc e p
 |.app i e,.Expr v _=>(LN v).any λc=>N[i]?==some c.1&&eF sc c.1&&okN c.1&&c.2.1==("append":Str)&&fv e&&(dm c.2.2).any λp=>aO Γ N sc e p
 |.mG i e,.Expr v _=>(LN v).any λc=>N[i]?==some c.1&&eF sc c.1&&okN c.1&&c.2.1==("extend":Str)&&(dm c.2.2).any λp=>aO Γ N sc e p
 |.put i kk e,.Assign ts p _=>(SV ts).any λc=>N[i]?==some c.1&&eF sc c.1&&okN c.1&&fv e&&aO Γ N sc kk c.2&&aO Γ N sc e p
 |.fy i j e,.Expr v _=>(LN v).any λc=>(dm c.2.2).any λa=>(LN a).any λd=>(dm d.2.2).any λq=>N[i]?==some c.1&&eF sc c.1&&okN c.1&&c.2.1==("append":Str)&&N[j]?==some d.1&&eF sc d.1&&okN d.1&&d.2.1==("pop":Str)&&aO Γ N sc e q
 |.ret e,.Return (some p) _=>fv e&&aO Γ N sc e p
 |.ite c a b,.If p pa pb _=>eV c&&aO Γ N sc c p&&cU Γ N sc a pa&&cU Γ N sc b pb
 |.bZ tg it b,.For cM fb pb els _=>els.isEmpty&&fY N sc (λ_=>true) tg cM&&CK it&&wa Γ N sc cM it fb&&cU Γ N sc b pb
 |.Kk c b,.While p pb els _=>els.isEmpty&&eV c&&aO Γ N sc c p&&cU Γ N sc b pb
 |.raise c m,.Raise ex fr _=>fr.isNone&&(SN ex).any λq=>c==q.1&&m==q.2&&Γ.rs.contains c&&eO sc c&&okN c
 |.brk,.Break _=>true
 |.uM i j e,.Assign ts p _=>(dm ts).any λt=>(CI t).any λes=>Iv p&&fv e&&EG N sc (λ_=>true) [i,j] es&&aO Γ N sc e p
 |.iX i e,.Assign ts v _=>(MF ts).any λx=>(t8 v).any λq=>(dm q.2).any λr=>q.1==("list":Str)&&eO sc q.1&&Γ.bs.contains q.1&&N[i]?==some x&&e9 sc x&&aO Γ N sc e r
 |.qy i,.Assign ts (.Dict [] [] _) _=>(MF ts).any λx=>N[i]?==some x&&e9 sc x
 |_,_=>false
noncomputable def cU(Γ:Pg)(N:List Str)(sc:Scope):Ss->List Stmt->Bool
 |.nil,[]=>true
 |.cons (.cN _) ss,ps=>cU Γ N sc ss ps
 |.cons s ss,p::ps=>dX Γ N sc s p&&cU Γ N sc ss ps
 |_,_=>false
end
section
variable{Γ:Pg}{X:Cx}{W:Wd}{F:aN}{N:List Str}{sc:Scope}{k:Nat}{H0:Hp}{E:XK}
def SR.go{env:Sl}{σ:St}{G H:Hp}(r:SR W H0 env σ G H):aD W G H0 G H:=⟨av.refl _,r.base,r.sub,λ_ _ _ h=>h,λ_=>r.tab⟩
def aD.then{G G1 H1 G2 H2:Hp}(a:aD W G H0 G1 H1)(b:aD W G1 H0 G2 H2):aD W G H0 G2 H2:=⟨a.g.trans b.g,b.h,b.sub,λx h1 h3 h2=>b.own x h1 h3 (a.own x h1 h3 h2),λt=>b.tab (t.same a.g a.own λ_ _ h=>h)⟩
def SR.on{env:Sl}{σ:St}{G H G1 H1:Hp}(r:SR W H0 env σ G H)(g:aD W G H G1 H1):aD W G H0 G1 H1:=⟨g.g,r.base.trans g.h,g.sub,λx h1 h3 h2=>g.own x (λz=>h1 (r.base.free z)) (r.base.vR h1 h3) h2,λ_=>g.tab r.tab⟩
def Dn(W:Wd)(H0 G:Hp)(D:Ends):Fl->Prop
 |.nx env=>∀σ G' H',SR W H0 env σ G' H'->aD W G H0 G' H'->D.nx σ H'
 |.bk env=>∀σ G' H',SR W H0 env σ G' H'->aD W G H0 G' H'->D.bk σ H'
 |.ct env=>∀σ G' H',SR W H0 env σ G' H'->aD W G H0 G' H'->D.ct σ H'
 |.rt p=>∀v G' H',Rep W G' p v->aD W G H0 G' H'->D.rt v H'
def bP(W:Wd)(H0 G:Hp)(E:XK)(r:Res Fl)(D:Ends):Prop:=match r with
 |.ok f=>Dn W H0 G D f
 |.exc c=>∀Cv ao H',XE W c G H0 Cv ao H'->E Cv ao H'
 |.bad=>False
def Dn.on{G G1 H1:Hp}{D:Ends}{f:Fl}(h:Dn W H0 G D f)(g:aD W G H0 G1 H1):Dn W H0 G1 D f:=by
 cases f with
 |nx env=>exact λσ G' H' r g'=>h σ G' H' r (g.then g')
 |bk env=>exact λσ G' H' r g'=>h σ G' H' r (g.then g')
 |ct env=>exact λσ G' H' r g'=>h σ G' H' r (g.then g')
 |rt p=>exact λv G' H' r g'=>h v G' H' r (g.then g')
def bP.on{G G1 H1:Hp}{D:Ends}{r:Res Fl}(h:bP W H0 G E r D)(g:aD W G H0 G1 H1):bP W H0 G1 E r D:=by
 cases r with
 |ok f=>exact Dn.on h g
 |exc c=>
  intro Cv ao H' x;obtain⟨C,a,G',e1,e2,e3,e4,g2⟩:=x
  exact h Cv ao H' ⟨C,a,G',e1,e2,e3,e4,g.then g2⟩
 |bad=>exact h
noncomputable def tS(W:Wd)(F:aN)(H0:Hp)(E:XK)(s:S):TS:=λD σ H=>∃G env,SR W H0 env σ G H/\bP W H0 G E (fK F s env) D
noncomputable def RE(W:Wd)(F:aN)(H0:Hp)(E:XK)(ss:Ss):TS:=λD σ H=>∃G env,SR W H0 env σ G H/\bP W H0 G E (az F ss env) D
abbrev GS(X:Cx)(W:Wd)(F:aN)(H0:Hp)(E:XK)(s:S)(p:Stmt):Prop:=PS X p (tS W F H0 E s)
abbrev BL(X:Cx)(W:Wd)(F:aN)(H0:Hp)(E:XK)(s:Ss)(p:List Stmt):Prop:=vi X p (RE W F H0 E s)
def _root_.L2.PS.imp{p:Stmt}{t t':TS}(h:PS X p t)(i:∀D σ H,t' D σ H->t D σ H):PS X p t':=λaa s σ H D I hw=>h aa s σ H D I (i D σ H hw)
def _root_.L2.vi.imp{p:List Stmt}{t t':TS}(h:vi X p t)(i:∀D σ H,t' D σ H->t D σ H):vi X p t':=λaa s σ H D I hw=>h aa s σ H D I (i D σ H hw)
structure dJ(Γ:Pg)(F:aN)(W:Wd)(N:List Str)(sc:Scope)(k:Nat)(E:XK)(X:Cx):Prop where
 C:dG Γ F W N sc k X
 fn:∀x,X.fn x=true
 own:PassesOwn (model X.prog X.w) X.A X.env X.xe
 pass:Passes (f6 X.prog X.w) X E
 kind:sc.kind=.function
 LS:X.stack=X.env::X.outer
 frame:X.env.frame=some X.env.locals
 xs:∀c,Γ.rs.contains c=true->c∈W.xs
 rm:∀c,Γ.rs.contains c=true->∃C,X.mg c=some (.ref C)
 rz:∀(c z:Str) (j:Nat) (np zp cp pos:Pos),Γ.rs.contains c=true->eO sc c=true->okN c=true->PS X (.Raise (some (.Call (.Name c np) [.Constant (.str z) j zp] [] cp)) none pos) (λ_ _ H=>∀C e,X.mg c=some (.ref C)->H e=none->E (.ref C) (some e) H)
 Ob:Γ.cs.contains "FloorError"=true->∀c D,c∈W.xs->X.mg c=some (.ref D)->∀T,X.mg "FloorError"=some (.ref T)->PySem.W.exmOne X.K (.ref D) (.ref T)=some true
theorem En(S:dJ Γ F W N sc k E X){c:Str}{σ:St}{Gs G H:Hp}(g:aD W Gs H0 G H)(h:∀Cv ao H',XE W c Gs H0 Cv ao H'->E Cv ao H'):sH X W σ c G H:=λaa G1 H1 s1 e s' I g1 x=>
 S.pass aa σ H1 s1 e s' I (Kv.imp x λCv a H' y=>h Cv a H' (by
  obtain⟨C,a',G',e1,e2,e3,e4,g2⟩:=y
  have g3:=g1.trans g2
  exact⟨C,a',G',e1,e2,e3,e4,g.g.trans g3.g,g.h.trans g3.h,g3.sub,λx h1 h3 h2=>g3.own x (λz=>h1 (g.h.free z)) (g.h.vR h1 h3) (g.own x h1 h3 h2),λt=>g3.tab (g.tab t)⟩))
def bP.bind{α:Type}(S:dJ Γ F W N sc k E X){r:Res α}{f:α->Res Fl}{D:Ends}{env:Sl}{σ:St}{G H:Hp}(sr:SR W H0 env σ G H)(h:bP W H0 G E (r.bind f) D):Out X W r σ G H λa=>bP W H0 G E (f a) D:=by
 cases r with
 |ok a=>exact h
 |exc c=>exact En S sr.go h
 |bad=>exact h
def kL(S:dJ Γ F W N sc k E X){env:Sl}{σ:St}{G H:Hp}{e:Ci.E}{f:PV->Res Fl}{D:Ends}{Q:VK}(sr:SR W H0 env σ G H)(o:bP W H0 G E ((aA F e env).bind f) D)
 (h:∀p v G1 H1,aD W G H G1 H1->Got W H0 G1 H1 e p v->SR W H0 env σ G1 H1->bP W H0 G1 E (f p) D->Q v H1):tE X W F e σ H Q:=
 ⟨H0,G,env,sr,(o.bind S sr).imp λp hp v G1 H1 g1 t=>h p v G1 H1 g1 t (sr.grow g1) (hp.on (sr.on g1))⟩
def Fi(S:dJ Γ F W N sc k E X){env:Sl}{σ:St}{G H:Hp}{e:Ci.E}{f:Bool->Res Fl}{D:Ends}{Q:Bool->Hp->Prop}(sr:SR W H0 env σ G H)(o:bP W H0 G E ((aA F e env).bind λp=>se p f) D)
 (h:∀b G1 H1,aD W G H G1 H1->SR W H0 env σ G1 H1->bP W H0 G1 E (f b) D->Q b H1):tT X W F e σ H Q:=by
 refine⟨H0,G,env,sr,(o.bind S sr).imp λp hp=>?_⟩
 cases p with
 |bl b=>exact⟨b,rfl,λG1 H1 g1=>h b G1 H1 g1 (sr.grow g1) (bP.on hp (sr.on g1))⟩
 |ay=>exact zzk hp
 |int _=>exact zzk hp
 |str _=>exact zzk hp
 |tup _=>exact zzk hp
 |lst _=>exact zzk hp
 |exc _=>exact zzk hp
 |br _ _=>exact zzk hp
def Lz(S:dJ Γ F W N sc k E X){env:Sl}{σ:St}{G H:Hp}{e:Ci.E}{f:PV->Res Fl}{D:Ends}{Q:VK}(hl:∀env q,aA F e env=.ok q->∃xs,q=.lst xs)(sr:SR W H0 env σ G H)(o:bP W H0 G E ((aA F e env).bind f) D)
 (h:∀xs a vs G1 H1,aD W G H G1 H1->H1 a=none->ag W G1 xs vs->SR W H0 env σ G1 H1->bP W H0 G1 E (f (.lst xs)) D->Q (.ref a) (upd H1 a (.lst vs))):tF X W F e σ H Q:=by
 refine⟨H0,G,env,sr,?_⟩;have o2:=o.bind S sr
 cases r:aA F e env with
 |bad=>rw [r] at o2;exact o2
 |exc c=>rw [r] at o2;exact o2
 |ok q=>
  rw [r] at o2;obtain⟨xs,rfl⟩:=hl env q r
  exact⟨xs,rfl,λa vs G' H' g ha l=>h xs a vs G' H' g ha l (sr.grow g) (bP.on o2 (sr.on g))⟩
def uZ{p:Expr}{t:Option Expr}{l:Nat}{env:Env}(h:pO p=true):swapsWith p t l env=pure false:=by
 cases p<;>first|rfl|(exact bq h)
def jd{elt:Expr}{gens:List Comprehension}{s:Scope}{p:Pos}{x:Str}{xp:Pos}{l:Nat}(fe:X.env.scope=sc)(hk:sc.kind=.function):swapsWith (.ListComp elt gens s p) (some (.Name x xp)) l X.env=pure (P9 sc x xp (.ListComp elt gens s p)):=by
 have hb:X.env.blockKind=.function:=by
  unfold Env.blockKind;rw [fe,hk]
  rfl
 show(pure (X.env.blockKind==.function&&X.env.kindOf x==some .local&&xp.line==p.line&&!(s.names.any λ(n,k)=>n==x&&(k==.local||k==.cell))):Sem Bool)=_
 rw [hb];show(pure (true&&X.env.scope.names.lookup x==some .local&&_&&_):Sem Bool)=_
 rw [fe]
 rfl
theorem El(S:dJ Γ F W N sc k E X){e:Ci.E}{p:Expr}{pos:Pos}(he:GE X W F e p)(hn:pO p=true):GS X W F H0 E (.expr e) (.Expr p pos):=
 L2.PS.imp (jg he (uZ hn)) λD σ H h=>by
  obtain⟨G,env,sr,o⟩:=h
  rw [fK] at o;exact kL S sr o λq v G1 H1 g t aX o1=>o1 σ G1 H1 aX aX.go
theorem Ge(S:dJ Γ F W N sc k E X){e:Ci.E}{p:Expr}{pos:Pos}(df:fv e=true)(he:GE X W F e p):GS X W F H0 E (.ret e) (.Return (some p) pos):=
 L2.PS.imp (JF he) λD σ H h=>by
  obtain⟨G,env,sr,o⟩:=h
  rw [fK] at o;exact kL S sr o λq v G1 H1 g t aX o1=>o1 v G1 H1 (t.rep df) aX.go
theorem Hc{pos:Pos}:GS X W F H0 E .brk (.Break pos):=
 L2.PS.imp Bh λD σ H h=>by
  obtain⟨G,env,sr,o⟩:=h
  rw [fK] at o;exact o σ G H sr sr.go
theorem ze(S:dJ Γ F W N sc k E X){c m:Str}{j:Nat}{np zp cp pos:Pos}(h1:Γ.rs.contains c=true)(h2:eO sc c=true)(h3:okN c=true):GS X W F H0 E (.raise c m) (.Raise (some (.Call (.Name c np) [.Constant (.str m) j zp] [] cp)) none pos):=
 L2.PS.imp (S.rz c m j np zp cp pos h1 h2 h3) λD σ H h C e hC he=>by
  obtain⟨G,env,sr,o⟩:=h
  rw [fK] at o;exact o _ _ _ ⟨C,e,G,rfl,rfl,S.xs c h1,by rw [S.C.mg];exact hC,sr.go⟩
def ee(S:dJ Γ F W N sc k E X){i:Nat}{x:Str}(h:N[i]?=some x)(hl:e9 sc x=true):X.N.Nodup/\X.N[i]?=some x/\Loc X.env.scope x:=by
 refine⟨by rw [S.C.hN];exact S.C.nd,by rw [S.C.hN];exact h,ym S.C.fe hl⟩
def HY(S:dJ Γ F W N sc k E X){i:Nat}{x:Str}{e:Ci.E}{p:Expr}{xp pos:Pos}(h:N[i]?=some x)(hl:e9 sc x=true)(df:fv e=true)(he:GE X W F e p)(hs:swapsWith p (some (.Name x xp)) pos.line X.env=pure false):GS X W F H0 E (.set i e) (.Assign [.Name x xp] p pos):=by
 obtain⟨a1,a2,a3⟩:=ee S h hl
 refine L2.PS.imp (pV a1 a2 a3 he hs (.inl (S.fn x))) λD σ H h=>?_
 obtain⟨G,env,sr,o⟩:=h
 rw [fK] at o;exact kL S sr o λq v G1 H1 g t aX o1=>o1 _ G1 H1 (aX.set i (t.rep df)) aX.go
noncomputable def KH(X:Cx)(W:Wd)(F:aN)(i:Nat)(e:Ci.E):TS:=λD σ H=>tF X W F e σ H λv H1=>D.nx (σ.set i (some v)) H1
def MP{e:Ci.E}(hl:∀env q,aA F e env=.ok q->∃xs,q=.lst xs)(σ:St)(H:Hp)(Q:VK)(h:tE X W F e σ H Q):tF X W F e σ H Q:=by
 obtain⟨H0,G,env,sr,o⟩:=h
 refine⟨H0,G,env,sr,?_⟩;cases r:aA F e env with
 |bad=>rw [r] at o;exact o
 |exc c=>rw [r] at o;exact o
 |ok q=>
  rw [r] at o;obtain⟨xs,rfl⟩:=hl env q r
  exact⟨xs,rfl,λa vs G' H' g ha l=>o _ _ _ (g.trans (.new g.sub ha)) (.of (.l (.inl (.inl ak)) (ag.same (aW (g.sub.free ha)) xs l)))⟩
theorem CU(S:dJ Γ F W N sc k E X){i:Nat}{e:Ci.E}{p:Stmt}(hl:∀env q,aA F e env=.ok q->∃xs,q=.lst xs)(df:fv e=true)(h:PS X p (KH X W F i e)):GS X W F H0 E (.set i e) p:=
 L2.PS.imp h λD σ H hq=>by
  obtain⟨G,env,sr,o⟩:=hq
  rw [fK] at o;refine MP hl σ H _ (kL S sr o λq v G1 H1 g t aX o1=>?_);exact o1 _ G1 H1 (aX.set i (t.rep df)) aX.go
def CH(S:dJ Γ F W N sc k E X){i:Nat}{x:Str}{e:Ci.E}{p:Stmt}(hi:N[i]?=some x)(hl:∀env q,aA F e env=.ok q->∃xs,q=.lst xs)(h:PS X p (KH X W F i e)):GS X W F H0 E (.own i e) p:=by
 intro aa s σ H D I hq;have sN:i<σ.length:=by rw [I.len,S.C.hN];exact(zzH.mp hi).1
 refine h aa s σ H D I ?_;obtain⟨G,env,sr,o⟩:=hq
 rw [fK] at o;refine Lz S hl sr o λxs a vs G1 H1 g ha l aX o1=>?_
 have hO:Own W H0 G1 (upd H1 a (.lst vs)) (.lst xs) (.ref a):=⟨a,vs,rfl,ak,aX.sub.free ha,aX.base.free ha,l⟩
 obtain⟨r2,g2⟩:=sW aX aX.go (i:=i) (by rw [aX.len];exact sN) ha hO
 exact o1 _ G1 _ r2 g2
def oq{i:Nat}{x:Str}{e:Ci.E}{p:Expr}{xp pos:Pos}(S:dJ Γ F W N sc k E X)(h:N[i]?=some x)(hl:e9 sc x=true)(he:GF X W F e p)(hs:swapsWith p (some (.Name x xp)) pos.line X.env=pure false):PS X (.Assign [.Name x xp] p pos) (KH X W F i e):=by
 obtain⟨a1,a2,a3⟩:=ee S h hl
 exact pV a1 a2 a3 he hs (.inl (S.fn x))
def yX(S:dJ Γ F W N sc k E X){i:Nat}{x:Str}{xp fP:Pos}(hx:N[i]?=some x)(DM:e9 sc x=true){kk:Nat}{cb:List Nat}{tg:Tg}{it:I}{elt:Ci.E}{cM fb dR:Expr}{scope:Scope}{pos:Pos}(h:j4 N sc scope kk cb (aF cM))(bX:jW kk tg=true)(df:fv elt=true)(hi:GI X W F cM it fb)(xT:∀x,foldedSetIterable fb X.env x=pure x)
 (yw:fY (aF cM++freeOf scope) (cO scope sc) (kU scope) tg cM=true) (he:∀Y,dG Γ.BQ F W (aF cM++freeOf scope) (cO scope sc) k Y->GE Y W F elt dR):PS X (.Assign [.Name x xp] (.ListComp dR [⟨cM,fb,[],0⟩] scope pos) fP) (KH X W F i (.comp kk cb tg it elt)):=by
 obtain⟨a1,a2,a3⟩:=ee S hx DM
 cases wc:P9 sc x xp (.ListComp dR [⟨cM,fb,[],0⟩] scope pos) with
 |false=>exact oq S hx DM (uY S.C h bX df hi xT yw he) (by rw [jd S.C.fe S.kind,wc])
 |true=>
  intro aa s σ H D I hq;have G9:(freeOf scope).Nodup:=(List.nodup_append.mp h.nd).2.1
  have rd:=vb (N:=N) S.C.K bX df h.slots G9 σ H _ hq
  have:=uw (g:=gT X.K tg) (te:=tN W F elt) (xs:=aF cM) (ys:=freeOf scope) (is:=cb) (pos:=pos) a1 a2 a3 S.C.calm (qe S.C.hN S.C.fe I.ok h) hi
   (λfp s1 H1 A=>yC (fn:=kU scope) (X:=bB X (aF cM++freeOf scope) scope (bW X.env (freeOf scope)) fp s1 H1 A) rfl h.nd (eA S.C.fe) rfl (λ_ z=>z) yw)
   (λfp s1 H1 A=>L2.PE.imp (he _ (d6 S.C h fp s1 H1 A)) λσ H Q z=>vW σ H Q z) (by rw [jd (l:=fP.line) S.C.fe S.kind,wc]) xT (.inl (S.fn x)) aa s σ H D I
  rw [h.len] at this;exact this rd
def uc(S:dJ Γ F W N sc k E X){i:Nat}{x:Str}{xp fP:Pos}(hx:N[i]?=some x)(DM:e9 sc x=true){kk:Nat}{cb:List Nat}{tg:Tg}{it:I}{c elt:Ci.E}{cM fb pc dR:Expr}{scope:Scope}{pos:Pos}(h:j4 N sc scope kk cb (aF cM))(bX:jW kk tg=true)(df:fv elt=true)(hi:GI X W F cM it fb)(xT:∀x,foldedSetIterable fb X.env x=pure x)
 (yw:fY (aF cM++freeOf scope) (cO scope sc) (kU scope) tg cM=true) (hc:∀Y,dG Γ.BQ F W (aF cM++freeOf scope) (cO scope sc) k Y->GT Y W F c pc) (he:∀Y,dG Γ.BQ F W (aF cM++freeOf scope) (cO scope sc) k Y->GE Y W F elt dR):PS X (.Assign [.Name x xp] (.ListComp dR [⟨cM,fb,[pc],0⟩] scope pos) fP) (KH X W F i (.cA kk cb tg it c elt)):=by
 obtain⟨a1,a2,a3⟩:=ee S hx DM
 cases wc:P9 sc x xp (.ListComp dR [⟨cM,fb,[pc],0⟩] scope pos) with
 |false=>exact oq S hx DM (nk S.C h bX df hi xT yw hc he) (by rw [jd S.C.fe S.kind,wc])
 |true=>
  intro aa s σ H D I hq;have G9:(freeOf scope).Nodup:=(List.nodup_append.mp h.nd).2.1
  have rd:=mT (N:=N) S.C.K bX df h.slots G9 σ H _ hq
  have:=pK (g:=gT X.K tg) (tt:=NR W F c) (te:=tN W F elt) (xs:=aF cM) (ys:=freeOf scope) (is:=cb) (pos:=pos) a1 a2 a3 S.C.calm (qe S.C.hN S.C.fe I.ok h) hi
   (λfp s1 H1 A=>yC (fn:=kU scope) (X:=bB X (aF cM++freeOf scope) scope (bW X.env (freeOf scope)) fp s1 H1 A) rfl h.nd (eA S.C.fe) rfl (λ_ z=>z) yw)
   (λfp s1 H1 A=>L2.PT.imp (hc _ (d6 S.C h fp s1 H1 A)) λσ H Q z=>Al σ H Q z)
   (λfp s1 H1 A=>L2.PE.imp (he _ (d6 S.C h fp s1 H1 A)) λσ H Q z=>vW σ H Q z) (by rw [jd (l:=fP.line) S.C.fe S.kind,wc]) xT (.inl (S.fn x)) aa s σ H D I
  rw [h.len] at this;exact this rd
def xq{tg:Tg}{p:PV}{env:Sl}(c:Str):Tg.put tg p env≠.exc c:=by
 unfold Tg.put;split<;>exact λz=>nomatch z
theorem Iy(S:dJ Γ F W N sc k E X){c:Ci.E}{a b:Ss}{p:Expr}{pa pb:List Stmt}{pos:Pos}(hc:GT X W F c p)(ha:BL X W F H0 E a pa)(hb:BL X W F H0 E b pb):GS X W F H0 E (.ite c a b) (.If p pa pb pos):=
 L2.PS.imp (LH hc ha hb) λD σ H h=>by
  obtain⟨G,env,sr,o⟩:=h
  rw [fK] at o;refine Fi S sr o λt G1 H1 g aX o1=>?_
  cases t with
  |true=>
   rw [if_pos rfl] at o1⊢;exact⟨G1,env,aX,o1⟩
  |false=>
   rw [if_neg zzf] at o1⊢;exact⟨G1,env,aX,o1⟩
theorem Jb(S:dJ Γ F W N sc k E X){c:Ci.E}{b:Ss}{p:Expr}{pb:List Stmt}{pos:Pos}(hc:GT X W F c p)(hb:BL X W F H0 E b pb):GS X W F H0 E (.Kk c b) (.While p pb [] pos):=
 L2.PS.imp (AL S.own hc hb) λD σ H h=>by
  obtain⟨G,env,sr,o⟩:=h
  rw [fK] at o;refine⟨λm σ' H'=>∃G' af,SR W H0 af σ' G' H'/\aD W G H0 G' H'/\bP W H0 G' E (c8 (aA F c) (az F b) m af) D,⟨_,G,env,sr,sr.go,o⟩,?_⟩
  rintro m σ' H' ⟨G',af,sr',g',o'⟩
  cases m with
  |zero=>exact o'.elim
  |succ m=>
   unfold c8 at o';refine Fi S sr' o' λt G1 H1 g1 aX o1=>?_
   cases t with
   |false=>
    rw [if_neg zzf] at o1⊢;exact o1 σ' G1 H1 aX aX.go
   |true=>
    rw [if_pos rfl] at o1⊢;refine⟨λσ2 H2=>∃G2 dU,SR W H0 dU σ2 G2 H2/\aD W G H0 G2 H2/\bP W H0 G2 E (c8 (aA F c) (az F b) m dU) D,λσ2 H2 h2=>⟨m,Nat.lt_succ_self _,h2⟩,G1,af,aX,?_⟩
    have gg:=g'.then (sr'.on g1)
    cases r:az F b af with
    |bad=>rw [r] at o1;exact o1.elim
    |exc cc=>rw [r] at o1;exact o1
    |ok f=>
     rw [r] at o1;cases f with
     |nx dU=>exact λσ2 G2 H2 fT g2=>⟨G2,dU,fT,gg.then g2,bP.on (show bP W H0 G1 E (c8 (aA F c) (az F b) m dU) D from o1) g2⟩
     |ct dU=>exact λσ2 G2 H2 fT g2=>⟨G2,dU,fT,gg.then g2,bP.on (show bP W H0 G1 E (c8 (aA F c) (az F b) m dU) D from o1) g2⟩
     |bk dU=>exact λσ2 G2 H2 fT g2=>o1 σ2 G2 H2 fT g2
     |rt q=>exact λv G2 H2 rv g2=>o1 v G2 H2 rv g2
def JY(S:dJ Γ F W N sc k E X){tg:Tg}{it:I}{b:Ss}{cM fb:Expr}{pb:List Stmt}{pos:Pos}(yw:fY N sc (λ_=>true) tg cM=true)(hit:CK it=true)(hi:GI X W F cM it fb)(xT:∀x,foldedSetIterable fb X.env x=pure x)(hb:BL X W F H0 E b pb):GS X W F H0 E (.bZ tg it b) (.For cM fb pb [] pos):=
 L2.PS.imp (Gq S.own S.C.calm hi (yC (fn:=λ_=>true) S.C.hN S.C.nd S.C.fe S.C.calm (λx _=>S.fn x) yw) hb xT) λD σ H h=>by
  obtain⟨G,env,sr,o⟩:=h
  rw [fK] at o;refine⟨H0,G,env,sr,(o.bind S sr).imp λps n5 J G1 H1 g1 gi=>?_⟩
  have cN:=gi.cN hit
  generalize hf:(λ(x:PV) (env:Sl)=>(tg.put x env).bind λaf=>az F b af)=f at n5
  have aX:=sr.grow g1
  refine⟨λi m σ' H'=>i<=ps.length/\m=ps.length-i/\∃G' af,SR W H0 af σ' G' H'/\aD W G1 H0 G' H'/\bP W H0 G' E (forL f (ps.drop i) af) D,⟨_,Nat.zero_le _,rfl,G1,env,aX,aX.go,by rw [List.drop_zero];exact bP.on n5 (sr.on g1)⟩,?_⟩
  rintro i m σ' H' ⟨hi2,hm,G',af,sr',g',o'⟩
  obtain⟨ist,igo⟩:=cN i G' H' g'.g (.of (g'.g.trans sr'.sub)) sr'.sub
  by_cases hlast:i=ps.length
  ·refine .inl ⟨ist hlast,?_⟩;rw [hlast,List.drop_length] at o';exact o' σ' G' H' sr' sr'.go
  ·have bX:i<ps.length:=by omega
   obtain⟨hgo,hyld⟩:=igo ps[i] (zzg bX)
   refine .inr ⟨hgo,λσ2 H2=>i+1<=ps.length/\∃G2 dU,SR W H0 dU σ2 G2 H2/\aD W G1 H0 G2 H2/\bP W H0 G2 E (forL f (ps.drop (i+1)) dU) D,λσ2 H2 h2=>⟨ps.length-(i+1),by omega,h2.1,rfl,h2.2⟩,λx lC hy=>?_⟩
   obtain⟨vU,g'',rx⟩:=hyld x lC hy
   rw [List.drop_eq_getElem_cons bX] at o';unfold forL at o';have UX:f ps[i] af=(tg.put ps[i] af).bind λaf=>az F b af:=by rw [<-hf]
   rw [UX] at o';have fT:=sr'.grow g''
   have g2:=g'.then (sr'.on g'')
   cases r:tg.put ps[i] af with
   |bad=>rw [r] at o';exact o'.elim
   |exc c=>exact absurd r (xq c)
   |ok dU=>
    rw [r] at o';refine sP S.C.K r fT rx λσ2 sr3=>⟨vU,dU,sr3,?_⟩
    have o2:bP W H0 vU E ((az F b dU).bind λfl=>match fl with
     |.nx af=>forL f (ps.drop (i+1)) af
     |.ct af=>forL f (ps.drop (i+1)) af
     |.bk af=>.ok (.nx af)
     |.rt p=>.ok (.rt p)) D:=bP.on o' (sr'.on g'')
    cases r2:az F b dU with
    |bad=>rw [r2] at o2;exact o2.elim
    |exc cc=>rw [r2] at o2;exact o2
    |ok fl=>
     rw [r2] at o2;cases fl with
     |nx env3=>exact λσ3 G3 H3 J9 g3=>⟨bX,G3,env3,J9,g2.then g3,bP.on (show bP W H0 vU E (forL f (ps.drop (i+1)) env3) D from o2) g3⟩
     |ct env3=>exact λσ3 G3 H3 J9 g3=>⟨bX,G3,env3,J9,g2.then g3,bP.on (show bP W H0 vU E (forL f (ps.drop (i+1)) env3) D from o2) g3⟩
     |bk env3=>exact λσ3 G3 H3 J9 g3=>o2 σ3 G3 H3 J9 g3
     |rt q=>exact λv G3 H3 rv g3=>o2 v G3 H3 rv g3
theorem B3:BL X W F H0 E .nil []:=L2.vi.imp EL λD σ H h=>by
 obtain⟨G,env,sr,o⟩:=h
 rw [az] at o;exact o σ G H sr sr.go
theorem yA{s:Ci.S}{ss:Ss}{p:Stmt}{ps:List Stmt}(h1:GS X W F H0 E s p)(h2:BL X W F H0 E ss ps):BL X W F H0 E (.cons s ss) (p::ps):=
 L2.vi.imp (BG h1 h2) λD σ H h=>by
  obtain⟨G,env,sr,o⟩:=h
  rw [az] at o;refine⟨G,env,sr,?_⟩;cases r:fK F s env with
  |bad=>rw [r] at o;exact o
  |exc c=>rw [r] at o;exact o
  |ok f=>
   rw [r] at o;cases f with
   |nx dU=>exact λσ2 G2 H2 fT g2=>⟨G2,dU,fT,bP.on (show bP W H0 G E (az F ss dU) D from o) g2⟩
   |bk dU=>exact o
   |ct dU=>exact o
   |rt q=>exact o
def Dy{i:Nat}{ss:Ss}{ps:List Stmt}(h:BL X W F H0 E ss ps):BL X W F H0 E (.cons (.cN i) ss) ps:=by
 intro aa s σ H D I hq;obtain⟨G,env,sr,o⟩:=hq
 rw [az,fK] at o;rcases JB sr sr.go i with⟨G',sr',g'⟩|⟨a,ax,ha,k⟩
 ·exact h aa s σ H D I ⟨G',_,sr',bP.on (show bP W H0 G E (az F ss (env.modify i pN)) D from o) g'⟩
 ·obtain⟨ob,J⟩:=I.freeze ha
  obtain⟨G',sr',g'⟩:=k ob
  exact h aa s σ _ D J ⟨G',_,sr',bP.on (show bP W H0 G E (az F ss (env.modify i pN)) D from o) g'⟩
def sX(hK:W.K=X.K):Su X "list.extend" (λx vs H Q=>∃l b xs zs,x=.ref l/\vs=[.ref b]/\H l=some (.lst xs)/\mV W.K H b zs/\xs.length+zs.length<=sizeLine/\Q .ay (upd H l (.lst (xs++zs)))):=by
 intro aa s σ H x vs v us Q I rx rv h;obtain⟨l,b,xs,zs,rfl,rfl,hH,hB,hz,q⟩:=h
 cases rx;obtain⟨u,rfl,ru⟩:=Vals.one rv
 cases ru;obtain⟨z,aj,n,r,hl,e⟩:=I.Jf hH
 obtain⟨dC,n2,r2,hl2,z2,e2⟩:=C0 hK I hB
 have hsz:aj.toArray.size+dC.toArray.size<=sizeLine:=by rw [zzC,zzC];omega
 have Mq:¬(!aj.toArray.isEmpty&&Builtin.List.listTooLong (aj.toArray.size+dC.toArray.size))=true:=by
  rw [A4 hsz,Bool.and_false];exact zzf
 refine PySem.call_meets PySem.F.slot_list_extend ⟨_,e,rfl⟩ PySem.F.entry_list_extend (PySem.F.args_list_extend_2 _ _)
  (PySem.AutoSeq1.list_extend_list_list_0 l aj.toArray n b dC.toArray n2 Mq (by rw [zzC];omega) (by omega)) ⟨e,e2,?_⟩
 refine⟨.ay,_,I.JG (its':=aj++dC) hH e (by simp) (r.append r2) ?_,rfl,q⟩;rw [zzM];omega
def jz(S:dJ Γ F W N sc k E X){i:Nat}{x:Str}{pos:Pos}(h:N[i]?=some x)(hv:eF sc x=true)(ho:okN x=true):PE X (.Name x pos) (Ez i):=
 lD (by rw [S.C.hN];exact h) (ou S.C hv) (fV ho).1 (fV ho).2.1
def i5{env:Sl}{σ:St}{G H:Hp}{i:Nat}{xs:List PV}(sr:SR W H0 env σ G H)(h:env[i]?=some (.own (.lst xs))):∃a vs,σ[i]?=some (some (.ref a))/\H a=some (.lst vs)/\G a=none/\H0 a=none/\ag W G xs vs:=by
 obtain⟨o,ho,v,rfl,a,vs,rfl,h1,h2,h3,l⟩:=sr.slot i _ h
 exact⟨a,vs,ho,h1,h2,h3,l⟩
def Gp(S:dJ Γ F W N sc k E X){i:Nat}{x:Str}{e:Ci.E}{p:Expr}{np apos bz pos:Pos}(h:N[i]?=some x)(hv:eF sc x=true)(ho:okN x=true)(jo:(apos.endLine==bz.line)=true)(df:fv e=true)(he:GE X W F e p)
 (cx:∀env ps,starEach (p::ps) env=(false,eval p env)::starEach ps env):GS X W F H0 E (.app i e) (.Expr (.Call (.Attribute (.Name x np) "append" apos) [p] [] bz) pos):=by
 refine L2.PS.imp (jg (vY PySem.F.plainAttrs_list PySem.F.slot_list_append PySem.F.type_list_append mL (jz S h hv ho) (bp he cw (cx _ _)) rfl (by rw [cx];rfl) jo (cx _ _) rfl) rfl) λD σ H hq=>?_
 obtain⟨G,env,sr,o⟩:=hq
 rw [fK] at o;split at o
 ·rename_i xs hx;obtain⟨a,vs,hs,h1,h2,h3,l⟩:=i5 sr hx
  refine⟨.ref a,hs,.inl ⟨rfl,_,di.of h1⟩,kL S sr o λq v G1 H1 g t aX o1=>?_⟩
  split at o1
  ·rename_i hl;have ya:=g.h.at h1 (λ_ z=>nomatch z)
   have x6:=g.own a (by rw [h1];exact λz=>nomatch z) (by rw [h1];exact λ_ z=>nomatch z) h2
   have l':=ag.same g.g xs l
   refine⟨a,vs,v,rfl,rfl,ya,by rw [l.length];exact zzW hl (by decide),?_⟩;obtain⟨r2,g2⟩:=kI (p':=.lst (xs++[q])) (ob:=.lst (vs++[v])) aX aX.go hx hs x6 h3 ⟨a,_,rfl,ak,x6,h3,l'.append (.cons (t.rep df) .nil)⟩
   exact o1 _ G1 _ r2 g2
  ·exact o1.elim
 ·exact o.elim
def DK(S:dJ Γ F W N sc k E X){i:Nat}{x:Str}{e:Ci.E}{p:Expr}{np apos bz pos:Pos}(h:N[i]?=some x)(hv:eF sc x=true)(ho:okN x=true)(jo:(apos.endLine==bz.line)=true)(he:GE X W F e p)
 (cx:∀env ps,starEach (p::ps) env=(false,eval p env)::starEach ps env):GS X W F H0 E (.mG i e) (.Expr (.Call (.Attribute (.Name x np) "extend" apos) [p] [] bz) pos):=by
 refine L2.PS.imp (jg (vY PySem.F.plainAttrs_list PySem.F.slot_list_extend PySem.F.type_list_extend (sX S.C.K) (jz S h hv ho) (bp he cw (cx _ _)) rfl (by rw [cx];rfl) jo (cx _ _) rfl) rfl) λD σ H hq=>?_
 obtain⟨G,env,sr,o⟩:=hq
 rw [fK] at o;split at o
 ·rename_i xs hx;obtain⟨a,vs,hs,h1,h2,h3,l⟩:=i5 sr hx
  refine⟨.ref a,hs,.inl ⟨rfl,_,di.of h1⟩,kL S sr o λq v G1 H1 g t aX o1=>?_⟩
  split at o1
  ·rename_i ys;split at o1
   ·rename_i hl;have ya:=g.h.at h1 (λ_ z=>nomatch z)
    have x6:=g.own a (by rw [h1];exact λz=>nomatch z) (by rw [h1];exact λ_ z=>nomatch z) h2
    have l':=ag.same g.g xs l
    obtain⟨b,us,rfl,hb,lb⟩:=t.top.lst aX.sub
    refine⟨a,b,vs,us,rfl,rfl,ya,hb,by rw [l.length,lb.length];exact kJ hl,?_⟩;obtain⟨r2,g2⟩:=kI (p':=.lst (xs++ys)) (ob:=.lst (vs++us)) aX aX.go hx hs x6 h3 ⟨a,_,rfl,ak,x6,h3,l'.append lb⟩
    exact o1 _ G1 _ r2 g2
   ·exact o1.elim
  ·exact o1.elim
 ·exact o.elim
def L8:V->V->V->Hp->(Hp->Prop)->Prop:=λo i v H Q=>∃a H',o=.ref a/\yT H a i v H'/\Q H'
def D3(hu:X.A.units+1<cLine):Lm X L8:=by
 intro aa s σ H o i v ov iv u Q I ro ri rv h;obtain⟨a,H',rfl,g,q⟩:=h
 cases ro;exact wo hu I g ri rv λs' I'=>⟨H',I',q⟩
def Cd{env:Sl}{σ:St}{G H:Hp}{i:Nat}{ks:List (List Int)}{ps:List PV}(sr:SR W H0 env σ G H)(h:env[i]?=some (.own (.br ks ps))):∃a us,σ[i]?=some (some (.ref a))/\ks.length=us.length/\H a=some (.dT (kz ks us))/\G a=none/\H0 a=none/\ag W G ps us:=by
 obtain⟨o,ho,v,rfl,a,us,rfl,n,h1,h2,h3,l⟩:=sr.slot i _ h
 exact⟨a,us,ho,n,h1,h2,h3,l⟩
def F6(S:dJ Γ F W N sc k E X){i:Nat}{x:Str}{kk e:Ci.E}{pk p:Expr}{np fP pos:Pos}(h:N[i]?=some x)(hv:eF sc x=true)(ho:okN x=true)(df:fv e=true)(RP:aO Γ N sc kk pk=true)(hk:GE X W F kk pk)(he:GE X W F e p):GS X W F H0 E (.put i kk e) (.Assign [.Subscript (.Name x np) pk fP] p pos):=by
 have wc:swappedStores [.Subscript (.Name x np) pk fP] p X.env=pure none:=by cases p<;>rfl
 have ha:∀v,assign (.Subscript (.Name x np) pk fP) X.env v=(do
  let ov<-holding [v] (eval (.Name x np) X.env)
  let iv<-holding [v,ov] (eval pk X.env)
  standAt fP
  holding [v,ov,iv] (setItem ov iv v)
  release [v,ov,iv] []):=by
  intro v;cases pk<;>first|rfl|(cases kk<;>first|(exact bq RP)|(rename_i q;cases q<;>exact bq RP))
 refine L2.PS.imp (zC he (Gz (jz S h hv ho) hk (D3 (by have:=S.C.room.un;omega)) ha) (by cases p<;>rfl) wc) λD σ H hq=>?_
 obtain⟨G,env,sr,o⟩:=hq
 rw [fK] at o;refine kL S sr o λq v G1 H1 g t aX o1=>?_
 split at o1
 ·rename_i ks ps hx;obtain⟨a,us,hs,n,h1,h2,h3,l⟩:=Cd aX hx
  refine⟨.ref a,hs,kL S aX o1 λq2 v2 G2 H2 g2 t2 fT o2=>?_⟩
  split at o2
  ·rename_i kk hkk;split at o2
   ·rename_i EB;have e2:=dw hkk
    subst e2;obtain⟨b,rfl,hb⟩:=t2.top.tupI (ns:=kk) fT.sub rfl
    have ya:=g2.h.at h1 (λ_ z=>nomatch z)
    have x6:=g2.own a (by rw [h1];exact λz=>nomatch z) (by rw [h1];exact λ_ z=>nomatch z) h2
    have l':=ag.same g2.g ps l
    refine⟨a,upd H2 a (.dT (putK (kz ks us) (ki kk) v)),rfl,yT.t ya (by rw [uy];exact fT.sub _ _ hb) (by rw [qb n];exact zzW EB (by decide)),?_⟩;rw [yQ n];obtain⟨r2,gg⟩:=kI (p':=.br (cu ks kk) (cP ks ps kk q)) (ob:=.dT (kz (cu ks kk) (cP ks us kk v))) fT fT.go hx hs x6 h3 ⟨a,_,rfl,rY n kk v,ak,x6,h3,vI l' (Rep.same g2.g q (t.rep df))⟩
    exact o2 _ G2 _ r2 gg
   ·exact o2.elim
  ·exact o2.elim
 ·exact o1.elim
def D7(S:dJ Γ F W N sc k E X){i:Nat}{x:Str}{np dp pos:Pos}(h:N[i]?=some x)(hl:e9 sc x=true):GS X W F H0 E (.qy i) (.Assign [.Name x np] (.Dict [] [] dp) pos):=by
 obtain⟨a1,a2,a3⟩:=ee S h hl
 intro aa s σ H D I hq;have sN:i<σ.length:=by rw [I.len,S.C.hN];exact(zzH.mp h).1
 refine pV a1 a2 a3 yP rfl (.inl (S.fn x)) aa s σ H D I ?_;obtain⟨G,env,sr,o⟩:=hq
 rw [fK] at o;intro p hp;obtain⟨r2,g2⟩:=sW (i:=i) (p:=.br [] []) (ob:=.dT []) sr sr.go (by rw [sr.len];exact sN) hp ⟨p,[],rfl,rfl,ak,sr.sub.free hp,sr.base.free hp,.nil⟩
 exact o _ G _ r2 g2
end
end Ci
namespace L2
open PySem PySem.Spec PyProof.Rows
section
variable{prog:Program}{w:World}{A:Around}{E:Value->Shared->Prop}
theorem nU{I:Addr}{fp wr:List Addr}{n:Nat}{P:Nat->Value->Prop}{S:Nat->Heap->Prop}(W:Walks prog w A I fp wr n P S):∀(k i:Nat) (s:Shared) (Q:List Value->Shared->Prop),i+k<=n->S i s.heap->
 (∀h' tk xs,xs.length=k->(∀j v,xs[j]?=some v->P (i+j) v)->S (i+k) h'->(∀b o,b∉wr->s.heap.get? b=some o->h'.get? b=some o)->Q xs {s with heap:=h',toks:=tk})->wpAny (model prog w) A (draw (.ref I) k) Q E s
 |0,i,s,Q,_,st,hQ=>by
  show wpAny _ _ (pure []) Q E s
  exact zzG (hQ s.heap s.toks [] rfl (λj v h=>by cases h) st λ_ _ _ e=>e)
 |k+1,i,s,Q,hle,st,hQ=>by
  show wpAny _ _ (pyNext (.ref I)>>=_) Q E s
  refine zzA (W.item i s _ _ (by omega) st λv h1 UK hv sE k1=>?_)
  refine zzA (wpAny_holding (nU W k (i+1) _ _ (by omega) sE λh2 LR xs hl hx Ju k2=>zzG ?_))
  refine hQ h2 LR (v::xs) (by rw [zzL,hl]) (λj u h=>?_) (by rw [show i+(k+1)=i+1+k by omega];exact Ju) λb o hb e=>k2 b o hb (k1 b o hb e)
  cases j with
  |zero=>cases h;exact hv
  |succ j=>have:=hx j u h;rwa [show i+1+j=i+(j+1) by omega] at this
def rT{s:Shared}{t:Addr}{items:Array Value}{Q:List Value->Shared->Prop}(hh:A.handled=none)(ht:s.heap.IsList t items)
 (hQ:∀h' tk,(∀b o,s.heap.get? b=some o->h'.get? b=some o)->Q items.toList {s with heap:=h',toks:=tk}):wpAny (model prog w) A (unpackItems (.ref t) items.size none) Q E s:=by
 have bX:t≠(zz9 s):=by obtain⟨o,ho,_⟩:=ht;exact zzb (zzO ho)
 unfold unpackItems;refine zzA ?_;unfold notIterableAtAll;refine zzA (wpAny_specialOf ht.typeIs PySem.F.slot_list_iter.lookup ?_);refine zzG ?_;simp! [zze,if_false];refine zzA (wpAny_holding (wpAny_pyIter_list ht ?_));have W:=Walks.list (prog:=prog) (w:=w) hh (zz9 s) t bX items
 refine zzA (wpAny_holding (nU W items.size 0 _ _ (by omega) ⟨⟨_,zzX _ rfl,rfl,rfl⟩,ht.at λo e=>zzB _ e⟩ λh1 UK xs hl hx sE k1=>?_))
 have fS:xs=items.toList:=by
  refine List.ext_getElem? λj=>?_
  by_cases hj:j<xs.length
  ·have:=hx j xs[j] (zzg hj)
   rw [Nat.zero_add] at this;rw [zzg hj,Array.getElem?_toList,this]
  ·rw [List.getElem?_eq_none (by omega),List.getElem?_eq_none (by rw [zzd];omega)]
 subst fS;rw [if_neg (by simp)];rw [Nat.zero_add] at sE;refine zzA (wpAny_holding (W.done _ _ _ sE λh2 LR k2=>?_));simp! [Option.isSome_none,zze,if_false];have new:∀b o,s.heap.get? b=some o->b∉[(zz9 s)]:=λb o e z=>absurd (zzO e) (by rw [zzi.mp z];exact Nat.lt_irrefl _)
 exact zzG (hQ h2 LR λb o e=>k2 b o (new b o e) (k1 b o (new b o e) (zzB _ e)))
variable{X:Cx}{pos:Pos}
noncomputable def OQ(K:zz8)(n:Nat)(t:BM):TG:=λv σ H Q=>∃a xs,v=.ref a/\di K H a xs/\xs.length=n/\t xs σ H Q
theorem Gr{es:List Expr}{k:Nat}{t:BM}{n:Nat}(hc:X.calm=true)(h:Kp X es t)
 (hn:(assignEach es X.env).length=n:=by rfl) (cx:(assignEach es X.env).findIdx? (·.1)=none:=by rfl):PG X (.Tuple es k pos) (OQ X.K n t):=by
 intro aa s σ H v u Q I r hw;obtain⟨a,xs,e1,hq,hl,hw⟩:=hw
 subst e1;cases r;obtain⟨aj,rv,ht,hz⟩:=I.list hq
 rw [assign_Tuple];refine zzA (wpAny_standAt ?_);unfold unpack;rw [cx,show(assignEach es X.env).length=aj.toArray.size by simp [hn,<-hl,rv.length]];refine zzA (wpAny_holding (rT (I.ok.hd hc) ht.isList λh' tk kp=>?_))
 exact h aa _ σ H xs _ Q (I.kept (t':=tk) kp) (by simpa using rv) hw
end
end L2
namespace Ci
open PySem L2
section
variable{Γ:Pg}{X:Cx}{W:Wd}{F:aN}{N:List Str}{sc:Scope}{k:Nat}{H0:Hp}{E:XK}
def yz(S:dJ Γ F W N sc k E X)(i j:Nat)(e:Ci.E)(p:Stmt)(h:dX Γ N sc (.uM i j e) p=true):GS X W F H0 E (.uM i j e) p:=by
 cases p<;>first|(exact bq h)|skip
 rename_i ts v pos;obtain⟨t,h0,h⟩:=ah h
 obtain⟨es,h1,h⟩:=ah h
 simp! [zza] at h;obtain⟨⟨⟨h2,h3⟩,h4⟩,h5⟩:=h
 cases eK h0;obtain⟨kk,tp,rfl⟩:=pQ h1
 obtain⟨pg,hn,hf⟩:=ub S.C.hN S.C.nd S.C.fe (λx _=>S.fn x) _ _ h4
 have wc:swappedStores [Expr.Tuple es kk tp] v X.env=pure none:=by
  cases v<;>first|rfl|(exact bq h2)
 have BV:swapsWithSole [Expr.Tuple es kk tp] v pos.line X.env=pure false:=by
  cases v<;>rfl
 refine L2.PS.imp (zC (aR e S.C _ h5).ge (Gr S.C.calm pg hn hf) BV wc rfl) λD σ H q=>?_
 obtain⟨G,env,sr,o⟩:=q
 rw [fK] at o;refine kL S sr o λq v G1 H1 g t aX o1=>?_
 cases q with
 |lst xs=>
  match xs,t,o1 with
  |[],_,o1=>exact zzk o1
  |[_],_,o1=>exact zzk o1
  |_::_::_::_,_,o1=>exact zzk o1
  |[x,y],t,o1=>
   obtain⟨a,vs,rfl,hq,l1⟩:=t.top.lst aX.sub
   obtain⟨v1,r1,rfl,g1,l1⟩:=l1.aZ
   obtain⟨v2,r2,rfl,g2,l1⟩:=l1.aZ
   have:=l1.length
   cases r2 with
   |cons _ _=>cases this
   |nil=>exact⟨a,_,rfl,iO S.C.K hq,rfl,_,_,rfl,_,_,rfl,rfl,o1 _ G1 H1 ((aX.set i g1).set j g2) aX.go⟩
 |_=>exact zzk o1
theorem ag.erase{G:Hp}:∀{ps:List PV} {vs:List V} (n:Nat),ag W G ps vs->ag W G (ps.eraseIdx n) (vs.eraseIdx n)
 |[],_,n,h=>by simp! [ag] at h;subst h;simp! [List.eraseIdx_nil];exact .nil
 |p::ps,_,0,h=>by
  obtain⟨v,r,rfl,h1,h2⟩:=h.aZ
  exact h2
 |p::ps,_,n+1,h=>by
  obtain⟨v,r,rfl,h1,h2⟩:=h.aZ
  exact .cons h1 (ag.erase n h2)
def xI(S:dJ Γ F W N sc k E X){i j:Nat}{x y:Str}{e:Ci.E}{p:Expr}{np apos bz yp Bu zo pos:Pos}(h:N[i]?=some x)(hv:eF sc x=true)(ho:okN x=true)(jo:(apos.endLine==bz.line)=true)(hy:N[j]?=some y)(Vi:eF sc y=true)(UB:okN y=true)(Jh:(Bu.endLine==zo.line)=true)(he:GE X W F e p)
 (cx:∀env ps,starEach (p::ps) env=(false,eval p env)::starEach ps env):GS X W F H0 E (.fy i j e) (.Expr (.Call (.Attribute (.Name x np) "append" apos) [.Call (.Attribute (.Name y yp) "pop" Bu) [p] [] zo] [] bz) pos):=by
 refine L2.PS.imp (jg (vY PySem.F.plainAttrs_list PySem.F.slot_list_append PySem.F.type_list_append mL (jz S h hv ho) (bp (vY PySem.F.plainAttrs_list PySem.F.slot_list_pop PySem.F.type_list_pop BD (jz S hy Vi UB) (bp he cw (cx _ _)) rfl (by rw [cx];rfl) Jh (cx _ _) rfl) cw rfl) rfl rfl jo rfl rfl) rfl) λD σ H hq=>?_
 obtain⟨G,env,sr,o⟩:=hq
 rw [fK] at o;split at o
 ·rename_i xs ys hx Dx;obtain⟨a,vs,hs,h1,h2,h3,l⟩:=i5 sr hx
  obtain⟨b,us,qU,ya,x6,h3',l'⟩:=i5 sr Dx
  refine⟨.ref a,hs,.inl ⟨rfl,_,di.of h1⟩,.ref b,qU,.inl ⟨rfl,_,di.of ya⟩,kL S sr o λq v G1 H1 g t aX o1=>?_⟩
  split at o1
  ·rename_i n;split at o1
   ·rename_i hc;obtain⟨c1,c2,c5,c3,c4⟩:=hc
    obtain⟨m,rfl⟩:=zzw c1
    have hm:m<ys.length:=by omega
    have hq:ys[m]?=some ys[m]:=zzg hm
    have mI:(Res.of ys[(m:Int).toNat]?)=.ok ys[m]:=by rw [zz4,hq];rfl
    rw [mI] at o1;obtain⟨w,hw,gF⟩:=l'.lZ hq
    have PR:a≠b:=λz=>c4 (sr.apart i j _ _ a hx Dx hs (by rw [z];exact qU))
    have k1:=g.h.at ya (λ_ z=>nomatch z)
    have k2:=g.own b (by rw [ya];exact λz=>nomatch z) (by rw [ya];exact λ_ z=>nomatch z) x6
    have k3:=ag.same g.g ys l'
    have m1:=g.h.at h1 (λ_ z=>nomatch z)
    have m2:=g.own a (by rw [h1];exact λz=>nomatch z) (by rw [h1];exact λ_ z=>nomatch z) h2
    have m3:=ag.same g.g xs l
    have Vq:m<us.length:=by rw [l'.length];exact hm
    have EB:dh=1000000:=rfl
    obtain rfl:v=.int (m:Int):=t.top.int
    obtain⟨r1,g1⟩:=kI (p':=.lst (ys.eraseIdx m)) (ob:=.lst (us.eraseIdx m)) aX aX.go Dx qU k2 h3' ⟨b,_,rfl,ak,k2,h3',ag.erase m k3⟩
    have UM:(env.set j (Slot.own (.lst (ys.eraseIdx m))))[i]?=some (.own (.lst xs)):=by rw [zzS (Ne.symm c4)];exact hx
    have UL:upd H1 b (.lst (us.eraseIdx m)) a=some (.lst vs):=by rw [ai PR];exact m1
    obtain⟨r2,g2⟩:=kI (p':=.lst (xs++[ys[m]])) (ob:=.lst (vs++[w])) r1 g1 UM hs m2 h3 ⟨a,_,rfl,ak,m2,h3,m3.append (.cons (Rep.same g.g _ gF) .nil)⟩
    refine⟨b,us,(m:Int),m,w,rfl,rfl,k1,by omega,by omega,?_,hw,a,vs,w,rfl,rfl,UL,by rw [l.length];exact zzW c3 (by decide),o1 _ G1 _ r2 g2⟩;unfold seqIndex?;have:¬(m:Int)<0:=by omega
    simp! [this,if_false];rw [if_pos (by rw [zza];exact⟨zzh (by omega),zzh (by omega)⟩)]
    rfl
   ·exact o1.elim
  ·exact o1.elim
 ·exact o.elim
def Cz(S:dJ Γ F W N sc k E X){i:Nat}{x:Str}{e:Ci.E}{p:Expr}{np gp cp pos:Pos}(h:N[i]?=some x)(hl:e9 sc x=true)(hg:eO sc "list"=true)(hm:Γ.bs.contains "list"=true)(he:GE X W F e p)
 (cx:∀env ps,starEach (p::ps) env=(false,eval p env)::starEach ps env):GS X W F H0 E (.iX i e) (.Assign [.Name x np] (.Call (.Name "list" gp) [p] [] cp) pos):=by
 obtain⟨a1,a2,a3⟩:=ee S h hl
 intro aa s σ H D I hq;have sN:i<σ.length:=by rw [I.len,S.C.hN];exact(zzH.mp h).1
 refine pV a1 a2 a3 (dy oQ (dg S.C hg) (S.C.bs _ (zzn.mp hm)) (by decide+kernel) (bp he cw (cx _ _)) (he:=cx _ _) (hpl:=rfl)) rfl (.inl (S.fn x)) aa s σ H D I ?_;obtain⟨G,env,sr,o⟩:=hq
 rw [fK] at o;refine kL S sr o λq v G1 H1 g t aX o1=>?_
 have fin:∀xs a vs,v=.ref a->(di X.K H1 a vs\/eB X.K H1 a vs)->ag W G1 xs vs->bP W H0 G1 E (.ok (.nx (env.set i (.own (.lst xs))))) D->∃p ys,[v]=[V.ref p]/\(di X.K H1 p ys\/eB X.K H1 p ys)/\∀l,H1 l=none->D.nx (σ.set i (some (.ref l))) (upd H1 l (.lst ys)):=λxs a vs e hs l o2=>by
  subst e;refine⟨a,vs,rfl,hs,λad hp=>?_⟩
  obtain⟨r2,g2⟩:=sW (i:=i) (p:=.lst xs) (ob:=.lst vs) aX aX.go (by rw [aX.len];exact sN) hp ⟨ad,vs,rfl,ak,aX.sub.free hp,aX.base.free hp,l⟩
  exact o2 _ G1 _ r2 g2
 cases q with
 |lst xs=>
  obtain⟨a,vs,e,h1,l⟩:=t.top.lst aX.sub
  exact fin xs a vs e (.inl (iO S.C.K h1)) l o1
 |tup xs=>
  obtain⟨a,vs,e,h1,l⟩:=t.top.tup aX.sub
  exact fin xs a vs e (.inr (S.C.K▸h1)) l o1
 |_=>exact o1.elim
def ql{e:Ci.E}(h:gZ e=true):∀env q,aA F e env=.ok q->∃xs,q=.lst xs:=by
 cases e<;>first|(exact bq h)|exact lst_is|exact uV|exact m6
def nE(S:dJ Γ F W N sc k E X){i:Nat}{x:Str}{xp pos:Pos}(hx:N[i]?=some x)(DM:e9 sc x=true)(e:Ci.E)(p:Expr)(hf:gZ e=true)(h:aO Γ N sc e p=true):PS X (.Assign [.Name x xp] p pos) (KH X W F i e):=by
 cases e with
 |lst as=>
  obtain⟨ps,e,h1⟩:=ah h
  obtain⟨_,rfl⟩:=yS e
  have h2:=aq h1
  have h0:=aq h2.1
  exact oq S hx DM (zq h0.1 (zzY h0.2) (kW as S.C _ h2.2)) rfl
 |comp kk cb tg it elt=>
  obtain⟨dR,gens,scope,_,rfl,h1⟩:=NP h
  obtain⟨⟨cM,fb,ifs,asy⟩,z2,h2⟩:=eg h1
  have h3:=aq h2
  have z3:=Fb h3.1
  dsimp only at z2 z3;subst z2 z3
  clear h h1 h2
  have h:=aq h3.2
  clear h3
  simp! [zza] at h;obtain⟨⟨⟨⟨⟨⟨h1,h2⟩,h3⟩,h4⟩,h5⟩,h6⟩,gn⟩:=h
  have gn:=zzY gn
  subst gn;exact yX S hx DM (gG h1) h2 h3 (yq it S.C cM fb h4) (gQ h4 _) h5 λY CY=>(aR elt CY dR h6).ge
 |cA kk cb tg it c elt=>
  obtain⟨dR,gens,scope,_,rfl,h1⟩:=NP h
  obtain⟨⟨cM,fb,ifs,asy⟩,z2,h2⟩:=eg h1
  obtain⟨pc,z3,h3⟩:=eg h2
  dsimp only at z2 z3;subst z2 z3
  clear h h1 h2
  have h:=aq h3
  clear h3
  simp! [zza] at h;obtain⟨⟨⟨⟨⟨⟨⟨⟨h0,h1⟩,h2⟩,h3⟩,h4⟩,h5⟩,h6⟩,h7⟩,gn⟩:=h
  have gn:=zzY gn
  subst gn;exact uc S hx DM (gG h1) h2 h3 (yq it S.C cM fb h4) (gQ h4 _) h5 (λY CY=>(aR c CY pc h6).gt h0) λY CY=>(aR elt CY dR h7).ge
 |_=>exact bq hf
def xX{e:Ci.E}{p:Expr}(h:aO Γ N sc e p=true)(hf:gZ e=false):pO p=true:=by
 cases p<;>first|rfl|(cases e<;>first|(exact bq h)|(rename_i q;cases q<;>exact bq h)|(cases hf;done))
def xb(S:dJ Γ F W N sc k E X){i:Nat}{x:Str}{e:Ci.E}{p:Expr}{xp pos:Pos}(h:N[i]?=some x)(hl:e9 sc x=true)(df:fv e=true)(hc:aO Γ N sc e p=true):GS X W F H0 E (.set i e) (.Assign [.Name x xp] p pos):=by
 cases hf:gZ e with
 |true=>exact CU S (ql hf) df (nE S h hl e p hf hc)
 |false=>exact HY S h hl df (aR e S.C p hc).ge (uZ (xX hc hf))
def zO(S:dJ Γ F W N sc k E X)(e:Ci.E)(p:Stmt)(h:dX Γ N sc (.expr e) p=true):GS X W F H0 E (.expr e) p:=by
 cases p<;>first|(exact bq h)|skip
 replace h:=aq h
 try simp! [zza] at h
 exact El S (aR e S.C _ h.2).ge h.1
def Du(S:dJ Γ F W N sc k E X)(i:Nat)(e:Ci.E)(p:Stmt)(h:dX Γ N sc (.set i e) p=true):GS X W F H0 E (.set i e) p:=by
 cases p<;>first|(exact bq h)|skip
 replace h:=ah h
 simp! [Option.any_eq_true,zza,zzy] at h;obtain⟨x,h0,h1⟩:=h
 obtain⟨xp,rfl⟩:=pU h0
 exact xb S h1.1.1.1 h1.1.1.2 h1.1.2 h1.2
def DH(S:dJ Γ F W N sc k E X)(i:Nat)(e:Ci.E)(p:Stmt)(h:dX Γ N sc (.own i e) p=true):GS X W F H0 E (.own i e) p:=by
 cases p<;>first|(exact bq h)|skip
 replace h:=ah h
 simp! [Option.any_eq_true,zza,zzy] at h;obtain⟨x,h0,h⟩:=h
 obtain⟨xp,rfl⟩:=pU h0
 exact CH S h.1.1.1 (ql h.1.2) (nE S h.1.1.1 h.1.1.2 e _ h.1.2 h.2)
def Em(S:dJ Γ F W N sc k E X)(i:Nat)(p:Stmt)(h:dX Γ N sc (.cN i) p=true):GS X W F H0 E (.cN i) p:=by
 cases p<;>exact bq h
def Ct(S:dJ Γ F W N sc k E X)(i:Nat)(e:Ci.E)(p:Stmt)(h:dX Γ N sc (.app i e) p=true):GS X W F H0 E (.app i e) p:=by
 cases p<;>first|(exact bq h)|skip
 replace h:=ah h
 simp! [Option.any_eq_true,zza,zzy] at h;obtain⟨⟨x,m,args⟩,h0,⟨⟨⟨⟨h1,h2⟩,h3⟩,h4⟩,h5⟩,q,h6,h7⟩:=h
 obtain⟨np,apos,bz,rfl,hl⟩:=pH h0
 cases eK h6;cases h4;exact Gp S h1 h2 h3 hl h5 (aR e S.C q h7).ge (notStar h7)
def yx(S:dJ Γ F W N sc k E X)(i:Nat)(e:Ci.E)(p:Stmt)(h:dX Γ N sc (.mG i e) p=true):GS X W F H0 E (.mG i e) p:=by
 cases p<;>first|(exact bq h)|skip
 replace h:=ah h
 simp! [Option.any_eq_true,zza,zzy] at h;obtain⟨⟨x,m,args⟩,h0,⟨⟨⟨h1,h2⟩,h3⟩,h4⟩,q,h6,h7⟩:=h
 obtain⟨np,apos,bz,rfl,hl⟩:=pH h0
 cases eK h6;cases h4;exact DK S h1 h2 h3 hl (aR e S.C q h7).ge (notStar h7)
def Cc(S:dJ Γ F W N sc k E X)(i:Nat)(kk e:Ci.E)(p:Stmt)(h:dX Γ N sc (.put i kk e) p=true):GS X W F H0 E (.put i kk e) p:=by
 cases p<;>first|(exact bq h)|skip
 replace h:=ah h
 simp! [Option.any_eq_true,zza,zzy] at h;obtain⟨⟨x,pk⟩,h0,⟨⟨⟨⟨h1,h2⟩,h3⟩,h5⟩,h6⟩,h7⟩:=h
 obtain⟨np,sp,rfl⟩:=Ia h0
 exact F6 S h1 h2 h3 h5 h6 (aR kk S.C pk h6).ge (aR e S.C _ h7).ge
def AA(S:dJ Γ F W N sc k E X)(i:Nat)(p:Stmt)(h:dX Γ N sc (.qy i) p=true):GS X W F H0 E (.qy i) p:=by
 cases p<;>first|(exact bq h)|skip
 rename_i ts v pos;cases v<;>first|(exact bq h)|skip
 rename_i ks vs dp;cases ks<;>first|(exact bq h)|skip
 cases vs<;>first|(exact bq h)|skip
 replace h:=ah h
 simp! [Option.any_eq_true,zza,zzy] at h;obtain⟨x,h0,h1,h2⟩:=h
 obtain⟨yp,rfl⟩:=pU h0
 exact D7 S h1 h2
def Bw(S:dJ Γ F W N sc k E X)(i:Nat)(e:Ci.E)(p:Stmt)(h:dX Γ N sc (.iX i e) p=true):GS X W F H0 E (.iX i e) p:=by
 cases p<;>first|(exact bq h)|skip
 obtain⟨x,h0,h1⟩:=ah h
 obtain⟨g,as,_,_,rfl,h2⟩:=wd h1
 obtain⟨q,rfl,h3⟩:=eg h2
 obtain⟨yp,rfl⟩:=pU h0
 simp! [zza,zzy] at h3;obtain⟨⟨⟨⟨⟨rfl,h4⟩,h5⟩,h6⟩,h7⟩,h8⟩:=h3
 exact Cz S h6 h7 h4 h5 (aR e S.C q h8).ge (notStar h8)
def sM(S:dJ Γ F W N sc k E X)(i j:Nat)(e:Ci.E)(p:Stmt)(h:dX Γ N sc (.fy i j e) p=true):GS X W F H0 E (.fy i j e) p:=by
 cases p<;>first|(exact bq h)|skip
 obtain⟨⟨x,m,args⟩,e1,h1⟩:=ah h
 obtain⟨a,z2,h2⟩:=eg h1
 obtain⟨⟨y,m2,args2⟩,e3,h3⟩:=ah h2
 obtain⟨q,z4,h4⟩:=eg h3
 have g:=aq h4
 simp! [zza,zzy] at g;obtain⟨⟨⟨⟨⟨⟨⟨⟨g1,g2⟩,g3⟩,g4⟩,g5⟩,g6⟩,g7⟩,g8⟩,g9⟩:=g
 dsimp only at z2 z4 g4 g8;subst z2 z4 g4 g8;obtain⟨np,apos,bz,rfl,hl⟩:=pH e1
 obtain⟨yp,Bu,zo,rfl,hl2⟩:=pH e3
 exact xI S g1 g2 g3 hl g5 g6 g7 hl2 (aR e S.C q g9).ge (notStar g9)
def EX(S:dJ Γ F W N sc k E X)(e:Ci.E)(p:Stmt)(h:dX Γ N sc (.ret e) p=true):GS X W F H0 E (.ret e) p:=by
 cases p<;>first|(exact bq h)|skip
 rename_i v pos;cases v with
 |none=>exact bq h
 |some v=>
  replace h:=aq h
  try simp! [zza] at h
  exact Ge S h.1 (aR e S.C v h.2).ge
def wC(S:dJ Γ F W N sc k E X)(c m:Str)(p:Stmt)(h:dX Γ N sc (.raise c m) p=true):GS X W F H0 E (.raise c m) p:=by
 cases p<;>first|(exact bq h)|skip
 replace h:=aq h
 simp! [Option.any_eq_true,zza,zzy] at h;obtain⟨hn,⟨x,z⟩,h0,⟨⟨⟨h1,h2⟩,h3⟩,h4⟩,h5⟩:=h
 obtain⟨np,j,zp,cp,rfl⟩:=JN h0
 cases h1;cases h2;rename_i fr pos;cases Option.isNone_iff_eq_none.mp hn;exact ze S h3 h4 h5
def B6(S:dJ Γ F W N sc k E X)(p:Stmt)(h:dX Γ N sc (.brk) p=true):GS X W F H0 E (.brk) p:=by
 cases p<;>first|(exact bq h)|skip
 exact Hc
def C7{c:Ci.E}{a b:Ss}{p:Stmt}(h:dX Γ N sc (.ite c a b) p=true):∃q pa pb pos,p=.If q pa pb pos/\eV c=true/\aO Γ N sc c q=true/\cU Γ N sc a pa=true/\cU Γ N sc b pb=true:=by
 cases p<;>first|(exact bq h)|skip
 replace h:=aq h
 try simp! [zza] at h
 exact⟨_,_,_,_,rfl,h.1.1.1,h.1.1.2,h.1.2,h.2⟩
def ED{tg:Tg}{it:I}{b:Ss}{p:Stmt}(h:dX Γ N sc (.bZ tg it b) p=true):∃cM fb pb pos,p=.For cM fb pb [] pos/\fY N sc (λ_=>true) tg cM=true/\CK it=true/\wa Γ N sc cM it fb=true/\cU Γ N sc b pb=true:=by
 cases p<;>first|(exact bq h)|skip
 replace h:=aq h
 try simp! [zza] at h
 cases List.isEmpty_iff.mp h.1.1.1.1;exact⟨_,_,_,_,rfl,h.1.1.1.2,h.1.1.2,h.1.2,h.2⟩
def C2{c:Ci.E}{b:Ss}{p:Stmt}(h:dX Γ N sc (.Kk c b) p=true):∃q pb pos,p=.While q pb [] pos/\eV c=true/\aO Γ N sc c q=true/\cU Γ N sc b pb=true:=by
 cases p<;>first|(exact bq h)|skip
 replace h:=aq h
 try simp! [zza] at h
 cases List.isEmpty_iff.mp h.1.1.1;exact⟨_,_,_,rfl,h.1.1.2,h.1.2,h.2⟩
def DJ{ps:List Stmt}(h:cU Γ N sc .nil ps=true):ps=[]:=by
 cases ps with
 |nil=>rfl
 |cons _ _=>exact bq h
def yM{s:Ci.S}{ss:Ss}{ps:List Stmt}(h:cU Γ N sc (.cons s ss) ps=true):(∃i,s=.cN i/\cU Γ N sc ss ps=true)\/∃q qs,ps=q::qs/\dX Γ N sc s q=true/\cU Γ N sc ss qs=true:=by
 by_cases hz:∃i,s=.cN i
 ·obtain⟨i,rfl⟩:=hz
  exact .inl ⟨i,rfl,h⟩
 ·cases ps with
  |nil=>cases s<;>first|(exact absurd ⟨_,rfl⟩ hz)|(exact bq h)
  |cons p ps=>
   have h2:(dX Γ N sc s p&&cU Γ N sc ss ps)=true:=by
    cases s<;>first|(exact absurd ⟨_,rfl⟩ hz)|(exact h)
   rw [zza] at h2;exact .inr ⟨p,ps,rfl,h2.1,h2.2⟩
mutual
theorem Pr(S:dJ Γ F W N sc k E X):∀(s:Ci.S) (p:Stmt),dX Γ N sc s p=true->GS X W F H0 E s p
 |.expr e,p,h=>zO S e p h
 |.set i e,p,h=>Du S i e p h
 |.own i e,p,h=>DH S i e p h
 |.cN i,p,h=>Em S i p h
 |.app i e,p,h=>Ct S i e p h
 |.mG i e,p,h=>yx S i e p h
 |.put i kk e,p,h=>Cc S i kk e p h
 |.fy i j e,p,h=>sM S i j e p h
 |.iX i e,p,h=>Bw S i e p h
 |.qy i,p,h=>AA S i p h
 |.uM i j e,p,h=>yz S i j e p h
 |.ret e,p,h=>EX S e p h
 |.ite c a b,p,h=>by
  obtain⟨q,pa,pb,pos,rfl,h1,h2,h3,h4⟩:=C7 h
  exact Iy S ((aR c S.C _ h2).gt h1) (kg S a _ h3) (kg S b _ h4)
 |.bZ tg it b,p,h=>by
  obtain⟨cM,fb,pb,pos,rfl,h1,h2,h3,h4⟩:=ED h
  exact JY S h1 h2 (yq it S.C cM fb h3) (gQ h3 _) (kg S b _ h4)
 |.Kk c b,p,h=>by
  obtain⟨q,pb,pos,rfl,h1,h2,h3⟩:=C2 h
  exact Jb S ((aR c S.C _ h2).gt h1) (kg S b _ h3)
 |.raise c m,p,h=>wC S c m p h
 |.brk,p,h=>B6 S p h
theorem kg(S:dJ Γ F W N sc k E X):∀(ss:Ss) (ps:List Stmt),cU Γ N sc ss ps=true->BL X W F H0 E ss ps
 |.nil,ps,h=>by
  cases DJ h;exact B3
 |.cons s ss,ps,h=>by
  rcases yM h with⟨i,e,h2⟩|⟨q,qs,e,h1,h2⟩
  ·have:=Dy (i:=i) (kg S ss ps h2)
   rw [<-e] at this;exact this
  ·rw [e];exact yA (Pr S s q h1) (kg S ss qs h2)
end
end
end Ci
namespace L2
open PySem PySem.Spec PyProof.Rows
def BB{K:zz8}{C:Addr}{T:String}{b:Bool}(h1:PySem.W.kitMeta T=true)(h3:PySem.W.subIn K (.ref C) (.type T)=some b):PySem.W.kitOne K (.ref C) (.type T)=some b:=by
 unfold PySem.W.kitOne;split
 ·rename_i e;cases zzy.mp e
 ·show(if PySem.W.kitMeta T=true then PySem.W.subIn K (.ref C) (.type T) else none)=some b
  rw [if_pos h1];exact h3
def Ih{K:zz8}{h:Heap}{mg:Str->Option Value}{x:Str}{C:Addr}{Th:List Value}{newId:String}(X:K.In h)(hm:mg x=some (.ref C))(q:PySem.W.excIn K C Th newId=true):OwnCls x C Th newId mg h:=by
 constructor
 ·exact hm
 ·unfold PySem.W.excIn at q;split at q
  ·rename_i dd cd sl ho;split at q
   ·rename_i C1 bm1 k0 k1 k2 k3 n1 k5 Pk BV;simp! [zza,zzy,Bool.not_eq_true'] at q;obtain⟨⟨⟨⟨⟨q1,q2⟩,q3⟩,q4⟩,q5⟩,q6⟩:=q
    subst q1 q2;obtain⟨nm,bs,mro,ns,qn,hd,sn,sub,ab,col,del⟩:=cd
    have F4:mro=.ref C1::bm1:=Pk
    have hd2:del=false:=q3
    have RW:PySem.W.nsOkIn K ns=true:=q5
    have UW:PySem.W.nsIn K ns "__init__"=some none:=q6
    subst F4 hd2;obtain⟨ls⟩:=sl
    have Bm:ls=[k0,k1,k2,k3,some (.builtin n1),k5]:=BV
    subst Bm;exact⟨bm1,ns,nm,qn,bs,hd,sn,sub,ab,col,dd,k0,k1,k2,k3,k5,_,X _ _ ho,.of_isNs (PySem.W.isNs_of_in X RW),PySem.W.nsMap_none_of_in X RW UW,PySem.W.tail_of_in X q4⟩
   ·cases q
  ·cases q
end L2
namespace Ci
open PySem L2
noncomputable abbrev yl:List Value:=[.type "ValueError",.type "Exception",.type "BaseException",.type "object"]
structure uJ(K:zz8)(mg:Str->Option Value)(Γ:Pg)(W:Wd):Prop where
 hK:W.K=K
 hm:W.mg=mg
 gs:∀q∈Γ.gs,∃u v,mg q.1=some u/\RelV v u/\∀G,Rep W G q.2 v
 bs:∀g∈Γ.bs,mg g=none
 Om:Γ.cs.contains "ValueError"=false
 cls:∀c∈Γ.cs,∃C,mg c=some (.ref C)
 xc:∀d∈W.xs,∀D,mg d=some (.ref D)->Gg K D/\(∀c∈Γ.cs,∀C,mg c=some (.ref C)->PySem.W.kitOne K (.ref D) (.ref C)=some (c==d||c=="FloorError"))/\PySem.W.kitOne K (.ref D) (.type "ValueError")=some true
 xs:∀c,Γ.rs.contains c=true->c∈W.xs
 rm:∀c,Γ.rs.contains c=true->∃C,mg c=some (.ref C)/\PySem.W.excIn K C yl "ValueError.__new__"=true
 Ob:Γ.cs.contains "FloorError"=true->∀c D,c∈W.xs->mg c=some (.ref D)->∀T,mg "FloorError"=some (.ref T)->PySem.W.exmOne K (.ref D) (.ref T)=some true
 bm:W.ts≠[]->∃bm o,mg "__builtins__"=some (.ref bm)/\bm≠builtinsNs/\bm≠mainGlobals/\K.lookup bm=some o/\o.cls=.type "module"/\o.dict=some builtinsNs/\o.data=.plain
structure Row where
 f:Str
 h:Str
 d:Def
 st:Stmt
 hl:Bool:=false
abbrev dN:Type:=List Row
noncomputable def mn(l:dN):List Str:=l.filterMap λr=>if r.d.rV.isNone then some r.f else none
noncomputable def xY(l:dN):List Hs:=l.filterMap λr=>r.d.rV.map λq=>⟨r.f,r.h,q.1,q.2,r.d.np⟩
noncomputable def tab(l:dN):List (Str×Def):=l.map λq=>(q.f,q.d)
noncomputable def Pg.at(Γ:Pg)(l:dN)(hl:Bool):Pg:={Γ with fs:=mn l,hs:=xY l,hl:=hl}
structure bU(Γ:Pg)(n:Str)(d:Def)(st:Stmt):Prop where
 sc:i8 d.N (d.N.take d.np) (aL st)
 np:d.np<=d.N.length
 bind:∀(kV doc pm:Value) (an:Option Addr) (fc ct:Value) (us:List Value),us.length=(d.N.take d.np).length->bindArgs (PySem.W.fnOf n n (cQ st) (cj st) (aL st) .none kV doc pm an fc ct) ⟨us,[]⟩=pure ((d.N.take d.np).zip us)
 UH:cU Γ d.N (aL st) d.body (cj st)=true
theorem stM{Γ:Pg}{n:Str}{d:Def}{st:Stmt}(b:∀(kV doc pm:Value) (an:Option Addr) (fc ct:Value) (us:List Value),us.length=(d.N.take d.np).length->bindArgs (PySem.W.fnOf n n (cQ st) (cj st) (aL st) .none kV doc pm an fc ct) ⟨us,[]⟩=pure ((d.N.take d.np).zip us))
 (a1:(aL st).kind=.function:=by rfl) (a2:(aL st).isCoroutine=false:=by rfl) (a3:(aL st).isGenerator=false:=by rfl) (a4:d.N.Nodup:=by decide+kernel) (a5:d.N.take (d.N.take d.np).length=d.N.take d.np:=by rfl)
 (a6:∀x∈d.N.take d.np,(aL st).names.lookup x=some .local\/(aL st).names.lookup x=some .cell:=by decide+kernel) (a7:∀y∈(aL st).names,y.2≠.free:=by decide+kernel) (a8:d.np<=d.N.length:=by decide+kernel) (a9:cU Γ d.N (aL st) d.body (cj st)=true:=by decide+kernel):bU Γ n d st:=⟨⟨a1,a2,a3,a4,a5,a6,a7⟩,a8,b,a9⟩
def iM(K:zz8)(c P:Addr):Prop:=∃o vs file tf flags tg O9 text tt,K.lookup c=some o/\o.cls=.type "code"/\o.data=.fields vs/\vs[11]?=some (.ref P)/\vs.getD 11 .none=.ref P/\vs.getD 18 .none=.str file tf/\
 vs.getD 7 .none=.int flags tg/\vs.getD 9 .none=.bool O9/\vs.getD 10 .none=.int text tt/\c≠P
noncomputable def xJ(n:Str):Str:=(n++".<locals>.")++"<lambda>"
def AE(K:zz8)(ts:List (Addr×Str))(hl:Bool)(n:Str)(st:Stmt):Prop:=∃(f:Addr) (oc:Value) (od:Option Addr) (kV doc pm:Value) (an:Option Addr) (fc ct:Value) (ud:Array (Option Value)),
 PySem.W.nsIn K mainGlobals n=some (some (.ref f))/\K.lookup f=some ⟨oc,od,.func (PySem.W.fnOf n n (cQ st) (cj st) (aL st) .none kV doc pm an fc ct),ud⟩/\PySem.W.codeIn K fc n=true/\PySem.W.keepIn K (.ref f)=true/\
 (hl=true->∃c P,fc=.ref c/\iM K c P/\(P,xJ n)∈ts/\∀q',(P,q')∈ts->q'=xJ n)
def Pd{K:zz8}{ts:List (Addr×Str)}{n:Str}{st:Stmt}{f:Addr}{oc:Value}{od:Option Addr}{kV doc pm:Value}{an:Option Addr}{fc ct:Value}{ud:Array (Option Value)}(a:PySem.W.nsIn K mainGlobals n=some (some (.ref f)))
 (l:K.lookup f=some ⟨oc,od,.func (PySem.W.fnOf n n (cQ st) (cj st) (aL st) .none kV doc pm an fc ct),ud⟩) (c:PySem.W.codeIn K fc n=true) (k:PySem.W.keepIn K (.ref f)=true):AE K ts false n st:=⟨f,oc,od,kV,doc,pm,an,fc,ct,ud,a,l,c,k,(λz=>nomatch z)⟩
structure pf(P:Program)(w:World)(K:zz8)(mg:Str->Option Value)(base:Heap)(W:Wd)(F:aN)(k:Nat)(f:Str):Prop where
 ex:∃fa fd ps,fR P w K mg base (f6 P w) k fa fd ps (Ah W F f ps.length none)/\mg f=some (.ref fa)/\PySem.W.keepIn K (.ref fa)=true/\Binds K fd ps []/\∀as,F f as≠.bad->as.length=ps.length
structure Ji(P:Program)(w:World)(K:zz8)(mg:Str->Option Value)(base:Heap)(W:Wd)(F:aN)(k:Nat)(q:Hs):Prop where
 ex:∃fa fd ps,fR P w K mg base (f6 P w) k fa fd ps (Ah W F q.f ps.length (some (q.g,q.idx)))/\mg q.h=some (.ref fa)/\PySem.W.keepIn K (.ref fa)=true/\Binds K fd ps []/\ps.length=q.np
section
variable{P:Program}{w:World}{K:zz8}{mg:Str->Option Value}{base:Heap}{Γ:Pg}{W:Wd}
def xZ{c p:Addr}(KB:K.In base)(h:iM K c p):PySem.W.CodeHd base c p:=by
 obtain⟨o,vs,file,tf,flags,tg,O9,text,tt,e,r⟩:=h
 exact⟨o,vs,file,tf,flags,tg,O9,text,tt,KB _ _ e,r⟩
theorem GP(M:uJ K mg Γ W)(KB:K.In base){F:aN}{k:Nat}{N ps:List Str}{qual:Str}{sc:Scope}(S:i8 N ps sc)(hF:∀f,Γ.fs.contains f=true->pf P w K mg base W F k f)(hH:∀q∈Γ.hs,Ji P w K mg base W F k q)(hA:∀g as,F g as≠.bad->Γ.fs.contains g=true\/gf g=true){f:Addr}{cd:Value}
 (hL:Γ.hl=true->∃c p,cd=.ref c/\iM K c p/\(p,xJ qual)∈W.ts/\∀q',(p,q')∈W.ts->q'=xJ qual) {A:Around} {outer:List Env} {s:Shared} {H:Hp} {E:XK} (hr:d8 (k+1) (A.deeper (PyProof.Rows.envOfC qual sc (zz9 s) f cd))):
 dJ Γ F W N sc k E (dj (f6 P w) P w K mg base N qual sc f cd A outer s H E) where
 C:=⟨rfl,rfl,rfl,S.nd,M.hK,M.hm,M.gs,M.bs,hr,λg hg=>⟨(hF g hg).ex⟩,M.Om,M.cls,M.xc,λq hq=>⟨(hH q hq).ex⟩,hA,λz=>by
  obtain⟨c,p,e1,e2,e3,e4⟩:=hL z
  exact⟨c,p,e1,xZ KB e2,e3,e4⟩,λz=>by
  obtain⟨c,p,e1,e2,e3,e4⟩:=hL z
  obtain⟨bm,o,b1,b2,b3,b4,b5⟩:=M.bm (λy=>by rw [y] at e3;cases e3)
  exact⟨bm,o,b1,b2,b3,KB _ _ b4,b5⟩,λ_ _=>rfl⟩
 fn:=λ_=>rfl
 own:=PassesOwn.leaving
 pass:=Lu
 kind:=S.kind
 LS:=rfl
 frame:=rfl
 xs:=M.xs
 rm:=λc hc=>let⟨C,h,_⟩:=M.rm c hc;⟨C,h⟩
 rz:=λc z j np zp cp pos h1 h2 h3=>by
  obtain⟨C,hC,hx⟩:=M.rm c h1
  have hg:Gl (dj (f6 P w) P w K mg base N qual sc f cd A outer s H E) c:=zzy.mp h2
  refine L2.PS.imp (yt hg (Ih KB hC hx) PySem.F.excBase_ValueError (bp Aq cw) rfl rfl (fV h3).1) λD σ H1 h=>⟨(show 1<=sizeLine by decide),λe he=>h C e hC he⟩
 Ob:=M.Ob
def rJ{H G:Hp}{N:List Str}{as:List PV}{vs:List V}(sg:av G H)(tb:cW W G H)(l:ag W G as vs)(hn:as.length<=N.length):SR W H (as.map .val++List.replicate (N.length-as.length) .no) (start N vs) G H:=by
 have hl:=l.length
 unfold L2.start;refine⟨by simp;omega,sg,gA.refl _,λi s e=>?_,λi j p q a e1 _ _ _=>?_,tb,tb⟩
 ·by_cases hi:i<as.length
  ·rw [zzr (by simpa using hi),zzQ] at e;obtain⟨p,hp,rfl⟩:=zzJ.mp e
   obtain⟨v,hv,rv⟩:=l.lZ hp
   exact⟨some v,by rw [zzr (by simpa using (show i<vs.length by omega)),zzQ,hv];rfl,v,rfl,rv⟩
  ·rw [zzs (by simpa using hi),List.getElem?_replicate] at e;split at e
   ·rename_i h2;cases e;rw [zzl] at h2;exact⟨none,by rw [zzs (by simp;omega),List.getElem?_replicate,if_pos (by rw [zzl];omega)],trivial⟩
   ·cases e
 ·exfalso
  by_cases hi:i<as.length
  ·rw [zzr (by simpa using hi),zzQ] at e1;obtain⟨p,hp,e⟩:=zzJ.mp e1
   cases e
  ·rw [zzs (by simpa using hi),List.getElem?_replicate] at e1;split at e1<;>cases e1
def SR.L0{H0 G H:Hp}{env:Sl}{σ:St}{g:Str}{idx:List Nat}{dI:List PV}{v:V}(i:Nat)(r:SR W H0 env σ G H)(h:wZ W G g idx dI v):SR W H0 (env.set i (.fn g idx dI)) (σ.set i (some v)) G H where
 len:=by simpa using r.len
 sub:=r.sub
 base:=r.base
 tab:=r.tab
 l8:=r.l8
 slot:=λj s e=>by
  by_cases hj:i=j
  ·subst hj;have bX:i<env.length:=by
    have:=(zzH.mp e).1
    simpa using this
   rw [zzo bX] at e;cases e;exact⟨some v,zzo (by rw [<-r.len];exact bX),v,rfl,h⟩
  ·rw [zzS hj] at e;obtain⟨o,h1,h2⟩:=r.slot j s e
   exact⟨o,by rw [zzS hj];exact h1,h2⟩
 apart:=λa b q q' ad e1 e2 e3 e4=>by
  have ne:∀{c:Nat} {q:PV},(env.set i (.fn g idx dI))[c]?=some (.own q)->i≠c:=λ{c q} e z=>by
   subst z;have bX:i<env.length:=by
    have:=(zzH.mp e).1
    simpa using this
   rw [zzo bX] at e;cases e
  have n1:=ne e1
  have n2:=ne e2
  rw [zzS n1] at e1 e3;rw [zzS n2] at e2 e4;exact r.apart a b q q' ad e1 e2 e3 e4
def v5{α:Type}{l r:List α}{a b:α}:(l++a::r).set l.length b=l++b::r:=by
 rw [List.set_append_right _ _ (zzE _),Nat.sub_self];rfl
def xV{d:Def}{H G:Hp}{as:List PV}{vs:List V}(UI:d.np<=d.N.length)(sg:av G H)(tb:cW W G H)(l:Bd W G d.rV as vs)(hv:vs.length=d.np):bL d as=true/\SR W H (bJ d as) (start d.N vs) G H:=by
 unfold bL bJ;cases hc:d.rV with
 |none=>
  rw [hc] at l;have l:ag W G as vs:=l
  exact⟨by rw [<-l.length,hv];simp,rJ sg tb l (by rw [<-l.length,hv];exact UI)⟩
 |some q=>
  rw [hc] at l;obtain⟨vv,dI,BU,v,rfl,rfl,l1,cr⟩:=l
  have Nk:=l1.length
  have hn:BU.length=d.np-1/\0<d.np:=by rw [zzM] at hv;simp at hv;omega
  have ha:vv.length=d.np-1:=by omega
  refine⟨by simp;omega,?_⟩;have h0:=rJ (N:=d.N) sg tb l1 (by omega)
  have h1:=h0.L0 vv.length cr
  have e1:(vv.map Slot.val++List.replicate (d.N.length-vv.length) Slot.no).set vv.length (.fn q.1 q.2 dI)=((vv++dI).take (d.np-1)).map .val++.fn q.1 q.2 ((vv++dI).drop (d.np-1))::List.replicate (d.N.length-d.np) Slot.no:=by
   rw [<-ha,List.take_left',List.drop_left',show d.N.length-vv.length=(d.N.length-d.np)+1 by omega,List.replicate_succ]
   ·have:=v5 (l:=vv.map Slot.val) (r:=List.replicate (d.N.length-d.np) Slot.no) (a:=Slot.no) (b:=.fn q.1 q.2 dI)
    rw [zzl] at this;exact this
   ·rfl
   ·rfl
  have e2:(start d.N BU).set vv.length (some v)=start d.N (BU++[v]):=by
   unfold L2.start;rw [zzM,List.length_singleton,show d.N.length-BU.length=(d.N.length-(BU.length+1))+1 by omega,List.replicate_succ,<-Nk];have:=v5 (l:=BU.map some) (r:=List.replicate (d.N.length-(BU.length+1)) none) (a:=none) (b:=some v)
   rw [zzl] at this;rw [this];simp
  rw [e1,e2] at h1;exact h1
def FN(M:uJ K mg Γ W)(KB:K.In base){F:aN}{k:Nat}{n nf:Str}{d:Def}{st:Stmt}{fa:Addr}{fd:FuncData}(St:bU Γ n d st)(Fu:NW K n n st fa fd)(hF:∀f,Γ.fs.contains f=true->pf P w K mg base W F k f)(hH:∀q∈Γ.hs,Ji P w K mg base W F k q)(hA:∀g as,F g as≠.bad->Γ.fs.contains g=true\/gf g=true)
 (hL:Γ.hl=true->∃c p,fd.code=.ref c/\iM K c p/\(p,xJ n)∈W.ts/\∀q',(p,q')∈W.ts->q'=xJ n):
 fR P w K mg base (f6 P w) (k+2) fa fd (d.N.take d.np) (Ah W (λ_ as=>au F d as) nf (d.N.take d.np).length d.rV):=by
 have hlen:(d.N.take d.np).length=d.np:=by rw [List.length_take];have:=St.np;omega
 obtain⟨oc,od,kV,doc,pm,an,fc,ct,ud,rfl,lk,AH⟩:=Fu.ex
 refine ME lk AH St.sc (λvs H Q E h=>h.1) λA outer s H vs Q E hr h=>?_
 obtain⟨hl,G,as,sg,tb,l,o⟩:=h
 rw [hlen] at hl;obtain⟨ar,sr⟩:=xV St.np sg tb l hl
 refine⟨RE W F H E d.body,kg (GP M KB St.sc hF hH hA hL hr) d.body _ St.UH,G,bJ d as,sr,?_⟩;dsimp only at o;unfold au at o;rw [if_pos ar] at o;cases r:az F d.body (bJ d as) with
 |bad=>rw [r] at o;exact o
 |exc c=>rw [r] at o;exact o
 |ok fl=>
  rw [r] at o;cases fl with
  |nx env=>exact λσ' G' H' sr g=>o .ay G' H' g .n
  |rt p=>exact λv G' H' rv g=>o v G' H' g rv
  |bk env=>exact o.elim
  |ct env=>exact o.elim
def AllK(K:zz8)(ts:List (Addr×Str))(Γ:Pg):dN->Prop
 |[]=>True
 |r::l=>AE K ts r.hl r.h r.st/\bU (Γ.at l r.hl) r.h r.d r.st/\((l.map (·.f)).contains r.f=false/\(r.d.rV.isNone==!gf r.f)=true/\(r.d.rV.isNone=true->r.f=r.h))/\AllK K ts Γ l
def vD(M:uJ K mg Γ W)(l:dN)(hl:Bool):uJ K mg (Γ.at l hl) W:=⟨M.hK,M.hm,M.gs,M.bs,M.Om,M.cls,M.xc,M.xs,M.rm,M.Ob,M.bm⟩
def pf.mono{F:aN}{j k:Nat}{f:Str}(h:pf P w K mg base W F j f)(hk:j<=k):pf P w K mg base W F k f:=by
 obtain⟨fa,fd,ps,h1,h2⟩:=h.ex
 exact⟨fa,fd,ps,h1.mono hk,h2⟩
def lA{F F':aN}{f f':Str}{n:Nat}{q:Option (Str×List Nat)}(e:∀as,F' f' as=F f as):Ah W F' f' n q=Ah W F f n q:=by
 funext vs H Q E
 unfold Ah;simp! [e]
def pf.swap{F F':aN}{k:Nat}{f:Str}(h:pf P w K mg base W F k f)(e:∀as,F' f as=F f as):pf P w K mg base W F' k f:=by
 obtain⟨fa,fd,ps,h1,h2,h3,h4,h5⟩:=h.ex
 refine⟨fa,fd,ps,?_,h2,h3,h4,λas hn=>h5 as (by rw [<-e];exact hn)⟩
 rw [lA e];exact h1
def Ji.swap{F F':aN}{j k:Nat}{q:Hs}(h:Ji P w K mg base W F j q)(hk:j<=k)(e:∀as,F' q.f as=F q.f as):Ji P w K mg base W F' k q:=by
 obtain⟨fa,fd,ps,h1,h2,h3,h4,h5⟩:=h.ex
 refine⟨fa,fd,ps,?_,h2,h3,h4,h5⟩;rw [lA e];exact h1.mono hk
def kh{r:Row}{l:dN}{g:Str}(h:(g==r.f)=false)(as:List PV):den (tab (r::l)) g as=den (tab l) g as:=by
 show(if(g==r.f)=true then _ else _)=_
 rw [h]
 rfl
def qt{r:Row}{l:dN}(as:List PV):den (tab (r::l)) r.f as=au (den (tab l)) r.d as:=by
 show(if(r.f==r.f)=true then _ else _)=_
 rw [beq_self_eq_true]
 rfl
theorem oN:∀(l:dN) {ts:List (Addr×Str)},AllK K ts Γ l->∀g as,den (tab l) g as≠.bad->(mn l).contains g=true\/gf g=true
 |[],_,_,g,as,h=>absurd rfl h
 |r::l,ts,⟨_,_,⟨_,hn,_⟩,hr⟩,g,as,h=>by
  by_cases e:(g==r.f)=true
  ·have e2:=zzy.mp e
   subst e2;cases hc:r.d.rV with
   |none=>
    left
    unfold mn;rw [List.filterMap_cons,hc];simp
   |some q=>
    right
    rw [hc] at hn
    simpa using hn
  ·rw [kh (by simpa using e)] at h;rcases oN l hr g as h with z|z
   ·left
    unfold mn at z⊢;rw [List.filterMap_cons];split
    ·exact z
    ·rw [List.contains_cons,z,Bool.or_true]
   ·exact .inr z
theorem AJ(M:uJ K mg Γ W)(KB:K.In base)(G:base.Ns mainGlobals mg):∀(l:dN),AllK K W.ts Γ l->(∀f,(mn l).contains f=true->pf P w K mg base W (den (tab l)) (2*l.length) f)/\∀q∈xY l,Ji P w K mg base W (den (tab l)) (2*l.length) q
 |[],_=>⟨λf hf=>by simp [mn] at hf,λq hq=>by simp [xY] at hq⟩
 |r::l,fS=>by
  obtain⟨he,hs,⟨hfr,hnm,hfh⟩,hr⟩:=fS
  obtain⟨ih,ihH⟩:=AJ M KB G l hr
  obtain⟨fa,oc,od,kV,doc,pm,an,fc,ct,ud,e1,e2,e3,e4,e5⟩:=he
  have Fu:=zj (st:=r.st) e2 e3 e4
  have ok:=FN (P:=P) (w:=w) (nf:=r.f) (vD M l r.hl) KB (k:=2*l.length) hs Fu (λg hg=>ih g hg) (λq hq=>ihH q hq) (oN l hr) e5
  have wW:∀g,(l.map (·.f)).contains g=true->(g==r.f)=false:=λg hg=>by
   cases z:g==r.f with
   |false=>rfl
   |true=>rw [zzy.mp z,hfr] at hg;cases hg
  have sp:Ah W (λ_ as=>au (den (tab l)) r.d as) r.f (r.d.N.take r.d.np).length r.d.rV=Ah W (den (tab (r::l))) r.f (r.d.N.take r.d.np).length r.d.rV:=lA λas=>(qt as).symm
  rw [sp] at ok;have hlen:(r.d.N.take r.d.np).length=r.d.np:=by rw [List.length_take];have:=hs.np;omega
  have ml:∀f,(mn l).contains f=true->(l.map (·.f)).contains f=true:=λf hf=>by
   rw [zzn] at hf⊢;unfold mn at hf;obtain⟨x,hx,e⟩:=zz1.mp hf
   split at e
   ·cases e;exact List.mem_map_of_mem (f:=(·.f)) hx
   ·cases e
  refine⟨λf hf=>?_,λq hq=>?_⟩
  ·by_cases vd:(f==r.f)=true/\r.d.rV=none
   ·obtain⟨h1,h2⟩:=vd
    have e:=zzy.mp h1
    subst e;refine⟨fa,_,r.d.N.take r.d.np,by rw [h2] at ok;exact ok,?_,e4,Fu.binds hs.bind,λas hn=>?_⟩
    ·rw [hfh (by rw [h2];rfl)];exact PySem.W.mg_of KB G e1
    ·rw [qt] at hn;unfold au at hn
     by_cases ha:bL r.d as=true
     ·unfold bL at ha;rw [h2] at ha;rw [hlen];exact zzy.mp ha
     ·rw [if_neg ha] at hn;exact absurd rfl hn
   ·have Sy:(mn l).contains f=true:=by
     unfold mn at hf⊢;rw [List.filterMap_cons] at hf;split at hf
     ·exact hf
     ·rename_i y hy;split at hy
      ·rename_i hc;cases hy;rw [List.contains_cons,zzt] at hf;rcases hf with z|z
       ·exact absurd ⟨z,Option.isNone_iff_eq_none.mp hc⟩ vd
       ·exact z
      ·cases hy
    exact((ih f Sy).mono (by rw [zzL];omega)).swap λas=>kh (wW f (ml f Sy)) as
  ·unfold xY at hq;rw [List.filterMap_cons] at hq;have tail:q∈xY l->Ji P w K mg base W (den (tab (r::l))) (2*(r::l).length) q:=λhq=>by
    refine(ihH q hq).swap (by rw [zzL];omega) λas=>kh (wW q.f ?_) as
    unfold xY at hq;obtain⟨x,hx,e⟩:=zz1.mp hq
    obtain⟨y,_,rfl⟩:=zzJ.mp e
    rw [zzn];exact List.mem_map_of_mem (f:=(·.f)) hx
   cases hc:r.d.rV with
   |none=>rw [hc] at hq;exact tail hq
   |some y=>
    rw [hc] at hq;rcases zzm.mp hq with z|z
    ·subst z;rw [hc] at ok;exact⟨fa,_,r.d.N.take r.d.np,ok,PySem.W.mg_of KB G e1,e4,Fu.binds hs.bind,hlen⟩
    ·exact tail z
end
end Ci
namespace L2
open PySem PySem.Spec PyProof.Rows
def xA{P:Program}{w:World}{K:zz8}{mg mb:Str->Option Value}{CX:x9}{k:Nat}{fa a:Addr}{fd:FuncData}{x:Str}{sp:Sp}{s₁:Shared}{vs:List Value}{ns:List Int}(mK:List Addr)
 (KX:K.In s₁.heap) (NA:s₁.heap.Ns mainGlobals mg) (hb:s₁.heap.Ns builtinsNs mb) (Ux:∀x:Str,x≠"__name__"->mb x=bootBuiltins x) (EB:s₁.heap.NoLimit) (hg:s₁.gens=#[])
 (hT:∀p∈mK,s₁.heap.get? p=some (PySem.W.tabObj #[])) (hC:∀p∈mK,∃c,Ci.iM K c p) (Vc:∀p∈mK,K.lookup p=none)
 (ha:s₁.heap.get? a=some {cls:=.type "list",data:=.seq vs.toArray}) (hi:IntsAre vs ns) (hl:ns.length<=sizeLine) (hr:d8 k callerA)
 (F:∀base:Heap,K.In base->base.Ns mainGlobals mg->fR P w K mg base CX k fa fd [x] sp) (ML:∀(s:Shared) (u:Value),BindsTo s fd ⟨[u],[]⟩ [(x,u)])
 (Km:∀H:Hp,(∀p∈mK,H p=some (.fX #[]))->Ci.mV K H a (ns.map V.int)->sp [.ref a] H (λv _=>v=.bl true) λ_ _ _=>False)
 (QS:∀H e s',CX [] H s₁ (λ_ _ _=>False) e s'->False):
 codeAny (model P w) callerA (.call (.ref fa) ⟨[.ref a],[]⟩) (λr s'=>r=.ok (.ret (.bool true))/\OldK s₁.heap s'.heap/\s'.os=s₁.os/\AllBare s'.gens) s₁:=by
 have rv:=nQ hi
 have KS:=hi.length
 have aT:a∉mK:=λz=>by have:=hT a z;rw [ha] at this;cases this
 have core:∀H:Hp,(∀p∈mK,H p=some (.fX #[]))->Ci.mV K H a (ns.map V.int)->gD P w H s₁.heap->(∀b,H b≠none->b∈mK\/b=a/\∃o xs,H b=some (.cN o xs))->(H a≠none->K.lookup a=none)->
  codeAny (model P w) callerA (.call (.ref fa) ⟨[.ref a],[]⟩) (λr s'=>r=.ok (.ret (.bool true))/\OldK s₁.heap s'.heap/\s'.os=s₁.os/\AllBare s'.gens) s₁:=by
  intro H hO hS bj hA hK;have vA:∀{b:Addr} {o:Obj},s₁.heap.get? b=some o->H b=none->(o6 s₁.heap H).get? b=some o:=λe n=>yR e n
  have MA:∀{b:Addr} {o:Obj} {es:Array DictEntry} {ep:Nat},s₁.heap.get? b=some o->o.data=.dict es ep->H b=none:=λ{b o es ep} e d=>by
   cases q:H b with
   |none=>rfl
   |some u=>
    rcases hA b (by rw [q];simp) with z|⟨z,_⟩
    ·rw [hT b z] at e;cases e;cases d
    ·subst z;rw [ha] at e;cases e;have d':Data.seq vs.toArray _=Data.dict es ep:=d
     cases d'
  have Oh:∀{b:Addr} {m:Str->Option Value},s₁.heap.Ns b m->(o6 s₁.heap H).Ns b m:=λ{b m} ⟨o,es,ep,e,d,r⟩=>⟨o,es,ep,vA e (MA e d),d,r⟩
  have SQ:K.In (o6 s₁.heap H):=λb o e=>vA (KX b o e) (by
   cases q:H b with
   |none=>rfl
   |some u=>
    rcases hA b (by rw [q];simp) with z|⟨z,_⟩
    ·rw [Vc b z] at e;cases e
    ·subst z;rw [hK (by rw [q];simp)] at e;cases e)
  have hM:Mod K mg (o6 s₁.heap H):=⟨SQ,Oh NA,⟨mb,Oh hb,Ux⟩,let⟨mc,h1,h2⟩:=EB;⟨mc,Oh h1,h2⟩⟩
  have e0:Ca P w K mg (o6 s₁.heap H) callerA [] s₁ H:=⟨rfl,hM,λb o e=>CS e,Nat.le_of_eq (wA _ _),trivial,λb hb=>absurd (show b∈([]:List Addr) from hb) (by simp),bj,.of_eq hg⟩
  refine codeAny_mono ((F _ SQ (Oh NA)).run callerA [] s₁ H ⟨[.ref a],[]⟩ [.ref a] [.ref a] _ _ hr e0 (ML s₁ (.ref a)) (.cons rfl .nil) (Km H hO hS)) λr s' h=>?_
  cases r with
  |error e=>exact(QS H e s' h).elim
  |ok fl=>
   cases fl with
   |next=>exact zzk h
   |brk=>exact zzk h
   |cont=>exact zzk h
   |ret u=>
    obtain⟨v,H',os,bare,un,Cb,r',q⟩:=h
    have q':v=.bl true:=q
    subst q';obtain rfl:u=Value.bool true:=r'
    have key:∀b o,s₁.heap.get? b=some o->s'.heap.get? b=some o\/b∈mK/\∃m,s'.heap.get? b=some (PySem.W.tabObj m):=λb o e=>by
     cases q:H b with
     |none=>exact .inl (un.keep b o e q (by intro z;exact absurd (show b∈([]:List Addr) from z) (by simp)) (by simp))
     |some u=>
      rcases hA b (by rw [q];simp) with z|⟨z,ob,xs,z2⟩
      ·right
       obtain⟨m,hm⟩:=un.iE b _ (hO b z)
       exact⟨z,_,Cb b _ hm⟩
      ·left
       have z3:=un.iF b ob _ z2
       obtain⟨e1,_⟩:=bj b _ z2
       obtain⟨e2,_⟩:=Cb b _ z3
       rw [e] at e1;cases e1;exact e2
    refine⟨rfl,⟨λb o e=>?_,λb o e=>?_⟩,os,bare⟩
    ·rcases key b o e with z|⟨z,m,z2⟩
     ·exact .inl z
     ·have e':=hT b z
      rw [e] at e';cases e';obtain⟨c,o',me,_,_,_,_,_,_,_,k1,k2,k3,k4,_⟩:=hC b z
      have tb:s₁.heap.TableAt c b #[]:=⟨⟨o',me,KX _ _ k1,k2,k3,k4⟩,e⟩
      exact .inr (.inl ⟨tb.isCodeTable,rfl,#[],m,rfl,by rw [z2];simp⟩)
    ·rcases key b o e with z|⟨_,m,z⟩
     ·exact⟨_,z⟩
     ·exact⟨_,z⟩
 cases hk:K.lookup a with
 |some o=>
  have e:=KX a o hk
  rw [ha] at e;cases e;refine core (λb=>if b∈mK then some (.fX #[]) else none) (λp hp=>if_pos hp) (.inr ⟨vs.toArray,_,hk,by rw [zzC,KS];exact hl,by simpa using rv⟩) (λb u z=>?_) (λb z=>?_) λz=>absurd (if_neg aT) z
  ·by_cases hb:b∈mK
   ·have z':=(if_pos hb).symm.trans z
    cases z';exact hT b hb
   ·have z':=(if_neg hb).symm.trans z
    cases z'
  ·by_cases hb:b∈mK
   ·exact .inl hb
   ·exact absurd (if_neg hb) z
 |none=>
  refine core (λb=>if b=a then some (.cN {cls:=.type "list",data:=.seq vs.toArray} (.lst (ns.map V.int))) else if b∈mK then some (.fX #[]) else none) (λp hp=>?_) (.inl (.inr ⟨{cls:=.type "list",data:=.seq vs.toArray},if_pos rfl⟩)) (λb u z=>?_) (λb z=>?_) λ_=>hk
  ·show(if p=a then _ else _)=_
   rw [if_neg (show¬p=a from λz=>aT (by rw [<-z];exact hp)),if_pos hp]
  ·by_cases hb:b=a
   ·have z':=(if_pos hb).symm.trans z
    cases z';subst hb;exact⟨ha,by rw [zzl];exact hl,vs,_,rv,ha⟩
   ·replace z:=(if_neg hb).symm.trans z
    by_cases hc:b∈mK
    ·have z':=(if_pos hc).symm.trans z
     cases z';exact hT b hc
    ·have z':=(if_neg hc).symm.trans z
     cases z'
  ·by_cases hb:b=a
   ·exact .inr ⟨hb,_,_,if_pos hb⟩
   ·by_cases hc:b∈mK
    ·exact .inl hc
    ·exact absurd ((if_neg hb).trans (if_neg hc)) z
def IU{l:PySem.W.OpenLaw}{n k:Nat}{q:Program}{loose:List Str}{XP:(Str->Option Value)->Heap->Prop}{YP:World->Heap->Prop}{d:DefRec}{K:Params->zz8}{CX:World->x9}{sp:World->Sp}{x:Str}(mK:List Addr)
 (hn:l.most=some n) (HW:n<=sizeLine) (Mz:d.params.defaults=[]) (hr:d8 k callerA)
 (hY:∀(w:World) (h:Heap),YP w h->(K w.params).In h/\∀p∈mK,h.get? p=some (PySem.W.tabObj #[])) (hC:∀(w:World),∀p∈mK,(∃c,Ci.iM (K w.params) c p)/\(K w.params).lookup p=none)
 (F:∀(w:World) (mg:Str->Option Value) (fa:Addr) (h:Heap),(K w.params).In h->h.Ns mainGlobals mg->mg d.name=some (.ref fa)->
  ∃fd:FuncData,(∀(s:Shared) (u:Value),BindsTo s fd ⟨[u],[]⟩ [(x,u)])/\
   ∀base:Heap,(K w.params).In base->base.Ns mainGlobals mg->fR l.prog w (K w.params) mg base (CX w) k fa fd [x] (sp w))
 (Km:∀(w:World) (H:Hp) (a:Addr) (ns:List Int),ns.length<=n->(∀p∈mK,H p=some (.fX #[]))->Ci.mV (K w.params) H a (ns.map V.int)->sp w [.ref a] H (λv _=>v=.bl true) λ_ _ _=>False)
 (QS:∀(w:World) (H:Hp) (s:Shared) (e:Value) (s':Shared),CX w [] H s (λ_ _ _=>False) e s'->False):
 PySem.W.WalkO q loose XP YP l.row.toRowW d [] (λf vs=>PySem.call f vs):=by
 refine Att.qF hn Mz λw s₀ s₁ mg mb fa o pm cd doc a vs ns G Y ho hd AH hmg hobj hints hlen hg=>?_
 obtain⟨KX,hT⟩:=hY w _ Y
 obtain⟨fd,hb,hF⟩:=F w mg fa _ KX G.T.g hmg
 exact xA mK KX G.T.g G.T.b G.T.builtins G.T.nolimit hg hT (λp hp=>(hC w p hp).1) (λp hp=>(hC w p hp).2) hobj hints (zzU hlen HW) hr hF hb (λH hO hS=>Km w H a ns hlen hO hS) λH e s'=>QS w H s₁ e s'
end L2
namespace Ci
open PySem L2
theorem ju{W:Wd}{G:Hp}:∀(ns:List Int),ag W G (ns.map PV.int) (ns.map V.int)
 |[]=>.nil
 |n::ns=>.cons .i (ju ns)
noncomputable def nv(H:Hp):Hp:=λb=>match H b with
 |some (.fX _)=>none
 |o=>o
def sL(H:Hp):av (nv H) H:=λb o e=>by
 unfold nv at e;split at e
 ·cases e
 ·exact e
def qk{H:Hp}{b:Addr}{o:HO}(h:H b=some o)(n:∀ps,o≠.fX ps):nv H b=some o:=by
 unfold nv;rw [h];cases o with
 |fX ps=>exact absurd rfl (n ps)
 |_=>rfl
noncomputable def KY(K:zz8)(mK:List Addr):Sp:=λvs H Q _=>∃(a:Addr) (ns:List Int),vs=[.ref a]/\(∀p∈mK,H p=some (.fX #[]))/\mV K H a (ns.map V.int)/\ns.length<=63/\∀H',Q (.bl true) H'
def walk{l:PySem.W.OpenLaw}{q:Program}{loose:List Str}{XP:(Str->Option Value)->Heap->Prop}{YP:World->Heap->Prop}{d:DefRec}{K:Params->zz8}(rest:dN)(Γ:Pg)(x:Str)(dl:Def)(xs:List Str)(ts:List (Addr×Str))(st:Stmt)
 (hx:dl.N.take dl.np=[x]) (Kq:dl.rV=none) (Um:d.name="law") (hn:l.most=some 63) (Mz:d.params.defaults=[]) (hr:d8 (2*rest.length+2) callerA) (hY:∀(w:World) (h:Heap),YP w h->(K w.params).In h/\∀p∈ts.map (·.1),h.get? p=some (PySem.W.tabObj #[]))
 (hC:∀(w:World),∀p∈ts.map (·.1),(∃c,iM (K w.params) c p)/\(K w.params).lookup p=none)
 (hM:∀(w:World) (mg:Str->Option Value) (h:Heap),(K w.params).In h->h.Ns mainGlobals mg->uJ (K w.params) mg Γ ⟨K w.params,mg,xs,ts⟩)
 (hE:∀w:World,AE (K w.params) ts false "law" st) (hS:bU (Γ.at rest false) "law" dl st)
 (hA:∀w:World,AllK (K w.params) ts Γ rest)
 (PY:∀ns:List Int,ns.length<=63->au (den (tab rest)) dl [.lst (ns.map .int)]=.ok (.bl true)):
 PySem.W.WalkO q loose XP YP l.row.toRowW d [] (λf vs=>PySem.call f vs):=by
 refine L2.IU (n:=63) (k:=2*rest.length+2) (x:=x) (CX:=λw=>f6 l.prog w) (sp:=λw=>KY (K w.params) (ts.map (·.1))) (ts.map (·.1)) hn (by decide) Mz hr hY hC ?_ ?_ ?_
 ·intro w mg fa h KX G hmg;rw [Um] at hmg;obtain⟨f,oc,od,kV,doc,pm,an,fc,ct,ud,e1,e2,e3,e4,e5⟩:=hE w
  have hf:fa=f:=by
   have z:=hmg.symm.trans (PySem.W.mg_of KX G e1)
   cases z
   rfl
  subst hf;refine⟨PySem.W.fnOf "law" "law" (cQ st) (cj st) (aL st) .none kV doc pm an fc ct,λs u=>?_,λbase KB GB=>?_⟩
  ·have hb:=hS.bind kV doc pm an fc ct [u]
   rw [hx] at hb;exact .of_eq (hb rfl)
  ·have M:=hM w mg base KB GB
   obtain⟨a1,a2⟩:=AJ (P:=l.prog) (w:=w) M KB GB rest (hA w)
   have ok:=FN (P:=l.prog) (w:=w) (nf:="law") (vD M rest false) KB (k:=2*rest.length) hS (zj (st:=st) e2 e3 e4) (λg hg=>a1 g hg) (λq hq=>a2 q hq) (oN rest (hA w)) (λz=>nomatch z)
   rw [hx] at ok;refine ok.imp λvs H Q E h=>?_
   obtain⟨a,ns,rfl,ht,hl,hlen,q⟩:=h
   refine⟨rfl,nv H,[.lst (ns.map .int)],sL H,λP q m=>?_,?_,?_⟩
   ·have hP:=ht P (List.mem_map_of_mem (f:=(·.1)) m)
    refine⟨by unfold nv;rw [hP],#[],hP,trivial,λpos cv e=>nomatch e⟩
   ·rw [Kq];refine ag.cons (.l ?_ (ju ns)) .nil;rcases hl with(h|⟨o,h⟩)|h
    ·exact .inl (.inl (qk h (λ_ z=>nomatch z)))
    ·exact .inl (.inr ⟨o,qk h (λ_ z=>nomatch z)⟩)
    ·exact .inr h
   ·dsimp only;rw [PY ns hlen];intro v G' H' _ rv;simp! [Rep] at rv;subst rv;exact q H'
 ·intro w H a ns hlen hO sC;exact⟨a,ns,rfl,hO,sC,hlen,λ_=>rfl⟩
 ·intro w H s e s' h;obtain⟨a,C,t,vs,H',B,rfl,F⟩:=h
  exact F.ends
end Ci
namespace Hd
open PySem PySem.W PySem.Calls
noncomputable def JW(st:SharedT->Thread->Option (SharedT×Thread))(ok:Thread->Bool)(n:Nat):SharedT->Thread->Option SharedT:=
 @Nat.rec (λ_=>SharedT->Thread->Option SharedT) (λ_ _=>none) (λ_ ih s t=>match through t with
  |true=>some s
  |false=>match ok t with
   |false=>none
   |true=>match st s t with
    |some (s',t')=>ih s' t'
    |none=>none) n
theorem nY{tb:String->Option Builtin}{p:Program}{w:World}{n₀:Nat}{ann:Option Value}:∀{n:Nat} {s s':SharedT} {t:Thread},JW (stepT (denote tb) p w) (stepOk n₀ ann) n s t=some s'->topRun tb p w n₀ ann n s.abs t=some s'.abs
 |0,_,_,_,h=>by cases h
 |n+1,s,s',t,h=>by
  have h:(match through t with
   |true=>some s
   |false=>match stepOk n₀ ann t with
    |false=>none
    |true=>match stepT (denote tb) p w s t with
     |some (s',t')=>JW (stepT (denote tb) p w) (stepOk n₀ ann) n s' t'
     |none=>none)=some s':=h
  unfold topRun;cases ht:through t with
  |true=>rw [ht] at h;cases h;rfl
  |false=>
   rw [ht] at h;cases hk:stepOk n₀ ann t with
   |false=>rw [hk] at h;cases h
   |true=>
    rw [hk] at h;cases hs:stepT (denote tb) p w s t with
    |none=>rw [hs] at h;cases h
    |some r=>obtain⟨s₂,t₂⟩:=r;rw [hs] at h;rw [stepT_spec hs];exact nY h
noncomputable def treeOf(l:List Obj):BT:=(l.foldl (λ(T,i) o=>(BT.ins T i o,i+1)) (BT.nil,0)).1
def D1{p q:Program}{loose:List Str}{Xt:Shared->Bool}{α:Type}{Yf:Shared->α}{Ya:World->α}{N:Nat}{g0:Bool}{T₀:Params->BT}{life:Life}{m₀:Nat}{ann:Option Value}{M:Nat}
 (e:opening p=plainProg p.main.scope.names) (hN:Nat.ble 600 N=true) (f:∀s,fenceModules? p s=some s)
 (e0:∀P:Params,absHeap (T₀ P) m₀ life=boot_heap P)
 (size:∀w:World,((boot_heap w.params).isNs mainGlobals,(boot_heap w.params).nsMap mainGlobals "__annotations__")=(true,ann))
 (le:Nat.ble M N=true)
 (run:∀(w:World) (os:OsState),(JW (stepT (denote treeTable) p w) (stepOk m₀ ann) M ⟨T₀ w.params,m₀,life,Array.mk [],boot_drawn,boot_toks,os⟩ (topStub p)).map (λs=>
  ((staticsOk (importedModules p.main.body) (boot_heap w.params) s.abs.heap&&namesBound p s.abs.heap&&gensDone s.abs&&laidKept (boot_heap w.params) s.abs.heap),openSeen q loose (importedModules p.main.body) Xt g0 s.abs,Yf s.abs))
  =some (true,openGood q loose,Ya w)):LeftO p q loose Xt Yf Ya N g0:=λw=>by
 obtain⟨⟨h,gs,d,k,os⟩,e1,e'⟩:=zzJ.mp (boot_open e hN f w)
 obtain⟨rfl,rfl,rfl,rfl⟩:h=boot_heap w.params/\gs=Array.mk []/\d=boot_drawn/\k=boot_toks:=by simpa using e'
 obtain⟨z1,z3⟩:_/\_:=by simpa only [Prod.mk.injEq] using size w
 obtain⟨s,r,l⟩:=zzJ.mp (run w os)
 obtain⟨l1,l2,l3⟩:_/\_/\_:=by simpa only [Prod.mk.injEq] using l
 have r:=nY r
 have r:=topRun_mono (N-M) _ _ _ _ r
 rw [show M+(N-M)=N by have:=Nat.le_of_ble_eq_true le;omega] at r;have hs:(boot_heap w.params).objs.size=m₀:=by rw [<-e0 w.params];exact absHeap_size _ _ _
 have r:topRun treeTable p w m₀ ann N ⟨boot_heap w.params,Array.mk [],boot_drawn,boot_toks,os⟩ (topStub p)=some s.abs:=by
  have:(⟨T₀ w.params,m₀,life,Array.mk [],boot_drawn,boot_toks,os⟩:SharedT).abs=⟨boot_heap w.params,Array.mk [],boot_drawn,boot_toks,os⟩:=by
   show Shared.mk _ _ _ _ _=_
   rw [show absHeap (T₀ w.params) m₀ life=boot_heap w.params from e0 w.params]
  rw [<-this];exact r
 have t:topFrom treeTable p w N ⟨boot_heap w.params,Array.mk [],boot_drawn,boot_toks,os⟩=some s.abs:=by
  unfold topFrom;dsimp only;rw [z1,z3,hs,r];show(match staticsOk (importedModules p.main.body) (boot_heap w.params) s.abs.heap&&namesBound p s.abs.heap&&gensDone s.abs&&laidKept (boot_heap w.params) s.abs.heap with|true=>_|false=>_)=_
  rw [l1]
 unfold openEnds;rw [e1];show(topFrom treeTable p w N _).map _=_
 rw [t];exact congrArg some (Prod.ext l2 l3)
end Hd
namespace Hd
open PySem PySem.W
def KU:∀P:Params,absHeap (treeOf (boot_heap P).objs.toList) 11 {}=boot_heap P:=λP=>by kernel_rfl
def Lp:∀w:World,((boot_heap w.params).isNs mainGlobals,(boot_heap w.params).nsMap mainGlobals "__annotations__")=(true,some (.ref 6)):=λw=>by kernel_rfl
noncomputable abbrev de(P:Params)(x:Str)(t:Tok)(v:Value):DictEntry:={hash:=PyData.keyHash P x,key:=.str x t,val:=v}
theorem holds{l:OpenLaw}{keep:List Nat}{K:Params->Frag}{as:List Addr}{d:DefRec}{N:Nat}(Qu:l.wellSaid=true)
 (ka:∀P,as=(K P).map (·.1))
 (left:LeftO l.row.prog (view l.row.prog keep) [] (λs=>xlAt (view l.row.prog keep) [] s&&recOk l.row.toRowW.records s) (kHook K as ka).obs (kHook K as ka).val N)
 (QF:defOf (view l.row.prog keep) l.row.name=some (d,[])) (hp:l.row.prog.theDef l.row.name=some (d.params,d.body,d.scope)) (hk:kwWritten? d.params.kwonlyargs d.params.kw_defaults=some [])
 (ok:(chainsOk (view l.row.prog keep)&&opensWell l.row.prog&&(frees l.row.toRowW&&l.row.within.isEmpty))=true) (hb:l.row.prog.bare) (hw:l.row.toRowW.promised)
 (call:WalkO (view l.row.prog keep) [] (XL (view l.row.prog keep) []) (kHook K as ka).says l.row.toRowW d [] λf vs=>PySem.call f vs):l.Holds:=
 holds_law Qu λk1=>holds_open (N:=N) left (Hook.of (kHook K as ka)) (Hook.keeps (kHook K as ka)) (λs e=>xl_of s (Bool.and_eq_true_iff.mp e).1) XL.keeps QF hp hk (λs e=>recFacts_of (Bool.and_eq_true_iff.mp e).2) (by cases h:l.row.writes<;>rfl) k1 ok hb hw call
theorem G8{P:List Value->Prop}(h:∀a0,P [a0]):∀us:List Value,us.length=1->P us
 |[a0],_=>h a0
theorem xO{P:List Value->Prop}(h:∀a0 a1,P [a0,a1]):∀us:List Value,us.length=2->P us
 |[a0,a1],_=>h a0 a1
theorem Ke{P:List Value->Prop}(h:∀a0 a1 a2,P [a0,a1,a2]):∀us:List Value,us.length=3->P us
 |[a0,a1,a2],_=>h a0 a1 a2
theorem MH{P:List Value->Prop}(h:∀a0 a1 a2 a3,P [a0,a1,a2,a3]):∀us:List Value,us.length=4->P us
 |[a0,a1,a2,a3],_=>h a0 a1 a2 a3
theorem Ud{P:List Value->Prop}(h:∀a0 a1 a2 a3 a4,P [a0,a1,a2,a3,a4]):∀us:List Value,us.length=5->P us
 |[a0,a1,a2,a3,a4],_=>h a0 a1 a2 a3 a4
end Hd
namespace KJ
open PySem L2 Ci
theorem mi{α β:Type}{a:α}{f:α->Res β}:(Res.ok a).bind f=f a:=rfl
theorem Jr{α:Type}{a:α}:(Res.ok a).well=.ok a:=rfl
theorem S1{α:Type}{a:α}:Res.of (some a)=.ok a:=rfl
theorem RS{env:Sl}{k:Sl->Res Fl}:(Fl.nx env).seq k=k env:=rfl
theorem Q8{p:PV}{k:Sl->Res Fl}:(Fl.rt p).seq k=.ok (.rt p):=rfl
theorem Q7{env:Sl}{k:Sl->Res Fl}:(Fl.bk env).seq k=.ok (.bk env):=rfl
theorem sv{p:PV}:nZ (some (.val p))=.ok p:=rfl
theorem SG{p:PV}:yV (some (.val p))=.ok p:=rfl
theorem SO{p:PV}:yV (some (.own p))=.ok p:=rfl
theorem Mj{α:Type}{b:Bool}{f:Bool->Res α}:se (.bl b) f=f b:=rfl
theorem Fd{i j:Int}:binOp .add (.int i) (.int j)=.ok (.int (i+j)):=rfl
theorem FU{i j:Str}:binOp .add (.str i) (.str j)=if i.length+j.length<=dh then .ok (.str (i++j)) else .bad:=rfl
theorem Fz{i j:List PV}:binOp .add (.lst i) (.lst j)=if i.length+j.length<=dh then .ok (.lst (i++j)) else .bad:=rfl
theorem Ld{i j:Int}:binOp .sub (.int i) (.int j)=.ok (.int (i-j)):=rfl
theorem Lb{i j:Int}:binOp .mul (.int i) (.int j)=if aJ i||aJ j then .ok (.int (i*j)) else .bad:=rfl
theorem Mp{i j:Int}:binOp .mod (.int i) (.int j)=if 0<j then .ok (.int (i%j)) else .bad:=rfl
theorem K6{i j:Int}:binOp .fdiv (.int i) (.int j)=if 0<j/\j<1073741824 then .ok (.int (i/j)) else .bad:=rfl
theorem SU:cV .eq=iB:=rfl
theorem RJ:cV .ne=eX:=rfl
theorem RF:cV .lt=q0:=rfl
theorem RN:cV .le=qZ:=rfl
theorem RQ:cV .ge=qA:=rfl
theorem NY:cV .Fp=uC:=rfl
theorem Nu:cV .yg=f9:=rfl
theorem oLt{i j:Int}:q0 (.int i) (.int j)=.ok (.bl (decide (i<j))):=rfl
theorem oLe{i j:Int}:qZ (.int i) (.int j)=.ok (.bl (decide (i<=j))):=rfl
theorem Rb{i j:Int}:qA (.int i) (.int j)=.ok (.bl (decide (j<=i))):=rfl
theorem lL{xs:List PV}:cH .len [.lst xs]=.ok (.int xs.length):=rfl
theorem lT{xs:List PV}:cH .len [.tup xs]=.ok (.int xs.length):=rfl
theorem lS{z:Str}:cH .len [.str z]=if z.length<=dh then .ok (.int z.length) else .bad:=rfl
theorem tL{xs:List PV}:cH .tuple [.lst xs]=.ok (.tup xs):=rfl
theorem N3{i:Nat}{p:PV}{env:Sl}:(Tg.one i).put p env=.ok (env.set i (.val p)):=rfl
theorem Sk{i j:Nat}{a b:PV}{env:Sl}:(Tg.two i j).put (.tup [a,b]) env=.ok ((env.set i (.val a)).set j (.val b)):=rfl
theorem x5{p:PV}:pN (.own p)=.val p:=rfl
theorem jA{α:Type}{a:α}{as:List α}:(a::as).length=as.length+1:=rfl
theorem jB{α:Type}:([]:List α).length=0:=rfl
theorem jC{α β:Type}{f:α->β}{a:α}{l:List α}:(a::l).map f=f a::l.map f:=rfl
theorem jD{α β:Type}{f:α->β}:([]:List α).map f=[]:=rfl
theorem jE{α:Type}{a:α}{as bs:List α}:a::as++bs=a::(as++bs):=rfl
theorem jF{α:Type}{as:List α}:[]++as=as:=rfl
theorem jG{α:Type}{a:α}{l:List α}:(a::l)[0]?=some a:=rfl
theorem jH{α:Type}{a:α}{l:List α}{i:Nat}:(a::l)[i+1]?=l[i]?:=rfl
theorem jI{α:Type}{a b:α}{l:List α}:(a::l).set 0 b=b::l:=rfl
theorem jJ{α:Type}{a b:α}{l:List α}{i:Nat}:(a::l).set (i+1) b=a::l.set i b:=rfl
theorem jK{α:Type}{a d:α}{l:List α}:(a::l).getD 0 d=a:=rfl
theorem jL{α:Type}{a d:α}{l:List α}{i:Nat}:(a::l).getD (i+1) d=l.getD i d:=rfl
def jM{n:Nat}:0+n=n:=Nat.zero_add _
theorem jN:(!true)=false:=rfl
theorem jO:(!false)=true:=rfl
def jP:(false=true)=False:=zze
theorem iO{e:E}{xs:List PV}:uH e (.lst xs)=.ok xs:=rfl
theorem SJ{e:E}{xs:List PV}:uH e (.tup xs)=.ok xs:=rfl
theorem Nz{xs:List PV}:itemsOf (.tup xs)=.ok xs:=rfl
theorem N9{xs:List PV}:itemsOf (.lst xs)=.ok xs:=rfl
theorem NM{z:Str}:itemsOf (.str z)=.ok (chars z):=rfl
theorem jQ{α:Type}{f:α->α}{a:α}{l:List α}:(a::l).modify 0 f=f a::l:=rfl
def jR{α:Type}{f:α->α}{a:α}{l:List α}{i:Nat}:(a::l).modify (i+1) f=a::l.modify i f:=by simp
theorem jS{α:Type}{a:α}:List.replicate 0 a=[]:=id rfl
theorem jT{α:Type}{a:α}{n:Nat}:List.replicate (n+1) a=a::List.replicate n a:=id rfl
def jU{n:Nat}:(n==n)=true:=beq_self_eq_true n
noncomputable def J:=And.intro @jS (And.intro @jT (And.intro @jU (And.intro @mi (And.intro @Jr (And.intro @S1 (And.intro @RS (And.intro @Q8 (And.intro @Q7 (And.intro @sv (And.intro @SG (And.intro @SO (And.intro @Mj (And.intro @Fd (And.intro @FU (And.intro @Fz (And.intro @Ld (And.intro @Lb (And.intro @Mp (And.intro @K6 (And.intro @SU (And.intro @RJ (And.intro @RF (And.intro @RN (And.intro @RQ (And.intro @NY (And.intro @Nu (And.intro @oLt (And.intro @oLe (And.intro @Rb (And.intro @lL (And.intro @lT (And.intro @lS (And.intro @tL (And.intro @N3 (And.intro @Sk (And.intro @x5 (And.intro @jA (And.intro @jB (And.intro @jC (And.intro @jD (And.intro @jE (And.intro @jF (And.intro @jG (And.intro @jH (And.intro @jI (And.intro @jJ (And.intro @jK (And.intro @jL (And.intro @jM (And.intro @jN (And.intro @jO (And.intro @jP (And.intro @iO (And.intro @SJ (And.intro @Nz (And.intro @N9 (And.intro @NM (And.intro @jQ (@jR)))))))))))))))))))))))))))))))))))))))))))))))))))))))))))
def GJ{n:Str}{d:Def}{r:List (Str×Def)}:den ((n,d)::r) n=au (den r) d:=by
 funext as;simp [den]
def IS{n f:Str}{d:Def}{r:List (Str×Def)}(h:(f==n)=false):den ((n,d)::r) f=den r f:=by
 funext as;simp [den,h]
theorem qp{f:Str}:∀(n:Nat) {T:List (Str×Def)},((T.take n).all λx=>!(f==x.1))=true->den T f=den (T.drop n) f
 |0,_,_=>rfl
 |n+1,[],_=>rfl
 |n+1,(m,d)::r,h=>by
  rw [List.take_succ_cons,List.all_cons,zza,Bool.not_eq_true'] at h;exact(IS h.1).trans (qp n h.2)
def dk{f:Str}{d:Def}{r T:List (Str×Def)}(k:Nat)(h:((T.take k).all λx=>!(f==x.1))=true:=by decide+kernel)(e:T.drop k=(f,d)::r:=by rfl):den T f=au (den r) d:=by
 rw [qp k h,e];exact GJ
end KJ
local macro_rules | `(#v[]) => `(.nil) | `(#v[$x]) => `(.cons $x .nil) | `(#v[$x, $xs,*]) => `(.cons $x #v[$xs,*]) | `(!$n:num) => `(.var $n) | `(¬$n:num) => `(.cst (.int $n))
namespace K62
open PySem L2 Ci KJ
noncomputable def cL:Def:=⟨["_law_script","_law_k"],2,#v[.ite (.cmp .lt (!1) (.blt .len #v[!0])) #v[.ret (.sub (!0) (!1))] .nil,.ite (.cmp .eq (!0) (.lst .nil)) #v[.ret (¬0)] .nil,.ret (.bin .add (.bin .mul (.sub (!0) (.bin .mod (!1) (.blt .len #v[!0]))) (¬31)) (!1))],none⟩
noncomputable def bg:Def:=⟨["_law_script","_law_k","_law_many","_law_drawn"],3,#v[.set 3 (.bin .mod (.bin .mul (.bin .add (.call "_law_cell" #v[!0,!1]) (.bin .mul (¬6151) (.bin .add (!1) (¬1)))) (¬40692)) (¬2147483399)),.ret (.bin .mod (.bin .mod (.bin .add (.bin .mul (!3) (!3)) (.bin .fdiv (!3) (¬31))) (¬2147483629)) (!2))],none⟩
noncomputable def bK:Def:=⟨["_law_script","_law_at_here","_law_most","_law_rows","_law_columns","_law_shuts","_law_top","_law_made","_law_row","_law_signs","_law_column","_law_drawn"],3,#v[.set 3 (.bin .add (¬1) (.call "_law_pick" #v[!0,!1,!2])),.set 4 (.bin .add (¬1) (.call "_law_pick" #v[!0,.bin .add (!1) (¬1),!2])),.set 5 (.sub (.lst #v[¬0,¬2,¬4,¬6]) (.call "_law_pick" #v[!0,.bin .add (!1) (¬2),¬4])),.set 6 (.sub (.lst #v[¬1,¬2,¬3,¬10]) (.call "_law_pick" #v[!0,.bin .add (!1) (¬3),¬4])),.own 7 (.lst .nil),.bZ (.one 8) (.md (!3)) #v[.set 9 (.cst (.str "")),.bZ (.one 10) (.md (!4)) #v[.set 11 (.call "_law_pick" #v[!0,.bin .add (.bin .add (.bin .add (!1) (¬4)) (.bin .mul (!2) (!8))) (!10),.bin .mul (¬12) (!6)]),.set 9 (.bin .add (!9) (.ite (.cmp .lt (.bin .mod (!11) (¬12)) (!5)) (.cst (.str "#")) (.blt .str #v[.bin .fdiv (!11) (¬12)])))],.app 7 (!9)],.ret (.blt .tuple #v[.ic 7])],none⟩
noncomputable def bS:Def:=⟨["_law_script","_law_at_here"],2,#v[.ret (.tup #v[.cmp .eq (.call "_law_pick" #v[!0,!1,¬2]) (¬0),.sub (.lst #v[¬0,¬1,¬2,¬9]) (.call "_law_pick" #v[!0,.bin .add (!1) (¬1),¬4]),.call "_law_pick" #v[!0,.bin .add (!1) (¬2),¬4]])],none⟩
noncomputable def bH:Def:=⟨["_law_script","_law_at_here","_law_spots_here","_law_many","_law_left","_law_made","_law_k"],4,#v[.iX 4 (!2),.own 5 (.lst .nil),.bZ (.one 6) (.md (!3)) #v[.ite (.cmp .ne (.ic 4) (.lst .nil)) #v[.fy 5 4 (.call "_law_pick" #v[!0,.bin .add (!1) (!6),.blt .len #v[.ic 4]])] .nil],.cN 5,.ret (!5)],none⟩
noncomputable def b9:Def:=⟨["floor","spots","row","signs","column","sign"],1,#v[.own 1 (.lst .nil),.bZ (.two 2 3) (.enum (!0)) #v[.bZ (.two 4 5) (.enum (!3)) #v[.ite (.cmp .ne (!5) (.glob "WALL" (.str "#"))) #v[.app 1 (.tup #v[!2,!4])] .nil]],.cN 1,.ret (!1)],none⟩
noncomputable def dE:Def:=⟨["thing"],1,#v[.ret (.and (.ty .int (!0)) (.not (.ty .bool (!0))))],none⟩
noncomputable def dz:Def:=⟨["thing"],1,#v[.ret (.and (.ty .tuple (!0)) (.and (.cmp .eq (.blt .len #v[!0]) (¬2)) (.and (.call "is_whole" #v[.sub (!0) (¬0)]) (.call "is_whole" #v[.sub (!0) (¬1)]))))],none⟩
noncomputable def bT:Def:=⟨["floor","spot"],2,#v[.ret (.and (.ch .le .lt (¬0) (.sub (!1) (¬0)) (.blt .len #v[!0])) (.ch .le .lt (¬0) (.sub (!1) (¬1)) (.blt .len #v[.sub (!0) (.sub (!1) (¬0))])))],none⟩
noncomputable def b7:Def:=⟨["floor","thing"],2,#v[.ret (.and (.call "is_spot" #v[!1]) (.and (.call "is_on_floor" #v[!0,!1]) (.cmp .ne (.sub (.sub (!0) (.sub (!1) (¬0))) (.sub (!1) (¬1))) (.glob "WALL" (.str "#")))))],none⟩
noncomputable def bw:Def:=⟨["floor","spot"],2,#v[.ite (.not (.call "is_open" #v[!0,!1])) #v[.raise "NoSpot" "the spot is not on the floor or a wall"] .nil],none⟩
noncomputable def aP:Def:=⟨["floor","spot","beside","row","column"],2,#v[.own 2 (.lst .nil),.bZ (.one 3) (.o7 (.bin .sub (.sub (!1) (¬0)) (¬1)) (.bin .add (.sub (!1) (¬0)) (¬2))) #v[.bZ (.one 4) (.o7 (.bin .sub (.sub (!1) (¬1)) (¬1)) (.bin .add (.sub (!1) (¬1)) (¬2))) #v[.ite (.and (.cmp .ne (.tup #v[!3,!4]) (!1)) (.call "is_open" #v[!0,.tup #v[!3,!4]])) #v[.app 2 (.tup #v[!3,!4])] .nil]],.cN 2,.ret (!2)],none⟩
noncomputable def b8:Def:=⟨["one","other"],2,#v[.ret (.and (.cmp .ne (!0) (!1)) (.and (.cmp .le (.blt .abs #v[.bin .sub (.sub (!0) (¬0)) (.sub (!1) (¬0))]) (¬1)) (.cmp .le (.blt .abs #v[.bin .sub (.sub (!0) (¬1)) (.sub (!1) (¬1))]) (¬1))))],none⟩
noncomputable def cK:Def:=⟨["floor","spot"],2,#v[.expr (.call "need_open" #v[!0,!1]),.ret (.blt .int #v[.sub (.sub (!0) (.sub (!1) (¬0))) (.sub (!1) (¬1))])],none⟩
noncomputable def aS:Def:=⟨["floor","one","other"],3,#v[.ret (.and (.call "is_open" #v[!0,.tup #v[.sub (!1) (¬0),.sub (!2) (¬1)]]) (.call "is_open" #v[!0,.tup #v[.sub (!2) (¬0),.sub (!1) (¬1)]]))],none⟩
noncomputable def bh:Def:=⟨["floor","walker","one","other","is_slanting","rise","flat_cost"],4,#v[.ite (.not (.call "are_beside" #v[!2,!3])) #v[.ret (.cst .ay)] .nil,.set 4 (.and (.cmp .ne (.sub (!2) (¬0)) (.sub (!3) (¬0))) (.cmp .ne (.sub (!2) (¬1)) (.sub (!3) (¬1)))),.ite (.and (!4) (.not (.and (.sub (!1) (¬0)) (.call "has_open_corners" #v[!0,!2,!3])))) #v[.ret (.cst .ay)] .nil,.set 5 (.bin .sub (.call "height_at" #v[!0,!3]) (.call "height_at" #v[!0,!2])),.ite (.cmp .gt (.blt .abs #v[!5]) (.sub (!1) (¬1))) #v[.ret (.cst .ay)] .nil,.set 6 (.ite (!4) (.glob "SLANTING_COST" (.int 3)) (.glob "STRAIGHT_COST" (.int 2))),.ret (.bin .add (!6) (.bin .mul (.sub (!1) (¬2)) (.blt .max2 #v[!5,¬0])))],none⟩
noncomputable def cm:Def:=⟨["floor","walker","spot","steps","other","cost"],3,#v[.expr (.call "need_open" #v[!0,!2]),.own 3 (.lst .nil),.bZ (.one 4) (.seq (.call "open_spots_beside" #v[!0,!2])) #v[.set 5 (.call "step_cost" #v[!0,!1,!2,!4]),.ite (.cmp .vn (!5) (.cst .ay)) #v[.app 3 (.tup #v[!4,!5])] .nil],.cN 3,.ret (!3)],none⟩
noncomputable def cg:Def:=⟨["floor","walker","onward","spot"],2,#v[.qy 2,.bZ (.one 3) (.seq (.call "open_spots" #v[!0])) #v[.put 2 (!3) (.comp 1 [] (.one 0) (.seq (.call "steps_from" #v[!0,!1,!3])) (.sub (!0) (¬0)))],.cN 2,.ret (!2)],none⟩
noncomputable def cJ:Def:=⟨["ways","spot","left","way","time","passed"],2,#v[.set 2 (¬0),.bZ (.one 3) (.seq (!0)) #v[.bZ (.two 4 5) (.enum (!3)) #v[.ite (.cmp .eq (!5) (!1)) #v[.set 2 (.blt .max2 #v[!2,.bin .add (!4) (¬1)])] .nil]],.ret (!2)],none⟩
noncomputable def bx:Def:=⟨["ways"],1,#v[.ret (.maxD (.comp 1 [] (.one 0) (.seq (!0)) (.bin .sub (.blt .len #v[!0]) (¬1))) 0)],none⟩
noncomputable def bR:Def:=⟨["times","goal","way","reached"],2,#v[.own 2 (.lst #v[!1]),.bZ (.one 3) (.tW (.slice (!0) (.some (¬1)) .no)) #v[.app 2 (.sub (!3) (.sub (.ic 2) (.neg (¬1))))],.ret (.zM (.ic 2))],none⟩
noncomputable def bC:Def:=⟨["onward","reached","moves","moved","taken","later","spot","other"],3,#v[.set 3 (.blt .dict #v[!2]),.set 4 (.blt .dict #v[.comp 1 [] (.one 0) (.seq (!2)) (.tup #v[.sub (!0) (¬1),.cst (.bl true)])]),.qy 5,.bZ (.one 6) (.seq (!1)) #v[.bZ (.one 7) (.seq (.bin .add (.lst #v[!6]) (.sub (!0) (!6)))) #v[.ite (.and (.cmp .yg (!7) (!4)) (.cmp .ne (.get (!3) (!7)) (!6))) #v[.put 5 (!7) (!6)] .nil]],.cN 5,.ret (!5)],none⟩
noncomputable def dA:Def:=⟨["way","time"],2,#v[.ret (.sub (!0) (.blt .min2 #v[!1,.bin .sub (.blt .len #v[!0]) (¬1)]))],none⟩
noncomputable def cB:Def:=⟨["ways","time"],2,#v[.ret (.comp 1 [1] (.one 0) (.seq (!0)) (.tup #v[.call "spot_at" #v[!0,!1],.call "spot_at" #v[!0,.bin .add (!1) (¬1)]]))],none⟩
noncomputable def bo:Def:=⟨["onward","ahead","start","goal","left","still","times","time","later"],4,#v[.ite (.cmp .Fp (!2) (.comp 1 [] (.one 0) (.seq (!1)) (.sub (!0) (¬0)))) #v[.ret (.cst .ay)] .nil,.set 4 (.call "left_from" #v[!1,!3]),.set 5 (.call "still_from" #v[!1]),.own 6 (.lst #v[.M3 2]),.Kk (.or (.cmp .yg (!3) (.sub (.ic 6) (.neg (¬1)))) (.cmp .lt (.bin .sub (.blt .len #v[.ic 6]) (¬1)) (!4))) #v[.set 7 (.bin .sub (.blt .len #v[.ic 6]) (¬1)),.set 8 (.call "reached_next" #v[!0,.sub (.ic 6) (.neg (¬1)),.call "moves_at" #v[!1,!7]]),.ite (.and (.cmp .ge (!7) (!5)) (.cmp .eq (.blt .len #v[!8]) (.blt .len #v[.sub (.ic 6) (.neg (¬1))]))) #v[.ret (.cst .ay)] .nil,.app 6 (!8)],.cN 6,.ret (.call "traced_back" #v[!6,!3])],none⟩
noncomputable def fJ:Def:=⟨["floor","walker","starts","goals","spot","onward","told","start","goal","ahead"],4,#v[.bZ (.one 4) (.seq (.bin .add (!2) (!3))) #v[.expr (.call "need_open" #v[!0,!4])],.set 5 (.call "steps_over" #v[!0,!1]),.own 6 (.lst .nil),.bZ (.two 7 8) (.zip #v[!2,!3]) #v[.set 9 (.cA 1 [] (.one 0) (.seq (.ic 6)) (.cmp .vn (!0) (.cst .ay)) (!0)),.app 6 (.call "earliest_way" #v[!5,!9,!7,!8])],.cN 6,.ret (!6)],none⟩
noncomputable def bb:Def:=⟨["_law_floor_here","_law_made","_law_row","_law_signs"],1,#v[.own 1 (.lst .nil),.bZ (.two 2 3) (.enum (!0)) #v[.mG 1 (.cA 2 [2] (.two 0 1) (.enum (!3)) (.cmp .ne (!1) (.cst (.str "#"))) (.tup #v[!2,!0]))],.cN 1,.ret (!1)],none⟩
noncomputable def bt:Def:=⟨["_law_floor_here","_law_walker_here","_law_spot","_law_goal","_law_rise","_law_cost_here"],4,#v[.set 4 (.bin .sub (.blt .int #v[.sub (.sub (!0) (.sub (!3) (¬0))) (.sub (!3) (¬1))]) (.blt .int #v[.sub (.sub (!0) (.sub (!2) (¬0))) (.sub (!2) (¬1))])),.set 5 (¬2),.ite (.or (.cmp .gt (!4) (.sub (!1) (¬1))) (.cmp .gt (.bin .sub (¬0) (!4)) (.sub (!1) (¬1)))) #v[.ret (.cst .ay)] .nil,.ite (.and (.cmp .ne (.sub (!2) (¬0)) (.sub (!3) (¬0))) (.cmp .ne (.sub (!2) (¬1)) (.sub (!3) (¬1)))) #v[.ite (.or (.not (.sub (!1) (¬0))) (.or (.cmp .eq (.sub (.sub (!0) (.sub (!2) (¬0))) (.sub (!3) (¬1))) (.cst (.str "#"))) (.cmp .eq (.sub (.sub (!0) (.sub (!3) (¬0))) (.sub (!2) (¬1))) (.cst (.str "#"))))) #v[.ret (.cst .ay)] .nil,.set 5 (¬3)] .nil,.ret (.bin .add (!5) (.ite (.cmp .gt (!4) (¬0)) (.bin .mul (.sub (!1) (¬2)) (!4)) (¬0)))],none⟩
noncomputable def bf:Def:=⟨["_law_floor_here","_law_walker_here","_law_spot","_law_made","_law_k","_law_row","_law_column","_law_cost_here"],3,#v[.own 3 (.lst .nil),.bZ (.one 4) (.md (¬9)) #v[.set 5 (.bin .add (.bin .sub (.sub (!2) (¬0)) (¬1)) (.bin .fdiv (!4) (¬3))),.set 6 (.bin .add (.bin .sub (.sub (!2) (¬1)) (¬1)) (.bin .mod (!4) (¬3))),.ite (.and (.ch .le .lt (¬0) (!5) (.blt .len #v[!0])) (.and (.ch .le .lt (¬0) (!6) (.blt .len #v[.sub (!0) (¬0)])) (.and (.cmp .ne (!4) (¬4)) (.cmp .ne (.sub (.sub (!0) (!5)) (!6)) (.cst (.str "#")))))) #v[.set 7 (.call "_law_cost" #v[!0,!1,!2,.tup #v[!5,!6]]),.ite (.cmp .vn (!7) (.cst .ay)) #v[.app 3 (.tup #v[.tup #v[!5,!6],!7])] .nil] .nil],.cN 3,.ret (!3)],none⟩
noncomputable def aV:Def:=⟨["_law_floor_here","_law_walker_here","_law_start","_law_goal","_law_barred","_law_here","_law_many","_law_met","_law_spot"],5,#v[.set 5 (.lst #v[!2]),.bZ (.one 6) (.md (.bin .add (.blt .len #v[.call "_law_spots" #v[!0]]) (¬1))) #v[.ite (.cmp .Fp (!3) (!5)) #v[.ret (!6)] .nil,.own 7 (.lst .nil),.bZ (.one 8) (.seq (!5)) #v[.mG 7 (.cA 1 [4] (.one 0) (.seq (.call "_law_steps" #v[!0,!1,!8])) (.cmp .yg (.sub (!0) (¬0)) (!1)) (.sub (!0) (¬0)))],.set 5 (.xP (.ic 7))],.ret (.cst .ay)],none⟩
noncomputable def bG:Def:=⟨["_law_script","_law_floor_here","_law_walker_here","_law_some_here","_law_start","_law_goal","_law_others","_law_answer","_law_due"],1,#v[.set 1 (.call "_law_floor" #v[!0,¬0,¬4]),.set 2 (.call "_law_walker" #v[!0,¬30]),.set 3 (.call "_law_some" #v[!0,¬35,.call "_law_spots" #v[!1],.bin .add (¬2) (.call "_law_pick" #v[!0,¬34,¬4])]),.ite (.cmp .lt (.blt .len #v[!3]) (¬2)) #v[.ret (.cst (.bl true))] .nil,.uM 4 5 (.slice (!3) .no (.some (¬2))),.set 6 (.slice (!3) (.some (¬2)) .no),.set 7 (.call "crowd" #v[!1,!2,.lst #v[!4],.lst #v[!5]]),.set 8 (.call "_law_fewest" #v[!1,!2,!4,!5,.lst .nil]),.ite (.or (.cmp .ne (.cmp .is (.sub (!7) (¬0)) (.cst .ay)) (.cmp .is (!8) (.cst .ay))) (.and (.cmp .vn (!8) (.cst .ay)) (.cmp .ne (.blt .len #v[.sub (!7) (¬0)]) (.bin .add (!8) (¬1))))) #v[.ret (.cst (.bl false))] .nil,.set 7 (.call "crowd" #v[!1,!2,.bin .add (!6) (.lst #v[!4]),.bin .add (!6) (.lst #v[!5])]),.ite (.cmp .ne (.slice (!7) .no (.some (.neg (¬1)))) (.comp 1 [] (.one 0) (.seq (!6)) (.lst #v[!0]))) #v[.ret (.cst (.bl false))] .nil,.set 8 (.call "_law_fewest" #v[!1,!2,!4,!5,!6]),.ite (.or (.cmp .is (!8) (.cst .ay)) (.cmp .is (.sub (!7) (.neg (¬1))) (.cst .ay))) #v[.ret (.and (.cmp .is (!8) (.cst .ay)) (.cmp .is (.sub (!7) (.neg (¬1))) (.cst .ay)))] .nil,.ret (.and (.cmp .eq (.blt .len #v[.sub (!7) (.neg (¬1))]) (.bin .add (!8) (¬1))) (.and (.cmp .eq (.sub (.sub (!7) (.neg (¬1))) (¬0)) (!4)) (.cmp .eq (.sub (.sub (!7) (.neg (¬1))) (.neg (¬1))) (!5))))],none⟩
noncomputable def ny:Def:=⟨["_law_script","_law_turn"],1,#v[.bZ (.one 1) (.md (¬8)) #v[.ite (.not (.call "_law_once" #v[.comp 1 [1] (.one 0) (.seq (!0)) (.bin .add (!0) (.bin .mul (¬7919) (!1)))])) #v[.ret (.cst (.bl false))] .nil,.ite (.cmp .eq (!0) (.lst .nil)) #v[.brk] .nil],.ret (.cst (.bl true))],none⟩
def T0:List (Str×Def):=[]
noncomputable def T1:List (Str×Def):=(("_law_cell":Str),cL)::T0
noncomputable def T2:List (Str×Def):=(("_law_pick":Str),bg)::T1
noncomputable def T3:List (Str×Def):=(("_law_floor":Str),bK)::T2
noncomputable def T4:List (Str×Def):=(("_law_walker":Str),bS)::T3
noncomputable def T5:List (Str×Def):=(("_law_some":Str),bH)::T4
noncomputable def T6:List (Str×Def):=(("open_spots":Str),b9)::T5
noncomputable def T7:List (Str×Def):=(("is_whole":Str),dE)::T6
noncomputable def T8:List (Str×Def):=(("is_spot":Str),dz)::T7
noncomputable def T9:List (Str×Def):=(("is_on_floor":Str),bT)::T8
noncomputable def Kz:List (Str×Def):=(("is_open":Str),b7)::T9
noncomputable def Pq:List (Str×Def):=(("need_open":Str),bw)::Kz
noncomputable def Tp:List (Str×Def):=(("open_spots_beside":Str),aP)::Pq
noncomputable def O3:List (Str×Def):=(("are_beside":Str),b8)::Tp
noncomputable def QE:List (Str×Def):=(("height_at":Str),cK)::O3
noncomputable def Kr:List (Str×Def):=(("has_open_corners":Str),aS)::QE
noncomputable def Kg:List (Str×Def):=(("step_cost":Str),bh)::Kr
noncomputable def KD:List (Str×Def):=(("steps_from":Str),cm)::Kg
noncomputable def RD:List (Str×Def):=(("steps_over":Str),cg)::KD
noncomputable def Ql:List (Str×Def):=(("left_from":Str),cJ)::RD
noncomputable def RR:List (Str×Def):=(("still_from":Str),bx)::Ql
noncomputable def Tb:List (Str×Def):=(("traced_back":Str),bR)::RR
noncomputable def Q6:List (Str×Def):=(("reached_next":Str),bC)::Tb
noncomputable def N5:List (Str×Def):=(("spot_at":Str),dA)::Q6
noncomputable def FW:List (Str×Def):=(("moves_at":Str),cB)::N5
noncomputable def KC:List (Str×Def):=(("earliest_way":Str),bo)::FW
noncomputable def LX:List (Str×Def):=(("crowd":Str),fJ)::KC
noncomputable def SK:List (Str×Def):=(("_law_spots":Str),bb)::LX
noncomputable def NG:List (Str×Def):=(("_law_cost":Str),bt)::SK
noncomputable def MT:List (Str×Def):=(("_law_steps":Str),bf)::NG
noncomputable def Cq:List (Str×Def):=(("_law_fewest":Str),aV)::MT
noncomputable def SD:List (Str×Def):=(("_law_once":Str),bG)::Cq
def LV:den T1 "_law_cell"=au (den T0) cL:=dk 0
def Ms:den T2 "_law_pick"=au (den T1) bg:=dk 0
def LK:den T3 "_law_pick"=au (den T1) bg:=dk 1
def Mc:den T4 "_law_pick"=au (den T1) bg:=dk 2
def Lr:den T7 "is_whole"=au (den T6) dE:=dk 0
def L3:den T9 "is_spot"=au (den T7) dz:=dk 1
def LZ:den T9 "is_on_floor"=au (den T8) bT:=dk 0
def D6:den Kz "is_open"=au (den T9) b7:=dk 0
def C9:den Pq "is_open"=au (den T9) b7:=dk 1
def EF:den O3 "need_open"=au (den Kz) bw:=dk 2
def Cr:den QE "is_open"=au (den T9) b7:=dk 4
def DW:den Kr "are_beside"=au (den Tp) b8:=dk 2
def B4:den Kr "has_open_corners"=au (den QE) aS:=dk 0
def CN:den Kr "height_at"=au (den O3) cK:=dk 1
def Dw:den Kg "need_open"=au (den Kz) bw:=dk 5
def CT:den Kg "open_spots_beside"=au (den Pq) aP:=dk 4
def DX:den Kg "step_cost"=au (den Kr) bh:=dk 0
def HZ:den KD "open_spots"=au (den T5) b9:=dk 11
def Cf:den KD "steps_from"=au (den Kg) cm:=dk 0
def Ef:den N5 "spot_at"=au (den Q6) dA:=dk 0
def Ea:den FW "left_from"=au (den RD) cJ:=dk 5
def E7:den FW "still_from"=au (den Ql) bx:=dk 4
def Cy:den FW "reached_next"=au (den Tb) bC:=dk 2
def Dp:den FW "moves_at"=au (den N5) cB:=dk 0
def Ce:den FW "traced_back"=au (den RR) bR:=dk 3
def BZ:den KC "need_open"=au (den Kz) bw:=dk 14
def Ew:den KC "steps_over"=au (den KD) cg:=dk 7
def Ei:den KC "earliest_way"=au (den FW) bo:=dk 0
def CQ:den NG "_law_cost"=au (den SK) bt:=dk 0
def ET:den MT "_law_spots"=au (den LX) bb:=dk 2
def De:den MT "_law_steps"=au (den NG) bf:=dk 0
def Hl:den Cq "_law_floor"=au (den T2) bK:=dk 27
def Iz:den Cq "_law_walker"=au (den T3) bS:=dk 26
def HD:den Cq "_law_some"=au (den T4) bH:=dk 25
def vM:den Cq "_law_spots"=au (den LX) bb:=dk 3
def Ho:den Cq "_law_pick"=au (den T1) bg:=dk 28
def B7:den Cq "crowd"=au (den KC) fJ:=dk 4
def DN:den Cq "_law_fewest"=au (den MT) aV:=dk 0
def Ee:den SD "_law_once"=au (den Cq) bG:=dk 0
noncomputable abbrev sp(r c:Int):PV:=.tup [.int r,.int c]
noncomputable abbrev dM(ns:List Int):PV:=.lst (ns.map .int)
theorem aI{i:Int}:cH .abs [.int i]=.ok (.int (if i<0 then -i else i)):=rfl
theorem mX{i j:Int}:cH .max2 [.int i,.int j]=.ok (.int (if j>i then j else i)):=rfl
theorem Sz:cV .gt=uF:=rfl
theorem Rl{i j:Int}:uF (.int i) (.int j)=.ok (.bl (decide (j<i))):=rfl
theorem Nv:cV .vn=ef:=rfl
noncomputable abbrev wk(sl:Bool)(cl pr:Int):PV:=.tup [.bl sl,.int cl,.int pr]
theorem L9{r c:Int}:aE (sp r c) (.int 0)=.ok (.int r):=rfl
theorem Mn{r c:Int}:aE (sp r c) (.int 1)=.ok (.int c):=rfl
theorem S4{sl:Bool}{cl pr:Int}:aE (wk sl cl pr) (.int 0)=.ok (.bl sl):=rfl
theorem Rk{sl:Bool}{cl pr:Int}:aE (wk sl cl pr) (.int 1)=.ok (.int cl):=rfl
theorem Tq{sl:Bool}{cl pr:Int}:aE (wk sl cl pr) (.int 2)=.ok (.int pr):=rfl
theorem nI{i j:Int}:eX (.int i) (.int j)=.ok (.bl (!(i==j))):=rfl
theorem eI{i j:Int}:iB (.int i) (.int j)=.ok (.bl (i==j)):=rfl
theorem nS{r c r' c':Int}:eX (sp r c) (sp r' c')=.ok (.bl (!((r==r')&&((c==c')&&true)))):=rfl
theorem eS{r c r' c':Int}:iB (sp r c) (sp r' c')=.ok (.bl ((r==r')&&((c==c')&&true))):=rfl
theorem Se:cV .is=pR:=rfl
theorem K3{α β:Type}{c:Str}{f:α->Res β}:(Res.exc c:Res α).bind f=.exc c:=rfl
noncomputable def J2:=And.intro @L9 (And.intro @Mn (And.intro @S4 (And.intro @Rk (And.intro @Tq (And.intro @aI (And.intro @mX (And.intro @Sz (And.intro @Rl (And.intro @nI (And.intro @eI (And.intro @nS (And.intro @eS (And.intro @Nv (And.intro @Se (And.intro @K3 (And.intro @N9 (And.intro @Nz (@NM))))))))))))))))))
set_option hygiene false
local macro_rules | `(tactic| simp! only [$x,*] $[$l:location]?) => `(tactic| simp only [au, bJ, bL, az, fK, aA, cT, vg, p6, eC, iT, gy, List.replicate, Nat.reduceAdd, Nat.reduceSub, reduceIte, ite_true, ite_false, BEq.rfl, beq_self_eq_true, mi, Jr, S1, RS, Q8, Q7, sv, SG, SO, Mj, Fd, FU, Fz, Ld, Lb, Mp, K6, SU, RJ, RF, RN, RQ, NY, Nu, oLt, oLe, Rb, lL, lT, lS, tL, N3, Sk, x5, jA, jB, jC, jD, jE, jF, jG, jH, jI, jJ, jK, jL, jM, jN, jO, jP, KJ.iO, SJ, Nz, N9, NM, jQ, jR, L9, Mn, S4, Rk, Tq, aI, mX, Sz, Rl, nI, eI, nS, eS, Nv, Se, K3, $x,*] $[$l]?)
local macro_rules | `(tactic| dsimp! only [$x,*] $[$l:location]?) => `(tactic| simp only [au, bJ, bL, az, fK, aA, cT, vg, p6, eC, iT, gy, List.replicate, Nat.reduceAdd, Nat.reduceSub, reduceIte, ite_true, ite_false, BEq.rfl, beq_self_eq_true, J, J2, $x,*] $[$l]?)
set_option hygiene true
theorem qd(F:aN)(i:Int):au F dE [.int i]=.ok (.bl true):=by rfl
def j6{α:Type}{xs:List α}{k:Nat}(h:k<xs.length):sA xs (k:Int)=some xs[k]:=by
 unfold sA F9;have:((k:Nat):Int)<(xs.length:Int):=by omega
 simp [this,h]
def vK{ns:List Int}{k:Int}(h0:0<=k)(h:k<ns.length):∃m,sA (ns.map PV.int) k=some (.int m):=by
 obtain⟨j,rfl⟩:=zzw h0
 refine⟨ns[j]'(by omega),?_⟩;rw [j6 (k:=j) (by simp;omega)];simp
def zN(ns:List Int)(n:Nat):Ci.plain (n+1) (.lst (ns.map .int))=true:=by
 simp! [Ci.plain,zzT,zzx]
 rintro x ⟨i,_,rfl⟩
 cases n<;>rfl
def eq_nil(ns:List Int):iB (dM ns) (.lst [])=.ok (.bl (decide (ns=[]))):=by
 have e:yc (dM ns)=true:=zN ns 8
 unfold iB;rw [e];cases ns<;>rfl
def DG(F:aN)(ns:List Int)(k:Int)(hk:0<=k):∃m,au F cL [dM ns,.int k]=.ok (.int m):=by
 simp! only [cL,zzl,eq_nil]
 by_cases h:k<(ns.length:Int)
 ·obtain⟨m,e⟩:=vK hk h
  refine⟨m,?_⟩;simp! only [h,decide_true,aE,e]
 ·simp! only [h,decide_false,eq_nil];cases ns with
  |nil=>exact⟨0,rfl⟩
  |cons n ns=>
   have hl:(0:Int)<((n::ns).length:Int):=by simp! [zzL];omega
   obtain⟨m,e⟩:=vK (ns:=n::ns) (k:=k%((n::ns).length:Int)) (Int.emod_nonneg _ (by omega)) (Int.emod_lt_of_pos _ hl)
   refine⟨m*31+k,?_⟩;have e3:(aJ m||aJ 31)=true:=by rw [zzt];exact .inr (by decide)
   have e4:aE (dM (n::ns)) (.int (k%((n::ns).length:Int)))=.ok (.int m):=by simp! [aE,e];rfl
   have e5:decide ((n::ns)=[])=false:=rfl
   simp! [zzL] at hl e4;simp! only [e5,zzl,hl,e4,e3]
def DQ(F:aN)(hc:∀ns k,0<=k->∃m,F "_law_cell" [dM ns,.int k]=.ok (.int m))(ns:List Int)(k q:Int)(hk:0<=k)(hq:0<q):∃m,au F bg [dM ns,.int k,.int q]=.ok (.int m)/\0<=m/\m<q:=by
 obtain⟨m,e⟩:=hc ns k hk
 have s1:(aJ 6151||aJ (k+1))=true:=by rw [zzt];exact .inl (by decide)
 have s2:(aJ (m+6151*(k+1))||aJ 40692)=true:=by rw [zzt];exact .inr (by decide)
 have s3:(0:Int)<2147483399:=by decide
 have s4:(0:Int)<2147483629:=by decide
 have s5:(0:Int)<31/\(31:Int)<1073741824:=by decide
 have a0:=Int.emod_nonneg ((m+6151*(k+1))*40692) (b:=2147483399) (by decide)
 have a1:=Int.emod_lt_of_pos ((m+6151*(k+1))*40692) s3
 refine⟨((((m+6151*(k+1))*40692%2147483399)*((m+6151*(k+1))*40692%2147483399)+((m+6151*(k+1))*40692%2147483399)/31)%2147483629)%q,?_,Int.emod_nonneg _ (by omega),Int.emod_lt_of_pos _ hq⟩;generalize hd:(m+6151*(k+1))*40692%2147483399=d at a0 a1
 have s6:(aJ d||aJ d)=true:=by
  have:aJ d=true:=by simp! [aJ,zza,zzN];omega
  rw [this];rfl
 simp! only [bg,dM] at e⊢;simp! only [e,s1,s2,s3,s4,s5,hd,s6,hq,and_self]
def qh(rows:List Str):Prop:=rows.length<=6/\∀z∈rows,z.length<=6
noncomputable abbrev fl(rows:List Str):PV:=.tup (rows.map .str)
noncomputable def cd(rows:List Str)(r c:Nat):Option Nat:=(rows[r]?).bind λz=>z.cps.toList[c]?
noncomputable def xa(rows:List Str)(r c:Nat):Bool:=match cd rows r c with|some x=>x !=35|none=>false
noncomputable def bI(rows:List Str)(r c:Int):Bool:=decide (0<=r)&&decide (0<=c)&&xa rows r.toNat c.toNat
def tm(F:aN)(h:∀i,F "is_whole" [.int i]=.ok (.bl true))(r c:Int):au F dz [sp r c]=.ok (.bl true):=by
 have e0:aE (sp r c) (.int 0)=.ok (.int r):=rfl
 have e1:aE (sp r c) (.int 1)=.ok (.int c):=rfl
 have e2:iB (.int ((2:Nat):Int)) (.int 2)=.ok (.bl true):=rfl
 simp! only [dz,uk,h,e0,e1,e2]
def M0(F:aN)(rows:List Str)(R:qh rows)(r c:Int):au F bT [fl rows,sp r c]=.ok (.bl (decide (0<=r)&&decide (0<=c)&&(cd rows r.toNat c.toNat).isSome)):=by
 have e0:aE (sp r c) (.int 0)=.ok (.int r):=rfl
 have e1:aE (sp r c) (.int 1)=.ok (.int c):=rfl
 simp! only [bT,uk,e0,e1,qZ,q0,zzl]
 by_cases h0:0<=r
 ·by_cases h1:r<(rows.length:Int)
  ·obtain⟨j,rfl⟩:=zzw h0
   have hj:j<rows.length:=by omega
   have e2:aE (fl rows) (.int (j:Int))=.ok (.str rows[j]):=by
    simp! [aE,fl];rw [j6 (k:=j) (by simpa using hj)];simp [Res.of]
   have e3:(rows[j]).length<=dh:=zzU (R.2 _ (List.getElem_mem hj)) (by decide)
   have e4:(rows[j]).cps.size=(rows[j]).length:=rfl
   simp! only [h0,h1,decide_true,e2,e3]
   by_cases h2:0<=c
   ·obtain⟨i,rfl⟩:=zzw h2
    simp! only [h2,decide_true,cd,zz4,zzg hj,Option.bind_some,Bool.and_self,Bool.true_and,Res.ok.injEq,PV.bl.injEq];rw [Bool.eq_iff_iff];simp [e4]
   ·simp [au,bJ,bL,az,fK,aA,cT,vg,p6,eC,iT,gy,List.replicate,Nat.reduceAdd,Nat.reduceSub,reduceIte,ite_true,ite_false,BEq.rfl,beq_self_eq_true,J,h2]
  ·have:cd rows r.toNat c.toNat=none:=by
    unfold cd;rw [List.getElem?_eq_none (by omega)];rfl
   simp [au,bJ,bL,az,fK,aA,cT,vg,p6,eC,iT,gy,List.replicate,Nat.reduceAdd,Nat.reduceSub,reduceIte,ite_true,ite_false,BEq.rfl,beq_self_eq_true,J,h0,h1,this]
 ·simp [au,bJ,bL,az,fK,aA,cT,vg,p6,eC,iT,gy,List.replicate,Nat.reduceAdd,Nat.reduceSub,reduceIte,ite_true,ite_false,BEq.rfl,beq_self_eq_true,J,h0]
def yI{rows:List Str}{j:Nat}{z:Str}(h:rows[j]?=some z):aE (fl rows) (.int (j:Int))=.ok (.str z):=by
 obtain⟨hj,rfl⟩:=zzH.1 h
 simp! [aE,fl];rw [j6 (k:=j) (by simpa using hj)];simp [Res.of]
def D2{z:Str}{i x:Nat}(hz:z.length<=dh)(h:z.cps.toList[i]?=some x):aE (.str z) (.int (i:Int))=.ok (.str ⟨#[x]⟩):=by
 obtain⟨hj,rfl⟩:=zzH.1 h
 simp! [aE,hz,if_true];rw [j6 (k:=i) hj]
 rfl
def zx{rows:List Str}(R:qh rows){j i x:Nat}(h:cd rows j i=some x):∃z,rows[j]?=some z/\aE (fl rows) (.int (j:Int))=.ok (.str z)/\aE (.str z) (.int (i:Int))=.ok (.str ⟨#[x]⟩):=by
 unfold cd at h;cases hz:rows[j]? with
 |none=>rw [hz] at h;cases h
 |some z=>
  rw [hz] at h;exact⟨z,rfl,yI hz,D2 (zzU (R.2 _ (zzD hz)) (by decide)) h⟩
def tZ(x:Nat):eX (.str ⟨#[x]⟩) (.str "#")=.ok (.bl (x !=35)):=by
 have:(("#":Str))=⟨#[35]⟩:=by decide+kernel
 rw [this];show Res.ok (PV.bl (!((⟨#[x]⟩:Str)==⟨#[35]⟩)))=_
 congr 2
 rw [bne,Bool.eq_iff_iff];simp
def Cj(F:aN)(hs:∀r c,F "is_spot" [sp r c]=.ok (.bl true))(ho:∀rows,qh rows->∀r c,F "is_on_floor" [fl rows,sp r c]=.ok (.bl (decide (0<=r)&&decide (0<=c)&&(cd rows r.toNat c.toNat).isSome)))
 (rows:List Str) (R:qh rows) (r c:Int):au F b7 [fl rows,sp r c]=.ok (.bl (bI rows r c)):=by
 have e0:aE (sp r c) (.int 0)=.ok (.int r):=rfl
 have e1:aE (sp r c) (.int 1)=.ok (.int c):=rfl
 simp! only [b7,hs,ho rows R,e0,e1];unfold bI xa
 by_cases h0:0<=r
 ·by_cases h1:0<=c
  ·obtain⟨j,rfl⟩:=zzw h0
   obtain⟨i,rfl⟩:=zzw h1
   simp! [h0,h1,decide_true,Bool.true_and,Bool.and_self,zz4];cases hc:cd rows j i with
   |none=>simp [au,bJ,bL,az,fK,aA,cT,vg,p6,eC,iT,gy,List.replicate,Nat.reduceAdd,Nat.reduceSub,reduceIte,ite_true,ite_false,BEq.rfl,beq_self_eq_true,J]
   |some x=>
    obtain⟨z,_,e2,e3⟩:=zx R hc
    simp! only [Option.isSome_some,e2,e3,tZ]
  ·simp [au,bJ,bL,az,fK,aA,cT,vg,p6,eC,iT,gy,List.replicate,Nat.reduceAdd,Nat.reduceSub,reduceIte,ite_true,ite_false,BEq.rfl,beq_self_eq_true,J,h1]
 ·simp [au,bJ,bL,az,fK,aA,cT,vg,p6,eC,iT,gy,List.replicate,Nat.reduceAdd,Nat.reduceSub,reduceIte,ite_true,ite_false,BEq.rfl,beq_self_eq_true,J,h0]
def oZ(F:aN)(ho:∀rows,qh rows->∀r c,F "is_open" [fl rows,sp r c]=.ok (.bl (bI rows r c)))(rows:List Str)(R:qh rows)(r c:Int)(h:bI rows r c=true):au F bw [fl rows,sp r c]=.ok .ay:=by
 simp! only [bw,ho rows R,h]
noncomputable abbrev FV(p:Int×Int):PV:=sp p.1 p.2
theorem cG{α:Type}{f:PV->Res (Option PV)}{p:α->PV}{g:α->PV}:∀{xs:List α},(∀x∈xs,f (p x)=.ok (some (g x)))->aK f (xs.map p)=.ok (xs.map g)
 |[],_=>rfl
 |x::xs,h=>by
  simp! [zzF,aK,h x (zzP ..),Res.well,Res.bind,cG (xs:=xs) λy hy=>h y (zzI _ hy),oc]
def gJ{rows:List Str}{r c:Int}:bI rows r c=true↔0<=r/\0<=c/\xa rows r.toNat c.toNat=true:=by
 simp! [bI,zza,zzN,and_assoc]
theorem bQ{body:PV->Sl->Res Fl}{P:Nat->Sl->Prop}:∀(xs:List PV) (k:Nat) (env:Sl),P k env->(∀i x env,xs[i]?=some x->P (k+i) env->∃af,body x env=.ok (.nx af)/\P (k+i+1) af)->∃af,forL body xs env=.ok (.nx af)/\P (k+xs.length) af
 |[],k,env,h,_=>⟨env,rfl,h⟩
 |x::xs,k,env,h,g=>by
  obtain⟨e1,b1,p1⟩:=g 0 x env rfl h
  obtain⟨e2,b2,p2⟩:=bQ xs (k+1) e1 p1 λi y env hy hp=>by
   obtain⟨e3,b3,p3⟩:=g (i+1) y env hy (by rw [show k+(i+1)=k+1+i by omega];exact hp)
   exact⟨e3,b3,by rw [show k+1+i+1=k+(i+1)+1 by omega];exact p3⟩
  refine⟨e2,?_,by rw [zzL,show k+(xs.length+1)=k+1+xs.length by omega];exact p2⟩;simp! [forL,b1,mi,b2]
def yi{n i:Nat}{x:PV}(h:(dr 0 n)[i]?=some x):i<n/\x=.int (i:Int):=by
 simp! [dr,zzQ,zzJ] at h;obtain⟨j,hj,rfl⟩:=h
 obtain⟨h1,h2⟩:=zzH.1 hj
 simp! [List.getElem_range] at h2;subst h2;simp! [List.length_range] at h1;exact⟨h1,by simp⟩
def ir(F:aN):Prop:=∀(ns:List Int) (k q:Int),0<=k->0<q->∃m,F "_law_pick" [dM ns,.int k,.int q]=.ok (.int m)/\0<=m/\m<q
def oE{a b c d m:Int}(h0:0<=m)(h1:m<4):∃v,aE (.lst [.int a,.int b,.int c,.int d]) (.int m)=.ok (.int v)/\(v=a\/v=b\/v=c\/v=d):=by
 have:m=0\/m=1\/m=2\/m=3:=by omega
 rcases this with rfl|rfl|rfl|rfl
 ·exact⟨a,rfl,.inl rfl⟩
 ·exact⟨b,rfl,.inr (.inl rfl)⟩
 ·exact⟨c,rfl,.inr (.inr (.inl rfl))⟩
 ·exact⟨d,rfl,.inr (.inr (.inr rfl))⟩
noncomputable def FF:Ss:=#v[.set 11 (.call "_law_pick" #v[!0,.bin .add (.bin .add (.bin .add (!1) (¬4)) (.bin .mul (!2) (!8))) (!10),.bin .mul (¬12) (!6)]),.set 9 (.bin .add (!9) (.ite (.cmp .lt (.bin .mod (!11) (¬12)) (!5)) (.cst (.str "#")) (.blt .str #v[.bin .fdiv (!11) (¬12)])))]
noncomputable def Ja:Ss:=#v[.set 9 (.cst (.str "")),.bZ (.one 10) (.md (!4)) FF,.app 7 (!9)]
structure Fl(rows:List Str)(w:Nat):Prop where
 yd:qh rows
 ne:0<rows.length
 w1:1<=w
 BY:∀z∈rows,z.length=w
 dig:∀z∈rows,∀x∈z.cps.toList,x=35\/(48<=x/\x<=57)
def EW{v:Int}(h0:0<=v)(h1:v<10):cH .str [.int v]=.ok (.str ⟨#[48+v.toNat]⟩):=by
 obtain⟨n,rfl⟩:=zzw h0
 have key:∀k:Fin 10,(((k.1:Nat):Int).natAbs.log2<1920)/\((toString ((k.1:Nat):Int)):Str)=⟨#[48+k.1]⟩:=by decide+kernel
 have k:=key ⟨n,Int.ofNat_lt.1 h1⟩
 show(if _ then Res.ok (PV.str _) else _)=_
 rw [if_pos k.1,zz4,k.2]
def DT{x:Nat}(h0:48<=x)(h1:x<=57):cH .int [.str ⟨#[x]⟩]=.ok (.int ((x:Int)-48)):=by
 have key:∀k:Fin 10,PySem.intText? (⟨#[48+k.1]⟩:Str)=some (((48+k.1:Nat):Int)-48):=by decide+kernel
 obtain⟨k,rfl⟩:=Nat.exists_eq_add_of_le h0
 have e:=key ⟨k,Nat.lt_succ_of_le (Nat.le_of_add_le_add_left (a:=48) h1)⟩
 show(if(⟨#[48+k]⟩:Str).length<=640 then(Res.of (PySem.intText? (⟨#[48+k]⟩:Str))).bind λn=>Res.ok (PV.int n) else .bad)=_
 rw [if_pos (show(⟨#[48+k]⟩:Str).length<=640 from(by show 1<=640;decide)),e]
 rfl
def HQ(F:aN)(hp:ir F)(ns:List Int)(q a b sh tp:Int)(U5:0<=q)(S7:q<=6)(h1:1<=tp)(h2:tp<=10)(own:PV)(i n:Nat)(hn:n<=6)(Hi Hz:Ci.Slot):
 ∃(z:Str) (Fs FH:Ci.Slot),z.length=n/\(∀x∈z.cps.toList,x=35\/(48<=x/\x<=57))/\forL (λx env=>((Tg.one 10).put x env).bind λaf=>az F FF af) (dr 0 n) [.val (dM ns),.val (.int 0),.val (.int q),.val (.int a),.val (.int b),.val (.int sh),.val (.int tp),.own own,.val (.int i),.val (.str ""),Hi,Hz]=
  .ok (.nx [.val (dM ns),.val (.int 0),.val (.int q),.val (.int a),.val (.int b),.val (.int sh),.val (.int tp),.own own,.val (.int i),.val (.str z),Fs,FH]):=by
 obtain⟨af,e,z,Fs,FH,hz,hd,rfl⟩:=bQ (body:=λx env=>((Tg.one 10).put x env).bind λaf=>az F FF af) (P:=λj env=>∃(z:Str) (Fs FH:Ci.Slot),z.length=j/\(∀x∈z.cps.toList,x=35\/(48<=x/\x<=57))/\env=[.val (dM ns),.val (.int 0),.val (.int q),.val (.int a),.val (.int b),.val (.int sh),.val (.int tp),.own own,.val (.int i),.val (.str z),Fs,FH]) (dr 0 n) 0 [.val (dM ns),.val (.int 0),.val (.int q),.val (.int a),.val (.int b),.val (.int sh),.val (.int tp),.own own,.val (.int i),.val (.str ""),Hi,Hz] ⟨_,_,_,by decide+kernel,by decide+kernel,rfl⟩ (by
  intro j x env hx hq;obtain⟨hj,rfl⟩:=yi hx
  obtain⟨z,Fs,FH,hz,hd,rfl⟩:=hq
  obtain⟨m,em,m0,m1⟩:=hp ns (0+4+q*(i:Int)+(j:Int)) (12*tp) (by
   have:=Int.mul_nonneg U5 (Int.natCast_nonneg i)
   omega) (by omega)
  have q1:(aJ q||aJ (i:Int))=true:=by
   have:aJ q=true:=by simp! [aJ,zza,zzN];omega
   rw [this];rfl
  have q2:(aJ 12||aJ tp)=true:=by rw [zzt];exact .inl (by decide)
  have q3:(0:Int)<12:=by decide
  have q4:(0:Int)<12/\(12:Int)<1073741824:=by decide
  have ew:=EW (v:=m/12) (by omega) (by omega)
  have P0:(("#":Str))=⟨#[35]⟩:=by decide+kernel
  by_cases hm:m%12<sh
  ·refine⟨[.val (dM ns),.val (.int 0),.val (.int q),.val (.int a),.val (.int b),.val (.int sh),.val (.int tp),.own own,.val (.int i),.val (.str (z++"#")),.val (.int j),.val (.int m)],?_,_,_,_,?_,?_,rfl⟩
   ·have l:z.length+(("#":Str)).length<=dh:=zzU (show _<=8 by rw [P0];show z.length+1<=8;omega) (by decide)
    simp! only [FF,q1,q2,q3,q4,em,hm,decide_true,l,and_self]
   ·rw [Str.length_append,P0];show z.length+1=_;omega
   ·rw [P0];show∀x∈(z.cps++#[35]).toList,_;intro x hx;simp! [Array.toList_append,List.mem_append,zzi] at hx;rcases hx with hx|hx
    ·exact hd x hx
    ·exact .inl hx
  ·refine⟨[.val (dM ns),.val (.int 0),.val (.int q),.val (.int a),.val (.int b),.val (.int sh),.val (.int tp),.own own,.val (.int i),.val (.str (z++⟨#[48+(m/12).toNat]⟩)),.val (.int j),.val (.int m)],?_,_,_,_,?_,?_,rfl⟩
   ·have l:z.length+(⟨#[48+(m/12).toNat]⟩:Str).length<=dh:=zzU (show z.length+1<=8 by omega) (by decide)
    simp! only [FF,q1,q2,q3,q4,em,hm,decide_false,l,and_self,ew]
   ·rw [Str.length_append];show z.length+1=_;omega
   ·show∀x∈(z.cps++#[48+(m/12).toNat]).toList,_
    intro x hx;simp! [Array.toList_append,List.mem_append,zzi] at hx;rcases hx with hx|hx
    ·exact hd x hx
    ·exact .inr (by omega))
 refine⟨z,Fs,FH,?_,hd,e⟩
 simpa [dr] using hz
def w8(F:aN)(hp:ir F)(ns:List Int)(q:Int)(Vl:1<=q)(S7:q<=6):∃rows w,(Fl rows w/\(rows.length:Int)<=q/\(w:Int)<=q)/\au F bK [dM ns,.int 0,.int q]=.ok (fl rows):=by
 obtain⟨a,ea,a0,a6⟩:=hp ns 0 q (by decide) (by omega)
 obtain⟨b,eb,b0,b6⟩:=hp ns (0+1) q (by decide) (by omega)
 obtain⟨c,ec,c0,c4⟩:=hp ns (0+2) 4 (by decide) (by decide)
 obtain⟨d,ed,d0,d4⟩:=hp ns (0+3) 4 (by decide) (by decide)
 obtain⟨sh,es,hs⟩:=oE (a:=0) (b:=2) (c:=4) (d:=6) c0 c4
 obtain⟨tp,et,ht⟩:=oE (a:=1) (b:=2) (c:=3) (d:=10) d0 d4
 have t1:1<=tp:=by omega
 have t2:tp<=10:=by omega
 have sa:aH (1+a)=true:=by simp! [aH,zza,zzN];omega
 have sb:aH (1+b)=true:=by simp! [aH,zza,zzN];omega
 obtain⟨af,e,rows,s8,s9,Hi,Hz,hl,hr,hd,rfl⟩:=bQ (body:=λx env=>((Tg.one 8).put x env).bind λaf=>az F Ja af)
  (P:=λi env=>∃(rows:List Str) (s8 s9 Hi Hz:Ci.Slot),rows.length=i/\(∀z∈rows,z.length=(1+b).toNat)/\(∀z∈rows,∀x∈z.cps.toList,x=35\/(48<=x/\x<=57))/\env=[.val (dM ns),.val (.int 0),.val (.int q),.val (.int (1+a)),.val (.int (1+b)),.val (.int sh),.val (.int tp),.own (.lst (rows.map .str)),s8,s9,Hi,Hz])
  (dr 0 (1+a).toNat) 0 [.val (dM ns),.val (.int 0),.val (.int q),.val (.int (1+a)),.val (.int (1+b)),.val (.int sh),.val (.int tp),.own (.lst []),.no,.no,.no,.no] ⟨[],_,_,_,_,rfl,(λz hz=>by cases hz),(λz hz=>by cases hz),rfl⟩ (by
  intro i x env hx hq;obtain⟨hi,rfl⟩:=yi hx
  obtain⟨rows,s8,s9,Hi,Hz,hl,hr,hd,rfl⟩:=hq
  obtain⟨z,Fs,FH,hz,hzd,e⟩:=HQ F hp ns q (1+a) (1+b) sh tp (by omega) S7 t1 t2 (.lst (rows.map .str)) i (1+b).toNat (by omega) Hi Hz
  have l:(rows.map PV.str).length<dh:=zzV (m:=6) (by simp! [zzl];omega) (by decide)
  refine⟨[.val (dM ns),.val (.int 0),.val (.int q),.val (.int (1+a)),.val (.int (1+b)),.val (.int sh),.val (.int tp),.own (.lst ((rows++[z]).map .str)),.val (.int i),.val (.str z),Fs,FH],?_,rows++[z],_,_,_,_,by simp;omega,?_,?_,rfl⟩
  ·have e':=e
   simp! only [FF] at e';simp! [zzl] at l;simp! only [Ja,FF,sb,e',zzl,l,List.map_append]
  ·intro y hy;simp! [List.mem_append,zzi] at hy;rcases hy with hy|rfl
   ·exact hr y hy
   ·exact hz
  ·intro y hy;simp! [List.mem_append,zzi] at hy;rcases hy with hy|rfl
   ·exact hd y hy
   ·exact hzd)
 have qi:rows.length=(1+a).toNat:=by simpa [dr] using hl
 refine⟨rows,(1+b).toNat,⟨⟨⟨by omega,λz hz=>by rw [hr z hz];omega⟩,by omega,by omega,hr,hd⟩,by omega,by omega⟩,?_⟩
 simp! only [Ja,FF] at e;simp! only [bK,bK,ea,eb,ec,ed,es,et,sa,e]
noncomputable def bM(rows:List Str)(r c:Int):Int:=match cd rows r.toNat c.toNat with
 |some x=>(x:Int)-48
 |none=>0
def A6{rows:List Str}{r c:Int}(h:bI rows r c=true):∃(i j x:Nat),r=i/\c=j/\cd rows i j=some x/\x≠35:=by
 obtain⟨h0,h1,h2⟩:=gJ.1 h
 obtain⟨i,rfl⟩:=zzw h0
 obtain⟨j,rfl⟩:=zzw h1
 simp! [zz4,xa] at h2;cases hc:cd rows i j with
 |none=>rw [hc] at h2;cases h2
 |some x=>
  rw [hc] at h2;exact⟨i,j,x,rfl,rfl,hc,by simpa using h2⟩
def GY{rows:List Str}{w:Nat}(L:Fl rows w){i j x:Nat}(h:cd rows i j=some x):x=35\/(48<=x/\x<=57):=by
 unfold cd at h;cases hz:rows[i]? with
 |none=>rw [hz] at h;cases h
 |some z=>
  rw [hz] at h;exact L.dig z (zzD hz) x (zzD h)
def lE{rows:List Str}{w:Nat}(L:Fl rows w){r c:Int}(h:bI rows r c=true):∃z x,aE (fl rows) (.int r)=.ok (.str z)/\aE (.str z) (.int c)=.ok (.str ⟨#[x]⟩)/\cH .int [.str ⟨#[x]⟩]=.ok (.int (bM rows r c))/\0<=bM rows r c/\bM rows r c<=9:=by
 obtain⟨i,j,x,rfl,rfl,hc,hx⟩:=A6 h
 obtain⟨z,_,e1,e2⟩:=zx L.yd hc
 have hd:=(GY L hc).resolve_left hx
 have hh:bM rows i j=(x:Int)-48:=by simp! [bM,zz4,hc]
 refine⟨z,x,e1,e2,?_,?_⟩
 ·rw [hh];exact DT hd.1 hd.2
 ·rw [hh];omega
noncomputable def cF(rows:List Str)(sl:Bool)(cl pr:Int)(r c r' c':Int):Option Int:=
 if(r=r'/\c=c')\/1<r-r'\/1<r'-r\/1<c-c'\/1<c'-c then none
 else if(r≠r'/\c≠c')/\¬(sl=true/\bI rows r c'=true/\bI rows r' c=true) then none
 else if cl<bM rows r' c'-bM rows r c\/cl<bM rows r c-bM rows r' c' then none
 else some ((if r≠r'/\c≠c' then 3 else 2)+pr*(if bM rows r' c'-bM rows r c>0 then bM rows r' c'-bM rows r c else 0))
noncomputable def oP:Option Int->PV
 |none=>.ay
 |some i=>.int i
def fN(r c r' c':Int):Prop:=(r=r'/\c=c')\/1<r-r'\/1<r'-r\/1<c-c'\/1<c'-c
noncomputable instance(r c r' c':Int):Decidable (fN r c r' c'):=by unfold fN;infer_instance
def xt(F:aN)(r c r' c':Int):au F b8 [sp r c,sp r' c']=.ok (.bl (!decide (fN r c r' c'))):=by
 simp! only [b8,L9,Mn,aI,nS];have key:∀(a b d:Bool),(Res.ok (PV.bl a)).bind (λx=>se x λt=>if t then(Res.ok (PV.bl b)).bind (λx=>se x λt=>if t then Res.ok (PV.bl d) else Res.ok (PV.bl false)) else Res.ok (PV.bl false))=Res.ok (PV.bl (a&&(b&&d))):=by
  intro a b d;cases a<;>cases b<;>cases d<;>rfl
 by_cases h1:r=r'/\c=c'
 ·obtain⟨rfl,rfl⟩:=h1
  have:fN r c r c:=.inl ⟨rfl,rfl⟩
  simp [au,bJ,bL,az,fK,aA,cT,vg,p6,eC,iT,gy,List.replicate,Nat.reduceAdd,Nat.reduceSub,reduceIte,ite_true,ite_false,BEq.rfl,beq_self_eq_true,J,this]
 ·have b1:(!((r==r')&&((c==c')&&true)))=true:=by
   cases hh:((r==r')&&((c==c')&&true)) with
   |false=>rfl
   |true=>exact absurd (by simpa using hh) h1
  simp! only [b1]
  by_cases h2:(if r-r'<0 then -(r-r') else r-r')<=1
  ·by_cases h3:(if c-c'<0 then -(c-c') else c-c')<=1
   ·have:¬fN r c r' c':=by
     rintro (h|h|h|h|h)
     ·exact h1 h
     all_goals (split at h2<;>split at h3<;>omega)
    simp! only [h2,h3,this,decide_true,decide_false]
   ·have:fN r c r' c':=by
     unfold fN;split at h3<;>omega
    simp! only [h2,h3,this,decide_true,decide_false]
  ·have:fN r c r' c':=by
    unfold fN;split at h2<;>omega
   simp! only [h2,this,decide_true,decide_false]
def sZ(F:aN):Prop:=∀rows,qh rows->∀r c,F "is_open" [fl rows,sp r c]=.ok (.bl (bI rows r c))
def wD(F:aN)(hn:∀rows,qh rows->∀r c,bI rows r c=true->F "need_open" [fl rows,sp r c]=.ok .ay){rows:List Str}{w:Nat}(L:Fl rows w){r c:Int}(h:bI rows r c=true):au F cK [fl rows,sp r c]=.ok (.int (bM rows r c)):=by
 obtain⟨z,x,e1,e2,e3,_⟩:=lE L h
 simp! only [cK,hn rows L.yd r c h,L9,Mn,e1,e2,e3]
def sY(F:aN)(ho:sZ F){rows:List Str}(R:qh rows)(r c r' c':Int):au F aS [fl rows,sp r c,sp r' c']=.ok (.bl (bI rows r c'&&bI rows r' c)):=by
 simp! only [aS,L9,Mn,ho rows R];cases bI rows r c'<;>simp! only [Bool.false_and,Bool.true_and]
def nN{i j:Int}(h0:0<=i)(h1:i<4):(aJ i||aJ j)=true:=by
 have:aJ i=true:=by simp! [aJ,zza,zzN];omega
 rw [this];rfl
structure Wk(cl pr:Int):Prop where
 c0:0<=cl
 p0:0<=pr
 p4:pr<4
 c9:cl<=9
def Eo(F:aN)(hb:∀r c r' c',F "are_beside" [sp r c,sp r' c']=.ok (.bl (!decide (fN r c r' c'))))(hk:∀rows,qh rows->∀r c r' c',F "has_open_corners" [fl rows,sp r c,sp r' c']=.ok (.bl (bI rows r c'&&bI rows r' c)))
 (hh:∀rows w,Fl rows w->∀r c,bI rows r c=true->F "height_at" [fl rows,sp r c]=.ok (.int (bM rows r c))) {rows:List Str} {w:Nat} (L:Fl rows w) {sl:Bool} {cl pr:Int} (V:Wk cl pr) {r c r' c':Int} (h:bI rows r c=true) (h':bI rows r' c'=true):
 au F bh [fl rows,wk sl cl pr,sp r c,sp r' c']=.ok (oP (cF rows sl cl pr r c r' c')):=by
 have e1:=hh rows w L r c h
 have e2:=hh rows w L r' c' h'
 have e3:=hk rows L.yd r c r' c'
 have e4:=hb r c r' c'
 by_cases h1:fN r c r' c'
 ·have:cF rows sl cl pr r c r' c'=none:=if_pos h1
  simp! only [bh,e4,h1,decide_true,this,oP]
 ·have q1:cF rows sl cl pr r c r' c'=_:=if_neg h1
  rw [q1];have ms:=λj=>nN (j:=j) V.p0 V.p4
  obtain⟨s,hs⟩:∃s,((!(r==r'))&&!(c==c'))=s:=⟨_,rfl⟩
  have NT:s=true↔r≠r'/\c≠c':=by rw [<-hs];simp
  have ia:∀{t u:Bool},(if t=true then Res.ok (PV.bl u) else Res.ok (PV.bl false))=Res.ok (PV.bl (t&&u)):=λ{t u}=>by cases t<;>rfl
  have ii:(if s=true then Res.ok (PV.int 3) else Res.ok (PV.int 2))=Res.ok (PV.int (if r≠r'/\c≠c' then 3 else 2)):=by
   by_cases n3:r≠r'/\c≠c'
   ·rw [if_pos (NT.2 n3),if_pos n3]
   ·rw [if_neg (λz=>n3 (NT.1 z)),if_neg n3]
  have mx:(if(0:Int)>bM rows r' c'-bM rows r c then 0 else bM rows r' c'-bM rows r c)=(if bM rows r' c'-bM rows r c>0 then bM rows r' c'-bM rows r c else 0):=by
   split<;>split<;>omega
  have cc:(if sl=true then Res.ok (PV.bl (bI rows r c'&&bI rows r' c)) else Res.ok (PV.bl false))=Res.ok (PV.bl (sl&&(bI rows r c'&&bI rows r' c))):=ia
  by_cases hblk:(r≠r'/\c≠c')/\¬(sl=true/\bI rows r c'=true/\bI rows r' c=true)
  ·rw [if_pos hblk];have hB:(!(sl&&(bI rows r c'&&bI rows r' c)))=true:=by
    rw [Bool.not_eq_true',Bool.eq_false_iff];intro z;rw [zza,zza] at z;exact hblk.2 z
   simp! only [bh,e4,e3,h1,decide_false,ia,hs,NT.2 hblk.1,hB,Bool.and_self,oP]
  ·rw [if_neg hblk];have hB:(s&&!(sl&&(bI rows r c'&&bI rows r' c)))=false:=by
    rw [Bool.eq_false_iff];intro z;rw [zza,Bool.not_eq_true',Bool.eq_false_iff] at z;exact hblk ⟨NT.1 z.1,λy=>z.2 (by rw [zza,zza];exact y)⟩
   by_cases hq:cl<(if bM rows r' c'-bM rows r c<0 then -(bM rows r' c'-bM rows r c) else bM rows r' c'-bM rows r c)
   ·have hz:cl<bM rows r' c'-bM rows r c\/cl<bM rows r c-bM rows r' c':=by split at hq<;>omega
    simp! only [bh,e4,e3,e1,e2,h1,decide_false,ia,hs,hB,oP,hq,decide_true,if_pos hz]
   ·have hz:¬(cl<bM rows r' c'-bM rows r c\/cl<bM rows r c-bM rows r' c'):=by split at hq<;>omega
    simp! only [bh,e4,e3,e1,e2,h1,decide_false,ia,hs,hB,oP,hq,if_neg hz,ii,ms,mx]
def MZ{rows:List Str}{w:Nat}(L:Fl rows w){i j:Nat}(hi:i<rows.length)(hj:j<w):∃x,cd rows i j=some x:=by
 have hz:rows[i]?=some rows[i]:=zzg hi
 have hl:=L.BY _ (zzD hz)
 refine⟨(rows[i]).cps.toList[j]'(by simp! [zzd];rw [<-hl] at hj;exact hj),?_⟩;unfold cd;rw [hz];exact zzg _
def gc{rows:List Str}{w:Nat}(L:Fl rows w){r c:Int}(h:bI rows r c=true):0<=r/\r<rows.length/\0<=c/\c<w:=by
 obtain⟨i,j,x,rfl,rfl,hc,_⟩:=A6 h
 unfold cd at hc;cases hz:rows[i]? with
 |none=>rw [hz] at hc;cases hc
 |some z=>
  rw [hz] at hc;have h1:=(zzH.1 hz).1
  have h2:=(zzH.1 hc).1
  have hl:=L.BY _ (zzD hz)
  simp! [zzd] at h2;have:z.cps.size=z.length:=rfl
  omega
noncomputable abbrev kN(p:Nat×Nat):List Int:=[(p.1:Int),(p.2:Int)]
abbrev Up(L:List (Nat×Nat)):Prop:=L.Pairwise λp q=>HT.lexLt (kN p) (kN q)=true
def uu:Up []:=.nil
def PC{p q:Nat×Nat}(h:p.1<q.1\/p.1=q.1/\p.2<q.2):HT.lexLt (kN p) (kN q)=true:=by
 simp! [HT.lexLt];rcases h with h|⟨h1,h2⟩
 ·rw [if_neg (by omega)];exact zzh (by omega)
 ·rw [if_pos (by omega),if_neg (by omega)];exact zzh (by omega)
noncomputable abbrev x8(p:Nat×Nat):PV:=sp p.1 p.2
theorem jf:∀{xs:List PV} {k i:Nat} {x:PV},(bO k xs)[i]?=some x->∃y,xs[i]?=some y/\x=.tup [.int ((k+i:Nat):Int),y]
 |[],_,_,_,h=>by cases h
 |y::ys,k,0,x,h=>by
  simp! [bO,List.getElem?_cons_zero,Option.some.injEq] at h;exact⟨y,rfl,h.symm⟩
 |y::ys,k,i+1,x,h=>by
  simp! [bO,List.getElem?_cons_succ] at h;obtain⟨w,h1,h2⟩:=jf h
  refine⟨w,h1,?_⟩;rw [h2,show k+1+i=k+(i+1) by omega]
theorem bD:∀(xs:List PV) (k:Nat),(bO k xs).length=xs.length
 |[],_=>rfl
 |x::xs,k=>by simp! [bO,zzL,bD xs]
theorem lj{f:PV->Res (Option PV)}{r:Nat}(hf:∀c x:Nat,f (.tup [.int c,.str ⟨#[x]⟩])=.ok (if x !=35 then some (sp r c) else none)):∀(xs:List Nat) (k:Nat),∃L:List (Nat×Nat),aK f (bO k (xs.map λx=>.str ⟨#[x]⟩))=.ok (L.map x8)/\Up L/\L.length<=xs.length/\∀a b,(a,b)∈L↔a=r/\k<=b/\∃x,xs[b-k]?=some x/\x≠35
 |[],k=>⟨[],rfl,uu,zzE _,λa b=>by simp⟩
 |x::xs,k=>by
  obtain⟨L,e,nd,l,h⟩:=lj hf xs (k+1)
  by_cases hx:x=35
  ·refine⟨L,?_,nd,Nat.le_succ_of_le l,λa b=>?_⟩
   ·have:(x !=35)=false:=by simp [hx]
    simp! [zzF,bO,aK,hf,this,Jr,mi,e,oc]
    rfl
   ·rw [h]
    constructor
    ·rintro ⟨h1,h2,y,h3,h4⟩
     refine⟨h1,by omega,y,?_,h4⟩;rw [show b-k=(b-(k+1))+1 by omega];exact h3
    ·rintro ⟨h1,h2,y,h3,h4⟩
     have:b≠k:=by
      rintro rfl
      simp at h3;omega
     refine⟨h1,by omega,y,?_,h4⟩;rw [show b-k=(b-(k+1))+1 by omega] at h3;exact h3
  ·refine⟨(r,k)::L,?_,List.pairwise_cons.2 ⟨(λp hp=>PC (by have:=(h p.1 p.2).1 hp;omega)),nd⟩,Nat.succ_le_succ l,λa b=>?_⟩
   ·have:(x !=35)=true:=by simp [hx]
    simp! [zzF,bO,aK,hf,this,Jr,mi,e,oc,if_true]
   ·rw [zzm,h]
    constructor
    ·rintro (h1|⟨h1,h2,y,h3,h4⟩)
     ·cases h1;exact⟨rfl,zzE _,x,by simp,hx⟩
     ·refine⟨h1,by omega,y,?_,h4⟩;rw [show b-k=(b-(k+1))+1 by omega];exact h3
    ·rintro ⟨h1,h2,y,h3,h4⟩
     by_cases hb:b=k
     ·subst hb;subst h1;exact .inl rfl
     ·refine .inr ⟨h1,by omega,y,?_,h4⟩;rw [show b-k=(b-(k+1))+1 by omega] at h3;exact h3
def je{rows:List Str}{r c:Nat}:xa rows r c=true↔∃z,rows[r]?=some z/\∃x,z.cps.toList[c]?=some x/\x≠35:=by
 unfold xa cd;cases hz:rows[r]? with
 |none=>simp
 |some z=>
  simp! [Option.bind_some];cases hx:z.cps.toList[c]? with
  |none=>
   refine⟨(λh=>by cases h),?_⟩
   rintro ⟨w,hw,x,oX,_⟩
   cases hw;rw [hx] at oX;cases oX
  |some x=>
   refine⟨λh=>⟨z,rfl,x,hx,by simpa using h⟩,?_⟩
   rintro ⟨w,hw,y,hy,h⟩
   cases hw;rw [hx] at hy;cases hy
   simpa using h
noncomputable def AK:Ss:=#v[.mG 1 (.cA 2 [2] (.two 0 1) (.enum (!3)) (.cmp .ne (!1) (.cst (.str "#"))) (.tup #v[!2,!0]))]
def vC(F:aN):Prop:=∀rows,qh rows->∃L:List (Nat×Nat),F "_law_spots" [fl rows]=.ok (.lst (L.map x8))/\Up L/\L.length<=36/\∀r c,(r,c)∈L↔xa rows r c=true
def Bc(F:aN)(rows:List Str)(R:qh rows):∃L:List (Nat×Nat),au F bb [fl rows]=.ok (.lst (L.map x8))/\Up L/\L.length<=36/\∀r c,(r,c)∈L↔xa rows r c=true:=by
 have Tu:=R.1
 obtain⟨af,e,L,s2,s3,nd,hl,hm,rfl⟩:=bQ (body:=λx env=>((Tg.two 2 3).put x env).bind λaf=>az F AK af) (P:=λi env=>∃(L:List (Nat×Nat)) (s2 s3:Slot),Up L/\L.length<=6*i/\(∀r c,(r,c)∈L↔r<i/\xa rows r c=true)/\env=[.val (fl rows),.own (.lst (L.map x8)),s2,s3])
  (bO 0 (rows.map .str)) 0 [.val (fl rows),.own (.lst []),.no,.no] ⟨[],_,_,uu,zzE _,(λr c=>by simp),rfl⟩ (by
  intro i x env hx hq;obtain⟨y,hy,rfl⟩:=jf hx
  obtain⟨L,s2,s3,nd,hl,hm,rfl⟩:=hq
  simp! [zzQ,zzJ] at hy;obtain⟨z,hz,rfl⟩:=hy
  have Kf:=R.2 z (zzD hz)
  have hi:i<rows.length:=(zzH.1 hz).1
  obtain⟨M,eM,nM,lM,hM⟩:=lj (f:=λx=>((Tg.two 0 1).put x [.no,.no,.val (.int i)]).bind λaf=>((nZ af[1]?).bind λx=>eX x (.str "#")).bind λt=>se t λt=>if t then(((nZ af[2]?).bind λp=>((nZ af[0]?).bind λp=>.ok [p]).bind λps=>.ok (p::ps)).bind λps=>.ok (.tup ps)).bind λy=>.ok (some y) else .ok none) (r:=i) (λc x=>by
   simp! only [tZ];cases(x !=35)<;>rfl) z.cps.toList 0
  have lz:(bO 0 (chars z)).length<dh:=by
   rw [bD];refine zzV (m:=6) ?_ (by decide)
   simpa [chars,Str.length] using Kf
  have ll:(L.map x8).length+(M.map x8).length<=dh:=by
   refine zzU (m:=100) ?_ (by decide);simp! [zzl];have:z.cps.toList.length=z.length:=by simp [Str.length]
   omega
  refine⟨[.val (fl rows),.own (.lst ((L++M).map x8)),.val (.int i),.val (.str z)],?_,L++M,_,_,List.pairwise_append.2 ⟨nd,nM,λa ha b hb=>PC (.inl (by have h1:=((hm a.1 a.2).1 ha).1;have h2:=((hM b.1 b.2).1 hb).1;omega))⟩,?_,?_,rfl⟩
  ·simp! only [AK,NM,Nat.zero_add,lz];rw [show chars z=z.cps.toList.map λx=>PV.str ⟨#[x]⟩ from rfl,eM]
   simp! only [ll,List.map_append]
  ·have:z.cps.toList.length=z.length:=by simp [Str.length]
   simp! [zzM];omega
  ·intro r c;rw [List.mem_append,hm,hM,je]
   constructor
   ·rintro (⟨h1,h2⟩|⟨rfl,_,x,h3,h4⟩)
    ·exact⟨by omega,h2⟩
    ·exact⟨by omega,z,hz,x,h3,h4⟩
   ·rintro ⟨h1,w,h2,x,h3,h4⟩
    by_cases hr:r=i
    ·subst hr;rw [hz] at h2;cases h2;exact .inr ⟨rfl,Nat.zero_le _,x,h3,h4⟩
    ·exact .inl ⟨by omega,w,h2,x,h3,h4⟩)
 refine⟨L,?_,nd,(by rw [bD,zzl] at hl;omega),λr c=>?_⟩
 ·simp! only [AK] at e;simp! only [bb,Nz,e,List.modify_succ_cons,List.modify_zero_cons,x5]
 ·rw [hm];refine⟨λh=>h.2,λh=>⟨?_,h⟩⟩
  obtain⟨z,hz,_⟩:=je.1 h
  have:=(zzH.1 hz).1
  rw [bD,zzl];omega
def xj(F:aN)(hp:ir F)(ns:List Int)(k:Int)(hk:0<=k):∃sl cl pr,Wk cl pr/\au F bS [dM ns,.int k]=.ok (wk sl cl pr):=by
 obtain⟨a,ea,a0,a2⟩:=hp ns k 2 hk (by decide)
 obtain⟨b,eb,b0,b4⟩:=hp ns (k+1) 4 (by omega) (by decide)
 obtain⟨c,ec,c0,c4⟩:=hp ns (k+2) 4 (by omega) (by decide)
 obtain⟨v,ev,hv⟩:=oE (a:=0) (b:=1) (c:=2) (d:=9) b0 b4
 refine⟨(a==0),v,c,⟨by omega,c0,c4,by omega⟩,?_⟩;simp! only [bS,ea,eb,ec,ev]
theorem ff{α σ:Type}{body:PV->Sl->Res Ci.Fl}{g:α->PV}{mk:List PV->σ->Sl}{app:α->List PV}{m M:Nat}:∀(l:List α) (acc:List PV) (s:σ),(∀a∈l,(app a).length<=m)->(∀a∈l,∀acc s,acc.length+m<=M->∃s',body (g a) (mk acc s)=.ok (.nx (mk (acc++app a) s')))->acc.length+m*l.length<=M->∃s',forL body (l.map g) (mk acc s)=.ok (.nx (mk (acc++l.flatMap app) s'))
 |[],acc,s,_,_,_=>⟨s,by simp [forL]⟩
 |a::l,acc,s,h1,h2,h3=>by
  have ha:=h1 a (zzP ..)
  rw [zzL,Nat.mul_succ] at h3;obtain⟨s1,e1⟩:=h2 a (zzP ..) acc s (by omega)
  obtain⟨s2,e2⟩:=ff l (acc++app a) s1 (λb hb=>h1 b (zzI _ hb)) (λb hb=>h2 b (zzI _ hb)) (by rw [zzM];omega)
  refine⟨s2,?_⟩;simp! [zzF,forL,e1,mi,e2,List.flatMap_cons,List.append_assoc]
noncomputable def fu(x:Int):List Int:=[x-1+(0:Nat),x-1+(1:Nat),x-1+(2:Nat)]
def Ml(x:Int):dr (x-1) (x+2-(x-1)).toNat=(fu x).map .int:=by
 rw [show(x+2-(x-1)).toNat=3 by omega]
 rfl
noncomputable def oI:Ss:=#v[.ite (.and (.cmp .ne (.tup #v[!3,!4]) (!1)) (.call "is_open" #v[!0,.tup #v[!3,!4]])) #v[.app 2 (.tup #v[!3,!4])] .nil]
noncomputable def oO:Ss:=#v[.bZ (.one 4) (.o7 (.bin .sub (.sub (!1) (¬1)) (¬1)) (.bin .add (.sub (!1) (¬1)) (¬2))) oI]
noncomputable def BR(rows:List Str)(r c r' c':Int):Bool:=!((r'==r)&&((c'==c)&&true))&&bI rows r' c'
noncomputable def qr(rows:List Str)(r c r':Int):List (Int×Int):=(fu c).flatMap λc'=>if BR rows r c r' c' then [(r',c')] else []
noncomputable def oA(rows:List Str)(r c:Int):List (Int×Int):=(fu r).flatMap (qr rows r c)
def gH(rows:List Str)(r c r':Int):(qr rows r c r').length<=3:=by
 have:∀c',(if BR rows r c r' c' then [(r',c')] else []).length<=1:=λc'=>by split<;>simp
 simp! [qr,fu,List.flatMap_cons,List.flatMap_nil,zzM,List.length_nil];have h1:=this (c-1+(0:Nat));have h2:=this (c-1+(1:Nat));have h3:=this (c-1+(2:Nat))
 omega
def sj(rows:List Str)(r c:Int):(oA rows r c).length<=9:=by
 simp! [oA,fu,List.flatMap_cons,List.flatMap_nil,zzM,List.length_nil];have h1:=gH rows r c (r-1+(0:Nat));have h2:=gH rows r c (r-1+(1:Nat));have h3:=gH rows r c (r-1+(2:Nat))
 omega
def kG{rows:List Str}{r c r' c':Int}:(r',c')∈oA rows r c↔¬fN r c r' c'/\bI rows r' c'=true:=by
 have hn:∀x y:Int,y∈fu x↔¬1<x-y/\¬1<y-x:=by
  intro x y;simp! [fu,zzm,List.not_mem_nil,or_false];omega
 simp! [oA,qr,List.mem_flatMap,hn]
 constructor
 ·rintro ⟨a,ha,b,hb,h⟩
  split at h
  ·rename_i hk;simp! [zzi,Prod.mk.injEq] at h;obtain⟨rfl,rfl⟩:=h
   simp! [BR,zza,Bool.not_eq_true',Bool.and_true] at hk;refine⟨?_,hk.2⟩;unfold fN;have h1:=hk.1
   rw [Bool.and_eq_false_iff] at h1;simp! [beq_eq_false_iff_ne,ne_eq] at h1;omega
  ·cases h
 ·rintro ⟨hf,ho⟩
  unfold fN at hf;refine⟨r',by omega,c',by omega,?_⟩;have:BR rows r c r' c'=true:=by
   simp! [BR,ho,Bool.and_true,Bool.not_eq_true',Bool.and_eq_false_iff,beq_eq_false_iff_ne,ne_eq];omega
  rw [if_pos this];exact zzi.2 rfl
def jZ{r:Int}(h0:0<=r)(h6:r<6):(aH (r-1)&&aH (r+2))=true:=by
 simp! [aH,zza,zzN];omega
def JC(F:aN)(ho:sZ F){rows:List Str}(R:qh rows){r c:Int}(UG:0<=r)(hr:r<6)(Ur:0<=c)(hc:c<6):
 au F aP [fl rows,sp r c]=.ok (.lst ((oA rows r c).map FV)):=by
 have inner:∀(r':Int) (acc:List PV) (s4:Ci.Slot),acc.length+3<=50->∃O4,forL (λx env=>((Tg.one 4).put x env).bind λaf=>az F oI af) ((fu c).map .int) [.val (fl rows),.val (sp r c),.own (.lst acc),.val (.int r'),s4]=.ok (.nx [.val (fl rows),.val (sp r c),.own (.lst (acc++(qr rows r c r').map FV)),.val (.int r'),O4]):=by
  intro r' acc s4 hl;obtain⟨s',e⟩:=ff (body:=λx env=>((Tg.one 4).put x env).bind λaf=>az F oI af) (g:=PV.int) (mk:=λacc (s:Ci.Slot)=>[.val (fl rows),.val (sp r c),.own (.lst acc),.val (.int r'),s]) (app:=λc'=>if BR rows r c r' c' then [sp r' c'] else []) (m:=1) (M:=60) (fu c) acc s4 (λc' _=>by split<;>simp) (λc' _ acc s hl=>by
   have l:acc.length<dh:=zzV (m:=60) (by omega) (by decide)
   refine⟨.val (.int c'),?_⟩;cases h1:(!((r'==r)&&((c'==c)&&true))) with
   |false=>simp! only [oI,h1,BR,Bool.false_and,zz6]
   |true=>
    cases h2:bI rows r' c' with
    |false=>simp! only [oI,h1,h2,BR,ho rows R,Bool.and_false,zz6]
    |true=>simp! only [oI,h1,h2,BR,ho rows R,Bool.and_self,l]) (by show acc.length+1*3<=60;omega)
  have k:(fu c).flatMap (λc'=>if BR rows r c r' c' then [sp r' c'] else [])=(qr rows r c r').map FV:=by
   simp! [qr,List.map_flatMap]
   congr 1
   funext c'
   split<;>rfl
  exact⟨s',by rw [e,k]⟩
 obtain⟨s',e⟩:=ff (body:=λx env=>((Tg.one 3).put x env).bind λaf=>az F oO af) (g:=PV.int) (mk:=λacc (s:Ci.Slot×Ci.Slot)=>[.val (fl rows),.val (sp r c),.own (.lst acc),s.1,s.2]) (app:=λr'=>(qr rows r c r').map FV) (m:=3) (M:=50) (fu r) [] (.no,.no) (λr' _=>by rw [zzl];exact gH ..) (λr' _ acc s hl=>by
  obtain⟨O4,e⟩:=inner r' acc s.2 hl
  refine⟨(.val (.int r'),O4),?_⟩;simp! only [oI] at e;simp! only [oO,oI,jZ Ur hc,Ml,e]) (by show 0+3*3<=50;omega)
 simp! only [oO,oI] at e;simp! only [aP,jZ UG hr,Ml,e,x5,oA,List.map_flatMap]
def E1(rows:List Str)(sl:Bool)(cl pr:Int)(u v:List Int)(e:Int):Prop:=∃r c r' c',u=[r,c]/\v=[r',c']/\bI rows r c=true/\bI rows r' c'=true/\cF rows sl cl pr r c r' c'=some e
noncomputable abbrev tK(t:List Int×Int):PV:=.tup [ae t.1,.int t.2]
def AR(F:aN):Prop:=∀rows w,Fl rows w->∀sl cl pr,Wk cl pr->∀r c r' c',bI rows r c=true->bI rows r' c'=true->F "step_cost" [fl rows,wk sl cl pr,sp r c,sp r' c']=.ok (oP (cF rows sl cl pr r c r' c'))
def Fh(F:aN):Prop:=∀rows,qh rows->∀r c,0<=r->r<6->0<=c->c<6->F "open_spots_beside" [fl rows,sp r c]=.ok (.lst ((oA rows r c).map FV))
def Bz(F:aN):Prop:=∀rows,qh rows->∀r c,bI rows r c=true->F "need_open" [fl rows,sp r c]=.ok .ay
def r8(f:List PV->Res PV):Prop:=∀rows w,Fl rows w->∀sl cl pr,Wk cl pr->∀r c,bI rows r c=true->∃T:List (List Int×Int),f [fl rows,wk sl cl pr,ae [r,c]]=.ok (.lst (T.map tK))/\T.length<=9/\∀v e,(v,e)∈T↔E1 rows sl cl pr [r,c] v e
def jm(F:aN):Prop:=r8 (F "steps_from")
noncomputable def LD:Ss:=#v[.set 5 (.call "step_cost" #v[!0,!1,!2,!4]),.ite (.cmp .vn (!5) (.cst .ay)) #v[.app 3 (.tup #v[!4,!5])] .nil]
def z9{rows:List Str}{w:Nat}(L:Fl rows w){r c:Int}(h:bI rows r c=true):0<=r/\r<6/\0<=c/\c<6:=by
 have h1:=gc L h
 have h2:=L.yd.1
 have h3:=L.yd.2 _ (List.getElem_mem L.ne)
 rw [L.BY _ (List.getElem_mem L.ne)] at h3;omega
def AD(F:aN)(hn:Bz F)(hb:Fh F)(hs:AR F):r8 (au F cm):=by
 intro rows w L sl cl pr V r c h;obtain⟨r0,r6,c0,c6⟩:=z9 L h
 have Ki:∀p:Int×Int,((cF rows sl cl pr r c p.1 p.2).toList.map λe=>(([p.1,p.2]:List Int),e)).length<=1:=λp=>by cases cF rows sl cl pr r c p.1 p.2<;>simp
 refine⟨(oA rows r c).flatMap λp=>(cF rows sl cl pr r c p.1 p.2).toList.map λe=>([p.1,p.2],e),?_,?_,?_⟩
 ·obtain⟨s',e⟩:=ff (body:=λx env=>((Tg.one 4).put x env).bind λaf=>az F LD af) (g:=FV) (mk:=λacc (s:Ci.Slot×Ci.Slot)=>[.val (fl rows),.val (wk sl cl pr),.val (sp r c),.own (.lst acc),s.1,s.2]) (app:=λp=>((cF rows sl cl pr r c p.1 p.2).toList.map λe=>(([p.1,p.2]:List Int),e)).map tK) (m:=1) (M:=50) (oA rows r c) [] (.no,.no) (λp _=>by rw [zzl];exact Ki p) (λp hp acc s hl=>by
   have l:acc.length<dh:=zzV (m:=50) (by omega) (by decide)
   have e:=hs rows w L sl cl pr V r c p.1 p.2 h (kG.1 hp).2
   cases hq:cF rows sl cl pr r c p.1 p.2 with
   |none=>
    rw [hq] at e;have e5:ef .ay .ay=.ok (.bl false):=rfl
    simp! [oP] at e;exact⟨(.val (FV p),.val .ay),by simp! only [LD,e,e5,Option.toList_none,zz6]⟩
   |some v=>
    rw [hq] at e;have e5:ef (.int v) .ay=.ok (.bl true):=rfl
    simp! [oP] at e;exact⟨(.val (FV p),.val (.int v)),by simp! only [LD,e,e5,Option.toList_some,l];rfl⟩) (by
   have:=sj rows r c
   show 0+1*_<=50
   omega)
  have k:ae [r,c]=sp r c:=rfl
  simp! only [LD] at e;simp! only [k,cm,hn rows L.yd r c h,hb rows L.yd r c r0 r6 c0 c6,e,x5,List.map_flatMap]
 ·have:=sj rows r c
  have key:∀l:List (Int×Int),(l.flatMap λp=>(cF rows sl cl pr r c p.1 p.2).toList.map λe=>(([p.1,p.2]:List Int),e)).length<=l.length:=by
   intro l
   induction l with
   |nil=>exact zzE _
   |cons p l ih=>
    have:=Ki p
    simp! [List.flatMap_cons,zzM,zzL];omega
  exact zzU (key _) this
 ·intro v e;simp! [List.mem_flatMap,zzx,Option.mem_toList,Option.mem_def,Prod.mk.injEq]
  constructor
  ·rintro ⟨p,hp,e',he,rfl,rfl⟩
   exact⟨r,c,p.1,p.2,rfl,rfl,h,(kG.1 hp).2,he⟩
  ·rintro ⟨a,b,r',c',hu,rfl,_,ho,he⟩
   cases hu;refine⟨(r',c'),kG.2 ⟨λhf=>?_,ho⟩,e,he,rfl,rfl⟩
   rw [show cF rows sl cl pr r c r' c'=none from if_pos hf] at he;cases he
abbrev Ks:=List (List Int)
theorem gh:∀k:List Int,intsOf (k.map .int)=some k
 |[]=>rfl
 |i::k=>by simp! [zzF,intsOf,gh k,Option.map_some]
def dD(k:List Int):d5 (ae k)=some k:=gh k
theorem fG{α:Type}:∀{ks:List (List Int)} {vs:List α} (k:List Int),ks.length=vs.length->cS ks k=(ba ks vs k).isSome
 |[],[],_,_=>rfl
 |k'::ks,v::vs,k,h=>by
  have ih:=fG (ks:=ks) (vs:=vs) k (by simpa using h)
  by_cases e:k'=k
  ·simp [cS,ba,e]
  ·simp! [cS] at ih;simp [cS,ba,e,ih]
theorem qu{α:Type}(k:List Int)(p:α):∀(ks:List (List Int)) (vs:List α) (x:List Int),ba ks (List.zipWith (λk' v=>if k'=k then p else v) ks vs) x=(ba ks vs x).map λv=>if x=k then p else v
 |[],_,_=>by simp [ba]
 |_::_,[],_=>by simp [ba]
 |k'::ks,v::vs,x=>by
  simp! [List.zipWith_cons_cons,ba,qu k p ks vs x]
  by_cases e:k'=x
  ·subst e;simp
  ·simp [e]
theorem n0{α:Type}(k:List Int)(p:α):∀(ks:List (List Int)) (vs:List α) (x:List Int),ks.length=vs.length->ba (ks++[k]) (vs++[p]) x=(ba ks vs x).or (if k=x then some p else none)
 |[],[],x,_=>by simp [ba]
 |k'::ks,v::vs,x,h=>by
  simp! [List.cons_append,ba,n0 k p ks vs x (by simpa using h)];split<;>simp
def kK{α:Type}{ks:List (List Int)}{vs:List α}(h:ks.length=vs.length)(k:List Int)(p:α)(x:List Int):ba (cu ks k) (cP ks vs k p) x=if k=x then some p else ba ks vs x:=by
 have hh:=fG (vs:=vs) k h
 unfold cu cP;cases hk:cS ks k with
 |true=>
  rw [hk] at hh;simp! [if_true,qu]
  by_cases e:k=x
  ·subst e;obtain⟨v,hv⟩:=zzp.1 hh.symm
   simp [hv]
  ·rw [if_neg e];have e':¬x=k:=λz=>e z.symm
   cases ba ks vs x<;>simp [e']
 |false=>
  rw [hk] at hh;simp! [zze,if_false,n0 k p ks vs x h]
  by_cases e:k=x
  ·subst e;have:ba ks vs k=none:=by simpa using hh.symm
   simp [this]
  ·simp [e]
def rb{α:Type}{ks:List (List Int)}{vs:List α}(h:ks.length=vs.length)(k:List Int)(p:α):(cu ks k).length=(cP ks vs k p).length:=by
 unfold cu cP;split<;>simp [h]
def wR(ks:List (List Int))(k:List Int):(cu ks k).length<=ks.length+1:=by
 unfold cu;split<;>simp
def cR{ks:List (List Int)}{k:List Int}:cS ks k=true↔k∈ks:=by
 simp [cS]
def qv{ks:List (List Int)}(h:ks.Nodup)(k:List Int):(cu ks k).Nodup:=by
 unfold cu;split
 ·exact h
 ·rename_i hk;rw [cR] at hk;refine List.nodup_append.2 ⟨h,by simp,?_⟩;intro a ha b hb e;rw [zzi] at hb;exact hk (hb▸e▸ha)
def Nq{ks:Ks}{vs:List PV}{k:List Int}:f9 (ae k) (.br ks vs)=.ok (.bl (!cS ks k)):=by
 show(Res.of (d5 (ae k))).bind (λk=>Res.ok (PV.bl (!cS ks k)))=_
 rw [dD]
 rfl
theorem MB{ks:Ks}{vs:List PV}:cH .len [.br ks vs]=.ok (.int ks.length):=rfl
theorem eE:∀{a b:List Int},HT.lexLt a b=true->HT.lexLt b a=false
 |[],[],h=>by cases h
 |[],_::_,_=>rfl
 |_::_,[],h=>by cases h
 |x::a,y::b,h=>by
  simp! [HT.lexLt] at h⊢;split at h
  ·subst x;rw [if_pos rfl];exact eE h
  ·have h:=zzY h
   rw [if_neg (by omega)];exact zz0 (by omega)
def jq(a:List Int):HT.lexLt a a=false:=by
 cases h:HT.lexLt a a with
 |false=>rfl
 |true=>have:=eE h;rw [h] at this;exact this
abbrev yb(L:Ks):Prop:=L.Pairwise λa b=>HT.lexLt a b=true
def yb.nodup{L:Ks}(h:yb L):L.Nodup:=h.imp λ{a b} e z=>by rw [z,jq] at e;cases e
theorem vm:∀(n:Nat) (a b:List Int),eqs (gq n) (a.map .int) (b.map .int)=decide (a=b)
 |_,[],[]=>rfl
 |_,[],_::_=>rfl
 |_,_::_,[]=>rfl
 |n,x::a,y::b=>by
  have:gq n (.int x) (.int y)=(x==y):=by cases n<;>rfl
  simp! [zzF,eqs,vm n a b,this];rw [Bool.eq_iff_iff];simp
def kB(n:Nat)(a b:List Int):gq (n+1) (ae a) (ae b)=decide (a=b):=vm n a b
theorem qo:∀(n:Nat) (a b:Ks),eqs (gq (n+1)) (a.map ae) (b.map ae)=decide (a=b)
 |_,[],[]=>rfl
 |_,[],_::_=>rfl
 |_,_::_,[]=>rfl
 |n,x::a,y::b=>by
  simp! [zzF,eqs,qo n a b,kB];rw [Bool.eq_iff_iff];simp
def B5(n:Nat)(a:List Int):(a.map PV.int).all (Ci.plain n)=true:=by
 simp! [zzT,zzx]
 rintro x ⟨i,_,rfl⟩
 cases n<;>rfl
def ft(n:Nat)(a:List Int):Ci.plain (n+1) (ae a)=true:=B5 n a
def oC(n:Nat)(a:Ks):(a.map ae).all (Ci.plain (n+1))=true:=by
 simp! [zzT,zzx]
 rintro x ⟨i,_,rfl⟩
 exact ft n i
def pB(n:Nat)(a:Ks):Ci.plain (n+2) (.lst (a.map ae))=true:=oC n a
def NF(a b:Ks):eX (.lst (a.map ae)) (.lst (b.map ae))=.ok (.bl (!decide (a=b))):=by
 show(if(Ci.plain 9 (.lst (a.map ae))&&Ci.plain 9 (.lst (b.map ae)))=true then Res.ok (PV.bl (!gq 9 (.lst (a.map ae)) (.lst (b.map ae)))) else .bad)=_
 rw [pB 7,pB 7];exact congrArg (λz=>Res.ok (PV.bl (!z))) (qo 7 a b)
def mem_keys(k:List Int)(L:Ks):xM (ae k) (L.map ae)=decide (k∈L):=by
 unfold xM;rw [List.any_map,Bool.eq_iff_iff,zzj,zzN]
 constructor
 ·rintro ⟨x,hx,e⟩
  have:decide (x=k)=true:=(kB 8 x k).symm.trans e
  exact zzY this▸hx
 ·intro h;exact⟨k,h,(kB 8 k k).trans (zzh rfl)⟩
def Q0(k:List Int)(L:Ks):f9 (ae k) (.lst (L.map ae))=.ok (.bl (!decide (k∈L))):=by
 show(if(Ci.plain 9 (ae k)&&(L.map ae).all (Ci.plain 9))=true then Res.ok (PV.bl (!xM (ae k) (L.map ae))) else .bad)=_
 rw [ft 8,oC 8,mem_keys]
 rfl
def SS(k:List Int)(L:Ks):uC (ae k) (.lst (L.map ae))=.ok (.bl (decide (k∈L))):=by
 show(if(Ci.plain 9 (ae k)&&(L.map ae).all (Ci.plain 9))=true then Res.ok (PV.bl (xM (ae k) (L.map ae))) else .bad)=_
 rw [ft 8,oC 8,mem_keys]
 rfl
def jk(rows:List Str)(u:List Int):Prop:=∃r c,u=[r,c]/\bI rows r c=true
noncomputable def FI:Ks:=(List.range 6).flatMap λ(r:Nat)=>(List.range 6).map λ(c:Nat)=>[(r:Int),(c:Int)]
def D0:FI.length=36:=by decide
def UQ{rows:List Str}{w:Nat}(L:Fl rows w){u:List Int}(h:jk rows u):u∈FI:=by
 obtain⟨r,c,rfl,h⟩:=h
 obtain⟨a,b,d,e⟩:=z9 L h
 refine List.mem_flatMap.2 ⟨r.toNat,List.mem_range.2 (by omega),zzx.2 ⟨c.toNat,List.mem_range.2 (by omega),?_⟩⟩;rw [Int.toNat_of_nonneg a,Int.toNat_of_nonneg d]
def lQ{rows:List Str}{sl:Bool}{cl pr r c r' c' e:Int}:cF rows sl cl pr r c r' c'=some e↔¬fN r c r' c'/\(r≠r'/\c≠c'->sl=true/\bI rows r c'=true/\bI rows r' c=true)/\bM rows r' c'-bM rows r c<=cl/\bM rows r c-bM rows r' c'<=cl/\e=(if r≠r'/\c≠c' then 3 else 2)+pr*(if bM rows r' c'-bM rows r c>0 then bM rows r' c'-bM rows r c else 0):=by
 unfold cF
 by_cases h1:fN r c r' c'
 ·rw [if_pos (show(r=r'/\c=c')\/1<r-r'\/1<r'-r\/1<c-c'\/1<c'-c from h1)];exact⟨(λz=>by cases z),λz=>absurd h1 z.1⟩
 ·have ya:¬((r=r'/\c=c')\/1<r-r'\/1<r'-r\/1<c-c'\/1<c'-c):=h1
  rw [if_neg ya]
  by_cases h2:(r≠r'/\c≠c')/\¬(sl=true/\bI rows r c'=true/\bI rows r' c=true)
  ·rw [if_pos h2];exact⟨(λz=>by cases z),λz=>absurd (z.2.1 h2.1) h2.2⟩
  ·rw [if_neg h2];have x6:r≠r'/\c≠c'->sl=true/\bI rows r c'=true/\bI rows r' c=true:=λa=>Classical.byContradiction λb=>h2 ⟨a,b⟩
   by_cases h3:cl<bM rows r' c'-bM rows r c\/cl<bM rows r c-bM rows r' c'
   ·rw [if_pos h3];exact⟨(λz=>by cases z),λz=>by omega⟩
   ·rw [if_neg h3];refine⟨λz=>⟨h1,x6,by omega,by omega,by cases z;rfl⟩,λz=>by rw [z.2.2.2.2]⟩
def AG{rows:List Str}{w:Nat}(L:Fl rows w){sl:Bool}{cl pr:Int}(V:Wk cl pr){u v:List Int}{e:Int}(h:E1 rows sl cl pr u v e):0<e/\e<=30/\jk rows v:=by
 obtain⟨r,c,r',c',h1,h2,h3,h4,h5⟩:=h
 rw [lQ] at h5;obtain⟨_,_,_,_,_,l1,l2⟩:=lE L h3
 obtain⟨_,_,_,_,_,m1,m2⟩:=lE L h4
 have p0:=V.p0
 have p4:=V.p4
 have e5:=h5.2.2.2.2
 generalize hm:(if bM rows r' c'-bM rows r c>0 then bM rows r' c'-bM rows r c else 0)=m at e5
 have QD:0<=m/\m<=9:=by rw [<-hm];split<;>omega
 generalize hf:(if r≠r'/\c≠c' then(3:Int) else 2)=f at e5
 have Vo:2<=f/\f<=3:=by rw [<-hf];split<;>omega
 have a1:=Int.mul_nonneg p0 QD.1
 have a2:pr*m<=3*9:=Int.mul_le_mul (by omega) QD.2 QD.1 (by omega)
 exact⟨by omega,by omega,r',c',h2,h4⟩
def Ln(f:List PV->Res PV):Prop:=∀rows,qh rows->∃S:Ks,f [fl rows]=.ok (.lst (S.map ae))/\S.length<=36/\yb S/\∀k,k∈S↔jk rows k
def GR{F:aN}(h:vC F):Ln (F "_law_spots"):=by
 intro rows R;obtain⟨L,e,hu,hl,hm⟩:=h rows R
 refine⟨L.map kN,?_,by simpa using hl,?_,λk=>?_⟩
 ·rw [e,List.map_map]
  rfl
 ·exact List.pairwise_map.2 hu
 ·rw [zzx]
  constructor
  ·rintro ⟨p,hp,rfl⟩
   have:=(hm p.1 p.2).1 hp
   exact⟨_,_,rfl,gJ.2 ⟨by omega,by omega,this⟩⟩
  ·rintro ⟨r,c,rfl,h⟩
   obtain⟨a,b,d⟩:=gJ.1 h
   refine⟨(r.toNat,c.toNat),(hm _ _).2 d,?_⟩;show [(r.toNat:Int),(c.toNat:Int)]=[r,c]
   rw [Int.toNat_of_nonneg a,Int.toNat_of_nonneg b]
def AI{α:Type}(xs:List α){k:Nat}(h:k<=xs.length):lY xs (some (k:Int)) none=xs.drop k:=by
 unfold lY;rw [HT.uT,HT.kD,Nat.min_eq_left h];exact List.take_of_length_le (by simp)
def oT{rows:List Str}{w:Nat}(L:Fl rows w){r c:Int}(h0:0<=r)(h1:r<rows.length)(h2:0<=c)(h3:c<w):∃z,aE (fl rows) (.int r)=.ok (.str z)/\∃x:Nat,aE (.str z) (.int c)=.ok (.str ⟨#[x]⟩)/\(x !=35)=bI rows r c:=by
 obtain⟨i,rfl⟩:=zzw h0
 obtain⟨j,rfl⟩:=zzw h2
 obtain⟨x,hx⟩:=MZ L (i:=i) (j:=j) (by omega) (by omega)
 obtain⟨z,_,e1,e2⟩:=zx L.yd hx
 exact⟨z,e1,x,e2,by simp [bI,xa,hx]⟩
def AU(x:Nat):iB (.str ⟨#[x]⟩) (.str "#")=.ok (.bl (!(x !=35))):=by
 have:(("#":Str))=⟨#[35]⟩:=by decide+kernel
 rw [this];show Res.ok (PV.bl ((⟨#[x]⟩:Str)==⟨#[35]⟩))=_
 congr 2
 rw [bne,Bool.not_not,Bool.eq_iff_iff];simp
def Af{t u:Bool}:(if t=true then Res.ok (PV.bl true) else Res.ok (PV.bl u))=Res.ok (PV.bl (t||u)):=by cases t<;>rfl
noncomputable def N1:Ss:=#v[.ret (.bin .add (!5) (.ite (.cmp .gt (!4) (¬0)) (.bin .mul (.sub (!1) (¬2)) (!4)) (¬0)))]
noncomputable def Kl:Ss:=.cons (.ite (.and (.cmp .ne (.sub (!2) (¬0)) (.sub (!3) (¬0))) (.cmp .ne (.sub (!2) (¬1)) (.sub (!3) (¬1)))) #v[.ite (.or (.not (.sub (!1) (¬0))) (.or (.cmp .eq (.sub (.sub (!0) (.sub (!2) (¬0))) (.sub (!3) (¬1))) (.cst (.str "#"))) (.cmp .eq (.sub (.sub (!0) (.sub (!3) (¬0))) (.sub (!2) (¬1))) (.cst (.str "#"))))) #v[.ret (.cst .ay)] .nil,.set 5 (¬3)] .nil) N1
noncomputable def Of:Ss:=.cons (.ite (.or (.cmp .gt (!4) (.sub (!1) (¬1))) (.cmp .gt (.bin .sub (¬0) (!4)) (.sub (!1) (¬1)))) #v[.ret (.cst .ay)] .nil) Kl
theorem D5:bt.body=(.cons (.set 4 (.bin .sub (.blt .int #v[.sub (.sub (!0) (.sub (!3) (¬0))) (.sub (!3) (¬1))]) (.blt .int #v[.sub (.sub (!0) (.sub (!2) (¬0))) (.sub (!2) (¬1))]))) (.cons (.set 5 (¬2)) Of)):=rfl
noncomputable abbrev O6(A:PV)(sl:Bool)(cl pr r c r' c' ri k:Int):Sl:=[.val A,.val (wk sl cl pr),.val (sp r c),.val (sp r' c'),.val (.int ri),.val (.int k)]
def zZ(F:aN)(A:PV)(sl:Bool){cl pr:Int}(V:Wk cl pr)(r c r' c' ri k:Int):az F N1 (O6 A sl cl pr r c r' c' ri k)=.ok (.rt (.int (k+pr*(if ri>0 then ri else 0)))):=by
 have ms:=nN (j:=ri) V.p0 V.p4
 by_cases hp:0<ri
 ·rw [if_pos hp];simp! only [N1,hp,decide_true,ms]
 ·rw [if_neg hp,Int.mul_zero];simp! only [N1,hp,decide_false]
def Ij(F:aN){rows:List Str}{w:Nat}(L:Fl rows w){sl:Bool}{cl pr:Int}(V:Wk cl pr){r c r' c':Int}(h:bI rows r c=true)(h':bI rows r' c'=true)(ri:Int):
 az F Kl (O6 (fl rows) sl cl pr r c r' c' ri 2)=.ok (.rt (if(r≠r'/\c≠c')/\¬(sl=true/\bI rows r c'=true/\bI rows r' c=true) then .ay else .int ((if r≠r'/\c≠c' then 3 else 2)+pr*(if ri>0 then ri else 0)))):=by
 have i1:=gc L h
 have i2:=gc L h'
 obtain⟨z3,c1,x3,c2,c3⟩:=oT L (r:=r) (c:=c') i1.1 i1.2.1 i2.2.2.1 i2.2.2.2
 obtain⟨z4,d1,x4,d2,d3⟩:=oT L (r:=r') (c:=c) i2.1 i2.2.1 i1.2.2.1 i1.2.2.2
 have e3:=zZ F (fl rows) sl V r c r' c' ri 3
 have e2:=zZ F (fl rows) sl V r c r' c' ri 2
 by_cases n3:r≠r'/\c≠c'
 ·have BV:(!(r==r'))=true:=by simpa using n3.1
  have Bm:(!(c==c'))=true:=by simpa using n3.2
  rw [if_pos n3]
  by_cases hb:sl=true/\bI rows r c'=true/\bI rows r' c=true
  ·rw [if_neg λz=>z.2 hb]
   have hB:(!sl||(!bI rows r c'||!bI rows r' c))=false:=by rw [hb.1,hb.2.1,hb.2.2];rfl
   simp! only [Kl,c1,c2,d1,d2,AU,c3,d3,Af,BV,Bm,hB,Bool.true_or,e3]
  ·rw [if_pos ⟨n3,hb⟩];have hB:(!sl||(!bI rows r c'||!bI rows r' c))=true:=by
    cases sl with
    |false=>rfl
    |true=>
     cases o1:bI rows r c' with
     |false=>rfl
     |true=>
      cases o2:bI rows r' c with
      |false=>rfl
      |true=>exact absurd ⟨rfl,o1,o2⟩ hb
   simp! only [Kl,c1,c2,d1,d2,AU,c3,d3,Af,BV,Bm,hB,Bool.true_or]
 ·rw [if_neg λz=>n3 z.1,if_neg n3]
  cases BV:(!(r==r')) with
  |false=>simp! only [Kl,BV,e2]
  |true=>
   have Bm:(!(c==c'))=false:=by
    cases Bm:(!(c==c')) with
    |false=>rfl
    |true=>exact absurd ⟨by simpa using BV,by simpa using Bm⟩ n3
   simp! only [Kl,BV,Bm,e2]
def tP(F:aN){rows:List Str}{w:Nat}(L:Fl rows w){sl:Bool}{cl pr:Int}(V:Wk cl pr){r c r' c':Int}(h:bI rows r c=true)(h':bI rows r' c'=true)(hf:¬fN r c r' c'):
 au F bt [fl rows,wk sl cl pr,sp r c,sp r' c']=.ok (oP (cF rows sl cl pr r c r' c')):=by
 obtain⟨z1,x1,a1,a2,a3,_⟩:=lE L h
 obtain⟨z2,x2,b1,b2,b3,_⟩:=lE L h'
 have q1:cF rows sl cl pr r c r' c'=_:=if_neg hf
 rw [q1];have st:bJ bt [fl rows,wk sl cl pr,sp r c,sp r' c']=[.val (fl rows),.val (wk sl cl pr),.val (sp r c),.val (sp r' c'),.no,.no]:=rfl
 have ar:bL bt [fl rows,wk sl cl pr,sp r c,sp r' c']=true:=rfl
 have e4:=Ij F L V (sl:=sl) h h' (bM rows r' c'-bM rows r c)
 have go:∀x,az F Of (O6 (fl rows) sl cl pr r c r' c' (bM rows r' c'-bM rows r c) 2)=.ok (.rt x)->au F bt [fl rows,wk sl cl pr,sp r c,sp r' c']=.ok x:=λx e=>by
  unfold au;rw [ar,if_pos rfl,st,D5];simp! [az,fK,aA,cT,J,J2,a1,a2,a3,b1,b2,b3,e]
 by_cases hz:cl<bM rows r' c'-bM rows r c\/cl<bM rows r c-bM rows r' c'
 ·have:(if(r≠r'/\c≠c')/\¬(sl=true/\bI rows r c'=true/\bI rows r' c=true) then none else if cl<bM rows r' c'-bM rows r c\/cl<bM rows r c-bM rows r' c' then none else some ((if r≠r'/\c≠c' then 3 else 2)+pr*(if bM rows r' c'-bM rows r c>0 then bM rows r' c'-bM rows r c else 0)))=(none:Option Int):=by
   rw [if_pos hz];split<;>rfl
  rw [this];have hb:(decide (cl<bM rows r' c'-bM rows r c)||decide (cl<0-(bM rows r' c'-bM rows r c)))=true:=by
   rw [zzt,zzN,zzN];omega
  refine go .ay ?_;simp! only [Of,Af,hb]
 ·have hb:(decide (cl<bM rows r' c'-bM rows r c)||decide (cl<0-(bM rows r' c'-bM rows r c)))=false:=by
   rw [Bool.or_eq_false_iff,decide_eq_false_iff_not,decide_eq_false_iff_not];omega
  rw [if_neg hz];refine(go _ ((?_:_=_).trans e4)).trans ?_
  ·simp! only [Of,Af,hb]
  ·split<;>rfl
def nC(F:aN):Prop:=∀rows w,Fl rows w->∀sl cl pr,Wk cl pr->∀r c r' c',bI rows r c=true->bI rows r' c'=true->¬fN r c r' c'->F "_law_cost" [fl rows,wk sl cl pr,sp r c,sp r' c']=.ok (oP (cF rows sl cl pr r c r' c'))
noncomputable def Hb(rows:List Str)(sl:Bool)(cl pr r c:Int)(i:Nat):Option (List Int×Int):=if i≠4/\bI rows (r-1+i/3) (c-1+i%3)=true then(cF rows sl cl pr r c (r-1+i/3) (c-1+i%3)).map λv=>([r-1+(i:Int)/3,c-1+(i:Int)%3],v) else none
noncomputable def Hf(rows:List Str)(sl:Bool)(cl pr r c:Int)(i:Nat):Option PV:=if i≠4/\bI rows (r-1+i/3) (c-1+i%3)=true then(cF rows sl cl pr r c (r-1+i/3) (c-1+i%3)).map λv=>tK ([r-1+(i:Int)/3,c-1+(i:Int)%3],v) else none
noncomputable def kC:E:=.and (.ch .le .lt (¬0) (!5) (.blt .len #v[!0])) (.and (.ch .le .lt (¬0) (!6) (.blt .len #v[.sub (!0) (¬0)])) (.and (.cmp .ne (!4) (¬4)) (.cmp .ne (.sub (.sub (!0) (!5)) (!6)) (.cst (.str "#")))))
noncomputable def kT:Ss:=#v[.set 7 (.call "_law_cost" #v[!0,!1,!2,.tup #v[!5,!6]]),.ite (.cmp .vn (!7) (.cst .ay)) #v[.app 3 (.tup #v[.tup #v[!5,!6],!7])] .nil]
noncomputable def kR:Ss:=#v[.ite kC kT .nil]
noncomputable def rW:Ss:=.cons (.set 5 (.bin .add (.bin .sub (.sub (!2) (¬0)) (¬1)) (.bin .fdiv (!4) (¬3)))) (.cons (.set 6 (.bin .add (.bin .sub (.sub (!2) (¬1)) (¬1)) (.bin .mod (!4) (¬3)))) kR)
def vp{t u:Bool}:(if t=true then Res.ok (PV.bl u) else Res.ok (PV.bl false))=Res.ok (PV.bl (t&&u)):=by cases t<;>rfl
def UE{rows:List Str}{w:Nat}(L:Fl rows w):∃z,aE (fl rows) (.int 0)=.ok (.str z)/\z.length=w/\z.length<=dh:=by
 have hz:rows[0]?=some (rows[0]'L.ne):=zzg L.ne
 have hm:=zzD hz
 exact⟨_,yI (j:=0) hz,L.BY _ hm,zzU (L.yd.2 _ hm) (by decide)⟩
def Md(F:aN){rows:List Str}{w:Nat}(L:Fl rows w)(A B:PV)(i:Nat)(s3 s7:Ci.Slot)(r' c':Int):
 aA F kC [.val (fl rows),.val A,.val B,s3,.val (.int i),.val (.int r'),.val (.int c'),s7]=.ok (.bl (decide (i≠4/\bI rows r' c'=true))):=by
 obtain⟨z0,f1,f2,f3⟩:=UE L
 have Tj:(z0.length:Int)=(w:Int):=by rw [f2]
 by_cases hA:0<=r'/\r'<rows.length
 ·by_cases hB:0<=c'/\c'<w
  ·obtain⟨z,g1,x,g2,g3⟩:=oT L hA.1 hA.2 hB.1 hB.2
   have e:decide (i≠4/\bI rows r' c'=true)=((!((i:Int)==4))&&bI rows r' c'):=by
    rw [Bool.eq_iff_iff,zza,zzN];simp;omega
   rw [e];simp! only [kC,hA.1,hA.2,hB.1,hB.2,f1,Tj,f3,decide_true,zzl,g1,g2,g3,tZ,vp,Bool.true_and]
  ·have e:decide (i≠4/\bI rows r' c'=true)=false:=zz0 λz=>hB (gc L z.2).2.2
   have q:(decide (0<=c')&&decide (c'<(w:Int)))=false:=by
    rw [<-Bool.decide_and];exact zz0 hB
   rw [e];simp! only [kC,hA.1,hA.2,f1,Tj,f3,decide_true,zzl,vp,q,Bool.true_and,Bool.false_and]
 ·have e:decide (i≠4/\bI rows r' c'=true)=false:=zz0 λz=>hA ⟨(gc L z.2).1,(gc L z.2).2.1⟩
  have q:(decide (0<=r')&&decide (r'<(rows.length:Int)))=false:=by
   rw [<-Bool.decide_and];exact zz0 hA
  rw [e];simp! only [kC,zzl,vp,q,Bool.true_and,Bool.false_and]
def A0(F:aN)(hc:nC F){rows:List Str}{w:Nat}(L:Fl rows w){sl:Bool}{cl pr:Int}(V:Wk cl pr){r c:Int}(h:bI rows r c=true)(i:Nat)(hi:i<9)(acc:List PV)(hT:acc.length<=100)(t4 t5 t6 t7:Ci.Slot):
 ∃(u:Ci.Slot),(((Tg.one 4).put (.int i) [.val (fl rows),.val (wk sl cl pr),.val (sp r c),.own (.lst acc),t4,t5,t6,t7]).bind λaf=>az F rW af)=
  .ok (.nx [.val (fl rows),.val (wk sl cl pr),.val (sp r c),.own (.lst (acc++(Hf rows sl cl pr r c i).toList)),.val (.int i),.val (.int (r-1+i/3)),.val (.int (c-1+i%3)),u]):=by
 have q3:(0:Int)<3:=by decide
 have q4:(0:Int)<3/\(3:Int)<1073741824:=by decide
 have PJ:acc.length<dh:=zzV hT (by decide)
 have kc:=Md F L (wk sl cl pr) (sp r c) i (.own (.lst acc)) t7 (r-1+(i:Int)/3) (c-1+(i:Int)%3)
 have go:∀x,az F kR [.val (fl rows),.val (wk sl cl pr),.val (sp r c),.own (.lst acc),.val (.int i),.val (.int (r-1+i/3)),.val (.int (c-1+i%3)),t7]=x->(((Tg.one 4).put (.int i) [.val (fl rows),.val (wk sl cl pr),.val (sp r c),.own (.lst acc),t4,t5,t6,t7]).bind λaf=>az F rW af)=x:=λx e=>by
  simp! only [rW,q3,q4,and_self,e]
 unfold Hf
 by_cases hq:i≠4/\bI rows (r-1+i/3) (c-1+i%3)=true
 ·rw [if_pos hq];rw [zzh hq] at kc;have nf:¬fN r c (r-1+i/3) (c-1+i%3):=by unfold fN;omega
  have e:=hc rows w L sl cl pr V r c _ _ h hq.2 nf
  cases hs:cF rows sl cl pr r c (r-1+i/3) (c-1+i%3) with
  |none=>
   rw [hs] at e;simp! [oP] at e;have e5:ef .ay .ay=.ok (.bl false):=rfl
   refine⟨.val .ay,go _ ?_⟩;rw [kR,az,fK,kc];simp! only [kT,e,e5,Option.map_none,Option.toList_none,zz6]
  |some v=>
   rw [hs] at e;simp! [oP] at e;have e5:ef (.int v) .ay=.ok (.bl true):=rfl
   refine⟨.val (.int v),go _ ?_⟩;rw [kR,az,fK,kc];simp! only [kT,e,e5,PJ,Option.map_some,Option.toList_some]
   rfl
 ·rw [if_neg hq];rw [zz0 hq] at kc;refine⟨t7,go _ ?_⟩;rw [kR,az,fK,kc];simp! only [Option.toList_none,zz6]
def F5(rows:List Str)(sl:Bool)(cl pr r c:Int)(i:Nat):Hf rows sl cl pr r c i=(Hb rows sl cl pr r c i).map tK:=by
 unfold Hf Hb;split
 ·rw [Option.map_map];rfl
 ·rfl
theorem u3{α β:Type}(f:α->Option β):∀l:List α,(l.flatMap λa=>(f a).toList)=l.filterMap f
 |[]=>rfl
 |a::l=>by
  rw [List.flatMap_cons,u3 f l,List.filterMap_cons];cases f a<;>rfl
def nP(f:List PV->Res PV):Prop:=∀rows w,Fl rows w->∀sl cl pr,Wk cl pr->∀r c,bI rows r c=true->∃T:List (List Int×Int),f [fl rows,wk sl cl pr,ae [r,c]]=.ok (.lst (T.map tK))/\T.length<=9/\(T.Pairwise λa b=>a.1≠b.1)/\∀v e,(v,e)∈T↔E1 rows sl cl pr [r,c] v e
def fE(F:aN):Prop:=nP (F "_law_steps")
def wN(F:aN)(hc:nC F):nP (au F bf):=by
 intro rows w L sl cl pr V r c h;refine⟨(List.range 9).filterMap (Hb rows sl cl pr r c),?_,zzU (List.length_filterMap_le _ _) (by simp),?_,λv e=>?_⟩
 ·obtain⟨s',e⟩:=ff (body:=λx env=>((Tg.one 4).put x env).bind λaf=>az F rW af) (g:=λi:Nat=>PV.int (i:Int)) (mk:=λacc (s:Ci.Slot×Ci.Slot×Ci.Slot×Ci.Slot)=>[.val (fl rows),.val (wk sl cl pr),.val (sp r c),.own (.lst acc),s.1,s.2.1,s.2.2.1,s.2.2.2]) (app:=λi=>(Hf rows sl cl pr r c i).toList) (m:=1) (M:=50) (List.range 9) [] (.no,.no,.no,.no) (λi _=>by cases Hf rows sl cl pr r c i<;>simp) (λi hi acc s hl=>by
   obtain⟨u,e⟩:=A0 F hc L V h i (List.mem_range.1 hi) acc (by omega) s.1 s.2.1 s.2.2.1 s.2.2.2
   exact⟨(_,_,_,u),e⟩) (by decide)
  have k:ae [r,c]=sp r c:=rfl
  have s:aH 9=true:=by decide
  have rg:dr 0 (9:Int).toNat=(List.range 9).map λi:Nat=>PV.int (i:Int):=by
   unfold dr;refine List.map_congr_left λi _=>?_
   rw [Int.zero_add]
  have fm:((List.range 9).flatMap λi=>(Hf rows sl cl pr r c i).toList)=((List.range 9).filterMap (Hb rows sl cl pr r c)).map tK:=by
   rw [u3,List.map_filterMap]
   congr 1
   funext i
   exact F5 ..
  rw [fm,<-rg] at e;have db:bf.body=.cons (.own 3 (.lst .nil)) (.cons (.bZ (.one 4) (.md (.cst (.int 9))) rW) (.cons (.cN 3) (.cons (.ret (.var 3)) .nil))):=rfl
  have st:bJ bf [fl rows,wk sl cl pr,sp r c]=[.val (fl rows),.val (wk sl cl pr),.val (sp r c),.no,.no,.no,.no,.no]:=rfl
  have ar:bL bf [fl rows,wk sl cl pr,sp r c]=true:=rfl
  rw [k];unfold au;rw [ar,if_pos rfl,st,db];simp! only [s] at e⊢;simp! only [e,x5]
 ·refine List.Pairwise.filterMap (S:=λa b:List Int×Int=>a.1≠b.1) (R:=λi j:Nat=>i≠j) _ (λi j oD a ha b hb Q2=>oD ?_) (List.nodup_range (n:=9));unfold Hb at ha hb;split at ha
  ·split at hb
   ·obtain⟨_,_,rfl⟩:=zzJ.1 ha
    obtain⟨_,_,rfl⟩:=zzJ.1 hb
    simp! [List.cons.injEq,and_true] at Q2;omega
   ·cases hb
  ·cases ha
 ·rw [zz1]
  constructor
  ·rintro ⟨i,hi,g⟩
   unfold Hb at g;split at g
   ·rename_i hh;obtain⟨x,hx,g⟩:=zzJ.1 g
    cases g;exact⟨r,c,_,_,rfl,rfl,h,hh.2,hx⟩
   ·cases g
  ·rintro ⟨a,b,r',c',g1,rfl,_,ho,hs⟩
   cases g1;have nf:=(lQ.1 hs).1
   unfold fN at nf;refine⟨(3*(r'-r+1)+(c'-c+1)).toNat,List.mem_range.2 (by omega),?_⟩;have e1:r-1+((3*(r'-r+1)+(c'-c+1)).toNat:Int)/3=r':=by omega
   have e2:c-1+((3*(r'-r+1)+(c'-c+1)).toNat:Int)%3=c':=by omega
   unfold Hb;rw [e1,e2,if_pos ⟨by omega,ho⟩,hs]
   rfl
def O1(a b:List Int):iB (ae a) (ae b)=.ok (.bl (decide (a=b))):=by
 show(if(Ci.plain 9 (ae a)&&Ci.plain 9 (ae b))=true then Res.ok (PV.bl (gq 9 (ae a) (ae b))) else .bad)=_
 rw [ft 8,ft 8];exact congrArg (λz=>Res.ok (PV.bl z)) (kB 8 a b)
def Ts(a b:List Int):eX (ae a) (ae b)=.ok (.bl (!decide (a=b))):=by
 show(if(Ci.plain 9 (ae a)&&Ci.plain 9 (ae b))=true then Res.ok (PV.bl (!gq 9 (ae a) (ae b))) else .bad)=_
 rw [ft 8,ft 8];exact congrArg (λz=>Res.ok (PV.bl (!z))) (kB 8 a b)
theorem kq{α:Type}{f:PV->Res (Option PV)}{p q:α->PV}{g:α->Bool}:∀{xs:List α},(∀x∈xs,f (p x)=.ok (if g x then some (q x) else none))->aK f (xs.map p)=.ok ((xs.filter g).map q)
 |[],_=>rfl
 |x::xs,h=>by
  have h1:=h x (zzP ..)
  have h2:=kq (xs:=xs) λy hy=>h y (zzI _ hy)
  simp! [zzF,aK,h1,Jr,mi,h2];cases hg:g x<;>simp [zz3,hg,oc]
theorem SF{t:List Int×Int}:aE (tK t) (.int 0)=.ok (ae t.1):=rfl
theorem nr{σ:Type}{f:PV->Res (Option PV)}{body:PV->Sl->Res Ci.Fl}{mk:List PV->σ->Sl}{M:Nat}:∀(xs ys acc:List PV) (s:σ),aK f xs=.ok ys->(∀x∈xs,∀o,f x=.ok o->∀acc s,acc.length+1<=M->∃s',body x (mk acc s)=.ok (.nx (mk (acc++o.toList) s')))->acc.length+xs.length<=M->∃s',forL body xs (mk acc s)=.ok (.nx (mk (acc++ys) s'))
 |[],ys,acc,s,h,_,_=>by cases h;exact⟨s,by simp [forL]⟩
 |x::xs,ys,acc,s,h,hb,hl=>by
  rw [zzL] at hl;simp! [aK] at h;cases hf:f x with
  |bad=>rw [hf] at h;cases h
  |exc c=>rw [hf] at h;cases h
  |ok o=>
   rw [hf,Jr,mi] at h;obtain⟨zs,hz,h⟩:=Res.aY h
   cases h;obtain⟨s1,e1⟩:=hb x (zzP ..) o hf acc s (by omega)
   have lo:o.toList.length<=1:=by cases o<;>simp
   obtain⟨s2,e2⟩:=nr xs zs (acc++o.toList) s1 hz (λy hy=>hb y (zzI _ hy)) (by rw [zzM];omega)
   refine⟨s2,?_⟩;simp! [forL,e1,mi,e2];cases o<;>simp [oc]
noncomputable def Bv:Ss:=#v[.ite (.cmp .ne (!5) (.glob "WALL" (.str "#"))) #v[.app 1 (.tup #v[!2,!4])] .nil]
noncomputable def Qk:Ss:=#v[.bZ (.two 4 5) (.enum (!3)) Bv]
theorem qN:∀{xs:List PV} {k:Nat} {x:PV},x∈bO k xs->∃(i:Nat) (y:PV),y∈xs/\x=.tup [.int (i:Int),y]
 |[],_,_,h=>by cases h
 |y::ys,k,x,h=>by
  simp! [bO,zzm] at h;rcases h with h|h
  ·exact⟨k,y,zzP ..,h⟩
  ·obtain⟨i,z,hz,e⟩:=qN h
   exact⟨i,z,zzI _ hz,e⟩
def BC(f:List PV->Res PV):Prop:=∀rows,qh rows->∃L:List (Nat×Nat),f [fl rows]=.ok (.lst (L.map x8))/\Up L/\L.length<=36/\∀r c,(r,c)∈L↔xa rows r c=true
def Aj(F:aN):BC (au F b9):=by
 intro rows R;have Tu:=R.1
 obtain⟨af,e,L,s2,s3,s4,s5,nd,hl,hm,rfl⟩:=bQ (body:=λx env=>((Tg.two 2 3).put x env).bind λaf=>az F Qk af) (P:=λi env=>∃(L:List (Nat×Nat)) (s2 s3 s4 s5:Ci.Slot),Up L/\L.length<=6*i/\(∀r c,(r,c)∈L↔r<i/\xa rows r c=true)/\env=[.val (fl rows),.own (.lst (L.map x8)),s2,s3,s4,s5])
  (bO 0 (rows.map .str)) 0 [.val (fl rows),.own (.lst []),.no,.no,.no,.no] ⟨[],_,_,_,_,uu,zzE _,(λr c=>by simp),rfl⟩ (by
  intro i x env hx hq;obtain⟨y,hy,rfl⟩:=jf hx
  obtain⟨L,s2,s3,s4,s5,nd,hl,hm,rfl⟩:=hq
  simp! [zzQ,zzJ] at hy;obtain⟨z,hz,rfl⟩:=hy
  have Kf:=R.2 z (zzD hz)
  have hi:i<rows.length:=(zzH.1 hz).1
  have zc:z.cps.toList.length=z.length:=by simp [Str.length]
  obtain⟨M,eM,nM,lM,hM⟩:=lj (f:=λx=>match x with|.tup [.int c,.str y]=>.ok (if y !="#" then some (sp i c) else none)|_=>.bad) (r:=i) (λc x=>by
   have:((⟨#[x]⟩:Str) !="#")=(x !=35):=by
    have hw:(("#":Str))=⟨#[35]⟩:=by decide+kernel
    rw [hw,bne,bne,Bool.eq_iff_iff];simp
   simp! [this]) z.cps.toList 0
  obtain⟨s',e⟩:=nr (body:=λx env=>((Tg.two 4 5).put x env).bind λaf=>az F Bv af) (mk:=λacc (s:Ci.Slot×Ci.Slot)=>[.val (fl rows),.own (.lst acc),.val (.int i),.val (.str z),s.1,s.2]) (M:=100) _ _ (L.map x8) (s4,s5) eM (λx hx o ho acc s hl=>by
   obtain⟨c,y,hy,rfl⟩:=qN hx
   obtain⟨v,_,rfl⟩:=zzx.1 hy
   have l:acc.length<dh:=zzV (m:=100) (by omega) (by decide)
   refine⟨(.val (.int c),.val (.str ⟨#[v]⟩)),?_⟩;have dH:eX (.str ⟨#[v]⟩) (.str "#")=.ok (.bl ((⟨#[v]⟩:Str) !="#")):=rfl
   cases hv:((⟨#[v]⟩:Str) !="#") with
   |true=>
    rw [hv] at dH;simp! [hv,if_true] at ho;cases ho;simp! only [Bv,dH,l,Option.toList_some]
   |false=>
    rw [hv] at dH;simp! [hv,zze,if_false] at ho;cases ho;simp! only [Bv,dH,Option.toList_none,zz6]) (by rw [bD,zzl,zzl];omega)
  refine⟨[.val (fl rows),.own (.lst ((L++M).map x8)),.val (.int i),.val (.str z),s'.1,s'.2],?_,L++M,_,_,_,_,List.pairwise_append.2 ⟨nd,nM,λa ha b hb=>PC (.inl (by have h1:=((hm a.1 a.2).1 ha).1;have h2:=((hM b.1 b.2).1 hb).1;omega))⟩,?_,?_,rfl⟩
  ·rw [show(z.cps.toList.map λx=>PV.str ⟨#[x]⟩)=chars z from rfl] at e;simp! only [Bv] at e;simp! only [Qk,Bv,Nat.zero_add,e,List.map_append]
  ·simp! [zzM];omega
  ·intro r c;rw [List.mem_append,hm,hM,je]
   constructor
   ·rintro (⟨h1,h2⟩|⟨rfl,_,x,h3,h4⟩)
    ·exact⟨by omega,h2⟩
    ·exact⟨by omega,z,hz,x,h3,h4⟩
   ·rintro ⟨h1,w,h2,x,h3,h4⟩
    by_cases hr:r=i
    ·subst hr;rw [hz] at h2;cases h2;exact .inr ⟨rfl,Nat.zero_le _,x,h3,h4⟩
    ·exact .inl ⟨by omega,w,h2,x,h3,h4⟩)
 refine⟨L,?_,nd,(by rw [bD,zzl] at hl;omega),λr c=>?_⟩
 ·simp! only [Qk,Bv] at e;simp! only [b9,e,x5]
 ·rw [hm];refine⟨λh=>h.2,λh=>⟨?_,h⟩⟩
  obtain⟨z,hz,_⟩:=je.1 h
  have:=(zzH.1 hz).1
  rw [bD,zzl];omega
def AY{rows:List Str}{L:List (Nat×Nat)}(hm:∀r c,(r,c)∈L↔xa rows r c=true)(v:List Int):v∈L.map kN↔jk rows v:=by
 rw [zzx]
 constructor
 ·rintro ⟨p,hp,rfl⟩
  exact⟨_,_,rfl,gJ.2 ⟨by omega,by omega,by simpa using (hm p.1 p.2).1 hp⟩⟩
 ·rintro ⟨r,c,rfl,h⟩
  obtain⟨h0,h1,h2⟩:=gJ.1 h
  exact⟨(r.toNat,c.toNat),(hm _ _).2 h2,by simp [kN,Int.toNat_of_nonneg h0,Int.toNat_of_nonneg h1]⟩
noncomputable abbrev lp(m:Ks):PV:=.lst (m.map ae)
def Gd(E:List Int->List Int->Int->Prop)(ks:Ks)(vs:List PV)(u:List Int):Prop:=∃T:Ks,ba ks vs u=some (lp T)/\(∀v,v∈T↔∃e,E u v e)/\T.length<=9
noncomputable def Ox:Ss:=#v[.put 2 (!3) (.comp 1 [] (.one 0) (.seq (.call "steps_from" #v[!0,!1,!3])) (.sub (!0) (¬0)))]
theorem nA(F:aN)(hs:jm F){rows:List Str}{w:Nat}(L:Fl rows w){sl:Bool}{cl pr:Int}(V:Wk cl pr):∀(Q:Ks) (ks:Ks) (vs:List PV) (s3:Ci.Slot),(∀u∈Q,jk rows u)->ks.length=vs.length->ks.length+Q.length<=100->∃NH me J0,forL (λx env=>((Tg.one 3).put x env).bind λaf=>az F Ox af) (Q.map ae) [.val (fl rows),.val (wk sl cl pr),.own (.br ks vs),s3]=.ok (.nx [.val (fl rows),.val (wk sl cl pr),.own (.br NH me),J0])/\∀u,u∈Q\/Gd (E1 rows sl cl pr) ks vs u->Gd (E1 rows sl cl pr) NH me u
 |[],ks,vs,s3,_,_,_=>⟨ks,vs,s3,rfl,λu h=>h.elim (λz=>by cases z) id⟩
 |k::Q,ks,vs,s3,hO,he,hl=>by
  rw [zzL] at hl;have g:=wR ks k
  obtain⟨a,b,rfl,ho⟩:=hO k (zzP ..)
  obtain⟨T,e1,lT,hT⟩:=hs rows w L sl cl pr V a b ho
  have PJ:T.length<dh:=zzV lT (by decide)
  have lk:ks.length<dh:=zzV (m:=100) (by omega) (by decide)
  have t0:∀t:List Int×Int,aE (tK t) (.int 0)=.ok (ae t.1):=λt=>rfl
  have em:(T.map λt=>ae t.1)=(T.map (·.1)).map ae:=by rw [List.map_map];rfl
  obtain⟨NH,me,J0,e,h⟩:=nA F hs L V Q (cu ks [a,b]) (cP ks vs [a,b] (lp (T.map (·.1)))) (.val (ae [a,b])) (λu hu=>hO u (zzI _ hu)) (rb he ..) (by omega)
  refine⟨NH,me,J0,?_,λu hu=>h u ?_⟩
  ·have eb:(((Tg.one 3).put (ae [a,b]) [.val (fl rows),.val (wk sl cl pr),.own (.br ks vs),s3]).bind λaf=>az F Ox af)=.ok (.nx [.val (fl rows),.val (wk sl cl pr),.own (.br (cu ks [a,b]) (cP ks vs [a,b] (lp (T.map (·.1))))),.val (ae [a,b])]):=by
    simp! only [Ox,e1,zzl,PJ];rw [cG (p:=tK) (g:=λt=>ae t.1) (λt _=>by simp! only [t0]),em];simp! only [dD,lk]
   rw [zzF,forL,eb,mi];exact e
  ·by_cases hk:[a,b]=u
   ·subst hk;refine .inr ⟨T.map (·.1),by rw [kK he,if_pos rfl],λv=>?_,by rw [zzl];exact lT⟩
    rw [zzx];exact⟨λ⟨t,ht,q⟩=>⟨t.2,(hT _ _).1 (q▸ht)⟩,λ⟨e,q⟩=>⟨(v,e),(hT v e).2 q,rfl⟩⟩
   ·rcases hu with hu|⟨T',q1,q2⟩
    ·exact .inl ((zzm.1 hu).elim (λz=>absurd z.symm hk) id)
    ·exact .inr ⟨T',by rw [kK he,if_neg hk];exact q1,q2⟩
def DD(f:List PV->Res PV):Prop:=∀rows w,Fl rows w->∀sl cl pr,Wk cl pr->∃ks vs,f [fl rows,wk sl cl pr]=.ok (.br ks vs)/\∀u,jk rows u->Gd (E1 rows sl cl pr) ks vs u
def Dt(F:aN)(hs:jm F)(ho:BC (F "open_spots")):DD (au F cg):=by
 intro rows w L sl cl pr V;obtain⟨Sp,e1,up,l36,hm⟩:=ho rows L.yd
 have es:Sp.map x8=(Sp.map kN).map ae:=by rw [List.map_map];rfl
 obtain⟨ks,vs,s3,e,h⟩:=nA F hs L (sl:=sl) V (Sp.map kN) [] [] .no (λu hu=>(AY hm u).1 hu) rfl (by rw [zzl,List.length_nil];omega)
 refine⟨ks,vs,?_,λu hu=>h u (.inl ((AY hm u).2 hu))⟩
 simp! only [Ox] at e;simp! only [cg,e1,es,e,x5]
noncomputable def aQ(w:Ks)(t:Nat):List Int:=w.getD (min t (w.length-1)) []
def oR{w:Ks}{t:Nat}(h:t<w.length):aQ w t=w[t]:=by
 unfold aQ;rw [Nat.min_eq_left (by omega),zzK,zzg h]
 rfl
def lR{w:Ks}{t:Nat}(h:w.length-1<=t):aQ w t=aQ w (w.length-1):=by
 unfold aQ;rw [Nat.min_eq_right h,Nat.min_self]
def fk{w:Ks}(hw:w≠[])(t:Nat):w[min t (w.length-1)]?=some (aQ w t):=by
 have h:min t (w.length-1)<w.length:=by have:=List.length_pos_iff.2 hw;omega
 unfold aQ;rw [zzK,zzg h]
 rfl
section
variable(E:List Int->List Int->Int->Prop)(W:List Ks)
def Nb(p o:List Int):Prop:=o=p\/∃e,E p o e
def Mv(t:Nat)(p o:List Int):Prop:=∀w∈W,aQ w (t+1)≠o/\¬(aQ w t=o/\aQ w (t+1)=p)
def Rc(s:List Int):Nat->List Int->Prop
 |0,x=>x=s
 |t+1,x=>∃p,Rc s t p/\Nb E p x/\Mv W t p x
def rK(g:List Int)(T:Nat):Prop:=∀w∈W,∀i,T<=i->w[i]?≠some g
end
section
variable{E:List Int->List Int->Int->Prop}{W:List Ks}{s:List Int}
theorem pT{O:List Int->Prop}(hE:∀u v e,E u v e->O v)(hs:O s):∀{t x},Rc E W s t x->O x
 |0,x,h=>by rw [show x=s from h];exact hs
 |t+1,x,⟨p,h,n,_⟩=>by
  rcases n with rfl|⟨e,n⟩
  ·exact pT hE hs h
  ·exact hE _ _ _ n
theorem D8(h0:∀w∈W,aQ w 0≠s):∀{t x},Rc E W s t x->∀w∈W,aQ w t≠x
 |0,x,h,w,hw=>by rw [show x=s from h];exact h0 w hw
 |t+1,x,⟨p,_,_,m⟩,w,hw=>(m w hw).1
def Still(W:List Ks)(st:Nat):Prop:=∀w∈W,w.length-1<=st
def Still.at{st:Nat}(h:Still W st){w:Ks}(hw:w∈W){t:Nat}(ht:st<=t):aQ w t=aQ w st:=by
 rw [lR (zzU (h w hw) ht),lR (h w hw)]
def E5{st:Nat}(cx:Still W st)(h0:∀w∈W,aQ w 0≠s){t:Nat}(ht:st<=t){x:List Int}(h:Rc E W s t x):Rc E W s (t+1) x:=by
 refine⟨x,h,.inl rfl,λw hw=>?_⟩
 have e:aQ w (t+1)=aQ w t:=by rw [cx.at hw (Nat.le_succ_of_le ht),cx.at hw ht]
 have:=D8 h0 h w hw
 exact⟨by rw [e];exact this,λz=>this z.1⟩
def qC{st:Nat}(cx:Still W st){t t':Nat}(ht:st<=t)(NL:st<=t'){p o:List Int}:Mv W t p o↔Mv W t' p o:=by
 unfold Mv
 constructor<;>intro h w hw<;>have:=h w hw
 ·rw [cx.at hw (Nat.le_succ_of_le ht),cx.at hw ht] at this
  rwa [cx.at hw (Nat.le_succ_of_le NL),cx.at hw NL]
 ·rw [cx.at hw (Nat.le_succ_of_le NL),cx.at hw NL] at this
  rwa [cx.at hw (Nat.le_succ_of_le ht),cx.at hw ht]
theorem kM{st:Nat}(cx:Still W st){t:Nat}(ht:st<=t)(h:∀x,Rc E W s (t+1) x↔Rc E W s t x):∀(k:Nat) (x:List Int),Rc E W s (t+k) x↔Rc E W s t x
 |0,x=>Iff.rfl
 |k+1,x=>by
  rw [<-h x];show(∃p,Rc E W s (t+k) p/\Nb E p x/\Mv W (t+k) p x)↔∃p,Rc E W s t p/\Nb E p x/\Mv W t p x
  constructor
  ·rintro ⟨p,h1,h2,h3⟩
   exact⟨p,(kM cx ht h k p).1 h1,h2,(qC cx (by omega) ht).1 h3⟩
  ·rintro ⟨p,h1,h2,h3⟩
   exact⟨p,(kM cx ht h k p).2 h1,h2,(qC cx ht (by omega)).1 h3⟩
end
def Ap(a b:Ks):Prop:=∀t,aQ a t≠aQ b t/\¬(aQ a t=aQ b (t+1)/\aQ a (t+1)=aQ b t)
def Ap.symm{a b:Ks}(h:Ap a b):Ap b a:=λt=>⟨λz=>(h t).1 z.symm,λz=>(h t).2 ⟨z.2.symm,z.1.symm⟩⟩
structure Wy(E:List Int->List Int->Int->Prop)(O:List Int->Prop)(n:Nat)(W:List Ks)(s g:List Int)(B:Nat)(l:Ks):Prop where
 ne:l≠[]
 len:l.length<=B
 op:∀x∈l,O x
 fst:aQ l 0=s
 lst:aQ l (l.length-1)=g
 go:∀j,j+1<l.length->Nb E (aQ l j) (aQ l (j+1))/\Mv W j (aQ l j) (aQ l (j+1))
 free:rK W g (l.length-1)
 least:∀T,T<l.length-1->¬(Rc E W s T g/\rK W g T)
 bd:∀M,(∀w∈W,w.length<=M)->l.length<=M+n+1
def K1(E:List Int->List Int->Int->Prop)(O:List Int->Prop)(n:Nat)(W:List Ks)(s g:List Int)(B:Nat):Option Ks->Prop
 |none=>∀T,¬(Rc E W s T g/\rK W g T)
 |some l=>Wy E O n W s g B l
def rK.at{W:List Ks}{g:List Int}{T:Nat}(h:rK W g T){w:Ks}(hw:w∈W)(ne:w≠[])(he:aQ w (w.length-1)≠g){t:Nat}(ht:T<=t):aQ w t≠g:=by
 by_cases hl:t<=w.length-1
 ·intro z;have:=fk ne t
  rw [Nat.min_eq_left hl,z] at this;exact h w hw t ht this
 ·rw [lR (by omega)];exact he
def Wy.ap{E:List Int->List Int->Int->Prop}{O:List Int->Prop}{n:Nat}{W:List Ks}{s g:List Int}{B:Nat}{l:Ks}(h:Wy E O n W s g B l){w:Ks}(hw:w∈W)(ne:w≠[])(h0:aQ w 0≠s)(he:aQ w (w.length-1)≠g):Ap l w:=by
 have lp:=List.length_pos_iff.2 h.ne
 have Mb:∀t,aQ w t≠aQ l t:=λt=>by
  by_cases ht:t<=l.length-1
  ·cases t with
   |zero=>rw [h.fst];exact h0
   |succ t=>exact((h.go t (by omega)).2 w hw).1
  ·rw [lR (w:=l) (by omega),h.lst];exact h.free.at hw ne he (by omega)
 intro t;refine⟨λz=>Mb t z.symm,λz=>?_⟩
 by_cases ht:t+1<l.length
 ·exact((h.go t ht).2 w hw).2 ⟨z.2.symm,z.1.symm⟩
 ·have e1:aQ l t=g:=by rw [lR (w:=l) (by omega),h.lst]
  exact h.free.at hw ne he (t:=t+1) (by omega) (by rw [<-z.1,e1])
def t9{W:Ks}{k:Nat}{x:List Int}(hk:W[k]?=some x):aE (lp W) (.int (k:Nat))=.ok (ae x):=by
 show Res.of (sA (W.map ae) (k:Int))=_
 rw [j6 (k:=k) (by simpa using (zzH.1 hk).1),List.getElem_map,(zzH.1 hk).2]
 rfl
theorem Vf{i j:Int}:cH .min2 [.int i,.int j]=.ok (.int (if j<i then j else i)):=rfl
noncomputable abbrev qj(W:List Ks):PV:=.lst (W.map lp)
def Qg(F:aN):Prop:=∀w:Ks,w≠[]->∀t:Nat,F "spot_at" [lp w,.int (t:Int)]=.ok (ae (aQ w t))
def xR(F:aN)(w:Ks)(hw:w≠[])(t:Nat):au F dA [lp w,.int (t:Int)]=.ok (ae (aQ w t)):=by
 have h:=List.length_pos_iff.2 hw
 have e:=t9 (fk hw t)
 have m:(if((w.map ae).length:Int)-1<(t:Int) then((w.map ae).length:Int)-1 else(t:Int))=((min t (w.length-1):Nat):Int):=by
  rw [zzl];split<;>omega
 simp! only [dA,Vf,m,e]
noncomputable def yn(W:List Ks)(t:Nat):PV:=.lst (W.map λw=>.tup [ae (aQ w t),ae (aQ w (t+1))])
def zE(F:aN):Prop:=∀W:List Ks,(∀w∈W,w≠[])->W.length<=100->∀t:Nat,F "moves_at" [qj W,.int (t:Int)]=.ok (yn W t)
def tO(F:aN)(hs:Qg F)(W:List Ks)(hW:∀w∈W,w≠[])(hl:W.length<=100)(t:Nat):au F cB [qj W,.int (t:Int)]=.ok (yn W t):=by
 have l:W.length<dh:=zzV hl (by decide)
 simp! only [cB,zzl,l];rw [cG (p:=lp) (g:=λw=>.tup [ae (aQ w t),ae (aQ w (t+1))]) λw hw=>?_]
 ·rfl
 ·have e2:=hs w (hW w hw) (t+1)
  rw [Int.natCast_add] at e2;simp! only [hs w (hW w hw) t];rw [show((1:Nat):Int)=1 from rfl] at e2;simp! only [e2]
noncomputable def IM:Ss:=#v[.ite (.cmp .eq (!5) (!1)) #v[.set 2 (.blt .max2 #v[!2,.bin .add (!4) (¬1)])] .nil]
noncomputable def QJ:Ss:=#v[.bZ (.two 4 5) (.enum (!3)) IM]
def Lf(W:List Ks)(g:List Int)(D:Ks->Nat->Prop)(L:Nat):Prop:=(∀w i,D w i->w[i]?=some g->i<L)/\(L=0\/∃w∈W,∃i,w[i]?=some g/\L=i+1)
def Eh(F:aN)(W:List Ks)(g:List Int):∃L:Nat,au F cJ [qj W,ae g]=.ok (.int (L:Int))/\Lf W g (λw _=>w∈W) L:=by
 obtain⟨af,e,L,s3,s4,s5,rfl,hL⟩:=bQ (body:=λx env=>((Tg.one 3).put x env).bind λaf=>az F QJ af) (P:=λi env=>∃(L:Nat) (s3 s4 s5:Ci.Slot),env=[.val (qj W),.val (ae g),.val (.int (L:Int)),s3,s4,s5]/\Lf W g (λw _=>∃j,j<i/\W[j]?=some w) L)
  (W.map lp) 0 [.val (qj W),.val (ae g),.val (.int 0),.no,.no,.no] ⟨0,_,_,_,rfl,(λw i ⟨j,h,_⟩=>absurd h (Nat.not_lt_zero _)),.inl rfl⟩ (by
  intro j x env hx ⟨L,s3,s4,s5,he,hL⟩;subst he;rw [zzQ,zzJ] at hx;obtain⟨w,hw,rfl⟩:=hx
  rw [Nat.zero_add] at hL⊢;obtain⟨af,e,L',t4,t5,rfl,hL'⟩:=bQ (body:=λx env=>((Tg.two 4 5).put x env).bind λaf=>az F IM af) (P:=λi env=>∃(L:Nat) (s4 s5:Ci.Slot),env=[.val (qj W),.val (ae g),.val (.int (L:Int)),.val (lp w),s4,s5]/\Lf W g (λv m=>(∃k,k<j/\W[k]?=some v)\/(v=w/\m<i)) L)
   (bO 0 (w.map ae)) 0 [.val (qj W),.val (ae g),.val (.int (L:Int)),.val (lp w),s4,s5] ⟨L,_,_,rfl,(λv m h=>h.elim (λh=>hL.1 v m h) λh=>absurd h.2 (Nat.not_lt_zero _)),hL.2⟩ (by
   intro i y env hy ⟨L,s4,s5,he,hL⟩;subst he;rw [Nat.zero_add] at hL⊢;obtain⟨z,hz,rfl⟩:=jf hy
   rw [zzQ,zzJ] at hz;obtain⟨x,hx,rfl⟩:=hz
   rw [Nat.zero_add];have eq:=O1 x g
   by_cases h:x=g
   ·subst h;rw [zzh rfl] at eq;have m:(if(i:Int)+1>(L:Int) then(i:Int)+1 else(L:Int))=((max L (i+1):Nat):Int):=by split<;>omega
    refine⟨[.val (qj W),.val (ae x),.val (.int ((max L (i+1):Nat):Int)),.val (lp w),.val (.int (i:Int)),.val (ae x)],?_,max L (i+1),_,_,rfl,λv n hv hn=>?_,?_⟩
    ·simp! only [IM,eq,m]
    ·rcases hv with hv|⟨rfl,hv⟩
     ·have:=hL.1 v n (.inl hv) hn;omega
     ·by_cases hni:n=i
      ·omega
      ·have:=hL.1 v n (.inr ⟨rfl,by omega⟩) hn;omega
    ·rcases Nat.le_total (i+1) L with hm|hm
     ·rw [Nat.max_eq_left hm];exact hL.2
     ·rw [Nat.max_eq_right hm];exact .inr ⟨w,zzD hw,i,hx,rfl⟩
   ·rw [zz0 h] at eq;refine⟨[.val (qj W),.val (ae g),.val (.int (L:Int)),.val (lp w),.val (.int (i:Int)),.val (ae x)],?_,L,_,_,rfl,λv n hv hn=>?_,hL.2⟩
    ·simp! only [IM,eq]
    ·rcases hv with hv|⟨rfl,hv⟩
     ·exact hL.1 v n (.inl hv) hn
     ·by_cases hni:n=i
      ·subst hni;rw [hx] at hn;cases hn;exact absurd rfl h
      ·exact hL.1 v n (.inr ⟨rfl,by omega⟩) hn)
  refine⟨[.val (qj W),.val (ae g),.val (.int (L':Int)),.val (lp w),t4,t5],?_,L',_,t4,t5,rfl,λv n hv hn=>?_,hL'.2⟩
  ·simp! only [IM] at e;simp! only [QJ,IM,e]
  ·obtain⟨k,hk,hv⟩:=hv
   by_cases hkj:k=j
   ·subst hkj;rw [hw] at hv;cases hv;refine hL'.1 _ n (.inr ⟨rfl,?_⟩) hn;rw [Nat.zero_add,bD,zzl];exact(zzH.1 hn).1
   ·exact hL'.1 v n (.inl ⟨k,by omega,hv⟩) hn)
 refine⟨L,?_,λw i hw hi=>hL.1 w i ?_ hi,hL.2⟩
 ·simp! only [QJ,IM] at e;simp! only [cJ,e]
 ·obtain⟨j,hj⟩:=List.getElem?_of_mem hw
  exact⟨j,by rw [Nat.zero_add,zzl];exact(zzH.1 hj).1,hj⟩
def Lf.free{W:List Ks}{g:List Int}{L:Nat}(h:Lf W g (λw _=>w∈W) L){T:Nat}:rK W g T↔L<=T:=by
 constructor
 ·intro f;rcases h.2 with h0|⟨w,hw,i,hi,hl⟩
  ·omega
  ·have:¬T<=i:=λz=>f w hw i z hi
   omega
 ·intro l w hw i hi z;have:=h.1 w i hw z
  omega
theorem rQ{ns:List Int}:∀j,j<ns.length->∃i,i<=j/\cy ns j=ns.getD i 0
 |0,_=>⟨0,zzE _,rfl⟩
 |j+1,h=>by
  obtain⟨i,h1,h2⟩:=rQ (ns:=ns) j (by omega)
  rw [cy];split
  ·exact⟨j+1,zzE _,rfl⟩
  ·exact⟨i,by omega,h2⟩
theorem qG{ns:List Int}:∀j i,i<=j->ns.getD i 0<=cy ns j
 |0,i,h=>by rw [Nat.le_zero.1 h];exact Int.le_refl _
 |j+1,i,h=>by
  rw [cy]
  by_cases hi:i=j+1
  ·subst hi;split<;>omega
  ·have:=qG (ns:=ns) j i (by omega)
   split<;>omega
def xD{ns:List Int}(h:ns≠[]):(∀n∈ns,n<=cy ns (ns.length-1))/\cy ns (ns.length-1)∈ns:=by
 have hl:=List.length_pos_iff.2 h
 have gd:∀i (hi:i<ns.length),ns.getD i 0=ns[i]:=λi hi=>by simp [zzK,zzg hi]
 refine⟨λn hn=>?_,?_⟩
 ·obtain⟨i,hi,rfl⟩:=List.getElem_of_mem hn
  rw [<-gd i hi];exact qG _ i (by omega)
 ·obtain⟨i,h1,h2⟩:=rQ (ns:=ns) (ns.length-1) (by omega)
  rw [h2,gd i (by omega)];exact List.getElem_mem _
def p8(W:List Ks)(st:Nat):Prop:=Still W st/\(st=0\/∃w∈W,w.length-1=st)
def yE(F:aN)(W:List Ks)(hW:∀w∈W,w≠[])(hl:W.length<=100):∃st:Nat,au F bx [qj W]=.ok (.int (st:Int))/\p8 W st:=by
 have l:W.length<dh:=zzV hl (by decide)
 have ev:au F bx [qj W]=.ok (.int (L2.maxD (W.map λw=>(w.length:Int)-1) 0)):=by
  have io:intsOf (W.map λw=>PV.int ((w.length:Int)-1))=some (W.map λw=>(w.length:Int)-1):=by
   have:=gh (W.map λw=>(w.length:Int)-1)
   rwa [List.map_map] at this
  simp! only [bx,zzl,l];rw [cG (p:=lp) (g:=λw=>.int ((w.length:Int)-1)) λw hw=>by simp! only [zzl]]
  simp! only [io]
 rw [ev];unfold L2.maxD
 by_cases h:W=[]
 ·subst h;exact⟨0,rfl,(λw hw=>nomatch hw),.inl rfl⟩
 ·have dH:(W.map λw=>(w.length:Int)-1)≠[]:=λz=>h (List.map_eq_nil_iff.1 z)
  rw [if_neg dH];obtain⟨h1,h2⟩:=xD dH
  obtain⟨w,hw,e⟩:=zzx.1 h2
  have hp:=List.length_pos_iff.2 (hW w hw)
  refine⟨w.length-1,by rw [<-e,show((w.length-1:Nat):Int)=(w.length:Int)-1 by omega],λv hv=>?_,.inr ⟨w,hw,rfl⟩⟩
  have:=h1 _ (List.mem_map_of_mem hv)
  rw [<-e] at this;omega
theorem nq{α:Type}:∀(ps:List (List Int×α)) (ks:Ks) (vs:List α),(ks++ps.map (·.1)).Nodup->dB ps ks vs=(ks++ps.map (·.1),vs++ps.map (·.2))
 |[],ks,vs,_=>by simp [dB]
 |p::ps,ks,vs,h=>by
  have hn:cS ks p.1=false:=by
   cases hx:cS ks p.1 with
   |false=>rfl
   |true=>
    have:=(List.nodup_append.1 h).2.2 _ (cR.1 hx) p.1 (by simp)
    exact absurd rfl this
  have hm:=nq ps (ks++[p.1]) (vs++[p.2]) (by rw [List.append_assoc];exact h)
  rw [dB,cu,cP,hn,if_neg (by simp),if_neg (by simp),hm,List.append_assoc,List.append_assoc]
  rfl
def cq{U:Ks}{ks:Ks}(nd:ks.Nodup)(h:∀k∈ks,k∈U):ks.length<=U.length:=by
 induction ks generalizing U with
 |nil=>exact Nat.zero_le _
 |cons a ks ih=>
  obtain⟨n1,n2⟩:=List.nodup_cons.1 nd
  have ha:=h a (zzP ..)
  have:=ih (U:=U.erase a) n2 λk hk=>(List.mem_erase_of_ne (λz:k=a=>n1 (by rw [<-z];exact hk))).2 (h k (zzI _ hk))
  rw [List.length_erase_of_mem ha] at this;have:=List.length_pos_of_mem ha
  rw [zzL];omega
theorem lG{α:Type}{body:PV->Sl->Res Ci.Fl}{g:α->PV}{P:List α->Sl->Prop}:∀(l pre:List α) (env:Sl),(∀a∈l,∀pre env,P pre env->∃af,body (g a) env=.ok (.nx af)/\P (a::pre) af)->P pre env->∃af,forL body (l.map g) env=.ok (.nx af)/\P (l.reverse++pre) af
 |[],pre,env,_,h=>⟨env,rfl,h⟩
 |a::l,pre,env,h,h0=>by
  obtain⟨e1,b1,p1⟩:=h a (zzP ..) pre env h0
  obtain⟨e2,b2,p2⟩:=lG l (a::pre) e1 (λb hb=>h b (zzI _ hb)) p1
  exact⟨e2,by simp! [zzF,forL,b1,mi,b2],by rw [List.reverse_cons,List.append_assoc];exact p2⟩
theorem Fe:∀L:List (List Int×PV),tV (L.map λq=>.tup [ae q.1,q.2])=some L
 |[]=>rfl
 |q::L=>by
  show(d5 (ae q.1)).bind (λk'=>(tV (L.map λq=>.tup [ae q.1,q.2])).map ((k',q.2)::·))=_
  rw [dD,Fe L]
  rfl
def yW{L:List (List Int×PV)}(nd:(L.map (·.1)).Nodup):cH .dict [.lst (L.map λq=>.tup [ae q.1,q.2])]=.ok (.br (L.map (·.1)) (L.map (·.2))):=by
 show(Res.of (tV _)).bind _=_
 rw [Fe];show Res.ok (PV.br (dB L [] []).1 (dB L [] []).2)=_
 rw [nq _ _ _ (by rw [List.nil_append];exact nd)]
 rfl
theorem pj{α β:Type}{f:α->List Int}{g:α->β}:∀{L:List α} {w:α},(L.map f).Nodup->w∈L->ba (L.map f) (L.map g) (f w)=some (g w)
 |a::L,w,nd,h=>by
  obtain⟨n1,n2⟩:=List.nodup_cons.1 nd
  show(if f a=f w then some (g a) else ba (L.map f) (L.map g) (f w))=_
  rcases zzm.1 h with rfl|h
  ·rw [if_pos rfl]
  ·rw [if_neg λz=>n1 (by rw [z];exact List.mem_map_of_mem h)]
   exact pj n2 h
theorem u7{α β:Type}{f:α->List Int}{g:α->β}{o:List Int}:∀{L:List α},(∀w∈L,f w≠o)->ba (L.map f) (L.map g) o=none
 |[],_=>rfl
 |a::L,h=>by
  show(if f a=o then some (g a) else ba (L.map f) (L.map g) o)=_
  rw [if_neg (h a (zzP ..))];exact u7 λw hw=>h w (zzI _ hw)
def neN(p:List Int):eX .ay (ae p)=.ok (.bl true):=by
 show(if(Ci.plain 9 .ay&&Ci.plain 9 (ae p))=true then Res.ok (PV.bl (!gq 9 .ay (ae p))) else .bad)=_
 rw [ft 8]
 rfl
def zh{W:List Ks}(h:W.Pairwise Ap)(t:Nat):(W.map λw=>aQ w t).Nodup:=List.pairwise_map.2 (h.imp λ{a b} h=>(h t).1)
noncomputable def BN:Ss:=#v[.ite (.and (.cmp .yg (!7) (!4)) (.cmp .ne (.get (!3) (!7)) (!6))) #v[.put 5 (!7) (!6)] .nil]
noncomputable def Ou:Ss:=#v[.bZ (.one 7) (.seq (.bin .add (.lst #v[!6]) (.sub (!0) (!6)))) BN]
noncomputable abbrev Rq(W:List Ks)(t:Nat):PV:=.br (W.map λw=>aQ w t) (W.map λw=>ae (aQ w (t+1)))
noncomputable abbrev QT(W:List Ks)(t:Nat):PV:=.br (W.map λw=>aQ w (t+1)) (W.map λ_=>.bl true)
noncomputable abbrev uN(A B C:PV)(W:List Ks)(t:Nat)(kl:Ks)(vl:List PV)(s6 s7:Ci.Slot):Sl:=[.val A,.val B,.val C,.val (Rq W t),.val (QT W t),.own (.br kl vl),s6,s7]
section
variable{O:List Int->Prop}{W:List Ks}{t:Nat}{A B C:PV}
structure Nx(O:List Int->Prop)(D:List Int->List Int->Prop)(kl:Ks)(vl:List PV):Prop where
 len:kl.length=vl.length
 nd:kl.Nodup
 op:∀o∈kl,O o
 val:∀o q,ba kl vl o=some q->∃p,q=ae p/\D p o
 all:∀p o,D p o->o∈kl
def Jq(F:aN)(hO:∀u,O u->u∈FI)(JE:W.Pairwise Ap){D:List Int->List Int->Prop}{p o:List Int}(ho:O o){kl:Ks}{vl:List PV}(N:Nx O D kl vl)(s7:Ci.Slot):
 ∃y4 AB,(((Tg.one 7).put (ae o) (uN A B C W t kl vl (.val (ae p)) s7)).bind λaf=>az F BN af)=.ok (.nx (uN A B C W t y4 AB (.val (ae p)) (.val (ae o))))/\Nx O (λp' o'=>D p' o'\/(p'=p/\o'=o/\Mv W t p o)) y4 AB:=by
 have Q3:=zh JE t
 have e1:f9 (ae o) (QT W t)=.ok (.bl (!cS (W.map λw=>aQ w (t+1)) o)):=Nq
 have l:kl.length<dh:=zzV (zzU (cq N.nd λk hk=>hO k (N.op k hk)) (Nat.le_of_eq D0)) (by decide)
 have eU:¬Mv W t p o->Nx O (λp' o'=>D p' o'\/(p'=p/\o'=o/\Mv W t p o)) kl vl:=λh=>
  ⟨N.len,N.nd,N.op,λo q hq=>(N.val o q hq).imp λp h=>⟨h.1,.inl h.2⟩,λp' o' h'=>h'.elim (N.all p' o') λz=>absurd z.2.2 h⟩
 by_cases h1:∃w∈W,aQ w (t+1)=o
 ·obtain⟨w,hw,e⟩:=h1
  have hg:cS (W.map λw=>aQ w (t+1)) o=true:=cR.2 (zzx.2 ⟨w,hw,e⟩)
  rw [hg] at e1;refine⟨kl,vl,?_,eU λm=>(m w hw).1 e⟩
  simp! only [BN,uN,e1]
 ·have hg:cS (W.map λw=>aQ w (t+1)) o=false:=by
   cases hx:cS (W.map λw=>aQ w (t+1)) o with
   |false=>rfl
   |true=>obtain⟨w,hw,e⟩:=zzx.1 (cR.1 hx);exact absurd ⟨w,hw,e⟩ h1
  rw [hg] at e1;have put:Mv W t p o->Nx O (λp' o'=>D p' o'\/(p'=p/\o'=o/\Mv W t p o)) (cu kl o) (cP kl vl o (ae p)):=λm=>by
   have gp:=kK N.len o (ae p)
   refine⟨rb N.len _ _,qv N.nd _,λx hx=>?_,λx q hq=>?_,λp' o' h'=>?_⟩
   ·unfold cu at hx;split at hx
    ·exact N.op x hx
    ·rcases List.mem_append.1 hx with hx|hx
     ·exact N.op x hx
     ·rw [zzi.1 hx];exact ho
   ·rw [gp] at hq;split at hq
    ·rename_i z;subst z;cases hq;exact⟨p,rfl,.inr ⟨rfl,rfl,m⟩⟩
    ·exact(N.val x q hq).imp λp h=>⟨h.1,.inl h.2⟩
   ·unfold cu;rcases h' with h'|⟨_,rfl,_⟩
    ·have:=N.all p' o' h'
     split
     ·exact this
     ·exact List.mem_append.2 (.inl this)
    ·split
     ·rename_i z;exact cR.1 z
     ·exact List.mem_append.2 (.inr (zzi.2 rfl))
  by_cases h2:∃w∈W,aQ w t=o
  ·obtain⟨w,hw,e⟩:=h2
   have e2:(ba (W.map λw=>aQ w t) (W.map λw=>ae (aQ w (t+1))) o).getD .ay=ae (aQ w (t+1)):=by
    rw [<-e,pj (f:=λw=>aQ w t) (g:=λw=>ae (aQ w (t+1))) Q3 hw]
    rfl
   have e3:=Ts (aQ w (t+1)) p
   by_cases h3:aQ w (t+1)=p
   ·rw [zzh h3] at e3;refine⟨kl,vl,?_,eU λm=>(m w hw).2 ⟨e,h3⟩⟩
    simp! only [BN,uN,e1,dD,e2,e3]
   ·rw [zz0 h3] at e3;have m:Mv W t p o:=λv hv=>⟨λz=>h1 ⟨v,hv,z⟩,λz=>by
     have:v=w:=by
      by_cases hvw:v=w
      ·exact hvw
      ·have g1:=pj (f:=λw=>aQ w t) (g:=λw=>aQ w (t+1)) Q3 hv
       have g2:=pj (f:=λw=>aQ w t) (g:=λw=>aQ w (t+1)) Q3 hw
       rw [show aQ v t=aQ w t by rw [z.1,e]] at g1;rw [g1] at g2;exact absurd ((zzq g2).symm.trans z.2) h3
     subst this;exact h3 z.2⟩
    refine⟨_,_,?_,put m⟩;simp! only [BN,uN,e1,dD,e2,e3,l]
  ·have e2:(ba (W.map λw=>aQ w t) (W.map λw=>ae (aQ w (t+1))) o).getD .ay=.ay:=by
    rw [u7 (f:=λw=>aQ w t) (g:=λw=>ae (aQ w (t+1))) λw hw z=>h2 ⟨w,hw,z⟩]
    rfl
   have e3:=neN p
   have m:Mv W t p o:=λv hv=>⟨λz=>h1 ⟨v,hv,z⟩,λz=>h2 ⟨v,hv,z.1⟩⟩
   refine⟨_,_,?_,put m⟩;simp! only [BN,uN,e1,dD,e2,e3,l]
def JO(F:aN){E:List Int->List Int->Int->Prop}(hE:∀u v e,E u v e->O v)(hO:∀u,O u->u∈FI){ks:Ks}{vs:List PV}(JE:W.Pairwise Ap){D:List Int->List Int->Prop}{p:List Int}(hp:O p)(Nm:Gd E ks vs p){kl:Ks}{vl:List PV}(N:Nx O D kl vl)(s6 s7:Ci.Slot):
 ∃y4 AB Iu,(((Tg.one 6).put (ae p) (uN (.br ks vs) B C W t kl vl s6 s7)).bind λaf=>az F Ou af)=.ok (.nx (uN (.br ks vs) B C W t y4 AB (.val (ae p)) Iu))/\Nx O (λp' o'=>D p' o'\/(p'=p/\Nb E p o'/\Mv W t p o')) y4 AB:=by
 obtain⟨T,eT,hm,lT⟩:=Nm
 have e1:aE (.br ks vs) (ae p)=.ok (lp T):=by
  show(Res.of (d5 (ae p))).bind (λk=>Res.of (ba ks vs k))=_
  rw [dD];show Res.of (ba ks vs p)=_
  rw [eT]
  rfl
 have l:1+(T.map ae).length<=dh:=zzU (m:=101) (by rw [zzl];omega) (by decide)
 obtain⟨af,e2,y4,AB,Iu,rfl,N'⟩:=lG (body:=λx env=>((Tg.one 7).put x env).bind λaf=>az F BN af) (g:=ae) (P:=λpre env=>∃kl vl s7,env=uN (.br ks vs) B C W t kl vl (.val (ae p)) s7/\Nx O (λp' o'=>D p' o'\/(p'=p/\o'∈pre/\Mv W t p o')) kl vl) (p::T) [] (uN (.br ks vs) B C W t kl vl (.val (ae p)) s7) (λo ho pre env hj=>by
  obtain⟨kl,vl,s7,rfl,N⟩:=hj
  have oo:O o:=by
   rcases zzm.1 ho with rfl|ho
   ·exact hp
   ·obtain⟨e,he⟩:=(hm o).1 ho;exact hE _ _ _ he
  obtain⟨y4,AB,e,N'⟩:=Jq F (A:=.br ks vs) (B:=B) (C:=C) hO JE oo (p:=p) N s7
  refine⟨_,e,y4,AB,_,rfl,N'.len,N'.nd,N'.op,λo' q hq=>?_,λp' o' h'=>N'.all p' o' ?_⟩
  ·obtain⟨p',h1,h2⟩:=N'.val o' q hq
   refine⟨p',h1,?_⟩;rcases h2 with(h2|⟨a,b,c⟩)|⟨a,b,c⟩
   ·exact .inl h2
   ·exact .inr ⟨a,zzI _ b,c⟩
   ·exact .inr ⟨a,by rw [b];exact zzP ..,by rw [b];exact c⟩
  ·rcases h' with h'|⟨a,b,c⟩
   ·exact .inl (.inl h')
   ·rcases zzm.1 b with rfl|b
    ·exact .inr ⟨a,rfl,c⟩
    ·exact .inl (.inr ⟨a,b,c⟩)) ⟨kl,vl,s7,rfl,N.len,N.nd,N.op,λo q hq=>(N.val o q hq).imp λp h=>⟨h.1,.inl h.2⟩,λp' o' h'=>N.all p' o' (h'.elim id λz=>nomatch z.2.1)⟩
 refine⟨y4,AB,Iu,?_,N'.len,N'.nd,N'.op,λo q hq=>?_,λp' o' h'=>N'.all p' o' ?_⟩
 ·simp! only [BN,uN,zzF] at e2;simp! only [Ou,BN,uN,e1,l,e2]
 ·obtain⟨p',h1,h2⟩:=N'.val o q hq
  refine⟨p',h1,h2.imp_right λ⟨a,b,c⟩=>⟨a,?_,c⟩⟩
  rw [zz6,List.mem_reverse] at b;rcases zzm.1 b with rfl|b
  ·exact .inl rfl
  ·exact .inr ((hm o).1 b)
 ·refine h'.imp_right λ⟨a,b,c⟩=>⟨a,?_,c⟩
  rw [zz6,List.mem_reverse];rcases b with rfl|b
  ·exact zzP ..
  ·exact zzI _ ((hm o').2 b)
end
def DI(F:aN){E:List Int->List Int->Int->Prop}{O:List Int->Prop}(hE:∀u v e,E u v e->O v)(hO:∀u,O u->u∈FI){ks:Ks}{vs:List PV}(Nm:∀u,O u->Gd E ks vs u){W:List Ks}(JE:W.Pairwise Ap)(hl:W.length<=100)(t:Nat){kr:Ks}{vr:List PV}(hk:∀u∈kr,O u):
 ∃kl vl,au F bC [.br ks vs,.br kr vr,yn W t]=.ok (.br kl vl)/\Nx O (λp o=>p∈kr/\Nb E p o/\Mv W t p o) kl vl:=by
 have l:W.length<dh:=zzV hl (by decide)
 have d1:cH .dict [yn W t]=.ok (Rq W t):=by
  have:=yW (L:=W.map λw=>(aQ w t,ae (aQ w (t+1)))) (by rw [List.map_map];exact zh JE t)
  rw [List.map_map,List.map_map,List.map_map] at this;exact this
 have d2:cH .dict [.lst (W.map λw=>.tup [ae (aQ w (t+1)),.bl true])]=.ok (QT W t):=by
  have:=yW (L:=W.map λw=>(aQ w (t+1),PV.bl true)) (by rw [List.map_map];exact zh JE (t+1))
  rw [List.map_map,List.map_map,List.map_map] at this;exact this
 obtain⟨af,e2,kl,vl,s6,s7,rfl,N⟩:=lG (body:=λx env=>((Tg.one 6).put x env).bind λaf=>az F Ou af) (g:=ae) (P:=λpre env=>∃kl vl s6 s7,env=uN (.br ks vs) (.br kr vr) (yn W t) W t kl vl s6 s7/\Nx O (λp o=>p∈pre/\Nb E p o/\Mv W t p o) kl vl) kr [] (uN (.br ks vs) (.br kr vr) (yn W t) W t [] [] .no .no) (λp hp pre env hj=>by
  obtain⟨kl,vl,s6,s7,rfl,N⟩:=hj
  obtain⟨y4,AB,Iu,e,N'⟩:=JO F (B:=.br kr vr) (C:=yn W t) (t:=t) hE hO JE (hk p hp) (Nm p (hk p hp)) N s6 s7
  refine⟨_,e,y4,AB,_,Iu,rfl,N'.len,N'.nd,N'.op,λo q hq=>?_,λp' o' h'=>N'.all p' o' ?_⟩
  ·obtain⟨p',h1,h2⟩:=N'.val o q hq
   refine⟨p',h1,?_⟩;rcases h2 with⟨a,b⟩|⟨rfl,b⟩
   ·exact⟨zzI _ a,b⟩
   ·exact⟨zzP ..,b⟩
  ·obtain⟨a,b⟩:=h'
   rcases zzm.1 a with rfl|a
   ·exact .inr ⟨rfl,b⟩
   ·exact .inl ⟨a,b⟩) ⟨[],[],.no,.no,rfl,rfl,List.nodup_nil,(λo h=>nomatch h),(λo q h=>by simp [ba] at h),λp o h=>nomatch h.1⟩
 refine⟨kl,vl,?_,N.len,N.nd,N.op,λo q hq=>?_,λp o h=>N.all p o ⟨by simpa using h.1,h.2⟩⟩
 ·have sq:uH (.var 1) (.br kr vr)=.ok (kr.map ae):=rfl
  have c1:aK (λx=>((Tg.one 0).put x [.no]).bind λaf=>(aA F (.tup (.cons (.sub (.var 0) (.cst (.int 1))) (.cons (.cst (.bl true)) .nil))) af).bind λy=>.ok (some y)) (W.map λw=>.tup [ae (aQ w t),ae (aQ w (t+1))])=.ok (W.map λw=>.tup [ae (aQ w (t+1)),.bl true]):=by
   rw [cG (p:=λw=>.tup [ae (aQ w t),ae (aQ w (t+1))]) (g:=λw=>.tup [ae (aQ w (t+1)),.bl true]) λw hw=>?_]
   have s1:aE (.tup [ae (aQ w t),ae (aQ w (t+1))]) (.int 1)=.ok (ae (aQ w (t+1))):=rfl
   simp! only [s1]
  have lm:(W.map λw=>PV.tup [ae (aQ w t),ae (aQ w (t+1))]).length<dh:=by rw [zzl];exact l
  have qm:uH (.var 2) (yn W t)=.ok (W.map λw=>PV.tup [ae (aQ w t),ae (aQ w (t+1))]):=rfl
  simp! only [Ou,BN,uN] at e2;simp! only [] at c1;simp! only [bC,d1,qm,lm,c1,d2,sq,e2,x5]
 ·obtain⟨p,h1,h2,h3⟩:=N.val o q hq
  exact⟨p,h1,by simpa using h2,h3⟩
def za{α:Type}(xs:List α)(x:α):sA (xs++[x]) (-1)=some x:=by
 unfold sA F9;have h1:¬(0:Int)<= -1:=by decide
 have h2: -((xs++[x]).length:Int)<= -1:=by simp! [zzM,List.length_singleton];omega
 rw [if_neg h1,if_pos h2];have h3:(-1+((xs++[x]).length:Int)).toNat=xs.length:=by simp! [zzM,List.length_singleton];omega
 rw [h3];simp
def gW(xs:List PV)(x:PV):aE (.lst (xs++[x])) (.int (-1))=.ok x:=by
 simp! [aE,za]
 rfl
noncomputable def cE:E:=.or (.cmp .yg (!3) (.sub (.ic 6) (.neg (¬1)))) (.cmp .lt (.bin .sub (.blt .len #v[.ic 6]) (¬1)) (!4))
noncomputable def bE:Ss:=#v[.set 7 (.bin .sub (.blt .len #v[.ic 6]) (¬1)),.set 8 (.call "reached_next" #v[!0,.sub (.ic 6) (.neg (¬1)),.call "moves_at" #v[!1,!7]]),.ite (.and (.cmp .ge (!7) (!5)) (.cmp .eq (.blt .len #v[!8]) (.blt .len #v[.sub (.ic 6) (.neg (¬1))]))) #v[.ret (.cst .ay)] .nil,.app 6 (!8)]
noncomputable def tB:Ss:=#v[.app 2 (.sub (!3) (.sub (.ic 2) (.neg (¬1))))]
noncomputable abbrev dP(d:Ks×List PV):PV:=.br d.1 d.2
section
variable{E:List Int->List Int->Int->Prop}{O:List Int->Prop}{W:List Ks}{s:List Int}
structure Dk(E:List Int->List Int->Int->Prop)(W:List Ks)(s:List Int)(j:Nat)(d:Ks×List PV):Prop where
 key:∀x,x∈d.1↔Rc E W s j x
 nd:d.1.Nodup
 len:d.1.length=d.2.length
 par:∀i,j=i+1->∀o q,ba d.1 d.2 o=some q->∃p,q=ae p/\Rc E W s i p/\Nb E p o/\Mv W i p o
inductive Pw(E:List Int->List Int->Int->Prop)(W:List Ks)(s:List Int):Nat->Ks->List Int->Prop
 |one:Pw E W s 0 [s] s
 |snoc {j:Nat} {l:Ks} {p x:List Int}:Pw E W s j l p->Nb E p x->Mv W j p x->Pw E W s (j+1) (l++[x]) x
def jc{l:Ks}{x:List Int}{i:Nat}(h:i<l.length):aQ (l++[x]) i=aQ l i:=by
 rw [oR h,oR (by rw [zzM];omega),List.getElem_append_left h]
def zk{l:Ks}{x:List Int}:aQ (l++[x]) l.length=x:=by
 rw [oR (by simp)];simp
def Pw.all{j:Nat}{l:Ks}{x:List Int}(h:Pw E W s j l x):l.length=j+1/\aQ l 0=s/\aQ l j=x/\∀i,i<j->Nb E (aQ l i) (aQ l (i+1))/\Mv W i (aQ l i) (aQ l (i+1)):=by
 induction h with
 |one=>exact⟨rfl,rfl,rfl,λi h=>absurd h (Nat.not_lt_zero _)⟩
 |@snoc j l p x h n m ih=>
  obtain⟨h1,h2,h3,h4⟩:=ih
  have e:aQ (l++[x]) (j+1)=x:=by rw [<-h1];exact zk
  refine⟨by simp [h1],by rw [jc (by omega)];exact h2,e,λi hi=>?_⟩
  by_cases oD:i=j
  ·subst oD;rw [e,jc (by omega),h3];exact⟨n,m⟩
  ·rw [jc (by omega),jc (by omega)];exact h4 i (by omega)
def Pw.op(hE:∀u v e,E u v e->O v){j:Nat}{l:Ks}{x:List Int}(h:Pw E W s j l x)(hs:O s):(∀y∈l,O y)/\O x:=by
 induction h with
 |one=>exact⟨λy hy=>by rw [zzi.1 hy];exact hs,hs⟩
 |snoc _ n _ ih=>
  have ox:O _:=n.elim (λz=>z▸ih.2) λ⟨e,z⟩=>hE _ _ _ z
  refine⟨λy hy=>?_,ox⟩
  rcases List.mem_append.1 hy with hy|hy
  ·exact ih.1 y hy
  ·rw [zzi.1 hy];exact ox
noncomputable def dn(D:List (Ks×List PV))(j:Nat):List (Ks×List PV):=((D.take (j+1)).drop 1).reverse
def E9{D:List (Ks×List PV)}{j:Nat}{d:Ks×List PV}(h:D[j+1]?=some d):dn D (j+1)=d::dn D j:=by
 obtain⟨hl,rfl⟩:=zzH.1 h
 unfold dn;rw [<-List.take_append_getElem hl,List.drop_append_of_le_length (by rw [List.length_take];omega),List.reverse_append]
 rfl
theorem nR(F:aN){D:List (Ks×List PV)}(hD:∀j d,D[j]?=some d->Dk E W s j d)(A G:PV):∀(j:Nat) (x:List Int) (ys:List PV) (s3:Ci.Slot),j<D.length->Rc E W s j x->ys.length+j<=5000->∃l J0,forL (λx env=>((Tg.one 3).put x env).bind λaf=>az F tB af) ((dn D j).map dP) [.val A,.val G,.own (.lst (ys++[ae x])),s3]=.ok (.nx [.val A,.val G,.own (.lst (ys++l.reverse.map ae)),J0])/\Pw E W s j l x
 |0,x,ys,s3,hj,hx,hy=>by
  refine⟨[s],s3,?_,?_⟩
  ·have:dn D 0=[]:=by
    unfold dn;cases D<;>rfl
   rw [this,show x=s from hx]
   rfl
  ·rw [show x=s from hx];exact .one
 |j+1,x,ys,s3,hj,hx,hy=>by
  have hd:D[j+1]?=some D[j+1]:=zzg hj
  have K:=hD _ _ hd
  have:(ba D[j+1].1 D[j+1].2 x).isSome=true:=by rw [<-fG x K.len];exact cR.2 ((K.key x).2 hx)
  obtain⟨q,hq⟩:=zzp.1 this
  obtain⟨p,rfl,rp,n,m⟩:=K.par j rfl x q hq
  obtain⟨l,J0,e,pw⟩:=nR F hD A G j p (ys++[ae x]) (.val (dP D[j+1])) (by omega) rp (by rw [zzM,List.length_singleton];omega)
  refine⟨l++[x],J0,?_,.snoc pw n m⟩;have e1:=gW ys (ae x)
  have e2:aE (dP D[j+1]) (ae x)=.ok (ae p):=by
   show(Res.of (d5 (ae x))).bind (λk=>Res.of (ba _ _ k))=_
   rw [dD];show Res.of (ba _ _ x)=_
   rw [hq]
   rfl
  have l1:(ys++[ae x]).length<dh:=zzV (m:=5001) (by rw [zzM,List.length_singleton];omega) (by decide)
  have eb:(((Tg.one 3).put (dP D[j+1]) [.val A,.val G,.own (.lst (ys++[ae x])),s3]).bind λaf=>az F tB af)=.ok (.nx [.val A,.val G,.own (.lst (ys++[ae x]++[ae p])),.val (dP D[j+1])]):=by
   simp! only [tB,e1,e2,l1]
  rw [E9 hd,zzF,forL,eb,mi];refine e.trans ?_;simp
def E6(F:aN){D:List (Ks×List PV)}(hD:∀j d,D[j]?=some d->Dk E W s j d){T:Nat}(hT:D.length=T+1)(h5:T<=4000){g:List Int}(hg:Rc E W s T g):∃l,au F bR [.lst (D.map dP),ae g]=.ok (lp l)/\Pw E W s T l g:=by
 obtain⟨l,s3,e,pw⟩:=nR F hD (.lst (D.map dP)) (ae g) T g [] .no (by omega) hg (by simp;omega)
 refine⟨l,?_,pw⟩;have e1:(dn D T).map dP=((D.map dP).drop 1).reverse:=by
  unfold dn;rw [List.take_of_length_le (by omega),List.map_reverse,List.map_drop]
 have e2:du (.lst (D.map dP)) (some 1) none=.ok (.lst ((D.map dP).drop 1)):=by
  have:=AI (D.map dP) (k:=1) (by rw [zzl];omega)
  exact congrArg (λz=>Res.ok (PV.lst z)) this
 rw [e1] at e;simp! only [tB,List.nil_append] at e;simp! only [bR,e2,e,List.map_reverse,List.reverse_reverse]
end
theorem JU{ks kl:Ks}(nd:ks.Nodup)(h:∀x∈ks,x∈kl)(hl:kl.length<=ks.length):∀x∈kl,x∈ks:=λx hx=>Classical.byContradiction λz=>by
 have:=cq (U:=kl) (List.nodup_cons.2 ⟨z,nd⟩) λy hy=>by
  rcases zzm.1 hy with rfl|hy
  ·exact hx
  ·exact h y hy
 rw [zzL] at this;omega
structure Kw(F:aN)(E:List Int->List Int->Int->Prop)(O:List Int->Prop)(S:Ks)(W:List Ks)(A:PV)(s g:List Int)(L st:Nat):Prop where
 hE:∀u v e,E u v e->O v
 hO:∀u,O u->u∈FI
 hS:∀u,O u->u∈S
 os:O s
 ne:∀w∈W,w≠[]
 wm:W.length<=100
 ap:W.Pairwise Ap
 h0:∀w∈W,aQ w 0≠s
 he:∀w∈W,aQ w (w.length-1)≠g
 lf:Lf W g (λw _=>w∈W) L
 sn:p8 W st
 mv:zE F
 nx:∀t kr vr,(∀u∈kr,O u)->∃kl vl,F "reached_next" [A,.br kr vr,yn W t]=.ok (.br kl vl)/\Nx O (λp o=>p∈kr/\Nb E p o/\Mv W t p o) kl vl
section
variable{F:aN}{E:List Int->List Int->Int->Prop}{O:List Int->Prop}{S:Ks}{W:List Ks}{A:PV}{s g:List Int}{L st:Nat}
def Kw.P8(e:Kw F E O S W A s g L st):L<=st:=by
 rcases e.lf.2 with h|⟨w,hw,i,hi,hl⟩
 ·omega
 ·have h1:=(zzH.1 hi).1
  have h2:=e.sn.1 w hw
  by_cases h3:i=w.length-1
  ·have h4:=fk (e.ne w hw) (w.length-1)
   rw [Nat.min_self,<-h3,hi] at h4;exact absurd (by rw [<-h3];exact(zzq h4).symm) (e.he w hw)
  ·omega
def Dk.step(e:Kw F E O S W A s g L st){t:Nat}{d:Ks×List PV}(k:Dk E W s t d):∃d',F "reached_next" [A,dP d,yn W t]=.ok (dP d')/\Dk E W s (t+1) d':=by
 obtain⟨kl,vl,e1,N⟩:=e.nx t d.1 d.2 λu hu=>pT e.hE e.os ((k.key u).1 hu)
 refine⟨(kl,vl),e1,λx=>⟨λhx=>?_,λ⟨p,h1,h2,h3⟩=>N.all p x ⟨(k.key p).2 h1,h2,h3⟩⟩,N.nd,N.len,λi hi o q hq=>?_⟩
 ·have:(ba kl vl x).isSome=true:=by rw [<-fG x N.len];exact cR.2 hx
  obtain⟨q,hq⟩:=zzp.1 this
  obtain⟨p,_,h1,h2⟩:=N.val x q hq
  exact⟨p,(k.key p).1 h1,h2⟩
 ·obtain rfl:i=t:=by omega
  obtain⟨p,h1,h2,h3⟩:=N.val o q hq
  exact⟨p,h1,(k.key p).1 h2,h3⟩
def Dk.le(e:Kw F E O S W A s g L st){t:Nat}{d:Ks×List PV}(k:Dk E W s t d):d.1.length<=S.length:=
 cq k.nd λu hu=>e.hS u (pT e.hE e.os ((k.key u).1 hu))
noncomputable abbrev ye(A:PV)(W:List Ks)(s g:List Int)(L st:Nat)(ts:List PV)(s7 s8:Ci.Slot):Sl:=[.val A,.val (qj W),.val (ae s),.val (ae g),.val (.int (L:Int)),.val (.int (st:Int)),.own (.lst ts),s7,s8]
theorem vX(e:Kw F E O S W A s g L st)(hb:st<=2000)(hS:S.length<=36):∀(n t:Nat) (ds:List (Ks×List PV)) (d:Ks×List PV) (s7 s8:Ci.Slot),ds.length=t->(∀j d',(ds++[d])[j]?=some d'->Dk E W s j d')->(∀T,T<t->¬(Rc E W s T g/\L<=T))->(st<=t->t-st<=d.1.length)->st+S.length+2<=n+t->
 (c8 (aA F cE) (az F bE) n (ye A W s g L st ((ds++[d]).map dP) s7 s8)=.ok (.rt .ay)/\∀T,¬(Rc E W s T g/\L<=T))\/
 ∃(T:Nat) (D:List (Ks×List PV)) (Iu KZ:Ci.Slot),c8 (aA F cE) (az F bE) n (ye A W s g L st ((ds++[d]).map dP) s7 s8)=.ok (.nx (ye A W s g L st (D.map dP) Iu KZ))/\D.length=T+1/\(∀j d',D[j]?=some d'->Dk E W s j d')/\Rc E W s T g/\L<=T/\(∀T',T'<T->¬(Rc E W s T' g/\L<=T'))/\T<=st+S.length
 |0,t,ds,d,s7,s8,hl,hD,hT,hg,hn=>by
  have K:=hD t d (by rw [<-hl];simp)
  have:=K.le e
  have:=hg (by omega)
  omega
 |n+1,t,ds,d,s7,s8,hl,hD,hT,hg,hn=>by
  have K:=hD t d (by rw [<-hl];simp)
  have kl:=K.le e
  have tb:t<=st+S.length:=by
   by_cases h:st<=t
   ·have:=hg h;omega
   ·omega
  have em:(ds++[d]).map dP=ds.map dP++[dP d]:=by rw [List.map_append];rfl
  have e1:=gW (ds.map dP) (dP d)
  have e2:f9 (ae g) (dP d)=.ok (.bl (!cS d.1 g)):=Nq
  have IL:((ds.map dP++[dP d]).length:Int)-1=(t:Int):=by simp! [zzM,zzl,List.length_singleton,hl];omega
  have hc:aA F cE (ye A W s g L st (ds.map dP++[dP d]) s7 s8)=.ok (.bl (!cS d.1 g||decide ((t:Int)<(L:Int)))):=by
   simp! only [cE,ye,e1,e2,IL,Af]
  by_cases stop:Rc E W s t g/\L<=t
  ·have hh:(!cS d.1 g||decide ((t:Int)<(L:Int)))=false:=by
    rw [cR.2 ((K.key g).2 stop.1),zz0 (by omega)]
    rfl
   rw [hh] at hc;refine .inr ⟨t,ds++[d],s7,s8,?_,by simp [hl],hD,stop.1,stop.2,hT,tb⟩;rw [em];simp! [c8,hc,mi,Mj,zze,if_false]
  ·have hh:(!cS d.1 g||decide ((t:Int)<(L:Int)))=true:=by
    cases hx:cS d.1 g with
    |false=>rfl
    |true=>
     have:=(K.key g).1 (cR.1 hx)
     rw [Bool.not_true,Bool.false_or,zzN];have:¬L<=t:=λz=>stop ⟨this,z⟩
     omega
   rw [hh] at hc;obtain⟨d',e3,K'⟩:=K.step e
   have e4:=e.mv W e.ne e.wm t
   have ge:qA (.int (t:Int)) (.int (st:Int))=.ok (.bl (decide (st<=t))):=by
    show Res.ok (PV.bl (decide ((st:Int)<=(t:Int))))=_
    congr 2
    exact decide_eq_decide.2 (by omega)
   have ei:((d'.1.length:Int)==(d.1.length:Int))=decide (d'.1.length=d.1.length):=by
    rw [Bool.eq_iff_iff,zzy,zzN];omega
   have ld:cH .len [dP d]=.ok (.int (d.1.length:Int)):=MB
   have S9:cH .len [dP d']=.ok (.int (d'.1.length:Int)):=MB
   have ll:(ds.map dP++[dP d]).length<dh:=zzV (m:=5000) (by simp! [zzM,zzl,List.length_singleton,hl];omega) (by decide)
   have grow:st<=t->∀x,Rc E W s t x->Rc E W s (t+1) x:=λh x hx=>E5 e.sn.1 e.h0 h hx
   have next:∀T,T<t+1->¬(Rc E W s T g/\L<=T):=λT h=>by
    by_cases hTt:T=t
    ·subst hTt;exact stop
    ·exact hT T (by omega)
   by_cases stuck:st<=t/\d'.1.length=d.1.length
   ·refine .inl ⟨?_,λT hq=>?_⟩
    ·have eb:az F bE (ye A W s g L st (ds.map dP++[dP d]) s7 s8)=.ok (.rt .ay):=by
      simp! only [bE,ye,IL,e1,e4,e3,ge,zzh stuck.1,ld,S9,ei,zzh stuck.2]
     rw [em];simp! [c8,hc,mi,Mj,if_true,eb]
    ·by_cases hTt:T<t+1
     ·exact next T hTt hq
     ·have same:∀x,Rc E W s (t+1) x↔Rc E W s t x:=λx=>⟨λhx=>(K.key x).1 (JU K.nd (λy hy=>(K'.key y).2 (grow stuck.1 y ((K.key y).1 hy))) (by omega) x ((K'.key x).2 hx)),grow stuck.1 x⟩
      have:=(kM e.sn.1 stuck.1 same (T-t) g).1 (by rw [show t+(T-t)=T by omega];exact hq.1)
      exact stop ⟨this,zzU e.P8 stuck.1⟩
   ·have cond:(decide (st<=t)&&decide (d'.1.length=d.1.length))=false:=by
     cases h1:decide (st<=t) with
     |false=>rfl
     |true=>rw [Bool.true_and];exact zz0 λz=>stuck ⟨zzY h1,z⟩
    have eb:az F bE (ye A W s g L st (ds.map dP++[dP d]) s7 s8)=.ok (.nx (ye A W s g L st (ds.map dP++[dP d]++[dP d']) (.val (.int (t:Int))) (.val (dP d')))):=by
     simp! only [bE,ye,IL,e1,e4,e3,ge,ld,S9,ei,vp,cond,ll]
    have PQ:∀j NB,(ds++[d]++[d'])[j]?=some NB->Dk E W s j NB:=λj NB h=>by
     by_cases hj:j<(ds++[d]).length
     ·rw [zzr hj] at h;exact hD j NB h
     ·have Ui:=(zzH.1 h).1
      have:j=t+1:=by simp! [zzM,List.length_singleton,hl] at hj Ui;omega
      subst this;rw [zzs (by simp [hl])] at h;simp! [zzM,List.length_singleton,hl,Nat.sub_self] at h;cases h;exact K'
    have ih:=vX e hb hS n (t+1) (ds++[d]) d' (.val (.int (t:Int))) (.val (dP d')) (by simp [hl]) PQ next (λh=>by
     by_cases h2:st<=t
     ·have h3:=hg h2
      have h4:=cq K.nd λx hx=>(K'.key x).2 (grow h2 x ((K.key x).1 hx))
      have h5:d'.1.length≠d.1.length:=λz=>stuck ⟨h2,z⟩
      omega
     ·omega) (by omega)
    have Va:(ds++[d]++[d']).map dP=ds.map dP++[dP d]++[dP d']:=by simp
    rw [Va] at ih;rw [em];simp! [c8,hc,mi,Mj,if_true,eb];exact ih
end
def M9(E:List Int->List Int->Int->Prop)(O:List Int->Prop)(S:Ks)(A:PV)(f:List PV->Res PV):Prop:=∀(W:List Ks) (s g:List Int) (B:Nat),O s->(∀w∈W,w≠[])->W.length<=100->W.Pairwise Ap->(∀w∈W,aQ w 0≠s)->(∀w∈W,aQ w (w.length-1)≠g)->(∀w∈W,w.length<=B)->B<=1000->∃o:Option Ks,f [A,qj W,ae s,ae g]=.ok (o.elim .ay lp)/\K1 E O S.length W s g (B+S.length+1) o
def BI(F:aN){E:List Int->List Int->Int->Prop}{O:List Int->Prop}{S:Ks}{A:PV}(hE:∀u v e,E u v e->O v)(hO:∀u,O u->u∈FI)(hS:∀u,O u->u∈S)(lS:S.length<=36)(hl:∀W g,∃L:Nat,F "left_from" [qj W,ae g]=.ok (.int (L:Int))/\Lf W g (λw _=>w∈W) L)(cx:∀W,(∀w∈W,w≠[])->W.length<=100->∃st:Nat,F "still_from" [qj W]=.ok (.int (st:Int))/\p8 W st)
 (hm:zE F) (hn:∀W,W.Pairwise Ap->W.length<=100->∀t kr vr,(∀u∈kr,O u)->∃kl vl,F "reached_next" [A,.br kr vr,yn W t]=.ok (.br kl vl)/\Nx O (λp o=>p∈kr/\Nb E p o/\Mv W t p o) kl vl)
 (ht:∀(W:List Ks) (s:List Int) (D:List (Ks×List PV)) (T:Nat) (g:List Int),(∀j d,D[j]?=some d->Dk E W s j d)->D.length=T+1->T<=4000->Rc E W s T g->∃l,F "traced_back" [.lst (D.map dP),ae g]=.ok (lp l)/\Pw E W s T l g):M9 E O S A (au F bo):=by
 intro W s g B os ne wm ap h0 he hB hB1;obtain⟨L,e1,lf⟩:=hl W g
 obtain⟨st,e2,sn⟩:=cx W ne wm
 have er:Kw F E O S W A s g L st:=⟨hE,hO,hS,os,ne,wm,ap,h0,he,lf,sn,hm,hn W ap wm⟩
 have LD:st<=B:=by
  rcases sn.2 with h|⟨w,hw,h⟩
  ·omega
  ·have:=hB w hw;omega
 have l:W.length<dh:=zzV wm (by decide)
 have U7:Dk E W s 0 ([s],[.ay]):=⟨λx=>zzi,by simp,rfl,λi h=>by omega⟩
 have lw:=vX er (by omega) lS WN 0 [] ([s],[.ay]) .no .no rfl (λj d' h=>by
  cases j with
  |zero=>cases h;exact U7
  |succ j=>cases h) (λT h=>absurd h (Nat.not_lt_zero _)) (λh=>by omega) (by have:WN=1000000:=rfl;omega)
 have c1:aK (λx=>((Tg.one 0).put x [.no]).bind λaf=>(aA F (.sub (.var 0) (.cst (.int 0))) af).bind λy=>.ok (some y)) (W.map lp)=.ok ((W.map λw=>aQ w 0).map ae):=by
  rw [cG (p:=lp) (g:=λw=>ae (aQ w 0)) λw hw=>?_,List.map_map]
  ·rfl
  ·have:=t9 (fk (ne w hw) 0)
   rw [Nat.zero_min] at this;have this:aE (lp w) (.int 0)=.ok (ae (aQ w 0)):=this
   simp! only [this]
 have c2:=SS s (W.map λw=>aQ w 0)
 rw [zz0 λz=>by obtain⟨w,hw,e⟩:=zzx.1 z;exact h0 w hw e] at c2
 have lm:(W.map lp).length<dh:=by rw [zzl];exact l
 simp! only [] at c1;have m1:([]++[([s],[PV.ay])]:List (Ks×List PV)).map dP=[.br [s] [.ay]]:=rfl
 rw [m1] at lw;rcases lw with⟨e3,Ny⟩|⟨T,D,s7,s8,e3,hD1,hD2,hD3,hD4,hD5,hD6⟩
 ·refine⟨none,?_,λT hq=>Ny T ⟨hq.1,lf.free.1 hq.2⟩⟩
  simp! only [cE,bE,ye] at e3;simp! only [bo,lm,c1,NY,c2,e1,e2,dD,e3]
  rfl
 ·obtain⟨w,e4,pw⟩:=ht W s D T g hD2 hD1 (by omega) hD3
  obtain⟨p1,p2,p3,p4⟩:=pw.all
  have hp:w.length-1=T:=by omega
  refine⟨some w,?_,⟨(λz=>by rw [z] at p1;cases p1),by omega,(pw.op hE os).1,p2,by rw [hp];exact p3,λj hj=>p4 j (by omega),lf.free.2 (by omega),(λT' h' hq=>hD5 T' (by omega) ⟨hq.1,lf.free.1 hq.2⟩),λM hM=>?_⟩⟩
  ·simp! only [cE,bE,ye] at e3;simp! only [bo,lm,c1,NY,c2,e1,e2,dD,e3,x5,e4]
   rfl
  ·have:st<=M:=by
    rcases sn.2 with h|⟨v,hv,h⟩
    ·omega
    ·have:=hM v hv;omega
   omega
noncomputable def oK(o:Option Ks):PV:=o.elim .ay lp
noncomputable def aw(os:List (Option Ks)):List Ks:=os.filterMap id
def HU(a b:List (Option Ks)):aw (a++b)=aw a++aw b:=List.filterMap_append
def Ax{os:List (Option Ks)}{w:Ks}:w∈aw os↔some w∈os:=by
 unfold aw;rw [zz1];exact⟨λ⟨a,h1,h2⟩=>by rw [show a=some w from h2] at h1;exact h1,λh=>⟨_,h,rfl⟩⟩
def JZ(os:List (Option Ks)):(aw os).length<=os.length:=List.length_filterMap_le ..
theorem u9{f:PV->Res (Option PV)}(hf:∀o:Option Ks,f (oK o)=.ok (if o.isSome then some (oK o) else none)):∀os:List (Option Ks),aK f (os.map oK)=.ok ((aw os).map lp)
 |[]=>rfl
 |o::os=>by
  simp! [zzF,aK,hf,Jr,mi,u9 hf os];cases o<;>rfl
def Pe(o:Option Ks):ef (oK o) .ay=.ok (.bl o.isSome):=by cases o<;>rfl
structure sD(E:List Int->List Int->Int->Prop)(O:List Int->Prop)(n:Nat)(ss gs:Ks)(os:List (Option Ks)):Prop where
 Kt:∀j o s g,os[j]?=some o->ss[j]?=some s->gs[j]?=some g->K1 E O n (aw (os.take j)) s g (37*(j+1)) o
 le:os.length<=ss.length
section
variable{E:List Int->List Int->Int->Prop}{O:List Int->Prop}{n:Nat}{ss gs:Ks}{os:List (Option Ks)}
def sD.take(h:sD E O n ss gs os)(i:Nat):sD E O n ss gs (os.take i):=⟨λj o s g h1 h2 h3=>by
 have hj:j<i:=by have:=(zzH.1 h1).1;rw [List.length_take] at this;omega
 rw [List.getElem?_take_of_lt hj] at h1;rw [List.take_take,Nat.min_eq_left (by omega)];exact h.Kt j o s g h1 h2 h3,by rw [List.length_take];have:=h.le;omega⟩
def sD.way(h:sD E O n ss gs os)(hl:ss.length=gs.length){w:Ks}(hw:w∈aw os):∃j s g,os[j]?=some (some w)/\ss[j]?=some s/\gs[j]?=some g/\Wy E O n (aw (os.take j)) s g (37*(j+1)) w:=by
 obtain⟨j,hj⟩:=List.getElem?_of_mem (Ax.1 hw)
 have h1:=(zzH.1 hj).1
 have h2:=h.le
 have h3:ss[j]?=some ss[j]:=zzg (by omega)
 have h4:gs[j]?=some gs[j]:=zzg (by omega)
 exact⟨j,_,_,hj,h3,h4,h.Kt j _ _ _ hj h3 h4⟩
def sD.len(h:sD E O n ss gs os)(hl:ss.length=gs.length){w:Ks}(hw:w∈aw os):w≠[]/\w.length<=37*os.length:=by
 obtain⟨j,s,g,h1,_,_,y⟩:=h.way hl hw
 have:=(zzH.1 h1).1
 exact⟨y.ne,zzU y.len (by omega)⟩
def Fx{l:Ks}(nd:l.Nodup){i j:Nat}{a b:List Int}(hi:l[i]?=some a)(hj:l[j]?=some b)(h:i≠j):a≠b:=λe=>by
 subst e;exact h ((List.getElem?_inj (zzH.1 hi).1 nd).1 (hi.trans hj.symm))
def sD.off(h:sD E O n ss gs os)(hl:ss.length=gs.length)(n1:ss.Nodup)(n2:gs.Nodup){i:Nat}{s g:List Int}(hs:ss[i]?=some s)(hg:gs[i]?=some g){w:Ks}(hw:w∈aw (os.take i)):aQ w 0≠s/\aQ w (w.length-1)≠g:=by
 obtain⟨j,s',g',h1,h2,h3,y⟩:=(h.take i).way hl hw
 have hj:j<i:=by have:=(zzH.1 h1).1;rw [List.length_take] at this;omega
 rw [y.fst,y.lst];exact⟨Fx n1 h2 hs (by omega),Fx n2 h3 hg (by omega)⟩
theorem sD.ap(h:sD E O n ss gs os)(hl:ss.length=gs.length)(n1:ss.Nodup)(n2:gs.Nodup):∀i,(aw (os.take i)).Pairwise Ap
 |0=>by rw [List.take_zero];exact .nil
 |i+1=>by
  by_cases hi:i<os.length
  ·rw [<-List.take_append_getElem hi,HU,List.pairwise_append];refine⟨sD.ap h hl n1 n2 i,?_,λa ha b hb=>?_⟩
   ·cases e:os[i] with
    |none=>exact .nil
    |some w=>exact List.pairwise_singleton ..
   ·have iJ:=Ax.1 hb
    rw [zzi] at iJ;have qi:=h.le
    have h3:ss[i]?=some ss[i]:=zzg (by omega)
    have h4:gs[i]?=some gs[i]:=zzg (by omega)
    have y:Wy E O n (aw (os.take i)) ss[i] gs[i] (37*(i+1)) b:=h.Kt i (some b) _ _ (by rw [zzg hi,iJ]) h3 h4
    obtain⟨o1,o2⟩:=h.off hl n1 n2 h3 h4 ha
    exact(y.ap ha ((h.take i).len hl ha).1 o1 o2).symm
  ·rw [List.take_of_length_le (by omega)];have:=sD.ap h hl n1 n2 i
   rwa [List.take_of_length_le (by omega)] at this
end
def zip2{ss gs:Ks}(hl:ss.length=gs.length):qW [ss.map ae,gs.map ae]=(ss.zip gs).map λp=>.tup [ae p.1,ae p.2]:=by
 have hm:jv [ss.map ae,gs.map ae]=ss.length:=by
  show min (ss.map ae).length (gs.map ae).length=_
  rw [zzl,zzl];omega
 unfold qW;rw [hm];refine List.ext_getElem (by simp [hl]) λi h1 h2=>?_
 simp! [zzl,List.length_range] at h1;have h3:i<gs.length:=by omega
 simp [zzK,zzg h1,zzg h3]
noncomputable def OW:Ss:=#v[.set 9 (.cA 1 [] (.one 0) (.seq (.ic 6)) (.cmp .vn (!0) (.cst .ay)) (!0)),.app 6 (.call "earliest_way" #v[!5,!9,!7,!8])]
def LW(E:List Int->List Int->Int->Prop)(O:List Int->Prop)(n:Nat)(A B:PV)(f:List PV->Res PV):Prop:=∀ss gs:Ks,ss.length=gs.length->ss.length<=20->ss.Nodup->gs.Nodup->(∀u∈ss,O u)->(∀u∈gs,O u)->∃os,f [A,B,lp ss,lp gs]=.ok (.lst (os.map oK))/\os.length=ss.length/\sD E O n ss gs os
def Av(F:aN){E:List Int->List Int->Int->Prop}{O:List Int->Prop}{S:Ks}{A B C:PV}(lS:S.length<=36)(hn:∀u,O u->F "need_open" [A,ae u]=.ok .ay)(ho:F "steps_over" [A,B]=.ok C)(he:M9 E O S C (F "earliest_way")):LW E O S.length A B (au F fJ):=by
 intro ss gs hl l20 n1 n2 o1 o2;obtain⟨af,e1,s4,rfl⟩:=bQ (body:=λx env=>((Tg.one 4).put x env).bind λaf=>az F (.cons (.expr (.call "need_open" (.cons (.var 0) (.cons (.var 4) .nil)))) .nil) af) (P:=λ_ env=>∃s4:Ci.Slot,env=[.val A,.val B,.val (lp ss),.val (lp gs),s4,.no,.no,.no,.no,.no]) (ss.map ae++gs.map ae) 0 [.val A,.val B,.val (lp ss),.val (lp gs),.no,.no,.no,.no,.no,.no] ⟨_,rfl⟩ (by
  intro i x env hx ⟨s4,he⟩;subst he;have hm:=zzD hx
  rw [<-List.map_append] at hm;obtain⟨u,hu,rfl⟩:=zzx.1 hm
  have:=hn u ((List.mem_append.1 hu).elim (o1 u) (o2 u))
  exact⟨[.val A,.val B,.val (lp ss),.val (lp gs),.val (ae u),.no,.no,.no,.no,.no],by simp! only [this],_,rfl⟩)
 obtain⟨af,e2,os,s7,s8,s9,rfl,hlo,cr⟩:=bQ (body:=λx env=>((Tg.two 7 8).put x env).bind λaf=>az F OW af) (P:=λi env=>∃(os:List (Option Ks)) (s7 s8 s9:Ci.Slot),env=[.val A,.val B,.val (lp ss),.val (lp gs),s4,.val C,.own (.lst (os.map oK)),s7,s8,s9]/\os.length=i/\(i<=ss.length->sD E O S.length ss gs os)) ((ss.zip gs).map λp=>.tup [ae p.1,ae p.2]) 0 [.val A,.val B,.val (lp ss),.val (lp gs),s4,.val C,.own (.lst []),.no,.no,.no] ⟨[],_,_,_,rfl,rfl,λ_=>⟨(λj o s g h=>by cases h),Nat.zero_le _⟩⟩ (by
  intro i x env hx ⟨os,s7,s8,s9,he',hi,hc⟩;subst he';rw [Nat.zero_add] at hi hc⊢;have sN:i<ss.length:=by
   have:=(zzH.1 hx).1
   simp! [zzl,List.length_zip] at this;omega
  have hs:ss[i]?=some ss[i]:=zzg sN
  have hg:gs[i]?=some gs[i]:=zzg (by omega)
  have oX:x=.tup [ae ss[i],ae gs[i]]:=by
   rw [zzQ,zzJ] at hx;obtain⟨p,hp,rfl⟩:=hx
   rw [List.getElem?_zip_eq_some] at hp;rw [hs,hg] at hp;rw [zzq hp.1,zzq hp.2]
  subst oX;have cr:=hc (by omega)
  have tk:os.take i=os:=List.take_of_length_le (by omega)
  have ap:=cr.ap hl n1 n2 i
  rw [tk] at ap;have off:∀w∈aw os,aQ w 0≠ss[i]/\aQ w (w.length-1)≠gs[i]:=λw hw=>cr.off hl n1 n2 hs hg (by rw [tk];exact hw)
  obtain⟨o,e,td⟩:=he (aw os) ss[i] gs[i] (37*i) (o1 _ (List.getElem_mem _)) (λw hw=>(cr.len hl hw).1) (zzU (JZ os) (by omega)) ap (λw hw=>(off w hw).1) (λw hw=>(off w hw).2) (λw hw=>by have:=(cr.len hl hw).2;rw [hi] at this;exact this) (by omega)
  have c1:aK (λx=>((Tg.one 0).put x [.no]).bind λaf=>(aA F (.cmp .vn (.var 0) (.cst .ay)) af).bind λt=>se t λt=>if t then(aA F (.var 0) af).bind λy=>.ok (some y) else .ok none) (os.map oK)=.ok ((aw os).map lp):=u9 (λo=>by
   simp! only [Pe];cases o<;>rfl) os
  have l1:(os.map oK).length<dh:=zzV (m:=20) (by rw [zzl];omega) (by decide)
  refine⟨[.val A,.val B,.val (lp ss),.val (lp gs),s4,.val C,.own (.lst ((os++[o]).map oK)),.val (ae ss[i]),.val (ae gs[i]),.val (qj (aw os))],?_,os++[o],_,_,_,rfl,by simp [hi],λ_=>⟨λj o' s g h1 h2 h3=>?_,by simp [hi];omega⟩⟩
  ·have e':F "earliest_way" [C,.lst ((aw os).map lp),ae ss[i],ae gs[i]]=.ok (oK o):=e
   simp! only [] at c1;simp! only [OW,l1,c1,e',List.map_append,zzF,List.map_nil]
  ·by_cases hj:j<os.length
   ·rw [zzr hj] at h1;rw [List.take_append_of_le_length (by omega)];exact cr.Kt j o' s g h1 h2 h3
   ·have:j=i:=by have:=(zzH.1 h1).1;simp! [zzM,List.length_singleton] at this;omega
    subst this;rw [zzs (by omega),hi,Nat.sub_self] at h1;cases h1;rw [hs] at h2;rw [hg] at h3;cases h2;cases h3;rw [List.take_append_of_le_length (by omega),tk];cases o with
    |none=>exact td
    |some w=>exact⟨td.ne,zzU td.len (by omega),td.op,td.fst,td.lst,td.go,td.free,td.least,td.bd⟩)
 have hz:(((ss.zip gs).map λp=>PV.tup [ae p.1,ae p.2])).length=ss.length:=by simp [hl]
 rw [hz,Nat.zero_add] at hlo cr;refine⟨os,?_,hlo,cr (zzE _)⟩;have l2:(ss.map ae).length+(gs.map ae).length<=dh:=zzU (m:=40) (by rw [zzl,zzl];omega) (by decide)
 have UN:Res.of (ko [lp ss,lp gs])=.ok [ss.map ae,gs.map ae]:=rfl
 simp! only [] at e1;simp! only [OW] at e2;simp! only [fJ,l2,e1,ho,UN,zip2 hl,e2,x5]
def su{i:Int}(h0:0<=i)(h1:i<=100000):aH i=true:=by
 unfold aH;rw [zza];exact⟨zzh (by omega),zzh (by omega)⟩
def rP(t n:Nat):dr (t:Int) n=(List.range n).map λi:Nat=>PV.int ((t+i:Nat):Int):=by
 unfold dr;refine List.map_congr_left λi _=>?_
 rw [Int.natCast_add]
def GG{l:Ks}(hw:l≠[]):aE (lp l) (.int (-1))=.ok (ae (aQ l (l.length-1))):=by
 have h:=List.length_pos_iff.2 hw
 have hl:l=l.dropLast++[l.getLast hw]:=(List.dropLast_concat_getLast hw).symm
 rw [oR (by omega)];have h2:=gW (l.dropLast.map ae) (ae (l.getLast hw))
 have h3:l.dropLast.map ae++[ae (l.getLast hw)]=l.map ae:=by
  rw [<-List.map_singleton (f:=ae),<-List.map_append,<-hl]
 rw [h3] at h2;rw [List.getLast_eq_getElem] at h2;exact h2
def Mh{l:Ks}(hw:l≠[]):aE (lp l) (.int 0)=.ok (ae (aQ l 0)):=by
 have:=t9 (fk hw 0)
 rw [Nat.zero_min] at this;exact this
noncomputable def Oo:Ss:=#v[.ite (.cmp .ne (.ic 4) (.lst .nil)) #v[.fy 5 4 (.call "_law_pick" #v[!0,.bin .add (!1) (!6),.blt .len #v[.ic 4]])] .nil]
theorem DB:bH.body=#v[.iX 4 (!2),.own 5 (.lst .nil),.bZ (.one 6) (.md (!3)) Oo,.cN 5,.ret (!5)]:=rfl
theorem mQ{α β:Type}(f:α->β):∀(l:List α) (i:Nat),(l.map f).eraseIdx i=(l.eraseIdx i).map f
 |[],i=>rfl
 |a::l,0=>rfl
 |a::l,i+1=>congrArg (f a::·) (mQ f l i)
theorem jx{α:Type}:∀(l:List α) (i:Nat) (h:i<l.length),(l[i]::l.eraseIdx i).Perm l
 |a::l,0,h=>.refl _
 |a::l,i+1,h=>((List.Perm.swap ..).trans (.cons a (jx l i (Nat.lt_of_succ_lt_succ h))))
def E8(F:aN)(hp:ir F)(ns:List Int)(a:Int)(h0:0<=a)(ha:a<=1000)(m:Nat)(hm:m<=20)(S:Ks)(nS:S.Nodup)(lS:S.length<=36):∃M:Ks,au F bH [dM ns,.int a,lp S,.int (m:Int)]=.ok (lp M)/\M.Nodup/\(∀u∈M,u∈S)/\M.length=min m S.length:=by
 obtain⟨af,e1,L,M,s6,rfl,pm,hM⟩:=bQ (body:=λx env=>((Tg.one 6).put x env).bind λaf=>az F Oo af) (P:=λi env=>∃(L M:Ks) (s6:Ci.Slot),env=[.val (dM ns),.val (.int a),.val (lp S),.val (.int (m:Int)),.own (.lst (L.map ae)),.own (.lst (M.map ae)),s6]/\(M++L).Perm S/\M.length=min i S.length) ((List.range m).map λi:Nat=>PV.int (i:Int)) 0 [.val (dM ns),.val (.int a),.val (lp S),.val (.int (m:Int)),.own (.lst (S.map ae)),.own (.lst []),.no] ⟨S,[],_,rfl,.refl _,by simp⟩ (by
  intro i x env hx ⟨L,M,s6,he,pm,hM⟩;subst he;rw [Nat.zero_add] at hM⊢;have oX:x=.int (i:Int):=by
   rw [zzQ,zzJ] at hx;obtain⟨j,hj,rfl⟩:=hx
   rw [List.getElem?_range (by have:=(zzH.1 hj).1;rwa [List.length_range] at this)] at hj;rw [zzq hj]
  subst oX;have ln:=pm.length_eq
  rw [zzM] at ln;have q:=NF L []
  by_cases hL:L=[]
  ·rw [zzh hL] at q;replace q:eX (.lst (L.map ae)) (.lst [])=.ok (.bl false):=q
   refine⟨[.val (dM ns),.val (.int a),.val (lp S),.val (.int (m:Int)),.own (.lst (L.map ae)),.own (.lst (M.map ae)),.val (.int (i:Int))],?_,L,M,_,rfl,pm,by rw [hL] at ln;simp at ln;omega⟩;simp! only [Oo,q]
  ·rw [zz0 hL] at q;replace q:eX (.lst (L.map ae)) (.lst [])=.ok (.bl true):=q
   have Vs:=List.length_pos_iff.2 hL
   obtain⟨p,ep,p0,p1⟩:=hp ns (a+(i:Int)) (L.length:Int) (by omega) (by omega)
   have hn:p.toNat<L.length:=by omega
   have g:(L.map ae)[p.toNat]?=some (ae L[p.toNat]):=by rw [zzQ,zzg hn];rfl
   have l0:cH .len [.lst (L.map ae)]=.ok (.int (L.length:Int)):=by
    show Res.ok (PV.int ((L.map ae).length:Int))=_
    rw [zzl]
   have c:0<=p/\p<((L.map ae).length:Int)/\(L.map ae).length<dh/\(M.map ae).length<dh/\(5:Nat)≠4:=by
    rw [zzl,zzl];exact⟨p0,p1,zzV (m:=36) (by omega) (by decide),zzV (m:=36) (by omega) (by decide),by decide⟩
   have er:(L.map ae).eraseIdx p.toNat=(L.eraseIdx p.toNat).map ae:=mQ ..
   refine⟨[.val (dM ns),.val (.int a),.val (lp S),.val (.int (m:Int)),.own (.lst ((L.eraseIdx p.toNat).map ae)),.own (.lst ((M++[L[p.toNat]]).map ae)),.val (.int (i:Int))],?_,_,_,_,rfl,?_,by rw [zzM,List.length_singleton];omega⟩
   ·simp! only [Oo,q,l0,ep];split
    ·simp! only [g,er,List.map_append,zzF,List.map_nil]
    ·exact absurd c ‹_›
   ·refine List.Perm.trans ?_ pm;rw [List.append_assoc];exact(jx L _ hn).append_left M)
 refine⟨M,?_,?_,λu hu=>pm.subset (zzc _ hu),by simpa using hM⟩
 ·have sm:aH (m:Int)=true:=su (by omega) (by omega)
  have rg:dr 0 (m:Int).toNat=(List.range m).map λi:Nat=>PV.int (i:Int):=by
   have:=rP 0 m
   simp! [Nat.zero_add] at this;exact this
  have sq:Res.of (DU (lp S))=.ok (S.map ae):=rfl
  have st:bJ bH [dM ns,.int a,lp S,.int (m:Int)]=[.val (dM ns),.val (.int a),.val (lp S),.val (.int (m:Int)),.no,.no,.no]:=rfl
  have ar:bL bH [dM ns,.int a,lp S,.int (m:Int)]=true:=rfl
  unfold au;rw [ar,if_pos rfl,st,DB];dsimp! only [J] at e1;dsimp! only [sq,sm,rg,e1,x5]
 ·have:=(List.Perm.nodup_iff pm).2 nS
  exact(List.nodup_append.1 this).1
theorem Wy.rc{E:List Int->List Int->Int->Prop}{O:List Int->Prop}{n:Nat}{W:List Ks}{s g:List Int}{B:Nat}{l:Ks}(h:Wy E O n W s g B l):∀j,j<l.length->Rc E W s j (aQ l j)
 |0,_=>h.fst
 |j+1,hj=>⟨aQ l j,Wy.rc h j (by omega),h.go j hj⟩
def Wy.good{E:List Int->List Int->Int->Prop}{O:List Int->Prop}{n:Nat}{W:List Ks}{s g:List Int}{B:Nat}{l:Ks}(h:Wy E O n W s g B l):Rc E W s (l.length-1) g/\rK W g (l.length-1):=by
 have hp:=List.length_pos_iff.2 h.ne
 have:=h.rc (l.length-1) (by omega)
 rw [h.lst] at this;exact⟨this,h.free⟩
section
variable(E:List Int->List Int->Int->Prop)(B:Ks)
def Lv(s:List Int):Nat->List Int->Prop
 |0,x=>x=s
 |k+1,x=>∃p,Lv s k p/\(∃e,E p x e)/\x∉B
end
section
variable{E:List Int->List Int->Int->Prop}{O:List Int->Prop}{B:Ks}{s g:List Int}
theorem i9(hE:∀u v e,E u v e->O v)(hs:O s):∀{k x},Lv E B s k x->O x
 |0,x,h=>by rw [show x=s from h];exact hs
 |k+1,x,⟨p,_,⟨e,h⟩,_⟩=>hE _ _ _ h
def n6(b:List Int)(t:Nat):aQ [b] t=b:=by
 unfold aQ;rw [show min t ([b].length-1)=0 by simp]
 rfl
def MC{t:Nat}{p x:List Int}:Mv (B.map λb=>[b]) t p x↔x∉B:=by
 constructor
 ·intro h z;have:=(h [x] (zzx.2 ⟨x,z,rfl⟩)).1
  rw [n6] at this;exact this rfl
 ·intro h w hw;obtain⟨b,hb,rfl⟩:=zzx.1 hw
  rw [n6,n6];exact⟨λz=>h (z▸hb),λz=>h (z.1▸hb)⟩
theorem va:∀{k x},Lv E B s k x->Rc E (B.map λb=>[b]) s k x
 |0,x,h=>h
 |k+1,x,⟨p,h1,h2,h3⟩=>⟨p,va h1,.inr h2,MC.2 h3⟩
theorem F0:∀{t x},Rc E (B.map λb=>[b]) s t x->∃k,k<=t/\Lv E B s k x
 |0,x,h=>⟨0,zzE _,h⟩
 |t+1,x,⟨p,h1,h2,h3⟩=>by
  obtain⟨k,hk,h⟩:=F0 h1
  rcases h2 with rfl|h2
  ·exact⟨k,by omega,h⟩
  ·exact⟨k+1,by omega,p,h,h2,MC.1 h3⟩
theorem j9(hg:g∉B)(T:Nat):rK (B.map λb=>[b]) g T:=λw hw i _ z=>by
 obtain⟨b,hb,rfl⟩:=zzx.1 hw
 have:=zzD z
 rw [zzi.1 this] at hg;exact hg hb
def KI(E:List Int->List Int->Int->Prop)(B:Ks)(s g:List Int):Option Nat->Prop
 |none=>∀k,¬Lv E B s k g
 |some k=>Lv E B s k g/\∀j,j<k->¬Lv E B s j g
def qq{a b:Option Nat}(ha:KI E B s g a)(hb:KI E B s g b):a=b:=by
 cases a with
 |none=>
  cases b with
  |none=>rfl
  |some k=>exact absurd hb.1 (ha k)
 |some j=>
  cases b with
  |none=>exact absurd ha.1 (hb j)
  |some k=>
   rcases Nat.lt_trichotomy j k with h|h|h
   ·exact absurd ha.1 (hb.2 j h)
   ·rw [h]
   ·exact absurd hb.1 (ha.2 k h)
def vk{n M:Nat}{o:Option Ks}(hg:g∉B)(h:K1 E O n (B.map λb=>[b]) s g M o):KI E B s g (o.map λl=>l.length-1):=by
 cases o with
 |none=>exact λk hk=>h k ⟨va hk,j9 hg k⟩
 |some l=>
  have y:Wy E O n (B.map λb=>[b]) s g M l:=h
  obtain⟨k,hk,z⟩:=F0 y.good.1
  have e:k=l.length-1:=Classical.byContradiction λne=>y.least k (by omega) ⟨va z,j9 hg k⟩
  subst e;exact⟨z,λj hj q=>y.least j hj ⟨va q,j9 hg j⟩⟩
theorem uO{i j:Nat}{x:List Int}:∀{m:Nat} {y:List Int} (P:Nat->List Int),(∀q,q<m->(∃e,E (P q) (P (q+1)) e)/\P (q+1)∉B)->Lv E B s i (P 0)->Lv E B s (i+m) (P m)
 |0,y,P,_,h=>h
 |m+1,y,P,hP,h=>⟨P m,uO (j:=j) (x:=x) (y:=y) P (λq hq=>hP q (by omega)) h,(hP m (by omega)).1,(hP m (by omega)).2⟩
theorem v8:∀{k x},Lv E B s k x->∃P:Nat->List Int,P 0=s/\P k=x/\∀q,q<k->(∃e,E (P q) (P (q+1)) e)/\P (q+1)∉B
 |0,x,h=>⟨λ_=>s,rfl,h.symm,λq hq=>by omega⟩
 |k+1,x,⟨p,h1,h2,h3⟩=>by
  obtain⟨P,a,b,c⟩:=v8 h1
  refine⟨λi=>if i<=k then P i else x,by simp [a],by dsimp only;rw [if_neg (by omega)],λq hq=>?_⟩
  dsimp only
  by_cases e:q=k
  ·subst e;rw [if_pos (zzE _),if_neg (by omega),b];exact⟨h2,h3⟩
  ·rw [if_pos (by omega),if_pos (by omega)];exact c q (by omega)
def HM(hE:∀u v e,E u v e->O v)(hs:O s){S:Ks}(hS:∀u,O u->u∈S){k:Nat}(h:KI E B s g (some k)):k<S.length:=by
 obtain⟨P,a,b,c⟩:=v8 h.1
 have lv:∀i,i<=k->Lv E B s i (P i):=λi hi=>by
  have:=uO (E:=E) (B:=B) (s:=s) (i:=0) (j:=0) (x:=[]) (y:=[]) (m:=i) P (λq hq=>c q (by omega)) a
  rw [Nat.zero_add] at this;exact this
 have nd:((List.range (k+1)).map P).Nodup:=by
  refine List.pairwise_map.2 (List.Pairwise.imp_of_mem (λ{i j} hi hj oD z=>?_) List.pairwise_lt_range);rw [List.mem_range] at hi hj;have:=uO (E:=E) (B:=B) (s:=s) (i:=i) (j:=0) (x:=[]) (y:=[]) (m:=k-j) (λq=>P (j+q)) (λq hq=>c (j+q) (by omega)) (by show Lv E B s i (P (j+0));rw [Nat.add_zero,<-z];exact lv i (by omega))
  have e:P (j+(k-j))=g:=by rw [show j+(k-j)=k by omega,b]
  have this:Lv E B s (i+(k-j)) (P (j+(k-j))):=this
  rw [e] at this;exact h.2 _ (by omega) this
 have:=cq nd λx hx=>by
  obtain⟨i,hi,rfl⟩:=zzx.1 hx
  rw [List.mem_range] at hi;exact hS _ (i9 hE hs (lv i (by omega)))
 rw [zzl,List.length_range] at this;omega
end
noncomputable def KA:Ss:=#v[.mG 7 (.cA 1 [4] (.one 0) (.seq (.call "_law_steps" #v[!0,!1,!8])) (.cmp .yg (.sub (!0) (¬0)) (!1)) (.sub (!0) (¬0)))]
noncomputable def Fn:Ss:=#v[.ite (.cmp .Fp (!3) (!5)) #v[.ret (!6)] .nil,.own 7 (.lst .nil),.bZ (.one 8) (.seq (!5)) KA,.set 5 (.xP (.ic 7))]
theorem Er:aV.body=#v[.set 5 (.lst #v[!2]),.bZ (.one 6) (.md (.bin .add (.blt .len #v[.call "_law_spots" #v[!0]]) (¬1))) Fn,.ret (.cst .ay)]:=rfl
theorem mY:∀M:Ks,eQ (M.map ae)=some M
 |[]=>rfl
 |k::M=>by
  rw [zzF,eQ,dD,mY M]
  rfl
def Bq{M:Ks}(h1:∀k∈M,St.A8 k=true)(h2:(eW M).length<=18):Fq (lp M)=.ok (lp (eW M)):=by
 show(Res.of (eQ (M.map ae))).bind _=_
 rw [mY];show(if(M.all St.A8&&decide ((eW M).length<=18))=true then Res.ok _ else .bad)=_
 rw [if_pos];rw [zza,zzN];exact⟨zzT.2 h1,h2⟩
def Hh{rows:List Str}{w:Nat}(L:Fl rows w){k:List Int}(h:jk rows k):St.A8 k=true:=by
 obtain⟨r,c,rfl,ho⟩:=h
 have:=z9 L ho
 simp! [St.A8,zza,zzN];exact⟨⟨this.1,this.2.1⟩,this.2.2⟩
section
variable{rows:List Str}{w:Nat}{sl:Bool}{cl pr:Int}{B:Ks}{s g:List Int}
noncomputable abbrev M8(rows:List Str)(sl:Bool)(cl pr:Int)(s g:List Int)(B Hr:Ks)(s6:Ci.Slot)(M:Ks)(s8:Ci.Slot):Sl:=[.val (fl rows),.val (wk sl cl pr),.val (ae s),.val (ae g),.val (lp B),.val (lp Hr),s6,.own (lp M),s8]
theorem zY(F:aN)(hs:fE F)(L:Fl rows w)(V:Wk cl pr){Hr:Ks}{s6:Ci.Slot}:∀(Q M:Ks) (s8:Ci.Slot),(∀p∈Q,jk rows p)->M.length+9*Q.length<=5000->∃M' KZ,forL (λx env=>((Tg.one 8).put x env).bind λaf=>az F KA af) (Q.map ae) (M8 rows sl cl pr s g B Hr s6 M s8)=.ok (.nx (M8 rows sl cl pr s g B Hr s6 M' KZ))/\∀x,x∈M'↔x∈M\/∃p∈Q,(∃e,E1 rows sl cl pr p x e)/\x∉B
 |[],M,s8,_,_=>⟨M,s8,rfl,λx=>⟨.inl,λh=>h.elim id λ⟨p,hp,_⟩=>by cases hp⟩⟩
 |p::Q,M,s8,hQ,hl=>by
  rw [zzL] at hl;obtain⟨r,c,rfl,ho⟩:=hQ p (zzP ..)
  obtain⟨T,e,lT,_,hT⟩:=hs rows w L sl cl pr V r c ho
  have UU:(T.map tK).length<dh:=zzV (m:=9) (by rw [zzl];exact lT) (by decide)
  have cc:aK (λx=>((Tg.one 0).put x [.no,.val (lp B)]).bind λaf=>(aA F (.cmp .yg (.sub (.var 0) (.cst (.int 0))) (.var 1)) af).bind λt=>se t λt=>if t then(aA F (.sub (.var 0) (.cst (.int 0))) af).bind λy=>.ok (some y) else .ok none) (T.map tK)=.ok ((T.filter λt=>!decide (t.1∈B)).map λt=>ae t.1):=by
   refine kq λt ht=>?_
   dsimp! only [SF,Q0]
   by_cases h:t.1∈B
   ·dsimp! only [h,decide_true]
   ·dsimp! only [h,decide_false,SF]
  have lf:=List.length_filter_le (λt:List Int×Int=>!decide (t.1∈B)) T
  have l3:(M.map ae).length+((T.filter λt=>!decide (t.1∈B)).map λt=>ae t.1).length<=dh:=zzU (m:=5000) (by rw [zzl,zzl];omega) (by decide)
  have eb:(((Tg.one 8).put (ae [r,c]) (M8 rows sl cl pr s g B Hr s6 M s8)).bind λaf=>az F KA af)=.ok (.nx (M8 rows sl cl pr s g B Hr s6 (M++(T.filter λt=>!decide (t.1∈B)).map (·.1)) (.val (ae [r,c])))):=by
   dsimp! only [J] at cc;have Uq:lp (M++(T.filter λt=>!decide (t.1∈B)).map (·.1))=.lst (M.map ae++(T.filter λt=>!decide (t.1∈B)).map λt=>ae t.1):=by
    show PV.lst ((M++_).map ae)=_
    rw [List.map_append,List.map_map]
    rfl
   dsimp! only [KA,e,UU,cc,l3,M8,Uq]
  obtain⟨M',KZ,e1,e2⟩:=zY F hs L V Q (M++(T.filter λt=>!decide (t.1∈B)).map (·.1)) (.val (ae [r,c])) (λp hp=>hQ p (zzI _ hp)) (by rw [zzM,zzl];omega)
  refine⟨M',KZ,by rw [zzF,forL,eb,mi];exact e1,λx=>?_⟩
  rw [e2,List.mem_append,zzx]
  constructor
  ·rintro ((h|⟨t,ht,rfl⟩)|⟨p,hp,h⟩)
   ·exact .inl h
   ·obtain⟨h1,h2⟩:=List.mem_filter.1 ht
    exact .inr ⟨_,zzP ..,⟨t.2,(hT t.1 t.2).1 h1⟩,by simpa using h2⟩
   ·exact .inr ⟨p,zzI _ hp,h⟩
  ·rintro (h|⟨p,hp,⟨e,h1⟩,h2⟩)
   ·exact .inl (.inl h)
   ·rcases zzm.1 hp with rfl|hp
    ·exact .inl (.inr ⟨(x,e),List.mem_filter.2 ⟨(hT x e).2 h1,by simpa using h2⟩,rfl⟩)
    ·exact .inr ⟨p,hp,⟨e,h1⟩,h2⟩
def Ue(F:aN)(E:List Int->List Int->Int->Prop)(B:Ks)(s g:List Int)(t k:Nat)(env:Sl):Prop:=
 (∃T,t<=T/\T<t+k/\Lv E B s T g/\(∀T',t<=T'->T'<T->¬Lv E B s T' g)/\forL (λx env=>((Tg.one 6).put x env).bind λaf=>az F Fn af) ((List.range k).map λi:Nat=>PV.int ((t+i:Nat):Int)) env=.ok (.rt (.int (T:Int))))\/
  ((∀T,t<=T->T<t+k->¬Lv E B s T g)/\∃af,forL (λx env=>((Tg.one 6).put x env).bind λaf=>az F Fn af) ((List.range k).map λi:Nat=>PV.int ((t+i:Nat):Int)) env=.ok (.nx af))
theorem u0(F:aN)(hs:fE F)(L:Fl rows w)(V:Wk cl pr){S:Ks}(hm:∀k,k∈S↔jk rows k)(lS:S.length<=18)(os:jk rows s):∀(k t:Nat) (Hr:Ks) (s6 s7 s8:Ci.Slot),(∀x,x∈Hr↔Lv (E1 rows sl cl pr) B s t x)->Hr.Nodup->
 Ue F (E1 rows sl cl pr) B s g t k [.val (fl rows),.val (wk sl cl pr),.val (ae s),.val (ae g),.val (lp B),.val (lp Hr),s6,s7,s8]
 |0,t,Hr,s6,s7,s8,hH,nH=>.inr ⟨λT h1 h2=>by omega,_,rfl⟩
 |k+1,t,Hr,s6,s7,s8,hH,nH=>by
  have hE:∀u v e,E1 rows sl cl pr u v e->jk rows v:=λu v e h=>(AG L V h).2.2
  have rg:((List.range (k+1)).map λi:Nat=>PV.int ((t+i:Nat):Int))=.int (t:Int)::(List.range k).map λi:Nat=>PV.int ((t+1+i:Nat):Int):=by
   rw [List.range_succ_eq_map,zzF,List.map_map];refine congrArg (PV.int (t:Int)::·) (List.map_congr_left λi _=>?_);show PV.int ((t+(i+1):Nat):Int)=_
   rw [show t+(i+1)=t+1+i by omega]
  have c1:=SS g Hr
  have Sd:∀p∈Hr,jk rows p:=λp hp=>i9 hE os ((hH p).1 hp)
  have lH:Hr.length<=18:=zzU (cq nH λp hp=>(hm p).2 (Sd p hp)) lS
  obtain⟨M,m8,eM,hM⟩:=zY F hs L V (B:=B) (s:=s) (g:=g) (Hr:=Hr) (s6:=.val (.int (t:Int))) Hr [] s8 Sd (by rw [List.length_nil];omega)
  have P6:∀x,x∈eW M↔Lv (E1 rows sl cl pr) B s (t+1) x:=λx=>by
   rw [d9,hM]
   constructor
   ·rintro (h|⟨p,hp,h⟩)
    ·cases h
    ·exact⟨p,(hH p).1 hp,h⟩
   ·rintro ⟨p,hp,h⟩
    exact .inr ⟨p,(hH p).2 hp,h⟩
  have nM:(eW M).Nodup:=lr.nodup
  have so:=Bq (M:=M) (λk hk=>Hh L (i9 hE os ((P6 k).1 (d9.2 hk)))) (zzU (cq nM λp hp=>(hm p).2 (i9 hE os ((P6 p).1 hp))) lS)
  have l2:(Hr.map ae).length<dh:=zzV (m:=18) (by rw [zzl];exact lH) (by decide)
  by_cases hg:g∈Hr
  ·rw [zzh hg] at c1;refine .inl ⟨t,zzE _,by omega,(hH g).1 hg,λT' a b=>by omega,?_⟩
   rw [rg,forL,show(((Tg.one 6).put (.int (t:Int)) [.val (fl rows),.val (wk sl cl pr),.val (ae s),.val (ae g),.val (lp B),.val (lp Hr),s6,s7,s8]).bind λaf=>az F Fn af)=.ok (.rt (.int (t:Int))) from by dsimp! only [Fn,c1]]
   rfl
  ·rw [zz0 hg] at c1;have eb:(((Tg.one 6).put (.int (t:Int)) [.val (fl rows),.val (wk sl cl pr),.val (ae s),.val (ae g),.val (lp B),.val (lp Hr),s6,s7,s8]).bind λaf=>az F Fn af)=.ok (.nx [.val (fl rows),.val (wk sl cl pr),.val (ae s),.val (ae g),.val (lp B),.val (lp (eW M)),.val (.int (t:Int)),.own (lp M),m8]):=by
    change forL _ _ [.val (fl rows),.val (wk sl cl pr),.val (ae s),.val (ae g),.val (lp B),.val (lp Hr),.val (.int (t:Int)),.own (.lst []),s8]=.ok (.nx [.val (fl rows),.val (wk sl cl pr),.val (ae s),.val (ae g),.val (lp B),.val (lp Hr),.val (.int (t:Int)),.own (lp M),m8]) at eM
    dsimp! only [KA] at eM;dsimp! only [Fn,KA,c1,l2,eM,so]
   have ih:=u0 F hs L V hm lS os k (t+1) (eW M) (.val (.int (t:Int))) (.own (lp M)) m8 P6 nM
   have Ny:¬Lv (E1 rows sl cl pr) B s t g:=λz=>hg ((hH g).2 z)
   rcases ih with⟨T,h1,h2,h3,h4,e⟩|⟨h1,af,e⟩
   ·refine Or.inl ⟨T,by omega,by omega,h3,λT' a b=>?_,?_⟩
    ·by_cases hT:T'=t
     ·subst hT;exact Ny
     ·exact h4 T' (by omega) b
    ·rw [rg,forL,eb,mi];exact e
   ·refine Or.inr ⟨λT a b=>?_,af,?_⟩
    ·by_cases hT:T=t
     ·subst hT;exact Ny
     ·exact h1 T (by omega) (by omega)
    ·rw [rg,forL,eb,mi];exact e
noncomputable def kP:Option Nat->PV
 |none=>.ay
 |some k=>.int (k:Int)
def HF(F:aN)(hs:fE F)(L:Fl rows w)(V:Wk cl pr){S:Ks}(eS:F "_law_spots" [fl rows]=.ok (lp S))(hm:∀k,k∈S↔jk rows k)(lS:S.length<=18)(os:jk rows s):∃o,au F aV [fl rows,wk sl cl pr,ae s,ae g,lp B]=.ok (kP o)/\KI (E1 rows sl cl pr) B s g o:=by
 have hE:∀u v e,E1 rows sl cl pr u v e->jk rows v:=λu v e h=>(AG L V h).2.2
 have s1:aH (((S.length:Nat):Int)+1)=true:=su (by omega) (by omega)
 have rg:dr 0 (((S.length:Nat):Int)+1).toNat=(List.range (S.length+1)).map λi:Nat=>PV.int ((0+i:Nat):Int):=by
  rw [show(((S.length:Nat):Int)+1).toNat=S.length+1 by omega];exact rP 0 (S.length+1)
 have eY:bJ aV [fl rows,wk sl cl pr,ae s,ae g,lp B]=[.val (fl rows),.val (wk sl cl pr),.val (ae s),.val (ae g),.val (lp B),.no,.no,.no,.no]:=rfl
 have ar:bL aV [fl rows,wk sl cl pr,ae s,ae g,lp B]=true:=rfl
 have fin:∀r:Res Ci.Fl,forL (λx env=>((Tg.one 6).put x env).bind λaf=>az F Fn af) ((List.range (S.length+1)).map λi:Nat=>PV.int ((0+i:Nat):Int)) [.val (fl rows),.val (wk sl cl pr),.val (ae s),.val (ae g),.val (lp B),.val (.lst [ae s]),.no,.no,.no]=r->au F aV [fl rows,wk sl cl pr,ae s,ae g,lp B]=(r.bind λf=>f.seq (az F (.cons (.ret (.cst .ay)) .nil))).bind λf=>match f with|.nx _=>.ok .ay|.rt p=>.ok p|_=>.bad:=λr er=>by
  unfold au;rw [ar,if_pos rfl,eY,Er];dsimp! only [J] at er;dsimp! only [eS,zzl,s1,rg,er]
  all_goals rfl
 rcases u0 F hs L V hm lS os (B:=B) (g:=g) (S.length+1) 0 [s] .no .no .no (λx=>by rw [zzi];exact Iff.rfl) (by simp) with⟨T,h1,h2,h3,h4,e⟩|⟨h1,af,e⟩
 ·exact⟨some T,fin _ e,h3,λj hj=>h4 j (Nat.zero_le _) hj⟩
 ·refine⟨none,fin _ e,?_⟩
  ·have key:∀n k,k<n->¬Lv (E1 rows sl cl pr) B s k g:=by
    intro n
    induction n with
    |zero=>intro k hk;omega
    |succ n ih=>
     intro k hk z
     by_cases e:k<n
     ·exact ih k e z
     ·have:k=n:=by omega
      subst this;have:=HM hE os (λu hu=>(hm u).2 hu) (k:=k) (g:=g) (B:=B) ⟨z,ih⟩
      exact h1 k (Nat.zero_le _) (by omega) z
   exact λk=>key (k+1) k (by omega)
end
def By(B:Ks):aw (B.map λb=>some [b])=B.map λb=>[b]:=by
 unfold aw;rw [List.filterMap_map]
 induction B with
 |nil=>rfl
 |cons b B ih=>rw [List.filterMap_cons_some (f:=id∘λb=>some [b]) (b:=[b]) rfl,ih,zzF]
def mW{E:List Int->List Int->Int->Prop}{O:List Int->Prop}{n:Nat}{B:Ks}{s g:List Int}{os:List (Option Ks)}(nB:B.Nodup)(ho:os.length=B.length+1)(h:sD E O n (B++[s]) (B++[g]) os):∃o M,os=(B.map λb=>some [b])++[o]/\K1 E O n (B.map λb=>[b]) s g M o:=by
 have key:∀i,i<=B.length->os.take i=(B.take i).map λb=>some [b]:=by
  intro i
  induction i with
  |zero=>intro _;rfl
  |succ i ih=>
   intro hi;have ih:=ih (by omega)
   have h1:os[i]?=some os[i]:=zzg (by omega)
   have h2:B[i]?=some B[i]:=zzg (by omega)
   have t:=h.Kt i os[i] B[i] B[i] h1 (by rw [zzr (by omega)];exact h2) (by rw [zzr (by omega)];exact h2)
   rw [ih,By] at t;have hn:B[i]∉B.take i:=λz=>by
    have e:=List.take_append_drop i B
    rw [<-e,List.drop_eq_getElem_cons (by omega)] at nB;exact(List.nodup_append.1 nB).2.2 _ z _ (zzP ..) rfl
   have eo:os[i]=some [B[i]]:=by
    cases e:os[i] with
    |none=>rw [e] at t;exact absurd ⟨rfl,j9 hn 0⟩ (t 0)
    |some l=>
     rw [e] at t;have y:Wy E O n _ B[i] B[i] _ l:=t
     have l1:l.length=1:=by
      have:=List.length_pos_iff.2 y.ne
      by_cases z:0<l.length-1
      ·exact absurd ⟨rfl,j9 hn 0⟩ (y.least 0 z)
      ·omega
     match l,l1,y with
     |[x],_,y=>
      have:=y.fst
      rw [n6] at this;rw [this]
   rw [List.take_succ,h1,ih,eo,List.take_succ,h2,List.map_append]
   rfl
 have hk:=key B.length (zzE _)
 rw [List.take_length] at hk;have h1:os[B.length]?=some os[B.length]:=zzg (by omega)
 have t:=h.Kt B.length os[B.length] s g h1 (by rw [zzs (zzE _),Nat.sub_self];rfl) (by rw [zzs (zzE _),Nat.sub_self];rfl)
 rw [hk,By] at t;refine⟨os[B.length],_,?_,t⟩;have:=List.take_append_drop B.length os
 rw [hk,List.drop_eq_getElem_cons (by omega),List.drop_eq_nil_of_le (by omega)] at this;exact this.symm
def LP{rows:List Str}{w:Nat}(L:Fl rows w)(h1:(rows.length:Int)<=4)(h2:(w:Int)<=4){S:Ks}(nS:S.Nodup)(hm:∀k,k∈S↔jk rows k):S.length<=18:=by
 refine zzU (cq (U:=(List.range 4).flatMap λ(r:Nat)=>(List.range 4).map λ(c:Nat)=>[(r:Int),(c:Int)]) nS λk hk=>?_) (by decide)
 obtain⟨r,c,rfl,ho⟩:=(hm k).1 hk
 have:=gc L ho
 obtain⟨r,rfl⟩:=zzw this.1
 obtain⟨c,rfl⟩:=zzw this.2.2.1
 exact List.mem_flatMap.2 ⟨r,List.mem_range.2 (by omega),zzx.2 ⟨c,List.mem_range.2 (by omega),rfl⟩⟩
theorem ie(f:PV->PV->Bool):∀{xs:List PV},(∀x∈xs,f x x=true)->eqs f xs xs=true
 |[],_=>rfl
 |x::xs,h=>by
  show(f x x&&eqs f xs xs)=true
  rw [h x (zzP ..),ie f λy hy=>h y (zzI _ hy)]
  rfl
def EZ(B:Ks):eX (.lst (B.map λb=>lp [b])) (.lst (B.map λb=>lp [b]))=.ok (.bl false):=by
 have pl:Ci.plain 9 (.lst (B.map λb=>lp [b]))=true:=by
  show(B.map λb=>lp [b]).all (Ci.plain 8)=true
  rw [zzT];intro x hx;obtain⟨b,_,rfl⟩:=zzx.1 hx
  exact pB 6 [b]
 have eq:gq 9 (.lst (B.map λb=>lp [b])) (.lst (B.map λb=>lp [b]))=true:=by
  show eqs (gq 8) _ _=true
  refine ie _ λx hx=>?_
  obtain⟨b,_,rfl⟩:=zzx.1 hx
  show eqs (gq 7) [ae b] [ae b]=true
  refine ie _ λy hy=>?_
  rw [zzi.1 hy];show eqs (gq 6) (b.map .int) (b.map .int)=true
  refine ie _ λz hz=>?_
  obtain⟨i,_,rfl⟩:=zzx.1 hz
  show(i==i)=true
  exact beq_self_eq_true i
 show(if(Ci.plain 9 (.lst (B.map λb=>lp [b]))&&Ci.plain 9 (.lst (B.map λb=>lp [b])))=true then Res.ok (PV.bl (!gq 9 (.lst (B.map λb=>lp [b])) (.lst (B.map λb=>lp [b])))) else .bad)=_
 rw [pl,eq]
 rfl
def LF{α:Type}(a b:α)(l:List α):lY (a::b::l) none (some 2)=[a,b]:=by
 unfold lY;rw [show HT.lW (a::b::l).length (a::b::l).length (some 2)=min 2 (a::b::l).length from HT.uT _ _ 2,HT.kD,Nat.min_eq_left (by simp)]
 rfl
theorem Mf{α:Type}(a b:α)(l:List α):lY (a::b::l) (some 2) none=l:=AI (a::b::l) (k:=2) (by simp)
def Mu{α:Type}(l:List α)(x:α):lY (l++[x]) none (some (-1))=l:=by
 unfold lY;rw [HT.kD,show HT.lW (l++[x]).length (l++[x]).length (some (-1))=l.length from by
  show(if(-1:Int)<0 then((-1:Int)+((l++[x]).length:Int)).toNat else min (-1:Int).toNat (l++[x]).length)=l.length
  rw [if_pos (by decide),zzM,List.length_singleton];omega]
 simp
def nB(b:Bool):eX (.bl b) (.bl b)=.ok (.bl false):=by cases b<;>rfl
structure Rest(F:aN)(rows:List Str)(sl:Bool)(cl pr:Int)(S:Ks):Prop where
 Ta:LW (E1 rows sl cl pr) (jk rows) S.length (fl rows) (wk sl cl pr) (F "crowd")
 Dh:∀(s g:List Int) (B:Ks),jk rows s->∃o,F "_law_fewest" [fl rows,wk sl cl pr,ae s,ae g,lp B]=.ok (kP o)/\KI (E1 rows sl cl pr) B s g o
noncomputable def t1:E:=.or (.cmp .ne (.cmp .is (.sub (!7) (¬0)) (.cst .ay)) (.cmp .is (!8) (.cst .ay))) (.and (.cmp .vn (!8) (.cst .ay)) (.cmp .ne (.blt .len #v[.sub (!7) (¬0)]) (.bin .add (!8) (¬1))))
noncomputable def t2:E:=.or (.cmp .is (!8) (.cst .ay)) (.cmp .is (.sub (!7) (.neg (¬1))) (.cst .ay))
noncomputable def r2:E:=.and (.cmp .is (!8) (.cst .ay)) (.cmp .is (.sub (!7) (.neg (¬1))) (.cst .ay))
noncomputable def r3:E:=.and (.cmp .eq (.blt .len #v[.sub (!7) (.neg (¬1))]) (.bin .add (!8) (¬1))) (.and (.cmp .eq (.sub (.sub (!7) (.neg (¬1))) (¬0)) (!4)) (.cmp .eq (.sub (.sub (!7) (.neg (¬1))) (.neg (¬1))) (!5)))
noncomputable def Kd:Ss:=#v[.set 8 (.call "_law_fewest" #v[!1,!2,!4,!5,!6]),.ite t2 #v[.ret r2] .nil,.ret r3]
noncomputable def Sm:Ss:=.cons (.set 7 (.call "crowd" #v[!1,!2,.bin .add (!6) (.lst #v[!4]),.bin .add (!6) (.lst #v[!5])])) (.cons (.ite (.cmp .ne (.slice (!7) .no (.some (.neg (¬1)))) (.comp 1 [] (.one 0) (.seq (!6)) (.lst #v[!0]))) #v[.ret (.cst (.bl false))] .nil) Kd)
noncomputable def Tn:Ss:=.cons (.uM 4 5 (.slice (!3) .no (.some (¬2)))) (.cons (.set 6 (.slice (!3) (.some (¬2)) .no)) (.cons (.set 7 (.call "crowd" #v[!1,!2,.lst #v[!4],.lst #v[!5]])) (.cons (.set 8 (.call "_law_fewest" #v[!1,!2,!4,!5,.lst .nil])) (.cons (.ite t1 #v[.ret (.cst (.bl false))] .nil) Sm))))
theorem CO:bG.body=(.cons (.set 1 (.call "_law_floor" #v[!0,¬0,¬4])) (.cons (.set 2 (.call "_law_walker" #v[!0,¬30])) (.cons (.set 3 (.call "_law_some" #v[!0,¬35,.call "_law_spots" #v[!1],.bin .add (¬2) (.call "_law_pick" #v[!0,¬34,¬4])])) (.cons (.ite (.cmp .lt (.blt .len #v[!3]) (¬2)) #v[.ret (.cst (.bl true))] .nil) Tn)))):=rfl
theorem iI{i:Int}:pR (.int i) .ay=.ok (.bl false):=rfl
theorem iL{l:Ks}:pR (lp l) .ay=.ok (.bl false):=rfl
theorem iN:pR .ay .ay=.ok (.bl true):=rfl
theorem jI{i:Int}:ef (.int i) .ay=.ok (.bl true):=rfl
theorem jN:ef .ay .ay=.ok (.bl false):=rfl
section
variable{F:aN}{o:Option Ks}{A B C D:Ci.Slot}{s g:List Int}{Bs:Ks}{X:List PV}{rows:List Str}{sl:Bool}{cl pr:Int}
noncomputable abbrev k1(o:Option Ks):PV:=kP (o.map λl=>l.length-1)
def K7(h:∀l,o=some l->l≠[]):aA F t1 [A,B,C,D,.val (ae s),.val (ae g),.val (lp Bs),.val (.lst [oK o]),.val (k1 o)]=.ok (.bl false):=by
 have sb:aE (.lst [oK o]) (.int 0)=.ok (oK o):=rfl
 cases o with
 |none=>
  have sb:aE (.lst [PV.ay]) (.int 0)=.ok .ay:=rfl
  show aA F t1 [A,B,C,D,.val (ae s),.val (ae g),.val (lp Bs),.val (.lst [.ay]),.val .ay]=_
  dsimp! only [t1,sb,iN,nB,jN]
 |some l=>
  have sb:aE (.lst [lp l]) (.int 0)=.ok (lp l):=rfl
  have hp:=List.length_pos_iff.2 (h l rfl)
  have z:(!(((l.map ae).length:Int)==((l.length-1:Nat):Int)+1))=false:=by
   rw [zzl,show((l.length-1:Nat):Int)+1=(l.length:Int) by omega];simp
  show aA F t1 [A,B,C,D,.val (ae s),.val (ae g),.val (lp Bs),.val (.lst [lp l]),.val (.int ((l.length-1:Nat):Int))]=_
  dsimp! only [t1,sb,iI,iL,nB,jI,z]
def Jd(h:∀l,o=some l->l≠[]/\aQ l 0=s/\aQ l (l.length-1)=g)(e:F "_law_fewest" [fl rows,wk sl cl pr,ae s,ae g,lp Bs]=.ok (k1 o))(a0 a3 a8:Ci.Slot):az F Kd [a0,.val (fl rows),.val (wk sl cl pr),a3,.val (ae s),.val (ae g),.val (lp Bs),.val (.lst (X++[oK o])),a8]=.ok (.rt (.bl true)):=by
 cases o with
 |none=>
  have sb:aE (.lst (X++[PV.ay])) (.int (-1))=.ok .ay:=gW X .ay
  have e:F "_law_fewest" [fl rows,wk sl cl pr,ae s,ae g,lp Bs]=.ok .ay:=e
  show az F Kd [a0,.val (fl rows),.val (wk sl cl pr),a3,.val (ae s),.val (ae g),.val (lp Bs),.val (.lst (X++[.ay])),a8]=_
  dsimp! only [Kd,t2,r2,e,sb,iN]
 |some l=>
  have sb:aE (.lst (X++[lp l])) (.int (-1))=.ok (lp l):=gW X (lp l)
  obtain⟨h0,h1,h2⟩:=h l rfl
  have hp:=List.length_pos_iff.2 h0
  have e:F "_law_fewest" [fl rows,wk sl cl pr,ae s,ae g,lp Bs]=.ok (.int ((l.length-1:Nat):Int)):=e
  have z:(((l.map ae).length:Int)==((l.length-1:Nat):Int)+1)=true:=by
   rw [zzl,show((l.length-1:Nat):Int)+1=(l.length:Int) by omega];simp
  have f1:=Mh h0
  have f2:=GG h0
  rw [h1] at f1;rw [h2] at f2;have q1:=O1 s s
  have q2:=O1 g g
  rw [zzh rfl] at q1 q2;show az F Kd [a0,.val (fl rows),.val (wk sl cl pr),a3,.val (ae s),.val (ae g),.val (lp Bs),.val (.lst (X++[lp l])),a8]=_
  dsimp! only [Kd,t2,r3,e,sb,iI,iL,z,f1,f2,q1,q2]
end
theorem vy{E:List Int->List Int->Int->Prop}{O:List Int->Prop}{n M:Nat}{W:List Ks}{s g:List Int}{o:Option Ks}(t:K1 E O n W s g M o):∀l,o=some l->l≠[]/\aQ l 0=s/\aQ l (l.length-1)=g:=λl e=>by
 subst e;have y:Wy E O n W s g M l:=t
 exact⟨y.ne,y.fst,y.lst⟩
def CZ(F:aN)(hp:ir F)(hf:∀ns,∃rows w,(Fl rows w/\(rows.length:Int)<=4/\(w:Int)<=4)/\F "_law_floor" [dM ns,.int 0,.int 4]=.ok (fl rows))(hw:∀ns,∃sl cl pr,Wk cl pr/\F "_law_walker" [dM ns,.int 30]=.ok (wk sl cl pr))(hk:Ln (F "_law_spots"))
 (TH:∀ns (a:Int),0<=a->a<=1000->∀m:Nat,m<=20->∀S:Ks,S.Nodup->S.length<=36->∃M:Ks,F "_law_some" [dM ns,.int a,lp S,.int (m:Int)]=.ok (lp M)/\M.Nodup/\(∀u∈M,u∈S)/\M.length=min m S.length)
 (hr:∀rows w,Fl rows w->∀sl cl pr,Wk cl pr->∀S:Ks,F "_law_spots" [fl rows]=.ok (lp S)->S.Nodup->S.length<=18->(∀k,k∈S↔jk rows k)->Rest F rows sl cl pr S) (ns:List Int):au F bG [dM ns]=.ok (.bl true):=by
 obtain⟨rows,w,⟨L,b1,b2⟩,e1⟩:=hf ns
 obtain⟨sl,cl,pr,V,e2⟩:=hw ns
 obtain⟨S,e3,lS,sS,hm⟩:=hk rows L.yd
 have e3:F "_law_spots" [fl rows]=.ok (lp S):=e3
 have nS:S.Nodup:=sS.nodup
 have Tx:=LP L b1 b2 nS hm
 obtain⟨p,e4,p0,p4⟩:=hp ns 34 4 (by decide) (by decide)
 have ep:(2:Int)+p=((p.toNat+2:Nat):Int):=by omega
 obtain⟨M,e5,n1,i1,l1⟩:=TH ns 35 (by decide) (by decide) (p.toNat+2) (by omega) S nS lS
 have R:=hr rows w L sl cl pr V S e3 nS Tx hm
 have st:bJ bG [dM ns]=[.val (dM ns),.no,.no,.no,.no,.no,.no,.no,.no]:=rfl
 have ar:bL bG [dM ns]=true:=rfl
 unfold au;rw [ar,if_pos rfl,st,CO]
 by_cases hl:M.length<2
 ·have z:decide (((M.map ae).length:Int)<2)=true:=zzh (by rw [zzl];omega)
  dsimp! only [e1,e2,e3,e4,ep,e5,z]
 ·match M,hl,e5,n1,i1,l1 with
  |[],hl,_,_,_,_=>simp! [List.length_nil] at hl;omega
  |[_],hl,_,_,_,_=>simp! [zzL,List.length_nil] at hl;omega
  |s::g::B,hl,e5,n1,i1,l1=>
   have z:decide ((((B.map ae).length+1+1:Nat):Int)<2)=false:=zz0 (by omega)
   have os:jk rows s:=(hm s).1 (i1 s (by simp))
   have og:jk rows g:=(hm g).1 (i1 g (by simp))
   have oB:∀u∈B,jk rows u:=λu hu=>(hm u).1 (i1 u (by simp [hu]))
   have n2:=List.nodup_cons.1 n1
   have n3:=List.nodup_cons.1 n2.2
   have sB:s∉B:=λz=>n2.1 (by simp [z])
   have lB:B.length<=18:=by rw [zzL,zzL] at l1;omega
   obtain⟨os1,c1,lo1,cr1⟩:=R.Ta [s] [g] rfl (by simp) (by simp) (by simp) (λu hu=>by rw [zzi.1 hu];exact os) (λu hu=>by rw [zzi.1 hu];exact og)
   obtain⟨o,M1,rfl,t1'⟩:=mW (B:=[]) (s:=s) (g:=g) .nil lo1 cr1
   have c1:F "crowd" [fl rows,wk sl cl pr,.lst [ae s],.lst [ae g]]=.ok (.lst [oK o]):=c1
   obtain⟨k,d1,fw1⟩:=R.Dh s g [] os
   have ek:=qq fw1 (vk (B:=[]) (by simp) t1')
   subst ek;have d1:F "_law_fewest" [fl rows,wk sl cl pr,ae s,ae g,.lst []]=.ok (k1 o):=d1
   obtain⟨os2,c2,lo2,cr2⟩:=R.Ta (B++[s]) (B++[g]) (by simp) (by simp;omega) (List.nodup_append.2 ⟨n3.2,by simp,λa ha b hb e=>by rw [zzi.1 hb] at e;rw [e] at ha;exact sB ha⟩) (List.nodup_append.2 ⟨n3.2,by simp,λa ha b hb e=>by rw [zzi.1 hb] at e;rw [e] at ha;exact n3.1 ha⟩) (λu hu=>by rcases List.mem_append.1 hu with h|h;exact oB u h;rw [zzi.1 h];exact os) (λu hu=>by rcases List.mem_append.1 hu with h|h;exact oB u h;rw [zzi.1 h];exact og)
   obtain⟨o',M2,rfl,t2'⟩:=mW n3.2 (by rw [lo2,zzM];rfl) cr2
   have c2:F "crowd" [fl rows,wk sl cl pr,.lst (B.map ae++[ae s]),.lst (B.map ae++[ae g])]=.ok (.lst ((B.map λb=>lp [b])++[oK o'])):=by
    have h1:lp (B++[s])=.lst (B.map ae++[ae s]):=by show PV.lst ((B++[s]).map ae)=_;rw [List.map_append];rfl
    have h2:lp (B++[g])=.lst (B.map ae++[ae g]):=by show PV.lst ((B++[g]).map ae)=_;rw [List.map_append];rfl
    rw [h1,h2,List.map_append,List.map_map] at c2;exact c2
   obtain⟨k',d2,fw2⟩:=R.Dh s g B os
   have ek:=qq fw2 (vk n3.1 t2')
   subst ek;have q1:du (lp (s::g::B)) none (some 2)=.ok (.lst [ae s,ae g]):=congrArg (λz=>Res.ok (PV.lst z)) (LF (ae s) (ae g) (B.map ae))
   have q2:du (lp (s::g::B)) (some 2) none=.ok (lp B):=congrArg (λz=>Res.ok (PV.lst z)) (Mf (ae s) (ae g) (B.map ae))
   have q3:du (.lst ((B.map λb=>lp [b])++[oK o'])) none (some (-1))=.ok (.lst (B.map λb=>lp [b])):=congrArg (λz=>Res.ok (PV.lst z)) (Mu (B.map λb=>lp [b]) (oK o'))
   have U4:(B.map ae).length<dh:=zzV (m:=18) (by rw [zzl];exact lB) (by decide)
   have Ul:(B.map ae).length+1<=dh:=zzU (m:=19) (by rw [zzl];omega) (by decide)
   have cc:aK (λx=>((Tg.one 0).put x [.no]).bind λaf=>(aA F (.lst (.cons (.var 0) .nil)) af).bind λy=>.ok (some y)) (B.map ae)=.ok (B.map λb=>lp [b]):=by
    rw [cG (p:=ae) (g:=λb=>lp [b]) λb hb=>?_]
    dsimp! only [J]
    rfl
   have T1:=λA B' C D=>K7 (F:=F) (o:=o) (A:=A) (B:=B') (C:=C) (D:=D) (s:=s) (g:=g) (Bs:=B) λl h=>(vy t1' l h).1
   have Z:=λa0 a3 a8=>Jd (F:=F) (o:=o') (s:=s) (g:=g) (Bs:=B) (X:=B.map λb=>lp [b]) (rows:=rows) (sl:=sl) (cl:=cl) (pr:=pr) (vy t2') d2 a0 a3 a8
   dsimp! only [J] at cc;dsimp! only [Tn,Sm,e1,e2,e3,e4,ep,e5,z,q1,q2,c1,d1,T1,U4,Ul,c2,q3,cc,EZ,Z]
noncomputable def vB:Ss:=#v[.ite (.not (.call "_law_once" #v[.comp 1 [1] (.one 0) (.seq (!0)) (.bin .add (!0) (.bin .mul (¬7919) (!1)))])) #v[.ret (.cst (.bl false))] .nil,.ite (.cmp .eq (!0) (.lst .nil)) #v[.brk] .nil]
def rM(F:aN)(ho:∀ns,F "_law_once" [dM ns]=.ok (.bl true))(ns:List Int)(hl:ns.length<=63)(t:Int):az F vB [.val (dM ns),.val (.int t)]=.ok (if ns=[] then .bk [.val (dM ns),.val (.int t)] else .nx [.val (dM ns),.val (.int t)]):=by
 have l:ns.length<dh:=zzV hl (by decide)
 have s:(aJ 7919||aJ t)=true:=by rw [zzt];exact .inl (by decide)
 dsimp! only [vB,N9,zzl,l];rw [cG (g:=λn:Int=>.int (n+7919*t)) (λn _=>by dsimp! only [s])]
 have e:=ho (ns.map λn=>n+7919*t)
 simp! [dM,List.map_map,Function.comp_def] at e;dsimp! only [e,eq_nil]
 by_cases h:ns=[]
 ·dsimp! only [h,decide_true]
 ·dsimp! only [h,decide_false]
def Hq(F:aN)(ho:∀ns,F "_law_once" [dM ns]=.ok (.bl true))(ns:List Int)(hl:ns.length<=63):au F ny [dM ns]=.ok (.bl true):=by
 have e:∃t:Int,forL (λx env=>((Tg.one 1).put x env).bind λaf=>az F vB af) (dr 0 (8:Int).toNat) [.val (dM ns),.no]=.ok (.nx [.val (dM ns),.val (.int t)]):=by
  rw [show dr 0 (8:Int).toNat=[.int 0,.int 1,.int 2,.int 3,.int 4,.int 5,.int 6,.int 7] from rfl]
  by_cases h:ns=[]
  ·refine⟨0,?_⟩;simp! [forL,N3,mi,List.set_cons_succ,List.set_cons_zero,rM F ho ns hl,if_pos h]
  ·refine⟨7,?_⟩;simp! [forL,N3,mi,List.set_cons_succ,List.set_cons_zero,rM F ho ns hl,h,if_false]
 obtain⟨t,e⟩:=e
 have s:aH 8=true:=by decide
 dsimp! only [vB] at e;dsimp! only [ny,s,e]
def Mw(ns:List Int)(hl:ns.length<=63):au (den SD) ny [dM ns]=.ok (.bl true):=by
 have pick:∀F:aN,F "_law_pick"=au (den T1) bg->ir F:=λF hF ns k q hk hq=>by
  rw [hF];exact DQ (den T1) (λns k hk=>by rw [LV];exact DG _ ns k hk) ns k q hk hq
 have zG:∀F:aN,F "is_open"=au (den T9) b7->sZ F:=λF hF rows R r c=>by
  rw [hF];exact Cj _ (λr c=>by rw [L3];exact tm _ (λi=>by rw [Lr];exact qd _ i) r c) (λrows R r c=>by rw [LZ];exact M0 _ rows R r c) rows R r c
 have BA:∀F:aN,F "need_open"=au (den Kz) bw->Bz F:=λF hF rows R r c h=>by
  rw [hF];exact oZ _ (zG _ D6) rows R r c h
 have step:∀F:aN,F "step_cost"=au (den Kr) bh->AR F:=λF hF rows w L sl cl pr V r c r' c' h h'=>by
  rw [hF];exact Eo _ (λr c r' c'=>by rw [DW];exact xt _ r c r' c') (λrows R r c r' c'=>by rw [B4];exact sY _ (zG _ Cr) R r c r' c') (λrows w L r c h=>by rw [CN];exact wD _ (BA _ EF) L h) L V h h'
 have TZ:Fh (den Kg):=λrows R r c a b d e=>by
  rw [CT];exact JC _ (zG _ C9) R a b d e
 have steps:jm (den KD):=by
  unfold jm;rw [Cf];exact AD _ (BA _ Dw) TZ (step _ DX)
 have Ka:∀F:aN,F "_law_steps"=au (den NG) bf->fE F:=λF hF=>by
  unfold fE;rw [hF];exact wN _ (λrows w L sl cl pr V r c r' c' h h' hf=>by rw [CQ];exact tP _ L V h h' hf)
 have MU:∀F:aN,F "_law_spots"=au (den LX) bb->vC F:=λF hF rows R=>by
  rw [hF];exact Bc _ rows R
 have TR:∀F:aN,F "moves_at"=au (den N5) cB->zE F:=λF hF W hW hl t=>by
  rw [hF];exact tO _ (λw hw t=>by rw [Ef];exact xR _ w hw t) W hW hl t
 have U0:∀F:aN,F "still_from"=au (den Ql) bx->∀W:List Ks,(∀w∈W,w≠[])->W.length<=100->∃st:Nat,F "still_from" [qj W]=.ok (.int (st:Int))/\p8 W st:=λF hF W hW hl=>by
  rw [hF];exact yE _ W hW hl
 refine Hq _ (λns=>?_) ns hl;rw [Ee];refine CZ _ (pick _ Ho) (λns=>by rw [Hl];exact w8 _ (pick _ Ms) ns 4 (by decide) (by decide)) (λns=>by rw [Iz];exact xj _ (pick _ LK) ns 30 (by decide)) (GR (MU _ vM)) (λns a h0 h1 m hm S nS lS=>by rw [HD];exact E8 _ (pick _ Mc) ns a h0 h1 m hm S nS lS) (λrows w L sl cl pr V S eS nS lS hm=>?_) ns
 have U3:∀F:aN,F "_law_spots"=au (den LX) bb->F "_law_spots" [fl rows]=.ok (lp S):=λF hF=>by
  rw [hF,<-vM];exact eS
 have hE:∀u v e,E1 rows sl cl pr u v e->jk rows v:=λu v e h=>(AG L V h).2.2
 have hO:∀u,jk rows u->u∈FI:=λu hu=>UQ L hu
 refine⟨?_,λs g B os=>?_⟩
 ·rw [B7];obtain⟨ks,vs,e1,Nm⟩:=Dt (den KD) steps (by rw [HZ];exact Aj _) rows w L sl cl pr V
  refine Av (den KC) (zzU lS (by decide)) (λu hu=>?_) (by rw [Ew];exact e1) ?_
  ·obtain⟨r,c,rfl,ho⟩:=hu
   exact BA _ BZ rows L.yd r c ho
  ·rw [Ei];exact BI (den FW) hE hO (λu hu=>(hm u).2 hu) (zzU lS (by decide)) (λW g=>by rw [Ea];exact Eh _ W g) (U0 _ E7) (TR _ Dp) (λW ap hl t kr vr hk=>by rw [Cy];exact DI _ hE hO Nm ap hl t hk) (λW s D T g hD hT h5 hg=>by rw [Ce];exact E6 _ hD hT h5 hg)
 ·rw [DN];exact HF (den MT) (Ka _ De) L V (U3 _ ET) hm lS os
end K62
namespace Hd
open PySem PySem.W L2
noncomputable abbrev fo(n:Str)(st:Stmt)(pm:Value)(c:Addr):Obj:=⟨.type "function",none,.func (fnOf n n (cQ st) (cj st) (aL st) .none .none .none pm none (.ref c) .none),#[]⟩
noncomputable abbrev co(n:Str)(a:Nat)(L A:Int)(r:Nat)(x y:Value)(q z:Nat):Obj:={cls:=.type "code",data:=.fields #[.str n a,.str n (a+1),.str "/claim/cut.py" (a+2),.int L 0,.int A 0,.int 0 0,.int 0 0,.int 3 0,.ref r,.bool Bool.true,.int 181 0,.ref (r+1),.none,x,y,.ref q,.int z 0,.int L 0,.str "/claim/cut.py" (z+1)]}
noncomputable def OD(s:Stmt):Pos:=match s with
 |.FunctionDef _ _ _ _ _ _ _ _ _ p=>p
 |_=>⟨0,0,0,0⟩
def ent{K:Frag}{ts:List (Addr×Str)}{n:Str}{st:Stmt}(f c:Addr)(pm:Value)(a:nsIn K mainGlobals n=some (some (.ref f)):=by kernel_rfl)(l:K.lookup f=some (fo n st pm c):=by kernel_rfl)(d:codeIn K (.ref c) n=true:=by kernel_rfl)(k:keepIn K (.ref f)=true:=by kernel_rfl):Ci.AE K ts false n st:=Ci.Pd a l d k
def ac{K:Frag}{ts:List (Addr×Str)}{Γ:Ci.Pg}{r:Ci.Row}{l:Ci.dN}(e:Ci.AE K ts r.hl r.h r.st)(s:Ci.bU (Γ.at l r.hl) r.h r.d r.st)(t:Ci.AllK K ts Γ l)(a:(l.map (·.f)).contains r.f=false:=by decide+kernel)(b:(r.d.rV.isNone==!Ci.gf r.f)=true:=by decide+kernel)(c:r.d.rV.isNone=true->r.f=r.h:=by first|exact λ_=>rfl|exact λz=>absurd z (by decide)):Ci.AllK K ts Γ (r::l):=⟨e,s,⟨a,b,c⟩,t⟩
def yh{K L:Frag}{b:Addr}{o:Obj}(e:K.lookup b=some o):(K++L).lookup b=some o:=by
 rw [List.lookup_append,e]
 rfl
end Hd
namespace K62
open PySem L2 Ci
noncomputable abbrev lw:=PySem.Challenge.rw_cellways_k62_whole_alone
noncomputable def top(i:Nat):Stmt:=PySem.Challenge.pw_cellways_k62_whole_alone.main.body.getD i (.Pass ⟨0,0,0,0⟩)
noncomputable abbrev m1:Value:=.str "cellways.floors" 223
noncomputable abbrev m2:Value:=.str "cellways.crowds" 348
noncomputable abbrev m3:Value:=.str "law_cellways_k62_whole_alone" 410
noncomputable def K(P:Params):zz8:=[(2,{cls:=.none,data:=.dict #[]}),
 (3,{cls:=.type "dict",data:=.dict #[Hd.de P "__name__" 165 (.str "law_cellways_k62_whole_alone" 410),Hd.de P "__doc__" 166 (.none),Hd.de P "__package__" 167 (.none),Hd.de P "__loader__" 168 (.builtin "__main__.__loader__#opaque"),Hd.de P "__spec__" 169 (.none),Hd.de P "__annotations__" 170 (.ref 6),Hd.de P "__builtins__" 171 (.ref 4),Hd.de P "__file__" 173 (.str "/claim/cut.py" 172),Hd.de P "__cached__" 174 (.none),Hd.de P "FloorError" 206 (.ref 24),Hd.de P "NoSpot" 222 (.ref 37),Hd.de P "WALL" 226 (.str "#" 225),Hd.de P "STRAIGHT_COST" 228 (.int 2 227),Hd.de P "SLANTING_COST" 230 (.int 3 229),Hd.de P "is_whole" 237 (.ref 46),Hd.de P "is_spot" 244 (.ref 53),Hd.de P "is_on_floor" 252 (.ref 60),Hd.de P "is_open" 260 (.ref 67),Hd.de P "need_open" 268 (.ref 74),Hd.de P "open_spots" 280 (.ref 81),Hd.de P "height_at" 288 (.ref 88),Hd.de P "open_spots_beside" 299 (.ref 95),Hd.de P "are_beside" 307 (.ref 102),Hd.de P "has_open_corners" 316 (.ref 109),Hd.de P "step_cost" 329 (.ref 116),Hd.de P "steps_from" 341 (.ref 123),Hd.de P "steps_over" 347 (.ref 128),Hd.de P "spot_at" 357 (.ref 135),Hd.de P "moves_at" 363 (.ref 140),Hd.de P "still_from" 369 (.ref 145),Hd.de P "left_from" 381 (.ref 152),Hd.de P "reached_next" 387 (.ref 157),Hd.de P "traced_back" 397 (.ref 164),Hd.de P "earliest_way" 403 (.ref 169),Hd.de P "crowd" 409 (.ref 174),Hd.de P "_law_cell" 419 (.ref 181),Hd.de P "_law_pick" 429 (.ref 188),Hd.de P "_law_floor" 447 (.ref 195),Hd.de P "_law_walker" 455 (.ref 202),Hd.de P "_law_spots" 461 (.ref 207),Hd.de P "_law_cost" 473 (.ref 214),Hd.de P "_law_steps" 487 (.ref 221),Hd.de P "_law_at" 495 (.ref 228),Hd.de P "_law_soonest" 501 (.ref 233),Hd.de P "_law_fits" 507 (.ref 238),Hd.de P "_law_some" 520 (.ref 245),Hd.de P "_law_fewest" 526 (.ref 250),Hd.de P "_law_once" 532 (.ref 255),Hd.de P "law" 538 (.ref 260)] 49}),
 (23,{cls:=.type "dict",data:=.dict #[Hd.de P "__module__" 196 (.str "cellways.errors" 187),Hd.de P "__firstlineno__" 200 (.int 2 199),Hd.de P "__static_attributes__" 201 (.ref 22),Hd.de P "__weakref__" 203 (.ref 25),Hd.de P "__doc__" 204 (.none)] 3}),
 (24,{cls:=.type "type",data:=.cls {name:="FloorError",bases:=[.type "ValueError"],mro:=[.ref 24,.type "ValueError",.type "Exception",.type "BaseException",.type "object"],ns:=23,qualname:="FloorError",subclasses:=[.ref 37]},slots:=#[some (.ref 15),none,some (.str "FloorError" 189),some (.str "FloorError" 197),some (.builtin "ValueError.__new__"),some (.bool Bool.true)]}),
 (36,{cls:=.type "dict",data:=.dict #[Hd.de P "__module__" 214 (.str "cellways.errors" 187),Hd.de P "__firstlineno__" 218 (.int 4 217),Hd.de P "__static_attributes__" 219 (.ref 35),Hd.de P "__doc__" 220 (.none)] 2}),
 (37,{cls:=.type "type",data:=.cls {name:="NoSpot",bases:=[.ref 24],mro:=[.ref 37,.ref 24,.type "ValueError",.type "Exception",.type "BaseException",.type "object"],ns:=36,qualname:="NoSpot"},slots:=#[some (.ref 28),none,some (.str "NoSpot" 207),some (.str "NoSpot" 215),some (.builtin "ValueError.__new__"),some (.bool Bool.true)]}),
 (45,Hd.co "is_whole" 231 10 1 40 (.ref 42) (.ref 43) 44 235),
 (46,Hd.fo "is_whole" (top 7) m1 45),
 (52,Hd.co "is_spot" 238 12 1 47 (.ref 49) (.ref 50) 51 242),
 (53,Hd.fo "is_spot" (top 8) m1 52),
 (59,Hd.co "is_on_floor" 245 14 2 54 (.ref 56) (.ref 57) 58 250),
 (60,Hd.fo "is_on_floor" (top 9) m1 59),
 (66,Hd.co "is_open" 253 16 2 61 (.ref 63) (.ref 64) 65 258),
 (67,Hd.fo "is_open" (top 10) m1 66),
 (73,Hd.co "need_open" 261 18 2 68 (.ref 70) (.ref 71) 72 266),
 (74,Hd.fo "need_open" (top 11) m1 73),
 (80,Hd.co "open_spots" 269 21 1 75 (.ref 77) (.ref 78) 79 278),
 (81,Hd.fo "open_spots" (top 12) m1 80),
 (87,Hd.co "height_at" 281 28 2 82 (.ref 84) (.ref 85) 86 286),
 (88,Hd.fo "height_at" (top 13) m1 87),
 (94,Hd.co "open_spots_beside" 289 31 2 89 (.ref 91) (.ref 92) 93 297),
 (95,Hd.fo "open_spots_beside" (top 14) m1 94),
 (101,Hd.co "are_beside" 300 38 2 96 (.ref 98) (.ref 99) 100 305),
 (102,Hd.fo "are_beside" (top 15) m1 101),
 (108,Hd.co "has_open_corners" 308 40 3 103 (.ref 105) (.ref 106) 107 314),
 (109,Hd.fo "has_open_corners" (top 16) m1 108),
 (115,Hd.co "step_cost" 317 42 4 110 (.ref 112) (.ref 113) 114 327),
 (116,Hd.fo "step_cost" (top 17) m1 115),
 (122,Hd.co "steps_from" 330 53 3 117 (.ref 119) (.ref 120) 121 339),
 (123,Hd.fo "steps_from" (top 18) m1 122),
 (127,Hd.co "steps_over" 342 61 2 124 .none .none 126 345),
 (128,Hd.fo "steps_over" (top 19) m1 127),
 (134,Hd.co "spot_at" 350 67 2 129 (.ref 131) (.ref 132) 133 355),
 (135,Hd.fo "spot_at" (top 21) m2 134),
 (139,Hd.co "moves_at" 358 69 2 136 .none .none 138 361),
 (140,Hd.fo "moves_at" (top 22) m2 139),
 (144,Hd.co "still_from" 364 71 1 141 .none .none 143 367),
 (145,Hd.fo "still_from" (top 23) m2 144),
 (151,Hd.co "left_from" 370 73 2 146 (.ref 148) (.ref 149) 150 379),
 (152,Hd.fo "left_from" (top 24) m2 151),
 (156,Hd.co "reached_next" 382 80 3 153 .none .none 155 385),
 (157,Hd.fo "reached_next" (top 25) m2 156),
 (163,Hd.co "traced_back" 388 89 2 158 (.ref 160) (.ref 161) 162 395),
 (164,Hd.fo "traced_back" (top 26) m2 163),
 (168,Hd.co "earliest_way" 398 94 4 165 .none .none 167 401),
 (169,Hd.fo "earliest_way" (top 27) m2 168),
 (173,Hd.co "crowd" 404 107 4 170 .none .none 172 407),
 (174,Hd.fo "crowd" (top 28) m2 173),
 (180,Hd.co "_law_cell" 412 117 2 175 (.ref 177) (.ref 178) 179 417),
 (181,Hd.fo "_law_cell" (top 30) m3 180),
 (187,Hd.co "_law_pick" 420 123 3 182 (.ref 184) (.ref 185) 186 427),
 (188,Hd.fo "_law_pick" (top 31) m3 187),
 (194,Hd.co "_law_floor" 430 126 3 189 (.ref 191) (.ref 192) 193 445),
 (195,Hd.fo "_law_floor" (top 32) m3 194),
 (201,Hd.co "_law_walker" 448 139 2 196 (.ref 198) (.ref 199) 200 453),
 (202,Hd.fo "_law_walker" (top 33) m3 201),
 (206,Hd.co "_law_spots" 456 141 1 203 .none .none 205 459),
 (207,Hd.fo "_law_spots" (top 34) m3 206),
 (213,Hd.co "_law_cost" 462 146 4 208 (.ref 210) (.ref 211) 212 471),
 (214,Hd.fo "_law_cost" (top 35) m3 213),
 (220,Hd.co "_law_steps" 474 156 3 215 (.ref 217) (.ref 218) 219 485),
 (221,Hd.fo "_law_steps" (top 36) m3 220),
 (244,Hd.co "_law_some" 508 203 4 239 (.ref 241) (.ref 242) 243 518),
 (245,Hd.fo "_law_some" (top 40) m3 244),
 (249,Hd.co "_law_fewest" 521 210 5 246 .none .none 248 524),
 (250,Hd.fo "_law_fewest" (top 41) m3 249),
 (254,Hd.co "_law_once" 527 220 1 251 .none .none 253 530),
 (255,Hd.fo "_law_once" (top 42) m3 254),
 (259,Hd.co "law" 533 239 1 256 .none .none 258 536),
 (260,Hd.fo "law" (top 43) m3 259)]
def ts:List (Addr×Str):=[]
noncomputable def K2(P:Params):zz8:=K P++[]
noncomputable def as:List Addr:=[2,3,23,24,36,37,45,46,52,53,59,60,66,67,73,74,80,81,87,88,94,95,101,102,108,109,115,116,122,123,127,128,134,135,139,140,144,145,151,152,156,157,163,164,168,169,173,174,180,181,187,188,194,195,201,202,206,207,213,214,220,221,244,245,249,250,254,255,259,260]
noncomputable def Γ:Pg:=⟨[("WALL",(.str "#")),("STRAIGHT_COST",(.int 2)),("SLANTING_COST",(.int 3))],["len","abs","max","min","int","str","list","tuple","isinstance","bool","range","enumerate","zip","sorted","dict","reversed","set"],[],[],["NoSpot"],[],false⟩
def R0:dN:=[]
def oY:bU (Γ.at R0 false) "_law_cell" cL (top 30):=stM λ_ _ _ _ _ _=>Hd.xO λ_ _=>rfl
noncomputable def R1:dN:=⟨"_law_cell","_law_cell",cL,top 30,false⟩::R0
def oH:bU (Γ.at R1 false) "_law_pick" bg (top 31):=stM λ_ _ _ _ _ _=>Hd.Ke λ_ _ _=>rfl
noncomputable def R2:dN:=⟨"_law_pick","_law_pick",bg,top 31,false⟩::R1
def l4:bU (Γ.at R2 false) "_law_floor" bK (top 32):=stM λ_ _ _ _ _ _=>Hd.Ke λ_ _ _=>rfl
noncomputable def R3:dN:=⟨"_law_floor","_law_floor",bK,top 32,false⟩::R2
def kZ:bU (Γ.at R3 false) "_law_walker" bS (top 33):=stM λ_ _ _ _ _ _=>Hd.xO λ_ _=>rfl
noncomputable def R4:dN:=⟨"_law_walker","_law_walker",bS,top 33,false⟩::R3
def p5:bU (Γ.at R4 false) "_law_some" bH (top 40):=stM λ_ _ _ _ _ _=>Hd.MH λ_ _ _ _=>rfl
noncomputable def R5:dN:=⟨"_law_some","_law_some",bH,top 40,false⟩::R4
def l6:bU (Γ.at R5 false) "open_spots" b9 (top 12):=stM λ_ _ _ _ _ _=>Hd.G8 λ_=>rfl
noncomputable def R6:dN:=⟨"open_spots","open_spots",b9,top 12,false⟩::R5
def qJ:bU (Γ.at R6 false) "is_whole" dE (top 7):=stM λ_ _ _ _ _ _=>Hd.G8 λ_=>rfl
noncomputable def R7:dN:=⟨"is_whole","is_whole",dE,top 7,false⟩::R6
def tR:bU (Γ.at R7 false) "is_spot" dz (top 8):=stM λ_ _ _ _ _ _=>Hd.G8 λ_=>rfl
noncomputable def R8:dN:=⟨"is_spot","is_spot",dz,top 8,false⟩::R7
def jV:bU (Γ.at R8 false) "is_on_floor" bT (top 9):=stM λ_ _ _ _ _ _=>Hd.xO λ_ _=>rfl
noncomputable def R9:dN:=⟨"is_on_floor","is_on_floor",bT,top 9,false⟩::R8
def sO:bU (Γ.at R9 false) "is_open" b7 (top 10):=stM λ_ _ _ _ _ _=>Hd.xO λ_ _=>rfl
noncomputable def Td:dN:=⟨"is_open","is_open",b7,top 10,false⟩::R9
def qa:bU (Γ.at Td false) "need_open" bw (top 11):=stM λ_ _ _ _ _ _=>Hd.xO λ_ _=>rfl
noncomputable def Rz:dN:=⟨"need_open","need_open",bw,top 11,false⟩::Td
def fq:bU (Γ.at Rz false) "open_spots_beside" aP (top 14):=stM λ_ _ _ _ _ _=>Hd.xO λ_ _=>rfl
noncomputable def SE:dN:=⟨"open_spots_beside","open_spots_beside",aP,top 14,false⟩::Rz
def mw:bU (Γ.at SE false) "are_beside" b8 (top 15):=stM λ_ _ _ _ _ _=>Hd.xO λ_ _=>rfl
noncomputable def Sw:dN:=⟨"are_beside","are_beside",b8,top 15,false⟩::SE
def pS:bU (Γ.at Sw false) "height_at" cK (top 13):=stM λ_ _ _ _ _ _=>Hd.xO λ_ _=>rfl
noncomputable def SA:dN:=⟨"height_at","height_at",cK,top 13,false⟩::Sw
def fU:bU (Γ.at SA false) "has_open_corners" aS (top 16):=stM λ_ _ _ _ _ _=>Hd.Ke λ_ _ _=>rfl
noncomputable def Rx:dN:=⟨"has_open_corners","has_open_corners",aS,top 16,false⟩::SA
def oJ:bU (Γ.at Rx false) "step_cost" bh (top 17):=stM λ_ _ _ _ _ _=>Hd.MH λ_ _ _ _=>rfl
noncomputable def S6:dN:=⟨"step_cost","step_cost",bh,top 17,false⟩::Rx
def mz:bU (Γ.at S6 false) "steps_from" cm (top 18):=stM λ_ _ _ _ _ _=>Hd.Ke λ_ _ _=>rfl
noncomputable def Sf:dN:=⟨"steps_from","steps_from",cm,top 18,false⟩::S6
def mB:bU (Γ.at Sf false) "steps_over" cg (top 19):=stM λ_ _ _ _ _ _=>Hd.xO λ_ _=>rfl
noncomputable def Q9:dN:=⟨"steps_over","steps_over",cg,top 19,false⟩::Sf
def pZ:bU (Γ.at Q9 false) "left_from" cJ (top 24):=stM λ_ _ _ _ _ _=>Hd.xO λ_ _=>rfl
noncomputable def Rg:dN:=⟨"left_from","left_from",cJ,top 24,false⟩::Q9
def mE:bU (Γ.at Rg false) "still_from" bx (top 23):=stM λ_ _ _ _ _ _=>Hd.G8 λ_=>rfl
noncomputable def SX:dN:=⟨"still_from","still_from",bx,top 23,false⟩::Rg
def jw:bU (Γ.at SX false) "traced_back" bR (top 26):=stM λ_ _ _ _ _ _=>Hd.xO λ_ _=>rfl
noncomputable def SY:dN:=⟨"traced_back","traced_back",bR,top 26,false⟩::SX
def iR:bU (Γ.at SY false) "reached_next" bC (top 25):=stM λ_ _ _ _ _ _=>Hd.Ke λ_ _ _=>rfl
noncomputable def RT:dN:=⟨"reached_next","reached_next",bC,top 25,false⟩::SY
def uA:bU (Γ.at RT false) "spot_at" dA (top 21):=stM λ_ _ _ _ _ _=>Hd.xO λ_ _=>rfl
noncomputable def Te:dN:=⟨"spot_at","spot_at",dA,top 21,false⟩::RT
def rj:bU (Γ.at Te false) "moves_at" cB (top 22):=stM λ_ _ _ _ _ _=>Hd.xO λ_ _=>rfl
noncomputable def RM:dN:=⟨"moves_at","moves_at",cB,top 22,false⟩::Te
def iU:bU (Γ.at RM false) "earliest_way" bo (top 27):=stM λ_ _ _ _ _ _=>Hd.MH λ_ _ _ _=>rfl
noncomputable def S3:dN:=⟨"earliest_way","earliest_way",bo,top 27,false⟩::RM
def yB:bU (Γ.at S3 false) "crowd" fJ (top 28):=stM λ_ _ _ _ _ _=>Hd.MH λ_ _ _ _=>rfl
noncomputable def Sq:dN:=⟨"crowd","crowd",fJ,top 28,false⟩::S3
def mf:bU (Γ.at Sq false) "_law_spots" bb (top 34):=stM λ_ _ _ _ _ _=>Hd.G8 λ_=>rfl
noncomputable def Rh:dN:=⟨"_law_spots","_law_spots",bb,top 34,false⟩::Sq
def oW:bU (Γ.at Rh false) "_law_cost" bt (top 35):=stM λ_ _ _ _ _ _=>Hd.MH λ_ _ _ _=>rfl
noncomputable def RX:dN:=⟨"_law_cost","_law_cost",bt,top 35,false⟩::Rh
def lX:bU (Γ.at RX false) "_law_steps" bf (top 36):=stM λ_ _ _ _ _ _=>Hd.Ke λ_ _ _=>rfl
noncomputable def Rm:dN:=⟨"_law_steps","_law_steps",bf,top 36,false⟩::RX
def jy:bU (Γ.at Rm false) "_law_fewest" aV (top 41):=stM λ_ _ _ _ _ _=>Hd.Ud λ_ _ _ _ _=>rfl
noncomputable def Q5:dN:=⟨"_law_fewest","_law_fewest",aV,top 41,false⟩::Rm
def oU:bU (Γ.at Q5 false) "_law_once" bG (top 42):=stM λ_ _ _ _ _ _=>Hd.G8 λ_=>rfl
noncomputable def N4:dN:=⟨"_law_once","_law_once",bG,top 42,false⟩::Q5
def IJ:bU (Γ.at N4 false) "law" ny (top 43):=stM λ_ _ _ _ _ _=>Hd.G8 λ_=>rfl
def LC(ns:List Int)(hl:ns.length<=63):au (den (tab N4)) ny [.lst (ns.map .int)]=.ok (.bl true):=Mw ns hl
def QU(P:Params):AllK (K P) ts Γ N4:=
 Hd.ac (Hd.ent 255 254 m3) oU <| Hd.ac (Hd.ent 250 249 m3) jy <| Hd.ac (Hd.ent 221 220 m3) lX <| Hd.ac (Hd.ent 214 213 m3) oW <| Hd.ac (Hd.ent 207 206 m3) mf <| Hd.ac (Hd.ent 174 173 m2) yB <| Hd.ac (Hd.ent 169 168 m2) iU <| Hd.ac (Hd.ent 140 139 m2) rj <| Hd.ac (Hd.ent 135 134 m2) uA <| Hd.ac (Hd.ent 157 156 m2) iR <| Hd.ac (Hd.ent 164 163 m2) jw <| Hd.ac (Hd.ent 145 144 m2) mE <| Hd.ac (Hd.ent 152 151 m2) pZ <| Hd.ac (Hd.ent 128 127 m1) mB <| Hd.ac (Hd.ent 123 122 m1) mz <| Hd.ac (Hd.ent 116 115 m1) oJ <| Hd.ac (Hd.ent 109 108 m1) fU <| Hd.ac (Hd.ent 88 87 m1) pS <| Hd.ac (Hd.ent 102 101 m1) mw <| Hd.ac (Hd.ent 95 94 m1) fq <| Hd.ac (Hd.ent 74 73 m1) qa <| Hd.ac (Hd.ent 67 66 m1) sO <| Hd.ac (Hd.ent 60 59 m1) jV <| Hd.ac (Hd.ent 53 52 m1) tR <| Hd.ac (Hd.ent 46 45 m1) qJ <| Hd.ac (Hd.ent 81 80 m1) l6 <| Hd.ac (Hd.ent 245 244 m3) p5 <| Hd.ac (Hd.ent 202 201 m3) kZ <| Hd.ac (Hd.ent 195 194 m3) l4 <| Hd.ac (Hd.ent 188 187 m3) oH <| Hd.ac (Hd.ent 181 180 m3) oY trivial
structure MX(K:zz8)(d:Str)(D:Addr):Prop where
 e:PySem.W.nsIn K mainGlobals d=some (some (.ref D))
 xc:Gg K D
 vt:PySem.W.kitOne K (.ref D) (.type "ValueError")=some true
 ex:PySem.W.excIn K D yl "ValueError.__new__"=true
def OA{K:zz8}{d:Str}{D:Addr}(e:PySem.W.nsIn K mainGlobals d=some (some (.ref D)):=by kernel_rfl)(i:PySem.W.isClsIn K D=true:=by kernel_rfl)(v:PySem.W.subIn K (.ref D) (.type "ValueError")=some true:=by kernel_rfl)(ga:PySem.W.findIn K (.ref D) "__getattribute__"=some (some (.builtin "BaseException.__getattribute__")):=by kernel_rfl)(hk:PySem.W.findIn K (.ref D) "__getattr__"=some none:=by kernel_rfl)
 (cl:PySem.W.findIn K (.ref D) "__class__"=some (some (.builtin "object.__class__")):=by kernel_rfl) (mo:PySem.W.mroIn K D (.type "object")=some true:=by kernel_rfl) (mb:PySem.W.mroIn K D (.type "BaseException")=some true:=by kernel_rfl) (ex:PySem.W.excIn K D yl "ValueError.__new__"=true:=by kernel_rfl):MX K d D:=
 ⟨e,⟨ga,hk,cl,mo,mb,i⟩,BB (by decide+kernel) v,ex⟩
def OF(P:Params){mg:Str->Option Value}{h:Heap}(X:(K P).In h)(G:h.Ns mainGlobals mg):uJ (K P) mg Γ ⟨K P,mg,["NoSpot"],ts⟩:=by
 have M7:∀{x:Str} {u:Value},PySem.W.nsIn (K P) mainGlobals x=some (some u)->mg x=some u:=λa=>PySem.W.mg_of X G a
 have rL:∀{x:Str},PySem.W.nsIn (K P) mainGlobals x=some none->mg x=none:=λa=>PySem.W.mg_none_of X G a
 have fC:MX (K P) "NoSpot" 37:=OA
 refine⟨rfl,rfl,λq hq=>?_,λg hg=>?_,by decide+kernel,λc hc=>?_,λd hd D hD=>?_,λc hc=>?_,λc hc=>?_,λz=>absurd z (by decide+kernel),λ_=>absurd rfl ‹_›⟩
 ·simp! [Γ,zzm,List.not_mem_nil,or_false] at hq;rcases hq with rfl|rfl|rfl
  ·exact⟨.str "#" 225,.str "#",M7 (by kernel_rfl),⟨_,rfl⟩,λG=>.s⟩
  ·exact⟨.int 2 227,.int 2,M7 (by kernel_rfl),⟨_,rfl⟩,λG=>.i⟩
  ·exact⟨.int 3 229,.int 3,M7 (by kernel_rfl),⟨_,rfl⟩,λG=>.i⟩
 ·simp! [Γ,zzm,List.not_mem_nil,or_false] at hg;rcases hg with rfl|rfl|rfl|rfl|rfl|rfl|rfl|rfl|rfl|rfl|rfl|rfl|rfl|rfl|rfl|rfl|rfl
  ·exact rL (by kernel_rfl)
  ·exact rL (by kernel_rfl)
  ·exact rL (by kernel_rfl)
  ·exact rL (by kernel_rfl)
  ·exact rL (by kernel_rfl)
  ·exact rL (by kernel_rfl)
  ·exact rL (by kernel_rfl)
  ·exact rL (by kernel_rfl)
  ·exact rL (by kernel_rfl)
  ·exact rL (by kernel_rfl)
  ·exact rL (by kernel_rfl)
  ·exact rL (by kernel_rfl)
  ·exact rL (by kernel_rfl)
  ·exact rL (by kernel_rfl)
  ·exact rL (by kernel_rfl)
  ·exact rL (by kernel_rfl)
  ·exact rL (by kernel_rfl)
 ·simp! [Γ,zzm,List.not_mem_nil,or_false] at hc
 ·simp! [zzm,List.not_mem_nil,or_false] at hd;rcases hd with rfl
  ·cases(M7 fC.e).symm.trans hD;refine⟨fC.xc,λc hc C hC=>?_,fC.vt⟩
   simp! [Γ,zzm,List.not_mem_nil,or_false] at hc
 ·simp! [Γ,zzn,zzm,List.not_mem_nil,or_false] at hc⊢;exact hc
 ·simp! [Γ,zzn,zzm,List.not_mem_nil,or_false] at hc;rcases hc with rfl
  ·exact⟨_,M7 fC.e,fC.ex⟩
def hY{P:Params}{h:Heap}(X:(K2 P).In h):(K P).In h/\∀p∈ts.map (·.1),h.get? p=some (PySem.W.tabObj #[]):=⟨λb o e=>X b o (Hd.yh e),λp hp=>by
 simp! [ts,zzF,List.map_nil,zzm,List.not_mem_nil,or_false] at hp
⟩
def hC(P:Params):∀p∈ts.map (·.1),(∃c,iM (K P) c p)/\(K P).lookup p=none:=λp hp=>by
 simp! [ts,zzF,List.map_nil,zzm,List.not_mem_nil,or_false] at hp
noncomputable def keep:List Nat:=[1,2,4,5,6,7,8,9,10,11,12,13,14,15,16,17,18,19,21,22,23,24,25,26,27,28,30,31,32,33,34,35,36,37,38,39,40,41,42,43]
def ka:∀P,as=(K2 P).map (·.1):=λ_=>by kernel_rfl
def left:PySem.W.LeftO lw.row.prog (PySem.W.view lw.row.prog keep) [] (λs=>PySem.W.xlAt (PySem.W.view lw.row.prog keep) [] s&&PySem.W.recOk lw.row.toRowW.records s) (PySem.W.kHook K2 as ka).obs (PySem.W.kHook K2 as ka).val 3150:=by
 refine Hd.D1 (T₀:=λP=>Hd.treeOf (PySem.W.boot_heap P).objs.toList) (m₀:=11) (life:={}) (ann:=some (.ref 6)) (M:=3100) (by kernel_rfl) (by kernel_rfl) (λs=>by kernel_rfl) Hd.KU Hd.Lp (by kernel_rfl) λw os=>?_
 rw [PySem.W.Fast.te10156331382660048174,PySem.W.Fast.te11892475500146522536,PySem.W.Fast.te14364793385576792824,PySem.W.Fast.te6613529449190102663,PySem.W.Fast.te4187177175401517315,PySem.W.Fast.te5923862056798008813]
 kernel_rfl
end K62
open PySem PySem.W PyProof.Rows
set_option maxRecDepth 100000 in
set_option maxHeartbeats 0 in
theorem PySem.Challenge.cw_cellways_k62_whole_alone_holds : PySem.Challenge.rw_cellways_k62_whole_alone.Holds := by
 refine Hd.holds (d:=⟨"law",L2.cQ (K62.top 43),L2.cj (K62.top 43),L2.aL (K62.top 43),Hd.OD (K62.top 43)⟩) (by kernel_rfl) K62.ka K62.left (by kernel_rfl) (by kernel_rfl) (by kernel_rfl) (by kernel_rfl) ⟨rfl,rfl,rfl,rfl,rfl,by decide+kernel⟩ ?hw ?hc
 case hw=>w_witness2
 case hc=>exact Ci.walk (l:=PySem.Challenge.rw_cellways_k62_whole_alone) K62.N4 K62.Γ "_law_script" K62.ny ["NoSpot"] K62.ts (K62.top 43) rfl rfl rfl rfl rfl ⟨rfl,by decide,by decide⟩ (λw h Y=>K62.hY (PySem.W.kIn_of Y)) (λw=>K62.hC w.params) (λw mg h KX G=>K62.OF _ KX G) (λw=>Hd.ent 260 259 K62.m3) K62.IJ (λw=>K62.QU _) K62.LC
#print axioms PySem.Challenge.cw_cellways_k62_whole_alone_holds
