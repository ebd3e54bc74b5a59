import PyProof.Rows.All
import Wide.All
import OpenK.AllK
import Wide.FinOn
import Lean
import PyProof.EqAt
import PyProof.EqKinds
import PyProof.TupleCall
import PySem.Challenge.RW_cellways_k96_whole_edges
set_option Elab.async false
set_option linter.all false
set_option genSizeOf false
set_option genSizeOfSpec false
set_option bootstrap.genMatcherCode false
set_option compiler.extract_closed false
set_option compiler.reuse false
set_option maxRecDepth 100000
abbrev zz8:=PySem.W.Frag
local macro_rules | `(zz9 $x) => `(($x).heap.objs.size)
local macro_rules | `(tactic| simp! [$x,*] $[$l:location]?) => `(tactic| simp only [$x,*] $[$l]?)
theorem zzf:¬false=true:=Bool.false_ne_true
theorem zza(a b:Bool):((a&&b)=true)=(a=true/\b=true):=Bool.and_eq_true a b
theorem zzg.{u}{α:Type u}{l:List α}{i:Nat}(h:i<l.length):l[i]?=some l[i]:=List.getElem?_eq_getElem h
theorem zzl.{u,v}{α:Type u}{β:Type v}{l:List α}(f:α->β):(l.map f).length=l.length:=List.length_map f
def zzA:=@PySem.wpAny_bind
def zzB:=@PySem.Heap.get?_push_of_some
def zzC:=@List.size_toArray
def zzD:=@List.mem_of_getElem?
def zzE:=@Nat.le_refl
def zzF:=@List.map_cons
def zzG:=@PySem.wpAny_pure
def zzH:=@List.getElem?_eq_some_iff
def zzI:=@List.mem_cons_of_mem
def zzJ:=@Option.map_eq_some_iff
def zzK:=@List.getD_eq_getElem?_getD
def zzL:=@List.length_cons
def zzM:=@List.length_append
def zzN:=@decide_eq_true_eq
def zzO:=@PySem.Heap.lt_size
def zzP:=@List.mem_cons_self
def zzQ:=@List.getElem?_map
def zzR:=@List.mem_append_right
def zzS:=@List.getElem?_set_ne
def zzT:=@List.all_eq_true
def zzU:=@Nat.le_trans
def zzV:=@Nat.lt_of_le_of_lt
def zzW:=@Nat.lt_of_lt_of_le
def zzX:=@PySem.Heap.get?_push_size
def zzY:=@of_decide_eq_true
def zzZ:=@Option.bind_eq_some_iff
def zzb:=@Nat.ne_of_lt
def zzc:=@List.mem_append_left
def zzd:=@Array.length_toList
def zze:=@Bool.false_eq_true
def zzh:=@decide_eq_true
def zzi:=@List.mem_singleton
def zzj:=@List.any_eq_true
def zzk:=@False.elim
def zzm:=@List.mem_cons
def zzn:=@List.contains_iff_mem
def zzo:=@List.getElem?_set_self
def zzp:=@Option.isSome_iff_exists
def zzq:=@Option.some.inj
def zzr:=@List.getElem?_append_left
def zzs:=@List.getElem?_append_right
def zzt:=@Bool.or_eq_true
def zzu:=@PySem.Heap.SameBut.update
def zzw:=@Int.eq_ofNat_of_zero_le
def zzx:=@List.mem_map
def zzy:=@beq_iff_eq
def zz0:=@decide_eq_false
def zz1:=@List.mem_filterMap
def zz3:=@List.filter_cons
def zz4:=@Int.toNat_natCast
def zz5:=@List.lookup_cons
def zz6:=@List.append_nil
def zz7:=@PySem.Around.under_plainId
namespace L2
open PySem PySem.Spec PyProof.Rows
abbrev Key:=Sum Int Str
def om:Key->Value->Bool
 |.inl k,v=>Value.isInt k v
 |.inr x,v=>Value.isStrOf x v
def S4(w:World):Key->Int
 |.inl k=>hashInt k
 |.inr x=>hashStr w x
theorem bC:∀{k:Key} {v:Value},om k v=true->(∃i t,k=Sum.inl i/\v=Value.int i t)\/(∃x t,k=Sum.inr x/\v=Value.str x t)
 |.inl i,v,h=>by
  obtain⟨t,e⟩:=Value.isInt_shape (k:=i) (v:=v) h
  exact .inl ⟨i,t,rfl,e⟩
 |.inr x,v,h=>by
  obtain⟨t,e⟩:=Value.isStrOf_shape (x:=x) (v:=v) h
  exact .inr ⟨x,t,rfl,e⟩
def xh(i:Int)(t:Tok):om (.inl i) (.int i t)=true:=by simp [om,Value.isInt]
def wg(x:Str)(t:Tok):om (.inr x) (.str x t)=true:=by simp [om,Value.isStrOf]
def Ie(a b:Int):decide ((Sum.inl a:Key)=Sum.inl b)=(a==b):=by
 by_cases e:a=b
 ·subst e;simp
 ·have h:¬(Sum.inl a:Key)=Sum.inl b:=λq=>e (Sum.inl.inj q)
  rw [zz0 h];exact(beq_eq_false_iff_ne.mpr e).symm
def Ha(a b:Str):decide ((Sum.inr a:Key)=Sum.inr b)=decide (a=b):=by
 by_cases e:a=b
 ·subst e;simp
 ·have h:¬(Sum.inr a:Key)=Sum.inr b:=λq=>e (Sum.inr.inj q)
  rw [zz0 h,zz0 e]
def Gd(a:Int)(b:Str):decide ((Sum.inl a:Key)=Sum.inr b)=false:=zz0 (λq=>nomatch q)
def ME(a:Str)(b:Int):decide ((Sum.inr a:Key)=Sum.inl b)=false:=zz0 (λq=>nomatch q)
noncomputable def bw(prog:Program)(w:World):PySem.KeyKind prog w Key where
 is:=om
 hash:=S4 w
 inj:=λv a b ha hb=>by
  rcases bC ha with⟨i,t,rfl,rfl⟩|⟨x,t,rfl,rfl⟩
  ·rcases bC hb with⟨j,u,rfl,e⟩|⟨y,u,rfl,e⟩
   ·injection e with e1 _;rw [e1]
   ·exact nomatch e
  ·rcases bC hb with⟨j,u,rfl,e⟩|⟨y,u,rfl,e⟩
   ·exact nomatch e
   ·injection e with e1 _;rw [e1]
 byValue:=λk v h=>by
  rcases bC h with⟨i,t,rfl,rfl⟩|⟨x,t,rfl,rfl⟩<;>rfl
 pyHash:=λhv h=>by
  rcases bC hv with⟨i,t,rfl,rfl⟩|⟨x,t,rfl,rfl⟩
  ·exact wpAny_pyHash_int h
  ·exact wpAny_pyHash_str h
 eqBool:=λhu hv h=>by
  rcases bC hu with⟨i,t,rfl,rfl⟩|⟨x,t,rfl,rfl⟩
  ·rcases bC hv with⟨j,u,rfl,rfl⟩|⟨y,u,rfl,rfl⟩
   ·rw [Ie] at h;exact wpAny_eqBool_int h
   ·rw [Gd] at h;exact SeqAt.EqAt.int_str i t y u _ _ _ _ h
  ·rcases bC hv with⟨j,u,rfl,rfl⟩|⟨y,u,rfl,rfl⟩
   ·rw [ME] at h;exact SeqAt.EqAt.str_int x t j u _ _ _ _ h
   ·rw [Ha] at h;exact wpAny_eqBool_str h
 «strs»:=λk x t v h=>by
  rcases bC h with⟨i,u,rfl,e⟩|⟨y,u,rfl,e⟩
  ·exact nomatch e
  ·injection e with e1 _
   subst e1;cases v<;>rfl
def qE(prog:Program)(w:World)(i:Int)(t:Tok):(bw prog w).is (.inl i) (.int i t)=true:=xh i t
def sk(prog:Program)(w:World)(x:Str)(t:Tok):(bw prog w).is (.inr x) (.str x t)=true:=wg x t
inductive V where
 |aK|bl (b:Bool)|int (i:Int)|str (x:Str)|Uc (b:Array UInt8)|TB (b:UInt64)|ref (a:Addr)|ty (n:String)
 deriving DecidableEq
def RelV:V->Value->Prop
 |.aK,u=>u=Value.none
 |.bl b,u=>u=Value.bool b
 |.int i,u=>∃t,u=Value.int i t
 |.str x,u=>∃t,u=Value.str x t
 |.Uc b,u=>∃t,u=Value.bytes b t
 |.TB b,u=>∃t,u=Value.float b t
 |.ref a,u=>u=Value.ref a
 |.ty n,u=>u=Value.type n
abbrev Vals:List V->List Value->Prop:=Paired RelV
def Vals.length{xs:List V}{us:List Value}(r:Vals xs us):xs.length=us.length:=Paired.length r
theorem Vals.get:∀{xs:List V} {us:List Value} {i:Nat} {x:V},Vals xs us->xs[i]?=some x->∃u,us[i]?=some u/\RelV x u
 |_,_,_,_,.nil,e=>by simp at e
 |_,_,0,_,.cons r _,e=>by simp at e;subst e;exact⟨_,rfl,r⟩
 |_,_,i+1,x,.cons _ t,e=>by
  obtain⟨u,h1,h2⟩:=Vals.get (i:=i) (x:=x) t (by simpa using e)
  exact⟨u,by simpa using h1,h2⟩
theorem Vals.set{x:V}{u:Value}(r:RelV x u):∀{xs:List V} {us:List Value} (i:Nat),Vals xs us->Vals (xs.set i x) (us.set i u)
 |_,_,_,.nil=>.nil
 |_,_,0,.cons _ t=>.cons r t
 |_,_,i+1,.cons q t=>.cons q (Vals.set r i t)
theorem Vals.append:∀{xs ys:List V} {us ws:List Value},Vals xs us->Vals ys ws->Vals (xs++ys) (us++ws)
 |_,_,_,_,.nil,s=>s
 |_,_,_,_,.cons r t,s=>.cons r (Vals.append t s)
theorem Vals.take:∀{xs:List V} {us:List Value} (n:Nat),Vals xs us->Vals (xs.take n) (us.take n)
 |_,_,0,_=>.nil
 |_,_,_+1,.nil=>.nil
 |_,_,n+1,.cons r t=>.cons r (Vals.take n t)
theorem Vals.drop:∀{xs:List V} {us:List Value} (n:Nat),Vals xs us->Vals (xs.drop n) (us.drop n)
 |_,_,0,r=>r
 |_,_,_+1,.nil=>.nil
 |_,_,n+1,.cons _ t=>Vals.drop n t
def iT:Option V->Option Value->Prop
 |some v,some u=>RelV v u
 |none,none=>True
 |_,_=>False
def KV{κ:Type}:List (κ×V)->List (κ×Value)->Prop:=Paired λ(p:κ×V) (q:κ×Value)=>p.1=q.1/\RelV p.2 q.2
def kV:Key->V
 |.inl i=>.int i
 |.inr x=>.str x
inductive HO where
 |lst (xs:List V)
 |tup (xs:List V)
 |dK (ax:List (Key×V))|dT (ax:List (List Key×V))
 |set (S:Int->Bool) (n:Nat)
 |ins (C dx:Addr) (fs:List (Str×V))
 |own (x:Addr)
 |xd (fs:List (Str×V))
 |met (f x:Addr)
 |mi (lo hi:Int)
 |bt (o:Obj) (u:HO)
 |fC (ps:Array Value)
 |ext (φ:Heap->Prop)
abbrev Hp:=Addr->Option HO
def upd(H:Hp)(a:Addr)(o:HO):Hp:=λb=>if b=a then some o else H b
def aj{H:Hp}{a:Addr}{o:HO}:upd H a o a=some o:=by unfold upd;rw [if_pos rfl]
def ag{H:Hp}{a b:Addr}{o:HO}(h:b≠a):upd H a o b=H b:=by unfold upd;rw [if_neg h]
def vQ{H:Hp}{a:Addr}{o u:HO}:upd (upd H a o) a u=upd H a u:=by
 funext b;unfold upd;split<;>rfl
def eQ{H:Hp}{a b:Addr}{o u:HO}(h:H a=some o)(h':H b=some u)(d:o≠u):a≠b:=by
 intro e;subst e;rw [h] at h';exact d (zzq h')
def bu{H:Hp}{a b:Addr}{o:HO}(h:H a=some o)(h':H b=none):a≠b:=by
 intro e;subst e;rw [h] at h';cases h'
section
variable(P:Program)(w:World)
def bA(H:Hp)(h:Heap)(a:Addr):HO->Prop
 |.lst xs=>xs.length<=sizeLine/\∃(ak:List Value) (n:Nat),Vals xs ak/\h.get? a=some {cls:=.type "list",data:=.seq ak.toArray n}
 |.tup xs=>xs.length<=sizeLine/\∃ak:List Value,Vals xs ak/\IsTup h a ak.toArray
 |.dK ax=>ax.length<=sizeLine/\(a==sysModules)=false/\∃vs,KV ax vs/\h.DictOf (bw P w) a vs
 |.dT ax=>ax.length<=sizeLine/\(a==sysModules)=false/\∃xs:List (List Key×Addr×Value),
  Paired (λ(p:List Key×V) (q:List Key×Addr×Value)=>p.1=q.1/\H q.2.1=some (.tup (p.1.map kV))/\RelV p.2 q.2.2) ax xs/\
  ∃o es ep,h.get? a=some o/\o.ExactDict/\o.data=.dict es ep/\es.toList=xs.map (entryOfKey (tupleKind (bw P w)))/\(xs.map (·.1)).Nodup
 |.set S n=>h.SetOf (intKind P w) a S n
 |.ins C dx fs=>H dx=some (.own a)/\fs.length<=1000/\dx≠a/\h.get? a=some (PySem.W.instObj C dx)/\
  ∃mA,h.Ns1 dx mA/\(∀f,iT (fs.lookup f) (mA f))/\PySem.Within mA (fs.map (·.1))
 |.own _=>∃o,h.get? a=some o
 |.xd fs=>∃mA,h.Ns1 a mA/\∀f,iT (fs.lookup f) (mA f)
 |.mi lo hi=>∃t u v,h.get? a=some {cls:=.type "range",data:=.fields #[.int lo t,.int hi u,.int 1 v]}
 |.bt o u=>h.get? a=some o/\bA H h a u
 |.fC ps=>h.get? a=some {cls:=.none,data:=.fields ps}
 |.met f x=>h.get? a=some (PySem.W.methodObj (.ref f) (.ref x))
 |.ext φ=>φ h/\(∃o,h.get? a=some o)/\∀h1 h2:Heap,φ h1->(∀o,h1.get? a=some o->h2.get? a=some o)->φ h2
def dE(H:Hp)(h:Heap):Prop:=∀a o,H a=some o->bA P w H h a o
end
section
variable{P:Program}{w:World}{H H':Hp}{h h':Heap}{a:Addr}{o:HO}
def bA.lt(x:bA P w H h a o):a<h.objs.size:=by
 cases o with
 |lst xs=>obtain⟨_,_,_,_,e⟩:=x;exact zzO e
 |tup xs=>obtain⟨_,_,_,p⟩:=x;exact p.lt
 |dK ax=>obtain⟨_,_,_,_,o,_,_,e,_⟩:=x;exact zzO e
 |dT ax=>obtain⟨_,_,_,_,o,_,_,e,_⟩:=x;exact zzO e
 |set S n=>obtain⟨o,_,_,_,e,_⟩:=x;exact zzO e
 |ins C dx fs=>obtain⟨_,_,_,e,_⟩:=x;exact zzO e
 |own y=>obtain⟨_,e⟩:=x;exact zzO e
 |xd fs=>obtain⟨_,⟨_,_,_,e,_⟩,_⟩:=x;exact zzO e
 |mi lo hi=>obtain⟨_,_,_,e⟩:=x;exact zzO e
 |bt ob u=>obtain⟨e,_⟩:=x;exact zzO e
 |fC ps=>exact zzO (show h.get? a=some _ from x)
 |met f y=>exact zzO (show h.get? a=some _ from x)
 |ext φ=>obtain⟨_,⟨_,e⟩,_⟩:=x;exact zzO e
theorem Paired.wB{α β:Type}{F G:α->β->Prop}:∀{l₁:List α} {l₂:List β},Paired F l₁ l₂->(∀a b,F a b->G a b)->Paired G l₁ l₂
 |_,_,.nil,_=>.nil
 |_,_,.cons r t,f=>.cons (f _ _ r) (Paired.wB t f)
def bA.di(x:bA P w H h a o)(k:∀b u,(b=a\/H b=some (.own a))->h.get? b=some u->h'.get? b=some u)
 (ho:∀b,H b=some (.own a)->H' b=some (.own a)) (ht:∀b xs,H b=some (.tup xs)->H' b=some (.tup xs)):bA P w H' h' a o:=by
 induction o with
 |lst xs=>obtain⟨z,ak,n,r,e⟩:=x;exact⟨z,ak,n,r,k _ _ (.inl rfl) e⟩
 |tup xs=>obtain⟨z,ak,r,ob,e,c⟩:=x;exact⟨z,ak,r,ob,k _ _ (.inl rfl) e,c⟩
 |dK ax=>obtain⟨z,y,vs,r,ob,es,ep,e,c⟩:=x;exact⟨z,y,vs,r,ob,es,ep,k _ _ (.inl rfl) e,c⟩
 |dT ax=>
  obtain⟨z,y,xs,r,ob,es,ep,e,c⟩:=x
  exact⟨z,y,xs,Paired.wB r λp q z=>⟨z.1,ht _ _ z.2.1,z.2.2⟩,ob,es,ep,k _ _ (.inl rfl) e,c⟩
 |set S n=>obtain⟨ob,es,ep,t,e,c⟩:=x;exact⟨ob,es,ep,t,k _ _ (.inl rfl) e,c⟩
 |ins C dx fs=>
  obtain⟨d,z,ne,e,mA,⟨od,es,ep,e2,c⟩,r⟩:=x
  exact⟨ho _ d,z,ne,k _ _ (.inl rfl) e,mA,⟨od,es,ep,k _ _ (.inr d) e2,c⟩,r⟩
 |own y=>obtain⟨ob,e⟩:=x;exact⟨ob,k _ _ (.inl rfl) e⟩
 |xd fs=>obtain⟨mA,⟨od,es,ep,e,c⟩,r⟩:=x;exact⟨mA,⟨od,es,ep,k _ _ (.inl rfl) e,c⟩,r⟩
 |mi lo hi=>obtain⟨t,u,v,e⟩:=x;exact⟨t,u,v,k _ _ (.inl rfl) e⟩
 |bt ob u ih=>obtain⟨e,q⟩:=x;exact⟨k _ _ (.inl rfl) e,ih q⟩
 |fC ps=>
  have e:h.get? a=some {cls:=.none,data:=.fields ps}:=x
  show h'.get? a=some {cls:=.none,data:=.fields ps}
  exact k a _ (.inl rfl) e
 |met f y=>
  have e:h.get? a=some (PySem.W.methodObj (.ref f) (.ref y)):=x
  show h'.get? a=some (PySem.W.methodObj (.ref f) (.ref y))
  exact k a _ (.inl rfl) e
 |ext φ=>obtain⟨p,⟨o,e⟩,st⟩:=x;exact⟨st _ _ p λo q=>k _ _ (.inl rfl) q,⟨o,k _ _ (.inl rfl) e⟩,st⟩
def dE.lt(x:dE P w H h)(e:H a=some o):a<h.objs.size:=(x a o e).lt
def dE.fresh(x:dE P w H h)(e:h.objs.size<=a):H a=none:=by
 cases q:H a with
 |none=>rfl
 |some u=>exact absurd (zzW (x.lt q) e) (Nat.lt_irrefl _)
def dE.kept(x:dE P w H h)(k:∀b u,h.get? b=some u->h'.get? b=some u):dE P w H h':=λa o e=>
 (x a o e).di (λb u _ q=>k b u q) (λ_ q=>q) λ_ _ q=>q
theorem dE.laid(x:dE P w H h)(k:∀b u,h.get? b=some u->h'.get? b=some u)(hp:h.objs.size<=a)(new:bA P w (upd H a o) h' a o):dE P w (upd H a o) h':=λb u e=>by
 have hn:=x.fresh hp
 by_cases hb:b=a
 ·subst hb;rw [aj] at e;cases e;exact new
 ·rw [ag hb] at e;exact(x b u e).di (λc v _ q=>k c v q) (λc q=>by rw [ag (bu q hn)];exact q) λc xs q=>by rw [ag (bu q hn)];exact q
end
def Rd(H:Hp)(a:Addr)(u:HO):Prop:=H a=some u\/∃o,H a=some (.bt o u)
def Rd.ok{P:Program}{w:World}{H:Hp}{h:Heap}{a:Addr}{u:HO}(r:Rd H a u)(x:dE P w H h):bA P w H h a u:=by
 rcases r with r|⟨o,r⟩
 ·exact x a u r
 ·obtain⟨_,q⟩:=x a _ r
  exact q
def QG:Option HO->Prop
 |some (.lst _)=>True
 |some (.dK _)=>True
 |some (.dT _)=>True
 |some (.set _ _)=>True
 |some (.ins _ _ _)=>True
 |some (.ext _)=>True
 |_=>False
section
variable{P:Program}{w:World}{H:Hp}{h h':Heap}{x e:Addr}{o':HO}
def dE.write(ok:dE P w H h)(mu:QG (H x))(he:e=x\/H e=some (.own x))(k:∀b u,b≠e->h.get? b=some u->h'.get? b=some u)(O1:∃u,h'.get? e=some u)
 (new:bA P w (upd H x o') h' x o'):dE P w (upd H x o') h':=λb u q=>by
 have Qa:∀c y,H c=some (.own y)->c≠x:=λc y r z=>by subst z;rw [r] at mu;exact mu
 have Uq:∀c xs,H c=some (.tup xs)->c≠x:=λc xs r z=>by subst z;rw [r] at mu;exact mu
 by_cases hb:b=x
 ·subst hb;rw [aj] at q;cases q;exact new
 ·rw [ag hb] at q
  by_cases hbe:b=e
  ·have q':H b=some (.own x):=by
    rcases he with z|z
    ·exact absurd (hbe.trans z) hb
    ·rw [hbe];exact z
   rw [q] at q';cases q';obtain⟨v,hv⟩:=O1
   exact⟨v,by rw [hbe];exact hv⟩
  ·refine(ok b u q).di (λc v hc r=>k c v ?_ r) (λc r=>by rw [ag (Qa c b r)];exact r) λc xs r=>by rw [ag (Uq c xs r)];exact r
   rcases hc with rfl|hc
   ·exact hbe
   ·rintro rfl
    rcases he with z|z
    ·exact Qa c b hc z
    ·rw [hc] at z;cases z;exact hb rfl
end
structure Un(fs ex:List Addr)(H H':Hp)(h h':Heap):Prop where
 keep:∀b o,h.get? b=some o->H b=none->b∉fs->b∉ex->h'.get? b=some o
 slot:∀b o,h.get? b=some o->H b=none->b∈fs->b∉ex->∃sl,h'.get? b=some {o with slots:=sl}
 free:∀b o,h.get? b=some o->H b=none->b∉ex->H' b=none
 there:∀b o,h.get? b=some o->b∉ex->∃o',h'.get? b=some o'
 fB:∀b xs,H b=some (.tup xs)->H' b=some (.tup xs)
 ei:∀b o u,H b=some (.bt o u)->H' b=some (.bt o u)
 fe:∀b ps,H b=some (.fC ps)->∃more,H' b=some (.fC (ps++more))
section
variable{fs ex:List Addr}{H H1:Hp}{h h1 h':Heap}{a x e:Addr}{o:HO}
def Un.any(u:Un fs ex H H1 h h1){b:Addr}{ob:Obj}(q:h.get? b=some ob)(n:H b=none)(hx:b∉ex):∃sl,h1.get? b=some {ob with slots:=sl}:=by
 by_cases hb:b∈fs
 ·exact u.slot b ob q n hb hx
 ·exact⟨ob.slots,u.keep b ob q n hb hx⟩
def Un.kept(k:∀b u,h.get? b=some u->h'.get? b=some u):Un fs ex H H h h':=
 ⟨λb ob q _ _ _=>k b ob q,λb ob q _ _ _=>⟨ob.slots,k b ob q⟩,λ_ _ _ n _=>n,λb ob q _=>⟨ob,k b ob q⟩,λ_ _ q=>q,λ_ _ _ q=>q,λ_ ps q=>⟨#[],by rw [q];simp⟩⟩
def Un.refl:Un fs ex H H h h:=Un.kept λ_ _ q=>q
theorem Un.laid(k:∀b u,h.get? b=some u->h'.get? b=some u)(hp:h.objs.size<=a)(hn:H a=none):Un fs ex H (upd H a o) h h' where
 keep:=λb u q _ _ _=>k b u q
 slot:=λb u q _ _ _=>⟨u.slots,k b u q⟩
 free:=λb u q n _=>by rw [ag (zzb (zzW (zzO q) hp))];exact n
 there:=λb u q _=>⟨u,k b u q⟩
 fB:=λb xs q=>by rw [ag (bu q hn)];exact q
 ei:=λb u xs q=>by rw [ag (bu q hn)];exact q
 fe:=λb ps q=>⟨#[],by rw [ag (bu q hn),q];simp⟩
def Un.write(mu:QG (H x))(he:e=x\/H e=some (.own x))(k:∀b u,b≠e->h.get? b=some u->h'.get? b=some u)(O1:∃u,h'.get? e=some u):Un fs ex H (upd H x o) h h':=by
 have hx:∀b,H b=none->b≠x:=λb n z=>by subst z;rw [n] at mu;exact mu
 have hb:∀b,H b=none->b≠e:=λb n z=>by
  subst z;rcases he with r|r
  ·exact hx b n r
  ·rw [n] at r;cases r
 have hm:∀b u,H b=some u->¬QG (some u)->b≠x:=λb u q nm z=>by subst z;rw [q] at mu;exact nm mu
 refine⟨λb u q n _ _=>k b u (hb b n) q,λb u q n _ _=>⟨u.slots,k b u (hb b n) q⟩,λb u q n _=>by rw [ag (hx b n)];exact n,λb u q _=>?_,
  λb xs q=>by rw [ag (hm b _ q λz=>z)];exact q,λb u xs q=>by rw [ag (hm b _ q λz=>z)];exact q,λb ps q=>⟨#[],by rw [ag (hm b _ q λz=>z),q];simp⟩⟩
 by_cases hbe:b=e
 ·subst hbe;exact O1
 ·exact⟨u,k b u hbe q⟩
end
def RH(h:Heap)(H:Hp):List Addr:=(List.range h.objs.size).filter λa=>(H a).isSome
def pq(h:Heap)(H:Hp):Heap:=PySem.W.hideAll h (RH h H)
def xt(h:Heap)(H:Hp):(pq h H).objs.size=h.objs.size:=PySem.W.hideAll_size _ _
theorem yy{h:Heap}{H:Hp}{b:Addr}{o:Obj}(e:h.get? b=some o)(n:H b=none):(pq h H).get? b=some o:=
 PySem.W.hideAll_get _ e λhm=>by
  have q:(H b).isSome=true:=(List.mem_filter.mp hm).2
  rw [n] at q;simp at q
def B8{h:Heap}{H:Hp}{b:Addr}{o:Obj}(e:(pq h H).get? b=some o):h.get? b=some o/\H b=none:=by
 have e':h.get? b=some o:=PySem.W.of_hideAll (RH h H) e
 refine⟨e',?_⟩;cases q:H b with
 |none=>rfl
 |some x=>
  have hm:b∈RH h H:=List.mem_filter.mpr ⟨List.mem_range.mpr (zzO e'),by simp [q]⟩
  have z:(pq h H).get? b=none:=PySem.W.hideAll_none (RH h H) hm
  rw [z] at e;cases e
def C6(g h:Heap)(L:Addr):List (Addr×Obj):=(List.range h.objs.size).filterMap λa=>if a=L\/(g.get? a).isSome=true then none else(h.get? a).map λo=>(a,o)
def rest(g h:Heap)(L d:Addr):List (Addr×Obj):=(C6 g h L).filter λp=>decide (p.1≠d)
structure Mod(K:zz8)(mg:Str->Option Value)(base:Heap):Prop where
 O0:K.In base
 glob:base.Ns mainGlobals mg
 blt:∃mb,base.Ns builtinsNs mb/\∀x:Str,x≠"__name__"->mb x=bootBuiltins x
 nolimit:base.NoLimit
structure Cx where
 prog:Program
 w:World
 K:zz8
 mg:Str->Option Value
 base:Heap
 A:Around
 N:List Str
 s₀:Shared
 H₀:Hp
 env:Env
 outer:List Env
 stack:List Env
 ex:List Addr
 fn:Str->Bool
 calm:Bool
 pn:List (Addr×Obj)
 xe:Value->Shared->Prop
def dD(l:List Env):List Addr:=l.filterMap (·.frame)
abbrev Cx.fs(X:Cx):List Addr:=dD X.outer
def OZ(sc:Scope)(x:Str):Prop:=sc.names.lookup x=some .local\/sc.names.lookup x=some .cell\/sc.names.lookup x=some .free
def Loc(sc:Scope)(x:Str):Prop:=sc.names.lookup x=some .local\/sc.names.lookup x=some .cell
def Look(env:Env)(h:Heap)(m:Str->Option Value)(x:Str)(u:Value):Prop:=
 (env.kindOf x=some .local/\m x=some u)\/((env.kindOf x=some .cell\/env.kindOf x=some .free)/\∃c,env.cells.lookup x=some c/\h.IsCell c (some u))
structure Cx.Ok(X:Cx):Prop where
 mod:Mod X.K X.mg X.base
 kind:X.env.scope.kind=.function
 glob:X.env.globals=mainGlobals
 blt:X.env.builtins=builtinsNs
 above:X.s₀.heap.objs.size<=X.env.locals
 inj:∀x y c,X.env.cells.lookup x=some c->X.env.cells.lookup y=some c->x=y
 has:∀x,(X.env.kindOf x=some .cell\/X.env.kindOf x=some .free)->∃c,X.env.cells.lookup x=some c
 FI:∀x c,X.fn x=true->X.env.cells.lookup x=some c->X.s₀.heap.objs.size<=c
 hd:X.calm=true->X.A.handled=none
 frames:X.A.frames=some X.stack
 Bz:X.stack=X.outer\/(X.stack=X.env::X.outer/\X.env.frame=some X.env.locals)
 Tz:∀b∈X.ex,b≠X.env.locals/\∀x c,X.env.cells.lookup x=some c->c≠b
 bs:∀b o,X.base.get? b=some o->X.s₀.heap.get? b=some o/\X.H₀ b=none
 uA:X.base.objs.size<=X.s₀.heap.objs.size
 xu:∀b o,X.base.get? b=some o->b∉X.ex
 yP:∀b∈X.ex,b∉X.fs
 eV:X.s₀.heap.FunFrames X.base X.outer
 uj:∀b∈X.fs,X.H₀ b=none
structure Inv(X:Cx)(aa:List (Addr×Obj))(σ:List (Option V))(H:Hp)(s:Shared):Prop where
 ok:X.Ok
 os:s.os=X.s₀.os
 bare:AllBare s.gens
 base:Un X.fs X.ex X.H₀ H X.s₀.heap s.heap
 loc:∃m,s.heap.Ns X.env.locals m/\∀(i:Nat) (x:Str) (v:V),X.N[i]?=some x->σ[i]?=some (some v)->OZ X.env.scope x->∃u,RelV v u/\Look X.env s.heap m x u
 cell:∀x c,X.env.cells.lookup x=some c->∃v,s.heap.IsCell c v
 free:H X.env.locals=none
 dG:∀x c,X.env.cells.lookup x=some c->H c=none
 pin:∀p∈X.pn++aa,s.heap.get? p.1=some p.2/\H p.1=none/\p.1≠X.env.locals/\p.1∉X.fs/\∀v,p.2.data≠.cell v
 aH:dE X.prog X.w H s.heap
 len:σ.length=X.N.length
section
variable{X:Cx}{aa:List (Addr×Obj)}{σ:List (Option V)}{H H':Hp}{s:Shared}{h':Heap}
theorem Cx.Ok.Sm(ok:X.Ok){b:Addr}{o:Obj}(e:X.base.get? b=some o):b∉X.fs:=λhb=>by
 have:=(ok.eV.mem hb).1
 rw [e] at this;cases this
def Inv.bs(I:Inv X aa σ H s):∀b o,X.base.get? b=some o->s.heap.get? b=some o/\H b=none:=λb o e=>
 ⟨I.base.keep b o (I.ok.bs b o e).1 (I.ok.bs b o e).2 (I.ok.Sm e) (I.ok.xu b o e),I.base.free b o (I.ok.bs b o e).1 (I.ok.bs b o e).2 (I.ok.xu b o e)⟩
def Inv.bk(I:Inv X aa σ H s):∀b o,X.base.get? b=some o->s.heap.get? b=some o:=λb o e=>(I.bs b o e).1
def Inv.mod(I:Inv X aa σ H s):Mod X.K X.mg X.base:=I.ok.mod
def Inv.nq(I:Inv X aa σ H s):X.K.In s.heap:=I.ok.mod.O0.keeps I.bk
theorem Inv.fr(I:Inv X aa σ H s):∃m,Fr X.base X.env.locals s.heap m:=
 let⟨m,hn,_⟩:=I.loc
 ⟨m,hn,I.bk,zzU I.ok.uA I.ok.above⟩
theorem Inv.lt(I:Inv X aa σ H s):X.env.locals<(zz9 s):=let⟨_,hn,_⟩:=I.loc;hn.lt
def Inv.sz(I:Inv X aa σ H s):X.s₀.heap.objs.size<=(zz9 s):=zzU I.ok.above (Nat.le_of_lt I.lt)
theorem Inv.S7(I:Inv X aa σ H s){a:Addr}(h:(zz9 s)<=a):a∉X.fs:=λhb=>by
 obtain⟨_,o,ho,_⟩:=I.ok.eV.mem hb
 exact absurd (zzW (zzO ho) (zzU I.sz h)) (Nat.lt_irrefl _)
theorem Inv.xG(I:Inv X aa σ H s):∀x c,X.env.cells.lookup x=some c->c≠X.env.locals:=λx c e z=>by
 obtain⟨v,o,ho,hd⟩:=I.cell x c e
 obtain⟨m,⟨o',es,ep,jl,OU,_⟩,_⟩:=I.loc
 rw [z,jl] at ho;cases ho;rw [OU] at hd;cases hd
def Inv.eV(I:Inv X aa σ H s):s.heap.FunFrames X.base X.outer:=by
 have all:∀(l:List Env),(∀b∈dD l,b∈X.fs)->X.s₀.heap.FunFrames X.base l->s.heap.FunFrames X.base l:=by
  intro l
  induction l with
  |nil=>intro _ _;trivial
  |cons env r ih=>
   intro hs hl;obtain⟨hk,⟨L,o,hf,hn,ho,hd⟩,hr⟩:=hl
   have hL:L∈X.fs:=hs L (by unfold dD;rw [List.filterMap_cons,hf];exact zzP)
   obtain⟨sl,e⟩:=I.base.slot L o ho (I.ok.uj L hL) hL λz=>I.ok.yP L z hL
   exact⟨hk,⟨L,_,hf,hn,e,hd⟩,ih (λb hb=>hs b (by unfold dD;rw [List.filterMap_cons,hf];exact zzI _ hb)) hr⟩
 exact all X.outer (λ_ hb=>hb) I.ok.eV
def Inv.stack(I:Inv X aa σ H s):s.heap.FunFrames X.base X.stack:=by
 rcases I.ok.Bz with e|⟨e,hf⟩
 ·rw [e];exact I.eV
 ·rw [e];obtain⟨m,hn,_⟩:=I.loc
  refine .cons (by rw [I.ok.kind];decide) hf hn ?_ I.eV;exact Heap.get?_none_of_le (zzU I.ok.uA I.ok.above)
def Inv.iq(I:Inv X aa σ H s):∀b∈dD X.stack,b∈X.env.locals::X.fs:=λb hb=>by
 rcases I.ok.Bz with e|⟨e,hf⟩
 ·rw [e] at hb;exact zzI _ hb
 ·rw [e] at hb;unfold dD at hb;rw [List.filterMap_cons,hf] at hb;exact hb
theorem Inv.kN(I:Inv X aa σ H s):∀b∈dD X.stack,H b=none:=λb hb=>by
 rcases zzm.mp (I.iq b hb) with e|hb
 ·rw [e];exact I.free
 ·obtain⟨_,o,ho,_⟩:=I.ok.eV.mem hb
  exact I.base.free b o ho (I.ok.uj b hb) λz=>I.ok.yP b z hb
def Inv.step{g':Array GenState}{t':Nat}{d':Drawn}{ch:List Addr}(I:Inv X aa σ H s)
 (yb:∀b∈ch,(b∈X.ex\/X.s₀.heap.objs.size<=b)/\b≠X.env.locals/\(∀x c,X.env.cells.lookup x=some c->c≠b)/\∀p∈X.pn++aa,p.1≠b)
 (keep:∀b o,b≠X.env.locals->b∉X.fs->b∉ch->s.heap.get? b=some o->H b=none->h'.get? b=some o)
 (slot:∀b o,b≠X.env.locals->b∈X.fs->b∉ch->s.heap.get? b=some o->H b=none->∃sl,h'.get? b=some {o with slots:=sl}) (free:∀b o,b∉ch->s.heap.get? b=some o->H b=none->H' b=none)
 (there:∀b o,b∉ch->s.heap.get? b=some o->∃o',h'.get? b=some o')
 (fB:∀b xs,H b=some (.tup xs)->H' b=some (.tup xs)) (ei:∀b o u,H b=some (.bt o u)->H' b=some (.bt o u)) (fe:∀b ps,H b=some (.fC ps)->∃more,H' b=some (.fC (ps++more)))
 (ns:∀m,s.heap.Ns X.env.locals m->h'.Ns X.env.locals m) (aH:dE X.prog X.w H' h') (hg:AllBare g'):
 Inv X aa σ H' {s with heap:=h',gens:=g',drawn:=d',toks:=t'}:=by
 have Xk:∀b o,X.s₀.heap.get? b=some o->b≠X.env.locals:=λb o e=>zzb (zzW (zzO e) I.ok.above)
 have KU:∀b o,X.s₀.heap.get? b=some o->b∉X.ex->b∉ch:=λb o e hx hb=>by
  rcases(yb b hb).1 with z|z
  ·exact hx z
  ·exact absurd (zzW (zzO e) z) (Nat.lt_irrefl _)
 have cellK:∀x c,X.env.cells.lookup x=some c->∀v,s.heap.IsCell c v->h'.IsCell c v:=λx c e v ⟨o,ho,hd⟩=>by
  have PL:c∉ch:=λz=>(yb c z).2.2.1 x c e rfl
  by_cases hc:c∈X.fs
  ·obtain⟨sl,q⟩:=slot c o (I.xG x c e) hc PL ho (I.dG x c e)
   exact⟨_,q,hd⟩
  ·exact⟨o,keep c o (I.xG x c e) hc PL ho (I.dG x c e),hd⟩
 refine⟨I.ok,I.os,hg,⟨λb o e n hb hx=>?_,λb o e n hb hx=>?_,λb o e n hx=>?_,λb o e hx=>?_,λb xs e=>fB b xs (I.base.fB b xs e),λb o xs e=>ei b o xs (I.base.ei b o xs e),λb ps e=>?_⟩,?_,λx c e=>?_,?_,λx c e=>?_,λp hp=>?_,aH,I.len⟩
 ·exact keep b o (Xk b o e) hb (KU b o e hx) (I.base.keep b o e n hb hx) (I.base.free b o e n hx)
 ·obtain⟨sl,e1⟩:=I.base.slot b o e n hb hx
  obtain⟨sl',e2⟩:=slot b _ (Xk b o e) hb (KU b o e hx) e1 (I.base.free b o e n hx)
  exact⟨sl',e2⟩
 ·obtain⟨o',e1⟩:=I.base.there b o e hx
  exact free b o' (KU b o e hx) e1 (I.base.free b o e n hx)
 ·obtain⟨o',e1⟩:=I.base.there b o e hx
  exact there b o' (KU b o e hx) e1
 ·obtain⟨m1,e1⟩:=I.base.fe b ps e
  obtain⟨m2,e2⟩:=fe b _ e1
  exact⟨m1++m2,by rw [e2,Array.append_assoc]⟩
 ·obtain⟨m,hn,hl⟩:=I.loc
  refine⟨m,ns m hn,λi x v e1 e2 e3=>?_⟩
  obtain⟨u,r,l⟩:=hl i x v e1 e2 e3
  refine⟨u,r,?_⟩;rcases l with l|⟨k,c,e,z⟩
  ·exact .inl l
  ·exact .inr ⟨k,c,e,cellK x c e _ z⟩
 ·obtain⟨v,z⟩:=I.cell x c e
  exact⟨v,cellK x c e v z⟩
 ·obtain⟨m,⟨o,_,_,ho,_⟩,_⟩:=I.loc
  exact free _ o (λz=>(yb _ z).2.1 rfl) ho I.free
 ·obtain⟨v,o,ho,hd⟩:=I.cell x c e
  exact free c o (λz=>(yb c z).2.2.1 x c e rfl) ho (I.dG x c e)
 ·obtain⟨e,n,ne,nf,d⟩:=I.pin p hp
  have PL:p.1∉ch:=λz=>(yb p.1 z).2.2.2 p hp rfl
  exact⟨keep p.1 p.2 ne nf PL e n,free p.1 p.2 PL e n,ne,nf,d⟩
def Inv.un{t':Nat}(I:Inv X aa σ H s)(u:Un X.fs [] H H' s.heap h')(aH:dE X.prog X.w H' h'):Inv X aa σ H' {s with heap:=h',toks:=t'}:=by
 obtain⟨m,⟨o,es,ep,ho,r⟩,_⟩:=id I.loc
 obtain⟨sl,hL⟩:=u.any ho I.free (by simp)
 exact I.step (g':=s.gens) (d':=s.drawn) (ch:=[]) (λ_ z=>nomatch z) (λb o _ hb _ e n=>u.keep b o e n hb (by simp)) (λb o _ hb _ e n=>u.slot b o e n hb (by simp)) (λb o _ e n=>u.free b o e n (by simp)) (λb o _ e=>u.there b o e (by simp)) u.fB u.ei u.fe (λm' hm=>by
  obtain⟨o',es',ep',jl,r'⟩:=hm
  rw [ho] at jl;cases jl;exact⟨_,es',ep',hL,r'⟩) aH I.bare
def Inv.call{g':Array GenState}{t':Nat}{d':Drawn}{ch:List Addr}(I:Inv X aa σ H s)(u:Un (dD X.stack) ch H H' s.heap h')(aH:dE X.prog X.w H' h')(hg:AllBare g')
 (yb:∀b∈ch,(b∈X.ex\/X.s₀.heap.objs.size<=b)/\b≠X.env.locals/\(∀x c,X.env.cells.lookup x=some c->c≠b)/\∀p∈X.pn++aa,p.1≠b):
 Inv X aa σ H' {s with heap:=h',gens:=g',drawn:=d',toks:=t'}:=by
 obtain⟨m,⟨o,es,ep,ho,r⟩,_⟩:=id I.loc
 obtain⟨sl,hL⟩:=u.any ho I.free λz=>(yb _ z).2.1 rfl
 exact I.step (ch:=ch) yb (λb o hL hb hc e n=>u.keep b o e n (λz=>(zzm.mp (I.iq b z)).elim hL hb) hc) (λb o _ _ hc e n=>u.any e n hc) (λb o hc e n=>u.free b o e n hc) (λb o hc e=>u.there b o e hc) u.fB u.ei u.fe (λm' hm=>by
  obtain⟨o',es',ep',jl,r'⟩:=hm
  rw [ho] at jl;cases jl;exact⟨_,es',ep',hL,r'⟩) aH hg
def Inv.turned{t':Nat}{it:Addr}(I:Inv X aa σ H s)(k:∀b o,b≠it->s.heap.get? b=some o->h'.get? b=some o)(hn:H it=none)(hL:it≠X.env.locals)
 (h1:it∈X.ex\/X.s₀.heap.objs.size<=it) (h2:∀x c,X.env.cells.lookup x=some c->c≠it) (h3:∀p∈X.pn++aa,p.1≠it):Inv X aa σ H {s with heap:=h',toks:=t'}:=by
 have V8:∀b u,H b=some u->b≠it:=λb u e z=>by rw [z,hn] at e;cases e
 refine I.step (g':=s.gens) (d':=s.drawn) (ch:=[it]) (λb hb=>?_) (λb o _ _ hc e _=>k b o (λz=>hc (by simp [z])) e) (λb o _ _ hc e _=>⟨o.slots,k b o (λz=>hc (by simp [z])) e⟩) (λ_ _ _ _ n=>n)
  (λb o hc e=>⟨o,k b o (λz=>hc (by simp [z])) e⟩) (λ_ _ e=>e) (λ_ _ _ e=>e) (λb ps e=>⟨#[],by rw [e];simp⟩) (λm hm=>?_) (λb u e=>?_) I.bare
 ·have e:b=it:=by simpa using hb
  subst e;exact⟨h1,hL,h2,h3⟩
 ·obtain⟨o,es,ep,ho,r⟩:=hm
  exact⟨o,es,ep,k _ o (Ne.symm hL) ho,r⟩
 ·refine(I.aH b u e).di (λc v hc q=>k c v ?_ q) (λ_ q=>q) λ_ _ q=>q
  rcases hc with z|z
  ·rw [z];exact V8 b u e
  ·exact V8 c _ z
theorem Inv.tok(I:Inv X aa σ H s)(t:Nat):Inv X aa σ H {s with toks:=t}:=I.un (h':=s.heap) (t':=t) Un.refl I.aH
theorem Inv.kept{t':Nat}(I:Inv X aa σ H s)(k:∀b u,s.heap.get? b=some u->h'.get? b=some u):Inv X aa σ H {s with heap:=h',toks:=t'}:=I.un (Un.kept k) (I.aH.kept k)
theorem Inv.laid{a:Addr}{o:HO}{t':Nat}(I:Inv X aa σ H s)(k:∀b u,s.heap.get? b=some u->h'.get? b=some u)(hp:(zz9 s)<=a)(new:bA X.prog X.w (upd H a o) h' a o):
 Inv X aa σ (upd H a o) {s with heap:=h',toks:=t'}:=I.un (Un.laid k hp (I.aH.fresh hp)) (I.aH.laid k hp new)
theorem Inv.write{x e:Addr}{o:HO}{t':Nat}(I:Inv X aa σ H s)(mu:QG (H x))(he:e=x\/H e=some (.own x))(k:∀b u,b≠e->s.heap.get? b=some u->h'.get? b=some u)(O1:∃u,h'.get? e=some u)
 (new:bA X.prog X.w (upd H x o) h' x o):Inv X aa σ (upd H x o) {s with heap:=h',toks:=t'}:=I.un (Un.write mu he k O1) (I.aH.write mu he k O1 new)
def Inv.gA{jg:List (Addr×Obj)}(I:Inv X aa σ H s)(h:∀p∈jg,s.heap.get? p.1=some p.2/\H p.1=none/\p.1≠X.env.locals/\p.1∉X.fs/\∀v,p.2.data≠.cell v):Inv X jg σ H s:=
 ⟨I.ok,I.os,I.bare,I.base,I.loc,I.cell,I.free,I.dG,λp hp=>(List.mem_append.mp hp).elim (λz=>I.pin p (zzc _ z)) (h p),I.aH,I.len⟩
def ja{N:List Str}(hN:N.Nodup){i j:Nat}{x:Str}(a:N[i]?=some x)(b:N[j]?=some x):i=j:=by
 obtain⟨h1,e1⟩:=zzH.mp a
 obtain⟨h2,e2⟩:=zzH.mp b
 exact(List.getElem_inj hN).mp (e1.trans e2.symm)
def jw{M:Model}{A:Around}{E:Value->Shared->Prop}{i:Nat}{x:Str}{v:V}{u:Value}{Q:Unit->Shared->Prop}(I:Inv X aa σ H s)(hN:X.N.Nodup)(hi:X.N[i]?=some x)(hx:Loc X.env.scope x)(r:RelV v u)
 (h:∀s',Inv X aa (σ.set i (some v)) H s'->(∃a,Heap.SameBut a s.heap s'.heap/\(a=X.env.locals\/X.env.cells.lookup x=some a))->Q () s') (hf:X.fn x=true\/X.env.scope.names.lookup x=some .local:=by first|exact .inl rfl|exact .inr rfl|assumption):wpAny M A (storeName X.env x u) Q E s:=by
 obtain⟨m,hn,hl⟩:=id I.loc
 have My:(X.env.scope.kind==.class||(X.env.scope.kind==.module&&X.env.locals !=X.env.globals))=false:=by rw [I.ok.kind];rfl
 have hiσ:i<σ.length:=by rw [I.len];exact(zzH.mp hi).1
 have xG:=I.xG
 have tracked:∀{a:Addr} {h':Heap},(∃o,s.heap.get? a=some o/\H a=none)->Heap.SameBut a s.heap h'->dE X.prog X.w H h':=λ{a h'} ha hs b ob e=>by
  obtain⟨_,_,hfree⟩:=ha
  refine(I.aH b ob e).di (λc w' hc q=>(hs.2 c ?_).trans q) (λ_ q=>q) λ_ _ q=>q
  rintro rfl
  rcases hc with rfl|hc
  ·rw [hfree] at e;cases e
  ·rw [hfree] at hc;cases hc
 rcases hx with hk|hk
 ·refine wpAny_storeName_local hk hn (λh' Q5 hs=>?_) My;obtain⟨oL,_,_,O6,_⟩:=id hn
  refine h _ ⟨I.ok,I.os,I.bare,⟨λb o e n hb hx=>?_,λb o e n hb hx=>?_,I.base.free,λb o e hx=>?_,I.base.fB,I.base.ei,I.base.fe⟩,⟨_,Q5,λj y v' e1 e2 e3=>?_⟩,λy c e=>?_,I.free,I.dG,λp hp=>?_,tracked ⟨oL,O6,I.free⟩ hs,by simpa using I.len⟩ ⟨_,hs,.inl rfl⟩
  ·exact(hs.2 b (zzb (zzW (zzO e) I.ok.above))).trans (I.base.keep b o e n hb hx)
  ·obtain⟨sl,e1⟩:=I.base.slot b o e n hb hx
   exact⟨sl,(hs.2 b (zzb (zzW (zzO e) I.ok.above))).trans e1⟩
  ·obtain⟨o',e1⟩:=I.base.there b o e hx
   exact⟨o',(hs.2 b (zzb (zzW (zzO e) I.ok.above))).trans e1⟩
  ·by_cases hj:j=i
   ·subst hj;rw [hi] at e1;cases e1;rw [zzo hiσ] at e2;cases e2;exact⟨u,r,.inl ⟨hk,by simp⟩⟩
   ·rw [zzS (Ne.symm hj)] at e2;obtain⟨u',r',q⟩:=hl j y v' e1 e2 e3
    refine⟨u',r',?_⟩;rcases q with⟨k,e⟩|⟨k,c,e,z⟩
    ·refine .inl ⟨k,?_⟩;have:y≠x:=λe=>hj (ja hN e1 (e▸hi))
     simp [this,e]
    ·exact .inr ⟨k,c,e,z.sameBut hs (xG y c e)⟩
  ·obtain⟨w',z⟩:=I.cell y c e
   exact⟨w',z.sameBut hs (xG y c e)⟩
  ·obtain⟨e,n,ne,nf,d⟩:=I.pin p hp
   exact⟨(hs.2 p.1 ne).trans e,n,ne,nf,d⟩
 ·have j5:X.fn x=true:=by
   rcases hf with z|z
   ·exact z
   ·rw [z] at hk;cases hk
  obtain⟨c,hc⟩:=I.ok.has x (.inl hk)
  obtain⟨w',z⟩:=I.cell x c hc
  refine wpAny_storeName_cell I.ok.kind hk hc z (λh' fE hs=>?_);obtain⟨oc,hoc,hocd⟩:=id z
  refine h {s with heap:=h'} ⟨I.ok,I.os,I.bare,⟨λb o e n hb hx=>?_,λb o e n hb hx=>?_,I.base.free,λb o e hx=>?_,I.base.fB,I.base.ei,I.base.fe⟩,⟨m,hn.sameBut hs (Ne.symm (xG x c hc)),λj y v' e1 e2 e3=>?_⟩,λy c' e=>?_,I.free,I.dG,λp hp=>?_,tracked ⟨oc,hoc,I.dG x c hc⟩ hs,by simpa using I.len⟩ ⟨c,hs,.inr hc⟩
  ·exact(hs.2 b (zzb (zzW (zzO e) (I.ok.FI x c j5 hc)))).trans (I.base.keep b o e n hb hx)
  ·obtain⟨sl,e1⟩:=I.base.slot b o e n hb hx
   exact⟨sl,(hs.2 b (zzb (zzW (zzO e) (I.ok.FI x c j5 hc)))).trans e1⟩
  ·obtain⟨o',e1⟩:=I.base.there b o e hx
   exact⟨o',(hs.2 b (zzb (zzW (zzO e) (I.ok.FI x c j5 hc)))).trans e1⟩
  ·by_cases hj:j=i
   ·subst hj;rw [hi] at e1;cases e1;rw [zzo hiσ] at e2;cases e2;exact⟨u,r,.inr ⟨.inl hk,c,hc,fE⟩⟩
   ·rw [zzS (Ne.symm hj)] at e2;obtain⟨u',r',q⟩:=hl j y v' e1 e2 e3
    refine⟨u',r',?_⟩;rcases q with q|⟨k,c',e,z'⟩
    ·exact .inl q
    ·refine .inr ⟨k,c',e,z'.sameBut hs ?_⟩
     rintro rfl
     exact hj (ja hN e1 (I.ok.inj _ _ _ e hc▸hi))
  ·by_cases P0:c'=c
   ·subst P0;exact⟨_,fE⟩
   ·obtain⟨w2,z2⟩:=I.cell y c' e
    exact⟨w2,z2.sameBut hs P0⟩
  ·obtain⟨e,n,ne,nf,d⟩:=I.pin p hp
   refine⟨(hs.2 p.1 ?_).trans e,n,ne,nf,d⟩;intro q;rw [q,hoc] at e;have q':oc=p.2:=zzq e
   exact d w' (by rw [<-q'];exact hocd)
def eK{M:Model}{A:Around}{E:Value->Shared->Prop}{i:Nat}{x:Str}{v:V}{u:Value}{Q:Unit->Shared->Prop}(I:Inv X aa σ H s)(hN:X.N.Nodup)(hi:X.N[i]?=some x)(hx:Loc X.env.scope x)(r:RelV v u)
 (h:∀s',Inv X aa (σ.set i (some v)) H s'->Q () s') (hf:X.fn x=true\/X.env.scope.names.lookup x=some .local:=by first|exact .inl rfl|exact .inr rfl|assumption):wpAny M A (storeName X.env x u) Q E s:=
 jw I hN hi hx r (λs' I' _=>h s' I') hf
def Inv.PD{s':Shared}{ch:List Addr}(I:Inv X aa σ H s)(ho:s'.os=s.os)(u:Un (dD X.stack) ch H H' s.heap s'.heap)(aH:dE X.prog X.w H' s'.heap)(hg:AllBare s'.gens)
 (yb:∀b∈ch,(b∈X.ex\/X.s₀.heap.objs.size<=b)/\b≠X.env.locals/\(∀x c,X.env.cells.lookup x=some c->c≠b)/\∀p∈X.pn++aa,p.1≠b):Inv X aa σ H' s':=by
 obtain⟨h',g',d',t',o'⟩:=s'
 have e:o'=s.os:=ho
 subst e;exact I.call (g':=g') (t':=t') (d':=d') u aH hg yb
end
abbrev XK:=Value->Option Addr->Hp->Prop
abbrev St:=List (Option V)
abbrev VK:=V->Hp->Prop
abbrev TE:=St->Hp->VK->Prop
abbrev TT:=St->Hp->(Bool->Hp->Prop)->Prop
abbrev TA:=St->Hp->(List V->Hp->Prop)->Prop
structure Ends where
 nx:St->Hp->Prop
 rt:VK
 bk:St->Hp->Prop:=λ_ _=>False
 ct:St->Hp->Prop:=λ_ _=>False
abbrev TS:=Ends->St->Hp->Prop
def EP(X:Cx)(aa:List (Addr×Obj))(σ:St)(Q:VK)(u:Value)(s':Shared):Prop:=∃v H',Inv X aa σ H' s'/\RelV v u/\Q v H'
def TP(X:Cx)(aa:List (Addr×Obj))(σ:St)(Q:Bool->Hp->Prop)(b:Bool)(s':Shared):Prop:=∃H',Inv X aa σ H' s'/\Q b H'
def AP(X:Cx)(aa:List (Addr×Obj))(σ:St)(Q:List V->Hp->Prop)(us:List Value)(s':Shared):Prop:=∃vs H',Inv X aa σ H' s'/\Vals vs us/\Q vs H'
def SP(X:Cx)(aa:List (Addr×Obj))(D:Ends)(f:Flow)(s':Shared):Prop:=
 match f with
 |.next=>∃σ' H',Inv X aa σ' H' s'/\D.nx σ' H'
 |.brk=>∃σ' H',Inv X aa σ' H' s'/\D.bk σ' H'
 |.cont=>∃σ' H',Inv X aa σ' H' s'/\D.ct σ' H'
 |.ret u=>∃v σ' H',Inv X aa σ' H' s'/\RelV v u/\D.rt v H'
def PE(X:Cx)(e:Expr)(t:TE):Prop:=
 ∀(aa:List (Addr×Obj)) (s:Shared) (σ:St) (H:Hp) (Q:VK),Inv X aa σ H s->t σ H Q->wpAny (model X.prog X.w) X.A (eval e X.env) (EP X aa σ Q) X.xe s
def PT(X:Cx)(e:Expr)(t:TT):Prop:=
 ∀(aa:List (Addr×Obj)) (s:Shared) (σ:St) (H:Hp) (Q:Bool->Hp->Prop),Inv X aa σ H s->t σ H Q->wpAny (model X.prog X.w) X.A (isTrue e X.env (eval e X.env)) (TP X aa σ Q) X.xe s
def PW(X:Cx)(e:Expr)(t:TT):Prop:=
 ∀(whole:Sem Value) (aa:List (Addr×Obj)) (s:Shared) (σ:St) (H:Hp) (Q:Bool->Hp->Prop),Inv X aa σ H s->t σ H Q->wpAny (model X.prog X.w) X.A (isTrue e X.env whole) (TP X aa σ Q) X.xe s
def PW.pt{X:Cx}{e:Expr}{t:TT}(h:PW X e t):PT X e t:=h _
def PA(X:Cx)(es:List Expr)(t:TA):Prop:=
 ∀(pos:Pos) (aa:List (Addr×Obj)) (s:Shared) (σ:St) (H:Hp) (Q:List V->Hp->Prop),Inv X aa σ H s->t σ H Q->wpAny (model X.prog X.w) X.A (spliced (backTo pos (starEach es X.env))) (AP X aa σ Q) X.xe s
def PS(X:Cx)(st:Stmt)(t:TS):Prop:=
 ∀(aa:List (Addr×Obj)) (s:Shared) (σ:St) (H:Hp) (D:Ends),Inv X aa σ H s->t D σ H->wpAny (model X.prog X.w) X.A (exec st X.env) (SP X aa D) X.xe s
def qy(X:Cx)(st:List Stmt)(t:TS):Prop:=
 ∀(aa:List (Addr×Obj)) (s:Shared) (σ:St) (H:Hp) (D:Ends),Inv X aa σ H s->t D σ H->wpAny (model X.prog X.w) X.A (execs st X.env) (SP X aa D) X.xe s
def bq{α:Type}{t:Sem α}{Q Q':α->Shared->Prop}{M:Model}{A:Around}{E:Value->Shared->Prop}{s:Shared}(h:wpAny M A t Q E s)(hQ:∀a s,Q a s->Q' a s):wpAny M A t Q' E s:=wpAny_mono h hQ λ_ _ x=>x
section
variable{X:Cx}
def bin{a b:Expr}{ta tb:TE}(ha:PE X a ta)(hb:PE X b tb){aa:List (Addr×Obj)}{s:Shared}{σ:St}{H:Hp}{R:V->V->Hp->Prop}(I:Inv X aa σ H s)(h:ta σ H λx H1=>tb σ H1 λy H2=>R x y H2)
 {α:Type} {Q:α->Shared->Prop} {f:Value->Value->Sem α}
 (hf:∀v u s2 x y H2,Inv X aa σ H2 s2->RelV x v->RelV y u->R x y H2->wpAny (model X.prog X.w) X.A (f v u) Q X.xe s2):
 wpAny (model X.prog X.w) X.A (eval a X.env) (λv s₁=>wpAny (model X.prog X.w) X.A (eval b X.env) (λu s₂=>wpAny (model X.prog X.w) X.A (f v u) Q X.xe s₂) X.xe s₁) X.xe s:=by
 refine bq (ha aa s σ H _ I h) λv s1 ⟨x,H1,I1,r1,q1⟩=>?_
 refine bq (hb aa s1 σ H1 _ I1 q1) λu s2 ⟨y,H2,I2,r2,q2⟩=>?_
 exact hf v u s2 x y H2 I2 r1 r2 q2
def ue(i:Nat):TE:=λσ H Q=>∃v,σ[i]?=some (some v)/\Q v H
def tC(v:V):TE:=λ_ H Q=>Q v H
def dS{i:Nat}{x:Str}{pos:Pos}(hN:X.N[i]?=some x)(hv:OZ X.env.scope x)(hd:(x==("__debug__":Str))=false:=by decide)(mS:(x==("__classdict__":Str))=false:=by decide):PE X (.Name x pos) (ue i):=by
 intro aa s σ H Q I h;obtain⟨v,e,h⟩:=h
 obtain⟨m,hn,hl⟩:=I.loc
 obtain⟨u,r,l⟩:=hl i x v hN e hv
 have fin:EP X aa σ Q u s:=⟨v,H,I,r,h⟩
 rcases l with⟨hk,hm⟩|⟨hk,c,hc,dg⟩
 ·exact wpAny_Name (wpAny_loadName_local I.ok.kind hk hn hm fin) hd
 ·rcases hk with hk|hk
  ·exact wpAny_Name (wpAny_loadName_cell I.ok.kind hk hc dg fin) hd
  ·exact wpAny_Name (wpAny_loadName_free I.ok.kind hk hc dg fin mS) hd
def mw{i j pos}:PE X (.Constant (.int i) j pos) (tC (.int i)):=λ_ _ _ H _ I h=>wpAny_Constant_int ⟨.int i,H,I.tok _,⟨_,rfl⟩,h⟩
def QK{b j pos}:PE X (.Constant (.bool b) j pos) (tC (.bl b)):=λ_ _ _ H _ I h=>Constant_bool ⟨.bl b,H,I,rfl,h⟩
def yg{j pos}:PE X (.Constant .none j pos) (tC .aK):=λ_ _ _ H _ I h=>Constant_none ⟨.aK,H,I,rfl,h⟩
def BQ{x j pos}:PE X (.Constant (.str x) j pos) (tC (.str x)):=λ_ _ _ H _ I h=>Calls.Constant_str ⟨.str x,H,I.tok _,⟨_,rfl⟩,h⟩
def Gl(X:Cx)(x:Str):Prop:=X.env.kindOf x=some .globalImplicit
def dZ{E:Value->Shared->Prop}{aa:List (Addr×Obj)}{s:Shared}{σ:St}{H:Hp}{x:Str}{u:Value}{pos:Pos}{Q:Value->Shared->Prop}(I:Inv X aa σ H s)(hg:Gl X x)(hm:X.mg x=some u)(h:Q u s)
 (hd:(x==("__debug__":Str))=false:=by decide):wpAny (model X.prog X.w) X.A (eval (.Name x pos) X.env) Q E s:=
 Calls.Name_function_global I.ok.kind hg (Calls.loadGlobal_global (by rw [I.ok.glob];exact I.mod.glob.keeps I.bk) hm h) hd
def dq{E:Value->Shared->Prop}{aa:List (Addr×Obj)}{s:Shared}{σ:St}{H:Hp}{x:Str}{u:Value}{pos:Pos}{Q:Value->Shared->Prop}(I:Inv X aa σ H s)(hg:Gl X x)(hm:X.mg x=none)(hv:bootBuiltins x=some u)(h:Q u s)
 (hn:x≠"__name__":=by decide) (hd:(x==("__debug__":Str))=false:=by decide):wpAny (model X.prog X.w) X.A (eval (.Name x pos) X.env) Q E s:=by
 obtain⟨mb,h1,h2⟩:=I.mod.blt
 exact Calls.Name_function_global I.ok.kind hg (Calls.loadGlobal_builtin (by rw [I.ok.glob];exact I.mod.glob.keeps I.bk) hm (by rw [I.ok.blt];exact h1.keeps I.bk) ((h2 x hn).trans hv) h) hd
def ve{x:Str}{v:V}{u:Value}{pos:Pos}(hg:Gl X x)(hm:X.mg x=some u)(r:RelV v u)(hd:(x==("__debug__":Str))=false:=by decide):PE X (.Name x pos) (tC v):=
 λ_ _ _ H _ I h=>dZ I hg hm ⟨v,H,I,r,h⟩ hd
def vK{x:Str}{v:V}{u:Value}{pos:Pos}(hg:Gl X x)(hm:X.mg x=none)(hv:bootBuiltins x=some u)(r:RelV v u)(hn:x≠"__name__":=by decide)(hd:(x==("__debug__":Str))=false:=by decide):PE X (.Name x pos) (tC v):=
 λ_ _ _ H _ I h=>dq I hg hm hv ⟨v,H,I,r,h⟩ hn hd
variable{a b:Expr}{ta tb:TE}{pos:Pos}
def tB(t:TE):TT:=λσ H Q=>t σ H λx H1=>∃c,x=.bl c/\Q c H1
def J5{e:Expr}{t:TE}(h:PE X e t)(he:∀whole,isTrue e X.env whole=(do let v<-whole;standAt e.pos;holding [v] (truthy v)):=by intro _;rfl):PT X e (tB t):=by
 intro aa s σ H Q I hw;refine isTrue_plain (bq (h aa s σ H _ I hw) λv s1 ⟨x,H1,I1,r1,q1⟩=>?_) (he _)
 obtain⟨d,rfl,q⟩:=q1
 cases r1;exact wpAny_truthy_bool ⟨H1,I1,q⟩
variable{tA RB:TT}{rest:List Expr}
def SA(t u:TT):TT:=λσ H Q=>t σ H λc H1=>if c=true then u σ H1 Q else Q false H1
def Yb(t u:TT):TT:=λσ H Q=>t σ H λc H1=>if c=true then Q true H1 else u σ H1 Q
def Sy(t:TT):TT:=λσ H Q=>t σ H λc H1=>Q (!c) H1
def pw_and1(ha:PT X a tA):PW X (.BoolOp .And [a] pos) tA:=by
 intro wh aa s σ H Q I h;refine isTrue_and (bq (ha aa s σ H Q I h) λc s1 e=>?_)
 cases c with
 |true=>exact isTrue_and_nil e
 |false=>exact e
def pw_or1(ha:PT X a tA):PW X (.BoolOp .Or [a] pos) tA:=by
 intro wh aa s σ H Q I h;refine isTrue_or (bq (ha aa s σ H Q I h) λc s1 e=>?_)
 cases c with
 |false=>exact isTrue_or_nil e
 |true=>exact e
def pw_and(ha:PT X a tA)(hb:PW X (.BoolOp .And (b::rest) pos) RB):PW X (.BoolOp .And (a::b::rest) pos) (SA tA RB):=by
 intro wh aa s σ H Q I h;refine isTrue_and (bq (ha aa s σ H _ I h) λc s1 ⟨H1,I1,q1⟩=>?_)
 cases c with
 |true=>exact hb wh aa s1 σ H1 Q I1 q1
 |false=>exact⟨H1,I1,q1⟩
def pw_or(ha:PT X a tA)(hb:PW X (.BoolOp .Or (b::rest) pos) RB):PW X (.BoolOp .Or (a::b::rest) pos) (Yb tA RB):=by
 intro wh aa s σ H Q I h;refine isTrue_or (bq (ha aa s σ H _ I h) λc s1 ⟨H1,I1,q1⟩=>?_)
 cases c with
 |true=>exact⟨H1,I1,q1⟩
 |false=>exact hb wh aa s1 σ H1 Q I1 q1
def N9(ha:PT X a tA):PT X (.UnaryOp .Not a pos) (Sy tA):=by
 intro aa s σ H Q I h;exact isTrue_not (ha aa s σ H (λc H1=>Q (!c) H1) I h)
def Qt(ta tb:TE):TE:=λσ H Q=>ta σ H λx H1=>∃c,x=.bl c/\if c=true then tb σ H1 Q else Q (.bl false) H1
def Ub(ta tb:TE):TE:=λσ H Q=>ta σ H λx H1=>∃c,x=.bl c/\if c=true then Q (.bl true) H1 else tb σ H1 Q
def QE(ta:TE):TE:=λσ H Q=>ta σ H λx H1=>∃c,x=.bl c/\Q (.bl (!c)) H1
def zx{op}{t:TE}(h:PE X a t):PE X (.BoolOp op [a] pos) t:=λaa s σ H Q I hw=>BoolOp_one (h aa s σ H Q I hw)
def MD(ha:PE X a ta)(hb:PE X (.BoolOp .And (b::rest) pos) tb):PE X (.BoolOp .And (a::b::rest) pos) (Qt ta tb):=by
 intro aa s σ H Q I h;refine BoolOp_and (bq (ha aa s σ H _ I h) λv s1 ⟨x,H1,I1,r1,q1⟩=>?_)
 obtain⟨c,rfl,q1⟩:=q1
 cases r1;refine wpAny_truthy_bool ?_;cases c with
 |true=>exact hb aa s1 σ H1 Q I1 q1
 |false=>exact⟨.bl false,H1,I1,rfl,q1⟩
def PY(ha:PE X a ta)(hb:PE X (.BoolOp .Or (b::rest) pos) tb):PE X (.BoolOp .Or (a::b::rest) pos) (Ub ta tb):=by
 intro aa s σ H Q I h;refine BoolOp_or (bq (ha aa s σ H _ I h) λv s1 ⟨x,H1,I1,r1,q1⟩=>?_)
 obtain⟨c,rfl,q1⟩:=q1
 cases r1;refine wpAny_truthy_bool ?_;cases c with
 |false=>exact hb aa s1 σ H1 Q I1 q1
 |true=>exact⟨.bl true,H1,I1,rfl,q1⟩
def Mf(ha:PE X a ta):PE X (.UnaryOp .Not a pos) (QE ta):=by
 intro aa s σ H Q I h;refine UnaryOp_ (bq (ha aa s σ H _ I h) λv s1 ⟨x,H1,I1,r1,q1⟩=>?_)
 obtain⟨c,rfl,q1⟩:=q1
 cases r1;exact not_of (wpAny_truthy_bool ⟨.bl (!c),H1,I1,rfl,q1⟩)
def XI(t:TT)(ta tb:TE):TE:=λσ H Q=>t σ H λc H1=>if c=true then ta σ H1 Q else tb σ H1 Q
def zu{c:Expr}(hc:PT X c tA)(ha:PE X a ta)(hb:PE X b tb):PE X (.IfExp c a b pos) (XI tA ta tb):=by
 intro aa s σ H Q I h;refine wpAny_IfExp (bq (hc aa s σ H _ I h) λd s1 ⟨H1,I1,q1⟩=>?_)
 cases d with
 |true=>exact ha aa s1 σ H1 Q I1 q1
 |false=>exact hb aa s1 σ H1 Q I1 q1
end
def df(K:zz8)(H:Hp)(a:Addr)(xs:List V):Prop:=
 Rd H a (.lst xs)\/
  ∃(o:Obj) (ak:Array Value) (n:Nat),K.lookup a=some o/\o.cls=.type "list"/\o.dict=none/\o.data=.seq ak n/\ak.size<=sizeLine/\Vals xs ak.toList
def dI(K:zz8)(H:Hp)(a:Addr)(xs:List V):Prop:=
 Rd H a (.tup xs)\/
  ∃(o:Obj) (ak:Array Value) (n:Nat),K.lookup a=some o/\o.cls=.type "tuple"/\o.data=.seq ak n/\ak.size<=sizeLine/\Vals xs ak.toList
noncomputable def TY:Value->Option V
 |.none=>some .aK
 |.bool b=>some (.bl b)
 |.int i _=>some (.int i)
 |.str x _=>some (.str x)
 |.bytes b _=>some (.Uc b)
 |.float b _=>some (.TB b)
 |.ref a=>some (.ref a)
 |.type n=>some (.ty n)
 |_=>none
def RelV.abs{x:V}{u:Value}(r:RelV x u):TY u=some x:=by
 cases x with
 |aK=>cases r;rfl
 |bl _=>cases r;rfl
 |int _=>obtain⟨t,rfl⟩:=r;rfl
 |str _=>obtain⟨t,rfl⟩:=r;rfl
 |Uc _=>obtain⟨t,rfl⟩:=r;rfl
 |TB _=>obtain⟨t,rfl⟩:=r;rfl
 |ref _=>cases r;rfl
 |ty _=>cases r;rfl
def RelV.inj{x y:V}{u:Value}(r:RelV x u)(q:RelV y u):x=y:=zzq (r.abs.symm.trans q.abs)
theorem Vals.inj:∀{xs ys:List V} {us:List Value},Vals xs us->Vals ys us->xs=ys
 |_,_,_,.nil,.nil=>rfl
 |_,_,_,.cons r t,.cons r' t'=>by rw [r.inj r',Vals.inj t t']
section
variable{X:Cx}{aa:List (Addr×Obj)}{σ:St}{H:Hp}{s:Shared}{a:Addr}{xs ys:List V}
def df.of{K:zz8}(h:H a=some (.lst xs)):df K H a xs:=.inl (.inl h)
def Inv.list(I:Inv X aa σ H s)(h:df X.K H a xs):∃ak:List Value,Vals xs ak/\PlainL s.heap a ak.toArray/\xs.length<=sizeLine:=by
 rcases h with h|⟨o,ak,n,hk,hc,hd,hs,hz,r⟩
 ·obtain⟨z,ak,n,r,e⟩:=h.ok I.aH
  exact⟨ak,r,⟨_,n,e,rfl,rfl,rfl⟩,z⟩
 ·refine⟨ak.toList,r,⟨o,n,I.nq a o hk,hc,hd,by simpa using hs⟩,?_⟩;have e:=r.length
  simp! [zzd] at e;omega
def Inv.tuple(I:Inv X aa σ H s)(h:dI X.K H a xs):∃ak:List Value,Vals xs ak/\IsTup s.heap a ak.toArray/\xs.length<=sizeLine:=by
 rcases h with h|⟨o,ak,n,hk,hc,hs,hz,r⟩
 ·obtain⟨z,ak,r,p⟩:=h.ok I.aH
  exact⟨ak,r,p,z⟩
 ·refine⟨ak.toList,r,⟨o,I.nq a o hk,hc,n,by simpa using hs⟩,?_⟩;have e:=r.length
  simp! [zzd] at e;omega
def Inv.rN(I:Inv X aa σ H s)(h:df X.K H a xs)(h':df X.K H a ys):xs=ys:=by
 obtain⟨ak,r,⟨o,n,e,_,_,d⟩,_⟩:=I.list h
 obtain⟨its',r',⟨o',n',e',_,_,d'⟩,_⟩:=I.list h'
 rw [e] at e';cases e';rw [d] at d'
 injection d' with d1 _
 have:ak=its':=by simpa using congrArg Array.toList d1
 subst this;exact r.inj r'
def Inv.oK(I:Inv X aa σ H s)(h:dI X.K H a xs)(h':dI X.K H a ys):xs=ys:=by
 obtain⟨ak,r,⟨o,e,_,n,d⟩,_⟩:=I.tuple h
 obtain⟨its',r',⟨o',e',_,n',d'⟩,_⟩:=I.tuple h'
 rw [e] at e';cases e';rw [d] at d'
 injection d' with d1 _
 have:ak=its':=by simpa using congrArg Array.toList d1
 subst this;exact r.inj r'
variable{st:Stmt}{rest:List Stmt}{t u:TS}{e:Expr}{te:TE}{pos:Pos}
def QM:TS:=λD σ H=>D.nx σ H
def UA(t u:TS):TS:=λD σ H=>t {D with nx:=u D} σ H
def vG:qy X [] QM:=λ_ _ σ H _ I h=>wpAny_execs_nil ⟨σ,H,I,h⟩
def BL(h1:PS X st t)(h2:qy X rest u):qy X (st::rest) (UA t u):=by
 intro aa s σ H D I h;refine wpAny_execs_cons (bq (h1 aa s σ H {D with nx:=u D} I h) λf s1 q=>?_)
 cases f with
 |next=>
  obtain⟨σ',H',I',q⟩:=q
  exact h2 aa s1 σ' H' D I' q
 |ret v=>exact q
 |brk=>exact q
 |cont=>exact q
def uV(h1:PS X st t):qy X [st] t:=by
 intro aa s σ H D I h;refine wpAny_execs_cons (bq (h1 aa s σ H D I h) λf s1 q=>?_)
 cases f with
 |next=>exact wpAny_execs_nil q
 |ret v=>exact q
 |brk=>exact q
 |cont=>exact q
def Inv.quiet{aa:List (Addr×Obj)}{σ:St}{H:Hp}{s:Shared}(I:Inv X aa σ H s):interactive X.env=false:=by simp [interactive,I.ok.kind]
def Rm(te:TE):TS:=λD σ H=>te σ H λ_ H1=>D.nx σ H1
theorem kA(he:PE X e te)(hs:swapsWith e none pos.line X.env=pure false:=by rfl):PS X (.Expr e pos) (Rm te):=by
 intro aa s σ H D I h;exact wpAny_Expr_any (bq (he aa s σ H _ I h) λv s1 ⟨x,H1,I1,r1,q1⟩=>⟨σ,H1,I1,q1⟩) I.quiet hs
def UN(te:TE):TS:=λD σ H=>te σ H D.rt
def Bd(he:PE X e te):PS X (.Return (some e) pos) (UN te):=by
 intro aa s σ H D I h;exact wpAny_Return_some (bq (he aa s σ H _ I h) λv s1 ⟨x,H1,I1,r1,q1⟩=>⟨x,σ,H1,I1,r1,q1⟩)
def UL(c:TT)(t u:TS):TS:=λD σ H=>c σ H λb H1=>if b=true then t D σ H1 else u D σ H1
def Fx{c:Expr}{a b:List Stmt}{tc:TT}(hc:PT X c tc)(ha:qy X a t)(hb:qy X b u):PS X (.If c a b pos) (UL tc t u):=by
 intro aa s σ H D I h;refine wpAny_If (bq (hc aa s σ H _ I h) λd s1 ⟨H1,I1,q1⟩=>?_)
 cases d with
 |true=>exact ha aa s1 σ H1 D I1 q1
 |false=>exact hb aa s1 σ H1 D I1 q1
end
abbrev TG:=V->St->Hp->(St->Hp->Prop)->Prop
abbrev FW:=List V->St->Hp->(St->Hp->Prop)->Prop
def PG(X:Cx)(target:Expr)(t:TG):Prop:=
 ∀(aa:List (Addr×Obj)) (s:Shared) (σ:St) (H:Hp) (v:V) (u:Value) (Q:St->Hp->Prop),Inv X aa σ H s->RelV v u->t v σ H Q->
  wpAny (model X.prog X.w) X.A (assign target X.env u) (λ_ s'=>∃σ' H',Inv X aa σ' H' s'/\Q σ' H') X.xe s
def Rr(X:Cx)(ts:List Expr)(t:FW):Prop:=
 ∀(aa:List (Addr×Obj)) (s:Shared) (σ:St) (H:Hp) (vs:List V) (us:List Value) (Q:St->Hp->Prop),Inv X aa σ H s->Vals vs us->t vs σ H Q->
  wpAny (model X.prog X.w) X.A (assignInOrder ((assignEach ts X.env).map (·.2)) us) (λ_ s'=>∃σ' H',Inv X aa σ' H' s'/\Q σ' H') X.xe s
abbrev JN:=V->V->V->Hp->(Hp->Prop)->Prop
def Oc(X:Cx)(t:JN):Prop:=
 ∀(aa:List (Addr×Obj)) (s:Shared) (σ:St) (H:Hp) (o i v:V) (ov iv u:Value) (Q:Hp->Prop),Inv X aa σ H s->RelV o ov->RelV i iv->RelV v u->t o i v H Q->
  wpAny (model X.prog X.w) X.A (setItem ov iv u) (λ_ s'=>∃H',Inv X aa σ H' s'/\Q H') X.xe s
abbrev RD:=V->V->Hp->VK->Prop
def Vy(X:Cx)(op:Operator)(t:RD):Prop:=
 ∀(aa:List (Addr×Obj)) (s:Shared) (σ:St) (H:Hp) (x y:V) (v u:Value) (Q:VK),Inv X aa σ H s->RelV x v->RelV y u->t x y H Q->
  wpAny (model X.prog X.w) X.A (inplaceOp op v u) (EP X aa σ Q) X.xe s
section
variable{X:Cx}{pos:Pos}
def cH(i:Nat):TG:=λv σ H Q=>Q (σ.set i (some v)) H
def Ds{i:Nat}{x:Str}(hN:X.N.Nodup)(hi:X.N[i]?=some x)(hx:Loc X.env.scope x)(hf:X.fn x=true\/X.env.scope.names.lookup x=some .local:=by first|exact .inl rfl|exact .inr rfl|assumption):PG X (.Name x pos) (cH i):=by
 intro aa s σ H v u Q I r h;exact wpAny_assign_Name (eK I hN hi hx r (λs' I'=>⟨_,H,I',h⟩) hf)
def Ax:FW:=λvs σ H Q=>vs=[]/\Q σ H
def fR(t:TG)(u:FW):FW:=λvs σ H Q=>∃v r,vs=v::r/\t v σ H λσ' H'=>u r σ' H' Q
def vb:Rr X [] Ax:=by
 intro aa s σ H vs us Q I r h;obtain⟨e,h⟩:=h
 subst e;cases r;exact assignInOrder_nil ⟨σ,H,I,h⟩
theorem me{e:Expr}{es:List Expr}{t:TG}{u:FW}(h1:PG X e t)(h2:Rr X es u)
 (hs:(assignEach (e::es) X.env).map (·.2)=assign e X.env::(assignEach es X.env).map (·.2):=by rfl):Rr X (e::es) (fR t u):=by
 intro aa s σ H vs us Q I r h;obtain⟨v,vr,e1,h⟩:=h
 subst e1;cases r with
 |cons r rr=>
  rw [hs];refine assignInOrder_cons (bq (h1 aa s σ H _ _ _ I r h) λ_ s1 ⟨σ1,H1,I1,q1⟩=>?_)
  exact h2 aa s1 σ1 H1 _ _ Q I1 rr q1
noncomputable def CK(K:zz8)(n:Nat)(t:FW):TG:=λv σ H Q=>∃a xs,v=.ref a/\dI K H a xs/\xs.length=n/\t xs σ H Q
theorem oP{es:List Expr}{k:Nat}{t:FW}{n:Nat}(hc:X.calm=true)(h:Rr X es t)
 (hn:(assignEach es X.env).length=n:=by rfl) (cL:(assignEach es X.env).findIdx? (·.1)=none:=by rfl):PG X (.Tuple es k pos) (CK X.K n t):=by
 intro aa s σ H v u Q I r hw;obtain⟨a,xs,e1,hq,hl,hw⟩:=hw
 subst e1;cases r;obtain⟨ak,rv,ht,hz⟩:=I.tuple hq
 refine assign_Tuple_tuple (I.ok.hd hc) ht (by simp [hn,<-hl,rv.length]) cL λh' hx=>?_
 have I1:Inv X aa σ H {s with heap:=h'}:=I.kept (t':=s.toks) λb o e=>hx b o (zzb (zzO e)) e
 exact h aa _ σ H xs _ Q I1 (by simpa using rv) hw
def S6(to ti:TE)(t:JN):TG:=λv σ H Q=>to σ H λo H1=>ti σ H1 λi H2=>t o i v H2 λH3=>Q σ H3
def ql{o i:Expr}{to ti:TE}{t:JN}(ho:PE X o to)(hi:PE X i ti)(hs:Oc X t)
 (ha:∀v,assign (.Subscript o i pos) X.env v=(do
  let ov<-holding [v] (eval o X.env)
  let iv<-holding [v,ov] (eval i X.env)
  standAt pos
  holding [v,ov,iv] (setItem ov iv v)
  release [v,ov,iv] []):=by intro _;rfl):PG X (.Subscript o i pos) (S6 to ti t):=by
 intro aa s σ H v u Q I r h;rw [ha];refine zzA (wpAny_holding (bq (ho aa s σ H _ I h) λov s1 ⟨x,H1,I1,r1,q1⟩=>?_))
 refine zzA (wpAny_holding (bq (hi aa s1 σ H1 _ I1 q1) λiv s2 ⟨y,H2,I2,r2,q2⟩=>?_))
 refine zzA (wpAny_standAt (zzA (wpAny_holding (bq (hs aa s2 σ H2 x y v ov iv u _ I2 r1 r2 r q2) λ_ s3 ⟨H3,I3,q3⟩=>?_))))
 exact wpAny_release ⟨σ,H3,I3,q3⟩
def BI(te:TE)(g:TG):TS:=λD σ H=>te σ H λx H1=>g x σ H1 D.nx
theorem pS{tg e:Expr}{te:TE}{g:TG}(he:PE X e te)(hg:PG X tg g)(hs:swapsWithSole [tg] e pos.line X.env=pure false:=by rfl)(hw:swappedStores [tg] e X.env=pure none:=by rfl)
 (h1:(assignEach [tg] X.env).map (·.2)=[assign tg X.env]:=by rfl):PS X (.Assign [tg] e pos) (BI te g):=by
 intro aa s σ H D I h;refine wpAny_Assign_stores (bq (he aa s σ H _ I h) λv s1 ⟨x,H1,I1,r1,q1⟩=>?_) hs hw
 rw [h1];exact bq (hg aa s1 σ H1 x v _ I1 r1 q1) λ_ s2 q=>q
theorem ik{i:Nat}{x:Str}{e:Expr}{te:TE}{pos':Pos}(hN:X.N.Nodup)(hi:X.N[i]?=some x)(hx:Loc X.env.scope x)(he:PE X e te)(hs:swapsWith e (some (.Name x pos')) pos.line X.env=pure false:=by rfl)(hf:X.fn x=true\/X.env.scope.names.lookup x=some .local:=by first|exact .inl rfl|exact .inr rfl|assumption):
 PS X (.Assign [.Name x pos'] e pos) (BI te (cH i)):=by
 intro aa s σ H D I h;refine wpAny_Assign_Name (bq (he aa s σ H _ I h) λv s1 ⟨y,H1,I1,r1,q1⟩=>?_) hs
 exact eK I1 hN hi hx r1 (λs2 I2=>⟨_,H1,I2,q1⟩) hf
def Sg(i j:Nat)(ta:TA):TS:=λD σ H=>ta σ H λvs H1=>∃v w,vs=[v,w]/\D.nx ((σ.set i (some v)).set j (some w)) H1
theorem zE{i j:Nat}{x y:Str}{a b:Expr}{ta:TA}{px py pt:Pos}{kt k2 I0}(hc:X.calm=true)(hN:X.N.Nodup)(hi:X.N[i]?=some x)(hj:X.N[j]?=some y)(xY:i≠j)
 (hx:X.env.scope.names.lookup x=some .local) (hy:X.env.scope.names.lookup y=some .local) (ha:PA X [a,b] ta)
 (hw:swappedStores [.Tuple [.Name x px,.Name y py] kt pt] (.Tuple [a,b] k2 I0) X.env=pure (some [x,y]))
 (hs:swapsWithSole [.Tuple [.Name x px,.Name y py] kt pt] (.Tuple [a,b] k2 I0) pos.line X.env=pure false:=by rfl):
 PS X (.Assign [.Tuple [.Name x px,.Name y py] kt pt] (.Tuple [a,b] k2 I0) pos) (Sg i j ta):=by
 intro aa s σ H D I h;rw [exec_Assign_arm];refine zzA (wpAny_standAt ?_);rw [hs];refine zzA (zzG ?_);rw [if_neg (by decide)];refine zzA (Tuple_ (bq (ha _ aa s σ H _ I h) λus s1 ⟨vs,H1,I1,r1,q1⟩=>?_))
 obtain⟨v,w,e1,q1⟩:=q1
 subst e1;obtain⟨u1,u2,rfl,rv,d5⟩:∃u1 u2,us=[u1,u2]/\RelV v u1/\RelV w u2:=by
  cases r1 with
  |cons p q=>
   cases q with
   |cons p' q'=>
    cases q';exact⟨_,_,rfl,p,p'⟩
 refine wpAny_newObj_type ?_ (by show 2<=sizeLine;decide);have I2:Inv X aa σ H1 {s1 with heap:=s1.heap.push {cls:=.type "tuple",data:=.seq [u1,u2].toArray}}:=I1.kept (t':=s1.toks) λb o e=>zzB _ e
 rw [hw];refine zzA (zzG ?_);show wpAny (model X.prog X.w) X.A (do rule "assign.swapped-stores";let items<-unpackItems (.ref (zz9 s1)) 2 none;assignInOrder [λv=>bindName X.env y v,λv=>bindName X.env x v] items.reverse;pure Flow.next) _ _ _
 refine zzA (wpAny_rule (zzA (unpackItems_tuple (items:=#[u1,u2]) (I.ok.hd hc) (IsTup.new s1.heap _) λh' x9=>?_)))
 have I3:=I2.kept (h':=h') (t':=s1.toks) λb o e=>x9 b o (zzb (zzO e)) e
 show wpAny _ _ (assignInOrder [λv=>bindName X.env y v,λv=>bindName X.env x v] [u2,u1]>>=λ_=>pure Flow.next) _ _ _
 refine zzA (assignInOrder_cons (wpAny_bindName (eK I3 hN hj (.inl hy) d5 (λs2 I4=>?_) (.inr hy))));refine assignInOrder_cons (wpAny_bindName (eK I4 hN hi (.inl hx) rv (λs3 I5=>assignInOrder_nil (zzG ?_)) (.inr hx)))
 rw [List.set_comm _ _ (Ne.symm xY)] at I5;exact⟨_,H1,I5,q1⟩
def UC(i:Nat)(te:TE)(ti:RD):TS:=λD σ H=>∃x,σ[i]?=some (some x)/\te σ H λy H1=>ti x y H1 λz H2=>D.nx (σ.set i (some z)) H2
def Gg{i:Nat}{x:Str}{e:Expr}{te:TE}{op:Operator}{ti:RD}{pos':Pos}(hN:X.N.Nodup)(hi:X.N[i]?=some x)(hx:Loc X.env.scope x)(he:PE X e te)(ho:Vy X op ti)(hf:X.fn x=true\/X.env.scope.names.lookup x=some .local:=by first|exact .inl rfl|exact .inr rfl|assumption):
 PS X (.AugAssign (.Name x pos') op e pos) (UC i te ti):=by
 intro aa s σ H D I h;obtain⟨v,e1,h⟩:=h
 obtain⟨m,hn,hl⟩:=I.loc
 have XN:OZ X.env.scope x:=by rcases hx with k|k;exact .inl k;exact .inr (.inl k)
 obtain⟨u,r,l⟩:=hl i x v hi e1 XN
 refine wpAny_AugAssign_Name ?_;have go:wpAny (model X.prog X.w) X.A (eval e X.env) (λw s₂=>wpAny (model X.prog X.w) X.A (inplaceOp op u w) (λr s₃=>wpAny (model X.prog X.w) X.A (storeName X.env x r) (λ_=>SP X aa D .next) X.xe s₃) X.xe s₂) X.xe s:=by
  refine bq (he aa s σ H _ I h) λw s1 ⟨y,H1,I1,r1,q1⟩=>?_
  refine bq (ho aa s1 σ H1 v y u w _ I1 r r1 q1) λz s2 ⟨zv,H2,I2,r2,q2⟩=>?_
  exact eK I2 hN hi hx r2 (λs3 I3=>⟨_,H2,I3,q2⟩) hf
 rcases l with⟨hk,hm⟩|⟨hk,c,hc,dg⟩
 ·exact wpAny_loadName_local I.ok.kind hk hn hm go
 ·rcases hk with hk|hk
  ·exact wpAny_loadName_cell I.ok.kind hk hc dg go
  ·rcases hx with k|k
   ·have:X.env.scope.names.lookup x=some .free:=hk
    rw [k] at this;cases this
   ·have:X.env.scope.names.lookup x=some .free:=hk
    rw [k] at this;cases this
def YF(f:Int->Int->Int):RD:=λx y H Q=>∃i j,x=.int i/\y=.int j/\Q (.int (f i j)) H
def Ks:Vy X .Add (YF λi j=>i+j):=by
 intro aa s σ H x y v u Q I r1 r2 h;obtain⟨i,j,e1,e2,q⟩:=h
 subst e1;subst e2;obtain⟨t,rfl⟩:=r1
 obtain⟨t',rfl⟩:=r2
 exact iadd_int ⟨.int _,H,I.tok _,⟨_,rfl⟩,q⟩
noncomputable def LS(c:TT)(tb:TS):TS:=λD σ H=>∃W:Nat->St->Hp->Prop,(∃m,W m σ H)/\∀m σ H,W m σ H->
 c σ H λb H1=>if b=true then∃N:St->Hp->Prop,(∀σ' H',N σ' H'->∃m',m'<m/\W m' σ' H')/\tb {D with nx:=N,ct:=N,bk:=D.nx} σ H1 else D.nx σ H1
def yS{c:Expr}{body:List Stmt}{tc:TT}{tb:TS}(hp:PassesOwn (model X.prog X.w) X.A X.env X.xe)(hc:PT X c tc)(hb:qy X body tb):PS X (.While c body [] pos) (LS tc tb):=by
 intro aa s σ H D I h;obtain⟨W,⟨m0,w0⟩,turn⟩:=h
 refine wpAny_While (codeAny_whileLoop (λn s'=>∃σ' H',Inv X aa σ' H' s'/\W n σ' H') ?_ m0 ⟨σ,H,I,w0⟩)
 rintro n s1 ⟨σ1,H1,I1,w1⟩
 refine wpAny_passesOwn hp (bq (hc aa s1 σ1 H1 _ I1 (turn n σ1 H1 w1)) λb s2 ⟨H2,I2,q2⟩=>?_)
 cases b with
 |true=>
  obtain⟨N,hN,q2⟩:=q2
  rw [if_pos rfl];refine wpAny_passesOwn hp (bq (hb aa s2 σ1 H2 _ I2 q2) λf s3 q3=>?_)
  cases f with
  |next=>
   obtain⟨σ3,H3,I3,n3⟩:=q3
   obtain⟨m',hm,w3⟩:=hN σ3 H3 n3
   exact⟨m',hm,σ3,H3,I3,w3⟩
  |cont=>
   obtain⟨σ3,H3,I3,n3⟩:=q3
   obtain⟨m',hm,w3⟩:=hN σ3 H3 n3
   exact⟨m',hm,σ3,H3,I3,w3⟩
  |brk=>exact q3
  |ret v=>exact q3
 |false=>
  rw [if_neg zzf];exact wpAny_execs_nil ⟨σ1,H2,I2,q2⟩
end
structure It where
 go:Nat->Hp->Prop
 JM:Nat->Hp->V->Hp->Prop
 stop:Nat->Hp->Prop
def dy(X:Cx)(aa:List (Addr×Obj))(H:Hp)(b:Addr):Prop:=
 H b=none/\b≠X.env.locals/\b∉X.fs/\(b∈X.ex\/X.s₀.heap.objs.size<=b)/\(∀x c,X.env.cells.lookup x=some c->c≠b)/\∀p∈X.pn++aa,p.1≠b
def Inv.je{X:Cx}{aa:List (Addr×Obj)}{σ:St}{H H':Hp}{s:Shared}{b:Addr}(I:Inv X aa σ H s)(hb:(zz9 s)<=b)(hn:H' b=none):dy X aa H' b:=by
 refine⟨hn,Nat.ne_of_gt (zzW I.lt hb),I.S7 hb,.inr (zzU I.sz hb),λx c e z=>?_,λp hp z=>?_⟩
 ·obtain⟨v,q⟩:=I.cell x c e
  exact absurd (zzW q.lt (by rw [z];exact hb)) (Nat.lt_irrefl _)
 ·exact absurd (zzW (zzO (I.pin p hp).1) (by rw [z];exact hb)) (Nat.lt_irrefl _)
structure Turn(P:Program)(w:World)(K:zz8)(tg:Expr)(J:It)(fp:List Addr)(it:Addr)(tn:Nat->Heap->Prop):Prop where
 mem:it∈fp
 obj:∀i h,tn i h->∀b∈fp,∃o,h.get? b=some o/\∀v,o.data≠.cell v
 keep:∀i h h',tn i h->(∀b∈fp,∀o,h.get? b=some o->h'.get? b=some o)->tn i h'
 item:∀(X:Cx),X.prog=P->X.w=w->X.K=K->X.calm=true->∀(i:Nat) (aa:List (Addr×Obj)) (s:Shared) (σ:St) (H:Hp) (E:Value->Shared->Prop),Inv X aa σ H s->(∀b∈fp,dy X aa H b)->tn i s.heap->J.go i H->
  wpAny (model P w) X.A (pyNext (.ref it)) (λr s1=>∃u,r=some u/\
   wpAny (model P w) X.A (letOwnedTupleGo tg (.ref it) u) (λ_ s2=>∃x H',Inv X aa σ H' s2/\RelV x u/\J.JM i H x H'/\tn (i+1) s2.heap/\∀b∈fp,H' b=none) E s1) E s
 done:∀(X:Cx),X.prog=P->X.w=w->X.K=K->X.calm=true->∀(i:Nat) (aa:List (Addr×Obj)) (s:Shared) (σ:St) (H:Hp) (E:Value->Shared->Prop),Inv X aa σ H s->(∀b∈fp,dy X aa H b)->tn i s.heap->J.stop i H->
  wpAny (model P w) X.A (pyNext (.ref it)) (λr s1=>r=none/\Inv X aa σ H s1) E s
 self:∀(A:Around) (i:Nat) (s:Shared) (Q:Value->Shared->Prop) (E:Value->Shared->Prop),tn i s.heap->Q (.ref it) s->wpAny (model P w) A (pyIter (.ref it)) Q E s
abbrev TI:=St->Hp->(It->Hp->Prop)->Prop
def Sr(X:Cx)(aa:List (Addr×Obj))(σ:St)(tg:Expr)(R:It->Hp->Prop)(RL:Value)(s2:Shared):Prop:=
 ∃(it:Addr) (fp:List Addr) (tn:Nat->Heap->Prop) (J:It) (H':Hp),RL=.ref it/\Inv X aa σ H' s2/\Turn X.prog X.w X.K tg J fp it tn/\tn 0 s2.heap/\(∀b∈fp,dy X aa H' b)/\R J H'
def PI(X:Cx)(tg iter:Expr)(wi:TI):Prop:=
 ∀(aa:List (Addr×Obj)) (s:Shared) (σ:St) (H:Hp) (R:It->Hp->Prop),Inv X aa σ H s->wi σ H R->
  wpAny (model X.prog X.w) X.A (eval iter X.env) (λv s1=>wpAny (model X.prog X.w) X.A (pyIter v) (Sr X aa σ tg R) X.xe s1) X.xe s
def oE{M:Model}{A:Around}{E:Value->Shared->Prop}{s:Shared}{tg:Expr}{it:Addr}{u:Value}{o:Obj}{n:String}{vs:Array Value}{Q:Unit->Shared->Prop}(ho:s.heap.get? it=some o)(hc:o.cls=.type n)(hd:o.data=.fields vs)
 (hn:["enumerate","zip","dict_itemiterator","dict_reverseitemiterator","odict_iterator","itertools.zip_longest","itertools.pairwise"].contains n=false) (hQ:Q () s):wpAny M A (letOwnedTupleGo tg (.ref it) u) Q E s:=by
 unfold letOwnedTupleGo;cases tg<;>first
  |exact zzG hQ
  |(cases u<;>first
   |exact zzG hQ
   | (refine zzA (wpAny_load ho ?_)
      rw [hc,hd];show wpAny M A (if(["enumerate","zip","dict_itemiterator","dict_reverseitemiterator","odict_iterator","itertools.zip_longest","itertools.pairwise"].contains n&&vs[0]?==some (rawInt _))=true then _ else _) Q E s;rw [if_neg (by intro h;rw [hn,Bool.false_and] at h;cases h)];exact zzG hQ))
noncomputable def Ti(K:zz8)(a:Addr):It:=
 ⟨λi H=>∃xs x,df K H a xs/\xs[i]?=some x,λi H x H'=>H'=H/\∀xs,df K H a xs->xs[i]?=some x,λi H=>∃xs,df K H a xs/\xs.length<=i⟩
noncomputable def SS(K:zz8)(a:Addr):It:=
 ⟨λi H=>∃xs x,dI K H a xs/\xs[i]?=some x,λi H x H'=>H'=H/\∀xs,dI K H a xs->xs[i]?=some x,λi H=>∃xs,dI K H a xs/\xs.length<=i⟩
def Q6(lo:Int)(n:Nat):It:=⟨λi _=>i<n,λi H x H'=>H'=H/\x=.int (lo+i),λi _=>n<=i⟩
def xU{P:Program}{w:World}{K:zz8}{tg:Expr}(a it:Addr):Turn P w K tg (Ti K a) [it] it (λi h=>h.IsListIter it a i) where
 mem:=by simp
 obj:=λi h st b hb=>by
  have e:b=it:=by simpa using hb
  subst e;obtain⟨o,e,c,d⟩:=st
  exact⟨o,e,λv z=>by rw [d] at z;cases z⟩
 keep:=λi h h' st k=>st.at λo e=>k it (by simp) o e
 item:=by
  intro X hP hw hK hc i aa s σ H E I hf st hg;subst hP hw hK;obtain⟨xs,x,hq,hx⟩:=hg
  obtain⟨ak,rv,p,hz⟩:=I.list hq
  obtain⟨u,hu,ru⟩:=rv.get hx
  obtain⟨f0,f1,f2,f3,f4,f5⟩:=hf it (by simp)
  refine wpAny_pyNext_list_item st p.isList (x:=u) (by simpa using hu) λh' dY sb=>?_
  have I1:Inv X aa σ H {s with heap:=h'}:=I.turned (t':=s.toks) (λb o hb e=>(sb.2 b hb).trans e) f0 f1 f3 f4 f5
  obtain⟨o,e,c,d⟩:=id dY
  exact⟨u,rfl,oE (s:={s with heap:=h'}) e c d (by decide) ⟨x,H,I1,ru,⟨rfl,λys hy=>by rw [I.rN hy hq];exact hx⟩,dY,λb hb=>(hf b hb).1⟩⟩
 done:=by
  intro X hP hw hK hc i aa s σ H E I hf st hg;subst hP hw hK;obtain⟨xs,hq,hx⟩:=hg
  obtain⟨ak,rv,p,hz⟩:=I.list hq
  obtain⟨f0,f1,f2,f3,f4,f5⟩:=hf it (by simp)
  have hl:=rv.length
  exact wpAny_pyNext_list_end (I.ok.hd hc) st p.isList (by simp;omega) λh' eb=>⟨rfl,I.turned (t':=s.toks) (λb o hb e=>eb b o hb e) f0 f1 f3 f4 f5⟩
 self:=λ_ _ _ _ _ st h=>wpAny_pyIter_listiter st h
def tx{P:Program}{w:World}{K:zz8}{tg:Expr}(a it:Addr):Turn P w K tg (SS K a) [it] it (λi h=>h.IsTupleIter it a i) where
 mem:=by simp
 obj:=λi h st b hb=>by
  have e:b=it:=by simpa using hb
  subst e;obtain⟨o,e,c,d⟩:=st
  exact⟨o,e,λv z=>by rw [d] at z;cases z⟩
 keep:=λi h h' st k=>st.at λo e=>k it (by simp) o e
 item:=by
  intro X hP hw hK hc i aa s σ H E I hf st hg;subst hP hw hK;obtain⟨xs,x,hq,hx⟩:=hg
  obtain⟨ak,rv,p,hz⟩:=I.tuple hq
  obtain⟨u,hu,ru⟩:=rv.get hx
  obtain⟨f0,f1,f2,f3,f4,f5⟩:=hf it (by simp)
  refine wpAny_pyNext_tuple_item st (show s.heap.IsTuple a ak.toArray from p) (x:=u) (by simpa using hu) λh' dY sb=>?_
  have I1:Inv X aa σ H {s with heap:=h'}:=I.turned (t':=s.toks) (λb o hb e=>(sb.2 b hb).trans e) f0 f1 f3 f4 f5
  obtain⟨o,e,c,d⟩:=id dY
  exact⟨u,rfl,oE (s:={s with heap:=h'}) e c d (by decide) ⟨x,H,I1,ru,⟨rfl,λys hy=>by rw [I.oK hy hq];exact hx⟩,dY,λb hb=>(hf b hb).1⟩⟩
 done:=by
  intro X hP hw hK hc i aa s σ H E I hf st hg;subst hP hw hK;obtain⟨xs,hq,hx⟩:=hg
  obtain⟨ak,rv,p,hz⟩:=I.tuple hq
  obtain⟨f0,f1,f2,f3,f4,f5⟩:=hf it (by simp)
  have hl:=rv.length
  exact wpAny_pyNext_tuple_end (I.ok.hd hc) st (show s.heap.IsTuple a ak.toArray from p) (by simp;omega) λh' eb=>⟨rfl,I.turned (t':=s.toks) (λb o hb e=>eb b o hb e) f0 f1 f3 f4 f5⟩
 self:=λ_ _ _ _ _ st h=>wpAny_pyIter_tupleiter st h
def t6{P:Program}{w:World}{K:zz8}{tg:Expr}(it:Addr)(lo:Int)(n:Nat):Turn P w K tg (Q6 lo n) [it] it (λi h=>IsRangeIter h it (lo+(i:Nat)*1) ((n:Int)-(i:Nat)) 1) where
 mem:=by simp
 obj:=λi h st b hb=>by
  have e:b=it:=by simpa using hb
  subst e;exact⟨_,st,λv z=>by
   have z':Data.fields _=Data.cell v:=z
   cases z'⟩
 keep:=λi h h' st k=>k it (by simp) _ st
 item:=by
  intro X hP hw hK hc i aa s σ H E I hf st hg;subst hP hw hK;obtain⟨f0,f1,f2,f3,f4,f5⟩:=hf it (by simp)
  have W:=Walks.range (prog:=X.prog) (w:=X.w) (I.ok.hd hc) it lo 1 n
  refine W.item i s _ _ hg st λv h' tk hv dY kk=>?_
  obtain⟨t,rfl⟩:=hv
  have I1:Inv X aa σ H {s with heap:=h',toks:=tk}:=I.turned (λb o hb e=>kk b o (by simpa using hb) e) f0 f1 f3 f4 f5
  refine⟨_,rfl,oE (s:={s with heap:=h',toks:=tk}) (n:="range_iterator") dY rfl rfl (by decide) ⟨.int (lo+i),H,I1,⟨t,?_⟩,⟨rfl,rfl⟩,dY,λb hb=>(hf b hb).1⟩⟩
  rw [Int.mul_one]
 done:=by
  intro X hP hw hK hc i aa s σ H E I hf st hg;subst hP hw hK;obtain⟨f0,f1,f2,f3,f4,f5⟩:=hf it (by simp)
  exact wpAny_pyNext_range_end (I.ok.hd hc) st (by have:n<=i:=hg;omega) λh' eb=>⟨rfl,I.turned (t':=s.toks) (λb o hb e=>eb b o hb e) f0 f1 f3 f4 f5⟩
 self:=λ_ _ _ _ _ st h=>wpAny_pyIter_rangeiter st h
section
variable{X:Cx}{tg:Expr}
noncomputable def QL(K:zz8)(tl:TE):TI:=λσ H R=>tl σ H λx H1=>∃a,x=.ref a/\(∃xs,df K H1 a xs)/\R (Ti K a) H1
noncomputable def S1(K:zz8)(tl:TE):TI:=λσ H R=>tl σ H λx H1=>∃a,x=.ref a/\(∃xs,dI K H1 a xs)/\R (SS K a) H1
def uZ{l:Expr}{tl:TE}(hl:PE X l tl):PI X tg l (QL X.K tl):=by
 intro aa s σ H R I h;refine bq (hl aa s σ H _ I h) λv s1 ⟨x,H1,I1,r1,q1⟩=>?_
 obtain⟨a,e,⟨xs,hq⟩,q⟩:=q1
 subst e;cases r1;obtain⟨ak,rv,p,hz⟩:=I1.list hq
 refine wpAny_pyIter_list p.isList ?_;refine⟨(zz9 s1),[(zz9 s1)],_,_,H1,rfl,I1.kept (t':=s1.toks) λb o e=>zzB _ e,xU a _,⟨_,zzX _ rfl,rfl,rfl⟩,λb hb=>?_,q⟩
 have e:b=(zz9 s1):=by simpa using hb
 subst e;exact I1.je (zzE _) (I1.aH.fresh (zzE _))
def Kg{l:Expr}{tl:TE}(hl:PE X l tl):PI X tg l (S1 X.K tl):=by
 intro aa s σ H R I h;refine bq (hl aa s σ H _ I h) λv s1 ⟨x,H1,I1,r1,q1⟩=>?_
 obtain⟨a,e,⟨xs,hq⟩,q⟩:=q1
 subst e;cases r1;obtain⟨ak,rv,p,hz⟩:=I1.tuple hq
 refine wpAny_pyIter_tuple (show s1.heap.IsTuple a ak.toArray from p) ?_;refine⟨(zz9 s1),[(zz9 s1)],_,_,H1,rfl,I1.kept (t':=s1.toks) λb o e=>zzB _ e,tx a _,⟨_,zzX _ rfl,rfl,rfl⟩,λb hb=>?_,q⟩
 have e:b=(zz9 s1):=by simpa using hb
 subst e;exact I1.je (zzE _) (I1.aH.fresh (zzE _))
def qH{aa:List (Addr×Obj)}{σ:St}{H:Hp}{s:Shared}{R:It->Hp->Prop}{E:Value->Shared->Prop}{lo hi:Int}{t u v:Tok}{tk:Nat}(I:Inv X aa σ H s)(h1: -(2^62)<=lo)(h2:lo<2^62)(h3: -(2^62)<=hi)(h4:hi<2^62)
 (q:R (Q6 lo (hi-lo).toNat) H):wpAny (model X.prog X.w) X.A (pyIter (.ref (zz9 s))) (Sr X aa σ tg R) E {s with heap:=s.heap.push {cls:=.type "range",data:=.fields #[.int lo t,.int hi u,.int 1 v]},toks:=tk}:=by
 refine wpAny_pyIter_range (IsRange.new ..) (small_one h1 h2 h3 h4) ?_;have I1:Inv X aa σ H {s with heap:=s.heap.push {cls:=.type "range",data:=.fields #[.int lo t,.int hi u,.int 1 v]},toks:=tk}:=I.kept λb o e=>zzB _ e
 refine⟨(s.heap.push {cls:=.type "range",data:=.fields #[.int lo t,.int hi u,.int 1 v]}).objs.size,[(s.heap.push {cls:=.type "range",data:=.fields #[.int lo t,.int hi u,.int 1 v]}).objs.size],_,_,H,rfl,
  I1.kept (t':=tk) λb o e=>zzB _ e,t6 _ lo (hi-lo).toNat,?_,λb hb=>?_,q⟩
 ·have e1:lo+((0:Nat):Int)*1=lo:=by simp
  have e2:(((hi-lo).toNat:Nat):Int)-((0:Nat):Int)=Builtin.Range.rangeSize lo hi 1:=by rw [rangeSize_one];split<;>omega
  show IsRangeIter _ _ (lo+((0:Nat):Int)*1) ((((hi-lo).toNat:Nat):Int)-((0:Nat):Int)) 1
  rw [e1,e2];exact zzX _ rfl
 ·have e:b=(s.heap.push {cls:=.type "range",data:=.fields #[.int lo t,.int hi u,.int 1 v]}).objs.size:=by simpa using hb
  subst e;exact I1.je (zzE _) (I1.aH.fresh (zzE _))
def QN(ta:TA):TI:=λσ H R=>ta σ H λvs H1=>∃j:Int,vs=[.int j]/\ -(2^62)<=j/\j<2^62/\R (Q6 0 j.toNat) H1
def PJ(ta:TA):TI:=λσ H R=>ta σ H λvs H1=>∃i j:Int,vs=[.int i,.int j]/\(-(2^62)<=i/\i<2^62/\ -(2^62)<=j/\j<2^62)/\R (Q6 i (j-i).toNat) H1
theorem xP{a:Expr}{ta:TA}{p pos:Pos}(hg:Gl X "range")(hm:X.mg "range"=none)(ha:PA X [a] ta)(hs:starEach [a] X.env=[(false,eval a X.env)]:=by rfl):PI X tg (.Call (.Name "range" p) [a] [] pos) (QN ta):=by
 intro aa s σ H R I h;refine Call_ (dq I hg hm boot_range (PyProof.Rows.callWith_type1 (bq (ha pos aa s σ H _ I h) λus s1 ⟨vs,H1,I1,r1,q1⟩=>?_) hs rfl))
 obtain⟨j,e,q1,q2,q⟩:=q1
 subst e;cases r1 with
 |cons r rr=>
  cases rr;obtain⟨t,rfl⟩:=r
  exact call_range_1 (qH I1 (by omega) (by omega) q1 q2 (by simpa using q))
theorem xr{a b:Expr}{ta:TA}{p pos:Pos}(hg:Gl X "range")(hm:X.mg "range"=none)(ha:PA X [a,b] ta)(hs:starEach [a,b] X.env=[(false,eval a X.env),(false,eval b X.env)]:=by rfl)(AJ:starEach [b] X.env=[(false,eval b X.env)]:=by rfl):
 PI X tg (.Call (.Name "range" p) [a,b] [] pos) (PJ ta):=by
 intro aa s σ H R I h;refine Call_ (dq I hg hm boot_range (PyProof.Rows.callWith_type1 (bq (ha pos aa s σ H _ I h) λus s1 ⟨vs,H1,I1,r1,q1⟩=>?_) (by rw [hs,AJ]) (by rw [AJ];rfl)))
 obtain⟨i,j,e,⟨q1,q2,q3,q4⟩,q⟩:=q1
 subst e;cases r1 with
 |cons r rr=>
  cases rr with
  |cons r' rr=>
   cases rr;obtain⟨t,rfl⟩:=r
   obtain⟨t',rfl⟩:=r'
   exact call_range_2 (qH I1 q1 q2 q3 q4 q)
noncomputable def Up(wi:TI)(g:TG)(tb:TS):TS:=λD σ H=>wi σ H λJ H1=>∃W:Nat->Nat->St->Hp->Prop,(∃m,W 0 m σ H1)/\∀i m σ H,W i m σ H->
 (J.stop i H/\D.nx σ H)\/(J.go i H/\∃N:St->Hp->Prop,(∀σ' H',N σ' H'->∃m',m'<m/\W (i+1) m' σ' H')/\∀x H',J.JM i H x H'->g x σ H' λσ2 H2=>tb {D with nx:=N,ct:=N,bk:=D.nx} σ2 H2)
def oY(fp:List Addr)(h:Heap):List (Addr×Obj):=fp.filterMap λb=>(h.get? b).map λo=>(b,o)
def cU{fp:List Addr}{h:Heap}{b:Addr}{o:Obj}(hb:b∈fp)(e:h.get? b=some o):(b,o)∈oY fp h:=zz1.mpr ⟨b,hb,by rw [e];rfl⟩
def xw{fp:List Addr}{h:Heap}{p:Addr×Obj}(hp:p∈oY fp h):p.1∈fp/\h.get? p.1=some p.2:=by
 obtain⟨b,hb,e⟩:=zz1.mp hp
 cases q:h.get? b with
 |none=>rw [q] at e;cases e
 |some o=>
  rw [q] at e;have e':(b,o)=p:=zzq e
  subst e';exact⟨hb,q⟩
theorem Inv.pinned{aa:List (Addr×Obj)}{σ:St}{H:Hp}{s:Shared}{fp:List Addr}(I:Inv X aa σ H s)(hf:∀b∈fp,dy X aa H b)(ho:∀b∈fp,∃o,s.heap.get? b=some o/\∀v,o.data≠.cell v):Inv X (aa++oY fp s.heap) σ H s:=
 I.gA λp hp=>(List.mem_append.mp hp).elim (λz=>I.pin p (zzR _ z)) λz=>by
  obtain⟨hb,e⟩:=xw z
  obtain⟨f0,f1,f2,_⟩:=hf p.1 hb
  obtain⟨o,e',d⟩:=ho p.1 hb
  rw [e] at e';cases e';exact⟨e,f0,f1,f2,d⟩
def Inv.jf{aa pl:List (Addr×Obj)}{σ:St}{H:Hp}{s:Shared}(I:Inv X (aa++pl) σ H s):Inv X aa σ H s:=I.gA λp hp=>I.pin p (zzR _ (zzc _ hp))
def Gr{iter:Expr}{body:List Stmt}{wi:TI}{g:TG}{tb:TS}{pos:Pos}(hp:PassesOwn (model X.prog X.w) X.A X.env X.xe)(hc:X.calm=true)(hi:PI X tg iter wi)(hg:PG X tg g)(hb:qy X body tb)
 (hs:∀x,foldedSetIterable iter X.env x=pure x:=by intro _;rfl):PS X (.For tg iter body [] pos) (Up wi g tb):=by
 intro aa s σ H D I h;refine wpAny_For (bq (hi aa s σ H _ I h) λv s1 h1=>bq h1 λRL s2 h2=>?_) hs
 obtain⟨it,fp,tn,J,H2,e,I2,T,Qd,f2,W,⟨m0,w0⟩,turn⟩:=h2
 subst e;have OI:∀{H':Hp},(∀b∈fp,H' b=none)->∀b∈fp,dy X aa H' b:=λhn b hb=>⟨hn b hb,(f2 b hb).2⟩
 refine codeAny_forLoop_any (λn s'=>∃i σ' H',Inv X aa σ' H' s'/\tn i s'.heap/\(∀b∈fp,H' b=none)/\W i n σ' H') ?_ m0 ⟨0,σ,H2,I2,Qd,λb hb=>(f2 b hb).1,w0⟩
 rintro n s3 ⟨i,σ3,H3,I3,st3,fr3,w3⟩
 rcases turn i n σ3 H3 w3 with⟨stop,qn⟩|⟨go,N,hN,step⟩
 ·refine wpAny_passesOwn hp (bq (T.done X rfl rfl rfl hc i aa s3 σ3 H3 X.xe I3 (OI fr3) st3 stop) λr s4 ⟨hr,I4⟩=>?_)
  subst hr;exact wpAny_execs_nil ⟨σ3,H3,I4,qn⟩
 ·refine wpAny_passesOwn hp (bq (T.item X rfl rfl rfl hc i aa s3 σ3 H3 X.xe I3 (OI fr3) st3 go) λr s4 ⟨u,hr,h4⟩=>?_)
  subst hr;refine wpAny_passesOwn hp (bq h4 λ_ s5 ⟨x,H5,I5,r5,y5,st5,fr5⟩=>?_);have UR:=I5.pinned (OI fr5) (T.obj _ _ st5)
  refine wpAny_passesOwn hp (bq (hg _ s5 σ3 H5 x u _ UR r5 (step x H5 y5)) λ_ s6 ⟨σ6,H6,I6,q6⟩=>?_)
  refine wpAny_passesOwn hp (bq (hb _ s6 σ6 H6 _ I6 q6) λf s7 q7=>?_)
  have again:∀{σ7:St} {H7:Hp},Inv X (aa++oY fp s5.heap) σ7 H7 s7->N σ7 H7->∃m,m<n/\∃i σ' H',Inv X aa σ' H' s7/\tn i s7.heap/\(∀b∈fp,H' b=none)/\W i m σ' H':=λ{σ7 H7} I7 n7=>by
   obtain⟨m',hm,w7⟩:=hN σ7 H7 n7
   refine⟨m',hm,i+1,σ7,H7,I7.jf,T.keep _ _ _ st5 λb hb o e=>(I7.pin (b,o) (zzR _ (zzR _ (cU hb e)))).1,λb hb=>?_,w7⟩
   obtain⟨o,e,d⟩:=T.obj _ _ st5 b hb
   exact(I7.pin (b,o) (zzR _ (zzR _ (cU hb e)))).2.1
  cases f with
  |next=>obtain⟨σ7,H7,I7,n7⟩:=q7;exact again I7 n7
  |cont=>obtain⟨σ7,H7,I7,n7⟩:=q7;exact again I7 n7
  |brk=>obtain⟨σ7,H7,I7,q7⟩:=q7;exact⟨σ7,H7,I7.jf,q7⟩
  |ret v=>obtain⟨x7,σ7,H7,I7,r7,q7⟩:=q7;exact⟨x7,σ7,H7,I7.jf,r7,q7⟩
end
abbrev R2:=V->V->Hp->VK->Prop
def ef(X:Cx)(f:Value->Value->Sem Value)(r:R2):Prop:=
 ∀(aa:List (Addr×Obj)) (s:Shared) (σ:St) (H:Hp) (x y:V) (v u:Value) (Q:VK),Inv X aa σ H s->RelV x v->RelV y u->r x y H Q->
  wpAny (model X.prog X.w) X.A (f v u) (EP X aa σ Q) X.xe s
def RN(X:Cx)(f:Value->Sem Value)(r:V->Hp->VK->Prop):Prop:=
 ∀(aa:List (Addr×Obj)) (s:Shared) (σ:St) (H:Hp) (x:V) (v:Value) (Q:VK),Inv X aa σ H s->RelV x v->r x H Q->
  wpAny (model X.prog X.w) X.A (f v) (EP X aa σ Q) X.xe s
def bD(X:Cx)(f:Value)(r:List V->Hp->VK->Prop):Prop:=
 ∀(aa:List (Addr×Obj)) (s:Shared) (σ:St) (H:Hp) (xs:List V) (us:List Value) (Q:VK),Inv X aa σ H s->Vals xs us->r xs H Q->
  wpAny (model X.prog X.w) X.A (call f us) (EP X aa σ Q) X.xe s
noncomputable def OR(r:R2)(ta tb:TE):TE:=λσ H Q=>ta σ H λx H1=>tb σ H1 λy H2=>r x y H2 Q
def YZ(r:V->Hp->VK->Prop)(ta:TE):TE:=λσ H Q=>ta σ H λx H1=>r x H1 Q
noncomputable def rI(C:Int->Int->Prop)(g:Int->Int->V):R2:=λx y H Q=>∃i j,x=.int i/\y=.int j/\C i j/\Q (g i j) H
noncomputable def Fv(g:Int->Int->V):R2:=λx y H Q=>∃i j,x=.int i/\y=.int j/\Q (g i j) H
def rU(g:Int->V):V->Hp->VK->Prop:=λx H Q=>∃i,x=.int i/\Q (g i) H
section
variable{X:Cx}{a b:Expr}{ta tb:TE}{pos:Pos}
def Mn(ha:PE X a ta)(hb:PE X b tb){aa:List (Addr×Obj)}{s:Shared}{σ:St}{H:Hp}{R:V->V->Hp->Prop}(I:Inv X aa σ H s)
 (h:ta σ H λx H1=>tb σ H1 λy H2=>R x y H2) {Q:Value->Shared->Prop} {f:Value->Value->Sem Value}
 (hf:∀v u s2 x y H2,Inv X aa σ H2 s2->RelV x v->RelV y u->R x y H2->wpAny (model X.prog X.w) X.A (f v u) Q X.xe s2):
 wpAny (model X.prog X.w) X.A (eval a X.env) (λv s₁=>wpAny (model X.prog X.w) X.A (eval b X.env) (λu s₂=>wpAny (model X.prog X.w) X.A (f v u) Q X.xe s₂) X.xe s₁) X.xe s:=by
 refine bq (ha aa s σ H _ I h) λv s1 ⟨x,H1,I1,r1,q1⟩=>?_
 refine bq (hb aa s1 σ H1 _ I1 q1) λu s2 ⟨y,H2,I2,r2,q2⟩=>?_
 exact hf v u s2 x y H2 I2 r1 r2 q2
def Py{op:Operator}{r:R2}(ho:ef X (binaryOp op) r)(ha:PE X a ta)(hb:PE X b tb):PE X (.BinOp a op b pos) (OR r ta tb):=by
 intro aa s σ H Q I h;exact wpAny_BinOp (Mn ha hb I h λv u s2 x y H2 I2 rx ry q=>ho aa s2 σ H2 x y v u Q I2 rx ry q)
def P7{op:UnaryOp}{r:V->Hp->VK->Prop}(ho:RN X (unaryOp op) r)(ha:PE X a ta):PE X (.UnaryOp op a pos) (YZ r ta):=by
 intro aa s σ H Q I h;exact UnaryOp_ (bq (ha aa s σ H _ I h) λv s1 ⟨x,H1,I1,r1,q1⟩=>ho aa s1 σ H1 x v Q I1 r1 q1)
def To{f:Value->Value->Sem Value}{C:Int->Int->Prop}{g:Int->Int->Int}
 (rule:∀(i j:Int) (t u:Tok) (s:Shared) (Q:Value->Shared->Prop) (E:Value->Shared->Prop),C i j->Q (.int (g i j) s.toks) {s with toks:=s.toks+1}->wpAny (model X.prog X.w) X.A (f (.int i t) (.int j u)) Q E s):
 ef X f (rI C λi j=>.int (g i j)):=by
 intro aa s σ H x y v u Q I rx ry h;obtain⟨i,j,rfl,rfl,hc,q⟩:=h
 obtain⟨t,rfl⟩:=rx
 obtain⟨t',rfl⟩:=ry
 exact rule i j t t' s _ _ hc ⟨.int (g i j),H,I.tok _,⟨_,rfl⟩,q⟩
def Rb{f:Value->Value->Sem Value}{g:Int->Int->Int}
 (rule:∀(i j:Int) (t u:Tok) (s:Shared) (Q:Value->Shared->Prop) (E:Value->Shared->Prop),Q (.int (g i j) s.toks) {s with toks:=s.toks+1}->wpAny (model X.prog X.w) X.A (f (.int i t) (.int j u)) Q E s):
 ef X f (Fv λi j=>.int (g i j)):=by
 intro aa s σ H x y v u Q I rx ry h;obtain⟨i,j,rfl,rfl,q⟩:=h
 obtain⟨t,rfl⟩:=rx
 obtain⟨t',rfl⟩:=ry
 exact rule i j t t' s _ _ ⟨.int (g i j),H,I.tok _,⟨_,rfl⟩,q⟩
def DY{f:Value->Value->Sem Value}{g:Int->Int->Bool}
 (rule:∀(i j:Int) (t u:Tok) (s:Shared) (Q:Value->Shared->Prop) (E:Value->Shared->Prop),Q (.bool (g i j)) s->wpAny (model X.prog X.w) X.A (f (.int i t) (.int j u)) Q E s):
 ef X f (Fv λi j=>.bl (g i j)):=by
 intro aa s σ H x y v u Q I rx ry h;obtain⟨i,j,rfl,rfl,q⟩:=h
 obtain⟨t,rfl⟩:=rx
 obtain⟨t',rfl⟩:=ry
 exact rule i j t t' s _ _ ⟨.bl (g i j),H,I,rfl,q⟩
def SF(i j:Int):Prop:=0<j/\j<1073741824
def Jn(i j:Int):Prop:=(-(2^64)<i/\i<2^64)\/(-(2^64)<j/\j<2^64)
def Jn.ok{i j:Int}(h:Jn i j):IntMulOk i j:=by
 rcases h with⟨h1,h2⟩|⟨h1,h2⟩
 ·exact .of_left (intBits_le_64 h1 h2)
 ·exact .of_right (intBits_le_64 h1 h2)
def Jx:ef X (binaryOp .Add) (Fv λi j=>.int (i+j)):=Rb λ_ _ _ _ _ _ _ q=>add_int q
def IV:ef X (binaryOp .Sub) (Fv λi j=>.int (i-j)):=Rb λ_ _ _ _ _ _ _ q=>sub_int q
def GJ:ef X (binaryOp .Mult) (rI Jn λi j=>.int (i*j)):=To λ_ _ _ _ _ _ _ hc q=>mul_int q hc.ok
theorem CB:ef X (binaryOp .FloorDiv) (rI SF λi j=>.int (i/j)):=To λi j _ _ _ _ _ hc q=>by
 have h1:(0:Int)<j:=hc.1
 have h2:j<1073741824:=hc.2
 exact floordiv_int (by omega) (by rw [Int.fdiv_eq_ediv_of_nonneg i (by omega)];exact q) (.inl (PyProof.noPylong_small (by omega)))
theorem JQ:ef X (binaryOp .Mod) (rI (λ_ j=>0<j) λi j=>.int (i%j)):=To λi j _ _ _ _ _ hc q=>by
 have h1:(0:Int)<j:=hc
 exact mod_int' (by omega) (by rw [Int.fmod_eq_emod_of_nonneg i (by omega)];exact q)
def Y7{f:Value->Sem Value}{g:Int->Int}
 (rule:∀(i:Int) (t:Tok) (s:Shared) (Q:Value->Shared->Prop) (E:Value->Shared->Prop),Q (.int (g i) s.toks) {s with toks:=s.toks+1}->wpAny (model X.prog X.w) X.A (f (.int i t)) Q E s):
 RN X f (rU λi=>.int (g i)):=by
 intro aa s σ H x v Q I rx h;obtain⟨i,rfl,q⟩:=h
 obtain⟨t,rfl⟩:=rx
 exact rule i t s _ _ ⟨.int (g i),H,I.tok _,⟨_,rfl⟩,q⟩
def M5:RN X (unaryOp .USub) (rU λi=>.int (-i)):=Y7 λ_ _ _ _ _ q=>neg_int q
variable{c:Expr}{tc:TE}
def my{aa:List (Addr×Obj)}{σ:St}{H:Hp}{s:Shared}{Q:VK}{k k':Bool}(I:Inv X aa σ H s)(q:Q (.bl k) H)(e:k=k'):EP X aa σ Q (.bool k') s:=by
 subst e;exact⟨.bl k,H,I,rfl,q⟩
def Qp:ef X (compareOp .Lt) (Fv λi j=>.bl (decide (i<j))):=DY λ_ _ _ _ _ _ _ q=>lt_int q
def Rg:ef X (compareOp .LtE) (Fv λi j=>.bl (decide (i<=j))):=DY λ_ _ _ _ _ _ _ q=>le_int q
def QS:ef X (compareOp .Gt) (Fv λi j=>.bl (decide (j<i))):=DY λ_ _ _ _ _ _ _ q=>gt_int q
def Qe:ef X (compareOp .GtE) (Fv λi j=>.bl (decide (j<=i))):=DY λ_ _ _ _ _ _ _ q=>ge_int q
def xS:ef X (compareOp .In) (λx y H Q=>∃i j,x=.str i/\y=.str j/\Q (.bl (!(Builtin.Str.occurrences j i 0 j.length 1).isEmpty)) H):=by
 intro aa s σ H x y v u Q I rx ry h;obtain⟨i,j,rfl,rfl,q⟩:=h
 obtain⟨t,rfl⟩:=rx
 obtain⟨t',rfl⟩:=ry
 exact in_str (my I q rfl)
def GG:ef X (compareOp .Is) (λx y H Q=>y=.aK/\Q (.bl (decide (x=.aK))) H):=by
 intro aa s σ H x y v u Q I rx ry h;obtain⟨rfl,q⟩:=h
 cases ry;refine is_none_gen (my I q ?_);cases x<;>first
  |(cases rx;rfl)
  |(obtain⟨t,rfl⟩:=rx;rfl)
def DH:ef X (compareOp .IsNot) (λx y H Q=>y=.aK/\Q (.bl (!decide (x=.aK))) H):=by
 intro aa s σ H x y v u Q I rx ry h;obtain⟨rfl,q⟩:=h
 cases ry;refine isnot_none_gen (my I q ?_);cases x<;>first
  |(cases rx;rfl)
  |(obtain⟨t,rfl⟩:=rx;rfl)
def UZ(b:Expr){op:CmpOp}(h:op≠.In:=by decide)(h2:op≠.NotIn:=by decide):behindInMarks op b=false:=by
 have e1:(op==CmpOp.In)=false:=by cases op<;>first|rfl|exact absurd rfl h
 have e2:(op==CmpOp.NotIn)=false:=by cases op<;>first|rfl|exact absurd rfl h2
 cases b<;>simp [behindInMarks,e1,e2]
def B9{op:CmpOp}{r:R2}(ho:ef X (compareOp op) r)(ha:PE X a ta)(hb:PE X b tb)(hm:behindInMarks op b=false):PE X (.Compare a [op] [b] pos) (OR r ta tb):=by
 intro aa s σ H Q I h;exact wpAny_Compare1 (Mn ha hb I h λv u s2 x y H2 I2 rx ry q=>ho aa s2 σ H2 x y v u Q I2 rx ry q) hm
def AG(t:TE):TT:=λσ H Q=>t σ H λx H'=>∃k,x=.bl k/\Q k H'
def DS{op:CmpOp}{r:R2}(ho:ef X (compareOp op) r)(ha:PE X a ta)(hb:PE X b tb)(hm:behindInMarks op b=false):PT X (.Compare a [op] [b] pos) (AG (OR r ta tb)):=by
 intro aa s σ H Q I h;refine wpAny_isTrue_Compare1 (bq (ha aa s σ H _ I h) λv s1 ⟨x,H1,I1,r1,q1⟩=>bq (hb aa s1 σ H1 _ I1 q1) λu s2 ⟨y,H2,I2,r2,q2⟩=>
  bq (ho aa s2 σ H2 x y v u _ I2 r1 r2 q2) λc s3 ⟨z,H3,I3,r3,k,e,q3⟩=>?_) hm
 subst e;cases r3;exact wpAny_truthy_bool ⟨H3,I3,q3⟩
noncomputable def ux(r r':R2)(ta tb tc:TE):TE:=λσ H Q=>ta σ H λx H1=>tb σ H1 λy H2=>r x y H2 λz H3=>∃k,z=.bl k/\
 (if k=true then tc σ H3 λw' H4=>r' y w' H4 Q else Q (.bl false) H3)
def Bb{op Nu:CmpOp}{r r':R2}(ho:ef X (compareOp op) r)(jl:ef X (compareOp Nu) r')(ha:PE X a ta)(hb:PE X b tb)(hc:PE X c tc)
 (hm:lastMarks [op,Nu] [b,c]=false:=by with_unfolding_all rfl):PE X (.Compare a [op,Nu] [b,c] pos) (ux r r' ta tb tc):=by
 intro aa s σ H Q I h;refine Compare_chain (bq (ha aa s σ H _ I h) λv s1 ⟨x,H1,I1,r1,q1⟩=>chain_link (bq (hb aa s1 σ H1 _ I1 q1) λu s2 ⟨y,H2,I2,r2,q2⟩=>
  bq (ho aa s2 σ H2 x y v u _ I2 r1 r2 q2) λd s3 ⟨z,H3,I3,r3,k,e,q3⟩=>?_)) hm
 subst e;cases r3;refine wpAny_truthy_bool ?_;cases k with
 |false=>exact ite_ff ⟨.bl false,H3,I3,rfl,q3⟩
 |true=>exact ite_tt (chain_last (bq (hc aa s3 σ H3 _ I3 q3) λw' s4 ⟨z',H4,I4,r4,q4⟩=>jl aa s4 σ H4 y z' u w' Q I4 r2 r4 q4))
def y8{op Nu:CmpOp}{r r':R2}(ho:ef X (compareOp op) r)(jl:ef X (compareOp Nu) r')(ha:PE X a ta)(hb:PE X b tb)(hc:PE X c tc)
 (hm:lastMarks [op,Nu] [b,c]=false:=by with_unfolding_all rfl):PT X (.Compare a [op,Nu] [b,c] pos) (AG (ux r r' ta tb tc)):=by
 intro aa s σ H Q I h;refine isTrue_chain (bq (ha aa s σ H _ I h) λv s1 ⟨x,H1,I1,r1,q1⟩=>test_link (bq (hb aa s1 σ H1 _ I1 q1) λu s2 ⟨y,H2,I2,r2,q2⟩=>
  bq (ho aa s2 σ H2 x y v u _ I2 r1 r2 q2) λd s3 ⟨z,H3,I3,r3,k,e,q3⟩=>?_)) hm
 subst e;cases r3;refine wpAny_truthy_bool ?_;cases k with
 |false=>
  obtain⟨k',e',q'⟩:=q3
  cases e';exact ite_ff ⟨H3,I3,q'⟩
 |true=>
  refine ite_tt (test_last (bq (hc aa s3 σ H3 _ I3 q3) λw' s4 ⟨z',H4,I4,r4,q4⟩=>bq (jl aa s4 σ H4 y z' u w' _ I4 r2 r4 q4) λd' s5 ⟨z2,H5,I5,r5,k2,e2,q5⟩=>?_))
  subst e2;cases r5;exact wpAny_truthy_bool ⟨H5,I5,q5⟩
def jy:(sizeLine:Nat)<2^63:=by rw [sizeLine_eq];decide
def tX:ef X (binaryOp .Add) (λx y H Q=>∃i j,x=.str i/\y=.str j/\i.length+j.length<=sizeLine/\Q (.str (i++j)) H):=by
 intro aa s σ H x y v u Q I rx ry h;obtain⟨i,j,rfl,rfl,hz,q⟩:=h
 obtain⟨t,rfl⟩:=rx
 obtain⟨t',rfl⟩:=ry
 exact add_str (λt' tk=>⟨.str (i++j),H,I.tok _,⟨_,rfl⟩,q⟩) hz
def vals1{x:V}{us:List Value}(r:Vals [x] us):∃u,us=[u]/\RelV x u:=by
 cases r with
 |cons r1 r2=>cases r2;exact⟨_,rfl,r1⟩
def vals2{x y:V}{us:List Value}(r:Vals [x,y] us):∃u w',us=[u,w']/\RelV x u/\RelV y w':=by
 cases r with
 |cons r1 r2=>
  cases r2 with
  |cons r3 r4=>cases r4;exact⟨_,_,rfl,r1,r3⟩
def zR:bD X (.builtin "abs") (λxs H Q=>∃i,xs=[.int i]/\Q (.int (if i<0 then -i else i)) H):=by
 intro aa s σ H xs us Q I r h;obtain⟨i,rfl,q⟩:=h
 obtain⟨u,rfl,t,rfl⟩:=vals1 r
 exact call_abs_int λu tk=>⟨.int (if i<0 then -i else i),H,I.tok _,⟨_,rfl⟩,q⟩
def vZ(hc:X.calm=true):bD X (.builtin "max") (λxs H Q=>∃i j,xs=[.int i,.int j]/\Q (.int (if j>i then j else i)) H):=by
 intro aa s σ H xs us Q I r h;obtain⟨i,j,rfl,q⟩:=h
 obtain⟨u,w',rfl,⟨t,rfl⟩,⟨t',rfl⟩⟩:=vals2 r
 refine max_two_ints (I.ok.hd hc) λh' tk k=>⟨_,H,I.kept k,?_,q⟩
 by_cases hj:j>i
 ·rw [if_pos hj,if_pos hj];exact⟨_,rfl⟩
 ·rw [if_neg hj,if_neg hj];exact⟨_,rfl⟩
def wa(hc:X.calm=true):bD X (.builtin "min") (λxs H Q=>∃i j,xs=[.int i,.int j]/\Q (.int (if j<i then j else i)) H):=by
 intro aa s σ H xs us Q I r h;obtain⟨i,j,rfl,q⟩:=h
 obtain⟨u,w',rfl,⟨t,rfl⟩,⟨t',rfl⟩⟩:=vals2 r
 refine min_two_ints (I.ok.hd hc) λh' tk k=>⟨_,H,I.kept k,?_,q⟩
 by_cases hj:j<i
 ·rw [if_pos hj,if_pos hj];exact⟨_,rfl⟩
 ·rw [if_neg hj,if_neg hj];exact⟨_,rfl⟩
end
def iT.some_of{v:V}{o:Option Value}(r:iT (some v) o):∃u,o=some u/\RelV v u:=by
 cases o with
 |none=>exact(show False from r).elim
 |some u=>exact⟨u,rfl,r⟩
structure dh(k:Nat)(A:Around):Prop where
 hd:A.handled=none
 dp:A.depth+3*k+5<recursionLimit
 un:A.units+16*k+200<cLine
theorem dh.mono{j k:Nat}{A:Around}(r:dh k A)(h:j<=k):dh j A:=⟨r.hd,by have:=r.dp;omega,by have:=r.un;omega⟩
theorem dh.deeper{k:Nat}{A:Around}(r:dh (k+1) A)(env:Env):dh k (A.deeper env):=
 ⟨r.hd,by have:=r.dp;show A.depth+1+3*k+5<_;omega,by have:=r.un;show A.units+3+16*k+200<_;omega⟩
theorem dh.in1{k:Nat}{A:Around}(r:dh (k+1) A):dh k A.in1:=
 ⟨r.hd,by have:=r.dp;show A.depth+3*k+5<_;omega,by have:=r.un;show A.units+1+16*k+200<_;omega⟩
def dh.depth{k:Nat}{A:Around}(r:dh k A):A.depth<recursionLimit:=by have:=r.dp;omega
def dh.units{k:Nat}{A:Around}(r:dh k A):A.units+64<cLine:=by have:=r.un;omega
def QO:TA:=λ_ H Q=>Q [] H
def QF(ta:TE)(tr:TA):TA:=λσ H Q=>ta σ H λx H1=>tr σ H1 λxs H2=>Q (x::xs) H2
section
variable{X:Cx}{e:Expr}{es:List Expr}{te:TE}{t:TA}{pos:Pos}
def bP:PA X [] QO:=λ_ _ _ _ H Q I h=>Calls.spliced_nil ⟨[],H,I,.nil,h⟩
theorem ba(ha:PE X e te)(hr:PA X es t)(hs:starEach (e::es) X.env=(false,eval e X.env)::starEach es X.env:=by rfl):PA X (e::es) (QF te t):=by
 intro pos aa s σ H Q I h;rw [hs];show wpAny _ _ (spliced ((false,eval e X.env)::backTo pos (starEach es X.env))) _ _ s;refine Calls.spliced_cons (bq (ha aa s σ H _ I h) λu s1 ⟨x,H1,I1,r1,q1⟩=>?_)
 exact bq (hr pos aa s1 σ H1 _ I1 q1) λus s2 ⟨xs,H2,I2,r2,q2⟩=>⟨x::xs,H2,I2,.cons r1 r2,q2⟩
def UY(t:TA):TE:=λσ H Q=>t σ H λxs H1=>xs.length<=sizeLine/\∀p,H1 p=none->Q (.ref p) (upd H1 p (.tup xs))
def UP(t:TA):TE:=λσ H Q=>t σ H λxs H1=>xs.length<=sizeLine/\∀p,H1 p=none->Q (.ref p) (upd H1 p (.lst xs))
def M3{x1}(h:PA X es t):PE X (.Tuple es x1 pos) (UY t):=by
 intro aa s σ H Q I hq;refine wpAny_Tuple_spliced (bq (h pos aa s σ H _ I hq) λus s1 ⟨xs,H1,I1,r,z,q⟩=>⟨by rw [<-r.length];exact z,?_⟩)
 have hf:H1 (zz9 s1)=none:=I1.aH.fresh (zzE _)
 refine⟨.ref (zz9 s1),upd H1 (zz9 s1) (.tup xs),I1.laid (t':=s1.toks) (λb u e=>zzB _ e) (zzE _) ?_,rfl,q _ hf⟩;exact⟨z,us,r,⟨_,zzX _ rfl,rfl,_,rfl⟩⟩
def Im(h:PA X es t):PE X (.List es pos) (UP t):=by
 intro aa s σ H Q I hq;refine wpAny_List_spliced (bq (h pos aa s σ H _ I hq) λus s1 ⟨xs,H1,I1,r,z,q⟩=>⟨by rw [<-r.length];exact z,?_⟩)
 have hf:H1 (zz9 s1)=none:=I1.aH.fresh (zzE _)
 refine⟨.ref (zz9 s1),upd H1 (zz9 s1) (.lst xs),I1.laid (t':=s1.toks) (λb u e=>zzB _ e) (zzE _) ?_,rfl,q _ hf⟩;exact⟨z,us,0,r,zzX _ rfl⟩
end
abbrev Sp:=List V->Hp->VK->XK->Prop
abbrev x5:=List Env->Hp->Shared->XK->Value->Shared->Prop
structure iP(P:Program)(w:World)(K:zz8)(mg:Str->Option Value)(base:Heap)(A:Around)(outer:List Env)(s:Shared)(H:Hp):Prop where
 frames:A.frames=some outer
 mod:Mod K mg base
 bs:∀b o,base.get? b=some o->s.heap.get? b=some o/\H b=none
 uA:base.objs.size<=(zz9 s)
 eV:s.heap.FunFrames base outer
 uj:∀b∈dD outer,H b=none
 aH:dE P w H s.heap
 bare:AllBare s.gens
def CE(outer:List Env)(P:Program)(w:World)(H:Hp)(s:Shared)(Q:VK)(u:Value)(s':Shared):Prop:=
 ∃v H',s'.os=s.os/\AllBare s'.gens/\Un (dD outer) [] H H' s.heap s'.heap/\dE P w H' s'.heap/\RelV v u/\Q v H'
def CR(CX:x5)(outer:List Env)(P:Program)(w:World)(H:Hp)(s:Shared)(Q:VK)(E:XK)(r:Result)(s':Shared):Prop:=
 match r with
 |.ok (.ret u)=>CE outer P w H s Q u s'
 |.ok _=>False
 |.error e=>CX outer H s E e s'
structure gh(P:Program)(w:World)(K:zz8)(mg:Str->Option Value)(base:Heap)(CX:x5)(k:Nat)(f:Addr)(fd:FuncData)(ps:List Str)(sp:Sp):Prop where
 len:∀vs H Q E,sp vs H Q E->vs.length=ps.length
 run:∀(A:Around) (outer:List Env) (s:Shared) (H:Hp) (args:Args) (us:List Value) (vs:List V) (Q:VK) (E:XK),dh k A->iP P w K mg base A outer s H->BindsTo s fd args (ps.zip us)->Vals vs us->sp vs H Q E->
  codeAny (model P w) A (.call (.ref f) args) (CR CX outer P w H s Q E) s
def gh.mono{P:Program}{w:World}{K:zz8}{mg:Str->Option Value}{base:Heap}{CX:x5}{j k:Nat}{f:Addr}{fd:FuncData}{ps:List Str}{sp:Sp}(F:gh P w K mg base CX j f fd ps sp)(h:j<=k):
 gh P w K mg base CX k f fd ps sp:=⟨F.len,λA outer s H args us vs Q E hr=>F.run A outer s H args us vs Q E (hr.mono h)⟩
def gh.imp{P:Program}{w:World}{K:zz8}{mg:Str->Option Value}{base:Heap}{CX:x5}{k:Nat}{f:Addr}{fd:FuncData}{ps:List Str}{sp VU:Sp}(F:gh P w K mg base CX k f fd ps sp)
 (h:∀vs H Q E,VU vs H Q E->sp vs H Q E):gh P w K mg base CX k f fd ps VU:=
 ⟨λvs H Q E q=>F.len vs H Q E (h _ _ _ _ q),λA outer s H args us vs Q E hr he hb hv hs=>F.run A outer s H args us vs Q E hr he hb hv (h _ _ _ _ hs)⟩
def iP.in1{P:Program}{w:World}{K:zz8}{mg:Str->Option Value}{base:Heap}{A:Around}{outer:List Env}{s:Shared}{H:Hp}(e:iP P w K mg base A outer s H):
 iP P w K mg base A.in1 outer s H:=⟨e.frames,e.mod,e.bs,e.uA,e.eV,e.uj,e.aH,e.bare⟩
section
variable{X:Cx}{aa:List (Addr×Obj)}{σ:St}{H:Hp}{s s':Shared}
def Inv.wO(I:Inv X aa σ H s):iP X.prog X.w X.K X.mg X.base X.A X.stack s H:=
 ⟨I.ok.frames,I.ok.mod,I.bs,zzU I.ok.uA I.sz,I.stack,I.kN,I.aH,I.bare⟩
def Inv.after{Q:VK}{u:Value}(I:Inv X aa σ H s)(h:CE X.stack X.prog X.w H s Q u s'):EP X aa σ Q u s':=by
 obtain⟨v,H',os,bare,un,aH,r,q⟩:=h
 obtain⟨hh,g,d,t,os'⟩:=s'
 obtain rfl:os'=s.os:=os
 exact⟨v,H',I.call (h':=hh) (g':=g) (d':=d) (t':=t) (ch:=[]) un aH bare (λb z=>absurd z (by simp)),r,q⟩
end
def Binds(K:zz8)(fd:FuncData)(ps:List Str)(ds:List Value):Prop:=
 ∀(s:Shared) (us:List Value),K.In s.heap->(us++ds).length=ps.length->BindsTo s fd ⟨us,[]⟩ (ps.zip (us++ds))
def Binds.all{K:zz8}{fd:FuncData}{ps:List Str}(h:∀us:List Value,us.length=ps.length->bindArgs fd ⟨us,[]⟩=pure (ps.zip us)):Binds K fd ps []:=λs us _ hl=>by
 rw [zz6] at hl⊢;exact .of_eq (h us hl)
def Passes(CX:x5)(X:Cx)(E:XK):Prop:=∀(aa:List (Addr×Obj)) (σ:St) (H:Hp) (s:Shared) (e:Value) (s':Shared),Inv X aa σ H s->CX X.stack H s E e s'->X.xe e s'
structure kI(N P:List Str)(sc:Scope):Prop where
 kind:sc.kind=.function
 co:sc.isCoroutine=false
 gen:sc.isGenerator=false
 nd:N.Nodup
 pre:N.take P.length=P
 par:∀x∈P,sc.names.lookup x=some .local\/sc.names.lookup x=some .cell
 M9:∀y∈sc.names,y.2≠.free
theorem nQ{kindOf:Str->Option NameKind}{x:Str}:∀{binds:List (Str×Value)} {m:Str->Option Value},(∀v,(x,v)∉binds)->bindL kindOf binds m x=m x
 |[],_,_=>rfl
 |(n,v)::r,m,h=>by
  unfold bindL;rw [nQ λw hw=>h w (zzI _ hw)]
  split
  ·have:x≠n:=by rintro rfl;exact h v zzP
   simp [this]
  ·rfl
theorem nW{kindOf:Str->Option NameKind}{x:Str}:∀{binds:List (Str×Value)} {m:Str->Option Value},(∀v,(x,v)∉binds)->bindC kindOf binds m x=m x
 |[],_,_=>rfl
 |(n,v)::r,m,h=>by
  unfold bindC;rw [nW λw hw=>h w (zzI _ hw)]
  split
  ·rfl
  ·have:x≠n:=by rintro rfl;exact h v zzP
   simp [this]
theorem oq{kindOf:Str->Option NameKind}{x:Str}{v:Value}:∀{P:List Str} {vs:List Value} {i:Nat} {m:Str->Option Value},P.Nodup->P[i]?=some x->vs[i]?=some v->kindOf x=some .local->
 bindL kindOf (P.zip vs) m x=some v
 |[],_,_,_,_,h,_,_=>by simp at h
 |_::_,[],_,_,_,_,h,_=>by simp at h
 |p::P,w::vs,0,m,nd,h1,h2,hk=>by
  simp at h1 h2;subst h1;subst h2;show bindL kindOf ((p,w)::P.zip vs) m p=_
  unfold bindL;rw [nQ λv hv=>(List.nodup_cons.mp nd).1 (List.of_mem_zip hv).1,if_pos hk]
  simp
 |p::P,w::vs,i+1,m,nd,h1,h2,hk=>by
  show bindL kindOf ((p,w)::P.zip vs) m x=_
  unfold bindL;exact oq (i:=i) (List.nodup_cons.mp nd).2 (by simpa using h1) (by simpa using h2) hk
theorem ox{kindOf:Str->Option NameKind}{x:Str}{v:Value}:∀{P:List Str} {vs:List Value} {i:Nat} {m:Str->Option Value},P.Nodup->P[i]?=some x->vs[i]?=some v->kindOf x≠some .local->
 bindC kindOf (P.zip vs) m x=some v
 |[],_,_,_,_,h,_,_=>by simp at h
 |_::_,[],_,_,_,_,h,_=>by simp at h
 |p::P,w::vs,0,m,nd,h1,h2,hk=>by
  simp at h1 h2;subst h1;subst h2;show bindC kindOf ((p,w)::P.zip vs) m p=_
  unfold bindC;rw [nW λv hv=>(List.nodup_cons.mp nd).1 (List.of_mem_zip hv).1,if_neg hk]
  simp
 |p::P,w::vs,i+1,m,nd,h1,h2,hk=>by
  show bindC kindOf ((p,w)::P.zip vs) m x=_
  unfold bindC;exact ox (i:=i) (List.nodup_cons.mp nd).2 (by simpa using h1) (by simpa using h2) hk
def start(N:List Str)(vs:List V):St:=vs.map some++List.replicate (N.length-vs.length) none
noncomputable def dj(CX:x5)(P:Program)(w:World)(K:zz8)(mg:Str->Option Value)(base:Heap)(N:List Str)(qual:Str)(scope:Scope)(f:Addr)(cd:Value)(A:Around)(outer:List Env)(s:Shared)(H:Hp)(E:XK):Cx where
 prog:=P
 w:=w
 K:=K
 mg:=mg
 base:=base
 A:=A.deeper (envOfC qual scope (zz9 s) f cd)
 N:=N
 s₀:=s
 H₀:=H
 env:=envOfC qual scope (zz9 s) f cd
 outer:=outer
 stack:=envOfC qual scope (zz9 s) f cd::outer
 ex:=[]
 calm:=true
 fn:=λ_=>true
 pn:=[]
 xe:=λe s'=>wpAny (model P w) (A.deeper (envOfC qual scope (zz9 s) f cd)) (leaving (envOfC qual scope (zz9 s) f cd) e) (λ_ Dh=>CX outer H s E e Dh) (λe' Dh=>CX outer H s E e' Dh) s'
def qB{sc:Scope}{n:Nat}{x:Str}(h:sc.names.lookup x=some .cell):∃c,(cellsFrom n sc.names []).lookup x=some c:=by
 have q:=PySem.W.cellsFrom_some sc.names n [] (.inl h)
 exact zzp.mp q
def wY{CX:x5}{P:Program}{w:World}{K:zz8}{mg:Str->Option Value}{base:Heap}{N ps:List Str}{qual:Str}{scope:Scope}{f:Addr}{cd:Value}{A:Around}{outer:List Env}{s s1:Shared}{H:Hp}{E:XK}{us:List Value}{vs:List V}
 (S:kI N ps scope) (hd:A.handled=none) (e0:iP P w K mg base A outer s H) (hl:vs.length=ps.length) (r:Vals vs us)
 (x:InCallC s (zz9 s) (bindL (envOfC qual scope (zz9 s) f cd).kindOf (ps.zip us) λ_=>none) (cellsFrom ((zz9 s)+1) scope.names []) (bindC (envOfC qual scope (zz9 s) f cd).kindOf (ps.zip us) λ_=>none) s1):
 Inv (dj CX P w K mg base N qual scope f cd A outer s H E) [] (start N vs) H s1:=by
 have hpl:ps.length<=N.length:=by have:=congrArg List.length S.pre;rw [List.length_take] at this;omega
 obtain⟨h1,tk,rfl,hk⟩:=x.done
 have Ef:∀b:Addr,b∉(dj CX P w K mg base N qual scope f cd A outer s H E).ex:=λb z=>absurd (show b∈([]:List Addr) from z) (by simp)
 refine⟨⟨e0.mod,S.kind,rfl,rfl,zzE _,λy z c h1 h2=>?_,λy hy=>?_,λy c _ h=>?_,λ_=>hd,Around.frames_deeper e0.frames,.inr ⟨rfl,rfl⟩,λb z=>absurd z (Ef b),e0.bs,e0.uA,λb _ _=>Ef b,λb z=>absurd z (Ef b),e0.eV,e0.uj⟩,
  rfl,e0.bare,Un.kept hk,⟨_,x.toInCall.ns,λi y v h1 h2 h3=>?_⟩,λy c h=>⟨_,x.cell y c h⟩,e0.aH.fresh (zzE _),λy c h=>?_,λp hp=>absurd (show p∈([]:List (Addr×Obj)) from hp) (by simp),e0.aH.kept hk,?_⟩
 ·exact name_of_addr x.apart (PySem.mem_of_lookup h1) (PySem.mem_of_lookup h2)
 ·have hy:scope.names.lookup y=some .cell\/scope.names.lookup y=some .free:=hy
  rcases hy with hy|hy
  ·exact qB hy
  ·exact absurd rfl (S.M9 _ (PySem.mem_of_lookup hy))
 ·exact Nat.le_of_lt (x.above y c (PySem.mem_of_lookup h))
 ·have hi:i<vs.length:=by
   unfold start at h2
   by_cases hi:i<vs.length
   ·exact hi
   ·rw [zzs (by simpa using hi)] at h2;rw [List.getElem?_replicate] at h2;split at h2<;>cases h2
  have ha:vs[i]?=some v:=by
   unfold start at h2;rw [zzr (by simpa using hi),zzQ] at h2;cases e:vs[i]? with
   |none=>rw [e] at h2;cases h2
   |some a=>rw [e] at h2;cases h2;rfl
  obtain⟨u,hu,rv⟩:=r.get ha
  have hp:ps[i]?=some y:=by
   rw [<-S.pre,List.getElem?_take_of_lt (by omega)];exact h1
  have V3:ps.Nodup:=by rw [<-S.pre];exact S.nd.sublist (List.take_sublist _ _)
  refine⟨u,rv,?_⟩;rcases S.par y (zzD hp) with k|k
  ·exact .inl ⟨k,oq V3 hp hu k⟩
  ·obtain⟨c,e⟩:=qB (n:=(zz9 s)+1) k
   refine .inr ⟨.inl k,c,e,?_⟩;have q:=x.cell y c e
   rw [ox V3 hp hu (by show scope.names.lookup y≠_;rw [k];decide)] at q;exact q
 ·exact e0.aH.fresh (Nat.le_of_lt (x.above y c (PySem.mem_of_lookup h)))
 ·unfold start;show _=N.length
  rw [zzM,zzl,List.length_replicate];omega
def Ra{CX:x5}{P:Program}{w:World}{K:zz8}{mg:Str->Option Value}{base:Heap}{k:Nat}{f:Addr}{name qual:Str}{params:Arguments}{body:List Stmt}{scope:Scope}{dV kV doc pm ft ct oc:Value}{an od:Option Addr}
 {uz:Array (Option Value)} {N ps:List Str} {sp:Sp} (lk:K.lookup f=some ⟨oc,od,.func (PySem.W.fnOf name qual params body scope dV kV doc pm an ft ct),uz⟩) (mS:PySem.W.codeIn K ft qual=true) (S:kI N ps scope)
 (len:∀vs H Q E,sp vs H Q E->vs.length=ps.length)
 (P4:∀(A:Around) (outer:List Env) (s:Shared) (H:Hp) (vs:List V) (Q:VK) (E:XK),dh k (A.deeper (envOfC qual scope (zz9 s) f ft))->sp vs H Q E->
  ∃t,qy (dj CX P w K mg base N qual scope f ft A outer s H E) body t/\t {nx:=λ_ H'=>Q .aK H',rt:=Q} (start N vs) H):
 gh P w K mg base CX (k+1) f (PySem.W.fnOf name qual params body scope dV kV doc pm an ft ct) ps sp:=by
 refine⟨len,λA outer s H args us vs Q E hr e0 hb r OX=>?_⟩
 have hl:=len _ _ _ _ OX
 have KX:K.In s.heap:=e0.mod.O0.keeps λb o e=>(e0.bs b o e).1
 have lim:s.heap.NoLimit:=e0.mod.nolimit.keeps λb o e=>(e0.bs b o e).1
 have QD:∀y∈ps.zip us,scope.names.lookup y.1=some .local\/(scope.names.lookup y.1=some .cell/\((cellsFrom ((zz9 s)+1) scope.names []).lookup y.1).isSome=true):=λ⟨n,v⟩ hy=>by
  rcases S.par n (List.of_mem_zip hy).1 with q|q
  ·exact .inl q
  ·exact .inr ⟨q,PySem.W.cellsFrom_some _ _ _ (.inl q)⟩
 refine codeAny_call_function hr.depth (KX _ _ lk) rfl S.co S.gen rfl (PySem.W.codeRec_of KX mS) (hb _ _ _ _ ?_);refine wpAny_newFunctionEnv_cells S.kind QD λenv he s1 x=>?_
 subst he;refine⟨lim.keeps x.toInCall.keep,codeAny_func ?_⟩;obtain⟨t,ht,hq⟩:=P4 A outer s H vs Q E (hr.deeper _) OX
 have I:Inv (dj CX P w K mg base N qual scope f ft A outer s H E) [] (start N vs) H s1:=wY S hr.hd e0 hl r x
 refine wpAny_mono (ht [] s1 (start N vs) H _ I hq) (λfl s' hs=>?_) λe s' hs=>hs
 have fin:∀{σ':St} {H':Hp} {v:V} {u:Value},Inv (dj CX P w K mg base N qual scope f ft A outer s H E) [] σ' H' s'->RelV v u->Q v H'->CE outer P w H s Q u s':=
  λ{σ' H' v u} J rv q=>⟨v,H',J.os,J.bare,J.base,J.aH,rv,q⟩
 cases fl with
 |ret u=>
  obtain⟨v,σ',H',J,rv,q⟩:=hs
  exact fin J rv q
 |next=>
  obtain⟨σ',H',J,q⟩:=hs
  exact fin (v:=V.aK) (u:=Value.none) J rfl q
 |brk=>
  obtain⟨_,_,_,q⟩:=hs
  exact zzk q
 |cont=>
  obtain⟨_,_,_,q⟩:=hs
  exact zzk q
section
variable{X:Cx}{x:Str}{p pos:Pos}{e:Expr}{es:List Expr}{t:TA}{id T:String}{r:List V->Hp->VK->Prop}
def RW(r:List V->Hp->VK->Prop)(t:TA):TE:=λσ H Q=>t σ H λvs H1=>r vs H1 Q
def b8(hc:bD X (.builtin id) r)(hg:Gl X x)(hm:X.mg x=none)(hv:bootBuiltins x=some (.builtin id))(ha:PA X (e::es) t)(hn:x≠"__name__":=by decide)(TL:(x==("__debug__":Str))=false:=by decide)
 (he:starEach (e::es) X.env=(false,eval e X.env)::starEach es X.env:=by rfl) (hpl:(backTo pos (starEach es X.env)).any (·.1)=false:=by rfl):PE X (.Call (.Name x p) (e::es) [] pos) (RW r t):=by
 intro aa s σ H Q I h;refine wpAny_Call_Name_kw (dq I hg hm hv ?_ hn TL);exact PyProof.Rows.callWith_builtin1 (bq (ha pos aa s σ H _ I h) λus s1 ⟨vs,H1,I1,r1,q1⟩=>hc aa s1 σ H1 vs us Q I1 r1 q1) he hpl
def gC(hc:bD X (.type T) r)(hg:Gl X x)(hm:X.mg x=none)(hv:bootBuiltins x=some (.type T))(ha:PA X (e::es) t)(hn:x≠"__name__":=by decide)(TL:(x==("__debug__":Str))=false:=by decide)
 (he:starEach (e::es) X.env=(false,eval e X.env)::starEach es X.env:=by rfl) (hpl:(backTo pos (starEach es X.env)).any (·.1)=false:=by rfl):PE X (.Call (.Name x p) (e::es) [] pos) (RW r t):=by
 intro aa s σ H Q I h;refine wpAny_Call_Name_kw (dq I hg hm hv ?_ hn TL);exact PyProof.Rows.callWith_type1 (bq (ha pos aa s σ H _ I h) λus s1 ⟨vs,H1,I1,r1,q1⟩=>hc aa s1 σ H1 vs us Q I1 r1 q1) he hpl
end
end L2
namespace HT
open PySem PyProof.Rows
def lexLt:List Int->List Int->Bool
 |[],[]=>false
 |[],_::_=>true
 |_::_,[]=>false
 |x::xs,y::ys=>if x=y then lexLt xs ys else decide (x<y)
theorem sS(x y:Int)(xs ys:List Int):lexLt (x::xs) (y::ys)=if x=y then lexLt xs ys else decide (x<y):=rfl
theorem nA:lexLt [] []=false:=rfl
section
def pG(n d:Nat):Option Int->Nat
 |none=>d
 |some v=>if v<0 then(v+(n:Int)).toNat else min v.toNat n
theorem Bx(n d:Nat):pG n d none=d:=rfl
end
end HT
namespace L2
open PySem PySem.Spec PyProof.Rows
abbrev TO:=St->Hp->(Option Int->Hp->Prop)->Prop
def PO(X:Cx)(e:Option Expr)(t:TO):Prop:=
 ∀(aa:List (Addr×Obj)) (s:Shared) (σ:St) (H:Hp) (Q:Option Int->Hp->Prop),Inv X aa σ H s->t σ H Q->
  wpAny (model X.prog X.w) X.A (evalPart e X.env) (λu s'=>∃o H',Inv X aa σ H' s'/\IsPart u o/\Q o H') X.xe s
def E6:TO:=λ_ H Q=>Q none H
def PU(t:TE):TO:=λσ H Q=>t σ H λx H1=>∃i,x=.int i/\Q (some i) H1
section
variable{X:Cx}{e:Expr}{te:TE}{lo hi:Option Expr}{tl th:TO}{pos p2:Pos}
def DD:PO X none E6:=by
 intro aa s σ H Q I h;rw [evalPart_none];exact zzG ⟨none,H,I,.none,h⟩
def E0(h:PE X e te):PO X (some e) (PU te):=by
 intro aa s σ H Q I hw;rw [evalPart_some];refine bq (h aa s σ H _ I hw) λu s1 ⟨x,H1,I1,r1,q1⟩=>?_
 obtain⟨i,rfl,q⟩:=q1
 obtain⟨t,rfl⟩:=r1
 exact⟨some i,H1,I1,.int i t,q⟩
def F3(X:Cx)(r:V->Option Int->Option Int->Hp->VK->Prop):Prop:=
 ∀(aa:List (Addr×Obj)) (s:Shared) (σ:St) (H:Hp) (x:V) (v vl vu:Value) (lo hi:Option Int) (sl:Addr) (Q:VK),Inv X aa σ H s->RelV x v->s.heap.IsSliceOf sl vl vu .none->IsPart vl lo->IsPart vu hi->r x lo hi H Q->
  ∃T id,typeLookup (.type T) "__getitem__"=pure (some (.builtin id))/\s.TypeIs v T/\wpAny (model X.prog X.w) X.A (getItem v (.ref sl)) (EP X aa σ Q) X.xe s
def Yv(r:V->Option Int->Option Int->Hp->VK->Prop)(te:TE)(tl th:TO):TE:=λσ H Q=>te σ H λx H1=>tl σ H1 λl H2=>th σ H2 λu H3=>r x l u H3 Q
def AK{r:V->Option Int->Option Int->Hp->VK->Prop}(hr:F3 X r)(he:PE X e te)(hl:PO X lo tl)(hu:PO X hi th):PE X (.Subscript e (.Slice lo hi none p2) pos) (Yv r te tl th):=by
 intro aa s σ H Q I h;refine Subscript_ (bq (he aa s σ H _ I h) λv s1 ⟨x,H1,I1,r1,q1⟩=>?_)
 refine wpAny_Slice (bq (hl aa s1 σ H1 _ I1 q1) λvl s2 ⟨l,H2,I2,pl,q2⟩=>bq (hu aa s2 σ H2 _ I2 q2) λvu s3 ⟨u,H3,I3,pu,q3⟩=>?_)
 rw [evalPart_none];refine zzG ?_;have I4:Inv X aa σ H3 {s3 with heap:=s3.heap.push {cls:=.type "slice",data:=.fields #[vl,vu,.none]}}:=I3.kept (t':=s3.toks) λb ob q=>zzB _ q
 obtain⟨T,id,hT,ht,hg⟩:=hr aa {s3 with heap:=s3.heap.push {cls:=.type "slice",data:=.fields #[vl,vu,.none]}} σ H3 x v vl vu l u (zz9 s3) Q I4 r1 (Heap.IsSliceOf.new ..) pl pu q3
 show wpAny (model X.prog X.w) X.A (subscriptTail e (.Slice lo hi none p2) v (.ref (zz9 s3))) (EP X aa σ Q) X.xe {s3 with heap:=s3.heap.push {cls:=.type "slice",data:=.fields #[vl,vu,.none]}}
 exact tail_any (ops:=[.ref (zz9 s3),v]) ht hT hg (by with_unfolding_all rfl)
def xm(xs:List V)(lo hi:Option Int):List V:=(xs.drop (HT.pG xs.length 0 lo)).take (HT.pG xs.length xs.length hi-HT.pG xs.length 0 lo)
def qJ(xs:List V)(lo hi:Option Int):(xm xs lo hi).length<=xs.length:=by
 unfold xm;rw [List.length_take,List.length_drop];omega
end
def vp(n:Nat)(i:Int):Option Nat:=if 0<=i then(if i<n then some i.toNat else none) else if -(n:Int)<=i then some (i+n).toNat else none
def uo{α:Type}(xs:List α)(i:Int):Option α:=(vp xs.length i).bind λj=>xs[j]?
def vv{n:Nat}{i:Int}{j:Nat}(h:vp n i=some j):seqIndex? i n=some j/\j<n/\ -(n:Int)<=i/\i<n:=by
 unfold vp at h
 by_cases h0:0<=i
 ·rw [if_pos h0] at h
  by_cases h1:i<n
  ·rw [if_pos h1] at h;have e:i.toNat=j:=zzq h
   exact⟨by rw [seqIndex_of h0 h1,e],by omega,by omega,h1⟩
  ·rw [if_neg h1] at h;cases h
 ·rw [if_neg h0] at h
  by_cases h1: -(n:Int)<=i
  ·rw [if_pos h1] at h;have e:(i+n).toNat=j:=zzq h
   exact⟨by rw [seqIndex_neg (by omega) h1,e],by omega,h1,by omega⟩
  ·rw [if_neg h1] at h;cases h
def oU{α:Type}{xs:List α}{i:Int}{v:α}(h:uo xs i=some v):∃j,seqIndex? i xs.length=some j/\xs[j]?=some v/\j<xs.length/\ -(xs.length:Int)<=i/\i<xs.length:=by
 unfold uo at h;cases e:vp xs.length i with
 |none=>rw [e] at h;cases h
 |some j=>
  rw [e] at h;obtain⟨h1,h2,h3,h4⟩:=vv e
  exact⟨j,h1,h,h2,h3,h4⟩
def pf(b:Expr):Prop:=∀o i,subscripted b false o i=operate [o,i] (getItem o i)
def OT(X:Cx)(r:R2):Prop:=
 ∀(value slice:Expr) (aa:List (Addr×Obj)) (s:Shared) (σ:St) (H:Hp) (x y:V) (v u:Value) (Q:VK),Inv X aa σ H s->RelV x v->RelV y u->r x y H Q->
  subscripted slice false v u=operate [v,u] (getItem v u)->wpAny (model X.prog X.w) X.A (subscriptTail value slice v u) (EP X aa σ Q) X.xe s
def Q8(X:Cx)(id:String)(r:V->List V->Hp->VK->Prop):Prop:=
 ∀(aa:List (Addr×Obj)) (s:Shared) (σ:St) (H:Hp) (x:V) (xs:List V) (v:Value) (us:List Value) (Q:VK),Inv X aa σ H s->RelV x v->Vals xs us->r x xs H Q->
  wpAny (model X.prog X.w) X.A (call (.builtin id) (v::us)) (EP X aa σ Q) X.xe s
section
variable{X:Cx}{a b:Expr}{ta tb:TE}{pos:Pos}
def FJ{r:R2}(hr:OT X r)(ha:PE X a ta)(hb:PE X b tb)(hs:pf b):PE X (.Subscript a b pos) (OR r ta tb):=by
 intro aa s σ H Q I h;exact Subscript_ (Mn ha hb I h λv u s2 x y H2 I2 rx ry q=>hr a b aa s2 σ H2 x y v u Q I2 rx ry q (hs _ _))
noncomputable def TQ(K:zz8):R2:=λx y H Q=>∃p xs i v,x=.ref p/\y=.int i/\df K H p xs/\uo xs i=some v/\Q v H
noncomputable def QI(K:zz8):R2:=λx y H Q=>∃p xs i v,x=.ref p/\y=.int i/\dI K H p xs/\uo xs i=some v/\Q v H
noncomputable def Su:R2:=λx y H Q=>∃z i c,x=.str z/\y=.int i/\z.length<=sizeLine/\uo z.cps.toList i=some c/\Q (.str ⟨#[c]⟩) H
def EV:OT X (TQ X.K):=by
 intro value slice aa s σ H x y v u Q I rx ry h hs;obtain⟨p,xs,i,z,rfl,rfl,hq,he,q⟩:=h
 cases rx;obtain⟨t,rfl⟩:=ry
 obtain⟨ak,r,pl,hz⟩:=I.list hq
 obtain⟨j,h1,h2,h3,h4,h5⟩:=oU he
 obtain⟨w,ew,d5⟩:=r.get h2
 have hl:=r.length
 have hn:=jy
 have fin:EP X aa σ Q w s:=⟨z,H,I,d5,q⟩
 by_cases h0:0<=i
 ·have hj:i.toNat=j:=by
   rw [seqIndex_of h0 h5] at h1;exact zzq h1
  exact item_listR pl.isList h0 (by omega) (by rw [hj];simpa using ew) fin hs
 ·have hj:(i+(ak.toArray.size:Int)).toNat=j:=by
   rw [seqIndex_neg (by omega) h4] at h1;rw [zzC,<-hl];exact zzq h1
  exact subscriptTail_builtinR (x:=w) pl.isList.typeIs slot_list_getitem.lookup
   (wpAny_getItem_list_neg (Q:=λr s'=>r=w/\EP X aa σ Q r s') pl.isList (by omega) (by rw [zzC]<;>omega) (by omega) (by rw [hj];simpa using ew) ⟨rfl,fin⟩) hs
def Ai:OT X (QI X.K):=by
 intro value slice aa s σ H x y v u Q I rx ry h hs;obtain⟨p,xs,i,z,rfl,rfl,hq,he,q⟩:=h
 cases rx;obtain⟨t,rfl⟩:=ry
 obtain⟨ak,r,pl,hz⟩:=I.tuple hq
 obtain⟨j,h1,h2,h3,h4,h5⟩:=oU he
 obtain⟨w,ew,d5⟩:=r.get h2
 have hl:=r.length
 have hn:=jy
 have fin:EP X aa σ Q w s:=⟨z,H,I,d5,q⟩
 exact subscriptTail_builtinR (x:=w) pl.typeIs slot_tuple_getitem.lookup
  (getItem_tuple (j:=j) (Q:=λr s'=>r=w/\EP X aa σ Q r s') pl (by omega) (by omega) (by rw [zzC,<-hl];exact h1) (by simpa using ew) ⟨rfl,fin⟩) hs
def KC:OT X Su:=by
 intro value slice aa s σ H x y v u Q I rx ry h hs;obtain⟨z,i,c,rfl,rfl,hz,he,q⟩:=h
 obtain⟨t,rfl⟩:=rx
 obtain⟨t',rfl⟩:=ry
 obtain⟨j,h1,h2,h3,h4,h5⟩:=oU he
 have hl:z.cps.toList.length=z.length:=by simp [Str.length]
 rw [hl] at h1 h4 h5;have hn:=jy
 exact tail_any (typeIs_str s z t) slot_str_getitem.lookup (getItem_str (c:=c) (by
  have e1:decide (i< -(2^63:Int))=false:=zz0 (by omega)
  have e2:decide (i>=2^63)=false:=zz0 (by omega)
  rw [e1,e2,Bool.or_false]) (by rw [h1];simpa using h2) ⟨.str ⟨#[c]⟩,H,I.tok _,⟨_,rfl⟩,q⟩) hs
def tZ(ak:List Value)(n j:Nat)(u:Value):Obj.mapSeq (·.setIfInBounds j u) {cls:=.type "list",data:=.seq ak.toArray n}={cls:=.type "list",data:=.seq (ak.set j u).toArray n}:=by
 simp [Obj.mapSeq]
def Inv.lst{aa:List (Addr×Obj)}{σ:St}{H:Hp}{s:Shared}{p:Addr}{xs:List V}(I:Inv X aa σ H s)(h:H p=some (.lst xs)):
 ∃(ak:List Value) (n:Nat),Vals xs ak/\s.heap.get? p=some {cls:=.type "list",data:=.seq ak.toArray n}/\xs.length<=sizeLine:=by
 obtain⟨z,ak,n,r,e⟩:=I.aH p _ h
 exact⟨ak,n,r,e,z⟩
def Inv.Mg{aa:List (Addr×Obj)}{σ:St}{H:Hp}{s:Shared}{p:Addr}{xs ys:List V}{ak its':List Value}{n n':Nat}{f:Obj->Obj}(I:Inv X aa σ H s)(h:H p=some (.lst xs))
 (ho:s.heap.get? p=some {cls:=.type "list",data:=.seq ak.toArray n}) (hf:f {cls:=.type "list",data:=.seq ak.toArray n}={cls:=.type "list",data:=.seq its'.toArray n'}) (r:Vals ys its') (hz:ys.length<=sizeLine) (t:Nat):
 Inv X aa σ (upd H p (.lst ys)) {s with heap:=s.heap.update p f,toks:=t}:=by
 have e:(s.heap.update p f).get? p=some {cls:=.type "list",data:=.seq its'.toArray n'}:=by
  rw [Heap.get?_update_self f ho (by rw [hf]<;>rfl),hf]
 refine I.write (x:=p) (e:=p) (by rw [h];trivial) (.inl rfl) (λb u hb q=>(Heap.get?_update_other _ _ (Ne.symm hb)).trans q) ⟨_,e⟩ ?_
 exact⟨hz,its',n',r,e⟩
def Rp:V->V->V->Hp->(Hp->Prop)->Prop:=λo i v H Q=>∃p xs k j,o=.ref p/\i=.int k/\H p=some (.lst xs)/\vp xs.length k=some j/\Q (upd H p (.lst (xs.set j v)))
def set_list:Oc X Rp:=by
 intro aa s σ H o i v ov iv u Q I ro ri rv h;obtain⟨p,xs,k,j,rfl,rfl,hp,hj,q⟩:=h
 cases ro;obtain⟨t,rfl⟩:=ri
 obtain⟨ak,n,r,ho,hz⟩:=I.lst hp
 obtain⟨h1,h2,h3,h4⟩:=vv hj
 have hl:=r.length
 have hn:=jy
 have I':Inv X aa σ (upd H p (.lst (xs.set j v))) {s with heap:=s.heap.update p (Obj.mapSeq (·.setIfInBounds j u))}:=
  I.Mg hp ho (tZ ak n j u) (r.set rv j) (by rw [List.length_set];exact hz) s.toks
 by_cases h0:0<=k
 ·have hk:k.toNat=j:=by
   rw [seqIndex_of h0 h4] at h1;exact zzq h1
  exact PySem.W.ki_setAt ho h0 (by omega) (by rw [zzC,<-hl];exact h4) (by rw [hk];exact⟨_,I',q⟩)
 ·have hk:(k+(ak.toArray.size:Int)).toNat=j:=by
   rw [seqIndex_neg (by omega) h3] at h1;rw [zzC,<-hl];exact zzq h1
  exact PySem.W.ki_setBack ho (by omega) (by rw [zzC,<-hl];exact h3) (by omega) (by rw [hk];exact⟨_,I',q⟩)
def qc(lo hi:Option Int)(n:Nat):(sliceBounds lo hi none n).1=((HT.pG n 0 lo:Nat):Int)/\(sliceBounds lo hi none n).2.1=((HT.pG n n hi:Nat):Int)/\(sliceBounds lo hi none n).2.2=1:=by
 refine⟨?_,?_,rfl⟩
 ·cases lo with
  |none=>simp [sliceBounds,HT.pG]
  |some i=>
   simp! [sliceBounds,HT.pG,Option.getD_none,show(1:Int)>0 by decide,if_true]
   by_cases h:i<0
   ·simp! [h,if_true]<;>omega
   ·simp! [h,if_false]<;>omega
 ·cases hi with
  |none=>simp [sliceBounds,HT.pG]
  |some i=>
   simp! [sliceBounds,HT.pG,Option.getD_none,show(1:Int)>0 by decide,if_true]
   by_cases h:i<0
   ·simp! [h,if_true]<;>omega
   ·simp! [h,if_false]<;>omega
def gV(ak:List Value)(lo hi:Option Int):slicePick ak.toArray lo hi none=((ak.drop (HT.pG ak.length 0 lo)).take (HT.pG ak.length ak.length hi-HT.pG ak.length 0 lo)).toArray:=by
 obtain⟨h1,h2,h3⟩:=qc lo hi ak.toArray.size
 unfold slicePick;rw [h1,h2,h3];simp! [sliceRange_one,pick_run,zzC]<;>rfl
def SD(K:zz8):V->Option Int->Option Int->Hp->VK->Prop:=λx lo hi H Q=>∃a xs,x=.ref a/\df K H a xs/\∀p,H p=none->Q (.ref p) (upd H p (.lst (xm xs lo hi)))
def Cu:F3 X (SD X.K):=by
 intro aa s σ H x v vl vu lo hi sl Q I rx hs pl pu h;obtain⟨a,xs,rfl,hx,q⟩:=h
 cases rx;obtain⟨ak,r,ht,hz⟩:=I.list hx
 have hlen:=r.length
 refine⟨"list",_,slot_list_getitem.lookup,ht.isList.typeIs,?_⟩;refine wpAny_getItem_list_slice ht.isList hs pl pu .none (by simp) ?_ (by rw [zzC]<;>omega);rw [gV,<-hlen];refine⟨.ref (zz9 s),_,I.laid (t':=s.toks) (o:=.lst (xm xs lo hi)) (λb ob q=>zzB _ q) (zzE _) ?_,rfl,q _ (I.aH.fresh (zzE _))⟩;exact⟨zzU (qJ xs lo hi) hz,_,0,(r.drop (HT.pG xs.length 0 lo)).take (HT.pG xs.length xs.length hi-HT.pG xs.length 0 lo),zzX _ rfl⟩
def iO:bD X (.builtin "len") (λxs H Q=>∃p ys,xs=[.ref p]/\(df X.K H p ys\/dI X.K H p ys)/\Q (.int ys.length) H):=by
 intro aa s σ H xs us Q I r h;obtain⟨p,ys,rfl,hq,q⟩:=h
 obtain⟨u,rfl,rx⟩:=vals1 r
 cases rx;have hn:=jy
 rcases hq with hq|hq
 ·obtain⟨ak,r',pl,hz⟩:=I.list hq
  have hlen:=r'.length
  exact Calls.call_len_list pl.isList (by simp! [zzC]<;>omega) ⟨.int ys.length,H,I.tok _,⟨s.toks+1,by rw [zzC,hlen]⟩,q⟩
 ·obtain⟨ak,r',pl,hz⟩:=I.tuple hq
  have hlen:=r'.length
  exact len_tuple pl (by simp! [zzC]<;>omega) ⟨.int ys.length,H,I.tok _,⟨s.toks+1,by rw [zzC,hlen]⟩,q⟩
def qj:bD X (.builtin "len") (λxs H Q=>∃z,xs=[.str z]/\z.length<=sizeLine/\Q (.int z.length) H):=by
 intro aa s σ H xs us Q I r h;obtain⟨z,rfl,hz,q⟩:=h
 obtain⟨u,rfl,t,rfl⟩:=vals1 r
 have hn:=jy
 exact len_str (by omega) ⟨.int z.length,H,I.tok _,⟨_,rfl⟩,q⟩
def oO:bD X (.type "list") (λxs H Q=>∃p ys,xs=[.ref p]/\(df X.K H p ys\/dI X.K H p ys)/\∀l,H l=none->Q (.ref l) (upd H l (.lst ys))):=by
 intro aa s σ H xs us Q I r h;obtain⟨p,ys,rfl,hq,q⟩:=h
 obtain⟨u,rfl,rx⟩:=vals1 r
 cases rx;have fin:∀(ak:List Value),Vals ys ak->ys.length<=sizeLine->∀(h':Heap) (c':Nat),(∀b o',s.heap.get? b=some o'->h'.get? b=some o')->
  h'.get? (zz9 s)=some {cls:=.type "list",dict:=none,data:=.seq ak.toArray c',slots:=#[]}->EP X aa σ Q (.ref (zz9 s)) {s with heap:=h'}:=λak r' hz h' c' kp e=>
  ⟨.ref (zz9 s),_,I.laid (t':=s.toks) kp (zzE _) (show bA X.prog X.w _ h' _ (.lst ys) from⟨hz,ak,c',r',e⟩),rfl,q _ (I.aH.fresh (zzE _))⟩
 rcases hq with hq|hq
 ·obtain⟨ak,r',pl,hz⟩:=I.list hq
  have hlen:=r'.length
  obtain⟨o,ho,hc,n,hd⟩:=pl.isList
  exact call_list_seq p (.inl rfl) ho hc hd (λh' c' kp e=>fin ak r' hz h' c' kp e) (by simp! [zzC]<;>omega)
 ·obtain⟨ak,r',pl,hz⟩:=I.tuple hq
  have hlen:=r'.length
  obtain⟨o,ho,hc,n,hd⟩:=pl
  exact call_list_seq p (.inr rfl) ho hc hd (λh' c' kp e=>fin ak r' hz h' c' kp e) (by simp! [zzC]<;>omega)
def mW:bD X (.type "tuple") (λxs H Q=>∃p ys,xs=[.ref p]/\((df X.K H p ys/\∀l,H l=none->Q (.ref l) (upd H l (.tup ys)))\/(dI X.K H p ys/\Q (.ref p) H))):=by
 intro aa s σ H xs us Q I r h;obtain⟨p,ys,rfl,h⟩:=h
 obtain⟨u,rfl,rx⟩:=vals1 r
 cases rx;rcases h with⟨hq,q⟩|⟨hq,q⟩
 ·obtain⟨ak,r',pl,hz⟩:=I.list hq
  have hlen:=r'.length
  refine call_tuple_list pl.isList (λh' kp=>?_) (by simp! [zzC]<;>omega);have I1:Inv X aa σ H {s with heap:=h'}:=I.kept (t':=s.toks) kp
  have I2:Inv X aa σ (upd H h'.objs.size (.tup ys)) {s with heap:=h'.push {cls:=.type "tuple",data:=.seq ak.toArray}}:=
   I1.laid (t':=s.toks) (λb o e=>zzB _ e) (zzE _) (show bA X.prog X.w _ _ _ (.tup ys) from⟨hz,ak,r',IsTup.new _ _⟩)
  exact⟨.ref h'.objs.size,_,I2,rfl,q _ (I1.aH.fresh (zzE _))⟩
 ·obtain⟨ak,r',pl,hz⟩:=I.tuple hq
  exact call_tuple_same pl ⟨.ref p,H,I,rfl,q⟩
def SX(K:zz8)(T:String)(x:V)(H:Hp):Prop:=match x with
 |.str _=>T="str"
 |.int _=>T="int"
 |.ref p=>(T="list"/\∃xs,df K H p xs)\/(T="tuple"/\∃o,K.lookup p=some o/\o.cls=.type "tuple"/\o.dict=none)\/
  (T="dict"/\((∃ax,H p=some (.dK ax))\/∃ax,H p=some (.dT ax)))\/(T="set"/\∃S n,H p=some (.set S n))
 |_=>False
def OM{aa:List (Addr×Obj)}{σ:St}{H:Hp}{s:Shared}{T:String}{x:V}{v:Value}(I:Inv X aa σ H s)(r:RelV x v)(ty:SX X.K T x H):
 s.TypeIs v T/\∀a,v=.ref a->∃ob,s.heap.get? a=some ob/\ob.dict=none:=by
 cases x with
 |str z=>
  obtain⟨t,rfl⟩:=r
  cases(show T="str" from ty);exact⟨typeIs_str s z t,λ_ e=>nomatch e⟩
 |int i=>
  obtain⟨t,rfl⟩:=r
  cases(show T="int" from ty);exact⟨typeIs_int s i t,λ_ e=>nomatch e⟩
 |ref p=>
  cases r;rcases ty with⟨rfl,xs,hq⟩|⟨rfl,o,hk,hc,hd⟩|⟨rfl,hk⟩|⟨rfl,S,n,hk⟩
  ·obtain⟨ak,_,pl,_⟩:=I.list hq
   refine⟨pl.isList.typeIs,λa e=>?_⟩
   cases e;obtain⟨o,n,e,c,hd,_⟩:=pl
   exact⟨o,e,hd⟩
  ·refine⟨⟨o,I.nq p o hk,hc⟩,λa e=>?_⟩
   cases e;exact⟨o,I.nq _ o hk,hd⟩
  ·have z:∃o,s.heap.get? p=some o/\o.ExactDict:=by
    rcases hk with⟨ax,hk⟩|⟨ax,hk⟩
    ·obtain⟨_,_,_,_,o,_,_,e,ex,_⟩:=I.aH p _ hk
     exact⟨o,e,ex⟩
    ·obtain⟨_,_,_,_,o,_,_,e,ex,_⟩:=I.aH p _ hk
     exact⟨o,e,ex⟩
   obtain⟨o,e,ex⟩:=z
   refine⟨⟨o,e,ex.1⟩,λa e2=>?_⟩
   cases e2;exact⟨o,e,ex.2.1⟩
  ·obtain⟨o,_,_,_,e,ex,_⟩:=I.aH p _ hk
   refine⟨⟨o,e,ex.1⟩,λa e2=>?_⟩
   cases e2;exact⟨o,e,ex.2.1⟩
 |_=>exact zzk ty
noncomputable def VD(K:zz8)(T:String)(r:V->List V->Hp->VK->Prop)(to:TE)(t:TA):TE:=λσ H Q=>to σ H λx H1=>SX K T x H1/\t σ H1 λxs H2=>r x xs H2 Q
variable{o e:Expr}{es:List Expr}{to:TE}{t:TA}{name:Str}{apos bp:Pos}{T id:String}{r:V->List V->Hp->VK->Prop}
theorem mM(pa:PlainAttrs T)(slot:Slot T name id)(FL:typeOf (.builtin id)=pure (.type "method_descriptor"))(hm:Q8 X id r)(ho:PE X o to)(ha:PA X (e::es) t)
 (d8:attributeBase o name X.env (eval o X.env)=eval o X.env:=by rfl)
 (BS:((backTo bp (starEach (e::es) X.env)).all (λx=>!x.1)&&(backToKw bp (keywordEach [] X.env)).all (λx=>x.1.isSome)
  &&decide ((e::es).length+([]:List Keyword).length+(if([]:List Keyword).isEmpty then 0 else 1)<30))=true:=by rfl)
 (eO:(apos.endLine==bp.line)=true:=by rfl) (hs:starEach (e::es) X.env=(false,eval e X.env)::starEach es X.env:=by rfl) (gY:(backTo bp (starEach es X.env)).any (·.1)=false:=by rfl):
 PE X (.Call (.Attribute o name apos) (e::es) [] bp) (VD X.K T r to t):=by
 intro aa s σ H Q I h;refine wpAny_Call_method_late d8 BS eO rfl (bq (ho aa s σ H _ I h) λv s1 ⟨x,H1,I1,r1,ty,q1⟩=>?_)
 obtain⟨h1,h2⟩:=OM I1 r1 ty
 refine⟨T,id,pa,slot,FL,h1,h2,?_⟩;have hA:=ha bp aa s1 σ H1 _ I1 q1
 rw [hs] at hA⊢;refine Calls.callWith_builtin (by show(false||(backTo bp (starEach es X.env)).any (·.1))=false;rw [gY]<;>rfl) (Calls.evalArgs_plain ?_);exact bq hA λus s2 ⟨vs,H2,I2,r2,q2⟩=>hm aa s2 σ H2 x vs v us Q I2 r1 r2 q2
end
def VE(X:Cx)(id:String)(r:V->List V->Hp->VK->Prop):Prop:=
 ∀(aa:List (Addr×Obj)) (s:Shared) (σ:St) (H:Hp) (x:V) (xs:List V) (v:Value) (us:List Value) (Q:VK),Inv X aa σ H s->RelV x v->Vals xs us->r x xs H Q->
  wpAny (model X.prog X.w) X.A (call (.builtin id) (v::us)) (EP X aa σ Q) X.xe s
theorem Vals.one:∀{x:V} {us:List Value},Vals [x] us->∃u,us=[u]/\RelV x u
 |_,_,.cons r .nil=>⟨_,rfl,r⟩
def Vals.two{x y:V}{us:List Value}(h:Vals [x,y] us):∃u v,us=[u,v]/\RelV x u/\RelV y v:=by
 cases h with
 |cons r q=>
  cases q with
  |cons q n=>cases n;exact⟨_,_,rfl,r,q⟩
theorem Vals.eraseIdx:∀{xs:List V} {us:List Value} (i:Nat),Vals xs us->Vals (xs.eraseIdx i) (us.eraseIdx i)
 |_,_,_,.nil=>.nil
 |_,_,0,.cons _ t=>t
 |_,_,i+1,.cons r t=>.cons r (Vals.eraseIdx i t)
theorem Vals.rep{xs:List V}{us:List Value}(h:Vals xs us):∀k:Nat,Vals (List.replicate k xs).flatten (List.replicate k us).flatten
 |0=>.nil
 |k+1=>by
  rw [List.replicate_succ,List.replicate_succ,List.flatten_cons,List.flatten_cons];exact Vals.append h (Vals.rep h k)
theorem nE{α:Type}:∀(l:List α) (i:Nat),(l.eraseIdx i).length<=l.length
 |[],_=>zzE _
 |_::_,0=>Nat.le_succ _
 |_::r,i+1=>Nat.succ_le_succ (nE r i)
theorem foldl_rep(ak:List Value):∀(k:Nat) (acc:List Value),
 List.foldl (λx1 x2=>x1++x2) acc.toArray (List.replicate k ak.toArray)=(acc++(List.replicate k ak).flatten).toArray
 |0,acc=>by simp
 |k+1,acc=>by
  have e:acc.toArray++ak.toArray=(acc++ak).toArray:=by simp
  have e2:(acc++ak)++(List.replicate k ak).flatten=acc++(List.replicate (k+1) ak).flatten:=by
   rw [List.replicate_succ,List.flatten_cons,List.append_assoc]
  rw [<-e2,<-foldl_rep ak k (acc++ak),<-e,List.replicate_succ,List.foldl_cons]
section
variable{X:Cx}{aa:List (Addr×Obj)}{σ:St}{H:Hp}{s:Shared}{l:Addr}{xs ys:List V}
def Inv.Ge{ak its':List Value}{n:Nat}{f:Array Value->Array Value}{t':Nat}(I:Inv X aa σ H s)(hH:H l=some (.lst xs))
 (e:s.heap.get? l=some {cls:=.type "list",data:=.seq ak.toArray n}) (hf:f ak.toArray=its'.toArray) (hv:Vals ys its') (hz:ys.length<=sizeLine):
 Inv X aa σ (upd H l (.lst ys)) {s with heap:=s.heap.update l (Obj.mapSeq f),toks:=t'}:=by
 have q:=PySem.IsL.update e f
 rw [hf] at q;refine I.write (x:=l) (e:=l) (by rw [hH];exact trivial) (.inl rfl) (λb' u hb hu=>(Heap.get?_update_other s.heap (Obj.mapSeq f) (Ne.symm hb)).trans hu) ⟨_,q⟩ ?_
 exact⟨hz,its',_,hv,q⟩
theorem Inv.Qw{ak:List Value}{t':Nat}(I:Inv X aa σ H s)(hv:Vals ys ak)(hz:ys.length<=sizeLine):
 Inv X aa σ (upd H (zz9 s) (.lst ys)) {s with heap:=s.heap.push {cls:=.type "list",data:=.seq ak.toArray},toks:=t'}:=
 I.laid (λ_ _ q=>zzB _ q) (zzE _) ⟨hz,ak,0,hv,zzX _ rfl⟩
def Inv.fresh(I:Inv X aa σ H s):H (zz9 s)=none:=I.aH.fresh (zzE _)
def Inv.Hu(I:Inv X aa σ H s)(hH:H l=some (.lst xs)):xs.length<=sizeLine/\∃(ak:List Value) (n:Nat),Vals xs ak/\xs.length=ak.length/\s.heap.get? l=some {cls:=.type "list",data:=.seq ak.toArray n}:=by
 obtain⟨z,ak,n,r,e⟩:=I.aH l _ hH
 exact⟨z,ak,n,r,r.length,e⟩
def qD{n:Nat}(h:n<=sizeLine):Builtin.List.listTooLong n=false:=by
 unfold Builtin.List.listTooLong;exact zz0 (by omega)
def DI:V->List V->Hp->VK->Prop:=λx vs H Q=>∃l xs y,x=.ref l/\vs=[y]/\H l=some (.lst xs)/\xs.length<sizeLine/\Q .aK (upd H l (.lst (xs++[y])))
def oF:VE X "list.append" DI:=by
 intro aa s σ H x vs v us Q I rx rv h;obtain⟨l,xs,y,rfl,rfl,hH,hz,q⟩:=h
 cases rx;obtain⟨u,rfl,ru⟩:=rv.one
 obtain⟨z,ak,n,r,hl,e⟩:=I.Hu hH
 refine call_meets F.slot_list_append ⟨_,e,rfl⟩ F.entry_list_append (F.args_list_append_2 _ _) (PySem.list_append l ak.toArray n u (by rw [zzC];omega)) ⟨e,?_⟩;refine⟨.aK,_,I.Ge (its':=ak++[u]) hH e (by simp) (r.append (.cons ru .nil)) ?_,rfl,q⟩;rw [zzM,List.length_singleton];omega
def KG:V->List V->Hp->VK->Prop:=λx vs H Q=>∃l xs i k y,x=.ref l/\vs=[.int i]/\H l=some (.lst xs)/\ -(2^63)<=i/\i<2^63/\seqIndex? i xs.length=some k/\xs[k]?=some y/\Q y (upd H l (.lst (xs.eraseIdx k)))
def yi:VE X "list.pop" KG:=by
 intro aa s σ H x vs v us Q I rx rv h;obtain⟨l,xs,i,k,y,rfl,rfl,hH,h1,h2,hk,hy,q⟩:=h
 cases rx;obtain⟨u,rfl,ru⟩:=rv.one
 obtain⟨t,rfl⟩:=ru
 obtain⟨z,ak,n,r,hl,e⟩:=I.Hu hH
 obtain⟨w,hw,d5⟩:=r.get hy
 refine call_meets F.slot_list_pop ⟨_,e,rfl⟩ F.entry_list_pop (F.args_list_pop_2 _ _)
  (MeetsSeq.list_pop_at l ak.toArray n i t k w (fitsIndex_both h1 h2) (by rw [zzC,<-hl];exact hk) (by rw [<-Array.getElem?_toList];exact hw) (by rw [zzC];omega)) ⟨e,?_⟩
 refine⟨y,_,I.Ge (its':=ak.eraseIdx k) hH e ?_ (r.eraseIdx k) ?_,d5,q⟩
 ·show ak.toArray.eraseIdxIfInBounds k=(ak.eraseIdx k).toArray
  rw [List.eraseIdxIfInBounds_toArray]
 ·have:=nE xs k
  omega
def len_rep{α:Type}(xs:List α)(k:Nat):(List.replicate k xs).flatten.length=k*xs.length:=by
 induction k with
 |zero=>simp
 |succ k ih=>rw [List.replicate_succ,List.flatten_cons,zzM,ih,Nat.succ_mul,Nat.add_comm]
end
end L2
namespace Att
open PySem PySem.W PySem.Calls PyProof.Rows
def j3{P:Params}{h:Heap}:∀(ns:List Int) (vs:List Value),WellAll P h vs (ns.map WData.int)->IntsAre vs ns:=by
 intro ns
 induction ns with
 |nil=>
  intro vs w;rw [List.map_nil] at w;cases w;exact .nil
 |cons n ns ih=>
  intro vs w;rw [zzF] at w;cases w with
  |cons a b=>
   cases a;exact .cons _ _ (ih _ b)
def wG{l:OpenLaw}{n:Nat}(hn:l.most=some n){P:Params}{h:Heap}{args:List WData}{vals:List Value}
 (EE:l.row.toRowW.claim.pre args=true) (Vd:WellAll P h vals args):
 ∃a vs ns,vals=[Value.ref a]/\args=[WData.list (ns.map WData.int)]/\h.get? a=some {cls:=.type "list",data:=.seq vs.toArray}/\IntsAre vs ns/\ns.length<=n:=by
 have Zr:WShape.hasAll [] args [.list .int]=true:=(pre_splitW EE).1
 have hc:l.pre.holds [] {args:=args}=true:=(pre_splitW EE).2
 obtain⟨d,r,rfl,h1,h2⟩:=hasAllW_cons Zr
 obtain rfl:=hasAllW_nil h2
 obtain⟨xs,rfl,h3⟩:=hasW_list h1
 obtain⟨ns,rfl⟩:=items_int h3
 have hlen:ns.length<=n:=by
  unfold OpenLaw.pre at hc;have h4:(WTm.not (.lt (.lit (.int (n:Int))) (.len (.arg 0)))).holds [] {args:=[.list (ns.map .int)]}=true:=by
   have h4:=(holds_andW hc).1
   rw [hn] at h4;exact h4
  have h5:=condW_of h4 (w_not (w_lt w_lit (w_len_list (w_arg rfl))))
  rw [zzl] at h5;refine Nat.le_of_not_lt λq=>?_
  have q':(n:Int)<((ns.length:Nat):Int):=by omega
  first
   |(rw [zzh q'] at h5;exact absurd h5 (by decide))
   |(simp at h5;omega)
 cases Vd with
 |cons w1 w2=>
  cases w2;cases w1 with
  |list ho hall=>exact⟨_,_,ns,rfl,rfl,ho,j3 ns _ hall,hlen⟩
theorem wH(l:OpenLaw)(args:List WData):l.row.toRowW.claim.post args (.bool true) args=true:=
 postW_of (r:=l.row.toRowW) (X:=(true==true))
  (show WShape.has [] (.bool true) .bool=true by first|rfl|decide|simp [WShape.has,WShape.arms,WShape.armsAll])
  (show(WTm.eq .res (.lit (.bool true))).value [] {args:=args,res:=some (.bool true),after:=args}=some (.bool (true==true)) from w_eq_bool (w_res rfl) w_lit) rfl
def qX{l:OpenLaw}{n:Nat}{q:Program}{loose:List Str}{XP:(Str->Option Value)->Heap->Prop}{YP:World->Heap->Prop}{d:DefRec}
 (hn:l.most=some n) (Q4:d.params.defaults=[])
 (call:∀(w:World) (s₀ s₁:Shared) (mg mb:Str->Option Value) (fa:Addr) (o:Obj) (pm cd doc:Value) (a:Addr) (vs:List Value) (ns:List Int),
  Ground q loose [] XP w s₀ mg mb s₁.heap->YP w s₁.heap->
  s₁.heap.get? fa=some o->o.data=.func (docDef d.name d.params d.body d.scope pm cd doc)->s₁.heap.CodeRec cd d.name->mg d.name=some (.ref fa)->
  s₁.heap.get? a=some {cls:=.type "list",data:=.seq vs.toArray}->IntsAre vs ns->ns.length<=n->s₁.gens=#[]->
  codeAny (model l.prog w) callerA (.call (.ref fa) ⟨[.ref a],[]⟩) (λr s'=>r=.ok (.ret (.bool true))/\OldK s₁.heap s'.heap/\s'.os=s₁.os/\AllBare s'.gens) s₁):
 WalkO q loose XP YP l.row.toRowW d [] (λf vs=>PySem.call f vs):=by
 intro w s₀ s₁ mg mb G Y fa o pm cd doc dV kV ho hd mS hD hmg hg args vals as EE hlay hrd Vd hlo;obtain rfl:dV=.none:=Dflts.none hD Q4
 obtain rfl:kV=.none:=Dflts.noKw hD
 obtain⟨a,vs,ns,rfl,rfl,hobj,hints,hlen⟩:=wG hn EE Vd
 refine enter_call (codeAny_mono (call w s₀ s₁ mg mb fa o pm cd doc a vs ns G Y ho (fd_plain hd) mS hmg hobj hints hlen hg) λr s' hq=>?_)
 obtain⟨rfl,h2,h3,h4⟩:=hq
 exact⟨.inl ⟨.bool true,.bool true,[],rfl,λ_=>rfl,.bool true,wH l _,λ_=>⟨List.Pairwise.nil,λ_ hm=>(nomatch hm)⟩⟩,h2,h3,h4⟩
section
def ledger(h:Heap)(L d:Addr):List (Addr×Obj):=(List.range h.objs.size).filterMap λa=>if a=L\/a=d then none else(h.get? a).map λo=>(a,o)
end
end Att
namespace L2
open PySem PySem.Spec PyProof.Rows
theorem nZ:∀{vs:List Value} {ns:List Int},IntsAre vs ns->Vals (ns.map V.int) vs
 |_,_,.nil=>.nil
 |_,_,.cons n t h=>.cons ⟨t,rfl⟩ (nZ h)
noncomputable def cE(s:Stmt):Arguments:=match s with
 |.FunctionDef _ a _ _ _ _ _ _ _ _=>a
 |_=>{posonlyargs:=[],args:=[],vararg:=none,kwonlyargs:=[],kw_defaults:=[],kwarg:=none,defaults:=[]}
def bW(s:Stmt):List Stmt:=match s with
 |.FunctionDef _ _ b _ _ _ _ _ _ _=>b
 |_=>[]
def aX(s:Stmt):Scope:=match s with
 |.FunctionDef _ _ _ _ _ _ sc _ _ _=>sc
 |_=>{kind:=.function,names:=[],isGenerator:=false,isCoroutine:=false}
structure Sa(K:zz8)(x qual:Str)(st:Stmt)(f:Addr)(fd:FuncData):Prop where
 ex:∃(oc:Value) (od:Option Addr) (kV doc pm:Value) (an:Option Addr) (ft ct:Value) (uz:Array (Option Value)),
  fd=PySem.W.fnOf x qual (cE st) (bW st) (aX st) .none kV doc pm an ft ct/\K.lookup f=some ⟨oc,od,.func fd,uz⟩/\PySem.W.codeIn K ft qual=true
 kp:PySem.W.keepIn K (.ref f)=true
section
variable{K:zz8}
def Sa.binds{x qual:Str}{st:Stmt}{f:Addr}{fd:FuncData}{ps:List Str}(F:Sa K x qual st f fd)
 (h:∀(kV doc pm:Value) (an:Option Addr) (ft ct:Value) (us:List Value),us.length=ps.length->bindArgs (PySem.W.fnOf x qual (cE st) (bW st) (aX st) .none kV doc pm an ft ct) ⟨us,[]⟩=pure (ps.zip us)):Binds K fd ps []:=by
 obtain⟨oc,od,kV,doc,pm,an,ft,ct,uz,rfl,lk,mS⟩:=F.ex
 exact .all (h kV doc pm an ft ct)
def zt{x qual:Str}{st:Stmt}{f:Addr}{oc:Value}{od an:Option Addr}{uz:Array (Option Value)}{kV doc pm ft ct:Value}(l:K.lookup f=some ⟨oc,od,.func (PySem.W.fnOf x qual (cE st) (bW st) (aX st) .none kV doc pm an ft ct),uz⟩)
 (c:PySem.W.codeIn K ft qual=true) (k:PySem.W.keepIn K (.ref f)=true):Sa K x qual st f (PySem.W.fnOf x qual (cE st) (bW st) (aX st) .none kV doc pm an ft ct):=⟨⟨oc,od,kV,doc,pm,an,ft,ct,uz,rfl,l,c⟩,k⟩
variable{X:Cx}
theorem pv(i:Nat){x:Str}{pos:Pos}(hN:X.N[i]?=some x:=by rfl)(hv:OZ X.env.scope x:=by first|exact Or.inl rfl|exact Or.inr (Or.inl rfl)|exact Or.inr (Or.inr rfl))(hd:(x==("__debug__":Str))=false:=by decide)
 (mS:(x==("__classdict__":Str))=false:=by decide):PE X (.Name x pos) (ue i):=dS hN hv hd mS
end
def UX{A B:Prop}(h:B):if false=true then A else B:=by
 rw [if_neg zzf];exact h
def UD{A B:Prop}(h:A):if true=true then A else B:=by
 rw [if_pos rfl];exact h
def az(H H':Hp):Prop:=∀b o,H b=some o->H' b=some o
def az.refl(H:Hp):az H H:=λ_ _ h=>h
def az.trans{H H1 H2:Hp}(a:az H H1)(b:az H1 H2):az H H2:=λc o h=>b c o (a c o h)
def az.free{H H':Hp}(e:az H H'){l:Addr}(h:H' l=Option.none):H l=Option.none:=by
 cases q:H l with
 |none=>rfl
 |some o=>
  rw [e l o q] at h;cases h
def az.seq{K:zz8}{H H':Hp}{a:Addr}{xs:List V}(e:az H H')(h:df K H a xs):df K H' a xs:=by
 rcases h with(h|⟨o,h⟩)|h
 ·exact .inl (.inl (e _ _ h))
 ·exact .inl (.inr ⟨o,e _ _ h⟩)
 ·exact .inr h
end L2
set_option maxHeartbeats 8000000
namespace L2
open PySem PySem.Spec PyProof.Rows
open PySem.W (hideAll hideAll_get of_hideAll funFrames_hide)
structure A8(P:Program)(w:World)(outer:List Env)(H:Hp)(s:Shared)(E:XK)(a C t:Addr)(vs:List Value)(H':Hp)(B:Heap)(s':Shared):Prop where
 os:s'.os=s.os
 bare:AllBare s'.gens
 aH:dE P w H' B
 xq:Heap.FlyingW B outer a (.ref C) (.ref t) s'.heap
 tn:B.get? t=none
 tup:s'.heap.TupAt t vs
 dw:∀b o,s.heap.get? b=some o->H b=none->b∉dD outer->B.get? b=some o
 bZ:∀b o,s.heap.get? b=some o->b∉dD outer->∃o',B.get? b=some o'
 un:Un (dD outer) [] H H' s.heap s'.heap
 ends:E (.ref C) (some a) H'
def du(P:Program)(w:World):x5:=λouter H s E e s'=>∃a C t vs H' B,e=.ref a/\A8 P w outer H s E a C t vs H' B s'
section
variable{P:Program}{w:World}{K:zz8}{mg:Str->Option Value}{base:Heap}{N:List Str}{qual:Str}{scope:Scope}{f:Addr}{cd:Value}{A:Around}{outer:List Env}{s0:Shared}{H0:Hp}{E:XK}
def jY{X:Cx}{aa:List (Addr×Obj)}{σ:St}{H:Hp}{s:Shared}(I:Inv X aa σ H s){b:Addr}{o:Obj}(hl:X.env.locals=X.s₀.heap.objs.size)(q:X.s₀.heap.get? b=some o)(hb:b∉X.fs):b∉dD X.stack:=λz=>by
 rcases zzm.mp (I.iq b z) with e|e
 ·rw [hl] at e;exact absurd (zzO q) (by rw [e];exact Nat.lt_irrefl _)
 ·exact hb e
def Pq:Passes (du P w) (dj (du P w) P w K mg base N qual scope f cd A outer s0 H0 E) E:=by
 rintro aa σ H s e s' I ⟨a,C,t,vs,H',B,rfl,F⟩
 have nx:∀b:Addr,b∉(dj (du P w) P w K mg base N qual scope f cd A outer s0 H0 E).ex:=λb z=>nomatch (show b∈([]:List Addr) from z)
 have dw:∀b o,s0.heap.get? b=some o->H0 b=none->b∉dD outer->B.get? b=some o:=λb o q n hb=>
  F.dw b o (I.base.keep b o q n hb (nx b)) (I.base.free b o q n (nx b)) (jY I rfl q hb)
 have bZ:∀b o,s0.heap.get? b=some o->b∉dD outer->∃o',B.get? b=some o':=λb o q hb=>by
  obtain⟨o1,q1⟩:=I.base.there b o q (nx b)
  exact F.bZ b o1 q1 (jY I rfl q hb)
 refine wpAny_leaves_onW I.ok.frames rfl F.xq λh' x1 x2=>⟨a,C,t,vs,H',B,rfl,?_⟩
 have slot:∀b o,s0.heap.get? b=some o->H0 b=none->b∈dD outer->∃sl,h'.get? b=some {o with slots:=sl}:=λb o q n hb=>by
  obtain⟨sl,q1⟩:=I.base.slot b o q n hb (nx b)
  obtain⟨sl2,q2⟩:=F.un.any q1 (I.base.free b o q n (nx b)) (λz=>nomatch z)
  obtain⟨_,o',q3,hd⟩:=F.xq.2.2.1.mem (b:=b) (zz1.mpr (let⟨v,h1,h2⟩:=zz1.mp hb;⟨v,.tail _ h1,h2⟩))
  rw [q2] at q3;cases q3;obtain⟨sl3,q4⟩:=x2 b _ q2 hd
  exact⟨sl3,q4⟩
 refine⟨F.os.trans I.os,F.bare,F.aH,x1,F.tn,F.tup.of_slots x2,dw,bZ,⟨λb o q n hb _=>x1.1 _ _ (dw b o q n hb),λb o q n hb _=>slot b o q n hb,λb o q n _=>?_,λb o q _=>?_,λb xs q=>F.un.fB _ _ (I.base.fB _ _ q),λb o u q=>F.un.ei _ _ _ (I.base.ei _ _ _ q),λb ps q=>?_⟩,F.ends⟩
 ·obtain⟨sl,q1⟩:=I.base.any q n (nx b)
  exact F.un.free b _ q1 (I.base.free b o q n (nx b)) (λz=>nomatch z)
 ·by_cases hb:b∈dD outer
  ·obtain⟨sl,q1⟩:=slot b o q (I.ok.uj b hb) hb
   exact⟨_,q1⟩
  ·obtain⟨o',q1⟩:=bZ b o q hb
   exact⟨o',x1.1 _ _ q1⟩
 ·obtain⟨m1,q1⟩:=I.base.fe b ps q
  obtain⟨m2,q2⟩:=F.un.fe b _ q1
  exact⟨m1++m2,by rw [<-Array.append_assoc];exact q2⟩
def NM{aa:List (Addr×Obj)}{σ:St}{H:Hp}{s:Shared}{h1:Heap}{e C:Addr}{us:List Value}(I:Inv (dj (du P w) P w K mg base N qual scope f cd A outer s0 H0 E) aa σ H s)
 (hx:Heap.MadeExcOf s.heap h1 e (.ref C) us) (hE:E (.ref C) (some e) H):(dj (du P w) P w K mg base N qual scope f cd A outer s0 H0 E).xe (.ref e) {s with heap:=h1}:=by
 have nx:∀b:Addr,b∉(dj (du P w) P w K mg base N qual scope f cd A outer s0 H0 E).ex:=λb z=>nomatch (show b∈([]:List Addr) from z)
 have Vs:∀env∈(dj (du P w) P w K mg base N qual scope f cd A outer s0 H0 E).stack,∀b,env.frame=some b->b∈dD (dj (du P w) P w K mg base N qual scope f cd A outer s0 H0 E).stack:=λenv he b hb=>zz1.mpr ⟨env,he,hb⟩
 refine wpAny_leaves_madeW (h:=s.heap) I.ok.frames rfl (λb o q=>of_hideAll _ q) (funFrames_hide I.stack Vs) hx λh' t x1 x2 x3 x4=>⟨e,C,t,us,H,hideAll s.heap (dD (dj (du P w) P w K mg base N qual scope f cd A outer s0 H0 E).stack),rfl,?_⟩
 have dw:∀b o,s0.heap.get? b=some o->H0 b=none->b∉dD outer->(hideAll s.heap (dD (dj (du P w) P w K mg base N qual scope f cd A outer s0 H0 E).stack)).get? b=some o:=λb o q n hb=>
  hideAll_get _ (I.base.keep b o q n hb (nx b)) (jY I rfl q hb)
 have bZ:∀b o,s0.heap.get? b=some o->b∉dD outer->∃o',(hideAll s.heap (dD (dj (du P w) P w K mg base N qual scope f cd A outer s0 H0 E).stack)).get? b=some o':=λb o q hb=>by
  obtain⟨o1,q1⟩:=I.base.there b o q (nx b)
  exact⟨o1,hideAll_get _ q1 (jY I rfl q hb)⟩
 have slot:∀b o,s0.heap.get? b=some o->H0 b=none->b∈dD outer->∃sl,h'.get? b=some {o with slots:=sl}:=λb o q n hb=>by
  obtain⟨sl,q1⟩:=I.base.slot b o q n hb (nx b)
  obtain⟨_,o',q3,hd⟩:=I.stack.mem (b:=b) (zz1.mpr (let⟨v,h1,h2⟩:=zz1.mp hb;⟨v,.tail _ h1,h2⟩))
  rw [q1] at q3;cases q3;obtain⟨sl3,q4⟩:=x4 b _ (hx.keeps _ _ q1) hd
  exact⟨sl3,q4⟩
 refine⟨I.os,I.bare,λb o q=>?_,x1,x3,x2,dw,bZ,⟨λb o q n hb _=>x1.1 _ _ (dw b o q n hb),λb o q n hb _=>slot b o q n hb,λb o q n _=>I.base.free b o q n (nx b),λb o q _=>?_,I.base.fB,I.base.ei,I.base.fe⟩,hE⟩
 ·refine(I.aH b o q).di (λc v hc r=>hideAll_get _ r λz=>?_) (λ_ q=>q) λ_ _ q=>q
  have z':=I.kN c z
  rcases hc with rfl|hc
  ·rw [q] at z';cases z'
  ·rw [hc] at z';cases z'
 ·by_cases hb:b∈dD outer
  ·obtain⟨sl,q1⟩:=slot b o q (I.ok.uj b hb) hb
   exact⟨_,q1⟩
  ·obtain⟨o',q1⟩:=bZ b o q hb
   exact⟨o',x1.1 _ _ q1⟩
end
def j1{P:Program}{w:World}{H:Hp}{h:Heap}{a:Addr}{o:HO}(x:bA P w H h a o):∃o',h.get? a=some o':=by
 cases o with
 |lst xs=>obtain⟨_,_,_,_,e⟩:=x;exact⟨_,e⟩
 |tup xs=>obtain⟨_,_,_,o,e,_⟩:=x;exact⟨_,e⟩
 |dK ax=>obtain⟨_,_,_,_,o,_,_,e,_⟩:=x;exact⟨_,e⟩
 |dT ax=>obtain⟨_,_,_,_,o,_,_,e,_⟩:=x;exact⟨_,e⟩
 |set S n=>obtain⟨o,_,_,_,e,_⟩:=x;exact⟨_,e⟩
 |ins C dx fs=>obtain⟨_,_,_,e,_⟩:=x;exact⟨_,e⟩
 |own y=>exact x
 |xd fs=>obtain⟨_,⟨_,_,_,e,_⟩,_⟩:=x;exact⟨_,e⟩
 |mi lo hi=>obtain⟨_,_,_,e⟩:=x;exact⟨_,e⟩
 |bt ob u=>obtain⟨e,_⟩:=x;exact⟨_,e⟩
 |fC ps=>exact⟨_,x⟩
 |met f y=>exact⟨_,x⟩
 |ext φ=>exact x.2.1
def L7(C:Addr)(E:XK)(ta:TA):TS:=λ_ σ H=>ta σ H λvs H1=>vs.length<=sizeLine/\∀e,H1 e=none->E (.ref C) (some e) H1
section
variable{P:Program}{w:World}{K:zz8}{mg:Str->Option Value}{base:Heap}{N:List Str}{qual:Str}{scope:Scope}{f:Addr}{cd:Value}{A:Around}{outer:List Env}{s0:Shared}{H0:Hp}{E:XK}
theorem BP{x:Str}{C:Addr}{Bn newId JE:String}{bm:List Value}{e₀:Expr}{rest:List Expr}{np bp pos:Pos}{ta:TA}(hg:Gl (dj (du P w) P w K mg base N qual scope f cd A outer s0 H0 E) x)(O:OwnCls x C bm newId mg base)(FB:ExcBaseFacts Bn newId JE bm)
 (ha:PA (dj (du P w) P w K mg base N qual scope f cd A outer s0 H0 E) (e₀::rest) ta)
 (he:starEach (e₀::rest) (dj (du P w) P w K mg base N qual scope f cd A outer s0 H0 E).env=(false,eval e₀ (dj (du P w) P w K mg base N qual scope f cd A outer s0 H0 E).env)::starEach rest (dj (du P w) P w K mg base N qual scope f cd A outer s0 H0 E).env:=by rfl)
 (gY:(backTo bp (starEach rest (dj (du P w) P w K mg base N qual scope f cd A outer s0 H0 E).env)).any (·.1)=false:=by rfl) (hd:(x==("__debug__":Str))=false:=by decide):
 PS (dj (du P w) P w K mg base N qual scope f cd A outer s0 H0 E) (.Raise (some (.Call (.Name x np) (e₀::rest) [] bp)) none pos) (L7 C E ta):=by
 intro aa s σ H D I h;obtain⟨tl,Nn,nm,q,bs,hdct,sn,sub,ab,col,dd,k0,k1,k2,k3,k5,mN,hC,hN,hni,T⟩:=O.obj
 refine wpAny_Raise_call_subT (C:=C) (nm:=nm) (q:=q) (N:=Nn) (bs:=bs) (bm:=tl) (hdct:=hdct) (sn:=sn) (sub:=sub) (ab:=ab) (col:=col) (dd:=dd) (k0:=k0) (k1:=k1) (k2:=k2) (k3:=k3) (k5:=k5)
  FB (mN:=mN) (T.hasType FB.hasBase) (I.ok.hd rfl) (by rw [he];show(false||(backTo bp (starEach rest (dj (du P w) P w K mg base N qual scope f cd A outer s0 H0 E).env)).any (·.1))=false;rw [gY];rfl) hni (dZ I hg O.bound ⟨rfl,?_⟩ hd)
 have h2:=ha bp aa s σ H _ I h
 rw [he] at h2⊢;refine Calls.evalArgs_plain (wpAny_mono h2 (λus s2 ⟨vs,H1,I1,rv,hl,hE⟩=>?_) λ_ _ y=>y)
 refine⟨rfl,by rw [<-rv.length];exact hl,I1.bk _ _ hC,hN.keeps I1.bk,T.keeps I1.bk,λh1 e hx=>NM I1 hx (hE e ?_)⟩
 cases z:H1 e with
 |none=>rfl
 |some o=>
  obtain⟨o',jl⟩:∃o',s2.heap.get? e=some o':=by
   exact j1 (I1.aH _ _ z)
  rw [hx.new] at jl;cases jl
end
def iM(a C:Addr):HO:=.ext λh=>∃ob vs,h.get? a=some ob/\ob.cls=.ref C/\ob.data=.fields vs
section
variable{P:Program}{w:World}
def A8.fresh{outer:List Env}{H:Hp}{s s':Shared}{E:XK}{a C t:Addr}{vs:List Value}{H':Hp}{B:Heap}(F:A8 P w outer H s E a C t vs H' B s'):H' a=none:=by
 cases z:H' a with
 |none=>rfl
 |some o=>
  obtain⟨o',jl⟩:=j1 (F.aH _ _ z)
  rw [F.xq.2.1] at jl;cases jl
def Inv.yZ{X:Cx}{aa:List (Addr×Obj)}{σ:St}{H:Hp}{s s':Shared}{E:XK}{a C t:Addr}{vs:List Value}{H':Hp}{B h6:Heap}{tk:Nat}(I:Inv X aa σ H s)(F:A8 X.prog X.w X.stack H s E a C t vs H' B s')
 (hf:Heap.FlyingW B X.stack a (.ref C) (.ref t) h6) (hs:s'.heap.UpToSlots h6):Inv X aa σ (upd H' a (iM a C)) {s' with heap:=h6,toks:=tk}:=by
 have ha:=F.fresh
 obtain⟨oa,va,ea,ca,da,_⟩:=hf.first
 have frame:∀b,b∈dD X.stack->∃o,h6.get? b=some o/\∀vs,o.data≠.fields vs:=λb hb=>(hf.2.2.1.mem hb).2
 have ne:∀b o,s.heap.get? b=some o->b≠a:=λb o q z=>by
  subst z
  by_cases hb:b∈dD X.stack
  ·obtain⟨o',q',hd⟩:=frame b hb
   rw [ea] at q';cases q';exact hd _ da
  ·obtain⟨o',q'⟩:=F.bZ b o q hb
   rw [F.xq.2.1] at q';cases q'
 have slot:∀b o,s.heap.get? b=some o->H b=none->b∈dD X.stack->∃sl,h6.get? b=some {o with slots:=sl}:=λb o q n hb=>by
  obtain⟨sl2,q2⟩:=F.un.any q n (λz=>nomatch z)
  obtain⟨_,o',q3,hd⟩:=F.xq.2.2.1.mem (b:=b) hb
  rw [q2] at q3;cases q3;obtain⟨sl3,q4⟩:=hs b _ q2 hd
  exact⟨sl3,q4⟩
 have un:Un (dD X.stack) [] H (upd H' a (iM a C)) s.heap h6:=by
  refine⟨λb o q n hb _=>hf.1 _ _ (F.dw b o q n hb),λb o q n hb _=>slot b o q n hb,λb o q n _=>?_,λb o q _=>?_,λb xs q=>?_,λb o u q=>?_,λb ps q=>?_⟩
  ·rw [ag (ne b o q)];exact F.un.free b o q n (λz=>nomatch z)
  ·by_cases hb:b∈dD X.stack
   ·obtain⟨o',q',_⟩:=frame b hb
    exact⟨o',q'⟩
   ·obtain⟨o',q1⟩:=F.bZ b o q hb
    exact⟨o',hf.1 _ _ q1⟩
  ·have q1:=F.un.fB b xs q
   rw [ag (bu q1 ha)];exact q1
  ·have q1:=F.un.ei b o u q
   rw [ag (bu q1 ha)];exact q1
  ·obtain⟨m,q1⟩:=F.un.fe b ps q
   exact⟨m,by rw [ag (bu q1 ha)];exact q1⟩
 have aH:dE X.prog X.w (upd H' a (iM a C)) h6:=λb o q=>by
  by_cases hb:b=a
  ·subst hb;rw [aj] at q;cases q;exact⟨⟨oa,va,ea,ca,da⟩,⟨oa,ea⟩,λh1 h2 ⟨ob,vs,e1,e2,e3⟩ k=>⟨ob,vs,k _ e1,e2,e3⟩⟩
  ·rw [ag hb] at q;exact(F.aH b o q).di (λc v hc r=>hf.1 _ _ r) (λc r=>by rw [ag (bu r ha)];exact r) λc xs r=>by rw [ag (bu r ha)];exact r
 obtain⟨hh,g,d,tt,os'⟩:=s'
 obtain rfl:os'=s.os:=F.os
 have fin:=I.call (h':=h6) (g':=g) (d':=d) (t':=tk) (ch:=[]) un aH F.bare (λb z=>absurd z (by simp))
 exact fin
end
def bx(env:Env)(ys:List Str):List (Str×Addr):=ys.map λy=>(y,(env.cells.lookup y).getD 0)
def BH(σ:St)(is:List Nat):St:=is.map λi=>(σ[i]?).join
def lU(scope:Scope)(x:Str):Bool:=scope.names.lookup x==some .cell
theorem sX{x:Str}{c:Addr}:∀(names:List (Str×NameKind)) (n:Nat) (acc:List (Str×Addr)),(x,c)∈cellsFrom n names acc->(x,c)∈acc\/(x,NameKind.cell)∈names/\n<=c
 |[],n,acc,h=>by rw [cellsFrom.eq_def] at h;exact .inl h
 | (y,k)::r,n,acc,h=>by
  rw [cellsFrom.eq_def] at h;dsimp only at h;split at h
  ·rename_i hk;cases eq_of_beq hk;rcases sX r (n+1) _ h with z|⟨z1,z2⟩
   ·rcases zzm.mp z with z|z
    ·cases z;exact .inr ⟨zzP ..,zzE _⟩
    ·exact .inl z
   ·exact .inr ⟨zzI _ z1,Nat.le_of_succ_le z2⟩
  ·rcases sX r n _ h with z|⟨z1,z2⟩
   ·exact .inl z
   ·exact .inr ⟨zzI _ z1,z2⟩
theorem oN{x:Str}{c:Addr}:∀(names:List (Str×NameKind)) (n:Nat) (acc:List (Str×Addr)),(cellsFrom n names acc).lookup x=some c->acc.lookup x=some c\/(x,NameKind.cell)∈names/\n<=c
 |[],n,acc,h=>by rw [cellsFrom.eq_def] at h;exact .inl h
 | (y,k)::r,n,acc,h=>by
  rw [cellsFrom.eq_def] at h;dsimp only at h;split at h
  ·rename_i hk;cases eq_of_beq hk;rcases oN r (n+1) _ h with z|⟨z1,z2⟩
   ·rw [zz5] at z;cases e:x==y with
    |true=>rw [e] at z;cases z;cases eq_of_beq e;exact .inr ⟨zzP ..,zzE _⟩
    |false=>rw [e] at z;exact .inl z
   ·exact .inr ⟨zzI _ z1,Nat.le_of_succ_le z2⟩
  ·rcases oN r n _ h with z|⟨z1,z2⟩
   ·exact .inl z
   ·exact .inr ⟨zzI _ z1,z2⟩
theorem p7{x:Str}:∀(names:List (Str×NameKind)) (n:Nat) (acc:List (Str×Addr)),(x,NameKind.cell)∉names->(cellsFrom n names acc).lookup x=acc.lookup x
 |[],n,acc,_=>by rw [cellsFrom.eq_def]
 |(y,k)::r,n,acc,h=>by
  rw [cellsFrom.eq_def];dsimp only;have hr:(x,NameKind.cell)∉r:=λz=>h (zzI _ z)
  split
  ·rename_i hk;cases eq_of_beq hk;rw [p7 r (n+1) _ hr,zz5];cases e:x==y with
   |true=>cases eq_of_beq e;exact absurd (zzP ..) h
   |false=>rfl
  ·exact p7 r n acc hr
theorem IY{x:Str}{c:Addr}:∀(names:List (Str×NameKind)) (n:Nat) (acc:List (Str×Addr)),(x,c)∈cellsFrom n names acc->(∀p∈acc,p.2≠c)->(x,c)∈cellsFrom n names []
 |names,n,acc,h,ha=>by
  have key:∀(names:List (Str×NameKind)) (n:Nat) (acc b:List (Str×Addr)),(x,c)∈cellsFrom n names (b++acc)->(∀p∈acc,p.2≠c)->(x,c)∈cellsFrom n names b:=by
   intro names
   induction names with
   |nil=>
    intro n acc b h ha;rw [cellsFrom.eq_def] at h⊢;rcases List.mem_append.mp h with z|z
    ·exact z
    ·exact absurd rfl (ha _ z)
   |cons y r ih=>
    intro n acc b h ha;obtain⟨y,k⟩:=y
    rw [cellsFrom.eq_def] at h⊢;dsimp only at h⊢;split at h
    ·rename_i hk;rw [if_pos hk];exact ih (n+1) acc ((y,n)::b) h ha
    ·rename_i hk;rw [if_neg hk];exact ih n acc b h ha
  exact key names n acc [] h ha
theorem pV{x y:Str}{c:Addr}:∀(names:List (Str×NameKind)) (n:Nat) (acc:List (Str×Addr)),(∀p∈acc,p.2<n)->n<=c->(x,c)∈cellsFrom n names acc->(y,c)∈cellsFrom n names acc->x=y
 |[],n,acc,ha,hc,h1,h2=>by
  rw [cellsFrom.eq_def] at h1;exact absurd (ha _ h1) (Nat.not_lt.mpr hc)
 | (z,k)::r,n,acc,ha,hc,h1,h2=>by
  rw [cellsFrom.eq_def] at h1 h2;dsimp only at h1 h2;split at h1
  ·rename_i hk;rw [if_pos hk] at h2;have Zu:∀p∈(z,n)::acc,p.2<n+1:=λp hp=>by
    rcases zzm.mp hp with q|q
    ·rw [q];exact Nat.lt_succ_self _
    ·exact Nat.lt_succ_of_lt (ha p q)
   by_cases hn:n+1<=c
   ·exact pV r (n+1) _ Zu hn h1 h2
   ·have one:∀{w:Str},(w,c)∈cellsFrom (n+1) r ((z,n)::acc)->w=z:=λ{w} h=>by
     rcases sX r (n+1) _ h with q|q
     ·rcases zzm.mp q with q|q
      ·cases q;rfl
      ·exact absurd (ha _ q) (Nat.not_lt.mpr hc)
     ·exact absurd q.2 hn
    rw [one h1,one h2]
  ·rename_i hk;rw [if_neg hk] at h2;exact pV r n acc ha hc h1 h2
def tJ{M:Model}{A:Around}{E:Value->Shared->Prop}{s:Shared}{scope:Scope}{g:Addr}{cl:List (Str×Addr)}{qual:Str}{around:Env}{Q:Env->Shared->Prop}
 (h:Q (newEnv scope (zz9 s) g (cellsFrom ((zz9 s)+1) scope.names cl) qual none .none (some around) builtinsNs) {s with heap:=pushCells (s.heap.push {cls:=.type "dict",data:=.dict #[]}) scope.names}):
 wpAny M A (newFunctionEnv scope g cl [] qual none .none (some around)) Q E s:=by
 unfold newFunctionEnv;refine zzA (wpAny_alloc ?_);refine zzA (wpAny_forIn_list _ (λrest b s'=>s'={s with heap:=s'.heap}/\pushCells s'.heap rest=pushCells (s.heap.push {cls:=.type "dict",data:=.dict #[]}) scope.names/\cellsFrom (zz9 s') rest b=cellsFrom ((zz9 s)+1) scope.names cl) _ (λx rest b s' hI=>?_) (λb s' hI=>?_) scope.names cl ⟨rfl,rfl,by rw [Heap.size_push]⟩)
 ·obtain⟨h1,h2,h3⟩:=hI
  obtain⟨nm,k⟩:=x
  rw [pushCells.eq_def] at h2;rw [cellsFrom.eq_def] at h3;dsimp only at h2 h3⊢;split
  ·rename_i hk;rw [if_pos hk] at h2 h3;refine zzA (wpAny_alloc (zzG ⟨by rw [h1],h2,?_⟩));dsimp only;rw [Heap.size_push];exact h3
  ·rename_i hk;rw [if_neg hk] at h2 h3;exact zzG ⟨h1,h2,h3⟩
 ·obtain⟨h1,h2,h3⟩:=hI
  rw [pushCells.eq_def] at h2;rw [cellsFrom.eq_def] at h3;dsimp only at h2 h3;subst h3;rw [h1,h2];exact zzA (zzG (zzG h))
noncomputable def bH(X:Cx)(N':List Str)(scope:Scope)(cl:List (Str×Addr))(fp:List Addr)(s₁:Shared)(H₁:Hp)(C:Addr):Cx where
 prog:=X.prog
 w:=X.w
 K:=X.K
 mg:=X.mg
 base:=X.base
 A:=X.A
 N:=N'
 s₀:=s₁
 H₀:=H₁
 env:=compEnvC scope (cellsFrom (C+1) scope.names cl) C X.env
 outer:=X.stack
 stack:=X.stack
 ex:=fp
 fn:=lU scope
 calm:=true
 pn:=[]
 xe:=λ_ _=>False
theorem d7{env:Env}:∀{ys:List Str},(ys.all λy=>(env.cells.lookup y).isSome)=true->∀(x:Str) (c:Addr),(bx env ys).lookup x=some c->env.cells.lookup x=some c
 |[],_,_,_,h=>by simp [bx] at h
 |y::ys,ha,x,c,h=>by
  rw [List.all_cons,zza] at ha;have ih:=d7 (env:=env) ha.2 x c
  unfold bx at h ih;rw [zzF,zz5] at h;cases e:x==y with
  |true=>
   rw [e] at h;have Ul:x=y:=zzy.mp e
   subst Ul;obtain⟨c',fE⟩:=zzp.mp ha.1
   rw [fE] at h⊢;exact h
  |false=>
   rw [e] at h;exact ih h
theorem iX{env:Env}:∀{ys:List Str} {x:Str},x∈ys->∃c,(bx env ys).lookup x=some c
 |[],_,h=>nomatch h
 |y::ys,x,h=>by
  unfold bx;rw [zzF,zz5];cases e:x==y with
  |true=>exact⟨_,rfl⟩
  |false=>
   have hx:x∈ys:=by
    rcases zzm.mp h with z|z
    ·rw [z] at e;simp at e
    ·exact z
   exact iX (env:=env) hx
def jZ{scope:Scope}{env:Env}{x:Str}{k:NameKind}(h:(relabel scope env).names.lookup x=some k)(hk:k=.cell\/k=.free):∃k',(x,k')∈scope.names/\(k'=.cell\/k'=.free):=by
 have hm:=PySem.mem_of_lookup h
 unfold relabel at hm;obtain⟨⟨n,k0⟩,h0,e⟩:=zzx.mp hm
 dsimp only at e;split at e
 ·rename_i hc;cases e;refine⟨k0,h0,.inr ?_⟩;rw [zza,zza] at hc;exact zzy.mp hc.1.1
 ·cases e;exact⟨k,h0,hk⟩
structure er(X:Cx)(scope:Scope)(xs ys:List Str)(is:List Nat):Prop where
 kind:scope.kind=.function
 Td:closureFor scope X.env=pure (bx X.env ys)
 cells:(ys.all λy=>(X.env.cells.lookup y).isSome)=true
 Ov:(scope.names.all λy=>(decide (y.2≠.cell)||!ys.contains y.1)&&(decide (y.2≠.free)||ys.contains y.1))=true
 own:(scope.names.all λy=>decide (y.2≠.cell)||decide (scope.names.lookup y.1=some .cell))=true
 names:(scope.names.all λy=>decide (y.2≠.local)||decide (scope.names.lookup y.1=some .local))=true
 slots:is.map (λi=>X.N[i]?)=ys.map some
 kX:(ys.all λy=>decide (X.env.kindOf y=some .cell))=true
 kY:(ys.all λy=>decide ((relabel scope X.env).names.lookup y=some .cell))=true
section
variable{X:Cx}{aa:List (Addr×Obj)}{σ:St}{H:Hp}{s:Shared}{scope:Scope}{xs ys:List Str}{is:List Nat}
def er.mH(S:er X scope xs ys is){x:Str}(h:(x,NameKind.cell)∈scope.names):scope.names.lookup x=some .cell/\x∉ys:=by
 have q:=zzT.mp S.own _ h
 have c:=zzT.mp S.Ov _ h
 rw [zza,zzt] at c;rw [zzt] at q;refine⟨zzY (q.resolve_left λz=>zzY z rfl),λhy=>?_⟩
 rcases c.1 with z|z
 ·exact zzY z rfl
 ·rw [zzn.mpr hy] at z;cases z
def fT(I:Inv X aa σ H s)(S:er X scope xs ys is){C:Addr}(hC:(zz9 s)<=C){x:Str}{c:Addr}(h:(cellsFrom (C+1) scope.names (bx X.env ys)).lookup x=some c):
 (X.env.cells.lookup x=some c/\c<(zz9 s)/\x∈ys)\/((x,NameKind.cell)∈scope.names/\C+1<=c):=by
 rcases oN _ _ _ h with z|z
 ·have e:=d7 S.cells x c z
  obtain⟨v,q⟩:=I.cell x c e
  refine .inl ⟨e,q.lt,?_⟩;have hm:=PySem.mem_of_lookup z
  unfold bx at hm;obtain⟨y,hy,e2⟩:=zzx.mp hm
  cases e2;exact hy
 ·exact .inr z
def wC(I:Inv X aa σ H s)(hc:X.calm=true)(S:er X scope xs ys is){N':List Str}{fp:List Addr}{C:Addr}(hC:(zz9 s)<=C)(hf:∀b∈fp,dy X aa H b)(B1:∀b∈fp,b<(zz9 s)):
 (bH X N' scope (bx X.env ys) fp s H C).Ok where
 mod:=I.ok.mod
 kind:=S.kind
 glob:=I.ok.glob
 blt:=I.ok.blt
 above:=hC
 inj:=λx y c h1 h2=>by
  rcases fT I S hC h1 with z1|z1
  ·rcases fT I S hC h2 with z2|z2
   ·exact I.ok.inj x y c z1.1 z2.1
   ·exact absurd z1.2.1 (Nat.not_lt.mpr (zzU hC (Nat.le_of_succ_le z2.2)))
  ·refine pV scope.names (C+1) (bx X.env ys) (λp hp=>?_) z1.2 (PySem.mem_of_lookup h1) (PySem.mem_of_lookup h2);unfold bx at hp;obtain⟨y,hy,rfl⟩:=zzx.mp hp
   obtain⟨c',fE⟩:=zzp.mp (zzT.mp S.cells y hy)
   obtain⟨v,q⟩:=I.cell y c' fE
   dsimp only;rw [fE];exact Nat.lt_succ_of_le (zzU (Nat.le_of_lt q.lt) hC)
 has:=λx hx=>by
  have x9:(relabel scope X.env).names.lookup x=some .cell\/(relabel scope X.env).names.lookup x=some .free:=hx
  have:∃k',(x,k')∈scope.names/\(k'=.cell\/k'=.free):=by
   rcases x9 with z|z
   ·exact jZ z (.inl rfl)
   ·exact jZ z (.inr rfl)
  obtain⟨k',hm,hk⟩:=this
  have cv:=zzT.mp S.Ov _ hm
  rw [zza,zzt,zzt] at cv;rcases hk with z|z
  ·subst z;exact zzp.mp (PySem.W.cellsFrom_some _ _ _ (.inl (S.mH hm).1))
  ·rcases cv.2 with q|q
   ·exact absurd z (zzY q)
   ·refine zzp.mp (PySem.W.cellsFrom_some _ _ _ (.inr ?_));obtain⟨c,e⟩:=iX (env:=X.env) (zzn.mp q)
    rw [e];rfl
 FI:=λx c h e=>by
  have hm:(x,NameKind.cell)∈scope.names:=PySem.mem_of_lookup (eq_of_beq h)
  rcases fT I S hC e with z|z
  ·exact absurd z.2.2 (S.mH hm).2
  ·exact zzU hC (Nat.le_of_succ_le z.2)
 hd:=λ_=>I.ok.hd hc
 frames:=I.ok.frames
 Bz:=.inl rfl
 Tz:=λb hb=>⟨zzb (zzW (B1 b hb) hC),λx c h=>(fT I S hC h).elim (λz=>(hf b hb).2.2.2.2.1 x c z.1) λz q=>absurd (B1 b hb) (Nat.not_lt.mpr (q▸zzU hC (Nat.le_of_succ_le z.2)))⟩
 bs:=λb o e=>I.bs b o e
 uA:=zzU I.ok.uA I.sz
 xu:=λb o e hb=>by
  rcases(hf b hb).2.2.2.1 with z|z
  ·exact I.ok.xu b o e z
  ·exact absurd (zzW (zzO e) (zzU I.ok.uA z)) (Nat.lt_irrefl _)
 yP:=λb hb hs=>(zzm.mp (I.iq b hs)).elim (hf b hb).2.1 (hf b hb).2.2.1
 eV:=I.stack
 uj:=λb hb=>I.kN b hb
theorem vO{N:List Str}:∀{is:List Nat} {ys:List Str},is.map (λi=>N[i]?)=ys.map some->∀(j:Nat) (y:Str) (v:V),ys[j]?=some y->(BH σ is)[j]?=some (some v)->∃i:Nat,N[i]?=some y/\σ[i]?=some (some v)
 |[],[],_,_,_,_,h,_=>by simp at h
 |[],_::_,h,_,_,_,_,_=>by simp at h
 |_::_,[],h,_,_,_,_,_=>by simp at h
 |i::is,y0::ys,h,0,y,v,h1,h2=>by
  rw [zzF,zzF] at h;have h0:=(List.cons.inj h).1
  simp! [List.getElem?_cons_zero,Option.some.injEq] at h1;subst h1;refine⟨i,h0,?_⟩;unfold BH at h2;simp! [zzF,List.getElem?_cons_zero,Option.some.injEq] at h2;exact Option.join_eq_some_iff.mp h2
 |i::is,y0::ys,h,j+1,y,v,h1,h2=>by
  rw [zzF,zzF] at h;refine vO (is:=is) (ys:=ys) (List.cons.inj h).2 j y v (by simpa using h1) ?_;unfold BH at h2⊢
  simpa using h2
abbrev lobj(ak:List Value)(n:Nat):Obj:={cls:=.type "list",data:=.seq ak.toArray n}
def xD(ak:List Value)(n:Nat)(v:Option Value):(lobj ak n).data≠.cell v:=λz=>by cases z
abbrev tests(ifs:List Expr)(env:Env):Sem Bool:=forIn ifs true λc r=>if r=true then do let ok<-isTrue c env (eval c env);pure (ForInStep.yield ok) else pure (ForInStep.yield r)
theorem qf{prog:Program}{w:World}{A:Around}{R:Result->Shared->Prop}{s:Shared}{elt target iter:Expr}{ifs:List Expr}{scope:Scope}{pos:Pos}{it acc:Value}{env:Env}(I:Nat->Shared->Prop)
 (turn:∀n s,I n s->wpAny (model prog w) A (pyNext it) (λr s₁=>match r with
  |none=>R (.ok .next) s₁
  |some v=>wpAny (model prog w) A (letOwnedTupleGo target it v) (λ_ s₁'=>wpAny (model prog w) A (assign target env v) (λ_ s₂=>
   wpAny (model prog w) A (tests ifs env) (λok s₃=>if ok=true then wpAny (model prog w) A (eval elt env) (λx s₄=>
    wpAny (model prog w) A (call (.builtin "list.append") [acc,x]) (λ_ s₅=>∃m,m<n/\I m s₅) (notedBy (model prog w) A env λe s'=>R (.error e) s') s₄) (notedBy (model prog w) A env λe s'=>R (.error e) s') s₃
    else∃m,m<n/\I m s₃) (notedBy (model prog w) A env λe s'=>R (.error e) s') s₂)
   (notedBy (model prog w) A env λe s'=>R (.error e) s') s₁') (notedBy (model prog w) A env λe s'=>R (.error e) s') s₁) (notedBy (model prog w) A env λe s'=>R (.error e) s') s)
 (n:Nat) (h:I n s):
 codeAny (model prog w) A (.compLoop (.ListComp elt [⟨target,iter,ifs,0⟩] scope pos) 0 it acc env) R s:=by
 refine codeAny_loop rfl I (λn s hI=>?_) n h;show wpAny _ A ((compTurn (.ListComp elt [⟨target,iter,ifs,0⟩] scope pos) 0 it acc env).onRaise (λx=>do noteFrame x env;theTreesLotGoes x)) _ _ s;refine wpAny_noted ?_;rw [compTurn_list];refine zzA (wpAny_standAt (zzA (wpAny_mono (turn n s hI) (λr s₁ h₁=>?_) λ_ _ h'=>h')))
 cases r with
 |none=>exact zzG h₁
 |some v=>
  refine zzA (wpAny_mono h₁ (λ_ s₁' h₁'=>?_) λ_ _ h'=>h')
  refine zzA (wpAny_mono h₁' (λ_ s₂ h₂=>zzA (wpAny_mono h₂ (λok s₃ h₃=>?_) λ_ _ h'=>h')) λ_ _ h'=>h')
  cases ok with
  |false=>exact zzG ⟨rfl,h₃⟩
  |true=>exact zzA (zzA (wpAny_mono h₃ (λx s₄ h₄=>zzA (wpAny_mono h₄ (λ_ s₅ h₅=>zzG (zzG ⟨rfl,h₅⟩)) λ_ _ h'=>h')) λ_ _ h'=>h'))
def UH(X:Cx)(ifs:List Expr)(t:TT):Prop:=
 ∀(aa:List (Addr×Obj)) (s:Shared) (σ:St) (H:Hp) (Q:Bool->Hp->Prop),Inv X aa σ H s->t σ H Q->wpAny (model X.prog X.w) X.A (tests ifs X.env) (TP X aa σ Q) X.xe s
def vD{X:Cx}:UH X [] (λ_ H q=>q true H):=λ_ _ _ H _ I h=>wpAny_tests_nil ⟨H,I,h⟩
def vy{X:Cx}{e:Expr}{t:TT}(h:PT X e t):UH X [e] t:=λaa s σ H Q I z=>wpAny_tests_one (h aa s σ H Q I z)
def Q3(J:It)(k:Nat)(g:TG)(te:TE)(fs:St)(Q:VK)(H1:Hp):Prop:=∃(n:Nat) (W:Nat->List V->St->Hp->Prop),W 0 [] (List.replicate k none++fs) H1/\
 ∀i ys σ' H',W i ys σ' H'->ys.length<sizeLine/\((J.stop i H'/\∀p,H' p=none->Q (.ref p) (upd H' p (.lst ys)))\/
  (J.go i H'/\i<n/\∀x kJ,J.JM i H' x kJ->g x σ' kJ λσ2 H2=>te σ2 H2 λy H3=>W (i+1) (ys++[y]) σ2 H3))
noncomputable def zU(wi:TI)(k:Nat)(g:TG)(te:TE)(is:List Nat):TE:=λσ H Q=>wi σ H λJ H1=>Q3 J k g te (BH σ is) Q H1
def CV(J:It)(k:Nat)(g:TG)(tt:TT)(te:TE)(fs:St)(Q:VK)(H1:Hp):Prop:=∃(n:Nat) (W:Nat->List V->St->Hp->Prop),W 0 [] (List.replicate k none++fs) H1/\
 ∀i ys σ' H',W i ys σ' H'->ys.length<sizeLine/\((J.stop i H'/\∀p,H' p=none->Q (.ref p) (upd H' p (.lst ys)))\/
  (J.go i H'/\i<n/\∀x kJ,J.JM i H' x kJ->g x σ' kJ λσ2 H2=>tt σ2 H2 λb H3=>if b=true then te σ2 H3 (λy H4=>W (i+1) (ys++[y]) σ2 H4) else W (i+1) ys σ2 H3))
noncomputable def kg(wi:TI)(k:Nat)(g:TG)(tt:TT)(te:TE)(is:List Nat):TE:=λσ H Q=>wi σ H λJ H1=>CV J k g tt te (BH σ is) Q H1
def gB{elt tg iter:Expr}{ifs:List Expr}{pos pp:Pos}{wi:TI}{g:TG}{te:TE}{tt:TT}{use:Option (Value->Sem Unit)}{QQ:Value->Shared->Prop}{Q:VK}(hc:X.calm=true)(S:er X scope xs ys is)(hi:PI X tg iter wi)
 (hg:∀fp s1 H1 C,PG (bH X (xs++ys) scope (bx X.env ys) fp s1 H1 C) tg g) (ht:∀fp s1 H1 C,UH (bH X (xs++ys) scope (bx X.env ys) fp s1 H1 C) ifs tt) (he:∀fp s1 H1 C,PE (bH X (xs++ys) scope (bx X.env ys) fp s1 H1 C) elt te)
 (hs:∀x,foldedSetIterable iter X.env x=pure x) (I:Inv X aa σ H s) (h:kg wi xs.length g tt te is σ H Q)
 (fin:∀(D C:Addr) (s4:Shared) (H4:Hp) (m:Str->Option Value),Inv X aa σ H4 s4->s4.heap.Ns C m->dy X aa H4 C->Q (.ref D) H4->compPost (model X.prog X.w) X.A X.xe use QQ (.ref D) C (.ok .next) s4):
 wpAny (model X.prog X.w) X.A (comprehension (.ListComp elt [⟨tg,iter,ifs,0⟩] scope pos) scope X.env pp (newList []) false (eval iter X.env) use) QQ X.xe s:=by
 have Lh:∀x∈scope.names,x.2=.local->scope.names.lookup x.1=some .local:=λx hx hl=>by
  have q:=zzT.mp S.names x hx
  rw [zzt] at q;rcases q with q|q
  ·exact absurd hl (zzY q)
  ·exact zzY q
 refine wpAny_comprehension_free (use:=use) (Q:=QQ) (g:=⟨tg,iter,ifs,0⟩) (gs:=[]) rfl hs S.Td S.kind Lh (bq (hi aa s σ H _ I h) λxv s0 h0=>bq h0 λRL s1 h1=>?_)
 obtain⟨it,fp,tn,J,H1,rfl,I1,T,zy,f1,n,W,w0,turn⟩:=h1
 refine wpAny_newObj_type (tJ ?_);dsimp only;generalize P8:s1.heap.push {cls:=.type "list",dict:=none,data:=.seq ([]:List Value).toArray}=G2
 generalize hh₁:pushCells (G2.push {cls:=.type "dict",data:=.dict #[]}) scope.names=h₁
 have Uz:∀b o,(G2.push {cls:=.type "dict",data:=.dict #[]}).get? b=some o->h₁.get? b=some o:=λb o e=>by rw [<-hh₁];exact pushCells_keeps _ _ b o e
 have hns₁:h₁.Ns G2.objs.size λ_=>none:=(Heap.Ns.new G2 (.type "dict")).keeps Uz
 have WQ:G2.objs.size=(zz9 s1)+1:=by rw [<-P8,Heap.size_push]
 have nt:(zz9 s1)<=G2.objs.size:=by rw [WQ];exact Nat.le_succ _
 have RY:(zz9 s1)≠G2.objs.size:=by rw [WQ];exact zzb (Nat.lt_succ_self _)
 have old:∀b o,s1.heap.get? b=some o->h₁.get? b=some o:=λb o e=>Uz b o (zzB _ (P8▸zzB _ e))
 have NR:h₁.get? (zz9 s1)=some (lobj [] 0):=Uz _ _ (zzB _ (P8▸zzX _ rfl))
 have B1:∀b∈fp,b<(zz9 s1):=λb hb=>by
  obtain⟨o,e,_⟩:=T.obj _ _ zy b hb
  exact zzO e
 generalize hY:bH X (xs++ys) scope (bx X.env ys) fp s1 H1 G2.objs.size=Y
 have XG:Y.Ok:=by rw [<-hY];exact wC I1 hc S nt f1 B1
 have WV:∀b∈fp,(zz9 s1)≠b:=λb hb=>Ne.symm (zzb (B1 b hb))
 have SM:∀b,b∈Y.fs->b=X.env.locals\/b∈X.fs:=λb hb=>by
  rw [<-hY] at hb;exact zzm.mp (I1.iq b hb)
 have TF:∀b∈Y.fs,b<(zz9 s1):=λb hb=>by
  rw [<-hY] at hb;obtain⟨_,o,ho,_⟩:=I1.stack.mem hb
  exact zzO ho
 have SE:(zz9 s1)∉Y.fs:=λz=>Nat.lt_irrefl _ (TF _ z)
 have NQ:Y.env.locals=G2.objs.size:=by rw [<-hY];rfl
 have RA:∀x c,Y.env.cells.lookup x=some c->(X.env.cells.lookup x=some c/\c<(zz9 s1)/\x∈ys)\/((x,NameKind.cell)∈scope.names/\G2.objs.size+1<=c):=λx c e=>by
  rw [<-hY] at e;exact fT I1 S nt e
 have Yk:∀x c,Y.env.cells.lookup x=some c->G2.objs.size+1<=c->h₁.IsCell c none:=λx c e hle=>by
  rw [<-hY] at e;have hm:(x,c)∈cellsFrom (G2.objs.size+1) scope.names []:=IY scope.names _ _ (PySem.mem_of_lookup e) λp hp=>by
   unfold bx at hp;obtain⟨y,hy,rfl⟩:=zzx.mp hp
   obtain⟨c',fE⟩:=zzp.mp (zzT.mp S.cells y hy)
   obtain⟨v,q⟩:=I1.cell y c' fE
   dsimp only;rw [fE];exact zzb (zzW q.lt (zzU nt (Nat.le_of_succ_le hle)))
  have ck:=cellsFrom_ok scope.names (G2.push {cls:=.type "dict",data:=.dict #[]}) 0 [] ⟨(λ_ _ z=>nomatch z),.nil⟩ (Nat.zero_le _)
  rw [Heap.size_push,hh₁] at ck;exact(ck.empty x c hm).1
 have YJ:∀x c,Y.env.cells.lookup x=some c->c≠(zz9 s1):=λx c e=>(RA x c e).elim (λz=>zzb z.2.1) λz=>Ne.symm (zzb (zzV nt z.2))
 have zH:Y.pn=[]:=by rw [<-hY];rfl
 have Pk:Y.ex=fp:=by rw [<-hY];rfl
 have Qy:Y.s₀=s1:=by rw [<-hY];rfl
 have V1:Y.H₀=H1:=by rw [<-hY];rfl
 have Qq:Y.prog=X.prog:=by rw [<-hY];rfl
 have Pz:Y.w=X.w:=by rw [<-hY];rfl
 have VJ:Y.K=X.K:=by rw [<-hY];rfl
 have SH:Y.A=X.A:=by rw [<-hY];rfl
 have Y0:compEnvC scope (cellsFrom (G2.objs.size+1) scope.names (bx X.env ys)) G2.objs.size X.env=Y.env:=by rw [<-hY];rfl
 have PB:Y.calm=true:=by rw [<-hY];rfl
 have JJ:Y.xe=λ_ _=>False:=by rw [<-hY];rfl
 have Qx:Y.fs=dD X.stack:=by rw [<-hY];rfl
 have Qj:∀{H':Hp} {s':Shared} {ak:List Value} {k:Nat},s'.heap.get? (zz9 s1)=some (lobj ak k)->H' (zz9 s1)=none->∀p∈[((zz9 s1),lobj ak k)],s'.heap.get? p.1=some p.2/\H' p.1=none/\p.1≠Y.env.locals/\p.1∉Y.fs/\∀v,p.2.data≠.cell v:=
  λ{H' s' ak k} e hn p hp=>by
   obtain rfl:=zzi.mp hp
   exact⟨e,hn,by rw [NQ];exact RY,SE,λv=>xD ak k v⟩
 have Uh:∀{H':Hp} {ak:List Value} {k:Nat},(∀b∈fp,H' b=none)->∀b∈fp,dy Y [((zz9 s1),lobj ak k)] H' b:=λ{H' ak k} hn b hb=>
  ⟨hn b hb,by rw [NQ];exact zzb (zzW (B1 b hb) nt),λz=>(SM b z).elim (f1 b hb).2.1 (f1 b hb).2.2.1,.inl (by rw [Pk];exact hb),
   λx c e=>(RA x c e).elim (λz=>(f1 b hb).2.2.2.2.1 x c z.1) (λz q=>absurd (B1 b hb) (Nat.not_lt.mpr (q▸zzU nt (Nat.le_of_succ_le z.2)))),λp hp=>by
    rw [zH,List.nil_append] at hp;obtain rfl:=zzi.mp hp
    exact WV b hb⟩
 have P2:H1 (zz9 s1)=none:=I1.aH.fresh (zzE _)
 have I2:∀tk,Inv Y [((zz9 s1),lobj [] 0)] (List.replicate xs.length none++BH σ is) H1 {s1 with heap:=h₁,toks:=tk}:=λtk=>by
  refine⟨XG,by rw [Qy],I1.bare,by rw [Qy,V1];exact Un.kept old,⟨_,by rw [NQ];exact hns₁,λi x v e1 e2 e3=>?_⟩,λx c e=>?_,?_,λx c e=>(RA x c e).elim (λz=>I1.dG x c z.1) (λz=>I1.aH.fresh (zzU nt (Nat.le_of_succ_le z.2))),λp hp=>?_,by rw [Qq,Pz];exact I1.aH.kept old,?_⟩
  ·
   have Vb:Y.N=xs++ys:=by rw [<-hY];rfl
   rw [Vb] at e1
   by_cases bB:i<xs.length
   ·rw [zzr (by rw [List.length_replicate];exact bB),List.getElem?_replicate,if_pos bB] at e2;cases e2
   ·have IJ:xs.length<=i:=Nat.not_lt.mp bB
    rw [zzs (by rw [List.length_replicate];exact IJ),List.length_replicate] at e2;rw [zzs IJ] at e1;obtain⟨i0,h0,h1⟩:=vO S.slots _ x v e1 e2
    have hm:x∈ys:=zzD e1
    have kx:X.env.kindOf x=some .cell:=zzY (zzT.mp S.kX x hm)
    have ky:(relabel scope X.env).names.lookup x=some .cell:=zzY (zzT.mp S.kY x hm)
    obtain⟨m,_,hl⟩:=I1.loc
    obtain⟨u,ru,lk⟩:=hl i0 x v h0 h1 (.inr (.inl kx))
    refine⟨u,ru,.inr ⟨.inl (by rw [<-hY];exact ky),?_⟩⟩;rcases lk with⟨z,_⟩|⟨_,c,hc1,hc2⟩
    ·rw [kx] at z;cases z
    ·obtain⟨c',fE⟩:=iX (env:=X.env) hm
     have Qr:=d7 S.cells x c' fE
     rw [hc1] at Qr;cases Qr;refine⟨c,by rw [<-hY];exact(p7 _ _ _ λz=>(S.mH z).2 hm).trans fE,?_⟩
     obtain⟨o,ho,hd⟩:=hc2
     exact⟨o,old _ _ ho,hd⟩
  ·rcases RA x c e with z|z
   ·obtain⟨v,o,ho,hd⟩:=I1.cell x c z.1
    exact⟨v,o,old _ _ ho,hd⟩
   ·exact⟨none,Yk x c e z.2⟩
  ·rw [NQ];exact I1.aH.fresh nt
  ·rw [zH,List.nil_append] at hp;exact Qj (s':={s1 with heap:=h₁,toks:=tk}) NR P2 p hp
  ·have Vb:Y.N=xs++ys:=by rw [<-hY];rfl
   have hl:=congrArg List.length S.slots
   rw [zzl,zzl] at hl;rw [Vb,zzM,zzM,List.length_replicate];unfold BH;rw [zzl,hl]
 have loop:∀s₃:Shared,s₃={s1 with heap:=h₁}->
  codeAny (model X.prog X.w) X.A (.compLoop (.ListComp elt [⟨tg,iter,ifs,0⟩] scope pos) 0 (.ref it) (.ref (zz9 s1)) (compEnvC scope (cellsFrom (G2.objs.size+1) scope.names (bx X.env ys)) G2.objs.size X.env))
   (compPost (model X.prog X.w) X.A X.xe use QQ (.ref (zz9 s1)) G2.objs.size) s₃:=by
  rintro s₃ rfl
  rw [Y0];refine qf (λk s'=>∃i made σ' H' ak c,Inv Y [((zz9 s1),lobj ak c)] σ' H' s'/\tn i s'.heap/\(∀b∈fp,H' b=none)/\Vals made ak/\k=n-i/\W i made σ' H') ?_ n
   ⟨0,[],_,H1,[],0,I2 _,T.keep _ _ _ zy λb _ o e=>old b o e,λb hb=>(f1 b hb).1,.nil,rfl,w0⟩
  rintro k s' ⟨i,made,σ',H',ak,c,I3,st3,fr3,rv,rfl,w3⟩
  obtain⟨hz,tw⟩:=turn i made σ' H' w3
  have pD:=I3.pin ((zz9 s1),lobj ak c) (by rw [zH];exact zzi.mpr rfl)
  rcases tw with⟨stop,hq⟩|⟨go,Vs,step⟩
  ·rw [<-SH];refine bq (T.done Y Qq Pz VJ PB i _ s' σ' H' _ I3 (Uh fr3) st3 stop) λr s4 ⟨hr,I4⟩=>?_
   subst hr;obtain⟨m,hn4,_⟩:=I4.loc
   rw [NQ] at hn4;have Tc:=I4.pin ((zz9 s1),lobj ak c) (by rw [zH];exact zzi.mpr rfl)
   have kp:∀b o,b≠G2.objs.size->s4.heap.get? b=some o->s4.heap.get? b=some o:=λb o hb e=>e
   have Sq:∀{b o},s1.heap.get? b=some o->b≠G2.objs.size:=λ{b o} e=>zzb (zzW (zzO e) nt)
   have d8:=I4.base
   rw [Qy,V1,Pk,Qx] at d8;have Uw:∀{b o},H1 b=some o->b≠(zz9 s1):=λ{b o} e=>zzb (I1.aH.lt e)
   have u:Un (dD X.stack) fp H1 (upd H' (zz9 s1) (.lst made)) s1.heap s4.heap:=by
    refine⟨λb o e n hb hx=>kp b o (Sq e) (d8.keep b o e n hb hx),λb o e n hb hx=>?_,λb o e n hx=>?_,λb o e hx=>?_,λb xs e=>?_,λb o u e=>?_,λb ps e=>?_⟩
    ·obtain⟨sl,q⟩:=d8.slot b o e n hb hx
     exact⟨sl,kp b _ (Sq e) q⟩
    ·rw [ag (zzb (zzO e))];exact d8.free b o e n hx
    ·obtain⟨o',q⟩:=d8.there b o e hx
     exact⟨o',kp b _ (Sq e) q⟩
    ·rw [ag (Uw e)];exact d8.fB b xs e
    ·rw [ag (Uw e)];exact d8.ei b o u e
    ·obtain⟨more,q⟩:=d8.fe b ps e
     exact⟨more,by rw [ag (Uw e)];exact q⟩
   have Wy:H' G2.objs.size=none:=by rw [<-NQ];exact I4.free
   have Ex:dE X.prog X.w (upd H' (zz9 s1) (.lst made)) s4.heap:=λb o e=>by
    by_cases hb:b=(zz9 s1)
    ·subst hb;rw [aj] at e;cases e;exact⟨Nat.le_of_lt hz,ak,c,rv,kp _ _ RY Tc.1⟩
    ·rw [ag hb] at e;have x4:=I4.aH b o e
     rw [Qq,Pz] at x4;have KU:∀b' u,H' b'=some u->b'≠G2.objs.size:=λb' u q z=>by rw [z,Wy] at q;cases q
     have Wh:∀b' u,H' b'=some u->b'≠(zz9 s1):=λb' u q z=>by rw [z,Tc.2.1] at q;cases q
     refine x4.di (λb' u iR q=>kp b' u ?_ q) (λb' q=>?_) λb' xs q=>?_
     ·rcases iR with z|z
      ·rw [z];exact KU b o e
      ·exact KU b' _ z
     ·rw [ag (Wh b' _ q)];exact q
     ·rw [ag (Wh b' _ q)];exact q
   have I5:Inv X aa σ (upd H' (zz9 s1) (.lst made)) s4:=I1.PD (by show s4.os=s1.os;rw [I4.os,Qy]) u Ex I4.bare λb hb=>⟨(f1 b hb).2.2.2.1,(f1 b hb).2.1,(f1 b hb).2.2.2.2.1,(f1 b hb).2.2.2.2.2⟩
   dsimp only;rw [SH];exact fin (zz9 s1) G2.objs.size s4 _ m I5 hn4 (I1.je nt (by rw [ag (Ne.symm RY)];exact Wy)) (hq _ Tc.2.1)
  ·rw [<-SH];refine bq (T.item Y Qq Pz VJ PB i _ s' σ' H' _ I3 (Uh fr3) st3 go) λr s4 ⟨u,hr,h4⟩=>?_
   subst hr;dsimp only;refine bq h4 λ_ s5 ⟨x,H5,I5,r5,y5,st5,fr5⟩=>?_
   have UR:=I5.pinned (Uh fr5) (T.obj _ _ st5)
   have VO:=hg fp s1 H1 G2.objs.size
   have Vp:=he fp s1 H1 G2.objs.size
   have WY:=ht fp s1 H1 G2.objs.size
   rw [hY] at VO Vp WY;rw [<-Qq,<-Pz];refine wpAny_mono (VO _ s5 σ' H5 x u _ UR r5 (step x H5 y5)) (λ_ s6 ⟨σ6,H6,I6,q6⟩=>?_) (λ_ _ f=>by rw [JJ] at f;exact f.elim);refine wpAny_mono (WY _ s6 σ6 H6 _ I6 q6) (λokb sT ⟨HT,IT,qT⟩=>?_) (λ_ _ f=>by rw [JJ] at f;exact f.elim);have Zw:=IT.pin ((zz9 s1),lobj ak c) (zzR _ (zzc _ (zzi.mpr rfl)))
   have Xy:tn (i+1) sT.heap:=T.keep _ _ _ st5 λb hb o e=>(IT.pin (b,o) (zzR _ (zzR _ (cU hb e)))).1
   cases okb with
   |false=>
    refine⟨n-(i+1),by omega,i+1,made,σ6,HT,ak,c,IT.jf,Xy,λb hb=>?_,rv,rfl,qT⟩
    obtain⟨o,e,d⟩:=T.obj _ _ st5 b hb
    exact(IT.pin (b,o) (zzR _ (zzR _ (cU hb e)))).2.1
   |true=>
   refine wpAny_mono (Vp _ sT σ6 HT _ IT qT) (λv s7 ⟨y,H7,I7,r7,q7⟩=>?_) (λ_ _ f=>by rw [JJ] at f;exact f.elim);have U9:=I7.pin ((zz9 s1),lobj ak c) (zzR _ (zzc _ (zzi.mpr rfl)))
   have e7:s7.heap.get? (zz9 s1)=some {cls:=.type "list",data:=.seq ak.toArray c}:=U9.1
   refine append_at (hsz:=by rw [zzC,<-rv.length];exact Nat.le_of_lt hz) e7 λh' su Xx=>?_
   have I8:Inv Y [] σ6 H7 s7:=I7.gA λ_ z=>nomatch z
   have I9:Inv Y [] σ6 H7 {s7 with heap:=h'}:=I8.turned (t':=s7.toks) (it:=(zz9 s1)) (λb o hb e=>su.extBut b o hb e) U9.2.1 (by rw [NQ];exact RY) (.inr (by rw [Qy];exact zzE _))
    (λx c' e=>YJ x c' e) (λp hp=>by rw [zH] at hp;cases hp)
   have eD:h'.get? (zz9 s1)=some (lobj (ak++[v]) (c+1)):=by rw [Xx,List.push_toArray]
   have YH:tn (i+1) s7.heap:=T.keep _ _ _ st5 λb hb o e=>(I7.pin (b,o) (zzR _ (zzR _ (cU hb e)))).1
   refine⟨n-(i+1),by omega,i+1,made++[y],σ6,H7,ak++[v],c+1,I9.gA (Qj (s':={s7 with heap:=h'}) eD U9.2.1),T.keep _ _ _ YH λb hb o e=>su.extBut b o (Ne.symm (WV b hb)) e,λb hb=>?_,rv.append (.cons r7 .nil),rfl,q7⟩
   obtain⟨o,e,d⟩:=T.obj _ _ st5 b hb
   exact(I7.pin (b,o) (zzR _ (zzR _ (cU hb e)))).2.1
 exact codeAny_compStart_list (loop _ rfl) (T.self _ 0 _ _ _ (T.keep _ _ _ zy λb _ o e=>old b o e) (loop _ rfl))
def DO{elt tg iter:Expr}{pos:Pos}{wi:TI}{g:TG}{te:TE}(hc:X.calm=true)(S:er X scope xs ys is)(hi:PI X tg iter wi)
 (hg:∀fp s1 H1 C,PG (bH X (xs++ys) scope (bx X.env ys) fp s1 H1 C) tg g) (he:∀fp s1 H1 C,PE (bH X (xs++ys) scope (bx X.env ys) fp s1 H1 C) elt te)
 (hs:∀x,foldedSetIterable iter X.env x=pure x:=by intro _;rfl):
 PE X (.ListComp elt [⟨tg,iter,[],0⟩] scope pos) (zU wi xs.length g te is):=by
 intro aa s σ H Q I h;rw [eval_ListComp];exact gB (use:=none) (Q:=Q) hc S hi hg (λ_ _ _ _=>vD) he hs I h (λD C s4 H4 m I5 hn ⟨g0,g1,_,g3,g4,g5⟩ q=>⟨m,hn,λh' su=>⟨.ref D,H4,I5.turned (t':=s4.toks) (it:=C) (λb o hb e=>su.extBut b o hb e) g0 g1 g3 g4 g5,rfl,q⟩⟩)
def v7{elt tg iter Hf:Expr}{pos:Pos}{wi:TI}{g:TG}{te:TE}{tt:TT}(hc:X.calm=true)(S:er X scope xs ys is)(hi:PI X tg iter wi)
 (hg:∀fp s1 H1 C,PG (bH X (xs++ys) scope (bx X.env ys) fp s1 H1 C) tg g) (ht:∀fp s1 H1 C,PT (bH X (xs++ys) scope (bx X.env ys) fp s1 H1 C) Hf tt) (he:∀fp s1 H1 C,PE (bH X (xs++ys) scope (bx X.env ys) fp s1 H1 C) elt te)
 (hs:∀x,foldedSetIterable iter X.env x=pure x:=by intro _;rfl):
 PE X (.ListComp elt [⟨tg,iter,[Hf],0⟩] scope pos) (kg wi xs.length g tt te is):=by
 intro aa s σ H Q I h;rw [eval_ListComp];exact gB (use:=none) (Q:=Q) hc S hi hg (λfp s1 H1 C=>vy (ht fp s1 H1 C)) he hs I h (λD C s4 H4 m I5 hn ⟨g0,g1,_,g3,g4,g5⟩ q=>⟨m,hn,λh' su=>⟨.ref D,H4,I5.turned (t':=s4.toks) (it:=C) (λb o hb e=>su.extBut b o hb e) g0 g1 g3 g4 g5,rfl,q⟩⟩)
end
def aY{H:Hp}{p:Addr}{o:HO}(h:H p=none):az H (upd H p o):=λb u e=>by rw [ag (bu e h)];exact e
theorem lH(a:Array Nat):∀(n:Nat) (acc:Array Nat),((List.replicate n a).foldl (·++·) acc).toList=acc.toList++(List.replicate n a.toList).flatten
 |0,acc=>by simp
 |n+1,acc=>by
  rw [List.replicate_succ,List.foldl_cons,lH a n,List.replicate_succ,List.flatten_cons,Array.toList_append,List.append_assoc]
section
variable{X:Cx}
def range_all(bs:List Bool):(List.range bs.length).all (λi=>(bs[i]?).getD true)=bs.all id:=by
 rw [Bool.eq_iff_iff,zzT,zzT]
 constructor
 ·intro h b hb;obtain⟨i,hi,e⟩:=List.getElem_of_mem hb
  have q:=h i (List.mem_range.mpr hi)
  rw [zzg hi,Option.getD_some,e] at q;exact q
 ·intro h i hi;have Vj:=List.mem_range.mp hi
  rw [zzg Vj,Option.getD_some];exact h _ (List.getElem_mem Vj)
def zZ(hc:X.calm=true):bD X (.builtin "all") (λxs H Q=>∃(p:Addr) (bs:List Bool),xs=[.ref p]/\df X.K H p (bs.map V.bl)/\Q (.bl (bs.all id)) H):=by
 intro aa s σ H xs us Q I r h;obtain⟨p,bs,rfl,hp,q⟩:=h
 obtain⟨u,rfl,ru⟩:=vals1 r
 cases ru;obtain⟨ak,rv,pl,hz⟩:=I.list hp
 have bB:p<(zz9 s):=by obtain⟨_,e,_⟩:=pl.isList;exact zzO e
 have hlen:ak.length=bs.length:=by rw [<-rv.length,zzl]
 refine call_all_walk (wpAny_pyIter_list pl.isList ?_);refine⟨(zz9 s),_,_,ak.toArray.size,_,_,λi=>(bs[i]?).getD true,rfl,Walks.list (A:=X.A.in1) (I.ok.hd hc) (zz9 s) p (zzb bB) ak.toArray,⟨⟨_,zzX _ rfl,rfl,rfl⟩,pl.isList.push _⟩,λi v s2 Q2 E2 hP hQ=>?_,λh' tk hk=>?_⟩
 ·have hv:ak[i]?=some v:=by simpa using hP
  have hi:i<bs.length:=by rw [<-hlen];exact(zzH.mp hv).1
  obtain⟨u,hu,ru⟩:=rv.get (i:=i) (x:=V.bl bs[i]) (by rw [zzQ,zzg hi];rfl)
  rw [hv] at hu;cases hu;have e:v=Value.bool bs[i]:=ru
  rw [e];have q2:Q2 ((bs[i]?).getD true) s2:=hQ
  rw [zzg hi,Option.getD_some] at q2;exact wpAny_truthy_bool q2
 ·rw [zzC,hlen,range_all];exact⟨.bl (bs.all id),H,I.kept λb o e=>hk b o (by simp;exact zzb (zzO e)) (zzB _ e),rfl,q⟩
def zS:ef X (compareOp .Is) (λx y H Q=>∃c d,x=.bl c/\y=.bl d/\Q (.bl (c==d)) H):=by
 intro aa s σ H x y v u Q I rx ry h;obtain⟨c,d,rfl,rfl,q⟩:=h
 cases rx;cases ry;exact is_bool (my I q rfl)
def rC:ef X (compareOp .IsNot) (λx y H Q=>∃c d,x=.bl c/\y=.bl d/\Q (.bl (c !=d)) H):=by
 intro aa s σ H x y v u Q I rx ry h;obtain⟨c,d,rfl,rfl,q⟩:=h
 cases rx;cases ry;exact isnot_bool (my I q rfl)
def RU(z:Str):It:=⟨λi _=>i<z.cps.size,λi H x H'=>H'=H/\∃c,z.cps[i]?=some c/\x=.str ⟨#[c]⟩,λi _=>z.cps.size<=i⟩
def zq{P:Program}{w:World}{K:zz8}{tg:Expr}(z:Str)(t:Tok)(it:Addr)(ty:String)(FL:ty="str_ascii_iterator"\/ty="str_iterator"):Turn P w K tg (RU z) [it] it (λi h=>h.IsStrIter it ty z t i/\i<=z.cps.size) where
 mem:=by simp
 obj:=λi h st b hb=>by
  have e:b=it:=by simpa using hb
  subst e;obtain⟨⟨o,e,c,d⟩,_⟩:=st
  exact⟨o,e,λv z=>by rw [d] at z;cases z⟩
 keep:=λi h h' st k=>⟨by obtain⟨⟨o,e,r⟩,_⟩:=st;exact⟨o,k it (by simp) o e,r⟩,st.2⟩
 item:=by
  intro X hP hw hK hc i aa s σ H E I hf st hg;subst hP hw hK;obtain⟨f0,f1,f2,f3,f4,f5⟩:=hf it (by simp)
  have hi:i<z.cps.size:=hg
  have fin:∀(v:Value) (h':Heap) (tk:Nat),SignAt z i v->h'.IsStrIter it ty z t (i+1)->(∀b o,b∉[it]->s.heap.get? b=some o->h'.get? b=some o)->
   ∃u,(some v:Option Value)=some u/\wpAny (model X.prog X.w) X.A (letOwnedTupleGo tg (.ref it) u) (λ_ s2=>∃x H',Inv X aa σ H' s2/\RelV x u/\(RU z).JM i H x H'/\(s2.heap.IsStrIter it ty z t (i+1)/\i+1<=z.cps.size)/\∀b∈[it],H' b=none) E {s with heap:=h',toks:=tk}:=by
   intro v h' tk hv dY kk;obtain⟨c,u,hc,rfl⟩:=hv
   have I1:Inv X aa σ H {s with heap:=h',toks:=tk}:=I.turned (λb o hb e=>kk b o (by simpa using hb) e) f0 f1 f3 f4 f5
   obtain⟨o,e,c',d⟩:=id dY
   exact⟨_,rfl,oE (s:={s with heap:=h',toks:=tk}) e c' d (by rcases FL with rfl|rfl<;>decide) ⟨.str ⟨#[c]⟩,H,I1,⟨u,rfl⟩,⟨rfl,c,hc,rfl⟩,⟨dY,hi⟩,λb hb=>(hf b hb).1⟩⟩
  rcases FL with rfl|rfl
  ·exact(Walks.strAscii (prog:=X.prog) (w:=X.w) (I.ok.hd hc) it z t).item i s _ _ hi st.1 λv h' tk hv dY kk=>fin v h' tk hv dY kk
  ·exact(Walks.strWide (prog:=X.prog) (w:=X.w) (I.ok.hd hc) it z t).item i s _ _ hi st.1 λv h' tk hv dY kk=>fin v h' tk hv dY kk
 done:=by
  intro X hP hw hK hc i aa s σ H E I hf st hg;subst hP hw hK;obtain⟨f0,f1,f2,f3,f4,f5⟩:=hf it (by simp)
  have hi:i=z.cps.size:=Nat.le_antisymm st.2 hg
  subst hi;rcases FL with rfl|rfl
  ·exact(Walks.strAscii (prog:=X.prog) (w:=X.w) (I.ok.hd hc) it z t).done s _ _ st.1 λh' tk kk=>⟨rfl,I.turned (λb o hb e=>kk b o (by simpa using hb) e) f0 f1 f3 f4 f5⟩
  ·exact(Walks.strWide (prog:=X.prog) (w:=X.w) (I.ok.hd hc) it z t).done s _ _ st.1 λh' tk kk=>⟨rfl,I.turned (λb o hb e=>kk b o (by simpa using hb) e) f0 f1 f3 f4 f5⟩
 self:=λA i s Q E st h=>by
  rcases FL with rfl|rfl
  ·exact wpAny_pyIter_striter_ascii st.1 h
  ·exact wpAny_pyIter_striter_wide st.1 h
def TK(tl:TE):TI:=λσ H R=>tl σ H λx H1=>∃z,x=.str z/\R (RU z) H1
def Lq{tg l:Expr}{tl:TE}(hl:PE X l tl):PI X tg l (TK tl):=by
 intro aa s σ H R I h;refine bq (hl aa s σ H _ I h) λv s1 ⟨x,H1,I1,r1,q1⟩=>?_
 obtain⟨z,e,q⟩:=q1
 subst e;obtain⟨t,rfl⟩:=r1
 have fin:∀ty:String,(ty="str_ascii_iterator"\/ty="str_iterator")->Sr X aa σ tg R (.ref (zz9 s1)) {s1 with heap:=s1.heap.push {cls:=.type ty,data:=.fields #[.str z t,.int 0 0]}}:=λty FL=>by
  refine⟨(zz9 s1),[(zz9 s1)],_,_,H1,rfl,I1.kept (t':=s1.toks) λb o e=>zzB _ e,zq z t _ ty FL,⟨⟨_,zzX _ rfl,rfl,rfl⟩,Nat.zero_le _⟩,λb hb=>?_,q⟩
  have e:b=(zz9 s1):=by simpa using hb
  subst e;exact I1.je (zzE _) (I1.aH.fresh (zzE _))
 cases ha:z.cps.all (·<128)
 ·exact wpAny_pyIter_wide ha (fin _ (.inr rfl))
 ·exact wpAny_pyIter_ascii ha (fin _ (.inl rfl))
def pg(x:Str)(n:Nat):Str:=⟨(List.replicate n x.cps).foldl (·++·) #[]⟩
def uB:ef X (binaryOp .Mult) (λx y H Q=>∃z n,x=.str z/\y=.int n/\1<n/\n<1000/\0<z.length/\z.length<1000/\Q (.str (pg z n.toNat)) H):=by
 intro aa s σ H x y v u Q I rx ry h;obtain⟨z,n,rfl,rfl,h1,h2,h3,h4,q⟩:=h
 obtain⟨t,rfl⟩:=rx
 obtain⟨t',rfl⟩:=ry
 have e1:¬n<1:=by omega
 have e2:(n==1||z.length==0)=false:=by
  rw [Bool.or_eq_false_iff];exact⟨beq_eq_false_iff_ne.mpr (by omega),beq_eq_false_iff_ne.mpr (by omega)⟩
 have hb:z.length*n.toNat<=1000*1000:=Nat.mul_le_mul (by omega) (by omega)
 refine PySem.P.mul_str (by rw [zz0 (by omega),zz0 (by omega)];rfl) (λ_ _=>?_) (λ_ _=>?_) ?_
 ·have:(2^63-1:Int)/n>=(2^63-1)/1000:=by
   rw [ge_iff_le,Int.le_ediv_iff_mul_le (by omega)];have:(2^63-1:Int)/1000*n<=(2^63-1:Int)/1000*1000:=Int.mul_le_mul_of_nonneg_left (by omega) (by decide)
   omega
  omega
 ·show Builtin.Str.tooLong _=false
  unfold Builtin.Str.tooLong;have XH:(1000000:Nat)<=sizeLine:=by decide
  exact zz0 (by omega)
 ·rw [if_neg e1,if_neg (by rw [e2];exact zzf)];refine⟨?_,⟨.str (pg z n.toNat),H,I.tok _,⟨_,rfl⟩,q⟩⟩;have e:=congrArg List.length (lH z.cps n.toNat #[])
  rw [zzM,len_rep,zzd,zzd] at e;have e':((List.replicate n.toNat z.cps).foldl (·++·) #[]).size=n.toNat*z.length:=by rw [e];simp [Str.length]
  show((List.replicate n.toNat z.cps).foldl (·++·) #[]).size<=sizeLine
  rw [e',Nat.mul_comm];exact zzU hb (by decide)
end
end L2
namespace Cw
open PySem L2
def sgn(c:Nat):Bool:=c==35||(48<=c&&c<=57)
def Xz:V->Bool
 |.str z=>decide (1<=z.cps.toList.length)&&decide (z.cps.toList.length<=12)&&z.cps.toList.all sgn
 |_=>false
def Rq:V->Nat
 |.str z=>z.cps.toList.length
 |_=>0
section
variable{K:zz8}
abbrev BY(K:zz8)(t n:String)(b:Bool):Prop:=PySem.W.kitOne K (.type t) (.type n)=some b
def zg{K:zz8}(t:String):BY K t t true:=by unfold BY PySem.W.kitOne;rw [if_pos (by simp)]
def Al{t n:String}{b:Bool}(h0:(Value.type t==Value.type n)=false)(h1:PySem.W.kitMeta n=true)(h2:(fastBuiltinMro t).map (·.contains (Value.type n))=some b):BY K t n b:=by
 unfold BY PySem.W.kitOne;rw [if_neg (by rw [h0];exact zzf)];show(if PySem.W.kitMeta n=true then PySem.W.subIn K (.type t) (.type n) else none)=some b
 rw [if_pos h1];exact h2
end
abbrev W0:Str:="#0123456789"
end Cw
namespace L2
open PySem PySem.Spec PyProof.Rows
structure mj(K:zz8)(C:Addr):Prop where
 ga:PySem.W.findIn K (.ref C) "__getattribute__"=some (some (.builtin "BaseException.__getattribute__"))
 hk:PySem.W.findIn K (.ref C) "__getattr__"=some none
 cl:PySem.W.findIn K (.ref C) "__class__"=some (some (.builtin "object.__class__"))
 mo:PySem.W.mroIn K C (.type "object")=some true
 mb:PySem.W.mroIn K C (.type "BaseException")=some true
 is:(PySem.W.clsIn K C).isSome=true
section
variable{prog:Program}{w:World}{A:Around}{E:Value->Shared->Prop}{h:Heap}{g:Array GenState}{d:Drawn}{t:Nat}{os:OsState}{x C:Addr}{o:Obj}{K:zz8}
def JK{R:Result->Shared->Prop}(X:K.In h)(Z:mj K C)(hx:h.get? x=some o)(hc:o.cls=.ref C)(hq:R (.ok (.ret (.ref C))) ⟨h,g,d,t,os⟩):
 codeAny (model prog w) A (.call (.builtin "getset_descriptor.__get__") ⟨[.builtin "object.__class__",.ref x,.ref C],[]⟩) R ⟨h,g,d,t,os⟩:=by
 have hY:(⟨h,g,d,t,os⟩:Shared).TypeIs (.builtin "object.__class__") "getset_descriptor":=F.typeOf_object_class
 have LM:PySem.W.Looks (model prog w) h (isSubtype (.ref C) (.type (".".intercalate ("object.__class__".cutAt '.').dropLast))) true:=by
  rw [F.owner_object_class];exact PySem.W.looks_mroIn X Z.mo
 refine codeAny_call_builtin F.slot_gs_get.plain F.entry_gs_get (F.slot_gs_get.check _ _ _ _ _ _ _ _ hY (F.args_gs_get _ _ _) ?_)
 repeat (any_goals (first|assumption|(with_reducible refine wpAny_loadPart_at hx ?_;rw [hc])|(with_reducible refine LM.at ?_)|wp_step))
 refine⟨Code.quiet_builtin _ (show _ by decide+kernel),codeAny_builtin F.entry_object_class ?_⟩
 repeat (any_goals (first|assumption|(with_reducible refine wpAny_loadPart_at hx ?_;rw [hc])|wp_step))
def yf{tk:Tok}{Q:Fin->Shared->Prop}(X:K.In h)(Z:mj K C)(hx:h.get? x=some o)(hc:o.cls=.ref C)(hq:Q (.done (.ret (.ref C))) ⟨h,g,d,t,os⟩):
 wpAny (model prog w) A (Builtin.«object.__getattribute__» ⟨[.ref x,.str "__class__" tk],[]⟩) Q E ⟨h,g,d,t,os⟩:=by
 have hY:(⟨h,g,d,t,os⟩:Shared).TypeIs (.builtin "object.__class__") "getset_descriptor":=F.typeOf_object_class
 have y5:=F.typeOf_object_class
 have y6:=F.slot_gs_get.lookup
 have y7:=F.slot_gs_set.lookup
 have LC:=PySem.W.looks_findIn (M:=model prog w) X Z.cl
 repeat (any_goals (first|assumption|(with_reducible refine wpAny_loadPart_at hx ?_;rw [hc])|(with_reducible refine LC.at ?_)|wp_step))
 refine JK X Z hx hc ?_
 repeat (any_goals (first|assumption|wp_step))
def Bq{M:Model}{FY:Value}{Q:Unit->Shared->Prop}(X:K.In h)(Z:mj K C)(hx:h.get? x=some o)(hc:o.cls=.ref C)(hq:Q () ⟨h,g,d,t,os⟩):
 wpAny M A (checkBuiltinCall "BaseException.__getattribute__" ⟨[.ref x,FY],[]⟩) Q E ⟨h,g,d,t,os⟩:=by
 have h1:builtinKind "BaseException.__getattribute__"=some .slot:=by decide+kernel
 have h2:splitId "BaseException.__getattribute__"=some ("BaseException","__getattribute__"):=by decide+kernel
 have LB:=PySem.W.looks_mroIn (M:=M) X Z.mb
 have h3:=F.args_bexc_ga (.ref x) FY
 simp! [checkBuiltinCall,h1,h2];refine zzA ?_;unfold isInstance
 repeat (first|(with_reducible refine wpAny_loadPart_at hx ?_;rw [hc])|(with_reducible refine LB.at ?_)|wp_step)
 exact hq
def Qo{tk:Tok}{Q:Value->Shared->Prop}(X:K.In h)(Z:mj K C)(hx:h.get? x=some o)(hc:o.cls=.ref C)(hq:Q (.ref C) ⟨h,g,d,t,os⟩):
 wpAny (model prog w) A (getAttrBy (.ref x) (.str "__class__" tk) false) Q E ⟨h,g,d,t,os⟩:=by
 have y3:=F.excAttr_ValueError.ga.bind (.ref x)
 have y4:(Value.builtin "BaseException.__getattribute__"==Value.builtin "object.__getattribute__")=false:=by decide+kernel
 have y5:(onTheHeap (Value.ref C)&&Value.builtin "BaseException.__getattribute__"==Value.builtin "object.__getattribute__")=false:=by rw [y4];rfl
 have LG:=PySem.W.looks_findIn (M:=model prog w) X Z.ga
 have LH:=PySem.W.looks_findIn (M:=model prog w) X Z.hk
 repeat (any_goals (first|assumption|(with_reducible refine wpAny_loadPart_at hx ?_;rw [hc])|(with_reducible refine LG.at ?_)|(with_reducible refine LH.at ?_)|wp_step))
 refine codeAny_call_builtin F.excAttr_ValueError.ga.plain F.entry_bexc_ga (Bq X Z hx hc (yf X Z hx hc ?_))
 repeat (any_goals (first|assumption|wp_step))
def D6{Q:Option Value->Shared->Prop}(X:K.In h)(Z:mj K C)(hx:h.get? x=some o)(hc:o.cls=.ref C)(hq:Q (some (.ref C)) ⟨h,g,d,t+1,os⟩):
 wpAny (model prog w) A (getAttr? (.ref x) "__class__") Q E ⟨h,g,d,t,os⟩:=by
 unfold getAttr? getAttrBy?
 repeat (any_goals (first|assumption|with_reducible apply Qo X Z hx hc|wp_step))
end
theorem rG{K:zz8}{x C:Addr}(Z:mj K C):PySem.W.KitX K (.ref x) (.ref C) (λh=>∃ob,h.get? x=some ob/\ob.cls=.ref C) where
 ty:=λM h _ p=>by
  obtain⟨ob,h1,h2⟩:=p
  exact h2▸(PySem.W.Looks.ld h1).andThen .now
 it:=λM h X _=>by
  obtain⟨cd,mS⟩:=zzp.mp Z.is
  unfold PySem.W.clsIn at mS;split at mS
  ·rename_i c1 d1 cd1 O5 ho;intro A' Q' E' s' k q;unfold isType loadHead;exact zzA (wpAny_loadPart (k _ _ (X _ _ ho)) (zzG q))
  ·cases mS
 ne:=λh tp dd ak n sl X Zo=>by
  obtain⟨cd,mS⟩:=zzp.mp Z.is
  refine Bool.eq_false_iff.mpr λq=>?_
  have e:C=tp:=Value.ref.inj (zzy.mp q)
  subst e;unfold PySem.W.clsIn at mS;split at mS
  ·rename_i c1 d1 cd1 O5 ho;have z:=(X _ _ ho).symm.trans Zo
   cases z
  ·cases mS
 ca:=λ{prog w A E Q s} X p k=>by
  obtain⟨ob,h1,h2⟩:=p
  obtain⟨hh,gg,dd,tt,oo⟩:=s
  exact D6 X Z h1 h2 k
section
variable{X:Cx}
def wA:bD X (.builtin "isinstance") (λxs H Q=>∃(a C D:Addr) (b:Bool),xs=[.ref a,.ref D]/\H a=some (iM a C)/\mj X.K C/\PySem.W.kitOne X.K (.ref C) (.ref D)=some b/\Q (.bl b) H):=by
 intro aa s σ H xs us Q I r h;obtain⟨a,C,D,b,rfl,ha,Z,e,q⟩:=h
 obtain⟨u,u2,rfl,ru,ru2⟩:=vals2 r
 cases ru;cases ru2;obtain⟨⟨ob,vs,h1,h2,_⟩,_⟩:=I.aH _ _ ha
 exact PySem.W.kia_one (rG Z) I.nq ⟨ob,h1,h2⟩ e (λz=>nomatch z) λtk=>⟨.bl b,H,I.tok tk,rfl,q⟩
def wI:bD X (.builtin "isinstance") (λxs H Q=>∃(a C:Addr) (n:String) (b:Bool),xs=[.ref a,.ty n]/\H a=some (iM a C)/\mj X.K C/\PySem.W.kitOne X.K (.ref C) (.type n)=some b/\Q (.bl b) H):=by
 intro aa s σ H xs us Q I r h;obtain⟨a,C,n,b,rfl,ha,Z,e,q⟩:=h
 obtain⟨u,u2,rfl,ru,ru2⟩:=vals2 r
 cases ru;cases ru2;obtain⟨⟨ob,vs,h1,h2,_⟩,_⟩:=I.aH _ _ ha
 exact PySem.W.kia_one (rG Z) I.nq ⟨ob,h1,h2⟩ e (λz=>nomatch z) λtk=>⟨.bl b,H,I.tok tk,rfl,q⟩
def zi{x:Str}{a:Addr}{pos:Pos}(hg:Gl X x)(hm:X.mg x=some (.ref a))(hd:(x==("__debug__":Str))=false:=by decide):PE X (.Name x pos) (tC (.ref a)):=ve hg hm rfl hd
theorem kf{pos:Pos}(hg:Gl X "ValueError")(hm:X.mg "ValueError"=none):PE X (.Name "ValueError" pos) (tC (.ty "ValueError")):=vK hg hm (u:=.type "ValueError") (by decide+kernel) rfl
variable{aa:List (Addr×Obj)}{σ:St}{H:Hp}{s:Shared}
def ko{M:Model}{A:Around}{E:Value->Shared->Prop}{i:Nat}{x:Str}{pos:Pos}{Q:Unit->Shared->Prop}(I:Inv X aa σ H s)(hN:X.N.Nodup)(hi:X.N[i]?=some x)(hk:X.env.scope.names.lookup x=some .local)
 (h:∀s',Inv X aa (σ.set i none) H s'->Q () s'):wpAny M A (do bindName X.env x .none;unbindBehindTheSuite X.env x pos) Q E s:=by
 obtain⟨m,hn,hl⟩:=id I.loc
 have My:(X.env.scope.kind==.class||(X.env.scope.kind==.module&&X.env.locals !=X.env.globals))=false:=by rw [I.ok.kind];rfl
 have hiσ:i<σ.length:=by rw [I.len];exact(zzH.mp hi).1
 have xG:=I.xG
 have tracked:∀{a:Addr} {h':Heap},(∃o,s.heap.get? a=some o/\H a=none)->Heap.SameBut a s.heap h'->dE X.prog X.w H h':=λ{a h'} ha hs b ob e=>by
  obtain⟨_,_,hfree⟩:=ha
  refine(I.aH b ob e).di (λc w' hc q=>(hs.2 c ?_).trans q) (λ_ q=>q) λ_ _ q=>q
  rintro rfl
  rcases hc with rfl|hc
  ·rw [hfree] at e;cases e
  ·rw [hfree] at hc;cases hc
 refine wpAny_nameGoes_keeps hk hn My λh' v0 Q5 hs=>?_
 obtain⟨oL,_,_,O6,_⟩:=id hn
 refine h _ ⟨I.ok,I.os,I.bare,⟨λb o e n hb hx=>?_,λb o e n hb hx=>?_,I.base.free,λb o e hx=>?_,I.base.fB,I.base.ei,I.base.fe⟩,⟨_,Q5,λj y v' e1 e2 e3=>?_⟩,λy c e=>?_,I.free,I.dG,λp hp=>?_,tracked ⟨oL,O6,I.free⟩ hs,by simpa using I.len⟩
 ·exact(hs.2 b (zzb (zzW (zzO e) I.ok.above))).trans (I.base.keep b o e n hb hx)
 ·obtain⟨sl,e1⟩:=I.base.slot b o e n hb hx
  exact⟨sl,(hs.2 b (zzb (zzW (zzO e) I.ok.above))).trans e1⟩
 ·obtain⟨o',e1⟩:=I.base.there b o e hx
  exact⟨o',(hs.2 b (zzb (zzW (zzO e) I.ok.above))).trans e1⟩
 ·by_cases hj:j=i
  ·subst hj;rw [zzo hiσ] at e2;cases e2
  ·rw [zzS (Ne.symm hj)] at e2;obtain⟨u',r',q⟩:=hl j y v' e1 e2 e3
   refine⟨u',r',?_⟩;rcases q with⟨k,e⟩|⟨k,c,e,z⟩
   ·refine .inl ⟨k,?_⟩;have:y≠x:=λe=>hj (ja hN e1 (e▸hi))
    simp [this,e]
   ·exact .inr ⟨k,c,e,z.sameBut hs (xG y c e)⟩
 ·obtain⟨w',z⟩:=I.cell y c e
  exact⟨w',z.sameBut hs (xG y c e)⟩
 ·obtain⟨e,n,ne,nf,d⟩:=I.pin p hp
  exact⟨(hs.2 p.1 ne).trans e,n,ne,nf,d⟩
abbrev Cx.with1(X:Cx)(pn:List (Addr×Obj))(xe:Value->Shared->Prop):Cx:={X with pn:=pn,xe:=xe}
abbrev Cx.marked(X:Cx)(a:Addr)(pn:List (Addr×Obj)):Cx:={X with A:=X.A.mark (some (.ref a)),calm:=false,pn:=pn,xe:=λ_ _=>False}
def Az{pn:List (Addr×Obj)}{xe:Value->Shared->Prop}(o:X.Ok):(X.with1 pn xe).Ok:=⟨o.mod,o.kind,o.glob,o.blt,o.above,o.inj,o.has,o.FI,o.hd,o.frames,o.Bz,o.Tz,o.bs,o.uA,o.xu,o.yP,o.eV,o.uj⟩
def xB{a:Addr}{pn:List (Addr×Obj)}(o:X.Ok):(X.marked a pn).Ok:=⟨o.mod,o.kind,o.glob,o.blt,o.above,o.inj,o.has,o.FI,(λh=>nomatch h),o.frames,o.Bz,o.Tz,o.bs,o.uA,o.xu,o.yP,o.eV,o.uj⟩
def Inv.with1{xe:Value->Shared->Prop}(I:Inv X aa σ H s):Inv (X.with1 (X.pn++aa) xe) [] σ H s:=⟨Az I.ok,I.os,I.bare,I.base,I.loc,I.cell,I.free,I.dG,λp hp=>I.pin p (by rwa [zz6] at hp),I.aH,I.len⟩
def Inv.iY{xe:Value->Shared->Prop}(o:X.Ok){jg:List (Addr×Obj)}(I:Inv (X.with1 (X.pn++aa) xe) jg σ H s):Inv X aa σ H s:=⟨o,I.os,I.bare,I.base,I.loc,I.cell,I.free,I.dG,λp hp=>I.pin p (zzc _ hp),I.aH,I.len⟩
def Inv.mark{a:Addr}(I:Inv X aa σ H s):Inv (X.marked a (X.pn++aa)) [] σ H s:=⟨xB I.ok,I.os,I.bare,I.base,I.loc,I.cell,I.free,I.dG,λp hp=>I.pin p (by rwa [zz6] at hp),I.aH,I.len⟩
def Inv.unmark{a:Addr}(o:X.Ok){jg:List (Addr×Obj)}(I:Inv (X.marked a (X.pn++aa)) jg σ H s):Inv X aa σ H s:=⟨o,I.os,I.bare,I.base,I.loc,I.cell,I.free,I.dG,λp hp=>I.pin p (zzc _ hp),I.aH,I.len⟩
end
open PySem.AutoSeq1 (wpAny_loadPart')
theorem eL:fillsNumberSlot (.type "tuple") "mul"=pure false:=
 PySem.fillsNumberSlot_seq (id:="tuple.__mul__") (r:=some (.builtin "tuple.__rmul__")) PySem.F.slot_tuple_mul.lookup (by decide+kernel) PySem.F.slot_tuple_rmul.lookup (by decide+kernel)
def i7:seqRepeat? (.type "tuple")=pure (some (.builtin "tuple.__mul__")):=by
 unfold seqRepeat?;rw [PySem.seqSlot_of (T:="tuple") (name:="__mul__") (id:="tuple.__mul__") PySem.F.slot_tuple_mul.lookup (by decide+kernel),PySem.seqSlot_of (T:="tuple") (name:="__rmul__") (id:="tuple.__rmul__") PySem.F.slot_tuple_rmul.lookup (by decide+kernel)]
 rfl
theorem gu(a:Int)(t:Tok)(l:Addr)(items:Array Value)(n:Nat)(dd:Option Addr)(sl:Array (Option Value)):
 Meets (Builtin.«int.__rmul__» ⟨[.int a t,.ref l],[]⟩) (λ_ R s=>s.heap.get? l=some {cls:=.type "tuple",dict:=dd,data:=.seq items n,slots:=sl}/\R (.ok (.ret Value.notImplemented)) s):=
 .of_wp λprog w A R s h=>by obtain⟨hp,g,d,tk,os⟩:=s;obtain⟨hl,h⟩:=h;wp_walk;exact⟨_,rfl,h⟩
def ug(l:Addr)(items:Array Value)(n:Nat)(dd:Option Addr)(sl:Array (Option Value))(x:Int)(u:Tok)(x1:1<x)(x2:x<1000)(i1:0<items.size)(i2:items.size<1000):
 Meets (Builtin.«tuple.__mul__» ⟨[.ref l,.int x u],[]⟩) (λ_ R s=>s.heap.get? l=some {cls:=.type "tuple",dict:=dd,data:=.seq items n,slots:=sl}/\
  R (.ok (.ret (Value.ref (zz9 s)))) {s with heap:=s.heap.push {cls:=Value.type "tuple",data:=Data.seq (List.foldl (λx1 x2=>x1++x2) #[] (List.replicate x.toNat items))},toks:=s.toks}):=
 .of_wp λprog w A R s h=>by
  obtain⟨hp,g,d,tk,os⟩:=s
  obtain⟨hl,h⟩:=h
  have f1:=PySem.AutoSeq1.idx_int
  have f2:=PySem.AutoSeq1.sub_tuple_tuple
  have ie:items.isEmpty=false:=by
   cases h:items.isEmpty with
   |false=>rfl
   |true=>
    have:=Array.isEmpty_iff.mp h
    subst this;exact absurd i1 (by simp)
  wp_walk using wpAny_loadPart' hl
  refine wpAny_ite_false (zz0 (by rw [zzt,zzN,zzN];omega)) ?_;dsimp only
  wp_walk using wpAny_loadPart' hl
  refine wpAny_ite_false (zz0 (by rw [ie,Bool.false_or,zzy];omega)) ?_;refine wpAny_ite_false (zz0 (by rw [ie,Bool.or_false,zzN];omega)) ?_;have hm:(items.size:Int)*x<=1000*1000:=by
   have e1:(items.size:Int)*x<=1000*x:=Int.mul_le_mul_of_nonneg_right (by omega) (by omega)
   omega
  have DW:items.size*x.toNat<=1000*1000:=Nat.mul_le_mul (by omega) (by omega)
  have BZ:(1000000:Nat)<=sizeLine:=by decide
  have qr:(List.foldl (λx1 x2=>x1++x2) #[] (List.replicate x.toNat items)).size<=sizeLine:=by
   have e:=foldl_rep items.toList x.toNat []
   have e':(items.toList).toArray=items:=by simp
   rw [e',List.nil_append] at e;have e2:(List.foldl (λx1 x2=>x1++x2) #[] (List.replicate x.toNat items))=(List.replicate x.toNat items.toList).flatten.toArray:=e
   rw [e2,zzC,len_rep,zzd,Nat.mul_comm];omega
  refine wpAny_ite_false (zz0 (by omega)) ?_;refine wpAny_ite_false (zz0 (by unfold Builtin.Tuple.tupleTooMany;simp;omega)) ?_
  wp_walk
  exact⟨_,rfl,h⟩
def Dz{X:Cx}:ef X (binaryOp .Mult) (λx y H Q=>∃a n xs,x=.ref a/\y=.int n/\dI X.K H a xs/\1<n/\n<1000/\0<xs.length/\xs.length<1000/\∀p,H p=none->Q (.ref p) (upd H p (.tup (List.replicate n.toNat xs).flatten))):=by
 intro aa s σ H x y v u Q I rx ry h;obtain⟨a,n,xs,rfl,rfl,ha,h1,h2,h3,h4,q⟩:=h
 cases rx;obtain⟨t,rfl⟩:=ry
 obtain⟨ak,r,p1,_⟩:=I.tuple ha
 have hl:=r.length
 obtain⟨⟨cls,dd,data,sl⟩,ho,hc,k,hd⟩:=id p1
 simp only at hc hd;subst hc hd;have m9:List.foldl (λx1 x2=>x1++x2) #[] (List.replicate n.toNat ak.toArray)=(List.replicate n.toNat ak).flatten.toArray:=by
  have:=foldl_rep ak n.toNat []
  rw [List.nil_append] at this;exact this
 refine wpAny_binaryOp_repeat_ref (T:="tuple") (U:="int") (by decide) ⟨_,ho,rfl⟩ (λs'=>typeIs_int s' n t) eL PySem.F.fills_int_mul PySem.F.slot_int_rmul i7 PySem.F.slot_int_index.lookup
  (call_meets PySem.F.slot_int_rmul (typeIs_int s n t) PySem.F.entry_int_rmul (PySem.F.args_int_rmul_2 _ _) (gu n t a ak.toArray k dd sl)
   ⟨ho,rfl,⟨_,ho,rfl⟩,call_meets PySem.F.slot_tuple_mul ⟨_,ho,rfl⟩ PySem.F.entry_tuple_mul (PySem.F.args_tuple_mul_2 _ _) (ug a ak.toArray k dd sl n t h1 h2 (by rw [zzC];omega) (by rw [zzC];omega)) ⟨ho,?_⟩⟩)
 rw [m9];have hz:(List.replicate n.toNat xs).flatten.length<=sizeLine:=by
  rw [len_rep];have:n.toNat*xs.length<=1000*1000:=Nat.mul_le_mul (by omega) (by omega)
  have BZ:(1000000:Nat)<=sizeLine:=by decide
  omega
 refine⟨.ref (zz9 s),_,I.laid (t':=s.toks) (o:=.tup (List.replicate n.toNat xs).flatten) (λb ob q=>zzB _ q) (zzE _) ?_,rfl,q _ (I.aH.fresh (zzE _))⟩;exact⟨hz,_,r.rep n.toNat,IsTup.new _ _⟩
end L2
namespace Cw
open PySem L2
end Cw
namespace L2
open PySem PySem.Spec PyProof.Rows
section
variable{X:Cx}
def pT:bD X (.type "int") (λxs H Q=>∃z n,xs=[.str z]/\PySem.intText? z=some n/\z.length<=640/\Q (.int n) H):=by
 intro aa s σ H xs us Q I r h;obtain⟨z,n,rfl,h1,h2,q⟩:=h
 obtain⟨u,rfl,t,rfl⟩:=vals1 r
 exact PySem.W.KIN.call_text h1 h2 ⟨.int n,H,I.tok _,⟨_,rfl⟩,q⟩
end
end L2
namespace Cw
open PySem L2
end Cw
namespace L2
open PySem PySem.Spec PyProof.Rows
theorem n9{α β:Type}{R:α->β->Prop}:∀{xs:List α} {ys:List β},Paired R xs ys->∀{i:Nat} {x:α},xs[i]?=some x->∃y,ys[i]?=some y/\R x y
 |_,_,.nil,_,_,h=>by simp at h
 |_,_,.cons r t,0,x,h=>by simp at h;subst h;exact⟨_,rfl,r⟩
 |_,_,.cons r t,i+1,x,h=>by
  obtain⟨y,h1,h2⟩:=n9 t (i:=i) (x:=x) (by simpa using h)
  exact⟨y,by simpa using h1,h2⟩
theorem mB{α β:Type}{R:α->β->Prop}:∀{xs:List α} {ys:List β},Paired R xs ys->xs.length=ys.length
 |_,_,.nil=>rfl
 |_,_,.cons _ t=>by simp [mB t]
section
def yT{vs:List V}{ak:List Value}(r:Vals vs ak){j:Nat}(h:j<ak.toArray.size):∃v,vs[j]?=some v/\RelV v ak.toArray[j]:=by
 have hl:=r.length
 rw [zzC] at h;have hj:j<vs.length:=by omega
 obtain⟨u,hu,ru⟩:=r.get (i:=j) (x:=vs[j]) (zzg hj)
 rw [zzg h] at hu;cases hu;exact⟨_,zzg hj,by simpa using ru⟩
end
abbrev bz:HO:=.ext λ_=>True
def ma{P:Program}{w:World}{H:Hp}{h:Heap}{a:Addr}{o:Obj}(e:h.get? a=some o):bA P w H h a (.bt o bz):=⟨e,trivial,⟨o,e⟩,λ_ _ _ _=>trivial⟩
def aU(Z:List (Addr×Obj))(H:Hp):Hp:=λb=>match Z.lookup b with
 |some o=>some (.bt o bz)
 |none=>H b
def bb(Z:List (Addr×Obj))(H:Hp):Hp:=λb=>match Z.lookup b with
 |some _=>none
 |none=>H b
section
variable{Z:List (Addr×Obj)}{H H':Hp}{b:Addr}{o:Obj}
def bg(e:Z.lookup b=some o):aU Z H b=some (.bt o bz):=by unfold aU;rw [e]
def aq(e:Z.lookup b=none):aU Z H b=H b:=by unfold aU;rw [e]
def eP(e:Z.lookup b=some o):bb Z H b=none:=by unfold bb;rw [e]
def aA(e:Z.lookup b=none):bb Z H b=H b:=by unfold bb;rw [e]
def dU{u:HO}(e:bb Z H b=some u):Z.lookup b=none/\H b=some u:=by
 cases q:Z.lookup b with
 |none=>rw [aA q] at e;exact⟨rfl,e⟩
 |some o=>rw [eP q] at e;cases e
def iE(h:H b=none):bb Z H b=none:=by
 cases q:Z.lookup b with
 |none=>rw [aA q];exact h
 |some o=>exact eP q
structure sQ(Z:List (Addr×Obj))(H:Hp)(fs:List Addr)(h:Heap):Prop where
 at_:∀b o,Z.lookup b=some o->h.get? b=some o
 no:∀b o,Z.lookup b=some o->H b=none
 fr:∀b o,Z.lookup b=some o->b∉fs
variable{P:Program}{w:World}{fs:List Addr}{h h':Heap}
theorem sQ.aH(z:sQ Z H fs h)(k:dE P w H h):dE P w (aU Z H) h:=λb u e=>by
 cases q:Z.lookup b with
 |some o=>rw [bg q] at e;cases e;exact ma (z.at_ b o q)
 |none=>
  rw [aq q] at e;have nz:∀c v,H c=some v->Z.lookup c=none:=λc v hv=>by
   cases y:Z.lookup c with
   |none=>rfl
   |some o=>rw [z.no c o y] at hv;cases hv
  exact(k b u e).di (λc v _ r=>r) (λc r=>by rw [aq (nz c _ r)];exact r) λc xs r=>by rw [aq (nz c _ r)];exact r
def sQ.vg(z:sQ Z H fs h)(u:Un fs [] (aU Z H) H' h h')(k:dE P w H' h'):Un fs [] H (bb Z H') h h'/\dE P w (bb Z H') h':=by
 have zk:∀b o,Z.lookup b=some o->H' b=some (.bt o bz):=λb o q=>u.ei b o _ (bg q)
 have zh:∀b o,Z.lookup b=some o->h'.get? b=some o:=λb o q=>(k b _ (zk b o q)).1
 have nz:∀c v,H c=some v->Z.lookup c=none:=λc v hv=>by
  cases y:Z.lookup c with
  |none=>rfl
  |some o=>rw [z.no c o y] at hv;cases hv
 refine⟨⟨λb o e n hb hx=>?_,λb o e n hb hx=>?_,λb o e n hx=>?_,λb o e hx=>u.there b o e hx,λb xs e=>?_,λb o v e=>?_,λb ps e=>?_⟩,λb v e=>?_⟩
 ·cases q:Z.lookup b with
  |some o'=>
   have e2:=z.at_ b o' q
   rw [e] at e2;cases e2;exact zh b o q
  |none=>exact u.keep b o e (by rw [aq q];exact n) hb hx
 ·cases q:Z.lookup b with
  |some o'=>exact absurd hb (z.fr b o' q)
  |none=>exact u.slot b o e (by rw [aq q];exact n) hb hx
 ·cases q:Z.lookup b with
  |some o'=>exact eP q
  |none=>rw [aA q];exact u.free b o e (by rw [aq q];exact n) hx
 ·rw [aA (nz b _ e)];exact u.fB b xs (by rw [aq (nz b _ e)];exact e)
 ·rw [aA (nz b _ e)];exact u.ei b o v (by rw [aq (nz b _ e)];exact e)
 ·rw [aA (nz b _ e)];exact u.fe b ps (by rw [aq (nz b _ e)];exact e)
 ·obtain⟨q,e1⟩:=dU e
  refine(k b v e1).di (λc y _ r=>r) (λc r=>?_) λc xs r=>?_
  ·cases y:Z.lookup c with
   |none=>rw [aA y];exact r
   |some o=>rw [zk c o y] at r;cases r
  ·cases y:Z.lookup c with
   |none=>rw [aA y];exact r
   |some o=>rw [zk c o y] at r;cases r
def sQ.vR(z:sQ Z H fs h)(u:Un fs [] H H' h h')(k:dE P w H' h'):Un fs [] (aU Z H) (aU Z H') h h'/\dE P w (aU Z H') h':=by
 have zh:∀b o,Z.lookup b=some o->h'.get? b=some o:=λb o q=>u.keep b o (z.at_ b o q) (z.no b o q) (z.fr b o q) (λy=>nomatch y)
 have zn:∀b o,Z.lookup b=some o->H' b=none:=λb o q=>u.free b o (z.at_ b o q) (z.no b o q) (λy=>nomatch y)
 have nz:∀c v,H' c=some v->Z.lookup c=none:=λc v hv=>by
  cases y:Z.lookup c with
  |none=>rfl
  |some o=>rw [zn c o y] at hv;cases hv
 have nw:∀b,aU Z H b=none->Z.lookup b=none/\H b=none:=λb e=>by
  cases q:Z.lookup b with
  |some o=>rw [bg q] at e;cases e
  |none=>rw [aq q] at e;exact⟨rfl,e⟩
 refine⟨⟨λb o e n hb hx=>u.keep b o e (nw b n).2 hb hx,λb o e n hb hx=>u.slot b o e (nw b n).2 hb hx,λb o e n hx=>?_,λb o e hx=>u.there b o e hx,λb xs e=>?_,λb o v e=>?_,λb ps e=>?_⟩,λb v e=>?_⟩
 ·rw [aq (nw b n).1];exact u.free b o e (nw b n).2 hx
 ·cases q:Z.lookup b with
  |some o=>rw [bg q] at e;cases e
  |none=>rw [aq q] at e⊢;exact u.fB b xs e
 ·cases q:Z.lookup b with
  |some o'=>rw [bg q] at e⊢;exact e
  |none=>rw [aq q] at e⊢;exact u.ei b o v e
 ·cases q:Z.lookup b with
  |some o=>rw [bg q] at e;cases e
  |none=>rw [aq q] at e⊢;exact u.fe b ps e
 ·cases q:Z.lookup b with
  |some o=>rw [bg q] at e;cases e;exact ma (zh b o q)
  |none=>
   rw [aq q] at e;exact(k b v e).di (λc y _ r=>r) (λc r=>by rw [aq (nz c _ r)];exact r) λc xs r=>by rw [aq (nz c _ r)];exact r
variable{K:zz8}{mg:Str->Option Value}{base:Heap}{A:Around}{outer:List Env}{s s':Shared}
theorem iP.aU(e:iP P w K mg base A outer s H)(z:sQ Z H (dD outer) s.heap)(zb:∀b o,Z.lookup b=some o->base.get? b=none):iP P w K mg base A outer s (aU Z H) where
 frames:=e.frames
 mod:=e.mod
 bs:=λb o q=>⟨(e.bs b o q).1,by
  cases y:Z.lookup b with
  |some o'=>rw [zb b o' y] at q;cases q
  |none=>rw [aq y];exact(e.bs b o q).2⟩
 uA:=e.uA
 eV:=e.eV
 uj:=λb hb=>by
  cases y:Z.lookup b with
  |some o'=>exact absurd hb (z.fr b o' y)
  |none=>rw [aq y];exact e.uj b hb
 aH:=z.aH e.aH
 bare:=e.bare
def CE.less{Q:VK}{u:Value}(z:sQ Z H (dD outer) s.heap)(h:CE outer P w (aU Z H) s (λv H'=>Q v (bb Z H')) u s'):CE outer P w H s Q u s':=by
 obtain⟨v,H',os,bare,un,aH,r,q⟩:=h
 obtain⟨u1,k1⟩:=z.vg un aH
 exact⟨v,_,os,bare,u1,k1,r,q⟩
def CE.more{Q:VK}{u:Value}(z:sQ Z H (dD outer) s.heap)(h:CE outer P w H s (λv H'=>(∀b o,Z.lookup b=some o->H' b=none)->Q v (aU Z H')) u s'):CE outer P w (aU Z H) s Q u s':=by
 obtain⟨v,H',os,bare,un,aH,r,q⟩:=h
 obtain⟨u1,k1⟩:=z.vR un aH
 exact⟨v,_,os,bare,u1,k1,r,q λb o y=>un.free b o (z.at_ b o y) (z.no b o y) (λy=>nomatch y)⟩
def du.less{E:XK}{e:Value}(z:sQ Z H (dD outer) s.heap)(h:du P w outer (aU Z H) s (λC a H'=>E C a (bb Z H')) e s'):du P w outer H s E e s':=by
 obtain⟨a,C,t,vs,H',B,rfl,F⟩:=h
 have zk:∀b o,Z.lookup b=some o->H' b=some (.bt o bz):=λb o q=>F.un.ei b o _ (bg q)
 have kB:∀b o,s.heap.get? b=some o->H b=none->b∉dD outer->B.get? b=some o:=λb o e n hb=>by
  cases q:Z.lookup b with
  |some o'=>
   have e2:=z.at_ b o' q
   rw [e] at e2;cases e2;exact(F.aH b _ (zk b o q)).1
  |none=>exact F.dw b o e (by rw [aq q];exact n) hb
 have hB:dE P w (bb Z H') B:=λb v e=>by
  obtain⟨q,e1⟩:=dU e
  refine(F.aH b v e1).di (λc y _ r=>r) (λc r=>?_) λc xs r=>?_
  ·cases y:Z.lookup c with
   |none=>rw [aA y];exact r
   |some o=>rw [zk c o y] at r;cases r
  ·cases y:Z.lookup c with
   |none=>rw [aA y];exact r
   |some o=>rw [zk c o y] at r;cases r
 have hs:dE P w H' s'.heap:=λb v e=>(F.aH b v e).di (λc y _ r=>F.xq.1 _ _ r) (λ_ r=>r) λ_ _ r=>r
 obtain⟨u1,_⟩:=z.vg (P:=P) (w:=w) F.un hs
 exact⟨a,C,t,vs,_,B,rfl,⟨F.os,F.bare,hB,F.xq,F.tn,F.tup,kB,F.bZ,u1,F.ends⟩⟩
def du.more{E:XK}{e:Value}(z:sQ Z H (dD outer) s.heap)(h:du P w outer H s (λC a H'=>(∀b o,Z.lookup b=some o->H' b=none)->E C a (aU Z H')) e s'):du P w outer (aU Z H) s E e s':=by
 obtain⟨a,C,t,vs,H',B,rfl,F⟩:=h
 have zB:∀b o,Z.lookup b=some o->B.get? b=some o:=λb o q=>F.dw b o (z.at_ b o q) (z.no b o q) (z.fr b o q)
 have zn:∀b o,Z.lookup b=some o->H' b=none:=λb o q=>F.un.free b o (z.at_ b o q) (z.no b o q) (λy=>nomatch y)
 have nz:∀c v,H' c=some v->Z.lookup c=none:=λc v hv=>by
  cases y:Z.lookup c with
  |none=>rfl
  |some o=>rw [zn c o y] at hv;cases hv
 have hB:dE P w (aU Z H') B:=λb v e=>by
  cases q:Z.lookup b with
  |some o=>rw [bg q] at e;cases e;exact ma (zB b o q)
  |none=>
   rw [aq q] at e;exact(F.aH b v e).di (λc y _ r=>r) (λc r=>by rw [aq (nz c _ r)];exact r) λc xs r=>by rw [aq (nz c _ r)];exact r
 have hs:dE P w H' s'.heap:=λb v e=>(F.aH b v e).di (λc y _ r=>F.xq.1 _ _ r) (λ_ r=>r) λ_ _ r=>r
 obtain⟨u1,_⟩:=z.vR (P:=P) (w:=w) F.un hs
 refine⟨a,C,t,vs,_,B,rfl,⟨F.os,F.bare,hB,F.xq,F.tn,F.tup,λb o e n hb=>F.dw b o e ?_ hb,F.bZ,u1,F.ends zn⟩⟩
 cases q:Z.lookup b with
 |some o=>rw [bg q] at n;cases n
 |none=>rw [aq q] at n;exact n
end
structure qK(ps ys:List Str)(scope:Scope):Prop where
 kind:scope.kind=.function
 co:scope.isCoroutine=false
 gen:scope.isGenerator=false
 nd:(ps++ys).Nodup
 A3:∀x∈scope.names,x.2≠.cell
 par:∀x∈ps,scope.names.lookup x=some .local
 Sh:∀y∈ys,scope.names.lookup y=some .free
 Ov:∀x,scope.names.lookup x=some .free->x∈ys
noncomputable def FE(P:Program)(w:World)(K:zz8)(mg:Str->Option Value)(base:Heap)(N:List Str)(qual:Str)(scope:Scope)(f:Addr)(cd:Value)(cl:List (Str×Addr))(A:Around)(outer:List Env)(s:Shared)(H:Hp)(E:XK):Cx where
 prog:=P
 w:=w
 K:=K
 mg:=mg
 base:=base
 A:=A.deeper (PySem.W.envX qual scope (zz9 s) f cd cl)
 N:=N
 s₀:=s
 H₀:=H
 env:=PySem.W.envX qual scope (zz9 s) f cd cl
 outer:=outer
 stack:=PySem.W.envX qual scope (zz9 s) f cd cl::outer
 ex:=[]
 calm:=true
 fn:=λ_=>false
 pn:=[]
 xe:=λe s'=>wpAny (model P w) (A.deeper (PySem.W.envX qual scope (zz9 s) f cd cl)) (leaving (PySem.W.envX qual scope (zz9 s) f cd cl) e) (λ_ Dh=>du P w outer H s E e Dh) (λe' Dh=>du P w outer H s E e' Dh) s'
theorem oA{α:Type}:∀{l:List (Str×α)} {x:Str} {v:α},(l.map (·.1)).Nodup->(x,v)∈l->l.lookup x=some v
 |(y,u)::r,x,v,nd,h=>by
  rw [zzF,List.nodup_cons] at nd;rw [zz5];rcases zzm.mp h with e|e
  ·cases e;simp
  ·have iK:(x==y)=false:=beq_eq_false_iff_ne.mpr λz=>nd.1 (by subst z;exact List.mem_map_of_mem (f:=(·.1)) e)
   rw [iK];exact oA nd.2 e
def lI{ps:List Str}{us:List Value}{i:Nat}{x:Str}{u:Value}(nd:ps.Nodup)(h1:ps[i]?=some x)(h2:us[i]?=some u):(ps.zip us).reverse.lookup x=some u:=by
 have hs:∀{ps:List Str} {us:List Value},List.Sublist ((ps.zip us).map (·.1)) ps:=λ{ps us}=>by
  induction ps generalizing us with
  |nil=>simp
  |cons p ps ih=>
   cases us with
   |nil=>simp
   |cons q us=>simpa using ih
 refine oA ?_ ?_
 ·rw [List.map_reverse];exact List.pairwise_reverse.mpr ((nd.sublist hs).imp λh=>Ne.symm h)
 ·rw [List.mem_reverse];refine zzD (i:=i) ?_;rw [List.getElem?_zip_eq_some];exact⟨h1,h2⟩
section
variable{P:Program}{w:World}{K:zz8}{mg:Str->Option Value}{base:Heap}{ps ys:List Str}{qual:Str}{scope:Scope}{f:Addr}{cd:Value}{cl:List (Str×Addr)}{A:Around}{outer:List Env}{s:Shared}{H:Hp}{E:XK}
def tW{us:List Value}{vs ws:List V}{h':Heap}{tk:Nat}(S:qK ps ys scope)(hd:A.handled=none)(e0:iP P w K mg base A outer s H)(O9:∀y∈ys,∃c,cl.lookup y=some c)(inj:∀x y c,cl.lookup x=some c->cl.lookup y=some c->x=y)
 (r:Vals vs us) (hl:vs.length=ps.length) (hw:ws.length=ys.length) (cells:∀(i:Nat) y c,ys[i]?=some y->cl.lookup y=some c->∀v,ws[i]?=some v->∃u,RelV v u/\s.heap.IsCell c (some u)) (UM:∀x c,cl.lookup x=some c->∃v,s.heap.IsCell c v)
 (QP:∀x c,cl.lookup x=some c->H c=none) (ns:h'.Ns (zz9 s) (λx=>(ps.zip us).reverse.lookup x)) (hk:∀b o,s.heap.get? b=some o->h'.get? b=some o):
 Inv (FE P w K mg base (ps++ys) qual scope f cd cl A outer s H E) [] (vs.map some++ws.map some) H {s with heap:=h',toks:=tk}:=by
 have Ef:∀b:Addr,b∉(FE P w K mg base (ps++ys) qual scope f cd cl A outer s H E).ex:=λb z=>absurd (show b∈([]:List Addr) from z) (by simp)
 have ck:∀c v,s.heap.IsCell c v->h'.IsCell c v:=λc v ⟨o,ho,hd⟩=>⟨o,hk c o ho,hd⟩
 refine⟨⟨e0.mod,S.kind,rfl,rfl,zzE _,inj,λx hx=>?_,(λx c z=>nomatch z),λ_=>hd,Around.frames_deeper e0.frames,.inr ⟨rfl,rfl⟩,λb z=>absurd z (Ef b),e0.bs,e0.uA,λb _ _=>Ef b,λb z=>absurd z (Ef b),e0.eV,e0.uj⟩,
  rfl,e0.bare,Un.kept hk,⟨_,ns,λi x v h1 h2 h3=>?_⟩,λx c h=>let⟨v,z⟩:=UM x c h;⟨v,ck c v z⟩,e0.aH.fresh (zzE _),QP,λp hp=>absurd (show p∈([]:List (Addr×Obj)) from hp) (by simp),e0.aH.kept hk,?_⟩
 ·have hx:scope.names.lookup x=some .cell\/scope.names.lookup x=some .free:=hx
  rcases hx with hx|hx
  ·exact absurd rfl (S.A3 _ (PySem.mem_of_lookup hx))
  ·exact O9 x (S.Ov x hx)
 ·have h1:(ps++ys)[i]?=some x:=h1
  by_cases hi:i<vs.length
  ·rw [zzr (by simpa using hi),zzQ] at h2;have ha:vs[i]?=some v:=by
    cases e:vs[i]? with
    |none=>rw [e] at h2;cases h2
    |some a=>rw [e] at h2;cases h2;rfl
   obtain⟨u,hu,rv⟩:=r.get ha
   have hp:ps[i]?=some x:=by rw [zzr (by omega)] at h1;exact h1
   exact⟨u,rv,.inl ⟨S.par x (zzD hp),lI (S.nd.sublist (List.sublist_append_left _ _)) hp hu⟩⟩
  ·rw [zzs (by simpa using hi),zzQ,zzl] at h2;rw [zzs (by omega)] at h1;have ha:ws[i-vs.length]?=some v:=by
    cases e:ws[i-vs.length]? with
    |none=>rw [e] at h2;cases h2
    |some a=>rw [e] at h2;cases h2;rfl
   rw [<-hl] at h1;obtain⟨c,hc⟩:=O9 x (zzD h1)
   obtain⟨u,rv,z⟩:=cells _ x c h1 hc v ha
   exact⟨u,rv,.inr ⟨.inr (S.Sh x (zzD h1)),c,hc,ck c _ z⟩⟩
 ·show _=(ps++ys).length
  rw [zzM,zzM,zzl,zzl,hl,hw]
def Qg{N:List Str}:Passes (du P w) (FE P w K mg base N qual scope f cd cl A outer s H E) E:=by
 rintro aa σ H1 s1 e s' I ⟨a,C,t,vs,H',B,rfl,F⟩
 have nx:∀b:Addr,b∉(FE P w K mg base N qual scope f cd cl A outer s H E).ex:=λb z=>nomatch (show b∈([]:List Addr) from z)
 have dw:∀b o,s.heap.get? b=some o->H b=none->b∉dD outer->B.get? b=some o:=λb o q n hb=>
  F.dw b o (I.base.keep b o q n hb (nx b)) (I.base.free b o q n (nx b)) (jY I rfl q hb)
 have bZ:∀b o,s.heap.get? b=some o->b∉dD outer->∃o',B.get? b=some o':=λb o q hb=>by
  obtain⟨o1,q1⟩:=I.base.there b o q (nx b)
  exact F.bZ b o1 q1 (jY I rfl q hb)
 refine wpAny_leaves_onW I.ok.frames rfl F.xq λh' x1 x2=>⟨a,C,t,vs,H',B,rfl,?_⟩
 have slot:∀b o,s.heap.get? b=some o->H b=none->b∈dD outer->∃sl,h'.get? b=some {o with slots:=sl}:=λb o q n hb=>by
  obtain⟨sl,q1⟩:=I.base.slot b o q n hb (nx b)
  obtain⟨sl2,q2⟩:=F.un.any q1 (I.base.free b o q n (nx b)) (λz=>nomatch z)
  obtain⟨_,o',q3,hd⟩:=F.xq.2.2.1.mem (b:=b) (zz1.mpr (let⟨v,h1,h2⟩:=zz1.mp hb;⟨v,.tail _ h1,h2⟩))
  rw [q2] at q3;cases q3;obtain⟨sl3,q4⟩:=x2 b _ q2 hd
  exact⟨sl3,q4⟩
 refine⟨F.os.trans I.os,F.bare,F.aH,x1,F.tn,F.tup.of_slots x2,dw,bZ,⟨λb o q n hb _=>x1.1 _ _ (dw b o q n hb),λb o q n hb _=>slot b o q n hb,λb o q n _=>?_,λb o q _=>?_,λb xs q=>F.un.fB _ _ (I.base.fB _ _ q),λb o u q=>F.un.ei _ _ _ (I.base.ei _ _ _ q),λb ps q=>?_⟩,F.ends⟩
 ·obtain⟨sl,q1⟩:=I.base.any q n (nx b)
  exact F.un.free b _ q1 (I.base.free b o q n (nx b)) (λz=>nomatch z)
 ·by_cases hb:b∈dD outer
  ·obtain⟨sl,q1⟩:=slot b o q (I.ok.uj b hb) hb
   exact⟨_,q1⟩
  ·obtain⟨o',q1⟩:=bZ b o q hb
   exact⟨o',x1.1 _ _ q1⟩
 ·obtain⟨m1,q1⟩:=I.base.fe b ps q
  obtain⟨m2,q2⟩:=F.un.fe b _ q1
  exact⟨m1++m2,by rw [<-Array.append_assoc];exact q2⟩
def vF{k:Nat}{params:Arguments}{body:Expr}{pm fm:Value}{c':Addr}{oc:Obj}{cq:Array Value}{ct:Tok}{us:List Value}{vs ws:List V}{Q:VK}{Z:List (Addr×Obj)}{t:TE}
 (S:qK ps ys scope) (hr:dh k A) (e0:iP P w K mg base A outer s H) (z:sQ Z H (dD outer) s.heap) (zb:∀b o,Z.lookup b=some o->base.get? b=none)
 (ho:s.heap.get? f=some (PySem.W.kla_obj "<lambda>" qual params body scope cl pm c' fm)) (hc:s.heap.get? c'=some oc) (mS:oc.data=.fields cq) (F1:cq[1]?=some (.str qual ct))
 (hb:bindArgs (PySem.W.kla_fn "<lambda>" qual params body scope cl pm (.ref c') fm) ⟨us,[]⟩=pure (ps.zip us)) (r:Vals vs us) (hl:vs.length=ps.length) (hw:ws.length=ys.length)
 (O9:∀y∈ys,∃c,cl.lookup y=some c) (inj:∀x y c,cl.lookup x=some c->cl.lookup y=some c->x=y)
 (cz:∀x c,cl.lookup x=some c->∃o v,Z.lookup c=some o/\o.data=.cell v)
 (cells:∀(i:Nat) y c,ys[i]?=some y->cl.lookup y=some c->∀v,ws[i]?=some v->∃u,RelV v u/\s.heap.IsCell c (some u))
 (ht:PE (FE P w K mg base (ps++ys) qual scope f (.ref c') cl A outer s H (λC a H'=>(∀b o,Z.lookup b=some o->H' b=none)->E C a (aU Z H'))) body t)
 (hq:t (vs.map some++ws.map some) H λv H'=>(∀b o,Z.lookup b=some o->H' b=none)->Q v (aU Z H')):
 codeAny (model P w) A (.call (.ref f) ⟨us,[]⟩) (CR (du P w) outer P w (aU Z H) s Q E) s:=by
 have lim:s.heap.NoLimit:=e0.mod.nolimit.keeps λb o e=>(e0.bs b o e).1
 refine PySem.W.kla_callFunE hr.depth ho rfl S.co S.gen rfl ⟨c',oc,cq,ct,rfl,hc,mS,F1⟩ ?_;rw [hb];refine zzG (wpAny_newFunctionEnv S.A3 (λy hy=>S.par y.1 (List.of_mem_zip hy).1) (λh₁ RJ hsb=>?_) S.kind)
 have hk₁:∀b o,s.heap.get? b=some o->h₁.get? b=some o:=λb o e=>hsb.extBut b o (zzb (zzO e)) (zzB _ e)
 refine⟨lim.keeps hk₁,?_⟩;show codeAny _ _ (.expr body (PySem.W.envX qual scope (zz9 s) f (.ref c') cl)) _ _;have I:=tW (E:=λC a H'=>(∀b o,Z.lookup b=some o->H' b=none)->E C a (aU Z H')) (cd:=.ref c') (f:=f) (qual:=qual) (tk:=s.toks+(ps.zip us).length) S hr.hd e0 O9 inj r hl hw cells (λx c h=>by
  obtain⟨o,v,h1,h2⟩:=cz x c h
  exact⟨v,o,z.at_ c o h1,h2⟩) (λx c h=>by
  obtain⟨o,v,h1,h2⟩:=cz x c h
  exact z.no c o h1) RJ hk₁
 refine PySem.W.kla_codeExpr (wpAny_mono (ht [] _ _ H _ I hq) (λu s' hs=>?_) λe s' hs=>?_)
 ·obtain⟨v,H',J,rv,q⟩:=hs
  exact CE.more z ⟨v,H',J.os,J.bare,J.base,J.aH,rv,q⟩
 ·exact wpAny_mono hs (λ_ Dh y=>du.more z y) λe' Dh y=>du.more z y
end
def tU{p:Pos}{a b:Int}{c cv:Value}:∀(l:List Value),TriplesOk l->codeAmong p (l++[rawInt a,rawInt b,c])=some cv->codeAmong p l=some cv\/cv=c:=by
 intro l h e
 fun_induction TriplesOk l with
 |case1=>
  simp! [List.nil_append,codeAmong,rawInt] at e;split at e
  ·cases e;exact .inr rfl
  ·cases e
 |case2 a' t b' u x rest ih=>
  simp! [List.cons_append,codeAmong] at e⊢;split at e
  ·rename_i hc;rw [if_pos hc];exact .inl e
  ·rename_i hc;rw [if_neg hc];exact ih h e
 |case3 l h1 h2=>exact h.elim
def AS(mg:Str->Option Value)(base:Heap):Prop:=∃bm o,mg "__builtins__"=some (.ref bm)/\bm≠builtinsNs/\bm≠mainGlobals/\base.get? bm=some o/\o.cls=.type "module"/\o.dict=some builtinsNs/\o.data=.plain
noncomputable def gf(H:Hp)(P:Addr)(qw:Array Value)(c':Addr)(oc:Obj)(f:Addr)(fo:Obj):Hp:=upd (upd (upd H P (.fC qw)) c' (.bt oc bz)) f (.bt fo bz)
section
variable{X:Cx}{aa:List (Addr×Obj)}{σ:St}{H:Hp}{s:Shared}{c P c' f:Addr}{ps qw:Array Value}{oc fo:Obj}
def Inv.lam{h':Heap}{tk:Nat}(I:Inv X aa σ H s)(hP:H P=some (.fC ps))(hx:∀b o,b≠P->s.heap.get? b=some o->h'.get? b=some o)(O3:h'.get? P=some (PySem.W.tabObj qw))(more:∃m,qw=ps++m)
 (hc:H c'=none/\(zz9 s)<=c'\/H c'=some (.bt oc bz)) (YO:h'.get? c'=some oc) (hf:(zz9 s)<=f) (Y2:h'.get? f=some fo) (O7:c'≠f):
 Inv X aa σ (gf H P qw c' oc f fo) {s with heap:=h',toks:=tk}:=by
 have fr:H f=none:=I.aH.fresh hf
 have nP:∀b u,H b=some u->(∀q,u≠.fC q)->b≠P:=λb u e n z=>by subst z;rw [hP] at e;cases e;exact n _ rfl
 have nf:∀b u,H b=some u->b≠f:=λb u e z=>by subst z;rw [fr] at e;cases e
 have cP:c'≠P:=λz=>by
  subst z;rcases hc with⟨e,_⟩|e
  ·rw [hP] at e;cases e
  ·rw [hP] at e;cases e
 have fP:f≠P:=λz=>by subst z;rw [hP] at fr;cases fr
 have at_:∀b u,H b=some u->(∀q,u≠.fC q)->gf H P qw c' oc f fo b=some u:=λb u e n=>by
  unfold gf;rw [ag (nf b u e)]
  by_cases hb:b=c'
  ·subst hb;rw [aj];rcases hc with⟨z,_⟩|z
   ·rw [z] at e;cases e
   ·rw [z] at e;exact e
  ·rw [ag hb,ag (nP b u e n)];exact e
 have no:∀b o,s.heap.get? b=some o->H b=none->gf H P qw c' oc f fo b=none:=λb o e n=>by
  have Cr:b≠f:=λz=>absurd (zzO e) (by rw [z];exact Nat.not_lt.mpr hf)
  have OY:b≠P:=λz=>by subst z;rw [hP] at n;cases n
  have x6:b≠c':=λz=>by
   rcases hc with⟨_,y⟩|y
   ·exact absurd (zzO e) (by rw [z];exact Nat.not_lt.mpr y)
   ·rw [z,y] at n;cases n
  unfold gf;rw [ag Cr,ag x6,ag OY];exact n
 have kp:∀b o,s.heap.get? b=some o->H b=none->h'.get? b=some o:=λb o e n=>hx b o (λz=>by subst z;rw [hP] at n;cases n) e
 refine I.un ⟨λb o e n _ _=>kp b o e n,λb o e n _ _=>⟨o.slots,kp b o e n⟩,λb o e n _=>no b o e n,λb o e _=>?_,λb xs e=>at_ b _ e (λ_ z=>nomatch z),λb o u e=>at_ b _ e (λ_ z=>nomatch z),λb qs e=>?_⟩ λb u e=>?_
 ·by_cases hb:b=P
  ·exact⟨_,by rw [hb];exact O3⟩
  ·exact⟨o,hx b o hb e⟩
 ·by_cases hb:b=P
  ·subst hb;rw [hP] at e;cases e;obtain⟨m,rfl⟩:=more
   exact⟨m,by unfold gf;rw [ag (Ne.symm fP),ag (Ne.symm cP),aj]⟩
  ·have x6:b≠c':=λz=>by
    subst z;rcases hc with⟨y,_⟩|y
    ·rw [y] at e;cases e
    ·rw [y] at e;cases e
   exact⟨#[],by unfold gf;rw [ag (nf b _ e),ag x6,ag hb,e];simp⟩
 ·unfold gf at e
  by_cases h1:b=f
  ·subst h1;rw [aj] at e;cases e;exact ma Y2
  ·rw [ag h1] at e
   by_cases h2:b=c'
   ·subst h2;rw [aj] at e;cases e;exact ma YO
   ·rw [ag h2] at e
    by_cases h3:b=P
    ·subst h3;rw [aj] at e;cases e;exact O3
    ·rw [ag h3] at e;refine(I.aH b u e).di (λd v hd q=>hx d v ?_ q) (λd q=>at_ d _ q (λ_ z=>nomatch z)) λd xs q=>at_ d _ q (λ_ z=>nomatch z)
     rcases hd with hd|hd
     ·rw [hd];exact h3
     ·exact nP d _ hd (λ_ z=>nomatch z)
def A2{R:Addr->Obj->Prop}{params:Arguments}{body:Expr}{scope:Scope}{pos:Pos}{cl:List (Str×Addr)}{Q:Value->Shared->Prop}{E:Value->Shared->Prop}(I:Inv X aa σ H s)(hP:H P=some (.fC ps))(ht:TriplesOk ps.toList)(u9:X.env.code=.ref c)(C:PySem.W.CodeHd X.base c P)
 (Za:AS X.mg X.base) (B3:closureFor scope X.env=pure cl) (OC:defaultsOf params X.env=([],[]))
 (hit:∀cv,codeAmong pos ps.toList=some cv->∃c' oc cq t,cv=.ref c'/\H c'=some (.bt oc bz)/\R c' oc/\oc.data=.fields cq/\cq[1]?=some (.str (X.env.qual++"<lambda>") t))
 (h:∀(f c':Addr) (oc:Obj) (cq:Array Value) (t:Tok) (fm:Value) (qw:Array Value) (h':Heap) (tk:Nat),H f=none->(H c'=none\/H c'=some (.bt oc bz)/\R c' oc)->c'≠f->f≠P->c'≠P->oc.data=.fields cq->cq[1]?=some (.str (X.env.qual++"<lambda>") t)->TriplesOk qw.toList->
  (∀p cv,codeAmong p qw.toList=some cv->codeAmong p ps.toList=some cv\/cv=.ref c')->(∃m,qw=ps++m)->
  Inv X aa σ (gf H P qw c' oc f (PySem.W.kla_obj "<lambda>" (X.env.qual++"<lambda>") params body scope cl ((X.mg "__name__").getD .none) c' fm)) {s with heap:=h',toks:=tk}->Q (.ref f) {s with heap:=h',toks:=tk}):
 wpAny (model X.prog X.w) X.A (eval (.Lambda params body scope pos) X.env) Q E s:=by
 have Tj:s.heap.get? P=some (PySem.W.tabObj ps):=I.aH P _ hP
 have hg:=I.ok.mod.glob.keeps I.bk
 have Xv:mainGlobals≠P:=λq=>by
  obtain⟨o,es,ep,e,_⟩:=I.ok.mod.glob
  have:=(I.bs _ _ e).2
  rw [q,hP] at this;cases this
 obtain⟨bm,ob,b1,b2,b3,b4,b5,b6,b7⟩:=Za
 have hB:s.heap.BuiltinsAt X.mg P:=⟨bm,ob,b1,b2,b3,(λq=>by
  have:=(I.bs _ _ b4).2
  rw [q,hP] at this;cases this),I.bk _ _ b4,b5,b6,b7⟩
 refine PySem.W.kla_eval OC ?_;cases hm:codeAmong pos ps.toList with
 |none=>
  refine PySem.W.kla_makeFunction (mg:=X.mg) B3 I.ok.glob hg u9 (C.keeps I.bk) Tj ht hm Xv hB λc' fm h' tk hx IJ bB U8 YV=>?_
  obtain⟨c₂,oc,vs,t,e2,hoc,hd,hv⟩:=U8
  cases e2;have F1:H c'=none:=I.aH.fresh IJ
  have hsz:(zz9 s)<=h'.objs.size:=zzU IJ (Nat.le_of_lt bB)
  have j5:H h'.objs.size=none:=I.aH.fresh hsz
  refine h h'.objs.size c' oc vs t fm _ _ tk j5 (.inl F1) (zzb bB) (λz=>by rw [z,hP] at j5;cases j5) (λz=>by rw [z,hP] at F1;cases F1) hd hv ?_ ?_ ⟨_,rfl⟩
   (I.lam hP (λb o hb e=>zzB _ (hx b o hb e)) (zzB _ YV) ⟨_,rfl⟩ (.inl ⟨F1,IJ⟩) (zzB _ hoc) hsz (zzX _ rfl) (zzb bB))
  ·rw [Array.toList_append];exact TriplesOk_snoc _ _ _ _ ht
  ·intro p cv e;rw [Array.toList_append] at e;exact tU _ ht e
 |some cv=>
  obtain⟨c',oc,cq,t,rfl,fE,hR,hd,hv⟩:=hit cv hm
  refine PySem.W.kla_makeFunctionHit (mg:=X.mg) B3 I.ok.glob hg u9 (C.keeps I.bk) Tj ht hm hB λfm h' tk hk hsz=>?_
  have j5:H h'.objs.size=none:=I.aH.fresh hsz
  have yb:s.heap.get? c'=some oc:=(I.aH c' _ fE).1
  have O7:c'≠h'.objs.size:=λz=>by rw [z,j5] at fE;cases fE
  refine h h'.objs.size c' oc cq t fm ps _ tk j5 (.inr ⟨fE,hR⟩) O7 (λz=>by rw [z,hP] at j5;cases j5) (λz=>by rw [z,hP] at fE;cases fE) hd hv ht (λp cv e=>.inl e) ⟨#[],by simp⟩
   (I.lam hP (λb o hb e=>zzB _ (hk b o e)) (zzB _ (hk _ _ Tj)) ⟨#[],by simp⟩ (.inr fE) (zzB _ (hk _ _ yb)) hsz (zzX _ rfl) O7)
end
section
end
section
end
section
variable{a b:Expr}
end
section
end
section
variable{κ:Type} [DecidableEq κ]
def gv(ax:List (κ×V))(k:κ):Option V:=(ax.find? λkv=>decide (kv.1=k)).map (·.2)
def putK(ax:List (κ×V))(k:κ)(v:V):List (κ×V):=
 if(ax.any λkv=>decide (kv.1=k))=true then ax.map (λkv=>if kv.1=k then(kv.1,v) else kv) else ax++[(k,v)]
def fy(ax:List (κ×V))(k:κ):List (κ×V):=ax.filter λkv=>decide (kv.1≠k)
def gb{p:κ×V}{r:List (κ×V)}{k:κ}(e:p.1=k):gv (p::r) k=some p.2:=by simp [gv,List.find?_cons,e]
def fI{p:κ×V}{r:List (κ×V)}{k:κ}(e:¬p.1=k):gv (p::r) k=gv r k:=by simp [gv,List.find?_cons,e]
theorem lD(k:κ):∀ax:List (κ×V),(ax.any λkv=>decide (kv.1=k))=(gv ax k).isSome
 |[]=>rfl
 |p::r=>by
  rw [List.any_cons]
  by_cases e:p.1=k
  ·simp! [gb e,zzh e,Bool.true_or,Option.isSome_some]
  ·rw [fI e,zz0 e,Bool.false_or];exact lD k r
def dX(ax:List (κ×V))(k:κ)(v:V):(putK ax k v).length<=ax.length+1:=by
 unfold putK;split
 ·rw [zzl];omega
 ·rw [zzM,zzL,List.length_nil];omega
def iT.eG{o:Option V}{u:Option Value}(r:iT o u):o.isSome=u.isSome:=by
 cases o with
 |none=>cases u with
  |none=>rfl
  |some _=>exact(show False from r).elim
 |some _=>cases u with
  |none=>exact(show False from r).elim
  |some _=>rfl
def iT.getD{o:Option V}{u:Option Value}{d:V}{d':Value}(r:iT o u)(rd:RelV d d'):RelV (o.getD d) (u.getD d'):=by
 cases o with
 |none=>cases u with
  |none=>exact rd
  |some _=>exact(show False from r).elim
 |some _=>cases u with
  |none=>exact(show False from r).elim
  |some _=>exact r
def KV.val{ax:List (κ×V)}{vs:List (κ×Value)}(r:KV ax vs)(k:κ):iT (gv ax k) (valueAt vs k):=by
 unfold KV at r
 induction r with
 |nil=>exact True.intro
 |@cons p q ps qs h t ih=>
  obtain⟨h1,h2⟩:=h
  by_cases e:p.1=k
  ·have e':q.1=k:=h1.symm.trans e
   have b:valueAt (q::qs) k=some q.2:=by simp [valueAt,List.find?_cons,e']
   rw [gb e,b];exact h2
  ·have e':¬q.1=k:=λz=>e (h1.trans z)
   have b:valueAt (q::qs) k=valueAt qs k:=by simp [valueAt,List.find?_cons,e']
   rw [fI e,b];exact ih
def KV.any{ax:List (κ×V)}{vs:List (κ×Value)}(r:KV ax vs)(k:κ):(ax.any λkv=>decide (kv.1=k))=vs.any λkv=>decide (kv.1=k):=by
 unfold KV at r
 induction r with
 |nil=>rfl
 |cons h t ih=>rw [List.any_cons,List.any_cons,ih,h.1]
def KV.Kb{ax:List (κ×V)}{vs:List (κ×Value)}(r:KV ax vs)(k:κ){y:V}{u:Value}(ry:RelV y u):
 KV (ax.map λkv=>if kv.1=k then(kv.1,y) else kv) (vs.map λkv=>if kv.1=k then(kv.1,u) else kv):=by
 unfold KV at r⊢
 induction r with
 |nil=>exact .nil
 |@cons p q ps qs h t ih=>
  rw [zzF,zzF];refine .cons ?_ ih;obtain⟨h1,h2⟩:=h
  by_cases e:p.1=k
  ·rw [if_pos e,if_pos (h1.symm.trans e)];exact⟨h1,ry⟩
  ·rw [if_neg e,if_neg (λz=>e (h1.trans z))];exact⟨h1,h2⟩
def KV.put{ax:List (κ×V)}{vs:List (κ×Value)}(r:KV ax vs)(k:κ){y:V}{u:Value}(ry:RelV y u):KV (putK ax k y) (stored vs k u):=by
 unfold putK stored;rw [r.any k]
 by_cases e:(vs.any λkv=>decide (kv.1=k))=true
 ·rw [if_pos e,if_pos e];exact r.Kb k ry
 ·rw [if_neg e,if_neg e];exact Paired.snoc r ⟨rfl,ry⟩
def KV.length{ax:List (κ×V)}{vs:List (κ×Value)}(r:KV ax vs):ax.length=vs.length:=Paired.length r
def Bh(ax:List (κ×V))(k:κ):(fy ax k).length<=ax.length:=List.length_filter_le _ _
end
def ou{P:Program}{w:World}{k:Key}{u:Value}(r:RelV (kV k) u):(bw P w).is k u=true:=by
 cases k with
 |inl i=>obtain⟨t,e⟩:=(show∃t,u=Value.int i t from r);subst e;exact qE P w i t
 |inr x=>obtain⟨t,e⟩:=(show∃t,u=Value.str x t from r);subst e;exact sk P w x t
theorem nM{P:Program}{w:World}:∀{ks:List Key} {us:List Value},Vals (ks.map kV) us->ItemsAre (bw P w) ks us
 |[],_,r=>by rw [List.map_nil] at r;cases r;exact .nil
 |k::ks,_,r=>by
  rw [zzF] at r;cases r with
  |cons h t=>exact .cons (ou h) (nM t)
abbrev KT(H:Hp):List (List Key×V)->List (List Key×Addr×Value)->Prop:=Paired λp q=>p.1=q.1/\H q.2.1=some (.tup (p.1.map kV))/\RelV p.2 q.2.2
def KT.val{H:Hp}{ax:List (List Key×V)}{xs:List (List Key×Addr×Value)}(r:KT H ax xs)(k:List Key):iT (gv ax k) ((atKey xs k).map (·.2)):=by
 induction r with
 |nil=>exact True.intro
 |@cons p q ps qs h t ih=>
  obtain⟨h1,_,h2⟩:=h
  by_cases e:p.1=k
  ·have e':q.1=k:=h1.symm.trans e
   have b:atKey (q::qs) k=some q.2:=by simp [atKey,List.find?_cons,e']
   rw [gb e,b];exact h2
  ·have e':¬q.1=k:=λz=>e (h1.trans z)
   have b:atKey (q::qs) k=atKey qs k:=by simp [atKey,List.find?_cons,e']
   rw [fI e,b];exact ih
def KT.Kb{H:Hp}{ax:List (List Key×V)}{xs:List (List Key×Addr×Value)}(r:KT H ax xs)(k:List Key){y:V}{u:Value}(ry:RelV y u):
 KT H (ax.map λkv=>if kv.1=k then(kv.1,y) else kv) (xs.map (putAt k u)):=by
 induction r with
 |nil=>exact .nil
 |@cons p q ps qs h t ih=>
  rw [zzF,zzF];refine .cons ?_ ih;obtain⟨h1,h2,h3⟩:=h
  unfold putAt
  by_cases e:p.1=k
  ·rw [if_pos e,if_pos (h1.symm.trans e)];exact⟨h1,h2,ry⟩
  ·rw [if_neg e,if_neg (λz=>e (h1.trans z))];exact⟨h1,h2,h3⟩
def KT.put{H:Hp}{ax:List (List Key×V)}{xs:List (List Key×Addr×Value)}(r:KT H ax xs)(k:List Key){b:Addr}{y:V}{u:Value}(hb:H b=some (.tup (k.map kV)))(ry:RelV y u):
 KT H (putK ax k y) (storedH xs k b u):=by
 have e:(ax.any λkv=>decide (kv.1=k))=(atKey xs k).isSome:=by
  rw [lD,(r.val k).eG,Option.isSome_map]
 unfold putK storedH;rw [e]
 by_cases q:(atKey xs k).isSome=true
 ·rw [if_pos q,if_pos q];exact r.Kb k ry
 ·rw [if_neg q,if_neg q];exact Paired.snoc r ⟨rfl,hb,ry⟩
def KT.keeps{H H':Hp}{ax:List (List Key×V)}{xs:List (List Key×Addr×Value)}(r:KT H ax xs)(ht:∀b ys,H b=some (.tup ys)->H' b=some (.tup ys)):KT H' ax xs:=
 Paired.wB r λ_ _ z=>⟨z.1,ht _ _ z.2.1,z.2.2⟩
section
variable{P:Program}{w:World}{H:Hp}{h:Heap}{a:Addr}
def FK{u:HO}(ok:dE P w H h)(e:Rd H a u):bA P w H h a u:=e.ok ok
def mO{ax:List (Key×V)}(ok:dE P w H h)(e:Rd H a (.dK ax)):ax.length<=sizeLine/\(a==sysModules)=false/\∃vs,KV ax vs/\h.DictOf (bw P w) a vs:=
 show bA P w H h a (.dK ax) from FK ok e
def Qz{ax:List (Key×V)}(ok:dE P w H h)(e:H a=some (.dK ax)):ax.length<=sizeLine/\(a==sysModules)=false/\∃vs,KV ax vs/\h.DictOf (bw P w) a vs:=mO ok (.inl e)
def fh{ks:List Key}(ok:dE P w H h)(e:H a=some (.tup (ks.map kV))):(tupleKind (bw P w)).is h ks a:=by
 obtain⟨_,ak,r,o,h1,h2,n,h3⟩:=(show bA P w H h a (.tup (ks.map kV)) from ok a _ e)
 exact⟨o,ak.toArray,n,h1,h2,h3,by simpa using nM r⟩
def iV{ax:List (List Key×V)}(ok:dE P w H h)(e:Rd H a (.dT ax)):ax.length<=sizeLine/\(a==sysModules)=false/\
 ∃xs,KT H ax xs/\h.DictOfH (tupleKind (bw P w)) a xs:=by
 obtain⟨z,y,xs,r,o,es,ep,h1,h2,h3,h4,h5⟩:=(show bA P w H h a (.dT ax) from FK ok e)
 refine⟨z,y,xs,r,o,es,ep,h1,h2,h3,h4,λx hx=>?_,h5⟩
 have all:∀{l:List (List Key×V)} {m:List (List Key×Addr×Value)},KT H l m->∀x∈m,(tupleKind (bw P w)).is h x.1 x.2.1:=by
  intro l m q
  induction q with
  |nil=>intro x hx;exact nomatch hx
  |@cons p q ps qs hq t ih=>
   intro x hx;rcases zzm.mp hx with e|hx
   ·subst e;exact fh ok (by rw [<-hq.1];exact hq.2.1)
   ·exact ih x hx
 exact all r x hx
def zV{ax:List (List Key×V)}(ok:dE P w H h)(e:H a=some (.dT ax)):ax.length<=sizeLine/\(a==sysModules)=false/\
 ∃xs,KT H ax xs/\h.DictOfH (tupleKind (bw P w)) a xs:=iV ok (.inl e)
end
def tD(H:Hp)(a:Addr)(y:V)(r:Option V):Prop:=
 (∃ax k,Rd H a (.dK ax)/\y=kV k/\r=gv ax k)\/∃ax k b,Rd H a (.dT ax)/\y=.ref b/\H b=some (.tup (k.map kV))/\r=gv ax k
def xi(H:Hp)(a:Addr)(y v:V)(H':Hp):Prop:=
 (∃ax k,H a=some (.dK ax)/\y=kV k/\ax.length<sizeLine/\H'=upd H a (.dK (putK ax k v)))\/
 ∃ax k b,H a=some (.dT ax)/\y=.ref b/\H b=some (.tup (k.map kV))/\ax.length<sizeLine/\H'=upd H a (.dT (putK ax k v))
def xi.t{H:Hp}{a b:Addr}{ax:List (List Key×V)}{k:List Key}{v:V}(e:H a=some (.dT ax))(eb:H b=some (.tup (k.map kV)))(hl:ax.length<sizeLine):
 xi H a (.ref b) v (upd H a (.dT (putK ax k v))):=.inr ⟨ax,k,b,e,rfl,eb,hl,rfl⟩
section
variable{X:Cx}{aa:List (Addr×Obj)}{σ:St}{H:Hp}{s:Shared}{a:Addr}{y v:V}{u r:Value}{o:Option V}{A:Around}{E:Value->Shared->Prop}
def Inv.big(I:Inv X aa σ H s):sysModules<(zz9 s):=by
 have h:mainGlobals<(zz9 s):=(I.mod.glob.keeps I.bk).lt
 exact Nat.lt_trans (by decide) h
def xF{Q:Value->Shared->Prop}(hu:A.units+1<cLine)(I:Inv X aa σ H s)(g:tD H a y (some v))(ry:RelV y u)(h:∀w' s',Inv X aa σ H s'->RelV v w'->Q w' s'):
 wpAny (model X.prog X.w) A (getItem (.ref a) u) Q E s:=by
 rcases g with⟨ax,k,e,ey,l⟩|⟨ax,k,b,e,ey,eb,l⟩
 ·subst ey;obtain⟨z,hd,vs,rel,dd⟩:=mO I.aH e
  obtain⟨w',hw,d5⟩:=iT.some_of (v:=v) (o:=valueAt vs k) (by rw [l];exact rel.val k)
  exact wpAny_getItem_of (ou ry) dd.mapOf hw (h w' _ (I.tok _) d5)
 ·subst ey;cases(show u=Value.ref b from ry);obtain⟨z,hd,xs,rel,dd⟩:=iV I.aH e
  obtain⟨w',hw,d5⟩:=iT.some_of (v:=v) (o:=(atKey xs k).map (·.2)) (by rw [l];exact rel.val k)
  obtain⟨p,hp,hp2⟩:=zzJ.mp hw
  refine wpAny_getItem_heap (tupleKind_room_in1 hu) (fh I.aH eb) dd hp ?_;rw [hp2];exact h w' _ (I.tok _) d5
def Vc{Q:Value->Shared->Prop}(hu:A.units+1<cLine)(I:Inv X aa σ H s)(g:tD H a y o)(ry:RelV y u)(h:∀s',Inv X aa σ H s'->Q (.bool o.isSome) s'):
 wpAny (model X.prog X.w) A (compareOp .In u (.ref a)) Q E s:=by
 rcases g with⟨ax,k,e,ey,l⟩|⟨ax,k,b,e,ey,eb,l⟩
 ·subst ey;obtain⟨z,hd,vs,rel,dd⟩:=mO I.aH e
  refine wpAny_in_of (ou ry) hd dd.mapOf ?_;rw [<-(rel.val k).eG,<-l];exact h _ (I.tok _)
 ·subst ey;cases(show u=Value.ref b from ry);obtain⟨z,hd,xs,rel,dd⟩:=iV I.aH e
  refine wpAny_in_heap (tupleKind_room_in1 hu) (fh I.aH eb) hd dd ?_;have q:=(rel.val k).eG
  rw [Option.isSome_map] at q;rw [<-q,<-l];exact h _ (I.tok _)
def Dd{Q:Value->Shared->Prop}(hu:A.units+1<cLine)(I:Inv X aa σ H s)(g:tD H a y o)(ry:RelV y u)(h:∀s',Inv X aa σ H s'->Q (.bool (!o.isSome)) s'):
 wpAny (model X.prog X.w) A (compareOp .NotIn u (.ref a)) Q E s:=by
 rcases g with⟨ax,k,e,ey,l⟩|⟨ax,k,b,e,ey,eb,l⟩
 ·subst ey;obtain⟨z,hd,vs,rel,dd⟩:=mO I.aH e
  refine wpAny_notIn_of (ou ry) hd dd.mapOf ?_;rw [<-(rel.val k).eG,<-l];exact h _ (I.tok _)
 ·subst ey;cases(show u=Value.ref b from ry);obtain⟨z,hd,xs,rel,dd⟩:=iV I.aH e
  refine wpAny_notIn_heap (tupleKind_room_in1 hu) (fh I.aH eb) hd dd ?_;have q:=(rel.val k).eG
  rw [Option.isSome_map] at q;rw [<-q,<-l];exact h _ (I.tok _)
theorem gF{h':Heap}{t':Nat}{ob:HO}(I:Inv X aa σ H s)(mu:QG (H a))(hs:Heap.SameBut a s.heap h')(he:∃q,h'.get? a=some q)(new:bA X.prog X.w (upd H a ob) h' a ob):
 Inv X aa σ (upd H a ob) {s with heap:=h',toks:=t'}:=
 I.write (x:=a) (e:=a) mu (.inl rfl) (λb q hb z=>(hs.2 b hb).trans z) he new
def LI{P:Program}{w:World}{H':Hp}{h':Heap}{ax:List (Key×V)}{vs:List (Key×Value)}(z:ax.length<=sizeLine)(hd:(a==sysModules)=false)(rel:KV ax vs)(dd:h'.DictOf (bw P w) a vs):
 bA P w H' h' a (.dK ax):=⟨z,hd,vs,rel,dd⟩
def v9{H':Hp}{Q:Unit->Shared->Prop}(hu:A.units+1<cLine)(I:Inv X aa σ H s)(g:xi H a y v H')(ry:RelV y u)(rv:RelV v r)(h:∀s',Inv X aa σ H' s'->Q () s'):
 wpAny (model X.prog X.w) A (setItem (.ref a) u r) Q E s:=by
 rcases g with⟨ax,k,e,ey,l,eH⟩|⟨ax,k,b,e,ey,eb,l,eH⟩
 ·subst ey eH;obtain⟨z,hd,vs,rel,dd⟩:=Qz I.aH e
  have hz:vs.length<=sizeLine:=by rw [<-rel.length];exact z
  have hl:(putK ax k v).length<=sizeLine:=by have:=dX ax k v;omega
  refine wpAny_setItem_pairs (hsz:=hz) (ou ry) dd λh' FF hs=>h _ ?_
  have he:∃q,h'.get? a=some q:=let⟨q,_,_,hq,_⟩:=FF;⟨q,hq⟩
  exact gF I (by rw [e];exact True.intro) hs he (LI hl hd (rel.put k rv) FF)
 ·subst ey eH;cases(show u=Value.ref b from ry);obtain⟨z,hd,xs,rel,dd⟩:=zV I.aH e
  have hz:xs.length<=sizeLine:=by rw [<-Paired.length rel];exact z
  have hl:(putK ax k v).length<=sizeLine:=by have:=dX ax k v;omega
  refine wpAny_setItem_heap (hsz:=hz) (tupleKind_room_in1 hu) (fh I.aH eb) dd λh' FF hs=>h _ ?_
  obtain⟨q,es,ep,hq,h2,h3,h4,_,h5⟩:=FF
  refine gF I (by rw [e];exact True.intro) hs ⟨q,hq⟩ ⟨hl,hd,_,(rel.put k eb rv).keeps λc ys ec=>?_,q,es,ep,hq,h2,h3,h4,h5⟩
  rw [ag (eQ ec e (λz=>nomatch z))];exact ec
end
def Pl(i:Expr):Prop:=∀ov iv,subscripted i false ov iv=operate [ov,iv] (getItem ov iv)
def Df{prog:Program}{w:World}{A:Around}{E:Value->Shared->Prop}{s:Shared}{env:Env}{value slice:Expr}{pos:Pos}{T id:String}{Q:Value->Shared->Prop}
 (hl:typeLookup (.type T) "__getitem__"=pure (some (.builtin id))) (hs:Pl slice)
 (h:wpAny (model prog w) A (eval value env) (λo s₁=>wpAny (model prog w) A (eval slice env) (λi s₂=>s₂.TypeIs o T/\wpAny (model prog w) A (getItem o i) Q E s₂) E s₁) E s):
 wpAny (model prog w) A (eval (.Subscript value slice pos) env) Q E s:=by
 refine Subscript_ (wpAny_mono h (λo s₁ h₁=>wpAny_mono h₁ (λi s₂ h₂=>?_) λ_ _ x=>x) λ_ _ x=>x)
 obtain⟨hT,h₂⟩:=h₂
 unfold subscriptTail;refine zzA ?_;rw [getitemInPython_of_ne hT.not_modules];refine zzA (wpAny_specialOf hT hl ?_);have fin:wpAny (model prog w) A (subscripted slice false o i) (λr s₃=>wpAny (model prog w) A (letTemporaryGo value o r>>=λ_=>pure r) Q E s₃) E s₂:=by
  rw [hs o i];exact wpAny_operating (wpAny_mono h₂ (λr s₃ h₃=>zzA (wpAny_letTemporaryGo (zzG h₃))) λ_ _ x=>x)
 first
  |exact zzG (zzA fin)
  |exact zzA (zzG (zzA fin))
  |exact zzA fin
def rW{X:Cx}{aa:List (Addr×Obj)}{σ:St}{H:Hp}{s:Shared}{a:Addr}{y:V}{o:Option V}(I:Inv X aa σ H s)(g:tD H a y o):s.TypeIs (.ref a) "dict":=by
 rcases g with⟨ax,k,e,_,_⟩|⟨ax,k,b,e,_,_,_⟩
 ·obtain⟨_,_,vs,_,dd⟩:=mO I.aH e
  exact dd.typeIs
 ·obtain⟨_,_,xs,_,dd⟩:=iV I.aH e
  exact dd.typeIs
def Fs(td ty:TE):TE:=λσ H Q=>td σ H λx H1=>ty σ H1 λy H2=>∃a v,x=.ref a/\tD H2 a y (some v)/\Q v H2
section
variable{X:Cx}{o i:Expr}{pos:Pos}{td ty:TE}
def Ei(hu:X.A.units+1<cLine)(ho:PE X o td)(hi:PE X i ty)(hs:Pl i):PE X (.Subscript o i pos) (Fs td ty):=by
 intro aa s σ H Q I h;refine Df PySem.F.slot_dict_getitem.lookup hs (bq (ho aa s σ H _ I h) λu s1 ⟨x,H1,I1,rx,q1⟩=>bq (hi aa s1 σ H1 _ I1 q1) λiv s2 ⟨y,H2,I2,ry,a,v,ex,g,q2⟩=>?_)
 subst ex;obtain rfl:u=Value.ref a:=rx
 exact⟨rW I2 g,xF hu I2 g ry λw' s3 I3 d5=>⟨v,H2,I3,d5,q2⟩⟩
end
theorem ll{P:Program}{w:World}{H:Hp}(h:Heap)(hb:sysModules<h.objs.size):bA P w H (h.push {cls:=.type "dict",data:=.dict #[]}) h.objs.size (.dT []):=
 ⟨Nat.zero_le _,beq_eq_false_iff_ne.mpr (Ne.symm (zzb hb)),[],.nil,_,#[],0,zzX _ rfl,⟨rfl,rfl,rfl⟩,rfl,rfl,List.nodup_nil⟩
def Mw:TE:=λ_ H Q=>∀p,H p=none->Q (.ref p) (upd H p (.dT []))
section
variable{X:Cx}{pos:Pos}
theorem yo:PE X (.Dict [] [] pos) Mw:=λaa s σ H Q I h=>
 wpAny_Dict_empty ⟨.ref (zz9 s),_,I.laid (a:=(zz9 s)) (o:=.dT []) (t':=s.toks) (λ_ _ q=>zzB _ q) (zzE _) (ll s.heap I.big),rfl,h _ (I.aH.fresh (zzE _))⟩
end
structure M1(X:Cx)(o:Expr)(m:Str)(apos:Pos)(e:Expr)(bp:Pos):Prop where
 base:attributeBase o m X.env (eval o X.env)=eval o X.env
 Wa:((backTo bp (starEach [e] X.env)).all (λx=>!x.1)&&(backToKw bp (keywordEach [] X.env)).all (λx=>x.1.isSome)
  &&decide (([e]:List Expr).length+([]:List Keyword).length+(if([]:List Keyword).isEmpty then 0 else 1)<30))=true
 line:(apos.endLine==bp.line)=true
 trees:backTo bp (starEach [e] X.env)=[(false,eval e X.env)]
def zr(H:Hp)(a:Addr):Prop:=(∃ax,Rd H a (.dK ax))\/∃ax,Rd H a (.dT ax)
def Aa{X:Cx}{aa:List (Addr×Obj)}{σ:St}{H:Hp}{s:Shared}{a:Addr}(I:Inv X aa σ H s)(d:zr H a):
 s.TypeIs (.ref a) "dict"/\(∀b,Value.ref a=.ref b->∃ob,s.heap.get? b=some ob/\ob.dict=none)/\(a==sysModules)=false:=by
 rcases d with⟨ax,e⟩|⟨ax,e⟩
 ·obtain⟨_,hd,vs,_,dd⟩:=mO I.aH e
  refine⟨dd.typeIs,λb q=>?_,hd⟩
  cases q;obtain⟨ob,_,_,h1,h2,_⟩:=dd
  exact⟨ob,h1,h2.2.1⟩
 ·obtain⟨_,hd,xs,_,dd⟩:=iV I.aH e
  refine⟨dd.typeIs,λb q=>?_,hd⟩
  cases q;obtain⟨ob,_,_,h1,h2,_⟩:=dd
  exact⟨ob,h1,h2.2.1⟩
section
variable{X:Cx}{aa:List (Addr×Obj)}{σ:St}{H:Hp}{s:Shared}{a:Addr}{y:V}{u:Value}{o:Option V}{A:Around}{E:Value->Shared->Prop}
def Oy{Q:Value->Shared->Prop}(hu:A.units+1<cLine)(I:Inv X aa σ H s)(g:tD H a y o)(ry:RelV y u)(h:∀w' s',Inv X aa σ H s'->RelV (o.getD .aK) w'->Q w' s'):
 wpAny (model X.prog X.w) A (call (.builtin "dict.get") [.ref a,u]) Q E s:=by
 rcases g with⟨ax,k,e,ey,l⟩|⟨ax,k,b,e,ey,eb,l⟩
 ·subst ey;obtain⟨z,hd,vs,rel,dd⟩:=mO I.aH e
  refine call_meetsIn PySem.F.slot_dict_get dd.typeIs PySem.F.entry_dict_get (PySem.F.args_dict_get_2 _ _) (meets_dict_get (bw X.prog X.w) a (ou ry) hd) ⟨_,dd.mapOf,h _ _ (I.tok _) ?_⟩;rw [l];exact(rel.val k).getD rfl
 ·subst ey;cases(show u=Value.ref b from ry);obtain⟨z,hd,xs,rel,dd⟩:=iV I.aH e
  refine call_meetsIn PySem.F.slot_dict_get dd.typeIs PySem.F.entry_dict_get (PySem.F.args_dict_get_2 _ _) (meetsH_dict_get (tupleKind (bw X.prog X.w)) a b hd) ⟨tupleKind_room_in1 hu,k,xs,fh I.aH eb,dd,h _ _ (I.tok _) ?_⟩;rw [l];exact(rel.val k).getD rfl
end
def LQ(td ty:TE):TE:=λσ H Q=>td σ H λx H1=>∃a,x=.ref a/\zr H1 a/\ty σ H1 λy H2=>∃o,tD H2 a y o/\Q (o.getD .aK) H2
section
variable{X:Cx}{o e:Expr}{apos bp:Pos}{td ty:TE}
def AX(hu:X.A.units+1<cLine)(ho:PE X o td)(he:PE X e ty)(m:M1 X o "get" apos e bp):PE X (.Call (.Attribute o "get" apos) [e] [] bp) (LQ td ty):=by
 intro aa s σ H Q I h;refine wpAny_Call_method m.base m.Wa m.line PySem.F.plainAttrs_dict PySem.F.slot_dict_get PySem.F.type_dict_get (bq (ho aa s σ H _ I h) λu s1 ⟨x,H1,I1,rx,a,ex,d,q1⟩=>?_)
 subst ex;obtain rfl:u=Value.ref a:=rx
 obtain⟨t1,t2,_⟩:=Aa I1 d
 refine⟨t1,t2,?_⟩;rw [m.trees];refine Calls.callWith_builtin rfl (Calls.evalArgs_plain (Calls.spliced_cons (bq (he aa s1 σ H1 _ I1 q1) λiv s2 ⟨y,H2,I2,ry,ov,g,q2⟩=>Calls.spliced_nil ?_)))
 exact Oy hu I2 g ry λw' s3 I3 d5=>⟨_,H2,I3,d5,q2⟩
end
end L2
namespace Att
open PySem PySem.W PySem.Calls PyProof.Rows
section
end
end Att
namespace L2
open PySem PySem.Spec PyProof.Rows
section
variable{κ:Type} [DecidableEq κ]
def xn{p:κ×V}{r:List (κ×V)}{k:κ}(e:p.1=k):fy (p::r) k=fy r k:=by
 unfold fy;rw [zz3,if_neg (by simp [e])]
def xo{p:κ×V}{r:List (κ×V)}{k:κ}(e:¬p.1=k):fy (p::r) k=p::fy r k:=by
 unfold fy;rw [zz3,if_pos (by simp [e])]
end
section
variable{prog:Program}{w:World}{κ:Type} [DecidableEq κ]{knd:HeapKind prog w κ}{A:Around}{E:Value->Shared->Prop}{s:Shared}{d a:Addr}{xs:List (κ×Addr×Value)}{k:κ}
theorem pC(d:Addr)(lo:(d==sysModules)=false):MeetsIn prog w (Builtin.«dict.__len__» ⟨[.ref d],[]⟩) (λ_ R s=>∃xs,s.heap.DictOfH knd d xs/\R (.ok (.ret (.int xs.length s.toks))) {s with toks:=s.toks+1}):=
 .of_wp λA R s ⟨xs,⟨o,es,ep,h1,_,h2,h3,_⟩,h⟩=>by
  show wpAny _ _ (dictSize d>>=λn=>_) _ _ s
  unfold dictSize;refine zzA (zzA (wpAny_dictEntries h1 h2 (zzG (zzA (wpAny_pendingCount_other lo (wpAny_ret_mkInt ?_))))));rw [Nat.add_zero,size_of_entries h3];exact h
def M0{Q:Value->Shared->Prop}(lo:(d==sysModules)=false)(hm:s.heap.DictOfH knd d xs)(hf:(xs.length:Int)<2^63)(h:Q (.int xs.length (s.toks+1)) {s with toks:=s.toks+1+1}):wpAny (model prog w) A (call (.builtin "len") [.ref d]) Q E s:=by
 refine Calls.call_function_entry kind_len plain_len entry_len (args_len1 _) ?_;unfold Builtin.«len»;refine zzA (m:=oneArg "len" _) (zzG (zzA (m:=callSpecial? (.ref d) (Str.ofString "__len__")) (wpAny_callSpecial?_slot (name:=Str.ofString "__len__") hm.typeIs F.slot_dict_len
  (call_meetsIn F.slot_dict_len hm.typeIs F.entry_dict_len (F.args_dict_len_1 _) (pC (knd:=knd) d lo) ⟨xs,hm,?_⟩))))
 show wpAny _ _ (holding _ _>>=λz=>_) _ _ {s with toks:=s.toks+1}
 refine zzA (wpAny_holding (zzG (zzA (wpAny_letGo ?_))));show wpAny _ _ (if((xs.length:Nat):Int)<0 then _ else(if((xs.length:Nat):Int)>=2^63 then _ else _)) _ _ _;rw [if_neg (by omega),if_neg (by omega)];exact zzA (wpAny_mkInt (zzG ⟨_,rfl,h⟩))
def Bg{l:List (κ×Addr×Value)}:∀{j:Nat} {p:Addr×Value},(l.map (·.1)).Nodup->l[j]?=some (k,p)->l.eraseIdx j=l.filter λx=>decide (x.1≠k):=by
 induction l with
 |nil=>intro j p _ h;simp at h
 |cons x r ih=>
  intro j p nd h;rw [zzF,List.nodup_cons] at nd;cases j with
  |zero=>
   simp! [List.getElem?_cons_zero,Option.some.injEq] at h;subst h;simp! [List.eraseIdx_cons_zero,ne_eq,zz3,not_true,decide_false,zze,if_false];refine(List.filter_eq_self.mpr λy hy=>?_).symm;exact zzh λe=>nd.1 (e▸List.mem_map_of_mem (f:=(·.1)) hy)
  |succ j=>
   simp! [List.getElem?_cons_succ] at h;have iK:¬x.1=k:=λe=>nd.1 (e▸zzx.mpr ⟨(k,p),zzD h,rfl⟩)
   rw [List.eraseIdx_cons_succ,zz3,if_pos (by simpa using iK),ih nd.2 h]
theorem nK{α β:Type}(f:α->β):∀(l:List α) (j:Nat),(l.eraseIdx j).map f=(l.map f).eraseIdx j
 |[],_=>by simp
 |x::r,0=>by simp
 |x::r,j+1=>by simp [nK f r j]
def uL{p:Addr×Value}{Q:Option DictEntry->Shared->Prop}(hu:knd.room A)(hk:knd.is s.heap k a)(hm:s.heap.DictOfH knd d xs)(hp:atKey xs k=some p)(hz:xs.length<=sizeLine)
 (hQ:∀h' e,e.val=p.2->h'.DictOfH knd d (xs.filter λx=>decide (x.1≠k))->Heap.SameBut d s.heap h'->Q (some e) {s with heap:=h',toks:=s.toks+knd.draws k}):wpAny (model prog w) A (Builtin.Dict.takeOut d (.ref a)) Q E s:=by
 obtain⟨o,es,ep,h1,hc,h2,h3,his,nd⟩:=hm
 unfold Builtin.Dict.takeOut
 try with_reducible refine wpAny_holding ?_
 refine zzA (knd.pyHash hu hk (zzA (wpAny_dictFind_heap (s:={s with toks:=s.toks+knd.draws k}) hu hk h1 h2 h3 his nd (λno=>?_) λj q hj=>?_)))
 ·rw [atKey_none_of_get no] at hp;cases hp
 ·rw [atKey_of_get nd hj] at hp;cases hp;refine zzA (wpAny_dictEntries (s:={s with toks:=s.toks+knd.draws k}) h1 h2 ?_);rw [entry_at h3 j,hj];refine zzA (wpAny_updateDictKeys (hz:=by have e:=size_of_entries h3;omega) (s:={s with toks:=s.toks+knd.draws k}) h1 h2 (zzG (hQ _ _ rfl ⟨_,_,ep+1,Heap.get?_update_self _ h1 (Obj.isFreed_of_dict (Obj.data_mapDictKeys h2 _)),
   hc.mapDictKeys _,Obj.data_mapDictKeys h2 _,?_,λx hx=>knd.keeps (his x (List.mem_filter.mp hx).1) h1 h2 (zzu ..),nd.sublist (List.filter_sublist.map _)⟩ (zzu ..))))
  rw [<-Bg nd hj,nK,<-h3];obtain⟨l⟩:=es
  simp [Array.eraseIdxIfInBounds];split
  ·simp
  ·rename_i hh;rw [List.eraseIdx_of_length_le (by simpa using hh)]
def oQ(d a:Addr):MeetsIn prog w (Builtin.«dict.pop» ⟨[.ref d,.ref a],[]⟩) (λA R s=>knd.room A.in1/\∃k xs p,knd.is s.heap k a/\s.heap.DictOfH knd d xs/\xs.length<=sizeLine/\atKey xs k=some p/\
 ∀h',h'.DictOfH knd d (xs.filter λx=>decide (x.1≠k))->Heap.SameBut d s.heap h'->R (.ok (.ret p.2)) {s with heap:=h',toks:=s.toks+knd.draws k}):=
 .of_wp λA R s ⟨hu,k,xs,p,hk,hm,hz,hp,h⟩=>by
  obtain⟨o,es,ep,h1,_,h2,h3,_⟩:=id hm
  have ne:es.isEmpty=false:=by
   cases xs with
   |nil=>cases hp
   |cons x r=>
    have:=size_of_entries h3
    rw [zzL] at this;rw [Array.isEmpty_eq_false_iff_exists_mem];exact⟨es[0]'(by omega),Array.getElem_mem _⟩
  unfold Builtin.«dict.pop»;refine zzA ?_;unfold Builtin.Dict.keyAndDefault;refine zzA (wpAny_notOrdered_dict hm.typeIs ?_);show wpAny _ _ (pure (d,Value.ref a,Option.none)) _ _ s;refine zzG ?_;have kp:(keyPart (Value.ref a)).isSome=false:=rfl
  simp! [kp,zze,if_false];refine zzA (wpAny_dictEntries h1 h2 (zzA (zzG ?_)));rw [ne];simp! [zze,if_false];refine zzA (uL hu hk hm hp hz λh' e ev pX hs=>?_);simp! [Option.isNone_some,zze,if_false];exact zzA (wpAny_letGo (zzG ⟨e.val,rfl,by rw [ev];exact h h' pX hs⟩))
def qe{o:Obj}{es:Array DictEntry}{ep:Nat}{Q:Value->Shared->Prop}(lo:(d==sysModules)=false)(h1:s.heap.get? d=some o)(hc:o.ExactDict)(h2:o.data=.dict es ep)
 (hQ:Q (.ref (zz9 s)) {s with heap:=s.heap.push {cls:=.type "dict_keyiterator",data:=.fields #[.ref d,.int 0 0,.int es.size 0,.int ep 0]}}):wpAny (model prog w) A (pyIter (.ref d)) Q E s:=by
 have T:s.TypeIs (.ref d) "dict":=⟨o,h1,hc.1⟩
 refine wpAny_pyIter_slot T F.slot_dict_iter (wpAny_call_entry F.slot_dict_iter T F.entry_dict_iter ?_ (F.args_dict_iter_1 _));unfold Builtin.«dict.__iter__» Builtin.Dict.dictSlotNone;refine zzA (zzA (wpAny_notOrdered_dict T ?_));show wpAny _ _ (pure (Value.ref d):Sem Value) _ _ s;refine zzG ?_;show wpAny _ _ (Builtin.Dict.showsAll d>>=λ_=>_) _ _ s;unfold Builtin.Dict.showsAll;rw [if_neg (by rw [lo];exact zzf)];refine zzA (zzG (zzA (wpAny_dictEntries h1 h2 (zzA (wpAny_dictEpoch h1 h2 ?_)))));refine zzA (wpAny_newObj_type (zzG ⟨_,rfl,"dict_keyiterator",_,⟨_,zzX _ rfl,rfl⟩,F.slot_dict_keyiterator_next.lookup,?_⟩))
 simpa [rawInt] using hQ
def kl{it:Addr}{i ep:Nat}{o:Obj}{es:Array DictEntry}{Q:Option Value->Shared->Prop}(st:s.heap.IsKeyIter it d i es.size ep)(h1:s.heap.get? d=some o)(h2:o.data=.dict es ep)(hi:i<es.size)
 (hQ:∀h',h'.IsKeyIter it d (i+1) es.size ep->Heap.SameBut it s.heap h'->Q (some es[i].key) {s with heap:=h'}):wpAny (model prog w) A (pyNext (.ref it)) Q E s:=by
 obtain⟨oi,g1,g2,g3⟩:=id st
 have own:Builtin.Dict_items.ownsTuple "dict_keyiterator"=false:=by decide
 unfold pyNext;refine zzA (wpAny_attempt (wpAny_callSpecial?_slot (name:=Str.ofString "__next__") st.typeIs F.slot_dict_keyiterator_next (wpAny_call_entry F.slot_dict_keyiterator_next st.typeIs F.entry_dict_keyiterator_next ?_ (F.args_dict_keyiterator_next_1 _))));refine zzA (zzG (zzA (zzA ?_)))
 first|refine zzA (wpAny_typeNameOfWhole_keyiter st.typeIs (zzG (zzA (wpAny_fieldsOf g1 g3 ?_))))|refine zzA (wpAny_typeNameOf_keyiter st.typeIs (zzG (zzA (wpAny_fieldsOf g1 g3 ?_))))
 simp! [own,zze,if_false];show wpAny _ _ (if(Value.ref d==Value.none)=true then _ else _:Sem _) _ _ s;rw [if_neg (show¬((Value.ref d==Value.none)=true) from zzf)];refine zzA (zzG (zzA (wpAny_dictEntries h1 h2 ?_)));rw [if_neg (by simp)];refine zzA (zzG (zzA (wpAny_dictEpoch h1 h2 ?_)));rw [if_neg (by simp)];refine zzG ?_;simp! [show¬((i:Int)<0) from by omega,if_false,zz4,Array.getElem?_eq_getElem hi];refine zzA ?_
 first|refine zzA (wpAny_typeNameOfWhole_keyiter st.typeIs (zzG (zzA (wpAny_isOneOf_keyiter st.typeIs ?_))))|refine zzA (wpAny_typeNameOf_keyiter st.typeIs (zzG (zzA (wpAny_isOneOf_keyiter st.typeIs ?_))))
 show wpAny _ _ (setField (.ref it) 1 (rawInt ((i:Int)+1))>>=λ_=>_) _ _ s
 have dY:(s.heap.update it (Obj.mapFields (·.setIfInBounds 1 (rawInt ((i:Int)+1))))).IsKeyIter it d (i+1) es.size ep:=
  ⟨_,Heap.get?_update_self _ g1 (Obj.isFreed_of_fields (Obj.data_mapFields g3 _)),(Obj.cls_mapFields ..).trans g2,by rw [Obj.data_mapFields g3];simp [rawInt]⟩
 refine zzA (wpAny_setField g1 g3 (by simp) (zzA (wpAny_holding (zzA (wpAny_isOneOf_keyiter (s:={s with heap:=s.heap.update it (Obj.mapFields (·.setIfInBounds 1 (rawInt ((i:Int)+1))))}) dY.typeIs ?_)))));show wpAny _ _ (pure es[i].key:Sem Value) _ _ _;exact zzG (zzG ⟨_,rfl,zzG (hQ _ dY (zzu ..))⟩)
def uv{it:Addr}{i ep:Nat}{o:Obj}{es:Array DictEntry}{Q:Option Value->Shared->Prop}(hh:A.handled=none)(st:s.heap.IsKeyIter it d i es.size ep)(h1:s.heap.get? d=some o)(h2:o.data=.dict es ep)(hi:es.size<=i)
 (hQ:∀h',Heap.ExtBut it s.heap h'->Q none {s with heap:=h'}):wpAny (model prog w) A (pyNext (.ref it)) Q E s:=by
 obtain⟨oi,g1,g2,g3⟩:=id st
 have own:Builtin.Dict_items.ownsTuple "dict_keyiterator"=false:=by decide
 unfold pyNext;refine zzA (wpAny_attempt (wpAny_callSpecial?_slot (name:=Str.ofString "__next__") st.typeIs F.slot_dict_keyiterator_next (wpAny_call_entry F.slot_dict_keyiterator_next st.typeIs F.entry_dict_keyiterator_next ?_ (F.args_dict_keyiterator_next_1 _))));refine zzA (zzG (zzA (zzA ?_)))
 first|refine zzA (wpAny_typeNameOfWhole_keyiter st.typeIs (zzG (zzA (wpAny_fieldsOf g1 g3 ?_))))|refine zzA (wpAny_typeNameOf_keyiter st.typeIs (zzG (zzA (wpAny_fieldsOf g1 g3 ?_))))
 simp! [own,zze,if_false];show wpAny _ _ (if(Value.ref d==Value.none)=true then _ else _:Sem _) _ _ s;rw [if_neg (show¬((Value.ref d==Value.none)=true) from zzf)];refine zzA (zzG (zzA (wpAny_dictEntries h1 h2 ?_)));rw [if_neg (by simp)];refine zzA (zzG (zzA (wpAny_dictEpoch h1 h2 ?_)));rw [if_neg (by simp)];refine zzG ?_;simp! [show¬((i:Int)<0) from by omega,if_false,zz4,Array.getElem?_eq_none hi];refine zzA ?_
 first|refine zzA (wpAny_typeNameOfWhole_keyiter st.typeIs (zzG ?_))|refine zzA (wpAny_typeNameOf_keyiter st.typeIs (zzG ?_))
 show wpAny _ _ (setField (.ref it) 0 .none>>=λ_=>_) _ _ s
 refine zzA (wpAny_setField g1 g3 (by simp) ?_);show wpAny _ _ (newExc (.type "StopIteration") []>>=λ_=>_) _ _ _
 refine zzA ?_;simp! [newExc,newTuple];refine zzA (wpAny_newObj_type (zzA (m:=firstArgMember _ _) (wpAny_of_eq (a:=Value.none) (by first|rfl|(simp! [firstArgMember];rfl)) (wpAny_newObj_type ?_ (by size_fits)))) (by size_fits));simp! [raiseNew];refine zzA (wpAny_handled ?_);rw [show A.in1.handled=none from hh];refine zzA (zzG (wpAny_throw ?_));refine zzA (wpAny_isInstance (T:="StopIteration") (b:=true) ⟨_,zzX _ rfl,rfl⟩ isSubtype_stop ?_);exact zzG (hQ _ (((zzu ..).extBut.push _).push _))
end
def KT.drop{H:Hp}{ax:List (List Key×V)}{xs:List (List Key×Addr×Value)}(r:KT H ax xs)(k:List Key):KT H (fy ax k) (xs.filter λx=>decide (x.1≠k)):=by
 unfold fy
 induction r with
 |nil=>exact .nil
 |@cons p q ps qs h t ih=>
  rw [zz3,zz3,<-h.1];split
  ·exact .cons h ih
  ·exact ih
def KT.len{H:Hp}{ax:List (List Key×V)}{xs:List (List Key×Addr×Value)}(r:KT H ax xs):ax.length=xs.length:=Paired.length r
section
variable{X:Cx}{aa:List (Addr×Obj)}{σ:St}{H:Hp}{s:Shared}{a b:Addr}{ax:List (List Key×V)}{k:List Key}{A:Around}{E:Value->Shared->Prop}
def NJ{Q:Value->Shared->Prop}(I:Inv X aa σ H s)(e:Rd H a (.dT ax))(h:∀t s',Inv X aa σ H s'->Q (.int ax.length t) s'):wpAny (model X.prog X.w) A (call (.builtin "len") [.ref a]) Q E s:=by
 obtain⟨z,lo,xs,rel,dd⟩:=iV I.aH e
 refine M0 lo dd (by rw [<-rel.len];rw [sizeLine_eq] at z;omega) ?_;rw [<-rel.len];exact h _ _ (I.tok _)
def MH{v:V}{Q:Value->Shared->Prop}(hu:A.units+1<cLine)(I:Inv X aa σ H s)(e:H a=some (.dT ax))(eb:H b=some (.tup (k.map kV)))(l:gv ax k=some v)
 (h:∀w' s',Inv X aa σ (upd H a (.dT (fy ax k))) s'->RelV v w'->Q w' s'):wpAny (model X.prog X.w) A (call (.builtin "dict.pop") [.ref a,.ref b]) Q E s:=by
 obtain⟨z,lo,xs,rel,dd⟩:=zV I.aH e
 obtain⟨w',hw,d5⟩:=iT.some_of (v:=v) (o:=(atKey xs k).map (·.2)) (by rw [<-l];exact rel.val k)
 obtain⟨p,hp,hp2⟩:=zzJ.mp hw
 refine call_meetsIn PySem.F.slot_dict_pop dd.typeIs PySem.F.entry_dict_pop (PySem.F.args_dict_pop_2 _ _) (oQ (knd:=tupleKind (bw X.prog X.w)) a b) ⟨tupleKind_room_in1 hu,k,xs,p,fh I.aH eb,dd,by rw [<-rel.len];exact z,hp,λh' FF hs=>?_⟩
 rw [hp2];obtain⟨q,es,ep,hq,h2,h3,h4,_,h5⟩:=FF
 refine h w' _ (gF I (by rw [e];exact True.intro) hs ⟨q,hq⟩ ⟨zzU (Bh ax k) z,lo,_,(rel.drop k).keeps λc ys ec=>?_,q,es,ep,hq,h2,h3,h4,h5⟩) d5
 rw [ag (eQ ec e (λz=>nomatch z))];exact ec
def Inv.freeze(I:Inv X aa σ H s)(e:H a=some (.dT ax)):∃o,Inv X aa σ (upd H a (.bt o (.dT ax))) s:=by
 obtain⟨z,lo,xs,rel,o,es,ep,h1,h2,h3,h4,h5⟩:=(show bA X.prog X.w H s.heap a (.dT ax) from I.aH a _ e)
 refine⟨o,gF (h':=s.heap) (t':=s.toks) I (by rw [e];exact True.intro) ⟨rfl,λ_ _=>rfl⟩ ⟨o,h1⟩ ⟨h1,z,lo,xs,?_,o,es,ep,h1,h2,h3,h4,h5⟩⟩
 exact KT.keeps (H:=H) rel λc ys ec=>by rw [ag (eQ ec e (λz=>nomatch z))];exact ec
end
noncomputable def Tw(a:Addr)(o:Obj)(ax:List (List Key×V)):It:=
 ⟨λi H=>H a=some (.bt o (.dT ax))/\i<ax.length,λi H x H'=>H'=H/\∃b k v,x=.ref b/\ax[i]?=some (k,v)/\H b=some (.tup (k.map kV)),λi H=>H a=some (.bt o (.dT ax))/\ax.length<=i⟩
def ib{α β:Type}{R:α->β->Prop}{l:List α}{m:List β}(r:Paired R l m):∀{i:Nat} {p:α} {q:β},l[i]?=some p->m[i]?=some q->R p q:=by
 induction r with
 |nil=>intro i p q h;simp at h
 |cons h t ih=>
  intro i p q h1 h2;cases i with
  |zero=>simp at h1 h2;subst h1 h2;exact h
  |succ i=>simp at h1 h2;exact ih h1 h2
def BW{P:Program}{w:World}{H:Hp}{h:Heap}{a:Addr}{ax:List (List Key×V)}(x:bA P w H h a (.dT ax)):(a==sysModules)=false/\(ax.map (·.1)).Nodup/\∃o es ep,h.get? a=some o/\o.ExactDict/\o.data=.dict es ep/\es.size=ax.length/\∀(i:Nat) (hi:i<es.size),∃b k v,es[i].key=.ref b/\ax[i]?=some (k,v)/\H b=some (.tup (k.map kV))/\RelV v es[i].val:=by
 obtain⟨z,lo,xs,rel,o,es,ep,h1,h2,h3,h4,h5⟩:=x
 have hl:es.size=xs.length:=size_of_entries h4
 have hx:ax.length=xs.length:=Paired.length rel
 have ks:ax.map (·.1)=xs.map (·.1):=by
  clear hl hx h4 h5 z
  induction rel with
  |nil=>rfl
  |cons h t ih=>rw [zzF,zzF,h.1,ih]
 refine⟨lo,ks▸h5,o,es,ep,h1,h2,h3,hl.trans hx.symm,λi hi=>?_⟩
 have e1:es[i]?=(xs[i]?).map (entryOfKey (tupleKind (bw P w))):=entry_at h4 i
 rw [zzg (show i<xs.length by omega),Array.getElem?_eq_getElem hi] at e1;have q:=ib rel (zzg (show i<ax.length by omega)) (zzg (show i<xs.length by omega))
 rw [zzq e1];exact⟨_,_,_,rfl,zzg (show i<ax.length by omega),q.2.1,q.2.2⟩
def lO{X:Cx}{aa:List (Addr×Obj)}{σ:St}{H:Hp}{s:Shared}{a:Addr}{o:Obj}{ax:List (List Key×V)}(I:Inv X aa σ H s)(e:H a=some (.bt o (.dT ax))):
 (a==sysModules)=false/\s.heap.get? a=some o/\o.ExactDict/\∃es ep,o.data=.dict es ep/\es.size=ax.length/\∀(i:Nat) (h:i<es.size),∃b k v,es[i].key=.ref b/\ax[i]?=some (k,v)/\H b=some (.tup (k.map kV)):=by
 obtain⟨h0,ok⟩:=(show bA X.prog X.w H s.heap a (.bt o (.dT ax)) from I.aH a _ e)
 obtain⟨lo,_,o',es,ep,h1,h2,h3,hl,hk⟩:=BW ok
 rw [h0] at h1;cases h1;exact⟨lo,h0,h2,es,ep,h3,hl,λi hi=>let⟨b,k,v,e1,e2,e3,_⟩:=hk i hi;⟨b,k,v,e1,e2,e3⟩⟩
def wj{P:Program}{w:World}{K:zz8}{tg:Expr}{a it:Addr}{o:Obj}{es:Array DictEntry}{ep:Nat}{ax:List (List Key×V)}(hd:o.data=.dict es ep)(hl:es.size=ax.length):
 Turn P w K tg (Tw a o ax) [it] it (λi h=>h.IsKeyIter it a i es.size ep) where
 mem:=by simp
 obj:=λi h st b hb=>by
  have e:b=it:=by simpa using hb
  subst e;obtain⟨q,e,c,d⟩:=st
  exact⟨q,e,λv z=>by rw [d] at z;cases z⟩
 keep:=λi h h' st k=>st.at λo e=>k it (by simp) o e
 item:=by
  intro X hP hw hK hc i aa s σ H E I hf st hg;subst hP hw hK;obtain⟨g1,g2⟩:=hg
  obtain⟨lo,h0,hx,es',ep',h3,qW,uR⟩:=lO I g1
  rw [hd] at h3;cases h3;obtain⟨f0,f1,f2,f3,f4,f5⟩:=hf it (by simp)
  have hi:i<es.size:=by omega
  refine kl st h0 hd hi λh' dY sb=>?_
  obtain⟨b,k,v,e1,e2,e3⟩:=uR i hi
  have I1:Inv X aa σ H {s with heap:=h'}:=I.turned (t':=s.toks) (λb o hb e=>(sb.2 b hb).trans e) f0 f1 f3 f4 f5
  obtain⟨q,e,c,d⟩:=id dY
  refine⟨_,rfl,oE (s:={s with heap:=h'}) e c d (by decide) ⟨.ref b,H,I1,?_,⟨rfl,b,k,v,rfl,e2,e3⟩,dY,λb hb=>(hf b hb).1⟩⟩
  rw [e1];exact rfl
 done:=by
  intro X hP hw hK hc i aa s σ H E I hf st hg;subst hP hw hK;obtain⟨g1,g2⟩:=hg
  obtain⟨lo,h0,hx,es',ep',h3,qW,uR⟩:=lO I g1
  rw [hd] at h3;cases h3;obtain⟨f0,f1,f2,f3,f4,f5⟩:=hf it (by simp)
  exact uv (I.ok.hd hc) st h0 hd (by omega) λh' eb=>⟨rfl,I.turned (t':=s.toks) (λb o hb e=>eb b o hb e) f0 f1 f3 f4 f5⟩
 self:=λ_ _ _ _ _ st h=>wpAny_pyIter_keyiter st h
noncomputable def SW(tl:TE):TI:=λσ H R=>tl σ H λx H1=>∃a o ax,x=.ref a/\H1 a=some (.bt o (.dT ax))/\R (Tw a o ax) H1
section
variable{X:Cx}{o e:Expr}{apos bp:Pos}{td ty:TE}
def JB{tg l:Expr}{tl:TE}(hl:PE X l tl):PI X tg l (SW tl):=by
 intro aa s σ H R I h;refine bq (hl aa s σ H _ I h) λv s1 ⟨x,H1,I1,r1,q1⟩=>?_
 obtain⟨a,o,ax,e,hq,q⟩:=q1
 subst e;cases r1;obtain⟨lo,h0,hx,es,ep,h3,qW,uR⟩:=lO I1 hq
 refine qe lo h0 hx h3 ?_;refine⟨(zz9 s1),[(zz9 s1)],_,_,H1,rfl,I1.kept (t':=s1.toks) λb o e=>zzB _ e,wj h3 qW,⟨_,zzX _ rfl,rfl,rfl⟩,λb hb=>?_,q⟩
 have e:b=(zz9 s1):=by simpa using hb
 subst e;exact I1.je (zzE _) (I1.aH.fresh (zzE _))
noncomputable def QC(td ty:TE):TE:=λσ H Q=>td σ H λx H1=>∃a,x=.ref a/\zr H1 a/\ty σ H1 λy H2=>∃ax k b v,H2 a=some (.dT ax)/\y=.ref b/\H2 b=some (.tup (k.map kV))/\gv ax k=some v/\Q v (upd H2 a (.dT (fy ax k)))
def DT(hu:X.A.units+1<cLine)(ho:PE X o td)(he:PE X e ty)(m:M1 X o "pop" apos e bp):PE X (.Call (.Attribute o "pop" apos) [e] [] bp) (QC td ty):=by
 intro aa s σ H Q I h;refine wpAny_Call_method m.base m.Wa m.line PySem.F.plainAttrs_dict PySem.F.slot_dict_pop PySem.F.type_dict_pop (bq (ho aa s σ H _ I h) λu s1 ⟨x,H1,I1,rx,a,ex,d,q1⟩=>?_)
 subst ex;obtain rfl:u=Value.ref a:=rx
 obtain⟨t1,t2,_⟩:=Aa I1 d
 refine⟨t1,t2,?_⟩;rw [m.trees];refine Calls.callWith_builtin rfl (Calls.evalArgs_plain (Calls.spliced_cons (bq (he aa s1 σ H1 _ I1 q1) λiv s2 ⟨y,H2,I2,ry,ax,k,b,v,ea,ey,eb,l,q2⟩=>Calls.spliced_nil ?_)))
 subst ey;cases(show iv=Value.ref b from ry);exact MH hu I2 ea eb l λw' s3 I3 d5=>⟨v,_,I3,d5,q2⟩
end
end L2
namespace L2
open PySem PySem.Spec PyProof.Rows PySem.W
def ir{α:Type}(lt:Nat->Nat->Bool):KasT α->α
 |.ret a=>a
 |.ask i j k=>ir lt (k (lt i j))
def dA{α:Type}(n:Nat)(R:α->Prop):KasT α->Prop
 |.ret a=>R a
 |.ask i j k=>i<n/\j<n/\∀b,dA n R (k b)
theorem dA.bind{α β:Type}{n:Nat}{R:α->Prop}{R':β->Prop}{f:α->KasT β}(hf:∀a,R a->dA n R' (f a)):∀(t:KasT α),dA n R t->dA n R' (t.bind f)
 |.ret a,h=>hf a h
 |.ask i j k,h=>⟨h.1,h.2.1,λb=>dA.bind hf (k b) (h.2.2 b)⟩
theorem dA.run{α:Type}{n:Nat}{R:α->Prop}(lt:Nat->Nat->Bool):∀(t:KasT α),dA n R t->R (ir lt t)
 |.ret a,h=>h
 |.ask i j k,h=>dA.run lt (k (lt i j)) (h.2.2 _)
theorem Ah{α:Type}{n:Nat}{R:α->Prop}{cmp:Nat->Nat->(Bool->Shared->Prop)->Shared->Prop}{lt:Nat->Nat->Bool}{Q:α->Shared->Prop}{s:Shared}
 (hc:∀i j C,i<n->j<n->C (lt i j) s->cmp i j C s):∀(t:KasT α),dA n R t->Q (ir lt t) s->t.kasWp cmp Q s
 |.ret a,_,h=>h
 |.ask i j k,a,h=>hc i j _ a.1 a.2.1 (Ah hc (k (lt i j)) (a.2.2 _) h)
abbrev Pm(n:Nat)(p:Array Nat):Prop:=p.toList.Perm (List.range n)
def Pm.lt{n:Nat}{p:Array Nat}(h:Pm n p)(h0:0<n)(i:Nat):p.getD i 0<n:=by
 rw [Array.getD_eq_getD_getElem?];cases e:p[i]? with
 |none=>exact h0
 |some x=>
  have:x∈p.toList:=by rw [Array.mem_toList_iff];exact Array.mem_of_getElem? e
  exact List.mem_range.mp (h.mem_iff.mp this)
def Pm.rev{n:Nat}{p:Array Nat}(h:Pm n p)(i j:Nat):Pm n (kas_rev p i j):=(mirror_perm p i j _).toList.trans h
def Pm.Zk{n:Nat}{p:Array Nat}(h:Pm n p)(i j:Nat):Pm n (bubble p i j):=(bubble_perm p i j).toList.trans h
section
variable{n:Nat}(h0:0<n)
include h0
theorem mI{p:Array Nat}(h:Pm n p):∀f m,dA n (λ_=>True) (kas_asc p f m)
 |0,m=>trivial
 |f+1,m=>⟨h.lt h0 _,h.lt h0 _,λb=>by dsimp only;split;exact trivial;exact mI h f (m+1)⟩
theorem gD:∀f (p:Array Nat) m q,Pm n p->dA n (λr=>Pm n r.1) (kas_desc f p m q)
 |0,p,m,q,h=>h
 |f+1,p,m,q,h=>⟨h.lt h0 _,h.lt h0 _,λb=>by
  cases b with
  |true=>
   dsimp only;rw [if_pos rfl];split
   ·exact gD f _ _ _ (h.rev _ _)
   ·exact gD f _ _ _ h
  |false=>
   dsimp only;rw [if_neg (by simp)];exact⟨h.lt h0 _,h.lt h0 _,λb=>by dsimp only;split;exact h;exact gD f _ _ _ h⟩⟩
def nT{p:Array Nat}(h:Pm n p)(m r:Nat):dA n (λr=>Pm n r.2) (kas_tail3 m r p):=by
 unfold kas_tail3;refine dA.bind (R:=λ_=>True) (λa _=>?_) _ (mI h0 (h.rev _ _) _ _);exact h.rev 0 m
def nR{p:Array Nat}(h:Pm n p)(m r:Nat):dA n (λr=>Pm n r.2) (kas_descPart m r p):=dA.bind (λa ha=>by
 split
 ·exact nT h0 (Pm.rev ha _ _) _ _
 ·exact nT h0 ha _ _) _ (gD h0 _ _ _ _ h)
def sP{p:Array Nat}(h:Pm n p)(r:Nat):dA n (λr=>Pm n r.2) (kas_count r p):=dA.bind (λa _=>by
 split
 ·exact h
 ·split
  ·exact⟨h.lt h0 _,h.lt h0 _,λb=>by dsimp only;split;exact h;exact nR h0 (h.rev _ _) _ _⟩
  ·exact nR h0 h _ _) _ (mI h0 h _ _)
theorem ip{p:Array Nat}(h:Pm n p)(k:Nat):∀f l r,dA n (λ_=>True) (kas_place p k f l r)
 |0,l,r=>trivial
 |f+1,l,r=>by
  unfold kas_place;split
  ·exact trivial
  ·exact⟨h.lt h0 _,h.lt h0 _,λb=>by dsimp only;split;exact ip h k f _ _;exact ip h k f _ _⟩
theorem so:∀f (p:Array Nat) k,Pm n p->dA n (Pm n) (kas_bin f p k)
 |0,p,k,h=>h
 |f+1,p,k,h=>dA.bind (λl _=>so f _ _ (h.Zk _ _)) _ (ip h0 h k _ _ _)
def nU:dA n (Pm n) (kas_sort n):=dA.bind (λa ha=>by
 split
 ·exact so h0 _ _ _ ha
 ·exact ha) _ (sP h0 (List.Perm.refl _) n)
end
def uG(n:Nat)(lt:Nat->Nat->Bool):List Nat:=(ir lt (kas_sort n)).toList
def rJ{n:Nat}(h:0<n)(lt:Nat->Nat->Bool):(uG n lt).Perm (List.range n):=dA.run lt _ (nU h)
section
variable{prog:Program}{w:World}{A:Around}{E:Value->Shared->Prop}{s:Shared}{a:Addr}{vs:List Value}{nss:List (List Int)}
def mz{S:Addr}{h:Heap}{c:Nat}{xs ys:Array Value}(e:h.get? S=some (seqObj "list" xs c)):∃c',(h.update S (Obj.mapSeq λ_=>ys)).get? S=some (seqObj "list" ys c'):=⟨_,get?_update_seq e λ_=>ys⟩
def mL(h:Heap)(vs:List Value)(nss:List (List Int)):Prop:=Paired (λv ns=>∃b o ak n,v=.ref b/\h.get? b=some o/\o.cls=.type "tuple"/\o.data=.seq ak n/\Vals (ns.map V.int) ak.toList/\ns≠[]) vs nss
def mL.keep{h h':Heap}(t:mL h vs nss)(k:∀b o,h.get? b=some o->o.cls=.type "tuple"->h'.get? b=some o):mL h' vs nss:=
 Paired.wB t λ_ _ ⟨b,o,ak,n,e1,e2,e3,e4,e5,e6⟩=>⟨b,o,ak,n,e1,k b o e2 e3,e3,e4,e5,e6⟩
theorem mh{b:Bool}{Q:Bool->Shared->Prop}:∀(ns ms:List Int) (xs ys:List Value) (i:Nat),Vals (ns.map V.int) xs->Vals (ms.map V.int) ys->Q (HT.lexLt ns ms) s->KatLex prog w A b (decide (xs.length<ys.length)) Q (xs.zip ys) i s
 |[],[],_,_,i,.nil,.nil,h=>by simpa [KatLex,HT.nA] using h
 |[],m::ms,_,_,i,.nil,.cons _ _,h=>by simpa [KatLex,HT.lexLt] using h
 |n::ns,[],_,_,i,.cons _ _,.nil,h=>by simpa [KatLex,HT.lexLt] using h
 |n::ns,m::ms,_,_,i,.cons (a:=_) (b:=u) h1 t1,.cons (b:=v) h2 t2,h=>by
  obtain⟨t,rfl⟩:=h1
  obtain⟨t',rfl⟩:=h2
  rw [HT.sS] at h;refine kat_cons (wpAny_eqBool_int ?_)
  by_cases e:n=m
  ·subst e;rw [if_pos rfl] at h;rw [show(n==n)=true from by simp];refine kat_yes ?_;have:=mh (b:=b) ns ms _ _ (i+1) t1 t2 h
   simp! [zzL,Nat.add_lt_add_iff_right];exact this
  ·rw [if_neg e] at h;rw [show(n==m)=false from by simpa using e];refine kat_no ?_;cases hb:(b&&i==0) with
   |true=>exact oneLt_int h
   |false=>exact kat_one _ _ (PyProof.Rows.lt_int h)
def Rl(prog:Program)(w:World)(A:Around)(E:Value->Shared->Prop)(vs:List Value)(lt:Nat->Nat->Bool)(s:Shared):Prop:=∃κ:SortKind,(∀Q:SortKind->Shared->Prop,Q κ s->wpAny (model prog w) A (keyKind' vs.toArray) Q E s)/\∀i j (C:Bool->Shared->Prop),i<vs.length->j<vs.length->C (lt i j) s->kas_ask prog w A κ vs i j C s
def BR(t1:mL s.heap vs nss)(h2:2<=vs.length):Rl prog w A E vs (λi j=>HT.lexLt (nss.getD i []) (nss.getD j [])) s:=by
 have hlen:vs.length=nss.length:=Paired.length t1
 have kt:∃fs,KatTups s.heap vs fs/\fs.length=vs.length/\∀v∈fs,∃i t,v=.int i t:=by
  clear hlen h2
  induction t1 with
  |nil=>exact⟨[],trivial,rfl,λv hv=>nomatch hv⟩
  |cons h t ih=>
   obtain⟨fs,i1,i2,i3⟩:=ih
   obtain⟨b,o,ak,n,rfl,g1,g2,g3,g4,g5⟩:=h
   rename_i ns _ _;cases ns with
   |nil=>exact absurd rfl g5
   |cons m ms=>
    rw [zzF] at g4;cases hi:ak.toList with
    |nil=>rw [hi] at g4;cases g4
    |cons f r=>
     rw [hi] at g4;cases g4 with
     |cons r1 r2=>
      obtain⟨tk,rfl⟩:=r1
      have f0:ak[0]?=some (.int m tk):=by rw [<-Array.getElem?_toList,hi];rfl
      exact⟨.int m tk::fs,.cons g1 g2 g3 f0 i1,by simp [i2],λv hv=>by
       rcases zzm.mp hv with rfl|hv
       ·exact⟨m,tk,rfl⟩
       ·exact i3 v hv⟩
 obtain⟨fs,kt1,kt2,kt3⟩:=kt
 refine⟨_,λQ q=>kat_kind (T:=.type "int") kt1 (by omega) (λv hv=>?_) rfl q,λi j C hi hj hC=>?_⟩
 ·obtain⟨i,t,rfl⟩:=kt3 v hv
  exact .now
 ·unfold kas_ask;obtain⟨b,o,ak,n,e1,g1,g2,g3,g4,_⟩:=ib t1 (zzg hi) (zzg (show i<nss.length by omega))
  obtain⟨b',o',its',n',e1',g1',g2',g3',g4',_⟩:=ib t1 (zzg hj) (zzg (show j<nss.length by omega))
  have v1:vs.getD i Value.none=.ref b:=by simp [hi,e1]
  have v2:vs.getD j Value.none=.ref b':=by simp [hj,e1']
  have n1:nss.getD i []=nss[i]'(by omega):=by simp [show i<nss.length by omega]
  have n2:nss.getD j []=nss[j]'(by omega):=by simp [show j<nss.length by omega]
  rw [v1,v2];dsimp only at hC;rw [n1,n2] at hC;refine kat_lt g1 g3 g1' g3' ?_;have:=mh (prog:=prog) (w:=w) (A:=A) (b:=(Value.type "int" !=Value.type "tuple")) _ _ _ _ 0 g4 g4' hC
  simpa using this
def vY{n:Nat}{P:PySem.Fin->Shared->Prop}{lt:Nat->Nat->Bool}(ho:s.heap.get? a=some (seqObj "list" vs.toArray n))(h2:2<=vs.length)(F2:vs.length<64)(rd:∀h',(∀b o,b≠a->s.heap.get? b=some o->h'.get? b=some o)->Rl prog w A E vs lt {s with heap:=h'})
 (h:∀h' c,(∀b o,b≠a->s.heap.get? b=some o->h'.get? b=some o)->h'.get? a=some (seqObj "list" ((uG vs.length lt).map λi=>vs.getD i Value.none).toArray c)->P (.done (.ret .none)) {s with heap:=h'}):
 wpAny (model prog w) A (Builtin.«list.sort» ⟨[.ref a],[]⟩) P E s:=by
 have s1:=zzu s.heap a (Obj.mapSeq λ_=>(#[]:Array Value))
 obtain⟨e1,ho1⟩:∃e1,(s.heap.update a (Obj.mapSeq λ_=>(#[]:Array Value))).get? a=some (seqObj "list" #[] e1):=⟨_,get?_update_seq ho λ_=>#[]⟩
 generalize hH:(((s.heap.update a (Obj.mapSeq λ_=>(#[]:Array Value))).push (seqObj "tuple" vs.toArray 0)).push (seqObj "list" #[] 0))=H1
 have k1:∀b o,b≠a->s.heap.get? b=some o->H1.get? b=some o:=λb o hb e=>by rw [<-hH];exact zzB _ (zzB _ ((s1.2 b hb).trans e))
 have a1:H1.get? a=some (seqObj "list" #[] e1):=by rw [<-hH];exact zzB _ (zzB _ ho1)
 obtain⟨κ,kk,lts⟩:=rd H1 k1
 rw [list_sort_plain];refine zzA (listItems_at ho rfl (zzA (listUpdate_at ho rfl ?_ (by rw [zzC,sizeLine_eq];omega) (Nat.zero_le _))));refine zzA (seqEpoch_at ho1 rfl (zzA (wpAny_newTuple ?_ (by show vs.length<=_;rw [sizeLine_eq];omega))));refine zzA (wpAny_newList ?_ (Nat.zero_le _));refine wpAny_holding ?_;show wpAny (model prog w) A _ P E {s with heap:=((s.heap.update a (Obj.mapSeq λ_=>(#[]:Array Value))).push (seqObj "tuple" vs.toArray 0)).push (seqObj "list" #[] 0)}
 rw [hH];dsimp only;have Mb:¬vs.toArray.size<2:=by rw [zzC];omega
 rw [if_neg Mb,if_neg Mb];refine zzA (kk _ ?_);refine zzA (wpAny_mono (kat_run (Q:=λdY s'=>∃p:Array Nat,p.size=vs.length/\arrOf dY=p.map (kas_item (vs.toArray.zip vs.toArray))/\failedOf dY=none/\p=ir lt (kas_sort vs.length)/\s'={s with heap:=H1})
  rfl h2 F2 (λp' dY s' a1 a2 a3 a4=>⟨p',a1,a2,a3,a4⟩) (Ah lts _ (nU (by omega)) ⟨rfl,rfl⟩)) ?_ λ_ _ e=>e)
 rintro ⟨⟨⟩,dY⟩ s' ⟨p,hp,har,hf,rfl,rfl⟩
 dsimp only;have Ma:=kat_snds rfl har
 rw [Ma];have s2:=zzu H1 a (Obj.mapSeq λ_=>List.toArray ((ir lt (kas_sort vs.length)).toList.map λi=>vs.getD i Value.none))
 obtain⟨c2,hc2⟩:=mz (ys:=List.toArray ((ir lt (kas_sort vs.length)).toList.map λi=>vs.getD i Value.none)) a1
 refine zzA (seqEpoch_at a1 rfl (zzA (listUpdate_at a1 rfl ?_ (Nat.zero_le _) (by
  show(List.toArray _).size<=_
  rw [zzC,zzl,zzd,hp,sizeLine_eq];omega))))
 rw [hf];simp! [bne_self_eq_false,zze,if_false];exact zzG (h _ c2 (λb o hb e=>(s2.2 b hb).trans (k1 b o hb e)) hc2)
end
end L2
namespace L2
open PySem PySem.Spec PyProof.Rows
def v8:typeLookup (.type "list") "keys"=pure none:=by rw [typeLookup_type,builtinLookup_eq_fast];kernel_rfl
def rO:entryFor table "dict.update.loop"=some Builtin.«dict.update.loop»:=entryFor_of_tree (by kernel_rfl)
def iJ:plainId "dict.update.loop"=true:=by decide+kernel
section
variable{prog:Program}{w:World}{A:Around}{E:Value->Shared->Prop}{s:Shared}{a:Addr}{o:Obj}{xs:Array Value}{k:Nat}
def Dw{Q:Option Value->Shared->Prop}(hx:s.heap.get? a=some o)(hc:o.cls=.type "list")(Pc:o.data=.seq xs k)(hd:o.dict=none)(hA:A.handled=none)
 (h:∀h' tk,(∀b o,s.heap.get? b=some o->h'.get? b=some o)->Q none {s with heap:=h',toks:=tk}):wpAny (model prog w) A (getAttr? (.ref a) "keys") Q E s:=by
 obtain⟨c,bM,dat,sl⟩:=o
 simp only at hc Pc hd;subst hc Pc hd;obtain⟨hp,g,d,tk,os⟩:=s
 have hT:∀Tf,(⟨hp,g,d,Tf,os⟩:Shared).TypeIs (.ref a) "list":=λ_=>⟨_,hx,rfl⟩
 have f1:=sub_AttributeError
 have f3:=F.slot_list_getattribute.lookup
 have f4:=F.slot_list_getattribute.bind (.ref a)
 have f5:=am_list_getattr_none
 unfold getAttr? getAttrBy? getAttrBy
 repeat (any_goals (first|assumption|exact hT _|((with_reducible show wpAny _ _ (call (Value.builtin "list.__getattribute__") _ _) _ _ _);refine call_meets F.slot_list_getattribute (hT _) am_entry_list_getattribute (F.args_list_getattribute_2 _ _) (meets_getattribute_miss_list a xs k sl "keys" _ v8 (by decide) (by size_fits)) ⟨hx,hA,λh' Tf e x9=>?_⟩)|wp_step))
 obtain⟨t',u',he⟩:=x9.there
 show wpAny _ _ (getattributeRaised _ _ _ _ _ _ _) _ _ _
 unfold getattributeRaised
 repeat (any_goals (first|assumption|wp_step))
 exact h h' Tf x9.keeps
end
def dR(ax more:List (List Key×V)):List (List Key×V):=more.foldl (λacc kv=>putK acc kv.1 kv.2) ax
abbrev gW(K:zz8)(H:Hp)(vs:List V)(ax:List (List Key×V)):Prop:=Paired (λv kv=>∃q b,v=V.ref q/\dI K H q [.ref b,kv.2]/\H b=some (.tup (kv.1.map kV))) vs ax
section
variable{X:Cx}{aa:List (Addr×Obj)}{σ:St}{l d it:Addr}{vs:List V}{A:Around}{E:Value->Shared->Prop}{R:Result->Shared->Prop}
def Bp{H:Hp}{s:Shared}{a b:Addr}{ax:List (List Key×V)}{k:List Key}{v:V}{r:Value}{Q:Unit->Shared->Prop}(hu:A.units<cLine)(I:Inv X aa σ H s)(e:H a=some (.dT ax))(eb:H b=some (.tup (k.map kV)))(l:ax.length<sizeLine)(rv:RelV v r)
 (h:∀h' t,Heap.SameBut a s.heap h'->Inv X aa σ (upd H a (.dT (putK ax k v))) {s with heap:=h',toks:=t}->Q () {s with heap:=h',toks:=t}):wpAny (model X.prog X.w) A (dictSet a (.ref b) r) Q E s:=by
 obtain⟨z,lo,xs,rel,dd⟩:=zV I.aH e
 have hz:xs.length<=sizeLine:=by rw [<-rel.len];exact z
 have hl:(putK ax k v).length<=sizeLine:=by have:=dX ax k v;omega
 refine wpAny_dictSet_heap (hsz:=hz) (knd:=tupleKind (bw X.prog X.w)) hu (fh I.aH eb) dd λh' FF hs=>h h' _ hs ?_
 obtain⟨q,es,ep,hq,h2,h3,h4,_,h5⟩:=FF
 refine gF I (by rw [e];exact True.intro) hs ⟨q,hq⟩ ⟨hl,lo,_,(rel.put k eb rv).keeps λc ys ec=>?_,q,es,ep,hq,h2,h3,h4,h5⟩
 rw [ag (eQ ec e (λz=>nomatch z))];exact ec
def dI.xX{K:zz8}{H H':Hp}{a:Addr}{xs:List V}(h:dI K H a xs)(e:∀b,b≠d->H' b=H b){acc:List (List Key×V)}(hd:H d=some (.dT acc)):dI K H' a xs:=by
 rcases h with(h|⟨o,h⟩)|h
 ·exact .inl (.inl (by rw [e a (eQ h hd (λz=>nomatch z))];exact h))
 ·exact .inl (.inr ⟨o,by rw [e a (eQ h hd (λz=>nomatch z))];exact h⟩)
 ·exact .inr h
def df.xX{K:zz8}{H H':Hp}{a:Addr}{xs:List V}(h:df K H a xs)(e:∀b,b≠d->H' b=H b){acc:List (List Key×V)}(hd:H d=some (.dT acc)):df K H' a xs:=by
 rcases h with(h|⟨o,h⟩)|h
 ·exact .inl (.inl (by rw [e a (eQ h hd (λz=>nomatch z))];exact h))
 ·exact .inl (.inr ⟨o,by rw [e a (eQ h hd (λz=>nomatch z))];exact h⟩)
 ·exact .inr h
def gW.xX{K:zz8}{H H':Hp}{ax:List (List Key×V)}(e:∀b,b≠d->H' b=H b){acc:List (List Key×V)}(hd:H d=some (.dT acc)):∀{vs:List V},gW K H vs ax->gW K H' vs ax:=λh=>
 Paired.wB h λ_ _ ⟨q,b,e1,e2,e3⟩=>⟨q,b,e1,dI.xX e2 e hd,by rw [e b (eQ e3 hd (λz=>nomatch z))];exact e3⟩
def Dm(hu:A.units+1<cLine)(hh:A.handled=none):∀(rest:List (List Key×V)) (i:Nat) (j:Int) (acc:List (List Key×V)) (H:Hp) (s:Shared),Inv X aa σ H s->dy X aa H it->s.heap.IsListIter it l i->df X.K H l vs->gW X.K H (vs.drop i) rest->H d=some (.dT acc)->acc.length+rest.length<=sizeLine->
 (∀s' H',Inv X aa σ H' s'->H' d=some (.dT (dR acc rest))->(∀b,b≠d->H' b=H b)->R (.ok (.ret .none)) s')->codeAny (model X.prog X.w) A (.builtin "dict.update.loop" ⟨[.ref d,.ref it,rawInt j,.none],[]⟩) R s:=by
 intro rest
 induction rest with
 |nil=>
  intro i j acc H s I hf st hl pr hd hz k;obtain⟨ak,rv,p,_⟩:=I.list hl
  obtain⟨f0,f1,f2,f3,f4,f5⟩:=hf
  have hi:vs.length<=i:=List.drop_eq_nil_iff.mp (by cases h:vs.drop i with|nil=>rfl|cons x r=>rw [h] at pr;cases pr)
  have hle:=rv.length
  refine codeAny_builtin rO ?_;rw [zz7 iJ _];show wpAny _ A.in1 (pyNext (.ref it)>>=λz=>_) _ _ s
  refine zzA (wpAny_pyNext_list_end hh st p.isList (by simp;omega) λh' eb=>?_)
  show wpAny _ _ (Builtin.Dict.addKeywords d []>>=λ_=>_) _ _ _
  exact zzA (zzG (zzG (k _ H (I.turned (t':=s.toks) (λb o hb e=>eb b o hb e) f0 f1 f3 f4 f5) hd λ_ _=>rfl)))
 |cons kv rest ih=>
  intro i j acc H s I hf st hl pr hd hz k;obtain⟨ak,rv,p,_⟩:=I.list hl
  obtain⟨f0,f1,f2,f3,f4,f5⟩:=id hf
  obtain⟨v,vr,hv,⟨q,b,rfl,hq,hb⟩,pr'⟩:∃v vr,vs.drop i=v::vr/\(∃q b,v=V.ref q/\dI X.K H q [.ref b,kv.2]/\H b=some (.tup (kv.1.map kV)))/\gW X.K H vr rest:=by
   cases h:vs.drop i with
   |nil=>rw [h] at pr;cases pr
   |cons x r=>rw [h] at pr;cases pr with|cons h1 h2=>exact⟨x,r,rfl,h1,h2⟩
  have Ze:vs[i]?=some (.ref q):=by rw [<-List.head?_drop,hv];rfl
  have Zf:vs.drop (i+1)=vr:=by rw [<-List.drop_drop,hv];rfl
  obtain⟨u,FR,ru⟩:=rv.get Ze
  cases(show u=Value.ref q from ru);refine codeAny_builtin rO ?_;rw [zz7 iJ _];show wpAny _ A.in1 (pyNext (.ref it)>>=λz=>_) _ _ s
  refine zzA (wpAny_pyNext_list_item st p.isList (x:=Value.ref q) (by simpa using FR) λh' dY sb=>?_)
  have I1:Inv X aa σ H {s with heap:=h'}:=I.turned (t':=s.toks) (λb o hb e=>(sb.2 b hb).trans e) f0 f1 f3 f4 f5
  obtain⟨dN,rv2,p2,_⟩:=I1.tuple hq
  obtain⟨o2,g1,g2,n2,g3⟩:=id p2
  obtain⟨u1,u2,rfl,ru1,ru2⟩:∃u1 u2,dN=[u1,u2]/\RelV (.ref b) u1/\RelV kv.2 u2:=by
   cases rv2 with|cons h1 h2=>cases h2 with|cons h3 h4=>cases h4;exact⟨_,_,rfl,h1,h3⟩
  cases(show u1=Value.ref b from ru1);show wpAny _ A.in1 (holding [Value.ref q] _>>=λz=>_) _ _ {s with heap:=h'};refine zzA (wpAny_holding (zzA (wpAny_tryCatch ?_)));unfold Builtin.Dict.pairItems;refine zzA (wpAny_typeOf (s:={s with heap:=h'}) ⟨o2,g1,g2⟩ ?_);rw [if_pos (by decide)];refine zzA (wpAny_seqItems g1 g3 (zzG ?_));show wpAny _ A.in1 (holding [Value.ref b,u2] (dictSet d (.ref b) u2)) _ _ _;refine wpAny_holding (Bp hu I1 hd hb (by rw [zzL] at hz;omega) ru2 λh2 t2 YE I2=>?_)
  have xX:∀c,c≠d->upd H d (.dT (putK acc kv.1 kv.2)) c=H c:=λc hc=>ag hc
  have nd:it≠d:=λz=>by rw [z,hd] at f0;cases f0
  refine zzG ⟨plainId_quiet iJ _,ih (i+1) (j+1) _ _ _ I2 ⟨by rw [xX _ nd];exact f0,f1,f2,f3,f4,f5⟩ (dY.at λo e=>(YE.2 it nd).trans e) (df.xX hl xX hd) (gW.xX xX hd (by rw [Zf];exact pr')) aj ?_ λs' H' J1 J2 J3=>k s' H' J1 J2 λc hc=>(J3 c hc).trans (xX c hc)⟩
  have:=dX acc kv.1 kv.2
  rw [zzL] at hz;omega
def sW(hc:X.calm=true)(hu:X.A.units+3<cLine):bD X (.type "dict") (λxs H Q=>∃l vs ax,xs=[V.ref l]/\df X.K H l vs/\gW X.K H vs ax/\∀p,H p=none->Q (.ref p) (upd H p (.dT (dR [] ax)))):=by
 intro aa s σ H xs us Q I r h;obtain⟨l,vs,ax,rfl,hl,pr,q⟩:=h
 obtain⟨u,rfl,ru⟩:=vals1 r
 cases ru;have hh:X.A.handled=none:=I.ok.hd hc
 refine callType_codes (Q₁:=λobj s₁=>obj=.ref (zz9 s)/\s₁={s with heap:=s.heap.push {cls:=.type "dict",data:=.dict #[]}}) F.kt_called_dict (F.kt_typeCall_dict_1 _) F.entry_dict_init (kt_code_dict_new _ ⟨rfl,rfl⟩) ?_
 rintro obj s₁ ⟨rfl,rfl⟩
 have hn:H (zz9 s)=none:=I.aH.fresh (zzE _)
 have I1:=I.laid (a:=(zz9 s)) (o:=.dT []) (t':=s.toks) (λ_ _ q=>zzB _ q) (zzE _) (ll s.heap I.big)
 have T:(⟨s.heap.push {cls:=.type "dict",data:=.dict #[]},s.gens,s.drawn,s.toks,s.os⟩:Shared).TypeIs (.ref (zz9 s)) "dict":=⟨_,zzX _ rfl,rfl⟩
 have xX:∀c,c≠(zz9 s)->upd H (zz9 s) (.dT []) c=H c:=λc hc=>ag hc
 have same:az H (upd H (zz9 s) (.dT [])):=aY hn
 have Pr:df X.K (upd H (zz9 s) (.dT [])) l vs:=same.seq hl
 obtain⟨ak,rv,p,hz⟩:=I1.list Pr
 obtain⟨o,n,g1,g2,g3,g4⟩:=id p
 refine⟨T,F.args_dict_init_2 _ _,?_⟩;unfold Builtin.«dict.__init__» Builtin.Dict.selfAndRest;refine zzA (zzA (wpAny_notOrdered_dict T ?_));show wpAny _ _ (pure ((zz9 s),[Value.ref l]):Sem _) _ _ _;refine zzG ?_;show wpAny _ _ (Builtin.Dict.updateFrom "dict.__init__" (zz9 s) (.ref l) [] .none) _ _ _;unfold Builtin.Dict.updateFrom;refine zzA (wpAny_typeOf ⟨o,g1,g2⟩ ?_);rw [if_pos (by decide)];refine zzA (Dw g1 g2 g4 g3 hh λh' tk hk=>?_);rw [if_pos (by decide)];refine zzA (wpAny_rule ?_);have I2:=I1.kept (h':=h') (t':=tk) hk
 obtain⟨its',rv',p',_⟩:=I2.list Pr
 refine zzA (wpAny_pyIter_list p'.isList ?_);have I3:=I2.kept (h':=h'.push {cls:=.type "list_iterator",data:=.fields #[.ref l,.int 0 0]}) (t':=tk) λb o e=>zzB _ e
 have YU:(h'.push {cls:=.type "list_iterator",data:=.fields #[.ref l,.int 0 0]}).IsListIter h'.objs.size l 0:=⟨_,zzX _ rfl,rfl,rfl⟩
 have X2:dy X aa (upd H (zz9 s) (.dT [])) h'.objs.size:=I2.je (zzE _) (I2.aH.fresh (zzE _))
 refine zzG ⟨plainId_quiet iJ _,Dm (X:=X) (A:=X.A.in1) (aa:=aa) (σ:=σ) (l:=l) (d:=(zz9 s)) (it:=h'.objs.size) (vs:=vs) (by show X.A.units+1+1<cLine;omega) (show X.A.in1.handled=none from hh) ax 0 0 [] _ _ I3 X2 YU Pr ?_ aj ?_ λs' H' J1 J2 J3=>⟨rfl,?_⟩⟩
 ·exact Paired.wB pr λ_ _ ⟨q,b,e1,e2,e3⟩=>⟨q,b,e1,(show dI X.K _ q _ from by
   rcases e2 with(e2|⟨o,e2⟩)|e2
   ·exact .inl (.inl (same _ _ e2))
   ·exact .inl (.inr ⟨o,same _ _ e2⟩)
   ·exact .inr e2),same _ _ e3⟩
 ·have:=Paired.length pr
  rw [List.length_nil];omega
 ·have e:H'=upd H (zz9 s) (.dT (dR [] ax)):=by
   funext b
   by_cases hb:b=(zz9 s)
   ·rw [hb,aj];exact J2
   ·rw [ag hb,J3 b hb,ag hb]
  rw [e] at J1;exact⟨.ref (zz9 s),_,J1,rfl,q _ hn⟩
def uC(hc:X.calm=true)(hu:X.A.units+3<cLine):bD X (.type "dict") (λxs H Q=>∃l vs ax,xs=[V.ref l]/\df X.K H l vs/\gW X.K H vs ax/\∀p o,H p=none->Q (.ref p) (upd H p (.bt o (.dT (dR [] ax))))):=by
 intro aa s σ H xs us Q I r h;obtain⟨l,vs,ax,rfl,hl,pr,q⟩:=h
 refine wpAny_mono (sW hc hu aa s σ H _ us (λv H'=>∃p,v=.ref p/\H p=none/\H'=upd H p (.dT (dR [] ax))) I r ⟨l,vs,ax,rfl,hl,pr,λp hp=>⟨p,rfl,hp,rfl⟩⟩) ?_ λ_ _ z=>z
 rintro u s' ⟨v,H',I',rv,p,rfl,hp,rfl⟩
 obtain⟨o,J⟩:=I'.freeze aj
 have e:upd (upd H p (.dT (dR [] ax))) p (.bt o (.dT (dR [] ax)))=upd H p (.bt o (.dT (dR [] ax))):=by
  funext b
  by_cases hb:b=p
  ·rw [hb,aj,aj]
  ·rw [ag hb,ag hb,ag hb]
 rw [e] at J;exact⟨_,_,J,rv,q p o hp⟩
end
structure ym(H Hw:Hp)(d:Addr)(o:Obj)(ax:List (List Key×V)):Prop where
 at_:Hw d=some (.bt o (.dT ax))
 dt:H d=some (.dT ax)
 same:∀b u,H b=some u->b≠d->Hw b=some u
 new:∀b u,Hw b=some u->H b=none->∃ob,u=.bt ob bz
section
variable{P:Program}{w:World}{H Hw:Hp}{d:Addr}{o:Obj}{ax:List (List Key×V)}{fs:List Addr}{h h':Heap}
def ym.back(z:ym H Hw d o ax)(u:Un fs [] Hw Hw h h')(k:dE P w Hw h)(k':dE P w Hw h'):Un fs [] H H h h'/\dE P w H h'/\h'.get? d=some o:=by
 have fz:∀b ob,Hw b=some (.bt ob bz)->∀o,h.get? b=some o->h'.get? b=some o:=λb ob e o q=>by
  have h1:h.get? b=some ob:=(k b _ e).1
  have h2:h'.get? b=some ob:=(k' b _ e).1
  rw [h1] at q;cases q;exact h2
 have st:∀c v,Hw c=some v->(∀ob u,v≠.bt ob u)->H c=some v:=λc v e n=>by
  cases q:H c with
  |none=>obtain⟨ob,rfl⟩:=z.new c v e q;exact absurd rfl (n ob _)
  |some u=>
   by_cases hc:c=d
   ·subst hc;rw [z.at_] at e;cases e;exact absurd rfl (n _ _)
   ·rw [z.same c u q hc] at e;exact e
 refine⟨⟨λb ob e n hb hx=>?_,λb ob e n hb hx=>?_,λb ob e n hx=>n,λb ob e hx=>u.there b ob e hx,λ_ _ e=>e,λ_ _ _ e=>e,λb ps e=>⟨#[],by simpa using e⟩⟩,λb v e=>?_,(k' d _ z.at_).1⟩
 ·cases q:Hw b with
  |none=>exact u.keep b ob e q hb hx
  |some v=>obtain⟨o',rfl⟩:=z.new b v q n;exact fz b o' q ob e
 ·cases q:Hw b with
  |none=>exact u.slot b ob e q hb hx
  |some v=>obtain⟨o',rfl⟩:=z.new b v q n;exact⟨ob.slots,fz b o' q ob e⟩
 ·have go:∀v,bA P w Hw h' b v->bA P w H h' b v:=λv y=>y.di (λ_ _ _ r=>r) (λc r=>st c _ r (λ_ _ z=>nomatch z)) λc xs r=>st c _ r (λ_ _ z=>nomatch z)
  by_cases hb:b=d
  ·subst hb;rw [z.dt] at e;cases e;exact go _ (k' b _ z.at_).2
  ·exact go v (k' b v (z.same b v e hb))
end
structure uc(p y:Str)(params:Arguments)(body:Expr)(scope:Scope):Prop where
 body:∃q1 q2 q3 q4 q5 j,body=.Subscript (.Subscript (.Name y q1) (.Name p q2) q3) (.Constant (.int 0) j q4) q5
 sc:qK [p] [y] scope
 d1:(p==("__debug__":Str))=false
 d2:(p==("__classdict__":Str))=false
 d3:(y==("__debug__":Str))=false
 d4:(y==("__classdict__":Str))=false
section
variable{X:Cx}{aa:List (Addr×Obj)}{σ:St}{H:Hp}{s:Shared}{d f c c' b:Addr}{o oc:Obj}{ax:List (List Key×V)}{kk:Nat}{p y qual:Str}{params:Arguments}{body:Expr}{scope:Scope}{pm fm:Value}{cq:Array Value}{ct:Tok}{k:List Key}{q:Addr}{n:Int}{r:List V}{A:Around}{E:Value->Shared->Prop}
def yV(hA:A=X.A.in1)(L:uc p y params body scope)(hr:dh (kk+1) X.A)(I:Inv X aa σ H s)(hd:H d=some (.dT ax))(ho:s.heap.get? d=some o)
 (dg:X.env.cells.lookup y=some c) (Vg:X.s₀.heap.objs.size<=c) (X7:s.heap.IsCell c (some (.ref d)))
 (hf:H f=some (.bt (PySem.W.kla_obj "<lambda>" qual params body scope [(y,c)] pm c' fm) bz)) (fE:H c'=some (.bt oc bz)) (mS:oc.data=.fields cq) (F1:cq[1]?=some (.str qual ct))
 (hb:∀u,bindArgs (PySem.W.kla_fn "<lambda>" qual params body scope [(y,c)] pm (.ref c') fm) ⟨[u],[]⟩=pure ([p].zip [u]))
 (Pt:H b=some (.tup (k.map kV))) (hv:gv ax k=some (.ref q)) (hq:dI X.K H q (.int n::r)):
 wpAny (model X.prog X.w) A (call (.ref f) [.ref b]) (λu s'=>(∃t,u=.int n t)/\Inv X aa σ H s'/\s'.heap.get? d=some o) E s:=by
 subst hA;obtain⟨q1,q2,q3,q4,q5,j,rfl⟩:=L.body
 obtain⟨ocell,g1,g2⟩:=id X7
 have Dr:H c=none:=I.dG y c dg
 obtain⟨z0,lo,xs,rel,o',es,ep,h1,h2,h3,h4,h5⟩:=(show bA X.prog X.w H s.heap d (.dT ax) from I.aH d _ hd)
 rw [ho] at h1;cases h1;have If:Inv X aa σ (upd H d (.bt o (.dT ax))) s:=by
  refine gF (h':=s.heap) (t':=s.toks) I (by rw [hd];exact True.intro) ⟨rfl,λ_ _=>rfl⟩ ⟨o,ho⟩ ⟨ho,z0,lo,xs,?_,o,es,ep,ho,h2,h3,h4,h5⟩
  exact KT.keeps (H:=H) rel λc ys ec=>by rw [ag (eQ ec hd (λz=>nomatch z))];exact ec
 have X9:c≠d:=λz=>by rw [z,hd] at Dr;cases Dr
 have X0:f≠d:=eQ hf hd (λz=>nomatch z)
 have Ta:c'≠d:=eQ fE hd (λz=>nomatch z)
 have DG:sQ [(c,ocell)] (upd H d (.bt o (.dT ax))) (dD X.stack) s.heap:=by
  have lk:∀b o,List.lookup b [(c,ocell)]=some o->b=c/\o=ocell:=λb o e=>by
   rw [zz5] at e;cases x6:b==c with
   |true=>rw [x6] at e;cases e;exact⟨zzy.mp x6,rfl⟩
   |false=>rw [x6] at e;cases e
  refine⟨λb o e=>?_,λb o e=>?_,λb o e=>?_⟩
  ·obtain⟨rfl,rfl⟩:=lk b o e;exact g1
  ·obtain⟨rfl,rfl⟩:=lk b o e;rw [ag X9];exact Dr
  ·obtain⟨rfl,rfl⟩:=lk b o e
   intro PX;rcases zzm.mp (I.iq b PX) with z|z
   ·exact I.xG y b dg z
   ·obtain⟨_,o',h4,_⟩:=I.ok.eV.mem z
    exact absurd (zzO h4) (Nat.not_lt.mpr Vg)
 have zc:List.lookup c [(c,ocell)]=some ocell:=by simp
 have RF:∀x c1,List.lookup x [(y,c)]=some c1->x=y/\c1=c:=λx c1 e=>by
  rw [zz5] at e;cases hx:x==y with
  |true=>rw [hx] at e;cases e;exact⟨zzy.mp hx,rfl⟩
  |false=>rw [hx] at e;cases e
 have zb:∀b o,List.lookup b [(c,ocell)]=some o->X.base.get? b=none:=λb o e=>by
  rw [zz5] at e;cases x6:b==c with
  |true=>
   have:=zzy.mp x6;subst this
   cases y':X.base.get? b with
   |none=>rfl
   |some o'=>exact absurd (zzO (I.ok.bs b o' y').1) (Nat.not_lt.mpr Vg)
  |false=>rw [x6] at e;cases e
 have YC:dI X.K (upd H d (.bt o (.dT ax))) q (.int n::r):=dI.xX hq (λb hb=>ag hb) hd
 have Xs:upd H d (.bt o (.dT ax)) b=some (.tup (k.map kV)):=by rw [ag (eQ Pt hd (λz=>nomatch z))];exact Pt
 have wd:ym H (aU [(c,ocell)] (upd H d (.bt o (.dT ax)))) d o ax:=by
  have nz:∀b u,H b=some u->List.lookup b [(c,ocell)]=none:=λb u e=>by
   rw [zz5];cases x6:b==c with
   |true=>have:=zzy.mp x6;subst this;rw [Dr] at e;cases e
   |false=>rfl
  refine⟨by rw [aq (nz d _ hd),aj],hd,λb u e hb=>by rw [aq (nz b u e),ag hb];exact e,λb u e n=>?_⟩
  cases hz:List.lookup b [(c,ocell)] with
  |some ob=>rw [bg hz] at e;cases e;exact⟨_,rfl⟩
  |none=>
   rw [aq hz] at e;have Y9:b≠d:=λz=>by rw [z,hd] at n;cases n
   rw [ag Y9,n] at e;cases e
 refine wpAny_call (codeAny_mono (vF (k:=kk) (E:=λ_ _ _=>False) (Q:=λv H'=>v=.int n/\H'=aU [(c,ocell)] (upd H d (.bt o (.dT ax)))) (Z:=[(c,ocell)]) (ws:=[.ref d]) (vs:=[.ref b]) (us:=[.ref b])
  (t:=OR (QI X.K) (Fs (ue 1) (ue 0)) (tC (.int 0))) L.sc hr.in1 If.wO.in1 DG zb ?fo ?co mS F1 (hb _) (.cons rfl .nil) rfl rfl ?O9 ?inj ?cz ?cells ?ht ?hq) λrr s' Ux=>?_)
 case fo=>
  have z:upd H d (.bt o (.dT ax)) f=H f:=ag X0
  exact(If.aH f _ (z.trans hf)).1
 case co=>
  have z:upd H d (.bt o (.dT ax)) c'=some (.bt oc bz):=by rw [ag Ta];exact fE
  exact(If.aH c' _ z).1
 case O9=>intro y' BJ;exact⟨c,by rw [zzi.mp BJ];simp⟩
 case inj=>intro x y' c1 e1 e2;rw [(RF x c1 e1).1,(RF y' c1 e2).1]
 case cz=>intro x c1 e;obtain⟨rfl,rfl⟩:=RF x c1 e;exact⟨ocell,_,zc,g2⟩
 case cells=>
  intro i y' c1 e1 e2 v e3;obtain⟨rfl,rfl⟩:=RF y' c1 e2
  cases i with
  |zero=>cases e3;exact⟨.ref d,rfl,ocell,g1,g2⟩
  |succ i=>cases e3
 case ht=>
  refine FJ Ai (Ei ?_ (dS (i:=1) rfl (.inr (.inr (L.sc.Sh y (by simp)))) L.d3 L.d4) (dS (i:=0) rfl (.inl (L.sc.par p (by simp))) L.d1 L.d2) λ_ _=>rfl) mw λ_ _=>rfl
  have:=hr.un
  show X.A.units+1+3+1<cLine
  omega
 case hq=>
  refine⟨_,rfl,_,rfl,d,.ref q,rfl,?_,?_⟩
  ·exact .inr ⟨ax,k,b,.inr ⟨o,aj⟩,rfl,Xs,hv.symm⟩
  ·exact⟨q,.int n::r,0,.int n,rfl,rfl,YC,by simp [uo,vp],λ_=>⟨rfl,rfl⟩⟩
 ·cases rr with
  |error e=>
   obtain⟨a,C,t,vs,H',B,e1,F⟩:=Ux
   exact(F.ends).elim
  |ok fl=>
   cases fl with
   |ret u=>
    obtain⟨v,H',os,bare,un,aH,rv,rfl,rfl⟩:=Ux
    obtain⟨t,rfl⟩:=rv
    obtain⟨u1,k1,O8⟩:=wd.back un (DG.aH If.aH) aH
    obtain⟨hh,g,dr,tk,os'⟩:=s'
    obtain rfl:os'=s.os:=os
    exact⟨⟨t,rfl⟩,I.call (h':=hh) (g':=g) (d':=dr) (t':=tk) (ch:=[]) u1 k1 bare (λb z=>absurd z (by simp)),O8⟩
   |_=>exact Ux.elim
end
structure KM(X:Cx)(σ:St)(H:Hp)(kk:Nat)(d f:Addr)(ax:List (List Key×V))(cf:Nat->Int):Prop where
 room:dh (kk+1) X.A
 dt:H d=some (.dT ax)
 lam:∃(p y:Str) (params:Arguments) (body:Expr) (scope:Scope) (qual:Str) (c c':Addr) (oc:Obj) (cq:Array Value) (ct:Tok) (pm fm:Value) (iy:Nat),uc p y params body scope/\X.env.cells.lookup y=some c/\X.s₀.heap.objs.size<=c/\H f=some (.bt (PySem.W.kla_obj "<lambda>" qual params body scope [(y,c)] pm c' fm) bz)/\
  H c'=some (.bt oc bz)/\oc.data=.fields cq/\cq[1]?=some (.str qual ct)/\(∀u,bindArgs (PySem.W.kla_fn "<lambda>" qual params body scope [(y,c)] pm (.ref c') fm) ⟨[u],[]⟩=pure ([p].zip [u]))/\
  X.N[iy]?=some y/\σ[iy]?=some (some (V.ref d))/\X.env.scope.names.lookup y=some .cell
 cost:∀(i:Nat) k v,ax[i]?=some (k,v)->∃q r,v=V.ref q/\dI X.K H q (.int (cf i)::r)
def DQ{ax:List (List Key×V)}:∀{i:Nat} {k:List Key} {v:V},(ax.map (·.1)).Nodup->ax[i]?=some (k,v)->gv ax k=some v:=by
 induction ax with
 |nil=>intro i k v _ h;simp at h
 |cons x r ih=>
  intro i k v nd h;rw [zzF,List.nodup_cons] at nd;cases i with
  |zero=>simp at h;subst h;exact gb rfl
  |succ i=>
   simp at h;rw [fI λe=>nd.1 (e▸zzx.mpr ⟨(k,v),zzD h,rfl⟩)]
   exact ih nd.2 h
section
variable{X:Cx}{aa:List (Addr×Obj)}{σ:St}{H:Hp}{s:Shared}{d f it S:Addr}{o:Obj}{es:Array DictEntry}{ep:Nat}{ax:List (List Key×V)}{kk:Nat}{cf:Nat->Int}{R:Result->Shared->Prop}
def ES(I:Inv X aa σ H s)(e:H d=some (.dT ax)):(d==sysModules)=false/\(ax.map (·.1)).Nodup/\∃o es ep,s.heap.get? d=some o/\o.ExactDict/\o.data=.dict es ep/\es.size=ax.length/\∀(i:Nat) (h:i<es.size),∃b k v,es[i].key=.ref b/\ax[i]?=some (k,v)/\H b=some (.tup (k.map kV)):=by
 obtain⟨lo,nd,o,es,ep,h1,h2,h3,hl,hk⟩:=BW (I.aH d _ e)
 exact⟨lo,nd,o,es,ep,h1,h2,h3,hl,λi hi=>let⟨b,k,v,e1,e2,e3,_⟩:=hk i hi;⟨b,k,v,e1,e2,e3⟩⟩
def dy.pin{b:Addr}{ob:Obj}(h:dy X aa H b)(e:s.heap.get? b=some ob)(n:∀v,ob.data≠.cell v):s.heap.get? b=some ob/\H b=none/\b≠X.env.locals/\b∉X.fs/\∀v,ob.data≠.cell v:=⟨e,h.1,h.2.1,h.2.2.1,n⟩
def yh(M:KM X σ H kk d f ax cf)(I:Inv X aa σ H s)(fi:dy X aa H it)(fS:dy X aa H S)(ho:s.heap.get? d=some o){oi oS:Obj}(hi:s.heap.get? it=some oi)(ci:∀v,oi.data≠.cell v)(hS:s.heap.get? S=some oS)(cS:∀v,oS.data≠.cell v)
 (nd:(ax.map (·.1)).Nodup) {i:Nat} {k:List Key} {v:V} {b:Addr} (hk:ax[i]?=some (k,v)) (hb:H b=some (.tup (k.map kV))) {E:Value->Shared->Prop} {Q:Value->Shared->Prop}
 (h:∀t s',Inv X aa σ H s'->s'.heap.get? d=some o->s'.heap.get? it=some oi->s'.heap.get? S=some oS->Q (.int (cf i) t) s'):wpAny (model X.prog X.w) X.A.in1 (call (.ref f) [.ref b]) Q E s:=by
 obtain⟨p,y,params,body,scope,qual,c,c',oc,cq,ct,pm,fm,iy,L,l1,l2,l3,l4,l5,l6,l7,l8,l9,l10⟩:=M.lam
 obtain⟨q,r,rfl,hq⟩:=M.cost i k v hk
 have I1:Inv X ((it,oi)::(S,oS)::aa) σ H s:=by
  refine I.gA λp hp=>?_
  rcases zzm.mp hp with rfl|hp
  ·exact fi.pin hi ci
  ·rcases zzm.mp hp with rfl|hp
   ·exact fS.pin hS cS
   ·exact I.pin p (zzR _ hp)
 have cell:s.heap.IsCell c (some (.ref d)):=by
  obtain⟨m,_,hloc⟩:=I.loc
  obtain⟨u,ru,lk⟩:=hloc iy y (.ref d) l8 l9 (.inr (.inl l10))
  cases(show u=Value.ref d from ru);rcases lk with⟨z,_⟩|⟨_,c2,hc2,z⟩
  ·have z2:X.env.scope.names.lookup y=some .local:=z
   rw [l10] at z2;cases z2
  ·rw [l1] at hc2;cases hc2;exact z
 refine wpAny_mono (yV (kk:=kk) rfl L M.room I1 M.dt ho l1 l2 cell l3 l4 l5 l6 l7 hb (DQ nd hk) hq) (λu s' hu=>?_) λ_ _ z=>z
 obtain⟨⟨t,rfl⟩,J,hd⟩:=hu
 refine h t s' (J.gA λp hp=>J.pin p (zzR _ (.tail _ (.tail _ hp)))) hd (J.pin (it,oi) (zzR _ (.head _))).1 (J.pin (S,oS) (zzR _ (.tail _ (.head _)))).1
def kL{h:Heap}{c:Nat}{xs ys:Array Value}(e:h.get? S=some (seqObj "list" xs c)):∃c',(h.update S (Obj.mapSeq λ_=>ys)).get? S=some (seqObj "list" ys c'):=⟨_,get?_update_seq e λ_=>ys⟩
def mK{xs:Array Value}{c:Nat}:∀v,(seqObj "list" xs c).data≠.cell v:=λv z=>nomatch z
def AO(M:KM X σ H kk d f ax cf)(hh:X.A.handled=none)(hd:o.data=.dict es ep)(hl:es.size=ax.length)(uR:∀(i:Nat) (h:i<es.size),∃b k v,es[i].key=.ref b/\ax[i]?=some (k,v)/\H b=some (.tup (k.map kV)))(nd:(ax.map (·.1)).Nodup)
 (fi:dy X aa H it) (fS:dy X aa H S) (nS:S≠it) (hR:∀(i:Nat) (h:i<es.size) s',(∀j,j<es.size->cf i<=cf j/\(j<i->cf i<cf j))->Inv X aa σ H s'->R (.ok (.ret es[i].key)) s'):
 ∀(r j i:Nat) (s:Shared) (t:Tok) (c:Nat) (hi:i<es.size),es.size-(j+1)=r->j+1<=es.size->Inv X aa σ H s->s.heap.get? d=some o->s.heap.IsKeyIter it d (j+1) es.size ep->s.heap.get? S=some (seqObj "list" #[es[i].key,.int (cf i) t] c)->i<=j->(∀j',j'<=j->cf i<=cf j'/\(j'<i->cf i<cf j'))->
  codeAny (model X.prog X.w) X.A (.builtin "min.loop" ⟨[.ref it,.ref f,.ref S],[]⟩) R s:=by
 have name:(toString "min"++toString ".loop":String)="min.loop":=by decide
 have Te:S≠d:=λz=>by have:=fS.1;rw [z,M.dt] at this;cases this
 have U2:it≠d:=λz=>by have:=fi.1;rw [z,M.dt] at this;cases this
 intro r
 induction r with
 |zero=>
  intro j i s t c hi hr hj I ho st hS xY best;refine codeAny_builtin PySem.F.entry_min_loop ?_;rw [zz7 PySem.F.plain_min_loop _];show wpAny _ X.A.in1 (seqItems? (.ref S)>>=λz=>_) _ _ _
  refine zzA (wpAny_seqItems hS rfl ?_);show wpAny _ X.A.in1 (tryCatch (pyNext (.ref it)) _>>=λz=>_) _ _ _
  refine zzA (wpAny_tryCatch (uv hh st ho hd (by omega) λh' eb=>?_))
  have qt:=eb S _ nS hS
  have I1:=I.turned (h':=h') (t':=s.toks) (λb o hb e=>eb b o hb e) fi.1 fi.2.1 fi.2.2.2.1 fi.2.2.2.2.1 fi.2.2.2.2.2
  show wpAny _ X.A.in1 (updateSeq S (λ_=>#[])>>=λz=>_) _ _ _
  refine zzA (wpAny_updateSeq qt rfl (zzA (wpAny_letGo (zzG ?_))));have s1:=zzu h' S (Obj.mapSeq λ_=>(#[]:Array Value))
  exact hR i hi _ (λj' S5=>best j' (by omega)) (I1.turned (t':=s.toks) (λb o hb e=>(s1.2 b hb).trans e) fS.1 fS.2.1 fS.2.2.2.1 fS.2.2.2.2.1 fS.2.2.2.2.2)
 |succ r ih=>
  intro j i s t c hi hr hj I ho st hS xY best;have bB:j+1<es.size:=by omega
  refine codeAny_builtin PySem.F.entry_min_loop ?_;rw [zz7 PySem.F.plain_min_loop _];show wpAny _ X.A.in1 (seqItems? (.ref S)>>=λz=>_) _ _ _
  refine zzA (wpAny_seqItems hS rfl ?_);show wpAny _ X.A.in1 (tryCatch (pyNext (.ref it)) _>>=λz=>_) _ _ _
  refine zzA (wpAny_tryCatch (kl st ho hd bB λh' dY sb=>?_));have qt:=(sb.2 S nS).trans hS
  have jl:=(sb.2 d (Ne.symm U2)).trans ho
  have I1:=I.turned (h':=h') (t':=s.toks) (λb o hb e=>(sb.2 b hb).trans e) fi.1 fi.2.1 fi.2.2.2.1 fi.2.2.2.2.1 fi.2.2.2.2.2
  obtain⟨oi,gi,gc,gd⟩:=id dY
  obtain⟨b,k,v,e1,e2,e3⟩:=uR (j+1) bB
  rw [e1];show wpAny _ X.A.in1 (tryCatch (holding [Value.ref b] (call (.ref f) [Value.ref b])) _>>=λz=>_) _ _ _
  refine zzA (wpAny_tryCatch (wpAny_holding (yh M I1 fi fS jl gi (λv z=>by rw [gd] at z;cases z) qt mK nd e2 e3 λt2 s2 I2 Rz Ql Pb=>?_)))
  have Qd:s2.heap.IsKeyIter it d (j+1+1) es.size ep:=⟨oi,Ql,gc,gd⟩
  show wpAny _ X.A.in1 (tryCatch (holding [Value.ref b,.int (cf (j+1)) t2] (richCompare .Lt (.int (cf (j+1)) t2) (.int (cf i) t)>>=λz=>_)) _>>=λz=>_) _ _ _
  refine zzA (wpAny_tryCatch (wpAny_holding (zzA (CmpOf.ints_lt (prog:=X.prog) (w:=X.w) (A:=X.A.in1) (P:=λi v=>∃t,v=.int (cf i) t) cf (λi v h=>h) (j+1) i _ _ _ _ _ ⟨t2,rfl⟩ ⟨t,rfl⟩ ?_))))
  refine zzA (wpAny_holding (wpAny_truthy_bool (zzA (wpAny_letGo (zzG ?_)))))
  by_cases iR:cf (j+1)<cf i
  ·obtain⟨c2,hc2⟩:=kL (ys:=#[Value.ref b,.int (cf (j+1)) t2]) Pb
   have s1:=zzu s2.heap S (Obj.mapSeq λ_=>#[Value.ref b,.int (cf (j+1)) t2])
   simp! [iR,decide_true,if_true];refine zzA (wpAny_updateSeq Pb rfl (zzA (wpAny_letGo ?_)));rw [name];rw [<-e1] at hc2 s1⊢;refine zzG ⟨plainId_quiet PySem.F.plain_min_loop _,ih (j+1) (j+1) _ t2 c2 bB (by omega) bB (I2.turned (t':=s2.toks) (λb o hb e=>(s1.2 b hb).trans e) fS.1 fS.2.1 fS.2.2.2.1 fS.2.2.2.2.1 fS.2.2.2.2.2) ?_ ?_ ?_ (zzE _) λj' S5=>?_⟩
   ·exact(s1.2 d (Ne.symm Te)).trans Rz
   ·exact⟨oi,(s1.2 it (Ne.symm nS)).trans Ql,gc,gd⟩
   ·exact hc2
   ·by_cases e:j'=j+1
    ·subst e;exact⟨by omega,λ_=>by omega⟩
    ·have:=best j' (by omega)
     exact⟨by omega,λ_=>by omega⟩
  ·simp! [iR,decide_false,zze,if_false];refine zzA (wpAny_letGo ?_);rw [name];refine zzG ⟨plainId_quiet PySem.F.plain_min_loop _,ih (j+1) i _ t c hi (by omega) bB I2 Rz Qd Pb (by omega) λj' S5=>?_⟩
   by_cases e:j'=j+1
   ·subst e;exact⟨by omega,λ_=>by omega⟩
   ·exact best j' (by omega)
def xE(M:KM X σ H kk d f ax cf)(iK:0<ax.length)(I:Inv X aa σ H s){Q:VK}
 (q:∀i k v b,ax[i]?=some (k,v)->H b=some (.tup (k.map kV))->(∀j,j<ax.length->cf i<=cf j/\(j<i->cf i<cf j))->Q (.ref b) H):wpAny (model X.prog X.w) X.A (call (.builtin "min") [.ref d] [(Str.ofString "key",.ref f)]) (EP X aa σ Q) X.xe s:=by
 have name:(toString "min"++toString ".loop":String)="min.loop":=by decide
 have hh:X.A.handled=none:=M.room.hd
 obtain⟨lo,nd,o,es,ep,ho,hx,hd,hl,uR⟩:=ES I M.dt
 have fin:∀(i:Nat) (h:i<es.size) s',(∀j,j<es.size->cf i<=cf j/\(j<i->cf i<cf j))->Inv X aa σ H s'->EP X aa σ Q es[i].key s':=λi h s' b J=>by
  obtain⟨a,k,v,e1,e2,e3⟩:=uR i h
  rw [e1];exact⟨.ref a,H,J,rfl,q i k v a e2 e3 λj hj=>b j (by omega)⟩
 refine kmk_tree PySem.F.kind_min PySem.F.plain_min PySem.F.entry_min (kmk_min_key _ _) ?_;show wpAny _ X.A.in1 (Builtin.Builtins.bindParams "min" ["key","default"] 0 ⟨[],[(Str.ofString "key",.ref f)]⟩>>=λz=>_) _ _ s
 refine zzA (wpAny_of_eq (show Builtin.Builtins.bindParams "min" ["key","default"] 0 ⟨[],[(Str.ofString "key",.ref f)]⟩=pure [some (.ref f),none] from rfl) (zzA (zzG ?_)));refine zzA (qe lo ho hx hd (zzA (wpAny_newList ?_ (Nat.zero_le _))));rw [name];generalize hit:(zz9 s)=it
 generalize hSS:(s.heap.push {cls:=.type "dict_keyiterator",data:=.fields #[.ref d,.int 0 0,.int es.size 0,.int ep 0]}).objs.size=S
 have eS:S=it+1:=by rw [<-hSS,<-hit];exact size_push' ..
 have nS:S≠it:=by omega
 have hH:(zz9 s)<=S:=by omega
 have fi:dy X aa H it:=by rw [<-hit];exact I.je (zzE _) (I.aH.fresh (zzE _))
 have fS:dy X aa H S:=I.je hH (I.aH.fresh hH)
 have keep:∀b ob,s.heap.get? b=some ob->((s.heap.push {cls:=.type "dict_keyiterator",data:=.fields #[.ref d,.int 0 0,.int es.size 0,.int ep 0]}).push (seqObj "list" #[] 0)).get? b=some ob:=λb ob e=>zzB _ (zzB _ e)
 have I1:=I.kept (t':=s.toks) keep
 have gI:((s.heap.push {cls:=.type "dict_keyiterator",data:=.fields #[.ref d,.int 0 0,.int es.size 0,.int ep 0]}).push (seqObj "list" #[] 0)).get? it=some {cls:=.type "dict_keyiterator",data:=.fields #[.ref d,.int 0 0,.int es.size 0,.int ep 0]}:=by
  rw [<-hit];exact zzB _ (zzX _ rfl)
 have gS:((s.heap.push {cls:=.type "dict_keyiterator",data:=.fields #[.ref d,.int 0 0,.int es.size 0,.int ep 0]}).push (seqObj "list" #[] 0)).get? S=some (seqObj "list" #[] 0):=by
  rw [<-hSS];exact zzX _ rfl
 have Te:S≠d:=λz=>by have:=fS.1;rw [z,M.dt] at this;cases this
 have U2:it≠d:=λz=>by have:=fi.1;rw [z,M.dt] at this;cases this
 refine zzG ⟨plainId_quiet PySem.F.plain_min_loop _,codeAny_builtin PySem.F.entry_min_loop ?_⟩;rw [zz7 PySem.F.plain_min_loop _];show wpAny _ X.A.in1 (seqItems? (.ref S)>>=λz=>_) _ _ _
 refine zzA (wpAny_seqItems gS rfl ?_);show wpAny _ X.A.in1 (tryCatch (pyNext (.ref it)) _>>=λz=>_) _ _ _
 have h0:0<es.size:=by omega
 refine zzA (wpAny_tryCatch (kl (i:=0) ⟨_,gI,rfl,rfl⟩ (keep _ _ ho) hd h0 λh' dY sb=>?_))
 have qt:=(sb.2 S nS).trans gS
 have jl:=(sb.2 d (Ne.symm U2)).trans (keep _ _ ho)
 have I2:=I1.turned (h':=h') (t':=s.toks) (λb o hb e=>(sb.2 b hb).trans e) fi.1 fi.2.1 fi.2.2.2.1 fi.2.2.2.2.1 fi.2.2.2.2.2
 obtain⟨oi,gi,gc,gd⟩:=id dY
 obtain⟨b,k,v,e1,e2,e3⟩:=uR 0 h0
 rw [e1];show wpAny _ X.A.in1 (tryCatch (holding [Value.ref b] (call (.ref f) [Value.ref b])) _>>=λz=>_) _ _ _
 refine zzA (wpAny_tryCatch (wpAny_holding (yh M I2 fi fS jl gi (λv z=>by rw [gd] at z;cases z) qt mK nd e2 e3 λt2 s2 I3 Rz Ql Pb=>?_)))
 obtain⟨c2,hc2⟩:=kL (ys:=#[Value.ref b,.int (cf 0) t2]) Pb
 have s1:=zzu s2.heap S (Obj.mapSeq λ_=>#[Value.ref b,.int (cf 0) t2])
 show wpAny _ X.A.in1 (updateSeq S (λ_=>#[Value.ref b,.int (cf 0) t2])>>=λz=>_) _ _ _
 refine zzA (wpAny_updateSeq Pb rfl ?_);rw [name];rw [<-e1] at hc2 s1⊢;refine zzG ⟨plainId_quiet PySem.F.plain_min_loop _,AO M hh hd hl uR nd fi fS nS fin _ 0 0 _ t2 c2 h0 rfl h0 (I3.turned (t':=s2.toks) (λb o hb e=>(s1.2 b hb).trans e) fS.1 fS.2.1 fS.2.2.2.1 fS.2.2.2.2.1 fS.2.2.2.2.2) ((s1.2 d (Ne.symm Te)).trans Rz) ⟨oi,(s1.2 it (Ne.symm nS)).trans Ql,gc,gd⟩ hc2 (zzE _) λj' S5=>?_⟩
 have e:j'=0:=by omega
 subst e;exact⟨by omega,λh=>absurd h (Nat.lt_irrefl _)⟩
end
end L2
namespace L2
open PySem PySem.Spec PyProof.Rows PySem.W
noncomputable def sF{α:Type}(dflt:α)(l:List α)(nss:List (List Int)):List α:=if l.length<2 then l else(uG l.length λi j=>HT.lexLt (nss.getD i []) (nss.getD j [])).map λi=>l.getD i dflt
section
variable{prog:Program}{w:World}{A:Around}{E:Value->Shared->Prop}{s:Shared}{a:Addr}{vs:List Value}{nss:List (List Int)}
def A4{n:Nat}{P:PySem.Fin->Shared->Prop}(ho:s.heap.get? a=some (seqObj "list" vs.toArray n))(h2:vs.length<2)
 (h:∀h' c,(∀b o,b≠a->s.heap.get? b=some o->h'.get? b=some o)->h'.get? a=some (seqObj "list" vs.toArray c)->P (.done (.ret .none)) {s with heap:=h'}):wpAny (model prog w) A (Builtin.«list.sort» ⟨[.ref a],[]⟩) P E s:=by
 have s1:=zzu s.heap a (Obj.mapSeq λ_=>(#[]:Array Value))
 obtain⟨e1,ho1⟩:=mz (ys:=(#[]:Array Value)) ho
 generalize hH:(((s.heap.update a (Obj.mapSeq λ_=>(#[]:Array Value))).push (seqObj "tuple" vs.toArray 0)).push (seqObj "list" #[] 0))=H1
 have k1:∀b o,b≠a->s.heap.get? b=some o->H1.get? b=some o:=λb o hb e=>by rw [<-hH];exact zzB _ (zzB _ ((s1.2 b hb).trans e))
 have a1:H1.get? a=some (seqObj "list" #[] e1):=by rw [<-hH];exact zzB _ (zzB _ ho1)
 rw [list_sort_plain];refine zzA (listItems_at ho rfl (zzA (listUpdate_at ho rfl ?_ (by rw [zzC,sizeLine_eq];omega) (Nat.zero_le _))));refine zzA (seqEpoch_at ho1 rfl (zzA (wpAny_newTuple ?_ (by show vs.length<=_;rw [sizeLine_eq];omega))));refine zzA (wpAny_newList ?_ (Nat.zero_le _));refine wpAny_holding ?_;show wpAny (model prog w) A _ P E {s with heap:=((s.heap.update a (Obj.mapSeq λ_=>(#[]:Array Value))).push (seqObj "tuple" vs.toArray 0)).push (seqObj "list" #[] 0)}
 rw [hH];dsimp only;have Mb:vs.toArray.size<2:=by rw [zzC];omega
 rw [if_pos Mb,if_pos Mb];refine zzA (zzG (zzA ?_));show wpAny (model prog w) A (pure ((),SortSt.mk' general' (vs.toArray.zip vs.toArray) #[] 7 none)) _ E _;refine zzG ?_;dsimp only;have Ma:(arrOf (SortSt.mk' general' (vs.toArray.zip vs.toArray) #[] 7 none)).map (·.2)=vs.toArray:=by
  show(vs.toArray.zip vs.toArray).map (·.2)=vs.toArray
  apply Array.toList_inj.mp
  simp! [Array.toList_map,Array.toList_zip];exact List.map_snd_zip (zzE _)
 rw [Ma];have s2:=zzu H1 a (Obj.mapSeq λ_=>vs.toArray)
 obtain⟨c2,hc2⟩:=mz (ys:=vs.toArray) a1
 refine zzA (seqEpoch_at a1 rfl (zzA (listUpdate_at a1 rfl ?_ (Nat.zero_le _) (by rw [zzC,sizeLine_eq];omega))));simp! [bne_self_eq_false,zze,if_false];exact zzG (h _ c2 (λb o hb e=>(s2.2 b hb).trans (k1 b o hb e)) hc2)
def yI{n:Nat}{P:PySem.Fin->Shared->Prop}(ho:s.heap.get? a=some (seqObj "list" vs.toArray n))(F2:vs.length<64)(rd:2<=vs.length->∀h',(∀b o,b≠a->s.heap.get? b=some o->h'.get? b=some o)->Rl prog w A E vs (λi j=>HT.lexLt (nss.getD i []) (nss.getD j [])) {s with heap:=h'})
 (h:∀h' c,(∀b o,b≠a->s.heap.get? b=some o->h'.get? b=some o)->h'.get? a=some (seqObj "list" (sF Value.none vs nss).toArray c)->P (.done (.ret .none)) {s with heap:=h'}):wpAny (model prog w) A (Builtin.«list.sort» ⟨[.ref a],[]⟩) P E s:=by
 by_cases h2:vs.length<2
 ·exact A4 ho h2 λh' c k e=>h h' c k (by unfold sF;rw [if_pos h2];exact e)
 ·exact vY ho (by omega) F2 (rd (by omega)) λh' c k e=>h h' c k (by unfold sF;rw [if_neg h2];exact e)
def zP{d:Addr}{o:Obj}{es:Array DictEntry}{ep:Nat}(lo:(d==sysModules)=false)(hx:o.ExactDict)(hd:o.data=.dict es ep):KdlSrc prog w "dict" d d es.size (λi v=>∃h:i<es.size,v=es[i].key) (λh=>h.get? d=some o) where
 type:=λs e=>⟨o,e,hx.1⟩
 there:=λh e=>⟨zzO e,zzO e⟩
 keep:=λh h' e k=>k d (.inl rfl) o e
 notList:=by decide
 notTuple:=by decide
 hint:=λA E s Q e q=>kdl_hint_dict ⟨o,e,hx.1⟩ q
 iter:=λA s hh e=>⟨_,λi h=>h.IsKeyIter (zz9 s) d i es.size ep/\h.get? d=some o,(λE Q q=>qe lo e hx hd q),{
  sub:=λb hb=>by simp at hb;simp [hb]
  frame:=λ_ _ _ st hk=>⟨st.1.at λo e=>hk _ (by simp) o e,hk d (by simp) o st.2⟩
  item:=λi s' Q E hi st hQ=>kl st.1 st.2 hd hi λh' dY sb=>hQ _ h' s'.toks ⟨hi,rfl⟩ ⟨dY,(sb.2 d (zzb (zzO e))).trans st.2⟩ λb o hb z=>(sb.2 b (λy=>hb (by simp [y]))).trans z
  done:=λs' Q E st hQ=>uv hh st.1 st.2 hd (zzE _) λh' eb=>hQ h' s'.toks λb o hb z=>eb b o (λy=>hb (by simp [y])) z
  self:=λ_ _ _ _ st hQ=>wpAny_pyIter_keyiter st.1 hQ},⟨⟨_,zzX _ rfl,rfl,rfl⟩,zzB _ e⟩⟩
def rg{Q:List Value->Shared->Prop}{T:String}{r d:Addr}{n:Nat}{P:Nat->Value->Prop}{OK:Heap->Prop}(K:KdlSrc prog w T r d n P OK)(hh:A.handled=none)(aH:OK s.heap)(hn:n<=sizeLine)
 (hQ:∀h' tk (acc:Array Value),(∀b o,s.heap.get? b=some o->h'.get? b=some o)->ItemsOf P acc n->Q acc.toList {s with heap:=h',toks:=tk}):wpAny (model prog w) A (collect (.ref r)) Q E s:=by
 have hS:(s.heap.push (seqObj "list" #[] 0)).get? (zz9 s)=some {cls:=.type "list",data:=.seq #[] 0}:=zzX _ rfl
 have bB:=K.there _ aH
 have main:codeAny (model prog w) A (.builtin "proto.collect" ⟨[.ref r],[]⟩) (λres s'=>∃h' tk o9 c',res=.ok (.ret (.ref (zz9 s)))/\s'={s with heap:=h',toks:=tk}/\(∀b o,s.heap.get? b=some o->h'.get? b=some o)/\h'.get? (zz9 s)=some {cls:=.type "list",dict:=none,data:=.seq o9 c',slots:=#[]}/\ItemsOf P o9 n) s:=by
  refine codeAny_builtin F.entry_proto_collect ?_;rw [zz7 F.plain_proto_collect _];show wpAny _ A.in1 (newList []>>=λl=>again (.builtin "list.__iadd__" ⟨[l,.ref r],[]⟩)) _ _ s
  refine zzA (wpAny_newList (zzG ⟨plainId_quiet F.plain_list_iadd _,codeAny_builtin F.entry_list_iadd ?_⟩) (Nat.zero_le _));rw [zz7 F.plain_list_iadd _];exact kdl_extend (R:=λres s'=>∃h' tk o9 c',res=.ok (.ret (.ref (zz9 s)))/\s'={s with heap:=h',toks:=tk}/\(∀b o,s.heap.get? b=some o->h'.get? b=some o)/\h'.get? (zz9 s)=some {cls:=.type "list",dict:=none,data:=.seq o9 c',slots:=#[]}/\ItemsOf P o9 n)
   (s:={s with heap:=s.heap.push (seqObj "list" #[] 0)}) (A:=A) K hh (K.keep _ _ aH λb _ o e=>zzB _ e) _ (Nat.ne_of_gt bB.1) (Nat.ne_of_gt bB.2) (.ref (zz9 s)) 0 hS (λh' tk o9 c' hk qt NR=>⟨h',tk,o9,c',rfl,rfl,λb o e=>hk b o (zzb (zzO e)) (zzB _ e),qt,NR⟩) hn
 unfold collect;refine zzA (wpAny_runValue (codeAny_mono main λres s' hr=>?_));obtain⟨h',tk,o9,c',rfl,rfl,k1,k2,k3⟩:=hr
 show wpAny _ A (load (zz9 s)>>=λz=>_) _ _ _
 exact zzA (wpAny_load k2 (zzG (hQ h' tk o9 k1 k3)))
end
abbrev qi(K:zz8)(H:Hp)(vs:List V)(nss:List (List Int)):Prop:=Paired (λv ns=>∃b,v=V.ref b/\dI K H b (ns.map V.int)/\ns≠[]) vs nss
section
variable{X:Cx}{aa:List (Addr×Obj)}{σ:St}{H:Hp}{s:Shared}{vs:List V}{us:List Value}{nss:List (List Int)}{A:Around}{E:Value->Shared->Prop}{Q:VK}
def C0(I:Inv X aa σ H s):∀{vs:List V} {us:List Value} {nss:List (List Int)},Vals vs us->qi X.K H vs nss->mL s.heap us nss:=by
 intro vs us nss r t
 induction t generalizing us with
 |nil=>cases r;exact .nil
 |cons h t ih=>
  obtain⟨b,rfl,hq,iK⟩:=h
  cases r with
  |cons r1 r2=>
   cases(show _=Value.ref b from r1);obtain⟨ak,rv,⟨o,g1,g2,n,g3⟩,_⟩:=I.tuple hq
   exact .cons ⟨b,o,ak.toArray,n,rfl,g1,g2,g3,by simpa using rv,iK⟩ (ih r2)
def yx(r:Vals vs us):Vals (sF V.aK vs nss) (sF Value.none us nss):=by
 have hl:=r.length
 unfold sF;rw [hl];split
 ·exact r
 ·have go:∀l:List Nat,Vals (l.map λi=>vs.getD i V.aK) (l.map λi=>us.getD i Value.none):=by
   intro l
   induction l with
   |nil=>exact .nil
   |cons i l ih=>
    refine .cons ?_ ih;dsimp only
    by_cases hi:i<vs.length
    ·obtain⟨u,hu,ru⟩:=r.get (zzg hi)
     have e1:vs.getD i V.aK=vs[i]:=by simp [hi]
     have e2:us.getD i Value.none=u:=by simp [hu]
     rw [e1,e2];exact ru
    ·have e1:vs.getD i V.aK=.aK:=by simp [Nat.le_of_not_lt hi]
     have e2:us.getD i Value.none=.none:=by simp [Nat.le_of_not_lt (hl▸hi)]
     rw [e1,e2];exact rfl
  exact go _
def ET{α:Type}{d:α}{l:List α}:(sF d l nss).length=l.length:=by
 unfold sF;split
 ·rfl
 ·rename_i h;rw [zzl,(rJ (by omega) _).length_eq,List.length_range]
def mP(I:Inv X aa σ H s)(r:Vals vs us)(rd:2<=us.length->∀h',(∀b o,s.heap.get? b=some o->h'.get? b=some o)->Rl X.prog X.w A.in1 E us (λi j=>HT.lexLt (nss.getD i []) (nss.getD j [])) {s with heap:=h'})(F2:vs.length<64)(q:∀p,H p=none->Q (.ref p) (upd H p (.lst (sF V.aK vs nss)))):
 wpAny (model X.prog X.w) A (newList us>>=λl=>holding [l] (call (.builtin "list.sort") [l] [])>>=λ_=>ret l) (λfin s'=>∃v,fin=.done (.ret v)/\EP X aa σ Q v s') E s:=by
 have hl:=r.length
 refine zzA (wpAny_newList ?_ (by rw [sizeLine_eq];omega));have O6:(s.heap.push (seqObj "list" us.toArray 0)).get? (zz9 s)=some (seqObj "list" us.toArray 0):=zzX _ rfl
 have kp:∀b o,s.heap.get? b=some o->(s.heap.push (seqObj "list" us.toArray 0)).get? b=some o:=λb o e=>zzB _ e
 refine zzA (wpAny_holding (wpAny_call_entry slot_list_sort ⟨_,O6,rfl⟩ entry_list_sort ?_ (args_list_sort _)));refine yI (s:={s with heap:=s.heap.push (seqObj "list" us.toArray 0)}) O6 (by omega) (λh2 h' k=>rd h2 h' λb o e=>k b o (zzb (zzO e)) (kp b o e)) λh' c k e=>⟨_,rfl,zzG ⟨_,rfl,.ref (zz9 s),upd H (zz9 s) (.lst (sF V.aK vs nss)),?_,rfl,q _ (I.aH.fresh (zzE _))⟩⟩
 exact I.laid (a:=(zz9 s)) (t':=s.toks) (λb o z=>k b o (zzb (zzO z)) (kp b o z)) (zzE _) ⟨by rw [ET,sizeLine_eq];omega,_,c,yx r,e⟩
theorem rT(I:Inv X aa σ H s)(r:Vals vs us)(t:qi X.K H vs nss)(h2:2<=us.length)(h':Heap)(k:∀b o,s.heap.get? b=some o->h'.get? b=some o):Rl X.prog X.w A E us (λi j=>HT.lexLt (nss.getD i []) (nss.getD j [])) {s with heap:=h'}:=BR (s:={s with heap:=h'}) ((C0 I r t).keep λb o e _=>k b o e) h2
def pZ:bD X (.builtin "sorted") (λxs H Q=>∃a vs nss,xs=[V.ref a]/\df X.K H a vs/\qi X.K H vs nss/\vs.length<64/\∀p,H p=none->Q (.ref p) (upd H p (.lst (sF V.aK vs nss)))):=by
 intro aa s σ H xs us Q I r h;obtain⟨a,vs,nss,rfl,hl,t,F2,q⟩:=h
 obtain⟨u,rfl,ru⟩:=vals1 r
 cases ru;obtain⟨ak,rv,p,hz⟩:=I.list hl
 refine Calls.call_function_entry kind_sorted plain_sorted entry_sorted (args_sorted1 _) ?_;unfold Builtin.«sorted»;refine zzA (m:=checkCount "sorted" 1 1 _) (zzG (zzA (collect_list p.isList ?_ (by have:=rv.length;rw [sizeLine_eq];omega))));have I1:=I.kept (t':=s.toks) (h':=(s.heap.push (seqObj "list" #[] 0)).update (zz9 s) (Obj.mapSeq (·++ak.toArray))) λb o e=>by
  have bB:b<(zz9 s):=zzO e
  rw [Heap.get?_update_ne _ _ _ _ (zzb bB),Heap.get?_push_ne _ _ _ (zzb bB)];exact e
 exact mP I1 rv (rT I1 rv t) F2 q
def wF{d:Addr}{ax:List (List Key×V)}(I:Inv X aa σ H s)(e:Rd H d (.dT ax)):(d==sysModules)=false/\∃o es ep,s.heap.get? d=some o/\o.ExactDict/\o.data=.dict es ep/\es.size=ax.length/\∀(i:Nat) (h:i<es.size),∃b k v,es[i].key=.ref b/\ax[i]?=some (k,v)/\H b=some (.tup (k.map kV))/\RelV v es[i].val:=by
 have ok:bA X.prog X.w H s.heap d (.dT ax):=by
  rcases e with e|⟨o,e⟩
  ·exact I.aH d _ e
  ·exact(I.aH d _ e).2
 obtain⟨lo,_,r⟩:=BW ok
 exact⟨lo,r⟩
def Cy{d:Addr}{ax:List (List Key×V)}(I:Inv X aa σ H s)(e:Rd H d (.dT ax)):(d==sysModules)=false/\∃o es ep,s.heap.get? d=some o/\o.ExactDict/\o.data=.dict es ep/\es.size=ax.length/\∀(i:Nat) (h:i<es.size),∃b k v,es[i].key=.ref b/\ax[i]?=some (k,v)/\H b=some (.tup (k.map kV)):=by
 obtain⟨lo,o,es,ep,h1,h2,h3,hl,hk⟩:=wF I e
 exact⟨lo,o,es,ep,h1,h2,h3,hl,λi hi=>let⟨b,k,v,e1,e2,e3,_⟩:=hk i hi;⟨b,k,v,e1,e2,e3⟩⟩
def yM(I:Inv X aa σ H s){a:Addr}{ax:List (List Key×V)}{nss:List (List Int)}{es:Array DictEntry}{acc:Array Value}(hk:ax.map (·.1)=nss.map (·.map .inl))(qW:es.size=ax.length)(uR:∀(i:Nat) (h:i<es.size),∃b k v,es[i].key=.ref b/\ax[i]?=some (k,v)/\H b=some (.tup (k.map kV)))(it:ItemsOf (λi v=>∃h:i<es.size,v=es[i].key) acc es.size):∃vs:List V,Vals vs acc.toList/\Paired (λv ns=>∃b,v=V.ref b/\H b=some (.tup (ns.map V.int))) vs nss:=by
 have hn:nss.length=ax.length:=by have:=congrArg List.length hk;simpa using this.symm
 have hs:acc.toList.length=nss.length:=by rw [zzd,it.1];omega
 have ev:∀(i:Nat) v ns,acc.toList[i]?=some v->nss[i]?=some ns->∃b,v=.ref b/\H b=some (.tup (ns.map V.int)):=λi v ns e1 e2=>by
  obtain⟨hi,ev⟩:=it.2 i v (by rw [<-Array.getElem?_toList];exact e1)
  obtain⟨b,k,x,g1,g2,g3⟩:=uR i hi
  refine⟨b,ev.trans g1,?_⟩;have Kh:k=ns.map .inl:=by
   have:=congrArg (λl=>l[i]?) hk
   simp! [zzQ,g2,e2,Option.map_some] at this;exact zzq this
  rw [g3,Kh,List.map_map]
  rfl
 clear it uR hk I
 generalize acc.toList=us at hs ev
 clear hn
 induction nss generalizing us with
 |nil=>cases us with
  |nil=>exact⟨[],.nil,.nil⟩
  |cons u us=>simp at hs
 |cons ns nss ih=>
  cases us with
  |nil=>simp at hs
  |cons u us=>
   obtain⟨vs,h1,h2⟩:=ih us (by simpa using hs) λi v ns e1 e2=>ev (i+1) v ns (by simpa using e1) (by simpa using e2)
   obtain⟨b,rfl,hb⟩:=ev 0 u ns rfl rfl
   exact⟨.ref b::vs,.cons rfl h1,.cons ⟨b,rfl,hb⟩ h2⟩
def pz(hc:X.calm=true):bD X (.builtin "sorted") (λxs H Q=>∃a ax nss,xs=[V.ref a]/\Rd H a (.dT ax)/\ax.map (·.1)=nss.map (·.map .inl)/\(∀ns∈nss,ns≠[])/\ax.length<64/\
 ∀p vs,H p=none->Paired (λv ns=>∃b,v=V.ref b/\H b=some (.tup (ns.map V.int))) vs nss->Q (.ref p) (upd H p (.lst (sF V.aK vs nss)))):=by
 intro aa s σ H xs us Q I r h;obtain⟨a,ax,nss,rfl,hl,hk,iK,F2,q⟩:=h
 obtain⟨u,rfl,ru⟩:=vals1 r
 cases ru;obtain⟨lo,o,es,ep,h0,hx,h3,qW,uR⟩:=Cy I hl
 refine Calls.call_function_entry kind_sorted plain_sorted entry_sorted (args_sorted1 _) ?_;unfold Builtin.«sorted»;refine zzA (m:=checkCount "sorted" 1 1 _) (zzG (zzA (rg (zP lo hx h3) (show X.A.in1.handled=none from I.ok.hd hc) h0 (by rw [sizeLine_eq];omega) λh' tk acc kp it=>?_)))
 have I1:=I.kept (t':=tk) (h':=h') kp
 obtain⟨vs,rv,pv⟩:=yM I1 (a:=a) hk qW uR it
 have hlen:vs.length<64:=by have:=Paired.length pv;have h9:=congrArg List.length hk;simp at h9;omega
 refine mP I1 rv (rT I1 rv ?_) hlen λp hp=>q p vs hp pv
 clear hlen rv hk F2 q
 induction pv with
 |nil=>exact .nil
 |cons h t ih=>
  obtain⟨b,rfl,hb⟩:=h
  exact .cons ⟨b,rfl,.inl (.inl hb),iK _ (.head _)⟩ (ih λns hm=>iK ns (.tail _ hm))
end
end L2
namespace L2
open PySem PySem.Spec PyProof.Rows
def dM(ns:List Int):Nat->Int
 |0=>ns.getD 0 0
 |k+1=>if dM ns k<ns.getD (k+1) 0 then ns.getD (k+1) 0 else dM ns k
section
variable{X:Cx}
def range_any(bs:List Bool):(List.range bs.length).any (λi=>(bs[i]?).getD true)=bs.any id:=by
 rw [Bool.eq_iff_iff,zzj,zzj]
 constructor
 ·rintro ⟨i,hi,h⟩
  have hi:=List.mem_range.1 hi
  rw [zzg hi] at h;exact⟨_,List.getElem_mem hi,h⟩
 ·rintro ⟨b,hb,h⟩
  obtain⟨i,hi,e⟩:=List.getElem_of_mem hb
  exact⟨i,List.mem_range.2 hi,by rw [zzg hi,e];exact h⟩
def yQ(hc:X.calm=true):bD X (.builtin "any") (λxs H Q=>∃(p:Addr) (bs:List Bool),xs=[.ref p]/\df X.K H p (bs.map V.bl)/\Q (.bl (bs.any id)) H):=by
 intro aa s σ H xs us Q I r h;obtain⟨p,bs,rfl,hp,q⟩:=h
 obtain⟨u,rfl,ru⟩:=vals1 r
 cases ru;obtain⟨ak,rv,pl,hz⟩:=I.list hp
 have bB:p<(zz9 s):=by obtain⟨_,e,_⟩:=pl.isList;exact zzO e
 have hlen:ak.length=bs.length:=by rw [<-rv.length,zzl]
 refine call_any_walk (wpAny_pyIter_list pl.isList ?_);refine⟨(zz9 s),_,_,ak.toArray.size,_,_,λi=>(bs[i]?).getD true,rfl,Walks.list (A:=X.A.in1) (I.ok.hd hc) (zz9 s) p (zzb bB) ak.toArray,⟨⟨_,zzX _ rfl,rfl,rfl⟩,pl.isList.push _⟩,λi v s2 Q2 E2 hP hQ=>?_,λh' tk hk=>?_⟩
 ·have hv:ak[i]?=some v:=by simpa using hP
  have hi:i<bs.length:=by rw [<-hlen];exact(zzH.mp hv).1
  obtain⟨u,hu,ru⟩:=rv.get (i:=i) (x:=V.bl bs[i]) (by rw [zzQ,zzg hi];rfl)
  rw [hv] at hu;cases hu;have e:v=Value.bool bs[i]:=ru
  rw [e];have q2:Q2 ((bs[i]?).getD true) s2:=hQ
  rw [zzg hi,Option.getD_some] at q2;exact wpAny_truthy_bool q2
 ·rw [zzC,hlen,range_any];exact⟨.bl (bs.any id),H,I.kept λb o e=>hk b o (by simp;exact zzb (zzO e)) (zzB _ e),rfl,q⟩
end
def maxD(ns:List Int)(d:Int):Int:=if ns=[] then d else dM ns (ns.length-1)
def wt(a v:Value):argsOk "max" ⟨[a],[(Str.ofString "default",v)]⟩:=by unfold argsOk;kernel_rfl
section
variable{prog:Program}{w:World}{A:Around}{it l S:Addr}{ns:List Int}{ak:List Value}{dv:Value}{R:Result->Shared->Prop}
def wL(hh:A.handled=none)(n1:S≠it)(n2:l≠it)(n3:l≠S)(hv:∀i (h:i<ns.length),∃t,ak[i]?=some (.int ns[i] t))(FG:ak.length=ns.length){s0:Shared}
 (hR:∀t h' tk,(∀b o,b≠it->b≠S->s0.heap.get? b=some o->h'.get? b=some o)->R (.ok (.ret (.int (dM ns (ns.length-1)) t))) {s0 with heap:=h',toks:=tk}):
 ∀(r j:Nat) (h:Heap) (tk:Nat) (t:Tok) (c:Nat),ns.length-(j+1)=r->j+1<=ns.length->(∀b o,b≠it->b≠S->s0.heap.get? b=some o->h.get? b=some o)->h.IsListIter it l (j+1)->h.IsList l ak.toArray->h.get? S=some (seqObj "list" #[.int (dM ns j) t,.int (dM ns j) t] c)->
  codeAny (model prog w) A (.builtin "max.loop" ⟨[.ref it,.none,.ref S],[(Str.ofString "default",dv)]⟩) R {s0 with heap:=h,toks:=tk}:=by
 have name:(toString "max"++toString ".loop":String)="max.loop":=by decide
 intro r
 induction r with
 |zero=>
  intro j h tk t c hr hj kk st hl hS;refine codeAny_builtin PySem.F.entry_max_loop ?_;rw [zz7 PySem.F.plain_max_loop _];show wpAny _ A.in1 (seqItems? (.ref S)>>=λz=>_) _ _ _
  refine zzA (wpAny_seqItems hS rfl ?_);show wpAny _ A.in1 (tryCatch (pyNext (.ref it)) _>>=λz=>_) _ _ _
  refine zzA (wpAny_tryCatch (wpAny_pyNext_list_end hh st hl (by simp;omega) λh' eb=>?_))
  have qt:=eb S _ n1 hS
  show wpAny _ A.in1 (updateSeq S (λ_=>#[])>>=λz=>_) _ _ _
  refine zzA (wpAny_updateSeq qt rfl (zzA (wpAny_letGo (zzG ?_))));have s1:=zzu h' S (Obj.mapSeq λ_=>(#[]:Array Value))
  have e:j=ns.length-1:=by omega
  rw [e];exact hR t _ tk λb o b1 b2 q=>(s1.2 b b2).trans (eb b o b1 (kk b o b1 b2 q))
 |succ r ih=>
  intro j h tk t c hr hj kk st hl hS;have bB:j+1<ns.length:=by omega
  obtain⟨t2,ht2⟩:=hv (j+1) bB
  refine codeAny_builtin PySem.F.entry_max_loop ?_;rw [zz7 PySem.F.plain_max_loop _];show wpAny _ A.in1 (seqItems? (.ref S)>>=λz=>_) _ _ _
  refine zzA (wpAny_seqItems hS rfl ?_);show wpAny _ A.in1 (tryCatch (pyNext (.ref it)) _>>=λz=>_) _ _ _
  refine zzA (wpAny_tryCatch (wpAny_pyNext_list_item st hl (x:=.int ns[j+1] t2) (by simpa using ht2) λh' dY sb=>?_))
  have qt:=(sb.2 S n1).trans hS
  have qW:h'.IsList l ak.toArray:=hl.at λo q=>(sb.2 l n2).trans q
  have Vl:∀b o,b≠it->b≠S->s0.heap.get? b=some o->h'.get? b=some o:=λb o b1 b2 q=>(sb.2 b b1).trans (kk b o b1 b2 q)
  refine zzA (zzG ?_);show wpAny _ A.in1 (tryCatch (holding [Value.int ns[j+1] t2,.int ns[j+1] t2] (richCompare .Gt (.int ns[j+1] t2) (.int (dM ns j) t)>>=λz=>_)) _>>=λz=>_) _ _ _
  let cf:Nat->Int:=λk=>if k=0 then dM ns j else ns[j+1]
  refine zzA (wpAny_tryCatch (wpAny_holding (zzA (CmpOf.ints_gt (prog:=prog) (w:=w) (A:=A.in1) (P:=λi v=>∃t,v=.int (cf i) t) cf (λi v h=>h) 1 0 _ _ _ _ _ ⟨t2,rfl⟩ ⟨t,rfl⟩ ?_))))
  refine zzA (wpAny_holding (wpAny_truthy_bool (zzA (wpAny_letGo (zzG ?_)))));have Sd:dM ns (j+1)=if dM ns j<ns[j+1] then ns[j+1] else dM ns j:=by
   rw [dM,zzK,zzg bB]
   rfl
  by_cases hb:dM ns j<ns[j+1]
  ·rw [if_pos hb] at Sd;obtain⟨c2,hc2⟩:=kL (ys:=#[Value.int ns[j+1] t2,.int ns[j+1] t2]) qt
   have s1:=zzu h' S (Obj.mapSeq λ_=>#[Value.int ns[j+1] t2,.int ns[j+1] t2])
   have hd:decide (cf 1>cf 0)=true:=zzh hb
   simp! [hd,if_true];refine zzA (wpAny_updateSeq qt rfl (zzA (wpAny_letGo ?_)));rw [name];refine zzG ⟨plainId_quiet PySem.F.plain_max_loop _,ih (j+1) _ tk t2 c2 (by omega) bB (λb o b1 b2 q=>(s1.2 b b2).trans (Vl b o b1 b2 q)) ?_ ?_ (by rw [Sd];exact hc2)⟩
   ·exact dY.at λo q=>(s1.2 it (Ne.symm n1)).trans q
   ·exact qW.at λo q=>(s1.2 l n3).trans q
  ·rw [if_neg hb] at Sd;have hd:decide (cf 1>cf 0)=false:=zz0 hb
   simp! [hd,zze,if_false];refine zzA (wpAny_letGo ?_);rw [name];exact zzG ⟨plainId_quiet PySem.F.plain_max_loop _,ih (j+1) _ tk t c (by omega) bB Vl dY qW (by rw [Sd];exact qt)⟩
end
def wx{X:Cx}(hc:X.calm=true){aa:List (Addr×Obj)}{s:Shared}{σ:St}{H:Hp}{p:Addr}{ns:List Int}{d:Int}{t0:Tok}{Q:VK}(I:Inv X aa σ H s)(hp:df X.K H p (ns.map V.int))(q:Q (.int (maxD ns d)) H):
 wpAny (model X.prog X.w) X.A (call (.builtin "max") [.ref p] [(Str.ofString "default",.int d t0)]) (EP X aa σ Q) X.xe s:=by
 have name:(toString "max"++toString ".loop":String)="max.loop":=by decide
 have hh:X.A.handled=none:=I.ok.hd hc
 obtain⟨ak,rv,pl,hz⟩:=I.list hp
 have bB:p<(zz9 s):=by obtain⟨_,e,_⟩:=pl.isList;exact zzO e
 have hlen:ak.length=ns.length:=by rw [<-rv.length,zzl]
 have Pe:∀i (h:i<ns.length),∃t,ak[i]?=some (.int ns[i] t):=λi hi=>by
  obtain⟨u,hu,t,ru⟩:=rv.get (i:=i) (x:=V.int ns[i]) (by rw [zzQ,zzg hi];rfl)
  exact⟨t,by rw [hu,ru]⟩
 refine kmk_tree PySem.F.kind_max PySem.F.plain_max PySem.F.entry_max (wt _ _) ?_;show wpAny _ X.A.in1 (Builtin.Builtins.bindParams "max" ["key","default"] 0 ⟨[],[(Str.ofString "default",.int d t0)]⟩>>=λz=>_) _ _ s
 refine zzA (wpAny_of_eq (show Builtin.Builtins.bindParams "max" ["key","default"] 0 ⟨[],[(Str.ofString "default",.int d t0)]⟩=pure [none,some (.int d t0)] from rfl) (zzA (zzG ?_)));refine zzA (wpAny_pyIter_list pl.isList (zzA (wpAny_newList ?_ (Nat.zero_le _))));rw [name];generalize hit:(zz9 s)=it
 generalize hSS:(s.heap.push {cls:=.type "list_iterator",data:=.fields #[.ref p,.int 0 0]}).objs.size=S
 have eS:S=it+1:=by rw [<-hSS,<-hit];exact size_push' ..
 have nS:S≠it:=by omega
 have np:p≠it:=by rw [<-hit];exact zzb bB
 have Wl:p≠S:=by rw [eS,<-hit];exact zzb (Nat.lt_succ_of_lt bB)
 have keep:∀b ob,s.heap.get? b=some ob->((s.heap.push {cls:=.type "list_iterator",data:=.fields #[.ref p,.int 0 0]}).push (seqObj "list" #[] 0)).get? b=some ob:=λb ob e=>zzB _ (zzB _ e)
 have gI:((s.heap.push {cls:=.type "list_iterator",data:=.fields #[.ref p,.int 0 0]}).push (seqObj "list" #[] 0)).IsListIter it p 0:=by
  rw [<-hit];exact⟨_,zzB _ (zzX _ rfl),rfl,rfl⟩
 have gS:((s.heap.push {cls:=.type "list_iterator",data:=.fields #[.ref p,.int 0 0]}).push (seqObj "list" #[] 0)).get? S=some (seqObj "list" #[] 0):=by
  rw [<-hSS];exact zzX _ rfl
 have gl:((s.heap.push {cls:=.type "list_iterator",data:=.fields #[.ref p,.int 0 0]}).push (seqObj "list" #[] 0)).IsList p ak.toArray:=pl.isList.at λo e=>keep _ _ e
 generalize hg:((s.heap.push {cls:=.type "list_iterator",data:=.fields #[.ref p,.int 0 0]}).push (seqObj "list" #[] 0))=g at keep gI gS gl
 have nH:∀b o,s.heap.get? b=some o->b≠it/\b≠S:=λb o e=>by
  have:=zzO e
  rw [hit] at this;exact⟨zzb this,by rw [eS];exact zzb (Nat.lt_succ_of_lt this)⟩
 have fin:∀(z:Int) (t:Tok) (h':Heap) (tk:Nat),z=maxD ns d->(∀b o,b≠it->b≠S->g.get? b=some o->h'.get? b=some o)->EP X aa σ Q (.int z t) {s with heap:=h',toks:=tk}:=λz t h' tk Yq kk=>by
  rw [Yq];exact⟨.int _,H,I.kept λb o e=>kk b o (nH b o e).1 (nH b o e).2 (keep b o e),⟨_,rfl⟩,q⟩
 refine zzG ⟨plainId_quiet PySem.F.plain_max_loop _,codeAny_builtin PySem.F.entry_max_loop ?_⟩;rw [zz7 PySem.F.plain_max_loop _];show wpAny _ X.A.in1 (seqItems? (.ref S)>>=λz=>_) _ _ _
 refine zzA (wpAny_seqItems gS rfl ?_);show wpAny _ X.A.in1 (tryCatch (pyNext (.ref it)) _>>=λz=>_) _ _ _
 by_cases hn:ns=[]
 ·refine zzA (wpAny_tryCatch (wpAny_pyNext_list_end hh gI gl (by simp [hlen,hn]) λh' eb=>?_))
  refine zzA (wpAny_rule (zzG ?_));exact fin d t0 h' s.toks (by unfold maxD;rw [if_pos hn]) λb o b1 b2 e=>eb b o b1 e
 ·have h0:0<ns.length:=List.length_pos_iff.2 hn
  obtain⟨t,ht⟩:=Pe 0 h0
  refine zzA (wpAny_tryCatch (wpAny_pyNext_list_item gI gl (x:=.int ns[0] t) (by simpa using ht) λh' dY sb=>?_))
  have qt:=(sb.2 S nS).trans gS
  refine zzA (zzG ?_);obtain⟨c2,hc2⟩:=kL (ys:=#[Value.int ns[0] t,.int ns[0] t]) qt
  have s1:=zzu h' S (Obj.mapSeq λ_=>#[Value.int ns[0] t,.int ns[0] t])
  show wpAny _ X.A.in1 (updateSeq S (λ_=>#[Value.int ns[0] t,.int ns[0] t])>>=λz=>_) _ _ _
  refine zzA (wpAny_updateSeq qt rfl ?_);rw [name];have m0:dM ns 0=ns[0]:=by rw [dM,zzK,zzg h0];rfl
  refine zzG ⟨plainId_quiet PySem.F.plain_max_loop _,wL (s0:={s with heap:=g}) hh nS np Wl Pe hlen (λt h' tk kk=>fin _ t h' tk (by unfold maxD;rw [if_neg hn]) kk) _ 0 _ s.toks t c2 rfl h0 (λb o b1 b2 e=>(s1.2 b b2).trans ((sb.2 b b1).trans e)) (dY.at λo q=>(s1.2 it (Ne.symm nS)).trans q) ((gl.at λo q=>(sb.2 p np).trans q).at λo q=>(s1.2 p Wl).trans q) (by rw [m0];exact hc2)⟩
end L2
namespace Ci
open PySem L2
def aM{p:Prop}(h:false=true):p:=absurd h zzf
inductive PV where
 |aK|bl (b:Bool)|int (i:Int)|str (z:Str)
 |tup (xs:List PV)|lst (xs:List PV)
 |exc (c:Str)
 |bM (ks:List (List Int)) (vs:List PV)
 deriving Inhabited
structure Wd where
 K:zz8
 mg:Str->Option Value
 xs:List Str
 ts:List (Addr×Str):=[]
def nB(K:zz8)(H:Hp)(a:Addr)(vs:List V):Prop:=
 Rd H a (.lst vs)\/∃(ak:Array Value) (n:Nat),K.lookup a=some {cls:=.type "list",data:=.seq ak n}/\ak.size<=sizeLine/\Vals vs ak.toList
def OJ(K:zz8)(G:Hp)(a:Addr)(vs:List V):Prop:=G a=some (.tup vs)\/dI K G a vs/\∃z,V.str z∈vs
theorem OJ.sq{K:zz8}{G:Hp}{a:Addr}{vs:List V}:OJ K G a vs->dI K G a vs
 |.inl h=>.inl (.inl h)
 |.inr h=>h.1
def kz(ks:List (List Int))(us:List V):List (List Key×V):=(ks.map λk=>k.map Sum.inl).zip us
mutual
def Rep(W:Wd)(G:Hp):PV->V->Prop
 |.aK,v=>v=.aK
 |.bl b,v=>v=.bl b
 |.int i,v=>v=.int i
 |.str z,v=>v=.str z
 |.tup xs,v=>∃a vs,v=.ref a/\OJ W.K G a vs/\ai W G xs vs
 |.lst xs,v=>∃a vs,v=.ref a/\nB W.K G a vs/\ai W G xs vs
 |.exc c,v=>∃a C,v=.ref a/\c∈W.xs/\W.mg c=some (.ref C)/\G a=some (iM a C)
 |.bM ks vs,v=>∃a o us,v=.ref a/\ks.length=us.length/\G a=some (.bt o (.dT (kz ks us)))/\ai W G vs us
def ai(W:Wd)(G:Hp):List PV->List V->Prop
 |[],vs=>vs=[]
 |p::ps,vs=>∃v r,vs=v::r/\Rep W G p v/\ai W G ps r
end
def az.tup{K:zz8}{H H':Hp}{a:Addr}{xs:List V}(e:az H H')(h:dI K H a xs):dI K H' a xs:=by
 rcases h with(h|⟨o,h⟩)|h
 ·exact .inl (.inl (e _ _ h))
 ·exact .inl (.inr ⟨o,e _ _ h⟩)
 ·exact .inr h
def az.tp{K:zz8}{H H':Hp}{a:Addr}{xs:List V}(e:az H H')(h:OJ K H a xs):OJ K H' a xs:=h.elim (λz=>.inl (e _ _ z)) λz=>.inr ⟨az.tup e z.1,z.2⟩
def az.rd{H H':Hp}{a:Addr}{u:HO}(e:az H H')(h:Rd H a u):Rd H' a u:=by
 rcases h with h|⟨o,h⟩
 ·exact .inl (e _ _ h)
 ·exact .inr ⟨o,e _ _ h⟩
def az.ls{K:zz8}{H H':Hp}{a:Addr}{vs:List V}(e:az H H')(h:nB K H a vs):nB K H' a vs:=h.elim (λz=>.inl (az.rd e z)) .inr
section
variable{W:Wd}{G G':Hp}
mutual
theorem Rep.same(s:az G G'):∀(p:PV) {v:V},Rep W G p v->Rep W G' p v
 |.aK,_,h=>by simpa only [Rep] using h
 |.bl b,_,h=>by simpa only [Rep] using h
 |.int i,_,h=>by simpa only [Rep] using h
 |.str z,_,h=>by simpa only [Rep] using h
 |.tup xs,_,h=>by
  simp! [Rep] at h⊢;obtain⟨a,vs,e,q,l⟩:=h
  exact⟨a,vs,e,az.tp s q,ai.same s xs l⟩
 |.lst xs,_,h=>by
  simp! [Rep] at h⊢;obtain⟨a,vs,e,q,l⟩:=h
  exact⟨a,vs,e,az.ls s q,ai.same s xs l⟩
 |.exc c,_,h=>by
  simp! [Rep] at h⊢;obtain⟨a,C,e,x,m,q⟩:=h
  exact⟨a,C,e,x,m,s _ _ q⟩
 |.bM ks vs,_,h=>by
  simp! [Rep] at h⊢;obtain⟨a,o,us,e,n,m,l⟩:=h
  exact⟨a,o,us,e,n,s _ _ m,ai.same s vs l⟩
theorem ai.same(s:az G G'):∀(ps:List PV) {vs:List V},ai W G ps vs->ai W G' ps vs
 |[],_,h=>by simpa only [ai] using h
 |p::ps,_,h=>by
  simp! [ai] at h⊢;obtain⟨v,r,e,h1,h2⟩:=h
  exact⟨v,r,e,Rep.same s p h1,ai.same s ps h2⟩
end
theorem ai.paired:∀{ps:List PV} {vs:List V},ai W G ps vs->Paired (λv p=>Rep W G p v) vs ps
 |[],_,h=>by simp! [ai] at h;subst h;exact .nil
 |p::ps,_,h=>by
  simp! [ai] at h;obtain⟨v,r,rfl,h1,h2⟩:=h
  exact .cons h1 (ai.paired h2)
def ai.length{ps:List PV}{vs:List V}(h:ai W G ps vs):vs.length=ps.length:=mB h.paired
def ai.nil:ai W G [] []:=by simp! [ai]
def ai.cons{p:PV}{v:V}{ps:List PV}{vs:List V}(h:Rep W G p v)(t:ai W G ps vs):ai W G (p::ps) (v::vs):=by simp! [ai];exact⟨_,_,rfl,h,t⟩
def ai.aF{p:PV}{ps:List PV}{vs:List V}(h:ai W G (p::ps) vs):∃v r,vs=v::r/\Rep W G p v/\ai W G ps r:=by simpa only [ai] using h
theorem ai.append:∀{ps qs:List PV} {vs us:List V},ai W G ps vs->ai W G qs us->ai W G (ps++qs) (vs++us)
 |[],_,_,_,h,k=>by simp! [ai] at h;subst h;exact k
 |p::ps,_,_,_,h,k=>by
  obtain⟨v,r,rfl,h1,h2⟩:=h.aF
  exact .cons h1 (h2.append k)
def ai.get:∀{ps:List PV} {vs:List V} {i:Nat} {v:V},ai W G ps vs->vs[i]?=some v->∃p,ps[i]?=some p/\Rep W G p v:=λh e=>n9 h.paired e
theorem ai.mR:∀{ps:List PV} {vs:List V} {i:Nat} {p:PV},ai W G ps vs->ps[i]?=some p->∃v,vs[i]?=some v/\Rep W G p v
 |[],_,_,_,_,e=>by simp at e
 |p::ps,_,0,q,h,e=>by
  obtain⟨v,r,rfl,h1,h2⟩:=h.aF
  simp at e;subst e;exact⟨v,rfl,h1⟩
 |p::ps,_,i+1,q,h,e=>by
  obtain⟨v,r,rfl,h1,h2⟩:=h.aF
  obtain⟨u,e1,k⟩:=h2.mR (i:=i) (by simpa using e)
  exact⟨u,by simpa using e1,k⟩
theorem ai.drop:∀{ps:List PV} {vs:List V} (n:Nat),ai W G ps vs->ai W G (ps.drop n) (vs.drop n)
 |_,_,0,h=>by simpa using h
 |[],_,n+1,h=>by simp! [ai] at h;subst h;simp! [List.drop_nil];exact .nil
 |p::ps,_,n+1,h=>by
  obtain⟨v,r,rfl,h1,h2⟩:=h.aF
  simpa using h2.drop n
theorem ai.take:∀{ps:List PV} {vs:List V} (n:Nat),ai W G ps vs->ai W G (ps.take n) (vs.take n)
 |_,_,0,h=>by simp! [List.take_zero];exact .nil
 |[],_,n+1,h=>by simp! [ai] at h;subst h;simp! [List.take_nil];exact .nil
 |p::ps,_,n+1,h=>by
  obtain⟨v,r,rfl,h1,h2⟩:=h.aF
  simp! [List.take_succ_cons];exact .cons h1 (h2.take n)
theorem ai.set:∀{ps:List PV} {vs:List V} {p:PV} {v:V} (n:Nat),ai W G ps vs->Rep W G p v->ai W G (ps.set n p) (vs.set n v)
 |[],_,_,_,_,h,_=>by simp! [ai] at h;subst h;simp! [List.set_nil];exact .nil
 |q::ps,_,p,v,0,h,k=>by
  obtain⟨u,r,rfl,h1,h2⟩:=h.aF
  simp! [List.set_cons_zero];exact .cons k h2
 |q::ps,_,p,v,n+1,h,k=>by
  obtain⟨u,r,rfl,h1,h2⟩:=h.aF
  simp! [List.set_cons_succ];exact .cons h1 (h2.set n k)
end
def fM(H H':Hp):Prop:=∀b o,H b=some o->(∀ps,o≠.fC ps)/\H' b=some o\/∃ps m,o=.fC ps/\H' b=some (.fC (ps++m))
def fM.refl(H:Hp):fM H H:=λb o h=>by
 cases o with
 |fC ps=>exact .inr ⟨ps,#[],rfl,by simpa using h⟩
 |_=>exact .inl ⟨(λ_ z=>nomatch z),h⟩
def fM.trans{H H1 H2:Hp}(a:fM H H1)(b:fM H1 H2):fM H H2:=λc o h=>by
 rcases a c o h with⟨n,e⟩|⟨ps,m,rfl,e⟩
 ·rcases b c o e with y|⟨ps,m,rfl,e2⟩
  ·exact .inl y
  ·exact absurd rfl (n ps)
 ·rcases b c _ e with⟨n,_⟩|⟨qw,m',e2,e3⟩
  ·exact absurd rfl (n _)
  ·cases e2;exact .inr ⟨ps,m++m',rfl,by rw [e3,Array.append_assoc]⟩
def fM.free{H H':Hp}(e:fM H H'){l:Addr}(h:H' l=Option.none):H l=Option.none:=by
 cases q:H l with
 |none=>rfl
 |some o=>
  rcases e l o q with⟨_,z⟩|⟨_,_,_,z⟩
  ·rw [h] at z;cases z
  ·rw [h] at z;cases z
def fM.at{H H':Hp}(e:fM H H'){b:Addr}{o:HO}(h:H b=some o)(n:∀ps,o≠.fC ps):H' b=some o:=by
 rcases e b o h with⟨_,z⟩|⟨ps,_,rfl,_⟩
 ·exact z
 ·exact absurd rfl (n ps)
def fM.rP{H H':Hp}(e:fM H H'){b:Addr}(h:H b≠none)(n:∀vs,H b≠some (.tup vs)):∀vs,H' b≠some (.tup vs):=λvs z=>by
 cases q:H b with
 |none=>exact h q
 |some o=>
  rcases e b o q with⟨_,y⟩|⟨_,_,_,y⟩
  ·rw [z] at y;cases y;exact n vs q
  ·rw [z] at y;cases y
def fM.of{H H':Hp}(e:az H H'):fM H H':=λb o h=>by
 cases o with
 |fC ps=>exact .inr ⟨ps,#[],rfl,by simpa using e _ _ h⟩
 |_=>exact .inl ⟨(λ_ z=>nomatch z),e _ _ h⟩
def fM.tup{K:zz8}{H H':Hp}{a:Addr}{xs:List V}(e:fM H H')(h:dI K H a xs):dI K H' a xs:=by
 rcases h with(h|⟨o,h⟩)|h
 ·exact .inl (.inl (e.at h (λ_ z=>nomatch z)))
 ·exact .inl (.inr ⟨o,e.at h (λ_ z=>nomatch z)⟩)
 ·exact .inr h
def fM.ls{K:zz8}{H H':Hp}{a:Addr}{vs:List V}(e:fM H H')(h:nB K H a vs):nB K H' a vs:=by
 rcases h with(h|⟨o,h⟩)|h
 ·exact .inl (.inl (e.at h (λ_ z=>nomatch z)))
 ·exact .inl (.inr ⟨o,e.at h (λ_ z=>nomatch z)⟩)
 ·exact .inr h
theorem fM.upd{H H':Hp}{a:Addr}{o:HO}(e:fM H H')(h:H a=none):fM H (upd H' a o):=λb u q=>by
 have hb:b≠a:=λz=>by rw [z,h] at q;cases q
 rw [ag hb];exact e b u q
def bL(W:Wd)(G H:Hp):Prop:=∀P q,(P,q)∈W.ts->G P=none/\∃ps,H P=some (.fC ps)/\TriplesOk ps.toList/\
 ∀pos cv,codeAmong pos ps.toList=some cv->∃c' oc cq t,cv=.ref c'/\G c'=some (.bt oc bz)/\oc.data=.fields cq/\cq[1]?=some (.str q t)
theorem bL.same{W:Wd}{G G' H H':Hp}(t:bL W G H)(g:az G G')(own:∀a,H a≠none->(∀vs,H a≠some (.tup vs))->G a=none->G' a=none)(h:∀P ps,H P=some (.fC ps)->H' P=some (.fC ps)):bL W G' H':=λP q m=>by
 obtain⟨n,ps,e,tr,al⟩:=t P q m
 refine⟨own P (by rw [e];exact λz=>nomatch z) (by rw [e];exact λ_ z=>nomatch z) n,ps,h P ps e,tr,λpos cv y=>?_⟩
 obtain⟨c',oc,cq,t,e1,e2,e3,e4⟩:=al pos cv y
 exact⟨c',oc,cq,t,e1,g _ _ e2,e3,e4⟩
structure aD(W:Wd)(G H G' H':Hp):Prop where
 g:az G G'
 h:fM H H'
 sub:az G' H'
 own:∀a,H a≠none->(∀vs,H a≠some (.tup vs))->G a=none->G' a=none
 tab:bL W G H->bL W G' H'
section
variable{W:Wd}
def aD.refl{G H:Hp}(s:az G H):aD W G H G H:=⟨az.refl _,fM.refl _,s,λ_ _ _ h=>h,id⟩
def aD.trans{G H G1 H1 G2 H2:Hp}(a:aD W G H G1 H1)(b:aD W G1 H1 G2 H2):aD W G H G2 H2:=
 ⟨a.g.trans b.g,a.h.trans b.h,b.sub,λx hx ht hg=>b.own x (λz=>hx (a.h.free z)) (a.h.rP hx ht) (a.own x hx ht hg),λt=>b.tab (a.tab t)⟩
def kh{H:Hp}{p:Addr}{o:HO}(h:∀ps,H p≠some (.fC ps))(P:Addr)(ps:Array Value)(e:H P=some (.fC ps)):upd H p o P=some (.fC ps):=by
 rw [ag (λz=>by subst z;exact h ps e)];exact e
theorem aD.new{G H:Hp}{p:Addr}{o:HO}(s:az G H)(h:H p=none):aD W G H (upd G p o) (upd H p o) where
 g:=aY (s.free h)
 h:=.of (aY h)
 sub:=λb u e=>by
  by_cases hb:b=p
  ·subst hb;rw [aj] at e⊢;exact e
  ·rw [ag hb] at e⊢;exact s _ _ e
 own:=λa ha _ hg=>by
  have:a≠p:=λz=>by subst z;exact ha h
  rw [ag this];exact hg
 tab:=λt=>t.same (aY (s.free h)) (λa ha _ hg=>by
  have:a≠p:=λz=>by subst z;exact ha h
  rw [ag this];exact hg) (kh (λps z=>by rw [h] at z;cases z))
def aD.adopt{G H:Hp}{b:Addr}{vs:List V}(s:az G H)(h:H b=some (.tup vs)):aD W G H (upd G b (.tup vs)) H:=by
 have sm:az G (upd G b (.tup vs)):=λc u e=>by
  by_cases hc:c=b
  ·subst hc;rw [aj];have:=s _ _ e;rw [h] at this;exact this
  ·rw [ag hc];exact e
 have ow:∀a,H a≠none->(∀vs,H a≠some (.tup vs))->G a=none->upd G b (.tup vs) a=none:=λa _ n e=>by
  have:a≠b:=λz=>by subst z;exact n vs h
  rw [ag this];exact e
 exact⟨sm,fM.refl _,λc u e=>by
  by_cases hc:c=b
  ·subst hc;rw [aj] at e;cases e;exact h
  ·rw [ag hc] at e;exact s _ _ e,ow,λt=>t.same sm ow λ_ _ e=>e⟩
def aD.QW{G H:Hp}{p:Addr}{o:HO}(s:az G H)(h:H p=none):aD W G H G (upd H p o):=
 ⟨az.refl _,.of (aY h),s.trans (aY h),λ_ _ _ hg=>hg,λt=>t.same (az.refl _) (λ_ _ _ h=>h) (kh (λps z=>by rw [h] at z;cases z))⟩
end
def bh(scope:Scope):List Str:=((scope.names.filter λp=>p.2==.free).map (·.1)).reverse
def okN(x:Str):Bool:=!(x=="__debug__")&&!(x=="__classdict__")&&!(x=="__name__")
def f7(x:Str):Bool:=x.cps.toList.contains 64
def fq{α:Type}{a:α}{p:Prop}(h:(none:Option α)=some a):p:=nomatch h
def A0{α:Type}{o:Option α}{f:α->Bool}(h:o.any f=true):∃x,o=some x/\f x=true:=by
 cases o with
 |none=>cases h
 |some x=>exact⟨x,rfl,h⟩
def dm:Expr->Option Str
 |.Name x _=>some x
 |_=>none
def bE{e:Expr}{x:Str}(h:dm e=some x):∃p,e=.Name x p:=by
 cases e with
 |Name y p=>cases h;exact⟨_,rfl⟩
 |_=>exact fq h
def yk:Expr->Option (Expr×List Expr×List Keyword×Pos)
 |.Call f a k p=>some (f,a,k,p)
 |_=>none
def fV{e:Expr}{q:Expr×List Expr×List Keyword×Pos}(h:yk e=some q):e=.Call q.1 q.2.1 q.2.2.1 q.2.2.2:=by
 cases e with
 |Call f a k p=>cases h;rfl
 |_=>exact fq h
def SI:List Arg->Option (List Str)
 |[]=>some []
 |[a]=>some [a.arg]
 |_=>none
noncomputable def pK(p:Arguments):Option (List Str):=if(p.posonlyargs.isEmpty&&p.vararg.isNone&&p.kwonlyargs.isEmpty&&p.kw_defaults.isEmpty&&p.kwarg.isNone&&p.defaults.isEmpty)=true then SI p.args else none
def vx{p:Arguments}{ps:List Str}(h:pK p=some ps):(p=⟨[],[],none,[],[],none,[]⟩/\ps=[])\/∃a,p=⟨[],[a],none,[],[],none,[]⟩/\ps=[a.arg]:=by
 obtain⟨a,b,c,d,e,f,g⟩:=p
 unfold pK at h;split at h
 ·rename_i q;simp! [zza,List.isEmpty_iff,Option.isNone_iff_eq_none] at q;obtain⟨⟨⟨⟨⟨q1,q2⟩,q3⟩,q4⟩,q5⟩,q6⟩:=q
  subst q1 q2 q3 q4 q5 q6;cases b with
  |nil=>cases h;exact .inl ⟨rfl,rfl⟩
  |cons a b=>
   cases b with
   |nil=>cases h;exact .inr ⟨a,rfl,rfl⟩
   |cons _ _=>exact fq h
 ·exact fq h
def ez:List Expr->List (Option Str)->Bool
 |[],[]=>true
 |.Name x _::r,some y::t=>x==y&&okN x&&ez r t
 |_,_=>false
noncomputable def RT(ps:List Str)(scope:Scope):Bool:=
 scope.kind==.function&&!scope.isCoroutine&&!scope.isGenerator&&decide ((ps++bh scope).Nodup)&&(scope.names.all λy=>decide (y.2≠.cell))&&(ps.all λx=>decide (scope.names.lookup x=some .local))&&((bh scope).all λx=>decide (scope.names.lookup x=some .free))
noncomputable def El(g:Str)(idx:List Nat)(params:Arguments)(body:Expr)(scope:Scope):Bool:=(pK params).any λps=>(yk body).any λq=>dm q.1==some g&&q.2.2.1.isEmpty&&!q.2.1.isEmpty&&decide (idx.head?=some ps.length)&&scope.names.lookup g==some .globalImplicit&&okN g&&!f7 g&&ez q.2.1 (idx.tail.map λi=>(ps++bh scope)[i]?)&&RT ps scope
structure Uk(W:Wd)(G:Hp)(g:Str)(idx:List Nat)(cj:List PV)(f c':Addr)(oc:Obj)(cq:Array Value)(t:Tok)(fm pm:Value)(params:Arguments)(body:Expr)(scope:Scope)(qual:Str)(cl:List (Str×Addr))(Z:List (Addr×Obj))(ws:List V):Prop where
 lg:El g idx params body scope=true
 fo:G f=some (.bt (PySem.W.kla_obj "<lambda>" qual params body scope cl pm c' fm) bz)
 co:G c'=some (.bt oc bz)
 cd:oc.data=.fields cq
 cn:cq[1]?=some (.str qual t)
 fz:Z.lookup f=none
 cz:Z.lookup c'=none
 inj:∀x y c,cl.lookup x=some c->cl.lookup y=some c->x=y
 has:∀y∈bh scope,∃c,cl.lookup y=some c
 cells:∀x c,cl.lookup x=some c->∃o v,Z.lookup c=some o/\o.data=.cell v
 zs:∀b o,Z.lookup b=some o->G b=some (.bt o bz)
 zc:∀b o,Z.lookup b=some o->∃v,o.data=.cell v
 vals:∀(i:Nat) y c,(bh scope)[i]?=some y->cl.lookup y=some c->∀v,ws[i]?=some v->∃u o,RelV v u/\Z.lookup c=some o/\o.data=.cell (some u)
 len:ws.length=(bh scope).length
 rep:ai W (bb Z G) cj ws
def pJ(W:Wd)(G:Hp)(g:Str)(idx:List Nat)(cj:List PV)(v:V):Prop:=∃f c' oc cq t fm pm params body scope qual cl Z ws,v=.ref f/\Uk W G g idx cj f c' oc cq t fm pm params body scope qual cl Z ws
theorem n6{Z:List (Addr×Obj)}{G G':Hp}(s:az G G'):az (bb Z G) (bb Z G'):=λb u e=>by
 obtain⟨q,e1⟩:=dU e
 rw [aA q];exact s _ _ e1
def pJ.same{W:Wd}{G G':Hp}{g:Str}{idx:List Nat}{cj:List PV}{v:V}(s:az G G')(h:pJ W G g idx cj v):pJ W G' g idx cj v:=by
 obtain⟨f,c',oc,cq,t,fm,pm,params,body,scope,qual,cl,Z,ws,e,d⟩:=h
 exact⟨f,c',oc,cq,t,fm,pm,params,body,scope,qual,cl,Z,ws,e,⟨d.lg,s _ _ d.fo,s _ _ d.co,d.cd,d.cn,d.fz,d.cz,d.inj,d.has,d.cells,λb o q=>s _ _ (d.zs b o q),d.zc,d.vals,d.len,ai.same (n6 s) cj d.rep⟩⟩
inductive Slot where
 |no|val (p:PV)|own (p:PV)|fn (g:Str) (idx:List Nat) (cj:List PV)
 deriving Inhabited
abbrev Sl:=List Slot
def Own(W:Wd)(H0 G H:Hp):PV->V->Prop
 |.lst xs,v=>∃a vs,v=.ref a/\H a=some (.lst vs)/\G a=none/\H0 a=none/\ai W G xs vs
 |.bM ks ps,v=>∃a us,v=.ref a/\ks.length=us.length/\H a=some (.dT (kz ks us))/\G a=none/\H0 a=none/\ai W G ps us
 |_,_=>False
def Top(W:Wd)(H0 G H:Hp)(p:PV)(v:V):Prop:=Rep W G p v\/Own W H0 G H p v
def F3(W:Wd)(H0 G H:Hp):Slot->Option V->Prop
 |.no,_=>True
 |.val p,o=>∃v,o=some v/\Rep W G p v
 |.own p,o=>∃v,o=some v/\Own W H0 G H p v
 |.fn g idx cj,o=>∃v,o=some v/\pJ W G g idx cj v
structure SR(W:Wd)(H0:Hp)(env:Sl)(σ:St)(G H:Hp):Prop where
 len:env.length=σ.length
 sub:az G H
 base:fM H0 H
 slot:∀(i:Nat) (s:Slot),env[i]?=some s->∃o,σ[i]?=some o/\F3 W H0 G H s o
 apart:∀(i j:Nat) (p q:PV) (a:Addr),env[i]?=some (.own p)->env[j]?=some (.own q)->σ[i]?=some (some (.ref a))->σ[j]?=some (some (.ref a))->i=j
 tab:bL W G H
 ia:bL W G H0
section
variable{W:Wd}{H0 G H G' H':Hp}{env:Sl}{σ:St}
theorem Own.grow(g:aD W G H G' H'):∀{p:PV} {v:V},Own W H0 G H p v->Own W H0 G' H' p v
 |.lst xs,_,h=>by
  obtain⟨a,vs,e,h1,h2,h3,l⟩:=h
  exact⟨a,vs,e,g.h.at h1 (λ_ z=>nomatch z),g.own a (by rw [h1];exact λz=>by cases z) (by rw [h1];exact λ_ z=>by cases z) h2,h3,ai.same g.g xs l⟩
 |.bM ks ps,_,h=>by
  obtain⟨a,vs,e,n,h1,h2,h3,l⟩:=h
  exact⟨a,vs,e,n,g.h.at h1 (λ_ z=>nomatch z),g.own a (by rw [h1];exact λz=>by cases z) (by rw [h1];exact λ_ z=>by cases z) h2,h3,ai.same g.g ps l⟩
 |.aK,_,h=>h|.bl _,_,h=>h|.int _,_,h=>h|.str _,_,h=>h|.tup _,_,h=>h|.exc _,_,h=>h
theorem F3.grow(g:aD W G H G' H'):∀{s:Slot} {o:Option V},F3 W H0 G H s o->F3 W H0 G' H' s o
 |.no,_,_=>trivial
 |.val p,_,h=>by obtain⟨v,e,r⟩:=h;exact⟨v,e,Rep.same g.g p r⟩
 |.own p,_,h=>by obtain⟨v,e,r⟩:=h;exact⟨v,e,r.grow g⟩
 |.fn _ _ _,_,h=>by obtain⟨v,e,r⟩:=h;exact⟨v,e,r.same g.g⟩
theorem SR.grow(r:SR W H0 env σ G H)(g:aD W G H G' H'):SR W H0 env σ G' H':=
 ⟨r.len,g.sub,r.base.trans g.h,λi s e=>by obtain⟨o,h1,h2⟩:=r.slot i s e;exact⟨o,h1,h2.grow g⟩,r.apart,g.tab r.tab,r.ia.same g.g (λa h1 h3 h2=>g.own a (λz=>h1 (r.base.free z)) (r.base.rP h1 h3) h2) λ_ _ h=>h⟩
def Top.grow{p:PV}{v:V}(g:aD W G H G' H')(h:Top W H0 G H p v):Top W H0 G' H' p v:=h.elim (λz=>.inl (Rep.same g.g p z)) λz=>.inr (z.grow g)
def Top.lst{xs:List PV}{v:V}(s:az G H)(h:Top W H0 G H (.lst xs) v):∃a vs,v=.ref a/\nB W.K H a vs/\ai W G xs vs:=by
 rcases h with h|h
 ·simp! [Rep] at h;obtain⟨a,vs,e,q,l⟩:=h
  exact⟨a,vs,e,az.ls s q,l⟩
 ·obtain⟨a,vs,e,h1,_,_,l⟩:=h
  exact⟨a,vs,e,.inl (.inl h1),l⟩
def Top.tup{xs:List PV}{v:V}(s:az G H)(h:Top W H0 G H (.tup xs) v):∃a vs,v=.ref a/\dI W.K H a vs/\ai W G xs vs:=by
 rcases h with h|h
 ·simp! [Rep] at h;obtain⟨a,vs,e,q,l⟩:=h
  exact⟨a,vs,e,az.tup s q.sq,l⟩
 ·exact h.elim
def Top.tupI{xs:List PV}{v:V}{ns:List Int}(s:az G H)(hx:xs=ns.map .int)(h:Top W H0 G H (.tup xs) v):∃a,v=.ref a/\G a=some (.tup (ns.map V.int)):=by
 rcases h with h|h
 ·simp! [Rep] at h;obtain⟨a,vs,e,q,l⟩:=h
  have ev:vs=ns.map V.int:=by
   subst hx
   clear q e
   induction ns generalizing vs with
   |nil=>simp! [List.map_nil,ai] at l;exact l
   |cons n ns ih=>
    obtain⟨u,r,rfl,h1,h2⟩:=l.aF
    simp! [Rep] at h1;rw [h1,ih r h2]
    rfl
  subst ev;rcases q with q|⟨_,z,hz⟩
  ·exact⟨a,e,q⟩
  ·obtain⟨n,_,hn⟩:=zzx.mp hz
   cases hn
 ·exact h.elim
def Top.bM{ks:List (List Int)}{ps:List PV}{v:V}(s:az G H)(h:Top W H0 G H (.bM ks ps) v):∃a us,v=.ref a/\ks.length=us.length/\Rd H a (.dT (kz ks us))/\ai W G ps us:=by
 rcases h with h|h
 ·simp! [Rep] at h;obtain⟨a,o,us,e,n,q,l⟩:=h
  exact⟨a,us,e,n,.inr ⟨o,s _ _ q⟩,l⟩
 ·obtain⟨a,vs,e,n,q,_,_,l⟩:=h
  exact⟨a,vs,e,n,.inl q,l⟩
def Top.int{i:Int}{v:V}(h:Top W H0 G H (.int i) v):v=.int i:=h.elim (λz=>by simpa only [Rep] using z) λz=>z.elim
def Top.bl{b:Bool}{v:V}(h:Top W H0 G H (.bl b) v):v=.bl b:=h.elim (λz=>by simpa only [Rep] using z) λz=>z.elim
def Top.str{b:Str}{v:V}(h:Top W H0 G H (.str b) v):v=.str b:=h.elim (λz=>by simpa only [Rep] using z) λz=>z.elim
def Top.aK{v:V}(h:Top W H0 G H .aK v):v=.aK:=h.elim (λz=>by simpa only [Rep] using z) λz=>z.elim
def Rep.i{i:Int}:Rep W G (.int i) (.int i):=by simp! [Rep]
def Rep.b{i:Bool}:Rep W G (.bl i) (.bl i):=by simp! [Rep]
def Rep.s{i:Str}:Rep W G (.str i) (.str i):=by simp! [Rep]
def Rep.n:Rep W G .aK .aK:=by simp! [Rep]
def Rep.l{a:Addr}{xs:List PV}{vs:List V}(h:nB W.K G a vs)(l:ai W G xs vs):Rep W G (.lst xs) (.ref a):=by simp! [Rep];exact⟨a,vs,rfl,h,l⟩
def Rep.t{a:Addr}{xs:List PV}{vs:List V}(h:OJ W.K G a vs)(l:ai W G xs vs):Rep W G (.tup xs) (.ref a):=by simp! [Rep];exact⟨a,vs,rfl,h,l⟩
end
end Ci
namespace L2
open PySem PySem.Spec PyProof.Rows
end L2
namespace HT
open PySem PySem.Spec PyProof.Rows
section
end
end HT
namespace L2
open PySem PySem.Spec PyProof.Rows
def xa{vs:List V}{us:List Value}(r:Vals vs us):Vals vs.reverse us.reverse:=by
 induction r with
 |nil=>exact .nil
 |cons h t ih=>
  rw [List.reverse_cons,List.reverse_cons];exact ih.append (.cons h .nil)
section
variable{X:Cx}
def X6(X:Cx)(r:V->Hp->VK->Prop):Prop:=
 ∀(aa:List (Addr×Obj)) (s:Shared) (σ:St) (H:Hp) (x:V) (v vk:Value) (sl:Addr) (Q:VK),Inv X aa σ H s->RelV x v->s.heap.IsSliceOf sl .none .none vk->IsPart vk (some (-1))->r x H Q->
  ∃T id,typeLookup (.type T) "__getitem__"=pure (some (.builtin id))/\s.TypeIs v T/\wpAny (model X.prog X.w) X.A (getItem v (.ref sl)) (EP X aa σ Q) X.xe s
def KR:X6 X (λx H Q=>∃a xs,x=.ref a/\df X.K H a xs/\∀p,H p=none->Q (.ref p) (upd H p (.lst xs.reverse))):=by
 intro aa s σ H x v vk sl Q I rx hs pk h;obtain⟨a,xs,rfl,hx,q⟩:=h
 cases rx;obtain⟨ak,r,ht,hz⟩:=I.list hx
 refine⟨"list",_,PySem.F.slot_list_getitem.lookup,⟨_,ht.isList.choose_spec.1,ht.isList.choose_spec.2.1⟩,?_⟩;refine wpAny_getItem_list_slice ht.isList hs .none .none pk (by decide) ?_ (by rw [zzC,<-r.length];exact hz);rw [PySem.W.krv_pick];refine⟨.ref (zz9 s),_,I.laid (t':=s.toks) (o:=.lst xs.reverse) (λb ob q=>zzB _ q) (zzE _) ?_,rfl,q _ (I.aH.fresh (zzE _))⟩;exact⟨by rw [List.length_reverse];exact hz,_,0,xa r,zzX _ rfl⟩
end
end L2
namespace L2
open PySem PySem.Spec PyProof.Rows PySem.W
end L2
namespace Ci
open PySem L2
inductive Res(α:Type) where
 |ok (a:α)|exc (c:Str)|bad
@[inline] def Res.bind{α β:Type}:Res α->(α->Res β)->Res β
 |.ok a,f=>f a
 |.exc c,_=>.exc c
 |.bad,_=>.bad
instance:Monad Res where
 pure:=.ok
 bind:=Res.bind
def Res.aP{α β:Type}{r:Res α}{f:α->Res β}{b:β}(h:r.bind f=.ok b):∃a,r=.ok a/\f a=.ok b:=by
 cases r with
 |ok a=>exact⟨a,rfl,h⟩
 |exc c=>cases h
 |bad=>cases h
def Res.c9{α β:Type}{r:Res α}{f:α->Res β}{c:Str}(h:r.bind f=.exc c):r=.exc c\/∃a,r=.ok a/\f a=.exc c:=by
 cases r with
 |ok a=>exact .inr ⟨a,rfl,h⟩
 |exc c'=>cases h;exact .inl rfl
 |bad=>cases h
def Res.of{α:Type}:Option α->Res α
 |some a=>.ok a
 |none=>.bad
def Res.well{α:Type}:Res α->Res α
 |.ok a=>.ok a
 |_=>.bad
abbrev mU:Nat:=1000000
def eqs(f:PV->PV->Bool):List PV->List PV->Bool
 |[],[]=>true
 |x::xs,y::ys=>f x y&&eqs f xs ys
 |_,_=>false
noncomputable def qz:Nat->PV->PV->Bool
 |_,.aK,.aK=>true
 |_,.bl a,.bl b=>a==b
 |_,.bl a,.int i=>(if a then 1 else 0)==i
 |_,.int i,.bl a=>i==(if a then 1 else 0)
 |_,.int i,.int j=>i==j
 |_,.str x,.str y=>x==y
 |n+1,.tup xs,.tup ys=>eqs (qz n) xs ys
 |n+1,.lst xs,.lst ys=>eqs (qz n) xs ys
 |_,_,_=>false
noncomputable def plain:Nat->PV->Bool
 |_,.aK=>true
 |_,.bl _=>true
 |_,.int _=>true
 |_,.str _=>true
 |n+1,.tup xs=>xs.all (plain n)
 |n+1,.lst xs=>xs.all (plain n)
 |_,_=>false
abbrev DP:Nat:=9
noncomputable abbrev eqv:PV->PV->Bool:=qz DP
noncomputable abbrev sJ:PV->Bool:=plain DP
inductive FQ where|add|sub|mul|mod|fdiv
inductive AH where|eq|ne|lt|le|gt|ge|is|xV|Gy|GL
def bK(i:Int):Bool:=decide (-(2^64)<i)&&decide (i<2^64)
noncomputable def binOp:FQ->PV->PV->Res PV
 |.add,.int i,.int j=>.ok (.int (i+j))
 |.add,.str x,.str y=>if x.length+y.length<=mU then .ok (.str (x++y)) else .bad
 |.add,.lst x,.lst y=>if x.length+y.length<=mU then .ok (.lst (x++y)) else .bad
 |.sub,.int i,.int j=>.ok (.int (i-j))
 |.mul,.int i,.int j=>if bK i||bK j then .ok (.int (i*j)) else .bad
 |.mul,.lst x,.int j=>if 0<=j/\j<1000/\x.length<1000 then .ok (.lst (List.replicate j.toNat x).flatten) else .bad
 |.mul,.tup x,.int j=>if 1<=j/\j<1000/\0<x.length/\x.length<1000 then .ok (.tup (List.replicate j.toNat x).flatten) else .bad
 |.mul,.str x,.int j=>if 1<=j/\j<1000/\0<x.length/\x.length<1000 then .ok (.str (pg x j.toNat)) else .bad
 |.mod,.int i,.int j=>if 0<j then .ok (.int (i%j)) else .bad
 |.fdiv,.int i,.int j=>if 0<j/\j<1073741824 then .ok (.int (i/j)) else .bad
 |_,_,_=>.bad
def intsOf:List PV->Option (List Int)
 |[]=>some []
 |.int i::r=>(intsOf r).map (i::·)
 |_=>none
def fb{α:Type}:List (List Int)->List α->List Int->Option α
 |k'::ks,v::vs,k=>if k'=k then some v else fb ks vs k
 |_,_,_=>none
def rk(ks:List (List Int))(k:List Int):Bool:=ks.any λk'=>decide (k'=k)
def gq(ks:List (List Int))(k:List Int):List (List Int):=if rk ks k then ks else ks++[k]
def d6{α:Type}(ks:List (List Int))(vs:List α)(k:List Int)(p:α):List α:=if rk ks k then List.zipWith (λk' v=>if k'=k then p else v) ks vs else vs++[p]
def fc(ks:List (List Int))(k:List Int):List (List Int):=ks.filter λk'=>decide (k'≠k)
def bX{α:Type}:List (List Int)->List α->List Int->List α
 |k'::ks,v::vs,k=>if k'=k then bX ks vs k else v::bX ks vs k
 |_,_,_=>[]
def pN(k:List Int):PV:=.tup (k.map .int)
def gQ:PV->Option (List Int)
 |.tup xs=>intsOf xs
 |_=>none
def uU:List PV->Option (List (List Int))
 |[]=>some []
 |x::r=>(gQ x).bind λk=>(uU r).map (k::·)
def EM:List PV->Option (List (List Int×PV))
 |[]=>some []
 |.tup [x,y]::r=>(gQ x).bind λk=>(EM r).map ((k,y)::·)
 |_=>none
def jq{α:Type}:List (List Int×α)->List (List Int)->List α->List (List Int)×List α
 |[],ks,vs=>(ks,vs)
 |p::r,ks,vs=>jq r (gq ks p.1) (d6 ks vs p.1 p.2)
noncomputable def Qc(x:PV)(ys:List PV):Bool:=ys.any λy=>eqv y x
noncomputable def aZ(a b:PV):Res PV:=if sJ a&&sJ b then .ok (.bl (eqv a b)) else .bad
noncomputable def mZ(a b:PV):Res PV:=if sJ a&&sJ b then .ok (.bl (!eqv a b)) else .bad
def uu:PV->PV->Res PV
 |.int i,.int j=>.ok (.bl (decide (i<j)))
 |_,_=>.bad
def uE:PV->PV->Res PV
 |.int i,.int j=>.ok (.bl (decide (i<=j)))
 |_,_=>.bad
def t8:PV->PV->Res PV
 |.int i,.int j=>.ok (.bl (decide (j<i)))
 |_,_=>.bad
def uh:PV->PV->Res PV
 |.int i,.int j=>.ok (.bl (decide (j<=i)))
 |_,_=>.bad
def yX:PV->Bool
 |.aK=>true
 |_=>false
def p9:PV->PV->Res PV
 |a,.aK=>.ok (.bl (yX a))
 |.bl a,.bl b=>.ok (.bl (a==b))
 |_,_=>.bad
def lA:PV->PV->Res PV
 |a,.aK=>.ok (.bl (!yX a))
 |.bl a,.bl b=>.ok (.bl (a !=b))
 |_,_=>.bad
noncomputable def wW:PV->PV->Res PV
 |a,.lst ys=>if sJ a&&ys.all sJ then .ok (.bl (Qc a ys)) else .bad
 |.str i,.str j=>.ok (.bl (!(Builtin.Str.occurrences j i 0 j.length 1).isEmpty))
 |a,.bM ks _=>(Res.of (gQ a)).bind λk=>.ok (.bl (rk ks k))
 |_,_=>.bad
noncomputable def n8:PV->PV->Res PV
 |a,.lst ys=>if sJ a&&ys.all sJ then .ok (.bl (!Qc a ys)) else .bad
 |a,.bM ks _=>(Res.of (gQ a)).bind λk=>.ok (.bl (!rk ks k))
 |_,_=>.bad
noncomputable def cQ:AH->PV->PV->Res PV
 |.eq=>aZ|.ne=>mZ|.lt=>uu|.le=>uE|.gt=>t8|.ge=>uh|.is=>p9|.xV=>lA|.Gy=>wW|.GL=>n8
noncomputable def eF:PV->PV->Res PV
 |.lst xs,.int i=>Res.of (uo xs i)
 |.tup xs,.int i=>Res.of (uo xs i)
 |.str z,.int i=>if z.length<=mU then(Res.of (uo z.cps.toList i)).bind λc=>.ok (.str ⟨#[c]⟩) else .bad
 |.bM ks vs,y=>(Res.of (gQ y)).bind λk=>Res.of (fb ks vs k)
 |_,_=>.bad
def GR{α:Type}(xs:List α)(lo hi:Option Int):List α:=(xs.drop (HT.pG xs.length 0 lo)).take (HT.pG xs.length xs.length hi-HT.pG xs.length 0 lo)
def iL:PV->Option Int->Option Int->Res PV
 |.lst xs,lo,hi=>.ok (.lst (GR xs lo hi))
 |_,_,_=>.bad
inductive B where|len|abs|max2|min2|int|tuple|all|sorted|dict|any
def boolsOf:List PV->Option (List Bool)
 |[]=>some []
 |.bl b::r=>(boolsOf r).map (b::·)
 |_=>none
def chars(z:Str):List PV:=z.cps.toList.map λc=>.str ⟨#[c]⟩
noncomputable def Bj:List PV->Res PV
 |[.lst xs]=>.ok (.int xs.length)
 |[.tup xs]=>.ok (.int xs.length)
 |[.str z]=>if z.length<=mU then .ok (.int z.length) else .bad
 |[.bM ks _]=>.ok (.int ks.length)
 |_=>.bad
def Br:List PV->Res PV
 |[.int i]=>.ok (.int (if i<0 then -i else i))
 |_=>.bad
def Aq:List PV->Res PV
 |[.int i,.int j]=>.ok (.int (if j>i then j else i))
 |_=>.bad
def zX:List PV->Res PV
 |[.int i,.int j]=>.ok (.int (if j<i then j else i))
 |_=>.bad
def Ad:List PV->Res PV
 |[.str z]=>if z.length<=640 then(Res.of (PySem.intText? z)).bind λn=>.ok (.int n) else .bad
 |_=>.bad
def lZ:List PV->Res PV
 |[.lst xs]=>.ok (.tup xs)
 |_=>.bad
def Bw:List PV->Res PV
 |[.lst xs]=>(Res.of (boolsOf xs)).bind λbs=>.ok (.bl (bs.all id))
 |_=>.bad
def Av:List PV->Res PV
 |[.lst xs]=>(Res.of (boolsOf xs)).bind λbs=>.ok (.bl (bs.any id))
 |_=>.bad
noncomputable def i5:List PV->Res PV
 |[.lst xs]=>(Res.of (uU xs)).bind λnss=>if decide (xs.length<64)&&nss.all (λk=>!k.isEmpty) then .ok (.lst (sF .aK xs nss)) else .bad
 |[.bM ks _]=>if decide (ks.length<64)&&ks.all (λk=>!k.isEmpty) then .ok (.lst (sF .aK (ks.map pN) ks)) else .bad
 |_=>.bad
def oz:List PV->Res PV
 |[.lst xs]=>(Res.of (EM xs)).bind λps=>.ok (.bM (jq ps [] []).1 (jq ps [] []).2)
 |_=>.bad
noncomputable def fw:B->List PV->Res PV
 |.len=>Bj|.abs=>Br|.max2=>Aq|.min2=>zX|.int=>Ad|.tuple=>lZ|.all=>Bw|.sorted=>i5|.dict=>oz|.any=>Av
inductive Ty where|int|bool|str|tuple|list
def rA:Ty->PV->Bool
 |.int,.int _=>true
 |.int,.bl _=>true
 |.bool,.bl _=>true
 |.str,.str _=>true
 |.tuple,.tup _=>true
 |.list,.lst _=>true
 |_,_=>false
def zd(t:Ty):PV->Res PV
 |.exc _=>.bad
 |.bM _ _=>.bad
 |p=>.ok (.bl (rA t p))
def strsOf:List PV->Option (List Str)
 |[]=>some []
 |.str z::r=>(strsOf r).map (z::·)
 |_=>none
inductive M where|ic|index|join
noncomputable def rV:List PV->Res PV
 |[.str z,.lst xs]=>(Res.of (strsOf xs)).bind λys=>if z.length<=16/\(ys.map (·.length)).sum+ys.length<=mU then .ok (.str (Txt.join z ys)) else .bad
 |[.str z,.tup xs]=>(Res.of (strsOf xs)).bind λys=>if z.length<=16/\(ys.map (·.length)).sum+ys.length<=mU then .ok (.str (Txt.join z ys)) else .bad
 |_=>.bad
noncomputable def i4:List PV->Res PV
 |[.lst xs,v]=>if sJ v&&xs.all sJ then .ok (.int ((xs.countP λy=>eqv y v:Nat):Int)) else .bad
 |_=>.bad
noncomputable def lC:List PV->Res PV
 |[.lst xs,v]=>if sJ v&&xs.all sJ&&decide (xs.length<1000) then(match xs.findIdx? λy=>eqv y v with|some j=>.ok (.int (j:Nat))|none=>.bad) else .bad
 |_=>.bad
noncomputable def As:M->List PV->Res PV
 |.join=>rV|.ic=>i4|.index=>lC
def Bc:M->PV->Bool
 |.join,.str _=>true
 |.ic,.lst _=>true
 |.index,.lst _=>true
 |_,_=>false
inductive Tg where
 |one (i:Nat)|two (i j:Nat)|three (i j k:Nat)
 |four (i j k l:Nat)
mutual
inductive E where
 |var (i:Nat)|kP (i:Nat)
 |cst (p:PV)
 |glob (g:Str) (p:PV)
 |call (f:Str) (as:Es)
 |sh (i:Nat) (as:Es)
 |rK (f:Str) (as:Es) (g:Str) (idx:List Nat) (bf:List Nat)
 |blt (b:B) (as:Es)
 |ty (t:Ty) (a:E)
 |B5 (c:Str) (a:E)
 |B6 (m:M) (o:E) (as:Es)
 |bin (o:FQ) (a b:E)
 |cmp (o:AH) (a b:E)
 |ch (o1 o2:AH) (a b c:E)
 |not (a:E)
 |neg (a:E)
 |and (a b:E)|or (a b:E)
 |ite (c a b:E)
 |tup (as:Es)|lst (as:Es)
 |sub (a b:E)
 |slice (a:E) (lo hi:Oe)
 |comp (k:Nat) (bf:List Nat) (tg:Tg) (it:I) (elt:E)
 |cx (k:Nat) (bf:List Nat) (tg:Tg) (it:I) (c elt:E)
 |get (a k:E)
 |maxD (a:E) (n:Int)
 |RI (n:Nat)
 |vS (f:Str) (as:Es)
 |MC (a k:E)
inductive Es where
 |nil|cons (e:E) (es:Es)
inductive Oe where
 |no|some (e:E)
inductive I where
 |seq (e:E)|mi (e:E)|sj (a b:E)|enum (e:E)|zip (as:Es)|wJ (e:E)
end
mutual
inductive S where
 |expr (e:E)
 |set (i:Nat) (e:E)
 |rn (tg:Tg) (e:E)
 |own (i:Nat) (e:E)
 |bt (i:Nat)
 |app (i:Nat) (e:E)
 |dQ (i:Nat) (e:E)
 |put (i:Nat) (k e:E)
 |hZ (i j:Nat) (e:E)
 |mH (i:Nat) (e:E)
 |aug (i:Nat) (o:FQ) (e:E)
 |ret (e:E)
 |ite (c:E) (a b:Ss)
 |eA (tg:Tg) (it:I) (b:Ss)
 |FN (c:E) (b:Ss)
 |raise (c:Str) (m:Str)
 |um (b:Ss) (c:Str) (i j:Nat)
 |qm (i:Nat)
 |fN (i j n:Nat)
 |si (m i:Nat)
 |par (i j:Nat) (as:Es)
 |sZ (i j:Nat) (e1 e2:Es)
 |put2 (i j:Nat) (n m:Int) (e:E)
inductive Ss where
 |nil|cons (s:S) (ss:Ss)
end
def iz:List Int->Nat->Nat->Int->Nat
 |[],_,b,_=>b
 |c::cs,j,b,m=>if c<m then iz cs (j+1) j c else iz cs (j+1) b m
def HQ:List Int->Option Nat
 |[]=>none
 |c::cs=>some (iz cs 1 0 c)
def lG:List PV->Option (List Int)
 |[]=>some []
 |.tup (.int c::_)::r=>(lG r).map (c::·)
 |_=>none
abbrev bj:=Str->List PV->Res PV
def qG:Option Slot->Res PV
 |some (.val p)=>.ok p
 |_=>.bad
def AF:Option Slot->Res PV
 |some (.val p)=>.ok p
 |some (.own p)=>.ok p
 |_=>.bad
noncomputable def Tg.put:Tg->PV->Sl->Res Sl
 |.one i,p,env=>.ok (env.set i (.val p))
 |.two i j,.tup [a,b],env=>.ok ((env.set i (.val a)).set j (.val b))
 |.three i j k,.tup [a,b,c],env=>.ok (((env.set i (.val a)).set j (.val b)).set k (.val c))
 |.four i j k l,.tup [a,b,c,d],env=>.ok ((((env.set i (.val a)).set j (.val b)).set k (.val c)).set l (.val d))
 |_,_,_=>.bad
def mx(env:Sl):List Nat->Res (List PV)
 |[]=>.ok []
 |i::r=>(qG env[i]?).bind λp=>(mx env r).bind λps=>.ok (p::ps)
def gX(l:List PV):List Nat->Res (List PV)
 |[]=>.ok []
 |i::r=>(Res.of l[i]?).bind λp=>(gX l r).bind λps=>.ok (p::ps)
def j4(env:Sl)(bf:List Nat):Sl:=bf.map λi=>env.getD i .no
def itemsOf:PV->Res (List PV)
 |.lst xs=>.ok xs
 |.tup xs=>.ok xs
 |.str z=>.ok (chars z)
 |_=>.bad
def BO(e:E)(p:PV):Res (List PV):=match p,e with
 |.bM _ _,.kP _=>.bad
 |.bM ks _,_=>.ok (ks.map pN)
 |p,_=>itemsOf p
def qS(lo:Int)(n:Nat):List PV:=(List.range n).map λi=>.int (lo+(i:Nat))
def bS(i:Int):Bool:=decide (-(2^62)<=i)&&decide (i<2^62)
def La:PV->Option (List PV)
 |.lst xs=>some xs
 |.tup xs=>some xs
 |_=>none
def oD:List PV->Option (List (List PV))
 |[]=>some []
 |p::r=>(La p).bind λxs=>(oD r).map (xs::·)
def nj:List (List PV)->Nat
 |[]=>0
 |[xs]=>xs.length
 |xs::r=>min xs.length (nj r)
def xf(xss:List (List PV)):List PV:=(List.range (nj xss)).map λi=>.tup (xss.map λxs=>xs.getD i .aK)
def fX(n:Nat):List PV->List PV
 |[]=>[]
 |x::xs=>.tup [.int (n:Nat),x]::fX (n+1) xs
def oc:Option PV->List PV->List PV
 |some y,ys=>y::ys
 |none,ys=>ys
def bI(f:PV->Res (Option PV)):List PV->Res (List PV)
 |[]=>.ok []
 |x::xs=>(f x).well.bind λo=>(bI f xs).bind λys=>.ok (oc o ys)
def Bf:PV->Bool
 |.bM _ _=>true
 |_=>false
def lV:PV->Bool
 |.aK=>true
 |.bl _=>true
 |.int _=>true
 |.str _=>true
 |_=>false
def wy{α:Type}(p:PV)(f:Bool->Res α):Res α:=match p with
 |.bl b=>f b
 |_=>.bad
section
variable(F:bj)
mutual
noncomputable def aE:E->Sl->Res PV
 |.var i,env=>qG env[i]?
 |.kP i,env=>AF env[i]?
 |.cst p,_=>.ok p
 |.glob _ p,_=>.ok p
 |.call f as,env=>(cb as env).bind λps=>F f ps
 |.sh i as,env=>match env[i]? with
  |some (.fn g idx cj)=>(cb as env).bind λps=>if idx.head?=some ps.length then(gX (ps++cj) idx.tail).bind λqs=>F g qs else .bad
  |_=>.bad
 |.rK f as _ _ bf,env=>(cb as env).bind λps=>(mx env bf).bind λcs=>F f (ps++cs)
 |.blt b as,env=>(cb as env).bind λps=>fw b ps
 |.ty t a,env=>(aE a env).bind λp=>zd t p
 |.B5 c a,env=>(aE a env).bind λp=>match p with
  |.exc d=>.ok (.bl (if c=="ValueError" then true else(c==d||c=="FloorError")))
  |_=>.bad
 |.B6 m o as,env=>(aE o env).bind λp=>if Bc m p then(cb as env).bind λps=>As m (p::ps) else .bad
 |.bin o a b,env=>(aE a env).bind λx=>(aE b env).bind λy=>binOp o x y
 |.cmp o a b,env=>(aE a env).bind λx=>(aE b env).bind λy=>cQ o x y
 |.ch o1 o2 a b c,env=>(aE a env).bind λx=>(aE b env).bind λy=>(cQ o1 x y).bind λt=>wy t λt=>
  if t then(aE c env).bind λz=>cQ o2 y z else .ok (.bl false)
 |.not a,env=>(aE a env).bind λx=>wy x λb=>.ok (.bl (!b))
 |.neg a,env=>(aE a env).bind λx=>match x with|.int i=>.ok (.int (-i))|_=>.bad
 |.and a b,env=>(aE a env).bind λx=>wy x λt=>if t then aE b env else .ok (.bl false)
 |.or a b,env=>(aE a env).bind λx=>wy x λt=>if t then .ok (.bl true) else aE b env
 |.ite c a b,env=>(aE c env).bind λx=>wy x λt=>if t then aE a env else aE b env
 |.tup as,env=>(cb as env).bind λps=>.ok (.tup ps)
 |.lst as,env=>(cb as env).bind λps=>.ok (.lst ps)
 |.sub a b,env=>(aE a env).bind λx=>(aE b env).bind λy=>eF x y
 |.slice a lo hi,env=>(aE a env).bind λx=>(IZ lo env).bind λl=>(IZ hi env).bind λh=>iL x l h
 |.comp k bf tg it elt,env=>(ya it env).bind λxs=>if xs.length<mU then(bI (λx=>(tg.put x (List.replicate k .no++j4 env bf)).bind λenv'=>(aE elt env').bind λy=>.ok (some y)) xs).bind λys=>.ok (.lst ys) else .bad
 |.cx k bf tg it c elt,env=>(ya it env).bind λxs=>if xs.length<mU then(bI (λx=>(tg.put x (List.replicate k .no++j4 env bf)).bind λenv'=>(aE c env').bind λt=>wy t λt=>if t then(aE elt env').bind λy=>.ok (some y) else .ok none) xs).bind λys=>.ok (.lst ys) else .bad
 |.get a k,env=>(aE a env).bind λp=>match p with|.bM ks vs=>(aE k env).bind λq=>(Res.of (gQ q)).bind λz=>.ok ((fb ks vs z).getD .aK)|_=>.bad
 |.maxD a n,env=>(aE a env).bind λp=>match p with|.lst xs=>(Res.of (intsOf xs)).bind λns=>.ok (.int (L2.maxD ns n))|_=>.bad
 |.RI n,env=>(qG env[n]?).bind λkp=>(Res.of (gQ kp)).bind λkk=>.ok (.bM [kk] [.aK])
 |.vS f as,env=>(cb as env).bind λps=>if(ps.all λp=>!Bf p)=true then(match F f ps with|.ok r=>if lV r=true then .ok r else .bad|_=>.bad) else .bad
 |.MC a k,env=>(aE a env).bind λp=>(aE k env).bind λq=>match p,q with|.lst xs,.int n=>(if n=1 then .ok (.lst xs) else if n= -1 then .ok (.lst xs.reverse) else .bad)|_,_=>.bad
noncomputable def cb:Es->Sl->Res (List PV)
 |.nil,_=>.ok []
 |.cons e es,env=>(aE e env).bind λp=>(cb es env).bind λps=>.ok (p::ps)
noncomputable def IZ:Oe->Sl->Res (Option Int)
 |.no,_=>.ok none
 |.some e,env=>(aE e env).bind λp=>match p with|.int i=>.ok (some i)|_=>.bad
noncomputable def ya:I->Sl->Res (List PV)
 |.seq e,env=>(aE e env).bind (BO e)
 |.mi e,env=>(aE e env).bind λp=>match p with|.int j=>if bS j then .ok (qS 0 j.toNat) else .bad|_=>.bad
 |.sj a b,env=>(aE a env).bind λp=>(aE b env).bind λq=>match p,q with|.int i,.int j=>if bS i&&bS j then .ok (qS i (j-i).toNat) else .bad|_,_=>.bad
 |.enum e,env=>(aE e env).bind λp=>(itemsOf p).bind λxs=>.ok (fX 0 xs)
 |.zip as,env=>(cb as env).bind λps=>(Res.of (oD ps)).bind λxss=>.ok (xf xss)
 |.wJ e,env=>(aE e env).bind λp=>match p with|.lst xs=>.ok xs.reverse|_=>.bad
end
end
inductive Fl where
 |nx (env:Sl)|bk (env:Sl)|ct (env:Sl)|rt (p:PV)
def Fl.seq(f:Fl)(k:Sl->Res Fl):Res Fl:=match f with
 |.nx env=>k env
 |f=>.ok f
noncomputable def forL(body:PV->Sl->Res Fl):List PV->Sl->Res Fl
 |[],env=>.ok (.nx env)
 |x::xs,env=>(body x env).bind λf=>match f with
  |.nx env'=>forL body xs env'
  |.ct env'=>forL body xs env'
  |.bk env'=>.ok (.nx env')
  |.rt p=>.ok (.rt p)
noncomputable def fU(c:Sl->Res PV)(body:Sl->Res Fl):Nat->Sl->Res Fl
 |0,_=>.bad
 |n+1,env=>(c env).bind λt=>wy t λt=>if t then(body env).bind λf=>(match f with
  |.nx env'=>fU c body n env'
  |.ct env'=>fU c body n env'
  |.bk env'=>.ok (.nx env')
  |.rt p=>.ok (.rt p)) else .ok (.nx env)
abbrev WN:Nat:=1000000
def Slot.mF:Slot->Bool
 |.own _=>true
 |_=>false
def pU:Slot->Slot
 |.own p=>.val p
 |s=>s
section
variable(F:bj)
mutual
noncomputable def bV:S->Sl->Res Fl
 |.expr e,env=>(aE F e env).bind λ_=>.ok (.nx env)
 |.set i e,env=>(aE F e env).bind λp=>.ok (.nx (env.set i (.val p)))
 |.rn tg e,env=>(aE F e env).bind λp=>(tg.put p env).bind λenv'=>.ok (.nx env')
 |.own i e,env=>(aE F e env).bind λp=>.ok (.nx (env.set i (.own p)))
 |.bt i,env=>.ok (.nx (env.modify i pU))
 |.app i e,env=>match env[i]? with
  |some (.own (.lst xs))=>(aE F e env).bind λp=>if xs.length<mU then .ok (.nx (env.set i (.own (.lst (xs++[p]))))) else .bad
  |_=>.bad
 |.dQ i e,env=>match env[i]? with
  |some (.own (.lst xs))=>(aE F e env).bind λp=>match p with
   |.lst ys=>if xs.length+ys.length<=mU then .ok (.nx (env.set i (.own (.lst (xs++ys))))) else .bad
   |_=>.bad
  |_=>.bad
 |.put i k e,env=>(aE F e env).bind λp=>match env[i]? with
  |some (.own (.bM ks vs))=>(aE F k env).bind λkp=>match gQ kp with
   |some kk=>if ks.length<mU then .ok (.nx (env.set i (.own (.bM (gq ks kk) (d6 ks vs kk p))))) else .bad
   |none=>.bad
  |_=>.bad
 |.mH i e,env=>(aE F e env).bind λp=>(Res.of (La p)).bind λxs=>.ok (.nx (env.set i (.own (.lst xs))))
 |.hZ i j e,env=>match env[i]?,env[j]? with
  |some (.own (.lst xs)),some (.own (.lst ys))=>(aE F e env).bind λp=>match p with
   |.int n=>if 0<=n/\n<ys.length/\ys.length<mU/\xs.length<mU/\i≠j then(Res.of ys[n.toNat]?).bind λq=>.ok (.nx ((env.set j (.own (.lst (ys.eraseIdx n.toNat)))).set i (.own (.lst (xs++[q]))))) else .bad
   |_=>.bad
  |_,_=>.bad
 |.aug i o e,env=>(qG env[i]?).bind λx=>(aE F e env).bind λy=>(match x,y with|.int _,.int _=>binOp o x y|_,_=>.bad).bind λp=>.ok (.nx (env.set i (.val p)))
 |.ret e,env=>(aE F e env).bind λp=>.ok (.rt p)
 |.ite c a b,env=>(aE F c env).bind λp=>wy p λt=>if t then aS a env else aS b env
 |.eA tg it b,env=>(ya F it env).bind λxs=>forL (λx env=>(tg.put x env).bind λenv'=>aS b env') xs env
 |.FN c b,env=>fU (aE F c) (aS b) WN env
 |.raise c _,_=>.exc c
 |.um b c i j,env=>if env.any Slot.mF then .bad else match aS b env with
  |.exc d=>.ok (.nx ((env.set j (.val (.exc d))).set i .no))
  |r=>r
 |.qm i,env=>.ok (.nx (env.set i (.own (.bM [] []))))
 |.fN i j n,env=>match env[j]?,env[i]?,env[n]? with
  |some (.own (.bM ks vs)),some (.own (.bM ks2 vs2)),some (.val kp)=>match gQ kp with
   |some kk=>match fb ks vs kk with
    |some p=>if ks2.length<mU/\i≠j then .ok (.nx ((env.set j (.own (.bM (fc ks kk) (bX ks vs kk)))).set i (.own (.bM (gq ks2 kk) (d6 ks2 vs2 kk p))))) else .bad
    |none=>.bad
   |none=>.bad
  |_,_,_=>.bad
 |.si m i,env=>match env[i]? with
  |some (.own (.bM ks vs))=>match lG vs with
   |some cs=>match(HQ cs).bind λx=>ks[x]? with
    |some k=>.ok (.nx (env.set m (.val (pN k))))
    |none=>.bad
   |none=>.bad
  |_=>.bad
 |.par i j as,env=>(cb F as env).bind λps=>match ps with
  |[p,q]=>.ok (.nx ((env.set i (.val p)).set j (.val q)))
  |_=>.bad
 |.sZ i j e1 e2,env=>(aE F (.lst e1) env).bind λp=>(aE F (.lst e2) env).bind λq=>.ok (.nx ((env.set i (.own p)).set j (.own q)))
 |.put2 i j n m e,env=>(aE F e env).bind λp=>match p with
  |.tup [a,b]=>(match env[i]?,env[j]? with
   |some (.own (.lst xs)),some (.own (.lst ys))=>if i≠j then(Res.of (vp xs.length n)).bind λk=>(Res.of (vp ys.length m)).bind λl=>.ok (.nx ((env.set i (.own (.lst (xs.set k a)))).set j (.own (.lst (ys.set l b))))) else .bad
   |_,_=>.bad)
  |_=>.bad
noncomputable def aS:Ss->Sl->Res Fl
 |.nil,env=>.ok (.nx env)
 |.cons s ss,env=>(bV s env).bind λf=>f.seq (aS ss)
end
end
structure Def where
 N:List Str
 np:Nat
 body:Ss
 qC:Option (Str×List Nat):=none
noncomputable def d9(d:Def)(as:List PV):Sl:=match d.qC with
 |none=>as.map .val++List.replicate (d.N.length-as.length) .no
 |some q=>(as.take (d.np-1)).map .val++.fn q.1 q.2 (as.drop (d.np-1))::List.replicate (d.N.length-d.np) .no
noncomputable def fL(d:Def)(as:List PV):Bool:=match d.qC with
 |none=>as.length==d.np
 |some _=>decide (0<d.np)&&decide (d.np-1<=as.length)
noncomputable def af(F:bj)(d:Def)(as:List PV):Res PV:=
 if fL d as then(aS F d.body (d9 d as)).bind λf=>match f with
  |.nx _=>.ok .aK
  |.rt p=>.ok p
  |_=>.bad
 else .bad
noncomputable def den:List (Str×Def)->bj
 |[],_,_=>.bad
 |(n,d)::r,f,as=>if f==n then af (den r) d as else den r f as
abbrev ki(k:List Int):List Key:=k.map Sum.inl
def tR{a b:List Int}(h:ki a=ki b):a=b:=by
 induction a generalizing b with
 |nil=>cases b with|nil=>rfl|cons=>cases h
 |cons x a ih=>cases b with
  |nil=>cases h
  |cons y b=>simp! [ki,zzF,List.cons.injEq,Sum.inl.injEq] at h;rw [h.1,ih h.2]
def m8(k:List Int):(ki k).map kV=k.map V.int:=by
 unfold ki;rw [List.map_map]
 rfl
theorem jb{k:List Int}{ks:List (List Int)}{u:V}{us:List V}:kz (k::ks) (u::us)=(ki k,u)::kz ks us:=rfl
def eX{ks:List (List Int)}{us:List V}(h:ks.length=us.length):(kz ks us).length=ks.length:=by
 unfold kz;rw [List.length_zip,zzl];omega
def oR{ks:List (List Int)}{us:List V}(h:ks.length=us.length):(kz ks us).map (·.1)=ks.map ki:=by
 unfold kz;exact List.map_fst_zip (by rw [zzl];omega)
theorem hV(k:List Int):∀(ks:List (List Int)) (us:List V),gv (kz ks us) (ki k)=fb ks us k
 |[],us=>by unfold fb;rfl
 |a::ks,[]=>by unfold fb;rfl
 |a::ks,u::us=>by
  rw [jb];unfold fb
  by_cases h:a=k
  ·subst h;rw [if_pos rfl];exact gb rfl
  ·rw [if_neg h,fI (λz=>h (tR z))];exact hV k ks us
theorem gM{α:Type}(k:List Int):∀(ks:List (List Int)) (us:List α),ks.length=us.length->(fb ks us k).isSome=rk ks k
 |[],[],_=>rfl
 |a::ks,u::us,h=>by
  unfold fb rk;rw [List.any_cons]
  by_cases e:a=k
  ·simp [e]
  ·rw [if_neg e];have:=gM k ks us (by simpa using h)
   unfold rk at this;rw [this];simp [e]
 |[],_::_,h=>by simp at h
 |_::_,[],h=>by simp at h
def Om(k:List Int):∀(ks:List (List Int)) (us:List V),ks.length=us.length->((kz ks us).any λkv=>decide (kv.1=ki k))=rk ks k:=λks us h=>by
 rw [lD,hV,gM k ks us h]
def sO{ks:List (List Int)}{us:List V}(h:ks.length=us.length)(k:List Int)(v:V):putK (kz ks us) (ki k) v=kz (gq ks k) (d6 ks us k v):=by
 unfold putK gq d6;rw [Om k ks us h];split
 ·have go:∀(ks:List (List Int)) (us:List V),(kz ks us).map (λkv=>if kv.1=ki k then(kv.1,v) else kv)=kz ks (List.zipWith (λk' u=>if k'=k then v else u) ks us):=by
   intro ks
   induction ks with
   |nil=>intro us;simp [kz]
   |cons a ks ih=>
    intro us;cases us with
    |nil=>simp [kz]
    |cons u us=>
     rw [jb,zzF,List.zipWith_cons_cons,jb,ih]
     by_cases e:a=k
     ·simp [e]
     ·rw [if_neg (λz=>e (tR z)),if_neg e]
  exact go ks us
 ·unfold kz;rw [List.map_append,List.zip_append (by rw [zzl];exact h)]
  rfl
def lr{α:Type}{ks:List (List Int)}{us:List α}(h:ks.length=us.length)(k:List Int)(v:α):(gq ks k).length=(d6 ks us k v).length:=by
 unfold gq d6;split
 ·rw [List.length_zipWith];omega
 ·simp [h]
theorem vi(k:List Int):∀{ks:List (List Int)} {us:List V},ks.length=us.length->fy (kz ks us) (ki k)=kz (fc ks k) (bX ks us k)
 |[],[],_=>rfl
 |a::ks,u::us,h=>by
  have ih:=vi k (ks:=ks) (us:=us) (by simpa using h)
  unfold fc bX;rw [jb,zz3]
  by_cases e:a=k
  ·subst e;rw [xn rfl,ih];simp [fc]
  ·rw [xo (λz=>e (tR z)),ih,if_neg e,if_pos (by simpa using e),jb]
   rfl
 |[],_::_,h=>by simp at h
 |_::_,[],h=>by simp at h
theorem sf{α:Type}(k:List Int):∀{ks:List (List Int)} {us:List α},ks.length=us.length->(fc ks k).length=(bX ks us k).length
 |[],[],_=>by unfold bX;rfl
 |a::ks,u::us,h=>by
  have ih:=sf k (ks:=ks) (us:=us) (by simpa using h)
  unfold fc bX;rw [zz3]
  by_cases e:a=k
  ·subst e;rw [if_neg (by simp),if_pos rfl];exact ih
  ·rw [if_neg e,if_pos (by simpa using e),zzL,zzL];exact congrArg (·+1) ih
 |[],_::_,h=>by simp at h
 |_::_,[],h=>by simp at h
section
variable{W:Wd}{G:Hp}
theorem kD{k:List Int}{p:PV}:∀{ks:List (List Int)} {ps:List PV} {us:List V},ai W G ps us->fb ks ps k=some p->∃v,fb ks us k=some v/\Rep W G p v
 |[],_,_,_,e=>by unfold fb at e;cases e
 |a::ks,[],_,_,e=>by unfold fb at e;cases e
 |a::ks,q::ps,_,l,e=>by
  obtain⟨v,r,rfl,h1,h2⟩:=l.aF
  unfold fb at e⊢
  by_cases h:a=k
  ·rw [if_pos h] at e⊢;cases e;exact⟨v,rfl,h1⟩
  ·rw [if_neg h] at e⊢;exact kD h2 e
theorem yA{k:List Int}{p:PV}{v:V}(hp:Rep W G p v):∀{ks:List (List Int)} {ps:List PV} {us:List V},ai W G ps us->ai W G (List.zipWith (λk' v=>if k'=k then p else v) ks ps) (List.zipWith (λk' u=>if k'=k then v else u) ks us)
 |[],_,_,_=>by simp! [List.zipWith_nil_left];exact .nil
 |a::ks,[],_,l=>by simp! [ai] at l;subst l;simp! [List.zipWith_nil_right];exact .nil
 |a::ks,q::ps,_,l=>by
  obtain⟨u,r,rfl,h1,h2⟩:=l.aF
  rw [List.zipWith_cons_cons,List.zipWith_cons_cons];refine .cons ?_ (yA hp h2);split
  ·exact hp
  ·exact h1
def pL{ks:List (List Int)}{ps:List PV}{us:List V}{k:List Int}{p:PV}{v:V}(l:ai W G ps us)(hp:Rep W G p v):ai W G (d6 ks ps k p) (d6 ks us k v):=by
 unfold d6;split
 ·exact yA hp l
 ·exact l.append (.cons hp .nil)
theorem lP{k:List Int}:∀{ks:List (List Int)} {ps:List PV} {us:List V},ai W G ps us->ai W G (bX ks ps k) (bX ks us k)
 |[],_,_,_=>by unfold bX;exact .nil
 |a::ks,[],_,l=>by simp! [ai] at l;subst l;unfold bX;exact .nil
 |a::ks,q::ps,_,l=>by
  obtain⟨u,r,rfl,h1,h2⟩:=l.aF
  unfold bX;split
  ·exact lP h2
  ·exact .cons h1 (lP h2)
end
theorem oG:∀{xs:List PV} {ns:List Int},intsOf xs=some ns->xs=ns.map .int
 |[],_,e=>by cases e;rfl
 |.int i::r,_,e=>by
  unfold intsOf at e;obtain⟨ns,h1,rfl⟩:=zzJ.mp e
  rw [oG h1];rfl
 |.aK::_,_,e=>by cases e
 |.bl _::_,_,e=>by cases e
 |.str _::_,_,e=>by cases e
 |.tup _::_,_,e=>by cases e
 |.lst _::_,_,e=>by cases e
 |.exc _::_,_,e=>by cases e
 |.bM _ _::_,_,e=>by cases e
def dz{p:PV}{k:List Int}(h:gQ p=some k):p=pN k:=by
 unfold gQ at h;split at h
 ·rw [oG h];rfl
 ·cases h
end Ci
namespace L2
open PySem PySem.Spec PyProof.Rows
end L2
namespace Ci
open PySem L2
def lW{n:Nat}(h:n<=mU):n<=sizeLine:=zzU h (by decide)
section
variable{X:Cx}{W:Wd}{H0 G H:Hp}
def cg(W:Wd)(G H:Hp)(r:PV)(Q:VK):Prop:=∀v G' H',aD W G H G' H'->Rep W G' r v->Q v H'
def cg.at{r:PV}{Q:VK}{v:V}(h:cg W G H r Q)(s:az G H)(k:Rep W G r v):Q v H:=h v G H (.refl s) k
def cg.tup{xs:List PV}{Q:VK}{vs:List V}{p:Addr}(h:cg W G H (.tup xs) Q)(s:az G H)(k:ai W G xs vs)(hp:H p=none):Q (.ref p) (upd H p (.tup vs)):=
 h _ _ _ (.new s hp) (.t (.inl aj) (ai.same (aY (s.free hp)) xs k))
def cg.lst{xs:List PV}{Q:VK}{vs:List V}{p:Addr}(h:cg W G H (.lst xs) Q)(s:az G H)(k:ai W G xs vs)(hp:H p=none):Q (.ref p) (upd H p (.lst vs)):=
 h _ _ _ (.new s hp) (.l (.inl (.inl aj)) (ai.same (aY (s.free hp)) xs k))
theorem kZ{f:PV->PV->Bool}:∀{xs ys:List PV},xs.length≠ys.length->eqs f xs ys=false
 |[],[],h=>absurd rfl h
 |_::xs,_::ys,h=>by simp! [eqs];rw [kZ (xs:=xs) (ys:=ys) (λz=>h (by simp [z]))];simp
 |[],_::_,_=>rfl
 |_::_,[],_=>rfl
theorem kK{f:PV->PV->Bool}:∀{xs ys:List PV},xs.length=ys.length->eqs f xs ys=(List.range xs.length).all λj=>f (xs.getD j .aK) (ys.getD j .aK)
 |[],[],_=>rfl
 |x::xs,y::ys,h=>by
  simp! [eqs];rw [kK (xs:=xs) (ys:=ys) (by simpa using h),zzL,List.range_succ_eq_map,List.all_cons,List.all_map]
  rfl
 |[],_::_,h=>by simp at h
 |_::_,[],h=>by simp at h
def oh{f:PV->PV->Bool}:∀{xs ys:List PV},((List.range (min xs.length ys.length)).all (λj=>f (xs.getD j .aK) (ys.getD j .aK))&&xs.length==ys.length)=eqs f xs ys:=λ{xs ys}=>by
 by_cases h:xs.length=ys.length
 ·rw [kK h,h,Nat.min_self,beq_self_eq_true,Bool.and_true]
 ·rw [kZ h,beq_eq_false_iff_ne.mpr h,Bool.and_false]
theorem rh{f:PV->PV->Bool}:∀{xs ys:List PV},xs.length=ys.length->(∀(j:Nat) x y,xs[j]?=some x->ys[j]?=some y->f x y=true)->eqs f xs ys=true
 |[],[],_,_=>rfl
 |x::xs,y::ys,h,k=>by
  simp! [eqs];rw [k 0 x y rfl rfl,rh (xs:=xs) (ys:=ys) (by simpa using h) λj a b ha hb=>k (j+1) a b (by simpa using ha) (by simpa using hb)]
  rfl
 |[],_::_,h,_=>by simp at h
 |_::_,[],h,_=>by simp at h
def iU(hK:W.K=X.K){a:Addr}{vs:List V}(h:nB W.K H a vs):df X.K H a vs:=by
 rw [hK] at h;rcases h with h|⟨ak,n,h1,h2,h3⟩
 ·exact .inl h
 ·exact .inr ⟨_,ak,n,h1,rfl,rfl,rfl,h2,h3⟩
def rQ{aa:List (Addr×Obj)}{σ:St}{s:Shared}(I:Inv X aa σ H s){a:Addr}{vs us:List V}(h1:dI X.K H a vs)(h2:df X.K H a us):False:=by
 obtain⟨ak,_,⟨o,e,hc,_⟩,_⟩:=I.tuple h1
 obtain⟨dN,_,⟨o2,n,e2,hc2,_⟩,_⟩:=I.list h2
 rw [e] at e2;cases e2;rw [hc] at hc2;exact absurd hc2 (by decide)
theorem gH{α:Type}:∀{xs ys:List α},xs.length=ys.length->(∀(j:Nat) x y,xs[j]?=some x->ys[j]?=some y->x=y)->xs=ys
 |[],[],_,_=>rfl
 |x::xs,y::ys,h,k=>by rw [k 0 x y rfl rfl,gH (xs:=xs) (ys:=ys) (by simpa using h) λj a b ha hb=>k (j+1) a b (by simpa using ha) (by simpa using hb)]
 |[],_::_,h,_=>by simp at h
 |_::_,[],h,_=>by simp at h
def Ys(X:Cx)(W:Wd)(G H:Hp):PV->V->Prop
 |.aK,v=>v=.aK
 |.bl b,v=>v=.bl b
 |.int i,v=>v=.int i
 |.str z,v=>v=.str z
 |.tup xs,v=>∃a,v=.ref a/\∃vs,dI X.K H a vs/\ai W G xs vs
 |.lst xs,v=>∃a,v=.ref a/\∃vs,df X.K H a vs/\ai W G xs vs
 |_,_=>False
def RG(hK:W.K=X.K)(sg:az G H){n:Nat}{p:PV}{v:V}(hp:plain n p=true)(h:Top W H0 G H p v):Ys X W G H p v:=by
 cases p with
 |aK=>exact h.aK
 |bl b=>exact h.bl
 |int i=>exact h.int
 |str z=>exact h.str
 |tup xs=>
  obtain⟨a,vs,e,sq,l⟩:=h.tup sg
  rw [hK] at sq;exact⟨a,e,vs,sq,l⟩
 |lst xs=>
  obtain⟨a,vs,e,sq,l⟩:=h.lst sg
  exact⟨a,e,vs,iU hK sq,l⟩
 |exc c=>cases n<;>exact aM hp
 |bM a b=>cases n<;>exact aM hp
def uY{aa:List (Addr×Obj)}{σ:St}{s:Shared}(I:Inv X aa σ H s)(hK:W.K=X.K)(sg:az G H):∀(n:Nat) {p q:PV} {v:V},plain n p=true->plain n q=true->Top W H0 G H p v->Top W H0 G H q v->p=q:=by
 intro n
 induction n with
 |zero=>
  intro p q v hp hq h1 h2;have a:=RG hK sg hp h1
  have b:=RG hK sg hq h2
  cases p<;>cases q<;>first|exact aM hp|exact aM hq|(cases a;cases b;rfl)|(cases a;cases b)
 |succ n ih=>
  intro p q v hp hq h1 h2;have a:=RG hK sg hp h1
  have b:=RG hK sg hq h2
  have el:∀{xs ys:List PV} {vs:List V},xs.all (plain n)=true->ys.all (plain n)=true->ai W G xs vs->ai W G ys vs->xs=ys:=λ{xs ys vs} a1 a2 l1 l2=>
   gH (by rw [<-l1.length,l2.length]) λj x y ex ey=>by
    obtain⟨u,eu,ku⟩:=l1.mR ex
    obtain⟨y',ey',ky⟩:=l2.get eu
    rw [ey] at ey';cases ey';exact ih (zzT.mp a1 _ (zzD ex)) (zzT.mp a2 _ (zzD ey)) (.inl ku) (.inl ky)
  cases p<;>cases q<;>first|exact aM hp|exact aM hq|(cases a;cases b;done)|(cases a;cases b;rfl)|(obtain⟨_,e1,_⟩:=a;cases b;cases e1;done)|(obtain⟨_,e2,_⟩:=b;cases a;cases e2;done)|(obtain⟨x,rfl,vs,s1,l1⟩:=a;obtain⟨y,e2,us,s2,l2⟩:=b;cases e2;first|exact(rQ I s1 s2).elim|exact(rQ I s2 s1).elim|(cases I.oK s1 s2;rw [el hp hq l1 l2])|(cases I.rN s1 s2;rw [el hp hq l1 l2]))
def y9:∀{n:Nat} {p:PV},plain n p=true->qz n p p=true:=by
 intro n
 induction n with
 |zero=>intro p h;cases p<;>first|exact aM h|rfl|exact beq_self_eq_true _
 |succ n ih=>
  intro p h;cases p<;>first|exact aM h|rfl|exact beq_self_eq_true _|exact rh rfl λj x y e1 e2=>by rw [e1] at e2;cases e2;exact ih (zzT.mp h _ (zzD e1))
def vz{aa:List (Addr×Obj)}{σ:St}{s:Shared}(I:Inv X aa σ H s)(hK:W.K=X.K)(sg:az G H):∀(n:Nat) {p q:PV} {v:V},plain n p=true->plain n q=true->Top W H0 G H p v->Top W H0 G H q v->qz n p q=true:=λn {p q v} hp hq h1 h2=>by
 cases uY I hK sg n hp hq h1 h2;exact y9 hp
def kO{x:V}{a:Addr}(r:RelV x (.ref a)):x=.ref a:=by
 cases x<;>first|(cases r;rfl)|(obtain⟨_,h⟩:=r;cases h)|cases r
def Xq(W:Wd)(G:Hp)(h:Heap):PV->Value->Prop
 |.aK,v=>∃_t:Nat,v=.none/\True
 |.bl b,v=>∃_t:Nat,v=.bool b/\True
 |.int i,v=>∃t,v=.int i t/\True
 |.str z,v=>∃t,v=.str z t/\True
 |.tup xs,v=>∃a,v=.ref a/\∃ak vs,ai W G xs vs/\Vals vs ak/\h.IsTuple a ak.toArray
 |.lst xs,v=>∃a,v=.ref a/\∃ak vs,ai W G xs vs/\Vals vs ak/\h.IsList a ak.toArray
 |_,_=>False
def FU{aa:List (Addr×Obj)}{σ:St}{s:Shared}(I:Inv X aa σ H s)(hK:W.K=X.K)(sg:az G H){n:Nat}{p:PV}{v:V}{v':Value}(hp:plain n p=true)(h:Top W H0 G H p v)(r:RelV v v'):Xq W G s.heap p v':=by
 cases p with
 |aK=>cases h.aK;cases r;exact⟨0,rfl,trivial⟩
 |bl b=>cases h.bl;cases r;exact⟨0,rfl,trivial⟩
 |int i=>cases h.int;obtain⟨t,rfl⟩:=r;exact⟨t,rfl,trivial⟩
 |str z=>cases h.str;obtain⟨t,rfl⟩:=r;exact⟨t,rfl,trivial⟩
 |tup xs=>
  obtain⟨a,vs,rfl,sq,l⟩:=h.tup sg
  rw [hK] at sq;cases r;obtain⟨ak,q,z,_⟩:=I.tuple sq
  exact⟨a,rfl,ak,vs,l,q,z⟩
 |lst xs=>
  obtain⟨a,vs,rfl,sq,l⟩:=h.lst sg
  cases r;obtain⟨ak,q,z,_⟩:=I.list (iU hK sq)
  exact⟨a,rfl,ak,vs,l,q,z.isList⟩
 |exc c=>cases n<;>exact aM hp
 |bM a b=>cases n<;>exact aM hp
def rL(W:Wd)(G:Hp)(s:Shared)(n:Nat)(A:Around)(xs ys:List PV):Prop:=∀{vs us:List V} {ak dN:List Value},ai W G xs vs->ai W G ys us->Vals vs ak->Vals us dN->∀j (h1:j<ak.toArray.size) (h2:j<dN.toArray.size),SeqAt.EqAt A s ak.toArray[j] dN.toArray[j] (qz n (xs.getD j .aK) (ys.getD j .aK))
theorem Ab{s:Shared}{n:Nat}{A:Around}{xs ys:List PV}(h:∀{p q:PV} {v u:V} {v' u':Value},plain n p=true->plain n q=true->Rep W G p v->Rep W G q u->RelV v v'->RelV u u'->SeqAt.EqAt A s v' u' (qz n p q))(a1:xs.all (plain n)=true)(a2:ys.all (plain n)=true):rL W G s n A xs ys:=λ{vs us ak dN} l1 l2 q1 q2 j g1 g2=>by
 obtain⟨x,hx,rx⟩:=yT q1 g1
 obtain⟨y,hy,ry⟩:=yT q2 g2
 obtain⟨px,ex,kx⟩:=l1.get hx
 obtain⟨py,ey,ky⟩:=l2.get hy
 rw [zzK,zzK,ex,ey];exact h (zzT.mp a1 _ (zzD ex)) (zzT.mp a2 _ (zzD ey)) kx ky rx ry
def uS{s:Shared}{n:Nat}{A:Around}{a b:Addr}{xs ys:List PV}(hu:A.units<cLine)(el:rL W G s n A.in1 xs ys)(k1:∃ak vs,ai W G xs vs/\Vals vs ak/\s.heap.IsTuple a ak.toArray)(k2:∃ak vs,ai W G ys vs/\Vals vs ak/\s.heap.IsTuple b ak.toArray):SeqAt.RcAt A s (.ref a) (.ref b) (eqs (qz n) xs ys):=by
 obtain⟨ak,vs,l,q1,z1⟩:=k1
 obtain⟨dN,us,l2,q2,z2⟩:=k2
 have m1:ak.length=xs.length:=by rw [<-q1.length,l.length]
 have m2:dN.length=ys.length:=by rw [<-q2.length,l2.length]
 have:=SeqAt.RcAt.tuples (e:=λj=>qz n (xs.getD j .aK) (ys.getD j .aK)) z1 z2 hu (el l l2 q1 q2)
 rw [zzC,zzC,m1,m2,oh] at this;exact this
def u6{s:Shared}{n:Nat}{A:Around}{a b:Addr}{xs ys:List PV}(hu:A.units<cLine)(el:rL W G s n A.in1 xs ys)(k1:∃ak vs,ai W G xs vs/\Vals vs ak/\s.heap.IsList a ak.toArray)(k2:∃ak vs,ai W G ys vs/\Vals vs ak/\s.heap.IsList b ak.toArray):SeqAt.RcAt A s (.ref a) (.ref b) (eqs (qz n) xs ys):=by
 obtain⟨ak,vs,l,q1,z1⟩:=k1
 obtain⟨dN,us,l2,q2,z2⟩:=k2
 have m1:ak.length=xs.length:=by rw [<-q1.length,l.length]
 have m2:dN.length=ys.length:=by rw [<-q2.length,l2.length]
 by_cases hl:xs.length=ys.length
 ·have:=SeqAt.RcAt.lists (e:=λj=>qz n (xs.getD j .aK) (ys.getD j .aK)) z1 z2 (by rw [zzC,zzC];omega) hu (el l l2 q1 q2)
  rw [zzC,m1,<-kK hl] at this;exact this
 ·have:=SeqAt.RcAt.lists_lengths z1 z2 (by rw [zzC,zzC,m1,m2];simp [hl]) hu
  rw [kZ hl];exact this
open SeqAt.EqAt in
def yR{aa:List (Addr×Obj)}{σ:St}{s:Shared}(I:Inv X aa σ H s)(hK:W.K=X.K)(sg:az G H):∀(n:Nat) {A:Around} {p q:PV} {v u:V} {v' u':Value},A.units+(n+1)<cLine->plain n p=true->plain n q=true->Top W H0 G H p v->Top W H0 G H q u->RelV v v'->RelV u u'->
 SeqAt.EqAt A s v' u' (qz n p q):=by
 intro n
 induction n with
 |zero=>
  intro A p q v u v' u' hu hp hq h1 h2 r1 r2;have a:=FU I hK sg hp h1 r1
  have b:=FU I hK sg hq h2 r2
  cases p<;>cases q<;>first|exact aM hp|exact aM hq|(obtain⟨t1,rfl,_⟩:=a;obtain⟨t2,rfl,_⟩:=b)
  exact same _
  exact none_bool _
  exact none_int _ _
  exact none_str _ _
  exact bool_none _
  exact bool_bool _ _
  exact bool_int _ _ _
  exact bool_str _ _ _
  exact int_none _ _
  exact int_bool _ _ _
  exact int_int _ _ _ _
  exact int_str _ _ _ _
  exact str_none _ _
  exact str_bool _ _ _
  exact str_int _ _ _ _
  exact str_str _ _ _ _
 |succ n ih=>
  intro A p q v u v' u' hu hp hq h1 h2 r1 r2;have cA:A.units<cLine:=by omega
  have a:=FU I hK sg hp h1 r1
  have b:=FU I hK sg hq h2 r2
  have el:∀{xs ys:List PV},xs.all (plain n)=true->ys.all (plain n)=true->rL W G s n A.in1 xs ys:=λa1 a2=>Ab (λhp hq h1 h2 r1 r2=>ih (by show A.units+1+(n+1)<_;omega) hp hq (.inl h1) (.inl h2) r1 r2) a1 a2
  cases p<;>cases q<;>first|exact aM hp|exact aM hq|(obtain⟨t1,rfl,k1⟩:=a;obtain⟨t2,rfl,k2⟩:=b;try obtain⟨_,_,_,_,z1⟩:=id k1;try obtain⟨_,_,_,_,z2⟩:=id k2)
  exact same _
  exact none_bool _
  exact none_int _ _
  exact none_str _ _
  exact none_tuple z2 cA
  exact none_list z2 cA
  exact bool_none _
  exact bool_bool _ _
  exact bool_int _ _ _
  exact bool_str _ _ _
  exact bool_tuple _ z2 cA
  exact bool_list _ z2 cA
  exact int_none _ _
  exact int_bool _ _ _
  exact int_int _ _ _ _
  exact int_str _ _ _ _
  exact int_tuple _ _ z2 cA
  exact int_list _ _ z2 cA
  exact str_none _ _
  exact str_bool _ _ _
  exact str_int _ _ _ _
  exact str_str _ _ _ _
  exact str_tuple _ _ z2 cA
  exact str_list _ _ z2 cA
  exact tuple_none z1 cA
  exact tuple_bool _ z1 cA
  exact tuple_int _ _ z1 cA
  exact tuple_str _ _ z1 cA
  by_cases iK:t1=t2
  ·subst iK;cases kO r1;cases kO r2;rw [vz I hK sg (n+1) hp hq h1 h2];exact same _
  ·exact of_refs iK (uS cA (el hp hq) k1 k2)
  exact tuple_list z1 z2 cA
  exact list_none z1 cA
  exact list_bool _ z1 cA
  exact list_int _ _ z1 cA
  exact list_str _ _ z1 cA
  exact list_tuple z1 z2 cA
  by_cases iK:t1=t2
  ·subst iK;cases kO r1;cases kO r2;rw [vz I hK sg (n+1) hp hq h1 h2];exact same _
  ·exact of_refs iK (u6 cA (el hp hq) k1 k2)
end
section
variable{X:Cx}{W:Wd}{H0 G H:Hp}
open SeqAt.RcAt in
def Rn{aa:List (Addr×Obj)}{σ:St}{s:Shared}(I:Inv X aa σ H s)(hK:W.K=X.K)(sg:az G H)(n:Nat){A:Around}{p q:PV}{v u:V}{v' u':Value}(hu:A.units+(n+2)<cLine)(hp:plain (n+1) p=true)(hq:plain (n+1) q=true)(h1:Top W H0 G H p v)(h2:Top W H0 G H q u)(r1:RelV v v')(r2:RelV u u'):
 SeqAt.RcAt A s v' u' (qz (n+1) p q):=by
 have cA:A.units<cLine:=by omega
 have a:=FU I hK sg hp h1 r1
 have b:=FU I hK sg hq h2 r2
 have el:∀{xs ys:List PV},xs.all (plain n)=true->ys.all (plain n)=true->rL W G s n A.in1 xs ys:=λa1 a2=>Ab (λhp hq h1 h2 r1 r2=>yR (H0:=H0) I hK sg n (by show A.units+1+(n+1)<_;omega) hp hq (.inl h1) (.inl h2) r1 r2) a1 a2
 cases p<;>cases q<;>first|exact aM hp|exact aM hq|(obtain⟨t1,rfl,k1⟩:=a;obtain⟨t2,rfl,k2⟩:=b;try obtain⟨_,_,_,_,z1⟩:=id k1;try obtain⟨_,_,_,_,z2⟩:=id k2)
 exact none_none
 exact none_bool _
 exact none_int _ _
 exact none_str _ _
 exact none_tuple z2 cA
 exact none_list z2 cA
 exact bool_none _
 exact bool_bool _ _
 exact bool_int _ _ _
 exact bool_str _ _ _
 exact bool_tuple _ z2 cA
 exact bool_list _ z2 cA
 exact int_none _ _
 exact int_bool _ _ _
 exact int_int _ _ _ _
 exact int_str _ _ _ _
 exact int_tuple _ _ z2 cA
 exact int_list _ _ z2 cA
 exact str_none _ _
 exact str_bool _ _ _
 exact str_int _ _ _ _
 exact str_str _ _ _ _
 exact str_tuple _ _ z2 cA
 exact str_list _ _ z2 cA
 exact tuple_none z1 cA
 exact tuple_bool _ z1 cA
 exact tuple_int _ _ z1 cA
 exact tuple_str _ _ z1 cA
 exact uS cA (el hp hq) k1 k2
 exact tuple_list z1 z2 cA
 exact list_none z1 cA
 exact list_bool _ z1 cA
 exact list_int _ _ z1 cA
 exact list_str _ _ z1 cA
 exact list_tuple z1 z2 cA
 exact u6 cA (el hp hq) k1 k2
def xy{s:Shared}{n:Nat}{A:Around}{a b:Addr}{xs ys:List PV}(hu:A.units<cLine)(el:rL W G s n A.in1 xs ys)(k1:∃ak vs,ai W G xs vs/\Vals vs ak/\s.heap.IsTuple a ak.toArray)(k2:∃ak vs,ai W G ys vs/\Vals vs ak/\s.heap.IsTuple b ak.toArray):SeqAt.RcNeAt A s (.ref a) (.ref b) (!eqs (qz n) xs ys):=by
 obtain⟨ak,vs,l,q1,z1⟩:=k1
 obtain⟨dN,us,l2,q2,z2⟩:=k2
 have m1:ak.length=xs.length:=by rw [<-q1.length,l.length]
 have m2:dN.length=ys.length:=by rw [<-q2.length,l2.length]
 have:=SeqAt.RcNeAt.tuples (e:=λj=>qz n (xs.getD j .aK) (ys.getD j .aK)) z1 z2 hu (el l l2 q1 q2)
 rw [zzC,zzC,m1,m2,oh] at this;exact this
def xJ{s:Shared}{n:Nat}{A:Around}{a b:Addr}{xs ys:List PV}(hu:A.units<cLine)(el:rL W G s n A.in1 xs ys)(k1:∃ak vs,ai W G xs vs/\Vals vs ak/\s.heap.IsList a ak.toArray)(k2:∃ak vs,ai W G ys vs/\Vals vs ak/\s.heap.IsList b ak.toArray):SeqAt.RcNeAt A s (.ref a) (.ref b) (!eqs (qz n) xs ys):=by
 obtain⟨ak,vs,l,q1,z1⟩:=k1
 obtain⟨dN,us,l2,q2,z2⟩:=k2
 have m1:ak.length=xs.length:=by rw [<-q1.length,l.length]
 have m2:dN.length=ys.length:=by rw [<-q2.length,l2.length]
 by_cases hl:xs.length=ys.length
 ·have:=SeqAt.RcNeAt.lists (e:=λj=>qz n (xs.getD j .aK) (ys.getD j .aK)) z1 z2 (by rw [zzC,zzC];omega) hu (el l l2 q1 q2)
  rw [zzC,m1,<-kK hl] at this;exact this
 ·have:=SeqAt.RcNeAt.lists_lengths z1 z2 (by rw [zzC,zzC,m1,m2];simp [hl]) hu
  rw [kZ hl];exact this
open SeqAt.RcNeAt in
def CP{aa:List (Addr×Obj)}{σ:St}{s:Shared}(I:Inv X aa σ H s)(hK:W.K=X.K)(sg:az G H)(n:Nat){A:Around}{p q:PV}{v u:V}{v' u':Value}(hu:A.units+(n+2)<cLine)(hp:plain (n+1) p=true)(hq:plain (n+1) q=true)(h1:Top W H0 G H p v)(h2:Top W H0 G H q u)(r1:RelV v v')(r2:RelV u u'):
 SeqAt.RcNeAt A s v' u' (!qz (n+1) p q):=by
 have cA:A.units<cLine:=by omega
 have a:=FU I hK sg hp h1 r1
 have b:=FU I hK sg hq h2 r2
 have el:∀{xs ys:List PV},xs.all (plain n)=true->ys.all (plain n)=true->rL W G s n A.in1 xs ys:=λa1 a2=>Ab (λhp hq h1 h2 r1 r2=>yR (H0:=H0) I hK sg n (by show A.units+1+(n+1)<_;omega) hp hq (.inl h1) (.inl h2) r1 r2) a1 a2
 cases p<;>cases q<;>first|exact aM hp|exact aM hq|(obtain⟨t1,rfl,k1⟩:=a;obtain⟨t2,rfl,k2⟩:=b;try obtain⟨_,_,_,_,z1⟩:=id k1;try obtain⟨_,_,_,_,z2⟩:=id k2)
 exact none_none
 exact none_bool _
 exact none_int _ _
 exact none_str _ _
 exact none_tuple z2 cA
 exact none_list z2 cA
 exact bool_none _
 exact bool_bool _ _
 exact bool_int _ _ _
 exact bool_str _ _ _
 exact bool_tuple _ z2 cA
 exact bool_list _ z2 cA
 exact int_none _ _
 exact int_bool _ _ _
 exact int_int _ _ _ _
 exact int_str _ _ _ _
 exact int_tuple _ _ z2 cA
 exact int_list _ _ z2 cA
 exact str_none _ _
 exact str_bool _ _ _
 exact str_int _ _ _ _
 exact str_str _ _ _ _
 exact str_tuple _ _ z2 cA
 exact str_list _ _ z2 cA
 exact tuple_none z1 cA
 exact tuple_bool _ z1 cA
 exact tuple_int _ _ z1 cA
 exact tuple_str _ _ z1 cA
 exact xy cA (el hp hq) k1 k2
 exact tuple_list z1 z2 cA
 exact list_none z1 cA
 exact list_bool _ z1 cA
 exact list_int _ _ z1 cA
 exact list_str _ _ z1 cA
 exact list_tuple z1 z2 cA
 exact xJ cA (el hp hq) k1 k2
end
end Ci
namespace L2
open PySem PySem.Spec PyProof.Rows
open PySem.AutoSeq1 (wpAny_loadPart')
theorem tM(l:Addr)(items:Array Value)(n:Nat)(dd:Option Addr)(sl:Array (Option Value))(u:Tok):
 Meets (Builtin.«tuple.__mul__» ⟨[.ref l,.int 1 u],[]⟩) (λ_ R s=>s.heap.get? l=some {cls:=.type "tuple",dict:=dd,data:=.seq items n,slots:=sl}/\R (.ok (.ret (Value.ref l))) s):=
 .of_wp λprog w A R s h=>by
  obtain⟨hp,g,d,tk,os⟩:=s
  obtain⟨hl,h⟩:=h
  have f1:=PySem.AutoSeq1.idx_int
  have f2:=PySem.AutoSeq1.sub_tuple_tuple
  wp_walk using wpAny_loadPart' hl
  exact⟨_,rfl,h⟩
def Bv{X:Cx}:ef X (binaryOp .Mult) (λx y H Q=>∃a xs,x=.ref a/\y=.int 1/\dI X.K H a xs/\Q (.ref a) H):=by
 intro aa s σ H x y v u Q I rx ry h;obtain⟨a,xs,rfl,rfl,ha,q⟩:=h
 cases rx;obtain⟨t,rfl⟩:=ry
 obtain⟨ak,r,p1,_⟩:=I.tuple ha
 obtain⟨⟨cls,dd,data,sl⟩,ho,hc,k,hd⟩:=id p1
 simp only at hc hd;subst hc hd;refine wpAny_binaryOp_repeat_ref (T:="tuple") (U:="int") (by decide) ⟨_,ho,rfl⟩ (λs'=>typeIs_int s' 1 t) eL PySem.F.fills_int_mul PySem.F.slot_int_rmul i7 PySem.F.slot_int_index.lookup
  (call_meets PySem.F.slot_int_rmul (typeIs_int s 1 t) PySem.F.entry_int_rmul (PySem.F.args_int_rmul_2 _ _) (gu 1 t a ak.toArray k dd sl)
   ⟨ho,rfl,⟨_,ho,rfl⟩,call_meets PySem.F.slot_tuple_mul ⟨_,ho,rfl⟩ PySem.F.entry_tuple_mul (PySem.F.args_tuple_mul_2 _ _) (tM a ak.toArray k dd sl t) ⟨ho,?_⟩⟩)
 exact⟨.ref a,H,I,rfl,q⟩
def za(z:Str):pg z 1=z:=by
 unfold pg;simp
def rb{X:Cx}:ef X (binaryOp .Mult) (λx y H Q=>∃z,x=.str z/\y=.int 1/\z.length<1000/\Q (.str z) H):=by
 intro aa s σ H x y v u Q I rx ry h;obtain⟨z,rfl,rfl,hz,q⟩:=h
 obtain⟨t,rfl⟩:=rx
 obtain⟨t',rfl⟩:=ry
 refine PySem.P.mul_str (by decide) (λ_ _=>?_) (λ_ _=>?_) ?_
 ·rw [Int.ediv_one];omega
 ·show Builtin.Str.tooLong _=false
  unfold Builtin.Str.tooLong;have XH:(1000000:Nat)<=sizeLine:=by decide
  exact zz0 (by show¬sizeLine<z.length*1;omega)
 rw [if_neg (by decide),if_pos (by rfl)];exact⟨.str z,H,I.tok _,⟨_,rfl⟩,q⟩
end L2
namespace Ci
open PySem L2
section
variable{X:Cx}{W:Wd}
def tm(hK:W.K=X.K){aa:List (Addr×Obj)}{σ:St}{H:Hp}{s:Shared}{a:Addr}{xs:List V}(I:Inv X aa σ H s)(h:nB W.K H a xs):∃(ak:List Value) (n:Nat),Vals xs ak/\xs.length=ak.length/\xs.length<=sizeLine/\s.heap.get? a=some {cls:=.type "list",data:=.seq ak.toArray n}:=by
 rw [hK] at h;rcases h with h|⟨ak,n,h1,h2,h3⟩
 ·obtain⟨z,ak,n,r,e⟩:=h.ok I.aH
  exact⟨ak,n,r,r.length,z,e⟩
 ·refine⟨ak.toList,n,h3,h3.length,?_,by simpa using I.nq a _ h1⟩;rw [h3.length,zzd];exact h2
def Dk(hK:W.K=X.K):ef X (binaryOp .Add) (λx y H Q=>∃l b xs zs,x=.ref l/\y=.ref b/\nB W.K H l xs/\nB W.K H b zs/\xs.length+zs.length<=sizeLine/\∀p,H p=none->Q (.ref p) (upd H p (.lst (xs++zs)))):=by
 intro aa s σ H x y v u Q I rx ry h;obtain⟨l,b,xs,zs,rfl,rfl,hH,hB,hz,q⟩:=h
 cases rx;cases ry;obtain⟨ak,n,r,hl,_,e⟩:=tm hK I hH
 obtain⟨dN,n2,r2,Px,_,e2⟩:=tm hK I hB
 refine PySem.P.add_list e e2 ?_ (by rw [zzC,zzC];omega);have ea:ak.toArray++dN.toArray=(ak++dN).toArray:=by simp
 rw [ea];exact⟨.ref _,_,I.Qw (t':=s.toks) (r.append r2) (by rw [zzM];omega),rfl,q _ I.fresh⟩
def E5(hK:W.K=X.K):ef X (binaryOp .Mult) (λx y H Q=>∃l k xs,x=.ref l/\y=.int k/\nB W.K H l xs/\0<=k/\k<1000/\xs.length<1000/\∀p,H p=none->Q (.ref p) (upd H p (.lst (List.replicate k.toNat xs).flatten))):=by
 intro aa s σ H x y v u Q I rx ry h;obtain⟨l,k,xs,rfl,rfl,hH,h1,h2,h3,q⟩:=h
 cases rx;obtain⟨t,rfl⟩:=ry
 obtain⟨ak,n,r,hl,_,e⟩:=tm hK I hH
 have hz:xs.length*k.toNat<=sizeLine:=by
  have:xs.length*k.toNat<=1000*1000:=Nat.mul_le_mul (by omega) (by omega)
  have BZ:(1000000:Nat)<=sizeLine:=by decide
  omega
 have hlen:ak.toArray.size*k.toNat<=sizeLine:=by rw [zzC,<-hl];exact hz
 have Ox:¬ak.toArray.size*k.toNat>(2^63-1)/8:=by
  have:(sizeLine:Nat)<=(2^63-1)/8:=by decide
  omega
 have Us:¬(!Builtin.List.listFitsIndex k)=true:=by
  rw [fitsIndex_both (by omega) (by omega)];exact zzf
 have BG:¬Builtin.List.listTooLong (ak.toArray.size*k.toNat)=true:=by
  rw [qD hlen];exact zzf
 have m9:List.foldl (λx1 x2=>x1++x2) #[] (List.replicate (if ak.toArray.isEmpty=true then 0 else k.toNat) ak.toArray)=(List.replicate k.toNat ak).flatten.toArray:=by
  have f0:∀m:Nat,List.foldl (λx1 x2=>x1++x2) #[] (List.replicate m ak.toArray)=(List.replicate m ak).flatten.toArray:=λm=>by
   have:=foldl_rep ak m []
   rw [List.nil_append] at this;exact this
  rw [f0];cases ak with
  |nil=>simp
  |cons a r'=>rw [if_neg (by simp)]
 refine wpAny_binaryOp_repeat_ref (T:="list") (U:="int") (by decide) ⟨_,e,rfl⟩ (λs'=>typeIs_int s' k t) noFill_list_mul PySem.F.fills_int_mul PySem.F.slot_int_rmul repeat_list PySem.F.slot_int_index.lookup
  (call_meets PySem.F.slot_int_rmul (typeIs_int s k t) PySem.F.entry_int_rmul (PySem.F.args_int_rmul_2 _ _) (int___rmul___int_list k t l ak.toArray n)
   ⟨e,rfl,⟨_,e,rfl⟩,call_meets PySem.F.slot_list_mul ⟨_,e,rfl⟩ PySem.F.entry_list_mul (PySem.F.args_list_mul_2 _ _) (AutoListH.list___mul___list_int_3 l ak.toArray n k t Us Ox BG) ⟨e,?_⟩⟩)
 rw [m9];exact⟨.ref _,_,I.Qw (t':=s.toks) (r.rep k.toNat) (by rw [len_rep,Nat.mul_comm];exact hz),rfl,q _ I.fresh⟩
theorem ai.rep{G:Hp}{ps:List PV}{vs:List V}(h:ai W G ps vs):∀k:Nat,ai W G (List.replicate k ps).flatten (List.replicate k vs).flatten
 |0=>.nil
 |k+1=>by
  rw [List.replicate_succ,List.replicate_succ,List.flatten_cons,List.flatten_cons];exact h.append (h.rep k)
def Pu:FQ->Operator
 |.add=>.Add|.sub=>.Sub|.mul=>.Mult|.mod=>.Mod|.fdiv=>.FloorDiv
noncomputable def sI(W:Wd)(f:PV->PV->Res PV):R2:=λx y H Q=>∃H0 G p q r,az G H/\Top W H0 G H p x/\Top W H0 G H q y/\f p q=.ok r/\cg W G H r Q
def IL(hK:W.K=X.K)(o:FQ):ef X (binaryOp (Pu o)) (sI W (binOp o)):=by
 intro aa s σ H x y v u Q I rx ry h;obtain⟨H0,G,p,q,r,sg,t1,t2,e,wq⟩:=h
 unfold binOp at e;split at e
 ·cases e;exact Jx aa s σ H x y v u Q I rx ry ⟨_,_,t1.int,t2.int,wq.at sg .i⟩
 ·split at e
  ·rename_i hl;cases e;exact tX aa s σ H x y v u Q I rx ry ⟨_,_,t1.str,t2.str,lW hl,wq.at sg .s⟩
  ·cases e
 ·split at e
  ·rename_i hl;cases e;obtain⟨a,vs,rfl,h1,l1⟩:=t1.lst sg
   obtain⟨b,us,rfl,h2,l2⟩:=t2.lst sg
   exact Dk hK aa s σ H _ _ v u Q I rx ry ⟨a,b,vs,us,rfl,rfl,h1,h2,by rw [l1.length,l2.length];exact lW hl,λp hp=>wq.lst sg (l1.append l2) hp⟩
  ·cases e
 ·cases e;exact IV aa s σ H x y v u Q I rx ry ⟨_,_,t1.int,t2.int,wq.at sg .i⟩
 ·split at e
  ·rename_i hc;cases e;refine GJ aa s σ H x y v u Q I rx ry ⟨_,_,t1.int,t2.int,?_,wq.at sg .i⟩;rw [zzt] at hc;unfold bK at hc;simp! [zza,zzN] at hc;exact hc
  ·cases e
 ·split at e
  ·rename_i hc;cases e;obtain⟨a,vs,rfl,h1,l1⟩:=t1.lst sg
   exact E5 hK aa s σ H _ _ v u Q I rx ry ⟨a,_,vs,rfl,t2.int,h1,hc.1,hc.2.1,by rw [l1.length];exact hc.2.2,λp hp=>wq.lst sg (l1.rep _) hp⟩
  ·cases e
 ·split at e
  ·rename_i hc;cases e;have XX:=t1
   obtain⟨a,vs,rfl,h1,l1⟩:=t1.tup sg
   rw [hK] at h1;have m1:=l1.length
   rename_i xs jj
   by_cases hj:jj=1
   ·subst hj;refine Bv aa s σ H _ _ v u Q I rx ry ⟨a,vs,rfl,t2.int,h1,?_⟩;have ex:(List.replicate (1:Int).toNat xs).flatten=xs:=by
     show(List.replicate 1 xs).flatten=xs
     simp
    rw [ex] at wq;exact wq.at sg (XX.elim id λz=>z.elim)
   ·exact Dz aa s σ H _ _ v u Q I rx ry ⟨a,_,vs,rfl,t2.int,h1,by omega,hc.2.1,by rw [m1];exact hc.2.2.1,by rw [m1];exact hc.2.2.2,λp hp=>wq.tup sg (l1.rep _) hp⟩
  ·cases e
 ·split at e
  ·rename_i hc;cases e;rename_i zz jj
   by_cases hj:jj=1
   ·subst hj;refine rb aa s σ H x y v u Q I rx ry ⟨_,t1.str,t2.int,hc.2.2.2,?_⟩;rw [show pg zz (1:Int).toNat=zz from za zz] at wq;exact wq.at sg .s
   ·exact uB aa s σ H x y v u Q I rx ry ⟨_,_,t1.str,t2.int,by omega,hc.2.1,hc.2.2.1,hc.2.2.2,wq.at sg .s⟩
  ·cases e
 ·split at e
  ·rename_i hc;cases e;exact JQ aa s σ H x y v u Q I rx ry ⟨_,_,t1.int,t2.int,hc,wq.at sg .i⟩
  ·cases e
 ·split at e
  ·rename_i hc;cases e;exact CB aa s σ H x y v u Q I rx ry ⟨_,_,t1.int,t2.int,hc,wq.at sg .i⟩
  ·cases e
 ·cases e
def Ff:RN X (unaryOp .USub) (λx H Q=>∃(H0 G:Hp) (i:Int),az G H/\Top W H0 G H (.int i) x/\cg W G H (.int (-i)) Q):=by
 intro aa s σ H x v Q I rx h;obtain⟨H0,G,i,sg,t,wq⟩:=h
 exact M5 aa s σ H x v Q I rx ⟨i,t.int,wq.at sg .i⟩
def qA:AH->CmpOp
 |.eq=>.Eq|.ne=>.NotEq|.lt=>.Lt|.le=>.LtE|.gt=>.Gt|.ge=>.GtE|.is=>.Is|.xV=>.IsNot|.Gy=>.In|.GL=>.NotIn
def nV{aa:List (Addr×Obj)}{σ:St}{H G:Hp}{s:Shared}{Q:VK}{k:Bool}(I:Inv X aa σ H s)(sg:az G H)(wq:cg W G H (.bl k) Q):EP X aa σ Q (.bool k) s:=⟨.bl k,H,I,rfl,wq.at sg .b⟩
def NV(hK:W.K=X.K)(hu:X.A.units+64<cLine):ef X (compareOp .Eq) (sI W aZ):=by
 intro aa s σ H x y v u Q I rx ry h;obtain⟨H0,G,p,q,r,sg,t1,t2,e,wq⟩:=h
 unfold aZ at e;split at e
 ·rename_i hc;rw [zza] at hc;cases e;exact Rn I hK sg 8 (by omega) hc.1 hc.2 t1 t2 rx ry _ _ _ _ (nV I sg wq)
 ·cases e
def Oo(hK:W.K=X.K)(hu:X.A.units+64<cLine):ef X (compareOp .NotEq) (sI W mZ):=by
 intro aa s σ H x y v u Q I rx ry h;obtain⟨H0,G,p,q,r,sg,t1,t2,e,wq⟩:=h
 unfold mZ at e;split at e
 ·rename_i hc;rw [zza] at hc;cases e;exact CP I hK sg 8 (by omega) hc.1 hc.2 t1 t2 rx ry _ _ _ _ (nV I sg wq)
 ·cases e
theorem lN{G:Hp}:∀{xs:List PV} {vs:List V} {ns:List Int},ai W G xs vs->intsOf xs=some ns->vs=ns.map V.int
 |[],vs,ns,h,e=>by simp! [ai] at h;subst h;cases e;rfl
 |.int i::r,vs,ns,h,e=>by
  obtain⟨v,t,rfl,h1,h2⟩:=h.aF
  simp! [Rep] at h1;subst h1;unfold intsOf at e;obtain⟨m,hm,rfl⟩:=zzJ.mp e
  rw [lN h2 hm]
  rfl
 |.aK::_,_,_,_,e=>by cases e
 |.bl _::_,_,_,_,e=>by cases e
 |.str _::_,_,_,_,e=>by cases e
 |.tup _::_,_,_,_,e=>by cases e
 |.lst _::_,_,_,_,e=>by cases e
 |.exc _::_,_,_,_,e=>by cases e
 |.bM _ _::_,_,_,_,e=>by cases e
theorem fK{G:Hp}:∀{xs:List PV} {vs:List V} {ns:List Bool},ai W G xs vs->boolsOf xs=some ns->vs=ns.map V.bl
 |[],vs,ns,h,e=>by simp! [ai] at h;subst h;cases e;rfl
 |.bl i::r,vs,ns,h,e=>by
  obtain⟨v,t,rfl,h1,h2⟩:=h.aF
  simp! [Rep] at h1;subst h1;unfold boolsOf at e;obtain⟨m,hm,rfl⟩:=zzJ.mp e
  rw [fK h2 hm]
  rfl
 |.aK::_,_,_,_,e=>by cases e
 |.int _::_,_,_,_,e=>by cases e
 |.str _::_,_,_,_,e=>by cases e
 |.tup _::_,_,_,_,e=>by cases e
 |.lst _::_,_,_,_,e=>by cases e
 |.exc _::_,_,_,_,e=>by cases e
 |.bM _ _::_,_,_,_,e=>by cases e
theorem hX{G:Hp}:∀{xs:List PV} {vs:List V} {ns:List Str},ai W G xs vs->strsOf xs=some ns->vs=ns.map V.str
 |[],vs,ns,h,e=>by simp! [ai] at h;subst h;cases e;rfl
 |.str i::r,vs,ns,h,e=>by
  obtain⟨v,t,rfl,h1,h2⟩:=h.aF
  simp! [Rep] at h1;subst h1;unfold strsOf at e;obtain⟨m,hm,rfl⟩:=zzJ.mp e
  rw [hX h2 hm]
  rfl
 |.aK::_,_,_,_,e=>by cases e
 |.int _::_,_,_,_,e=>by cases e
 |.bl _::_,_,_,_,e=>by cases e
 |.tup _::_,_,_,_,e=>by cases e
 |.lst _::_,_,_,_,e=>by cases e
 |.exc _::_,_,_,_,e=>by cases e
 |.bM _ _::_,_,_,_,e=>by cases e
def Res.of_ok{α:Type}{o:Option α}{a:α}(h:Res.of o=.ok a):o=some a:=by
 cases o with
 |none=>cases h
 |some b=>cases h;rfl
def Mr(hK:W.K=X.K)(hu:X.A.units+64<cLine):ef X (compareOp .Lt) (sI W uu):=by
 intro aa s σ H x y v u Q I rx ry h;obtain⟨H0,G,p,q,r,sg,t1,t2,e,wq⟩:=h
 unfold uu at e;split at e
 ·cases e;exact Qp aa s σ H x y v u Q I rx ry ⟨_,_,t1.int,t2.int,wq.at sg .b⟩
 ·cases e
def MT:ef X (compareOp .LtE) (sI W uE):=by
 intro aa s σ H x y v u Q I rx ry h;obtain⟨H0,G,p,q,r,sg,t1,t2,e,wq⟩:=h
 unfold uE at e;split at e
 ·cases e;exact Rg aa s σ H x y v u Q I rx ry ⟨_,_,t1.int,t2.int,wq.at sg .b⟩
 ·cases e
def K8:ef X (compareOp .Gt) (sI W t8):=by
 intro aa s σ H x y v u Q I rx ry h;obtain⟨H0,G,p,q,r,sg,t1,t2,e,wq⟩:=h
 unfold t8 at e;split at e
 ·cases e;exact QS aa s σ H x y v u Q I rx ry ⟨_,_,t1.int,t2.int,wq.at sg .b⟩
 ·cases e
def Ol:ef X (compareOp .GtE) (sI W uh):=by
 intro aa s σ H x y v u Q I rx ry h;obtain⟨H0,G,p,q,r,sg,t1,t2,e,wq⟩:=h
 unfold uh at e;split at e
 ·cases e;exact Qe aa s σ H x y v u Q I rx ry ⟨_,_,t1.int,t2.int,wq.at sg .b⟩
 ·cases e
def oj{H0 G H:Hp}{p:PV}{x:V}(sg:az G H)(t:Top W H0 G H p x):decide (x=.aK)=yX p:=by
 cases p with
 |aK=>cases t.aK;rfl
 |bl b=>cases t.bl;rfl
 |int b=>cases t.int;rfl
 |str b=>cases t.str;rfl
 |tup b=>obtain⟨a,vs,rfl,_⟩:=t.tup sg;rfl
 |lst b=>obtain⟨a,vs,rfl,_⟩:=t.lst sg;rfl
 |bM b c=>obtain⟨a,vs,rfl,_⟩:=t.bM sg;rfl
 |exc c=>
  rcases t with t|t
  ·simp! [Rep] at t;obtain⟨a,C,rfl,_⟩:=t
   rfl
  ·exact t.elim
def Ld:ef X (compareOp .Is) (sI W p9):=by
 intro aa s σ H x y v u Q I rx ry h;obtain⟨H0,G,p,q,r,sg,t1,t2,e,wq⟩:=h
 unfold p9 at e;split at e
 ·cases e;refine GG aa s σ H x y v u Q I rx ry ⟨t2.aK,?_⟩;rw [oj sg t1];exact wq.at sg .b
 ·cases e;exact zS aa s σ H x y v u Q I rx ry ⟨_,_,t1.bl,t2.bl,wq.at sg .b⟩
 ·cases e
def Fj:ef X (compareOp .IsNot) (sI W lA):=by
 intro aa s σ H x y v u Q I rx ry h;obtain⟨H0,G,p,q,r,sg,t1,t2,e,wq⟩:=h
 unfold lA at e;split at e
 ·cases e;refine DH aa s σ H x y v u Q I rx ry ⟨t2.aK,?_⟩;rw [oj sg t1];exact wq.at sg .b
 ·cases e;exact rC aa s σ H x y v u Q I rx ry ⟨_,_,t1.bl,t2.bl,wq.at sg .b⟩
 ·cases e
variable{H0 G H:Hp}
def km{aa:List (Addr×Obj)}{σ:St}{s:Shared}(I:Inv X aa σ H s)(hK:W.K=X.K)(sg:az G H){A:Around}{a:PV}{x:V}{x':Value}{ys:List PV}{us:List V}{ak:List Value}(hu:A.units+32<cLine)(ha:sJ a=true)(hy:ys.all sJ=true)(ta:Top W H0 G H a x)(rx:RelV x x')(l:ai W G ys us)(r:Vals us ak):
 ∃e:Value->Bool,(∀y∈ak,SeqAt.EqAt A s y x' (e y))/\∀(j:Nat) (y:Value) (p:PV),ak[j]?=some y->ys[j]?=some p->e y=eqv p a:=by
 classical
 have key:∀(j:Nat) (y:Value),ak[j]?=some y->∃p u,ys[j]?=some p/\us[j]?=some u/\Rep W G p u/\RelV u y/\sJ p=true:=λj y e=>by
  have hj:=(zzH.mp e).1
  have hl:=r.length
  obtain⟨u,FR,K1⟩:=r.get (i:=j) (x:=us[j]'(by omega)) (zzg (by omega))
  rw [e] at FR;cases FR;obtain⟨p,hp,kp⟩:=l.get (zzg (show j<us.length by omega))
  exact⟨p,_,hp,zzg (by omega),kp,K1,zzT.mp hy p (zzD hp)⟩
 refine⟨λy=>if h:∃(j:Nat) (p:PV),ak[j]?=some y/\ys[j]?=some p then eqv h.choose_spec.choose a else false,λy BJ=>?_,λj y p e1 e2=>?_⟩
 ·obtain⟨j,hj,e⟩:=List.getElem_of_mem BJ
  have ej:ak[j]?=some y:=by rw [zzg hj,e]
  obtain⟨p,u,h1,h2,h3,h4,h5⟩:=key j y ej
  have hex:∃(j:Nat) (p:PV),ak[j]?=some y/\ys[j]?=some p:=⟨j,p,ej,h1⟩
  dsimp only;rw [dif_pos hex];have sp:=hex.choose_spec.choose_spec
  obtain⟨p2,u2,g1,g2,g3,g4,g5⟩:=key _ y sp.1
  have e3:hex.choose_spec.choose=p2:=zzq (sp.2.symm.trans g1)
  rw [e3];exact yR (H0:=H0) I hK sg 9 (by omega) g5 ha (.inl g3) ta g4 rx
 ·have hex:∃(j:Nat) (p:PV),ak[j]?=some y/\ys[j]?=some p:=⟨j,p,e1,e2⟩
  dsimp only;rw [dif_pos hex];obtain⟨p1,u1,f1,f2,f3,f4,f5⟩:=key j y e1
  rw [e2] at f1;cases f1;have sp:=hex.choose_spec.choose_spec
  obtain⟨p2,u2,g1,g2,g3,g4,g5⟩:=key _ y sp.1
  have e3:hex.choose_spec.choose=p2:=zzq (sp.2.symm.trans g1)
  have e4:u1=u2:=f4.inj g4
  subst e4;rw [e3,uY I hK sg DP g5 f5 (.inl g3:Top W H0 G H p2 u1) (.inl f3)]
def BF{ak:List Value}{ys:List PV}{e:Value->Bool}{f:PV->Bool}:ak.length=ys.length->(∀(j:Nat) (y:Value) (p:PV),ak[j]?=some y->ys[j]?=some p->e y=f p)->ak.any e=ys.any f:=by
 intro hl h;have:ak.map e=ys.map f:=gH (by simpa using hl) λj x y hx hy=>by
  rw [zzQ] at hx hy;obtain⟨a,ha,rfl⟩:=zzJ.mp hx
  obtain⟨b,hb,rfl⟩:=zzJ.mp hy
  exact h j a b ha hb
 calc ak.any e=(ak.map e).any id:=by rw [List.any_map];rfl
  _=(ys.map f).any id:=by rw [this]
  _=ys.any f:=by rw [List.any_map];rfl
def Be{ak:List Value}{ys:List PV}{e:Value->Bool}{f:PV->Bool}:ak.length=ys.length->(∀(j:Nat) (y:Value) (p:PV),ak[j]?=some y->ys[j]?=some p->e y=f p)->ak.countP e=ys.countP f:=by
 intro hl h;have:ak.map e=ys.map f:=gH (by simpa using hl) λj x y hx hy=>by
  rw [zzQ] at hx hy;obtain⟨a,ha,rfl⟩:=zzJ.mp hx
  obtain⟨b,hb,rfl⟩:=zzJ.mp hy
  exact h j a b ha hb
 calc ak.countP e=(ak.map e).countP id:=by rw [List.countP_map];rfl
  _=(ys.map f).countP id:=by rw [this]
  _=ys.countP f:=by rw [List.countP_map];rfl
def MX(hK:W.K=X.K)(hu:X.A.units+64<cLine):ef X (compareOp .In) (sI W wW):=by
 intro aa s σ H x y v u Q I rx ry h;obtain⟨H0,G,p,q,r,sg,t1,t2,e,wq⟩:=h
 have FR:X.A.in1.units+32<cLine:=by show X.A.units+1+32<_;omega
 unfold wW at e;split at e
 ·split at e
  ·rename_i hc;rw [zza] at hc;cases e;obtain⟨b,us,rfl,q2,l2⟩:=t2.lst sg
   cases ry;obtain⟨ak,rv,z,_⟩:=I.list (iU hK q2)
   obtain⟨e,he,hv⟩:=km I hK sg FR hc.1 hc.2 t1 rx l2 rv
   refine SeqAt.in_listAt e z.isList (λy hy=>he y (by simpa using hy)) ?_
   have:=BF (by rw [<-rv.length,l2.length]) hv
   rw [List.any_toArray,this];exact nV I sg wq
  ·cases e
 ·cases e;exact xS aa s σ H x y v u Q I rx ry ⟨_,_,t1.str,t2.str,wq.at sg .b⟩
 ·obtain⟨k,hk,e⟩:=Res.aP e
  cases e;have hk:=dz (Res.of_ok hk)
  subst hk;obtain⟨b,rfl,hb⟩:=t1.tupI (ns:=k) sg rfl
  obtain⟨a,us,rfl,n,hd,l⟩:=t2.bM sg
  cases ry;refine Vc (show X.A.units+1<cLine by omega) I (.inr ⟨_,ki k,b,hd,rfl,(by rw [m8];exact sg _ _ hb),rfl⟩) rx λs' I'=>?_
  rw [hV,gM k _ us n];exact nV I' sg wq
 ·cases e
def Cs(hK:W.K=X.K)(hu:X.A.units+64<cLine):ef X (compareOp .NotIn) (sI W n8):=by
 intro aa s σ H x y v u Q I rx ry h;obtain⟨H0,G,p,q,r,sg,t1,t2,e,wq⟩:=h
 have FR:X.A.in1.units+32<cLine:=by show X.A.units+1+32<_;omega
 unfold n8 at e;split at e
 ·split at e
  ·rename_i hc;rw [zza] at hc;cases e;obtain⟨b,us,rfl,q2,l2⟩:=t2.lst sg
   cases ry;obtain⟨ak,rv,z,_⟩:=I.list (iU hK q2)
   obtain⟨e,he,hv⟩:=km I hK sg FR hc.1 hc.2 t1 rx l2 rv
   refine SeqAt.notIn_listAt e z.isList (λy hy=>he y (by simpa using hy)) ?_
   have:=BF (by rw [<-rv.length,l2.length]) hv
   rw [List.any_toArray,this];exact nV I sg wq
  ·cases e
 ·obtain⟨k,hk,e⟩:=Res.aP e
  cases e;have hk:=dz (Res.of_ok hk)
  subst hk;obtain⟨b,rfl,hb⟩:=t1.tupI (ns:=k) sg rfl
  obtain⟨a,us,rfl,n,hd,l⟩:=t2.bM sg
  cases ry;refine Dd (show X.A.units+1<cLine by omega) I (.inr ⟨_,ki k,b,hd,rfl,(by rw [m8];exact sg _ _ hb),rfl⟩) rx λs' I'=>?_
  rw [hV,gM k _ us n];exact nV I' sg wq
 ·cases e
theorem gE(hK:W.K=X.K)(hu:X.A.units+64<cLine):∀o:AH,ef X (compareOp (qA o)) (sI W (cQ o))
 |.eq=>NV hK hu|.ne=>Oo hK hu|.lt=>Mr hK hu|.le=>MT|.gt=>K8|.ge=>Ol|.is=>Ld|.xV=>Fj|.Gy=>MX hK hu|.GL=>Cs hK hu
def uW{ps:List PV}{vs:List V}{i:Int}{p:PV}(l:ai W G ps vs)(h:uo ps i=some p):∃v,uo vs i=some v/\Rep W G p v:=by
 unfold uo at h⊢;rw [l.length];cases e:vp ps.length i with
 |none=>rw [e] at h;cases h
 |some j=>
  rw [e] at h;exact l.mR h
def MK(hu:X.A.units+1<cLine):OT X (λx y H Q=>∃a ax k b v,x=.ref a/\Rd H a (.dT ax)/\y=.ref b/\H b=some (.tup (k.map kV))/\gv ax k=some v/\Q v H):=by
 intro value slice aa s σ H x y v u Q I rx ry h hs;obtain⟨a,ax,k,b,z,rfl,hd,rfl,hb,hv,q⟩:=h
 cases rx;cases ry;obtain⟨_,_,xs,rel,dd⟩:=iV I.aH hd
 obtain⟨w',hw,d5⟩:=iT.some_of (v:=z) (o:=(atKey xs k).map (·.2)) (by rw [<-hv];exact rel.val k)
 obtain⟨p,hp,hp2⟩:=zzJ.mp hw
 exact PyProof.Rows.subscriptTail_builtinR (x:=w') dd.typeIs PySem.F.slot_dict_getitem.lookup (wpAny_getItem_heap (Q:=λr s'=>r=w'/\EP X aa σ Q r s') (tupleKind_room_in1 hu) (fh I.aH hb) dd hp ⟨hp2,by rw [hp2];exact⟨z,H,I.tok _,d5,q⟩⟩) hs
def SG(hK:W.K=X.K)(hu:X.A.units+64<cLine):OT X (sI W eF):=by
 intro value slice aa s σ H x y v u Q I rx ry h hs;obtain⟨H0,G,p,q,r,sg,t1,t2,e,wq⟩:=h
 unfold eF at e;split at e
 ·obtain⟨a,vs,rfl,h1,l1⟩:=t1.lst sg
  obtain⟨w,hw,kw⟩:=uW l1 (Res.of_ok e)
  exact EV value slice aa s σ H _ y v u Q I rx ry ⟨a,vs,_,w,rfl,t2.int,iU hK h1,hw,wq.at sg kw⟩ hs
 ·obtain⟨a,vs,rfl,h1,l1⟩:=t1.tup sg
  rw [hK] at h1;obtain⟨w,hw,kw⟩:=uW l1 (Res.of_ok e)
  exact Ai value slice aa s σ H _ y v u Q I rx ry ⟨a,vs,_,w,rfl,t2.int,h1,hw,wq.at sg kw⟩ hs
 ·split at e
  ·rename_i hl;obtain⟨c,hc,e⟩:=Res.aP e
   cases e;exact KC value slice aa s σ H x y v u Q I rx ry ⟨_,_,c,t1.str,t2.int,lW hl,Res.of_ok hc,wq.at sg .s⟩ hs
  ·cases e
 ·obtain⟨k,hk,e2⟩:=Res.aP e
  have hk:=dz (Res.of_ok hk)
  subst hk;obtain⟨b,rfl,hb⟩:=t2.tupI (ns:=k) sg rfl
  obtain⟨a,us,rfl,n,hd,l⟩:=t1.bM sg
  obtain⟨w,hw,kw⟩:=kD l (Res.of_ok e2)
  exact MK (by omega) value slice aa s σ H _ _ v u Q I rx ry ⟨a,_,ki k,b,w,rfl,hd,rfl,(by rw [m8];exact sg _ _ hb),(by rw [hV];exact hw),wq.at sg kw⟩ hs
 ·cases e
def Dp{ps:List PV}{vs:List V}(lo hi:Option Int)(l:ai W G ps vs):ai W G (GR ps lo hi) (xm vs lo hi):=by
 unfold GR xm;rw [l.length];exact(l.drop _).take _
def Va(hK:W.K=X.K):L2.F3 X (λx lo hi H Q=>∃H0 G p r,az G H/\Top W H0 G H p x/\iL p lo hi=.ok r/\cg W G H r Q):=by
 intro aa s σ H x v vl vu lo hi sl Q I rx hs pl pu h;obtain⟨H0,G,p,r,sg,t1,e,wq⟩:=h
 unfold iL at e;split at e
 ·cases e;obtain⟨a,vs,rfl,h1,l1⟩:=t1.lst sg
  exact Cu aa s σ H _ v vl vu _ _ sl Q I rx hs pl pu ⟨a,vs,rfl,iU hK h1,λp hp=>wq.lst sg (Dp _ _ l1) hp⟩
 ·cases e
def xg(W:Wd)(f:List PV->Res PV):List V->Hp->VK->Prop:=λvs H Q=>∃H0 G ps r,az G H/\Paired (λv p=>Top W H0 G H p v) vs ps/\f ps=.ok r/\cg W G H r Q
def fx{H0 G H:Hp}{vs:List V}{p:PV}(h:Paired (λv p=>Top W H0 G H p v) vs [p]):∃v,vs=[v]/\Top W H0 G H p v:=by
 cases h with
 |cons h t=>cases t;exact⟨_,rfl,h⟩
def n5{H0 G H:Hp}{vs:List V}{p q:PV}(h:Paired (λv p=>Top W H0 G H p v) vs [p,q]):∃v u,vs=[v,u]/\Top W H0 G H p v/\Top W H0 G H q u:=by
 cases h with
 |cons h t=>
  cases t with
  |cons h2 t2=>cases t2;exact⟨_,_,rfl,h,h2⟩
def wU(hK:W.K=X.K):bD X (.builtin "len") (xg W Bj):=by
 intro aa s σ H xs us Q I r h;obtain⟨H0,G,ps,rr,sg,tp,e,wq⟩:=h
 unfold Bj at e;split at e
 ·cases e;obtain⟨v,rfl,t⟩:=fx tp
  obtain⟨a,vs,rfl,h1,l1⟩:=t.lst sg
  exact iO aa s σ H _ us Q I r ⟨a,vs,rfl,.inl (iU hK h1),by rw [l1.length];exact wq.at sg .i⟩
 ·cases e;obtain⟨v,rfl,t⟩:=fx tp
  obtain⟨a,vs,rfl,h1,l1⟩:=t.tup sg
  rw [hK] at h1;exact iO aa s σ H _ us Q I r ⟨a,vs,rfl,.inr h1,by rw [l1.length];exact wq.at sg .i⟩
 ·split at e
  ·rename_i hl;cases e;obtain⟨v,rfl,t⟩:=fx tp
   exact qj aa s σ H _ us Q I r ⟨_,by rw [t.str],lW hl,wq.at sg .i⟩
  ·cases e
 ·cases e;obtain⟨v,rfl,t⟩:=fx tp
  obtain⟨a,us',rfl,n,hd,l⟩:=t.bM sg
  obtain⟨u,rfl,ru⟩:=vals1 r
  cases ru;exact NJ I hd λt s' I'=>⟨.int _,H,I',⟨t,rfl⟩,by rw [eX n];exact wq.at sg .i⟩
 ·cases e
def wN:bD X (.builtin "abs") (xg W Br):=by
 intro aa s σ H xs us Q I r h;obtain⟨H0,G,ps,rr,sg,tp,e,wq⟩:=h
 unfold Br at e;split at e
 ·cases e;obtain⟨v,rfl,t⟩:=fx tp
  exact zR aa s σ H _ us Q I r ⟨_,by rw [t.int],wq.at sg .i⟩
 ·cases e
def wV(hc:X.calm=true):bD X (.builtin "max") (xg W Aq):=by
 intro aa s σ H xs us Q I r h;obtain⟨H0,G,ps,rr,sg,tp,e,wq⟩:=h
 unfold Aq at e;split at e
 ·cases e;obtain⟨v,u,rfl,t,t2⟩:=n5 tp
  exact vZ hc aa s σ H _ us Q I r ⟨_,_,by rw [t.int,t2.int],wq.at sg .i⟩
 ·cases e
def wQ(hc:X.calm=true):bD X (.builtin "min") (xg W zX):=by
 intro aa s σ H xs us Q I r h;obtain⟨H0,G,ps,rr,sg,tp,e,wq⟩:=h
 unfold zX at e;split at e
 ·cases e;obtain⟨v,u,rfl,t,t2⟩:=n5 tp
  exact wa hc aa s σ H _ us Q I r ⟨_,_,by rw [t.int,t2.int],wq.at sg .i⟩
 ·cases e
def w4:bD X (.type "int") (xg W Ad):=by
 intro aa s σ H xs us Q I r h;obtain⟨H0,G,ps,rr,sg,tp,e,wq⟩:=h
 unfold Ad at e;split at e
 ·split at e
  ·rename_i hl;obtain⟨n,hn,e⟩:=Res.aP e
   cases e;obtain⟨v,rfl,t⟩:=fx tp
   exact pT aa s σ H _ us Q I r ⟨_,n,by rw [t.str],Res.of_ok hn,hl,wq.at sg .i⟩
  ·cases e
 ·cases e
def sD(hK:W.K=X.K):bD X (.type "tuple") (xg W lZ):=by
 intro aa s σ H xs us Q I r h;obtain⟨H0,G,ps,rr,sg,tp,e,wq⟩:=h
 unfold lZ at e;split at e
 ·cases e;obtain⟨v,rfl,t⟩:=fx tp
  obtain⟨a,vs,rfl,h1,l1⟩:=t.lst sg
  exact mW aa s σ H _ us Q I r ⟨a,vs,rfl,.inl ⟨iU hK h1,λp hp=>wq.tup sg l1 hp⟩⟩
 ·cases e
def wZ(hc:X.calm=true)(hK:W.K=X.K):bD X (.builtin "all") (xg W Bw):=by
 intro aa s σ H xs us Q I r h;obtain⟨H0,G,ps,rr,sg,tp,e,wq⟩:=h
 unfold Bw at e;split at e
 ·obtain⟨bs,hb,e⟩:=Res.aP e
  cases e;obtain⟨v,rfl,t⟩:=fx tp
  obtain⟨a,vs,rfl,h1,l1⟩:=t.lst sg
  cases fK l1 (Res.of_ok hb);exact zZ hc aa s σ H _ us Q I r ⟨a,bs,rfl,iU hK h1,wq.at sg .b⟩
 ·cases e
def wu(hc:X.calm=true)(hK:W.K=X.K):bD X (.builtin "any") (xg W Av):=by
 intro aa s σ H xs us Q I r h;obtain⟨H0,G,ps,rr,sg,tp,e,wq⟩:=h
 unfold Av at e;split at e
 ·obtain⟨bs,hb,e⟩:=Res.aP e
  cases e;obtain⟨v,rfl,t⟩:=fx tp
  obtain⟨a,vs,rfl,h1,l1⟩:=t.lst sg
  cases fK l1 (Res.of_ok hb);exact yQ hc aa s σ H _ us Q I r ⟨a,bs,rfl,iU hK h1,wq.at sg .b⟩
 ·cases e
def Rx(W:Wd)(f:List PV->Res PV):V->List V->Hp->VK->Prop:=λx vs H Q=>xg W f (x::vs) H Q
theorem pO:∀{ys:List Str} {ak:List Value},Vals (ys.map V.str) ak->PyProof.Rows.StrsAre ak ys
 |[],_,.nil=>.nil
 |y::ys,_,.cons r t=>by
  obtain⟨tk,rfl⟩:=r
  exact .cons y tk (pO t)
def yv(hK:W.K=X.K):Q8 X "str.join" (Rx W rV):=by
 intro aa s σ H x xs v us Q I rx r h;obtain⟨H0,G,ps,rr,sg,tp,e,wq⟩:=h
 unfold rV at e;split at e
 ·obtain⟨ys,hy,e⟩:=Res.aP e
  split at e
  ·rename_i hc;cases e;obtain⟨v1,u1,e1,t,t2⟩:=n5 tp
   cases e1;cases t.str;obtain⟨tk,rfl⟩:=rx
   obtain⟨a,vs,rfl,h1,l1⟩:=t2.lst sg
   obtain⟨u,rfl,ru⟩:=Vals.one r
   cases ru;cases hX l1 (Res.of_ok hy);obtain⟨ak,rv,z,_⟩:=I.list (iU hK h1)
   refine PyProof.Rows.join_listW z.isList (by simpa using pO rv) hc.1 (zzU hc.2 (by decide)) λt' k=>⟨.str _,H,I.tok _,⟨_,rfl⟩,wq.at sg .s⟩
  ·cases e
 ·obtain⟨ys,hy,e⟩:=Res.aP e
  split at e
  ·rename_i hc;cases e;obtain⟨v1,u1,e1,t,t2⟩:=n5 tp
   cases e1;cases t.str;obtain⟨tk,rfl⟩:=rx
   obtain⟨a,vs,rfl,h1,l1⟩:=t2.tup sg
   obtain⟨u,rfl,ru⟩:=Vals.one r
   cases ru;cases hX l1 (Res.of_ok hy);obtain⟨ak,rv,z,_⟩:=I.tuple (hK▸h1)
   refine PyProof.Rows.join_tupleW z (by simpa using pO rv) hc.1 (zzU hc.2 (by decide)) λt' k=>⟨.str _,H,I.tok _,⟨_,rfl⟩,wq.at sg .s⟩
  ·cases e
 ·cases e
def tH(hK:W.K=X.K)(hu:X.A.units+64<cLine):Q8 X "list.count" (Rx W i4):=by
 intro aa s σ H x xs v us Q I rx r h;obtain⟨H0,G,ps,rr,sg,tp,e,wq⟩:=h
 unfold i4 at e;split at e
 ·split at e
  ·rename_i hc;rw [zza] at hc;cases e;obtain⟨v1,u1,e1,t,t2⟩:=n5 tp
   cases e1;obtain⟨a,vs,rfl,h1,l1⟩:=t.lst sg
   cases rx;obtain⟨u,rfl,ru⟩:=Vals.one r
   obtain⟨ak,n,rv,hl,_,e⟩:=tm hK I h1
   obtain⟨f,he,hv⟩:=km (A:=X.A.in1) I hK sg (by show X.A.units+1+32<_;omega) hc.1 hc.2 t2 ru l1 rv
   refine PySem.call_meets PySem.F.slot_list_count ⟨_,e,rfl⟩ PySem.F.entry_list_count (PySem.F.args_list_count_2 _ _) (SeqAt.list_countAt a ak.toArray n none #[] u f) ⟨e,λy hy=>he y (by simpa using hy),?_⟩
   refine⟨.int _,H,I.tok _,⟨_,rfl⟩,?_⟩;rw [Be (by rw [<-hl,l1.length]) hv];exact wq.at sg .i
  ·cases e
 ·cases e
def xA(hK:W.K=X.K)(hu:X.A.units+64<cLine):Q8 X "list.index" (Rx W lC):=by
 intro aa s σ H x xs v us Q I rx r h;obtain⟨H0,G,ps,rr,sg,tp,e,wq⟩:=h
 unfold lC at e;split at e
 ·rename_i ys w;split at e
  ·rename_i hc;rw [zza,zza] at hc;split at e
   ·rename_i j hj;cases e;obtain⟨v1,u1,e1,t,t2⟩:=n5 tp
    cases e1;obtain⟨a,vs,rfl,h1,l1⟩:=t.lst sg
    cases rx;obtain⟨u,rfl,ru⟩:=Vals.one r
    obtain⟨ak,n,rv,hl,_,e⟩:=tm hK I h1
    have hlen:ak.length=ys.length:=by rw [<-hl,l1.length]
    have WO:ys.length<1000:=zzY hc.2
    obtain⟨f,he,hv⟩:=km (A:=X.A.in1) I hK sg (by show X.A.units+1+32<_;omega) hc.1.1 hc.1.2 t2 ru l1 rv
    rw [List.findIdx?_eq_some_iff_getElem] at hj;obtain⟨bB,hyes,hno⟩:=hj
    refine PySem.call_meets PySem.F.slot_list_index ⟨_,e,rfl⟩ PySem.F.entry_list_index (PySem.F.args_list_index_2 _ _) (SeqAt.list_indexAt a ak.toArray n none #[] u f j (by simpa using (by omega:j<ak.length)) (by omega) ?_ λm FH DW=>?_) ⟨e,λy hy=>he y (by simpa using hy),⟨.int _,H,I.tok _,⟨_,rfl⟩,wq.at sg .i⟩⟩
    ·have:=hv j (ak[j]'(by omega)) ys[j] (zzg (by omega)) (zzg bB)
     simpa using this.trans hyes
    ·have hm:m<ys.length:=by omega
     have:=hv m (ak[m]'(by omega)) ys[m] (zzg (by omega)) (zzg hm)
     have z:=hno m DW
     simp! [Bool.not_eq_true] at z
     simpa using this.trans z
   ·cases e
  ·cases e
 ·cases e
def uK:Ty->String
 |.int=>"int"|.bool=>"bool"|.str=>"str"|.tuple=>"tuple"|.list=>"list"
def QT{K:zz8}(t:Ty):Cw.BY K "NoneType" (uK t) false/\(∀b,Cw.BY K "bool" (uK t) (rA t (.bl b)))/\(∀i,Cw.BY K "int" (uK t) (rA t (.int i)))/\(∀z,Cw.BY K "str" (uK t) (rA t (.str z)))/\(∀z,Cw.BY K "tuple" (uK t) (rA t (.tup z)))/\(∀z,Cw.BY K "list" (uK t) (rA t (.lst z))):=by
 cases t
 all_goals refine⟨?_,λb=>?_,λb=>?_,λb=>?_,λb=>?_,λb=>?_⟩
 all_goals first
  |exact Cw.zg _
  |exact Cw.Al (b:=false) (by decide+kernel) (by decide+kernel) (by decide+kernel)
  |exact Cw.Al (b:=true) (by decide+kernel) (by decide+kernel) (by decide+kernel)
def yt(hK:W.K=X.K)(t:Ty):bD X (.builtin "isinstance") (λxs H Q=>∃v H0 G p r,xs=[v,.ty (uK t)]/\az G H/\Top W H0 G H p v/\zd t p=.ok r/\cg W G H r Q):=by
 intro aa s σ H xs us Q I rr h;obtain⟨v,H0,G,p,r,rfl,sg,tp,e,wq⟩:=h
 obtain⟨u,u2,rfl,ru,ru2⟩:=Vals.two rr
 cases ru2;obtain⟨k1,k2,k3,k4,k5,k6⟩:=QT (K:=X.K) t
 cases p with
 |exc c=>cases e
 |bM a b=>cases e
 |aK=>cases e;cases tp.aK;cases ru;cases t<;>exact PySem.W.kia_one PySem.W.kitx_none I.nq True.intro k1 (λz=>nomatch z) λtk=>⟨.bl _,H,I.tok tk,rfl,wq.at sg .b⟩
 |bl b=>cases e;cases tp.bl;cases ru;exact PySem.W.kia_one PySem.W.kitx_bool I.nq True.intro (k2 b) (λz=>nomatch z) λtk=>⟨.bl _,H,I.tok tk,rfl,wq.at sg .b⟩
 |int b=>cases e;cases tp.int;obtain⟨t1,rfl⟩:=ru;exact PySem.W.kia_one PySem.W.kitx_int I.nq True.intro (k3 b) (λz=>nomatch z) λtk=>⟨.bl _,H,I.tok tk,rfl,wq.at sg .b⟩
 |str b=>cases e;cases tp.str;obtain⟨t1,rfl⟩:=ru;exact PySem.W.kia_one PySem.W.kitx_str I.nq True.intro (k4 b) (λz=>nomatch z) λtk=>⟨.bl _,H,I.tok tk,rfl,wq.at sg .b⟩
 |tup b=>
  cases e;obtain⟨a,vs,rfl,h1,l1⟩:=tp.tup sg
  rw [hK] at h1;cases ru;obtain⟨ak,_,⟨o,e1,e2,_⟩,_⟩:=I.tuple h1
  exact PySem.W.kia_one PySem.W.kitx_tuple I.nq ⟨o,e1,e2⟩ (k5 b) (λz=>nomatch z) λtk=>⟨.bl _,H,I.tok tk,rfl,wq.at sg .b⟩
 |lst b=>
  cases e;obtain⟨a,vs,rfl,h1,l1⟩:=tp.lst sg
  cases ru;obtain⟨ak,n,_,_,_,e1⟩:=tm hK I h1
  exact PySem.W.kia_one PySem.W.kitx_list I.nq ⟨_,e1,rfl⟩ (k6 b) (λz=>nomatch z) λtk=>⟨.bl _,H,I.tok tk,rfl,wq.at sg .b⟩
theorem kj{k:List Int}{v:V}(h:Rep W G (pN k) v):∃b,v=.ref b/\G b=some (.tup (k.map V.int)):=Top.tupI (H0:=G) (az.refl G) rfl (.inl h)
theorem uQ{K:zz8}(sg:az G H):∀{xs:List PV} {nss:List (List Int)} {vs:List V},uU xs=some nss->ai W G xs vs->nss.all (λk=>!k.isEmpty)=true->qi K H vs nss
 |[],_,_,e,l,_=>by cases e;simp! [ai] at l;subst l;exact .nil
 |x::xs,nss,vs,e,l,ne=>by
  unfold uU at e;obtain⟨k,hk,e⟩:=zzZ.mp e
  obtain⟨r,hr,rfl⟩:=zzJ.mp e
  obtain⟨v,vr,rfl,h1,h2⟩:=l.aF
  rw [List.all_cons,zza] at ne;rw [dz hk] at h1;obtain⟨b,rfl,hb⟩:=kj h1
  exact .cons ⟨b,rfl,.inl (.inl (sg _ _ hb)),λz=>by rw [z] at ne;exact absurd ne.1 (by decide)⟩ (uQ sg hr h2 ne.2)
def vJ{ps:List PV}{vs:List V}{nss:List (List Int)}(l:ai W G ps vs):ai W G (sF .aK ps nss) (sF V.aK vs nss):=by
 unfold sF;rw [l.length];split
 ·exact l
 ·have go:∀ix:List Nat,ai W G (ix.map λi=>ps.getD i .aK) (ix.map λi=>vs.getD i V.aK):=by
   intro ix
   induction ix with
   |nil=>exact .nil
   |cons i ix ih=>
    refine .cons ?_ ih;dsimp only
    by_cases hi:i<ps.length
    ·obtain⟨v,hv,rv⟩:=l.mR (zzg hi)
     have e1:ps.getD i .aK=ps[i]:=by simp [hi]
     have e2:vs.getD i V.aK=v:=by simp [hv]
     rw [e1,e2];exact rv
    ·have e1:ps.getD i .aK=.aK:=by simp [Nat.le_of_not_lt hi]
     have e2:vs.getD i V.aK=.aK:=by simp [Nat.le_of_not_lt (l.length▸hi)]
     rw [e1,e2];exact .n
  exact go _
theorem gN:∀{vs:List V} {nss:List (List Int)} {G:Hp},az G H->Paired (λv ns=>∃b,v=V.ref b/\H b=some (.tup (ns.map V.int))) vs nss->∃G',aD W G H G' H/\ai W G' (nss.map pN) vs
 |_,_,G,sg,.nil=>⟨G,.refl sg,.nil⟩
 |_,_,G,sg,.cons (b:=ns) h t=>by
  obtain⟨b,rfl,hb⟩:=h
  have g1:=aD.adopt (W:=W) sg hb
  obtain⟨G2,g2,l⟩:=gN g1.sub t
  refine⟨G2,g1.trans g2,.cons (Rep.same g2.g _ ?_) l⟩;refine .t (.inl aj) ?_;have go:∀ns:List Int,ai W (upd G b (.tup (ns.map V.int))) (ns.map .int) (ns.map V.int)/\True:=λ_=>⟨by
   rename_i ns';have all:∀(G':Hp) (l:List Int),ai W G' (l.map .int) (l.map V.int):=λG' l=>by
    induction l with
    |nil=>exact .nil
    |cons x l ih=>exact .cons .i ih
   exact all _ _,trivial⟩
  exact(go ns).1
def pQ(hK:W.K=X.K)(hc:X.calm=true):bD X (.builtin "sorted") (xg W i5):=by
 intro aa s σ H xs us Q I r h;obtain⟨H0,G,ps,rr,sg,tp,e,wq⟩:=h
 unfold i5 at e;split at e
 ·obtain⟨nss,hn,e⟩:=Res.aP e
  split at e
  ·rename_i hb;rw [zza,zzN] at hb;cases e;obtain⟨v,rfl,t⟩:=fx tp
   obtain⟨a,vs,rfl,h1,l1⟩:=t.lst sg
   exact pZ aa s σ H _ us Q I r ⟨a,vs,nss,rfl,iU hK h1,uQ sg (Res.of_ok hn) l1 hb.2,by rw [l1.length];exact hb.1,λp hp=>wq _ _ _ (.new sg hp) (.l (.inl (.inl aj)) (ai.same (aY (sg.free hp)) _ (vJ l1)))⟩
  ·cases e
 ·split at e
  ·rename_i ks qw hb;rw [zza,zzN] at hb;cases e;obtain⟨v,rfl,t⟩:=fx tp
   obtain⟨a,us',rfl,n,hd,l⟩:=t.bM sg
   refine pz hc aa s σ H _ us Q I r ⟨a,_,ks,rfl,hd,oR n,λns hm z=>?_,by rw [eX n];exact hb.1,λp vs hp pv=>?_⟩
   ·have:=zzT.mp hb.2 ns hm
    rw [z] at this;exact absurd this (by decide)
   ·obtain⟨G1,g1,l1⟩:=gN (W:=W) sg pv
    exact wq _ _ _ (g1.trans (.new g1.sub hp)) (.l (.inl (.inl aj)) (ai.same (aY (g1.sub.free hp)) _ (vJ l1)))
  ·cases e
 ·cases e
theorem AM{K:zz8}(hK:W.K=K)(sg:az G H):∀{xs:List PV} {ps:List (List Int×PV)} {vs:List V},EM xs=some ps->ai W G xs vs->∃us,ai W G (ps.map (·.2)) us/\gW K H vs ((ps.map λp=>ki p.1).zip us)
 |[],_,_,e,l=>by cases e;simp! [ai] at l;subst l;exact⟨[],.nil,.nil⟩
 |x::xs,ps,vs,e,l=>by
  obtain⟨v,vr,rfl,h1,h2⟩:=l.aF
  unfold EM at e;split at e
  ·rename_i heq;cases heq
  ·rename_i heq;cases heq;obtain⟨k,hk,e⟩:=zzZ.mp e
   obtain⟨r,hr,rfl⟩:=zzJ.mp e
   obtain⟨us,l2,p2⟩:=AM hK sg hr h2
   simp! [Rep] at h1;obtain⟨q,ws,rfl,tq,lq⟩:=h1
   obtain⟨w1,wr,rfl,k1,lq⟩:=lq.aF
   obtain⟨w2,wr2,rfl,k2,lq⟩:=lq.aF
   simp! [ai] at lq;subst lq;rw [dz hk] at k1;obtain⟨b,rfl,hb⟩:=kj k1
   refine⟨w2::us,.cons k2 l2,.cons ⟨q,b,rfl,?_,by rw [m8];exact sg _ _ hb⟩ p2⟩;rw [<-hK];exact az.tup sg tq.sq
  ·cases e
theorem nC:∀(ps:List (List Int×PV)) {us:List V} {ks:List (List Int)} {qs:List PV} {ws:List V},ai W G (ps.map (·.2)) us->ks.length=ws.length->ai W G qs ws->∃zs,(jq ps ks qs).1.length=zs.length/\ai W G (jq ps ks qs).2 zs/\dR (kz ks ws) ((ps.map λp=>ki p.1).zip us)=kz (jq ps ks qs).1 zs
 |[],us,ks,qs,ws,_,n,l=>⟨ws,n,l,rfl⟩
 |p::ps,us,ks,qs,ws,lu,n,l=>by
  obtain⟨u,ur,rfl,h1,h2⟩:=lu.aF
  obtain⟨zs,z1,z2,z3⟩:=nC ps h2 (lr n p.1 u) (pL (ks:=ks) (k:=p.1) l h1)
  refine⟨zs,z1,z2,?_⟩;show dR (putK (kz ks ws) (ki p.1) u) _=_
  rw [sO n];exact z3
def Ao(hK:W.K=X.K){H0:Hp}{ps:List PV}{q:PV}{xs:List V}(sg:az G H)(tp:Paired (λv p=>Top W H0 G H p v) xs ps)(e:oz ps=.ok q):∃ks qs,q=.bM ks qs/\∃a vs ax,xs=[V.ref a]/\df X.K H a vs/\gW X.K H vs ax/\∃zs,ks.length=zs.length/\ai W G qs zs/\dR [] ax=kz ks zs:=by
 unfold oz at e;split at e
 ·obtain⟨ps,hp,e⟩:=Res.aP e
  cases e;obtain⟨v,rfl,t⟩:=fx tp
  obtain⟨a,vs,rfl,h1,l1⟩:=t.lst sg
  obtain⟨ws,lw,pw⟩:=AM hK sg (Res.of_ok hp) l1
  obtain⟨zs,z1,z2,z3⟩:=nC ps (ks:=[]) (qs:=[]) (ws:=[]) lw rfl .nil
  exact⟨_,_,rfl,a,vs,_,rfl,iU hK h1,pw,zs,z1,z2,z3⟩
 ·cases e
def r6(hK:W.K=X.K)(hc:X.calm=true)(hu:X.A.units+64<cLine):bD X (.type "dict") (xg W oz):=by
 intro aa s σ H xs us Q I r h;obtain⟨H0,G,ps,rr,sg,tp,e,wq⟩:=h
 obtain⟨ks,qs,rfl,a,vs,ax,rfl,h1,pw,zs,z1,z2,z3⟩:=Ao hK sg tp e
 refine uC hc (by omega) aa s σ H _ us Q I r ⟨a,vs,_,rfl,h1,pw,λp o hn=>?_⟩
 rw [z3];refine wq _ _ _ (.new sg hn) ?_;simp! [Rep];exact⟨p,o,zs,rfl,z1,aj,ai.same (aY (sg.free hn)) _ z2⟩
end
end Ci
namespace L2
open PySem PySem.Spec PyProof.Rows
section
variable{X:Cx}{scope:Scope}{xs ys:List Str}{is:List Nat}
theorem qk{i₀:Nat}{x₀:Str}{pos' fD:Pos}{elt tg iter Hf:Expr}{pos:Pos}{wi:TI}{g:TG}{te:TE}{tt:TT}(hN₀:X.N.Nodup)(hi₀:X.N[i₀]?=some x₀)(hx₀:Loc X.env.scope x₀)(hc:X.calm=true)(S:er X scope xs ys is)(hi:PI X tg iter wi)
 (hg:∀fp s1 H1 C,PG (bH X (xs++ys) scope (bx X.env ys) fp s1 H1 C) tg g) (ht:∀fp s1 H1 C,PT (bH X (xs++ys) scope (bx X.env ys) fp s1 H1 C) Hf tt) (he:∀fp s1 H1 C,PE (bH X (xs++ys) scope (bx X.env ys) fp s1 H1 C) elt te)
 (uy:swapsWith (.ListComp elt [⟨tg,iter,[Hf],0⟩] scope pos) (some (.Name x₀ pos')) fD.line X.env=pure true:=by rfl)
 (hs:∀x,foldedSetIterable iter X.env x=pure x:=by intro _;rfl) (hf₀:X.fn x₀=true\/X.env.scope.names.lookup x₀=some .local:=by first|exact .inl rfl|exact .inr rfl|assumption):
 PS X (.Assign [.Name x₀ pos'] (.ListComp elt [⟨tg,iter,[Hf],0⟩] scope pos) fD) (BI (kg wi xs.length g tt te is) (cH i₀)):=by
 intro aa s σ H D₀ I h;rw [exec_Assign_Name_used _ _ _ _ uy];refine zzA (wpAny_standAt (zzA ?_));show wpAny _ X.A (do let _<-comprehension (.ListComp elt [⟨tg,iter,[Hf],0⟩] scope pos) scope X.env _ (newList []) false (eval iter X.env) (some (assign (.Name x₀ pos') X.env))) _ _ s;refine zzA (wpAny_mono (gB (QQ:=λ_ s'=>∃σ2 H2,Inv X aa σ2 H2 s'/\D₀.nx σ2 H2) (Q:=λv H4=>cH i₀ v σ H4 D₀.nx) hc S hi hg (λfp s1 H1 C=>vy (ht fp s1 H1 C)) he hs I h λD C s4 H4 m I5 hn ⟨g0,g1,_,g3,g4,g5⟩ q=>?_) (λ_ s' hq=>zzG (zzG hq)) λ_ _ e=>e)
 refine wpAny_assign_Name (jw I5 hN₀ hi₀ hx₀ (show RelV (.ref D) (.ref D) from rfl) (λs6 I6 ⟨a6,sb6,ha6⟩=>?_) hf₀);have zF:C≠a6:=by
  rcases ha6 with z|z
  ·rw [z];exact g1
  ·exact λz2=>g4 _ _ z z2.symm
 exact⟨m,hn.sameBut sb6 zF,λh' su=>⟨_,_,I6.turned (t':=s6.toks) (it:=C) (λb o hb e=>su.extBut b o hb e) g0 g1 g3 g4 g5,q⟩⟩
end
open PySem.AutoSeq1 (wpAny_loadPart')
section
variable{prog:Program}{w:World}{A:Around}{E:Value->Shared->Prop}{s:Shared}{jt tu:Addr}{i:Nat}{ak:Array Value}{Q:Value->Shared->Prop}
def j7{x:Value}(ih:s.heap.IsTupleIter jt tu i)(th:s.heap.IsTuple tu ak)(hx:ak[i]?=some x)
 (k:∀g,g.IsTupleIter jt tu (i+1)->Heap.SameBut jt s.heap g->Q x {s with heap:=g}):wpAny (model prog w) A (Builtin.SmallTypes.nextOf (.ref jt)) Q E s:=by
 obtain⟨ob,e1,e2,e3⟩:=id ih
 obtain⟨ot,f1,_,nn,f2⟩:=th
 unfold Builtin.SmallTypes.nextOf;refine zzA (wpAny_callSpecial?_slot (name:=Str.ofString "__next__") ih.typeIs F.slot_tuple_iterator_next (wpAny_call_entry F.slot_tuple_iterator_next ih.typeIs F.entry_tuple_iterator_next ?_ (F.args_tuple_iterator_next_1 _)));show wpAny _ _ (field (.ref jt) 0>>=_) _ _ s;refine zzA (wpAny_field e1 e3 (x:=.ref tu) rfl ?_);show wpAny _ _ (if(Value.ref tu==Value.none)=true then _ else _) _ _ s;rw [if_neg (show¬((Value.ref tu==Value.none)=true) from zzf)];show wpAny _ _ (field (.ref jt) 1>>=_) _ _ s;refine zzA (wpAny_field e1 e3 (x:=.int i 0) rfl ?_);show wpAny _ _ (seqItems? (.ref tu)>>=_) _ _ s;refine zzA (wpAny_seqItems f1 f2 ?_);simp! [zz4,hx];refine zzA (wpAny_setField e1 e3 (by simp) (zzG ⟨x,rfl,zzG (k _ ?_ (zzu ..))⟩));exact⟨_,Heap.get?_update_self _ e1 (Obj.isFreed_of_fields (Obj.data_mapFields e3 _)),(Obj.cls_mapFields ..).trans e2,by rw [Obj.data_mapFields e3];simp [rawInt]⟩
def mr(hh:A.handled=none)(ih:s.heap.IsTupleIter jt tu i)(th:s.heap.IsTuple tu ak)(hx:ak[i]?=none)
 (k:∀g e,Heap.ExtBut jt s.heap g->(∃o,g.get? e=some o/\o.cls=.type "StopIteration")->E (.ref e) {s with heap:=g}):wpAny (model prog w) A (Builtin.SmallTypes.nextOf (.ref jt)) Q E s:=by
 obtain⟨ob,e1,e2,e3⟩:=id ih
 obtain⟨ot,f1,_,nn,f2⟩:=th
 unfold Builtin.SmallTypes.nextOf;refine zzA (wpAny_callSpecial?_slot (name:=Str.ofString "__next__") ih.typeIs F.slot_tuple_iterator_next (wpAny_call_entry F.slot_tuple_iterator_next ih.typeIs F.entry_tuple_iterator_next ?_ (F.args_tuple_iterator_next_1 _)));show wpAny _ _ (field (.ref jt) 0>>=_) _ _ s;refine zzA (wpAny_field e1 e3 (x:=.ref tu) rfl ?_);show wpAny _ _ (if(Value.ref tu==Value.none)=true then _ else _) _ _ s;rw [if_neg (show¬((Value.ref tu==Value.none)=true) from zzf)];show wpAny _ _ (field (.ref jt) 1>>=_) _ _ s;refine zzA (wpAny_field e1 e3 (x:=.int i 0) rfl ?_);show wpAny _ _ (seqItems? (.ref tu)>>=_) _ _ s;refine zzA (wpAny_seqItems f1 f2 ?_);simp! [zz4,hx];refine zzA (wpAny_rule (zzA (wpAny_setField e1 e3 (by simp) ?_)));show wpAny _ _ (newExc (.type "StopIteration") []>>=_) _ _ _;refine zzA ?_;simp! [newExc,newTuple];refine zzA (wpAny_newObj_type ?_ (by size_fits));refine zzA (m:=firstArgMember _ _) (wpAny_of_eq (a:=Value.none) (by first|rfl|(simp! [firstArgMember];rfl)) ?_);refine wpAny_newObj_type ?_ (by size_fits);simp! [raiseNew];refine zzA (wpAny_handled ?_)
 first|rw [show A.in1.handled=none from hh]|rw [hh]
 refine zzA (zzG (wpAny_throw ?_));exact k _ _ (((zzu ..).extBut.push _).push _) ⟨_,zzX _ rfl,rfl⟩
end
theorem jx{prog:Program}{w:World}{A:Around}(hh:A.handled=none)(jt tu:Addr)(iK:tu≠jt)(ak:Array Value):
 Draws prog w A jt [jt,tu] ak.size (λi v=>ak[i]?=some v) (λi h=>h.IsTupleIter jt tu i/\h.IsTuple tu ak) where
 live:=λ_ _ st=>let⟨o,ho,_⟩:=st.1;⟨o,ho⟩
 frame:=λ_ _ _ st hk=>⟨st.1.at λo e=>hk jt (by simp) o e,by obtain⟨o,e,r⟩:=st.2;exact⟨o,hk tu (by simp) o e,r⟩⟩
 item:=λi s Q E hi st hQ=>j7 st.1 st.2 (x:=ak[i]) (by simp [hi]) λg ig sb=>hQ _ g s.toks (by simp [hi]) ⟨ig,by obtain⟨o,e,r⟩:=st.2;exact⟨o,sb.extBut _ _ iK e,r⟩⟩ sb
 done:=λs Q E st hE=>mr hh st.1 st.2 (by simp) hE
theorem wK(l:Addr)(items:Array Value)(n:Nat)(bM:Option Addr)(sl:Array (Option Value)):
 Meets (Builtin.«enumerate.__new__» ⟨[.type "enumerate",.ref l],[]⟩) (λ_ R s=>s.heap.get? l=some {cls:=.type "tuple",dict:=bM,data:=.seq items n,slots:=sl}/\
  R (.ok (.ret (.ref (s.heap.push {cls:=.type "tuple_iterator",data:=.fields #[.ref l,.int 0 0]}).objs.size)))
   {s with heap:=(s.heap.push {cls:=.type "tuple_iterator",data:=.fields #[.ref l,.int 0 0]}).push {cls:=.type "enumerate",data:=.fields #[.none,.bool false,.ref (zz9 s),rawInt 0,.none,.none]}}):=
 .of_wp λprog w A R s h=>by
  obtain⟨hp,g,d,tk,os⟩:=s
  obtain⟨hl,h⟩:=h
  have TM:=sub_enumerate
  have hL:Heap.IsTuple (Shared.heap ⟨hp,g,d,tk,os⟩) l items:=⟨_,hl,rfl,n,rfl⟩
  wp_walk using wpAny_loadPart' hl
  refine wpAny_stack_any λst=>zzG ?_
  split
  ·rename_i c _ _ _ _ _;cases(c==Value.type "enumerate")<;>(wp_walk using wpAny_loadPart' hl,wpAny_pyIter_tuple hL;exact⟨_,rfl,h⟩)
  ·wp_walk using wpAny_loadPart' hl,wpAny_pyIter_tuple hL
   exact⟨_,rfl,h⟩
def ff{h:Heap}{a b:Addr}{o1 o2:Obj}(h1:h.get? a=some o1)(h2:h.get? b=some o2)(hc:o1.cls≠o2.cls):a≠b:=λz=>by
 subst z;rw [h1] at h2;cases h2;exact hc rfl
def eh(z:Str):strIterType z="str_ascii_iterator"\/strIterType z="str_iterator":=by
 unfold strIterType;split
 ·exact .inl rfl
 ·exact .inr rfl
def jr{X:Cx}{aa:List (Addr×Obj)}{σ:St}{H:Hp}{s:Shared}{E:Value->Shared->Prop}{e it:Addr}{W6:List Addr}{n i:Nat}{Pv:Nat->Value->Prop}{Sv:Nat->Heap->Prop}{old:Value}{Gx:V->Prop}{elts:List Expr}{x1:Nat}{pos:Pos}
 (I:Inv X aa σ H s) (D:Draws X.prog X.w X.A.in1 it W6 n Pv Sv) (he:IsEnum s.heap e it i old) (cL:Sv i s.heap) (bB:i<n) (iK:e≠it) (Wu:e∉W6) (hf:∀b∈[e,it],dy X aa H b) (hP:∀u,Pv i u->∃x,RelV x u/\Gx x):
 wpAny (model X.prog X.w) X.A (pyNext (.ref e)) (λr s1=>∃u,r=some u/\wpAny (model X.prog X.w) X.A (letOwnedTupleGo (.Tuple elts x1 pos) (.ref e) u) (λ_ s2=>∃x p,u=.ref p/\Gx x/\H p=none/\e≠p/\it≠p/\
  Inv X aa σ (upd H p (.tup [.int i,x])) s2/\(∃Tx,IsEnum s2.heap e it ((i:Int)+1) Tx)/\Sv (i+1) s2.heap) E s1) E s:=by
 refine wpAny_pyNext_enum_itemD D he cL bB iK Wu λu h' tk pu ho dY ht hz kk=>?_
 obtain⟨x,rx,gx⟩:=hP u pu
 obtain⟨f0,f1,f2,f3,f4,f5⟩:=hf e (by simp)
 obtain⟨g0,g1,g2,g3,g4,g5⟩:=hf it (by simp)
 have m9:H (zz9 s)=none:=I.aH.fresh (zzE _)
 obtain⟨oi,hoi⟩:=D.live _ _ cL
 have W2:e≠(zz9 s):=zzb (zzO he)
 have XM:it≠(zz9 s):=zzb (zzO hoi)
 have oM:∀b o,H b=some o->b≠e/\b≠it/\b≠(zz9 s):=λb o q=>⟨(λz=>(by rw [z,f0] at q;cases q)),(λz=>(by rw [z,g0] at q;cases q)),zzb (I.aH.lt q)⟩
 have I1:Inv X aa σ (upd H (zz9 s) (.tup [.int i,x])) {s with heap:=h',toks:=tk+1}:=by
  refine I.step (g':=s.gens) (d':=s.drawn) (ch:=[e,it]) (λb hb=>?_) (λb o _ _ hc q _=>kk b o (λz=>hc (by simp [z])) (λz=>hc (by simp [z])) q)
   (λb o _ _ hc q _=>⟨o.slots,kk b o (λz=>hc (by simp [z])) (λz=>hc (by simp [z])) q⟩) (λb o _ q nb=>by rw [ag (zzb (zzO q))];exact nb)
   (λb o hc q=>⟨o,kk b o (λz=>hc (by simp [z])) (λz=>hc (by simp [z])) q⟩) (λb xs q=>by rw [ag (oM b _ q).2.2];exact q) (λb o u q=>by rw [ag (oM b _ q).2.2];exact q)
   (λb ps q=>⟨#[],by rw [ag (oM b _ q).2.2,q];simp⟩) (λm hm=>?_) (λb o q=>?_) I.bare
  ·rcases zzm.mp hb with z|z
   ·subst z;exact⟨f3,f1,f4,f5⟩
   ·rw [zzi.mp z];exact⟨g3,g1,g4,g5⟩
  ·obtain⟨o,es,ep,q,r⟩:=hm
   exact⟨o,es,ep,kk _ o (Ne.symm f1) (Ne.symm g1) q,r⟩
  ·by_cases hb:b=(zz9 s)
   ·subst hb;rw [aj] at q;cases q;exact⟨(show 2<=sizeLine by decide),[.int i tk,u],.cons ⟨tk,rfl⟩ (.cons rx .nil),⟨_,ht,rfl,_,rfl⟩⟩
   ·rw [ag hb] at q;refine(I.aH b o q).di (λc v hc z=>kk c v ?_ ?_ z) (λc z=>by rw [ag (oM c _ z).2.2];exact z) λc xs z=>by rw [ag (oM c _ z).2.2];exact z
    ·rcases hc with z'|z'
     ·rw [z'];exact(oM b o q).1
     ·exact(oM c _ z').1
    ·rcases hc with z'|z'
     ·rw [z'];exact(oM b o q).2.1
     ·exact(oM c _ z').2.1
 refine⟨_,rfl,wpAny_letOwnedTupleGo_enum ho λh2 Hk sb=>?_⟩
 refine⟨x,(zz9 s),rfl,gx,m9,W2,XM,I1.turned (t':=tk+1) (it:=e) (λb o hb q=>sb.extBut b o hb q) (by rw [ag W2];exact f0) f1 f3 f4 f5,⟨_,Hk⟩,D.frame _ _ _ dY λb hb o q=>sb.extBut b o (λz=>Wu (z▸hb)) q⟩
noncomputable def UG(K:zz8)(a:Addr)(xs:List V):It:=
 ⟨λi H=>dI K H a xs/\i<xs.length,λi H v H'=>∃p x,v=.ref p/\H p=none/\H'=upd H p (.tup [.int (i:Nat),x])/\xs[i]?=some x,λi H=>dI K H a xs/\i=xs.length⟩
noncomputable def RX(z:Str):It:=
 ⟨λi _=>i<z.cps.size,λi H v H'=>∃p c,v=.ref p/\H p=none/\H'=upd H p (.tup [.int (i:Nat),.str ⟨#[c]⟩])/\z.cps[i]?=some c,λi _=>i=z.cps.size⟩
def sN{P:Program}{w:World}{K:zz8}{elts:List Expr}{x1:Nat}{pos:Pos}(a e it:Addr)(xs:List V):Turn P w K (.Tuple elts x1 pos) (UG K a xs) [e,it] e (λi h=>(∃old,IsEnum h e it i old)/\h.IsTupleIter it a i) where
 mem:=by simp
 obj:=λi h st b hb=>by
  obtain⟨⟨old,he⟩,o,ho,_,hd⟩:=st
  rcases zzm.mp hb with z|z
  ·subst z;exact⟨_,he,λv q=>by cases q⟩
  ·rw [zzi.mp z];exact⟨o,ho,λv q=>by rw [hd] at q;cases q⟩
 keep:=λi h h' st k=>⟨by obtain⟨old,he⟩:=st.1;exact⟨old,k e (by simp) _ he⟩,st.2.at λo q=>k it (by simp) o q⟩
 item:=by
  intro X hP hw hK hc i aa s σ H E I hf st hg;subst hP hw hK;obtain⟨hq,bB⟩:=hg
  obtain⟨⟨old,he⟩,hit⟩:=st
  obtain⟨ak,rv,p,hz⟩:=I.tuple hq
  have hl:=rv.length
  have j6:=hit
  obtain⟨oi,e1,e2,_⟩:=hit
  obtain⟨oa,a1,a2,_⟩:=id p
  have zF:a≠it:=ff a1 e1 (by rw [a2,e2];decide+kernel)
  have F8:e≠it:=ff he e1 (by rw [e2];show Value.type "enumerate"≠_;decide+kernel)
  have Gh:e≠a:=ff he a1 (by rw [a2];show Value.type "enumerate"≠_;decide+kernel)
  refine bq (jr (Gx:=λx=>xs[i]?=some x) I (jx (A:=X.A.in1) (I.ok.hd hc) it a zF ak.toArray) he ⟨j6,p⟩ (by rw [zzC];omega) F8 (by simp [F8,Gh]) hf (λu hu=>?_)) λr s1 ⟨u,hr,k⟩=>⟨u,hr,bq k λ_ s2 ⟨x,q,z1,z2,z3,z4,z5,z6,z7,z8⟩=>?_⟩
  ·have QA:xs[i]?=some xs[i]:=zzg bB
   obtain⟨u',hu',ru'⟩:=rv.get QA
   have:ak.toArray[i]?=some u':=by simpa using hu'
   have K1:ak.toArray[i]?=some u:=hu
   rw [this] at K1;cases K1;exact⟨xs[i],ru',QA⟩
  ·exact⟨.ref q,_,z6,z1.symm▸rfl,⟨q,x,rfl,z3,rfl,z2⟩,⟨z7,z8.1⟩,λb hb=>by
    rcases zzm.mp hb with w|w
    ·rw [w,ag z4];exact(hf e (by simp)).1
    ·rw [zzi.mp w,ag z5];exact(hf it (by simp)).1⟩
 done:=by
  intro X hP hw hK hc i aa s σ H E I hf st hg;subst hP hw hK;obtain⟨hq,rfl⟩:=hg
  obtain⟨⟨old,he⟩,hit⟩:=st
  obtain⟨ak,rv,p,hz⟩:=I.tuple hq
  have hl:=rv.length
  have j6:=hit
  obtain⟨oi,e1,e2,_⟩:=hit
  obtain⟨oa,a1,a2,_⟩:=id p
  have zF:a≠it:=ff a1 e1 (by rw [a2,e2];decide+kernel)
  obtain⟨g0,g1,g2,g3,g4,g5⟩:=hf it (by simp)
  refine wpAny_pyNext_enum_endD (jx (A:=X.A.in1) (I.ok.hd hc) it a zF ak.toArray) he ⟨by rw [zzC,<-hl];exact j6,p⟩ λh' eb=>⟨rfl,I.turned (t':=s.toks) (λb o hb q=>eb b o hb q) g0 g1 g3 g4 g5⟩
 self:=λ_ _ _ _ _ st h=>by obtain⟨⟨old,he⟩,_⟩:=st;exact wpAny_pyIter_enum he h
def ny{prog:Program}{w:World}{A:Around}{E:Value->Shared->Prop}{s:Shared}{l:Addr}{items:Array Value}{Q:Value->Shared->Prop}(hL:IsTup s.heap l items)
 (h:∀g,IsEnum g ((zz9 s)+1) (zz9 s) 0 .none->g.IsTupleIter (zz9 s) l 0->(∀b o,s.heap.get? b=some o->g.get? b=some o)->Q (.ref ((zz9 s)+1)) {s with heap:=g}):
 wpAny (model prog w) A (call (.type "enumerate") [.ref l]) Q E s:=by
 obtain⟨⟨cls,dd,data,sl⟩,ho,hc,n,hd⟩:=id hL
 simp only at hc hd;subst hc hd;have hz:(s.heap.push {cls:=.type "tuple_iterator",data:=.fields #[.ref l,.int 0 0]}).objs.size=(zz9 s)+1:=Heap.size_push ..
 refine callType_new F.called_enumerate (by decide) (F.typeCall_enumerate_1 _) (F.newCall_enumerate_1 _) (λobj=>F.args_object_init_2 obj _) F.entry_enumerate_new (wK l items n dd sl) ⟨ho,?_⟩;show _/\_;rw [hz];have he:IsEnum ((s.heap.push {cls:=.type "tuple_iterator",data:=.fields #[.ref l,.int 0 0]}).push {cls:=.type "enumerate",data:=.fields #[.none,.bool false,.ref (zz9 s),rawInt 0,.none,.none]}) ((zz9 s)+1) (zz9 s) 0 .none:=by
  have q:=zzX (s.heap.push {cls:=.type "tuple_iterator",data:=.fields #[.ref l,.int 0 0]}) (o:={cls:=.type "enumerate",data:=.fields #[.none,.bool false,.ref (zz9 s),rawInt 0,.none,.none]}) rfl
  rw [hz] at q;exact q
 exact⟨⟨_,he,rfl⟩,h _ he ⟨_,zzB _ (zzX _ rfl),rfl,rfl⟩ λb o x=>zzB _ (zzB _ x)⟩
section
variable{X:Cx}{elts:List Expr}{x1:Nat}{kb:Pos}
noncomputable def TX(K:zz8)(ta:TA):TI:=λσ H R=>ta σ H λvs H1=>∃a xs,vs=[.ref a]/\dI K H1 a xs/\R (UG K a xs) H1
theorem ye{a:Expr}{ta:TA}{p pos:Pos}(hg:Gl X "enumerate")(hm:X.mg "enumerate"=none)(ha:PA X [a] ta)(hs:starEach [a] X.env=[(false,eval a X.env)]:=by rfl):PI X (.Tuple elts x1 kb) (.Call (.Name "enumerate" p) [a] [] pos) (TX X.K ta):=by
 intro aa s σ H R I h;refine Call_ (dq I hg hm boot_enumerate (PyProof.Rows.callWith_type1 (bq (ha pos aa s σ H _ I h) λus s1 ⟨vs,H1,I1,r1,q1⟩=>?_) hs rfl))
 obtain⟨a,xs,e,hq,q⟩:=q1
 subst e;obtain⟨u,rfl,ru⟩:=vals1 r1
 cases ru;obtain⟨ak,rv,pt,hz⟩:=I1.tuple hq
 refine ny pt λg he hi kp=>wpAny_pyIter_enum he ?_
 have I2:Inv X aa σ H1 {s1 with heap:=g}:=I1.kept (t':=s1.toks) kp
 refine⟨(zz9 s1)+1,[(zz9 s1)+1,(zz9 s1)],_,_,H1,rfl,I2,sN a _ (zz9 s1) xs,⟨⟨_,he⟩,hi⟩,λb hb=>?_,q⟩
 have iR:(zz9 s1)<=b:=by
  rcases zzm.mp hb with z|z
  ·rw [z];exact Nat.le_succ _
  ·rw [zzi.mp z];exact zzE _
 exact I1.je iR (I1.aH.fresh iR)
end
def uM{P:Program}{w:World}{K:zz8}{elts:List Expr}{x1:Nat}{pos:Pos}(z:Str)(t:Tok)(e it:Addr):Turn P w K (.Tuple elts x1 pos) (RX z) [e,it] e (λi h=>(∃old,IsEnum h e it i old)/\h.IsStrIter it (strIterType z) z t i) where
 mem:=by simp
 obj:=λi h st b hb=>by
  obtain⟨⟨old,he⟩,o,ho,_,hd⟩:=st
  rcases zzm.mp hb with q|q
  ·subst q;exact⟨_,he,λv q=>by cases q⟩
  ·rw [zzi.mp q];exact⟨o,ho,λv q=>by rw [hd] at q;cases q⟩
 keep:=λi h h' st k=>⟨by obtain⟨old,he⟩:=st.1;exact⟨old,k e (by simp) _ he⟩,by obtain⟨o,q,r⟩:=st.2;exact⟨o,k it (by simp) o q,r⟩⟩
 item:=by
  intro X hP hw hK hc i aa s σ H E I hf st hg;subst hP hw hK;have bB:i<z.cps.size:=hg
  obtain⟨⟨old,he⟩,hit⟩:=st
  have j6:=hit
  obtain⟨oi,e1,e2,_⟩:=hit
  have F8:e≠it:=ff he e1 (by
   rw [e2];show Value.type "enumerate"≠_;rcases eh z with q|q<;>rw [q]<;>decide+kernel)
  have fin:∀{Sv:Nat->Heap->Prop},Draws X.prog X.w X.A.in1 it [it] z.cps.size (λi v=>∃c u,z.cps[i]?=some c/\v=.str ⟨#[c]⟩ u) Sv->Sv i s.heap->(∀h,Sv (i+1) h->h.IsStrIter it (strIterType z) z t (i+1))->
   wpAny (model X.prog X.w) X.A (pyNext (.ref e)) (λr s1=>∃u,r=some u/\wpAny (model X.prog X.w) X.A (letOwnedTupleGo (.Tuple elts x1 pos) (.ref e) u) (λ_ s2=>∃x H',Inv X aa σ H' s2/\RelV x u/\(RX z).JM i H x H'/\((∃old,IsEnum s2.heap e it (((i+1:Nat)):Int) old)/\s2.heap.IsStrIter it (strIterType z) z t (i+1))/\∀b∈[e,it],H' b=none) E s1) E s:=by
   intro Sv D cL back;refine bq (jr (Gx:=λx=>∃c,x=.str ⟨#[c]⟩/\z.cps[i]?=some c) I D he cL bB F8 (by simp [F8]) hf (λu ⟨c,tk,hc,hu⟩=>⟨.str ⟨#[c]⟩,⟨tk,hu⟩,c,rfl,hc⟩)) λr s1 ⟨u,hr,k⟩=>⟨u,hr,bq k λ_ s2 ⟨x,q,z1,⟨c,z2,z2'⟩,z3,z4,z5,z6,z7,z8⟩=>?_⟩
   subst z2;exact⟨.ref q,_,z6,z1.symm▸rfl,⟨q,c,rfl,z3,rfl,z2'⟩,⟨z7,back _ z8⟩,λb hb=>by
    rcases zzm.mp hb with w|w
    ·rw [w,ag z4];exact(hf e (by simp)).1
    ·rw [zzi.mp w,ag z5];exact(hf it (by simp)).1⟩
  rcases eh z with q|q
  ·rw [q] at j6⊢;rw [q] at fin;exact fin (Draws.strAscii (A:=X.A.in1) (I.ok.hd hc) it z t) j6 λh st=>st
  ·rw [q] at j6⊢;rw [q] at fin;exact fin (Draws.strWide (A:=X.A.in1) (I.ok.hd hc) it z t) j6 λh st=>st
 done:=by
  intro X hP hw hK hc i aa s σ H E I hf st hg;subst hP hw hK;have hi:i=z.cps.size:=hg
  subst hi;obtain⟨⟨old,he⟩,hit⟩:=st
  obtain⟨g0,g1,g2,g3,g4,g5⟩:=hf it (by simp)
  rcases eh z with q|q
  ·rw [q] at hit;exact wpAny_pyNext_enum_endD (Draws.strAscii (A:=X.A.in1) (I.ok.hd hc) it z t) he hit λh' eb=>⟨rfl,I.turned (t':=s.toks) (λb o hb q=>eb b o hb q) g0 g1 g3 g4 g5⟩
  ·rw [q] at hit;exact wpAny_pyNext_enum_endD (Draws.strWide (A:=X.A.in1) (I.ok.hd hc) it z t) he hit λh' eb=>⟨rfl,I.turned (t':=s.toks) (λb o hb q=>eb b o hb q) g0 g1 g3 g4 g5⟩
 self:=λ_ _ _ _ _ st h=>by obtain⟨⟨old,he⟩,_⟩:=st;exact wpAny_pyIter_enum he h
section
variable{X:Cx}{elts:List Expr}{x1:Nat}{kb:Pos}
noncomputable def U0(ta:TA):TI:=λσ H R=>ta σ H λvs H1=>∃z,vs=[.str z]/\R (RX z) H1
theorem Bo{a:Expr}{ta:TA}{p pos:Pos}(hg:Gl X "enumerate")(hm:X.mg "enumerate"=none)(ha:PA X [a] ta)(hs:starEach [a] X.env=[(false,eval a X.env)]:=by rfl):PI X (.Tuple elts x1 kb) (.Call (.Name "enumerate" p) [a] [] pos) (U0 ta):=by
 intro aa s σ H R I h;refine Call_ (dq I hg hm boot_enumerate (PyProof.Rows.callWith_type1 (bq (ha pos aa s σ H _ I h) λus s1 ⟨vs,H1,I1,r1,q1⟩=>?_) hs rfl))
 obtain⟨z,e,q⟩:=q1
 subst e;obtain⟨u,rfl,t,rfl⟩:=vals1 r1
 refine call_enumerate_str λg he hi hz kp=>wpAny_pyIter_enum he ?_
 have I2:Inv X aa σ H1 {s1 with heap:=g}:=I1.kept (t':=s1.toks) kp
 refine⟨(zz9 s1)+1,[(zz9 s1)+1,(zz9 s1)],_,_,H1,rfl,I2,uM z t _ (zz9 s1),⟨⟨_,he⟩,hi⟩,λb hb=>?_,q⟩
 have iR:(zz9 s1)<=b:=by
  rcases zzm.mp hb with z|z
  ·rw [z];exact Nat.le_succ _
  ·rw [zzi.mp z];exact zzE _
 exact I1.je iR (I1.aH.fresh iR)
end
noncomputable def Mp(K:zz8)(a:Addr)(xs:List V):It:=
 ⟨λi H=>df K H a xs/\i<xs.length,λi H v H'=>∃p x,v=.ref p/\H p=none/\H'=upd H p (.tup [.int (i:Nat),x])/\xs[i]?=some x,λi H=>df K H a xs/\i=xs.length⟩
def uN{P:Program}{w:World}{K:zz8}{elts:List Expr}{x1:Nat}{pos:Pos}(a e it:Addr)(xs:List V):Turn P w K (.Tuple elts x1 pos) (Mp K a xs) [e,it] e (λi h=>(∃old,IsEnum h e it i old)/\h.IsListIter it a i) where
 mem:=by simp
 obj:=λi h st b hb=>by
  obtain⟨⟨old,he⟩,o,ho,_,hd⟩:=st
  rcases zzm.mp hb with z|z
  ·subst z;exact⟨_,he,λv q=>by cases q⟩
  ·rw [zzi.mp z];exact⟨o,ho,λv q=>by rw [hd] at q;cases q⟩
 keep:=λi h h' st k=>⟨by obtain⟨old,he⟩:=st.1;exact⟨old,k e (by simp) _ he⟩,st.2.at λo q=>k it (by simp) o q⟩
 item:=by
  intro X hP hw hK hc i aa s σ H E I hf st hg;subst hP hw hK;obtain⟨hq,bB⟩:=hg
  obtain⟨⟨old,he⟩,hit⟩:=st
  obtain⟨ak,rv,p,hz⟩:=I.list hq
  have hl:=rv.length
  have j6:=hit
  obtain⟨oi,e1,e2,_⟩:=hit
  obtain⟨oa,a1,a2,_⟩:=p.isList
  have zF:a≠it:=ff a1 e1 (by rw [a2,e2];decide+kernel)
  have F8:e≠it:=ff he e1 (by rw [e2];show Value.type "enumerate"≠_;decide+kernel)
  have Gh:e≠a:=ff he a1 (by rw [a2];show Value.type "enumerate"≠_;decide+kernel)
  refine bq (jr (Gx:=λx=>xs[i]?=some x) I (Draws.list (A:=X.A.in1) (I.ok.hd hc) it a zF ak.toArray) he ⟨j6,p.isList⟩ (by rw [zzC];omega) F8 (by simp [F8,Gh]) hf (λu hu=>?_)) λr s1 ⟨u,hr,k⟩=>⟨u,hr,bq k λ_ s2 ⟨x,q,z1,z2,z3,z4,z5,z6,z7,z8⟩=>?_⟩
  ·have QA:xs[i]?=some xs[i]:=zzg bB
   obtain⟨u',hu',ru'⟩:=rv.get QA
   have:ak.toArray[i]?=some u':=by simpa using hu'
   have K1:ak.toArray[i]?=some u:=hu
   rw [this] at K1;cases K1;exact⟨xs[i],ru',QA⟩
  ·exact⟨.ref q,_,z6,z1.symm▸rfl,⟨q,x,rfl,z3,rfl,z2⟩,⟨z7,z8.1⟩,λb hb=>by
    rcases zzm.mp hb with w|w
    ·rw [w,ag z4];exact(hf e (by simp)).1
    ·rw [zzi.mp w,ag z5];exact(hf it (by simp)).1⟩
 done:=by
  intro X hP hw hK hc i aa s σ H E I hf st hg;subst hP hw hK;obtain⟨hq,rfl⟩:=hg
  obtain⟨⟨old,he⟩,hit⟩:=st
  obtain⟨ak,rv,p,hz⟩:=I.list hq
  have hl:=rv.length
  have j6:=hit
  obtain⟨oi,e1,e2,_⟩:=hit
  obtain⟨oa,a1,a2,_⟩:=p.isList
  have zF:a≠it:=ff a1 e1 (by rw [a2,e2];decide+kernel)
  obtain⟨g0,g1,g2,g3,g4,g5⟩:=hf it (by simp)
  refine wpAny_pyNext_enum_endD (Draws.list (A:=X.A.in1) (I.ok.hd hc) it a zF ak.toArray) he ⟨by rw [zzC,<-hl];exact j6,p.isList⟩ λh' eb=>⟨rfl,I.turned (t':=s.toks) (λb o hb q=>eb b o hb q) g0 g1 g3 g4 g5⟩
 self:=λ_ _ _ _ _ st h=>by obtain⟨⟨old,he⟩,_⟩:=st;exact wpAny_pyIter_enum he h
section
variable{X:Cx}{elts:List Expr}{x1:Nat}{kb:Pos}
noncomputable def US(K:zz8)(ta:TA):TI:=λσ H R=>ta σ H λvs H1=>∃a xs,vs=[.ref a]/\df K H1 a xs/\R (Mp K a xs) H1
theorem qV{a:Expr}{ta:TA}{p pos:Pos}(hg:Gl X "enumerate")(hm:X.mg "enumerate"=none)(ha:PA X [a] ta)(hs:starEach [a] X.env=[(false,eval a X.env)]:=by rfl):PI X (.Tuple elts x1 kb) (.Call (.Name "enumerate" p) [a] [] pos) (US X.K ta):=by
 intro aa s σ H R I h;refine Call_ (dq I hg hm boot_enumerate (PyProof.Rows.callWith_type1 (bq (ha pos aa s σ H _ I h) λus s1 ⟨vs,H1,I1,r1,q1⟩=>?_) hs rfl))
 obtain⟨a,xs,e,hq,q⟩:=q1
 subst e;obtain⟨u,rfl,ru⟩:=vals1 r1
 cases ru;obtain⟨ak,rv,pt,hz⟩:=I1.list hq
 refine call_enumerate_list pt.isList λg he hi _ kp=>wpAny_pyIter_enum he ?_
 have I2:Inv X aa σ H1 {s1 with heap:=g}:=I1.kept (t':=s1.toks) kp
 refine⟨(zz9 s1)+1,[(zz9 s1)+1,(zz9 s1)],_,_,H1,rfl,I2,uN a _ (zz9 s1) xs,⟨⟨_,he⟩,hi⟩,λb hb=>?_,q⟩
 have iR:(zz9 s1)<=b:=by
  rcases zzm.mp hb with z|z
  ·rw [z];exact Nat.le_succ _
  ·rw [zzi.mp z];exact zzE _
 exact I1.je iR (I1.aH.fresh iR)
variable{aa:List (Addr×Obj)}{σ:St}{H:Hp}{s:Shared}{h':Heap}{ch:List Addr}
def Inv.moved{tk:Nat}(I:Inv X aa σ H s)(hf:∀b∈ch,dy X aa H b)(kk:∀b o,b∉ch->s.heap.get? b=some o->h'.get? b=some o):Inv X aa σ H {s with heap:=h',toks:=tk}:=by
 have oM:∀b o,H b=some o->b∉ch:=λb o q z=>by rw [(hf b z).1] at q;cases q
 refine I.step (g':=s.gens) (d':=s.drawn) (ch:=ch) (λb hb=>?_) (λb o _ _ hc q _=>kk b o hc q) (λb o _ _ hc q _=>⟨o.slots,kk b o hc q⟩) (λ_ _ _ _ n=>n)
  (λb o hc q=>⟨o,kk b o hc q⟩) (λb xs q=>q) (λb o u q=>q) (λb ps q=>⟨#[],by rw [q];simp⟩) (λm hm=>?_) (λb o q=>?_) I.bare
 ·obtain⟨f0,f1,f2,f3,f4,f5⟩:=hf b hb
  exact⟨f3,f1,f4,f5⟩
 ·obtain⟨o,es,ep,q,r⟩:=hm
  exact⟨o,es,ep,kk _ o (λz=>(hf _ z).2.1 rfl) q,r⟩
 ·refine(I.aH b o q).di (λc v hc z=>kk c v ?_ z) (λc z=>z) λc xs z=>z
  rcases hc with z'|z'
  ·rw [z'];exact oM b o q
  ·exact oM c _ z'
end
structure Zd where
 it:Addr
 fp:List Addr
 n:Nat
 P:Nat->Value->Prop
 St:Nat->Heap->Prop
structure QV(prog:Program)(w:World)(A:Around)(z TI TO:Addr)(ds:List Zd):Prop where
 D:∀d∈ds,Draws prog w A d.it d.fp d.n d.P d.St
 zf:∀d∈ds,z∉d.fp/\TO∉d.fp/\d.it≠z/\d.it≠TO/\d.it≠TI
 ap:ds.Pairwise λa b=>a.it∉b.fp/\b.it∉a.fp
 tz:TI≠z/\TO≠z/\TI≠TO
abbrev iu(h:Heap)(T:Addr)(xs:Array Value):Prop:=h.get? T=some {cls:=.type "tuple",data:=.seq xs}
section
variable{prog:Program}{w:World}{A:Around}{E:Value->Shared->Prop}{s:Shared}{z TI TO:Addr}{ds:List Zd}{k:Nat}
def Tt(z TI TO:Addr)(k:Nat)(h0:Heap)(ds:List Zd)(rest:List (Value×Nat))(h:Heap):Prop:=
 ∃dn lf xs ys,ds=dn++lf/\rest=(lf.map λd=>Value.ref d.it).zipIdx dn.length/\Paired (λd x=>d.P k x) dn xs/\ys.length=lf.length/\IsZip h z TI TO .ellipsis/\iu h TO (xs++ys).toArray/\
  (∀d∈dn,d.St (k+1) h)/\(∀d∈lf,d.St k h)/\h.objs.size=h0.objs.size/\∀c o,c≠z->c≠TO->(∀d∈ds,c≠d.it)->h0.get? c=some o->h.get? c=some o
def rZ{Q:Fin->Shared->Prop}(Z:QV prog w A z TI TO ds)(hl:ds.length<=9)(iK:ds≠[])(hz:IsZip s.heap z TI TO .none)(Zc:iu s.heap TI (ds.map λd=>Value.ref d.it).toArray)(X3:∃c,iu s.heap TO c/\c.size=ds.length)(hs:∀d∈ds,d.St k s.heap/\k<=d.n)
 (hQ:∀h' tk xs,Paired (λd x=>d.P k x) ds xs->IsZip h' z TI TO (rawInt (zz9 s))->(∃c,iu h' TO c/\c.size=ds.length)->(∀d∈ds,d.St (k+1) h')->iu h' (zz9 s) xs.toArray->h'.objs.size=(zz9 s)+1->
  (∀c o,c≠z->c≠TO->(∀d∈ds,c≠d.it)->s.heap.get? c=some o->h'.get? c=some o)->Q (.done (.ret (.ref (zz9 s)))) {s with heap:=h',toks:=tk})
 (hE:∀h' tk e,(∃d∈ds,d.n<=k)->(∀c o,c≠z->c≠TO->(∀d∈ds,c≠d.it)->s.heap.get? c=some o->h'.get? c=some o)->(∃o,h'.get? e=some o/\o.cls=.type "StopIteration")->E (.ref e) {s with heap:=h',toks:=tk}):
 wpAny (model prog w) A (Builtin.«zip.__next__» ⟨[.ref z],[]⟩) Q E s:=by
 obtain⟨t1,t2,t3⟩:=Z.tz
 show wpAny _ _ (field (.ref z) 2>>=_) _ _ _
 refine zzA (wpAny_field hz rfl (x:=.bool false) rfl ?_);show wpAny _ _ (field (.ref z) 3>>=_) _ _ _;refine zzA (wpAny_field hz rfl (x:=.ref TI) rfl ?_);refine zzA (wpAny_seqItems Zc rfl ?_);have Ug:(ds.map λd=>Value.ref d.it).toArray.isEmpty=false:=by cases ds<;>simp_all
 simp! [Ug,zze,if_false];show wpAny _ _ (Builtin.SmallTypes.ownedTupleIsFree (.ref z)>>=_) _ _ _;refine zzA ?_;unfold Builtin.SmallTypes.ownedTupleIsFree;refine zzA (wpAny_field hz rfl (x:=.none) rfl (zzG ?_));simp! [if_true];refine zzA (wpAny_rule ?_);refine zzA (wpAny_field hz rfl (x:=.ref TO) rfl ?_);refine zzA (wpAny_setField_rec hz (by simp) λh₁ hz₁ hs₁=>?_)
 replace hz₁:IsZip h₁ z TI TO .ellipsis:=hz₁
 refine zzA ?_;obtain⟨c,hc,B3⟩:=X3
 have Pd:∀{h h':Heap},Heap.SameBut z h h'->∀d∈ds,∀{i},d.St i h->d.St i h':=λsb d hd i q=>(Z.D d hd).frame _ _ _ q λb hb o e=>sb.extBut b o (λx=>(Z.zf d hd).1 (x▸hb)) e
 refine wpAny_forIn_list _ (λrest b s'=>b=⟨none,PUnit.unit⟩/\∃h tk,s'={s with heap:=h,toks:=tk}/\Tt z TI TO k s.heap ds rest h) _ ?_ ?_ _ _ ⟨rfl,h₁,s.toks,rfl,[],ds,[],c.toList,rfl,rfl,.nil,by simpa using B3,hz₁,?_,(λd hd=>nomatch hd),(λd hd=>Pd hs₁ d hd (hs d hd).1),hs₁.1,λc o h1 _ _ e=>hs₁.extBut _ _ h1 e⟩
 ·rintro ⟨RL,j⟩ rest b s' ⟨rfl,h,tk,rfl,dn,lf,xs,ys,rfl,hr,pr,hyl,hzh,hto,sd,sl,hsz,kk⟩
  cases lf with
  |nil=>cases hr
  |cons d lf=>
   simp! [zzF,List.zipIdx_cons,List.cons.injEq,Prod.mk.injEq] at hr;obtain⟨⟨rfl,rfl⟩,rfl⟩:=hr
   have hd:d∈dn++d::lf:=by simp
   have D:=Z.D d hd
   obtain⟨f1,f2,f3,f4,f5⟩:=Z.zf d hd
   refine zzA (wpAny_onRaise ?_);show wpAny _ _ (Builtin.SmallTypes.nextOf (.ref d.it)>>=_) _ _ _;have Xi:∀a∈dn++lf,d.it∉a.fp/\a.it∉d.fp:=λa ha=>by
    have q:=List.pairwise_append.1 Z.ap
    rcases List.mem_append.1 ha with ha|ha
    ·exact(q.2.2 a ha d (zzP ..)).symm
    ·exact(List.pairwise_cons.1 q.2.1).1 a ha
   by_cases hk:k<d.n
   ·refine zzA (D.item k _ _ _ hk (sl d (zzP ..)) λx h2 Xo px Qd sb=>zzG ?_)
    have Kd:iu h2 TO (xs++ys).toArray:=sb.extBut _ _ (Ne.symm f4) hto
    refine zzA (wpAny_seqItems Kd rfl ?_);have lx:=Paired.length pr
    obtain⟨y,yr,rfl⟩:∃y yr,ys=y::yr:=by cases ys with|nil=>cases hyl|cons y yr=>exact⟨y,yr,rfl⟩
    have P1:(xs++y::yr).toArray.size<=sizeLine:=by
     have:(xs++y::yr).toArray.size<=9:=by simp! [zzC,zzM,zzL] at hyl hl⊢;omega
     exact zzU this (by decide)
    refine zzA (wpAny_updateSeq Kd rfl ?_ P1 (by rw [Array.size_setIfInBounds];exact Nat.le_succ_of_le P1));refine zzA (wpAny_letGo (zzG ?_));have Pa:Heap.SameBut TO h2 (h2.update TO (Obj.mapSeq λv=>v.setIfInBounds dn.length x)):=zzu ..
    have U7:iu (h2.update TO (Obj.mapSeq λv=>v.setIfInBounds dn.length x)) TO (xs++[x]++yr).toArray:=by
     show Heap.get? _ TO=_
     rw [Heap.get?_update_self _ Kd rfl];have:(xs++y::yr).toArray.setIfInBounds dn.length x=(xs++[x]++yr).toArray:=by
      rw [List.setIfInBounds_toArray,lx,List.set_append_right _ _ (zzE _),Nat.sub_self,List.set_cons_zero];simp
     have ls:((xs++[x]++yr).toArray.size==(xs++y::yr).toArray.size)=true:=by simp
     simp! [Obj.mapSeq,this,ls,if_true]
    refine⟨rfl,_,Xo,rfl,dn++[d],lf,xs++[x],yr,by simp,by simp,Paired.snoc pr px,by simpa using hyl,?_,U7,λa ha=>?_,λa ha=>?_,?_,λc o c1 c2 c3 e=>?_⟩
    ·exact Pa.extBut _ _ (Ne.symm t2) (sb.extBut _ _ (Ne.symm f3) hzh)
    ·rcases List.mem_append.1 ha with ha|ha
     ·refine(Z.D a (by simp [ha])).frame _ _ _ (sd a ha) λb hb o e=>Pa.extBut _ _ (λq=>(Z.zf a (by simp [ha])).2.1 (q▸hb)) (sb.extBut _ _ (λq=>(Xi a (by simp [ha])).1 (q▸hb)) e)
     ·rw [zzi.1 ha];exact D.frame _ _ _ Qd λb hb o e=>Pa.extBut _ _ (λq=>f2 (q▸hb)) e
    ·refine(Z.D a (by simp [ha])).frame _ _ _ (sl a (zzI _ ha)) λb hb o e=>Pa.extBut _ _ (λq=>(Z.zf a (by simp [ha])).2.1 (q▸hb)) (sb.extBut _ _ (λq=>(Xi a (by simp [ha])).1 (q▸hb)) e)
    ·rw [Pa.1,sb.1,hsz]
    ·exact Pa.extBut _ _ c2 (sb.extBut _ _ (c3 d hd) (kk c o c1 c2 c3 e))
   ·have hn:d.n=k:=Nat.le_antisymm (Nat.le_of_not_lt hk) (hs d hd).2
    refine zzA (D.done _ _ _ (by rw [hn];exact sl d (zzP ..)) λh2 e eb he=>?_)
    obtain⟨oe,hoe,Qu⟩:=he
    have OS:IsZip h2 z TI TO .ellipsis:=eb _ _ (Ne.symm f3) hzh
    have Yg:e≠z:=λq=>by subst q;rw [OS] at hoe;cases hoe;simp at Qu
    exact wpAny_setField_rec OS (by simp) λh3 _ WZ=>hE h3 tk e ⟨d,hd,Nat.le_of_eq hn⟩ (λc o c1 c2 c3 q=>WZ.extBut _ _ c1 (eb _ _ (c3 d hd) (kk c o c1 c2 c3 q))) ⟨oe,WZ.extBut _ _ Yg hoe,Qu⟩
 ·rintro b s' ⟨rfl,h,tk,rfl,dn,lf,xs,ys,rfl,hr,pr,hyl,hzh,hto,sd,sl,hsz,kk⟩
  obtain rfl:lf=[]:=by cases lf with|nil=>rfl|cons d lf=>cases hr
  obtain rfl:ys=[]:=List.eq_nil_of_length_eq_zero hyl
  simp! [zz6] at hto hQ Z kk hl;have lx:=Paired.length pr
  refine zzA (wpAny_seqItems hto rfl ?_);refine zzA (wpAny_newTuple ?_ (zzU (m:=9) (by show xs.length<=9;omega) (by decide)));show wpAny _ _ (Builtin.SmallTypes.ownedTupleHandOut (.ref z) (.ref h.objs.size)>>=_) _ _ _;refine zzA ?_;unfold Builtin.SmallTypes.ownedTupleHandOut;have Vo:z<h.objs.size:=zzO hzh
  have XY:IsZip (h.push {cls:=.type "tuple",data:=.seq xs.toArray}) z TI TO .ellipsis:=zzB _ hzh
  refine zzA (wpAny_setField_rec XY (by simp) λh7 Si UK=>?_)
  replace Si:IsZip h7 z TI TO (rawInt h.objs.size):=Si
  refine wpAny_setField_rec Si (by simp) λh8 Se U6=>?_
  replace Se:IsZip h8 z TI TO (rawInt h.objs.size):=Se
  have up:∀c o,c≠z->h.get? c=some o->h8.get? c=some o:=λc o c1 e=>U6.extBut _ _ c1 (UK.extBut _ _ c1 (zzB _ e))
  have Vu:iu h8 h.objs.size xs.toArray:=U6.extBut _ _ (Nat.ne_of_gt Vo) (UK.extBut _ _ (Nat.ne_of_gt Vo) (zzX _ rfl))
  have Xm:h8.objs.size=h.objs.size+1:=by rw [U6.1,UK.1,Heap.size_push]
  rw [hsz] at Se Vu Xm;refine zzG ?_;show Q (.done (.ret (.ref h.objs.size))) _;rw [hsz];exact hQ h8 tk xs pr Se ⟨_,up _ _ t2 hto,by simp [lx]⟩ (λd hd=>(Z.D d hd).frame _ _ _ (sd d hd) λb hb o e=>up b o (λq=>(Z.zf d hd).1 (q▸hb)) e) Vu Xm λc o c1 c2 c3 e=>up c o c1 (kk c o c1 c2 c3 e)
 ·show iu h₁ TO _
  exact hs₁.extBut _ _ t2 (by simpa using hc)
variable{X:Cx}{aa:List (Addr×Obj)}{σ:St}{H:Hp}{h':Heap}{ch:List Addr}
def Inv.AA{tk:Nat}{xs:List V}{us:List Value}{ob:Obj}{n:Nat}(I:Inv X aa σ H s)(hf:∀b∈ch,dy X aa H b)(kk:∀b o,b∉ch->s.heap.get? b=some o->h'.get? b=some o)
 (hp:h'.get? (zz9 s)=some ob) (hc:ob.cls=.type "tuple") (hd:ob.data=.seq us.toArray n) (rx:Vals xs us) (hl:xs.length<=sizeLine):Inv X aa σ (upd H (zz9 s) (.tup xs)) {s with heap:=h',toks:=tk}:=by
 have oM:∀b o,H b=some o->b∉ch/\b≠(zz9 s):=λb o q=>⟨(λz=>(by rw [(hf b z).1] at q;cases q)),zzb (I.aH.lt q)⟩
 refine I.step (g':=s.gens) (d':=s.drawn) (ch:=ch) (λb hb=>?_) (λb o _ _ hc q _=>kk b o hc q) (λb o _ _ hc q _=>⟨o.slots,kk b o hc q⟩) (λb o _ q nb=>by rw [ag (zzb (zzO q))];exact nb)
  (λb o hc q=>⟨o,kk b o hc q⟩) (λb xs q=>by rw [ag (oM b _ q).2];exact q) (λb o u q=>by rw [ag (oM b _ q).2];exact q) (λb ps q=>⟨#[],by rw [ag (oM b _ q).2,q];simp⟩) (λm hm=>?_) (λb o q=>?_) I.bare
 ·obtain⟨f0,f1,f2,f3,f4,f5⟩:=hf b hb
  exact⟨f3,f1,f4,f5⟩
 ·obtain⟨o,es,ep,q,r⟩:=hm
  exact⟨o,es,ep,kk _ o (λz=>(hf _ z).2.1 rfl) q,r⟩
 ·by_cases hb:b=(zz9 s)
  ·subst hb;rw [aj] at q;cases q;exact⟨hl,us,rx,⟨_,hp,hc,_,hd⟩⟩
  ·rw [ag hb] at q;refine(I.aH b o q).di (λc v hc z=>kk c v ?_ z) (λc z=>by rw [ag (oM c _ z).2];exact z) λc xs z=>by rw [ag (oM c _ z).2];exact z
   rcases hc with z'|z'
   ·rw [z'];exact(oM b o q).1
   ·exact(oM c _ z').1
end
structure Zs where
 it:Addr
 b:Bool
 a:Addr
 xs:List V
def Zs.iter(q:Zs)(i:Nat)(h:Heap):Prop:=if q.b=true then h.IsListIter q.it q.a i else h.IsTupleIter q.it q.a i
abbrev Zt:=Bool×Addr×List V
def Zs.t(q:Zs):Zt:=(q.b,q.a,q.xs)
def Zq(K:zz8)(H:Hp)(q:Zt):Prop:=if q.1=true then df K H q.2.1 q.2.2 else dI K H q.2.1 q.2.2
def Zs.sq(K:zz8)(H:Hp)(q:Zs):Prop:=if q.b=true then df K H q.a q.xs else dI K H q.a q.xs
def Zs.vc{q:Zs}{i:Nat}{h h':Heap}(st:q.iter i h)(k:∀o,h.get? q.it=some o->h'.get? q.it=some o):q.iter i h':=by
 unfold Zs.iter at st⊢;split
 ·rename_i e;rw [if_pos e] at st;exact st.at k
 ·rename_i e;rw [if_neg e] at st;exact st.at k
def Zs.qF{q:Zs}{i:Nat}{h:Heap}(st:q.iter i h):∃o,h.get? q.it=some o/\∀v,o.data≠.cell v:=by
 unfold Zs.iter at st;split at st
 ·obtain⟨o,ho,_,hd⟩:=st;exact⟨o,ho,λv z=>by rw [hd] at z;cases z⟩
 ·obtain⟨o,ho,_,hd⟩:=st;exact⟨o,ho,λv z=>by rw [hd] at z;cases z⟩
noncomputable def U4(K:zz8)(ts:List Zt):It:=
 ⟨λi H=>∀q∈ts,Zq K H q/\i<q.2.2.length,λi H v H'=>∃p ys,v=.ref p/\H p=none/\H'=upd H p (.tup ys)/\Paired (λ(q:Zt) y=>q.2.2[i]?=some y) ts ys,
  λi H=>(∀q∈ts,Zq K H q/\i<=q.2.2.length)/\∃q∈ts,q.2.2.length=i⟩
structure yW(prog:Program)(w:World)(A:Around)(i:Nat)(h:Heap)(q:Zs)(d:Zd):Prop where
 it:d.it=q.it
 fp:d.fp=[q.it,q.a]
 n:d.n=q.xs.length
 D:Draws prog w A d.it d.fp d.n d.P d.St
 st:d.St i h
 back:∀j g,d.St j g->q.iter j g
 val:∀j u,d.P j u->∃x,RelV x u/\q.xs[j]?=some x
section
variable{X:Cx}{aa:List (Addr×Obj)}{σ:St}{H:Hp}{s:Shared}
def A6{xs:List V}{ak:List Value}(rv:Vals xs ak)(j:Nat)(u:Value)(hu:ak.toArray[j]?=some u):∃x,RelV x u/\xs[j]?=some x:=by
 have hu:ak[j]?=some u:=by simpa using hu
 have hj:j<xs.length:=by rw [rv.length];exact(zzH.mp hu).1
 obtain⟨u',hu',ru'⟩:=rv.get (zzg hj)
 rw [hu] at hu';cases hu';exact⟨_,ru',zzg hj⟩
def Q9(hc:X.calm=true)(I:Inv X aa σ H s){q:Zs}{i:Nat}(iK:q.a≠q.it)(h:q.sq X.K H)(st:q.iter i s.heap):∃d,yW X.prog X.w X.A.in1 i s.heap q d:=by
 unfold Zs.sq at h;unfold Zs.iter at st;cases hb:q.b with
 |true=>
  rw [if_pos hb] at h st;obtain⟨ak,rv,p,_⟩:=I.list h
  refine⟨⟨q.it,[q.it,q.a],ak.toArray.size,_,_⟩,rfl,rfl,?_,Draws.list (A:=X.A.in1) (I.ok.hd hc) q.it q.a iK ak.toArray,⟨st,p.isList⟩,λj g z=>?_,A6 rv⟩
  ·rw [zzC,<-rv.length]
  ·unfold Zs.iter;rw [if_pos hb];exact z.1
 |false=>
  have iR:¬q.b=true:=by rw [hb];exact zzf
  rw [if_neg iR] at h st;obtain⟨ak,rv,p,_⟩:=I.tuple h
  refine⟨⟨q.it,[q.it,q.a],ak.toArray.size,_,_⟩,rfl,rfl,?_,jx (A:=X.A.in1) (I.ok.hd hc) q.it q.a iK ak.toArray,⟨st,p⟩,λj g z=>?_,A6 rv⟩
  ·rw [zzC,<-rv.length]
  ·unfold Zs.iter;rw [if_neg iR];exact z.1
theorem tK(hc:X.calm=true)(I:Inv X aa σ H s){i:Nat}:∀{qs:List Zs},(∀q∈qs,q.a≠q.it/\q.sq X.K H/\q.iter i s.heap)->∃ds,Paired (yW X.prog X.w X.A.in1 i s.heap) qs ds
 |[],_=>⟨[],.nil⟩
 |q::qs,h=>by
  obtain⟨h1,h2,h3⟩:=h q (zzP ..)
  obtain⟨d,hd⟩:=Q9 hc I h1 h2 h3
  obtain⟨ds,hds⟩:=tK hc I (qs:=qs) λr hr=>h r (zzI _ hr)
  exact⟨d::ds,.cons hd hds⟩
variable{α β:Type}{R:α->β->Prop}
theorem bU:∀{l:List α} {m:List β},Paired R l m->∀b∈m,∃a∈l,R a b
 |_,_,.cons h t,b,hb=>by
  rcases zzm.1 hb with rfl|hb
  ·exact⟨_,zzP ..,h⟩
  ·obtain⟨a,h1,h2⟩:=bU t b hb
   exact⟨a,zzI _ h1,h2⟩
theorem eE:∀{l:List α} {m:List β},Paired R l m->∀a∈l,∃b∈m,R a b
 |_,_,.cons h t,b,hb=>by
  rcases zzm.1 hb with rfl|hb
  ·exact⟨_,zzP ..,h⟩
  ·obtain⟨a,h1,h2⟩:=eE t b hb
   exact⟨a,zzI _ h1,h2⟩
theorem nL{S:α->α->Prop}{T:β->β->Prop}(h:∀a a' b b',R a b->R a' b'->S a a'->T b b'):∀{l:List α} {m:List β},Paired R l m->l.Pairwise S->m.Pairwise T
 |_,_,.nil,_=>.nil
 |_,_,.cons r t,p=>by
  obtain⟨p1,p2⟩:=List.pairwise_cons.1 p
  refine List.pairwise_cons.2 ⟨λb hb=>?_,nL h t p2⟩
  obtain⟨a,h1,h2⟩:=bU t b hb
  exact h _ _ _ _ r h2 (p1 a h1)
end
structure TJ(z TI TO:Addr)(qs:List Zs):Prop where
 tz:TI≠z/\TO≠z/\TI≠TO
 ne:qs≠[]
 len:qs.length<=9
 it:∀q∈qs,q.it≠z/\q.it≠TO/\q.it≠TI
 a:∀q∈qs,q.a≠z/\q.a≠TO/\∀r∈qs,q.a≠r.it
 pw:qs.Pairwise λa b=>a.it≠b.it
def XA(z TI TO:Addr)(qs:List Zs)(i:Nat)(h:Heap):Prop:=IsZip h z TI TO .none/\iu h TI (qs.map λq=>Value.ref q.it).toArray/\(∃c,iu h TO c/\c.size=qs.length)/\∀q∈qs,q.iter i h
def AE{prog:Program}{w:World}{A:Around}{i:Nat}{h:Heap}{z TI TO:Addr}{qs:List Zs}{ds:List Zd}(Z:TJ z TI TO qs)(p:Paired (yW prog w A i h) qs ds):QV prog w A z TI TO ds where
 D:=λd hd=>by obtain⟨q,_,r⟩:=bU p d hd;exact r.D
 zf:=λd hd=>by
  obtain⟨q,hq,r⟩:=bU p d hd
  obtain⟨a1,a2,a3⟩:=Z.it q hq
  obtain⟨b1,b2,_⟩:=Z.a q hq
  rw [r.fp,r.it];simp! [zzm,List.not_mem_nil,or_false,not_or];exact⟨⟨Ne.symm a1,Ne.symm b1⟩,⟨Ne.symm a2,Ne.symm b2⟩,a1,a2,a3⟩
 ap:=by
  have q:qs.Pairwise λa b=>a.it≠b.it/\a.it≠b.a/\b.it≠a.a:=by
   refine List.Pairwise.imp_of_mem (λ{a b} ha hb h=>⟨h,λz=>(Z.a b hb).2.2 a ha z.symm,λz=>(Z.a a ha).2.2 b hb z.symm⟩) Z.pw
  refine nL (λa a' b b' r r' ⟨h1,h2,h3⟩=>?_) p q;rw [r.fp,r'.fp,r.it,r'.it];simp! [zzm,List.not_mem_nil,or_false,not_or];exact⟨⟨h1,h2⟩,Ne.symm h1,h3⟩
 tz:=Z.tz
theorem iG{prog:Program}{w:World}{A:Around}{i:Nat}{h:Heap}:∀{qs:List Zs} {ds:List Zd},Paired (yW prog w A i h) qs ds->(qs.map λq=>Value.ref q.it)=ds.map λd=>Value.ref d.it
 |_,_,.nil=>rfl
 |_,_,.cons r t=>by rw [zzF,zzF,r.it,iG t]
theorem mQ{prog:Program}{w:World}{A:Around}{i:Nat}{h:Heap}:∀{qs:List Zs} {ds:List Zd} {us:List Value},Paired (yW prog w A i h) qs ds->Paired (λd x=>d.P i x) ds us->∃ys,Vals ys us/\Paired (λ(q:Zt) y=>q.2.2[i]?=some y) (qs.map Zs.t) ys
 |_,_,_,.nil,.nil=>⟨[],.nil,.nil⟩
 |_,_,_,.cons r t,.cons u v=>by
  obtain⟨x,h1,h2⟩:=r.val i _ u
  obtain⟨ys,h3,h4⟩:=mQ t v
  exact⟨x::ys,.cons h1 h3,.cons h2 h4⟩
def xT{P:Program}{w:World}{K:zz8}{elts:List Expr}{x1:Nat}{pos:Pos}{z TI TO:Addr}{qs:List Zs}(Z:TJ z TI TO qs):
 Turn P w K (.Tuple elts x1 pos) (U4 K (qs.map Zs.t)) (z::TI::TO::qs.map (·.it)) z (XA z TI TO qs) where
 mem:=by simp
 obj:=λi h st c hc=>by
  obtain⟨q1,q2,⟨_,q3,_⟩,q4⟩:=st
  simp! [zzm,zzx] at hc;rcases hc with rfl|rfl|rfl|⟨q,hq,rfl⟩
  ·exact⟨_,q1,λv q=>by cases q⟩
  ·exact⟨_,q2,λv q=>by cases q⟩
  ·exact⟨_,q3,λv q=>by cases q⟩
  ·exact Zs.qF (q4 q hq)
 keep:=λi h h' st k=>by
  obtain⟨q1,q2,⟨c,q3,q5⟩,q4⟩:=st
  exact⟨k z (by simp) _ q1,k TI (by simp) _ q2,⟨c,k TO (by simp) _ q3,q5⟩,λq hq=>Zs.vc (q4 q hq) λo e=>k q.it (by simp;exact .inr (.inr (.inr ⟨q,hq,rfl⟩))) o e⟩
 item:=by
  intro X hP hw hK hc i aa s σ H E I hf st hg;subst hP hw hK;replace hg:∀q∈qs,q.sq X.K H/\i<q.xs.length:=λq hq=>hg q.t (List.mem_map_of_mem hq)
  obtain⟨q1,q2,⟨c,q3,q5⟩,q4⟩:=st
  obtain⟨ds,pd⟩:=tK hc I λq hq=>⟨(Z.a q hq).2.2 q hq,(hg q hq).1,q4 q hq⟩
  have hT:s.TypeIs (.ref z) "zip":=⟨_,q1,rfl⟩
  have len:=Paired.length pd
  have m9:H (zz9 s)=none:=I.aH.fresh (zzE _)
  have lt:∀b∈z::TI::TO::qs.map (·.it),b<(zz9 s):=λb hb=>by
   simp! [zzm,zzx] at hb;rcases hb with rfl|rfl|rfl|⟨q,hq,rfl⟩
   ·exact zzO q1
   ·exact zzO q2
   ·exact zzO q3
   ·obtain⟨o,ho,_⟩:=Zs.qF (q4 q hq);exact zzO ho
  unfold pyNext;refine zzA (wpAny_attempt (wpAny_callSpecial?_slot (name:=Str.ofString "__next__") hT PySem.F.slot_zip_next (wpAny_call_entry PySem.F.slot_zip_next hT PySem.F.entry_zip_next
   (rZ (k:=i) (AE Z pd) (by rw [<-len];exact Z.len) (by have:=Z.ne;intro e;subst e;cases pd;exact this rfl) q1 (by rw [<-iG pd];exact q2) ⟨c,q3,by rw [<-len];exact q5⟩ (λd hd=>by obtain⟨q,hq,r⟩:=bU pd d hd;exact⟨r.st,by rw [r.n];exact Nat.le_of_lt (hg q hq).2⟩)
    (λh' tk us pu z1 z2 z3 z4 z5 kk=>⟨_,rfl,zzG ?_⟩) λh' tk e hex _ _=>?_) (PySem.F.args_zip_next_1 _))))
  ·obtain⟨ys,rv,py⟩:=mQ pd pu
   have Tu:∀b∈z::TO::qs.map (·.it),dy X aa H b:=λb hb=>hf b (by simp! [zzm] at hb⊢;rcases hb with h|h|h<;>simp [h])
   have I1:=Inv.AA (tk:=tk) (xs:=ys) I Tu (λb o hb e=>kk b o (λq=>hb (by simp [q])) (λq=>hb (by simp [q])) (λd hd q=>hb (by obtain⟨q',m7,r⟩:=bU pd d hd;simp! [zzm,zzx];exact .inr (.inr ⟨q',m7,by rw [q,r.it]⟩))) e) z4 rfl rfl rv (zzU (m:=9) (by have h1:=Paired.length py;have:=Z.len;rw [zzl] at h1;omega) (by decide))
   refine⟨_,rfl,wpAny_letOwnedTupleGo_zip z1 λh2 OS sb=>?_⟩
   obtain⟨f0,f1,f2,f3,f4,f5⟩:=hf z (by simp)
   have nz:z≠(zz9 s):=zzb (lt z (by simp))
   refine⟨.ref (zz9 s),_,I1.turned (t':=tk) (it:=z) (λb o hb q=>sb.extBut b o hb q) (by rw [ag nz];exact f0) f1 f3 f4 f5,rfl,⟨_,_,rfl,m9,rfl,py⟩,⟨OS,?_,?_,λq hq=>?_⟩,λb hb=>?_⟩
   ·exact sb.extBut _ _ Z.tz.1 (kk _ _ Z.tz.1 Z.tz.2.2 (λd hd=>by obtain⟨q,hq,r⟩:=bU pd d hd;rw [r.it];exact Ne.symm (Z.it q hq).2.2) q2)
   ·obtain⟨c',e1,e2⟩:=z2
    exact⟨c',sb.extBut _ _ Z.tz.2.1 e1,by rw [e2,len]⟩
   ·obtain⟨d,hd,r⟩:=eE pd q hq
    exact Zs.vc (r.back _ _ (z3 d hd)) λo e=>sb.extBut _ _ (Z.it q hq).1 e
   ·rw [ag (zzb (lt b hb))];exact(hf b hb).1
  ·obtain⟨d,hd,hn⟩:=hex
   obtain⟨q,hq,r⟩:=bU pd d hd
   have:=(hg q hq).2
   rw [r.n] at hn;omega
 done:=by
  intro X hP hw hK hc i aa s σ H E I hf st hg;subst hP hw hK;obtain⟨hg,t0,ht0,hn0⟩:=hg
  replace hg:∀q∈qs,q.sq X.K H/\i<=q.xs.length:=λq hq=>hg q.t (List.mem_map_of_mem hq)
  obtain⟨q1,q2,⟨c,q3,q5⟩,q4⟩:=st
  obtain⟨ds,pd⟩:=tK hc I λq hq=>⟨(Z.a q hq).2.2 q hq,(hg q hq).1,q4 q hq⟩
  have hT:s.TypeIs (.ref z) "zip":=⟨_,q1,rfl⟩
  have len:=Paired.length pd
  unfold pyNext;refine zzA (wpAny_attempt (wpAny_callSpecial?_slot (name:=Str.ofString "__next__") hT PySem.F.slot_zip_next (wpAny_call_entry PySem.F.slot_zip_next hT PySem.F.entry_zip_next
   (rZ (k:=i) (AE Z pd) (by rw [<-len];exact Z.len) (by have:=Z.ne;intro e;subst e;cases pd;exact this rfl) q1 (by rw [<-iG pd];exact q2) ⟨c,q3,by rw [<-len];exact q5⟩ (λd hd=>by obtain⟨q,hq,r⟩:=bU pd d hd;exact⟨r.st,by rw [r.n];exact(hg q hq).2⟩)
    (λh' tk us pu z1 z2 z3 z4 z5 kk=>?_) λh' tk e hex kk he=>?_) (PySem.F.args_zip_next_1 _))))
  ·obtain⟨ys,rv,py⟩:=mQ pd pu
   obtain⟨y,_,hy⟩:=eE py t0 ht0
   have:=(zzH.1 hy).1
   omega
  ·obtain⟨o,ho,fE⟩:=he
   refine zzA (wpAny_isInstance (T:="StopIteration") (b:=true) ⟨o,ho,fE⟩ isSubtype_stop ?_);have Tu:∀b∈z::TO::qs.map (·.it),dy X aa H b:=λb hb=>hf b (by simp! [zzm] at hb⊢;rcases hb with h|h|h<;>simp [h])
   exact zzG ⟨rfl,Inv.moved (tk:=tk) I Tu λb o hb e=>kk b o (λq=>hb (by simp [q])) (λq=>hb (by simp [q])) (λd hd q=>hb (by obtain⟨q',m7,r⟩:=bU pd d hd;simp! [zzm,zzx];exact .inr (.inr ⟨q',m7,by rw [q,r.it]⟩))) e⟩
 self:=λ_ _ _ _ _ st h=>wpAny_pyIter_zip st.1 h
def mE(a b c:Value):checkTypeCall "zip" ⟨[a,b,c],[]⟩=pure ():=by kernel_rfl
def nc(a b c:Value):checkBuiltinCall "zip.__new__" ⟨[.type "zip",a,b,c],[]⟩=pure ():=by kernel_rfl
def iD(a b c d:Value):argsOk "object.__init__" ⟨[a,b,c,d],[]⟩:=by
 unfold argsOk;rw [signature?_of (n:=['_','_','t','i','n','i','_','_']) (by kernel_rfl) PySem.F.owner_object]
 kernel_rfl
def Src(h:Heap)(b:Bool)(a:Addr):Prop:=if b=true then∃ak,h.IsList a ak else∃ak,h.IsTuple a ak
def XQ(b:Bool):String:=if b=true then "list_iterator" else "tuple_iterator"
def Src.push{h:Heap}{b:Bool}{a:Addr}(q:Src h b a)(o:Obj):Src (h.push o) b a:=by
 unfold Src at q⊢;split
 ·rename_i e;rw [if_pos e] at q;obtain⟨ak,q⟩:=q;exact⟨ak,q.push o⟩
 ·rename_i e;rw [if_neg e] at q;obtain⟨ak,o',e1,r⟩:=q;exact⟨ak,o',zzB _ e1,r⟩
def Qv(b:Bool)(a:Addr):Obj:={cls:=.type (XQ b),data:=.fields #[.ref a,.int 0 0]}
section
variable{prog:Program}{w:World}{A:Around}{E:Value->Shared->Prop}{s:Shared}
def ui{b:Bool}{a:Addr}{Q:Value->Shared->Prop}(h:Src s.heap b a)(q:Q (.ref (zz9 s)) {s with heap:=s.heap.push (Qv b a)}):wpAny (model prog w) A (pyIter (.ref a)) Q E s:=by
 cases b with
 |true=>obtain⟨ak,h⟩:=h;exact wpAny_pyIter_list h q
 |false=>obtain⟨ak,h⟩:=h;exact wpAny_pyIter_tuple h q
end
def gn(h:Heap)(qs:List (Bool×Addr)):Heap:=qs.foldl (λg q=>g.push (Qv q.1 q.2)) h
def il(qs:List (Bool×Addr)):∀h:Heap,(gn h qs).objs.size=h.objs.size+qs.length:=by
 induction qs with
 |nil=>exact λh=>rfl
 |cons q qs ih=>intro h;rw [gn,List.foldl_cons,<-gn,ih,Heap.size_push,zzL];omega
section
variable{prog:Program}{w:World}{A:Around}{E:Value->Shared->Prop}{s:Shared}
def qR{Q:List Value->Shared->Prop}:∀(qs:List (Bool×Addr)),(∀q∈qs,Src s.heap q.1 q.2)->Q ((List.range qs.length).map λi=>Value.ref ((zz9 s)+i)) {s with heap:=gn s.heap qs}->
 wpAny (model prog w) A (Builtin.SmallTypes.iterAll (qs.map λq=>Value.ref q.2)) Q E s:=by
 intro qs hq h;unfold Builtin.SmallTypes.iterAll;refine zzA ?_;refine wpAny_forIn_list _ (λrest (b:Array Value) s'=>∃dn lf,qs=dn++lf/\rest=lf.map (λq=>Value.ref q.2)/\b.toList=(List.range dn.length).map (λi=>Value.ref ((zz9 s)+i))/\s'={s with heap:=gn s.heap dn}) _ ?_ ?_ _ _ ⟨[],qs,rfl,rfl,rfl,rfl⟩
 ·rintro x rest b s' ⟨dn,lf,rfl,hr,hb,rfl⟩
  cases lf with
  |nil=>cases hr
  |cons q lf=>
   simp! [zzF,List.cons.injEq] at hr;obtain⟨rfl,rfl⟩:=hr
   have hs:∀(l:List (Bool×Addr)) (g:Heap),Src g q.1 q.2->Src (gn g l) q.1 q.2:=λl=>by
    induction l with
    |nil=>exact λg h=>h
    |cons r l ih=>exact λg h=>ih _ (h.push _)
   refine zzA (wpAny_holding (ui (hs dn _ (hq q (by simp))) ?_));refine zzG ⟨dn++[q],lf,by simp,rfl,?_,?_⟩
   ·rw [Array.toList_push,hb,zzM,List.length_singleton,List.range_succ,List.map_append];simp [il]
   ·simp [gn,List.foldl_append]
 ·rintro b s' ⟨dn,lf,rfl,hr,hb,rfl⟩
  obtain rfl:lf=[]:=by cases lf with|nil=>rfl|cons q lf=>cases hr
  refine zzG ?_;rw [hb]
  simpa using h
end
theorem oZ{h:Heap}{o:Obj}{n:Addr}(e:h.objs.size=n)(f:o.isFreed=false:=by rfl):(h.push o).get? n=some o:=e▸zzX h f
noncomputable def fu(h:Heap)(qs:List (Bool×Addr)):Heap:=
 (((gn h qs).push {cls:=.type "tuple",data:=.seq ((List.range qs.length).map λi=>Value.ref (h.objs.size+i)).toArray}).push {cls:=.type "tuple",data:=.seq (((List.range qs.length).map λi=>Value.ref (h.objs.size+i)).map λ_=>Value.none).toArray}).push
   {cls:=.type "zip",data:=.fields #[.none,.bool false,.bool false,.ref (h.objs.size+qs.length),.ref (h.objs.size+qs.length+1)]}
theorem Ay(qs:List (Bool×Addr))(hl:qs.length<=9):
 Meets (Builtin.«zip.__new__» ⟨.type "zip"::qs.map (λq=>Value.ref q.2),[]⟩) (λ_ R s=>(∀q∈qs,Src s.heap q.1 q.2)/\R (.ok (.ret (.ref ((zz9 s)+qs.length+2)))) {s with heap:=fu s.heap qs}):=
 .of_wp λprog w A R s h=>by
  obtain⟨hs,h⟩:=h
  have TM:=sub_zip
  have fit:∀l:List Value,l.length=qs.length->l.length<=sizeLine:=λl e=>zzU (m:=9) (by omega) (by decide)
  show wpAny _ _ (Builtin.SmallTypes.newClass "zip" _>>=_) _ _ s
  unfold Builtin.SmallTypes.newClass
  wp_walk using qR qs hs
  rw [if_neg (by rw [zzC];exact Nat.not_lt.2 (fit _ (by simp)))]
  wp_walk
  rw [if_neg (by rw [zzC];exact Nat.not_lt.2 (fit _ (by simp)))]
  wp_walk
  refine⟨_,rfl,?_⟩;simp! [Heap.size_push,il];exact h
def og(qs:List (Bool×Addr)):∀(h:Heap) (c:Addr) (o:Obj),h.get? c=some o->(gn h qs).get? c=some o:=by
 induction qs with
 |nil=>exact λh c o e=>e
 |cons q qs ih=>exact λh c o e=>ih _ c o (zzB _ e)
theorem rj:∀(qs:List (Bool×Addr)) (h:Heap) (i:Nat) (q:Bool×Addr),qs[i]?=some q->(gn h qs).get? (h.objs.size+i)=some (Qv q.1 q.2)
 |q::qs,h,0,r,e=>by
  cases e;exact og qs _ _ _ (zzX _ rfl)
 |q::qs,h,i+1,r,e=>by
  have:=rj qs (h.push (Qv q.1 q.2)) i r (by simpa using e)
  rw [Heap.size_push] at this;rw [show h.objs.size+(i+1)=h.objs.size+1+i by omega];exact this
section
variable{prog:Program}{w:World}{A:Around}{E:Value->Shared->Prop}{s:Shared}
def wX{qs:List (Bool×Addr)}{Q:Value->Shared->Prop}(hl:qs.length<=9)(hs:∀q∈qs,Src s.heap q.1 q.2)(h1:checkTypeCall "zip" ⟨qs.map (λq=>Value.ref q.2),[]⟩=pure ())(h2:checkBuiltinCall "zip.__new__" ⟨.type "zip"::qs.map (λq=>Value.ref q.2),[]⟩=pure ())(h3:∀obj,argsOk "object.__init__" ⟨obj::qs.map (λq=>Value.ref q.2),[]⟩)
 (h:IsZip (fu s.heap qs) ((zz9 s)+qs.length+2) ((zz9 s)+qs.length) ((zz9 s)+qs.length+1) .none->iu (fu s.heap qs) ((zz9 s)+qs.length) ((List.range qs.length).map λi=>Value.ref ((zz9 s)+i)).toArray->(∃c,iu (fu s.heap qs) ((zz9 s)+qs.length+1) c/\c.size=qs.length)->
  (∀i q,qs[i]?=some q->(fu s.heap qs).get? ((zz9 s)+i)=some (Qv q.1 q.2))->(∀c o,s.heap.get? c=some o->(fu s.heap qs).get? c=some o)->Q (.ref ((zz9 s)+qs.length+2)) {s with heap:=fu s.heap qs}):
 wpAny (model prog w) A (call (.type "zip") (qs.map λq=>Value.ref q.2)) Q E s:=by
 have z0:=il qs s.heap
 have up:∀c o,(gn s.heap qs).get? c=some o->(fu s.heap qs).get? c=some o:=λc o e=>zzB _ (zzB _ (zzB _ e))
 have g5:IsZip (fu s.heap qs) ((zz9 s)+qs.length+2) ((zz9 s)+qs.length) ((zz9 s)+qs.length+1) .none:=oZ (by rw [Heap.size_push,Heap.size_push,z0])
 have g3:iu (fu s.heap qs) ((zz9 s)+qs.length) ((List.range qs.length).map λi=>Value.ref ((zz9 s)+i)).toArray:=zzB _ (zzB _ (oZ z0))
 have g4:iu (fu s.heap qs) ((zz9 s)+qs.length+1) (((List.range qs.length).map λi=>Value.ref ((zz9 s)+i)).map λ_=>Value.none).toArray:=zzB _ (oZ (by rw [Heap.size_push,z0]))
 exact callType_new PySem.F.called_zip (by decide) h1 h2 h3 PySem.F.entry_zip_new (Ay qs hl) ⟨hs,⟨_,g5,rfl⟩,h g5 g3 ⟨_,g4,by simp⟩ (λi q e=>up _ _ (rj qs _ i q e)) λc o e=>up _ _ (og qs _ c o e)⟩
end
theorem nF:∀{ts:List Zt} {us:List Value},Vals (ts.map λt=>V.ref t.2.1) us->us=ts.map λt=>Value.ref t.2.1
 |[],_,.nil=>rfl
 |t::ts,_,.cons h r=>by
  cases h;rw [nF r]
  rfl
section
variable{X:Cx}{elts:List Expr}{x1:Nat}{kb:Pos}
noncomputable def Rv(K:zz8)(ta:TA):TI:=λσ H R=>ta σ H λvs H1=>∃ts:List Zt,vs=ts.map (λt=>.ref t.2.1)/\(ts.length=2\/ts.length=3)/\(∀t∈ts,Zq K H1 t)/\R (U4 K ts) H1
def EA{e:Expr}{es:List Expr}{ta:TA}{p pos:Pos}(hg:Gl X "zip")(hm:X.mg "zip"=none)(ha:PA X (e::es) ta)(he:starEach (e::es) X.env=(false,eval e X.env)::starEach es X.env)(hp:(backTo pos (starEach es X.env)).any (·.1)=false):
 PI X (.Tuple elts x1 kb) (.Call (.Name "zip" p) (e::es) [] pos) (Rv X.K ta):=by
 intro aa s σ H R I h;refine Call_ (dq I hg hm (show bootBuiltins "zip"=some (.type "zip") by decide+kernel) (PyProof.Rows.callWith_type1 (bq (ha pos aa s σ H _ I h) λus s1 ⟨vs,H1,I1,r1,q1⟩=>?_) he hp))
 obtain⟨ts,rfl,hn,hq,q⟩:=q1
 obtain rfl:=nF r1
 have l9:ts.length<=9:=by omega
 have lm:(ts.map λt=>(t.1,t.2.1)).length=ts.length:=zzl ..
 have em:(ts.map λt=>Value.ref t.2.1)=(ts.map λt=>(t.1,t.2.1)).map λq=>Value.ref q.2:=by rw [List.map_map];rfl
 have src:∀t∈ts,Src s1.heap t.1 t.2.1/\t.2.1<(zz9 s1):=λt ht=>by
  have:=hq t ht
  unfold Zq at this;unfold Src;cases hb:t.1 with
  |true=>
   rw [if_pos hb] at this;obtain⟨ak,_,pl,_⟩:=I1.list this
   exact⟨⟨_,pl.isList⟩,by obtain⟨_,e,_⟩:=pl.isList;exact zzO e⟩
  |false=>
   rw [if_neg (by rw [hb];exact zzf)] at this;obtain⟨ak,_,pl,_⟩:=I1.tuple this
   exact⟨⟨_,pl⟩,by obtain⟨_,e,_⟩:=pl;exact zzO e⟩
 have go:∀l,(l=2\/l=3)->ts.length=l->checkTypeCall "zip" ⟨ts.map (λt=>Value.ref t.2.1),[]⟩=pure ()/\checkBuiltinCall "zip.__new__" ⟨.type "zip"::ts.map (λt=>Value.ref t.2.1),[]⟩=pure ()/\∀obj,argsOk "object.__init__" ⟨obj::ts.map (λt=>Value.ref t.2.1),[]⟩:=λl hl e=>by
  rcases hl with rfl|rfl
  ·match ts,e with
   |[a,b],_=>exact⟨PySem.F.typeCall_zip_2 _ _,PySem.F.newCall_zip_2 _ _,λobj=>PySem.F.args_object_init_3 obj _ _⟩
  ·match ts,e with
   |[a,b,c],_=>exact⟨mE _ _ _,nc _ _ _,λobj=>iD obj _ _ _⟩
 obtain⟨c1,c2,c3⟩:=go _ hn rfl
 rw [em] at c1 c2 c3⊢;refine wX (by rw [lm];exact l9) (λq m7=>by obtain⟨t,ht,rfl⟩:=zzx.1 m7;exact(src t ht).1) c1 c2 c3 λa1 a2 a3 a4 kk=>wpAny_pyIter_zip a1 ?_
 rw [lm] at a1 a2 a3;have I2:Inv X aa σ H1 {s1 with heap:=fu s1.heap (ts.map λt=>(t.1,t.2.1))}:=I1.kept (t':=s1.toks) kk
 have eqs:(ts.zipIdx.map λp=>(⟨(zz9 s1)+p.2,p.1.1,p.1.2.1,p.1.2.2⟩:Zs)).map Zs.t=ts:=by
  rw [List.map_map];refine List.ext_getElem (by simp) λi h1 h2=>?_
  simp [Zs.t]
 have mq:∀q∈ts.zipIdx.map λp=>(⟨(zz9 s1)+p.2,p.1.1,p.1.2.1,p.1.2.2⟩:Zs),∃i,i<ts.length/\ts[i]?=some q.t/\q.it=(zz9 s1)+i:=λq m7=>by
  obtain⟨⟨t,i⟩,O3,rfl⟩:=zzx.1 m7
  have:=List.mem_zipIdx_iff_getElem?.1 O3
  exact⟨i,(zzH.1 this).1,this,rfl⟩
 have Z:TJ ((zz9 s1)+ts.length+2) ((zz9 s1)+ts.length) ((zz9 s1)+ts.length+1) (ts.zipIdx.map λp=>(⟨(zz9 s1)+p.2,p.1.1,p.1.2.1,p.1.2.2⟩:Zs)):=by
  refine⟨⟨zzb (by show _<_;omega),zzb (by show _<_;omega),zzb (by show _<_;omega)⟩,λz=>?_,by simpa using l9,λq m7=>?_,λq m7=>?_,?_⟩
  ·have:=congrArg List.length z
   simp! [zzl,List.length_zipIdx,List.length_nil] at this;omega
  ·obtain⟨i,h1,_,h3⟩:=mq q m7
   rw [h3];exact⟨zzb (by show _<_;omega),zzb (by show _<_;omega),zzb (by show _<_;omega)⟩
  ·obtain⟨i,h1,h2,h3⟩:=mq q m7
   have h4:q.a<(zz9 s1):=(src q.t (zzD h2)).2
   refine⟨zzb (zzW h4 (by show _<=_;omega)),zzb (zzW h4 (by show _<=_;omega)),λr hr=>?_⟩
   obtain⟨j,_,_,h5⟩:=mq r hr
   rw [h5];exact zzb (zzW h4 (by show _<=_;omega))
  ·refine List.pairwise_map.2 ?_;refine List.pairwise_iff_getElem.2 λi j hi hj xY=>?_
   simp! [List.getElem_zipIdx];exact zzb (by show _<_;omega)
 have T:=xT (P:=X.prog) (w:=X.w) (K:=X.K) (elts:=elts) (x1:=x1) (pos:=kb) Z
 rw [eqs] at T;refine⟨_,_,_,_,H1,by rw [lm],I2,T,⟨a1,?_,?_,λq m7=>?_⟩,λb hb=>?_,q⟩
 ·have:(ts.zipIdx.map λp=>(⟨(zz9 s1)+p.2,p.1.1,p.1.2.1,p.1.2.2⟩:Zs)).map (λq=>Value.ref q.it)=(List.range ts.length).map λi=>Value.ref ((zz9 s1)+i):=by
   refine List.ext_getElem (by simp) λi h1 h2=>?_
   simp
  rw [this];exact a2
 ·obtain⟨c,h1,h2⟩:=a3
  exact⟨c,h1,by simpa using h2⟩
 ·obtain⟨i,h1,h2,h3⟩:=mq q m7
  have:=a4 i (q.b,q.a) (by rw [zzQ,h2];rfl)
  unfold Zs.iter;rw [h3];cases hb:q.b with
  |true=>rw [hb] at this;exact⟨_,this,rfl,rfl⟩
  |false=>rw [hb] at this;exact⟨_,this,rfl,rfl⟩
 ·have iR:(zz9 s1)<=b:=by
   simp! [zzm,zzx] at hb;rcases hb with e|e|e|⟨q,m7,e⟩
   ·rw [e];exact zzU (Nat.le_add_right _ _) (Nat.le_add_right _ _)
   ·rw [e];exact Nat.le_add_right _ _
   ·rw [e];exact zzU (Nat.le_add_right _ _) (Nat.le_add_right _ _)
   ·obtain⟨i,_,_,h3⟩:=mq q (zzx.2 m7)
    rw [<-e,h3];exact Nat.le_add_right _ _
  exact I1.je iR (I1.aH.fresh iR)
end
noncomputable def SV(K:zz8)(a:Addr)(xs:List V):It:=
 ⟨λi H=>df K H a xs/\i<xs.length,λi H x H'=>H'=H/\xs[xs.length-1-i]?=some x,λi H=>df K H a xs/\i=xs.length⟩
def AB{P:Program}{w:World}{K:zz8}{tg:Expr}(a it:Addr)(xs:List V):Turn P w K tg (SV K a xs) [it] it (λi h=>h.IsRevIter it a ((xs.length:Int)-1-i)) where
 mem:=by simp
 obj:=λi h st b hb=>by
  obtain⟨o,e,c,d⟩:=st
  rw [zzi.1 hb];exact⟨o,e,λv z=>by rw [d] at z;cases z⟩
 keep:=λi h h' st k=>st.at λo e=>k it (by simp) o e
 item:=by
  intro X hP hw hK hc i aa s σ H E I hf st hg;subst hP hw hK;obtain⟨hq,bB⟩:=hg
  have hx:xs[xs.length-1-i]?=some xs[xs.length-1-i]:=zzg (by omega)
  obtain⟨ak,rv,p,hz⟩:=I.list hq
  obtain⟨u,hu,ru⟩:=rv.get hx
  obtain⟨f0,f1,f2,f3,f4,f5⟩:=hf it (by simp)
  have zy:s.heap.IsRevIter it a ((xs.length-1-i:Nat):Int):=by rw [show((xs.length-1-i:Nat):Int)=(xs.length:Int)-1-i by omega];exact st
  refine wpAny_pyNext_rev_item zy p.isList (x:=u) (by simpa using hu) λh' dY sb=>?_
  have I1:Inv X aa σ H {s with heap:=h'}:=I.turned (t':=s.toks) (λb o hb e=>(sb.2 b hb).trans e) f0 f1 f3 f4 f5
  obtain⟨o,e,c,d⟩:=id dY
  refine⟨u,rfl,oE (s:={s with heap:=h'}) e c d (by decide) ⟨_,H,I1,ru,⟨rfl,hx⟩,?_,λb hb=>(hf b hb).1⟩⟩
  rw [show(xs.length:Int)-1-((i+1:Nat):Int)=((xs.length-1-i:Nat):Int)-1 by omega];exact dY
 done:=by
  intro X hP hw hK hc i aa s σ H E I hf st hg;subst hP hw hK;obtain⟨hq,rfl⟩:=hg
  obtain⟨f0,f1,f2,f3,f4,f5⟩:=hf it (by simp)
  have zy:s.heap.IsRevIter it a (-1):=by rw [show(-1:Int)=(xs.length:Int)-1-xs.length by omega];exact st
  exact wpAny_pyNext_rev_end (I.ok.hd hc) zy λh' eb=>⟨rfl,I.turned (t':=s.toks) (λb o hb q=>eb b o hb q) f0 f1 f3 f4 f5⟩
 self:=λ_ _ _ _ _ st h=>wpAny_pyIter_revIter st h
section
variable{X:Cx}{tg:Expr}
noncomputable def Sj(K:zz8)(ta:TA):TI:=λσ H R=>ta σ H λvs H1=>∃a xs,vs=[.ref a]/\df K H1 a xs/\R (SV K a xs) H1
def Dj{a:Expr}{ta:TA}{p pos:Pos}(hg:Gl X "reversed")(hm:X.mg "reversed"=none)(ha:PA X [a] ta)(hs:starEach [a] X.env=(false,eval a X.env)::starEach [] X.env):PI X tg (.Call (.Name "reversed" p) [a] [] pos) (Sj X.K ta):=by
 intro aa s σ H R I h;refine Call_ (dq I hg hm (show bootBuiltins "reversed"=some (.type "reversed") by decide+kernel) (PyProof.Rows.callWith_type1 (bq (ha pos aa s σ H _ I h) λus s1 ⟨vs,H1,I1,r1,q1⟩=>?_) hs rfl))
 obtain⟨l,xs,rfl,hq,q⟩:=q1
 obtain⟨u,rfl,ru⟩:=vals1 r1
 cases ru;obtain⟨ak,rv,pl,_⟩:=I1.list hq
 refine call_reversed_list pl.isList (wpAny_pyIter_revIter ⟨_,zzX _ rfl,rfl,rfl⟩ ?_);refine⟨(zz9 s1),[(zz9 s1)],_,_,H1,rfl,I1.kept (t':=s1.toks) λb o e=>zzB _ e,AB l _ xs,⟨_,zzX _ rfl,rfl,?_⟩,λb hb=>?_,q⟩
 ·rw [zzC,<-rv.length,show(xs.length:Int)-1-((0:Nat):Int)=(xs.length:Int)-1 by omega]
  rfl
 ·rw [zzi.1 hb];exact I1.je (zzE _) (I1.aH.fresh (zzE _))
end
end L2
namespace Ci
open PySem L2
structure Hs where
 f:Str
 h:Str
 g:Str
 idx:List Nat
 np:Nat
structure Pg where
 gs:List (Str×PV)
 bs:List Str
 cs:List Str
 fs:List Str
 rs:List Str
 hs:List Hs:=[]
 hl:Bool:=false
def dH(sc:Scope)(x:Str):Bool:=sc.names.lookup x==some .local||sc.names.lookup x==some .cell
def cD(sc:Scope)(x:Str):Bool:=dH sc x||sc.names.lookup x==some .free
def eC(sc:Scope)(x:Str):Bool:=sc.names.lookup x==some .globalImplicit
def litS:List PV->List PV->Bool
 |[],[]=>true
 |.str x::xs,.str y::ys=>x==y&&litS xs ys
 |_,_=>false
def vd:PV->PV->Bool
 |.int i,.int j=>i==j
 |.str x,.str y=>x==y
 |.tup xs,.tup ys=>litS xs ys
 |_,_=>false
theorem litS_eq:∀{xs ys:List PV},litS xs ys=true->xs=ys
 |[],[],_=>rfl
 |.str x::xs,.str y::ys,h=>by
  unfold litS at h;rw [zza] at h;rw [zzy.mp h.1,litS_eq h.2]
def zO{p q:PV}(h:vd p q=true):p=q:=by
 unfold vd at h;split at h
 ·rw [zzy.mp h]
 ·rw [zzy.mp h]
 ·rw [litS_eq h]
 ·cases h
def bN:B->Str
 |.len=>"len"|.abs=>"abs"|.max2=>"max"|.min2=>"min"|.int=>"int"|.tuple=>"tuple"|.all=>"all"|.sorted=>"sorted"|.dict=>"dict"|.any=>"any"
def mN:M->Str
 |.ic=>"count"|.index=>"index"|.join=>"join"
def eR:E->Bool
 |.kP _=>false
 |_=>true
def ee:Es->Bool
 |.nil=>true
 |.cons e es=>eR e&&ee es
def EN:I->Bool
 |.seq e=>eR e
 |.mi _=>true
 |.sj _ _=>true
 |.enum e=>eR e
 |.zip _=>true
 |.wJ _=>true
def isNil:Es->Bool
 |.nil=>true
 |_=>false
def c7:Es->Nat
 |.nil=>0
 |.cons _ es=>c7 es+1
def ub:Expr->Option (List Expr)
 |.Tuple es _ _=>some es
 |_=>none
def i9{e:Expr}{es:List Expr}(h:ub e=some es):∃k p,e=.Tuple es k p:=by
 cases e with
 |Tuple es k p=>cases h;exact⟨_,_,rfl⟩
 |_=>exact fq h
def qM{α:Type}:List α->Option (α×α)
 |[a,b]=>some (a,b)
 |_=>none
def vE{α:Type}{ts:List α}{q:α×α}(h:qM ts=some q):ts=[q.1,q.2]:=by
 cases ts with
 |nil=>exact fq h
 |cons a ts=>
  cases ts with
  |nil=>exact fq h
  |cons b ts=>
   cases ts with
   |cons _ _=>exact fq h
   |nil=>cases h;rfl
def Uu(N:List Str)(sc:Scope)(fn:Str->Bool)(i:Nat)(p:Expr):Bool:=(dm p).any λx=>N[i]?==some x&&dH sc x&&(fn x||sc.names.lookup x==some .local)
noncomputable def yd(N:List Str)(sc:Scope)(fn:Str->Bool):List Nat->List Expr->Bool
 |i::is,a::as=>Uu N sc fn i a&&yd N sc fn is as
 |[],[]=>true
 |_,_=>false
noncomputable def fv(N:List Str)(sc:Scope)(fn:Str->Bool):Tg->Expr->Bool
 |.one i,p=>Uu N sc fn i p
 |.two i j,p=>(ub p).any (yd N sc fn [i,j])
 |.three i j k,p=>(ub p).any (yd N sc fn [i,j,k])
 |.four i j k l,p=>(ub p).any (yd N sc fn [i,j,k,l])
noncomputable def aN:Expr->List Str
 |.Name x _=>[x]
 |.Tuple [.Name x _,.Name y _] _ _=>[x,y]
 |.Tuple [.Name x _,.Name y _,.Name z _] _ _=>[x,y,z]
 |.Tuple [.Name x _,.Tuple [.Name y _,.Name z _] _ _] _ _=>[x,y,z]
 |_=>[]
def cG(scope sc:Scope):Scope:=
 {scope with names:=scope.names.map λ(n,k)=>if(k==.free&&sc.kind==.function&&sc.names.lookup n==some .cell) then(n,.cell) else(n,k)}
def freeOf(scope:Scope):List Str:=((scope.names.filter λp=>p.2==.free).map (·.1)).reverse
noncomputable def u0(N:List Str)(sc scope:Scope)(k:Nat)(bf:List Nat)(xs:List Str):Bool:=
 scope.kind==.function&&xs.length==k&&decide ((xs++freeOf scope).Nodup)
 &&(scope.names.all λy=>(decide (y.2≠.cell)||!(freeOf scope).contains y.1)&&(decide (y.2≠.free)||(freeOf scope).contains y.1))
 &&(scope.names.all λy=>decide (y.2≠.cell)||decide (scope.names.lookup y.1=some .cell))
 &&(scope.names.all λy=>decide (y.2≠.local)||decide (scope.names.lookup y.1=some .local))
 &&decide (bf.map (λi=>N[i]?)=(freeOf scope).map some)
 &&((freeOf scope).all λy=>decide (sc.names.lookup y=some .cell))
 &&((freeOf scope).all λy=>decide ((cG scope sc).names.lookup y=some .cell))
noncomputable def js(k:Nat):Tg->Bool
 |.one i=>decide (i<k)
 |.two i j=>decide (i<k)&&decide (j<k)
 |.three i j l=>decide (i<k)&&decide (j<k)&&decide (l<k)
 |.four i j l m=>decide (i<k)&&decide (j<k)&&decide (l<k)&&decide (m<k)
def fk:E->Bool
 |.ite _ _ _=>false
 |.not a=>fk a
 |.and a b=>fk a&&fk b
 |.or a b=>fk a&&fk b
 |_=>true
def isTup:Expr->Bool
 |.Tuple .. =>true
 |_=>false
noncomputable abbrev Pg.B0(Γ:Pg):Pg:={Γ with hl:=false}
def gK{α β:Type}{o:Option α}{f:α->Option β}{b:β}(h:o.bind f=some b):∃a,o=some a/\f a=some b:=zzZ.1 h
def if1{α:Type}{c:Bool}{a b:α}(h:(if c=true then some a else none)=some b):c=true/\a=b:=by
 cases c with
 |true=>cases h;exact⟨rfl,rfl⟩
 |false=>exact fq h
def cT{α:Type}:List α->Option α
 |[t]=>some t
 |_=>none
def bQ{α:Type}{ts:List α}{t:α}(h:cT ts=some t):ts=[t]:=by
 cases ts with
 |nil=>exact fq h
 |cons a ts=>
  cases ts with
  |cons _ _=>exact fq h
  |nil=>cases h;rfl
def O8:Expr->Option (Expr×Str×Pos)
 |.Attribute o m p=>some (o,m,p)
 |_=>none
def uF{e:Expr}{q:Expr×Str×Pos}(h:O8 e=some q):e=.Attribute q.1 q.2.1 q.2.2:=by
 cases e with
 |Attribute o m p=>cases h;rfl
 |_=>exact fq h
def SJ:Expr->Option (Arguments×Expr×Scope)
 |.Lambda p b s _=>some (p,b,s)
 |_=>none
def uq{e:Expr}{q:Arguments×Expr×Scope}(h:SJ e=some q):∃p,e=.Lambda q.1 q.2.1 q.2.2 p:=by
 cases e with
 |Lambda p b s x=>cases h;exact⟨_,rfl⟩
 |_=>exact fq h
def CZ:Expr->Option (Expr×Expr)
 |.Subscript a b _=>some (a,b)
 |_=>none
def mf{e:Expr}{q:Expr×Expr}(h:CZ e=some q):∃p,e=.Subscript q.1 q.2 p:=by
 cases e with
 |Subscript a b p=>cases h;exact⟨_,rfl⟩
 |_=>exact fq h
def Fp:Expr->Option Const
 |.Constant c _ _=>some c
 |_=>none
def qb{e:Expr}{c:Const}(h:Fp e=some c):∃p q,e=.Constant c p q:=by
 cases e with
 |Constant c p q=>cases h;exact⟨_,_,rfl⟩
 |_=>exact fq h
def zy:Const->Option Str
 |.str z=>some z
 |_=>none
def BM{c:Const}{z:Str}(h:zy c=some z):c=.str z:=by
 cases c with
 |str y=>cases h;rfl
 |_=>exact fq h
def QB:Const->Option Int
 |.int n=>some n
 |_=>none
def o7{c:Const}{n:Int}(h:QB c=some n):c=.int n:=by
 cases c with
 |int y=>cases h;rfl
 |_=>exact fq h
def zJ{α:Type}{l:List α}(h:l.isEmpty=true):l=[]:=by
 cases l with
 |nil=>rfl
 |cons _ _=>exact aM h
def MN{α:Type}{o:Option α}(h:o.isNone=true):o=none:=by
 cases o with
 |none=>rfl
 |some _=>exact aM h
def V0:Const->Option Bool
 |.bool b=>some b
 |_=>none
def Nh{c:Const}{b:Bool}(h:V0 c=some b):c=.bool b:=by
 cases c with
 |bool y=>cases h;rfl
 |_=>exact fq h
def Ud:Const->Bool
 |.none=>true
 |_=>false
def yN{c:Const}(h:Ud c=true):c=.none:=by
 cases c with
 |none=>rfl
 |_=>exact aM h
def Vk:Expr->Option (Expr×Operator×Expr)
 |.BinOp a o b _=>some (a,o,b)
 |_=>none
def L4{e:Expr}{q:Expr×Operator×Expr}(h:Vk e=some q):∃p,e=.BinOp q.1 q.2.1 q.2.2 p:=by
 cases e with
 |BinOp a o b p=>cases h;exact⟨_,rfl⟩
 |_=>exact fq h
def RE:Expr->Option (Expr×List CmpOp×List Expr)
 |.Compare a o b _=>some (a,o,b)
 |_=>none
def G8{e:Expr}{q:Expr×List CmpOp×List Expr}(h:RE e=some q):∃p,e=.Compare q.1 q.2.1 q.2.2 p:=by
 cases e with
 |Compare a o b p=>cases h;exact⟨_,rfl⟩
 |_=>exact fq h
def RV:Expr->Option (UnaryOp×Expr)
 |.UnaryOp o a _=>some (o,a)
 |_=>none
def HY{e:Expr}{q:UnaryOp×Expr}(h:RV e=some q):∃p,e=.UnaryOp q.1 q.2 p:=by
 cases e with
 |UnaryOp o a p=>cases h;exact⟨_,rfl⟩
 |_=>exact fq h
def FX:UnaryOp->Bool
 |.Not=>true
 |_=>false
def BE{o:UnaryOp}(h:FX o=true):o=.Not:=by
 cases o with
 |Not=>rfl
 |_=>exact aM h
def isNeg:UnaryOp->Bool
 |.USub=>true
 |_=>false
def A9{o:UnaryOp}(h:isNeg o=true):o=.USub:=by
 cases o with
 |USub=>rfl
 |_=>exact aM h
def u5:BoolOp->Bool
 |.And=>true
 |.Or=>false
def yw{o:BoolOp}(h:u5 o=true):o=.And:=by
 cases o with
 |And=>rfl
 |Or=>exact aM h
def Eg{o:BoolOp}(h:(!u5 o)=true):o=.Or:=by
 cases o with
 |Or=>rfl
 |And=>exact aM h
def RO:Expr->Option (BoolOp×List Expr×Pos)
 |.BoolOp o vs p=>some (o,vs,p)
 |_=>none
def Ka{e:Expr}{q:BoolOp×List Expr×Pos}(h:RO e=some q):e=.BoolOp q.1 q.2.1 q.2.2:=by
 cases e with
 |BoolOp o vs p=>cases h;rfl
 |_=>exact fq h
def Ui(o:BoolOp)(pos:Pos):List Expr->Option (Expr×Expr)
 |a::b::[]=>some (a,b)
 |a::b::c::r=>some (a,.BoolOp o (b::c::r) pos)
 |_=>none
def Ba{o:BoolOp}{pos:Pos}{vs:List Expr}{q:Expr×Expr}(h:Ui o pos vs=some q):vs=[q.1,q.2]\/∃b c r,vs=q.1::b::c::r/\q.2=.BoolOp o (b::c::r) pos:=by
 cases vs with
 |nil=>exact fq h
 |cons a vs=>
  cases vs with
  |nil=>exact fq h
  |cons b vs=>
   cases vs with
   |nil=>cases h;exact .inl rfl
   |cons c r=>cases h;exact .inr ⟨b,c,r,rfl,rfl⟩
def VH:Expr->Option (Expr×Expr×Expr)
 |.IfExp c a b _=>some (c,a,b)
 |_=>none
def Mo{e:Expr}{q:Expr×Expr×Expr}(h:VH e=some q):∃p,e=.IfExp q.1 q.2.1 q.2.2 p:=by
 cases e with
 |IfExp c a b p=>cases h;exact⟨_,rfl⟩
 |_=>exact fq h
def RM:Expr->Option (List Expr)
 |.List es _=>some es
 |_=>none
def pY{e:Expr}{es:List Expr}(h:RM e=some es):∃p,e=.List es p:=by
 cases e with
 |List es p=>cases h;exact⟨_,rfl⟩
 |_=>exact fq h
def O5:Expr->Option (Option Expr×Option Expr×Option Expr)
 |.Slice a b c _=>some (a,b,c)
 |_=>none
def K5{e:Expr}{q:Option Expr×Option Expr×Option Expr}(h:O5 e=some q):∃p,e=.Slice q.1 q.2.1 q.2.2 p:=by
 cases e with
 |Slice a b c p=>cases h;exact⟨_,rfl⟩
 |_=>exact fq h
def Rw:Expr->Option (Expr×List Comprehension×Scope)
 |.ListComp e gs s _=>some (e,gs,s)
 |_=>none
def Ja{e:Expr}{q:Expr×List Comprehension×Scope}(h:Rw e=some q):∃p,e=.ListComp q.1 q.2.1 q.2.2 p:=by
 cases e with
 |ListComp e gs s p=>cases h;exact⟨_,rfl⟩
 |_=>exact fq h
def uO(e:Expr):Option (Str×List Expr):=(yk e).bind λq=>(dm q.1).bind λg=>if q.2.2.1.isEmpty=true then some (g,q.2.1) else none
def Jc{e:Expr}{q:Str×List Expr}(h:uO e=some q):∃np p,e=.Call (.Name q.1 np) q.2 [] p:=by
 obtain⟨⟨f,a,k,p⟩,h1,h⟩:=gK h
 obtain⟨g,h2,h⟩:=gK h
 obtain⟨h3,rfl⟩:=if1 h
 obtain⟨np,z⟩:=bE h2
 have z3:=zJ h3
 dsimp only at z z3;subst z z3;exact⟨np,p,fV h1⟩
def PK:PV->Const->Bool
 |.aK,c=>Ud c
 |.bl b,c=>(V0 c).any λx=>b==x
 |.int i,c=>(QB c).any λx=>i==x
 |.str z,c=>(zy c).any λx=>z==x
 |_,_=>false
def Tn:List Keyword->Option (Str×Expr)
 |[⟨some n,v,_⟩]=>some (n,v)
 |_=>none
def Ar{ks:List Keyword}{q:Str×Expr}(h:Tn ks=some q):∃p,ks=[⟨some q.1,q.2,p⟩]:=by
 cases ks with
 |nil=>exact fq h
 |cons k ks=>
  obtain⟨kn,kv,kp⟩:=k
  cases kn with
  |none=>exact fq h
  |some n=>
   cases ks with
   |cons _ _=>exact fq h
   |nil=>cases h;exact⟨_,rfl⟩
def V7:Expr->Option (Expr×Expr)
 |.Dict [some k] [v] _=>some (k,v)
 |_=>none
def Ku{e:Expr}{q:Expr×Expr}(h:V7 e=some q):∃p,e=.Dict [some q.1] [q.2] p:=by
 cases e with
 |Dict ks vs p=>
  cases ks with
  |nil=>exact fq h
  |cons k ks=>
   cases k with
   |none=>exact fq h
   |some k=>
    cases ks with
    |cons _ _=>exact fq h
    |nil=>
     cases vs with
     |nil=>exact fq h
     |cons v vs=>
      cases vs with
      |cons _ _=>exact fq h
      |nil=>cases h;exact⟨_,rfl⟩
 |_=>exact fq h
def F0(p:Expr):Bool:=(yk p).all λq=>!q.2.1.isEmpty
def u4(p:Expr):Bool:=(yk p).isNone
def aw{a b:Bool}(h:(a&&b)=true):a=true/\b=true:=Bool.and_eq_true_iff.mp h
def ah{α:Type}{o:Option α}{f:α->Bool}(h:o.any f=true):∃x,o=some x/\f x=true:=by
 cases o with
 |none=>cases h
 |some x=>exact⟨x,rfl,h⟩
theorem gO{α:Type}{l:List α}{f:α->Bool}(h:(cT l).any f=true):∃a,l=[a]/\f a=true:=let⟨a,e,h1⟩:=ah h;⟨a,bQ e,h1⟩
theorem Ak{α:Type}{l:List α}{f:α×α->Bool}(h:(qM l).any f=true):∃a b,l=[a,b]/\f (a,b)=true:=let⟨q,e,h1⟩:=ah h;⟨q.1,q.2,vE e,h1⟩
theorem HM{p:Expr}{f:Str->Bool}(h:(dm p).any f=true):∃x np,p=.Name x np/\f x=true:=let⟨x,e,h1⟩:=ah h;let⟨np,z⟩:=bE e;⟨x,np,z,h1⟩
theorem TC{p:Expr}{f:Const->Bool}(h:(Fp p).any f=true):∃x a b,p=.Constant x a b/\f x=true:=let⟨x,e,h1⟩:=ah h;let⟨a,b,z⟩:=qb e;⟨x,a,b,z,h1⟩
theorem vX{p:Expr}{f:Str×List Expr->Bool}(h:(uO p).any f=true):∃g as np pos,p=.Call (.Name g np) as [] pos/\f (g,as)=true:=let⟨q,e,h1⟩:=ah h;let⟨a,b,z⟩:=Jc e;⟨q.1,q.2,a,b,z,h1⟩
theorem Ts{p:Expr}{f:Expr×Expr->Bool}(h:(CZ p).any f=true):∃a b pos,p=.Subscript a b pos/\f (a,b)=true:=let⟨q,e,h1⟩:=ah h;let⟨x,z⟩:=mf e;⟨q.1,q.2,x,z,h1⟩
theorem Xf{p:Expr}{f:Option Expr×Option Expr×Option Expr->Bool}(h:(O5 p).any f=true):∃a b c pos,p=.Slice a b c pos/\f (a,b,c)=true:=let⟨q,e,h1⟩:=ah h;let⟨x,z⟩:=K5 e;⟨q.1,q.2.1,q.2.2,x,z,h1⟩
theorem WA{p:Expr}{f:UnaryOp×Expr->Bool}(h:(RV p).any f=true):∃o a pos,p=.UnaryOp o a pos/\f (o,a)=true:=let⟨q,e,h1⟩:=ah h;let⟨x,z⟩:=HY e;⟨q.1,q.2,x,z,h1⟩
theorem Wx{p:Expr}{f:Expr×List CmpOp×List Expr->Bool}(h:(RE p).any f=true):∃a o b pos,p=.Compare a o b pos/\f (a,o,b)=true:=let⟨q,e,h1⟩:=ah h;let⟨x,z⟩:=G8 e;⟨q.1,q.2.1,q.2.2,x,z,h1⟩
theorem RP{p:Expr}{f:Expr×List Comprehension×Scope->Bool}(h:(Rw p).any f=true):∃a g s pos,p=.ListComp a g s pos/\f (a,g,s)=true:=let⟨q,e,h1⟩:=ah h;let⟨x,z⟩:=Ja e;⟨q.1,q.2.1,q.2.2,x,z,h1⟩
theorem VR{p:Expr}{f:BoolOp×List Expr×Pos->Bool}(h:(RO p).any f=true):∃o vs pos,p=.BoolOp o vs pos/\f (o,vs,pos)=true:=let⟨q,e,h1⟩:=ah h;⟨q.1,q.2.1,q.2.2,Ka e,h1⟩
mutual
noncomputable def aR(Γ:Pg)(N:List Str)(sc:Scope):E->Expr->Bool
 |.var i,p=>(dm p).any λx=>N[i]?==some x&&cD sc x&&okN x
 |.kP i,p=>(dm p).any λx=>N[i]?==some x&&cD sc x&&okN x
 |.cst q,p=>(Fp p).any (PK q)
 |.glob g p,e=>(dm e).any λx=>g==x&&eC sc x&&okN x&&Γ.gs.any λq=>q.1==g&&vd q.2 p
 |.call f as,p=>(uO p).any λq=>f==q.1&&Γ.fs.contains q.1&&eC sc q.1&&okN q.1&&ee as&&dc Γ N sc as q.2
 |.sh i as,p=>(uO p).any λq=>N[i]?==some q.1&&cD sc q.1&&okN q.1&&ee as&&!isNil as&&dc Γ N sc as q.2
 |.rK f as g idx bf,p=>(uO p).any λr=>Γ.hl&&eC sc r.1&&okN r.1&&ee as&&!isNil as&&(Γ.hs.any λq=>q.f==f&&q.h==r.1&&q.g==g&&q.idx==idx&&decide (q.np=c7 as+1))&&vj Γ N sc g idx bf as r.2
 |.blt b as,p=>(uO p).any λq=>bN b==q.1&&eC sc q.1&&Γ.bs.contains q.1&&!isNil as&&dc Γ N sc as q.2
 |.ty t a,p=>(uO p).any λq=>(qM q.2).any λr=>(dm r.2).any λtn=>q.1==("isinstance":Str)&&eC sc q.1&&Γ.bs.contains q.1&&tn==Str.ofString (uK t)&&eC sc tn&&Γ.bs.contains tn&&aR Γ N sc a r.1
 |.B5 c a,p=>(uO p).any λq=>(qM q.2).any λr=>(dm r.2).any λcn=>q.1==("isinstance":Str)&&eC sc q.1&&Γ.bs.contains q.1&&cn==c&&eC sc cn&&okN cn&&(Γ.cs.contains c||(c=="ValueError"&&Γ.bs.contains c))&&aR Γ N sc a r.1
 |.B6 m o as,p=>(yk p).any λq=>(O8 q.1).any λr=>q.2.2.1.isEmpty&&(mN m==r.2.1&&!isNil as&&decide (c7 as<30)&&r.2.2.endLine==q.2.2.2.line&&aR Γ N sc o r.1&&dc Γ N sc as q.2.1&&u4 r.1)
 |.bin o a b,p=>(Vk p).any λq=>decide (Pu o=q.2.1)&&aR Γ N sc a q.1&&aR Γ N sc b q.2.2
 |.cmp o a b,p=>(RE p).any λq=>(cT q.2.1).any λop=>(cT q.2.2).any λpb=>decide (qA o=op)&&aR Γ N sc a q.1&&aR Γ N sc b pb
 |.ch o1 o2 a b c,p=>(RE p).any λq=>(qM q.2.1).any λop=>(qM q.2.2).any λpb=>decide (qA o1=op.1)&&decide (qA o2=op.2)&&aR Γ N sc a q.1&&aR Γ N sc b pb.1&&aR Γ N sc c pb.2
 |.not a,p=>(RV p).any λq=>FX q.1&&aR Γ N sc a q.2
 |.neg a,p=>(RV p).any λq=>isNeg q.1&&aR Γ N sc a q.2
 |.and a b,p=>(RO p).any λq=>(Ui q.1 q.2.2 q.2.1).any λr=>u5 q.1&&eR b&&aR Γ N sc a r.1&&aR Γ N sc b r.2
 |.or a b,p=>(RO p).any λq=>(Ui q.1 q.2.2 q.2.1).any λr=>!u5 q.1&&eR b&&aR Γ N sc a r.1&&aR Γ N sc b r.2
 |.ite c a b,p=>(VH p).any λq=>fk c&&eR a&&eR b&&aR Γ N sc c q.1&&aR Γ N sc a q.2.1&&aR Γ N sc b q.2.2
 |.tup as,p=>(ub p).any λps=>ee as&&decide (c7 as<1000)&&dc Γ N sc as ps
 |.lst as,p=>(RM p).any λps=>ee as&&decide (c7 as<1000)&&dc Γ N sc as ps
 |.sub a b,p=>(CZ p).any λq=>aR Γ N sc a q.1&&aR Γ N sc b q.2
 |.slice a lo hi,p=>(CZ p).any λq=>(O5 q.2).any λr=>r.2.2.isNone&&aR Γ N sc a q.1&&HS Γ N sc lo r.1&&HS Γ N sc hi r.2.1
 |.comp k bf tg it elt,p=>(Rw p).any λq=>(cT q.2.1).any λg=>g.ifs.isEmpty&&(u0 N sc q.2.2 k bf (aN g.target)&&js k tg&&eR elt&&wm Γ N sc g.target it g.iter&&fv (aN g.target++freeOf q.2.2) (cG q.2.2 sc) (lU q.2.2) tg g.target&&aR Γ.B0 (aN g.target++freeOf q.2.2) (cG q.2.2 sc) elt q.1&&decide (g.is_async=0))
 |.cx k bf tg it c elt,p=>(Rw p).any λq=>(cT q.2.1).any λg=>(cT g.ifs).any λpc=>fk c&&u0 N sc q.2.2 k bf (aN g.target)&&js k tg&&eR elt&&wm Γ N sc g.target it g.iter&&fv (aN g.target++freeOf q.2.2) (cG q.2.2 sc) (lU q.2.2) tg g.target&&aR Γ.B0 (aN g.target++freeOf q.2.2) (cG q.2.2 sc) c pc&&aR Γ.B0 (aN g.target++freeOf q.2.2) (cG q.2.2 sc) elt q.1&&decide (g.is_async=0)
 |.MC a k,p=>(CZ p).any λq=>(O5 q.2).any λr=>(r.2.2).any λst=>r.1.isNone&&r.2.1.isNone&&aR Γ N sc a q.1&&aR Γ N sc k st
 |.get a k,p=>(yk p).any λq=>(O8 q.1).any λr=>(cT q.2.1).any λpk=>q.2.2.1.isEmpty&&r.2.1==("get":Str)&&r.2.2.endLine==q.2.2.2.line&&F0 r.1&&aR Γ N sc a r.1&&aR Γ N sc k pk
 |.maxD a n,p=>(yk p).any λq=>(dm q.1).any λf=>(cT q.2.1).any λpa=>(Tn q.2.2.1).any λr=>(Fp r.2).any λc=>f==("max":Str)&&eC sc f&&Γ.bs.contains f&&r.1==("default":Str)&&QB c==some n&&aR Γ N sc a pa
 |.RI n,p=>(V7 p).any λq=>(dm q.1).any λz=>(Fp q.2).any λc=>N[n]?==some z&&cD sc z&&okN z&&Ud c
 |.vS f as,p=>(uO p).any λq=>f==q.1&&Γ.fs.contains q.1&&eC sc q.1&&okN q.1&&!isNil as&&dc Γ N sc as q.2
noncomputable def dc(Γ:Pg)(N:List Str)(sc:Scope):Es->List Expr->Bool
 |.nil,[]=>true
 |.cons e es,p::ps=>aR Γ N sc e p&&dc Γ N sc es ps
 |_,_=>false
noncomputable def vj(Γ:Pg)(N:List Str)(sc:Scope)(g:Str)(idx bf:List Nat):Es->List Expr->Bool
 |.nil,ps=>(cT ps).any λp=>(SJ p).any λl=>El g idx l.1 l.2.1 l.2.2&&decide (bf.map (λi=>N[i]?)=(bh l.2.2).map some)&&((bh l.2.2).all λy=>decide (sc.names.lookup y=some .cell))
 |.cons e es,p::ps=>aR Γ N sc e p&&vj Γ N sc g idx bf es ps
 |_,_=>false
noncomputable def HS(Γ:Pg)(N:List Str)(sc:Scope):Oe->Option Expr->Bool
 |.no,none=>true
 |.some e,some p=>aR Γ N sc e p
 |_,_=>false
noncomputable def wm(Γ:Pg)(N:List Str)(sc:Scope)(tg:Expr):I->Expr->Bool
 |.seq e,p=>aR Γ N sc e p
 |.mi e,p=>(uO p).any λq=>(cT q.2).any λr=>q.1==("range":Str)&&eC sc q.1&&Γ.bs.contains q.1&&aR Γ N sc e r
 |.sj a b,p=>(uO p).any λq=>(qM q.2).any λr=>q.1==("range":Str)&&eC sc q.1&&Γ.bs.contains q.1&&aR Γ N sc a r.1&&aR Γ N sc b r.2
 |.enum e,p=>(uO p).any λq=>(cT q.2).any λr=>isTup tg&&q.1==("enumerate":Str)&&eC sc q.1&&Γ.bs.contains q.1&&aR Γ N sc e r
 |.zip as,p=>(uO p).any λq=>isTup tg&&q.1==("zip":Str)&&eC sc q.1&&Γ.bs.contains q.1&&ee as&&(c7 as==2||c7 as==3)&&dc Γ N sc as q.2
 |.wJ e,p=>(uO p).any λq=>(cT q.2).any λr=>q.1==("reversed":Str)&&eC sc q.1&&Γ.bs.contains q.1&&eR e&&aR Γ N sc e r
end
def XE(W:Wd)(c:Str)(G1 H1:Hp):XK:=λCv ao H'=>∃C a G',Cv=.ref C/\ao=some a/\c∈W.xs/\W.mg c=some (.ref C)/\aD W G1 H1 G' H'
def rB(X:Cx)(W:Wd)(σ:St)(c:Str)(G H:Hp):Prop:=∀(aa:List (Addr×Obj)) (G1 H1:Hp) (s1:Shared) (e:Value) (s':Shared),Inv X aa σ H1 s1->aD W G H G1 H1->du X.prog X.w X.stack H1 s1 (XE W c G1 H1) e s'->X.xe e s'
def Out{α:Type}(X:Cx)(W:Wd)(r:Res α)(σ:St)(G H:Hp)(k:α->Prop):Prop:=match r with
 |.ok a=>k a
 |.exc c=>rB X W σ c G H
 |.bad=>False
section
variable{X:Cx}{W:Wd}{F:bj}{σ:St}{G H G1 H1:Hp}{α β:Type}
def rB.grow{c:Str}(h:rB X W σ c G H)(g:aD W G H G1 H1):rB X W σ c G1 H1:=λaa G2 H2 s1 e s' I g2 x=>h aa G2 H2 s1 e s' I (g.trans g2) x
def Out.grow{r:Res α}{k:α->Prop}(h:Out X W r σ G H k)(g:aD W G H G1 H1):Out X W r σ G1 H1 k:=by
 cases r with
 |ok a=>exact h
 |exc c=>exact rB.grow h g
 |bad=>exact h
def Out.imp{r:Res α}{k k':α->Prop}(h:Out X W r σ G H k)(i:∀a,k a->k' a):Out X W r σ G H k':=by
 cases r with
 |ok a=>exact i a h
 |exc c=>exact h
 |bad=>exact h
def Out.bind{r:Res α}{f:α->Res β}{k:β->Prop}(h:Out X W (r.bind f) σ G H k):Out X W r σ G H λa=>Out X W (f a) σ G H k:=by
 cases r with
 |ok a=>exact h
 |exc c=>exact h
 |bad=>exact h
def Out.val{r:Res α}{k:α->Prop}(h:Out X W r σ G H k)(n:∀c,r≠.exc c):∃a,r=.ok a/\k a:=by
 cases r with
 |ok a=>exact⟨a,rfl,h⟩
 |exc c=>exact absurd rfl (n c)
 |bad=>exact h.elim
structure Got(W:Wd)(H0 G H:Hp)(e:E)(p:PV)(v:V):Prop where
 top:Top W H0 G H p v
 rep:eR e=true->Rep W G p v
def Got.of{H0:Hp}{e:E}{p:PV}{v:V}(h:Rep W G p v):Got W H0 G H e p v:=⟨.inl h,λ_=>h⟩
noncomputable def tE(X:Cx)(W:Wd)(F:bj)(e:E):TE:=λσ H Q=>∃H0 G env,SR W H0 env σ G H/\Out X W (aE F e env) σ G H λp=>∀v G' H',aD W G H G' H'->Got W H0 G' H' e p v->Q v H'
noncomputable def tT(X:Cx)(W:Wd)(F:bj)(e:E):TT:=λσ H Q=>∃H0 G env,SR W H0 env σ G H/\Out X W (aE F e env) σ G H λp=>∃b,p=.bl b/\∀G' H',aD W G H G' H'->Q b H'
structure N5(W:Wd)(H0 G H:Hp)(es:Es)(ps:List PV)(vs:List V):Prop where
 top:Paired (λv p=>Top W H0 G H p v) vs ps
 rep:ee es=true->ai W G ps vs
noncomputable def tA(X:Cx)(W:Wd)(F:bj)(es:Es):TA:=λσ H Q=>∃H0 G env,SR W H0 env σ G H/\Out X W (cb F es env) σ G H λps=>∀vs G' H',aD W G H G' H'->N5 W H0 G' H' es ps vs->Q vs H'
noncomputable def yz(X:Cx)(W:Wd)(F:bj)(o:Oe):TO:=λσ H Q=>∃H0 G env,SR W H0 env σ G H/\Out X W (IZ F o env) σ G H λi=>∀G' H',aD W G H G' H'->Q i H'
def one{H0:Hp}{env:Sl}{e:E}{f:PV->Res β}{k:β->Prop}{Q:VK}(sr:SR W H0 env σ G H)(o:Out X W ((aE F e env).bind f) σ G H k)
 (h:∀p v G1 H1,aD W G H G1 H1->Got W H0 G1 H1 e p v->SR W H0 env σ G1 H1->Out X W (f p) σ G1 H1 k->Q v H1):tE X W F e σ H Q:=
 ⟨H0,G,env,sr,o.bind.imp λp hp v G1 H1 g t=>h p v G1 H1 g t (sr.grow g) (hp.grow g)⟩
def Cz{H0:Hp}{env:Sl}{e:E}{f:Bool->Res β}{k:β->Prop}{Q:Bool->Hp->Prop}(sr:SR W H0 env σ G H)(o:Out X W ((aE F e env).bind λp=>wy p f) σ G H k)
 (h:∀b G1 H1,aD W G H G1 H1->SR W H0 env σ G1 H1->Out X W (f b) σ G1 H1 k->Q b H1):tT X W F e σ H Q:=by
 refine⟨H0,G,env,sr,o.bind.imp λp hp=>?_⟩
 cases p with
 |bl b=>exact⟨b,rfl,λG1 H1 g=>h b G1 H1 g (sr.grow g) (Out.grow hp g)⟩
 |aK=>exact zzk hp
 |int _=>exact zzk hp
 |str _=>exact zzk hp
 |tup _=>exact zzk hp
 |lst _=>exact zzk hp
 |exc _=>exact zzk hp
 |bM _ _=>exact zzk hp
def args{H0:Hp}{env:Sl}{es:Es}{f:List PV->Res β}{k:β->Prop}{Q:List V->Hp->Prop}(sr:SR W H0 env σ G H)(o:Out X W ((cb F es env).bind f) σ G H k)
 (h:∀ps vs G1 H1,aD W G H G1 H1->N5 W H0 G1 H1 es ps vs->SR W H0 env σ G1 H1->Out X W (f ps) σ G1 H1 k->Q vs H1):tA X W F es σ H Q:=
 ⟨H0,G,env,sr,o.bind.imp λp hp v G1 H1 g t=>h p v G1 H1 g t (sr.grow g) (hp.grow g)⟩
def Got.grow{H0 G2 H2:Hp}{e:E}{p:PV}{v:V}(h:Got W H0 G H e p v)(g:aD W G H G2 H2):Got W H0 G2 H2 e p v:=⟨h.top.grow g,λz=>Rep.same g.g p (h.rep z)⟩
def zY(W:Wd)(G:Hp):Option (Str×List Nat)->List PV->List V->Prop
 |none,as,vs=>ai W G as vs
 |some q,as,vs=>∃sH cj qv v,as=sH++cj/\vs=qv++[v]/\ai W G sH qv/\pJ W G q.1 q.2 cj v
noncomputable def xZ(W:Wd)(F:bj)(f:Str)(n:Nat)(q:Option (Str×List Nat)):Sp:=λvs H Q E=>vs.length=n/\∃G as,az G H/\bL W G H/\zY W G q as vs/\(match F f as with
 |.ok p=>∀v G' H',aD W G H G' H'->Rep W G' p v->Q v H'
 |.exc c=>∀Cv ao H',XE W c G H Cv ao H'->E Cv ao H'
 |.bad=>False)
structure HJ(X:Cx)(W:Wd)(F:bj)(k:Nat)(f:Str):Prop where
 ex:∃fa fd ps,gh X.prog X.w X.K X.mg X.base (du X.prog X.w) k fa fd ps (xZ W F f ps.length none)/\X.mg f=some (.ref fa)/\PySem.W.keepIn X.K (.ref fa)=true/\Binds X.K fd ps []/\∀as,F f as≠.bad->as.length=ps.length
structure P6(X:Cx)(W:Wd)(F:bj)(k:Nat)(q:Hs):Prop where
 ex:∃fa fd ps,gh X.prog X.w X.K X.mg X.base (du X.prog X.w) k fa fd ps (xZ W F q.f ps.length (some (q.g,q.idx)))/\X.mg q.h=some (.ref fa)/\PySem.W.keepIn X.K (.ref fa)=true/\Binds X.K fd ps []/\ps.length=q.np
structure cy(Γ:Pg)(F:bj)(W:Wd)(N:List Str)(sc:Scope)(k:Nat)(X:Cx):Prop where
 hN:X.N=N
 cK:X.env.scope=sc
 calm:X.calm=true
 nd:N.Nodup
 K:W.K=X.K
 mg:W.mg=X.mg
 gs:∀q∈Γ.gs,∃u v,X.mg q.1=some u/\RelV v u/\∀G,Rep W G q.2 v
 bs:∀g∈Γ.bs,X.mg g=none
 room:dh (k+1) X.A
 fns:∀f,Γ.fs.contains f=true->HJ X W F k f
 O2:Γ.cs.contains "ValueError"=false
 cls:∀c∈Γ.cs,∃C,X.mg c=some (.ref C)
 xc:∀d∈W.xs,∀D,X.mg d=some (.ref D)->mj X.K D/\(∀c∈Γ.cs,∀C,X.mg c=some (.ref C)->PySem.W.kitOne X.K (.ref D) (.ref C)=some (c==d||c=="FloorError"))/\PySem.W.kitOne X.K (.ref D) (.type "ValueError")=some true
 qr:∀q∈Γ.hs,P6 X W F k q
 any:∀g as,F g as≠.bad->Γ.fs.contains g=true\/f7 g=true
 tb:Γ.hl=true->∃c P,X.env.code=.ref c/\PySem.W.CodeHd X.base c P/\(P,X.env.qual++"<lambda>")∈W.ts/\∀q',(P,q')∈W.ts->q'=X.env.qual++"<lambda>"
 bm:Γ.hl=true->AS X.mg X.base
 fl:Γ.hl=true->∀x,X.fn x=true
variable{Γ:Pg}{N:List Str}{sc:Scope}{k:Nat}
def mJ(C:cy Γ F W N sc k X){x:Str}(h:cD sc x=true):OZ X.env.scope x:=by
 rw [C.cK];unfold cD dH at h;simp! [zzt,zzy] at h;rcases h with(h|h)|h
 ·exact .inl h
 ·exact .inr (.inl h)
 ·exact .inr (.inr h)
def cm(C:cy Γ F W N sc k X){x:Str}(h:eC sc x=true):Gl X x:=by
 show X.env.scope.names.lookup x=_
 rw [C.cK];exact zzy.mp h
def bR{x:Str}(h:okN x=true):(x==("__debug__":Str))=false/\(x==("__classdict__":Str))=false/\x≠"__name__":=by
 unfold okN at h;simp! [zza,Bool.not_eq_true',beq_eq_false_iff_ne] at h;exact⟨beq_eq_false_iff_ne.mpr h.1.1,beq_eq_false_iff_ne.mpr h.1.2,h.2⟩
abbrev GE(X:Cx)(W:Wd)(F:bj)(e:E)(p:Expr):Prop:=PE X p (tE X W F e)
abbrev GT(X:Cx)(W:Wd)(F:bj)(e:E)(p:Expr):Prop:=PT X p (tT X W F e)
abbrev GW(X:Cx)(W:Wd)(F:bj)(e:E)(p:Expr):Prop:=PW X p (tT X W F e)
def _root_.L2.PE.imp{p:Expr}{t t':TE}(h:PE X p t)(i:∀σ H Q,t' σ H Q->t σ H Q):PE X p t':=λaa s σ H Q I hw=>h aa s σ H Q I (i σ H Q hw)
def _root_.L2.PT.imp{p:Expr}{t t':TT}(h:PT X p t)(i:∀σ H Q,t' σ H Q->t σ H Q):PT X p t':=λaa s σ H Q I hw=>h aa s σ H Q I (i σ H Q hw)
def _root_.L2.PW.imp{p:Expr}{t t':TT}(h:PW X p t)(i:∀σ H Q,t' σ H Q->t σ H Q):PW X p t':=λw aa s σ H Q I hw=>h w aa s σ H Q I (i σ H Q hw)
def _root_.L2.PA.imp{p:List Expr}{t t':TA}(h:PA X p t)(i:∀σ H Q,t' σ H Q->t σ H Q):PA X p t':=λpos aa s σ H Q I hw=>h pos aa s σ H Q I (i σ H Q hw)
def Fw{e:E}(σ:St)(H:Hp)(Q:Bool->Hp->Prop)(h:tT X W F e σ H Q):tB (tE X W F e) σ H Q:=by
 obtain⟨H0,G,env,sr,o⟩:=h
 refine⟨H0,G,env,sr,o.imp λp hp v G' H' g t=>?_⟩
 obtain⟨b,rfl,q⟩:=hp
 exact⟨b,t.top.bl,q G' H' g⟩
def rX{e:E}(σ:St)(H:Hp)(Q:Bool->Hp->Prop)(h:tT X W F e σ H Q):AG (tE X W F e) σ H Q:=Fw σ H Q h
def Hz(C:cy Γ F W N sc k X){i:Nat}{x:Str}{pos:Pos}(h:(N[i]?==some x&&cD sc x&&okN x)=true):GE X W F (.var i) (.Name x pos):=by
 simp! [zza,zzy] at h;obtain⟨h1,h2,h3⟩:=bR h.2
 refine(dS (i:=i) (by rw [C.hN];exact h.1.1) (mJ C h.1.2) h1 h2).imp λσ H Q hq=>?_
 obtain⟨H0,G,env,sr,o⟩:=hq
 cases e:env[i]? with
 |none=>unfold aE at o;rw [e] at o;exact o.elim
 |some sl=>
  cases sl with
  |no=>unfold aE at o;rw [e] at o;exact o.elim
  |fn _ _ _=>unfold aE at o;rw [e] at o;exact o.elim
  |own p=>unfold aE at o;rw [e] at o;exact o.elim
  |val p=>
   unfold aE at o;rw [e] at o;obtain⟨o2,hs,v,rfl,r⟩:=sr.slot i _ e
   exact⟨v,hs,o v G H (.refl sr.sub) (.of r)⟩
def JS(C:cy Γ F W N sc k X){i:Nat}{x:Str}{pos:Pos}(h:(N[i]?==some x&&cD sc x&&okN x)=true):GE X W F (.kP i) (.Name x pos):=by
 simp! [zza,zzy] at h;obtain⟨h1,h2,h3⟩:=bR h.2
 refine(dS (i:=i) (by rw [C.hN];exact h.1.1) (mJ C h.1.2) h1 h2).imp λσ H Q hq=>?_
 obtain⟨H0,G,env,sr,o⟩:=hq
 cases e:env[i]? with
 |none=>unfold aE at o;rw [e] at o;exact o.elim
 |some sl=>
  cases sl with
  |no=>unfold aE at o;rw [e] at o;exact o.elim
  |fn _ _ _=>unfold aE at o;rw [e] at o;exact o.elim
  |own p=>
   unfold aE at o;rw [e] at o;obtain⟨o2,hs,v,rfl,r⟩:=sr.slot i _ e
   exact⟨v,hs,o v G H (.refl sr.sub) ⟨.inr r,λz=>nomatch z⟩⟩
  |val p=>
   unfold aE at o;rw [e] at o;obtain⟨o2,hs,v,rfl,r⟩:=sr.slot i _ e
   exact⟨v,hs,o v G H (.refl sr.sub) (.of r)⟩
def iN{p:PV}{v:V}{e:Expr}(h:PE X e (tC v))(r:∀G,Rep W G p v):GE X W F (.cst p) e:=by
 refine L2.PE.imp h λσ H Q hq=>?_
 obtain⟨H0,G,env,sr,o⟩:=hq
 exact o v G H (.refl sr.sub) (.of (r G))
def Ep(C:cy Γ F W N sc k X){g x:Str}{p:PV}{pos:Pos}(h:(g==x&&eC sc x&&okN x&&Γ.gs.any λq=>q.1==g&&vd q.2 p)=true):GE X W F (.glob g p) (.Name x pos):=by
 simp! [zza,zzy,zzj] at h;obtain⟨⟨⟨rfl,h2⟩,h3⟩,q,hq,e1,e2⟩:=h
 obtain⟨u,v,hm,rv,hr⟩:=C.gs q hq
 rw [e1] at hm;cases zO e2;refine(ve (cm C h2) hm rv (bR h3).1).imp λσ H Q hq=>?_
 obtain⟨H0,G,env,sr,o⟩:=hq
 exact o v G H (.refl sr.sub) (.of (hr G))
def Res.aJ{α:Type}{o:Option α}(c:Str):Res.of o≠.exc c:=by cases o<;>exact λz=>nomatch z
def ke{α β:Type}{o:Option α}{f:α->Res β}{c:Str}(h:∀a,f a≠.exc c):(Res.of o).bind f≠.exc c:=by
 cases o with
 |none=>exact λz=>nomatch z
 |some a=>exact h a
def mY{o:FQ}{p q:PV}(c:Str):binOp o p q≠.exc c:=by
 unfold binOp
 repeat' split
 all_goals exact λz=>nomatch z
def EZ{p q:PV}(c:Str):aZ p q≠.exc c:=by
 unfold aZ
 (repeat' first|split|refine ke λ_=>?_|exact Res.aJ c|exact(λz=>nomatch z))
def E8{p q:PV}(c:Str):mZ p q≠.exc c:=by
 unfold mZ
 (repeat' first|split|refine ke λ_=>?_|exact Res.aJ c|exact(λz=>nomatch z))
def Et{p q:PV}(c:Str):uu p q≠.exc c:=by
 unfold uu
 (repeat' first|split|refine ke λ_=>?_|exact Res.aJ c|exact(λz=>nomatch z))
def EG{p q:PV}(c:Str):uE p q≠.exc c:=by
 unfold uE
 (repeat' first|split|refine ke λ_=>?_|exact Res.aJ c|exact(λz=>nomatch z))
def CF{p q:PV}(c:Str):t8 p q≠.exc c:=by
 unfold t8
 (repeat' first|split|refine ke λ_=>?_|exact Res.aJ c|exact(λz=>nomatch z))
def EU{p q:PV}(c:Str):uh p q≠.exc c:=by
 unfold uh
 (repeat' first|split|refine ke λ_=>?_|exact Res.aJ c|exact(λz=>nomatch z))
def DK{p q:PV}(c:Str):p9 p q≠.exc c:=by
 unfold p9
 (repeat' first|split|refine ke λ_=>?_|exact Res.aJ c|exact(λz=>nomatch z))
def Aw{p q:PV}(c:Str):lA p q≠.exc c:=by
 unfold lA
 (repeat' first|split|refine ke λ_=>?_|exact Res.aJ c|exact(λz=>nomatch z))
def Co{p q:PV}(c:Str):wW p q≠.exc c:=by
 unfold wW
 (repeat' first|split|refine ke λ_=>?_|exact Res.aJ c|exact(λz=>nomatch z))
def AZ{p q:PV}(c:Str):n8 p q≠.exc c:=by
 unfold n8
 (repeat' first|split|refine ke λ_=>?_|exact Res.aJ c|exact(λz=>nomatch z))
def cZ{o:AH}{p q:PV}(c:Str):cQ o p q≠.exc c:=match o with
 |.eq=>EZ c|.ne=>E8 c|.lt=>Et c|.le=>EG c|.gt=>CF c|.ge=>EU c|.is=>DK c|.xV=>Aw c|.Gy=>Co c|.GL=>AZ c
def two{op:PV->PV->Res PV}{ea eb:E}{e:E}{σ:St}{H:Hp}{Q:VK}(hn:∀p q c,op p q≠.exc c)(he:∀env,aE F e env=(aE F ea env).bind λx=>(aE F eb env).bind λy=>op x y)
 (h:tE X W F e σ H Q):OR (sI W op) (tE X W F ea) (tE X W F eb) σ H Q:=by
 obtain⟨H0,G,env,sr,o⟩:=h
 rw [he] at o;refine one sr o λp v G1 H1 g1 t1 aQ o1=>one aQ o1 λq u G2 H2 g2 t2 c0 o2=>?_
 obtain⟨r,hr,kr⟩:=o2.val (hn p q)
 exact⟨H0,G2,p,q,r,c0.sub,t1.top.grow g2,t2.top,hr,λw G' H' g' d5=>kr w G' H' ((g1.trans g2).trans g') (.of d5)⟩
def IK(C:cy Γ F W N sc k X){o:FQ}{a b:E}{pa pb:Expr}{pos:Pos}(ha:GE X W F a pa)(hb:GE X W F b pb):GE X W F (.bin o a b) (.BinOp pa (Pu o) pb pos):=
 (Py (IL C.K o) ha hb).imp λσ H Q h=>two (λp q c=>mY c) (λenv=>by rw [aE]) h
def KY(C:cy Γ F W N sc k X){o:AH}{a b:E}{pa pb:Expr}{pos:Pos}(ha:GE X W F a pa)(hb:GE X W F b pb)(hm:behindInMarks (qA o) pb=false):GE X W F (.cmp o a b) (.Compare pa [qA o] [pb] pos):=
 (B9 (gE C.K C.room.units o) ha hb hm).imp λσ H Q h=>two (λp q c=>cZ c) (λenv=>by rw [aE]) h
theorem JU(C:cy Γ F W N sc k X){o:AH}{a b:E}{pa pb:Expr}{pos:Pos}(ha:GE X W F a pa)(hb:GE X W F b pb)(hm:behindInMarks (qA o) pb=false):GT X W F (.cmp o a b) (.Compare pa [qA o] [pb] pos):=
 (DS (gE C.K C.room.units o) ha hb hm).imp λσ H Q h=>by
  have h2:=rX σ H Q h
  exact two (λp q c=>cZ c) (λenv=>by rw [aE]) h2
def F7{c1 c2:AH}{a b c:E}(σ:St)(H:Hp)(Q:VK)(h:tE X W F (.ch c1 c2 a b c) σ H Q):ux (sI W (cQ c1)) (sI W (cQ c2)) (tE X W F a) (tE X W F b) (tE X W F c) σ H Q:=by
 obtain⟨H0,G,env,sr,o⟩:=h
 rw [aE] at o;refine one sr o λp v G1 H1 g1 t1 aQ o1=>one aQ o1 λq u G2 H2 g2 t2 c0 o2=>?_
 obtain⟨r,hr,kr⟩:=o2.bind.val (cZ)
 refine⟨H0,G2,p,q,r,c0.sub,t1.top.grow g2,t2.top,hr,λw G3 H3 g3 d5=>?_⟩
 cases r with
 |bl t=>
  simp! [Rep] at d5;subst d5;refine⟨t,rfl,?_⟩;cases t with
  |false=>
   rw [if_neg zzf];have U1:Out X W (Res.ok (PV.bl false)) σ G2 H2 _:=kr
   exact U1 _ G3 H3 ((g1.trans g2).trans g3) (.of .b)
  |true=>
   rw [if_pos rfl];have U1:Out X W ((aE F c env).bind λz=>cQ c2 q z) σ G2 H2 _:=kr
   refine one (c0.grow g3) (U1.grow g3) λz y G4 H4 g4 t4 J8 o4=>?_
   obtain⟨r4,hr4,kr4⟩:=o4.val (cZ)
   exact⟨H0,G4,q,z,r4,J8.sub,t2.top.grow (g3.trans g4),t4.top,hr4,λw G5 H5 g5 YI=>kr4 w G5 H5 ((((g1.trans g2).trans g3).trans g4).trans g5) (.of YI)⟩
 |aK=>exact zzk kr
 |int _=>exact zzk kr
 |str _=>exact zzk kr
 |tup _=>exact zzk kr
 |lst _=>exact zzk kr
 |exc _=>exact zzk kr
 |bM _ _=>exact zzk kr
def PM(C:cy Γ F W N sc k X){o1 o2:AH}{a b c:E}{pa pb pc:Expr}{pos:Pos}(ha:GE X W F a pa)(hb:GE X W F b pb)(hc:GE X W F c pc)(hm:lastMarks [qA o1,qA o2] [pb,pc]=false):GE X W F (.ch o1 o2 a b c) (.Compare pa [qA o1,qA o2] [pb,pc] pos):=
 (Bb (gE C.K C.room.units o1) (gE C.K C.room.units o2) ha hb hc hm).imp F7
def Pj(C:cy Γ F W N sc k X){o1 o2:AH}{a b c:E}{pa pb pc:Expr}{pos:Pos}(ha:GE X W F a pa)(hb:GE X W F b pb)(hc:GE X W F c pc)(hm:lastMarks [qA o1,qA o2] [pb,pc]=false):GT X W F (.ch o1 o2 a b c) (.Compare pa [qA o1,qA o2] [pb,pc] pos):=
 (y8 (gE C.K C.room.units o1) (gE C.K C.room.units o2) ha hb hc hm).imp λσ H Q h=>F7 σ H _ (rX σ H Q h)
theorem Jm{a:E}{pa:Expr}{pos:Pos}(ha:GE X W F a pa):GE X W F (.neg a) (.UnaryOp .USub pa pos):=
 (P7 (Ff (W:=W)) ha).imp λσ H Q h=>by
  obtain⟨H0,G,env,sr,o⟩:=h
  rw [aE] at o;refine one sr o λp v G1 H1 g1 t1 aQ o1=>?_
  cases p with
  |int i=>exact⟨H0,G1,i,aQ.sub,t1.top,λw G' H' g' d5=>o1 w G' H' (g1.trans g') (.of d5)⟩
  |bl _=>exact zzk o1
  |aK=>exact zzk o1
  |str _=>exact zzk o1
  |tup _=>exact zzk o1
  |lst _=>exact zzk o1
  |exc _=>exact zzk o1
  |bM _ _=>exact zzk o1
theorem MY{a:E}{pa:Expr}{pos:Pos}(ha:GE X W F a pa):GE X W F (.not a) (.UnaryOp .Not pa pos):=
 (Mf ha).imp λσ H Q h=>by
  obtain⟨H0,G,env,sr,o⟩:=h
  rw [aE] at o;refine one sr o λp v G1 H1 g1 t1 aQ o1=>?_
  cases p with
  |bl b=>exact⟨b,t1.top.bl,o1 _ G1 H1 g1 (.of .b)⟩
  |int _=>exact zzk o1
  |aK=>exact zzk o1
  |str _=>exact zzk o1
  |tup _=>exact zzk o1
  |lst _=>exact zzk o1
  |exc _=>exact zzk o1
  |bM _ _=>exact zzk o1
theorem LU{a:E}{pa:Expr}{pos:Pos}(ha:GT X W F a pa):GT X W F (.not a) (.UnaryOp .Not pa pos):=
 (N9 ha).imp λσ H Q h=>by
  obtain⟨H0,G,env,sr,o⟩:=h
  rw [aE] at o;refine Cz sr o λb G1 H1 g1 aQ o1=>?_
  obtain⟨b',e,q⟩:=o1
  cases e;exact q G1 H1 g1
theorem Bi{a b:E}{pa pb:Expr}{r:List Expr}{pos:Pos}(he:eR b=true)(ha:GE X W F a pa)(hb:GE X W F b (.BoolOp .And (pb::r) pos)):GE X W F (.and a b) (.BoolOp .And (pa::pb::r) pos):=
 (MD ha hb).imp λσ H Q h=>by
  obtain⟨H0,G,env,sr,o⟩:=h
  rw [aE] at o;refine one sr o λp v G1 H1 g1 t1 aQ o1=>?_
  cases p with
  |bl t=>
   refine⟨t,t1.top.bl,?_⟩;cases t with
   |true=>
    rw [if_pos rfl];have sA:Out X W (aE F b env) σ G1 H1 _:=o1
    exact⟨H0,G1,env,aQ,sA.imp λp hp v G' H' g' t'=>hp v G' H' (g1.trans g') (.of (t'.rep he))⟩
   |false=>
    rw [if_neg zzf];have sA:Out X W (Res.ok (PV.bl false)) σ G1 H1 _:=o1
    exact sA _ G1 H1 g1 (.of .b)
  |int _=>exact zzk o1
  |aK=>exact zzk o1
  |str _=>exact zzk o1
  |tup _=>exact zzk o1
  |lst _=>exact zzk o1
  |exc _=>exact zzk o1
  |bM _ _=>exact zzk o1
theorem Fz{a b:E}{pa pb:Expr}{r:List Expr}{pos:Pos}(he:eR b=true)(ha:GE X W F a pa)(hb:GE X W F b (.BoolOp .Or (pb::r) pos)):GE X W F (.or a b) (.BoolOp .Or (pa::pb::r) pos):=
 (PY ha hb).imp λσ H Q h=>by
  obtain⟨H0,G,env,sr,o⟩:=h
  rw [aE] at o;refine one sr o λp v G1 H1 g1 t1 aQ o1=>?_
  cases p with
  |bl t=>
   refine⟨t,t1.top.bl,?_⟩;cases t with
   |false=>
    rw [if_neg zzf];have sA:Out X W (aE F b env) σ G1 H1 _:=o1
    exact⟨H0,G1,env,aQ,sA.imp λp hp v G' H' g' t'=>hp v G' H' (g1.trans g') (.of (t'.rep he))⟩
   |true=>
    rw [if_pos rfl];have sA:Out X W (Res.ok (PV.bl true)) σ G1 H1 _:=o1
    exact sA _ G1 H1 g1 (.of .b)
  |int _=>exact zzk o1
  |aK=>exact zzk o1
  |str _=>exact zzk o1
  |tup _=>exact zzk o1
  |lst _=>exact zzk o1
  |exc _=>exact zzk o1
  |bM _ _=>exact zzk o1
theorem AU{a b:E}{pa pb:Expr}{r:List Expr}{pos:Pos}(ha:GT X W F a pa)(hb:GW X W F b (.BoolOp .And (pb::r) pos)):GW X W F (.and a b) (.BoolOp .And (pa::pb::r) pos):=
 (pw_and ha hb).imp λσ H Q h=>by
  obtain⟨H0,G,env,sr,o⟩:=h
  rw [aE] at o;refine Cz sr o λt G1 H1 g1 aQ o1=>?_
  cases t with
  |true=>
   rw [if_pos rfl];have sA:Out X W (aE F b env) σ G1 H1 _:=o1
   exact⟨H0,G1,env,aQ,sA.imp λp hp=>by obtain⟨c,rfl,q⟩:=hp;exact⟨c,rfl,λG' H' g'=>q G' H' (g1.trans g')⟩⟩
  |false=>
   rw [if_neg zzf];obtain⟨c,e,q⟩:=(show Out X W (Res.ok (PV.bl false)) σ G1 H1 _ from o1)
   cases e;exact q G1 H1 g1
theorem Ft{a b:E}{pa pb:Expr}{r:List Expr}{pos:Pos}(ha:GT X W F a pa)(hb:GW X W F b (.BoolOp .Or (pb::r) pos)):GW X W F (.or a b) (.BoolOp .Or (pa::pb::r) pos):=
 (pw_or ha hb).imp λσ H Q h=>by
  obtain⟨H0,G,env,sr,o⟩:=h
  rw [aE] at o;refine Cz sr o λt G1 H1 g1 aQ o1=>?_
  cases t with
  |false=>
   rw [if_neg zzf];have sA:Out X W (aE F b env) σ G1 H1 _:=o1
   exact⟨H0,G1,env,aQ,sA.imp λp hp=>by obtain⟨c,rfl,q⟩:=hp;exact⟨c,rfl,λG' H' g'=>q G' H' (g1.trans g')⟩⟩
  |true=>
   rw [if_pos rfl];obtain⟨c,e,q⟩:=(show Out X W (Res.ok (PV.bl true)) σ G1 H1 _ from o1)
   cases e;exact q G1 H1 g1
theorem Mc{c a b:E}{pc pa pb:Expr}{pos:Pos}(Yi:eR a=true)(XU:eR b=true)(hc:GT X W F c pc)(ha:GE X W F a pa)(hb:GE X W F b pb):GE X W F (.ite c a b) (.IfExp pc pa pb pos):=
 (zu hc ha hb).imp λσ H Q h=>by
  obtain⟨H0,G,env,sr,o⟩:=h
  rw [aE] at o;refine Cz sr o λt G1 H1 g1 aQ o1=>?_
  cases t with
  |true=>
   rw [if_pos rfl];have sA:Out X W (aE F a env) σ G1 H1 _:=o1
   exact⟨H0,G1,env,aQ,sA.imp λp hp v G' H' g' t'=>hp v G' H' (g1.trans g') (.of (t'.rep Yi))⟩
  |false=>
   rw [if_neg zzf];have sA:Out X W (aE F b env) σ G1 H1 _:=o1
   exact⟨H0,G1,env,aQ,sA.imp λp hp v G' H' g' t'=>hp v G' H' (g1.trans g') (.of (t'.rep XU))⟩
noncomputable def tF(X:Cx)(W:Wd)(F:bj)(e:E):TE:=λσ H Q=>∃H0 G env,SR W H0 env σ G H/\Out X W (aE F e env) σ G H λp=>∃xs,p=.lst xs/\∀a vs G' H',aD W G H G' H'->H' a=none->ai W G' xs vs->Q (.ref a) (upd H' a (.lst vs))
abbrev GF(X:Cx)(W:Wd)(F:bj)(e:E)(p:Expr):Prop:=PE X p (tF X W F e)
theorem GF.ge{e:E}{p:Expr}(h:GF X W F e p)(hl:∀env q,aE F e env=.ok q->∃xs,q=.lst xs):GE X W F e p:=
 L2.PE.imp h λσ H Q hq=>by
  obtain⟨H0,G,env,sr,o⟩:=hq
  refine⟨H0,G,env,sr,?_⟩;cases r:aE F e env with
  |bad=>rw [r] at o;exact o
  |exc c=>rw [r] at o;exact o
  |ok q=>
   rw [r] at o;obtain⟨xs,rfl⟩:=hl env q r
   exact⟨xs,rfl,λa vs G' H' g ha l=>o _ _ _ (g.trans (.new g.sub ha)) (.of (.l (.inl (.inl aj)) (ai.same (aY (g.sub.free ha)) xs l)))⟩
def notStar{e:E}{p:Expr}(h:aR Γ N sc e p=true):∀env ps,starEach (p::ps) env=(false,eval p env)::starEach ps env:=by
 intro env ps;cases p<;>first|rfl|(cases e<;>first|(exact aM h)|(rename_i q;cases q<;>exact aM h))
theorem cu:∀{es:Es} {ps:List Expr},dc Γ N sc es ps=true->∀env pos,(backTo pos (starEach ps env)).any (·.1)=false
 |.nil,[],_,_,_=>rfl
 |.cons e es,p::ps,h,env,pos=>by
  replace h:=aw h
  rw [notStar h.1];show(false||(backTo pos (starEach ps env)).any (·.1))=false
  rw [cu h.2]
  rfl
 |.nil,_::_,h,_,_=>aM h
 |.cons _ _,[],h,_,_=>aM h
abbrev GA(X:Cx)(W:Wd)(F:bj)(es:Es)(ps:List Expr):Prop:=PA X ps (tA X W F es)
theorem Od:GA X W F .nil []:=L2.PA.imp bP λσ H Q h=>by
 obtain⟨H0,G,env,sr,o⟩:=h
 rw [cb] at o;exact o [] G H (.refl sr.sub) ⟨.nil,λ_=>.nil⟩
theorem D1{e:E}{es:Es}{p:Expr}{ps:List Expr}(he:GE X W F e p)(hs:GA X W F es ps)(cL:starEach (p::ps) X.env=(false,eval p X.env)::starEach ps X.env):GA X W F (.cons e es) (p::ps):=
 L2.PA.imp (ba he hs cL) λσ H Q h=>by
  obtain⟨H0,G,env,sr,o⟩:=h
  rw [cb] at o;refine one sr o λq v G1 H1 g1 t1 aQ o1=>args aQ o1 λqs vs G2 H2 g2 t2 c0 o2=>?_
  refine o2 (v::vs) G2 H2 (g1.trans g2) ⟨.cons (t1.top.grow g2) t2.top,λz=>?_⟩
  unfold ee at z;rw [zza] at z;exact .cons (Rep.same g2.g q (t1.rep z.1)) (t2.rep z.2)
theorem fO:∀{es:Es} {env:Sl} {ps:List PV},cb F es env=.ok ps->ps.length=c7 es
 |.nil,env,ps,h=>by rw [cb] at h;cases h;rfl
 |.cons e es,env,ps,h=>by
  rw [cb] at h;obtain⟨p,_,h⟩:=Res.aP h
  obtain⟨qs,hq,h⟩:=Res.aP h
  cases h;rw [zzL,fO hq]
  rfl
theorem Li{es:Es}{ps:List Expr}{x1:Nat}{pos:Pos}(sV:ee es=true)(hl:c7 es<1000)(h:GA X W F es ps):GE X W F (.tup es) (.Tuple ps x1 pos):=
 L2.PE.imp (M3 h) λσ H Q hq=>by
  obtain⟨H0,G,env,sr,o⟩:=hq
  rw [aE] at o;have o':=o
  refine⟨H0,G,env,sr,?_⟩;cases r:cb F es env with
  |bad=>rw [r] at o;exact o
  |exc c=>rw [r] at o;exact o
  |ok qs=>
   rw [r] at o;have hlen:=fO r
   intro vs G1 H1 g1 t;have l:=t.rep sV
   refine⟨by rw [l.length,hlen];exact Nat.le_of_lt (Nat.lt_trans hl (by decide)),λp hp=>?_⟩
   exact o _ _ _ (g1.trans (.new g1.sub hp)) (.of (.t (.inl aj) (ai.same (aY (g1.sub.free hp)) qs l)))
theorem o5{es:Es}{ps:List Expr}{pos:Pos}(sV:ee es=true)(hl:c7 es<1000)(h:GA X W F es ps):GF X W F (.lst es) (.List ps pos):=
 L2.PE.imp (Im h) λσ H Q hq=>by
  obtain⟨H0,G,env,sr,o⟩:=hq
  rw [aE] at o;refine⟨H0,G,env,sr,?_⟩;cases r:cb F es env with
  |bad=>rw [r] at o;exact o
  |exc c=>rw [r] at o;exact o
  |ok qs=>
   rw [r] at o;have hlen:=fO r
   obtain⟨xs,e,o⟩:=o
   cases e;intro vs G1 H1 g1 t;have l:=t.rep sV
   exact⟨by rw [l.length,hlen];exact Nat.le_of_lt (Nat.lt_trans hl (by decide)),λp hp=>o p vs G1 H1 g1 hp l⟩
theorem lst_is{es:Es}:∀env q,aE F (.lst es) env=.ok q->∃xs,q=.lst xs:=λenv q h=>by
 rw [aE] at h;obtain⟨ps,_,h⟩:=Res.aP h
 cases h;exact⟨_,rfl⟩
def wb{p q:PV}(c:Str):eF p q≠.exc c:=by
 unfold eF
 (repeat' first|split|refine ke λ_=>?_|exact Res.aJ c|exact(λz=>nomatch z))
def L1(C:cy Γ F W N sc k X){a b:E}{pa pb:Expr}{pos:Pos}(ha:GE X W F a pa)(hb:GE X W F b pb)(hs:pf pb):GE X W F (.sub a b) (.Subscript pa pb pos):=
 (FJ (SG C.K C.room.units) ha hb hs).imp λσ H Q h=>two (λp q c=>wb c) (λenv=>by rw [aE]) h
def AY{e:E}{p:Expr}(h:aR Γ N sc e p=true):pf p:=by
 intro o i;cases p<;>first|rfl|(cases e<;>first|(exact aM h)|(rename_i q;cases q<;>exact aM h))
def pB{e:E}{p:Expr}(h:aR Γ N sc e p=true)(op:CmpOp):behindInMarks op p=false:=by
 cases p<;>first|rfl|(cases e<;>first|(exact aM h)|(rename_i q;cases q<;>exact aM h))
theorem DU:PO X none (yz X W F .no):=λaa s σ H Q I h=>DD aa s σ H Q I (by
 obtain⟨H0,G,env,sr,o⟩:=h
 rw [IZ] at o;exact o G H (.refl sr.sub))
theorem Fd{e:E}{p:Expr}(h:GE X W F e p):PO X (some p) (yz X W F (.some e)):=λaa s σ H Q I hq=>E0 h aa s σ H Q I (by
 obtain⟨H0,G,env,sr,o⟩:=hq
 rw [IZ] at o;refine one sr o λq v G1 H1 g1 t1 aQ o1=>?_
 cases q with
 |int i=>exact⟨i,t1.top.int,o1 G1 H1 g1⟩
 |bl _=>exact zzk o1
 |aK=>exact zzk o1
 |str _=>exact zzk o1
 |tup _=>exact zzk o1
 |lst _=>exact zzk o1
 |exc _=>exact zzk o1
 |bM _ _=>exact zzk o1)
def r9{p:PV}{lo hi:Option Int}(c:Str):iL p lo hi≠.exc c:=by
 unfold iL
 (repeat' first|split|refine ke λ_=>?_|exact Res.aJ c|exact(λz=>nomatch z))
theorem AV(C:cy Γ F W N sc k X){a:E}{lo hi:Oe}{pa:Expr}{pl ph:Option Expr}{p2 pos:Pos}(ha:GE X W F a pa)(hl:PO X pl (yz X W F lo))(hh:PO X ph (yz X W F hi)):GE X W F (.slice a lo hi) (.Subscript pa (.Slice pl ph none p2) pos):=
 (AK (Va C.K) ha hl hh).imp λσ H Q h=>by
  obtain⟨H0,G,env,sr,o⟩:=h
  rw [aE] at o;refine one sr o λp v G1 H1 g1 t1 aQ o1=>?_
  refine⟨H0,G1,env,aQ,o1.bind.imp λl qW G2 H2 g2=>?_⟩
  refine⟨H0,G2,env,aQ.grow g2,(qW.grow g2).bind.imp λh' Xw G3 H3 g3=>?_⟩
  obtain⟨r,hr,kr⟩:=(Xw.grow g3).val (λc=>r9 c)
  exact⟨H0,G3,p,r,((aQ.grow g2).grow g3).sub,t1.top.grow (g2.trans g3),hr,λw G' H' g' d5=>kr w G' H' (((g1.trans g2).trans g3).trans g') (.of d5)⟩
def Em{CX:x5}{f:Addr}{fd:FuncData}{ps:List Str}{sp:Sp}{E:XK}{aa:List (Addr×Obj)}{σ:St}{H:Hp}{s:Shared}{Q:VK}{us:List Value}{vs:List V}(FO:gh X.prog X.w X.K X.mg X.base CX k f fd ps sp)(hr:dh k X.A)(hb:Binds X.K fd ps [])
 (hx:∀e s',CX X.stack H s E e s'->X.xe e s') (I:Inv X aa σ H s) (r:Vals vs us) (h:sp vs H Q E):wpAny (model X.prog X.w) X.A (call (.ref f) us) (EP X aa σ Q) X.xe s:=by
 have hl:us.length=ps.length:=by rw [<-r.length];exact FO.len _ _ _ _ h
 have iR:=hb s us I.nq (by rw [zz6];exact hl)
 rw [zz6] at iR;refine wpAny_call (codeAny_mono (FO.run X.A X.stack s H ⟨us,[]⟩ us vs Q E hr I.wO iR r h) λr s' hq=>?_)
 cases r with
 |error e=>exact hx e s' hq
 |ok fl=>
  cases fl with
  |ret u=>exact I.after hq
  |next=>exact zzk hq
  |brk=>exact zzk hq
  |cont=>exact zzk hq
def A8.imp{P:Program}{w:World}{outer:List Env}{H:Hp}{s s':Shared}{E E':XK}{e:Value}(h:du P w outer H s E e s')(i:∀C a H',E C a H'->E' C a H'):du P w outer H s E' e s':=by
 obtain⟨a,C,t,vs,H',B,rfl,F⟩:=h
 exact⟨a,C,t,vs,H',B,rfl,⟨F.os,F.bare,F.aH,F.xq,F.tn,F.tup,F.dw,F.bZ,F.un,i _ _ _ F.ends⟩⟩
def i8(hr:dh k X.A){f:Str}{fa:Addr}{fd:FuncData}{pn:List Str}{q:Option (Str×List Nat)}{aa:List (Addr×Obj)}{σ:St}{G H:Hp}{s:Shared}{Q:VK}{us:List Value}{vs:List V}{as:List PV}
 (FO:gh X.prog X.w X.K X.mg X.base (du X.prog X.w) k fa fd pn (xZ W F f pn.length q)) (hb:Binds X.K fd pn []) (hlen:F f as≠.bad->vs.length=pn.length)
 (I:Inv X aa σ H s) (sg:az G H) (tb:bL W G H) (l:zY W G q as vs) (r:Vals vs us) (o:Out X W (F f as) σ G H λp=>cg W G H p Q):wpAny (model X.prog X.w) X.A (call (.ref fa) us) (EP X aa σ Q) X.xe s:=by
 have BD:F f as≠.bad:=λz=>by rw [z] at o;exact o
 refine Em (E:=λCv ao H'=>∃c,F f as=.exc c/\XE W c G H Cv ao H') FO hr hb (λe s' x=>?_) I r ⟨hlen BD,G,as,sg,tb,l,?_⟩
 ·cases z:F f as with
  |ok q=>
   obtain⟨a,C',t,vs,H',B,rfl,Fl⟩:=x
   obtain⟨c,e1,_⟩:=Fl.ends
   rw [z] at e1;cases e1
  |exc c=>
   rw [z] at o;refine o aa G H s e s' I (.refl sg) (A8.imp x λC1 a H' y=>?_);obtain⟨c',e1,y⟩:=y
   rw [z] at e1;cases e1;exact y
  |bad=>exact absurd z BD
 ·cases z:F f as with
  |ok q=>
   rw [z] at o;exact λv G' H' g' rp=>o v G' H' g' rp
  |exc c=>exact λCv ao H' x=>⟨c,rfl,x⟩
  |bad=>exact absurd z BD
def cy.rm(C:cy Γ F W N sc k X):dh k X.A:=C.room.mono (Nat.le_succ k)
def D4(C:cy Γ F W N sc k X){f:Str}{e:E}{es:Es}{p:Expr}{ps:List Expr}{np pos:Pos}(hf:Γ.fs.contains f=true)(hg:eC sc f=true)(ho:okN f=true)(sV:ee (.cons e es)=true)(ha:GA X W F (.cons e es) (p::ps))
 (cL:starEach (p::ps) X.env=(false,eval p X.env)::starEach ps X.env) (hpl:(backTo pos (starEach ps X.env)).any (·.1)=false):GE X W F (.call f (.cons e es)) (.Call (.Name f np) (p::ps) [] pos):=by
 intro aa s σ H Q I h;obtain⟨H0,G,env,sr,o⟩:=h
 rw [aE] at o;obtain⟨fa,fd,pn,FO,hm,hk,hb,hlen⟩:=(C.fns f hf).ex
 refine wpAny_Call_Name_kw (dZ I (cm C hg) hm ?_ (bR ho).1);refine PySem.W.callWith_K (h₀:=X.base) I.ok.mod.O0 hk (bq (ha pos aa s σ H (λvs H1=>∃G1 as,az G1 H1/\bL W G1 H1/\ai W G1 as vs/\Out X W (F f as) σ G1 H1 λp=>cg W G1 H1 p Q) I ?_) λus s1 ⟨vs,H1,I1,r,q⟩=>⟨I1.nq,?_⟩) cL hpl
 ·refine args sr o λas vs G1 H1 g1 t aQ o1=>⟨G1,as,aQ.sub,aQ.tab,t.rep sV,o1.imp λp hp v G' H' g' rp=>hp v G' H' (g1.trans g') (.of rp)⟩
 ·obtain⟨G1,as,sg,tb,l,o1⟩:=q
  exact i8 C.rm FO hb (λz=>by rw [l.length];exact hlen as z) I1 sg tb l r o1
def yF(C:cy Γ F W N sc k X){f:Str}{np pos:Pos}(hf:Γ.fs.contains f=true)(hg:eC sc f=true)(ho:okN f=true):GE X W F (.call f .nil) (.Call (.Name f np) [] [] pos):=by
 intro aa s σ H Q I h;obtain⟨H0,G,env,sr,o⟩:=h
 rw [aE,cb] at o;obtain⟨fa,fd,pn,FO,hm,hk,hb,hlen⟩:=(C.fns f hf).ex
 refine wpAny_Call_Name_kw (dZ I (cm C hg) hm ?_ (bR ho).1);refine PySem.W.callWith_K0 I.nq hk ?_;have o':Out X W (F f []) σ G H λp=>∀v G' H',aD W G H G' H'->Got W H0 G' H' (.call f .nil) p v->Q v H':=o
 exact i8 (us:=[]) (vs:=[]) (as:=[]) (q:=none) C.rm FO hb (λz=>hlen [] z) I sr.sub sr.tab (show ai W G [] [] from .nil) .nil (o'.imp λp hp v G' H' g' rp=>hp v G' H' g' (.of rp))
def D9{ps:List PV}(c:Str):Bj ps≠.exc c:=by
 unfold Bj
 (repeat' first|split|refine ke λ_=>?_|exact Res.aJ c|exact(λz=>nomatch z))
def Ea{ps:List PV}(c:Str):Br ps≠.exc c:=by
 unfold Br
 (repeat' first|split|refine ke λ_=>?_|exact Res.aJ c|exact(λz=>nomatch z))
def Fg{ps:List PV}(c:Str):Aq ps≠.exc c:=by
 unfold Aq
 (repeat' first|split|refine ke λ_=>?_|exact Res.aJ c|exact(λz=>nomatch z))
def Eb{ps:List PV}(c:Str):zX ps≠.exc c:=by
 unfold zX
 (repeat' first|split|refine ke λ_=>?_|exact Res.aJ c|exact(λz=>nomatch z))
def CU{ps:List PV}(c:Str):Ad ps≠.exc c:=by
 unfold Ad
 (repeat' first|split|refine ke λ_=>?_|exact Res.aJ c|exact(λz=>nomatch z))
def xM{ps:List PV}(c:Str):lZ ps≠.exc c:=by
 unfold lZ
 (repeat' first|split|refine ke λ_=>?_|exact Res.aJ c|exact(λz=>nomatch z))
def CD{ps:List PV}(c:Str):Bw ps≠.exc c:=by
 unfold Bw
 (repeat' first|split|refine ke λ_=>?_|exact Res.aJ c|exact(λz=>nomatch z))
def t9{ps:List PV}(c:Str):i5 ps≠.exc c:=by
 unfold i5
 (repeat' first|split|refine ke λ_=>?_|exact Res.aJ c|exact(λz=>nomatch z))
def By{ps:List PV}(c:Str):oz ps≠.exc c:=by
 unfold oz
 (repeat' first|split|refine ke λ_=>?_|exact Res.aJ c|exact(λz=>nomatch z))
def CC{ps:List PV}(c:Str):Av ps≠.exc c:=by
 unfold Av
 (repeat' first|split|refine ke λ_=>?_|exact Res.aJ c|exact(λz=>nomatch z))
def uH{ps:List PV}(c:Str):i4 ps≠.exc c:=by
 unfold i4
 (repeat' first|split|refine ke λ_=>?_|exact Res.aJ c|exact(λz=>nomatch z))
def v5{ps:List PV}(c:Str):lC ps≠.exc c:=by
 unfold lC
 (repeat' first|split|refine ke λ_=>?_|exact Res.aJ c|exact(λz=>nomatch z))
def yC{ps:List PV}(c:Str):rV ps≠.exc c:=by
 unfold rV
 (repeat' first|split|refine ke λ_=>?_|exact Res.aJ c|exact(λz=>nomatch z))
def wD{b:B}{ps:List PV}(c:Str):fw b ps≠.exc c:=match b with
 |.len=>D9 c|.abs=>Ea c|.max2=>Fg c|.min2=>Eb c|.int=>CU c|.tuple=>xM c|.all=>CD c|.sorted=>t9 c|.dict=>By c|.any=>CC c
def wc{m:M}{ps:List PV}(c:Str):As m ps≠.exc c:=match m with
 |.ic=>uH c|.index=>v5 c|.join=>yC c
def NN(C:cy Γ F W N sc k X)(b:B){e:Expr}{es:List Expr}{t:TA}{np pos:Pos}(hg:eC sc (bN b)=true)(hm:Γ.bs.contains (bN b)=true)(ha:PA X (e::es) t)
 (he:starEach (e::es) X.env=(false,eval e X.env)::starEach es X.env) (hpl:(backTo pos (starEach es X.env)).any (·.1)=false):PE X (.Call (.Name (bN b) np) (e::es) [] pos) (RW (xg W (fw b)) t):=by
 have pX:=C.bs _ (zzn.mp hm)
 have ra:=cm C hg
 cases b
 case len=>exact b8 (wU C.K) ra pX PySem.boot_len ha (he:=he) (hpl:=hpl)
 case abs=>exact b8 wN ra pX (by decide+kernel) ha (he:=he) (hpl:=hpl)
 case max2=>exact b8 (wV C.calm) ra pX (by decide+kernel) ha (he:=he) (hpl:=hpl)
 case min2=>exact b8 (wQ C.calm) ra pX (by decide+kernel) ha (he:=he) (hpl:=hpl)
 case int=>exact gC w4 ra pX (by decide+kernel) ha (he:=he) (hpl:=hpl)
 case tuple=>exact gC (sD C.K) ra pX (by decide+kernel) ha (he:=he) (hpl:=hpl)
 case all=>exact b8 (wZ C.calm C.K) ra pX (by decide+kernel) ha (he:=he) (hpl:=hpl)
 case any=>exact b8 (wu C.calm C.K) ra pX (by decide+kernel) ha (he:=he) (hpl:=hpl)
 case sorted=>exact b8 (pQ C.K C.calm) ra pX (by decide+kernel) ha (he:=he) (hpl:=hpl)
 case dict=>exact gC (r6 C.K C.calm C.room.units) ra pX (by decide+kernel) ha (he:=he) (hpl:=hpl)
def OF{op:List PV->Res PV}{es:Es}{e:E}{σ:St}{H:Hp}{Q:VK}(hn:∀ps c,op ps≠.exc c)(he:∀env,aE F e env=(cb F es env).bind λps=>op ps)(h:tE X W F e σ H Q):RW (xg W op) (tA X W F es) σ H Q:=by
 obtain⟨H0,G,env,sr,o⟩:=h
 rw [he] at o;refine args sr o λps vs G1 H1 g1 t aQ o1=>?_
 obtain⟨r,hr,kr⟩:=o1.val (hn ps)
 exact⟨H0,G1,ps,r,aQ.sub,t.top,hr,λw G' H' g' d5=>kr w G' H' (g1.trans g') (.of d5)⟩
def Lj(C:cy Γ F W N sc k X)(b:B){es:Es}{e:Expr}{ps:List Expr}{np pos:Pos}(hg:eC sc (bN b)=true)(hm:Γ.bs.contains (bN b)=true)(ha:GA X W F es (e::ps))
 (he:starEach (e::ps) X.env=(false,eval e X.env)::starEach ps X.env) (hpl:(backTo pos (starEach ps X.env)).any (·.1)=false):GE X W F (.blt b es) (.Call (.Name (bN b) np) (e::ps) [] pos):=
 (NN C b hg hm ha he hpl).imp λσ H Q h=>OF (λps c=>wD c) (λenv=>by rw [aE]) h
def yl{t:Ty}{p:PV}(c:Str):zd t p≠.exc c:=by
 cases p<;>exact λz=>nomatch z
def N4(C:cy Γ F W N sc k X)(t:Ty){pos:Pos}(hg:eC sc (Str.ofString (uK t))=true)(hm:Γ.bs.contains (Str.ofString (uK t))=true):PE X (.Name (Str.ofString (uK t)) pos) (tC (.ty (uK t))):=by
 have pX:=C.bs _ (zzn.mp hm)
 have ra:=cm C hg
 cases t
 all_goals exact vK ra pX (u:=.type _) (by decide+kernel) rfl (by decide+kernel) (by decide+kernel)
def Ri(C:cy Γ F W N sc k X){t:Ty}{a:E}{pa:Expr}{np tp pos:Pos}(hi:eC sc "isinstance"=true)(hb:Γ.bs.contains "isinstance"=true)(hg:eC sc (Str.ofString (uK t))=true)(hm:Γ.bs.contains (Str.ofString (uK t))=true)(ha:GE X W F a pa)
 (cL:∀env ps,starEach (pa::ps) env=(false,eval pa env)::starEach ps env):GE X W F (.ty t a) (.Call (.Name "isinstance" np) [pa,.Name (Str.ofString (uK t)) tp] [] pos):=by
 refine(b8 (yt C.K t) (cm C hi) (C.bs _ (zzn.mp hb)) (by decide+kernel) (ba ha (ba (N4 C t hg hm) bP) (cL _ _)) (he:=cL _ _)).imp λσ H Q h=>?_
 obtain⟨H0,G,env,sr,o⟩:=h
 rw [aE] at o;refine one sr o λp v G1 H1 g1 t1 aQ o1=>?_
 obtain⟨r,hr,kr⟩:=o1.val (λc=>yl c)
 exact⟨v,H0,G1,p,r,rfl,aQ.sub,t1.top,hr,λw G' H' g' d5=>kr w G' H' (g1.trans g') (.of d5)⟩
def Jl(C:cy Γ F W N sc k X){c:Str}{a:E}{pa:Expr}{np tp pos:Pos}(hi:eC sc "isinstance"=true)(hb:Γ.bs.contains "isinstance"=true)(hg:eC sc c=true)(aH:okN c=true)(hm:(Γ.cs.contains c||(c=="ValueError"&&Γ.bs.contains c))=true)(ha:GE X W F a pa)
 (cL:∀env ps,starEach (pa::ps) env=(false,eval pa env)::starEach ps env) (FA:Γ.cs.contains "ValueError"=false):GE X W F (.B5 c a) (.Call (.Name "isinstance" np) [pa,.Name c tp] [] pos):=by
 have key:∀{p:PV} {H0 G H:Hp} {v:V} {σ:St} {kk:PV->Prop} {env:Sl},Top W H0 G H p v->az G H->Out X W (match p with|.exc d=>Res.ok (PV.bl (if c=="ValueError" then true else(c==d||c=="FloorError")))|_=>.bad) σ G H kk->∃a d D,p=.exc d/\v=.ref a/\d∈W.xs/\X.mg d=some (.ref D)/\H a=some (iM a D):=λ{p H0 G H v σ kk env} t sg o=>by
  cases p with
  |exc d=>
   rcases t with t|t
   ·simp! [Rep] at t;obtain⟨a,D,rfl,hx,hm,ha⟩:=t
    exact⟨a,d,D,rfl,rfl,hx,by rw [<-C.mg];exact hm,sg _ _ ha⟩
   ·exact t.elim
  |int _=>exact zzk o
  |bl _=>exact zzk o
  |aK=>exact zzk o
  |str _=>exact zzk o
  |tup _=>exact zzk o
  |lst _=>exact zzk o
  |bM _ _=>exact zzk o
 by_cases hv:(c==("ValueError":Str))=true
 ·have ec:c="ValueError":=zzy.mp hv
  have PX:Γ.bs.contains c=true:=by
   rw [zzt,zza] at hm;rcases hm with h|h
   ·rw [ec,FA] at h;cases h
   ·exact h.2
  subst ec;refine(b8 wI (cm C hi) (C.bs _ (zzn.mp hb)) (by decide+kernel) (ba ha (ba (kf (cm C hg) (C.bs _ (zzn.mp PX))) bP) (cL _ _)) (he:=cL _ _)).imp λσ H Q h=>?_
  obtain⟨H0,G,env,sr,o⟩:=h
  rw [aE] at o;refine one sr o λp v G1 H1 g1 t1 aQ o1=>?_
  obtain⟨a1,d,D,rfl,rfl,hx,hmd,hH⟩:=key (env:=env) t1.top aQ.sub o1
  obtain⟨xc,_,hk⟩:=C.xc d hx D hmd
  exact⟨a1,D,"ValueError",true,rfl,hH,xc,hk,o1 _ G1 H1 g1 (.of .b)⟩
 ·have P0:Γ.cs.contains c=true:=by
   rw [zzt,zza] at hm;rcases hm with h|h
   ·exact h
   ·exact absurd h.1 hv
  obtain⟨Cc,hCc⟩:=C.cls c (zzn.mp P0)
  refine(b8 wA (cm C hi) (C.bs _ (zzn.mp hb)) (by decide+kernel) (ba ha (ba (zi (cm C hg) hCc (bR aH).1) bP) (cL _ _)) (he:=cL _ _)).imp λσ H Q h=>?_
  obtain⟨H0,G,env,sr,o⟩:=h
  rw [aE] at o;refine one sr o λp v G1 H1 g1 t1 aQ o1=>?_
  obtain⟨a1,d,D,rfl,rfl,hx,hmd,hH⟩:=key (env:=env) t1.top aQ.sub o1
  obtain⟨xc,hk,_⟩:=C.xc d hx D hmd
  have o2:Out X W (Res.ok (PV.bl (if c=="ValueError" then true else(c==d||c=="FloorError")))) σ G1 H1 _:=o1
  rw [if_neg hv] at o2;exact⟨a1,D,Cc,_,rfl,hH,xc,hk c (zzn.mp P0) Cc hCc,o2 _ G1 H1 g1 (.of .b)⟩
def mT:M->String
 |.join=>"str"|.ic=>"list"|.index=>"list"
def U5(C:cy Γ F W N sc k X){m:M}{p:PV}{v:V}{H0 G H:Hp}(sg:az G H)(h:Bc m p=true)(t:Top W H0 G H p v):SX X.K (mT m) v H:=by
 cases m<;>cases p<;>first|(exact aM h)|(cases t.str;rfl)|(obtain⟨a,vs,rfl,h1,_⟩:=t.lst sg;exact .inl ⟨rfl,_,iU C.K h1⟩)
def Ig(C:cy Γ F W N sc k X){m:M}{o:E}{es:Es}{po p:Expr}{ps:List Expr}{apos bp:Pos}(ho:GE X W F o po)(ha:GA X W F es (p::ps))(d8:attributeBase po (mN m) X.env (eval po X.env)=eval po X.env)
 (BS:((backTo bp (starEach (p::ps) X.env)).all (λx=>!x.1)&&(backToKw bp (keywordEach [] X.env)).all (λx=>x.1.isSome)&&decide ((p::ps).length+([]:List Keyword).length+(if([]:List Keyword).isEmpty then 0 else 1)<30))=true)
 (eO:(apos.endLine==bp.line)=true) (hs:starEach (p::ps) X.env=(false,eval p X.env)::starEach ps X.env) (gY:(backTo bp (starEach ps X.env)).any (·.1)=false):GE X W F (.B6 m o es) (.Call (.Attribute po (mN m) apos) (p::ps) [] bp):=by
 have rd:∀σ H Q,tE X W F (.B6 m o es) σ H Q->VD X.K (mT m) (Rx W (As m)) (tE X W F o) (tA X W F es) σ H Q:=λσ H Q h=>by
  obtain⟨H0,G,env,sr,out⟩:=h
  rw [aE] at out;refine one sr out λp v G1 H1 g1 t1 aQ o1=>?_
  by_cases hk:Bc m p=true
  ·rw [if_pos hk] at o1;refine⟨U5 C aQ.sub hk t1.top,args aQ o1 λps vs G2 H2 g2 t2 c0 o2=>?_⟩
   obtain⟨r,hr,kr⟩:=o2.val (λc=>wc c)
   exact⟨H0,G2,p::ps,r,c0.sub,.cons (t1.top.grow g2) t2.top,hr,λw G' H' g' d5=>kr w G' H' ((g1.trans g2).trans g') (.of d5)⟩
  ·rw [if_neg hk] at o1;exact o1.elim
 cases m
 case join=>exact(mM PySem.F.plainAttrs_str PySem.F.slot_str_join PySem.F.type_str_join (yv C.K) ho ha d8 BS eO hs gY).imp rd
 case ic=>exact(mM PySem.F.plainAttrs_list PySem.F.slot_list_count PySem.F.type_list_count (tH C.K C.room.units) ho ha d8 BS eO hs gY).imp rd
 case index=>exact(mM PySem.F.plainAttrs_list PySem.F.slot_list_index PySem.F.type_list_index (xA C.K C.room.units) ho ha d8 BS eO hs gY).imp rd
def SR.set{H0 G H:Hp}{env:Sl}{σ:St}{p:PV}{v:V}(i:Nat)(r:SR W H0 env σ G H)(h:Rep W G p v):SR W H0 (env.set i (.val p)) (σ.set i (some v)) G H where
 len:=by simpa using r.len
 sub:=r.sub
 tab:=r.tab
 ia:=r.ia
 base:=r.base
 slot:=λj s e=>by
  by_cases hj:i=j
  ·subst hj;have bB:i<env.length:=by
    have:=(zzH.mp e).1
    simpa using this
   rw [zzo bB] at e;cases e;exact⟨some v,zzo (by rw [<-r.len];exact bB),v,rfl,h⟩
  ·rw [zzS hj] at e;obtain⟨o,h1,h2⟩:=r.slot j s e
   exact⟨o,by rw [zzS hj];exact h1,h2⟩
 apart:=λa b q q' ad e1 e2 e3 e4=>by
  have ne:∀{c:Nat} {q:PV},(env.set i (.val p))[c]?=some (.own q)->i≠c:=λ{c q} e z=>by
   subst z;have bB:i<env.length:=by
    have:=(zzH.mp e).1
    simpa using this
   rw [zzo bB] at e;cases e
  have n1:=ne e1
  have n2:=ne e2
  rw [zzS n1] at e1 e3;rw [zzS n2] at e2 e4;exact r.apart a b q q' ad e1 e2 e3 e4
noncomputable def gT(K:zz8):Tg->TG
 |.one i=>cH i
 |.two i j=>CK K 2 (fR (cH i) (fR (cH j) Ax))
 |.three i j l=>CK K 3 (fR (cH i) (fR (cH j) (fR (cH l) Ax)))
 |.four i j l m=>CK K 4 (fR (cH i) (fR (cH j) (fR (cH l) (fR (cH m) Ax))))
def qo{K:zz8}(hK:W.K=K){tg:Tg}{H0 G H:Hp}{env env':Sl}{σ:St}{p:PV}{v:V}{Q:St->Hp->Prop}(e:Tg.put tg p env=.ok env')(r:SR W H0 env σ G H)(h:Rep W G p v)(hq:∀σ',SR W H0 env' σ' G H->Q σ' H):gT K tg v σ H Q:=by
 unfold Tg.put at e;split at e
 ·cases e;exact hq _ (r.set _ h)
 ·cases e;simp! [Rep] at h;obtain⟨a,vs,rfl,sq,l⟩:=h
  obtain⟨v1,r1,rfl,h1,l⟩:=l.aF
  obtain⟨v2,r2,rfl,h2,l⟩:=l.aF
  simp! [ai] at l;subst l;rw [hK] at sq;exact⟨a,_,rfl,az.tup r.sub sq.sq,rfl,_,_,rfl,_,_,rfl,rfl,hq _ ((r.set _ h1).set _ h2)⟩
 ·cases e;simp! [Rep] at h;obtain⟨a,vs,rfl,sq,l⟩:=h
  obtain⟨v1,r1,rfl,h1,l⟩:=l.aF
  obtain⟨v2,r2,rfl,h2,l⟩:=l.aF
  obtain⟨v3,r3,rfl,h3,l⟩:=l.aF
  simp! [ai] at l;subst l;rw [hK] at sq;exact⟨a,_,rfl,az.tup r.sub sq.sq,rfl,_,_,rfl,_,_,rfl,_,_,rfl,rfl,hq _ (((r.set _ h1).set _ h2).set _ h3)⟩
 ·cases e;simp! [Rep] at h;obtain⟨a,vs,rfl,sq,l⟩:=h
  obtain⟨v1,r1,rfl,h1,l⟩:=l.aF
  obtain⟨v2,r2,rfl,h2,l⟩:=l.aF
  obtain⟨v3,r3,rfl,h3,l⟩:=l.aF
  obtain⟨v4,r4,rfl,h4,l⟩:=l.aF
  simp! [ai] at l;subst l;rw [hK] at sq;exact⟨a,_,rfl,az.tup r.sub sq.sq,rfl,_,_,rfl,_,_,rfl,_,_,rfl,_,_,rfl,rfl,hq _ ((((r.set _ h1).set _ h2).set _ h3).set _ h4)⟩
 ·cases e
def sM{x:Str}(cK:X.env.scope=sc)(h:dH sc x=true):Loc X.env.scope x:=by
 rw [cK];unfold dH at h;simp! [zzt,zzy] at h;exact h
def F5{fn:Str->Bool}{i:Nat}{p:Expr}(hN:X.N=N)(nd:N.Nodup)(cK:X.env.scope=sc)(j5:∀x,fn x=true->X.fn x=true)(h:Uu N sc fn i p=true):PG X p (cH i)/\∃x q,p=.Name x q:=by
 obtain⟨x,hx,h2⟩:=ah h
 obtain⟨q,rfl⟩:=bE hx
 simp! [zza,zzy,zzt] at h2;refine⟨Ds (by rw [hN];exact nd) (by rw [hN];exact h2.1.1) (sM cK h2.1.2) ?_,x,q,rfl⟩;rcases h2.2 with z|z
 ·exact .inl (j5 x z)
 ·exact .inr (by rw [cK];exact z)
def W4:List Nat->FW
 |[]=>Ax
 |i::is=>fR (cH i) (W4 is)
theorem o6{fn:Str->Bool}(hN:X.N=N)(nd:N.Nodup)(cK:X.env.scope=sc)(j5:∀x,fn x=true->X.fn x=true):∀(is:List Nat) (es:List Expr),yd N sc fn is es=true->Rr X es (W4 is)/\(assignEach es X.env).length=is.length/\(assignEach es X.env).findIdx? (·.1)=none
 |[],[],_=>⟨vb,rfl,rfl⟩
 |i::is,a::as,h=>by
  have h:=aw h
  obtain⟨g1,x,p,rfl⟩:=F5 hN nd cK j5 h.1
  obtain⟨g,l,f⟩:=o6 hN nd cK j5 is as h.2
  have e:assignEach (.Name x p::as) X.env=(false,assign (.Name x p) X.env)::assignEach as X.env:=rfl
  refine⟨me g1 g,by rw [e,zzL,l,zzL],?_⟩;rw [e,List.findIdx?_cons,f]
  rfl
 |[],_::_,h=>aM h
 |_::_,[],h=>aM h
def xC{fn:Str->Bool}{tg:Tg}{p:Expr}(hN:X.N=N)(nd:N.Nodup)(cK:X.env.scope=sc)(hc:X.calm=true)(j5:∀x,fn x=true->X.fn x=true)(h:fv N sc fn tg p=true):PG X p (gT X.K tg):=by
 cases tg with
 |one i=>exact(F5 hN nd cK j5 h).1
 |two i j=>
  obtain⟨es,h1,h2⟩:=ah h
  obtain⟨k,q,rfl⟩:=i9 h1
  obtain⟨g,l,f⟩:=o6 hN nd cK j5 _ _ h2
  exact oP hc g l f
 |three i j l=>
  obtain⟨es,h1,h2⟩:=ah h
  obtain⟨k,q,rfl⟩:=i9 h1
  obtain⟨g,l,f⟩:=o6 hN nd cK j5 _ _ h2
  exact oP hc g l f
 |four i j l m=>
  obtain⟨es,h1,h2⟩:=ah h
  obtain⟨k,q,rfl⟩:=i9 h1
  obtain⟨g,l,f⟩:=o6 hN nd cK j5 _ _ h2
  exact oP hc g l f
def kc(W:Wd)(J:It)(G B:Hp)(ps:List PV):Prop:=∀(i:Nat) (G' H':Hp),az G G'->fM B H'->az G' H'->
 (i=ps.length->J.stop i H')/\∀p,ps[i]?=some p->J.go i H'/\∀x kJ,J.JM i H' x kJ->∃vL,aD W G' H' vL kJ/\Rep W vL p x
structure Ny(W:Wd)(G H:Hp)(it:I)(J:It)(ps:List PV):Prop where
 any:kc W J G H ps
 bt:EN it=true->kc W J G G ps
noncomputable def tI(X:Cx)(W:Wd)(F:bj)(it:I):TI:=λσ H R=>∃H0 G env,SR W H0 env σ G H/\Out X W (ya F it env) σ G H λps=>∀J G' H',aD W G H G' H'->Ny W G' H' it J ps->R J H'
abbrev GI(X:Cx)(W:Wd)(F:bj)(tg:Expr)(it:I)(p:Expr):Prop:=PI X tg p (tI X W F it)
theorem vh(hK:W.K=X.K){G B:Hp}{a:Addr}{vs:List V}{ps:List PV}(h:nB W.K B a vs)(l:ai W G ps vs):kc W (Ti X.K a) G B ps:=λi G' H' sG sB sub=>by
 have hq:df X.K H' a vs:=iU hK (fM.ls sB h)
 refine⟨λhi=>⟨vs,hq,by rw [l.length];omega⟩,λp hp=>?_⟩
 obtain⟨v,hv,rv⟩:=l.mR hp
 refine⟨⟨vs,v,hq,hv⟩,λx kJ hy=>?_⟩
 obtain⟨rfl,hy⟩:=hy
 have:=hy vs hq
 rw [hv] at this;cases this;exact⟨G',.refl sub,Rep.same sG p rv⟩
theorem ze{K:zz8}{G B:Hp}{a:Addr}{vs:List V}{ps:List PV}(h:dI K B a vs)(l:ai W G ps vs):kc W (SS K a) G B ps:=λi G' H' sG sB sub=>by
 have hq:dI K H' a vs:=fM.tup sB h
 refine⟨λhi=>⟨vs,hq,by rw [l.length];omega⟩,λp hp=>?_⟩
 obtain⟨v,hv,rv⟩:=l.mR hp
 refine⟨⟨vs,v,hq,hv⟩,λx kJ hy=>?_⟩
 obtain⟨rfl,hy⟩:=hy
 have:=hy vs hq
 rw [hv] at this;cases this;exact⟨G',.refl sub,Rep.same sG p rv⟩
def yY{G B:Hp}{a:Addr}{o:Obj}{ks:List (List Int)}{us:List V}(n:ks.length=us.length)(h:B a=some (.bt o (.dT (kz ks us)))):kc W (Tw a o (kz ks us)) G B (ks.map pN):=λi G' H' sG sB sub=>by
 have hq:H' a=some (.bt o (.dT (kz ks us))):=sB.at h (λ_ z=>nomatch z)
 refine⟨λhi=>⟨hq,by rw [eX n];rw [zzl] at hi;omega⟩,λp hp=>?_⟩
 rw [zzQ] at hp;obtain⟨k,hk,rfl⟩:=zzJ.mp hp
 have hi:i<ks.length:=(zzH.mp hk).1
 refine⟨⟨hq,by rw [eX n];exact hi⟩,λx kJ hy=>?_⟩
 obtain⟨rfl,b,k',v,rfl,e2,e3⟩:=hy
 have ek:k'=ki k:=by
  have:=congrArg (λl=>l[i]?) (oR (us:=us) n)
  simp! [zzQ,e2,hk,Option.map_some] at this;exact zzq this
 rw [ek,m8] at e3;obtain⟨G2,g2,l2⟩:=gN (W:=W) (vs:=[.ref b]) (nss:=[k]) sub (.cons ⟨b,rfl,e3⟩ .nil)
 obtain⟨w,r,ew,hw,_⟩:=l2.aF
 cases ew;exact⟨G2,g2,hw⟩
def oI{z:Str}{i:Nat}{p:PV}(h:(chars z)[i]?=some p):∃c,z.cps[i]?=some c/\p=.str ⟨#[c]⟩:=by
 unfold chars at h;rw [zzQ] at h;obtain⟨c,hc,rfl⟩:=zzJ.mp h
 rw [Array.getElem?_toList] at hc;exact⟨c,hc,rfl⟩
def nJ(z:Str):(chars z).length=z.cps.size:=by unfold chars;rw [zzl,zzd]
theorem Bs{G B:Hp}(z:Str):kc W (RU z) G B (chars z):=λi G' H' sG sB sub=>by
 refine⟨λhi=>by rw [nJ] at hi;exact Nat.le_of_eq hi.symm,λp hp=>?_⟩
 obtain⟨c,hc,rfl⟩:=oI hp
 refine⟨(Array.getElem?_eq_some_iff.mp hc).1,λx kJ hy=>?_⟩
 obtain⟨rfl,c',fE,rfl⟩:=hy
 rw [hc] at fE;cases fE;exact⟨G',.refl sub,.s⟩
theorem qd{G B:Hp}(lo:Int)(n:Nat):kc W (Q6 lo n) G B (qS lo n):=λi G' H' sG sB sub=>by
 unfold qS;refine⟨λhi=>by rw [zzl,List.length_range] at hi;exact Nat.le_of_eq hi.symm,λp hp=>?_⟩
 rw [zzQ] at hp;obtain⟨c,hc,rfl⟩:=zzJ.mp hp
 obtain⟨h1,h2⟩:=zzH.mp hc
 rw [List.length_range] at h1;rw [List.getElem_range] at h2;subst h2;refine⟨h1,λx kJ hy=>?_⟩
 obtain⟨rfl,rfl⟩:=hy
 exact⟨G',.refl sub,.i⟩
def lQ{G H:Hp}{p q:PV}{v u:V}{a:Addr}(sub:az G H)(ha:H a=none)(h1:Rep W G p v)(h2:Rep W G q u):∃vL,aD W G H vL (upd H a (.tup [v,u]))/\Rep W vL (.tup [p,q]) (.ref a):=
 ⟨_,.new sub ha,.t (.inl aj) (ai.same (aY (sub.free ha)) _ (.cons h1 (.cons h2 .nil)))⟩
theorem jc:∀{xs:List PV} {n i:Nat} {p:PV},(fX n xs)[i]?=some p->∃x,xs[i]?=some x/\p=.tup [.int ((n+i:Nat):Int),x]
 |[],_,_,_,h=>by simp [fX] at h
 |x::xs,n,0,p,h=>by simp [fX] at h;exact⟨x,rfl,by rw [<-h];simp⟩
 |x::xs,n,i+1,p,h=>by
  simp! [fX,List.getElem?_cons_succ] at h;obtain⟨y,h1,h2⟩:=jc h
  exact⟨y,by simpa using h1,by rw [h2,show n+1+i=n+(i+1) by omega]⟩
theorem iZ:∀(xs:List PV) (n:Nat),(fX n xs).length=xs.length
 |[],_=>rfl
 |_::xs,n=>by simp! [fX,zzL,iZ xs]
theorem qI{K:zz8}{G B:Hp}{a:Addr}{vs:List V}{ps:List PV}(h:dI K B a vs)(l:ai W G ps vs):kc W (UG K a vs) G B (fX 0 ps):=λi G' H' sG sB sub=>by
 have hq:dI K H' a vs:=fM.tup sB h
 refine⟨λhi=>⟨hq,by rw [iZ] at hi;rw [l.length];exact hi⟩,λp hp=>?_⟩
 obtain⟨x,hx,rfl⟩:=jc hp
 obtain⟨v,hv,rv⟩:=l.mR hx
 refine⟨⟨hq,(zzH.mp hv).1⟩,λy kJ hy=>?_⟩
 obtain⟨b,x',rfl,hb,rfl,x9⟩:=hy
 rw [hv] at x9;cases x9;rw [Nat.zero_add];exact lQ sub hb .i (Rep.same sG x rv)
theorem mG(hK:W.K=X.K){G B:Hp}{a:Addr}{vs:List V}{ps:List PV}(h:nB W.K B a vs)(l:ai W G ps vs):kc W (Mp X.K a vs) G B (fX 0 ps):=λi G' H' sG sB sub=>by
 have hq:df X.K H' a vs:=iU hK (fM.ls sB h)
 refine⟨λhi=>⟨hq,by rw [iZ] at hi;rw [l.length];exact hi⟩,λp hp=>?_⟩
 obtain⟨x,hx,rfl⟩:=jc hp
 obtain⟨v,hv,rv⟩:=l.mR hx
 refine⟨⟨hq,(zzH.mp hv).1⟩,λy kJ hy=>?_⟩
 obtain⟨b,x',rfl,hb,rfl,x9⟩:=hy
 rw [hv] at x9;cases x9;rw [Nat.zero_add];exact lQ sub hb .i (Rep.same sG x rv)
theorem qL{G B:Hp}(z:Str):kc W (RX z) G B (fX 0 (chars z)):=λi G' H' sG sB sub=>by
 refine⟨λhi=>by rw [iZ,nJ] at hi;exact hi,λp hp=>?_⟩
 obtain⟨x,hx,rfl⟩:=jc hp
 obtain⟨c,hc,rfl⟩:=oI hx
 refine⟨(Array.getElem?_eq_some_iff.mp hc).1,λy kJ hy=>?_⟩
 obtain⟨b,c',rfl,hb,rfl,fE⟩:=hy
 rw [hc] at fE;cases fE;rw [Nat.zero_add];exact lQ sub hb .i .s
def Uy(W:Wd)(G:Hp)(t:Zt)(xs:List PV):Prop:=(if t.1=true then nB W.K G t.2.1 t.2.2 else OJ W.K G t.2.1 t.2.2)/\ai W G xs t.2.2
theorem yq{G:Hp}:∀{ps:List PV} {vs:List V} {xss:List (List PV)},ai W G ps vs->oD ps=some xss->∃ts:List Zt,vs=ts.map (λt=>V.ref t.2.1)/\Paired (Uy W G) ts xss
 |[],vs,xss,l,h=>by
  simp! [ai] at l;subst l;cases h;exact⟨[],rfl,.nil⟩
 |p::ps,vs,xss,l,h=>by
  obtain⟨v,r,rfl,h1,h2⟩:=l.aF
  obtain⟨xs,e1,h⟩:=zzZ.1 (show(La p).bind (λxs=>(oD ps).map (xs::·))=some xss from h)
  obtain⟨yss,e2,rfl⟩:=zzJ.1 h
  obtain⟨ts,rfl,pd⟩:=yq h2 e2
  cases p with
  |lst ys=>
   cases e1;simp! [Rep] at h1;obtain⟨a,us,rfl,k,m⟩:=h1
   exact⟨(true,a,us)::ts,rfl,.cons ⟨k,m⟩ pd⟩
  |tup ys=>
   cases e1;simp! [Rep] at h1;obtain⟨a,us,rfl,k,m⟩:=h1
   exact⟨(false,a,us)::ts,rfl,.cons ⟨k,m⟩ pd⟩
  |_=>cases e1
theorem vP:∀{xss:List (List PV)},∀xs∈xss,nj xss<=xs.length
 |[xs],ys,h=>by rw [zzi.1 h];exact zzE _
 |xs::y::r,ys,h=>by
  show min xs.length (nj (y::r))<=_
  rcases zzm.1 h with rfl|h
  ·exact Nat.min_le_left ..
  ·exact zzU (Nat.min_le_right ..) (vP ys h)
theorem vm:∀{xss:List (List PV)},xss≠[]->∃xs∈xss,xs.length=nj xss
 |[xs],_=>⟨xs,zzi.2 rfl,rfl⟩
 |xs::y::r,_=>by
  show∃zs∈xs::y::r,zs.length=min xs.length (nj (y::r))
  rcases Nat.le_total xs.length (nj (y::r)) with h|h
  ·exact⟨xs,zzP ..,(Nat.min_eq_left h).symm⟩
  ·obtain⟨zs,h1,h2⟩:=vm (xss:=y::r) (List.cons_ne_nil _ _)
   exact⟨zs,zzI _ h1,by rw [h2,Nat.min_eq_right h]⟩
theorem uT{G:Hp}{i:Nat}:∀{ts:List Zt} {xss:List (List PV)} {ys:List V},Paired (Uy W G) ts xss->Paired (λ(q:Zt) y=>q.2.2[i]?=some y) ts ys->ai W G (xss.map λxs=>xs.getD i .aK) ys
 |_,_,_,.nil,.nil=>.nil
 |_,_,_,.cons r t,.cons u v=>by
  obtain⟨p,hp,rp⟩:=r.2.get u
  refine .cons ?_ (uT t v);dsimp only;rw [zzK,hp];exact rp
def Ae(hK:W.K=X.K){G B:Hp}{ts:List Zt}{xss:List (List PV)}(hn:ts≠[])(h:Paired (Uy W G) ts xss)(hB:az G B):kc W (U4 X.K ts) G B (xf xss):=λi G' H' sG sB sub=>by
 have sq:∀t∈ts,Zq X.K H' t:=λt ht=>by
  obtain⟨xs,_,r⟩:=eE h t ht
  have:=r.1
  unfold Zq;split
  ·rename_i e;rw [if_pos e] at this;exact iU hK (az.ls (λa o z=>sub a o (sG a o z)) this)
  ·rename_i e;rw [if_neg e] at this;exact hK▸az.tup (λa o z=>sub a o (sG a o z)) this.sq
 have len:∀t∈ts,nj xss<=t.2.2.length:=λt ht=>by
  obtain⟨xs,h1,r⟩:=eE h t ht
  rw [r.2.length];exact vP xs h1
 have zl:(xf xss).length=nj xss:=by simp [xf]
 refine⟨λhi=>?_,λp hp=>?_⟩
 ·rw [zl] at hi;subst hi;refine⟨λt ht=>⟨sq t ht,len t ht⟩,?_⟩
  have hx:xss≠[]:=λz=>by subst z;cases h;exact hn rfl
  obtain⟨xs,h1,h2⟩:=vm hx
  obtain⟨t,ht,r⟩:=bU h xs h1
  exact⟨t,ht,by rw [r.2.length,h2]⟩
 ·have hi:i<nj xss:=by rw [<-zl];exact(zzH.1 hp).1
  have O3:p=.tup (xss.map λxs=>xs.getD i .aK):=by
   unfold xf at hp;rw [zzQ,List.getElem?_range hi] at hp;exact(zzq hp).symm
  refine⟨λt ht=>⟨sq t ht,zzW hi (len t ht)⟩,λx kJ hy=>?_⟩
  obtain⟨a,ys,rfl,ha,rfl,py⟩:=hy
  subst O3;refine⟨_,.new sub ha,.t (.inl aj) (ai.same (aY (sub.free ha)) _ (ai.same sG _ (uT h py)))⟩
theorem Bk(hK:W.K=X.K){G B:Hp}{a:Addr}{vs:List V}{ps:List PV}(h:nB W.K B a vs)(l:ai W G ps vs):kc W (SV X.K a vs) G B ps.reverse:=λi G' H' sG sB sub=>by
 have hq:df X.K H' a vs:=iU hK (fM.ls sB h)
 refine⟨λhi=>⟨hq,by rw [hi,List.length_reverse,l.length]⟩,λp hp=>?_⟩
 have hi:=(zzH.1 hp).1
 rw [List.length_reverse] at hi;refine⟨⟨hq,by rw [l.length];exact hi⟩,λx kJ hy=>?_⟩
 obtain⟨rfl,hy⟩:=hy
 obtain⟨q,m7,rq⟩:=l.get hy
 rw [List.getElem?_reverse hi,<-l.length,m7] at hp;cases hp;exact⟨G',.refl sub,Rep.same sG _ rq⟩
def dF{e:E}{σ:St}{H0 G H:Hp}{env:Sl}{Q:VK}{p:PV}(sr:SR W H0 env σ G H)(e1:aE F e env=.ok p)(h:∀v G1 H1,aD W G H G1 H1->Got W H0 G1 H1 e p v->Q v H1):tE X W F e σ H Q:=⟨H0,G,env,sr,by rw [e1];exact h⟩
def BK{e:E}{σ:St}{H0 G H:Hp}{env:Sl}{Q:VK}{c:Str}(sr:SR W H0 env σ G H)(e1:aE F e env=.exc c)(h:rB X W σ c G H):tE X W F e σ H Q:=⟨H0,G,env,sr,by rw [e1];exact h⟩
def K4(C:cy Γ F W N sc k X){tg p:Expr}{e:E}(he:GE X W F e p):GI X W F tg (.seq e) p:=by
 intro aa s σ H R I h;obtain⟨H0,G,env,sr,o⟩:=h
 rw [ya] at o;cases r:aE F e env with
 |bad=>rw [r] at o;exact o.elim
 |exc c=>rw [r] at o;exact uZ he aa s σ H R I (BK sr r o)
 |ok q=>
  rw [r] at o;cases q with
  |lst xs=>
   refine uZ he aa s σ H R I (dF sr r λv G1 H1 g1 t=>?_);have t':=t
   obtain⟨a,vs,rfl,h1,l1⟩:=t.top.lst g1.sub
   refine⟨a,rfl,⟨vs,iU C.K h1⟩,o _ G1 H1 g1 ⟨vh C.K h1 l1,λz=>?_⟩⟩
   have rp:=t'.rep z
   simp! [Rep] at rp;obtain⟨a',vs',e1,h2,l2⟩:=rp
   cases e1;exact vh C.K h2 l2
  |tup xs=>
   refine Kg he aa s σ H R I (dF sr r λv G1 H1 g1 t=>?_);have t':=t
   obtain⟨a,vs,rfl,h1,l1⟩:=t.top.tup g1.sub
   rw [C.K] at h1;refine⟨a,rfl,⟨vs,h1⟩,o _ G1 H1 g1 ⟨ze h1 l1,λz=>?_⟩⟩
   have rp:=t'.rep z
   simp! [Rep] at rp;obtain⟨a',vs',e1,h2,l2⟩:=rp
   cases e1;rw [C.K] at h2;exact ze h2.sq l2
  |str z=>exact Lq he aa s σ H R I (dF sr r λv G1 H1 g1 t=>⟨z,t.top.str,o _ G1 H1 g1 ⟨Bs z,λ_=>Bs z⟩⟩)
  |int _=>exact zzk o
  |bl _=>exact zzk o
  |aK=>exact zzk o
  |exc _=>exact zzk o
  |bM ks qs=>
   by_cases Hk:eR e=true
   ·have YB:BO e (.bM ks qs)=.ok (ks.map pN):=by
     cases e<;>first|rfl|exact aM Hk
    have o2:Out X W (BO e (.bM ks qs)) σ G H λps=>∀(J:It) (G' H':Hp),aD W G H G' H'->Ny W G' H' (Ci.I.seq e) J ps->R J H':=o
    rw [YB] at o2;refine JB he aa s σ H R I (dF sr r λv G1 H1 g1 t=>?_);have rp:=t.rep Hk
    simp! [Rep] at rp;obtain⟨a,ob,us,rfl,n,h1,l1⟩:=rp
    exact⟨a,ob,_,rfl,g1.sub _ _ h1,o2 _ G1 H1 g1 ⟨yY n (g1.sub _ _ h1),λ_=>yY n h1⟩⟩
   ·have:∃i,e=.kP i:=by
     cases e<;>first|exact⟨_,rfl⟩|exact absurd rfl Hk
    obtain⟨i,rfl⟩:=this
    exact zzk o
def cW{i:Int}(h:bS i=true): -(2^62)<=i/\i<2^62:=by
 unfold bS at h
 simpa using h
def MG(C:cy Γ F W N sc k X){tg p:Expr}{e:E}{np pos:Pos}(hg:eC sc "range"=true)(hb:Γ.bs.contains "range"=true)(cL:∀env ps,starEach (p::ps) env=(false,eval p env)::starEach ps env)(he:GE X W F e p):GI X W F tg (.mi e) (.Call (.Name "range" np) [p] [] pos):=by
 intro aa s σ H R I h;refine xP (cm C hg) (C.bs _ (zzn.mp hb)) (ba he bP (cL _ _)) (cL _ _) aa s σ H R I ?_;obtain⟨H0,G,env,sr,o⟩:=h
 rw [ya] at o;refine one sr o λq v G1 H1 g1 t aQ o1=>?_
 cases q with
 |int j=>
  by_cases hj:bS j=true
  ·have o2:Out X W (if bS j=true then Res.ok (qS 0 j.toNat) else .bad) σ G1 H1 _:=o1
   rw [if_pos hj] at o2;exact⟨j,by rw [t.top.int],(cW hj).1,(cW hj).2,o2 _ G1 H1 g1 ⟨qd _ _,λ_=>qd _ _⟩⟩
  ·have o2:Out X W (if bS j=true then Res.ok (qS 0 j.toNat) else .bad) σ G1 H1 _:=o1
   rw [if_neg hj] at o2;exact o2.elim
 |bl _=>exact zzk o1
 |aK=>exact zzk o1
 |str _=>exact zzk o1
 |tup _=>exact zzk o1
 |lst _=>exact zzk o1
 |exc _=>exact zzk o1
 |bM _ _=>exact zzk o1
def Cn(C:cy Γ F W N sc k X){tg p q:Expr}{a b:E}{np pos:Pos}(hg:eC sc "range"=true)(hb:Γ.bs.contains "range"=true)(cL:∀env ps,starEach (p::ps) env=(false,eval p env)::starEach ps env)(Jf:∀env ps,starEach (q::ps) env=(false,eval q env)::starEach ps env)
 (ha:GE X W F a p) (iR:GE X W F b q):GI X W F tg (.sj a b) (.Call (.Name "range" np) [p,q] [] pos):=by
 intro aa s σ H R I h;refine xr (cm C hg) (C.bs _ (zzn.mp hb)) (ba ha (ba iR bP (Jf _ _)) (cL _ _)) (by rw [cL,Jf];rfl) (Jf _ _) aa s σ H R I ?_;obtain⟨H0,G,env,sr,o⟩:=h
 rw [ya] at o;refine one sr o λx v G1 H1 g1 t aQ o1=>one aQ o1 λy u G2 H2 g2 t2 c0 o2=>?_
 cases x<;>cases y<;>first
  |(exact zzk o2)
  | (rename_i i j
     by_cases hj:(bS i&&bS j)=true
     ·have o3:Out X W (if(bS i&&bS j)=true then Res.ok (qS i (j-i).toNat) else .bad) σ G2 H2 _:=o2
      rw [if_pos hj] at o3;rw [zza] at hj;exact⟨i,j,by rw [t.top.int,t2.top.int],⟨(cW hj.1).1,(cW hj.1).2,(cW hj.2).1,(cW hj.2).2⟩,o3 _ G2 H2 (g1.trans g2) ⟨qd _ _,λ_=>qd _ _⟩⟩
     ·have o3:Out X W (if(bS i&&bS j)=true then Res.ok (qS i (j-i).toNat) else .bad) σ G2 H2 _:=o2
      rw [if_neg hj] at o3;exact o3.elim)
def Cm(C:cy Γ F W N sc k X){elts:List Expr}{x1:Nat}{kb:Pos}{p:Expr}{e:E}{np pos:Pos}(hg:eC sc "enumerate"=true)(hb:Γ.bs.contains "enumerate"=true)(cL:∀env ps,starEach (p::ps) env=(false,eval p env)::starEach ps env)(he:GE X W F e p):
 GI X W F (.Tuple elts x1 kb) (.enum e) (.Call (.Name "enumerate" np) [p] [] pos):=by
 intro aa s σ H R I h;have ra:=cm C hg
 have pX:=C.bs _ (zzn.mp hb)
 have pa:=ba he bP (cL _ _)
 obtain⟨H0,G,env,sr,o⟩:=h
 rw [ya] at o;cases r:aE F e env with
 |bad=>rw [r] at o;exact o.elim
 |exc c=>rw [r] at o;exact qV ra pX pa (cL _ _) aa s σ H R I (BK sr r o)
 |ok q=>
  rw [r] at o;cases q with
  |lst xs=>
   refine qV ra pX pa (cL _ _) aa s σ H R I (dF sr r λv G1 H1 g1 t=>?_)
   by_cases hz:eR e=true
   ·have rp:=t.rep hz
    simp! [Rep] at rp;obtain⟨a,vs,rfl,h2,l2⟩:=rp
    exact⟨a,vs,rfl,iU C.K (az.ls g1.sub h2),o _ G1 H1 g1 ⟨mG C.K (az.ls g1.sub h2) l2,λ_=>mG C.K h2 l2⟩⟩
   ·obtain⟨a,vs,rfl,h1,l1⟩:=t.top.lst g1.sub
    exact⟨a,vs,rfl,iU C.K h1,o _ G1 H1 g1 ⟨mG C.K h1 l1,λz=>absurd z hz⟩⟩
  |tup xs=>
   refine ye ra pX pa (cL _ _) aa s σ H R I (dF sr r λv G1 H1 g1 t=>?_);have t':=t.top
   rcases t' with rp|z
   ·simp! [Rep] at rp;obtain⟨a,vs,rfl,h2,l2⟩:=rp
    rw [C.K] at h2;exact⟨a,vs,rfl,az.tup g1.sub h2.sq,o _ G1 H1 g1 ⟨qI (az.tup g1.sub h2.sq) l2,λz=>qI h2.sq l2⟩⟩
   ·exact z.elim
  |str z=>exact Bo ra pX pa (cL _ _) aa s σ H R I (dF sr r λv G1 H1 g1 t=>⟨z,by rw [t.top.str],o _ G1 H1 g1 ⟨qL z,λ_=>qL z⟩⟩)
  |int _=>exact zzk o
  |bl _=>exact zzk o
  |aK=>exact zzk o
  |exc _=>exact zzk o
  |bM _ _=>exact zzk o
def Mi(C:cy Γ F W N sc k X){elts:List Expr}{x1:Nat}{kb:Pos}{p:Expr}{ps:List Expr}{as:Es}{np pos:Pos}(hg:eC sc "zip"=true)(hb:Γ.bs.contains "zip"=true)(sV:ee as=true)(hn:c7 as=2\/c7 as=3)(ha:GA X W F as (p::ps))
 (cL:starEach (p::ps) X.env=(false,eval p X.env)::starEach ps X.env) (hpl:(backTo pos (starEach ps X.env)).any (·.1)=false):GI X W F (.Tuple elts x1 kb) (.zip as) (.Call (.Name "zip" np) (p::ps) [] pos):=by
 intro aa s σ H R I h;refine EA (cm C hg) (C.bs _ (zzn.mp hb)) ha cL hpl aa s σ H R I ?_;obtain⟨H0,G,env,sr,o⟩:=h
 rw [ya] at o;refine⟨H0,G,env,sr,?_⟩;cases r:cb F as env with
 |bad=>rw [r] at o;exact o
 |exc c=>rw [r] at o;exact o
 |ok qs=>
  rw [r] at o;have hlen:=fO r
  intro vs G1 H1 g1 t;have l:=t.rep sV
  have o:Out X W ((Res.of (oD qs)).bind λxss=>.ok (xf xss)) σ G H λps=>∀J G' H',aD W G H G' H'->Ny W G' H' (.zip as) J ps->R J H':=o
  cases e:oD qs with
  |none=>rw [e] at o;exact zzk o
  |some xss=>
   rw [e] at o;obtain⟨ts,rfl,pd⟩:=yq l e
   have lt:ts.length=qs.length:=by have:=l.length;rwa [zzl] at this
   have iK:ts≠[]:=λz=>by subst z;simp at lt;omega
   refine⟨ts,rfl,by omega,λq hq=>?_,o _ G1 H1 g1 ⟨Ae C.K iK pd g1.sub,λ_=>Ae C.K iK pd (az.refl _)⟩⟩
   obtain⟨xs,_,r⟩:=eE pd q hq
   have:=r.1
   unfold Zq;split
   ·rename_i e;rw [if_pos e] at this;exact iU C.K (az.ls g1.sub this)
   ·rename_i e;rw [if_neg e] at this;exact C.K▸az.tup g1.sub this.sq
def Ky(C:cy Γ F W N sc k X){tg:Expr}{p:Expr}{e:E}{np pos:Pos}(hg:eC sc "reversed"=true)(hb:Γ.bs.contains "reversed"=true)(sV:eR e=true)(ha:GE X W F e p)(cL:∀env ps,starEach (p::ps) env=(false,eval p env)::starEach ps env):GI X W F tg (.wJ e) (.Call (.Name "reversed" np) [p] [] pos):=by
 intro aa s σ H R I h;refine Dj (cm C hg) (C.bs _ (zzn.mp hb)) (ba ha bP (cL _ _)) (cL _ _) aa s σ H R I ?_;obtain⟨H0,G,env,sr,o⟩:=h
 rw [ya] at o;refine one sr o λx v G1 H1 g1 t aQ o1=>?_
 cases x with
 |lst xs=>
  have rp:=t.rep sV
  simp! [Rep] at rp;obtain⟨a,vs,rfl,h1,l1⟩:=rp
  exact⟨a,vs,rfl,iU C.K (az.ls aQ.sub h1),o1 _ G1 H1 g1 ⟨Bk C.K (az.ls aQ.sub h1) l1,λ_=>Bk C.K h1 l1⟩⟩
 |_=>exact zzk o1
end
def xW{env:Env}{x:Str}{c:Addr}(h:env.cells.lookup x=some c):cellOf env x=pure c:=by
 unfold cellOf;rw [h]
def frees(names:List (Str×NameKind)):List Str:=((names.filter λp=>p.2==.free).map (·.1)).reverse
def iB{scope:Scope}{env:Env}(h:∀y∈scope.names,y.2=.free->∃c,env.cells.lookup y.1=some c):closureFor scope env=pure (bx env (freeOf scope)):=by
 simp! [closureFor];have key:∀(names:List (Str×NameKind)) (acc:List (Str×Addr)),(∀y∈names,y.2=.free->∃c,env.cells.lookup y.1=some c)->
  (forIn (m:=Sem) names acc λx r=>if(x.2==NameKind.free)=true then do
   let c<-cellOf env x.1
   pure (ForInStep.yield ((x.1,c)::r))
   else pure (ForInStep.yield r))=pure (bx env (frees names)++acc):=by
  intro names
  induction names with
  |nil=>intro acc _;rfl
  |cons p r ih=>
   intro acc hh;obtain⟨n,kd⟩:=p
   rw [List.forIn_cons]
   by_cases hk:(kd==NameKind.free)=true
   ·obtain⟨c,hc⟩:=hh (n,kd) (by simp) (zzy.mp hk)
    simp! [hk,if_true,xW hc,pure_bind];rw [ih ((n,c)::acc) λy hy=>hh y (zzI _ hy)]
    have e:frees ((n,kd)::r)=frees r++[n]:=by
     unfold frees;rw [zz3,if_pos hk,zzF,List.reverse_cons]
    rw [e];unfold bx;rw [List.map_append,zzF,List.map_nil,List.append_assoc];show _=pure (_++([(n,(env.cells.lookup n).getD 0)]++acc))
    rw [show env.cells.lookup n=some c from hc]
    rfl
   ·simp! [hk,zze,if_false,pure_bind];rw [ih acc λy hy=>hh y (zzI _ hy)]
    have e:frees ((n,kd)::r)=frees r:=by
     unfold frees;rw [zz3,if_neg hk]
    rw [e]
 have:=key scope.names [] h
 rw [zz6] at this;simp! [bind_pure_comp,map_pure,id_map',bind_pure];exact this
section
variable{X:Cx}{W:Wd}{N:List Str}{sc:Scope}
def eN{scope:Scope}(h:X.env.scope=sc):relabel scope X.env=cG scope sc:=by
 subst h
 rfl
structure lh(N:List Str)(sc scope:Scope)(kk:Nat)(bf:List Nat)(xs:List Str):Prop where
 kind:scope.kind=.function
 len:xs.length=kk
 nd:(xs++freeOf scope).Nodup
 Ov:(scope.names.all λy=>(decide (y.2≠.cell)||!(freeOf scope).contains y.1)&&(decide (y.2≠.free)||(freeOf scope).contains y.1))=true
 own:(scope.names.all λy=>decide (y.2≠.cell)||decide (scope.names.lookup y.1=some .cell))=true
 names:(scope.names.all λy=>decide (y.2≠.local)||decide (scope.names.lookup y.1=some .local))=true
 slots:bf.map (λi=>N[i]?)=(freeOf scope).map some
 kX:((freeOf scope).all λy=>decide (sc.names.lookup y=some .cell))=true
 kY:((freeOf scope).all λy=>decide ((cG scope sc).names.lookup y=some .cell))=true
def iW{scope:Scope}{kk:Nat}{bf:List Nat}{xs:List Str}(h:u0 N sc scope kk bf xs=true):lh N sc scope kk bf xs:=by
 unfold u0 at h;simp! [zza] at h;obtain⟨⟨⟨⟨⟨⟨⟨⟨h1,h2⟩,h3⟩,h4⟩,h9⟩,h5⟩,h6⟩,h7⟩,h8⟩:=h
 exact⟨zzy.mp h1,zzy.mp h2,zzY h3,h4,h9,h5,zzY h6,h7,h8⟩
def qa(hN:X.N=N)(cK:X.env.scope=sc)(ok:X.Ok){scope:Scope}{kk:Nat}{bf:List Nat}{xs:List Str}(h:lh N sc scope kk bf xs):er X scope xs (freeOf scope) bf:=by
 have dg:∀y∈freeOf scope,∃c,X.env.cells.lookup y=some c:=λy hy=>ok.has y (.inl (by
  have:=zzY (zzT.mp h.kX y hy)
  show X.env.scope.names.lookup y=_
  rw [cK];exact this))
 refine⟨h.kind,iB λy hy hf=>?_,zzT.mpr λy hy=>?_,h.Ov,h.own,h.names,by rw [hN];exact h.slots,zzT.mpr λy hy=>?_,?_⟩
 ·have c:=zzT.mp h.Ov y hy
  rw [zza,zzt,zzt] at c;rcases c.2 with z|z
  ·exact absurd hf (zzY z)
  ·exact dg _ (zzn.mp z)
 ·obtain⟨c,hc⟩:=dg y hy
  rw [hc];rfl
 ·have:=zzY (zzT.mp h.kX y hy)
  refine zzh ?_;show X.env.scope.names.lookup y=_
  rw [cK];exact this
 ·rw [eN cK];exact h.kY
theorem iF{f:PV->Res (Option PV)}{x:PV}:∀{xs:List PV},bI f (xs++[x])=(bI f xs).bind λys=>(f x).well.bind λo=>.ok (ys++o.toList)
 |[]=>by
  simp! [List.nil_append,bI,Res.bind];cases(f x).well with
  |ok o=>cases o<;>rfl
  |exc c=>rfl
  |bad=>rfl
 |y::xs=>by
  rw [List.cons_append];simp! [bI];rw [iF (xs:=xs)];cases(f y).well with
  |exc c=>rfl
  |bad=>rfl
  |ok o=>
   show(((bI f xs).bind λys=>(f x).well.bind λo=>.ok (ys++o.toList)).bind λys=>.ok (oc o ys))=((bI f xs).bind λys=>.ok (oc o ys)).bind λys=>(f x).well.bind λo=>.ok (ys++o.toList)
   cases bI f xs with
   |exc c=>rfl
   |bad=>rfl
   |ok zs=>
    show(((f x).well.bind λo=>.ok (zs++o.toList)).bind λys=>.ok (oc o ys))=(f x).well.bind λo2=>.ok ((oc o zs)++o2.toList)
    cases(f x).well with
    |exc c=>rfl
    |bad=>rfl
    |ok o2=>cases o<;>rfl
theorem lX{f:PV->Res (Option PV)}:∀{xs ys:List PV},bI f xs=.ok ys->∀i,∃zs,bI f (xs.take i)=.ok zs/\zs.length<=i
 |_,_,_,0=>⟨[],by simp [bI],zzE _⟩
 |[],ys,h,i+1=>⟨[],by simp [bI],Nat.zero_le _⟩
 |x::xs,ys,h,i+1=>by
  simp! [bI] at h;obtain⟨o,ho,h⟩:=Res.aP h
  obtain⟨zs,hz,h⟩:=Res.aP h
  obtain⟨ws,hw,hl⟩:=lX hz i
  refine⟨oc o ws,?_,?_⟩
  ·rw [List.take_succ_cons];simp! [bI];rw [ho];show((bI f (xs.take i)).bind λys=>.ok (oc o ys))=_
   rw [hw]
   rfl
  ·cases o with
   |none=>exact Nat.le_succ_of_le hl
   |some y=>exact Nat.succ_le_succ hl
def DJ{α:Type}{r:Res α}{a:α}(h:r.well=.ok a):r=.ok a:=by
 cases r with
 |ok b=>cases h;rfl
 |exc c=>cases h
 |bad=>cases h
def rS{f:PV->Res (Option PV)}{xs ys zs:List PV}{i:Nat}{x:PV}(h:bI f xs=.ok ys)(hx:xs[i]?=some x)(hz:bI f (xs.take i)=.ok zs):∃o,f x=.ok o/\bI f (xs.take (i+1))=.ok (zs++o.toList):=by
 have e:xs.take (i+1)=xs.take i++[x]:=by rw [List.take_add_one,hx];rfl
 obtain⟨ws,hw,_⟩:=lX h (i+1)
 rw [e,iF,hz] at hw;obtain⟨o,ho,hw⟩:=Res.aP (show((f x).well.bind λo=>Res.ok (zs++o.toList))=.ok ws from hw)
 refine⟨o,DJ ho,?_⟩;rw [e,iF,hz];show((f x).well.bind λo=>Res.ok (zs++o.toList))=_
 rw [ho]
 rfl
def rH{H0 G H:Hp}{env:Sl}{σ:St}{bf:List Nat}{ys:List Str}(kk:Nat)(sr:SR W H0 env σ G H)(hs:bf.map (λi=>N[i]?)=ys.map some)(nd:ys.Nodup):SR W H0 (List.replicate kk .no++j4 env bf) (List.replicate kk none++BH σ bf) G H:=by
 have Zp:∀(i j:Nat) (a:Nat),bf[i]?=some a->bf[j]?=some a->i=j:=λi j a h1 h2=>by
  have e1:(ys.map some)[i]?=some (N[a]?):=by rw [<-hs,zzQ,h1];rfl
  have e2:(ys.map some)[j]?=some (N[a]?):=by rw [<-hs,zzQ,h2];rfl
  rw [zzQ] at e1 e2;obtain⟨y1,g1,q1⟩:=zzJ.mp e1
  obtain⟨y2,g2,q2⟩:=zzJ.mp e2
  have:y1=y2:=zzq (q1.trans q2.symm)
  subst this;exact ja nd g1 g2
 have inner:∀(j:Nat) (s:Slot),(List.replicate kk Slot.no++j4 env bf)[j]?=some s->(j<kk/\s=.no)\/∃a,kk<=j/\bf[j-kk]?=some a/\s=env.getD a .no:=λj s e=>by
  by_cases hj:j<kk
  ·rw [zzr (by simpa using hj),List.getElem?_replicate,if_pos hj] at e;cases e;exact .inl ⟨hj,rfl⟩
  ·rw [zzs (by simpa using hj),List.length_replicate] at e;unfold j4 at e;rw [zzQ] at e;obtain⟨a,ha,rfl⟩:=zzJ.mp e
   exact .inr ⟨a,by omega,ha,rfl⟩
 have val:∀(j a:Nat),kk<=j->bf[j-kk]?=some a->(List.replicate kk none++BH σ bf)[j]?=some ((σ[a]?).join):=λj a hj ha=>by
  rw [zzs (by simpa using hj),List.length_replicate];unfold BH;rw [zzQ,ha]
  rfl
 refine⟨by unfold j4 BH;simp,sr.sub,sr.base,λj s e=>?_,λi j p q a e1 e2 e3 e4=>?_,sr.tab,sr.ia⟩
 ·rcases inner j s e with⟨hj,rfl⟩|⟨a,hj,ha,rfl⟩
  ·exact⟨none,by rw [zzr (by simpa using hj),List.getElem?_replicate,if_pos hj],trivial⟩
  ·refine⟨_,val j a hj ha,?_⟩;rw [zzK];cases e1:env[a]? with
   |none=>exact trivial
   |some s=>
    obtain⟨o,h1,h2⟩:=sr.slot a s e1
    rw [h1];exact h2
 ·rcases inner i _ e1 with⟨_,z⟩|⟨b,hi,hb,z1⟩
  ·cases z
  rcases inner j _ e2 with⟨_,z⟩|⟨c,hj,hc,z2⟩
  ·cases z
  rw [val i b hi hb] at e3;rw [val j c hj hc] at e4;have f1:env[b]?=some (.own p):=by
   rw [zzK] at z1;cases e:env[b]? with
   |none=>rw [e] at z1;cases z1
   |some s=>rw [e] at z1;exact congrArg some z1.symm
  have f2:env[c]?=some (.own q):=by
   rw [zzK] at z2;cases e:env[c]? with
   |none=>rw [e] at z2;cases z2
   |some s=>rw [e] at z2;exact congrArg some z2.symm
  have g1:σ[b]?=some (some (.ref a)):=Option.join_eq_some_iff.mp (zzq e3)
  have g2:σ[c]?=some (some (.ref a)):=Option.join_eq_some_iff.mp (zzq e4)
  have bc:=sr.apart b c p q a f1 f2 g1 g2
  subst bc;have:=Zp _ _ b hb hc
  omega
def jm{H0 G H:Hp}{kk:Nat}{rest env':Sl}{σ:St}{tg:Tg}{p:PV}(bB:js kk tg=true)(e:Tg.put tg p (List.replicate kk .no++rest)=.ok env')(r:SR W H0 env' σ G H):SR W H0 (List.replicate kk .no++rest) σ G H:=by
 have key:∀(j:Nat) (s:Slot),(List.replicate kk Slot.no++rest)[j]?=some s->s≠.no->env'[j]?=some s:=λj s h hs=>by
  have IJ:¬j<kk:=λz=>by
   rw [zzr (by simpa using z),List.getElem?_replicate,if_pos z] at h;cases h;exact hs rfl
  unfold Tg.put at e;split at e
  ·cases e;unfold js at bB;simp! [zzN] at bB;rw [zzS (by omega)];exact h
  ·cases e;unfold js at bB;simp! [zza,zzN] at bB;rw [zzS (by omega),zzS (by omega)];exact h
  ·cases e;unfold js at bB;simp! [zza,zzN] at bB;rw [zzS (by omega),zzS (by omega),zzS (by omega)];exact h
  ·cases e;unfold js at bB;simp! [zza,zzN] at bB;rw [zzS (by omega),zzS (by omega),zzS (by omega),zzS (by omega)];exact h
  ·cases e
 have hlen:(List.replicate kk Slot.no++rest).length=σ.length:=by
  rw [<-r.len];unfold Tg.put at e;split at e<;>first|(cases e;simp;done)|(cases e;done)
 refine⟨hlen,r.sub,r.base,λj s h=>?_,λi j p q a e1 e2 e3 e4=>r.apart i j p q a (key i _ e1 (λz=>nomatch z)) (key j _ e2 (λz=>nomatch z)) e3 e4,r.tab,r.ia⟩
 by_cases hs:s=.no
 ·subst hs;have:j<σ.length:=by rw [<-hlen];exact(zzH.mp h).1
  exact⟨σ[j],zzg this,trivial⟩
 ·exact r.slot j s (key j s h hs)
variable{Γ:Pg}{F:bj}{k:Nat}
noncomputable def tN(W:Wd)(F:bj)(e:E):TE:=λσ H Q=>∃H0 G env,SR W H0 env σ G H/\∃p,aE F e env=.ok p/\∀v G' H',aD W G H G' H'->Got W H0 G' H' e p v->Q v H'
noncomputable def RS(W:Wd)(F:bj)(e:E):TT:=λσ H Q=>∃H0 G env,SR W H0 env σ G H/\∃b,aE F e env=.ok (.bl b)/\∀G' H',aD W G H G' H'->Q b H'
def vf{e:E}(σ:St)(H:Hp)(Q:VK)(h:tN W F e σ H Q):tE X W F e σ H Q:=by
 obtain⟨H0,G,env,sr,p,e1,q⟩:=h
 exact⟨H0,G,env,sr,by rw [e1];exact q⟩
def zK{e:E}(σ:St)(H:Hp)(Q:Bool->Hp->Prop)(h:RS W F e σ H Q):tT X W F e σ H Q:=by
 obtain⟨H0,G,env,sr,p,e1,q⟩:=h
 exact⟨H0,G,env,sr,by rw [e1];exact⟨p,rfl,q⟩⟩
def eM(C:cy Γ F W N sc k X){scope:Scope}{kk:Nat}{bf:List Nat}{xs:List Str}(h:lh N sc scope kk bf xs)(fp:List Addr)(s1:Shared)(H1:Hp)(A:Addr):cy Γ.B0 F W (xs++freeOf scope) (cG scope sc) k (bH X (xs++freeOf scope) scope (bx X.env (freeOf scope)) fp s1 H1 A):=
 ⟨rfl,eN C.cK,rfl,h.nd,C.K,C.mg,C.gs,C.bs,C.room,λf hf=>⟨(C.fns f hf).ex⟩,C.O2,C.cls,C.xc,λq hq=>⟨(C.qr q hq).ex⟩,C.any,(λz=>nomatch z),(λz=>nomatch z),(λz=>nomatch z)⟩
def Iz{e:E}{p:Expr}(h:aR Γ N sc e p=true)(env:Env):∀x,foldedSetIterable p env x=pure x:=by
 intro x;cases p<;>first|rfl|(cases e<;>first|(exact aM h)|(rename_i q;cases q<;>exact aM h))
def i6{tg:Expr}{it:I}{p:Expr}(h:wm Γ N sc tg it p=true)(env:Env):∀x,foldedSetIterable p env x=pure x:=by
 intro x;cases it with
 |seq e=>exact Iz h env x
 |mi e=>cases p<;>first|rfl|(exact aM h)
 |sj a b=>cases p<;>first|rfl|(exact aM h)
 |enum e=>cases p<;>first|rfl|(exact aM h)
 |zip as=>cases p<;>first|rfl|(exact aM h)
 |wJ e=>cases p<;>first|rfl|(exact aM h)
def CW(W:Wd)(H0 G1 H1:Hp)(wO:Sl)(f:PV->Res (Option PV))(ps:List PV)(i:Nat)(ys:List V)(σ':St)(H':Hp):Prop:=
 i<=ps.length/\∃G',aD W G1 H1 G' H'/\SR W H0 wO σ' G' H'/\∃zs,bI f (ps.take i)=.ok zs/\zs.length<=i/\ai W G' zs ys
def vN(hK:W.K=X.K){kk:Nat}{bf:List Nat}{tg:Tg}{it:I}{elt:E}{ys:List Str}(bB:js kk tg=true)(cM:eR elt=true)(hs:bf.map (λi=>N[i]?)=ys.map some)(nd:ys.Nodup)(σ:St)(H:Hp)(Q:VK)(h:tF X W F (.comp kk bf tg it elt) σ H Q):
 zU (tI X W F it) kk (gT X.K tg) (tN W F elt) bf σ H Q:=by
 obtain⟨H0,G,env,sr,o⟩:=h
 rw [aE] at o;refine⟨H0,G,env,sr,o.bind.imp λps kq J G1 H1 g1 gi=>?_⟩
 by_cases qW:¬ps.length<mU
 ·rw [if_neg qW] at kq;exact kq.elim
 have hl:=Decidable.not_not.mp qW
 rw [if_pos hl] at kq;generalize hf:(λx=>(tg.put x (List.replicate kk .no++j4 env bf)).bind λenv'=>(aE F elt env').bind λy=>Res.ok (some y))=f at kq
 cases hc:bI f ps with
 |bad=>rw [hc] at kq;exact kq.elim
 |exc c=>
  exfalso
  have:∀(l:List PV) (c:Str),bI f l≠.exc c:=λl=>by
   induction l with
   |nil=>intro c z;cases z
   |cons a l ih=>
    intro c z;simp! [bI] at z;rcases Res.c9 z with z|⟨o1,_,z⟩
    ·cases e:f a with
     |ok _=>rw [e] at z;cases z
     |exc _=>rw [e] at z;cases z
     |bad=>rw [e] at z;cases z
    ·rcases Res.c9 z with z|⟨o2,_,z⟩
     ·exact ih c z
     ·cases z
  exact this _ _ hc
 |ok all=>
  rw [hc] at kq;obtain⟨xs,e1,fin⟩:=kq
  cases e1;have aQ:=sr.grow g1
  refine⟨ps.length,CW W H0 G1 H1 (List.replicate kk .no++j4 env bf) f ps,⟨Nat.zero_le _,G1,.refl g1.sub,rH kk aQ hs nd,[],rfl,zzE _,.nil⟩,?_⟩
  rintro i made σ' H' ⟨hi,G',g',sr',zs,hz,hzl,l⟩
  refine⟨by rw [l.length];exact zzV (zzU hzl hi) (zzW hl (by decide)),?_⟩;obtain⟨ist,igo⟩:=gi.any i G' H' g'.g g'.h g'.sub
  by_cases hlast:i=ps.length
  ·refine .inl ⟨ist hlast,λp hp=>?_⟩
   rw [hlast,List.take_length,hc] at hz;cases hz;exact fin p made G' H' (g1.trans g') hp l
  ·have ni:i<ps.length:=by omega
   obtain⟨hgo,hyld⟩:=igo ps[i] (zzg ni)
   refine .inr ⟨hgo,ni,λx kJ hy=>?_⟩
   obtain⟨vL,g'',rx⟩:=hyld x kJ hy
   obtain⟨o1,ho,hnext⟩:=rS hc (zzg ni) hz
   rw [<-hf] at ho;obtain⟨env',he',ho⟩:=Res.aP ho
   obtain⟨y,BJ,ho⟩:=Res.aP ho
   cases ho;refine qo hK he' (sr'.grow g'') rx λσ2 c0=>⟨H0,vL,env',c0,y,BJ,λv G3 H3 g3 t=>?_⟩
   refine⟨ni,G3,g'.trans (g''.trans g3),(jm bB he' c0).grow g3,_,hnext,?_,?_⟩
   ·rw [zzM];show zs.length+1<=i+1;omega
   ·exact(ai.same (g''.trans g3).g zs l).append (.cons (t.rep cM) .nil)
def nD(hK:W.K=X.K){kk:Nat}{bf:List Nat}{tg:Tg}{it:I}{c elt:E}{ys:List Str}(bB:js kk tg=true)(cM:eR elt=true)(hs:bf.map (λi=>N[i]?)=ys.map some)(nd:ys.Nodup)(σ:St)(H:Hp)(Q:VK)(h:tF X W F (.cx kk bf tg it c elt) σ H Q):
 kg (tI X W F it) kk (gT X.K tg) (RS W F c) (tN W F elt) bf σ H Q:=by
 obtain⟨H0,G,env,sr,o⟩:=h
 rw [aE] at o;refine⟨H0,G,env,sr,o.bind.imp λps kq J G1 H1 g1 gi=>?_⟩
 by_cases qW:¬ps.length<mU
 ·rw [if_neg qW] at kq;exact kq.elim
 have hl:=Decidable.not_not.mp qW
 rw [if_pos hl] at kq;generalize hf:(λx=>(tg.put x (List.replicate kk .no++j4 env bf)).bind λenv'=>(aE F c env').bind λt=>wy t λt=>if t then(aE F elt env').bind λy=>Res.ok (some y) else .ok none)=f at kq
 cases hc:bI f ps with
 |bad=>rw [hc] at kq;exact kq.elim
 |exc c=>
  exfalso
  have:∀(l:List PV) (c:Str),bI f l≠.exc c:=λl=>by
   induction l with
   |nil=>intro c z;cases z
   |cons a l ih=>
    intro c z;simp! [bI] at z;rcases Res.c9 z with z|⟨o1,_,z⟩
    ·cases e:f a with
     |ok _=>rw [e] at z;cases z
     |exc _=>rw [e] at z;cases z
     |bad=>rw [e] at z;cases z
    ·rcases Res.c9 z with z|⟨o2,_,z⟩
     ·exact ih c z
     ·cases z
  exact this _ _ hc
 |ok all=>
  rw [hc] at kq;obtain⟨xs,e1,fin⟩:=kq
  cases e1;have aQ:=sr.grow g1
  refine⟨ps.length,CW W H0 G1 H1 (List.replicate kk .no++j4 env bf) f ps,⟨Nat.zero_le _,G1,.refl g1.sub,rH kk aQ hs nd,[],rfl,zzE _,.nil⟩,?_⟩
  rintro i made σ' H' ⟨hi,G',g',sr',zs,hz,hzl,l⟩
  refine⟨by rw [l.length];exact zzV (zzU hzl hi) (zzW hl (by decide)),?_⟩;obtain⟨ist,igo⟩:=gi.any i G' H' g'.g g'.h g'.sub
  by_cases hlast:i=ps.length
  ·refine .inl ⟨ist hlast,λp hp=>?_⟩
   rw [hlast,List.take_length,hc] at hz;cases hz;exact fin p made G' H' (g1.trans g') hp l
  ·have ni:i<ps.length:=by omega
   obtain⟨hgo,hyld⟩:=igo ps[i] (zzg ni)
   refine .inr ⟨hgo,ni,λx kJ hy=>?_⟩
   obtain⟨vL,g'',rx⟩:=hyld x kJ hy
   obtain⟨o1,ho,hnext⟩:=rS hc (zzg ni) hz
   rw [<-hf] at ho;obtain⟨env',he',ho⟩:=Res.aP ho
   obtain⟨t,ht,ho⟩:=Res.aP ho
   obtain⟨b,rfl⟩:∃b,t=.bl b:=by
    cases t<;>first|exact⟨_,rfl⟩|(cases ho)
   refine qo hK he' (sr'.grow g'') rx λσ2 c0=>⟨H0,vL,env',c0,b,ht,λG3 H3 g3=>?_⟩
   have jl:(if b=true then(aE F elt env').bind λy=>Res.ok (some y) else .ok none)=Res.ok o1:=ho
   cases b with
   |true=>
    rw [if_pos rfl] at jl;refine UD ?_;obtain⟨y,BJ,jl⟩:=Res.aP jl
    cases jl;refine⟨H0,G3,env',c0.grow g3,y,BJ,λv G4 H4 g4 t4=>?_⟩
    refine⟨ni,G4,g'.trans (g''.trans (g3.trans g4)),(jm bB he' c0).grow (g3.trans g4),_,hnext,?_,?_⟩
    ·rw [zzM];show zs.length+1<=i+1;omega
    ·exact(ai.same (g''.trans (g3.trans g4)).g zs l).append (.cons (t4.rep cM) .nil)
   |false=>
    rw [if_neg zzf] at jl;refine UX ?_;cases jl;refine⟨ni,G3,g'.trans (g''.trans g3),(jm bB he' c0).grow g3,_,hnext,?_,?_⟩
    ·rw [zzM];show zs.length+0<=i+1;omega
    ·show ai W G3 (zs++[]) made
     rw [zz6];exact ai.same (g''.trans g3).g zs l
def u7(C:cy Γ F W N sc k X){kk:Nat}{bf:List Nat}{tg:Tg}{it:I}{elt:E}{bT fG eg:Expr}{scope:Scope}{pos:Pos}(h:lh N sc scope kk bf (aN bT))(bB:js kk tg=true)(cM:eR elt=true)(hi:GI X W F bT it fG)(qr:∀x,foldedSetIterable fG X.env x=pure x)
 (xl:fv (aN bT++freeOf scope) (cG scope sc) (lU scope) tg bT=true) (he:∀Y,cy Γ.B0 F W (aN bT++freeOf scope) (cG scope sc) k Y->GE Y W F elt eg):GF X W F (.comp kk bf tg it elt) (.ListComp eg [⟨bT,fG,[],0⟩] scope pos):=by
 intro aa s σ H Q I hq;have Ml:(freeOf scope).Nodup:=(List.nodup_append.mp h.nd).2.1
 have rd:=vN (N:=N) C.K bB cM h.slots Ml σ H Q hq
 have:=DO (g:=gT X.K tg) (te:=tN W F elt) (xs:=aN bT) (ys:=freeOf scope) (is:=bf) (pos:=pos) C.calm (qa C.hN C.cK I.ok h) hi
  (λfp s1 H1 A=>xC (fn:=lU scope) (X:=bH X (aN bT++freeOf scope) scope (bx X.env (freeOf scope)) fp s1 H1 A) rfl h.nd (eN C.cK) rfl (λ_ z=>z) xl)
  (λfp s1 H1 A=>L2.PE.imp (he _ (eM C h fp s1 H1 A)) λσ H Q z=>vf σ H Q z) qr aa s σ H Q I
 rw [h.len] at this;exact this rd
def oH(C:cy Γ F W N sc k X){kk:Nat}{bf:List Nat}{tg:Tg}{it:I}{c elt:E}{bT fG pc eg:Expr}{scope:Scope}{pos:Pos}(h:lh N sc scope kk bf (aN bT))(bB:js kk tg=true)(cM:eR elt=true)(hi:GI X W F bT it fG)(qr:∀x,foldedSetIterable fG X.env x=pure x)
 (xl:fv (aN bT++freeOf scope) (cG scope sc) (lU scope) tg bT=true) (hc:∀Y,cy Γ.B0 F W (aN bT++freeOf scope) (cG scope sc) k Y->GT Y W F c pc) (he:∀Y,cy Γ.B0 F W (aN bT++freeOf scope) (cG scope sc) k Y->GE Y W F elt eg):
 GF X W F (.cx kk bf tg it c elt) (.ListComp eg [⟨bT,fG,[pc],0⟩] scope pos):=by
 intro aa s σ H Q I hq;have Ml:(freeOf scope).Nodup:=(List.nodup_append.mp h.nd).2.1
 have rd:=nD (N:=N) C.K bB cM h.slots Ml σ H Q hq
 have:=v7 (g:=gT X.K tg) (tt:=RS W F c) (te:=tN W F elt) (xs:=aN bT) (ys:=freeOf scope) (is:=bf) (pos:=pos) C.calm (qa C.hN C.cK I.ok h) hi
  (λfp s1 H1 A=>xC (fn:=lU scope) (X:=bH X (aN bT++freeOf scope) scope (bx X.env (freeOf scope)) fp s1 H1 A) rfl h.nd (eN C.cK) rfl (λ_ z=>z) xl)
  (λfp s1 H1 A=>L2.PT.imp (hc _ (eM C h fp s1 H1 A)) λσ H Q z=>zK σ H Q z)
  (λfp s1 H1 A=>L2.PE.imp (he _ (eM C h fp s1 H1 A)) λσ H Q z=>vf σ H Q z) qr aa s σ H Q I
 rw [h.len] at this;exact this rd
variable{Z:List (Addr×Obj)}{G H:Hp}
mutual
theorem Rep.less(zs:∀b o,Z.lookup b=some o->G b=some (.bt o bz)):∀(p:PV) {v:V},Rep W G p v->Rep W (bb Z G) p v
 |.aK,_,h=>by simpa only [Rep] using h
 |.bl b,_,h=>by simpa only [Rep] using h
 |.int i,_,h=>by simpa only [Rep] using h
 |.str z,_,h=>by simpa only [Rep] using h
 |.tup xs,_,h=>by
  simp! [Rep] at h⊢;obtain⟨a,vs,e,q,l⟩:=h
  refine⟨a,vs,e,?_,ai.less zs xs l⟩;rcases q with q|⟨(q|⟨o,q⟩)|q,z⟩
  ·cases y:Z.lookup a with
   |none=>exact .inl (by rw [aA y];exact q)
   |some o'=>rw [zs a o' y] at q;cases q
  ·cases y:Z.lookup a with
   |none=>exact .inl (by rw [aA y];exact q)
   |some o'=>rw [zs a o' y] at q;cases q
  ·cases y:Z.lookup a with
   |none=>exact .inr ⟨.inl (.inr ⟨o,by rw [aA y];exact q⟩),z⟩
   |some o'=>rw [zs a o' y] at q;cases q
  ·exact .inr ⟨.inr q,z⟩
 |.lst xs,_,h=>by
  simp! [Rep] at h⊢;obtain⟨a,vs,e,q,l⟩:=h
  refine⟨a,vs,e,?_,ai.less zs xs l⟩;rcases q with(q|⟨o,q⟩)|q
  ·cases y:Z.lookup a with
   |none=>exact .inl (.inl (by rw [aA y];exact q))
   |some o'=>rw [zs a o' y] at q;cases q
  ·cases y:Z.lookup a with
   |none=>exact .inl (.inr ⟨o,by rw [aA y];exact q⟩)
   |some o'=>rw [zs a o' y] at q;cases q
  ·exact .inr q
 |.exc c,_,h=>by
  simp! [Rep] at h⊢;obtain⟨a,C,e,x,m,q⟩:=h
  cases y:Z.lookup a with
  |none=>exact⟨a,C,e,x,m,by rw [aA y];exact q⟩
  |some o'=>
   rw [zs a o' y] at q;unfold iM at q;cases q
 |.bM ks vs,_,h=>by
  simp! [Rep] at h⊢;obtain⟨a,o,us,e,n,m,l⟩:=h
  refine⟨a,o,us,e,n,?_,ai.less zs vs l⟩;cases y:Z.lookup a with
  |none=>rw [aA y];exact m
  |some o'=>rw [zs a o' y] at m;cases m
theorem ai.less(zs:∀b o,Z.lookup b=some o->G b=some (.bt o bz)):∀(ps:List PV) {vs:List V},ai W G ps vs->ai W (bb Z G) ps vs
 |[],_,h=>by simpa only [ai] using h
 |p::ps,_,h=>by
  simp! [ai] at h⊢;obtain⟨v,r,e,h1,h2⟩:=h
  exact⟨v,r,e,Rep.less zs p h1,ai.less zs ps h2⟩
end
theorem lJ(t:bL W G H)(sg:az G H)(zs:∀b o,Z.lookup b=some o->G b=some (.bt o bz))(zc:∀b o,Z.lookup b=some o->∃v,o.data=.cell v):bL W (bb Z G) (bb Z H):=λP q m=>by
 obtain⟨n,ps,e,tr,al⟩:=t P q m
 refine⟨iE n,ps,?_,tr,λpos cv y=>?_⟩
 ·cases y:Z.lookup P with
  |none=>rw [aA y];exact e
  |some o=>rw [sg _ _ (zs P o y)] at e;cases e
 ·obtain⟨c',oc,cq,t',e1,e2,e3,e4⟩:=al pos cv y
  refine⟨c',oc,cq,t',e1,?_,e3,e4⟩;cases y:Z.lookup c' with
  |none=>rw [aA y];exact e2
  |some o=>
   rw [zs c' o y] at e2;cases e2;obtain⟨v,hv⟩:=zc c' _ y
   rw [e3] at hv;cases hv
theorem aD.wz{G3 H3:Hp}(g:aD W (bb Z G) (bb Z H) G3 H3)(sg:az G H)(zs:∀b o,Z.lookup b=some o->G b=some (.bt o bz))(zc:∀b o,Z.lookup b=some o->∃v,o.data=.cell v)(zn:∀b o,Z.lookup b=some o->H3 b=none):aD W G H (aU Z G3) (aU Z H3) where
 g:=λb u e=>by
  cases y:Z.lookup b with
  |none=>rw [aq y];exact g.g _ _ (by rw [aA y];exact e)
  |some o=>rw [bg y];rw [zs b o y] at e;exact e
 h:=λb u e=>by
  cases y:Z.lookup b with
  |none=>rw [aq y];exact g.h _ _ (by rw [aA y];exact e)
  |some o=>
   rw [sg _ _ (zs b o y)] at e;cases e;exact .inl ⟨(λ_ z=>nomatch z),bg y⟩
 sub:=λb u e=>by
  cases y:Z.lookup b with
  |none=>rw [aq y] at e⊢;exact g.sub _ _ e
  |some o=>rw [bg y] at e⊢;exact e
 own:=λa h1 h3 h2=>by
  cases y:Z.lookup a with
  |none=>rw [aq y];exact g.own a (by rw [aA y];exact h1) (by rw [aA y];exact h3) (by rw [aA y];exact h2)
  |some o=>rw [zs a o y] at h2;cases h2
 tab:=λt P q m=>by
  obtain⟨n,ps,e,tr,al⟩:=g.tab (lJ t sg zs zc) P q m
  refine⟨?_,ps,?_,tr,λpos cv y=>?_⟩
  ·cases y:Z.lookup P with
   |none=>rw [aq y];exact n
   |some o=>rw [zn P o y] at e;cases e
  ·cases y:Z.lookup P with
   |none=>rw [aq y];exact e
   |some o=>rw [zn P o y] at e;cases e
  ·obtain⟨c',oc,cq,t',e1,e2,e3,e4⟩:=al pos cv y
   refine⟨c',oc,cq,t',e1,?_,e3,e4⟩;cases y:Z.lookup c' with
   |none=>rw [aq y];exact e2
   |some o=>have:=g.sub _ _ e2;rw [zn c' o y] at this;cases this
theorem qO(t:bL W G H)(sg:az G H)(zn:∀b o,Z.lookup b=some o->H b=none):bL W (aU Z G) (aU Z H):=λP q m=>by
 obtain⟨n,ps,e,tr,al⟩:=t P q m
 refine⟨?_,ps,?_,tr,λpos cv y=>?_⟩
 ·cases y:Z.lookup P with
  |none=>rw [aq y];exact n
  |some o=>rw [zn P o y] at e;cases e
 ·cases y:Z.lookup P with
  |none=>rw [aq y];exact e
  |some o=>rw [zn P o y] at e;cases e
 ·obtain⟨c',oc,cq,t',e1,e2,e3,e4⟩:=al pos cv y
  refine⟨c',oc,cq,t',e1,?_,e3,e4⟩;cases y:Z.lookup c' with
  |none=>rw [aq y];exact e2
  |some o=>have:=sg _ _ e2;rw [zn c' o y] at this;cases this
theorem aD.lz{G' H':Hp}(g:aD W (aU Z G) (aU Z H) G' H')(sg:az G H)(zc:∀b o,Z.lookup b=some o->∃v,o.data=.cell v)(zn:∀b o,Z.lookup b=some o->H b=none):aD W G H (bb Z G') (bb Z H') where
 g:=λb u e=>by
  cases y:Z.lookup b with
  |none=>rw [aA y];exact g.g _ _ (by rw [aq y];exact e)
  |some o=>have:=sg _ _ e;rw [zn b o y] at this;cases this
 h:=λb u e=>by
  cases y:Z.lookup b with
  |none=>rw [aA y];exact g.h _ _ (by rw [aq y];exact e)
  |some o=>rw [zn b o y] at e;cases e
 sub:=λb u e=>by
  obtain⟨q,e1⟩:=dU e
  rw [aA q];exact g.sub _ _ e1
 own:=λa h1 h3 h2=>by
  cases y:Z.lookup a with
  |none=>rw [aA y];exact g.own a (by rw [aq y];exact h1) (by rw [aq y];exact h3) (by rw [aq y];exact h2)
  |some o=>exact eP y
 tab:=λt=>lJ (g.tab (qO t sg zn)) g.sub (λb o q=>g.g _ _ (bg q)) zc
def xx(sg:az G H):az (aU Z G) (aU Z H):=λb u e=>by
 cases y:Z.lookup b with
 |none=>rw [aq y] at e⊢;exact sg _ _ e
 |some o=>rw [bg y] at e⊢;exact e
theorem tO{G3 H3:Hp}(s:az G3 H3)(zn:∀b o,Z.lookup b=some o->H3 b=none):az G3 (aU Z G3):=λb u e=>by
 cases y:Z.lookup b with
 |none=>rw [aq y];exact e
 |some o=>have:=s _ _ e;rw [zn b o y] at this;cases this
def qZ(zs:∀b o,Z.lookup b=some o->H b=some (.bt o bz)):aU Z (bb Z H)=H:=by
 funext b
 cases y:Z.lookup b with
 |none=>rw [aq y,aA y]
 |some o=>rw [bg y,zs b o y]
def rE(zs:∀b o,Z.lookup b=some o->H b=none):bb Z (aU Z H)=H:=by
 funext b
 cases y:Z.lookup b with
 |none=>rw [aA y,aq y]
 |some o=>rw [eP y,zs b o y]
theorem AI{P:Program}{w:World}{h:Heap}(k:dE P w H h)(zs:∀b o,Z.lookup b=some o->H b=some (.bt o bz)):dE P w (bb Z H) h:=λb v e=>by
 obtain⟨q,e1⟩:=dU e
 refine(k b v e1).di (λc y _ r=>r) (λc r=>?_) λc xs r=>?_
 ·cases y:Z.lookup c with
  |none=>rw [aA y];exact r
  |some o=>rw [zs c o y] at r;cases r
 ·cases y:Z.lookup c with
  |none=>rw [aA y];exact r
  |some o=>rw [zs c o y] at r;cases r
def xO{P:Program}{w:World}{K:zz8}{mg:Str->Option Value}{base:Heap}{A:Around}{outer:List Env}{s:Shared}(e:iP P w K mg base A outer s H)(zs:∀b o,Z.lookup b=some o->H b=some (.bt o bz)):iP P w K mg base A outer s (bb Z H):=
 ⟨e.frames,e.mod,λb o q=>⟨(e.bs b o q).1,iE (e.bs b o q).2⟩,e.uA,e.eV,λb hb=>iE (e.uj b hb),AI e.aH zs,e.bare⟩
def yu{ps:List Str}{scope:Scope}(h:RT ps scope=true):qK ps (bh scope) scope:=by
 unfold RT at h;simp! [zza,zzy,Bool.not_eq_true',zzN,zzT] at h;obtain⟨⟨⟨⟨⟨⟨h1,h2⟩,h3⟩,h4⟩,h5⟩,h6⟩,h7⟩:=h
 refine⟨h1,h2,h3,h4,h5,h6,h7,λx hx=>?_⟩
 unfold bh;rw [List.mem_reverse,zzx];exact⟨(x,.free),List.mem_filter.mpr ⟨PySem.mem_of_lookup hx,rfl⟩,rfl⟩
def vw{params:Arguments}{ps:List Str}{qual:Str}{body:Expr}{scope:Scope}{cl:List (Str×Addr)}{pm ft ct:Value}(h:pK params=some ps)(us:List Value)(hl:us.length=ps.length):bindArgs (PySem.W.kla_fn "<lambda>" qual params body scope cl pm ft ct) ⟨us,[]⟩=pure (ps.zip us):=by
 rcases vx h with⟨rfl,rfl⟩|⟨a,rfl,rfl⟩
 ·match us,hl with
  |[],_=>rfl
 ·match us,hl with
  |[u],_=>
   simp [bindArgs,seqItems?,PySem.W.kla_fn]
   rfl
def Fm{params:Arguments}{ps:List Str}{env:Env}(h:pK params=some ps):defaultsOf params env=([],[]):=by
 rcases vx h with⟨rfl,rfl⟩|⟨a,rfl,rfl⟩
 ·rfl
 ·rfl
theorem nN:∀{idx:List Nat} {l qs:List PV} {us:List V},gX l idx=.ok qs->ai W G l us->∃vs:List V,ai W G qs vs/\vs.length=idx.length/\∀(j i:Nat),idx[j]?=some i->∃v,us[i]?=some v/\vs[j]?=some v
 |[],l,qs,us,h,r=>by
  unfold gX at h;cases h;exact⟨[],.nil,rfl,λj i e=>by simp at e⟩
 |i::idx,l,qs,us,h,r=>by
  unfold gX at h;obtain⟨p,hp,h⟩:=Res.aP h
  obtain⟨ps,kq,h⟩:=Res.aP h
  cases h;obtain⟨v,hv,rv⟩:=r.mR (Res.of_ok hp)
  obtain⟨vs,l1,l2,l3⟩:=nN kq r
  refine⟨v::vs,.cons rv l1,by simp [l2],λj k e=>?_⟩
  cases j with
  |zero=>simp at e;subst e;exact⟨v,hv,rfl⟩
  |succ j=>simpa using l3 j k (by simpa using e)
theorem j0{l:List PV}(c:Str):∀{idx:List Nat},gX l idx≠.exc c
 |[]=>λz=>nomatch z
 |i::idx=>λz=>by
  unfold gX at z;rcases Res.c9 z with z|⟨p,_,z⟩
  ·exact Res.aJ c z
  ·rcases Res.c9 z with z|⟨ps,_,z⟩
   ·exact j0 c z
   ·cases z
end
def zM(idx:List Nat):TA:=λσ H Q=>∃vs:List V,vs.length=idx.length/\(∀(j i:Nat),idx[j]?=some i->∃v,σ[i]?=some (some v)/\vs[j]?=some v)/\Q vs H
def qQ{a:Expr}{as:List Expr}{xs:List (Option Str)}(h:ez (a::as) xs=true):∃x np,a=.Name x np/\∃QH,ez as QH=true:=by
 cases xs with
 |nil=>cases a<;>exact aM h
 |cons y ys=>
  cases y with
  |none=>cases a<;>exact aM h
  |some y=>
   cases a with
   |Name x np=>exact⟨x,np,rfl,ys,(Bool.and_eq_true_iff.mp h).2⟩
   |_=>exact aM h
theorem lY{env:Env}:∀{as:List Expr} {xs:List (Option Str)} {pos:Pos},ez as xs=true->(backTo pos (starEach as env)).any (·.1)=false
 |[],_,_,_=>rfl
 |a::as,xs,pos,h=>by
  obtain⟨x,np,rfl,QH,h2⟩:=qQ h
  show(false||(backTo pos (starEach as env)).any (·.1))=false
  rw [lY h2]
  rfl
theorem qN{X:Cx}(hv:∀(i:Nat) (x:Str),X.N[i]?=some x->OZ X.env.scope x):∀{as:List Expr} {idx:List Nat},ez as (idx.map λi=>X.N[i]?)=true->PA X as (zM idx)
 |[],[],_=>L2.PA.imp bP λσ H Q h=>by
  obtain⟨vs,h1,_,h3⟩:=h
  cases vs with
  |nil=>exact h3
  |cons _ _=>simp at h1
 |a::as,i::idx,h=>by
  rw [zzF] at h;cases e:X.N[i]? with
  |none=>rw [e] at h;cases a<;>exact aM h
  |some y=>
   rw [e] at h;cases a<;>first|(exact aM h)|skip
   rename_i x np;unfold ez at h;rw [zza,zza] at h;have Ul:=zzy.mp h.1.1
   subst Ul;have Wc:(x==("__debug__":Str))=false/\(x==("__classdict__":Str))=false:=by
    have h2:=h.1.2
    unfold okN at h2;simp! [zza,Bool.not_eq_true'] at h2;exact⟨h2.1.1,h2.1.2⟩
   refine L2.PA.imp (ba (dS (i:=i) e (hv i x e) Wc.1 Wc.2) (qN hv h.2) rfl) λσ H Q hq=>?_
   obtain⟨vs,h1,h2,h3⟩:=hq
   cases vs with
   |nil=>simp at h1
   |cons v vs=>
    obtain⟨v',hv1,hv2⟩:=h2 0 i rfl
    simp at hv2;subst hv2;exact⟨v,hv1,vs,by simpa using h1,λj k ej=>by simpa using h2 (j+1) k (by simpa using ej),h3⟩
 |[],_::_,h=>by cases h
 |a::_,[],h=>by cases a<;>cases h
section
variable{Γ:Pg}{X:Cx}{W:Wd}{F:bj}{N:List Str}{sc:Scope}{k:Nat}
def vn{g:Str}{idx:List Nat}{params:Arguments}{body:Expr}{scope:Scope}(h:El g idx params body scope=true):∃ps a as np pos,pK params=some ps/\idx.head?=some ps.length/\body=.Call (.Name g np) (a::as) [] pos/\scope.names.lookup g=some .globalImplicit/\okN g=true/\f7 g=false/\ez (a::as) (idx.tail.map λi=>(ps++bh scope)[i]?)=true/\qK ps (bh scope) scope:=by
 obtain⟨ps,e1,h⟩:=A0 h
 obtain⟨⟨f,args,kws,pos⟩,e2,h⟩:=A0 h
 simp! [zza,zzy,Bool.not_eq_true',zzN] at h;obtain⟨⟨⟨⟨⟨⟨⟨⟨h1,h7⟩,h8⟩,h0⟩,h2⟩,h3⟩,h4⟩,h5⟩,h6⟩:=h
 obtain⟨np,z1⟩:=bE h1
 have z7:=List.isEmpty_iff.1 h7
 try dsimp only at z1 z7
 subst z1 z7;cases args with
 |nil=>cases h8
 |cons a as=>exact⟨ps,a,as,np,pos,e1,h0,fV e2,h2,h3,h4,h5,yu h6⟩
def uI{a:Expr}{as:List Expr}{xs:List (Option Str)}{env:Env}(h:ez (a::as) xs=true):∃x np,a=.Name x np/\∃QH,ez as QH=true:=qQ h
def Er(C:cy Γ F W N sc k X){g:Str}{idx:List Nat}{cj as qs:List PV}{f:Addr}{aa:List (Addr×Obj)}{σ:St}{G H:Hp}{s:Shared}{Q:VK}{us:List Value}{vs:List V}
 (I:Inv X aa σ H s) (sg:az G H) (tb:bL W G H) (cr:pJ W G g idx cj (.ref f)) (l:ai W G as vs) (r:Vals vs us) (hn:idx.head?=some as.length) (hq:gX (as++cj) idx.tail=.ok qs)
 (o:Out X W (F g qs) σ G H λp=>cg W G H p Q):wpAny (model X.prog X.w) X.A (call (.ref f) us) (EP X aa σ Q) X.xe s:=by
 obtain⟨f',c',oc,cq,t,fm,pm,params,body,scope,qual,cl,Z,ws,e,d⟩:=cr
 cases e;obtain⟨ps,a,as',np,pos,e1,e0,rfl,e2,e3,e4,e5,S⟩:=vn d.lg
 have BD:F g qs≠.bad:=λz=>by rw [z] at o;exact o
 have hlen:as.length=ps.length:=zzq (hn.symm.trans e0)
 have Qn:∀b o,Z.lookup b=some o->H b=some (.bt o bz):=λb o q=>sg _ _ (d.zs b o q)
 have Yz:aU Z (bb Z H)=H:=qZ Qn
 have DG:sQ Z (bb Z H) (dD X.stack) s.heap:=⟨λb o q=>(I.aH b _ (Qn b o q)).1,λb o q=>eP q,λb o q hb=>by have:=I.kN b hb;rw [Qn b o q] at this;cases this⟩
 have rl:ai W (bb Z G) (as++cj) (vs++ws):=(ai.less d.zs as l).append d.rep
 obtain⟨ys,ry,ly,py⟩:=nN hq rl
 have qr:Γ.fs.contains g=true:=by
  rcases C.any g qs BD with z|z
  ·exact z
  ·rw [e4] at z;cases z
 obtain⟨fa,fd,pn,FO,hm,hk,hb,hal⟩:=(C.fns g qr).ex
 have XW:az (bb Z G) (bb Z H):=n6 sg
 refine wpAny_call (codeAny_mono (L2.vF (E:=λCv ao H'=>∃c,F g qs=.exc c/\XE W c G H Cv ao H') (Q:=Q) (Z:=Z) (ws:=ws) (vs:=vs) (t:=λσ' H1 Q1=>H1=bb Z H/\zM idx.tail σ' H1 λzs H2=>H2=H1/\zs=ys/\∀u H3,(match F g qs with
  |.ok p=>∃G3,aD W (bb Z G) (bb Z H) G3 H3/\Rep W G3 p u
  |_=>False)->Q1 u H3) S C.room (xO I.wO Qn) DG ?zb (I.aH _ _ (sg _ _ d.fo)).1 (I.aH _ _ (sg _ _ d.co)).1 d.cd d.cn (vw e1 us (by rw [<-r.length,l.length,hlen])) r (by rw [l.length,hlen]) d.len d.has d.inj d.cells ?cells ?ht ?hq) λrr s' hr=>?end_)
 case zb=>
  intro b o q;cases y:X.base.get? b with
  |none=>rfl
  |some o'=>have:=(I.bs b o' y).2;rw [Qn b o q] at this;cases this
 case cells=>
  intro i y c h1 h2 v h3;obtain⟨u,o',q1,q2,q3⟩:=d.vals i y c h1 h2 v h3
  exact⟨u,q1,o',DG.at_ c o' q2,q3⟩
 case hq=>
  refine⟨rfl,ys,ly,λj i ej=>?_,rfl,rfl,λu H3 h3 zn=>?_⟩
  ·obtain⟨v,h1,h2⟩:=py j i ej
   refine⟨v,?_,h2⟩;rw [<-List.map_append,zzQ,h1]
   rfl
  ·cases z:F g qs with
   |ok p=>
    rw [z] at h3 o;obtain⟨G3,g3,r3⟩:=h3
    exact o u _ _ (g3.wz sg d.zs d.zc zn) (Rep.same (tO g3.sub zn) p r3)
   |exc c=>rw [z] at h3;exact h3.elim
   |bad=>exact absurd z BD
 case ht=>
  intro jg s1 σ' H1 Q1 I1 h1;obtain⟨rfl,h1⟩:=h1
  obtain⟨x0,np0,rfl,QH,hrest⟩:=uI (env:=X.env) e5
  refine wpAny_Call_Name_kw (dZ (X:=FE X.prog X.w X.K X.mg X.base (ps++bh scope) qual scope f (.ref c') cl X.A X.stack s (bb Z H) _) I1 e2 hm ?_ (bR e3).1);refine PySem.W.callWith_K (h₀:=X.base) I.ok.mod.O0 hk (bq (qN (X:=FE X.prog X.w X.K X.mg X.base (ps++bh scope) qual scope f (.ref c') cl X.A X.stack s (bb Z H) _) (λi x hx=>?_) e5 pos jg s1 σ' _ _ I1 h1) λus2 s2 ⟨vs2,H2,I2,r2,q2⟩=>⟨I2.nq,?_⟩) rfl (lY hrest)
  ·rcases List.mem_append.mp (zzD hx) with z|z
   ·exact .inl (S.par x z)
   ·exact .inr (.inr (S.Sh x z))
  ·obtain⟨rfl,rfl,q2⟩:=q2
   refine i8 (X:=FE X.prog X.w X.K X.mg X.base (ps++bh scope) qual scope f (.ref c') cl X.A X.stack s (bb Z H) _) (q:=none) (as:=qs) (G:=bb Z G) (C.room.deeper _) FO hb (λz=>by rw [ry.length];exact hal qs z) I2 XW (lJ tb sg d.zs d.zc) ry r2 ?_;cases z:F g qs with
   |ok p=>
    rw [z] at q2;exact λv G' H' g' rp=>q2 v H' ⟨G',g',rp⟩
   |exc c=>
    intro pins3 G3 H3 s3 e s' I3 g3 x3;refine Qg pins3 σ' H3 s3 e s' I3 (A8.imp x3 λCv ao H' y zn=>?_);obtain⟨C4,a4,G4,y1,y2,y3,y4,y5⟩:=y
    exact⟨c,rfl,C4,a4,_,y1,y2,y3,y4,(g3.trans y5).wz sg d.zs d.zc zn⟩
   |bad=>exact absurd z BD
 case end_=>
  rw [Yz] at hr;cases rr with
  |error e=>
   have hr:du X.prog X.w X.stack H s (λCv ao H'=>∃c,F g qs=.exc c/\XE W c G H Cv ao H') e s':=hr
   cases z:F g qs with
   |ok q=>
    obtain⟨a,C',t,vs,H',B,rfl,Fl⟩:=hr
    obtain⟨c,e1,_⟩:=Fl.ends
    rw [z] at e1;cases e1
   |exc c=>
    rw [z] at o;refine o aa G H s e s' I (.refl sg) (A8.imp hr λC1 a H' y=>?_);obtain⟨c',e1,y⟩:=y
    rw [z] at e1;cases e1;exact y
   |bad=>exact absurd z BD
  |ok fl=>
   cases fl with
   |ret u=>exact I.after hr
   |next=>exact zzk hr
   |brk=>exact zzk hr
   |cont=>exact zzk hr
def Ac(C:cy Γ F W N sc k X){i:Nat}{x:Str}{e:E}{es:Es}{p:Expr}{ps:List Expr}{np pos:Pos}(h:(N[i]?==some x&&cD sc x&&okN x)=true)(sV:ee (.cons e es)=true)(ha:GA X W F (.cons e es) (p::ps))
 (cL:starEach (p::ps) X.env=(false,eval p X.env)::starEach ps X.env) (hpl:(backTo pos (starEach ps X.env)).any (·.1)=false):GE X W F (.sh i (.cons e es)) (.Call (.Name x np) (p::ps) [] pos):=by
 simp! [zza,zzy] at h;obtain⟨h1,h2,h3⟩:=bR h.2
 intro aa s σ H Q I hq;obtain⟨H0,G,env,sr,o⟩:=hq
 rw [aE] at o;cases e1:env[i]? with
 |none=>rw [e1] at o;exact o.elim
 |some sl=>
  cases sl with
  |no=>rw [e1] at o;exact o.elim
  |val _=>rw [e1] at o;exact o.elim
  |own _=>rw [e1] at o;exact o.elim
  |fn g idx cj=>
   rw [e1] at o;obtain⟨o2,hs,v,rfl,cr⟩:=sr.slot i _ e1
   have Xu:=cr
   obtain⟨f,c',oc,cq,t,fm,pm,params,body,scope,qual,cl,Z,ws,e2,d⟩:=Xu
   subst e2;refine wpAny_Call_Name_kw (wpAny_mono (dS (i:=i) (by rw [C.hN];exact h.1.1) (mJ C h.1.2) h1 h2 aa s σ H (λv' H1=>v'=.ref f/\H1=H) I ⟨_,hs,rfl,rfl⟩) (λu s1 hu=>?_) λ_ _ y=>y)
   obtain⟨v',H1,I1,ru,rfl,rfl⟩:=hu
   cases ru;refine PySem.W.callWith_F ⟨_,_,_,_,(I1.aH _ _ (sr.sub _ _ d.fo)).1⟩ (bq (ha pos aa s1 σ H1 (λvs H2=>∃G2 as qs,az G2 H2/\bL W G2 H2/\ai W G2 as vs/\pJ W G2 g idx cj (.ref f)/\G2 f=some (.bt (PySem.W.kla_obj "<lambda>" qual params body scope cl pm c' fm) bz)/\idx.head?=some as.length/\gX (as++cj) idx.tail=.ok qs/\Out X W (F g qs) σ G2 H2 λp=>cg W G2 H2 p Q) I1 ?_) λus s2 ⟨vs,H2,I2,r,q⟩=>?_) cL hpl
   ·refine args sr o λas vs G1 H2 g1 t1 aQ o1=>?_
    split at o1
    ·rename_i hn;cases hq:gX (as++cj) idx.tail with
     |ok qs=>
      rw [hq] at o1;have sA:Out X W (F g qs) σ G1 H2 _:=o1
      exact⟨G1,as,qs,aQ.sub,aQ.tab,t1.rep sV,cr.same g1.g,g1.g _ _ d.fo,hn,hq,sA.imp λp hp v G' H' g' rp=>hp v G' H' (g1.trans g') (.of rp)⟩
     |exc c=>exact absurd hq (j0 c)
     |bad=>rw [hq] at o1;exact o1.elim
    ·exact o1.elim
   ·obtain⟨G2,as,qs,sg,tb,l,cr2,fo2,hn,hqs,o2⟩:=q
    exact⟨⟨_,_,_,_,(I2.aH _ _ (sg _ _ fo2)).1⟩,Er C I2 sg tb cr2 l r hn hqs o2⟩
def pR(X:Cx)(W:Wd)(params:Arguments)(body:Expr)(scope:Scope)(cl:List (Str×Addr))(G1 H1 G2 H2:Hp)(f:Addr):Prop:=aD W G1 H1 G2 H2/\∃c' oc cq t fm pm,G2 f=some (.bt (PySem.W.kla_obj "<lambda>" (X.env.qual++"<lambda>") params body scope cl pm c' fm) bz)/\G2 c'=some (.bt oc bz)/\oc.data=.fields cq/\cq[1]?=some (.str (X.env.qual++"<lambda>") t)
def Bt(C:cy Γ F W N sc k X)(hl:Γ.hl=true){params:Arguments}{ps:List Str}{body:Expr}{scope:Scope}{pos:Pos}{cl:List (Str×Addr)}(hp:pK params=some ps)(B3:closureFor scope X.env=pure cl):
 PE X (.Lambda params body scope pos) (λσ H Q=>∃G,az G H/\bL W G H/\∀f G2 H2,pR X W params body scope cl G H G2 H2 f->Q (.ref f) H2):=by
 intro aa s σ H Q I h;obtain⟨G,sg,tb,q⟩:=h
 obtain⟨c,P,u9,CH,hts,huq⟩:=C.tb hl
 obtain⟨nG,lE,hP,tr,al⟩:=tb P _ hts
 refine L2.A2 (R:=λc' oc=>G c'=some (.bt oc bz)) I hP tr u9 CH (C.bm hl) B3 (Fm hp) (λcv e=>?_) λf c' oc cq t fm qw h' tk hf hc O7 XR Xr hd hv Yt Zh more I'=>?_
 ·obtain⟨c',oc,cq,t,e1,e2,e3,e4⟩:=al pos cv e
  exact⟨c',oc,cq,t,e1,sg _ _ e2,e2,e3,e4⟩
 ·have YD:G f=none:=sg.free hf
  have YQ:G c'=none\/G c'=some (.bt oc bz):=by
   rcases hc with z|z
   ·exact .inl (sg.free z)
   ·exact .inr z.2
  have fo:∀fo,gf H P qw c' oc f fo f=some (.bt fo bz):=λfo=>by unfold gf;rw [aj]
  have sG:∀fo,az G (upd (upd G c' (.bt oc bz)) f (.bt fo bz)):=λfo b u e=>by
   have Cr:b≠f:=λz=>by rw [z,YD] at e;cases e
   rw [ag Cr]
   by_cases hb:b=c'
   ·subst hb;rw [aj];rcases YQ with z|z
    ·rw [z] at e;cases e
    ·rw [z] at e;exact e
   ·rw [ag hb];exact e
  have UI:∀fo a,H a≠none->(∀vs,H a≠some (.tup vs))->G a=none->(upd (upd G c' (.bt oc bz)) f (.bt fo bz)) a=none:=λfo a h1 _ h2=>by
   have Ym:a≠f:=λz=>h1 (by rw [z];exact hf)
   rw [ag Ym]
   by_cases ha:a=c'
   ·subst ha;rcases hc with z|z
    ·exact absurd z h1
    ·rw [z.2] at h2;cases h2
   ·rw [ag ha];exact h2
  refine⟨.ref f,_,I',rfl,q f (upd (upd G c' (.bt oc bz)) f (.bt _ bz)) _ ⟨⟨sG _,λb u e=>?_,λb u e=>?_,UI _,λ_ P' q' m=>?_⟩,c',oc,cq,t,fm,(X.mg "__name__").getD .none,aj,by rw [ag O7,aj],hd,hv⟩⟩
  ·have Cr:b≠f:=λz=>by rw [z,hf] at e;cases e
   by_cases OY:b=P
   ·subst OY;rw [hP] at e;cases e;obtain⟨m,rfl⟩:=more
    exact .inr ⟨lE,m,rfl,by unfold gf;rw [ag (Ne.symm XR),ag (Ne.symm Xr),aj]⟩
   ·have e2:gf H P qw c' oc f (PySem.W.kla_obj "<lambda>" (X.env.qual++"<lambda>") params body scope cl ((X.mg "__name__").getD .none) c' fm) b=H b:=by
     unfold gf;rw [ag Cr]
     by_cases hb:b=c'
     ·subst hb;rw [aj];rcases hc with z|z
      ·rw [z] at e;cases e
      ·rw [z.1]
     ·rw [ag hb,ag OY]
    rw [e2];exact fM.refl H b u e
  ·by_cases Cr:b=f
   ·subst Cr;rw [aj] at e;rw [fo];exact e
   ·rw [ag Cr] at e;unfold gf;rw [ag Cr]
    by_cases hb:b=c'
    ·subst hb;rw [aj] at e⊢;exact e
    ·rw [ag hb] at e⊢;have OY:b≠P:=λz=>by rw [z,nG] at e;cases e
     rw [ag OY];exact sg _ _ e
  ·obtain⟨n1,qs,hq1,tr1,al1⟩:=tb P' q' m
   have S3:P'≠f:=λz=>by rw [z,hf] at hq1;cases hq1
   have fE:P'≠c':=λz=>by
    rcases hc with y|y
    ·rw [z,y] at hq1;cases hq1
    ·rw [z,y.1] at hq1;cases hq1
   refine⟨by rw [ag S3,ag fE];exact n1,?_⟩
   by_cases hPP:P'=P
   ·subst hPP;rw [hP] at hq1;cases hq1;refine⟨qw,by unfold gf;rw [ag S3,ag fE,aj],Yt,λpos' cv y=>?_⟩
    rcases Zh pos' cv y with y|y
    ·obtain⟨c2,oc2,cvs2,t2,e1,e2,e3,e4⟩:=al1 pos' cv y
     exact⟨c2,oc2,cvs2,t2,e1,sG _ _ _ e2,e3,e4⟩
    ·exact⟨c',oc,cq,t,y,by rw [ag O7,aj],hd,by rw [huq q' m];exact hv⟩
   ·refine⟨qs,by unfold gf;rw [ag S3,ag fE,ag hPP];exact hq1,tr1,λpos' cv y=>?_⟩
    obtain⟨c2,oc2,cvs2,t2,e1,e2,e3,e4⟩:=al1 pos' cv y
    exact⟨c2,oc2,cvs2,t2,e1,sG _ _ _ e2,e3,e4⟩
structure zW(N:List Str)(sc:Scope)(g:Str)(idx bf:List Nat)(params:Arguments)(body:Expr)(scope:Scope):Prop where
 lb:El g idx params body scope=true
 cn:bf.map (λi=>N[i]?)=(bh scope).map some
 cc:∀y∈bh scope,sc.names.lookup y=some .cell
noncomputable def PR(X:Cx)(W:Wd)(F:bj)(N:List Str)(sc:Scope)(g:Str)(idx bf:List Nat)(es:Es):TA:=λσ H Q=>∃H0 G env,SR W H0 env σ G H/\Out X W (cb F es env) σ G H λas=>∀vs G1 H1,aD W G H G1 H1->ai W G1 as vs->∀params body scope f G2 H2,zW N sc g idx bf params body scope->pR X W params body scope (bx X.env (bh scope)) G1 H1 G2 H2 f->Q (vs++[.ref f]) H2
def AD(C:cy Γ F W N sc k X)(ok:X.Ok){g:Str}{idx bf:List Nat}{params:Arguments}{body:Expr}{scope:Scope}(a:zW N sc g idx bf params body scope):closureFor scope X.env=pure (bx X.env (bh scope)):=by
 refine iB λy hy hf=>ok.has y.1 (.inl ?_)
 show X.env.scope.names.lookup y.1=_
 rw [C.cK];refine a.cc y.1 ?_;unfold bh;rw [List.mem_reverse,zzx];exact⟨y,List.mem_filter.mpr ⟨hy,by rw [hf];rfl⟩,rfl⟩
def Eo(C:cy Γ F W N sc k X)(hl:Γ.hl=true){g:Str}{idx bf:List Nat}{params:Arguments}{body:Expr}{scope:Scope}{pos:Pos}(a:zW N sc g idx bf params body scope):PA X [.Lambda params body scope pos] (PR X W F N sc g idx bf .nil):=by
 obtain⟨ps,_,_,_,_,e1,_⟩:=vn a.lb
 intro pos' aa s σ H Q I h;refine ba (Bt C hl e1 (AD C I.ok a)) bP rfl pos' aa s σ H Q I ?_;obtain⟨H0,G,env,sr,o⟩:=h
 rw [cb] at o;refine⟨G,sr.sub,sr.tab,λf G2 H2 m=>?_⟩
 exact o [] G H (.refl sr.sub) .nil params body scope f G2 H2 a m
theorem BN{g:Str}{idx bf:List Nat}{e:E}{es:Es}{p:Expr}{ps:List Expr}(sV:ee (.cons e es)=true)(he:GE X W F e p)(hs:PA X ps (PR X W F N sc g idx bf es))(cL:starEach (p::ps) X.env=(false,eval p X.env)::starEach ps X.env):PA X (p::ps) (PR X W F N sc g idx bf (.cons e es)):=
 L2.PA.imp (ba he hs cL) λσ H Q h=>by
  obtain⟨H0,G,env,sr,o⟩:=h
  rw [cb] at o;unfold ee at sV;rw [zza] at sV;refine one sr o λq v G1 H1 g1 t1 aQ o1=>⟨H0,G1,env,aQ,o1.bind.imp λas ha vs G2 H2 g2 l=>?_⟩
  intro params body scope f G3 H3 la lm;have:=ha (v::vs) G2 H2 (g1.trans g2) (.cons (Rep.same g2.g q (t1.rep sV.1)) l) params body scope f G3 H3 la lm
  simpa using this
def lookup_all{Z:List (Addr×Obj)}{h:Heap}(ha:∀q∈Z,h.get? q.1=some q.2):∀{c:Addr} {o:Obj},(c,o)∈Z->Z.lookup c=some o:=by
 induction Z with
 |nil=>intro c o m;cases m
 |cons q Z ih=>
  intro c o m;obtain⟨c1,o1⟩:=q
  rw [zz5];cases e:c==c1 with
  |true=>
   have e2:=zzy.mp e
   subst e2;have h1:=ha (c,o1) zzP
   have h2:h.get? c=some o:=ha (c,o) m
   rw [h1] at h2;exact h2
  |false=>
   rcases zzm.mp m with z|z
   ·cases z;simp at e
   ·exact ih (λq hq=>ha q (zzI _ hq)) z
theorem rY{H0 G H:Hp}{env:Sl}{σ:St}(sr:SR W H0 env σ G H):∀{bf:List Nat} {cs:List PV},mx env bf=.ok cs->∃ws:List V,ai W G cs ws/\ws.length=bf.length/\∀(j:Nat) (i:Nat),bf[j]?=some i->∃v,ws[j]?=some v/\σ[i]?=some (some v)
 |[],cs,h=>by
  unfold mx at h;cases h;exact⟨[],.nil,rfl,λj i e=>by simp at e⟩
 |i::bf,cs,h=>by
  unfold mx at h;obtain⟨p,hp,h⟩:=Res.aP h
  obtain⟨ps,kq,h⟩:=Res.aP h
  cases h;have hs:env[i]?=some (.val p):=by
   cases e:env[i]? with
   |none=>rw [e] at hp;cases hp
   |some s=>rw [e] at hp;cases s<;>cases hp;rfl
  obtain⟨o,h1,v,rfl,rv⟩:=sr.slot i _ hs
  obtain⟨ws,l1,l2,l3⟩:=rY sr kq
  refine⟨v::ws,.cons rv l1,by simp [l2],λj k e=>?_⟩
  cases j with
  |zero=>simp at e;subst e;exact⟨v,rfl,h1⟩
  |succ j=>simpa using l3 j k (by simpa using e)
theorem mC{env:Sl}(c:Str):∀{bf:List Nat},mx env bf≠.exc c
 |[]=>λz=>nomatch z
 |i::bf=>λz=>by
  unfold mx at z;rcases Res.c9 z with z|⟨p,_,z⟩
  ·cases e:env[i]? with
   |none=>rw [e] at z;cases z
   |some s=>rw [e] at z;cases s<;>cases z
  ·rcases Res.c9 z with z|⟨ps,_,z⟩
   ·exact mC c z
   ·cases z
def xI(C:cy Γ F W N sc k X)(hl:Γ.hl=true){q:Hs}{bf:List Nat}{fa:Addr}{fd:FuncData}{pn:List Str}(FO:gh X.prog X.w X.K X.mg X.base (du X.prog X.w) k fa fd pn (xZ W F q.f pn.length (some (q.g,q.idx))))(hb:Binds X.K fd pn []){aa:List (Addr×Obj)}{σ:St}{H0 G H:Hp}{env:Sl}{s:Shared}{Q:VK}{us:List Value}{vs:List V}{as cs:List PV}{params:Arguments}{body:Expr}{scope:Scope}{f c':Addr}{oc:Obj}{cq:Array Value}{t:Tok}{fm pm:Value}
 (I:Inv X aa σ H s) (sr:SR W H0 env σ G H) (a:zW N sc q.g q.idx bf params body scope) (Ox:mx env bf=.ok cs) (l:ai W G as vs) (fo:G f=some (.bt (PySem.W.kla_obj "<lambda>" (X.env.qual++"<lambda>") params body scope (bx X.env (bh scope)) pm c' fm) bz)) (co:G c'=some (.bt oc bz)) (cd:oc.data=.fields cq) (cn:cq[1]?=some (.str (X.env.qual++"<lambda>") t))
 (hlen:(vs++[V.ref f]).length=pn.length) (r:Vals (vs++[.ref f]) us) (o:Out X W (F q.f (as++cs)) σ G H λp=>cg W G H p Q):wpAny (model X.prog X.w) X.A (call (.ref fa) us) (EP X aa σ Q) X.xe s:=by
 have BD:F q.f (as++cs)≠.bad:=λz=>by rw [z] at o;exact o
 obtain⟨ws,rws,lws,pws⟩:=rY sr Ox
 have dg:∀y∈bh scope,∃c,X.env.cells.lookup y=some c:=λy hy=>I.ok.has y (.inl (by show X.env.scope.names.lookup y=_;rw [C.cK];exact a.cc y hy))
 have call:((bh scope).all λy=>(X.env.cells.lookup y).isSome)=true:=zzT.mpr λy hy=>by obtain⟨c,e⟩:=dg y hy;rw [e];rfl
 let Z:List (Addr×Obj):=(bh scope).filterMap λy=>(X.env.cells.lookup y).bind λc=>(s.heap.get? c).map λo=>(c,o)
 have PF:∀q∈Z,∃y,y∈bh scope/\X.env.cells.lookup y=some q.1/\s.heap.get? q.1=some q.2:=λq hq=>by
  obtain⟨y,hy,e⟩:=zz1.mp hq
  obtain⟨c,hc,e⟩:=zzZ.mp e
  obtain⟨o,ho,rfl⟩:=zzJ.mp e
  exact⟨y,hy,hc,ho⟩
 have Uj:∀q∈Z,s.heap.get? q.1=some q.2:=λq hq=>let⟨_,_,_,h⟩:=PF q hq;h
 have V5:∀y c o,y∈bh scope->X.env.cells.lookup y=some c->s.heap.get? c=some o->Z.lookup c=some o:=λy c o hy hc ho=>lookup_all Uj (zz1.mpr ⟨y,hy,by rw [hc];show(s.heap.get? c).map _=_;rw [ho];rfl⟩)
 have Pn:∀b o,Z.lookup b=some o->∃y,y∈bh scope/\X.env.cells.lookup y=some b/\s.heap.get? b=some o:=λb o e=>by
  obtain⟨y,h1,h2,h3⟩:=PF (b,o) (PySem.W.mem_of_lookupK e)
  exact⟨y,h1,h2,h3⟩
 have zc:∀b o,Z.lookup b=some o->∃v,o.data=.cell v:=λb o e=>by
  obtain⟨y,_,h2,h3⟩:=Pn b o e
  obtain⟨v,o',h4,h5⟩:=I.cell y b h2
  rw [h3] at h4;cases h4;exact⟨v,h5⟩
 have Rc:∀b o,Z.lookup b=some o->H b=none:=λb o e=>by obtain⟨y,_,h2,_⟩:=Pn b o e;exact I.dG y b h2
 have WX:∀b o,Z.lookup b=some o->G b=none:=λb o e=>sr.sub.free (Rc b o e)
 have rD:∀b u,G b=some u->Z.lookup b=none:=λb u e=>by
  cases y:Z.lookup b with
  |none=>rfl
  |some o=>rw [WX b o y] at e;cases e
 have Qm:∀x c,(bx X.env (bh scope)).lookup x=some c->X.env.cells.lookup x=some c:=d7 call
 have Th:∀x c,(bx X.env (bh scope)).lookup x=some c->x∈bh scope:=λx c e=>by
  have:=PySem.mem_of_lookup e
  unfold bx at this;obtain⟨y,hy,e2⟩:=zzx.mp this
  cases e2;exact hy
 have Ww:∀b o,Z.lookup b=some o->X.s₀.heap.objs.size<=b:=λb o e=>by
  obtain⟨y,_,h2,_⟩:=Pn b o e
  exact I.ok.FI y b (C.fl hl y) h2
 have DG:sQ Z H (dD X.stack) s.heap:=⟨λb o e=>let⟨_,_,_,h⟩:=Pn b o e;h,Rc,λb o e PX=>by
  obtain⟨y,_,h2,h3⟩:=Pn b o e
  rcases zzm.mp (I.iq b PX) with z|z
  ·exact I.xG y b h2 z
  ·obtain⟨_,o',h4,_⟩:=I.ok.eV.mem z
   exact absurd (zzO h4) (Nat.not_lt.mpr (Ww b o e))⟩
 have zb:∀b o,Z.lookup b=some o->X.base.get? b=none:=λb o e=>by
  cases y:X.base.get? b with
  |none=>rfl
  |some o'=>exact absurd (zzO (I.ok.bs b o' y).1) (Nat.not_lt.mpr (Ww b o e))
 have Yw:(bh scope).length=bf.length:=by have:=congrArg List.length a.cn;simpa using this.symm
 have cr:pJ W (aU Z G) q.g q.idx cs (.ref f):=by
  refine⟨f,c',oc,cq,t,fm,pm,params,body,scope,_,bx X.env (bh scope),Z,ws,rfl,⟨a.lb,by rw [aq (rD f _ fo)];exact fo,by rw [aq (rD c' _ co)];exact co,cd,cn,rD f _ fo,rD c' _ co,λx y c h1 h2=>I.ok.inj x y c (Qm x c h1) (Qm y c h2),λy hy=>iX hy,λx c h=>?_,λb o e=>bg e,zc,λi y c h1 h2 v h3=>?_,by rw [lws,Yw],by rw [rE WX];exact rws⟩⟩
  ·obtain⟨v,o,h1,h2⟩:=I.cell x c (Qm x c h)
   exact⟨o,v,V5 x c o (Th x c h) (Qm x c h) h1,h2⟩
  ·have hi:i<bf.length:=by rw [<-lws];exact(zzH.mp h3).1
   obtain⟨v',q1,q2⟩:=pws i bf[i] (zzg hi)
   rw [h3] at q1;cases q1;have Zn:X.N[bf[i]]?=some y:=by
    rw [C.hN];have:=congrArg (λl=>l[i]?) a.cn
    simp! [zzQ,h1,zzg hi,Option.map_some] at this;exact zzq this
   obtain⟨m,_,hloc⟩:=I.loc
   obtain⟨u,ru,lk⟩:=hloc bf[i] y v Zn q2 (.inr (.inl (by rw [C.cK];exact a.cc y (zzD h1))))
   have Qu:=Qm y c h2
   rcases lk with⟨z,_⟩|⟨_,c2,hc2,o,ho,hd⟩
   ·have z2:X.env.scope.names.lookup y=some .local:=z
    rw [C.cK,a.cc y (zzD h1)] at z2;cases z2
   ·rw [Qu] at hc2;cases hc2;exact⟨u,o,ru,V5 y c o (zzD h1) Qu ho,hd⟩
 have Px:us.length=pn.length:=by rw [<-r.length];exact hlen
 have iR:=hb s us I.nq (by rw [zz6];exact Px)
 rw [zz6] at iR;have Y5:ai W (aU Z G) as vs:=ai.same (λb u e=>by rw [aq (rD b u e)];exact e) as l
 have XT:∀G' H',aD W (aU Z G) (aU Z H) G' H'->∀b o,Z.lookup b=some o->G' b=some (.bt o bz):=λG' H' g b o e=>g.g _ _ (bg e)
 refine wpAny_call (codeAny_mono (FO.run X.A X.stack s (aU Z H) ⟨us,[]⟩ us _ (λv H'=>Q v (bb Z H')) (λCv ao H'=>∃c,F q.f (as++cs)=.exc c/\XE W c G H Cv ao (bb Z H')) C.rm (I.wO.aU DG zb) iR r ⟨hlen,aU Z G,as++cs,xx sr.sub,qO sr.tab sr.sub Rc,⟨as,cs,vs,.ref f,rfl,rfl,Y5,cr⟩,?_⟩) λrr s' hr=>?_)
 ·cases z:F q.f (as++cs) with
  |ok p=>
   rw [z] at o;exact λv G' H' g' rp=>o v _ _ (g'.lz sr.sub zc Rc) (Rep.less (XT G' H' g') p rp)
  |exc c=>
   intro Cv ao H' y;obtain⟨C4,a4,G4,y1,y2,y3,y4,y5⟩:=y
   exact⟨c,rfl,C4,a4,_,y1,y2,y3,y4,y5.lz sr.sub zc Rc⟩
  |bad=>exact absurd z BD
 ·cases rr with
  |error e=>
   have hr:du X.prog X.w X.stack H s (λCv ao H'=>∃c,F q.f (as++cs)=.exc c/\XE W c G H Cv ao H') e s':=du.less DG hr
   cases z:F q.f (as++cs) with
   |ok q=>
    obtain⟨a,C',t,vs,H',B,rfl,Fl⟩:=hr
    obtain⟨c,e1,_⟩:=Fl.ends
    rw [z] at e1;cases e1
   |exc c=>
    rw [z] at o;refine o aa G H s e s' I (.refl sr.sub) (A8.imp hr λC1 a H' y=>?_);obtain⟨c',e1,y⟩:=y
    rw [z] at e1;cases e1;exact y
   |bad=>exact absurd z BD
  |ok fl=>
   cases fl with
   |ret u=>exact I.after (CE.less DG hr)
   |next=>exact zzk hr
   |brk=>exact zzk hr
   |cont=>exact zzk hr
def Bm(C:cy Γ F W N sc k X)(hl:Γ.hl=true){q:Hs}(hq:q∈Γ.hs){bf:List Nat}{es:Es}{p:Expr}{ps:List Expr}{np pos:Pos}(hg:eC sc q.h=true)(ho:okN q.h=true)(hn:q.np=c7 es+1)(ha:PA X (p::ps) (PR X W F N sc q.g q.idx bf es))
 (cL:starEach (p::ps) X.env=(false,eval p X.env)::starEach ps X.env) (hpl:(backTo pos (starEach ps X.env)).any (·.1)=false):GE X W F (.rK q.f es q.g q.idx bf) (.Call (.Name q.h np) (p::ps) [] pos):=by
 intro aa s σ H Q I h;obtain⟨H0,G,env,sr,o⟩:=h
 rw [aE] at o;obtain⟨fa,fd,pn,FO,hm,hk,hb,hpn⟩:=(C.qr q hq).ex
 refine wpAny_Call_Name_kw (dZ I (cm C hg) hm ?_ (bR ho).1);refine PySem.W.callWith_K (h₀:=X.base) I.ok.mod.O0 hk (bq (ha pos aa s σ H (λvs H2=>∃G2 as cs qv params body scope f c' oc cq t fm pm,vs=qv++[.ref f]/\as.length=c7 es/\SR W H0 env σ G2 H2/\zW N sc q.g q.idx bf params body scope/\mx env bf=.ok cs/\ai W G2 as qv/\G2 f=some (.bt (PySem.W.kla_obj "<lambda>" (X.env.qual++"<lambda>") params body scope (bx X.env (bh scope)) pm c' fm) bz)/\G2 c'=some (.bt oc bz)/\oc.data=.fields cq/\cq[1]?=some (.str (X.env.qual++"<lambda>") t)/\Out X W (F q.f (as++cs)) σ G2 H2 λp=>cg W G2 H2 p Q) I ?_) λus s1 ⟨vs,H1,I1,r,y⟩=>⟨I1.nq,?_⟩) cL hpl
 ·refine⟨H0,G,env,sr,?_⟩;cases e1:cb F es env with
  |bad=>rw [e1] at o;exact o
  |exc c=>rw [e1] at o;exact o
  |ok as=>
   rw [e1] at o;have o:Out X W ((mx env bf).bind λcs=>F q.f (as++cs)) σ G H _:=o
   cases e2:mx env bf with
   |bad=>rw [e2] at o;exact o.elim
   |exc c=>exact absurd e2 (mC c)
   |ok cs=>
    rw [e2] at o;have o:Out X W (F q.f (as++cs)) σ G H _:=o
    intro vs G1 H1 g1 l params body scope f G2 H2 la lm;obtain⟨g2,c',oc,cq,t,fm,pm,m1,m2,m3,m4⟩:=lm
    exact⟨G2,as,cs,vs,params,body,scope,f,c',oc,cq,t,fm,pm,rfl,fO e1,(sr.grow g1).grow g2,la,rfl,ai.same g2.g as l,m1,m2,m3,m4,(o.grow (g1.trans g2)).imp λp hp v G' H' g' rp=>hp v G' H' ((g1.trans g2).trans g') (.of rp)⟩
 ·obtain⟨G2,as,cs,qv,params,body,scope,f,c',oc,cq,t,fm,pm,rfl,hal,c0,la,FA,l,m1,m2,m3,m4,o2⟩:=y
  exact xI C hl FO hb I1 c0 la FA l m1 m2 m3 m4 (by rw [zzM,l.length,hal,hpn,hn];rfl) r o2
def vT{G:Hp}{p:PV}{v:V}(h:Rep W G p v):∀{ps:List PV} {vs:List V},ai W G ps vs->ai W G (ps++[p]) (vs++[v]):=by
 intro ps
 induction ps with
 |nil=>
  intro vs t;have:=t.length
  cases vs with
  |nil=>exact .cons h .nil
  |cons _ _=>cases this
 |cons q ps ih=>
  intro vs t;obtain⟨u,r,rfl,h1,t⟩:=t.aF
  exact .cons h1 (ih t)
def yG{G:Hp}:∀{ps:List PV} {vs:List V},ai W G ps vs->ai W G ps.reverse vs.reverse:=by
 intro ps
 induction ps with
 |nil=>
  intro vs t;have:=t.length
  cases vs with
  |nil=>exact .nil
  |cons _ _=>cases this
 |cons q ps ih=>
  intro vs t;obtain⟨u,r,rfl,h1,t⟩:=t.aF
  rw [List.reverse_cons,List.reverse_cons];exact vT h1 (ih t)
end
end Ci
namespace L2
open PySem PySem.Spec PyProof.Rows PySem.W
end L2
namespace Ci
open PySem L2
section
variable{Γ:Pg}{X:Cx}{W:Wd}{F:bj}{N:List Str}{sc:Scope}{k:Nat}
theorem ML(C:cy Γ F W N sc k X){a b:E}{pa pk:Expr}{apos bp:Pos}(ha:GE X W F a pa)(hk:GE X W F b pk)(hb:attributeBase pa "get" X.env (eval pa X.env)=eval pa X.env)(hl:(apos.endLine==bp.line)=true)(hs:starEach [pk] X.env=(false,eval pk X.env)::starEach [] X.env):
 GE X W F (.get a b) (.Call (.Attribute pa "get" apos) [pk] [] bp):=
 (AX (by have:=C.room.un;omega) ha hk ⟨hb,by rw [hs];rfl,hl,by rw [hs];rfl⟩).imp λσ H Q h=>by
  obtain⟨H0,G,env,sr,o⟩:=h
  rw [aE] at o;refine one sr o λp v G1 H1 g t aQ o1=>?_
  cases p with
  |bM ks vs=>
   obtain⟨d,us,rfl,n,hd,l⟩:=t.top.bM aQ.sub
   refine⟨d,rfl,.inr ⟨_,hd⟩,?_⟩;refine one aQ o1 λq u G2 H2 g2 t2 c0 o2=>?_
   obtain⟨d',us',e,n',OU,l'⟩:=(t.grow g2).top.bM c0.sub
   cases e;cases hq:gQ q with
   |none=>
    have o3:Out X W ((Res.of (gQ q)).bind _) σ G2 H2 _:=o2
    rw [hq] at o3;exact zzk o3
   |some kk=>
    have o3:Out X W ((Res.of (gQ q)).bind _) σ G2 H2 _:=o2
    rw [hq] at o3;have m7:=dz hq
    subst m7;obtain⟨b',rfl,iR⟩:=Top.tupI c0.sub rfl t2.top
    refine⟨_,.inr ⟨_,kk.map .inl,b',OU,rfl,?_,rfl⟩,?_⟩
    ·rw [c0.sub _ _ iR,List.map_map];rfl
    ·rw [show gv (kz ks us') (kk.map .inl)=_ from hV kk ks us'];cases hv:fb ks vs kk with
     |some pv=>
      obtain⟨w',e1,d5⟩:=kD l' hv
      rw [e1];have o4:Out X W (Res.ok ((fb ks vs kk).getD .aK)) σ G2 H2 _:=o3
      rw [hv] at o4;exact o4 w' G2 H2 (g.trans g2) (.of d5)
     |none=>
      have:fb ks us' kk=none:=by
       have h1:=gM kk ks us' n'
       have h2:=gM kk ks vs (by rw [l'.length] at n';exact n')
       rw [hv] at h2;rw [<-h2] at h1;exact Option.isSome_eq_false_iff.mp h1 |> Option.isNone_iff_eq_none.mp
      rw [this];have o4:Out X W (Res.ok ((fb ks vs kk).getD .aK)) σ G2 H2 _:=o3
      rw [hv] at o4;exact o4 .aK G2 H2 (g.trans g2) (.of .n)
  |_=>exact zzk o1
end
end Ci
namespace L2
open PySem PySem.Spec PyProof.Rows
noncomputable def TH(tk tv:TE):TE:=λσ H Q=>∀p,H p=none->tk σ (upd H p (.dT [])) λx H1=>tv σ H1 λy H2=>∃b ks,x=.ref b/\H2 p=some (.dT [])/\H2 b=some (.tup (ks.map kV))/\Q (.ref p) (upd H2 p (.dT (putK [] ks y)))
def Nj{X:Cx}{pos:Pos}{k v:Expr}{tk tv:TE}(hu:X.A.units<cLine)(hk:PE X k tk)(hv:PE X v tv):PE X (.Dict [some k] [v] pos) (TH tk tv):=by
 intro aa s σ H Q I q;have hn:=I.aH.fresh (zzE (zz9 s))
 have I1:=I.laid (a:=(zz9 s)) (o:=.dT []) (h':=s.heap.push {cls:=.type "dict",data:=.dict #[]}) (t':=s.toks) (λ_ _ q=>zzB _ q) (zzE _) (ll s.heap I.big)
 refine wpAny_Dict_any rfl rfl (by simp) (show 1<=15 by decide) (pairTrees_cons_walk (bq (hk aa _ σ _ _ I1 (q _ hn)) λu s1 ⟨x,H1,I1',rx,q1⟩=>bq (hv aa s1 σ H1 _ I1' q1) λw2 s2 ⟨y,H2,I2,ry,q2⟩=>pairTrees_nil_walk ?_))
 obtain⟨b,ks,rfl,e,hb,q3⟩:=q2
 cases rx;unfold storeAll;refine wpAny_forIn_list _ (λrest _ s'=>(rest=[(Value.ref b,w2)]/\s'=s2)\/(rest=[]/\∃v' H',Inv X aa σ H' s'/\RelV v' (.ref (zz9 s))/\Q v' H')) _ (λx rest _ s' hI=>?_) (λ_ s' hI=>?_) _ _ (.inl ⟨rfl,rfl⟩)
 ·rcases hI with⟨h1,rfl⟩|⟨h1,_⟩
  ·cases h1;refine zzA (Bp hu I2 e hb (by decide) ry λh' t hs I3=>zzG (.inr ⟨rfl,.ref _,_,I3,rfl,q3⟩))
  ·cases h1
 ·rcases hI with⟨h1,_⟩|⟨_,v',H',I',r',q'⟩
  ·cases h1
  ·exact⟨v',H',I',r',q'⟩
def CI{X:Cx}{pos:Pos}{k v:Expr}{n:Nat}{y:V}(hu:X.A.units<cLine)(hk:PE X k (ue n))(hv:PE X v (tC y)):PE X (.Dict [some k] [v] pos) (λσ H Q=>∃b ks,σ[n]?=some (some (.ref b))/\H b=some (.tup (ks.map kV))/\∀p o,H p=none->Q (.ref p) (upd H p (.bt o (.dT (putK [] ks y))))):=by
 intro aa s σ H Q I ⟨b,ks,hb,ht,q⟩;refine wpAny_mono (Nj hu hk hv aa s σ H (λv' H'=>∃p,v'=.ref p/\H p=none/\H'=upd H p (.dT (putK [] ks y))) I λp hp=>⟨_,hb,b,ks,rfl,aj,?_,p,rfl,hp,?_⟩) ?_ λ_ _ z=>z
 ·rw [ag (λz=>by rw [z,hp] at ht;cases ht)];exact ht
 ·exact vQ
 ·rintro u s' ⟨v',H',I',rv,p,rfl,hp,rfl⟩
  obtain⟨o,J⟩:=I'.freeze aj
  rw [vQ] at J;exact⟨_,_,J,rv,q p o hp⟩
end L2
namespace Ci
open PySem L2
section
variable{Γ:Pg}{X:Cx}{W:Wd}{F:bj}{N:List Str}{sc:Scope}{k:Nat}
def DE(C:cy Γ F W N sc k X){a:E}{n:Int}{pa:Expr}{c1:Nat}{c2 q1 q4 q5:Pos}(hg:eC sc "max"=true)(hm:Γ.bs.contains "max"=true)(ha:GE X W F a pa)(hs:starEach [pa] X.env=(false,eval pa X.env)::starEach [] X.env):
 GE X W F (.maxD a n) (.Call (.Name "max" q1) [pa] [⟨some "default",.Constant (.int n) c1 c2,q4⟩] q5):=by
 intro aa s σ H Q I h;obtain⟨H0,G,env,sr,o⟩:=h
 rw [aE] at o;refine wpAny_Call_Name_kw (dq I (cm C hg) (C.bs _ (zzn.mp hm)) (u:=.builtin "max") (by decide+kernel) ?_);refine PyProof.Rows.callWith_kw (bq ((ba ha bP hs) q5 aa s σ H (λvs H1=>∃p ns,vs=[.ref p]/\df X.K H1 p (ns.map V.int)/\Q (.int (maxD ns n)) H1) I ?_) λus s1 ⟨vs,H1,I1,r1,q1⟩=>?_) (by rw [hs];rfl) (by rw [hs];rfl)
 ·refine one sr o λx v G1 H1 g1 t aQ o1=>?_
  cases x with
  |lst xs=>
   obtain⟨a',vs,rfl,h1,l1⟩:=t.top.lst aQ.sub
   have o2:Out X W ((Res.of (intsOf xs)).bind _) σ G1 H1 _:=o1
   cases e:intsOf xs with
   |none=>rw [e] at o2;exact zzk o2
   |some ns=>
    rw [e] at o2;cases lN l1 e;exact⟨a',ns,rfl,iU C.K h1,o2 _ G1 H1 g1 (.of .i)⟩
  |_=>exact zzk o1
 ·obtain⟨p,ns,rfl,hp,q⟩:=q1
  obtain⟨u,rfl,ru⟩:=vals1 r1
  cases ru;refine PyProof.Rows.kws_cons (bq (mw aa s1 σ H1 (λv2 H2=>v2=.int n/\H2=H1) I1 ⟨rfl,rfl⟩) λu s2 hu=>PyProof.Rows.kws_nil ?_)
  obtain⟨v2,H2,I2,ru2,rfl,rfl⟩:=hu
  obtain⟨t,rfl⟩:=ru2
  exact wx C.calm I2 hp q
theorem Nb(C:cy Γ F W N sc k X){n:Nat}{z:Str}{zp cp pos:Pos}{j:Nat}(hz:N[n]?=some z)(RK:cD sc z=true)(Rj:okN z=true):GE X W F (.RI n) (.Dict [some (.Name z zp)] [.Constant .none j cp] pos):=
 (CI (by have:=C.room.un;omega) (dS (by rw [C.hN];exact hz) (mJ C RK) (bR Rj).1 (bR Rj).2.1) yg).imp λσ H Q h=>by
  obtain⟨H0,G,env,sr,o⟩:=h
  rw [aE] at o;cases e:env[n]? with
  |none=>rw [e] at o;exact zzk o
  |some sl=>
   rw [e] at o;cases sl with
   |val kp=>
    have o':Out X W ((Res.of (gQ kp)).bind λkk=>Res.ok (PV.bM [kk] [.aK])) σ G H _:=o
    cases hk:gQ kp with
    |none=>rw [hk] at o';exact zzk o'
    |some kk=>
     rw [hk] at o';have e2:=dz hk
     subst e2;obtain⟨v,hv,rv⟩:=sr.slot n _ e
     obtain⟨v',rfl,rv⟩:=rv
     obtain⟨ad,rfl,hb⟩:=kj rv
     refine⟨ad,ki kk,hv,by rw [m8];exact sr.sub _ _ hb,λp ob hp=>?_⟩
     refine o' _ _ _ (.new sr.sub hp) (.of ?_);simp! [Rep];exact⟨p,ob,[.aK],rfl,rfl,aj,ai.same (aY (sr.sub.free hp)) _ (.cons .n .nil)⟩
   |no=>exact zzk o
   |own _=>exact zzk o
   |fn _ _ _=>exact zzk o
theorem lend{H0 G H:Hp}(sg:az G H):∀{vs:List V} {ps:List PV},Paired (λv p=>Top W H0 G H p v) vs ps->(ps.all λp=>!Bf p)=true->∃G',az G G'/\az G' H/\(∀x,G x=none->G' x≠none->∃us,H x=some (.lst us))/\ai W G' ps vs
 |_,_,.nil,_=>⟨G,az.refl _,sg,λx h1 h2=>absurd h1 h2,.nil⟩
 |_,_,.cons (a:=v) (b:=p) h t,hd=>by
  rw [List.all_cons,zza] at hd;obtain⟨G',h1,h2,h3,h4⟩:=lend sg t hd.2
  rcases h with h|h
  ·exact⟨G',h1,h2,h3,.cons (Rep.same h1 p h) h4⟩
  ·cases p with
   |lst xs=>
    obtain⟨a,us,rfl,e1,e2,e3,l⟩:=h
    have s1:az G' (upd G' a (.lst us)):=λb o e=>by
     by_cases hb:b=a
     ·subst hb;have:=h2 _ _ e
      rw [e1] at this;cases this;exact aj
     ·rw [ag hb];exact e
    refine⟨upd G' a (.lst us),λb o e=>s1 _ _ (h1 _ _ e),λb o e=>?_,λx n1 n2=>?_,.cons ?_ (ai.same s1 _ h4)⟩
    ·by_cases hb:b=a
     ·subst hb;rw [aj] at e;cases e;exact e1
     ·rw [ag hb] at e;exact h2 _ _ e
    ·by_cases hb:x=a
     ·subst hb;exact⟨us,e1⟩
     ·rw [ag hb] at n2;exact h3 x n1 n2
    ·exact .l (.inl (.inl aj)) (ai.same (λb o e=>s1 _ _ (h1 _ _ e)) _ l)
   |bM ks qs=>cases hd.1
   |_=>exact h.elim
def zG{G G':Hp}{p:PV}{v:V}(h:lV p=true)(r:Rep W G p v):Rep W G' p v:=by
 cases p<;>first|(exact aM h)|(simpa only [Rep] using r)
def Bl(C:cy Γ F W N sc k X){f:Str}{e:E}{es:Es}{p:Expr}{ps:List Expr}{np pos:Pos}(hf:Γ.fs.contains f=true)(hg:eC sc f=true)(ho:okN f=true)(ha:GA X W F (.cons e es) (p::ps))
 (cL:starEach (p::ps) X.env=(false,eval p X.env)::starEach ps X.env) (hpl:(backTo pos (starEach ps X.env)).any (·.1)=false):GE X W F (.vS f (.cons e es)) (.Call (.Name f np) (p::ps) [] pos):=by
 intro aa s σ H Q I h;obtain⟨H0,G,env,sr,o⟩:=h
 rw [aE] at o;obtain⟨fa,fd,pn,FO,hm,hk,hb,hlen⟩:=(C.fns f hf).ex
 refine wpAny_Call_Name_kw (dZ I (cm C hg) hm ?_ (bR ho).1);refine PySem.W.callWith_K (h₀:=X.base) I.ok.mod.O0 hk (bq (ha pos aa s σ H (λvs H1=>∃G1 as,az G1 H1/\bL W G1 H1/\ai W G1 as vs/\Out X W (F f as) σ G1 H1 λp=>cg W G1 H1 p Q) I ?_) λus s1 ⟨vs,H1,I1,r,q⟩=>⟨I1.nq,?_⟩) cL hpl
 ·refine args sr o λas vs G1 H1 g1 t aQ o1=>?_
  cases hd:as.all λp=>!Bf p with
  |false=>rw [hd] at o1;exact zzk o1
  |true=>
   rw [hd] at o1;obtain⟨G',l1,l2,l3,l4⟩:=lend aQ.sub t.top hd
   have UO:∀a,H1 a≠none->(∀vs,H1 a≠some (.lst vs))->G1 a=none->G' a=none:=λa h1 h2 h3=>by
    cases e:G' a with
    |none=>rfl
    |some o=>obtain⟨us,hu⟩:=l3 a h3 (by rw [e];exact λz=>nomatch z);exact absurd hu (h2 us)
   have tb:bL W G' H1:=λP q m=>by
    obtain⟨n,ps,e,tr,al⟩:=aQ.tab P q m
    refine⟨UO P (by rw [e];exact λz=>nomatch z) (by rw [e];exact λ_ z=>nomatch z) n,ps,e,tr,λpos cv y=>?_⟩
    obtain⟨c',oc,cq,t,e1,e2,e3,e4⟩:=al pos cv y
    exact⟨c',oc,cq,t,e1,l1 _ _ e2,e3,e4⟩
   refine⟨G',as,l2,tb,l4,?_⟩;cases z:F f as with
   |bad=>rw [z] at o1;exact zzk o1
   |exc c=>rw [z] at o1;exact zzk o1
   |ok r=>
    rw [z] at o1;cases hs:lV r with
    |false=>
     have o2:Out X W (if lV r=true then Res.ok r else .bad) σ G1 H1 _:=o1
     rw [hs] at o2;exact zzk o2
    |true=>
     have o2:Out X W (if lV r=true then Res.ok r else .bad) σ G1 H1 _:=o1
     rw [hs] at o2;intro v G2 H2 g2 rv
     classical
     let G3:Hp:=λx=>if G1 x=none/\G' x≠none then none else G2 x
     have e3:∀x,¬(G1 x=none/\G' x≠none)->G3 x=G2 x:=λx h=>if_neg h
     have e4:∀x,(G1 x=none/\G' x≠none)->G3 x=none:=λx h=>if_pos h
     refine o2 v G3 H2 (g1.trans ⟨λb ob eb=>?_,g2.h,λb ob eb=>?_,λa h1 h2 h3=>?_,λ_=>?_⟩) (.of (zG hs rv))
     ·rw [e3 b (λz=>by rw [z.1] at eb;cases eb)];exact g2.g _ _ (l1 _ _ eb)
     ·by_cases hb:G1 b=none/\G' b≠none
      ·rw [e4 b hb] at eb;cases eb
      ·rw [e3 b hb] at eb;exact g2.sub _ _ eb
     ·by_cases hb:G1 a=none/\G' a≠none
      ·exact e4 a hb
      ·rw [e3 a hb];exact g2.own a h1 h2 (Classical.byContradiction λz=>hb ⟨h3,z⟩)
     ·have Xp:=g2.tab tb
      intro P q m;obtain⟨n,ps,e,tr,al⟩:=Xp P q m
      have gP:G' P=none:=(tb P q m).1
      refine⟨by rw [e3 P (λz=>z.2 gP)];exact n,ps,e,tr,λpos cv y=>?_⟩
      obtain⟨c',oc,cq,t,q1,q2,q3,q4⟩:=al pos cv y
      refine⟨c',oc,cq,t,q1,?_,q3,q4⟩;rw [e3 c' λz=>?_]
      ·exact q2
      ·obtain⟨us,hu⟩:=l3 c' z.1 z.2
       have w1:=g2.h.at hu (λ_ z=>nomatch z)
       rw [g2.sub _ _ q2] at w1;cases w1
 ·obtain⟨G1,as,sg,tb,l,o1⟩:=q
  exact i8 C.rm FO hb (λz=>by rw [l.length];exact hlen as z) I1 sg tb l r o1
end
end Ci
namespace L2
open PySem PySem.Spec PyProof.Rows
def A5(items:Array Value):slicePick items none none (some 1)=items:=by
 have e:slicePick items none none (some 1)=slicePick items none none none:=rfl
 rw [e,gV];simp [HT.Bx];rw [List.take_of_length_le (by simp)]
section
variable{X:Cx}{e st:Expr}{te ts:TE}{pos p2:Pos}
noncomputable def U3(K:zz8)(te ts:TE):TE:=λσ H Q=>te σ H λx H1=>ts σ H1 λk H2=>∃a xs,x=.ref a/\df K H2 a xs/\((k=.int (-1)/\∀p,H2 p=none->Q (.ref p) (upd H2 p (.lst xs.reverse)))\/(k=.int 1/\∀p,H2 p=none->Q (.ref p) (upd H2 p (.lst xs))))
def NI(he:PE X e te)(hs:PE X st ts):PE X (.Subscript e (.Slice none none (some st) p2) pos) (U3 X.K te ts):=by
 intro aa s σ H Q I h;refine Subscript_ (bq (he aa s σ H _ I h) λv s1 ⟨x,H1,I1,r1,q1⟩=>?_)
 refine wpAny_Slice ?_;rw [evalPart_none];refine zzG (zzG ?_);rw [evalPart_some];refine bq (hs aa s1 σ H1 _ I1 q1) λu s3 ⟨k,H3,I3,r3,q3⟩=>?_
 obtain⟨a,xs,rfl,hx,q3⟩:=q3
 cases r1;rcases q3 with⟨rfl,q3⟩|⟨rfl,q3⟩
 ·obtain⟨t,rfl⟩:=r3
  have I4:Inv X aa σ H3 {s3 with heap:=s3.heap.push {cls:=.type "slice",data:=.fields #[.none,.none,.int (-1) t]}}:=I3.kept (t':=s3.toks) λb ob q=>zzB _ q
  obtain⟨T,id,hT,ht,hg⟩:=KR aa {s3 with heap:=s3.heap.push {cls:=.type "slice",data:=.fields #[.none,.none,.int (-1) t]}} σ H3 (.ref a) (.ref a) (.int (-1) t) (zz9 s3) Q I4 rfl (Heap.IsSliceOf.new ..) (.int _ _) ⟨a,xs,rfl,hx,q3⟩
  show wpAny (model X.prog X.w) X.A (subscriptTail e (.Slice none none (some st) p2) (.ref a) (.ref (zz9 s3))) (EP X aa σ Q) X.xe {s3 with heap:=s3.heap.push {cls:=.type "slice",data:=.fields #[.none,.none,.int (-1) t]}}
  exact tail_any (ops:=[.ref a,.ref (zz9 s3)]) ht hT hg (by with_unfolding_all rfl)
 ·obtain⟨t,rfl⟩:=r3
  have I4:Inv X aa σ H3 {s3 with heap:=s3.heap.push {cls:=.type "slice",data:=.fields #[.none,.none,.int 1 t]}}:=I3.kept (t':=s3.toks) λb ob q=>zzB _ q
  obtain⟨ak,r,ht,hz⟩:=I4.list hx
  show wpAny (model X.prog X.w) X.A (subscriptTail e (.Slice none none (some st) p2) (.ref a) (.ref (zz9 s3))) (EP X aa σ Q) X.xe {s3 with heap:=s3.heap.push {cls:=.type "slice",data:=.fields #[.none,.none,.int 1 t]}}
  refine tail_any (ops:=[.ref a,.ref (zz9 s3)]) (T:="list") ⟨_,ht.isList.choose_spec.1,ht.isList.choose_spec.2.1⟩ PySem.F.slot_list_getitem.lookup ?_ (by with_unfolding_all rfl);refine wpAny_getItem_list_slice ht.isList (Heap.IsSliceOf.new ..) .none .none (.int _ _) (by decide) ?_ (by rw [zzC,<-r.length];exact hz);rw [A5];refine⟨.ref _,_,I4.laid (t':=s3.toks) (o:=.lst xs) (λb ob q=>zzB _ q) (zzE _) ?_,rfl,q3 _ (I4.aH.fresh (zzE _))⟩;exact⟨hz,_,0,r,zzX _ rfl⟩
end
end L2
namespace Ci
open PySem L2
section
variable{Γ:Pg}{X:Cx}{W:Wd}{F:bj}{N:List Str}{sc:Scope}{k:Nat}
theorem IW(C:cy Γ F W N sc k X){a b:E}{pa st:Expr}{p2 pos:Pos}(ha:GE X W F a pa)(hs:GE X W F b st):GE X W F (.MC a b) (.Subscript pa (.Slice none none (some st) p2) pos):=
 (NI ha hs).imp λσ H Q h=>by
  obtain⟨H0,G,env,sr,o⟩:=h
  rw [aE] at o;refine one sr o λp v G1 H1 g t aQ o1=>?_
  refine one aQ o1 λq v2 G2 H2 g2 t2 c0 o2=>?_
  have t3:=t.grow g2
  cases p with
  |lst xs=>
   cases q with
   |int n=>
    obtain⟨l,vs,rfl,h1,l1⟩:=t3.top.lst c0.sub
    refine⟨l,vs,rfl,iU C.K h1,?_⟩
    by_cases n1:n=1
    ·subst n1;have o3:Out X W (Res.ok (PV.lst xs)) σ G2 H2 _:=o2
     exact .inr ⟨t2.top.int,λp hp=>cg.lst (W:=W) (G:=G2) (H:=H2) (xs:=xs) (λw G' H' g' d5=>o3 w G' H' ((g.trans g2).trans g') (.of d5)) c0.sub l1 hp⟩
    ·by_cases n2:n= -1
     ·subst n2;have o3:Out X W (Res.ok (PV.lst xs.reverse)) σ G2 H2 _:=o2
      exact .inl ⟨t2.top.int,λp hp=>cg.lst (W:=W) (G:=G2) (H:=H2) (xs:=xs.reverse) (λw G' H' g' d5=>o3 w G' H' ((g.trans g2).trans g') (.of d5)) c0.sub (yG l1) hp⟩
     ·have o3:Out X W (if n=1 then Res.ok (PV.lst xs) else if n= -1 then Res.ok (PV.lst xs.reverse) else .bad) σ G2 H2 _:=o2
      rw [if_neg n1,if_neg n2] at o3;exact o3.elim
   |_=>exact zzk o2
  |_=>cases q<;>exact zzk o2
def Mj{X:Cx}{e:E}{p:Expr}(h:GE X W F e p)(he:∀whole,isTrue p X.env whole=(do let v<-whole;standAt p.pos;holding [v] (truthy v))):GT X W F e p:=
 L2.PT.imp (J5 h he) λσ H Q hq=>Fw σ H Q hq
theorem yj{N:List Str}{sc:Scope}:∀{es:Es} {ps:List Expr},dc Γ N sc es ps=true->∀env pos,(backTo pos (starEach ps env)).all (λx=>!x.1)=true
 |.nil,[],_,_,_=>rfl
 |.cons e es,p::ps,h,env,pos=>by
  replace h:=aw h
  rw [notStar h.1];show(true&&(backTo pos (starEach ps env)).all (λx=>!x.1))=true
  rw [yj h.2]
  rfl
 |.nil,_::_,h,_,_=>aM h
 |.cons _ _,[],h,_,_=>aM h
theorem BV{N:List Str}{sc:Scope}:∀{es:Es} {ps:List Expr},dc Γ N sc es ps=true->ps.length=c7 es
 |.nil,[],_=>rfl
 |.cons e es,p::ps,h=>by
  replace h:=aw h
  rw [zzL,BV h.2]
  rfl
 |.nil,_::_,h=>aM h
 |.cons _ _,[],h=>aM h
structure Xl(X:Cx)(W:Wd)(F:bj)(e:E)(p:Expr):Prop where
 ge:GE X W F e p
 gt:fk e=true->GT X W F e p
 gw:fk e=true->∀op vs pos,p=.BoolOp op vs pos->GW X W F e p
def aV{X:Cx}{e:E}{p:Expr}(h:GE X W F e p)(he:∀whole,isTrue p X.env whole=(do let v<-whole;standAt p.pos;holding [v] (truthy v)))(hb:∀op vs pos,p≠.BoolOp op vs pos):Xl X W F e p:=
 ⟨h,λ_=>Mj h he,λ_ op vs pos e=>absurd e (hb op vs pos)⟩
def isTrue_plain{p:Expr}{env:Env}(h:(match p with|.UnaryOp .Not _ _=>false|.BoolOp .. =>false|.IfExp .. =>false|.Compare .. =>false|_=>true)=true):∀whole,isTrue p env whole=(do let v<-whole;standAt p.pos;holding [v] (truthy v)):=by
 intro whole;cases p with
 |UnaryOp op a pos=>cases op<;>first|rfl|(exact aM h)
 |BoolOp _ _ _=>exact aM h
 |IfExp _ _ _ _=>exact aM h
 |Compare _ _ _ _=>exact aM h
 |_=>rfl
def uw{po:Expr}{m:Str}{env:Env}(h:u4 po=true):attributeBase po m env (eval po env)=eval po env:=by
 cases po<;>first|rfl|(exact aM h)
def zN{po:Expr}{m:Str}{env:Env}(h:F0 po=true):attributeBase po m env (eval po env)=eval po env:=by
 cases po with
 |Call f as kws p=>
  cases as with
  |nil=>exact aM h
  |cons a as=>cases f<;>rfl
 |_=>rfl
theorem j2{N:List Str}{sc:Scope}{g:Str}{idx bf:List Nat}:∀{es:Es} {ps:List Expr},vj Γ N sc g idx bf es ps=true->∀env pos,(backTo pos (starEach ps env)).any (·.1)=false
 |.cons e es,p::ps,h,env,pos=>by
  replace h:=aw h
  rw [notStar h.1];show(false||(backTo pos (starEach ps env)).any (·.1))=false
  rw [j2 h.2]
  rfl
 |.nil,ps,h,env,pos=>by
  obtain⟨p,e1,h⟩:=ah h
  obtain⟨l,e2,_⟩:=ah h
  rw [bQ e1];obtain⟨_,rfl⟩:=uq e2
  rfl
 |.cons _ _,[],h,_,_=>aM h
def Lu{X:Cx}{q:PV}{c:Const}{kk:Nat}{pos:Pos}(h:PK q c=true):GE X W F (.cst q) (.Constant c kk pos):=by
 cases q with
 |aK=>cases yN h;exact iN yg λG=>.n
 |bl b=>
  obtain⟨x,e,h⟩:=ah h
  cases Nh e;cases eq_of_beq h;exact iN QK λG=>.b
 |int i=>
  obtain⟨x,e,h⟩:=ah h
  cases o7 e;cases eq_of_beq h;exact iN mw λG=>.i
 |str z=>
  obtain⟨x,e,h⟩:=ah h
  cases BM e;cases eq_of_beq h;exact iN BQ λG=>.s
 |_=>exact aM h
def yE{α:Type}{r:Res α}{c:α->Prop} [∀a,Decidable (c a)]{f:α->Res (List PV)}{q:PV}(e:(r.bind λa=>if c a then(f a).bind λys=>.ok (.lst ys) else .bad)=.ok q):∃ys,q=.lst ys:=by
 obtain⟨ps,_,e⟩:=Res.aP e
 split at e
 ·obtain⟨ys,_,e⟩:=Res.aP e
  cases e;exact⟨_,rfl⟩
 ·cases e
def vo{kk:Nat}{bf:List Nat}{tg:Tg}{it:I}{elt:E}(env:Sl)(q:PV)(e:aE F (.comp kk bf tg it elt) env=.ok q):∃ys,q=.lst ys:=by
 rw [aE] at e;exact yE e
def nO{kk:Nat}{bf:List Nat}{tg:Tg}{it:I}{c elt:E}(env:Sl)(q:PV)(e:aE F (.cx kk bf tg it c elt) env=.ok q):∃ys,q=.lst ys:=by
 rw [aE] at e;exact yE e
mutual
theorem aW:∀(e:E) {Γ:Pg} {N:List Str} {sc:Scope} {X:Cx} (C:cy Γ F W N sc k X) (p:Expr),aR Γ N sc e p=true->Xl X W F e p
 |.var i,Γ,N,sc,X,C,p,h=>by
  obtain⟨x,_,rfl,h9⟩:=HM h
  clear h
  have h:=h9
  clear h9
  exact aV (Hz C h) (λ_=>rfl) (λ_ _ _ z=>nomatch z)
 |.kP i,Γ,N,sc,X,C,p,h=>by
  obtain⟨x,_,rfl,h9⟩:=HM h
  clear h
  have h:=h9
  clear h9
  exact aV (JS C h) (λ_=>rfl) (λ_ _ _ z=>nomatch z)
 |.cst q,Γ,N,sc,X,C,p,h=>by
  obtain⟨c,_,_,rfl,h9⟩:=TC h
  clear h
  have h:=h9
  clear h9
  refine aV (Lu h) (λ_=>rfl) (λ_ _ _ z=>nomatch z)
 |.glob g q,Γ,N,sc,X,C,p,h=>by
  obtain⟨x,_,rfl,h9⟩:=HM h
  clear h
  have h:=h9
  clear h9
  exact aV (Ep C h) (λ_=>rfl) (λ_ _ _ z=>nomatch z)
 |.call f as,Γ,N,sc,X,C,p,h=>by
  obtain⟨g,args,_,_,rfl,h9⟩:=vX h
  clear h
  have h:=h9
  clear h9
  replace h:=aw h
  try simp! [zza,zzy] at h
  obtain⟨⟨⟨⟨⟨rfl,h1⟩,h2⟩,h3⟩,h4⟩,h5⟩:=h
  have ga:=eJ as C args h5
  cases as with
  |nil=>
   cases args with
   |nil=>exact aV (yF C h1 h2 h3) (λ_=>rfl) (λ_ _ _ z=>nomatch z)
   |cons _ _=>exact aM h5
  |cons e es=>
   cases args with
   |nil=>exact aM h5
   |cons q qs=>
    have h6:=aw h5
    exact aV (D4 C h1 h2 h3 h4 ga (notStar h6.1 _ _) (cu h6.2 _ _)) (λ_=>rfl) (λ_ _ _ z=>nomatch z)
 |.vS f as,Γ,N,sc,X,C,p,h=>by
  obtain⟨g,args,_,_,rfl,h9⟩:=vX h
  clear h
  replace h:=aw h9
  clear h9
  try simp! [zza,zzy] at h
  obtain⟨⟨⟨⟨⟨rfl,h1⟩,h2⟩,h3⟩,h4⟩,h5⟩:=h
  have ga:=eJ as C args h5
  cases as with
  |nil=>exact aM h4
  |cons e es=>
   cases args with
   |nil=>exact aM h5
   |cons q qs=>
    have h6:=aw h5
    exact aV (Bl C h1 h2 h3 ga (notStar h6.1 _ _) (cu h6.2 _ _)) (λ_=>rfl) (λ_ _ _ z=>nomatch z)
 |.sh i as,Γ,N,sc,X,C,p,h=>by
  obtain⟨g,args,_,_,rfl,h9⟩:=vX h
  clear h
  have h:=h9
  clear h9
  replace h:=aw h
  simp! [zza] at h;obtain⟨⟨⟨⟨⟨h1,h2⟩,h3⟩,h4⟩,h6⟩,h5⟩:=h
  have ga:=eJ as C args h5
  cases as with
  |nil=>exact aM h6
  |cons e es=>
   cases args with
   |nil=>exact aM h5
   |cons q qs=>
    have h6:=aw h5
    exact aV (Ac C (by rw [h1,h2,h3];rfl) h4 ga (notStar h6.1 _ _) (cu h6.2 _ _)) (λ_=>rfl) (λ_ _ _ z=>nomatch z)
 |.rK f as g idx bf,Γ,N,sc,X,C,p,h=>by
  obtain⟨hN,args,_,_,rfl,h9⟩:=vX h
  clear h
  have h:=h9
  clear h9
  replace h:=aw h
  simp! [zza,zzj,zzy] at h;obtain⟨⟨⟨⟨⟨⟨h1,h2⟩,h3⟩,h4⟩,h6⟩,q,hq,⟨⟨⟨rfl,rfl⟩,rfl⟩,rfl⟩,hd⟩,h5⟩:=h
  have TV:=zzY hd
  have ga:=Fq as C h1 q.g q.idx bf args h4 h5
  cases as with
  |nil=>exact aM h6
  |cons e es=>
   cases args with
   |nil=>exact aM h5
   |cons p qs=>
    have h6:=aw h5
    exact aV (Bm C h1 hq h2 h3 TV ga (notStar h6.1 _ _) (j2 h6.2 _ _)) (λ_=>rfl) (λ_ _ _ z=>nomatch z)
 |.blt b as,Γ,N,sc,X,C,p,h=>by
  obtain⟨g,args,_,_,rfl,h9⟩:=vX h
  clear h
  have h:=h9
  clear h9
  replace h:=aw h
  try simp! [zza,zzy] at h
  obtain⟨⟨⟨⟨rfl,h1⟩,h2⟩,h3⟩,h5⟩:=h
  have ga:=eJ as C args h5
  cases as with
  |nil=>exact aM h3
  |cons e es=>
   cases args with
   |nil=>exact aM h5
   |cons q qs=>
    have h6:=aw h5
    exact aV (Lj C b h1 h2 ga (notStar h6.1 _ _) (cu h6.2 _ _)) (λ_=>rfl) (λ_ _ _ z=>nomatch z)
 |.ty t a,Γ,N,sc,X,C,p,h=>by
  obtain⟨g,args,_,_,rfl,h9⟩:=vX h
  clear h
  have h:=h9
  clear h9
  obtain⟨pa,pb,z2,h2⟩:=Ak h
  obtain⟨tn,_,z3,h3⟩:=HM h2
  dsimp only at z2 z3;subst z2 z3
  clear h h2
  have h:=h3
  clear h3
  replace h:=aw h
  try simp! [zza,zzy] at h
  obtain⟨⟨⟨⟨⟨⟨rfl,h1⟩,h2⟩,rfl⟩,h3⟩,h4⟩,h5⟩:=h
  exact aV (Ri C h1 h2 h3 h4 (aW a C pa h5).ge (notStar h5)) (λ_=>rfl) (λ_ _ _ z=>nomatch z)
 |.B5 c a,Γ,N,sc,X,C,p,h=>by
  obtain⟨g,args,_,_,rfl,h9⟩:=vX h
  clear h
  have h:=h9
  clear h9
  obtain⟨pa,pb,z2,h2⟩:=Ak h
  obtain⟨tn,_,z3,h3⟩:=HM h2
  dsimp only at z2 z3;subst z2 z3
  clear h h2
  have h:=h3
  clear h3
  replace h:=aw h
  try simp! [zza] at h
  obtain⟨⟨⟨⟨⟨⟨⟨e1,h1⟩,h2⟩,e2⟩,h3⟩,h4⟩,h5⟩,h6⟩:=h
  cases zzy.mp e1;cases zzy.mp e2;exact aV (Jl C h1 h2 h3 h4 h5 (aW a C pa h6).ge (notStar h6) C.O2) (λ_=>rfl) (λ_ _ _ z=>nomatch z)
 |.B6 m o as,Γ,N,sc,X,C,p,h=>by
  obtain⟨⟨f,args,kws,pos⟩,e,h1⟩:=ah h
  have z:=fV e
  obtain⟨⟨po,attr,apos⟩,e2,h2⟩:=ah h1
  have z2:=uF e2
  have h3:=aw h2
  have z3:=zJ h3.1
  dsimp only at z z2 z3;subst z z2 z3
  clear h h1 h2
  have h:=aw h3.2
  clear h3
  simp! [zza] at h;obtain⟨⟨⟨⟨⟨⟨e1,h1⟩,h2⟩,h3⟩,h4⟩,h5⟩,h6⟩:=h
  cases zzy.mp e1;have ga:=eJ as C args h5
  cases as with
  |nil=>exact aM h1
  |cons e es=>
   cases args with
   |nil=>exact aM h5
   |cons q qs=>
    have h7:=aw h5
    have hl:=BV h5
    refine aV (Ig C (aW o C po h4).ge ga (uw h6) ?_ h3 (notStar h7.1 _ _) (cu h7.2 _ _)) (λ_=>rfl) (λ_ _ _ z=>nomatch z);rw [yj h5];have x8:=zzY h2
    refine Bool.and_eq_true_iff.mpr ⟨rfl,zzh ?_⟩;rw [hl];exact x8
 |.bin o a b,Γ,N,sc,X,C,p,h=>by
  obtain⟨q,e,h1⟩:=ah h
  obtain⟨_,rfl⟩:=L4 e
  clear h
  have h:=aw h1
  have h0:=aw h.1
  rw [<-zzY h0.1];exact aV (IK C (aW a C _ h0.2).ge (aW b C _ h.2).ge) (λ_=>rfl) (λ_ _ _ z=>nomatch z)
 |.cmp o a b,Γ,N,sc,X,C,p,h=>by
  obtain⟨pa,ops,cs,_,rfl,h1⟩:=Wx h
  obtain⟨op,z2,h2⟩:=gO h1
  obtain⟨pb,z3,h3⟩:=gO h2
  dsimp only at z2 z3;subst z2 z3
  clear h h1 h2
  have h:=h3
  clear h3
  replace h:=aw h
  have h0:=aw h.1
  cases zzY h0.1;have h1:=h0.2
  have h2:=h.2
  exact⟨KY C (aW a C _ h1).ge (aW b C _ h2).ge (pB h2 _),λ_=>JU C (aW a C _ h1).ge (aW b C _ h2).ge (pB h2 _),(λ_ _ _ _ z=>nomatch z)⟩
 |.ch o1 o2 a b c,Γ,N,sc,X,C,p,h=>by
  obtain⟨pa,ops,cs,_,rfl,h1⟩:=Wx h
  obtain⟨op1,op2,z2,h2⟩:=Ak h1
  obtain⟨pb,pc,z3,h3⟩:=Ak h2
  dsimp only at z2 z3;subst z2 z3
  clear h h1 h2
  have h:=h3
  clear h3
  replace h:=aw h
  try simp! [zza,zzN] at h
  obtain⟨⟨⟨⟨rfl,rfl⟩,h1⟩,h2⟩,h3⟩:=h
  have hm:lastMarks [qA o1,qA o2] [pb,pc]=false:=pB h3 _
  exact⟨PM C (aW a C _ h1).ge (aW b C _ h2).ge (aW c C _ h3).ge hm,λ_=>Pj C (aW a C _ h1).ge (aW b C _ h2).ge (aW c C _ h3).ge hm,(λ_ _ _ _ z=>nomatch z)⟩
 |.not a,Γ,N,sc,X,C,p,h=>by
  obtain⟨o,pa,_,rfl,h1⟩:=WA h
  clear h
  have h:=aw h1
  cases BE h.1;have s:=aW a C pa h.2
  exact⟨MY s.ge,λz=>LU (s.gt (by simpa only [fk] using z)),(λ_ _ _ _ z=>nomatch z)⟩
 |.neg a,Γ,N,sc,X,C,p,h=>by
  obtain⟨o,pa,_,rfl,h1⟩:=WA h
  clear h
  have h:=aw h1
  cases A9 h.1;exact aV (Jm (aW a C pa h.2).ge) (λ_=>rfl) (λ_ _ _ z=>nomatch z)
 |.and a b,Γ,N,sc,X,C,p,h=>by
  obtain⟨o,vs,pos,rfl,h1⟩:=VR h
  obtain⟨⟨pa,pb⟩,e2,h2⟩:=ah h1
  clear h h1
  have h:=aw h2
  clear h2
  try simp! [zza] at h
  obtain⟨⟨⟨h0,he⟩,h1⟩,h2⟩:=h
  cases yw h0;have sa:=aW a C pa h1
  have sb:=aW b C pb h2
  rcases Ba e2 with z|⟨q,c,r,z,z2⟩
  ·dsimp only at z;subst z;have gw:fk (.and a b)=true->GW X W F (.and a b) (.BoolOp .And [pa,pb] pos):=λz=>by
    have z:=aw z
    exact AU (sa.gt z.1) (pw_and1 (sb.gt z.2))
   exact⟨Bi he sa.ge (zx sb.ge),λz=>(gw z).pt,λz _ _ _ _=>gw z⟩
  ·dsimp only at z z2;subst z z2;have gw:fk (.and a b)=true->GW X W F (.and a b) (.BoolOp .And (pa::q::c::r) pos):=λz=>by
    have z:=aw z
    exact AU (sa.gt z.1) (sb.gw z.2 _ _ _ rfl)
   exact⟨Bi he sa.ge sb.ge,λz=>(gw z).pt,λz _ _ _ _=>gw z⟩
 |.or a b,Γ,N,sc,X,C,p,h=>by
  obtain⟨o,vs,pos,rfl,h1⟩:=VR h
  obtain⟨⟨pa,pb⟩,e2,h2⟩:=ah h1
  clear h h1
  have h:=aw h2
  clear h2
  try simp! [zza] at h
  obtain⟨⟨⟨h0,he⟩,h1⟩,h2⟩:=h
  cases Eg h0;have sa:=aW a C pa h1
  have sb:=aW b C pb h2
  rcases Ba e2 with z|⟨q,c,r,z,z2⟩
  ·dsimp only at z;subst z;have gw:fk (.or a b)=true->GW X W F (.or a b) (.BoolOp .Or [pa,pb] pos):=λz=>by
    have z:=aw z
    exact Ft (sa.gt z.1) (pw_or1 (sb.gt z.2))
   exact⟨Fz he sa.ge (zx sb.ge),λz=>(gw z).pt,λz _ _ _ _=>gw z⟩
  ·dsimp only at z z2;subst z z2;have gw:fk (.or a b)=true->GW X W F (.or a b) (.BoolOp .Or (pa::q::c::r) pos):=λz=>by
    have z:=aw z
    exact Ft (sa.gt z.1) (sb.gw z.2 _ _ _ rfl)
   exact⟨Fz he sa.ge sb.ge,λz=>(gw z).pt,λz _ _ _ _=>gw z⟩
 |.ite c a b,Γ,N,sc,X,C,p,h=>by
  obtain⟨q,e,h1⟩:=ah h
  obtain⟨_,rfl⟩:=Mo e
  clear h
  have h:=aw h1
  clear h1
  try simp! [zza] at h
  obtain⟨⟨⟨⟨⟨h0,h1⟩,h2⟩,h3⟩,h4⟩,h5⟩:=h
  exact⟨Mc h1 h2 ((aW c C _ h3).gt h0) (aW a C _ h4).ge (aW b C _ h5).ge,(λz=>nomatch z),(λ_ _ _ _ z=>nomatch z)⟩
 |.tup as,Γ,N,sc,X,C,p,h=>by
  obtain⟨ps,e,h1⟩:=ah h
  obtain⟨_,_,rfl⟩:=i9 e
  clear h
  have h:=aw h1
  have h0:=aw h.1
  exact aV (Li h0.1 (zzY h0.2) (eJ as C _ h.2)) (λ_=>rfl) (λ_ _ _ z=>nomatch z)
 |.lst as,Γ,N,sc,X,C,p,h=>by
  obtain⟨ps,e,h1⟩:=ah h
  obtain⟨_,rfl⟩:=pY e
  clear h
  have h:=aw h1
  have h0:=aw h.1
  exact aV ((o5 h0.1 (zzY h0.2) (eJ as C _ h.2)).ge lst_is) (λ_=>rfl) (λ_ _ _ z=>nomatch z)
 |.sub a b,Γ,N,sc,X,C,p,h=>by
  obtain⟨pa,pb,_,rfl,h9⟩:=Ts h
  clear h
  have h:=h9
  clear h9
  replace h:=aw h
  exact aV (L1 C (aW a C _ h.1).ge (aW b C _ h.2).ge (AY h.2)) (λ_=>rfl) (λ_ _ _ z=>nomatch z)
 |.MC a b,Γ,N,sc,X,C,p,h=>by
  obtain⟨pa,ps,_,rfl,h1⟩:=Ts h
  obtain⟨pl,ph,pst,_,z2,h2⟩:=Xf h1
  obtain⟨st,z3,h3⟩:=ah h2
  clear h h1 h2
  have h:=aw h3
  clear h3
  simp! [zza] at h;obtain⟨⟨⟨y1,y2⟩,y5⟩,y6⟩:=h
  have w1:=MN y1
  have w2:=MN y2
  dsimp only at z2 z3 w1 w2;subst z2 z3 w1 w2;exact aV (IW C (aW a C pa y5).ge (aW b C st y6).ge) (λ_=>rfl) (λ_ _ _ z=>nomatch z)
 |.get a k,Γ,N,sc,X,C,p,h=>by
  obtain⟨⟨f,as,kws,pos⟩,e3,h3⟩:=ah h
  have z3:=fV e3
  obtain⟨⟨po,attr,apos⟩,e4,h4⟩:=ah h3
  have z4:=uF e4
  obtain⟨pk,z5,h5⟩:=gO h4
  have g:=aw h5
  simp! [zza] at g;obtain⟨⟨⟨⟨⟨n1,e1⟩,h6⟩,h7⟩,h8⟩,h9⟩:=g
  have z6:=zJ n1
  cases zzy.mp e1;dsimp only at z3 z4 z5 z6;subst z3 z4 z5 z6;exact aV (ML C (aW a C po h8).ge (aW k C pk h9).ge (zN h7) h6 (notStar h9 _ _)) (λ_=>rfl) (λ_ _ _ z=>nomatch z)
 |.maxD a n,Γ,N,sc,X,C,p,h=>by
  obtain⟨⟨f,as,kws,pos⟩,e3,h3⟩:=ah h
  have z3:=fV e3
  obtain⟨g,gp,z4,h4⟩:=HM h3
  obtain⟨pa,z5,h5⟩:=gO h4
  obtain⟨⟨kn,kv⟩,e6,h6⟩:=ah h5
  obtain⟨kp,z6⟩:=Ar e6
  obtain⟨c,c1,c2,z7,h7⟩:=TC h6
  have g:=aw h7
  simp! [zza] at g;obtain⟨⟨⟨⟨⟨e1,h1⟩,h2⟩,e2⟩,e3⟩,h8⟩:=g
  cases zzy.mp e1;cases zzy.mp e2;have z8:=o7 (eq_of_beq e3)
  dsimp only at z3 z4 z5 z6 z7 z8;subst z3 z4 z5 z6 z7 z8;exact aV (DE C h1 h2 (aW a C pa h8).ge (notStar h8 _ _)) (λ_=>rfl) (λ_ _ _ z=>nomatch z)
 |.RI n,Γ,N,sc,X,C,p,h=>by
  obtain⟨⟨pk,pv⟩,e1,h1⟩:=ah h
  obtain⟨_,z1⟩:=Ku e1
  obtain⟨z,zp,z2,h2⟩:=HM h1
  obtain⟨c,c1,c2,z3,h3⟩:=TC h2
  have g:=aw h3
  simp! [zza] at g;obtain⟨⟨⟨g1,g2⟩,g3⟩,g4⟩:=g
  have z4:=yN g4
  dsimp only at z1 z2 z3;subst z4 z3 z2 z1;exact aV (Nb C (eq_of_beq g1) g2 g3) (λ_=>rfl) (λ_ _ _ z=>nomatch z)
 |.slice a lo hi,Γ,N,sc,X,C,p,h=>by
  obtain⟨pa,ps,_,rfl,h1⟩:=Ts h
  obtain⟨pl,ph,pst,_,z2,h2⟩:=Xf h1
  clear h h1
  have h:=aw h2
  simp! [zza] at h;have w:=MN h.1.1.1
  dsimp only at z2 w;subst z2 w;exact aV (AV C (aW a C _ h.1.1.2).ge (QR lo C pl h.1.2) (QR hi C ph h.2)) (λ_=>rfl) (λ_ _ _ z=>nomatch z)
 |.comp kk bf tg it elt,Γ,N,sc,X,C,p,h=>by
  obtain⟨eg,gens,scope,_,rfl,h1⟩:=RP h
  obtain⟨⟨bT,fG,ifs,asy⟩,z2,h2⟩:=gO h1
  have h3:=aw h2
  have z3:=zJ h3.1
  dsimp only at z2 z3;subst z2 z3
  clear h h1 h2
  have h:=aw h3.2
  clear h3
  simp! [zza] at h;obtain⟨⟨⟨⟨⟨⟨h1,h2⟩,h3⟩,h4⟩,h5⟩,h6⟩,iA⟩:=h
  have iA:=zzY iA
  subst iA;exact aV ((u7 C (iW h1) h2 h3 (yB it C bT fG h4) (i6 h4 _) h5 λY CY=>(aW elt CY eg h6).ge).ge vo) (λ_=>rfl) (λ_ _ _ z=>nomatch z)
 |.cx kk bf tg it c elt,Γ,N,sc,X,C,p,h=>by
  obtain⟨eg,gens,scope,_,rfl,h1⟩:=RP h
  obtain⟨⟨bT,fG,ifs,asy⟩,z2,h2⟩:=gO h1
  obtain⟨pc,z3,h3⟩:=gO h2
  dsimp only at z2 z3;subst z2 z3
  clear h h1 h2
  have h:=aw h3
  clear h3
  simp! [zza] at h;obtain⟨⟨⟨⟨⟨⟨⟨⟨h0,h1⟩,h2⟩,h3⟩,h4⟩,h5⟩,h6⟩,h7⟩,iA⟩:=h
  have iA:=zzY iA
  subst iA;exact aV ((oH C (iW h1) h2 h3 (yB it C bT fG h4) (i6 h4 _) h5 (λY CY=>(aW c CY pc h6).gt h0) λY CY=>(aW elt CY eg h7).ge).ge nO) (λ_=>rfl) (λ_ _ _ z=>nomatch z)
theorem eJ:∀(es:Es) {Γ:Pg} {N:List Str} {sc:Scope} {X:Cx} (C:cy Γ F W N sc k X) (ps:List Expr),dc Γ N sc es ps=true->GA X W F es ps
 |.nil,Γ,N,sc,X,C,ps,h=>by
  cases ps with
  |nil=>exact Od
  |cons _ _=>exact aM h
 |.cons e es,Γ,N,sc,X,C,ps,h=>by
  cases ps with
  |nil=>exact aM h
  |cons p ps=>
   replace h:=aw h
   exact D1 (aW e C p h.1).ge (eJ es C ps h.2) (notStar h.1 _ _)
theorem Fq:∀(es:Es) {Γ:Pg} {N:List Str} {sc:Scope} {X:Cx} (C:cy Γ F W N sc k X) (hl:Γ.hl=true) (g:Str) (idx bf:List Nat) (ps:List Expr),ee es=true->vj Γ N sc g idx bf es ps=true->PA X ps (PR X W F N sc g idx bf es)
 |.nil,Γ,N,sc,X,C,hl,g,idx,bf,ps,he,h=>by
  obtain⟨p,e1,h⟩:=ah h
  obtain⟨l,e2,h⟩:=ah h
  rw [bQ e1];obtain⟨_,rfl⟩:=uq e2
  replace h:=aw h
  have h1:=aw h.1
  exact Eo C hl ⟨h1.1,zzY h1.2,λy hy=>zzY (zzT.mp h.2 y hy)⟩
 |.cons e es,Γ,N,sc,X,C,hl,g,idx,bf,ps,he,h=>by
  cases ps with
  |nil=>exact aM h
  |cons p ps=>
   replace h:=aw h
   have Hk:=aw (show(eR e&&ee es)=true from he)
   exact BN he (aW e C p h.1).ge (Fq es C hl g idx bf ps Hk.2 h.2) (notStar h.1 _ _)
theorem QR:∀(o:Oe) {Γ:Pg} {N:List Str} {sc:Scope} {X:Cx} (C:cy Γ F W N sc k X) (p:Option Expr),HS Γ N sc o p=true->PO X p (yz X W F o)
 |.no,Γ,N,sc,X,C,p,h=>by
  cases p with
  |none=>exact DU
  |some _=>exact aM h
 |.some e,Γ,N,sc,X,C,p,h=>by
  cases p with
  |none=>exact aM h
  |some p=>
   exact Fd (aW e C p h).ge
theorem yB:∀(it:I) {Γ:Pg} {N:List Str} {sc:Scope} {X:Cx} (C:cy Γ F W N sc k X) (tg p:Expr),wm Γ N sc tg it p=true->GI X W F tg it p
 |.seq e,Γ,N,sc,X,C,tg,p,h=>by
  exact K4 C (aW e C p h).ge
 |.mi e,Γ,N,sc,X,C,tg,p,h=>by
  obtain⟨g,args,_,_,rfl,h9⟩:=vX h
  clear h
  have h:=h9
  clear h9
  obtain⟨q,z2,h2⟩:=gO h
  dsimp only at z2;subst z2
  clear h
  have h:=aw h2
  clear h2
  simp! [zza] at h;obtain⟨⟨⟨e1,h1⟩,h2⟩,h3⟩:=h
  cases zzy.mp e1;exact MG C h1 h2 (notStar h3) (aW e C q h3).ge
 |.sj a b,Γ,N,sc,X,C,tg,p,h=>by
  obtain⟨g,args,_,_,rfl,h9⟩:=vX h
  clear h
  have h:=h9
  clear h9
  obtain⟨q,r,z2,h2⟩:=Ak h
  dsimp only at z2;subst z2
  clear h
  have h:=aw h2
  clear h2
  simp! [zza] at h;obtain⟨⟨⟨⟨e1,h1⟩,h2⟩,h3⟩,h4⟩:=h
  cases zzy.mp e1;exact Cn C h1 h2 (notStar h3) (notStar h4) (aW a C q h3).ge (aW b C r h4).ge
 |.enum e,Γ,N,sc,X,C,tg,p,h=>by
  obtain⟨g,args,_,_,rfl,h9⟩:=vX h
  clear h
  have h:=h9
  clear h9
  obtain⟨q,z2,h2⟩:=gO h
  dsimp only at z2;subst z2
  clear h
  have h:=aw h2
  clear h2
  simp! [zza] at h;obtain⟨⟨⟨⟨h0,e1⟩,h1⟩,h2⟩,h3⟩:=h
  cases zzy.mp e1;cases tg<;>first|(exact aM h0)|skip
  exact Cm C h1 h2 (notStar h3) (aW e C q h3).ge
 |.wJ e,Γ,N,sc,X,C,tg,p,h=>by
  obtain⟨g,args,_,_,rfl,h9⟩:=vX h
  clear h
  obtain⟨q,z2,h2⟩:=gO h9
  dsimp only at z2;subst z2;have h:=aw h2
  simp! [zza] at h;obtain⟨⟨⟨⟨e1,h1⟩,h2⟩,h3⟩,h4⟩:=h
  cases zzy.mp e1;exact Ky C h1 h2 h3 (aW e C q h4).ge (notStar h4)
 |.zip as,Γ,N,sc,X,C,tg,p,h=>by
  obtain⟨g,args,_,_,rfl,h9⟩:=vX h
  clear h
  replace h:=aw h9
  clear h9
  simp! [zza] at h;obtain⟨⟨⟨⟨⟨⟨h0,e1⟩,h1⟩,h2⟩,h3⟩,h4⟩,h5⟩:=h
  cases zzy.mp e1;cases tg<;>first|(exact aM h0)|skip
  rw [zzt,zzy,zzy] at h4;cases as with
  |nil=>exact absurd h4 (by show¬(0=2\/0=3);omega)
  |cons a as=>
   cases args with
   |nil=>exact aM h5
   |cons q qs=>
    have h6:=aw (show(aR Γ N sc a q&&dc Γ N sc as qs)=true from h5)
    exact Mi C h1 h2 h3 h4 (eJ (.cons a as) C (q::qs) h5) (notStar h6.1 _ _) (cu h6.2 _ _)
end
end
end Ci
namespace L2
open PySem PySem.Spec PyProof.Rows
section
variable{X:Cx}{scope:Scope}{xs ys:List Str}{is:List Nat}
theorem uP{i₀:Nat}{x₀:Str}{pos' fD:Pos}{elt tg iter:Expr}{pos:Pos}{wi:TI}{g:TG}{te:TE}(hN₀:X.N.Nodup)(hi₀:X.N[i₀]?=some x₀)(hx₀:Loc X.env.scope x₀)(hc:X.calm=true)(S:er X scope xs ys is)(hi:PI X tg iter wi)
 (hg:∀fp s1 H1 C,PG (bH X (xs++ys) scope (bx X.env ys) fp s1 H1 C) tg g) (he:∀fp s1 H1 C,PE (bH X (xs++ys) scope (bx X.env ys) fp s1 H1 C) elt te)
 (uy:swapsWith (.ListComp elt [⟨tg,iter,[],0⟩] scope pos) (some (.Name x₀ pos')) fD.line X.env=pure true:=by rfl)
 (hs:∀x,foldedSetIterable iter X.env x=pure x:=by intro _;rfl) (hf₀:X.fn x₀=true\/X.env.scope.names.lookup x₀=some .local:=by first|exact .inl rfl|exact .inr rfl|assumption):
 PS X (.Assign [.Name x₀ pos'] (.ListComp elt [⟨tg,iter,[],0⟩] scope pos) fD) (BI (zU wi xs.length g te is) (cH i₀)):=by
 intro aa s σ H D₀ I h;rw [exec_Assign_Name_used _ _ _ _ uy];refine zzA (wpAny_standAt (zzA ?_));show wpAny _ X.A (do let _<-comprehension (.ListComp elt [⟨tg,iter,[],0⟩] scope pos) scope X.env _ (newList []) false (eval iter X.env) (some (assign (.Name x₀ pos') X.env))) _ _ s;refine zzA (wpAny_mono (gB (QQ:=λ_ s'=>∃σ2 H2,Inv X aa σ2 H2 s'/\D₀.nx σ2 H2) (Q:=λv H4=>cH i₀ v σ H4 D₀.nx) hc S hi hg (λ_ _ _ _=>vD) he hs I h λD C s4 H4 m I5 hn ⟨g0,g1,_,g3,g4,g5⟩ q=>?_) (λ_ s' hq=>zzG (zzG hq)) λ_ _ e=>e)
 refine wpAny_assign_Name (jw I5 hN₀ hi₀ hx₀ (show RelV (.ref D) (.ref D) from rfl) (λs6 I6 ⟨a6,sb6,ha6⟩=>?_) hf₀);have zF:C≠a6:=by
  rcases ha6 with z|z
  ·rw [z];exact g1
  ·exact λz2=>g4 _ _ z z2.symm
 exact⟨m,hn.sameBut sb6 zF,λh' su=>⟨_,_,I6.turned (t':=s6.toks) (it:=C) (λb o hb e=>su.extBut b o hb e) g0 g1 g3 g4 g5,q⟩⟩
end
end L2
namespace Ci
open PySem L2
section
variable{W:Wd}{G0 H0 G H:Hp}{env:Sl}{σ:St}
def Own.Au{p:PV}{v:V}(h:Own W H0 G H p v):∃a o,v=.ref a/\H a=some o/\G a=none/\H0 a=none/\((∀G',az G G'->G' a=some o->Rep W G' p (.ref a))\/∃ax,o=.dT ax/\∀ob G',az G G'->G' a=some (.bt ob (.dT ax))->Rep W G' p (.ref a)):=by
 cases p with
 |lst xs=>
  obtain⟨a,vs,rfl,h1,h2,h3,l⟩:=h
  exact⟨a,_,rfl,h1,h2,h3,.inl λG' s e=>.l (.inl (.inl e)) (ai.same s xs l)⟩
 |bM ks ps=>
  obtain⟨a,us,rfl,n,h1,h2,h3,l⟩:=h
  exact⟨a,_,rfl,h1,h2,h3,.inr ⟨_,rfl,λob G' s e=>by simp! [Rep];exact⟨a,ob,us,rfl,n,e,ai.same s ps l⟩⟩⟩
 |aK=>exact h.elim
 |bl _=>exact h.elim
 |int _=>exact h.elim
 |str _=>exact h.elim
 |tup _=>exact h.elim
 |exc _=>exact h.elim
theorem Own.Ag{p:PV}{a:Addr}(h:Own W H0 G H p (.ref a))(ps:Array Value):H a≠some (.fC ps):=λz=>by
 cases p with
 |lst xs=>obtain⟨b,vs,e,h1,_⟩:=h;cases e;rw [z] at h1;cases h1
 |bM ks qs=>
  obtain⟨b,us,e,_,h1,_⟩:=h
  cases e;rw [z] at h1;cases h1
 |aK=>exact h.elim
 |bl _=>exact h.elim
 |int _=>exact h.elim
 |str _=>exact h.elim
 |tup _=>exact h.elim
 |exc _=>exact h.elim
theorem pI{a:Addr}{ob:HO}{H':Hp}(t:bL W G H)(hG:G a=none)(n:∀ps,H a≠some (.fC ps))(hH:∀b,b≠a->H' b=H b):bL W (upd G a ob) H':=λP q m=>by
 obtain⟨n1,ps,e,tr,al⟩:=t P q m
 have hP:P≠a:=λz=>by subst z;exact n ps e
 refine⟨by rw [ag hP];exact n1,ps,by rw [hH P hP];exact e,tr,λpos cv y=>?_⟩
 obtain⟨c',oc,cq,t',e1,e2,e3,e4⟩:=al pos cv y
 exact⟨c',oc,cq,t',e1,aY hG _ _ e2,e3,e4⟩
def Own.di{p:PV}{v:V}{a:Addr}{G' H':Hp}(h:Own W H0 G H p v)(hv:v≠.ref a)(sG:az G G')(hG:∀b,b≠a->G' b=G b)(hH:∀b,b≠a->H' b=H b):Own W H0 G' H' p v:=by
 cases p with
 |lst xs=>
  obtain⟨b,vs,rfl,h1,h2,h3,l⟩:=h
  have hb:b≠a:=λz=>hv (by rw [z])
  exact⟨b,vs,rfl,by rw [hH b hb];exact h1,by rw [hG b hb];exact h2,h3,ai.same sG xs l⟩
 |bM ks ps=>
  obtain⟨b,us,rfl,n,h1,h2,h3,l⟩:=h
  have hb:b≠a:=λz=>hv (by rw [z])
  exact⟨b,us,rfl,n,by rw [hH b hb];exact h1,by rw [hG b hb];exact h2,h3,ai.same sG ps l⟩
 |aK=>exact h.elim
 |bl _=>exact h.elim
 |int _=>exact h.elim
 |str _=>exact h.elim
 |tup _=>exact h.elim
 |exc _=>exact h.elim
def getElem?_modify{α:Type}(l:List α)(i j:Nat)(f:α->α):(l.modify i f)[j]?=if i=j then(l[j]?).map f else l[j]?:=by
 rw [List.getElem?_modify];split<;>simp_all
def se(r:SR W H0 env σ G H)(g:aD W G0 H0 G H){i:Nat}{p:PV}{a:Addr}{ob O4:HO}{H':Hp}(hp:env[i]?=some (.own p))(ho:σ[i]?=some (some (.ref a)))(Rh:Own W H0 G H p (.ref a))(hH:H a=some ob)(hG:G a=none)(uJ:H0 a=none)
 (zo:∀G',az G G'->G' a=some O4->Rep W G' p (.ref a)) (h1:H' a=some O4) (h2:∀b,b≠a->H' b=H b):SR W H0 (env.modify i pU) σ (upd G a O4) H'/\aD W G0 H0 (upd G a O4) H':=by
 have sG:az G (upd G a O4):=aY hG
 have sub:az (upd G a O4) H':=λb u e=>by
  by_cases hb:b=a
  ·subst hb;rw [aj] at e;cases e;exact h1
  ·rw [ag hb] at e;rw [h2 b hb];exact r.sub _ _ e
 have base:∀{B:Hp},B a=none->fM B H->fM B H':=λhB k b u e=>by
  have hb:b≠a:=λz=>by rw [z,hB] at e;cases e
  rw [h2 b hb];exact k b u e
 refine⟨⟨by rw [List.length_modify];exact r.len,sub,base uJ r.base,λj s e=>?_,λj l q q' c e1 e2 e3 e4=>?_,pI r.tab hG Rh.Ag h2,pI r.ia hG (λps z=>by rw [uJ] at z;cases z) λ_ _=>rfl⟩,⟨g.g.trans sG,base uJ g.h,sub,λb h3 h5 h4=>?_,λt=>pI (g.tab t) hG Rh.Ag h2⟩⟩
 ·rw [getElem?_modify] at e;split at e
  ·rename_i z;subst z;rw [hp] at e;cases e;exact⟨_,ho,_,rfl,zo _ sG aj⟩
  ·rename_i z;obtain⟨o2,k1,k2⟩:=r.slot j s e
   refine⟨o2,k1,?_⟩;cases s with
   |no=>exact trivial
   |val q=>
    obtain⟨v2,rfl,rv⟩:=k2
    exact⟨v2,rfl,Rep.same sG q rv⟩
   |fn _ _ _=>
    obtain⟨v2,rfl,rv⟩:=k2
    exact⟨v2,rfl,rv.same sG⟩
   |own q=>
    obtain⟨v2,rfl,ov⟩:=k2
    refine⟨v2,rfl,ov.di (a:=a) (λzz=>?_) sG (λb hb=>ag hb) h2⟩;subst zz;exact z (r.apart i j p q a hp e ho k1)
 ·rw [getElem?_modify] at e1 e2;have ne:∀{j:Nat} {q:PV},(if i=j then(env[j]?).map pU else env[j]?)=some (.own q)->i≠j/\env[j]?=some (.own q):=λ{j q} e=>by
   split at e
   ·rename_i z;subst z;rw [hp] at e;cases e
   ·rename_i z;exact⟨z,e⟩
  exact r.apart j l q q' c (ne e1).2 (ne e2).2 e3 e4
 ·have hb:b≠a:=λz=>h3 (by rw [z];exact uJ)
  rw [ag hb];exact g.own b h3 h5 h4
def Nx(r:SR W H0 env σ G H)(g:aD W G0 H0 G H)(i:Nat):(∃G',SR W H0 (env.modify i pU) σ G' H/\aD W G0 H0 G' H)\/∃a ax,H a=some (.dT ax)/\∀o,∃G',SR W H0 (env.modify i pU) σ G' (upd H a (.bt o (.dT ax)))/\aD W G0 H0 G' (upd H a (.bt o (.dT ax))):=by
 have same:(∀p,env[i]?≠some (.own p))->env.modify i pU=env:=λh=>by
  refine List.ext_getElem? λj=>?_
  rw [getElem?_modify];split
  ·rename_i e;subst e;cases q:env[i]? with
   |none=>rfl
   |some s=>
    cases s with
    |own p=>exact absurd q (h p)
    |no=>rfl
    |val p=>rfl
    |fn _ _ _=>rfl
  ·rfl
 by_cases hx:∃p,env[i]?=some (.own p)
 ·obtain⟨p,hp⟩:=hx
  obtain⟨o,ho,v,rfl,ow⟩:=r.slot i _ hp
  have Rh:=ow
  obtain⟨a,ob,rfl,hH,hG,uJ,zo|⟨ax,rfl,zo⟩⟩:=ow.Au
  ·obtain⟨k1,k2⟩:=se r g hp ho Rh hH hG uJ zo hH λ_ _=>rfl
   exact .inl ⟨_,k1,k2⟩
  ·refine .inr ⟨a,ax,hH,λo=>?_⟩
   obtain⟨k1,k2⟩:=se r g hp ho Rh hH hG uJ (zo o) aj λb hb=>ag hb
   exact⟨_,k1,k2⟩
 ·exact .inl ⟨G,by rw [same λp z=>hx ⟨p,z⟩];exact r,g⟩
def eT(r:SR W H0 env σ G H)(g:aD W G0 H0 G H){i:Nat}{p p':PV}{a:Addr}{ob:HO}(hp:env[i]?=some (.own p))(hs:σ[i]?=some (some (.ref a)))(hG:G a=none)(uJ:H0 a=none)(hn:Own W H0 G (upd H a ob) p' (.ref a)):
 SR W H0 (env.set i (.own p')) σ G (upd H a ob)/\aD W G0 H0 G (upd H a ob):=by
 have bB:i<env.length:=(zzH.mp hp).1
 have YN:∀ps,H a≠some (.fC ps):=by
  obtain⟨o2,h1,v2,rfl,ow⟩:=r.slot i _ hp
  rw [hs] at h1;cases h1;exact ow.Ag
 have tab:∀{G1:Hp},bL W G1 H->bL W G1 (upd H a ob):=λt=>t.same (az.refl _) (λ_ _ _ h=>h) (kh YN)
 refine⟨⟨by rw [List.length_set];exact r.len,λb u e=>?_,λb u e=>?_,λj s e=>?_,λj l q q' c e1 e2 e3 e4=>?_,tab r.tab,r.ia⟩,⟨g.g,λb u e=>?_,λb u e=>?_,g.own,λt=>tab (g.tab t)⟩⟩
 ·rw [ag (λz=>by subst z;rw [hG] at e;cases e)];exact r.sub _ _ e
 ·rw [ag (λz=>by subst z;rw [uJ] at e;cases e)];exact r.base _ _ e
 ·by_cases hj:i=j
  ·subst hj;rw [zzo bB] at e;cases e;exact⟨_,hs,_,rfl,hn⟩
  ·rw [zzS hj] at e;obtain⟨o2,h1,h2⟩:=r.slot j s e
   refine⟨o2,h1,?_⟩;cases s with
   |no=>exact trivial
   |val q=>exact h2
   |fn _ _ _=>exact h2
   |own q=>
    obtain⟨v2,rfl,ov⟩:=h2
    refine⟨v2,rfl,ov.di (a:=a) (λzz=>?_) (az.refl _) (λb hb=>rfl) λb hb=>ag hb⟩
    subst zz;exact hj (r.apart i j p q a hp e hs h1)
 ·have tr:∀{j:Nat} {q:PV},(env.set i (.own p'))[j]?=some (.own q)->∃q2,env[j]?=some (.own q2):=λ{j q} e=>by
   by_cases hj:i=j
   ·subst hj;exact⟨p,hp⟩
   ·rw [zzS hj] at e;exact⟨q,e⟩
  obtain⟨q2,f1⟩:=tr e1
  obtain⟨q3,f2⟩:=tr e2
  exact r.apart j l q2 q3 c f1 f2 e3 e4
 ·rw [ag (λz=>by subst z;rw [uJ] at e;cases e)];exact g.h _ _ e
 ·rw [ag (λz=>by subst z;rw [hG] at e;cases e)];exact g.sub _ _ e
def pA(r:SR W H0 env σ G H)(g:aD W G0 H0 G H){i:Nat}{p:PV}{a:Addr}{ob:HO}(hi:i<env.length)(ha:H a=none)(hn:Own W H0 G (upd H a ob) p (.ref a)):
 SR W H0 (env.set i (.own p)) (σ.set i (some (.ref a))) G (upd H a ob)/\aD W G0 H0 G (upd H a ob):=by
 have gm:aD W G H G (upd H a ob):=.QW r.sub ha
 have r1:=r.grow gm
 have old:∀{j:Nat} {q:PV},env[j]?=some (.own q)->σ[j]?=some (some (.ref a))->False:=λ{j q} e1 e2=>by
  obtain⟨o2,h1,v2,rfl,ov⟩:=r.slot j _ e1
  rw [e2] at h1;cases h1;obtain⟨a',o',e3,hH,_⟩:=ov.Au
  cases e3;rw [ha] at hH;cases hH
 refine⟨⟨by rw [List.length_set,List.length_set];exact r.len,r1.sub,r1.base,λj s e=>?_,λj l q q' c e1 e2 e3 e4=>?_,r1.tab,r1.ia⟩,g.trans gm⟩
 ·by_cases hj:i=j
  ·subst hj;rw [zzo hi] at e;cases e;exact⟨_,zzo (by rw [<-r.len];exact hi),_,rfl,hn⟩
  ·rw [zzS hj] at e;obtain⟨o2,h1,h2⟩:=r1.slot j s e
   exact⟨o2,by rw [zzS hj];exact h1,h2⟩
 ·by_cases hj:i=j
  ·by_cases hl:i=l
   ·exact hj.symm.trans hl
   ·exfalso
    subst hj;rw [zzo (by rw [<-r.len];exact hi)] at e3;rw [zzS hl] at e2 e4;cases e3;exact old e2 e4
  ·by_cases hl:i=l
   ·exfalso
    subst hl;rw [zzo (by rw [<-r.len];exact hi)] at e4;rw [zzS hj] at e1 e3;cases e4;exact old e1 e3
   ·rw [zzS hj] at e1 e3;rw [zzS hl] at e2 e4;exact r.apart j l q q' c e1 e2 e3 e4
end
def eY:E->Bool
 |.lst _=>true
 |.comp _ _ _ _ _=>true
 |.cx _ _ _ _ _ _=>true
 |_=>false
def gz:Expr->Bool
 |.ListComp .. =>false
 |.SetComp .. =>false
 |.DictComp .. =>false
 |_=>true
def Qh:Expr->Bool
 |.Tuple es _ _=>decide (3<es.length)
 |_=>true
def PH(sc:Scope):Expr->Bool
 |.Name x _=>sc.names.lookup x==some .local
 |_=>false
def Rt(sc:Scope)(t p:Expr):Bool:=Qh p||(ub t).any λts=>ts.any λe=>!PH sc e
def TN(e:Expr):Option (Str×Int):=(CZ e).bind λq=>(dm q.1).bind λx=>(Fp q.2).bind λc=>(QB c).bind λk=>some (x,k)
noncomputable def Sn(sc:Scope)(x:Str)(xp:Pos):Expr->Bool
 |.ListComp _ _ s p=>sc.names.lookup x==some .local&&xp.line==p.line&&!(s.names.any λ(n,k)=>n==x&&(k==.local||k==.cell))
 |_=>false
def F6(ts:List Expr):Option Str:=(cT ts).bind dm
noncomputable def OW(e:Expr):Option (Str×Str×List Expr):=(yk e).bind λq=>(O8 q.1).bind λr=>(dm r.1).bind λx=>if(q.2.2.1.isEmpty&&r.2.2.endLine==q.2.2.2.line)=true then some (x,r.2.1,q.2.1) else none
noncomputable def Vv(e:Expr):Option (Str×Arguments×Expr×Scope):=(yk e).bind λq=>(dm q.1).bind λf=>(cT q.2.1).bind λa=>(dm a).bind λx=>(Tn q.2.2.1).bind λr=>(SJ r.2).bind λl=>if(f=="min"&&r.1=="key")=true then some (x,l.1,l.2.1,l.2.2) else none
def Kn{e:Expr}{c:Str×Arguments×Expr×Scope}(h:Vv e=some c):∃q1 q2 q3 q4 q5,e=.Call (.Name "min" q1) [.Name c.1 q2] [⟨some "key",.Lambda c.2.1 c.2.2.1 c.2.2.2 q3,q4⟩] q5:=by
 obtain⟨⟨f,a,k,p⟩,h1,h⟩:=gK h
 obtain⟨g,h2,h⟩:=gK h
 obtain⟨b,h3,h⟩:=gK h
 obtain⟨x,h4,h⟩:=gK h
 obtain⟨⟨n,v⟩,h5,h⟩:=gK h
 obtain⟨⟨l1,l2,l3⟩,h6,h⟩:=gK h
 obtain⟨h7,rfl⟩:=if1 h
 rw [zza,zzy,zzy] at h7;obtain⟨rfl,z8⟩:=h7
 obtain⟨p2,z2⟩:=bE h2
 obtain⟨p4,z4⟩:=bE h4
 obtain⟨p5,z5⟩:=Ar h5
 obtain⟨p6,z6⟩:=uq h6
 have z3:=bQ h3
 dsimp only at z2 z3 z4 z5 z6 z8;subst z2 z3 z4 z5 z6 z8;exact⟨_,_,_,_,_,fV h1⟩
def DX(x p:Str)(e:Expr):Bool:=(CZ e).any λq=>(CZ q.1).any λr=>dm r.1==some x&&dm r.2==some p&&(Fp q.2).bind QB==some 0
noncomputable def vH(x:Str)(params:Arguments)(body:Expr)(scope:Scope):Bool:=match pK params with
 |some [p]=>DX x p body&&decide (bh scope=[x])&&RT [p] scope&&okN p&&okN x
 |_=>false
def Ap{x:Str}{params:Arguments}{body:Expr}{scope:Scope}(h:vH x params body scope=true):∃p,pK params=some [p]/\uc p x params body scope/\bh scope=[x]/\okN x=true:=by
 unfold vH at h;split at h
 ·rename_i p e;simp! [zza,zzN] at h;obtain⟨⟨⟨⟨h1,h2⟩,h3⟩,h4⟩,h5⟩:=h
  refine⟨p,e,⟨?_,by rw [<-h2];exact yu h3,(bR h4).1,(bR h4).2.1,(bR h5).1,(bR h5).2.1⟩,h2,h5⟩;obtain⟨⟨a,b⟩,e1,h6⟩:=ah h1
  obtain⟨⟨c,d⟩,e2,h7⟩:=ah h6
  simp! [zza,zzy] at h7;obtain⟨p1,rfl⟩:=mf e1
  obtain⟨p2,z2⟩:=mf e2
  obtain⟨p3,z3⟩:=bE h7.1.1
  obtain⟨p4,z4⟩:=bE h7.1.2
  obtain⟨c5,y5,y6⟩:=gK h7.2
  obtain⟨p5,p6,z5⟩:=qb y5
  cases o7 y6;dsimp only at z2 z3 z4 z5;subst z3 z4 z5 z2;exact⟨_,_,_,_,_,_,rfl⟩
 ·cases h
def SY(ts:List Expr):Option (Str×Expr):=(cT ts).bind λt=>(CZ t).bind λq=>(dm q.1).bind λx=>some (x,q.2)
noncomputable def Ws(o:Option Expr):Option (Str×Str):=o.bind λe=>(yk e).bind λq=>(dm q.1).bind λx=>(cT q.2.1).bind λa=>(Fp a).bind λc=>(zy c).bind λz=>if q.2.2.1.isEmpty=true then some (x,z) else none
def sH:Stmt->Option (List Expr×Expr×Pos)
 |.Assign ts v p=>some (ts,v,p)
 |_=>none
def RQ:ExceptHandler->Option Expr×Option Str×List Stmt×Pos
 |.ExceptHandler t n b p=>(t,n,b,p)
noncomputable def Ve(hs:List ExceptHandler):Option (Str×Str×Str):=(cT hs).bind λk=>(RQ k).1.bind λte=>(dm te).bind λx=>(RQ k).2.1.bind λn=>(cT (RQ k).2.2.1).bind λb=>(sH b).bind λq=>(F6 q.1).bind λy=>(dm q.2.1).bind λn2=>if(n2==n)=true then some (x,n,y) else none
def JH{b:Stmt}{q:List Expr×Expr×Pos}(h:sH b=some q):b=.Assign q.1 q.2.1 q.2.2:=by
 cases b with
 |Assign ts v p=>cases h;rfl
 |_=>exact fq h
def iC{ts:List Expr}{x:Str}(h:F6 ts=some x):∃xp,ts=[.Name x xp]:=by
 obtain⟨t,h1,h2⟩:=gK h
 obtain⟨p,rfl⟩:=bE h2
 exact⟨p,bQ h1⟩
def mv{p:Expr}{x m:Str}{args:List Expr}(h:OW p=some (x,m,args)):∃np apos bp,p=.Call (.Attribute (.Name x np) m apos) args [] bp/\(apos.endLine==bp.line)=true:=by
 obtain⟨⟨f,a,k,cp⟩,h1,h⟩:=gK h
 obtain⟨⟨o,m',ap⟩,h2,h⟩:=gK h
 obtain⟨y,h3,h⟩:=gK h
 obtain⟨h4,h⟩:=if1 h
 cases h;rw [zza] at h4;obtain⟨p3,z3⟩:=bE h3
 have z2:=uF h2
 have z5:=List.isEmpty_iff.1 h4.1
 dsimp only at z2 z3 z5;subst z3 z2 z5;exact⟨_,_,_,fV h1,h4.2⟩
def BU{ts:List Expr}{x:Str}{pk:Expr}(h:SY ts=some (x,pk)):∃np sp,ts=[.Subscript (.Name x np) pk sp]:=by
 obtain⟨t,h1,h⟩:=gK h
 obtain⟨⟨a,b⟩,h2,h⟩:=gK h
 obtain⟨y,h3,h⟩:=gK h
 cases h;obtain⟨p3,z3⟩:=bE h3
 obtain⟨p2,z2⟩:=mf h2
 dsimp only at z3;subst z3 z2;exact⟨_,_,bQ h1⟩
def Oh{o:Option Expr}{x z:Str}(h:Ws o=some (x,z)):∃np j zp cp,o=some (.Call (.Name x np) [.Constant (.str z) j zp] [] cp):=by
 obtain⟨e,h0,h⟩:=gK h
 obtain⟨⟨f,a,k,cp⟩,h1,h⟩:=gK h
 obtain⟨y,h2,h⟩:=gK h
 obtain⟨t,h3,h⟩:=gK h
 obtain⟨c,h4,h⟩:=gK h
 obtain⟨w,h5,h⟩:=gK h
 obtain⟨h6,h⟩:=if1 h
 cases h;obtain⟨p2,z2⟩:=bE h2
 obtain⟨p4,q4,z4⟩:=qb h4
 have z3:=bQ h3
 have z5:=BM h5
 have z6:=List.isEmpty_iff.1 h6
 dsimp only at z2 z3 z6;subst z2 z5 z4 z3 z6;exact⟨_,_,_,_,h0.trans (congrArg some (fV h1))⟩
def Nq{hs:List ExceptHandler}{x n y:Str}(h:Ve hs=some (x,n,y)):∃xp yp np ap hp,hs=[.ExceptHandler (some (.Name x xp)) (some n) [.Assign [.Name y yp] (.Name n np) ap] hp]:=by
 obtain⟨k,h1,h⟩:=gK h
 obtain⟨te,h2,h⟩:=gK h
 obtain⟨x',h3,h⟩:=gK h
 obtain⟨n',h4,h⟩:=gK h
 obtain⟨b,h5,h⟩:=gK h
 obtain⟨⟨ts,v,ap⟩,h6,h⟩:=gK h
 obtain⟨y',h7,h⟩:=gK h
 obtain⟨n2,h8,h⟩:=gK h
 obtain⟨h9,h⟩:=if1 h
 cases h;obtain⟨xp,z3⟩:=bE h3
 obtain⟨yp,z7⟩:=iC h7
 obtain⟨np,z8⟩:=bE h8
 have z6:=JH h6
 have z5:=bQ h5
 have z1:=bQ h1
 have z9:=zzy.mp h9
 obtain⟨t0,n0,b0,p0⟩:=k
 dsimp only [RQ] at h2 h4 z3 z5 z6 z7 z8 z9;subst h2 h4 z3 z7 z8 z9 z6 z5;exact⟨_,_,_,_,_,z1⟩
mutual
noncomputable def yc(Γ:Pg)(N:List Str)(sc:Scope):S->Stmt->Bool
 |.set i e,.Assign ts p _=>(F6 ts).any λx=>N[i]?==some x&&dH sc x&&eR e&&!eY e&&aR Γ N sc e p
 |.ret e,.Return (some p) _=>eR e&&aR Γ N sc e p
 |.ite c a b,.If p pa pb _=>fk c&&aR Γ N sc c p&&D7 Γ N sc a pa&&D7 Γ N sc b pb
 |_,_=>false
noncomputable def D7(Γ:Pg)(N:List Str)(sc:Scope):Ss->List Stmt->Bool
 |.cons s .nil,[p]=>yc Γ N sc s p
 |_,_=>false
end
def Dt:List Expr->Option (Str×Pos×Str×Pos)
 |[.Tuple [.Name x px,.Name y py] _ _]=>some (x,px,y,py)
 |_=>none
def u3{ts:List Expr}{q:Str×Pos×Str×Pos}(h:Dt ts=some q):∃kt pt,ts=[.Tuple [.Name q.1 q.2.1,.Name q.2.2.1 q.2.2.2] kt pt]:=by
 unfold Dt at h;split at h
 ·cases h;exact⟨_,_,rfl⟩
 ·cases h
def isStar:Expr->Bool
 |.Starred .. =>true
 |_=>false
def CT(a b:Expr):Bool:=!isStar a&&!isStar b&&!(foldedForSure 8 a&&foldedForSure 8 b)&&!(constantsAlone 8 a&&constantsAlone 8 b)
mutual
noncomputable def cX(Γ:Pg)(N:List Str)(sc:Scope):S->Stmt->Bool
 |.expr e,.Expr p _=>gz p&&aR Γ N sc e p
 |.set i e,.Assign ts p _=>(F6 ts).any λx=>N[i]?==some x&&dH sc x&&eR e&&aR Γ N sc e p
 |.own i e,.Assign ts p _=>(F6 ts).any λx=>N[i]?==some x&&dH sc x&&eY e&&aR Γ N sc e p
 |.rn tg e,.Assign ts p _=>(cT ts).any λbT=>isTup bT&&fv N sc (λ_=>true) tg bT&&gz p&&Rt sc bT p&&eR e&&aR Γ N sc e p
 |.app i e,.Expr v _=>(OW v).any λc=>N[i]?==some c.1&&cD sc c.1&&okN c.1&&c.2.1==("append":Str)&&eR e&&(cT c.2.2).any λp=>aR Γ N sc e p
 |.dQ i e,.Expr v _=>(OW v).any λc=>N[i]?==some c.1&&cD sc c.1&&okN c.1&&c.2.1==("extend":Str)&&(cT c.2.2).any λp=>aR Γ N sc e p
 |.put i kk e,.Assign ts p _=>(SY ts).any λc=>N[i]?==some c.1&&cD sc c.1&&okN c.1&&eR e&&aR Γ N sc kk c.2&&aR Γ N sc e p
 |.hZ i j e,.Expr v _=>(OW v).any λc=>(cT c.2.2).any λa=>(OW a).any λd=>(cT d.2.2).any λq=>N[i]?==some c.1&&cD sc c.1&&okN c.1&&c.2.1==("append":Str)&&N[j]?==some d.1&&cD sc d.1&&okN d.1&&d.2.1==("pop":Str)&&aR Γ N sc e q
 |.aug i o e,.AugAssign (.Name x _) op p _=>N[i]?==some x&&dH sc x&&decide (Pu o=.Add)&&decide (Pu o=op)&&aR Γ N sc e p
 |.ret e,.Return (some p) _=>eR e&&aR Γ N sc e p
 |.ite c a b,.If p pa pb _=>fk c&&aR Γ N sc c p&&cR Γ N sc a pa&&cR Γ N sc b pb
 |.eA tg it b,.For bT fG pb els _=>els.isEmpty&&fv N sc (λ_=>true) tg bT&&EN it&&wm Γ N sc bT it fG&&cR Γ N sc b pb
 |.FN c b,.While p pb els _=>els.isEmpty&&fk c&&aR Γ N sc c p&&cR Γ N sc b pb
 |.raise c m,.Raise ex fr _=>fr.isNone&&(Ws ex).any λq=>c==q.1&&m==q.2&&Γ.rs.contains c&&eC sc c&&okN c
 |.um b c i j,.Try pb hs o1 o2 _=>o1.isEmpty&&o2.isEmpty&&D7 Γ N sc b pb&&(Ve hs).any λq=>q.1==c&&Γ.cs.contains c&&c=="FloorError"&&eC sc c&&okN c&&N[i]?==some q.2.1&&sc.names.lookup q.2.1==some .local&&okN q.2.1&&N[j]?==some q.2.2&&sc.names.lookup q.2.2==some .local
 |.sZ i j e1 e2,.Assign ts (.Tuple [a,b] _ _) _=>(Dt ts).any λq=>N[i]?==some q.1&&N[j]?==some q.2.2.1&&decide (i≠j)&&q.1 !=q.2.2.1&&q.2.2.2.line==q.2.1.line&&sc.names.lookup q.1==some .local&&sc.names.lookup q.2.2.1==some .local&&CT a b&&ee e1&&ee e2&&decide (c7 e1<1000)&&decide (c7 e2<1000)&&(RM a).any (dc Γ N sc e1)&&(RM b).any (dc Γ N sc e2)
 |.put2 i j n m e,.Assign ts p _=>(cT ts).any λt=>(ub t).any λes=>(qM es).any λq=>(TN q.1).any λa=>(TN q.2).any λb=>N[i]?==some a.1&&a.2==n&&N[j]?==some b.1&&b.2==m&&cD sc a.1&&okN a.1&&cD sc b.1&&okN b.1&&gz p&&eR e&&aR Γ N sc e p
 |.par i j as,.Assign ts (.Tuple [a,b] _ _) _=>(Dt ts).any λq=>N[i]?==some q.1&&N[j]?==some q.2.2.1&&decide (i≠j)&&q.1 !=q.2.2.1&&q.2.2.2.line==q.2.1.line&&sc.names.lookup q.1==some .local&&sc.names.lookup q.2.2.1==some .local&&CT a b&&ee as&&dc Γ N sc as [a,b]
 |.mH i e,.Assign ts v _=>(F6 ts).any λx=>(uO v).any λq=>(cT q.2).any λr=>q.1==("list":Str)&&eC sc q.1&&Γ.bs.contains q.1&&N[i]?==some x&&dH sc x&&aR Γ N sc e r
 |.qm i,.Assign ts (.Dict [] [] _) _=>(F6 ts).any λx=>N[i]?==some x&&dH sc x
 |.fN i j n,.Assign ts v _=>(SY ts).any λc=>(dm c.2).any λz=>N[i]?==some c.1&&cD sc c.1&&okN c.1&&N[n]?==some z&&cD sc z&&okN z&&(OW v).any λd=>d.2.1==("pop":Str)&&(cT d.2.2).any λe=>(dm e).any λz2=>z==z2&&N[j]?==some d.1&&cD sc d.1&&okN d.1
 |.si m i,.Assign ts v _=>(F6 ts).any λy=>(Vv v).any λc=>N[m]?==some y&&dH sc y&&N[i]?==some c.1&&sc.names.lookup c.1==some .cell&&eC sc "min"&&Γ.bs.contains "min"&&Γ.hl&&vH c.1 c.2.1 c.2.2.1 c.2.2.2
 |_,_=>false
noncomputable def cR(Γ:Pg)(N:List Str)(sc:Scope):Ss->List Stmt->Bool
 |.nil,[]=>true
 |.cons (.bt _) ss,ps=>cR Γ N sc ss ps
 |.cons s ss,p::ps=>cX Γ N sc s p&&cR Γ N sc ss ps
 |_,_=>false
end
section
variable{Γ:Pg}{X:Cx}{W:Wd}{F:bj}{N:List Str}{sc:Scope}{k:Nat}{H0:Hp}{E:XK}
def SR.go{env:Sl}{σ:St}{G H:Hp}(r:SR W H0 env σ G H):aD W G H0 G H:=⟨az.refl _,r.base,r.sub,λ_ _ _ h=>h,λ_=>r.tab⟩
def aD.then{G G1 H1 G2 H2:Hp}(a:aD W G H0 G1 H1)(b:aD W G1 H0 G2 H2):aD W G H0 G2 H2:=⟨a.g.trans b.g,b.h,b.sub,λx h1 h3 h2=>b.own x h1 h3 (a.own x h1 h3 h2),λt=>b.tab (t.same a.g a.own λ_ _ h=>h)⟩
def SR.on{env:Sl}{σ:St}{G H G1 H1:Hp}(r:SR W H0 env σ G H)(g:aD W G H G1 H1):aD W G H0 G1 H1:=⟨g.g,r.base.trans g.h,g.sub,λx h1 h3 h2=>g.own x (λz=>h1 (r.base.free z)) (r.base.rP h1 h3) h2,λ_=>g.tab r.tab⟩
def Dn(W:Wd)(H0 G:Hp)(D:Ends):Fl->Prop
 |.nx env=>∀σ G' H',SR W H0 env σ G' H'->aD W G H0 G' H'->D.nx σ H'
 |.bk env=>∀σ G' H',SR W H0 env σ G' H'->aD W G H0 G' H'->D.bk σ H'
 |.ct env=>∀σ G' H',SR W H0 env σ G' H'->aD W G H0 G' H'->D.ct σ H'
 |.rt p=>∀v G' H',Rep W G' p v->aD W G H0 G' H'->D.rt v H'
def bo(W:Wd)(H0 G:Hp)(E:XK)(r:Res Fl)(D:Ends):Prop:=match r with
 |.ok f=>Dn W H0 G D f
 |.exc c=>∀Cv ao H',XE W c G H0 Cv ao H'->E Cv ao H'
 |.bad=>False
def Dn.on{G G1 H1:Hp}{D:Ends}{f:Fl}(h:Dn W H0 G D f)(g:aD W G H0 G1 H1):Dn W H0 G1 D f:=by
 cases f with
 |nx env=>exact λσ G' H' r g'=>h σ G' H' r (g.then g')
 |bk env=>exact λσ G' H' r g'=>h σ G' H' r (g.then g')
 |ct env=>exact λσ G' H' r g'=>h σ G' H' r (g.then g')
 |rt p=>exact λv G' H' r g'=>h v G' H' r (g.then g')
def bo.on{G G1 H1:Hp}{D:Ends}{r:Res Fl}(h:bo W H0 G E r D)(g:aD W G H0 G1 H1):bo W H0 G1 E r D:=by
 cases r with
 |ok f=>exact Dn.on h g
 |exc c=>
  intro Cv ao H' x;obtain⟨C,a,G',e1,e2,e3,e4,g2⟩:=x
  exact h Cv ao H' ⟨C,a,G',e1,e2,e3,e4,g.then g2⟩
 |bad=>exact h
noncomputable def tS(W:Wd)(F:bj)(H0:Hp)(E:XK)(s:S):TS:=λD σ H=>∃G env,SR W H0 env σ G H/\bo W H0 G E (bV F s env) D
noncomputable def UJ(W:Wd)(F:bj)(H0:Hp)(E:XK)(ss:Ss):TS:=λD σ H=>∃G env,SR W H0 env σ G H/\bo W H0 G E (aS F ss env) D
abbrev GS(X:Cx)(W:Wd)(F:bj)(H0:Hp)(E:XK)(s:S)(p:Stmt):Prop:=PS X p (tS W F H0 E s)
abbrev BX(X:Cx)(W:Wd)(F:bj)(H0:Hp)(E:XK)(s:Ss)(p:List Stmt):Prop:=qy X p (UJ W F H0 E s)
def _root_.L2.PS.imp{p:Stmt}{t t':TS}(h:PS X p t)(i:∀D σ H,t' D σ H->t D σ H):PS X p t':=λaa s σ H D I hw=>h aa s σ H D I (i D σ H hw)
def _root_.L2.qy.imp{p:List Stmt}{t t':TS}(h:qy X p t)(i:∀D σ H,t' D σ H->t D σ H):qy X p t':=λaa s σ H D I hw=>h aa s σ H D I (i D σ H hw)
structure cV(Γ:Pg)(F:bj)(W:Wd)(N:List Str)(sc:Scope)(k:Nat)(E:XK)(X:Cx):Prop where
 C:cy Γ F W N sc k X
 fn:∀x,X.fn x=true
 own:PassesOwn (model X.prog X.w) X.A X.env X.xe
 pass:Passes (du X.prog X.w) X E
 kind:sc.kind=.function
 Bz:X.stack=X.env::X.outer
 frame:X.env.frame=some X.env.locals
 xs:∀c,Γ.rs.contains c=true->c∈W.xs
 rm:∀c,Γ.rs.contains c=true->∃C,X.mg c=some (.ref C)
 rz:∀(c z:Str) (j:Nat) (np zp cp pos:Pos),Γ.rs.contains c=true->eC sc c=true->okN c=true->PS X (.Raise (some (.Call (.Name c np) [.Constant (.str z) j zp] [] cp)) none pos) (λ_ _ H=>∀C e,X.mg c=some (.ref C)->H e=none->E (.ref C) (some e) H)
 QY:Γ.cs.contains "FloorError"=true->∀c D,c∈W.xs->X.mg c=some (.ref D)->∀T,X.mg "FloorError"=some (.ref T)->PySem.W.exmOne X.K (.ref D) (.ref T)=some true
theorem Fc(S:cV Γ F W N sc k E X){c:Str}{σ:St}{Gs G H:Hp}(g:aD W Gs H0 G H)(h:∀Cv ao H',XE W c Gs H0 Cv ao H'->E Cv ao H'):rB X W σ c G H:=λaa G1 H1 s1 e s' I g1 x=>
 S.pass aa σ H1 s1 e s' I (A8.imp x λCv a H' y=>h Cv a H' (by
  obtain⟨C,a',G',e1,e2,e3,e4,g2⟩:=y
  have g3:=g1.trans g2
  exact⟨C,a',G',e1,e2,e3,e4,g.g.trans g3.g,g.h.trans g3.h,g3.sub,λx h1 h3 h2=>g3.own x (λz=>h1 (g.h.free z)) (g.h.rP h1 h3) (g.own x h1 h3 h2),λt=>g3.tab (g.tab t)⟩))
def bo.bind{α:Type}(S:cV Γ F W N sc k E X){r:Res α}{f:α->Res Fl}{D:Ends}{env:Sl}{σ:St}{G H:Hp}(sr:SR W H0 env σ G H)(h:bo W H0 G E (r.bind f) D):Out X W r σ G H λa=>bo W H0 G E (f a) D:=by
 cases r with
 |ok a=>exact h
 |exc c=>exact Fc S sr.go h
 |bad=>exact h
def jW(S:cV Γ F W N sc k E X){env:Sl}{σ:St}{G H:Hp}{e:Ci.E}{f:PV->Res Fl}{D:Ends}{Q:VK}(sr:SR W H0 env σ G H)(o:bo W H0 G E ((aE F e env).bind f) D)
 (h:∀p v G1 H1,aD W G H G1 H1->Got W H0 G1 H1 e p v->SR W H0 env σ G1 H1->bo W H0 G1 E (f p) D->Q v H1):tE X W F e σ H Q:=
 ⟨H0,G,env,sr,(o.bind S sr).imp λp hp v G1 H1 g1 t=>h p v G1 H1 g1 t (sr.grow g1) (hp.on (sr.on g1))⟩
def FZ(S:cV Γ F W N sc k E X){env:Sl}{σ:St}{G H:Hp}{e:Ci.E}{f:Bool->Res Fl}{D:Ends}{Q:Bool->Hp->Prop}(sr:SR W H0 env σ G H)(o:bo W H0 G E ((aE F e env).bind λp=>wy p f) D)
 (h:∀b G1 H1,aD W G H G1 H1->SR W H0 env σ G1 H1->bo W H0 G1 E (f b) D->Q b H1):tT X W F e σ H Q:=by
 refine⟨H0,G,env,sr,(o.bind S sr).imp λp hp=>?_⟩
 cases p with
 |bl b=>exact⟨b,rfl,λG1 H1 g1=>h b G1 H1 g1 (sr.grow g1) (bo.on hp (sr.on g1))⟩
 |aK=>exact zzk hp
 |int _=>exact zzk hp
 |str _=>exact zzk hp
 |tup _=>exact zzk hp
 |lst _=>exact zzk hp
 |exc _=>exact zzk hp
 |bM _ _=>exact zzk hp
def yD(S:cV Γ F W N sc k E X){env:Sl}{σ:St}{G H:Hp}{e:Ci.E}{f:PV->Res Fl}{D:Ends}{Q:VK}(hl:∀env q,aE F e env=.ok q->∃xs,q=.lst xs)(sr:SR W H0 env σ G H)(o:bo W H0 G E ((aE F e env).bind f) D)
 (h:∀xs a vs G1 H1,aD W G H G1 H1->H1 a=none->ai W G1 xs vs->SR W H0 env σ G1 H1->bo W H0 G1 E (f (.lst xs)) D->Q (.ref a) (upd H1 a (.lst vs))):tF X W F e σ H Q:=by
 refine⟨H0,G,env,sr,?_⟩;have o2:=o.bind S sr
 cases r:aE F e env with
 |bad=>rw [r] at o2;exact o2
 |exc c=>rw [r] at o2;exact o2
 |ok q=>
  rw [r] at o2;obtain⟨xs,rfl⟩:=hl env q r
  exact⟨xs,rfl,λa vs G' H' g ha l=>h xs a vs G' H' g ha l (sr.grow g) (bo.on o2 (sr.on g))⟩
def iQ{p:Expr}{t:Option Expr}{l:Nat}{env:Env}(h:gz p=true):swapsWith p t l env=pure false:=by
 cases p<;>first|rfl|(exact aM h)
def kM{elt:Expr}{gens:List Comprehension}{s:Scope}{p:Pos}{x:Str}{xp:Pos}{l:Nat}(cK:X.env.scope=sc)(hk:sc.kind=.function):swapsWith (.ListComp elt gens s p) (some (.Name x xp)) l X.env=pure (Sn sc x xp (.ListComp elt gens s p)):=by
 have hb:X.env.blockKind=.function:=by
  unfold Env.blockKind;rw [cK,hk]
  rfl
 show(pure (X.env.blockKind==.function&&X.env.kindOf x==some .local&&xp.line==p.line&&!(s.names.any λ(n,k)=>n==x&&(k==.local||k==.cell))):Sem Bool)=_
 rw [hb];show(pure (true&&X.env.scope.names.lookup x==some .local&&_&&_):Sem Bool)=_
 rw [cK]
 rfl
theorem Cd(S:cV Γ F W N sc k E X){e:Ci.E}{p:Expr}{pos:Pos}(he:GE X W F e p)(hn:gz p=true):GS X W F H0 E (.expr e) (.Expr p pos):=
 L2.PS.imp (kA he (iQ hn)) λD σ H h=>by
  obtain⟨G,env,sr,o⟩:=h
  rw [bV] at o;exact jW S sr o λq v G1 H1 g t aQ o1=>o1 σ G1 H1 aQ aQ.go
theorem IF(S:cV Γ F W N sc k E X){e:Ci.E}{p:Expr}{pos:Pos}(cM:eR e=true)(he:GE X W F e p):GS X W F H0 E (.ret e) (.Return (some p) pos):=
 L2.PS.imp (Bd he) λD σ H h=>by
  obtain⟨G,env,sr,o⟩:=h
  rw [bV] at o;exact jW S sr o λq v G1 H1 g t aQ o1=>o1 v G1 H1 (t.rep cM) aQ.go
theorem Aj(S:cV Γ F W N sc k E X){c m:Str}{j:Nat}{np zp cp pos:Pos}(h1:Γ.rs.contains c=true)(h2:eC sc c=true)(h3:okN c=true):GS X W F H0 E (.raise c m) (.Raise (some (.Call (.Name c np) [.Constant (.str m) j zp] [] cp)) none pos):=
 L2.PS.imp (S.rz c m j np zp cp pos h1 h2 h3) λD σ H h C e hC he=>by
  obtain⟨G,env,sr,o⟩:=h
  rw [bV] at o;exact o _ _ _ ⟨C,e,G,rfl,rfl,S.xs c h1,by rw [S.C.mg];exact hC,sr.go⟩
def c8(S:cV Γ F W N sc k E X){i:Nat}{x:Str}(h:N[i]?=some x)(hl:dH sc x=true):X.N.Nodup/\X.N[i]?=some x/\Loc X.env.scope x:=by
 refine⟨by rw [S.C.hN];exact S.C.nd,by rw [S.C.hN];exact h,sM S.C.cK hl⟩
def Gf(S:cV Γ F W N sc k E X){i:Nat}{x:Str}{e:Ci.E}{p:Expr}{xp pos:Pos}(h:N[i]?=some x)(hl:dH sc x=true)(cM:eR e=true)(he:GE X W F e p)(hs:swapsWith p (some (.Name x xp)) pos.line X.env=pure false):GS X W F H0 E (.set i e) (.Assign [.Name x xp] p pos):=by
 obtain⟨a1,a2,a3⟩:=c8 S h hl
 refine L2.PS.imp (ik a1 a2 a3 he hs (.inl (S.fn x))) λD σ H h=>?_
 obtain⟨G,env,sr,o⟩:=h
 rw [bV] at o;exact jW S sr o λq v G1 H1 g t aQ o1=>o1 _ G1 H1 (aQ.set i (t.rep cM)) aQ.go
noncomputable def OV(X:Cx)(W:Wd)(F:bj)(i:Nat)(e:Ci.E):TS:=λD σ H=>tF X W F e σ H λv H1=>D.nx (σ.set i (some v)) H1
def Po{e:Ci.E}(hl:∀env q,aE F e env=.ok q->∃xs,q=.lst xs)(σ:St)(H:Hp)(Q:VK)(h:tE X W F e σ H Q):tF X W F e σ H Q:=by
 obtain⟨H0,G,env,sr,o⟩:=h
 refine⟨H0,G,env,sr,?_⟩;cases r:aE F e env with
 |bad=>rw [r] at o;exact o
 |exc c=>rw [r] at o;exact o
 |ok q=>
  rw [r] at o;obtain⟨xs,rfl⟩:=hl env q r
  exact⟨xs,rfl,λa vs G' H' g ha l=>o _ _ _ (g.trans (.new g.sub ha)) (.of (.l (.inl (.inl aj)) (ai.same (aY (g.sub.free ha)) xs l)))⟩
theorem Ct(S:cV Γ F W N sc k E X){i:Nat}{e:Ci.E}{p:Stmt}(hl:∀env q,aE F e env=.ok q->∃xs,q=.lst xs)(cM:eR e=true)(h:PS X p (OV X W F i e)):GS X W F H0 E (.set i e) p:=
 L2.PS.imp h λD σ H hq=>by
  obtain⟨G,env,sr,o⟩:=hq
  rw [bV] at o;refine Po hl σ H _ (jW S sr o λq v G1 H1 g t aQ o1=>?_);exact o1 _ G1 H1 (aQ.set i (t.rep cM)) aQ.go
def Cb(S:cV Γ F W N sc k E X){i:Nat}{x:Str}{e:Ci.E}{p:Stmt}(hi:N[i]?=some x)(hl:∀env q,aE F e env=.ok q->∃xs,q=.lst xs)(h:PS X p (OV X W F i e)):GS X W F H0 E (.own i e) p:=by
 intro aa s σ H D I hq;have DF:i<σ.length:=by rw [I.len,S.C.hN];exact(zzH.mp hi).1
 refine h aa s σ H D I ?_;obtain⟨G,env,sr,o⟩:=hq
 rw [bV] at o;refine yD S hl sr o λxs a vs G1 H1 g ha l aQ o1=>?_
 have hO:Own W H0 G1 (upd H1 a (.lst vs)) (.lst xs) (.ref a):=⟨a,vs,rfl,aj,aQ.sub.free ha,aQ.base.free ha,l⟩
 obtain⟨r2,g2⟩:=pA aQ aQ.go (i:=i) (by rw [aQ.len];exact DF) ha hO
 exact o1 _ G1 _ r2 g2
def p8{i:Nat}{x:Str}{e:Ci.E}{p:Expr}{xp pos:Pos}(S:cV Γ F W N sc k E X)(h:N[i]?=some x)(hl:dH sc x=true)(he:GF X W F e p)(hs:swapsWith p (some (.Name x xp)) pos.line X.env=pure false):PS X (.Assign [.Name x xp] p pos) (OV X W F i e):=by
 obtain⟨a1,a2,a3⟩:=c8 S h hl
 exact ik a1 a2 a3 he hs (.inl (S.fn x))
def zD(S:cV Γ F W N sc k E X){i:Nat}{x:Str}{xp fD:Pos}(hx:N[i]?=some x)(Ey:dH sc x=true){kk:Nat}{bf:List Nat}{tg:Tg}{it:I}{elt:Ci.E}{bT fG eg:Expr}{scope:Scope}{pos:Pos}(h:lh N sc scope kk bf (aN bT))(bB:js kk tg=true)(cM:eR elt=true)(hi:GI X W F bT it fG)(qr:∀x,foldedSetIterable fG X.env x=pure x)
 (xl:fv (aN bT++freeOf scope) (cG scope sc) (lU scope) tg bT=true) (he:∀Y,cy Γ.B0 F W (aN bT++freeOf scope) (cG scope sc) k Y->GE Y W F elt eg):PS X (.Assign [.Name x xp] (.ListComp eg [⟨bT,fG,[],0⟩] scope pos) fD) (OV X W F i (.comp kk bf tg it elt)):=by
 obtain⟨a1,a2,a3⟩:=c8 S hx Ey
 cases uy:Sn sc x xp (.ListComp eg [⟨bT,fG,[],0⟩] scope pos) with
 |false=>exact p8 S hx Ey (u7 S.C h bB cM hi qr xl he) (by rw [kM S.C.cK S.kind,uy])
 |true=>
  intro aa s σ H D I hq;have Ml:(freeOf scope).Nodup:=(List.nodup_append.mp h.nd).2.1
  have rd:=vN (N:=N) S.C.K bB cM h.slots Ml σ H _ hq
  have:=uP (g:=gT X.K tg) (te:=tN W F elt) (xs:=aN bT) (ys:=freeOf scope) (is:=bf) (pos:=pos) a1 a2 a3 S.C.calm (qa S.C.hN S.C.cK I.ok h) hi
   (λfp s1 H1 A=>xC (fn:=lU scope) (X:=bH X (aN bT++freeOf scope) scope (bx X.env (freeOf scope)) fp s1 H1 A) rfl h.nd (eN S.C.cK) rfl (λ_ z=>z) xl)
   (λfp s1 H1 A=>L2.PE.imp (he _ (eM S.C h fp s1 H1 A)) λσ H Q z=>vf σ H Q z) (by rw [kM (l:=fD.line) S.C.cK S.kind,uy]) qr (.inl (S.fn x)) aa s σ H D I
  rw [h.len] at this;exact this rd
def ua(S:cV Γ F W N sc k E X){i:Nat}{x:Str}{xp fD:Pos}(hx:N[i]?=some x)(Ey:dH sc x=true){kk:Nat}{bf:List Nat}{tg:Tg}{it:I}{c elt:Ci.E}{bT fG pc eg:Expr}{scope:Scope}{pos:Pos}(h:lh N sc scope kk bf (aN bT))(bB:js kk tg=true)(cM:eR elt=true)(hi:GI X W F bT it fG)(qr:∀x,foldedSetIterable fG X.env x=pure x)
 (xl:fv (aN bT++freeOf scope) (cG scope sc) (lU scope) tg bT=true) (hc:∀Y,cy Γ.B0 F W (aN bT++freeOf scope) (cG scope sc) k Y->GT Y W F c pc) (he:∀Y,cy Γ.B0 F W (aN bT++freeOf scope) (cG scope sc) k Y->GE Y W F elt eg):PS X (.Assign [.Name x xp] (.ListComp eg [⟨bT,fG,[pc],0⟩] scope pos) fD) (OV X W F i (.cx kk bf tg it c elt)):=by
 obtain⟨a1,a2,a3⟩:=c8 S hx Ey
 cases uy:Sn sc x xp (.ListComp eg [⟨bT,fG,[pc],0⟩] scope pos) with
 |false=>exact p8 S hx Ey (oH S.C h bB cM hi qr xl hc he) (by rw [kM S.C.cK S.kind,uy])
 |true=>
  intro aa s σ H D I hq;have Ml:(freeOf scope).Nodup:=(List.nodup_append.mp h.nd).2.1
  have rd:=nD (N:=N) S.C.K bB cM h.slots Ml σ H _ hq
  have:=qk (g:=gT X.K tg) (tt:=RS W F c) (te:=tN W F elt) (xs:=aN bT) (ys:=freeOf scope) (is:=bf) (pos:=pos) a1 a2 a3 S.C.calm (qa S.C.hN S.C.cK I.ok h) hi
   (λfp s1 H1 A=>xC (fn:=lU scope) (X:=bH X (aN bT++freeOf scope) scope (bx X.env (freeOf scope)) fp s1 H1 A) rfl h.nd (eN S.C.cK) rfl (λ_ z=>z) xl)
   (λfp s1 H1 A=>L2.PT.imp (hc _ (eM S.C h fp s1 H1 A)) λσ H Q z=>zK σ H Q z)
   (λfp s1 H1 A=>L2.PE.imp (he _ (eM S.C h fp s1 H1 A)) λσ H Q z=>vf σ H Q z) (by rw [kM (l:=fD.line) S.C.cK S.kind,uy]) qr (.inl (S.fn x)) aa s σ H D I
  rw [h.len] at this;exact this rd
def nX{tg:Tg}{p:PV}{env:Sl}(c:Str):Tg.put tg p env≠.exc c:=by
 unfold Tg.put;split<;>exact λz=>nomatch z
def N0{ts vs:List Expr}{k1 k2:Nat}{p1 p2:Pos}{env:Env}(h:3<vs.length):swappedStores [.Tuple ts k1 p1] (.Tuple vs k2 p2) env=pure none:=by
 have c:(!(ts.length==2||ts.length==3)||vs.length !=ts.length||env.blockKind !=.function)=true:=by
  by_cases h2:ts.length=vs.length
  ·have a:(ts.length==2)=false:=beq_eq_false_iff_ne.mpr (by omega)
   have b:(ts.length==3)=false:=beq_eq_false_iff_ne.mpr (by omega)
   rw [a,b]
   rfl
  ·have a:(vs.length !=ts.length)=true:=bne_iff_ne.mpr λz=>h2 z.symm
   rw [a,Bool.or_true,Bool.true_or]
 unfold swappedStores;simp! [pure_bind];rw [if_pos c]
def CN{ts vs:List Expr}{k1 k2:Nat}{p1 p2:Pos}{env:Env}(h:(ts.any λe=>!PH env.scope e)=true):swappedStores [.Tuple ts k1 p1] (.Tuple vs k2 p2) env=pure none:=by
 obtain⟨e,he,hn⟩:=zzj.1 h
 unfold swappedStores;simp! [pure_bind];split
 ·rfl
 ·split
  ·rfl
  ·rw [if_pos];refine Bool.or_eq_true_iff.mpr (.inl (bne_iff_ne.mpr λz=>?_));have:=List.filterMap_length_eq_length.1 z e he
   cases e with
   |Name x p=>
    have q:(env.kindOf x==some .local)=false:=by
     have Q5:(!(env.scope.names.lookup x==some .local))=true:=hn
     rwa [Bool.not_eq_true'] at Q5
    simp! [q,Bool.false_and,zze,if_false] at this;cases this
   |_=>cases this
def Hj(S:cV Γ F W N sc k E X){tg:Tg}{e:Ci.E}{bT p:Expr}{pos:Pos}(ht:isTup bT=true)(xl:fv N sc (λ_=>true) tg bT=true)(hn:gz p=true)(hp:Rt sc bT p=true)(cM:eR e=true)(he:GE X W F e p):GS X W F H0 E (.rn tg e) (.Assign [bT] p pos):=by
 have uy:swappedStores [bT] p X.env=pure none:=by
  cases bT<;>first|(exact aM ht)|skip
  cases p<;>first|rfl|skip
  rcases Bool.or_eq_true_iff.mp hp with hp|hp
  ·exact N0 (zzY hp)
  ·exact CN (by rw [S.C.cK];exact hp)
 have h1:(assignEach [bT] X.env).map (·.2)=[assign bT X.env]:=by
  cases bT<;>first|rfl|(exact aM ht)
 refine L2.PS.imp (pS he (xC (fn:=λ_=>true) S.C.hN S.C.nd S.C.cK S.C.calm (λx _=>S.fn x) xl) (iQ hn) uy h1) λD σ H h=>?_
 obtain⟨G,env,sr,o⟩:=h
 rw [bV] at o;refine jW S sr o λq v G1 H1 g t aQ o1=>?_
 cases r:tg.put q env with
 |bad=>rw [r] at o1;exact o1.elim
 |exc c=>exact absurd r (nX c)
 |ok env'=>
  rw [r] at o1;exact qo S.C.K r aQ (t.rep cM) λσ' c0=>o1 σ' G1 H1 c0 aQ.go
theorem MO(S:cV Γ F W N sc k E X){c:Ci.E}{a b:Ss}{p:Expr}{pa pb:List Stmt}{pos:Pos}(hc:GT X W F c p)(ha:BX X W F H0 E a pa)(hb:BX X W F H0 E b pb):GS X W F H0 E (.ite c a b) (.If p pa pb pos):=
 L2.PS.imp (Fx hc ha hb) λD σ H h=>by
  obtain⟨G,env,sr,o⟩:=h
  rw [bV] at o;refine FZ S sr o λt G1 H1 g aQ o1=>?_
  cases t with
  |true=>
   rw [if_pos rfl] at o1⊢;exact⟨G1,env,aQ,o1⟩
  |false=>
   rw [if_neg zzf] at o1⊢;exact⟨G1,env,aQ,o1⟩
theorem Md(S:cV Γ F W N sc k E X){c:Ci.E}{b:Ss}{p:Expr}{pb:List Stmt}{pos:Pos}(hc:GT X W F c p)(hb:BX X W F H0 E b pb):GS X W F H0 E (.FN c b) (.While p pb [] pos):=
 L2.PS.imp (yS S.own hc hb) λD σ H h=>by
  obtain⟨G,env,sr,o⟩:=h
  rw [bV] at o;refine⟨λm σ' H'=>∃G' env',SR W H0 env' σ' G' H'/\aD W G H0 G' H'/\bo W H0 G' E (fU (aE F c) (aS F b) m env') D,⟨_,G,env,sr,sr.go,o⟩,?_⟩
  rintro m σ' H' ⟨G',env',sr',g',o'⟩
  cases m with
  |zero=>exact o'.elim
  |succ m=>
   unfold fU at o';refine FZ S sr' o' λt G1 H1 g1 aQ o1=>?_
   cases t with
   |false=>
    rw [if_neg zzf] at o1⊢;exact o1 σ' G1 H1 aQ aQ.go
   |true=>
    rw [if_pos rfl] at o1⊢;refine⟨λσ2 H2=>∃G2 eo,SR W H0 eo σ2 G2 H2/\aD W G H0 G2 H2/\bo W H0 G2 E (fU (aE F c) (aS F b) m eo) D,λσ2 H2 h2=>⟨m,Nat.lt_succ_self _,h2⟩,G1,env',aQ,?_⟩
    have gg:=g'.then (sr'.on g1)
    cases r:aS F b env' with
    |bad=>rw [r] at o1;exact o1.elim
    |exc cc=>rw [r] at o1;exact o1
    |ok f=>
     rw [r] at o1;cases f with
     |nx eo=>exact λσ2 G2 H2 c0 g2=>⟨G2,eo,c0,gg.then g2,bo.on (show bo W H0 G1 E (fU (aE F c) (aS F b) m eo) D from o1) g2⟩
     |ct eo=>exact λσ2 G2 H2 c0 g2=>⟨G2,eo,c0,gg.then g2,bo.on (show bo W H0 G1 E (fU (aE F c) (aS F b) m eo) D from o1) g2⟩
     |bk eo=>exact λσ2 G2 H2 c0 g2=>o1 σ2 G2 H2 c0 g2
     |rt q=>exact λv G2 H2 rv g2=>o1 v G2 H2 rv g2
def Lz(S:cV Γ F W N sc k E X){tg:Tg}{it:I}{b:Ss}{bT fG:Expr}{pb:List Stmt}{pos:Pos}(xl:fv N sc (λ_=>true) tg bT=true)(hit:EN it=true)(hi:GI X W F bT it fG)(qr:∀x,foldedSetIterable fG X.env x=pure x)(hb:BX X W F H0 E b pb):GS X W F H0 E (.eA tg it b) (.For bT fG pb [] pos):=
 L2.PS.imp (Gr S.own S.C.calm hi (xC (fn:=λ_=>true) S.C.hN S.C.nd S.C.cK S.C.calm (λx _=>S.fn x) xl) hb qr) λD σ H h=>by
  obtain⟨G,env,sr,o⟩:=h
  rw [bV] at o;refine⟨H0,G,env,sr,(o.bind S sr).imp λps kq J G1 H1 g1 gi=>?_⟩
  have bt:=gi.bt hit
  generalize hf:(λ(x:PV) (env:Sl)=>(tg.put x env).bind λenv'=>aS F b env')=f at kq
  have aQ:=sr.grow g1
  refine⟨λi m σ' H'=>i<=ps.length/\m=ps.length-i/\∃G' env',SR W H0 env' σ' G' H'/\aD W G1 H0 G' H'/\bo W H0 G' E (forL f (ps.drop i) env') D,⟨_,Nat.zero_le _,rfl,G1,env,aQ,aQ.go,by rw [List.drop_zero];exact bo.on kq (sr.on g1)⟩,?_⟩
  rintro i m σ' H' ⟨Ql,hm,G',env',sr',g',o'⟩
  obtain⟨ist,igo⟩:=bt i G' H' g'.g (.of (g'.g.trans sr'.sub)) sr'.sub
  by_cases hlast:i=ps.length
  ·refine .inl ⟨ist hlast,?_⟩;rw [hlast,List.drop_length] at o';exact o' σ' G' H' sr' sr'.go
  ·have bB:i<ps.length:=by omega
   obtain⟨hgo,hyld⟩:=igo ps[i] (zzg bB)
   refine .inr ⟨hgo,λσ2 H2=>i+1<=ps.length/\∃G2 eo,SR W H0 eo σ2 G2 H2/\aD W G1 H0 G2 H2/\bo W H0 G2 E (forL f (ps.drop (i+1)) eo) D,λσ2 H2 h2=>⟨ps.length-(i+1),by omega,h2.1,rfl,h2.2⟩,λx kJ hy=>?_⟩
   obtain⟨vL,g'',rx⟩:=hyld x kJ hy
   rw [List.drop_eq_getElem_cons bB] at o';unfold forL at o';have Yd:f ps[i] env'=(tg.put ps[i] env').bind λenv'=>aS F b env':=by rw [<-hf]
   rw [Yd] at o';have c0:=sr'.grow g''
   have g2:=g'.then (sr'.on g'')
   cases r:tg.put ps[i] env' with
   |bad=>rw [r] at o';exact o'.elim
   |exc c=>exact absurd r (nX c)
   |ok eo=>
    rw [r] at o';refine qo S.C.K r c0 rx λσ2 sr3=>⟨vL,eo,sr3,?_⟩
    have o2:bo W H0 vL E ((aS F b eo).bind λfl=>match fl with
     |.nx env'=>forL f (ps.drop (i+1)) env'
     |.ct env'=>forL f (ps.drop (i+1)) env'
     |.bk env'=>.ok (.nx env')
     |.rt p=>.ok (.rt p)) D:=bo.on o' (sr'.on g'')
    cases r2:aS F b eo with
    |bad=>rw [r2] at o2;exact o2.elim
    |exc cc=>rw [r2] at o2;exact o2
    |ok fl=>
     rw [r2] at o2;cases fl with
     |nx env3=>exact λσ3 G3 H3 J8 g3=>⟨bB,G3,env3,J8,g2.then g3,bo.on (show bo W H0 vL E (forL f (ps.drop (i+1)) env3) D from o2) g3⟩
     |ct env3=>exact λσ3 G3 H3 J8 g3=>⟨bB,G3,env3,J8,g2.then g3,bo.on (show bo W H0 vL E (forL f (ps.drop (i+1)) env3) D from o2) g3⟩
     |bk env3=>exact λσ3 G3 H3 J8 g3=>o2 σ3 G3 H3 J8 g3
     |rt q=>exact λv G3 H3 rv g3=>o2 v G3 H3 rv g3
theorem D2:BX X W F H0 E .nil []:=L2.qy.imp vG λD σ H h=>by
 obtain⟨G,env,sr,o⟩:=h
 rw [aS] at o;exact o σ G H sr sr.go
theorem AQ{s:Ci.S}{ss:Ss}{p:Stmt}{ps:List Stmt}(h1:GS X W F H0 E s p)(h2:BX X W F H0 E ss ps):BX X W F H0 E (.cons s ss) (p::ps):=
 L2.qy.imp (BL h1 h2) λD σ H h=>by
  obtain⟨G,env,sr,o⟩:=h
  rw [aS] at o;refine⟨G,env,sr,?_⟩;cases r:bV F s env with
  |bad=>rw [r] at o;exact o
  |exc c=>rw [r] at o;exact o
  |ok f=>
   rw [r] at o;cases f with
   |nx eo=>exact λσ2 G2 H2 c0 g2=>⟨G2,eo,c0,bo.on (show bo W H0 G E (aS F ss eo) D from o) g2⟩
   |bk eo=>exact o
   |ct eo=>exact o
   |rt q=>exact o
def CL{i:Nat}{ss:Ss}{ps:List Stmt}(h:BX X W F H0 E ss ps):BX X W F H0 E (.cons (.bt i) ss) ps:=by
 intro aa s σ H D I hq;obtain⟨G,env,sr,o⟩:=hq
 rw [aS,bV] at o;rcases Nx sr sr.go i with⟨G',sr',g'⟩|⟨a,ax,ha,k⟩
 ·exact h aa s σ H D I ⟨G',_,sr',bo.on (show bo W H0 G E (aS F ss (env.modify i pU)) D from o) g'⟩
 ·obtain⟨ob,J⟩:=I.freeze ha
  obtain⟨G',sr',g'⟩:=k ob
  exact h aa s σ _ D J ⟨G',_,sr',bo.on (show bo W H0 G E (aS F ss (env.modify i pU)) D from o) g'⟩
def tQ(hK:W.K=X.K):Q8 X "list.extend" (λx vs H Q=>∃l b xs zs,x=.ref l/\vs=[.ref b]/\H l=some (.lst xs)/\nB W.K H b zs/\xs.length+zs.length<=sizeLine/\Q .aK (upd H l (.lst (xs++zs)))):=by
 intro aa s σ H x vs v us Q I rx rv h;obtain⟨l,b,xs,zs,rfl,rfl,hH,hB,hz,q⟩:=h
 cases rx;obtain⟨u,rfl,ru⟩:=Vals.one rv
 cases ru;obtain⟨z,ak,n,r,hl,e⟩:=I.Hu hH
 obtain⟨dN,n2,r2,Px,z2,e2⟩:=tm hK I hB
 have hsz:ak.toArray.size+dN.toArray.size<=sizeLine:=by rw [zzC,zzC];omega
 have BG:¬(!ak.toArray.isEmpty&&Builtin.List.listTooLong (ak.toArray.size+dN.toArray.size))=true:=by
  rw [qD hsz,Bool.and_false];exact zzf
 refine PySem.call_meets PySem.F.slot_list_extend ⟨_,e,rfl⟩ PySem.F.entry_list_extend (PySem.F.args_list_extend_2 _ _)
  (PySem.AutoSeq1.list_extend_list_list_0 l ak.toArray n b dN.toArray n2 BG (by rw [zzC];omega) (by omega)) ⟨e,e2,?_⟩
 refine⟨.aK,_,I.Ge (its':=ak++dN) hH e (by simp) (r.append r2) ?_,rfl,q⟩;rw [zzM];omega
def dJ(S:cV Γ F W N sc k E X){i:Nat}{x:Str}{pos:Pos}(h:N[i]?=some x)(hv:cD sc x=true)(ho:okN x=true):PE X (.Name x pos) (ue i):=
 dS (by rw [S.C.hN];exact h) (mJ S.C hv) (bR ho).1 (bR ho).2.1
def gJ{env:Sl}{σ:St}{G H:Hp}{i:Nat}{xs:List PV}(sr:SR W H0 env σ G H)(h:env[i]?=some (.own (.lst xs))):∃a vs,σ[i]?=some (some (.ref a))/\H a=some (.lst vs)/\G a=none/\H0 a=none/\ai W G xs vs:=by
 obtain⟨o,ho,v,rfl,a,vs,rfl,h1,h2,h3,l⟩:=sr.slot i _ h
 exact⟨a,vs,ho,h1,h2,h3,l⟩
def MM(S:cV Γ F W N sc k E X){i:Nat}{x:Str}{e:Ci.E}{p:Expr}{np apos bp pos:Pos}(h:N[i]?=some x)(hv:cD sc x=true)(ho:okN x=true)(eO:(apos.endLine==bp.line)=true)(cM:eR e=true)(he:GE X W F e p)
 (cL:∀env ps,starEach (p::ps) env=(false,eval p env)::starEach ps env):GS X W F H0 E (.app i e) (.Expr (.Call (.Attribute (.Name x np) "append" apos) [p] [] bp) pos):=by
 refine L2.PS.imp (kA (mM PySem.F.plainAttrs_list PySem.F.slot_list_append PySem.F.type_list_append oF (dJ S h hv ho) (ba he bP (cL _ _)) rfl (by rw [cL];rfl) eO (cL _ _) rfl) rfl) λD σ H hq=>?_
 obtain⟨G,env,sr,o⟩:=hq
 rw [bV] at o;split at o
 ·rename_i xs hx;obtain⟨a,vs,hs,h1,h2,h3,l⟩:=gJ sr hx
  refine⟨.ref a,hs,.inl ⟨rfl,_,df.of h1⟩,jW S sr o λq v G1 H1 g t aQ o1=>?_⟩
  split at o1
  ·rename_i hl;have B7:=g.h.at h1 (λ_ z=>nomatch z)
   have x8:=g.own a (by rw [h1];exact λz=>nomatch z) (by rw [h1];exact λ_ z=>nomatch z) h2
   have l':=ai.same g.g xs l
   refine⟨a,vs,v,rfl,rfl,B7,by rw [l.length];exact zzW hl (by decide),?_⟩;obtain⟨r2,g2⟩:=eT (p':=.lst (xs++[q])) (ob:=.lst (vs++[v])) aQ aQ.go hx hs x8 h3 ⟨a,_,rfl,aj,x8,h3,l'.append (.cons (t.rep cM) .nil)⟩
   exact o1 _ G1 _ r2 g2
  ·exact o1.elim
 ·exact o.elim
def Di(S:cV Γ F W N sc k E X){i:Nat}{x:Str}{e:Ci.E}{p:Expr}{np apos bp pos:Pos}(h:N[i]?=some x)(hv:cD sc x=true)(ho:okN x=true)(eO:(apos.endLine==bp.line)=true)(he:GE X W F e p)
 (cL:∀env ps,starEach (p::ps) env=(false,eval p env)::starEach ps env):GS X W F H0 E (.dQ i e) (.Expr (.Call (.Attribute (.Name x np) "extend" apos) [p] [] bp) pos):=by
 refine L2.PS.imp (kA (mM PySem.F.plainAttrs_list PySem.F.slot_list_extend PySem.F.type_list_extend (tQ S.C.K) (dJ S h hv ho) (ba he bP (cL _ _)) rfl (by rw [cL];rfl) eO (cL _ _) rfl) rfl) λD σ H hq=>?_
 obtain⟨G,env,sr,o⟩:=hq
 rw [bV] at o;split at o
 ·rename_i xs hx;obtain⟨a,vs,hs,h1,h2,h3,l⟩:=gJ sr hx
  refine⟨.ref a,hs,.inl ⟨rfl,_,df.of h1⟩,jW S sr o λq v G1 H1 g t aQ o1=>?_⟩
  split at o1
  ·rename_i ys;split at o1
   ·rename_i hl;have B7:=g.h.at h1 (λ_ z=>nomatch z)
    have x8:=g.own a (by rw [h1];exact λz=>nomatch z) (by rw [h1];exact λ_ z=>nomatch z) h2
    have l':=ai.same g.g xs l
    obtain⟨b,us,rfl,hb,lb⟩:=t.top.lst aQ.sub
    refine⟨a,b,vs,us,rfl,rfl,B7,hb,by rw [l.length,lb.length];exact lW hl,?_⟩;obtain⟨r2,g2⟩:=eT (p':=.lst (xs++ys)) (ob:=.lst (vs++us)) aQ aQ.go hx hs x8 h3 ⟨a,_,rfl,aj,x8,h3,l'.append lb⟩
    exact o1 _ G1 _ r2 g2
   ·exact o1.elim
  ·exact o1.elim
 ·exact o.elim
def Qi:V->V->V->Hp->(Hp->Prop)->Prop:=λo i v H Q=>∃a H',o=.ref a/\xi H a i v H'/\Q H'
def vq(hu:X.A.units+1<cLine):Oc X Qi:=by
 intro aa s σ H o i v ov iv u Q I ro ri rv h;obtain⟨a,H',rfl,g,q⟩:=h
 cases ro;exact v9 hu I g ri rv λs' I'=>⟨H',I',q⟩
def iS{env:Sl}{σ:St}{G H:Hp}{i:Nat}{ks:List (List Int)}{ps:List PV}(sr:SR W H0 env σ G H)(h:env[i]?=some (.own (.bM ks ps))):∃a us,σ[i]?=some (some (.ref a))/\ks.length=us.length/\H a=some (.dT (kz ks us))/\G a=none/\H0 a=none/\ai W G ps us:=by
 obtain⟨o,ho,v,rfl,a,us,rfl,n,h1,h2,h3,l⟩:=sr.slot i _ h
 exact⟨a,us,ho,n,h1,h2,h3,l⟩
def N3(S:cV Γ F W N sc k E X){i:Nat}{x:Str}{kk e:Ci.E}{pk p:Expr}{np fD pos:Pos}(h:N[i]?=some x)(hv:cD sc x=true)(ho:okN x=true)(cM:eR e=true)(WI:aR Γ N sc kk pk=true)(hk:GE X W F kk pk)(he:GE X W F e p):GS X W F H0 E (.put i kk e) (.Assign [.Subscript (.Name x np) pk fD] p pos):=by
 have uy:swappedStores [.Subscript (.Name x np) pk fD] p X.env=pure none:=by cases p<;>rfl
 have ha:∀v,assign (.Subscript (.Name x np) pk fD) X.env v=(do
  let ov<-holding [v] (eval (.Name x np) X.env)
  let iv<-holding [v,ov] (eval pk X.env)
  standAt fD
  holding [v,ov,iv] (setItem ov iv v)
  release [v,ov,iv] []):=by
  intro v;cases pk<;>first|rfl|(cases kk<;>first|(exact aM WI)|(rename_i q;cases q<;>exact aM WI))
 refine L2.PS.imp (pS he (ql (dJ S h hv ho) hk (vq (by have:=S.C.room.un;omega)) ha) (by cases p<;>rfl) uy) λD σ H hq=>?_
 obtain⟨G,env,sr,o⟩:=hq
 rw [bV] at o;refine jW S sr o λq v G1 H1 g t aQ o1=>?_
 split at o1
 ·rename_i ks ps hx;obtain⟨a,us,hs,n,h1,h2,h3,l⟩:=iS aQ hx
  refine⟨.ref a,hs,jW S aQ o1 λq2 v2 G2 H2 g2 t2 c0 o2=>?_⟩
  split at o2
  ·rename_i kk Kh;split at o2
   ·rename_i tY;have e2:=dz Kh
    subst e2;obtain⟨b,rfl,hb⟩:=t2.top.tupI (ns:=kk) c0.sub rfl
    have B7:=g2.h.at h1 (λ_ z=>nomatch z)
    have x8:=g2.own a (by rw [h1];exact λz=>nomatch z) (by rw [h1];exact λ_ z=>nomatch z) h2
    have l':=ai.same g2.g ps l
    refine⟨a,upd H2 a (.dT (putK (kz ks us) (ki kk) v)),rfl,xi.t B7 (by rw [m8];exact c0.sub _ _ hb) (by rw [eX n];exact zzW tY (by decide)),?_⟩;rw [sO n];obtain⟨r2,gg⟩:=eT (p':=.bM (gq ks kk) (d6 ks ps kk q)) (ob:=.dT (kz (gq ks kk) (d6 ks us kk v))) c0 c0.go hx hs x8 h3 ⟨a,_,rfl,lr n kk v,aj,x8,h3,pL l' (Rep.same g2.g q (t.rep cM))⟩
    exact o2 _ G2 _ r2 gg
   ·exact o2.elim
  ·exact o2.elim
 ·exact o1.elim
def C5(S:cV Γ F W N sc k E X){i:Nat}{x:Str}{np dp pos:Pos}(h:N[i]?=some x)(hl:dH sc x=true):GS X W F H0 E (.qm i) (.Assign [.Name x np] (.Dict [] [] dp) pos):=by
 obtain⟨a1,a2,a3⟩:=c8 S h hl
 intro aa s σ H D I hq;have DF:i<σ.length:=by rw [I.len,S.C.hN];exact(zzH.mp h).1
 refine ik a1 a2 a3 yo rfl (.inl (S.fn x)) aa s σ H D I ?_;obtain⟨G,env,sr,o⟩:=hq
 rw [bV] at o;intro p hp;obtain⟨r2,g2⟩:=pA (i:=i) (p:=.bM [] []) (ob:=.dT []) sr sr.go (by rw [sr.len];exact DF) hp ⟨p,[],rfl,rfl,aj,sr.sub.free hp,sr.base.free hp,.nil⟩
 exact o _ G _ r2 g2
def xk(S:cV Γ F W N sc k E X){i j n:Nat}{x y z:Str}{np zp fD yp apos WS bp pos:Pos}(h:N[i]?=some x)(hv:cD sc x=true)(ho:okN x=true)(hz:N[n]?=some z)(RK:cD sc z=true)(Rj:okN z=true)(hy:N[j]?=some y)(SQ:cD sc y=true)(Sf:okN y=true)
 (eO:(apos.endLine==bp.line)=true):GS X W F H0 E (.fN i j n) (.Assign [.Subscript (.Name x np) (.Name z zp) fD] (.Call (.Attribute (.Name y yp) "pop" apos) [.Name z WS] [] bp) pos):=by
 have hu:X.A.units+1<cLine:=by have:=S.C.room.un;omega
 refine L2.PS.imp (pS (DT hu (dJ S hy SQ Sf) (dJ S hz RK Rj) ⟨rfl,rfl,eO,rfl⟩) (ql (dJ S h hv ho) (dJ S hz RK Rj) (vq hu) λ_=>rfl) (by unfold swapsWithSole;exact iQ rfl) rfl) λD σ H hq=>?_
 obtain⟨G,env,sr,o⟩:=hq
 rw [bV] at o;split at o
 ·rename_i ks ps ks2 ps2 kp e1 e2 e3;split at o
  ·rename_i kk Kh;split at o
   ·rename_i p hp;split at o
    ·rename_i tY;have ek:=dz Kh
     subst ek;obtain⟨a,us,hs,nn,h1,h2,h3,l⟩:=iS sr e1
     obtain⟨ok,hk1,v,rfl,rv⟩:=sr.slot n _ e3
     obtain⟨b,rfl,hb⟩:=kj rv
     obtain⟨w,hw,kw⟩:=kD l hp
     refine⟨.ref a,hs,a,rfl,.inr ⟨_,.inl h1⟩,.ref b,hk1,_,ki kk,b,w,h1,rfl,(by rw [m8];exact sr.sub _ _ hb),(by rw [hV];exact hw),?_⟩;rw [vi kk nn];obtain⟨r1,g1⟩:=eT (p':=.bM (fc ks kk) (bX ks ps kk)) (ob:=.dT (kz (fc ks kk) (bX ks us kk))) sr sr.go e1 hs h2 h3 ⟨a,_,rfl,sf kk nn,aj,h2,h3,lP l⟩
     have VS:(env.set j (.own (.bM (fc ks kk) (bX ks ps kk))))[i]?=some (.own (.bM ks2 ps2)):=by rw [zzS (Ne.symm tY.2)];exact e2
     obtain⟨a2,us2,AJ,n2,k1,k2,k3,l2⟩:=iS r1 VS
     refine⟨.ref a2,AJ,.ref b,hk1,a2,_,rfl,xi.t k1 (by rw [m8];exact r1.sub _ _ hb) (by rw [eX n2];exact zzW tY.1 (by decide)),?_⟩;rw [sO n2];obtain⟨r2,g2⟩:=eT (p':=.bM (gq ks2 kk) (d6 ks2 ps2 kk p)) (ob:=.dT (kz (gq ks2 kk) (d6 ks2 us2 kk w))) r1 g1 VS AJ k2 k3 ⟨a2,_,rfl,lr n2 kk w,aj,k2,k3,pL l2 kw⟩
     exact o _ G _ r2 g2
    ·exact o.elim
   ·exact o.elim
  ·exact o.elim
 ·exact o.elim
def N6(S:cV Γ F W N sc k E X){i:Nat}{x:Str}{e:Ci.E}{p:Expr}{np pos:Pos}(h:N[i]?=some x)(hl:dH sc x=true)(he:GE X W F e p):GS X W F H0 E (.aug i .add e) (.AugAssign (.Name x np) .Add p pos):=by
 obtain⟨a1,a2,a3⟩:=c8 S h hl
 refine L2.PS.imp (Gg a1 a2 a3 he Ks (.inl (S.fn x))) λD σ H hq=>?_
 obtain⟨G,env,sr,o⟩:=hq
 rw [bV] at o;cases r:env[i]? with
 |none=>rw [r] at o;exact o.elim
 |some sl=>
  rw [r] at o;cases sl with
  |no=>exact o.elim
  |fn _ _ _=>exact o.elim
  |own p=>exact o.elim
  |val q=>
   obtain⟨o2,hs,v,rfl,rv⟩:=sr.slot i _ r
   refine⟨v,hs,?_⟩;have o':bo W H0 G E ((aE F e env).bind λy=>(match q,y with|.int _,.int _=>binOp .add q y|_,_=>.bad).bind λp=>.ok (.nx (env.set i (.val p)))) D:=o
   refine jW S sr o' λy u G1 H1 g t aQ o1=>?_
   cases q<;>cases y<;>first|(exact zzk o1)|skip
   rename_i m n;simp! [Rep] at rv;subst rv;exact⟨m,n,rfl,t.top.int,o1 _ G1 H1 (aQ.set i .i) aQ.go⟩
end
end Ci
namespace L2
open PySem PySem.Spec PyProof.Rows
end L2
namespace Ci
open PySem L2
section
variable{Γ:Pg}{X:Cx}{W:Wd}{F:bj}{N:List Str}{sc:Scope}{k:Nat}{H0:Hp}{E:XK}
def yU{env:Env}{x y:Str}{px py pt I0:Pos}{kt k2}{a b:Expr}(hk:env.scope.kind=.function)(hx:env.scope.names.lookup x=some .local)(hy:env.scope.names.lookup y=some .local)(hl:py.line=px.line)(iK:x≠y)(hp:CT a b=true):
 swappedStores [.Tuple [.Name x px,.Name y py] kt pt] (.Tuple [a,b] k2 I0) env=pure (some [x,y]):=by
 unfold CT at hp;simp! [zza] at hp;obtain⟨⟨⟨h1,h2⟩,h3⟩,h4⟩:=hp
 have s1:isStar a=false:=by simpa using h1
 have s2:isStar b=false:=by simpa using h2
 have b1:env.blockKind=.function:=by unfold Env.blockKind;rw [hk];rfl
 have k1:env.kindOf x=some .local:=hx
 have k2:env.kindOf y=some .local:=hy
 simp! [Bool.not_eq_true'] at h3 h4;have Ut:(y==x)=false:=beq_eq_false_iff_ne.mpr (Ne.symm iK)
 have Yn:(x==y)=false:=beq_eq_false_iff_ne.mpr iK
 have n2:[x,y].eraseDups=[x,y]:=by simp [List.eraseDups_cons,Ut]
 have n3:[a,b].all (foldedForSure 8)=false:=by simpa using h3
 have n4:[a,b].all (constantsAlone 8)=false:=by simpa using h4
 unfold swappedStores;simp! [List.any_cons,List.any_nil,Bool.or_false,pure_bind,List.filterMap_cons,List.filterMap_nil,k1,k2,Expr.pos,hl,List.head?_cons,Option.map_some,Option.getD_some,BEq.rfl,Bool.and_self,if_true,n2,n3,n4,b1];refine(if_neg zzf).trans ((if_neg λz=>?_).trans rfl);rcases Bool.or_eq_true_iff.mp z with z|z
 ·split at z
  ·cases s1
  ·cases z
 ·split at z
  ·cases s2
  ·cases z
def Ru(S:cV Γ F W N sc k E X){env:Sl}{σ:St}{G H:Hp}{es:Es}{f:List PV->Res Fl}{D:Ends}{Q:List V->Hp->Prop}(sr:SR W H0 env σ G H)(o:bo W H0 G E ((cb F es env).bind f) D)
 (h:∀ps vs G1 H1,aD W G H G1 H1->N5 W H0 G1 H1 es ps vs->SR W H0 env σ G1 H1->bo W H0 G1 E (f ps) D->Q vs H1):tA X W F es σ H Q:=
 ⟨H0,G,env,sr,(o.bind S sr).imp λp hp v G1 H1 g1 t=>h p v G1 H1 g1 t (sr.grow g1) (hp.on (sr.on g1))⟩
def Ez(S:cV Γ F W N sc k E X)(i j:Nat)(as:Es)(p:Stmt)(h:cX Γ N sc (.par i j as) p=true):GS X W F H0 E (.par i j as) p:=by
 cases p<;>first|(exact aM h)|skip
 rename_i ts v pos;cases v<;>first|(exact aM h)|skip
 rename_i es kt2 I0
 match es,h with
 |[],h=>exact aM h
 |[_],h=>exact aM h
 |_::_::_::_,h=>exact aM h
 |[a,b],h=>
 replace h:=ah h
 simp! [zza,zzy,bne_iff_ne,ne_eq] at h;obtain⟨⟨x,px,y,py⟩,h0,⟨⟨⟨⟨⟨⟨⟨⟨h1,h2⟩,h3⟩,h4⟩,h5⟩,h6⟩,h7⟩,h8⟩,h9⟩,h10⟩:=h
 obtain⟨kt,pt,rfl⟩:=u3 h0
 dsimp only at h1 h2 h4 h5 h6 h7;have ga:=eJ as S.C [a,b] h10
 intro aa s σ H D I hq;refine zE S.C.calm (by rw [S.C.hN];exact S.C.nd) (by rw [S.C.hN];exact h1) (by rw [S.C.hN];exact h2) (zzY h3) (by rw [S.C.cK];exact h6) (by rw [S.C.cK];exact h7) ga (yU I.ok.kind (by rw [S.C.cK];exact h6) (by rw [S.C.cK];exact h7) h5 h4 h8) rfl aa s σ H D I ?_;obtain⟨G,env,sr,o⟩:=hq
 rw [bV] at o;refine Ru S sr o λps vs G1 H1 g t aQ o1=>?_
 have rl:=t.rep h9
 match ps,rl,o1 with
 |[],_,o1=>exact o1.elim
 |[_],_,o1=>exact o1.elim
 |_::_::_::_,_,o1=>exact o1.elim
 |[p,q],rl,o1=>
  obtain⟨v,r,rfl,hv,rl⟩:=rl.aF
  obtain⟨w,r2,rfl,hw,rl⟩:=rl.aF
  have:=rl.length
  cases r2 with
  |cons _ _=>cases this
  |nil=>exact⟨v,w,rfl,o1 _ G1 H1 ((aQ.set i hv).set j hw) aQ.go⟩
def xb{env:Sl}{σ:St}{G H:Hp}(r:SR W H0 env σ G H){i:Nat}{p:PV}{a:Addr}(hi:i<env.length)(old:∀{j:Nat} {q:PV},env[j]?=some (.own q)->σ[j]?=some (some (.ref a))->False)(hn:Own W H0 G H p (.ref a)):
 SR W H0 (env.set i (.own p)) (σ.set i (some (.ref a))) G H:=by
 refine⟨by rw [List.length_set,List.length_set];exact r.len,r.sub,r.base,λj s e=>?_,λj l q q' c e1 e2 e3 e4=>?_,r.tab,r.ia⟩
 ·by_cases hj:i=j
  ·subst hj;rw [zzo hi] at e;cases e;exact⟨_,zzo (by rw [<-r.len];exact hi),_,rfl,hn⟩
  ·rw [zzS hj] at e;obtain⟨o2,h1,h2⟩:=r.slot j s e
   exact⟨o2,by rw [zzS hj];exact h1,h2⟩
 ·by_cases hj:i=j
  ·by_cases hl:i=l
   ·exact hj.symm.trans hl
   ·exfalso
    subst hj;rw [zzo (by rw [<-r.len];exact hi)] at e3;rw [zzS hl] at e2 e4;cases e3;exact old e2 e4
  ·by_cases hl:i=l
   ·exfalso
    subst hl;rw [zzo (by rw [<-r.len];exact hi)] at e4;rw [zzS hj] at e1 e3;cases e4;exact old e1 e3
   ·rw [zzS hj] at e1 e3;rw [zzS hl] at e2 e4;exact r.apart j l q q' c e1 e2 e3 e4
def Af(S:cV Γ F W N sc k E X)(i j:Nat)(e1 e2:Es)(p:Stmt)(h:cX Γ N sc (.sZ i j e1 e2) p=true):GS X W F H0 E (.sZ i j e1 e2) p:=by
 cases p<;>first|(exact aM h)|skip
 rename_i ts v pos;cases v<;>first|(exact aM h)|skip
 rename_i es kt2 I0
 match es,h with
 |[],h=>exact aM h
 |[_],h=>exact aM h
 |_::_::_::_,h=>exact aM h
 |[a,b],h=>
 replace h:=ah h
 simp! [zza,zzy,bne_iff_ne,ne_eq] at h;obtain⟨⟨x,px,y,py⟩,h0,⟨⟨⟨⟨⟨⟨⟨⟨⟨⟨⟨⟨⟨h1,h2⟩,h3⟩,h4⟩,h5⟩,h6⟩,h7⟩,h8⟩,h9⟩,h10⟩,h11⟩,h12⟩,h13⟩,h14⟩⟩:=h
 obtain⟨kt,pt,rfl⟩:=u3 h0
 dsimp only at h1 h2 h4 h5 h6 h7;obtain⟨ps1,f1,f2⟩:=ah h13
 obtain⟨ps2,f3,f4⟩:=ah h14
 obtain⟨q1,rfl⟩:=pY f1
 obtain⟨q2,rfl⟩:=pY f3
 have g1:=o5 (pos:=q1) h9 (zzY h11) (eJ e1 S.C _ f2)
 have g2:=o5 (pos:=q2) h10 (zzY h12) (eJ e2 S.C _ f4)
 have ga:=ba g1 (ba g2 (bP (X:=X)) rfl) rfl
 intro aa s σ H D I hq;refine zE S.C.calm (by rw [S.C.hN];exact S.C.nd) (by rw [S.C.hN];exact h1) (by rw [S.C.hN];exact h2) (zzY h3) (by rw [S.C.cK];exact h6) (by rw [S.C.cK];exact h7) ga (yU I.ok.kind (by rw [S.C.cK];exact h6) (by rw [S.C.cK];exact h7) h5 h4 h8) rfl aa s σ H D I ?_;have DF:i<σ.length:=by rw [I.len,S.C.hN];exact(zzH.mp h1).1
 have YY:j<σ.length:=by rw [I.len,S.C.hN];exact(zzH.mp h2).1
 obtain⟨G,env,sr,o⟩:=hq
 rw [bV] at o;show tF X W F (.lst e1) σ H λv H1=>tF X W F (.lst e2) σ H1 λw H2=>QO σ H2 λus H3=>∃v' w',v::w::us=[v',w']/\D.nx ((σ.set i (some v')).set j (some w')) H3
 refine yD S lst_is sr o λxs a vs G1 H1 g ha l aQ o1=>?_
 have Zl:=aQ.grow (.QW (o:=.lst vs) aQ.sub ha)
 refine yD S lst_is Zl o1 λys b ws G2 H2 gg hb l2 c0 o2=>?_
 have XJ:G1 a=none:=aQ.sub.free ha
 have uJ:H0 a=none:=aQ.base.free ha
 have hm:(upd H1 a (.lst vs)) a=some (.lst vs):=aj
 have P8:=gg.h.at hm (λ_ z=>nomatch z)
 have YA:=gg.own a (by rw [hm];exact λz=>nomatch z) (by rw [hm];exact λ_ z=>nomatch z) XJ
 have old:∀{j:Nat} {q:PV},env[j]?=some (.own q)->σ[j]?=some (some (.ref a))->False:=λ{j q} e1 e2=>by
  obtain⟨o2,h1,v2,rfl,ov⟩:=aQ.slot j _ e1
  rw [e2] at h1;cases h1;obtain⟨a',o',e3,hH,_⟩:=ov.Au
  cases e3;rw [ha] at hH;cases hH
 have r3:=xb (i:=i) (p:=.lst xs) c0 (by rw [c0.len];exact DF) old ⟨a,vs,rfl,P8,YA,uJ,ai.same gg.g xs l⟩
 obtain⟨r4,g4⟩:=pA (i:=j) (p:=.lst ys) (ob:=.lst ws) r3 r3.go (by rw [r3.len,List.length_set];exact YY) hb ⟨b,ws,rfl,aj,r3.sub.free hb,r3.base.free hb,l2⟩
 exact⟨_,_,rfl,o2 _ G2 _ r4 g4⟩
def AR{e:Expr}{q:Str×Int}(h:TN e=some q):∃np c1 c2 sp,e=.Subscript (.Name q.1 np) (.Constant (.int q.2) c1 c2) sp:=by
 obtain⟨⟨a,b⟩,h2,h⟩:=gK h
 obtain⟨y,h3,h⟩:=gK h
 obtain⟨c,h4,h⟩:=gK h
 obtain⟨n,h5,h⟩:=gK h
 cases h;obtain⟨p3,z3⟩:=bE h3
 obtain⟨c1,c2,z4⟩:=qb h4
 have z5:=o7 h5
 obtain⟨sp,z2⟩:=mf h2
 dsimp only at z2 z3 z4 z5;subst z3 z4 z5;exact⟨p3,c1,c2,sp,z2⟩
def zQ (S:cV Γ F W N sc k E X)(i j:Nat)(n m:Int)(e:Ci.E)(p:Stmt)(h:cX Γ N sc (.put2 i j n m e) p=true):GS X W F H0 E (.put2 i j n m e) p:=by
 cases p<;>first|(exact aM h)|skip
 rename_i ts v pos;obtain⟨t,h0,h⟩:=ah h
 obtain⟨es,h1,h⟩:=ah h
 obtain⟨⟨ea,eb⟩,h2,h⟩:=ah h
 obtain⟨⟨x,n'⟩,h3,h⟩:=ah h
 obtain⟨⟨y,m'⟩,h4,h⟩:=ah h
 simp! [zza,zzy] at h;obtain⟨⟨⟨⟨⟨⟨⟨⟨⟨⟨w1,rfl⟩,w3⟩,rfl⟩,w5⟩,w6⟩,w7⟩,w8⟩,w9⟩,w10⟩,w11⟩:=h
 cases bQ h0;obtain⟨kk,tp,rfl⟩:=i9 h1
 have z2:=vE h2
 obtain⟨np1,c1,c2,QJ,z3⟩:=AR h3
 obtain⟨np2,c3,c4,sp2,z4⟩:=AR h4
 dsimp only at z2 z3 z4;subst z2 z3 z4;have uy:swappedStores [Expr.Tuple [.Subscript (.Name x np1) (.Constant (.int n') c1 c2) QJ,.Subscript (.Name y np2) (.Constant (.int m') c3 c4) sp2] kk tp] v X.env=pure none:=by
  cases v<;>first|rfl|skip
  unfold swappedStores;simp! [pure_bind];split
  ·rfl
  ·split
   ·rfl
   ·rfl
 have BZ:swapsWithSole [Expr.Tuple [.Subscript (.Name x np1) (.Constant (.int n') c1 c2) QJ,.Subscript (.Name y np2) (.Constant (.int m') c3 c4) sp2] kk tp] v pos.line X.env=pure false:=by
  cases v<;>first|rfl|(exact aM w9)
 refine L2.PS.imp (pS (aW e S.C _ w11).ge (oP S.C.calm (me (ql (dJ S w1 w5 w6) mw set_list) (me (ql (dJ S w3 w7 w8) mw set_list) vb))) BZ uy) λD σ H hq=>?_
 obtain⟨G,env,sr,o⟩:=hq
 rw [bV] at o;refine jW S sr o λq u G1 H1 g t aQ o1=>?_
 cases q with
 |tup qs=>
  match qs,t,o1 with
  |[],_,o1=>exact zzk o1
  |[_],_,o1=>exact zzk o1
  |_::_::_::_,_,o1=>exact zzk o1
  |[a,b],t,o1=>
   have rp:=t.rep w10
   simp! [Rep] at rp;obtain⟨ad,us,rfl,sq,l⟩:=rp
   obtain⟨v1,r1,rfl,hv1,l⟩:=l.aF
   obtain⟨v2,r2,rfl,hv2,l⟩:=l.aF
   simp! [ai] at l;subst l;rw [S.C.K] at sq;cases hx:env[i]? with
   |none=>simp! [hx] at o1;exact zzk o1
   |some sx=>
    cases sx with
    |own px=>
     cases px with
     |lst xs=>
      cases hy:env[j]? with
      |none=>simp! [hx,hy] at o1;exact zzk o1
      |some sy=>
       cases sy with
       |own py=>
        cases py with
        |lst ys=>
         simp! [hx,hy] at o1
         by_cases xY:i≠j
         ·rw [if_pos xY] at o1;cases k1:vp xs.length n' with
          |none=>rw [k1] at o1;exact zzk o1
          |some kx=>
           rw [k1] at o1;cases k2:vp ys.length m' with
           |none=>replace o1:bo W H0 G1 E ((Res.of (vp ys.length m')).bind _) D:=o1;rw [k2] at o1;exact zzk o1
           |some ky=>
            replace o1:bo W H0 G1 E ((Res.of (vp ys.length m')).bind _) D:=o1
            rw [k2] at o1;obtain⟨a1,qv,BZ,q1,q2,q3,l1⟩:=gJ aQ hx
            obtain⟨a2,vs2,AJ,y1,y2,y3,l2⟩:=gJ aQ hy
            have ne:a2≠a1:=λz=>xY (aQ.apart i j _ _ a1 hx hy BZ (by rw [<-z];exact AJ))
            obtain⟨r3,g3⟩:=eT (p':=.lst (xs.set kx a)) (ob:=.lst (qv.set kx v1)) aQ aQ.go hx BZ q2 q3 ⟨a1,_,rfl,aj,q2,q3,l1.set kx hv1⟩
            have Y4:(env.set i (.own (.lst (xs.set kx a))))[j]?=some (.own (.lst ys)):=by rw [zzS xY];exact hy
            have Yo:(upd H1 a1 (.lst (qv.set kx v1))) a2=some (.lst vs2):=by rw [ag ne];exact y1
            obtain⟨r4,g4⟩:=eT (p':=.lst (ys.set ky b)) (ob:=.lst (vs2.set ky v2)) r3 g3 Y4 AJ y2 y3 ⟨a2,_,rfl,aj,y2,y3,l2.set ky hv2⟩
            exact⟨ad,_,rfl,az.tup aQ.sub sq.sq,rfl,_,_,rfl,⟨_,BZ,a1,qv,n',kx,rfl,rfl,q1,by rw [l1.length];exact k1,_,_,rfl,⟨_,AJ,a2,vs2,m',ky,rfl,rfl,Yo,by rw [l2.length];exact k2,rfl,o1 _ G1 _ r4 g4⟩⟩⟩
         ·rw [if_neg xY] at o1;exact zzk o1
        |_=>simp! [hx,hy] at o1;exact zzk o1
       |_=>simp! [hx,hy] at o1;exact zzk o1
     |_=>simp! [hx] at o1;exact zzk o1
    |_=>simp! [hx] at o1;exact zzk o1
 |_=>exact zzk o1
end
theorem qp:∀(cs:List Int) (all:List Int) (j b:Nat) (m:Int),all.drop j=cs->all[b]?=some m->b<j->(∀i c,all[i]?=some c->i<j->m<=c/\(i<b->m<c))->
 ∃m',all[iz cs j b m]?=some m'/\∀i c,all[i]?=some c->m'<=c/\(i<iz cs j b m->m'<c)
 |[],all,j,b,m,hd,hb,_,best=>by
  unfold iz;have hl:all.length<=j:=List.drop_eq_nil_iff.mp hd
  exact⟨m,hb,λi c e=>best i c e (zzW (zzH.mp e).1 hl)⟩
 |x::cs,all,j,b,m,hd,hb,hbj,best=>by
  have hx:all[j]?=some x:=by rw [<-List.head?_drop,hd];rfl
  have OU:all.drop (j+1)=cs:=by rw [<-List.drop_drop,hd];rfl
  unfold iz;split
  ·rename_i bB;refine qp cs all (j+1) j x OU hx (by omega) λi c e hi=>?_
   by_cases h:i=j
   ·subst h;rw [hx] at e;cases e;exact⟨Int.le_refl _,λz=>absurd z (Nat.lt_irrefl _)⟩
   ·have:=best i c e (by omega)
    exact⟨by omega,λ_=>by omega⟩
  ·rename_i bB;refine qp cs all (j+1) b m OU hb (by omega) λi c e hi=>?_
   by_cases h:i=j
   ·subst h;rw [hx] at e;cases e;exact⟨by omega,λz=>by omega⟩
   ·exact best i c e (by omega)
def D3{cs:List Int}{x:Nat}(h:HQ cs=some x):∃m,cs[x]?=some m/\∀i c,cs[i]?=some c->m<=c/\(i<x->m<c):=by
 cases cs with
 |nil=>cases h
 |cons c cs=>
  cases h;refine qp cs (c::cs) 1 0 c rfl rfl (by omega) λi d e hi=>?_
  have:i=0:=by omega
  subst this;cases e;exact⟨Int.le_refl _,λz=>absurd z (Nat.not_lt_zero _)⟩
theorem nY{W:Wd}{G H:Hp}{K:zz8}(hK:W.K=K)(sg:az G H):∀{ps:List PV} {us:List V} {cs:List Int},lG ps=some cs->ai W G ps us->cs.length=ps.length/\∀(i:Nat) v,us[i]?=some v->∃q r,v=V.ref q/\dI K H q (.int (cs.getD i 0)::r)
 |[],_,_,e,l=>by cases e;simp! [ai] at l;subst l;exact⟨rfl,λi v h=>by simp at h⟩
 |p::ps,us,cs,e,l=>by
  obtain⟨u,ur,rfl,h1,h2⟩:=l.aF
  unfold lG at e;split at e
  ·rename_i heq;cases heq
  ·rename_i heq;cases heq;obtain⟨r,hr,rfl⟩:=zzJ.mp e
   obtain⟨i1,i2⟩:=nY hK sg hr h2
   refine⟨by simp [i1],λi v hv=>?_⟩
   cases i with
   |zero=>
    cases hv;simp! [Rep] at h1;obtain⟨q,ws,rfl,tq,lq⟩:=h1
    obtain⟨w,wr,rfl,k1,lq⟩:=lq.aF
    simp! [Rep] at k1;subst k1;exact⟨q,wr,rfl,by rw [<-hK];simpa using az.tup sg tq.sq⟩
   |succ i=>simpa using i2 i v (by simpa using hv)
  ·cases e
section
variable{Γ:Pg}{X:Cx}{W:Wd}{F:bj}{N:List Str}{sc:Scope}{k:Nat}{H0:Hp}{E:XK}
def ER(S:cV Γ F W N sc k E X){m i:Nat}{x y:Str}{params:Arguments}{body:Expr}{scope:Scope}{yp q1 q2 q3 q4 q5 pos:Pos}(h1:N[m]?=some y)(h2:dH sc y=true)(h3:N[i]?=some x)(h4:sc.names.lookup x=some .cell)(h5:eC sc "min"=true)(h6:Γ.bs.contains "min"=true)(h7:Γ.hl=true)
 (h8:vH x params body scope=true):GS X W F H0 E (.si m i) (.Assign [.Name y yp] (.Call (.Name "min" q1) [.Name x q2] [⟨some "key",.Lambda params body scope q3,q4⟩] q5) pos):=by
 obtain⟨a1,a2,a3⟩:=c8 S h1 h2
 obtain⟨p,ep,L,hfr,hox⟩:=Ap h8
 have pe:PE X (.Call (.Name "min" q1) [.Name x q2] [⟨some "key",.Lambda params body scope q3,q4⟩] q5) (λσ H Q=>∃G env ks ps cs ix kk,SR W H0 env σ G H/\env[i]?=some (.own (.bM ks ps))/\lG ps=some cs/\HQ cs=some ix/\ks[ix]?=some kk/\∀v G' H',aD W G H G' H'->Rep W G' (pN kk) v->Q v H'):=by
  intro aa s σ H Q I hq;obtain⟨G,env,ks,ps,cs,ix,kk,sr,e1,e2,e3,e4,q⟩:=hq
  obtain⟨d,us,hs,n,k1,k2,k3,l⟩:=iS sr e1
  obtain⟨c,dg⟩:=I.ok.has x (.inl (by show X.env.scope.names.lookup x=_;rw [S.C.cK];exact h4))
  have B3:closureFor scope X.env=pure [(x,c)]:=by
   rw [iB λy hy hf=>?_]
   ·show pure (bx X.env (bh scope))=_
    rw [hfr];simp [bx,dg]
   ·have:y.1∈bh scope:=by
     unfold bh;rw [List.mem_reverse,zzx];exact⟨y,List.mem_filter.mpr ⟨hy,by rw [hf];rfl⟩,rfl⟩
    rw [hfr] at this;rw [zzi.mp this];exact⟨c,dg⟩
  refine wpAny_Call_Name_kw (dq I (cm S.C h5) (S.C.bs _ (zzn.mp h6)) (u:=.builtin "min") (by decide+kernel) ?_);refine PyProof.Rows.callWith_kw ?_;refine Calls.spliced_cons (bq (dS (i:=i) (by rw [S.C.hN];exact h3) (.inr (.inl (by show X.env.scope.names.lookup x=_;rw [S.C.cK];exact h4))) (bR hox).1 (bR hox).2.1 aa s σ H (λv' H1=>v'=.ref d/\H1=H) I ⟨_,hs,rfl,rfl⟩) λu s1 hu=>Calls.spliced_nil ?_)
  obtain⟨v',H1,I1,ru,rfl,rfl⟩:=hu
  cases ru;refine PyProof.Rows.kws_cons (bq (Bt S.C h7 ep B3 aa s1 σ H1 (λv2 H2=>∃f G2,v2=.ref f/\pR X W params body scope [(x,c)] G H1 G2 H2 f) I1 ⟨G,sr.sub,sr.tab,λf G2 H2 lm=>⟨f,G2,rfl,lm⟩⟩) λu s2 hu=>PyProof.Rows.kws_nil ?_)
  obtain⟨v2,H2,I2,ru,f,G2,rfl,g2,c',oc,cq,t,fm,pm,fo,co,cd,cn⟩:=hu
  cases ru;have c0:=sr.grow g2
  obtain⟨d',us',su,n',k1',k2',k3',l'⟩:=iS c0 e1
  rw [hs] at su;cases su;obtain⟨cl1,cl2⟩:=nY (K:=X.K) S.C.K c0.sub e2 l'
  have M:KM X σ H2 k d f (kz ks us') (λi=>cs.getD i 0):=by
   refine⟨S.C.room,k1',⟨p,x,params,body,scope,_,c,c',oc,cq,t,pm,fm,i,L,dg,I.ok.FI x c (S.C.fl h7 x) dg,c0.sub _ _ fo,c0.sub _ _ co,cd,cn,λu=>vw ep [u] rfl,by rw [S.C.hN];exact h3,hs,by rw [S.C.cK];exact h4⟩,λj kx v e=>?_⟩
   have:us'[j]?=some v:=by
    unfold kz at e;rw [List.getElem?_zip_eq_some] at e;exact e.2
   exact cl2 j v this
  obtain⟨mm,FH,DW⟩:=D3 e3
  have Uv:ix<ks.length:=(zzH.mp e4).1
  have Zi:cs.length=ks.length:=by rw [cl1,<-l'.length,n']
  refine xE M (by rw [eX n'];omega) I2 λj kx v b e hb best=>?_
  rw [eX n'] at best;have hj:j<ks.length:=by
   have:=(zzH.mp e).1
   rw [eX n'] at this;exact this
  have ej:j=ix:=by
   have ca:∀a,a<cs.length->cs[a]?=some (cs.getD a 0):=λa ha=>by simp [ha]
   have b1:=best ix Uv
   have b2:=DW j _ (ca j (by omega))
   have em:mm=cs.getD ix 0:=by rw [ca ix (by omega)] at FH;exact(zzq FH).symm
   rw [em] at b2;rcases Nat.lt_trichotomy j ix with z|z|z
   ·have:=b2.2 z;have:=b1.1;omega
   ·exact z
   ·have:=b1.2 z;have:=b2.1;omega
  subst ej;have ek:kx=ki kk:=by
   have:=congrArg (λl=>l[j]?) (oR (us:=us') n')
   simp! [zzQ,e,e4,Option.map_some] at this;exact zzq this
  rw [ek,m8] at hb;obtain⟨G3,g3,l3⟩:=gN (W:=W) (vs:=[.ref b]) (nss:=[kk]) c0.sub (.cons ⟨b,rfl,hb⟩ .nil)
  obtain⟨w,r,ew,hw,_⟩:=l3.aF
  cases ew;exact q _ _ _ (g2.trans g3) hw
 refine L2.PS.imp (ik a1 a2 a3 pe rfl (.inl (S.fn y))) λD σ H hq=>?_
 obtain⟨G,env,sr,o⟩:=hq
 rw [bV] at o;split at o
 ·rename_i ks ps hx;split at o
  ·rename_i cs FA;split at o
   ·rename_i kk Kh;obtain⟨ix,hix,hk2⟩:=zzZ.mp Kh
    exact⟨G,env,ks,ps,cs,ix,kk,sr,hx,FA,hix,hk2,λv G' H' g' rp=>o _ G' _ ((sr.grow g').set m rp) (sr.on g')⟩
   ·exact o.elim
  ·exact o.elim
 ·exact o.elim
def gZ(X:Cx)(E:XK)(σ:St):Prop:=∀(aa:List (Addr×Obj)) (H:Hp) (s:Shared) (e:Value) (s':Shared),Inv X aa σ H s->du X.prog X.w X.stack H s E e s'->X.xe e s'
theorem CS{σ:St}(S:gZ X E σ){c:Str}{Gs G H:Hp}(g:aD W Gs H0 G H)(h:∀Cv ao H',XE W c Gs H0 Cv ao H'->E Cv ao H'):rB X W σ c G H:=λaa G1 H1 s1 e s' I g1 x=>
 S aa H1 s1 e s' I (A8.imp x λCv a H' y=>h Cv a H' (by
  obtain⟨C,a',G',e1,e2,e3,e4,g2⟩:=y
  have g3:=g1.trans g2
  exact⟨C,a',G',e1,e2,e3,e4,g.g.trans g3.g,g.h.trans g3.h,g3.sub,λx h1 h3 h2=>g3.own x (λz=>h1 (g.h.free z)) (g.h.rP h1 h3) (g.own x h1 h3 h2),λt=>g3.tab (g.tab t)⟩))
def bo.zj{α:Type}{σ:St}(S:gZ X E σ){r:Res α}{f:α->Res Fl}{D:Ends}{env:Sl}{G H:Hp}(sr:SR W H0 env σ G H)(h:bo W H0 G E (r.bind f) D):Out X W r σ G H λa=>bo W H0 G E (f a) D:=by
 cases r with
 |ok a=>exact h
 |exc c=>exact CS S sr.go h
 |bad=>exact h
def oneAt{σ:St}(S:gZ X E σ){env:Sl}{G H:Hp}{e:Ci.E}{f:PV->Res Fl}{D:Ends}{Q:VK}(sr:SR W H0 env σ G H)(o:bo W H0 G E ((aE F e env).bind f) D)
 (h:∀p v G1 H1,aD W G H G1 H1->Got W H0 G1 H1 e p v->SR W H0 env σ G1 H1->bo W H0 G1 E (f p) D->Q v H1):tE X W F e σ H Q:=
 ⟨H0,G,env,sr,(o.zj S sr).imp λp hp v G1 H1 g1 t=>h p v G1 H1 g1 t (sr.grow g1) (hp.on (sr.on g1))⟩
def LY{σ:St}(S:gZ X E σ){env:Sl}{G H:Hp}{e:Ci.E}{f:Bool->Res Fl}{D:Ends}{Q:Bool->Hp->Prop}(sr:SR W H0 env σ G H)(o:bo W H0 G E ((aE F e env).bind λp=>wy p f) D)
 (h:∀b G1 H1,aD W G H G1 H1->SR W H0 env σ G1 H1->bo W H0 G1 E (f b) D->Q b H1):tT X W F e σ H Q:=by
 refine⟨H0,G,env,sr,(o.zj S sr).imp λp hp=>?_⟩
 cases p with
 |bl b=>exact⟨b,rfl,λG1 H1 g1=>h b G1 H1 g1 (sr.grow g1) (bo.on hp (sr.on g1))⟩
 |aK=>exact zzk hp
 |int _=>exact zzk hp
 |str _=>exact zzk hp
 |tup _=>exact zzk hp
 |lst _=>exact zzk hp
 |exc _=>exact zzk hp
 |bM _ _=>exact zzk hp
def yO{s:Ci.S}{env:Sl}:aS F (.cons s .nil) env=bV F s env:=by
 rw [aS];cases bV F s env with
 |ok f=>
  cases f with
  |nx e=>show aS F .nil e=_;rw [aS]
  |bk e=>rfl
  |ct e=>rfl
  |rt p=>rfl
 |exc c=>rfl
 |bad=>rfl
def CJ{e:Ci.E}{p:Expr}(h:aR Γ N sc e p=true)(hf:eY e=false):gz p=true:=by
 cases p<;>first|rfl|(cases e<;>first|(exact aM h)|(rename_i q;cases q<;>exact aM h)|(cases hf;done))
abbrev Xj(σ0:St)(t:TS):TS:=λD σ H=>σ=σ0/\t D σ H
mutual
theorem Yy{σ0:St}(C:cy Γ F W N sc k X)(fn:∀x,X.fn x=true)(hp:gZ X E σ0):∀(s:Ci.S) (p:Stmt),yc Γ N sc s p=true->PS X p (Xj σ0 (tS W F H0 E s))
 |.set i e,p,h=>by
  cases p<;>first|(exact aM h)|skip
  replace h:=ah h
  simp! [zza,zzy,Bool.not_eq_true'] at h;obtain⟨x,h0,⟨⟨⟨h1,h2⟩,h3⟩,h4⟩,h5⟩:=h
  obtain⟨xp,rfl⟩:=iC h0
  refine L2.PS.imp (ik (by rw [C.hN];exact C.nd) (by rw [C.hN];exact h1) (sM C.cK h2) (aW e C _ h5).ge (iQ (CJ h5 h4)) (.inl (fn x))) λD σ H q=>?_
  obtain⟨rfl,G,env,sr,o⟩:=q
  rw [bV] at o;exact oneAt hp sr o λq v G1 H1 g t aQ o1=>o1 _ G1 H1 (aQ.set i (t.rep h3)) aQ.go
 |.ret e,p,h=>by
  cases p<;>first|(exact aM h)|skip
  rename_i v pos;cases v with
  |none=>exact aM h
  |some v=>
   replace h:=aw h
   refine L2.PS.imp (Bd (aW e C v h.2).ge) λD σ H q=>?_
   obtain⟨rfl,G,env,sr,o⟩:=q
   rw [bV] at o;exact oneAt hp sr o λq v G1 H1 g t aQ o1=>o1 v G1 H1 (t.rep h.1) aQ.go
 |.ite c a b,p,h=>by
  cases p<;>first|(exact aM h)|skip
  replace h:=aw h
  simp! [zza] at h;obtain⟨⟨⟨h1,h2⟩,h3⟩,h4⟩:=h
  refine L2.PS.imp (Fx ((aW c C _ h2).gt h1) (TZ C fn hp a _ h3) (TZ C fn hp b _ h4)) λD σ H q=>?_
  obtain⟨rfl,G,env,sr,o⟩:=q
  rw [bV] at o;refine LY hp sr o λt G1 H1 g aQ o1=>?_
  cases t with
  |true=>
   rw [if_pos rfl] at o1⊢;exact⟨rfl,G1,env,aQ,o1⟩
  |false=>
   rw [if_neg zzf] at o1⊢;exact⟨rfl,G1,env,aQ,o1⟩
 |.expr _,_,h=>aM h
 |.rn _ _,_,h=>aM h
 |.own _ _,_,h=>aM h
 |.bt _,_,h=>aM h
 |.app _ _,_,h=>aM h
 |.dQ _ _,_,h=>aM h
 |.put _ _ _,_,h=>aM h
 |.aug _ _ _,_,h=>aM h
 |.eA _ _ _,_,h=>aM h
 |.FN _ _,_,h=>aM h
 |.raise _ _,_,h=>aM h
 |.um _ _ _ _,_,h=>aM h
 |.qm _,_,h=>aM h
 |.hZ _ _ _,_,h=>aM h
 |.mH _ _,_,h=>aM h
 |.fN _ _ _,_,h=>aM h
 |.si _ _,_,h=>aM h
 |.par _ _ _,_,h=>aM h
 |.sZ _ _ _ _,_,h=>aM h
 |.put2 _ _ _ _ _,_,h=>aM h
theorem TZ{σ0:St}(C:cy Γ F W N sc k X)(fn:∀x,X.fn x=true)(hp:gZ X E σ0):∀(ss:Ss) (ps:List Stmt),D7 Γ N sc ss ps=true->qy X ps (Xj σ0 (UJ W F H0 E ss))
 |.nil,ps,h=>aM h
 |.cons s (.cons _ _),ps,h=>aM h
 |.cons s .nil,ps,h=>by
  match ps,h with
  |[],h=>exact aM h
  |_::_::_,h=>exact aM h
  |[p],h=>
   have h:yc Γ N sc s p=true:=h
   refine L2.qy.imp (uV (Yy C fn hp s p h)) λD σ H q=>?_
   obtain⟨e,G,env,sr,o⟩:=q
   rw [yO] at o;exact⟨e,G,env,sr,o⟩
end
def cy.with1(C:cy Γ F W N sc k X)(pn:List (Addr×Obj))(xe:Value->Shared->Prop):cy Γ F W N sc k (X.with1 pn xe):=
 ⟨C.hN,C.cK,C.calm,C.nd,C.K,C.mg,C.gs,C.bs,C.room,λf h=>⟨(C.fns f h).ex⟩,C.O2,C.cls,C.xc,λq h=>⟨(C.qr q h).ex⟩,C.any,C.tb,C.bm,C.fl⟩
def SR.vals{env:Sl}{σ:St}{G H G' H':Hp}(r:SR W H0 env σ G H)(hn:env.any Slot.mF=false)(g:aD W G H0 G' H'):SR W H0 env σ G' H':=by
 have no:∀(i:Nat) (p:PV),env[i]?≠some (.own p):=λi p e=>by
  have:env.any Slot.mF=true:=zzj.mpr ⟨_,zzD e,rfl⟩
  rw [this] at hn;cases hn
 refine⟨r.len,g.sub,g.h,λi s e=>?_,λi j p q a e=>absurd e (no i p),g.tab r.ia,r.ia.same g.g g.own λ_ _ h=>h⟩
 obtain⟨o,h1,h2⟩:=r.slot i s e
 refine⟨o,h1,?_⟩;cases s with
 |no=>exact trivial
 |val q=>
  obtain⟨v,rfl,rv⟩:=h2
  exact⟨v,rfl,Rep.same g.g q rv⟩
 |own q=>exact absurd e (no i q)
 |fn _ _ _=>
  obtain⟨v,rfl,rv⟩:=h2
  exact⟨v,rfl,rv.same g.g⟩
def SR.drop{env:Sl}{σ:St}{G H:Hp}(i:Nat)(r:SR W H0 env σ G H):SR W H0 (env.set i .no) (σ.set i none) G H where
 len:=by simpa using r.len
 sub:=r.sub
 tab:=r.tab
 ia:=r.ia
 base:=r.base
 slot:=λj s e=>by
  by_cases hj:i=j
  ·subst hj;have bB:i<env.length:=by
    have:=(zzH.mp e).1
    simpa using this
   rw [zzo bB] at e;cases e;exact⟨none,zzo (by rw [<-r.len];exact bB),trivial⟩
  ·rw [zzS hj] at e;obtain⟨o,h1,h2⟩:=r.slot j s e
   exact⟨o,by rw [zzS hj];exact h1,h2⟩
 apart:=λa b q q' ad e1 e2 e3 e4=>by
  have ne:∀{c:Nat} {q:PV},(env.set i .no)[c]?=some (.own q)->i≠c:=λ{c q} e z=>by
   subst z;have bB:i<env.length:=by
    have:=(zzH.mp e).1
    simpa using this
   rw [zzo bB] at e;cases e
  have n1:=ne e1
  have n2:=ne e2
  rw [zzS n1] at e1 e3;rw [zzS n2] at e2 e4;exact r.apart a b q q' ad e1 e2 e3 e4
def az.put{G G':Hp}{a:Addr}{o:HO}(h:az G G')(ha:G a=none):az G (upd G' a o):=λb u e=>by
 rw [ag (λz=>by subst z;rw [ha] at e;cases e)];exact h b u e
def M7(S:cV Γ F W N sc k E X)(b:Ss)(c:Str)(i j:Nat)(p:Stmt)(h:cX Γ N sc (.um b c i j) p=true):GS X W F H0 E (.um b c i j) p:=by
 cases p<;>first|(exact aM h)|skip
 rename_i pb hs o1 o2 pos;replace h:=aw h
 simp! [zza,Option.any_eq_true,zzy] at h;obtain⟨⟨⟨z1,z2⟩,hb⟩,⟨x,n,y⟩,hh,⟨⟨⟨⟨⟨⟨⟨⟨e1,e2⟩,e3⟩,e4⟩,e5⟩,e6⟩,e7⟩,e8⟩,e9⟩,e10⟩:=h
 cases List.isEmpty_iff.mp z1;cases List.isEmpty_iff.mp z2;obtain⟨np,yp,n2p,ap,hpos,rfl⟩:=Nq hh
 dsimp only at e1 e2 e3 e4 e5 e6 e7 e8 e9 e10;subst e1;subst e3;have FA:Γ.cs.contains "FloorError"=true:=e2
 obtain⟨Dc,hm⟩:=S.C.cls _ (zzn.mp FA)
 have hN:X.N.Nodup:=by rw [S.C.hN];exact S.C.nd
 have hi:X.N[i]?=some n:=by rw [S.C.hN];exact e6
 have hj:X.N[j]?=some y:=by rw [S.C.hN];exact e9
 have FG:X.env.scope.names.lookup n=some .local:=by rw [S.C.cK];exact e7
 have VW:X.env.scope.names.lookup y=some .local:=by rw [S.C.cK];exact e10
 intro aa s σ H D I hq;obtain⟨G,env,sr,o⟩:=hq
 rw [bV] at o;cases hn:env.any Slot.mF with
 |true=>rw [if_pos hn] at o;exact o.elim
 |false=>
 rw [if_neg (by rw [hn];exact zzf)] at o
 let E1:XK:=λCv ao H'=>∃d,aS F b env=.exc d/\XE W d G H0 Cv ao H'
 let xe:Value->Shared->Prop:=λe s'=>∃H1 s1,Inv X aa σ H1 s1/\du X.prog X.w X.stack H1 s1 E1 e s'
 have hP:gZ (X.with1 (X.pn++aa) xe) E1 σ:=λjg H1 s1 e s' I1 c=>⟨H1,s1,I1.iY I.ok,c⟩
 have ob:bo W H0 G E1 (aS F b env) D:=by
  cases r:aS F b env with
  |ok f=>rw [r] at o;exact o
  |exc d=>exact λCv ao H' x=>⟨d,r,x⟩
  |bad=>rw [r] at o;exact o
 refine wpAny_Try_except (wpAny_mono (TZ (H0:=H0) (S.C.with1 (X.pn++aa) xe) S.fn hP b pb hb [] s σ H D I.with1 ⟨rfl,G,env,sr,ob⟩) (λf s1 hf=>?_) λe s1 hx=>?_)
 ·cases f with
  |next=>
   obtain⟨σ',H',I',q⟩:=hf
   exact vG aa s1 σ' H' D (I'.iY I.ok) q
  |brk=>
   obtain⟨σ',H',I',q⟩:=hf
   exact⟨σ',H',I'.iY I.ok,q⟩
  |cont=>
   obtain⟨σ',H',I',q⟩:=hf
   exact⟨σ',H',I'.iY I.ok,q⟩
  |ret u=>
   obtain⟨v,σ',H',I',r,q⟩:=hf
   exact⟨v,σ',H',I'.iY I.ok,r,q⟩
 ·obtain⟨H1,s2,I1,a,C,t,vs,H',B,rfl,Fy⟩:=hx
  have B1:=Fy.xq
  rw [S.Bz] at B1;refine wpAny_looks_onW (by rw [<-S.Bz];exact I1.ok.frames) S.frame B1 λh4 QX WU=>?_
  refine wpAny_landsW QX λh5 FD Wj=>?_
  have SN:=FD
  rw [<-S.Bz] at SN;have I5:=I1.yZ (tk:=s1.toks) Fy SN (WU.trans Wj)
  obtain⟨oa,va,ea,ca,da,_⟩:=SN.first
  obtain⟨d,ed,C',a',G',q1,q2,hdx,hdm,gr⟩:=Fy.ends
  cases q1;cases q2;have hx:PySem.W.exmOne X.K (.ref C) (.ref Dc)=some true:=S.QY FA d C hdx (by rw [<-S.C.mg];exact hdm) Dc hm
  refine wpAny_handleBy_cons (codeAny_handlers_test (dZ (X:=X.marked a (X.pn++aa)) I5.mark (cm S.C e4) hm ?_ (bR e5).1)) (by intro q;cases q);have LT:PySem.W.Looks (model X.prog X.w) h5 (typeOf (.ref a)) (.ref C):=by
   rw [<-ca];exact(PySem.W.Looks.ld ea).andThen .now
  refine PySem.W.exm_one (K:=X.K) I5.nq LT hx _ _ _ _ (λ_ _ e=>e) ?_;refine codeAny_handlers_suite_as ?_;refine PyProof.Rows.lands_againW FD λh6 WD YG=>?_
  rw [<-S.Bz] at WD;have I6:=I1.yZ (tk:=s1.toks) Fy WD ((WU.trans Wj).trans YG)
  have ha:H' a=none:=Fy.fresh
  have Vm:G' a=none:=gr.sub.free ha
  have uJ:H0 a=none:=gr.h.free ha
  have hG:G a=none:=gr.g.free Vm
  have Xd:aD W G H0 (upd G' a (iM a C)) (upd H' a (iM a C)):=⟨az.put gr.g hG,gr.h.upd uJ,(λq u e=>by
   by_cases hq:q=a
   ·subst hq;rw [aj] at e⊢;exact e
   ·rw [ag hq] at e⊢;exact gr.sub q u e),(λq w1 w3 w2=>by
   rw [ag (λz=>by subst z;exact w1 uJ)];exact gr.own q w1 w3 w2),λtt=>(gr.tab tt).same (aY Vm) (λq w1 _ w2=>by
   rw [ag (λz=>by subst z;exact w1 ha)];exact w2) (kh (λps z=>by rw [ha] at z;cases z))⟩
  have rp:Rep W (upd G' a (iM a C)) (.exc d) (.ref a):=by
   simp! [Rep];exact⟨a,C,rfl,hdx,hdm,aj⟩
  have c0:SR W H0 ((env.set j (.val (.exc d))).set i .no) (((σ.set i (some (.ref a))).set j (some (.ref a))).set i none) (upd G' a (iM a C)) (upd H' a (iM a C)):=by
   have z:=(((sr.vals hn Xd).set i rp).set j rp).drop i
   have eq:((env.set i (.val (.exc d))).set j (.val (.exc d))).set i .no=(env.set j (.val (.exc d))).set i .no:=by
    by_cases xY:i=j
    ·subst xY;rw [List.set_set]
    ·rw [List.set_comm _ _ xY,List.set_set]
   rw [eq] at z;exact z
  have fin:D.nx (((σ.set i (some (.ref a))).set j (some (.ref a))).set i none) (upd H' a (iM a C)):=by
   rw [ed] at o;exact o _ _ _ c0 Xd
  have DF:i<σ.length:=by rw [I1.len];exact(zzH.mp hi).1
  refine eK (X:=X.marked a (X.pn++aa)) (i:=i) (v:=.ref a) I6.mark hN hi (.inl FG) rfl (λs7 I7=>?_) (.inr FG);have hs:qy (X.marked a (X.pn++aa)) [.Assign [.Name y yp] (.Name n n2p) ap] (BI (ue i) (cH j)):=uV (ik (X:=X.marked a (X.pn++aa)) hN hj (.inl VW) (dS hi (.inl FG) (bR e8).1 (bR e8).2.1) rfl (.inr VW))
  refine wpAny_mono (hs [] s7 _ _ {nx:=λσ2 H2=>D.nx (σ2.set i none) H2,rt:=λv H2=>D.rt v H2,bk:=λσ2 H2=>D.bk (σ2.set i none) H2,ct:=λσ2 H2=>D.ct (σ2.set i none) H2} I7 ?hq) (λf s8 hf=>?_) λ_ _ z=>z.elim
  case hq=>exact⟨.ref a,zzo DF,fin⟩
  cases f with
  |next=>
   obtain⟨σ8,H8,I8,q8⟩:=hf
   exact ko (I8.unmark I.ok) hN hi FG λs9 I9=>⟨_,H8,I9,q8⟩
  |brk=>
   obtain⟨σ8,H8,I8,q8⟩:=hf
   exact ko (I8.unmark I.ok) hN hi FG λs9 I9=>⟨_,H8,I9,q8⟩
  |cont=>
   obtain⟨σ8,H8,I8,q8⟩:=hf
   exact ko (I8.unmark I.ok) hN hi FG λs9 I9=>⟨_,H8,I9,q8⟩
  |ret u=>
   obtain⟨v,σ8,H8,I8,r8,q8⟩:=hf
   exact ko (I8.unmark I.ok) hN hi FG λs9 I9=>⟨v,_,H8,I9,r8,q8⟩
end
section
variable{Γ:Pg}{X:Cx}{W:Wd}{F:bj}{N:List Str}{sc:Scope}{k:Nat}{H0:Hp}{E:XK}
theorem ai.erase{G:Hp}:∀{ps:List PV} {vs:List V} (n:Nat),ai W G ps vs->ai W G (ps.eraseIdx n) (vs.eraseIdx n)
 |[],_,n,h=>by simp! [ai] at h;subst h;simp! [List.eraseIdx_nil];exact .nil
 |p::ps,_,0,h=>by
  obtain⟨v,r,rfl,h1,h2⟩:=h.aF
  exact h2
 |p::ps,_,n+1,h=>by
  obtain⟨v,r,rfl,h1,h2⟩:=h.aF
  exact .cons h1 (ai.erase n h2)
def xj(S:cV Γ F W N sc k E X){i j:Nat}{x y:Str}{e:Ci.E}{p:Expr}{np apos bp yp A7 yn pos:Pos}(h:N[i]?=some x)(hv:cD sc x=true)(ho:okN x=true)(eO:(apos.endLine==bp.line)=true)(hy:N[j]?=some y)(SQ:cD sc y=true)(Sf:okN y=true)(HX:(A7.endLine==yn.line)=true)(he:GE X W F e p)
 (cL:∀env ps,starEach (p::ps) env=(false,eval p env)::starEach ps env):GS X W F H0 E (.hZ i j e) (.Expr (.Call (.Attribute (.Name x np) "append" apos) [.Call (.Attribute (.Name y yp) "pop" A7) [p] [] yn] [] bp) pos):=by
 refine L2.PS.imp (kA (mM PySem.F.plainAttrs_list PySem.F.slot_list_append PySem.F.type_list_append oF (dJ S h hv ho) (ba (mM PySem.F.plainAttrs_list PySem.F.slot_list_pop PySem.F.type_list_pop yi (dJ S hy SQ Sf) (ba he bP (cL _ _)) rfl (by rw [cL];rfl) HX (cL _ _) rfl) bP rfl) rfl rfl eO rfl rfl) rfl) λD σ H hq=>?_
 obtain⟨G,env,sr,o⟩:=hq
 rw [bV] at o;split at o
 ·rename_i xs ys hx BJ;obtain⟨a,vs,hs,h1,h2,h3,l⟩:=gJ sr hx
  obtain⟨b,us,su,B7,x8,h3',l'⟩:=gJ sr BJ
  refine⟨.ref a,hs,.inl ⟨rfl,_,df.of h1⟩,.ref b,su,.inl ⟨rfl,_,df.of B7⟩,jW S sr o λq v G1 H1 g t aQ o1=>?_⟩
  split at o1
  ·rename_i n;split at o1
   ·rename_i hc;obtain⟨c1,c2,c5,c3,c4⟩:=hc
    obtain⟨m,rfl⟩:=zzw c1
    have hm:m<ys.length:=by omega
    have hq:ys[m]?=some ys[m]:=zzg hm
    have m7:(Res.of ys[(m:Int).toNat]?)=.ok ys[m]:=by rw [zz4,hq];rfl
    rw [m7] at o1;obtain⟨w,hw,d5⟩:=l'.mR hq
    have S9:a≠b:=λz=>c4 (sr.apart i j _ _ a hx BJ hs (by rw [z];exact su))
    have k1:=g.h.at B7 (λ_ z=>nomatch z)
    have k2:=g.own b (by rw [B7];exact λz=>nomatch z) (by rw [B7];exact λ_ z=>nomatch z) x8
    have k3:=ai.same g.g ys l'
    have m1:=g.h.at h1 (λ_ z=>nomatch z)
    have m2:=g.own a (by rw [h1];exact λz=>nomatch z) (by rw [h1];exact λ_ z=>nomatch z) h2
    have m3:=ai.same g.g xs l
    have Zv:m<us.length:=by rw [l'.length];exact hm
    have tY:mU=1000000:=rfl
    obtain rfl:v=.int (m:Int):=t.top.int
    obtain⟨r1,g1⟩:=eT (p':=.lst (ys.eraseIdx m)) (ob:=.lst (us.eraseIdx m)) aQ aQ.go BJ su k2 h3' ⟨b,_,rfl,aj,k2,h3',ai.erase m k3⟩
    have YL:(env.set j (Slot.own (.lst (ys.eraseIdx m))))[i]?=some (.own (.lst xs)):=by rw [zzS (Ne.symm c4)];exact hx
    have Y6:upd H1 b (.lst (us.eraseIdx m)) a=some (.lst vs):=by rw [ag S9];exact m1
    obtain⟨r2,g2⟩:=eT (p':=.lst (xs++[ys[m]])) (ob:=.lst (vs++[w])) r1 g1 YL hs m2 h3 ⟨a,_,rfl,aj,m2,h3,m3.append (.cons (Rep.same g.g _ d5) .nil)⟩
    refine⟨b,us,(m:Int),m,w,rfl,rfl,k1,by omega,by omega,?_,hw,a,vs,w,rfl,rfl,Y6,by rw [l.length];exact zzW c3 (by decide),o1 _ G1 _ r2 g2⟩;unfold seqIndex?;have:¬(m:Int)<0:=by omega
    simp! [this,if_false];rw [if_pos (by rw [zza];exact⟨zzh (by omega),zzh (by omega)⟩)]
    rfl
   ·exact o1.elim
  ·exact o1.elim
 ·exact o.elim
def Cj(S:cV Γ F W N sc k E X){i:Nat}{x:Str}{e:Ci.E}{p:Expr}{np gp cp pos:Pos}(h:N[i]?=some x)(hl:dH sc x=true)(hg:eC sc "list"=true)(hm:Γ.bs.contains "list"=true)(he:GE X W F e p)
 (cL:∀env ps,starEach (p::ps) env=(false,eval p env)::starEach ps env):GS X W F H0 E (.mH i e) (.Assign [.Name x np] (.Call (.Name "list" gp) [p] [] cp) pos):=by
 obtain⟨a1,a2,a3⟩:=c8 S h hl
 intro aa s σ H D I hq;have DF:i<σ.length:=by rw [I.len,S.C.hN];exact(zzH.mp h).1
 refine ik a1 a2 a3 (gC oO (cm S.C hg) (S.C.bs _ (zzn.mp hm)) (by decide+kernel) (ba he bP (cL _ _)) (he:=cL _ _) (hpl:=rfl)) rfl (.inl (S.fn x)) aa s σ H D I ?_;obtain⟨G,env,sr,o⟩:=hq
 rw [bV] at o;refine jW S sr o λq v G1 H1 g t aQ o1=>?_
 have fin:∀xs a vs,v=.ref a->(df X.K H1 a vs\/dI X.K H1 a vs)->ai W G1 xs vs->bo W H0 G1 E (.ok (.nx (env.set i (.own (.lst xs))))) D->∃p ys,[v]=[V.ref p]/\(df X.K H1 p ys\/dI X.K H1 p ys)/\∀l,H1 l=none->D.nx (σ.set i (some (.ref l))) (upd H1 l (.lst ys)):=λxs a vs e hs l o2=>by
  subst e;refine⟨a,vs,rfl,hs,λad hp=>?_⟩
  obtain⟨r2,g2⟩:=pA (i:=i) (p:=.lst xs) (ob:=.lst vs) aQ aQ.go (by rw [aQ.len];exact DF) hp ⟨ad,vs,rfl,aj,aQ.sub.free hp,aQ.base.free hp,l⟩
  exact o2 _ G1 _ r2 g2
 cases q with
 |lst xs=>
  obtain⟨a,vs,e,h1,l⟩:=t.top.lst aQ.sub
  exact fin xs a vs e (.inl (iU S.C.K h1)) l o1
 |tup xs=>
  obtain⟨a,vs,e,h1,l⟩:=t.top.tup aQ.sub
  exact fin xs a vs e (.inr (S.C.K▸h1)) l o1
 |_=>exact o1.elim
def rM{e:Ci.E}(h:eY e=true):∀env q,aE F e env=.ok q->∃xs,q=.lst xs:=by
 cases e<;>first|(exact aM h)|exact lst_is|exact vo|exact nO
def oy(S:cV Γ F W N sc k E X){i:Nat}{x:Str}{xp pos:Pos}(hx:N[i]?=some x)(Ey:dH sc x=true)(e:Ci.E)(p:Expr)(hf:eY e=true)(h:aR Γ N sc e p=true):PS X (.Assign [.Name x xp] p pos) (OV X W F i e):=by
 cases e with
 |lst as=>
  obtain⟨ps,e,h1⟩:=ah h
  obtain⟨_,rfl⟩:=pY e
  have h2:=aw h1
  have h0:=aw h2.1
  exact p8 S hx Ey (o5 h0.1 (zzY h0.2) (eJ as S.C _ h2.2)) rfl
 |comp kk bf tg it elt=>
  obtain⟨eg,gens,scope,_,rfl,h1⟩:=RP h
  obtain⟨⟨bT,fG,ifs,asy⟩,z2,h2⟩:=gO h1
  have h3:=aw h2
  have z3:=zJ h3.1
  dsimp only at z2 z3;subst z2 z3
  clear h h1 h2
  have h:=aw h3.2
  clear h3
  simp! [zza] at h;obtain⟨⟨⟨⟨⟨⟨h1,h2⟩,h3⟩,h4⟩,h5⟩,h6⟩,iA⟩:=h
  have iA:=zzY iA
  subst iA;exact zD S hx Ey (iW h1) h2 h3 (yB it S.C bT fG h4) (i6 h4 _) h5 λY CY=>(aW elt CY eg h6).ge
 |cx kk bf tg it c elt=>
  obtain⟨eg,gens,scope,_,rfl,h1⟩:=RP h
  obtain⟨⟨bT,fG,ifs,asy⟩,z2,h2⟩:=gO h1
  obtain⟨pc,z3,h3⟩:=gO h2
  dsimp only at z2 z3;subst z2 z3
  clear h h1 h2
  have h:=aw h3
  clear h3
  simp! [zza] at h;obtain⟨⟨⟨⟨⟨⟨⟨⟨h0,h1⟩,h2⟩,h3⟩,h4⟩,h5⟩,h6⟩,h7⟩,iA⟩:=h
  have iA:=zzY iA
  subst iA;exact ua S hx Ey (iW h1) h2 h3 (yB it S.C bT fG h4) (i6 h4 _) h5 (λY CY=>(aW c CY pc h6).gt h0) λY CY=>(aW elt CY eg h7).ge
 |_=>exact aM hf
def xQ{e:Ci.E}{p:Expr}(h:aR Γ N sc e p=true)(hf:eY e=false):gz p=true:=by
 cases p<;>first|rfl|(cases e<;>first|(exact aM h)|(rename_i q;cases q<;>exact aM h)|(cases hf;done))
def xH(S:cV Γ F W N sc k E X){i:Nat}{x:Str}{e:Ci.E}{p:Expr}{xp pos:Pos}(h:N[i]?=some x)(hl:dH sc x=true)(cM:eR e=true)(hc:aR Γ N sc e p=true):GS X W F H0 E (.set i e) (.Assign [.Name x xp] p pos):=by
 cases hf:eY e with
 |true=>exact Ct S (rM hf) cM (oy S h hl e p hf hc)
 |false=>exact Gf S h hl cM (aW e S.C p hc).ge (iQ (xQ hc hf))
def A1(S:cV Γ F W N sc k E X)(e:Ci.E)(p:Stmt)(h:cX Γ N sc (.expr e) p=true):GS X W F H0 E (.expr e) p:=by
 cases p<;>first|(exact aM h)|skip
 replace h:=aw h
 try simp! [zza] at h
 exact Cd S (aW e S.C _ h.2).ge h.1
def Ca(S:cV Γ F W N sc k E X)(i:Nat)(e:Ci.E)(p:Stmt)(h:cX Γ N sc (.set i e) p=true):GS X W F H0 E (.set i e) p:=by
 cases p<;>first|(exact aM h)|skip
 replace h:=ah h
 simp! [Option.any_eq_true,zza,zzy] at h;obtain⟨x,h0,h1⟩:=h
 obtain⟨xp,rfl⟩:=iC h0
 exact xH S h1.1.1.1 h1.1.1.2 h1.1.2 h1.2
def EJ(S:cV Γ F W N sc k E X)(i:Nat)(e:Ci.E)(p:Stmt)(h:cX Γ N sc (.own i e) p=true):GS X W F H0 E (.own i e) p:=by
 cases p<;>first|(exact aM h)|skip
 replace h:=ah h
 simp! [Option.any_eq_true,zza,zzy] at h;obtain⟨x,h0,h⟩:=h
 obtain⟨xp,rfl⟩:=iC h0
 exact Cb S h.1.1.1 (rM h.1.2) (oy S h.1.1.1 h.1.1.2 e _ h.1.2 h.2)
def ED(S:cV Γ F W N sc k E X)(tg:Tg)(e:Ci.E)(p:Stmt)(h:cX Γ N sc (.rn tg e) p=true):GS X W F H0 E (.rn tg e) p:=by
 cases p<;>first|(exact aM h)|skip
 replace h:=ah h
 simp! [Option.any_eq_true,zza] at h;obtain⟨t,h0,⟨⟨⟨⟨h1,h2⟩,h3⟩,h4⟩,h5⟩,h6⟩:=h
 cases bQ h0;exact Hj S h1 h2 h3 h4 h5 (aW e S.C _ h6).ge
def EF(S:cV Γ F W N sc k E X)(i:Nat)(p:Stmt)(h:cX Γ N sc (.bt i) p=true):GS X W F H0 E (.bt i) p:=by
 cases p<;>exact aM h
def EB(S:cV Γ F W N sc k E X)(i:Nat)(e:Ci.E)(p:Stmt)(h:cX Γ N sc (.app i e) p=true):GS X W F H0 E (.app i e) p:=by
 cases p<;>first|(exact aM h)|skip
 replace h:=ah h
 simp! [Option.any_eq_true,zza,zzy] at h;obtain⟨⟨x,m,args⟩,h0,⟨⟨⟨⟨h1,h2⟩,h3⟩,h4⟩,h5⟩,q,h6,h7⟩:=h
 obtain⟨np,apos,bp,rfl,hl⟩:=mv h0
 cases bQ h6;cases h4;exact MM S h1 h2 h3 hl h5 (aW e S.C q h7).ge (notStar h7)
def zT(S:cV Γ F W N sc k E X)(i:Nat)(e:Ci.E)(p:Stmt)(h:cX Γ N sc (.dQ i e) p=true):GS X W F H0 E (.dQ i e) p:=by
 cases p<;>first|(exact aM h)|skip
 replace h:=ah h
 simp! [Option.any_eq_true,zza,zzy] at h;obtain⟨⟨x,m,args⟩,h0,⟨⟨⟨h1,h2⟩,h3⟩,h4⟩,q,h6,h7⟩:=h
 obtain⟨np,apos,bp,rfl,hl⟩:=mv h0
 cases bQ h6;cases h4;exact Di S h1 h2 h3 hl (aW e S.C q h7).ge (notStar h7)
def D5(S:cV Γ F W N sc k E X)(i:Nat)(kk e:Ci.E)(p:Stmt)(h:cX Γ N sc (.put i kk e) p=true):GS X W F H0 E (.put i kk e) p:=by
 cases p<;>first|(exact aM h)|skip
 replace h:=ah h
 simp! [Option.any_eq_true,zza,zzy] at h;obtain⟨⟨x,pk⟩,h0,⟨⟨⟨⟨h1,h2⟩,h3⟩,h5⟩,h6⟩,h7⟩:=h
 obtain⟨np,sp,rfl⟩:=BU h0
 exact N3 S h1 h2 h3 h5 h6 (aW kk S.C pk h6).ge (aW e S.C _ h7).ge
def zw(S:cV Γ F W N sc k E X)(i:Nat)(p:Stmt)(h:cX Γ N sc (.qm i) p=true):GS X W F H0 E (.qm i) p:=by
 cases p<;>first|(exact aM h)|skip
 rename_i ts v pos;cases v<;>first|(exact aM h)|skip
 rename_i ks vs dp;cases ks<;>first|(exact aM h)|skip
 cases vs<;>first|(exact aM h)|skip
 replace h:=ah h
 simp! [Option.any_eq_true,zza,zzy] at h;obtain⟨x,h0,h1,h2⟩:=h
 obtain⟨yp,rfl⟩:=iC h0
 exact C5 S h1 h2
def BA(S:cV Γ F W N sc k E X)(i:Nat)(e:Ci.E)(p:Stmt)(h:cX Γ N sc (.mH i e) p=true):GS X W F H0 E (.mH i e) p:=by
 cases p<;>first|(exact aM h)|skip
 obtain⟨x,h0,h1⟩:=ah h
 obtain⟨g,as,_,_,rfl,h2⟩:=vX h1
 obtain⟨q,rfl,h3⟩:=gO h2
 obtain⟨yp,rfl⟩:=iC h0
 simp! [zza,zzy] at h3;obtain⟨⟨⟨⟨⟨rfl,h4⟩,h5⟩,h6⟩,h7⟩,h8⟩:=h3
 exact Cj S h6 h7 h4 h5 (aW e S.C q h8).ge (notStar h8)
def tG(S:cV Γ F W N sc k E X)(i j n:Nat)(p:Stmt)(h:cX Γ N sc (.fN i j n) p=true):GS X W F H0 E (.fN i j n) p:=by
 cases p<;>first|(exact aM h)|skip
 replace h:=ah h
 simp! [Option.any_eq_true,zza,zzy] at h;obtain⟨⟨x,pk⟩,h0,z,hz,⟨⟨⟨⟨⟨h1,h2⟩,h3⟩,h4⟩,h5⟩,h6⟩,⟨y,m,args⟩,h7,h8,e,he,z2,OS,⟨⟨h9,h10⟩,h11⟩,h12⟩:=h
 obtain⟨np,sp,rfl⟩:=BU h0
 obtain⟨zp,rfl⟩:=bE hz
 obtain⟨yp,apos,bp,rfl,hl⟩:=mv h7
 cases h8;cases bQ he;obtain⟨WS,rfl⟩:=bE OS
 subst h9;exact xk S h1 h2 h3 h4 h5 h6 h10 h11 h12 hl
def yL(S:cV Γ F W N sc k E X)(m i:Nat)(p:Stmt)(h:cX Γ N sc (.si m i) p=true):GS X W F H0 E (.si m i) p:=by
 cases p<;>first|(exact aM h)|skip
 replace h:=ah h
 simp! [Option.any_eq_true,zza,zzy] at h;obtain⟨y,hy,c,hc,⟨⟨⟨⟨⟨⟨h1,h2⟩,h3⟩,h4⟩,h5⟩,h6⟩,h7⟩,h8⟩:=h
 obtain⟨yp,rfl⟩:=iC hy
 obtain⟨q1,q2,q3,q4,q5,rfl⟩:=Kn hc
 exact ER S h1 h2 h3 h4 h5 h6 h7 h8
def uk(S:cV Γ F W N sc k E X)(i j:Nat)(e:Ci.E)(p:Stmt)(h:cX Γ N sc (.hZ i j e) p=true):GS X W F H0 E (.hZ i j e) p:=by
 cases p<;>first|(exact aM h)|skip
 obtain⟨⟨x,m,args⟩,e1,h1⟩:=ah h
 obtain⟨a,z2,h2⟩:=gO h1
 obtain⟨⟨y,m2,args2⟩,e3,h3⟩:=ah h2
 obtain⟨q,z4,h4⟩:=gO h3
 have g:=aw h4
 simp! [zza,zzy] at g;obtain⟨⟨⟨⟨⟨⟨⟨⟨g1,g2⟩,g3⟩,g4⟩,g5⟩,g6⟩,g7⟩,g8⟩,g9⟩:=g
 dsimp only at z2 z4 g4 g8;subst z2 z4 g4 g8;obtain⟨np,apos,bp,rfl,hl⟩:=mv e1
 obtain⟨yp,A7,yn,rfl,Px⟩:=mv e3
 exact xj S g1 g2 g3 hl g5 g6 g7 Px (aW e S.C q g9).ge (notStar g9)
def CG(S:cV Γ F W N sc k E X)(i:Nat)(o:FQ)(e:Ci.E)(p:Stmt)(h:cX Γ N sc (.aug i o e) p=true):GS X W F H0 E (.aug i o e) p:=by
 cases p<;>first|(exact aM h)|skip
 rename_i t op v pos;cases t<;>first|(exact aM h)|skip
 replace h:=aw h
 try simp! [zza,zzy,zzN] at h
 obtain⟨⟨⟨⟨h1,h2⟩,h3⟩,h4⟩,h5⟩:=h
 cases o<;>first|(cases h3;done)|skip
 cases h4;exact N6 S h1 h2 (aW e S.C v h5).ge
def EH(S:cV Γ F W N sc k E X)(e:Ci.E)(p:Stmt)(h:cX Γ N sc (.ret e) p=true):GS X W F H0 E (.ret e) p:=by
 cases p<;>first|(exact aM h)|skip
 rename_i v pos;cases v with
 |none=>exact aM h
 |some v=>
  replace h:=aw h
  try simp! [zza] at h
  exact IF S h.1 (aW e S.C v h.2).ge
def wo(S:cV Γ F W N sc k E X)(c m:Str)(p:Stmt)(h:cX Γ N sc (.raise c m) p=true):GS X W F H0 E (.raise c m) p:=by
 cases p<;>first|(exact aM h)|skip
 replace h:=aw h
 simp! [Option.any_eq_true,zza,zzy] at h;obtain⟨hn,⟨x,z⟩,h0,⟨⟨⟨h1,h2⟩,h3⟩,h4⟩,h5⟩:=h
 obtain⟨np,j,zp,cp,rfl⟩:=Oh h0
 cases h1;cases h2;rename_i fr pos;cases Option.isNone_iff_eq_none.mp hn;exact Aj S h3 h4 h5
def Ee{c:Ci.E}{a b:Ss}{p:Stmt}(h:cX Γ N sc (.ite c a b) p=true):∃q pa pb pos,p=.If q pa pb pos/\fk c=true/\aR Γ N sc c q=true/\cR Γ N sc a pa=true/\cR Γ N sc b pb=true:=by
 cases p<;>first|(exact aM h)|skip
 replace h:=aw h
 try simp! [zza] at h
 exact⟨_,_,_,_,rfl,h.1.1.1,h.1.1.2,h.1.2,h.2⟩
def E9{tg:Tg}{it:I}{b:Ss}{p:Stmt}(h:cX Γ N sc (.eA tg it b) p=true):∃bT fG pb pos,p=.For bT fG pb [] pos/\fv N sc (λ_=>true) tg bT=true/\EN it=true/\wm Γ N sc bT it fG=true/\cR Γ N sc b pb=true:=by
 cases p<;>first|(exact aM h)|skip
 replace h:=aw h
 try simp! [zza] at h
 cases List.isEmpty_iff.mp h.1.1.1.1;exact⟨_,_,_,_,rfl,h.1.1.1.2,h.1.1.2,h.1.2,h.2⟩
def EK{c:Ci.E}{b:Ss}{p:Stmt}(h:cX Γ N sc (.FN c b) p=true):∃q pb pos,p=.While q pb [] pos/\fk c=true/\aR Γ N sc c q=true/\cR Γ N sc b pb=true:=by
 cases p<;>first|(exact aM h)|skip
 replace h:=aw h
 try simp! [zza] at h
 cases List.isEmpty_iff.mp h.1.1.1;exact⟨_,_,_,rfl,h.1.1.2,h.1.2,h.2⟩
def E3{ps:List Stmt}(h:cR Γ N sc .nil ps=true):ps=[]:=by
 cases ps with
 |nil=>rfl
 |cons _ _=>exact aM h
def An{s:Ci.S}{ss:Ss}{ps:List Stmt}(h:cR Γ N sc (.cons s ss) ps=true):(∃i,s=.bt i/\cR Γ N sc ss ps=true)\/∃q qs,ps=q::qs/\cX Γ N sc s q=true/\cR Γ N sc ss qs=true:=by
 by_cases hz:∃i,s=.bt i
 ·obtain⟨i,rfl⟩:=hz
  exact .inl ⟨i,rfl,h⟩
 ·cases ps with
  |nil=>cases s<;>first|(exact absurd ⟨_,rfl⟩ hz)|(exact aM h)
  |cons p ps=>
   have h2:(cX Γ N sc s p&&cR Γ N sc ss ps)=true:=by
    cases s<;>first|(exact absurd ⟨_,rfl⟩ hz)|(exact h)
   rw [zza] at h2;exact .inr ⟨p,ps,rfl,h2.1,h2.2⟩
mutual
theorem Um(S:cV Γ F W N sc k E X):∀(s:Ci.S) (p:Stmt),cX Γ N sc s p=true->GS X W F H0 E s p
 |.expr e,p,h=>A1 S e p h
 |.set i e,p,h=>Ca S i e p h
 |.own i e,p,h=>EJ S i e p h
 |.rn tg e,p,h=>ED S tg e p h
 |.bt i,p,h=>EF S i p h
 |.app i e,p,h=>EB S i e p h
 |.dQ i e,p,h=>zT S i e p h
 |.put i kk e,p,h=>D5 S i kk e p h
 |.hZ i j e,p,h=>uk S i j e p h
 |.mH i e,p,h=>BA S i e p h
 |.qm i,p,h=>zw S i p h
 |.fN i j n,p,h=>tG S i j n p h
 |.si m i,p,h=>yL S m i p h
 |.aug i o e,p,h=>CG S i o e p h
 |.par i j as,p,h=>Ez S i j as p h
 |.sZ i j e1 e2,p,h=>Af S i j e1 e2 p h
 |.put2 i j n m e,p,h=>zQ S i j n m e p h
 |.ret e,p,h=>EH S e p h
 |.ite c a b,p,h=>by
  obtain⟨q,pa,pb,pos,rfl,h1,h2,h3,h4⟩:=Ee h
  exact MO S ((aW c S.C _ h2).gt h1) (lM S a _ h3) (lM S b _ h4)
 |.eA tg it b,p,h=>by
  obtain⟨bT,fG,pb,pos,rfl,h1,h2,h3,h4⟩:=E9 h
  exact Lz S h1 h2 (yB it S.C bT fG h3) (i6 h3 _) (lM S b _ h4)
 |.FN c b,p,h=>by
  obtain⟨q,pb,pos,rfl,h1,h2,h3⟩:=EK h
  exact Md S ((aW c S.C _ h2).gt h1) (lM S b _ h3)
 |.raise c m,p,h=>wo S c m p h
 |.um b c i j,p,h=>M7 S b c i j p h
theorem lM(S:cV Γ F W N sc k E X):∀(ss:Ss) (ps:List Stmt),cR Γ N sc ss ps=true->BX X W F H0 E ss ps
 |.nil,ps,h=>by
  cases E3 h;exact D2
 |.cons s ss,ps,h=>by
  rcases An h with⟨i,e,h2⟩|⟨q,qs,e,h1,h2⟩
  ·have:=CL (i:=i) (lM S ss ps h2)
   rw [<-e] at this;exact this
  ·rw [e];exact AQ (Um S s q h1) (lM S ss qs h2)
end
end
end Ci
namespace L2
open PySem PySem.Spec PyProof.Rows
def b9{K:zz8}{C c:Addr}{b:Bool}(h1:PySem.W.isClsIn K c=true)(h2:PySem.W.typeIn K (.ref c)=some (.type "type"))(h3:PySem.W.subIn K (.ref C) (.ref c)=some b)(h4:b=true\/(C==c)=false):PySem.W.kitOne K (.ref C) (.ref c)=some b:=by
 have k:PySem.W.kitCls K (.ref C) (.ref c)=some b:=by
  show(if((PySem.W.clsIn K c).isSome&&PySem.W.typeIn K (.ref c)==some (.type "type"))=true then PySem.W.subIn K (.ref C) (.ref c) else none)=some b
  rw [show(PySem.W.clsIn K c).isSome=true from h1,h2,h3]
  rfl
 unfold PySem.W.kitOne;split
 ·rename_i e;rcases h4 with rfl|h4
  ·rfl
  ·have e2:C=c:=Value.ref.inj (zzy.mp e)
   rw [e2,beq_self_eq_true] at h4;cases h4
 ·exact k
def zI{K:zz8}{C:Addr}{T:String}{b:Bool}(h1:PySem.W.kitMeta T=true)(h3:PySem.W.subIn K (.ref C) (.type T)=some b):PySem.W.kitOne K (.ref C) (.type T)=some b:=by
 unfold PySem.W.kitOne;split
 ·rename_i e;cases zzy.mp e
 ·show(if PySem.W.kitMeta T=true then PySem.W.subIn K (.ref C) (.type T) else none)=some b
  rw [if_pos h1];exact h3
def rR{K:zz8}{C c:Addr}{b:Bool}(h0:PySem.W.subIn K (.ref c) (.type "BaseException")=some true)(h1:PySem.W.isClsIn K c=true)(h2:PySem.W.typeIn K (.ref c)=some (.type "type"))(h3:PySem.W.subIn K (.ref C) (.ref c)=some b):PySem.W.exmOne K (.ref C) (.ref c)=some b:=by
 unfold PySem.W.exmOne;rw [h0];show PySem.W.kitCls K (.ref C) (.ref c)=some b
 show(if((PySem.W.clsIn K c).isSome&&PySem.W.typeIn K (.ref c)==some (.type "type"))=true then PySem.W.subIn K (.ref C) (.ref c) else none)=some b
 rw [show(PySem.W.clsIn K c).isSome=true from h1,h2,h3]
 rfl
def OO{K:zz8}{h:Heap}{mg:Str->Option Value}{x:Str}{C:Addr}{V4:List Value}{newId:String}(X:K.In h)(hm:mg x=some (.ref C))(q:PySem.W.excIn K C V4 newId=true):OwnCls x C V4 newId mg h:=by
 constructor
 ·exact hm
 ·unfold PySem.W.excIn at q;split at q
  ·rename_i dd cd sl ho;split at q
   ·rename_i C1 bm1 k0 k1 k2 k3 n1 k5 FH BZ;simp! [zza,zzy,Bool.not_eq_true'] at q;obtain⟨⟨⟨⟨⟨q1,q2⟩,q3⟩,q4⟩,q5⟩,q6⟩:=q
    subst q1 q2;obtain⟨nm,bs,mro,ns,qn,hd,sn,sub,ab,col,del⟩:=cd
    have DW:mro=.ref C1::bm1:=FH
    have hd2:del=false:=q3
    have VX:PySem.W.nsOkIn K ns=true:=q5
    have Yr:PySem.W.nsIn K ns "__init__"=some none:=q6
    subst DW hd2;obtain⟨ls⟩:=sl
    have AJ:ls=[k0,k1,k2,k3,some (.builtin n1),k5]:=BZ
    subst AJ;exact⟨bm1,ns,nm,qn,bs,hd,sn,sub,ab,col,dd,k0,k1,k2,k3,k5,_,X _ _ ho,.of_isNs (PySem.W.isNs_of_in X VX),PySem.W.nsMap_none_of_in X VX Yr,PySem.W.tail_of_in X q4⟩
   ·cases q
  ·cases q
end L2
namespace Ci
open PySem L2
abbrev yH:List Value:=[.type "ValueError",.type "Exception",.type "BaseException",.type "object"]
structure sL(K:zz8)(mg:Str->Option Value)(Γ:Pg)(W:Wd):Prop where
 hK:W.K=K
 hm:W.mg=mg
 gs:∀q∈Γ.gs,∃u v,mg q.1=some u/\RelV v u/\∀G,Rep W G q.2 v
 bs:∀g∈Γ.bs,mg g=none
 O2:Γ.cs.contains "ValueError"=false
 cls:∀c∈Γ.cs,∃C,mg c=some (.ref C)
 xc:∀d∈W.xs,∀D,mg d=some (.ref D)->mj K D/\(∀c∈Γ.cs,∀C,mg c=some (.ref C)->PySem.W.kitOne K (.ref D) (.ref C)=some (c==d||c=="FloorError"))/\PySem.W.kitOne K (.ref D) (.type "ValueError")=some true
 xs:∀c,Γ.rs.contains c=true->c∈W.xs
 rm:∀c,Γ.rs.contains c=true->∃C,mg c=some (.ref C)/\PySem.W.excIn K C yH "ValueError.__new__"=true
 QY:Γ.cs.contains "FloorError"=true->∀c D,c∈W.xs->mg c=some (.ref D)->∀T,mg "FloorError"=some (.ref T)->PySem.W.exmOne K (.ref D) (.ref T)=some true
 bm:W.ts≠[]->∃bm o,mg "__builtins__"=some (.ref bm)/\bm≠builtinsNs/\bm≠mainGlobals/\K.lookup bm=some o/\o.cls=.type "module"/\o.dict=some builtinsNs/\o.data=.plain
structure Row where
 f:Str
 h:Str
 d:Def
 st:Stmt
 hl:Bool:=false
abbrev cO:Type:=List Row
def nr(l:cO):List Str:=l.filterMap λr=>if r.d.qC.isNone then some r.f else none
def vU(l:cO):List Hs:=l.filterMap λr=>r.d.qC.map λq=>⟨r.f,r.h,q.1,q.2,r.d.np⟩
def tab(l:cO):List (Str×Def):=l.map λq=>(q.f,q.d)
noncomputable def Pg.at(Γ:Pg)(l:cO)(hl:Bool):Pg:={Γ with fs:=nr l,hs:=vU l,hl:=hl}
structure br(Γ:Pg)(n:Str)(d:Def)(st:Stmt):Prop where
 sc:kI d.N (d.N.take d.np) (aX st)
 np:d.np<=d.N.length
 bind:∀(kV doc pm:Value) (an:Option Addr) (ft ct:Value) (us:List Value),us.length=(d.N.take d.np).length->bindArgs (PySem.W.fnOf n n (cE st) (bW st) (aX st) .none kV doc pm an ft ct) ⟨us,[]⟩=pure ((d.N.take d.np).zip us)
 XB:cR Γ d.N (aX st) d.body (bW st)=true
theorem stM{Γ:Pg}{n:Str}{d:Def}{st:Stmt}(b:∀(kV doc pm:Value) (an:Option Addr) (ft ct:Value) (us:List Value),us.length=(d.N.take d.np).length->bindArgs (PySem.W.fnOf n n (cE st) (bW st) (aX st) .none kV doc pm an ft ct) ⟨us,[]⟩=pure ((d.N.take d.np).zip us))
 (a1:(aX st).kind=.function:=by rfl) (a2:(aX st).isCoroutine=false:=by rfl) (a3:(aX st).isGenerator=false:=by rfl) (a4:d.N.Nodup:=by decide+kernel) (a5:d.N.take (d.N.take d.np).length=d.N.take d.np:=by rfl)
 (a6:∀x∈d.N.take d.np,(aX st).names.lookup x=some .local\/(aX st).names.lookup x=some .cell:=by decide+kernel) (a7:∀y∈(aX st).names,y.2≠.free:=by decide+kernel) (a8:d.np<=d.N.length:=by decide+kernel) (a9:cR Γ d.N (aX st) d.body (bW st)=true:=by decide+kernel):br Γ n d st:=⟨⟨a1,a2,a3,a4,a5,a6,a7⟩,a8,b,a9⟩
def gk(K:zz8)(c P:Addr):Prop:=∃o vs file tf flags tg Tv text tt,K.lookup c=some o/\o.cls=.type "code"/\o.data=.fields vs/\vs[11]?=some (.ref P)/\vs.getD 11 .none=.ref P/\vs.getD 18 .none=.str file tf/\
 vs.getD 7 .none=.int flags tg/\vs.getD 9 .none=.bool Tv/\vs.getD 10 .none=.int text tt/\c≠P
def ng(n:Str):Str:=(n++".<locals>.")++"<lambda>"
def wM(K:zz8)(ts:List (Addr×Str))(hl:Bool)(n:Str)(st:Stmt):Prop:=∃(f:Addr) (oc:Value) (od:Option Addr) (kV doc pm:Value) (an:Option Addr) (ft ct:Value) (uz:Array (Option Value)),
 PySem.W.nsIn K mainGlobals n=some (some (.ref f))/\K.lookup f=some ⟨oc,od,.func (PySem.W.fnOf n n (cE st) (bW st) (aX st) .none kV doc pm an ft ct),uz⟩/\PySem.W.codeIn K ft n=true/\PySem.W.keepIn K (.ref f)=true/\
 (hl=true->∃c P,ft=.ref c/\gk K c P/\(P,ng n)∈ts/\∀q',(P,q')∈ts->q'=ng n)
def Tq{K:zz8}{ts:List (Addr×Str)}{n:Str}{st:Stmt}{f:Addr}{oc:Value}{od:Option Addr}{kV doc pm:Value}{an:Option Addr}{ft ct:Value}{uz:Array (Option Value)}(a:PySem.W.nsIn K mainGlobals n=some (some (.ref f)))
 (l:K.lookup f=some ⟨oc,od,.func (PySem.W.fnOf n n (cE st) (bW st) (aX st) .none kV doc pm an ft ct),uz⟩) (c:PySem.W.codeIn K ft n=true) (k:PySem.W.keepIn K (.ref f)=true):wM K ts false n st:=⟨f,oc,od,kV,doc,pm,an,ft,ct,uz,a,l,c,k,(λz=>nomatch z)⟩
structure pP(P:Program)(w:World)(K:zz8)(mg:Str->Option Value)(base:Heap)(W:Wd)(F:bj)(k:Nat)(f:Str):Prop where
 ex:∃fa fd ps,gh P w K mg base (du P w) k fa fd ps (xZ W F f ps.length none)/\mg f=some (.ref fa)/\PySem.W.keepIn K (.ref fa)=true/\Binds K fd ps []/\∀as,F f as≠.bad->as.length=ps.length
structure II(P:Program)(w:World)(K:zz8)(mg:Str->Option Value)(base:Heap)(W:Wd)(F:bj)(k:Nat)(q:Hs):Prop where
 ex:∃fa fd ps,gh P w K mg base (du P w) k fa fd ps (xZ W F q.f ps.length (some (q.g,q.idx)))/\mg q.h=some (.ref fa)/\PySem.W.keepIn K (.ref fa)=true/\Binds K fd ps []/\ps.length=q.np
section
variable{P:Program}{w:World}{K:zz8}{mg:Str->Option Value}{base:Heap}{Γ:Pg}{W:Wd}
def xR{c p:Addr}(KB:K.In base)(h:gk K c p):PySem.W.CodeHd base c p:=by
 obtain⟨o,vs,file,tf,flags,tg,Tv,text,tt,e,r⟩:=h
 exact⟨o,vs,file,tf,flags,tg,Tv,text,tt,KB _ _ e,r⟩
theorem IP(M:sL K mg Γ W)(KB:K.In base){F:bj}{k:Nat}{N ps:List Str}{qual:Str}{sc:Scope}(S:kI N ps sc)(hF:∀f,Γ.fs.contains f=true->pP P w K mg base W F k f)(hH:∀q∈Γ.hs,II P w K mg base W F k q)(hA:∀g as,F g as≠.bad->Γ.fs.contains g=true\/f7 g=true){f:Addr}{cd:Value}
 (hL:Γ.hl=true->∃c p,cd=.ref c/\gk K c p/\(p,ng qual)∈W.ts/\∀q',(p,q')∈W.ts->q'=ng qual) {A:Around} {outer:List Env} {s:Shared} {H:Hp} {E:XK} (hr:dh (k+1) (A.deeper (PyProof.Rows.envOfC qual sc (zz9 s) f cd))):
 cV Γ F W N sc k E (dj (du P w) P w K mg base N qual sc f cd A outer s H E) where
 C:=⟨rfl,rfl,rfl,S.nd,M.hK,M.hm,M.gs,M.bs,hr,λg hg=>⟨(hF g hg).ex⟩,M.O2,M.cls,M.xc,λq hq=>⟨(hH q hq).ex⟩,hA,λz=>by
  obtain⟨c,p,e1,e2,e3,e4⟩:=hL z
  exact⟨c,p,e1,xR KB e2,e3,e4⟩,λz=>by
  obtain⟨c,p,e1,e2,e3,e4⟩:=hL z
  obtain⟨bm,o,b1,b2,b3,b4,b5⟩:=M.bm (λy=>by rw [y] at e3;cases e3)
  exact⟨bm,o,b1,b2,b3,KB _ _ b4,b5⟩,λ_ _=>rfl⟩
 fn:=λ_=>rfl
 own:=PassesOwn.leaving
 pass:=Pq
 kind:=S.kind
 Bz:=rfl
 frame:=rfl
 xs:=M.xs
 rm:=λc hc=>let⟨C,h,_⟩:=M.rm c hc;⟨C,h⟩
 rz:=λc z j np zp cp pos h1 h2 h3=>by
  obtain⟨C,hC,hx⟩:=M.rm c h1
  have hg:Gl (dj (du P w) P w K mg base N qual sc f cd A outer s H E) c:=zzy.mp h2
  refine L2.PS.imp (BP hg (OO KB hC hx) PySem.F.excBase_ValueError (ba BQ bP) rfl rfl (bR h3).1) λD σ H1 h=>⟨(show 1<=sizeLine by decide),λe he=>h C e hC he⟩
 QY:=M.QY
def r0{H G:Hp}{N:List Str}{as:List PV}{vs:List V}(sg:az G H)(tb:bL W G H)(l:ai W G as vs)(hn:as.length<=N.length):SR W H (as.map .val++List.replicate (N.length-as.length) .no) (start N vs) G H:=by
 have hl:=l.length
 unfold L2.start;refine⟨by simp;omega,sg,fM.refl _,λi s e=>?_,λi j p q a e1 _ _ _=>?_,tb,tb⟩
 ·by_cases hi:i<as.length
  ·rw [zzr (by simpa using hi),zzQ] at e;obtain⟨p,hp,rfl⟩:=zzJ.mp e
   obtain⟨v,hv,rv⟩:=l.mR hp
   exact⟨some v,by rw [zzr (by simpa using (show i<vs.length by omega)),zzQ,hv];rfl,v,rfl,rv⟩
  ·rw [zzs (by simpa using hi),List.getElem?_replicate] at e;split at e
   ·rename_i h2;cases e;rw [zzl] at h2;exact⟨none,by rw [zzs (by simp;omega),List.getElem?_replicate,if_pos (by rw [zzl];omega)],trivial⟩
   ·cases e
 ·exfalso
  by_cases hi:i<as.length
  ·rw [zzr (by simpa using hi),zzQ] at e1;obtain⟨p,hp,e⟩:=zzJ.mp e1
   cases e
  ·rw [zzs (by simpa using hi),List.getElem?_replicate] at e1;split at e1<;>cases e1
def SR.Ph{H0 G H:Hp}{env:Sl}{σ:St}{g:Str}{idx:List Nat}{cj:List PV}{v:V}(i:Nat)(r:SR W H0 env σ G H)(h:pJ W G g idx cj v):SR W H0 (env.set i (.fn g idx cj)) (σ.set i (some v)) G H where
 len:=by simpa using r.len
 sub:=r.sub
 base:=r.base
 tab:=r.tab
 ia:=r.ia
 slot:=λj s e=>by
  by_cases hj:i=j
  ·subst hj;have bB:i<env.length:=by
    have:=(zzH.mp e).1
    simpa using this
   rw [zzo bB] at e;cases e;exact⟨some v,zzo (by rw [<-r.len];exact bB),v,rfl,h⟩
  ·rw [zzS hj] at e;obtain⟨o,h1,h2⟩:=r.slot j s e
   exact⟨o,by rw [zzS hj];exact h1,h2⟩
 apart:=λa b q q' ad e1 e2 e3 e4=>by
  have ne:∀{c:Nat} {q:PV},(env.set i (.fn g idx cj))[c]?=some (.own q)->i≠c:=λ{c q} e z=>by
   subst z;have bB:i<env.length:=by
    have:=(zzH.mp e).1
    simpa using this
   rw [zzo bB] at e;cases e
  have n1:=ne e1
  have n2:=ne e2
  rw [zzS n1] at e1 e3;rw [zzS n2] at e2 e4;exact r.apart a b q q' ad e1 e2 e3 e4
def vI{α:Type}{l r:List α}{a b:α}:(l++a::r).set l.length b=l++b::r:=by
 rw [List.set_append_right _ _ (zzE _),Nat.sub_self];rfl
def wR{d:Def}{H G:Hp}{as:List PV}{vs:List V}(TV:d.np<=d.N.length)(sg:az G H)(tb:bL W G H)(l:zY W G d.qC as vs)(hv:vs.length=d.np):fL d as=true/\SR W H (d9 d as) (start d.N vs) G H:=by
 unfold fL d9;cases hc:d.qC with
 |none=>
  rw [hc] at l;have l:ai W G as vs:=l
  exact⟨by rw [<-l.length,hv];simp,r0 sg tb l (by rw [<-l.length,hv];exact TV)⟩
 |some q=>
  rw [hc] at l;obtain⟨sH,cj,qv,v,rfl,rfl,l1,cr⟩:=l
  have Pr:=l1.length
  have hn:qv.length=d.np-1/\0<d.np:=by rw [zzM] at hv;simp at hv;omega
  have ha:sH.length=d.np-1:=by omega
  refine⟨by simp;omega,?_⟩;have h0:=r0 (N:=d.N) sg tb l1 (by omega)
  have h1:=h0.Ph sH.length cr
  have e1:(sH.map Slot.val++List.replicate (d.N.length-sH.length) Slot.no).set sH.length (.fn q.1 q.2 cj)=((sH++cj).take (d.np-1)).map .val++.fn q.1 q.2 ((sH++cj).drop (d.np-1))::List.replicate (d.N.length-d.np) Slot.no:=by
   rw [<-ha,List.take_left',List.drop_left',show d.N.length-sH.length=(d.N.length-d.np)+1 by omega,List.replicate_succ]
   ·have:=vI (l:=sH.map Slot.val) (r:=List.replicate (d.N.length-d.np) Slot.no) (a:=Slot.no) (b:=.fn q.1 q.2 cj)
    rw [zzl] at this;exact this
   ·rfl
   ·rfl
  have e2:(start d.N qv).set sH.length (some v)=start d.N (qv++[v]):=by
   unfold L2.start;rw [zzM,List.length_singleton,show d.N.length-qv.length=(d.N.length-(qv.length+1))+1 by omega,List.replicate_succ,<-Pr];have:=vI (l:=qv.map some) (r:=List.replicate (d.N.length-(qv.length+1)) none) (a:=none) (b:=some v)
   rw [zzl] at this;rw [this];simp
  rw [e1,e2] at h1;exact h1
def FT(M:sL K mg Γ W)(KB:K.In base){F:bj}{k:Nat}{n nf:Str}{d:Def}{st:Stmt}{fa:Addr}{fd:FuncData}(St:br Γ n d st)(Fu:Sa K n n st fa fd)(hF:∀f,Γ.fs.contains f=true->pP P w K mg base W F k f)(hH:∀q∈Γ.hs,II P w K mg base W F k q)(hA:∀g as,F g as≠.bad->Γ.fs.contains g=true\/f7 g=true)
 (hL:Γ.hl=true->∃c p,fd.code=.ref c/\gk K c p/\(p,ng n)∈W.ts/\∀q',(p,q')∈W.ts->q'=ng n):
 gh P w K mg base (du P w) (k+2) fa fd (d.N.take d.np) (xZ W (λ_ as=>af F d as) nf (d.N.take d.np).length d.qC):=by
 have hlen:(d.N.take d.np).length=d.np:=by rw [List.length_take];have:=St.np;omega
 obtain⟨oc,od,kV,doc,pm,an,ft,ct,uz,rfl,lk,mS⟩:=Fu.ex
 refine Ra lk mS St.sc (λvs H Q E h=>h.1) λA outer s H vs Q E hr h=>?_
 obtain⟨hl,G,as,sg,tb,l,o⟩:=h
 rw [hlen] at hl;obtain⟨ar,sr⟩:=wR St.np sg tb l hl
 refine⟨UJ W F H E d.body,lM (IP M KB St.sc hF hH hA hL hr) d.body _ St.XB,G,d9 d as,sr,?_⟩;dsimp only at o;unfold af at o;rw [if_pos ar] at o;cases r:aS F d.body (d9 d as) with
 |bad=>rw [r] at o;exact o
 |exc c=>rw [r] at o;exact o
 |ok fl=>
  rw [r] at o;cases fl with
  |nx env=>exact λσ' G' H' sr g=>o .aK G' H' g .n
  |rt p=>exact λv G' H' rv g=>o v G' H' g rv
  |bk env=>exact o.elim
  |ct env=>exact o.elim
def AllK(K:zz8)(ts:List (Addr×Str))(Γ:Pg):cO->Prop
 |[]=>True
 |r::l=>wM K ts r.hl r.h r.st/\br (Γ.at l r.hl) r.h r.d r.st/\((l.map (·.f)).contains r.f=false/\(r.d.qC.isNone==!f7 r.f)=true/\(r.d.qC.isNone=true->r.f=r.h))/\AllK K ts Γ l
def vC(M:sL K mg Γ W)(l:cO)(hl:Bool):sL K mg (Γ.at l hl) W:=⟨M.hK,M.hm,M.gs,M.bs,M.O2,M.cls,M.xc,M.xs,M.rm,M.QY,M.bm⟩
def pP.mono{F:bj}{j k:Nat}{f:Str}(h:pP P w K mg base W F j f)(hk:j<=k):pP P w K mg base W F k f:=by
 obtain⟨fa,fd,ps,h1,h2⟩:=h.ex
 exact⟨fa,fd,ps,h1.mono hk,h2⟩
def l0{F F':bj}{f f':Str}{n:Nat}{q:Option (Str×List Nat)}(e:∀as,F' f' as=F f as):xZ W F' f' n q=xZ W F f n q:=by
 funext vs H Q E
 unfold xZ;simp! [e]
def pP.swap{F F':bj}{k:Nat}{f:Str}(h:pP P w K mg base W F k f)(e:∀as,F' f as=F f as):pP P w K mg base W F' k f:=by
 obtain⟨fa,fd,ps,h1,h2,h3,h4,h5⟩:=h.ex
 refine⟨fa,fd,ps,?_,h2,h3,h4,λas hn=>h5 as (by rw [<-e];exact hn)⟩
 rw [l0 e];exact h1
def II.swap{F F':bj}{j k:Nat}{q:Hs}(h:II P w K mg base W F j q)(hk:j<=k)(e:∀as,F' q.f as=F q.f as):II P w K mg base W F' k q:=by
 obtain⟨fa,fd,ps,h1,h2,h3,h4,h5⟩:=h.ex
 refine⟨fa,fd,ps,?_,h2,h3,h4,h5⟩;rw [l0 e];exact h1.mono hk
def lp{r:Row}{l:cO}{g:Str}(h:(g==r.f)=false)(as:List PV):den (tab (r::l)) g as=den (tab l) g as:=by
 show(if(g==r.f)=true then _ else _)=_
 rw [h]
 rfl
def sE{r:Row}{l:cO}(as:List PV):den (tab (r::l)) r.f as=af (den (tab l)) r.d as:=by
 show(if(r.f==r.f)=true then _ else _)=_
 rw [beq_self_eq_true]
 rfl
theorem pW:∀(l:cO) {ts:List (Addr×Str)},AllK K ts Γ l->∀g as,den (tab l) g as≠.bad->(nr l).contains g=true\/f7 g=true
 |[],_,_,g,as,h=>absurd rfl h
 |r::l,ts,⟨_,_,⟨_,hn,_⟩,hr⟩,g,as,h=>by
  by_cases e:(g==r.f)=true
  ·have e2:=zzy.mp e
   subst e2;cases hc:r.d.qC with
   |none=>
    left
    unfold nr;rw [List.filterMap_cons,hc];simp
   |some q=>
    right
    rw [hc] at hn
    simpa using hn
  ·rw [lp (by simpa using e)] at h;rcases pW l hr g as h with z|z
   ·left
    unfold nr at z⊢;rw [List.filterMap_cons];split
    ·exact z
    ·rw [List.contains_cons,z,Bool.or_true]
   ·exact .inr z
theorem zC(M:sL K mg Γ W)(KB:K.In base)(G:base.Ns mainGlobals mg):∀(l:cO),AllK K W.ts Γ l->(∀f,(nr l).contains f=true->pP P w K mg base W (den (tab l)) (2*l.length) f)/\∀q∈vU l,II P w K mg base W (den (tab l)) (2*l.length) q
 |[],_=>⟨λf hf=>by simp [nr] at hf,λq hq=>by simp [vU] at hq⟩
 |r::l,hall=>by
  obtain⟨he,hs,⟨hfr,hnm,hfh⟩,hr⟩:=hall
  obtain⟨ih,ihH⟩:=zC M KB G l hr
  obtain⟨fa,oc,od,kV,doc,pm,an,ft,ct,uz,e1,e2,e3,e4,e5⟩:=he
  have Fu:=zt (st:=r.st) e2 e3 e4
  have ok:=FT (P:=P) (w:=w) (nf:=r.f) (vC M l r.hl) KB (k:=2*l.length) hs Fu (λg hg=>ih g hg) (λq hq=>ihH q hq) (pW l hr) e5
  have m9:∀g,(l.map (·.f)).contains g=true->(g==r.f)=false:=λg hg=>by
   cases z:g==r.f with
   |false=>rfl
   |true=>rw [zzy.mp z,hfr] at hg;cases hg
  have sp:xZ W (λ_ as=>af (den (tab l)) r.d as) r.f (r.d.N.take r.d.np).length r.d.qC=xZ W (den (tab (r::l))) r.f (r.d.N.take r.d.np).length r.d.qC:=l0 λas=>(sE as).symm
  rw [sp] at ok;have hlen:(r.d.N.take r.d.np).length=r.d.np:=by rw [List.length_take];have:=hs.np;omega
  have ml:∀f,(nr l).contains f=true->(l.map (·.f)).contains f=true:=λf hf=>by
   rw [zzn] at hf⊢;unfold nr at hf;obtain⟨x,hx,e⟩:=zz1.mp hf
   split at e
   ·cases e;exact List.mem_map_of_mem (f:=(·.f)) hx
   ·cases e
  refine⟨λf hf=>?_,λq hq=>?_⟩
  ·by_cases j5:(f==r.f)=true/\r.d.qC=none
   ·obtain⟨h1,h2⟩:=j5
    have e:=zzy.mp h1
    subst e;refine⟨fa,_,r.d.N.take r.d.np,by rw [h2] at ok;exact ok,?_,e4,Fu.binds hs.bind,λas hn=>?_⟩
    ·rw [hfh (by rw [h2];rfl)];exact PySem.W.mg_of KB G e1
    ·rw [sE] at hn;unfold af at hn
     by_cases ha:fL r.d as=true
     ·unfold fL at ha;rw [h2] at ha;rw [hlen];exact zzy.mp ha
     ·rw [if_neg ha] at hn;exact absurd rfl hn
   ·have VP:(nr l).contains f=true:=by
     unfold nr at hf⊢;rw [List.filterMap_cons] at hf;split at hf
     ·exact hf
     ·rename_i y hy;split at hy
      ·rename_i hc;cases hy;rw [List.contains_cons,zzt] at hf;rcases hf with z|z
       ·exact absurd ⟨z,Option.isNone_iff_eq_none.mp hc⟩ j5
       ·exact z
      ·cases hy
    exact((ih f VP).mono (by rw [zzL];omega)).swap λas=>lp (m9 f (ml f VP)) as
  ·unfold vU at hq;rw [List.filterMap_cons] at hq;have tail:q∈vU l->II P w K mg base W (den (tab (r::l))) (2*(r::l).length) q:=λhq=>by
    refine(ihH q hq).swap (by rw [zzL];omega) λas=>lp (m9 q.f ?_) as
    unfold vU at hq;obtain⟨x,hx,e⟩:=zz1.mp hq
    obtain⟨y,_,rfl⟩:=zzJ.mp e
    rw [zzn];exact List.mem_map_of_mem (f:=(·.f)) hx
   cases hc:r.d.qC with
   |none=>rw [hc] at hq;exact tail hq
   |some y=>
    rw [hc] at hq;rcases zzm.mp hq with z|z
    ·subst z;rw [hc] at ok;exact⟨fa,_,r.d.N.take r.d.np,ok,PySem.W.mg_of KB G e1,e4,Fu.binds hs.bind,hlen⟩
    ·exact tail z
end
end Ci
namespace L2
open PySem PySem.Spec PyProof.Rows
def vW{P:Program}{w:World}{K:zz8}{mg mb:Str->Option Value}{CX:x5}{k:Nat}{fa a:Addr}{fd:FuncData}{x:Str}{sp:Sp}{s₁:Shared}{vs:List Value}{ns:List Int}(lE:List Addr)
 (KX:K.In s₁.heap) (RJ:s₁.heap.Ns mainGlobals mg) (hb:s₁.heap.Ns builtinsNs mb) (XZ:∀x:Str,x≠"__name__"->mb x=bootBuiltins x) (tY:s₁.heap.NoLimit) (hg:s₁.gens=#[])
 (hT:∀p∈lE,s₁.heap.get? p=some (PySem.W.tabObj #[])) (hC:∀p∈lE,∃c,Ci.gk K c p) (Yh:∀p∈lE,K.lookup p=none)
 (ha:s₁.heap.get? a=some {cls:=.type "list",data:=.seq vs.toArray}) (hi:IntsAre vs ns) (hl:ns.length<=sizeLine) (hr:dh k callerA)
 (F:∀base:Heap,K.In base->base.Ns mainGlobals mg->gh P w K mg base CX k fa fd [x] sp) (Pf:∀(s:Shared) (u:Value),BindsTo s fd ⟨[u],[]⟩ [(x,u)])
 (OX:∀H:Hp,(∀p∈lE,H p=some (.fC #[]))->Ci.nB K H a (ns.map V.int)->sp [.ref a] H (λv _=>v=.bl true) λ_ _ _=>False)
 (Sw:∀H e s',CX [] H s₁ (λ_ _ _=>False) e s'->False):
 codeAny (model P w) callerA (.call (.ref fa) ⟨[.ref a],[]⟩) (λr s'=>r=.ok (.ret (.bool true))/\OldK s₁.heap s'.heap/\s'.os=s₁.os/\AllBare s'.gens) s₁:=by
 have rv:=nZ hi
 have Rq:=hi.length
 have aT:a∉lE:=λz=>by have:=hT a z;rw [ha] at this;cases this
 have core:∀H:Hp,(∀p∈lE,H p=some (.fC #[]))->Ci.nB K H a (ns.map V.int)->dE P w H s₁.heap->(∀b,H b≠none->b∈lE\/b=a/\∃o xs,H b=some (.bt o xs))->(H a≠none->K.lookup a=none)->
  codeAny (model P w) callerA (.call (.ref fa) ⟨[.ref a],[]⟩) (λr s'=>r=.ok (.ret (.bool true))/\OldK s₁.heap s'.heap/\s'.os=s₁.os/\AllBare s'.gens) s₁:=by
  intro H hO hS aH hA hK;have vA:∀{b:Addr} {o:Obj},s₁.heap.get? b=some o->H b=none->(pq s₁.heap H).get? b=some o:=λe n=>yy e n
  have Ef:∀{b:Addr} {o:Obj} {es:Array DictEntry} {ep:Nat},s₁.heap.get? b=some o->o.data=.dict es ep->H b=none:=λ{b o es ep} e d=>by
   cases q:H b with
   |none=>rfl
   |some u=>
    rcases hA b (by rw [q];simp) with z|⟨z,_⟩
    ·rw [hT b z] at e;cases e;cases d
    ·subst z;rw [ha] at e;cases e;have d':Data.seq vs.toArray _=Data.dict es ep:=d
     cases d'
  have RC:∀{b:Addr} {m:Str->Option Value},s₁.heap.Ns b m->(pq s₁.heap H).Ns b m:=λ{b m} ⟨o,es,ep,e,d,r⟩=>⟨o,es,ep,vA e (Ef e d),d,r⟩
  have VZ:K.In (pq s₁.heap H):=λb o e=>vA (KX b o e) (by
   cases q:H b with
   |none=>rfl
   |some u=>
    rcases hA b (by rw [q];simp) with z|⟨z,_⟩
    ·rw [Yh b z] at e;cases e
    ·subst z;rw [hK (by rw [q];simp)] at e;cases e)
  have hM:Mod K mg (pq s₁.heap H):=⟨VZ,RC RJ,⟨mb,RC hb,XZ⟩,let⟨mc,h1,h2⟩:=tY;⟨mc,RC h1,h2⟩⟩
  have e0:iP P w K mg (pq s₁.heap H) callerA [] s₁ H:=⟨rfl,hM,λb o e=>B8 e,Nat.le_of_eq (xt _ _),trivial,λb hb=>absurd (show b∈([]:List Addr) from hb) (by simp),aH,.of_eq hg⟩
  refine codeAny_mono ((F _ VZ (RC RJ)).run callerA [] s₁ H ⟨[.ref a],[]⟩ [.ref a] [.ref a] _ _ hr e0 (Pf s₁ (.ref a)) (.cons rfl .nil) (OX H hO hS)) λr s' h=>?_
  cases r with
  |error e=>exact(Sw H e s' h).elim
  |ok fl=>
   cases fl with
   |next=>exact zzk h
   |brk=>exact zzk h
   |cont=>exact zzk h
   |ret u=>
    obtain⟨v,H',os,bare,un,Ex,r',q⟩:=h
    have q':v=.bl true:=q
    subst q';obtain rfl:u=Value.bool true:=r'
    have key:∀b o,s₁.heap.get? b=some o->s'.heap.get? b=some o\/b∈lE/\∃m,s'.heap.get? b=some (PySem.W.tabObj m):=λb o e=>by
     cases q:H b with
     |none=>exact .inl (un.keep b o e q (by intro z;exact absurd (show b∈([]:List Addr) from z) (by simp)) (by simp))
     |some u=>
      rcases hA b (by rw [q];simp) with z|⟨z,ob,xs,z2⟩
      ·right
       obtain⟨m,hm⟩:=un.fe b _ (hO b z)
       exact⟨z,_,Ex b _ hm⟩
      ·left
       have z3:=un.ei b ob _ z2
       obtain⟨e1,_⟩:=aH b _ z2
       obtain⟨e2,_⟩:=Ex b _ z3
       rw [e] at e1;cases e1;exact e2
    refine⟨rfl,⟨λb o e=>?_,λb o e=>?_⟩,os,bare⟩
    ·rcases key b o e with z|⟨z,m,z2⟩
     ·exact .inl z
     ·have e':=hT b z
      rw [e] at e';cases e';obtain⟨c,o',vs',_,_,_,_,_,_,_,k1,k2,k3,k4,_⟩:=hC b z
      have tb:s₁.heap.TableAt c b #[]:=⟨⟨o',vs',KX _ _ k1,k2,k3,k4⟩,e⟩
      exact .inr (.inl ⟨tb.isCodeTable,rfl,#[],m,rfl,by rw [z2];simp⟩)
    ·rcases key b o e with z|⟨_,m,z⟩
     ·exact⟨_,z⟩
     ·exact⟨_,z⟩
 cases hk:K.lookup a with
 |some o=>
  have e:=KX a o hk
  rw [ha] at e;cases e;refine core (λb=>if b∈lE then some (.fC #[]) else none) (λp hp=>if_pos hp) (.inr ⟨vs.toArray,_,hk,by rw [zzC,Rq];exact hl,by simpa using rv⟩) (λb u z=>?_) (λb z=>?_) λz=>absurd (if_neg aT) z
  ·by_cases hb:b∈lE
   ·have z':=(if_pos hb).symm.trans z
    cases z';exact hT b hb
   ·have z':=(if_neg hb).symm.trans z
    cases z'
  ·by_cases hb:b∈lE
   ·exact .inl hb
   ·exact absurd (if_neg hb) z
 |none=>
  refine core (λb=>if b=a then some (.bt {cls:=.type "list",data:=.seq vs.toArray} (.lst (ns.map V.int))) else if b∈lE then some (.fC #[]) else none) (λp hp=>?_) (.inl (.inr ⟨{cls:=.type "list",data:=.seq vs.toArray},if_pos rfl⟩)) (λb u z=>?_) (λb z=>?_) λ_=>hk
  ·show(if p=a then _ else _)=_
   rw [if_neg (show¬p=a from λz=>aT (by rw [<-z];exact hp)),if_pos hp]
  ·by_cases hb:b=a
   ·have z':=(if_pos hb).symm.trans z
    cases z';subst hb;exact⟨ha,by rw [zzl];exact hl,vs,_,rv,ha⟩
   ·replace z:=(if_neg hb).symm.trans z
    by_cases hc:b∈lE
    ·have z':=(if_pos hc).symm.trans z
     cases z';exact hT b hc
    ·have z':=(if_neg hc).symm.trans z
     cases z'
  ·by_cases hb:b=a
   ·exact .inr ⟨hb,_,_,if_pos hb⟩
   ·by_cases hc:b∈lE
    ·exact .inl hc
    ·exact absurd ((if_neg hb).trans (if_neg hc)) z
def Ki{l:PySem.W.OpenLaw}{n k:Nat}{q:Program}{loose:List Str}{XP:(Str->Option Value)->Heap->Prop}{YP:World->Heap->Prop}{d:DefRec}{K:Params->zz8}{CX:World->x5}{sp:World->Sp}{x:Str}(lE:List Addr)
 (hn:l.most=some n) (Mb:n<=sizeLine) (Q4:d.params.defaults=[]) (hr:dh k callerA)
 (hY:∀(w:World) (h:Heap),YP w h->(K w.params).In h/\∀p∈lE,h.get? p=some (PySem.W.tabObj #[])) (hC:∀(w:World),∀p∈lE,(∃c,Ci.gk (K w.params) c p)/\(K w.params).lookup p=none)
 (F:∀(w:World) (mg:Str->Option Value) (fa:Addr) (h:Heap),(K w.params).In h->h.Ns mainGlobals mg->mg d.name=some (.ref fa)->
  ∃fd:FuncData,(∀(s:Shared) (u:Value),BindsTo s fd ⟨[u],[]⟩ [(x,u)])/\
   ∀base:Heap,(K w.params).In base->base.Ns mainGlobals mg->gh l.prog w (K w.params) mg base (CX w) k fa fd [x] (sp w))
 (OX:∀(w:World) (H:Hp) (a:Addr) (ns:List Int),ns.length<=n->(∀p∈lE,H p=some (.fC #[]))->Ci.nB (K w.params) H a (ns.map V.int)->sp w [.ref a] H (λv _=>v=.bl true) λ_ _ _=>False)
 (Sw:∀(w:World) (H:Hp) (s:Shared) (e:Value) (s':Shared),CX w [] H s (λ_ _ _=>False) e s'->False):
 PySem.W.WalkO q loose XP YP l.row.toRowW d [] (λf vs=>PySem.call f vs):=by
 refine Att.qX hn Q4 λw s₀ s₁ mg mb fa o pm cd doc a vs ns G Y ho hd mS hmg hobj hints hlen hg=>?_
 obtain⟨KX,hT⟩:=hY w _ Y
 obtain⟨fd,hb,hF⟩:=F w mg fa _ KX G.T.g hmg
 exact vW lE KX G.T.g G.T.b G.T.builtins G.T.nolimit hg hT (λp hp=>(hC w p hp).1) (λp hp=>(hC w p hp).2) hobj hints (zzU hlen Mb) hr hF hb (λH hO hS=>OX w H a ns hlen hO hS) λH e s'=>Sw w H s₁ e s'
end L2
namespace Ci
open PySem L2
theorem mD{W:Wd}{G:Hp}:∀(ns:List Int),ai W G (ns.map PV.int) (ns.map V.int)
 |[]=>.nil
 |n::ns=>.cons .i (mD ns)
def oJ(H:Hp):Hp:=λb=>match H b with
 |some (.fC _)=>none
 |o=>o
def sU(H:Hp):az (oJ H) H:=λb o e=>by
 unfold oJ at e;split at e
 ·cases e
 ·exact e
def sC{H:Hp}{b:Addr}{o:HO}(h:H b=some o)(n:∀ps,o≠.fC ps):oJ H b=some o:=by
 unfold oJ;rw [h];cases o with
 |fC ps=>exact absurd rfl (n ps)
 |_=>rfl
noncomputable def P5(K:zz8)(lE:List Addr):Sp:=λvs H Q _=>∃(a:Addr) (ns:List Int),vs=[.ref a]/\(∀p∈lE,H p=some (.fC #[]))/\nB K H a (ns.map V.int)/\ns.length<=63/\∀H',Q (.bl true) H'
def walk{l:PySem.W.OpenLaw}{q:Program}{loose:List Str}{XP:(Str->Option Value)->Heap->Prop}{YP:World->Heap->Prop}{d:DefRec}{K:Params->zz8}(rest:cO)(Γ:Pg)(x:Str)(dl:Def)(xs:List Str)(ts:List (Addr×Str))(st:Stmt)
 (hx:dl.N.take dl.np=[x]) (B3:dl.qC=none) (Yl:d.name="law") (hn:l.most=some 63) (Q4:d.params.defaults=[]) (hr:dh (2*rest.length+2) callerA) (hY:∀(w:World) (h:Heap),YP w h->(K w.params).In h/\∀p∈ts.map (·.1),h.get? p=some (PySem.W.tabObj #[]))
 (hC:∀(w:World),∀p∈ts.map (·.1),(∃c,gk (K w.params) c p)/\(K w.params).lookup p=none)
 (hM:∀(w:World) (mg:Str->Option Value) (h:Heap),(K w.params).In h->h.Ns mainGlobals mg->sL (K w.params) mg Γ ⟨K w.params,mg,xs,ts⟩)
 (hE:∀w:World,wM (K w.params) ts false "law" st) (hS:br (Γ.at rest false) "law" dl st)
 (hA:∀w:World,AllK (K w.params) ts Γ rest)
 (UE:∀ns:List Int,ns.length<=63->af (den (tab rest)) dl [.lst (ns.map .int)]=.ok (.bl true)):
 PySem.W.WalkO q loose XP YP l.row.toRowW d [] (λf vs=>PySem.call f vs):=by
 refine L2.Ki (n:=63) (k:=2*rest.length+2) (x:=x) (CX:=λw=>du l.prog w) (sp:=λw=>P5 (K w.params) (ts.map (·.1))) (ts.map (·.1)) hn (by decide) Q4 hr hY hC ?_ ?_ ?_
 ·intro w mg fa h KX G hmg;rw [Yl] at hmg;obtain⟨f,oc,od,kV,doc,pm,an,ft,ct,uz,e1,e2,e3,e4,e5⟩:=hE w
  have hf:fa=f:=by
   have z:=hmg.symm.trans (PySem.W.mg_of KX G e1)
   cases z
   rfl
  subst hf;refine⟨PySem.W.fnOf "law" "law" (cE st) (bW st) (aX st) .none kV doc pm an ft ct,λs u=>?_,λbase KB GB=>?_⟩
  ·have hb:=hS.bind kV doc pm an ft ct [u]
   rw [hx] at hb;exact .of_eq (hb rfl)
  ·have M:=hM w mg base KB GB
   obtain⟨a1,a2⟩:=zC (P:=l.prog) (w:=w) M KB GB rest (hA w)
   have ok:=FT (P:=l.prog) (w:=w) (nf:="law") (vC M rest false) KB (k:=2*rest.length) hS (zt (st:=st) e2 e3 e4) (λg hg=>a1 g hg) (λq hq=>a2 q hq) (pW rest (hA w)) (λz=>nomatch z)
   rw [hx] at ok;refine ok.imp λvs H Q E h=>?_
   obtain⟨a,ns,rfl,ht,hl,hlen,q⟩:=h
   refine⟨rfl,oJ H,[.lst (ns.map .int)],sU H,λP q m=>?_,?_,?_⟩
   ·have hP:=ht P (List.mem_map_of_mem (f:=(·.1)) m)
    refine⟨by unfold oJ;rw [hP],#[],hP,trivial,λpos cv e=>nomatch e⟩
   ·rw [B3];refine ai.cons (.l ?_ (mD ns)) .nil;rcases hl with(h|⟨o,h⟩)|h
    ·exact .inl (.inl (sC h (λ_ z=>nomatch z)))
    ·exact .inl (.inr ⟨o,sC h (λ_ z=>nomatch z)⟩)
    ·exact .inr h
   ·dsimp only;rw [UE ns hlen];intro v G' H' _ rv;simp! [Rep] at rv;subst rv;exact q H'
 ·intro w H a ns hlen hO qt;exact⟨a,ns,rfl,hO,qt,hlen,λ_=>rfl⟩
 ·intro w H s e s' h;obtain⟨a,C,t,vs,H',B,rfl,F⟩:=h
  exact F.ends
end Ci
namespace Hd
open PySem PySem.W PySem.Calls
noncomputable def Lk(st:SharedT->Thread->Option (SharedT×Thread))(ok:Thread->Bool)(n:Nat):SharedT->Thread->Option SharedT:=
 @Nat.rec (λ_=>SharedT->Thread->Option SharedT) (λ_ _=>none) (λ_ ih s t=>match through t with
  |true=>some s
  |false=>match ok t with
   |false=>none
   |true=>match st s t with
    |some (s',t')=>ih s' t'
    |none=>none) n
theorem oB{tb:String->Option Builtin}{p:Program}{w:World}{n₀:Nat}{ann:Option Value}:∀{n:Nat} {s s':SharedT} {t:Thread},Lk (stepT (denote tb) p w) (stepOk n₀ ann) n s t=some s'->topRun tb p w n₀ ann n s.abs t=some s'.abs
 |0,_,_,_,h=>by cases h
 |n+1,s,s',t,h=>by
  have h:(match through t with
   |true=>some s
   |false=>match stepOk n₀ ann t with
    |false=>none
    |true=>match stepT (denote tb) p w s t with
     |some (s',t')=>Lk (stepT (denote tb) p w) (stepOk n₀ ann) n s' t'
     |none=>none)=some s':=h
  unfold topRun;cases ht:through t with
  |true=>rw [ht] at h;cases h;rfl
  |false=>
   rw [ht] at h;cases hk:stepOk n₀ ann t with
   |false=>rw [hk] at h;cases h
   |true=>
    rw [hk] at h;cases hs:stepT (denote tb) p w s t with
    |none=>rw [hs] at h;cases h
    |some r=>obtain⟨s₂,t₂⟩:=r;rw [hs] at h;rw [stepT_spec hs];exact oB h
def treeOf(l:List Obj):BT:=(l.foldl (λ(T,i) o=>(BT.ins T i o,i+1)) (BT.nil,0)).1
def Ej{p q:Program}{loose:List Str}{Xt:Shared->Bool}{α:Type}{Yf:Shared->α}{Ya:World->α}{N:Nat}{g0:Bool}{T₀:Params->BT}{life:Life}{m₀:Nat}{ann:Option Value}{M:Nat}
 (e:opening p=plainProg p.main.scope.names) (hN:Nat.ble 600 N=true) (f:∀s,fenceModules? p s=some s)
 (e0:∀P:Params,absHeap (T₀ P) m₀ life=boot_heap P)
 (size:∀w:World,((boot_heap w.params).isNs mainGlobals,(boot_heap w.params).nsMap mainGlobals "__annotations__")=(true,ann))
 (le:Nat.ble M N=true)
 (run:∀(w:World) (os:OsState),(Lk (stepT (denote treeTable) p w) (stepOk m₀ ann) M ⟨T₀ w.params,m₀,life,Array.mk [],boot_drawn,boot_toks,os⟩ (topStub p)).map (λs=>
  ((staticsOk (importedModules p.main.body) (boot_heap w.params) s.abs.heap&&namesBound p s.abs.heap&&gensDone s.abs&&laidKept (boot_heap w.params) s.abs.heap),openSeen q loose (importedModules p.main.body) Xt g0 s.abs,Yf s.abs))
  =some (true,openGood q loose,Ya w)):LeftO p q loose Xt Yf Ya N g0:=λw=>by
 obtain⟨⟨h,gs,d,k,os⟩,e1,e'⟩:=zzJ.mp (boot_open e hN f w)
 obtain⟨rfl,rfl,rfl,rfl⟩:h=boot_heap w.params/\gs=Array.mk []/\d=boot_drawn/\k=boot_toks:=by simpa using e'
 obtain⟨z1,z3⟩:_/\_:=by simpa only [Prod.mk.injEq] using size w
 obtain⟨s,r,l⟩:=zzJ.mp (run w os)
 obtain⟨l1,l2,l3⟩:_/\_/\_:=by simpa only [Prod.mk.injEq] using l
 have r:=oB r
 have r:=topRun_mono (N-M) _ _ _ _ r
 rw [show M+(N-M)=N by have:=Nat.le_of_ble_eq_true le;omega] at r;have hs:(boot_heap w.params).objs.size=m₀:=by rw [<-e0 w.params];exact absHeap_size _ _ _
 have r:topRun treeTable p w m₀ ann N ⟨boot_heap w.params,Array.mk [],boot_drawn,boot_toks,os⟩ (topStub p)=some s.abs:=by
  have:(⟨T₀ w.params,m₀,life,Array.mk [],boot_drawn,boot_toks,os⟩:SharedT).abs=⟨boot_heap w.params,Array.mk [],boot_drawn,boot_toks,os⟩:=by
   show Shared.mk _ _ _ _ _=_
   rw [show absHeap (T₀ w.params) m₀ life=boot_heap w.params from e0 w.params]
  rw [<-this];exact r
 have t:topFrom treeTable p w N ⟨boot_heap w.params,Array.mk [],boot_drawn,boot_toks,os⟩=some s.abs:=by
  unfold topFrom;dsimp only;rw [z1,z3,hs,r];show(match staticsOk (importedModules p.main.body) (boot_heap w.params) s.abs.heap&&namesBound p s.abs.heap&&gensDone s.abs&&laidKept (boot_heap w.params) s.abs.heap with|true=>_|false=>_)=_
  rw [l1]
 unfold openEnds;rw [e1];show(topFrom treeTable p w N _).map _=_
 rw [t];exact congrArg some (Prod.ext l2 l3)
end Hd
namespace Hd
open PySem PySem.W
def Qk:∀P:Params,absHeap (treeOf (boot_heap P).objs.toList) 11 {}=boot_heap P:=λP=>by kernel_rfl
def PQ:∀w:World,((boot_heap w.params).isNs mainGlobals,(boot_heap w.params).nsMap mainGlobals "__annotations__")=(true,some (.ref 6)):=λw=>by kernel_rfl
abbrev de(P:Params)(x:Str)(t:Tok)(v:Value):DictEntry:={hash:=PyData.keyHash P x,key:=.str x t,val:=v}
theorem holds{l:OpenLaw}{keep:List Nat}{K:Params->Frag}{as:List Addr}{d:DefRec}{N:Nat}(SU:l.wellSaid=true)
 (ka:∀P,as=(K P).map (·.1))
 (left:LeftO l.row.prog (view l.row.prog keep) [] (λs=>xlAt (view l.row.prog keep) [] s&&recOk l.row.toRowW.records s) (kHook K as ka).obs (kHook K as ka).val N)
 (OC:defOf (view l.row.prog keep) l.row.name=some (d,[])) (hp:l.row.prog.theDef l.row.name=some (d.params,d.body,d.scope)) (hk:kwWritten? d.params.kwonlyargs d.params.kw_defaults=some [])
 (ok:(chainsOk (view l.row.prog keep)&&opensWell l.row.prog&&(frees l.row.toRowW&&l.row.within.isEmpty))=true) (hb:l.row.prog.bare) (hw:l.row.toRowW.promised)
 (call:WalkO (view l.row.prog keep) [] (XL (view l.row.prog keep) []) (kHook K as ka).says l.row.toRowW d [] λf vs=>PySem.call f vs):l.Holds:=
 holds_law SU λk1=>holds_open (N:=N) left (Hook.of (kHook K as ka)) (Hook.keeps (kHook K as ka)) (λs e=>xl_of s (Bool.and_eq_true_iff.mp e).1) XL.keeps OC hp hk (λs e=>recFacts_of (Bool.and_eq_true_iff.mp e).2) (by cases h:l.row.writes<;>rfl) k1 ok hb hw call
theorem tj{P:List Value->Prop}(h:∀a0,P [a0]):∀us:List Value,us.length=1->P us
 |[a0],_=>h a0
theorem tV{P:List Value->Prop}(h:∀a0 a1,P [a0,a1]):∀us:List Value,us.length=2->P us
 |[a0,a1],_=>h a0 a1
theorem F4{P:List Value->Prop}(h:∀a0 a1 a2,P [a0,a1,a2]):∀us:List Value,us.length=3->P us
 |[a0,a1,a2],_=>h a0 a1 a2
theorem RR{P:List Value->Prop}(h:∀a0 a1 a2 a3,P [a0,a1,a2,a3]):∀us:List Value,us.length=4->P us
 |[a0,a1,a2,a3],_=>h a0 a1 a2 a3
theorem UQ{P:List Value->Prop}(h:∀a0 a1 a2 a3 a4,P [a0,a1,a2,a3,a4]):∀us:List Value,us.length=5->P us
 |[a0,a1,a2,a3,a4],_=>h a0 a1 a2 a3 a4
end Hd
namespace KJ
open PySem L2 Ci
theorem RZ{α β:Type}{a:α}{f:α->Res β}:(Res.ok a).bind f=f a:=rfl
theorem Xc{α:Type}{a:α}:(Res.ok a).well=.ok a:=rfl
theorem VV{α:Type}{a:α}:Res.of (some a)=.ok a:=rfl
theorem Ry{env:Sl}{k:Sl->Res Fl}:(Fl.nx env).seq k=k env:=rfl
theorem Wm{p:PV}{k:Sl->Res Fl}:(Fl.rt p).seq k=.ok (.rt p):=rfl
theorem Xb{env:Sl}{k:Sl->Res Fl}:(Fl.bk env).seq k=.ok (.bk env):=rfl
theorem sv{p:PV}:qG (some (.val p))=.ok p:=rfl
theorem W8{p:PV}:AF (some (.val p))=.ok p:=rfl
theorem VI{p:PV}:AF (some (.own p))=.ok p:=rfl
theorem Ua{α:Type}{b:Bool}{f:Bool->Res α}:wy (.bl b) f=f b:=rfl
theorem FV{i j:Int}:binOp .add (.int i) (.int j)=.ok (.int (i+j)):=rfl
theorem FC{i j:Str}:binOp .add (.str i) (.str j)=if i.length+j.length<=mU then .ok (.str (i++j)) else .bad:=rfl
theorem Fo{i j:List PV}:binOp .add (.lst i) (.lst j)=if i.length+j.length<=mU then .ok (.lst (i++j)) else .bad:=rfl
theorem PN{i j:Int}:binOp .sub (.int i) (.int j)=.ok (.int (i-j)):=rfl
theorem Rf{i j:Int}:binOp .mul (.int i) (.int j)=if bK i||bK j then .ok (.int (i*j)) else .bad:=rfl
theorem QU{i j:Int}:binOp .mod (.int i) (.int j)=if 0<j then .ok (.int (i%j)) else .bad:=rfl
theorem Q7{i j:Int}:binOp .fdiv (.int i) (.int j)=if 0<j/\j<1073741824 then .ok (.int (i/j)) else .bad:=rfl
theorem W9:cQ .eq=aZ:=rfl
theorem WM:cQ .ne=mZ:=rfl
theorem WW:cQ .lt=uu:=rfl
theorem Xh:cQ .le=uE:=rfl
theorem Xe:cQ .ge=uh:=rfl
theorem Vi:cQ .Gy=wW:=rfl
theorem P9:cQ .GL=n8:=rfl
theorem oLt{i j:Int}:uu (.int i) (.int j)=.ok (.bl (decide (i<j))):=rfl
theorem oLe{i j:Int}:uE (.int i) (.int j)=.ok (.bl (decide (i<=j))):=rfl
theorem WC{i j:Int}:uh (.int i) (.int j)=.ok (.bl (decide (j<=i))):=rfl
theorem lL{xs:List PV}:fw .len [.lst xs]=.ok (.int xs.length):=rfl
theorem lT{xs:List PV}:fw .len [.tup xs]=.ok (.int xs.length):=rfl
theorem lS{z:Str}:fw .len [.str z]=if z.length<=mU then .ok (.int z.length) else .bad:=rfl
theorem tL{xs:List PV}:fw .tuple [.lst xs]=.ok (.tup xs):=rfl
theorem aL{xs:List PV}:fw .all [.lst xs]=(Res.of (boolsOf xs)).bind λbs=>.ok (.bl (bs.all id)):=rfl
theorem VF{i:Nat}{p:PV}{env:Sl}:(Tg.one i).put p env=.ok (env.set i (.val p)):=rfl
theorem V2{i j:Nat}{a b:PV}{env:Sl}:(Tg.two i j).put (.tup [a,b]) env=.ok ((env.set i (.val a)).set j (.val b)):=rfl
theorem Wo{p:PV}:pU (.own p)=.val p:=rfl
theorem jA{α:Type}{a:α}{as:List α}:(a::as).length=as.length+1:=rfl
theorem jB{α:Type}:([]:List α).length=0:=rfl
theorem jC{α β:Type}{f:α->β}{a:α}{l:List α}:(a::l).map f=f a::l.map f:=rfl
theorem jD{α β:Type}{f:α->β}:([]:List α).map f=[]:=rfl
theorem jE{α:Type}{a:α}{as bs:List α}:a::as++bs=a::(as++bs):=rfl
theorem jF{α:Type}{as:List α}:[]++as=as:=rfl
theorem jG{α:Type}{a:α}{l:List α}:(a::l)[0]?=some a:=rfl
theorem jH{α:Type}{a:α}{l:List α}{i:Nat}:(a::l)[i+1]?=l[i]?:=rfl
theorem jI{α:Type}{a b:α}{l:List α}:(a::l).set 0 b=b::l:=rfl
theorem jJ{α:Type}{a b:α}{l:List α}{i:Nat}:(a::l).set (i+1) b=a::l.set i b:=rfl
theorem jK{α:Type}{a d:α}{l:List α}:(a::l).getD 0 d=a:=rfl
theorem jL{α:Type}{a d:α}{l:List α}{i:Nat}:(a::l).getD (i+1) d=l.getD i d:=rfl
def jM{n:Nat}:0+n=n:=Nat.zero_add _
theorem jN:(!true)=false:=rfl
theorem jO:(!false)=true:=rfl
def jP:(false=true)=False:=zze
theorem iU{e:E}{xs:List PV}:BO e (.lst xs)=.ok xs:=rfl
theorem VA{e:E}{xs:List PV}:BO e (.tup xs)=.ok xs:=rfl
theorem S8{xs:List PV}:itemsOf (.tup xs)=.ok xs:=rfl
theorem So{xs:List PV}:itemsOf (.lst xs)=.ok xs:=rfl
theorem Ur{z:Str}:itemsOf (.str z)=.ok (chars z):=rfl
theorem We{i j k:Nat}{a b c:PV}{env:Sl}:(Tg.three i j k).put (.tup [a,b,c]) env=.ok (((env.set i (.val a)).set j (.val b)).set k (.val c)):=rfl
theorem jQ{α:Type}{f:α->α}{a:α}{l:List α}:(a::l).modify 0 f=f a::l:=rfl
def jR{α:Type}{f:α->α}{a:α}{l:List α}{i:Nat}:(a::l).modify (i+1) f=a::l.modify i f:=by simp
theorem jS{α:Type}{a:α}:List.replicate 0 a=[]:=id rfl
theorem jT{α:Type}{a:α}{n:Nat}:List.replicate (n+1) a=a::List.replicate n a:=id rfl
def jU{n:Nat}:(n==n)=true:=beq_self_eq_true n
noncomputable def J:=And.intro @jS (And.intro @jT (And.intro @jU (And.intro @RZ (And.intro @Xc (And.intro @VV (And.intro @Ry (And.intro @Wm (And.intro @Xb (And.intro @sv (And.intro @W8 (And.intro @VI (And.intro @Ua (And.intro @FV (And.intro @FC (And.intro @Fo (And.intro @PN (And.intro @Rf (And.intro @QU (And.intro @Q7 (And.intro @W9 (And.intro @WM (And.intro @WW (And.intro @Xh (And.intro @Xe (And.intro @Vi (And.intro @P9 (And.intro @oLt (And.intro @oLe (And.intro @WC (And.intro @lL (And.intro @lT (And.intro @lS (And.intro @tL (And.intro @aL (And.intro @VF (And.intro @V2 (And.intro @Wo (And.intro @jA (And.intro @jB (And.intro @jC (And.intro @jD (And.intro @jE (And.intro @jF (And.intro @jG (And.intro @jH (And.intro @jI (And.intro @jJ (And.intro @jK (And.intro @jL (And.intro @jM (And.intro @jN (And.intro @jO (And.intro @jP (And.intro @iU (And.intro @VA (And.intro @S8 (And.intro @So (And.intro @Ur (And.intro @We (And.intro @jQ (@jR)))))))))))))))))))))))))))))))))))))))))))))))))))))))))))))
def HL{n:Str}{d:Def}{r:List (Str×Def)}:den ((n,d)::r) n=af (den r) d:=by
 funext as;simp [den]
def IC{n f:Str}{d:Def}{r:List (Str×Def)}(h:(f==n)=false):den ((n,d)::r) f=den r f:=by
 funext as;simp [den,h]
theorem qP{f:Str}:∀(n:Nat) {T:List (Str×Def)},((T.take n).all λx=>!(f==x.1))=true->den T f=den (T.drop n) f
 |0,_,_=>rfl
 |n+1,[],_=>rfl
 |n+1,(m,d)::r,h=>by
  rw [List.take_succ_cons,List.all_cons,zza,Bool.not_eq_true'] at h;exact(IC h.1).trans (qP n h.2)
def dk{f:Str}{d:Def}{r T:List (Str×Def)}(k:Nat)(h:((T.take k).all λx=>!(f==x.1))=true:=by decide+kernel)(e:T.drop k=(f,d)::r:=by rfl):den T f=af (den r) d:=by
 rw [qP k h,e];exact HL
end KJ
local macro_rules | `(#v[]) => `(.nil) | `(#v[$x]) => `(.cons $x .nil) | `(#v[$x, $xs,*]) => `(.cons $x #v[$xs,*]) | `(!$n:num) => `(.var $n) | `(¬$n:num) => `(.cst (.int $n))
namespace K96
open PySem L2 Ci KJ
noncomputable def cJ:Def:=⟨["moves","moved"],1,#v[.set 1 (.blt .dict #v[!0]),.ite (.cmp .lt (.blt .len #v[!1]) (.blt .len #v[!0])) #v[.ret (.cst (.bl false))] .nil,.ret (.not (.blt .any #v[.comp 2 [1] (.two 0 1) (.seq (!0)) (.and (.cmp .ne (!0) (!1)) (.cmp .eq (.get (!2) (!1)) (!0)))]))],none⟩
def jn:Def:=⟨["way","time"],2,#v[.ret (.sub (!0) (.blt .min2 #v[!1,.bin .sub (.blt .len #v[!0]) (¬1)]))],none⟩
def ij:Def:=⟨["ways","time"],2,#v[.ret (.comp 1 [1] (.one 0) (.seq (!0)) (.tup #v[.call "spot_at" #v[!0,!1],.call "spot_at" #v[!0,.bin .add (!1) (¬1)]]))],none⟩
def fj:Def:=⟨["ways"],1,#v[.ret (.maxD (.comp 1 [] (.one 0) (.seq (!0)) (.bin .sub (.blt .len #v[!0]) (¬1))) 0)],none⟩
def eU:Def:=⟨["ways"],1,#v[.ret (.blt .all #v[.comp 1 [0] (.one 0) (.mi (.bin .add (.call "still_from" #v[!0]) (¬1))) (.call "are_moves_apart" #v[.call "moves_at" #v[!1,!0]])])],none⟩
def hW:Def:=⟨["thing"],1,#v[.ret (.and (.ty .int (!0)) (.not (.ty .bool (!0))))],none⟩
def jv:Def:=⟨["thing"],1,#v[.ret (.and (.ty .tuple (!0)) (.and (.cmp .eq (.blt .len #v[!0]) (¬2)) (.and (.call "is_whole" #v[.sub (!0) (¬0)]) (.call "is_whole" #v[.sub (!0) (¬1)]))))],none⟩
def en:Def:=⟨["floor","spot"],2,#v[.ret (.and (.ch .le .lt (¬0) (.sub (!1) (¬0)) (.blt .len #v[!0])) (.ch .le .lt (¬0) (.sub (!1) (¬1)) (.blt .len #v[.sub (!0) (.sub (!1) (¬0))])))],none⟩
noncomputable def jo:Def:=⟨["floor","thing"],2,#v[.ret (.and (.call "is_spot" #v[!1]) (.and (.call "is_on_floor" #v[!0,!1]) (.cmp .ne (.sub (.sub (!0) (.sub (!1) (¬0))) (.sub (!1) (¬1))) (.glob "WALL" (.str "#")))))],none⟩
noncomputable def bJ:Def:=⟨["floor","thing"],2,#v[.ite (.or (.not (.ty .list (!1))) (.cmp .eq (.blt .len #v[!1]) (¬0))) #v[.ret (.cst (.bl false))] .nil,.ret (.blt .all #v[.comp 1 [0] (.one 0) (.seq (!1)) (.call "is_open" #v[!1,!0])])],none⟩
noncomputable def fg:Def:=⟨["one","other"],2,#v[.ret (.and (.cmp .ne (!0) (!1)) (.and (.cmp .le (.blt .abs #v[.bin .sub (.sub (!0) (¬0)) (.sub (!1) (¬0))]) (¬1)) (.cmp .le (.blt .abs #v[.bin .sub (.sub (!0) (¬1)) (.sub (!1) (¬1))]) (¬1))))],none⟩
def f6:Def:=⟨["floor","spot"],2,#v[.ite (.not (.call "is_open" #v[!0,!1])) #v[.raise "NoSpot" "the spot is not on the floor or a wall"] .nil],none⟩
def f9:Def:=⟨["floor","spot"],2,#v[.expr (.call "need_open" #v[!0,!1]),.ret (.blt .int #v[.sub (.sub (!0) (.sub (!1) (¬0))) (.sub (!1) (¬1))])],none⟩
def cw:Def:=⟨["floor","one","other"],3,#v[.ret (.and (.call "is_open" #v[!0,.tup #v[.sub (!1) (¬0),.sub (!2) (¬1)]]) (.call "is_open" #v[!0,.tup #v[.sub (!2) (¬0),.sub (!1) (¬1)]]))],none⟩
noncomputable def fQ:Def:=⟨["floor","walker","one","other","is_slanting","rise","flat_cost"],4,#v[.ite (.not (.call "are_beside" #v[!2,!3])) #v[.ret (.cst .aK)] .nil,.set 4 (.and (.cmp .ne (.sub (!2) (¬0)) (.sub (!3) (¬0))) (.cmp .ne (.sub (!2) (¬1)) (.sub (!3) (¬1)))),.ite (.and (!4) (.not (.and (.sub (!1) (¬0)) (.call "has_open_corners" #v[!0,!2,!3])))) #v[.ret (.cst .aK)] .nil,.set 5 (.bin .sub (.call "height_at" #v[!0,!3]) (.call "height_at" #v[!0,!2])),.ite (.cmp .gt (.blt .abs #v[!5]) (.sub (!1) (¬1))) #v[.ret (.cst .aK)] .nil,.set 6 (.ite (!4) (.glob "SLANTING_COST" (.int 3)) (.glob "STRAIGHT_COST" (.int 2))),.ret (.bin .add (!6) (.bin .mul (.sub (!1) (¬2)) (.blt .max2 #v[!5,¬0])))],none⟩
def cF:Def:=⟨["floor","walker","one","other"],4,#v[.ret (.or (.cmp .eq (!2) (!3)) (.cmp .xV (.call "step_cost" #v[!0,!1,!2,!3]) (.cst .aK)))],none⟩
noncomputable def cY:Def:=⟨["floor","walker","thing"],3,#v[.ite (.not (.call "is_list_of_open_spots" #v[!0,!2])) #v[.ret (.cst (.bl false))] .nil,.ret (.blt .all #v[.comp 2 [1,0] (.two 0 1) (.zip #v[!2,.slice (!2) (.some (¬1)) .no]) (.call "is_step_or_wait" #v[!3,!2,!0,!1])])],none⟩
noncomputable def dO:Def:=⟨["floor","walker","start","goal","thing"],5,#v[.ite (.cmp .is (!4) (.cst .aK)) #v[.ret (.cst (.bl true))] .nil,.ret (.and (.call "is_way_in_time" #v[!0,!1,!4]) (.and (.cmp .eq (.sub (!4) (¬0)) (!2)) (.cmp .eq (.sub (!4) (.neg (¬1))) (!3))))],none⟩
noncomputable def jX:Def:=⟨["floor","walker","starts","goals","thing"],5,#v[.ite (.or (.not (.ty .list (!4))) (.cmp .ne (.blt .len #v[!4]) (.blt .len #v[!2]))) #v[.ret (.cst (.bl false))] .nil,.ite (.not (.blt .all #v[.comp 3 [1,0] (.three 0 1 2) (.zip #v[!2,!3,!4]) (.call "fulfils_plan" #v[!4,!3,!0,!1,!2])])) #v[.ret (.cst (.bl false))] .nil,.ret (.call "keep_apart" #v[.cx 1 [] (.one 0) (.seq (!4)) (.cmp .xV (!0) (.cst .aK)) (!0)])],none⟩
noncomputable def cB:Def:=⟨["_law_script","_law_k"],2,#v[.ite (.cmp .lt (!1) (.blt .len #v[!0])) #v[.ret (.sub (!0) (!1))] .nil,.ite (.cmp .eq (!0) (.lst .nil)) #v[.ret (¬0)] .nil,.ret (.bin .add (.bin .mul (.sub (!0) (.bin .mod (!1) (.blt .len #v[!0]))) (¬31)) (!1))],none⟩
noncomputable def bF:Def:=⟨["_law_script","_law_k","_law_many","_law_drawn"],3,#v[.set 3 (.bin .mod (.bin .mul (.bin .add (.call "_law_cell" #v[!0,!1]) (.bin .mul (¬6151) (.bin .add (!1) (¬1)))) (¬40692)) (¬2147483399)),.ret (.bin .mod (.bin .mod (.bin .add (.bin .mul (!3) (!3)) (.bin .fdiv (!3) (¬31))) (¬2147483629)) (!2))],none⟩
noncomputable def aB:Def:=⟨["_law_script","_law_walker","_law_floor","_law_start","_law_goal","_law_middle","_law_low","_law_good","_law_odd","_law_told"],1,#v[.rn (.two 1 2) (.tup #v[.tup #v[.cst (.bl false),¬0,.call "_law_pick" #v[!0,¬0,¬4]],.tup #v[.cst (.str "000"),.cst (.str "000")]]),.rn (.four 3 4 5 6) (.tup #v[.tup #v[¬0,¬0],.tup #v[¬0,¬2],.tup #v[¬0,¬1],.tup #v[¬1,¬1]]),.set 7 (.lst #v[.lst #v[!3,!5,!4],.lst #v[!3,!3,!5,!4],.lst #v[!3,.tup #v[¬1,¬0],!6,!5,!4,!4]]),.own 8 (.lst #v[.lst #v[!5,!4],.lst #v[!3,!5],.lst #v[!3,!4],.lst #v[!3,!6,!5,!4],.lst #v[!4,!5,!3],.lst .nil]),.dQ 8 (.lst #v[.tup #v[!3,!5,!4],.lst #v[!3,.tup #v[¬0,¬3],!4],.lst #v[!3,!5,.cst .aK,!4],.lst #v[!3,.lst #v[¬0,¬1],!4]]),.dQ 8 (.lst #v[.lst #v[!3,!5,!5,!6,.tup #v[¬1,¬2],!5,!4],.lst #v[!3,.tup #v[.neg (¬1),¬0],!5,!4]]),.dQ 8 (.lst #v[.lst #v[!3,!5,!4,¬0]]),.ite (.cmp .ne (.comp 1 [1,3,4,2] (.one 0) (.seq (!7)) (.call "is_plan" #v[!4,!1,.lst #v[!2],.lst #v[!3],.lst #v[!0]])) (.bin .mul (.lst #v[.cst (.bl true)]) (¬3))) #v[.ret (.cst (.bl false))] .nil,.ite (.cmp .ne (.comp 1 [1,3,4,2] (.one 0) (.seq (.kP 8)) (.call "is_plan" #v[!4,!1,.lst #v[!2],.lst #v[!3],.lst #v[!0]])) (.bin .mul (.lst #v[.cst (.bl false)]) (¬13))) #v[.ret (.cst (.bl false))] .nil,.ite (.cmp .xV (.call "is_plan" #v[.tup #v[.cst (.str "0#0"),.cst (.str "000")],!1,.lst #v[!3],.lst #v[!4],.lst #v[.sub (!7) (¬0)]]) (.cst (.bl false))) #v[.ret (.cst (.bl false))] .nil,.ite (.cmp .xV (.call "is_plan" #v[.tup #v[.cst (.str "010"),.cst (.str "000")],!1,.lst #v[!3],.lst #v[!4],.lst #v[.sub (!7) (¬0)]]) (.cst (.bl false))) #v[.ret (.cst (.bl false))] .nil,.set 9 (.comp 1 [1,3,4,2] (.one 0) (.seq (.tup #v[.lst #v[.cst .aK],.lst .nil,.lst #v[.cst .aK,.cst .aK],.tup #v[.sub (!7) (¬0)],.cst .aK])) (.call "is_plan" #v[!4,!1,.lst #v[!2],.lst #v[!3],!0])),.ite (.cmp .ne (!9) (.lst #v[.cst (.bl true),.cst (.bl false),.cst (.bl false),.cst (.bl false),.cst (.bl false)])) #v[.ret (.cst (.bl false))] .nil,.ret (.cst (.bl true))],none⟩
noncomputable def aC:Def:=⟨["_law_script","_law_walker","_law_floor","_law_start","_law_goal","_law_middle","_law_low","_law_good","_law_here","_law_pairs","_law_due","_law_k","_law_one","_law_other","_law_begun","_law_ends","_law_turn"],1,#v[.par 1 2 #v[.tup #v[.cst (.bl false),¬0,.call "_law_pick" #v[!0,¬0,¬4]],.tup #v[.cst (.str "000"),.cst (.str "000")]],.rn (.four 3 4 5 6) (.tup #v[.tup #v[¬0,¬0],.tup #v[¬0,¬2],.tup #v[¬0,¬1],.tup #v[¬1,¬1]]),.set 7 (.lst #v[.lst #v[!3,!5,!4]]),.set 8 (.lst #v[.tup #v[¬1,¬0],!6,.tup #v[¬1,¬2]]),.own 9 (.lst #v[.tup #v[.sub (!7) (¬0),!8],.tup #v[.sub (!7) (¬0),.slice (!8) .no (.some (¬2))],.tup #v[.sub (!7) (¬0),.lst #v[.tup #v[¬1,¬2],.tup #v[¬1,¬2],!5]]]),.dQ 9 (.lst #v[.tup #v[.sub (!7) (¬0),.lst #v[!4,!5,!3]]]),.dQ 9 (.lst #v[.tup #v[.sub (!7) (¬0),.lst #v[!6,!5]],.tup #v[.sub (!7) (¬0),.lst #v[!6,!6,!5]],.tup #v[.sub (!7) (¬0),.lst #v[!4,.tup #v[¬1,¬2],!6]]]),.dQ 9 (.lst #v[.tup #v[.sub (!7) (¬0),.cst .aK]]),.dQ 9 (.lst #v[.tup #v[.lst #v[!3,!5],.lst #v[!5,!3]],.tup #v[.lst #v[!3,!3,!5],.lst #v[.tup #v[¬1,¬0],!6,!6,!5,!6]]]),.dQ 9 (.lst #v[.tup #v[.lst #v[!3,!3,!5],.lst #v[!4,!5,!3]],.tup #v[.lst #v[!3],.lst #v[!5,!3,!5]]]),.dQ 9 (.lst #v[.tup #v[.lst #v[!3],.lst #v[!5,!4,!5]]]),.app 9 (.tup #v[.lst #v[!3,!5,!5,!4],.lst #v[.tup #v[¬1,¬2],.tup #v[¬1,¬2],!4,!5]]),.set 10 (.lst #v[.cst (.bl true),.cst (.bl true),.cst (.bl false),.cst (.bl false),.cst (.bl false),.cst (.bl true),.cst (.bl true),.cst (.bl true),.cst (.bl false),.cst (.bl false),.cst (.bl false),.cst (.bl false),.cst (.bl true),.cst (.bl false)]),.eA (.one 11) (.mi (¬14)) #v[.rn (.two 12 13) (.sub (.kP 9) (!11)),.sZ 14 15 #v[.sub (!12) (¬0),.tup #v[¬1,¬2]] #v[.sub (!12) (.neg (¬1)),.tup #v[¬1,¬0]],.ite (.cmp .xV (!13) (.cst .aK)) #v[.put2 14 15 1 1 (.tup #v[.sub (!13) (¬0),.sub (!13) (.neg (¬1))])] .nil,.eA (.one 16) (.seq (.tup #v[¬1,.neg (¬1)])) #v[.ite (.cmp .ne (.call "is_plan" #v[!2,!1,.MC (.kP 14) (!16),.MC (.kP 15) (!16),.MC (.lst #v[!12,!13]) (!16)]) (.sub (!10) (!11))) #v[.ret (.cst (.bl false))] .nil]],.ret (.cst (.bl true))],none⟩
def ju:Def:=⟨["thing"],1,#v[.ret (.and (.ty .str (!0)) (.and (.cmp .eq (.blt .len #v[!0]) (¬1)) (.cmp .Gy (!0) (.glob "SIGNS" (.str "#0123456789")))))],none⟩
noncomputable def lR:Def:=⟨["thing"],1,#v[.ite (.or (.not (.ty .str (!0))) (.not (.ch .le .le (¬1) (.blt .len #v[!0]) (.glob "LONGEST" (.int 12))))) #v[.ret (.cst (.bl false))] .nil,.ret (.blt .all #v[.comp 1 [] (.one 0) (.seq (!0)) (.call "is_sign" #v[!0])])],none⟩
noncomputable def ae:Def:=⟨["thing"],1,#v[.ite (.or (.not (.ty .tuple (!0))) (.not (.ch .le .le (¬1) (.blt .len #v[!0]) (.glob "LONGEST" (.int 12))))) #v[.ret (.cst (.bl false))] .nil,.ite (.not (.blt .all #v[.comp 1 [] (.one 0) (.seq (!0)) (.call "is_row" #v[!0])])) #v[.ret (.cst (.bl false))] .nil,.ret (.blt .all #v[.comp 1 [0] (.one 0) (.seq (!0)) (.cmp .eq (.blt .len #v[!0]) (.blt .len #v[.sub (!1) (¬0)]))])],none⟩
noncomputable def fJ:Def:=⟨["thing"],1,#v[.ite (.or (.not (.ty .tuple (!0))) (.cmp .ne (.blt .len #v[!0]) (¬3))) #v[.ret (.cst (.bl false))] .nil,.ite (.or (.not (.ty .bool (.sub (!0) (¬0)))) (.or (.not (.call "is_whole" #v[.sub (!0) (¬1)])) (.not (.call "is_whole" #v[.sub (!0) (¬2)])))) #v[.ret (.cst (.bl false))] .nil,.ret (.and (.ch .le .le (¬0) (.sub (!0) (¬1)) (.glob "HIGHEST_CLIMB" (.int 9))) (.ch .le .le (¬0) (.sub (!0) (¬2)) (.glob "HIGHEST_UP" (.int 3))))],none⟩
noncomputable def gy:Def:=⟨["_law_kept","_law_kinds"],1,#v[.set 1 (.lst #v[.B5 "NoSign" (!0),.B5 "NoSize" (!0),.B5 "NoSpot" (!0),.B5 "NoWay" (!0)]),.ite (.or (.cmp .ne (.B6 .ic (!1) #v[.cst (.bl true)]) (¬1)) (.or (.not (.B5 "ValueError" (!0))) (.not (.B5 "FloorError" (!0))))) #v[.ret (.cst (.str "wrong"))] .nil,.ret (.sub (.lst #v[.cst (.str "no sign"),.cst (.str "no size"),.cst (.str "no spot"),.cst (.str "no way")]) (.B6 .index (!1) #v[.cst (.bl true)]))],none⟩
noncomputable def gj:Def:=⟨["size"],1,#v[.ite (.or (.not (.call "is_whole" #v[!0])) (.not (.ch .le .le (¬1) (!0) (.glob "LONGEST" (.int 12))))) #v[.raise "NoSize" "the size is not a whole number from 1 to 12"] .nil],none⟩
noncomputable def lB:Def:=⟨["spot","rows","below","beside"],2,#v[.set 2 (.comp 1 [0,1] (.one 0) (.mi (.bin .add (!1) (¬1))) (.tup #v[.bin .add (.sub (!1) (¬0)) (!2),.bin .add (.sub (!1) (¬1)) (!0)])),.set 3 (.comp 1 [0,1] (.one 0) (.mi (!1)) (.tup #v[.bin .add (.sub (!1) (¬0)) (!0),.bin .add (.sub (!1) (¬1)) (!2)])),.ret (.bin .add (!2) (!3))],none⟩
noncomputable def ay:Def:=⟨["floor","spot","rows"],2,#v[.expr (.call "need_open" #v[!0,!1]),.set 2 (¬1),.FN (.blt .all #v[.comp 1 [0] (.one 0) (.seq (.call "rim_of" #v[!1,!2])) (.call "is_open" #v[!1,!0])]) #v[.aug 2 .add (¬1)],.ret (!2)],none⟩
noncomputable def eB:Def:=⟨["floor","size","spot","sign"],3,#v[.set 3 (.sub (.sub (!0) (.sub (!2) (¬0))) (.sub (!2) (¬1))),.ite (.and (.cmp .ne (!3) (.glob "WALL" (.str "#"))) (.cmp .lt (.call "clearance" #v[!0,!2]) (!1))) #v[.ret (.glob "WALL" (.str "#"))] .nil,.ret (!3)],none⟩
noncomputable def av:Def:=⟨["floor","size","rows","row"],2,#v[.expr (.call "need_size" #v[!1]),.own 2 (.lst .nil),.eA (.one 3) (.mi (.blt .len #v[!0])) #v[.app 2 (.B6 .join (.cst (.str "")) #v[.comp 1 [1,3,0] (.one 0) (.mi (.blt .len #v[.sub (!0) (!3)])) (.call "shrunk_sign" #v[!3,!1,.tup #v[!2,!0]])])],.ret (.blt .tuple #v[.kP 2])],none⟩
noncomputable def eZ:Def:=⟨["floor","spots","row","signs","column","sign"],1,#v[.own 1 (.lst .nil),.eA (.two 2 3) (.enum (!0)) #v[.eA (.two 4 5) (.enum (!3)) #v[.ite (.cmp .ne (!5) (.glob "WALL" (.str "#"))) #v[.app 1 (.tup #v[!2,!4])] .nil]],.bt 1,.ret (!1)],none⟩
def hJ:Def:=⟨["spot","size"],2,#v[.ret (.tup #v[.bin .fdiv (.sub (!0) (¬0)) (!1),.bin .fdiv (.sub (!0) (¬1)) (!1)])],none⟩
noncomputable def bY:Def:=⟨["floor","spot","beside","row","column"],2,#v[.own 2 (.lst .nil),.eA (.one 3) (.sj (.bin .sub (.sub (!1) (¬0)) (¬1)) (.bin .add (.sub (!1) (¬0)) (¬2))) #v[.eA (.one 4) (.sj (.bin .sub (.sub (!1) (¬1)) (¬1)) (.bin .add (.sub (!1) (¬1)) (¬2))) #v[.ite (.and (.cmp .ne (.tup #v[!3,!4]) (!1)) (.call "is_open" #v[!0,.tup #v[!3,!4]])) #v[.app 2 (.tup #v[!3,!4])] .nil]],.bt 2,.ret (!2)],none⟩
noncomputable def eW:Def:=⟨["floor","walker","spot","steps","other","cost"],3,#v[.expr (.call "need_open" #v[!0,!2]),.own 3 (.lst .nil),.eA (.one 4) (.seq (.call "open_spots_beside" #v[!0,!2])) #v[.set 5 (.call "step_cost" #v[!0,!1,!2,!4]),.ite (.cmp .xV (!5) (.cst .aK)) #v[.app 3 (.tup #v[!4,!5])] .nil],.bt 3,.ret (!3)],none⟩
noncomputable def fZ:Def:=⟨["floor","walker","size","spot","block"],4,#v[.set 4 (.call "block_of" #v[!3,!2]),.ret (.cx 1 [2,4] (.one 0) (.seq (.call "steps_from" #v[!0,!1,!3])) (.cmp .ne (.call "block_of" #v[.sub (!0) (¬0),!1]) (!2)) (!0))],none⟩
noncomputable def aG:Def:=⟨["floor","walker","size"],3,#v[.expr (.call "need_size" #v[!2]),.ret (.cx 1 [1,2,0] (.one 0) (.seq (.call "open_spots" #v[!0])) (.cmp .gt (.blt .len #v[.call "steps_out" #v[!3,!1,!2,!0]]) (¬0)) (!0))],none⟩
noncomputable def dP:Def:=⟨["floor","walker","size","spot","block"],4,#v[.set 4 (.call "block_of" #v[!3,!2]),.ret (.cx 1 [2,4] (.one 0) (.seq (.call "steps_from" #v[!0,!1,!3])) (.cmp .eq (.call "block_of" #v[.sub (!0) (¬0),!1]) (!2)) (!0))],none⟩
noncomputable def bG:Def:=⟨["starts","steps","reached","waiting","start","spot","other","cost","together"],2,#v[.qm 2,.qm 3,.eA (.one 4) (.seq (!0)) #v[.put 3 (!4) (.tup #v[¬0,.cst .aK])],.FN (.cmp .gt (.blt .len #v[.kP 3]) (¬0)) #v[.si 5 3,.fN 2 3 5,.eA (.two 6 7) (.seq (.sh 1 #v[!5])) #v[.set 8 (.bin .add (.sub (.sub (.kP 2) (!5)) (¬0)) (!7)),.ite (.and (.cmp .GL (!6) (.kP 2)) (.or (.cmp .GL (!6) (.kP 3)) (.cmp .lt (!8) (.sub (.sub (.kP 3) (!6)) (¬0))))) #v[.put 3 (!6) (.tup #v[!8,!5])] .nil]],.bt 2,.ret (!2)],some ("steps_within",[1,3,1,2,0])⟩
noncomputable def fW:Def:=⟨["floor","walker","size","spot","stops","reached","within"],5,#v[.set 5 (.rK "spread@steps_within" #v[.lst #v[!3]] "steps_within" [1,3,1,2,0] [1,2,0]),.set 6 (.cx 1 [3,5] (.one 0) (.seq (!5)) (.cmp .ne (!0) (!1)) (.tup #v[!0,.sub (.sub (!2) (!0)) (¬0)])),.ret (.cx 1 [4] (.one 0) (.seq (.bin .add (!6) (.call "steps_out" #v[!0,!1,!2,!3]))) (.cmp .Gy (.sub (!0) (¬0)) (!1)) (!0))],none⟩
noncomputable def jV:Def:=⟨["floor","walker","size","stops","told","gate"],3,#v[.set 3 (.call "gates" #v[!0,!1,!2]),.own 4 (.lst .nil),.eA (.one 5) (.seq (!3)) #v[.dQ 4 (.comp 1 [5] (.one 0) (.seq (.call "hops_from" #v[!0,!1,!2,!5,!3])) (.tup #v[!1,.sub (!0) (¬0),.sub (!0) (¬1)]))],.ret (.blt .sorted #v[.kP 4])],none⟩
noncomputable def bO:Def:=⟨["_law_what","_law_floor","_law_size","_law_kept","_law_answer","_law_walker","e"],3,#v[.set 3 (.cst .aK),.set 4 (.cst .aK),.set 5 (.tup #v[.cst (.bl false),¬9,¬0]),.um #v[.ite (.cmp .lt (!0) (¬2)) #v[.set 4 (.ite (.cmp .eq (!0) (¬0)) (.call "gates" #v[!1,!5,!2]) (.call "hops" #v[!1,!5,!2]))] #v[.set 4 (.call "shrunk" #v[!1,!2])]] "FloorError" 6 3,.ite (.cmp .is (!3) (.cst .aK)) #v[.ret (!4)] .nil,.ret (.call "_law_word" #v[!3])],none⟩
noncomputable def md:Def:=⟨["_law_script","_law_high","_law_wide","_law_floor","_law_odd","_law_good","_law_size","_law_least","_law_rows","_law_row"],1,#v[.ite (.or (.not (.call "_law_are_ways_told" #v[!0])) (.not (.call "_law_are_two_told" #v[!0]))) #v[.ret (.cst (.bl false))] .nil,.rn (.two 1 2) (.tup #v[.bin .add (¬1) (.call "_law_pick" #v[!0,¬1,¬12]),.bin .add (¬1) (.call "_law_pick" #v[!0,¬2,¬12])]),.set 3 (.bin .mul (.tup #v[.bin .mul (.cst (.str "0")) (!2)]) (!1)),.own 4 (.lst #v[.tup .nil,.tup #v[.bin .mul (.cst (.str "0")) (¬13)],.bin .mul (.tup #v[.cst (.str "0")]) (¬13),.tup #v[.cst (.str "")],.tup #v[.cst (.str "0"),.cst (.str "00")],.lst #v[.cst (.str "0")],.tup #v[.cst (.str "a")],.tup #v[.cst (.str "0 ")],.tup #v[¬0],.cst .aK,.cst (.str "0"),.tup #v[.cst (.str "0"),.cst .aK]]),.ite (.or (.cmp .xV (.call "is_floor" #v[!3]) (.cst (.bl true))) (.cmp .ne (.comp 1 [] (.one 0) (.seq (.kP 4)) (.call "is_floor" #v[!0])) (.bin .mul (.lst #v[.cst (.bl false)]) (¬12)))) #v[.ret (.cst (.bl false))] .nil,.set 5 (.lst #v[.tup #v[.cst (.bl true),¬0,¬0],.tup #v[.cst (.bl false),¬9,¬3]]),.own 4 (.lst #v[.tup #v[.cst (.bl true),¬10,¬0],.tup #v[.cst (.bl true),.neg (¬1),¬0],.tup #v[.cst (.bl true),¬0,¬4],.tup #v[.cst (.bl true),¬0,.neg (¬1)],.tup #v[¬1,¬0,¬0],.tup #v[.cst (.bl true),.cst (.bl false),¬0]]),.dQ 4 (.lst #v[.tup #v[.cst (.bl true),¬0,.cst (.bl true)],.tup #v[.cst (.bl true),¬0]]),.dQ 4 (.lst #v[.lst #v[.cst (.bl true),¬0,¬0],.cst .aK,.tup #v[.cst .aK,¬0,¬0],.tup #v[.cst (.bl true),.cst .aK,¬0],.tup #v[.cst (.bl true),¬0,¬0,¬0],.tup #v[.cst (.bl true),.cst (.str "1"),¬0]]),.ite (.cmp .ne (.comp 1 [] (.one 0) (.seq (.bin .add (!5) (.kP 4))) (.call "is_walker" #v[!0])) (.bin .add (.bin .mul (.lst #v[.cst (.bl true)]) (¬2)) (.bin .mul (.lst #v[.cst (.bl false)]) (¬14)))) #v[.ret (.cst (.bl false))] .nil,.rn (.two 1 2) (.tup #v[.bin .add (¬1) (.call "_law_pick" #v[!0,¬3,¬5]),.bin .add (¬1) (.call "_law_pick" #v[!0,¬4,¬5])]),.set 3 (.bin .mul (.tup #v[.bin .mul (.cst (.str "0")) (!2)]) (!1)),.eA (.one 6) (.seq (.tup #v[¬0,¬13,.neg (¬1)])) #v[.ite (.cmp .ne (.comp 1 [6,3] (.one 0) (.mi (¬3)) (.call "_law_do" #v[!0,!2,!1])) (.bin .mul (.lst #v[.cst (.str "no size")]) (¬3))) #v[.ret (.cst (.bl false))] .nil],.ite (.or (.cmp .ne (.call "_law_do" #v[¬0,!3,¬12]) (.lst .nil)) (.or (.cmp .ne (.call "_law_do" #v[¬1,!3,¬12]) (.lst .nil)) (.cmp .ne (.call "clearance" #v[!3,.tup #v[¬0,¬0]]) (.blt .min2 #v[!1,!2])))) #v[.ret (.cst (.bl false))] .nil,.set 7 (.blt .min2 #v[!1,!2]),.own 8 (.lst .nil),.eA (.one 9) (.mi (!1)) #v[.app 8 (.B6 .join (.cst (.str "")) #v[.comp 1 [2,9,7,1] (.one 0) (.mi (!2)) (.ite (.cmp .ge (.blt .min2 #v[.bin .sub (!4) (!2),.bin .sub (!1) (!0)]) (!3)) (.cst (.str "0")) (.cst (.str "#")))])],.ret (.and (.cmp .eq (.call "_law_do" #v[¬2,!3,!7]) (.blt .tuple #v[.kP 8])) (.cmp .eq (.call "_law_do" #v[¬2,!3,¬1]) (!3)))],none⟩
def T0:List (Str×Def):=[]
noncomputable def T1:List (Str×Def):=(("are_moves_apart":Str),cJ)::T0
noncomputable def T2:List (Str×Def):=(("spot_at":Str),jn)::T1
noncomputable def T3:List (Str×Def):=(("moves_at":Str),ij)::T2
noncomputable def T4:List (Str×Def):=(("still_from":Str),fj)::T3
noncomputable def T5:List (Str×Def):=(("keep_apart":Str),eU)::T4
noncomputable def T6:List (Str×Def):=(("is_whole":Str),hW)::T5
noncomputable def T7:List (Str×Def):=(("is_spot":Str),jv)::T6
noncomputable def T8:List (Str×Def):=(("is_on_floor":Str),en)::T7
noncomputable def T9:List (Str×Def):=(("is_open":Str),jo)::T8
noncomputable def Zb:List (Str×Def):=(("is_list_of_open_spots":Str),bJ)::T9
noncomputable def XO:List (Str×Def):=(("are_beside":Str),fg)::Zb
noncomputable def XC:List (Str×Def):=(("need_open":Str),f6)::XO
noncomputable def YT:List (Str×Def):=(("height_at":Str),f9)::XC
noncomputable def X8:List (Str×Def):=(("has_open_corners":Str),cw)::YT
noncomputable def Y8:List (Str×Def):=(("step_cost":Str),fQ)::X8
noncomputable def Yx:List (Str×Def):=(("is_step_or_wait":Str),cF)::Y8
noncomputable def YX:List (Str×Def):=(("is_way_in_time":Str),cY)::Yx
noncomputable def YW:List (Str×Def):=(("fulfils_plan":Str),dO)::YX
noncomputable def Vh:List (Str×Def):=(("is_plan":Str),jX)::YW
noncomputable def Ni:List (Str×Def):=(("_law_cell":Str),cB)::Vh
noncomputable def AW:List (Str×Def):=(("_law_pick":Str),bF)::Ni
noncomputable def AL:List (Str×Def):=(("_law_are_ways_told":Str),aB)::AW
noncomputable def Ye:List (Str×Def):=(("_law_are_two_told":Str),aC)::AL
noncomputable def YM:List (Str×Def):=(("is_sign":Str),ju)::Ye
noncomputable def aO:List (Str×Def):=(("is_row":Str),lR)::YM
noncomputable def YR:List (Str×Def):=(("is_floor":Str),ae)::aO
noncomputable def Y1:List (Str×Def):=(("is_walker":Str),fJ)::YR
noncomputable def Zm:List (Str×Def):=(("_law_word":Str),gy)::Y1
noncomputable def Yp:List (Str×Def):=(("need_size":Str),gj)::Zm
noncomputable def jk:List (Str×Def):=(("rim_of":Str),lB)::Yp
noncomputable def XS:List (Str×Def):=(("clearance":Str),ay)::jk
noncomputable def c6:List (Str×Def):=(("shrunk_sign":Str),eB)::XS
noncomputable def X4:List (Str×Def):=(("shrunk":Str),av)::c6
noncomputable def XD:List (Str×Def):=(("open_spots":Str),eZ)::X4
noncomputable def Zj:List (Str×Def):=(("block_of":Str),hJ)::XD
noncomputable def Zg:List (Str×Def):=(("open_spots_beside":Str),bY)::Zj
noncomputable def X5:List (Str×Def):=(("steps_from":Str),eW)::Zg
noncomputable def iI:List (Str×Def):=(("steps_out":Str),fZ)::X5
noncomputable def Yc:List (Str×Def):=(("gates":Str),aG)::iI
noncomputable def X1:List (Str×Def):=(("steps_within":Str),dP)::Yc
noncomputable def YS:List (Str×Def):=(("spread@steps_within":Str),bG)::X1
noncomputable def Ue:List (Str×Def):=(("hops_from":Str),fW)::YS
noncomputable def PC:List (Str×Def):=(("hops":Str),jV)::Ue
noncomputable def qu:List (Str×Def):=(("_law_do":Str),bO)::PC
def C2:den Ni "_law_cell"=af (den Vh) cB:=dk 0
def C3:den AW "_law_pick"=af (den Ni) bF:=dk 0
def Dl:den AL "_law_pick"=af (den Ni) bF:=dk 1
def Eh:den Ue "gates"=af (den iI) aG:=dk 3
def CQ:den PC "gates"=af (den iI) aG:=dk 4
def C9:den PC "hops"=af (den Ue) jV:=dk 0
def vM:den PC "shrunk"=af (den c6) av:=dk 10
def EC:den qu "_law_are_ways_told"=af (den AW) aB:=dk 22
def CA:den qu "_law_are_two_told"=af (den AL) aC:=dk 21
def C8:den qu "_law_pick"=af (den Ni) bF:=dk 23
def EY:den qu "is_floor"=af (den aO) ae:=dk 18
def kH:den qu "_law_do"=af (den PC) bO:=dk 0
def DV:den qu "clearance"=af (den jk) ay:=dk 13
abbrev sp(r c:Int):PV:=.tup [.int r,.int c]
abbrev ji(ns:List Int):PV:=.lst (ns.map .int)
theorem aI{i:Int}:fw .abs [.int i]=.ok (.int (if i<0 then -i else i)):=rfl
theorem mX{i j:Int}:fw .max2 [.int i,.int j]=.ok (.int (if j>i then j else i)):=rfl
theorem WB:cQ .gt=t8:=rfl
theorem Wq{i j:Int}:t8 (.int i) (.int j)=.ok (.bl (decide (j<i))):=rfl
theorem Pp:cQ .xV=lA:=rfl
abbrev wk(sl:Bool)(cl pr:Int):PV:=.tup [.bl sl,.int cl,.int pr]
theorem VG{r c:Int}:eF (sp r c) (.int 0)=.ok (.int r):=rfl
theorem QJ{r c:Int}:eF (sp r c) (.int 1)=.ok (.int c):=rfl
theorem WK{sl:Bool}{cl pr:Int}:eF (wk sl cl pr) (.int 0)=.ok (.bl sl):=rfl
theorem Xn{sl:Bool}{cl pr:Int}:eF (wk sl cl pr) (.int 1)=.ok (.int cl):=rfl
theorem WL{sl:Bool}{cl pr:Int}:eF (wk sl cl pr) (.int 2)=.ok (.int pr):=rfl
theorem nI{i j:Int}:mZ (.int i) (.int j)=.ok (.bl (!(i==j))):=rfl
theorem eI{i j:Int}:aZ (.int i) (.int j)=.ok (.bl (i==j)):=rfl
theorem nS{r c r' c':Int}:mZ (sp r c) (sp r' c')=.ok (.bl (!((r==r')&&((c==c')&&true)))):=rfl
theorem eS{r c r' c':Int}:aZ (sp r c) (sp r' c')=.ok (.bl ((r==r')&&((c==c')&&true))):=rfl
theorem VC:cQ .is=p9:=rfl
theorem Qb{α β:Type}{c:Str}{f:α->Res β}:(Res.exc c:Res α).bind f=.exc c:=rfl
noncomputable def J2:=And.intro @VG (And.intro @QJ (And.intro @WK (And.intro @Xn (And.intro @WL (And.intro @aI (And.intro @mX (And.intro @WB (And.intro @Wq (And.intro @nI (And.intro @eI (And.intro @nS (And.intro @eS (And.intro @Pp (And.intro @VC (And.intro @Qb (And.intro @So (And.intro @S8 (@Ur))))))))))))))))))
set_option hygiene false
local macro_rules | `(tactic| simp! only [$x,*] $[$l:location]?) => `(tactic| simp only [af, d9, fL, aS, bV, aE, cb, IZ, ya, j4, zd, rA, List.replicate, Nat.reduceAdd, Nat.reduceSub, reduceIte, ite_true, ite_false, BEq.rfl, beq_self_eq_true, RZ, Xc, VV, Ry, Wm, Xb, sv, W8, VI, Ua, FV, FC, Fo, PN, Rf, QU, Q7, W9, WM, WW, Xh, Xe, Vi, P9, oLt, oLe, WC, lL, lT, lS, tL, aL, VF, V2, Wo, jA, jB, jC, jD, jE, jF, jG, jH, jI, jJ, jK, jL, jM, jN, jO, jP, KJ.iU, VA, S8, So, Ur, We, jQ, jR, VG, QJ, WK, Xn, WL, aI, mX, WB, Wq, nI, eI, nS, eS, Pp, VC, Qb, $x,*] $[$l]?)
local macro_rules | `(tactic| dsimp! only [$x,*] $[$l:location]?) => `(tactic| simp only [af, d9, fL, aS, bV, aE, cb, IZ, ya, j4, zd, rA, List.replicate, Nat.reduceAdd, Nat.reduceSub, reduceIte, ite_true, ite_false, BEq.rfl, beq_self_eq_true, J, J2, $x,*] $[$l]?)
set_option hygiene true
def NZ{α:Type}{xs:List α}{k:Nat}(h:k<xs.length):uo xs (k:Int)=some xs[k]:=by
 unfold uo vp;have:((k:Nat):Int)<(xs.length:Int):=by omega
 simp [this,h]
def vB{ns:List Int}{k:Int}(h0:0<=k)(h:k<ns.length):∃m,uo (ns.map PV.int) k=some (.int m):=by
 obtain⟨j,rfl⟩:=zzw h0
 refine⟨ns[j]'(by omega),?_⟩;rw [NZ (k:=j) (by simp;omega)];simp
def BC(ns:List Int)(n:Nat):Ci.plain (n+1) (.lst (ns.map .int))=true:=by
 simp! [Ci.plain,zzT,zzx]
 rintro x ⟨i,_,rfl⟩
 cases n<;>rfl
def eq_nil(ns:List Int):aZ (ji ns) (.lst [])=.ok (.bl (decide (ns=[]))):=by
 have e:sJ (ji ns)=true:=BC ns 8
 unfold aZ;rw [e];cases ns<;>rfl
def Ek(F:bj)(ns:List Int)(k:Int)(hk:0<=k):∃m,af F cB [ji ns,.int k]=.ok (.int m):=by
 simp! only [cB,zzl,eq_nil]
 by_cases h:k<(ns.length:Int)
 ·obtain⟨m,e⟩:=vB hk h
  refine⟨m,?_⟩;simp! only [h,decide_true,eF,e]
 ·simp! only [h,decide_false,eq_nil];cases ns with
  |nil=>exact⟨0,rfl⟩
  |cons n ns=>
   have hl:(0:Int)<((n::ns).length:Int):=by simp! [zzL];omega
   obtain⟨m,e⟩:=vB (ns:=n::ns) (k:=k%((n::ns).length:Int)) (Int.emod_nonneg _ (by omega)) (Int.emod_lt_of_pos _ hl)
   refine⟨m*31+k,?_⟩;have e3:(bK m||bK 31)=true:=by rw [zzt];exact .inr (by decide)
   have e4:eF (ji (n::ns)) (.int (k%((n::ns).length:Int)))=.ok (.int m):=by simp! [eF,e];rfl
   have e5:decide ((n::ns)=[])=false:=rfl
   simp! [zzL] at hl e4;simp! only [e5,zzl,hl,e4,e3]
def D0(F:bj)(hc:∀ns k,0<=k->∃m,F "_law_cell" [ji ns,.int k]=.ok (.int m))(ns:List Int)(k q:Int)(hk:0<=k)(hq:0<q):∃m,af F bF [ji ns,.int k,.int q]=.ok (.int m)/\0<=m/\m<q:=by
 obtain⟨m,e⟩:=hc ns k hk
 have s1:(bK 6151||bK (k+1))=true:=by rw [zzt];exact .inl (by decide)
 have s2:(bK (m+6151*(k+1))||bK 40692)=true:=by rw [zzt];exact .inr (by decide)
 have s3:(0:Int)<2147483399:=by decide
 have s4:(0:Int)<2147483629:=by decide
 have s5:(0:Int)<31/\(31:Int)<1073741824:=by decide
 have a0:=Int.emod_nonneg ((m+6151*(k+1))*40692) (b:=2147483399) (by decide)
 have a1:=Int.emod_lt_of_pos ((m+6151*(k+1))*40692) s3
 refine⟨((((m+6151*(k+1))*40692%2147483399)*((m+6151*(k+1))*40692%2147483399)+((m+6151*(k+1))*40692%2147483399)/31)%2147483629)%q,?_,Int.emod_nonneg _ (by omega),Int.emod_lt_of_pos _ hq⟩;generalize hd:(m+6151*(k+1))*40692%2147483399=d at a0 a1
 have s6:(bK d||bK d)=true:=by
  have:bK d=true:=by simp! [bK,zza,zzN];omega
  rw [this];rfl
 simp! only [bF,ji] at e⊢;simp! only [e,s1,s2,s3,s4,s5,hd,s6,hq,and_self]
def sY(F:bj):Prop:=∀(ns:List Int) (k q:Int),0<=k->0<q->∃m,F "_law_pick" [ji ns,.int k,.int q]=.ok (.int m)/\0<=m/\m<q
def pM{F:bj}{i:Nat}{e:E}{ss:Ss}{env env':Sl}{p:PV}(h:aE F e env=.ok p)(he:env.set i (.val p)=env'):aS F (.cons (.set i e) ss) env=aS F ss env':=by
 rw [aS,bV,h];subst he
 rfl
def uf{F:bj}{i:Nat}{e:E}{ss:Ss}{env env':Sl}{p:PV}(h:aE F e env=.ok p)(he:env.set i (.own p)=env'):aS F (.cons (.own i e) ss) env=aS F ss env':=by
 rw [aS,bV,h];subst he
 rfl
def zm{F:bj}{i:Nat}{e:E}{ss:Ss}{env env':Sl}{xs ys:List PV}(h0:env[i]?=some (.own (.lst xs)))(h:aE F e env=.ok (.lst ys))(hl:xs.length+ys.length<=mU)(he:env.set i (.own (.lst (xs++ys)))=env'):aS F (.cons (.dQ i e) ss) env=aS F ss env':=by
 rw [aS,bV];simp! [h0,h,RZ,if_pos hl,Ry];rw [he]
def KS{F:bj}{e:E}{ss:Ss}{env:Sl}{p:PV}(h:aE F e env=.ok p):aS F (.cons (.ret e) ss) env=.ok (.rt p):=by
 rw [aS,bV,h]
 rfl
def uX{F:bj}{c:E}{a:Ss}{ss:Ss}{env:Sl}(h:aE F c env=.ok (.bl false)):aS F (.cons (.ite c a .nil) ss) env=aS F ss env:=by
 rw [aS,bV,h];simp! [RZ,Ua,zze,if_false,aS,Ry]
def AN{F:bj}{i j:Nat}{e:E}{ss:Ss}{env env':Sl}{p q:PV}(h:aE F e env=.ok (.tup [p,q]))(he:(env.set i (.val p)).set j (.val q)=env'):aS F (.cons (.rn (.two i j) e) ss) env=aS F ss env':=by
 rw [aS,bV,h];subst he
 rfl
def FP{F:bj}{s:S}{ss:Ss}{env env':Sl}(h:bV F s env=.ok (.nx env')):aS F (.cons s ss) env=aS F ss env':=by
 rw [aS,h]
 rfl
def Ju{F:bj}{d:Def}{as:List PV}{p:PV}(h1:fL d as=true)(h2:aS F d.body (d9 d as)=.ok (.rt p)):af F d as=.ok p:=by
 unfold af;rw [h1,if_pos rfl,h2]
 rfl
def au(m n:Nat):PV:=.tup (List.replicate (1+(m:Int)).toNat [PV.str (pg "0" (1+(n:Int)).toNat)]).flatten
abbrev gL:PV:=.tup [.bl false,.int 9,.int 0]
def lst(m n:Nat):Int:=if(1+(n:Int))<(1+(m:Int)) then(1+(n:Int)) else(1+(m:Int))
def Jr:af (den aO) ae [au 0 0]=.ok (.bl true):=by kernel_rfl
def Oi:af (den aO) ae [au 0 1]=.ok (.bl true):=by kernel_rfl
def Gw:af (den aO) ae [au 0 2]=.ok (.bl true):=by kernel_rfl
def Nk:af (den aO) ae [au 0 3]=.ok (.bl true):=by kernel_rfl
def JD:af (den aO) ae [au 0 4]=.ok (.bl true):=by kernel_rfl
def Il:af (den aO) ae [au 0 5]=.ok (.bl true):=by kernel_rfl
def Nc:af (den aO) ae [au 0 6]=.ok (.bl true):=by kernel_rfl
def K0:af (den aO) ae [au 0 7]=.ok (.bl true):=by kernel_rfl
def LD:af (den aO) ae [au 0 8]=.ok (.bl true):=by kernel_rfl
def L5:af (den aO) ae [au 0 9]=.ok (.bl true):=by kernel_rfl
def DZ:af (den aO) ae [au 0 10]=.ok (.bl true):=by kernel_rfl
def Ew:af (den aO) ae [au 0 11]=.ok (.bl true):=by kernel_rfl
def HK:af (den aO) ae [au 1 0]=.ok (.bl true):=by kernel_rfl
def Hi:af (den aO) ae [au 1 1]=.ok (.bl true):=by kernel_rfl
def HV:af (den aO) ae [au 1 2]=.ok (.bl true):=by kernel_rfl
def HB:af (den aO) ae [au 1 3]=.ok (.bl true):=by kernel_rfl
def GH:af (den aO) ae [au 1 4]=.ok (.bl true):=by kernel_rfl
def F9:af (den aO) ae [au 1 5]=.ok (.bl true):=by kernel_rfl
def Iq:af (den aO) ae [au 1 6]=.ok (.bl true):=by kernel_rfl
def MF:af (den aO) ae [au 1 7]=.ok (.bl true):=by kernel_rfl
def Ow:af (den aO) ae [au 1 8]=.ok (.bl true):=by kernel_rfl
def IX:af (den aO) ae [au 1 9]=.ok (.bl true):=by kernel_rfl
def Ed:af (den aO) ae [au 1 10]=.ok (.bl true):=by kernel_rfl
def D8:af (den aO) ae [au 1 11]=.ok (.bl true):=by kernel_rfl
def Lr:af (den aO) ae [au 2 0]=.ok (.bl true):=by kernel_rfl
def JW:af (den aO) ae [au 2 1]=.ok (.bl true):=by kernel_rfl
def HE:af (den aO) ae [au 2 2]=.ok (.bl true):=by kernel_rfl
def Ly:af (den aO) ae [au 2 3]=.ok (.bl true):=by kernel_rfl
def Lx:af (den aO) ae [au 2 4]=.ok (.bl true):=by kernel_rfl
def LV:af (den aO) ae [au 2 5]=.ok (.bl true):=by kernel_rfl
def NX:af (den aO) ae [au 2 6]=.ok (.bl true):=by kernel_rfl
def Ga:af (den aO) ae [au 2 7]=.ok (.bl true):=by kernel_rfl
def Hm:af (den aO) ae [au 2 8]=.ok (.bl true):=by kernel_rfl
def Kw:af (den aO) ae [au 2 9]=.ok (.bl true):=by kernel_rfl
def Du:af (den aO) ae [au 2 10]=.ok (.bl true):=by kernel_rfl
def Dq:af (den aO) ae [au 2 11]=.ok (.bl true):=by kernel_rfl
def Jy:af (den aO) ae [au 3 0]=.ok (.bl true):=by kernel_rfl
def Ir:af (den aO) ae [au 3 1]=.ok (.bl true):=by kernel_rfl
def Np:af (den aO) ae [au 3 2]=.ok (.bl true):=by kernel_rfl
def JL:af (den aO) ae [au 3 3]=.ok (.bl true):=by kernel_rfl
def OB:af (den aO) ae [au 3 4]=.ok (.bl true):=by kernel_rfl
def J7:af (den aO) ae [au 3 5]=.ok (.bl true):=by kernel_rfl
def Hc:af (den aO) ae [au 3 6]=.ok (.bl true):=by kernel_rfl
def ON:af (den aO) ae [au 3 7]=.ok (.bl true):=by kernel_rfl
def Iu:af (den aO) ae [au 3 8]=.ok (.bl true):=by kernel_rfl
def LN:af (den aO) ae [au 3 9]=.ok (.bl true):=by kernel_rfl
def Ce:af (den aO) ae [au 3 10]=.ok (.bl true):=by kernel_rfl
def De:af (den aO) ae [au 3 11]=.ok (.bl true):=by kernel_rfl
def J4:af (den aO) ae [au 4 0]=.ok (.bl true):=by kernel_rfl
def JF:af (den aO) ae [au 4 1]=.ok (.bl true):=by kernel_rfl
def L6:af (den aO) ae [au 4 2]=.ok (.bl true):=by kernel_rfl
def Mu:af (den aO) ae [au 4 3]=.ok (.bl true):=by kernel_rfl
def LX:af (den aO) ae [au 4 4]=.ok (.bl true):=by kernel_rfl
def Ic:af (den aO) ae [au 4 5]=.ok (.bl true):=by kernel_rfl
def M8:af (den aO) ae [au 4 6]=.ok (.bl true):=by kernel_rfl
def Jw:af (den aO) ae [au 4 7]=.ok (.bl true):=by kernel_rfl
def Nd:af (den aO) ae [au 4 8]=.ok (.bl true):=by kernel_rfl
def Gn:af (den aO) ae [au 4 9]=.ok (.bl true):=by kernel_rfl
def Fi:af (den aO) ae [au 4 10]=.ok (.bl true):=by kernel_rfl
def EI:af (den aO) ae [au 4 11]=.ok (.bl true):=by kernel_rfl
def NC:af (den aO) ae [au 5 0]=.ok (.bl true):=by kernel_rfl
def Mv:af (den aO) ae [au 5 1]=.ok (.bl true):=by kernel_rfl
def JG:af (den aO) ae [au 5 2]=.ok (.bl true):=by kernel_rfl
def HH:af (den aO) ae [au 5 3]=.ok (.bl true):=by kernel_rfl
def IE:af (den aO) ae [au 5 4]=.ok (.bl true):=by kernel_rfl
def LF:af (den aO) ae [au 5 5]=.ok (.bl true):=by kernel_rfl
def Mz:af (den aO) ae [au 5 6]=.ok (.bl true):=by kernel_rfl
def NS:af (den aO) ae [au 5 7]=.ok (.bl true):=by kernel_rfl
def ND:af (den aO) ae [au 5 8]=.ok (.bl true):=by kernel_rfl
def Je:af (den aO) ae [au 5 9]=.ok (.bl true):=by kernel_rfl
def Dv:af (den aO) ae [au 5 10]=.ok (.bl true):=by kernel_rfl
def EX:af (den aO) ae [au 5 11]=.ok (.bl true):=by kernel_rfl
def KD:af (den aO) ae [au 6 0]=.ok (.bl true):=by kernel_rfl
def Kc:af (den aO) ae [au 6 1]=.ok (.bl true):=by kernel_rfl
def ID:af (den aO) ae [au 6 2]=.ok (.bl true):=by kernel_rfl
def Lf:af (den aO) ae [au 6 3]=.ok (.bl true):=by kernel_rfl
def K6:af (den aO) ae [au 6 4]=.ok (.bl true):=by kernel_rfl
def Ke:af (den aO) ae [au 6 5]=.ok (.bl true):=by kernel_rfl
def Mk:af (den aO) ae [au 6 6]=.ok (.bl true):=by kernel_rfl
def K9:af (den aO) ae [au 6 7]=.ok (.bl true):=by kernel_rfl
def Jb:af (den aO) ae [au 6 8]=.ok (.bl true):=by kernel_rfl
def Oq:af (den aO) ae [au 6 9]=.ok (.bl true):=by kernel_rfl
def DM:af (den aO) ae [au 6 10]=.ok (.bl true):=by kernel_rfl
def Eu:af (den aO) ae [au 6 11]=.ok (.bl true):=by kernel_rfl
def Lw:af (den aO) ae [au 7 0]=.ok (.bl true):=by kernel_rfl
def HW:af (den aO) ae [au 7 1]=.ok (.bl true):=by kernel_rfl
def Oz:af (den aO) ae [au 7 2]=.ok (.bl true):=by kernel_rfl
def MI:af (den aO) ae [au 7 3]=.ok (.bl true):=by kernel_rfl
def Jk:af (den aO) ae [au 7 4]=.ok (.bl true):=by kernel_rfl
def IQ:af (den aO) ae [au 7 5]=.ok (.bl true):=by kernel_rfl
def OD:af (den aO) ae [au 7 6]=.ok (.bl true):=by kernel_rfl
def OG:af (den aO) ae [au 7 7]=.ok (.bl true):=by kernel_rfl
def IU:af (den aO) ae [au 7 8]=.ok (.bl true):=by kernel_rfl
def JO:af (den aO) ae [au 7 9]=.ok (.bl true):=by kernel_rfl
def Dy:af (den aO) ae [au 7 10]=.ok (.bl true):=by kernel_rfl
def Fb:af (den aO) ae [au 7 11]=.ok (.bl true):=by kernel_rfl
def JZ:af (den aO) ae [au 8 0]=.ok (.bl true):=by kernel_rfl
def Og:af (den aO) ae [au 8 1]=.ok (.bl true):=by kernel_rfl
def JA:af (den aO) ae [au 8 2]=.ok (.bl true):=by kernel_rfl
def Kx:af (den aO) ae [au 8 3]=.ok (.bl true):=by kernel_rfl
def G7:af (den aO) ae [au 8 4]=.ok (.bl true):=by kernel_rfl
def G9:af (den aO) ae [au 8 5]=.ok (.bl true):=by kernel_rfl
def GY:af (den aO) ae [au 8 6]=.ok (.bl true):=by kernel_rfl
def LO:af (den aO) ae [au 8 7]=.ok (.bl true):=by kernel_rfl
def N2:af (den aO) ae [au 8 8]=.ok (.bl true):=by kernel_rfl
def L0:af (den aO) ae [au 8 9]=.ok (.bl true):=by kernel_rfl
def Dx:af (den aO) ae [au 8 10]=.ok (.bl true):=by kernel_rfl
def Cp:af (den aO) ae [au 8 11]=.ok (.bl true):=by kernel_rfl
def Lp:af (den aO) ae [au 9 0]=.ok (.bl true):=by kernel_rfl
def Na:af (den aO) ae [au 9 1]=.ok (.bl true):=by kernel_rfl
def LJ:af (den aO) ae [au 9 2]=.ok (.bl true):=by kernel_rfl
def KQ:af (den aO) ae [au 9 3]=.ok (.bl true):=by kernel_rfl
def Hx:af (den aO) ae [au 9 4]=.ok (.bl true):=by kernel_rfl
def Kt:af (den aO) ae [au 9 5]=.ok (.bl true):=by kernel_rfl
def MS:af (den aO) ae [au 9 6]=.ok (.bl true):=by kernel_rfl
def M4:af (den aO) ae [au 9 7]=.ok (.bl true):=by kernel_rfl
def Ib:af (den aO) ae [au 9 8]=.ok (.bl true):=by kernel_rfl
def GU:af (den aO) ae [au 9 9]=.ok (.bl true):=by kernel_rfl
def CM:af (den aO) ae [au 9 10]=.ok (.bl true):=by kernel_rfl
def Dg:af (den aO) ae [au 9 11]=.ok (.bl true):=by kernel_rfl
def E4:af (den aO) ae [au 10 0]=.ok (.bl true):=by kernel_rfl
def EO:af (den aO) ae [au 10 1]=.ok (.bl true):=by kernel_rfl
def DC:af (den aO) ae [au 10 2]=.ok (.bl true):=by kernel_rfl
def Ec:af (den aO) ae [au 10 3]=.ok (.bl true):=by kernel_rfl
def E7:af (den aO) ae [au 10 4]=.ok (.bl true):=by kernel_rfl
def DA:af (den aO) ae [au 10 5]=.ok (.bl true):=by kernel_rfl
def DB:af (den aO) ae [au 10 6]=.ok (.bl true):=by kernel_rfl
def Cg:af (den aO) ae [au 10 7]=.ok (.bl true):=by kernel_rfl
def EL:af (den aO) ae [au 10 8]=.ok (.bl true):=by kernel_rfl
def EW:af (den aO) ae [au 10 9]=.ok (.bl true):=by kernel_rfl
def Am:af (den aO) ae [au 10 10]=.ok (.bl true):=by kernel_rfl
def zA:af (den aO) ae [au 10 11]=.ok (.bl true):=by kernel_rfl
def En:af (den aO) ae [au 11 0]=.ok (.bl true):=by kernel_rfl
def Fn:af (den aO) ae [au 11 1]=.ok (.bl true):=by kernel_rfl
def Cq:af (den aO) ae [au 11 2]=.ok (.bl true):=by kernel_rfl
def C7:af (den aO) ae [au 11 3]=.ok (.bl true):=by kernel_rfl
def DL:af (den aO) ae [au 11 4]=.ok (.bl true):=by kernel_rfl
def DR:af (den aO) ae [au 11 5]=.ok (.bl true):=by kernel_rfl
def Ck:af (den aO) ae [au 11 6]=.ok (.bl true):=by kernel_rfl
def DN:af (den aO) ae [au 11 7]=.ok (.bl true):=by kernel_rfl
def Fe:af (den aO) ae [au 11 8]=.ok (.bl true):=by kernel_rfl
def Fh:af (den aO) ae [au 11 9]=.ok (.bl true):=by kernel_rfl
def zL:af (den aO) ae [au 11 10]=.ok (.bl true):=by kernel_rfl
def yJ:af (den aO) ae [au 11 11]=.ok (.bl true):=by kernel_rfl
def kF{m n:Nat}(hm:m<12)(hn:n<12):af (den aO) ae [au m n]=.ok (.bl true):=by
 match m,n,hm,hn with
 |0,0,_,_=>exact Jr
 |0,1,_,_=>exact Oi
 |0,2,_,_=>exact Gw
 |0,3,_,_=>exact Nk
 |0,4,_,_=>exact JD
 |0,5,_,_=>exact Il
 |0,6,_,_=>exact Nc
 |0,7,_,_=>exact K0
 |0,8,_,_=>exact LD
 |0,9,_,_=>exact L5
 |0,10,_,_=>exact DZ
 |0,11,_,_=>exact Ew
 |1,0,_,_=>exact HK
 |1,1,_,_=>exact Hi
 |1,2,_,_=>exact HV
 |1,3,_,_=>exact HB
 |1,4,_,_=>exact GH
 |1,5,_,_=>exact F9
 |1,6,_,_=>exact Iq
 |1,7,_,_=>exact MF
 |1,8,_,_=>exact Ow
 |1,9,_,_=>exact IX
 |1,10,_,_=>exact Ed
 |1,11,_,_=>exact D8
 |2,0,_,_=>exact Lr
 |2,1,_,_=>exact JW
 |2,2,_,_=>exact HE
 |2,3,_,_=>exact Ly
 |2,4,_,_=>exact Lx
 |2,5,_,_=>exact LV
 |2,6,_,_=>exact NX
 |2,7,_,_=>exact Ga
 |2,8,_,_=>exact Hm
 |2,9,_,_=>exact Kw
 |2,10,_,_=>exact Du
 |2,11,_,_=>exact Dq
 |3,0,_,_=>exact Jy
 |3,1,_,_=>exact Ir
 |3,2,_,_=>exact Np
 |3,3,_,_=>exact JL
 |3,4,_,_=>exact OB
 |3,5,_,_=>exact J7
 |3,6,_,_=>exact Hc
 |3,7,_,_=>exact ON
 |3,8,_,_=>exact Iu
 |3,9,_,_=>exact LN
 |3,10,_,_=>exact Ce
 |3,11,_,_=>exact De
 |4,0,_,_=>exact J4
 |4,1,_,_=>exact JF
 |4,2,_,_=>exact L6
 |4,3,_,_=>exact Mu
 |4,4,_,_=>exact LX
 |4,5,_,_=>exact Ic
 |4,6,_,_=>exact M8
 |4,7,_,_=>exact Jw
 |4,8,_,_=>exact Nd
 |4,9,_,_=>exact Gn
 |4,10,_,_=>exact Fi
 |4,11,_,_=>exact EI
 |5,0,_,_=>exact NC
 |5,1,_,_=>exact Mv
 |5,2,_,_=>exact JG
 |5,3,_,_=>exact HH
 |5,4,_,_=>exact IE
 |5,5,_,_=>exact LF
 |5,6,_,_=>exact Mz
 |5,7,_,_=>exact NS
 |5,8,_,_=>exact ND
 |5,9,_,_=>exact Je
 |5,10,_,_=>exact Dv
 |5,11,_,_=>exact EX
 |6,0,_,_=>exact KD
 |6,1,_,_=>exact Kc
 |6,2,_,_=>exact ID
 |6,3,_,_=>exact Lf
 |6,4,_,_=>exact K6
 |6,5,_,_=>exact Ke
 |6,6,_,_=>exact Mk
 |6,7,_,_=>exact K9
 |6,8,_,_=>exact Jb
 |6,9,_,_=>exact Oq
 |6,10,_,_=>exact DM
 |6,11,_,_=>exact Eu
 |7,0,_,_=>exact Lw
 |7,1,_,_=>exact HW
 |7,2,_,_=>exact Oz
 |7,3,_,_=>exact MI
 |7,4,_,_=>exact Jk
 |7,5,_,_=>exact IQ
 |7,6,_,_=>exact OD
 |7,7,_,_=>exact OG
 |7,8,_,_=>exact IU
 |7,9,_,_=>exact JO
 |7,10,_,_=>exact Dy
 |7,11,_,_=>exact Fb
 |8,0,_,_=>exact JZ
 |8,1,_,_=>exact Og
 |8,2,_,_=>exact JA
 |8,3,_,_=>exact Kx
 |8,4,_,_=>exact G7
 |8,5,_,_=>exact G9
 |8,6,_,_=>exact GY
 |8,7,_,_=>exact LO
 |8,8,_,_=>exact N2
 |8,9,_,_=>exact L0
 |8,10,_,_=>exact Dx
 |8,11,_,_=>exact Cp
 |9,0,_,_=>exact Lp
 |9,1,_,_=>exact Na
 |9,2,_,_=>exact LJ
 |9,3,_,_=>exact KQ
 |9,4,_,_=>exact Hx
 |9,5,_,_=>exact Kt
 |9,6,_,_=>exact MS
 |9,7,_,_=>exact M4
 |9,8,_,_=>exact Ib
 |9,9,_,_=>exact GU
 |9,10,_,_=>exact CM
 |9,11,_,_=>exact Dg
 |10,0,_,_=>exact E4
 |10,1,_,_=>exact EO
 |10,2,_,_=>exact DC
 |10,3,_,_=>exact Ec
 |10,4,_,_=>exact E7
 |10,5,_,_=>exact DA
 |10,6,_,_=>exact DB
 |10,7,_,_=>exact Cg
 |10,8,_,_=>exact EL
 |10,9,_,_=>exact EW
 |10,10,_,_=>exact Am
 |10,11,_,_=>exact zA
 |11,0,_,_=>exact En
 |11,1,_,_=>exact Fn
 |11,2,_,_=>exact Cq
 |11,3,_,_=>exact C7
 |11,4,_,_=>exact DL
 |11,5,_,_=>exact DR
 |11,6,_,_=>exact Ck
 |11,7,_,_=>exact DN
 |11,8,_,_=>exact Fe
 |11,9,_,_=>exact Fh
 |11,10,_,_=>exact zL
 |11,11,_,_=>exact yJ
def KI:af (den iI) aG [au 0 0,gL,.int 12]=.ok (.lst []):=by kernel_rfl
def HZ:af (den iI) aG [au 0 1,gL,.int 12]=.ok (.lst []):=by kernel_rfl
def K3:af (den iI) aG [au 0 2,gL,.int 12]=.ok (.lst []):=by kernel_rfl
def JP:af (den iI) aG [au 0 3,gL,.int 12]=.ok (.lst []):=by kernel_rfl
def Le:af (den iI) aG [au 0 4,gL,.int 12]=.ok (.lst []):=by kernel_rfl
def Mx:af (den iI) aG [au 1 0,gL,.int 12]=.ok (.lst []):=by kernel_rfl
def Lm:af (den iI) aG [au 1 1,gL,.int 12]=.ok (.lst []):=by kernel_rfl
def MR:af (den iI) aG [au 1 2,gL,.int 12]=.ok (.lst []):=by kernel_rfl
def Lc:af (den iI) aG [au 1 3,gL,.int 12]=.ok (.lst []):=by kernel_rfl
def LZ:af (den iI) aG [au 1 4,gL,.int 12]=.ok (.lst []):=by kernel_rfl
def Of:af (den iI) aG [au 2 0,gL,.int 12]=.ok (.lst []):=by kernel_rfl
def Gk:af (den iI) aG [au 2 1,gL,.int 12]=.ok (.lst []):=by kernel_rfl
def MQ:af (den iI) aG [au 2 2,gL,.int 12]=.ok (.lst []):=by kernel_rfl
def Kj:af (den iI) aG [au 2 3,gL,.int 12]=.ok (.lst []):=by kernel_rfl
def N7:af (den iI) aG [au 2 4,gL,.int 12]=.ok (.lst []):=by kernel_rfl
def GV:af (den iI) aG [au 3 0,gL,.int 12]=.ok (.lst []):=by kernel_rfl
def Hg:af (den iI) aG [au 3 1,gL,.int 12]=.ok (.lst []):=by kernel_rfl
def LA:af (den iI) aG [au 3 2,gL,.int 12]=.ok (.lst []):=by kernel_rfl
def LW:af (den iI) aG [au 3 3,gL,.int 12]=.ok (.lst []):=by kernel_rfl
def NP:af (den iI) aG [au 3 4,gL,.int 12]=.ok (.lst []):=by kernel_rfl
def MA:af (den iI) aG [au 4 0,gL,.int 12]=.ok (.lst []):=by kernel_rfl
def Nv:af (den iI) aG [au 4 1,gL,.int 12]=.ok (.lst []):=by kernel_rfl
def KL:af (den iI) aG [au 4 2,gL,.int 12]=.ok (.lst []):=by kernel_rfl
def Hl:af (den iI) aG [au 4 3,gL,.int 12]=.ok (.lst []):=by kernel_rfl
def Gv:af (den iI) aG [au 4 4,gL,.int 12]=.ok (.lst []):=by kernel_rfl
def kG{m n:Nat}(hm:m<5)(hn:n<5):af (den iI) aG [au m n,gL,.int 12]=.ok (.lst []):=by
 match m,n,hm,hn with
 |0,0,_,_=>exact KI
 |0,1,_,_=>exact HZ
 |0,2,_,_=>exact K3
 |0,3,_,_=>exact JP
 |0,4,_,_=>exact Le
 |1,0,_,_=>exact Mx
 |1,1,_,_=>exact Lm
 |1,2,_,_=>exact MR
 |1,3,_,_=>exact Lc
 |1,4,_,_=>exact LZ
 |2,0,_,_=>exact Of
 |2,1,_,_=>exact Gk
 |2,2,_,_=>exact MQ
 |2,3,_,_=>exact Kj
 |2,4,_,_=>exact N7
 |3,0,_,_=>exact GV
 |3,1,_,_=>exact Hg
 |3,2,_,_=>exact LA
 |3,3,_,_=>exact LW
 |3,4,_,_=>exact NP
 |4,0,_,_=>exact MA
 |4,1,_,_=>exact Nv
 |4,2,_,_=>exact KL
 |4,3,_,_=>exact Hl
 |4,4,_,_=>exact Gv
def OH:af (den jk) ay [au 0 0,sp 0 0]=.ok (.int (lst 0 0)):=by kernel_rfl
def Kr:af (den jk) ay [au 0 1,sp 0 0]=.ok (.int (lst 0 1)):=by kernel_rfl
def OP:af (den jk) ay [au 0 2,sp 0 0]=.ok (.int (lst 0 2)):=by kernel_rfl
def Ot:af (den jk) ay [au 0 3,sp 0 0]=.ok (.int (lst 0 3)):=by kernel_rfl
def NL:af (den jk) ay [au 0 4,sp 0 0]=.ok (.int (lst 0 4)):=by kernel_rfl
def JR:af (den jk) ay [au 1 0,sp 0 0]=.ok (.int (lst 1 0)):=by kernel_rfl
def HG:af (den jk) ay [au 1 1,sp 0 0]=.ok (.int (lst 1 1)):=by kernel_rfl
def JC:af (den jk) ay [au 1 2,sp 0 0]=.ok (.int (lst 1 2)):=by kernel_rfl
def Ip:af (den jk) ay [au 1 3,sp 0 0]=.ok (.int (lst 1 3)):=by kernel_rfl
def Me:af (den jk) ay [au 1 4,sp 0 0]=.ok (.int (lst 1 4)):=by kernel_rfl
def Jv:af (den jk) ay [au 2 0,sp 0 0]=.ok (.int (lst 2 0)):=by kernel_rfl
def GC:af (den jk) ay [au 2 1,sp 0 0]=.ok (.int (lst 2 1)):=by kernel_rfl
def Gp:af (den jk) ay [au 2 2,sp 0 0]=.ok (.int (lst 2 2)):=by kernel_rfl
def GD:af (den jk) ay [au 2 3,sp 0 0]=.ok (.int (lst 2 3)):=by kernel_rfl
def IS:af (den jk) ay [au 2 4,sp 0 0]=.ok (.int (lst 2 4)):=by kernel_rfl
def IH:af (den jk) ay [au 3 0,sp 0 0]=.ok (.int (lst 3 0)):=by kernel_rfl
def Kq:af (den jk) ay [au 3 1,sp 0 0]=.ok (.int (lst 3 1)):=by kernel_rfl
def Ou:af (den jk) ay [au 3 2,sp 0 0]=.ok (.int (lst 3 2)):=by kernel_rfl
def MB:af (den jk) ay [au 3 3,sp 0 0]=.ok (.int (lst 3 3)):=by kernel_rfl
def Mq:af (den jk) ay [au 3 4,sp 0 0]=.ok (.int (lst 3 4)):=by kernel_rfl
def G6:af (den jk) ay [au 4 0,sp 0 0]=.ok (.int (lst 4 0)):=by kernel_rfl
def Mm:af (den jk) ay [au 4 1,sp 0 0]=.ok (.int (lst 4 1)):=by kernel_rfl
def Ob:af (den jk) ay [au 4 2,sp 0 0]=.ok (.int (lst 4 2)):=by kernel_rfl
def Ij:af (den jk) ay [au 4 3,sp 0 0]=.ok (.int (lst 4 3)):=by kernel_rfl
def Ia:af (den jk) ay [au 4 4,sp 0 0]=.ok (.int (lst 4 4)):=by kernel_rfl
def kC{m n:Nat}(hm:m<5)(hn:n<5):af (den jk) ay [au m n,sp 0 0]=.ok (.int (lst m n)):=by
 match m,n,hm,hn with
 |0,0,_,_=>exact OH
 |0,1,_,_=>exact Kr
 |0,2,_,_=>exact OP
 |0,3,_,_=>exact Ot
 |0,4,_,_=>exact NL
 |1,0,_,_=>exact JR
 |1,1,_,_=>exact HG
 |1,2,_,_=>exact JC
 |1,3,_,_=>exact Ip
 |1,4,_,_=>exact Me
 |2,0,_,_=>exact Jv
 |2,1,_,_=>exact GC
 |2,2,_,_=>exact Gp
 |2,3,_,_=>exact GD
 |2,4,_,_=>exact IS
 |3,0,_,_=>exact IH
 |3,1,_,_=>exact Kq
 |3,2,_,_=>exact Ou
 |3,3,_,_=>exact MB
 |3,4,_,_=>exact Mq
 |4,0,_,_=>exact G6
 |4,1,_,_=>exact Mm
 |4,2,_,_=>exact Ob
 |4,3,_,_=>exact Ij
 |4,4,_,_=>exact Ia
def Oa:af (den c6) av [au 0 0,.int 1]=.ok (au 0 0):=by kernel_rfl
def KP:af (den c6) av [au 0 1,.int 1]=.ok (au 0 1):=by kernel_rfl
def Nz:af (den c6) av [au 0 2,.int 1]=.ok (au 0 2):=by kernel_rfl
def NT:af (den c6) av [au 0 3,.int 1]=.ok (au 0 3):=by kernel_rfl
def Hv:af (den c6) av [au 0 4,.int 1]=.ok (au 0 4):=by kernel_rfl
def GN:af (den c6) av [au 1 0,.int 1]=.ok (au 1 0):=by kernel_rfl
def N8:af (den c6) av [au 1 1,.int 1]=.ok (au 1 1):=by kernel_rfl
def H9:af (den c6) av [au 1 2,.int 1]=.ok (au 1 2):=by kernel_rfl
def J6:af (den c6) av [au 1 3,.int 1]=.ok (au 1 3):=by kernel_rfl
def He:af (den c6) av [au 1 4,.int 1]=.ok (au 1 4):=by kernel_rfl
def LL:af (den c6) av [au 2 0,.int 1]=.ok (au 2 0):=by kernel_rfl
def OA:af (den c6) av [au 2 1,.int 1]=.ok (au 2 1):=by kernel_rfl
def Kk:af (den c6) av [au 2 2,.int 1]=.ok (au 2 2):=by kernel_rfl
def L9:af (den c6) av [au 2 3,.int 1]=.ok (au 2 3):=by kernel_rfl
def LP:af (den c6) av [au 2 4,.int 1]=.ok (au 2 4):=by kernel_rfl
def Iv:af (den c6) av [au 3 0,.int 1]=.ok (au 3 0):=by kernel_rfl
def Lb:af (den c6) av [au 3 1,.int 1]=.ok (au 3 1):=by kernel_rfl
def NU:af (den c6) av [au 3 2,.int 1]=.ok (au 3 2):=by kernel_rfl
def OL:af (den c6) av [au 3 3,.int 1]=.ok (au 3 3):=by kernel_rfl
def Ho:af (den c6) av [au 3 4,.int 1]=.ok (au 3 4):=by kernel_rfl
def Nl:af (den c6) av [au 4 0,.int 1]=.ok (au 4 0):=by kernel_rfl
def NO:af (den c6) av [au 4 1,.int 1]=.ok (au 4 1):=by kernel_rfl
def NA:af (den c6) av [au 4 2,.int 1]=.ok (au 4 2):=by kernel_rfl
def JX:af (den c6) av [au 4 3,.int 1]=.ok (au 4 3):=by kernel_rfl
def JT:af (den c6) av [au 4 4,.int 1]=.ok (au 4 4):=by kernel_rfl
def kS{m n:Nat}(hm:m<5)(hn:n<5):af (den c6) av [au m n,.int 1]=.ok (au m n):=by
 match m,n,hm,hn with
 |0,0,_,_=>exact Oa
 |0,1,_,_=>exact KP
 |0,2,_,_=>exact Nz
 |0,3,_,_=>exact NT
 |0,4,_,_=>exact Hv
 |1,0,_,_=>exact GN
 |1,1,_,_=>exact N8
 |1,2,_,_=>exact H9
 |1,3,_,_=>exact J6
 |1,4,_,_=>exact He
 |2,0,_,_=>exact LL
 |2,1,_,_=>exact OA
 |2,2,_,_=>exact Kk
 |2,3,_,_=>exact L9
 |2,4,_,_=>exact LP
 |3,0,_,_=>exact Iv
 |3,1,_,_=>exact Lb
 |3,2,_,_=>exact NU
 |3,3,_,_=>exact OL
 |3,4,_,_=>exact Ho
 |4,0,_,_=>exact Nl
 |4,1,_,_=>exact NO
 |4,2,_,_=>exact NA
 |4,3,_,_=>exact JX
 |4,4,_,_=>exact JT
def B2:Ss->Ss
 |.cons _ r=>r
 |.nil=>.nil
def B4:S->E
 |.ite c _ _=>c
 |_=>.cst .aK
def cN:S->E
 |.set _ e=>e
 |.own _ e=>e
 |.dQ _ e=>e
 |.ret e=>e
 |.rn _ e=>e
 |_=>.cst .aK
def VQ:E->E
 |.or a _=>a
 |e=>e
def Wi:E->E
 |.or _ b=>b
 |e=>e
noncomputable def gR(e:E):List PV:=match aE (λ_ _=>.bad) e [] with
 |.ok (.lst xs)=>xs
 |_=>[]
def Qs{F:bj}{a b:E}{env:Sl}(h1:aE F a env=.ok (.bl false))(h2:aE F b env=.ok (.bl false)):aE F (.or a b) env=.ok (.bl false):=by
 rw [aE,h1];exact h2
def q0:S:=(.ite (.or (.not (.call "_law_are_ways_told" (.cons (.var 0) .nil))) (.not (.call "_law_are_two_told" (.cons (.var 0) .nil)))) (.cons (.ret (.cst (.bl false))) .nil) .nil)
noncomputable def q1:S:=(.rn (.two 1 2) (.tup (.cons (.bin .add (.cst (.int 1)) (.call "_law_pick" (.cons (.var 0) (.cons (.cst (.int 1)) (.cons (.cst (.int 12)) .nil))))) (.cons (.bin .add (.cst (.int 1)) (.call "_law_pick" (.cons (.var 0) (.cons (.cst (.int 2)) (.cons (.cst (.int 12)) .nil))))) .nil))))
def q2:S:=(.set 3 (.bin .mul (.tup (.cons (.bin .mul (.cst (.str "0")) (.var 2)) .nil)) (.var 1)))
noncomputable def q3:S:=(.own 4 (.lst (.cons (.tup .nil) (.cons (.tup (.cons (.bin .mul (.cst (.str "0")) (.cst (.int 13))) .nil)) (.cons (.bin .mul (.tup (.cons (.cst (.str "0")) .nil)) (.cst (.int 13))) (.cons (.tup (.cons (.cst (.str "")) .nil)) (.cons (.tup (.cons (.cst (.str "0")) (.cons (.cst (.str "00")) .nil))) (.cons (.lst (.cons (.cst (.str "0")) .nil)) (.cons (.tup (.cons (.cst (.str "a")) .nil)) (.cons (.tup (.cons (.cst (.str "0 ")) .nil)) (.cons (.tup (.cons (.cst (.int 0)) .nil)) (.cons (.cst .aK) (.cons (.cst (.str "0")) (.cons (.tup (.cons (.cst (.str "0")) (.cons (.cst .aK) .nil))) .nil))))))))))))))
noncomputable def q4:S:=(.ite (.or (.cmp .xV (.call "is_floor" (.cons (.var 3) .nil)) (.cst (.bl true))) (.cmp .ne (.comp 1 [] (.one 0) (.seq (.kP 4)) (.call "is_floor" (.cons (.var 0) .nil))) (.bin .mul (.lst (.cons (.cst (.bl false)) .nil)) (.cst (.int 12))))) (.cons (.ret (.cst (.bl false))) .nil) .nil)
noncomputable def q5:S:=(.set 5 (.lst (.cons (.tup (.cons (.cst (.bl true)) (.cons (.cst (.int 0)) (.cons (.cst (.int 0)) .nil)))) (.cons (.tup (.cons (.cst (.bl false)) (.cons (.cst (.int 9)) (.cons (.cst (.int 3)) .nil)))) .nil))))
noncomputable def q6:S:=(.own 4 (.lst (.cons (.tup (.cons (.cst (.bl true)) (.cons (.cst (.int 10)) (.cons (.cst (.int 0)) .nil)))) (.cons (.tup (.cons (.cst (.bl true)) (.cons (.neg (.cst (.int 1))) (.cons (.cst (.int 0)) .nil)))) (.cons (.tup (.cons (.cst (.bl true)) (.cons (.cst (.int 0)) (.cons (.cst (.int 4)) .nil)))) (.cons (.tup (.cons (.cst (.bl true)) (.cons (.cst (.int 0)) (.cons (.neg (.cst (.int 1))) .nil)))) (.cons (.tup (.cons (.cst (.int 1)) (.cons (.cst (.int 0)) (.cons (.cst (.int 0)) .nil)))) (.cons (.tup (.cons (.cst (.bl true)) (.cons (.cst (.bl false)) (.cons (.cst (.int 0)) .nil)))) .nil))))))))
def q7:S:=(.dQ 4 (.lst (.cons (.tup (.cons (.cst (.bl true)) (.cons (.cst (.int 0)) (.cons (.cst (.bl true)) .nil)))) (.cons (.tup (.cons (.cst (.bl true)) (.cons (.cst (.int 0)) .nil))) .nil))))
noncomputable def q8:S:=(.dQ 4 (.lst (.cons (.lst (.cons (.cst (.bl true)) (.cons (.cst (.int 0)) (.cons (.cst (.int 0)) .nil)))) (.cons (.cst .aK) (.cons (.tup (.cons (.cst .aK) (.cons (.cst (.int 0)) (.cons (.cst (.int 0)) .nil)))) (.cons (.tup (.cons (.cst (.bl true)) (.cons (.cst .aK) (.cons (.cst (.int 0)) .nil)))) (.cons (.tup (.cons (.cst (.bl true)) (.cons (.cst (.int 0)) (.cons (.cst (.int 0)) (.cons (.cst (.int 0)) .nil))))) (.cons (.tup (.cons (.cst (.bl true)) (.cons (.cst (.str "1")) (.cons (.cst (.int 0)) .nil)))) .nil))))))))
noncomputable def q9:S:=(.ite (.cmp .ne (.comp 1 [] (.one 0) (.seq (.bin .add (.var 5) (.kP 4))) (.call "is_walker" (.cons (.var 0) .nil))) (.bin .add (.bin .mul (.lst (.cons (.cst (.bl true)) .nil)) (.cst (.int 2))) (.bin .mul (.lst (.cons (.cst (.bl false)) .nil)) (.cst (.int 14))))) (.cons (.ret (.cst (.bl false))) .nil) .nil)
noncomputable def UB:S:=(.rn (.two 1 2) (.tup (.cons (.bin .add (.cst (.int 1)) (.call "_law_pick" (.cons (.var 0) (.cons (.cst (.int 3)) (.cons (.cst (.int 5)) .nil))))) (.cons (.bin .add (.cst (.int 1)) (.call "_law_pick" (.cons (.var 0) (.cons (.cst (.int 4)) (.cons (.cst (.int 5)) .nil))))) .nil))))
def Sz:S:=(.set 3 (.bin .mul (.tup (.cons (.bin .mul (.cst (.str "0")) (.var 2)) .nil)) (.var 1)))
noncomputable def Vr:S:=(.eA (.one 6) (.seq (.tup (.cons (.cst (.int 0)) (.cons (.cst (.int 13)) (.cons (.neg (.cst (.int 1))) .nil))))) (.cons (.ite (.cmp .ne (.comp 1 [6,3] (.one 0) (.mi (.cst (.int 3))) (.call "_law_do" (.cons (.var 0) (.cons (.var 2) (.cons (.var 1) .nil))))) (.bin .mul (.lst (.cons (.cst (.str "no size")) .nil)) (.cst (.int 3)))) (.cons (.ret (.cst (.bl false))) .nil) .nil) .nil))
noncomputable def TR:S:=(.ite (.or (.cmp .ne (.call "_law_do" (.cons (.cst (.int 0)) (.cons (.var 3) (.cons (.cst (.int 12)) .nil)))) (.lst .nil)) (.or (.cmp .ne (.call "_law_do" (.cons (.cst (.int 1)) (.cons (.var 3) (.cons (.cst (.int 12)) .nil)))) (.lst .nil)) (.cmp .ne (.call "clearance" (.cons (.var 3) (.cons (.tup (.cons (.cst (.int 0)) (.cons (.cst (.int 0)) .nil))) .nil))) (.blt .min2 (.cons (.var 1) (.cons (.var 2) .nil)))))) (.cons (.ret (.cst (.bl false))) .nil) .nil)
def Sx:S:=(.set 7 (.blt .min2 (.cons (.var 1) (.cons (.var 2) .nil))))
def UT:S:=(.own 8 (.lst .nil))
noncomputable def jz:S:=(.eA (.one 9) (.mi (.var 1)) (.cons (.app 8 (.B6 .join (.cst (.str "")) (.cons (.comp 1 [2,9,7,1] (.one 0) (.mi (.var 2)) (.ite (.cmp .ge (.blt .min2 (.cons (.bin .sub (.var 4) (.var 2)) (.cons (.bin .sub (.var 1) (.var 0)) .nil))) (.var 3)) (.cst (.str "0")) (.cst (.str "#")))) .nil))) .nil))
noncomputable def S0:S:=(.ret (.and (.cmp .eq (.call "_law_do" (.cons (.cst (.int 2)) (.cons (.var 3) (.cons (.var 7) .nil)))) (.blt .tuple (.cons (.kP 8) .nil))) (.cmp .eq (.call "_law_do" (.cons (.cst (.int 2)) (.cons (.var 3) (.cons (.cst (.int 1)) .nil)))) (.var 3))))
theorem yK:md.body=.cons q0 (.cons q1 (.cons q2 (.cons q3 (.cons q4 (.cons q5 (.cons q6 (.cons q7 (.cons q8 (.cons q9 (.cons UB (.cons Sz (.cons Vr (.cons TR (.cons Sx (.cons UT (.cons jz (.cons S0 (.nil)))))))))))))))))):=rfl
noncomputable def rws(m n:Nat):List PV:=(List.range (m+1)).map λ(r:Nat)=>PV.str ⟨((List.range (n+1)).map λ(c:Nat)=>if lst m n<=(if(1+(n:Int))-(c:Int)<(1+(m:Int))-(r:Int) then(1+(n:Int))-(c:Int) else(1+(m:Int))-(r:Int)) then 48 else 35).toArray⟩
def k3(F:bj)(env:Sl):aE F (cN q3) env=.ok (.lst (gR (cN q3))):=by kernel_rfl
def k5(F:bj)(env:Sl):aE F (cN q5) env=.ok (.lst (gR (cN q5))):=by kernel_rfl
def k6(F:bj)(env:Sl):aE F (cN q6) env=.ok (.lst (gR (cN q6))):=by kernel_rfl
def k7(F:bj)(env:Sl):aE F (cN q7) env=.ok (.lst (gR (cN q7))):=by kernel_rfl
def k8(F:bj)(env:Sl):aE F (cN q8) env=.ok (.lst (gR (cN q8))):=by kernel_rfl
def k4(x h w f:PV):aE (den qu) (Wi (B4 q4)) [.val x,.val h,.val w,.val f,.own (.lst (gR (cN q3))),.no,.no,.no,.no,.no]=.ok (.bl false):=by kernel_rfl
def k9(x h w f:PV):aE (den qu) (B4 q9) [.val x,.val h,.val w,.val f,.own (.lst (gR (cN q6)++gR (cN q7)++gR (cN q8))),.val (.lst (gR (cN q5))),.no,.no,.no,.no]=.ok (.bl false):=by kernel_rfl
def XF(x h w f:PV)(a b:Ci.Slot):bV (den qu) Vr [.val x,.val h,.val w,.val f,a,b,.no,.no,.no,.no]=.ok (.nx [.val x,.val h,.val w,.val f,a,b,.val (.int (-1)),.no,.no,.no]):=by kernel_rfl
def Hn(F:bj)(x f:PV)(a b c:Ci.Slot):bV F jz [.val x,.val (.int (1+((0:Nat):Int))),.val (.int (1+((0:Nat):Int))),.val f,a,b,c,.val (.int (lst 0 0)),.own (.lst []),.no]=.ok (.nx [.val x,.val (.int (1+((0:Nat):Int))),.val (.int (1+((0:Nat):Int))),.val f,a,b,c,.val (.int (lst 0 0)),.own (.lst (rws 0 0)),.val (.int ((0:Nat):Int))]):=by kernel_rfl
def GX(F:bj)(x f:PV)(a b c:Ci.Slot):bV F jz [.val x,.val (.int (1+((0:Nat):Int))),.val (.int (1+((1:Nat):Int))),.val f,a,b,c,.val (.int (lst 0 1)),.own (.lst []),.no]=.ok (.nx [.val x,.val (.int (1+((0:Nat):Int))),.val (.int (1+((1:Nat):Int))),.val f,a,b,c,.val (.int (lst 0 1)),.own (.lst (rws 0 1)),.val (.int ((0:Nat):Int))]):=by kernel_rfl
def HU(F:bj)(x f:PV)(a b c:Ci.Slot):bV F jz [.val x,.val (.int (1+((0:Nat):Int))),.val (.int (1+((2:Nat):Int))),.val f,a,b,c,.val (.int (lst 0 2)),.own (.lst []),.no]=.ok (.nx [.val x,.val (.int (1+((0:Nat):Int))),.val (.int (1+((2:Nat):Int))),.val f,a,b,c,.val (.int (lst 0 2)),.own (.lst (rws 0 2)),.val (.int ((0:Nat):Int))]):=by kernel_rfl
def KA(F:bj)(x f:PV)(a b c:Ci.Slot):bV F jz [.val x,.val (.int (1+((0:Nat):Int))),.val (.int (1+((3:Nat):Int))),.val f,a,b,c,.val (.int (lst 0 3)),.own (.lst []),.no]=.ok (.nx [.val x,.val (.int (1+((0:Nat):Int))),.val (.int (1+((3:Nat):Int))),.val f,a,b,c,.val (.int (lst 0 3)),.own (.lst (rws 0 3)),.val (.int ((0:Nat):Int))]):=by kernel_rfl
def MZ(F:bj)(x f:PV)(a b c:Ci.Slot):bV F jz [.val x,.val (.int (1+((0:Nat):Int))),.val (.int (1+((4:Nat):Int))),.val f,a,b,c,.val (.int (lst 0 4)),.own (.lst []),.no]=.ok (.nx [.val x,.val (.int (1+((0:Nat):Int))),.val (.int (1+((4:Nat):Int))),.val f,a,b,c,.val (.int (lst 0 4)),.own (.lst (rws 0 4)),.val (.int ((0:Nat):Int))]):=by kernel_rfl
def KH(F:bj)(x f:PV)(a b c:Ci.Slot):bV F jz [.val x,.val (.int (1+((1:Nat):Int))),.val (.int (1+((0:Nat):Int))),.val f,a,b,c,.val (.int (lst 1 0)),.own (.lst []),.no]=.ok (.nx [.val x,.val (.int (1+((1:Nat):Int))),.val (.int (1+((0:Nat):Int))),.val f,a,b,c,.val (.int (lst 1 0)),.own (.lst (rws 1 0)),.val (.int ((1:Nat):Int))]):=by kernel_rfl
def Jh(F:bj)(x f:PV)(a b c:Ci.Slot):bV F jz [.val x,.val (.int (1+((1:Nat):Int))),.val (.int (1+((1:Nat):Int))),.val f,a,b,c,.val (.int (lst 1 1)),.own (.lst []),.no]=.ok (.nx [.val x,.val (.int (1+((1:Nat):Int))),.val (.int (1+((1:Nat):Int))),.val f,a,b,c,.val (.int (lst 1 1)),.own (.lst (rws 1 1)),.val (.int ((1:Nat):Int))]):=by kernel_rfl
def NK(F:bj)(x f:PV)(a b c:Ci.Slot):bV F jz [.val x,.val (.int (1+((1:Nat):Int))),.val (.int (1+((2:Nat):Int))),.val f,a,b,c,.val (.int (lst 1 2)),.own (.lst []),.no]=.ok (.nx [.val x,.val (.int (1+((1:Nat):Int))),.val (.int (1+((2:Nat):Int))),.val f,a,b,c,.val (.int (lst 1 2)),.own (.lst (rws 1 2)),.val (.int ((1:Nat):Int))]):=by kernel_rfl
def HA(F:bj)(x f:PV)(a b c:Ci.Slot):bV F jz [.val x,.val (.int (1+((1:Nat):Int))),.val (.int (1+((3:Nat):Int))),.val f,a,b,c,.val (.int (lst 1 3)),.own (.lst []),.no]=.ok (.nx [.val x,.val (.int (1+((1:Nat):Int))),.val (.int (1+((3:Nat):Int))),.val f,a,b,c,.val (.int (lst 1 3)),.own (.lst (rws 1 3)),.val (.int ((1:Nat):Int))]):=by kernel_rfl
def Ms(F:bj)(x f:PV)(a b c:Ci.Slot):bV F jz [.val x,.val (.int (1+((1:Nat):Int))),.val (.int (1+((4:Nat):Int))),.val f,a,b,c,.val (.int (lst 1 4)),.own (.lst []),.no]=.ok (.nx [.val x,.val (.int (1+((1:Nat):Int))),.val (.int (1+((4:Nat):Int))),.val f,a,b,c,.val (.int (lst 1 4)),.own (.lst (rws 1 4)),.val (.int ((1:Nat):Int))]):=by kernel_rfl
def IM(F:bj)(x f:PV)(a b c:Ci.Slot):bV F jz [.val x,.val (.int (1+((2:Nat):Int))),.val (.int (1+((0:Nat):Int))),.val f,a,b,c,.val (.int (lst 2 0)),.own (.lst []),.no]=.ok (.nx [.val x,.val (.int (1+((2:Nat):Int))),.val (.int (1+((0:Nat):Int))),.val f,a,b,c,.val (.int (lst 2 0)),.own (.lst (rws 2 0)),.val (.int ((2:Nat):Int))]):=by kernel_rfl
def Jz(F:bj)(x f:PV)(a b c:Ci.Slot):bV F jz [.val x,.val (.int (1+((2:Nat):Int))),.val (.int (1+((1:Nat):Int))),.val f,a,b,c,.val (.int (lst 2 1)),.own (.lst []),.no]=.ok (.nx [.val x,.val (.int (1+((2:Nat):Int))),.val (.int (1+((1:Nat):Int))),.val f,a,b,c,.val (.int (lst 2 1)),.own (.lst (rws 2 1)),.val (.int ((2:Nat):Int))]):=by kernel_rfl
def Jp(F:bj)(x f:PV)(a b c:Ci.Slot):bV F jz [.val x,.val (.int (1+((2:Nat):Int))),.val (.int (1+((2:Nat):Int))),.val f,a,b,c,.val (.int (lst 2 2)),.own (.lst []),.no]=.ok (.nx [.val x,.val (.int (1+((2:Nat):Int))),.val (.int (1+((2:Nat):Int))),.val f,a,b,c,.val (.int (lst 2 2)),.own (.lst (rws 2 2)),.val (.int ((2:Nat):Int))]):=by kernel_rfl
def Kp(F:bj)(x f:PV)(a b c:Ci.Slot):bV F jz [.val x,.val (.int (1+((2:Nat):Int))),.val (.int (1+((3:Nat):Int))),.val f,a,b,c,.val (.int (lst 2 3)),.own (.lst []),.no]=.ok (.nx [.val x,.val (.int (1+((2:Nat):Int))),.val (.int (1+((3:Nat):Int))),.val f,a,b,c,.val (.int (lst 2 3)),.own (.lst (rws 2 3)),.val (.int ((2:Nat):Int))]):=by kernel_rfl
def MJ(F:bj)(x f:PV)(a b c:Ci.Slot):bV F jz [.val x,.val (.int (1+((2:Nat):Int))),.val (.int (1+((4:Nat):Int))),.val f,a,b,c,.val (.int (lst 2 4)),.own (.lst []),.no]=.ok (.nx [.val x,.val (.int (1+((2:Nat):Int))),.val (.int (1+((4:Nat):Int))),.val f,a,b,c,.val (.int (lst 2 4)),.own (.lst (rws 2 4)),.val (.int ((2:Nat):Int))]):=by kernel_rfl
def Lg(F:bj)(x f:PV)(a b c:Ci.Slot):bV F jz [.val x,.val (.int (1+((3:Nat):Int))),.val (.int (1+((0:Nat):Int))),.val f,a,b,c,.val (.int (lst 3 0)),.own (.lst []),.no]=.ok (.nx [.val x,.val (.int (1+((3:Nat):Int))),.val (.int (1+((0:Nat):Int))),.val f,a,b,c,.val (.int (lst 3 0)),.own (.lst (rws 3 0)),.val (.int ((3:Nat):Int))]):=by kernel_rfl
def Mh(F:bj)(x f:PV)(a b c:Ci.Slot):bV F jz [.val x,.val (.int (1+((3:Nat):Int))),.val (.int (1+((1:Nat):Int))),.val f,a,b,c,.val (.int (lst 3 1)),.own (.lst []),.no]=.ok (.nx [.val x,.val (.int (1+((3:Nat):Int))),.val (.int (1+((1:Nat):Int))),.val f,a,b,c,.val (.int (lst 3 1)),.own (.lst (rws 3 1)),.val (.int ((3:Nat):Int))]):=by kernel_rfl
def IG(F:bj)(x f:PV)(a b c:Ci.Slot):bV F jz [.val x,.val (.int (1+((3:Nat):Int))),.val (.int (1+((2:Nat):Int))),.val f,a,b,c,.val (.int (lst 3 2)),.own (.lst []),.no]=.ok (.nx [.val x,.val (.int (1+((3:Nat):Int))),.val (.int (1+((2:Nat):Int))),.val f,a,b,c,.val (.int (lst 3 2)),.own (.lst (rws 3 2)),.val (.int ((3:Nat):Int))]):=by kernel_rfl
def GO(F:bj)(x f:PV)(a b c:Ci.Slot):bV F jz [.val x,.val (.int (1+((3:Nat):Int))),.val (.int (1+((3:Nat):Int))),.val f,a,b,c,.val (.int (lst 3 3)),.own (.lst []),.no]=.ok (.nx [.val x,.val (.int (1+((3:Nat):Int))),.val (.int (1+((3:Nat):Int))),.val f,a,b,c,.val (.int (lst 3 3)),.own (.lst (rws 3 3)),.val (.int ((3:Nat):Int))]):=by kernel_rfl
def Ji(F:bj)(x f:PV)(a b c:Ci.Slot):bV F jz [.val x,.val (.int (1+((3:Nat):Int))),.val (.int (1+((4:Nat):Int))),.val f,a,b,c,.val (.int (lst 3 4)),.own (.lst []),.no]=.ok (.nx [.val x,.val (.int (1+((3:Nat):Int))),.val (.int (1+((4:Nat):Int))),.val f,a,b,c,.val (.int (lst 3 4)),.own (.lst (rws 3 4)),.val (.int ((3:Nat):Int))]):=by kernel_rfl
def Kf(F:bj)(x f:PV)(a b c:Ci.Slot):bV F jz [.val x,.val (.int (1+((4:Nat):Int))),.val (.int (1+((0:Nat):Int))),.val f,a,b,c,.val (.int (lst 4 0)),.own (.lst []),.no]=.ok (.nx [.val x,.val (.int (1+((4:Nat):Int))),.val (.int (1+((0:Nat):Int))),.val f,a,b,c,.val (.int (lst 4 0)),.own (.lst (rws 4 0)),.val (.int ((4:Nat):Int))]):=by kernel_rfl
def Ko(F:bj)(x f:PV)(a b c:Ci.Slot):bV F jz [.val x,.val (.int (1+((4:Nat):Int))),.val (.int (1+((1:Nat):Int))),.val f,a,b,c,.val (.int (lst 4 1)),.own (.lst []),.no]=.ok (.nx [.val x,.val (.int (1+((4:Nat):Int))),.val (.int (1+((1:Nat):Int))),.val f,a,b,c,.val (.int (lst 4 1)),.own (.lst (rws 4 1)),.val (.int ((4:Nat):Int))]):=by kernel_rfl
def NW(F:bj)(x f:PV)(a b c:Ci.Slot):bV F jz [.val x,.val (.int (1+((4:Nat):Int))),.val (.int (1+((2:Nat):Int))),.val f,a,b,c,.val (.int (lst 4 2)),.own (.lst []),.no]=.ok (.nx [.val x,.val (.int (1+((4:Nat):Int))),.val (.int (1+((2:Nat):Int))),.val f,a,b,c,.val (.int (lst 4 2)),.own (.lst (rws 4 2)),.val (.int ((4:Nat):Int))]):=by kernel_rfl
def Jq(F:bj)(x f:PV)(a b c:Ci.Slot):bV F jz [.val x,.val (.int (1+((4:Nat):Int))),.val (.int (1+((3:Nat):Int))),.val f,a,b,c,.val (.int (lst 4 3)),.own (.lst []),.no]=.ok (.nx [.val x,.val (.int (1+((4:Nat):Int))),.val (.int (1+((3:Nat):Int))),.val f,a,b,c,.val (.int (lst 4 3)),.own (.lst (rws 4 3)),.val (.int ((4:Nat):Int))]):=by kernel_rfl
def NF(F:bj)(x f:PV)(a b c:Ci.Slot):bV F jz [.val x,.val (.int (1+((4:Nat):Int))),.val (.int (1+((4:Nat):Int))),.val f,a,b,c,.val (.int (lst 4 4)),.own (.lst []),.no]=.ok (.nx [.val x,.val (.int (1+((4:Nat):Int))),.val (.int (1+((4:Nat):Int))),.val f,a,b,c,.val (.int (lst 4 4)),.own (.lst (rws 4 4)),.val (.int ((4:Nat):Int))]):=by kernel_rfl
def kR(F:bj)(x f:PV)(a b c:Ci.Slot){m n:Nat}(hm:m<5)(hn:n<5):bV F jz [.val x,.val (.int (1+((m:Nat):Int))),.val (.int (1+((n:Nat):Int))),.val f,a,b,c,.val (.int (lst m n)),.own (.lst []),.no]=.ok (.nx [.val x,.val (.int (1+((m:Nat):Int))),.val (.int (1+((n:Nat):Int))),.val f,a,b,c,.val (.int (lst m n)),.own (.lst (rws m n)),.val (.int ((m:Nat):Int))]):=by
 match m,n,hm,hn with
 |0,0,_,_=>exact Hn F x f a b c
 |0,1,_,_=>exact GX F x f a b c
 |0,2,_,_=>exact HU F x f a b c
 |0,3,_,_=>exact KA F x f a b c
 |0,4,_,_=>exact MZ F x f a b c
 |1,0,_,_=>exact KH F x f a b c
 |1,1,_,_=>exact Jh F x f a b c
 |1,2,_,_=>exact NK F x f a b c
 |1,3,_,_=>exact HA F x f a b c
 |1,4,_,_=>exact Ms F x f a b c
 |2,0,_,_=>exact IM F x f a b c
 |2,1,_,_=>exact Jz F x f a b c
 |2,2,_,_=>exact Jp F x f a b c
 |2,3,_,_=>exact Kp F x f a b c
 |2,4,_,_=>exact MJ F x f a b c
 |3,0,_,_=>exact Lg F x f a b c
 |3,1,_,_=>exact Mh F x f a b c
 |3,2,_,_=>exact IG F x f a b c
 |3,3,_,_=>exact GO F x f a b c
 |3,4,_,_=>exact Ji F x f a b c
 |4,0,_,_=>exact Kf F x f a b c
 |4,1,_,_=>exact Ko F x f a b c
 |4,2,_,_=>exact NW F x f a b c
 |4,3,_,_=>exact Jq F x f a b c
 |4,4,_,_=>exact NF F x f a b c
def L8:aZ (.tup (rws 0 0)) (.tup (rws 0 0))=.ok (.bl true):=by kernel_rfl
def Jo:aZ (.tup (rws 0 1)) (.tup (rws 0 1))=.ok (.bl true):=by kernel_rfl
def Io:aZ (.tup (rws 0 2)) (.tup (rws 0 2))=.ok (.bl true):=by kernel_rfl
def IB:aZ (.tup (rws 0 3)) (.tup (rws 0 3))=.ok (.bl true):=by kernel_rfl
def LK:aZ (.tup (rws 0 4)) (.tup (rws 0 4))=.ok (.bl true):=by kernel_rfl
def NG:aZ (.tup (rws 1 0)) (.tup (rws 1 0))=.ok (.bl true):=by kernel_rfl
def Ln:aZ (.tup (rws 1 1)) (.tup (rws 1 1))=.ok (.bl true):=by kernel_rfl
def Nw:aZ (.tup (rws 1 2)) (.tup (rws 1 2))=.ok (.bl true):=by kernel_rfl
def Mt:aZ (.tup (rws 1 3)) (.tup (rws 1 3))=.ok (.bl true):=by kernel_rfl
def K7:aZ (.tup (rws 1 4)) (.tup (rws 1 4))=.ok (.bl true):=by kernel_rfl
def Kv:aZ (.tup (rws 2 0)) (.tup (rws 2 0))=.ok (.bl true):=by kernel_rfl
def HP:aZ (.tup (rws 2 1)) (.tup (rws 2 1))=.ok (.bl true):=by kernel_rfl
def HR:aZ (.tup (rws 2 2)) (.tup (rws 2 2))=.ok (.bl true):=by kernel_rfl
def GZ:aZ (.tup (rws 2 3)) (.tup (rws 2 3))=.ok (.bl true):=by kernel_rfl
def Jj:aZ (.tup (rws 2 4)) (.tup (rws 2 4))=.ok (.bl true):=by kernel_rfl
def Gu:aZ (.tup (rws 3 0)) (.tup (rws 3 0))=.ok (.bl true):=by kernel_rfl
def Nf:aZ (.tup (rws 3 1)) (.tup (rws 3 1))=.ok (.bl true):=by kernel_rfl
def Ii:aZ (.tup (rws 3 2)) (.tup (rws 3 2))=.ok (.bl true):=by kernel_rfl
def KW:aZ (.tup (rws 3 3)) (.tup (rws 3 3))=.ok (.bl true):=by kernel_rfl
def Ih:aZ (.tup (rws 3 4)) (.tup (rws 3 4))=.ok (.bl true):=by kernel_rfl
def Gb:aZ (.tup (rws 4 0)) (.tup (rws 4 0))=.ok (.bl true):=by kernel_rfl
def JV:aZ (.tup (rws 4 1)) (.tup (rws 4 1))=.ok (.bl true):=by kernel_rfl
def Ik:aZ (.tup (rws 4 2)) (.tup (rws 4 2))=.ok (.bl true):=by kernel_rfl
def NY:aZ (.tup (rws 4 3)) (.tup (rws 4 3))=.ok (.bl true):=by kernel_rfl
def Ll:aZ (.tup (rws 4 4)) (.tup (rws 4 4))=.ok (.bl true):=by kernel_rfl
def kE{m n:Nat}(hm:m<5)(hn:n<5):aZ (.tup (rws m n)) (.tup (rws m n))=.ok (.bl true):=by
 match m,n,hm,hn with
 |0,0,_,_=>exact L8
 |0,1,_,_=>exact Jo
 |0,2,_,_=>exact Io
 |0,3,_,_=>exact IB
 |0,4,_,_=>exact LK
 |1,0,_,_=>exact NG
 |1,1,_,_=>exact Ln
 |1,2,_,_=>exact Nw
 |1,3,_,_=>exact Mt
 |1,4,_,_=>exact K7
 |2,0,_,_=>exact Kv
 |2,1,_,_=>exact HP
 |2,2,_,_=>exact HR
 |2,3,_,_=>exact GZ
 |2,4,_,_=>exact Jj
 |3,0,_,_=>exact Gu
 |3,1,_,_=>exact Nf
 |3,2,_,_=>exact Ii
 |3,3,_,_=>exact KW
 |3,4,_,_=>exact Ih
 |4,0,_,_=>exact Gb
 |4,1,_,_=>exact JV
 |4,2,_,_=>exact Ik
 |4,3,_,_=>exact NY
 |4,4,_,_=>exact Ll
def JI:aZ (au 0 0) (au 0 0)=.ok (.bl true):=by kernel_rfl
def Gj:aZ (au 0 1) (au 0 1)=.ok (.bl true):=by kernel_rfl
def Nt:aZ (au 0 2) (au 0 2)=.ok (.bl true):=by kernel_rfl
def Iw:aZ (au 0 3) (au 0 3)=.ok (.bl true):=by kernel_rfl
def Gm:aZ (au 0 4) (au 0 4)=.ok (.bl true):=by kernel_rfl
def J0:aZ (au 1 0) (au 1 0)=.ok (.bl true):=by kernel_rfl
def Hr:aZ (au 1 1) (au 1 1)=.ok (.bl true):=by kernel_rfl
def Js:aZ (au 1 2) (au 1 2)=.ok (.bl true):=by kernel_rfl
def Oj:aZ (au 1 3) (au 1 3)=.ok (.bl true):=by kernel_rfl
def Gi:aZ (au 1 4) (au 1 4)=.ok (.bl true):=by kernel_rfl
def Hb:aZ (au 2 0) (au 2 0)=.ok (.bl true):=by kernel_rfl
def Hy:aZ (au 2 1) (au 2 1)=.ok (.bl true):=by kernel_rfl
def Iy:aZ (au 2 2) (au 2 2)=.ok (.bl true):=by kernel_rfl
def KN:aZ (au 2 3) (au 2 3)=.ok (.bl true):=by kernel_rfl
def KO:aZ (au 2 4) (au 2 4)=.ok (.bl true):=by kernel_rfl
def HF:aZ (au 3 0) (au 3 0)=.ok (.bl true):=by kernel_rfl
def Jg:aZ (au 3 1) (au 3 1)=.ok (.bl true):=by kernel_rfl
def Jd:aZ (au 3 2) (au 3 2)=.ok (.bl true):=by kernel_rfl
def Hh:aZ (au 3 3) (au 3 3)=.ok (.bl true):=by kernel_rfl
def Jt:aZ (au 3 4) (au 3 4)=.ok (.bl true):=by kernel_rfl
def N1:aZ (au 4 0) (au 4 0)=.ok (.bl true):=by kernel_rfl
def LR:aZ (au 4 1) (au 4 1)=.ok (.bl true):=by kernel_rfl
def MV:aZ (au 4 2) (au 4 2)=.ok (.bl true):=by kernel_rfl
def Lv:aZ (au 4 3) (au 4 3)=.ok (.bl true):=by kernel_rfl
def NH:aZ (au 4 4) (au 4 4)=.ok (.bl true):=by kernel_rfl
def kQ{m n:Nat}(hm:m<5)(hn:n<5):aZ (au m n) (au m n)=.ok (.bl true):=by
 match m,n,hm,hn with
 |0,0,_,_=>exact JI
 |0,1,_,_=>exact Gj
 |0,2,_,_=>exact Nt
 |0,3,_,_=>exact Iw
 |0,4,_,_=>exact Gm
 |1,0,_,_=>exact J0
 |1,1,_,_=>exact Hr
 |1,2,_,_=>exact Js
 |1,3,_,_=>exact Oj
 |1,4,_,_=>exact Gi
 |2,0,_,_=>exact Hb
 |2,1,_,_=>exact Hy
 |2,2,_,_=>exact Iy
 |2,3,_,_=>exact KN
 |2,4,_,_=>exact KO
 |3,0,_,_=>exact HF
 |3,1,_,_=>exact Jg
 |3,2,_,_=>exact Jd
 |3,3,_,_=>exact Hh
 |3,4,_,_=>exact Jt
 |4,0,_,_=>exact N1
 |4,1,_,_=>exact LR
 |4,2,_,_=>exact MV
 |4,3,_,_=>exact Lv
 |4,4,_,_=>exact NH
def Ls:af (den c6) av [au 0 0,.int (lst 0 0)]=.ok (.tup (rws 0 0)):=by kernel_rfl
def GQ:af (den c6) av [au 0 1,.int (lst 0 1)]=.ok (.tup (rws 0 1)):=by kernel_rfl
def HI:af (den c6) av [au 0 2,.int (lst 0 2)]=.ok (.tup (rws 0 2)):=by kernel_rfl
def Gq:af (den c6) av [au 0 3,.int (lst 0 3)]=.ok (.tup (rws 0 3)):=by kernel_rfl
def OE:af (den c6) av [au 0 4,.int (lst 0 4)]=.ok (.tup (rws 0 4)):=by kernel_rfl
def Nr:af (den c6) av [au 1 0,.int (lst 1 0)]=.ok (.tup (rws 1 0)):=by kernel_rfl
def JY:af (den c6) av [au 1 1,.int (lst 1 1)]=.ok (.tup (rws 1 1)):=by kernel_rfl
def HN:af (den c6) av [au 1 2,.int (lst 1 2)]=.ok (.tup (rws 1 2)):=by kernel_rfl
def IA:af (den c6) av [au 1 3,.int (lst 1 3)]=.ok (.tup (rws 1 3)):=by kernel_rfl
def KZ:af (den c6) av [au 1 4,.int (lst 1 4)]=.ok (.tup (rws 1 4)):=by kernel_rfl
def Nm:af (den c6) av [au 2 0,.int (lst 2 0)]=.ok (.tup (rws 2 0)):=by kernel_rfl
def HD:af (den c6) av [au 2 1,.int (lst 2 1)]=.ok (.tup (rws 2 1)):=by kernel_rfl
def Hq:af (den c6) av [au 2 2,.int (lst 2 2)]=.ok (.tup (rws 2 2)):=by kernel_rfl
def GP:af (den c6) av [au 2 3,.int (lst 2 3)]=.ok (.tup (rws 2 3)):=by kernel_rfl
def MU:af (den c6) av [au 2 4,.int (lst 2 4)]=.ok (.tup (rws 2 4)):=by kernel_rfl
def GK:af (den c6) av [au 3 0,.int (lst 3 0)]=.ok (.tup (rws 3 0)):=by kernel_rfl
def L3:af (den c6) av [au 3 1,.int (lst 3 1)]=.ok (.tup (rws 3 1)):=by kernel_rfl
def Lo:af (den c6) av [au 3 2,.int (lst 3 2)]=.ok (.tup (rws 3 2)):=by kernel_rfl
def J9:af (den c6) av [au 3 3,.int (lst 3 3)]=.ok (.tup (rws 3 3)):=by kernel_rfl
def HC:af (den c6) av [au 3 4,.int (lst 3 4)]=.ok (.tup (rws 3 4)):=by kernel_rfl
def MW:af (den c6) av [au 4 0,.int (lst 4 0)]=.ok (.tup (rws 4 0)):=by kernel_rfl
def OQ:af (den c6) av [au 4 1,.int (lst 4 1)]=.ok (.tup (rws 4 1)):=by kernel_rfl
def Ht:af (den c6) av [au 4 2,.int (lst 4 2)]=.ok (.tup (rws 4 2)):=by kernel_rfl
def MP:af (den c6) av [au 4 3,.int (lst 4 3)]=.ok (.tup (rws 4 3)):=by kernel_rfl
def Gz:af (den c6) av [au 4 4,.int (lst 4 4)]=.ok (.tup (rws 4 4)):=by kernel_rfl
def kT{m n:Nat}(hm:m<5)(hn:n<5):af (den c6) av [au m n,.int (lst m n)]=.ok (.tup (rws m n)):=by
 match m,n,hm,hn with
 |0,0,_,_=>exact Ls
 |0,1,_,_=>exact GQ
 |0,2,_,_=>exact HI
 |0,3,_,_=>exact Gq
 |0,4,_,_=>exact OE
 |1,0,_,_=>exact Nr
 |1,1,_,_=>exact JY
 |1,2,_,_=>exact HN
 |1,3,_,_=>exact IA
 |1,4,_,_=>exact KZ
 |2,0,_,_=>exact Nm
 |2,1,_,_=>exact HD
 |2,2,_,_=>exact Hq
 |2,3,_,_=>exact GP
 |2,4,_,_=>exact MU
 |3,0,_,_=>exact GK
 |3,1,_,_=>exact L3
 |3,2,_,_=>exact Lo
 |3,3,_,_=>exact J9
 |3,4,_,_=>exact HC
 |4,0,_,_=>exact MW
 |4,1,_,_=>exact OQ
 |4,2,_,_=>exact Ht
 |4,3,_,_=>exact MP
 |4,4,_,_=>exact Gz
def Sk(x:PV):aS (den AW) (B2 aB.body) [.val x,.val (wk false 0 ((0:Nat):Int)),.val (.tup [.str "000",.str "000"]),.no,.no,.no,.no,.no,.no,.no]=.ok (.rt (.bl true)):=by kernel_rfl
def Uo(x:PV):aS (den AW) (B2 aB.body) [.val x,.val (wk false 0 ((1:Nat):Int)),.val (.tup [.str "000",.str "000"]),.no,.no,.no,.no,.no,.no,.no]=.ok (.rt (.bl true)):=by kernel_rfl
def Tp(x:PV):aS (den AW) (B2 aB.body) [.val x,.val (wk false 0 ((2:Nat):Int)),.val (.tup [.str "000",.str "000"]),.no,.no,.no,.no,.no,.no,.no]=.ok (.rt (.bl true)):=by kernel_rfl
def UW(x:PV):aS (den AW) (B2 aB.body) [.val x,.val (wk false 0 ((3:Nat):Int)),.val (.tup [.str "000",.str "000"]),.no,.no,.no,.no,.no,.no,.no]=.ok (.rt (.bl true)):=by kernel_rfl
def Tb(x:PV):aS (den AL) (B2 aC.body) [.val x,.val (wk false 0 ((0:Nat):Int)),.val (.tup [.str "000",.str "000"]),.no,.no,.no,.no,.no,.no,.no,.no,.no,.no,.no,.no,.no,.no]=.ok (.rt (.bl true)):=by kernel_rfl
def Tr(x:PV):aS (den AL) (B2 aC.body) [.val x,.val (wk false 0 ((1:Nat):Int)),.val (.tup [.str "000",.str "000"]),.no,.no,.no,.no,.no,.no,.no,.no,.no,.no,.no,.no,.no,.no]=.ok (.rt (.bl true)):=by kernel_rfl
def TU(x:PV):aS (den AL) (B2 aC.body) [.val x,.val (wk false 0 ((2:Nat):Int)),.val (.tup [.str "000",.str "000"]),.no,.no,.no,.no,.no,.no,.no,.no,.no,.no,.no,.no,.no,.no]=.ok (.rt (.bl true)):=by kernel_rfl
def S2(x:PV):aS (den AL) (B2 aC.body) [.val x,.val (wk false 0 ((3:Nat):Int)),.val (.tup [.str "000",.str "000"]),.no,.no,.no,.no,.no,.no,.no,.no,.no,.no,.no,.no,.no,.no]=.ok (.rt (.bl true)):=by kernel_rfl
def kW(x:PV){m:Nat}(h:m<4):aS (den AW) (B2 aB.body) [.val x,.val (wk false 0 (m:Int)),.val (.tup [.str "000",.str "000"]),.no,.no,.no,.no,.no,.no,.no]=.ok (.rt (.bl true)):=by
 match m,h with
 |0,_=>exact Sk x
 |1,_=>exact Uo x
 |2,_=>exact Tp x
 |3,_=>exact UW x
def kU(x:PV){m:Nat}(h:m<4):aS (den AL) (B2 aC.body) [.val x,.val (wk false 0 (m:Int)),.val (.tup [.str "000",.str "000"]),.no,.no,.no,.no,.no,.no,.no,.no,.no,.no,.no,.no,.no,.no]=.ok (.rt (.bl true)):=by
 match m,h with
 |0,_=>exact Tb x
 |1,_=>exact Tr x
 |2,_=>exact TU x
 |3,_=>exact S2 x
def QZ(F:bj){f:PV}(h:F "gates" [f,gL,.int 12]=.ok (.lst [])):af F jV [f,gL,.int 12]=.ok (.lst []):=by
 have s:fw .sorted [.lst []]=.ok (.lst []):=by kernel_rfl
 simp! only [jV,h,forL,s]
def Yu(F:bj){f:PV}(h:F "gates" [f,gL,.int 12]=.ok (.lst [])):af F bO [.int 0,f,.int 12]=.ok (.lst []):=by
 have a:([Ci.Slot.val (.int 0),.val f,.val (.int 12),.val .aK,.val .aK,.val gL,.no]:Sl).any Slot.mF=false:=rfl
 have c1:decide ((0:Int)<2)=true:=rfl
 have c2:((0:Int)==0)=true:=rfl
 have c3:p9 .aK .aK=.ok (.bl true):=rfl
 simp! only [bO,a,c1,c2,h,c3]
def Yj(F:bj){f:PV}(h:F "hops" [f,gL,.int 12]=.ok (.lst [])):af F bO [.int 1,f,.int 12]=.ok (.lst []):=by
 have a:([Ci.Slot.val (.int 1),.val f,.val (.int 12),.val .aK,.val .aK,.val gL,.no]:Sl).any Slot.mF=false:=rfl
 have c1:decide ((1:Int)<2)=true:=rfl
 have c2:((1:Int)==0)=false:=rfl
 have c3:p9 .aK .aK=.ok (.bl true):=rfl
 simp! only [bO,a,c1,c2,h,c3]
def V9(F:bj){f p:PV}{n:Int}(h:F "shrunk" [f,.int n]=.ok p):af F bO [.int 2,f,.int n]=.ok p:=by
 have a:([Ci.Slot.val (.int 2),.val f,.val (.int n),.val .aK,.val .aK,.val gL,.no]:Sl).any Slot.mF=false:=rfl
 have c1:decide ((2:Int)<2)=false:=rfl
 have c3:p9 .aK .aK=.ok (.bl true):=rfl
 simp! only [bO,a,c1,h,c3]
def Ro{n:Nat}(h:n<12):binOp .mul (.str "0") (.int (1+(n:Int)))=.ok (.str (pg "0" (1+(n:Int)).toNat)):=by
 have l:(("0":Str).length:Nat)=1:=by decide
 exact if_pos ⟨by omega,by omega,by rw [l];decide,by rw [l];decide⟩
def Q0{m n:Nat}(h:m<12):binOp .mul (.tup [.str (pg "0" (1+(n:Int)).toNat)]) (.int (1+(m:Int)))=.ok (au m n):=
 if_pos ⟨by omega,by omega,Nat.zero_lt_one,by show 1<1000;decide⟩
def CO(ns:List Int)(hp:sY (den AW)):af (den AW) aB [ji ns]=.ok (.bl true):=by
 obtain⟨p,e,p0,p4⟩:=hp ns 0 4 (by decide) (by decide)
 obtain⟨m,rfl⟩:=zzw p0
 refine Ju rfl ((AN (p:=wk false 0 (m:Int)) (q:=.tup [.str "000",.str "000"]) ?_ rfl).trans (kW (ji ns) (by omega)));show aE (den AW) (.tup (.cons (.tup (.cons (.cst (.bl false)) (.cons (.cst (.int 0)) (.cons (.call "_law_pick" (.cons (.var 0) (.cons (.cst (.int 0)) (.cons (.cst (.int 4)) .nil)))) .nil)))) (.cons (.tup (.cons (.cst (.str "000")) (.cons (.cst (.str "000")) .nil))) .nil))) [.val (ji ns),.no,.no,.no,.no,.no,.no,.no,.no,.no]=_
 simp! only [e]
def Kz{F:bj}{i j:Nat}{as:Es}{ss:Ss}{env env':Sl}{p q:PV}(h:cb F as env=.ok [p,q])(he:(env.set i (.val p)).set j (.val q)=env'):aS F (.cons (.par i j as) ss) env=aS F ss env':=by
 rw [aS,bV,h];subst he
 rfl
def NB(ns:List Int)(hp:sY (den AL)):af (den AL) aC [ji ns]=.ok (.bl true):=by
 obtain⟨p,e,p0,p4⟩:=hp ns 0 4 (by decide) (by decide)
 obtain⟨m,rfl⟩:=zzw p0
 refine Ju rfl ((Kz (p:=wk false 0 (m:Int)) (q:=.tup [.str "000",.str "000"]) ?_ rfl).trans (kU (ji ns) (by omega)));show cb (den AL) (.cons (.tup (.cons (.cst (.bl false)) (.cons (.cst (.int 0)) (.cons (.call "_law_pick" (.cons (.var 0) (.cons (.cst (.int 0)) (.cons (.cst (.int 4)) .nil)))) .nil)))) (.cons (.tup (.cons (.cst (.str "000")) (.cons (.cst (.str "000")) .nil))) .nil)) [.val (ji ns),.no,.no,.no,.no,.no,.no,.no,.no,.no,.no,.no,.no,.no,.no,.no,.no]=_
 simp! only [e]
def Pw(ns:List Int)(hl:ns.length<=63):af (den qu) md [ji ns]=.ok (.bl true):=by
 have pick:∀F:bj,F "_law_pick"=af (den Ni) bF->sY F:=λF hF ns k q hk hq=>by
  rw [hF];exact D0 (den Ni) (λns k hk=>by rw [C2];exact Ek _ ns k hk) ns k q hk hq
 have hp:=pick _ C8
 have w0:den qu "_law_are_ways_told" [ji ns]=.ok (.bl true):=by rw [EC];exact CO ns (pick _ C3)
 have w1:den qu "_law_are_two_told" [ji ns]=.ok (.bl true):=by rw [CA];exact NB ns (pick _ Dl)
 obtain⟨p1,e1,a1,b1⟩:=hp ns 1 12 (by decide) (by decide)
 obtain⟨p2,e2,a2,b2⟩:=hp ns 2 12 (by decide) (by decide)
 obtain⟨p3,e3,a3,b3⟩:=hp ns 3 5 (by decide) (by decide)
 obtain⟨p4,e4,a4,b4⟩:=hp ns 4 5 (by decide) (by decide)
 obtain⟨m1,rfl⟩:=zzw a1
 obtain⟨m2,rfl⟩:=zzw a2
 obtain⟨m3,rfl⟩:=zzw a3
 obtain⟨m4,rfl⟩:=zzw a4
 have FH:m1<12:=by omega
 have DW:m2<12:=by omega
 have Km:m3<5:=by omega
 have M6:m4<5:=by omega
 have fF:den qu "is_floor" [au m1 m2]=.ok (.bl true):=by rw [EY];exact kF FH DW
 have gG:∀F:bj,F "gates"=af (den iI) aG->F "gates" [au m3 m4,gL,.int 12]=.ok (.lst []):=λF hF=>by rw [hF];exact kG Km M6
 have d0:den qu "_law_do" [.int 0,au m3 m4,.int 12]=.ok (.lst []):=by rw [kH];exact Yu _ (gG _ CQ)
 have d1:den qu "_law_do" [.int 1,au m3 m4,.int 12]=.ok (.lst []):=by rw [kH];exact Yj _ (by rw [C9];exact QZ _ (gG _ Eh))
 have d2:den qu "_law_do" [.int 2,au m3 m4,.int (lst m3 m4)]=.ok (.tup (rws m3 m4)):=by rw [kH];exact V9 _ (by rw [vM];exact kT Km M6)
 have d3:den qu "_law_do" [.int 2,au m3 m4,.int 1]=.ok (au m3 m4):=by rw [kH];exact V9 _ (by rw [vM];exact kS Km M6)
 have dC:den qu "clearance" [au m3 m4,sp 0 0]=.ok (.int (lst m3 m4)):=by rw [DV];exact kC Km M6
 have mn:fw .min2 [.int (1+(m3:Int)),.int (1+(m4:Int))]=.ok (.int (lst m3 m4)):=rfl
 have Y3:mZ (.lst []) (.lst [])=.ok (.bl false):=rfl
 have YK:mZ (.int (lst m3 m4)) (.int (lst m3 m4))=.ok (.bl false):=by
  show Res.ok (PV.bl (!(lst m3 m4==lst m3 m4)))=_
  rw [beq_self_eq_true]
  rfl
 refine Ju rfl ?_;rw [yK];refine(uX (c:=B4 q0) (by dsimp! only [B4,q0,d9,md,w0,w1])).trans ?_;refine(AN (e:=cN q1) (p:=.int (1+(m1:Int))) (q:=.int (1+(m2:Int))) (env':=[.val (ji ns),.val (.int (1+(m1:Int))),.val (.int (1+(m2:Int))),.no,.no,.no,.no,.no,.no,.no]) (by dsimp! only [cN,q1,d9,md,e1,e2]) rfl).trans ?_;refine(pM (e:=cN q2) (p:=au m1 m2) (env':=[.val (ji ns),.val (.int (1+(m1:Int))),.val (.int (1+(m2:Int))),.val (au m1 m2),.no,.no,.no,.no,.no,.no]) (by dsimp! only [cN,q2,Ro DW,Q0 FH]) rfl).trans ?_;refine(uf (e:=cN q3) (env':=[.val (ji ns),.val (.int (1+(m1:Int))),.val (.int (1+(m2:Int))),.val (au m1 m2),.own (.lst (gR (cN q3))),.no,.no,.no,.no,.no]) (k3 _ _) rfl).trans ?_;refine(uX (c:=.or (VQ (B4 q4)) (Wi (B4 q4))) (Qs (by
  have r:lA (.bl true) (.bl true)=.ok (.bl false):=rfl
  dsimp! only [VQ,B4,q4,fF,r]) (k4 _ _ _ _))).trans ?_
 refine(pM (e:=cN q5) (env':=[.val (ji ns),.val (.int (1+(m1:Int))),.val (.int (1+(m2:Int))),.val (au m1 m2),.own (.lst (gR (cN q3))),.val (.lst (gR (cN q5))),.no,.no,.no,.no]) (k5 _ _) rfl).trans ?_;refine(uf (e:=cN q6) (env':=[.val (ji ns),.val (.int (1+(m1:Int))),.val (.int (1+(m2:Int))),.val (au m1 m2),.own (.lst (gR (cN q6))),.val (.lst (gR (cN q5))),.no,.no,.no,.no]) (k6 _ _) rfl).trans ?_;refine(zm (e:=cN q7) (xs:=gR (cN q6)) (env':=[.val (ji ns),.val (.int (1+(m1:Int))),.val (.int (1+(m2:Int))),.val (au m1 m2),.own (.lst (gR (cN q6)++gR (cN q7))),.val (.lst (gR (cN q5))),.no,.no,.no,.no]) rfl (k7 _ _) (by decide+kernel) rfl).trans ?_;refine(zm (e:=cN q8) (xs:=gR (cN q6)++gR (cN q7)) (env':=[.val (ji ns),.val (.int (1+(m1:Int))),.val (.int (1+(m2:Int))),.val (au m1 m2),.own (.lst (gR (cN q6)++gR (cN q7)++gR (cN q8))),.val (.lst (gR (cN q5))),.no,.no,.no,.no]) rfl (k8 _ _) (by decide+kernel) rfl).trans ?_;refine(uX (c:=B4 q9) (k9 _ _ _ _)).trans ?_;refine(AN (e:=cN UB) (p:=.int (1+(m3:Int))) (q:=.int (1+(m4:Int))) (env':=[.val (ji ns),.val (.int (1+(m3:Int))),.val (.int (1+(m4:Int))),.val (au m1 m2),.own (.lst (gR (cN q6)++gR (cN q7)++gR (cN q8))),.val (.lst (gR (cN q5))),.no,.no,.no,.no]) (by dsimp! only [cN,UB,e3,e4]) rfl).trans ?_;generalize Ci.Slot.own (.lst (gR (cN q6)++gR (cN q7)++gR (cN q8)))=s4
 generalize Ci.Slot.val (.lst (gR (cN q5)))=s5
 refine(pM (e:=cN Sz) (p:=au m3 m4) (env':=[.val (ji ns),.val (.int (1+(m3:Int))),.val (.int (1+(m4:Int))),.val (au m3 m4),s4,s5,.no,.no,.no,.no]) (by dsimp! only [cN,Sz,Ro (show m4<12 by omega),Q0 (show m3<12 by omega)]) rfl).trans ?_;refine(FP (XF _ _ _ _ _ _)).trans ?_;refine(uX (c:=B4 TR) (by dsimp! only [B4,TR,d0,d1,dC,mn,Y3,YK])).trans ?_;refine(pM (e:=cN Sx) (p:=.int (lst m3 m4)) (env':=[.val (ji ns),.val (.int (1+(m3:Int))),.val (.int (1+(m4:Int))),.val (au m3 m4),s4,s5,.val (.int (-1)),.val (.int (lst m3 m4)),.no,.no]) (by dsimp! only [cN,Sx,mn]) rfl).trans ?_;refine(uf (e:=cN UT) (p:=.lst []) (env':=[.val (ji ns),.val (.int (1+(m3:Int))),.val (.int (1+(m4:Int))),.val (au m3 m4),s4,s5,.val (.int (-1)),.val (.int (lst m3 m4)),.own (.lst []),.no]) (by dsimp! only [cN,UT]) rfl).trans ?_;refine(FP (kR _ _ _ _ _ _ Km M6)).trans ?_;refine KS (e:=cN S0) ?_;have t1:=kE Km M6
 have t2:=kQ Km M6
 dsimp! only [cN,S0,d2,d3,t1,t2]
end K96
namespace Hd
open PySem PySem.W L2
noncomputable abbrev fo(n:Str)(st:Stmt)(pm:Value)(c:Addr):Obj:=⟨.type "function",none,.func (fnOf n n (cE st) (bW st) (aX st) .none .none .none pm none (.ref c) .none),#[]⟩
noncomputable abbrev co(n:Str)(a:Nat)(L A:Int)(r:Nat)(x y:Value)(q z:Nat):Obj:={cls:=.type "code",data:=.fields #[.str n a,.str n (a+1),.str "/claim/cut.py" (a+2),.int L 0,.int A 0,.int 0 0,.int 0 0,.int 3 0,.ref r,.bool Bool.true,.int 181 0,.ref (r+1),.none,x,y,.ref q,.int z 0,.int L 0,.str "/claim/cut.py" (z+1)]}
def SK(s:Stmt):Pos:=match s with
 |.FunctionDef _ _ _ _ _ _ _ _ _ p=>p
 |_=>⟨0,0,0,0⟩
def ent{K:Frag}{ts:List (Addr×Str)}{n:Str}{st:Stmt}(f c:Addr)(pm:Value)(a:nsIn K mainGlobals n=some (some (.ref f)):=by kernel_rfl)(l:K.lookup f=some (fo n st pm c):=by kernel_rfl)(d:codeIn K (.ref c) n=true:=by kernel_rfl)(k:keepIn K (.ref f)=true:=by kernel_rfl):Ci.wM K ts false n st:=Ci.Tq a l d k
def Qf{K:Frag}{ts:List (Addr×Str)}{n:Str}{st:Stmt}(f c p:Addr)(pm:Value)(ck:Ci.gk K c p)(m:(p,Ci.ng n)∈ts)(u:∀q∈ts,q.1=p->q.2=Ci.ng n)(a:nsIn K mainGlobals n=some (some (.ref f)):=by kernel_rfl)(l:K.lookup f=some (fo n st pm c):=by kernel_rfl)(d:codeIn K (.ref c) n=true:=by kernel_rfl)(k:keepIn K (.ref f)=true:=by kernel_rfl):Ci.wM K ts true n st:=⟨f,_,_,_,_,_,_,_,_,_,a,l,d,k,λ_=>⟨c,p,rfl,ck,m,λq' h=>u _ h rfl⟩⟩
def ac{K:Frag}{ts:List (Addr×Str)}{Γ:Ci.Pg}{r:Ci.Row}{l:Ci.cO}(e:Ci.wM K ts r.hl r.h r.st)(s:Ci.br (Γ.at l r.hl) r.h r.d r.st)(t:Ci.AllK K ts Γ l)(a:(l.map (·.f)).contains r.f=false:=by decide+kernel)(b:(r.d.qC.isNone==!Ci.f7 r.f)=true:=by decide+kernel)(c:r.d.qC.isNone=true->r.f=r.h:=by first|exact λ_=>rfl|exact λz=>absurd z (by decide)):Ci.AllK K ts Γ (r::l):=⟨e,s,⟨a,b,c⟩,t⟩
def BB{K L:Frag}{b:Addr}{o:Obj}(e:K.lookup b=some o):(K++L).lookup b=some o:=by
 rw [List.lookup_append,e]
 rfl
end Hd
namespace K96
open PySem L2 Ci
abbrev lw:=PySem.Challenge.rw_cellways_k96_whole_edges
def top(i:Nat):Stmt:=PySem.Challenge.pw_cellways_k96_whole_edges.main.body.getD i (.Pass ⟨0,0,0,0⟩)
abbrev m1:Value:=.str "cellways.floors" 271
abbrev m2:Value:=.str "cellways.crowds" 430
abbrev m3:Value:=.str "cellways.ways" 497
abbrev m4:Value:=.str "cellways.sizes" 514
abbrev m5:Value:=.str "cellways.blocks" 551
abbrev m6:Value:=.str "law_cellways_k96_whole_edges" 591
noncomputable def K(P:Params):zz8:=[(2,{cls:=.none,data:=.dict #[]}),
 (3,{cls:=.type "dict",data:=.dict #[Hd.de P "__name__" 165 (.str "law_cellways_k96_whole_edges" 591),Hd.de P "__doc__" 166 (.none),Hd.de P "__package__" 167 (.none),Hd.de P "__loader__" 168 (.builtin "__main__.__loader__#opaque"),Hd.de P "__spec__" 169 (.none),Hd.de P "__annotations__" 170 (.ref 6),Hd.de P "__builtins__" 171 (.ref 4),Hd.de P "__file__" 173 (.str "/claim/cut.py" 172),Hd.de P "__cached__" 174 (.none),Hd.de P "FloorError" 206 (.ref 24),Hd.de P "NoSpot" 222 (.ref 37),Hd.de P "NoWay" 238 (.ref 49),Hd.de P "NoSign" 254 (.ref 61),Hd.de P "NoSize" 270 (.ref 73),Hd.de P "WALL" 274 (.str "#" 273),Hd.de P "SIGNS" 276 (.str "#0123456789" 275),Hd.de P "LONGEST" 278 (.int 12 277),Hd.de P "HIGHEST_CLIMB" 280 (.int 9 279),Hd.de P "HIGHEST_UP" 282 (.int 3 281),Hd.de P "STRAIGHT_COST" 284 (.int 2 283),Hd.de P "SLANTING_COST" 286 (.int 3 285),Hd.de P "is_whole" 293 (.ref 82),Hd.de P "is_sign" 300 (.ref 89),Hd.de P "is_row" 306 (.ref 94),Hd.de P "is_floor" 312 (.ref 99),Hd.de P "is_walker" 319 (.ref 106),Hd.de P "is_spot" 326 (.ref 113),Hd.de P "is_on_floor" 334 (.ref 120),Hd.de P "is_open" 342 (.ref 127),Hd.de P "need_open" 350 (.ref 134),Hd.de P "open_spots" 362 (.ref 141),Hd.de P "height_at" 370 (.ref 148),Hd.de P "open_spots_beside" 381 (.ref 155),Hd.de P "are_beside" 389 (.ref 162),Hd.de P "has_open_corners" 398 (.ref 169),Hd.de P "step_cost" 411 (.ref 176),Hd.de P "steps_from" 423 (.ref 183),Hd.de P "is_list_of_open_spots" 429 (.ref 188),Hd.de P "spot_at" 439 (.ref 195),Hd.de P "moves_at" 445 (.ref 200),Hd.de P "still_from" 451 (.ref 205),Hd.de P "is_step_or_wait" 461 (.ref 212),Hd.de P "is_way_in_time" 467 (.ref 217),Hd.de P "are_moves_apart" 473 (.ref 222),Hd.de P "keep_apart" 479 (.ref 227),Hd.de P "fulfils_plan" 490 (.ref 234),Hd.de P "is_plan" 496 (.ref 239),Hd.de P "spread" 513 (.ref 246),Hd.de P "need_size" 522 (.ref 253),Hd.de P "rim_of" 528 (.ref 258),Hd.de P "clearance" 534 (.ref 263),Hd.de P "shrunk_sign" 544 (.ref 270),Hd.de P "shrunk" 550 (.ref 275),Hd.de P "block_of" 560 (.ref 282),Hd.de P "steps_within" 566 (.ref 287),Hd.de P "steps_out" 572 (.ref 292),Hd.de P "gates" 578 (.ref 297),Hd.de P "hops_from" 584 (.ref 302),Hd.de P "hops" 590 (.ref 307),Hd.de P "_law_cell" 600 (.ref 314),Hd.de P "_law_pick" 610 (.ref 321),Hd.de P "_law_word" 618 (.ref 328),Hd.de P "_law_do" 631 (.ref 335),Hd.de P "_law_are_ways_told" 637 (.ref 340),Hd.de P "_law_are_two_told" 660 (.ref 347),Hd.de P "law" 666 (.ref 352)] 66}),
 (4,{cls:=.type "module",dict:=some builtinsNs,data:=.plain}),
 (23,{cls:=.type "dict",data:=.dict #[Hd.de P "__module__" 196 (.str "cellways.errors" 187),Hd.de P "__firstlineno__" 200 (.int 2 199),Hd.de P "__static_attributes__" 201 (.ref 22),Hd.de P "__weakref__" 203 (.ref 25),Hd.de P "__doc__" 204 (.none)] 3}),
 (24,{cls:=.type "type",data:=.cls {name:="FloorError",bases:=[.type "ValueError"],mro:=[.ref 24,.type "ValueError",.type "Exception",.type "BaseException",.type "object"],ns:=23,qualname:="FloorError",subclasses:=[.ref 37,.ref 49,.ref 61,.ref 73]},slots:=#[some (.ref 15),none,some (.str "FloorError" 189),some (.str "FloorError" 197),some (.builtin "ValueError.__new__"),some (.bool Bool.true)]}),
 (36,{cls:=.type "dict",data:=.dict #[Hd.de P "__module__" 214 (.str "cellways.errors" 187),Hd.de P "__firstlineno__" 218 (.int 4 217),Hd.de P "__static_attributes__" 219 (.ref 35),Hd.de P "__doc__" 220 (.none)] 2}),
 (37,{cls:=.type "type",data:=.cls {name:="NoSpot",bases:=[.ref 24],mro:=[.ref 37,.ref 24,.type "ValueError",.type "Exception",.type "BaseException",.type "object"],ns:=36,qualname:="NoSpot"},slots:=#[some (.ref 28),none,some (.str "NoSpot" 207),some (.str "NoSpot" 215),some (.builtin "ValueError.__new__"),some (.bool Bool.true)]}),
 (48,{cls:=.type "dict",data:=.dict #[Hd.de P "__module__" 230 (.str "cellways.errors" 187),Hd.de P "__firstlineno__" 234 (.int 6 233),Hd.de P "__static_attributes__" 235 (.ref 47),Hd.de P "__doc__" 236 (.none)] 2}),
 (49,{cls:=.type "type",data:=.cls {name:="NoWay",bases:=[.ref 24],mro:=[.ref 49,.ref 24,.type "ValueError",.type "Exception",.type "BaseException",.type "object"],ns:=48,qualname:="NoWay"},slots:=#[some (.ref 40),none,some (.str "NoWay" 223),some (.str "NoWay" 231),some (.builtin "ValueError.__new__"),some (.bool Bool.true)]}),
 (60,{cls:=.type "dict",data:=.dict #[Hd.de P "__module__" 246 (.str "cellways.errors" 187),Hd.de P "__firstlineno__" 250 (.int 8 249),Hd.de P "__static_attributes__" 251 (.ref 59),Hd.de P "__doc__" 252 (.none)] 2}),
 (61,{cls:=.type "type",data:=.cls {name:="NoSign",bases:=[.ref 24],mro:=[.ref 61,.ref 24,.type "ValueError",.type "Exception",.type "BaseException",.type "object"],ns:=60,qualname:="NoSign"},slots:=#[some (.ref 52),none,some (.str "NoSign" 239),some (.str "NoSign" 247),some (.builtin "ValueError.__new__"),some (.bool Bool.true)]}),
 (72,{cls:=.type "dict",data:=.dict #[Hd.de P "__module__" 262 (.str "cellways.errors" 187),Hd.de P "__firstlineno__" 266 (.int 10 265),Hd.de P "__static_attributes__" 267 (.ref 71),Hd.de P "__doc__" 268 (.none)] 2}),
 (73,{cls:=.type "type",data:=.cls {name:="NoSize",bases:=[.ref 24],mro:=[.ref 73,.ref 24,.type "ValueError",.type "Exception",.type "BaseException",.type "object"],ns:=72,qualname:="NoSize"},slots:=#[some (.ref 64),none,some (.str "NoSize" 255),some (.str "NoSize" 263),some (.builtin "ValueError.__new__"),some (.bool Bool.true)]}),
 (81,Hd.co "is_whole" 287 20 1 76 (.ref 78) (.ref 79) 80 291),
 (82,Hd.fo "is_whole" (top 14) m1 81),
 (88,Hd.co "is_sign" 294 22 1 83 (.ref 85) (.ref 86) 87 298),
 (89,Hd.fo "is_sign" (top 15) m1 88),
 (93,Hd.co "is_row" 301 24 1 90 .none .none 92 304),
 (94,Hd.fo "is_row" (top 16) m1 93),
 (98,Hd.co "is_floor" 307 28 1 95 .none .none 97 310),
 (99,Hd.fo "is_floor" (top 17) m1 98),
 (105,Hd.co "is_walker" 313 34 1 100 (.ref 102) (.ref 103) 104 317),
 (106,Hd.fo "is_walker" (top 18) m1 105),
 (112,Hd.co "is_spot" 320 40 1 107 (.ref 109) (.ref 110) 111 324),
 (113,Hd.fo "is_spot" (top 19) m1 112),
 (119,Hd.co "is_on_floor" 327 42 2 114 (.ref 116) (.ref 117) 118 332),
 (120,Hd.fo "is_on_floor" (top 20) m1 119),
 (126,Hd.co "is_open" 335 44 2 121 (.ref 123) (.ref 124) 125 340),
 (127,Hd.fo "is_open" (top 21) m1 126),
 (133,Hd.co "need_open" 343 46 2 128 (.ref 130) (.ref 131) 132 348),
 (134,Hd.fo "need_open" (top 22) m1 133),
 (140,Hd.co "open_spots" 351 49 1 135 (.ref 137) (.ref 138) 139 360),
 (141,Hd.fo "open_spots" (top 23) m1 140),
 (147,Hd.co "height_at" 363 56 2 142 (.ref 144) (.ref 145) 146 368),
 (148,Hd.fo "height_at" (top 24) m1 147),
 (154,Hd.co "open_spots_beside" 371 59 2 149 (.ref 151) (.ref 152) 153 379),
 (155,Hd.fo "open_spots_beside" (top 25) m1 154),
 (161,Hd.co "are_beside" 382 66 2 156 (.ref 158) (.ref 159) 160 387),
 (162,Hd.fo "are_beside" (top 26) m1 161),
 (168,Hd.co "has_open_corners" 390 68 3 163 (.ref 165) (.ref 166) 167 396),
 (169,Hd.fo "has_open_corners" (top 27) m1 168),
 (175,Hd.co "step_cost" 399 70 4 170 (.ref 172) (.ref 173) 174 409),
 (176,Hd.fo "step_cost" (top 28) m1 175),
 (182,Hd.co "steps_from" 412 81 3 177 (.ref 179) (.ref 180) 181 421),
 (183,Hd.fo "steps_from" (top 29) m1 182),
 (187,Hd.co "is_list_of_open_spots" 424 89 2 184 .none .none 186 427),
 (188,Hd.fo "is_list_of_open_spots" (top 30) m1 187),
 (194,Hd.co "spot_at" 432 94 2 189 (.ref 191) (.ref 192) 193 437),
 (195,Hd.fo "spot_at" (top 32) m2 194),
 (199,Hd.co "moves_at" 440 96 2 196 .none .none 198 443),
 (200,Hd.fo "moves_at" (top 33) m2 199),
 (204,Hd.co "still_from" 446 98 1 201 .none .none 203 449),
 (205,Hd.fo "still_from" (top 34) m2 204),
 (211,Hd.co "is_step_or_wait" 452 100 4 206 (.ref 208) (.ref 209) 210 459),
 (212,Hd.fo "is_step_or_wait" (top 35) m2 211),
 (216,Hd.co "is_way_in_time" 462 102 3 213 .none .none 215 465),
 (217,Hd.fo "is_way_in_time" (top 36) m2 216),
 (221,Hd.co "are_moves_apart" 468 106 1 218 .none .none 220 471),
 (222,Hd.fo "are_moves_apart" (top 37) m2 221),
 (226,Hd.co "keep_apart" 474 111 1 223 .none .none 225 477),
 (227,Hd.fo "keep_apart" (top 38) m2 226),
 (233,Hd.co "fulfils_plan" 480 113 5 228 (.ref 230) (.ref 231) 232 488),
 (234,Hd.fo "fulfils_plan" (top 39) m2 233),
 (238,Hd.co "is_plan" 491 117 5 235 .none .none 237 494),
 (239,Hd.fo "is_plan" (top 40) m2 238),
 (245,Hd.co "spread" 499 124 2 240 (.ref 242) (.ref 243) 244 511),
 (246,Hd.fo "spread" (top 42) m3 245),
 (252,Hd.co "need_size" 516 138 1 247 (.ref 249) (.ref 250) 251 520),
 (253,Hd.fo "need_size" (top 44) m4 252),
 (257,Hd.co "rim_of" 523 141 2 254 .none .none 256 526),
 (258,Hd.fo "rim_of" (top 45) m4 257),
 (262,Hd.co "clearance" 529 145 2 259 .none .none 261 532),
 (263,Hd.fo "clearance" (top 46) m4 262),
 (269,Hd.co "shrunk_sign" 535 151 3 264 (.ref 266) (.ref 267) 268 542),
 (270,Hd.fo "shrunk_sign" (top 47) m4 269),
 (274,Hd.co "shrunk" 545 156 2 271 .none .none 273 548),
 (275,Hd.fo "shrunk" (top 48) m4 274),
 (281,Hd.co "block_of" 553 163 2 276 (.ref 278) (.ref 279) 280 558),
 (282,Hd.fo "block_of" (top 50) m5 281),
 (286,Hd.co "steps_within" 561 165 4 283 .none .none 285 564),
 (287,Hd.fo "steps_within" (top 51) m5 286),
 (291,Hd.co "steps_out" 567 168 4 288 .none .none 290 570),
 (292,Hd.fo "steps_out" (top 52) m5 291),
 (296,Hd.co "gates" 573 171 3 293 .none .none 295 576),
 (297,Hd.fo "gates" (top 53) m5 296),
 (301,Hd.co "hops_from" 579 174 5 298 .none .none 300 582),
 (302,Hd.fo "hops_from" (top 54) m5 301),
 (306,Hd.co "hops" 585 178 3 303 .none .none 305 588),
 (307,Hd.fo "hops" (top 55) m5 306),
 (313,Hd.co "_law_cell" 593 185 2 308 (.ref 310) (.ref 311) 312 598),
 (314,Hd.fo "_law_cell" (top 57) m6 313),
 (320,Hd.co "_law_pick" 601 191 3 315 (.ref 317) (.ref 318) 319 608),
 (321,Hd.fo "_law_pick" (top 58) m6 320),
 (327,Hd.co "_law_word" 611 194 1 322 (.ref 324) (.ref 325) 326 616),
 (328,Hd.fo "_law_word" (top 59) m6 327),
 (334,Hd.co "_law_do" 619 199 3 329 (.ref 331) (.ref 332) 333 629),
 (335,Hd.fo "_law_do" (top 60) m6 334),
 (339,Hd.co "_law_are_ways_told" 632 213 1 336 .none .none 338 635),
 (340,Hd.fo "_law_are_ways_told" (top 61) m6 339),
 (346,Hd.co "_law_are_two_told" 638 233 1 341 (.ref 343) (.ref 344) 345 658),
 (347,Hd.fo "_law_are_two_told" (top 62) m6 346),
 (351,Hd.co "law" 661 256 1 348 .none .none 350 664),
 (352,Hd.fo "law" (top 63) m6 351)]
def ts:List (Addr×Str):=[(241,ng "spread"),(299,ng "hops_from")]
noncomputable def K2(P:Params):zz8:=K P++[(241,PySem.W.tabObj #[]),(299,PySem.W.tabObj #[])]
noncomputable def as:List Addr:=[2,3,4,23,24,36,37,48,49,60,61,72,73,81,82,88,89,93,94,98,99,105,106,112,113,119,120,126,127,133,134,140,141,147,148,154,155,161,162,168,169,175,176,182,183,187,188,194,195,199,200,204,205,211,212,216,217,221,222,226,227,233,234,238,239,245,246,252,253,257,258,262,263,269,270,274,275,281,282,286,287,291,292,296,297,301,302,306,307,313,314,320,321,327,328,334,335,339,340,346,347,351,352,241,299]
noncomputable def Γ:Pg:=⟨[("WALL",(.str "#")),("SIGNS",(.str "#0123456789")),("LONGEST",(.int 12)),("HIGHEST_CLIMB",(.int 9)),("HIGHEST_UP",(.int 3)),("STRAIGHT_COST",(.int 2)),("SLANTING_COST",(.int 3))],["len","abs","max","min","int","str","list","tuple","all","isinstance","bool","range","enumerate","zip","ValueError","sorted","dict","any"],["FloorError","NoSign","NoSize","NoSpot","NoWay"],[],["NoSize","NoSpot"],[],false⟩
def R0:cO:=[]
def hU:br (Γ.at R0 false) "are_moves_apart" cJ (top 37):=stM λ_ _ _ _ _ _=>Hd.tj λ_=>rfl
noncomputable def R1:cO:=⟨"are_moves_apart","are_moves_apart",cJ,top 37,false⟩::R0
def t5:br (Γ.at R1 false) "spot_at" jn (top 32):=stM λ_ _ _ _ _ _=>Hd.tV λ_ _=>rfl
noncomputable def R2:cO:=⟨"spot_at","spot_at",jn,top 32,false⟩::R1
def qY:br (Γ.at R2 false) "moves_at" ij (top 33):=stM λ_ _ _ _ _ _=>Hd.tV λ_ _=>rfl
noncomputable def R3:cO:=⟨"moves_at","moves_at",ij,top 33,false⟩::R2
def nk:br (Γ.at R3 false) "still_from" fj (top 34):=stM λ_ _ _ _ _ _=>Hd.tj λ_=>rfl
noncomputable def R4:cO:=⟨"still_from","still_from",fj,top 34,false⟩::R3
def nv:br (Γ.at R4 false) "keep_apart" eU (top 38):=stM λ_ _ _ _ _ _=>Hd.tj λ_=>rfl
noncomputable def R5:cO:=⟨"keep_apart","keep_apart",eU,top 38,false⟩::R4
def rf:br (Γ.at R5 false) "is_whole" hW (top 14):=stM λ_ _ _ _ _ _=>Hd.tj λ_=>rfl
noncomputable def R6:cO:=⟨"is_whole","is_whole",hW,top 14,false⟩::R5
def tP:br (Γ.at R6 false) "is_spot" jv (top 19):=stM λ_ _ _ _ _ _=>Hd.tj λ_=>rfl
noncomputable def R7:cO:=⟨"is_spot","is_spot",jv,top 19,false⟩::R6
def lF:br (Γ.at R7 false) "is_on_floor" en (top 20):=stM λ_ _ _ _ _ _=>Hd.tV λ_ _=>rfl
noncomputable def R8:cO:=⟨"is_on_floor","is_on_floor",en,top 20,false⟩::R7
def ud:br (Γ.at R8 false) "is_open" jo (top 21):=stM λ_ _ _ _ _ _=>Hd.tV λ_ _=>rfl
noncomputable def R9:cO:=⟨"is_open","is_open",jo,top 21,false⟩::R8
def et:br (Γ.at R9 false) "is_list_of_open_spots" bJ (top 30):=stM λ_ _ _ _ _ _=>Hd.tV λ_ _=>rfl
noncomputable def Wv:cO:=⟨"is_list_of_open_spots","is_list_of_open_spots",bJ,top 30,false⟩::R9
def nu:br (Γ.at Wv false) "are_beside" fg (top 26):=stM λ_ _ _ _ _ _=>Hd.tV λ_ _=>rfl
noncomputable def Vf:cO:=⟨"are_beside","are_beside",fg,top 26,false⟩::Wv
def qq:br (Γ.at Vf false) "need_open" f6 (top 22):=stM λ_ _ _ _ _ _=>Hd.tV λ_ _=>rfl
noncomputable def Wb:cO:=⟨"need_open","need_open",f6,top 22,false⟩::Vf
def qg:br (Γ.at Wb false) "height_at" f9 (top 24):=stM λ_ _ _ _ _ _=>Hd.tV λ_ _=>rfl
noncomputable def WR:cO:=⟨"height_at","height_at",f9,top 24,false⟩::Wb
def gU:br (Γ.at WR false) "has_open_corners" cw (top 27):=stM λ_ _ _ _ _ _=>Hd.F4 λ_ _ _=>rfl
noncomputable def WE:cO:=⟨"has_open_corners","has_open_corners",cw,top 27,false⟩::WR
def o8:br (Γ.at WE false) "step_cost" fQ (top 28):=stM λ_ _ _ _ _ _=>Hd.RR λ_ _ _ _=>rfl
noncomputable def VM:cO:=⟨"step_cost","step_cost",fQ,top 28,false⟩::WE
def iw:br (Γ.at VM false) "is_step_or_wait" cF (top 35):=stM λ_ _ _ _ _ _=>Hd.RR λ_ _ _ _=>rfl
noncomputable def WG:cO:=⟨"is_step_or_wait","is_step_or_wait",cF,top 35,false⟩::VM
def jh:br (Γ.at WG false) "is_way_in_time" cY (top 36):=stM λ_ _ _ _ _ _=>Hd.F4 λ_ _ _=>rfl
noncomputable def Xg:cO:=⟨"is_way_in_time","is_way_in_time",cY,top 36,false⟩::WG
def j8:br (Γ.at Xg false) "fulfils_plan" dO (top 39):=stM λ_ _ _ _ _ _=>Hd.UQ λ_ _ _ _ _=>rfl
noncomputable def Xa:cO:=⟨"fulfils_plan","fulfils_plan",dO,top 39,false⟩::Xg
def t7:br (Γ.at Xa false) "is_plan" jX (top 40):=stM λ_ _ _ _ _ _=>Hd.UQ λ_ _ _ _ _=>rfl
noncomputable def Vn:cO:=⟨"is_plan","is_plan",jX,top 40,false⟩::Xa
def pj:br (Γ.at Vn false) "_law_cell" cB (top 57):=stM λ_ _ _ _ _ _=>Hd.tV λ_ _=>rfl
noncomputable def Vx:cO:=⟨"_law_cell","_law_cell",cB,top 57,false⟩::Vn
def oX:br (Γ.at Vx false) "_law_pick" bF (top 58):=stM λ_ _ _ _ _ _=>Hd.F4 λ_ _ _=>rfl
noncomputable def V6:cO:=⟨"_law_pick","_law_pick",bF,top 58,false⟩::Vx
def fA:br (Γ.at V6 false) "_law_are_ways_told" aB (top 61):=stM λ_ _ _ _ _ _=>Hd.tj λ_=>rfl
noncomputable def W3:cO:=⟨"_law_are_ways_told","_law_are_ways_told",aB,top 61,false⟩::V6
def fH:br (Γ.at W3 false) "_law_are_two_told" aC (top 62):=stM λ_ _ _ _ _ _=>Hd.tj λ_=>rfl
noncomputable def Wz:cO:=⟨"_law_are_two_told","_law_are_two_told",aC,top 62,false⟩::W3
def uD:br (Γ.at Wz false) "is_sign" ju (top 15):=stM λ_ _ _ _ _ _=>Hd.tj λ_=>rfl
noncomputable def Wr:cO:=⟨"is_sign","is_sign",ju,top 15,false⟩::Wz
def vV:br (Γ.at Wr false) "is_row" lR (top 16):=stM λ_ _ _ _ _ _=>Hd.tj λ_=>rfl
noncomputable def WJ:cO:=⟨"is_row","is_row",lR,top 16,false⟩::Wr
def rF:br (Γ.at WJ false) "is_floor" ae (top 17):=stM λ_ _ _ _ _ _=>Hd.tj λ_=>rfl
noncomputable def W7:cO:=⟨"is_floor","is_floor",ae,top 17,false⟩::WJ
def oW:br (Γ.at W7 false) "is_walker" fJ (top 18):=stM λ_ _ _ _ _ _=>Hd.tj λ_=>rfl
noncomputable def Wn:cO:=⟨"is_walker","is_walker",fJ,top 18,false⟩::W7
def qh:br (Γ.at Wn false) "_law_word" gy (top 59):=stM λ_ _ _ _ _ _=>Hd.tj λ_=>rfl
noncomputable def Wk:cO:=⟨"_law_word","_law_word",gy,top 59,false⟩::Wn
def pE:br (Γ.at Wk false) "need_size" gj (top 44):=stM λ_ _ _ _ _ _=>Hd.tj λ_=>rfl
noncomputable def Wt:cO:=⟨"need_size","need_size",gj,top 44,false⟩::Wk
def xK:br (Γ.at Wt false) "rim_of" lB (top 45):=stM λ_ _ _ _ _ _=>Hd.tV λ_ _=>rfl
noncomputable def WH:cO:=⟨"rim_of","rim_of",lB,top 45,false⟩::Wt
def oV:br (Γ.at WH false) "clearance" ay (top 46):=stM λ_ _ _ _ _ _=>Hd.tV λ_ _=>rfl
noncomputable def Vt:cO:=⟨"clearance","clearance",ay,top 46,false⟩::WH
def lK:br (Γ.at Vt false) "shrunk_sign" eB (top 47):=stM λ_ _ _ _ _ _=>Hd.F4 λ_ _ _=>rfl
noncomputable def VN:cO:=⟨"shrunk_sign","shrunk_sign",eB,top 47,false⟩::Vt
def xN:br (Γ.at VN false) "shrunk" av (top 48):=stM λ_ _ _ _ _ _=>Hd.tV λ_ _=>rfl
noncomputable def VT:cO:=⟨"shrunk","shrunk",av,top 48,false⟩::VN
def nh:br (Γ.at VT false) "open_spots" eZ (top 23):=stM λ_ _ _ _ _ _=>Hd.tj λ_=>rfl
noncomputable def Wf:cO:=⟨"open_spots","open_spots",eZ,top 23,false⟩::VT
def qU:br (Γ.at Wf false) "block_of" hJ (top 50):=stM λ_ _ _ _ _ _=>Hd.tV λ_ _=>rfl
noncomputable def VL:cO:=⟨"block_of","block_of",hJ,top 50,false⟩::Wf
def fY:br (Γ.at VL false) "open_spots_beside" bY (top 25):=stM λ_ _ _ _ _ _=>Hd.tV λ_ _=>rfl
noncomputable def Vz:cO:=⟨"open_spots_beside","open_spots_beside",bY,top 25,false⟩::VL
def mV:br (Γ.at Vz false) "steps_from" eW (top 29):=stM λ_ _ _ _ _ _=>Hd.F4 λ_ _ _=>rfl
noncomputable def Vq:cO:=⟨"steps_from","steps_from",eW,top 29,false⟩::Vz
def pF:br (Γ.at Vq false) "steps_out" fZ (top 52):=stM λ_ _ _ _ _ _=>Hd.RR λ_ _ _ _=>rfl
noncomputable def VY:cO:=⟨"steps_out","steps_out",fZ,top 52,false⟩::Vq
def Bu:br (Γ.at VY false) "gates" aG (top 53):=stM λ_ _ _ _ _ _=>Hd.F4 λ_ _ _=>rfl
noncomputable def WT:cO:=⟨"gates","gates",aG,top 53,false⟩::VY
def j9:br (Γ.at WT false) "steps_within" dP (top 51):=stM λ_ _ _ _ _ _=>Hd.RR λ_ _ _ _=>rfl
noncomputable def VB:cO:=⟨"steps_within","steps_within",dP,top 51,false⟩::WT
def dW:br (Γ.at VB true) "spread" bG (top 42):=stM λ_ _ _ _ _ _=>Hd.tV λ_ _=>rfl
noncomputable def Vw:cO:=⟨"spread@steps_within","spread",bG,top 42,true⟩::VB
def oT:br (Γ.at Vw true) "hops_from" fW (top 54):=stM λ_ _ _ _ _ _=>Hd.UQ λ_ _ _ _ _=>rfl
noncomputable def W5:cO:=⟨"hops_from","hops_from",fW,top 54,true⟩::Vw
def Cf:br (Γ.at W5 false) "hops" jV (top 55):=stM λ_ _ _ _ _ _=>Hd.F4 λ_ _ _=>rfl
noncomputable def Wg:cO:=⟨"hops","hops",jV,top 55,false⟩::W5
def sR:br (Γ.at Wg false) "_law_do" bO (top 60):=stM λ_ _ _ _ _ _=>Hd.F4 λ_ _ _=>rfl
noncomputable def Sb:cO:=⟨"_law_do","_law_do",bO,top 60,false⟩::Wg
def Ng:br (Γ.at Sb false) "law" md (top 63):=stM λ_ _ _ _ _ _=>Hd.tj λ_=>rfl
def oC(P:Params):gk (K P) 245 241:=⟨Hd.co "spread" 499 124 2 240 (.ref 242) (.ref 243) 244 511,_,_,_,_,_,_,_,_,by kernel_rfl,rfl,rfl,rfl,rfl,rfl,rfl,rfl,rfl,by decide⟩
def jd(P:Params):gk (K P) 301 299:=⟨Hd.co "hops_from" 579 174 5 298 .none .none 300 582,_,_,_,_,_,_,_,_,by kernel_rfl,rfl,rfl,rfl,rfl,rfl,rfl,rfl,rfl,by decide⟩
def PZ(ns:List Int)(hl:ns.length<=63):af (den (tab Sb)) md [.lst (ns.map .int)]=.ok (.bl true):=Pw ns hl
def UU(P:Params):AllK (K P) ts Γ Sb:=
 Hd.ac (Hd.ent 335 334 m6) sR <| Hd.ac (Hd.ent 307 306 m5) Cf <| Hd.ac (Hd.Qf 302 301 299 m5 (jd P) (by decide+kernel) (by decide+kernel)) oT <| Hd.ac (Hd.Qf 246 245 241 m3 (oC P) (by decide+kernel) (by decide+kernel)) dW <| Hd.ac (Hd.ent 287 286 m5) j9 <| Hd.ac (Hd.ent 297 296 m5) Bu <| Hd.ac (Hd.ent 292 291 m5) pF <| Hd.ac (Hd.ent 183 182 m1) mV <| Hd.ac (Hd.ent 155 154 m1) fY <| Hd.ac (Hd.ent 282 281 m5) qU <| Hd.ac (Hd.ent 141 140 m1) nh <| Hd.ac (Hd.ent 275 274 m4) xN <| Hd.ac (Hd.ent 270 269 m4) lK <| Hd.ac (Hd.ent 263 262 m4) oV <| Hd.ac (Hd.ent 258 257 m4) xK <| Hd.ac (Hd.ent 253 252 m4) pE <| Hd.ac (Hd.ent 328 327 m6) qh <| Hd.ac (Hd.ent 106 105 m1) oW <| Hd.ac (Hd.ent 99 98 m1) rF <| Hd.ac (Hd.ent 94 93 m1) vV <| Hd.ac (Hd.ent 89 88 m1) uD <| Hd.ac (Hd.ent 347 346 m6) fH <| Hd.ac (Hd.ent 340 339 m6) fA <| Hd.ac (Hd.ent 321 320 m6) oX <| Hd.ac (Hd.ent 314 313 m6) pj <| Hd.ac (Hd.ent 239 238 m2) t7 <| Hd.ac (Hd.ent 234 233 m2) j8 <| Hd.ac (Hd.ent 217 216 m2) jh <| Hd.ac (Hd.ent 212 211 m2) iw <| Hd.ac (Hd.ent 176 175 m1) o8 <| Hd.ac (Hd.ent 169 168 m1) gU <| Hd.ac (Hd.ent 148 147 m1) qg <| Hd.ac (Hd.ent 134 133 m1) qq <| Hd.ac (Hd.ent 162 161 m1) nu <| Hd.ac (Hd.ent 188 187 m1) et <| Hd.ac (Hd.ent 127 126 m1) ud <| Hd.ac (Hd.ent 120 119 m1) lF <| Hd.ac (Hd.ent 113 112 m1) tP <| Hd.ac (Hd.ent 82 81 m1) rf <| Hd.ac (Hd.ent 227 226 m2) nv <| Hd.ac (Hd.ent 205 204 m2) nk <| Hd.ac (Hd.ent 200 199 m2) qY <| Hd.ac (Hd.ent 195 194 m2) t5 <| Hd.ac (Hd.ent 222 221 m2) hU trivial
structure Kl(K:zz8)(d:Str)(D:Addr):Prop where
 e:PySem.W.nsIn K mainGlobals d=some (some (.ref D))
 xc:mj K D
 vt:PySem.W.kitOne K (.ref D) (.type "ValueError")=some true
 ex:PySem.W.excIn K D yH "ValueError.__new__"=true
def Rk{K:zz8}{d:Str}{D:Addr}(e:PySem.W.nsIn K mainGlobals d=some (some (.ref D)):=by kernel_rfl)(i:PySem.W.isClsIn K D=true:=by kernel_rfl)(v:PySem.W.subIn K (.ref D) (.type "ValueError")=some true:=by kernel_rfl)(ga:PySem.W.findIn K (.ref D) "__getattribute__"=some (some (.builtin "BaseException.__getattribute__")):=by kernel_rfl)(hk:PySem.W.findIn K (.ref D) "__getattr__"=some none:=by kernel_rfl)
 (cl:PySem.W.findIn K (.ref D) "__class__"=some (some (.builtin "object.__class__")):=by kernel_rfl) (mo:PySem.W.mroIn K D (.type "object")=some true:=by kernel_rfl) (mb:PySem.W.mroIn K D (.type "BaseException")=some true:=by kernel_rfl) (ex:PySem.W.excIn K D yH "ValueError.__new__"=true:=by kernel_rfl):Kl K d D:=
 ⟨e,⟨ga,hk,cl,mo,mb,i⟩,zI (by decide+kernel) v,ex⟩
def SO(P:Params){mg:Str->Option Value}{h:Heap}(X:(K P).In h)(G:h.Ns mainGlobals mg):sL (K P) mg Γ ⟨K P,mg,["NoSize","NoSpot"],ts⟩:=by
 have iH:∀{x:Str} {u:Value},PySem.W.nsIn (K P) mainGlobals x=some (some u)->mg x=some u:=λa=>PySem.W.mg_of X G a
 have qx:∀{x:Str},PySem.W.nsIn (K P) mainGlobals x=some none->mg x=none:=λa=>PySem.W.mg_none_of X G a
 have cI:Kl (K P) "NoSize" 73:=Rk
 have cC:Kl (K P) "NoSpot" 37:=Rk
 have dB:PySem.W.nsIn (K P) mainGlobals "FloorError"=some (some (.ref 24)):=by kernel_rfl
 have lj:PySem.W.nsIn (K P) mainGlobals "NoSign"=some (some (.ref 61)):=by kernel_rfl
 have pH:PySem.W.nsIn (K P) mainGlobals "NoWay"=some (some (.ref 49)):=by kernel_rfl
 refine⟨rfl,rfl,λq hq=>?_,λg hg=>?_,by decide+kernel,λc hc=>?_,λd hd D hD=>?_,λc hc=>?_,λc hc=>?_,λ_ c D hc hD T hT=>?_,λ_=>⟨4,⟨.type "module",some builtinsNs,.plain,#[]⟩,iH (by kernel_rfl),by decide,by decide,by kernel_rfl,rfl,rfl,rfl⟩⟩
 ·simp! [Γ,zzm,List.not_mem_nil,or_false] at hq;rcases hq with rfl|rfl|rfl|rfl|rfl|rfl|rfl
  ·exact⟨.str "#" 273,.str "#",iH (by kernel_rfl),⟨_,rfl⟩,λG=>.s⟩
  ·exact⟨.str "#0123456789" 275,.str "#0123456789",iH (by kernel_rfl),⟨_,rfl⟩,λG=>.s⟩
  ·exact⟨.int 12 277,.int 12,iH (by kernel_rfl),⟨_,rfl⟩,λG=>.i⟩
  ·exact⟨.int 9 279,.int 9,iH (by kernel_rfl),⟨_,rfl⟩,λG=>.i⟩
  ·exact⟨.int 3 281,.int 3,iH (by kernel_rfl),⟨_,rfl⟩,λG=>.i⟩
  ·exact⟨.int 2 283,.int 2,iH (by kernel_rfl),⟨_,rfl⟩,λG=>.i⟩
  ·exact⟨.int 3 285,.int 3,iH (by kernel_rfl),⟨_,rfl⟩,λG=>.i⟩
 ·simp! [Γ,zzm,List.not_mem_nil,or_false] at hg;rcases hg with rfl|rfl|rfl|rfl|rfl|rfl|rfl|rfl|rfl|rfl|rfl|rfl|rfl|rfl|rfl|rfl|rfl|rfl
  ·exact qx (by kernel_rfl)
  ·exact qx (by kernel_rfl)
  ·exact qx (by kernel_rfl)
  ·exact qx (by kernel_rfl)
  ·exact qx (by kernel_rfl)
  ·exact qx (by kernel_rfl)
  ·exact qx (by kernel_rfl)
  ·exact qx (by kernel_rfl)
  ·exact qx (by kernel_rfl)
  ·exact qx (by kernel_rfl)
  ·exact qx (by kernel_rfl)
  ·exact qx (by kernel_rfl)
  ·exact qx (by kernel_rfl)
  ·exact qx (by kernel_rfl)
  ·exact qx (by kernel_rfl)
  ·exact qx (by kernel_rfl)
  ·exact qx (by kernel_rfl)
  ·exact qx (by kernel_rfl)
 ·simp! [Γ,zzm,List.not_mem_nil,or_false] at hc;rcases hc with rfl|rfl|rfl|rfl|rfl
  ·exact⟨_,iH dB⟩
  ·exact⟨_,iH lj⟩
  ·exact⟨_,iH cI.e⟩
  ·exact⟨_,iH cC.e⟩
  ·exact⟨_,iH pH⟩
 ·simp! [zzm,List.not_mem_nil,or_false] at hd;rcases hd with rfl|rfl
  ·cases(iH cI.e).symm.trans hD;refine⟨cI.xc,λc hc C hC=>?_,cI.vt⟩
   simp! [Γ,zzm,List.not_mem_nil,or_false] at hc;rcases hc with rfl|rfl|rfl|rfl|rfl
   ·cases(iH dB).symm.trans hC;exact b9 (by kernel_rfl) (by kernel_rfl) (by kernel_rfl) (.inl rfl)
   ·cases(iH lj).symm.trans hC;exact b9 (by kernel_rfl) (by kernel_rfl) (by kernel_rfl) (.inr (by decide))
   ·cases(iH cI.e).symm.trans hC;exact b9 (by kernel_rfl) (by kernel_rfl) (by kernel_rfl) (.inl rfl)
   ·cases(iH cC.e).symm.trans hC;exact b9 (by kernel_rfl) (by kernel_rfl) (by kernel_rfl) (.inr (by decide))
   ·cases(iH pH).symm.trans hC;exact b9 (by kernel_rfl) (by kernel_rfl) (by kernel_rfl) (.inr (by decide))
  ·cases(iH cC.e).symm.trans hD;refine⟨cC.xc,λc hc C hC=>?_,cC.vt⟩
   simp! [Γ,zzm,List.not_mem_nil,or_false] at hc;rcases hc with rfl|rfl|rfl|rfl|rfl
   ·cases(iH dB).symm.trans hC;exact b9 (by kernel_rfl) (by kernel_rfl) (by kernel_rfl) (.inl rfl)
   ·cases(iH lj).symm.trans hC;exact b9 (by kernel_rfl) (by kernel_rfl) (by kernel_rfl) (.inr (by decide))
   ·cases(iH cI.e).symm.trans hC;exact b9 (by kernel_rfl) (by kernel_rfl) (by kernel_rfl) (.inr (by decide))
   ·cases(iH cC.e).symm.trans hC;exact b9 (by kernel_rfl) (by kernel_rfl) (by kernel_rfl) (.inl rfl)
   ·cases(iH pH).symm.trans hC;exact b9 (by kernel_rfl) (by kernel_rfl) (by kernel_rfl) (.inr (by decide))
 ·simp! [Γ,zzn,zzm,List.not_mem_nil,or_false] at hc⊢;exact hc
 ·simp! [Γ,zzn,zzm,List.not_mem_nil,or_false] at hc;rcases hc with rfl|rfl
  ·exact⟨_,iH cI.e,cI.ex⟩
  ·exact⟨_,iH cC.e,cC.ex⟩
 ·simp! [zzm,List.not_mem_nil,or_false] at hc;cases(iH dB).symm.trans hT;rcases hc with rfl|rfl
  ·cases(iH cI.e).symm.trans hD;exact rR (by kernel_rfl) (by kernel_rfl) (by kernel_rfl) (by kernel_rfl)
  ·cases(iH cC.e).symm.trans hD;exact rR (by kernel_rfl) (by kernel_rfl) (by kernel_rfl) (by kernel_rfl)
def hY{P:Params}{h:Heap}(X:(K2 P).In h):(K P).In h/\∀p∈ts.map (·.1),h.get? p=some (PySem.W.tabObj #[]):=⟨λb o e=>X b o (Hd.BB e),λp hp=>by
 simp! [ts,zzF,List.map_nil,zzm,List.not_mem_nil,or_false] at hp;rcases hp with rfl|rfl
 ·exact X _ _ (by kernel_rfl)
 ·exact X _ _ (by kernel_rfl)
⟩
def hC(P:Params):∀p∈ts.map (·.1),(∃c,gk (K P) c p)/\(K P).lookup p=none:=λp hp=>by
 simp! [ts,zzF,List.map_nil,zzm,List.not_mem_nil,or_false] at hp;rcases hp with rfl|rfl
 ·exact⟨⟨_,oC P⟩,by kernel_rfl⟩
 ·exact⟨⟨_,jd P⟩,by kernel_rfl⟩
noncomputable def keep:List Nat:=[1,2,3,4,5,7,8,9,10,11,12,13,14,15,16,17,18,19,20,21,22,23,24,25,26,27,28,29,30,32,33,34,35,36,37,38,39,40,42,44,45,46,47,48,50,51,52,53,54,55,57,58,59,60,61,62,63]
def ka:∀P,as=(K2 P).map (·.1):=λ_=>by kernel_rfl
def left:PySem.W.LeftO lw.row.prog (PySem.W.view lw.row.prog keep) [] (λs=>PySem.W.xlAt (PySem.W.view lw.row.prog keep) [] s&&PySem.W.recOk lw.row.toRowW.records s) (PySem.W.kHook K2 as ka).obs (PySem.W.kHook K2 as ka).val 5098:=by
 refine Hd.Ej (T₀:=λP=>Hd.treeOf (PySem.W.boot_heap P).objs.toList) (m₀:=11) (life:={}) (ann:=some (.ref 6)) (M:=5048) (by kernel_rfl) (by kernel_rfl) (λs=>by kernel_rfl) Hd.Qk Hd.PQ (by kernel_rfl) λw os=>?_
 rw [PySem.W.Fast.te10156331382660048174,PySem.W.Fast.te11892475500146522536,PySem.W.Fast.te14364793385576792824,PySem.W.Fast.te6613529449190102663,PySem.W.Fast.te4187177175401517315,PySem.W.Fast.te5923862056798008813]
 kernel_rfl
end K96
open PySem PySem.W PyProof.Rows
set_option maxRecDepth 100000 in
set_option maxHeartbeats 0 in
theorem PySem.Challenge.cw_cellways_k96_whole_edges_holds : PySem.Challenge.rw_cellways_k96_whole_edges.Holds := by
 refine Hd.holds (d:=⟨"law",L2.cE (K96.top 63),L2.bW (K96.top 63),L2.aX (K96.top 63),Hd.SK (K96.top 63)⟩) (by kernel_rfl) K96.ka K96.left (by kernel_rfl) (by kernel_rfl) (by kernel_rfl) (by kernel_rfl) ⟨rfl,rfl,rfl,rfl,rfl,by decide+kernel⟩ ?hw ?hc
 case hw=>w_witness2
 case hc=>exact Ci.walk (l:=PySem.Challenge.rw_cellways_k96_whole_edges) K96.Sb K96.Γ "_law_script" K96.md ["NoSize","NoSpot"] K96.ts (K96.top 63) rfl rfl rfl rfl rfl ⟨rfl,by decide,by decide⟩ (λw h Y=>K96.hY (PySem.W.kIn_of Y)) (λw=>K96.hC w.params) (λw mg h KX G=>K96.SO _ KX G) (λw=>Hd.ent 352 351 K96.m6) K96.Ng (λw=>K96.UU _) K96.PZ
#print axioms PySem.Challenge.cw_cellways_k96_whole_edges_holds
