import PyProof.Rows.All
import Wide.All
import OpenK.AllK
import Wide.FinOn
import Lean
import PyProof.EqAt
import PyProof.EqKinds
import PyProof.TupleCall
import PySem.Challenge.RW_cellways_k04_whole_grounds
set_option Elab.async false
set_option linter.all false
set_option genSizeOf false
set_option genSizeOfSpec false
set_option bootstrap.genMatcherCode false
set_option compiler.extract_closed false
set_option compiler.reuse false
set_option maxRecDepth 100000
abbrev zz8:=PySem.W.Frag
local macro_rules | `(zz9 $x) => `(($x).heap.objs.size)
local macro_rules | `(tactic| simp! [$x,*] $[$l:location]?) => `(tactic| simp only [$x,*] $[$l]?)
theorem zzf:¬false=true:=Bool.false_ne_true
theorem zza(a b:Bool):((a&&b)=true)=(a=true/\b=true):=Bool.and_eq_true a b
theorem zzg.{u}{α:Type u}{l:List α}{i:Nat}(h:i<l.length):l[i]?=some l[i]:=List.getElem?_eq_getElem h
theorem zzl.{u,v}{α:Type u}{β:Type v}{l:List α}(f:α->β):(l.map f).length=l.length:=List.length_map f
def zzA:=@PySem.wpAny_bind
def zzB:=@PySem.Heap.get?_push_of_some
def zzC:=@List.size_toArray
def zzD:=@List.mem_of_getElem?
def zzE:=@Nat.le_refl
def zzF:=@List.map_cons
def zzG:=@PySem.wpAny_pure
def zzH:=@List.getElem?_eq_some_iff
def zzI:=@List.mem_cons_of_mem
def zzJ:=@Option.map_eq_some_iff
def zzK:=@List.getD_eq_getElem?_getD
def zzL:=@List.length_cons
def zzM:=@List.length_append
def zzN:=@decide_eq_true_eq
def zzO:=@PySem.Heap.lt_size
def zzP:=@List.mem_cons_self
def zzQ:=@List.getElem?_map
def zzR:=@List.mem_append_right
def zzS:=@List.getElem?_set_ne
def zzT:=@List.all_eq_true
def zzU:=@Nat.le_trans
def zzV:=@Nat.lt_of_le_of_lt
def zzW:=@Nat.lt_of_lt_of_le
def zzX:=@PySem.Heap.get?_push_size
def zzY:=@of_decide_eq_true
def zzZ:=@Option.bind_eq_some_iff
def zzb:=@Nat.ne_of_lt
def zzc:=@List.mem_append_left
def zzd:=@Array.length_toList
def zze:=@Bool.false_eq_true
def zzh:=@decide_eq_true
def zzi:=@List.mem_singleton
def zzk:=@False.elim
def zzm:=@List.mem_cons
def zzn:=@List.contains_iff_mem
def zzo:=@List.getElem?_set_self
def zzp:=@Option.isSome_iff_exists
def zzq:=@Option.some.inj
def zzr:=@List.getElem?_append_left
def zzs:=@List.getElem?_append_right
def zzt:=@Bool.or_eq_true
def zzu:=@PySem.Heap.SameBut.update
def zzw:=@Int.eq_ofNat_of_zero_le
def zzx:=@List.mem_map
def zzy:=@beq_iff_eq
def zz0:=@decide_eq_false
def zz1:=@List.mem_filterMap
def zz2:=@Array.getElem?_eq_getElem
def zz3:=@List.filter_cons
def zz4:=@Int.toNat_natCast
def zz5:=@List.lookup_cons
def zz6:=@List.append_nil
def zz7:=@PySem.Around.under_plainId
namespace L2
open PySem PySem.Spec PyProof.Rows
abbrev Key:=Sum Int Str
noncomputable def lH:Key->Value->Bool
 |.inl k,v=>Value.isInt k v
 |.inr x,v=>Value.isStrOf x v
noncomputable def J5(w:World):Key->Int
 |.inl k=>hashInt k
 |.inr x=>hashStr w x
theorem aQ:∀{k:Key} {v:Value},lH k v=true->(∃i t,k=Sum.inl i/\v=Value.int i t)\/(∃x t,k=Sum.inr x/\v=Value.str x t)
 |.inl i,v,h=>by
  obtain⟨t,e⟩:=Value.isInt_shape (k:=i) (v:=v) h
  exact .inl ⟨i,t,rfl,e⟩
 |.inr x,v,h=>by
  obtain⟨t,e⟩:=Value.isStrOf_shape (x:=x) (v:=v) h
  exact .inr ⟨x,t,rfl,e⟩
def uQ(i:Int)(t:Tok):lH (.inl i) (.int i t)=true:=by simp [lH,Value.isInt]
def uZ(x:Str)(t:Tok):lH (.inr x) (.str x t)=true:=by simp [lH,Value.isStrOf]
def E9(a b:Int):decide ((Sum.inl a:Key)=Sum.inl b)=(a==b):=by
 by_cases e:a=b
 ·subst e;simp
 ·have h:¬(Sum.inl a:Key)=Sum.inl b:=λq=>e (Sum.inl.inj q)
  rw [zz0 h];exact(beq_eq_false_iff_ne.mpr e).symm
def C4(a b:Str):decide ((Sum.inr a:Key)=Sum.inr b)=decide (a=b):=by
 by_cases e:a=b
 ·subst e;simp
 ·have h:¬(Sum.inr a:Key)=Sum.inr b:=λq=>e (Sum.inr.inj q)
  rw [zz0 h,zz0 e]
def DV(a:Int)(b:Str):decide ((Sum.inl a:Key)=Sum.inr b)=false:=zz0 (λq=>nomatch q)
def Dj(a:Str)(b:Int):decide ((Sum.inr a:Key)=Sum.inl b)=false:=zz0 (λq=>nomatch q)
noncomputable def aN(prog:Program)(w:World):PySem.KeyKind prog w Key where
 is:=lH
 hash:=J5 w
 inj:=λv a b ha hb=>by
  rcases aQ ha with⟨i,t,rfl,rfl⟩|⟨x,t,rfl,rfl⟩
  ·rcases aQ hb with⟨j,u,rfl,e⟩|⟨y,u,rfl,e⟩
   ·injection e with e1 _;rw [e1]
   ·exact nomatch e
  ·rcases aQ hb with⟨j,u,rfl,e⟩|⟨y,u,rfl,e⟩
   ·exact nomatch e
   ·injection e with e1 _;rw [e1]
 byValue:=λk v h=>by
  rcases aQ h with⟨i,t,rfl,rfl⟩|⟨x,t,rfl,rfl⟩<;>rfl
 pyHash:=λhv h=>by
  rcases aQ hv with⟨i,t,rfl,rfl⟩|⟨x,t,rfl,rfl⟩
  ·exact wpAny_pyHash_int h
  ·exact wpAny_pyHash_str h
 eqBool:=λhu hv h=>by
  rcases aQ hu with⟨i,t,rfl,rfl⟩|⟨x,t,rfl,rfl⟩
  ·rcases aQ hv with⟨j,u,rfl,rfl⟩|⟨y,u,rfl,rfl⟩
   ·rw [E9] at h;exact wpAny_eqBool_int h
   ·rw [DV] at h;exact SeqAt.EqAt.int_str i t y u _ _ _ _ h
  ·rcases aQ hv with⟨j,u,rfl,rfl⟩|⟨y,u,rfl,rfl⟩
   ·rw [Dj] at h;exact SeqAt.EqAt.str_int x t j u _ _ _ _ h
   ·rw [C4] at h;exact wpAny_eqBool_str h
 «strs»:=λk x t v h=>by
  rcases aQ h with⟨i,u,rfl,e⟩|⟨y,u,rfl,e⟩
  ·exact nomatch e
  ·injection e with e1 _
   subst e1;cases v<;>rfl
def oK(prog:Program)(w:World)(i:Int)(t:Tok):(aN prog w).is (.inl i) (.int i t)=true:=uQ i t
def o7(prog:Program)(w:World)(x:Str)(t:Tok):(aN prog w).is (.inr x) (.str x t)=true:=uZ x t
inductive V where
 |aI|bl (b:Bool)|int (i:Int)|str (x:Str)|KG (b:Array UInt8)|Kj (b:UInt64)|ref (a:Addr)|ty (n:String)
 deriving DecidableEq
def RelV:V->Value->Prop
 |.aI,u=>u=Value.none
 |.bl b,u=>u=Value.bool b
 |.int i,u=>∃t,u=Value.int i t
 |.str x,u=>∃t,u=Value.str x t
 |.KG b,u=>∃t,u=Value.bytes b t
 |.Kj b,u=>∃t,u=Value.float b t
 |.ref a,u=>u=Value.ref a
 |.ty n,u=>u=Value.type n
abbrev Vals:List V->List Value->Prop:=Paired RelV
def Vals.length{xs:List V}{us:List Value}(r:Vals xs us):xs.length=us.length:=Paired.length r
theorem Vals.get:∀{xs:List V} {us:List Value} {i:Nat} {x:V},Vals xs us->xs[i]?=some x->∃u,us[i]?=some u/\RelV x u
 |_,_,_,_,.nil,e=>by simp at e
 |_,_,0,_,.cons r _,e=>by simp at e;subst e;exact⟨_,rfl,r⟩
 |_,_,i+1,x,.cons _ t,e=>by
  obtain⟨u,h1,h2⟩:=Vals.get (i:=i) (x:=x) t (by simpa using e)
  exact⟨u,by simpa using h1,h2⟩
theorem Vals.set{x:V}{u:Value}(r:RelV x u):∀{xs:List V} {us:List Value} (i:Nat),Vals xs us->Vals (xs.set i x) (us.set i u)
 |_,_,_,.nil=>.nil
 |_,_,0,.cons _ t=>.cons r t
 |_,_,i+1,.cons q t=>.cons q (Vals.set r i t)
theorem Vals.append:∀{xs ys:List V} {us ws:List Value},Vals xs us->Vals ys ws->Vals (xs++ys) (us++ws)
 |_,_,_,_,.nil,s=>s
 |_,_,_,_,.cons r t,s=>.cons r (Vals.append t s)
def kh:Option V->Option Value->Prop
 |some v,some u=>RelV v u
 |none,none=>True
 |_,_=>False
def KV{κ:Type}:List (κ×V)->List (κ×Value)->Prop:=Paired λ(p:κ×V) (q:κ×Value)=>p.1=q.1/\RelV p.2 q.2
noncomputable def kV:Key->V
 |.inl i=>.int i
 |.inr x=>.str x
inductive HO where
 |lst (xs:List V)
 |tup (xs:List V)
 |dK (ai:List (Key×V))|dT (ai:List (List Key×V))
 |set (S:Int->Bool) (n:Nat)
 |ins (C dx:Addr) (fs:List (Str×V))
 |own (x:Addr)
 |xd (fs:List (Str×V))
 |met (f x:Addr)
 |rn (lo hi:Int)
 |cV (o:Obj) (u:HO)
 |fh (ps:Array Value)
 |ext (φ:Heap->Prop)
abbrev Hp:=Addr->Option HO
noncomputable def upd(H:Hp)(a:Addr)(o:HO):Hp:=λb=>if b=a then some o else H b
def aw{H:Hp}{a:Addr}{o:HO}:upd H a o a=some o:=by unfold upd;rw [if_pos rfl]
def af{H:Hp}{a b:Addr}{o:HO}(h:b≠a):upd H a o b=H b:=by unfold upd;rw [if_neg h]
def BU{H:Hp}{a b:Addr}{o u:HO}(h:H a=some o)(h':H b=some u)(d:o≠u):a≠b:=by
 intro e;subst e;rw [h] at h';exact d (zzq h')
def cD{H:Hp}{a b:Addr}{o:HO}(h:H a=some o)(h':H b=none):a≠b:=by
 intro e;subst e;rw [h] at h';cases h'
section
variable(P:Program)(w:World)
def aY(H:Hp)(h:Heap)(a:Addr):HO->Prop
 |.lst xs=>xs.length<=sizeLine/\∃(ae:List Value) (n:Nat),Vals xs ae/\h.get? a=some {cls:=.type "list",data:=.seq ae.toArray n}
 |.tup xs=>xs.length<=sizeLine/\∃ae:List Value,Vals xs ae/\IsTup h a ae.toArray
 |.dK ai=>ai.length<=sizeLine/\(a==sysModules)=false/\∃vs,KV ai vs/\h.DictOf (aN P w) a vs
 |.dT ai=>ai.length<=sizeLine/\(a==sysModules)=false/\∃xs:List (List Key×Addr×Value),
  Paired (λ(p:List Key×V) (q:List Key×Addr×Value)=>p.1=q.1/\H q.2.1=some (.tup (p.1.map kV))/\RelV p.2 q.2.2) ai xs/\
  ∃o es ep,h.get? a=some o/\o.ExactDict/\o.data=.dict es ep/\es.toList=xs.map (entryOfKey (tupleKind (aN P w)))/\(xs.map (·.1)).Nodup
 |.set S n=>h.SetOf (intKind P w) a S n
 |.ins C dx fs=>H dx=some (.own a)/\fs.length<=1000/\dx≠a/\h.get? a=some (PySem.W.instObj C dx)/\
  ∃mA,h.Ns1 dx mA/\(∀f,kh (fs.lookup f) (mA f))/\PySem.Within mA (fs.map (·.1))
 |.own _=>∃o,h.get? a=some o
 |.xd fs=>∃mA,h.Ns1 a mA/\∀f,kh (fs.lookup f) (mA f)
 |.rn lo hi=>∃t u v,h.get? a=some {cls:=.type "range",data:=.fields #[.int lo t,.int hi u,.int 1 v]}
 |.cV o u=>h.get? a=some o/\aY H h a u
 |.fh ps=>h.get? a=some {cls:=.none,data:=.fields ps}
 |.met f x=>h.get? a=some (PySem.W.methodObj (.ref f) (.ref x))
 |.ext φ=>φ h/\(∃o,h.get? a=some o)/\∀h1 h2:Heap,φ h1->(∀o,h1.get? a=some o->h2.get? a=some o)->φ h2
def fK(H:Hp)(h:Heap):Prop:=∀a o,H a=some o->aY P w H h a o
end
section
variable{P:Program}{w:World}{H H':Hp}{h h':Heap}{a:Addr}{o:HO}
def aY.lt(x:aY P w H h a o):a<h.objs.size:=by
 cases o with
 |lst xs=>obtain⟨_,_,_,_,e⟩:=x;exact zzO e
 |tup xs=>obtain⟨_,_,_,p⟩:=x;exact p.lt
 |dK ai=>obtain⟨_,_,_,_,o,_,_,e,_⟩:=x;exact zzO e
 |dT ai=>obtain⟨_,_,_,_,o,_,_,e,_⟩:=x;exact zzO e
 |set S n=>obtain⟨o,_,_,_,e,_⟩:=x;exact zzO e
 |ins C dx fs=>obtain⟨_,_,_,e,_⟩:=x;exact zzO e
 |own y=>obtain⟨_,e⟩:=x;exact zzO e
 |xd fs=>obtain⟨_,⟨_,_,_,e,_⟩,_⟩:=x;exact zzO e
 |rn lo hi=>obtain⟨_,_,_,e⟩:=x;exact zzO e
 |cV ob u=>obtain⟨e,_⟩:=x;exact zzO e
 |fh ps=>exact zzO (show h.get? a=some _ from x)
 |met f y=>exact zzO (show h.get? a=some _ from x)
 |ext φ=>obtain⟨_,⟨_,e⟩,_⟩:=x;exact zzO e
theorem Paired.Bt{α β:Type}{F G:α->β->Prop}:∀{l₁:List α} {l₂:List β},Paired F l₁ l₂->(∀a b,F a b->G a b)->Paired G l₁ l₂
 |_,_,.nil,_=>.nil
 |_,_,.cons r t,f=>.cons (f _ _ r) (Paired.Bt t f)
def aY.fH(x:aY P w H h a o)(k:∀b u,(b=a\/H b=some (.own a))->h.get? b=some u->h'.get? b=some u)
 (ho:∀b,H b=some (.own a)->H' b=some (.own a)) (ht:∀b xs,H b=some (.tup xs)->H' b=some (.tup xs)):aY P w H' h' a o:=by
 induction o with
 |lst xs=>obtain⟨z,ae,n,r,e⟩:=x;exact⟨z,ae,n,r,k _ _ (.inl rfl) e⟩
 |tup xs=>obtain⟨z,ae,r,ob,e,c⟩:=x;exact⟨z,ae,r,ob,k _ _ (.inl rfl) e,c⟩
 |dK ai=>obtain⟨z,y,vs,r,ob,es,ep,e,c⟩:=x;exact⟨z,y,vs,r,ob,es,ep,k _ _ (.inl rfl) e,c⟩
 |dT ai=>
  obtain⟨z,y,xs,r,ob,es,ep,e,c⟩:=x
  exact⟨z,y,xs,Paired.Bt r λp q z=>⟨z.1,ht _ _ z.2.1,z.2.2⟩,ob,es,ep,k _ _ (.inl rfl) e,c⟩
 |set S n=>obtain⟨ob,es,ep,t,e,c⟩:=x;exact⟨ob,es,ep,t,k _ _ (.inl rfl) e,c⟩
 |ins C dx fs=>
  obtain⟨d,z,ne,e,mA,⟨od,es,ep,e2,c⟩,r⟩:=x
  exact⟨ho _ d,z,ne,k _ _ (.inl rfl) e,mA,⟨od,es,ep,k _ _ (.inr d) e2,c⟩,r⟩
 |own y=>obtain⟨ob,e⟩:=x;exact⟨ob,k _ _ (.inl rfl) e⟩
 |xd fs=>obtain⟨mA,⟨od,es,ep,e,c⟩,r⟩:=x;exact⟨mA,⟨od,es,ep,k _ _ (.inl rfl) e,c⟩,r⟩
 |rn lo hi=>obtain⟨t,u,v,e⟩:=x;exact⟨t,u,v,k _ _ (.inl rfl) e⟩
 |cV ob u ih=>obtain⟨e,q⟩:=x;exact⟨k _ _ (.inl rfl) e,ih q⟩
 |fh ps=>
  have e:h.get? a=some {cls:=.none,data:=.fields ps}:=x
  show h'.get? a=some {cls:=.none,data:=.fields ps}
  exact k a _ (.inl rfl) e
 |met f y=>
  have e:h.get? a=some (PySem.W.methodObj (.ref f) (.ref y)):=x
  show h'.get? a=some (PySem.W.methodObj (.ref f) (.ref y))
  exact k a _ (.inl rfl) e
 |ext φ=>obtain⟨p,⟨o,e⟩,st⟩:=x;exact⟨st _ _ p λo q=>k _ _ (.inl rfl) q,⟨o,k _ _ (.inl rfl) e⟩,st⟩
def fK.lt(x:fK P w H h)(e:H a=some o):a<h.objs.size:=(x a o e).lt
def fK.fresh(x:fK P w H h)(e:h.objs.size<=a):H a=none:=by
 cases q:H a with
 |none=>rfl
 |some u=>exact absurd (zzW (x.lt q) e) (Nat.lt_irrefl _)
def fK.kept(x:fK P w H h)(k:∀b u,h.get? b=some u->h'.get? b=some u):fK P w H h':=λa o e=>
 (x a o e).fH (λb u _ q=>k b u q) (λ_ q=>q) λ_ _ q=>q
theorem fK.laid(x:fK P w H h)(k:∀b u,h.get? b=some u->h'.get? b=some u)(hp:h.objs.size<=a)(new:aY P w (upd H a o) h' a o):fK P w (upd H a o) h':=λb u e=>by
 have hn:=x.fresh hp
 by_cases hb:b=a
 ·subst hb;rw [aw] at e;cases e;exact new
 ·rw [af hb] at e;exact(x b u e).fH (λc v _ q=>k c v q) (λc q=>by rw [af (cD q hn)];exact q) λc xs q=>by rw [af (cD q hn)];exact q
end
def Rd(H:Hp)(a:Addr)(u:HO):Prop:=H a=some u\/∃o,H a=some (.cV o u)
def Rd.ok{P:Program}{w:World}{H:Hp}{h:Heap}{a:Addr}{u:HO}(r:Rd H a u)(x:fK P w H h):aY P w H h a u:=by
 rcases r with r|⟨o,r⟩
 ·exact x a u r
 ·obtain⟨_,q⟩:=x a _ r
  exact q
def GR:Option HO->Prop
 |some (.lst _)=>True
 |some (.dK _)=>True
 |some (.dT _)=>True
 |some (.set _ _)=>True
 |some (.ins _ _ _)=>True
 |some (.ext _)=>True
 |_=>False
section
variable{P:Program}{w:World}{H:Hp}{h h':Heap}{x e:Addr}{o':HO}
def fK.write(ok:fK P w H h)(mu:GR (H x))(he:e=x\/H e=some (.own x))(k:∀b u,b≠e->h.get? b=some u->h'.get? b=some u)(F7:∃u,h'.get? e=some u)
 (new:aY P w (upd H x o') h' x o'):fK P w (upd H x o') h':=λb u q=>by
 have Ic:∀c y,H c=some (.own y)->c≠x:=λc y r z=>by subst z;rw [r] at mu;exact mu
 have Kr:∀c xs,H c=some (.tup xs)->c≠x:=λc xs r z=>by subst z;rw [r] at mu;exact mu
 by_cases hb:b=x
 ·subst hb;rw [aw] at q;cases q;exact new
 ·rw [af hb] at q
  by_cases hbe:b=e
  ·have q':H b=some (.own x):=by
    rcases he with z|z
    ·exact absurd (hbe.trans z) hb
    ·rw [hbe];exact z
   rw [q] at q';cases q';obtain⟨v,hv⟩:=F7
   exact⟨v,by rw [hbe];exact hv⟩
  ·refine(ok b u q).fH (λc v hc r=>k c v ?_ r) (λc r=>by rw [af (Ic c b r)];exact r) λc xs r=>by rw [af (Kr c xs r)];exact r
   rcases hc with rfl|hc
   ·exact hbe
   ·rintro rfl
    rcases he with z|z
    ·exact Ic c b hc z
    ·rw [hc] at z;cases z;exact hb rfl
end
structure Un(fs ex:List Addr)(H H':Hp)(h h':Heap):Prop where
 keep:∀b o,h.get? b=some o->H b=none->b∉fs->b∉ex->h'.get? b=some o
 slot:∀b o,h.get? b=some o->H b=none->b∈fs->b∉ex->∃sl,h'.get? b=some {o with slots:=sl}
 free:∀b o,h.get? b=some o->H b=none->b∉ex->H' b=none
 there:∀b o,h.get? b=some o->b∉ex->∃o',h'.get? b=some o'
 iu:∀b xs,H b=some (.tup xs)->H' b=some (.tup xs)
 gL:∀b o u,H b=some (.cV o u)->H' b=some (.cV o u)
 g7:∀b ps,H b=some (.fh ps)->∃more,H' b=some (.fh (ps++more))
section
variable{fs ex:List Addr}{H H1:Hp}{h h1 h':Heap}{a x e:Addr}{o:HO}
def Un.any(u:Un fs ex H H1 h h1){b:Addr}{ob:Obj}(q:h.get? b=some ob)(n:H b=none)(hx:b∉ex):∃sl,h1.get? b=some {ob with slots:=sl}:=by
 by_cases hb:b∈fs
 ·exact u.slot b ob q n hb hx
 ·exact⟨ob.slots,u.keep b ob q n hb hx⟩
def Un.kept(k:∀b u,h.get? b=some u->h'.get? b=some u):Un fs ex H H h h':=
 ⟨λb ob q _ _ _=>k b ob q,λb ob q _ _ _=>⟨ob.slots,k b ob q⟩,λ_ _ _ n _=>n,λb ob q _=>⟨ob,k b ob q⟩,λ_ _ q=>q,λ_ _ _ q=>q,λ_ ps q=>⟨#[],by rw [q];simp⟩⟩
def Un.refl:Un fs ex H H h h:=Un.kept λ_ _ q=>q
theorem Un.laid(k:∀b u,h.get? b=some u->h'.get? b=some u)(hp:h.objs.size<=a)(hn:H a=none):Un fs ex H (upd H a o) h h' where
 keep:=λb u q _ _ _=>k b u q
 slot:=λb u q _ _ _=>⟨u.slots,k b u q⟩
 free:=λb u q n _=>by rw [af (zzb (zzW (zzO q) hp))];exact n
 there:=λb u q _=>⟨u,k b u q⟩
 iu:=λb xs q=>by rw [af (cD q hn)];exact q
 gL:=λb u xs q=>by rw [af (cD q hn)];exact q
 g7:=λb ps q=>⟨#[],by rw [af (cD q hn),q];simp⟩
def Un.write(mu:GR (H x))(he:e=x\/H e=some (.own x))(k:∀b u,b≠e->h.get? b=some u->h'.get? b=some u)(F7:∃u,h'.get? e=some u):Un fs ex H (upd H x o) h h':=by
 have hx:∀b,H b=none->b≠x:=λb n z=>by subst z;rw [n] at mu;exact mu
 have hb:∀b,H b=none->b≠e:=λb n z=>by
  subst z;rcases he with r|r
  ·exact hx b n r
  ·rw [n] at r;cases r
 have hm:∀b u,H b=some u->¬GR (some u)->b≠x:=λb u q nm z=>by subst z;rw [q] at mu;exact nm mu
 refine⟨λb u q n _ _=>k b u (hb b n) q,λb u q n _ _=>⟨u.slots,k b u (hb b n) q⟩,λb u q n _=>by rw [af (hx b n)];exact n,λb u q _=>?_,
  λb xs q=>by rw [af (hm b _ q λz=>z)];exact q,λb u xs q=>by rw [af (hm b _ q λz=>z)];exact q,λb ps q=>⟨#[],by rw [af (hm b _ q λz=>z),q];simp⟩⟩
 by_cases hbe:b=e
 ·subst hbe;exact F7
 ·exact⟨u,k b u hbe q⟩
end
noncomputable def Jz(h:Heap)(H:Hp):List Addr:=(List.range h.objs.size).filter λa=>(H a).isSome
noncomputable def nu(h:Heap)(H:Hp):Heap:=PySem.W.hideAll h (Jz h H)
def uB(h:Heap)(H:Hp):(nu h H).objs.size=h.objs.size:=PySem.W.hideAll_size _ _
theorem ya{h:Heap}{H:Hp}{b:Addr}{o:Obj}(e:h.get? b=some o)(n:H b=none):(nu h H).get? b=some o:=
 PySem.W.hideAll_get _ e λhm=>by
  have q:(H b).isSome=true:=(List.mem_filter.mp hm).2
  rw [n] at q;simp at q
def zF{h:Heap}{H:Hp}{b:Addr}{o:Obj}(e:(nu h H).get? b=some o):h.get? b=some o/\H b=none:=by
 have e':h.get? b=some o:=PySem.W.of_hideAll (Jz h H) e
 refine⟨e',?_⟩;cases q:H b with
 |none=>rfl
 |some x=>
  have hm:b∈Jz h H:=List.mem_filter.mpr ⟨List.mem_range.mpr (zzO e'),by simp [q]⟩
  have z:(nu h H).get? b=none:=PySem.W.hideAll_none (Jz h H) hm
  rw [z] at e;cases e
noncomputable def zK(g h:Heap)(L:Addr):List (Addr×Obj):=(List.range h.objs.size).filterMap λa=>if a=L\/(g.get? a).isSome=true then none else(h.get? a).map λo=>(a,o)
noncomputable def rest(g h:Heap)(L d:Addr):List (Addr×Obj):=(zK g h L).filter λp=>decide (p.1≠d)
structure Mod(K:zz8)(mg:Str->Option Value)(base:Heap):Prop where
 Mh:K.In base
 glob:base.Ns mainGlobals mg
 blt:∃mb,base.Ns builtinsNs mb/\∀x:Str,x≠"__name__"->mb x=bootBuiltins x
 nolimit:base.NoLimit
structure Cx where
 prog:Program
 w:World
 K:zz8
 mg:Str->Option Value
 base:Heap
 A:Around
 N:List Str
 s₀:Shared
 H₀:Hp
 env:Env
 outer:List Env
 stack:List Env
 ex:List Addr
 fn:Str->Bool
 calm:Bool
 pn:List (Addr×Obj)
 xe:Value->Shared->Prop
noncomputable def gD(l:List Env):List Addr:=l.filterMap (·.frame)
noncomputable abbrev Cx.fs(X:Cx):List Addr:=gD X.outer
def Jo(sc:Scope)(x:Str):Prop:=sc.names.lookup x=some .local\/sc.names.lookup x=some .cell\/sc.names.lookup x=some .free
def Loc(sc:Scope)(x:Str):Prop:=sc.names.lookup x=some .local\/sc.names.lookup x=some .cell
def Look(env:Env)(h:Heap)(m:Str->Option Value)(x:Str)(u:Value):Prop:=
 (env.kindOf x=some .local/\m x=some u)\/((env.kindOf x=some .cell\/env.kindOf x=some .free)/\∃c,env.cells.lookup x=some c/\h.IsCell c (some u))
structure Cx.Ok(X:Cx):Prop where
 mod:Mod X.K X.mg X.base
 kind:X.env.scope.kind=.function
 glob:X.env.globals=mainGlobals
 blt:X.env.builtins=builtinsNs
 above:X.s₀.heap.objs.size<=X.env.locals
 inj:∀x y c,X.env.cells.lookup x=some c->X.env.cells.lookup y=some c->x=y
 has:∀x,(X.env.kindOf x=some .cell\/X.env.kindOf x=some .free)->∃c,X.env.cells.lookup x=some c
 JC:∀x c,X.fn x=true->X.env.cells.lookup x=some c->X.s₀.heap.objs.size<=c
 hd:X.calm=true->X.A.handled=none
 frames:X.A.frames=some X.stack
 Hm:X.stack=X.outer\/(X.stack=X.env::X.outer/\X.env.frame=some X.env.locals)
 exf:∀b∈X.ex,b≠X.env.locals/\∀x c,X.env.cells.lookup x=some c->c≠b
 bs:∀b o,X.base.get? b=some o->X.s₀.heap.get? b=some o/\X.H₀ b=none
 B8:X.base.objs.size<=X.s₀.heap.objs.size
 zB:∀b o,X.base.get? b=some o->b∉X.ex
 CT:∀b∈X.ex,b∉X.fs
 k7:X.s₀.heap.FunFrames X.base X.outer
 ET:∀b∈X.fs,X.H₀ b=none
structure Inv(X:Cx)(aa:List (Addr×Obj))(σ:List (Option V))(H:Hp)(s:Shared):Prop where
 ok:X.Ok
 os:s.os=X.s₀.os
 bare:AllBare s.gens
 base:Un X.fs X.ex X.H₀ H X.s₀.heap s.heap
 loc:∃m,s.heap.Ns X.env.locals m/\∀(i:Nat) (x:Str) (v:V),X.N[i]?=some x->σ[i]?=some (some v)->Jo X.env.scope x->∃u,RelV v u/\Look X.env s.heap m x u
 cell:∀x c,X.env.cells.lookup x=some c->∃v,s.heap.IsCell c v
 free:H X.env.locals=none
 ik:∀x c,X.env.cells.lookup x=some c->H c=none
 pin:∀p∈X.pn++aa,s.heap.get? p.1=some p.2/\H p.1=none/\p.1≠X.env.locals/\p.1∉X.fs/\∀v,p.2.data≠.cell v
 aU:fK X.prog X.w H s.heap
 len:σ.length=X.N.length
section
variable{X:Cx}{aa:List (Addr×Obj)}{σ:List (Option V)}{H H':Hp}{s:Shared}{h':Heap}
theorem Cx.Ok.J0(ok:X.Ok){b:Addr}{o:Obj}(e:X.base.get? b=some o):b∉X.fs:=λhb=>by
 have:=(ok.k7.mem hb).1
 rw [e] at this;cases this
def Inv.bs(I:Inv X aa σ H s):∀b o,X.base.get? b=some o->s.heap.get? b=some o/\H b=none:=λb o e=>
 ⟨I.base.keep b o (I.ok.bs b o e).1 (I.ok.bs b o e).2 (I.ok.J0 e) (I.ok.zB b o e),I.base.free b o (I.ok.bs b o e).1 (I.ok.bs b o e).2 (I.ok.zB b o e)⟩
def Inv.bk(I:Inv X aa σ H s):∀b o,X.base.get? b=some o->s.heap.get? b=some o:=λb o e=>(I.bs b o e).1
def Inv.mod(I:Inv X aa σ H s):Mod X.K X.mg X.base:=I.ok.mod
def Inv.rY(I:Inv X aa σ H s):X.K.In s.heap:=I.ok.mod.Mh.keeps I.bk
theorem Inv.fr(I:Inv X aa σ H s):∃m,Fr X.base X.env.locals s.heap m:=
 let⟨m,hn,_⟩:=I.loc
 ⟨m,hn,I.bk,zzU I.ok.B8 I.ok.above⟩
theorem Inv.lt(I:Inv X aa σ H s):X.env.locals<(zz9 s):=let⟨_,hn,_⟩:=I.loc;hn.lt
def Inv.sz(I:Inv X aa σ H s):X.s₀.heap.objs.size<=(zz9 s):=zzU I.ok.above (Nat.le_of_lt I.lt)
theorem Inv.Mi(I:Inv X aa σ H s){a:Addr}(h:(zz9 s)<=a):a∉X.fs:=λhb=>by
 obtain⟨_,o,ho,_⟩:=I.ok.k7.mem hb
 exact absurd (zzW (zzO ho) (zzU I.sz h)) (Nat.lt_irrefl _)
theorem Inv.DH(I:Inv X aa σ H s):∀x c,X.env.cells.lookup x=some c->c≠X.env.locals:=λx c e z=>by
 obtain⟨v,o,ho,hd⟩:=I.cell x c e
 obtain⟨m,⟨o',es,ep,hV,hd',_⟩,_⟩:=I.loc
 rw [z,hV] at ho;cases ho;rw [hd'] at hd;cases hd
def Inv.k7(I:Inv X aa σ H s):s.heap.FunFrames X.base X.outer:=by
 have all:∀(l:List Env),(∀b∈gD l,b∈X.fs)->X.s₀.heap.FunFrames X.base l->s.heap.FunFrames X.base l:=by
  intro l
  induction l with
  |nil=>intro _ _;trivial
  |cons env r ih=>
   intro hs hl;obtain⟨hk,⟨L,o,hf,hn,ho,hd⟩,hr⟩:=hl
   have hL:L∈X.fs:=hs L (by unfold gD;rw [List.filterMap_cons,hf];exact zzP)
   obtain⟨sl,e⟩:=I.base.slot L o ho (I.ok.ET L hL) hL λz=>I.ok.CT L z hL
   exact⟨hk,⟨L,_,hf,hn,e,hd⟩,ih (λb hb=>hs b (by unfold gD;rw [List.filterMap_cons,hf];exact zzI _ hb)) hr⟩
 exact all X.outer (λ_ hb=>hb) I.ok.k7
def Inv.stack(I:Inv X aa σ H s):s.heap.FunFrames X.base X.stack:=by
 rcases I.ok.Hm with e|⟨e,hf⟩
 ·rw [e];exact I.k7
 ·rw [e];obtain⟨m,hn,_⟩:=I.loc
  refine .cons (by rw [I.ok.kind];decide) hf hn ?_ I.k7;exact Heap.get?_none_of_le (zzU I.ok.B8 I.ok.above)
def Inv.jq(I:Inv X aa σ H s):∀b∈gD X.stack,b∈X.env.locals::X.fs:=λb hb=>by
 rcases I.ok.Hm with e|⟨e,hf⟩
 ·rw [e] at hb;exact zzI _ hb
 ·rw [e] at hb;unfold gD at hb;rw [List.filterMap_cons,hf] at hb;exact hb
theorem Inv.mS(I:Inv X aa σ H s):∀b∈gD X.stack,H b=none:=λb hb=>by
 rcases zzm.mp (I.jq b hb) with e|hb
 ·rw [e];exact I.free
 ·obtain⟨_,o,ho,_⟩:=I.ok.k7.mem hb
  exact I.base.free b o ho (I.ok.ET b hb) λz=>I.ok.CT b z hb
def Inv.step{g':Array GenState}{t':Nat}{d':Drawn}{ch:List Addr}(I:Inv X aa σ H s)
 (yQ:∀b∈ch,(b∈X.ex\/X.s₀.heap.objs.size<=b)/\b≠X.env.locals/\(∀x c,X.env.cells.lookup x=some c->c≠b)/\∀p∈X.pn++aa,p.1≠b)
 (keep:∀b o,b≠X.env.locals->b∉X.fs->b∉ch->s.heap.get? b=some o->H b=none->h'.get? b=some o)
 (slot:∀b o,b≠X.env.locals->b∈X.fs->b∉ch->s.heap.get? b=some o->H b=none->∃sl,h'.get? b=some {o with slots:=sl}) (free:∀b o,b∉ch->s.heap.get? b=some o->H b=none->H' b=none)
 (there:∀b o,b∉ch->s.heap.get? b=some o->∃o',h'.get? b=some o')
 (iu:∀b xs,H b=some (.tup xs)->H' b=some (.tup xs)) (gL:∀b o u,H b=some (.cV o u)->H' b=some (.cV o u)) (g7:∀b ps,H b=some (.fh ps)->∃more,H' b=some (.fh (ps++more)))
 (ns:∀m,s.heap.Ns X.env.locals m->h'.Ns X.env.locals m) (aU:fK X.prog X.w H' h') (hg:AllBare g'):
 Inv X aa σ H' {s with heap:=h',gens:=g',drawn:=d',toks:=t'}:=by
 have Ng:∀b o,X.s₀.heap.get? b=some o->b≠X.env.locals:=λb o e=>zzb (zzW (zzO e) I.ok.above)
 have DI:∀b o,X.s₀.heap.get? b=some o->b∉X.ex->b∉ch:=λb o e hx hb=>by
  rcases(yQ b hb).1 with z|z
  ·exact hx z
  ·exact absurd (zzW (zzO e) z) (Nat.lt_irrefl _)
 have cellK:∀x c,X.env.cells.lookup x=some c->∀v,s.heap.IsCell c v->h'.IsCell c v:=λx c e v ⟨o,ho,hd⟩=>by
  have IV:c∉ch:=λz=>(yQ c z).2.2.1 x c e rfl
  by_cases hc:c∈X.fs
  ·obtain⟨sl,q⟩:=slot c o (I.DH x c e) hc IV ho (I.ik x c e)
   exact⟨_,q,hd⟩
  ·exact⟨o,keep c o (I.DH x c e) hc IV ho (I.ik x c e),hd⟩
 refine⟨I.ok,I.os,hg,⟨λb o e n hb hx=>?_,λb o e n hb hx=>?_,λb o e n hx=>?_,λb o e hx=>?_,λb xs e=>iu b xs (I.base.iu b xs e),λb o xs e=>gL b o xs (I.base.gL b o xs e),λb ps e=>?_⟩,?_,λx c e=>?_,?_,λx c e=>?_,λp hp=>?_,aU,I.len⟩
 ·exact keep b o (Ng b o e) hb (DI b o e hx) (I.base.keep b o e n hb hx) (I.base.free b o e n hx)
 ·obtain⟨sl,e1⟩:=I.base.slot b o e n hb hx
  obtain⟨sl',e2⟩:=slot b _ (Ng b o e) hb (DI b o e hx) e1 (I.base.free b o e n hx)
  exact⟨sl',e2⟩
 ·obtain⟨o',e1⟩:=I.base.there b o e hx
  exact free b o' (DI b o e hx) e1 (I.base.free b o e n hx)
 ·obtain⟨o',e1⟩:=I.base.there b o e hx
  exact there b o' (DI b o e hx) e1
 ·obtain⟨m1,e1⟩:=I.base.g7 b ps e
  obtain⟨m2,e2⟩:=g7 b _ e1
  exact⟨m1++m2,by rw [e2,Array.append_assoc]⟩
 ·obtain⟨m,hn,hl⟩:=I.loc
  refine⟨m,ns m hn,λi x v e1 e2 e3=>?_⟩
  obtain⟨u,r,l⟩:=hl i x v e1 e2 e3
  refine⟨u,r,?_⟩;rcases l with l|⟨k,c,e,z⟩
  ·exact .inl l
  ·exact .inr ⟨k,c,e,cellK x c e _ z⟩
 ·obtain⟨v,z⟩:=I.cell x c e
  exact⟨v,cellK x c e v z⟩
 ·obtain⟨m,⟨o,_,_,ho,_⟩,_⟩:=I.loc
  exact free _ o (λz=>(yQ _ z).2.1 rfl) ho I.free
 ·obtain⟨v,o,ho,hd⟩:=I.cell x c e
  exact free c o (λz=>(yQ c z).2.2.1 x c e rfl) ho (I.ik x c e)
 ·obtain⟨e,n,ne,nf,d⟩:=I.pin p hp
  have IV:p.1∉ch:=λz=>(yQ p.1 z).2.2.2 p hp rfl
  exact⟨keep p.1 p.2 ne nf IV e n,free p.1 p.2 IV e n,ne,nf,d⟩
def Inv.un{t':Nat}(I:Inv X aa σ H s)(u:Un X.fs [] H H' s.heap h')(aU:fK X.prog X.w H' h'):Inv X aa σ H' {s with heap:=h',toks:=t'}:=by
 obtain⟨m,⟨o,es,ep,ho,r⟩,_⟩:=id I.loc
 obtain⟨sl,hL⟩:=u.any ho I.free (by simp)
 exact I.step (g':=s.gens) (d':=s.drawn) (ch:=[]) (λ_ z=>nomatch z) (λb o _ hb _ e n=>u.keep b o e n hb (by simp)) (λb o _ hb _ e n=>u.slot b o e n hb (by simp)) (λb o _ e n=>u.free b o e n (by simp)) (λb o _ e=>u.there b o e (by simp)) u.iu u.gL u.g7 (λm' hm=>by
  obtain⟨o',es',ep',hV,r'⟩:=hm
  rw [ho] at hV;cases hV;exact⟨_,es',ep',hL,r'⟩) aU I.bare
def Inv.call{g':Array GenState}{t':Nat}{d':Drawn}{ch:List Addr}(I:Inv X aa σ H s)(u:Un (gD X.stack) ch H H' s.heap h')(aU:fK X.prog X.w H' h')(hg:AllBare g')
 (yQ:∀b∈ch,(b∈X.ex\/X.s₀.heap.objs.size<=b)/\b≠X.env.locals/\(∀x c,X.env.cells.lookup x=some c->c≠b)/\∀p∈X.pn++aa,p.1≠b):
 Inv X aa σ H' {s with heap:=h',gens:=g',drawn:=d',toks:=t'}:=by
 obtain⟨m,⟨o,es,ep,ho,r⟩,_⟩:=id I.loc
 obtain⟨sl,hL⟩:=u.any ho I.free λz=>(yQ _ z).2.1 rfl
 exact I.step (ch:=ch) yQ (λb o hL hb hc e n=>u.keep b o e n (λz=>(zzm.mp (I.jq b z)).elim hL hb) hc) (λb o _ _ hc e n=>u.any e n hc) (λb o hc e n=>u.free b o e n hc) (λb o hc e=>u.there b o e hc) u.iu u.gL u.g7 (λm' hm=>by
  obtain⟨o',es',ep',hV,r'⟩:=hm
  rw [ho] at hV;cases hV;exact⟨_,es',ep',hL,r'⟩) aU hg
def Inv.turned{t':Nat}{it:Addr}(I:Inv X aa σ H s)(k:∀b o,b≠it->s.heap.get? b=some o->h'.get? b=some o)(hn:H it=none)(hL:it≠X.env.locals)
 (h1:it∈X.ex\/X.s₀.heap.objs.size<=it) (h2:∀x c,X.env.cells.lookup x=some c->c≠it) (h3:∀p∈X.pn++aa,p.1≠it):Inv X aa σ H {s with heap:=h',toks:=t'}:=by
 have MO:∀b u,H b=some u->b≠it:=λb u e z=>by rw [z,hn] at e;cases e
 refine I.step (g':=s.gens) (d':=s.drawn) (ch:=[it]) (λb hb=>?_) (λb o _ _ hc e _=>k b o (λz=>hc (by simp [z])) e) (λb o _ _ hc e _=>⟨o.slots,k b o (λz=>hc (by simp [z])) e⟩) (λ_ _ _ _ n=>n)
  (λb o hc e=>⟨o,k b o (λz=>hc (by simp [z])) e⟩) (λ_ _ e=>e) (λ_ _ _ e=>e) (λb ps e=>⟨#[],by rw [e];simp⟩) (λm hm=>?_) (λb u e=>?_) I.bare
 ·have e:b=it:=by simpa using hb
  subst e;exact⟨h1,hL,h2,h3⟩
 ·obtain⟨o,es,ep,ho,r⟩:=hm
  exact⟨o,es,ep,k _ o (Ne.symm hL) ho,r⟩
 ·refine(I.aU b u e).fH (λc v hc q=>k c v ?_ q) (λ_ q=>q) λ_ _ q=>q
  rcases hc with z|z
  ·rw [z];exact MO b u e
  ·exact MO c _ z
theorem Inv.tok(I:Inv X aa σ H s)(t:Nat):Inv X aa σ H {s with toks:=t}:=I.un (h':=s.heap) (t':=t) Un.refl I.aU
theorem Inv.kept{t':Nat}(I:Inv X aa σ H s)(k:∀b u,s.heap.get? b=some u->h'.get? b=some u):Inv X aa σ H {s with heap:=h',toks:=t'}:=I.un (Un.kept k) (I.aU.kept k)
theorem Inv.laid{a:Addr}{o:HO}{t':Nat}(I:Inv X aa σ H s)(k:∀b u,s.heap.get? b=some u->h'.get? b=some u)(hp:(zz9 s)<=a)(new:aY X.prog X.w (upd H a o) h' a o):
 Inv X aa σ (upd H a o) {s with heap:=h',toks:=t'}:=I.un (Un.laid k hp (I.aU.fresh hp)) (I.aU.laid k hp new)
theorem Inv.write{x e:Addr}{o:HO}{t':Nat}(I:Inv X aa σ H s)(mu:GR (H x))(he:e=x\/H e=some (.own x))(k:∀b u,b≠e->s.heap.get? b=some u->h'.get? b=some u)(F7:∃u,h'.get? e=some u)
 (new:aY X.prog X.w (upd H x o) h' x o):Inv X aa σ (upd H x o) {s with heap:=h',toks:=t'}:=I.un (Un.write mu he k F7) (I.aU.write mu he k F7 new)
def Inv.iP{Cc:List (Addr×Obj)}(I:Inv X aa σ H s)(h:∀p∈Cc,s.heap.get? p.1=some p.2/\H p.1=none/\p.1≠X.env.locals/\p.1∉X.fs/\∀v,p.2.data≠.cell v):Inv X Cc σ H s:=
 ⟨I.ok,I.os,I.bare,I.base,I.loc,I.cell,I.free,I.ik,λp hp=>(List.mem_append.mp hp).elim (λz=>I.pin p (zzc _ z)) (h p),I.aU,I.len⟩
def iU{N:List Str}(hN:N.Nodup){i j:Nat}{x:Str}(a:N[i]?=some x)(b:N[j]?=some x):i=j:=by
 obtain⟨h1,e1⟩:=zzH.mp a
 obtain⟨h2,e2⟩:=zzH.mp b
 exact(List.getElem_inj hN).mp (e1.trans e2.symm)
def gR{M:Model}{A:Around}{E:Value->Shared->Prop}{i:Nat}{x:Str}{v:V}{u:Value}{Q:Unit->Shared->Prop}(I:Inv X aa σ H s)(hN:X.N.Nodup)(hi:X.N[i]?=some x)(hx:Loc X.env.scope x)(r:RelV v u)
 (h:∀s',Inv X aa (σ.set i (some v)) H s'->(∃a,Heap.SameBut a s.heap s'.heap/\(a=X.env.locals\/X.env.cells.lookup x=some a))->Q () s') (hf:X.fn x=true\/X.env.scope.names.lookup x=some .local:=by first|exact .inl rfl|exact .inr rfl|assumption):wpAny M A (storeName X.env x u) Q E s:=by
 obtain⟨m,hn,hl⟩:=id I.loc
 have LL:(X.env.scope.kind==.class||(X.env.scope.kind==.module&&X.env.locals !=X.env.globals))=false:=by rw [I.ok.kind];rfl
 have hiσ:i<σ.length:=by rw [I.len];exact(zzH.mp hi).1
 have DH:=I.DH
 have tracked:∀{a:Addr} {h':Heap},(∃o,s.heap.get? a=some o/\H a=none)->Heap.SameBut a s.heap h'->fK X.prog X.w H h':=λ{a h'} ha hs b ob e=>by
  obtain⟨_,_,hfree⟩:=ha
  refine(I.aU b ob e).fH (λc w' hc q=>(hs.2 c ?_).trans q) (λ_ q=>q) λ_ _ q=>q
  rintro rfl
  rcases hc with rfl|hc
  ·rw [hfree] at e;cases e
  ·rw [hfree] at hc;cases hc
 rcases hx with hk|hk
 ·refine wpAny_storeName_local hk hn (λh' Pb hs=>?_) LL;obtain⟨oL,_,_,Js,_⟩:=id hn
  refine h _ ⟨I.ok,I.os,I.bare,⟨λb o e n hb hx=>?_,λb o e n hb hx=>?_,I.base.free,λb o e hx=>?_,I.base.iu,I.base.gL,I.base.g7⟩,⟨_,Pb,λj y v' e1 e2 e3=>?_⟩,λy c e=>?_,I.free,I.ik,λp hp=>?_,tracked ⟨oL,Js,I.free⟩ hs,by simpa using I.len⟩ ⟨_,hs,.inl rfl⟩
  ·exact(hs.2 b (zzb (zzW (zzO e) I.ok.above))).trans (I.base.keep b o e n hb hx)
  ·obtain⟨sl,e1⟩:=I.base.slot b o e n hb hx
   exact⟨sl,(hs.2 b (zzb (zzW (zzO e) I.ok.above))).trans e1⟩
  ·obtain⟨o',e1⟩:=I.base.there b o e hx
   exact⟨o',(hs.2 b (zzb (zzW (zzO e) I.ok.above))).trans e1⟩
  ·by_cases hj:j=i
   ·subst hj;rw [hi] at e1;cases e1;rw [zzo hiσ] at e2;cases e2;exact⟨u,r,.inl ⟨hk,by simp⟩⟩
   ·rw [zzS (Ne.symm hj)] at e2;obtain⟨u',r',q⟩:=hl j y v' e1 e2 e3
    refine⟨u',r',?_⟩;rcases q with⟨k,e⟩|⟨k,c,e,z⟩
    ·refine .inl ⟨k,?_⟩;have:y≠x:=λe=>hj (iU hN e1 (e▸hi))
     simp [this,e]
    ·exact .inr ⟨k,c,e,z.sameBut hs (DH y c e)⟩
  ·obtain⟨w',z⟩:=I.cell y c e
   exact⟨w',z.sameBut hs (DH y c e)⟩
  ·obtain⟨e,n,ne,nf,d⟩:=I.pin p hp
   exact⟨(hs.2 p.1 ne).trans e,n,ne,nf,d⟩
 ·have r8:X.fn x=true:=by
   rcases hf with z|z
   ·exact z
   ·rw [z] at hk;cases hk
  obtain⟨c,hc⟩:=I.ok.has x (.inl hk)
  obtain⟨w',z⟩:=I.cell x c hc
  refine wpAny_storeName_cell I.ok.kind hk hc z (λh' kP hs=>?_);obtain⟨oc,hoc,hocd⟩:=id z
  refine h {s with heap:=h'} ⟨I.ok,I.os,I.bare,⟨λb o e n hb hx=>?_,λb o e n hb hx=>?_,I.base.free,λb o e hx=>?_,I.base.iu,I.base.gL,I.base.g7⟩,⟨m,hn.sameBut hs (Ne.symm (DH x c hc)),λj y v' e1 e2 e3=>?_⟩,λy c' e=>?_,I.free,I.ik,λp hp=>?_,tracked ⟨oc,hoc,I.ik x c hc⟩ hs,by simpa using I.len⟩ ⟨c,hs,.inr hc⟩
  ·exact(hs.2 b (zzb (zzW (zzO e) (I.ok.JC x c r8 hc)))).trans (I.base.keep b o e n hb hx)
  ·obtain⟨sl,e1⟩:=I.base.slot b o e n hb hx
   exact⟨sl,(hs.2 b (zzb (zzW (zzO e) (I.ok.JC x c r8 hc)))).trans e1⟩
  ·obtain⟨o',e1⟩:=I.base.there b o e hx
   exact⟨o',(hs.2 b (zzb (zzW (zzO e) (I.ok.JC x c r8 hc)))).trans e1⟩
  ·by_cases hj:j=i
   ·subst hj;rw [hi] at e1;cases e1;rw [zzo hiσ] at e2;cases e2;exact⟨u,r,.inr ⟨.inl hk,c,hc,kP⟩⟩
   ·rw [zzS (Ne.symm hj)] at e2;obtain⟨u',r',q⟩:=hl j y v' e1 e2 e3
    refine⟨u',r',?_⟩;rcases q with q|⟨k,c',e,z'⟩
    ·exact .inl q
    ·refine .inr ⟨k,c',e,z'.sameBut hs ?_⟩
     rintro rfl
     exact hj (iU hN e1 (I.ok.inj _ _ _ e hc▸hi))
  ·by_cases hcc:c'=c
   ·subst hcc;exact⟨_,kP⟩
   ·obtain⟨w2,z2⟩:=I.cell y c' e
    exact⟨w2,z2.sameBut hs hcc⟩
  ·obtain⟨e,n,ne,nf,d⟩:=I.pin p hp
   refine⟨(hs.2 p.1 ?_).trans e,n,ne,nf,d⟩;intro q;rw [q,hoc] at e;have q':oc=p.2:=zzq e
   exact d w' (by rw [<-q'];exact hocd)
def fW{M:Model}{A:Around}{E:Value->Shared->Prop}{i:Nat}{x:Str}{v:V}{u:Value}{Q:Unit->Shared->Prop}(I:Inv X aa σ H s)(hN:X.N.Nodup)(hi:X.N[i]?=some x)(hx:Loc X.env.scope x)(r:RelV v u)
 (h:∀s',Inv X aa (σ.set i (some v)) H s'->Q () s') (hf:X.fn x=true\/X.env.scope.names.lookup x=some .local:=by first|exact .inl rfl|exact .inr rfl|assumption):wpAny M A (storeName X.env x u) Q E s:=
 gR I hN hi hx r (λs' I' _=>h s' I') hf
def Inv.Ha{s':Shared}{ch:List Addr}(I:Inv X aa σ H s)(ho:s'.os=s.os)(u:Un (gD X.stack) ch H H' s.heap s'.heap)(aU:fK X.prog X.w H' s'.heap)(hg:AllBare s'.gens)
 (yQ:∀b∈ch,(b∈X.ex\/X.s₀.heap.objs.size<=b)/\b≠X.env.locals/\(∀x c,X.env.cells.lookup x=some c->c≠b)/\∀p∈X.pn++aa,p.1≠b):Inv X aa σ H' s':=by
 obtain⟨h',g',d',t',o'⟩:=s'
 have e:o'=s.os:=ho
 subst e;exact I.call (g':=g') (t':=t') (d':=d') u aU hg yQ
end
noncomputable abbrev XK:=Value->Option Addr->Hp->Prop
abbrev St:=List (Option V)
abbrev VK:=V->Hp->Prop
abbrev TE:=St->Hp->VK->Prop
noncomputable abbrev TT:=St->Hp->(Bool->Hp->Prop)->Prop
noncomputable abbrev TA:=St->Hp->(List V->Hp->Prop)->Prop
structure Ends where
 nx:St->Hp->Prop
 rt:VK
 bk:St->Hp->Prop:=λ_ _=>False
 ct:St->Hp->Prop:=λ_ _=>False
abbrev TS:=Ends->St->Hp->Prop
def EP(X:Cx)(aa:List (Addr×Obj))(σ:St)(Q:VK)(u:Value)(s':Shared):Prop:=∃v H',Inv X aa σ H' s'/\RelV v u/\Q v H'
def TP(X:Cx)(aa:List (Addr×Obj))(σ:St)(Q:Bool->Hp->Prop)(b:Bool)(s':Shared):Prop:=∃H',Inv X aa σ H' s'/\Q b H'
def AP(X:Cx)(aa:List (Addr×Obj))(σ:St)(Q:List V->Hp->Prop)(us:List Value)(s':Shared):Prop:=∃vs H',Inv X aa σ H' s'/\Vals vs us/\Q vs H'
def SP(X:Cx)(aa:List (Addr×Obj))(D:Ends)(f:Flow)(s':Shared):Prop:=
 match f with
 |.next=>∃σ' H',Inv X aa σ' H' s'/\D.nx σ' H'
 |.brk=>∃σ' H',Inv X aa σ' H' s'/\D.bk σ' H'
 |.cont=>∃σ' H',Inv X aa σ' H' s'/\D.ct σ' H'
 |.ret u=>∃v σ' H',Inv X aa σ' H' s'/\RelV v u/\D.rt v H'
def PE(X:Cx)(e:Expr)(t:TE):Prop:=
 ∀(aa:List (Addr×Obj)) (s:Shared) (σ:St) (H:Hp) (Q:VK),Inv X aa σ H s->t σ H Q->wpAny (model X.prog X.w) X.A (eval e X.env) (EP X aa σ Q) X.xe s
def PT(X:Cx)(e:Expr)(t:TT):Prop:=
 ∀(aa:List (Addr×Obj)) (s:Shared) (σ:St) (H:Hp) (Q:Bool->Hp->Prop),Inv X aa σ H s->t σ H Q->wpAny (model X.prog X.w) X.A (isTrue e X.env (eval e X.env)) (TP X aa σ Q) X.xe s
def PW(X:Cx)(e:Expr)(t:TT):Prop:=
 ∀(whole:Sem Value) (aa:List (Addr×Obj)) (s:Shared) (σ:St) (H:Hp) (Q:Bool->Hp->Prop),Inv X aa σ H s->t σ H Q->wpAny (model X.prog X.w) X.A (isTrue e X.env whole) (TP X aa σ Q) X.xe s
def PW.pt{X:Cx}{e:Expr}{t:TT}(h:PW X e t):PT X e t:=h _
def PA(X:Cx)(es:List Expr)(t:TA):Prop:=
 ∀(pos:Pos) (aa:List (Addr×Obj)) (s:Shared) (σ:St) (H:Hp) (Q:List V->Hp->Prop),Inv X aa σ H s->t σ H Q->wpAny (model X.prog X.w) X.A (spliced (backTo pos (starEach es X.env))) (AP X aa σ Q) X.xe s
def PS(X:Cx)(st:Stmt)(t:TS):Prop:=
 ∀(aa:List (Addr×Obj)) (s:Shared) (σ:St) (H:Hp) (D:Ends),Inv X aa σ H s->t D σ H->wpAny (model X.prog X.w) X.A (exec st X.env) (SP X aa D) X.xe s
def uT(X:Cx)(st:List Stmt)(t:TS):Prop:=
 ∀(aa:List (Addr×Obj)) (s:Shared) (σ:St) (H:Hp) (D:Ends),Inv X aa σ H s->t D σ H->wpAny (model X.prog X.w) X.A (execs st X.env) (SP X aa D) X.xe s
def bh{α:Type}{t:Sem α}{Q Q':α->Shared->Prop}{M:Model}{A:Around}{E:Value->Shared->Prop}{s:Shared}(h:wpAny M A t Q E s)(hQ:∀a s,Q a s->Q' a s):wpAny M A t Q' E s:=wpAny_mono h hQ λ_ _ x=>x
section
variable{X:Cx}
def bin{a b:Expr}{ta tb:TE}(ha:PE X a ta)(hb:PE X b tb){aa:List (Addr×Obj)}{s:Shared}{σ:St}{H:Hp}{R:V->V->Hp->Prop}(I:Inv X aa σ H s)(h:ta σ H λx H1=>tb σ H1 λy H2=>R x y H2)
 {α:Type} {Q:α->Shared->Prop} {f:Value->Value->Sem α}
 (hf:∀v u s2 x y H2,Inv X aa σ H2 s2->RelV x v->RelV y u->R x y H2->wpAny (model X.prog X.w) X.A (f v u) Q X.xe s2):
 wpAny (model X.prog X.w) X.A (eval a X.env) (λv s₁=>wpAny (model X.prog X.w) X.A (eval b X.env) (λu s₂=>wpAny (model X.prog X.w) X.A (f v u) Q X.xe s₂) X.xe s₁) X.xe s:=by
 refine bh (ha aa s σ H _ I h) λv s1 ⟨x,H1,I1,r1,q1⟩=>?_
 refine bh (hb aa s1 σ H1 _ I1 q1) λu s2 ⟨y,H2,I2,r2,q2⟩=>?_
 exact hf v u s2 x y H2 I2 r1 r2 q2
noncomputable def HI(i:Nat):TE:=λσ H Q=>∃v,σ[i]?=some (some v)/\Q v H
noncomputable def tC(v:V):TE:=λ_ H Q=>Q v H
def nG{i:Nat}{x:Str}{pos:Pos}(hN:X.N[i]?=some x)(hv:Jo X.env.scope x)(hd:(x==("__debug__":Str))=false:=by decide)(v7:(x==("__classdict__":Str))=false:=by decide):PE X (.Name x pos) (HI i):=by
 intro aa s σ H Q I h;obtain⟨v,e,h⟩:=h
 obtain⟨m,hn,hl⟩:=I.loc
 obtain⟨u,r,l⟩:=hl i x v hN e hv
 have fin:EP X aa σ Q u s:=⟨v,H,I,r,h⟩
 rcases l with⟨hk,hm⟩|⟨hk,c,hc,pe⟩
 ·exact wpAny_Name (wpAny_loadName_local I.ok.kind hk hn hm fin) hd
 ·rcases hk with hk|hk
  ·exact wpAny_Name (wpAny_loadName_cell I.ok.kind hk hc pe fin) hd
  ·exact wpAny_Name (wpAny_loadName_free I.ok.kind hk hc pe fin v7) hd
def nF{i j pos}:PE X (.Constant (.int i) j pos) (tC (.int i)):=λ_ _ _ H _ I h=>wpAny_Constant_int ⟨.int i,H,I.tok _,⟨_,rfl⟩,h⟩
def Ij{b j pos}:PE X (.Constant (.bool b) j pos) (tC (.bl b)):=λ_ _ _ H _ I h=>Constant_bool ⟨.bl b,H,I,rfl,h⟩
def FC{j pos}:PE X (.Constant .none j pos) (tC .aI):=λ_ _ _ H _ I h=>Constant_none ⟨.aI,H,I,rfl,h⟩
def wL{x j pos}:PE X (.Constant (.str x) j pos) (tC (.str x)):=λ_ _ _ H _ I h=>Calls.Constant_str ⟨.str x,H,I.tok _,⟨_,rfl⟩,h⟩
def Gl(X:Cx)(x:Str):Prop:=X.env.kindOf x=some .globalImplicit
def iH{E:Value->Shared->Prop}{aa:List (Addr×Obj)}{s:Shared}{σ:St}{H:Hp}{x:Str}{u:Value}{pos:Pos}{Q:Value->Shared->Prop}(I:Inv X aa σ H s)(hg:Gl X x)(hm:X.mg x=some u)(h:Q u s)
 (hd:(x==("__debug__":Str))=false:=by decide):wpAny (model X.prog X.w) X.A (eval (.Name x pos) X.env) Q E s:=
 Calls.Name_function_global I.ok.kind hg (Calls.loadGlobal_global (by rw [I.ok.glob];exact I.mod.glob.keeps I.bk) hm h) hd
def c6{E:Value->Shared->Prop}{aa:List (Addr×Obj)}{s:Shared}{σ:St}{H:Hp}{x:Str}{u:Value}{pos:Pos}{Q:Value->Shared->Prop}(I:Inv X aa σ H s)(hg:Gl X x)(hm:X.mg x=none)(hv:bootBuiltins x=some u)(h:Q u s)
 (hn:x≠"__name__":=by decide) (hd:(x==("__debug__":Str))=false:=by decide):wpAny (model X.prog X.w) X.A (eval (.Name x pos) X.env) Q E s:=by
 obtain⟨mb,h1,h2⟩:=I.mod.blt
 exact Calls.Name_function_global I.ok.kind hg (Calls.loadGlobal_builtin (by rw [I.ok.glob];exact I.mod.glob.keeps I.bk) hm (by rw [I.ok.blt];exact h1.keeps I.bk) ((h2 x hn).trans hv) h) hd
def zU{x:Str}{v:V}{u:Value}{pos:Pos}(hg:Gl X x)(hm:X.mg x=some u)(r:RelV v u)(hd:(x==("__debug__":Str))=false:=by decide):PE X (.Name x pos) (tC v):=
 λ_ _ _ H _ I h=>iH I hg hm ⟨v,H,I,r,h⟩ hd
def zw{x:Str}{v:V}{u:Value}{pos:Pos}(hg:Gl X x)(hm:X.mg x=none)(hv:bootBuiltins x=some u)(r:RelV v u)(hn:x≠"__name__":=by decide)(hd:(x==("__debug__":Str))=false:=by decide):PE X (.Name x pos) (tC v):=
 λ_ _ _ H _ I h=>c6 I hg hm hv ⟨v,H,I,r,h⟩ hn hd
variable{a b:Expr}{ta tb:TE}{pos:Pos}
noncomputable def tB(t:TE):TT:=λσ H Q=>t σ H λx H1=>∃c,x=.bl c/\Q c H1
def CM{e:Expr}{t:TE}(h:PE X e t)(he:∀whole,isTrue e X.env whole=(do let v<-whole;standAt e.pos;holding [v] (truthy v)):=by intro _;rfl):PT X e (tB t):=by
 intro aa s σ H Q I hw;refine isTrue_plain (bh (h aa s σ H _ I hw) λv s1 ⟨x,H1,I1,r1,q1⟩=>?_) (he _)
 obtain⟨d,rfl,q⟩:=q1
 cases r1;exact wpAny_truthy_bool ⟨H1,I1,q⟩
variable{tA Jn:TT}{rest:List Expr}
noncomputable def LG(t u:TT):TT:=λσ H Q=>t σ H λc H1=>if c=true then u σ H1 Q else Q false H1
noncomputable def OW(t u:TT):TT:=λσ H Q=>t σ H λc H1=>if c=true then Q true H1 else u σ H1 Q
noncomputable def KC(t:TT):TT:=λσ H Q=>t σ H λc H1=>Q (!c) H1
def pw_and1(ha:PT X a tA):PW X (.BoolOp .And [a] pos) tA:=by
 intro wh aa s σ H Q I h;refine isTrue_and (bh (ha aa s σ H Q I h) λc s1 e=>?_)
 cases c with
 |true=>exact isTrue_and_nil e
 |false=>exact e
def pw_or1(ha:PT X a tA):PW X (.BoolOp .Or [a] pos) tA:=by
 intro wh aa s σ H Q I h;refine isTrue_or (bh (ha aa s σ H Q I h) λc s1 e=>?_)
 cases c with
 |false=>exact isTrue_or_nil e
 |true=>exact e
def pw_and(ha:PT X a tA)(hb:PW X (.BoolOp .And (b::rest) pos) Jn):PW X (.BoolOp .And (a::b::rest) pos) (LG tA Jn):=by
 intro wh aa s σ H Q I h;refine isTrue_and (bh (ha aa s σ H _ I h) λc s1 ⟨H1,I1,q1⟩=>?_)
 cases c with
 |true=>exact hb wh aa s1 σ H1 Q I1 q1
 |false=>exact⟨H1,I1,q1⟩
def pw_or(ha:PT X a tA)(hb:PW X (.BoolOp .Or (b::rest) pos) Jn):PW X (.BoolOp .Or (a::b::rest) pos) (OW tA Jn):=by
 intro wh aa s σ H Q I h;refine isTrue_or (bh (ha aa s σ H _ I h) λc s1 ⟨H1,I1,q1⟩=>?_)
 cases c with
 |true=>exact⟨H1,I1,q1⟩
 |false=>exact hb wh aa s1 σ H1 Q I1 q1
def Dd(ha:PT X a tA):PT X (.UnaryOp .Not a pos) (KC tA):=by
 intro aa s σ H Q I h;exact isTrue_not (ha aa s σ H (λc H1=>Q (!c) H1) I h)
noncomputable def Io(ta tb:TE):TE:=λσ H Q=>ta σ H λx H1=>∃c,x=.bl c/\if c=true then tb σ H1 Q else Q (.bl false) H1
noncomputable def KU(ta tb:TE):TE:=λσ H Q=>ta σ H λx H1=>∃c,x=.bl c/\if c=true then Q (.bl true) H1 else tb σ H1 Q
noncomputable def HC(ta:TE):TE:=λσ H Q=>ta σ H λx H1=>∃c,x=.bl c/\Q (.bl (!c)) H1
def vU{op}{t:TE}(h:PE X a t):PE X (.BoolOp op [a] pos) t:=λaa s σ H Q I hw=>BoolOp_one (h aa s σ H Q I hw)
def CA(ha:PE X a ta)(hb:PE X (.BoolOp .And (b::rest) pos) tb):PE X (.BoolOp .And (a::b::rest) pos) (Io ta tb):=by
 intro aa s σ H Q I h;refine BoolOp_and (bh (ha aa s σ H _ I h) λv s1 ⟨x,H1,I1,r1,q1⟩=>?_)
 obtain⟨c,rfl,q1⟩:=q1
 cases r1;refine wpAny_truthy_bool ?_;cases c with
 |true=>exact hb aa s1 σ H1 Q I1 q1
 |false=>exact⟨.bl false,H1,I1,rfl,q1⟩
def Iq(ha:PE X a ta)(hb:PE X (.BoolOp .Or (b::rest) pos) tb):PE X (.BoolOp .Or (a::b::rest) pos) (KU ta tb):=by
 intro aa s σ H Q I h;refine BoolOp_or (bh (ha aa s σ H _ I h) λv s1 ⟨x,H1,I1,r1,q1⟩=>?_)
 obtain⟨c,rfl,q1⟩:=q1
 cases r1;refine wpAny_truthy_bool ?_;cases c with
 |false=>exact hb aa s1 σ H1 Q I1 q1
 |true=>exact⟨.bl true,H1,I1,rfl,q1⟩
def Eg(ha:PE X a ta):PE X (.UnaryOp .Not a pos) (HC ta):=by
 intro aa s σ H Q I h;refine UnaryOp_ (bh (ha aa s σ H _ I h) λv s1 ⟨x,H1,I1,r1,q1⟩=>?_)
 obtain⟨c,rfl,q1⟩:=q1
 cases r1;exact not_of (wpAny_truthy_bool ⟨.bl (!c),H1,I1,rfl,q1⟩)
noncomputable def OP(t:TT)(ta tb:TE):TE:=λσ H Q=>t σ H λc H1=>if c=true then ta σ H1 Q else tb σ H1 Q
def yy{c:Expr}(hc:PT X c tA)(ha:PE X a ta)(hb:PE X b tb):PE X (.IfExp c a b pos) (OP tA ta tb):=by
 intro aa s σ H Q I h;refine wpAny_IfExp (bh (hc aa s σ H _ I h) λd s1 ⟨H1,I1,q1⟩=>?_)
 cases d with
 |true=>exact ha aa s1 σ H1 Q I1 q1
 |false=>exact hb aa s1 σ H1 Q I1 q1
end
def fQ(K:zz8)(H:Hp)(a:Addr)(xs:List V):Prop:=
 Rd H a (.lst xs)\/
  ∃(o:Obj) (ae:Array Value) (n:Nat),K.lookup a=some o/\o.cls=.type "list"/\o.dict=none/\o.data=.seq ae n/\ae.size<=sizeLine/\Vals xs ae.toList
def dJ(K:zz8)(H:Hp)(a:Addr)(xs:List V):Prop:=
 Rd H a (.tup xs)\/
  ∃(o:Obj) (ae:Array Value) (n:Nat),K.lookup a=some o/\o.cls=.type "tuple"/\o.data=.seq ae n/\ae.size<=sizeLine/\Vals xs ae.toList
noncomputable def Mb:Value->Option V
 |.none=>some .aI
 |.bool b=>some (.bl b)
 |.int i _=>some (.int i)
 |.str x _=>some (.str x)
 |.bytes b _=>some (.KG b)
 |.float b _=>some (.Kj b)
 |.ref a=>some (.ref a)
 |.type n=>some (.ty n)
 |_=>none
def RelV.abs{x:V}{u:Value}(r:RelV x u):Mb u=some x:=by
 cases x with
 |aI=>cases r;rfl
 |bl _=>cases r;rfl
 |int _=>obtain⟨t,rfl⟩:=r;rfl
 |str _=>obtain⟨t,rfl⟩:=r;rfl
 |KG _=>obtain⟨t,rfl⟩:=r;rfl
 |Kj _=>obtain⟨t,rfl⟩:=r;rfl
 |ref _=>cases r;rfl
 |ty _=>cases r;rfl
def RelV.inj{x y:V}{u:Value}(r:RelV x u)(q:RelV y u):x=y:=zzq (r.abs.symm.trans q.abs)
theorem Vals.inj:∀{xs ys:List V} {us:List Value},Vals xs us->Vals ys us->xs=ys
 |_,_,_,.nil,.nil=>rfl
 |_,_,_,.cons r t,.cons r' t'=>by rw [r.inj r',Vals.inj t t']
section
variable{X:Cx}{aa:List (Addr×Obj)}{σ:St}{H:Hp}{s:Shared}{a:Addr}{xs ys:List V}
def fQ.of{K:zz8}(h:H a=some (.lst xs)):fQ K H a xs:=.inl (.inl h)
def Inv.list(I:Inv X aa σ H s)(h:fQ X.K H a xs):∃ae:List Value,Vals xs ae/\PlainL s.heap a ae.toArray/\xs.length<=sizeLine:=by
 rcases h with h|⟨o,ae,n,hk,hc,hd,hs,hz,r⟩
 ·obtain⟨z,ae,n,r,e⟩:=h.ok I.aU
  exact⟨ae,r,⟨_,n,e,rfl,rfl,rfl⟩,z⟩
 ·refine⟨ae.toList,r,⟨o,n,I.rY a o hk,hc,hd,by simpa using hs⟩,?_⟩;have e:=r.length
  simp! [zzd] at e;omega
def Inv.tuple(I:Inv X aa σ H s)(h:dJ X.K H a xs):∃ae:List Value,Vals xs ae/\IsTup s.heap a ae.toArray/\xs.length<=sizeLine:=by
 rcases h with h|⟨o,ae,n,hk,hc,hs,hz,r⟩
 ·obtain⟨z,ae,r,p⟩:=h.ok I.aU
  exact⟨ae,r,p,z⟩
 ·refine⟨ae.toList,r,⟨o,I.rY a o hk,hc,n,by simpa using hs⟩,?_⟩;have e:=r.length
  simp! [zzd] at e;omega
def Inv.oU(I:Inv X aa σ H s)(h:fQ X.K H a xs)(h':fQ X.K H a ys):xs=ys:=by
 obtain⟨ae,r,⟨o,n,e,_,_,d⟩,_⟩:=I.list h
 obtain⟨its',r',⟨o',n',e',_,_,d'⟩,_⟩:=I.list h'
 rw [e] at e';cases e';rw [d] at d'
 injection d' with d1 _
 have:ae=its':=by simpa using congrArg Array.toList d1
 subst this;exact r.inj r'
def Inv.lI(I:Inv X aa σ H s)(h:dJ X.K H a xs)(h':dJ X.K H a ys):xs=ys:=by
 obtain⟨ae,r,⟨o,e,_,n,d⟩,_⟩:=I.tuple h
 obtain⟨its',r',⟨o',e',_,n',d'⟩,_⟩:=I.tuple h'
 rw [e] at e';cases e';rw [d] at d'
 injection d' with d1 _
 have:ae=its':=by simpa using congrArg Array.toList d1
 subst this;exact r.inj r'
variable{st:Stmt}{rest:List Stmt}{t u:TS}{e:Expr}{te:TE}{pos:Pos}
def HE:TS:=λD σ H=>D.nx σ H
noncomputable def Kz(t u:TS):TS:=λD σ H=>t {D with nx:=u D} σ H
def A4:uT X [] HE:=λ_ _ σ H _ I h=>wpAny_execs_nil ⟨σ,H,I,h⟩
def wI(h1:PS X st t)(h2:uT X rest u):uT X (st::rest) (Kz t u):=by
 intro aa s σ H D I h;refine wpAny_execs_cons (bh (h1 aa s σ H {D with nx:=u D} I h) λf s1 q=>?_)
 cases f with
 |next=>
  obtain⟨σ',H',I',q⟩:=q
  exact h2 aa s1 σ' H' D I' q
 |ret v=>exact q
 |brk=>exact q
 |cont=>exact q
def Inv.quiet{aa:List (Addr×Obj)}{σ:St}{H:Hp}{s:Shared}(I:Inv X aa σ H s):interactive X.env=false:=by simp [interactive,I.ok.kind]
noncomputable def IM(te:TE):TS:=λD σ H=>te σ H λ_ H1=>D.nx σ H1
theorem mM(he:PE X e te)(hs:swapsWith e none pos.line X.env=pure false:=by rfl):PS X (.Expr e pos) (IM te):=by
 intro aa s σ H D I h;exact wpAny_Expr_any (bh (he aa s σ H _ I h) λv s1 ⟨x,H1,I1,r1,q1⟩=>⟨σ,H1,I1,q1⟩) I.quiet hs
noncomputable def Lc(te:TE):TS:=λD σ H=>te σ H D.rt
def De(he:PE X e te):PS X (.Return (some e) pos) (Lc te):=by
 intro aa s σ H D I h;exact wpAny_Return_some (bh (he aa s σ H _ I h) λv s1 ⟨x,H1,I1,r1,q1⟩=>⟨x,σ,H1,I1,r1,q1⟩)
noncomputable def Km(c:TT)(t u:TS):TS:=λD σ H=>c σ H λb H1=>if b=true then t D σ H1 else u D σ H1
def Hi{c:Expr}{a b:List Stmt}{tc:TT}(hc:PT X c tc)(ha:uT X a t)(hb:uT X b u):PS X (.If c a b pos) (Km tc t u):=by
 intro aa s σ H D I h;refine wpAny_If (bh (hc aa s σ H _ I h) λd s1 ⟨H1,I1,q1⟩=>?_)
 cases d with
 |true=>exact ha aa s1 σ H1 D I1 q1
 |false=>exact hb aa s1 σ H1 D I1 q1
end
noncomputable abbrev TG:=V->St->Hp->(St->Hp->Prop)->Prop
noncomputable abbrev Ce:=List V->St->Hp->(St->Hp->Prop)->Prop
def PG(X:Cx)(target:Expr)(t:TG):Prop:=
 ∀(aa:List (Addr×Obj)) (s:Shared) (σ:St) (H:Hp) (v:V) (u:Value) (Q:St->Hp->Prop),Inv X aa σ H s->RelV v u->t v σ H Q->
  wpAny (model X.prog X.w) X.A (assign target X.env u) (λ_ s'=>∃σ' H',Inv X aa σ' H' s'/\Q σ' H') X.xe s
def HG(X:Cx)(ts:List Expr)(t:Ce):Prop:=
 ∀(aa:List (Addr×Obj)) (s:Shared) (σ:St) (H:Hp) (vs:List V) (us:List Value) (Q:St->Hp->Prop),Inv X aa σ H s->Vals vs us->t vs σ H Q->
  wpAny (model X.prog X.w) X.A (assignInOrder ((assignEach ts X.env).map (·.2)) us) (λ_ s'=>∃σ' H',Inv X aa σ' H' s'/\Q σ' H') X.xe s
noncomputable abbrev Dk:=V->V->V->Hp->(Hp->Prop)->Prop
def Hk(X:Cx)(t:Dk):Prop:=
 ∀(aa:List (Addr×Obj)) (s:Shared) (σ:St) (H:Hp) (o i v:V) (ov iv u:Value) (Q:Hp->Prop),Inv X aa σ H s->RelV o ov->RelV i iv->RelV v u->t o i v H Q->
  wpAny (model X.prog X.w) X.A (setItem ov iv u) (λ_ s'=>∃H',Inv X aa σ H' s'/\Q H') X.xe s
section
variable{X:Cx}{pos:Pos}
noncomputable def eK(i:Nat):TG:=λv σ H Q=>Q (σ.set i (some v)) H
def AB{i:Nat}{x:Str}(hN:X.N.Nodup)(hi:X.N[i]?=some x)(hx:Loc X.env.scope x)(hf:X.fn x=true\/X.env.scope.names.lookup x=some .local:=by first|exact .inl rfl|exact .inr rfl|assumption):PG X (.Name x pos) (eK i):=by
 intro aa s σ H v u Q I r h;exact wpAny_assign_Name (fW I hN hi hx r (λs' I'=>⟨_,H,I',h⟩) hf)
noncomputable def CI:Ce:=λvs σ H Q=>vs=[]/\Q σ H
noncomputable def rN(t:TG)(u:Ce):Ce:=λvs σ H Q=>∃v r,vs=v::r/\t v σ H λσ' H'=>u r σ' H' Q
def AQ:HG X [] CI:=by
 intro aa s σ H vs us Q I r h;obtain⟨e,h⟩:=h
 subst e;cases r;exact assignInOrder_nil ⟨σ,H,I,h⟩
theorem wg{e:Expr}{es:List Expr}{t:TG}{u:Ce}(h1:PG X e t)(h2:HG X es u)
 (hs:(assignEach (e::es) X.env).map (·.2)=assign e X.env::(assignEach es X.env).map (·.2):=by rfl):HG X (e::es) (rN t u):=by
 intro aa s σ H vs us Q I r h;obtain⟨v,vr,e1,h⟩:=h
 subst e1;cases r with
 |cons r rr=>
  rw [hs];refine assignInOrder_cons (bh (h1 aa s σ H _ _ _ I r h) λ_ s1 ⟨σ1,H1,I1,q1⟩=>?_)
  exact h2 aa s1 σ1 H1 _ _ Q I1 rr q1
noncomputable def Iz(K:zz8)(n:Nat)(t:Ce):TG:=λv σ H Q=>∃a xs,v=.ref a/\dJ K H a xs/\xs.length=n/\t xs σ H Q
theorem DW{es:List Expr}{k:Nat}{t:Ce}{n:Nat}(hc:X.calm=true)(h:HG X es t)
 (hn:(assignEach es X.env).length=n:=by rfl) (eB:(assignEach es X.env).findIdx? (·.1)=none:=by rfl):PG X (.Tuple es k pos) (Iz X.K n t):=by
 intro aa s σ H v u Q I r hw;obtain⟨a,xs,e1,hq,hl,hw⟩:=hw
 subst e1;cases r;obtain⟨ae,rv,ht,hz⟩:=I.tuple hq
 refine assign_Tuple_tuple (I.ok.hd hc) ht (by simp [hn,<-hl,rv.length]) eB λh' hx=>?_
 have I1:Inv X aa σ H {s with heap:=h'}:=I.kept (t':=s.toks) λb o e=>hx b o (zzb (zzO e)) e
 exact h aa _ σ H xs _ Q I1 (by simpa using rv) hw
noncomputable def Kp(to ti:TE)(t:Dk):TG:=λv σ H Q=>to σ H λo H1=>ti σ H1 λi H2=>t o i v H2 λH3=>Q σ H3
def E7{o i:Expr}{to ti:TE}{t:Dk}(ho:PE X o to)(hi:PE X i ti)(hs:Hk X t)
 (ha:∀v,assign (.Subscript o i pos) X.env v=(do
  let ov<-holding [v] (eval o X.env)
  let iv<-holding [v,ov] (eval i X.env)
  standAt pos
  holding [v,ov,iv] (setItem ov iv v)
  release [v,ov,iv] []):=by intro _;rfl):PG X (.Subscript o i pos) (Kp to ti t):=by
 intro aa s σ H v u Q I r h;rw [ha];refine zzA (wpAny_holding (bh (ho aa s σ H _ I h) λov s1 ⟨x,H1,I1,r1,q1⟩=>?_))
 refine zzA (wpAny_holding (bh (hi aa s1 σ H1 _ I1 q1) λiv s2 ⟨y,H2,I2,r2,q2⟩=>?_))
 refine zzA (wpAny_standAt (zzA (wpAny_holding (bh (hs aa s2 σ H2 x y v ov iv u _ I2 r1 r2 r q2) λ_ s3 ⟨H3,I3,q3⟩=>?_))))
 exact wpAny_release ⟨σ,H3,I3,q3⟩
noncomputable def yW(te:TE)(g:TG):TS:=λD σ H=>te σ H λx H1=>g x σ H1 D.nx
theorem CH{tg e:Expr}{te:TE}{g:TG}(he:PE X e te)(hg:PG X tg g)(hs:swapsWithSole [tg] e pos.line X.env=pure false:=by rfl)(hw:swappedStores [tg] e X.env=pure none:=by rfl)
 (h1:(assignEach [tg] X.env).map (·.2)=[assign tg X.env]:=by rfl):PS X (.Assign [tg] e pos) (yW te g):=by
 intro aa s σ H D I h;refine wpAny_Assign_stores (bh (he aa s σ H _ I h) λv s1 ⟨x,H1,I1,r1,q1⟩=>?_) hs hw
 rw [h1];exact bh (hg aa s1 σ H1 x v _ I1 r1 q1) λ_ s2 q=>q
theorem rg{i:Nat}{x:Str}{e:Expr}{te:TE}{pos':Pos}(hN:X.N.Nodup)(hi:X.N[i]?=some x)(hx:Loc X.env.scope x)(he:PE X e te)(hs:swapsWith e (some (.Name x pos')) pos.line X.env=pure false:=by rfl)(hf:X.fn x=true\/X.env.scope.names.lookup x=some .local:=by first|exact .inl rfl|exact .inr rfl|assumption):
 PS X (.Assign [.Name x pos'] e pos) (yW te (eK i)):=by
 intro aa s σ H D I h;refine wpAny_Assign_Name (bh (he aa s σ H _ I h) λv s1 ⟨y,H1,I1,r1,q1⟩=>?_) hs
 exact fW I1 hN hi hx r1 (λs2 I2=>⟨_,H1,I2,q1⟩) hf
noncomputable def Lf(i j:Nat)(ta:TA):TS:=λD σ H=>ta σ H λvs H1=>∃v w,vs=[v,w]/\D.nx ((σ.set i (some v)).set j (some w)) H1
theorem EL{i j:Nat}{x y:Str}{a b:Expr}{ta:TA}{px py pt:Pos}{kt k2 FT}(hc:X.calm=true)(hN:X.N.Nodup)(hi:X.N[i]?=some x)(hj:X.N[j]?=some y)(uq:i≠j)
 (hx:X.env.scope.names.lookup x=some .local) (hy:X.env.scope.names.lookup y=some .local) (ha:PA X [a,b] ta)
 (hw:swappedStores [.Tuple [.Name x px,.Name y py] kt pt] (.Tuple [a,b] k2 FT) X.env=pure (some [x,y]))
 (hs:swapsWithSole [.Tuple [.Name x px,.Name y py] kt pt] (.Tuple [a,b] k2 FT) pos.line X.env=pure false:=by rfl):
 PS X (.Assign [.Tuple [.Name x px,.Name y py] kt pt] (.Tuple [a,b] k2 FT) pos) (Lf i j ta):=by
 intro aa s σ H D I h;rw [exec_Assign_arm];refine zzA (wpAny_standAt ?_);rw [hs];refine zzA (zzG ?_);rw [if_neg (by decide)];refine zzA (Tuple_ (bh (ha _ aa s σ H _ I h) λus s1 ⟨vs,H1,I1,r1,q1⟩=>?_))
 obtain⟨v,w,e1,q1⟩:=q1
 subst e1;obtain⟨u1,u2,rfl,rv,fT⟩:∃u1 u2,us=[u1,u2]/\RelV v u1/\RelV w u2:=by
  cases r1 with
  |cons p q=>
   cases q with
   |cons p' q'=>
    cases q';exact⟨_,_,rfl,p,p'⟩
 refine wpAny_newObj_type ?_ (by show 2<=sizeLine;decide);have I2:Inv X aa σ H1 {s1 with heap:=s1.heap.push {cls:=.type "tuple",data:=.seq [u1,u2].toArray}}:=I1.kept (t':=s1.toks) λb o e=>zzB _ e
 rw [hw];refine zzA (zzG ?_);show wpAny (model X.prog X.w) X.A (do rule "assign.swapped-stores";let items<-unpackItems (.ref (zz9 s1)) 2 none;assignInOrder [λv=>bindName X.env y v,λv=>bindName X.env x v] items.reverse;pure Flow.next) _ _ _
 refine zzA (wpAny_rule (zzA (unpackItems_tuple (items:=#[u1,u2]) (I.ok.hd hc) (IsTup.new s1.heap _) λh' vD=>?_)))
 have I3:=I2.kept (h':=h') (t':=s1.toks) λb o e=>vD b o (zzb (zzO e)) e
 show wpAny _ _ (assignInOrder [λv=>bindName X.env y v,λv=>bindName X.env x v] [u2,u1]>>=λ_=>pure Flow.next) _ _ _
 refine zzA (assignInOrder_cons (wpAny_bindName (fW I3 hN hj (.inl hy) fT (λs2 I4=>?_) (.inr hy))));refine assignInOrder_cons (wpAny_bindName (fW I4 hN hi (.inl hx) rv (λs3 I5=>assignInOrder_nil (zzG ?_)) (.inr hx)))
 rw [List.set_comm _ _ (Ne.symm uq)] at I5;exact⟨_,H1,I5,q1⟩
end
structure It where
 go:Nat->Hp->Prop
 Fj:Nat->Hp->V->Hp->Prop
 stop:Nat->Hp->Prop
def gg(X:Cx)(aa:List (Addr×Obj))(H:Hp)(b:Addr):Prop:=
 H b=none/\b≠X.env.locals/\b∉X.fs/\(b∈X.ex\/X.s₀.heap.objs.size<=b)/\(∀x c,X.env.cells.lookup x=some c->c≠b)/\∀p∈X.pn++aa,p.1≠b
def Inv.kJ{X:Cx}{aa:List (Addr×Obj)}{σ:St}{H H':Hp}{s:Shared}{b:Addr}(I:Inv X aa σ H s)(hb:(zz9 s)<=b)(hn:H' b=none):gg X aa H' b:=by
 refine⟨hn,Nat.ne_of_gt (zzW I.lt hb),I.Mi hb,.inr (zzU I.sz hb),λx c e z=>?_,λp hp z=>?_⟩
 ·obtain⟨v,q⟩:=I.cell x c e
  exact absurd (zzW q.lt (by rw [z];exact hb)) (Nat.lt_irrefl _)
 ·exact absurd (zzW (zzO (I.pin p hp).1) (by rw [z];exact hb)) (Nat.lt_irrefl _)
structure Turn(P:Program)(w:World)(K:zz8)(tg:Expr)(J:It)(fp:List Addr)(it:Addr)(tn:Nat->Heap->Prop):Prop where
 mem:it∈fp
 obj:∀i h,tn i h->∀b∈fp,∃o,h.get? b=some o/\∀v,o.data≠.cell v
 keep:∀i h h',tn i h->(∀b∈fp,∀o,h.get? b=some o->h'.get? b=some o)->tn i h'
 item:∀(X:Cx),X.prog=P->X.w=w->X.K=K->X.calm=true->∀(i:Nat) (aa:List (Addr×Obj)) (s:Shared) (σ:St) (H:Hp) (E:Value->Shared->Prop),Inv X aa σ H s->(∀b∈fp,gg X aa H b)->tn i s.heap->J.go i H->
  wpAny (model P w) X.A (pyNext (.ref it)) (λr s1=>∃u,r=some u/\
   wpAny (model P w) X.A (letOwnedTupleGo tg (.ref it) u) (λ_ s2=>∃x H',Inv X aa σ H' s2/\RelV x u/\J.Fj i H x H'/\tn (i+1) s2.heap/\∀b∈fp,H' b=none) E s1) E s
 done:∀(X:Cx),X.prog=P->X.w=w->X.K=K->X.calm=true->∀(i:Nat) (aa:List (Addr×Obj)) (s:Shared) (σ:St) (H:Hp) (E:Value->Shared->Prop),Inv X aa σ H s->(∀b∈fp,gg X aa H b)->tn i s.heap->J.stop i H->
  wpAny (model P w) X.A (pyNext (.ref it)) (λr s1=>r=none/\Inv X aa σ H s1) E s
 self:∀(A:Around) (i:Nat) (s:Shared) (Q:Value->Shared->Prop) (E:Value->Shared->Prop),tn i s.heap->Q (.ref it) s->wpAny (model P w) A (pyIter (.ref it)) Q E s
noncomputable abbrev TI:=St->Hp->(It->Hp->Prop)->Prop
def J4(X:Cx)(aa:List (Addr×Obj))(σ:St)(tg:Expr)(R:It->Hp->Prop)(JO:Value)(s2:Shared):Prop:=
 ∃(it:Addr) (fp:List Addr) (tn:Nat->Heap->Prop) (J:It) (H':Hp),JO=.ref it/\Inv X aa σ H' s2/\Turn X.prog X.w X.K tg J fp it tn/\tn 0 s2.heap/\(∀b∈fp,gg X aa H' b)/\R J H'
def PI(X:Cx)(tg iter:Expr)(wi:TI):Prop:=
 ∀(aa:List (Addr×Obj)) (s:Shared) (σ:St) (H:Hp) (R:It->Hp->Prop),Inv X aa σ H s->wi σ H R->
  wpAny (model X.prog X.w) X.A (eval iter X.env) (λv s1=>wpAny (model X.prog X.w) X.A (pyIter v) (J4 X aa σ tg R) X.xe s1) X.xe s
def oF{M:Model}{A:Around}{E:Value->Shared->Prop}{s:Shared}{tg:Expr}{it:Addr}{u:Value}{o:Obj}{n:String}{vs:Array Value}{Q:Unit->Shared->Prop}(ho:s.heap.get? it=some o)(hc:o.cls=.type n)(hd:o.data=.fields vs)
 (hn:["enumerate","zip","dict_itemiterator","dict_reverseitemiterator","odict_iterator","itertools.zip_longest","itertools.pairwise"].contains n=false) (hQ:Q () s):wpAny M A (letOwnedTupleGo tg (.ref it) u) Q E s:=by
 unfold letOwnedTupleGo;cases tg<;>first
  |exact zzG hQ
  |(cases u<;>first
   |exact zzG hQ
   | (refine zzA (wpAny_load ho ?_)
      rw [hc,hd];show wpAny M A (if(["enumerate","zip","dict_itemiterator","dict_reverseitemiterator","odict_iterator","itertools.zip_longest","itertools.pairwise"].contains n&&vs[0]?==some (rawInt _))=true then _ else _) Q E s;rw [if_neg (by intro h;rw [hn,Bool.false_and] at h;cases h)];exact zzG hQ))
noncomputable def JT(K:zz8)(a:Addr):It:=
 ⟨λi H=>∃xs x,fQ K H a xs/\xs[i]?=some x,λi H x H'=>H'=H/\∀xs,fQ K H a xs->xs[i]?=some x,λi H=>∃xs,fQ K H a xs/\xs.length<=i⟩
noncomputable def Kt(K:zz8)(a:Addr):It:=
 ⟨λi H=>∃xs x,dJ K H a xs/\xs[i]?=some x,λi H x H'=>H'=H/\∀xs,dJ K H a xs->xs[i]?=some x,λi H=>∃xs,dJ K H a xs/\xs.length<=i⟩
noncomputable def Gq(lo:Int)(n:Nat):It:=⟨λi _=>i<n,λi H x H'=>H'=H/\x=.int (lo+i),λi _=>n<=i⟩
def ud{P:Program}{w:World}{K:zz8}{tg:Expr}(a it:Addr):Turn P w K tg (JT K a) [it] it (λi h=>h.IsListIter it a i) where
 mem:=by simp
 obj:=λi h st b hb=>by
  have e:b=it:=by simpa using hb
  subst e;obtain⟨o,e,c,d⟩:=st
  exact⟨o,e,λv z=>by rw [d] at z;cases z⟩
 keep:=λi h h' st k=>st.at λo e=>k it (by simp) o e
 item:=by
  intro X hP hw hK hc i aa s σ H E I hf st hg;subst hP hw hK;obtain⟨xs,x,hq,hx⟩:=hg
  obtain⟨ae,rv,p,hz⟩:=I.list hq
  obtain⟨u,hu,ru⟩:=rv.get hx
  obtain⟨f0,f1,f2,f3,f4,f5⟩:=hf it (by simp)
  refine wpAny_pyNext_list_item st p.isList (x:=u) (by simpa using hu) λh' fU sb=>?_
  have I1:Inv X aa σ H {s with heap:=h'}:=I.turned (t':=s.toks) (λb o hb e=>(sb.2 b hb).trans e) f0 f1 f3 f4 f5
  obtain⟨o,e,c,d⟩:=id fU
  exact⟨u,rfl,oF (s:={s with heap:=h'}) e c d (by decide) ⟨x,H,I1,ru,⟨rfl,λys hy=>by rw [I.oU hy hq];exact hx⟩,fU,λb hb=>(hf b hb).1⟩⟩
 done:=by
  intro X hP hw hK hc i aa s σ H E I hf st hg;subst hP hw hK;obtain⟨xs,hq,hx⟩:=hg
  obtain⟨ae,rv,p,hz⟩:=I.list hq
  obtain⟨f0,f1,f2,f3,f4,f5⟩:=hf it (by simp)
  have hl:=rv.length
  exact wpAny_pyNext_list_end (I.ok.hd hc) st p.isList (by simp;omega) λh' eb=>⟨rfl,I.turned (t':=s.toks) (λb o hb e=>eb b o hb e) f0 f1 f3 f4 f5⟩
 self:=λ_ _ _ _ _ st h=>wpAny_pyIter_listiter st h
def qK{P:Program}{w:World}{K:zz8}{tg:Expr}(a it:Addr):Turn P w K tg (Kt K a) [it] it (λi h=>h.IsTupleIter it a i) where
 mem:=by simp
 obj:=λi h st b hb=>by
  have e:b=it:=by simpa using hb
  subst e;obtain⟨o,e,c,d⟩:=st
  exact⟨o,e,λv z=>by rw [d] at z;cases z⟩
 keep:=λi h h' st k=>st.at λo e=>k it (by simp) o e
 item:=by
  intro X hP hw hK hc i aa s σ H E I hf st hg;subst hP hw hK;obtain⟨xs,x,hq,hx⟩:=hg
  obtain⟨ae,rv,p,hz⟩:=I.tuple hq
  obtain⟨u,hu,ru⟩:=rv.get hx
  obtain⟨f0,f1,f2,f3,f4,f5⟩:=hf it (by simp)
  refine wpAny_pyNext_tuple_item st (show s.heap.IsTuple a ae.toArray from p) (x:=u) (by simpa using hu) λh' fU sb=>?_
  have I1:Inv X aa σ H {s with heap:=h'}:=I.turned (t':=s.toks) (λb o hb e=>(sb.2 b hb).trans e) f0 f1 f3 f4 f5
  obtain⟨o,e,c,d⟩:=id fU
  exact⟨u,rfl,oF (s:={s with heap:=h'}) e c d (by decide) ⟨x,H,I1,ru,⟨rfl,λys hy=>by rw [I.lI hy hq];exact hx⟩,fU,λb hb=>(hf b hb).1⟩⟩
 done:=by
  intro X hP hw hK hc i aa s σ H E I hf st hg;subst hP hw hK;obtain⟨xs,hq,hx⟩:=hg
  obtain⟨ae,rv,p,hz⟩:=I.tuple hq
  obtain⟨f0,f1,f2,f3,f4,f5⟩:=hf it (by simp)
  have hl:=rv.length
  exact wpAny_pyNext_tuple_end (I.ok.hd hc) st (show s.heap.IsTuple a ae.toArray from p) (by simp;omega) λh' eb=>⟨rfl,I.turned (t':=s.toks) (λb o hb e=>eb b o hb e) f0 f1 f3 f4 f5⟩
 self:=λ_ _ _ _ _ st h=>wpAny_pyIter_tupleiter st h
def qO{P:Program}{w:World}{K:zz8}{tg:Expr}(it:Addr)(lo:Int)(n:Nat):Turn P w K tg (Gq lo n) [it] it (λi h=>IsRangeIter h it (lo+(i:Nat)*1) ((n:Int)-(i:Nat)) 1) where
 mem:=by simp
 obj:=λi h st b hb=>by
  have e:b=it:=by simpa using hb
  subst e;exact⟨_,st,λv z=>by
   have z':Data.fields _=Data.cell v:=z
   cases z'⟩
 keep:=λi h h' st k=>k it (by simp) _ st
 item:=by
  intro X hP hw hK hc i aa s σ H E I hf st hg;subst hP hw hK;obtain⟨f0,f1,f2,f3,f4,f5⟩:=hf it (by simp)
  have W:=Walks.range (prog:=X.prog) (w:=X.w) (I.ok.hd hc) it lo 1 n
  refine W.item i s _ _ hg st λv h' tk hv fU kk=>?_
  obtain⟨t,rfl⟩:=hv
  have I1:Inv X aa σ H {s with heap:=h',toks:=tk}:=I.turned (λb o hb e=>kk b o (by simpa using hb) e) f0 f1 f3 f4 f5
  refine⟨_,rfl,oF (s:={s with heap:=h',toks:=tk}) (n:="range_iterator") fU rfl rfl (by decide) ⟨.int (lo+i),H,I1,⟨t,?_⟩,⟨rfl,rfl⟩,fU,λb hb=>(hf b hb).1⟩⟩
  rw [Int.mul_one]
 done:=by
  intro X hP hw hK hc i aa s σ H E I hf st hg;subst hP hw hK;obtain⟨f0,f1,f2,f3,f4,f5⟩:=hf it (by simp)
  exact wpAny_pyNext_range_end (I.ok.hd hc) st (by have:n<=i:=hg;omega) λh' eb=>⟨rfl,I.turned (t':=s.toks) (λb o hb e=>eb b o hb e) f0 f1 f3 f4 f5⟩
 self:=λ_ _ _ _ _ st h=>wpAny_pyIter_rangeiter st h
section
variable{X:Cx}{tg:Expr}
noncomputable def Hz(K:zz8)(tl:TE):TI:=λσ H R=>tl σ H λx H1=>∃a,x=.ref a/\(∃xs,fQ K H1 a xs)/\R (JT K a) H1
noncomputable def Ki(K:zz8)(tl:TE):TI:=λσ H R=>tl σ H λx H1=>∃a,x=.ref a/\(∃xs,dJ K H1 a xs)/\R (Kt K a) H1
def sO{l:Expr}{tl:TE}(hl:PE X l tl):PI X tg l (Hz X.K tl):=by
 intro aa s σ H R I h;refine bh (hl aa s σ H _ I h) λv s1 ⟨x,H1,I1,r1,q1⟩=>?_
 obtain⟨a,e,⟨xs,hq⟩,q⟩:=q1
 subst e;cases r1;obtain⟨ae,rv,p,hz⟩:=I1.list hq
 refine wpAny_pyIter_list p.isList ?_;refine⟨(zz9 s1),[(zz9 s1)],_,_,H1,rfl,I1.kept (t':=s1.toks) λb o e=>zzB _ e,ud a _,⟨_,zzX _ rfl,rfl,rfl⟩,λb hb=>?_,q⟩
 have e:b=(zz9 s1):=by simpa using hb
 subst e;exact I1.kJ (zzE _) (I1.aU.fresh (zzE _))
def FE{l:Expr}{tl:TE}(hl:PE X l tl):PI X tg l (Ki X.K tl):=by
 intro aa s σ H R I h;refine bh (hl aa s σ H _ I h) λv s1 ⟨x,H1,I1,r1,q1⟩=>?_
 obtain⟨a,e,⟨xs,hq⟩,q⟩:=q1
 subst e;cases r1;obtain⟨ae,rv,p,hz⟩:=I1.tuple hq
 refine wpAny_pyIter_tuple (show s1.heap.IsTuple a ae.toArray from p) ?_;refine⟨(zz9 s1),[(zz9 s1)],_,_,H1,rfl,I1.kept (t':=s1.toks) λb o e=>zzB _ e,qK a _,⟨_,zzX _ rfl,rfl,rfl⟩,λb hb=>?_,q⟩
 have e:b=(zz9 s1):=by simpa using hb
 subst e;exact I1.kJ (zzE _) (I1.aU.fresh (zzE _))
def pP{aa:List (Addr×Obj)}{σ:St}{H:Hp}{s:Shared}{R:It->Hp->Prop}{E:Value->Shared->Prop}{lo hi:Int}{t u v:Tok}{tk:Nat}(I:Inv X aa σ H s)(h1: -(2^62)<=lo)(h2:lo<2^62)(h3: -(2^62)<=hi)(h4:hi<2^62)
 (q:R (Gq lo (hi-lo).toNat) H):wpAny (model X.prog X.w) X.A (pyIter (.ref (zz9 s))) (J4 X aa σ tg R) E {s with heap:=s.heap.push {cls:=.type "range",data:=.fields #[.int lo t,.int hi u,.int 1 v]},toks:=tk}:=by
 refine wpAny_pyIter_range (IsRange.new ..) (small_one h1 h2 h3 h4) ?_;have I1:Inv X aa σ H {s with heap:=s.heap.push {cls:=.type "range",data:=.fields #[.int lo t,.int hi u,.int 1 v]},toks:=tk}:=I.kept λb o e=>zzB _ e
 refine⟨(s.heap.push {cls:=.type "range",data:=.fields #[.int lo t,.int hi u,.int 1 v]}).objs.size,[(s.heap.push {cls:=.type "range",data:=.fields #[.int lo t,.int hi u,.int 1 v]}).objs.size],_,_,H,rfl,
  I1.kept (t':=tk) λb o e=>zzB _ e,qO _ lo (hi-lo).toNat,?_,λb hb=>?_,q⟩
 ·have e1:lo+((0:Nat):Int)*1=lo:=by simp
  have e2:(((hi-lo).toNat:Nat):Int)-((0:Nat):Int)=Builtin.Range.rangeSize lo hi 1:=by rw [rangeSize_one];split<;>omega
  show IsRangeIter _ _ (lo+((0:Nat):Int)*1) ((((hi-lo).toNat:Nat):Int)-((0:Nat):Int)) 1
  rw [e1,e2];exact zzX _ rfl
 ·have e:b=(s.heap.push {cls:=.type "range",data:=.fields #[.int lo t,.int hi u,.int 1 v]}).objs.size:=by simpa using hb
  subst e;exact I1.kJ (zzE _) (I1.aU.fresh (zzE _))
noncomputable def HZ(ta:TA):TI:=λσ H R=>ta σ H λvs H1=>∃j:Int,vs=[.int j]/\ -(2^62)<=j/\j<2^62/\R (Gq 0 j.toNat) H1
noncomputable def IA(ta:TA):TI:=λσ H R=>ta σ H λvs H1=>∃i j:Int,vs=[.int i,.int j]/\(-(2^62)<=i/\i<2^62/\ -(2^62)<=j/\j<2^62)/\R (Gq i (j-i).toNat) H1
theorem vo{a:Expr}{ta:TA}{p pos:Pos}(hg:Gl X "range")(hm:X.mg "range"=none)(ha:PA X [a] ta)(hs:starEach [a] X.env=[(false,eval a X.env)]:=by rfl):PI X tg (.Call (.Name "range" p) [a] [] pos) (HZ ta):=by
 intro aa s σ H R I h;refine Call_ (c6 I hg hm boot_range (PyProof.Rows.callWith_type1 (bh (ha pos aa s σ H _ I h) λus s1 ⟨vs,H1,I1,r1,q1⟩=>?_) hs rfl))
 obtain⟨j,e,q1,q2,q⟩:=q1
 subst e;cases r1 with
 |cons r rr=>
  cases rr;obtain⟨t,rfl⟩:=r
  exact call_range_1 (pP I1 (by omega) (by omega) q1 q2 (by simpa using q))
theorem uE{a b:Expr}{ta:TA}{p pos:Pos}(hg:Gl X "range")(hm:X.mg "range"=none)(ha:PA X [a,b] ta)(hs:starEach [a,b] X.env=[(false,eval a X.env),(false,eval b X.env)]:=by rfl)(Cr:starEach [b] X.env=[(false,eval b X.env)]:=by rfl):
 PI X tg (.Call (.Name "range" p) [a,b] [] pos) (IA ta):=by
 intro aa s σ H R I h;refine Call_ (c6 I hg hm boot_range (PyProof.Rows.callWith_type1 (bh (ha pos aa s σ H _ I h) λus s1 ⟨vs,H1,I1,r1,q1⟩=>?_) (by rw [hs,Cr]) (by rw [Cr];rfl)))
 obtain⟨i,j,e,⟨q1,q2,q3,q4⟩,q⟩:=q1
 subst e;cases r1 with
 |cons r rr=>
  cases rr with
  |cons r' rr=>
   cases rr;obtain⟨t,rfl⟩:=r
   obtain⟨t',rfl⟩:=r'
   exact call_range_2 (pP I1 q1 q2 q3 q4 q)
noncomputable def LR(wi:TI)(g:TG)(tb:TS):TS:=λD σ H=>wi σ H λJ H1=>∃W:Nat->Nat->St->Hp->Prop,(∃m,W 0 m σ H1)/\∀i m σ H,W i m σ H->
 (J.stop i H/\D.nx σ H)\/(J.go i H/\∃N:St->Hp->Prop,(∀σ' H',N σ' H'->∃m',m'<m/\W (i+1) m' σ' H')/\∀x H',J.Fj i H x H'->g x σ H' λσ2 H2=>tb {D with nx:=N,ct:=N,bk:=D.nx} σ2 H2)
noncomputable def mU(fp:List Addr)(h:Heap):List (Addr×Obj):=fp.filterMap λb=>(h.get? b).map λo=>(b,o)
def cF{fp:List Addr}{h:Heap}{b:Addr}{o:Obj}(hb:b∈fp)(e:h.get? b=some o):(b,o)∈mU fp h:=zz1.mpr ⟨b,hb,by rw [e];rfl⟩
def uV{fp:List Addr}{h:Heap}{p:Addr×Obj}(hp:p∈mU fp h):p.1∈fp/\h.get? p.1=some p.2:=by
 obtain⟨b,hb,e⟩:=zz1.mp hp
 cases q:h.get? b with
 |none=>rw [q] at e;cases e
 |some o=>
  rw [q] at e;have e':(b,o)=p:=zzq e
  subst e';exact⟨hb,q⟩
theorem Inv.pinned{aa:List (Addr×Obj)}{σ:St}{H:Hp}{s:Shared}{fp:List Addr}(I:Inv X aa σ H s)(hf:∀b∈fp,gg X aa H b)(ho:∀b∈fp,∃o,s.heap.get? b=some o/\∀v,o.data≠.cell v):Inv X (aa++mU fp s.heap) σ H s:=
 I.iP λp hp=>(List.mem_append.mp hp).elim (λz=>I.pin p (zzR _ z)) λz=>by
  obtain⟨hb,e⟩:=uV z
  obtain⟨f0,f1,f2,_⟩:=hf p.1 hb
  obtain⟨o,e',d⟩:=ho p.1 hb
  rw [e] at e';cases e';exact⟨e,f0,f1,f2,d⟩
def Inv.gr{aa pl:List (Addr×Obj)}{σ:St}{H:Hp}{s:Shared}(I:Inv X (aa++pl) σ H s):Inv X aa σ H s:=I.iP λp hp=>I.pin p (zzR _ (zzc _ hp))
def Eo{iter:Expr}{body:List Stmt}{wi:TI}{g:TG}{tb:TS}{pos:Pos}(hp:PassesOwn (model X.prog X.w) X.A X.env X.xe)(hc:X.calm=true)(hi:PI X tg iter wi)(hg:PG X tg g)(hb:uT X body tb)
 (hs:∀x,foldedSetIterable iter X.env x=pure x:=by intro _;rfl):PS X (.For tg iter body [] pos) (LR wi g tb):=by
 intro aa s σ H D I h;refine wpAny_For (bh (hi aa s σ H _ I h) λv s1 h1=>bh h1 λJO s2 h2=>?_) hs
 obtain⟨it,fp,tn,J,H2,e,I2,T,Dl,f2,W,⟨m0,w0⟩,turn⟩:=h2
 subst e;have DX:∀{H':Hp},(∀b∈fp,H' b=none)->∀b∈fp,gg X aa H' b:=λhn b hb=>⟨hn b hb,(f2 b hb).2⟩
 refine codeAny_forLoop_any (λn s'=>∃i σ' H',Inv X aa σ' H' s'/\tn i s'.heap/\(∀b∈fp,H' b=none)/\W i n σ' H') ?_ m0 ⟨0,σ,H2,I2,Dl,λb hb=>(f2 b hb).1,w0⟩
 rintro n s3 ⟨i,σ3,H3,I3,CG,fr3,w3⟩
 rcases turn i n σ3 H3 w3 with⟨stop,qn⟩|⟨go,N,hN,step⟩
 ·refine wpAny_passesOwn hp (bh (T.done X rfl rfl rfl hc i aa s3 σ3 H3 X.xe I3 (DX fr3) CG stop) λr s4 ⟨hr,I4⟩=>?_)
  subst hr;exact wpAny_execs_nil ⟨σ3,H3,I4,qn⟩
 ·refine wpAny_passesOwn hp (bh (T.item X rfl rfl rfl hc i aa s3 σ3 H3 X.xe I3 (DX fr3) CG go) λr s4 ⟨u,hr,h4⟩=>?_)
  subst hr;refine wpAny_passesOwn hp (bh h4 λ_ s5 ⟨x,H5,I5,r5,y5,st5,fr5⟩=>?_);have Mo:=I5.pinned (DX fr5) (T.obj _ _ st5)
  refine wpAny_passesOwn hp (bh (hg _ s5 σ3 H5 x u _ Mo r5 (step x H5 y5)) λ_ s6 ⟨σ6,H6,I6,q6⟩=>?_)
  refine wpAny_passesOwn hp (bh (hb _ s6 σ6 H6 _ I6 q6) λf s7 q7=>?_)
  have again:∀{σ7:St} {H7:Hp},Inv X (aa++mU fp s5.heap) σ7 H7 s7->N σ7 H7->∃m,m<n/\∃i σ' H',Inv X aa σ' H' s7/\tn i s7.heap/\(∀b∈fp,H' b=none)/\W i m σ' H':=λ{σ7 H7} I7 n7=>by
   obtain⟨m',hm,w7⟩:=hN σ7 H7 n7
   refine⟨m',hm,i+1,σ7,H7,I7.gr,T.keep _ _ _ st5 λb hb o e=>(I7.pin (b,o) (zzR _ (zzR _ (cF hb e)))).1,λb hb=>?_,w7⟩
   obtain⟨o,e,d⟩:=T.obj _ _ st5 b hb
   exact(I7.pin (b,o) (zzR _ (zzR _ (cF hb e)))).2.1
  cases f with
  |next=>obtain⟨σ7,H7,I7,n7⟩:=q7;exact again I7 n7
  |cont=>obtain⟨σ7,H7,I7,n7⟩:=q7;exact again I7 n7
  |brk=>obtain⟨σ7,H7,I7,q7⟩:=q7;exact⟨σ7,H7,I7.gr,q7⟩
  |ret v=>obtain⟨x7,σ7,H7,I7,r7,q7⟩:=q7;exact⟨x7,σ7,H7,I7.gr,r7,q7⟩
end
noncomputable abbrev R2:=V->V->Hp->VK->Prop
def d5(X:Cx)(f:Value->Value->Sem Value)(r:R2):Prop:=
 ∀(aa:List (Addr×Obj)) (s:Shared) (σ:St) (H:Hp) (x y:V) (v u:Value) (Q:VK),Inv X aa σ H s->RelV x v->RelV y u->r x y H Q->
  wpAny (model X.prog X.w) X.A (f v u) (EP X aa σ Q) X.xe s
def JS(X:Cx)(f:Value->Sem Value)(r:V->Hp->VK->Prop):Prop:=
 ∀(aa:List (Addr×Obj)) (s:Shared) (σ:St) (H:Hp) (x:V) (v:Value) (Q:VK),Inv X aa σ H s->RelV x v->r x H Q->
  wpAny (model X.prog X.w) X.A (f v) (EP X aa σ Q) X.xe s
def bF(X:Cx)(f:Value)(r:List V->Hp->VK->Prop):Prop:=
 ∀(aa:List (Addr×Obj)) (s:Shared) (σ:St) (H:Hp) (xs:List V) (us:List Value) (Q:VK),Inv X aa σ H s->Vals xs us->r xs H Q->
  wpAny (model X.prog X.w) X.A (call f us) (EP X aa σ Q) X.xe s
noncomputable def HR(r:R2)(ta tb:TE):TE:=λσ H Q=>ta σ H λx H1=>tb σ H1 λy H2=>r x y H2 Q
noncomputable def Pp(r:V->Hp->VK->Prop)(ta:TE):TE:=λσ H Q=>ta σ H λx H1=>r x H1 Q
noncomputable def rI(C:Int->Int->Prop)(g:Int->Int->V):R2:=λx y H Q=>∃i j,x=.int i/\y=.int j/\C i j/\Q (g i j) H
noncomputable def DM(g:Int->Int->V):R2:=λx y H Q=>∃i j,x=.int i/\y=.int j/\Q (g i j) H
def rU(g:Int->V):V->Hp->VK->Prop:=λx H Q=>∃i,x=.int i/\Q (g i) H
section
variable{X:Cx}{a b:Expr}{ta tb:TE}{pos:Pos}
def EJ(ha:PE X a ta)(hb:PE X b tb){aa:List (Addr×Obj)}{s:Shared}{σ:St}{H:Hp}{R:V->V->Hp->Prop}(I:Inv X aa σ H s)
 (h:ta σ H λx H1=>tb σ H1 λy H2=>R x y H2) {Q:Value->Shared->Prop} {f:Value->Value->Sem Value}
 (hf:∀v u s2 x y H2,Inv X aa σ H2 s2->RelV x v->RelV y u->R x y H2->wpAny (model X.prog X.w) X.A (f v u) Q X.xe s2):
 wpAny (model X.prog X.w) X.A (eval a X.env) (λv s₁=>wpAny (model X.prog X.w) X.A (eval b X.env) (λu s₂=>wpAny (model X.prog X.w) X.A (f v u) Q X.xe s₂) X.xe s₁) X.xe s:=by
 refine bh (ha aa s σ H _ I h) λv s1 ⟨x,H1,I1,r1,q1⟩=>?_
 refine bh (hb aa s1 σ H1 _ I1 q1) λu s2 ⟨y,H2,I2,r2,q2⟩=>?_
 exact hf v u s2 x y H2 I2 r1 r2 q2
def BQ{op:Operator}{r:R2}(ho:d5 X (binaryOp op) r)(ha:PE X a ta)(hb:PE X b tb):PE X (.BinOp a op b pos) (HR r ta tb):=by
 intro aa s σ H Q I h;exact wpAny_BinOp (EJ ha hb I h λv u s2 x y H2 I2 rx ry q=>ho aa s2 σ H2 x y v u Q I2 rx ry q)
def GH{op:UnaryOp}{r:V->Hp->VK->Prop}(ho:JS X (unaryOp op) r)(ha:PE X a ta):PE X (.UnaryOp op a pos) (Pp r ta):=by
 intro aa s σ H Q I h;exact UnaryOp_ (bh (ha aa s σ H _ I h) λv s1 ⟨x,H1,I1,r1,q1⟩=>ho aa s1 σ H1 x v Q I1 r1 q1)
def vV{f:Value->Value->Sem Value}{C:Int->Int->Prop}{g:Int->Int->Int}
 (rule:∀(i j:Int) (t u:Tok) (s:Shared) (Q:Value->Shared->Prop) (E:Value->Shared->Prop),C i j->Q (.int (g i j) s.toks) {s with toks:=s.toks+1}->wpAny (model X.prog X.w) X.A (f (.int i t) (.int j u)) Q E s):
 d5 X f (rI C λi j=>.int (g i j)):=by
 intro aa s σ H x y v u Q I rx ry h;obtain⟨i,j,rfl,rfl,hc,q⟩:=h
 obtain⟨t,rfl⟩:=rx
 obtain⟨t',rfl⟩:=ry
 exact rule i j t t' s _ _ hc ⟨.int (g i j),H,I.tok _,⟨_,rfl⟩,q⟩
def Iu{f:Value->Value->Sem Value}{g:Int->Int->Int}
 (rule:∀(i j:Int) (t u:Tok) (s:Shared) (Q:Value->Shared->Prop) (E:Value->Shared->Prop),Q (.int (g i j) s.toks) {s with toks:=s.toks+1}->wpAny (model X.prog X.w) X.A (f (.int i t) (.int j u)) Q E s):
 d5 X f (DM λi j=>.int (g i j)):=by
 intro aa s σ H x y v u Q I rx ry h;obtain⟨i,j,rfl,rfl,q⟩:=h
 obtain⟨t,rfl⟩:=rx
 obtain⟨t',rfl⟩:=ry
 exact rule i j t t' s _ _ ⟨.int (g i j),H,I.tok _,⟨_,rfl⟩,q⟩
def FH{f:Value->Value->Sem Value}{g:Int->Int->Bool}
 (rule:∀(i j:Int) (t u:Tok) (s:Shared) (Q:Value->Shared->Prop) (E:Value->Shared->Prop),Q (.bool (g i j)) s->wpAny (model X.prog X.w) X.A (f (.int i t) (.int j u)) Q E s):
 d5 X f (DM λi j=>.bl (g i j)):=by
 intro aa s σ H x y v u Q I rx ry h;obtain⟨i,j,rfl,rfl,q⟩:=h
 obtain⟨t,rfl⟩:=rx
 obtain⟨t',rfl⟩:=ry
 exact rule i j t t' s _ _ ⟨.bl (g i j),H,I,rfl,q⟩
def KD(i j:Int):Prop:=0<j/\j<1073741824
def DG(i j:Int):Prop:=(-(2^64)<i/\i<2^64)\/(-(2^64)<j/\j<2^64)
def DG.ok{i j:Int}(h:DG i j):IntMulOk i j:=by
 rcases h with⟨h1,h2⟩|⟨h1,h2⟩
 ·exact .of_left (intBits_le_64 h1 h2)
 ·exact .of_right (intBits_le_64 h1 h2)
def wR:d5 X (binaryOp .Add) (DM λi j=>.int (i+j)):=Iu λ_ _ _ _ _ _ _ q=>add_int q
def E0:d5 X (binaryOp .Sub) (DM λi j=>.int (i-j)):=Iu λ_ _ _ _ _ _ _ q=>sub_int q
def EK:d5 X (binaryOp .Mult) (rI DG λi j=>.int (i*j)):=vV λ_ _ _ _ _ _ _ hc q=>mul_int q hc.ok
theorem zY:d5 X (binaryOp .FloorDiv) (rI KD λi j=>.int (i/j)):=vV λi j _ _ _ _ _ hc q=>by
 have h1:(0:Int)<j:=hc.1
 have h2:j<1073741824:=hc.2
 exact floordiv_int (by omega) (by rw [Int.fdiv_eq_ediv_of_nonneg i (by omega)];exact q) (.inl (PyProof.noPylong_small (by omega)))
theorem Fd:d5 X (binaryOp .Mod) (rI (λ_ j=>0<j) λi j=>.int (i%j)):=vV λi j _ _ _ _ _ hc q=>by
 have h1:(0:Int)<j:=hc
 exact mod_int' (by omega) (by rw [Int.fmod_eq_emod_of_nonneg i (by omega)];exact q)
def O6{f:Value->Sem Value}{g:Int->Int}
 (rule:∀(i:Int) (t:Tok) (s:Shared) (Q:Value->Shared->Prop) (E:Value->Shared->Prop),Q (.int (g i) s.toks) {s with toks:=s.toks+1}->wpAny (model X.prog X.w) X.A (f (.int i t)) Q E s):
 JS X f (rU λi=>.int (g i)):=by
 intro aa s σ H x v Q I rx h;obtain⟨i,rfl,q⟩:=h
 obtain⟨t,rfl⟩:=rx
 exact rule i t s _ _ ⟨.int (g i),H,I.tok _,⟨_,rfl⟩,q⟩
def Eh:JS X (unaryOp .USub) (rU λi=>.int (-i)):=O6 λ_ _ _ _ _ q=>neg_int q
variable{c:Expr}{tc:TE}
def mW{aa:List (Addr×Obj)}{σ:St}{H:Hp}{s:Shared}{Q:VK}{k k':Bool}(I:Inv X aa σ H s)(q:Q (.bl k) H)(e:k=k'):EP X aa σ Q (.bool k') s:=by
 subst e;exact⟨.bl k,H,I,rfl,q⟩
def Hy:d5 X (compareOp .Lt) (DM λi j=>.bl (decide (i<j))):=FH λ_ _ _ _ _ _ _ q=>lt_int q
def Gk:d5 X (compareOp .LtE) (DM λi j=>.bl (decide (i<=j))):=FH λ_ _ _ _ _ _ _ q=>le_int q
def He:d5 X (compareOp .Gt) (DM λi j=>.bl (decide (j<i))):=FH λ_ _ _ _ _ _ _ q=>gt_int q
def uO:d5 X (compareOp .In) (λx y H Q=>∃i j,x=.str i/\y=.str j/\Q (.bl (!(Builtin.Str.occurrences j i 0 j.length 1).isEmpty)) H):=by
 intro aa s σ H x y v u Q I rx ry h;obtain⟨i,j,rfl,rfl,q⟩:=h
 obtain⟨t,rfl⟩:=rx
 obtain⟨t',rfl⟩:=ry
 exact in_str (mW I q rfl)
def A7:d5 X (compareOp .IsNot) (λx y H Q=>y=.aI/\Q (.bl (!decide (x=.aI))) H):=by
 intro aa s σ H x y v u Q I rx ry h;obtain⟨rfl,q⟩:=h
 cases ry;refine isnot_none_gen (mW I q ?_);cases x<;>first
  |(cases rx;rfl)
  |(obtain⟨t,rfl⟩:=rx;rfl)
def Ls(b:Expr){op:CmpOp}(h:op≠.In:=by decide)(h2:op≠.NotIn:=by decide):behindInMarks op b=false:=by
 have e1:(op==CmpOp.In)=false:=by cases op<;>first|rfl|exact absurd rfl h
 have e2:(op==CmpOp.NotIn)=false:=by cases op<;>first|rfl|exact absurd rfl h2
 cases b<;>simp [behindInMarks,e1,e2]
def Ad{op:CmpOp}{r:R2}(ho:d5 X (compareOp op) r)(ha:PE X a ta)(hb:PE X b tb)(hm:behindInMarks op b=false):PE X (.Compare a [op] [b] pos) (HR r ta tb):=by
 intro aa s σ H Q I h;exact wpAny_Compare1 (EJ ha hb I h λv u s2 x y H2 I2 rx ry q=>ho aa s2 σ H2 x y v u Q I2 rx ry q) hm
noncomputable def vJ(t:TE):TT:=λσ H Q=>t σ H λx H'=>∃k,x=.bl k/\Q k H'
def Bq{op:CmpOp}{r:R2}(ho:d5 X (compareOp op) r)(ha:PE X a ta)(hb:PE X b tb)(hm:behindInMarks op b=false):PT X (.Compare a [op] [b] pos) (vJ (HR r ta tb)):=by
 intro aa s σ H Q I h;refine wpAny_isTrue_Compare1 (bh (ha aa s σ H _ I h) λv s1 ⟨x,H1,I1,r1,q1⟩=>bh (hb aa s1 σ H1 _ I1 q1) λu s2 ⟨y,H2,I2,r2,q2⟩=>
  bh (ho aa s2 σ H2 x y v u _ I2 r1 r2 q2) λc s3 ⟨z,H3,I3,r3,k,e,q3⟩=>?_) hm
 subst e;cases r3;exact wpAny_truthy_bool ⟨H3,I3,q3⟩
noncomputable def rf(r r':R2)(ta tb tc:TE):TE:=λσ H Q=>ta σ H λx H1=>tb σ H1 λy H2=>r x y H2 λz H3=>∃k,z=.bl k/\
 (if k=true then tc σ H3 λw' H4=>r' y w' H4 Q else Q (.bl false) H3)
def x6{op Fb:CmpOp}{r r':R2}(ho:d5 X (compareOp op) r)(hV:d5 X (compareOp Fb) r')(ha:PE X a ta)(hb:PE X b tb)(hc:PE X c tc)
 (hm:lastMarks [op,Fb] [b,c]=false:=by with_unfolding_all rfl):PE X (.Compare a [op,Fb] [b,c] pos) (rf r r' ta tb tc):=by
 intro aa s σ H Q I h;refine Compare_chain (bh (ha aa s σ H _ I h) λv s1 ⟨x,H1,I1,r1,q1⟩=>chain_link (bh (hb aa s1 σ H1 _ I1 q1) λu s2 ⟨y,H2,I2,r2,q2⟩=>
  bh (ho aa s2 σ H2 x y v u _ I2 r1 r2 q2) λd s3 ⟨z,H3,I3,r3,k,e,q3⟩=>?_)) hm
 subst e;cases r3;refine wpAny_truthy_bool ?_;cases k with
 |false=>exact ite_ff ⟨.bl false,H3,I3,rfl,q3⟩
 |true=>exact ite_tt (chain_last (bh (hc aa s3 σ H3 _ I3 q3) λw' s4 ⟨z',H4,I4,r4,q4⟩=>hV aa s4 σ H4 y z' u w' Q I4 r2 r4 q4))
def vO{op Fb:CmpOp}{r r':R2}(ho:d5 X (compareOp op) r)(hV:d5 X (compareOp Fb) r')(ha:PE X a ta)(hb:PE X b tb)(hc:PE X c tc)
 (hm:lastMarks [op,Fb] [b,c]=false:=by with_unfolding_all rfl):PT X (.Compare a [op,Fb] [b,c] pos) (vJ (rf r r' ta tb tc)):=by
 intro aa s σ H Q I h;refine isTrue_chain (bh (ha aa s σ H _ I h) λv s1 ⟨x,H1,I1,r1,q1⟩=>test_link (bh (hb aa s1 σ H1 _ I1 q1) λu s2 ⟨y,H2,I2,r2,q2⟩=>
  bh (ho aa s2 σ H2 x y v u _ I2 r1 r2 q2) λd s3 ⟨z,H3,I3,r3,k,e,q3⟩=>?_)) hm
 subst e;cases r3;refine wpAny_truthy_bool ?_;cases k with
 |false=>
  obtain⟨k',e',q'⟩:=q3
  cases e';exact ite_ff ⟨H3,I3,q'⟩
 |true=>
  refine ite_tt (test_last (bh (hc aa s3 σ H3 _ I3 q3) λw' s4 ⟨z',H4,I4,r4,q4⟩=>bh (hV aa s4 σ H4 y z' u w' _ I4 r2 r4 q4) λd' s5 ⟨z2,H5,I5,r5,k2,e2,q5⟩=>?_))
  subst e2;cases r5;exact wpAny_truthy_bool ⟨H5,I5,q5⟩
def iX:(sizeLine:Nat)<2^63:=by rw [sizeLine_eq];decide
def qf:d5 X (binaryOp .Add) (λx y H Q=>∃i j,x=.str i/\y=.str j/\i.length+j.length<=sizeLine/\Q (.str (i++j)) H):=by
 intro aa s σ H x y v u Q I rx ry h;obtain⟨i,j,rfl,rfl,hz,q⟩:=h
 obtain⟨t,rfl⟩:=rx
 obtain⟨t',rfl⟩:=ry
 exact add_str (λt' tk=>⟨.str (i++j),H,I.tok _,⟨_,rfl⟩,q⟩) hz
def vals1{x:V}{us:List Value}(r:Vals [x] us):∃u,us=[u]/\RelV x u:=by
 cases r with
 |cons r1 r2=>cases r2;exact⟨_,rfl,r1⟩
def u3:bF X (.type "int") (λxs H Q=>(∃i,xs=[.int i]/\Q (.int i) H)\/∃k,xs=[.bl k]/\Q (.int (if k then 1 else 0)) H):=by
 intro aa s σ H xs us Q I r h;rcases h with⟨i,rfl,q⟩|⟨k,rfl,q⟩
 ·obtain⟨u,rfl,t,rfl⟩:=vals1 r
  exact call_int_int ⟨.int i,H,I,⟨_,rfl⟩,q⟩
 ·obtain⟨u,rfl,r1⟩:=vals1 r
  cases r1;exact call_int_bool ⟨.int (if k then 1 else 0),H,I.tok _,⟨_,rfl⟩,q⟩
def nc:bF X (.type "str") (λxs H Q=>∃i,xs=[.int i]/\i.natAbs.log2<1920/\Q (.str (toString i)) H):=by
 intro aa s σ H xs us Q I r h;obtain⟨i,rfl,hz,q⟩:=h
 obtain⟨u,rfl,t,rfl⟩:=vals1 r
 exact PySem.P.str_of_int hz ⟨.str _,H,I.tok _,⟨_,rfl⟩,q⟩
end
def kh.some_of{v:V}{o:Option Value}(r:kh (some v) o):∃u,o=some u/\RelV v u:=by
 cases o with
 |none=>exact(show False from r).elim
 |some u=>exact⟨u,rfl,r⟩
structure dv(k:Nat)(A:Around):Prop where
 hd:3<=k->A.handled=none
 dp:A.depth+3*k+5<recursionLimit
 un:A.units+16*k+200<cLine
theorem dv.mono{j k:Nat}{A:Around}(r:dv k A)(h:j<=k):dv j A:=⟨λz=>r.hd (by omega),by have:=r.dp;omega,by have:=r.un;omega⟩
theorem dv.deeper{k:Nat}{A:Around}(r:dv (k+1) A)(env:Env):dv k (A.deeper env):=
 ⟨λz=>r.hd (by omega),by have:=r.dp;show A.depth+1+3*k+5<_;omega,by have:=r.un;show A.units+3+16*k+200<_;omega⟩
def dv.depth{k:Nat}{A:Around}(r:dv k A):A.depth<recursionLimit:=by have:=r.dp;omega
def dv.units{k:Nat}{A:Around}(r:dv k A):A.units+64<cLine:=by have:=r.un;omega
noncomputable def Mm:TA:=λ_ H Q=>Q [] H
noncomputable def H9(ta:TE)(tr:TA):TA:=λσ H Q=>ta σ H λx H1=>tr σ H1 λxs H2=>Q (x::xs) H2
section
variable{X:Cx}{e:Expr}{es:List Expr}{te:TE}{t:TA}{pos:Pos}
def dq:PA X [] Mm:=λ_ _ _ _ H Q I h=>Calls.spliced_nil ⟨[],H,I,.nil,h⟩
theorem bW(ha:PE X e te)(hr:PA X es t)(hs:starEach (e::es) X.env=(false,eval e X.env)::starEach es X.env:=by rfl):PA X (e::es) (H9 te t):=by
 intro pos aa s σ H Q I h;rw [hs];show wpAny _ _ (spliced ((false,eval e X.env)::backTo pos (starEach es X.env))) _ _ s;refine Calls.spliced_cons (bh (ha aa s σ H _ I h) λu s1 ⟨x,H1,I1,r1,q1⟩=>?_)
 exact bh (hr pos aa s1 σ H1 _ I1 q1) λus s2 ⟨xs,H2,I2,r2,q2⟩=>⟨x::xs,H2,I2,.cons r1 r2,q2⟩
noncomputable def J3(t:TA):TE:=λσ H Q=>t σ H λxs H1=>xs.length<=sizeLine/\∀p,H1 p=none->Q (.ref p) (upd H1 p (.tup xs))
noncomputable def JX(t:TA):TE:=λσ H Q=>t σ H λxs H1=>xs.length<=sizeLine/\∀p,H1 p=none->Q (.ref p) (upd H1 p (.lst xs))
def FI{x1}(h:PA X es t):PE X (.Tuple es x1 pos) (J3 t):=by
 intro aa s σ H Q I hq;refine wpAny_Tuple_spliced (bh (h pos aa s σ H _ I hq) λus s1 ⟨xs,H1,I1,r,z,q⟩=>⟨by rw [<-r.length];exact z,?_⟩)
 have hf:H1 (zz9 s1)=none:=I1.aU.fresh (zzE _)
 refine⟨.ref (zz9 s1),upd H1 (zz9 s1) (.tup xs),I1.laid (t':=s1.toks) (λb u e=>zzB _ e) (zzE _) ?_,rfl,q _ hf⟩;exact⟨z,us,r,⟨_,zzX _ rfl,rfl,_,rfl⟩⟩
def D9(h:PA X es t):PE X (.List es pos) (JX t):=by
 intro aa s σ H Q I hq;refine wpAny_List_spliced (bh (h pos aa s σ H _ I hq) λus s1 ⟨xs,H1,I1,r,z,q⟩=>⟨by rw [<-r.length];exact z,?_⟩)
 have hf:H1 (zz9 s1)=none:=I1.aU.fresh (zzE _)
 refine⟨.ref (zz9 s1),upd H1 (zz9 s1) (.lst xs),I1.laid (t':=s1.toks) (λb u e=>zzB _ e) (zzE _) ?_,rfl,q _ hf⟩;exact⟨z,us,0,r,zzX _ rfl⟩
end
noncomputable abbrev Sp:=List V->Hp->VK->XK->Prop
noncomputable abbrev vH:=List Env->Hp->Shared->XK->Value->Shared->Prop
structure Ac(P:Program)(w:World)(K:zz8)(mg:Str->Option Value)(base:Heap)(A:Around)(outer:List Env)(s:Shared)(H:Hp):Prop where
 frames:A.frames=some outer
 mod:Mod K mg base
 bs:∀b o,base.get? b=some o->s.heap.get? b=some o/\H b=none
 B8:base.objs.size<=(zz9 s)
 k7:s.heap.FunFrames base outer
 ET:∀b∈gD outer,H b=none
 aU:fK P w H s.heap
 bare:AllBare s.gens
def CE(outer:List Env)(P:Program)(w:World)(H:Hp)(s:Shared)(Q:VK)(u:Value)(s':Shared):Prop:=
 ∃v H',s'.os=s.os/\AllBare s'.gens/\Un (gD outer) [] H H' s.heap s'.heap/\fK P w H' s'.heap/\RelV v u/\Q v H'
def CR(CX:vH)(outer:List Env)(P:Program)(w:World)(H:Hp)(s:Shared)(Q:VK)(E:XK)(r:Result)(s':Shared):Prop:=
 match r with
 |.ok (.ret u)=>CE outer P w H s Q u s'
 |.ok _=>False
 |.error e=>CX outer H s E e s'
structure fq(P:Program)(w:World)(K:zz8)(mg:Str->Option Value)(base:Heap)(CX:vH)(k:Nat)(f:Addr)(fd:FuncData)(ps:List Str)(sp:Sp):Prop where
 len:∀vs H Q E,sp vs H Q E->vs.length=ps.length
 run:∀(A:Around) (outer:List Env) (s:Shared) (H:Hp) (args:Args) (us:List Value) (vs:List V) (Q:VK) (E:XK),dv k A->Ac P w K mg base A outer s H->BindsTo s fd args (ps.zip us)->Vals vs us->sp vs H Q E->
  codeAny (model P w) A (.call (.ref f) args) (CR CX outer P w H s Q E) s
def fq.mono{P:Program}{w:World}{K:zz8}{mg:Str->Option Value}{base:Heap}{CX:vH}{j k:Nat}{f:Addr}{fd:FuncData}{ps:List Str}{sp:Sp}(F:fq P w K mg base CX j f fd ps sp)(h:j<=k):
 fq P w K mg base CX k f fd ps sp:=⟨F.len,λA outer s H args us vs Q E hr=>F.run A outer s H args us vs Q E (hr.mono h)⟩
def fq.imp{P:Program}{w:World}{K:zz8}{mg:Str->Option Value}{base:Heap}{CX:vH}{k:Nat}{f:Addr}{fd:FuncData}{ps:List Str}{sp MX:Sp}(F:fq P w K mg base CX k f fd ps sp)
 (h:∀vs H Q E,MX vs H Q E->sp vs H Q E):fq P w K mg base CX k f fd ps MX:=
 ⟨λvs H Q E q=>F.len vs H Q E (h _ _ _ _ q),λA outer s H args us vs Q E hr he hb hv hs=>F.run A outer s H args us vs Q E hr he hb hv (h _ _ _ _ hs)⟩
section
variable{X:Cx}{aa:List (Addr×Obj)}{σ:St}{H:Hp}{s s':Shared}
def Inv.E4(I:Inv X aa σ H s):Ac X.prog X.w X.K X.mg X.base X.A X.stack s H:=
 ⟨I.ok.frames,I.ok.mod,I.bs,zzU I.ok.B8 I.sz,I.stack,I.mS,I.aU,I.bare⟩
def Inv.after{Q:VK}{u:Value}(I:Inv X aa σ H s)(h:CE X.stack X.prog X.w H s Q u s'):EP X aa σ Q u s':=by
 obtain⟨v,H',os,bare,un,aU,r,q⟩:=h
 obtain⟨hh,g,d,t,os'⟩:=s'
 obtain rfl:os'=s.os:=os
 exact⟨v,H',I.call (h':=hh) (g':=g) (d':=d) (t':=t) (ch:=[]) un aU bare (λb z=>absurd z (by simp)),r,q⟩
end
def Binds(K:zz8)(fd:FuncData)(ps:List Str)(ds:List Value):Prop:=
 ∀(s:Shared) (us:List Value),K.In s.heap->(us++ds).length=ps.length->BindsTo s fd ⟨us,[]⟩ (ps.zip (us++ds))
def Binds.all{K:zz8}{fd:FuncData}{ps:List Str}(h:∀us:List Value,us.length=ps.length->bindArgs fd ⟨us,[]⟩=pure (ps.zip us)):Binds K fd ps []:=λs us _ hl=>by
 rw [zz6] at hl⊢;exact .of_eq (h us hl)
def Passes(CX:vH)(X:Cx)(E:XK):Prop:=∀(aa:List (Addr×Obj)) (σ:St) (H:Hp) (s:Shared) (e:Value) (s':Shared),Inv X aa σ H s->CX X.stack H s E e s'->X.xe e s'
structure iJ(N P:List Str)(sc:Scope):Prop where
 kind:sc.kind=.function
 co:sc.isCoroutine=false
 gen:sc.isGenerator=false
 nd:N.Nodup
 pre:N.take P.length=P
 par:∀x∈P,sc.names.lookup x=some .local\/sc.names.lookup x=some .cell
 DR:∀y∈sc.names,y.2≠.free
theorem mh{kindOf:Str->Option NameKind}{x:Str}:∀{binds:List (Str×Value)} {m:Str->Option Value},(∀v,(x,v)∉binds)->bindL kindOf binds m x=m x
 |[],_,_=>rfl
 |(n,v)::r,m,h=>by
  unfold bindL;rw [mh λw hw=>h w (zzI _ hw)]
  split
  ·have:x≠n:=by rintro rfl;exact h v zzP
   simp [this]
  ·rfl
theorem my{kindOf:Str->Option NameKind}{x:Str}:∀{binds:List (Str×Value)} {m:Str->Option Value},(∀v,(x,v)∉binds)->bindC kindOf binds m x=m x
 |[],_,_=>rfl
 |(n,v)::r,m,h=>by
  unfold bindC;rw [my λw hw=>h w (zzI _ hw)]
  split
  ·rfl
  ·have:x≠n:=by rintro rfl;exact h v zzP
   simp [this]
theorem l6{kindOf:Str->Option NameKind}{x:Str}{v:Value}:∀{P:List Str} {vs:List Value} {i:Nat} {m:Str->Option Value},P.Nodup->P[i]?=some x->vs[i]?=some v->kindOf x=some .local->
 bindL kindOf (P.zip vs) m x=some v
 |[],_,_,_,_,h,_,_=>by simp at h
 |_::_,[],_,_,_,_,h,_=>by simp at h
 |p::P,w::vs,0,m,nd,h1,h2,hk=>by
  simp at h1 h2;subst h1;subst h2;show bindL kindOf ((p,w)::P.zip vs) m p=_
  unfold bindL;rw [mh λv hv=>(List.nodup_cons.mp nd).1 (List.of_mem_zip hv).1,if_pos hk]
  simp
 |p::P,w::vs,i+1,m,nd,h1,h2,hk=>by
  show bindL kindOf ((p,w)::P.zip vs) m x=_
  unfold bindL;exact l6 (i:=i) (List.nodup_cons.mp nd).2 (by simpa using h1) (by simpa using h2) hk
theorem lB{kindOf:Str->Option NameKind}{x:Str}{v:Value}:∀{P:List Str} {vs:List Value} {i:Nat} {m:Str->Option Value},P.Nodup->P[i]?=some x->vs[i]?=some v->kindOf x≠some .local->
 bindC kindOf (P.zip vs) m x=some v
 |[],_,_,_,_,h,_,_=>by simp at h
 |_::_,[],_,_,_,_,h,_=>by simp at h
 |p::P,w::vs,0,m,nd,h1,h2,hk=>by
  simp at h1 h2;subst h1;subst h2;show bindC kindOf ((p,w)::P.zip vs) m p=_
  unfold bindC;rw [my λv hv=>(List.nodup_cons.mp nd).1 (List.of_mem_zip hv).1,if_neg hk]
  simp
 |p::P,w::vs,i+1,m,nd,h1,h2,hk=>by
  show bindC kindOf ((p,w)::P.zip vs) m x=_
  unfold bindC;exact lB (i:=i) (List.nodup_cons.mp nd).2 (by simpa using h1) (by simpa using h2) hk
noncomputable def start(N:List Str)(vs:List V):St:=vs.map some++List.replicate (N.length-vs.length) none
noncomputable def cM(CX:vH)(P:Program)(w:World)(K:zz8)(mg:Str->Option Value)(base:Heap)(N:List Str)(qual:Str)(scope:Scope)(f:Addr)(cd:Value)(A:Around)(outer:List Env)(s:Shared)(H:Hp)(E:XK):Cx where
 prog:=P
 w:=w
 K:=K
 mg:=mg
 base:=base
 A:=A.deeper (envOfC qual scope (zz9 s) f cd)
 N:=N
 s₀:=s
 H₀:=H
 env:=envOfC qual scope (zz9 s) f cd
 outer:=outer
 stack:=envOfC qual scope (zz9 s) f cd::outer
 ex:=[]
 calm:=A.handled.isNone
 fn:=λ_=>true
 pn:=[]
 xe:=λe s'=>wpAny (model P w) (A.deeper (envOfC qual scope (zz9 s) f cd)) (leaving (envOfC qual scope (zz9 s) f cd) e) (λ_ Ky=>CX outer H s E e Ky) (λe' Ky=>CX outer H s E e' Ky) s'
def oq{sc:Scope}{n:Nat}{x:Str}(h:sc.names.lookup x=some .cell):∃c,(cellsFrom n sc.names []).lookup x=some c:=by
 have q:=PySem.W.cellsFrom_some sc.names n [] (.inl h)
 exact zzp.mp q
def vl{CX:vH}{P:Program}{w:World}{K:zz8}{mg:Str->Option Value}{base:Heap}{N ps:List Str}{qual:Str}{scope:Scope}{f:Addr}{cd:Value}{A:Around}{outer:List Env}{s s1:Shared}{H:Hp}{E:XK}{us:List Value}{vs:List V}
 (S:iJ N ps scope) (e0:Ac P w K mg base A outer s H) (hl:vs.length=ps.length) (r:Vals vs us)
 (x:InCallC s (zz9 s) (bindL (envOfC qual scope (zz9 s) f cd).kindOf (ps.zip us) λ_=>none) (cellsFrom ((zz9 s)+1) scope.names []) (bindC (envOfC qual scope (zz9 s) f cd).kindOf (ps.zip us) λ_=>none) s1):
 Inv (cM CX P w K mg base N qual scope f cd A outer s H E) [] (start N vs) H s1:=by
 have hpl:ps.length<=N.length:=by have:=congrArg List.length S.pre;rw [List.length_take] at this;omega
 obtain⟨h1,tk,rfl,hk⟩:=x.done
 have IB:∀b:Addr,b∉(cM CX P w K mg base N qual scope f cd A outer s H E).ex:=λb z=>absurd (show b∈([]:List Addr) from z) (by simp)
 refine⟨⟨e0.mod,S.kind,rfl,rfl,zzE _,λy z c h1 h2=>?_,λy hy=>?_,λy c _ h=>?_,λz=>Option.isNone_iff_eq_none.mp z,Around.frames_deeper e0.frames,.inr ⟨rfl,rfl⟩,λb z=>absurd z (IB b),e0.bs,e0.B8,λb _ _=>IB b,λb z=>absurd z (IB b),e0.k7,e0.ET⟩,
  rfl,e0.bare,Un.kept hk,⟨_,x.toInCall.ns,λi y v h1 h2 h3=>?_⟩,λy c h=>⟨_,x.cell y c h⟩,e0.aU.fresh (zzE _),λy c h=>?_,λp hp=>absurd (show p∈([]:List (Addr×Obj)) from hp) (by simp),e0.aU.kept hk,?_⟩
 ·exact name_of_addr x.apart (PySem.mem_of_lookup h1) (PySem.mem_of_lookup h2)
 ·have hy:scope.names.lookup y=some .cell\/scope.names.lookup y=some .free:=hy
  rcases hy with hy|hy
  ·exact oq hy
  ·exact absurd rfl (S.DR _ (PySem.mem_of_lookup hy))
 ·exact Nat.le_of_lt (x.above y c (PySem.mem_of_lookup h))
 ·have hi:i<vs.length:=by
   unfold start at h2
   by_cases hi:i<vs.length
   ·exact hi
   ·rw [zzs (by simpa using hi)] at h2;rw [List.getElem?_replicate] at h2;split at h2<;>cases h2
  have ha:vs[i]?=some v:=by
   unfold start at h2;rw [zzr (by simpa using hi),zzQ] at h2;cases e:vs[i]? with
   |none=>rw [e] at h2;cases h2
   |some a=>rw [e] at h2;cases h2;rfl
  obtain⟨u,hu,rv⟩:=r.get ha
  have hp:ps[i]?=some y:=by
   rw [<-S.pre,List.getElem?_take_of_lt (by omega)];exact h1
  have Nm:ps.Nodup:=by rw [<-S.pre];exact S.nd.sublist (List.take_sublist _ _)
  refine⟨u,rv,?_⟩;rcases S.par y (zzD hp) with k|k
  ·exact .inl ⟨k,l6 Nm hp hu k⟩
  ·obtain⟨c,e⟩:=oq (n:=(zz9 s)+1) k
   refine .inr ⟨.inl k,c,e,?_⟩;have q:=x.cell y c e
   rw [lB Nm hp hu (by show scope.names.lookup y≠_;rw [k];decide)] at q;exact q
 ·exact e0.aU.fresh (Nat.le_of_lt (x.above y c (PySem.mem_of_lookup h)))
 ·unfold start;show _=N.length
  rw [zzM,zzl,List.length_replicate];omega
def GN{CX:vH}{P:Program}{w:World}{K:zz8}{mg:Str->Option Value}{base:Heap}{k:Nat}{f:Addr}{name qual:Str}{params:Arguments}{body:List Stmt}{scope:Scope}{dV kV doc pm d9 ct oc:Value}{an od:Option Addr}
 {rk:Array (Option Value)} {N ps:List Str} {sp:Sp} (lk:K.lookup f=some ⟨oc,od,.func (PySem.W.fnOf name qual params body scope dV kV doc pm an d9 ct),rk⟩) (v7:PySem.W.codeIn K d9 qual=true) (S:iJ N ps scope)
 (len:∀vs H Q E,sp vs H Q E->vs.length=ps.length)
 (Ip:∀(A:Around) (outer:List Env) (s:Shared) (H:Hp) (vs:List V) (Q:VK) (E:XK),dv k (A.deeper (envOfC qual scope (zz9 s) f d9))->sp vs H Q E->
  ∃t,uT (cM CX P w K mg base N qual scope f d9 A outer s H E) body t/\t {nx:=λ_ H'=>Q .aI H',rt:=Q} (start N vs) H):
 fq P w K mg base CX (k+1) f (PySem.W.fnOf name qual params body scope dV kV doc pm an d9 ct) ps sp:=by
 refine⟨len,λA outer s H args us vs Q E hr e0 hb r F4=>?_⟩
 have hl:=len _ _ _ _ F4
 have KX:K.In s.heap:=e0.mod.Mh.keeps λb o e=>(e0.bs b o e).1
 have lim:s.heap.NoLimit:=e0.mod.nolimit.keeps λb o e=>(e0.bs b o e).1
 have Ja:∀y∈ps.zip us,scope.names.lookup y.1=some .local\/(scope.names.lookup y.1=some .cell/\((cellsFrom ((zz9 s)+1) scope.names []).lookup y.1).isSome=true):=λ⟨n,v⟩ hy=>by
  rcases S.par n (List.of_mem_zip hy).1 with q|q
  ·exact .inl q
  ·exact .inr ⟨q,PySem.W.cellsFrom_some _ _ _ (.inl q)⟩
 refine codeAny_call_function hr.depth (KX _ _ lk) rfl S.co S.gen rfl (PySem.W.codeRec_of KX v7) (hb _ _ _ _ ?_);refine wpAny_newFunctionEnv_cells S.kind Ja λenv he s1 x=>?_
 subst he;refine⟨lim.keeps x.toInCall.keep,codeAny_func ?_⟩;obtain⟨t,ht,hq⟩:=Ip A outer s H vs Q E (hr.deeper _) F4
 have I:Inv (cM CX P w K mg base N qual scope f d9 A outer s H E) [] (start N vs) H s1:=vl S e0 hl r x
 refine wpAny_mono (ht [] s1 (start N vs) H _ I hq) (λfl s' hs=>?_) λe s' hs=>hs
 have fin:∀{σ':St} {H':Hp} {v:V} {u:Value},Inv (cM CX P w K mg base N qual scope f d9 A outer s H E) [] σ' H' s'->RelV v u->Q v H'->CE outer P w H s Q u s':=
  λ{σ' H' v u} J rv q=>⟨v,H',J.os,J.bare,J.base,J.aU,rv,q⟩
 cases fl with
 |ret u=>
  obtain⟨v,σ',H',J,rv,q⟩:=hs
  exact fin J rv q
 |next=>
  obtain⟨σ',H',J,q⟩:=hs
  exact fin (v:=V.aI) (u:=Value.none) J rfl q
 |brk=>
  obtain⟨_,_,_,q⟩:=hs
  exact zzk q
 |cont=>
  obtain⟨_,_,_,q⟩:=hs
  exact zzk q
section
variable{X:Cx}{x:Str}{p pos:Pos}{e:Expr}{es:List Expr}{t:TA}{id T:String}{r:List V->Hp->VK->Prop}
noncomputable def Jw(r:List V->Hp->VK->Prop)(t:TA):TE:=λσ H Q=>t σ H λvs H1=>r vs H1 Q
def dI(hc:bF X (.builtin id) r)(hg:Gl X x)(hm:X.mg x=none)(hv:bootBuiltins x=some (.builtin id))(ha:PA X (e::es) t)(hn:x≠"__name__":=by decide)(LK:(x==("__debug__":Str))=false:=by decide)
 (he:starEach (e::es) X.env=(false,eval e X.env)::starEach es X.env:=by rfl) (hpl:(backTo pos (starEach es X.env)).any (·.1)=false:=by rfl):PE X (.Call (.Name x p) (e::es) [] pos) (Jw r t):=by
 intro aa s σ H Q I h;refine wpAny_Call_Name_kw (c6 I hg hm hv ?_ hn LK);exact PyProof.Rows.callWith_builtin1 (bh (ha pos aa s σ H _ I h) λus s1 ⟨vs,H1,I1,r1,q1⟩=>hc aa s1 σ H1 vs us Q I1 r1 q1) he hpl
def eY(hc:bF X (.type T) r)(hg:Gl X x)(hm:X.mg x=none)(hv:bootBuiltins x=some (.type T))(ha:PA X (e::es) t)(hn:x≠"__name__":=by decide)(LK:(x==("__debug__":Str))=false:=by decide)
 (he:starEach (e::es) X.env=(false,eval e X.env)::starEach es X.env:=by rfl) (hpl:(backTo pos (starEach es X.env)).any (·.1)=false:=by rfl):PE X (.Call (.Name x p) (e::es) [] pos) (Jw r t):=by
 intro aa s σ H Q I h;refine wpAny_Call_Name_kw (c6 I hg hm hv ?_ hn LK);exact PyProof.Rows.callWith_type1 (bh (ha pos aa s σ H _ I h) λus s1 ⟨vs,H1,I1,r1,q1⟩=>hc aa s1 σ H1 vs us Q I1 r1 q1) he hpl
end
end L2
namespace HT
open PySem PyProof.Rows
noncomputable def lexLt:List Int->List Int->Bool
 |[],[]=>false
 |[],_::_=>true
 |_::_,[]=>false
 |x::xs,y::ys=>if x=y then lexLt xs ys else decide (x<y)
theorem iW(x y:Int)(xs ys:List Int):lexLt (x::xs) (y::ys)=if x=y then lexLt xs ys else decide (x<y):=rfl
theorem kM:lexLt [] []=false:=rfl
section
variable{prog:Program}{w:World}{A:Around}{E:Value->Shared->Prop}{s:Shared}
def BE{t b:Addr}{vs ws:List Value}{Q:Value->Shared->Prop}(ht:IsTup s.heap t vs.toArray)(hb:IsTup s.heap b ws.toArray)(hv:vs≠[])
 (h1:ws=[]->Q (.ref t) s) (h2:ws≠[]->Q (.ref (zz9 s)) {s with heap:=s.heap.push {cls:=.type "tuple",data:=.seq (vs++ws).toArray}})
 (hsz:vs.length+ws.length<=sizeLine):wpAny (model prog w) A (binaryOp .Add (.ref t) (.ref b)) Q E s:=by
 obtain⟨⟨cls,dd,data,sl⟩,ho,hc,n,hd⟩:=id ht
 obtain⟨⟨cls2,dd2,data2,sl2⟩,nW,hc2,n2,hd2⟩:=id hb
 simp only at hc hd hc2 hd2;subst hc hd hc2 hd2;have e:vs.toArray++ws.toArray=(vs++ws).toArray:=by simp
 by_cases hw:ws=[]
 ·exact concat_meets ⟨_,ho,rfl⟩ ⟨_,nW,rfl⟩ noFill_tuple_add seq_tuple_add PySem.F.slot_tuple_add PySem.F.entry_tuple_add (PySem.F.args_tuple_add_2 _ _)
   (tuple_addW1 t b vs.toArray ws.toArray n n2 dd dd2 sl sl2 (by simpa using hv) (by simp [hw])) ⟨ho,nW,h1 hw⟩
 ·refine concat_meets ⟨_,ho,rfl⟩ ⟨_,nW,rfl⟩ noFill_tuple_add seq_tuple_add PySem.F.slot_tuple_add PySem.F.entry_tuple_add (PySem.F.args_tuple_add_2 _ _)
   (tuple_addW2 t b vs.toArray ws.toArray n n2 dd dd2 sl sl2 (by simpa using hv) (by simpa using hw) (by rw [zzC,zzC];exact hsz)) ⟨ho,nW,?_⟩
  rw [e];exact h2 hw
def qy{v:Value}{o:Option Int}{Q:Option Int->Shared->Prop}(p:IsPart v o)(h:Q o s):wpAny (model prog w) A (Builtin.Slice.slicePartIndex v) Q E s:=by
 cases p with
 |none=>exact slicePart_none h
 |int i t=>exact slicePart_int h
end
end HT
namespace L2
open PySem PySem.Spec PyProof.Rows
noncomputable abbrev TO:=St->Hp->(Option Int->Hp->Prop)->Prop
section
variable{X:Cx}{p2:Pos}
noncomputable def GV(K:zz8):R2:=λx y H Q=>∃a b xs ys,x=.ref a/\y=.ref b/\dJ K H a xs/\dJ K H b ys/\xs≠[]/\xs.length+ys.length<=sizeLine/\
 (ys=[]->Q (.ref a) H)/\(ys≠[]->∀p,H p=none->Q (.ref p) (upd H p (.tup (xs++ys))))
def Vals.iN{xs:List V}{us:List Value}(r:Vals xs us):us=[]↔xs=[]:=by
 cases r with
 |nil=>simp
 |cons _ _=>simp
def Bx:d5 X (binaryOp .Add) (GV X.K):=by
 intro aa s σ H x y v u Q I rx ry h;obtain⟨a,b,xs,ys,rfl,rfl,ha,hb,hx,hz,q1,q2⟩:=h
 cases rx;cases ry;obtain⟨ae,r1,p1,_⟩:=I.tuple ha
 obtain⟨dr,r2,p2,_⟩:=I.tuple hb
 refine HT.BE p1 p2 (λz=>hx (r1.iN.mp z)) (λz=>⟨.ref a,H,I,rfl,q1 (r2.iN.mp z)⟩) (λz=>?_) (by rw [<-r1.length,<-r2.length];exact hz)
 refine⟨.ref (zz9 s),_,I.laid (t':=s.toks) (o:=.tup (xs++ys)) (λb ob q=>zzB _ q) (zzE _) ?_,rfl,q2 (λw=>z (r2.iN.mpr w)) _ (I.aU.fresh (zzE _))⟩
 exact⟨by rw [zzM];exact hz,_,r1.append r2,IsTup.new _ _⟩
end
noncomputable def FV(n:Nat)(i:Int):Option Nat:=if 0<=i then(if i<n then some i.toNat else none) else if -(n:Int)<=i then some (i+n).toNat else none
noncomputable def rF{α:Type}(xs:List α)(i:Int):Option α:=(FV xs.length i).bind λj=>xs[j]?
def Ae{n:Nat}{i:Int}{j:Nat}(h:FV n i=some j):seqIndex? i n=some j/\j<n/\ -(n:Int)<=i/\i<n:=by
 unfold FV at h
 by_cases h0:0<=i
 ·rw [if_pos h0] at h
  by_cases h1:i<n
  ·rw [if_pos h1] at h;have e:i.toNat=j:=zzq h
   exact⟨by rw [seqIndex_of h0 h1,e],by omega,by omega,h1⟩
  ·rw [if_neg h1] at h;cases h
 ·rw [if_neg h0] at h
  by_cases h1: -(n:Int)<=i
  ·rw [if_pos h1] at h;have e:(i+n).toNat=j:=zzq h
   exact⟨by rw [seqIndex_neg (by omega) h1,e],by omega,h1,by omega⟩
  ·rw [if_neg h1] at h;cases h
def nh{α:Type}{xs:List α}{i:Int}{v:α}(h:rF xs i=some v):∃j,seqIndex? i xs.length=some j/\xs[j]?=some v/\j<xs.length/\ -(xs.length:Int)<=i/\i<xs.length:=by
 unfold rF at h;cases e:FV xs.length i with
 |none=>rw [e] at h;cases h
 |some j=>
  rw [e] at h;obtain⟨h1,h2,h3,h4⟩:=Ae e
  exact⟨j,h1,h,h2,h3,h4⟩
def m5(b:Expr):Prop:=∀o i,subscripted b false o i=operate [o,i] (getItem o i)
def F3(X:Cx)(r:R2):Prop:=
 ∀(value slice:Expr) (aa:List (Addr×Obj)) (s:Shared) (σ:St) (H:Hp) (x y:V) (v u:Value) (Q:VK),Inv X aa σ H s->RelV x v->RelV y u->r x y H Q->
  subscripted slice false v u=operate [v,u] (getItem v u)->wpAny (model X.prog X.w) X.A (subscriptTail value slice v u) (EP X aa σ Q) X.xe s
def Hq(X:Cx)(id:String)(r:V->List V->Hp->VK->Prop):Prop:=
 ∀(aa:List (Addr×Obj)) (s:Shared) (σ:St) (H:Hp) (x:V) (xs:List V) (v:Value) (us:List Value) (Q:VK),Inv X aa σ H s->RelV x v->Vals xs us->r x xs H Q->
  wpAny (model X.prog X.w) X.A (call (.builtin id) (v::us)) (EP X aa σ Q) X.xe s
section
variable{X:Cx}{a b:Expr}{ta tb:TE}{pos:Pos}
def Ho{r:R2}(hr:F3 X r)(ha:PE X a ta)(hb:PE X b tb)(hs:m5 b):PE X (.Subscript a b pos) (HR r ta tb):=by
 intro aa s σ H Q I h;exact Subscript_ (EJ ha hb I h λv u s2 x y H2 I2 rx ry q=>hr a b aa s2 σ H2 x y v u Q I2 rx ry q (hs _ _))
noncomputable def Lq(K:zz8):R2:=λx y H Q=>∃p xs i v,x=.ref p/\y=.int i/\fQ K H p xs/\rF xs i=some v/\Q v H
noncomputable def Mc(K:zz8):R2:=λx y H Q=>∃p xs i v,x=.ref p/\y=.int i/\dJ K H p xs/\rF xs i=some v/\Q v H
noncomputable def Kn:R2:=λx y H Q=>∃z i c,x=.str z/\y=.int i/\z.length<=sizeLine/\rF z.cps.toList i=some c/\Q (.str ⟨#[c]⟩) H
def zm:F3 X (Lq X.K):=by
 intro value slice aa s σ H x y v u Q I rx ry h hs;obtain⟨p,xs,i,z,rfl,rfl,hq,he,q⟩:=h
 cases rx;obtain⟨t,rfl⟩:=ry
 obtain⟨ae,r,pl,hz⟩:=I.list hq
 obtain⟨j,h1,h2,h3,h4,h5⟩:=nh he
 obtain⟨w,ew,fT⟩:=r.get h2
 have hl:=r.length
 have hn:=iX
 have fin:EP X aa σ Q w s:=⟨z,H,I,fT,q⟩
 by_cases h0:0<=i
 ·have hj:i.toNat=j:=by
   rw [seqIndex_of h0 h5] at h1;exact zzq h1
  exact item_listR pl.isList h0 (by omega) (by rw [hj];simpa using ew) fin hs
 ·have hj:(i+(ae.toArray.size:Int)).toNat=j:=by
   rw [seqIndex_neg (by omega) h4] at h1;rw [zzC,<-hl];exact zzq h1
  exact subscriptTail_builtinR (x:=w) pl.isList.typeIs slot_list_getitem.lookup
   (wpAny_getItem_list_neg (Q:=λr s'=>r=w/\EP X aa σ Q r s') pl.isList (by omega) (by rw [zzC]<;>omega) (by omega) (by rw [hj];simpa using ew) ⟨rfl,fin⟩) hs
def FP:F3 X (Mc X.K):=by
 intro value slice aa s σ H x y v u Q I rx ry h hs;obtain⟨p,xs,i,z,rfl,rfl,hq,he,q⟩:=h
 cases rx;obtain⟨t,rfl⟩:=ry
 obtain⟨ae,r,pl,hz⟩:=I.tuple hq
 obtain⟨j,h1,h2,h3,h4,h5⟩:=nh he
 obtain⟨w,ew,fT⟩:=r.get h2
 have hl:=r.length
 have hn:=iX
 have fin:EP X aa σ Q w s:=⟨z,H,I,fT,q⟩
 exact subscriptTail_builtinR (x:=w) pl.typeIs slot_tuple_getitem.lookup
  (getItem_tuple (j:=j) (Q:=λr s'=>r=w/\EP X aa σ Q r s') pl (by omega) (by omega) (by rw [zzC,<-hl];exact h1) (by simpa using ew) ⟨rfl,fin⟩) hs
def Ey:F3 X Kn:=by
 intro value slice aa s σ H x y v u Q I rx ry h hs;obtain⟨z,i,c,rfl,rfl,hz,he,q⟩:=h
 obtain⟨t,rfl⟩:=rx
 obtain⟨t',rfl⟩:=ry
 obtain⟨j,h1,h2,h3,h4,h5⟩:=nh he
 have hl:z.cps.toList.length=z.length:=by simp [Str.length]
 rw [hl] at h1 h4 h5;have hn:=iX
 exact tail_any (typeIs_str s z t) slot_str_getitem.lookup (getItem_str (c:=c) (by
  have e1:decide (i< -(2^63:Int))=false:=zz0 (by omega)
  have e2:decide (i>=2^63)=false:=zz0 (by omega)
  rw [e1,e2,Bool.or_false]) (by rw [h1];simpa using h2) ⟨.str ⟨#[c]⟩,H,I.tok _,⟨_,rfl⟩,q⟩) hs
def f9:bF X (.builtin "len") (λxs H Q=>∃p ys,xs=[.ref p]/\(fQ X.K H p ys\/dJ X.K H p ys)/\Q (.int ys.length) H):=by
 intro aa s σ H xs us Q I r h;obtain⟨p,ys,rfl,hq,q⟩:=h
 obtain⟨u,rfl,rx⟩:=vals1 r
 cases rx;have hn:=iX
 rcases hq with hq|hq
 ·obtain⟨ae,r',pl,hz⟩:=I.list hq
  have hlen:=r'.length
  exact Calls.call_len_list pl.isList (by simp! [zzC]<;>omega) ⟨.int ys.length,H,I.tok _,⟨s.toks+1,by rw [zzC,hlen]⟩,q⟩
 ·obtain⟨ae,r',pl,hz⟩:=I.tuple hq
  have hlen:=r'.length
  exact len_tuple pl (by simp! [zzC]<;>omega) ⟨.int ys.length,H,I.tok _,⟨s.toks+1,by rw [zzC,hlen]⟩,q⟩
def mI:bF X (.builtin "len") (λxs H Q=>∃z,xs=[.str z]/\z.length<=sizeLine/\Q (.int z.length) H):=by
 intro aa s σ H xs us Q I r h;obtain⟨z,rfl,hz,q⟩:=h
 obtain⟨u,rfl,t,rfl⟩:=vals1 r
 have hn:=iX
 exact len_str (by omega) ⟨.int z.length,H,I.tok _,⟨_,rfl⟩,q⟩
def gy:bF X (.type "list") (λxs H Q=>∃p ys,xs=[.ref p]/\(fQ X.K H p ys\/dJ X.K H p ys)/\∀l,H l=none->Q (.ref l) (upd H l (.lst ys))):=by
 intro aa s σ H xs us Q I r h;obtain⟨p,ys,rfl,hq,q⟩:=h
 obtain⟨u,rfl,rx⟩:=vals1 r
 cases rx;have fin:∀(ae:List Value),Vals ys ae->ys.length<=sizeLine->∀(h':Heap) (c':Nat),(∀b o',s.heap.get? b=some o'->h'.get? b=some o')->
  h'.get? (zz9 s)=some {cls:=.type "list",dict:=none,data:=.seq ae.toArray c',slots:=#[]}->EP X aa σ Q (.ref (zz9 s)) {s with heap:=h'}:=λae r' hz h' c' kp e=>
  ⟨.ref (zz9 s),_,I.laid (t':=s.toks) kp (zzE _) (show aY X.prog X.w _ h' _ (.lst ys) from⟨hz,ae,c',r',e⟩),rfl,q _ (I.aU.fresh (zzE _))⟩
 rcases hq with hq|hq
 ·obtain⟨ae,r',pl,hz⟩:=I.list hq
  have hlen:=r'.length
  obtain⟨o,ho,hc,n,hd⟩:=pl.isList
  exact call_list_seq p (.inl rfl) ho hc hd (λh' c' kp e=>fin ae r' hz h' c' kp e) (by simp! [zzC]<;>omega)
 ·obtain⟨ae,r',pl,hz⟩:=I.tuple hq
  have hlen:=r'.length
  obtain⟨o,ho,hc,n,hd⟩:=pl
  exact call_list_seq p (.inr rfl) ho hc hd (λh' c' kp e=>fin ae r' hz h' c' kp e) (by simp! [zzC]<;>omega)
def kR:bF X (.type "tuple") (λxs H Q=>∃p ys,xs=[.ref p]/\((fQ X.K H p ys/\∀l,H l=none->Q (.ref l) (upd H l (.tup ys)))\/(dJ X.K H p ys/\Q (.ref p) H))):=by
 intro aa s σ H xs us Q I r h;obtain⟨p,ys,rfl,h⟩:=h
 obtain⟨u,rfl,rx⟩:=vals1 r
 cases rx;rcases h with⟨hq,q⟩|⟨hq,q⟩
 ·obtain⟨ae,r',pl,hz⟩:=I.list hq
  have hlen:=r'.length
  refine call_tuple_list pl.isList (λh' kp=>?_) (by simp! [zzC]<;>omega);have I1:Inv X aa σ H {s with heap:=h'}:=I.kept (t':=s.toks) kp
  have I2:Inv X aa σ (upd H h'.objs.size (.tup ys)) {s with heap:=h'.push {cls:=.type "tuple",data:=.seq ae.toArray}}:=
   I1.laid (t':=s.toks) (λb o e=>zzB _ e) (zzE _) (show aY X.prog X.w _ _ _ (.tup ys) from⟨hz,ae,r',IsTup.new _ _⟩)
  exact⟨.ref h'.objs.size,_,I2,rfl,q _ (I1.aU.fresh (zzE _))⟩
 ·obtain⟨ae,r',pl,hz⟩:=I.tuple hq
  exact call_tuple_same pl ⟨.ref p,H,I,rfl,q⟩
def K5(K:zz8)(T:String)(x:V)(H:Hp):Prop:=match x with
 |.str _=>T="str"
 |.int _=>T="int"
 |.ref p=>(T="list"/\∃xs,fQ K H p xs)\/(T="tuple"/\∃o,K.lookup p=some o/\o.cls=.type "tuple"/\o.dict=none)\/
  (T="dict"/\((∃ai,H p=some (.dK ai))\/∃ai,H p=some (.dT ai)))\/(T="set"/\∃S n,H p=some (.set S n))
 |_=>False
def D3{aa:List (Addr×Obj)}{σ:St}{H:Hp}{s:Shared}{T:String}{x:V}{v:Value}(I:Inv X aa σ H s)(r:RelV x v)(ty:K5 X.K T x H):
 s.TypeIs v T/\∀a,v=.ref a->∃ob,s.heap.get? a=some ob/\ob.dict=none:=by
 cases x with
 |str z=>
  obtain⟨t,rfl⟩:=r
  cases(show T="str" from ty);exact⟨typeIs_str s z t,λ_ e=>nomatch e⟩
 |int i=>
  obtain⟨t,rfl⟩:=r
  cases(show T="int" from ty);exact⟨typeIs_int s i t,λ_ e=>nomatch e⟩
 |ref p=>
  cases r;rcases ty with⟨rfl,xs,hq⟩|⟨rfl,o,hk,hc,hd⟩|⟨rfl,hk⟩|⟨rfl,S,n,hk⟩
  ·obtain⟨ae,_,pl,_⟩:=I.list hq
   refine⟨pl.isList.typeIs,λa e=>?_⟩
   cases e;obtain⟨o,n,e,c,hd,_⟩:=pl
   exact⟨o,e,hd⟩
  ·refine⟨⟨o,I.rY p o hk,hc⟩,λa e=>?_⟩
   cases e;exact⟨o,I.rY _ o hk,hd⟩
  ·have z:∃o,s.heap.get? p=some o/\o.ExactDict:=by
    rcases hk with⟨ai,hk⟩|⟨ai,hk⟩
    ·obtain⟨_,_,_,_,o,_,_,e,ex,_⟩:=I.aU p _ hk
     exact⟨o,e,ex⟩
    ·obtain⟨_,_,_,_,o,_,_,e,ex,_⟩:=I.aU p _ hk
     exact⟨o,e,ex⟩
   obtain⟨o,e,ex⟩:=z
   refine⟨⟨o,e,ex.1⟩,λa e2=>?_⟩
   cases e2;exact⟨o,e,ex.2.1⟩
  ·obtain⟨o,_,_,_,e,ex,_⟩:=I.aU p _ hk
   refine⟨⟨o,e,ex.1⟩,λa e2=>?_⟩
   cases e2;exact⟨o,e,ex.2.1⟩
 |_=>exact zzk ty
noncomputable def MF(K:zz8)(T:String)(r:V->List V->Hp->VK->Prop)(to:TE)(t:TA):TE:=λσ H Q=>to σ H λx H1=>K5 K T x H1/\t σ H1 λxs H2=>r x xs H2 Q
variable{o e:Expr}{es:List Expr}{to:TE}{t:TA}{name:Str}{apos ba:Pos}{T id:String}{r:V->List V->Hp->VK->Prop}
theorem tG(pa:PlainAttrs T)(slot:Slot T name id)(BR:typeOf (.builtin id)=pure (.type "method_descriptor"))(hm:Hq X id r)(ho:PE X o to)(ha:PA X (e::es) t)
 (cY:attributeBase o name X.env (eval o X.env)=eval o X.env:=by rfl)
 (AE:((backTo ba (starEach (e::es) X.env)).all (λx=>!x.1)&&(backToKw ba (keywordEach [] X.env)).all (λx=>x.1.isSome)
  &&decide ((e::es).length+([]:List Keyword).length+(if([]:List Keyword).isEmpty then 0 else 1)<30))=true:=by rfl)
 (dX:(apos.endLine==ba.line)=true:=by rfl) (hs:starEach (e::es) X.env=(false,eval e X.env)::starEach es X.env:=by rfl) (gS:(backTo ba (starEach es X.env)).any (·.1)=false:=by rfl):
 PE X (.Call (.Attribute o name apos) (e::es) [] ba) (MF X.K T r to t):=by
 intro aa s σ H Q I h;refine wpAny_Call_method_late cY AE dX rfl (bh (ho aa s σ H _ I h) λv s1 ⟨x,H1,I1,r1,ty,q1⟩=>?_)
 obtain⟨h1,h2⟩:=D3 I1 r1 ty
 refine⟨T,id,pa,slot,BR,h1,h2,?_⟩;have hA:=ha ba aa s1 σ H1 _ I1 q1
 rw [hs] at hA⊢;refine Calls.callWith_builtin (by show(false||(backTo ba (starEach es X.env)).any (·.1))=false;rw [gS]<;>rfl) (Calls.evalArgs_plain ?_);exact bh hA λus s2 ⟨vs,H2,I2,r2,q2⟩=>hm aa s2 σ H2 x vs v us Q I2 r1 r2 q2
end
def Pk(X:Cx)(id:String)(r:V->List V->Hp->VK->Prop):Prop:=
 ∀(aa:List (Addr×Obj)) (s:Shared) (σ:St) (H:Hp) (x:V) (xs:List V) (v:Value) (us:List Value) (Q:VK),Inv X aa σ H s->RelV x v->Vals xs us->r x xs H Q->
  wpAny (model X.prog X.w) X.A (call (.builtin id) (v::us)) (EP X aa σ Q) X.xe s
theorem Vals.one:∀{x:V} {us:List Value},Vals [x] us->∃u,us=[u]/\RelV x u
 |_,_,.cons r .nil=>⟨_,rfl,r⟩
def Vals.two{x y:V}{us:List Value}(h:Vals [x,y] us):∃u v,us=[u,v]/\RelV x u/\RelV y v:=by
 cases h with
 |cons r q=>
  cases q with
  |cons q n=>cases n;exact⟨_,_,rfl,r,q⟩
theorem Vals.rep{xs:List V}{us:List Value}(h:Vals xs us):∀k:Nat,Vals (List.replicate k xs).flatten (List.replicate k us).flatten
 |0=>.nil
 |k+1=>by
  rw [List.replicate_succ,List.replicate_succ,List.flatten_cons,List.flatten_cons];exact Vals.append h (Vals.rep h k)
theorem foldl_rep(ae:List Value):∀(k:Nat) (acc:List Value),
 List.foldl (λx1 x2=>x1++x2) acc.toArray (List.replicate k ae.toArray)=(acc++(List.replicate k ae).flatten).toArray
 |0,acc=>by simp
 |k+1,acc=>by
  have e:acc.toArray++ae.toArray=(acc++ae).toArray:=by simp
  have e2:(acc++ae)++(List.replicate k ae).flatten=acc++(List.replicate (k+1) ae).flatten:=by
   rw [List.replicate_succ,List.flatten_cons,List.append_assoc]
  rw [<-e2,<-foldl_rep ae k (acc++ae),<-e,List.replicate_succ,List.foldl_cons]
section
variable{X:Cx}{aa:List (Addr×Obj)}{σ:St}{H:Hp}{s:Shared}{l:Addr}{xs ys:List V}
def Inv.GG{ae its':List Value}{n:Nat}{f:Array Value->Array Value}{t':Nat}(I:Inv X aa σ H s)(hH:H l=some (.lst xs))
 (e:s.heap.get? l=some {cls:=.type "list",data:=.seq ae.toArray n}) (hf:f ae.toArray=its'.toArray) (hv:Vals ys its') (hz:ys.length<=sizeLine):
 Inv X aa σ (upd H l (.lst ys)) {s with heap:=s.heap.update l (Obj.mapSeq f),toks:=t'}:=by
 have q:=PySem.IsL.update e f
 rw [hf] at q;refine I.write (x:=l) (e:=l) (by rw [hH];exact trivial) (.inl rfl) (λb' u hb hu=>(Heap.get?_update_other s.heap (Obj.mapSeq f) (Ne.symm hb)).trans hu) ⟨_,q⟩ ?_
 exact⟨hz,its',_,hv,q⟩
theorem Inv.Le{ae:List Value}{t':Nat}(I:Inv X aa σ H s)(hv:Vals ys ae)(hz:ys.length<=sizeLine):
 Inv X aa σ (upd H (zz9 s) (.lst ys)) {s with heap:=s.heap.push {cls:=.type "list",data:=.seq ae.toArray},toks:=t'}:=
 I.laid (λ_ _ q=>zzB _ q) (zzE _) ⟨hz,ae,0,hv,zzX _ rfl⟩
def Inv.fresh(I:Inv X aa σ H s):H (zz9 s)=none:=I.aU.fresh (zzE _)
def Inv.Ii(I:Inv X aa σ H s)(hH:H l=some (.lst xs)):xs.length<=sizeLine/\∃(ae:List Value) (n:Nat),Vals xs ae/\xs.length=ae.length/\s.heap.get? l=some {cls:=.type "list",data:=.seq ae.toArray n}:=by
 obtain⟨z,ae,n,r,e⟩:=I.aU l _ hH
 exact⟨z,ae,n,r,r.length,e⟩
def pz{n:Nat}(h:n<=sizeLine):Builtin.List.listTooLong n=false:=by
 unfold Builtin.List.listTooLong;exact zz0 (by omega)
def zR:V->List V->Hp->VK->Prop:=λx vs H Q=>∃l xs y,x=.ref l/\vs=[y]/\H l=some (.lst xs)/\xs.length<sizeLine/\Q .aI (upd H l (.lst (xs++[y])))
def uH:Pk X "list.append" zR:=by
 intro aa s σ H x vs v us Q I rx rv h;obtain⟨l,xs,y,rfl,rfl,hH,hz,q⟩:=h
 cases rx;obtain⟨u,rfl,ru⟩:=rv.one
 obtain⟨z,ae,n,r,hl,e⟩:=I.Ii hH
 refine call_meets F.slot_list_append ⟨_,e,rfl⟩ F.entry_list_append (F.args_list_append_2 _ _) (PySem.list_append l ae.toArray n u (by rw [zzC];omega)) ⟨e,?_⟩;refine⟨.aI,_,I.GG (its':=ae++[u]) hH e (by simp) (r.append (.cons ru .nil)) ?_,rfl,q⟩;rw [zzM,List.length_singleton];omega
def len_rep{α:Type}(xs:List α)(k:Nat):(List.replicate k xs).flatten.length=k*xs.length:=by
 induction k with
 |zero=>simp
 |succ k ih=>rw [List.replicate_succ,List.flatten_cons,zzM,ih,Nat.succ_mul,Nat.add_comm]
end
end L2
namespace Att
open PySem PySem.W PySem.Calls PyProof.Rows
def iB{P:Params}{h:Heap}:∀(ns:List Int) (vs:List Value),WellAll P h vs (ns.map WData.int)->IntsAre vs ns:=by
 intro ns
 induction ns with
 |nil=>
  intro vs w;rw [List.map_nil] at w;cases w;exact .nil
 |cons n ns ih=>
  intro vs w;rw [zzF] at w;cases w with
  |cons a b=>
   cases a;exact .cons _ _ (ih _ b)
def u4{l:OpenLaw}{n:Nat}(hn:l.most=some n){P:Params}{h:Heap}{args:List WData}{vals:List Value}
 (Bb:l.row.toRowW.claim.pre args=true) (Lz:WellAll P h vals args):
 ∃a vs ns,vals=[Value.ref a]/\args=[WData.list (ns.map WData.int)]/\h.get? a=some {cls:=.type "list",data:=.seq vs.toArray}/\IntsAre vs ns/\ns.length<=n:=by
 have OJ:WShape.hasAll [] args [.list .int]=true:=(pre_splitW Bb).1
 have hc:l.pre.holds [] {args:=args}=true:=(pre_splitW Bb).2
 obtain⟨d,r,rfl,h1,h2⟩:=hasAllW_cons OJ
 obtain rfl:=hasAllW_nil h2
 obtain⟨xs,rfl,h3⟩:=hasW_list h1
 obtain⟨ns,rfl⟩:=items_int h3
 have hlen:ns.length<=n:=by
  unfold OpenLaw.pre at hc;have h4:(WTm.not (.lt (.lit (.int (n:Int))) (.len (.arg 0)))).holds [] {args:=[.list (ns.map .int)]}=true:=by
   have h4:=(holds_andW hc).1
   rw [hn] at h4;exact h4
  have h5:=condW_of h4 (w_not (w_lt w_lit (w_len_list (w_arg rfl))))
  rw [zzl] at h5;refine Nat.le_of_not_lt λq=>?_
  have q':(n:Int)<((ns.length:Nat):Int):=by omega
  first
   |(rw [zzh q'] at h5;exact absurd h5 (by decide))
   |(simp at h5;omega)
 cases Lz with
 |cons w1 w2=>
  cases w2;cases w1 with
  |list ho hall=>exact⟨_,_,ns,rfl,rfl,ho,iB ns _ hall,hlen⟩
theorem ug(l:OpenLaw)(args:List WData):l.row.toRowW.claim.post args (.bool true) args=true:=
 postW_of (r:=l.row.toRowW) (X:=(true==true))
  (show WShape.has [] (.bool true) .bool=true by first|rfl|decide|simp [WShape.has,WShape.arms,WShape.armsAll])
  (show(WTm.eq .res (.lit (.bool true))).value [] {args:=args,res:=some (.bool true),after:=args}=some (.bool (true==true)) from w_eq_bool (w_res rfl) w_lit) rfl
def oP{l:OpenLaw}{n:Nat}{q:Program}{loose:List Str}{XP:(Str->Option Value)->Heap->Prop}{YP:World->Heap->Prop}{d:DefRec}
 (hn:l.most=some n) (IJ:d.params.defaults=[])
 (call:∀(w:World) (s₀ s₁:Shared) (mg mb:Str->Option Value) (fa:Addr) (o:Obj) (pm cd doc:Value) (a:Addr) (vs:List Value) (ns:List Int),
  Ground q loose [] XP w s₀ mg mb s₁.heap->YP w s₁.heap->
  s₁.heap.get? fa=some o->o.data=.func (docDef d.name d.params d.body d.scope pm cd doc)->s₁.heap.CodeRec cd d.name->mg d.name=some (.ref fa)->
  s₁.heap.get? a=some {cls:=.type "list",data:=.seq vs.toArray}->IntsAre vs ns->ns.length<=n->s₁.gens=#[]->
  codeAny (model l.prog w) callerA (.call (.ref fa) ⟨[.ref a],[]⟩) (λr s'=>r=.ok (.ret (.bool true))/\OldK s₁.heap s'.heap/\s'.os=s₁.os/\AllBare s'.gens) s₁):
 WalkO q loose XP YP l.row.toRowW d [] (λf vs=>PySem.call f vs):=by
 intro w s₀ s₁ mg mb G Y fa o pm cd doc dV kV ho hd v7 hD hmg hg args vals as Bb hlay hrd Lz La;obtain rfl:dV=.none:=Dflts.none hD IJ
 obtain rfl:kV=.none:=Dflts.noKw hD
 obtain⟨a,vs,ns,rfl,rfl,hobj,hints,hlen⟩:=u4 hn Bb Lz
 refine enter_call (codeAny_mono (call w s₀ s₁ mg mb fa o pm cd doc a vs ns G Y ho (fd_plain hd) v7 hmg hobj hints hlen hg) λr s' hq=>?_)
 obtain⟨rfl,h2,h3,h4⟩:=hq
 exact⟨.inl ⟨.bool true,.bool true,[],rfl,λ_=>rfl,.bool true,ug l _,λ_=>⟨List.Pairwise.nil,λ_ hm=>(nomatch hm)⟩⟩,h2,h3,h4⟩
section
noncomputable def ledger(h:Heap)(L d:Addr):List (Addr×Obj):=(List.range h.objs.size).filterMap λa=>if a=L\/a=d then none else(h.get? a).map λo=>(a,o)
end
end Att
namespace L2
open PySem PySem.Spec PyProof.Rows
theorem lR:∀{vs:List Value} {ns:List Int},IntsAre vs ns->Vals (ns.map V.int) vs
 |_,_,.nil=>.nil
 |_,_,.cons n t h=>.cons ⟨t,rfl⟩ (lR h)
noncomputable def cq(s:Stmt):Arguments:=match s with
 |.FunctionDef _ a _ _ _ _ _ _ _ _=>a
 |_=>{posonlyargs:=[],args:=[],vararg:=none,kwonlyargs:=[],kw_defaults:=[],kwarg:=none,defaults:=[]}
noncomputable def bM(s:Stmt):List Stmt:=match s with
 |.FunctionDef _ _ b _ _ _ _ _ _ _=>b
 |_=>[]
noncomputable def aC(s:Stmt):Scope:=match s with
 |.FunctionDef _ _ _ _ _ _ sc _ _ _=>sc
 |_=>{kind:=.function,names:=[],isGenerator:=false,isCoroutine:=false}
structure Jm(K:zz8)(x qual:Str)(st:Stmt)(f:Addr)(fd:FuncData):Prop where
 ex:∃(oc:Value) (od:Option Addr) (kV doc pm:Value) (an:Option Addr) (d9 ct:Value) (rk:Array (Option Value)),
  fd=PySem.W.fnOf x qual (cq st) (bM st) (aC st) .none kV doc pm an d9 ct/\K.lookup f=some ⟨oc,od,.func fd,rk⟩/\PySem.W.codeIn K d9 qual=true
 kp:PySem.W.keepIn K (.ref f)=true
section
variable{K:zz8}
def Jm.binds{x qual:Str}{st:Stmt}{f:Addr}{fd:FuncData}{ps:List Str}(F:Jm K x qual st f fd)
 (h:∀(kV doc pm:Value) (an:Option Addr) (d9 ct:Value) (us:List Value),us.length=ps.length->bindArgs (PySem.W.fnOf x qual (cq st) (bM st) (aC st) .none kV doc pm an d9 ct) ⟨us,[]⟩=pure (ps.zip us)):Binds K fd ps []:=by
 obtain⟨oc,od,kV,doc,pm,an,d9,ct,rk,rfl,lk,v7⟩:=F.ex
 exact .all (h kV doc pm an d9 ct)
def yG{x qual:Str}{st:Stmt}{f:Addr}{oc:Value}{od an:Option Addr}{rk:Array (Option Value)}{kV doc pm d9 ct:Value}(l:K.lookup f=some ⟨oc,od,.func (PySem.W.fnOf x qual (cq st) (bM st) (aC st) .none kV doc pm an d9 ct),rk⟩)
 (c:PySem.W.codeIn K d9 qual=true) (k:PySem.W.keepIn K (.ref f)=true):Jm K x qual st f (PySem.W.fnOf x qual (cq st) (bM st) (aC st) .none kV doc pm an d9 ct):=⟨⟨oc,od,kV,doc,pm,an,d9,ct,rk,rfl,l,c⟩,k⟩
end
def LA{A B:Prop}(h:B):if false=true then A else B:=by
 rw [if_neg zzf];exact h
def Ml{A B:Prop}(h:A):if true=true then A else B:=by
 rw [if_pos rfl];exact h
def aq(H H':Hp):Prop:=∀b o,H b=some o->H' b=some o
def aq.refl(H:Hp):aq H H:=λ_ _ h=>h
def aq.trans{H H1 H2:Hp}(a:aq H H1)(b:aq H1 H2):aq H H2:=λc o h=>b c o (a c o h)
def aq.free{H H':Hp}(e:aq H H'){l:Addr}(h:H' l=Option.none):H l=Option.none:=by
 cases q:H l with
 |none=>rfl
 |some o=>
  rw [e l o q] at h;cases h
end L2
set_option maxHeartbeats 8000000
namespace L2
open PySem PySem.Spec PyProof.Rows
noncomputable def bC(env:Env)(ys:List Str):List (Str×Addr):=ys.map λy=>(y,(env.cells.lookup y).getD 0)
noncomputable def x5(σ:St)(is:List Nat):St:=is.map λi=>(σ[i]?).join
noncomputable def kj(scope:Scope)(x:Str):Bool:=scope.names.lookup x==some .cell
theorem pZ{x:Str}{c:Addr}:∀(names:List (Str×NameKind)) (n:Nat) (acc:List (Str×Addr)),(x,c)∈cellsFrom n names acc->(x,c)∈acc\/(x,NameKind.cell)∈names/\n<=c
 |[],n,acc,h=>by rw [cellsFrom.eq_def] at h;exact .inl h
 | (y,k)::r,n,acc,h=>by
  rw [cellsFrom.eq_def] at h;dsimp only at h;split at h
  ·rename_i hk;cases eq_of_beq hk;rcases pZ r (n+1) _ h with z|⟨z1,z2⟩
   ·rcases zzm.mp z with z|z
    ·cases z;exact .inr ⟨zzP ..,zzE _⟩
    ·exact .inl z
   ·exact .inr ⟨zzI _ z1,Nat.le_of_succ_le z2⟩
  ·rcases pZ r n _ h with z|⟨z1,z2⟩
   ·exact .inl z
   ·exact .inr ⟨zzI _ z1,z2⟩
theorem nr{x:Str}{c:Addr}:∀(names:List (Str×NameKind)) (n:Nat) (acc:List (Str×Addr)),(cellsFrom n names acc).lookup x=some c->acc.lookup x=some c\/(x,NameKind.cell)∈names/\n<=c
 |[],n,acc,h=>by rw [cellsFrom.eq_def] at h;exact .inl h
 | (y,k)::r,n,acc,h=>by
  rw [cellsFrom.eq_def] at h;dsimp only at h;split at h
  ·rename_i hk;cases eq_of_beq hk;rcases nr r (n+1) _ h with z|⟨z1,z2⟩
   ·rw [zz5] at z;cases e:x==y with
    |true=>rw [e] at z;cases z;cases eq_of_beq e;exact .inr ⟨zzP ..,zzE _⟩
    |false=>rw [e] at z;exact .inl z
   ·exact .inr ⟨zzI _ z1,Nat.le_of_succ_le z2⟩
  ·rcases nr r n _ h with z|⟨z1,z2⟩
   ·exact .inl z
   ·exact .inr ⟨zzI _ z1,z2⟩
theorem nQ{x:Str}:∀(names:List (Str×NameKind)) (n:Nat) (acc:List (Str×Addr)),(x,NameKind.cell)∉names->(cellsFrom n names acc).lookup x=acc.lookup x
 |[],n,acc,_=>by rw [cellsFrom.eq_def]
 |(y,k)::r,n,acc,h=>by
  rw [cellsFrom.eq_def];dsimp only;have hr:(x,NameKind.cell)∉r:=λz=>h (zzI _ z)
  split
  ·rename_i hk;cases eq_of_beq hk;rw [nQ r (n+1) _ hr,zz5];cases e:x==y with
   |true=>cases eq_of_beq e;exact absurd (zzP ..) h
   |false=>rfl
  ·exact nQ r n acc hr
theorem D8{x:Str}{c:Addr}:∀(names:List (Str×NameKind)) (n:Nat) (acc:List (Str×Addr)),(x,c)∈cellsFrom n names acc->(∀p∈acc,p.2≠c)->(x,c)∈cellsFrom n names []
 |names,n,acc,h,ha=>by
  have key:∀(names:List (Str×NameKind)) (n:Nat) (acc b:List (Str×Addr)),(x,c)∈cellsFrom n names (b++acc)->(∀p∈acc,p.2≠c)->(x,c)∈cellsFrom n names b:=by
   intro names
   induction names with
   |nil=>
    intro n acc b h ha;rw [cellsFrom.eq_def] at h⊢;rcases List.mem_append.mp h with z|z
    ·exact z
    ·exact absurd rfl (ha _ z)
   |cons y r ih=>
    intro n acc b h ha;obtain⟨y,k⟩:=y
    rw [cellsFrom.eq_def] at h⊢;dsimp only at h⊢;split at h
    ·rename_i hk;rw [if_pos hk];exact ih (n+1) acc ((y,n)::b) h ha
    ·rename_i hk;rw [if_neg hk];exact ih n acc b h ha
  exact key names n acc [] h ha
theorem mZ{x y:Str}{c:Addr}:∀(names:List (Str×NameKind)) (n:Nat) (acc:List (Str×Addr)),(∀p∈acc,p.2<n)->n<=c->(x,c)∈cellsFrom n names acc->(y,c)∈cellsFrom n names acc->x=y
 |[],n,acc,ha,hc,h1,h2=>by
  rw [cellsFrom.eq_def] at h1;exact absurd (ha _ h1) (Nat.not_lt.mpr hc)
 | (z,k)::r,n,acc,ha,hc,h1,h2=>by
  rw [cellsFrom.eq_def] at h1 h2;dsimp only at h1 h2;split at h1
  ·rename_i hk;rw [if_pos hk] at h2;have L8:∀p∈(z,n)::acc,p.2<n+1:=λp hp=>by
    rcases zzm.mp hp with q|q
    ·rw [q];exact Nat.lt_succ_self _
    ·exact Nat.lt_succ_of_lt (ha p q)
   by_cases hn:n+1<=c
   ·exact mZ r (n+1) _ L8 hn h1 h2
   ·have one:∀{w:Str},(w,c)∈cellsFrom (n+1) r ((z,n)::acc)->w=z:=λ{w} h=>by
     rcases pZ r (n+1) _ h with q|q
     ·rcases zzm.mp q with q|q
      ·cases q;rfl
      ·exact absurd (ha _ q) (Nat.not_lt.mpr hc)
     ·exact absurd q.2 hn
    rw [one h1,one h2]
  ·rename_i hk;rw [if_neg hk] at h2;exact mZ r n acc ha hc h1 h2
def pW{M:Model}{A:Around}{E:Value->Shared->Prop}{s:Shared}{scope:Scope}{g:Addr}{cl:List (Str×Addr)}{qual:Str}{around:Env}{Q:Env->Shared->Prop}
 (h:Q (newEnv scope (zz9 s) g (cellsFrom ((zz9 s)+1) scope.names cl) qual none .none (some around) builtinsNs) {s with heap:=pushCells (s.heap.push {cls:=.type "dict",data:=.dict #[]}) scope.names}):
 wpAny M A (newFunctionEnv scope g cl [] qual none .none (some around)) Q E s:=by
 unfold newFunctionEnv;refine zzA (wpAny_alloc ?_);refine zzA (wpAny_forIn_list _ (λrest b s'=>s'={s with heap:=s'.heap}/\pushCells s'.heap rest=pushCells (s.heap.push {cls:=.type "dict",data:=.dict #[]}) scope.names/\cellsFrom (zz9 s') rest b=cellsFrom ((zz9 s)+1) scope.names cl) _ (λx rest b s' hI=>?_) (λb s' hI=>?_) scope.names cl ⟨rfl,rfl,by rw [Heap.size_push]⟩)
 ·obtain⟨h1,h2,h3⟩:=hI
  obtain⟨nm,k⟩:=x
  rw [pushCells.eq_def] at h2;rw [cellsFrom.eq_def] at h3;dsimp only at h2 h3⊢;split
  ·rename_i hk;rw [if_pos hk] at h2 h3;refine zzA (wpAny_alloc (zzG ⟨by rw [h1],h2,?_⟩));dsimp only;rw [Heap.size_push];exact h3
  ·rename_i hk;rw [if_neg hk] at h2 h3;exact zzG ⟨h1,h2,h3⟩
 ·obtain⟨h1,h2,h3⟩:=hI
  rw [pushCells.eq_def] at h2;rw [cellsFrom.eq_def] at h3;dsimp only at h2 h3;subst h3;rw [h1,h2];exact zzA (zzG (zzG h))
noncomputable def bb(X:Cx)(N':List Str)(scope:Scope)(cl:List (Str×Addr))(fp:List Addr)(s₁:Shared)(H₁:Hp)(C:Addr):Cx where
 prog:=X.prog
 w:=X.w
 K:=X.K
 mg:=X.mg
 base:=X.base
 A:=X.A
 N:=N'
 s₀:=s₁
 H₀:=H₁
 env:=compEnvC scope (cellsFrom (C+1) scope.names cl) C X.env
 outer:=X.stack
 stack:=X.stack
 ex:=fp
 fn:=kj scope
 calm:=true
 pn:=[]
 xe:=λ_ _=>False
theorem eJ{env:Env}:∀{ys:List Str},(ys.all λy=>(env.cells.lookup y).isSome)=true->∀(x:Str) (c:Addr),(bC env ys).lookup x=some c->env.cells.lookup x=some c
 |[],_,_,_,h=>by simp [bC] at h
 |y::ys,ha,x,c,h=>by
  rw [List.all_cons,zza] at ha;have ih:=eJ (env:=env) ha.2 x c
  unfold bC at h ih;rw [zzF,zz5] at h;cases e:x==y with
  |true=>
   rw [e] at h;have OH:x=y:=zzy.mp e
   subst OH;obtain⟨c',kP⟩:=zzp.mp ha.1
   rw [kP] at h⊢;exact h
  |false=>
   rw [e] at h;exact ih h
theorem jh{env:Env}:∀{ys:List Str} {x:Str},x∈ys->∃c,(bC env ys).lookup x=some c
 |[],_,h=>nomatch h
 |y::ys,x,h=>by
  unfold bC;rw [zzF,zz5];cases e:x==y with
  |true=>exact⟨_,rfl⟩
  |false=>
   have hx:x∈ys:=by
    rcases zzm.mp h with z|z
    ·rw [z] at e;simp at e
    ·exact z
   exact jh (env:=env) hx
def hW{scope:Scope}{env:Env}{x:Str}{k:NameKind}(h:(relabel scope env).names.lookup x=some k)(hk:k=.cell\/k=.free):∃k',(x,k')∈scope.names/\(k'=.cell\/k'=.free):=by
 have hm:=PySem.mem_of_lookup h
 unfold relabel at hm;obtain⟨⟨n,k0⟩,h0,e⟩:=zzx.mp hm
 dsimp only at e;split at e
 ·rename_i hc;cases e;refine⟨k0,h0,.inr ?_⟩;rw [zza,zza] at hc;exact zzy.mp hc.1.1
 ·cases e;exact⟨k,h0,hk⟩
structure dg(X:Cx)(scope:Scope)(xs ys:List Str)(is:List Nat):Prop where
 kind:scope.kind=.function
 Lm:closureFor scope X.env=pure (bC X.env ys)
 cells:(ys.all λy=>(X.env.cells.lookup y).isSome)=true
 Ir:(scope.names.all λy=>(decide (y.2≠.cell)||!ys.contains y.1)&&(decide (y.2≠.free)||ys.contains y.1))=true
 own:(scope.names.all λy=>decide (y.2≠.cell)||decide (scope.names.lookup y.1=some .cell))=true
 names:(scope.names.all λy=>decide (y.2≠.local)||decide (scope.names.lookup y.1=some .local))=true
 slots:is.map (λi=>X.N[i]?)=ys.map some
 kX:(ys.all λy=>decide (X.env.kindOf y=some .cell))=true
 kY:(ys.all λy=>decide ((relabel scope X.env).names.lookup y=some .cell))=true
section
variable{X:Cx}{aa:List (Addr×Obj)}{σ:St}{H:Hp}{s:Shared}{scope:Scope}{xs ys:List Str}{is:List Nat}
def dg.DL(S:dg X scope xs ys is){x:Str}(h:(x,NameKind.cell)∈scope.names):scope.names.lookup x=some .cell/\x∉ys:=by
 have q:=zzT.mp S.own _ h
 have c:=zzT.mp S.Ir _ h
 rw [zza,zzt] at c;rw [zzt] at q;refine⟨zzY (q.resolve_left λz=>zzY z rfl),λhy=>?_⟩
 rcases c.1 with z|z
 ·exact zzY z rfl
 ·rw [zzn.mpr hy] at z;cases z
def eO(I:Inv X aa σ H s)(S:dg X scope xs ys is){C:Addr}(hC:(zz9 s)<=C){x:Str}{c:Addr}(h:(cellsFrom (C+1) scope.names (bC X.env ys)).lookup x=some c):
 (X.env.cells.lookup x=some c/\c<(zz9 s)/\x∈ys)\/((x,NameKind.cell)∈scope.names/\C+1<=c):=by
 rcases nr _ _ _ h with z|z
 ·have e:=eJ S.cells x c z
  obtain⟨v,q⟩:=I.cell x c e
  refine .inl ⟨e,q.lt,?_⟩;have hm:=PySem.mem_of_lookup z
  unfold bC at hm;obtain⟨y,hy,e2⟩:=zzx.mp hm
  cases e2;exact hy
 ·exact .inr z
def uk(I:Inv X aa σ H s)(hc:X.calm=true)(S:dg X scope xs ys is){N':List Str}{fp:List Addr}{C:Addr}(hC:(zz9 s)<=C)(hf:∀b∈fp,gg X aa H b)(EF:∀b∈fp,b<(zz9 s)):
 (bb X N' scope (bC X.env ys) fp s H C).Ok where
 mod:=I.ok.mod
 kind:=S.kind
 glob:=I.ok.glob
 blt:=I.ok.blt
 above:=hC
 inj:=λx y c h1 h2=>by
  rcases eO I S hC h1 with z1|z1
  ·rcases eO I S hC h2 with z2|z2
   ·exact I.ok.inj x y c z1.1 z2.1
   ·exact absurd z1.2.1 (Nat.not_lt.mpr (zzU hC (Nat.le_of_succ_le z2.2)))
  ·refine mZ scope.names (C+1) (bC X.env ys) (λp hp=>?_) z1.2 (PySem.mem_of_lookup h1) (PySem.mem_of_lookup h2);unfold bC at hp;obtain⟨y,hy,rfl⟩:=zzx.mp hp
   obtain⟨c',kP⟩:=zzp.mp (zzT.mp S.cells y hy)
   obtain⟨v,q⟩:=I.cell y c' kP
   dsimp only;rw [kP];exact Nat.lt_succ_of_le (zzU (Nat.le_of_lt q.lt) hC)
 has:=λx hx=>by
  have vD:(relabel scope X.env).names.lookup x=some .cell\/(relabel scope X.env).names.lookup x=some .free:=hx
  have:∃k',(x,k')∈scope.names/\(k'=.cell\/k'=.free):=by
   rcases vD with z|z
   ·exact hW z (.inl rfl)
   ·exact hW z (.inr rfl)
  obtain⟨k',hm,hk⟩:=this
  have cv:=zzT.mp S.Ir _ hm
  rw [zza,zzt,zzt] at cv;rcases hk with z|z
  ·subst z;exact zzp.mp (PySem.W.cellsFrom_some _ _ _ (.inl (S.DL hm).1))
  ·rcases cv.2 with q|q
   ·exact absurd z (zzY q)
   ·refine zzp.mp (PySem.W.cellsFrom_some _ _ _ (.inr ?_));obtain⟨c,e⟩:=jh (env:=X.env) (zzn.mp q)
    rw [e];rfl
 JC:=λx c h e=>by
  have hm:(x,NameKind.cell)∈scope.names:=PySem.mem_of_lookup (eq_of_beq h)
  rcases eO I S hC e with z|z
  ·exact absurd z.2.2 (S.DL hm).2
  ·exact zzU hC (Nat.le_of_succ_le z.2)
 hd:=λ_=>I.ok.hd hc
 frames:=I.ok.frames
 Hm:=.inl rfl
 exf:=λb hb=>⟨zzb (zzW (EF b hb) hC),λx c h=>(eO I S hC h).elim (λz=>(hf b hb).2.2.2.2.1 x c z.1) λz q=>absurd (EF b hb) (Nat.not_lt.mpr (q▸zzU hC (Nat.le_of_succ_le z.2)))⟩
 bs:=λb o e=>I.bs b o e
 B8:=zzU I.ok.B8 I.sz
 zB:=λb o e hb=>by
  rcases(hf b hb).2.2.2.1 with z|z
  ·exact I.ok.zB b o e z
  ·exact absurd (zzW (zzO e) (zzU I.ok.B8 z)) (Nat.lt_irrefl _)
 CT:=λb hb hs=>(zzm.mp (I.jq b hs)).elim (hf b hb).2.1 (hf b hb).2.2.1
 k7:=I.stack
 ET:=λb hb=>I.mS b hb
theorem su{N:List Str}:∀{is:List Nat} {ys:List Str},is.map (λi=>N[i]?)=ys.map some->∀(j:Nat) (y:Str) (v:V),ys[j]?=some y->(x5 σ is)[j]?=some (some v)->∃i:Nat,N[i]?=some y/\σ[i]?=some (some v)
 |[],[],_,_,_,_,h,_=>by simp at h
 |[],_::_,h,_,_,_,_,_=>by simp at h
 |_::_,[],h,_,_,_,_,_=>by simp at h
 |i::is,y0::ys,h,0,y,v,h1,h2=>by
  rw [zzF,zzF] at h;have h0:=(List.cons.inj h).1
  simp! [List.getElem?_cons_zero,Option.some.injEq] at h1;subst h1;refine⟨i,h0,?_⟩;unfold x5 at h2;simp! [zzF,List.getElem?_cons_zero,Option.some.injEq] at h2;exact Option.join_eq_some_iff.mp h2
 |i::is,y0::ys,h,j+1,y,v,h1,h2=>by
  rw [zzF,zzF] at h;refine su (is:=is) (ys:=ys) (List.cons.inj h).2 j y v (by simpa using h1) ?_;unfold x5 at h2⊢
  simpa using h2
noncomputable abbrev lobj(ae:List Value)(n:Nat):Obj:={cls:=.type "list",data:=.seq ae.toArray n}
def vj(ae:List Value)(n:Nat)(v:Option Value):(lobj ae n).data≠.cell v:=λz=>by cases z
noncomputable abbrev tests(ifs:List Expr)(env:Env):Sem Bool:=forIn ifs true λc r=>if r=true then do let ok<-isTrue c env (eval c env);pure (ForInStep.yield ok) else pure (ForInStep.yield r)
theorem mG{prog:Program}{w:World}{A:Around}{R:Result->Shared->Prop}{s:Shared}{elt target iter:Expr}{ifs:List Expr}{scope:Scope}{pos:Pos}{it acc:Value}{env:Env}(I:Nat->Shared->Prop)
 (turn:∀n s,I n s->wpAny (model prog w) A (pyNext it) (λr s₁=>match r with
  |none=>R (.ok .next) s₁
  |some v=>wpAny (model prog w) A (letOwnedTupleGo target it v) (λ_ s₁'=>wpAny (model prog w) A (assign target env v) (λ_ s₂=>
   wpAny (model prog w) A (tests ifs env) (λok s₃=>if ok=true then wpAny (model prog w) A (eval elt env) (λx s₄=>
    wpAny (model prog w) A (call (.builtin "list.append") [acc,x]) (λ_ s₅=>∃m,m<n/\I m s₅) (notedBy (model prog w) A env λe s'=>R (.error e) s') s₄) (notedBy (model prog w) A env λe s'=>R (.error e) s') s₃
    else∃m,m<n/\I m s₃) (notedBy (model prog w) A env λe s'=>R (.error e) s') s₂)
   (notedBy (model prog w) A env λe s'=>R (.error e) s') s₁') (notedBy (model prog w) A env λe s'=>R (.error e) s') s₁) (notedBy (model prog w) A env λe s'=>R (.error e) s') s)
 (n:Nat) (h:I n s):
 codeAny (model prog w) A (.compLoop (.ListComp elt [⟨target,iter,ifs,0⟩] scope pos) 0 it acc env) R s:=by
 refine codeAny_loop rfl I (λn s hI=>?_) n h;show wpAny _ A ((compTurn (.ListComp elt [⟨target,iter,ifs,0⟩] scope pos) 0 it acc env).onRaise (λx=>do noteFrame x env;theTreesLotGoes x)) _ _ s;refine wpAny_noted ?_;rw [compTurn_list];refine zzA (wpAny_standAt (zzA (wpAny_mono (turn n s hI) (λr s₁ h₁=>?_) λ_ _ h'=>h')))
 cases r with
 |none=>exact zzG h₁
 |some v=>
  refine zzA (wpAny_mono h₁ (λ_ s₁' h₁'=>?_) λ_ _ h'=>h')
  refine zzA (wpAny_mono h₁' (λ_ s₂ h₂=>zzA (wpAny_mono h₂ (λok s₃ h₃=>?_) λ_ _ h'=>h')) λ_ _ h'=>h')
  cases ok with
  |false=>exact zzG ⟨rfl,h₃⟩
  |true=>exact zzA (zzA (wpAny_mono h₃ (λx s₄ h₄=>zzA (wpAny_mono h₄ (λ_ s₅ h₅=>zzG (zzG ⟨rfl,h₅⟩)) λ_ _ h'=>h')) λ_ _ h'=>h'))
def KN(X:Cx)(ifs:List Expr)(t:TT):Prop:=
 ∀(aa:List (Addr×Obj)) (s:Shared) (σ:St) (H:Hp) (Q:Bool->Hp->Prop),Inv X aa σ H s->t σ H Q->wpAny (model X.prog X.w) X.A (tests ifs X.env) (TP X aa σ Q) X.xe s
def tV{X:Cx}:KN X [] (λ_ H q=>q true H):=λ_ _ _ H _ I h=>wpAny_tests_nil ⟨H,I,h⟩
def rJ{X:Cx}{e:Expr}{t:TT}(h:PT X e t):KN X [e] t:=λaa s σ H Q I z=>wpAny_tests_one (h aa s σ H Q I z)
def Gg(J:It)(k:Nat)(g:TG)(te:TE)(fs:St)(Q:VK)(H1:Hp):Prop:=∃(n:Nat) (W:Nat->List V->St->Hp->Prop),W 0 [] (List.replicate k none++fs) H1/\
 ∀i ys σ' H',W i ys σ' H'->ys.length<sizeLine/\((J.stop i H'/\∀p,H' p=none->Q (.ref p) (upd H' p (.lst ys)))\/
  (J.go i H'/\i<n/\∀x i8,J.Fj i H' x i8->g x σ' i8 λσ2 H2=>te σ2 H2 λy H3=>W (i+1) (ys++[y]) σ2 H3))
noncomputable def xM(wi:TI)(k:Nat)(g:TG)(te:TE)(is:List Nat):TE:=λσ H Q=>wi σ H λJ H1=>Gg J k g te (x5 σ is) Q H1
def ze(J:It)(k:Nat)(g:TG)(tt:TT)(te:TE)(fs:St)(Q:VK)(H1:Hp):Prop:=∃(n:Nat) (W:Nat->List V->St->Hp->Prop),W 0 [] (List.replicate k none++fs) H1/\
 ∀i ys σ' H',W i ys σ' H'->ys.length<sizeLine/\((J.stop i H'/\∀p,H' p=none->Q (.ref p) (upd H' p (.lst ys)))\/
  (J.go i H'/\i<n/\∀x i8,J.Fj i H' x i8->g x σ' i8 λσ2 H2=>tt σ2 H2 λb H3=>if b=true then te σ2 H3 (λy H4=>W (i+1) (ys++[y]) σ2 H4) else W (i+1) ys σ2 H3))
noncomputable def iQ(wi:TI)(k:Nat)(g:TG)(tt:TT)(te:TE)(is:List Nat):TE:=λσ H Q=>wi σ H λJ H1=>ze J k g tt te (x5 σ is) Q H1
def eW{elt tg iter:Expr}{ifs:List Expr}{pos pp:Pos}{wi:TI}{g:TG}{te:TE}{tt:TT}{use:Option (Value->Sem Unit)}{QQ:Value->Shared->Prop}{Q:VK}(hc:X.calm=true)(S:dg X scope xs ys is)(hi:PI X tg iter wi)
 (hg:∀fp s1 H1 C,PG (bb X (xs++ys) scope (bC X.env ys) fp s1 H1 C) tg g) (ht:∀fp s1 H1 C,KN (bb X (xs++ys) scope (bC X.env ys) fp s1 H1 C) ifs tt) (he:∀fp s1 H1 C,PE (bb X (xs++ys) scope (bC X.env ys) fp s1 H1 C) elt te)
 (hs:∀x,foldedSetIterable iter X.env x=pure x) (I:Inv X aa σ H s) (h:iQ wi xs.length g tt te is σ H Q)
 (fin:∀(D C:Addr) (s4:Shared) (H4:Hp) (m:Str->Option Value),Inv X aa σ H4 s4->s4.heap.Ns C m->gg X aa H4 C->Q (.ref D) H4->compPost (model X.prog X.w) X.A X.xe use QQ (.ref D) C (.ok .next) s4):
 wpAny (model X.prog X.w) X.A (comprehension (.ListComp elt [⟨tg,iter,ifs,0⟩] scope pos) scope X.env pp (newList []) false (eval iter X.env) use) QQ X.xe s:=by
 have DD:∀x∈scope.names,x.2=.local->scope.names.lookup x.1=some .local:=λx hx hl=>by
  have q:=zzT.mp S.names x hx
  rw [zzt] at q;rcases q with q|q
  ·exact absurd hl (zzY q)
  ·exact zzY q
 refine wpAny_comprehension_free (use:=use) (Q:=QQ) (g:=⟨tg,iter,ifs,0⟩) (gs:=[]) rfl hs S.Lm S.kind DD (bh (hi aa s σ H _ I h) λxv s0 h0=>bh h0 λJO s1 h1=>?_)
 obtain⟨it,fp,tn,J,H1,rfl,I1,T,Fh,f1,n,W,w0,turn⟩:=h1
 refine wpAny_newObj_type (pW ?_);dsimp only;generalize hH2:s1.heap.push {cls:=.type "list",dict:=none,data:=.seq ([]:List Value).toArray}=G2
 generalize hh₁:pushCells (G2.push {cls:=.type "dict",data:=.dict #[]}) scope.names=h₁
 have J6:∀b o,(G2.push {cls:=.type "dict",data:=.dict #[]}).get? b=some o->h₁.get? b=some o:=λb o e=>by rw [<-hh₁];exact pushCells_keeps _ _ b o e
 have hns₁:h₁.Ns G2.objs.size λ_=>none:=(Heap.Ns.new G2 (.type "dict")).keeps J6
 have N7:G2.objs.size=(zz9 s1)+1:=by rw [<-hH2,Heap.size_push]
 have kF:(zz9 s1)<=G2.objs.size:=by rw [N7];exact Nat.le_succ _
 have Jy:(zz9 s1)≠G2.objs.size:=by rw [N7];exact zzb (Nat.lt_succ_self _)
 have old:∀b o,s1.heap.get? b=some o->h₁.get? b=some o:=λb o e=>J6 b o (zzB _ (hH2▸zzB _ e))
 have qN:h₁.get? (zz9 s1)=some (lobj [] 0):=J6 _ _ (zzB _ (hH2▸zzX _ rfl))
 have EF:∀b∈fp,b<(zz9 s1):=λb hb=>by
  obtain⟨o,e,_⟩:=T.obj _ _ Fh b hb
  exact zzO e
 generalize hY:bb X (xs++ys) scope (bC X.env ys) fp s1 H1 G2.objs.size=Y
 have Og:Y.Ok:=by rw [<-hY];exact uk I1 hc S kF f1 EF
 have NB:∀b∈fp,(zz9 s1)≠b:=λb hb=>Ne.symm (zzb (EF b hb))
 have KA:∀b,b∈Y.fs->b=X.env.locals\/b∈X.fs:=λb hb=>by
  rw [<-hY] at hb;exact zzm.mp (I1.jq b hb)
 have Lu:∀b∈Y.fs,b<(zz9 s1):=λb hb=>by
  rw [<-hY] at hb;obtain⟨_,o,ho,_⟩:=I1.stack.mem hb
  exact zzO ho
 have Md:(zz9 s1)∉Y.fs:=λz=>Nat.lt_irrefl _ (Lu _ z)
 have CB:Y.env.locals=G2.objs.size:=by rw [<-hY];rfl
 have Jk:∀x c,Y.env.cells.lookup x=some c->(X.env.cells.lookup x=some c/\c<(zz9 s1)/\x∈ys)\/((x,NameKind.cell)∈scope.names/\G2.objs.size+1<=c):=λx c e=>by
  rw [<-hY] at e;exact eO I1 S kF e
 have OD:∀x c,Y.env.cells.lookup x=some c->G2.objs.size+1<=c->h₁.IsCell c none:=λx c e hle=>by
  rw [<-hY] at e;have hm:(x,c)∈cellsFrom (G2.objs.size+1) scope.names []:=D8 scope.names _ _ (PySem.mem_of_lookup e) λp hp=>by
   unfold bC at hp;obtain⟨y,hy,rfl⟩:=zzx.mp hp
   obtain⟨c',kP⟩:=zzp.mp (zzT.mp S.cells y hy)
   obtain⟨v,q⟩:=I1.cell y c' kP
   dsimp only;rw [kP];exact zzb (zzW q.lt (zzU kF (Nat.le_of_succ_le hle)))
  have ck:=cellsFrom_ok scope.names (G2.push {cls:=.type "dict",data:=.dict #[]}) 0 [] ⟨(λ_ _ z=>nomatch z),.nil⟩ (Nat.zero_le _)
  rw [Heap.size_push,hh₁] at ck;exact(ck.empty x c hm).1
 have Ob:∀x c,Y.env.cells.lookup x=some c->c≠(zz9 s1):=λx c e=>(Jk x c e).elim (λz=>zzb z.2.1) λz=>Ne.symm (zzb (zzV kF z.2))
 have xn:Y.pn=[]:=by rw [<-hY];rfl
 have Gd:Y.ex=fp:=by rw [<-hY];rfl
 have Ia:Y.s₀=s1:=by rw [<-hY];rfl
 have Nw:Y.H₀=H1:=by rw [<-hY];rfl
 have Ih:Y.prog=X.prog:=by rw [<-hY];rfl
 have HP:Y.w=X.w:=by rw [<-hY];rfl
 have Mq:Y.K=X.K:=by rw [<-hY];rfl
 have K3:Y.A=X.A:=by rw [<-hY];rfl
 have OY:compEnvC scope (cellsFrom (G2.objs.size+1) scope.names (bC X.env ys)) G2.objs.size X.env=Y.env:=by rw [<-hY];rfl
 have Hu:Y.calm=true:=by rw [<-hY];rfl
 have Ee:Y.xe=λ_ _=>False:=by rw [<-hY];rfl
 have Ie:Y.fs=gD X.stack:=by rw [<-hY];rfl
 have Ib:∀{H':Hp} {s':Shared} {ae:List Value} {k:Nat},s'.heap.get? (zz9 s1)=some (lobj ae k)->H' (zz9 s1)=none->∀p∈[((zz9 s1),lobj ae k)],s'.heap.get? p.1=some p.2/\H' p.1=none/\p.1≠Y.env.locals/\p.1∉Y.fs/\∀v,p.2.data≠.cell v:=
  λ{H' s' ae k} e hn p hp=>by
   obtain rfl:=zzi.mp hp
   exact⟨e,hn,by rw [CB];exact Jy,Md,λv=>vj ae k v⟩
 have J7:∀{H':Hp} {ae:List Value} {k:Nat},(∀b∈fp,H' b=none)->∀b∈fp,gg Y [((zz9 s1),lobj ae k)] H' b:=λ{H' ae k} hn b hb=>
  ⟨hn b hb,by rw [CB];exact zzb (zzW (EF b hb) kF),λz=>(KA b z).elim (f1 b hb).2.1 (f1 b hb).2.2.1,.inl (by rw [Gd];exact hb),
   λx c e=>(Jk x c e).elim (λz=>(f1 b hb).2.2.2.2.1 x c z.1) (λz q=>absurd (EF b hb) (Nat.not_lt.mpr (q▸zzU kF (Nat.le_of_succ_le z.2)))),λp hp=>by
    rw [xn,List.nil_append] at hp;obtain rfl:=zzi.mp hp
    exact NB b hb⟩
 have Hn:H1 (zz9 s1)=none:=I1.aU.fresh (zzE _)
 have I2:∀tk,Inv Y [((zz9 s1),lobj [] 0)] (List.replicate xs.length none++x5 σ is) H1 {s1 with heap:=h₁,toks:=tk}:=λtk=>by
  refine⟨Og,by rw [Ia],I1.bare,by rw [Ia,Nw];exact Un.kept old,⟨_,by rw [CB];exact hns₁,λi x v e1 e2 e3=>?_⟩,λx c e=>?_,?_,λx c e=>(Jk x c e).elim (λz=>I1.ik x c z.1) (λz=>I1.aU.fresh (zzU kF (Nat.le_of_succ_le z.2))),λp hp=>?_,by rw [Ih,HP];exact I1.aU.kept old,?_⟩
  ·
   have LY:Y.N=xs++ys:=by rw [<-hY];rfl
   rw [LY] at e1
   by_cases bU:i<xs.length
   ·rw [zzr (by rw [List.length_replicate];exact bU),List.getElem?_replicate,if_pos bU] at e2;cases e2
   ·have L7:xs.length<=i:=Nat.not_lt.mp bU
    rw [zzs (by rw [List.length_replicate];exact L7),List.length_replicate] at e2;rw [zzs L7] at e1;obtain⟨i0,h0,h1⟩:=su S.slots _ x v e1 e2
    have hm:x∈ys:=zzD e1
    have kx:X.env.kindOf x=some .cell:=zzY (zzT.mp S.kX x hm)
    have ky:(relabel scope X.env).names.lookup x=some .cell:=zzY (zzT.mp S.kY x hm)
    obtain⟨m,_,hl⟩:=I1.loc
    obtain⟨u,ru,lk⟩:=hl i0 x v h0 h1 (.inr (.inl kx))
    refine⟨u,ru,.inr ⟨.inl (by rw [<-hY];exact ky),?_⟩⟩;rcases lk with⟨z,_⟩|⟨_,c,hc1,hc2⟩
    ·rw [kx] at z;cases z
    ·obtain⟨c',kP⟩:=jh (env:=X.env) hm
     have Hv:=eJ S.cells x c' kP
     rw [hc1] at Hv;cases Hv;refine⟨c,by rw [<-hY];exact(nQ _ _ _ λz=>(S.DL z).2 hm).trans kP,?_⟩
     obtain⟨o,ho,hd⟩:=hc2
     exact⟨o,old _ _ ho,hd⟩
  ·rcases Jk x c e with z|z
   ·obtain⟨v,o,ho,hd⟩:=I1.cell x c z.1
    exact⟨v,o,old _ _ ho,hd⟩
   ·exact⟨none,OD x c e z.2⟩
  ·rw [CB];exact I1.aU.fresh kF
  ·rw [xn,List.nil_append] at hp;exact Ib (s':={s1 with heap:=h₁,toks:=tk}) qN Hn p hp
  ·have LY:Y.N=xs++ys:=by rw [<-hY];rfl
   have hl:=congrArg List.length S.slots
   rw [zzl,zzl] at hl;rw [LY,zzM,zzM,List.length_replicate];unfold x5;rw [zzl,hl]
 have loop:∀s₃:Shared,s₃={s1 with heap:=h₁}->
  codeAny (model X.prog X.w) X.A (.compLoop (.ListComp elt [⟨tg,iter,ifs,0⟩] scope pos) 0 (.ref it) (.ref (zz9 s1)) (compEnvC scope (cellsFrom (G2.objs.size+1) scope.names (bC X.env ys)) G2.objs.size X.env))
   (compPost (model X.prog X.w) X.A X.xe use QQ (.ref (zz9 s1)) G2.objs.size) s₃:=by
  rintro s₃ rfl
  rw [OY];refine mG (λk s'=>∃i made σ' H' ae c,Inv Y [((zz9 s1),lobj ae c)] σ' H' s'/\tn i s'.heap/\(∀b∈fp,H' b=none)/\Vals made ae/\k=n-i/\W i made σ' H') ?_ n
   ⟨0,[],_,H1,[],0,I2 _,T.keep _ _ _ Fh λb _ o e=>old b o e,λb hb=>(f1 b hb).1,.nil,rfl,w0⟩
  rintro k s' ⟨i,made,σ',H',ae,c,I3,CG,fr3,rv,rfl,w3⟩
  obtain⟨hz,tw⟩:=turn i made σ' H' w3
  have pD:=I3.pin ((zz9 s1),lobj ae c) (by rw [xn];exact zzi.mpr rfl)
  rcases tw with⟨stop,hq⟩|⟨go,FU,step⟩
  ·rw [<-K3];refine bh (T.done Y Ih HP Mq Hu i _ s' σ' H' _ I3 (J7 fr3) CG stop) λr s4 ⟨hr,I4⟩=>?_
   subst hr;obtain⟨m,hn4,_⟩:=I4.loc
   rw [CB] at hn4;have KZ:=I4.pin ((zz9 s1),lobj ae c) (by rw [xn];exact zzi.mpr rfl)
   have kp:∀b o,b≠G2.objs.size->s4.heap.get? b=some o->s4.heap.get? b=some o:=λb o hb e=>e
   have Lr:∀{b o},s1.heap.get? b=some o->b≠G2.objs.size:=λ{b o} e=>zzb (zzW (zzO e) kF)
   have cY:=I4.base
   rw [Ia,Nw,Gd,Ie] at cY;have L5:∀{b o},H1 b=some o->b≠(zz9 s1):=λ{b o} e=>zzb (I1.aU.lt e)
   have u:Un (gD X.stack) fp H1 (upd H' (zz9 s1) (.lst made)) s1.heap s4.heap:=by
    refine⟨λb o e n hb hx=>kp b o (Lr e) (cY.keep b o e n hb hx),λb o e n hb hx=>?_,λb o e n hx=>?_,λb o e hx=>?_,λb xs e=>?_,λb o u e=>?_,λb ps e=>?_⟩
    ·obtain⟨sl,q⟩:=cY.slot b o e n hb hx
     exact⟨sl,kp b _ (Lr e) q⟩
    ·rw [af (zzb (zzO e))];exact cY.free b o e n hx
    ·obtain⟨o',q⟩:=cY.there b o e hx
     exact⟨o',kp b _ (Lr e) q⟩
    ·rw [af (L5 e)];exact cY.iu b xs e
    ·rw [af (L5 e)];exact cY.gL b o u e
    ·obtain⟨more,q⟩:=cY.g7 b ps e
     exact⟨more,by rw [af (L5 e)];exact q⟩
   have NJ:H' G2.objs.size=none:=by rw [<-CB];exact I4.free
   have zA:fK X.prog X.w (upd H' (zz9 s1) (.lst made)) s4.heap:=λb o e=>by
    by_cases hb:b=(zz9 s1)
    ·subst hb;rw [aw] at e;cases e;exact⟨Nat.le_of_lt hz,ae,c,rv,kp _ _ Jy KZ.1⟩
    ·rw [af hb] at e;have x4:=I4.aU b o e
     rw [Ih,HP] at x4;have DI:∀b' u,H' b'=some u->b'≠G2.objs.size:=λb' u q z=>by rw [z,NJ] at q;cases q
     have NQ:∀b' u,H' b'=some u->b'≠(zz9 s1):=λb' u q z=>by rw [z,KZ.2.1] at q;cases q
     refine x4.fH (λb' u kq q=>kp b' u ?_ q) (λb' q=>?_) λb' xs q=>?_
     ·rcases kq with z|z
      ·rw [z];exact DI b o e
      ·exact DI b' _ z
     ·rw [af (NQ b' _ q)];exact q
     ·rw [af (NQ b' _ q)];exact q
   have I5:Inv X aa σ (upd H' (zz9 s1) (.lst made)) s4:=I1.Ha (by show s4.os=s1.os;rw [I4.os,Ia]) u zA I4.bare λb hb=>⟨(f1 b hb).2.2.2.1,(f1 b hb).2.1,(f1 b hb).2.2.2.2.1,(f1 b hb).2.2.2.2.2⟩
   dsimp only;rw [K3];exact fin (zz9 s1) G2.objs.size s4 _ m I5 hn4 (I1.kJ kF (by rw [af (Ne.symm Jy)];exact NJ)) (hq _ KZ.2.1)
  ·rw [<-K3];refine bh (T.item Y Ih HP Mq Hu i _ s' σ' H' _ I3 (J7 fr3) CG go) λr s4 ⟨u,hr,h4⟩=>?_
   subst hr;dsimp only;refine bh h4 λ_ s5 ⟨x,H5,I5,r5,y5,st5,fr5⟩=>?_
   have Mo:=I5.pinned (J7 fr5) (T.obj _ _ st5)
   have M0:=hg fp s1 H1 G2.objs.size
   have Nj:=he fp s1 H1 G2.objs.size
   have M8:=ht fp s1 H1 G2.objs.size
   rw [hY] at M0 Nj M8;rw [<-Ih,<-HP];refine wpAny_mono (M0 _ s5 σ' H5 x u _ Mo r5 (step x H5 y5)) (λ_ s6 ⟨σ6,H6,I6,q6⟩=>?_) (λ_ _ f=>by rw [Ee] at f;exact f.elim);refine wpAny_mono (M8 _ s6 σ6 H6 _ I6 q6) (λokb sT ⟨HT,IT,qT⟩=>?_) (λ_ _ f=>by rw [Ee] at f;exact f.elim);have Px:=IT.pin ((zz9 s1),lobj ae c) (zzR _ (zzc _ (zzi.mpr rfl)))
   have OO:tn (i+1) sT.heap:=T.keep _ _ _ st5 λb hb o e=>(IT.pin (b,o) (zzR _ (zzR _ (cF hb e)))).1
   cases okb with
   |false=>
    refine⟨n-(i+1),by omega,i+1,made,σ6,HT,ae,c,IT.gr,OO,λb hb=>?_,rv,rfl,qT⟩
    obtain⟨o,e,d⟩:=T.obj _ _ st5 b hb
    exact(IT.pin (b,o) (zzR _ (zzR _ (cF hb e)))).2.1
   |true=>
   refine wpAny_mono (Nj _ sT σ6 HT _ IT qT) (λv s7 ⟨y,H7,I7,r7,q7⟩=>?_) (λ_ _ f=>by rw [Ee] at f;exact f.elim);have Mf:=I7.pin ((zz9 s1),lobj ae c) (zzR _ (zzc _ (zzi.mpr rfl)))
   have e7:s7.heap.get? (zz9 s1)=some {cls:=.type "list",data:=.seq ae.toArray c}:=Mf.1
   refine append_at (hsz:=by rw [zzC,<-rv.length];exact Nat.le_of_lt hz) e7 λh' uM O0=>?_
   have I8:Inv Y [] σ6 H7 s7:=I7.iP λ_ z=>nomatch z
   have I9:Inv Y [] σ6 H7 {s7 with heap:=h'}:=I8.turned (t':=s7.toks) (it:=(zz9 s1)) (λb o hb e=>uM.extBut b o hb e) Mf.2.1 (by rw [CB];exact Jy) (.inr (by rw [Ia];exact zzE _))
    (λx c' e=>Ob x c' e) (λp hp=>by rw [xn] at hp;cases hp)
   have eD:h'.get? (zz9 s1)=some (lobj (ae++[v]) (c+1)):=by rw [O0,List.push_toArray]
   have Oh:tn (i+1) s7.heap:=T.keep _ _ _ st5 λb hb o e=>(I7.pin (b,o) (zzR _ (zzR _ (cF hb e)))).1
   refine⟨n-(i+1),by omega,i+1,made++[y],σ6,H7,ae++[v],c+1,I9.iP (Ib (s':={s7 with heap:=h'}) eD Mf.2.1),T.keep _ _ _ Oh λb hb o e=>uM.extBut b o (Ne.symm (NB b hb)) e,λb hb=>?_,rv.append (.cons r7 .nil),rfl,q7⟩
   obtain⟨o,e,d⟩:=T.obj _ _ st5 b hb
   exact(I7.pin (b,o) (zzR _ (zzR _ (cF hb e)))).2.1
 exact codeAny_compStart_list (loop _ rfl) (T.self _ 0 _ _ _ (T.keep _ _ _ Fh λb _ o e=>old b o e) (loop _ rfl))
def BD{elt tg iter:Expr}{pos:Pos}{wi:TI}{g:TG}{te:TE}(hc:X.calm=true)(S:dg X scope xs ys is)(hi:PI X tg iter wi)
 (hg:∀fp s1 H1 C,PG (bb X (xs++ys) scope (bC X.env ys) fp s1 H1 C) tg g) (he:∀fp s1 H1 C,PE (bb X (xs++ys) scope (bC X.env ys) fp s1 H1 C) elt te)
 (hs:∀x,foldedSetIterable iter X.env x=pure x:=by intro _;rfl):
 PE X (.ListComp elt [⟨tg,iter,[],0⟩] scope pos) (xM wi xs.length g te is):=by
 intro aa s σ H Q I h;rw [eval_ListComp];exact eW (use:=none) (Q:=Q) hc S hi hg (λ_ _ _ _=>tV) he hs I h (λD C s4 H4 m I5 hn ⟨g0,g1,_,g3,g4,g5⟩ q=>⟨m,hn,λh' uM=>⟨.ref D,H4,I5.turned (t':=s4.toks) (it:=C) (λb o hb e=>uM.extBut b o hb e) g0 g1 g3 g4 g5,rfl,q⟩⟩)
def vg{elt tg iter Ef:Expr}{pos:Pos}{wi:TI}{g:TG}{te:TE}{tt:TT}(hc:X.calm=true)(S:dg X scope xs ys is)(hi:PI X tg iter wi)
 (hg:∀fp s1 H1 C,PG (bb X (xs++ys) scope (bC X.env ys) fp s1 H1 C) tg g) (ht:∀fp s1 H1 C,PT (bb X (xs++ys) scope (bC X.env ys) fp s1 H1 C) Ef tt) (he:∀fp s1 H1 C,PE (bb X (xs++ys) scope (bC X.env ys) fp s1 H1 C) elt te)
 (hs:∀x,foldedSetIterable iter X.env x=pure x:=by intro _;rfl):
 PE X (.ListComp elt [⟨tg,iter,[Ef],0⟩] scope pos) (iQ wi xs.length g tt te is):=by
 intro aa s σ H Q I h;rw [eval_ListComp];exact eW (use:=none) (Q:=Q) hc S hi hg (λfp s1 H1 C=>rJ (ht fp s1 H1 C)) he hs I h (λD C s4 H4 m I5 hn ⟨g0,g1,_,g3,g4,g5⟩ q=>⟨m,hn,λh' uM=>⟨.ref D,H4,I5.turned (t':=s4.toks) (it:=C) (λb o hb e=>uM.extBut b o hb e) g0 g1 g3 g4 g5,rfl,q⟩⟩)
end
def aS{H:Hp}{p:Addr}{o:HO}(h:H p=none):aq H (upd H p o):=λb u e=>by rw [af (cD e h)];exact e
theorem mr{α β:Type}{R:α->β->Prop}:∀(xs:List α) (us:List β),xs.length=us.length->(∀(j:Nat) x u,xs[j]?=some x->us[j]?=some u->R x u)->Paired R xs us
 |[],[],_,_=>.nil
 |[],_::_,h,_=>by simp at h
 |_::_,[],h,_=>by simp at h
 |x::xs,u::us,h,k=>.cons (k 0 x u rfl rfl) (mr xs us (by simpa using h) λj x' u' h1 h2=>k (j+1) x' u' (by simpa using h1) (by simpa using h2))
section
variable{X:Cx}
def range_all(bs:List Bool):(List.range bs.length).all (λi=>(bs[i]?).getD true)=bs.all id:=by
 rw [Bool.eq_iff_iff,zzT,zzT]
 constructor
 ·intro h b hb;obtain⟨i,hi,e⟩:=List.getElem_of_mem hb
  have q:=h i (List.mem_range.mpr hi)
  rw [zzg hi,Option.getD_some,e] at q;exact q
 ·intro h i hi;have zi:=List.mem_range.mp hi
  rw [zzg zi,Option.getD_some];exact h _ (List.getElem_mem zi)
def wy(hc:X.calm=true):bF X (.builtin "all") (λxs H Q=>∃(p:Addr) (bs:List Bool),xs=[.ref p]/\fQ X.K H p (bs.map V.bl)/\Q (.bl (bs.all id)) H):=by
 intro aa s σ H xs us Q I r h;obtain⟨p,bs,rfl,hp,q⟩:=h
 obtain⟨u,rfl,ru⟩:=vals1 r
 cases ru;obtain⟨ae,rv,pl,hz⟩:=I.list hp
 have bU:p<(zz9 s):=by obtain⟨_,e,_⟩:=pl.isList;exact zzO e
 have hlen:ae.length=bs.length:=by rw [<-rv.length,zzl]
 refine call_all_walk (wpAny_pyIter_list pl.isList ?_);refine⟨(zz9 s),_,_,ae.toArray.size,_,_,λi=>(bs[i]?).getD true,rfl,Walks.list (A:=X.A.in1) (I.ok.hd hc) (zz9 s) p (zzb bU) ae.toArray,⟨⟨_,zzX _ rfl,rfl,rfl⟩,pl.isList.push _⟩,λi v s2 Q2 E2 hP hQ=>?_,λh' tk hk=>?_⟩
 ·have hv:ae[i]?=some v:=by simpa using hP
  have hi:i<bs.length:=by rw [<-hlen];exact(zzH.mp hv).1
  obtain⟨u,hu,ru⟩:=rv.get (i:=i) (x:=V.bl bs[i]) (by rw [zzQ,zzg hi];rfl)
  rw [hv] at hu;cases hu;have e:v=Value.bool bs[i]:=ru
  rw [e];have q2:Q2 ((bs[i]?).getD true) s2:=hQ
  rw [zzg hi,Option.getD_some] at q2;exact wpAny_truthy_bool q2
 ·rw [zzC,hlen,range_all];exact⟨.bl (bs.all id),H,I.kept λb o e=>hk b o (by simp;exact zzb (zzO e)) (zzB _ e),rfl,q⟩
def oo:d5 X (compareOp .IsNot) (λx y H Q=>∃c d,x=.bl c/\y=.bl d/\Q (.bl (c !=d)) H):=by
 intro aa s σ H x y v u Q I rx ry h;obtain⟨c,d,rfl,rfl,q⟩:=h
 cases rx;cases ry;exact isnot_bool (mW I q rfl)
noncomputable def JK(z:Str):It:=⟨λi _=>i<z.cps.size,λi H x H'=>H'=H/\∃c,z.cps[i]?=some c/\x=.str ⟨#[c]⟩,λi _=>z.cps.size<=i⟩
def xZ{P:Program}{w:World}{K:zz8}{tg:Expr}(z:Str)(t:Tok)(it:Addr)(ty:String)(BR:ty="str_ascii_iterator"\/ty="str_iterator"):Turn P w K tg (JK z) [it] it (λi h=>h.IsStrIter it ty z t i/\i<=z.cps.size) where
 mem:=by simp
 obj:=λi h st b hb=>by
  have e:b=it:=by simpa using hb
  subst e;obtain⟨⟨o,e,c,d⟩,_⟩:=st
  exact⟨o,e,λv z=>by rw [d] at z;cases z⟩
 keep:=λi h h' st k=>⟨by obtain⟨⟨o,e,r⟩,_⟩:=st;exact⟨o,k it (by simp) o e,r⟩,st.2⟩
 item:=by
  intro X hP hw hK hc i aa s σ H E I hf st hg;subst hP hw hK;obtain⟨f0,f1,f2,f3,f4,f5⟩:=hf it (by simp)
  have hi:i<z.cps.size:=hg
  have fin:∀(v:Value) (h':Heap) (tk:Nat),SignAt z i v->h'.IsStrIter it ty z t (i+1)->(∀b o,b∉[it]->s.heap.get? b=some o->h'.get? b=some o)->
   ∃u,(some v:Option Value)=some u/\wpAny (model X.prog X.w) X.A (letOwnedTupleGo tg (.ref it) u) (λ_ s2=>∃x H',Inv X aa σ H' s2/\RelV x u/\(JK z).Fj i H x H'/\(s2.heap.IsStrIter it ty z t (i+1)/\i+1<=z.cps.size)/\∀b∈[it],H' b=none) E {s with heap:=h',toks:=tk}:=by
   intro v h' tk hv fU kk;obtain⟨c,u,hc,rfl⟩:=hv
   have I1:Inv X aa σ H {s with heap:=h',toks:=tk}:=I.turned (λb o hb e=>kk b o (by simpa using hb) e) f0 f1 f3 f4 f5
   obtain⟨o,e,c',d⟩:=id fU
   exact⟨_,rfl,oF (s:={s with heap:=h',toks:=tk}) e c' d (by rcases BR with rfl|rfl<;>decide) ⟨.str ⟨#[c]⟩,H,I1,⟨u,rfl⟩,⟨rfl,c,hc,rfl⟩,⟨fU,hi⟩,λb hb=>(hf b hb).1⟩⟩
  rcases BR with rfl|rfl
  ·exact(Walks.strAscii (prog:=X.prog) (w:=X.w) (I.ok.hd hc) it z t).item i s _ _ hi st.1 λv h' tk hv fU kk=>fin v h' tk hv fU kk
  ·exact(Walks.strWide (prog:=X.prog) (w:=X.w) (I.ok.hd hc) it z t).item i s _ _ hi st.1 λv h' tk hv fU kk=>fin v h' tk hv fU kk
 done:=by
  intro X hP hw hK hc i aa s σ H E I hf st hg;subst hP hw hK;obtain⟨f0,f1,f2,f3,f4,f5⟩:=hf it (by simp)
  have hi:i=z.cps.size:=Nat.le_antisymm st.2 hg
  subst hi;rcases BR with rfl|rfl
  ·exact(Walks.strAscii (prog:=X.prog) (w:=X.w) (I.ok.hd hc) it z t).done s _ _ st.1 λh' tk kk=>⟨rfl,I.turned (λb o hb e=>kk b o (by simpa using hb) e) f0 f1 f3 f4 f5⟩
  ·exact(Walks.strWide (prog:=X.prog) (w:=X.w) (I.ok.hd hc) it z t).done s _ _ st.1 λh' tk kk=>⟨rfl,I.turned (λb o hb e=>kk b o (by simpa using hb) e) f0 f1 f3 f4 f5⟩
 self:=λA i s Q E st h=>by
  rcases BR with rfl|rfl
  ·exact wpAny_pyIter_striter_ascii st.1 h
  ·exact wpAny_pyIter_striter_wide st.1 h
noncomputable def Mn(tl:TE):TI:=λσ H R=>tl σ H λx H1=>∃z,x=.str z/\R (JK z) H1
def C8{tg l:Expr}{tl:TE}(hl:PE X l tl):PI X tg l (Mn tl):=by
 intro aa s σ H R I h;refine bh (hl aa s σ H _ I h) λv s1 ⟨x,H1,I1,r1,q1⟩=>?_
 obtain⟨z,e,q⟩:=q1
 subst e;obtain⟨t,rfl⟩:=r1
 have fin:∀ty:String,(ty="str_ascii_iterator"\/ty="str_iterator")->J4 X aa σ tg R (.ref (zz9 s1)) {s1 with heap:=s1.heap.push {cls:=.type ty,data:=.fields #[.str z t,.int 0 0]}}:=λty BR=>by
  refine⟨(zz9 s1),[(zz9 s1)],_,_,H1,rfl,I1.kept (t':=s1.toks) λb o e=>zzB _ e,xZ z t _ ty BR,⟨⟨_,zzX _ rfl,rfl,rfl⟩,Nat.zero_le _⟩,λb hb=>?_,q⟩
  have e:b=(zz9 s1):=by simpa using hb
  subst e;exact I1.kJ (zzE _) (I1.aU.fresh (zzE _))
 cases ha:z.cps.all (·<128)
 ·exact wpAny_pyIter_wide ha (fin _ (.inr rfl))
 ·exact wpAny_pyIter_ascii ha (fin _ (.inl rfl))
def gY(hc:X.calm=true):bF X (.type "list") (λxs H Q=>∃z,xs=[.str z]/\z.length<=sizeLine/\∀l,H l=none->Q (.ref l) (upd H l (.lst (z.cps.toList.map λc=>V.str ⟨#[c]⟩)))):=by
 intro aa s σ H xs us Q I r h;obtain⟨z,rfl,hz,q⟩:=h
 obtain⟨u,rfl,rx⟩:=vals1 r
 obtain⟨t,rfl⟩:=rx
 refine call_list_str (I.ok.hd hc) z t (λh' tk dR c' kp e ha=>?_) hz;have rv:Vals (z.cps.toList.map λc=>V.str ⟨#[c]⟩) dR.toList:=by
  refine mr _ _ (by rw [zzl,zzd,zzd];exact ha.1.symm) λj x u h1 h2=>?_
  obtain⟨c,t',hc,rfl⟩:=ha.2 j u (by rw [<-Array.getElem?_toList];exact h2)
  rw [zzQ,Array.getElem?_toList,hc] at h1;have e1:V.str ⟨#[c]⟩=x:=zzq h1
  subst e1;exact⟨t',rfl⟩
 exact⟨.ref (zz9 s),_,I.laid (t':=tk) kp (zzE _) (show aY X.prog X.w _ h' _ (.lst _) from⟨by rw [zzl];exact hz,dR.toList,c',rv,by simpa using e⟩),rfl,q _ (I.aU.fresh (zzE _))⟩
end
end L2
namespace HT
open PySem PyProof.Rows
end HT
namespace L2
open PySem PySem.Spec PyProof.Rows
variable{X:Cx}
section
end
section
end
section
variable{a b:Expr}
end
section
end
section
variable{κ:Type} [DecidableEq κ]
noncomputable def gA(ai:List (κ×V))(k:κ):Option V:=(ai.find? λkv=>decide (kv.1=k)).map (·.2)
noncomputable def putK(ai:List (κ×V))(k:κ)(v:V):List (κ×V):=
 if(ai.any λkv=>decide (kv.1=k))=true then ai.map (λkv=>if kv.1=k then(kv.1,v) else kv) else ai++[(k,v)]
def ee{p:κ×V}{r:List (κ×V)}{k:κ}(e:p.1=k):gA (p::r) k=some p.2:=by simp [gA,List.find?_cons,e]
def eF{p:κ×V}{r:List (κ×V)}{k:κ}(e:¬p.1=k):gA (p::r) k=gA r k:=by simp [gA,List.find?_cons,e]
theorem pg(k:κ):∀ai:List (κ×V),(ai.any λkv=>decide (kv.1=k))=(gA ai k).isSome
 |[]=>rfl
 |p::r=>by
  rw [List.any_cons]
  by_cases e:p.1=k
  ·simp! [ee e,zzh e,Bool.true_or,Option.isSome_some]
  ·rw [eF e,zz0 e,Bool.false_or];exact pg k r
def ia(ai:List (κ×V))(k:κ)(v:V):(putK ai k v).length<=ai.length+1:=by
 unfold putK;split
 ·rw [zzl];omega
 ·rw [zzM,zzL,List.length_nil];omega
def kh.vi{o:Option V}{u:Option Value}(r:kh o u):o.isSome=u.isSome:=by
 cases o with
 |none=>cases u with
  |none=>rfl
  |some _=>exact(show False from r).elim
 |some _=>cases u with
  |none=>exact(show False from r).elim
  |some _=>rfl
def kh.getD{o:Option V}{u:Option Value}{d:V}{d':Value}(r:kh o u)(rd:RelV d d'):RelV (o.getD d) (u.getD d'):=by
 cases o with
 |none=>cases u with
  |none=>exact rd
  |some _=>exact(show False from r).elim
 |some _=>cases u with
  |none=>exact(show False from r).elim
  |some _=>exact r
def KV.val{ai:List (κ×V)}{vs:List (κ×Value)}(r:KV ai vs)(k:κ):kh (gA ai k) (valueAt vs k):=by
 unfold KV at r
 induction r with
 |nil=>exact True.intro
 |@cons p q ps qs h t ih=>
  obtain⟨h1,h2⟩:=h
  by_cases e:p.1=k
  ·have e':q.1=k:=h1.symm.trans e
   have b:valueAt (q::qs) k=some q.2:=by simp [valueAt,List.find?_cons,e']
   rw [ee e,b];exact h2
  ·have e':¬q.1=k:=λz=>e (h1.trans z)
   have b:valueAt (q::qs) k=valueAt qs k:=by simp [valueAt,List.find?_cons,e']
   rw [eF e,b];exact ih
def KV.any{ai:List (κ×V)}{vs:List (κ×Value)}(r:KV ai vs)(k:κ):(ai.any λkv=>decide (kv.1=k))=vs.any λkv=>decide (kv.1=k):=by
 unfold KV at r
 induction r with
 |nil=>rfl
 |cons h t ih=>rw [List.any_cons,List.any_cons,ih,h.1]
def KV.D2{ai:List (κ×V)}{vs:List (κ×Value)}(r:KV ai vs)(k:κ){y:V}{u:Value}(ry:RelV y u):
 KV (ai.map λkv=>if kv.1=k then(kv.1,y) else kv) (vs.map λkv=>if kv.1=k then(kv.1,u) else kv):=by
 unfold KV at r⊢
 induction r with
 |nil=>exact .nil
 |@cons p q ps qs h t ih=>
  rw [zzF,zzF];refine .cons ?_ ih;obtain⟨h1,h2⟩:=h
  by_cases e:p.1=k
  ·rw [if_pos e,if_pos (h1.symm.trans e)];exact⟨h1,ry⟩
  ·rw [if_neg e,if_neg (λz=>e (h1.trans z))];exact⟨h1,h2⟩
def KV.put{ai:List (κ×V)}{vs:List (κ×Value)}(r:KV ai vs)(k:κ){y:V}{u:Value}(ry:RelV y u):KV (putK ai k y) (stored vs k u):=by
 unfold putK stored;rw [r.any k]
 by_cases e:(vs.any λkv=>decide (kv.1=k))=true
 ·rw [if_pos e,if_pos e];exact r.D2 k ry
 ·rw [if_neg e,if_neg e];exact Paired.snoc r ⟨rfl,ry⟩
def KV.length{ai:List (κ×V)}{vs:List (κ×Value)}(r:KV ai vs):ai.length=vs.length:=Paired.length r
end
def xX{P:Program}{w:World}{k:Key}{u:Value}(r:RelV (kV k) u):(aN P w).is k u=true:=by
 cases k with
 |inl i=>obtain⟨t,e⟩:=(show∃t,u=Value.int i t from r);subst e;exact oK P w i t
 |inr x=>obtain⟨t,e⟩:=(show∃t,u=Value.str x t from r);subst e;exact o7 P w x t
theorem mf{P:Program}{w:World}:∀{ks:List Key} {us:List Value},Vals (ks.map kV) us->ItemsAre (aN P w) ks us
 |[],_,r=>by rw [List.map_nil] at r;cases r;exact .nil
 |k::ks,_,r=>by
  rw [zzF] at r;cases r with
  |cons h t=>exact .cons (xX h) (mf t)
abbrev KT(H:Hp):List (List Key×V)->List (List Key×Addr×Value)->Prop:=Paired λp q=>p.1=q.1/\H q.2.1=some (.tup (p.1.map kV))/\RelV p.2 q.2.2
def KT.val{H:Hp}{ai:List (List Key×V)}{xs:List (List Key×Addr×Value)}(r:KT H ai xs)(k:List Key):kh (gA ai k) ((atKey xs k).map (·.2)):=by
 induction r with
 |nil=>exact True.intro
 |@cons p q ps qs h t ih=>
  obtain⟨h1,_,h2⟩:=h
  by_cases e:p.1=k
  ·have e':q.1=k:=h1.symm.trans e
   have b:atKey (q::qs) k=some q.2:=by simp [atKey,List.find?_cons,e']
   rw [ee e,b];exact h2
  ·have e':¬q.1=k:=λz=>e (h1.trans z)
   have b:atKey (q::qs) k=atKey qs k:=by simp [atKey,List.find?_cons,e']
   rw [eF e,b];exact ih
def KT.D2{H:Hp}{ai:List (List Key×V)}{xs:List (List Key×Addr×Value)}(r:KT H ai xs)(k:List Key){y:V}{u:Value}(ry:RelV y u):
 KT H (ai.map λkv=>if kv.1=k then(kv.1,y) else kv) (xs.map (putAt k u)):=by
 induction r with
 |nil=>exact .nil
 |@cons p q ps qs h t ih=>
  rw [zzF,zzF];refine .cons ?_ ih;obtain⟨h1,h2,h3⟩:=h
  unfold putAt
  by_cases e:p.1=k
  ·rw [if_pos e,if_pos (h1.symm.trans e)];exact⟨h1,h2,ry⟩
  ·rw [if_neg e,if_neg (λz=>e (h1.trans z))];exact⟨h1,h2,h3⟩
def KT.put{H:Hp}{ai:List (List Key×V)}{xs:List (List Key×Addr×Value)}(r:KT H ai xs)(k:List Key){b:Addr}{y:V}{u:Value}(hb:H b=some (.tup (k.map kV)))(ry:RelV y u):
 KT H (putK ai k y) (storedH xs k b u):=by
 have e:(ai.any λkv=>decide (kv.1=k))=(atKey xs k).isSome:=by
  rw [pg,(r.val k).vi,Option.isSome_map]
 unfold putK storedH;rw [e]
 by_cases q:(atKey xs k).isSome=true
 ·rw [if_pos q,if_pos q];exact r.D2 k ry
 ·rw [if_neg q,if_neg q];exact Paired.snoc r ⟨rfl,hb,ry⟩
def KT.keeps{H H':Hp}{ai:List (List Key×V)}{xs:List (List Key×Addr×Value)}(r:KT H ai xs)(ht:∀b ys,H b=some (.tup ys)->H' b=some (.tup ys)):KT H' ai xs:=
 Paired.Bt r λ_ _ z=>⟨z.1,ht _ _ z.2.1,z.2.2⟩
section
variable{P:Program}{w:World}{H:Hp}{h:Heap}{a:Addr}
def BO{u:HO}(ok:fK P w H h)(e:Rd H a u):aY P w H h a u:=e.ok ok
def xh{ai:List (Key×V)}(ok:fK P w H h)(e:Rd H a (.dK ai)):ai.length<=sizeLine/\(a==sysModules)=false/\∃vs,KV ai vs/\h.DictOf (aN P w) a vs:=
 show aY P w H h a (.dK ai) from BO ok e
def HS{ai:List (Key×V)}(ok:fK P w H h)(e:H a=some (.dK ai)):ai.length<=sizeLine/\(a==sysModules)=false/\∃vs,KV ai vs/\h.DictOf (aN P w) a vs:=xh ok (.inl e)
def ny{ks:List Key}(ok:fK P w H h)(e:H a=some (.tup (ks.map kV))):(tupleKind (aN P w)).is h ks a:=by
 obtain⟨_,ae,r,o,h1,h2,n,h3⟩:=(show aY P w H h a (.tup (ks.map kV)) from ok a _ e)
 exact⟨o,ae.toArray,n,h1,h2,h3,by simpa using mf r⟩
def oV{ai:List (List Key×V)}(ok:fK P w H h)(e:Rd H a (.dT ai)):ai.length<=sizeLine/\(a==sysModules)=false/\
 ∃xs,KT H ai xs/\h.DictOfH (tupleKind (aN P w)) a xs:=by
 obtain⟨z,y,xs,r,o,es,ep,h1,h2,h3,h4,h5⟩:=(show aY P w H h a (.dT ai) from BO ok e)
 refine⟨z,y,xs,r,o,es,ep,h1,h2,h3,h4,λx hx=>?_,h5⟩
 have all:∀{l:List (List Key×V)} {m:List (List Key×Addr×Value)},KT H l m->∀x∈m,(tupleKind (aN P w)).is h x.1 x.2.1:=by
  intro l m q
  induction q with
  |nil=>intro x hx;exact nomatch hx
  |@cons p q ps qs hq t ih=>
   intro x hx;rcases zzm.mp hx with e|hx
   ·subst e;exact ny ok (by rw [<-hq.1];exact hq.2.1)
   ·exact ih x hx
 exact all r x hx
def IH{ai:List (List Key×V)}(ok:fK P w H h)(e:H a=some (.dT ai)):ai.length<=sizeLine/\(a==sysModules)=false/\
 ∃xs,KT H ai xs/\h.DictOfH (tupleKind (aN P w)) a xs:=oV ok (.inl e)
end
def Ik(H:Hp)(a:Addr)(y:V)(r:Option V):Prop:=
 (∃ai k,Rd H a (.dK ai)/\y=kV k/\r=gA ai k)\/∃ai k b,Rd H a (.dT ai)/\y=.ref b/\H b=some (.tup (k.map kV))/\r=gA ai k
def w9(H:Hp)(a:Addr)(y v:V)(H':Hp):Prop:=
 (∃ai k,H a=some (.dK ai)/\y=kV k/\ai.length<sizeLine/\H'=upd H a (.dK (putK ai k v)))\/
 ∃ai k b,H a=some (.dT ai)/\y=.ref b/\H b=some (.tup (k.map kV))/\ai.length<sizeLine/\H'=upd H a (.dT (putK ai k v))
def w9.k{H:Hp}{a:Addr}{ai:List (Key×V)}{k:Key}{v:V}(e:H a=some (.dK ai))(hl:ai.length<sizeLine):w9 H a (kV k) v (upd H a (.dK (putK ai k v))):=.inl ⟨ai,k,e,rfl,hl,rfl⟩
section
variable{X:Cx}{aa:List (Addr×Obj)}{σ:St}{H:Hp}{s:Shared}{a:Addr}{y v:V}{u r:Value}{A:Around}{E:Value->Shared->Prop}
def Inv.big(I:Inv X aa σ H s):sysModules<(zz9 s):=by
 have h:mainGlobals<(zz9 s):=(I.mod.glob.keeps I.bk).lt
 exact Nat.lt_trans (by decide) h
theorem nj{h':Heap}{t':Nat}{ob:HO}(I:Inv X aa σ H s)(mu:GR (H a))(hs:Heap.SameBut a s.heap h')(he:∃q,h'.get? a=some q)(new:aY X.prog X.w (upd H a ob) h' a ob):
 Inv X aa σ (upd H a ob) {s with heap:=h',toks:=t'}:=
 I.write (x:=a) (e:=a) mu (.inl rfl) (λb q hb z=>(hs.2 b hb).trans z) he new
def D4{P:Program}{w:World}{H':Hp}{h':Heap}{ai:List (Key×V)}{vs:List (Key×Value)}(z:ai.length<=sizeLine)(hd:(a==sysModules)=false)(rel:KV ai vs)(dd:h'.DictOf (aN P w) a vs):
 aY P w H' h' a (.dK ai):=⟨z,hd,vs,rel,dd⟩
def uu{H':Hp}{Q:Unit->Shared->Prop}(hu:A.units+1<cLine)(I:Inv X aa σ H s)(g:w9 H a y v H')(ry:RelV y u)(rv:RelV v r)(h:∀s',Inv X aa σ H' s'->Q () s'):
 wpAny (model X.prog X.w) A (setItem (.ref a) u r) Q E s:=by
 rcases g with⟨ai,k,e,ey,l,eH⟩|⟨ai,k,b,e,ey,eb,l,eH⟩
 ·subst ey eH;obtain⟨z,hd,vs,rel,dd⟩:=HS I.aU e
  have hz:vs.length<=sizeLine:=by rw [<-rel.length];exact z
  have hl:(putK ai k v).length<=sizeLine:=by have:=ia ai k v;omega
  refine wpAny_setItem_pairs (hsz:=hz) (xX ry) dd λh' JG hs=>h _ ?_
  have he:∃q,h'.get? a=some q:=let⟨q,_,_,hq,_⟩:=JG;⟨q,hq⟩
  exact nj I (by rw [e];exact True.intro) hs he (D4 hl hd (rel.put k rv) JG)
 ·subst ey eH;cases(show u=Value.ref b from ry);obtain⟨z,hd,xs,rel,dd⟩:=IH I.aU e
  have hz:xs.length<=sizeLine:=by rw [<-Paired.length rel];exact z
  have hl:(putK ai k v).length<=sizeLine:=by have:=ia ai k v;omega
  refine wpAny_setItem_heap (hsz:=hz) (tupleKind_room_in1 hu) (ny I.aU eb) dd λh' JG hs=>h _ ?_
  obtain⟨q,es,ep,hq,h2,h3,h4,_,h5⟩:=JG
  refine nj I (by rw [e];exact True.intro) hs ⟨q,hq⟩ ⟨hl,hd,_,(rel.put k eb rv).keeps λc ys ec=>?_,q,es,ep,hq,h2,h3,h4,h5⟩
  rw [af (BU ec e (λz=>nomatch z))];exact ec
end
theorem yF{P:Program}{w:World}{H:Hp}(h:Heap)(hb:sysModules<h.objs.size):aY P w H (h.push {cls:=.type "dict",data:=.dict #[]}) h.objs.size (.dK []):=
 ⟨Nat.zero_le _,beq_eq_false_iff_ne.mpr (Ne.symm (zzb hb)),[],.nil,Heap.DictOf.new h⟩
noncomputable def C9:TE:=λ_ H Q=>∀p,H p=none->Q (.ref p) (upd H p (.dK []))
section
variable{X:Cx}{pos:Pos}
theorem x8:PE X (.Dict [] [] pos) C9:=λaa s σ H Q I h=>
 wpAny_Dict_empty ⟨.ref (zz9 s),_,I.laid (a:=(zz9 s)) (o:=.dK []) (t':=s.toks) (λ_ _ q=>zzB _ q) (zzE _) (yF s.heap I.big),rfl,h _ (I.aU.fresh (zzE _))⟩
end
structure M2(X:Cx)(o:Expr)(m:Str)(apos:Pos)(e f:Expr)(ba:Pos):Prop where
 base:attributeBase o m X.env (eval o X.env)=eval o X.env
 OZ:((backTo ba (starEach [e,f] X.env)).all (λx=>!x.1)&&(backToKw ba (keywordEach [] X.env)).all (λx=>x.1.isSome)
  &&decide (([e,f]:List Expr).length+([]:List Keyword).length+(if([]:List Keyword).isEmpty then 0 else 1)<30))=true
 line:(apos.endLine==ba.line)=true
 trees:backTo ba (starEach [e,f] X.env)=[(false,eval e X.env),(false,eval f X.env)]
def Cg(H:Hp)(a:Addr):Prop:=(∃ai,Rd H a (.dK ai))\/∃ai,Rd H a (.dT ai)
def EO{X:Cx}{aa:List (Addr×Obj)}{σ:St}{H:Hp}{s:Shared}{a:Addr}(I:Inv X aa σ H s)(d:Cg H a):
 s.TypeIs (.ref a) "dict"/\(∀b,Value.ref a=.ref b->∃ob,s.heap.get? b=some ob/\ob.dict=none)/\(a==sysModules)=false:=by
 rcases d with⟨ai,e⟩|⟨ai,e⟩
 ·obtain⟨_,hd,vs,_,dd⟩:=xh I.aU e
  refine⟨dd.typeIs,λb q=>?_,hd⟩
  cases q;obtain⟨ob,_,_,h1,h2,_⟩:=dd
  exact⟨ob,h1,h2.2.1⟩
 ·obtain⟨_,hd,xs,_,dd⟩:=oV I.aU e
  refine⟨dd.typeIs,λb q=>?_,hd⟩
  cases q;obtain⟨ob,_,_,h1,h2,_⟩:=dd
  exact⟨ob,h1,h2.2.1⟩
section
variable{X:Cx}{aa:List (Addr×Obj)}{σ:St}{H:Hp}{s:Shared}{a:Addr}{y d:V}{u r:Value}{o:Option V}{A:Around}{E:Value->Shared->Prop}
def Fw{Q:Value->Shared->Prop}(hu:A.units+1<cLine)(I:Inv X aa σ H s)(g:Ik H a y o)(ry:RelV y u)(rd:RelV d r)(h:∀w' s',Inv X aa σ H s'->RelV (o.getD d) w'->Q w' s'):
 wpAny (model X.prog X.w) A (call (.builtin "dict.get") [.ref a,u,r]) Q E s:=by
 rcases g with⟨ai,k,e,ey,l⟩|⟨ai,k,b,e,ey,eb,l⟩
 ·subst ey;obtain⟨z,hd,vs,rel,dd⟩:=xh I.aU e
  refine call_meetsIn PySem.F.slot_dict_get dd.typeIs PySem.F.entry_dict_get (PySem.F.args_dict_get_3 _ _ _) (meets_dict_get_default (aN X.prog X.w) a (xX ry) hd r) ⟨_,dd.mapOf,h _ _ (I.tok _) ?_⟩;rw [l];exact(rel.val k).getD rd
 ·subst ey;cases(show u=Value.ref b from ry);obtain⟨z,hd,xs,rel,dd⟩:=oV I.aU e
  refine call_meetsIn PySem.F.slot_dict_get dd.typeIs PySem.F.entry_dict_get (PySem.F.args_dict_get_3 _ _ _) (meetsH_dict_get_default (tupleKind (aN X.prog X.w)) a b hd r) ⟨tupleKind_room_in1 hu,k,xs,ny I.aU eb,dd,h _ _ (I.tok _) ?_⟩;rw [l];exact(rel.val k).getD rd
end
noncomputable def DU(td ty tx:TE):TE:=λσ H Q=>td σ H λx H1=>∃a,x=.ref a/\Cg H1 a/\ty σ H1 λy H2=>tx σ H2 λz H3=>∃o,Ik H3 a y o/\Q (o.getD z) H3
section
variable{X:Cx}{o e f:Expr}{apos ba:Pos}{td ty tx:TE}
def wD(hu:X.A.units+1<cLine)(ho:PE X o td)(he:PE X e ty)(hf:PE X f tx)(m:M2 X o "get" apos e f ba):PE X (.Call (.Attribute o "get" apos) [e,f] [] ba) (DU td ty tx):=by
 intro aa s σ H Q I h;refine wpAny_Call_method m.base m.OZ m.line PySem.F.plainAttrs_dict PySem.F.slot_dict_get PySem.F.type_dict_get (bh (ho aa s σ H _ I h) λu s1 ⟨x,H1,I1,rx,a,ex,d,q1⟩=>?_)
 subst ex;obtain rfl:u=Value.ref a:=rx
 obtain⟨t1,t2,_⟩:=EO I1 d
 refine⟨t1,t2,?_⟩;rw [m.trees];refine Calls.callWith_builtin rfl (Calls.evalArgs_plain (Calls.spliced_cons (bh (he aa s1 σ H1 _ I1 q1) λiv s2 ⟨y,H2,I2,ry,q2⟩=>
  Calls.spliced_cons (bh (hf aa s2 σ H2 _ I2 q2) λfv s3 ⟨z,H3,I3,rz,ov,g,q3⟩=>Calls.spliced_nil ?_))))
 exact Fw hu I3 g ry rz λw' s4 I4 fT=>⟨_,H3,I4,fT,q3⟩
end
end L2
namespace Att
open PySem PySem.W PySem.Calls PyProof.Rows
section
end
end Att
namespace L2
open PySem PySem.Spec PyProof.Rows
section
variable{prog:Program}{w:World}{κ:Type} [DecidableEq κ]{knd:HeapKind prog w κ}{A:Around}{E:Value->Shared->Prop}{s:Shared}{d a:Addr}{xs:List (κ×Addr×Value)}
theorem nk(d:Addr)(lo:(d==sysModules)=false):MeetsIn prog w (Builtin.«dict.__len__» ⟨[.ref d],[]⟩) (λ_ R s=>∃xs,s.heap.DictOfH knd d xs/\R (.ok (.ret (.int xs.length s.toks))) {s with toks:=s.toks+1}):=
 .of_wp λA R s ⟨xs,⟨o,es,ep,h1,_,h2,h3,_⟩,h⟩=>by
  show wpAny _ _ (dictSize d>>=λn=>_) _ _ s
  unfold dictSize;refine zzA (zzA (wpAny_dictEntries h1 h2 (zzG (zzA (wpAny_pendingCount_other lo (wpAny_ret_mkInt ?_))))));rw [Nat.add_zero,size_of_entries h3];exact h
def Di{Q:Value->Shared->Prop}(lo:(d==sysModules)=false)(hm:s.heap.DictOfH knd d xs)(hf:(xs.length:Int)<2^63)(h:Q (.int xs.length (s.toks+1)) {s with toks:=s.toks+1+1}):wpAny (model prog w) A (call (.builtin "len") [.ref d]) Q E s:=by
 refine Calls.call_function_entry kind_len plain_len entry_len (args_len1 _) ?_;unfold Builtin.«len»;refine zzA (m:=oneArg "len" _) (zzG (zzA (m:=callSpecial? (.ref d) (Str.ofString "__len__")) (wpAny_callSpecial?_slot (name:=Str.ofString "__len__") hm.typeIs F.slot_dict_len
  (call_meetsIn F.slot_dict_len hm.typeIs F.entry_dict_len (F.args_dict_len_1 _) (nk (knd:=knd) d lo) ⟨xs,hm,?_⟩))))
 show wpAny _ _ (holding _ _>>=λz=>_) _ _ {s with toks:=s.toks+1}
 refine zzA (wpAny_holding (zzG (zzA (wpAny_letGo ?_))));show wpAny _ _ (if((xs.length:Nat):Int)<0 then _ else(if((xs.length:Nat):Int)>=2^63 then _ else _)) _ _ _;rw [if_neg (by omega),if_neg (by omega)];exact zzA (wpAny_mkInt (zzG ⟨_,rfl,h⟩))
def Bj{o:Obj}{es:Array DictEntry}{ep:Nat}{Q:Value->Shared->Prop}(lo:(d==sysModules)=false)(h1:s.heap.get? d=some o)(hc:o.ExactDict)(h2:o.data=.dict es ep)
 (hQ:Q (.ref (zz9 s)) {s with heap:=s.heap.push {cls:=.type "dict_keyiterator",data:=.fields #[.ref d,.int 0 0,.int es.size 0,.int ep 0]}}):wpAny (model prog w) A (pyIter (.ref d)) Q E s:=by
 have T:s.TypeIs (.ref d) "dict":=⟨o,h1,hc.1⟩
 refine wpAny_pyIter_slot T F.slot_dict_iter (wpAny_call_entry F.slot_dict_iter T F.entry_dict_iter ?_ (F.args_dict_iter_1 _));unfold Builtin.«dict.__iter__» Builtin.Dict.dictSlotNone;refine zzA (zzA (wpAny_notOrdered_dict T ?_));show wpAny _ _ (pure (Value.ref d):Sem Value) _ _ s;refine zzG ?_;show wpAny _ _ (Builtin.Dict.showsAll d>>=λ_=>_) _ _ s;unfold Builtin.Dict.showsAll;rw [if_neg (by rw [lo];exact zzf)];refine zzA (zzG (zzA (wpAny_dictEntries h1 h2 (zzA (wpAny_dictEpoch h1 h2 ?_)))));refine zzA (wpAny_newObj_type (zzG ⟨_,rfl,"dict_keyiterator",_,⟨_,zzX _ rfl,rfl⟩,F.slot_dict_keyiterator_next.lookup,?_⟩))
 simpa [rawInt] using hQ
def Aa{it:Addr}{i ep:Nat}{o:Obj}{es:Array DictEntry}{Q:Option Value->Shared->Prop}(st:s.heap.IsKeyIter it d i es.size ep)(h1:s.heap.get? d=some o)(h2:o.data=.dict es ep)(hi:i<es.size)
 (hQ:∀h',h'.IsKeyIter it d (i+1) es.size ep->Heap.SameBut it s.heap h'->Q (some es[i].key) {s with heap:=h'}):wpAny (model prog w) A (pyNext (.ref it)) Q E s:=by
 obtain⟨oi,g1,g2,g3⟩:=id st
 have own:Builtin.Dict_items.ownsTuple "dict_keyiterator"=false:=by decide
 unfold pyNext;refine zzA (wpAny_attempt (wpAny_callSpecial?_slot (name:=Str.ofString "__next__") st.typeIs F.slot_dict_keyiterator_next (wpAny_call_entry F.slot_dict_keyiterator_next st.typeIs F.entry_dict_keyiterator_next ?_ (F.args_dict_keyiterator_next_1 _))));refine zzA (zzG (zzA (zzA ?_)))
 first|refine zzA (wpAny_typeNameOfWhole_keyiter st.typeIs (zzG (zzA (wpAny_fieldsOf g1 g3 ?_))))|refine zzA (wpAny_typeNameOf_keyiter st.typeIs (zzG (zzA (wpAny_fieldsOf g1 g3 ?_))))
 simp! [own,zze,if_false];show wpAny _ _ (if(Value.ref d==Value.none)=true then _ else _:Sem _) _ _ s;rw [if_neg (show¬((Value.ref d==Value.none)=true) from zzf)];refine zzA (zzG (zzA (wpAny_dictEntries h1 h2 ?_)));rw [if_neg (by simp)];refine zzA (zzG (zzA (wpAny_dictEpoch h1 h2 ?_)));rw [if_neg (by simp)];refine zzG ?_;simp! [show¬((i:Int)<0) from by omega,if_false,zz4,zz2 hi];refine zzA ?_
 first|refine zzA (wpAny_typeNameOfWhole_keyiter st.typeIs (zzG (zzA (wpAny_isOneOf_keyiter st.typeIs ?_))))|refine zzA (wpAny_typeNameOf_keyiter st.typeIs (zzG (zzA (wpAny_isOneOf_keyiter st.typeIs ?_))))
 show wpAny _ _ (setField (.ref it) 1 (rawInt ((i:Int)+1))>>=λ_=>_) _ _ s
 have fU:(s.heap.update it (Obj.mapFields (·.setIfInBounds 1 (rawInt ((i:Int)+1))))).IsKeyIter it d (i+1) es.size ep:=
  ⟨_,Heap.get?_update_self _ g1 (Obj.isFreed_of_fields (Obj.data_mapFields g3 _)),(Obj.cls_mapFields ..).trans g2,by rw [Obj.data_mapFields g3];simp [rawInt]⟩
 refine zzA (wpAny_setField g1 g3 (by simp) (zzA (wpAny_holding (zzA (wpAny_isOneOf_keyiter (s:={s with heap:=s.heap.update it (Obj.mapFields (·.setIfInBounds 1 (rawInt ((i:Int)+1))))}) fU.typeIs ?_)))));show wpAny _ _ (pure es[i].key:Sem Value) _ _ _;exact zzG (zzG ⟨_,rfl,zzG (hQ _ fU (zzu ..))⟩)
def E8{it:Addr}{i ep:Nat}{o:Obj}{es:Array DictEntry}{Q:Option Value->Shared->Prop}(hh:A.handled=none)(st:s.heap.IsKeyIter it d i es.size ep)(h1:s.heap.get? d=some o)(h2:o.data=.dict es ep)(hi:es.size<=i)
 (hQ:∀h',Heap.ExtBut it s.heap h'->Q none {s with heap:=h'}):wpAny (model prog w) A (pyNext (.ref it)) Q E s:=by
 obtain⟨oi,g1,g2,g3⟩:=id st
 have own:Builtin.Dict_items.ownsTuple "dict_keyiterator"=false:=by decide
 unfold pyNext;refine zzA (wpAny_attempt (wpAny_callSpecial?_slot (name:=Str.ofString "__next__") st.typeIs F.slot_dict_keyiterator_next (wpAny_call_entry F.slot_dict_keyiterator_next st.typeIs F.entry_dict_keyiterator_next ?_ (F.args_dict_keyiterator_next_1 _))));refine zzA (zzG (zzA (zzA ?_)))
 first|refine zzA (wpAny_typeNameOfWhole_keyiter st.typeIs (zzG (zzA (wpAny_fieldsOf g1 g3 ?_))))|refine zzA (wpAny_typeNameOf_keyiter st.typeIs (zzG (zzA (wpAny_fieldsOf g1 g3 ?_))))
 simp! [own,zze,if_false];show wpAny _ _ (if(Value.ref d==Value.none)=true then _ else _:Sem _) _ _ s;rw [if_neg (show¬((Value.ref d==Value.none)=true) from zzf)];refine zzA (zzG (zzA (wpAny_dictEntries h1 h2 ?_)));rw [if_neg (by simp)];refine zzA (zzG (zzA (wpAny_dictEpoch h1 h2 ?_)));rw [if_neg (by simp)];refine zzG ?_;simp! [show¬((i:Int)<0) from by omega,if_false,zz4,Array.getElem?_eq_none hi];refine zzA ?_
 first|refine zzA (wpAny_typeNameOfWhole_keyiter st.typeIs (zzG ?_))|refine zzA (wpAny_typeNameOf_keyiter st.typeIs (zzG ?_))
 show wpAny _ _ (setField (.ref it) 0 .none>>=λ_=>_) _ _ s
 refine zzA (wpAny_setField g1 g3 (by simp) ?_);show wpAny _ _ (newExc (.type "StopIteration") []>>=λ_=>_) _ _ _
 refine zzA ?_;simp! [newExc,newTuple];refine zzA (wpAny_newObj_type (zzA (m:=firstArgMember _ _) (wpAny_of_eq (a:=Value.none) (by first|rfl|(simp! [firstArgMember];rfl)) (wpAny_newObj_type ?_ (by size_fits)))) (by size_fits));simp! [raiseNew];refine zzA (wpAny_handled ?_);rw [show A.in1.handled=none from hh];refine zzA (zzG (wpAny_throw ?_));refine zzA (wpAny_isInstance (T:="StopIteration") (b:=true) ⟨_,zzX _ rfl,rfl⟩ isSubtype_stop ?_);exact zzG (hQ _ (((zzu ..).extBut.push _).push _))
end
end L2
namespace Cw
open PySem L2
noncomputable def sgn(c:Nat):Bool:=c==35||(48<=c&&c<=57)
noncomputable def Pd:V->Bool
 |.str z=>decide (1<=z.cps.toList.length)&&decide (z.cps.toList.length<=12)&&z.cps.toList.all sgn
 |_=>false
noncomputable def Hw:V->Nat
 |.str z=>z.cps.toList.length
 |_=>0
section
variable{K:zz8}
abbrev yU(K:zz8)(t n:String)(b:Bool):Prop:=PySem.W.kitOne K (.type t) (.type n)=some b
def wz{K:zz8}(t:String):yU K t t true:=by unfold yU PySem.W.kitOne;rw [if_pos (by simp)]
def yg{t n:String}{b:Bool}(h0:(Value.type t==Value.type n)=false)(h1:PySem.W.kitMeta n=true)(h2:(fastBuiltinMro t).map (·.contains (Value.type n))=some b):yU K t n b:=by
 unfold yU PySem.W.kitOne;rw [if_neg (by rw [h0];exact zzf)];show(if PySem.W.kitMeta n=true then PySem.W.subIn K (.type t) (.type n) else none)=some b
 rw [if_pos h1];exact h2
end
abbrev N1:Str:="#0123456789"
end Cw
namespace L2
open PySem PySem.Spec PyProof.Rows
def KT.len{H:Hp}{ai:List (List Key×V)}{xs:List (List Key×Addr×Value)}(r:KT H ai xs):ai.length=xs.length:=Paired.length r
section
variable{X:Cx}{aa:List (Addr×Obj)}{σ:St}{H:Hp}{s:Shared}{a:Addr}{ai:List (List Key×V)}{A:Around}{E:Value->Shared->Prop}
def E6{Q:Value->Shared->Prop}(I:Inv X aa σ H s)(e:Rd H a (.dT ai))(h:∀t s',Inv X aa σ H s'->Q (.int ai.length t) s'):wpAny (model X.prog X.w) A (call (.builtin "len") [.ref a]) Q E s:=by
 obtain⟨z,lo,xs,rel,dd⟩:=oV I.aU e
 refine Di lo dd (by rw [<-rel.len];rw [sizeLine_eq] at z;omega) ?_;rw [<-rel.len];exact h _ _ (I.tok _)
def Inv.freeze(I:Inv X aa σ H s)(e:H a=some (.dT ai)):∃o,Inv X aa σ (upd H a (.cV o (.dT ai))) s:=by
 obtain⟨z,lo,xs,rel,o,es,ep,h1,h2,h3,h4,h5⟩:=(show aY X.prog X.w H s.heap a (.dT ai) from I.aU a _ e)
 refine⟨o,nj (h':=s.heap) (t':=s.toks) I (by rw [e];exact True.intro) ⟨rfl,λ_ _=>rfl⟩ ⟨o,h1⟩ ⟨h1,z,lo,xs,?_,o,es,ep,h1,h2,h3,h4,h5⟩⟩
 exact KT.keeps (H:=H) rel λc ys ec=>by rw [af (BU ec e (λz=>nomatch z))];exact ec
end
noncomputable def KW(a:Addr)(o:Obj)(ai:List (List Key×V)):It:=
 ⟨λi H=>H a=some (.cV o (.dT ai))/\i<ai.length,λi H x H'=>H'=H/\∃b k v,x=.ref b/\ai[i]?=some (k,v)/\H b=some (.tup (k.map kV)),λi H=>H a=some (.cV o (.dT ai))/\ai.length<=i⟩
def dO{α β:Type}{R:α->β->Prop}{l:List α}{m:List β}(r:Paired R l m):∀{i:Nat} {p:α} {q:β},l[i]?=some p->m[i]?=some q->R p q:=by
 induction r with
 |nil=>intro i p q h;simp at h
 |cons h t ih=>
  intro i p q h1 h2;cases i with
  |zero=>simp at h1 h2;subst h1 h2;exact h
  |succ i=>simp at h1 h2;exact ih h1 h2
def Ig{P:Program}{w:World}{H:Hp}{h:Heap}{a:Addr}{ai:List (List Key×V)}(x:aY P w H h a (.dT ai)):(a==sysModules)=false/\(ai.map (·.1)).Nodup/\∃o es ep,h.get? a=some o/\o.ExactDict/\o.data=.dict es ep/\es.size=ai.length/\∀(i:Nat) (hi:i<es.size),∃b k v,es[i].key=.ref b/\ai[i]?=some (k,v)/\H b=some (.tup (k.map kV))/\RelV v es[i].val:=by
 obtain⟨z,lo,xs,rel,o,es,ep,h1,h2,h3,h4,h5⟩:=x
 have hl:es.size=xs.length:=size_of_entries h4
 have hx:ai.length=xs.length:=Paired.length rel
 have ks:ai.map (·.1)=xs.map (·.1):=by
  clear hl hx h4 h5 z
  induction rel with
  |nil=>rfl
  |cons h t ih=>rw [zzF,zzF,h.1,ih]
 refine⟨lo,ks▸h5,o,es,ep,h1,h2,h3,hl.trans hx.symm,λi hi=>?_⟩
 have e1:es[i]?=(xs[i]?).map (entryOfKey (tupleKind (aN P w))):=entry_at h4 i
 rw [zzg (show i<xs.length by omega),zz2 hi] at e1;have q:=dO rel (zzg (show i<ai.length by omega)) (zzg (show i<xs.length by omega))
 rw [zzq e1];exact⟨_,_,_,rfl,zzg (show i<ai.length by omega),q.2.1,q.2.2⟩
def iY{X:Cx}{aa:List (Addr×Obj)}{σ:St}{H:Hp}{s:Shared}{a:Addr}{o:Obj}{ai:List (List Key×V)}(I:Inv X aa σ H s)(e:H a=some (.cV o (.dT ai))):
 (a==sysModules)=false/\s.heap.get? a=some o/\o.ExactDict/\∃es ep,o.data=.dict es ep/\es.size=ai.length/\∀(i:Nat) (h:i<es.size),∃b k v,es[i].key=.ref b/\ai[i]?=some (k,v)/\H b=some (.tup (k.map kV)):=by
 obtain⟨h0,ok⟩:=(show aY X.prog X.w H s.heap a (.cV o (.dT ai)) from I.aU a _ e)
 obtain⟨lo,_,o',es,ep,h1,h2,h3,hl,hk⟩:=Ig ok
 rw [h0] at h1;cases h1;exact⟨lo,h0,h2,es,ep,h3,hl,λi hi=>let⟨b,k,v,e1,e2,e3,_⟩:=hk i hi;⟨b,k,v,e1,e2,e3⟩⟩
def uh{P:Program}{w:World}{K:zz8}{tg:Expr}{a it:Addr}{o:Obj}{es:Array DictEntry}{ep:Nat}{ai:List (List Key×V)}(hd:o.data=.dict es ep)(hl:es.size=ai.length):
 Turn P w K tg (KW a o ai) [it] it (λi h=>h.IsKeyIter it a i es.size ep) where
 mem:=by simp
 obj:=λi h st b hb=>by
  have e:b=it:=by simpa using hb
  subst e;obtain⟨q,e,c,d⟩:=st
  exact⟨q,e,λv z=>by rw [d] at z;cases z⟩
 keep:=λi h h' st k=>st.at λo e=>k it (by simp) o e
 item:=by
  intro X hP hw hK hc i aa s σ H E I hf st hg;subst hP hw hK;obtain⟨g1,g2⟩:=hg
  obtain⟨lo,h0,hx,es',ep',h3,yV,hks⟩:=iY I g1
  rw [hd] at h3;cases h3;obtain⟨f0,f1,f2,f3,f4,f5⟩:=hf it (by simp)
  have hi:i<es.size:=by omega
  refine Aa st h0 hd hi λh' fU sb=>?_
  obtain⟨b,k,v,e1,e2,e3⟩:=hks i hi
  have I1:Inv X aa σ H {s with heap:=h'}:=I.turned (t':=s.toks) (λb o hb e=>(sb.2 b hb).trans e) f0 f1 f3 f4 f5
  obtain⟨q,e,c,d⟩:=id fU
  refine⟨_,rfl,oF (s:={s with heap:=h'}) e c d (by decide) ⟨.ref b,H,I1,?_,⟨rfl,b,k,v,rfl,e2,e3⟩,fU,λb hb=>(hf b hb).1⟩⟩
  rw [e1];exact rfl
 done:=by
  intro X hP hw hK hc i aa s σ H E I hf st hg;subst hP hw hK;obtain⟨g1,g2⟩:=hg
  obtain⟨lo,h0,hx,es',ep',h3,yV,hks⟩:=iY I g1
  rw [hd] at h3;cases h3;obtain⟨f0,f1,f2,f3,f4,f5⟩:=hf it (by simp)
  exact E8 (I.ok.hd hc) st h0 hd (by omega) λh' eb=>⟨rfl,I.turned (t':=s.toks) (λb o hb e=>eb b o hb e) f0 f1 f3 f4 f5⟩
 self:=λ_ _ _ _ _ st h=>wpAny_pyIter_keyiter st h
noncomputable def KQ(tl:TE):TI:=λσ H R=>tl σ H λx H1=>∃a o ai,x=.ref a/\H1 a=some (.cV o (.dT ai))/\R (KW a o ai) H1
section
variable{X:Cx}{o e:Expr}
def Ei{tg l:Expr}{tl:TE}(hl:PE X l tl):PI X tg l (KQ tl):=by
 intro aa s σ H R I h;refine bh (hl aa s σ H _ I h) λv s1 ⟨x,H1,I1,r1,q1⟩=>?_
 obtain⟨a,o,ai,e,hq,q⟩:=q1
 subst e;cases r1;obtain⟨lo,h0,hx,es,ep,h3,yV,hks⟩:=iY I1 hq
 refine Bj lo h0 hx h3 ?_;refine⟨(zz9 s1),[(zz9 s1)],_,_,H1,rfl,I1.kept (t':=s1.toks) λb o e=>zzB _ e,uh h3 yV,⟨_,zzX _ rfl,rfl,rfl⟩,λb hb=>?_,q⟩
 have e:b=(zz9 s1):=by simpa using hb
 subst e;exact I1.kJ (zzE _) (I1.aU.fresh (zzE _))
end
end L2
namespace L2
open PySem PySem.Spec PyProof.Rows PySem.W
noncomputable def ay{α:Type}(lt:Nat->Nat->Bool):KasT α->α
 |.ret a=>a
 |.ask i j k=>ay lt (k (lt i j))
def bS{α:Type}(n:Nat)(R:α->Prop):KasT α->Prop
 |.ret a=>R a
 |.ask i j k=>i<n/\j<n/\∀b,bS n R (k b)
theorem bS.bind{α β:Type}{n:Nat}{R:α->Prop}{R':β->Prop}{f:α->KasT β}(hf:∀a,R a->bS n R' (f a)):∀(t:KasT α),bS n R t->bS n R' (t.bind f)
 |.ret a,h=>hf a h
 |.ask i j k,h=>⟨h.1,h.2.1,λb=>bS.bind hf (k b) (h.2.2 b)⟩
theorem bS.run{α:Type}{n:Nat}{R:α->Prop}(lt:Nat->Nat->Bool):∀(t:KasT α),bS n R t->R (ay lt t)
 |.ret a,h=>h
 |.ask i j k,h=>bS.run lt (k (lt i j)) (h.2.2 _)
theorem xo{α:Type}{n:Nat}{R:α->Prop}{cmp:Nat->Nat->(Bool->Shared->Prop)->Shared->Prop}{lt:Nat->Nat->Bool}{Q:α->Shared->Prop}{s:Shared}
 (hc:∀i j C,i<n->j<n->C (lt i j) s->cmp i j C s):∀(t:KasT α),bS n R t->Q (ay lt t) s->t.kasWp cmp Q s
 |.ret a,_,h=>h
 |.ask i j k,a,h=>hc i j _ a.1 a.2.1 (xo hc (k (lt i j)) (a.2.2 _) h)
abbrev Pm(n:Nat)(p:Array Nat):Prop:=p.toList.Perm (List.range n)
def Pm.lt{n:Nat}{p:Array Nat}(h:Pm n p)(h0:0<n)(i:Nat):p.getD i 0<n:=by
 rw [Array.getD_eq_getD_getElem?];cases e:p[i]? with
 |none=>exact h0
 |some x=>
  have:x∈p.toList:=by rw [Array.mem_toList_iff];exact Array.mem_of_getElem? e
  exact List.mem_range.mp (h.mem_iff.mp this)
def Pm.rev{n:Nat}{p:Array Nat}(h:Pm n p)(i j:Nat):Pm n (kas_rev p i j):=(mirror_perm p i j _).toList.trans h
def Pm.N8{n:Nat}{p:Array Nat}(h:Pm n p)(i j:Nat):Pm n (bubble p i j):=(bubble_perm p i j).toList.trans h
section
variable{n:Nat}(h0:0<n)
include h0
theorem i4{p:Array Nat}(h:Pm n p):∀f m,bS n (λ_=>True) (kas_asc p f m)
 |0,m=>trivial
 |f+1,m=>⟨h.lt h0 _,h.lt h0 _,λb=>by dsimp only;split;exact trivial;exact i4 h f (m+1)⟩
theorem eX:∀f (p:Array Nat) m q,Pm n p->bS n (λr=>Pm n r.1) (kas_desc f p m q)
 |0,p,m,q,h=>h
 |f+1,p,m,q,h=>⟨h.lt h0 _,h.lt h0 _,λb=>by
  cases b with
  |true=>
   dsimp only;rw [if_pos rfl];split
   ·exact eX f _ _ _ (h.rev _ _)
   ·exact eX f _ _ _ h
  |false=>
   dsimp only;rw [if_neg (by simp)];exact⟨h.lt h0 _,h.lt h0 _,λb=>by dsimp only;split;exact h;exact eX f _ _ _ h⟩⟩
def lC{p:Array Nat}(h:Pm n p)(m r:Nat):bS n (λr=>Pm n r.2) (kas_tail3 m r p):=by
 unfold kas_tail3;refine bS.bind (R:=λ_=>True) (λa _=>?_) _ (i4 h0 (h.rev _ _) _ _);exact h.rev 0 m
def mn{p:Array Nat}(h:Pm n p)(m r:Nat):bS n (λr=>Pm n r.2) (kas_descPart m r p):=bS.bind (λa ha=>by
 split
 ·exact lC h0 (Pm.rev ha _ _) _ _
 ·exact lC h0 ha _ _) _ (eX h0 _ _ _ _ h)
def qY{p:Array Nat}(h:Pm n p)(r:Nat):bS n (λr=>Pm n r.2) (kas_count r p):=bS.bind (λa _=>by
 split
 ·exact h
 ·split
  ·exact⟨h.lt h0 _,h.lt h0 _,λb=>by dsimp only;split;exact h;exact mn h0 (h.rev _ _) _ _⟩
  ·exact mn h0 h _ _) _ (i4 h0 h _ _)
theorem fF{p:Array Nat}(h:Pm n p)(k:Nat):∀f l r,bS n (λ_=>True) (kas_place p k f l r)
 |0,l,r=>trivial
 |f+1,l,r=>by
  unfold kas_place;split
  ·exact trivial
  ·exact⟨h.lt h0 _,h.lt h0 _,λb=>by dsimp only;split;exact fF h k f _ _;exact fF h k f _ _⟩
theorem pJ:∀f (p:Array Nat) k,Pm n p->bS n (Pm n) (kas_bin f p k)
 |0,p,k,h=>h
 |f+1,p,k,h=>bS.bind (λl _=>pJ f _ _ (h.N8 _ _)) _ (fF h0 h k _ _ _)
def lW:bS n (Pm n) (kas_sort n):=bS.bind (λa ha=>by
 split
 ·exact pJ h0 _ _ _ ha
 ·exact ha) _ (qY h0 (List.Perm.refl _) n)
end
noncomputable def gV(n:Nat)(lt:Nat->Nat->Bool):List Nat:=(ay lt (kas_sort n)).toList
def eG{n:Nat}(h:0<n)(lt:Nat->Nat->Bool):(gV n lt).Perm (List.range n):=bS.run lt _ (lW h)
section
variable{prog:Program}{w:World}{A:Around}{E:Value->Shared->Prop}{s:Shared}{a:Addr}{vs:List Value}{nss:List (List Int)}
def jd{S:Addr}{h:Heap}{c:Nat}{xs ys:Array Value}(e:h.get? S=some (seqObj "list" xs c)):∃c',(h.update S (Obj.mapSeq λ_=>ys)).get? S=some (seqObj "list" ys c'):=⟨_,get?_update_seq e λ_=>ys⟩
def jr(h:Heap)(vs:List Value)(nss:List (List Int)):Prop:=Paired (λv ns=>∃b o ae n,v=.ref b/\h.get? b=some o/\o.cls=.type "tuple"/\o.data=.seq ae n/\Vals (ns.map V.int) ae.toList/\ns≠[]) vs nss
def jr.keep{h h':Heap}(t:jr h vs nss)(k:∀b o,h.get? b=some o->o.cls=.type "tuple"->h'.get? b=some o):jr h' vs nss:=
 Paired.Bt t λ_ _ ⟨b,o,ae,n,e1,e2,e3,e4,e5,e6⟩=>⟨b,o,ae,n,e1,k b o e2 e3,e3,e4,e5,e6⟩
theorem j3{b:Bool}{Q:Bool->Shared->Prop}:∀(ns ms:List Int) (xs ys:List Value) (i:Nat),Vals (ns.map V.int) xs->Vals (ms.map V.int) ys->Q (HT.lexLt ns ms) s->KatLex prog w A b (decide (xs.length<ys.length)) Q (xs.zip ys) i s
 |[],[],_,_,i,.nil,.nil,h=>by simpa [KatLex,HT.kM] using h
 |[],m::ms,_,_,i,.nil,.cons _ _,h=>by simpa [KatLex,HT.lexLt] using h
 |n::ns,[],_,_,i,.cons _ _,.nil,h=>by simpa [KatLex,HT.lexLt] using h
 |n::ns,m::ms,_,_,i,.cons (a:=_) (b:=u) h1 t1,.cons (b:=v) h2 t2,h=>by
  obtain⟨t,rfl⟩:=h1
  obtain⟨t',rfl⟩:=h2
  rw [HT.iW] at h;refine kat_cons (wpAny_eqBool_int ?_)
  by_cases e:n=m
  ·subst e;rw [if_pos rfl] at h;rw [show(n==n)=true from by simp];refine kat_yes ?_;have:=j3 (b:=b) ns ms _ _ (i+1) t1 t2 h
   simp! [zzL,Nat.add_lt_add_iff_right];exact this
  ·rw [if_neg e] at h;rw [show(n==m)=false from by simpa using e];refine kat_no ?_;cases hb:(b&&i==0) with
   |true=>exact oneLt_int h
   |false=>exact kat_one _ _ (PyProof.Rows.lt_int h)
def ID(prog:Program)(w:World)(A:Around)(E:Value->Shared->Prop)(vs:List Value)(lt:Nat->Nat->Bool)(s:Shared):Prop:=∃κ:SortKind,(∀Q:SortKind->Shared->Prop,Q κ s->wpAny (model prog w) A (keyKind' vs.toArray) Q E s)/\∀i j (C:Bool->Shared->Prop),i<vs.length->j<vs.length->C (lt i j) s->kas_ask prog w A κ vs i j C s
def xq(t1:jr s.heap vs nss)(h2:2<=vs.length):ID prog w A E vs (λi j=>HT.lexLt (nss.getD i []) (nss.getD j [])) s:=by
 have hlen:vs.length=nss.length:=Paired.length t1
 have kt:∃fs,KatTups s.heap vs fs/\fs.length=vs.length/\∀v∈fs,∃i t,v=.int i t:=by
  clear hlen h2
  induction t1 with
  |nil=>exact⟨[],trivial,rfl,λv hv=>nomatch hv⟩
  |cons h t ih=>
   obtain⟨fs,i1,i2,i3⟩:=ih
   obtain⟨b,o,ae,n,rfl,g1,g2,g3,g4,g5⟩:=h
   rename_i ns _ _;cases ns with
   |nil=>exact absurd rfl g5
   |cons m ms=>
    rw [zzF] at g4;cases hi:ae.toList with
    |nil=>rw [hi] at g4;cases g4
    |cons f r=>
     rw [hi] at g4;cases g4 with
     |cons r1 r2=>
      obtain⟨tk,rfl⟩:=r1
      have f0:ae[0]?=some (.int m tk):=by rw [<-Array.getElem?_toList,hi];rfl
      exact⟨.int m tk::fs,.cons g1 g2 g3 f0 i1,by simp [i2],λv hv=>by
       rcases zzm.mp hv with rfl|hv
       ·exact⟨m,tk,rfl⟩
       ·exact i3 v hv⟩
 obtain⟨fs,kt1,kt2,kt3⟩:=kt
 refine⟨_,λQ q=>kat_kind (T:=.type "int") kt1 (by omega) (λv hv=>?_) rfl q,λi j C hi hj hC=>?_⟩
 ·obtain⟨i,t,rfl⟩:=kt3 v hv
  exact .now
 ·unfold kas_ask;obtain⟨b,o,ae,n,e1,g1,g2,g3,g4,_⟩:=dO t1 (zzg hi) (zzg (show i<nss.length by omega))
  obtain⟨b',o',its',n',e1',g1',g2',g3',g4',_⟩:=dO t1 (zzg hj) (zzg (show j<nss.length by omega))
  have v1:vs.getD i Value.none=.ref b:=by simp [hi,e1]
  have v2:vs.getD j Value.none=.ref b':=by simp [hj,e1']
  have n1:nss.getD i []=nss[i]'(by omega):=by simp [show i<nss.length by omega]
  have n2:nss.getD j []=nss[j]'(by omega):=by simp [show j<nss.length by omega]
  rw [v1,v2];dsimp only at hC;rw [n1,n2] at hC;refine kat_lt g1 g3 g1' g3' ?_;have:=j3 (prog:=prog) (w:=w) (A:=A) (b:=(Value.type "int" !=Value.type "tuple")) _ _ _ _ 0 g4 g4' hC
  simpa using this
def uc{n:Nat}{P:PySem.Fin->Shared->Prop}{lt:Nat->Nat->Bool}(ho:s.heap.get? a=some (seqObj "list" vs.toArray n))(h2:2<=vs.length)(CO:vs.length<64)(rd:∀h',(∀b o,b≠a->s.heap.get? b=some o->h'.get? b=some o)->ID prog w A E vs lt {s with heap:=h'})
 (h:∀h' c,(∀b o,b≠a->s.heap.get? b=some o->h'.get? b=some o)->h'.get? a=some (seqObj "list" ((gV vs.length lt).map λi=>vs.getD i Value.none).toArray c)->P (.done (.ret .none)) {s with heap:=h'}):
 wpAny (model prog w) A (Builtin.«list.sort» ⟨[.ref a],[]⟩) P E s:=by
 have s1:=zzu s.heap a (Obj.mapSeq λ_=>(#[]:Array Value))
 obtain⟨e1,ho1⟩:∃e1,(s.heap.update a (Obj.mapSeq λ_=>(#[]:Array Value))).get? a=some (seqObj "list" #[] e1):=⟨_,get?_update_seq ho λ_=>#[]⟩
 generalize hH:(((s.heap.update a (Obj.mapSeq λ_=>(#[]:Array Value))).push (seqObj "tuple" vs.toArray 0)).push (seqObj "list" #[] 0))=H1
 have k1:∀b o,b≠a->s.heap.get? b=some o->H1.get? b=some o:=λb o hb e=>by rw [<-hH];exact zzB _ (zzB _ ((s1.2 b hb).trans e))
 have a1:H1.get? a=some (seqObj "list" #[] e1):=by rw [<-hH];exact zzB _ (zzB _ ho1)
 obtain⟨κ,kk,lts⟩:=rd H1 k1
 rw [list_sort_plain];refine zzA (listItems_at ho rfl (zzA (listUpdate_at ho rfl ?_ (by rw [zzC,sizeLine_eq];omega) (Nat.zero_le _))));refine zzA (seqEpoch_at ho1 rfl (zzA (wpAny_newTuple ?_ (by show vs.length<=_;rw [sizeLine_eq];omega))));refine zzA (wpAny_newList ?_ (Nat.zero_le _));refine wpAny_holding ?_;show wpAny (model prog w) A _ P E {s with heap:=((s.heap.update a (Obj.mapSeq λ_=>(#[]:Array Value))).push (seqObj "tuple" vs.toArray 0)).push (seqObj "list" #[] 0)}
 rw [hH];dsimp only;have pC:¬vs.toArray.size<2:=by rw [zzC];omega
 rw [if_neg pC,if_neg pC];refine zzA (kk _ ?_);refine zzA (wpAny_mono (kat_run (Q:=λfU s'=>∃p:Array Nat,p.size=vs.length/\arrOf fU=p.map (kas_item (vs.toArray.zip vs.toArray))/\failedOf fU=none/\p=ay lt (kas_sort vs.length)/\s'={s with heap:=H1})
  rfl h2 CO (λp' fU s' a1 a2 a3 a4=>⟨p',a1,a2,a3,a4⟩) (xo lts _ (lW (by omega)) ⟨rfl,rfl⟩)) ?_ λ_ _ e=>e)
 rintro ⟨⟨⟩,fU⟩ s' ⟨p,hp,har,hf,rfl,rfl⟩
 dsimp only;have D0:=kat_snds rfl har
 rw [D0];have s2:=zzu H1 a (Obj.mapSeq λ_=>List.toArray ((ay lt (kas_sort vs.length)).toList.map λi=>vs.getD i Value.none))
 obtain⟨c2,hc2⟩:=jd (ys:=List.toArray ((ay lt (kas_sort vs.length)).toList.map λi=>vs.getD i Value.none)) a1
 refine zzA (seqEpoch_at a1 rfl (zzA (listUpdate_at a1 rfl ?_ (Nat.zero_le _) (by
  show(List.toArray _).size<=_
  rw [zzC,zzl,zzd,hp,sizeLine_eq];omega))))
 rw [hf];simp! [bne_self_eq_false,zze,if_false];exact zzG (h _ c2 (λb o hb e=>(s2.2 b hb).trans (k1 b o hb e)) hc2)
end
end L2
namespace L2
open PySem PySem.Spec PyProof.Rows
open PySem.W (hideAll hideAll_get of_hideAll funFrames_hide)
structure F1(P:Program)(w:World)(outer:List Env)(H:Hp)(s:Shared)(E:XK)(a C t:Addr)(vs:List Value)(H':Hp)(B:Heap)(s':Shared):Prop where
 os:s'.os=s.os
 bare:AllBare s'.gens
 aU:fK P w H' B
 Jl:Heap.FlyingW B outer a (.ref C) (.ref t) s'.heap
 tn:B.get? t=none
 tup:s'.heap.TupAt t vs
 ij:∀b o,s.heap.get? b=some o->H b=none->b∉gD outer->B.get? b=some o
 eC:∀b o,s.heap.get? b=some o->b∉gD outer->∃o',B.get? b=some o'
 un:Un (gD outer) [] H H' s.heap s'.heap
 ends:E (.ref C) (some a) H'
noncomputable def fw(P:Program)(w:World):vH:=λouter H s E e s'=>∃a C t vs H' B,e=.ref a/\F1 P w outer H s E a C t vs H' B s'
section
variable{P:Program}{w:World}{K:zz8}{mg:Str->Option Value}{base:Heap}{N:List Str}{qual:Str}{scope:Scope}{f:Addr}{cd:Value}{A:Around}{outer:List Env}{s0:Shared}{H0:Hp}{E:XK}
def mD{X:Cx}{aa:List (Addr×Obj)}{σ:St}{H:Hp}{s:Shared}(I:Inv X aa σ H s){b:Addr}{o:Obj}(hl:X.env.locals=X.s₀.heap.objs.size)(q:X.s₀.heap.get? b=some o)(hb:b∉X.fs):b∉gD X.stack:=λz=>by
 rcases zzm.mp (I.jq b z) with e|e
 ·rw [hl] at e;exact absurd (zzO q) (by rw [e];exact Nat.lt_irrefl _)
 ·exact hb e
def Gf:Passes (fw P w) (cM (fw P w) P w K mg base N qual scope f cd A outer s0 H0 E) E:=by
 rintro aa σ H s e s' I ⟨a,C,t,vs,H',B,rfl,F⟩
 have nx:∀b:Addr,b∉(cM (fw P w) P w K mg base N qual scope f cd A outer s0 H0 E).ex:=λb z=>nomatch (show b∈([]:List Addr) from z)
 have ij:∀b o,s0.heap.get? b=some o->H0 b=none->b∉gD outer->B.get? b=some o:=λb o q n hb=>
  F.ij b o (I.base.keep b o q n hb (nx b)) (I.base.free b o q n (nx b)) (mD I rfl q hb)
 have eC:∀b o,s0.heap.get? b=some o->b∉gD outer->∃o',B.get? b=some o':=λb o q hb=>by
  obtain⟨o1,q1⟩:=I.base.there b o q (nx b)
  exact F.eC b o1 q1 (mD I rfl q hb)
 refine wpAny_leaves_onW I.ok.frames rfl F.Jl λh' x1 x2=>⟨a,C,t,vs,H',B,rfl,?_⟩
 have slot:∀b o,s0.heap.get? b=some o->H0 b=none->b∈gD outer->∃sl,h'.get? b=some {o with slots:=sl}:=λb o q n hb=>by
  obtain⟨sl,q1⟩:=I.base.slot b o q n hb (nx b)
  obtain⟨sl2,q2⟩:=F.un.any q1 (I.base.free b o q n (nx b)) (λz=>nomatch z)
  obtain⟨_,o',q3,hd⟩:=F.Jl.2.2.1.mem (b:=b) (zz1.mpr (let⟨v,h1,h2⟩:=zz1.mp hb;⟨v,.tail _ h1,h2⟩))
  rw [q2] at q3;cases q3;obtain⟨sl3,q4⟩:=x2 b _ q2 hd
  exact⟨sl3,q4⟩
 refine⟨F.os.trans I.os,F.bare,F.aU,x1,F.tn,F.tup.of_slots x2,ij,eC,⟨λb o q n hb _=>x1.1 _ _ (ij b o q n hb),λb o q n hb _=>slot b o q n hb,λb o q n _=>?_,λb o q _=>?_,λb xs q=>F.un.iu _ _ (I.base.iu _ _ q),λb o u q=>F.un.gL _ _ _ (I.base.gL _ _ _ q),λb ps q=>?_⟩,F.ends⟩
 ·obtain⟨sl,q1⟩:=I.base.any q n (nx b)
  exact F.un.free b _ q1 (I.base.free b o q n (nx b)) (λz=>nomatch z)
 ·by_cases hb:b∈gD outer
  ·obtain⟨sl,q1⟩:=slot b o q (I.ok.ET b hb) hb
   exact⟨_,q1⟩
  ·obtain⟨o',q1⟩:=eC b o q hb
   exact⟨o',x1.1 _ _ q1⟩
 ·obtain⟨m1,q1⟩:=I.base.g7 b ps q
  obtain⟨m2,q2⟩:=F.un.g7 b _ q1
  exact⟨m1++m2,by rw [<-Array.append_assoc];exact q2⟩
def C2{aa:List (Addr×Obj)}{σ:St}{H:Hp}{s:Shared}{h1:Heap}{e C:Addr}{us:List Value}(I:Inv (cM (fw P w) P w K mg base N qual scope f cd A outer s0 H0 E) aa σ H s)
 (hx:Heap.MadeExcOf s.heap h1 e (.ref C) us) (hE:E (.ref C) (some e) H):(cM (fw P w) P w K mg base N qual scope f cd A outer s0 H0 E).xe (.ref e) {s with heap:=h1}:=by
 have nx:∀b:Addr,b∉(cM (fw P w) P w K mg base N qual scope f cd A outer s0 H0 E).ex:=λb z=>nomatch (show b∈([]:List Addr) from z)
 have FU:∀env∈(cM (fw P w) P w K mg base N qual scope f cd A outer s0 H0 E).stack,∀b,env.frame=some b->b∈gD (cM (fw P w) P w K mg base N qual scope f cd A outer s0 H0 E).stack:=λenv he b hb=>zz1.mpr ⟨env,he,hb⟩
 refine wpAny_leaves_madeW (h:=s.heap) I.ok.frames rfl (λb o q=>of_hideAll _ q) (funFrames_hide I.stack FU) hx λh' t x1 x2 x3 x4=>⟨e,C,t,us,H,hideAll s.heap (gD (cM (fw P w) P w K mg base N qual scope f cd A outer s0 H0 E).stack),rfl,?_⟩
 have ij:∀b o,s0.heap.get? b=some o->H0 b=none->b∉gD outer->(hideAll s.heap (gD (cM (fw P w) P w K mg base N qual scope f cd A outer s0 H0 E).stack)).get? b=some o:=λb o q n hb=>
  hideAll_get _ (I.base.keep b o q n hb (nx b)) (mD I rfl q hb)
 have eC:∀b o,s0.heap.get? b=some o->b∉gD outer->∃o',(hideAll s.heap (gD (cM (fw P w) P w K mg base N qual scope f cd A outer s0 H0 E).stack)).get? b=some o':=λb o q hb=>by
  obtain⟨o1,q1⟩:=I.base.there b o q (nx b)
  exact⟨o1,hideAll_get _ q1 (mD I rfl q hb)⟩
 have slot:∀b o,s0.heap.get? b=some o->H0 b=none->b∈gD outer->∃sl,h'.get? b=some {o with slots:=sl}:=λb o q n hb=>by
  obtain⟨sl,q1⟩:=I.base.slot b o q n hb (nx b)
  obtain⟨_,o',q3,hd⟩:=I.stack.mem (b:=b) (zz1.mpr (let⟨v,h1,h2⟩:=zz1.mp hb;⟨v,.tail _ h1,h2⟩))
  rw [q1] at q3;cases q3;obtain⟨sl3,q4⟩:=x4 b _ (hx.keeps _ _ q1) hd
  exact⟨sl3,q4⟩
 refine⟨I.os,I.bare,λb o q=>?_,x1,x3,x2,ij,eC,⟨λb o q n hb _=>x1.1 _ _ (ij b o q n hb),λb o q n hb _=>slot b o q n hb,λb o q n _=>I.base.free b o q n (nx b),λb o q _=>?_,I.base.iu,I.base.gL,I.base.g7⟩,hE⟩
 ·refine(I.aU b o q).fH (λc v hc r=>hideAll_get _ r λz=>?_) (λ_ q=>q) λ_ _ q=>q
  have z':=I.mS c z
  rcases hc with rfl|hc
  ·rw [q] at z';cases z'
  ·rw [hc] at z';cases z'
 ·by_cases hb:b∈gD outer
  ·obtain⟨sl,q1⟩:=slot b o q (I.ok.ET b hb) hb
   exact⟨_,q1⟩
  ·obtain⟨o',q1⟩:=eC b o q hb
   exact⟨o',x1.1 _ _ q1⟩
end
def ic{P:Program}{w:World}{H:Hp}{h:Heap}{a:Addr}{o:HO}(x:aY P w H h a o):∃o',h.get? a=some o':=by
 cases o with
 |lst xs=>obtain⟨_,_,_,_,e⟩:=x;exact⟨_,e⟩
 |tup xs=>obtain⟨_,_,_,o,e,_⟩:=x;exact⟨_,e⟩
 |dK ai=>obtain⟨_,_,_,_,o,_,_,e,_⟩:=x;exact⟨_,e⟩
 |dT ai=>obtain⟨_,_,_,_,o,_,_,e,_⟩:=x;exact⟨_,e⟩
 |set S n=>obtain⟨o,_,_,_,e,_⟩:=x;exact⟨_,e⟩
 |ins C dx fs=>obtain⟨_,_,_,e,_⟩:=x;exact⟨_,e⟩
 |own y=>exact x
 |xd fs=>obtain⟨_,⟨_,_,_,e,_⟩,_⟩:=x;exact⟨_,e⟩
 |rn lo hi=>obtain⟨_,_,_,e⟩:=x;exact⟨_,e⟩
 |cV ob u=>obtain⟨e,_⟩:=x;exact⟨_,e⟩
 |fh ps=>exact⟨_,x⟩
 |met f y=>exact⟨_,x⟩
 |ext φ=>exact x.2.1
noncomputable def DE(C:Addr)(E:XK)(ta:TA):TS:=λ_ σ H=>ta σ H λvs H1=>vs.length<=sizeLine/\∀e,H1 e=none->E (.ref C) (some e) H1
section
variable{P:Program}{w:World}{K:zz8}{mg:Str->Option Value}{base:Heap}{N:List Str}{qual:Str}{scope:Scope}{f:Addr}{cd:Value}{A:Around}{outer:List Env}{s0:Shared}{H0:Hp}{E:XK}
theorem yH{x:Str}{C:Addr}{Bn newId FJ:String}{bm:List Value}{e₀:Expr}{rest:List Expr}{np ba pos:Pos}{ta:TA}(hg:Gl (cM (fw P w) P w K mg base N qual scope f cd A outer s0 H0 E) x)(O:OwnCls x C bm newId mg base)(FB:ExcBaseFacts Bn newId FJ bm)
 (ha:PA (cM (fw P w) P w K mg base N qual scope f cd A outer s0 H0 E) (e₀::rest) ta)
 (he:starEach (e₀::rest) (cM (fw P w) P w K mg base N qual scope f cd A outer s0 H0 E).env=(false,eval e₀ (cM (fw P w) P w K mg base N qual scope f cd A outer s0 H0 E).env)::starEach rest (cM (fw P w) P w K mg base N qual scope f cd A outer s0 H0 E).env:=by rfl)
 (gS:(backTo ba (starEach rest (cM (fw P w) P w K mg base N qual scope f cd A outer s0 H0 E).env)).any (·.1)=false:=by rfl) (hd:(x==("__debug__":Str))=false:=by decide) (hA:A.handled.isNone=true):
 PS (cM (fw P w) P w K mg base N qual scope f cd A outer s0 H0 E) (.Raise (some (.Call (.Name x np) (e₀::rest) [] ba)) none pos) (DE C E ta):=by
 intro aa s σ H D I h;obtain⟨tl,Nn,nm,q,bs,hdct,sn,sub,ab,col,dd,k0,k1,k2,k3,k5,mN,hC,hN,hni,T⟩:=O.obj
 refine wpAny_Raise_call_subT (C:=C) (nm:=nm) (q:=q) (N:=Nn) (bs:=bs) (bm:=tl) (hdct:=hdct) (sn:=sn) (sub:=sub) (ab:=ab) (col:=col) (dd:=dd) (k0:=k0) (k1:=k1) (k2:=k2) (k3:=k3) (k5:=k5)
  FB (mN:=mN) (T.hasType FB.hasBase) (I.ok.hd hA) (by rw [he];show(false||(backTo ba (starEach rest (cM (fw P w) P w K mg base N qual scope f cd A outer s0 H0 E).env)).any (·.1))=false;rw [gS];rfl) hni (iH I hg O.bound ⟨rfl,?_⟩ hd)
 have h2:=ha ba aa s σ H _ I h
 rw [he] at h2⊢;refine Calls.evalArgs_plain (wpAny_mono h2 (λus s2 ⟨vs,H1,I1,rv,hl,hE⟩=>?_) λ_ _ y=>y)
 refine⟨rfl,by rw [<-rv.length];exact hl,I1.bk _ _ hC,hN.keeps I1.bk,T.keeps I1.bk,λh1 e hx=>C2 I1 hx (hE e ?_)⟩
 cases z:H1 e with
 |none=>rfl
 |some o=>
  obtain⟨o',hV⟩:∃o',s2.heap.get? e=some o':=by
   exact ic (I1.aU _ _ z)
  rw [hx.new] at hV;cases hV
end
abbrev qu:HO:=.ext λ_=>True
noncomputable def rD(Z:List (Addr×Obj))(H:Hp):Hp:=λb=>match Z.lookup b with
 |some o=>some (.cV o qu)
 |none=>H b
noncomputable def eL(Z:List (Addr×Obj))(H:Hp):Hp:=λb=>match Z.lookup b with
 |some _=>none
 |none=>H b
section
variable{Z:List (Addr×Obj)}{H:Hp}{b:Addr}{o:Obj}
def Iv(e:Z.lookup b=some o):rD Z H b=some (.cV o qu):=by unfold rD;rw [e]
def FQ(e:Z.lookup b=none):rD Z H b=H b:=by unfold rD;rw [e]
def o9(e:Z.lookup b=some o):eL Z H b=none:=by unfold eL;rw [e]
def dH(e:Z.lookup b=none):eL Z H b=H b:=by unfold eL;rw [e]
def qb{u:HO}(e:eL Z H b=some u):Z.lookup b=none/\H b=some u:=by
 cases q:Z.lookup b with
 |none=>rw [dH q] at e;exact⟨rfl,e⟩
 |some o=>rw [o9 q] at e;cases e
def qg(h:H b=none):eL Z H b=none:=by
 cases q:Z.lookup b with
 |none=>rw [dH q];exact h
 |some o=>exact o9 q
structure Py(Z:List (Addr×Obj))(H:Hp)(fs:List Addr)(h:Heap):Prop where
 at_:∀b o,Z.lookup b=some o->h.get? b=some o
 no:∀b o,Z.lookup b=some o->H b=none
 fr:∀b o,Z.lookup b=some o->b∉fs
end
def C0(mg:Str->Option Value)(base:Heap):Prop:=∃bm o,mg "__builtins__"=some (.ref bm)/\bm≠builtinsNs/\bm≠mainGlobals/\base.get? bm=some o/\o.cls=.type "module"/\o.dict=some builtinsNs/\o.data=.plain
end L2
namespace L2
open PySem PySem.Spec PyProof.Rows PySem.W
noncomputable def gZ{α:Type}(dflt:α)(l:List α)(nss:List (List Int)):List α:=if l.length<2 then l else(gV l.length λi j=>HT.lexLt (nss.getD i []) (nss.getD j [])).map λi=>l.getD i dflt
section
variable{prog:Program}{w:World}{A:Around}{E:Value->Shared->Prop}{s:Shared}{a:Addr}{vs:List Value}{nss:List (List Int)}
def vN{n:Nat}{P:PySem.Fin->Shared->Prop}(ho:s.heap.get? a=some (seqObj "list" vs.toArray n))(h2:vs.length<2)
 (h:∀h' c,(∀b o,b≠a->s.heap.get? b=some o->h'.get? b=some o)->h'.get? a=some (seqObj "list" vs.toArray c)->P (.done (.ret .none)) {s with heap:=h'}):wpAny (model prog w) A (Builtin.«list.sort» ⟨[.ref a],[]⟩) P E s:=by
 have s1:=zzu s.heap a (Obj.mapSeq λ_=>(#[]:Array Value))
 obtain⟨e1,ho1⟩:=jd (ys:=(#[]:Array Value)) ho
 generalize hH:(((s.heap.update a (Obj.mapSeq λ_=>(#[]:Array Value))).push (seqObj "tuple" vs.toArray 0)).push (seqObj "list" #[] 0))=H1
 have k1:∀b o,b≠a->s.heap.get? b=some o->H1.get? b=some o:=λb o hb e=>by rw [<-hH];exact zzB _ (zzB _ ((s1.2 b hb).trans e))
 have a1:H1.get? a=some (seqObj "list" #[] e1):=by rw [<-hH];exact zzB _ (zzB _ ho1)
 rw [list_sort_plain];refine zzA (listItems_at ho rfl (zzA (listUpdate_at ho rfl ?_ (by rw [zzC,sizeLine_eq];omega) (Nat.zero_le _))));refine zzA (seqEpoch_at ho1 rfl (zzA (wpAny_newTuple ?_ (by show vs.length<=_;rw [sizeLine_eq];omega))));refine zzA (wpAny_newList ?_ (Nat.zero_le _));refine wpAny_holding ?_;show wpAny (model prog w) A _ P E {s with heap:=((s.heap.update a (Obj.mapSeq λ_=>(#[]:Array Value))).push (seqObj "tuple" vs.toArray 0)).push (seqObj "list" #[] 0)}
 rw [hH];dsimp only;have pC:vs.toArray.size<2:=by rw [zzC];omega
 rw [if_pos pC,if_pos pC];refine zzA (zzG (zzA ?_));show wpAny (model prog w) A (pure ((),SortSt.mk' general' (vs.toArray.zip vs.toArray) #[] 7 none)) _ E _;refine zzG ?_;dsimp only;have D0:(arrOf (SortSt.mk' general' (vs.toArray.zip vs.toArray) #[] 7 none)).map (·.2)=vs.toArray:=by
  show(vs.toArray.zip vs.toArray).map (·.2)=vs.toArray
  apply Array.toList_inj.mp
  simp! [Array.toList_map,Array.toList_zip];exact List.map_snd_zip (zzE _)
 rw [D0];have s2:=zzu H1 a (Obj.mapSeq λ_=>vs.toArray)
 obtain⟨c2,hc2⟩:=jd (ys:=vs.toArray) a1
 refine zzA (seqEpoch_at a1 rfl (zzA (listUpdate_at a1 rfl ?_ (Nat.zero_le _) (by rw [zzC,sizeLine_eq];omega))));simp! [bne_self_eq_false,zze,if_false];exact zzG (h _ c2 (λb o hb e=>(s2.2 b hb).trans (k1 b o hb e)) hc2)
def wF{n:Nat}{P:PySem.Fin->Shared->Prop}(ho:s.heap.get? a=some (seqObj "list" vs.toArray n))(CO:vs.length<64)(rd:2<=vs.length->∀h',(∀b o,b≠a->s.heap.get? b=some o->h'.get? b=some o)->ID prog w A E vs (λi j=>HT.lexLt (nss.getD i []) (nss.getD j [])) {s with heap:=h'})
 (h:∀h' c,(∀b o,b≠a->s.heap.get? b=some o->h'.get? b=some o)->h'.get? a=some (seqObj "list" (gZ Value.none vs nss).toArray c)->P (.done (.ret .none)) {s with heap:=h'}):wpAny (model prog w) A (Builtin.«list.sort» ⟨[.ref a],[]⟩) P E s:=by
 by_cases h2:vs.length<2
 ·exact vN ho h2 λh' c k e=>h h' c k (by unfold gZ;rw [if_pos h2];exact e)
 ·exact uc ho (by omega) CO (rd (by omega)) λh' c k e=>h h' c k (by unfold gZ;rw [if_neg h2];exact e)
end
abbrev jW(K:zz8)(H:Hp)(vs:List V)(nss:List (List Int)):Prop:=Paired (λv ns=>∃b,v=V.ref b/\dJ K H b (ns.map V.int)/\ns≠[]) vs nss
section
variable{X:Cx}{aa:List (Addr×Obj)}{σ:St}{H:Hp}{s:Shared}{vs:List V}{us:List Value}{nss:List (List Int)}{A:Around}{E:Value->Shared->Prop}{Q:VK}
def AM(I:Inv X aa σ H s):∀{vs:List V} {us:List Value} {nss:List (List Int)},Vals vs us->jW X.K H vs nss->jr s.heap us nss:=by
 intro vs us nss r t
 induction t generalizing us with
 |nil=>cases r;exact .nil
 |cons h t ih=>
  obtain⟨b,rfl,hq,c9⟩:=h
  cases r with
  |cons r1 r2=>
   cases(show _=Value.ref b from r1);obtain⟨ae,rv,⟨o,g1,g2,n,g3⟩,_⟩:=I.tuple hq
   exact .cons ⟨b,o,ae.toArray,n,rfl,g1,g2,g3,by simpa using rv,c9⟩ (ih r2)
def ym(r:Vals vs us):Vals (gZ V.aI vs nss) (gZ Value.none us nss):=by
 have hl:=r.length
 unfold gZ;rw [hl];split
 ·exact r
 ·have go:∀l:List Nat,Vals (l.map λi=>vs.getD i V.aI) (l.map λi=>us.getD i Value.none):=by
   intro l
   induction l with
   |nil=>exact .nil
   |cons i l ih=>
    refine .cons ?_ ih;dsimp only
    by_cases hi:i<vs.length
    ·obtain⟨u,hu,ru⟩:=r.get (zzg hi)
     have e1:vs.getD i V.aI=vs[i]:=by simp [hi]
     have e2:us.getD i Value.none=u:=by simp [hu]
     rw [e1,e2];exact ru
    ·have e1:vs.getD i V.aI=.aI:=by simp [Nat.le_of_not_lt hi]
     have e2:us.getD i Value.none=.none:=by simp [Nat.le_of_not_lt (hl▸hi)]
     rw [e1,e2];exact rfl
  exact go _
def zr{α:Type}{d:α}{l:List α}:(gZ d l nss).length=l.length:=by
 unfold gZ;split
 ·rfl
 ·rename_i h;rw [zzl,(eG (by omega) _).length_eq,List.length_range]
def jo(I:Inv X aa σ H s)(r:Vals vs us)(rd:2<=us.length->∀h',(∀b o,s.heap.get? b=some o->h'.get? b=some o)->ID X.prog X.w A.in1 E us (λi j=>HT.lexLt (nss.getD i []) (nss.getD j [])) {s with heap:=h'})(CO:vs.length<64)(q:∀p,H p=none->Q (.ref p) (upd H p (.lst (gZ V.aI vs nss)))):
 wpAny (model X.prog X.w) A (newList us>>=λl=>holding [l] (call (.builtin "list.sort") [l] [])>>=λ_=>ret l) (λfin s'=>∃v,fin=.done (.ret v)/\EP X aa σ Q v s') E s:=by
 have hl:=r.length
 refine zzA (wpAny_newList ?_ (by rw [sizeLine_eq];omega));have Js:(s.heap.push (seqObj "list" us.toArray 0)).get? (zz9 s)=some (seqObj "list" us.toArray 0):=zzX _ rfl
 have kp:∀b o,s.heap.get? b=some o->(s.heap.push (seqObj "list" us.toArray 0)).get? b=some o:=λb o e=>zzB _ e
 refine zzA (wpAny_holding (wpAny_call_entry slot_list_sort ⟨_,Js,rfl⟩ entry_list_sort ?_ (args_list_sort _)));refine wF (s:={s with heap:=s.heap.push (seqObj "list" us.toArray 0)}) Js (by omega) (λh2 h' k=>rd h2 h' λb o e=>k b o (zzb (zzO e)) (kp b o e)) λh' c k e=>⟨_,rfl,zzG ⟨_,rfl,.ref (zz9 s),upd H (zz9 s) (.lst (gZ V.aI vs nss)),?_,rfl,q _ (I.aU.fresh (zzE _))⟩⟩
 exact I.laid (a:=(zz9 s)) (t':=s.toks) (λb o z=>k b o (zzb (zzO z)) (kp b o z)) (zzE _) ⟨by rw [zr,sizeLine_eq];omega,_,c,ym r,e⟩
theorem oA(I:Inv X aa σ H s)(r:Vals vs us)(t:jW X.K H vs nss)(h2:2<=us.length)(h':Heap)(k:∀b o,s.heap.get? b=some o->h'.get? b=some o):ID X.prog X.w A E us (λi j=>HT.lexLt (nss.getD i []) (nss.getD j [])) {s with heap:=h'}:=xq (s:={s with heap:=h'}) ((AM I r t).keep λb o e _=>k b o e) h2
def nL:bF X (.builtin "sorted") (λxs H Q=>∃a vs nss,xs=[V.ref a]/\fQ X.K H a vs/\jW X.K H vs nss/\vs.length<64/\∀p,H p=none->Q (.ref p) (upd H p (.lst (gZ V.aI vs nss)))):=by
 intro aa s σ H xs us Q I r h;obtain⟨a,vs,nss,rfl,hl,t,CO,q⟩:=h
 obtain⟨u,rfl,ru⟩:=vals1 r
 cases ru;obtain⟨ae,rv,p,hz⟩:=I.list hl
 refine Calls.call_function_entry kind_sorted plain_sorted entry_sorted (args_sorted1 _) ?_;unfold Builtin.«sorted»;refine zzA (m:=checkCount "sorted" 1 1 _) (zzG (zzA (collect_list p.isList ?_ (by have:=rv.length;rw [sizeLine_eq];omega))));have I1:=I.kept (t':=s.toks) (h':=(s.heap.push (seqObj "list" #[] 0)).update (zz9 s) (Obj.mapSeq (·++ae.toArray))) λb o e=>by
  have bU:b<(zz9 s):=zzO e
  rw [Heap.get?_update_ne _ _ _ _ (zzb bU),Heap.get?_push_ne _ _ _ (zzb bU)];exact e
 exact jo I1 rv (oA I1 rv t) CO q
end
end L2
namespace L2
open PySem PySem.Spec PyProof.Rows
open PySem.AutoSeq1 (wpAny_loadPart')
theorem du:fillsNumberSlot (.type "tuple") "mul"=pure false:=
 PySem.fillsNumberSlot_seq (id:="tuple.__mul__") (r:=some (.builtin "tuple.__rmul__")) PySem.F.slot_tuple_mul.lookup (by decide+kernel) PySem.F.slot_tuple_rmul.lookup (by decide+kernel)
def gq:seqRepeat? (.type "tuple")=pure (some (.builtin "tuple.__mul__")):=by
 unfold seqRepeat?;rw [PySem.seqSlot_of (T:="tuple") (name:="__mul__") (id:="tuple.__mul__") PySem.F.slot_tuple_mul.lookup (by decide+kernel),PySem.seqSlot_of (T:="tuple") (name:="__rmul__") (id:="tuple.__rmul__") PySem.F.slot_tuple_rmul.lookup (by decide+kernel)]
 rfl
theorem eR(a:Int)(t:Tok)(l:Addr)(items:Array Value)(n:Nat)(dd:Option Addr)(sl:Array (Option Value)):
 Meets (Builtin.«int.__rmul__» ⟨[.int a t,.ref l],[]⟩) (λ_ R s=>s.heap.get? l=some {cls:=.type "tuple",dict:=dd,data:=.seq items n,slots:=sl}/\R (.ok (.ret Value.notImplemented)) s):=
 .of_wp λprog w A R s h=>by obtain⟨hp,g,d,tk,os⟩:=s;obtain⟨hl,h⟩:=h;wp_walk;exact⟨_,rfl,h⟩
def qF(l:Addr)(items:Array Value)(n:Nat)(dd:Option Addr)(sl:Array (Option Value))(x:Int)(u:Tok)(x1:1<x)(x2:x<1000)(i1:0<items.size)(i2:items.size<1000):
 Meets (Builtin.«tuple.__mul__» ⟨[.ref l,.int x u],[]⟩) (λ_ R s=>s.heap.get? l=some {cls:=.type "tuple",dict:=dd,data:=.seq items n,slots:=sl}/\
  R (.ok (.ret (Value.ref (zz9 s)))) {s with heap:=s.heap.push {cls:=Value.type "tuple",data:=Data.seq (List.foldl (λx1 x2=>x1++x2) #[] (List.replicate x.toNat items))},toks:=s.toks}):=
 .of_wp λprog w A R s h=>by
  obtain⟨hp,g,d,tk,os⟩:=s
  obtain⟨hl,h⟩:=h
  have f1:=PySem.AutoSeq1.idx_int
  have f2:=PySem.AutoSeq1.sub_tuple_tuple
  have ie:items.isEmpty=false:=by
   cases h:items.isEmpty with
   |false=>rfl
   |true=>
    have:=Array.isEmpty_iff.mp h
    subst this;exact absurd i1 (by simp)
  wp_walk using wpAny_loadPart' hl
  refine wpAny_ite_false (zz0 (by rw [zzt,zzN,zzN];omega)) ?_;dsimp only
  wp_walk using wpAny_loadPart' hl
  refine wpAny_ite_false (zz0 (by rw [ie,Bool.false_or,zzy];omega)) ?_;refine wpAny_ite_false (zz0 (by rw [ie,Bool.or_false,zzN];omega)) ?_;have hm:(items.size:Int)*x<=1000*1000:=by
   have e1:(items.size:Int)*x<=1000*x:=Int.mul_le_mul_of_nonneg_right (by omega) (by omega)
   omega
  have FR:items.size*x.toNat<=1000*1000:=Nat.mul_le_mul (by omega) (by omega)
  have Jh:(1000000:Nat)<=sizeLine:=by decide
  have rM:(List.foldl (λx1 x2=>x1++x2) #[] (List.replicate x.toNat items)).size<=sizeLine:=by
   have e:=foldl_rep items.toList x.toNat []
   have e':(items.toList).toArray=items:=by simp
   rw [e',List.nil_append] at e;have e2:(List.foldl (λx1 x2=>x1++x2) #[] (List.replicate x.toNat items))=(List.replicate x.toNat items.toList).flatten.toArray:=e
   rw [e2,zzC,len_rep,zzd,Nat.mul_comm];omega
  refine wpAny_ite_false (zz0 (by omega)) ?_;refine wpAny_ite_false (zz0 (by unfold Builtin.Tuple.tupleTooMany;simp;omega)) ?_
  wp_walk
  exact⟨_,rfl,h⟩
def Bo{X:Cx}:d5 X (binaryOp .Mult) (λx y H Q=>∃a n xs,x=.ref a/\y=.int n/\dJ X.K H a xs/\1<n/\n<1000/\0<xs.length/\xs.length<1000/\∀p,H p=none->Q (.ref p) (upd H p (.tup (List.replicate n.toNat xs).flatten))):=by
 intro aa s σ H x y v u Q I rx ry h;obtain⟨a,n,xs,rfl,rfl,ha,h1,h2,h3,h4,q⟩:=h
 cases rx;obtain⟨t,rfl⟩:=ry
 obtain⟨ae,r,p1,_⟩:=I.tuple ha
 have hl:=r.length
 obtain⟨⟨cls,dd,data,sl⟩,ho,hc,k,hd⟩:=id p1
 simp only at hc hd;subst hc hd;have jb:List.foldl (λx1 x2=>x1++x2) #[] (List.replicate n.toNat ae.toArray)=(List.replicate n.toNat ae).flatten.toArray:=by
  have:=foldl_rep ae n.toNat []
  rw [List.nil_append] at this;exact this
 refine wpAny_binaryOp_repeat_ref (T:="tuple") (U:="int") (by decide) ⟨_,ho,rfl⟩ (λs'=>typeIs_int s' n t) du PySem.F.fills_int_mul PySem.F.slot_int_rmul gq PySem.F.slot_int_index.lookup
  (call_meets PySem.F.slot_int_rmul (typeIs_int s n t) PySem.F.entry_int_rmul (PySem.F.args_int_rmul_2 _ _) (eR n t a ae.toArray k dd sl)
   ⟨ho,rfl,⟨_,ho,rfl⟩,call_meets PySem.F.slot_tuple_mul ⟨_,ho,rfl⟩ PySem.F.entry_tuple_mul (PySem.F.args_tuple_mul_2 _ _) (qF a ae.toArray k dd sl n t h1 h2 (by rw [zzC];omega) (by rw [zzC];omega)) ⟨ho,?_⟩⟩)
 rw [jb];have hz:(List.replicate n.toNat xs).flatten.length<=sizeLine:=by
  rw [len_rep];have:n.toNat*xs.length<=1000*1000:=Nat.mul_le_mul (by omega) (by omega)
  have Jh:(1000000:Nat)<=sizeLine:=by decide
  omega
 refine⟨.ref (zz9 s),_,I.laid (t':=s.toks) (o:=.tup (List.replicate n.toNat xs).flatten) (λb ob q=>zzB _ q) (zzE _) ?_,rfl,q _ (I.aU.fresh (zzE _))⟩;exact⟨hz,_,r.rep n.toNat,IsTup.new _ _⟩
end L2
namespace Cw
open PySem L2
end Cw
namespace L2
open PySem PySem.Spec PyProof.Rows
section
variable{X:Cx}
def nP:bF X (.type "int") (λxs H Q=>∃z n,xs=[.str z]/\PySem.intText? z=some n/\z.length<=640/\Q (.int n) H):=by
 intro aa s σ H xs us Q I r h;obtain⟨z,n,rfl,h1,h2,q⟩:=h
 obtain⟨u,rfl,t,rfl⟩:=vals1 r
 exact PySem.W.KIN.call_text h1 h2 ⟨.int n,H,I.tok _,⟨_,rfl⟩,q⟩
end
end L2
namespace Cw
open PySem L2
end Cw
namespace L2
open PySem PySem.Spec PyProof.Rows PySem.W
noncomputable def hX(d:Addr):Obj:={cls:=.type "dict_items",data:=.fields #[.ref d]}
noncomputable def kW(x y:Value)(d:Addr)(i n ep:Nat)(u v:Value):Obj:={cls:=.type "dict_itemiterator",data:=.fields #[x,y,.ref d,.int i 0,.int n 0,.int ep 0,u,v]}
noncomputable def sQ(e:DictEntry):Obj:={cls:=.type "tuple",data:=.seq #[e.key,e.val]}
def BP(h:Heap)(it d:Addr)(i n ep:Nat):Prop:=∃x y u v,h.get? it=some (kW x y d i n ep u v)/\(x=.none\/∃a,x=rawInt (a:Nat)/\a≠it/\∃o,h.get? a=some o)
section
variable{prog:Program}{w:World}{A:Around}{E:Value->Shared->Prop}{s:Shared}{d it:Addr}{i n ep:Nat}
theorem fld{fs:Array Value}{j:Nat}{z:Value}{Q:Unit->Shared->Prop}(e:s.heap.get? it=some {cls:=.type "dict_itemiterator",data:=.fields fs})(hj:j<fs.size)(hQ:∀h',h'.get? it=some {cls:=.type "dict_itemiterator",data:=.fields (fs.setIfInBounds j z)}->Heap.SameBut it s.heap h'->Q () {s with heap:=h'}):wpAny (model prog w) A (setField (.ref it) j z) Q E s:=
 wpAny_setField e rfl hj (hQ _ (Heap.get?_update_self _ e rfl) (zzu ..))
def yl{k v:Value}{Q:Value->Shared->Prop}(st:BP s.heap it d i n ep)
 (hQ:∀h',BP h' it d i n ep->h'.get? (zz9 s)=some {cls:=.type "tuple",data:=.seq #[k,v]}->h'.objs.size=(zz9 s)+1->(∀b o,b≠it->s.heap.get? b=some o->h'.get? b=some o)->Q (.ref (zz9 s)) {s with heap:=h'}):wpAny (model prog w) A (Builtin.Dict_items.pairFromOwner (.ref it) 6 k v) Q E s:=by
 obtain⟨x,y,u,z,e,hx⟩:=st
 have bU:=zzO e
 unfold Builtin.Dict_items.pairFromOwner Builtin.Dict_items.ownedTupleIsFree;refine zzA (wpAny_newTuple ?_);have e1:(s.heap.push {cls:=.type "tuple",data:=.seq #[k,v]}).get? it=some (kW x y d i n ep u z):=zzB _ e
 have t1:(s.heap.push {cls:=.type "tuple",data:=.seq #[k,v]}).get? (zz9 s)=some {cls:=.type "tuple",data:=.seq #[k,v]}:=zzX _ rfl
 have k1:∀b o,s.heap.get? b=some o->(s.heap.push {cls:=.type "tuple",data:=.seq #[k,v]}).get? b=some o:=λb o q=>zzB _ q
 have z1:(s.heap.push {cls:=.type "tuple",data:=.seq #[k,v]}).objs.size=(zz9 s)+1:=Heap.size_push ..
 show wpAny (model prog w) A _ Q E {s with heap:=s.heap.push {cls:=.type "tuple",data:=.seq #[k,v]}}
 generalize s.heap.push {cls:=.type "tuple",data:=.seq #[k,v]}=h1 at e1 t1 k1 z1
 refine zzA (zzA (wpAny_field e1 rfl (x:=x) rfl ?_));have N2:∀b o,b≠it->∀h':Heap,Heap.SameBut it h1 h'->s.heap.get? b=some o->h'.get? b=some o:=λb o hb h' q e=>q.extBut b o hb (k1 b o e)
 rcases hx with rfl|⟨a,rfl,ha,oa,hoa⟩
 ·refine zzG ?_;simp! [if_true];refine zzA (wpAny_field e1 rfl (x:=u) rfl (zzA (wpAny_field e1 rfl (x:=z) rfl ?_)));refine zzA (fld (s:={s with heap:=h1}) e1 (by simp) λh2 e2 s2=>zzA (fld (s:={s with heap:=h2}) e2 (by simp) λh3 e3 s3=>zzA (fld (s:={s with heap:=h3}) e3 (by simp) λh4 e4 s4=>zzA (fld (s:={s with heap:=h4}) e4 (by simp) λh5 e5 s5=>?_))))
  have S:Heap.SameBut it h1 h5:=⟨by rw [s5.1,s4.1,s3.1,s2.1],λb hb=>by rw [s5.2 b hb,s4.2 b hb,s3.2 b hb,s2.2 b hb]⟩
  have tt:=S.extBut _ _ (Nat.ne_of_gt bU) t1
  exact zzA (wpAny_letGo (zzG (hQ h5 ⟨_,_,_,_,e5,.inr ⟨_,rfl,Nat.ne_of_gt bU,_,tt⟩⟩ tt (S.1.trans z1) λb o hb q=>N2 b o hb h5 S q)))
 ·show wpAny (model prog w) A (loadIfAlive ((a:Int).toNat)>>=_) _ E _
  rw [zz4];refine zzA (kdx_alive (k1 _ _ hoa) ?_);simp! [Option.isNone_some,zze,if_false];refine zzA (wpAny_field e1 rfl (x:=y) rfl ?_);have fin:∀h2 y',h2.get? it=some (kW (rawInt (a:Nat)) y' d i n ep u z)->Heap.SameBut it h1 h2->Q (.ref (zz9 s)) {s with heap:=h2}:=λh2 y' e2 S=>hQ h2 ⟨_,_,_,_,e2,.inr ⟨a,rfl,ha,oa,S.extBut _ _ ha (k1 _ _ hoa)⟩⟩ (S.extBut _ _ (Nat.ne_of_gt bU) t1) (S.1.trans z1) λb o hb q=>N2 b o hb h2 S q
  refine wpAny_ite_split (λ_=>?_) (λ_=>?_)
  ·refine zzA (fld (s:={s with heap:=h1}) e1 (by simp) λh2 e2 s2=>zzG ?_)
   simp! [zze,if_false];exact zzG (fin h2 _ e2 s2)
  ·refine zzG ?_;simp! [zze,if_false];exact zzG (fin h1 y e1 (Heap.SameBut.refl _ _))
def BF{o:Obj}{Q:Value->Shared->Prop}(lo:(d==sysModules)=false)(h1:s.heap.get? d=some o)(hc:o.ExactDict)(hQ:Q (.ref (zz9 s)) {s with heap:=s.heap.push (hX d)}):wpAny (model prog w) A (Builtin.«dict.items» ⟨[.ref d],[]⟩) (λfin s'=>∃v,fin=.done (.ret v)/\Q v s') E s:=by
 have T:s.TypeIs (.ref d) "dict":=⟨o,h1,hc.1⟩
 unfold Builtin.«dict.items» Builtin.Dict.noArgs;refine zzA (zzA (wpAny_notOrdered_dict T ?_));show wpAny _ _ (pure d:Sem Addr) _ _ s;refine zzG ?_;show wpAny _ _ (Builtin.Dict.showsAll d>>=λ_=>_) _ _ s;unfold Builtin.Dict.showsAll;rw [if_neg (by rw [lo];exact zzf)];exact zzA (zzG (zzA (wpAny_newObj_type (zzG ⟨_,rfl,hQ⟩))))
def zV{r:Addr}{o:Obj}{es:Array DictEntry}{Q:Value->Shared->Prop}(hr:s.heap.get? r=some (hX d))(h1:s.heap.get? d=some o)(h2:o.data=.dict es ep)
 (hQ:Q (.ref (zz9 s)) {s with heap:=s.heap.push (kW .none (.bool false) d 0 es.size ep .none .none)}):wpAny (model prog w) A (pyIter (.ref r)) Q E s:=by
 have T:s.TypeIs (.ref r) "dict_items":=⟨_,hr,rfl⟩
 have own:Builtin.Dict_items.ownsTuple "dict_itemiterator"=true:=by decide
 refine wpAny_pyIter_slot T F.slot_dict_items_iter (wpAny_call_entry F.slot_dict_items_iter T F.entry_dict_items_iter ?_ (F.args_dict_items_iter_1 _));unfold Builtin.«dict_items.__iter__» Builtin.Dict_items.dictOf Builtin.Dict_items.newIterator;refine zzA (zzG (zzA (zzA (wpAny_field hr rfl (x:=.ref d) rfl (zzG (zzA (zzA (wpAny_dictEntries h1 h2 (zzA (wpAny_dictEpoch h1 h2 ?_))))))))));simp! [own,if_true];refine wpAny_newObj_type (zzG ⟨_,rfl,"dict_itemiterator",_,⟨_,zzX _ rfl,rfl⟩,F.slot_dict_itemiterator_next.lookup,?_⟩) (by simp! [sizeOk,Builtin.Dict_items.ownedTupleFields,zzC,zzM,zzL,List.length_nil,sizeLine_eq];omega)
 simpa [rawInt,Builtin.Dict_items.ownedTupleFields,kW] using hQ
def AR{o:Obj}{es:Array DictEntry}{Q:Option Value->Shared->Prop}(st:BP s.heap it d i es.size ep)(h1:s.heap.get? d=some o)(h2:o.data=.dict es ep)(hi:i<es.size)(hd:d≠it)
 (hQ:∀h',BP h' it d (i+1) es.size ep->h'.get? (zz9 s)=some (sQ es[i])->h'.objs.size=(zz9 s)+1->(∀b o,b≠it->s.heap.get? b=some o->h'.get? b=some o)->Q (some (.ref (zz9 s))) {s with heap:=h'}):wpAny (model prog w) A (pyNext (.ref it)) Q E s:=by
 obtain⟨x,y,u,v,e,hx⟩:=id st
 have T:s.TypeIs (.ref it) "dict_itemiterator":=⟨_,e,rfl⟩
 have own:Builtin.Dict_items.ownsTuple "dict_itemiterator"=true:=by decide
 unfold pyNext;refine zzA (wpAny_attempt (wpAny_callSpecial?_slot (name:=Str.ofString "__next__") T F.slot_dict_itemiterator_next (wpAny_call_entry F.slot_dict_itemiterator_next T F.entry_dict_itemiterator_next ?_ (F.args_dict_itemiterator_next_1 _))));refine zzA (zzG (zzA (zzA ?_)))
 first|refine zzA (wpAny_typeNameOfWhole_itemiter T (zzG (zzA (wpAny_fieldsOf e rfl ?_))))|refine zzA (wpAny_typeNameOf_itemiter T (zzG (zzA (wpAny_fieldsOf e rfl ?_))))
 simp! [own,if_true];show wpAny _ _ (if(Value.ref d==Value.none)=true then _ else _:Sem _) _ _ s;rw [if_neg (show¬((Value.ref d==Value.none)=true) from zzf)];refine zzA (zzG (zzA (wpAny_dictEntries h1 h2 ?_)));rw [if_neg (by simp)];refine zzA (zzG (zzA (wpAny_dictEpoch h1 h2 ?_)));rw [if_neg (by simp)];refine zzG ?_;simp! [show¬((i:Int)<0) from by omega,if_false,zz4,zz2 hi];refine zzA ?_
 first|refine zzA (wpAny_typeNameOfWhole_itemiter T (zzG (zzA (wpAny_isOneOf_itemiter T ?_))))|refine zzA (wpAny_typeNameOf_itemiter T (zzG (zzA (wpAny_isOneOf_itemiter T ?_))))
 show wpAny _ _ (setField (.ref it) 3 (rawInt ((i:Int)+1))>>=λ_=>_) _ _ s
 refine zzA (fld e (by simp) λu5 e2 s2=>zzA (wpAny_holding ?_))
 have Dl:BP u5 it d (i+1) es.size ep:=⟨x,y,u,v,by rw [e2];simp [rawInt,kW],hx.imp id λ⟨a,q1,q2,o,q3⟩=>⟨a,q1,q2,o,s2.extBut _ _ q2 q3⟩⟩
 have T2:Shared.TypeIs {s with heap:=u5} (.ref it) "dict_itemiterator":=⟨_,e2,rfl⟩
 refine zzA (wpAny_isOneOf_itemiter T2 (zzA (wpAny_isOneOf_itemiter T2 ?_)));show wpAny _ _ (Builtin.Dict_items.pairFromOwner (.ref it) 6 es[i].key es[i].val) _ _ {s with heap:=u5};refine yl (s:={s with heap:=u5}) Dl λh3 CG t3 z3 k3=>?_
 have z2:u5.objs.size=(zz9 s):=s2.1
 simp! [z2] at t3 z3⊢;exact zzG ⟨_,rfl,zzG (hQ h3 CG t3 z3 λb o hb q=>k3 b o hb (s2.extBut b o hb q))⟩
def Dz{o:Obj}{es:Array DictEntry}{Q:Option Value->Shared->Prop}(hh:A.handled=none)(st:BP s.heap it d i es.size ep)(h1:s.heap.get? d=some o)(h2:o.data=.dict es ep)(hi:es.size<=i)
 (hQ:∀h',Heap.ExtBut it s.heap h'->Q none {s with heap:=h'}):wpAny (model prog w) A (pyNext (.ref it)) Q E s:=by
 obtain⟨x,y,u,v,e,hx⟩:=st
 have T:s.TypeIs (.ref it) "dict_itemiterator":=⟨_,e,rfl⟩
 have own:Builtin.Dict_items.ownsTuple "dict_itemiterator"=true:=by decide
 unfold pyNext;refine zzA (wpAny_attempt (wpAny_callSpecial?_slot (name:=Str.ofString "__next__") T F.slot_dict_itemiterator_next (wpAny_call_entry F.slot_dict_itemiterator_next T F.entry_dict_itemiterator_next ?_ (F.args_dict_itemiterator_next_1 _))));refine zzA (zzG (zzA (zzA ?_)))
 first|refine zzA (wpAny_typeNameOfWhole_itemiter T (zzG (zzA (wpAny_fieldsOf e rfl ?_))))|refine zzA (wpAny_typeNameOf_itemiter T (zzG (zzA (wpAny_fieldsOf e rfl ?_))))
 simp! [own,if_true];show wpAny _ _ (if(Value.ref d==Value.none)=true then _ else _:Sem _) _ _ s;rw [if_neg (show¬((Value.ref d==Value.none)=true) from zzf)];refine zzA (zzG (zzA (wpAny_dictEntries h1 h2 ?_)));rw [if_neg (by simp)];refine zzA (zzG (zzA (wpAny_dictEpoch h1 h2 ?_)));rw [if_neg (by simp)];refine zzG ?_;simp! [show¬((i:Int)<0) from by omega,if_false,zz4,Array.getElem?_eq_none hi];refine zzA ?_
 first|refine zzA (wpAny_typeNameOfWhole_itemiter T (zzG ?_))|refine zzA (wpAny_typeNameOf_itemiter T (zzG ?_))
 show wpAny _ _ (setField (.ref it) 2 .none>>=λ_=>_) _ _ s
 refine zzA (wpAny_setField e rfl (by simp) ?_);show wpAny _ _ (newExc (.type "StopIteration") []>>=λ_=>_) _ _ _
 refine zzA ?_;simp! [newExc,newTuple];refine zzA (wpAny_newObj_type (zzA (m:=firstArgMember _ _) (wpAny_of_eq (a:=Value.none) (by first|rfl|(simp! [firstArgMember];rfl)) (wpAny_newObj_type ?_ (by size_fits)))) (by size_fits));simp! [raiseNew];refine zzA (wpAny_handled ?_);rw [show A.in1.handled=none from hh];refine zzA (zzG (wpAny_throw ?_));refine zzA (wpAny_isInstance (T:="StopIteration") (b:=true) ⟨_,zzX _ rfl,rfl⟩ isSubtype_stop ?_);exact zzG (hQ _ (((zzu ..).extBut.push _).push _))
end
def Got(h:Heap)(lo:Nat)(es:Array DictEntry)(as:List Addr):Prop:=as.Pairwise (·<·)/\∀(j:Nat) a,as[j]?=some a->lo<a/\∃hj:j<es.size,h.get? a=some (sQ es[j])
noncomputable abbrev lO(acc:Array Value)(c:Nat):Obj:={cls:=.type "list",dict:=none,data:=.seq acc c,slots:=#[]}
section
variable{prog:Program}{w:World}{A:Around}{E:Value->Shared->Prop}{s:Shared}{d:Addr}{o:Obj}{es:Array DictEntry}{ep:Nat}
def Got.snoc{h h':Heap}{lo:Nat}{as:List Addr}(g:Got h lo es as)(k:∀b x,lo<b->h.get? b=some x->h'.get? b=some x){a:Addr}(hl:lo<a)(hi:as.length<es.size)(top:∀b∈as,b<a)(e:h'.get? a=some (sQ es[as.length])):Got h' lo es (as++[a]):=by
 refine⟨List.pairwise_append.2 ⟨g.1,List.pairwise_singleton _ _,λx hx y hy=>by rw [zzi.1 hy];exact top x hx⟩,λj b hj=>?_⟩
 by_cases h1:j<as.length
 ·rw [zzr h1] at hj;obtain⟨q1,q2,q3⟩:=g.2 j b hj
  exact⟨q1,q2,k b _ q1 q3⟩
 ·rw [zzs (Nat.le_of_not_lt h1)] at hj;have:j=as.length:=by
   rcases Nat.lt_or_ge (j-as.length) 1 with q|q
   ·omega
   ·rw [List.getElem?_eq_none (by simpa using q)] at hj;cases hj
  subst this;rw [Nat.sub_self] at hj;cases hj;exact⟨hl,hi,e⟩
def xx{R:Result->Shared->Prop}{S I:Addr}{h1:Heap}(hh:A.handled=none)(zk:S<I)(hS:d≠S)(hI:d≠I)(h2:o.data=.dict es ep)(hn:es.size<=sizeLine)(res:Value)
 (hR:∀h' tk acc c as,(∀b x,b≠S->b≠I->h1.get? b=some x->h'.get? b=some x)->h'.get? S=some (lO acc c)->as.length=es.size->Got h' I es as->acc.toList=as.map Value.ref->R (.ok (.ret res)) {s with heap:=h',toks:=tk}):
 ∀(k i:Nat) (h:Heap) (tk c:Nat) (acc:Array Value) (as:List Addr),es.size-i=k->i<=es.size->BP h I d i es.size ep->h.get? d=some o->(∀b x,b≠S->b≠I->h1.get? b=some x->h.get? b=some x)->h.get? S=some (lO acc c)->acc.toList=as.map Value.ref->as.length=i->Got h I es as->
  codeAny (model prog w) A (.builtin "list.extend.loop" ⟨[.ref S,.ref I,res],[]⟩) R {s with heap:=h,toks:=tk}:=by
 have c9:S≠I:=zzb zk
 intro k
 induction k with
 |zero=>
  intro i h tk c acc as hk hi st ed kp eS ea el g;refine codeAny_builtin PySem.F.entry_extend_loop ?_;rw [zz7 PySem.F.plain_extend_loop _];show wpAny _ A.in1 (pyNext (.ref I)>>=λ_=>_) _ _ _
  refine zzA (Dz (s:={s with heap:=h,toks:=tk}) (A:=A.in1) hh st ed h2 (by omega) λh' x=>?_)
  exact zzG (hR h' tk acc c as (λb y q1 q2 q=>x b y q2 (kp b y q1 q2 q)) (x S _ c9 eS) (by omega) ⟨g.1,λj a hj=>let⟨q1,q2,q3⟩:=g.2 j a hj;⟨q1,q2,x a _ (Nat.ne_of_gt q1) q3⟩⟩ ea)
 |succ k ih=>
  intro i h tk c acc as hk hi st ed kp eS ea el g;have hz:acc.size=i:=by rw [<-zzd,ea,zzl,el]
  have zi:i<es.size:=by omega
  have JH:=zzO eS
  obtain⟨_,_,_,_,eI,_⟩:=id st
  have Pj:=zzO eI
  refine codeAny_builtin PySem.F.entry_extend_loop ?_;rw [zz7 PySem.F.plain_extend_loop _];show wpAny _ A.in1 (pyNext (.ref I)>>=λ_=>_) _ _ _
  refine zzA (AR (s:={s with heap:=h,toks:=tk}) (A:=A.in1) st ed h2 zi hI λh' fU t' z' k'=>?_)
  dsimp only at t' z' k'⊢;have J1:=k' S _ c9 eS
  have up:∀b x,b≠S->h'.get? b=some x->(h'.update S (Obj.mapSeq (·.push (Value.ref h.objs.size)))).get? b=some x:=λb x hb q=>(Heap.get?_update_other _ _ (Ne.symm hb)).trans q
  have Dl:BP (h'.update S (Obj.mapSeq (·.push (Value.ref h.objs.size)))) I d (i+1) es.size ep:=by
   obtain⟨x,y,u,v,q,hx⟩:=fU
   refine⟨x,y,u,v,up _ _ (Ne.symm c9) q,hx.imp id λ⟨a,q1,q2,q3,q4⟩=>?_⟩
   by_cases hb:a=S
   ·subst hb;exact⟨a,q1,q2,_,Heap.get?_update_self _ J1 rfl⟩
   ·exact⟨a,q1,q2,q3,up _ _ hb q4⟩
  show wpAny _ A.in1 (updateSeq S (·.push (Value.ref h.objs.size))>>=λ_=>_) _ _ _
  refine zzA (wpAny_updateSeq J1 rfl (zzG ⟨plainId_quiet PySem.F.plain_extend_loop _,ih (i+1) _ tk _ (acc.push (Value.ref h.objs.size)) (as++[h.objs.size]) (by omega) zi Dl (up d _ hS (k' d _ hI ed)) (λb x q1 q2 q=>up b x q1 (k' b x q2 (kp b x q1 q2 q))) (Heap.get?_update_self _ J1 rfl) (by rw [Array.toList_push,ea,List.map_append];rfl) (by rw [zzM,el];rfl) ?_⟩) (by rw [hz];omega) (by show(acc.push (Value.ref h.objs.size)).size<=sizeLine+1;rw [Array.size_push,hz];omega))
  subst el;refine g.snoc (λb x q q'=>up b x (Nat.ne_of_gt (Nat.lt_trans zk q)) (k' b x (Nat.ne_of_gt q) q')) Pj zi (λb hb=>?_) (up _ _ (Nat.ne_of_gt JH) t')
  obtain⟨j,hj⟩:=List.mem_iff_getElem?.1 hb
  exact zzO (g.2 j b hj).2.2
def qA{R:Result->Shared->Prop}{r S:Addr}(hh:A.handled=none)(hr:s.heap.get? r=some (hX d))(h1:s.heap.get? d=some o)(h2:o.data=.dict es ep)(hn:es.size<=sizeLine)(O3:S≠r)(MJ:d≠S)(res:Value)(c:Nat)(eS:s.heap.get? S=some (lO #[] c))
 (hR:∀h' tk acc c as,(∀b x,b≠S->s.heap.get? b=some x->h'.get? b=some x)->h'.get? S=some (lO acc c)->as.length=es.size->Got h' (zz9 s) es as->acc.toList=as.map Value.ref->R (.ok (.ret res)) {s with heap:=h',toks:=tk}):
 wpAny (model prog w) A.in1 (Builtin.List.listExtendWith (.ref S) (.ref r) res) (λfin s'=>match fin with|.done f=>R (.ok f) s'|.again c'=>c'.quiet=true/\codeAny (model prog w) A c' R s') (λe s'=>R (.error e) s') s:=by
 have T:s.TypeIs (.ref r) "dict_items":=⟨_,hr,rfl⟩
 have zk:S<(zz9 s):=zzO eS
 have Pf:d<(zz9 s):=zzO h1
 have kp:∀b x,s.heap.get? b=some x->(s.heap.push (kW .none (.bool false) d 0 es.size ep .none .none)).get? b=some x:=λb x q=>zzB _ q
 have eI:(s.heap.push (kW .none (.bool false) d 0 es.size ep .none .none)).get? (zz9 s)=some (kW .none (.bool false) d 0 es.size ep .none .none):=zzX _ rfl
 have key:∀(h:Heap) (c1 tk:Nat),(∀b x,b≠S->(s.heap.push (kW .none (.bool false) d 0 es.size ep .none .none)).get? b=some x->h.get? b=some x)->h.get? S=some (lO #[] c1)->codeAny (model prog w) A (.builtin "list.extend.loop" ⟨[.ref S,.ref (zz9 s),res],[]⟩) R {s with heap:=h,toks:=tk}:=λh c1 tk hk e1=>
  xx (h1:=s.heap) hh zk MJ (zzb Pf) h2 hn res (λh' O4 acc c as q1 q2 q3 q4 q5=>hR h' O4 acc c as (λb x hb q=>q1 b x hb (zzb (zzO q)) q) q2 q3 q4 q5) es.size 0 h tk c1 #[] [] rfl (Nat.zero_le _) ⟨_,_,_,_,hk _ _ (Nat.ne_of_gt zk) eI,.inl rfl⟩ (hk _ _ MJ (kp _ _ h1)) (λb x hb _ q=>hk b x hb (kp b x q)) e1 rfl rfl ⟨.nil,λj a hj=>by simp at hj⟩
 unfold Builtin.List.listExtendWith;refine zzA (wpAny_typeOf T ?_);have e1:Builtin.List.listSameRef (.ref S) (.ref r)=false:=by simp [Builtin.List.listSameRef,O3]
 have e2:(Value.type "dict_items"==Value.type "list")=false:=by decide
 have e3:(Value.type "dict_items"==Value.type "tuple")=false:=by decide
 simp! [e1,e2,e3,Bool.or_false,zze,if_false];refine zzA (zV hr h1 h2 ?_);have Ll:=kp _ _ eS
 refine zzA (wpAny_holding (kdx_hint ⟨_,kp _ _ hr,rfl⟩ ?_));refine wpAny_ite_split (λ_=>?_) (λ_=>zzG ⟨plainId_quiet PySem.F.plain_extend_loop _,key _ c _ (λb x _ q=>q) Ll⟩)
 refine zzA (wpAny_rule (zzA ?_));show wpAny _ _ (updateSeq S (·.push .none)>>=λ_=>updateSeq S (·.pop)) _ _ _
 refine zzA (wpAny_updateSeq Ll rfl ?_);have GL:=Heap.get?_update_self (Obj.mapSeq (·.push Value.none)) Ll rfl
 refine wpAny_updateSeq (hz:=by seq_fits) GL rfl ?_;have LP:=Heap.get?_update_self (Obj.mapSeq (·.pop)) GL rfl
 exact zzG ⟨plainId_quiet PySem.F.plain_extend_loop _,key _ _ _ (λb x hb q=>(Heap.get?_update_other _ _ (Ne.symm hb)).trans ((Heap.get?_update_other _ _ (Ne.symm hb)).trans q)) LP⟩
def GZ(s:Shared)(es:Array DictEntry)(res:Result)(s':Shared):Prop:=∃h' tk acc c as,res=.ok (.ret (.ref (zz9 s)))/\s'={s with heap:=h',toks:=tk}/\(∀b x,s.heap.get? b=some x->h'.get? b=some x)/\h'.get? (zz9 s)=some (lO acc c)/\as.length=es.size/\Got h' (zz9 s) es as/\acc.toList=as.map Value.ref
def o5{Q:List Value->Shared->Prop}{r:Addr}(hh:A.handled=none)(hr:s.heap.get? r=some (hX d))(h1:s.heap.get? d=some o)(h2:o.data=.dict es ep)(hn:es.size<=sizeLine)
 (hQ:∀h' tk as,(∀b x,s.heap.get? b=some x->h'.get? b=some x)->as.length=es.size->Got h' (zz9 s) es as->Q (as.map Value.ref) {s with heap:=h',toks:=tk}):wpAny (model prog w) A (collect (.ref r)) Q E s:=by
 have eS:(s.heap.push (seqObj "list" #[] 0)).get? (zz9 s)=some (lO #[] 0):=zzX _ rfl
 have kp:∀b x,s.heap.get? b=some x->(s.heap.push (seqObj "list" #[] 0)).get? b=some x:=λb x q=>zzB _ q
 have main:codeAny (model prog w) A (.builtin "proto.collect" ⟨[.ref r],[]⟩) (GZ s es) s:=by
  refine codeAny_builtin F.entry_proto_collect ?_;rw [zz7 F.plain_proto_collect _];show wpAny _ A.in1 (newList []>>=λl=>again (.builtin "list.__iadd__" ⟨[l,.ref r],[]⟩)) _ _ s
  refine zzA (wpAny_newList (zzG ⟨plainId_quiet F.plain_list_iadd _,codeAny_builtin F.entry_list_iadd ?_⟩) (Nat.zero_le _));rw [zz7 F.plain_list_iadd _];refine qA (R:=GZ s es) (s:={s with heap:=s.heap.push (seqObj "list" #[] 0)}) hh (kp _ _ hr) (kp _ _ h1) h2 hn (Nat.ne_of_gt (zzO hr)) (zzb (zzO h1)) (.ref (zz9 s)) 0 eS λh' tk acc c as q1 q2 q3 q4 q5=>⟨h',tk,acc,c,as,rfl,rfl,λb x q=>q1 b x (zzb (zzO q)) (kp b x q),q2,q3,⟨q4.1,λj a hj=>?_⟩,q5⟩
  obtain⟨u1,u2⟩:=q4.2 j a hj
  exact⟨Nat.lt_trans (by show _<(s.heap.push (seqObj "list" #[] 0)).objs.size;rw [Heap.size_push];exact Nat.lt_succ_self _) u1,u2⟩
 unfold collect;refine zzA (wpAny_runValue (codeAny_mono main λres s' hr=>?_));obtain⟨h',tk,acc,c,as,rfl,rfl,k1,k2,k3,k4,k5⟩:=hr
 show wpAny _ A (load (zz9 s)>>=λz=>_) _ _ _
 refine zzA (wpAny_load k2 (zzG ?_));show Q acc.toList _;rw [k5];exact hQ h' tk as k1 k3 k4
end
noncomputable def gM(H:Hp)(L:List (Addr×HO)):Hp:=λb=>(L.lookup b).or (H b)
def lookup_mem{L:List (Addr×HO)}{b:Addr}{o:HO}(h:L.lookup b=some o):(b,o)∈L:=by
 induction L with
 |nil=>cases h
 |cons p L ih=>
  obtain⟨a,x⟩:=p
  rw [zz5] at h
  by_cases e:b==a
  ·rw [e] at h;cases h;rw [zzy.1 e];exact zzP
  ·rw [Bool.eq_false_iff.2 e] at h;exact zzI _ (ih h)
section
variable{X:Cx}{aa:List (Addr×Obj)}{σ:St}{H:Hp}{s:Shared}{h':Heap}
def cI{L:List (Addr×HO)}(hn:∀p∈L,H p.1=none){b:Addr}{o:HO}(e:H b=some o):gM H L b=some o:=by
 unfold gM;cases q:L.lookup b with
 |none=>exact e
 |some x=>rw [hn _ (lookup_mem q)] at e;cases e
def Inv.Hl{L:List (Addr×HO)}{t':Nat}(I:Inv X aa σ H s)(k:∀b u,s.heap.get? b=some u->h'.get? b=some u)(hp:∀p∈L,(zz9 s)<=p.1)(new:∀a o,L.lookup a=some o->aY X.prog X.w (gM H L) h' a o):Inv X aa σ (gM H L) {s with heap:=h',toks:=t'}:=by
 have hn:∀p∈L,H p.1=none:=λp hm=>I.aU.fresh (hp p hm)
 refine I.un ⟨λb u q _ _ _=>k b u q,λb u q _ _ _=>⟨u.slots,k b u q⟩,λb u q n _=>?_,λb u q _=>⟨u,k b u q⟩,λb xs q=>cI hn q,λb u xs q=>cI hn q,λb ps q=>⟨#[],by rw [cI hn q];simp⟩⟩ λb u e=>?_
 ·unfold gM;cases e:L.lookup b with
  |none=>exact n
  |some x=>exact absurd (zzO q) (Nat.not_lt_of_le (hp _ (lookup_mem e)))
 ·unfold gM at e;cases q:L.lookup b with
  |some x=>
   rw [q] at e;cases e;exact new b u q
  |none=>
   rw [q] at e;exact(I.aU b u e).fH (λc v _ z=>k c v z) (λc z=>cI hn z) λc xs z=>cI hn z
end
noncomputable def JA(p d:Addr):HO:=.ext λh=>h.get? p=some (hX d)
theorem jv:∀{as:List Addr} {os:List HO} {j:Nat} {a:Addr} {o:HO},as.Nodup->as[j]?=some a->os[j]?=some o->(as.zip os).lookup a=some o
 |a::as,x::os,0,_,_,_,e1,e2=>by
  cases e1;cases e2;rw [List.zip_cons_cons,zz5,beq_self_eq_true]
 |b::as,x::os,j+1,a,o,nd,e1,e2=>by
  obtain⟨n1,n2⟩:=List.nodup_cons.1 nd
  have:(a==b)=false:=beq_eq_false_iff_ne.2 λz=>n1 (z▸zzD e1)
  rw [List.zip_cons_cons,zz5,this];exact jv n2 e1 e2
theorem gU:∀l:List Addr,Vals (l.map V.ref) (l.map Value.ref)
 |[]=>.nil
 |_::l=>.cons rfl (gU l)
noncomputable abbrev sj(ai:List (Int×Int)):List (Key×V):=ai.map λq=>(.inl q.1,V.int q.2)
noncomputable def bH:List (Int×Int)->Int->List (Int×Int)
 |[],k=>[(k,1)]
 |(k',n)::r,k=>if k'=k then(k',n+1)::r else(k',n)::bH r k
noncomputable def dN:List (Int×Int)->Int->Int
 |[],_=>0
 |(k',n)::r,k=>if k'=k then n else dN r k
theorem rS:∀(ai:List (Int×Int)) (k:Int),(gA (sj ai) (.inl k)).getD (V.int 0)=.int (dN ai k)
 |[],k=>rfl
 |(k',n)::r,k=>by
  by_cases e:k'=k
  ·rw [sj,zzF,ee (by rw [e]),dN,if_pos e];rfl
  ·rw [sj,zzF,eF (by simpa using e),dN,if_neg e];exact rS r k
theorem rW:∀(ai:List (Int×Int)) (k:Int),(ai.map (·.1)).Nodup->putK (sj ai) (.inl k) (.int (dN ai k+1))=sj (bH ai k)
 |[],k,_=>rfl
 | (k',n)::r,k,nd=>by
  rw [zzF,List.nodup_cons] at nd;have ih:=rW r k nd.2
  by_cases e:k'=k
  ·subst e;rw [bH,if_pos rfl,dN,if_pos rfl];unfold putK;rw [if_pos (by simp)];simp! [sj,zzF,if_true,List.map_map]
   congr 1
   refine List.map_congr_left λq hq=>?_
   have:q.1≠k':=λz=>nd.1 (z▸List.mem_map_of_mem (f:=(·.1)) hq)
   simp [this]
  ·rw [bH,if_neg e,dN,if_neg e];unfold putK at ih⊢;have e2:¬((Sum.inl k':Key)=.inl k):=by simpa using e
   simp! [sj,zzF,List.any_cons,zz0 e2,Bool.false_or] at ih⊢;split at ih
   ·rename_i h;rw [if_pos h];simp! [zzF,if_neg e2];rw [ih]
   ·rename_i h;rw [if_neg h,List.cons_append,ih]
theorem gP:∀(ai:List (Int×Int)) (k:Int),(ai.map (·.1)).Nodup->((bH ai k).map (·.1)).Nodup/\∀x,x∈(bH ai k).map (·.1)->x∈ai.map (·.1)\/x=k
 |[],k,_=>⟨by simp [bH],λx hx=>by simpa [bH] using hx⟩
 |(k',n)::r,k,nd=>by
  rw [zzF,List.nodup_cons] at nd;obtain⟨h1,h2⟩:=gP r k nd.2
  by_cases e:k'=k
  ·rw [bH,if_pos e];exact⟨by rw [zzF,List.nodup_cons];exact nd,λx hx=>.inl hx⟩
  ·rw [bH,if_neg e];refine⟨by rw [zzF,List.nodup_cons];exact⟨λz=>(h2 _ z).elim nd.1 e,h1⟩,λx hx=>?_⟩
   rcases zzm.1 hx with z|z
   ·exact .inl (zzm.2 (.inl z))
   ·exact(h2 x z).imp (λy=>zzI _ y) id
theorem oD:∀(ai:List (Int×Int)) (k:Int),(bH ai k).length<=ai.length+1
 |[],k=>zzE _
 |(k',n)::r,k=>by
  rw [bH];split
  ·exact Nat.le_succ _
  ·exact Nat.succ_le_succ (oD r k)
section
variable{X:Cx}{aa:List (Addr×Obj)}{σ:St}{H:Hp}{s:Shared}{d:Addr}{ai:List (Key×V)}
def rB(I:Inv X aa σ H s)(e:H d=some (.dK ai)):(d==sysModules)=false/\(ai.map (·.1)).Nodup/\∃o es ep,s.heap.get? d=some o/\o.ExactDict/\o.data=.dict es ep/\es.size=ai.length/\∀(i:Nat) (h:i<es.size),∃k v,ai[i]?=some (k,v)/\(aN X.prog X.w).is k es[i].key=true/\RelV v es[i].val:=by
 obtain⟨z0,lo,xs,rel,o,es,ep,h1,h2,h3,h4,h5,h6⟩:=(show aY X.prog X.w H s.heap d (.dK ai) from I.aU d _ e)
 have hl:es.size=xs.length:=by rw [<-zzd];exact h5.length
 have hx:ai.length=xs.length:=Paired.length rel
 have ks:ai.map (·.1)=xs.map (·.1):=by
  clear hl hx h4 h5 h6 z0 e I
  induction rel with
  |nil=>rfl
  |cons h t ih=>rw [zzF,zzF,h.1,ih]
 refine⟨lo,ks▸h6,o,es,ep,h1,h2,h3,hl.trans hx.symm,λi hi=>?_⟩
 have pa:∀{l:List DictEntry} {m:List (Key×Value)},PySem.Pairs (aN X.prog X.w) l m->∀(i:Nat) x q,l[i]?=some x->m[i]?=some q->(aN X.prog X.w).is q.1 x.key=true/\x.val=q.2:=λh=>by
  induction h with
  |nil=>intro i x q e1;simp at e1
  |cons a b t ih=>
   intro i x q e1 e2;cases i with
   |zero=>simp at e1 e2;subst e1 e2;exact⟨a,b⟩
   |succ i=>exact ih i x q (by simpa using e1) (by simpa using e2)
 have q:=dO rel (zzg (show i<ai.length by omega)) (zzg (show i<xs.length by omega))
 obtain⟨p1,p2⟩:=pa h5 i es[i] xs[i] (by rw [Array.getElem?_toList,zz2 hi]) (zzg (by omega))
 exact⟨_,_,zzg (show i<ai.length by omega),(congrArg (λz=>(aN X.prog X.w).is z es[i].key) q.1).trans p1,by rw [p2];exact q.2⟩
variable{o:Expr}{to:TE}{apos ba:Pos}
def vq(ho:PE X o to)(cY:attributeBase o "items" X.env (eval o X.env)=eval o X.env)(dX:(apos.endLine==ba.line)=true):PE X (.Call (.Attribute o "items" apos) [] [] ba) (λσ H Q=>to σ H λx H1=>∃d ai,x=.ref d/\H1 d=some (.dK ai)/\∀p,H1 p=none->p≠d->Q (.ref p) (upd H1 p (JA p d))):=by
 intro aa s σ H Q I h;refine wpAny_Call_method0_late cY dX (bh (ho aa s σ H _ I h) λv s1 ⟨x,H1,I1,r1,d,ai,ex,hd,q1⟩=>?_)
 subst ex;cases r1;obtain⟨lo,_,od,es,ep,h0,hx,h3,_⟩:=rB I1 hd
 have T:s1.TypeIs (.ref d) "dict":=⟨od,h0,hx.1⟩
 refine⟨"dict","dict.items",PySem.F.plainAttrs_dict,PySem.F.slot_dict_items,PySem.F.type_dict_items,T,λa e=>by cases e;exact⟨od,h0,hx.2.1⟩,Calls.callWith_builtin rfl (PySem.evalArgs_none (wpAny_call_entry PySem.F.slot_dict_items T PySem.F.entry_dict_items (BF lo h0 hx ?_) (PySem.F.args_dict_items_1 _)))⟩
 have en:(s1.heap.push (hX d)).get? (zz9 s1)=some (hX d):=zzX _ rfl
 exact⟨.ref (zz9 s1),_,I1.laid (a:=(zz9 s1)) (o:=JA (zz9 s1) d) (t':=s1.toks) (λb u q=>zzB _ q) (zzE _) ⟨en,⟨_,en⟩,λh1 h2 q1 q2=>q2 _ q1⟩,rfl,q1 _ (I1.aU.fresh (zzE _)) (Nat.ne_of_gt (zzO h0))⟩
end
noncomputable abbrev FY(q:Int×Int):HO:=.tup [.int q.1,.int q.2]
abbrev IX(H:Hp)(vs:List V)(ps:List (Int×Int)):Prop:=Paired (λv (q:Int×Int)=>∃b,v=V.ref b/\H b=some (FY q)) vs ps
theorem xV{H:Hp}:∀{l:List Addr} {m:List (Int×Int)},l.length=m.length->(∀(j:Nat) a q,l[j]?=some a->m[j]?=some q->H a=some (FY q))->IX H (l.map V.ref) m
 |[],[],_,_=>.nil
 |a::l,y::m,hl,hf=>.cons ⟨a,rfl,hf 0 a y rfl rfl⟩ (xV (by simpa using hl) λj a q e1 e2=>hf (j+1) a q e1 e2)
def IX.ints{K:zz8}{H:Hp}{vs:List V}{ps:List (Int×Int)}(h:IX H vs ps):jW K H vs (ps.map λq=>[q.1,q.2]):=by
 induction h with
 |nil=>exact .nil
 |cons h t ih=>
  obtain⟨b,rfl,f1⟩:=h
  exact .cons ⟨b,rfl,.inl (.inl f1),λz=>nomatch z⟩ ih
def ni{X:Cx}(hc:X.calm=true):bF X (.builtin "sorted") (λxs H Q=>∃p d,∃ps:List (Int×Int),xs=[V.ref p]/\H p=some (JA p d)/\H d=some (.dK (sj ps))/\ps.length<64/\
 ∀l vs L,(∀x∈L,H x.1=none)->IX (gM H L) vs ps->gM H L l=none->Q (.ref l) (upd (gM H L) l (.lst (gZ V.aI vs (ps.map λq=>[q.1,q.2]))))):=by
 intro aa s σ H xs us Q I r h;obtain⟨p,d,ps,rfl,hp,hd,CO,q⟩:=h
 obtain⟨u,rfl,ru⟩:=vals1 r
 cases ru;have hv:s.heap.get? p=some (hX d):=(I.aU p _ hp).1
 obtain⟨lo,_,od,es,ep,h0,hx,h3,hz,hk⟩:=rB I hd
 rw [zzl] at hz;refine Calls.call_function_entry kind_sorted plain_sorted entry_sorted (args_sorted1 _) ?_;unfold Builtin.«sorted»;refine zzA (m:=checkCount "sorted" 1 1 _) (zzG (zzA (o5 (show X.A.in1.handled=none from I.ok.hd hc) hv h0 h3 (by rw [sizeLine_eq];omega) λh' tk as kp ln got=>?_)))
 have nd:as.Nodup:=got.1.imp λbU=>zzb bU
 have mem:∀x∈as.zip (ps.map FY),∃j:Nat,as[j]?=some x.1:=λx hm=>List.mem_iff_getElem?.1 (List.of_mem_zip hm).1
 have at_:∀(j:Nat) a,as[j]?=some a->∃(e:DictEntry) (q:Int×Int),ps[j]?=some q/\h'.get? a=some (sQ e)/\RelV (V.int q.1) e.key/\RelV (V.int q.2) e.val/\(as.zip (ps.map FY)).lookup a=some (FY q):=λj a hj=>by
  obtain⟨_,hi,e1⟩:=got.2 j a hj
  obtain⟨k,v,e3,e4,e5⟩:=hk j hi
  have vC:j<ps.length:=by omega
  rw [zzQ,zzg vC] at e3;cases e3;refine⟨es[j],ps[j],zzg vC,e1,?_,e5,jv nd hj (by rw [zzQ,zzg vC];rfl)⟩;rcases aQ (k:=.inl ps[j].1) e4 with⟨i,t,q1,q2⟩|⟨x,t,q1,q2⟩
  ·cases q1;exact⟨t,q2⟩
  ·cases q1
 generalize as.zip (ps.map FY)=L at mem at_
 have La:∀x∈L,(zz9 s)<=x.1:=λx hm=>by
  obtain⟨j,hj⟩:=mem x hm
  exact Nat.le_of_lt (got.2 j _ hj).1
 have hn:∀x∈L,H x.1=none:=λx hm=>I.aU.fresh (La x hm)
 have I1:Inv X aa σ (gM H L) {s with heap:=h',toks:=tk}:=I.Hl kp La λa o e=>by
  obtain⟨j,hj⟩:=mem _ (lookup_mem e)
  obtain⟨en,qq,_,e1,e2,e3,e5⟩:=at_ j a hj
  rw [e5] at e;cases e;exact⟨by rw [sizeLine_eq];show 2<=_;decide,[en.key,en.val],.cons e2 (.cons e3 .nil),⟨_,e1,rfl,_,rfl⟩⟩
 have pr:=xV (H:=gM H L) (l:=as) (m:=ps) (by omega) λj a q' hj hq=>by
  obtain⟨en,qq,e0,e1,e2,e3,e5⟩:=at_ j a hj
  rw [hq] at e0;cases e0;unfold gM;rw [e5]
  rfl
 exact jo I1 (gU as) (oA I1 (gU as) pr.ints) (by rw [zzl];omega) λl hl=>q l _ _ hn pr hl
end L2
namespace L2
open PySem PySem.Spec PyProof.Rows
noncomputable def L1(a C:Addr):HO:=.ext λh=>∃ob vs,h.get? a=some ob/\ob.cls=.ref C/\ob.data=.fields vs
section
variable{P:Program}{w:World}
def F1.fresh{outer:List Env}{H:Hp}{s s':Shared}{E:XK}{a C t:Addr}{vs:List Value}{H':Hp}{B:Heap}(F:F1 P w outer H s E a C t vs H' B s'):H' a=none:=by
 cases z:H' a with
 |none=>rfl
 |some o=>
  obtain⟨o',hV⟩:=ic (F.aU _ _ z)
  rw [F.Jl.2.1] at hV;cases hV
end
structure Dc(K:zz8)(C:Addr):Prop where
 ga:PySem.W.findIn K (.ref C) "__getattribute__"=some (some (.builtin "BaseException.__getattribute__"))
 hk:PySem.W.findIn K (.ref C) "__getattr__"=some none
 cl:PySem.W.findIn K (.ref C) "__class__"=some (some (.builtin "object.__class__"))
 mo:PySem.W.mroIn K C (.type "object")=some true
 mb:PySem.W.mroIn K C (.type "BaseException")=some true
 is:(PySem.W.clsIn K C).isSome=true
theorem mi{α β:Type}{R:α->β->Prop}:∀{xs:List α} {ys:List β},Paired R xs ys->∀{i:Nat} {x:α},xs[i]?=some x->∃y,ys[i]?=some y/\R x y
 |_,_,.nil,_,_,h=>by simp at h
 |_,_,.cons r t,0,x,h=>by simp at h;subst h;exact⟨_,rfl,r⟩
 |_,_,.cons r t,i+1,x,h=>by
  obtain⟨y,h1,h2⟩:=mi t (i:=i) (x:=x) (by simpa using h)
  exact⟨y,by simpa using h1,h2⟩
theorem jV{α β:Type}{R:α->β->Prop}:∀{xs:List α} {ys:List β},Paired R xs ys->xs.length=ys.length
 |_,_,.nil=>rfl
 |_,_,.cons _ t=>by simp [jV t]
section
def wG{vs:List V}{ae:List Value}(r:Vals vs ae){j:Nat}(h:j<ae.toArray.size):∃v,vs[j]?=some v/\RelV v ae.toArray[j]:=by
 have hl:=r.length
 rw [zzC] at h;have hj:j<vs.length:=by omega
 obtain⟨u,hu,ru⟩:=r.get (i:=j) (x:=vs[j]) (zzg hj)
 rw [zzg h] at hu;cases hu;exact⟨_,zzg hj,by simpa using ru⟩
end
section
variable{X:Cx}
def uJ(hc:X.calm=true):bF X (.builtin "sum") (λxs H Q=>∃(p:Addr) (ns:List Int),xs=[.ref p]/\fQ X.K H p (ns.map V.int)/\PyProof.Rows.SumFits ns/\Q (.int ns.sum) H):=by
 intro aa s σ H xs us Q I r h;obtain⟨p,ns,rfl,hp,EW,q⟩:=h
 obtain⟨u,rfl,ru⟩:=vals1 r
 cases ru;obtain⟨ae,rv,pl,hz⟩:=I.list hp
 have bU:p<(zz9 s):=by obtain⟨_,e,_⟩:=pl.isList;exact zzO e
 have hlen:ae.length=ns.length:=by rw [<-rv.length,zzl]
 refine call_sum_walk (wpAny_pyIter_list pl.isList ?_);refine⟨(zz9 s),_,_,ae.toArray.size,_,_,λi=>ns.getD i 0,rfl,Walks.list (A:=X.A.in1) (I.ok.hd hc) (zz9 s) p (zzb bU) ae.toArray,⟨⟨_,zzX _ rfl,rfl,rfl⟩,pl.isList.push _⟩,λb hb=>?_,λi v hP=>?_,λj hj=>?_,λh' tk t' hk=>?_⟩
 ·have:b=(zz9 s)\/b=p:=by simpa using hb
  rw [Heap.size_push];rcases this with e|e
  ·rw [e];exact Nat.lt_succ_self _
  ·rw [e];exact Nat.lt_succ_of_lt bU
 ·have hv:ae[i]?=some v:=by simpa using hP
  have hi:i<ns.length:=by rw [<-hlen];exact(zzH.mp hv).1
  obtain⟨u,hu,t,ru⟩:=rv.get (i:=i) (x:=V.int ns[i]) (by rw [zzQ,zzg hi];rfl)
  rw [hv] at hu;cases hu;refine⟨t,?_⟩;show _=Value.int (ns.getD i 0) t
  rw [ru,zzK,zzg hi]
  rfl
 ·rw [zzC,hlen] at hj;have:=EW j hj
  show InLong (ns.getD j 0)/\InLong (preSum (λi=>ns.getD i 0) (j+1))
  rw [preSum_getD];exact this
 ·rw [preSum_getD,zzC,hlen,List.take_length];exact⟨.int ns.sum,H,I.kept λb o e=>hk b o (by simp;exact zzb (zzO e)) (zzB _ e),⟨_,rfl⟩,q⟩
end
end L2
namespace Ci
open PySem L2
def aM{p:Prop}(h:false=true):p:=absurd h zzf
inductive PV where
 |aI|bl (b:Bool)|int (i:Int)|str (z:Str)
 |tup (xs:List PV)|lst (xs:List PV)
 |exc (c:Str)
 |dB (ks:List (List Int)) (vs:List PV)
 deriving Inhabited
structure Wd where
 K:zz8
 mg:Str->Option Value
 xs:List Str
 ts:List (Addr×Str):=[]
def nX(K:zz8)(H:Hp)(a:Addr)(vs:List V):Prop:=
 Rd H a (.lst vs)\/∃(ae:Array Value) (n:Nat),K.lookup a=some {cls:=.type "list",data:=.seq ae n}/\ae.size<=sizeLine/\Vals vs ae.toList
def FG(K:zz8)(G:Hp)(a:Addr)(vs:List V):Prop:=G a=some (.tup vs)\/dJ K G a vs/\∃z,V.str z∈vs
theorem FG.sq{K:zz8}{G:Hp}{a:Addr}{vs:List V}:FG K G a vs->dJ K G a vs
 |.inl h=>.inl (.inl h)
 |.inr h=>h.1
noncomputable def kz(ks:List (List Int))(us:List V):List (List Key×V):=(ks.map λk=>k.map Sum.inl).zip us
mutual
def Rep(W:Wd)(G:Hp):PV->V->Prop
 |.aI,v=>v=.aI
 |.bl b,v=>v=.bl b
 |.int i,v=>v=.int i
 |.str z,v=>v=.str z
 |.tup xs,v=>∃a vs,v=.ref a/\FG W.K G a vs/\ah W G xs vs
 |.lst xs,v=>∃a vs,v=.ref a/\nX W.K G a vs/\ah W G xs vs
 |.exc c,v=>∃a C,v=.ref a/\c∈W.xs/\W.mg c=some (.ref C)/\G a=some (L1 a C)
 |.dB ks vs,v=>∃a o us,v=.ref a/\ks.length=us.length/\G a=some (.cV o (.dT (kz ks us)))/\ah W G vs us
def ah(W:Wd)(G:Hp):List PV->List V->Prop
 |[],vs=>vs=[]
 |p::ps,vs=>∃v r,vs=v::r/\Rep W G p v/\ah W G ps r
end
def aq.tup{K:zz8}{H H':Hp}{a:Addr}{xs:List V}(e:aq H H')(h:dJ K H a xs):dJ K H' a xs:=by
 rcases h with(h|⟨o,h⟩)|h
 ·exact .inl (.inl (e _ _ h))
 ·exact .inl (.inr ⟨o,e _ _ h⟩)
 ·exact .inr h
def aq.tp{K:zz8}{H H':Hp}{a:Addr}{xs:List V}(e:aq H H')(h:FG K H a xs):FG K H' a xs:=h.elim (λz=>.inl (e _ _ z)) λz=>.inr ⟨aq.tup e z.1,z.2⟩
def aq.rd{H H':Hp}{a:Addr}{u:HO}(e:aq H H')(h:Rd H a u):Rd H' a u:=by
 rcases h with h|⟨o,h⟩
 ·exact .inl (e _ _ h)
 ·exact .inr ⟨o,e _ _ h⟩
def aq.ls{K:zz8}{H H':Hp}{a:Addr}{vs:List V}(e:aq H H')(h:nX K H a vs):nX K H' a vs:=h.elim (λz=>.inl (aq.rd e z)) .inr
section
variable{W:Wd}{G G':Hp}
mutual
theorem Rep.same(s:aq G G'):∀(p:PV) {v:V},Rep W G p v->Rep W G' p v
 |.aI,_,h=>by simpa only [Rep] using h
 |.bl b,_,h=>by simpa only [Rep] using h
 |.int i,_,h=>by simpa only [Rep] using h
 |.str z,_,h=>by simpa only [Rep] using h
 |.tup xs,_,h=>by
  simp! [Rep] at h⊢;obtain⟨a,vs,e,q,l⟩:=h
  exact⟨a,vs,e,aq.tp s q,ah.same s xs l⟩
 |.lst xs,_,h=>by
  simp! [Rep] at h⊢;obtain⟨a,vs,e,q,l⟩:=h
  exact⟨a,vs,e,aq.ls s q,ah.same s xs l⟩
 |.exc c,_,h=>by
  simp! [Rep] at h⊢;obtain⟨a,C,e,x,m,q⟩:=h
  exact⟨a,C,e,x,m,s _ _ q⟩
 |.dB ks vs,_,h=>by
  simp! [Rep] at h⊢;obtain⟨a,o,us,e,n,m,l⟩:=h
  exact⟨a,o,us,e,n,s _ _ m,ah.same s vs l⟩
theorem ah.same(s:aq G G'):∀(ps:List PV) {vs:List V},ah W G ps vs->ah W G' ps vs
 |[],_,h=>by simpa only [ah] using h
 |p::ps,_,h=>by
  simp! [ah] at h⊢;obtain⟨v,r,e,h1,h2⟩:=h
  exact⟨v,r,e,Rep.same s p h1,ah.same s ps h2⟩
end
theorem ah.paired:∀{ps:List PV} {vs:List V},ah W G ps vs->Paired (λv p=>Rep W G p v) vs ps
 |[],_,h=>by simp! [ah] at h;subst h;exact .nil
 |p::ps,_,h=>by
  simp! [ah] at h;obtain⟨v,r,rfl,h1,h2⟩:=h
  exact .cons h1 (ah.paired h2)
def ah.length{ps:List PV}{vs:List V}(h:ah W G ps vs):vs.length=ps.length:=jV h.paired
def ah.nil:ah W G [] []:=by simp! [ah]
def ah.cons{p:PV}{v:V}{ps:List PV}{vs:List V}(h:Rep W G p v)(t:ah W G ps vs):ah W G (p::ps) (v::vs):=by simp! [ah];exact⟨_,_,rfl,h,t⟩
def ah.bK{p:PV}{ps:List PV}{vs:List V}(h:ah W G (p::ps) vs):∃v r,vs=v::r/\Rep W G p v/\ah W G ps r:=by simpa only [ah] using h
theorem ah.append:∀{ps qs:List PV} {vs us:List V},ah W G ps vs->ah W G qs us->ah W G (ps++qs) (vs++us)
 |[],_,_,_,h,k=>by simp! [ah] at h;subst h;exact k
 |p::ps,_,_,_,h,k=>by
  obtain⟨v,r,rfl,h1,h2⟩:=h.bK
  exact .cons h1 (h2.append k)
def ah.get:∀{ps:List PV} {vs:List V} {i:Nat} {v:V},ah W G ps vs->vs[i]?=some v->∃p,ps[i]?=some p/\Rep W G p v:=λh e=>mi h.paired e
theorem ah.nt:∀{ps:List PV} {vs:List V} {i:Nat} {p:PV},ah W G ps vs->ps[i]?=some p->∃v,vs[i]?=some v/\Rep W G p v
 |[],_,_,_,_,e=>by simp at e
 |p::ps,_,0,q,h,e=>by
  obtain⟨v,r,rfl,h1,h2⟩:=h.bK
  simp at e;subst e;exact⟨v,rfl,h1⟩
 |p::ps,_,i+1,q,h,e=>by
  obtain⟨v,r,rfl,h1,h2⟩:=h.bK
  obtain⟨u,e1,k⟩:=h2.nt (i:=i) (by simpa using e)
  exact⟨u,by simpa using e1,k⟩
end
def fS(H H':Hp):Prop:=∀b o,H b=some o->(∀ps,o≠.fh ps)/\H' b=some o\/∃ps m,o=.fh ps/\H' b=some (.fh (ps++m))
def fS.refl(H:Hp):fS H H:=λb o h=>by
 cases o with
 |fh ps=>exact .inr ⟨ps,#[],rfl,by simpa using h⟩
 |_=>exact .inl ⟨(λ_ z=>nomatch z),h⟩
def fS.trans{H H1 H2:Hp}(a:fS H H1)(b:fS H1 H2):fS H H2:=λc o h=>by
 rcases a c o h with⟨n,e⟩|⟨ps,m,rfl,e⟩
 ·rcases b c o e with y|⟨ps,m,rfl,e2⟩
  ·exact .inl y
  ·exact absurd rfl (n ps)
 ·rcases b c _ e with⟨n,_⟩|⟨ps',m',e2,e3⟩
  ·exact absurd rfl (n _)
  ·cases e2;exact .inr ⟨ps,m++m',rfl,by rw [e3,Array.append_assoc]⟩
def fS.free{H H':Hp}(e:fS H H'){l:Addr}(h:H' l=Option.none):H l=Option.none:=by
 cases q:H l with
 |none=>rfl
 |some o=>
  rcases e l o q with⟨_,z⟩|⟨_,_,_,z⟩
  ·rw [h] at z;cases z
  ·rw [h] at z;cases z
def fS.at{H H':Hp}(e:fS H H'){b:Addr}{o:HO}(h:H b=some o)(n:∀ps,o≠.fh ps):H' b=some o:=by
 rcases e b o h with⟨_,z⟩|⟨ps,_,rfl,_⟩
 ·exact z
 ·exact absurd rfl (n ps)
def fS.rA{H H':Hp}(e:fS H H'){b:Addr}(h:H b≠none)(n:∀vs,H b≠some (.tup vs)):∀vs,H' b≠some (.tup vs):=λvs z=>by
 cases q:H b with
 |none=>exact h q
 |some o=>
  rcases e b o q with⟨_,y⟩|⟨_,_,_,y⟩
  ·rw [z] at y;cases y;exact n vs q
  ·rw [z] at y;cases y
def fS.of{H H':Hp}(e:aq H H'):fS H H':=λb o h=>by
 cases o with
 |fh ps=>exact .inr ⟨ps,#[],rfl,by simpa using e _ _ h⟩
 |_=>exact .inl ⟨(λ_ z=>nomatch z),e _ _ h⟩
def fS.tup{K:zz8}{H H':Hp}{a:Addr}{xs:List V}(e:fS H H')(h:dJ K H a xs):dJ K H' a xs:=by
 rcases h with(h|⟨o,h⟩)|h
 ·exact .inl (.inl (e.at h (λ_ z=>nomatch z)))
 ·exact .inl (.inr ⟨o,e.at h (λ_ z=>nomatch z)⟩)
 ·exact .inr h
def fS.ls{K:zz8}{H H':Hp}{a:Addr}{vs:List V}(e:fS H H')(h:nX K H a vs):nX K H' a vs:=by
 rcases h with(h|⟨o,h⟩)|h
 ·exact .inl (.inl (e.at h (λ_ z=>nomatch z)))
 ·exact .inl (.inr ⟨o,e.at h (λ_ z=>nomatch z)⟩)
 ·exact .inr h
def b9(W:Wd)(G H:Hp):Prop:=∀P q,(P,q)∈W.ts->G P=none/\∃ps,H P=some (.fh ps)/\TriplesOk ps.toList/\
 ∀pos cv,codeAmong pos ps.toList=some cv->∃c' oc qo t,cv=.ref c'/\G c'=some (.cV oc qu)/\oc.data=.fields qo/\qo[1]?=some (.str q t)
theorem b9.same{W:Wd}{G G' H H':Hp}(t:b9 W G H)(g:aq G G')(own:∀a,H a≠none->(∀vs,H a≠some (.tup vs))->G a=none->G' a=none)(h:∀P ps,H P=some (.fh ps)->H' P=some (.fh ps)):b9 W G' H':=λP q m=>by
 obtain⟨n,ps,e,tr,al⟩:=t P q m
 refine⟨own P (by rw [e];exact λz=>nomatch z) (by rw [e];exact λ_ z=>nomatch z) n,ps,h P ps e,tr,λpos cv y=>?_⟩
 obtain⟨c',oc,qo,t,e1,e2,e3,e4⟩:=al pos cv y
 exact⟨c',oc,qo,t,e1,g _ _ e2,e3,e4⟩
structure av(W:Wd)(G H G' H':Hp):Prop where
 g:aq G G'
 h:fS H H'
 sub:aq G' H'
 own:∀a,H a≠none->(∀vs,H a≠some (.tup vs))->G a=none->G' a=none
 tab:b9 W G H->b9 W G' H'
section
variable{W:Wd}
def av.refl{G H:Hp}(s:aq G H):av W G H G H:=⟨aq.refl _,fS.refl _,s,λ_ _ _ h=>h,id⟩
def av.trans{G H G1 H1 G2 H2:Hp}(a:av W G H G1 H1)(b:av W G1 H1 G2 H2):av W G H G2 H2:=
 ⟨a.g.trans b.g,a.h.trans b.h,b.sub,λx hx ht hg=>b.own x (λz=>hx (a.h.free z)) (a.h.rA hx ht) (a.own x hx ht hg),λt=>b.tab (a.tab t)⟩
def iG{H:Hp}{p:Addr}{o:HO}(h:∀ps,H p≠some (.fh ps))(P:Addr)(ps:Array Value)(e:H P=some (.fh ps)):upd H p o P=some (.fh ps):=by
 rw [af (λz=>by subst z;exact h ps e)];exact e
theorem av.new{G H:Hp}{p:Addr}{o:HO}(s:aq G H)(h:H p=none):av W G H (upd G p o) (upd H p o) where
 g:=aS (s.free h)
 h:=.of (aS h)
 sub:=λb u e=>by
  by_cases hb:b=p
  ·subst hb;rw [aw] at e⊢;exact e
  ·rw [af hb] at e⊢;exact s _ _ e
 own:=λa ha _ hg=>by
  have:a≠p:=λz=>by subst z;exact ha h
  rw [af this];exact hg
 tab:=λt=>t.same (aS (s.free h)) (λa ha _ hg=>by
  have:a≠p:=λz=>by subst z;exact ha h
  rw [af this];exact hg) (iG (λps z=>by rw [h] at z;cases z))
def av.adopt{G H:Hp}{b:Addr}{vs:List V}(s:aq G H)(h:H b=some (.tup vs)):av W G H (upd G b (.tup vs)) H:=by
 have sm:aq G (upd G b (.tup vs)):=λc u e=>by
  by_cases hc:c=b
  ·subst hc;rw [aw];have:=s _ _ e;rw [h] at this;exact this
  ·rw [af hc];exact e
 have ow:∀a,H a≠none->(∀vs,H a≠some (.tup vs))->G a=none->upd G b (.tup vs) a=none:=λa _ n e=>by
  have:a≠b:=λz=>by subst z;exact n vs h
  rw [af this];exact e
 exact⟨sm,fS.refl _,λc u e=>by
  by_cases hc:c=b
  ·subst hc;rw [aw] at e;cases e;exact h
  ·rw [af hc] at e;exact s _ _ e,ow,λt=>t.same sm ow λ_ _ e=>e⟩
def av.Dt{G H:Hp}{p:Addr}{o:HO}(s:aq G H)(h:H p=none):av W G H G (upd H p o):=
 ⟨aq.refl _,.of (aS h),s.trans (aS h),λ_ _ _ hg=>hg,λt=>t.same (aq.refl _) (λ_ _ _ h=>h) (iG (λps z=>by rw [h] at z;cases z))⟩
end
noncomputable def lV(scope:Scope):List Str:=((scope.names.filter λp=>p.2==.free).map (·.1)).reverse
noncomputable def okN(x:Str):Bool:=!(x=="__debug__")&&!(x=="__classdict__")&&!(x=="__name__")
noncomputable def fJ(x:Str):Bool:=x.cps.toList.contains 64
def iw{α:Type}{a:α}{p:Prop}(h:(none:Option α)=some a):p:=nomatch h
noncomputable def fm:Expr->Option Str
 |.Name x _=>some x
 |_=>none
def dM{e:Expr}{x:Str}(h:fm e=some x):∃p,e=.Name x p:=by
 cases e with
 |Name y p=>cases h;exact⟨_,rfl⟩
 |_=>exact iw h
noncomputable def BS:Expr->Option (Expr×List Expr×List Keyword×Pos)
 |.Call f a k p=>some (f,a,k,p)
 |_=>none
def kA{e:Expr}{q:Expr×List Expr×List Keyword×Pos}(h:BS e=some q):e=.Call q.1 q.2.1 q.2.2.1 q.2.2.2:=by
 cases e with
 |Call f a k p=>cases h;rfl
 |_=>exact iw h
noncomputable def JZ:List Arg->Option (List Str)
 |[]=>some []
 |[a]=>some [a.arg]
 |_=>none
noncomputable def LW(p:Arguments):Option (List Str):=if(p.posonlyargs.isEmpty&&p.vararg.isNone&&p.kwonlyargs.isEmpty&&p.kw_defaults.isEmpty&&p.kwarg.isNone&&p.defaults.isEmpty)=true then JZ p.args else none
noncomputable def JM(i:Nat):Nat:=(i-10000)/1000
noncomputable def NW(i:Nat):Str:=⟨(List.replicate ((i-10000)%1000/10) (48+i%10)).toArray⟩
noncomputable def Mt:Expr->Option Str
 |.Tuple [.Constant (.str z) _ _] _ _=>some z
 |_=>none
noncomputable def Mj:Expr->Option (Str×Int)
 |.BinOp a .Mult (.Constant (.int k) _ _) _=>(Mt a).map λz=>(z,k)
 |_=>none
noncomputable def Oi(i:Nat)(e:Expr):Bool:=if JM i=1 then Mt e==some (NW i) else decide (2<=JM i)&&decide (JM i<1000)&&Mj e==some (NW i,(JM i:Int))
noncomputable def L9(N:List Str)(i:Nat)(a:Expr):Bool:=if i<10000 then(fm a).any λx=>N[i]?==some x&&okN x else Oi i a
noncomputable def BH(N:List Str):List Expr->List Nat->Bool
 |[],[]=>true
 |a::r,i::t=>L9 N i a&&BH N r t
 |_,_=>false
noncomputable def ON(ps:List Str)(scope:Scope):Bool:=
 scope.kind==.function&&!scope.isCoroutine&&!scope.isGenerator&&decide ((ps++lV scope).Nodup)&&(scope.names.all λy=>decide (y.2≠.cell))&&(ps.all λx=>decide (scope.names.lookup x=some .local))&&((lV scope).all λx=>decide (scope.names.lookup x=some .free))
noncomputable def KR(g:Str)(idx:List Nat)(params:Arguments)(body:Expr)(scope:Scope):Bool:=(LW params).any λps=>(BS body).any λq=>fm q.1==some g&&q.2.2.1.isEmpty&&!q.2.1.isEmpty&&decide (idx.head?=some ps.length)&&scope.names.lookup g==some .globalImplicit&&okN g&&!fJ g&&BH (ps++lV scope) q.2.1 idx.tail&&ON ps scope
structure Ks(W:Wd)(G:Hp)(g:Str)(idx:List Nat)(c8:List PV)(f c':Addr)(oc:Obj)(qo:Array Value)(t:Tok)(IY pm:Value)(params:Arguments)(body:Expr)(scope:Scope)(qual:Str)(cl:List (Str×Addr))(Z:List (Addr×Obj))(ws:List V):Prop where
 lg:KR g idx params body scope=true
 fo:G f=some (.cV (PySem.W.kla_obj "<lambda>" qual params body scope cl pm c' IY) qu)
 co:G c'=some (.cV oc qu)
 cd:oc.data=.fields qo
 cn:qo[1]?=some (.str qual t)
 fz:Z.lookup f=none
 cz:Z.lookup c'=none
 inj:∀x y c,cl.lookup x=some c->cl.lookup y=some c->x=y
 has:∀y∈lV scope,∃c,cl.lookup y=some c
 cells:∀x c,cl.lookup x=some c->∃o v,Z.lookup c=some o/\o.data=.cell v
 zs:∀b o,Z.lookup b=some o->G b=some (.cV o qu)
 zc:∀b o,Z.lookup b=some o->∃v,o.data=.cell v
 vals:∀(i:Nat) y c,(lV scope)[i]?=some y->cl.lookup y=some c->∀v,ws[i]?=some v->∃u o,RelV v u/\Z.lookup c=some o/\o.data=.cell (some u)
 len:ws.length=(lV scope).length
 rep:ah W (eL Z G) c8 ws
def vn(W:Wd)(G:Hp)(g:Str)(idx:List Nat)(c8:List PV)(v:V):Prop:=∃f c' oc qo t IY pm params body scope qual cl Z ws,v=.ref f/\Ks W G g idx c8 f c' oc qo t IY pm params body scope qual cl Z ws
theorem vw{Z:List (Addr×Obj)}{G G':Hp}(s:aq G G'):aq (eL Z G) (eL Z G'):=λb u e=>by
 obtain⟨q,e1⟩:=qb e
 rw [dH q];exact s _ _ e1
def vn.same{W:Wd}{G G':Hp}{g:Str}{idx:List Nat}{c8:List PV}{v:V}(s:aq G G')(h:vn W G g idx c8 v):vn W G' g idx c8 v:=by
 obtain⟨f,c',oc,qo,t,IY,pm,params,body,scope,qual,cl,Z,ws,e,d⟩:=h
 exact⟨f,c',oc,qo,t,IY,pm,params,body,scope,qual,cl,Z,ws,e,⟨d.lg,s _ _ d.fo,s _ _ d.co,d.cd,d.cn,d.fz,d.cz,d.inj,d.has,d.cells,λb o q=>s _ _ (d.zs b o q),d.zc,d.vals,d.len,ah.same (vw s) c8 d.rep⟩⟩
inductive Slot where
 |no|val (p:PV)|own (p:PV)|fn (g:Str) (idx:List Nat) (c8:List PV)|fj (ai:List (Int×Int))
 deriving Inhabited
abbrev Sl:=List Slot
def Own(W:Wd)(H0 G H:Hp):PV->V->Prop
 |.lst xs,v=>∃a vs,v=.ref a/\H a=some (.lst vs)/\G a=none/\H0 a=none/\ah W G xs vs
 |.dB ks ps,v=>∃a us,v=.ref a/\ks.length=us.length/\H a=some (.dT (kz ks us))/\G a=none/\H0 a=none/\ah W G ps us
 |_,_=>False
def Top(W:Wd)(H0 G H:Hp)(p:PV)(v:V):Prop:=Rep W G p v\/Own W H0 G H p v
def Jx(W:Wd)(H0 G H:Hp):Slot->Option V->Prop
 |.no,_=>True
 |.val p,o=>∃v,o=some v/\Rep W G p v
 |.own p,o=>∃v,o=some v/\Own W H0 G H p v
 |.fn g idx c8,o=>∃v,o=some v/\vn W G g idx c8 v
 |.fj ai,o=>∃a,o=some (.ref a)/\H a=some (.dK (sj ai))/\G a=none/\H0 a=none/\(ai.map (·.1)).Nodup
structure SR(W:Wd)(H0:Hp)(env:Sl)(σ:St)(G H:Hp):Prop where
 len:env.length=σ.length
 sub:aq G H
 base:fS H0 H
 slot:∀(i:Nat) (s:Slot),env[i]?=some s->∃o,σ[i]?=some o/\Jx W H0 G H s o
 apart:∀(i j:Nat) (p q:PV) (a:Addr),env[i]?=some (.own p)->env[j]?=some (.own q)->σ[i]?=some (some (.ref a))->σ[j]?=some (some (.ref a))->i=j
 tab:b9 W G H
 iq:b9 W G H0
section
variable{W:Wd}{H0 G H G' H':Hp}{env:Sl}{σ:St}
theorem Own.grow(g:av W G H G' H'):∀{p:PV} {v:V},Own W H0 G H p v->Own W H0 G' H' p v
 |.lst xs,_,h=>by
  obtain⟨a,vs,e,h1,h2,h3,l⟩:=h
  exact⟨a,vs,e,g.h.at h1 (λ_ z=>nomatch z),g.own a (by rw [h1];exact λz=>by cases z) (by rw [h1];exact λ_ z=>by cases z) h2,h3,ah.same g.g xs l⟩
 |.dB ks ps,_,h=>by
  obtain⟨a,vs,e,n,h1,h2,h3,l⟩:=h
  exact⟨a,vs,e,n,g.h.at h1 (λ_ z=>nomatch z),g.own a (by rw [h1];exact λz=>by cases z) (by rw [h1];exact λ_ z=>by cases z) h2,h3,ah.same g.g ps l⟩
 |.aI,_,h=>h|.bl _,_,h=>h|.int _,_,h=>h|.str _,_,h=>h|.tup _,_,h=>h|.exc _,_,h=>h
theorem Jx.grow(g:av W G H G' H'):∀{s:Slot} {o:Option V},Jx W H0 G H s o->Jx W H0 G' H' s o
 |.no,_,_=>trivial
 |.val p,_,h=>by obtain⟨v,e,r⟩:=h;exact⟨v,e,Rep.same g.g p r⟩
 |.own p,_,h=>by obtain⟨v,e,r⟩:=h;exact⟨v,e,r.grow g⟩
 |.fn _ _ _,_,h=>by obtain⟨v,e,r⟩:=h;exact⟨v,e,r.same g.g⟩
 |.fj _,_,h=>by
  obtain⟨a,e,h1,h2,h3,n⟩:=h
  exact⟨a,e,g.h.at h1 (λ_ z=>nomatch z),g.own a (by rw [h1];exact λz=>nomatch z) (by rw [h1];exact λ_ z=>nomatch z) h2,h3,n⟩
theorem SR.grow(r:SR W H0 env σ G H)(g:av W G H G' H'):SR W H0 env σ G' H':=
 ⟨r.len,g.sub,r.base.trans g.h,λi s e=>by obtain⟨o,h1,h2⟩:=r.slot i s e;exact⟨o,h1,h2.grow g⟩,r.apart,g.tab r.tab,r.iq.same g.g (λa h1 h3 h2=>g.own a (λz=>h1 (r.base.free z)) (r.base.rA h1 h3) h2) λ_ _ h=>h⟩
def Top.grow{p:PV}{v:V}(g:av W G H G' H')(h:Top W H0 G H p v):Top W H0 G' H' p v:=h.elim (λz=>.inl (Rep.same g.g p z)) λz=>.inr (z.grow g)
def Top.lst{xs:List PV}{v:V}(s:aq G H)(h:Top W H0 G H (.lst xs) v):∃a vs,v=.ref a/\nX W.K H a vs/\ah W G xs vs:=by
 rcases h with h|h
 ·simp! [Rep] at h;obtain⟨a,vs,e,q,l⟩:=h
  exact⟨a,vs,e,aq.ls s q,l⟩
 ·obtain⟨a,vs,e,h1,_,_,l⟩:=h
  exact⟨a,vs,e,.inl (.inl h1),l⟩
def Top.tup{xs:List PV}{v:V}(s:aq G H)(h:Top W H0 G H (.tup xs) v):∃a vs,v=.ref a/\dJ W.K H a vs/\ah W G xs vs:=by
 rcases h with h|h
 ·simp! [Rep] at h;obtain⟨a,vs,e,q,l⟩:=h
  exact⟨a,vs,e,aq.tup s q.sq,l⟩
 ·exact h.elim
def Top.tupI{xs:List PV}{v:V}{ns:List Int}(s:aq G H)(hx:xs=ns.map .int)(h:Top W H0 G H (.tup xs) v):∃a,v=.ref a/\G a=some (.tup (ns.map V.int)):=by
 rcases h with h|h
 ·simp! [Rep] at h;obtain⟨a,vs,e,q,l⟩:=h
  have ev:vs=ns.map V.int:=by
   subst hx
   clear q e
   induction ns generalizing vs with
   |nil=>simp! [List.map_nil,ah] at l;exact l
   |cons n ns ih=>
    obtain⟨u,r,rfl,h1,h2⟩:=l.bK
    simp! [Rep] at h1;rw [h1,ih r h2]
    rfl
  subst ev;rcases q with q|⟨_,z,hz⟩
  ·exact⟨a,e,q⟩
  ·obtain⟨n,_,hn⟩:=zzx.mp hz
   cases hn
 ·exact h.elim
def Top.dB{ks:List (List Int)}{ps:List PV}{v:V}(s:aq G H)(h:Top W H0 G H (.dB ks ps) v):∃a us,v=.ref a/\ks.length=us.length/\Rd H a (.dT (kz ks us))/\ah W G ps us:=by
 rcases h with h|h
 ·simp! [Rep] at h;obtain⟨a,o,us,e,n,q,l⟩:=h
  exact⟨a,us,e,n,.inr ⟨o,s _ _ q⟩,l⟩
 ·obtain⟨a,vs,e,n,q,_,_,l⟩:=h
  exact⟨a,vs,e,n,.inl q,l⟩
def Top.int{i:Int}{v:V}(h:Top W H0 G H (.int i) v):v=.int i:=h.elim (λz=>by simpa only [Rep] using z) λz=>z.elim
def Top.bl{b:Bool}{v:V}(h:Top W H0 G H (.bl b) v):v=.bl b:=h.elim (λz=>by simpa only [Rep] using z) λz=>z.elim
def Top.str{b:Str}{v:V}(h:Top W H0 G H (.str b) v):v=.str b:=h.elim (λz=>by simpa only [Rep] using z) λz=>z.elim
def Top.aI{v:V}(h:Top W H0 G H .aI v):v=.aI:=h.elim (λz=>by simpa only [Rep] using z) λz=>z.elim
def Rep.i{i:Int}:Rep W G (.int i) (.int i):=by simp! [Rep]
def Rep.b{i:Bool}:Rep W G (.bl i) (.bl i):=by simp! [Rep]
def Rep.s{i:Str}:Rep W G (.str i) (.str i):=by simp! [Rep]
def Rep.n:Rep W G .aI .aI:=by simp! [Rep]
def Rep.l{a:Addr}{xs:List PV}{vs:List V}(h:nX W.K G a vs)(l:ah W G xs vs):Rep W G (.lst xs) (.ref a):=by simp! [Rep];exact⟨a,vs,rfl,h,l⟩
def Rep.t{a:Addr}{xs:List PV}{vs:List V}(h:FG W.K G a vs)(l:ah W G xs vs):Rep W G (.tup xs) (.ref a):=by simp! [Rep];exact⟨a,vs,rfl,h,l⟩
end
end Ci
namespace L2
open PySem PySem.Spec PyProof.Rows
noncomputable def qV(z y:Str):Int:=((Builtin.Str.occurrences z y 0 z.length (z.length+1)).length:Int)
section
variable{X:Cx}
def t9:Hq X "str.count" (λx vs H Q=>∃z y,x=.str z/\vs=[.str y]/\Q (.int (qV z y)) H):=by
 intro aa s σ H x vs v us Q I rx rv h;obtain⟨z,y,rfl,rfl,q⟩:=h
 obtain⟨t,rfl⟩:=rx
 obtain⟨u,rfl,t2,rfl⟩:=rv.one
 exact call_meets F.slot_str_count (typeIs_str s z t) F.entry_str_count (F.args_str_count_2 _ _) (gives_str_count z y t t2).meets ⟨.int _,H,I.tok _,⟨_,rfl⟩,q⟩
end
end L2
namespace HT
open PySem PySem.Spec PyProof.Rows
section
variable{prog:Program}{w:World}{A:Around}{E:Value->Shared->Prop}{s:Shared}
def oN{sl:Addr}{vk:Value}{n:Nat}{Q:Int×Int×Nat->Shared->Prop}(hs:s.heap.IsSliceOf sl .none .none vk)(pk:IsPart vk (some (-1)))
 (h:Q ((n:Int)-1, -1,n) s):wpAny (model prog w) A (Builtin.Slice.sliceApplied (.ref sl) (pure (n:Int))) Q E s:=by
 obtain⟨os,hos,hcs,hds⟩:=id hs
 unfold Builtin.Slice.sliceApplied Builtin.Slice.sliceFields;refine zzA (zzA (wpAny_field hos hds (x:=.none) rfl (zzA (wpAny_field hos hds (x:=.none) rfl (zzA (wpAny_field hos hds (x:=vk) rfl (zzG ?_)))))));refine zzA (qy pk ?_);show wpAny _ _ (if((-1:Int)==0)=true then _ else _) _ _ s;rw [if_neg (by decide)];refine zzA (slicePart_none (zzA (slicePart_none (zzA (zzG ?_)))));show wpAny _ _ (pure ((n:Int)-1,(-1:Int),Builtin.Slice.slicePlaces ((n:Int)-1) (-1) (-1))) _ _ s;have e:Builtin.Slice.slicePlaces ((n:Int)-1) (-1) (-1)=n:=by
  unfold Builtin.Slice.slicePlaces;rw [if_neg (by decide)];split
  ·have:((n:Int)-1 - -1-1)/(- -1)+1=n:=by rw [show(- -1:Int)=1 from rfl,Int.ediv_one];omega
   rw [this];omega
  ·omega
 rw [e];exact zzG h
theorem pE{α β:Type}{f g:α->Option β}:∀(l:List α),(∀m∈l,f m=g m)->l.filterMap f=l.filterMap g
 |[],_=>rfl
 |a::l,h=>by
  rw [List.filterMap_cons,List.filterMap_cons,h a (zzP ..),pE l λm hm=>h m (zzI _ hm)]
def yx(xs:Array Value):((List.range xs.size).filterMap λ(m:Nat)=>xs[((xs.size:Int)-1+(m:Int)*(-1)).toNat]?).toArray=xs.toList.reverse.toArray:=by
 congr 1
 refine List.ext_getElem? λi=>?_
 have key:∀k,k<=xs.size->(List.range k).filterMap (λ(m:Nat)=>xs[((xs.size:Int)-1+(m:Int)*(-1)).toNat]?)=(List.range k).filterMap λm=>xs.toList.reverse[m]?:=λk hk=>by
  refine pE _ λm hm=>?_
  have:=List.mem_range.1 hm
  rw [List.getElem?_reverse (by simpa using (by omega:m<xs.size)),Array.getElem?_toList,zzd]
  congr 1
  omega
 rw [key _ (zzE _)];have:∀l:List Value,(List.range l.length).filterMap (λm=>l[m]?)=l:=λl=>by
  have:=PySem.W.krv_all l.toArray
  simpa using this
 have:=this xs.toList.reverse
 rw [List.length_reverse,zzd] at this;rw [this]
def fZ{t sl:Addr}{items:Array Value}{vk:Value}{Q:Value->Shared->Prop}(ht:IsTup s.heap t items)(hs:s.heap.IsSliceOf sl .none .none vk)(pk:IsPart vk (some (-1)))
 (h:Q (.ref (zz9 s)) {s with heap:=s.heap.push {cls:=.type "tuple",data:=.seq items.toList.reverse.toArray}})
 (hsz:items.size<=sizeLine):wpAny (model prog w) A (getItem (.ref t) (.ref sl)) Q E s:=by
 have B4:sizeOk (.seq items.toList.reverse.toArray):=by
  show items.toList.reverse.toArray.size<=sizeLine
  rw [zzC,List.length_reverse,zzd];exact hsz
 obtain⟨os,hos,hcs,hds⟩:=id hs
 have Ol:s.TypeIs (.ref sl) "slice":=⟨os,hos,hcs⟩
 unfold getItem
 try with_reducible refine wpAny_holding ?_
 first|refine zzA (zzG ?_)|skip
 refine zzA (wpAny_sequenceKey ht.typeIs (by decide) ?_);refine zzA (wpAny_callSpecial?_slot (name:=Str.ofString "__getitem__") ht.typeIs PyProof.Rows.slot_tuple_getitem
  (wpAny_call_entry PyProof.Rows.slot_tuple_getitem ht.typeIs entry_tuple_getitem ?_ (args_tuple_getitem _ _)))
 show wpAny _ _ (Builtin.Tuple.tupleItemsOf (.ref t)>>=_) _ _ s
 refine zzA (tupleItemsOf_ ht ?_);refine zzA (wpAny_typeOf Ol ?_);rw [if_pos (by decide)];refine zzA (oN hs pk ?_);have OQ:¬((((items.size:Int)-1)==0&&(-1:Int)==1&&items.size==items.size)=true):=by
  intro q;rw [zza,zza] at q;exact absurd q.1.2 (by decide)
 show wpAny _ _ (if(((items.size:Int)-1)==0&&(-1:Int)==1&&items.size==items.size)=true then _ else _) _ _ s
 rw [if_neg OQ,yx]
 first
  |exact zzA (m:=Builtin.Tuple.tupleExact _) (wpAny_newObj_type (zzG ⟨_,rfl,zzG h⟩) B4)
  |exact zzA (m:=Builtin.Tuple.tupleExact _) (wpAny_newObj_type (zzA (zzG (zzG ⟨_,rfl,zzG h⟩))) B4)
end
end HT
namespace L2
open PySem PySem.Spec PyProof.Rows
noncomputable def fk(z:Str):Str:=⟨z.cps.toList.reverse.toArray⟩
def A8(n:Nat):Builtin.Str.strSliceIndices none none (-1) n=(List.range n).map λk=>n-1-k:=by
 show sliceRange ((n:Int)-1) (-1) (-1)=_
 exact PySem.W.krv_sliceRange n
def lA{vs:List V}{us:List Value}(r:Vals vs us):Vals vs.reverse us.reverse:=by
 induction r with
 |nil=>exact .nil
 |cons h t ih=>
  rw [List.reverse_cons,List.reverse_cons];exact ih.append (.cons h .nil)
section
variable{X:Cx}{e st:Expr}{te ts:TE}{pos p2:Pos}
def yR(X:Cx)(r:V->Hp->VK->Prop):Prop:=
 ∀(aa:List (Addr×Obj)) (s:Shared) (σ:St) (H:Hp) (x:V) (v vk:Value) (sl:Addr) (Q:VK),Inv X aa σ H s->RelV x v->s.heap.IsSliceOf sl .none .none vk->IsPart vk (some (-1))->r x H Q->
  ∃T id,typeLookup (.type T) "__getitem__"=pure (some (.builtin id))/\s.TypeIs v T/\wpAny (model X.prog X.w) X.A (getItem v (.ref sl)) (EP X aa σ Q) X.xe s
def yR.or{r r':V->Hp->VK->Prop}(h:yR X r)(h':yR X r'):yR X (λx H Q=>r x H Q\/r' x H Q):=by
 intro aa s σ H x v vk sl Q I rx hs pk q;rcases q with q|q
 ·exact h aa s σ H x v vk sl Q I rx hs pk q
 ·exact h' aa s σ H x v vk sl Q I rx hs pk q
def Ea:yR X (λx H Q=>∃a xs,x=.ref a/\dJ X.K H a xs/\∀p,H p=none->Q (.ref p) (upd H p (.tup xs.reverse))):=by
 intro aa s σ H x v vk sl Q I rx hs pk h;obtain⟨a,xs,rfl,hx,q⟩:=h
 cases rx;obtain⟨ae,r,ht,hz⟩:=I.tuple hx
 have hlen:ae.toArray.size=xs.length:=by rw [zzC];exact r.length.symm
 refine⟨"tuple",_,PyProof.Rows.slot_tuple_getitem.lookup,ht.typeIs,HT.fZ ht hs pk ?_ (by rw [hlen];exact hz)⟩;refine⟨.ref (zz9 s),_,I.laid (t':=s.toks) (o:=.tup xs.reverse) (λb ob q=>zzB _ q) (zzE _) ?_,rfl,q _ (I.aU.fresh (zzE _))⟩;exact⟨by rw [List.length_reverse];exact hz,_,lA r,IsTup.new _ _⟩
def D7:yR X (λx H Q=>∃a xs,x=.ref a/\fQ X.K H a xs/\∀p,H p=none->Q (.ref p) (upd H p (.lst xs.reverse))):=by
 intro aa s σ H x v vk sl Q I rx hs pk h;obtain⟨a,xs,rfl,hx,q⟩:=h
 cases rx;obtain⟨ae,r,ht,hz⟩:=I.list hx
 refine⟨"list",_,PySem.F.slot_list_getitem.lookup,⟨_,ht.isList.choose_spec.1,ht.isList.choose_spec.2.1⟩,?_⟩;refine wpAny_getItem_list_slice ht.isList hs .none .none pk (by decide) ?_ (by rw [zzC,<-r.length];exact hz);rw [PySem.W.krv_pick];refine⟨.ref (zz9 s),_,I.laid (t':=s.toks) (o:=.lst xs.reverse) (λb ob q=>zzB _ q) (zzE _) ?_,rfl,q _ (I.aU.fresh (zzE _))⟩;exact⟨by rw [List.length_reverse];exact hz,_,0,lA r,zzX _ rfl⟩
def Fn:yR X (λx H Q=>∃z,x=.str z/\z.length<=sizeLine/\Q (.str (fk z)) H):=by
 intro aa s σ H x v vk sl Q I rx hs pk h;obtain⟨z,rfl,hz,q⟩:=h
 obtain⟨t,rfl⟩:=rx
 refine⟨"str",_,F.slot_str_getitem.lookup,typeIs_str _ _ _,?_⟩;cases pk with
 |int i ui=>
  refine wpAny_getItem_str_slice (l:=none) (u:=none) (st:=some (-1,ui)) hs rfl ?_;have e:sliceMade z t none none (some (-1,ui))=.str (fk z):=by
   unfold sliceMade;rw [if_neg (λq=>by rw [zza] at q;exact absurd q.1 (show¬((-1:Int)==1)=true by decide))]
   unfold slicePicked fk
   congr 2
   show((Builtin.Str.strSliceIndices none none (-1) z.length).filterMap (z.cps[·]?)).toArray=_
   rw [A8,PySem.W.krv_range,List.filterMap_reverse]
   congr 2
   have:=PySem.W.krv_all z.cps
   exact this
  rw [e];refine⟨?_,⟨.str _,H,I.tok _,⟨_,rfl⟩,q⟩⟩;show(fk z).cps.size<=sizeLine;have:(fk z).cps.size=z.length:=by simp [fk,Str.length]
  rw [this];exact hz
noncomputable def Pl(r:V->Hp->VK->Prop)(te ts:TE):TE:=λσ H Q=>te σ H λx H1=>ts σ H1 λk H2=>k=.int (-1)/\r x H2 Q
def Dv{r:V->Hp->VK->Prop}(hr:yR X r)(he:PE X e te)(hs:PE X st ts):PE X (.Subscript e (.Slice none none (some st) p2) pos) (Pl r te ts):=by
 intro aa s σ H Q I h;refine Subscript_ (bh (he aa s σ H _ I h) λv s1 ⟨x,H1,I1,r1,q1⟩=>?_)
 refine wpAny_Slice ?_;rw [evalPart_none];refine zzG (zzG ?_);rw [evalPart_some];refine bh (hs aa s1 σ H1 _ I1 q1) λu s3 ⟨k,H3,I3,r3,q3⟩=>?_
 obtain⟨rfl,q3⟩:=q3
 obtain⟨t,rfl⟩:=r3
 have I4:Inv X aa σ H3 {s3 with heap:=s3.heap.push {cls:=.type "slice",data:=.fields #[.none,.none,.int (-1) t]}}:=I3.kept (t':=s3.toks) λb ob q=>zzB _ q
 obtain⟨T,id,hT,ht,hg⟩:=hr aa {s3 with heap:=s3.heap.push {cls:=.type "slice",data:=.fields #[.none,.none,.int (-1) t]}} σ H3 x v (.int (-1) t) (zz9 s3) Q I4 r1 (Heap.IsSliceOf.new ..) (.int _ _) q3
 show wpAny (model X.prog X.w) X.A (subscriptTail e (.Slice none none (some st) p2) v (.ref (zz9 s3))) (EP X aa σ Q) X.xe {s3 with heap:=s3.heap.push {cls:=.type "slice",data:=.fields #[.none,.none,.int (-1) t]}}
 exact tail_any (ops:=[v,.ref (zz9 s3)]) ht hT hg (by with_unfolding_all rfl)
end
end L2
namespace Ci
open PySem L2
inductive Res(α:Type) where
 |ok (a:α)|exc (c:Str)|bad
noncomputable def Res.bind{α β:Type}:Res α->(α->Res β)->Res β
 |.ok a,f=>f a
 |.exc c,_=>.exc c
 |.bad,_=>.bad
noncomputable instance:Monad Res where
 pure:=.ok
 bind:=Res.bind
def Res.aK{α β:Type}{r:Res α}{f:α->Res β}{b:β}(h:r.bind f=.ok b):∃a,r=.ok a/\f a=.ok b:=by
 cases r with
 |ok a=>exact⟨a,rfl,h⟩
 |exc c=>cases h
 |bad=>cases h
def Res.gf{α β:Type}{r:Res α}{f:α->Res β}{c:Str}(h:r.bind f=.exc c):r=.exc c\/∃a,r=.ok a/\f a=.exc c:=by
 cases r with
 |ok a=>exact .inr ⟨a,rfl,h⟩
 |exc c'=>cases h;exact .inl rfl
 |bad=>cases h
noncomputable def Res.of{α:Type}:Option α->Res α
 |some a=>.ok a
 |none=>.bad
noncomputable def Res.well{α:Type}:Res α->Res α
 |.ok a=>.ok a
 |_=>.bad
abbrev bG:Nat:=1000000
noncomputable def eqs(f:PV->PV->Bool):List PV->List PV->Bool
 |[],[]=>true
 |x::xs,y::ys=>f x y&&eqs f xs ys
 |_,_=>false
noncomputable def gH:Nat->PV->PV->Bool
 |_,.aI,.aI=>true
 |_,.bl a,.bl b=>a==b
 |_,.bl a,.int i=>(if a then 1 else 0)==i
 |_,.int i,.bl a=>i==(if a then 1 else 0)
 |_,.int i,.int j=>i==j
 |_,.str x,.str y=>x==y
 |n+1,.tup xs,.tup ys=>eqs (gH n) xs ys
 |n+1,.lst xs,.lst ys=>eqs (gH n) xs ys
 |_,_,_=>false
noncomputable def plain:Nat->PV->Bool
 |_,.aI=>true
 |_,.bl _=>true
 |_,.int _=>true
 |_,.str _=>true
 |n+1,.tup xs=>xs.all (plain n)
 |n+1,.lst xs=>xs.all (plain n)
 |_,_=>false
abbrev DP:Nat:=9
noncomputable abbrev eqv:PV->PV->Bool:=gH DP
noncomputable abbrev nO:PV->Bool:=plain DP
inductive EZ where|add|sub|mul|mod|fdiv
inductive yC where|eq|ne|lt|le|gt|Av|A1|II
noncomputable def aG(i:Int):Bool:=decide (-(2^64)<i)&&decide (i<2^64)
noncomputable def binOp:EZ->PV->PV->Res PV
 |.add,.int i,.int j=>.ok (.int (i+j))
 |.add,.str x,.str y=>if x.length+y.length<=bG then .ok (.str (x++y)) else .bad
 |.add,.tup x,.tup y=>if x.length+y.length<=bG then .ok (.tup (x++y)) else .bad
 |.sub,.int i,.int j=>.ok (.int (i-j))
 |.mul,.int i,.int j=>if aG i||aG j then .ok (.int (i*j)) else .bad
 |.mul,.lst x,.int j=>if 0<=j/\j<1000/\x.length<1000 then .ok (.lst (List.replicate j.toNat x).flatten) else .bad
 |.mul,.tup x,.int j=>if 1<=j/\j<1000/\0<x.length/\x.length<1000 then .ok (.tup (List.replicate j.toNat x).flatten) else .bad
 |.mod,.int i,.int j=>if 0<j then .ok (.int (i%j)) else .bad
 |.fdiv,.int i,.int j=>if 0<j/\j<1073741824 then .ok (.int (i/j)) else .bad
 |_,_,_=>.bad
noncomputable def intsOf:List PV->Option (List Int)
 |[]=>some []
 |.int i::r=>(intsOf r).map (i::·)
 |_=>none
noncomputable def iV{α:Type}:List (List Int)->List α->List Int->Option α
 |k'::ks,v::vs,k=>if k'=k then some v else iV ks vs k
 |_,_,_=>none
noncomputable def fg(k:List Int):PV:=.tup (k.map .int)
noncomputable def yf:PV->Option (List Int)
 |.tup xs=>intsOf xs
 |_=>none
noncomputable def i5:List PV->Option (List (List Int))
 |[]=>some []
 |x::r=>(yf x).bind λk=>(i5 r).map (k::·)
noncomputable def K7(x:PV)(ys:List PV):Bool:=ys.any λy=>eqv y x
noncomputable def iA(a b:PV):Res PV:=if nO a&&nO b then .ok (.bl (eqv a b)) else .bad
noncomputable def gG(a b:PV):Res PV:=if nO a&&nO b then .ok (.bl (!eqv a b)) else .bad
noncomputable def pB:PV->PV->Res PV
 |.int i,.int j=>.ok (.bl (decide (i<j)))
 |_,_=>.bad
noncomputable def oM:PV->PV->Res PV
 |.int i,.int j=>.ok (.bl (decide (i<=j)))
 |_,_=>.bad
noncomputable def oj:PV->PV->Res PV
 |.int i,.int j=>.ok (.bl (decide (j<i)))
 |.str i,.str j=>.ok (.bl (decide (j.cps.toList<i.cps.toList)))
 |_,_=>.bad
noncomputable def BM:PV->Bool
 |.aI=>true
 |_=>false
noncomputable def j9:PV->PV->Res PV
 |a,.aI=>.ok (.bl (!BM a))
 |.bl a,.bl b=>.ok (.bl (a !=b))
 |_,_=>.bad
noncomputable def oy:PV->PV->Res PV
 |.str i,.str j=>.ok (.bl (!(Builtin.Str.occurrences j i 0 j.length 1).isEmpty))
 |_,_=>.bad
noncomputable def lE:PV->PV->Res PV
 |a,.lst ys=>if nO a&&ys.all nO then .ok (.bl (!K7 a ys)) else .bad
 |_,_=>.bad
noncomputable def cN:yC->PV->PV->Res PV
 |.eq=>iA|.ne=>gG|.lt=>pB|.le=>oM|.gt=>oj|.Av=>j9|.A1=>oy|.II=>lE
noncomputable def aJ:PV->PV->Res PV
 |.lst xs,.int i=>Res.of (rF xs i)
 |.tup xs,.int i=>Res.of (rF xs i)
 |.str z,.int i=>if z.length<=bG then(Res.of (rF z.cps.toList i)).bind λc=>.ok (.str ⟨#[c]⟩) else .bad
 |.dB ks vs,y=>(Res.of (yf y)).bind λk=>Res.of (iV ks vs k)
 |_,_=>.bad
inductive B where|len|int|str|list|tuple|all|sum|sorted
noncomputable def boolsOf:List PV->Option (List Bool)
 |[]=>some []
 |.bl b::r=>(boolsOf r).map (b::·)
 |_=>none
noncomputable def chars(z:Str):List PV:=z.cps.toList.map λc=>.str ⟨#[c]⟩
noncomputable def qZ:List PV->Res PV
 |[.lst xs]=>.ok (.int xs.length)
 |[.tup xs]=>.ok (.int xs.length)
 |[.str z]=>if z.length<=bG then .ok (.int z.length) else .bad
 |[.dB ks _]=>.ok (.int ks.length)
 |_=>.bad
noncomputable def xf:List PV->Res PV
 |[.str z]=>if z.length<=640 then(Res.of (PySem.intText? z)).bind λn=>.ok (.int n) else .bad
 |[.bl b]=>.ok (.int (if b then 1 else 0))
 |_=>.bad
noncomputable def vS:List PV->Res PV
 |[.int i]=>if i.natAbs.log2<1920 then .ok (.str (toString i)) else .bad
 |_=>.bad
noncomputable def pQ:List PV->Res PV
 |[.lst xs]=>.ok (.lst xs)
 |[.tup xs]=>.ok (.lst xs)
 |[.str z]=>if z.length<=bG then .ok (.lst (chars z)) else .bad
 |_=>.bad
noncomputable def je:List PV->Res PV
 |[.lst xs]=>.ok (.tup xs)
 |_=>.bad
noncomputable def yj:List PV->Res PV
 |[.lst xs]=>(Res.of (boolsOf xs)).bind λbs=>.ok (.bl (bs.all id))
 |_=>.bad
noncomputable def v3:List PV->Res PV
 |[.lst xs]=>(Res.of (intsOf xs)).bind λns=>if(ns.all λn=>decide (-(2^32)<n)&&decide (n<2^32))&&decide (ns.length<bG) then .ok (.int ns.sum) else .bad
 |_=>.bad
noncomputable def gv:List PV->Res PV
 |[.lst xs]=>(Res.of (i5 xs)).bind λnss=>if decide (xs.length<64)&&nss.all (λk=>!k.isEmpty) then .ok (.lst (gZ .aI xs nss)) else .bad
 |_=>.bad
noncomputable def oz(k:List Int):List (List Int)->List (List Int)
 |[]=>[k]
 |x::l=>if k=x then x::l else if HT.lexLt k x=true then k::x::l else x::oz k l
noncomputable def qI(nss:List (List Int)):List (List Int):=nss.foldr oz []
noncomputable def cw:B->List PV->Res PV
 |.len=>qZ|.int=>xf|.str=>vS|.list=>pQ|.tuple=>je|.all=>yj|.sum=>v3|.sorted=>gv
inductive Ty where|int|bool|str|tuple
noncomputable def gE:Ty->PV->Bool
 |.int,.int _=>true
 |.int,.bl _=>true
 |.bool,.bl _=>true
 |.str,.str _=>true
 |.tuple,.tup _=>true
 |_,_=>false
noncomputable def kc(t:Ty):PV->Res PV
 |.exc _=>.bad
 |.dB _ _=>.bad
 |p=>.ok (.bl (gE t p))
noncomputable def strsOf:List PV->Option (List Str)
 |[]=>some []
 |.str z::r=>(strsOf r).map (z::·)
 |_=>none
inductive M where|bY|join
noncomputable def oW:List PV->Res PV
 |[.str z,.lst xs]=>(Res.of (strsOf xs)).bind λys=>if z.length<=16/\(ys.map (·.length)).sum+ys.length<=bG then .ok (.str (Txt.join z ys)) else .bad
 |_=>.bad
noncomputable def fY:List PV->Res PV
 |[.str z,.str y]=>.ok (.int (qV z y))
 |_=>.bad
noncomputable def mw:M->List PV->Res PV
 |.join=>oW|.bY=>fY
noncomputable def n9:M->PV->Bool
 |.join,.str _=>true
 |.bY,.str _=>true
 |_,_=>false
inductive Tg where
 |one (i:Nat)|two (i j:Nat)
mutual
inductive E where
 |var (i:Nat)|AH (i:Nat)
 |cst (p:PV)
 |glob (g:Str) (p:PV)
 |call (f:Str) (as:Es)
 |blt (b:B) (as:Es)
 |ty (t:Ty) (a:E)
 |pU (m:M) (o:E) (as:Es)
 |bin (o:EZ) (a b:E)
 |cmp (o:yC) (a b:E)
 |ch (o1 o2:yC) (a b c:E)
 |not (a:E)
 |neg (a:E)
 |and (a b:E)|or (a b:E)
 |ite (c a b:E)
 |tup (as:Es)|lst (as:Es)
 |sub (a b:E)
 |comp (k:Nat) (bP:List Nat) (tg:Tg) (it:I) (elt:E)
 |bX (k:Nat) (bP:List Nat) (tg:Tg) (it:I) (c elt:E)
 |rev (a:E)
 |oh (i:Nat)
 |wt (a:E)
inductive Es where
 |nil|cons (e:E) (es:Es)
inductive Oe where
 |no|some (e:E)
inductive I where
 |seq (e:E)|rn (e:E)|ng (a b:E)|enum (e:E)|zip (as:Es)
end
mutual
inductive S where
 |expr (e:E)
 |set (i:Nat) (e:E)
 |own (i:Nat) (e:E)
 |cV (i:Nat)
 |app (i:Nat) (e:E)
 |js (i:Nat) (e:E)
 |ret (e:E)
 |ite (c:E) (a b:Ss)
 |cQ (tg:Tg) (it:I) (b:Ss)
 |raise (c:Str) (m:Str)
 |mH (i:Nat)
 |jf (i n:Nat)
 |par (i j:Nat) (as:Es)
inductive Ss where
 |nil|cons (s:S) (ss:Ss)
end
abbrev aO:=Str->List PV->Res PV
noncomputable def ou:Option Slot->Res PV
 |some (.val p)=>.ok p
 |_=>.bad
noncomputable def vW:Option Slot->Res PV
 |some (.val p)=>.ok p
 |some (.own p)=>.ok p
 |_=>.bad
noncomputable def Tg.put:Tg->PV->Sl->Res Sl
 |.one i,p,env=>.ok (env.set i (.val p))
 |.two i j,.tup [a,b],env=>.ok ((env.set i (.val a)).set j (.val b))
 |_,_,_=>.bad
noncomputable def d6(env:Sl)(bP:List Nat):Sl:=bP.map λi=>env.getD i .no
noncomputable def itemsOf:PV->Res (List PV)
 |.lst xs=>.ok xs
 |.tup xs=>.ok xs
 |.str z=>.ok (chars z)
 |_=>.bad
noncomputable def qp(e:E)(p:PV):Res (List PV):=match p,e with
 |.dB _ _,.AH _=>.bad
 |.dB ks _,_=>.ok (ks.map fg)
 |p,_=>itemsOf p
noncomputable def dQ(lo:Int)(n:Nat):List PV:=(List.range n).map λi=>.int (lo+(i:Nat))
noncomputable def aD(i:Int):Bool:=decide (-(2^62)<=i)&&decide (i<2^62)
noncomputable def Ht:PV->Option (List PV)
 |.lst xs=>some xs
 |.tup xs=>some xs
 |_=>none
noncomputable def ip:List PV->Option (List (List PV))
 |[]=>some []
 |p::r=>(Ht p).bind λxs=>(ip r).map (xs::·)
noncomputable def ko:List (List PV)->Nat
 |[]=>0
 |[xs]=>xs.length
 |xs::r=>min xs.length (ko r)
noncomputable def kb(xss:List (List PV)):List PV:=(List.range (ko xss)).map λi=>.tup (xss.map λxs=>xs.getD i .aI)
noncomputable def bB(n:Nat):List PV->List PV
 |[]=>[]
 |x::xs=>.tup [.int (n:Nat),x]::bB (n+1) xs
noncomputable def oc:Option PV->List PV->List PV
 |some y,ys=>y::ys
 |none,ys=>ys
noncomputable def az(f:PV->Res (Option PV)):List PV->Res (List PV)
 |[]=>.ok []
 |x::xs=>(f x).well.bind λo=>(az f xs).bind λys=>.ok (oc o ys)
noncomputable def qB{α:Type}(p:PV)(f:Bool->Res α):Res α:=match p with
 |.bl b=>f b
 |_=>.bad
section
variable(F:aO)
mutual
noncomputable def ax:E->Sl->Res PV
 |.var i,env=>ou env[i]?
 |.AH i,env=>vW env[i]?
 |.cst p,_=>.ok p
 |.glob _ p,_=>.ok p
 |.call f as,env=>(bE as env).bind λps=>F f ps
 |.blt b as,env=>(bE as env).bind λps=>cw b ps
 |.ty t a,env=>(ax a env).bind λp=>kc t p
 |.pU m o as,env=>(ax o env).bind λp=>if n9 m p then(bE as env).bind λps=>mw m (p::ps) else .bad
 |.bin o a b,env=>(ax a env).bind λx=>(ax b env).bind λy=>binOp o x y
 |.cmp o a b,env=>(ax a env).bind λx=>(ax b env).bind λy=>cN o x y
 |.ch o1 o2 a b c,env=>(ax a env).bind λx=>(ax b env).bind λy=>(cN o1 x y).bind λt=>qB t λt=>
  if t then(ax c env).bind λz=>cN o2 y z else .ok (.bl false)
 |.not a,env=>(ax a env).bind λx=>qB x λb=>.ok (.bl (!b))
 |.neg a,env=>(ax a env).bind λx=>match x with|.int i=>.ok (.int (-i))|_=>.bad
 |.and a b,env=>(ax a env).bind λx=>qB x λt=>if t then ax b env else .ok (.bl false)
 |.or a b,env=>(ax a env).bind λx=>qB x λt=>if t then .ok (.bl true) else ax b env
 |.ite c a b,env=>(ax c env).bind λx=>qB x λt=>if t then ax a env else ax b env
 |.tup as,env=>(bE as env).bind λps=>.ok (.tup ps)
 |.lst as,env=>(bE as env).bind λps=>.ok (.lst ps)
 |.sub a b,env=>(ax a env).bind λx=>(ax b env).bind λy=>aJ x y
 |.comp k bP tg it elt,env=>(nB it env).bind λxs=>if xs.length<bG then(az (λx=>(tg.put x (List.replicate k .no++d6 env bP)).bind λaj=>(ax elt aj).bind λy=>.ok (some y)) xs).bind λys=>.ok (.lst ys) else .bad
 |.bX k bP tg it c elt,env=>(nB it env).bind λxs=>if xs.length<bG then(az (λx=>(tg.put x (List.replicate k .no++d6 env bP)).bind λaj=>(ax c aj).bind λt=>qB t λt=>if t then(ax elt aj).bind λy=>.ok (some y) else .ok none) xs).bind λys=>.ok (.lst ys) else .bad
 |.rev a,env=>(ax a env).bind λp=>match p with|.str z=>(if z.length<=bG then .ok (.str (fk z)) else .bad)|.tup xs=>.ok (.tup xs.reverse)|.lst xs=>.ok (.lst xs.reverse)|_=>.bad
 |.wt a,env=>(ax a env).bind λp=>match p with|.tup xs=>.ok (.lst xs.reverse)|_=>.bad
 |.oh i,env=>match env[i]? with
  |some (.fj ai)=>if ai.length<64 then .ok (.lst (gZ .aI (ai.map λq=>.tup [.int q.1,.int q.2]) (ai.map λq=>[q.1,q.2]))) else .bad
  |_=>.bad
noncomputable def bE:Es->Sl->Res (List PV)
 |.nil,_=>.ok []
 |.cons e es,env=>(ax e env).bind λp=>(bE es env).bind λps=>.ok (p::ps)
noncomputable def BV:Oe->Sl->Res (Option Int)
 |.no,_=>.ok none
 |.some e,env=>(ax e env).bind λp=>match p with|.int i=>.ok (some i)|_=>.bad
noncomputable def nB:I->Sl->Res (List PV)
 |.seq e,env=>(ax e env).bind (qp e)
 |.rn e,env=>(ax e env).bind λp=>match p with|.int j=>if aD j then .ok (dQ 0 j.toNat) else .bad|_=>.bad
 |.ng a b,env=>(ax a env).bind λp=>(ax b env).bind λq=>match p,q with|.int i,.int j=>if aD i&&aD j then .ok (dQ i (j-i).toNat) else .bad|_,_=>.bad
 |.enum e,env=>(ax e env).bind λp=>(itemsOf p).bind λxs=>.ok (bB 0 xs)
 |.zip as,env=>(bE as env).bind λps=>(Res.of (ip ps)).bind λxss=>.ok (kb xss)
end
end
inductive Fl where
 |nx (env:Sl)|bk (env:Sl)|ct (env:Sl)|rt (p:PV)
noncomputable def Fl.seq(f:Fl)(k:Sl->Res Fl):Res Fl:=match f with
 |.nx env=>k env
 |f=>.ok f
noncomputable def forL(body:PV->Sl->Res Fl):List PV->Sl->Res Fl
 |[],env=>.ok (.nx env)
 |x::xs,env=>(body x env).bind λf=>match f with
  |.nx aj=>forL body xs aj
  |.ct aj=>forL body xs aj
  |.bk aj=>.ok (.nx aj)
  |.rt p=>.ok (.rt p)
noncomputable def Slot.me:Slot->Bool
 |.fj _=>true
 |_=>false
noncomputable def mF:Slot->Slot
 |.own p=>.val p
 |s=>s
section
variable(F:aO)
mutual
noncomputable def fA:S->Sl->Res Fl
 |.expr e,env=>(ax F e env).bind λ_=>.ok (.nx env)
 |.set i e,env=>(ax F e env).bind λp=>.ok (.nx (env.set i (.val p)))
 |.own i e,env=>(ax F e env).bind λp=>.ok (.nx (env.set i (.own p)))
 |.cV i,env=>.ok (.nx (env.modify i mF))
 |.app i e,env=>match env[i]? with
  |some (.own (.lst xs))=>(ax F e env).bind λp=>if xs.length<bG then .ok (.nx (env.set i (.own (.lst (xs++[p]))))) else .bad
  |_=>.bad
 |.js i e,env=>match env[i]? with
  |some (.own (.lst xs))=>(ax F e env).bind λp=>match p with
   |.lst ys=>if xs.length+ys.length<=bG then .ok (.nx (env.set i (.own (.lst (xs++ys))))) else .bad
   |_=>.bad
  |_=>.bad
 |.ret e,env=>(ax F e env).bind λp=>.ok (.rt p)
 |.ite c a b,env=>(ax F c env).bind λp=>qB p λt=>if t then aF a env else aF b env
 |.cQ tg it b,env=>(nB F it env).bind λxs=>forL (λx env=>(tg.put x env).bind λaj=>aF b aj) xs env
 |.raise c _,_=>.exc c
 |.mH i,env=>if env.any Slot.me then .bad else .ok (.nx (env.set i (.fj [])))
 |.jf i n,env=>match env[i]?,env[n]? with
  |some (.fj ai),some (.val (.int k))=>if(env.set i .no).any Slot.me then .bad else if ai.length<bG then .ok (.nx (env.set i (.fj (bH ai k)))) else .bad
  |_,_=>.bad
 |.par i j as,env=>(bE F as env).bind λps=>match ps with
  |[p,q]=>.ok (.nx ((env.set i (.val p)).set j (.val q)))
  |_=>.bad
noncomputable def aF:Ss->Sl->Res Fl
 |.nil,env=>.ok (.nx env)
 |.cons s ss,env=>(fA s env).bind λf=>f.seq (aF ss)
end
end
structure Def where
 N:List Str
 np:Nat
 body:Ss
 nZ:Option (Str×List Nat):=none
noncomputable def cB(d:Def)(as:List PV):Sl:=match d.nZ with
 |none=>as.map .val++List.replicate (d.N.length-as.length) .no
 |some q=>(as.take (d.np-1)).map .val++.fn q.1 q.2 (as.drop (d.np-1))::List.replicate (d.N.length-d.np) .no
noncomputable def cE(d:Def)(as:List PV):Bool:=match d.nZ with
 |none=>as.length==d.np
 |some _=>decide (0<d.np)&&decide (d.np-1<=as.length)
noncomputable def au(F:aO)(d:Def)(as:List PV):Res PV:=
 if cE d as then(aF F d.body (cB d as)).bind λf=>match f with
  |.nx _=>.ok .aI
  |.rt p=>.ok p
  |_=>.bad
 else .bad
noncomputable def den:List (Str×Def)->aO
 |[],_,_=>.bad
 |(n,d)::r,f,as=>if f==n then au (den r) d as else den r f as
noncomputable abbrev ki(k:List Int):List Key:=k.map Sum.inl
def FA{a b:List Int}(h:ki a=ki b):a=b:=by
 induction a generalizing b with
 |nil=>cases b with|nil=>rfl|cons=>cases h
 |cons x a ih=>cases b with
  |nil=>cases h
  |cons y b=>simp! [ki,zzF,List.cons.injEq,Sum.inl.injEq] at h;rw [h.1,ih h.2]
def GQ(k:List Int):(ki k).map kV=k.map V.int:=by
 unfold ki;rw [List.map_map]
 rfl
theorem Ah{k:List Int}{ks:List (List Int)}{u:V}{us:List V}:kz (k::ks) (u::us)=(ki k,u)::kz ks us:=rfl
def p7{ks:List (List Int)}{us:List V}(h:ks.length=us.length):(kz ks us).length=ks.length:=by
 unfold kz;rw [List.length_zip,zzl];omega
def zb{ks:List (List Int)}{us:List V}(h:ks.length=us.length):(kz ks us).map (·.1)=ks.map ki:=by
 unfold kz;exact List.map_fst_zip (by rw [zzl];omega)
theorem xw(k:List Int):∀(ks:List (List Int)) (us:List V),gA (kz ks us) (ki k)=iV ks us k
 |[],us=>by unfold iV;rfl
 |a::ks,[]=>by unfold iV;rfl
 |a::ks,u::us=>by
  rw [Ah];unfold iV
  by_cases h:a=k
  ·subst h;rw [if_pos rfl];exact ee rfl
  ·rw [if_neg h,eF (λz=>h (FA z))];exact xw k ks us
section
variable{W:Wd}{G:Hp}
theorem tZ{k:List Int}{p:PV}:∀{ks:List (List Int)} {ps:List PV} {us:List V},ah W G ps us->iV ks ps k=some p->∃v,iV ks us k=some v/\Rep W G p v
 |[],_,_,_,e=>by unfold iV at e;cases e
 |a::ks,[],_,_,e=>by unfold iV at e;cases e
 |a::ks,q::ps,_,l,e=>by
  obtain⟨v,r,rfl,h1,h2⟩:=l.bK
  unfold iV at e⊢
  by_cases h:a=k
  ·rw [if_pos h] at e⊢;cases e;exact⟨v,rfl,h1⟩
  ·rw [if_neg h] at e⊢;exact tZ h2 e
end
theorem mC:∀{xs:List PV} {ns:List Int},intsOf xs=some ns->xs=ns.map .int
 |[],_,e=>by cases e;rfl
 |.int i::r,_,e=>by
  unfold intsOf at e;obtain⟨ns,h1,rfl⟩:=zzJ.mp e
  rw [mC h1];rfl
 |.aI::_,_,e=>by cases e
 |.bl _::_,_,e=>by cases e
 |.str _::_,_,e=>by cases e
 |.tup _::_,_,e=>by cases e
 |.lst _::_,_,e=>by cases e
 |.exc _::_,_,e=>by cases e
 |.dB _ _::_,_,e=>by cases e
def sx{p:PV}{k:List Int}(h:yf p=some k):p=fg k:=by
 unfold yf at h;split at h
 ·rw [mC h];rfl
 ·cases h
end Ci
namespace L2
open PySem PySem.Spec PyProof.Rows
end L2
namespace Ci
open PySem L2
def fD{n:Nat}(h:n<=bG):n<=sizeLine:=zzU h (by decide)
section
variable{X:Cx}{W:Wd}{H0 G H:Hp}
def cJ(W:Wd)(G H:Hp)(r:PV)(Q:VK):Prop:=∀v G' H',av W G H G' H'->Rep W G' r v->Q v H'
def cJ.at{r:PV}{Q:VK}{v:V}(h:cJ W G H r Q)(s:aq G H)(k:Rep W G r v):Q v H:=h v G H (.refl s) k
def cJ.tup{xs:List PV}{Q:VK}{vs:List V}{p:Addr}(h:cJ W G H (.tup xs) Q)(s:aq G H)(k:ah W G xs vs)(hp:H p=none):Q (.ref p) (upd H p (.tup vs)):=
 h _ _ _ (.new s hp) (.t (.inl aw) (ah.same (aS (s.free hp)) xs k))
def cJ.lst{xs:List PV}{Q:VK}{vs:List V}{p:Addr}(h:cJ W G H (.lst xs) Q)(s:aq G H)(k:ah W G xs vs)(hp:H p=none):Q (.ref p) (upd H p (.lst vs)):=
 h _ _ _ (.new s hp) (.l (.inl (.inl aw)) (ah.same (aS (s.free hp)) xs k))
theorem iF{f:PV->PV->Bool}:∀{xs ys:List PV},xs.length≠ys.length->eqs f xs ys=false
 |[],[],h=>absurd rfl h
 |_::xs,_::ys,h=>by simp! [eqs];rw [iF (xs:=xs) (ys:=ys) (λz=>h (by simp [z]))];simp
 |[],_::_,_=>rfl
 |_::_,[],_=>rfl
theorem iR{f:PV->PV->Bool}:∀{xs ys:List PV},xs.length=ys.length->eqs f xs ys=(List.range xs.length).all λj=>f (xs.getD j .aI) (ys.getD j .aI)
 |[],[],_=>rfl
 |x::xs,y::ys,h=>by
  simp! [eqs];rw [iR (xs:=xs) (ys:=ys) (by simpa using h),zzL,List.range_succ_eq_map,List.all_cons,List.all_map]
  rfl
 |[],_::_,h=>by simp at h
 |_::_,[],h=>by simp at h
def lp{f:PV->PV->Bool}:∀{xs ys:List PV},((List.range (min xs.length ys.length)).all (λj=>f (xs.getD j .aI) (ys.getD j .aI))&&xs.length==ys.length)=eqs f xs ys:=λ{xs ys}=>by
 by_cases h:xs.length=ys.length
 ·rw [iR h,h,Nat.min_self,beq_self_eq_true,Bool.and_true]
 ·rw [iF h,beq_eq_false_iff_ne.mpr h,Bool.and_false]
theorem oX{f:PV->PV->Bool}:∀{xs ys:List PV},xs.length=ys.length->(∀(j:Nat) x y,xs[j]?=some x->ys[j]?=some y->f x y=true)->eqs f xs ys=true
 |[],[],_,_=>rfl
 |x::xs,y::ys,h,k=>by
  simp! [eqs];rw [k 0 x y rfl rfl,oX (xs:=xs) (ys:=ys) (by simpa using h) λj a b ha hb=>k (j+1) a b (by simpa using ha) (by simpa using hb)]
  rfl
 |[],_::_,h,_=>by simp at h
 |_::_,[],h,_=>by simp at h
def iZ(hK:W.K=X.K){a:Addr}{vs:List V}(h:nX W.K H a vs):fQ X.K H a vs:=by
 rw [hK] at h;rcases h with h|⟨ae,n,h1,h2,h3⟩
 ·exact .inl h
 ·exact .inr ⟨_,ae,n,h1,rfl,rfl,rfl,h2,h3⟩
def n5{aa:List (Addr×Obj)}{σ:St}{s:Shared}(I:Inv X aa σ H s){a:Addr}{vs us:List V}(h1:dJ X.K H a vs)(h2:fQ X.K H a us):False:=by
 obtain⟨ae,_,⟨o,e,hc,_⟩,_⟩:=I.tuple h1
 obtain⟨dr,_,⟨o2,n,e2,hc2,_⟩,_⟩:=I.list h2
 rw [e] at e2;cases e2;rw [hc] at hc2;exact absurd hc2 (by decide)
theorem gF{α:Type}:∀{xs ys:List α},xs.length=ys.length->(∀(j:Nat) x y,xs[j]?=some x->ys[j]?=some y->x=y)->xs=ys
 |[],[],_,_=>rfl
 |x::xs,y::ys,h,k=>by rw [k 0 x y rfl rfl,gF (xs:=xs) (ys:=ys) (by simpa using h) λj a b ha hb=>k (j+1) a b (by simpa using ha) (by simpa using hb)]
 |[],_::_,h,_=>by simp at h
 |_::_,[],h,_=>by simp at h
def OC(X:Cx)(W:Wd)(G H:Hp):PV->V->Prop
 |.aI,v=>v=.aI
 |.bl b,v=>v=.bl b
 |.int i,v=>v=.int i
 |.str z,v=>v=.str z
 |.tup xs,v=>∃a,v=.ref a/\∃vs,dJ X.K H a vs/\ah W G xs vs
 |.lst xs,v=>∃a,v=.ref a/\∃vs,fQ X.K H a vs/\ah W G xs vs
 |_,_=>False
def Jd(hK:W.K=X.K)(sg:aq G H){n:Nat}{p:PV}{v:V}(hp:plain n p=true)(h:Top W H0 G H p v):OC X W G H p v:=by
 cases p with
 |aI=>exact h.aI
 |bl b=>exact h.bl
 |int i=>exact h.int
 |str z=>exact h.str
 |tup xs=>
  obtain⟨a,vs,e,sq,l⟩:=h.tup sg
  rw [hK] at sq;exact⟨a,e,vs,sq,l⟩
 |lst xs=>
  obtain⟨a,vs,e,sq,l⟩:=h.lst sg
  exact⟨a,e,vs,iZ hK sq,l⟩
 |exc c=>cases n<;>exact aM hp
 |dB a b=>cases n<;>exact aM hp
def sW{aa:List (Addr×Obj)}{σ:St}{s:Shared}(I:Inv X aa σ H s)(hK:W.K=X.K)(sg:aq G H):∀(n:Nat) {p q:PV} {v:V},plain n p=true->plain n q=true->Top W H0 G H p v->Top W H0 G H q v->p=q:=by
 intro n
 induction n with
 |zero=>
  intro p q v hp hq h1 h2;have a:=Jd hK sg hp h1
  have b:=Jd hK sg hq h2
  cases p<;>cases q<;>first|exact aM hp|exact aM hq|(cases a;cases b;rfl)|(cases a;cases b)
 |succ n ih=>
  intro p q v hp hq h1 h2;have a:=Jd hK sg hp h1
  have b:=Jd hK sg hq h2
  have el:∀{xs ys:List PV} {vs:List V},xs.all (plain n)=true->ys.all (plain n)=true->ah W G xs vs->ah W G ys vs->xs=ys:=λ{xs ys vs} a1 a2 l1 l2=>
   gF (by rw [<-l1.length,l2.length]) λj x y ex ey=>by
    obtain⟨u,eu,ku⟩:=l1.nt ex
    obtain⟨y',ey',ky⟩:=l2.get eu
    rw [ey] at ey';cases ey';exact ih (zzT.mp a1 _ (zzD ex)) (zzT.mp a2 _ (zzD ey)) (.inl ku) (.inl ky)
  cases p<;>cases q<;>first|exact aM hp|exact aM hq|(cases a;cases b;done)|(cases a;cases b;rfl)|(obtain⟨_,e1,_⟩:=a;cases b;cases e1;done)|(obtain⟨_,e2,_⟩:=b;cases a;cases e2;done)|(obtain⟨x,rfl,vs,s1,l1⟩:=a;obtain⟨y,e2,us,s2,l2⟩:=b;cases e2;first|exact(n5 I s1 s2).elim|exact(n5 I s2 s1).elim|(cases I.lI s1 s2;rw [el hp hq l1 l2])|(cases I.oU s1 s2;rw [el hp hq l1 l2]))
def gb:∀{n:Nat} {p:PV},plain n p=true->gH n p p=true:=by
 intro n
 induction n with
 |zero=>intro p h;cases p<;>first|exact aM h|rfl|exact beq_self_eq_true _
 |succ n ih=>
  intro p h;cases p<;>first|exact aM h|rfl|exact beq_self_eq_true _|exact oX rfl λj x y e1 e2=>by rw [e1] at e2;cases e2;exact ih (zzT.mp h _ (zzD e1))
def sU{aa:List (Addr×Obj)}{σ:St}{s:Shared}(I:Inv X aa σ H s)(hK:W.K=X.K)(sg:aq G H):∀(n:Nat) {p q:PV} {v:V},plain n p=true->plain n q=true->Top W H0 G H p v->Top W H0 G H q v->gH n p q=true:=λn {p q v} hp hq h1 h2=>by
 cases sW I hK sg n hp hq h1 h2;exact gb hp
def iS{x:V}{a:Addr}(r:RelV x (.ref a)):x=.ref a:=by
 cases x<;>first|(cases r;rfl)|(obtain⟨_,h⟩:=r;cases h)|cases r
def Ov(W:Wd)(G:Hp)(h:Heap):PV->Value->Prop
 |.aI,v=>∃_t:Nat,v=.none/\True
 |.bl b,v=>∃_t:Nat,v=.bool b/\True
 |.int i,v=>∃t,v=.int i t/\True
 |.str z,v=>∃t,v=.str z t/\True
 |.tup xs,v=>∃a,v=.ref a/\∃ae vs,ah W G xs vs/\Vals vs ae/\h.IsTuple a ae.toArray
 |.lst xs,v=>∃a,v=.ref a/\∃ae vs,ah W G xs vs/\Vals vs ae/\h.IsList a ae.toArray
 |_,_=>False
def Cd{aa:List (Addr×Obj)}{σ:St}{s:Shared}(I:Inv X aa σ H s)(hK:W.K=X.K)(sg:aq G H){n:Nat}{p:PV}{v:V}{v':Value}(hp:plain n p=true)(h:Top W H0 G H p v)(r:RelV v v'):Ov W G s.heap p v':=by
 cases p with
 |aI=>cases h.aI;cases r;exact⟨0,rfl,trivial⟩
 |bl b=>cases h.bl;cases r;exact⟨0,rfl,trivial⟩
 |int i=>cases h.int;obtain⟨t,rfl⟩:=r;exact⟨t,rfl,trivial⟩
 |str z=>cases h.str;obtain⟨t,rfl⟩:=r;exact⟨t,rfl,trivial⟩
 |tup xs=>
  obtain⟨a,vs,rfl,sq,l⟩:=h.tup sg
  rw [hK] at sq;cases r;obtain⟨ae,q,z,_⟩:=I.tuple sq
  exact⟨a,rfl,ae,vs,l,q,z⟩
 |lst xs=>
  obtain⟨a,vs,rfl,sq,l⟩:=h.lst sg
  cases r;obtain⟨ae,q,z,_⟩:=I.list (iZ hK sq)
  exact⟨a,rfl,ae,vs,l,q,z.isList⟩
 |exc c=>cases n<;>exact aM hp
 |dB a b=>cases n<;>exact aM hp
def oR(W:Wd)(G:Hp)(s:Shared)(n:Nat)(A:Around)(xs ys:List PV):Prop:=∀{vs us:List V} {ae dr:List Value},ah W G xs vs->ah W G ys us->Vals vs ae->Vals us dr->∀j (h1:j<ae.toArray.size) (h2:j<dr.toArray.size),SeqAt.EqAt A s ae.toArray[j] dr.toArray[j] (gH n (xs.getD j .aI) (ys.getD j .aI))
theorem wJ{s:Shared}{n:Nat}{A:Around}{xs ys:List PV}(h:∀{p q:PV} {v u:V} {v' u':Value},plain n p=true->plain n q=true->Rep W G p v->Rep W G q u->RelV v v'->RelV u u'->SeqAt.EqAt A s v' u' (gH n p q))(a1:xs.all (plain n)=true)(a2:ys.all (plain n)=true):oR W G s n A xs ys:=λ{vs us ae dr} l1 l2 q1 q2 j g1 g2=>by
 obtain⟨x,hx,rx⟩:=wG q1 g1
 obtain⟨y,hy,ry⟩:=wG q2 g2
 obtain⟨px,ex,kx⟩:=l1.get hx
 obtain⟨py,ey,ky⟩:=l2.get hy
 rw [zzK,zzK,ex,ey];exact h (zzT.mp a1 _ (zzD ex)) (zzT.mp a2 _ (zzD ey)) kx ky rx ry
def tR{s:Shared}{n:Nat}{A:Around}{a b:Addr}{xs ys:List PV}(hu:A.units<cLine)(el:oR W G s n A.in1 xs ys)(k1:∃ae vs,ah W G xs vs/\Vals vs ae/\s.heap.IsTuple a ae.toArray)(k2:∃ae vs,ah W G ys vs/\Vals vs ae/\s.heap.IsTuple b ae.toArray):SeqAt.RcAt A s (.ref a) (.ref b) (eqs (gH n) xs ys):=by
 obtain⟨ae,vs,l,q1,z1⟩:=k1
 obtain⟨dr,us,l2,q2,z2⟩:=k2
 have m1:ae.length=xs.length:=by rw [<-q1.length,l.length]
 have m2:dr.length=ys.length:=by rw [<-q2.length,l2.length]
 have:=SeqAt.RcAt.tuples (e:=λj=>gH n (xs.getD j .aI) (ys.getD j .aI)) z1 z2 hu (el l l2 q1 q2)
 rw [zzC,zzC,m1,m2,lp] at this;exact this
def tJ{s:Shared}{n:Nat}{A:Around}{a b:Addr}{xs ys:List PV}(hu:A.units<cLine)(el:oR W G s n A.in1 xs ys)(k1:∃ae vs,ah W G xs vs/\Vals vs ae/\s.heap.IsList a ae.toArray)(k2:∃ae vs,ah W G ys vs/\Vals vs ae/\s.heap.IsList b ae.toArray):SeqAt.RcAt A s (.ref a) (.ref b) (eqs (gH n) xs ys):=by
 obtain⟨ae,vs,l,q1,z1⟩:=k1
 obtain⟨dr,us,l2,q2,z2⟩:=k2
 have m1:ae.length=xs.length:=by rw [<-q1.length,l.length]
 have m2:dr.length=ys.length:=by rw [<-q2.length,l2.length]
 by_cases hl:xs.length=ys.length
 ·have:=SeqAt.RcAt.lists (e:=λj=>gH n (xs.getD j .aI) (ys.getD j .aI)) z1 z2 (by rw [zzC,zzC];omega) hu (el l l2 q1 q2)
  rw [zzC,m1,<-iR hl] at this;exact this
 ·have:=SeqAt.RcAt.lists_lengths z1 z2 (by rw [zzC,zzC,m1,m2];simp [hl]) hu
  rw [iF hl];exact this
open SeqAt.EqAt in
def wK{aa:List (Addr×Obj)}{σ:St}{s:Shared}(I:Inv X aa σ H s)(hK:W.K=X.K)(sg:aq G H):∀(n:Nat) {A:Around} {p q:PV} {v u:V} {v' u':Value},A.units+(n+1)<cLine->plain n p=true->plain n q=true->Top W H0 G H p v->Top W H0 G H q u->RelV v v'->RelV u u'->
 SeqAt.EqAt A s v' u' (gH n p q):=by
 intro n
 induction n with
 |zero=>
  intro A p q v u v' u' hu hp hq h1 h2 r1 r2;have a:=Cd I hK sg hp h1 r1
  have b:=Cd I hK sg hq h2 r2
  cases p<;>cases q<;>first|exact aM hp|exact aM hq|(obtain⟨t1,rfl,_⟩:=a;obtain⟨t2,rfl,_⟩:=b)
  exact same _
  exact none_bool _
  exact none_int _ _
  exact none_str _ _
  exact bool_none _
  exact bool_bool _ _
  exact bool_int _ _ _
  exact bool_str _ _ _
  exact int_none _ _
  exact int_bool _ _ _
  exact int_int _ _ _ _
  exact int_str _ _ _ _
  exact str_none _ _
  exact str_bool _ _ _
  exact str_int _ _ _ _
  exact str_str _ _ _ _
 |succ n ih=>
  intro A p q v u v' u' hu hp hq h1 h2 r1 r2;have b8:A.units<cLine:=by omega
  have a:=Cd I hK sg hp h1 r1
  have b:=Cd I hK sg hq h2 r2
  have el:∀{xs ys:List PV},xs.all (plain n)=true->ys.all (plain n)=true->oR W G s n A.in1 xs ys:=λa1 a2=>wJ (λhp hq h1 h2 r1 r2=>ih (by show A.units+1+(n+1)<_;omega) hp hq (.inl h1) (.inl h2) r1 r2) a1 a2
  cases p<;>cases q<;>first|exact aM hp|exact aM hq|(obtain⟨t1,rfl,k1⟩:=a;obtain⟨t2,rfl,k2⟩:=b;try obtain⟨_,_,_,_,z1⟩:=id k1;try obtain⟨_,_,_,_,z2⟩:=id k2)
  exact same _
  exact none_bool _
  exact none_int _ _
  exact none_str _ _
  exact none_tuple z2 b8
  exact none_list z2 b8
  exact bool_none _
  exact bool_bool _ _
  exact bool_int _ _ _
  exact bool_str _ _ _
  exact bool_tuple _ z2 b8
  exact bool_list _ z2 b8
  exact int_none _ _
  exact int_bool _ _ _
  exact int_int _ _ _ _
  exact int_str _ _ _ _
  exact int_tuple _ _ z2 b8
  exact int_list _ _ z2 b8
  exact str_none _ _
  exact str_bool _ _ _
  exact str_int _ _ _ _
  exact str_str _ _ _ _
  exact str_tuple _ _ z2 b8
  exact str_list _ _ z2 b8
  exact tuple_none z1 b8
  exact tuple_bool _ z1 b8
  exact tuple_int _ _ z1 b8
  exact tuple_str _ _ z1 b8
  by_cases c9:t1=t2
  ·subst c9;cases iS r1;cases iS r2;rw [sU I hK sg (n+1) hp hq h1 h2];exact same _
  ·exact of_refs c9 (tR b8 (el hp hq) k1 k2)
  exact tuple_list z1 z2 b8
  exact list_none z1 b8
  exact list_bool _ z1 b8
  exact list_int _ _ z1 b8
  exact list_str _ _ z1 b8
  exact list_tuple z1 z2 b8
  by_cases c9:t1=t2
  ·subst c9;cases iS r1;cases iS r2;rw [sU I hK sg (n+1) hp hq h1 h2];exact same _
  ·exact of_refs c9 (tJ b8 (el hp hq) k1 k2)
end
section
variable{X:Cx}{W:Wd}{H0 G H:Hp}
open SeqAt.RcAt in
def HF{aa:List (Addr×Obj)}{σ:St}{s:Shared}(I:Inv X aa σ H s)(hK:W.K=X.K)(sg:aq G H)(n:Nat){A:Around}{p q:PV}{v u:V}{v' u':Value}(hu:A.units+(n+2)<cLine)(hp:plain (n+1) p=true)(hq:plain (n+1) q=true)(h1:Top W H0 G H p v)(h2:Top W H0 G H q u)(r1:RelV v v')(r2:RelV u u'):
 SeqAt.RcAt A s v' u' (gH (n+1) p q):=by
 have b8:A.units<cLine:=by omega
 have a:=Cd I hK sg hp h1 r1
 have b:=Cd I hK sg hq h2 r2
 have el:∀{xs ys:List PV},xs.all (plain n)=true->ys.all (plain n)=true->oR W G s n A.in1 xs ys:=λa1 a2=>wJ (λhp hq h1 h2 r1 r2=>wK (H0:=H0) I hK sg n (by show A.units+1+(n+1)<_;omega) hp hq (.inl h1) (.inl h2) r1 r2) a1 a2
 cases p<;>cases q<;>first|exact aM hp|exact aM hq|(obtain⟨t1,rfl,k1⟩:=a;obtain⟨t2,rfl,k2⟩:=b;try obtain⟨_,_,_,_,z1⟩:=id k1;try obtain⟨_,_,_,_,z2⟩:=id k2)
 exact none_none
 exact none_bool _
 exact none_int _ _
 exact none_str _ _
 exact none_tuple z2 b8
 exact none_list z2 b8
 exact bool_none _
 exact bool_bool _ _
 exact bool_int _ _ _
 exact bool_str _ _ _
 exact bool_tuple _ z2 b8
 exact bool_list _ z2 b8
 exact int_none _ _
 exact int_bool _ _ _
 exact int_int _ _ _ _
 exact int_str _ _ _ _
 exact int_tuple _ _ z2 b8
 exact int_list _ _ z2 b8
 exact str_none _ _
 exact str_bool _ _ _
 exact str_int _ _ _ _
 exact str_str _ _ _ _
 exact str_tuple _ _ z2 b8
 exact str_list _ _ z2 b8
 exact tuple_none z1 b8
 exact tuple_bool _ z1 b8
 exact tuple_int _ _ z1 b8
 exact tuple_str _ _ z1 b8
 exact tR b8 (el hp hq) k1 k2
 exact tuple_list z1 z2 b8
 exact list_none z1 b8
 exact list_bool _ z1 b8
 exact list_int _ _ z1 b8
 exact list_str _ _ z1 b8
 exact list_tuple z1 z2 b8
 exact tJ b8 (el hp hq) k1 k2
def u7{s:Shared}{n:Nat}{A:Around}{a b:Addr}{xs ys:List PV}(hu:A.units<cLine)(el:oR W G s n A.in1 xs ys)(k1:∃ae vs,ah W G xs vs/\Vals vs ae/\s.heap.IsTuple a ae.toArray)(k2:∃ae vs,ah W G ys vs/\Vals vs ae/\s.heap.IsTuple b ae.toArray):SeqAt.RcNeAt A s (.ref a) (.ref b) (!eqs (gH n) xs ys):=by
 obtain⟨ae,vs,l,q1,z1⟩:=k1
 obtain⟨dr,us,l2,q2,z2⟩:=k2
 have m1:ae.length=xs.length:=by rw [<-q1.length,l.length]
 have m2:dr.length=ys.length:=by rw [<-q2.length,l2.length]
 have:=SeqAt.RcNeAt.tuples (e:=λj=>gH n (xs.getD j .aI) (ys.getD j .aI)) z1 z2 hu (el l l2 q1 q2)
 rw [zzC,zzC,m1,m2,lp] at this;exact this
def vA{s:Shared}{n:Nat}{A:Around}{a b:Addr}{xs ys:List PV}(hu:A.units<cLine)(el:oR W G s n A.in1 xs ys)(k1:∃ae vs,ah W G xs vs/\Vals vs ae/\s.heap.IsList a ae.toArray)(k2:∃ae vs,ah W G ys vs/\Vals vs ae/\s.heap.IsList b ae.toArray):SeqAt.RcNeAt A s (.ref a) (.ref b) (!eqs (gH n) xs ys):=by
 obtain⟨ae,vs,l,q1,z1⟩:=k1
 obtain⟨dr,us,l2,q2,z2⟩:=k2
 have m1:ae.length=xs.length:=by rw [<-q1.length,l.length]
 have m2:dr.length=ys.length:=by rw [<-q2.length,l2.length]
 by_cases hl:xs.length=ys.length
 ·have:=SeqAt.RcNeAt.lists (e:=λj=>gH n (xs.getD j .aI) (ys.getD j .aI)) z1 z2 (by rw [zzC,zzC];omega) hu (el l l2 q1 q2)
  rw [zzC,m1,<-iR hl] at this;exact this
 ·have:=SeqAt.RcNeAt.lists_lengths z1 z2 (by rw [zzC,zzC,m1,m2];simp [hl]) hu
  rw [iF hl];exact this
open SeqAt.RcNeAt in
def By{aa:List (Addr×Obj)}{σ:St}{s:Shared}(I:Inv X aa σ H s)(hK:W.K=X.K)(sg:aq G H)(n:Nat){A:Around}{p q:PV}{v u:V}{v' u':Value}(hu:A.units+(n+2)<cLine)(hp:plain (n+1) p=true)(hq:plain (n+1) q=true)(h1:Top W H0 G H p v)(h2:Top W H0 G H q u)(r1:RelV v v')(r2:RelV u u'):
 SeqAt.RcNeAt A s v' u' (!gH (n+1) p q):=by
 have b8:A.units<cLine:=by omega
 have a:=Cd I hK sg hp h1 r1
 have b:=Cd I hK sg hq h2 r2
 have el:∀{xs ys:List PV},xs.all (plain n)=true->ys.all (plain n)=true->oR W G s n A.in1 xs ys:=λa1 a2=>wJ (λhp hq h1 h2 r1 r2=>wK (H0:=H0) I hK sg n (by show A.units+1+(n+1)<_;omega) hp hq (.inl h1) (.inl h2) r1 r2) a1 a2
 cases p<;>cases q<;>first|exact aM hp|exact aM hq|(obtain⟨t1,rfl,k1⟩:=a;obtain⟨t2,rfl,k2⟩:=b;try obtain⟨_,_,_,_,z1⟩:=id k1;try obtain⟨_,_,_,_,z2⟩:=id k2)
 exact none_none
 exact none_bool _
 exact none_int _ _
 exact none_str _ _
 exact none_tuple z2 b8
 exact none_list z2 b8
 exact bool_none _
 exact bool_bool _ _
 exact bool_int _ _ _
 exact bool_str _ _ _
 exact bool_tuple _ z2 b8
 exact bool_list _ z2 b8
 exact int_none _ _
 exact int_bool _ _ _
 exact int_int _ _ _ _
 exact int_str _ _ _ _
 exact int_tuple _ _ z2 b8
 exact int_list _ _ z2 b8
 exact str_none _ _
 exact str_bool _ _ _
 exact str_int _ _ _ _
 exact str_str _ _ _ _
 exact str_tuple _ _ z2 b8
 exact str_list _ _ z2 b8
 exact tuple_none z1 b8
 exact tuple_bool _ z1 b8
 exact tuple_int _ _ z1 b8
 exact tuple_str _ _ z1 b8
 exact u7 b8 (el hp hq) k1 k2
 exact tuple_list z1 z2 b8
 exact list_none z1 b8
 exact list_bool _ z1 b8
 exact list_int _ _ z1 b8
 exact list_str _ _ z1 b8
 exact list_tuple z1 z2 b8
 exact vA b8 (el hp hq) k1 k2
end
end Ci
namespace L2
open PySem PySem.Spec PyProof.Rows
open PySem.AutoSeq1 (wpAny_loadPart')
theorem qw(l:Addr)(items:Array Value)(n:Nat)(dd:Option Addr)(sl:Array (Option Value))(u:Tok):
 Meets (Builtin.«tuple.__mul__» ⟨[.ref l,.int 1 u],[]⟩) (λ_ R s=>s.heap.get? l=some {cls:=.type "tuple",dict:=dd,data:=.seq items n,slots:=sl}/\R (.ok (.ret (Value.ref l))) s):=
 .of_wp λprog w A R s h=>by
  obtain⟨hp,g,d,tk,os⟩:=s
  obtain⟨hl,h⟩:=h
  have f1:=PySem.AutoSeq1.idx_int
  have f2:=PySem.AutoSeq1.sub_tuple_tuple
  wp_walk using wpAny_loadPart' hl
  exact⟨_,rfl,h⟩
def yo{X:Cx}:d5 X (binaryOp .Mult) (λx y H Q=>∃a xs,x=.ref a/\y=.int 1/\dJ X.K H a xs/\Q (.ref a) H):=by
 intro aa s σ H x y v u Q I rx ry h;obtain⟨a,xs,rfl,rfl,ha,q⟩:=h
 cases rx;obtain⟨t,rfl⟩:=ry
 obtain⟨ae,r,p1,_⟩:=I.tuple ha
 obtain⟨⟨cls,dd,data,sl⟩,ho,hc,k,hd⟩:=id p1
 simp only at hc hd;subst hc hd;refine wpAny_binaryOp_repeat_ref (T:="tuple") (U:="int") (by decide) ⟨_,ho,rfl⟩ (λs'=>typeIs_int s' 1 t) du PySem.F.fills_int_mul PySem.F.slot_int_rmul gq PySem.F.slot_int_index.lookup
  (call_meets PySem.F.slot_int_rmul (typeIs_int s 1 t) PySem.F.entry_int_rmul (PySem.F.args_int_rmul_2 _ _) (eR 1 t a ae.toArray k dd sl)
   ⟨ho,rfl,⟨_,ho,rfl⟩,call_meets PySem.F.slot_tuple_mul ⟨_,ho,rfl⟩ PySem.F.entry_tuple_mul (PySem.F.args_tuple_mul_2 _ _) (qw a ae.toArray k dd sl t) ⟨ho,?_⟩⟩)
 exact⟨.ref a,H,I,rfl,q⟩
end L2
namespace Ci
open PySem L2
section
variable{X:Cx}{W:Wd}
def Ep(hK:W.K=X.K){aa:List (Addr×Obj)}{σ:St}{H:Hp}{s:Shared}{a:Addr}{xs:List V}(I:Inv X aa σ H s)(h:nX W.K H a xs):∃(ae:List Value) (n:Nat),Vals xs ae/\xs.length=ae.length/\xs.length<=sizeLine/\s.heap.get? a=some {cls:=.type "list",data:=.seq ae.toArray n}:=by
 rw [hK] at h;rcases h with h|⟨ae,n,h1,h2,h3⟩
 ·obtain⟨z,ae,n,r,e⟩:=h.ok I.aU
  exact⟨ae,n,r,r.length,z,e⟩
 ·refine⟨ae.toList,n,h3,h3.length,?_,by simpa using I.rY a _ h1⟩;rw [h3.length,zzd];exact h2
def Bi(hK:W.K=X.K):d5 X (binaryOp .Mult) (λx y H Q=>∃l k xs,x=.ref l/\y=.int k/\nX W.K H l xs/\0<=k/\k<1000/\xs.length<1000/\∀p,H p=none->Q (.ref p) (upd H p (.lst (List.replicate k.toNat xs).flatten))):=by
 intro aa s σ H x y v u Q I rx ry h;obtain⟨l,k,xs,rfl,rfl,hH,h1,h2,h3,q⟩:=h
 cases rx;obtain⟨t,rfl⟩:=ry
 obtain⟨ae,n,r,hl,_,e⟩:=Ep hK I hH
 have hz:xs.length*k.toNat<=sizeLine:=by
  have:xs.length*k.toNat<=1000*1000:=Nat.mul_le_mul (by omega) (by omega)
  have Jh:(1000000:Nat)<=sizeLine:=by decide
  omega
 have hlen:ae.toArray.size*k.toNat<=sizeLine:=by rw [zzC,<-hl];exact hz
 have J9:¬ae.toArray.size*k.toNat>(2^63-1)/8:=by
  have:(sizeLine:Nat)<=(2^63-1)/8:=by decide
  omega
 have EW:¬(!Builtin.List.listFitsIndex k)=true:=by
  rw [fitsIndex_both (by omega) (by omega)];exact zzf
 have yh:¬Builtin.List.listTooLong (ae.toArray.size*k.toNat)=true:=by
  rw [pz hlen];exact zzf
 have jb:List.foldl (λx1 x2=>x1++x2) #[] (List.replicate (if ae.toArray.isEmpty=true then 0 else k.toNat) ae.toArray)=(List.replicate k.toNat ae).flatten.toArray:=by
  have f0:∀m:Nat,List.foldl (λx1 x2=>x1++x2) #[] (List.replicate m ae.toArray)=(List.replicate m ae).flatten.toArray:=λm=>by
   have:=foldl_rep ae m []
   rw [List.nil_append] at this;exact this
  rw [f0];cases ae with
  |nil=>simp
  |cons a r'=>rw [if_neg (by simp)]
 refine wpAny_binaryOp_repeat_ref (T:="list") (U:="int") (by decide) ⟨_,e,rfl⟩ (λs'=>typeIs_int s' k t) noFill_list_mul PySem.F.fills_int_mul PySem.F.slot_int_rmul repeat_list PySem.F.slot_int_index.lookup
  (call_meets PySem.F.slot_int_rmul (typeIs_int s k t) PySem.F.entry_int_rmul (PySem.F.args_int_rmul_2 _ _) (int___rmul___int_list k t l ae.toArray n)
   ⟨e,rfl,⟨_,e,rfl⟩,call_meets PySem.F.slot_list_mul ⟨_,e,rfl⟩ PySem.F.entry_list_mul (PySem.F.args_list_mul_2 _ _) (AutoListH.list___mul___list_int_3 l ae.toArray n k t EW J9 yh) ⟨e,?_⟩⟩)
 rw [jb];exact⟨.ref _,_,I.Le (t':=s.toks) (r.rep k.toNat) (by rw [len_rep,Nat.mul_comm];exact hz),rfl,q _ I.fresh⟩
theorem ah.rep{G:Hp}{ps:List PV}{vs:List V}(h:ah W G ps vs):∀k:Nat,ah W G (List.replicate k ps).flatten (List.replicate k vs).flatten
 |0=>.nil
 |k+1=>by
  rw [List.replicate_succ,List.replicate_succ,List.flatten_cons,List.flatten_cons];exact h.append (h.rep k)
def As:d5 X (binaryOp .Add) (λx y H Q=>∃a b xs ys,x=.ref a/\y=.ref b/\dJ X.K H a xs/\dJ X.K H b ys/\xs.length+ys.length<=sizeLine/\(xs=[]->Q (.ref b) H)/\(ys=[]->Q (.ref a) H)/\∀p,H p=none->Q (.ref p) (upd H p (.tup (xs++ys)))):=by
 intro aa s σ H x y v u Q I rx ry h;obtain⟨a,b,xs,ys,rfl,rfl,ha,hb,hz,q1,q2,q3⟩:=h
 cases rx;cases ry
 by_cases hx:xs=[]
 ·subst hx;obtain⟨ae,r1,p1,_⟩:=I.tuple ha
  obtain⟨dr,r2,p2,_⟩:=I.tuple hb
  have e1:ae=[]:=r1.iN.mpr rfl
  subst e1;obtain⟨⟨cls,dd,data,sl⟩,ho,hc,n,hd⟩:=id p1
  obtain⟨⟨cls2,dd2,data2,sl2⟩,nW,hc2,n2,hd2⟩:=id p2
  simp only at hc hd hc2 hd2;subst hc hd hc2 hd2;exact PySem.concat_meets ⟨_,ho,rfl⟩ ⟨_,nW,rfl⟩ PySem.noFill_tuple_add PySem.seq_tuple_add PySem.F.slot_tuple_add PySem.F.entry_tuple_add (PySem.F.args_tuple_add_2 _ _)
   (PyProof.Rows.tuple_addW0 a b ([]:List Value).toArray dr.toArray n n2 dd dd2 sl sl2 (by simp)) ⟨ho,nW,⟨.ref b,H,I,rfl,q1 rfl⟩⟩
 ·refine Bx aa s σ H (.ref a) (.ref b) (.ref a) (.ref b) Q I rfl rfl ⟨a,b,xs,ys,rfl,rfl,ha,hb,hx,hz,λe=>q2 e,λ_ p hp=>q3 p hp⟩
noncomputable def Jj:EZ->Operator
 |.add=>.Add|.sub=>.Sub|.mul=>.Mult|.mod=>.Mod|.fdiv=>.FloorDiv
noncomputable def sS(W:Wd)(f:PV->PV->Res PV):R2:=λx y H Q=>∃H0 G p q r,aq G H/\Top W H0 G H p x/\Top W H0 G H q y/\f p q=.ok r/\cJ W G H r Q
def Eu(hK:W.K=X.K)(o:EZ):d5 X (binaryOp (Jj o)) (sS W (binOp o)):=by
 intro aa s σ H x y v u Q I rx ry h;obtain⟨H0,G,p,q,r,sg,t1,t2,e,wq⟩:=h
 unfold binOp at e;split at e
 ·cases e;exact wR aa s σ H x y v u Q I rx ry ⟨_,_,t1.int,t2.int,wq.at sg .i⟩
 ·split at e
  ·rename_i hl;cases e;exact qf aa s σ H x y v u Q I rx ry ⟨_,_,t1.str,t2.str,fD hl,wq.at sg .s⟩
  ·cases e
 ·split at e
  ·rename_i hl;cases e;have L4:=t1
   have Oo:=t2
   obtain⟨a,vs,rfl,h1,l1⟩:=t1.tup sg
   obtain⟨b,us,rfl,h2,l2⟩:=t2.tup sg
   rw [hK] at h1 h2;have m1:=l1.length
   have m2:=l2.length
   refine As aa s σ H _ _ v u Q I rx ry ⟨a,b,vs,us,rfl,rfl,h1,h2,by rw [m1,m2];exact fD hl,λz=>?_,λz=>?_,λp hp=>wq.tup sg (l1.append l2) hp⟩
   ·subst z;rename_i xs ys;have:xs=[]:=List.length_eq_zero_iff.mp m1.symm
    subst this;exact wq.at sg (Oo.elim id λz=>z.elim)
   ·subst z;rename_i xs ys;have:ys=[]:=List.length_eq_zero_iff.mp m2.symm
    subst this;rw [zz6] at wq;exact wq.at sg (L4.elim id λz=>z.elim)
  ·cases e
 ·cases e;exact E0 aa s σ H x y v u Q I rx ry ⟨_,_,t1.int,t2.int,wq.at sg .i⟩
 ·split at e
  ·rename_i hc;cases e;refine EK aa s σ H x y v u Q I rx ry ⟨_,_,t1.int,t2.int,?_,wq.at sg .i⟩;rw [zzt] at hc;unfold aG at hc;simp! [zza,zzN] at hc;exact hc
  ·cases e
 ·split at e
  ·rename_i hc;cases e;obtain⟨a,vs,rfl,h1,l1⟩:=t1.lst sg
   exact Bi hK aa s σ H _ _ v u Q I rx ry ⟨a,_,vs,rfl,t2.int,h1,hc.1,hc.2.1,by rw [l1.length];exact hc.2.2,λp hp=>wq.lst sg (l1.rep _) hp⟩
  ·cases e
 ·split at e
  ·rename_i hc;cases e;have L4:=t1
   obtain⟨a,vs,rfl,h1,l1⟩:=t1.tup sg
   rw [hK] at h1;have m1:=l1.length
   rename_i xs jj
   by_cases hj:jj=1
   ·subst hj;refine yo aa s σ H _ _ v u Q I rx ry ⟨a,vs,rfl,t2.int,h1,?_⟩;have ex:(List.replicate (1:Int).toNat xs).flatten=xs:=by
     show(List.replicate 1 xs).flatten=xs
     simp
    rw [ex] at wq;exact wq.at sg (L4.elim id λz=>z.elim)
   ·exact Bo aa s σ H _ _ v u Q I rx ry ⟨a,_,vs,rfl,t2.int,h1,by omega,hc.2.1,by rw [m1];exact hc.2.2.1,by rw [m1];exact hc.2.2.2,λp hp=>wq.tup sg (l1.rep _) hp⟩
  ·cases e
 ·split at e
  ·rename_i hc;cases e;exact Fd aa s σ H x y v u Q I rx ry ⟨_,_,t1.int,t2.int,hc,wq.at sg .i⟩
  ·cases e
 ·split at e
  ·rename_i hc;cases e;exact zY aa s σ H x y v u Q I rx ry ⟨_,_,t1.int,t2.int,hc,wq.at sg .i⟩
  ·cases e
 ·cases e
def Au:JS X (unaryOp .USub) (λx H Q=>∃(H0 G:Hp) (i:Int),aq G H/\Top W H0 G H (.int i) x/\cJ W G H (.int (-i)) Q):=by
 intro aa s σ H x v Q I rx h;obtain⟨H0,G,i,sg,t,wq⟩:=h
 exact Eh aa s σ H x v Q I rx ⟨i,t.int,wq.at sg .i⟩
noncomputable def nY:yC->CmpOp
 |.eq=>.Eq|.ne=>.NotEq|.lt=>.Lt|.le=>.LtE|.gt=>.Gt|.Av=>.IsNot|.A1=>.In|.II=>.NotIn
def yB{aa:List (Addr×Obj)}{σ:St}{H G:Hp}{s:Shared}{Q:VK}{k:Bool}(I:Inv X aa σ H s)(sg:aq G H)(wq:cJ W G H (.bl k) Q):EP X aa σ Q (.bool k) s:=⟨.bl k,H,I,rfl,wq.at sg .b⟩
def C6(hK:W.K=X.K)(hu:X.A.units+64<cLine):d5 X (compareOp .Eq) (sS W iA):=by
 intro aa s σ H x y v u Q I rx ry h;obtain⟨H0,G,p,q,r,sg,t1,t2,e,wq⟩:=h
 unfold iA at e;split at e
 ·rename_i hc;rw [zza] at hc;cases e;exact HF I hK sg 8 (by omega) hc.1 hc.2 t1 t2 rx ry _ _ _ _ (yB I sg wq)
 ·cases e
def E5(hK:W.K=X.K)(hu:X.A.units+64<cLine):d5 X (compareOp .NotEq) (sS W gG):=by
 intro aa s σ H x y v u Q I rx ry h;obtain⟨H0,G,p,q,r,sg,t1,t2,e,wq⟩:=h
 unfold gG at e;split at e
 ·rename_i hc;rw [zza] at hc;cases e;exact By I hK sg 8 (by omega) hc.1 hc.2 t1 t2 rx ry _ _ _ _ (yB I sg wq)
 ·cases e
theorem kf{G:Hp}:∀{xs:List PV} {vs:List V} {ns:List Int},ah W G xs vs->intsOf xs=some ns->vs=ns.map V.int
 |[],vs,ns,h,e=>by simp! [ah] at h;subst h;cases e;rfl
 |.int i::r,vs,ns,h,e=>by
  obtain⟨v,t,rfl,h1,h2⟩:=h.bK
  simp! [Rep] at h1;subst h1;unfold intsOf at e;obtain⟨m,hm,rfl⟩:=zzJ.mp e
  rw [kf h2 hm]
  rfl
 |.aI::_,_,_,_,e=>by cases e
 |.bl _::_,_,_,_,e=>by cases e
 |.str _::_,_,_,_,e=>by cases e
 |.tup _::_,_,_,_,e=>by cases e
 |.lst _::_,_,_,_,e=>by cases e
 |.exc _::_,_,_,_,e=>by cases e
 |.dB _ _::_,_,_,_,e=>by cases e
theorem hU{G:Hp}:∀{xs:List PV} {vs:List V} {ns:List Bool},ah W G xs vs->boolsOf xs=some ns->vs=ns.map V.bl
 |[],vs,ns,h,e=>by simp! [ah] at h;subst h;cases e;rfl
 |.bl i::r,vs,ns,h,e=>by
  obtain⟨v,t,rfl,h1,h2⟩:=h.bK
  simp! [Rep] at h1;subst h1;unfold boolsOf at e;obtain⟨m,hm,rfl⟩:=zzJ.mp e
  rw [hU h2 hm]
  rfl
 |.aI::_,_,_,_,e=>by cases e
 |.int _::_,_,_,_,e=>by cases e
 |.str _::_,_,_,_,e=>by cases e
 |.tup _::_,_,_,_,e=>by cases e
 |.lst _::_,_,_,_,e=>by cases e
 |.exc _::_,_,_,_,e=>by cases e
 |.dB _ _::_,_,_,_,e=>by cases e
theorem jc{G:Hp}:∀{xs:List PV} {vs:List V} {ns:List Str},ah W G xs vs->strsOf xs=some ns->vs=ns.map V.str
 |[],vs,ns,h,e=>by simp! [ah] at h;subst h;cases e;rfl
 |.str i::r,vs,ns,h,e=>by
  obtain⟨v,t,rfl,h1,h2⟩:=h.bK
  simp! [Rep] at h1;subst h1;unfold strsOf at e;obtain⟨m,hm,rfl⟩:=zzJ.mp e
  rw [jc h2 hm]
  rfl
 |.aI::_,_,_,_,e=>by cases e
 |.int _::_,_,_,_,e=>by cases e
 |.bl _::_,_,_,_,e=>by cases e
 |.tup _::_,_,_,_,e=>by cases e
 |.lst _::_,_,_,_,e=>by cases e
 |.exc _::_,_,_,_,e=>by cases e
 |.dB _ _::_,_,_,_,e=>by cases e
def Res.of_ok{α:Type}{o:Option α}{a:α}(h:Res.of o=.ok a):o=some a:=by
 cases o with
 |none=>cases h
 |some b=>cases h;rfl
def En(hK:W.K=X.K)(hu:X.A.units+64<cLine):d5 X (compareOp .Lt) (sS W pB):=by
 intro aa s σ H x y v u Q I rx ry h;obtain⟨H0,G,p,q,r,sg,t1,t2,e,wq⟩:=h
 unfold pB at e;split at e
 ·cases e;exact Hy aa s σ H x y v u Q I rx ry ⟨_,_,t1.int,t2.int,wq.at sg .b⟩
 ·cases e
def Dp:d5 X (compareOp .LtE) (sS W oM):=by
 intro aa s σ H x y v u Q I rx ry h;obtain⟨H0,G,p,q,r,sg,t1,t2,e,wq⟩:=h
 unfold oM at e;split at e
 ·cases e;exact Gk aa s σ H x y v u Q I rx ry ⟨_,_,t1.int,t2.int,wq.at sg .b⟩
 ·cases e
def Fx:d5 X (compareOp .Gt) (sS W oj):=by
 intro aa s σ H x y v u Q I rx ry h;obtain⟨H0,G,p,q,r,sg,t1,t2,e,wq⟩:=h
 unfold oj at e;split at e
 ·cases e;exact He aa s σ H x y v u Q I rx ry ⟨_,_,t1.int,t2.int,wq.at sg .b⟩
 ·cases e;obtain⟨t,rfl⟩:=(t1.str▸rx:RelV (.str _) v)
  obtain⟨t',rfl⟩:=(t2.str▸ry:RelV (.str _) u)
  exact PySem.P.gt_str (mW I (wq.at sg .b) rfl)
 ·cases e
def vv{H0 G H:Hp}{p:PV}{x:V}(sg:aq G H)(t:Top W H0 G H p x):decide (x=.aI)=BM p:=by
 cases p with
 |aI=>cases t.aI;rfl
 |bl b=>cases t.bl;rfl
 |int b=>cases t.int;rfl
 |str b=>cases t.str;rfl
 |tup b=>obtain⟨a,vs,rfl,_⟩:=t.tup sg;rfl
 |lst b=>obtain⟨a,vs,rfl,_⟩:=t.lst sg;rfl
 |dB b c=>obtain⟨a,vs,rfl,_⟩:=t.dB sg;rfl
 |exc c=>
  rcases t with t|t
  ·simp! [Rep] at t;obtain⟨a,C,rfl,_⟩:=t
   rfl
  ·exact t.elim
def A5:d5 X (compareOp .IsNot) (sS W j9):=by
 intro aa s σ H x y v u Q I rx ry h;obtain⟨H0,G,p,q,r,sg,t1,t2,e,wq⟩:=h
 unfold j9 at e;split at e
 ·cases e;refine A7 aa s σ H x y v u Q I rx ry ⟨t2.aI,?_⟩;rw [vv sg t1];exact wq.at sg .b
 ·cases e;exact oo aa s σ H x y v u Q I rx ry ⟨_,_,t1.bl,t2.bl,wq.at sg .b⟩
 ·cases e
variable{H0 G H:Hp}
def A0{aa:List (Addr×Obj)}{σ:St}{s:Shared}(I:Inv X aa σ H s)(hK:W.K=X.K)(sg:aq G H){A:Around}{a:PV}{x:V}{x':Value}{ys:List PV}{us:List V}{ae:List Value}(hu:A.units+32<cLine)(ha:nO a=true)(hy:ys.all nO=true)(ta:Top W H0 G H a x)(rx:RelV x x')(l:ah W G ys us)(r:Vals us ae):
 ∃e:Value->Bool,(∀y∈ae,SeqAt.EqAt A s y x' (e y))/\∀(j:Nat) (y:Value) (p:PV),ae[j]?=some y->ys[j]?=some p->e y=eqv p a:=by
 classical
 have key:∀(j:Nat) (y:Value),ae[j]?=some y->∃p u,ys[j]?=some p/\us[j]?=some u/\Rep W G p u/\RelV u y/\nO p=true:=λj y e=>by
  have hj:=(zzH.mp e).1
  have hl:=r.length
  obtain⟨u,Gm,DT⟩:=r.get (i:=j) (x:=us[j]'(by omega)) (zzg (by omega))
  rw [e] at Gm;cases Gm;obtain⟨p,hp,kp⟩:=l.get (zzg (show j<us.length by omega))
  exact⟨p,_,hp,zzg (by omega),kp,DT,zzT.mp hy p (zzD hp)⟩
 refine⟨λy=>if h:∃(j:Nat) (p:PV),ae[j]?=some y/\ys[j]?=some p then eqv h.choose_spec.choose a else false,λy HB=>?_,λj y p e1 e2=>?_⟩
 ·obtain⟨j,hj,e⟩:=List.getElem_of_mem HB
  have ej:ae[j]?=some y:=by rw [zzg hj,e]
  obtain⟨p,u,h1,h2,h3,h4,h5⟩:=key j y ej
  have hex:∃(j:Nat) (p:PV),ae[j]?=some y/\ys[j]?=some p:=⟨j,p,ej,h1⟩
  dsimp only;rw [dif_pos hex];have sp:=hex.choose_spec.choose_spec
  obtain⟨p2,u2,g1,g2,g3,g4,g5⟩:=key _ y sp.1
  have e3:hex.choose_spec.choose=p2:=zzq (sp.2.symm.trans g1)
  rw [e3];exact wK (H0:=H0) I hK sg 9 (by omega) g5 ha (.inl g3) ta g4 rx
 ·have hex:∃(j:Nat) (p:PV),ae[j]?=some y/\ys[j]?=some p:=⟨j,p,e1,e2⟩
  dsimp only;rw [dif_pos hex];obtain⟨p1,u1,f1,f2,f3,f4,f5⟩:=key j y e1
  rw [e2] at f1;cases f1;have sp:=hex.choose_spec.choose_spec
  obtain⟨p2,u2,g1,g2,g3,g4,g5⟩:=key _ y sp.1
  have e3:hex.choose_spec.choose=p2:=zzq (sp.2.symm.trans g1)
  have e4:u1=u2:=f4.inj g4
  subst e4;rw [e3,sW I hK sg DP g5 f5 (.inl g3:Top W H0 G H p2 u1) (.inl f3)]
def Du{ae:List Value}{ys:List PV}{e:Value->Bool}{f:PV->Bool}:ae.length=ys.length->(∀(j:Nat) (y:Value) (p:PV),ae[j]?=some y->ys[j]?=some p->e y=f p)->ae.any e=ys.any f:=by
 intro hl h;have:ae.map e=ys.map f:=gF (by simpa using hl) λj x y hx hy=>by
  rw [zzQ] at hx hy;obtain⟨a,ha,rfl⟩:=zzJ.mp hx
  obtain⟨b,hb,rfl⟩:=zzJ.mp hy
  exact h j a b ha hb
 calc ae.any e=(ae.map e).any id:=by rw [List.any_map];rfl
  _=(ys.map f).any id:=by rw [this]
  _=ys.any f:=by rw [List.any_map];rfl
def Ct(hK:W.K=X.K)(hu:X.A.units+64<cLine):d5 X (compareOp .In) (sS W oy):=by
 intro aa s σ H x y v u Q I rx ry h;obtain⟨H0,G,p,q,r,sg,t1,t2,e,wq⟩:=h
 have Gm:X.A.in1.units+32<cLine:=by show X.A.units+1+32<_;omega
 unfold oy at e;split at e
 ·cases e;exact uO aa s σ H x y v u Q I rx ry ⟨_,_,t1.str,t2.str,wq.at sg .b⟩
 ·cases e
def Ao(hK:W.K=X.K)(hu:X.A.units+64<cLine):d5 X (compareOp .NotIn) (sS W lE):=by
 intro aa s σ H x y v u Q I rx ry h;obtain⟨H0,G,p,q,r,sg,t1,t2,e,wq⟩:=h
 have Gm:X.A.in1.units+32<cLine:=by show X.A.units+1+32<_;omega
 unfold lE at e;split at e
 ·split at e
  ·rename_i hc;rw [zza] at hc;cases e;obtain⟨b,us,rfl,q2,l2⟩:=t2.lst sg
   cases ry;obtain⟨ae,rv,z,_⟩:=I.list (iZ hK q2)
   obtain⟨e,he,hv⟩:=A0 I hK sg Gm hc.1 hc.2 t1 rx l2 rv
   refine SeqAt.notIn_listAt e z.isList (λy hy=>he y (by simpa using hy)) ?_
   have:=Du (by rw [<-rv.length,l2.length]) hv
   rw [List.any_toArray,this];exact yB I sg wq
  ·cases e
 ·cases e
theorem fc(hK:W.K=X.K)(hu:X.A.units+64<cLine):∀o:yC,d5 X (compareOp (nY o)) (sS W (cN o))
 |.eq=>C6 hK hu|.ne=>E5 hK hu|.lt=>En hK hu|.le=>Dp|.gt=>Fx|.Av=>A5|.A1=>Ct hK hu|.II=>Ao hK hu
def sY{ps:List PV}{vs:List V}{i:Int}{p:PV}(l:ah W G ps vs)(h:rF ps i=some p):∃v,rF vs i=some v/\Rep W G p v:=by
 unfold rF at h⊢;rw [l.length];cases e:FV ps.length i with
 |none=>rw [e] at h;cases h
 |some j=>
  rw [e] at h;exact l.nt h
def EM(hu:X.A.units+1<cLine):F3 X (λx y H Q=>∃a ai k b v,x=.ref a/\Rd H a (.dT ai)/\y=.ref b/\H b=some (.tup (k.map kV))/\gA ai k=some v/\Q v H):=by
 intro value slice aa s σ H x y v u Q I rx ry h hs;obtain⟨a,ai,k,b,z,rfl,hd,rfl,hb,hv,q⟩:=h
 cases rx;cases ry;obtain⟨_,_,xs,rel,dd⟩:=oV I.aU hd
 obtain⟨w',hw,fT⟩:=kh.some_of (v:=z) (o:=(atKey xs k).map (·.2)) (by rw [<-hv];exact rel.val k)
 obtain⟨p,hp,hp2⟩:=zzJ.mp hw
 exact PyProof.Rows.subscriptTail_builtinR (x:=w') dd.typeIs PySem.F.slot_dict_getitem.lookup (wpAny_getItem_heap (Q:=λr s'=>r=w'/\EP X aa σ Q r s') (tupleKind_room_in1 hu) (ny I.aU hb) dd hp ⟨hp2,by rw [hp2];exact⟨z,H,I.tok _,fT,q⟩⟩) hs
def K1(hK:W.K=X.K)(hu:X.A.units+64<cLine):F3 X (sS W aJ):=by
 intro value slice aa s σ H x y v u Q I rx ry h hs;obtain⟨H0,G,p,q,r,sg,t1,t2,e,wq⟩:=h
 unfold aJ at e;split at e
 ·obtain⟨a,vs,rfl,h1,l1⟩:=t1.lst sg
  obtain⟨w,hw,kw⟩:=sY l1 (Res.of_ok e)
  exact zm value slice aa s σ H _ y v u Q I rx ry ⟨a,vs,_,w,rfl,t2.int,iZ hK h1,hw,wq.at sg kw⟩ hs
 ·obtain⟨a,vs,rfl,h1,l1⟩:=t1.tup sg
  rw [hK] at h1;obtain⟨w,hw,kw⟩:=sY l1 (Res.of_ok e)
  exact FP value slice aa s σ H _ y v u Q I rx ry ⟨a,vs,_,w,rfl,t2.int,h1,hw,wq.at sg kw⟩ hs
 ·split at e
  ·rename_i hl;obtain⟨c,hc,e⟩:=Res.aK e
   cases e;exact Ey value slice aa s σ H x y v u Q I rx ry ⟨_,_,c,t1.str,t2.int,fD hl,Res.of_ok hc,wq.at sg .s⟩ hs
  ·cases e
 ·obtain⟨k,hk,e2⟩:=Res.aK e
  have hk:=sx (Res.of_ok hk)
  subst hk;obtain⟨b,rfl,hb⟩:=t2.tupI (ns:=k) sg rfl
  obtain⟨a,us,rfl,n,hd,l⟩:=t1.dB sg
  obtain⟨w,hw,kw⟩:=tZ l (Res.of_ok e2)
  exact EM (by omega) value slice aa s σ H _ _ v u Q I rx ry ⟨a,_,ki k,b,w,rfl,hd,rfl,(by rw [GQ];exact sg _ _ hb),(by rw [xw];exact hw),wq.at sg kw⟩ hs
 ·cases e
def wO(W:Wd)(f:List PV->Res PV):List V->Hp->VK->Prop:=λvs H Q=>∃H0 G ps r,aq G H/\Paired (λv p=>Top W H0 G H p v) vs ps/\f ps=.ok r/\cJ W G H r Q
def da{H0 G H:Hp}{vs:List V}{p:PV}(h:Paired (λv p=>Top W H0 G H p v) vs [p]):∃v,vs=[v]/\Top W H0 G H p v:=by
 cases h with
 |cons h t=>cases t;exact⟨_,rfl,h⟩
def BG{H0 G H:Hp}{vs:List V}{p q:PV}(h:Paired (λv p=>Top W H0 G H p v) vs [p,q]):∃v u,vs=[v,u]/\Top W H0 G H p v/\Top W H0 G H q u:=by
 cases h with
 |cons h t=>
  cases t with
  |cons h2 t2=>cases t2;exact⟨_,_,rfl,h,h2⟩
def ua(hK:W.K=X.K):bF X (.builtin "len") (wO W qZ):=by
 intro aa s σ H xs us Q I r h;obtain⟨H0,G,ps,rr,sg,tp,e,wq⟩:=h
 unfold qZ at e;split at e
 ·cases e;obtain⟨v,rfl,t⟩:=da tp
  obtain⟨a,vs,rfl,h1,l1⟩:=t.lst sg
  exact f9 aa s σ H _ us Q I r ⟨a,vs,rfl,.inl (iZ hK h1),by rw [l1.length];exact wq.at sg .i⟩
 ·cases e;obtain⟨v,rfl,t⟩:=da tp
  obtain⟨a,vs,rfl,h1,l1⟩:=t.tup sg
  rw [hK] at h1;exact f9 aa s σ H _ us Q I r ⟨a,vs,rfl,.inr h1,by rw [l1.length];exact wq.at sg .i⟩
 ·split at e
  ·rename_i hl;cases e;obtain⟨v,rfl,t⟩:=da tp
   exact mI aa s σ H _ us Q I r ⟨_,by rw [t.str],fD hl,wq.at sg .i⟩
  ·cases e
 ·cases e;obtain⟨v,rfl,t⟩:=da tp
  obtain⟨a,us',rfl,n,hd,l⟩:=t.dB sg
  obtain⟨u,rfl,ru⟩:=vals1 r
  cases ru;exact E6 I hd λt s' I'=>⟨.int _,H,I',⟨t,rfl⟩,by rw [p7 n];exact wq.at sg .i⟩
 ·cases e
def uf:bF X (.type "int") (wO W xf):=by
 intro aa s σ H xs us Q I r h;obtain⟨H0,G,ps,rr,sg,tp,e,wq⟩:=h
 unfold xf at e;split at e
 ·split at e
  ·rename_i hl;obtain⟨n,hn,e⟩:=Res.aK e
   cases e;obtain⟨v,rfl,t⟩:=da tp
   exact nP aa s σ H _ us Q I r ⟨_,n,by rw [t.str],Res.of_ok hn,hl,wq.at sg .i⟩
  ·cases e
 ·cases e;obtain⟨v,rfl,t⟩:=da tp
  exact u3 aa s σ H _ us Q I r (.inr ⟨_,by rw [t.bl],wq.at sg .i⟩)
 ·cases e
def uv:bF X (.type "str") (wO W vS):=by
 intro aa s σ H xs us Q I r h;obtain⟨H0,G,ps,rr,sg,tp,e,wq⟩:=h
 unfold vS at e;split at e
 ·split at e
  ·rename_i hl;cases e;obtain⟨v,rfl,t⟩:=da tp
   exact nc aa s σ H _ us Q I r ⟨_,by rw [t.int],hl,wq.at sg .s⟩
  ·cases e
 ·cases e
def vy{G:Hp}(z:Str):ah W G (chars z) (z.cps.toList.map λc=>V.str ⟨#[c]⟩):=by
 unfold chars
 induction z.cps.toList with
 |nil=>exact .nil
 |cons c r ih=>exact .cons .s ih
def q9(hc:X.calm=true)(hK:W.K=X.K):bF X (.type "list") (wO W pQ):=by
 intro aa s σ H xs us Q I r h;obtain⟨H0,G,ps,rr,sg,tp,e,wq⟩:=h
 unfold pQ at e;split at e
 ·cases e;obtain⟨v,rfl,t⟩:=da tp
  obtain⟨a,vs,rfl,h1,l1⟩:=t.lst sg
  exact gy aa s σ H _ us Q I r ⟨a,vs,rfl,.inl (iZ hK h1),λp hp=>wq.lst sg l1 hp⟩
 ·cases e;obtain⟨v,rfl,t⟩:=da tp
  obtain⟨a,vs,rfl,h1,l1⟩:=t.tup sg
  rw [hK] at h1;exact gy aa s σ H _ us Q I r ⟨a,vs,rfl,.inr h1,λp hp=>wq.lst sg l1 hp⟩
 ·split at e
  ·rename_i hl;cases e;obtain⟨v,rfl,t⟩:=da tp
   exact gY hc aa s σ H _ us Q I r ⟨_,by rw [t.str],fD hl,λp hp=>wq.lst sg (vy _) hp⟩
  ·cases e
 ·cases e
def pI(hK:W.K=X.K):bF X (.type "tuple") (wO W je):=by
 intro aa s σ H xs us Q I r h;obtain⟨H0,G,ps,rr,sg,tp,e,wq⟩:=h
 unfold je at e;split at e
 ·cases e;obtain⟨v,rfl,t⟩:=da tp
  obtain⟨a,vs,rfl,h1,l1⟩:=t.lst sg
  exact kR aa s σ H _ us Q I r ⟨a,vs,rfl,.inl ⟨iZ hK h1,λp hp=>wq.tup sg l1 hp⟩⟩
 ·cases e
def uY(hc:X.calm=true)(hK:W.K=X.K):bF X (.builtin "all") (wO W yj):=by
 intro aa s σ H xs us Q I r h;obtain⟨H0,G,ps,rr,sg,tp,e,wq⟩:=h
 unfold yj at e;split at e
 ·obtain⟨bs,hb,e⟩:=Res.aK e
  cases e;obtain⟨v,rfl,t⟩:=da tp
  obtain⟨a,vs,rfl,h1,l1⟩:=t.lst sg
  cases hU l1 (Res.of_ok hb);exact wy hc aa s σ H _ us Q I r ⟨a,bs,rfl,iZ hK h1,wq.at sg .b⟩
 ·cases e
def zy{ns:List Int}(h:(ns.all λn=>decide (-(2^32)<n)&&decide (n<2^32))=true)(hl:ns.length<bG):PyProof.Rows.SumFits ns:=by
 have hb:∀n∈ns, -(2^32)<n/\n<2^32:=λn hn=>by
  have:=zzT.mp h n hn
  simpa using this
 have hs:∀l:List Int,(∀n∈l, -(2^32)<n/\n<2^32)-> -(2^32*(l.length:Int))<=l.sum/\l.sum<=2^32*(l.length:Int):=λl=>by
  induction l with
  |nil=>intro _;simp
  |cons a l ih=>
   intro k;have h1:=k a (by simp)
   have h2:=ih λn hn=>k n (by simp [hn])
   rw [List.sum_cons,zzL];omega
 intro j hj;have e:ns.getD j 0=ns[j]:=by rw [zzK,zzg hj];rfl
 have h1:=hb ns[j] (List.getElem_mem hj)
 have h2:=hs (ns.take (j+1)) λn hn=>hb n (List.mem_of_mem_take hn)
 have h3:(ns.take (j+1)).length<=ns.length:=by rw [List.length_take];omega
 have h4:ns.length<1000000:=hl
 rw [e];unfold InLong
 constructor<;>omega
def uz(hc:X.calm=true)(hK:W.K=X.K):bF X (.builtin "sum") (wO W v3):=by
 intro aa s σ H xs us Q I r h;obtain⟨H0,G,ps,rr,sg,tp,e,wq⟩:=h
 unfold v3 at e;split at e
 ·obtain⟨ns,hb,e⟩:=Res.aK e
  split at e
  ·rename_i hcond;rw [zza] at hcond;cases e;obtain⟨v,rfl,t⟩:=da tp
   obtain⟨a,vs,rfl,h1,l1⟩:=t.lst sg
   cases kf l1 (Res.of_ok hb);exact uJ hc aa s σ H _ us Q I r ⟨a,ns,rfl,iZ hK h1,zy hcond.1 (zzY hcond.2),wq.at sg .i⟩
  ·cases e
 ·cases e
def Ke(W:Wd)(f:List PV->Res PV):V->List V->Hp->VK->Prop:=λx vs H Q=>wO W f (x::vs) H Q
def rj:Hq X "str.count" (Ke W fY):=by
 intro aa s σ H x xs v us Q I rx r h;obtain⟨H0,G,ps,rr,sg,tp,e,wq⟩:=h
 unfold fY at e;split at e
 ·cases e;obtain⟨v1,u1,e1,t,t2⟩:=BG tp
  cases e1;exact t9 aa s σ H _ _ v us Q I rx r ⟨_,_,t.str,by rw [t2.str],wq.at sg .i⟩
 ·cases e
theorem sI:∀{ys:List Str} {ae:List Value},Vals (ys.map V.str) ae->PyProof.Rows.StrsAre ae ys
 |[],_,.nil=>.nil
 |y::ys,_,.cons r t=>by
  obtain⟨tk,rfl⟩:=r
  exact .cons y tk (sI t)
def xY(hK:W.K=X.K):Hq X "str.join" (Ke W oW):=by
 intro aa s σ H x xs v us Q I rx r h;obtain⟨H0,G,ps,rr,sg,tp,e,wq⟩:=h
 unfold oW at e;split at e
 ·obtain⟨ys,hy,e⟩:=Res.aK e
  split at e
  ·rename_i hc;cases e;obtain⟨v1,u1,e1,t,t2⟩:=BG tp
   cases e1;cases t.str;obtain⟨tk,rfl⟩:=rx
   obtain⟨a,vs,rfl,h1,l1⟩:=t2.lst sg
   obtain⟨u,rfl,ru⟩:=Vals.one r
   cases ru;cases jc l1 (Res.of_ok hy);obtain⟨ae,rv,z,_⟩:=I.list (iZ hK h1)
   refine PyProof.Rows.join_listW z.isList (by simpa using sI rv) hc.1 (zzU hc.2 (by decide)) λt' k=>⟨.str _,H,I.tok _,⟨_,rfl⟩,wq.at sg .s⟩
  ·cases e
 ·cases e
noncomputable def q0:Ty->String
 |.int=>"int"|.bool=>"bool"|.str=>"str"|.tuple=>"tuple"
def GY{K:zz8}(t:Ty):Cw.yU K "NoneType" (q0 t) false/\(∀b,Cw.yU K "bool" (q0 t) (gE t (.bl b)))/\(∀i,Cw.yU K "int" (q0 t) (gE t (.int i)))/\(∀z,Cw.yU K "str" (q0 t) (gE t (.str z)))/\(∀z,Cw.yU K "tuple" (q0 t) (gE t (.tup z)))/\(∀z,Cw.yU K "list" (q0 t) (gE t (.lst z))):=by
 cases t
 all_goals refine⟨?_,λb=>?_,λb=>?_,λb=>?_,λb=>?_,λb=>?_⟩
 all_goals first
  |exact Cw.wz _
  |exact Cw.yg (b:=false) (by decide+kernel) (by decide+kernel) (by decide+kernel)
  |exact Cw.yg (b:=true) (by decide+kernel) (by decide+kernel) (by decide+kernel)
def xE(hK:W.K=X.K)(t:Ty):bF X (.builtin "isinstance") (λxs H Q=>∃v H0 G p r,xs=[v,.ty (q0 t)]/\aq G H/\Top W H0 G H p v/\kc t p=.ok r/\cJ W G H r Q):=by
 intro aa s σ H xs us Q I rr h;obtain⟨v,H0,G,p,r,rfl,sg,tp,e,wq⟩:=h
 obtain⟨u,u2,rfl,ru,ru2⟩:=Vals.two rr
 cases ru2;obtain⟨k1,k2,k3,k4,k5,k6⟩:=GY (K:=X.K) t
 cases p with
 |exc c=>cases e
 |dB a b=>cases e
 |aI=>cases e;cases tp.aI;cases ru;cases t<;>exact PySem.W.kia_one PySem.W.kitx_none I.rY True.intro k1 (λz=>nomatch z) λtk=>⟨.bl _,H,I.tok tk,rfl,wq.at sg .b⟩
 |bl b=>cases e;cases tp.bl;cases ru;exact PySem.W.kia_one PySem.W.kitx_bool I.rY True.intro (k2 b) (λz=>nomatch z) λtk=>⟨.bl _,H,I.tok tk,rfl,wq.at sg .b⟩
 |int b=>cases e;cases tp.int;obtain⟨t1,rfl⟩:=ru;exact PySem.W.kia_one PySem.W.kitx_int I.rY True.intro (k3 b) (λz=>nomatch z) λtk=>⟨.bl _,H,I.tok tk,rfl,wq.at sg .b⟩
 |str b=>cases e;cases tp.str;obtain⟨t1,rfl⟩:=ru;exact PySem.W.kia_one PySem.W.kitx_str I.rY True.intro (k4 b) (λz=>nomatch z) λtk=>⟨.bl _,H,I.tok tk,rfl,wq.at sg .b⟩
 |tup b=>
  cases e;obtain⟨a,vs,rfl,h1,l1⟩:=tp.tup sg
  rw [hK] at h1;cases ru;obtain⟨ae,_,⟨o,e1,e2,_⟩,_⟩:=I.tuple h1
  exact PySem.W.kia_one PySem.W.kitx_tuple I.rY ⟨o,e1,e2⟩ (k5 b) (λz=>nomatch z) λtk=>⟨.bl _,H,I.tok tk,rfl,wq.at sg .b⟩
 |lst b=>
  cases e;obtain⟨a,vs,rfl,h1,l1⟩:=tp.lst sg
  cases ru;obtain⟨ae,n,_,_,_,e1⟩:=Ep hK I h1
  exact PySem.W.kia_one PySem.W.kitx_list I.rY ⟨_,e1,rfl⟩ (k6 b) (λz=>nomatch z) λtk=>⟨.bl _,H,I.tok tk,rfl,wq.at sg .b⟩
theorem AD{k:List Int}{v:V}(h:Rep W G (fg k) v):∃b,v=.ref b/\G b=some (.tup (k.map V.int)):=Top.tupI (H0:=G) (aq.refl G) rfl (.inl h)
theorem sH{K:zz8}(sg:aq G H):∀{xs:List PV} {nss:List (List Int)} {vs:List V},i5 xs=some nss->ah W G xs vs->nss.all (λk=>!k.isEmpty)=true->jW K H vs nss
 |[],_,_,e,l,_=>by cases e;simp! [ah] at l;subst l;exact .nil
 |x::xs,nss,vs,e,l,ne=>by
  unfold i5 at e;obtain⟨k,hk,e⟩:=zzZ.mp e
  obtain⟨r,hr,rfl⟩:=zzJ.mp e
  obtain⟨v,vr,rfl,h1,h2⟩:=l.bK
  rw [List.all_cons,zza] at ne;rw [sx hk] at h1;obtain⟨b,rfl,hb⟩:=AD h1
  exact .cons ⟨b,rfl,.inl (.inl (sg _ _ hb)),λz=>by rw [z] at ne;exact absurd ne.1 (by decide)⟩ (sH sg hr h2 ne.2)
def rH{ps:List PV}{vs:List V}{nss:List (List Int)}(l:ah W G ps vs):ah W G (gZ .aI ps nss) (gZ V.aI vs nss):=by
 unfold gZ;rw [l.length];split
 ·exact l
 ·have go:∀ix:List Nat,ah W G (ix.map λi=>ps.getD i .aI) (ix.map λi=>vs.getD i V.aI):=by
   intro ix
   induction ix with
   |nil=>exact .nil
   |cons i ix ih=>
    refine .cons ?_ ih;dsimp only
    by_cases hi:i<ps.length
    ·obtain⟨v,hv,rv⟩:=l.nt (zzg hi)
     have e1:ps.getD i .aI=ps[i]:=by simp [hi]
     have e2:vs.getD i V.aI=v:=by simp [hv]
     rw [e1,e2];exact rv
    ·have e1:ps.getD i .aI=.aI:=by simp [Nat.le_of_not_lt hi]
     have e2:vs.getD i V.aI=.aI:=by simp [Nat.le_of_not_lt (l.length▸hi)]
     rw [e1,e2];exact .n
  exact go _
theorem lN:∀{vs:List V} {nss:List (List Int)} {G:Hp},aq G H->Paired (λv ns=>∃b,v=V.ref b/\H b=some (.tup (ns.map V.int))) vs nss->∃G',av W G H G' H/\ah W G' (nss.map fg) vs
 |_,_,G,sg,.nil=>⟨G,.refl sg,.nil⟩
 |_,_,G,sg,.cons (b:=ns) h t=>by
  obtain⟨b,rfl,hb⟩:=h
  have g1:=av.adopt (W:=W) sg hb
  obtain⟨G2,g2,l⟩:=lN g1.sub t
  refine⟨G2,g1.trans g2,.cons (Rep.same g2.g _ ?_) l⟩;refine .t (.inl aw) ?_;have go:∀ns:List Int,ah W (upd G b (.tup (ns.map V.int))) (ns.map .int) (ns.map V.int)/\True:=λ_=>⟨by
   rename_i ns';have all:∀(G':Hp) (l:List Int),ah W G' (l.map .int) (l.map V.int):=λG' l=>by
    induction l with
    |nil=>exact .nil
    |cons x l ih=>exact .cons .i ih
   exact all _ _,trivial⟩
  exact(go ns).1
def mL(hK:W.K=X.K)(hc:X.calm=true):bF X (.builtin "sorted") (wO W gv):=by
 intro aa s σ H xs us Q I r h;obtain⟨H0,G,ps,rr,sg,tp,e,wq⟩:=h
 unfold gv at e;split at e
 ·obtain⟨nss,hn,e⟩:=Res.aK e
  split at e
  ·rename_i hb;rw [zza,zzN] at hb;cases e;obtain⟨v,rfl,t⟩:=da tp
   obtain⟨a,vs,rfl,h1,l1⟩:=t.lst sg
   exact nL aa s σ H _ us Q I r ⟨a,vs,nss,rfl,iZ hK h1,sH sg (Res.of_ok hn) l1 hb.2,by rw [l1.length];exact hb.1,λp hp=>wq _ _ _ (.new sg hp) (.l (.inl (.inl aw)) (ah.same (aS (sg.free hp)) _ (rH l1)))⟩
  ·cases e
 ·cases e
end
end Ci
namespace L2
open PySem PySem.Spec PyProof.Rows
section
variable{X:Cx}{scope:Scope}{xs ys:List Str}{is:List Nat}
theorem nv{i₀:Nat}{x₀:Str}{pos' hJ:Pos}{elt tg iter Ef:Expr}{pos:Pos}{wi:TI}{g:TG}{te:TE}{tt:TT}(hN₀:X.N.Nodup)(hi₀:X.N[i₀]?=some x₀)(hx₀:Loc X.env.scope x₀)(hc:X.calm=true)(S:dg X scope xs ys is)(hi:PI X tg iter wi)
 (hg:∀fp s1 H1 C,PG (bb X (xs++ys) scope (bC X.env ys) fp s1 H1 C) tg g) (ht:∀fp s1 H1 C,PT (bb X (xs++ys) scope (bC X.env ys) fp s1 H1 C) Ef tt) (he:∀fp s1 H1 C,PE (bb X (xs++ys) scope (bC X.env ys) fp s1 H1 C) elt te)
 (Bs:swapsWith (.ListComp elt [⟨tg,iter,[Ef],0⟩] scope pos) (some (.Name x₀ pos')) hJ.line X.env=pure true:=by rfl)
 (hs:∀x,foldedSetIterable iter X.env x=pure x:=by intro _;rfl) (hf₀:X.fn x₀=true\/X.env.scope.names.lookup x₀=some .local:=by first|exact .inl rfl|exact .inr rfl|assumption):
 PS X (.Assign [.Name x₀ pos'] (.ListComp elt [⟨tg,iter,[Ef],0⟩] scope pos) hJ) (yW (iQ wi xs.length g tt te is) (eK i₀)):=by
 intro aa s σ H D₀ I h;rw [exec_Assign_Name_used _ _ _ _ Bs];refine zzA (wpAny_standAt (zzA ?_));show wpAny _ X.A (do let _<-comprehension (.ListComp elt [⟨tg,iter,[Ef],0⟩] scope pos) scope X.env _ (newList []) false (eval iter X.env) (some (assign (.Name x₀ pos') X.env))) _ _ s;refine zzA (wpAny_mono (eW (QQ:=λ_ s'=>∃σ2 H2,Inv X aa σ2 H2 s'/\D₀.nx σ2 H2) (Q:=λv H4=>eK i₀ v σ H4 D₀.nx) hc S hi hg (λfp s1 H1 C=>rJ (ht fp s1 H1 C)) he hs I h λD C s4 H4 m I5 hn ⟨g0,g1,_,g3,g4,g5⟩ q=>?_) (λ_ s' hq=>zzG (zzG hq)) λ_ _ e=>e)
 refine wpAny_assign_Name (gR I5 hN₀ hi₀ hx₀ (show RelV (.ref D) (.ref D) from rfl) (λs6 I6 ⟨a6,sb6,ha6⟩=>?_) hf₀);have xm:C≠a6:=by
  rcases ha6 with z|z
  ·rw [z];exact g1
  ·exact λz2=>g4 _ _ z z2.symm
 exact⟨m,hn.sameBut sb6 xm,λh' uM=>⟨_,_,I6.turned (t':=s6.toks) (it:=C) (λb o hb e=>uM.extBut b o hb e) g0 g1 g3 g4 g5,q⟩⟩
end
open PySem.AutoSeq1 (wpAny_loadPart')
section
variable{prog:Program}{w:World}{A:Around}{E:Value->Shared->Prop}{s:Shared}{jt tu:Addr}{i:Nat}{ae:Array Value}{Q:Value->Shared->Prop}
def iC{x:Value}(ih:s.heap.IsTupleIter jt tu i)(th:s.heap.IsTuple tu ae)(hx:ae[i]?=some x)
 (k:∀g,g.IsTupleIter jt tu (i+1)->Heap.SameBut jt s.heap g->Q x {s with heap:=g}):wpAny (model prog w) A (Builtin.SmallTypes.nextOf (.ref jt)) Q E s:=by
 obtain⟨ob,e1,e2,e3⟩:=id ih
 obtain⟨ot,f1,_,nn,f2⟩:=th
 unfold Builtin.SmallTypes.nextOf;refine zzA (wpAny_callSpecial?_slot (name:=Str.ofString "__next__") ih.typeIs F.slot_tuple_iterator_next (wpAny_call_entry F.slot_tuple_iterator_next ih.typeIs F.entry_tuple_iterator_next ?_ (F.args_tuple_iterator_next_1 _)));show wpAny _ _ (field (.ref jt) 0>>=_) _ _ s;refine zzA (wpAny_field e1 e3 (x:=.ref tu) rfl ?_);show wpAny _ _ (if(Value.ref tu==Value.none)=true then _ else _) _ _ s;rw [if_neg (show¬((Value.ref tu==Value.none)=true) from zzf)];show wpAny _ _ (field (.ref jt) 1>>=_) _ _ s;refine zzA (wpAny_field e1 e3 (x:=.int i 0) rfl ?_);show wpAny _ _ (seqItems? (.ref tu)>>=_) _ _ s;refine zzA (wpAny_seqItems f1 f2 ?_);simp! [zz4,hx];refine zzA (wpAny_setField e1 e3 (by simp) (zzG ⟨x,rfl,zzG (k _ ?_ (zzu ..))⟩));exact⟨_,Heap.get?_update_self _ e1 (Obj.isFreed_of_fields (Obj.data_mapFields e3 _)),(Obj.cls_mapFields ..).trans e2,by rw [Obj.data_mapFields e3];simp [rawInt]⟩
def j7(hh:A.handled=none)(ih:s.heap.IsTupleIter jt tu i)(th:s.heap.IsTuple tu ae)(hx:ae[i]?=none)
 (k:∀g e,Heap.ExtBut jt s.heap g->(∃o,g.get? e=some o/\o.cls=.type "StopIteration")->E (.ref e) {s with heap:=g}):wpAny (model prog w) A (Builtin.SmallTypes.nextOf (.ref jt)) Q E s:=by
 obtain⟨ob,e1,e2,e3⟩:=id ih
 obtain⟨ot,f1,_,nn,f2⟩:=th
 unfold Builtin.SmallTypes.nextOf;refine zzA (wpAny_callSpecial?_slot (name:=Str.ofString "__next__") ih.typeIs F.slot_tuple_iterator_next (wpAny_call_entry F.slot_tuple_iterator_next ih.typeIs F.entry_tuple_iterator_next ?_ (F.args_tuple_iterator_next_1 _)));show wpAny _ _ (field (.ref jt) 0>>=_) _ _ s;refine zzA (wpAny_field e1 e3 (x:=.ref tu) rfl ?_);show wpAny _ _ (if(Value.ref tu==Value.none)=true then _ else _) _ _ s;rw [if_neg (show¬((Value.ref tu==Value.none)=true) from zzf)];show wpAny _ _ (field (.ref jt) 1>>=_) _ _ s;refine zzA (wpAny_field e1 e3 (x:=.int i 0) rfl ?_);show wpAny _ _ (seqItems? (.ref tu)>>=_) _ _ s;refine zzA (wpAny_seqItems f1 f2 ?_);simp! [zz4,hx];refine zzA (wpAny_rule (zzA (wpAny_setField e1 e3 (by simp) ?_)));show wpAny _ _ (newExc (.type "StopIteration") []>>=_) _ _ _;refine zzA ?_;simp! [newExc,newTuple];refine zzA (wpAny_newObj_type ?_ (by size_fits));refine zzA (m:=firstArgMember _ _) (wpAny_of_eq (a:=Value.none) (by first|rfl|(simp! [firstArgMember];rfl)) ?_);refine wpAny_newObj_type ?_ (by size_fits);simp! [raiseNew];refine zzA (wpAny_handled ?_)
 first|rw [show A.in1.handled=none from hh]|rw [hh]
 refine zzA (zzG (wpAny_throw ?_));exact k _ _ (((zzu ..).extBut.push _).push _) ⟨_,zzX _ rfl,rfl⟩
end
theorem gK{prog:Program}{w:World}{A:Around}(hh:A.handled=none)(jt tu:Addr)(c9:tu≠jt)(ae:Array Value):
 Draws prog w A jt [jt,tu] ae.size (λi v=>ae[i]?=some v) (λi h=>h.IsTupleIter jt tu i/\h.IsTuple tu ae) where
 live:=λ_ _ st=>let⟨o,ho,_⟩:=st.1;⟨o,ho⟩
 frame:=λ_ _ _ st hk=>⟨st.1.at λo e=>hk jt (by simp) o e,by obtain⟨o,e,r⟩:=st.2;exact⟨o,hk tu (by simp) o e,r⟩⟩
 item:=λi s Q E hi st hQ=>iC st.1 st.2 (x:=ae[i]) (by simp [hi]) λg ig sb=>hQ _ g s.toks (by simp [hi]) ⟨ig,by obtain⟨o,e,r⟩:=st.2;exact⟨o,sb.extBut _ _ c9 e,r⟩⟩ sb
 done:=λs Q E st hE=>j7 hh st.1 st.2 (by simp) hE
theorem uN(l:Addr)(items:Array Value)(n:Nat)(dB:Option Addr)(sl:Array (Option Value)):
 Meets (Builtin.«enumerate.__new__» ⟨[.type "enumerate",.ref l],[]⟩) (λ_ R s=>s.heap.get? l=some {cls:=.type "tuple",dict:=dB,data:=.seq items n,slots:=sl}/\
  R (.ok (.ret (.ref (s.heap.push {cls:=.type "tuple_iterator",data:=.fields #[.ref l,.int 0 0]}).objs.size)))
   {s with heap:=(s.heap.push {cls:=.type "tuple_iterator",data:=.fields #[.ref l,.int 0 0]}).push {cls:=.type "enumerate",data:=.fields #[.none,.bool false,.ref (zz9 s),rawInt 0,.none,.none]}}):=
 .of_wp λprog w A R s h=>by
  obtain⟨hp,g,d,tk,os⟩:=s
  obtain⟨hl,h⟩:=h
  have JU:=sub_enumerate
  have hL:Heap.IsTuple (Shared.heap ⟨hp,g,d,tk,os⟩) l items:=⟨_,hl,rfl,n,rfl⟩
  wp_walk using wpAny_loadPart' hl
  refine wpAny_stack_any λst=>zzG ?_
  split
  ·rename_i c _ _ _ _ _;cases(c==Value.type "enumerate")<;>(wp_walk using wpAny_loadPart' hl,wpAny_pyIter_tuple hL;exact⟨_,rfl,h⟩)
  ·wp_walk using wpAny_loadPart' hl,wpAny_pyIter_tuple hL
   exact⟨_,rfl,h⟩
def dP{h:Heap}{a b:Addr}{o1 o2:Obj}(h1:h.get? a=some o1)(h2:h.get? b=some o2)(hc:o1.cls≠o2.cls):a≠b:=λz=>by
 subst z;rw [h1] at h2;cases h2;exact hc rfl
def dc(z:Str):strIterType z="str_ascii_iterator"\/strIterType z="str_iterator":=by
 unfold strIterType;split
 ·exact .inl rfl
 ·exact .inr rfl
def g8{X:Cx}{aa:List (Addr×Obj)}{σ:St}{H:Hp}{s:Shared}{E:Value->Shared->Prop}{e it:Addr}{N9:List Addr}{n i:Nat}{Pv:Nat->Value->Prop}{Sv:Nat->Heap->Prop}{old:Value}{Gx:V->Prop}{elts:List Expr}{x1:Nat}{pos:Pos}
 (I:Inv X aa σ H s) (D:Draws X.prog X.w X.A.in1 it N9 n Pv Sv) (he:IsEnum s.heap e it i old) (eB:Sv i s.heap) (bU:i<n) (c9:e≠it) (MQ:e∉N9) (hf:∀b∈[e,it],gg X aa H b) (hP:∀u,Pv i u->∃x,RelV x u/\Gx x):
 wpAny (model X.prog X.w) X.A (pyNext (.ref e)) (λr s1=>∃u,r=some u/\wpAny (model X.prog X.w) X.A (letOwnedTupleGo (.Tuple elts x1 pos) (.ref e) u) (λ_ s2=>∃x p,u=.ref p/\Gx x/\H p=none/\e≠p/\it≠p/\
  Inv X aa σ (upd H p (.tup [.int i,x])) s2/\(∃LD,IsEnum s2.heap e it ((i:Int)+1) LD)/\Sv (i+1) s2.heap) E s1) E s:=by
 refine wpAny_pyNext_enum_itemD D he eB bU c9 MQ λu h' tk pu ho fU ht hz kk=>?_
 obtain⟨x,rx,gx⟩:=hP u pu
 obtain⟨f0,f1,f2,f3,f4,f5⟩:=hf e (by simp)
 obtain⟨g0,g1,g2,g3,g4,g5⟩:=hf it (by simp)
 have jb:H (zz9 s)=none:=I.aU.fresh (zzE _)
 obtain⟨oi,hoi⟩:=D.live _ _ eB
 have NZ:e≠(zz9 s):=zzb (zzO he)
 have OK:it≠(zz9 s):=zzb (zzO hoi)
 have l7:∀b o,H b=some o->b≠e/\b≠it/\b≠(zz9 s):=λb o q=>⟨(λz=>(by rw [z,f0] at q;cases q)),(λz=>(by rw [z,g0] at q;cases q)),zzb (I.aU.lt q)⟩
 have I1:Inv X aa σ (upd H (zz9 s) (.tup [.int i,x])) {s with heap:=h',toks:=tk+1}:=by
  refine I.step (g':=s.gens) (d':=s.drawn) (ch:=[e,it]) (λb hb=>?_) (λb o _ _ hc q _=>kk b o (λz=>hc (by simp [z])) (λz=>hc (by simp [z])) q)
   (λb o _ _ hc q _=>⟨o.slots,kk b o (λz=>hc (by simp [z])) (λz=>hc (by simp [z])) q⟩) (λb o _ q nb=>by rw [af (zzb (zzO q))];exact nb)
   (λb o hc q=>⟨o,kk b o (λz=>hc (by simp [z])) (λz=>hc (by simp [z])) q⟩) (λb xs q=>by rw [af (l7 b _ q).2.2];exact q) (λb o u q=>by rw [af (l7 b _ q).2.2];exact q)
   (λb ps q=>⟨#[],by rw [af (l7 b _ q).2.2,q];simp⟩) (λm hm=>?_) (λb o q=>?_) I.bare
  ·rcases zzm.mp hb with z|z
   ·subst z;exact⟨f3,f1,f4,f5⟩
   ·rw [zzi.mp z];exact⟨g3,g1,g4,g5⟩
  ·obtain⟨o,es,ep,q,r⟩:=hm
   exact⟨o,es,ep,kk _ o (Ne.symm f1) (Ne.symm g1) q,r⟩
  ·by_cases hb:b=(zz9 s)
   ·subst hb;rw [aw] at q;cases q;exact⟨(show 2<=sizeLine by decide),[.int i tk,u],.cons ⟨tk,rfl⟩ (.cons rx .nil),⟨_,ht,rfl,_,rfl⟩⟩
   ·rw [af hb] at q;refine(I.aU b o q).fH (λc v hc z=>kk c v ?_ ?_ z) (λc z=>by rw [af (l7 c _ z).2.2];exact z) λc xs z=>by rw [af (l7 c _ z).2.2];exact z
    ·rcases hc with z'|z'
     ·rw [z'];exact(l7 b o q).1
     ·exact(l7 c _ z').1
    ·rcases hc with z'|z'
     ·rw [z'];exact(l7 b o q).2.1
     ·exact(l7 c _ z').2.1
 refine⟨_,rfl,wpAny_letOwnedTupleGo_enum ho λh2 HX sb=>?_⟩
 refine⟨x,(zz9 s),rfl,gx,jb,NZ,OK,I1.turned (t':=tk+1) (it:=e) (λb o hb q=>sb.extBut b o hb q) (by rw [af NZ];exact f0) f1 f3 f4 f5,⟨_,HX⟩,D.frame _ _ _ fU λb hb o q=>sb.extBut b o (λz=>MQ (z▸hb)) q⟩
noncomputable def K8(K:zz8)(a:Addr)(xs:List V):It:=
 ⟨λi H=>dJ K H a xs/\i<xs.length,λi H v H'=>∃p x,v=.ref p/\H p=none/\H'=upd H p (.tup [.int (i:Nat),x])/\xs[i]?=some x,λi H=>dJ K H a xs/\i=xs.length⟩
noncomputable def JI(z:Str):It:=
 ⟨λi _=>i<z.cps.size,λi H v H'=>∃p c,v=.ref p/\H p=none/\H'=upd H p (.tup [.int (i:Nat),.str ⟨#[c]⟩])/\z.cps[i]?=some c,λi _=>i=z.cps.size⟩
def pX{P:Program}{w:World}{K:zz8}{elts:List Expr}{x1:Nat}{pos:Pos}(a e it:Addr)(xs:List V):Turn P w K (.Tuple elts x1 pos) (K8 K a xs) [e,it] e (λi h=>(∃old,IsEnum h e it i old)/\h.IsTupleIter it a i) where
 mem:=by simp
 obj:=λi h st b hb=>by
  obtain⟨⟨old,he⟩,o,ho,_,hd⟩:=st
  rcases zzm.mp hb with z|z
  ·subst z;exact⟨_,he,λv q=>by cases q⟩
  ·rw [zzi.mp z];exact⟨o,ho,λv q=>by rw [hd] at q;cases q⟩
 keep:=λi h h' st k=>⟨by obtain⟨old,he⟩:=st.1;exact⟨old,k e (by simp) _ he⟩,st.2.at λo q=>k it (by simp) o q⟩
 item:=by
  intro X hP hw hK hc i aa s σ H E I hf st hg;subst hP hw hK;obtain⟨hq,bU⟩:=hg
  obtain⟨⟨old,he⟩,hit⟩:=st
  obtain⟨ae,rv,p,hz⟩:=I.tuple hq
  have hl:=rv.length
  have iz:=hit
  obtain⟨oi,e1,e2,_⟩:=hit
  obtain⟨oa,a1,a2,_⟩:=id p
  have xm:a≠it:=dP a1 e1 (by rw [a2,e2];decide+kernel)
  have Ck:e≠it:=dP he e1 (by rw [e2];show Value.type "enumerate"≠_;decide+kernel)
  have EE:e≠a:=dP he a1 (by rw [a2];show Value.type "enumerate"≠_;decide+kernel)
  refine bh (g8 (Gx:=λx=>xs[i]?=some x) I (gK (A:=X.A.in1) (I.ok.hd hc) it a xm ae.toArray) he ⟨iz,p⟩ (by rw [zzC];omega) Ck (by simp [Ck,EE]) hf (λu hu=>?_)) λr s1 ⟨u,hr,k⟩=>⟨u,hr,bh k λ_ s2 ⟨x,q,z1,z2,z3,z4,z5,z6,z7,z8⟩=>?_⟩
  ·have Ge:xs[i]?=some xs[i]:=zzg bU
   obtain⟨u',hu',ru'⟩:=rv.get Ge
   have:ae.toArray[i]?=some u':=by simpa using hu'
   have DT:ae.toArray[i]?=some u:=hu
   rw [this] at DT;cases DT;exact⟨xs[i],ru',Ge⟩
  ·exact⟨.ref q,_,z6,z1.symm▸rfl,⟨q,x,rfl,z3,rfl,z2⟩,⟨z7,z8.1⟩,λb hb=>by
    rcases zzm.mp hb with w|w
    ·rw [w,af z4];exact(hf e (by simp)).1
    ·rw [zzi.mp w,af z5];exact(hf it (by simp)).1⟩
 done:=by
  intro X hP hw hK hc i aa s σ H E I hf st hg;subst hP hw hK;obtain⟨hq,rfl⟩:=hg
  obtain⟨⟨old,he⟩,hit⟩:=st
  obtain⟨ae,rv,p,hz⟩:=I.tuple hq
  have hl:=rv.length
  have iz:=hit
  obtain⟨oi,e1,e2,_⟩:=hit
  obtain⟨oa,a1,a2,_⟩:=id p
  have xm:a≠it:=dP a1 e1 (by rw [a2,e2];decide+kernel)
  obtain⟨g0,g1,g2,g3,g4,g5⟩:=hf it (by simp)
  refine wpAny_pyNext_enum_endD (gK (A:=X.A.in1) (I.ok.hd hc) it a xm ae.toArray) he ⟨by rw [zzC,<-hl];exact iz,p⟩ λh' eb=>⟨rfl,I.turned (t':=s.toks) (λb o hb q=>eb b o hb q) g0 g1 g3 g4 g5⟩
 self:=λ_ _ _ _ _ st h=>by obtain⟨⟨old,he⟩,_⟩:=st;exact wpAny_pyIter_enum he h
def kD{prog:Program}{w:World}{A:Around}{E:Value->Shared->Prop}{s:Shared}{l:Addr}{items:Array Value}{Q:Value->Shared->Prop}(hL:IsTup s.heap l items)
 (h:∀g,IsEnum g ((zz9 s)+1) (zz9 s) 0 .none->g.IsTupleIter (zz9 s) l 0->(∀b o,s.heap.get? b=some o->g.get? b=some o)->Q (.ref ((zz9 s)+1)) {s with heap:=g}):
 wpAny (model prog w) A (call (.type "enumerate") [.ref l]) Q E s:=by
 obtain⟨⟨cls,dd,data,sl⟩,ho,hc,n,hd⟩:=id hL
 simp only at hc hd;subst hc hd;have hz:(s.heap.push {cls:=.type "tuple_iterator",data:=.fields #[.ref l,.int 0 0]}).objs.size=(zz9 s)+1:=Heap.size_push ..
 refine callType_new F.called_enumerate (by decide) (F.typeCall_enumerate_1 _) (F.newCall_enumerate_1 _) (λobj=>F.args_object_init_2 obj _) F.entry_enumerate_new (uN l items n dd sl) ⟨ho,?_⟩;show _/\_;rw [hz];have he:IsEnum ((s.heap.push {cls:=.type "tuple_iterator",data:=.fields #[.ref l,.int 0 0]}).push {cls:=.type "enumerate",data:=.fields #[.none,.bool false,.ref (zz9 s),rawInt 0,.none,.none]}) ((zz9 s)+1) (zz9 s) 0 .none:=by
  have q:=zzX (s.heap.push {cls:=.type "tuple_iterator",data:=.fields #[.ref l,.int 0 0]}) (o:={cls:=.type "enumerate",data:=.fields #[.none,.bool false,.ref (zz9 s),rawInt 0,.none,.none]}) rfl
  rw [hz] at q;exact q
 exact⟨⟨_,he,rfl⟩,h _ he ⟨_,zzB _ (zzX _ rfl),rfl,rfl⟩ λb o x=>zzB _ (zzB _ x)⟩
section
variable{X:Cx}{elts:List Expr}{x1:Nat}{iD:Pos}
noncomputable def JY(K:zz8)(ta:TA):TI:=λσ H R=>ta σ H λvs H1=>∃a xs,vs=[.ref a]/\dJ K H1 a xs/\R (K8 K a xs) H1
theorem yn{a:Expr}{ta:TA}{p pos:Pos}(hg:Gl X "enumerate")(hm:X.mg "enumerate"=none)(ha:PA X [a] ta)(hs:starEach [a] X.env=[(false,eval a X.env)]:=by rfl):PI X (.Tuple elts x1 iD) (.Call (.Name "enumerate" p) [a] [] pos) (JY X.K ta):=by
 intro aa s σ H R I h;refine Call_ (c6 I hg hm boot_enumerate (PyProof.Rows.callWith_type1 (bh (ha pos aa s σ H _ I h) λus s1 ⟨vs,H1,I1,r1,q1⟩=>?_) hs rfl))
 obtain⟨a,xs,e,hq,q⟩:=q1
 subst e;obtain⟨u,rfl,ru⟩:=vals1 r1
 cases ru;obtain⟨ae,rv,pt,hz⟩:=I1.tuple hq
 refine kD pt λg he hi kp=>wpAny_pyIter_enum he ?_
 have I2:Inv X aa σ H1 {s1 with heap:=g}:=I1.kept (t':=s1.toks) kp
 refine⟨(zz9 s1)+1,[(zz9 s1)+1,(zz9 s1)],_,_,H1,rfl,I2,pX a _ (zz9 s1) xs,⟨⟨_,he⟩,hi⟩,λb hb=>?_,q⟩
 have kq:(zz9 s1)<=b:=by
  rcases zzm.mp hb with z|z
  ·rw [z];exact Nat.le_succ _
  ·rw [zzi.mp z];exact zzE _
 exact I1.kJ kq (I1.aU.fresh kq)
end
def qH{P:Program}{w:World}{K:zz8}{elts:List Expr}{x1:Nat}{pos:Pos}(z:Str)(t:Tok)(e it:Addr):Turn P w K (.Tuple elts x1 pos) (JI z) [e,it] e (λi h=>(∃old,IsEnum h e it i old)/\h.IsStrIter it (strIterType z) z t i) where
 mem:=by simp
 obj:=λi h st b hb=>by
  obtain⟨⟨old,he⟩,o,ho,_,hd⟩:=st
  rcases zzm.mp hb with q|q
  ·subst q;exact⟨_,he,λv q=>by cases q⟩
  ·rw [zzi.mp q];exact⟨o,ho,λv q=>by rw [hd] at q;cases q⟩
 keep:=λi h h' st k=>⟨by obtain⟨old,he⟩:=st.1;exact⟨old,k e (by simp) _ he⟩,by obtain⟨o,q,r⟩:=st.2;exact⟨o,k it (by simp) o q,r⟩⟩
 item:=by
  intro X hP hw hK hc i aa s σ H E I hf st hg;subst hP hw hK;have bU:i<z.cps.size:=hg
  obtain⟨⟨old,he⟩,hit⟩:=st
  have iz:=hit
  obtain⟨oi,e1,e2,_⟩:=hit
  have Ck:e≠it:=dP he e1 (by
   rw [e2];show Value.type "enumerate"≠_;rcases dc z with q|q<;>rw [q]<;>decide+kernel)
  have fin:∀{Sv:Nat->Heap->Prop},Draws X.prog X.w X.A.in1 it [it] z.cps.size (λi v=>∃c u,z.cps[i]?=some c/\v=.str ⟨#[c]⟩ u) Sv->Sv i s.heap->(∀h,Sv (i+1) h->h.IsStrIter it (strIterType z) z t (i+1))->
   wpAny (model X.prog X.w) X.A (pyNext (.ref e)) (λr s1=>∃u,r=some u/\wpAny (model X.prog X.w) X.A (letOwnedTupleGo (.Tuple elts x1 pos) (.ref e) u) (λ_ s2=>∃x H',Inv X aa σ H' s2/\RelV x u/\(JI z).Fj i H x H'/\((∃old,IsEnum s2.heap e it (((i+1:Nat)):Int) old)/\s2.heap.IsStrIter it (strIterType z) z t (i+1))/\∀b∈[e,it],H' b=none) E s1) E s:=by
   intro Sv D eB back;refine bh (g8 (Gx:=λx=>∃c,x=.str ⟨#[c]⟩/\z.cps[i]?=some c) I D he eB bU Ck (by simp [Ck]) hf (λu ⟨c,tk,hc,hu⟩=>⟨.str ⟨#[c]⟩,⟨tk,hu⟩,c,rfl,hc⟩)) λr s1 ⟨u,hr,k⟩=>⟨u,hr,bh k λ_ s2 ⟨x,q,z1,⟨c,z2,z2'⟩,z3,z4,z5,z6,z7,z8⟩=>?_⟩
   subst z2;exact⟨.ref q,_,z6,z1.symm▸rfl,⟨q,c,rfl,z3,rfl,z2'⟩,⟨z7,back _ z8⟩,λb hb=>by
    rcases zzm.mp hb with w|w
    ·rw [w,af z4];exact(hf e (by simp)).1
    ·rw [zzi.mp w,af z5];exact(hf it (by simp)).1⟩
  rcases dc z with q|q
  ·rw [q] at iz⊢;rw [q] at fin;exact fin (Draws.strAscii (A:=X.A.in1) (I.ok.hd hc) it z t) iz λh st=>st
  ·rw [q] at iz⊢;rw [q] at fin;exact fin (Draws.strWide (A:=X.A.in1) (I.ok.hd hc) it z t) iz λh st=>st
 done:=by
  intro X hP hw hK hc i aa s σ H E I hf st hg;subst hP hw hK;have hi:i=z.cps.size:=hg
  subst hi;obtain⟨⟨old,he⟩,hit⟩:=st
  obtain⟨g0,g1,g2,g3,g4,g5⟩:=hf it (by simp)
  rcases dc z with q|q
  ·rw [q] at hit;exact wpAny_pyNext_enum_endD (Draws.strAscii (A:=X.A.in1) (I.ok.hd hc) it z t) he hit λh' eb=>⟨rfl,I.turned (t':=s.toks) (λb o hb q=>eb b o hb q) g0 g1 g3 g4 g5⟩
  ·rw [q] at hit;exact wpAny_pyNext_enum_endD (Draws.strWide (A:=X.A.in1) (I.ok.hd hc) it z t) he hit λh' eb=>⟨rfl,I.turned (t':=s.toks) (λb o hb q=>eb b o hb q) g0 g1 g3 g4 g5⟩
 self:=λ_ _ _ _ _ st h=>by obtain⟨⟨old,he⟩,_⟩:=st;exact wpAny_pyIter_enum he h
section
variable{X:Cx}{elts:List Expr}{x1:Nat}{iD:Pos}
noncomputable def Lj(ta:TA):TI:=λσ H R=>ta σ H λvs H1=>∃z,vs=[.str z]/\R (JI z) H1
theorem vY{a:Expr}{ta:TA}{p pos:Pos}(hg:Gl X "enumerate")(hm:X.mg "enumerate"=none)(ha:PA X [a] ta)(hs:starEach [a] X.env=[(false,eval a X.env)]:=by rfl):PI X (.Tuple elts x1 iD) (.Call (.Name "enumerate" p) [a] [] pos) (Lj ta):=by
 intro aa s σ H R I h;refine Call_ (c6 I hg hm boot_enumerate (PyProof.Rows.callWith_type1 (bh (ha pos aa s σ H _ I h) λus s1 ⟨vs,H1,I1,r1,q1⟩=>?_) hs rfl))
 obtain⟨z,e,q⟩:=q1
 subst e;obtain⟨u,rfl,t,rfl⟩:=vals1 r1
 refine call_enumerate_str λg he hi hz kp=>wpAny_pyIter_enum he ?_
 have I2:Inv X aa σ H1 {s1 with heap:=g}:=I1.kept (t':=s1.toks) kp
 refine⟨(zz9 s1)+1,[(zz9 s1)+1,(zz9 s1)],_,_,H1,rfl,I2,qH z t _ (zz9 s1),⟨⟨_,he⟩,hi⟩,λb hb=>?_,q⟩
 have kq:(zz9 s1)<=b:=by
  rcases zzm.mp hb with z|z
  ·rw [z];exact Nat.le_succ _
  ·rw [zzi.mp z];exact zzE _
 exact I1.kJ kq (I1.aU.fresh kq)
end
noncomputable def Dr(K:zz8)(a:Addr)(xs:List V):It:=
 ⟨λi H=>fQ K H a xs/\i<xs.length,λi H v H'=>∃p x,v=.ref p/\H p=none/\H'=upd H p (.tup [.int (i:Nat),x])/\xs[i]?=some x,λi H=>fQ K H a xs/\i=xs.length⟩
def qD{P:Program}{w:World}{K:zz8}{elts:List Expr}{x1:Nat}{pos:Pos}(a e it:Addr)(xs:List V):Turn P w K (.Tuple elts x1 pos) (Dr K a xs) [e,it] e (λi h=>(∃old,IsEnum h e it i old)/\h.IsListIter it a i) where
 mem:=by simp
 obj:=λi h st b hb=>by
  obtain⟨⟨old,he⟩,o,ho,_,hd⟩:=st
  rcases zzm.mp hb with z|z
  ·subst z;exact⟨_,he,λv q=>by cases q⟩
  ·rw [zzi.mp z];exact⟨o,ho,λv q=>by rw [hd] at q;cases q⟩
 keep:=λi h h' st k=>⟨by obtain⟨old,he⟩:=st.1;exact⟨old,k e (by simp) _ he⟩,st.2.at λo q=>k it (by simp) o q⟩
 item:=by
  intro X hP hw hK hc i aa s σ H E I hf st hg;subst hP hw hK;obtain⟨hq,bU⟩:=hg
  obtain⟨⟨old,he⟩,hit⟩:=st
  obtain⟨ae,rv,p,hz⟩:=I.list hq
  have hl:=rv.length
  have iz:=hit
  obtain⟨oi,e1,e2,_⟩:=hit
  obtain⟨oa,a1,a2,_⟩:=p.isList
  have xm:a≠it:=dP a1 e1 (by rw [a2,e2];decide+kernel)
  have Ck:e≠it:=dP he e1 (by rw [e2];show Value.type "enumerate"≠_;decide+kernel)
  have EE:e≠a:=dP he a1 (by rw [a2];show Value.type "enumerate"≠_;decide+kernel)
  refine bh (g8 (Gx:=λx=>xs[i]?=some x) I (Draws.list (A:=X.A.in1) (I.ok.hd hc) it a xm ae.toArray) he ⟨iz,p.isList⟩ (by rw [zzC];omega) Ck (by simp [Ck,EE]) hf (λu hu=>?_)) λr s1 ⟨u,hr,k⟩=>⟨u,hr,bh k λ_ s2 ⟨x,q,z1,z2,z3,z4,z5,z6,z7,z8⟩=>?_⟩
  ·have Ge:xs[i]?=some xs[i]:=zzg bU
   obtain⟨u',hu',ru'⟩:=rv.get Ge
   have:ae.toArray[i]?=some u':=by simpa using hu'
   have DT:ae.toArray[i]?=some u:=hu
   rw [this] at DT;cases DT;exact⟨xs[i],ru',Ge⟩
  ·exact⟨.ref q,_,z6,z1.symm▸rfl,⟨q,x,rfl,z3,rfl,z2⟩,⟨z7,z8.1⟩,λb hb=>by
    rcases zzm.mp hb with w|w
    ·rw [w,af z4];exact(hf e (by simp)).1
    ·rw [zzi.mp w,af z5];exact(hf it (by simp)).1⟩
 done:=by
  intro X hP hw hK hc i aa s σ H E I hf st hg;subst hP hw hK;obtain⟨hq,rfl⟩:=hg
  obtain⟨⟨old,he⟩,hit⟩:=st
  obtain⟨ae,rv,p,hz⟩:=I.list hq
  have hl:=rv.length
  have iz:=hit
  obtain⟨oi,e1,e2,_⟩:=hit
  obtain⟨oa,a1,a2,_⟩:=p.isList
  have xm:a≠it:=dP a1 e1 (by rw [a2,e2];decide+kernel)
  obtain⟨g0,g1,g2,g3,g4,g5⟩:=hf it (by simp)
  refine wpAny_pyNext_enum_endD (Draws.list (A:=X.A.in1) (I.ok.hd hc) it a xm ae.toArray) he ⟨by rw [zzC,<-hl];exact iz,p.isList⟩ λh' eb=>⟨rfl,I.turned (t':=s.toks) (λb o hb q=>eb b o hb q) g0 g1 g3 g4 g5⟩
 self:=λ_ _ _ _ _ st h=>by obtain⟨⟨old,he⟩,_⟩:=st;exact wpAny_pyIter_enum he h
section
variable{X:Cx}{elts:List Expr}{x1:Nat}{iD:Pos}
noncomputable def KY(K:zz8)(ta:TA):TI:=λσ H R=>ta σ H λvs H1=>∃a xs,vs=[.ref a]/\fQ K H1 a xs/\R (Dr K a xs) H1
theorem pF{a:Expr}{ta:TA}{p pos:Pos}(hg:Gl X "enumerate")(hm:X.mg "enumerate"=none)(ha:PA X [a] ta)(hs:starEach [a] X.env=[(false,eval a X.env)]:=by rfl):PI X (.Tuple elts x1 iD) (.Call (.Name "enumerate" p) [a] [] pos) (KY X.K ta):=by
 intro aa s σ H R I h;refine Call_ (c6 I hg hm boot_enumerate (PyProof.Rows.callWith_type1 (bh (ha pos aa s σ H _ I h) λus s1 ⟨vs,H1,I1,r1,q1⟩=>?_) hs rfl))
 obtain⟨a,xs,e,hq,q⟩:=q1
 subst e;obtain⟨u,rfl,ru⟩:=vals1 r1
 cases ru;obtain⟨ae,rv,pt,hz⟩:=I1.list hq
 refine call_enumerate_list pt.isList λg he hi _ kp=>wpAny_pyIter_enum he ?_
 have I2:Inv X aa σ H1 {s1 with heap:=g}:=I1.kept (t':=s1.toks) kp
 refine⟨(zz9 s1)+1,[(zz9 s1)+1,(zz9 s1)],_,_,H1,rfl,I2,qD a _ (zz9 s1) xs,⟨⟨_,he⟩,hi⟩,λb hb=>?_,q⟩
 have kq:(zz9 s1)<=b:=by
  rcases zzm.mp hb with z|z
  ·rw [z];exact Nat.le_succ _
  ·rw [zzi.mp z];exact zzE _
 exact I1.kJ kq (I1.aU.fresh kq)
variable{aa:List (Addr×Obj)}{σ:St}{H:Hp}{s:Shared}{h':Heap}{ch:List Addr}
def Inv.moved{tk:Nat}(I:Inv X aa σ H s)(hf:∀b∈ch,gg X aa H b)(kk:∀b o,b∉ch->s.heap.get? b=some o->h'.get? b=some o):Inv X aa σ H {s with heap:=h',toks:=tk}:=by
 have l7:∀b o,H b=some o->b∉ch:=λb o q z=>by rw [(hf b z).1] at q;cases q
 refine I.step (g':=s.gens) (d':=s.drawn) (ch:=ch) (λb hb=>?_) (λb o _ _ hc q _=>kk b o hc q) (λb o _ _ hc q _=>⟨o.slots,kk b o hc q⟩) (λ_ _ _ _ n=>n)
  (λb o hc q=>⟨o,kk b o hc q⟩) (λb xs q=>q) (λb o u q=>q) (λb ps q=>⟨#[],by rw [q];simp⟩) (λm hm=>?_) (λb o q=>?_) I.bare
 ·obtain⟨f0,f1,f2,f3,f4,f5⟩:=hf b hb
  exact⟨f3,f1,f4,f5⟩
 ·obtain⟨o,es,ep,q,r⟩:=hm
  exact⟨o,es,ep,kk _ o (λz=>(hf _ z).2.1 rfl) q,r⟩
 ·refine(I.aU b o q).fH (λc v hc z=>kk c v ?_ z) (λc z=>z) λc xs z=>z
  rcases hc with z'|z'
  ·rw [z'];exact l7 b o q
  ·exact l7 c _ z'
end
structure Zd where
 it:Addr
 fp:List Addr
 n:Nat
 P:Nat->Value->Prop
 St:Nat->Heap->Prop
structure Gw(prog:Program)(w:World)(A:Around)(z TI TO:Addr)(ds:List Zd):Prop where
 D:∀d∈ds,Draws prog w A d.it d.fp d.n d.P d.St
 zf:∀d∈ds,z∉d.fp/\TO∉d.fp/\d.it≠z/\d.it≠TO/\d.it≠TI
 ap:ds.Pairwise λa b=>a.it∉b.fp/\b.it∉a.fp
 tz:TI≠z/\TO≠z/\TI≠TO
abbrev fC(h:Heap)(T:Addr)(xs:Array Value):Prop:=h.get? T=some {cls:=.type "tuple",data:=.seq xs}
section
variable{prog:Program}{w:World}{A:Around}{E:Value->Shared->Prop}{s:Shared}{z TI TO:Addr}{ds:List Zd}{k:Nat}
def Lp(z TI TO:Addr)(k:Nat)(h0:Heap)(ds:List Zd)(rest:List (Value×Nat))(h:Heap):Prop:=
 ∃dn lf xs ys,ds=dn++lf/\rest=(lf.map λd=>Value.ref d.it).zipIdx dn.length/\Paired (λd x=>d.P k x) dn xs/\ys.length=lf.length/\IsZip h z TI TO .ellipsis/\fC h TO (xs++ys).toArray/\
  (∀d∈dn,d.St (k+1) h)/\(∀d∈lf,d.St k h)/\h.objs.size=h0.objs.size/\∀c o,c≠z->c≠TO->(∀d∈ds,c≠d.it)->h0.get? c=some o->h.get? c=some o
def pf{Q:Fin->Shared->Prop}(Z:Gw prog w A z TI TO ds)(hl:ds.length<=9)(c9:ds≠[])(hz:IsZip s.heap z TI TO .none)(Pr:fC s.heap TI (ds.map λd=>Value.ref d.it).toArray)(OR:∃c,fC s.heap TO c/\c.size=ds.length)(hs:∀d∈ds,d.St k s.heap/\k<=d.n)
 (hQ:∀h' tk xs,Paired (λd x=>d.P k x) ds xs->IsZip h' z TI TO (rawInt (zz9 s))->(∃c,fC h' TO c/\c.size=ds.length)->(∀d∈ds,d.St (k+1) h')->fC h' (zz9 s) xs.toArray->h'.objs.size=(zz9 s)+1->
  (∀c o,c≠z->c≠TO->(∀d∈ds,c≠d.it)->s.heap.get? c=some o->h'.get? c=some o)->Q (.done (.ret (.ref (zz9 s)))) {s with heap:=h',toks:=tk})
 (hE:∀h' tk e,(∃d∈ds,d.n<=k)->(∀c o,c≠z->c≠TO->(∀d∈ds,c≠d.it)->s.heap.get? c=some o->h'.get? c=some o)->(∃o,h'.get? e=some o/\o.cls=.type "StopIteration")->E (.ref e) {s with heap:=h',toks:=tk}):
 wpAny (model prog w) A (Builtin.«zip.__next__» ⟨[.ref z],[]⟩) Q E s:=by
 obtain⟨t1,t2,t3⟩:=Z.tz
 show wpAny _ _ (field (.ref z) 2>>=_) _ _ _
 refine zzA (wpAny_field hz rfl (x:=.bool false) rfl ?_);show wpAny _ _ (field (.ref z) 3>>=_) _ _ _;refine zzA (wpAny_field hz rfl (x:=.ref TI) rfl ?_);refine zzA (wpAny_seqItems Pr rfl ?_);have Li:(ds.map λd=>Value.ref d.it).toArray.isEmpty=false:=by cases ds<;>simp_all
 simp! [Li,zze,if_false];show wpAny _ _ (Builtin.SmallTypes.ownedTupleIsFree (.ref z)>>=_) _ _ _;refine zzA ?_;unfold Builtin.SmallTypes.ownedTupleIsFree;refine zzA (wpAny_field hz rfl (x:=.none) rfl (zzG ?_));simp! [if_true];refine zzA (wpAny_rule ?_);refine zzA (wpAny_field hz rfl (x:=.ref TO) rfl ?_);refine zzA (wpAny_setField_rec hz (by simp) λh₁ hz₁ hs₁=>?_)
 replace hz₁:IsZip h₁ z TI TO .ellipsis:=hz₁
 refine zzA ?_;obtain⟨c,hc,B7⟩:=OR
 have Hh:∀{h h':Heap},Heap.SameBut z h h'->∀d∈ds,∀{i},d.St i h->d.St i h':=λsb d hd i q=>(Z.D d hd).frame _ _ _ q λb hb o e=>sb.extBut b o (λx=>(Z.zf d hd).1 (x▸hb)) e
 refine wpAny_forIn_list _ (λrest b s'=>b=⟨none,PUnit.unit⟩/\∃h tk,s'={s with heap:=h,toks:=tk}/\Lp z TI TO k s.heap ds rest h) _ ?_ ?_ _ _ ⟨rfl,h₁,s.toks,rfl,[],ds,[],c.toList,rfl,rfl,.nil,by simpa using B7,hz₁,?_,(λd hd=>nomatch hd),(λd hd=>Hh hs₁ d hd (hs d hd).1),hs₁.1,λc o h1 _ _ e=>hs₁.extBut _ _ h1 e⟩
 ·rintro ⟨JO,j⟩ rest b s' ⟨rfl,h,tk,rfl,dn,lf,xs,ys,rfl,hr,pr,hyl,hzh,hto,sd,sl,hsz,kk⟩
  cases lf with
  |nil=>cases hr
  |cons d lf=>
   simp! [zzF,List.zipIdx_cons,List.cons.injEq,Prod.mk.injEq] at hr;obtain⟨⟨rfl,rfl⟩,rfl⟩:=hr
   have hd:d∈dn++d::lf:=by simp
   have D:=Z.D d hd
   obtain⟨f1,f2,f3,f4,f5⟩:=Z.zf d hd
   refine zzA (wpAny_onRaise ?_);show wpAny _ _ (Builtin.SmallTypes.nextOf (.ref d.it)>>=_) _ _ _;have Nv:∀a∈dn++lf,d.it∉a.fp/\a.it∉d.fp:=λa ha=>by
    have q:=List.pairwise_append.1 Z.ap
    rcases List.mem_append.1 ha with ha|ha
    ·exact(q.2.2 a ha d (zzP ..)).symm
    ·exact(List.pairwise_cons.1 q.2.1).1 a ha
   by_cases hk:k<d.n
   ·refine zzA (D.item k _ _ _ hk (sl d (zzP ..)) λx h2 Oq px Dl sb=>zzG ?_)
    have Df:fC h2 TO (xs++ys).toArray:=sb.extBut _ _ (Ne.symm f4) hto
    refine zzA (wpAny_seqItems Df rfl ?_);have lx:=Paired.length pr
    obtain⟨y,yr,rfl⟩:∃y yr,ys=y::yr:=by cases ys with|nil=>cases hyl|cons y yr=>exact⟨y,yr,rfl⟩
    have IS:(xs++y::yr).toArray.size<=sizeLine:=by
     have:(xs++y::yr).toArray.size<=9:=by simp! [zzC,zzM,zzL] at hyl hl⊢;omega
     exact zzU this (by decide)
    refine zzA (wpAny_updateSeq Df rfl ?_ IS (by rw [Array.size_setIfInBounds];exact Nat.le_succ_of_le IS));refine zzA (wpAny_letGo (zzG ?_));have FZ:Heap.SameBut TO h2 (h2.update TO (Obj.mapSeq λv=>v.setIfInBounds dn.length x)):=zzu ..
    have Ka:fC (h2.update TO (Obj.mapSeq λv=>v.setIfInBounds dn.length x)) TO (xs++[x]++yr).toArray:=by
     show Heap.get? _ TO=_
     rw [Heap.get?_update_self _ Df rfl];have:(xs++y::yr).toArray.setIfInBounds dn.length x=(xs++[x]++yr).toArray:=by
      rw [List.setIfInBounds_toArray,lx,List.set_append_right _ _ (zzE _),Nat.sub_self,List.set_cons_zero];simp
     have ls:((xs++[x]++yr).toArray.size==(xs++y::yr).toArray.size)=true:=by simp
     simp! [Obj.mapSeq,this,ls,if_true]
    refine⟨rfl,_,Oq,rfl,dn++[d],lf,xs++[x],yr,by simp,by simp,Paired.snoc pr px,by simpa using hyl,?_,Ka,λa ha=>?_,λa ha=>?_,?_,λc o c1 c2 c3 e=>?_⟩
    ·exact FZ.extBut _ _ (Ne.symm t2) (sb.extBut _ _ (Ne.symm f3) hzh)
    ·rcases List.mem_append.1 ha with ha|ha
     ·refine(Z.D a (by simp [ha])).frame _ _ _ (sd a ha) λb hb o e=>FZ.extBut _ _ (λq=>(Z.zf a (by simp [ha])).2.1 (q▸hb)) (sb.extBut _ _ (λq=>(Nv a (by simp [ha])).1 (q▸hb)) e)
     ·rw [zzi.1 ha];exact D.frame _ _ _ Dl λb hb o e=>FZ.extBut _ _ (λq=>f2 (q▸hb)) e
    ·refine(Z.D a (by simp [ha])).frame _ _ _ (sl a (zzI _ ha)) λb hb o e=>FZ.extBut _ _ (λq=>(Z.zf a (by simp [ha])).2.1 (q▸hb)) (sb.extBut _ _ (λq=>(Nv a (by simp [ha])).1 (q▸hb)) e)
    ·rw [FZ.1,sb.1,hsz]
    ·exact FZ.extBut _ _ c2 (sb.extBut _ _ (c3 d hd) (kk c o c1 c2 c3 e))
   ·have hn:d.n=k:=Nat.le_antisymm (Nat.le_of_not_lt hk) (hs d hd).2
    refine zzA (D.done _ _ _ (by rw [hn];exact sl d (zzP ..)) λh2 e eb he=>?_)
    obtain⟨oe,hoe,hce⟩:=he
    have Jq:IsZip h2 z TI TO .ellipsis:=eb _ _ (Ne.symm f3) hzh
    have OS:e≠z:=λq=>by subst q;rw [Jq] at hoe;cases hoe;simp at hce
    exact wpAny_setField_rec Jq (by simp) λh3 _ Nq=>hE h3 tk e ⟨d,hd,Nat.le_of_eq hn⟩ (λc o c1 c2 c3 q=>Nq.extBut _ _ c1 (eb _ _ (c3 d hd) (kk c o c1 c2 c3 q))) ⟨oe,Nq.extBut _ _ OS hoe,hce⟩
 ·rintro b s' ⟨rfl,h,tk,rfl,dn,lf,xs,ys,rfl,hr,pr,hyl,hzh,hto,sd,sl,hsz,kk⟩
  obtain rfl:lf=[]:=by cases lf with|nil=>rfl|cons d lf=>cases hr
  obtain rfl:ys=[]:=List.eq_nil_of_length_eq_zero hyl
  simp! [zz6] at hto hQ Z kk hl;have lx:=Paired.length pr
  refine zzA (wpAny_seqItems hto rfl ?_);refine zzA (wpAny_newTuple ?_ (zzU (m:=9) (by show xs.length<=9;omega) (by decide)));show wpAny _ _ (Builtin.SmallTypes.ownedTupleHandOut (.ref z) (.ref h.objs.size)>>=_) _ _ _;refine zzA ?_;unfold Builtin.SmallTypes.ownedTupleHandOut;have Mr:z<h.objs.size:=zzO hzh
  have Hx:IsZip (h.push {cls:=.type "tuple",data:=.seq xs.toArray}) z TI TO .ellipsis:=zzB _ hzh
  refine zzA (wpAny_setField_rec Hx (by simp) λh7 Kb LQ=>?_)
  replace Kb:IsZip h7 z TI TO (rawInt h.objs.size):=Kb
  refine wpAny_setField_rec Kb (by simp) λh8 JB LF=>?_
  replace JB:IsZip h8 z TI TO (rawInt h.objs.size):=JB
  have up:∀c o,c≠z->h.get? c=some o->h8.get? c=some o:=λc o c1 e=>LF.extBut _ _ c1 (LQ.extBut _ _ c1 (zzB _ e))
  have MR:fC h8 h.objs.size xs.toArray:=LF.extBut _ _ (Nat.ne_of_gt Mr) (LQ.extBut _ _ (Nat.ne_of_gt Mr) (zzX _ rfl))
  have MS:h8.objs.size=h.objs.size+1:=by rw [LF.1,LQ.1,Heap.size_push]
  rw [hsz] at JB MR MS;refine zzG ?_;show Q (.done (.ret (.ref h.objs.size))) _;rw [hsz];exact hQ h8 tk xs pr JB ⟨_,up _ _ t2 hto,by simp [lx]⟩ (λd hd=>(Z.D d hd).frame _ _ _ (sd d hd) λb hb o e=>up b o (λq=>(Z.zf d hd).1 (q▸hb)) e) MR MS λc o c1 c2 c3 e=>up c o c1 (kk c o c1 c2 c3 e)
 ·show fC h₁ TO _
  exact hs₁.extBut _ _ t2 (by simpa using hc)
variable{X:Cx}{aa:List (Addr×Obj)}{σ:St}{H:Hp}{h':Heap}{ch:List Addr}
def Inv.wA{tk:Nat}{xs:List V}{us:List Value}{ob:Obj}{n:Nat}(I:Inv X aa σ H s)(hf:∀b∈ch,gg X aa H b)(kk:∀b o,b∉ch->s.heap.get? b=some o->h'.get? b=some o)
 (hp:h'.get? (zz9 s)=some ob) (hc:ob.cls=.type "tuple") (hd:ob.data=.seq us.toArray n) (rx:Vals xs us) (hl:xs.length<=sizeLine):Inv X aa σ (upd H (zz9 s) (.tup xs)) {s with heap:=h',toks:=tk}:=by
 have l7:∀b o,H b=some o->b∉ch/\b≠(zz9 s):=λb o q=>⟨(λz=>(by rw [(hf b z).1] at q;cases q)),zzb (I.aU.lt q)⟩
 refine I.step (g':=s.gens) (d':=s.drawn) (ch:=ch) (λb hb=>?_) (λb o _ _ hc q _=>kk b o hc q) (λb o _ _ hc q _=>⟨o.slots,kk b o hc q⟩) (λb o _ q nb=>by rw [af (zzb (zzO q))];exact nb)
  (λb o hc q=>⟨o,kk b o hc q⟩) (λb xs q=>by rw [af (l7 b _ q).2];exact q) (λb o u q=>by rw [af (l7 b _ q).2];exact q) (λb ps q=>⟨#[],by rw [af (l7 b _ q).2,q];simp⟩) (λm hm=>?_) (λb o q=>?_) I.bare
 ·obtain⟨f0,f1,f2,f3,f4,f5⟩:=hf b hb
  exact⟨f3,f1,f4,f5⟩
 ·obtain⟨o,es,ep,q,r⟩:=hm
  exact⟨o,es,ep,kk _ o (λz=>(hf _ z).2.1 rfl) q,r⟩
 ·by_cases hb:b=(zz9 s)
  ·subst hb;rw [aw] at q;cases q;exact⟨hl,us,rx,⟨_,hp,hc,_,hd⟩⟩
  ·rw [af hb] at q;refine(I.aU b o q).fH (λc v hc z=>kk c v ?_ z) (λc z=>by rw [af (l7 c _ z).2];exact z) λc xs z=>by rw [af (l7 c _ z).2];exact z
   rcases hc with z'|z'
   ·rw [z'];exact(l7 b o q).1
   ·exact(l7 c _ z').1
end
structure Zs where
 it:Addr
 b:Bool
 a:Addr
 xs:List V
def Zs.iter(q:Zs)(i:Nat)(h:Heap):Prop:=if q.b=true then h.IsListIter q.it q.a i else h.IsTupleIter q.it q.a i
abbrev Zt:=Bool×Addr×List V
noncomputable def Zs.t(q:Zs):Zt:=(q.b,q.a,q.xs)
def Zq(K:zz8)(H:Hp)(q:Zt):Prop:=if q.1=true then fQ K H q.2.1 q.2.2 else dJ K H q.2.1 q.2.2
def Zs.sq(K:zz8)(H:Hp)(q:Zs):Prop:=if q.b=true then fQ K H q.a q.xs else dJ K H q.a q.xs
def Zs.rP{q:Zs}{i:Nat}{h h':Heap}(st:q.iter i h)(k:∀o,h.get? q.it=some o->h'.get? q.it=some o):q.iter i h':=by
 unfold Zs.iter at st⊢;split
 ·rename_i e;rw [if_pos e] at st;exact st.at k
 ·rename_i e;rw [if_neg e] at st;exact st.at k
def Zs.oQ{q:Zs}{i:Nat}{h:Heap}(st:q.iter i h):∃o,h.get? q.it=some o/\∀v,o.data≠.cell v:=by
 unfold Zs.iter at st;split at st
 ·obtain⟨o,ho,_,hd⟩:=st;exact⟨o,ho,λv z=>by rw [hd] at z;cases z⟩
 ·obtain⟨o,ho,_,hd⟩:=st;exact⟨o,ho,λv z=>by rw [hd] at z;cases z⟩
noncomputable def Ku(K:zz8)(ts:List Zt):It:=
 ⟨λi H=>∀q∈ts,Zq K H q/\i<q.2.2.length,λi H v H'=>∃p ys,v=.ref p/\H p=none/\H'=upd H p (.tup ys)/\Paired (λ(q:Zt) y=>q.2.2[i]?=some y) ts ys,
  λi H=>(∀q∈ts,Zq K H q/\i<=q.2.2.length)/\∃q∈ts,q.2.2.length=i⟩
structure xl(prog:Program)(w:World)(A:Around)(i:Nat)(h:Heap)(q:Zs)(d:Zd):Prop where
 it:d.it=q.it
 fp:d.fp=[q.it,q.a]
 n:d.n=q.xs.length
 D:Draws prog w A d.it d.fp d.n d.P d.St
 st:d.St i h
 back:∀j g,d.St j g->q.iter j g
 val:∀j u,d.P j u->∃x,RelV x u/\q.xs[j]?=some x
section
variable{X:Cx}{aa:List (Addr×Obj)}{σ:St}{H:Hp}{s:Shared}
def w8{xs:List V}{ae:List Value}(rv:Vals xs ae)(j:Nat)(u:Value)(hu:ae.toArray[j]?=some u):∃x,RelV x u/\xs[j]?=some x:=by
 have hu:ae[j]?=some u:=by simpa using hu
 have hj:j<xs.length:=by rw [rv.length];exact(zzH.mp hu).1
 obtain⟨u',hu',ru'⟩:=rv.get (zzg hj)
 rw [hu] at hu';cases hu';exact⟨_,ru',zzg hj⟩
def IP(hc:X.calm=true)(I:Inv X aa σ H s){q:Zs}{i:Nat}(c9:q.a≠q.it)(h:q.sq X.K H)(st:q.iter i s.heap):∃d,xl X.prog X.w X.A.in1 i s.heap q d:=by
 unfold Zs.sq at h;unfold Zs.iter at st;cases hb:q.b with
 |true=>
  rw [if_pos hb] at h st;obtain⟨ae,rv,p,_⟩:=I.list h
  refine⟨⟨q.it,[q.it,q.a],ae.toArray.size,_,_⟩,rfl,rfl,?_,Draws.list (A:=X.A.in1) (I.ok.hd hc) q.it q.a c9 ae.toArray,⟨st,p.isList⟩,λj g z=>?_,w8 rv⟩
  ·rw [zzC,<-rv.length]
  ·unfold Zs.iter;rw [if_pos hb];exact z.1
 |false=>
  have kq:¬q.b=true:=by rw [hb];exact zzf
  rw [if_neg kq] at h st;obtain⟨ae,rv,p,_⟩:=I.tuple h
  refine⟨⟨q.it,[q.it,q.a],ae.toArray.size,_,_⟩,rfl,rfl,?_,gK (A:=X.A.in1) (I.ok.hd hc) q.it q.a c9 ae.toArray,⟨st,p⟩,λj g z=>?_,w8 rv⟩
  ·rw [zzC,<-rv.length]
  ·unfold Zs.iter;rw [if_neg kq];exact z.1
theorem qz(hc:X.calm=true)(I:Inv X aa σ H s){i:Nat}:∀{qs:List Zs},(∀q∈qs,q.a≠q.it/\q.sq X.K H/\q.iter i s.heap)->∃ds,Paired (xl X.prog X.w X.A.in1 i s.heap) qs ds
 |[],_=>⟨[],.nil⟩
 |q::qs,h=>by
  obtain⟨h1,h2,h3⟩:=h q (zzP ..)
  obtain⟨d,hd⟩:=IP hc I h1 h2 h3
  obtain⟨ds,hds⟩:=qz hc I (qs:=qs) λr hr=>h r (zzI _ hr)
  exact⟨d::ds,.cons hd hds⟩
variable{α β:Type}{R:α->β->Prop}
theorem bD:∀{l:List α} {m:List β},Paired R l m->∀b∈m,∃a∈l,R a b
 |_,_,.cons h t,b,hb=>by
  rcases zzm.1 hb with rfl|hb
  ·exact⟨_,zzP ..,h⟩
  ·obtain⟨a,h1,h2⟩:=bD t b hb
   exact⟨a,zzI _ h1,h2⟩
theorem dE:∀{l:List α} {m:List β},Paired R l m->∀a∈l,∃b∈m,R a b
 |_,_,.cons h t,b,hb=>by
  rcases zzm.1 hb with rfl|hb
  ·exact⟨_,zzP ..,h⟩
  ·obtain⟨a,h1,h2⟩:=dE t b hb
   exact⟨a,zzI _ h1,h2⟩
theorem lY{S:α->α->Prop}{T:β->β->Prop}(h:∀a a' b b',R a b->R a' b'->S a a'->T b b'):∀{l:List α} {m:List β},Paired R l m->l.Pairwise S->m.Pairwise T
 |_,_,.nil,_=>.nil
 |_,_,.cons r t,p=>by
  obtain⟨p1,p2⟩:=List.pairwise_cons.1 p
  refine List.pairwise_cons.2 ⟨λb hb=>?_,lY h t p2⟩
  obtain⟨a,h1,h2⟩:=bD t b hb
  exact h _ _ _ _ r h2 (p1 a h1)
end
structure LU(z TI TO:Addr)(qs:List Zs):Prop where
 tz:TI≠z/\TO≠z/\TI≠TO
 ne:qs≠[]
 len:qs.length<=9
 it:∀q∈qs,q.it≠z/\q.it≠TO/\q.it≠TI
 a:∀q∈qs,q.a≠z/\q.a≠TO/\∀r∈qs,q.a≠r.it
 pw:qs.Pairwise λa b=>a.it≠b.it
def O7(z TI TO:Addr)(qs:List Zs)(i:Nat)(h:Heap):Prop:=IsZip h z TI TO .none/\fC h TI (qs.map λq=>Value.ref q.it).toArray/\(∃c,fC h TO c/\c.size=qs.length)/\∀q∈qs,q.iter i h
def wZ{prog:Program}{w:World}{A:Around}{i:Nat}{h:Heap}{z TI TO:Addr}{qs:List Zs}{ds:List Zd}(Z:LU z TI TO qs)(p:Paired (xl prog w A i h) qs ds):Gw prog w A z TI TO ds where
 D:=λd hd=>by obtain⟨q,_,r⟩:=bD p d hd;exact r.D
 zf:=λd hd=>by
  obtain⟨q,hq,r⟩:=bD p d hd
  obtain⟨a1,a2,a3⟩:=Z.it q hq
  obtain⟨b1,b2,_⟩:=Z.a q hq
  rw [r.fp,r.it];simp! [zzm,List.not_mem_nil,or_false,not_or];exact⟨⟨Ne.symm a1,Ne.symm b1⟩,⟨Ne.symm a2,Ne.symm b2⟩,a1,a2,a3⟩
 ap:=by
  have q:qs.Pairwise λa b=>a.it≠b.it/\a.it≠b.a/\b.it≠a.a:=by
   refine List.Pairwise.imp_of_mem (λ{a b} ha hb h=>⟨h,λz=>(Z.a b hb).2.2 a ha z.symm,λz=>(Z.a a ha).2.2 b hb z.symm⟩) Z.pw
  refine lY (λa a' b b' r r' ⟨h1,h2,h3⟩=>?_) p q;rw [r.fp,r'.fp,r.it,r'.it];simp! [zzm,List.not_mem_nil,or_false,not_or];exact⟨⟨h1,h2⟩,Ne.symm h1,h3⟩
 tz:=Z.tz
theorem fP{prog:Program}{w:World}{A:Around}{i:Nat}{h:Heap}:∀{qs:List Zs} {ds:List Zd},Paired (xl prog w A i h) qs ds->(qs.map λq=>Value.ref q.it)=ds.map λd=>Value.ref d.it
 |_,_,.nil=>rfl
 |_,_,.cons r t=>by rw [zzF,zzF,r.it,fP t]
theorem j0{prog:Program}{w:World}{A:Around}{i:Nat}{h:Heap}:∀{qs:List Zs} {ds:List Zd} {us:List Value},Paired (xl prog w A i h) qs ds->Paired (λd x=>d.P i x) ds us->∃ys,Vals ys us/\Paired (λ(q:Zt) y=>q.2.2[i]?=some y) (qs.map Zs.t) ys
 |_,_,_,.nil,.nil=>⟨[],.nil,.nil⟩
 |_,_,_,.cons r t,.cons u v=>by
  obtain⟨x,h1,h2⟩:=r.val i _ u
  obtain⟨ys,h3,h4⟩:=j0 t v
  exact⟨x::ys,.cons h1 h3,.cons h2 h4⟩
def ux{P:Program}{w:World}{K:zz8}{elts:List Expr}{x1:Nat}{pos:Pos}{z TI TO:Addr}{qs:List Zs}(Z:LU z TI TO qs):
 Turn P w K (.Tuple elts x1 pos) (Ku K (qs.map Zs.t)) (z::TI::TO::qs.map (·.it)) z (O7 z TI TO qs) where
 mem:=by simp
 obj:=λi h st c hc=>by
  obtain⟨q1,q2,⟨_,q3,_⟩,q4⟩:=st
  simp! [zzm,zzx] at hc;rcases hc with rfl|rfl|rfl|⟨q,hq,rfl⟩
  ·exact⟨_,q1,λv q=>by cases q⟩
  ·exact⟨_,q2,λv q=>by cases q⟩
  ·exact⟨_,q3,λv q=>by cases q⟩
  ·exact Zs.oQ (q4 q hq)
 keep:=λi h h' st k=>by
  obtain⟨q1,q2,⟨c,q3,q5⟩,q4⟩:=st
  exact⟨k z (by simp) _ q1,k TI (by simp) _ q2,⟨c,k TO (by simp) _ q3,q5⟩,λq hq=>Zs.rP (q4 q hq) λo e=>k q.it (by simp;exact .inr (.inr (.inr ⟨q,hq,rfl⟩))) o e⟩
 item:=by
  intro X hP hw hK hc i aa s σ H E I hf st hg;subst hP hw hK;replace hg:∀q∈qs,q.sq X.K H/\i<q.xs.length:=λq hq=>hg q.t (List.mem_map_of_mem hq)
  obtain⟨q1,q2,⟨c,q3,q5⟩,q4⟩:=st
  obtain⟨ds,pd⟩:=qz hc I λq hq=>⟨(Z.a q hq).2.2 q hq,(hg q hq).1,q4 q hq⟩
  have hT:s.TypeIs (.ref z) "zip":=⟨_,q1,rfl⟩
  have len:=Paired.length pd
  have jb:H (zz9 s)=none:=I.aU.fresh (zzE _)
  have lt:∀b∈z::TI::TO::qs.map (·.it),b<(zz9 s):=λb hb=>by
   simp! [zzm,zzx] at hb;rcases hb with rfl|rfl|rfl|⟨q,hq,rfl⟩
   ·exact zzO q1
   ·exact zzO q2
   ·exact zzO q3
   ·obtain⟨o,ho,_⟩:=Zs.oQ (q4 q hq);exact zzO ho
  unfold pyNext;refine zzA (wpAny_attempt (wpAny_callSpecial?_slot (name:=Str.ofString "__next__") hT PySem.F.slot_zip_next (wpAny_call_entry PySem.F.slot_zip_next hT PySem.F.entry_zip_next
   (pf (k:=i) (wZ Z pd) (by rw [<-len];exact Z.len) (by have:=Z.ne;intro e;subst e;cases pd;exact this rfl) q1 (by rw [<-fP pd];exact q2) ⟨c,q3,by rw [<-len];exact q5⟩ (λd hd=>by obtain⟨q,hq,r⟩:=bD pd d hd;exact⟨r.st,by rw [r.n];exact Nat.le_of_lt (hg q hq).2⟩)
    (λh' tk us pu z1 z2 z3 z4 z5 kk=>⟨_,rfl,zzG ?_⟩) λh' tk e hex _ _=>?_) (PySem.F.args_zip_next_1 _))))
  ·obtain⟨ys,rv,py⟩:=j0 pd pu
   have Lx:∀b∈z::TO::qs.map (·.it),gg X aa H b:=λb hb=>hf b (by simp! [zzm] at hb⊢;rcases hb with h|h|h<;>simp [h])
   have I1:=Inv.wA (tk:=tk) (xs:=ys) I Lx (λb o hb e=>kk b o (λq=>hb (by simp [q])) (λq=>hb (by simp [q])) (λd hd q=>hb (by obtain⟨q',qC,r⟩:=bD pd d hd;simp! [zzm,zzx];exact .inr (.inr ⟨q',qC,by rw [q,r.it]⟩))) e) z4 rfl rfl rv (zzU (m:=9) (by have h1:=Paired.length py;have:=Z.len;rw [zzl] at h1;omega) (by decide))
   refine⟨_,rfl,wpAny_letOwnedTupleGo_zip z1 λh2 Jq sb=>?_⟩
   obtain⟨f0,f1,f2,f3,f4,f5⟩:=hf z (by simp)
   have nz:z≠(zz9 s):=zzb (lt z (by simp))
   refine⟨.ref (zz9 s),_,I1.turned (t':=tk) (it:=z) (λb o hb q=>sb.extBut b o hb q) (by rw [af nz];exact f0) f1 f3 f4 f5,rfl,⟨_,_,rfl,jb,rfl,py⟩,⟨Jq,?_,?_,λq hq=>?_⟩,λb hb=>?_⟩
   ·exact sb.extBut _ _ Z.tz.1 (kk _ _ Z.tz.1 Z.tz.2.2 (λd hd=>by obtain⟨q,hq,r⟩:=bD pd d hd;rw [r.it];exact Ne.symm (Z.it q hq).2.2) q2)
   ·obtain⟨c',e1,e2⟩:=z2
    exact⟨c',sb.extBut _ _ Z.tz.2.1 e1,by rw [e2,len]⟩
   ·obtain⟨d,hd,r⟩:=dE pd q hq
    exact Zs.rP (r.back _ _ (z3 d hd)) λo e=>sb.extBut _ _ (Z.it q hq).1 e
   ·rw [af (zzb (lt b hb))];exact(hf b hb).1
  ·obtain⟨d,hd,hn⟩:=hex
   obtain⟨q,hq,r⟩:=bD pd d hd
   have:=(hg q hq).2
   rw [r.n] at hn;omega
 done:=by
  intro X hP hw hK hc i aa s σ H E I hf st hg;subst hP hw hK;obtain⟨hg,t0,ht0,Mw⟩:=hg
  replace hg:∀q∈qs,q.sq X.K H/\i<=q.xs.length:=λq hq=>hg q.t (List.mem_map_of_mem hq)
  obtain⟨q1,q2,⟨c,q3,q5⟩,q4⟩:=st
  obtain⟨ds,pd⟩:=qz hc I λq hq=>⟨(Z.a q hq).2.2 q hq,(hg q hq).1,q4 q hq⟩
  have hT:s.TypeIs (.ref z) "zip":=⟨_,q1,rfl⟩
  have len:=Paired.length pd
  unfold pyNext;refine zzA (wpAny_attempt (wpAny_callSpecial?_slot (name:=Str.ofString "__next__") hT PySem.F.slot_zip_next (wpAny_call_entry PySem.F.slot_zip_next hT PySem.F.entry_zip_next
   (pf (k:=i) (wZ Z pd) (by rw [<-len];exact Z.len) (by have:=Z.ne;intro e;subst e;cases pd;exact this rfl) q1 (by rw [<-fP pd];exact q2) ⟨c,q3,by rw [<-len];exact q5⟩ (λd hd=>by obtain⟨q,hq,r⟩:=bD pd d hd;exact⟨r.st,by rw [r.n];exact(hg q hq).2⟩)
    (λh' tk us pu z1 z2 z3 z4 z5 kk=>?_) λh' tk e hex kk he=>?_) (PySem.F.args_zip_next_1 _))))
  ·obtain⟨ys,rv,py⟩:=j0 pd pu
   obtain⟨y,_,hy⟩:=dE py t0 ht0
   have:=(zzH.1 hy).1
   omega
  ·obtain⟨o,ho,kP⟩:=he
   refine zzA (wpAny_isInstance (T:="StopIteration") (b:=true) ⟨o,ho,kP⟩ isSubtype_stop ?_);have Lx:∀b∈z::TO::qs.map (·.it),gg X aa H b:=λb hb=>hf b (by simp! [zzm] at hb⊢;rcases hb with h|h|h<;>simp [h])
   exact zzG ⟨rfl,Inv.moved (tk:=tk) I Lx λb o hb e=>kk b o (λq=>hb (by simp [q])) (λq=>hb (by simp [q])) (λd hd q=>hb (by obtain⟨q',qC,r⟩:=bD pd d hd;simp! [zzm,zzx];exact .inr (.inr ⟨q',qC,by rw [q,r.it]⟩))) e⟩
 self:=λ_ _ _ _ _ st h=>wpAny_pyIter_zip st.1 h
def jn(a b c:Value):checkTypeCall "zip" ⟨[a,b,c],[]⟩=pure ():=by kernel_rfl
def kI(a b c:Value):checkBuiltinCall "zip.__new__" ⟨[.type "zip",a,b,c],[]⟩=pure ():=by kernel_rfl
def fE(a b c d:Value):argsOk "object.__init__" ⟨[a,b,c,d],[]⟩:=by
 unfold argsOk;rw [signature?_of (n:=['_','_','t','i','n','i','_','_']) (by kernel_rfl) PySem.F.owner_object]
 kernel_rfl
def Src(h:Heap)(b:Bool)(a:Addr):Prop:=if b=true then∃ae,h.IsList a ae else∃ae,h.IsTuple a ae
noncomputable def O5(b:Bool):String:=if b=true then "list_iterator" else "tuple_iterator"
def Src.push{h:Heap}{b:Bool}{a:Addr}(q:Src h b a)(o:Obj):Src (h.push o) b a:=by
 unfold Src at q⊢;split
 ·rename_i e;rw [if_pos e] at q;obtain⟨ae,q⟩:=q;exact⟨ae,q.push o⟩
 ·rename_i e;rw [if_neg e] at q;obtain⟨ae,o',e1,r⟩:=q;exact⟨ae,o',zzB _ e1,r⟩
noncomputable def Gr(b:Bool)(a:Addr):Obj:={cls:=.type (O5 b),data:=.fields #[.ref a,.int 0 0]}
section
variable{prog:Program}{w:World}{A:Around}{E:Value->Shared->Prop}{s:Shared}
def qM{b:Bool}{a:Addr}{Q:Value->Shared->Prop}(h:Src s.heap b a)(q:Q (.ref (zz9 s)) {s with heap:=s.heap.push (Gr b a)}):wpAny (model prog w) A (pyIter (.ref a)) Q E s:=by
 cases b with
 |true=>obtain⟨ae,h⟩:=h;exact wpAny_pyIter_list h q
 |false=>obtain⟨ae,h⟩:=h;exact wpAny_pyIter_tuple h q
end
noncomputable def eE(h:Heap)(qs:List (Bool×Addr)):Heap:=qs.foldl (λg q=>g.push (Gr q.1 q.2)) h
def fO(qs:List (Bool×Addr)):∀h:Heap,(eE h qs).objs.size=h.objs.size+qs.length:=by
 induction qs with
 |nil=>exact λh=>rfl
 |cons q qs ih=>intro h;rw [eE,List.foldl_cons,<-eE,ih,Heap.size_push,zzL];omega
section
variable{prog:Program}{w:World}{A:Around}{E:Value->Shared->Prop}{s:Shared}
def pK{Q:List Value->Shared->Prop}:∀(qs:List (Bool×Addr)),(∀q∈qs,Src s.heap q.1 q.2)->Q ((List.range qs.length).map λi=>Value.ref ((zz9 s)+i)) {s with heap:=eE s.heap qs}->
 wpAny (model prog w) A (Builtin.SmallTypes.iterAll (qs.map λq=>Value.ref q.2)) Q E s:=by
 intro qs hq h;unfold Builtin.SmallTypes.iterAll;refine zzA ?_;refine wpAny_forIn_list _ (λrest (b:Array Value) s'=>∃dn lf,qs=dn++lf/\rest=lf.map (λq=>Value.ref q.2)/\b.toList=(List.range dn.length).map (λi=>Value.ref ((zz9 s)+i))/\s'={s with heap:=eE s.heap dn}) _ ?_ ?_ _ _ ⟨[],qs,rfl,rfl,rfl,rfl⟩
 ·rintro x rest b s' ⟨dn,lf,rfl,hr,hb,rfl⟩
  cases lf with
  |nil=>cases hr
  |cons q lf=>
   simp! [zzF,List.cons.injEq] at hr;obtain⟨rfl,rfl⟩:=hr
   have hs:∀(l:List (Bool×Addr)) (g:Heap),Src g q.1 q.2->Src (eE g l) q.1 q.2:=λl=>by
    induction l with
    |nil=>exact λg h=>h
    |cons r l ih=>exact λg h=>ih _ (h.push _)
   refine zzA (wpAny_holding (qM (hs dn _ (hq q (by simp))) ?_));refine zzG ⟨dn++[q],lf,by simp,rfl,?_,?_⟩
   ·rw [Array.toList_push,hb,zzM,List.length_singleton,List.range_succ,List.map_append];simp [fO]
   ·simp [eE,List.foldl_append]
 ·rintro b s' ⟨dn,lf,rfl,hr,hb,rfl⟩
  obtain rfl:lf=[]:=by cases lf with|nil=>rfl|cons q lf=>cases hr
  refine zzG ?_;rw [hb]
  simpa using h
end
theorem nH{h:Heap}{o:Obj}{n:Addr}(e:h.objs.size=n)(f:o.isFreed=false:=by rfl):(h.push o).get? n=some o:=e▸zzX h f
noncomputable def dY(h:Heap)(qs:List (Bool×Addr)):Heap:=
 (((eE h qs).push {cls:=.type "tuple",data:=.seq ((List.range qs.length).map λi=>Value.ref (h.objs.size+i)).toArray}).push {cls:=.type "tuple",data:=.seq (((List.range qs.length).map λi=>Value.ref (h.objs.size+i)).map λ_=>Value.none).toArray}).push
   {cls:=.type "zip",data:=.fields #[.none,.bool false,.bool false,.ref (h.objs.size+qs.length),.ref (h.objs.size+qs.length+1)]}
theorem wM(qs:List (Bool×Addr))(hl:qs.length<=9):
 Meets (Builtin.«zip.__new__» ⟨.type "zip"::qs.map (λq=>Value.ref q.2),[]⟩) (λ_ R s=>(∀q∈qs,Src s.heap q.1 q.2)/\R (.ok (.ret (.ref ((zz9 s)+qs.length+2)))) {s with heap:=dY s.heap qs}):=
 .of_wp λprog w A R s h=>by
  obtain⟨hs,h⟩:=h
  have JU:=sub_zip
  have fit:∀l:List Value,l.length=qs.length->l.length<=sizeLine:=λl e=>zzU (m:=9) (by omega) (by decide)
  show wpAny _ _ (Builtin.SmallTypes.newClass "zip" _>>=_) _ _ s
  unfold Builtin.SmallTypes.newClass
  wp_walk using pK qs hs
  rw [if_neg (by rw [zzC];exact Nat.not_lt.2 (fit _ (by simp)))]
  wp_walk
  rw [if_neg (by rw [zzC];exact Nat.not_lt.2 (fit _ (by simp)))]
  wp_walk
  refine⟨_,rfl,?_⟩;simp! [Heap.size_push,fO];exact h
def mm(qs:List (Bool×Addr)):∀(h:Heap) (c:Addr) (o:Obj),h.get? c=some o->(eE h qs).get? c=some o:=by
 induction qs with
 |nil=>exact λh c o e=>e
 |cons q qs ih=>exact λh c o e=>ih _ c o (zzB _ e)
theorem pO:∀(qs:List (Bool×Addr)) (h:Heap) (i:Nat) (q:Bool×Addr),qs[i]?=some q->(eE h qs).get? (h.objs.size+i)=some (Gr q.1 q.2)
 |q::qs,h,0,r,e=>by
  cases e;exact mm qs _ _ _ (zzX _ rfl)
 |q::qs,h,i+1,r,e=>by
  have:=pO qs (h.push (Gr q.1 q.2)) i r (by simpa using e)
  rw [Heap.size_push] at this;rw [show h.objs.size+(i+1)=h.objs.size+1+i by omega];exact this
section
variable{prog:Program}{w:World}{A:Around}{E:Value->Shared->Prop}{s:Shared}
def vp{qs:List (Bool×Addr)}{Q:Value->Shared->Prop}(hl:qs.length<=9)(hs:∀q∈qs,Src s.heap q.1 q.2)(h1:checkTypeCall "zip" ⟨qs.map (λq=>Value.ref q.2),[]⟩=pure ())(h2:checkBuiltinCall "zip.__new__" ⟨.type "zip"::qs.map (λq=>Value.ref q.2),[]⟩=pure ())(h3:∀obj,argsOk "object.__init__" ⟨obj::qs.map (λq=>Value.ref q.2),[]⟩)
 (h:IsZip (dY s.heap qs) ((zz9 s)+qs.length+2) ((zz9 s)+qs.length) ((zz9 s)+qs.length+1) .none->fC (dY s.heap qs) ((zz9 s)+qs.length) ((List.range qs.length).map λi=>Value.ref ((zz9 s)+i)).toArray->(∃c,fC (dY s.heap qs) ((zz9 s)+qs.length+1) c/\c.size=qs.length)->
  (∀i q,qs[i]?=some q->(dY s.heap qs).get? ((zz9 s)+i)=some (Gr q.1 q.2))->(∀c o,s.heap.get? c=some o->(dY s.heap qs).get? c=some o)->Q (.ref ((zz9 s)+qs.length+2)) {s with heap:=dY s.heap qs}):
 wpAny (model prog w) A (call (.type "zip") (qs.map λq=>Value.ref q.2)) Q E s:=by
 have z0:=fO qs s.heap
 have up:∀c o,(eE s.heap qs).get? c=some o->(dY s.heap qs).get? c=some o:=λc o e=>zzB _ (zzB _ (zzB _ e))
 have g5:IsZip (dY s.heap qs) ((zz9 s)+qs.length+2) ((zz9 s)+qs.length) ((zz9 s)+qs.length+1) .none:=nH (by rw [Heap.size_push,Heap.size_push,z0])
 have g3:fC (dY s.heap qs) ((zz9 s)+qs.length) ((List.range qs.length).map λi=>Value.ref ((zz9 s)+i)).toArray:=zzB _ (zzB _ (nH z0))
 have g4:fC (dY s.heap qs) ((zz9 s)+qs.length+1) (((List.range qs.length).map λi=>Value.ref ((zz9 s)+i)).map λ_=>Value.none).toArray:=zzB _ (nH (by rw [Heap.size_push,z0]))
 exact callType_new PySem.F.called_zip (by decide) h1 h2 h3 PySem.F.entry_zip_new (wM qs hl) ⟨hs,⟨_,g5,rfl⟩,h g5 g3 ⟨_,g4,by simp⟩ (λi q e=>up _ _ (pO qs _ i q e)) λc o e=>up _ _ (mm qs _ c o e)⟩
end
theorem lq:∀{ts:List Zt} {us:List Value},Vals (ts.map λt=>V.ref t.2.1) us->us=ts.map λt=>Value.ref t.2.1
 |[],_,.nil=>rfl
 |t::ts,_,.cons h r=>by
  cases h;rw [lq r]
  rfl
section
variable{X:Cx}{elts:List Expr}{x1:Nat}{iD:Pos}
noncomputable def Jc(K:zz8)(ta:TA):TI:=λσ H R=>ta σ H λvs H1=>∃ts:List Zt,vs=ts.map (λt=>.ref t.2.1)/\(ts.length=2\/ts.length=3)/\(∀t∈ts,Zq K H1 t)/\R (Ku K ts) H1
def Aj{e:Expr}{es:List Expr}{ta:TA}{p pos:Pos}(hg:Gl X "zip")(hm:X.mg "zip"=none)(ha:PA X (e::es) ta)(he:starEach (e::es) X.env=(false,eval e X.env)::starEach es X.env)(hp:(backTo pos (starEach es X.env)).any (·.1)=false):
 PI X (.Tuple elts x1 iD) (.Call (.Name "zip" p) (e::es) [] pos) (Jc X.K ta):=by
 intro aa s σ H R I h;refine Call_ (c6 I hg hm (show bootBuiltins "zip"=some (.type "zip") by decide+kernel) (PyProof.Rows.callWith_type1 (bh (ha pos aa s σ H _ I h) λus s1 ⟨vs,H1,I1,r1,q1⟩=>?_) he hp))
 obtain⟨ts,rfl,hn,hq,q⟩:=q1
 obtain rfl:=lq r1
 have l9:ts.length<=9:=by omega
 have lm:(ts.map λt=>(t.1,t.2.1)).length=ts.length:=zzl ..
 have em:(ts.map λt=>Value.ref t.2.1)=(ts.map λt=>(t.1,t.2.1)).map λq=>Value.ref q.2:=by rw [List.map_map];rfl
 have src:∀t∈ts,Src s1.heap t.1 t.2.1/\t.2.1<(zz9 s1):=λt ht=>by
  have:=hq t ht
  unfold Zq at this;unfold Src;cases hb:t.1 with
  |true=>
   rw [if_pos hb] at this;obtain⟨ae,_,pl,_⟩:=I1.list this
   exact⟨⟨_,pl.isList⟩,by obtain⟨_,e,_⟩:=pl.isList;exact zzO e⟩
  |false=>
   rw [if_neg (by rw [hb];exact zzf)] at this;obtain⟨ae,_,pl,_⟩:=I1.tuple this
   exact⟨⟨_,pl⟩,by obtain⟨_,e,_⟩:=pl;exact zzO e⟩
 have go:∀l,(l=2\/l=3)->ts.length=l->checkTypeCall "zip" ⟨ts.map (λt=>Value.ref t.2.1),[]⟩=pure ()/\checkBuiltinCall "zip.__new__" ⟨.type "zip"::ts.map (λt=>Value.ref t.2.1),[]⟩=pure ()/\∀obj,argsOk "object.__init__" ⟨obj::ts.map (λt=>Value.ref t.2.1),[]⟩:=λl hl e=>by
  rcases hl with rfl|rfl
  ·match ts,e with
   |[a,b],_=>exact⟨PySem.F.typeCall_zip_2 _ _,PySem.F.newCall_zip_2 _ _,λobj=>PySem.F.args_object_init_3 obj _ _⟩
  ·match ts,e with
   |[a,b,c],_=>exact⟨jn _ _ _,kI _ _ _,λobj=>fE obj _ _ _⟩
 obtain⟨c1,c2,c3⟩:=go _ hn rfl
 rw [em] at c1 c2 c3⊢;refine vp (by rw [lm];exact l9) (λq qC=>by obtain⟨t,ht,rfl⟩:=zzx.1 qC;exact(src t ht).1) c1 c2 c3 λa1 a2 a3 a4 kk=>wpAny_pyIter_zip a1 ?_
 rw [lm] at a1 a2 a3;have I2:Inv X aa σ H1 {s1 with heap:=dY s1.heap (ts.map λt=>(t.1,t.2.1))}:=I1.kept (t':=s1.toks) kk
 have eqs:(ts.zipIdx.map λp=>(⟨(zz9 s1)+p.2,p.1.1,p.1.2.1,p.1.2.2⟩:Zs)).map Zs.t=ts:=by
  rw [List.map_map];refine List.ext_getElem (by simp) λi h1 h2=>?_
  simp [Zs.t]
 have mq:∀q∈ts.zipIdx.map λp=>(⟨(zz9 s1)+p.2,p.1.1,p.1.2.1,p.1.2.2⟩:Zs),∃i,i<ts.length/\ts[i]?=some q.t/\q.it=(zz9 s1)+i:=λq qC=>by
  obtain⟨⟨t,i⟩,K4,rfl⟩:=zzx.1 qC
  have:=List.mem_zipIdx_iff_getElem?.1 K4
  exact⟨i,(zzH.1 this).1,this,rfl⟩
 have Z:LU ((zz9 s1)+ts.length+2) ((zz9 s1)+ts.length) ((zz9 s1)+ts.length+1) (ts.zipIdx.map λp=>(⟨(zz9 s1)+p.2,p.1.1,p.1.2.1,p.1.2.2⟩:Zs)):=by
  refine⟨⟨zzb (by show _<_;omega),zzb (by show _<_;omega),zzb (by show _<_;omega)⟩,λz=>?_,by simpa using l9,λq qC=>?_,λq qC=>?_,?_⟩
  ·have:=congrArg List.length z
   simp! [zzl,List.length_zipIdx,List.length_nil] at this;omega
  ·obtain⟨i,h1,_,h3⟩:=mq q qC
   rw [h3];exact⟨zzb (by show _<_;omega),zzb (by show _<_;omega),zzb (by show _<_;omega)⟩
  ·obtain⟨i,h1,h2,h3⟩:=mq q qC
   have h4:q.a<(zz9 s1):=(src q.t (zzD h2)).2
   refine⟨zzb (zzW h4 (by show _<=_;omega)),zzb (zzW h4 (by show _<=_;omega)),λr hr=>?_⟩
   obtain⟨j,_,_,h5⟩:=mq r hr
   rw [h5];exact zzb (zzW h4 (by show _<=_;omega))
  ·refine List.pairwise_map.2 ?_;refine List.pairwise_iff_getElem.2 λi j hi hj uq=>?_
   simp! [List.getElem_zipIdx];exact zzb (by show _<_;omega)
 have T:=ux (P:=X.prog) (w:=X.w) (K:=X.K) (elts:=elts) (x1:=x1) (pos:=iD) Z
 rw [eqs] at T;refine⟨_,_,_,_,H1,by rw [lm],I2,T,⟨a1,?_,?_,λq qC=>?_⟩,λb hb=>?_,q⟩
 ·have:(ts.zipIdx.map λp=>(⟨(zz9 s1)+p.2,p.1.1,p.1.2.1,p.1.2.2⟩:Zs)).map (λq=>Value.ref q.it)=(List.range ts.length).map λi=>Value.ref ((zz9 s1)+i):=by
   refine List.ext_getElem (by simp) λi h1 h2=>?_
   simp
  rw [this];exact a2
 ·obtain⟨c,h1,h2⟩:=a3
  exact⟨c,h1,by simpa using h2⟩
 ·obtain⟨i,h1,h2,h3⟩:=mq q qC
  have:=a4 i (q.b,q.a) (by rw [zzQ,h2];rfl)
  unfold Zs.iter;rw [h3];cases hb:q.b with
  |true=>rw [hb] at this;exact⟨_,this,rfl,rfl⟩
  |false=>rw [hb] at this;exact⟨_,this,rfl,rfl⟩
 ·have kq:(zz9 s1)<=b:=by
   simp! [zzm,zzx] at hb;rcases hb with e|e|e|⟨q,qC,e⟩
   ·rw [e];exact zzU (Nat.le_add_right _ _) (Nat.le_add_right _ _)
   ·rw [e];exact Nat.le_add_right _ _
   ·rw [e];exact zzU (Nat.le_add_right _ _) (Nat.le_add_right _ _)
   ·obtain⟨i,_,_,h3⟩:=mq q (zzx.2 qC)
    rw [<-e,h3];exact Nat.le_add_right _ _
  exact I1.kJ kq (I1.aU.fresh kq)
end
section
def HD(xs:List V)(P:V->Prop):Prop:=match xs with
 |[x]=>P x
 |_=>False
def AW{xs:List V}{P:V->Prop}(h:HD xs P):∃x,xs=[x]/\P x:=by
 cases xs with
 |nil=>exact h.elim
 |cons x r=>
  cases r with
  |nil=>exact⟨x,rfl,h⟩
  |cons _ _=>exact h.elim
def xD{vs:List V}{us:List Value}(r:Vals vs us):Vals vs.reverse us.reverse:=by
 induction r with
 |nil=>exact .nil
 |cons h t ih=>
  rw [List.reverse_cons,List.reverse_cons];exact ih.append (.cons h .nil)
end
end L2
namespace Ci
open PySem L2
structure Hs where
 f:Str
 h:Str
 g:Str
 idx:List Nat
 np:Nat
structure Pg where
 gs:List (Str×PV)
 bs:List Str
 cs:List Str
 fs:List Str
 rs:List Str
 hs:List Hs:=[]
 hl:Bool:=false
 qt:Bool:=false
 qs:List Str:=[]
noncomputable def nq(Γ:Pg)(b:Bool):Bool:=b&&!Γ.qt
def j4{Γ:Pg}{b:Bool}(h:nq Γ b=true):Γ.qt=false/\b=true:=by
 unfold nq at h;rw [zza,Bool.not_eq_true'] at h;exact⟨h.2,h.1⟩
noncomputable def ft(sc:Scope)(x:Str):Bool:=sc.names.lookup x==some .local||sc.names.lookup x==some .cell
noncomputable def eN(sc:Scope)(x:Str):Bool:=ft sc x||sc.names.lookup x==some .free
noncomputable def fL(sc:Scope)(x:Str):Bool:=sc.names.lookup x==some .globalImplicit
noncomputable def litS:List PV->List PV->Bool
 |[],[]=>true
 |.str x::xs,.str y::ys=>x==y&&litS xs ys
 |_,_=>false
noncomputable def r9:PV->PV->Bool
 |.int i,.int j=>i==j
 |.str x,.str y=>x==y
 |.tup xs,.tup ys=>litS xs ys
 |_,_=>false
theorem litS_eq:∀{xs ys:List PV},litS xs ys=true->xs=ys
 |[],[],_=>rfl
 |.str x::xs,.str y::ys,h=>by
  unfold litS at h;rw [zza] at h;rw [zzy.mp h.1,litS_eq h.2]
def xK{p q:PV}(h:r9 p q=true):p=q:=by
 unfold r9 at h;split at h
 ·rw [zzy.mp h]
 ·rw [zzy.mp h]
 ·rw [litS_eq h]
 ·cases h
noncomputable def bN:B->Str
 |.len=>"len"|.int=>"int"|.str=>"str"|.list=>"list"|.tuple=>"tuple"|.all=>"all"|.sum=>"sum"|.sorted=>"sorted"
noncomputable def mN:M->Str
 |.bY=>"count"|.join=>"join"
noncomputable def fV:E->Bool
 |.AH _=>false
 |_=>true
noncomputable def iy:Es->Bool
 |.nil=>true
 |.cons e es=>fV e&&iy es
noncomputable def Az:I->Bool
 |.seq e=>fV e
 |.rn _=>true
 |.ng _ _=>true
 |.enum e=>fV e
 |.zip _=>true
noncomputable def isNil:Es->Bool
 |.nil=>true
 |_=>false
noncomputable def dZ:Es->Nat
 |.nil=>0
 |.cons _ es=>dZ es+1
noncomputable def Fm:Expr->Option (List Expr)
 |.Tuple es _ _=>some es
 |_=>none
def tK{e:Expr}{es:List Expr}(h:Fm e=some es):∃k p,e=.Tuple es k p:=by
 cases e with
 |Tuple es k p=>cases h;exact⟨_,_,rfl⟩
 |_=>exact iw h
noncomputable def uF{α:Type}:List α->Option (α×α)
 |[a,b]=>some (a,b)
 |_=>none
def zu{α:Type}{ts:List α}{q:α×α}(h:uF ts=some q):ts=[q.1,q.2]:=by
 cases ts with
 |nil=>exact iw h
 |cons a ts=>
  cases ts with
  |nil=>exact iw h
  |cons b ts=>
   cases ts with
   |cons _ _=>exact iw h
   |nil=>cases h;rfl
noncomputable def K0(N:List Str)(sc:Scope)(fn:Str->Bool)(i:Nat)(p:Expr):Bool:=(fm p).any λx=>N[i]?==some x&&ft sc x&&(fn x||sc.names.lookup x==some .local)
noncomputable def CP(N:List Str)(sc:Scope)(fn:Str->Bool):List Nat->List Expr->Bool
 |i::is,a::as=>K0 N sc fn i a&&CP N sc fn is as
 |[],[]=>true
 |_,_=>false
noncomputable def fy(N:List Str)(sc:Scope)(fn:Str->Bool):Tg->Expr->Bool
 |.one i,p=>K0 N sc fn i p
 |.two i j,p=>(Fm p).any (CP N sc fn [i,j])
noncomputable def aA:Expr->List Str
 |.Name x _=>[x]
 |.Tuple [.Name x _,.Name y _] _ _=>[x,y]
 |.Tuple [.Name x _,.Name y _,.Name z _] _ _=>[x,y,z]
 |.Tuple [.Name x _,.Tuple [.Name y _,.Name z _] _ _] _ _=>[x,y,z]
 |_=>[]
noncomputable def cm(scope sc:Scope):Scope:=
 {scope with names:=scope.names.map λ(n,k)=>if(k==.free&&sc.kind==.function&&sc.names.lookup n==some .cell) then(n,.cell) else(n,k)}
noncomputable def freeOf(scope:Scope):List Str:=((scope.names.filter λp=>p.2==.free).map (·.1)).reverse
noncomputable def tq(N:List Str)(sc scope:Scope)(k:Nat)(bP:List Nat)(xs:List Str):Bool:=
 scope.kind==.function&&xs.length==k&&decide ((xs++freeOf scope).Nodup)
 &&(scope.names.all λy=>(decide (y.2≠.cell)||!(freeOf scope).contains y.1)&&(decide (y.2≠.free)||(freeOf scope).contains y.1))
 &&(scope.names.all λy=>decide (y.2≠.cell)||decide (scope.names.lookup y.1=some .cell))
 &&(scope.names.all λy=>decide (y.2≠.local)||decide (scope.names.lookup y.1=some .local))
 &&decide (bP.map (λi=>N[i]?)=(freeOf scope).map some)
 &&((freeOf scope).all λy=>decide (sc.names.lookup y=some .cell))
 &&((freeOf scope).all λy=>decide ((cm scope sc).names.lookup y=some .cell))
noncomputable def jz(k:Nat):Tg->Bool
 |.one i=>decide (i<k)
 |.two i j=>decide (i<k)&&decide (j<k)
noncomputable def fi:E->Bool
 |.ite _ _ _=>false
 |.not a=>fi a
 |.and a b=>fi a&&fi b
 |.or a b=>fi a&&fi b
 |_=>true
noncomputable def isTup:Expr->Bool
 |.Tuple .. =>true
 |_=>false
noncomputable abbrev Pg.yM(Γ:Pg):Pg:={Γ with hl:=false}
def pY{α β:Type}{o:Option α}{f:α->Option β}{b:β}(h:o.bind f=some b):∃a,o=some a/\f a=some b:=zzZ.1 h
def if1{α:Type}{c:Bool}{a b:α}(h:(if c=true then some a else none)=some b):c=true/\a=b:=by
 cases c with
 |true=>cases h;exact⟨rfl,rfl⟩
 |false=>exact iw h
noncomputable def eV{α:Type}:List α->Option α
 |[t]=>some t
 |_=>none
def e9{α:Type}{ts:List α}{t:α}(h:eV ts=some t):ts=[t]:=by
 cases ts with
 |nil=>exact iw h
 |cons a ts=>
  cases ts with
  |cons _ _=>exact iw h
  |nil=>cases h;rfl
noncomputable def JL:Expr->Option (Expr×Str×Pos)
 |.Attribute o m p=>some (o,m,p)
 |_=>none
def ql{e:Expr}{q:Expr×Str×Pos}(h:JL e=some q):e=.Attribute q.1 q.2.1 q.2.2:=by
 cases e with
 |Attribute o m p=>cases h;rfl
 |_=>exact iw h
noncomputable def GO:Expr->Option (Expr×Expr)
 |.Subscript a b _=>some (a,b)
 |_=>none
def yt{e:Expr}{q:Expr×Expr}(h:GO e=some q):∃p,e=.Subscript q.1 q.2 p:=by
 cases e with
 |Subscript a b p=>cases h;exact⟨_,rfl⟩
 |_=>exact iw h
noncomputable def Iy:Expr->Option Const
 |.Constant c _ _=>some c
 |_=>none
def vK{e:Expr}{c:Const}(h:Iy e=some c):∃p q,e=.Constant c p q:=by
 cases e with
 |Constant c p q=>cases h;exact⟨_,_,rfl⟩
 |_=>exact iw h
noncomputable def Fh:Const->Option Str
 |.str z=>some z
 |_=>none
def yk{c:Const}{z:Str}(h:Fh c=some z):c=.str z:=by
 cases c with
 |str y=>cases h;rfl
 |_=>exact iw h
noncomputable def Ma:Const->Option Int
 |.int n=>some n
 |_=>none
def xA{c:Const}{n:Int}(h:Ma c=some n):c=.int n:=by
 cases c with
 |int y=>cases h;rfl
 |_=>exact iw h
def BB{α:Type}{l:List α}(h:l.isEmpty=true):l=[]:=by
 cases l with
 |nil=>rfl
 |cons _ _=>exact aM h
def F9{α:Type}{o:Option α}(h:o.isNone=true):o=none:=by
 cases o with
 |none=>rfl
 |some _=>exact aM h
noncomputable def NA:Const->Option Bool
 |.bool b=>some b
 |_=>none
def FL{c:Const}{b:Bool}(h:NA c=some b):c=.bool b:=by
 cases c with
 |bool y=>cases h;rfl
 |_=>exact iw h
noncomputable def M9:Const->Bool
 |.none=>true
 |_=>false
def EC{c:Const}(h:M9 c=true):c=.none:=by
 cases c with
 |none=>rfl
 |_=>exact aM h
noncomputable def Nc:Expr->Option (Expr×Operator×Expr)
 |.BinOp a o b _=>some (a,o,b)
 |_=>none
def EG{e:Expr}{q:Expr×Operator×Expr}(h:Nc e=some q):∃p,e=.BinOp q.1 q.2.1 q.2.2 p:=by
 cases e with
 |BinOp a o b p=>cases h;exact⟨_,rfl⟩
 |_=>exact iw h
noncomputable def JF:Expr->Option (Expr×List CmpOp×List Expr)
 |.Compare a o b _=>some (a,o,b)
 |_=>none
def DB{e:Expr}{q:Expr×List CmpOp×List Expr}(h:JF e=some q):∃p,e=.Compare q.1 q.2.1 q.2.2 p:=by
 cases e with
 |Compare a o b p=>cases h;exact⟨_,rfl⟩
 |_=>exact iw h
noncomputable def G9:Expr->Option (UnaryOp×Expr)
 |.UnaryOp o a _=>some (o,a)
 |_=>none
def El{e:Expr}{q:UnaryOp×Expr}(h:G9 e=some q):∃p,e=.UnaryOp q.1 q.2 p:=by
 cases e with
 |UnaryOp o a p=>cases h;exact⟨_,rfl⟩
 |_=>exact iw h
noncomputable def BZ:UnaryOp->Bool
 |.Not=>true
 |_=>false
def v5{o:UnaryOp}(h:BZ o=true):o=.Not:=by
 cases o with
 |Not=>rfl
 |_=>exact aM h
noncomputable def isNeg:UnaryOp->Bool
 |.USub=>true
 |_=>false
def n8{o:UnaryOp}(h:isNeg o=true):o=.USub:=by
 cases o with
 |USub=>rfl
 |_=>exact aM h
noncomputable def rC:BoolOp->Bool
 |.And=>true
 |.Or=>false
def xj{o:BoolOp}(h:rC o=true):o=.And:=by
 cases o with
 |And=>rfl
 |Or=>exact aM h
def A2{o:BoolOp}(h:(!rC o)=true):o=.Or:=by
 cases o with
 |Or=>rfl
 |And=>exact aM h
noncomputable def Jf:Expr->Option (BoolOp×List Expr×Pos)
 |.BoolOp o vs p=>some (o,vs,p)
 |_=>none
def FF{e:Expr}{q:BoolOp×List Expr×Pos}(h:Jf e=some q):e=.BoolOp q.1 q.2.1 q.2.2:=by
 cases e with
 |BoolOp o vs p=>cases h;rfl
 |_=>exact iw h
noncomputable def Ko(o:BoolOp)(pos:Pos):List Expr->Option (Expr×Expr)
 |a::b::[]=>some (a,b)
 |a::b::c::r=>some (a,.BoolOp o (b::c::r) pos)
 |_=>none
def xH{o:BoolOp}{pos:Pos}{vs:List Expr}{q:Expr×Expr}(h:Ko o pos vs=some q):vs=[q.1,q.2]\/∃b c r,vs=q.1::b::c::r/\q.2=.BoolOp o (b::c::r) pos:=by
 cases vs with
 |nil=>exact iw h
 |cons a vs=>
  cases vs with
  |nil=>exact iw h
  |cons b vs=>
   cases vs with
   |nil=>cases h;exact .inl rfl
   |cons c r=>cases h;exact .inr ⟨b,c,r,rfl,rfl⟩
noncomputable def NF:Expr->Option (Expr×Expr×Expr)
 |.IfExp c a b _=>some (c,a,b)
 |_=>none
def DA{e:Expr}{q:Expr×Expr×Expr}(h:NF e=some q):∃p,e=.IfExp q.1 q.2.1 q.2.2 p:=by
 cases e with
 |IfExp c a b p=>cases h;exact⟨_,rfl⟩
 |_=>exact iw h
noncomputable def NU:Expr->Option (List Expr)
 |.List es _=>some es
 |_=>none
def wX{e:Expr}{es:List Expr}(h:NU e=some es):∃p,e=.List es p:=by
 cases e with
 |List es p=>cases h;exact⟨_,rfl⟩
 |_=>exact iw h
noncomputable def Mk:Expr->Option (Option Expr×Option Expr×Option Expr)
 |.Slice a b c _=>some (a,b,c)
 |_=>none
def Ff{e:Expr}{q:Option Expr×Option Expr×Option Expr}(h:Mk e=some q):∃p,e=.Slice q.1 q.2.1 q.2.2 p:=by
 cases e with
 |Slice a b c p=>cases h;exact⟨_,rfl⟩
 |_=>exact iw h
noncomputable def Ju:Expr->Option (Expr×List Comprehension×Scope)
 |.ListComp e gs s _=>some (e,gs,s)
 |_=>none
def Ec{e:Expr}{q:Expr×List Comprehension×Scope}(h:Ju e=some q):∃p,e=.ListComp q.1 q.2.1 q.2.2 p:=by
 cases e with
 |ListComp e gs s p=>cases h;exact⟨_,rfl⟩
 |_=>exact iw h
noncomputable def vE(e:Expr):Option (Str×List Expr):=(BS e).bind λq=>(fm q.1).bind λg=>if q.2.2.1.isEmpty=true then some (g,q.2.1) else none
def FD{e:Expr}{q:Str×List Expr}(h:vE e=some q):∃np p,e=.Call (.Name q.1 np) q.2 [] p:=by
 obtain⟨⟨f,a,k,p⟩,h1,h⟩:=pY h
 obtain⟨g,h2,h⟩:=pY h
 obtain⟨h3,rfl⟩:=if1 h
 obtain⟨np,z⟩:=dM h2
 have z3:=BB h3
 dsimp only at z z3;subst z z3;exact⟨np,p,kA h1⟩
noncomputable def IG:PV->Const->Bool
 |.aI,c=>M9 c
 |.bl b,c=>(NA c).any λx=>b==x
 |.int i,c=>(Ma c).any λx=>i==x
 |.str z,c=>(Fh c).any λx=>z==x
 |_,_=>false
noncomputable def tM(p:Expr):Bool:=(BS p).isNone
def ak{a b:Bool}(h:(a&&b)=true):a=true/\b=true:=Bool.and_eq_true_iff.mp h
def ag{α:Type}{o:Option α}{f:α->Bool}(h:o.any f=true):∃x,o=some x/\f x=true:=by
 cases o with
 |none=>cases h
 |some x=>exact⟨x,rfl,h⟩
theorem g9{α:Type}{l:List α}{f:α->Bool}(h:(eV l).any f=true):∃a,l=[a]/\f a=true:=let⟨a,e,h1⟩:=ag h;⟨a,e9 e,h1⟩
theorem AI{α:Type}{l:List α}{f:α×α->Bool}(h:(uF l).any f=true):∃a b,l=[a,b]/\f (a,b)=true:=let⟨q,e,h1⟩:=ag h;⟨q.1,q.2,zu e,h1⟩
theorem FX{p:Expr}{f:Str->Bool}(h:(fm p).any f=true):∃x np,p=.Name x np/\f x=true:=let⟨x,e,h1⟩:=ag h;let⟨np,z⟩:=dM e;⟨x,np,z,h1⟩
theorem NX{p:Expr}{f:Const->Bool}(h:(Iy p).any f=true):∃x a b,p=.Constant x a b/\f x=true:=let⟨x,e,h1⟩:=ag h;let⟨a,b,z⟩:=vK e;⟨x,a,b,z,h1⟩
theorem yL{p:Expr}{f:Str×List Expr->Bool}(h:(vE p).any f=true):∃g as np pos,p=.Call (.Name g np) as [] pos/\f (g,as)=true:=let⟨q,e,h1⟩:=ag h;let⟨a,b,z⟩:=FD e;⟨q.1,q.2,a,b,z,h1⟩
theorem NR{p:Expr}{f:Expr×Expr->Bool}(h:(GO p).any f=true):∃a b pos,p=.Subscript a b pos/\f (a,b)=true:=let⟨q,e,h1⟩:=ag h;let⟨x,z⟩:=yt e;⟨q.1,q.2,x,z,h1⟩
theorem Ox{p:Expr}{f:Option Expr×Option Expr×Option Expr->Bool}(h:(Mk p).any f=true):∃a b c pos,p=.Slice a b c pos/\f (a,b,c)=true:=let⟨q,e,h1⟩:=ag h;let⟨x,z⟩:=Ff e;⟨q.1,q.2.1,q.2.2,x,z,h1⟩
theorem K6{p:Expr}{f:UnaryOp×Expr->Bool}(h:(G9 p).any f=true):∃o a pos,p=.UnaryOp o a pos/\f (o,a)=true:=let⟨q,e,h1⟩:=ag h;let⟨x,z⟩:=El e;⟨q.1,q.2,x,z,h1⟩
theorem MI{p:Expr}{f:Expr×List CmpOp×List Expr->Bool}(h:(JF p).any f=true):∃a o b pos,p=.Compare a o b pos/\f (a,o,b)=true:=let⟨q,e,h1⟩:=ag h;let⟨x,z⟩:=DB e;⟨q.1,q.2.1,q.2.2,x,z,h1⟩
theorem Jp{p:Expr}{f:Expr×List Comprehension×Scope->Bool}(h:(Ju p).any f=true):∃a g s pos,p=.ListComp a g s pos/\f (a,g,s)=true:=let⟨q,e,h1⟩:=ag h;let⟨x,z⟩:=Ec e;⟨q.1,q.2.1,q.2.2,x,z,h1⟩
theorem Na{p:Expr}{f:BoolOp×List Expr×Pos->Bool}(h:(Jf p).any f=true):∃o vs pos,p=.BoolOp o vs pos/\f (o,vs,pos)=true:=let⟨q,e,h1⟩:=ag h;⟨q.1,q.2.1,q.2.2,FF e,h1⟩
mutual
noncomputable def aR(Γ:Pg)(N:List Str)(sc:Scope):E->Expr->Bool
 |.var i,p=>(fm p).any λx=>N[i]?==some x&&eN sc x&&okN x
 |.AH i,p=>(fm p).any λx=>N[i]?==some x&&eN sc x&&okN x
 |.cst q,p=>(Iy p).any (IG q)
 |.glob g p,e=>(fm e).any λx=>g==x&&fL sc x&&okN x&&Γ.gs.any λq=>q.1==g&&r9 q.2 p
 |.call f as,p=>(vE p).any λq=>f==q.1&&Γ.fs.contains q.1&&fL sc q.1&&okN q.1&&iy as&&dA Γ N sc as q.2
 |.blt b as,p=>nq Γ ((vE p).any λq=>bN b==q.1&&fL sc q.1&&Γ.bs.contains q.1&&!isNil as&&dA Γ N sc as q.2)
 |.ty t a,p=>(vE p).any λq=>(uF q.2).any λr=>(fm r.2).any λtn=>q.1==("isinstance":Str)&&fL sc q.1&&Γ.bs.contains q.1&&tn==Str.ofString (q0 t)&&fL sc tn&&Γ.bs.contains tn&&aR Γ N sc a r.1
 |.pU m o as,p=>(BS p).any λq=>(JL q.1).any λr=>q.2.2.1.isEmpty&&(mN m==r.2.1&&!isNil as&&decide (dZ as<30)&&r.2.2.endLine==q.2.2.2.line&&aR Γ N sc o r.1&&dA Γ N sc as q.2.1&&tM r.1)
 |.bin o a b,p=>(Nc p).any λq=>decide (Jj o=q.2.1)&&aR Γ N sc a q.1&&aR Γ N sc b q.2.2
 |.cmp o a b,p=>(JF p).any λq=>(eV q.2.1).any λop=>(eV q.2.2).any λpb=>decide (nY o=op)&&aR Γ N sc a q.1&&aR Γ N sc b pb
 |.ch o1 o2 a b c,p=>(JF p).any λq=>(uF q.2.1).any λop=>(uF q.2.2).any λpb=>decide (nY o1=op.1)&&decide (nY o2=op.2)&&aR Γ N sc a q.1&&aR Γ N sc b pb.1&&aR Γ N sc c pb.2
 |.not a,p=>(G9 p).any λq=>BZ q.1&&aR Γ N sc a q.2
 |.neg a,p=>(G9 p).any λq=>isNeg q.1&&aR Γ N sc a q.2
 |.and a b,p=>(Jf p).any λq=>(Ko q.1 q.2.2 q.2.1).any λr=>rC q.1&&fV b&&aR Γ N sc a r.1&&aR Γ N sc b r.2
 |.or a b,p=>(Jf p).any λq=>(Ko q.1 q.2.2 q.2.1).any λr=>!rC q.1&&fV b&&aR Γ N sc a r.1&&aR Γ N sc b r.2
 |.ite c a b,p=>(NF p).any λq=>fi c&&fV a&&fV b&&aR Γ N sc c q.1&&aR Γ N sc a q.2.1&&aR Γ N sc b q.2.2
 |.tup as,p=>(Fm p).any λps=>iy as&&decide (dZ as<1000)&&dA Γ N sc as ps
 |.lst as,p=>(NU p).any λps=>iy as&&decide (dZ as<1000)&&dA Γ N sc as ps
 |.sub a b,p=>(GO p).any λq=>aR Γ N sc a q.1&&aR Γ N sc b q.2
 |.comp k bP tg it elt,p=>nq Γ ((Ju p).any λq=>(eV q.2.1).any λg=>g.ifs.isEmpty&&(tq N sc q.2.2 k bP (aA g.target)&&jz k tg&&fV elt&&uy Γ N sc g.target it g.iter&&fy (aA g.target++freeOf q.2.2) (cm q.2.2 sc) (kj q.2.2) tg g.target&&aR Γ.yM (aA g.target++freeOf q.2.2) (cm q.2.2 sc) elt q.1&&decide (g.is_async=0)))
 |.bX k bP tg it c elt,p=>nq Γ ((Ju p).any λq=>(eV q.2.1).any λg=>(eV g.ifs).any λpc=>fi c&&tq N sc q.2.2 k bP (aA g.target)&&jz k tg&&fV elt&&uy Γ N sc g.target it g.iter&&fy (aA g.target++freeOf q.2.2) (cm q.2.2 sc) (kj q.2.2) tg g.target&&aR Γ.yM (aA g.target++freeOf q.2.2) (cm q.2.2 sc) c pc&&aR Γ.yM (aA g.target++freeOf q.2.2) (cm q.2.2 sc) elt q.1&&decide (g.is_async=0))
 |.rev a,p=>(GO p).any λq=>(Mk q.2).any λr=>(r.2.2).any λst=>(G9 st).any λu=>(Iy u.2).any λc=>r.1.isNone&&r.2.1.isNone&&isNeg u.1&&Ma c==some 1&&aR Γ N sc a q.1
 |.wt a,p=>nq Γ ((vE p).any λq=>(eV q.2).any λz=>(vE z).any λr=>(eV r.2).any λpa=>q.1==("list":Str)&&fL sc q.1&&Γ.bs.contains q.1&&r.1==("reversed":Str)&&fL sc r.1&&Γ.bs.contains r.1&&aR Γ N sc a pa)
 |.oh i,p=>nq Γ ((vE p).any λq=>(eV q.2).any λz=>(BS z).any λc=>(JL c.1).any λr=>(fm r.1).any λx=>q.1==("sorted":Str)&&fL sc q.1&&Γ.bs.contains q.1&&c.2.1.isEmpty&&c.2.2.1.isEmpty&&r.2.1==("items":Str)&&r.2.2.endLine==c.2.2.2.line&&N[i]?==some x&&eN sc x&&okN x)
noncomputable def dA(Γ:Pg)(N:List Str)(sc:Scope):Es->List Expr->Bool
 |.nil,[]=>true
 |.cons e es,p::ps=>aR Γ N sc e p&&dA Γ N sc es ps
 |_,_=>false
noncomputable def uy(Γ:Pg)(N:List Str)(sc:Scope)(tg:Expr):I->Expr->Bool
 |.seq e,p=>aR Γ N sc e p
 |.rn e,p=>(vE p).any λq=>(eV q.2).any λr=>q.1==("range":Str)&&fL sc q.1&&Γ.bs.contains q.1&&aR Γ N sc e r
 |.ng a b,p=>(vE p).any λq=>(uF q.2).any λr=>q.1==("range":Str)&&fL sc q.1&&Γ.bs.contains q.1&&aR Γ N sc a r.1&&aR Γ N sc b r.2
 |.enum e,p=>(vE p).any λq=>(eV q.2).any λr=>isTup tg&&q.1==("enumerate":Str)&&fL sc q.1&&Γ.bs.contains q.1&&aR Γ N sc e r
 |.zip as,p=>(vE p).any λq=>isTup tg&&q.1==("zip":Str)&&fL sc q.1&&Γ.bs.contains q.1&&iy as&&(dZ as==2||dZ as==3)&&dA Γ N sc as q.2
end
noncomputable def XE(W:Wd)(c:Str)(G1 H1:Hp):XK:=λCv ao H'=>∃C a G',Cv=.ref C/\ao=some a/\c∈W.xs/\W.mg c=some (.ref C)/\av W G1 H1 G' H'
def qP(X:Cx)(W:Wd)(σ:St)(c:Str)(G H:Hp):Prop:=∀(aa:List (Addr×Obj)) (G1 H1:Hp) (s1:Shared) (e:Value) (s':Shared),Inv X aa σ H1 s1->av W G H G1 H1->fw X.prog X.w X.stack H1 s1 (XE W c G1 H1) e s'->X.xe e s'
def Out{α:Type}(X:Cx)(W:Wd)(r:Res α)(σ:St)(G H:Hp)(k:α->Prop):Prop:=match r with
 |.ok a=>k a
 |.exc c=>qP X W σ c G H
 |.bad=>False
section
variable{X:Cx}{W:Wd}{F:aO}{σ:St}{G H G1 H1:Hp}{α β:Type}
def qP.grow{c:Str}(h:qP X W σ c G H)(g:av W G H G1 H1):qP X W σ c G1 H1:=λaa G2 H2 s1 e s' I g2 x=>h aa G2 H2 s1 e s' I (g.trans g2) x
def Out.grow{r:Res α}{k:α->Prop}(h:Out X W r σ G H k)(g:av W G H G1 H1):Out X W r σ G1 H1 k:=by
 cases r with
 |ok a=>exact h
 |exc c=>exact qP.grow h g
 |bad=>exact h
def Out.imp{r:Res α}{k k':α->Prop}(h:Out X W r σ G H k)(i:∀a,k a->k' a):Out X W r σ G H k':=by
 cases r with
 |ok a=>exact i a h
 |exc c=>exact h
 |bad=>exact h
def Out.bind{r:Res α}{f:α->Res β}{k:β->Prop}(h:Out X W (r.bind f) σ G H k):Out X W r σ G H λa=>Out X W (f a) σ G H k:=by
 cases r with
 |ok a=>exact h
 |exc c=>exact h
 |bad=>exact h
def Out.val{r:Res α}{k:α->Prop}(h:Out X W r σ G H k)(n:∀c,r≠.exc c):∃a,r=.ok a/\k a:=by
 cases r with
 |ok a=>exact⟨a,rfl,h⟩
 |exc c=>exact absurd rfl (n c)
 |bad=>exact h.elim
structure Got(W:Wd)(H0 G H:Hp)(e:E)(p:PV)(v:V):Prop where
 top:Top W H0 G H p v
 rep:fV e=true->Rep W G p v
def Got.of{H0:Hp}{e:E}{p:PV}{v:V}(h:Rep W G p v):Got W H0 G H e p v:=⟨.inl h,λ_=>h⟩
noncomputable def tE(X:Cx)(W:Wd)(F:aO)(e:E):TE:=λσ H Q=>∃H0 G env,SR W H0 env σ G H/\Out X W (ax F e env) σ G H λp=>∀v G' H',av W G H G' H'->Got W H0 G' H' e p v->Q v H'
noncomputable def tT(X:Cx)(W:Wd)(F:aO)(e:E):TT:=λσ H Q=>∃H0 G env,SR W H0 env σ G H/\Out X W (ax F e env) σ G H λp=>∃b,p=.bl b/\∀G' H',av W G H G' H'->Q b H'
structure Dq(W:Wd)(H0 G H:Hp)(es:Es)(ps:List PV)(vs:List V):Prop where
 top:Paired (λv p=>Top W H0 G H p v) vs ps
 rep:iy es=true->ah W G ps vs
noncomputable def tA(X:Cx)(W:Wd)(F:aO)(es:Es):TA:=λσ H Q=>∃H0 G env,SR W H0 env σ G H/\Out X W (bE F es env) σ G H λps=>∀vs G' H',av W G H G' H'->Dq W H0 G' H' es ps vs->Q vs H'
def one{H0:Hp}{env:Sl}{e:E}{f:PV->Res β}{k:β->Prop}{Q:VK}(sr:SR W H0 env σ G H)(o:Out X W ((ax F e env).bind f) σ G H k)
 (h:∀p v G1 H1,av W G H G1 H1->Got W H0 G1 H1 e p v->SR W H0 env σ G1 H1->Out X W (f p) σ G1 H1 k->Q v H1):tE X W F e σ H Q:=
 ⟨H0,G,env,sr,o.bind.imp λp hp v G1 H1 g t=>h p v G1 H1 g t (sr.grow g) (hp.grow g)⟩
def A3{H0:Hp}{env:Sl}{e:E}{f:Bool->Res β}{k:β->Prop}{Q:Bool->Hp->Prop}(sr:SR W H0 env σ G H)(o:Out X W ((ax F e env).bind λp=>qB p f) σ G H k)
 (h:∀b G1 H1,av W G H G1 H1->SR W H0 env σ G1 H1->Out X W (f b) σ G1 H1 k->Q b H1):tT X W F e σ H Q:=by
 refine⟨H0,G,env,sr,o.bind.imp λp hp=>?_⟩
 cases p with
 |bl b=>exact⟨b,rfl,λG1 H1 g=>h b G1 H1 g (sr.grow g) (Out.grow hp g)⟩
 |aI=>exact zzk hp
 |int _=>exact zzk hp
 |str _=>exact zzk hp
 |tup _=>exact zzk hp
 |lst _=>exact zzk hp
 |exc _=>exact zzk hp
 |dB _ _=>exact zzk hp
def args{H0:Hp}{env:Sl}{es:Es}{f:List PV->Res β}{k:β->Prop}{Q:List V->Hp->Prop}(sr:SR W H0 env σ G H)(o:Out X W ((bE F es env).bind f) σ G H k)
 (h:∀ps vs G1 H1,av W G H G1 H1->Dq W H0 G1 H1 es ps vs->SR W H0 env σ G1 H1->Out X W (f ps) σ G1 H1 k->Q vs H1):tA X W F es σ H Q:=
 ⟨H0,G,env,sr,o.bind.imp λp hp v G1 H1 g t=>h p v G1 H1 g t (sr.grow g) (hp.grow g)⟩
def Got.grow{H0 G2 H2:Hp}{e:E}{p:PV}{v:V}(h:Got W H0 G H e p v)(g:av W G H G2 H2):Got W H0 G2 H2 e p v:=⟨h.top.grow g,λz=>Rep.same g.g p (h.rep z)⟩
def wY(W:Wd)(G:Hp):Option (Str×List Nat)->List PV->List V->Prop
 |none,as,vs=>ah W G as vs
 |some q,as,vs=>∃sA c8 yN v,as=sA++c8/\vs=yN++[v]/\ah W G sA yN/\vn W G q.1 q.2 c8 v
noncomputable def xi(W:Wd)(F:aO)(f:Str)(n:Nat)(q:Option (Str×List Nat)):Sp:=λvs H Q E=>vs.length=n/\∃G as,aq G H/\b9 W G H/\wY W G q as vs/\(match F f as with
 |.ok p=>∀v G' H',av W G H G' H'->Rep W G' p v->Q v H'
 |.exc c=>∀Cv ao H',XE W c G H Cv ao H'->E Cv ao H'
 |.bad=>False)
structure yD(X:Cx)(W:Wd)(F:aO)(k:Nat)(f:Str):Prop where
 ex:∃fa fd ps,fq X.prog X.w X.K X.mg X.base (fw X.prog X.w) k fa fd ps (xi W F f ps.length none)/\X.mg f=some (.ref fa)/\PySem.W.keepIn X.K (.ref fa)=true/\Binds X.K fd ps []/\∀as,F f as≠.bad->as.length=ps.length
structure HK(X:Cx)(W:Wd)(F:aO)(k:Nat)(q:Hs):Prop where
 ex:∃fa fd ps,fq X.prog X.w X.K X.mg X.base (fw X.prog X.w) k fa fd ps (xi W F q.f ps.length (some (q.g,q.idx)))/\X.mg q.h=some (.ref fa)/\PySem.W.keepIn X.K (.ref fa)=true/\Binds X.K fd ps []/\ps.length=q.np
structure dj(Γ:Pg)(F:aO)(W:Wd)(N:List Str)(sc:Scope)(k:Nat)(X:Cx):Prop where
 hN:X.N=N
 dU:X.env.scope=sc
 calm:Γ.qt=false->X.calm=true
 nd:N.Nodup
 K:W.K=X.K
 mg:W.mg=X.mg
 gs:∀q∈Γ.gs,∃u v,X.mg q.1=some u/\RelV v u/\∀G,Rep W G q.2 v
 bs:∀g∈Γ.bs,X.mg g=none
 room:dv (k+1) X.A
 fns:∀f,Γ.fs.contains f=true->yD X W F k f
 JE:Γ.cs.contains "ValueError"=false
 cls:∀c∈Γ.cs,∃C,X.mg c=some (.ref C)
 xc:∀d∈W.xs,∀D,X.mg d=some (.ref D)->Dc X.K D/\(∀c∈Γ.cs,∀C,X.mg c=some (.ref C)->PySem.W.kitOne X.K (.ref D) (.ref C)=some (c==d||c=="FloorError"))/\PySem.W.kitOne X.K (.ref D) (.type "ValueError")=some true
 rM:∀q∈Γ.hs,HK X W F k q
 MA:∀f,Γ.qs.contains f=true->2<=k/\yD X W F 2 f
 any:∀g as,F g as≠.bad->Γ.fs.contains g=true\/fJ g=true
 tb:Γ.hl=true->∃c P,X.env.code=.ref c/\PySem.W.CodeHd X.base c P/\(P,X.env.qual++"<lambda>")∈W.ts/\∀q',(P,q')∈W.ts->q'=X.env.qual++"<lambda>"
 bm:Γ.hl=true->C0 X.mg X.base
 fl:Γ.hl=true->∀x,X.fn x=true
variable{Γ:Pg}{N:List Str}{sc:Scope}{k:Nat}
def mP(C:dj Γ F W N sc k X){x:Str}(h:eN sc x=true):Jo X.env.scope x:=by
 rw [C.dU];unfold eN ft at h;simp! [zzt,zzy] at h;rcases h with(h|h)|h
 ·exact .inl h
 ·exact .inr (.inl h)
 ·exact .inr (.inr h)
def dD(C:dj Γ F W N sc k X){x:Str}(h:fL sc x=true):Gl X x:=by
 show X.env.scope.names.lookup x=_
 rw [C.dU];exact zzy.mp h
def fx{x:Str}(h:okN x=true):(x==("__debug__":Str))=false/\(x==("__classdict__":Str))=false/\x≠"__name__":=by
 unfold okN at h;simp! [zza,Bool.not_eq_true',beq_eq_false_iff_ne] at h;exact⟨beq_eq_false_iff_ne.mpr h.1.1,beq_eq_false_iff_ne.mpr h.1.2,h.2⟩
abbrev GE(X:Cx)(W:Wd)(F:aO)(e:E)(p:Expr):Prop:=PE X p (tE X W F e)
abbrev GT(X:Cx)(W:Wd)(F:aO)(e:E)(p:Expr):Prop:=PT X p (tT X W F e)
abbrev GW(X:Cx)(W:Wd)(F:aO)(e:E)(p:Expr):Prop:=PW X p (tT X W F e)
def _root_.L2.PE.imp{p:Expr}{t t':TE}(h:PE X p t)(i:∀σ H Q,t' σ H Q->t σ H Q):PE X p t':=λaa s σ H Q I hw=>h aa s σ H Q I (i σ H Q hw)
def _root_.L2.PT.imp{p:Expr}{t t':TT}(h:PT X p t)(i:∀σ H Q,t' σ H Q->t σ H Q):PT X p t':=λaa s σ H Q I hw=>h aa s σ H Q I (i σ H Q hw)
def _root_.L2.PW.imp{p:Expr}{t t':TT}(h:PW X p t)(i:∀σ H Q,t' σ H Q->t σ H Q):PW X p t':=λw aa s σ H Q I hw=>h w aa s σ H Q I (i σ H Q hw)
def _root_.L2.PA.imp{p:List Expr}{t t':TA}(h:PA X p t)(i:∀σ H Q,t' σ H Q->t σ H Q):PA X p t':=λpos aa s σ H Q I hw=>h pos aa s σ H Q I (i σ H Q hw)
def BL{e:E}(σ:St)(H:Hp)(Q:Bool->Hp->Prop)(h:tT X W F e σ H Q):tB (tE X W F e) σ H Q:=by
 obtain⟨H0,G,env,sr,o⟩:=h
 refine⟨H0,G,env,sr,o.imp λp hp v G' H' g t=>?_⟩
 obtain⟨b,rfl,q⟩:=hp
 exact⟨b,t.top.bl,q G' H' g⟩
def oY{e:E}(σ:St)(H:Hp)(Q:Bool->Hp->Prop)(h:tT X W F e σ H Q):vJ (tE X W F e) σ H Q:=BL σ H Q h
def Br{i:Nat}{x:Str}{pos:Pos}(hn:X.N[i]?=some x)(hv:Jo X.env.scope x)(h:okN x=true):GE X W F (.var i) (.Name x pos):=by
 obtain⟨h1,h2,h3⟩:=fx h
 refine(nG (i:=i) hn hv h1 h2).imp λσ H Q hq=>?_
 obtain⟨H0,G,env,sr,o⟩:=hq
 cases e:env[i]? with
 |none=>unfold ax at o;rw [e] at o;exact o.elim
 |some sl=>
  cases sl with
  |no=>unfold ax at o;rw [e] at o;exact o.elim
  |fn _ _ _=>unfold ax at o;rw [e] at o;exact o.elim
  |fj _=>unfold ax at o;rw [e] at o;exact o.elim
  |own p=>unfold ax at o;rw [e] at o;exact o.elim
  |val p=>
   unfold ax at o;rw [e] at o;obtain⟨o2,hs,v,rfl,r⟩:=sr.slot i _ e
   exact⟨v,hs,o v G H (.refl sr.sub) (.of r)⟩
def Fq(C:dj Γ F W N sc k X){i:Nat}{x:Str}{pos:Pos}(h:(N[i]?==some x&&eN sc x&&okN x)=true):GE X W F (.var i) (.Name x pos):=by
 simp! [zza,zzy] at h;exact Br (by rw [C.hN];exact h.1.1) (mP C h.1.2) h.2
def EI(C:dj Γ F W N sc k X){i:Nat}{x:Str}{pos:Pos}(h:(N[i]?==some x&&eN sc x&&okN x)=true):GE X W F (.AH i) (.Name x pos):=by
 simp! [zza,zzy] at h;obtain⟨h1,h2,h3⟩:=fx h.2
 refine(nG (i:=i) (by rw [C.hN];exact h.1.1) (mP C h.1.2) h1 h2).imp λσ H Q hq=>?_
 obtain⟨H0,G,env,sr,o⟩:=hq
 cases e:env[i]? with
 |none=>unfold ax at o;rw [e] at o;exact o.elim
 |some sl=>
  cases sl with
  |no=>unfold ax at o;rw [e] at o;exact o.elim
  |fn _ _ _=>unfold ax at o;rw [e] at o;exact o.elim
  |fj _=>unfold ax at o;rw [e] at o;exact o.elim
  |own p=>
   unfold ax at o;rw [e] at o;obtain⟨o2,hs,v,rfl,r⟩:=sr.slot i _ e
   exact⟨v,hs,o v G H (.refl sr.sub) ⟨.inr r,λz=>nomatch z⟩⟩
  |val p=>
   unfold ax at o;rw [e] at o;obtain⟨o2,hs,v,rfl,r⟩:=sr.slot i _ e
   exact⟨v,hs,o v G H (.refl sr.sub) (.of r)⟩
def eT{p:PV}{v:V}{e:Expr}(h:PE X e (tC v))(r:∀G,Rep W G p v):GE X W F (.cst p) e:=by
 refine L2.PE.imp h λσ H Q hq=>?_
 obtain⟨H0,G,env,sr,o⟩:=hq
 exact o v G H (.refl sr.sub) (.of (r G))
def zv(C:dj Γ F W N sc k X){g x:Str}{p:PV}{pos:Pos}(h:(g==x&&fL sc x&&okN x&&Γ.gs.any λq=>q.1==g&&r9 q.2 p)=true):GE X W F (.glob g p) (.Name x pos):=by
 simp! [zza,zzy,List.any_eq_true] at h;obtain⟨⟨⟨rfl,h2⟩,h3⟩,q,hq,e1,e2⟩:=h
 obtain⟨u,v,hm,rv,hr⟩:=C.gs q hq
 rw [e1] at hm;cases xK e2;refine(zU (dD C h2) hm rv (fx h3).1).imp λσ H Q hq=>?_
 obtain⟨H0,G,env,sr,o⟩:=hq
 exact o v G H (.refl sr.sub) (.of (hr G))
def Res.aE{α:Type}{o:Option α}(c:Str):Res.of o≠.exc c:=by cases o<;>exact λz=>nomatch z
def nE{α β:Type}{o:Option α}{f:α->Res β}{c:Str}(h:∀a,f a≠.exc c):(Res.of o).bind f≠.exc c:=by
 cases o with
 |none=>exact λz=>nomatch z
 |some a=>exact h a
def kE{o:EZ}{p q:PV}(c:Str):binOp o p q≠.exc c:=by
 unfold binOp
 repeat' split
 all_goals exact λz=>nomatch z
def AA{p q:PV}(c:Str):iA p q≠.exc c:=by
 unfold iA
 (repeat' first|split|refine nE λ_=>?_|exact Res.aE c|exact(λz=>nomatch z))
def AK{p q:PV}(c:Str):gG p q≠.exc c:=by
 unfold gG
 (repeat' first|split|refine nE λ_=>?_|exact Res.aE c|exact(λz=>nomatch z))
def Am{p q:PV}(c:Str):pB p q≠.exc c:=by
 unfold pB
 (repeat' first|split|refine nE λ_=>?_|exact Res.aE c|exact(λz=>nomatch z))
def zJ{p q:PV}(c:Str):oM p q≠.exc c:=by
 unfold oM
 (repeat' first|split|refine nE λ_=>?_|exact Res.aE c|exact(λz=>nomatch z))
def Ba{p q:PV}(c:Str):oj p q≠.exc c:=by
 unfold oj
 (repeat' first|split|refine nE λ_=>?_|exact Res.aE c|exact(λz=>nomatch z))
def wm{p q:PV}(c:Str):j9 p q≠.exc c:=by
 unfold j9
 (repeat' first|split|refine nE λ_=>?_|exact Res.aE c|exact(λz=>nomatch z))
def Ay{p q:PV}(c:Str):oy p q≠.exc c:=by
 unfold oy
 (repeat' first|split|refine nE λ_=>?_|exact Res.aE c|exact(λz=>nomatch z))
def yE{p q:PV}(c:Str):lE p q≠.exc c:=by
 unfold lE
 (repeat' first|split|refine nE λ_=>?_|exact Res.aE c|exact(λz=>nomatch z))
def cH{o:yC}{p q:PV}(c:Str):cN o p q≠.exc c:=match o with
 |.eq=>AA c|.ne=>AK c|.lt=>Am c|.le=>zJ c|.gt=>Ba c|.Av=>wm c|.A1=>Ay c|.II=>yE c
def two{op:PV->PV->Res PV}{ea eb:E}{e:E}{σ:St}{H:Hp}{Q:VK}(hn:∀p q c,op p q≠.exc c)(he:∀env,ax F e env=(ax F ea env).bind λx=>(ax F eb env).bind λy=>op x y)
 (h:tE X W F e σ H Q):HR (sS W op) (tE X W F ea) (tE X W F eb) σ H Q:=by
 obtain⟨H0,G,env,sr,o⟩:=h
 rw [he] at o;refine one sr o λp v G1 H1 g1 t1 bA o1=>one bA o1 λq u G2 H2 g2 t2 lh o2=>?_
 obtain⟨r,hr,kr⟩:=o2.val (hn p q)
 exact⟨H0,G2,p,q,r,lh.sub,t1.top.grow g2,t2.top,hr,λw G' H' g' fT=>kr w G' H' ((g1.trans g2).trans g') (.of fT)⟩
def Bu(hK:W.K=X.K){o:EZ}{a b:E}{pa pb:Expr}{pos:Pos}(ha:GE X W F a pa)(hb:GE X W F b pb):GE X W F (.bin o a b) (.BinOp pa (Jj o) pb pos):=
 (BQ (Eu hK o) ha hb).imp λσ H Q h=>two (λp q c=>kE c) (λenv=>by rw [ax]) h
def D6(C:dj Γ F W N sc k X){o:EZ}{a b:E}{pa pb:Expr}{pos:Pos}(ha:GE X W F a pa)(hb:GE X W F b pb):GE X W F (.bin o a b) (.BinOp pa (Jj o) pb pos):=Bu C.K ha hb
def Dw(C:dj Γ F W N sc k X){o:yC}{a b:E}{pa pb:Expr}{pos:Pos}(ha:GE X W F a pa)(hb:GE X W F b pb)(hm:behindInMarks (nY o) pb=false):GE X W F (.cmp o a b) (.Compare pa [nY o] [pb] pos):=
 (Ad (fc C.K C.room.units o) ha hb hm).imp λσ H Q h=>two (λp q c=>cH c) (λenv=>by rw [ax]) h
theorem DQ(C:dj Γ F W N sc k X){o:yC}{a b:E}{pa pb:Expr}{pos:Pos}(ha:GE X W F a pa)(hb:GE X W F b pb)(hm:behindInMarks (nY o) pb=false):GT X W F (.cmp o a b) (.Compare pa [nY o] [pb] pos):=
 (Bq (fc C.K C.room.units o) ha hb hm).imp λσ H Q h=>by
  have h2:=oY σ H Q h
  exact two (λp q c=>cH c) (λenv=>by rw [ax]) h2
def B1{c1 c2:yC}{a b c:E}(σ:St)(H:Hp)(Q:VK)(h:tE X W F (.ch c1 c2 a b c) σ H Q):rf (sS W (cN c1)) (sS W (cN c2)) (tE X W F a) (tE X W F b) (tE X W F c) σ H Q:=by
 obtain⟨H0,G,env,sr,o⟩:=h
 rw [ax] at o;refine one sr o λp v G1 H1 g1 t1 bA o1=>one bA o1 λq u G2 H2 g2 t2 lh o2=>?_
 obtain⟨r,hr,kr⟩:=o2.bind.val (cH)
 refine⟨H0,G2,p,q,r,lh.sub,t1.top.grow g2,t2.top,hr,λw G3 H3 g3 fT=>?_⟩
 cases r with
 |bl t=>
  simp! [Rep] at fT;subst fT;refine⟨t,rfl,?_⟩;cases t with
  |false=>
   rw [if_neg zzf];have Me:Out X W (Res.ok (PV.bl false)) σ G2 H2 _:=kr
   exact Me _ G3 H3 ((g1.trans g2).trans g3) (.of .b)
  |true=>
   rw [if_pos rfl];have Me:Out X W ((ax F c env).bind λz=>cN c2 q z) σ G2 H2 _:=kr
   refine one (lh.grow g3) (Me.grow g3) λz y G4 H4 g4 t4 CJ o4=>?_
   obtain⟨r4,hr4,kr4⟩:=o4.val (cH)
   exact⟨H0,G4,q,z,r4,CJ.sub,t2.top.grow (g3.trans g4),t4.top,hr4,λw G5 H5 g5 O2=>kr4 w G5 H5 ((((g1.trans g2).trans g3).trans g4).trans g5) (.of O2)⟩
 |aI=>exact zzk kr
 |int _=>exact zzk kr
 |str _=>exact zzk kr
 |tup _=>exact zzk kr
 |lst _=>exact zzk kr
 |exc _=>exact zzk kr
 |dB _ _=>exact zzk kr
def Gv(C:dj Γ F W N sc k X){o1 o2:yC}{a b c:E}{pa pb pc:Expr}{pos:Pos}(ha:GE X W F a pa)(hb:GE X W F b pb)(hc:GE X W F c pc)(hm:lastMarks [nY o1,nY o2] [pb,pc]=false):GE X W F (.ch o1 o2 a b c) (.Compare pa [nY o1,nY o2] [pb,pc] pos):=
 (x6 (fc C.K C.room.units o1) (fc C.K C.room.units o2) ha hb hc hm).imp B1
def G8(C:dj Γ F W N sc k X){o1 o2:yC}{a b c:E}{pa pb pc:Expr}{pos:Pos}(ha:GE X W F a pa)(hb:GE X W F b pb)(hc:GE X W F c pc)(hm:lastMarks [nY o1,nY o2] [pb,pc]=false):GT X W F (.ch o1 o2 a b c) (.Compare pa [nY o1,nY o2] [pb,pc] pos):=
 (vO (fc C.K C.room.units o1) (fc C.K C.room.units o2) ha hb hc hm).imp λσ H Q h=>B1 σ H _ (oY σ H Q h)
theorem yI{a:E}{pa:Expr}{pos:Pos}(ha:GE X W F a pa):GE X W F (.neg a) (.UnaryOp .USub pa pos):=
 (GH (Au (W:=W)) ha).imp λσ H Q h=>by
  obtain⟨H0,G,env,sr,o⟩:=h
  rw [ax] at o;refine one sr o λp v G1 H1 g1 t1 bA o1=>?_
  cases p with
  |int i=>exact⟨H0,G1,i,bA.sub,t1.top,λw G' H' g' fT=>o1 w G' H' (g1.trans g') (.of fT)⟩
  |bl _=>exact zzk o1
  |aI=>exact zzk o1
  |str _=>exact zzk o1
  |tup _=>exact zzk o1
  |lst _=>exact zzk o1
  |exc _=>exact zzk o1
  |dB _ _=>exact zzk o1
theorem Fz{a:E}{pa:Expr}{pos:Pos}(ha:GE X W F a pa):GE X W F (.not a) (.UnaryOp .Not pa pos):=
 (Eg ha).imp λσ H Q h=>by
  obtain⟨H0,G,env,sr,o⟩:=h
  rw [ax] at o;refine one sr o λp v G1 H1 g1 t1 bA o1=>?_
  cases p with
  |bl b=>exact⟨b,t1.top.bl,o1 _ G1 H1 g1 (.of .b)⟩
  |int _=>exact zzk o1
  |aI=>exact zzk o1
  |str _=>exact zzk o1
  |tup _=>exact zzk o1
  |lst _=>exact zzk o1
  |exc _=>exact zzk o1
  |dB _ _=>exact zzk o1
theorem Fv{a:E}{pa:Expr}{pos:Pos}(ha:GT X W F a pa):GT X W F (.not a) (.UnaryOp .Not pa pos):=
 (Dd ha).imp λσ H Q h=>by
  obtain⟨H0,G,env,sr,o⟩:=h
  rw [ax] at o;refine A3 sr o λb G1 H1 g1 bA o1=>?_
  obtain⟨b',e,q⟩:=o1
  cases e;exact q G1 H1 g1
theorem xQ{a b:E}{pa pb:Expr}{r:List Expr}{pos:Pos}(he:fV b=true)(ha:GE X W F a pa)(hb:GE X W F b (.BoolOp .And (pb::r) pos)):GE X W F (.and a b) (.BoolOp .And (pa::pb::r) pos):=
 (CA ha hb).imp λσ H Q h=>by
  obtain⟨H0,G,env,sr,o⟩:=h
  rw [ax] at o;refine one sr o λp v G1 H1 g1 t1 bA o1=>?_
  cases p with
  |bl t=>
   refine⟨t,t1.top.bl,?_⟩;cases t with
   |true=>
    rw [if_pos rfl];have qe:Out X W (ax F b env) σ G1 H1 _:=o1
    exact⟨H0,G1,env,bA,qe.imp λp hp v G' H' g' t'=>hp v G' H' (g1.trans g') (.of (t'.rep he))⟩
   |false=>
    rw [if_neg zzf];have qe:Out X W (Res.ok (PV.bl false)) σ G1 H1 _:=o1
    exact qe _ G1 H1 g1 (.of .b)
  |int _=>exact zzk o1
  |aI=>exact zzk o1
  |str _=>exact zzk o1
  |tup _=>exact zzk o1
  |lst _=>exact zzk o1
  |exc _=>exact zzk o1
  |dB _ _=>exact zzk o1
theorem BI{a b:E}{pa pb:Expr}{r:List Expr}{pos:Pos}(he:fV b=true)(ha:GE X W F a pa)(hb:GE X W F b (.BoolOp .Or (pb::r) pos)):GE X W F (.or a b) (.BoolOp .Or (pa::pb::r) pos):=
 (Iq ha hb).imp λσ H Q h=>by
  obtain⟨H0,G,env,sr,o⟩:=h
  rw [ax] at o;refine one sr o λp v G1 H1 g1 t1 bA o1=>?_
  cases p with
  |bl t=>
   refine⟨t,t1.top.bl,?_⟩;cases t with
   |false=>
    rw [if_neg zzf];have qe:Out X W (ax F b env) σ G1 H1 _:=o1
    exact⟨H0,G1,env,bA,qe.imp λp hp v G' H' g' t'=>hp v G' H' (g1.trans g') (.of (t'.rep he))⟩
   |true=>
    rw [if_pos rfl];have qe:Out X W (Res.ok (PV.bl true)) σ G1 H1 _:=o1
    exact qe _ G1 H1 g1 (.of .b)
  |int _=>exact zzk o1
  |aI=>exact zzk o1
  |str _=>exact zzk o1
  |tup _=>exact zzk o1
  |lst _=>exact zzk o1
  |exc _=>exact zzk o1
  |dB _ _=>exact zzk o1
theorem v9{a b:E}{pa pb:Expr}{r:List Expr}{pos:Pos}(ha:GT X W F a pa)(hb:GW X W F b (.BoolOp .And (pb::r) pos)):GW X W F (.and a b) (.BoolOp .And (pa::pb::r) pos):=
 (pw_and ha hb).imp λσ H Q h=>by
  obtain⟨H0,G,env,sr,o⟩:=h
  rw [ax] at o;refine A3 sr o λt G1 H1 g1 bA o1=>?_
  cases t with
  |true=>
   rw [if_pos rfl];have qe:Out X W (ax F b env) σ G1 H1 _:=o1
   exact⟨H0,G1,env,bA,qe.imp λp hp=>by obtain⟨c,rfl,q⟩:=hp;exact⟨c,rfl,λG' H' g'=>q G' H' (g1.trans g')⟩⟩
  |false=>
   rw [if_neg zzf];obtain⟨c,e,q⟩:=(show Out X W (Res.ok (PV.bl false)) σ G1 H1 _ from o1)
   cases e;exact q G1 H1 g1
theorem B3{a b:E}{pa pb:Expr}{r:List Expr}{pos:Pos}(ha:GT X W F a pa)(hb:GW X W F b (.BoolOp .Or (pb::r) pos)):GW X W F (.or a b) (.BoolOp .Or (pa::pb::r) pos):=
 (pw_or ha hb).imp λσ H Q h=>by
  obtain⟨H0,G,env,sr,o⟩:=h
  rw [ax] at o;refine A3 sr o λt G1 H1 g1 bA o1=>?_
  cases t with
  |false=>
   rw [if_neg zzf];have qe:Out X W (ax F b env) σ G1 H1 _:=o1
   exact⟨H0,G1,env,bA,qe.imp λp hp=>by obtain⟨c,rfl,q⟩:=hp;exact⟨c,rfl,λG' H' g'=>q G' H' (g1.trans g')⟩⟩
  |true=>
   rw [if_pos rfl];obtain⟨c,e,q⟩:=(show Out X W (Res.ok (PV.bl true)) σ G1 H1 _ from o1)
   cases e;exact q G1 H1 g1
theorem C7{c a b:E}{pc pa pb:Expr}{pos:Pos}(OM:fV a=true)(Pt:fV b=true)(hc:GT X W F c pc)(ha:GE X W F a pa)(hb:GE X W F b pb):GE X W F (.ite c a b) (.IfExp pc pa pb pos):=
 (yy hc ha hb).imp λσ H Q h=>by
  obtain⟨H0,G,env,sr,o⟩:=h
  rw [ax] at o;refine A3 sr o λt G1 H1 g1 bA o1=>?_
  cases t with
  |true=>
   rw [if_pos rfl];have qe:Out X W (ax F a env) σ G1 H1 _:=o1
   exact⟨H0,G1,env,bA,qe.imp λp hp v G' H' g' t'=>hp v G' H' (g1.trans g') (.of (t'.rep OM))⟩
  |false=>
   rw [if_neg zzf];have qe:Out X W (ax F b env) σ G1 H1 _:=o1
   exact⟨H0,G1,env,bA,qe.imp λp hp v G' H' g' t'=>hp v G' H' (g1.trans g') (.of (t'.rep Pt))⟩
noncomputable def tF(X:Cx)(W:Wd)(F:aO)(e:E):TE:=λσ H Q=>∃H0 G env,SR W H0 env σ G H/\Out X W (ax F e env) σ G H λp=>∃xs,p=.lst xs/\∀a vs G' H',av W G H G' H'->H' a=none->ah W G' xs vs->Q (.ref a) (upd H' a (.lst vs))
abbrev GF(X:Cx)(W:Wd)(F:aO)(e:E)(p:Expr):Prop:=PE X p (tF X W F e)
theorem GF.ge{e:E}{p:Expr}(h:GF X W F e p)(hl:∀env q,ax F e env=.ok q->∃xs,q=.lst xs):GE X W F e p:=
 L2.PE.imp h λσ H Q hq=>by
  obtain⟨H0,G,env,sr,o⟩:=hq
  refine⟨H0,G,env,sr,?_⟩;cases r:ax F e env with
  |bad=>rw [r] at o;exact o
  |exc c=>rw [r] at o;exact o
  |ok q=>
   rw [r] at o;obtain⟨xs,rfl⟩:=hl env q r
   exact⟨xs,rfl,λa vs G' H' g ha l=>o _ _ _ (g.trans (.new g.sub ha)) (.of (.l (.inl (.inl aw)) (ah.same (aS (g.sub.free ha)) xs l)))⟩
def notStar{e:E}{p:Expr}(h:aR Γ N sc e p=true):∀env ps,starEach (p::ps) env=(false,eval p env)::starEach ps env:=by
 intro env ps;cases p<;>first|rfl|(cases e<;>first|(exact aM h)|(rename_i q;cases q<;>exact aM h))
theorem c5:∀{es:Es} {ps:List Expr},dA Γ N sc es ps=true->∀env pos,(backTo pos (starEach ps env)).any (·.1)=false
 |.nil,[],_,_,_=>rfl
 |.cons e es,p::ps,h,env,pos=>by
  replace h:=ak h
  rw [notStar h.1];show(false||(backTo pos (starEach ps env)).any (·.1))=false
  rw [c5 h.2]
  rfl
 |.nil,_::_,h,_,_=>aM h
 |.cons _ _,[],h,_,_=>aM h
abbrev GA(X:Cx)(W:Wd)(F:aO)(es:Es)(ps:List Expr):Prop:=PA X ps (tA X W F es)
theorem Ek:GA X W F .nil []:=L2.PA.imp dq λσ H Q h=>by
 obtain⟨H0,G,env,sr,o⟩:=h
 rw [bE] at o;exact o [] G H (.refl sr.sub) ⟨.nil,λ_=>.nil⟩
theorem zM{e:E}{es:Es}{p:Expr}{ps:List Expr}(he:GE X W F e p)(hs:GA X W F es ps)(eB:starEach (p::ps) X.env=(false,eval p X.env)::starEach ps X.env):GA X W F (.cons e es) (p::ps):=
 L2.PA.imp (bW he hs eB) λσ H Q h=>by
  obtain⟨H0,G,env,sr,o⟩:=h
  rw [bE] at o;refine one sr o λq v G1 H1 g1 t1 bA o1=>args bA o1 λqs vs G2 H2 g2 t2 lh o2=>?_
  refine o2 (v::vs) G2 H2 (g1.trans g2) ⟨.cons (t1.top.grow g2) t2.top,λz=>?_⟩
  unfold iy at z;rw [zza] at z;exact .cons (Rep.same g2.g q (t1.rep z.1)) (t2.rep z.2)
theorem gk:∀{es:Es} {env:Sl} {ps:List PV},bE F es env=.ok ps->ps.length=dZ es
 |.nil,env,ps,h=>by rw [bE] at h;cases h;rfl
 |.cons e es,env,ps,h=>by
  rw [bE] at h;obtain⟨p,_,h⟩:=Res.aK h
  obtain⟨qs,hq,h⟩:=Res.aK h
  cases h;rw [zzL,gk hq]
  rfl
theorem ES{es:Es}{ps:List Expr}{x1:Nat}{pos:Pos}(Fy:iy es=true)(hl:dZ es<1000)(h:GA X W F es ps):GE X W F (.tup es) (.Tuple ps x1 pos):=
 L2.PE.imp (FI h) λσ H Q hq=>by
  obtain⟨H0,G,env,sr,o⟩:=hq
  rw [ax] at o;have o':=o
  refine⟨H0,G,env,sr,?_⟩;cases r:bE F es env with
  |bad=>rw [r] at o;exact o
  |exc c=>rw [r] at o;exact o
  |ok qs=>
   rw [r] at o;have hlen:=gk r
   intro vs G1 H1 g1 t;have l:=t.rep Fy
   refine⟨by rw [l.length,hlen];exact Nat.le_of_lt (Nat.lt_trans hl (by decide)),λp hp=>?_⟩
   exact o _ _ _ (g1.trans (.new g1.sub hp)) (.of (.t (.inl aw) (ah.same (aS (g1.sub.free hp)) qs l)))
theorem xU{es:Es}{ps:List Expr}{pos:Pos}(Fy:iy es=true)(hl:dZ es<1000)(h:GA X W F es ps):GF X W F (.lst es) (.List ps pos):=
 L2.PE.imp (D9 h) λσ H Q hq=>by
  obtain⟨H0,G,env,sr,o⟩:=hq
  rw [ax] at o;refine⟨H0,G,env,sr,?_⟩;cases r:bE F es env with
  |bad=>rw [r] at o;exact o
  |exc c=>rw [r] at o;exact o
  |ok qs=>
   rw [r] at o;have hlen:=gk r
   obtain⟨xs,e,o⟩:=o
   cases e;intro vs G1 H1 g1 t;have l:=t.rep Fy
   exact⟨by rw [l.length,hlen];exact Nat.le_of_lt (Nat.lt_trans hl (by decide)),λp hp=>o p vs G1 H1 g1 hp l⟩
theorem lst_is{es:Es}:∀env q,ax F (.lst es) env=.ok q->∃xs,q=.lst xs:=λenv q h=>by
 rw [ax] at h;obtain⟨ps,_,h⟩:=Res.aK h
 cases h;exact⟨_,rfl⟩
def uI{p q:PV}(c:Str):aJ p q≠.exc c:=by
 unfold aJ
 (repeat' first|split|refine nE λ_=>?_|exact Res.aE c|exact(λz=>nomatch z))
def EU(C:dj Γ F W N sc k X){a b:E}{pa pb:Expr}{pos:Pos}(ha:GE X W F a pa)(hb:GE X W F b pb)(hs:m5 pb):GE X W F (.sub a b) (.Subscript pa pb pos):=
 (Ho (K1 C.K C.room.units) ha hb hs).imp λσ H Q h=>two (λp q c=>uI c) (λenv=>by rw [ax]) h
def xP{e:E}{p:Expr}(h:aR Γ N sc e p=true):m5 p:=by
 intro o i;cases p<;>first|rfl|(cases e<;>first|(exact aM h)|(rename_i q;cases q<;>exact aM h))
def m4{e:E}{p:Expr}(h:aR Γ N sc e p=true)(op:CmpOp):behindInMarks op p=false:=by
 cases p<;>first|rfl|(cases e<;>first|(exact aM h)|(rename_i q;cases q<;>exact aM h))
def zL{CX:vH}{f:Addr}{fd:FuncData}{ps:List Str}{sp:Sp}{E:XK}{aa:List (Addr×Obj)}{σ:St}{H:Hp}{s:Shared}{Q:VK}{us:List Value}{vs:List V}(FO:fq X.prog X.w X.K X.mg X.base CX k f fd ps sp)(hr:dv k X.A)(hb:Binds X.K fd ps [])
 (hx:∀e s',CX X.stack H s E e s'->X.xe e s') (I:Inv X aa σ H s) (r:Vals vs us) (h:sp vs H Q E):wpAny (model X.prog X.w) X.A (call (.ref f) us) (EP X aa σ Q) X.xe s:=by
 have hl:us.length=ps.length:=by rw [<-r.length];exact FO.len _ _ _ _ h
 have kq:=hb s us I.rY (by rw [zz6];exact hl)
 rw [zz6] at kq;refine wpAny_call (codeAny_mono (FO.run X.A X.stack s H ⟨us,[]⟩ us vs Q E hr I.E4 kq r h) λr s' hq=>?_)
 cases r with
 |error e=>exact hx e s' hq
 |ok fl=>
  cases fl with
  |ret u=>exact I.after hq
  |next=>exact zzk hq
  |brk=>exact zzk hq
  |cont=>exact zzk hq
def F1.imp{P:Program}{w:World}{outer:List Env}{H:Hp}{s s':Shared}{E E':XK}{e:Value}(h:fw P w outer H s E e s')(i:∀C a H',E C a H'->E' C a H'):fw P w outer H s E' e s':=by
 obtain⟨a,C,t,vs,H',B,rfl,F⟩:=h
 exact⟨a,C,t,vs,H',B,rfl,⟨F.os,F.bare,F.aU,F.Jl,F.tn,F.tup,F.ij,F.eC,F.un,i _ _ _ F.ends⟩⟩
def oB(hr:dv k X.A){f:Str}{fa:Addr}{fd:FuncData}{pn:List Str}{q:Option (Str×List Nat)}{aa:List (Addr×Obj)}{σ:St}{G H:Hp}{s:Shared}{Q:VK}{us:List Value}{vs:List V}{as:List PV}
 (FO:fq X.prog X.w X.K X.mg X.base (fw X.prog X.w) k fa fd pn (xi W F f pn.length q)) (hb:Binds X.K fd pn []) (hlen:F f as≠.bad->vs.length=pn.length)
 (I:Inv X aa σ H s) (sg:aq G H) (tb:b9 W G H) (l:wY W G q as vs) (r:Vals vs us) (o:Out X W (F f as) σ G H λp=>cJ W G H p Q):wpAny (model X.prog X.w) X.A (call (.ref fa) us) (EP X aa σ Q) X.xe s:=by
 have Ln:F f as≠.bad:=λz=>by rw [z] at o;exact o
 refine zL (E:=λCv ao H'=>∃c,F f as=.exc c/\XE W c G H Cv ao H') FO hr hb (λe s' x=>?_) I r ⟨hlen Ln,G,as,sg,tb,l,?_⟩
 ·cases z:F f as with
  |ok q=>
   obtain⟨a,C',t,vs,H',B,rfl,Fl⟩:=x
   obtain⟨c,e1,_⟩:=Fl.ends
   rw [z] at e1;cases e1
  |exc c=>
   rw [z] at o;refine o aa G H s e s' I (.refl sg) (F1.imp x λC1 a H' y=>?_);obtain⟨c',e1,y⟩:=y
   rw [z] at e1;cases e1;exact y
  |bad=>exact absurd z Ln
 ·cases z:F f as with
  |ok q=>
   rw [z] at o;exact λv G' H' g' rp=>o v G' H' g' rp
  |exc c=>exact λCv ao H' x=>⟨c,rfl,x⟩
  |bad=>exact absurd z Ln
def dj.rm(C:dj Γ F W N sc k X):dv k X.A:=C.room.mono (Nat.le_succ k)
def zI(C:dj Γ F W N sc k X){f:Str}{e:E}{es:Es}{p:Expr}{ps:List Expr}{np pos:Pos}(hf:Γ.fs.contains f=true)(hg:fL sc f=true)(ho:okN f=true)(Fy:iy (.cons e es)=true)(ha:GA X W F (.cons e es) (p::ps))
 (eB:starEach (p::ps) X.env=(false,eval p X.env)::starEach ps X.env) (hpl:(backTo pos (starEach ps X.env)).any (·.1)=false):GE X W F (.call f (.cons e es)) (.Call (.Name f np) (p::ps) [] pos):=by
 intro aa s σ H Q I h;obtain⟨H0,G,env,sr,o⟩:=h
 rw [ax] at o;obtain⟨fa,fd,pn,FO,hm,hk,hb,hlen⟩:=(C.fns f hf).ex
 refine wpAny_Call_Name_kw (iH I (dD C hg) hm ?_ (fx ho).1);refine PySem.W.callWith_K (h₀:=X.base) I.ok.mod.Mh hk (bh (ha pos aa s σ H (λvs H1=>∃G1 as,aq G1 H1/\b9 W G1 H1/\ah W G1 as vs/\Out X W (F f as) σ G1 H1 λp=>cJ W G1 H1 p Q) I ?_) λus s1 ⟨vs,H1,I1,r,q⟩=>⟨I1.rY,?_⟩) eB hpl
 ·refine args sr o λas vs G1 H1 g1 t bA o1=>⟨G1,as,bA.sub,bA.tab,t.rep Fy,o1.imp λp hp v G' H' g' rp=>hp v G' H' (g1.trans g') (.of rp)⟩
 ·obtain⟨G1,as,sg,tb,l,o1⟩:=q
  exact oB C.rm FO hb (λz=>by rw [l.length];exact hlen as z) I1 sg tb l r o1
def wB(C:dj Γ F W N sc k X){f:Str}{np pos:Pos}(hf:Γ.fs.contains f=true)(hg:fL sc f=true)(ho:okN f=true):GE X W F (.call f .nil) (.Call (.Name f np) [] [] pos):=by
 intro aa s σ H Q I h;obtain⟨H0,G,env,sr,o⟩:=h
 rw [ax,bE] at o;obtain⟨fa,fd,pn,FO,hm,hk,hb,hlen⟩:=(C.fns f hf).ex
 refine wpAny_Call_Name_kw (iH I (dD C hg) hm ?_ (fx ho).1);refine PySem.W.callWith_K0 I.rY hk ?_;have o':Out X W (F f []) σ G H λp=>∀v G' H',av W G H G' H'->Got W H0 G' H' (.call f .nil) p v->Q v H':=o
 exact oB (us:=[]) (vs:=[]) (as:=[]) (q:=none) C.rm FO hb (λz=>hlen [] z) I sr.sub sr.tab (show ah W G [] [] from .nil) .nil (o'.imp λp hp v G' H' g' rp=>hp v G' H' g' (.of rp))
def AU{ps:List PV}(c:Str):qZ ps≠.exc c:=by
 unfold qZ
 (repeat' first|split|refine nE λ_=>?_|exact Res.aE c|exact(λz=>nomatch z))
def Aw{ps:List PV}(c:Str):xf ps≠.exc c:=by
 unfold xf
 (repeat' first|split|refine nE λ_=>?_|exact Res.aE c|exact(λz=>nomatch z))
def zH{ps:List PV}(c:Str):vS ps≠.exc c:=by
 unfold vS
 (repeat' first|split|refine nE λ_=>?_|exact Res.aE c|exact(λz=>nomatch z))
def yc{ps:List PV}(c:Str):pQ ps≠.exc c:=by
 unfold pQ
 (repeat' first|split|refine nE λ_=>?_|exact Res.aE c|exact(λz=>nomatch z))
def ve{ps:List PV}(c:Str):je ps≠.exc c:=by
 unfold je
 (repeat' first|split|refine nE λ_=>?_|exact Res.aE c|exact(λz=>nomatch z))
def AS{ps:List PV}(c:Str):yj ps≠.exc c:=by
 unfold yj
 (repeat' first|split|refine nE λ_=>?_|exact Res.aE c|exact(λz=>nomatch z))
def yZ{ps:List PV}(c:Str):v3 ps≠.exc c:=by
 unfold v3
 (repeat' first|split|refine nE λ_=>?_|exact Res.aE c|exact(λz=>nomatch z))
def qQ{ps:List PV}(c:Str):gv ps≠.exc c:=by
 unfold gv
 (repeat' first|split|refine nE λ_=>?_|exact Res.aE c|exact(λz=>nomatch z))
def pV{ps:List PV}(c:Str):fY ps≠.exc c:=by
 unfold fY
 (repeat' first|split|refine nE λ_=>?_|exact Res.aE c|exact(λz=>nomatch z))
def xr{ps:List PV}(c:Str):oW ps≠.exc c:=by
 unfold oW
 (repeat' first|split|refine nE λ_=>?_|exact Res.aE c|exact(λz=>nomatch z))
def uw{b:B}{ps:List PV}(c:Str):cw b ps≠.exc c:=match b with
 |.len=>AU c|.int=>Aw c|.str=>zH c|.list=>yc c|.tuple=>ve c|.all=>AS c|.sum=>yZ c|.sorted=>qQ c
def uS{m:M}{ps:List PV}(c:Str):mw m ps≠.exc c:=match m with
 |.bY=>pV c|.join=>xr c
def DF(C:dj Γ F W N sc k X)(hq:Γ.qt=false)(b:B){e:Expr}{es:List Expr}{t:TA}{np pos:Pos}(hg:fL sc (bN b)=true)(hm:Γ.bs.contains (bN b)=true)(ha:PA X (e::es) t)
 (he:starEach (e::es) X.env=(false,eval e X.env)::starEach es X.env) (hpl:(backTo pos (starEach es X.env)).any (·.1)=false):PE X (.Call (.Name (bN b) np) (e::es) [] pos) (Jw (wO W (cw b)) t):=by
 have pT:=C.bs _ (zzn.mp hm)
 have ra:=dD C hg
 cases b
 case len=>exact dI (ua C.K) ra pT PySem.boot_len ha (he:=he) (hpl:=hpl)
 case int=>exact eY uf ra pT (by decide+kernel) ha (he:=he) (hpl:=hpl)
 case str=>exact eY uv ra pT (by decide+kernel) ha (he:=he) (hpl:=hpl)
 case list=>exact eY (q9 (C.calm hq) C.K) ra pT (by decide+kernel) ha (he:=he) (hpl:=hpl)
 case tuple=>exact eY (pI C.K) ra pT (by decide+kernel) ha (he:=he) (hpl:=hpl)
 case all=>exact dI (uY (C.calm hq) C.K) ra pT (by decide+kernel) ha (he:=he) (hpl:=hpl)
 case sum=>exact dI (uz (C.calm hq) C.K) ra pT (by decide+kernel) ha (he:=he) (hpl:=hpl)
 case sorted=>exact dI (mL C.K (C.calm hq)) ra pT (by decide+kernel) ha (he:=he) (hpl:=hpl)
def Ds{op:List PV->Res PV}{es:Es}{e:E}{σ:St}{H:Hp}{Q:VK}(hn:∀ps c,op ps≠.exc c)(he:∀env,ax F e env=(bE F es env).bind λps=>op ps)(h:tE X W F e σ H Q):Jw (wO W op) (tA X W F es) σ H Q:=by
 obtain⟨H0,G,env,sr,o⟩:=h
 rw [he] at o;refine args sr o λps vs G1 H1 g1 t bA o1=>?_
 obtain⟨r,hr,kr⟩:=o1.val (hn ps)
 exact⟨H0,G1,ps,r,bA.sub,t.top,hr,λw G' H' g' fT=>kr w G' H' (g1.trans g') (.of fT)⟩
def EA(C:dj Γ F W N sc k X)(hq:Γ.qt=false)(b:B){es:Es}{e:Expr}{ps:List Expr}{np pos:Pos}(hg:fL sc (bN b)=true)(hm:Γ.bs.contains (bN b)=true)(ha:GA X W F es (e::ps))
 (he:starEach (e::ps) X.env=(false,eval e X.env)::starEach ps X.env) (hpl:(backTo pos (starEach ps X.env)).any (·.1)=false):GE X W F (.blt b es) (.Call (.Name (bN b) np) (e::ps) [] pos):=
 (DF C hq b hg hm ha he hpl).imp λσ H Q h=>Ds (λps c=>uw c) (λenv=>by rw [ax]) h
def yq{t:Ty}{p:PV}(c:Str):kc t p≠.exc c:=by
 cases p<;>exact λz=>nomatch z
def Fs(C:dj Γ F W N sc k X)(t:Ty){pos:Pos}(hg:fL sc (Str.ofString (q0 t))=true)(hm:Γ.bs.contains (Str.ofString (q0 t))=true):PE X (.Name (Str.ofString (q0 t)) pos) (tC (.ty (q0 t))):=by
 have pT:=C.bs _ (zzn.mp hm)
 have ra:=dD C hg
 cases t
 all_goals exact zw ra pT (u:=.type _) (by decide+kernel) rfl (by decide+kernel) (by decide+kernel)
def Gy(C:dj Γ F W N sc k X){t:Ty}{a:E}{pa:Expr}{np tp pos:Pos}(hi:fL sc "isinstance"=true)(hb:Γ.bs.contains "isinstance"=true)(hg:fL sc (Str.ofString (q0 t))=true)(hm:Γ.bs.contains (Str.ofString (q0 t))=true)(ha:GE X W F a pa)
 (eB:∀env ps,starEach (pa::ps) env=(false,eval pa env)::starEach ps env):GE X W F (.ty t a) (.Call (.Name "isinstance" np) [pa,.Name (Str.ofString (q0 t)) tp] [] pos):=by
 refine(dI (xE C.K t) (dD C hi) (C.bs _ (zzn.mp hb)) (by decide+kernel) (bW ha (bW (Fs C t hg hm) dq) (eB _ _)) (he:=eB _ _)).imp λσ H Q h=>?_
 obtain⟨H0,G,env,sr,o⟩:=h
 rw [ax] at o;refine one sr o λp v G1 H1 g1 t1 bA o1=>?_
 obtain⟨r,hr,kr⟩:=o1.val (λc=>yq c)
 exact⟨v,H0,G1,p,r,rfl,bA.sub,t1.top,hr,λw G' H' g' fT=>kr w G' H' (g1.trans g') (.of fT)⟩
noncomputable def mT:M->String
 |.join=>"str"|.bY=>"str"
def LB(C:dj Γ F W N sc k X){m:M}{p:PV}{v:V}{H0 G H:Hp}(sg:aq G H)(h:n9 m p=true)(t:Top W H0 G H p v):K5 X.K (mT m) v H:=by
 cases m<;>cases p<;>first|(exact aM h)|(cases t.str;rfl)|(obtain⟨a,vs,rfl,h1,_⟩:=t.lst sg;exact .inl ⟨rfl,_,iZ C.K h1⟩)
def CN(C:dj Γ F W N sc k X){m:M}{o:E}{es:Es}{po p:Expr}{ps:List Expr}{apos ba:Pos}(ho:GE X W F o po)(ha:GA X W F es (p::ps))(cY:attributeBase po (mN m) X.env (eval po X.env)=eval po X.env)
 (AE:((backTo ba (starEach (p::ps) X.env)).all (λx=>!x.1)&&(backToKw ba (keywordEach [] X.env)).all (λx=>x.1.isSome)&&decide ((p::ps).length+([]:List Keyword).length+(if([]:List Keyword).isEmpty then 0 else 1)<30))=true)
 (dX:(apos.endLine==ba.line)=true) (hs:starEach (p::ps) X.env=(false,eval p X.env)::starEach ps X.env) (gS:(backTo ba (starEach ps X.env)).any (·.1)=false):GE X W F (.pU m o es) (.Call (.Attribute po (mN m) apos) (p::ps) [] ba):=by
 have rd:∀σ H Q,tE X W F (.pU m o es) σ H Q->MF X.K (mT m) (Ke W (mw m)) (tE X W F o) (tA X W F es) σ H Q:=λσ H Q h=>by
  obtain⟨H0,G,env,sr,out⟩:=h
  rw [ax] at out;refine one sr out λp v G1 H1 g1 t1 bA o1=>?_
  by_cases hk:n9 m p=true
  ·rw [if_pos hk] at o1;refine⟨LB C bA.sub hk t1.top,args bA o1 λps vs G2 H2 g2 t2 lh o2=>?_⟩
   obtain⟨r,hr,kr⟩:=o2.val (λc=>uS c)
   exact⟨H0,G2,p::ps,r,lh.sub,.cons (t1.top.grow g2) t2.top,hr,λw G' H' g' fT=>kr w G' H' ((g1.trans g2).trans g') (.of fT)⟩
  ·rw [if_neg hk] at o1;exact o1.elim
 cases m
 case bY=>exact(tG PySem.F.plainAttrs_str PySem.F.slot_str_count PySem.F.type_str_count rj ho ha cY AE dX hs gS).imp rd
 case join=>exact(tG PySem.F.plainAttrs_str PySem.F.slot_str_join PySem.F.type_str_join (xY C.K) ho ha cY AE dX hs gS).imp rd
def SR.set{H0 G H:Hp}{env:Sl}{σ:St}{p:PV}{v:V}(i:Nat)(r:SR W H0 env σ G H)(h:Rep W G p v):SR W H0 (env.set i (.val p)) (σ.set i (some v)) G H where
 len:=by simpa using r.len
 sub:=r.sub
 tab:=r.tab
 iq:=r.iq
 base:=r.base
 slot:=λj s e=>by
  by_cases hj:i=j
  ·subst hj;have bU:i<env.length:=by
    have:=(zzH.mp e).1
    simpa using this
   rw [zzo bU] at e;cases e;exact⟨some v,zzo (by rw [<-r.len];exact bU),v,rfl,h⟩
  ·rw [zzS hj] at e;obtain⟨o,h1,h2⟩:=r.slot j s e
   exact⟨o,by rw [zzS hj];exact h1,h2⟩
 apart:=λa b q q' ad e1 e2 e3 e4=>by
  have ne:∀{c:Nat} {q:PV},(env.set i (.val p))[c]?=some (.own q)->i≠c:=λ{c q} e z=>by
   subst z;have bU:i<env.length:=by
    have:=(zzH.mp e).1
    simpa using this
   rw [zzo bU] at e;cases e
  have n1:=ne e1
  have n2:=ne e2
  rw [zzS n1] at e1 e3;rw [zzS n2] at e2 e4;exact r.apart a b q q' ad e1 e2 e3 e4
noncomputable def gT(K:zz8):Tg->TG
 |.one i=>eK i
 |.two i j=>Iz K 2 (rN (eK i) (rN (eK j) CI))
def qX{K:zz8}(hK:W.K=K){tg:Tg}{H0 G H:Hp}{env aj:Sl}{σ:St}{p:PV}{v:V}{Q:St->Hp->Prop}(e:Tg.put tg p env=.ok aj)(r:SR W H0 env σ G H)(h:Rep W G p v)(hq:∀σ',SR W H0 aj σ' G H->Q σ' H):gT K tg v σ H Q:=by
 unfold Tg.put at e;split at e
 ·cases e;exact hq _ (r.set _ h)
 ·cases e;simp! [Rep] at h;obtain⟨a,vs,rfl,sq,l⟩:=h
  obtain⟨v1,r1,rfl,h1,l⟩:=l.bK
  obtain⟨v2,r2,rfl,h2,l⟩:=l.bK
  simp! [ah] at l;subst l;rw [hK] at sq;exact⟨a,_,rfl,aq.tup r.sub sq.sq,rfl,_,_,rfl,_,_,rfl,rfl,hq _ ((r.set _ h1).set _ h2)⟩
 ·cases e
def wN{x:Str}(dU:X.env.scope=sc)(h:ft sc x=true):Loc X.env.scope x:=by
 rw [dU];unfold ft at h;simp! [zzt,zzy] at h;exact h
def BJ{fn:Str->Bool}{i:Nat}{p:Expr}(hN:X.N=N)(nd:N.Nodup)(dU:X.env.scope=sc)(r8:∀x,fn x=true->X.fn x=true)(h:K0 N sc fn i p=true):PG X p (eK i)/\∃x q,p=.Name x q:=by
 obtain⟨x,hx,h2⟩:=ag h
 obtain⟨q,rfl⟩:=dM hx
 simp! [zza,zzy,zzt] at h2;refine⟨AB (by rw [hN];exact nd) (by rw [hN];exact h2.1.1) (wN dU h2.1.2) ?_,x,q,rfl⟩;rcases h2.2 with z|z
 ·exact .inl (r8 x z)
 ·exact .inr (by rw [dU];exact z)
noncomputable def NS:List Nat->Ce
 |[]=>CI
 |i::is=>rN (eK i) (NS is)
theorem wQ{fn:Str->Bool}(hN:X.N=N)(nd:N.Nodup)(dU:X.env.scope=sc)(r8:∀x,fn x=true->X.fn x=true):∀(is:List Nat) (es:List Expr),CP N sc fn is es=true->HG X es (NS is)/\(assignEach es X.env).length=is.length/\(assignEach es X.env).findIdx? (·.1)=none
 |[],[],_=>⟨AQ,rfl,rfl⟩
 |i::is,a::as,h=>by
  have h:=ak h
  obtain⟨g1,x,p,rfl⟩:=BJ hN nd dU r8 h.1
  obtain⟨g,l,f⟩:=wQ hN nd dU r8 is as h.2
  have e:assignEach (.Name x p::as) X.env=(false,assign (.Name x p) X.env)::assignEach as X.env:=rfl
  refine⟨wg g1 g,by rw [e,zzL,l,zzL],?_⟩;rw [e,List.findIdx?_cons,f]
  rfl
 |[],_::_,h=>aM h
 |_::_,[],h=>aM h
def wW{fn:Str->Bool}{tg:Tg}{p:Expr}(hN:X.N=N)(nd:N.Nodup)(dU:X.env.scope=sc)(hc:X.calm=true)(r8:∀x,fn x=true->X.fn x=true)(h:fy N sc fn tg p=true):PG X p (gT X.K tg):=by
 cases tg with
 |one i=>exact(BJ hN nd dU r8 h).1
 |two i j=>
  obtain⟨es,h1,h2⟩:=ag h
  obtain⟨k,q,rfl⟩:=tK h1
  obtain⟨g,l,f⟩:=wQ hN nd dU r8 _ _ h2
  exact DW hc g l f
def jk(W:Wd)(J:It)(G B:Hp)(ps:List PV):Prop:=∀(i:Nat) (G' H':Hp),aq G G'->fS B H'->aq G' H'->
 (i=ps.length->J.stop i H')/\∀p,ps[i]?=some p->J.go i H'/\∀x i8,J.Fj i H' x i8->∃sR,av W G' H' sR i8/\Rep W sR p x
structure Cq(W:Wd)(G H:Hp)(it:I)(J:It)(ps:List PV):Prop where
 any:jk W J G H ps
 cV:Az it=true->jk W J G G ps
noncomputable def tI(X:Cx)(W:Wd)(F:aO)(it:I):TI:=λσ H R=>∃H0 G env,SR W H0 env σ G H/\Out X W (nB F it env) σ G H λps=>∀J G' H',av W G H G' H'->Cq W G' H' it J ps->R J H'
abbrev GI(X:Cx)(W:Wd)(F:aO)(tg:Expr)(it:I)(p:Expr):Prop:=PI X tg p (tI X W F it)
theorem rT(hK:W.K=X.K){G B:Hp}{a:Addr}{vs:List V}{ps:List PV}(h:nX W.K B a vs)(l:ah W G ps vs):jk W (JT X.K a) G B ps:=λi G' H' sG sB sub=>by
 have hq:fQ X.K H' a vs:=iZ hK (fS.ls sB h)
 refine⟨λhi=>⟨vs,hq,by rw [l.length];omega⟩,λp hp=>?_⟩
 obtain⟨v,hv,rv⟩:=l.nt hp
 refine⟨⟨vs,v,hq,hv⟩,λx i8 hy=>?_⟩
 obtain⟨rfl,hy⟩:=hy
 have:=hy vs hq
 rw [hv] at this;cases this;exact⟨G',.refl sub,Rep.same sG p rv⟩
theorem yb{K:zz8}{G B:Hp}{a:Addr}{vs:List V}{ps:List PV}(h:dJ K B a vs)(l:ah W G ps vs):jk W (Kt K a) G B ps:=λi G' H' sG sB sub=>by
 have hq:dJ K H' a vs:=fS.tup sB h
 refine⟨λhi=>⟨vs,hq,by rw [l.length];omega⟩,λp hp=>?_⟩
 obtain⟨v,hv,rv⟩:=l.nt hp
 refine⟨⟨vs,v,hq,hv⟩,λx i8 hy=>?_⟩
 obtain⟨rfl,hy⟩:=hy
 have:=hy vs hq
 rw [hv] at this;cases this;exact⟨G',.refl sub,Rep.same sG p rv⟩
def xT{G B:Hp}{a:Addr}{o:Obj}{ks:List (List Int)}{us:List V}(n:ks.length=us.length)(h:B a=some (.cV o (.dT (kz ks us)))):jk W (KW a o (kz ks us)) G B (ks.map fg):=λi G' H' sG sB sub=>by
 have hq:H' a=some (.cV o (.dT (kz ks us))):=sB.at h (λ_ z=>nomatch z)
 refine⟨λhi=>⟨hq,by rw [p7 n];rw [zzl] at hi;omega⟩,λp hp=>?_⟩
 rw [zzQ] at hp;obtain⟨k,hk,rfl⟩:=zzJ.mp hp
 have hi:i<ks.length:=(zzH.mp hk).1
 refine⟨⟨hq,by rw [p7 n];exact hi⟩,λx i8 hy=>?_⟩
 obtain⟨rfl,b,k',v,rfl,e2,e3⟩:=hy
 have ek:k'=ki k:=by
  have:=congrArg (λl=>l[i]?) (zb (us:=us) n)
  simp! [zzQ,e2,hk,Option.map_some] at this;exact zzq this
 rw [ek,GQ] at e3;obtain⟨G2,g2,l2⟩:=lN (W:=W) (vs:=[.ref b]) (nss:=[k]) sub (.cons ⟨b,rfl,e3⟩ .nil)
 obtain⟨w,r,ew,hw,_⟩:=l2.bK
 cases ew;exact⟨G2,g2,hw⟩
def lK{z:Str}{i:Nat}{p:PV}(h:(chars z)[i]?=some p):∃c,z.cps[i]?=some c/\p=.str ⟨#[c]⟩:=by
 unfold chars at h;rw [zzQ] at h;obtain⟨c,hc,rfl⟩:=zzJ.mp h
 rw [Array.getElem?_toList] at hc;exact⟨c,hc,rfl⟩
def lP(z:Str):(chars z).length=z.cps.size:=by unfold chars;rw [zzl,zzd]
theorem wj{G B:Hp}(z:Str):jk W (JK z) G B (chars z):=λi G' H' sG sB sub=>by
 refine⟨λhi=>by rw [lP] at hi;exact Nat.le_of_eq hi.symm,λp hp=>?_⟩
 obtain⟨c,hc,rfl⟩:=lK hp
 refine⟨(Array.getElem?_eq_some_iff.mp hc).1,λx i8 hy=>?_⟩
 obtain⟨rfl,c',kP,rfl⟩:=hy
 rw [hc] at kP;cases kP;exact⟨G',.refl sub,.s⟩
theorem m8{G B:Hp}(lo:Int)(n:Nat):jk W (Gq lo n) G B (dQ lo n):=λi G' H' sG sB sub=>by
 unfold dQ;refine⟨λhi=>by rw [zzl,List.length_range] at hi;exact Nat.le_of_eq hi.symm,λp hp=>?_⟩
 rw [zzQ] at hp;obtain⟨c,hc,rfl⟩:=zzJ.mp hp
 obtain⟨h1,h2⟩:=zzH.mp hc
 rw [List.length_range] at h1;rw [List.getElem_range] at h2;subst h2;refine⟨h1,λx i8 hy=>?_⟩
 obtain⟨rfl,rfl⟩:=hy
 exact⟨G',.refl sub,.i⟩
def jZ{G H:Hp}{p q:PV}{v u:V}{a:Addr}(sub:aq G H)(ha:H a=none)(h1:Rep W G p v)(h2:Rep W G q u):∃sR,av W G H sR (upd H a (.tup [v,u]))/\Rep W sR (.tup [p,q]) (.ref a):=
 ⟨_,.new sub ha,.t (.inl aw) (ah.same (aS (sub.free ha)) _ (.cons h1 (.cons h2 .nil)))⟩
theorem gc:∀{xs:List PV} {n i:Nat} {p:PV},(bB n xs)[i]?=some p->∃x,xs[i]?=some x/\p=.tup [.int ((n+i:Nat):Int),x]
 |[],_,_,_,h=>by simp [bB] at h
 |x::xs,n,0,p,h=>by simp [bB] at h;exact⟨x,rfl,by rw [<-h];simp⟩
 |x::xs,n,i+1,p,h=>by
  simp! [bB,List.getElem?_cons_succ] at h;obtain⟨y,h1,h2⟩:=gc h
  exact⟨y,by simpa using h1,by rw [h2,show n+1+i=n+(i+1) by omega]⟩
theorem bu:∀(xs:List PV) (n:Nat),(bB n xs).length=xs.length
 |[],_=>rfl
 |_::xs,n=>by simp! [bB,zzL,bu xs]
theorem oS{K:zz8}{G B:Hp}{a:Addr}{vs:List V}{ps:List PV}(h:dJ K B a vs)(l:ah W G ps vs):jk W (K8 K a vs) G B (bB 0 ps):=λi G' H' sG sB sub=>by
 have hq:dJ K H' a vs:=fS.tup sB h
 refine⟨λhi=>⟨hq,by rw [bu] at hi;rw [l.length];exact hi⟩,λp hp=>?_⟩
 obtain⟨x,hx,rfl⟩:=gc hp
 obtain⟨v,hv,rv⟩:=l.nt hx
 refine⟨⟨hq,(zzH.mp hv).1⟩,λy i8 hy=>?_⟩
 obtain⟨b,x',rfl,hb,rfl,vD⟩:=hy
 rw [hv] at vD;cases vD;rw [Nat.zero_add];exact jZ sub hb .i (Rep.same sG x rv)
theorem i7(hK:W.K=X.K){G B:Hp}{a:Addr}{vs:List V}{ps:List PV}(h:nX W.K B a vs)(l:ah W G ps vs):jk W (Dr X.K a vs) G B (bB 0 ps):=λi G' H' sG sB sub=>by
 have hq:fQ X.K H' a vs:=iZ hK (fS.ls sB h)
 refine⟨λhi=>⟨hq,by rw [bu] at hi;rw [l.length];exact hi⟩,λp hp=>?_⟩
 obtain⟨x,hx,rfl⟩:=gc hp
 obtain⟨v,hv,rv⟩:=l.nt hx
 refine⟨⟨hq,(zzH.mp hv).1⟩,λy i8 hy=>?_⟩
 obtain⟨b,x',rfl,hb,rfl,vD⟩:=hy
 rw [hv] at vD;cases vD;rw [Nat.zero_add];exact jZ sub hb .i (Rep.same sG x rv)
theorem o6{G B:Hp}(z:Str):jk W (JI z) G B (bB 0 (chars z)):=λi G' H' sG sB sub=>by
 refine⟨λhi=>by rw [bu,lP] at hi;exact hi,λp hp=>?_⟩
 obtain⟨x,hx,rfl⟩:=gc hp
 obtain⟨c,hc,rfl⟩:=lK hx
 refine⟨(Array.getElem?_eq_some_iff.mp hc).1,λy i8 hy=>?_⟩
 obtain⟨b,c',rfl,hb,rfl,kP⟩:=hy
 rw [hc] at kP;cases kP;rw [Nat.zero_add];exact jZ sub hb .i .s
def Mp(W:Wd)(G:Hp)(t:Zt)(xs:List PV):Prop:=(if t.1=true then nX W.K G t.2.1 t.2.2 else FG W.K G t.2.1 t.2.2)/\ah W G xs t.2.2
theorem yK{G:Hp}:∀{ps:List PV} {vs:List V} {xss:List (List PV)},ah W G ps vs->ip ps=some xss->∃ts:List Zt,vs=ts.map (λt=>V.ref t.2.1)/\Paired (Mp W G) ts xss
 |[],vs,xss,l,h=>by
  simp! [ah] at l;subst l;cases h;exact⟨[],rfl,.nil⟩
 |p::ps,vs,xss,l,h=>by
  obtain⟨v,r,rfl,h1,h2⟩:=l.bK
  obtain⟨xs,e1,h⟩:=zzZ.1 (show(Ht p).bind (λxs=>(ip ps).map (xs::·))=some xss from h)
  obtain⟨yss,e2,rfl⟩:=zzJ.1 h
  obtain⟨ts,rfl,pd⟩:=yK h2 e2
  cases p with
  |lst ys=>
   cases e1;simp! [Rep] at h1;obtain⟨a,us,rfl,k,m⟩:=h1
   exact⟨(true,a,us)::ts,rfl,.cons ⟨k,m⟩ pd⟩
  |tup ys=>
   cases e1;simp! [Rep] at h1;obtain⟨a,us,rfl,k,m⟩:=h1
   exact⟨(false,a,us)::ts,rfl,.cons ⟨k,m⟩ pd⟩
  |_=>cases e1
theorem rV:∀{xss:List (List PV)},∀xs∈xss,ko xss<=xs.length
 |[xs],ys,h=>by rw [zzi.1 h];exact zzE _
 |xs::y::r,ys,h=>by
  show min xs.length (ko (y::r))<=_
  rcases zzm.1 h with rfl|h
  ·exact Nat.min_le_left ..
  ·exact zzU (Nat.min_le_right ..) (rV ys h)
theorem rL:∀{xss:List (List PV)},xss≠[]->∃xs∈xss,xs.length=ko xss
 |[xs],_=>⟨xs,zzi.2 rfl,rfl⟩
 |xs::y::r,_=>by
  show∃zs∈xs::y::r,zs.length=min xs.length (ko (y::r))
  rcases Nat.le_total xs.length (ko (y::r)) with h|h
  ·exact⟨xs,zzP ..,(Nat.min_eq_left h).symm⟩
  ·obtain⟨zs,h1,h2⟩:=rL (xss:=y::r) (List.cons_ne_nil _ _)
   exact⟨zs,zzI _ h1,by rw [h2,Nat.min_eq_right h]⟩
theorem sy{G:Hp}{i:Nat}:∀{ts:List Zt} {xss:List (List PV)} {ys:List V},Paired (Mp W G) ts xss->Paired (λ(q:Zt) y=>q.2.2[i]?=some y) ts ys->ah W G (xss.map λxs=>xs.getD i .aI) ys
 |_,_,_,.nil,.nil=>.nil
 |_,_,_,.cons r t,.cons u v=>by
  obtain⟨p,hp,rp⟩:=r.2.get u
  refine .cons ?_ (sy t v);dsimp only;rw [zzK,hp];exact rp
def yJ(hK:W.K=X.K){G B:Hp}{ts:List Zt}{xss:List (List PV)}(hn:ts≠[])(h:Paired (Mp W G) ts xss)(hB:aq G B):jk W (Ku X.K ts) G B (kb xss):=λi G' H' sG sB sub=>by
 have sq:∀t∈ts,Zq X.K H' t:=λt ht=>by
  obtain⟨xs,_,r⟩:=dE h t ht
  have:=r.1
  unfold Zq;split
  ·rename_i e;rw [if_pos e] at this;exact iZ hK (aq.ls (λa o z=>sub a o (sG a o z)) this)
  ·rename_i e;rw [if_neg e] at this;exact hK▸aq.tup (λa o z=>sub a o (sG a o z)) this.sq
 have len:∀t∈ts,ko xss<=t.2.2.length:=λt ht=>by
  obtain⟨xs,h1,r⟩:=dE h t ht
  rw [r.2.length];exact rV xs h1
 have zl:(kb xss).length=ko xss:=by simp [kb]
 refine⟨λhi=>?_,λp hp=>?_⟩
 ·rw [zl] at hi;subst hi;refine⟨λt ht=>⟨sq t ht,len t ht⟩,?_⟩
  have hx:xss≠[]:=λz=>by subst z;cases h;exact hn rfl
  obtain⟨xs,h1,h2⟩:=rL hx
  obtain⟨t,ht,r⟩:=bD h xs h1
  exact⟨t,ht,by rw [r.2.length,h2]⟩
 ·have hi:i<ko xss:=by rw [<-zl];exact(zzH.1 hp).1
  have K4:p=.tup (xss.map λxs=>xs.getD i .aI):=by
   unfold kb at hp;rw [zzQ,List.getElem?_range hi] at hp;exact(zzq hp).symm
  refine⟨λt ht=>⟨sq t ht,zzW hi (len t ht)⟩,λx i8 hy=>?_⟩
  obtain⟨a,ys,rfl,ha,rfl,py⟩:=hy
  subst K4;refine⟨_,.new sub ha,.t (.inl aw) (ah.same (aS (sub.free ha)) _ (ah.same sG _ (sy h py)))⟩
def c7{e:E}{σ:St}{H0 G H:Hp}{env:Sl}{Q:VK}{p:PV}(sr:SR W H0 env σ G H)(e1:ax F e env=.ok p)(h:∀v G1 H1,av W G H G1 H1->Got W H0 G1 H1 e p v->Q v H1):tE X W F e σ H Q:=⟨H0,G,env,sr,by rw [e1];exact h⟩
def xO{e:E}{σ:St}{H0 G H:Hp}{env:Sl}{Q:VK}{c:Str}(sr:SR W H0 env σ G H)(e1:ax F e env=.exc c)(h:qP X W σ c G H):tE X W F e σ H Q:=⟨H0,G,env,sr,by rw [e1];exact h⟩
def CD(C:dj Γ F W N sc k X){tg p:Expr}{e:E}(he:GE X W F e p):GI X W F tg (.seq e) p:=by
 intro aa s σ H R I h;obtain⟨H0,G,env,sr,o⟩:=h
 rw [nB] at o;cases r:ax F e env with
 |bad=>rw [r] at o;exact o.elim
 |exc c=>rw [r] at o;exact sO he aa s σ H R I (xO sr r o)
 |ok q=>
  rw [r] at o;cases q with
  |lst xs=>
   refine sO he aa s σ H R I (c7 sr r λv G1 H1 g1 t=>?_);have t':=t
   obtain⟨a,vs,rfl,h1,l1⟩:=t.top.lst g1.sub
   refine⟨a,rfl,⟨vs,iZ C.K h1⟩,o _ G1 H1 g1 ⟨rT C.K h1 l1,λz=>?_⟩⟩
   have rp:=t'.rep z
   simp! [Rep] at rp;obtain⟨a',vs',e1,h2,l2⟩:=rp
   cases e1;exact rT C.K h2 l2
  |tup xs=>
   refine FE he aa s σ H R I (c7 sr r λv G1 H1 g1 t=>?_);have t':=t
   obtain⟨a,vs,rfl,h1,l1⟩:=t.top.tup g1.sub
   rw [C.K] at h1;refine⟨a,rfl,⟨vs,h1⟩,o _ G1 H1 g1 ⟨yb h1 l1,λz=>?_⟩⟩
   have rp:=t'.rep z
   simp! [Rep] at rp;obtain⟨a',vs',e1,h2,l2⟩:=rp
   cases e1;rw [C.K] at h2;exact yb h2.sq l2
  |str z=>exact C8 he aa s σ H R I (c7 sr r λv G1 H1 g1 t=>⟨z,t.top.str,o _ G1 H1 g1 ⟨wj z,λ_=>wj z⟩⟩)
  |int _=>exact zzk o
  |bl _=>exact zzk o
  |aI=>exact zzk o
  |exc _=>exact zzk o
  |dB ks qs=>
   by_cases HX:fV e=true
   ·have O1:qp e (.dB ks qs)=.ok (ks.map fg):=by
     cases e<;>first|rfl|exact aM HX
    have o2:Out X W (qp e (.dB ks qs)) σ G H λps=>∀(J:It) (G' H':Hp),av W G H G' H'->Cq W G' H' (Ci.I.seq e) J ps->R J H':=o
    rw [O1] at o2;refine Ei he aa s σ H R I (c7 sr r λv G1 H1 g1 t=>?_);have rp:=t.rep HX
    simp! [Rep] at rp;obtain⟨a,ob,us,rfl,n,h1,l1⟩:=rp
    exact⟨a,ob,_,rfl,g1.sub _ _ h1,o2 _ G1 H1 g1 ⟨xT n (g1.sub _ _ h1),λ_=>xT n h1⟩⟩
   ·have:∃i,e=.AH i:=by
     cases e<;>first|exact⟨_,rfl⟩|exact absurd rfl HX
    obtain⟨i,rfl⟩:=this
    exact zzk o
def cC{i:Int}(h:aD i=true): -(2^62)<=i/\i<2^62:=by
 unfold aD at h
 simpa using h
def FN(C:dj Γ F W N sc k X){tg p:Expr}{e:E}{np pos:Pos}(hg:fL sc "range"=true)(hb:Γ.bs.contains "range"=true)(eB:∀env ps,starEach (p::ps) env=(false,eval p env)::starEach ps env)(he:GE X W F e p):GI X W F tg (.rn e) (.Call (.Name "range" np) [p] [] pos):=by
 intro aa s σ H R I h;refine vo (dD C hg) (C.bs _ (zzn.mp hb)) (bW he dq (eB _ _)) (eB _ _) aa s σ H R I ?_;obtain⟨H0,G,env,sr,o⟩:=h
 rw [nB] at o;refine one sr o λq v G1 H1 g1 t bA o1=>?_
 cases q with
 |int j=>
  by_cases hj:aD j=true
  ·have o2:Out X W (if aD j=true then Res.ok (dQ 0 j.toNat) else .bad) σ G1 H1 _:=o1
   rw [if_pos hj] at o2;exact⟨j,by rw [t.top.int],(cC hj).1,(cC hj).2,o2 _ G1 H1 g1 ⟨m8 _ _,λ_=>m8 _ _⟩⟩
  ·have o2:Out X W (if aD j=true then Res.ok (dQ 0 j.toNat) else .bad) σ G1 H1 _:=o1
   rw [if_neg hj] at o2;exact o2.elim
 |bl _=>exact zzk o1
 |aI=>exact zzk o1
 |str _=>exact zzk o1
 |tup _=>exact zzk o1
 |lst _=>exact zzk o1
 |exc _=>exact zzk o1
 |dB _ _=>exact zzk o1
def zx(C:dj Γ F W N sc k X){tg p q:Expr}{a b:E}{np pos:Pos}(hg:fL sc "range"=true)(hb:Γ.bs.contains "range"=true)(eB:∀env ps,starEach (p::ps) env=(false,eval p env)::starEach ps env)(D1:∀env ps,starEach (q::ps) env=(false,eval q env)::starEach ps env)
 (ha:GE X W F a p) (kq:GE X W F b q):GI X W F tg (.ng a b) (.Call (.Name "range" np) [p,q] [] pos):=by
 intro aa s σ H R I h;refine uE (dD C hg) (C.bs _ (zzn.mp hb)) (bW ha (bW kq dq (D1 _ _)) (eB _ _)) (by rw [eB,D1];rfl) (D1 _ _) aa s σ H R I ?_;obtain⟨H0,G,env,sr,o⟩:=h
 rw [nB] at o;refine one sr o λx v G1 H1 g1 t bA o1=>one bA o1 λy u G2 H2 g2 t2 lh o2=>?_
 cases x<;>cases y<;>first
  |(exact zzk o2)
  | (rename_i i j
     by_cases hj:(aD i&&aD j)=true
     ·have o3:Out X W (if(aD i&&aD j)=true then Res.ok (dQ i (j-i).toNat) else .bad) σ G2 H2 _:=o2
      rw [if_pos hj] at o3;rw [zza] at hj;exact⟨i,j,by rw [t.top.int,t2.top.int],⟨(cC hj.1).1,(cC hj.1).2,(cC hj.2).1,(cC hj.2).2⟩,o3 _ G2 H2 (g1.trans g2) ⟨m8 _ _,λ_=>m8 _ _⟩⟩
     ·have o3:Out X W (if(aD i&&aD j)=true then Res.ok (dQ i (j-i).toNat) else .bad) σ G2 H2 _:=o2
      rw [if_neg hj] at o3;exact o3.elim)
def Al(C:dj Γ F W N sc k X){elts:List Expr}{x1:Nat}{iD:Pos}{p:Expr}{e:E}{np pos:Pos}(hg:fL sc "enumerate"=true)(hb:Γ.bs.contains "enumerate"=true)(eB:∀env ps,starEach (p::ps) env=(false,eval p env)::starEach ps env)(he:GE X W F e p):
 GI X W F (.Tuple elts x1 iD) (.enum e) (.Call (.Name "enumerate" np) [p] [] pos):=by
 intro aa s σ H R I h;have ra:=dD C hg
 have pT:=C.bs _ (zzn.mp hb)
 have pa:=bW he dq (eB _ _)
 obtain⟨H0,G,env,sr,o⟩:=h
 rw [nB] at o;cases r:ax F e env with
 |bad=>rw [r] at o;exact o.elim
 |exc c=>rw [r] at o;exact pF ra pT pa (eB _ _) aa s σ H R I (xO sr r o)
 |ok q=>
  rw [r] at o;cases q with
  |lst xs=>
   refine pF ra pT pa (eB _ _) aa s σ H R I (c7 sr r λv G1 H1 g1 t=>?_)
   by_cases hz:fV e=true
   ·have rp:=t.rep hz
    simp! [Rep] at rp;obtain⟨a,vs,rfl,h2,l2⟩:=rp
    exact⟨a,vs,rfl,iZ C.K (aq.ls g1.sub h2),o _ G1 H1 g1 ⟨i7 C.K (aq.ls g1.sub h2) l2,λ_=>i7 C.K h2 l2⟩⟩
   ·obtain⟨a,vs,rfl,h1,l1⟩:=t.top.lst g1.sub
    exact⟨a,vs,rfl,iZ C.K h1,o _ G1 H1 g1 ⟨i7 C.K h1 l1,λz=>absurd z hz⟩⟩
  |tup xs=>
   refine yn ra pT pa (eB _ _) aa s σ H R I (c7 sr r λv G1 H1 g1 t=>?_);have t':=t.top
   rcases t' with rp|z
   ·simp! [Rep] at rp;obtain⟨a,vs,rfl,h2,l2⟩:=rp
    rw [C.K] at h2;exact⟨a,vs,rfl,aq.tup g1.sub h2.sq,o _ G1 H1 g1 ⟨oS (aq.tup g1.sub h2.sq) l2,λz=>oS h2.sq l2⟩⟩
   ·exact z.elim
  |str z=>exact vY ra pT pa (eB _ _) aa s σ H R I (c7 sr r λv G1 H1 g1 t=>⟨z,by rw [t.top.str],o _ G1 H1 g1 ⟨o6 z,λ_=>o6 z⟩⟩)
  |int _=>exact zzk o
  |bl _=>exact zzk o
  |aI=>exact zzk o
  |exc _=>exact zzk o
  |dB _ _=>exact zzk o
def Dx(C:dj Γ F W N sc k X){elts:List Expr}{x1:Nat}{iD:Pos}{p:Expr}{ps:List Expr}{as:Es}{np pos:Pos}(hg:fL sc "zip"=true)(hb:Γ.bs.contains "zip"=true)(Fy:iy as=true)(hn:dZ as=2\/dZ as=3)(ha:GA X W F as (p::ps))
 (eB:starEach (p::ps) X.env=(false,eval p X.env)::starEach ps X.env) (hpl:(backTo pos (starEach ps X.env)).any (·.1)=false):GI X W F (.Tuple elts x1 iD) (.zip as) (.Call (.Name "zip" np) (p::ps) [] pos):=by
 intro aa s σ H R I h;refine Aj (dD C hg) (C.bs _ (zzn.mp hb)) ha eB hpl aa s σ H R I ?_;obtain⟨H0,G,env,sr,o⟩:=h
 rw [nB] at o;refine⟨H0,G,env,sr,?_⟩;cases r:bE F as env with
 |bad=>rw [r] at o;exact o
 |exc c=>rw [r] at o;exact o
 |ok qs=>
  rw [r] at o;have hlen:=gk r
  intro vs G1 H1 g1 t;have l:=t.rep Fy
  have o:Out X W ((Res.of (ip qs)).bind λxss=>.ok (kb xss)) σ G H λps=>∀J G' H',av W G H G' H'->Cq W G' H' (.zip as) J ps->R J H':=o
  cases e:ip qs with
  |none=>rw [e] at o;exact zzk o
  |some xss=>
   rw [e] at o;obtain⟨ts,rfl,pd⟩:=yK l e
   have lt:ts.length=qs.length:=by have:=l.length;rwa [zzl] at this
   have c9:ts≠[]:=λz=>by subst z;simp at lt;omega
   refine⟨ts,rfl,by omega,λq hq=>?_,o _ G1 H1 g1 ⟨yJ C.K c9 pd g1.sub,λ_=>yJ C.K c9 pd (aq.refl _)⟩⟩
   obtain⟨xs,_,r⟩:=dE pd q hq
   have:=r.1
   unfold Zq;split
   ·rename_i e;rw [if_pos e] at this;exact iZ C.K (aq.ls g1.sub this)
   ·rename_i e;rw [if_neg e] at this;exact C.K▸aq.tup g1.sub this.sq
end
def uj{env:Env}{x:Str}{c:Addr}(h:env.cells.lookup x=some c):cellOf env x=pure c:=by
 unfold cellOf;rw [h]
noncomputable def frees(names:List (Str×NameKind)):List Str:=((names.filter λp=>p.2==.free).map (·.1)).reverse
def qG{scope:Scope}{env:Env}(h:∀y∈scope.names,y.2=.free->∃c,env.cells.lookup y.1=some c):closureFor scope env=pure (bC env (freeOf scope)):=by
 simp! [closureFor];have key:∀(names:List (Str×NameKind)) (acc:List (Str×Addr)),(∀y∈names,y.2=.free->∃c,env.cells.lookup y.1=some c)->
  (forIn (m:=Sem) names acc λx r=>if(x.2==NameKind.free)=true then do
   let c<-cellOf env x.1
   pure (ForInStep.yield ((x.1,c)::r))
   else pure (ForInStep.yield r))=pure (bC env (frees names)++acc):=by
  intro names
  induction names with
  |nil=>intro acc _;rfl
  |cons p r ih=>
   intro acc hh;obtain⟨n,kd⟩:=p
   rw [List.forIn_cons]
   by_cases hk:(kd==NameKind.free)=true
   ·obtain⟨c,hc⟩:=hh (n,kd) (by simp) (zzy.mp hk)
    simp! [hk,if_true,uj hc,pure_bind];rw [ih ((n,c)::acc) λy hy=>hh y (zzI _ hy)]
    have e:frees ((n,kd)::r)=frees r++[n]:=by
     unfold frees;rw [zz3,if_pos hk,zzF,List.reverse_cons]
    rw [e];unfold bC;rw [List.map_append,zzF,List.map_nil,List.append_assoc];show _=pure (_++([(n,(env.cells.lookup n).getD 0)]++acc))
    rw [show env.cells.lookup n=some c from hc]
    rfl
   ·simp! [hk,zze,if_false,pure_bind];rw [ih acc λy hy=>hh y (zzI _ hy)]
    have e:frees ((n,kd)::r)=frees r:=by
     unfold frees;rw [zz3,if_neg hk]
    rw [e]
 have:=key scope.names [] h
 rw [zz6] at this;simp! [bind_pure_comp,map_pure,id_map',bind_pure];exact this
section
variable{X:Cx}{W:Wd}{N:List Str}{sc:Scope}
def dw{scope:Scope}(h:X.env.scope=sc):relabel scope X.env=cm scope sc:=by
 subst h
 rfl
structure jl(N:List Str)(sc scope:Scope)(kk:Nat)(bP:List Nat)(xs:List Str):Prop where
 kind:scope.kind=.function
 len:xs.length=kk
 nd:(xs++freeOf scope).Nodup
 Ir:(scope.names.all λy=>(decide (y.2≠.cell)||!(freeOf scope).contains y.1)&&(decide (y.2≠.free)||(freeOf scope).contains y.1))=true
 own:(scope.names.all λy=>decide (y.2≠.cell)||decide (scope.names.lookup y.1=some .cell))=true
 names:(scope.names.all λy=>decide (y.2≠.local)||decide (scope.names.lookup y.1=some .local))=true
 slots:bP.map (λi=>N[i]?)=(freeOf scope).map some
 kX:((freeOf scope).all λy=>decide (sc.names.lookup y=some .cell))=true
 kY:((freeOf scope).all λy=>decide ((cm scope sc).names.lookup y=some .cell))=true
def gu{scope:Scope}{kk:Nat}{bP:List Nat}{xs:List Str}(h:tq N sc scope kk bP xs=true):jl N sc scope kk bP xs:=by
 unfold tq at h;simp! [zza] at h;obtain⟨⟨⟨⟨⟨⟨⟨⟨h1,h2⟩,h3⟩,h4⟩,h9⟩,h5⟩,h6⟩,h7⟩,h8⟩:=h
 exact⟨zzy.mp h1,zzy.mp h2,zzY h3,h4,h9,h5,zzY h6,h7,h8⟩
def m6(hN:X.N=N)(dU:X.env.scope=sc)(ok:X.Ok){scope:Scope}{kk:Nat}{bP:List Nat}{xs:List Str}(h:jl N sc scope kk bP xs):dg X scope xs (freeOf scope) bP:=by
 have pe:∀y∈freeOf scope,∃c,X.env.cells.lookup y=some c:=λy hy=>ok.has y (.inl (by
  have:=zzY (zzT.mp h.kX y hy)
  show X.env.scope.names.lookup y=_
  rw [dU];exact this))
 refine⟨h.kind,qG λy hy hf=>?_,zzT.mpr λy hy=>?_,h.Ir,h.own,h.names,by rw [hN];exact h.slots,zzT.mpr λy hy=>?_,?_⟩
 ·have c:=zzT.mp h.Ir y hy
  rw [zza,zzt,zzt] at c;rcases c.2 with z|z
  ·exact absurd hf (zzY z)
  ·exact pe _ (zzn.mp z)
 ·obtain⟨c,hc⟩:=pe y hy
  rw [hc];rfl
 ·have:=zzY (zzT.mp h.kX y hy)
  refine zzh ?_;show X.env.scope.names.lookup y=_
  rw [dU];exact this
 ·rw [dw dU];exact h.kY
theorem fG{f:PV->Res (Option PV)}{x:PV}:∀{xs:List PV},az f (xs++[x])=(az f xs).bind λys=>(f x).well.bind λo=>.ok (ys++o.toList)
 |[]=>by
  simp! [List.nil_append,az,Res.bind];cases(f x).well with
  |ok o=>cases o<;>rfl
  |exc c=>rfl
  |bad=>rfl
 |y::xs=>by
  rw [List.cons_append];simp! [az];rw [fG (xs:=xs)];cases(f y).well with
  |exc c=>rfl
  |bad=>rfl
  |ok o=>
   show(((az f xs).bind λys=>(f x).well.bind λo=>.ok (ys++o.toList)).bind λys=>.ok (oc o ys))=((az f xs).bind λys=>.ok (oc o ys)).bind λys=>(f x).well.bind λo=>.ok (ys++o.toList)
   cases az f xs with
   |exc c=>rfl
   |bad=>rfl
   |ok zs=>
    show(((f x).well.bind λo=>.ok (zs++o.toList)).bind λys=>.ok (oc o ys))=(f x).well.bind λo2=>.ok ((oc o zs)++o2.toList)
    cases(f x).well with
    |exc c=>rfl
    |bad=>rfl
    |ok o2=>cases o<;>rfl
theorem ja{f:PV->Res (Option PV)}:∀{xs ys:List PV},az f xs=.ok ys->∀i,∃zs,az f (xs.take i)=.ok zs/\zs.length<=i
 |_,_,_,0=>⟨[],by simp [az],zzE _⟩
 |[],ys,h,i+1=>⟨[],by simp [az],Nat.zero_le _⟩
 |x::xs,ys,h,i+1=>by
  simp! [az] at h;obtain⟨o,ho,h⟩:=Res.aK h
  obtain⟨zs,hz,h⟩:=Res.aK h
  obtain⟨ws,hw,hl⟩:=ja hz i
  refine⟨oc o ws,?_,?_⟩
  ·rw [List.take_succ_cons];simp! [az];rw [ho];show((az f (xs.take i)).bind λys=>.ok (oc o ys))=_
   rw [hw]
   rfl
  ·cases o with
   |none=>exact Nat.le_succ_of_le hl
   |some y=>exact Nat.succ_le_succ hl
def za{α:Type}{r:Res α}{a:α}(h:r.well=.ok a):r=.ok a:=by
 cases r with
 |ok b=>cases h;rfl
 |exc c=>cases h
 |bad=>cases h
def pv{f:PV->Res (Option PV)}{xs ys zs:List PV}{i:Nat}{x:PV}(h:az f xs=.ok ys)(hx:xs[i]?=some x)(hz:az f (xs.take i)=.ok zs):∃o,f x=.ok o/\az f (xs.take (i+1))=.ok (zs++o.toList):=by
 have e:xs.take (i+1)=xs.take i++[x]:=by rw [List.take_add_one,hx];rfl
 obtain⟨ws,hw,_⟩:=ja h (i+1)
 rw [e,fG,hz] at hw;obtain⟨o,ho,hw⟩:=Res.aK (show((f x).well.bind λo=>Res.ok (zs++o.toList))=.ok ws from hw)
 refine⟨o,za ho,?_⟩;rw [e,fG,hz];show((f x).well.bind λo=>Res.ok (zs++o.toList))=_
 rw [ho]
 rfl
def om{H0 G H:Hp}{env:Sl}{σ:St}{bP:List Nat}{ys:List Str}(kk:Nat)(sr:SR W H0 env σ G H)(hs:bP.map (λi=>N[i]?)=ys.map some)(nd:ys.Nodup):SR W H0 (List.replicate kk .no++d6 env bP) (List.replicate kk none++x5 σ bP) G H:=by
 have Pa:∀(i j:Nat) (a:Nat),bP[i]?=some a->bP[j]?=some a->i=j:=λi j a h1 h2=>by
  have e1:(ys.map some)[i]?=some (N[a]?):=by rw [<-hs,zzQ,h1];rfl
  have e2:(ys.map some)[j]?=some (N[a]?):=by rw [<-hs,zzQ,h2];rfl
  rw [zzQ] at e1 e2;obtain⟨y1,g1,q1⟩:=zzJ.mp e1
  obtain⟨y2,g2,q2⟩:=zzJ.mp e2
  have:y1=y2:=zzq (q1.trans q2.symm)
  subst this;exact iU nd g1 g2
 have inner:∀(j:Nat) (s:Slot),(List.replicate kk Slot.no++d6 env bP)[j]?=some s->(j<kk/\s=.no)\/∃a,kk<=j/\bP[j-kk]?=some a/\s=env.getD a .no:=λj s e=>by
  by_cases hj:j<kk
  ·rw [zzr (by simpa using hj),List.getElem?_replicate,if_pos hj] at e;cases e;exact .inl ⟨hj,rfl⟩
  ·rw [zzs (by simpa using hj),List.length_replicate] at e;unfold d6 at e;rw [zzQ] at e;obtain⟨a,ha,rfl⟩:=zzJ.mp e
   exact .inr ⟨a,by omega,ha,rfl⟩
 have val:∀(j a:Nat),kk<=j->bP[j-kk]?=some a->(List.replicate kk none++x5 σ bP)[j]?=some ((σ[a]?).join):=λj a hj ha=>by
  rw [zzs (by simpa using hj),List.length_replicate];unfold x5;rw [zzQ,ha]
  rfl
 refine⟨by unfold d6 x5;simp,sr.sub,sr.base,λj s e=>?_,λi j p q a e1 e2 e3 e4=>?_,sr.tab,sr.iq⟩
 ·rcases inner j s e with⟨hj,rfl⟩|⟨a,hj,ha,rfl⟩
  ·exact⟨none,by rw [zzr (by simpa using hj),List.getElem?_replicate,if_pos hj],trivial⟩
  ·refine⟨_,val j a hj ha,?_⟩;rw [zzK];cases e1:env[a]? with
   |none=>exact trivial
   |some s=>
    obtain⟨o,h1,h2⟩:=sr.slot a s e1
    rw [h1];exact h2
 ·rcases inner i _ e1 with⟨_,z⟩|⟨b,hi,hb,z1⟩
  ·cases z
  rcases inner j _ e2 with⟨_,z⟩|⟨c,hj,hc,z2⟩
  ·cases z
  rw [val i b hi hb] at e3;rw [val j c hj hc] at e4;have f1:env[b]?=some (.own p):=by
   rw [zzK] at z1;cases e:env[b]? with
   |none=>rw [e] at z1;cases z1
   |some s=>rw [e] at z1;exact congrArg some z1.symm
  have f2:env[c]?=some (.own q):=by
   rw [zzK] at z2;cases e:env[c]? with
   |none=>rw [e] at z2;cases z2
   |some s=>rw [e] at z2;exact congrArg some z2.symm
  have g1:σ[b]?=some (some (.ref a)):=Option.join_eq_some_iff.mp (zzq e3)
  have g2:σ[c]?=some (some (.ref a)):=Option.join_eq_some_iff.mp (zzq e4)
  have bc:=sr.apart b c p q a f1 f2 g1 g2
  subst bc;have:=Pa _ _ b hb hc
  omega
def gO{H0 G H:Hp}{kk:Nat}{rest aj:Sl}{σ:St}{tg:Tg}{p:PV}(bU:jz kk tg=true)(e:Tg.put tg p (List.replicate kk .no++rest)=.ok aj)(r:SR W H0 aj σ G H):SR W H0 (List.replicate kk .no++rest) σ G H:=by
 have key:∀(j:Nat) (s:Slot),(List.replicate kk Slot.no++rest)[j]?=some s->s≠.no->aj[j]?=some s:=λj s h hs=>by
  have L7:¬j<kk:=λz=>by
   rw [zzr (by simpa using z),List.getElem?_replicate,if_pos z] at h;cases h;exact hs rfl
  unfold Tg.put at e;split at e
  ·cases e;unfold jz at bU;simp! [zzN] at bU;rw [zzS (by omega)];exact h
  ·cases e;unfold jz at bU;simp! [zza,zzN] at bU;rw [zzS (by omega),zzS (by omega)];exact h
  ·cases e
 have hlen:(List.replicate kk Slot.no++rest).length=σ.length:=by
  rw [<-r.len];unfold Tg.put at e;split at e<;>first|(cases e;simp;done)|(cases e;done)
 refine⟨hlen,r.sub,r.base,λj s h=>?_,λi j p q a e1 e2 e3 e4=>r.apart i j p q a (key i _ e1 (λz=>nomatch z)) (key j _ e2 (λz=>nomatch z)) e3 e4,r.tab,r.iq⟩
 by_cases hs:s=.no
 ·subst hs;have:j<σ.length:=by rw [<-hlen];exact(zzH.mp h).1
  exact⟨σ[j],zzg this,trivial⟩
 ·exact r.slot j s (key j s h hs)
variable{Γ:Pg}{F:aO}{k:Nat}
noncomputable def tN(W:Wd)(F:aO)(e:E):TE:=λσ H Q=>∃H0 G env,SR W H0 env σ G H/\∃p,ax F e env=.ok p/\∀v G' H',av W G H G' H'->Got W H0 G' H' e p v->Q v H'
noncomputable def Jv(W:Wd)(F:aO)(e:E):TT:=λσ H Q=>∃H0 G env,SR W H0 env σ G H/\∃b,ax F e env=.ok (.bl b)/\∀G' H',av W G H G' H'->Q b H'
def sD{e:E}(σ:St)(H:Hp)(Q:VK)(h:tN W F e σ H Q):tE X W F e σ H Q:=by
 obtain⟨H0,G,env,sr,p,e1,q⟩:=h
 exact⟨H0,G,env,sr,by rw [e1];exact q⟩
def xg{e:E}(σ:St)(H:Hp)(Q:Bool->Hp->Prop)(h:Jv W F e σ H Q):tT X W F e σ H Q:=by
 obtain⟨H0,G,env,sr,p,e1,q⟩:=h
 exact⟨H0,G,env,sr,by rw [e1];exact⟨p,rfl,q⟩⟩
def dG(C:dj Γ F W N sc k X){scope:Scope}{kk:Nat}{bP:List Nat}{xs:List Str}(h:jl N sc scope kk bP xs)(fp:List Addr)(s1:Shared)(H1:Hp)(A:Addr):dj Γ.yM F W (xs++freeOf scope) (cm scope sc) k (bb X (xs++freeOf scope) scope (bC X.env (freeOf scope)) fp s1 H1 A):=
 ⟨rfl,dw C.dU,λ_=>rfl,h.nd,C.K,C.mg,C.gs,C.bs,C.room,λf hf=>⟨(C.fns f hf).ex⟩,C.JE,C.cls,C.xc,λq hq=>⟨(C.rM q hq).ex⟩,λf hf=>⟨(C.MA f hf).1,⟨(C.MA f hf).2.ex⟩⟩,C.any,(λz=>nomatch z),(λz=>nomatch z),(λz=>nomatch z)⟩
def Cz{e:E}{p:Expr}(h:aR Γ N sc e p=true)(env:Env):∀x,foldedSetIterable p env x=pure x:=by
 intro x;cases p<;>first|rfl|(cases e<;>first|(exact aM h)|(rename_i q;cases q<;>exact aM h))
def gn{tg:Expr}{it:I}{p:Expr}(h:uy Γ N sc tg it p=true)(env:Env):∀x,foldedSetIterable p env x=pure x:=by
 intro x;cases it with
 |seq e=>exact Cz h env x
 |rn e=>cases p<;>first|rfl|(exact aM h)
 |ng a b=>cases p<;>first|rfl|(exact aM h)
 |enum e=>cases p<;>first|rfl|(exact aM h)
 |zip as=>cases p<;>first|rfl|(exact aM h)
def CW(W:Wd)(H0 G1 H1:Hp)(E4:Sl)(f:PV->Res (Option PV))(ps:List PV)(i:Nat)(ys:List V)(σ':St)(H':Hp):Prop:=
 i<=ps.length/\∃G',av W G1 H1 G' H'/\SR W H0 E4 σ' G' H'/\∃zs,az f (ps.take i)=.ok zs/\zs.length<=i/\ah W G' zs ys
def rX(hK:W.K=X.K){kk:Nat}{bP:List Nat}{tg:Tg}{it:I}{elt:E}{ys:List Str}(bU:jz kk tg=true)(cR:fV elt=true)(hs:bP.map (λi=>N[i]?)=ys.map some)(nd:ys.Nodup)(σ:St)(H:Hp)(Q:VK)(h:tF X W F (.comp kk bP tg it elt) σ H Q):
 xM (tI X W F it) kk (gT X.K tg) (tN W F elt) bP σ H Q:=by
 obtain⟨H0,G,env,sr,o⟩:=h
 rw [ax] at o;refine⟨H0,G,env,sr,o.bind.imp λps md J G1 H1 g1 gi=>?_⟩
 by_cases yV:¬ps.length<bG
 ·rw [if_neg yV] at md;exact md.elim
 have hl:=Decidable.not_not.mp yV
 rw [if_pos hl] at md;generalize hf:(λx=>(tg.put x (List.replicate kk .no++d6 env bP)).bind λaj=>(ax F elt aj).bind λy=>Res.ok (some y))=f at md
 cases hc:az f ps with
 |bad=>rw [hc] at md;exact md.elim
 |exc c=>
  exfalso
  have:∀(l:List PV) (c:Str),az f l≠.exc c:=λl=>by
   induction l with
   |nil=>intro c z;cases z
   |cons a l ih=>
    intro c z;simp! [az] at z;rcases Res.gf z with z|⟨o1,_,z⟩
    ·cases e:f a with
     |ok _=>rw [e] at z;cases z
     |exc _=>rw [e] at z;cases z
     |bad=>rw [e] at z;cases z
    ·rcases Res.gf z with z|⟨o2,_,z⟩
     ·exact ih c z
     ·cases z
  exact this _ _ hc
 |ok all=>
  rw [hc] at md;obtain⟨xs,e1,fin⟩:=md
  cases e1;have bA:=sr.grow g1
  refine⟨ps.length,CW W H0 G1 H1 (List.replicate kk .no++d6 env bP) f ps,⟨Nat.zero_le _,G1,.refl g1.sub,om kk bA hs nd,[],rfl,zzE _,.nil⟩,?_⟩
  rintro i made σ' H' ⟨hi,G',g',sr',zs,hz,DJ,l⟩
  refine⟨by rw [l.length];exact zzV (zzU DJ hi) (zzW hl (by decide)),?_⟩;obtain⟨ist,igo⟩:=gi.any i G' H' g'.g g'.h g'.sub
  by_cases hlast:i=ps.length
  ·refine .inl ⟨ist hlast,λp hp=>?_⟩
   rw [hlast,List.take_length,hc] at hz;cases hz;exact fin p made G' H' (g1.trans g') hp l
  ·have kO:i<ps.length:=by omega
   obtain⟨hgo,hyld⟩:=igo ps[i] (zzg kO)
   refine .inr ⟨hgo,kO,λx i8 hy=>?_⟩
   obtain⟨sR,g'',rx⟩:=hyld x i8 hy
   obtain⟨o1,ho,hnext⟩:=pv hc (zzg kO) hz
   rw [<-hf] at ho;obtain⟨aj,BY,ho⟩:=Res.aK ho
   obtain⟨y,HB,ho⟩:=Res.aK ho
   cases ho;refine qX hK BY (sr'.grow g'') rx λσ2 lh=>⟨H0,sR,aj,lh,y,HB,λv G3 H3 g3 t=>?_⟩
   refine⟨kO,G3,g'.trans (g''.trans g3),(gO bU BY lh).grow g3,_,hnext,?_,?_⟩
   ·rw [zzM];show zs.length+1<=i+1;omega
   ·exact(ah.same (g''.trans g3).g zs l).append (.cons (t.rep cR) .nil)
def lu(hK:W.K=X.K){kk:Nat}{bP:List Nat}{tg:Tg}{it:I}{c elt:E}{ys:List Str}(bU:jz kk tg=true)(cR:fV elt=true)(hs:bP.map (λi=>N[i]?)=ys.map some)(nd:ys.Nodup)(σ:St)(H:Hp)(Q:VK)(h:tF X W F (.bX kk bP tg it c elt) σ H Q):
 iQ (tI X W F it) kk (gT X.K tg) (Jv W F c) (tN W F elt) bP σ H Q:=by
 obtain⟨H0,G,env,sr,o⟩:=h
 rw [ax] at o;refine⟨H0,G,env,sr,o.bind.imp λps md J G1 H1 g1 gi=>?_⟩
 by_cases yV:¬ps.length<bG
 ·rw [if_neg yV] at md;exact md.elim
 have hl:=Decidable.not_not.mp yV
 rw [if_pos hl] at md;generalize hf:(λx=>(tg.put x (List.replicate kk .no++d6 env bP)).bind λaj=>(ax F c aj).bind λt=>qB t λt=>if t then(ax F elt aj).bind λy=>Res.ok (some y) else .ok none)=f at md
 cases hc:az f ps with
 |bad=>rw [hc] at md;exact md.elim
 |exc c=>
  exfalso
  have:∀(l:List PV) (c:Str),az f l≠.exc c:=λl=>by
   induction l with
   |nil=>intro c z;cases z
   |cons a l ih=>
    intro c z;simp! [az] at z;rcases Res.gf z with z|⟨o1,_,z⟩
    ·cases e:f a with
     |ok _=>rw [e] at z;cases z
     |exc _=>rw [e] at z;cases z
     |bad=>rw [e] at z;cases z
    ·rcases Res.gf z with z|⟨o2,_,z⟩
     ·exact ih c z
     ·cases z
  exact this _ _ hc
 |ok all=>
  rw [hc] at md;obtain⟨xs,e1,fin⟩:=md
  cases e1;have bA:=sr.grow g1
  refine⟨ps.length,CW W H0 G1 H1 (List.replicate kk .no++d6 env bP) f ps,⟨Nat.zero_le _,G1,.refl g1.sub,om kk bA hs nd,[],rfl,zzE _,.nil⟩,?_⟩
  rintro i made σ' H' ⟨hi,G',g',sr',zs,hz,DJ,l⟩
  refine⟨by rw [l.length];exact zzV (zzU DJ hi) (zzW hl (by decide)),?_⟩;obtain⟨ist,igo⟩:=gi.any i G' H' g'.g g'.h g'.sub
  by_cases hlast:i=ps.length
  ·refine .inl ⟨ist hlast,λp hp=>?_⟩
   rw [hlast,List.take_length,hc] at hz;cases hz;exact fin p made G' H' (g1.trans g') hp l
  ·have kO:i<ps.length:=by omega
   obtain⟨hgo,hyld⟩:=igo ps[i] (zzg kO)
   refine .inr ⟨hgo,kO,λx i8 hy=>?_⟩
   obtain⟨sR,g'',rx⟩:=hyld x i8 hy
   obtain⟨o1,ho,hnext⟩:=pv hc (zzg kO) hz
   rw [<-hf] at ho;obtain⟨aj,BY,ho⟩:=Res.aK ho
   obtain⟨t,ht,ho⟩:=Res.aK ho
   obtain⟨b,rfl⟩:∃b,t=.bl b:=by
    cases t<;>first|exact⟨_,rfl⟩|(cases ho)
   refine qX hK BY (sr'.grow g'') rx λσ2 lh=>⟨H0,sR,aj,lh,b,ht,λG3 H3 g3=>?_⟩
   have hV:(if b=true then(ax F elt aj).bind λy=>Res.ok (some y) else .ok none)=Res.ok o1:=ho
   cases b with
   |true=>
    rw [if_pos rfl] at hV;refine Ml ?_;obtain⟨y,HB,hV⟩:=Res.aK hV
    cases hV;refine⟨H0,G3,aj,lh.grow g3,y,HB,λv G4 H4 g4 t4=>?_⟩
    refine⟨kO,G4,g'.trans (g''.trans (g3.trans g4)),(gO bU BY lh).grow (g3.trans g4),_,hnext,?_,?_⟩
    ·rw [zzM];show zs.length+1<=i+1;omega
    ·exact(ah.same (g''.trans (g3.trans g4)).g zs l).append (.cons (t4.rep cR) .nil)
   |false=>
    rw [if_neg zzf] at hV;refine LA ?_;cases hV;refine⟨kO,G3,g'.trans (g''.trans g3),(gO bU BY lh).grow g3,_,hnext,?_,?_⟩
    ·rw [zzM];show zs.length+0<=i+1;omega
    ·show ah W G3 (zs++[]) made
     rw [zz6];exact ah.same (g''.trans g3).g zs l
def sN(C:dj Γ F W N sc k X)(hq:Γ.qt=false){kk:Nat}{bP:List Nat}{tg:Tg}{it:I}{elt:E}{cg d8 di:Expr}{scope:Scope}{pos:Pos}(h:jl N sc scope kk bP (aA cg))(bU:jz kk tg=true)(cR:fV elt=true)(hi:GI X W F cg it d8)(rM:∀x,foldedSetIterable d8 X.env x=pure x)
 (wV:fy (aA cg++freeOf scope) (cm scope sc) (kj scope) tg cg=true) (he:∀Y,dj Γ.yM F W (aA cg++freeOf scope) (cm scope sc) k Y->GE Y W F elt di):GF X W F (.comp kk bP tg it elt) (.ListComp di [⟨cg,d8,[],0⟩] scope pos):=by
 intro aa s σ H Q I hqq;have AL:(freeOf scope).Nodup:=(List.nodup_append.mp h.nd).2.1
 have rd:=rX (N:=N) C.K bU cR h.slots AL σ H Q hqq
 have:=BD (g:=gT X.K tg) (te:=tN W F elt) (xs:=aA cg) (ys:=freeOf scope) (is:=bP) (pos:=pos) (C.calm hq) (m6 C.hN C.dU I.ok h) hi
  (λfp s1 H1 A=>wW (fn:=kj scope) (X:=bb X (aA cg++freeOf scope) scope (bC X.env (freeOf scope)) fp s1 H1 A) rfl h.nd (dw C.dU) rfl (λ_ z=>z) wV)
  (λfp s1 H1 A=>L2.PE.imp (he _ (dG C h fp s1 H1 A)) λσ H Q z=>sD σ H Q z) rM aa s σ H Q I
 rw [h.len] at this;exact this rd
def mx(C:dj Γ F W N sc k X)(hq:Γ.qt=false){kk:Nat}{bP:List Nat}{tg:Tg}{it:I}{c elt:E}{cg d8 pc di:Expr}{scope:Scope}{pos:Pos}(h:jl N sc scope kk bP (aA cg))(bU:jz kk tg=true)(cR:fV elt=true)(hi:GI X W F cg it d8)(rM:∀x,foldedSetIterable d8 X.env x=pure x)
 (wV:fy (aA cg++freeOf scope) (cm scope sc) (kj scope) tg cg=true) (hc:∀Y,dj Γ.yM F W (aA cg++freeOf scope) (cm scope sc) k Y->GT Y W F c pc) (he:∀Y,dj Γ.yM F W (aA cg++freeOf scope) (cm scope sc) k Y->GE Y W F elt di):
 GF X W F (.bX kk bP tg it c elt) (.ListComp di [⟨cg,d8,[pc],0⟩] scope pos):=by
 intro aa s σ H Q I hqq;have AL:(freeOf scope).Nodup:=(List.nodup_append.mp h.nd).2.1
 have rd:=lu (N:=N) C.K bU cR h.slots AL σ H Q hqq
 have:=vg (g:=gT X.K tg) (tt:=Jv W F c) (te:=tN W F elt) (xs:=aA cg) (ys:=freeOf scope) (is:=bP) (pos:=pos) (C.calm hq) (m6 C.hN C.dU I.ok h) hi
  (λfp s1 H1 A=>wW (fn:=kj scope) (X:=bb X (aA cg++freeOf scope) scope (bC X.env (freeOf scope)) fp s1 H1 A) rfl h.nd (dw C.dU) rfl (λ_ z=>z) wV)
  (λfp s1 H1 A=>L2.PT.imp (hc _ (dG C h fp s1 H1 A)) λσ H Q z=>xg σ H Q z)
  (λfp s1 H1 A=>L2.PE.imp (he _ (dG C h fp s1 H1 A)) λσ H Q z=>sD σ H Q z) rM aa s σ H Q I
 rw [h.len] at this;exact this rd
variable{Z:List (Addr×Obj)}{G H:Hp}
theorem Gb(t:b9 W G H)(sg:aq G H)(zs:∀b o,Z.lookup b=some o->G b=some (.cV o qu))(zc:∀b o,Z.lookup b=some o->∃v,o.data=.cell v):b9 W (eL Z G) (eL Z H):=λP q m=>by
 obtain⟨n,ps,e,tr,al⟩:=t P q m
 refine⟨qg n,ps,?_,tr,λpos cv y=>?_⟩
 ·cases y:Z.lookup P with
  |none=>rw [dH y];exact e
  |some o=>rw [sg _ _ (zs P o y)] at e;cases e
 ·obtain⟨c',oc,qo,t',e1,e2,e3,e4⟩:=al pos cv y
  refine⟨c',oc,qo,t',e1,?_,e3,e4⟩;cases y:Z.lookup c' with
  |none=>rw [dH y];exact e2
  |some o=>
   rw [zs c' o y] at e2;cases e2;obtain⟨v,hv⟩:=zc c' _ y
   rw [e3] at hv;cases hv
end
end Ci
namespace L2
open PySem PySem.Spec PyProof.Rows
def gX:Manifest.owners.lookup (String.ofList ['d','e','s','r','e','v','e','r'].reverse)=some Manifest.sig_reversed:=by kernel_rfl
theorem bV:Slot "reversed" "__next__" "reversed.__next__":=
 .of (owner:="reversed") (n:="__next__") (by rw [typeLookup_type,builtinLookup_eq_fast];kernel_rfl) (by decide+kernel) (by decide+kernel) (by decide+kernel)
  (by first|exact .inl (by decide+kernel)|exact .inr (by decide+kernel)) (by rw [isSubtype_type];kernel_rfl)
def eQ:entryFor table "reversed.__next__"=some Builtin.«reversed.__next__»:=entryFor_of_tree (by kernel_rfl)
def fB(a:Value):argsOk "reversed.__next__" ⟨[a],[]⟩:=by
 unfold argsOk;rw [signature?_of (id:="reversed.__next__") (n:=['_','_','t','x','e','n','_','_']) (o:=['d','e','s','r','e','v','e','r']) (by kernel_rfl) gX];kernel_rfl
theorem fu:Slot "reversed" "__iter__" "reversed.__iter__":=
 .of (owner:="reversed") (n:="__iter__") (by rw [typeLookup_type,builtinLookup_eq_fast];kernel_rfl) (by decide+kernel) (by decide+kernel) (by decide+kernel)
  (by first|exact .inl (by decide+kernel)|exact .inr (by decide+kernel)) (by rw [isSubtype_type];kernel_rfl)
def kU(a:Value):argsOk "reversed.__iter__" ⟨[a],[]⟩:=by
 unfold argsOk;rw [signature?_of (id:="reversed.__iter__") (n:=['_','_','r','e','t','i','_','_']) (o:=['d','e','s','r','e','v','e','r']) (by kernel_rfl) gX];kernel_rfl
theorem jY:entryFor table "reversed.__iter__"=some Builtin.«dict_keyiterator.__iter__»:=
 entryFor_alias (id':="dict_keyiterator.__iter__") (by kernel_rfl) (by first|rfl|decide+kernel|(unfold String.splitOn;simp+decide [String.splitOnAux])) (by decide+kernel) (by kernel_rfl)
theorem dh:Slot "reversed" "__length_hint__" "reversed.__length_hint__":=
 .of (owner:="reversed") (n:="__length_hint__") (by rw [typeLookup_type,builtinLookup_eq_fast];kernel_rfl) (by decide+kernel) (by decide+kernel) (by decide+kernel)
  (by first|exact .inl (by decide+kernel)|exact .inr (by decide+kernel)) (by rw [isSubtype_type];kernel_rfl)
def kn:entryFor table "reversed.__length_hint__"=some Builtin.«reversed.__length_hint__»:=entryFor_of_tree (by kernel_rfl)
def kQ(a:Value):argsOk "reversed.__length_hint__" ⟨[a],[]⟩:=by
 unfold argsOk;rw [signature?_of (id:="reversed.__length_hint__") (n:="__length_hint__".toList.reverse) (o:=['d','e','s','r','e','v','e','r']) (by kernel_rfl) gX];kernel_rfl
def p6:typeLookup (.type "reversed") "__len__"=pure none:=by rw [typeLookup_type,builtinLookup_eq_fast];kernel_rfl
def qE:typeLookup (.type "tuple") "__reversed__"=pure none:=by rw [typeLookup_type,builtinLookup_eq_fast];kernel_rfl
noncomputable def EV(t:Addr)(i:Int):Obj:={cls:=.type "reversed",data:=.fields #[.ref t,rawInt i]}
section
variable{prog:Program}{w:World}{A:Around}{E:Value->Shared->Prop}{s:Shared}
def p0:TypeCalled "reversed" "reversed.__new__" "object.__init__" where
 notType:=by decide+kernel
 canCreate:=F.create_reversed
 mro:=⟨_,_,F.mro_reversed⟩
 made:=F.made_reversed
 plain:=F.plain_reversed_new
 sub:=F.sub_reversed_self
 init:=.of (owner:="object") (n:="__init__") (by rw [typeLookup_type,builtinLookup_eq_fast];kernel_rfl) (by decide+kernel) (by decide+kernel) (by decide+kernel)
  (by first|exact .inl (by decide+kernel)|exact .inr (by decide+kernel)) (by rw [isSubtype_type];kernel_rfl)
theorem ub(l:Addr)(items:Array Value):MeetsIn prog w (Builtin.«reversed.__new__» ⟨[.type "reversed",.ref l],[]⟩) (λ_ R s=>IsTup s.heap l items/\items.size<=sizeLine/\∀tk,R (.ok (.ret (.ref (zz9 s)))) {s with heap:=s.heap.push (EV l ((items.size:Int)-1)),toks:=tk}):=
 .of_wp λA R s hh=>by
  obtain⟨hl,hn,h⟩:=hh
  unfold Builtin.«reversed.__new__»;refine zzA (wpAny_of_eq (newClass_reversed _) ?_)
  try dsimp only
  refine zzA (wpAny_of_eq (a:=()) (by first|rfl|kernel_rfl) ?_);refine zzA (wpAny_of_eq (a:=()) (by first|rfl|kernel_rfl) ?_)
  try dsimp only
  refine zzA (wpAny_specialOf hl.typeIs qE ?_)
  try dsimp only
  refine zzA ?_
  wp_delta
  refine zzA (wpAny_isInstance (T:="tuple") (v:=.ref l) (b:=false) hl.typeIs (by rw [isSubtype_type];kernel_rfl) ?_);simp! [zze,if_false];refine zzA (wpAny_specialOf hl.typeIs PyProof.Rows.slot_tuple_getitem.lookup ?_)
  try dsimp only
  rw [if_pos (by decide+kernel)];refine zzG ?_;simp! [Bool.not_true,zze,if_false];refine zzA (len_tuple hl (by rw [sizeLine_eq] at hn;omega) ?_);refine zzA (wpAny_of_eq (a:=some (items.size:Int)) rfl ?_)
  try dsimp only
  unfold Builtin.SmallTypes.newRecord;exact zzA (wpAny_newObj_type (zzG ⟨_,rfl,h _⟩) (by size_fits))
theorem fX{l:Addr}{items:Array Value}{Q:Value->Shared->Prop}(hl:IsTup s.heap l items)(hn:items.size<=sizeLine)
 (h:∀tk,Q (.ref (zz9 s)) {s with heap:=s.heap.push (EV l ((items.size:Int)-1)),toks:=tk}):wpAny (model prog w) A (call (.type "reversed") [.ref l]) Q E s:=
 callType_newIn p0 (by decide) (F.typeCall_reversed_1 _) (F.newCall_reversed_1 _) (λobj=>F.args_object_init_2 obj _) F.entry_reversed_new (ub l items) ⟨hl,hn,λtk=>⟨⟨_,zzX _ rfl,rfl⟩,h tk⟩⟩
def dz(h:Heap)(a l:Addr)(i:Int):Prop:=∃o,h.get? a=some o/\o.cls=.type "reversed"/\o.data=.fields #[.ref l,rawInt i]
theorem dz.typeIs{a l:Addr}{i:Int}(x:dz s.heap a l i):s.TypeIs (.ref a) "reversed":=let⟨o,ho,hc,_⟩:=x;⟨o,ho,hc⟩
theorem dz.at{h h':Heap}{a l:Addr}{i:Int}(x:dz h a l i)(e:∀o,h.get? a=some o->h'.get? a=some o):dz h' a l i:=let⟨o,ho,r⟩:=x;⟨o,e _ ho,r⟩
def wx{it l:Addr}{i:Nat}{items:Array Value}{x:Value}{Q:Option Value->Shared->Prop}(hit:dz s.heap it l (i:Int))(hl:IsTup s.heap l items)(hn:items.size<=sizeLine)(hx:items[i]?=some x)
 (hQ:∀h' tk,dz h' it l ((i:Int)-1)->Heap.SameBut it s.heap h'->Q (some x) {s with heap:=h',toks:=tk}):wpAny (model prog w) A (pyNext (.ref it)) Q E s:=by
 obtain⟨o,ho,hc,hd⟩:=id hit
 have hi:i<items.size:=(Array.getElem?_eq_some_iff.mp hx).1
 unfold pyNext;refine zzA (wpAny_attempt (wpAny_callSpecial?_slot (name:=Str.ofString "__next__") hit.typeIs bV
  (wpAny_call_entry bV hit.typeIs eQ ?_ (fB _))))
 unfold Builtin.«reversed.__next__»;refine zzA (wpAny_of_eq (a:=(Value.ref it,[])) rfl ?_)
 try dsimp only
 refine zzA (wpAny_field ho hd (x:=.ref l) rfl ?_);refine zzA (wpAny_field ho hd (x:=rawInt (i:Int)) rfl ?_);show wpAny _ _ (if(i:Int)<0 then _ else _) _ _ s;rw [if_neg (by omega)];show wpAny _ _ (specialOf (.ref l) (Str.ofString "__getitem__")>>=_) _ _ s;refine zzA (wpAny_specialOf hl.typeIs PyProof.Rows.slot_tuple_getitem.lookup ?_);rw [if_neg (by simp)];refine zzA (wpAny_mkInt ?_);refine zzA (wpAny_attempt (PyProof.Rows.getItem_tuple (j:=i) hl (by omega) (by rw [sizeLine_eq] at hn;omega) ?_ hx ?_))
 ·simp! [seqIndex?,show¬((i:Int)<0) from by omega,if_false];rw [if_pos (by rw [zza,zzN,zzN];constructor<;>omega),zz4]
 try dsimp only
 refine zzA (wpAny_field (s:={s with toks:=s.toks+1}) ho hd (x:=rawInt (i:Int)) rfl ?_);show wpAny _ _ (setField (.ref it) 1 (rawInt ((i:Int)-1))>>=_) _ _ _;refine zzA (wpAny_setField ho hd (by simp) ?_);refine zzG ⟨x,rfl,zzG (hQ _ _ ?_ (zzu ..))⟩;exact⟨_,Heap.get?_update_self _ ho (Obj.isFreed_of_fields (Obj.data_mapFields hd _)),(Obj.cls_mapFields ..).trans hc,by
  rw [Obj.data_mapFields hd];simp⟩
def Bp{it l:Addr}{Q:Option Value->Shared->Prop}(hh:A.handled=none)(hit:dz s.heap it l (-1))
 (hQ:∀h',Heap.ExtBut it s.heap h'->Q none {s with heap:=h'}):wpAny (model prog w) A (pyNext (.ref it)) Q E s:=by
 obtain⟨o,ho,hc,hd⟩:=id hit
 unfold pyNext;refine zzA (wpAny_attempt (wpAny_callSpecial?_slot (name:=Str.ofString "__next__") hit.typeIs bV
  (wpAny_call_entry bV hit.typeIs eQ ?_ (fB _))))
 unfold Builtin.«reversed.__next__»;refine zzA (wpAny_of_eq (a:=(Value.ref it,[])) rfl ?_)
 try dsimp only
 refine zzA (wpAny_field ho hd (x:=.ref l) rfl ?_);refine zzA (wpAny_field ho hd (x:=rawInt (-1)) rfl ?_);show wpAny _ _ (if(-1:Int)<0 then _ else _) _ _ s;rw [if_pos (by decide)];refine zzA (wpAny_rule ?_);refine zzA ?_
 wp_delta
 refine zzA (wpAny_setField ho hd (by simp) ?_);have nW:=Heap.get?_update_self (Obj.mapFields (·.setIfInBounds 1 (rawInt (-1)))) ho (Obj.isFreed_of_fields (Obj.data_mapFields hd _))
 refine wpAny_setField nW (Obj.data_mapFields hd _) (by simp) ?_;refine zzA ?_;show wpAny _ _ (newExc (.type "StopIteration") []>>=_) _ _ _;refine zzA ?_;simp! [newExc,newTuple];refine zzA (wpAny_newObj_type ?_ (by size_fits));refine zzA (m:=firstArgMember _ _) (wpAny_of_eq (a:=Value.none) (by first|rfl|(simp! [firstArgMember];rfl)) ?_);refine wpAny_newObj_type ?_ (by size_fits);simp! [raiseNew];refine zzA (wpAny_handled ?_)
 first|rw [show A.in1.handled=none from hh]|rw [hh]
 refine zzA (zzG (wpAny_throw ?_));refine zzA (wpAny_isInstance (T:="StopIteration") (b:=true) ⟨_,zzX _ rfl,rfl⟩ isSubtype_stop ?_);refine zzG (hQ _ ?_);have e1:Heap.ExtBut it s.heap (s.heap.update it (Obj.mapFields (·.setIfInBounds 1 (rawInt (-1))))):=(zzu ..).extBut
 have e2:Heap.ExtBut it (s.heap.update it (Obj.mapFields (·.setIfInBounds 1 (rawInt (-1))))) ((s.heap.update it (Obj.mapFields (·.setIfInBounds 1 (rawInt (-1))))).update it (Obj.mapFields (·.setIfInBounds 0 .none))):=(zzu ..).extBut
 exact((show Heap.ExtBut it s.heap _ from λb o hb e=>e2 b o hb (e1 b o hb e)).push _).push _
def oE{it l:Addr}{i:Int}{Q:Value->Shared->Prop}(hit:dz s.heap it l i)(h:Q (.ref it) s):wpAny (model prog w) A (pyIter (.ref it)) Q E s:=by
 refine wpAny_pyIter_slot hit.typeIs fu (wpAny_call_entry fu hit.typeIs jY ?_ (kU _));show wpAny _ _ (ret (.ref it)) _ _ s;exact zzG ⟨_,rfl,"reversed",_,hit.typeIs,bV.lookup,h⟩
theorem IsTup.mv{h h':Heap}{t:Addr}{items:Array Value}(x:IsTup h t items)(e:∀o,h.get? t=some o->h'.get? t=some o):IsTup h' t items:=let⟨o,ho,r⟩:=x;⟨o,e _ ho,r⟩
def uL(hh:A.handled=none)(I l:Addr)(c9:l≠I)(items:Array Value)(hn:items.size<=sizeLine):
 Walks prog w A I [I,l] [I] items.size (λi v=>items[items.size-1-i]?=some v) (λi h=>i<=items.size/\dz h I l ((items.size:Int)-1-(i:Int))/\IsTup h l items) where
 sub:=λb hb=>by simp at hb;simp [hb]
 frame:=λ_ _ _ x hk=>⟨x.1,x.2.1.at λo e=>hk I (by simp) o e,IsTup.mv x.2.2 λo e=>hk l (by simp) o e⟩
 item:=λi s Q E hi x hQ=>by
  have e:(items.size:Int)-1-(i:Int)=((items.size-1-i:Nat):Int):=by omega
  have hit:=x.2.1
  rw [e] at hit;have hx:items[items.size-1-i]?=some (items[items.size-1-i]'(by omega)):=zz2 (by omega)
  refine wx hit x.2.2 hn hx λh' tk IZ uM=>?_
  have e2:((items.size-1-i:Nat):Int)-1=(items.size:Int)-1-((i+1:Nat):Int):=by omega
  rw [e2] at IZ;exact hQ _ h' tk hx ⟨hi,IZ,IsTup.mv x.2.2 λo eo=>(uM.2 l c9).trans eo⟩ λb o hb eo=>uM.extBut b o (λh=>hb (by simp [h])) eo
 done:=λs Q E x hQ=>by
  have e:(items.size:Int)-1-(items.size:Int)= -1:=by omega
  have hit:=x.2.1
  rw [e] at hit;exact Bp hh hit λh' BY=>hQ h' s.toks λb o hb eo=>BY b o (λh=>hb (by simp [h])) eo
 self:=λ_ _ _ _ x hQ=>oE x.2.1 hQ
def vZ{I l:Addr}{items:Array Value}{Q:Bool->Shared->Prop}(hit:dz s.heap I l ((items.size:Int)-1))(hl:IsTup s.heap l items)(hn:items.size<=sizeLine)(h:∀b tk,Q b {s with toks:=tk}):wpAny (model prog w) A (Builtin.List.listLengthHint (.ref I)) Q E s:=by
 obtain⟨o,ho,hc,hd⟩:=id hit
 unfold Builtin.List.listLengthHint;refine zzA (wpAny_specialOf hit.typeIs p6 ?_);show wpAny _ _ (specialOf (Value.ref I) (Str.ofString "__length_hint__")>>=_) _ _ _;refine zzA (wpAny_specialOf hit.typeIs dh.lookup ?_)
 wp_delta
 refine zzA (wpAny_isInstance (T:="reversed") (v:=.ref I) (b:=true) hit.typeIs F.sub_reversed_self ?_);rw [if_neg (by decide)];show wpAny _ _ (if _ then _ else _) _ _ _;rw [if_neg (by decide+kernel)];refine zzA (wpAny_rule ?_);refine zzA (wpAny_of_eq (dh.bind _) ?_)
 try dsimp only
 refine zzA (wpAny_attempt (wpAny_call_entry dh hit.typeIs kn ?_ (kQ _)));unfold Builtin.«reversed.__length_hint__»;refine zzA (wpAny_of_eq (a:=Value.ref I) rfl ?_);refine zzA (wpAny_field ho hd (x:=.ref l) rfl ?_);rw [if_neg (show¬((Value.ref l==Value.none)=true) from zzf)];refine zzA (len_tuple hl (by rw [sizeLine_eq] at hn;omega) ?_);refine zzA (wpAny_of_eq (a:=some (items.size:Int)) rfl ?_)
 try dsimp only
 refine zzA (wpAny_field (s:={s with toks:=s.toks+1+1}) ho hd (x:=rawInt ((items.size:Int)-1)) rfl ?_);show wpAny _ _ (if(items.size:Int)<(items.size:Int)-1+1 then _ else _) _ _ _;rw [if_neg (by omega)];unfold retInt;refine zzA (wpAny_mkInt (zzG ⟨_,rfl,?_⟩));show wpAny _ _ (asInt? (Value.int ((items.size:Int)-1+1) _)>>=_) _ _ _;refine zzA (wpAny_of_eq (a:=some ((items.size:Int)-1+1)) rfl ?_);rw [sizeLine_eq] at hn;have h1:Builtin.List.listFitsIndex ((items.size:Int)-1+1)=true:=by
  unfold Builtin.List.listFitsIndex;rw [zza,zzN,zzN];omega
 have h2:Builtin.List.listTooLong ((items.size:Int)-1+1).toNat=false:=by
  unfold Builtin.List.listTooLong;rw [decide_eq_false_iff_not,sizeLine_eq];omega
 simp! [h1,h2,Bool.not_true,zze,if_false];rw [if_neg (by omega)];exact zzG (h _ _)
def zT{R:Result->Shared->Prop}(hh:A.handled=none){I l:Addr}(c9:l≠I){items:Array Value}(hit:dz s.heap I l ((items.size:Int)-1))(hl:IsTup s.heap l items)(S:Addr)(zk:S≠I)(JH:S≠l)(res:Value)(c₀:Nat)(hS:s.heap.get? S=some (lO #[] c₀))
 (hR:∀h' tk dR c',(∀b o,b≠S->b≠I->s.heap.get? b=some o->h'.get? b=some o)->h'.get? S=some (lO dR c')->
  ItemsOf (λi v=>items[items.size-1-i]?=some v) dR items.size->R (.ok (.ret res)) {s with heap:=h',toks:=tk}) (hn:items.size<=sizeLine):
 wpAny (model prog w) A.in1 (Builtin.List.listExtendWith (.ref S) (.ref I) res)
  (λfin s'=>match fin with|.done f=>R (.ok f) s'|.again c'=>c'.quiet=true/\codeAny (model prog w) A c' R s') (λe s'=>R (.error e) s') s:=by
 have OV:S∉[I,l]:=λhm=>by
  rcases zzm.mp hm with e|hm
  ·exact zk e
  ·exact JH (zzi.mp hm)
 have key:∀(h:Heap) (c1 tk:Nat),(∀b x,b≠S->s.heap.get? b=some x->h.get? b=some x)->h.get? S=some (lO #[] c1)->codeAny (model prog w) A (.builtin "list.extend.loop" ⟨[.ref S,.ref I,res],[]⟩) R {s with heap:=h,toks:=tk}:=λh c1 tk hk e1=>
  codeAny_extend_loopS (uL (prog:=prog) (w:=w) (A:=A.in1) hh I l c9 items hn).toS hn _ OV _ items.size 0 {s with heap:=h,toks:=tk} _ _ rfl (Nat.zero_le _) ⟨Nat.zero_le _,by simpa using hit.at λo e=>hk _ _ (Ne.symm zk) e,IsTup.mv hl λo e=>hk _ _ (Ne.symm JH) e⟩ e1 (ItemsOf.nil _) λs' dR c' hm GD qN=>by
   rw [Moved.eq_with hm];refine hR s'.heap s'.toks dR c' (λb ob hb OF e=>hm.heap b ob (λhmem=>?_) (hk b ob hb e)) GD qN
   rcases zzm.mp hmem with e'|hmem
   ·exact hb e'
   ·exact OF (zzi.mp hmem)
 unfold Builtin.List.listExtendWith;refine zzA (wpAny_typeOf hit.typeIs ?_);have h1:Builtin.List.listSameRef (.ref S) (.ref I)=false:=by simp [Builtin.List.listSameRef,zk]
 have h2:(Value.type "reversed"==Value.type "list")=false:=by decide
 have h3:(Value.type "reversed"==Value.type "tuple")=false:=by decide
 simp! [h1,h2,h3,Bool.or_false,zze,if_false];refine zzA (oE hit ?_);refine zzA (wpAny_holding (vZ hit hl hn λb tk=>?_));refine wpAny_ite_split (λ_=>?_) (λ_=>zzG ⟨plainId_quiet F.plain_extend_loop _,key _ c₀ _ (λb x _ q=>q) hS⟩)
 refine zzA (wpAny_rule (zzA ?_));show wpAny _ _ (updateSeq S (·.push .none)>>=λ_=>updateSeq S (·.pop)) _ _ _
 refine zzA (wpAny_updateSeq (s:={s with toks:=tk}) hS rfl ?_);have GL:=Heap.get?_update_self (Obj.mapSeq (·.push Value.none)) hS rfl
 refine wpAny_updateSeq (hz:=by seq_fits) GL rfl ?_;have LP:=Heap.get?_update_self (Obj.mapSeq (·.pop)) GL rfl
 exact zzG ⟨plainId_quiet F.plain_extend_loop _,key _ _ _ (λb x hb q=>(Heap.get?_update_other _ _ (Ne.symm hb)).trans ((Heap.get?_update_other _ _ (Ne.symm hb)).trans q)) LP⟩
def kK{Q:Value->Shared->Prop}(hh:A.handled=none){I l:Addr}(c9:l≠I){items:Array Value}(hit:dz s.heap I l ((items.size:Int)-1))(hl:IsTup s.heap l items)
 (hQ:∀h' tk dR c',(∀b o,b≠I->s.heap.get? b=some o->h'.get? b=some o)->
  h'.get? (zz9 s)=some (lO dR c')->ItemsOf (λi v=>items[items.size-1-i]?=some v) dR items.size->Q (.ref (zz9 s)) {s with heap:=h',toks:=tk}) (hn:items.size<=sizeLine):
 wpAny (model prog w) A (call (.type "list") [.ref I]) Q E s:=by
 refine callType_codes (Q₁:=λobj s₁=>obj=.ref (zz9 s)/\s₁={s with heap:=s.heap.push {cls:=.type "list",data:=.seq #[]}}) F.called_list (F.typeCall_list_1 _) F.entry_list_init
  (code_list_new _ ⟨rfl,rfl⟩) λobj s₁ h₁=>?_
 obtain⟨rfl,rfl⟩:=h₁
 have hS:(s.heap.push {cls:=.type "list",data:=.seq #[]}).get? (zz9 s)=some {cls:=.type "list",data:=.seq #[]}:=zzX _ rfl
 have n1:(zz9 s)≠I:=λe=>let⟨o,ho,_⟩:=hit;absurd (zzO ho) (by rw [e];exact Nat.lt_irrefl _)
 have n2:(zz9 s)≠l:=λe=>let⟨o,ho,_⟩:=hl;absurd (zzO ho) (by rw [e];exact Nat.lt_irrefl _)
 refine⟨⟨_,hS,rfl⟩,F.args_list_init_2 _ _,?_⟩;show wpAny _ _ (do let old<-Builtin.List.listItems (.ref (zz9 s));Builtin.List.listUpdate (.ref (zz9 s)) (λ_=>#[]);letGo old.toList.reverse;Builtin.List.listExtendWith (.ref (zz9 s)) (.ref I) .none) _ _ _;refine zzA ?_;unfold Builtin.List.listItems;refine zzA (wpAny_seqItems hS rfl (zzG ?_));show wpAny _ _ (updateSeq (zz9 s) (λ_=>#[])>>=λ_=>letGo (#[]:Array Value).toList.reverse>>=λ_=>Builtin.List.listExtendWith (.ref (zz9 s)) (.ref I) .none) _ _ _
 refine zzA (wpAny_updateSeq hS rfl ?_);have hS₂:=Heap.get?_update_self (Obj.mapSeq (λ_=>(#[]:Array Value))) hS rfl
 have J8:∀b o,b≠(zz9 s)->s.heap.get? b=some o->((s.heap.push {cls:=.type "list",data:=.seq #[]}).update (zz9 s) (Obj.mapSeq (λ_=>(#[]:Array Value)))).get? b=some o:=
  λb o hb e=>(Heap.get?_update_other _ _ (Ne.symm hb)).trans (zzB _ e)
 refine zzA (wpAny_letGo ?_);refine zT (A:=A.in1) (hn:=hn) hh c9 (hit.at λo e=>J8 _ _ (Ne.symm n1) e) (IsTup.mv hl λo e=>J8 _ _ (Ne.symm n2) e) _ n1 n2 .none _ hS₂ λh' tk dR c' hk GD qN=>?_
 exact⟨rfl,hQ h' tk dR c' (λb o hb e=>hk b o (zzb (zzO e)) hb (J8 b o (zzb (zzO e)) e)) GD qN⟩
variable{X:Cx}{e:Expr}{te:TE}{p1 p2 pos wo:Pos}
def uR(hc:X.calm=true)(hg:Gl X "list")(hm:X.mg "list"=none)(Mg:Gl X "reversed")(FR:X.mg "reversed"=none)(h:PE X e te)(he:starEach [e] X.env=(false,eval e X.env)::starEach [] X.env):
 PE X (.Call (.Name "list" p1) [.Call (.Name "reversed" p2) [e] [] wo] [] pos) (λσ H Q=>te σ H λx H1=>∃l vs,x=.ref l/\dJ X.K H1 l vs/\∀p,H1 p=none->Q (.ref p) (upd H1 p (.lst vs.reverse))):=by
 intro aa s σ H Q I q;refine wpAny_Call_Name_kw (c6 I hg hm (u:=.type "list") (by decide+kernel) ?_);refine PyProof.Rows.callWith_type1 ?_ rfl rfl;show wpAny _ _ (spliced ((false,eval (.Call (.Name "reversed" p2) [e] [] wo) X.env)::backTo pos (starEach [] X.env))) _ _ s;refine Calls.spliced_cons ?_;refine wpAny_Call_Name_kw (c6 I Mg FR (u:=.type "reversed") (by decide+kernel) ?_);refine PyProof.Rows.callWith_type1 (bh (bW h dq he wo aa s σ H (λxs H1=>HD xs λx=>∃l vs,x=.ref l/\dJ X.K H1 l vs/\∀p,H1 p=none->Q (.ref p) (upd H1 p (.lst vs.reverse))) I q) λus s1 ⟨xs,H1,I1,r1,q1⟩=>?_) he rfl
 ·obtain⟨x,rfl,l,vs,rfl,hq,q1⟩:=AW q1
  obtain⟨u,rfl,rx⟩:=vals1 r1
  cases rx;obtain⟨ae,r',pl,hz⟩:=I1.tuple hq
  have hlen:=r'.length
  have hn:ae.toArray.size<=sizeLine:=by simp! [zzC]<;>omega
  refine fX pl hn λOX=>?_
  refine Calls.spliced_nil ?_;obtain⟨ol,hol,_⟩:=id pl
  have c9:l≠(zz9 s1):=λz=>absurd (zzO hol) (by rw [z];exact Nat.lt_irrefl _)
  refine kK (s:={s1 with heap:=s1.heap.push (EV l ((ae.toArray.size:Int)-1)),toks:=OX}) (I1.ok.hd hc) c9 ⟨_,zzX _ rfl,rfl,rfl⟩ (IsTup.mv pl λo z=>zzB _ z) (λh' tk dR c' kp e ha=>?_) hn;have qN:dR.toList=ae.reverse:=by
   refine List.ext_getElem? λi=>?_
   by_cases hi:i<ae.length
   ·rw [List.getElem?_reverse hi];have hs:dR.size=ae.length:=by rw [ha.1];simp
    have zi:i<dR.size:=by omega
    have:=ha.2 i dR[i] (zz2 zi)
    rw [Array.getElem?_toList,zz2 zi,<-this];simp
   ·rw [List.getElem?_eq_none (by rw [zzd,ha.1];simpa using hi),List.getElem?_eq_none (by rw [List.length_reverse];omega)]
  have rv:Vals vs.reverse dR.toList:=by rw [qN];exact xD r'
  exact⟨.ref ((zz9 s1)+1),_,I1.laid (t':=tk) (a:=(zz9 s1)+1) (λb o z=>kp b o (zzb (zzO z)) (zzB _ z)) (Nat.le_succ _) (show aY X.prog X.w _ h' _ (.lst _) from⟨by rw [List.length_reverse];exact hz,dR.toList,c',rv,by simpa using e⟩),by rw [Heap.size_push];rfl,q1 _ (I1.aU.fresh (Nat.le_succ _))⟩
end
end L2
namespace Ci
open PySem L2
section
variable{Γ:Pg}{X:Cx}{W:Wd}{F:aO}{N:List Str}{sc:Scope}{k:Nat}
def vh{G:Hp}{p:PV}{v:V}(h:Rep W G p v):∀{ps:List PV} {vs:List V},ah W G ps vs->ah W G (ps++[p]) (vs++[v]):=by
 intro ps
 induction ps with
 |nil=>
  intro vs t;have:=t.length
  cases vs with
  |nil=>exact .cons h .nil
  |cons _ _=>cases this
 |cons q ps ih=>
  intro vs t;obtain⟨u,r,rfl,h1,t⟩:=t.bK
  exact .cons h1 (ih t)
def jx{G:Hp}:∀{ps:List PV} {vs:List V},ah W G ps vs->ah W G ps.reverse vs.reverse:=by
 intro ps
 induction ps with
 |nil=>
  intro vs t;have:=t.length
  cases vs with
  |nil=>exact .nil
  |cons _ _=>cases this
 |cons q ps ih=>
  intro vs t;obtain⟨u,r,rfl,h1,t⟩:=t.bK
  rw [List.reverse_cons,List.reverse_cons];exact vh h1 (ih t)
theorem Ax(C:dj Γ F W N sc k X)(hq:Γ.qt=false){a:E}{pa:Expr}{p1 p2 pos wo:Pos}(hg:fL sc "list"=true)(hm:Γ.bs.contains "list"=true)(Mg:fL sc "reversed"=true)(FR:Γ.bs.contains "reversed"=true)(ha:GE X W F a pa)(he:starEach [pa] X.env=(false,eval pa X.env)::starEach [] X.env):
 GE X W F (.wt a) (.Call (.Name "list" p1) [.Call (.Name "reversed" p2) [pa] [] wo] [] pos):=
 (uR (C.calm hq) (dD C hg) (C.bs _ (zzn.mp hm)) (dD C Mg) (C.bs _ (zzn.mp FR)) ha he).imp λσ H Q h=>by
  obtain⟨H0,G,env,sr,o⟩:=h
  rw [ax] at o;refine one sr o λp v G1 H1 g t bA o1=>?_
  cases p with
  |tup xs=>
   obtain⟨l,vs,rfl,h1,l1⟩:=t.top.tup bA.sub
   rw [C.K] at h1;exact⟨l,vs,rfl,h1,λp hp=>cJ.lst (W:=W) (G:=G1) (H:=H1) (xs:=xs.reverse) (λw G' H' g' fT=>o1 w G' H' (g.trans g') (.of fT)) bA.sub (jx l1) hp⟩
  |_=>exact zzk o1
def E1(C:dj Γ F W N sc k X){a:E}{pa st:Expr}{p2 pos:Pos}(ha:GE X W F a pa)(hs:GE X W F (.neg (.cst (.int 1))) st):GE X W F (.rev a) (.Subscript pa (.Slice none none (some st) p2) pos):=
 (Dv (yR.or (yR.or Ea D7) Fn) ha hs).imp λσ H Q h=>by
  obtain⟨H0,G,env,sr,o⟩:=h
  rw [ax] at o;refine one sr o λp v G1 H1 g t bA o1=>⟨H0,G1,env,bA,?_⟩
  have e:ax F (.neg (.cst (.int 1))) env=.ok (.int (-1)):=by rw [ax,ax];rfl
  rw [e];intro v2 G2 H2 g2 t2;refine⟨t2.top.int,?_⟩;have t3:=t.grow g2
  cases p with
  |str z=>
   by_cases hl:z.length<=bG
   ·have o2:Out X W (if z.length<=bG then Res.ok (PV.str (fk z)) else .bad) σ G1 H1 _:=o1
    rw [if_pos hl] at o2;exact .inr ⟨z,t3.top.str,fD hl,o2 _ G2 H2 (g.trans g2) (.of .s)⟩
   ·have o2:Out X W (if z.length<=bG then Res.ok (PV.str (fk z)) else .bad) σ G1 H1 _:=o1
    rw [if_neg hl] at o2;exact o2.elim
  |tup xs=>
   obtain⟨l,vs,rfl,h1,l1⟩:=t3.top.tup g2.sub
   rw [C.K] at h1;exact .inl (.inl ⟨l,vs,rfl,h1,λp hp=>cJ.tup (W:=W) (G:=G2) (H:=H2) (xs:=xs.reverse) (λw G' H' g' fT=>o1 w G' H' ((g.trans g2).trans g') (.of fT)) g2.sub (jx l1) hp⟩)
  |lst xs=>
   obtain⟨l,vs,rfl,h1,l1⟩:=t3.top.lst g2.sub
   exact .inl (.inr ⟨l,vs,rfl,iZ C.K h1,λp hp=>cJ.lst (W:=W) (G:=G2) (H:=H2) (xs:=xs.reverse) (λw G' H' g' fT=>o1 w G' H' ((g.trans g2).trans g') (.of fT)) g2.sub (jx l1) hp⟩)
  |_=>exact zzk o1
variable{G H:Hp}
def av.Jb{L:List (Addr×HO)}(s:aq G H)(h:∀x∈L,H x.1=none):av W G H G (gM H L):=
 ⟨aq.refl _,.of λ_ _ e=>cI h e,s.trans λ_ _ e=>cI h e,λ_ _ _ hg=>hg,λt=>t.same (aq.refl _) (λ_ _ _ h=>h) λ_ _ e=>cI h e⟩
theorem ma{W:Wd}{H:Hp}:∀{vs:List V} {ps:List (Int×Int)} {G:Hp},aq G H->IX H vs ps->∃G',av W G H G' H/\ah W G' (ps.map λq=>.tup [.int q.1,.int q.2]) vs
 |_,_,G,sg,.nil=>⟨G,.refl sg,.nil⟩
 |_,_,G,sg,.cons (b:=q) h t=>by
  obtain⟨b,rfl,hb⟩:=h
  have g1:=av.adopt (W:=W) sg hb
  obtain⟨G3,g3,l⟩:=ma g1.sub t
  refine⟨G3,g1.trans g3,.cons (Rep.same g3.g _ ?_) l⟩;exact .t (.inl aw) (.cons .i (.cons .i .nil))
theorem zW(C:dj Γ F W N sc k X)(hq:Γ.qt=false){i:Nat}{x:Str}{np p1 pos apos ba:Pos}(hg:fL sc "sorted"=true)(hm:Γ.bs.contains "sorted"=true)(hn:N[i]?=some x)(hv:eN sc x=true)(ho:okN x=true)(hl:(apos.endLine==ba.line)=true):
 GE X W F (.oh i) (.Call (.Name "sorted" p1) [.Call (.Attribute (.Name x np) "items" apos) [] [] ba] [] pos):=
 (dI (ni (C.calm hq)) (dD C hg) (C.bs _ (zzn.mp hm)) (by decide+kernel) (bW (vq (nG (i:=i) (by rw [C.hN];exact hn) (mP C hv) (fx ho).1 (fx ho).2.1) rfl hl) dq rfl)).imp λσ H Q h=>by
  obtain⟨H0,G,env,sr,o⟩:=h
  rw [ax] at o;split at o
  ·rename_i ai e;obtain⟨o2,hs,a,rfl,h1,h2,h3,nd⟩:=sr.slot i _ e
   by_cases hc:ai.length<64
   ·rw [if_pos hc] at o;refine⟨.ref a,hs,a,_,rfl,h1,λp hp c9=>⟨p,a,ai,rfl,aw,by rw [af (Ne.symm c9)];exact h1,hc,λx ws L hn pr hx=>?_⟩⟩
    have g1:=av.Dt (W:=W) (o:=JA p a) sr.sub hp
    have g2:=av.Jb (W:=W) g1.sub hn
    obtain⟨G3,g3,l3⟩:=ma (W:=W) g2.sub pr
    exact cJ.lst (W:=W) (G:=G3) (λw G' H' g' fT=>o w G' H' (((g1.trans g2).trans g3).trans g') (.of fT)) g3.sub (rH l3) hx
   ·rw [if_neg hc] at o;exact zzk o
  ·exact zzk o
end
end Ci
namespace L2
open PySem PySem.Spec PyProof.Rows
end L2
namespace Ci
open PySem L2
section
variable{Γ:Pg}{W:Wd}{F:aO}{k:Nat}
def Cs{X:Cx}{e:E}{p:Expr}(h:GE X W F e p)(he:∀whole,isTrue p X.env whole=(do let v<-whole;standAt p.pos;holding [v] (truthy v))):GT X W F e p:=
 L2.PT.imp (CM h he) λσ H Q hq=>BL σ H Q hq
theorem vM{N:List Str}{sc:Scope}:∀{es:Es} {ps:List Expr},dA Γ N sc es ps=true->∀env pos,(backTo pos (starEach ps env)).all (λx=>!x.1)=true
 |.nil,[],_,_,_=>rfl
 |.cons e es,p::ps,h,env,pos=>by
  replace h:=ak h
  rw [notStar h.1];show(true&&(backTo pos (starEach ps env)).all (λx=>!x.1))=true
  rw [vM h.2]
  rfl
 |.nil,_::_,h,_,_=>aM h
 |.cons _ _,[],h,_,_=>aM h
theorem xy{N:List Str}{sc:Scope}:∀{es:Es} {ps:List Expr},dA Γ N sc es ps=true->ps.length=dZ es
 |.nil,[],_=>rfl
 |.cons e es,p::ps,h=>by
  replace h:=ak h
  rw [zzL,xy h.2]
  rfl
 |.nil,_::_,h=>aM h
 |.cons _ _,[],h=>aM h
structure MT(X:Cx)(W:Wd)(F:aO)(e:E)(p:Expr):Prop where
 ge:GE X W F e p
 gt:fi e=true->GT X W F e p
 gw:fi e=true->∀op vs pos,p=.BoolOp op vs pos->GW X W F e p
def aP{X:Cx}{e:E}{p:Expr}(h:GE X W F e p)(he:∀whole,isTrue p X.env whole=(do let v<-whole;standAt p.pos;holding [v] (truthy v)))(hb:∀op vs pos,p≠.BoolOp op vs pos):MT X W F e p:=
 ⟨h,λ_=>Cs h he,λ_ op vs pos e=>absurd e (hb op vs pos)⟩
def isTrue_plain{p:Expr}{env:Env}(h:(match p with|.UnaryOp .Not _ _=>false|.BoolOp .. =>false|.IfExp .. =>false|.Compare .. =>false|_=>true)=true):∀whole,isTrue p env whole=(do let v<-whole;standAt p.pos;holding [v] (truthy v)):=by
 intro whole;cases p with
 |UnaryOp op a pos=>cases op<;>first|rfl|(exact aM h)
 |BoolOp _ _ _=>exact aM h
 |IfExp _ _ _ _=>exact aM h
 |Compare _ _ _ _=>exact aM h
 |_=>rfl
def qS{po:Expr}{m:Str}{env:Env}(h:tM po=true):attributeBase po m env (eval po env)=eval po env:=by
 cases po<;>first|rfl|(exact aM h)
def D5{X:Cx}{q:PV}{c:Const}{kk:Nat}{pos:Pos}(h:IG q c=true):GE X W F (.cst q) (.Constant c kk pos):=by
 cases q with
 |aI=>cases EC h;exact eT FC λG=>.n
 |bl b=>
  obtain⟨x,e,h⟩:=ag h
  cases FL e;cases eq_of_beq h;exact eT Ij λG=>.b
 |int i=>
  obtain⟨x,e,h⟩:=ag h
  cases xA e;cases eq_of_beq h;exact eT nF λG=>.i
 |str z=>
  obtain⟨x,e,h⟩:=ag h
  cases yk e;cases eq_of_beq h;exact eT wL λG=>.s
 |_=>exact aM h
def wC{α:Type}{r:Res α}{c:α->Prop} [∀a,Decidable (c a)]{f:α->Res (List PV)}{q:PV}(e:(r.bind λa=>if c a then(f a).bind λys=>.ok (.lst ys) else .bad)=.ok q):∃ys,q=.lst ys:=by
 obtain⟨ps,_,e⟩:=Res.aK e
 split at e
 ·obtain⟨ys,_,e⟩:=Res.aK e
  cases e;exact⟨_,rfl⟩
 ·cases e
def tD{kk:Nat}{bP:List Nat}{tg:Tg}{it:I}{elt:E}(env:Sl)(q:PV)(e:ax F (.comp kk bP tg it elt) env=.ok q):∃ys,q=.lst ys:=by
 rw [ax] at e;exact wC e
def mB{kk:Nat}{bP:List Nat}{tg:Tg}{it:I}{c elt:E}(env:Sl)(q:PV)(e:ax F (.bX kk bP tg it c elt) env=.ok q):∃ys,q=.lst ys:=by
 rw [ax] at e;exact wC e
mutual
theorem aV:∀(e:E) {Γ:Pg} {N:List Str} {sc:Scope} {X:Cx} (C:dj Γ F W N sc k X) (p:Expr),aR Γ N sc e p=true->MT X W F e p
 |.var i,Γ,N,sc,X,C,p,h=>by
  obtain⟨x,_,rfl,h9⟩:=FX h
  clear h
  have h:=h9
  clear h9
  exact aP (Fq C h) (λ_=>rfl) (λ_ _ _ z=>nomatch z)
 |.AH i,Γ,N,sc,X,C,p,h=>by
  obtain⟨x,_,rfl,h9⟩:=FX h
  clear h
  have h:=h9
  clear h9
  exact aP (EI C h) (λ_=>rfl) (λ_ _ _ z=>nomatch z)
 |.cst q,Γ,N,sc,X,C,p,h=>by
  obtain⟨c,_,_,rfl,h9⟩:=NX h
  clear h
  have h:=h9
  clear h9
  refine aP (D5 h) (λ_=>rfl) (λ_ _ _ z=>nomatch z)
 |.glob g q,Γ,N,sc,X,C,p,h=>by
  obtain⟨x,_,rfl,h9⟩:=FX h
  clear h
  have h:=h9
  clear h9
  exact aP (zv C h) (λ_=>rfl) (λ_ _ _ z=>nomatch z)
 |.call f as,Γ,N,sc,X,C,p,h=>by
  obtain⟨g,args,_,_,rfl,h9⟩:=yL h
  clear h
  have h:=h9
  clear h9
  replace h:=ak h
  try simp! [zza,zzy] at h
  obtain⟨⟨⟨⟨⟨rfl,h1⟩,h2⟩,h3⟩,h4⟩,h5⟩:=h
  have ga:=gd as C args h5
  cases as with
  |nil=>
   cases args with
   |nil=>exact aP (wB C h1 h2 h3) (λ_=>rfl) (λ_ _ _ z=>nomatch z)
   |cons _ _=>exact aM h5
  |cons e es=>
   cases args with
   |nil=>exact aM h5
   |cons q qs=>
    have h6:=ak h5
    exact aP (zI C h1 h2 h3 h4 ga (notStar h6.1 _ _) (c5 h6.2 _ _)) (λ_=>rfl) (λ_ _ _ z=>nomatch z)
 |.blt b as,Γ,N,sc,X,C,p,h=>by
  obtain⟨hq,h⟩:=j4 h
  obtain⟨g,args,_,_,rfl,h9⟩:=yL h
  clear h
  have h:=h9
  clear h9
  replace h:=ak h
  try simp! [zza,zzy] at h
  obtain⟨⟨⟨⟨rfl,h1⟩,h2⟩,h3⟩,h5⟩:=h
  have ga:=gd as C args h5
  cases as with
  |nil=>exact aM h3
  |cons e es=>
   cases args with
   |nil=>exact aM h5
   |cons q qs=>
    have h6:=ak h5
    exact aP (EA C hq b h1 h2 ga (notStar h6.1 _ _) (c5 h6.2 _ _)) (λ_=>rfl) (λ_ _ _ z=>nomatch z)
 |.ty t a,Γ,N,sc,X,C,p,h=>by
  obtain⟨g,args,_,_,rfl,h9⟩:=yL h
  clear h
  have h:=h9
  clear h9
  obtain⟨pa,pb,z2,h2⟩:=AI h
  obtain⟨tn,_,z3,h3⟩:=FX h2
  dsimp only at z2 z3;subst z2 z3
  clear h h2
  have h:=h3
  clear h3
  replace h:=ak h
  try simp! [zza,zzy] at h
  obtain⟨⟨⟨⟨⟨⟨rfl,h1⟩,h2⟩,rfl⟩,h3⟩,h4⟩,h5⟩:=h
  exact aP (Gy C h1 h2 h3 h4 (aV a C pa h5).ge (notStar h5)) (λ_=>rfl) (λ_ _ _ z=>nomatch z)
 |.pU m o as,Γ,N,sc,X,C,p,h=>by
  obtain⟨⟨f,args,kws,pos⟩,e,h1⟩:=ag h
  have z:=kA e
  obtain⟨⟨po,attr,apos⟩,e2,h2⟩:=ag h1
  have z2:=ql e2
  have h3:=ak h2
  have z3:=BB h3.1
  dsimp only at z z2 z3;subst z z2 z3
  clear h h1 h2
  have h:=ak h3.2
  clear h3
  simp! [zza] at h;obtain⟨⟨⟨⟨⟨⟨e1,h1⟩,h2⟩,h3⟩,h4⟩,h5⟩,h6⟩:=h
  cases zzy.mp e1;have ga:=gd as C args h5
  cases as with
  |nil=>exact aM h1
  |cons e es=>
   cases args with
   |nil=>exact aM h5
   |cons q qs=>
    have h7:=ak h5
    have hl:=xy h5
    refine aP (CN C (aV o C po h4).ge ga (qS h6) ?_ h3 (notStar h7.1 _ _) (c5 h7.2 _ _)) (λ_=>rfl) (λ_ _ _ z=>nomatch z);rw [vM h5];have u5:=zzY h2
    refine Bool.and_eq_true_iff.mpr ⟨rfl,zzh ?_⟩;rw [hl];exact u5
 |.bin o a b,Γ,N,sc,X,C,p,h=>by
  obtain⟨q,e,h1⟩:=ag h
  obtain⟨_,rfl⟩:=EG e
  clear h
  have h:=ak h1
  have h0:=ak h.1
  rw [<-zzY h0.1];exact aP (D6 C (aV a C _ h0.2).ge (aV b C _ h.2).ge) (λ_=>rfl) (λ_ _ _ z=>nomatch z)
 |.cmp o a b,Γ,N,sc,X,C,p,h=>by
  obtain⟨pa,ops,cs,_,rfl,h1⟩:=MI h
  obtain⟨op,z2,h2⟩:=g9 h1
  obtain⟨pb,z3,h3⟩:=g9 h2
  dsimp only at z2 z3;subst z2 z3
  clear h h1 h2
  have h:=h3
  clear h3
  replace h:=ak h
  have h0:=ak h.1
  cases zzY h0.1;have h1:=h0.2
  have h2:=h.2
  exact⟨Dw C (aV a C _ h1).ge (aV b C _ h2).ge (m4 h2 _),λ_=>DQ C (aV a C _ h1).ge (aV b C _ h2).ge (m4 h2 _),(λ_ _ _ _ z=>nomatch z)⟩
 |.ch o1 o2 a b c,Γ,N,sc,X,C,p,h=>by
  obtain⟨pa,ops,cs,_,rfl,h1⟩:=MI h
  obtain⟨op1,op2,z2,h2⟩:=AI h1
  obtain⟨pb,pc,z3,h3⟩:=AI h2
  dsimp only at z2 z3;subst z2 z3
  clear h h1 h2
  have h:=h3
  clear h3
  replace h:=ak h
  try simp! [zza,zzN] at h
  obtain⟨⟨⟨⟨rfl,rfl⟩,h1⟩,h2⟩,h3⟩:=h
  have hm:lastMarks [nY o1,nY o2] [pb,pc]=false:=m4 h3 _
  exact⟨Gv C (aV a C _ h1).ge (aV b C _ h2).ge (aV c C _ h3).ge hm,λ_=>G8 C (aV a C _ h1).ge (aV b C _ h2).ge (aV c C _ h3).ge hm,(λ_ _ _ _ z=>nomatch z)⟩
 |.not a,Γ,N,sc,X,C,p,h=>by
  obtain⟨o,pa,_,rfl,h1⟩:=K6 h
  clear h
  have h:=ak h1
  cases v5 h.1;have s:=aV a C pa h.2
  exact⟨Fz s.ge,λz=>Fv (s.gt (by simpa only [fi] using z)),(λ_ _ _ _ z=>nomatch z)⟩
 |.neg a,Γ,N,sc,X,C,p,h=>by
  obtain⟨o,pa,_,rfl,h1⟩:=K6 h
  clear h
  have h:=ak h1
  cases n8 h.1;exact aP (yI (aV a C pa h.2).ge) (λ_=>rfl) (λ_ _ _ z=>nomatch z)
 |.and a b,Γ,N,sc,X,C,p,h=>by
  obtain⟨o,vs,pos,rfl,h1⟩:=Na h
  obtain⟨⟨pa,pb⟩,e2,h2⟩:=ag h1
  clear h h1
  have h:=ak h2
  clear h2
  try simp! [zza] at h
  obtain⟨⟨⟨h0,he⟩,h1⟩,h2⟩:=h
  cases xj h0;have sa:=aV a C pa h1
  have sb:=aV b C pb h2
  rcases xH e2 with z|⟨q,c,r,z,z2⟩
  ·dsimp only at z;subst z;have gw:fi (.and a b)=true->GW X W F (.and a b) (.BoolOp .And [pa,pb] pos):=λz=>by
    have z:=ak z
    exact v9 (sa.gt z.1) (pw_and1 (sb.gt z.2))
   exact⟨xQ he sa.ge (vU sb.ge),λz=>(gw z).pt,λz _ _ _ _=>gw z⟩
  ·dsimp only at z z2;subst z z2;have gw:fi (.and a b)=true->GW X W F (.and a b) (.BoolOp .And (pa::q::c::r) pos):=λz=>by
    have z:=ak z
    exact v9 (sa.gt z.1) (sb.gw z.2 _ _ _ rfl)
   exact⟨xQ he sa.ge sb.ge,λz=>(gw z).pt,λz _ _ _ _=>gw z⟩
 |.or a b,Γ,N,sc,X,C,p,h=>by
  obtain⟨o,vs,pos,rfl,h1⟩:=Na h
  obtain⟨⟨pa,pb⟩,e2,h2⟩:=ag h1
  clear h h1
  have h:=ak h2
  clear h2
  try simp! [zza] at h
  obtain⟨⟨⟨h0,he⟩,h1⟩,h2⟩:=h
  cases A2 h0;have sa:=aV a C pa h1
  have sb:=aV b C pb h2
  rcases xH e2 with z|⟨q,c,r,z,z2⟩
  ·dsimp only at z;subst z;have gw:fi (.or a b)=true->GW X W F (.or a b) (.BoolOp .Or [pa,pb] pos):=λz=>by
    have z:=ak z
    exact B3 (sa.gt z.1) (pw_or1 (sb.gt z.2))
   exact⟨BI he sa.ge (vU sb.ge),λz=>(gw z).pt,λz _ _ _ _=>gw z⟩
  ·dsimp only at z z2;subst z z2;have gw:fi (.or a b)=true->GW X W F (.or a b) (.BoolOp .Or (pa::q::c::r) pos):=λz=>by
    have z:=ak z
    exact B3 (sa.gt z.1) (sb.gw z.2 _ _ _ rfl)
   exact⟨BI he sa.ge sb.ge,λz=>(gw z).pt,λz _ _ _ _=>gw z⟩
 |.ite c a b,Γ,N,sc,X,C,p,h=>by
  obtain⟨q,e,h1⟩:=ag h
  obtain⟨_,rfl⟩:=DA e
  clear h
  have h:=ak h1
  clear h1
  try simp! [zza] at h
  obtain⟨⟨⟨⟨⟨h0,h1⟩,h2⟩,h3⟩,h4⟩,h5⟩:=h
  exact⟨C7 h1 h2 ((aV c C _ h3).gt h0) (aV a C _ h4).ge (aV b C _ h5).ge,(λz=>nomatch z),(λ_ _ _ _ z=>nomatch z)⟩
 |.tup as,Γ,N,sc,X,C,p,h=>by
  obtain⟨ps,e,h1⟩:=ag h
  obtain⟨_,_,rfl⟩:=tK e
  clear h
  have h:=ak h1
  have h0:=ak h.1
  exact aP (ES h0.1 (zzY h0.2) (gd as C _ h.2)) (λ_=>rfl) (λ_ _ _ z=>nomatch z)
 |.lst as,Γ,N,sc,X,C,p,h=>by
  obtain⟨ps,e,h1⟩:=ag h
  obtain⟨_,rfl⟩:=wX e
  clear h
  have h:=ak h1
  have h0:=ak h.1
  exact aP ((xU h0.1 (zzY h0.2) (gd as C _ h.2)).ge lst_is) (λ_=>rfl) (λ_ _ _ z=>nomatch z)
 |.sub a b,Γ,N,sc,X,C,p,h=>by
  obtain⟨pa,pb,_,rfl,h9⟩:=NR h
  clear h
  have h:=h9
  clear h9
  replace h:=ak h
  exact aP (EU C (aV a C _ h.1).ge (aV b C _ h.2).ge (xP h.2)) (λ_=>rfl) (λ_ _ _ z=>nomatch z)
 |.rev a,Γ,N,sc,X,C,p,h=>by
  obtain⟨pa,ps,_,rfl,h1⟩:=NR h
  obtain⟨pl,ph,pst,_,z2,h2⟩:=Ox h1
  obtain⟨st,z3,h3⟩:=ag h2
  obtain⟨uo,ue,_,z4,h4⟩:=K6 h3
  obtain⟨cc,_,_,z5,h5⟩:=NX h4
  clear h h1 h2 h3 h4
  have h:=ak h5
  clear h5
  simp! [zza] at h;obtain⟨⟨⟨⟨y1,y2⟩,y3⟩,y4⟩,y5⟩:=h
  have w1:=F9 y1
  have w2:=F9 y2
  have w3:=n8 y3
  have w4:=xA (eq_of_beq y4)
  dsimp only at z2 z3 z4 z5 w1 w2 w3 w4;subst z2 z3 z4 z5 w1 w2 w3 w4;exact aP (E1 C (aV a C pa y5).ge (yI (eT nF λG=>.i))) (λ_=>rfl) (λ_ _ _ z=>nomatch z)
 |.oh i,Γ,N,sc,X,C,p,h=>by
  obtain⟨hq,h⟩:=j4 h
  obtain⟨g,args,_,_,rfl,h1⟩:=yL h
  obtain⟨z,z2,h2⟩:=g9 h1
  obtain⟨⟨c1,c2,c3,c4⟩,e3,h3⟩:=ag h2
  obtain⟨⟨r1,r2,r3⟩,e4,h4⟩:=ag h3
  obtain⟨x,xp,e5,h5⟩:=FX h4
  have z3:=kA e3
  have z4:=ql e4
  dsimp only at z2 z3 z4 e5 h5;subst z2 z3 z4 e5;simp! [zza,zzy] at h5;obtain⟨⟨⟨⟨⟨⟨⟨⟨⟨rfl,y1⟩,y2⟩,y3⟩,y4⟩,rfl⟩,y6⟩,y7⟩,y8⟩,y9⟩:=h5
  cases List.isEmpty_iff.mp y3;cases List.isEmpty_iff.mp y4;exact aP (zW C hq y1 y2 y7 y8 y9 (by rw [y6];exact beq_self_eq_true _)) (λ_=>rfl) (λ_ _ _ z=>nomatch z)
 |.wt a,Γ,N,sc,X,C,p,h=>by
  obtain⟨hq,h⟩:=j4 h
  obtain⟨g,args,_,_,rfl,h9⟩:=yL h
  clear h
  have h:=h9
  clear h9
  obtain⟨z,z2,h2⟩:=g9 h
  obtain⟨g2,a2,_,_,z3,h3⟩:=yL h2
  obtain⟨pa,z4,h4⟩:=g9 h3
  dsimp only at z2 z3 z4;subst z2 z3 z4
  clear h h2 h3
  have h:=ak h4
  clear h4
  simp! [zza] at h;obtain⟨⟨⟨⟨⟨⟨e1,h1⟩,h2⟩,e2⟩,h3⟩,h4⟩,h5⟩:=h
  cases zzy.mp e1;cases zzy.mp e2;exact aP (Ax C hq h1 h2 h3 h4 (aV a C pa h5).ge (notStar h5 _ _)) (λ_=>rfl) (λ_ _ _ z=>nomatch z)
 |.comp kk bP tg it elt,Γ,N,sc,X,C,p,h=>by
  obtain⟨hq,h⟩:=j4 h
  obtain⟨di,gens,scope,_,rfl,h1⟩:=Jp h
  obtain⟨⟨cg,d8,ifs,asy⟩,z2,h2⟩:=g9 h1
  have h3:=ak h2
  have z3:=BB h3.1
  dsimp only at z2 z3;subst z2 z3
  clear h h1 h2
  have h:=ak h3.2
  clear h3
  simp! [zza] at h;obtain⟨⟨⟨⟨⟨⟨h1,h2⟩,h3⟩,h4⟩,h5⟩,h6⟩,fM⟩:=h
  have fM:=zzY fM
  subst fM;exact aP ((sN C hq (gu h1) h2 h3 (xW it C cg d8 h4) (gn h4 _) h5 λY CY=>(aV elt CY di h6).ge).ge tD) (λ_=>rfl) (λ_ _ _ z=>nomatch z)
 |.bX kk bP tg it c elt,Γ,N,sc,X,C,p,h=>by
  obtain⟨hq,h⟩:=j4 h
  obtain⟨di,gens,scope,_,rfl,h1⟩:=Jp h
  obtain⟨⟨cg,d8,ifs,asy⟩,z2,h2⟩:=g9 h1
  obtain⟨pc,z3,h3⟩:=g9 h2
  dsimp only at z2 z3;subst z2 z3
  clear h h1 h2
  have h:=ak h3
  clear h3
  simp! [zza] at h;obtain⟨⟨⟨⟨⟨⟨⟨⟨h0,h1⟩,h2⟩,h3⟩,h4⟩,h5⟩,h6⟩,h7⟩,fM⟩:=h
  have fM:=zzY fM
  subst fM;exact aP ((mx C hq (gu h1) h2 h3 (xW it C cg d8 h4) (gn h4 _) h5 (λY CY=>(aV c CY pc h6).gt h0) λY CY=>(aV elt CY di h7).ge).ge mB) (λ_=>rfl) (λ_ _ _ z=>nomatch z)
theorem gd:∀(es:Es) {Γ:Pg} {N:List Str} {sc:Scope} {X:Cx} (C:dj Γ F W N sc k X) (ps:List Expr),dA Γ N sc es ps=true->GA X W F es ps
 |.nil,Γ,N,sc,X,C,ps,h=>by
  cases ps with
  |nil=>exact Ek
  |cons _ _=>exact aM h
 |.cons e es,Γ,N,sc,X,C,ps,h=>by
  cases ps with
  |nil=>exact aM h
  |cons p ps=>
   replace h:=ak h
   exact zM (aV e C p h.1).ge (gd es C ps h.2) (notStar h.1 _ _)
theorem xW:∀(it:I) {Γ:Pg} {N:List Str} {sc:Scope} {X:Cx} (C:dj Γ F W N sc k X) (tg p:Expr),uy Γ N sc tg it p=true->GI X W F tg it p
 |.seq e,Γ,N,sc,X,C,tg,p,h=>by
  exact CD C (aV e C p h).ge
 |.rn e,Γ,N,sc,X,C,tg,p,h=>by
  obtain⟨g,args,_,_,rfl,h9⟩:=yL h
  clear h
  have h:=h9
  clear h9
  obtain⟨q,z2,h2⟩:=g9 h
  dsimp only at z2;subst z2
  clear h
  have h:=ak h2
  clear h2
  simp! [zza] at h;obtain⟨⟨⟨e1,h1⟩,h2⟩,h3⟩:=h
  cases zzy.mp e1;exact FN C h1 h2 (notStar h3) (aV e C q h3).ge
 |.ng a b,Γ,N,sc,X,C,tg,p,h=>by
  obtain⟨g,args,_,_,rfl,h9⟩:=yL h
  clear h
  have h:=h9
  clear h9
  obtain⟨q,r,z2,h2⟩:=AI h
  dsimp only at z2;subst z2
  clear h
  have h:=ak h2
  clear h2
  simp! [zza] at h;obtain⟨⟨⟨⟨e1,h1⟩,h2⟩,h3⟩,h4⟩:=h
  cases zzy.mp e1;exact zx C h1 h2 (notStar h3) (notStar h4) (aV a C q h3).ge (aV b C r h4).ge
 |.enum e,Γ,N,sc,X,C,tg,p,h=>by
  obtain⟨g,args,_,_,rfl,h9⟩:=yL h
  clear h
  have h:=h9
  clear h9
  obtain⟨q,z2,h2⟩:=g9 h
  dsimp only at z2;subst z2
  clear h
  have h:=ak h2
  clear h2
  simp! [zza] at h;obtain⟨⟨⟨⟨h0,e1⟩,h1⟩,h2⟩,h3⟩:=h
  cases zzy.mp e1;cases tg<;>first|(exact aM h0)|skip
  exact Al C h1 h2 (notStar h3) (aV e C q h3).ge
 |.zip as,Γ,N,sc,X,C,tg,p,h=>by
  obtain⟨g,args,_,_,rfl,h9⟩:=yL h
  clear h
  replace h:=ak h9
  clear h9
  simp! [zza] at h;obtain⟨⟨⟨⟨⟨⟨h0,e1⟩,h1⟩,h2⟩,h3⟩,h4⟩,h5⟩:=h
  cases zzy.mp e1;cases tg<;>first|(exact aM h0)|skip
  rw [zzt,zzy,zzy] at h4;cases as with
  |nil=>exact absurd h4 (by show¬(0=2\/0=3);omega)
  |cons a as=>
   cases args with
   |nil=>exact aM h5
   |cons q qs=>
    have h6:=ak (show(aR Γ N sc a q&&dA Γ N sc as qs)=true from h5)
    exact Dx C h1 h2 h3 h4 (gd (.cons a as) C (q::qs) h5) (notStar h6.1 _ _) (c5 h6.2 _ _)
end
end
end Ci
namespace L2
open PySem PySem.Spec PyProof.Rows
section
variable{X:Cx}{scope:Scope}{xs ys:List Str}{is:List Nat}
theorem rq{i₀:Nat}{x₀:Str}{pos' hJ:Pos}{elt tg iter:Expr}{pos:Pos}{wi:TI}{g:TG}{te:TE}(hN₀:X.N.Nodup)(hi₀:X.N[i₀]?=some x₀)(hx₀:Loc X.env.scope x₀)(hc:X.calm=true)(S:dg X scope xs ys is)(hi:PI X tg iter wi)
 (hg:∀fp s1 H1 C,PG (bb X (xs++ys) scope (bC X.env ys) fp s1 H1 C) tg g) (he:∀fp s1 H1 C,PE (bb X (xs++ys) scope (bC X.env ys) fp s1 H1 C) elt te)
 (Bs:swapsWith (.ListComp elt [⟨tg,iter,[],0⟩] scope pos) (some (.Name x₀ pos')) hJ.line X.env=pure true:=by rfl)
 (hs:∀x,foldedSetIterable iter X.env x=pure x:=by intro _;rfl) (hf₀:X.fn x₀=true\/X.env.scope.names.lookup x₀=some .local:=by first|exact .inl rfl|exact .inr rfl|assumption):
 PS X (.Assign [.Name x₀ pos'] (.ListComp elt [⟨tg,iter,[],0⟩] scope pos) hJ) (yW (xM wi xs.length g te is) (eK i₀)):=by
 intro aa s σ H D₀ I h;rw [exec_Assign_Name_used _ _ _ _ Bs];refine zzA (wpAny_standAt (zzA ?_));show wpAny _ X.A (do let _<-comprehension (.ListComp elt [⟨tg,iter,[],0⟩] scope pos) scope X.env _ (newList []) false (eval iter X.env) (some (assign (.Name x₀ pos') X.env))) _ _ s;refine zzA (wpAny_mono (eW (QQ:=λ_ s'=>∃σ2 H2,Inv X aa σ2 H2 s'/\D₀.nx σ2 H2) (Q:=λv H4=>eK i₀ v σ H4 D₀.nx) hc S hi hg (λ_ _ _ _=>tV) he hs I h λD C s4 H4 m I5 hn ⟨g0,g1,_,g3,g4,g5⟩ q=>?_) (λ_ s' hq=>zzG (zzG hq)) λ_ _ e=>e)
 refine wpAny_assign_Name (gR I5 hN₀ hi₀ hx₀ (show RelV (.ref D) (.ref D) from rfl) (λs6 I6 ⟨a6,sb6,ha6⟩=>?_) hf₀);have xm:C≠a6:=by
  rcases ha6 with z|z
  ·rw [z];exact g1
  ·exact λz2=>g4 _ _ z z2.symm
 exact⟨m,hn.sameBut sb6 xm,λh' uM=>⟨_,_,I6.turned (t':=s6.toks) (it:=C) (λb o hb e=>uM.extBut b o hb e) g0 g1 g3 g4 g5,q⟩⟩
end
end L2
namespace Ci
open PySem L2
section
variable{W:Wd}{G0 H0 G H:Hp}{env:Sl}{σ:St}
def Own.Cp{p:PV}{v:V}(h:Own W H0 G H p v):∃a o,v=.ref a/\H a=some o/\G a=none/\H0 a=none/\((∀G',aq G G'->G' a=some o->Rep W G' p (.ref a))\/∃ai,o=.dT ai/\∀ob G',aq G G'->G' a=some (.cV ob (.dT ai))->Rep W G' p (.ref a)):=by
 cases p with
 |lst xs=>
  obtain⟨a,vs,rfl,h1,h2,h3,l⟩:=h
  exact⟨a,_,rfl,h1,h2,h3,.inl λG' s e=>.l (.inl (.inl e)) (ah.same s xs l)⟩
 |dB ks ps=>
  obtain⟨a,us,rfl,n,h1,h2,h3,l⟩:=h
  exact⟨a,_,rfl,h1,h2,h3,.inr ⟨_,rfl,λob G' s e=>by simp! [Rep];exact⟨a,ob,us,rfl,n,e,ah.same s ps l⟩⟩⟩
 |aI=>exact h.elim
 |bl _=>exact h.elim
 |int _=>exact h.elim
 |str _=>exact h.elim
 |tup _=>exact h.elim
 |exc _=>exact h.elim
theorem Own.xC{p:PV}{a:Addr}(h:Own W H0 G H p (.ref a))(ps:Array Value):H a≠some (.fh ps):=λz=>by
 cases p with
 |lst xs=>obtain⟨b,vs,e,h1,_⟩:=h;cases e;rw [z] at h1;cases h1
 |dB ks qs=>
  obtain⟨b,us,e,_,h1,_⟩:=h
  cases e;rw [z] at h1;cases h1
 |aI=>exact h.elim
 |bl _=>exact h.elim
 |int _=>exact h.elim
 |str _=>exact h.elim
 |tup _=>exact h.elim
 |exc _=>exact h.elim
theorem Own.CZ{p:PV}{a b:Addr}{ai:List (Key×V)}(h:Own W H0 G H p (.ref a))(hb:H b=some (.dK ai)):b≠a:=λz=>by
 subst z;cases p with
 |lst xs=>obtain⟨b,vs,e,h1,_⟩:=h;cases e;rw [hb] at h1;cases h1
 |dB ks qs=>obtain⟨b,us,e,_,h1,_⟩:=h;cases e;rw [hb] at h1;cases h1
 |aI=>exact h.elim
 |bl _=>exact h.elim
 |int _=>exact h.elim
 |str _=>exact h.elim
 |tup _=>exact h.elim
 |exc _=>exact h.elim
theorem m7{a:Addr}{ob:HO}{H':Hp}(t:b9 W G H)(hG:G a=none)(n:∀ps,H a≠some (.fh ps))(hH:∀b,b≠a->H' b=H b):b9 W (upd G a ob) H':=λP q m=>by
 obtain⟨n1,ps,e,tr,al⟩:=t P q m
 have hP:P≠a:=λz=>by subst z;exact n ps e
 refine⟨by rw [af hP];exact n1,ps,by rw [hH P hP];exact e,tr,λpos cv y=>?_⟩
 obtain⟨c',oc,qo,t',e1,e2,e3,e4⟩:=al pos cv y
 exact⟨c',oc,qo,t',e1,aS hG _ _ e2,e3,e4⟩
def Own.fH{p:PV}{v:V}{a:Addr}{G' H':Hp}(h:Own W H0 G H p v)(hv:v≠.ref a)(sG:aq G G')(hG:∀b,b≠a->G' b=G b)(hH:∀b,b≠a->H' b=H b):Own W H0 G' H' p v:=by
 cases p with
 |lst xs=>
  obtain⟨b,vs,rfl,h1,h2,h3,l⟩:=h
  have hb:b≠a:=λz=>hv (by rw [z])
  exact⟨b,vs,rfl,by rw [hH b hb];exact h1,by rw [hG b hb];exact h2,h3,ah.same sG xs l⟩
 |dB ks ps=>
  obtain⟨b,us,rfl,n,h1,h2,h3,l⟩:=h
  have hb:b≠a:=λz=>hv (by rw [z])
  exact⟨b,us,rfl,n,by rw [hH b hb];exact h1,by rw [hG b hb];exact h2,h3,ah.same sG ps l⟩
 |aI=>exact h.elim
 |bl _=>exact h.elim
 |int _=>exact h.elim
 |str _=>exact h.elim
 |tup _=>exact h.elim
 |exc _=>exact h.elim
def getElem?_modify{α:Type}(l:List α)(i j:Nat)(f:α->α):(l.modify i f)[j]?=if i=j then(l[j]?).map f else l[j]?:=by
 rw [List.getElem?_modify];split<;>simp_all
def n0(r:SR W H0 env σ G H)(g:av W G0 H0 G H){i:Nat}{p:PV}{a:Addr}{ob F2:HO}{H':Hp}(hp:env[i]?=some (.own p))(ho:σ[i]?=some (some (.ref a)))(Cf:Own W H0 G H p (.ref a))(hH:H a=some ob)(hG:G a=none)(tX:H0 a=none)
 (ye:∀G',aq G G'->G' a=some F2->Rep W G' p (.ref a)) (h1:H' a=some F2) (h2:∀b,b≠a->H' b=H b):SR W H0 (env.modify i mF) σ (upd G a F2) H'/\av W G0 H0 (upd G a F2) H':=by
 have sG:aq G (upd G a F2):=aS hG
 have sub:aq (upd G a F2) H':=λb u e=>by
  by_cases hb:b=a
  ·subst hb;rw [aw] at e;cases e;exact h1
  ·rw [af hb] at e;rw [h2 b hb];exact r.sub _ _ e
 have base:∀{B:Hp},B a=none->fS B H->fS B H':=λhB k b u e=>by
  have hb:b≠a:=λz=>by rw [z,hB] at e;cases e
  rw [h2 b hb];exact k b u e
 refine⟨⟨by rw [List.length_modify];exact r.len,sub,base tX r.base,λj s e=>?_,λj l q q' c e1 e2 e3 e4=>?_,m7 r.tab hG Cf.xC h2,m7 r.iq hG (λps z=>by rw [tX] at z;cases z) λ_ _=>rfl⟩,⟨g.g.trans sG,base tX g.h,sub,λb h3 h5 h4=>?_,λt=>m7 (g.tab t) hG Cf.xC h2⟩⟩
 ·rw [getElem?_modify] at e;split at e
  ·rename_i z;subst z;rw [hp] at e;cases e;exact⟨_,ho,_,rfl,ye _ sG aw⟩
  ·rename_i z;obtain⟨o2,k1,k2⟩:=r.slot j s e
   refine⟨o2,k1,?_⟩;cases s with
   |no=>exact trivial
   |val q=>
    obtain⟨v2,rfl,rv⟩:=k2
    exact⟨v2,rfl,Rep.same sG q rv⟩
   |fn _ _ _=>
    obtain⟨v2,rfl,rv⟩:=k2
    exact⟨v2,rfl,rv.same sG⟩
   |fj ai=>
    obtain⟨b,e1,f1,f2,f3,n⟩:=k2
    have hb:=Cf.CZ f1
    exact⟨b,e1,by rw [h2 b hb];exact f1,by rw [af hb];exact f2,f3,n⟩
   |own q=>
    obtain⟨v2,rfl,ov⟩:=k2
    refine⟨v2,rfl,ov.fH (a:=a) (λzz=>?_) sG (λb hb=>af hb) h2⟩;subst zz;exact z (r.apart i j p q a hp e ho k1)
 ·rw [getElem?_modify] at e1 e2;have ne:∀{j:Nat} {q:PV},(if i=j then(env[j]?).map mF else env[j]?)=some (.own q)->i≠j/\env[j]?=some (.own q):=λ{j q} e=>by
   split at e
   ·rename_i z;subst z;rw [hp] at e;cases e
   ·rename_i z;exact⟨z,e⟩
  exact r.apart j l q q' c (ne e1).2 (ne e2).2 e3 e4
 ·have hb:b≠a:=λz=>h3 (by rw [z];exact tX)
  rw [af hb];exact g.own b h3 h5 h4
def Dm(r:SR W H0 env σ G H)(g:av W G0 H0 G H)(i:Nat):(∃G',SR W H0 (env.modify i mF) σ G' H/\av W G0 H0 G' H)\/∃a ai,H a=some (.dT ai)/\∀o,∃G',SR W H0 (env.modify i mF) σ G' (upd H a (.cV o (.dT ai)))/\av W G0 H0 G' (upd H a (.cV o (.dT ai))):=by
 have same:(∀p,env[i]?≠some (.own p))->env.modify i mF=env:=λh=>by
  refine List.ext_getElem? λj=>?_
  rw [getElem?_modify];split
  ·rename_i e;subst e;cases q:env[i]? with
   |none=>rfl
   |some s=>
    cases s with
    |own p=>exact absurd q (h p)
    |no=>rfl
    |val p=>rfl
    |fn _ _ _=>rfl
    |fj _=>rfl
  ·rfl
 by_cases hx:∃p,env[i]?=some (.own p)
 ·obtain⟨p,hp⟩:=hx
  obtain⟨o,ho,v,rfl,ow⟩:=r.slot i _ hp
  have Cf:=ow
  obtain⟨a,ob,rfl,hH,hG,tX,ye|⟨ai,rfl,ye⟩⟩:=ow.Cp
  ·obtain⟨k1,k2⟩:=n0 r g hp ho Cf hH hG tX ye hH λ_ _=>rfl
   exact .inl ⟨_,k1,k2⟩
  ·refine .inr ⟨a,ai,hH,λo=>?_⟩
   obtain⟨k1,k2⟩:=n0 r g hp ho Cf hH hG tX (ye o) aw λb hb=>af hb
   exact⟨_,k1,k2⟩
 ·exact .inl ⟨G,by rw [same λp z=>hx ⟨p,z⟩];exact r,g⟩
def wu(r:SR W H0 env σ G H)(g:av W G0 H0 G H){i:Nat}{p p':PV}{a:Addr}{ob:HO}(hp:env[i]?=some (.own p))(hs:σ[i]?=some (some (.ref a)))(hG:G a=none)(tX:H0 a=none)(hn:Own W H0 G (upd H a ob) p' (.ref a)):
 SR W H0 (env.set i (.own p')) σ G (upd H a ob)/\av W G0 H0 G (upd H a ob):=by
 have bU:i<env.length:=(zzH.mp hp).1
 have Cf:Own W H0 G H p (.ref a):=by
  obtain⟨o2,h1,v2,rfl,ow⟩:=r.slot i _ hp
  rw [hs] at h1;cases h1;exact ow
 have Lk:∀ps,H a≠some (.fh ps):=by
  obtain⟨o2,h1,v2,rfl,ow⟩:=r.slot i _ hp
  rw [hs] at h1;cases h1;exact ow.xC
 have tab:∀{G1:Hp},b9 W G1 H->b9 W G1 (upd H a ob):=λt=>t.same (aq.refl _) (λ_ _ _ h=>h) (iG Lk)
 refine⟨⟨by rw [List.length_set];exact r.len,λb u e=>?_,λb u e=>?_,λj s e=>?_,λj l q q' c e1 e2 e3 e4=>?_,tab r.tab,r.iq⟩,⟨g.g,λb u e=>?_,λb u e=>?_,g.own,λt=>tab (g.tab t)⟩⟩
 ·rw [af (λz=>by subst z;rw [hG] at e;cases e)];exact r.sub _ _ e
 ·rw [af (λz=>by subst z;rw [tX] at e;cases e)];exact r.base _ _ e
 ·by_cases hj:i=j
  ·subst hj;rw [zzo bU] at e;cases e;exact⟨_,hs,_,rfl,hn⟩
  ·rw [zzS hj] at e;obtain⟨o2,h1,h2⟩:=r.slot j s e
   refine⟨o2,h1,?_⟩;cases s with
   |no=>exact trivial
   |val q=>exact h2
   |fn _ _ _=>exact h2
   |fj ai=>
    obtain⟨b,e1,f1,f2,f3,n⟩:=h2
    have hb:=Cf.CZ f1
    exact⟨b,e1,by rw [af hb];exact f1,f2,f3,n⟩
   |own q=>
    obtain⟨v2,rfl,ov⟩:=h2
    refine⟨v2,rfl,ov.fH (a:=a) (λzz=>?_) (aq.refl _) (λb hb=>rfl) λb hb=>af hb⟩
    subst zz;exact hj (r.apart i j p q a hp e hs h1)
 ·have tr:∀{j:Nat} {q:PV},(env.set i (.own p'))[j]?=some (.own q)->∃q2,env[j]?=some (.own q2):=λ{j q} e=>by
   by_cases hj:i=j
   ·subst hj;exact⟨p,hp⟩
   ·rw [zzS hj] at e;exact⟨q,e⟩
  obtain⟨q2,f1⟩:=tr e1
  obtain⟨q3,f2⟩:=tr e2
  exact r.apart j l q2 q3 c f1 f2 e3 e4
 ·rw [af (λz=>by subst z;rw [tX] at e;cases e)];exact g.h _ _ e
 ·rw [af (λz=>by subst z;rw [hG] at e;cases e)];exact g.sub _ _ e
def C3(r:SR W H0 env σ G H)(g:av W G0 H0 G H){i:Nat}{p:PV}{a:Addr}{ob:HO}(hi:i<env.length)(ha:H a=none)(hn:Own W H0 G (upd H a ob) p (.ref a)):
 SR W H0 (env.set i (.own p)) (σ.set i (some (.ref a))) G (upd H a ob)/\av W G0 H0 G (upd H a ob):=by
 have gm:av W G H G (upd H a ob):=.Dt r.sub ha
 have r1:=r.grow gm
 have old:∀{j:Nat} {q:PV},env[j]?=some (.own q)->σ[j]?=some (some (.ref a))->False:=λ{j q} e1 e2=>by
  obtain⟨o2,h1,v2,rfl,ov⟩:=r.slot j _ e1
  rw [e2] at h1;cases h1;obtain⟨a',o',e3,hH,_⟩:=ov.Cp
  cases e3;rw [ha] at hH;cases hH
 refine⟨⟨by rw [List.length_set,List.length_set];exact r.len,r1.sub,r1.base,λj s e=>?_,λj l q q' c e1 e2 e3 e4=>?_,r1.tab,r1.iq⟩,g.trans gm⟩
 ·by_cases hj:i=j
  ·subst hj;rw [zzo hi] at e;cases e;exact⟨_,zzo (by rw [<-r.len];exact hi),_,rfl,hn⟩
  ·rw [zzS hj] at e;obtain⟨o2,h1,h2⟩:=r1.slot j s e
   exact⟨o2,by rw [zzS hj];exact h1,h2⟩
 ·by_cases hj:i=j
  ·by_cases hl:i=l
   ·exact hj.symm.trans hl
   ·exfalso
    subst hj;rw [zzo (by rw [<-r.len];exact hi)] at e3;rw [zzS hl] at e2 e4;cases e3;exact old e2 e4
  ·by_cases hl:i=l
   ·exfalso
    subst hl;rw [zzo (by rw [<-r.len];exact hi)] at e4;rw [zzS hj] at e1 e3;cases e4;exact old e1 e3
   ·rw [zzS hj] at e1 e3;rw [zzS hl] at e2 e4;exact r.apart j l q q' c e1 e2 e3 e4
end
noncomputable def gh:E->Bool
 |.lst _=>true
 |.comp _ _ _ _ _=>true
 |.bX _ _ _ _ _ _=>true
 |_=>false
noncomputable def m9:Expr->Bool
 |.ListComp .. =>false
 |.SetComp .. =>false
 |.DictComp .. =>false
 |_=>true
noncomputable def Kw(sc:Scope)(x:Str)(xp:Pos):Expr->Bool
 |.ListComp _ _ s p=>sc.names.lookup x==some .local&&xp.line==p.line&&!(s.names.any λ(n,k)=>n==x&&(k==.local||k==.cell))
 |_=>false
noncomputable def Jg(ts:List Expr):Option Str:=(eV ts).bind fm
noncomputable def KH(e:Expr):Option (Str×Str×List Expr):=(BS e).bind λq=>(JL q.1).bind λr=>(fm r.1).bind λx=>if(q.2.2.1.isEmpty&&r.2.2.endLine==q.2.2.2.line)=true then some (x,r.2.1,q.2.1) else none
noncomputable def MM(ts:List Expr):Option (Str×Expr):=(eV ts).bind λt=>(GO t).bind λq=>(fm q.1).bind λx=>some (x,q.2)
noncomputable def NL(o:Option Expr):Option (Str×Str):=o.bind λe=>(BS e).bind λq=>(fm q.1).bind λx=>(eV q.2.1).bind λa=>(Iy a).bind λc=>(Fh c).bind λz=>if q.2.2.1.isEmpty=true then some (x,z) else none
noncomputable def sA:Stmt->Option (List Expr×Expr×Pos)
 |.Assign ts v p=>some (ts,v,p)
 |_=>none
def qW{ts:List Expr}{x:Str}(h:Jg ts=some x):∃xp,ts=[.Name x xp]:=by
 obtain⟨t,h1,h2⟩:=pY h
 obtain⟨p,rfl⟩:=dM h2
 exact⟨p,e9 h1⟩
def xa{p:Expr}{x m:Str}{args:List Expr}(h:KH p=some (x,m,args)):∃np apos ba,p=.Call (.Attribute (.Name x np) m apos) args [] ba/\(apos.endLine==ba.line)=true:=by
 obtain⟨⟨f,a,k,cp⟩,h1,h⟩:=pY h
 obtain⟨⟨o,m',ap⟩,h2,h⟩:=pY h
 obtain⟨y,h3,h⟩:=pY h
 obtain⟨h4,h⟩:=if1 h
 cases h;rw [zza] at h4;obtain⟨p3,z3⟩:=dM h3
 have z2:=ql h2
 have z5:=List.isEmpty_iff.1 h4.1
 dsimp only at z2 z3 z5;subst z3 z2 z5;exact⟨_,_,_,kA h1,h4.2⟩
def DY{ts:List Expr}{x:Str}{pk:Expr}(h:MM ts=some (x,pk)):∃np sp,ts=[.Subscript (.Name x np) pk sp]:=by
 obtain⟨t,h1,h⟩:=pY h
 obtain⟨⟨a,b⟩,h2,h⟩:=pY h
 obtain⟨y,h3,h⟩:=pY h
 cases h;obtain⟨p3,z3⟩:=dM h3
 obtain⟨p2,z2⟩:=yt h2
 dsimp only at z3;subst z3 z2;exact⟨_,_,e9 h1⟩
def DN{o:Option Expr}{x z:Str}(h:NL o=some (x,z)):∃np j zp cp,o=some (.Call (.Name x np) [.Constant (.str z) j zp] [] cp):=by
 obtain⟨e,h0,h⟩:=pY h
 obtain⟨⟨f,a,k,cp⟩,h1,h⟩:=pY h
 obtain⟨y,h2,h⟩:=pY h
 obtain⟨t,h3,h⟩:=pY h
 obtain⟨c,h4,h⟩:=pY h
 obtain⟨w,h5,h⟩:=pY h
 obtain⟨h6,h⟩:=if1 h
 cases h;obtain⟨p2,z2⟩:=dM h2
 obtain⟨p4,q4,z4⟩:=vK h4
 have z3:=e9 h3
 have z5:=yk h5
 have z6:=List.isEmpty_iff.1 h6
 dsimp only at z2 z3 z6;subst z2 z5 z4 z3 z6;exact⟨_,_,_,_,h0.trans (congrArg some (kA h1))⟩
noncomputable def KS:Expr->Option (Str×Str)
 |.BinOp (.Call (.Attribute (.Name x _) m ap) [.Name k _,.Constant (.int i) _ _] [] cp) .Add (.Constant (.int j) _ _) _=>if(m==("get":Str)&&i==0&&j==1&&ap.endLine==cp.line)=true then some (x,k) else none
 |_=>none
def Fe{e:Expr}{q:Str×Str}(h:KS e=some q):∃p1 ap p2 c1 c2 cp c3 c4 bp,e=.BinOp (.Call (.Attribute (.Name q.1 p1) "get" ap) [.Name q.2 p2,.Constant (.int 0) c1 c2] [] cp) .Add (.Constant (.int 1) c3 c4) bp/\(ap.endLine==cp.line)=true:=by
 unfold KS at h;split at h
 ·obtain⟨h1,rfl⟩:=if1 h
  simp! [zza,zzy] at h1;obtain⟨⟨⟨rfl,rfl⟩,rfl⟩,h2⟩:=h1
  exact⟨_,_,_,_,_,_,_,_,_,rfl,by rw [h2];exact beq_self_eq_true _⟩
 ·cases h
noncomputable def ER:List Expr->Option (Str×Pos×Str×Pos)
 |[.Tuple [.Name x px,.Name y py] _ _]=>some (x,px,y,py)
 |_=>none
def zq{ts:List Expr}{q:Str×Pos×Str×Pos}(h:ER ts=some q):∃kt pt,ts=[.Tuple [.Name q.1 q.2.1,.Name q.2.2.1 q.2.2.2] kt pt]:=by
 unfold ER at h;split at h
 ·cases h;exact⟨_,_,rfl⟩
 ·cases h
noncomputable def isStar:Expr->Bool
 |.Starred .. =>true
 |_=>false
noncomputable def DS(a b:Expr):Bool:=!isStar a&&!isStar b&&!(foldedForSure 8 a&&foldedForSure 8 b)&&!(constantsAlone 8 a&&constantsAlone 8 b)
mutual
noncomputable def d7(Γ:Pg)(N:List Str)(sc:Scope):S->Stmt->Bool
 |.expr e,.Expr p _=>m9 p&&aR Γ N sc e p
 |.set i e,.Assign ts p _=>(Jg ts).any λx=>N[i]?==some x&&ft sc x&&fV e&&aR Γ N sc e p
 |.own i e,.Assign ts p _=>(Jg ts).any λx=>N[i]?==some x&&ft sc x&&gh e&&aR Γ N sc e p
 |.app i e,.Expr v _=>(KH v).any λc=>N[i]?==some c.1&&eN sc c.1&&okN c.1&&c.2.1==("append":Str)&&fV e&&(eV c.2.2).any λp=>aR Γ N sc e p
 |.js i e,.Expr v _=>(KH v).any λc=>N[i]?==some c.1&&eN sc c.1&&okN c.1&&c.2.1==("extend":Str)&&(eV c.2.2).any λp=>aR Γ N sc e p
 |.ret e,.Return (some p) _=>fV e&&aR Γ N sc e p
 |.ite c a b,.If p pa pb _=>fi c&&aR Γ N sc c p&&cL Γ N sc a pa&&cL Γ N sc b pb
 |.cQ tg it b,.For cg d8 pb els _=>els.isEmpty&&fy N sc (λ_=>true) tg cg&&Az it&&uy Γ N sc cg it d8&&cL Γ N sc b pb
 |.raise c m,.Raise ex fr _=>fr.isNone&&(NL ex).any λq=>c==q.1&&m==q.2&&Γ.rs.contains c&&fL sc c&&okN c
 |.par i j as,.Assign ts (.Tuple [a,b] _ _) _=>(ER ts).any λq=>N[i]?==some q.1&&N[j]?==some q.2.2.1&&decide (i≠j)&&q.1 !=q.2.2.1&&q.2.2.2.line==q.2.1.line&&sc.names.lookup q.1==some .local&&sc.names.lookup q.2.2.1==some .local&&DS a b&&iy as&&dA Γ N sc as [a,b]
 |.mH i,.Assign ts (.Dict [] [] _) _=>(Jg ts).any λx=>N[i]?==some x&&ft sc x
 |.jf i n,.Assign ts p _=>(MM ts).any λc=>(fm c.2).any λz=>(KS p).any λq=>N[i]?==some c.1&&eN sc c.1&&okN c.1&&N[n]?==some z&&eN sc z&&okN z&&q.1==c.1&&q.2==z
 |_,_=>false
noncomputable def cL(Γ:Pg)(N:List Str)(sc:Scope):Ss->List Stmt->Bool
 |.nil,[]=>true
 |.cons (.cV _) ss,ps=>cL Γ N sc ss ps
 |.cons s ss,p::ps=>d7 Γ N sc s p&&cL Γ N sc ss ps
 |_,_=>false
end
section
variable{Γ:Pg}{X:Cx}{W:Wd}{F:aO}{N:List Str}{sc:Scope}{k:Nat}{H0:Hp}{E:XK}
def SR.go{env:Sl}{σ:St}{G H:Hp}(r:SR W H0 env σ G H):av W G H0 G H:=⟨aq.refl _,r.base,r.sub,λ_ _ _ h=>h,λ_=>r.tab⟩
def av.then{G G1 H1 G2 H2:Hp}(a:av W G H0 G1 H1)(b:av W G1 H0 G2 H2):av W G H0 G2 H2:=⟨a.g.trans b.g,b.h,b.sub,λx h1 h3 h2=>b.own x h1 h3 (a.own x h1 h3 h2),λt=>b.tab (t.same a.g a.own λ_ _ h=>h)⟩
def SR.on{env:Sl}{σ:St}{G H G1 H1:Hp}(r:SR W H0 env σ G H)(g:av W G H G1 H1):av W G H0 G1 H1:=⟨g.g,r.base.trans g.h,g.sub,λx h1 h3 h2=>g.own x (λz=>h1 (r.base.free z)) (r.base.rA h1 h3) h2,λ_=>g.tab r.tab⟩
def Dn(W:Wd)(H0 G:Hp)(D:Ends):Fl->Prop
 |.nx env=>∀σ G' H',SR W H0 env σ G' H'->av W G H0 G' H'->D.nx σ H'
 |.bk env=>∀σ G' H',SR W H0 env σ G' H'->av W G H0 G' H'->D.bk σ H'
 |.ct env=>∀σ G' H',SR W H0 env σ G' H'->av W G H0 G' H'->D.ct σ H'
 |.rt p=>∀v G' H',Rep W G' p v->av W G H0 G' H'->D.rt v H'
def bR(W:Wd)(H0 G:Hp)(E:XK)(r:Res Fl)(D:Ends):Prop:=match r with
 |.ok f=>Dn W H0 G D f
 |.exc c=>∀Cv ao H',XE W c G H0 Cv ao H'->E Cv ao H'
 |.bad=>False
def Dn.on{G G1 H1:Hp}{D:Ends}{f:Fl}(h:Dn W H0 G D f)(g:av W G H0 G1 H1):Dn W H0 G1 D f:=by
 cases f with
 |nx env=>exact λσ G' H' r g'=>h σ G' H' r (g.then g')
 |bk env=>exact λσ G' H' r g'=>h σ G' H' r (g.then g')
 |ct env=>exact λσ G' H' r g'=>h σ G' H' r (g.then g')
 |rt p=>exact λv G' H' r g'=>h v G' H' r (g.then g')
def bR.on{G G1 H1:Hp}{D:Ends}{r:Res Fl}(h:bR W H0 G E r D)(g:av W G H0 G1 H1):bR W H0 G1 E r D:=by
 cases r with
 |ok f=>exact Dn.on h g
 |exc c=>
  intro Cv ao H' x;obtain⟨C,a,G',e1,e2,e3,e4,g2⟩:=x
  exact h Cv ao H' ⟨C,a,G',e1,e2,e3,e4,g.then g2⟩
 |bad=>exact h
noncomputable def tS(W:Wd)(F:aO)(H0:Hp)(E:XK)(s:S):TS:=λD σ H=>∃G env,SR W H0 env σ G H/\bR W H0 G E (fA F s env) D
noncomputable def Ms(W:Wd)(F:aO)(H0:Hp)(E:XK)(ss:Ss):TS:=λD σ H=>∃G env,SR W H0 env σ G H/\bR W H0 G E (aF F ss env) D
abbrev GS(X:Cx)(W:Wd)(F:aO)(H0:Hp)(E:XK)(s:S)(p:Stmt):Prop:=PS X p (tS W F H0 E s)
abbrev yT(X:Cx)(W:Wd)(F:aO)(H0:Hp)(E:XK)(s:Ss)(p:List Stmt):Prop:=uT X p (Ms W F H0 E s)
def _root_.L2.PS.imp{p:Stmt}{t t':TS}(h:PS X p t)(i:∀D σ H,t' D σ H->t D σ H):PS X p t':=λaa s σ H D I hw=>h aa s σ H D I (i D σ H hw)
def _root_.L2.uT.imp{p:List Stmt}{t t':TS}(h:uT X p t)(i:∀D σ H,t' D σ H->t D σ H):uT X p t':=λaa s σ H D I hw=>h aa s σ H D I (i D σ H hw)
structure dC(Γ:Pg)(F:aO)(W:Wd)(N:List Str)(sc:Scope)(k:Nat)(E:XK)(X:Cx):Prop where
 C:dj Γ F W N sc k X
 fn:∀x,X.fn x=true
 own:PassesOwn (model X.prog X.w) X.A X.env X.xe
 pass:Passes (fw X.prog X.w) X E
 kind:sc.kind=.function
 Hm:X.stack=X.env::X.outer
 frame:X.env.frame=some X.env.locals
 xs:∀c,Γ.rs.contains c=true->c∈W.xs
 rm:∀c,Γ.rs.contains c=true->∃C,X.mg c=some (.ref C)
 rz:Γ.qt=false->∀(c z:Str) (j:Nat) (np zp cp pos:Pos),Γ.rs.contains c=true->fL sc c=true->okN c=true->PS X (.Raise (some (.Call (.Name c np) [.Constant (.str z) j zp] [] cp)) none pos) (λ_ _ H=>∀C e,X.mg c=some (.ref C)->H e=none->E (.ref C) (some e) H)
 JD:Γ.cs.contains "FloorError"=true->∀c D,c∈W.xs->X.mg c=some (.ref D)->∀T,X.mg "FloorError"=some (.ref T)->PySem.W.exmOne X.K (.ref D) (.ref T)=some true
theorem zZ(S:dC Γ F W N sc k E X){c:Str}{σ:St}{Gs G H:Hp}(g:av W Gs H0 G H)(h:∀Cv ao H',XE W c Gs H0 Cv ao H'->E Cv ao H'):qP X W σ c G H:=λaa G1 H1 s1 e s' I g1 x=>
 S.pass aa σ H1 s1 e s' I (F1.imp x λCv a H' y=>h Cv a H' (by
  obtain⟨C,a',G',e1,e2,e3,e4,g2⟩:=y
  have g3:=g1.trans g2
  exact⟨C,a',G',e1,e2,e3,e4,g.g.trans g3.g,g.h.trans g3.h,g3.sub,λx h1 h3 h2=>g3.own x (λz=>h1 (g.h.free z)) (g.h.rA h1 h3) (g.own x h1 h3 h2),λt=>g3.tab (g.tab t)⟩))
def bR.bind{α:Type}(S:dC Γ F W N sc k E X){r:Res α}{f:α->Res Fl}{D:Ends}{env:Sl}{σ:St}{G H:Hp}(sr:SR W H0 env σ G H)(h:bR W H0 G E (r.bind f) D):Out X W r σ G H λa=>bR W H0 G E (f a) D:=by
 cases r with
 |ok a=>exact h
 |exc c=>exact zZ S sr.go h
 |bad=>exact h
def vu(S:dC Γ F W N sc k E X){env:Sl}{σ:St}{G H:Hp}{e:Ci.E}{f:PV->Res Fl}{D:Ends}{Q:VK}(sr:SR W H0 env σ G H)(o:bR W H0 G E ((ax F e env).bind f) D)
 (h:∀p v G1 H1,av W G H G1 H1->Got W H0 G1 H1 e p v->SR W H0 env σ G1 H1->bR W H0 G1 E (f p) D->Q v H1):tE X W F e σ H Q:=
 ⟨H0,G,env,sr,(o.bind S sr).imp λp hp v G1 H1 g1 t=>h p v G1 H1 g1 t (sr.grow g1) (hp.on (sr.on g1))⟩
def HW(S:dC Γ F W N sc k E X){env:Sl}{σ:St}{G H:Hp}{e:Ci.E}{f:Bool->Res Fl}{D:Ends}{Q:Bool->Hp->Prop}(sr:SR W H0 env σ G H)(o:bR W H0 G E ((ax F e env).bind λp=>qB p f) D)
 (h:∀b G1 H1,av W G H G1 H1->SR W H0 env σ G1 H1->bR W H0 G1 E (f b) D->Q b H1):tT X W F e σ H Q:=by
 refine⟨H0,G,env,sr,(o.bind S sr).imp λp hp=>?_⟩
 cases p with
 |bl b=>exact⟨b,rfl,λG1 H1 g1=>h b G1 H1 g1 (sr.grow g1) (bR.on hp (sr.on g1))⟩
 |aI=>exact zzk hp
 |int _=>exact zzk hp
 |str _=>exact zzk hp
 |tup _=>exact zzk hp
 |lst _=>exact zzk hp
 |exc _=>exact zzk hp
 |dB _ _=>exact zzk hp
def G7(S:dC Γ F W N sc k E X){env:Sl}{σ:St}{G H:Hp}{e:Ci.E}{f:PV->Res Fl}{D:Ends}{Q:VK}(hl:∀env q,ax F e env=.ok q->∃xs,q=.lst xs)(sr:SR W H0 env σ G H)(o:bR W H0 G E ((ax F e env).bind f) D)
 (h:∀xs a vs G1 H1,av W G H G1 H1->H1 a=none->ah W G1 xs vs->SR W H0 env σ G1 H1->bR W H0 G1 E (f (.lst xs)) D->Q (.ref a) (upd H1 a (.lst vs))):tF X W F e σ H Q:=by
 refine⟨H0,G,env,sr,?_⟩;have o2:=o.bind S sr
 cases r:ax F e env with
 |bad=>rw [r] at o2;exact o2
 |exc c=>rw [r] at o2;exact o2
 |ok q=>
  rw [r] at o2;obtain⟨xs,rfl⟩:=hl env q r
  exact⟨xs,rfl,λa vs G' H' g ha l=>h xs a vs G' H' g ha l (sr.grow g) (bR.on o2 (sr.on g))⟩
def si{p:Expr}{t:Option Expr}{l:Nat}{env:Env}(h:m9 p=true):swapsWith p t l env=pure false:=by
 cases p<;>first|rfl|(exact aM h)
def iK{elt:Expr}{gens:List Comprehension}{s:Scope}{p:Pos}{x:Str}{xp:Pos}{l:Nat}(dU:X.env.scope=sc)(hk:sc.kind=.function):swapsWith (.ListComp elt gens s p) (some (.Name x xp)) l X.env=pure (Kw sc x xp (.ListComp elt gens s p)):=by
 have hb:X.env.blockKind=.function:=by
  unfold Env.blockKind;rw [dU,hk]
  rfl
 show(pure (X.env.blockKind==.function&&X.env.kindOf x==some .local&&xp.line==p.line&&!(s.names.any λ(n,k)=>n==x&&(k==.local||k==.cell))):Sem Bool)=_
 rw [hb];show(pure (true&&X.env.scope.names.lookup x==some .local&&_&&_):Sem Bool)=_
 rw [dU]
 rfl
theorem Af(S:dC Γ F W N sc k E X){e:Ci.E}{p:Expr}{pos:Pos}(he:GE X W F e p)(hn:m9 p=true):GS X W F H0 E (.expr e) (.Expr p pos):=
 L2.PS.imp (mM he (si hn)) λD σ H h=>by
  obtain⟨G,env,sr,o⟩:=h
  rw [fA] at o;exact vu S sr o λq v G1 H1 g t bA o1=>o1 σ G1 H1 bA bA.go
theorem EH(S:dC Γ F W N sc k E X){e:Ci.E}{p:Expr}{pos:Pos}(cR:fV e=true)(he:GE X W F e p):GS X W F H0 E (.ret e) (.Return (some p) pos):=
 L2.PS.imp (De he) λD σ H h=>by
  obtain⟨G,env,sr,o⟩:=h
  rw [fA] at o;exact vu S sr o λq v G1 H1 g t bA o1=>o1 v G1 H1 (t.rep cR) bA.go
theorem xt(S:dC Γ F W N sc k E X)(vB:Γ.qt=false){c m:Str}{j:Nat}{np zp cp pos:Pos}(h1:Γ.rs.contains c=true)(h2:fL sc c=true)(h3:okN c=true):GS X W F H0 E (.raise c m) (.Raise (some (.Call (.Name c np) [.Constant (.str m) j zp] [] cp)) none pos):=
 L2.PS.imp (S.rz vB c m j np zp cp pos h1 h2 h3) λD σ H h C e hC he=>by
  obtain⟨G,env,sr,o⟩:=h
  rw [fA] at o;exact o _ _ _ ⟨C,e,G,rfl,rfl,S.xs c h1,by rw [S.C.mg];exact hC,sr.go⟩
def eP(S:dC Γ F W N sc k E X){i:Nat}{x:Str}(h:N[i]?=some x)(hl:ft sc x=true):X.N.Nodup/\X.N[i]?=some x/\Loc X.env.scope x:=by
 refine⟨by rw [S.C.hN];exact S.C.nd,by rw [S.C.hN];exact h,wN S.C.dU hl⟩
def Fg(S:dC Γ F W N sc k E X){i:Nat}{x:Str}{e:Ci.E}{p:Expr}{xp pos:Pos}(h:N[i]?=some x)(hl:ft sc x=true)(cR:fV e=true)(he:GE X W F e p)(hs:swapsWith p (some (.Name x xp)) pos.line X.env=pure false):GS X W F H0 E (.set i e) (.Assign [.Name x xp] p pos):=by
 obtain⟨a1,a2,a3⟩:=eP S h hl
 refine L2.PS.imp (rg a1 a2 a3 he hs (.inl (S.fn x))) λD σ H h=>?_
 obtain⟨G,env,sr,o⟩:=h
 rw [fA] at o;exact vu S sr o λq v G1 H1 g t bA o1=>o1 _ G1 H1 (bA.set i (t.rep cR)) bA.go
noncomputable def F5(X:Cx)(W:Wd)(F:aO)(i:Nat)(e:Ci.E):TS:=λD σ H=>tF X W F e σ H λv H1=>D.nx (σ.set i (some v)) H1
def Hg{e:Ci.E}(hl:∀env q,ax F e env=.ok q->∃xs,q=.lst xs)(σ:St)(H:Hp)(Q:VK)(h:tE X W F e σ H Q):tF X W F e σ H Q:=by
 obtain⟨H0,G,env,sr,o⟩:=h
 refine⟨H0,G,env,sr,?_⟩;cases r:ax F e env with
 |bad=>rw [r] at o;exact o
 |exc c=>rw [r] at o;exact o
 |ok q=>
  rw [r] at o;obtain⟨xs,rfl⟩:=hl env q r
  exact⟨xs,rfl,λa vs G' H' g ha l=>o _ _ _ (g.trans (.new g.sub ha)) (.of (.l (.inl (.inl aw)) (ah.same (aS (g.sub.free ha)) xs l)))⟩
theorem A9(S:dC Γ F W N sc k E X){i:Nat}{e:Ci.E}{p:Stmt}(hl:∀env q,ax F e env=.ok q->∃xs,q=.lst xs)(cR:fV e=true)(h:PS X p (F5 X W F i e)):GS X W F H0 E (.set i e) p:=
 L2.PS.imp h λD σ H hq=>by
  obtain⟨G,env,sr,o⟩:=hq
  rw [fA] at o;refine Hg hl σ H _ (vu S sr o λq v G1 H1 g t bA o1=>?_);exact o1 _ G1 H1 (bA.set i (t.rep cR)) bA.go
def Bf(S:dC Γ F W N sc k E X){i:Nat}{x:Str}{e:Ci.E}{p:Stmt}(hi:N[i]?=some x)(hl:∀env q,ax F e env=.ok q->∃xs,q=.lst xs)(h:PS X p (F5 X W F i e)):GS X W F H0 E (.own i e) p:=by
 intro aa s σ H D I hq;have Kg:i<σ.length:=by rw [I.len,S.C.hN];exact(zzH.mp hi).1
 refine h aa s σ H D I ?_;obtain⟨G,env,sr,o⟩:=hq
 rw [fA] at o;refine G7 S hl sr o λxs a vs G1 H1 g ha l bA o1=>?_
 have hO:Own W H0 G1 (upd H1 a (.lst vs)) (.lst xs) (.ref a):=⟨a,vs,rfl,aw,bA.sub.free ha,bA.base.free ha,l⟩
 obtain⟨r2,g2⟩:=C3 bA bA.go (i:=i) (by rw [bA.len];exact Kg) ha hO
 exact o1 _ G1 _ r2 g2
def nD{i:Nat}{x:Str}{e:Ci.E}{p:Expr}{xp pos:Pos}(S:dC Γ F W N sc k E X)(h:N[i]?=some x)(hl:ft sc x=true)(he:GF X W F e p)(hs:swapsWith p (some (.Name x xp)) pos.line X.env=pure false):PS X (.Assign [.Name x xp] p pos) (F5 X W F i e):=by
 obtain⟨a1,a2,a3⟩:=eP S h hl
 exact rg a1 a2 a3 he hs (.inl (S.fn x))
def wH(S:dC Γ F W N sc k E X)(vB:Γ.qt=false){i:Nat}{x:Str}{xp hJ:Pos}(hx:N[i]?=some x)(zo:ft sc x=true){kk:Nat}{bP:List Nat}{tg:Tg}{it:I}{elt:Ci.E}{cg d8 di:Expr}{scope:Scope}{pos:Pos}(h:jl N sc scope kk bP (aA cg))(bU:jz kk tg=true)(cR:fV elt=true)(hi:GI X W F cg it d8)(rM:∀x,foldedSetIterable d8 X.env x=pure x)
 (wV:fy (aA cg++freeOf scope) (cm scope sc) (kj scope) tg cg=true) (he:∀Y,dj Γ.yM F W (aA cg++freeOf scope) (cm scope sc) k Y->GE Y W F elt di):PS X (.Assign [.Name x xp] (.ListComp di [⟨cg,d8,[],0⟩] scope pos) hJ) (F5 X W F i (.comp kk bP tg it elt)):=by
 obtain⟨a1,a2,a3⟩:=eP S hx zo
 cases Bs:Kw sc x xp (.ListComp di [⟨cg,d8,[],0⟩] scope pos) with
 |false=>exact nD S hx zo (sN S.C vB h bU cR hi rM wV he) (by rw [iK S.C.dU S.kind,Bs])
 |true=>
  intro aa s σ H D I hq;have AL:(freeOf scope).Nodup:=(List.nodup_append.mp h.nd).2.1
  have rd:=rX (N:=N) S.C.K bU cR h.slots AL σ H _ hq
  have:=rq (g:=gT X.K tg) (te:=tN W F elt) (xs:=aA cg) (ys:=freeOf scope) (is:=bP) (pos:=pos) a1 a2 a3 (S.C.calm vB) (m6 S.C.hN S.C.dU I.ok h) hi
   (λfp s1 H1 A=>wW (fn:=kj scope) (X:=bb X (aA cg++freeOf scope) scope (bC X.env (freeOf scope)) fp s1 H1 A) rfl h.nd (dw S.C.dU) rfl (λ_ z=>z) wV)
   (λfp s1 H1 A=>L2.PE.imp (he _ (dG S.C h fp s1 H1 A)) λσ H Q z=>sD σ H Q z) (by rw [iK (l:=hJ.line) S.C.dU S.kind,Bs]) rM (.inl (S.fn x)) aa s σ H D I
  rw [h.len] at this;exact this rd
def qv(S:dC Γ F W N sc k E X)(vB:Γ.qt=false){i:Nat}{x:Str}{xp hJ:Pos}(hx:N[i]?=some x)(zo:ft sc x=true){kk:Nat}{bP:List Nat}{tg:Tg}{it:I}{c elt:Ci.E}{cg d8 pc di:Expr}{scope:Scope}{pos:Pos}(h:jl N sc scope kk bP (aA cg))(bU:jz kk tg=true)(cR:fV elt=true)(hi:GI X W F cg it d8)(rM:∀x,foldedSetIterable d8 X.env x=pure x)
 (wV:fy (aA cg++freeOf scope) (cm scope sc) (kj scope) tg cg=true) (hc:∀Y,dj Γ.yM F W (aA cg++freeOf scope) (cm scope sc) k Y->GT Y W F c pc) (he:∀Y,dj Γ.yM F W (aA cg++freeOf scope) (cm scope sc) k Y->GE Y W F elt di):PS X (.Assign [.Name x xp] (.ListComp di [⟨cg,d8,[pc],0⟩] scope pos) hJ) (F5 X W F i (.bX kk bP tg it c elt)):=by
 obtain⟨a1,a2,a3⟩:=eP S hx zo
 cases Bs:Kw sc x xp (.ListComp di [⟨cg,d8,[pc],0⟩] scope pos) with
 |false=>exact nD S hx zo (mx S.C vB h bU cR hi rM wV hc he) (by rw [iK S.C.dU S.kind,Bs])
 |true=>
  intro aa s σ H D I hq;have AL:(freeOf scope).Nodup:=(List.nodup_append.mp h.nd).2.1
  have rd:=lu (N:=N) S.C.K bU cR h.slots AL σ H _ hq
  have:=nv (g:=gT X.K tg) (tt:=Jv W F c) (te:=tN W F elt) (xs:=aA cg) (ys:=freeOf scope) (is:=bP) (pos:=pos) a1 a2 a3 (S.C.calm vB) (m6 S.C.hN S.C.dU I.ok h) hi
   (λfp s1 H1 A=>wW (fn:=kj scope) (X:=bb X (aA cg++freeOf scope) scope (bC X.env (freeOf scope)) fp s1 H1 A) rfl h.nd (dw S.C.dU) rfl (λ_ z=>z) wV)
   (λfp s1 H1 A=>L2.PT.imp (hc _ (dG S.C h fp s1 H1 A)) λσ H Q z=>xg σ H Q z)
   (λfp s1 H1 A=>L2.PE.imp (he _ (dG S.C h fp s1 H1 A)) λσ H Q z=>sD σ H Q z) (by rw [iK (l:=hJ.line) S.C.dU S.kind,Bs]) rM (.inl (S.fn x)) aa s σ H D I
  rw [h.len] at this;exact this rd
def va{tg:Tg}{p:PV}{env:Sl}(c:Str):Tg.put tg p env≠.exc c:=by
 unfold Tg.put;split<;>exact λz=>nomatch z
theorem xJ(S:dC Γ F W N sc k E X){c:Ci.E}{a b:Ss}{p:Expr}{pa pb:List Stmt}{pos:Pos}(hc:GT X W F c p)(ha:yT X W F H0 E a pa)(hb:yT X W F H0 E b pb):GS X W F H0 E (.ite c a b) (.If p pa pb pos):=
 L2.PS.imp (Hi hc ha hb) λD σ H h=>by
  obtain⟨G,env,sr,o⟩:=h
  rw [fA] at o;refine HW S sr o λt G1 H1 g bA o1=>?_
  cases t with
  |true=>
   rw [if_pos rfl] at o1⊢;exact⟨G1,env,bA,o1⟩
  |false=>
   rw [if_neg zzf] at o1⊢;exact⟨G1,env,bA,o1⟩
def CF(S:dC Γ F W N sc k E X)(vB:Γ.qt=false){tg:Tg}{it:I}{b:Ss}{cg d8:Expr}{pb:List Stmt}{pos:Pos}(wV:fy N sc (λ_=>true) tg cg=true)(hit:Az it=true)(hi:GI X W F cg it d8)(rM:∀x,foldedSetIterable d8 X.env x=pure x)(hb:yT X W F H0 E b pb):GS X W F H0 E (.cQ tg it b) (.For cg d8 pb [] pos):=
 L2.PS.imp (Eo S.own (S.C.calm vB) hi (wW (fn:=λ_=>true) S.C.hN S.C.nd S.C.dU (S.C.calm vB) (λx _=>S.fn x) wV) hb rM) λD σ H h=>by
  obtain⟨G,env,sr,o⟩:=h
  rw [fA] at o;refine⟨H0,G,env,sr,(o.bind S sr).imp λps md J G1 H1 g1 gi=>?_⟩
  have cV:=gi.cV hit
  generalize hf:(λ(x:PV) (env:Sl)=>(tg.put x env).bind λaj=>aF F b aj)=f at md
  have bA:=sr.grow g1
  refine⟨λi m σ' H'=>i<=ps.length/\m=ps.length-i/\∃G' aj,SR W H0 aj σ' G' H'/\av W G1 H0 G' H'/\bR W H0 G' E (forL f (ps.drop i) aj) D,⟨_,Nat.zero_le _,rfl,G1,env,bA,bA.go,by rw [List.drop_zero];exact bR.on md (sr.on g1)⟩,?_⟩
  rintro i m σ' H' ⟨yP,hm,G',aj,sr',g',o'⟩
  obtain⟨ist,igo⟩:=cV i G' H' g'.g (.of (g'.g.trans sr'.sub)) sr'.sub
  by_cases hlast:i=ps.length
  ·refine .inl ⟨ist hlast,?_⟩;rw [hlast,List.drop_length] at o';exact o' σ' G' H' sr' sr'.go
  ·have bU:i<ps.length:=by omega
   obtain⟨hgo,hyld⟩:=igo ps[i] (zzg bU)
   refine .inr ⟨hgo,λσ2 H2=>i+1<=ps.length/\∃G2 jw,SR W H0 jw σ2 G2 H2/\av W G1 H0 G2 H2/\bR W H0 G2 E (forL f (ps.drop (i+1)) jw) D,λσ2 H2 h2=>⟨ps.length-(i+1),by omega,h2.1,rfl,h2.2⟩,λx i8 hy=>?_⟩
   obtain⟨sR,g'',rx⟩:=hyld x i8 hy
   rw [List.drop_eq_getElem_cons bU] at o';unfold forL at o';have O9:f ps[i] aj=(tg.put ps[i] aj).bind λaj=>aF F b aj:=by rw [<-hf]
   rw [O9] at o';have lh:=sr'.grow g''
   have g2:=g'.then (sr'.on g'')
   cases r:tg.put ps[i] aj with
   |bad=>rw [r] at o';exact o'.elim
   |exc c=>exact absurd r (va c)
   |ok jw=>
    rw [r] at o';refine qX S.C.K r lh rx λσ2 sr3=>⟨sR,jw,sr3,?_⟩
    have o2:bR W H0 sR E ((aF F b jw).bind λfl=>match fl with
     |.nx aj=>forL f (ps.drop (i+1)) aj
     |.ct aj=>forL f (ps.drop (i+1)) aj
     |.bk aj=>.ok (.nx aj)
     |.rt p=>.ok (.rt p)) D:=bR.on o' (sr'.on g'')
    cases r2:aF F b jw with
    |bad=>rw [r2] at o2;exact o2.elim
    |exc cc=>rw [r2] at o2;exact o2
    |ok fl=>
     rw [r2] at o2;cases fl with
     |nx env3=>exact λσ3 G3 H3 CJ g3=>⟨bU,G3,env3,CJ,g2.then g3,bR.on (show bR W H0 sR E (forL f (ps.drop (i+1)) env3) D from o2) g3⟩
     |ct env3=>exact λσ3 G3 H3 CJ g3=>⟨bU,G3,env3,CJ,g2.then g3,bR.on (show bR W H0 sR E (forL f (ps.drop (i+1)) env3) D from o2) g3⟩
     |bk env3=>exact λσ3 G3 H3 CJ g3=>o2 σ3 G3 H3 CJ g3
     |rt q=>exact λv G3 H3 rv g3=>o2 v G3 H3 rv g3
theorem tU:yT X W F H0 E .nil []:=L2.uT.imp A4 λD σ H h=>by
 obtain⟨G,env,sr,o⟩:=h
 rw [aF] at o;exact o σ G H sr sr.go
theorem pN{s:Ci.S}{ss:Ss}{p:Stmt}{ps:List Stmt}(h1:GS X W F H0 E s p)(h2:yT X W F H0 E ss ps):yT X W F H0 E (.cons s ss) (p::ps):=
 L2.uT.imp (wI h1 h2) λD σ H h=>by
  obtain⟨G,env,sr,o⟩:=h
  rw [aF] at o;refine⟨G,env,sr,?_⟩;cases r:fA F s env with
  |bad=>rw [r] at o;exact o
  |exc c=>rw [r] at o;exact o
  |ok f=>
   rw [r] at o;cases f with
   |nx jw=>exact λσ2 G2 H2 lh g2=>⟨G2,jw,lh,bR.on (show bR W H0 G E (aF F ss jw) D from o) g2⟩
   |bk jw=>exact o
   |ct jw=>exact o
   |rt q=>exact o
def AF{i:Nat}{ss:Ss}{ps:List Stmt}(h:yT X W F H0 E ss ps):yT X W F H0 E (.cons (.cV i) ss) ps:=by
 intro aa s σ H D I hq;obtain⟨G,env,sr,o⟩:=hq
 rw [aF,fA] at o;rcases Dm sr sr.go i with⟨G',sr',g'⟩|⟨a,ai,ha,k⟩
 ·exact h aa s σ H D I ⟨G',_,sr',bR.on (show bR W H0 G E (aF F ss (env.modify i mF)) D from o) g'⟩
 ·obtain⟨ob,J⟩:=I.freeze ha
  obtain⟨G',sr',g'⟩:=k ob
  exact h aa s σ _ D J ⟨G',_,sr',bR.on (show bR W H0 G E (aF F ss (env.modify i mF)) D from o) g'⟩
def p9(hK:W.K=X.K):Hq X "list.extend" (λx vs H Q=>∃l b xs zs,x=.ref l/\vs=[.ref b]/\H l=some (.lst xs)/\nX W.K H b zs/\xs.length+zs.length<=sizeLine/\Q .aI (upd H l (.lst (xs++zs)))):=by
 intro aa s σ H x vs v us Q I rx rv h;obtain⟨l,b,xs,zs,rfl,rfl,hH,hB,hz,q⟩:=h
 cases rx;obtain⟨u,rfl,ru⟩:=Vals.one rv
 cases ru;obtain⟨z,ae,n,r,hl,e⟩:=I.Ii hH
 obtain⟨dr,n2,r2,Nz,z2,e2⟩:=Ep hK I hB
 have hsz:ae.toArray.size+dr.toArray.size<=sizeLine:=by rw [zzC,zzC];omega
 have yh:¬(!ae.toArray.isEmpty&&Builtin.List.listTooLong (ae.toArray.size+dr.toArray.size))=true:=by
  rw [pz hsz,Bool.and_false];exact zzf
 refine PySem.call_meets PySem.F.slot_list_extend ⟨_,e,rfl⟩ PySem.F.entry_list_extend (PySem.F.args_list_extend_2 _ _)
  (PySem.AutoSeq1.list_extend_list_list_0 l ae.toArray n b dr.toArray n2 yh (by rw [zzC];omega) (by omega)) ⟨e,e2,?_⟩
 refine⟨.aI,_,I.GG (its':=ae++dr) hH e (by simp) (r.append r2) ?_,rfl,q⟩;rw [zzM];omega
def gJ(S:dC Γ F W N sc k E X){i:Nat}{x:Str}{pos:Pos}(h:N[i]?=some x)(hv:eN sc x=true)(ho:okN x=true):PE X (.Name x pos) (HI i):=
 nG (by rw [S.C.hN];exact h) (mP S.C hv) (fx ho).1 (fx ho).2.1
def tW{env:Sl}{σ:St}{G H:Hp}{i:Nat}{xs:List PV}(sr:SR W H0 env σ G H)(h:env[i]?=some (.own (.lst xs))):∃a vs,σ[i]?=some (some (.ref a))/\H a=some (.lst vs)/\G a=none/\H0 a=none/\ah W G xs vs:=by
 obtain⟨o,ho,v,rfl,a,vs,rfl,h1,h2,h3,l⟩:=sr.slot i _ h
 exact⟨a,vs,ho,h1,h2,h3,l⟩
def CU(S:dC Γ F W N sc k E X){i:Nat}{x:Str}{e:Ci.E}{p:Expr}{np apos ba pos:Pos}(h:N[i]?=some x)(hv:eN sc x=true)(ho:okN x=true)(dX:(apos.endLine==ba.line)=true)(cR:fV e=true)(he:GE X W F e p)
 (eB:∀env ps,starEach (p::ps) env=(false,eval p env)::starEach ps env):GS X W F H0 E (.app i e) (.Expr (.Call (.Attribute (.Name x np) "append" apos) [p] [] ba) pos):=by
 refine L2.PS.imp (mM (tG PySem.F.plainAttrs_list PySem.F.slot_list_append PySem.F.type_list_append uH (gJ S h hv ho) (bW he dq (eB _ _)) rfl (by rw [eB];rfl) dX (eB _ _) rfl) rfl) λD σ H hq=>?_
 obtain⟨G,env,sr,o⟩:=hq
 rw [fA] at o;split at o
 ·rename_i xs hx;obtain⟨a,vs,hs,h1,h2,h3,l⟩:=tW sr hx
  refine⟨.ref a,hs,.inl ⟨rfl,_,fQ.of h1⟩,vu S sr o λq v G1 H1 g t bA o1=>?_⟩
  split at o1
  ·rename_i hl;have Lh:=g.h.at h1 (λ_ z=>nomatch z)
   have u5:=g.own a (by rw [h1];exact λz=>nomatch z) (by rw [h1];exact λ_ z=>nomatch z) h2
   have l':=ah.same g.g xs l
   refine⟨a,vs,v,rfl,rfl,Lh,by rw [l.length];exact zzW hl (by decide),?_⟩;obtain⟨r2,g2⟩:=wu (p':=.lst (xs++[q])) (ob:=.lst (vs++[v])) bA bA.go hx hs u5 h3 ⟨a,_,rfl,aw,u5,h3,l'.append (.cons (t.rep cR) .nil)⟩
   exact o1 _ G1 _ r2 g2
  ·exact o1.elim
 ·exact o.elim
def Ak(S:dC Γ F W N sc k E X){i:Nat}{x:Str}{e:Ci.E}{p:Expr}{np apos ba pos:Pos}(h:N[i]?=some x)(hv:eN sc x=true)(ho:okN x=true)(dX:(apos.endLine==ba.line)=true)(he:GE X W F e p)
 (eB:∀env ps,starEach (p::ps) env=(false,eval p env)::starEach ps env):GS X W F H0 E (.js i e) (.Expr (.Call (.Attribute (.Name x np) "extend" apos) [p] [] ba) pos):=by
 refine L2.PS.imp (mM (tG PySem.F.plainAttrs_list PySem.F.slot_list_extend PySem.F.type_list_extend (p9 S.C.K) (gJ S h hv ho) (bW he dq (eB _ _)) rfl (by rw [eB];rfl) dX (eB _ _) rfl) rfl) λD σ H hq=>?_
 obtain⟨G,env,sr,o⟩:=hq
 rw [fA] at o;split at o
 ·rename_i xs hx;obtain⟨a,vs,hs,h1,h2,h3,l⟩:=tW sr hx
  refine⟨.ref a,hs,.inl ⟨rfl,_,fQ.of h1⟩,vu S sr o λq v G1 H1 g t bA o1=>?_⟩
  split at o1
  ·rename_i ys;split at o1
   ·rename_i hl;have Lh:=g.h.at h1 (λ_ z=>nomatch z)
    have u5:=g.own a (by rw [h1];exact λz=>nomatch z) (by rw [h1];exact λ_ z=>nomatch z) h2
    have l':=ah.same g.g xs l
    obtain⟨b,us,rfl,hb,lb⟩:=t.top.lst bA.sub
    refine⟨a,b,vs,us,rfl,rfl,Lh,hb,by rw [l.length,lb.length];exact fD hl,?_⟩;obtain⟨r2,g2⟩:=wu (p':=.lst (xs++ys)) (ob:=.lst (vs++us)) bA bA.go hx hs u5 h3 ⟨a,_,rfl,aw,u5,h3,l'.append lb⟩
    exact o1 _ G1 _ r2 g2
   ·exact o1.elim
  ·exact o1.elim
 ·exact o.elim
def Gu:V->V->V->Hp->(Hp->Prop)->Prop:=λo i v H Q=>∃a H',o=.ref a/\w9 H a i v H'/\Q H'
def AY(hu:X.A.units+1<cLine):Hk X Gu:=by
 intro aa s σ H o i v ov iv u Q I ro ri rv h;obtain⟨a,H',rfl,g,q⟩:=h
 cases ro;exact uu hu I g ri rv λs' I'=>⟨H',I',q⟩
end
end Ci
namespace L2
open PySem PySem.Spec PyProof.Rows
end L2
namespace Ci
open PySem L2
section
variable{Γ:Pg}{X:Cx}{W:Wd}{F:aO}{N:List Str}{sc:Scope}{k:Nat}{H0:Hp}{E:XK}
def Dh{env:Env}{x y:Str}{px py pt FT:Pos}{kt k2}{a b:Expr}(hk:env.scope.kind=.function)(hx:env.scope.names.lookup x=some .local)(hy:env.scope.names.lookup y=some .local)(hl:py.line=px.line)(c9:x≠y)(hp:DS a b=true):
 swappedStores [.Tuple [.Name x px,.Name y py] kt pt] (.Tuple [a,b] k2 FT) env=pure (some [x,y]):=by
 unfold DS at hp;simp! [zza] at hp;obtain⟨⟨⟨h1,h2⟩,h3⟩,h4⟩:=hp
 have s1:isStar a=false:=by simpa using h1
 have s2:isStar b=false:=by simpa using h2
 have b1:env.blockKind=.function:=by unfold Env.blockKind;rw [hk];rfl
 have k1:env.kindOf x=some .local:=hx
 have k2:env.kindOf y=some .local:=hy
 simp! [Bool.not_eq_true'] at h3 h4;have Lg:(y==x)=false:=beq_eq_false_iff_ne.mpr (Ne.symm c9)
 have Po:(x==y)=false:=beq_eq_false_iff_ne.mpr c9
 have n2:[x,y].eraseDups=[x,y]:=by simp [List.eraseDups_cons,Lg]
 have n3:[a,b].all (foldedForSure 8)=false:=by simpa using h3
 have n4:[a,b].all (constantsAlone 8)=false:=by simpa using h4
 unfold swappedStores;simp! [List.any_cons,List.any_nil,Bool.or_false,pure_bind,List.filterMap_cons,List.filterMap_nil,k1,k2,Expr.pos,hl,List.head?_cons,Option.map_some,Option.getD_some,BEq.rfl,Bool.and_self,if_true,n2,n3,n4,b1];refine(if_neg zzf).trans ((if_neg λz=>?_).trans rfl);rcases Bool.or_eq_true_iff.mp z with z|z
 ·split at z
  ·cases s1
  ·cases z
 ·split at z
  ·cases s2
  ·cases z
def IE(S:dC Γ F W N sc k E X){env:Sl}{σ:St}{G H:Hp}{es:Es}{f:List PV->Res Fl}{D:Ends}{Q:List V->Hp->Prop}(sr:SR W H0 env σ G H)(o:bR W H0 G E ((bE F es env).bind f) D)
 (h:∀ps vs G1 H1,av W G H G1 H1->Dq W H0 G1 H1 es ps vs->SR W H0 env σ G1 H1->bR W H0 G1 E (f ps) D->Q vs H1):tA X W F es σ H Q:=
 ⟨H0,G,env,sr,(o.bind S sr).imp λp hp v G1 H1 g1 t=>h p v G1 H1 g1 t (sr.grow g1) (hp.on (sr.on g1))⟩
def Ag(S:dC Γ F W N sc k E X)(vB:Γ.qt=false)(i j:Nat)(as:Es)(p:Stmt)(h:d7 Γ N sc (.par i j as) p=true):GS X W F H0 E (.par i j as) p:=by
 cases p<;>first|(exact aM h)|skip
 rename_i ts v pos;cases v<;>first|(exact aM h)|skip
 rename_i es kt2 FT
 match es,h with
 |[],h=>exact aM h
 |[_],h=>exact aM h
 |_::_::_::_,h=>exact aM h
 |[a,b],h=>
 replace h:=ag h
 simp! [zza,zzy,bne_iff_ne,ne_eq] at h;obtain⟨⟨x,px,y,py⟩,h0,⟨⟨⟨⟨⟨⟨⟨⟨h1,h2⟩,h3⟩,h4⟩,h5⟩,h6⟩,h7⟩,h8⟩,h9⟩,h10⟩:=h
 obtain⟨kt,pt,rfl⟩:=zq h0
 dsimp only at h1 h2 h4 h5 h6 h7;have ga:=gd as S.C [a,b] h10
 intro aa s σ H D I hq;refine EL (S.C.calm vB) (by rw [S.C.hN];exact S.C.nd) (by rw [S.C.hN];exact h1) (by rw [S.C.hN];exact h2) (zzY h3) (by rw [S.C.dU];exact h6) (by rw [S.C.dU];exact h7) ga (Dh I.ok.kind (by rw [S.C.dU];exact h6) (by rw [S.C.dU];exact h7) h5 h4 h8) rfl aa s σ H D I ?_;obtain⟨G,env,sr,o⟩:=hq
 rw [fA] at o;refine IE S sr o λps vs G1 H1 g t bA o1=>?_
 have rl:=t.rep h9
 match ps,rl,o1 with
 |[],_,o1=>exact o1.elim
 |[_],_,o1=>exact o1.elim
 |_::_::_::_,_,o1=>exact o1.elim
 |[p,q],rl,o1=>
  obtain⟨v,r,rfl,hv,rl⟩:=rl.bK
  obtain⟨w,r2,rfl,hw,rl⟩:=rl.bK
  have:=rl.length
  cases r2 with
  |cons _ _=>cases this
  |nil=>exact⟨v,w,rfl,o1 _ G1 H1 ((bA.set i hv).set j hw) bA.go⟩
variable{G0 G H:Hp}{env:Sl}{σ:St}
def AJ(r:SR W H0 env σ G H)(g:av W G0 H0 G H){i:Nat}{a:Addr}(hi:i<env.length)(ha:H a=none):
 SR W H0 (env.set i (.fj [])) (σ.set i (some (.ref a))) G (upd H a (.dK []))/\av W G0 H0 G (upd H a (.dK [])):=by
 have gm:av W G H G (upd H a (.dK [])):=.Dt r.sub ha
 have r1:=r.grow gm
 have ne:∀{j:Nat} {q:PV},(env.set i (.fj []))[j]?=some (.own q)->i≠j/\env[j]?=some (.own q):=λ{j q} e=>by
  by_cases hj:i=j
  ·subst hj;rw [zzo hi] at e;cases e
  ·rw [zzS hj] at e;exact⟨hj,e⟩
 refine⟨⟨by rw [List.length_set,List.length_set];exact r.len,r1.sub,r1.base,λj s e=>?_,λj l q q' c e1 e2 e3 e4=>?_,r1.tab,r1.iq⟩,g.trans gm⟩
 ·by_cases hj:i=j
  ·subst hj;rw [zzo hi] at e;cases e;exact⟨_,zzo (by rw [<-r.len];exact hi),a,rfl,aw,r.sub.free ha,r.base.free ha,.nil⟩
  ·rw [zzS hj] at e;obtain⟨o2,h1,h2⟩:=r1.slot j s e
   exact⟨o2,by rw [zzS hj];exact h1,h2⟩
 ·have n1:=ne e1
  have n2:=ne e2
  rw [zzS n1.1] at e3;rw [zzS n2.1] at e4;exact r.apart j l q q' c n1.2 n2.2 e3 e4
def BC(r:SR W H0 env σ G H)(g:av W G0 H0 G H){i:Nat}{ai:List (Int×Int)}{a:Addr}(k:Int)(hp:env[i]?=some (.fj ai))(hs:σ[i]?=some (some (.ref a)))(h1:H a=some (.dK (sj ai)))(hG:G a=none)(tX:H0 a=none)(nd:(ai.map (·.1)).Nodup)(hu:(env.set i .no).any Slot.me=false):
 SR W H0 (env.set i (.fj (bH ai k))) σ G (upd H a (.dK (sj (bH ai k))))/\av W G0 H0 G (upd H a (.dK (sj (bH ai k)))):=by
 have bU:i<env.length:=(zzH.mp hp).1
 have Lk:∀ps,H a≠some (.fh ps):=λps z=>by rw [h1] at z;cases z
 have tab:∀{G1:Hp},b9 W G1 H->b9 W G1 (upd H a (.dK (sj (bH ai k)))):=λt=>t.same (aq.refl _) (λ_ _ _ h=>h) (iG Lk)
 have ne:∀{j:Nat} {q:PV},(env.set i (.fj (bH ai k)))[j]?=some (.own q)->env[j]?=some (.own q):=λ{j q} e=>by
  by_cases hj:i=j
  ·subst hj;rw [zzo bU] at e;cases e
  ·rw [zzS hj] at e;exact e
 refine⟨⟨by rw [List.length_set];exact r.len,λb u e=>?_,λb u e=>?_,λj s e=>?_,λj l q q' c e1 e2 e3 e4=>r.apart j l q q' c (ne e1) (ne e2) e3 e4,tab r.tab,r.iq⟩,⟨g.g,λb u e=>?_,λb u e=>?_,g.own,λt=>tab (g.tab t)⟩⟩
 ·rw [af (λz=>by subst z;rw [hG] at e;cases e)];exact r.sub _ _ e
 ·rw [af (λz=>by subst z;rw [tX] at e;cases e)];exact r.base _ _ e
 ·by_cases hj:i=j
  ·subst hj;rw [zzo bU] at e;cases e;exact⟨_,hs,a,rfl,aw,hG,tX,(gP ai k nd).1⟩
  ·rw [zzS hj] at e;obtain⟨o2,f1,f2⟩:=r.slot j s e
   refine⟨o2,f1,?_⟩;cases s with
   |no=>exact trivial
   |val q=>exact f2
   |fn _ _ _=>exact f2
   |fj q=>
    exfalso
    have:(env.set i .no).any Slot.me=true:=List.any_eq_true.mpr ⟨.fj q,zzD (i:=j) (by rw [zzS hj];exact e),rfl⟩
    rw [this] at hu;cases hu
   |own q=>
    obtain⟨v2,rfl,ov⟩:=f2
    refine⟨v2,rfl,ov.fH (a:=a) (λzz=>?_) (aq.refl _) (λb hb=>rfl) λb hb=>af hb⟩
    subst zz;exact ov.CZ h1 rfl
 ·rw [af (λz=>by subst z;rw [tX] at e;cases e)];exact g.h _ _ e
 ·rw [af (λz=>by subst z;rw [hG] at e;cases e)];exact g.sub _ _ e
def zh(S:dC Γ F W N sc k E X){i:Nat}{x:Str}{np dp pos:Pos}(h:N[i]?=some x)(hl:ft sc x=true):GS X W F H0 E (.mH i) (.Assign [.Name x np] (.Dict [] [] dp) pos):=by
 obtain⟨a1,a2,a3⟩:=eP S h hl
 intro aa s σ H D I hq;have Kg:i<σ.length:=by rw [I.len,S.C.hN];exact(zzH.mp h).1
 refine rg a1 a2 a3 x8 rfl (.inl (S.fn x)) aa s σ H D I ?_;obtain⟨G,env,sr,o⟩:=hq
 rw [fA] at o;cases hc:env.any Slot.me with
 |true=>rw [if_pos hc] at o;exact o.elim
 |false=>
  rw [if_neg (by rw [hc];exact zzf)] at o;intro p hp;obtain⟨r2,g2⟩:=AJ (i:=i) sr sr.go (by rw [sr.len];exact Kg) hp
  exact o _ G _ r2 g2
def Ar(S:dC Γ F W N sc k E X){i n:Nat}{x z:Str}{np zp hJ p1 ap p2 c2 cp c4 bp pos:Pos}{c1 c3:Nat}(h:N[i]?=some x)(hv:eN sc x=true)(ho:okN x=true)(hz:N[n]?=some z)(Nx:eN sc z=true)(Ny:okN z=true)(dX:(ap.endLine==cp.line)=true):
 GS X W F H0 E (.jf i n) (.Assign [.Subscript (.Name x np) (.Name z zp) hJ] (.BinOp (.Call (.Attribute (.Name x p1) "get" ap) [.Name z p2,.Constant (.int 0) c1 c2] [] cp) .Add (.Constant (.int 1) c3 c4) bp) pos):=by
 have hu:X.A.units+1<cLine:=by have:=S.C.room.un;omega
 have m:M2 X (.Name x p1) "get" ap (.Name z p2) (.Constant (.int 0) c1 c2) cp:=⟨rfl,rfl,dX,rfl⟩
 refine L2.PS.imp (CH (BQ wR (wD hu (gJ S h hv ho) (gJ S hz Nx Ny) nF m) nF) (E7 (gJ S h hv ho) (gJ S hz Nx Ny) (AY hu))) λD σ H hq=>?_
 obtain⟨G,env,sr,o⟩:=hq
 rw [fA] at o;split at o
 ·rename_i ai kk e1 e2;cases hc:(env.set i .no).any Slot.me with
  |true=>rw [if_pos hc] at o;exact o.elim
  |false=>
   rw [if_neg (by rw [hc];exact zzf)] at o;split at o
   ·rename_i Ew;obtain⟨o1,hs,a,rfl,h1,h2,h3,nd⟩:=sr.slot i _ e1
    obtain⟨o2,Cr,v,rfl,rv⟩:=sr.slot n _ e2
    simp! [Rep] at rv;subst rv;obtain⟨r2,g2⟩:=BC sr sr.go kk e1 hs h1 h2 h3 nd hc
    refine⟨.ref a,hs,a,rfl,.inl ⟨_,.inl h1⟩,.int kk,Cr,gA (sj ai) (.inl kk),.inl ⟨_,.inl kk,.inl h1,rfl,rfl⟩,?_⟩;rw [rS];refine⟨_,_,rfl,rfl,.ref a,hs,.int kk,Cr,a,_,rfl,w9.k (k:=.inl kk) h1 (by rw [zzl];exact zzW Ew (by decide)),?_⟩;rw [rW ai kk nd];exact o _ G _ r2 g2
   ·exact o.elim
 ·exact o.elim
def yi(S:dC Γ F W N sc k E X)(i:Nat)(p:Stmt)(h:d7 Γ N sc (.mH i) p=true):GS X W F H0 E (.mH i) p:=by
 cases p<;>first|(exact aM h)|skip
 rename_i ts v pos;cases v<;>first|(exact aM h)|skip
 rename_i ks vs dp;cases ks<;>first|(exact aM h)|skip
 cases vs<;>first|(exact aM h)|skip
 replace h:=ag h
 simp! [Option.any_eq_true,zza,zzy] at h;obtain⟨x,h0,h1,h2⟩:=h
 obtain⟨yp,rfl⟩:=qW h0
 exact zh S h1 h2
def vX(S:dC Γ F W N sc k E X)(i n:Nat)(p:Stmt)(h:d7 Γ N sc (.jf i n) p=true):GS X W F H0 E (.jf i n) p:=by
 cases p<;>first|(exact aM h)|skip
 obtain⟨⟨x,pk⟩,h0,h1⟩:=ag h
 obtain⟨z,zp,e1,h2⟩:=FX h1
 obtain⟨q,e2,h3⟩:=ag h2
 simp! [zza,zzy] at h3;obtain⟨⟨⟨⟨⟨⟨⟨y1,y2⟩,y3⟩,y4⟩,y5⟩,y6⟩,y7⟩,y8⟩:=h3
 obtain⟨np,sp,rfl⟩:=DY h0
 obtain⟨p1,ap,p2,c1,c2,cp,c3,c4,bp,e3,hl⟩:=Fe e2
 dsimp only at e1 y1 y2 y3 y7;subst e1 e3;rw [y7,y8];exact Ar S y1 y2 y3 y4 y5 y6 hl
def pq{e:Ci.E}(h:gh e=true):∀env q,ax F e env=.ok q->∃xs,q=.lst xs:=by
 cases e<;>first|(exact aM h)|exact lst_is|exact tD|exact mB
def ly(S:dC Γ F W N sc k E X){i:Nat}{x:Str}{xp pos:Pos}(hx:N[i]?=some x)(zo:ft sc x=true)(e:Ci.E)(p:Expr)(hf:gh e=true)(h:aR Γ N sc e p=true):PS X (.Assign [.Name x xp] p pos) (F5 X W F i e):=by
 cases e with
 |lst as=>
  obtain⟨ps,e,h1⟩:=ag h
  obtain⟨_,rfl⟩:=wX e
  have h2:=ak h1
  have h0:=ak h2.1
  exact nD S hx zo (xU h0.1 (zzY h0.2) (gd as S.C _ h2.2)) rfl
 |comp kk bP tg it elt=>
  obtain⟨hq,h⟩:=j4 h
  obtain⟨di,gens,scope,_,rfl,h1⟩:=Jp h
  obtain⟨⟨cg,d8,ifs,asy⟩,z2,h2⟩:=g9 h1
  have h3:=ak h2
  have z3:=BB h3.1
  dsimp only at z2 z3;subst z2 z3
  clear h h1 h2
  have h:=ak h3.2
  clear h3
  simp! [zza] at h;obtain⟨⟨⟨⟨⟨⟨h1,h2⟩,h3⟩,h4⟩,h5⟩,h6⟩,fM⟩:=h
  have fM:=zzY fM
  subst fM;exact wH S hq hx zo (gu h1) h2 h3 (xW it S.C cg d8 h4) (gn h4 _) h5 λY CY=>(aV elt CY di h6).ge
 |bX kk bP tg it c elt=>
  obtain⟨hq,h⟩:=j4 h
  obtain⟨di,gens,scope,_,rfl,h1⟩:=Jp h
  obtain⟨⟨cg,d8,ifs,asy⟩,z2,h2⟩:=g9 h1
  obtain⟨pc,z3,h3⟩:=g9 h2
  dsimp only at z2 z3;subst z2 z3
  clear h h1 h2
  have h:=ak h3
  clear h3
  simp! [zza] at h;obtain⟨⟨⟨⟨⟨⟨⟨⟨h0,h1⟩,h2⟩,h3⟩,h4⟩,h5⟩,h6⟩,h7⟩,fM⟩:=h
  have fM:=zzY fM
  subst fM;exact qv S hq hx zo (gu h1) h2 h3 (xW it S.C cg d8 h4) (gn h4 _) h5 (λY CY=>(aV c CY pc h6).gt h0) λY CY=>(aV elt CY di h7).ge
 |_=>exact aM hf
def uP{e:Ci.E}{p:Expr}(h:aR Γ N sc e p=true)(hf:gh e=false):m9 p=true:=by
 cases p<;>first|rfl|(cases e<;>first|(exact aM h)|(rename_i q;cases q<;>exact aM h)|(cases hf;done))
def uG(S:dC Γ F W N sc k E X){i:Nat}{x:Str}{e:Ci.E}{p:Expr}{xp pos:Pos}(h:N[i]?=some x)(hl:ft sc x=true)(cR:fV e=true)(hc:aR Γ N sc e p=true):GS X W F H0 E (.set i e) (.Assign [.Name x xp] p pos):=by
 cases hf:gh e with
 |true=>exact A9 S (pq hf) cR (ly S h hl e p hf hc)
 |false=>exact Fg S h hl cR (aV e S.C p hc).ge (si (uP hc hf))
def vQ(S:dC Γ F W N sc k E X)(e:Ci.E)(p:Stmt)(h:d7 Γ N sc (.expr e) p=true):GS X W F H0 E (.expr e) p:=by
 cases p<;>first|(exact aM h)|skip
 replace h:=ak h
 try simp! [zza] at h
 exact Af S (aV e S.C _ h.2).ge h.1
def se(S:dC Γ F W N sc k E X)(i:Nat)(e:Ci.E)(p:Stmt)(h:d7 Γ N sc (.set i e) p=true):GS X W F H0 E (.set i e) p:=by
 cases p<;>first|(exact aM h)|skip
 replace h:=ag h
 simp! [Option.any_eq_true,zza,zzy] at h;obtain⟨x,h0,h1⟩:=h
 obtain⟨xp,rfl⟩:=qW h0
 exact uG S h1.1.1.1 h1.1.1.2 h1.1.2 h1.2
def yY(S:dC Γ F W N sc k E X)(i:Nat)(e:Ci.E)(p:Stmt)(h:d7 Γ N sc (.own i e) p=true):GS X W F H0 E (.own i e) p:=by
 cases p<;>first|(exact aM h)|skip
 replace h:=ag h
 simp! [Option.any_eq_true,zza,zzy] at h;obtain⟨x,h0,h⟩:=h
 obtain⟨xp,rfl⟩:=qW h0
 exact Bf S h.1.1.1 (pq h.1.2) (ly S h.1.1.1 h.1.1.2 e _ h.1.2 h.2)
def Bk(S:dC Γ F W N sc k E X)(i:Nat)(p:Stmt)(h:d7 Γ N sc (.cV i) p=true):GS X W F H0 E (.cV i) p:=by
 cases p<;>exact aM h
def Be(S:dC Γ F W N sc k E X)(i:Nat)(e:Ci.E)(p:Stmt)(h:d7 Γ N sc (.app i e) p=true):GS X W F H0 E (.app i e) p:=by
 cases p<;>first|(exact aM h)|skip
 replace h:=ag h
 simp! [Option.any_eq_true,zza,zzy] at h;obtain⟨⟨x,m,args⟩,h0,⟨⟨⟨⟨h1,h2⟩,h3⟩,h4⟩,h5⟩,q,h6,h7⟩:=h
 obtain⟨np,apos,ba,rfl,hl⟩:=xa h0
 cases e9 h6;cases h4;exact CU S h1 h2 h3 hl h5 (aV e S.C q h7).ge (notStar h7)
def wb(S:dC Γ F W N sc k E X)(i:Nat)(e:Ci.E)(p:Stmt)(h:d7 Γ N sc (.js i e) p=true):GS X W F H0 E (.js i e) p:=by
 cases p<;>first|(exact aM h)|skip
 replace h:=ag h
 simp! [Option.any_eq_true,zza,zzy] at h;obtain⟨⟨x,m,args⟩,h0,⟨⟨⟨h1,h2⟩,h3⟩,h4⟩,q,h6,h7⟩:=h
 obtain⟨np,apos,ba,rfl,hl⟩:=xa h0
 cases e9 h6;cases h4;exact Ak S h1 h2 h3 hl (aV e S.C q h7).ge (notStar h7)
def rE(S:dC Γ F W N sc k E X)(e:Ci.E)(p:Stmt)(h:d7 Γ N sc (.ret e) p=true):GS X W F H0 E (.ret e) p:=by
 cases p<;>first|(exact aM h)|skip
 rename_i v pos;cases v with
 |none=>exact aM h
 |some v=>
  replace h:=ak h
  try simp! [zza] at h
  exact EH S h.1 (aV e S.C v h.2).ge
def uD(S:dC Γ F W N sc k E X)(hq:Γ.qt=false)(c m:Str)(p:Stmt)(h:d7 Γ N sc (.raise c m) p=true):GS X W F H0 E (.raise c m) p:=by
 cases p<;>first|(exact aM h)|skip
 replace h:=ak h
 simp! [Option.any_eq_true,zza,zzy] at h;obtain⟨hn,⟨x,z⟩,h0,⟨⟨⟨h1,h2⟩,h3⟩,h4⟩,h5⟩:=h
 obtain⟨np,j,zp,cp,rfl⟩:=DN h0
 cases h1;cases h2;rename_i fr pos;cases Option.isNone_iff_eq_none.mp hn;exact xt S hq h3 h4 h5
def rG{c:Ci.E}{a b:Ss}{p:Stmt}(h:d7 Γ N sc (.ite c a b) p=true):∃q pa pb pos,p=.If q pa pb pos/\fi c=true/\aR Γ N sc c q=true/\cL Γ N sc a pa=true/\cL Γ N sc b pb=true:=by
 cases p<;>first|(exact aM h)|skip
 replace h:=ak h
 try simp! [zza] at h
 exact⟨_,_,_,_,rfl,h.1.1.1,h.1.1.2,h.1.2,h.2⟩
def AO{tg:Tg}{it:I}{b:Ss}{p:Stmt}(h:d7 Γ N sc (.cQ tg it b) p=true):∃cg d8 pb pos,p=.For cg d8 pb [] pos/\fy N sc (λ_=>true) tg cg=true/\Az it=true/\uy Γ N sc cg it d8=true/\cL Γ N sc b pb=true:=by
 cases p<;>first|(exact aM h)|skip
 replace h:=ak h
 try simp! [zza] at h
 cases List.isEmpty_iff.mp h.1.1.1.1;exact⟨_,_,_,_,rfl,h.1.1.1.2,h.1.1.2,h.1.2,h.2⟩
def tQ{ps:List Stmt}(h:cL Γ N sc .nil ps=true):ps=[]:=by
 cases ps with
 |nil=>rfl
 |cons _ _=>exact aM h
def pH{s:Ci.S}{ss:Ss}{ps:List Stmt}(h:cL Γ N sc (.cons s ss) ps=true):(∃i,s=.cV i/\cL Γ N sc ss ps=true)\/∃q qs,ps=q::qs/\d7 Γ N sc s q=true/\cL Γ N sc ss qs=true:=by
 by_cases hz:∃i,s=.cV i
 ·obtain⟨i,rfl⟩:=hz
  exact .inl ⟨i,rfl,h⟩
 ·cases ps with
  |nil=>cases s<;>first|(exact absurd ⟨_,rfl⟩ hz)|(exact aM h)
  |cons p ps=>
   have h2:(d7 Γ N sc s p&&cL Γ N sc ss ps)=true:=by
    cases s<;>first|(exact absurd ⟨_,rfl⟩ hz)|(exact h)
   rw [zza] at h2;exact .inr ⟨p,ps,rfl,h2.1,h2.2⟩
mutual
theorem KP(S:dC Γ F W N sc k E X)(hq:Γ.qt=false):∀(s:Ci.S) (p:Stmt),d7 Γ N sc s p=true->GS X W F H0 E s p
 |.expr e,p,h=>vQ S e p h
 |.set i e,p,h=>se S i e p h
 |.own i e,p,h=>yY S i e p h
 |.cV i,p,h=>Bk S i p h
 |.app i e,p,h=>Be S i e p h
 |.js i e,p,h=>wb S i e p h
 |.mH i,p,h=>yi S i p h
 |.jf i n,p,h=>vX S i n p h
 |.par i j as,p,h=>Ag S hq i j as p h
 |.ret e,p,h=>rE S e p h
 |.ite c a b,p,h=>by
  obtain⟨q,pa,pb,pos,rfl,h1,h2,h3,h4⟩:=rG h
  exact xJ S ((aV c S.C _ h2).gt h1) (lF S hq a _ h3) (lF S hq b _ h4)
 |.cQ tg it b,p,h=>by
  obtain⟨cg,d8,pb,pos,rfl,h1,h2,h3,h4⟩:=AO h
  exact CF S hq h1 h2 (xW it S.C cg d8 h3) (gn h3 _) (lF S hq b _ h4)
 |.raise c m,p,h=>uD S hq c m p h
theorem lF(S:dC Γ F W N sc k E X)(hq:Γ.qt=false):∀(ss:Ss) (ps:List Stmt),cL Γ N sc ss ps=true->yT X W F H0 E ss ps
 |.nil,ps,h=>by
  cases tQ h;exact tU
 |.cons s ss,ps,h=>by
  rcases pH h with⟨i,e,h2⟩|⟨q,qs,e,h1,h2⟩
  ·have:=AF (i:=i) (lF S hq ss ps h2)
   rw [<-e] at this;exact this
  ·rw [e];exact pN (KP S hq s q h1) (lF S hq ss qs h2)
end
mutual
noncomputable def FK:Ci.S->Bool
 |.set _ _=>true
 |.ret _=>true
 |.ite _ a b=>ji a&&ji b
 |_=>false
noncomputable def ji:Ss->Bool
 |.nil=>true
 |.cons s ss=>FK s&&ji ss
end
mutual
theorem Ld(S:dC Γ F W N sc k E X):∀(s:Ci.S) (p:Stmt),FK s=true->d7 Γ N sc s p=true->GS X W F H0 E s p
 |.set i e,p,_,h=>se S i e p h
 |.ret e,p,_,h=>rE S e p h
 |.ite c a b,p,hz,h=>by
  unfold FK at hz;rw [zza] at hz;obtain⟨q,pa,pb,pos,rfl,h1,h2,h3,h4⟩:=rG h
  exact xJ S ((aV c S.C _ h2).gt h1) (rK S a _ hz.1 h3) (rK S b _ hz.2 h4)
 |.expr _,_,h,_=>aM h
 |.own _ _,_,h,_=>aM h
 |.cV _,_,h,_=>aM h
 |.app _ _,_,h,_=>aM h
 |.js _ _,_,h,_=>aM h
 |.mH _,_,h,_=>aM h
 |.jf _ _,_,h,_=>aM h
 |.par _ _ _,_,h,_=>aM h
 |.cQ _ _ _,_,h,_=>aM h
 |.raise _ _,_,h,_=>aM h
theorem rK(S:dC Γ F W N sc k E X):∀(ss:Ss) (ps:List Stmt),ji ss=true->cL Γ N sc ss ps=true->yT X W F H0 E ss ps
 |.nil,ps,_,h=>by
  cases tQ h;exact tU
 |.cons s ss,ps,hz,h=>by
  unfold ji at hz;rw [zza] at hz;rcases pH h with⟨i,e,h2⟩|⟨q,qs,e,h1,h2⟩
  ·rw [e] at hz;exact aM hz.1
  ·rw [e];exact pN (Ld S s q hz.1 h1) (rK S ss qs hz.2 h2)
end
end
end Ci
namespace L2
open PySem PySem.Spec PyProof.Rows
def xR{K:zz8}{C:Addr}{T:String}{b:Bool}(h1:PySem.W.kitMeta T=true)(h3:PySem.W.subIn K (.ref C) (.type T)=some b):PySem.W.kitOne K (.ref C) (.type T)=some b:=by
 unfold PySem.W.kitOne;split
 ·rename_i e;cases zzy.mp e
 ·show(if PySem.W.kitMeta T=true then PySem.W.subIn K (.ref C) (.type T) else none)=some b
  rw [if_pos h1];exact h3
def EB{K:zz8}{h:Heap}{mg:Str->Option Value}{x:Str}{C:Addr}{NM:List Value}{newId:String}(X:K.In h)(hm:mg x=some (.ref C))(q:PySem.W.excIn K C NM newId=true):OwnCls x C NM newId mg h:=by
 constructor
 ·exact hm
 ·unfold PySem.W.excIn at q;split at q
  ·rename_i dd cd sl ho;split at q
   ·rename_i C1 bm1 k0 k1 k2 k3 n1 k5 Lw Jh;simp! [zza,zzy,Bool.not_eq_true'] at q;obtain⟨⟨⟨⟨⟨q1,q2⟩,q3⟩,q4⟩,q5⟩,q6⟩:=q
    subst q1 q2;obtain⟨nm,bs,mro,ns,qn,hd,sn,sub,ab,col,del⟩:=cd
    have FR:mro=.ref C1::bm1:=Lw
    have hd2:del=false:=q3
    have MP:PySem.W.nsOkIn K ns=true:=q5
    have Pc:PySem.W.nsIn K ns "__init__"=some none:=q6
    subst FR hd2;obtain⟨ls⟩:=sl
    have Cr:ls=[k0,k1,k2,k3,some (.builtin n1),k5]:=Jh
    subst Cr;exact⟨bm1,ns,nm,qn,bs,hd,sn,sub,ab,col,dd,k0,k1,k2,k3,k5,_,X _ _ ho,.of_isNs (PySem.W.isNs_of_in X MP),PySem.W.nsMap_none_of_in X MP Pc,PySem.W.tail_of_in X q4⟩
   ·cases q
  ·cases q
end L2
namespace Ci
open PySem L2
noncomputable abbrev xS:List Value:=[.type "ValueError",.type "Exception",.type "BaseException",.type "object"]
structure qm(K:zz8)(mg:Str->Option Value)(Γ:Pg)(W:Wd):Prop where
 hK:W.K=K
 hm:W.mg=mg
 gs:∀q∈Γ.gs,∃u v,mg q.1=some u/\RelV v u/\∀G,Rep W G q.2 v
 bs:∀g∈Γ.bs,mg g=none
 JE:Γ.cs.contains "ValueError"=false
 cls:∀c∈Γ.cs,∃C,mg c=some (.ref C)
 xc:∀d∈W.xs,∀D,mg d=some (.ref D)->Dc K D/\(∀c∈Γ.cs,∀C,mg c=some (.ref C)->PySem.W.kitOne K (.ref D) (.ref C)=some (c==d||c=="FloorError"))/\PySem.W.kitOne K (.ref D) (.type "ValueError")=some true
 xs:∀c,Γ.rs.contains c=true->c∈W.xs
 rm:∀c,Γ.rs.contains c=true->∃C,mg c=some (.ref C)/\PySem.W.excIn K C xS "ValueError.__new__"=true
 JD:Γ.cs.contains "FloorError"=true->∀c D,c∈W.xs->mg c=some (.ref D)->∀T,mg "FloorError"=some (.ref T)->PySem.W.exmOne K (.ref D) (.ref T)=some true
 bm:W.ts≠[]->∃bm o,mg "__builtins__"=some (.ref bm)/\bm≠builtinsNs/\bm≠mainGlobals/\K.lookup bm=some o/\o.cls=.type "module"/\o.dict=some builtinsNs/\o.data=.plain
structure Row where
 f:Str
 h:Str
 d:Def
 st:Stmt
 hl:Bool:=false
abbrev dt:Type:=List Row
noncomputable def ir(l:dt):List Str:=l.filterMap λr=>if r.d.nZ.isNone then some r.f else none
noncomputable def um(l:dt):List Hs:=l.filterMap λr=>r.d.nZ.map λq=>⟨r.f,r.h,q.1,q.2,r.d.np⟩
noncomputable def tab(l:dt):List (Str×Def):=l.map λq=>(q.f,q.d)
noncomputable def jg(l:dt):List Str:=match l.getLast? with|some r=>if r.d.nZ.isNone then [r.f] else []|none=>[]
noncomputable def Pg.at(Γ:Pg)(l:dt)(hl:Bool):Pg:={Γ with fs:=ir l,hs:=um l,hl:=hl,qt:=l.isEmpty,qs:=jg l}
structure bT(Γ:Pg)(n:Str)(d:Def)(st:Stmt):Prop where
 sc:iJ d.N (d.N.take d.np) (aC st)
 np:d.np<=d.N.length
 bind:∀(kV doc pm:Value) (an:Option Addr) (d9 ct:Value) (us:List Value),us.length=(d.N.take d.np).length->bindArgs (PySem.W.fnOf n n (cq st) (bM st) (aC st) .none kV doc pm an d9 ct) ⟨us,[]⟩=pure ((d.N.take d.np).zip us)
 Nr:cL Γ d.N (aC st) d.body (bM st)=true
 Oj:(!Γ.qt||ji d.body)=true
theorem stM{Γ:Pg}{n:Str}{d:Def}{st:Stmt}(b:∀(kV doc pm:Value) (an:Option Addr) (d9 ct:Value) (us:List Value),us.length=(d.N.take d.np).length->bindArgs (PySem.W.fnOf n n (cq st) (bM st) (aC st) .none kV doc pm an d9 ct) ⟨us,[]⟩=pure ((d.N.take d.np).zip us))
 (a1:(aC st).kind=.function:=by rfl) (a2:(aC st).isCoroutine=false:=by rfl) (a3:(aC st).isGenerator=false:=by rfl) (a4:d.N.Nodup:=by decide+kernel) (a5:d.N.take (d.N.take d.np).length=d.N.take d.np:=by rfl)
 (a6:∀x∈d.N.take d.np,(aC st).names.lookup x=some .local\/(aC st).names.lookup x=some .cell:=by decide+kernel) (a7:∀y∈(aC st).names,y.2≠.free:=by decide+kernel) (a8:d.np<=d.N.length:=by decide+kernel) (a9:cL Γ d.N (aC st) d.body (bM st)=true:=by decide+kernel) (Ou:(!Γ.qt||ji d.body)=true:=by decide+kernel):bT Γ n d st:=⟨⟨a1,a2,a3,a4,a5,a6,a7⟩,a8,b,a9,Ou⟩
def ib(K:zz8)(c P:Addr):Prop:=∃o vs file tf flags tg LS text tt,K.lookup c=some o/\o.cls=.type "code"/\o.data=.fields vs/\vs[11]?=some (.ref P)/\vs.getD 11 .none=.ref P/\vs.getD 18 .none=.str file tf/\
 vs.getD 7 .none=.int flags tg/\vs.getD 9 .none=.bool LS/\vs.getD 10 .none=.int text tt/\c≠P
noncomputable def u9(n:Str):Str:=(n++".<locals>.")++"<lambda>"
def vT(K:zz8)(ts:List (Addr×Str))(hl:Bool)(n:Str)(st:Stmt):Prop:=∃(f:Addr) (oc:Value) (od:Option Addr) (kV doc pm:Value) (an:Option Addr) (d9 ct:Value) (rk:Array (Option Value)),
 PySem.W.nsIn K mainGlobals n=some (some (.ref f))/\K.lookup f=some ⟨oc,od,.func (PySem.W.fnOf n n (cq st) (bM st) (aC st) .none kV doc pm an d9 ct),rk⟩/\PySem.W.codeIn K d9 n=true/\PySem.W.keepIn K (.ref f)=true/\
 (hl=true->∃c P,d9=.ref c/\ib K c P/\(P,u9 n)∈ts/\∀q',(P,q')∈ts->q'=u9 n)
def LV{K:zz8}{ts:List (Addr×Str)}{n:Str}{st:Stmt}{f:Addr}{oc:Value}{od:Option Addr}{kV doc pm:Value}{an:Option Addr}{d9 ct:Value}{rk:Array (Option Value)}(a:PySem.W.nsIn K mainGlobals n=some (some (.ref f)))
 (l:K.lookup f=some ⟨oc,od,.func (PySem.W.fnOf n n (cq st) (bM st) (aC st) .none kV doc pm an d9 ct),rk⟩) (c:PySem.W.codeIn K d9 n=true) (k:PySem.W.keepIn K (.ref f)=true):vT K ts false n st:=⟨f,oc,od,kV,doc,pm,an,d9,ct,rk,a,l,c,k,(λz=>nomatch z)⟩
structure gW(P:Program)(w:World)(K:zz8)(mg:Str->Option Value)(base:Heap)(W:Wd)(F:aO)(k:Nat)(f:Str):Prop where
 ex:∃fa fd ps,fq P w K mg base (fw P w) k fa fd ps (xi W F f ps.length none)/\mg f=some (.ref fa)/\PySem.W.keepIn K (.ref fa)=true/\Binds K fd ps []/\∀as,F f as≠.bad->as.length=ps.length
structure CC(P:Program)(w:World)(K:zz8)(mg:Str->Option Value)(base:Heap)(W:Wd)(F:aO)(k:Nat)(q:Hs):Prop where
 ex:∃fa fd ps,fq P w K mg base (fw P w) k fa fd ps (xi W F q.f ps.length (some (q.g,q.idx)))/\mg q.h=some (.ref fa)/\PySem.W.keepIn K (.ref fa)=true/\Binds K fd ps []/\ps.length=q.np
section
variable{P:Program}{w:World}{K:zz8}{mg:Str->Option Value}{base:Heap}{Γ:Pg}{W:Wd}
def vd{c p:Addr}(KB:K.In base)(h:ib K c p):PySem.W.CodeHd base c p:=by
 obtain⟨o,vs,file,tf,flags,tg,LS,text,tt,e,r⟩:=h
 exact⟨o,vs,file,tf,flags,tg,LS,text,tt,KB _ _ e,r⟩
theorem Ed(M:qm K mg Γ W)(KB:K.In base){F:aO}{k:Nat}{N ps:List Str}{qual:Str}{sc:Scope}(S:iJ N ps sc)(hF:∀f,Γ.fs.contains f=true->gW P w K mg base W F k f)(hH:∀q∈Γ.hs,CC P w K mg base W F k q)(hQ:∀f,Γ.qs.contains f=true->2<=k/\gW P w K mg base W F 2 f)(hk:Γ.qt=false->2<=k)(hA:∀g as,F g as≠.bad->Γ.fs.contains g=true\/fJ g=true){f:Addr}{cd:Value}
 (hL:Γ.hl=true->∃c p,cd=.ref c/\ib K c p/\(p,u9 qual)∈W.ts/\∀q',(p,q')∈W.ts->q'=u9 qual) {A:Around} {outer:List Env} {s:Shared} {H:Hp} {E:XK} (hr:dv (k+1) (A.deeper (PyProof.Rows.envOfC qual sc (zz9 s) f cd))):
 dC Γ F W N sc k E (cM (fw P w) P w K mg base N qual sc f cd A outer s H E) where
 C:=⟨rfl,rfl,λz=>Option.isNone_iff_eq_none.mpr (hr.hd (by have:=hk z;omega)),S.nd,M.hK,M.hm,M.gs,M.bs,hr,λg hg=>⟨(hF g hg).ex⟩,M.JE,M.cls,M.xc,λq hq=>⟨(hH q hq).ex⟩,λf hf=>⟨(hQ f hf).1,⟨(hQ f hf).2.ex⟩⟩,hA,λz=>by
  obtain⟨c,p,e1,e2,e3,e4⟩:=hL z
  exact⟨c,p,e1,vd KB e2,e3,e4⟩,λz=>by
  obtain⟨c,p,e1,e2,e3,e4⟩:=hL z
  obtain⟨bm,o,b1,b2,b3,b4,b5⟩:=M.bm (λy=>by rw [y] at e3;cases e3)
  exact⟨bm,o,b1,b2,b3,KB _ _ b4,b5⟩,λ_ _=>rfl⟩
 fn:=λ_=>rfl
 own:=PassesOwn.leaving
 pass:=Gf
 kind:=S.kind
 Hm:=rfl
 frame:=rfl
 xs:=M.xs
 rm:=λc hc=>let⟨C,h,_⟩:=M.rm c hc;⟨C,h⟩
 rz:=λhq c z j np zp cp pos h1 h2 h3=>by
  obtain⟨C,hC,hx⟩:=M.rm c h1
  have hg:Gl (cM (fw P w) P w K mg base N qual sc f cd A outer s H E) c:=zzy.mp h2
  refine L2.PS.imp (yH hg (EB KB hC hx) PySem.F.excBase_ValueError (bW wL dq) rfl rfl (fx h3).1 (Option.isNone_iff_eq_none.mpr (hr.hd (by have:=hk hq;omega)))) λD σ H1 h=>⟨(show 1<=sizeLine by decide),λe he=>h C e hC he⟩
 JD:=M.JD
def pR{H G:Hp}{N:List Str}{as:List PV}{vs:List V}(sg:aq G H)(tb:b9 W G H)(l:ah W G as vs)(hn:as.length<=N.length):SR W H (as.map .val++List.replicate (N.length-as.length) .no) (start N vs) G H:=by
 have hl:=l.length
 unfold L2.start;refine⟨by simp;omega,sg,fS.refl _,λi s e=>?_,λi j p q a e1 _ _ _=>?_,tb,tb⟩
 ·by_cases hi:i<as.length
  ·rw [zzr (by simpa using hi),zzQ] at e;obtain⟨p,hp,rfl⟩:=zzJ.mp e
   obtain⟨v,hv,rv⟩:=l.nt hp
   exact⟨some v,by rw [zzr (by simpa using (show i<vs.length by omega)),zzQ,hv];rfl,v,rfl,rv⟩
  ·rw [zzs (by simpa using hi),List.getElem?_replicate] at e;split at e
   ·rename_i h2;cases e;rw [zzl] at h2;exact⟨none,by rw [zzs (by simp;omega),List.getElem?_replicate,if_pos (by rw [zzl];omega)],trivial⟩
   ·cases e
 ·exfalso
  by_cases hi:i<as.length
  ·rw [zzr (by simpa using hi),zzQ] at e1;obtain⟨p,hp,e⟩:=zzJ.mp e1
   cases e
  ·rw [zzs (by simpa using hi),List.getElem?_replicate] at e1;split at e1<;>cases e1
def SR.Hf{H0 G H:Hp}{env:Sl}{σ:St}{g:Str}{idx:List Nat}{c8:List PV}{v:V}(i:Nat)(r:SR W H0 env σ G H)(h:vn W G g idx c8 v):SR W H0 (env.set i (.fn g idx c8)) (σ.set i (some v)) G H where
 len:=by simpa using r.len
 sub:=r.sub
 base:=r.base
 tab:=r.tab
 iq:=r.iq
 slot:=λj s e=>by
  by_cases hj:i=j
  ·subst hj;have bU:i<env.length:=by
    have:=(zzH.mp e).1
    simpa using this
   rw [zzo bU] at e;cases e;exact⟨some v,zzo (by rw [<-r.len];exact bU),v,rfl,h⟩
  ·rw [zzS hj] at e;obtain⟨o,h1,h2⟩:=r.slot j s e
   exact⟨o,by rw [zzS hj];exact h1,h2⟩
 apart:=λa b q q' ad e1 e2 e3 e4=>by
  have ne:∀{c:Nat} {q:PV},(env.set i (.fn g idx c8))[c]?=some (.own q)->i≠c:=λ{c q} e z=>by
   subst z;have bU:i<env.length:=by
    have:=(zzH.mp e).1
    simpa using this
   rw [zzo bU] at e;cases e
  have n1:=ne e1
  have n2:=ne e2
  rw [zzS n1] at e1 e3;rw [zzS n2] at e2 e4;exact r.apart a b q q' ad e1 e2 e3 e4
def rZ{α:Type}{l r:List α}{a b:α}:(l++a::r).set l.length b=l++b::r:=by
 rw [List.set_append_right _ _ (zzE _),Nat.sub_self];rfl
def vc{d:Def}{H G:Hp}{as:List PV}{vs:List V}(Pu:d.np<=d.N.length)(sg:aq G H)(tb:b9 W G H)(l:wY W G d.nZ as vs)(hv:vs.length=d.np):cE d as=true/\SR W H (cB d as) (start d.N vs) G H:=by
 unfold cE cB;cases hc:d.nZ with
 |none=>
  rw [hc] at l;have l:ah W G as vs:=l
  exact⟨by rw [<-l.length,hv];simp,pR sg tb l (by rw [<-l.length,hv];exact Pu)⟩
 |some q=>
  rw [hc] at l;obtain⟨sA,c8,yN,v,rfl,rfl,l1,cr⟩:=l
  have Oc:=l1.length
  have hn:yN.length=d.np-1/\0<d.np:=by rw [zzM] at hv;simp at hv;omega
  have ha:sA.length=d.np-1:=by omega
  refine⟨by simp;omega,?_⟩;have h0:=pR (N:=d.N) sg tb l1 (by omega)
  have h1:=h0.Hf sA.length cr
  have e1:(sA.map Slot.val++List.replicate (d.N.length-sA.length) Slot.no).set sA.length (.fn q.1 q.2 c8)=((sA++c8).take (d.np-1)).map .val++.fn q.1 q.2 ((sA++c8).drop (d.np-1))::List.replicate (d.N.length-d.np) Slot.no:=by
   rw [<-ha,List.take_left',List.drop_left',show d.N.length-sA.length=(d.N.length-d.np)+1 by omega,List.replicate_succ]
   ·have:=rZ (l:=sA.map Slot.val) (r:=List.replicate (d.N.length-d.np) Slot.no) (a:=Slot.no) (b:=.fn q.1 q.2 c8)
    rw [zzl] at this;exact this
   ·rfl
   ·rfl
  have e2:(start d.N yN).set sA.length (some v)=start d.N (yN++[v]):=by
   unfold L2.start;rw [zzM,List.length_singleton,show d.N.length-yN.length=(d.N.length-(yN.length+1))+1 by omega,List.replicate_succ,<-Oc];have:=rZ (l:=yN.map some) (r:=List.replicate (d.N.length-(yN.length+1)) none) (a:=none) (b:=some v)
   rw [zzl] at this;rw [this];simp
  rw [e1,e2] at h1;exact h1
def B0(M:qm K mg Γ W)(KB:K.In base){F:aO}{k:Nat}{n nf:Str}{d:Def}{st:Stmt}{fa:Addr}{fd:FuncData}(St:bT Γ n d st)(Fu:Jm K n n st fa fd)(hF:∀f,Γ.fs.contains f=true->gW P w K mg base W F k f)(hH:∀q∈Γ.hs,CC P w K mg base W F k q)(hQ:∀f,Γ.qs.contains f=true->2<=k/\gW P w K mg base W F 2 f)(hk:Γ.qt=false->2<=k)(hA:∀g as,F g as≠.bad->Γ.fs.contains g=true\/fJ g=true)
 (hL:Γ.hl=true->∃c p,fd.code=.ref c/\ib K c p/\(p,u9 n)∈W.ts/\∀q',(p,q')∈W.ts->q'=u9 n):
 fq P w K mg base (fw P w) (k+2) fa fd (d.N.take d.np) (xi W (λ_ as=>au F d as) nf (d.N.take d.np).length d.nZ):=by
 have hlen:(d.N.take d.np).length=d.np:=by rw [List.length_take];have:=St.np;omega
 obtain⟨oc,od,kV,doc,pm,an,d9,ct,rk,rfl,lk,v7⟩:=Fu.ex
 refine GN lk v7 St.sc (λvs H Q E h=>h.1) λA outer s H vs Q E hr h=>?_
 obtain⟨hl,G,as,sg,tb,l,o⟩:=h
 rw [hlen] at hl;obtain⟨ar,sr⟩:=vc St.np sg tb l hl
 have CS:=Ed (outer:=outer) (s:=s) (H:=H) (E:=E) M KB St.sc hF hH hQ hk hA hL hr
 refine⟨Ms W F H E d.body,(by
  cases hz:Γ.qt with
  |false=>exact lF CS hz d.body _ St.Nr
  |true=>exact rK CS d.body _ (by have:=St.Oj;rw [hz] at this;exact this) St.Nr),G,cB d as,sr,?_⟩
 dsimp only at o;unfold au at o;rw [if_pos ar] at o;cases r:aF F d.body (cB d as) with
 |bad=>rw [r] at o;exact o
 |exc c=>rw [r] at o;exact o
 |ok fl=>
  rw [r] at o;cases fl with
  |nx env=>exact λσ' G' H' sr g=>o .aI G' H' g .n
  |rt p=>exact λv G' H' rv g=>o v G' H' g rv
  |bk env=>exact o.elim
  |ct env=>exact o.elim
def AllK(K:zz8)(ts:List (Addr×Str))(Γ:Pg):dt->Prop
 |[]=>True
 |r::l=>vT K ts r.hl r.h r.st/\bT (Γ.at l r.hl) r.h r.d r.st/\((l.map (·.f)).contains r.f=false/\(r.d.nZ.isNone==!fJ r.f)=true/\(r.d.nZ.isNone=true->r.f=r.h))/\AllK K ts Γ l
def sf(M:qm K mg Γ W)(l:dt)(hl:Bool):qm K mg (Γ.at l hl) W:=⟨M.hK,M.hm,M.gs,M.bs,M.JE,M.cls,M.xc,M.xs,M.rm,M.JD,M.bm⟩
def gW.mono{F:aO}{j k:Nat}{f:Str}(h:gW P w K mg base W F j f)(hk:j<=k):gW P w K mg base W F k f:=by
 obtain⟨fa,fd,ps,h1,h2⟩:=h.ex
 exact⟨fa,fd,ps,h1.mono hk,h2⟩
def jX{F F':aO}{f f':Str}{n:Nat}{q:Option (Str×List Nat)}(e:∀as,F' f' as=F f as):xi W F' f' n q=xi W F f n q:=by
 funext vs H Q E
 unfold xi;simp! [e]
def gW.swap{F F':aO}{k:Nat}{f:Str}(h:gW P w K mg base W F k f)(e:∀as,F' f as=F f as):gW P w K mg base W F' k f:=by
 obtain⟨fa,fd,ps,h1,h2,h3,h4,h5⟩:=h.ex
 refine⟨fa,fd,ps,?_,h2,h3,h4,λas hn=>h5 as (by rw [<-e];exact hn)⟩
 rw [jX e];exact h1
def CC.swap{F F':aO}{j k:Nat}{q:Hs}(h:CC P w K mg base W F j q)(hk:j<=k)(e:∀as,F' q.f as=F q.f as):CC P w K mg base W F' k q:=by
 obtain⟨fa,fd,ps,h1,h2,h3,h4,h5⟩:=h.ex
 refine⟨fa,fd,ps,?_,h2,h3,h4,h5⟩;rw [jX e];exact h1.mono hk
def gC{r:Row}{l:dt}{g:Str}(h:(g==r.f)=false)(as:List PV):den (tab (r::l)) g as=den (tab l) g as:=by
 show(if(g==r.f)=true then _ else _)=_
 rw [h]
 rfl
def oJ{r:Row}{l:dt}(as:List PV):den (tab (r::l)) r.f as=au (den (tab l)) r.d as:=by
 show(if(r.f==r.f)=true then _ else _)=_
 rw [beq_self_eq_true]
 rfl
theorem nT:∀(l:dt) {ts:List (Addr×Str)},AllK K ts Γ l->∀g as,den (tab l) g as≠.bad->(ir l).contains g=true\/fJ g=true
 |[],_,_,g,as,h=>absurd rfl h
 |r::l,ts,⟨_,_,⟨_,hn,_⟩,hr⟩,g,as,h=>by
  by_cases e:(g==r.f)=true
  ·have e2:=zzy.mp e
   subst e2;cases hc:r.d.nZ with
   |none=>
    left
    unfold ir;rw [List.filterMap_cons,hc];simp
   |some q=>
    right
    rw [hc] at hn
    simpa using hn
  ·rw [gC (by simpa using e)] at h;rcases nT l hr g as h with z|z
   ·left
    unfold ir at z⊢;rw [List.filterMap_cons];split
    ·exact z
    ·rw [List.contains_cons,z,Bool.or_true]
   ·exact .inr z
def eZ:∀{l:dt} {f:Str},(jg l).contains f=true->l≠[]/\(ir l).contains f=true:=by
 intro l f h;unfold jg at h;cases e:l.getLast? with
 |none=>rw [e] at h;cases h
 |some r=>
  rw [e] at h;have hm:=List.mem_of_getLast? e
  refine⟨λz=>(by rw [z] at hm;cases hm),?_⟩
  dsimp only at h;split at h
  ·rename_i hc;have hf:f=r.f:=by simpa using h
   rw [zzn,hf];exact zz1.mpr ⟨r,hm,if_pos hc⟩
  ·cases h
theorem xN(M:qm K mg Γ W)(KB:K.In base)(G:base.Ns mainGlobals mg):∀(l:dt),AllK K W.ts Γ l->(∀f,(ir l).contains f=true->gW P w K mg base W (den (tab l)) (2*l.length) f)/\(∀q∈um l,CC P w K mg base W (den (tab l)) (2*l.length) q)/\∀f,(jg l).contains f=true->gW P w K mg base W (den (tab l)) 2 f
 |[],_=>⟨λf hf=>by simp [ir] at hf,λq hq=>by simp [um] at hq,λf hf=>absurd rfl (eZ hf).1⟩
 |r::l,hall=>by
  obtain⟨he,hs,⟨hfr,hnm,hfh⟩,hr⟩:=hall
  obtain⟨ih,ihH,ihQ⟩:=xN M KB G l hr
  have ne2:l≠[]->2<=2*l.length:=λz=>by have:=List.length_pos_iff.mpr z;omega
  obtain⟨fa,oc,od,kV,doc,pm,an,d9,ct,rk,e1,e2,e3,e4,e5⟩:=he
  have Fu:=yG (st:=r.st) e2 e3 e4
  have ok:=B0 (P:=P) (w:=w) (nf:=r.f) (sf M l r.hl) KB (k:=2*l.length) hs Fu (λg hg=>ih g hg) (λq hq=>ihH q hq) (λf hf=>⟨ne2 (eZ hf).1,ihQ f hf⟩) (λz=>ne2 λy=>by subst y;cases z) (nT l hr) e5
  have jb:∀g,(l.map (·.f)).contains g=true->(g==r.f)=false:=λg hg=>by
   cases z:g==r.f with
   |false=>rfl
   |true=>rw [zzy.mp z,hfr] at hg;cases hg
  have sp:xi W (λ_ as=>au (den (tab l)) r.d as) r.f (r.d.N.take r.d.np).length r.d.nZ=xi W (den (tab (r::l))) r.f (r.d.N.take r.d.np).length r.d.nZ:=jX λas=>(oJ as).symm
  rw [sp] at ok;have hlen:(r.d.N.take r.d.np).length=r.d.np:=by rw [List.length_take];have:=hs.np;omega
  have ml:∀f,(ir l).contains f=true->(l.map (·.f)).contains f=true:=λf hf=>by
   rw [zzn] at hf⊢;unfold ir at hf;obtain⟨x,hx,e⟩:=zz1.mp hf
   split at e
   ·cases e;exact List.mem_map_of_mem (f:=(·.f)) hx
   ·cases e
  have main:∀f,(ir (r::l)).contains f=true->gW P w K mg base W (den (tab (r::l))) (2*(r::l).length) f:=λf hf=>by
   by_cases r8:(f==r.f)=true/\r.d.nZ=none
   ·obtain⟨h1,h2⟩:=r8
    have e:=zzy.mp h1
    subst e;refine⟨fa,_,r.d.N.take r.d.np,by rw [h2] at ok;exact ok,?_,e4,Fu.binds hs.bind,λas hn=>?_⟩
    ·rw [hfh (by rw [h2];rfl)];exact PySem.W.mg_of KB G e1
    ·rw [oJ] at hn;unfold au at hn
     by_cases ha:cE r.d as=true
     ·unfold cE at ha;rw [h2] at ha;rw [hlen];exact zzy.mp ha
     ·rw [if_neg ha] at hn;exact absurd rfl hn
   ·have NK:(ir l).contains f=true:=by
     unfold ir at hf⊢;rw [List.filterMap_cons] at hf;split at hf
     ·exact hf
     ·rename_i y hy;split at hy
      ·rename_i hc;cases hy;rw [List.contains_cons,zzt] at hf;rcases hf with z|z
       ·exact absurd ⟨z,Option.isNone_iff_eq_none.mp hc⟩ r8
       ·exact z
      ·cases hy
    exact((ih f NK).mono (by rw [zzL];omega)).swap λas=>gC (jb f (ml f NK)) as
  refine⟨main,λq hq=>?_,λf hf=>?_⟩
  rotate_left
  ·cases l with
   |nil=>exact main f (eZ hf).2
   |cons x l'=>
    have e:jg (r::x::l')=jg (x::l'):=by unfold jg;rw [List.getLast?_cons_cons]
    rw [e] at hf;exact(ihQ f hf).swap λas=>gC (jb f (ml f (eZ hf).2)) as
  ·unfold um at hq;rw [List.filterMap_cons] at hq;have tail:q∈um l->CC P w K mg base W (den (tab (r::l))) (2*(r::l).length) q:=λhq=>by
    refine(ihH q hq).swap (by rw [zzL];omega) λas=>gC (jb q.f ?_) as
    unfold um at hq;obtain⟨x,hx,e⟩:=zz1.mp hq
    obtain⟨y,_,rfl⟩:=zzJ.mp e
    rw [zzn];exact List.mem_map_of_mem (f:=(·.f)) hx
   cases hc:r.d.nZ with
   |none=>rw [hc] at hq;exact tail hq
   |some y=>
    rw [hc] at hq;rcases zzm.mp hq with z|z
    ·subst z;rw [hc] at ok;exact⟨fa,_,r.d.N.take r.d.np,ok,PySem.W.mg_of KB G e1,e4,Fu.binds hs.bind,hlen⟩
    ·exact tail z
end
end Ci
namespace L2
open PySem PySem.Spec PyProof.Rows
def uU{P:Program}{w:World}{K:zz8}{mg mb:Str->Option Value}{CX:vH}{k:Nat}{fa a:Addr}{fd:FuncData}{x:Str}{sp:Sp}{s₁:Shared}{vs:List Value}{ns:List Int}(kL:List Addr)
 (KX:K.In s₁.heap) (Nd:s₁.heap.Ns mainGlobals mg) (hb:s₁.heap.Ns builtinsNs mb) (Pn:∀x:Str,x≠"__name__"->mb x=bootBuiltins x) (Ew:s₁.heap.NoLimit) (hg:s₁.gens=#[])
 (hT:∀p∈kL,s₁.heap.get? p=some (PySem.W.tabObj #[])) (hC:∀p∈kL,∃c,Ci.ib K c p) (Pq:∀p∈kL,K.lookup p=none)
 (ha:s₁.heap.get? a=some {cls:=.type "list",data:=.seq vs.toArray}) (hi:IntsAre vs ns) (hl:ns.length<=sizeLine) (hr:dv k callerA)
 (F:∀base:Heap,K.In base->base.Ns mainGlobals mg->fq P w K mg base CX k fa fd [x] sp) (Il:∀(s:Shared) (u:Value),BindsTo s fd ⟨[u],[]⟩ [(x,u)])
 (F4:∀H:Hp,(∀p∈kL,H p=some (.fh #[]))->Ci.nX K H a (ns.map V.int)->sp [.ref a] H (λv _=>v=.bl true) λ_ _ _=>False)
 (LO:∀H e s',CX [] H s₁ (λ_ _ _=>False) e s'->False):
 codeAny (model P w) callerA (.call (.ref fa) ⟨[.ref a],[]⟩) (λr s'=>r=.ok (.ret (.bool true))/\OldK s₁.heap s'.heap/\s'.os=s₁.os/\AllBare s'.gens) s₁:=by
 have rv:=lR hi
 have Hw:=hi.length
 have aT:a∉kL:=λz=>by have:=hT a z;rw [ha] at this;cases this
 have core:∀H:Hp,(∀p∈kL,H p=some (.fh #[]))->Ci.nX K H a (ns.map V.int)->fK P w H s₁.heap->(∀b,H b≠none->b∈kL\/b=a/\∃o xs,H b=some (.cV o xs))->(H a≠none->K.lookup a=none)->
  codeAny (model P w) callerA (.call (.ref fa) ⟨[.ref a],[]⟩) (λr s'=>r=.ok (.ret (.bool true))/\OldK s₁.heap s'.heap/\s'.os=s₁.os/\AllBare s'.gens) s₁:=by
  intro H hO hS aU hA hK;have tv:∀{b:Addr} {o:Obj},s₁.heap.get? b=some o->H b=none->(nu s₁.heap H).get? b=some o:=λe n=>ya e n
  have IB:∀{b:Addr} {o:Obj} {es:Array DictEntry} {ep:Nat},s₁.heap.get? b=some o->o.data=.dict es ep->H b=none:=λ{b o es ep} e d=>by
   cases q:H b with
   |none=>rfl
   |some u=>
    rcases hA b (by rw [q];simp) with z|⟨z,_⟩
    ·rw [hT b z] at e;cases e;cases d
    ·subst z;rw [ha] at e;cases e;have d':Data.seq vs.toArray _=Data.dict es ep:=d
     cases d'
  have JP:∀{b:Addr} {m:Str->Option Value},s₁.heap.Ns b m->(nu s₁.heap H).Ns b m:=λ{b m} ⟨o,es,ep,e,d,r⟩=>⟨o,es,ep,tv e (IB e d),d,r⟩
  have MW:K.In (nu s₁.heap H):=λb o e=>tv (KX b o e) (by
   cases q:H b with
   |none=>rfl
   |some u=>
    rcases hA b (by rw [q];simp) with z|⟨z,_⟩
    ·rw [Pq b z] at e;cases e
    ·subst z;rw [hK (by rw [q];simp)] at e;cases e)
  have hM:Mod K mg (nu s₁.heap H):=⟨MW,JP Nd,⟨mb,JP hb,Pn⟩,let⟨mc,h1,h2⟩:=Ew;⟨mc,JP h1,h2⟩⟩
  have e0:Ac P w K mg (nu s₁.heap H) callerA [] s₁ H:=⟨rfl,hM,λb o e=>zF e,Nat.le_of_eq (uB _ _),trivial,λb hb=>absurd (show b∈([]:List Addr) from hb) (by simp),aU,.of_eq hg⟩
  refine codeAny_mono ((F _ MW (JP Nd)).run callerA [] s₁ H ⟨[.ref a],[]⟩ [.ref a] [.ref a] _ _ hr e0 (Il s₁ (.ref a)) (.cons rfl .nil) (F4 H hO hS)) λr s' h=>?_
  cases r with
  |error e=>exact(LO H e s' h).elim
  |ok fl=>
   cases fl with
   |next=>exact zzk h
   |brk=>exact zzk h
   |cont=>exact zzk h
   |ret u=>
    obtain⟨v,H',os,bare,un,zA,r',q⟩:=h
    have q':v=.bl true:=q
    subst q';obtain rfl:u=Value.bool true:=r'
    have key:∀b o,s₁.heap.get? b=some o->s'.heap.get? b=some o\/b∈kL/\∃m,s'.heap.get? b=some (PySem.W.tabObj m):=λb o e=>by
     cases q:H b with
     |none=>exact .inl (un.keep b o e q (by intro z;exact absurd (show b∈([]:List Addr) from z) (by simp)) (by simp))
     |some u=>
      rcases hA b (by rw [q];simp) with z|⟨z,ob,xs,z2⟩
      ·right
       obtain⟨m,hm⟩:=un.g7 b _ (hO b z)
       exact⟨z,_,zA b _ hm⟩
      ·left
       have z3:=un.gL b ob _ z2
       obtain⟨e1,_⟩:=aU b _ z2
       obtain⟨e2,_⟩:=zA b _ z3
       rw [e] at e1;cases e1;exact e2
    refine⟨rfl,⟨λb o e=>?_,λb o e=>?_⟩,os,bare⟩
    ·rcases key b o e with z|⟨z,m,z2⟩
     ·exact .inl z
     ·have e':=hT b z
      rw [e] at e';cases e';obtain⟨c,o',vs',_,_,_,_,_,_,_,k1,k2,k3,k4,_⟩:=hC b z
      have tb:s₁.heap.TableAt c b #[]:=⟨⟨o',vs',KX _ _ k1,k2,k3,k4⟩,e⟩
      exact .inr (.inl ⟨tb.isCodeTable,rfl,#[],m,rfl,by rw [z2];simp⟩)
    ·rcases key b o e with z|⟨_,m,z⟩
     ·exact⟨_,z⟩
     ·exact⟨_,z⟩
 cases hk:K.lookup a with
 |some o=>
  have e:=KX a o hk
  rw [ha] at e;cases e;refine core (λb=>if b∈kL then some (.fh #[]) else none) (λp hp=>if_pos hp) (.inr ⟨vs.toArray,_,hk,by rw [zzC,Hw];exact hl,by simpa using rv⟩) (λb u z=>?_) (λb z=>?_) λz=>absurd (if_neg aT) z
  ·by_cases hb:b∈kL
   ·have z':=(if_pos hb).symm.trans z
    cases z';exact hT b hb
   ·have z':=(if_neg hb).symm.trans z
    cases z'
  ·by_cases hb:b∈kL
   ·exact .inl hb
   ·exact absurd (if_neg hb) z
 |none=>
  refine core (λb=>if b=a then some (.cV {cls:=.type "list",data:=.seq vs.toArray} (.lst (ns.map V.int))) else if b∈kL then some (.fh #[]) else none) (λp hp=>?_) (.inl (.inr ⟨{cls:=.type "list",data:=.seq vs.toArray},if_pos rfl⟩)) (λb u z=>?_) (λb z=>?_) λ_=>hk
  ·show(if p=a then _ else _)=_
   rw [if_neg (show¬p=a from λz=>aT (by rw [<-z];exact hp)),if_pos hp]
  ·by_cases hb:b=a
   ·have z':=(if_pos hb).symm.trans z
    cases z';subst hb;exact⟨ha,by rw [zzl];exact hl,vs,_,rv,ha⟩
   ·replace z:=(if_neg hb).symm.trans z
    by_cases hc:b∈kL
    ·have z':=(if_pos hc).symm.trans z
     cases z';exact hT b hc
    ·have z':=(if_neg hc).symm.trans z
     cases z'
  ·by_cases hb:b=a
   ·exact .inr ⟨hb,_,_,if_pos hb⟩
   ·by_cases hc:b∈kL
    ·exact .inl hc
    ·exact absurd ((if_neg hb).trans (if_neg hc)) z
def Fo{l:PySem.W.OpenLaw}{n k:Nat}{q:Program}{loose:List Str}{XP:(Str->Option Value)->Heap->Prop}{YP:World->Heap->Prop}{d:DefRec}{K:Params->zz8}{CX:World->vH}{sp:World->Sp}{x:Str}(kL:List Addr)
 (hn:l.most=some n) (pC:n<=sizeLine) (IJ:d.params.defaults=[]) (hr:dv k callerA)
 (hY:∀(w:World) (h:Heap),YP w h->(K w.params).In h/\∀p∈kL,h.get? p=some (PySem.W.tabObj #[])) (hC:∀(w:World),∀p∈kL,(∃c,Ci.ib (K w.params) c p)/\(K w.params).lookup p=none)
 (F:∀(w:World) (mg:Str->Option Value) (fa:Addr) (h:Heap),(K w.params).In h->h.Ns mainGlobals mg->mg d.name=some (.ref fa)->
  ∃fd:FuncData,(∀(s:Shared) (u:Value),BindsTo s fd ⟨[u],[]⟩ [(x,u)])/\
   ∀base:Heap,(K w.params).In base->base.Ns mainGlobals mg->fq l.prog w (K w.params) mg base (CX w) k fa fd [x] (sp w))
 (F4:∀(w:World) (H:Hp) (a:Addr) (ns:List Int),ns.length<=n->(∀p∈kL,H p=some (.fh #[]))->Ci.nX (K w.params) H a (ns.map V.int)->sp w [.ref a] H (λv _=>v=.bl true) λ_ _ _=>False)
 (LO:∀(w:World) (H:Hp) (s:Shared) (e:Value) (s':Shared),CX w [] H s (λ_ _ _=>False) e s'->False):
 PySem.W.WalkO q loose XP YP l.row.toRowW d [] (λf vs=>PySem.call f vs):=by
 refine Att.oP hn IJ λw s₀ s₁ mg mb fa o pm cd doc a vs ns G Y ho hd v7 hmg hobj hints hlen hg=>?_
 obtain⟨KX,hT⟩:=hY w _ Y
 obtain⟨fd,hb,hF⟩:=F w mg fa _ KX G.T.g hmg
 exact uU kL KX G.T.g G.T.b G.T.builtins G.T.nolimit hg hT (λp hp=>(hC w p hp).1) (λp hp=>(hC w p hp).2) hobj hints (zzU hlen pC) hr hF hb (λH hO hS=>F4 w H a ns hlen hO hS) λH e s'=>LO w H s₁ e s'
end L2
namespace Ci
open PySem L2
theorem j1{W:Wd}{G:Hp}:∀(ns:List Int),ah W G (ns.map PV.int) (ns.map V.int)
 |[]=>.nil
 |n::ns=>.cons .i (j1 ns)
noncomputable def lD(H:Hp):Hp:=λb=>match H b with
 |some (.fh _)=>none
 |o=>o
def qx(H:Hp):aq (lD H) H:=λb o e=>by
 unfold lD at e;split at e
 ·cases e
 ·exact e
def ox{H:Hp}{b:Addr}{o:HO}(h:H b=some o)(n:∀ps,o≠.fh ps):lD H b=some o:=by
 unfold lD;rw [h];cases o with
 |fh ps=>exact absurd rfl (n ps)
 |_=>rfl
noncomputable def GK(K:zz8)(kL:List Addr):Sp:=λvs H Q _=>∃(a:Addr) (ns:List Int),vs=[.ref a]/\(∀p∈kL,H p=some (.fh #[]))/\nX K H a (ns.map V.int)/\ns.length<=63/\∀H',Q (.bl true) H'
def walk{l:PySem.W.OpenLaw}{q:Program}{loose:List Str}{XP:(Str->Option Value)->Heap->Prop}{YP:World->Heap->Prop}{d:DefRec}{K:Params->zz8}(rest:dt)(Γ:Pg)(x:Str)(dl:Def)(xs:List Str)(ts:List (Addr×Str))(st:Stmt)(Kk:Bool)
 (hx:dl.N.take dl.np=[x]) (B7:dl.nZ=none) (OB:d.name="law") (hn:l.most=some 63) (IJ:d.params.defaults=[]) (hr:dv (2*rest.length+2) callerA) (hY:∀(w:World) (h:Heap),YP w h->(K w.params).In h/\∀p∈ts.map (·.1),h.get? p=some (PySem.W.tabObj #[]))
 (hC:∀(w:World),∀p∈ts.map (·.1),(∃c,ib (K w.params) c p)/\(K w.params).lookup p=none)
 (hM:∀(w:World) (mg:Str->Option Value) (h:Heap),(K w.params).In h->h.Ns mainGlobals mg->qm (K w.params) mg Γ ⟨K w.params,mg,xs,ts⟩)
 (hE:∀w:World,vT (K w.params) ts Kk "law" st) (hS:bT (Γ.at rest Kk) "law" dl st) (c9:rest≠[])
 (hA:∀w:World,AllK (K w.params) ts Γ rest)
 (Kc:∀ns:List Int,ns.length<=63->au (den (tab rest)) dl [.lst (ns.map .int)]=.ok (.bl true)):
 PySem.W.WalkO q loose XP YP l.row.toRowW d [] (λf vs=>PySem.call f vs):=by
 refine L2.Fo (n:=63) (k:=2*rest.length+2) (x:=x) (CX:=λw=>fw l.prog w) (sp:=λw=>GK (K w.params) (ts.map (·.1))) (ts.map (·.1)) hn (by decide) IJ hr hY hC ?_ ?_ ?_
 ·intro w mg fa h KX G hmg;rw [OB] at hmg;obtain⟨f,oc,od,kV,doc,pm,an,d9,ct,rk,e1,e2,e3,e4,e5⟩:=hE w
  have hf:fa=f:=by
   have z:=hmg.symm.trans (PySem.W.mg_of KX G e1)
   cases z
   rfl
  subst hf;refine⟨PySem.W.fnOf "law" "law" (cq st) (bM st) (aC st) .none kV doc pm an d9 ct,λs u=>?_,λbase KB GB=>?_⟩
  ·have hb:=hS.bind kV doc pm an d9 ct [u]
   rw [hx] at hb;exact .of_eq (hb rfl)
  ·have M:=hM w mg base KB GB
   have ne2:2<=2*rest.length:=by have:=List.length_pos_iff.mpr c9;omega
   obtain⟨a1,a2,a3⟩:=xN (P:=l.prog) (w:=w) M KB GB rest (hA w)
   have ok:=B0 (P:=l.prog) (w:=w) (nf:="law") (sf M rest Kk) KB (k:=2*rest.length) hS (yG (st:=st) e2 e3 e4) (λg hg=>a1 g hg) (λq hq=>a2 q hq) (λf hf=>⟨ne2,a3 f hf⟩) (λ_=>ne2) (nT rest (hA w)) e5
   rw [hx] at ok;refine ok.imp λvs H Q E h=>?_
   obtain⟨a,ns,rfl,ht,hl,hlen,q⟩:=h
   refine⟨rfl,lD H,[.lst (ns.map .int)],qx H,λP q m=>?_,?_,?_⟩
   ·have hP:=ht P (List.mem_map_of_mem (f:=(·.1)) m)
    refine⟨by unfold lD;rw [hP],#[],hP,trivial,λpos cv e=>nomatch e⟩
   ·rw [B7];refine ah.cons (.l ?_ (j1 ns)) .nil;rcases hl with(h|⟨o,h⟩)|h
    ·exact .inl (.inl (ox h (λ_ z=>nomatch z)))
    ·exact .inl (.inr ⟨o,ox h (λ_ z=>nomatch z)⟩)
    ·exact .inr h
   ·dsimp only;rw [Kc ns hlen];intro v G' H' _ rv;simp! [Rep] at rv;subst rv;exact q H'
 ·intro w H a ns hlen hO GD;exact⟨a,ns,rfl,hO,GD,hlen,λ_=>rfl⟩
 ·intro w H s e s' h;obtain⟨a,C,t,vs,H',B,rfl,F⟩:=h
  exact F.ends
end Ci
namespace Hd
open PySem PySem.W PySem.Calls
noncomputable def Ex(st:SharedT->Thread->Option (SharedT×Thread))(ok:Thread->Bool)(n:Nat):SharedT->Thread->Option SharedT:=
 @Nat.rec (λ_=>SharedT->Thread->Option SharedT) (λ_ _=>none) (λ_ ih s t=>match through t with
  |true=>some s
  |false=>match ok t with
   |false=>none
   |true=>match st s t with
    |some (s',t')=>ih s' t'
    |none=>none) n
theorem lG{tb:String->Option Builtin}{p:Program}{w:World}{n₀:Nat}{ann:Option Value}:∀{n:Nat} {s s':SharedT} {t:Thread},Ex (stepT (denote tb) p w) (stepOk n₀ ann) n s t=some s'->topRun tb p w n₀ ann n s.abs t=some s'.abs
 |0,_,_,_,h=>by cases h
 |n+1,s,s',t,h=>by
  have h:(match through t with
   |true=>some s
   |false=>match stepOk n₀ ann t with
    |false=>none
    |true=>match stepT (denote tb) p w s t with
     |some (s',t')=>Ex (stepT (denote tb) p w) (stepOk n₀ ann) n s' t'
     |none=>none)=some s':=h
  unfold topRun;cases ht:through t with
  |true=>rw [ht] at h;cases h;rfl
  |false=>
   rw [ht] at h;cases hk:stepOk n₀ ann t with
   |false=>rw [hk] at h;cases h
   |true=>
    rw [hk] at h;cases hs:stepT (denote tb) p w s t with
    |none=>rw [hs] at h;cases h
    |some r=>obtain⟨s₂,t₂⟩:=r;rw [hs] at h;rw [stepT_spec hs];exact lG h
noncomputable def treeOf(l:List Obj):BT:=(l.foldl (λ(T,i) o=>(BT.ins T i o,i+1)) (BT.nil,0)).1
def Bd{p q:Program}{loose:List Str}{Xt:Shared->Bool}{α:Type}{Yf:Shared->α}{Ya:World->α}{N:Nat}{g0:Bool}{T₀:Params->BT}{life:Life}{m₀:Nat}{ann:Option Value}{M:Nat}
 (e:opening p=plainProg p.main.scope.names) (hN:Nat.ble 600 N=true) (f:∀s,fenceModules? p s=some s)
 (e0:∀P:Params,absHeap (T₀ P) m₀ life=boot_heap P)
 (size:∀w:World,((boot_heap w.params).isNs mainGlobals,(boot_heap w.params).nsMap mainGlobals "__annotations__")=(true,ann))
 (le:Nat.ble M N=true)
 (run:∀(w:World) (os:OsState),(Ex (stepT (denote treeTable) p w) (stepOk m₀ ann) M ⟨T₀ w.params,m₀,life,Array.mk [],boot_drawn,boot_toks,os⟩ (topStub p)).map (λs=>
  ((staticsOk (importedModules p.main.body) (boot_heap w.params) s.abs.heap&&namesBound p s.abs.heap&&gensDone s.abs&&laidKept (boot_heap w.params) s.abs.heap),openSeen q loose (importedModules p.main.body) Xt g0 s.abs,Yf s.abs))
  =some (true,openGood q loose,Ya w)):LeftO p q loose Xt Yf Ya N g0:=λw=>by
 obtain⟨⟨h,gs,d,k,os⟩,e1,e'⟩:=zzJ.mp (boot_open e hN f w)
 obtain⟨rfl,rfl,rfl,rfl⟩:h=boot_heap w.params/\gs=Array.mk []/\d=boot_drawn/\k=boot_toks:=by simpa using e'
 obtain⟨z1,z3⟩:_/\_:=by simpa only [Prod.mk.injEq] using size w
 obtain⟨s,r,l⟩:=zzJ.mp (run w os)
 obtain⟨l1,l2,l3⟩:_/\_/\_:=by simpa only [Prod.mk.injEq] using l
 have r:=lG r
 have r:=topRun_mono (N-M) _ _ _ _ r
 rw [show M+(N-M)=N by have:=Nat.le_of_ble_eq_true le;omega] at r;have hs:(boot_heap w.params).objs.size=m₀:=by rw [<-e0 w.params];exact absHeap_size _ _ _
 have r:topRun treeTable p w m₀ ann N ⟨boot_heap w.params,Array.mk [],boot_drawn,boot_toks,os⟩ (topStub p)=some s.abs:=by
  have:(⟨T₀ w.params,m₀,life,Array.mk [],boot_drawn,boot_toks,os⟩:SharedT).abs=⟨boot_heap w.params,Array.mk [],boot_drawn,boot_toks,os⟩:=by
   show Shared.mk _ _ _ _ _=_
   rw [show absHeap (T₀ w.params) m₀ life=boot_heap w.params from e0 w.params]
  rw [<-this];exact r
 have t:topFrom treeTable p w N ⟨boot_heap w.params,Array.mk [],boot_drawn,boot_toks,os⟩=some s.abs:=by
  unfold topFrom;dsimp only;rw [z1,z3,hs,r];show(match staticsOk (importedModules p.main.body) (boot_heap w.params) s.abs.heap&&namesBound p s.abs.heap&&gensDone s.abs&&laidKept (boot_heap w.params) s.abs.heap with|true=>_|false=>_)=_
  rw [l1]
 unfold openEnds;rw [e1];show(topFrom treeTable p w N _).map _=_
 rw [t];exact congrArg some (Prod.ext l2 l3)
end Hd
namespace Hd
open PySem PySem.W
def IL:∀P:Params,absHeap (treeOf (boot_heap P).objs.toList) 11 {}=boot_heap P:=λP=>by kernel_rfl
def HJ:∀w:World,((boot_heap w.params).isNs mainGlobals,(boot_heap w.params).nsMap mainGlobals "__annotations__")=(true,some (.ref 6)):=λw=>by kernel_rfl
noncomputable abbrev de(P:Params)(x:Str)(t:Tok)(v:Value):DictEntry:={hash:=PyData.keyHash P x,key:=.str x t,val:=v}
theorem holds{l:OpenLaw}{keep:List Nat}{K:Params->Frag}{as:List Addr}{d:DefRec}{N:Nat}(K9:l.wellSaid=true)
 (ka:∀P,as=(K P).map (·.1))
 (left:LeftO l.row.prog (view l.row.prog keep) [] (λs=>xlAt (view l.row.prog keep) [] s&&recOk l.row.toRowW.records s) (kHook K as ka).obs (kHook K as ka).val N)
 (LN:defOf (view l.row.prog keep) l.row.name=some (d,[])) (hp:l.row.prog.theDef l.row.name=some (d.params,d.body,d.scope)) (hk:kwWritten? d.params.kwonlyargs d.params.kw_defaults=some [])
 (ok:(chainsOk (view l.row.prog keep)&&opensWell l.row.prog&&(frees l.row.toRowW&&l.row.within.isEmpty))=true) (hb:l.row.prog.bare) (hw:l.row.toRowW.promised)
 (call:WalkO (view l.row.prog keep) [] (XL (view l.row.prog keep) []) (kHook K as ka).says l.row.toRowW d [] λf vs=>PySem.call f vs):l.Holds:=
 holds_law K9 λk1=>holds_open (N:=N) left (Hook.of (kHook K as ka)) (Hook.keeps (kHook K as ka)) (λs e=>xl_of s (Bool.and_eq_true_iff.mp e).1) XL.keeps LN hp hk (λs e=>recFacts_of (Bool.and_eq_true_iff.mp e).2) (by cases h:l.row.writes<;>rfl) k1 ok hb hw call
theorem rR{P:List Value->Prop}(h:∀a0,P [a0]):∀us:List Value,us.length=1->P us
 |[a0],_=>h a0
theorem vF{P:List Value->Prop}(h:∀a0 a1,P [a0,a1]):∀us:List Value,us.length=2->P us
 |[a0,a1],_=>h a0 a1
theorem ND{P:List Value->Prop}(h:∀a0 a1 a2,P [a0,a1,a2]):∀us:List Value,us.length=3->P us
 |[a0,a1,a2],_=>h a0 a1 a2
end Hd
namespace KJ
open PySem L2 Ci
theorem kH{α β:Type}{a:α}{f:α->Res β}:(Res.ok a).bind f=f a:=rfl
theorem H8{α:Type}{a:α}:(Res.ok a).well=.ok a:=rfl
theorem Gj{α:Type}{a:α}:Res.of (some a)=.ok a:=rfl
theorem F0{env:Sl}{k:Sl->Res Fl}:(Fl.nx env).seq k=k env:=rfl
theorem MY{p:PV}{k:Sl->Res Fl}:(Fl.rt p).seq k=.ok (.rt p):=rfl
theorem M1{env:Sl}{k:Sl->Res Fl}:(Fl.bk env).seq k=.ok (.bk env):=rfl
theorem sv{p:PV}:ou (some (.val p))=.ok p:=rfl
theorem NO{p:PV}:vW (some (.val p))=.ok p:=rfl
theorem N5{p:PV}:vW (some (.own p))=.ok p:=rfl
theorem ML{α:Type}{b:Bool}{f:Bool->Res α}:qB (.bl b) f=f b:=rfl
theorem BW{i j:Int}:binOp .add (.int i) (.int j)=.ok (.int (i+j)):=rfl
theorem Co{i j:Str}:binOp .add (.str i) (.str j)=if i.length+j.length<=bG then .ok (.str (i++j)) else .bad:=rfl
theorem Gp{i j:Int}:binOp .sub (.int i) (.int j)=.ok (.int (i-j)):=rfl
theorem Ga{i j:Int}:binOp .mul (.int i) (.int j)=if aG i||aG j then .ok (.int (i*j)) else .bad:=rfl
theorem HH{i j:Int}:binOp .mod (.int i) (.int j)=if 0<j then .ok (.int (i%j)) else .bad:=rfl
theorem Gn{i j:Int}:binOp .fdiv (.int i) (.int j)=if 0<j/\j<1073741824 then .ok (.int (i/j)) else .bad:=rfl
theorem M5:cN .eq=iA:=rfl
theorem M4:cN .ne=gG:=rfl
theorem Nt:cN .lt=pB:=rfl
theorem Nf:cN .le=oM:=rfl
theorem My:cN .A1=oy:=rfl
theorem HU:cN .II=lE:=rfl
theorem oLt{i j:Int}:pB (.int i) (.int j)=.ok (.bl (decide (i<j))):=rfl
theorem oLe{i j:Int}:oM (.int i) (.int j)=.ok (.bl (decide (i<=j))):=rfl
theorem lL{xs:List PV}:cw .len [.lst xs]=.ok (.int xs.length):=rfl
theorem lT{xs:List PV}:cw .len [.tup xs]=.ok (.int xs.length):=rfl
theorem lS{z:Str}:cw .len [.str z]=if z.length<=bG then .ok (.int z.length) else .bad:=rfl
theorem tL{xs:List PV}:cw .tuple [.lst xs]=.ok (.tup xs):=rfl
theorem aL{xs:List PV}:cw .all [.lst xs]=(Res.of (boolsOf xs)).bind λbs=>.ok (.bl (bs.all id)):=rfl
theorem Mu{i:Nat}{p:PV}{env:Sl}:(Tg.one i).put p env=.ok (env.set i (.val p)):=rfl
theorem Nk{i j:Nat}{a b:PV}{env:Sl}:(Tg.two i j).put (.tup [a,b]) env=.ok ((env.set i (.val a)).set j (.val b)):=rfl
theorem F8{p:PV}:mF (.own p)=.val p:=rfl
theorem jA{α:Type}{a:α}{as:List α}:(a::as).length=as.length+1:=rfl
theorem jB{α:Type}:([]:List α).length=0:=rfl
theorem jC{α β:Type}{f:α->β}{a:α}{l:List α}:(a::l).map f=f a::l.map f:=rfl
theorem jD{α β:Type}{f:α->β}:([]:List α).map f=[]:=rfl
theorem jE{α:Type}{a:α}{as bs:List α}:a::as++bs=a::(as++bs):=rfl
theorem jF{α:Type}{as:List α}:[]++as=as:=rfl
theorem jG{α:Type}{a:α}{l:List α}:(a::l)[0]?=some a:=rfl
theorem jH{α:Type}{a:α}{l:List α}{i:Nat}:(a::l)[i+1]?=l[i]?:=rfl
theorem jI{α:Type}{a b:α}{l:List α}:(a::l).set 0 b=b::l:=rfl
theorem jJ{α:Type}{a b:α}{l:List α}{i:Nat}:(a::l).set (i+1) b=a::l.set i b:=rfl
theorem jK{α:Type}{a d:α}{l:List α}:(a::l).getD 0 d=a:=rfl
theorem jL{α:Type}{a d:α}{l:List α}{i:Nat}:(a::l).getD (i+1) d=l.getD i d:=rfl
def jM{n:Nat}:0+n=n:=Nat.zero_add _
theorem jN:(!true)=false:=rfl
theorem jO:(!false)=true:=rfl
def jP:(false=true)=False:=zze
theorem iZ{e:E}{xs:List PV}:qp e (.lst xs)=.ok xs:=rfl
theorem MC{e:E}{xs:List PV}:qp e (.tup xs)=.ok xs:=rfl
theorem JN{xs:List PV}:itemsOf (.tup xs)=.ok xs:=rfl
theorem L3{xs:List PV}:itemsOf (.lst xs)=.ok xs:=rfl
theorem Je{z:Str}:itemsOf (.str z)=.ok (chars z):=rfl
theorem Ca{i j:List PV}:binOp .add (.tup i) (.tup j)=if i.length+j.length<=bG then .ok (.tup (i++j)) else .bad:=rfl
theorem jQ{α:Type}{f:α->α}{a:α}{l:List α}:(a::l).modify 0 f=f a::l:=rfl
def jR{α:Type}{f:α->α}{a:α}{l:List α}{i:Nat}:(a::l).modify (i+1) f=a::l.modify i f:=by simp
theorem jS{α:Type}{a:α}:List.replicate 0 a=[]:=id rfl
theorem jT{α:Type}{a:α}{n:Nat}:List.replicate (n+1) a=a::List.replicate n a:=id rfl
def jU{n:Nat}:(n==n)=true:=beq_self_eq_true n
noncomputable def J:=And.intro @jS (And.intro @jT (And.intro @jU (And.intro @kH (And.intro @H8 (And.intro @Gj (And.intro @F0 (And.intro @MY (And.intro @M1 (And.intro @sv (And.intro @NO (And.intro @N5 (And.intro @ML (And.intro @BW (And.intro @Co (And.intro @Gp (And.intro @Ga (And.intro @HH (And.intro @Gn (And.intro @M5 (And.intro @M4 (And.intro @Nt (And.intro @Nf (And.intro @My (And.intro @HU (And.intro @oLt (And.intro @oLe (And.intro @lL (And.intro @lT (And.intro @lS (And.intro @tL (And.intro @aL (And.intro @Mu (And.intro @Nk (And.intro @F8 (And.intro @jA (And.intro @jB (And.intro @jC (And.intro @jD (And.intro @jE (And.intro @jF (And.intro @jG (And.intro @jH (And.intro @jI (And.intro @jJ (And.intro @jK (And.intro @jL (And.intro @jM (And.intro @jN (And.intro @jO (And.intro @jP (And.intro @iZ (And.intro @MC (And.intro @JN (And.intro @L3 (And.intro @Je (And.intro @Ca (And.intro @jQ (@jR))))))))))))))))))))))))))))))))))))))))))))))))))))))))))
def Cu{n:Str}{d:Def}{r:List (Str×Def)}:den ((n,d)::r) n=au (den r) d:=by
 funext as;simp [den]
def CL{n f:Str}{d:Def}{r:List (Str×Def)}(h:(f==n)=false):den ((n,d)::r) f=den r f:=by
 funext as;simp [den,h]
theorem oC{f:Str}:∀(n:Nat) {T:List (Str×Def)},((T.take n).all λx=>!(f==x.1))=true->den T f=den (T.drop n) f
 |0,_,_=>rfl
 |n+1,[],_=>rfl
 |n+1,(m,d)::r,h=>by
  rw [List.take_succ_cons,List.all_cons,zza,Bool.not_eq_true'] at h;exact(CL h.1).trans (oC n h.2)
def dk{f:Str}{d:Def}{r T:List (Str×Def)}(k:Nat)(h:((T.take k).all λx=>!(f==x.1))=true:=by decide+kernel)(e:T.drop k=(f,d)::r:=by rfl):den T f=au (den r) d:=by
 rw [oC k h,e];exact Cu
end KJ
local macro_rules | `(#v[]) => `(.nil) | `(#v[$x]) => `(.cons $x .nil) | `(#v[$x, $xs,*]) => `(.cons $x #v[$xs,*]) | `(!$n:num) => `(.var $n) | `(¬$n:num) => `(.cst (.int $n))
namespace K04
open PySem L2 Ci KJ
noncomputable def cZ:Def:=⟨["thing"],1,#v[.ret (.and (.ty .int (!0)) (.not (.ty .bool (!0))))],none⟩
noncomputable def cb:Def:=⟨["_law_script","_law_k"],2,#v[.ite (.cmp .lt (!1) (.blt .len #v[!0])) #v[.ret (.sub (!0) (!1))] .nil,.ite (.cmp .eq (!0) (.lst .nil)) #v[.ret (¬0)] .nil,.ret (.bin .add (.bin .mul (.sub (!0) (.bin .mod (!1) (.blt .len #v[!0]))) (¬31)) (!1))],none⟩
noncomputable def bI:Def:=⟨["_law_script","_law_k","_law_many","_law_drawn"],3,#v[.set 3 (.bin .mod (.bin .mul (.bin .add (.call "_law_cell" #v[!0,!1]) (.bin .mul (¬6151) (.bin .add (!1) (¬1)))) (¬40692)) (¬2147483399)),.ret (.bin .mod (.bin .mod (.bin .add (.bin .mul (!3) (!3)) (.bin .fdiv (!3) (¬31))) (¬2147483629)) (!2))],none⟩
noncomputable def bq:Def:=⟨["_law_script","_law_at","_law_most","_law_rows","_law_columns","_law_shuts","_law_top","_law_made","_law_row","_law_signs","_law_column","_law_drawn"],3,#v[.set 3 (.bin .add (¬1) (.call "_law_pick" #v[!0,!1,!2])),.set 4 (.bin .add (¬1) (.call "_law_pick" #v[!0,.bin .add (!1) (¬1),!2])),.set 5 (.sub (.lst #v[¬0,¬2,¬4,¬6]) (.call "_law_pick" #v[!0,.bin .add (!1) (¬2),¬4])),.set 6 (.sub (.lst #v[¬1,¬2,¬3,¬10]) (.call "_law_pick" #v[!0,.bin .add (!1) (¬3),¬4])),.own 7 (.lst .nil),.cQ (.one 8) (.rn (!3)) #v[.set 9 (.cst (.str "")),.cQ (.one 10) (.rn (!4)) #v[.set 11 (.call "_law_pick" #v[!0,.bin .add (.bin .add (.bin .add (!1) (¬4)) (.bin .mul (!2) (!8))) (!10),.bin .mul (¬12) (!6)]),.set 9 (.bin .add (!9) (.ite (.cmp .lt (.bin .mod (!11) (¬12)) (!5)) (.cst (.str "#")) (.blt .str #v[.bin .fdiv (!11) (¬12)])))],.app 7 (!9)],.ret (.blt .tuple #v[.AH 7])],none⟩
noncomputable def br:Def:=⟨["_law_floor_here","_law_made","_law_row","_law_signs"],1,#v[.own 1 (.lst .nil),.cQ (.two 2 3) (.enum (!0)) #v[.js 1 (.bX 2 [2] (.two 0 1) (.enum (!3)) (.cmp .ne (!1) (.cst (.str "#"))) (.tup #v[!2,!0]))],.cV 1,.ret (!1)],none⟩
noncomputable def aX:Def:=⟨["floor","spots","row","signs","column","sign"],1,#v[.own 1 (.lst .nil),.cQ (.two 2 3) (.enum (!0)) #v[.cQ (.two 4 5) (.enum (!3)) #v[.ite (.cmp .ne (!5) (.glob "WALL" (.str "#"))) #v[.app 1 (.tup #v[!2,!4])] .nil]],.cV 1,.ret (!1)],none⟩
noncomputable def cW:Def:=⟨["thing"],1,#v[.ret (.and (.ty .tuple (!0)) (.and (.cmp .eq (.blt .len #v[!0]) (¬2)) (.and (.call "is_whole" #v[.sub (!0) (¬0)]) (.call "is_whole" #v[.sub (!0) (¬1)]))))],none⟩
noncomputable def bz:Def:=⟨["floor","spot"],2,#v[.ret (.and (.ch .le .lt (¬0) (.sub (!1) (¬0)) (.blt .len #v[!0])) (.ch .le .lt (¬0) (.sub (!1) (¬1)) (.blt .len #v[.sub (!0) (.sub (!1) (¬0))])))],none⟩
noncomputable def cf:Def:=⟨["floor","thing"],2,#v[.ret (.and (.call "is_spot" #v[!1]) (.and (.call "is_on_floor" #v[!0,!1]) (.cmp .ne (.sub (.sub (!0) (.sub (!1) (¬0))) (.sub (!1) (¬1))) (.glob "WALL" (.str "#")))))],none⟩
noncomputable def aZ:Def:=⟨["floor","spot"],2,#v[.ite (.not (.call "is_open" #v[!0,!1])) #v[.raise "NoSpot" "the spot is not on the floor or a wall"] .nil],none⟩
noncomputable def bj:Def:=⟨["floor","spot"],2,#v[.expr (.call "need_open" #v[!0,!1]),.ret (.blt .int #v[.sub (.sub (!0) (.sub (!1) (¬0))) (.sub (!1) (¬1))])],none⟩
noncomputable def bo:Def:=⟨["floor","counts","spot","height"],1,#v[.mH 1,.cQ (.one 2) (.seq (.call "open_spots" #v[!0])) #v[.set 3 (.call "height_at" #v[!0,!2]),.jf 1 3],.ret (.oh 1)],none⟩
noncomputable def bg:Def:=⟨["floor","upwards","rows","column"],1,#v[.set 1 (.wt (!0)),.own 2 (.lst .nil),.cQ (.one 3) (.rn (.blt .len #v[.sub (!0) (¬0)])) #v[.app 2 (.pU .join (.cst (.str "")) #v[.comp 1 [3] (.one 0) (.seq (!1)) (.sub (!0) (!1))])],.ret (.blt .tuple #v[.AH 2])],none⟩
noncomputable def aH:Def:=⟨["floor"],1,#v[.ret (.blt .tuple #v[.comp 1 [] (.one 0) (.seq (!0)) (.rev (!0))])],none⟩
noncomputable def bx:Def:=⟨["floor","spot"],2,#v[.expr (.call "need_open" #v[!0,!1]),.ret (.tup #v[.sub (!1) (¬1),.bin .sub (.bin .sub (.blt .len #v[!0]) (¬1)) (.sub (!1) (¬0))])],none⟩
noncomputable def aB:Def:=⟨["floor","spot","beside","row","column"],2,#v[.own 2 (.lst .nil),.cQ (.one 3) (.ng (.bin .sub (.sub (!1) (¬0)) (¬1)) (.bin .add (.sub (!1) (¬0)) (¬2))) #v[.cQ (.one 4) (.ng (.bin .sub (.sub (!1) (¬1)) (¬1)) (.bin .add (.sub (!1) (¬1)) (¬2))) #v[.ite (.and (.cmp .ne (.tup #v[!3,!4]) (!1)) (.call "is_open" #v[!0,.tup #v[!3,!4]])) #v[.app 2 (.tup #v[!3,!4])] .nil]],.cV 2,.ret (!2)],none⟩
noncomputable def bQ:Def:=⟨["one","other"],2,#v[.ret (.or (.cmp .eq (.sub (!0) (¬0)) (.sub (!1) (¬0))) (.cmp .eq (.sub (!0) (¬1)) (.sub (!1) (¬1))))],none⟩
noncomputable def cG:Def:=⟨["floor","spot","sides"],2,#v[.set 2 (.bX 1 [1] (.one 0) (.seq (.call "open_spots_beside" #v[!0,!1])) (.call "share_side" #v[!1,!0]) (!0)),.ret (.blt .all #v[.comp 1 [1,0] (.one 0) (.seq (!2)) (.cmp .le (.call "height_at" #v[!2,!0]) (.call "height_at" #v[!2,!1]))])],none⟩
noncomputable def e8:Def:=⟨["floor"],1,#v[.ret (.bX 1 [0] (.one 0) (.seq (.call "open_spots" #v[!0])) (.call "is_peak" #v[!1,!0]) (!0))],none⟩
noncomputable def b7:Def:=⟨["one","other"],2,#v[.ite (.cmp .ne (.blt .len #v[.sub (!0) (¬0)]) (.blt .len #v[.sub (!1) (¬0)])) #v[.raise "NoFit" "the floors have not as many columns"] .nil,.ite (.cmp .gt (.bin .add (.blt .len #v[!0]) (.blt .len #v[!1])) (.glob "LONGEST" (.int 12))) #v[.raise "NoFit" "there were more than 12 rows"] .nil,.ret (.bin .add (!0) (!1))],none⟩
noncomputable def bO:Def:=⟨["one","other"],2,#v[.ite (.cmp .ne (.blt .len #v[!0]) (.blt .len #v[!1])) #v[.raise "NoFit" "the floors have not as many rows"] .nil,.ite (.cmp .gt (.bin .add (.blt .len #v[.sub (!0) (¬0)]) (.blt .len #v[.sub (!1) (¬0)])) (.glob "LONGEST" (.int 12))) #v[.raise "NoFit" "there were more than 12 columns"] .nil,.ret (.blt .tuple #v[.comp 2 [] (.two 0 1) (.zip #v[!0,!1]) (.bin .add (!0) (!1))])],none⟩
noncomputable def cx:Def:=⟨["floor"],1,#v[.ret (.blt .sum #v[.comp 1 [] (.one 0) (.seq (!0)) (.pU .bY (!0) #v[.glob "WALL" (.str "#")])])],none⟩
noncomputable def bZ:Def:=⟨["_law_floor_here","_law_made","_law_row","_law_column","_law_here","_law_higher","_law_one","_law_other"],1,#v[.own 1 (.lst .nil),.cQ (.two 2 3) (.seq (.call "_law_spots" #v[!0])) #v[.par 4 5 #v[.sub (.sub (!0) (!2)) (!3),¬0],.cQ (.two 6 7) (.seq (.tup #v[.tup #v[.bin .sub (!2) (¬1),!3],.tup #v[.bin .add (!2) (¬1),!3],.tup #v[!2,.bin .sub (!3) (¬1)],.tup #v[!2,.bin .add (!3) (¬1)]])) #v[.ite (.and (.ch .le .lt (¬0) (!6) (.blt .len #v[!0])) (.ch .le .lt (¬0) (!7) (.blt .len #v[.sub (!0) (¬0)]))) #v[.set 5 (.bin .add (!5) (.blt .int #v[.and (.cmp .ne (.sub (.sub (!0) (!6)) (!7)) (.cst (.str "#"))) (.cmp .gt (.sub (.sub (!0) (!6)) (!7)) (!4))]))] .nil],.js 1 (.bin .mul (.lst #v[.tup #v[!2,!3]]) (.blt .int #v[.cmp .eq (!5) (¬0)]))],.cV 1,.ret (!1)],none⟩
noncomputable def cT:Def:=⟨["thing"],1,#v[.ret (.and (.ty .str (!0)) (.and (.cmp .eq (.blt .len #v[!0]) (¬1)) (.cmp .A1 (!0) (.glob "SIGNS" (.str "#0123456789")))))],none⟩
noncomputable def dy:Def:=⟨["thing"],1,#v[.ite (.or (.not (.ty .str (!0))) (.not (.ch .le .le (¬1) (.blt .len #v[!0]) (.glob "LONGEST" (.int 12))))) #v[.ret (.cst (.bl false))] .nil,.ret (.blt .all #v[.comp 1 [] (.one 0) (.seq (!0)) (.call "is_sign" #v[!0])])],none⟩
noncomputable def cA:Def:=⟨["thing"],1,#v[.ite (.or (.not (.ty .tuple (!0))) (.not (.ch .le .le (¬1) (.blt .len #v[!0]) (.glob "LONGEST" (.int 12))))) #v[.ret (.cst (.bl false))] .nil,.ite (.not (.blt .all #v[.comp 1 [] (.one 0) (.seq (!0)) (.call "is_row" #v[!0])])) #v[.ret (.cst (.bl false))] .nil,.ret (.blt .all #v[.comp 1 [0] (.one 0) (.seq (!0)) (.cmp .eq (.blt .len #v[!0]) (.blt .len #v[.sub (!1) (¬0)]))])],none⟩
noncomputable def aW:Def:=⟨["floor","spot"],2,#v[.expr (.call "need_open" #v[!0,!1]),.ret (.tup #v[.sub (!1) (¬0),.bin .sub (.bin .sub (.blt .len #v[.sub (!0) (¬0)]) (¬1)) (.sub (!1) (¬1))])],none⟩
noncomputable def mz:Def:=⟨["_law_script","_law_floor_here","_law_text","_law_new","_law_other","_law_spot","_law_there","_law_low","_law_wide","_law_both_rows"],1,#v[.set 1 (.call "_law_floor" #v[!0,¬0,¬6]),.set 2 (.pU .join (.cst (.str "")) #v[.blt .list #v[!1]]),.ite (.cmp .ne (.call "heights_in" #v[!1]) (.bX 1 [2] (.one 0) (.seq (.cst (.str "0123456789"))) (.cmp .A1 (!0) (!1)) (.tup #v[.blt .int #v[!0],.pU .bY (!1) #v[!0]]))) #v[.ret (.cst (.bl false))] .nil,.ite (.or (.cmp .ne (.call "walls_in" #v[!1]) (.pU .bY (!2) #v[.cst (.str "#")])) (.cmp .ne (.call "peaks" #v[!1]) (.call "_law_high" #v[!1]))) #v[.ret (.cst (.bl false))] .nil,.par 3 4 #v[.call "turned_floor" #v[!1],.call "mirrored_floor" #v[!1]],.ite (.or (.cmp .Av (.call "is_floor" #v[!3]) (.cst (.bl true))) (.or (.cmp .Av (.call "is_floor" #v[!4]) (.cst (.bl true))) (.cmp .ne (!4) (.blt .tuple #v[.comp 1 [] (.one 0) (.seq (!1)) (.rev (!0))])))) #v[.ret (.cst (.bl false))] .nil,.cQ (.one 5) (.seq (.call "_law_spots" #v[!1])) #v[.set 6 (.call "spot_turned" #v[!1,!5]),.ite (.or (.cmp .ne (!6) (.tup #v[.sub (!5) (¬1),.bin .sub (.bin .sub (.blt .len #v[!1]) (¬1)) (.sub (!5) (¬0))])) (.cmp .ne (.sub (.sub (!3) (.sub (!6) (¬0))) (.sub (!6) (¬1))) (.sub (.sub (!1) (.sub (!5) (¬0))) (.sub (!5) (¬1))))) #v[.ret (.cst (.bl false))] .nil,.ite (.cmp .ne (.call "spot_mirrored" #v[!1,!5]) (.tup #v[.sub (!5) (¬0),.bin .sub (.bin .sub (.blt .len #v[.sub (!1) (¬0)]) (¬1)) (.sub (!5) (¬1))])) #v[.ret (.cst (.bl false))] .nil],.ite (.cmp .ne (.blt .sorted #v[.comp 1 [1] (.one 0) (.seq (.call "peaks" #v[!1])) (.call "spot_turned" #v[!1,!0])]) (.call "peaks" #v[!3])) #v[.ret (.cst (.bl false))] .nil,.ite (.or (.cmp .ne (.call "turned_floor" #v[.call "turned_floor" #v[.call "turned_floor" #v[!3]]]) (!1)) (.cmp .ne (.call "mirrored_floor" #v[!4]) (!1))) #v[.ret (.cst (.bl false))] .nil,.par 7 8 #v[.call "set_below" #v[!1,!4],.call "set_beside" #v[!1,!4]],.set 9 (.comp 2 [] (.two 0 1) (.zip #v[!1,!4]) (.bin .add (!0) (!1))),.ite (.or (.cmp .ne (!7) (.bin .add (!1) (!4))) (.cmp .ne (!8) (.blt .tuple #v[!9]))) #v[.ret (.cst (.bl false))] .nil,.ite (.or (.cmp .ne (.call "walls_in" #v[!7]) (.bin .mul (¬2) (.call "walls_in" #v[!1]))) (.cmp .ne (.call "heights_in" #v[!3]) (.call "heights_in" #v[!1]))) #v[.ret (.cst (.bl false))] .nil,.ret (.cmp .eq (.call "turned_floor" #v[!7]) (.call "set_beside" #v[.call "turned_floor" #v[!4],!3]))],none⟩
def T0:List (Str×Def):=[]
noncomputable def T1:List (Str×Def):=(("is_whole":Str),cZ)::T0
noncomputable def T2:List (Str×Def):=(("_law_cell":Str),cb)::T1
noncomputable def T3:List (Str×Def):=(("_law_pick":Str),bI)::T2
noncomputable def T4:List (Str×Def):=(("_law_floor":Str),bq)::T3
noncomputable def T5:List (Str×Def):=(("_law_spots":Str),br)::T4
noncomputable def T6:List (Str×Def):=(("open_spots":Str),aX)::T5
noncomputable def T7:List (Str×Def):=(("is_spot":Str),cW)::T6
noncomputable def T8:List (Str×Def):=(("is_on_floor":Str),bz)::T7
noncomputable def T9:List (Str×Def):=(("is_open":Str),cf)::T8
noncomputable def HV:List (Str×Def):=(("need_open":Str),aZ)::T9
noncomputable def Ji:List (Str×Def):=(("height_at":Str),bj)::HV
noncomputable def NH:List (Str×Def):=(("heights_in":Str),bo)::Ji
noncomputable def Kf:List (Str×Def):=(("turned_floor":Str),bg)::NH
noncomputable def LH:List (Str×Def):=(("mirrored_floor":Str),aH)::Kf
noncomputable def Jr:List (Str×Def):=(("spot_turned":Str),bx)::LH
noncomputable def MN:List (Str×Def):=(("open_spots_beside":Str),aB)::Jr
noncomputable def F6:List (Str×Def):=(("share_side":Str),bQ)::MN
noncomputable def JQ:List (Str×Def):=(("is_peak":Str),cG)::F6
noncomputable def MD:List (Str×Def):=(("peaks":Str),e8)::JQ
noncomputable def N0:List (Str×Def):=(("set_below":Str),b7)::MD
noncomputable def Np:List (Str×Def):=(("set_beside":Str),bO)::N0
noncomputable def KL:List (Str×Def):=(("walls_in":Str),cx)::Np
noncomputable def M6:List (Str×Def):=(("_law_high":Str),bZ)::KL
noncomputable def Kd:List (Str×Def):=(("is_sign":Str),cT)::M6
noncomputable def Kq:List (Str×Def):=(("is_row":Str),dy)::Kd
noncomputable def L0:List (Str×Def):=(("is_floor":Str),cA)::Kq
noncomputable def sJ:List (Str×Def):=(("spot_mirrored":Str),aW)::L0
def Hb:den T2 "_law_cell"=au (den T1) cb:=dk 0
def Hr:den T3 "_law_pick"=au (den T2) bI:=dk 0
def IW:den T6 "is_whole"=au (den T0) cZ:=dk 5
def GJ:den T8 "is_spot"=au (den T6) cW:=dk 1
def Im:den T8 "is_on_floor"=au (den T7) bz:=dk 0
def IQ:den T9 "is_open"=au (den T8) cf:=dk 0
def zQ:den HV "need_open"=au (den T9) aZ:=dk 0
def ED:den Ji "open_spots"=au (den T5) aX:=dk 5
def Bl:den Ji "height_at"=au (den HV) bj:=dk 0
def Bm:den LH "need_open"=au (den T9) aZ:=dk 4
def Ft:den Jr "is_open"=au (den T8) cf:=dk 6
def zC:den F6 "open_spots_beside"=au (den Jr) aB:=dk 1
def zP:den F6 "share_side"=au (den MN) bQ:=dk 0
def AV:den F6 "height_at"=au (den HV) bj:=dk 6
def DO:den JQ "open_spots"=au (den T5) aX:=dk 12
def A6:den JQ "is_peak"=au (den F6) cG:=dk 0
def Em:den KL "_law_spots"=au (den T4) br:=dk 17
def yX:den Kd "is_sign"=au (den M6) cT:=dk 0
def AZ:den Kq "is_row"=au (den Kd) dy:=dk 0
def zO:den L0 "need_open"=au (den T9) aZ:=dk 16
def Er:den sJ "_law_floor"=au (den T3) bq:=dk 23
def zD:den sJ "heights_in"=au (den Ji) bo:=dk 15
def zS:den sJ "walls_in"=au (den Np) cx:=dk 5
def Bz:den sJ "peaks"=au (den JQ) e8:=dk 8
def Bh:den sJ "_law_high"=au (den KL) bZ:=dk 4
def zG:den sJ "turned_floor"=au (den NH) bg:=dk 14
def AG:den sJ "mirrored_floor"=au (den Kf) aH:=dk 13
def Ab:den sJ "is_floor"=au (den Kq) cA:=dk 1
def Dy:den sJ "_law_spots"=au (den T4) br:=dk 22
def Bg:den sJ "spot_turned"=au (den LH) bx:=dk 12
def zE:den sJ "spot_mirrored"=au (den L0) aW:=dk 0
def Ap:den sJ "set_below"=au (den MD) b7:=dk 7
def An:den sJ "set_beside"=au (den N0) bO:=dk 6
end K04
namespace L2
open PySem PySem.Spec PyProof.Rows PySem.W
theorem run_bind{α β:Type}(lt:Nat->Nat->Bool)(f:α->KasT β):∀t:KasT α,ay lt (t.bind f)=ay lt (f (ay lt t))
 |.ret a=>rfl
 |.ask i j k=>run_bind lt f (k (lt i j))
structure Lo(n:Nat)(lt:Nat->Nat->Bool):Prop where
 t:∀a b,a<n->b<n->a≠b->lt a b=true\/lt b a=true
 a:∀a b,lt a b=true->lt b a=false
 r:∀a b c,lt a b=true->lt b c=true->lt a c=true
noncomputable abbrev gp(p:Array Nat)(i:Nat):Nat:=p.getD i 0
def Sg(lt:Nat->Nat->Bool)(p:Array Nat)(r:Nat):Prop:=∀i j,i<j->j<r->lt (gp p i) (gp p j)=true
section
variable{n:Nat}{lt:Nat->Nat->Bool}
def Pm.size{p:Array Nat}(h:Pm n p):p.size=n:=by
 have:=h.length_eq
 simpa using this
def Pm.ne{p:Array Nat}(h:Pm n p){i j:Nat}(hi:i<n)(hj:j<n)(hn:i≠j):gp p i≠gp p j:=by
 have nd:p.toList.Nodup:=h.nodup_iff.2 List.nodup_range
 have sz:=h.size
 intro e;rw [gp,gp,Array.getD_eq_getD_getElem?,Array.getD_eq_getD_getElem?,zz2 (by omega),zz2 (by omega)] at e;simp! [Option.getD_some] at e;have:=(List.getElem_inj nd (h₀:=by simpa [sz] using hi) (h₁:=by simpa [sz] using hj)).1 (by simpa using e)
 exact hn this
def Pm.or{p:Array Nat}(L:Lo n lt)(h:Pm n p){i j:Nat}(hi:i<n)(hj:j<n)(hn:i≠j)(f:lt (gp p i) (gp p j)=false):lt (gp p j) (gp p i)=true:=
 (L.t _ _ (h.lt (by omega) i) (h.lt (by omega) j) (h.ne hi hj hn)).resolve_left (by rw [f];exact zzf)
def Sg.one(p:Array Nat):Sg lt p 1:=λi j h1 h2=>by omega
def Sg.snoc(L:Lo n lt){p:Array Nat}{m:Nat}(h1:1<=m)(h:Sg lt p m)(e:lt (gp p (m-1)) (gp p m)=true):Sg lt p (m+1):=λi j uq hj=>by
 by_cases hm:j=m
 ·subst hm
  by_cases hi:i=j-1
  ·subst hi;exact e
  ·exact L.r _ _ _ (h i (j-1) (by omega) (by omega)) e
 ·exact h i j uq (by omega)
theorem nJ(L:Lo n lt){p:Array Nat}(P:Pm n p):∀f m,1<=m->m+f<=n->Sg lt p m->m<=ay lt (kas_asc p f m)/\ay lt (kas_asc p f m)<=m+f/\Sg lt p (ay lt (kas_asc p f m))/\(ay lt (kas_asc p f m)<m+f->lt (gp p (ay lt (kas_asc p f m))) (gp p (ay lt (kas_asc p f m)-1))=true)
 |0,m,h1,h2,h3=>⟨zzE _,zzE _,h3,λz=>absurd z (Nat.lt_irrefl _)⟩
 |f+1,m,h1,h2,h3=>by
  unfold kas_asc;simp! [ay];cases e:lt (gp p m) (gp p (m-1)) with
  |true=>rw [if_pos rfl];exact⟨zzE _,Nat.le_add_right _ _,h3,λ_=>e⟩
  |false=>
   rw [if_neg zzf];have e2:=P.or L (by omega) (by omega) (by omega) e
   obtain⟨a,b,c,d⟩:=nJ L P f (m+1) (by omega) (by omega) (h3.snoc L h1 e2)
   exact⟨by omega,by omega,c,λz=>d (by omega)⟩
def Dg(lt:Nat->Nat->Bool)(p:Array Nat)(r:Nat):Prop:=∀i j,i<j->j<r->lt (gp p j) (gp p i)=true
theorem pS(L:Lo n lt){p:Array Nat}(P:Pm n p):∀f m,1<=m->m+f<=n->Dg lt p m->∃m',ay lt (kas_desc f p m 0)=(p,m',0)/\m<=m'/\m'<=m+f/\Dg lt p m'
 |0,m,h1,h2,h3=>⟨m,rfl,zzE _,zzE _,h3⟩
 |f+1,m,h1,h2,h3=>by
  unfold kas_desc;simp! [ay];cases e:lt (gp p m) (gp p (m-1)) with
  |true=>
   rw [if_pos rfl,if_neg (Nat.lt_irrefl 0)];obtain⟨m',a,b,c,d⟩:=pS L P f (m+1) (by omega) (by omega) (λi j uq hj=>by
    by_cases hm:j=m
    ·subst hm
     by_cases hi:i=j-1
     ·subst hi;exact e
     ·exact L.r _ _ _ e (h3 i (j-1) (by omega) (by omega))
    ·exact h3 i j uq (by omega))
   exact⟨m',a,by omega,by omega,d⟩
  |false=>
   have e2:=P.or L (by omega) (by omega) (by omega) e
   rw [if_neg zzf];simp! [ay];rw [show lt (p.getD (m-1) 0) (p.getD m 0)=true from e2,if_pos rfl];exact⟨m,rfl,zzE _,by omega,h3⟩
def rO{p:Array Nat}{m:Nat}(h:m<=p.size)(k:Nat):gp (kas_rev p 0 m) k=if k<m then gp p (m-1-k) else gp p k:=by
 unfold kas_rev gp;rw [Array.getD_eq_getD_getElem?,getElem?_mirror_all h];simp! [Nat.zero_le,true_and,Nat.zero_add];split<;>rw [Array.getD_eq_getD_getElem?]
def Dg.rev{p:Array Nat}{m:Nat}(h:m<=p.size)(d:Dg lt p m):Sg lt (kas_rev p 0 m) m:=λi j uq hj=>by
 rw [rO h,rO h,if_pos (by omega),if_pos hj];exact d _ _ (by omega) (by omega)
def uX(L:Lo n lt)(h0:0<n){p:Array Nat}(P:Pm n p):Sg lt (ay lt (kas_count n p)).2 (ay lt (kas_count n p)).1/\Pm n (ay lt (kas_count n p)).2/\1<=(ay lt (kas_count n p)).1/\(ay lt (kas_count n p)).1<=n:=by
 unfold kas_count;rw [run_bind];obtain⟨a,b,c,d⟩:=nJ L P (n-1) 1 (zzE _) (by omega) (Sg.one p)
 generalize ay lt (kas_asc p (n-1) 1)=m at a b c d
 split
 ·exact⟨c,P,a,by show m<=n;omega⟩
 ·rename_i hm;have pT:m≠n:=λz=>hm (by rw [z];exact beq_self_eq_true n)
  split
  ·rename_i h1;simp! [ay];rw [show lt (p.getD 0 0) (p.getD (m-1) 0)=true from c 0 (m-1) (by omega) (by omega),if_pos rfl];exact⟨c,P,a,by show m<=n;omega⟩
  ·have Lw:m=1:=by omega
   subst Lw;have e:=d (by omega)
   unfold kas_descPart;rw [run_bind];obtain⟨m',r,r1,r2,r3⟩:=pS L P (n-(1+1)) (1+1) (by omega) (by omega) (λi j uq hj=>by
    have Ot:i=0:=by omega
    have Oa:j=1:=by omega
    subst Ot;subst Oa;exact e)
   rw [r];dsimp only;rw [if_neg (Nat.lt_irrefl 0)];unfold kas_tail3;rw [run_bind];have P':=P.rev 0 m'
   obtain⟨a',b',c',_⟩:=nJ L P' (n-m') m' (by omega) (by omega) (r3.rev (by rw [P.size];omega))
   simp! [ay];exact⟨c',P',by omega,by omega⟩
theorem gI(L:Lo n lt){p:Array Nat}(P:Pm n p){k:Nat}(hk:k<n)(S:Sg lt p k):∀f l r,r-l<=f->l<=r->r<=k->(∀i,i<l->lt (gp p i) (gp p k)=true)->(∀i,r<=i->i<k->lt (gp p k) (gp p i)=true)->
 ay lt (kas_place p k f l r)<=k/\(∀i,i<ay lt (kas_place p k f l r)->lt (gp p i) (gp p k)=true)/\∀i,ay lt (kas_place p k f l r)<=i->i<k->lt (gp p k) (gp p i)=true
 |0,l,r,h1,h2,h3,h4,h5=>by
  have hl:l=r:=by omega
  subst hl;exact⟨h3,h4,h5⟩
 |f+1,l,r,h1,h2,h3,h4,h5=>by
  unfold kas_place;split
  ·have hl:l=r:=by omega
   subst hl;exact⟨h3,h4,h5⟩
  ·simp! [ay];have bU:l<r:=by omega
   have m1:l<=(l+r)/2:=by omega
   have m2:(l+r)/2<r:=by omega
   generalize hm:(l+r)/2=m at m1 m2
   cases e:lt (gp p k) (gp p m) with
   |true=>
    rw [if_pos rfl];refine gI L P hk S f l m (by omega) m1 (by omega) h4 λi hi Oy=>?_
    by_cases z:i=m
    ·subst z;exact e
    ·exact L.r _ _ _ e (S m i (by omega) Oy)
   |false=>
    rw [if_neg zzf];have e2:=P.or L hk (by omega) (by omega) e
    refine gI L P hk S f (m+1) r (by omega) (by omega) h3 (λi hi=>?_) h5
    by_cases z:i=m
    ·subst z;exact e2
    ·exact L.r _ _ _ (S i m (by omega) (by omega)) e2
def tP{p:Array Nat}{k x:Nat}(hk:k<p.size)(hx:x<=k)(i:Nat):gp (bubble p k (k-x)) i=if i=x then gp p k else if x<i/\i<=k then gp p (i-1) else gp p i:=by
 have g:∀(q:Array Nat) j,gp q j=(q[j]?).getD 0:=λq j=>Array.getD_eq_getD_getElem? ..
 rw [g,g,g,g,getElem?_bubble hk (k-x) (by omega),show k-(k-x)=x by omega];split
 ·rfl
 ·split<;>rfl
theorem sL(L:Lo n lt):∀f (p:Array Nat) k,k+f=n->Pm n p->Sg lt p k->Sg lt (ay lt (kas_bin f p k)) n
 |0,p,k,h,P,S=>by
  have:k=n:=by omega
  subst this;exact S
 |f+1,p,k,h,P,S=>by
  unfold kas_bin;rw [run_bind];obtain⟨a,b,c⟩:=gI L P (k:=k) (by omega) S k 0 k (by omega) (Nat.zero_le _) (zzE _) (λi hi=>absurd hi (Nat.not_lt_zero _)) (λi h1 h2=>by omega)
  generalize ay lt (kas_place p k k 0 k)=x at a b c
  refine sL L f _ (k+1) (by omega) (P.N8 _ _) λi j uq hj=>?_
  have hs:k<p.size:=by rw [P.size];omega
  rw [tP hs a,tP hs a]
  by_cases hi:i=x
  ·rw [if_pos hi,if_neg (by omega),if_pos (by omega)];exact c _ (by omega) (by omega)
  ·rw [if_neg hi]
   by_cases vC:j=x
   ·rw [if_pos vC,if_neg (by omega)];exact b _ (by omega)
   ·rw [if_neg vC]
    by_cases i2:x<i/\i<=k
    ·rw [if_pos i2,if_pos (by omega)];exact S _ _ (by omega) (by omega)
    ·rw [if_neg i2]
     by_cases j2:x<j/\j<=k
     ·rw [if_pos j2]
      by_cases z:i=j-1
      ·omega
      ·exact S _ _ (by omega) (by omega)
     ·rw [if_neg j2];exact S _ _ uq (by omega)
def kG(L:Lo n lt)(h0:0<n):(gV n lt).Pairwise λa b=>lt a b=true:=by
 have key:Sg lt (ay lt (kas_sort n)) n:=by
  unfold kas_sort;rw [run_bind];obtain⟨a,b,c,d⟩:=uX L h0 (p:=(List.range n).toArray) (List.Perm.refl _)
  generalize ay lt (kas_count n (List.range n).toArray)=r at a b c d
  split
  ·rw [Nat.max_eq_left c];exact sL L _ _ _ (by omega) b a
  ·have:r.1=n:=by omega
   rw [this] at a;exact a
 have P:Pm n (ay lt (kas_sort n)):=eG h0 lt
 have sz:=P.size
 rw [List.pairwise_iff_getElem];intro i j hi hj uq;have vC:j<(ay lt (kas_sort n)).size:=by simpa [gV] using hj
 have:=key i j uq (by omega)
 simpa [gp,gV,Array.getD_eq_getD_getElem?,zz2 vC,zz2 (Nat.lt_trans uq vC)] using this
end
end L2
namespace Ci
open PySem L2
theorem j8:∀{a b c:List Int},HT.lexLt a b=true->HT.lexLt b c=true->HT.lexLt a c=true
 |[],[],_,h,_=>by cases h
 |[],_::_,[],_,h=>by cases h
 |[],_::_,_::_,_,_=>rfl
 |_::_,[],_,h,_=>by cases h
 |_::_,_::_,[],_,h=>by cases h
 |x::a,y::b,z::c,h,k=>by
  simp! [HT.lexLt] at h k⊢;split at h
  ·subst x;split at k
   ·subst y;rw [if_pos rfl];exact j8 h k
   ·rw [if_neg ‹_›];exact k
  ·have h:=zzY h
   split at k
   ·subst y;rw [if_neg ‹_›];exact zzh h
   ·have k:=zzY k
    rw [if_neg (by omega)];exact zzh (by omega)
theorem iO:∀{a b:List Int},HT.lexLt a b=true->HT.lexLt b a=false
 |[],[],h=>by cases h
 |[],_::_,_=>rfl
 |_::_,[],h=>by cases h
 |x::a,y::b,h=>by
  simp! [HT.lexLt] at h⊢;split at h
  ·subst x;rw [if_pos rfl];exact iO h
  ·have h:=zzY h
   rw [if_neg (by omega)];exact zz0 (by omega)
theorem qi:∀{a b:List Int},a≠b->HT.lexLt a b=true\/HT.lexLt b a=true
 |[],[],h=>absurd rfl h
 |[],_::_,_=>.inl rfl
 |_::_,[],_=>.inr rfl
 |x::a,y::b,h=>by
  simp! [HT.lexLt]
  by_cases e:x=y
  ·subst x;rw [if_pos rfl,if_pos rfl];exact qi λz=>h (by rw [z])
  ·rw [if_neg e,if_neg (λz=>e z.symm)]
   by_cases l:x<y
   ·exact .inl (zzh l)
   ·exact .inr (zzh (by omega))
def qj(a:List Int):HT.lexLt a a=false:=by
 cases h:HT.lexLt a a with
 |false=>rfl
 |true=>have:=iO h;rw [h] at this;exact this
abbrev C5(L:List (List Int)):Prop:=L.Pairwise λa b=>HT.lexLt a b=true
theorem gj:∀{L M:List (List Int)},C5 L->C5 M->(∀x,x∈L↔x∈M)->L=M
 |[],[],_,_,_=>rfl
 |[],y::M,_,_,h=>absurd ((h y).2 (zzP ..)) (by simp)
 |x::L,[],_,_,h=>absurd ((h x).1 (zzP ..)) (by simp)
 |x::L,y::M,hL,hM,h=>by
  have pL:=List.pairwise_cons.1 hL
  have pM:=List.pairwise_cons.1 hM
  have e:x=y:=by
   rcases zzm.1 ((h x).1 (zzP ..)) with z|z
   ·exact z
   ·rcases zzm.1 ((h y).2 (zzP ..)) with w|w
    ·exact w.symm
    ·have:=iO (pM.1 x z)
     rw [pL.1 y w] at this;cases this
  subst e;rw [gj pL.2 pM.2 λz=>?_]
  constructor
  ·intro hz;rcases zzm.1 ((h z).1 (zzI _ hz)) with w|w
   ·subst w;have:=pL.1 z hz;rw [qj] at this;cases this
   ·exact w
  ·intro hz;rcases zzm.1 ((h z).2 (zzI _ hz)) with w|w
   ·subst w;have:=pM.1 z hz;rw [qj] at this;cases this
   ·exact w
def range_getD{α:Type}(d:α)(l:List α):(List.range l.length).map (λi=>l.getD i d)=l:=by
 refine List.ext_getElem (by simp) λi h1 h2=>?_
 simp [zzK,zzg h2]
def sV{α:Type}(d:α)(f:α->PV)(g:α->List Int){l:List α}(nd:(l.map g).Nodup):gZ PV.aI (l.map f) (l.map g)=(gZ d l (l.map g)).map f/\(gZ d l (l.map g)).Perm l/\C5 ((gZ d l (l.map g)).map g):=by
 by_cases h:l.length<2
 ·unfold gZ;rw [if_pos h,if_pos (by simpa using h)];refine⟨rfl,.refl _,?_⟩
  match l,h with
  |[],_=>exact .nil
  |[a],_=>exact List.pairwise_singleton ..
  |_::_::_,h=>simp! [zzL] at h;omega
 ·have gl:∀i,i<l.length->(l.map g).getD i []=g (l.getD i d):=λi hi=>by simp [zzK,zzg hi]
  have P:=eG (n:=l.length) (by omega) λi j=>HT.lexLt ((l.map g).getD i []) ((l.map g).getD j [])
  have U:=kG (n:=l.length) (lt:=λi j=>HT.lexLt ((l.map g).getD i []) ((l.map g).getD j [])) ⟨λa b ha hb hn=>qi λz=>hn (by
   have ha:a<(l.map g).length:=by simpa using ha
   have hb:b<(l.map g).length:=by simpa using hb
   simp! [zzK,zzg ha,zzg hb,Option.getD_some] at z;exact(List.getElem_inj nd).1 z),λa b=>iO,λa b c=>j8⟩ (by omega)
  unfold gZ;rw [if_neg h,if_neg (by simpa using h),zzl,List.map_map];refine⟨List.map_congr_left λi hi=>?_,?_,List.pairwise_map.2 (List.pairwise_map.2 (List.Pairwise.imp_of_mem (λ{a b} ha hb e=>?_) U))⟩
  ·have hl:i<l.length:=List.mem_range.1 (P.mem_iff.1 hi)
   simp [zzK,zzg hl]
  ·have Q:=P.map λi=>l.getD i d
   rw [range_getD] at Q;exact Q
  ·rw [gl a (List.mem_range.1 (P.mem_iff.1 ha)),gl b (List.mem_range.1 (P.mem_iff.1 hb))] at e;exact e
theorem kg{k z:List Int}:∀{l:List (List Int)},z∈oz k l↔z=k\/z∈l
 |[]=>by simp [oz]
 |x::l=>by
  unfold oz;split
  ·rename_i e;subst e
   constructor
   ·exact .inr
   ·rintro (rfl|h)
    ·exact zzP ..
    ·exact h
  ·split
   ·exact zzm
   ·rw [zzm,kg,zzm]
    constructor
    ·rintro (h|h|h)
     ·exact .inr (.inl h)
     ·exact .inl h
     ·exact .inr (.inr h)
    ·rintro (h|h|h)
     ·exact .inr (.inl h)
     ·exact .inl h
     ·exact .inr (.inr h)
theorem o8{k:List Int}:∀{l:List (List Int)},C5 l->C5 (oz k l)
 |[],_=>List.pairwise_singleton ..
 |x::l,h=>by
  have p:=List.pairwise_cons.1 h
  unfold oz;split
  ·exact h
  ·rename_i c9;split
   ·rename_i hl;refine List.pairwise_cons.2 ⟨λz hz=>?_,h⟩
    rcases zzm.1 hz with e|hz
    ·rw [e];exact hl
    ·exact j8 hl (p.1 z hz)
   ·rename_i hl;refine List.pairwise_cons.2 ⟨λz hz=>?_,o8 p.2⟩
    rcases kg.1 hz with e|hz
    ·rw [e];rcases qi c9 with q|q
     ·exact absurd q hl
     ·exact q
    ·exact p.1 z hz
theorem ke{z:List Int}:∀{l:List (List Int)},z∈qI l↔z∈l
 |[]=>by simp [qI]
 |x::l=>by
  show z∈oz x (qI l)↔_
  rw [kg,ke,zzm]
theorem jm:∀{l:List (List Int)},C5 (qI l)
 |[]=>.nil
 |x::l=>o8 (k:=x) (jm (l:=l))
def zt{L nss:List (List Int)}(nd:L.Nodup)(m:∀k,k∈L↔k∈nss):gZ PV.aI (L.map fg) L=(qI nss).map fg:=by
 have U:=sV [] fg id (l:=L) (by rw [List.map_id];exact nd)
 rw [List.map_id] at U;rw [U.1];have V:=U.2.2
 rw [List.map_id] at V;rw [gj V jm λx=>by rw [U.2.1.mem_iff,m,ke]]
end Ci
namespace K04
open PySem L2 Ci KJ
noncomputable abbrev sp(r c:Int):PV:=.tup [.int r,.int c]
noncomputable abbrev iL(ns:List Int):PV:=.lst (ns.map .int)
theorem ME:cN .gt=oj:=rfl
theorem NG{i j:Int}:oj (.int i) (.int j)=.ok (.bl (decide (j<i))):=rfl
theorem HL:cN .Av=j9:=rfl
theorem LC{r c:Int}:aJ (sp r c) (.int 0)=.ok (.int r):=rfl
theorem Kv{r c:Int}:aJ (sp r c) (.int 1)=.ok (.int c):=rfl
theorem nI{i j:Int}:gG (.int i) (.int j)=.ok (.bl (!(i==j))):=rfl
theorem eI{i j:Int}:iA (.int i) (.int j)=.ok (.bl (i==j)):=rfl
theorem nS{r c r' c':Int}:gG (sp r c) (sp r' c')=.ok (.bl (!((r==r')&&((c==c')&&true)))):=rfl
theorem eS{r c r' c':Int}:iA (sp r c) (sp r' c')=.ok (.bl ((r==r')&&((c==c')&&true))):=rfl
noncomputable def J2:=And.intro @LC (And.intro @Kv (And.intro @ME (And.intro @NG (And.intro @nI (And.intro @eI (And.intro @nS (And.intro @eS (And.intro @HL (And.intro @L3 (And.intro @JN (@Je)))))))))))
set_option hygiene false
local macro_rules | `(tactic| simp! only [$x,*] $[$l:location]?) => `(tactic| simp only [au, cB, cE, aF, fA, ax, bE, BV, nB, d6, kc, gE, List.replicate, Nat.reduceAdd, Nat.reduceSub, reduceIte, ite_true, ite_false, BEq.rfl, beq_self_eq_true, kH, H8, Gj, F0, MY, M1, sv, NO, N5, ML, BW, Co, Gp, Ga, HH, Gn, M5, M4, Nt, Nf, My, HU, oLt, oLe, lL, lT, lS, tL, aL, Mu, Nk, F8, jA, jB, jC, jD, jE, jF, jG, jH, jI, jJ, jK, jL, jM, jN, jO, jP, KJ.iZ, MC, JN, L3, Je, Ca, jQ, jR, LC, Kv, ME, NG, nI, eI, nS, eS, HL, $x,*] $[$l]?)
local macro_rules | `(tactic| dsimp! only [$x,*] $[$l:location]?) => `(tactic| simp only [au, cB, cE, aF, fA, ax, bE, BV, nB, d6, kc, gE, List.replicate, Nat.reduceAdd, Nat.reduceSub, reduceIte, ite_true, ite_false, BEq.rfl, beq_self_eq_true, J, J2, $x,*] $[$l]?)
set_option hygiene true
theorem mE(F:aO)(i:Int):au F cZ [.int i]=.ok (.bl true):=by rfl
def mR{α:Type}{xs:List α}{k:Nat}(h:k<xs.length):rF xs (k:Int)=some xs[k]:=by
 unfold rF FV;have:((k:Nat):Int)<(xs.length:Int):=by omega
 simp [this,h]
def sM{ns:List Int}{k:Int}(h0:0<=k)(h:k<ns.length):∃m,rF (ns.map PV.int) k=some (.int m):=by
 obtain⟨j,rfl⟩:=zzw h0
 refine⟨ns[j]'(by omega),?_⟩;rw [mR (k:=j) (by simp;omega)];simp
def vL(ns:List Int)(n:Nat):Ci.plain (n+1) (.lst (ns.map .int))=true:=by
 simp! [Ci.plain,zzT,zzx]
 rintro x ⟨i,_,rfl⟩
 cases n<;>rfl
def eq_nil(ns:List Int):iA (iL ns) (.lst [])=.ok (.bl (decide (ns=[]))):=by
 have e:nO (iL ns)=true:=vL ns 8
 unfold iA;rw [e];cases ns<;>rfl
def z9(F:aO)(ns:List Int)(k:Int)(hk:0<=k):∃m,au F cb [iL ns,.int k]=.ok (.int m):=by
 simp! only [cb,zzl,eq_nil]
 by_cases h:k<(ns.length:Int)
 ·obtain⟨m,e⟩:=sM hk h
  refine⟨m,?_⟩;simp! only [h,decide_true,aJ,e]
 ·simp! only [h,decide_false,eq_nil];cases ns with
  |nil=>exact⟨0,rfl⟩
  |cons n ns=>
   have hl:(0:Int)<((n::ns).length:Int):=by simp! [zzL];omega
   obtain⟨m,e⟩:=sM (ns:=n::ns) (k:=k%((n::ns).length:Int)) (Int.emod_nonneg _ (by omega)) (Int.emod_lt_of_pos _ hl)
   refine⟨m*31+k,?_⟩;have e3:(aG m||aG 31)=true:=by rw [zzt];exact .inr (by decide)
   have e4:aJ (iL (n::ns)) (.int (k%((n::ns).length:Int)))=.ok (.int m):=by simp! [aJ,e];rfl
   have e5:decide ((n::ns)=[])=false:=rfl
   simp! [zzL] at hl e4;simp! only [e5,zzl,hl,e4,e3]
def Bc(F:aO)(hc:∀ns k,0<=k->∃m,F "_law_cell" [iL ns,.int k]=.ok (.int m))(ns:List Int)(k q:Int)(hk:0<=k)(hq:0<q):∃m,au F bI [iL ns,.int k,.int q]=.ok (.int m)/\0<=m/\m<q:=by
 obtain⟨m,e⟩:=hc ns k hk
 have s1:(aG 6151||aG (k+1))=true:=by rw [zzt];exact .inl (by decide)
 have s2:(aG (m+6151*(k+1))||aG 40692)=true:=by rw [zzt];exact .inr (by decide)
 have s3:(0:Int)<2147483399:=by decide
 have s4:(0:Int)<2147483629:=by decide
 have s5:(0:Int)<31/\(31:Int)<1073741824:=by decide
 have a0:=Int.emod_nonneg ((m+6151*(k+1))*40692) (b:=2147483399) (by decide)
 have a1:=Int.emod_lt_of_pos ((m+6151*(k+1))*40692) s3
 refine⟨((((m+6151*(k+1))*40692%2147483399)*((m+6151*(k+1))*40692%2147483399)+((m+6151*(k+1))*40692%2147483399)/31)%2147483629)%q,?_,Int.emod_nonneg _ (by omega),Int.emod_lt_of_pos _ hq⟩;generalize hd:(m+6151*(k+1))*40692%2147483399=d at a0 a1
 have s6:(aG d||aG d)=true:=by
  have:aG d=true:=by simp! [aG,zza,zzN];omega
  rw [this];rfl
 simp! only [bI,iL] at e⊢;simp! only [e,s1,s2,s3,s4,s5,hd,s6,hq,and_self]
def qR(rows:List Str):Prop:=rows.length<=6/\∀z∈rows,z.length<=6
noncomputable abbrev fl(rows:List Str):PV:=.tup (rows.map .str)
noncomputable def cd(rows:List Str)(r c:Nat):Option Nat:=(rows[r]?).bind λz=>z.cps.toList[c]?
noncomputable def lU(rows:List Str)(r c:Nat):Bool:=match cd rows r c with|some x=>x !=35|none=>false
noncomputable def cu(rows:List Str)(r c:Int):Bool:=decide (0<=r)&&decide (0<=c)&&lU rows r.toNat c.toNat
def rb(F:aO)(h:∀i,F "is_whole" [.int i]=.ok (.bl true))(r c:Int):au F cW [sp r c]=.ok (.bl true):=by
 have e0:aJ (sp r c) (.int 0)=.ok (.int r):=rfl
 have e1:aJ (sp r c) (.int 1)=.ok (.int c):=rfl
 have e2:iA (.int ((2:Nat):Int)) (.int 2)=.ok (.bl true):=rfl
 simp! only [cW,qZ,h,e0,e1,e2]
def HM(F:aO)(rows:List Str)(R:qR rows)(r c:Int):au F bz [fl rows,sp r c]=.ok (.bl (decide (0<=r)&&decide (0<=c)&&(cd rows r.toNat c.toNat).isSome)):=by
 have e0:aJ (sp r c) (.int 0)=.ok (.int r):=rfl
 have e1:aJ (sp r c) (.int 1)=.ok (.int c):=rfl
 simp! only [bz,qZ,e0,e1,oM,pB,zzl]
 by_cases h0:0<=r
 ·by_cases h1:r<(rows.length:Int)
  ·obtain⟨j,rfl⟩:=zzw h0
   have hj:j<rows.length:=by omega
   have e2:aJ (fl rows) (.int (j:Int))=.ok (.str rows[j]):=by
    simp! [aJ,fl];rw [mR (k:=j) (by simpa using hj)];simp [Res.of]
   have e3:(rows[j]).length<=bG:=zzU (R.2 _ (List.getElem_mem hj)) (by decide)
   have e4:(rows[j]).cps.size=(rows[j]).length:=rfl
   simp! only [h0,h1,decide_true,e2,e3]
   by_cases h2:0<=c
   ·obtain⟨i,rfl⟩:=zzw h2
    simp! only [h2,decide_true,cd,zz4,zzg hj,Option.bind_some,Bool.and_self,Bool.true_and,Res.ok.injEq,PV.bl.injEq];rw [Bool.eq_iff_iff];simp [e4]
   ·simp [au,cB,cE,aF,fA,ax,bE,BV,nB,d6,kc,gE,List.replicate,Nat.reduceAdd,Nat.reduceSub,reduceIte,ite_true,ite_false,BEq.rfl,beq_self_eq_true,J,h2]
  ·have:cd rows r.toNat c.toNat=none:=by
    unfold cd;rw [List.getElem?_eq_none (by omega)];rfl
   simp [au,cB,cE,aF,fA,ax,bE,BV,nB,d6,kc,gE,List.replicate,Nat.reduceAdd,Nat.reduceSub,reduceIte,ite_true,ite_false,BEq.rfl,beq_self_eq_true,J,h0,h1,this]
 ·simp [au,cB,cE,aF,fA,ax,bE,BV,nB,d6,kc,gE,List.replicate,Nat.reduceAdd,Nat.reduceSub,reduceIte,ite_true,ite_false,BEq.rfl,beq_self_eq_true,J,h0]
def df{rows:List Str}{j:Nat}{z:Str}(h:rows[j]?=some z):aJ (fl rows) (.int (j:Int))=.ok (.str z):=by
 obtain⟨hj,rfl⟩:=zzH.1 h
 simp! [aJ,fl];rw [mR (k:=j) (by simpa using hj)];simp [Res.of]
def sZ{z:Str}{i x:Nat}(hz:z.length<=bG)(h:z.cps.toList[i]?=some x):aJ (.str z) (.int (i:Int))=.ok (.str ⟨#[x]⟩):=by
 obtain⟨hj,rfl⟩:=zzH.1 h
 simp! [aJ,hz,if_true];rw [mR (k:=i) hj]
 rfl
def lJ{rows:List Str}(R:qR rows){j i x:Nat}(h:cd rows j i=some x):∃z,rows[j]?=some z/\aJ (fl rows) (.int (j:Int))=.ok (.str z)/\aJ (.str z) (.int (i:Int))=.ok (.str ⟨#[x]⟩):=by
 unfold cd at h;cases hz:rows[j]? with
 |none=>rw [hz] at h;cases h
 |some z=>
  rw [hz] at h;exact⟨z,rfl,df hz,sZ (zzU (R.2 _ (zzD hz)) (by decide)) h⟩
def i6(x:Nat):gG (.str ⟨#[x]⟩) (.str "#")=.ok (.bl (x !=35)):=by
 have:(("#":Str))=⟨#[35]⟩:=by decide+kernel
 rw [this];show Res.ok (PV.bl (!((⟨#[x]⟩:Str)==⟨#[35]⟩)))=_
 congr 2
 rw [bne,Bool.eq_iff_iff];simp
def AN(F:aO)(hs:∀r c,F "is_spot" [sp r c]=.ok (.bl true))(ho:∀rows,qR rows->∀r c,F "is_on_floor" [fl rows,sp r c]=.ok (.bl (decide (0<=r)&&decide (0<=c)&&(cd rows r.toNat c.toNat).isSome)))
 (rows:List Str) (R:qR rows) (r c:Int):au F cf [fl rows,sp r c]=.ok (.bl (cu rows r c)):=by
 have e0:aJ (sp r c) (.int 0)=.ok (.int r):=rfl
 have e1:aJ (sp r c) (.int 1)=.ok (.int c):=rfl
 simp! only [cf,hs,ho rows R,e0,e1];unfold cu lU
 by_cases h0:0<=r
 ·by_cases h1:0<=c
  ·obtain⟨j,rfl⟩:=zzw h0
   obtain⟨i,rfl⟩:=zzw h1
   simp! [h0,h1,decide_true,Bool.true_and,Bool.and_self,zz4];cases hc:cd rows j i with
   |none=>simp [au,cB,cE,aF,fA,ax,bE,BV,nB,d6,kc,gE,List.replicate,Nat.reduceAdd,Nat.reduceSub,reduceIte,ite_true,ite_false,BEq.rfl,beq_self_eq_true,J]
   |some x=>
    obtain⟨z,_,e2,e3⟩:=lJ R hc
    simp! only [Option.isSome_some,e2,e3,i6]
  ·simp [au,cB,cE,aF,fA,ax,bE,BV,nB,d6,kc,gE,List.replicate,Nat.reduceAdd,Nat.reduceSub,reduceIte,ite_true,ite_false,BEq.rfl,beq_self_eq_true,J,h1]
 ·simp [au,cB,cE,aF,fA,ax,bE,BV,nB,d6,kc,gE,List.replicate,Nat.reduceAdd,Nat.reduceSub,reduceIte,ite_true,ite_false,BEq.rfl,beq_self_eq_true,J,h0]
def nV(F:aO)(ho:∀rows,qR rows->∀r c,F "is_open" [fl rows,sp r c]=.ok (.bl (cu rows r c)))(rows:List Str)(R:qR rows)(r c:Int)(h:cu rows r c=true):au F aZ [fl rows,sp r c]=.ok .aI:=by
 simp! only [aZ,ho rows R,h]
noncomputable abbrev u0(p:Int×Int):PV:=sp p.1 p.2
theorem bf{α:Type}{f:PV->Res (Option PV)}{p:α->PV}{g:α->PV}:∀{xs:List α},(∀x∈xs,f (p x)=.ok (some (g x)))->az f (xs.map p)=.ok (xs.map g)
 |[],_=>rfl
 |x::xs,h=>by
  simp! [zzF,az,h x (zzP ..),Res.well,Res.bind,bf (xs:=xs) λy hy=>h y (zzI _ hy),oc]
def cP{rows:List Str}{r c:Int}:cu rows r c=true↔0<=r/\0<=c/\lU rows r.toNat c.toNat=true:=by
 simp! [cu,zza,zzN,and_assoc]
theorem cU{body:PV->Sl->Res Fl}{P:Nat->Sl->Prop}:∀(xs:List PV) (k:Nat) (env:Sl),P k env->(∀i x env,xs[i]?=some x->P (k+i) env->∃aj,body x env=.ok (.nx aj)/\P (k+i+1) aj)->∃aj,forL body xs env=.ok (.nx aj)/\P (k+xs.length) aj
 |[],k,env,h,_=>⟨env,rfl,h⟩
 |x::xs,k,env,h,g=>by
  obtain⟨e1,b1,p1⟩:=g 0 x env rfl h
  obtain⟨e2,b2,p2⟩:=cU xs (k+1) e1 p1 λi y env hy hp=>by
   obtain⟨e3,b3,p3⟩:=g (i+1) y env hy (by rw [show k+(i+1)=k+1+i by omega];exact hp)
   exact⟨e3,b3,by rw [show k+1+i+1=k+(i+1)+1 by omega];exact p3⟩
  refine⟨e2,?_,by rw [zzL,show k+(xs.length+1)=k+1+xs.length by omega];exact p2⟩;simp! [forL,b1,kH,b2]
def qd{n i:Nat}{x:PV}(h:(dQ 0 n)[i]?=some x):i<n/\x=.int (i:Int):=by
 simp! [dQ,zzQ,zzJ] at h;obtain⟨j,hj,rfl⟩:=h
 obtain⟨h1,h2⟩:=zzH.1 hj
 simp! [List.getElem_range] at h2;subst h2;simp! [List.length_range] at h1;exact⟨h1,by simp⟩
def qJ(F:aO):Prop:=∀(ns:List Int) (k q:Int),0<=k->0<q->∃m,F "_law_pick" [iL ns,.int k,.int q]=.ok (.int m)/\0<=m/\m<q
def sF{a b c d m:Int}(h0:0<=m)(h1:m<4):∃v,aJ (.lst [.int a,.int b,.int c,.int d]) (.int m)=.ok (.int v)/\(v=a\/v=b\/v=c\/v=d):=by
 have:m=0\/m=1\/m=2\/m=3:=by omega
 rcases this with rfl|rfl|rfl|rfl
 ·exact⟨a,rfl,.inl rfl⟩
 ·exact⟨b,rfl,.inr (.inl rfl)⟩
 ·exact⟨c,rfl,.inr (.inr (.inl rfl))⟩
 ·exact⟨d,rfl,.inr (.inr (.inr rfl))⟩
noncomputable def BN:Ss:=#v[.set 11 (.call "_law_pick" #v[!0,.bin .add (.bin .add (.bin .add (!1) (¬4)) (.bin .mul (!2) (!8))) (!10),.bin .mul (¬12) (!6)]),.set 9 (.bin .add (!9) (.ite (.cmp .lt (.bin .mod (!11) (¬12)) (!5)) (.cst (.str "#")) (.blt .str #v[.bin .fdiv (!11) (¬12)])))]
noncomputable def DZ:Ss:=#v[.set 9 (.cst (.str "")),.cQ (.one 10) (.rn (!4)) BN,.app 7 (!9)]
structure Fl(rows:List Str)(w:Nat):Prop where
 dm:qR rows
 ne:0<rows.length
 w1:1<=w
 cy:∀z∈rows,z.length=w
 dig:∀z∈rows,∀x∈z.cps.toList,x=35\/(48<=x/\x<=57)
def zg{v:Int}(h0:0<=v)(h1:v<10):cw .str [.int v]=.ok (.str ⟨#[48+v.toNat]⟩):=by
 obtain⟨n,rfl⟩:=zzw h0
 have key:∀k:Fin 10,(((k.1:Nat):Int).natAbs.log2<1920)/\((toString ((k.1:Nat):Int)):Str)=⟨#[48+k.1]⟩:=by decide+kernel
 have k:=key ⟨n,Int.ofNat_lt.1 h1⟩
 show(if _ then Res.ok (PV.str _) else _)=_
 rw [if_pos k.1,zz4,k.2]
def tH{x:Nat}(h0:48<=x)(h1:x<=57):cw .int [.str ⟨#[x]⟩]=.ok (.int ((x:Int)-48)):=by
 have key:∀k:Fin 10,PySem.intText? (⟨#[48+k.1]⟩:Str)=some (((48+k.1:Nat):Int)-48):=by decide+kernel
 obtain⟨k,rfl⟩:=Nat.exists_eq_add_of_le h0
 have e:=key ⟨k,Nat.lt_succ_of_le (Nat.le_of_add_le_add_left (a:=48) h1)⟩
 show(if(⟨#[48+k]⟩:Str).length<=640 then(Res.of (PySem.intText? (⟨#[48+k]⟩:Str))).bind λn=>Res.ok (PV.int n) else .bad)=_
 rw [if_pos (show(⟨#[48+k]⟩:Str).length<=640 from(by show 1<=640;decide)),e]
 rfl
def CV(F:aO)(hp:qJ F)(ns:List Int)(q a b sh tp:Int)(Ow:0<=q)(NI:q<=6)(h1:1<=tp)(h2:tp<=10)(own:PV)(i n:Nat)(hn:n<=6)(Cy Fp:Ci.Slot):
 ∃(z:Str) (Cb BX:Ci.Slot),z.length=n/\(∀x∈z.cps.toList,x=35\/(48<=x/\x<=57))/\forL (λx env=>((Tg.one 10).put x env).bind λaj=>aF F BN aj) (dQ 0 n) [.val (iL ns),.val (.int 0),.val (.int q),.val (.int a),.val (.int b),.val (.int sh),.val (.int tp),.own own,.val (.int i),.val (.str ""),Cy,Fp]=
  .ok (.nx [.val (iL ns),.val (.int 0),.val (.int q),.val (.int a),.val (.int b),.val (.int sh),.val (.int tp),.own own,.val (.int i),.val (.str z),Cb,BX]):=by
 obtain⟨aj,e,z,Cb,BX,hz,hd,rfl⟩:=cU (body:=λx env=>((Tg.one 10).put x env).bind λaj=>aF F BN aj) (P:=λj env=>∃(z:Str) (Cb BX:Ci.Slot),z.length=j/\(∀x∈z.cps.toList,x=35\/(48<=x/\x<=57))/\env=[.val (iL ns),.val (.int 0),.val (.int q),.val (.int a),.val (.int b),.val (.int sh),.val (.int tp),.own own,.val (.int i),.val (.str z),Cb,BX]) (dQ 0 n) 0 [.val (iL ns),.val (.int 0),.val (.int q),.val (.int a),.val (.int b),.val (.int sh),.val (.int tp),.own own,.val (.int i),.val (.str ""),Cy,Fp] ⟨_,_,_,by decide+kernel,by decide+kernel,rfl⟩ (by
  intro j x env hx hq;obtain⟨hj,rfl⟩:=qd hx
  obtain⟨z,Cb,BX,hz,hd,rfl⟩:=hq
  obtain⟨m,em,m0,m1⟩:=hp ns (0+4+q*(i:Int)+(j:Int)) (12*tp) (by
   have:=Int.mul_nonneg Ow (Int.natCast_nonneg i)
   omega) (by omega)
  have q1:(aG q||aG (i:Int))=true:=by
   have:aG q=true:=by simp! [aG,zza,zzN];omega
   rw [this];rfl
  have q2:(aG 12||aG tp)=true:=by rw [zzt];exact .inl (by decide)
  have q3:(0:Int)<12:=by decide
  have q4:(0:Int)<12/\(12:Int)<1073741824:=by decide
  have ew:=zg (v:=m/12) (by omega) (by omega)
  have Kx:(("#":Str))=⟨#[35]⟩:=by decide+kernel
  by_cases hm:m%12<sh
  ·refine⟨[.val (iL ns),.val (.int 0),.val (.int q),.val (.int a),.val (.int b),.val (.int sh),.val (.int tp),.own own,.val (.int i),.val (.str (z++"#")),.val (.int j),.val (.int m)],?_,_,_,_,?_,?_,rfl⟩
   ·have l:z.length+(("#":Str)).length<=bG:=zzU (show _<=8 by rw [Kx];show z.length+1<=8;omega) (by decide)
    simp! only [BN,q1,q2,q3,q4,em,hm,decide_true,l,and_self]
   ·rw [Str.length_append,Kx];show z.length+1=_;omega
   ·rw [Kx];show∀x∈(z.cps++#[35]).toList,_;intro x hx;simp! [Array.toList_append,List.mem_append,zzi] at hx;rcases hx with hx|hx
    ·exact hd x hx
    ·exact .inl hx
  ·refine⟨[.val (iL ns),.val (.int 0),.val (.int q),.val (.int a),.val (.int b),.val (.int sh),.val (.int tp),.own own,.val (.int i),.val (.str (z++⟨#[48+(m/12).toNat]⟩)),.val (.int j),.val (.int m)],?_,_,_,_,?_,?_,rfl⟩
   ·have l:z.length+(⟨#[48+(m/12).toNat]⟩:Str).length<=bG:=zzU (show z.length+1<=8 by omega) (by decide)
    simp! only [BN,q1,q2,q3,q4,em,hm,decide_false,l,and_self,ew]
   ·rw [Str.length_append];show z.length+1=_;omega
   ·show∀x∈(z.cps++#[48+(m/12).toNat]).toList,_
    intro x hx;simp! [Array.toList_append,List.mem_append,zzi] at hx;rcases hx with hx|hx
    ·exact hd x hx
    ·exact .inr (by omega))
 refine⟨z,Cb,BX,?_,hd,e⟩
 simpa [dQ] using hz
def vm(F:aO)(hp:qJ F)(ns:List Int)(q:Int)(Pz:1<=q)(NI:q<=6):∃rows w,Fl rows w/\au F bq [iL ns,.int 0,.int q]=.ok (fl rows):=by
 obtain⟨a,ea,a0,a6⟩:=hp ns 0 q (by decide) (by omega)
 obtain⟨b,eb,b0,b6⟩:=hp ns (0+1) q (by decide) (by omega)
 obtain⟨c,ec,c0,c4⟩:=hp ns (0+2) 4 (by decide) (by decide)
 obtain⟨d,ed,d0,d4⟩:=hp ns (0+3) 4 (by decide) (by decide)
 obtain⟨sh,es,hs⟩:=sF (a:=0) (b:=2) (c:=4) (d:=6) c0 c4
 obtain⟨tp,et,ht⟩:=sF (a:=1) (b:=2) (c:=3) (d:=10) d0 d4
 have t1:1<=tp:=by omega
 have t2:tp<=10:=by omega
 have sa:aD (1+a)=true:=by simp! [aD,zza,zzN];omega
 have sb:aD (1+b)=true:=by simp! [aD,zza,zzN];omega
 obtain⟨aj,e,rows,s8,s9,Cy,Fp,hl,hr,hd,rfl⟩:=cU (body:=λx env=>((Tg.one 8).put x env).bind λaj=>aF F DZ aj)
  (P:=λi env=>∃(rows:List Str) (s8 s9 Cy Fp:Ci.Slot),rows.length=i/\(∀z∈rows,z.length=(1+b).toNat)/\(∀z∈rows,∀x∈z.cps.toList,x=35\/(48<=x/\x<=57))/\env=[.val (iL ns),.val (.int 0),.val (.int q),.val (.int (1+a)),.val (.int (1+b)),.val (.int sh),.val (.int tp),.own (.lst (rows.map .str)),s8,s9,Cy,Fp])
  (dQ 0 (1+a).toNat) 0 [.val (iL ns),.val (.int 0),.val (.int q),.val (.int (1+a)),.val (.int (1+b)),.val (.int sh),.val (.int tp),.own (.lst []),.no,.no,.no,.no] ⟨[],_,_,_,_,rfl,(λz hz=>by cases hz),(λz hz=>by cases hz),rfl⟩ (by
  intro i x env hx hq;obtain⟨hi,rfl⟩:=qd hx
  obtain⟨rows,s8,s9,Cy,Fp,hl,hr,hd,rfl⟩:=hq
  obtain⟨z,Cb,BX,hz,hzd,e⟩:=CV F hp ns q (1+a) (1+b) sh tp (by omega) NI t1 t2 (.lst (rows.map .str)) i (1+b).toNat (by omega) Cy Fp
  have l:(rows.map PV.str).length<bG:=zzV (m:=6) (by simp! [zzl];omega) (by decide)
  refine⟨[.val (iL ns),.val (.int 0),.val (.int q),.val (.int (1+a)),.val (.int (1+b)),.val (.int sh),.val (.int tp),.own (.lst ((rows++[z]).map .str)),.val (.int i),.val (.str z),Cb,BX],?_,rows++[z],_,_,_,_,by simp;omega,?_,?_,rfl⟩
  ·have e':=e
   simp! only [BN] at e';simp! [zzl] at l;simp! only [DZ,BN,sb,e',zzl,l,List.map_append]
  ·intro y hy;simp! [List.mem_append,zzi] at hy;rcases hy with hy|rfl
   ·exact hr y hy
   ·exact hz
  ·intro y hy;simp! [List.mem_append,zzi] at hy;rcases hy with hy|rfl
   ·exact hd y hy
   ·exact hzd)
 have yV:rows.length=(1+a).toNat:=by simpa [dQ] using hl
 refine⟨rows,(1+b).toNat,⟨⟨by omega,λz hz=>by rw [hr z hz];omega⟩,by omega,by omega,hr,hd⟩,?_⟩
 simp! only [DZ,BN] at e;simp! only [bq,bq,ea,eb,ec,ed,es,et,sa,e]
noncomputable def hZ(rows:List Str)(r c:Int):Int:=match cd rows r.toNat c.toNat with
 |some x=>(x:Int)-48
 |none=>0
def gN{rows:List Str}{r c:Int}(h:cu rows r c=true):∃(i j x:Nat),r=i/\c=j/\cd rows i j=some x/\x≠35:=by
 obtain⟨h0,h1,h2⟩:=cP.1 h
 obtain⟨i,rfl⟩:=zzw h0
 obtain⟨j,rfl⟩:=zzw h1
 simp! [zz4,lU] at h2;cases hc:cd rows i j with
 |none=>rw [hc] at h2;cases h2
 |some x=>
  rw [hc] at h2;exact⟨i,j,x,rfl,rfl,hc,by simpa using h2⟩
def xk{rows:List Str}{w:Nat}(L:Fl rows w){i j x:Nat}(h:cd rows i j=some x):x=35\/(48<=x/\x<=57):=by
 unfold cd at h;cases hz:rows[i]? with
 |none=>rw [hz] at h;cases h
 |some z=>
  rw [hz] at h;exact L.dig z (zzD hz) x (zzD h)
def CQ{rows:List Str}{w:Nat}(L:Fl rows w){r c:Int}(h:cu rows r c=true):∃z x,aJ (fl rows) (.int r)=.ok (.str z)/\aJ (.str z) (.int c)=.ok (.str ⟨#[x]⟩)/\cw .int [.str ⟨#[x]⟩]=.ok (.int (hZ rows r c))/\0<=hZ rows r c/\hZ rows r c<=9:=by
 obtain⟨i,j,x,rfl,rfl,hc,hx⟩:=gN h
 obtain⟨z,_,e1,e2⟩:=lJ L.dm hc
 have hd:=(xk L hc).resolve_left hx
 have hh:hZ rows i j=(x:Int)-48:=by simp! [hZ,zz4,hc]
 refine⟨z,x,e1,e2,?_,?_⟩
 ·rw [hh];exact tH hd.1 hd.2
 ·rw [hh];omega
def GX(r c r' c':Int):Prop:=(r=r'/\c=c')\/1<r-r'\/1<r'-r\/1<c-c'\/1<c'-c
def xG(F:aO):Prop:=∀rows,qR rows->∀r c,F "is_open" [fl rows,sp r c]=.ok (.bl (cu rows r c))
def u6(F:aO)(hn:∀rows,qR rows->∀r c,cu rows r c=true->F "need_open" [fl rows,sp r c]=.ok .aI){rows:List Str}{w:Nat}(L:Fl rows w){r c:Int}(h:cu rows r c=true):au F bj [fl rows,sp r c]=.ok (.int (hZ rows r c)):=by
 obtain⟨z,x,e1,e2,e3,_⟩:=CQ L h
 simp! only [bj,hn rows L.dm r c h,LC,Kv,e1,e2,e3]
def GP{rows:List Str}{w:Nat}(L:Fl rows w){i j:Nat}(hi:i<rows.length)(hj:j<w):∃x,cd rows i j=some x:=by
 have hz:rows[i]?=some rows[i]:=zzg hi
 have hl:=L.cy _ (zzD hz)
 refine⟨(rows[i]).cps.toList[j]'(by simp! [zzd];rw [<-hl] at hj;exact hj),?_⟩;unfold cd;rw [hz];exact zzg _
def dW{rows:List Str}{w:Nat}(L:Fl rows w){r c:Int}(h:cu rows r c=true):0<=r/\r<rows.length/\0<=c/\c<w:=by
 obtain⟨i,j,x,rfl,rfl,hc,_⟩:=gN h
 unfold cd at hc;cases hz:rows[i]? with
 |none=>rw [hz] at hc;cases hc
 |some z=>
  rw [hz] at hc;have h1:=(zzH.1 hz).1
  have h2:=(zzH.1 hc).1
  have hl:=L.cy _ (zzD hz)
  simp! [zzd] at h2;have:z.cps.size=z.length:=rfl
  omega
noncomputable abbrev kN(p:Nat×Nat):List Int:=[(p.1:Int),(p.2:Int)]
abbrev Up(L:List (Nat×Nat)):Prop:=L.Pairwise λp q=>HT.lexLt (kN p) (kN q)=true
def qk:Up []:=.nil
def Kh{p q:Nat×Nat}(h:p.1<q.1\/p.1=q.1/\p.2<q.2):HT.lexLt (kN p) (kN q)=true:=by
 simp! [HT.lexLt];rcases h with h|⟨h1,h2⟩
 ·rw [if_neg (by omega)];exact zzh (by omega)
 ·rw [if_pos (by omega),if_neg (by omega)];exact zzh (by omega)
noncomputable abbrev cK(p:Nat×Nat):PV:=sp p.1 p.2
theorem nC:∀{xs:List PV} {k i:Nat} {x:PV},(bB k xs)[i]?=some x->∃y,xs[i]?=some y/\x=.tup [.int ((k+i:Nat):Int),y]
 |[],_,_,_,h=>by cases h
 |y::ys,k,0,x,h=>by
  simp! [bB,List.getElem?_cons_zero,Option.some.injEq] at h;exact⟨y,rfl,h.symm⟩
 |y::ys,k,i+1,x,h=>by
  simp! [bB,List.getElem?_cons_succ] at h;obtain⟨w,h1,h2⟩:=nC h
  refine⟨w,h1,?_⟩;rw [h2,show k+1+i=k+(i+1) by omega]
theorem bu:∀(xs:List PV) (k:Nat),(bB k xs).length=xs.length
 |[],_=>rfl
 |x::xs,k=>by simp! [bB,zzL,bu xs]
theorem ju{f:PV->Res (Option PV)}{r:Nat}(hf:∀c x:Nat,f (.tup [.int c,.str ⟨#[x]⟩])=.ok (if x !=35 then some (sp r c) else none)):∀(xs:List Nat) (k:Nat),∃L:List (Nat×Nat),az f (bB k (xs.map λx=>.str ⟨#[x]⟩))=.ok (L.map cK)/\Up L/\L.length<=xs.length/\∀a b,(a,b)∈L↔a=r/\k<=b/\∃x,xs[b-k]?=some x/\x≠35
 |[],k=>⟨[],rfl,qk,zzE _,λa b=>by simp⟩
 |x::xs,k=>by
  obtain⟨L,e,nd,l,h⟩:=ju hf xs (k+1)
  by_cases hx:x=35
  ·refine⟨L,?_,nd,Nat.le_succ_of_le l,λa b=>?_⟩
   ·have:(x !=35)=false:=by simp [hx]
    simp! [zzF,bB,az,hf,this,H8,kH,e,oc]
    rfl
   ·rw [h]
    constructor
    ·rintro ⟨h1,h2,y,h3,h4⟩
     refine⟨h1,by omega,y,?_,h4⟩;rw [show b-k=(b-(k+1))+1 by omega];exact h3
    ·rintro ⟨h1,h2,y,h3,h4⟩
     have:b≠k:=by
      rintro rfl
      simp at h3;omega
     refine⟨h1,by omega,y,?_,h4⟩;rw [show b-k=(b-(k+1))+1 by omega] at h3;exact h3
  ·refine⟨(r,k)::L,?_,List.pairwise_cons.2 ⟨(λp hp=>Kh (by have:=(h p.1 p.2).1 hp;omega)),nd⟩,Nat.succ_le_succ l,λa b=>?_⟩
   ·have:(x !=35)=true:=by simp [hx]
    simp! [zzF,bB,az,hf,this,H8,kH,e,oc,if_true]
   ·rw [zzm,h]
    constructor
    ·rintro (h1|⟨h1,h2,y,h3,h4⟩)
     ·cases h1;exact⟨rfl,zzE _,x,by simp,hx⟩
     ·refine⟨h1,by omega,y,?_,h4⟩;rw [show b-k=(b-(k+1))+1 by omega];exact h3
    ·rintro ⟨h1,h2,y,h3,h4⟩
     by_cases hb:b=k
     ·subst hb;subst h1;exact .inl rfl
     ·refine .inr ⟨h1,by omega,y,?_,h4⟩;rw [show b-k=(b-(k+1))+1 by omega] at h3;exact h3
def iM{rows:List Str}{r c:Nat}:lU rows r c=true↔∃z,rows[r]?=some z/\∃x,z.cps.toList[c]?=some x/\x≠35:=by
 unfold lU cd;cases hz:rows[r]? with
 |none=>simp
 |some z=>
  simp! [Option.bind_some];cases hx:z.cps.toList[c]? with
  |none=>
   refine⟨(λh=>by cases h),?_⟩
   rintro ⟨w,hw,x,vD,_⟩
   cases hw;rw [hx] at vD;cases vD
  |some x=>
   refine⟨λh=>⟨z,rfl,x,hx,by simpa using h⟩,?_⟩
   rintro ⟨w,hw,y,hy,h⟩
   cases hw;rw [hx] at hy;cases hy
   simpa using h
noncomputable def wU:Ss:=#v[.js 1 (.bX 2 [2] (.two 0 1) (.enum (!3)) (.cmp .ne (!1) (.cst (.str "#"))) (.tup #v[!2,!0]))]
def yv(F:aO)(rows:List Str)(R:qR rows):∃L:List (Nat×Nat),au F br [fl rows]=.ok (.lst (L.map cK))/\Up L/\L.length<=36/\∀r c,(r,c)∈L↔lU rows r c=true:=by
 have OT:=R.1
 obtain⟨aj,e,L,s2,s3,nd,hl,hm,rfl⟩:=cU (body:=λx env=>((Tg.two 2 3).put x env).bind λaj=>aF F wU aj) (P:=λi env=>∃(L:List (Nat×Nat)) (s2 s3:Slot),Up L/\L.length<=6*i/\(∀r c,(r,c)∈L↔r<i/\lU rows r c=true)/\env=[.val (fl rows),.own (.lst (L.map cK)),s2,s3])
  (bB 0 (rows.map .str)) 0 [.val (fl rows),.own (.lst []),.no,.no] ⟨[],_,_,qk,zzE _,(λr c=>by simp),rfl⟩ (by
  intro i x env hx hq;obtain⟨y,hy,rfl⟩:=nC hx
  obtain⟨L,s2,s3,nd,hl,hm,rfl⟩:=hq
  simp! [zzQ,zzJ] at hy;obtain⟨z,hz,rfl⟩:=hy
  have DJ:=R.2 z (zzD hz)
  have hi:i<rows.length:=(zzH.1 hz).1
  obtain⟨M,eM,nM,lM,hM⟩:=ju (f:=λx=>((Tg.two 0 1).put x [.no,.no,.val (.int i)]).bind λaj=>((ou aj[1]?).bind λx=>gG x (.str "#")).bind λt=>qB t λt=>if t then(((ou aj[2]?).bind λp=>((ou aj[0]?).bind λp=>.ok [p]).bind λps=>.ok (p::ps)).bind λps=>.ok (.tup ps)).bind λy=>.ok (some y) else .ok none) (r:=i) (λc x=>by
   simp! only [i6];cases(x !=35)<;>rfl) z.cps.toList 0
  have lz:(bB 0 (chars z)).length<bG:=by
   rw [bu];refine zzV (m:=6) ?_ (by decide)
   simpa [chars,Str.length] using DJ
  have ll:(L.map cK).length+(M.map cK).length<=bG:=by
   refine zzU (m:=100) ?_ (by decide);simp! [zzl];have:z.cps.toList.length=z.length:=by simp [Str.length]
   omega
  refine⟨[.val (fl rows),.own (.lst ((L++M).map cK)),.val (.int i),.val (.str z)],?_,L++M,_,_,List.pairwise_append.2 ⟨nd,nM,λa ha b hb=>Kh (.inl (by have h1:=((hm a.1 a.2).1 ha).1;have h2:=((hM b.1 b.2).1 hb).1;omega))⟩,?_,?_,rfl⟩
  ·simp! only [wU,Je,Nat.zero_add,lz];rw [show chars z=z.cps.toList.map λx=>PV.str ⟨#[x]⟩ from rfl,eM]
   simp! only [ll,List.map_append]
  ·have:z.cps.toList.length=z.length:=by simp [Str.length]
   simp! [zzM];omega
  ·intro r c;rw [List.mem_append,hm,hM,iM]
   constructor
   ·rintro (⟨h1,h2⟩|⟨rfl,_,x,h3,h4⟩)
    ·exact⟨by omega,h2⟩
    ·exact⟨by omega,z,hz,x,h3,h4⟩
   ·rintro ⟨h1,w,h2,x,h3,h4⟩
    by_cases hr:r=i
    ·subst hr;rw [hz] at h2;cases h2;exact .inr ⟨rfl,Nat.zero_le _,x,h3,h4⟩
    ·exact .inl ⟨by omega,w,h2,x,h3,h4⟩)
 refine⟨L,?_,nd,(by rw [bu,zzl] at hl;omega),λr c=>?_⟩
 ·simp! only [wU] at e;simp! only [br,JN,e,List.modify_succ_cons,List.modify_zero_cons,F8]
 ·rw [hm];refine⟨λh=>h.2,λh=>⟨?_,h⟩⟩
  obtain⟨z,hz,_⟩:=iM.1 h
  have:=(zzH.1 hz).1
  rw [bu,zzl];omega
theorem j6{α σ:Type}{body:PV->Sl->Res Ci.Fl}{g:α->PV}{mk:List PV->σ->Sl}{app:α->List PV}{m M:Nat}:∀(l:List α) (acc:List PV) (s:σ),(∀a∈l,(app a).length<=m)->(∀a∈l,∀acc s,acc.length+m<=M->∃s',body (g a) (mk acc s)=.ok (.nx (mk (acc++app a) s')))->acc.length+m*l.length<=M->∃s',forL body (l.map g) (mk acc s)=.ok (.nx (mk (acc++l.flatMap app) s'))
 |[],acc,s,_,_,_=>⟨s,by simp [forL]⟩
 |a::l,acc,s,h1,h2,h3=>by
  have ha:=h1 a (zzP ..)
  rw [zzL,Nat.mul_succ] at h3;obtain⟨s1,e1⟩:=h2 a (zzP ..) acc s (by omega)
  obtain⟨s2,e2⟩:=j6 l (acc++app a) s1 (λb hb=>h1 b (zzI _ hb)) (λb hb=>h2 b (zzI _ hb)) (by rw [zzM];omega)
  refine⟨s2,?_⟩;simp! [zzF,forL,e1,kH,e2,List.flatMap_cons,List.append_assoc]
noncomputable def eU(x:Int):List Int:=[x-1+(0:Nat),x-1+(1:Nat),x-1+(2:Nat)]
def Iw(x:Int):dQ (x-1) (x+2-(x-1)).toNat=(eU x).map .int:=by
 rw [show(x+2-(x-1)).toNat=3 by omega]
 rfl
noncomputable def oI:Ss:=#v[.ite (.and (.cmp .ne (.tup #v[!3,!4]) (!1)) (.call "is_open" #v[!0,.tup #v[!3,!4]])) #v[.app 2 (.tup #v[!3,!4])] .nil]
noncomputable def oO:Ss:=#v[.cQ (.one 4) (.ng (.bin .sub (.sub (!1) (¬1)) (¬1)) (.bin .add (.sub (!1) (¬1)) (¬2))) oI]
noncomputable def yS(rows:List Str)(r c r' c':Int):Bool:=!((r'==r)&&((c'==c)&&true))&&cu rows r' c'
noncomputable def oT(rows:List Str)(r c r':Int):List (Int×Int):=(eU c).flatMap λc'=>if yS rows r c r' c' then [(r',c')] else []
noncomputable def fe(rows:List Str)(r c:Int):List (Int×Int):=(eU r).flatMap (oT rows r c)
def gz(rows:List Str)(r c r':Int):(oT rows r c r').length<=3:=by
 have:∀c',(if yS rows r c r' c' then [(r',c')] else []).length<=1:=λc'=>by split<;>simp
 simp! [oT,eU,List.flatMap_cons,List.flatMap_nil,zzM,List.length_nil];have h1:=this (c-1+(0:Nat));have h2:=this (c-1+(1:Nat));have h3:=this (c-1+(2:Nat))
 omega
def pG(rows:List Str)(r c:Int):(fe rows r c).length<=9:=by
 simp! [fe,eU,List.flatMap_cons,List.flatMap_nil,zzM,List.length_nil];have h1:=gz rows r c (r-1+(0:Nat));have h2:=gz rows r c (r-1+(1:Nat));have h3:=gz rows r c (r-1+(2:Nat))
 omega
def j5{rows:List Str}{r c r' c':Int}:(r',c')∈fe rows r c↔¬GX r c r' c'/\cu rows r' c'=true:=by
 have hn:∀x y:Int,y∈eU x↔¬1<x-y/\¬1<y-x:=by
  intro x y;simp! [eU,zzm,List.not_mem_nil,or_false];omega
 simp! [fe,oT,List.mem_flatMap,hn]
 constructor
 ·rintro ⟨a,ha,b,hb,h⟩
  split at h
  ·rename_i hk;simp! [zzi,Prod.mk.injEq] at h;obtain⟨rfl,rfl⟩:=h
   simp! [yS,zza,Bool.not_eq_true',Bool.and_true] at hk;refine⟨?_,hk.2⟩;unfold GX;have h1:=hk.1
   rw [Bool.and_eq_false_iff] at h1;simp! [beq_eq_false_iff_ne,ne_eq] at h1;omega
  ·cases h
 ·rintro ⟨hf,ho⟩
  unfold GX at hf;refine⟨r',by omega,c',by omega,?_⟩;have:yS rows r c r' c'=true:=by
   simp! [yS,ho,Bool.and_true,Bool.not_eq_true',Bool.and_eq_false_iff,beq_eq_false_iff_ne,ne_eq];omega
  rw [if_pos this];exact zzi.2 rfl
def kl{r:Int}(h0:0<=r)(h6:r<6):(aD (r-1)&&aD (r+2))=true:=by
 simp! [aD,zza,zzN];omega
def Fi(F:aO)(ho:xG F){rows:List Str}(R:qR rows){r c:Int}(OI:0<=r)(hr:r<6)(OE:0<=c)(hc:c<6):
 au F aB [fl rows,sp r c]=.ok (.lst ((fe rows r c).map u0)):=by
 have inner:∀(r':Int) (acc:List PV) (s4:Ci.Slot),acc.length+3<=50->∃JW,forL (λx env=>((Tg.one 4).put x env).bind λaj=>aF F oI aj) ((eU c).map .int) [.val (fl rows),.val (sp r c),.own (.lst acc),.val (.int r'),s4]=.ok (.nx [.val (fl rows),.val (sp r c),.own (.lst (acc++(oT rows r c r').map u0)),.val (.int r'),JW]):=by
  intro r' acc s4 hl;obtain⟨s',e⟩:=j6 (body:=λx env=>((Tg.one 4).put x env).bind λaj=>aF F oI aj) (g:=PV.int) (mk:=λacc (s:Ci.Slot)=>[.val (fl rows),.val (sp r c),.own (.lst acc),.val (.int r'),s]) (app:=λc'=>if yS rows r c r' c' then [sp r' c'] else []) (m:=1) (M:=60) (eU c) acc s4 (λc' _=>by split<;>simp) (λc' _ acc s hl=>by
   have l:acc.length<bG:=zzV (m:=60) (by omega) (by decide)
   refine⟨.val (.int c'),?_⟩;cases h1:(!((r'==r)&&((c'==c)&&true))) with
   |false=>simp! only [oI,h1,yS,Bool.false_and,zz6]
   |true=>
    cases h2:cu rows r' c' with
    |false=>simp! only [oI,h1,h2,yS,ho rows R,Bool.and_false,zz6]
    |true=>simp! only [oI,h1,h2,yS,ho rows R,Bool.and_self,l]) (by show acc.length+1*3<=60;omega)
  have k:(eU c).flatMap (λc'=>if yS rows r c r' c' then [sp r' c'] else [])=(oT rows r c r').map u0:=by
   simp! [oT,List.map_flatMap]
   congr 1
   funext c'
   split<;>rfl
  exact⟨s',by rw [e,k]⟩
 obtain⟨s',e⟩:=j6 (body:=λx env=>((Tg.one 3).put x env).bind λaj=>aF F oO aj) (g:=PV.int) (mk:=λacc (s:Ci.Slot×Ci.Slot)=>[.val (fl rows),.val (sp r c),.own (.lst acc),s.1,s.2]) (app:=λr'=>(oT rows r c r').map u0) (m:=3) (M:=50) (eU r) [] (.no,.no) (λr' _=>by rw [zzl];exact gz ..) (λr' _ acc s hl=>by
  obtain⟨JW,e⟩:=inner r' acc s.2 hl
  refine⟨(.val (.int r'),JW),?_⟩;simp! only [oI] at e;simp! only [oO,oI,kl OE hc,Iw,e]) (by show 0+3*3<=50;omega)
 simp! only [oO,oI] at e;simp! only [aB,kl OI hr,Iw,e,F8,fe,List.map_flatMap]
def BK(F:aO):Prop:=∀rows,qR rows->∀r c,0<=r->r<6->0<=c->c<6->F "open_spots_beside" [fl rows,sp r c]=.ok (.lst ((fe rows r c).map u0))
def EX(F:aO):Prop:=∀rows,qR rows->∀r c,cu rows r c=true->F "need_open" [fl rows,sp r c]=.ok .aI
def GU{rows:List Str}{w:Nat}(L:Fl rows w){r c:Int}(h:cu rows r c=true):0<=r/\r<6/\0<=c/\c<6:=by
 have h1:=dW L h
 have h2:=L.dm.1
 have h3:=L.dm.2 _ (List.getElem_mem L.ne)
 rw [L.cy _ (List.getElem_mem L.ne)] at h3;omega
theorem lQ{σ:Type}{f:PV->Res (Option PV)}{body:PV->Sl->Res Ci.Fl}{mk:List PV->σ->Sl}{M:Nat}:∀(xs ys acc:List PV) (s:σ),az f xs=.ok ys->(∀x∈xs,∀o,f x=.ok o->∀acc s,acc.length+1<=M->∃s',body x (mk acc s)=.ok (.nx (mk (acc++o.toList) s')))->acc.length+xs.length<=M->∃s',forL body xs (mk acc s)=.ok (.nx (mk (acc++ys) s'))
 |[],ys,acc,s,h,_,_=>by cases h;exact⟨s,by simp [forL]⟩
 |x::xs,ys,acc,s,h,hb,hl=>by
  rw [zzL] at hl;simp! [az] at h;cases hf:f x with
  |bad=>rw [hf] at h;cases h
  |exc c=>rw [hf] at h;cases h
  |ok o=>
   rw [hf,H8,kH] at h;obtain⟨zs,hz,h⟩:=Res.aK h
   cases h;obtain⟨s1,e1⟩:=hb x (zzP ..) o hf acc s (by omega)
   have lo:o.toList.length<=1:=by cases o<;>simp
   obtain⟨s2,e2⟩:=lQ xs zs (acc++o.toList) s1 hz (λy hy=>hb y (zzI _ hy)) (by rw [zzM];omega)
   refine⟨s2,?_⟩;simp! [forL,e1,kH,e2];cases o<;>simp [oc]
noncomputable def vV:Ss:=#v[.ite (.cmp .ne (!5) (.glob "WALL" (.str "#"))) #v[.app 1 (.tup #v[!2,!4])] .nil]
noncomputable def LI:Ss:=#v[.cQ (.two 4 5) (.enum (!3)) vV]
theorem og:∀{xs:List PV} {k:Nat} {x:PV},x∈bB k xs->∃(i:Nat) (y:PV),y∈xs/\x=.tup [.int (i:Int),y]
 |[],_,_,h=>by cases h
 |y::ys,k,x,h=>by
  simp! [bB,zzm] at h;rcases h with h|h
  ·exact⟨k,y,zzP ..,h⟩
  ·obtain⟨i,z,hz,e⟩:=og h
   exact⟨i,z,zzI _ hz,e⟩
def wa(F:aO)(rows:List Str)(R:qR rows):∃L:List (Nat×Nat),au F aX [fl rows]=.ok (.lst (L.map cK))/\Up L/\L.length<=36/\∀r c,(r,c)∈L↔lU rows r c=true:=by
 have OT:=R.1
 obtain⟨aj,e,L,s2,s3,s4,s5,nd,hl,hm,rfl⟩:=cU (body:=λx env=>((Tg.two 2 3).put x env).bind λaj=>aF F LI aj) (P:=λi env=>∃(L:List (Nat×Nat)) (s2 s3 s4 s5:Ci.Slot),Up L/\L.length<=6*i/\(∀r c,(r,c)∈L↔r<i/\lU rows r c=true)/\env=[.val (fl rows),.own (.lst (L.map cK)),s2,s3,s4,s5])
  (bB 0 (rows.map .str)) 0 [.val (fl rows),.own (.lst []),.no,.no,.no,.no] ⟨[],_,_,_,_,qk,zzE _,(λr c=>by simp),rfl⟩ (by
  intro i x env hx hq;obtain⟨y,hy,rfl⟩:=nC hx
  obtain⟨L,s2,s3,s4,s5,nd,hl,hm,rfl⟩:=hq
  simp! [zzQ,zzJ] at hy;obtain⟨z,hz,rfl⟩:=hy
  have DJ:=R.2 z (zzD hz)
  have hi:i<rows.length:=(zzH.1 hz).1
  have zc:z.cps.toList.length=z.length:=by simp [Str.length]
  obtain⟨M,eM,nM,lM,hM⟩:=ju (f:=λx=>match x with|.tup [.int c,.str y]=>.ok (if y !="#" then some (sp i c) else none)|_=>.bad) (r:=i) (λc x=>by
   have:((⟨#[x]⟩:Str) !="#")=(x !=35):=by
    have hw:(("#":Str))=⟨#[35]⟩:=by decide+kernel
    rw [hw,bne,bne,Bool.eq_iff_iff];simp
   simp! [this]) z.cps.toList 0
  obtain⟨s',e⟩:=lQ (body:=λx env=>((Tg.two 4 5).put x env).bind λaj=>aF F vV aj) (mk:=λacc (s:Ci.Slot×Ci.Slot)=>[.val (fl rows),.own (.lst acc),.val (.int i),.val (.str z),s.1,s.2]) (M:=100) _ _ (L.map cK) (s4,s5) eM (λx hx o ho acc s hl=>by
   obtain⟨c,y,hy,rfl⟩:=og hx
   obtain⟨v,_,rfl⟩:=zzx.1 hy
   have l:acc.length<bG:=zzV (m:=100) (by omega) (by decide)
   refine⟨(.val (.int c),.val (.str ⟨#[v]⟩)),?_⟩;have c9:gG (.str ⟨#[v]⟩) (.str "#")=.ok (.bl ((⟨#[v]⟩:Str) !="#")):=rfl
   cases hv:((⟨#[v]⟩:Str) !="#") with
   |true=>
    rw [hv] at c9;simp! [hv,if_true] at ho;cases ho;simp! only [vV,c9,l,Option.toList_some]
   |false=>
    rw [hv] at c9;simp! [hv,zze,if_false] at ho;cases ho;simp! only [vV,c9,Option.toList_none,zz6]) (by rw [bu,zzl,zzl];omega)
  refine⟨[.val (fl rows),.own (.lst ((L++M).map cK)),.val (.int i),.val (.str z),s'.1,s'.2],?_,L++M,_,_,_,_,List.pairwise_append.2 ⟨nd,nM,λa ha b hb=>Kh (.inl (by have h1:=((hm a.1 a.2).1 ha).1;have h2:=((hM b.1 b.2).1 hb).1;omega))⟩,?_,?_,rfl⟩
  ·rw [show(z.cps.toList.map λx=>PV.str ⟨#[x]⟩)=chars z from rfl] at e;simp! only [vV] at e;simp! only [LI,vV,Nat.zero_add,e,List.map_append]
  ·simp! [zzM];omega
  ·intro r c;rw [List.mem_append,hm,hM,iM]
   constructor
   ·rintro (⟨h1,h2⟩|⟨rfl,_,x,h3,h4⟩)
    ·exact⟨by omega,h2⟩
    ·exact⟨by omega,z,hz,x,h3,h4⟩
   ·rintro ⟨h1,w,h2,x,h3,h4⟩
    by_cases hr:r=i
    ·subst hr;rw [hz] at h2;cases h2;exact .inr ⟨rfl,Nat.zero_le _,x,h3,h4⟩
    ·exact .inl ⟨by omega,w,h2,x,h3,h4⟩)
 refine⟨L,?_,nd,(by rw [bu,zzl] at hl;omega),λr c=>?_⟩
 ·simp! only [LI,vV] at e;simp! only [aX,e,F8]
 ·rw [hm];refine⟨λh=>h.2,λh=>⟨?_,h⟩⟩
  obtain⟨z,hz,_⟩:=iM.1 h
  have:=(zzH.1 hz).1
  rw [bu,zzl];omega
theorem join_one:∀xs:List Nat,Str.join (⟨#[]⟩:Str) (xs.map λx=>(⟨#[x]⟩:Str))=⟨xs.toArray⟩
 |[]=>rfl
 |[x]=>rfl
 |x::y::r=>by
  have ih:=join_one (y::r)
  show(⟨#[x]⟩:Str)++⟨#[]⟩++Str.join ⟨#[]⟩ ((y::r).map λx=>(⟨#[x]⟩:Str))=_
  rw [ih];show(⟨#[x]++#[]++(y::r).toArray⟩:Str)=_
  simp
def vf(xs:List Nat):Txt.join "" (xs.map λx=>(⟨#[x]⟩:Str))=⟨xs.toArray⟩:=by
 unfold Txt.join;rw [StrLaws.glued_eq_join,show(("":Str))=⟨#[]⟩ by decide+kernel];exact join_one xs
theorem mJ{z:Str}{xs:List PV}:mw .join [.str z,.lst xs]=(Res.of (strsOf xs)).bind λys=>if z.length<=16/\(ys.map (·.length)).sum+ys.length<=bG then .ok (.str (Txt.join z ys)) else .bad:=rfl
theorem mK{z:Str}:n9 .join (.str z)=true:=rfl
theorem strs_map:∀zs:List Str,strsOf (zs.map .str)=some zs
 |[]=>rfl
 |z::zs=>by simp! [zzF,strsOf,strs_map zs,Option.map_some]
theorem tY:∀xs:List Nat,((xs.map λx=>(⟨#[x]⟩:Str)).map (·.length)).sum=xs.length
 |[]=>rfl
 |x::xs=>by
  have:=tY xs
  simp! [zzF,List.sum_cons,zzL,this];show 1+xs.length=_
  omega
theorem iI(z:Str)(c:Nat):∀(n k:Nat) (st:Array Nat×Nat),k+n=z.length+1->st.1.size=(z.cps.toList.take k).count c->st.2<=k->(forIn (List.range' k n) st (StrLaws.occBody z ⟨#[c]⟩ z.length (z.length+1))).run.1.size=z.cps.toList.count c
 |0,k,st,h,h1,_=>by
  have:z.cps.toList.take k=z.cps.toList:=List.take_of_length_le (by rw [zzd];show z.length<=k;omega)
  rw [this] at h1;exact h1
 |n+1,k,st,h,h1,h2=>by
  rw [List.range'_succ,List.forIn_cons];unfold StrLaws.occBody;have hs:(⟨#[c]⟩:Str).length=1:=rfl
  have hsz:st.1.size<=z.length:=by
   rw [h1];refine zzU List.count_le_length ?_;rw [List.length_take];show min k z.cps.toList.length<=z.cps.size;rw [zzd];omega
  by_cases hk:k<z.length
  ·have Mx:k<z.cps.toList.length:=by rw [zzd];exact hk
   have e1:(z.cps.toList.take (k+1)).count c=(z.cps.toList.take k).count c+if z.cps.toList[k]=c then 1 else 0:=by
    rw [List.take_succ_eq_append_getElem Mx,List.count_append,List.count_singleton];simp
   have e2:(Builtin.Str.subAt z ⟨#[c]⟩ k=true)↔z.cps.toList[k]=c:=by
    unfold Builtin.Str.subAt;rw [zzy];have:z.cps.extract k (k+1)=#[z.cps.toList[k]]:=by
     apply Array.ext'
     simp [Array.toList_extract,List.extract_eq_drop_take,List.drop_eq_getElem_cons Mx]
    show z.cps.extract k (k+(⟨#[c]⟩:Str).length)=#[c]↔_
    rw [hs,this];simp
   by_cases hc:z.cps.toList[k]=c
   ·rw [if_pos ⟨⟨⟨by omega,h2⟩,by rw [hs];omega⟩,e2.2 hc⟩];refine iI z c n (k+1) _ (by omega) ?_ (by rw [hs];exact zzE _);rw [e1,if_pos hc,<-h1];simp
   ·rw [if_neg (λh=>hc (e2.1 h.2))]
    refine iI z c n (k+1) _ (by omega) ?_ (Nat.le_succ_of_le h2);rw [e1,if_neg hc,<-h1]
    rfl
  ·rw [if_neg (λh=>by have:=h.1.2;rw [hs] at this;omega)];refine iI z c n (k+1) _ (by omega) ?_ (Nat.le_succ_of_le h2);have l:z.cps.toList.length=z.length:=zzd
   rw [List.take_of_length_le (by omega)];rw [List.take_of_length_le (by omega)] at h1;exact h1
def mX(z:Str)(c:Nat):qV z ⟨#[c]⟩=(z.cps.toList.count c:Int):=by
 unfold qV;rw [StrLaws.occ_eq,zzd];rw [iI z c (z.length+1-0) 0 _ (by omega) (by simp) (zzE _)]
def xB(z:Str)(c:Nat):oy (.str ⟨#[c]⟩) (.str z)=.ok (.bl (decide (c∈z.cps.toList))):=by
 show Res.ok (PV.bl (!(Builtin.Str.occurrences z ⟨#[c]⟩ 0 z.length 1).isEmpty))=_
 rw [StrLaws.found_one]
noncomputable def flat(rows:List Str):List Nat:=rows.flatMap λz=>z.cps.toList
theorem l8:∀rows:List Str,(Str.join (⟨#[]⟩:Str) rows).cps.toList=flat rows
 |[]=>rfl
 |[x]=>by simp [Str.join,flat]
 |x::y::r=>by
  have ih:=l8 (y::r)
  show(x++⟨#[]⟩++Str.join ⟨#[]⟩ (y::r):Str).cps.toList=_
  show((x.cps++#[])++(Str.join ⟨#[]⟩ (y::r)).cps).toList=_
  rw [Array.toList_append,ih];simp [flat]
def fN(rows:List Str):(Txt.join "" rows).cps.toList=flat rows:=by
 unfold Txt.join;rw [StrLaws.glued_eq_join,show(("":Str))=⟨#[]⟩ by decide+kernel];exact l8 rows
noncomputable def jy(rows:List Str)(c:Nat):List Nat:=rows.reverse.map λz=>z.cps.toList.getD c 0
noncomputable def bw(rows:List Str)(w:Nat):List Str:=(List.range w).map λc=>⟨(jy rows c).toArray⟩
noncomputable def cX(rows:List Str):List Str:=rows.map fk
def bt(rows:List Str)(w:Nat):(bw rows w).length=w:=by simp [bw]
theorem cj(rows:List Str)(w:Nat):∀z∈bw rows w,z.length=rows.length:=λz hz=>by
 obtain⟨c,_,rfl⟩:=zzx.1 hz
 show(jy rows c).toArray.size=_
 simp [jy]
def pA(z:Str):(fk z).length=z.length:=by
 show z.cps.toList.reverse.toArray.size=z.cps.size
 simp
def cO(rows:List Str):(cX rows).length=rows.length:=by simp [cX]
def uK(z:Str):fk (fk z)=z:=by
 show(⟨(z.cps.toList.reverse.toArray).toList.reverse.toArray⟩:Str)=z
 simp
def BA(rows:List Str):cX (cX rows)=rows:=by
 unfold cX;rw [List.map_map]
 conv=>rhs;rw [<-List.map_id rows]
 exact List.map_congr_left λz _=>uK z
def fI{rows:List Str}{w:Nat}(hr:∀z∈rows,z.length=w){c j:Nat}(hc:c<w)(hj:j<rows.length):cd (bw rows w) c j=cd rows (rows.length-1-j) c:=by
 unfold cd bw;rw [zzQ,List.getElem?_range hc];show(jy rows c).toArray.toList[j]?=_
 have vC:rows.length-1-j<rows.length:=by omega
 have e1:rows[rows.length-1-j]?=some rows[rows.length-1-j]:=zzg vC
 rw [e1];show(jy rows c)[j]?=rows[rows.length-1-j].cps.toList[c]?
 have hl:=hr _ (List.getElem_mem vC)
 have B7:c<rows[rows.length-1-j].cps.toList.length:=by
  rw [zzd];show c<rows[rows.length-1-j].length;omega
 unfold jy;rw [zzQ,List.getElem?_reverse hj,e1];show some (rows[rows.length-1-j].cps.toList.getD c 0)=_
 rw [zzK,zzg B7]
 rfl
def yu{a b:List Str}{w:Nat}(hl:a.length=b.length)(ha:∀z∈a,z.length=w)(hb:∀z∈b,z.length=w)(h:∀r c,r<a.length->c<w->cd a r c=cd b r c):a=b:=by
 refine List.ext_getElem hl λr h1 h2=>?_
 have e:a[r].cps=b[r].cps:=by
  apply Array.ext'
  refine List.ext_getElem? λc=>?_
  by_cases hc:c<w
  ·have:=h r c h1 hc
   unfold cd at this;rw [zzg h1,zzg h2] at this;exact this
  ·have q1:=ha _ (List.getElem_mem h1)
   have q2:=hb _ (List.getElem_mem h2)
   rw [List.getElem?_eq_none,List.getElem?_eq_none]
   ·rw [zzd];show b[r].length<=c;omega
   ·rw [zzd];show a[r].length<=c;omega
 cases L8:a[r];cases kq:b[r];rw [L8,kq] at e
 simpa using e
def Lb{rows:List Str}{w:Nat}(hr:∀z∈rows,z.length=w):bw (bw (bw (bw rows w) rows.length) w) rows.length=rows:=by
 have l1:=bt rows w
 have r1:=cj rows w
 have l2:=bt (bw rows w) rows.length
 have r2:=cj (bw rows w) rows.length
 rw [l1] at r2;have l3:=bt (bw (bw rows w) rows.length) w
 have r3:=cj (bw (bw rows w) rows.length) w
 rw [l2] at r3;refine yu (w:=w) (bt _ _) (λz hz=>by have:=cj _ _ z hz;rw [l3] at this;exact this) hr λr c h1 h2=>?_
 rw [bt] at h1;rw [fI r3 h1 (by rw [l3];exact h2),l3,fI r2 (by omega) (by rw [l2];exact h1),l2,fI r1 (by omega) (by rw [l1];omega),l1,fI hr (by omega) (by omega)]
 congr 1<;>omega
def v8(rows bJ:List Str)(w:Nat):bw (rows++bJ) w=List.zipWith (·++·) (bw bJ w) (bw rows w):=by
 unfold bw;rw [List.zipWith_map];have:∀l:List Nat,List.zipWith (λa b=>(⟨(jy bJ a).toArray⟩:Str)++⟨(jy rows b).toArray⟩) l l=l.map λc=>(⟨(jy (rows++bJ) c).toArray⟩:Str):=λl=>by
  induction l with
  |nil=>rfl
  |cons c l ih=>
   rw [List.zipWith_cons_cons,ih,zzF]
   congr 1
   show(⟨(jy bJ c).toArray++(jy rows c).toArray⟩:Str)=_
   unfold jy;rw [List.reverse_append,List.map_append];simp
 rw [this]
def AX{w:Nat}(x:Nat):∀{rows:List Str},(∀z∈rows,z.length=w)->(flat (bw rows w)).count x=(flat rows).count x:=λ{rows} hr=>by
 have e1:(flat (bw rows w)).count x=((List.range w).map λc=>(rows.map λz=>z.cps.toList.getD c 0).count x).sum:=by
  unfold flat bw;rw [List.flatMap_map,List.count_flatMap]
  congr 1
  refine List.map_congr_left λc _=>?_
  show(jy rows c).toArray.toList.count x=_
  unfold jy;rw [List.map_reverse];simp
 rw [e1]
 clear e1
 induction rows with
 |nil=>
  simp! [List.map_nil,List.count_nil,flat,List.flatMap_nil]
  induction (List.range w) with
  |nil=>rfl
  |cons a l ih=>rw [zzF,List.sum_cons,ih]
 |cons z rows ih=>
  have ih:=ih λy hy=>hr y (zzI _ hy)
  have hz:=hr z (zzP ..)
  have e2:(flat (z::rows)).count x=z.cps.toList.count x+(flat rows).count x:=by
   unfold flat;rw [List.flatMap_cons,List.count_append]
  rw [e2,<-ih];have e3:z.cps.toList=(List.range w).map λc=>z.cps.toList.getD c 0:=by
   have:=range_getD 0 z.cps.toList
   rw [zzd,show z.cps.size=w from hz] at this;exact this.symm
  conv=>rhs;lhs;rw [e3]
  have sw:∀l:List Nat,(l.map λc=>((z::rows).map λz=>z.cps.toList.getD c 0).count x).sum=(l.map λc=>z.cps.toList.getD c 0).count x+(l.map λc=>(rows.map λz=>z.cps.toList.getD c 0).count x).sum:=λl=>by
   induction l with
   |nil=>rfl
   |cons c l ih=>
    rw [zzF,List.sum_cons,ih,zzF,zzF,zzF,List.sum_cons,List.count_cons,List.count_cons];omega
  exact sw _
theorem tm(x:Nat):∀rows:List Str,(flat (cX rows)).count x=(flat rows).count x
 |[]=>rfl
 |z::rows=>by
  have ih:=tm x rows
  unfold flat cX at ih⊢;rw [zzF,List.flatMap_cons,List.flatMap_cons,List.count_append,List.count_append,ih]
  congr 1
  show(z.cps.toList.reverse.toArray).toList.count x=_
  simp
noncomputable def tB:Ss:=#v[.app 2 (.pU .join (.cst (.str "")) #v[.comp 1 [3] (.one 0) (.seq (!1)) (.sub (!0) (!1))])]
def vx(F:aO){rows:List Str}{w:Nat}(hn:0<rows.length)(pC:rows.length<=12)(hr:∀z∈rows,z.length=w)(hw:w<=12):au F bg [fl rows]=.ok (fl (bw rows w)):=by
 have HN:rows[0]?=some rows[0]:=zzg hn
 have r0:aJ (fl rows) (.int 0)=.ok (.str rows[0]):=df (j:=0) HN
 have l0:rows[0].length=w:=hr _ (List.getElem_mem hn)
 have lw:rows[0].length<=bG:=zzU (m:=12) (by omega) (by decide)
 have sw:aD (rows[0].length:Int)=true:=by rw [l0];simp! [aD,zza,zzN];omega
 have up:(rows.map PV.str).reverse=rows.reverse.map .str:=by rw [List.map_reverse]
 obtain⟨aj,e,s3,rfl⟩:=cU (body:=λx env=>((Tg.one 3).put x env).bind λaj=>aF F tB aj) (P:=λi env=>∃s3:Ci.Slot,env=[.val (fl rows),.val (.lst (rows.reverse.map .str)),.own (.lst ((bw rows i).map .str)),s3])
  (dQ 0 w) 0 [.val (fl rows),.val (.lst (rows.reverse.map .str)),.own (.lst []),.no] ⟨_,rfl⟩ (by
  intro i x env hx hq;obtain⟨hi,rfl⟩:=qd hx
  obtain⟨s3,rfl⟩:=hq
  have cc:az (λx=>((Tg.one 0).put x [.no,.val (.int i)]).bind λaj=>(ax F (.sub (.var 0) (.var 1)) aj).bind λy=>.ok (some y)) (rows.reverse.map .str)=.ok (((jy rows i).map λx=>(⟨#[x]⟩:Str)).map .str):=by
   unfold jy;rw [List.map_map,List.map_map];refine(bf (p:=PV.str) (g:=λz=>.str ⟨#[z.cps.toList.getD i 0]⟩) λz hz=>?_)
   have DJ:=hr z (List.mem_reverse.1 hz)
   have yP:i<z.cps.toList.length:=by rw [zzd];show i<z.length;omega
   have:=sZ (z:=z) (i:=i) (x:=z.cps.toList.getD i 0) (zzU (m:=12) (by omega) (by decide)) (by rw [zzK,zzg yP];rfl)
   dsimp! only [this]
  have ll:(rows.reverse.map PV.str).length<bG:=zzV (m:=12) (by simpa using pC) (by decide)
  have lj:("":Str).length<=16/\(((jy rows i).map λx=>(⟨#[x]⟩:Str)).map (·.length)).sum+((jy rows i).map λx=>(⟨#[x]⟩:Str)).length<=bG:=⟨by decide,by
   rw [tY,zzl];refine zzU (m:=24) ?_ (by decide);simp! [jy,zzl,List.length_reverse];omega⟩
  have la:((bw rows i).map PV.str).length<bG:=zzV (m:=12) (by rw [zzl,bt];omega) (by decide)
  refine⟨[.val (fl rows),.val (.lst (rows.reverse.map .str)),.own (.lst ((bw rows (i+1)).map .str)),.val (.int i)],?_,_,by rw [Nat.zero_add]⟩;have ts:(bw rows (i+1)).map PV.str=(bw rows i).map .str++[.str ⟨(jy rows i).toArray⟩]:=by
   unfold bw;rw [List.range_succ,List.map_append,List.map_append]
   rfl
  rw [ts];dsimp! only [J] at cc;rw [Nat.zero_add] at *;dsimp! only [tB,ll,cc,mK,mJ,strs_map,lj,vf,la,and_self])
 have lr:(dQ 0 w).length=w:=by simp [dQ]
 rw [lr,Nat.zero_add] at e;have tn:(rows[0].length:Int).toNat=w:=by rw [l0];rfl
 dsimp! only [tB] at e;dsimp! only [bg,up,r0,lw,sw,tn,e]
def oG(F:aO){rows:List Str}(pC:rows.length<=12)(hr:∀z∈rows,z.length<=12):au F aH [fl rows]=.ok (fl (cX rows)):=by
 have cc:az (λx=>((Tg.one 0).put x [.no]).bind λaj=>(ax F (.rev (.var 0)) aj).bind λy=>.ok (some y)) (rows.map .str)=.ok ((cX rows).map .str):=by
  unfold cX;rw [List.map_map];refine bf (p:=PV.str) (g:=λz=>.str (fk z)) λz hz=>?_
  have Hx:z.length<=bG:=zzU (hr z hz) (by decide)
  dsimp! only [Hx]
 have ll:(rows.map PV.str).length<bG:=zzV (m:=12) (by simpa using pC) (by decide)
 dsimp! only [J] at cc;dsimp! only [aH,ll,cc]
theorem cS{z y:Str}:mw .bY [.str z,.str y]=.ok (.int (qV z y)):=rfl
theorem kS{z:Str}:n9 .bY (.str z)=true:=rfl
def hash:(("#":Str))=⟨#[35]⟩:=by decide+kernel
def x9(F:aO){rows:List Str}(pC:rows.length<=12)(hr:∀z∈rows,z.length<=12):au F cx [fl rows]=.ok (.int ((flat rows).count 35:Nat)):=by
 have cc:az (λx=>((Tg.one 0).put x [.no]).bind λaj=>(ax F (.pU .bY (.var 0) (.cons (.glob "WALL" (.str "#")) .nil)) aj).bind λy=>.ok (some y)) (rows.map .str)=.ok ((rows.map λz=>((z.cps.toList.count 35:Nat):Int)).map .int):=by
  rw [List.map_map];refine bf (p:=PV.str) (g:=λz=>.int ((z.cps.toList.count 35:Nat):Int)) λz hz=>?_
  dsimp! only [kS,cS,hash,mX]
 have ll:(rows.map PV.str).length<bG:=zzV (m:=12) (by simpa using pC) (by decide)
 have sm:(rows.map λz=>((z.cps.toList.count 35:Nat):Int)).sum=((flat rows).count 35:Nat):=by
  clear pC hr cc ll
  induction rows with
  |nil=>rfl
  |cons z rows ih=>
   rw [zzF,List.sum_cons,ih];unfold flat;rw [List.flatMap_cons,List.count_append];omega
 have io:intsOf ((rows.map λz=>((z.cps.toList.count 35:Nat):Int)).map .int)=some (rows.map λz=>((z.cps.toList.count 35:Nat):Int)):=by
  clear pC hr cc ll sm
  induction rows with
  |nil=>rfl
  |cons z rows ih=>simp! [zzF,intsOf,ih,Option.map_some]
 have bd:(((rows.map λz=>((z.cps.toList.count 35:Nat):Int)).all λn=>decide (-(2^32)<n)&&decide (n<2^32))&&decide ((rows.map λz=>((z.cps.toList.count 35:Nat):Int)).length<bG))=true:=by
  rw [zza,zzN,zzl,zzT];refine⟨λn hx=>?_,zzV pC (by decide)⟩
  obtain⟨z,hz,rfl⟩:=zzx.1 hx
  have h1:=hr z hz
  have h2:z.cps.toList.count 35<=z.cps.toList.length:=List.count_le_length
  rw [zzd] at h2;have h3:z.cps.size=z.length:=rfl
  rw [zza,zzN,zzN];omega
 have bs:cw .sum [.lst ((rows.map λz=>((z.cps.toList.count 35:Nat):Int)).map .int)]=.ok (.int ((flat rows).count 35:Nat)):=by
  show(Res.of (intsOf _)).bind _=_
  rw [io,Gj,kH,if_pos bd,sm]
 dsimp! only [J] at cc;dsimp! only [cx,ll,cc,bs]
theorem fb:∀bs:List Bool,boolsOf (bs.map .bl)=some bs
 |[]=>rfl
 |b::bs=>by simp! [zzF,boolsOf,fb bs,Option.map_some]
def Eb(F:aO){x:Nat}(h:x=35\/(48<=x/\x<=57)):au F cT [.str ⟨#[x]⟩]=.ok (.bl true):=by
 have h1:oy (.str ⟨#[x]⟩) (.str "#0123456789")=.ok (.bl true):=by
  rw [xB];have:(("#0123456789":Str)).cps.toList=[35,48,49,50,51,52,53,54,55,56,57]:=by decide+kernel
  rw [this];have:x∈[35,48,49,50,51,52,53,54,55,56,57]:=by
   simp! [zzm,List.not_mem_nil,or_false];omega
  simp! [this,decide_true]
 have l1:(⟨#[x]⟩:Str).length=1:=rfl
 have l2:1<=bG:=by decide
 dsimp! only [cT,l1,l2,h1]
 rfl
def DK(F:aO)(hs:∀x,x=35\/(48<=x/\x<=57)->F "is_sign" [.str ⟨#[x]⟩]=.ok (.bl true)){z:Str}(h1:1<=z.length)(h2:z.length<=12)(hd:∀x∈z.cps.toList,x=35\/(48<=x/\x<=57)):au F dy [.str z]=.ok (.bl true):=by
 have cc:az (λx=>((Tg.one 0).put x [.no]).bind λaj=>(ax F (.call "is_sign" (.cons (.var 0) .nil)) aj).bind λy=>.ok (some y)) (chars z)=.ok ((z.cps.toList.map λ_=>true).map .bl):=by
  rw [List.map_map];refine bf (p:=λc=>PV.str ⟨#[c]⟩) (g:=λ_=>.bl true) λx hx=>?_
  dsimp! only [hs x (hd x hx)]
 have lz:z.length<=bG:=zzU h2 (by decide)
 have ll:(chars z).length<bG:=zzV (m:=12) (by show(z.cps.toList.map _).length<=12;rw [zzl,zzd];exact h2) (by decide)
 have d1:decide ((1:Int)<=(z.length:Int))=true:=by rw [zzN];omega
 have d2:decide ((z.length:Int)<=12)=true:=by rw [zzN];omega
 have al:(z.cps.toList.map λ_=>true).all id=true:=by rw [List.all_map,zzT];exact λ_ _=>rfl
 have sq:qp (.var 0) (.str z)=.ok (chars z):=rfl
 dsimp! only [J] at cc;dsimp! only [dy,lz,d1,d2,sq,ll,cc,fb,al]
def Bv(F:aO)(hs:∀z:Str,1<=z.length->z.length<=12->(∀x∈z.cps.toList,x=35\/(48<=x/\x<=57))->F "is_row" [.str z]=.ok (.bl true)){rows:List Str}{w:Nat}(L:Fl rows w):au F cA [fl rows]=.ok (.bl true):=by
 have hn:=L.ne
 have pC:=L.dm.1
 have w1:=L.w1
 have w6:w<=6:=by
  have:=L.dm.2 _ (List.getElem_mem hn)
  have:=L.cy _ (List.getElem_mem hn)
  omega
 have HN:rows[0]?=some rows[0]:=zzg hn
 have r0:aJ (fl rows) (.int 0)=.ok (.str rows[0]):=df (j:=0) HN
 have l0:=L.cy _ (List.getElem_mem hn)
 have lw:rows[0].length<=bG:=zzU (m:=12) (by omega) (by decide)
 have cc:az (λx=>((Tg.one 0).put x [.no]).bind λaj=>(ax F (.call "is_row" (.cons (.var 0) .nil)) aj).bind λy=>.ok (some y)) (rows.map .str)=.ok ((rows.map λ_=>true).map .bl):=by
  rw [List.map_map];refine bf (p:=PV.str) (g:=λ_=>.bl true) λz hz=>?_
  have:=hs z (by rw [L.cy z hz];exact w1) (by rw [L.cy z hz];omega) (L.dig z hz)
  dsimp! only [this]
 have MU:az (λx=>((Tg.one 0).put x [.no,.val (fl rows)]).bind λaj=>(ax F (.cmp .eq (.blt .len (.cons (.var 0) .nil)) (.blt .len (.cons (.sub (.var 1) (.cst (.int 0))) .nil))) aj).bind λy=>.ok (some y)) (rows.map .str)=.ok ((rows.map λ_=>true).map .bl):=by
  rw [List.map_map];refine bf (p:=PV.str) (g:=λ_=>.bl true) λz hz=>?_
  have e1:=L.cy z hz
  have e2:z.length<=bG:=zzU (m:=12) (by omega) (by decide)
  have e3:((z.length:Int)==(rows[0].length:Int))=true:=by rw [e1,l0,beq_self_eq_true]
  dsimp! only [e2,r0,lw,e3]
 have ll:(rows.map PV.str).length<bG:=zzV (m:=12) (by rw [zzl];omega) (by decide)
 have d1:decide ((1:Int)<=((rows.map PV.str).length:Int))=true:=by rw [zzN,zzl];omega
 have d2:decide (((rows.map PV.str).length:Int)<=12)=true:=by rw [zzN,zzl];omega
 have al:(rows.map λ_=>true).all id=true:=by rw [List.all_map,zzT];exact λ_ _=>rfl
 dsimp! only [J] at cc MU;dsimp! only [cA,d1,d2,ll,cc,fb,al,MU]
theorem tj:∀(ai:List (Int×Int)) (k x:Int),dN (bH ai k) x=dN ai x+if k=x then 1 else 0
 |[],k,x=>by
  simp! [bH,dN];split<;>rfl
 | (k',n)::r,k,x=>by
  by_cases e:k'=k
  ·rw [bH,if_pos e,dN,dN]
   by_cases h:k'=x
   ·rw [if_pos h,if_pos h,if_pos (e▸h)]
   ·rw [if_neg h,if_neg h,if_neg (λz=>h (e.trans z))]
    omega
  ·rw [bH,if_neg e,dN,dN,tj r k x]
   by_cases h:k'=x
   ·rw [if_pos h,if_pos h,if_neg (λz=>e (h.trans z.symm))]
    omega
   ·rw [if_neg h,if_neg h]
theorem sE:∀(ai:List (Int×Int)) (k x:Int),x∈(bH ai k).map (·.1)↔x∈ai.map (·.1)\/x=k
 |[],k,x=>by simp [bH]
 | (k',n)::r,k,x=>by
  by_cases e:k'=k
  ·rw [bH,if_pos e];subst e;simp! [zzF,zzm]
   constructor
   ·exact λh=>.inl h
   ·rintro (h|h)
    ·exact h
    ·exact .inl h
  ·rw [bH,if_neg e,zzF,zzm,sE r k x,zzF,zzm,or_assoc]
noncomputable def gQ(hs:List Int):List (Int×Int):=hs.foldl bH []
theorem mQ:∀(hs:List Int) (ai:List (Int×Int)),(ai.map (·.1)).Nodup->((hs.foldl bH ai).map (·.1)).Nodup/\(∀x,dN (hs.foldl bH ai) x=dN ai x+(hs.count x:Int))/\(∀x,x∈(hs.foldl bH ai).map (·.1)↔x∈ai.map (·.1)\/x∈hs)
 |[],ai,nd=>⟨nd,λx=>by simp,λx=>by simp⟩
 |h::hs,ai,nd=>by
  obtain⟨a,b,c⟩:=mQ hs (bH ai h) (gP ai h nd).1
  refine⟨a,λx=>?_,λx=>?_⟩
  ·rw [List.foldl_cons,b,tj,List.count_cons]
   by_cases e:h=x
   ·subst e;simp;omega
   ·rw [if_neg e,if_neg (by simpa using e)];omega
  ·rw [List.foldl_cons,c,sE,zzm,or_assoc]
theorem get_mem:∀{ai:List (Int×Int)},(ai.map (·.1)).Nodup->∀k n,(k,n)∈ai↔k∈ai.map (·.1)/\n=dN ai k
 |[],_,k,n=>by simp
 | (k',n')::r,nd,k,n=>by
  rw [zzF,List.nodup_cons] at nd;have ih:=get_mem nd.2 k n
  rw [zzm,zzF,zzm,dN]
  by_cases e:k'=k
  ·subst e;rw [if_pos rfl]
   constructor
   ·rintro (h|h)
    ·cases h;exact⟨.inl rfl,rfl⟩
    ·exact absurd (List.mem_map_of_mem (f:=(·.1)) h) nd.1
   ·rintro ⟨_,rfl⟩
    exact .inl rfl
  ·rw [if_neg e,ih]
   constructor
   ·rintro (h|h)
    ·cases h;exact absurd rfl e
    ·exact⟨.inr h.1,h.2⟩
   ·rintro ⟨h1,h2⟩
    rcases h1 with h1|h1
    ·exact absurd h1.symm e
    ·exact .inr ⟨h1,h2⟩
noncomputable abbrev uC(q:Int×Int):PV:=.tup [.int q.1,.int q.2]
noncomputable def dF(cnt:Nat->Nat):List (Int×Int):=((List.range 10).filter λd=>decide (0<cnt d)).map λd:Nat=>((d:Int),(cnt d:Int))
def E3{hs:List Int}{cnt:Nat->Nat}(hc:∀d:Nat,d<10->hs.count (d:Int)=cnt d)(hd:∀h∈hs,∃d:Nat,d<10/\h=d):
 gZ PV.aI ((gQ hs).map uC) ((gQ hs).map λq=>[q.1,q.2])=(dF cnt).map uC:=by
 obtain⟨nd,gt,ks⟩:=mQ hs [] .nil
 have AL:((gQ hs).map λq=>[q.1,q.2]).Nodup:=List.pairwise_map.2 ((List.pairwise_map.1 nd).imp λh z=>h (List.cons.inj z).1)
 obtain⟨e1,e2,e3⟩:=sV (0,0) uC (λq:Int×Int=>[q.1,q.2]) AL
 rw [e1];have s2:C5 ((dF cnt).map λq=>[q.1,q.2]):=by
  unfold dF;rw [List.map_map];refine List.pairwise_map.2 ((List.pairwise_lt_range (n:=10)).filter _ |>.imp λ{a b} h=>?_)
  show HT.lexLt [(a:Int),_] [(b:Int),_]=true
  rw [HT.iW,if_neg (by omega)];simp;omega
 have eq:(gZ (0,0) (gQ hs) ((gQ hs).map λq=>[q.1,q.2])).map (λq=>[q.1,q.2])=(dF cnt).map λq=>[q.1,q.2]:=by
  refine gj e3 s2 λx=>?_
  rw [zzx,zzx];have key:∀q:Int×Int,q∈gQ hs↔q∈dF cnt:=λq=>by
   obtain⟨k,n⟩:=q
   rw [show(k,n)∈gQ hs↔_ from get_mem nd k n,ks,gt];unfold dF;simp! [zzx,List.mem_filter,List.mem_range,zzN,Prod.mk.injEq,List.map_nil,List.not_mem_nil,false_or,dN,Int.zero_add]
   constructor
   ·rintro ⟨h1,h2⟩
    obtain⟨d,zN,rfl⟩:=hd k h1
    refine⟨d,⟨zN,?_⟩,rfl,?_⟩
    ·rw [<-hc d zN];exact List.count_pos_iff.2 h1
    ·rw [h2,hc d zN]
   ·rintro ⟨d,⟨h1,h2⟩,rfl,rfl⟩
    rw [<-hc d h1] at h2⊢;exact⟨List.count_pos_iff.1 h2,rfl⟩
  constructor
  ·rintro ⟨q,hq,rfl⟩;exact⟨q,(key q).1 (e2.mem_iff.1 hq),rfl⟩
  ·rintro ⟨q,hq,rfl⟩;exact⟨q,e2.mem_iff.2 ((key q).2 hq),rfl⟩
 have inj:∀{a b:List (Int×Int)},a.map (λq=>[q.1,q.2])=b.map (λq=>[q.1,q.2])->a=b:=λ{a b} h=>by
  refine(List.map_inj_right λx y JJ=>?_).1 h;obtain⟨x1,x2⟩:=x
  obtain⟨y1,y2⟩:=y
  simpa using JJ
 rw [inj eq]
def vR(hs:List Int)(hd:∀h∈hs,∃d:Nat,d<10/\h=d):(gQ hs).length<64:=by
 obtain⟨nd,_,ks⟩:=mQ hs [] .nil
 have:((gQ hs).map (·.1)).length<=((List.range 10).map λd:Nat=>(d:Int)).length:=by
  refine List.Nodup.length_le_of_subset nd λx hx=>?_
  rcases(ks x).1 hx with h|h
  ·simp at h
  ·obtain⟨d,h1,rfl⟩:=hd x h
   exact zzx.2 ⟨d,List.mem_range.2 h1,rfl⟩
 simp at this;omega
noncomputable def cells(n w:Nat):List (Nat×Nat):=(List.range n).flatMap λr=>(List.range w).map λc=>(r,c)
noncomputable def vG(rows:List Str)(p:Nat×Nat):Nat:=(cd rows p.1 p.2).getD 35
def qc{rows:List Str}{w:Nat}(hr:∀z∈rows,z.length=w):flat rows=(cells rows.length w).map (vG rows):=by
 unfold flat cells;rw [List.map_flatMap];have e1:rows.flatMap (λz=>z.cps.toList)=(List.range rows.length).flatMap λr=>(rows.getD r ⟨#[]⟩).cps.toList:=by
  conv=>lhs;rw [<-range_getD (⟨#[]⟩:Str) rows]
  rw [List.flatMap_map]
 rw [e1];rw [List.flatMap_def,List.flatMap_def]
 congr 1
 refine List.map_congr_left λr O8=>?_
 have KO:=List.mem_range.1 O8
 have e2:rows.getD r ⟨#[]⟩=rows[r]:=by rw [zzK,zzg KO];rfl
 rw [e2,List.map_map];have hl:=hr _ (List.getElem_mem KO)
 have Nz:rows[r].cps.toList.length=w:=by rw [zzd];exact hl
 have:=range_getD 35 rows[r].cps.toList
 rw [Nz] at this;rw [<-this];refine List.map_congr_left λc hc=>?_
 show rows[r].cps.toList.getD c 35=(cd rows r c).getD 35
 unfold cd;rw [zzg KO,zzK]
 rfl
def vP(n w:Nat):(cells n w).Nodup:=by
 unfold cells;refine List.pairwise_flatMap.2 ⟨λr _=>List.pairwise_map.2 (List.nodup_range.imp λh z=>h (Prod.mk.inj z).2),List.nodup_range.imp λ{a b} h x hx y hy z=>?_⟩
 obtain⟨c,_,rfl⟩:=zzx.1 hx
 obtain⟨d,_,rfl⟩:=zzx.1 hy
 exact h (Prod.mk.inj z).1
def vb{n w r c:Nat}:(r,c)∈cells n w↔r<n/\c<w:=by
 unfold cells;simp [List.mem_flatMap]
def B2{L:List (Nat×Nat)}(h:Up L):L.Nodup:=h.imp λ{a b} e z=>by rw [z,qj] at e;cases e
def zd{rows:List Str}{p:Nat×Nat}:lU rows p.1 p.2=true↔vG rows p≠35:=by
 unfold lU vG;cases cd rows p.1 p.2 with
 |none=>simp
 |some x=>simp
def uA{rows:List Str}{w:Nat}(L:Fl rows w){S:List (Nat×Nat)}(up:Up S)(hm:∀r c,(r,c)∈S↔lU rows r c=true){x:Nat}(hx:x≠35):(S.map (vG rows)).count x=(flat rows).count x:=by
 have pm:S.Perm ((cells rows.length w).filter λp=>lU rows p.1 p.2):=by
  refine(List.perm_ext_iff_of_nodup (B2 up) ((vP _ _).filter _)).2 λp=>?_
  obtain⟨r,c⟩:=p
  rw [hm,List.mem_filter,vb]
  constructor
  ·intro h;have h':cu rows r c=true:=cP.2 ⟨by omega,by omega,h⟩
   have:=dW L h'
   exact⟨⟨by omega,by omega⟩,h⟩
  ·exact λh=>h.2
 rw [(pm.map _).count_eq,qc L.cy]
 induction (cells rows.length w) with
 |nil=>rfl
 |cons p l ih=>
  rw [zz3,zzF,List.count_cons]
  by_cases h:lU rows p.1 p.2=true
  ·rw [if_pos h,zzF,List.count_cons,ih]
  ·rw [if_neg h,ih];have:vG rows p=35:=Decidable.not_not.1 λz=>h (zd.2 z)
   rw [this,if_neg (by simpa using Ne.symm hx)]
   rfl
theorem dS{α:Type}{f:PV->Res (Option PV)}{p q:α->PV}{g:α->Bool}:∀{xs:List α},(∀x∈xs,f (p x)=.ok (if g x then some (q x) else none))->az f (xs.map p)=.ok ((xs.filter g).map q)
 |[],_=>rfl
 |x::xs,h=>by
  have ih:=dS (xs:=xs) λy hy=>h y (zzI _ hy)
  have h1:=h x (zzP ..)
  cases hg:g x with
  |true=>rw [hg] at h1;simp! [zzF,az,h1,if_true,Res.well,Res.bind,ih,oc,zz3,hg]
  |false=>rw [hg] at h1;simp! [zzF,az,h1,zze,if_false,Res.well,Res.bind,ih,oc,zz3,hg]
def sC(F:aO):Prop:=∀rows w,Fl rows w->∀r c,cu rows r c=true->F "height_at" [fl rows,sp r c]=.ok (.int (hZ rows r c))
structure q8(rows:List Str)(S:List (Nat×Nat)):Prop where
 up:Up S
 len:S.length<=36
 mem:∀r c,(r,c)∈S↔lU rows r c=true
def q8.cu{rows:List Str}{S:List (Nat×Nat)}(h:q8 rows S){p:Nat×Nat}(hp:p∈S):cu rows p.1 p.2=true:=cP.2 ⟨by omega,by omega,(h.mem p.1 p.2).1 hp⟩
noncomputable def hB:Ss:=#v[.set 3 (.call "height_at" #v[!0,!2]),.jf 1 3]
noncomputable def hN(rows:List Str)(p:Nat×Nat):Int:=hZ rows p.1 p.2
def Aq(F:aO)(a b:PV)(ai:List (Int×Int))(k:Int)(h:ai.length<bG):fA F (.jf 1 3) [.val a,.fj ai,.val b,.val (.int k)]=.ok (.nx [.val a,.fj (bH ai k),.val b,.val (.int k)]):=by
 rw [fA];exact if_pos h
theorem wd(F:aO)(hh:sC F){rows:List Str}{w:Nat}(L:Fl rows w):∀(S:List (Nat×Nat)) (ai:List (Int×Int)) (s2 s3:Ci.Slot),(∀p∈S,cu rows p.1 p.2=true)->ai.length+S.length<=1000->∃OA OG,forL (λx env=>((Tg.one 2).put x env).bind λaj=>aF F hB aj) (S.map cK) [.val (fl rows),.fj ai,s2,s3]=.ok (.nx [.val (fl rows),.fj ((S.map (hN rows)).foldl bH ai),OA,OG])
 |[],ai,s2,s3,_,_=>⟨s2,s3,rfl⟩
 |p::S,ai,s2,s3,ho,hl=>by
  rw [zzL] at hl;obtain⟨a,b,e⟩:=wd F hh L S (bH ai (hN rows p)) (.val (cK p)) (.val (.int (hN rows p))) (λq hq=>ho q (zzI _ hq)) (by have:=oD ai (hN rows p);omega)
  refine⟨a,b,?_⟩;have e1:=hh rows w L p.1 p.2 (ho p (zzP ..))
  have e2:=Aq F (fl rows) (cK p) ai (hN rows p) (zzV (m:=1000) (by omega) (by decide))
  have eb:(((Tg.one 2).put (cK p) [.val (fl rows),.fj ai,s2,s3]).bind λaj=>aF F hB aj)=.ok (.nx [.val (fl rows),.fj (bH ai (hN rows p)),.val (cK p),.val (.int (hN rows p))]):=by
   show aF F hB [.val (fl rows),.fj ai,.val (cK p),s3]=_
   unfold hB;rw [aF,fA];have ev:ax F (.call "height_at" (.cons (.var 0) (.cons (.var 2) .nil))) [.val (fl rows),.fj ai,.val (cK p),s3]=.ok (.int (hN rows p)):=by
    rw [ax,bE,ax];show((bE F (.cons (.var 2) .nil) [.val (fl rows),.fj ai,.val (cK p),s3]).bind λps=>Res.ok (fl rows::ps)).bind _=_
    rw [bE,ax,bE];exact e1
   rw [ev,kH,kH,F0,aF];show(fA F (.jf 1 3) [.val (fl rows),.fj ai,.val (cK p),.val (.int (hN rows p))]).bind _=_
   rw [e2,kH,F0,aF]
  rw [zzF,forL,eb,kH];exact e
noncomputable def ff(rows:List Str)(d:Nat):Nat:=(flat rows).count (48+d)
def qr{rows:List Str}{p:Nat×Nat}(h:cu rows p.1 p.2=true):hN rows p=(vG rows p:Int)-48:=by
 obtain⟨i,j,x,h1,h2,h3,_⟩:=gN h
 have e1:p.1=i:=by omega
 have e2:p.2=j:=by omega
 unfold hN hZ vG;rw [zz4,zz4,e1,e2,h3]
 rfl
def sP{rows:List Str}{w:Nat}(L:Fl rows w){p:Nat×Nat}(h:cu rows p.1 p.2=true):48<=vG rows p/\vG rows p<=57:=by
 obtain⟨i,j,x,h1,h2,h3,h4⟩:=gN h
 have e1:p.1=i:=by omega
 have e2:p.2=j:=by omega
 have:=xk L h3
 unfold vG;rw [e1,e2,h3];show 48<=x/\x<=57;omega
theorem lX{α:Type}{f:α->Int}{g:α->Nat}{a:Int}{b:Nat}:∀{l:List α},(∀p∈l,f p=a↔g p=b)->(l.map f).count a=(l.map g).count b
 |[],_=>rfl
 |p::l,h=>by
  rw [zzF,zzF,List.count_cons,List.count_cons,lX λq hq=>h q (zzI _ hq)]
  have:=h p (zzP ..)
  by_cases e:f p=a
  ·rw [if_pos (by simpa using e),if_pos (by simpa using this.1 e)]
  ·rw [if_neg (by simpa using e),if_neg (by simpa using λz=>e (this.2 z))]
def qL(F:aO)(hh:sC F){rows:List Str}{w:Nat}(L:Fl rows w)(ho:∃S,F "open_spots" [fl rows]=.ok (.lst (S.map cK))/\q8 rows S):au F bo [fl rows]=.ok (.lst ((dF (ff rows)).map uC)):=by
 obtain⟨S,eS,SL⟩:=ho
 obtain⟨s2,s3,e⟩:=wd F hh L S [] .no .no (λp hp=>SL.cu hp) (by have:=SL.len;simp;omega)
 have hd:∀h∈S.map (hN rows),∃d:Nat,d<10/\h=d:=λh hm=>by
  obtain⟨p,hp,rfl⟩:=zzx.1 hm
  have:=sP L (SL.cu hp)
  exact⟨vG rows p-48,by omega,by rw [qr (SL.cu hp)];omega⟩
 have sr:=E3 (hs:=S.map (hN rows)) (cnt:=ff rows) (λd zN=>by
  unfold ff;rw [<-uA L SL.up SL.mem (x:=48+d) (by omega)];refine lX λp hp=>?_
  rw [qr (SL.cu hp)];have:=sP L (SL.cu hp)
  omega) hd
 have hl:=vR (S.map (hN rows)) hd
 have ec:ax F (.oh 1) [.val (fl rows),.fj (gQ (S.map (hN rows))),s2,s3]=.ok (.lst ((dF (ff rows)).map uC)):=by
  rw [ax];show(if _ then Res.ok (PV.lst (gZ PV.aI ((gQ (S.map (hN rows))).map uC) ((gQ (S.map (hN rows))).map λq:Int×Int=>[q.1,q.2]))) else .bad)=_
  rw [if_pos hl,sr]
 have e0:aF F bo.body [.val (fl rows),.no,.no,.no]=.ok (.rt (.lst ((dF (ff rows)).map uC))):=by
  show aF F (.cons (.mH 1) (.cons (.cQ (.one 2) (.seq (.call "open_spots" (.cons (.var 0) .nil))) hB) (.cons (.ret (.oh 1)) .nil))) _=_
  rw [aF,fA];show(Res.bind (Res.ok (Ci.Fl.nx [.val (fl rows),.fj [],.no,.no])) _)=_
  rw [kH,F0,aF,fA];have ei:nB F (.seq (.call "open_spots" (.cons (.var 0) .nil))) [.val (fl rows),.fj [],.no,.no]=.ok (S.map cK):=by
   rw [nB,ax,bE,ax,bE];show((F "open_spots" [fl rows]).bind _)=_
   rw [eS]
   rfl
  rw [ei,kH,e,kH,F0,aF,fA];show((ax F (.oh 1) [.val (fl rows),.fj (gQ (S.map (hN rows))),s2,s3]).bind _).bind _=_
  rw [ec]
  rfl
 show(aF F bo.body [.val (fl rows),.no,.no,.no]).bind _=_
 rw [e0]
 rfl
def Nb(r c r' c':Int):Prop:=(r'=r/\(c'=c-1\/c'=c+1))\/(c'=c/\(r'=r-1\/r'=r+1))
def PK(rows:List Str)(r c:Int):Prop:=∀r' c',Nb r c r' c'->cu rows r' c'=true->hZ rows r' c'<=hZ rows r c
noncomputable def vI(r c:Int)(q:Int×Int):Bool:=(r==q.1)||(c==q.2)
noncomputable def Cn(rows:List Str)(r c:Int):Bool:=((fe rows r c).filter (vI r c)).all λq=>decide (hZ rows q.1 q.2<=hZ rows r c)
def nA{rows:List Str}{r c:Int}:Cn rows r c=true↔PK rows r c:=by
 unfold Cn PK;rw [zzT]
 constructor
 ·intro h r' c' nb ho;refine zzY (h (r',c') (List.mem_filter.2 ⟨j5.2 ⟨?_,ho⟩,?_⟩))
  ·unfold GX;unfold Nb at nb;omega
  ·unfold vI;rw [zzt,zzy,zzy];unfold Nb at nb;show r=r'\/c=c'
   omega
 ·rintro h ⟨r',c'⟩ hq
  obtain⟨h1,h2⟩:=List.mem_filter.1 hq
  obtain⟨h3,h4⟩:=j5.1 h1
  unfold vI at h2;rw [zzt,zzy,zzy] at h2;have h2:r=r'\/c=c':=h2
  refine zzh (h r' c' ?_ h4);unfold GX at h3;unfold Nb;omega
def Bw(F:aO)(r c r' c':Int):au F bQ [sp r c,sp r' c']=.ok (.bl (vI r c (r',c'))):=by
 unfold vI;cases h:(r==r')<;>dsimp! only [bQ,h,Bool.true_or,Bool.false_or]
def zX(F:aO)(hh:sC F)(hb:BK F)(hs:∀r c r' c',F "share_side" [sp r c,sp r' c']=.ok (.bl (vI r c (r',c')))){rows:List Str}{w:Nat}(L:Fl rows w){r c:Int}(ho:cu rows r c=true):au F cG [fl rows,sp r c]=.ok (.bl (Cn rows r c)):=by
 obtain⟨a1,a2,a3,a4⟩:=GU L ho
 have eb:=hb rows L.dm r c a1 a2 a3 a4
 have c1:az (λx=>((Tg.one 0).put x [.no,.val (sp r c)]).bind λaj=>(ax F (.call "share_side" (.cons (.var 1) (.cons (.var 0) .nil))) aj).bind λt=>qB t λt=>if t then(ax F (.var 0) aj).bind λy=>.ok (some y) else .ok none) ((fe rows r c).map u0)=.ok (((fe rows r c).filter (vI r c)).map u0):=by
  refine dS λq hq=>?_
  dsimp! only [hs];cases vI r c (q.1,q.2)<;>dsimp! only [J]
 have c2:az (λx=>((Tg.one 0).put x [.no,.val (sp r c),.val (fl rows)]).bind λaj=>(ax F (.cmp .le (.call "height_at" (.cons (.var 2) (.cons (.var 0) .nil))) (.call "height_at" (.cons (.var 2) (.cons (.var 1) .nil)))) aj).bind λy=>.ok (some y)) (((fe rows r c).filter (vI r c)).map u0)=.ok ((((fe rows r c).filter (vI r c)).map λq=>decide (hZ rows q.1 q.2<=hZ rows r c)).map .bl):=by
  rw [List.map_map];refine bf (p:=u0) (g:=λq=>.bl (decide (hZ rows q.1 q.2<=hZ rows r c))) λq hq=>?_
  have hV:=(j5.1 (show(q.1,q.2)∈fe rows r c from(List.mem_filter.1 hq).1)).2
  dsimp! only [hh rows w L q.1 q.2 hV,hh rows w L r c ho]
 have l1:((fe rows r c).map u0).length<bG:=zzV (m:=9) (by rw [zzl];exact pG rows r c) (by decide)
 have l2:(((fe rows r c).filter (vI r c)).map u0).length<bG:=zzV (m:=9) (by rw [zzl];exact zzU (List.length_filter_le ..) (pG rows r c)) (by decide)
 have al:(((fe rows r c).filter (vI r c)).map λq=>decide (hZ rows q.1 q.2<=hZ rows r c)).all id=Cn rows r c:=by
  rw [List.all_map]
  rfl
 dsimp! only [J] at c1 c2;dsimp! only [cG,eb,l1,c1,l2,c2,fb,al]
noncomputable def fR(rows:List Str)(p:Nat×Nat):Bool:=Cn rows p.1 p.2
def yz(F:aO){rows:List Str}{w:Nat}(hp:∀r c,cu rows r c=true->F "is_peak" [fl rows,sp r c]=.ok (.bl (Cn rows r c))){S:List (Nat×Nat)}(ho:F "open_spots" [fl rows]=.ok (.lst (S.map cK)))(SL:q8 rows S):au F e8 [fl rows]=.ok (.lst ((S.filter (fR rows)).map cK)):=by
 have c1:az (λx=>((Tg.one 0).put x [.no,.val (fl rows)]).bind λaj=>(ax F (.call "is_peak" (.cons (.var 1) (.cons (.var 0) .nil))) aj).bind λt=>qB t λt=>if t then(ax F (.var 0) aj).bind λy=>.ok (some y) else .ok none) (S.map cK)=.ok ((S.filter (fR rows)).map cK):=by
  refine dS λp OU=>?_
  have:=hp p.1 p.2 (SL.cu OU)
  unfold fR;dsimp! only [this];cases Cn rows p.1 p.2<;>dsimp! only [J]
 have l1:(S.map cK).length<bG:=zzV (m:=36) (by rw [zzl];exact SL.len) (by decide)
 dsimp! only [J] at c1;dsimp! only [e8,ho,l1,c1]
noncomputable def sX:Ss:=#v[.ite (.and (.ch .le .lt (¬0) (!6) (.blt .len #v[!0])) (.ch .le .lt (¬0) (!7) (.blt .len #v[.sub (!0) (¬0)]))) #v[.set 5 (.bin .add (!5) (.blt .int #v[.and (.cmp .ne (.sub (.sub (!0) (!6)) (!7)) (.cst (.str "#"))) (.cmp .gt (.sub (.sub (!0) (!6)) (!7)) (!4))]))] .nil]
noncomputable def Gh:Ss:=#v[.par 4 5 #v[.sub (.sub (!0) (!2)) (!3),¬0],.cQ (.two 6 7) (.seq (.tup #v[.tup #v[.bin .sub (!2) (¬1),!3],.tup #v[.bin .add (!2) (¬1),!3],.tup #v[!2,.bin .sub (!3) (¬1)],.tup #v[!2,.bin .add (!3) (¬1)]])) sX,.js 1 (.bin .mul (.lst #v[.tup #v[!2,!3]]) (.blt .int #v[.cmp .eq (!5) (¬0)]))]
noncomputable def gB(rows:List Str)(h:Int)(q:Int×Int):Bool:=cu rows q.1 q.2&&decide (h<hZ rows q.1 q.2)
def Mv(x y:Nat):oj (.str ⟨#[x]⟩) (.str ⟨#[y]⟩)=.ok (.bl (decide (y<x))):=by
 show Res.ok (PV.bl (decide ([y]<[x])))=_
 congr 2
 rw [decide_eq_decide]
 constructor
 ·intro h;cases h with
  |rel h=>exact h
  |cons h=>cases h
 ·exact λh=>.rel h
def DC(F:aO){rows:List Str}{w:Nat}(L:Fl rows w){a1 a2 a3:Ci.Slot}{y:Nat}{hi:Int}{q:Int×Int}{s6 s7:Ci.Slot}:
 (((Tg.two 6 7).put (u0 q) [.val (fl rows),a1,a2,a3,.val (.str ⟨#[y]⟩),.val (.int hi),s6,s7]).bind λaj=>aF F sX aj)=.ok (.nx [.val (fl rows),a1,a2,a3,.val (.str ⟨#[y]⟩),.val (.int (hi+if gB rows ((y:Int)-48) q then 1 else 0)),.val (.int q.1),.val (.int q.2)]):=by
 have hn:=L.ne
 have HN:rows[0]?=some rows[0]:=zzg hn
 have r0:aJ (fl rows) (.int 0)=.ok (.str rows[0]):=df (j:=0) HN
 have l0:=L.cy _ (List.getElem_mem hn)
 have w6:=L.dm.2 _ (List.getElem_mem hn)
 have lw:rows[0].length<=bG:=zzU (m:=12) (by omega) (by decide)
 obtain⟨r,c⟩:=q
 by_cases FU:(0<=r/\r<rows.length)/\(0<=c/\c<w)
 ·obtain⟨⟨h1,h2⟩,h3,h4⟩:=FU
  obtain⟨i,rfl⟩:=zzw h1
  obtain⟨j,rfl⟩:=zzw h3
  obtain⟨x,hx⟩:=GP L (i:=i) (j:=j) (by omega) (by omega)
  obtain⟨z,hz,e1,e2⟩:=lJ L.dm hx
  have d1:decide ((0:Int)<=(i:Int))=true:=zzh h1
  have d2:decide ((i:Int)<((rows.map PV.str).length:Int))=true:=zzh (by rw [zzl];exact h2)
  have d3:decide ((0:Int)<=(j:Int))=true:=zzh h3
  have d4:decide ((j:Int)<(rows[0].length:Int))=true:=zzh (by rw [l0];exact h4)
  have g:gB rows ((y:Int)-48) ((i:Int),(j:Int))=((x !=35)&&decide (y<x)):=by
   unfold gB;have o:cu rows (i:Int) (j:Int)=(x !=35):=by
    unfold cu lU;rw [zz4,zz4,hx];simp
   have hg:hZ rows (i:Int) (j:Int)=(x:Int)-48:=by
    unfold hZ;rw [zz4,zz4,hx]
   show(cu rows i j&&decide ((y:Int)-48<hZ rows i j))=_
   rw [o,hg]
   congr 1
   rw [decide_eq_decide];omega
  rw [g];have b1:cw .int [.bl true]=.ok (.int 1):=rfl
  have b2:cw .int [.bl false]=.ok (.int 0):=rfl
  cases hx35:(x !=35) with
  |false=>dsimp! only [sX,d1,d2,d3,d4,r0,lw,e1,e2,i6,hx35,b2,Bool.false_and]
  |true=>
   cases hyx:decide (y<x) with
   |false=>dsimp! only [sX,d1,d2,d3,d4,r0,lw,e1,e2,i6,hx35,Mv,hyx,b2,Bool.and_false,Bool.true_and]
   |true=>dsimp! only [sX,d1,d2,d3,d4,r0,lw,e1,e2,i6,hx35,Mv,hyx,b1,Bool.and_self]
 ·have g:gB rows ((y:Int)-48) (r,c)=false:=by
   cases hg:gB rows ((y:Int)-48) (r,c) with
   |false=>rfl
   |true=>
    unfold gB at hg;rw [zza] at hg;have:=dW L hg.1
    exact absurd ⟨⟨this.1,this.2.1⟩,this.2.2.1,this.2.2.2⟩ FU
  rw [g];simp! [zze,if_false,Int.add_zero]
  by_cases h1:0<=r
  ·by_cases h2:r<rows.length
   ·have d1:decide ((0:Int)<=r)=true:=zzh h1
    have d2:decide (r<((rows.map PV.str).length:Int))=true:=zzh (by rw [zzl];exact h2)
    by_cases h3:0<=c
    ·have d3:decide ((0:Int)<=c)=true:=zzh h3
     have d4:decide (c<(rows[0].length:Int))=false:=zz0 (by rw [l0];exact λz=>FU ⟨⟨h1,h2⟩,h3,z⟩)
     dsimp! only [sX,d1,d2,d3,d4,r0,lw]
    ·have d3:decide ((0:Int)<=c)=false:=zz0 h3
     dsimp! only [sX,d1,d2,d3]
   ·have d1:decide ((0:Int)<=r)=true:=zzh h1
    have d2:decide (r<((rows.map PV.str).length:Int))=false:=zz0 (by rw [zzl];exact h2)
    dsimp! only [sX,d1,d2]
  ·have d1:decide ((0:Int)<=r)=false:=zz0 h1
   dsimp! only [sX,d1]
theorem sk(F:aO){rows:List Str}{w:Nat}(L:Fl rows w){a1 a2 a3:Ci.Slot}{y:Nat}:∀(l:List (Int×Int)) (hi:Int) (s6 s7:Ci.Slot),∃Lv Pe,forL (λx env=>((Tg.two 6 7).put x env).bind λaj=>aF F sX aj) (l.map u0) [.val (fl rows),a1,a2,a3,.val (.str ⟨#[y]⟩),.val (.int hi),s6,s7]=.ok (.nx [.val (fl rows),a1,a2,a3,.val (.str ⟨#[y]⟩),.val (.int (hi+(l.countP (gB rows ((y:Int)-48)):Nat))),Lv,Pe])
 |[],hi,s6,s7=>⟨s6,s7,by simp [forL]⟩
 |q::l,hi,s6,s7=>by
  obtain⟨a,b,e⟩:=sk F L l (hi+if gB rows ((y:Int)-48) q then 1 else 0) (.val (.int q.1)) (.val (.int q.2))
  refine⟨a,b,?_⟩;rw [zzF,forL,DC F L,kH];have:(hi+if gB rows ((y:Int)-48) q then 1 else 0)+((l.countP (gB rows ((y:Int)-48)):Nat):Int)=hi+(((q::l).countP (gB rows ((y:Int)-48)):Nat):Int):=by
   rw [List.countP_cons];split<;>omega
  rw [this] at e;exact e
noncomputable abbrev yO(r c:Int):List (Int×Int):=[(r-1,c),(r+1,c),(r,c-1),(r,c+1)]
noncomputable def JR(rows:List Str)(p:Nat×Nat):Bool:=(((yO p.1 p.2).countP (gB rows (hN rows p)):Nat):Int)==0
def IC{rows:List Str}{p:Nat×Nat}:JR rows p=fR rows p:=by
 rw [Bool.eq_iff_iff];unfold fR;rw [nA];unfold JR;rw [zzy];have:(((yO p.1 p.2).countP (gB rows (hN rows p)):Nat):Int)=0↔∀q∈yO p.1 p.2,gB rows (hN rows p) q=false:=by
  rw [show(((yO p.1 p.2).countP (gB rows (hN rows p)):Nat):Int)=0↔(yO p.1 p.2).countP (gB rows (hN rows p))=0 from by omega,List.countP_eq_zero];exact⟨λh q hq=>by simpa using h q hq,λh q hq=>by rw [h q hq];exact zzf⟩
 rw [this];unfold PK hN
 constructor
 ·intro h r' c' nb ho;have hm:(r',c')∈yO p.1 p.2:=by
   unfold Nb at nb;simp! [yO,zzm,Prod.mk.injEq,List.not_mem_nil,or_false];omega
  have:=h _ hm
  unfold gB at this;rw [show cu rows (r',c').1 (r',c').2=true from ho,Bool.true_and,decide_eq_false_iff_not] at this;exact Int.not_lt.1 this
 ·rintro h ⟨r',c'⟩ hq
  unfold gB;cases ho:cu rows r' c' with
  |false=>rfl
  |true=>
   have nb:Nb p.1 p.2 r' c':=by
    unfold Nb;simp! [yO,zzm,Prod.mk.injEq,List.not_mem_nil,or_false] at hq;omega
   have:=h r' c' nb ho
   rw [Bool.true_and,decide_eq_false_iff_not];exact Int.not_lt.2 this
theorem t8(F:aO){rows:List Str}{w:Nat}(L:Fl rows w):∀(S:List (Nat×Nat)) (acc:List PV) (s2 s3 s4 s5 s6 s7:Ci.Slot),(∀p∈S,cu rows p.1 p.2=true)->acc.length+S.length<=1000->∃t2 t3 t4 t5 t6 t7,forL (λx env=>((Tg.two 2 3).put x env).bind λaj=>aF F Gh aj) (S.map cK) [.val (fl rows),.own (.lst acc),s2,s3,s4,s5,s6,s7]=.ok (.nx [.val (fl rows),.own (.lst (acc++(S.filter (fR rows)).map cK)),t2,t3,t4,t5,t6,t7])
 |[],acc,s2,s3,s4,s5,s6,s7,_,_=>⟨s2,s3,s4,s5,s6,s7,by simp [forL]⟩
 |p::S,acc,s2,s3,s4,s5,s6,s7,ho,hl=>by
  rw [zzL] at hl;have op:=ho p (zzP ..)
  obtain⟨i,j,y,h1,h2,h3,h4⟩:=gN op
  have e1:p.1=i:=by omega
  have e2:p.2=j:=by omega
  obtain⟨z,hz,q1,q2⟩:=lJ L.dm h3
  have hy:(y:Int)-48=hN rows p:=by
   rw [qr op];unfold vG;rw [e1,e2,h3]
   rfl
  rw [<-e1] at q1;rw [<-e2] at q2;obtain⟨a,b,e⟩:=sk F L (a1:=.own (.lst acc)) (a2:=.val (.int p.1)) (a3:=.val (.int p.2)) (y:=y) (yO p.1 p.2) 0 s6 s7
  rw [hy,Int.zero_add] at e;have hx:JR rows p=fR rows p:=IC
  unfold JR at hx;generalize hc:(((yO p.1 p.2).countP (gB rows (hN rows p)):Nat):Int)=cnt at *
  have la:acc.length+1<=bG:=zzU (m:=1000) (by omega) (by decide)
  have lb:acc.length+0<=bG:=zzU (m:=1000) (by omega) (by decide)
  have b1:cw .int [.bl true]=.ok (.int 1):=rfl
  have b2:cw .int [.bl false]=.ok (.int 0):=rfl
  have m1:binOp .mul (.lst [cK p]) (.int 1)=.ok (.lst [cK p]):=rfl
  have m0:binOp .mul (.lst [cK p]) (.int 0)=.ok (.lst []):=rfl
  obtain⟨t2,t3,t4,t5,t6,t7,e'⟩:=t8 F L S (acc++if fR rows p then [cK p] else []) (.val (.int p.1)) (.val (.int p.2)) (.val (.str ⟨#[y]⟩)) (.val (.int cnt)) a b (λq hq=>ho q (zzI _ hq)) (by rw [zzM];split<;>simp<;>omega)
  refine⟨t2,t3,t4,t5,t6,t7,?_⟩;have eb:(((Tg.two 2 3).put (cK p) [.val (fl rows),.own (.lst acc),s2,s3,s4,s5,s6,s7]).bind λaj=>aF F Gh aj)=.ok (.nx [.val (fl rows),.own (.lst (acc++if fR rows p then [cK p] else [])),.val (.int p.1),.val (.int p.2),.val (.str ⟨#[y]⟩),.val (.int cnt),a,b]):=by
   dsimp! only [sX] at e;cases hpk:fR rows p with
   |true=>
    rw [hpk] at hx;dsimp! only [Gh,sX,q1,q2,e,hx,b1,m1,la]
   |false=>
    rw [hpk] at hx;dsimp! only [Gh,sX,q1,q2,e,hx,b2,m0,lb]
  rw [zzF,forL,eb,kH];have ef:acc++((p::S).filter (fR rows)).map cK=(acc++if fR rows p then [cK p] else [])++(S.filter (fR rows)).map cK:=by
   rw [zz3,List.append_assoc];split<;>rfl
  rw [ef];exact e'
def Ai(F:aO){rows:List Str}{w:Nat}(L:Fl rows w){S:List (Nat×Nat)}(hs:F "_law_spots" [fl rows]=.ok (.lst (S.map cK)))(SL:q8 rows S):au F bZ [fl rows]=.ok (.lst ((S.filter (fR rows)).map cK)):=by
 obtain⟨t2,t3,t4,t5,t6,t7,e⟩:=t8 F L S [] .no .no .no .no .no .no (λp hp=>SL.cu hp) (by have:=SL.len;simp;omega)
 rw [List.nil_append] at e;dsimp! only [Gh,sX] at e;dsimp! only [bZ,hs,e,F8]
def zj{rows:List Str}{w:Nat}{z:Str}(h:z∈bw rows w):∃c,c<w/\z=⟨(jy rows c).toArray⟩:=by
 obtain⟨c,h1,rfl⟩:=zzx.1 h
 exact⟨c,List.mem_range.1 h1,rfl⟩
def ez{rows:List Str}{w:Nat}(L:Fl rows w):Fl (bw rows w) rows.length:=by
 have hn:=L.ne
 have w6:w<=6:=by
  have:=L.dm.2 _ (List.getElem_mem hn)
  have:=L.cy _ (List.getElem_mem hn)
  omega
 refine⟨⟨by rw [bt];exact w6,λz hz=>by rw [cj _ _ z hz];exact L.dm.1⟩,by rw [bt];exact L.w1,hn,cj _ _,λz hz x hx=>?_⟩
 obtain⟨c,hc,rfl⟩:=zj hz
 have hx:x∈jy rows c:=by simpa using hx
 unfold jy at hx;obtain⟨y,hy,rfl⟩:=zzx.1 hx
 have hy:=List.mem_reverse.1 hy
 have hl:=L.cy y hy
 have B7:c<y.cps.toList.length:=by rw [zzd];show c<y.length;omega
 rw [zzK,zzg B7];exact L.dig y hy _ (List.getElem_mem B7)
def qh{rows:List Str}{w:Nat}(L:Fl rows w):Fl (cX rows) w:=by
 have hm:∀z∈cX rows,∃y∈rows,z=fk y:=λz hz=>by
  obtain⟨y,hy,rfl⟩:=zzx.1 hz
  exact⟨y,hy,rfl⟩
 refine⟨⟨by rw [cO];exact L.dm.1,λz hz=>?_⟩,by rw [cO];exact L.ne,L.w1,λz hz=>?_,λz hz x hx=>?_⟩
 ·obtain⟨y,hy,rfl⟩:=hm z hz
  rw [pA];exact L.dm.2 y hy
 ·obtain⟨y,hy,rfl⟩:=hm z hz
  rw [pA];exact L.cy y hy
 ·obtain⟨y,hy,rfl⟩:=hm z hz
  have hx:x∈y.cps.toList:=by
   have:x∈(y.cps.toList.reverse.toArray).toList:=hx
   simpa using this
  exact L.dig y hy x hx
def iT{rows:List Str}{w:Nat}(L:Fl rows w)(a b:Int):cu (bw rows w) a b=cu rows ((rows.length:Int)-1-b) a:=by
 rw [Bool.eq_iff_iff];have key:∀a b:Nat,a<w->b<rows.length->(lU (bw rows w) a b=true↔lU rows (rows.length-1-b) a=true):=λa b ha hb=>by
  unfold lU;rw [fI L.cy ha hb]
 constructor
 ·intro h;have:=dW (ez L) h
  rw [bt] at this;obtain⟨a',rfl⟩:=zzw this.1
  obtain⟨b',rfl⟩:=zzw this.2.2.1
  have h2:=(cP.1 h).2.2
  rw [zz4,zz4] at h2;refine cP.2 ⟨by omega,by omega,?_⟩;have e:((rows.length:Int)-1-(b':Int)).toNat=rows.length-1-b':=by omega
  rw [e,zz4];exact(key a' b' (by omega) (by omega)).1 h2
 ·intro h;have:=dW L h
  obtain⟨a',rfl⟩:=zzw this.2.2.1
  have hb:0<=b:=by omega
  obtain⟨b',rfl⟩:=zzw hb
  have h2:=(cP.1 h).2.2
  have e:((rows.length:Int)-1-(b':Int)).toNat=rows.length-1-b':=by omega
  rw [e,zz4] at h2;refine cP.2 ⟨by omega,by omega,?_⟩;rw [zz4,zz4];exact(key a' b' (by omega) (by omega)).2 h2
def mY{rows:List Str}{w:Nat}(L:Fl rows w){a b:Int}(h:cu (bw rows w) a b=true):hZ (bw rows w) a b=hZ rows ((rows.length:Int)-1-b) a:=by
 have:=dW (ez L) h
 rw [bt] at this;obtain⟨a',rfl⟩:=zzw this.1
 obtain⟨b',rfl⟩:=zzw this.2.2.1
 unfold hZ;have e:((rows.length:Int)-1-(b':Int)).toNat=rows.length-1-b':=by omega
 rw [e,zz4,zz4,fI L.cy (by omega) (by omega)]
def xb{rows:List Str}{w:Nat}(L:Fl rows w){a b:Int}(h:cu (bw rows w) a b=true):PK (bw rows w) a b↔PK rows ((rows.length:Int)-1-b) a:=by
 unfold PK;rw [mY L h]
 constructor
 ·intro p r' c' nb ho;have nW:cu (bw rows w) c' ((rows.length:Int)-1-r')=true:=by
   rw [iT L,show(rows.length:Int)-1-((rows.length:Int)-1-r')=r' by omega];exact ho
  have:=p c' ((rows.length:Int)-1-r') (by unfold Nb at nb⊢;omega) nW
  rw [mY L nW,show(rows.length:Int)-1-((rows.length:Int)-1-r')=r' by omega] at this;exact this
 ·intro p a' b' nb ho;rw [mY L ho];refine p _ _ (by unfold Nb at nb⊢;omega) ?_;rw [<-iT L];exact ho
noncomputable abbrev FW(n:Nat)(p:Nat×Nat):List Int:=[(p.2:Int),(n:Int)-1-(p.1:Int)]
def vz{rows:List Str}{w:Nat}(L:Fl rows w){S S':List (Nat×Nat)}(SL:q8 rows S)(Cj:q8 (bw rows w) S'):qI ((S.filter (fR rows)).map (FW rows.length))=(S'.filter (fR (bw rows w))).map kN:=by
 refine gj jm (List.pairwise_map.2 (Cj.up.filter _)) λx=>?_
 rw [ke,zzx,zzx];have iff:∀p:Nat×Nat,p∈S.filter (fR rows)↔cu rows p.1 p.2=true/\PK rows p.1 p.2:=λp=>by
  rw [List.mem_filter];unfold fR;rw [nA];exact⟨λh=>⟨SL.cu h.1,h.2⟩,λh=>⟨(SL.mem p.1 p.2).2 (by have:=(cP.1 h.1).2.2;simpa using this),h.2⟩⟩
 have I0:∀p:Nat×Nat,p∈S'.filter (fR (bw rows w))↔cu (bw rows w) p.1 p.2=true/\PK (bw rows w) p.1 p.2:=λp=>by
  rw [List.mem_filter];unfold fR;rw [nA];exact⟨λh=>⟨Cj.cu h.1,h.2⟩,λh=>⟨(Cj.mem p.1 p.2).2 (by have:=(cP.1 h.1).2.2;simpa using this),h.2⟩⟩
 constructor
 ·rintro ⟨p,hp,rfl⟩
  obtain⟨ho,hk⟩:=(iff p).1 hp
  have hi:=dW L ho
  have e:((rows.length:Int)-1-(p.1:Int))=((rows.length-1-p.1:Nat):Int):=by omega
  have e2:(rows.length:Int)-1-((rows.length-1-p.1:Nat):Int)=p.1:=by omega
  have nW:cu (bw rows w) (p.2:Int) ((rows.length-1-p.1:Nat):Int)=true:=by rw [iT L,e2];exact ho
  refine⟨(p.2,rows.length-1-p.1),(I0 _).2 ⟨nW,(xb L nW).2 (by rw [e2];exact hk)⟩,?_⟩;show [(p.2:Int),((rows.length-1-p.1:Nat):Int)]=[(p.2:Int),(rows.length:Int)-1-(p.1:Int)]
  rw [e]
 ·rintro ⟨q,hq,rfl⟩
  obtain⟨ho,hk⟩:=(I0 q).1 hq
  have hi:=dW (ez L) ho
  have e:((rows.length:Int)-1-(q.2:Int))=((rows.length-1-q.2:Nat):Int):=by omega
  have nW:=ho
  rw [iT L,e] at nW;have N3:=(xb L ho).1 hk
  rw [e] at N3;refine⟨(rows.length-1-q.2,q.1),(iff _).2 ⟨nW,N3⟩,?_⟩;show [(q.1:Int),(rows.length:Int)-1-((rows.length-1-q.2:Nat):Int)]=[(q.1:Int),(q.2:Int)]
  rw [show(rows.length:Int)-1-((rows.length-1-q.2:Nat):Int)=q.2 by omega]
def HY{rows:List Str}{S:List (Nat×Nat)}(SL:q8 rows S)(n:Nat):((S.filter (fR rows)).map (FW n)).Nodup:=by
 refine List.pairwise_map.2 (((B2 SL.up).filter _).imp λ{a b} h z=>h ?_)
 have z1:=(List.cons.inj z).1
 have z2:=(List.cons.inj (List.cons.inj z).2).1
 exact Prod.ext (by omega) (by omega)
theorem lZ:∀l:List (List Int),i5 (l.map fg)=some l
 |[]=>rfl
 |k::l=>by
  have:yf (fg k)=some k:=by
   show intsOf (k.map .int)=some k
   induction k with
   |nil=>rfl
   |cons a k ih=>simp! [zzF,intsOf,ih,Option.map_some]
  simp! [zzF,i5,this,Option.bind_some,lZ l,Option.map_some]
def ur{rows:List Str}{S:List (Nat×Nat)}(SL:q8 rows S)(n:Nat):cw .sorted [.lst (((S.filter (fR rows)).map (FW n)).map fg)]=.ok (.lst ((qI ((S.filter (fR rows)).map (FW n))).map fg)):=by
 show(Res.of (i5 _)).bind _=_
 rw [lZ,Gj,kH,if_pos,zt (HY SL n) λ_=>Iff.rfl]
 rw [zza,zzN];refine⟨?_,zzT.2 λk hk=>?_⟩
 ·rw [zzl,zzl];exact zzV (List.length_filter_le ..) (zzV SL.len (by decide))
 ·obtain⟨p,_,rfl⟩:=zzx.1 hk
  rfl
def Et(F:aO){rows:List Str}{r c:Int}(hn:F "need_open" [fl rows,sp r c]=.ok .aI):au F bx [fl rows,sp r c]=.ok (sp c ((rows.length:Int)-1-r)):=by
 dsimp! only [bx,hn,zzl]
def Fc(F:aO){rows:List Str}{w:Nat}(L:Fl rows w){r c:Int}(hn:F "need_open" [fl rows,sp r c]=.ok .aI):au F aW [fl rows,sp r c]=.ok (sp r ((w:Int)-1-c)):=by
 have h0:=L.ne
 have r0:aJ (fl rows) (.int 0)=.ok (.str rows[0]):=df (j:=0) (zzg h0)
 have l0:=L.cy _ (List.getElem_mem h0)
 have w6:=L.dm.2 _ (List.getElem_mem h0)
 have lw:rows[0].length<=bG:=zzU (m:=12) (by omega) (by decide)
 have Oz:w<=bG:=l0▸lw
 dsimp! only [aW,hn,r0,Oz,l0]
def xu(F:aO){rows bJ:List Str}{w:Nat}(L:Fl rows w)(L':Fl bJ w):au F b7 [fl rows,fl bJ]=.ok (fl (rows++bJ)):=by
 have Mw:=L.ne
 have Ph:=L'.ne
 have r0:aJ (fl rows) (.int 0)=.ok (.str rows[0]):=df (j:=0) (zzg L.ne)
 have r1:aJ (fl bJ) (.int 0)=.ok (.str bJ[0]):=df (j:=0) (zzg L'.ne)
 have l0:=L.cy _ (List.getElem_mem L.ne)
 have l1:=L'.cy _ (List.getElem_mem L'.ne)
 have w6:=L.dm.2 _ (List.getElem_mem L.ne)
 have lw:rows[0].length<=bG:=zzU (m:=12) (by omega) (by decide)
 have LZ:bJ[0].length<=bG:=zzU (m:=12) (by omega) (by decide)
 have eq:((rows[0].length:Int)==(bJ[0].length:Int))=true:=by rw [l0,l1,beq_self_eq_true]
 have h1:decide ((12:Int)<(rows.map PV.str).length+(bJ.map PV.str).length)=false:=by rw [decide_eq_false_iff_not,zzl,zzl];have:=L.dm.1;have:=L'.dm.1;omega
 have h2:(rows.map PV.str).length+(bJ.map PV.str).length<=bG:=zzU (m:=12) (by rw [zzl,zzl];have:=L.dm.1;have:=L'.dm.1;omega) (by decide)
 have e:binOp .add (fl rows) (fl bJ)=.ok (fl (rows++bJ)):=by
  show(if _ then _ else _)=_
  rw [if_pos h2];show _=Res.ok (PV.tup ((rows++bJ).map .str))
  rw [List.map_append]
 dsimp! only [b7,r0,r1,lw,LZ,eq,h1,e]
def r6(F:aO){a b:List Str}{w:Nat}(hl:a.length=b.length)(ha:∀z∈a,z.length<=12)(hb:∀z∈b,z.length<=12):az (λx=>((Tg.two 0 1).put x [.no,.no]).bind λaj=>(ax F (.bin .add (.var 0) (.var 1)) aj).bind λy=>.ok (some y)) (kb [a.map .str,b.map .str])=.ok ((List.zipWith (·++·) a b).map .str):=by
 have e1:kb [a.map .str,b.map .str]=(List.range a.length).map λi=>.tup [.str (a.getD i ⟨#[]⟩),.str (b.getD i ⟨#[]⟩)]:=by
  unfold kb;have:ko [a.map PV.str,b.map PV.str]=a.length:=by
   show min (a.map PV.str).length (b.map PV.str).length=_
   rw [zzl,zzl,hl,Nat.min_self]
  rw [this];refine List.map_congr_left λi hi=>?_
  have hi:=List.mem_range.1 hi
  have yP:i<b.length:=by omega
  simp! [zzF,List.map_nil,zzK,zzQ,zzg hi,zzg yP,Option.map_some,Option.getD_some]
 rw [e1,bf (p:=λi=>.tup [.str (a.getD i ⟨#[]⟩),.str (b.getD i ⟨#[]⟩)]) (g:=λi=>.str (a.getD i ⟨#[]⟩++b.getD i ⟨#[]⟩)) λi hi=>?_]
 ·congr 1
  refine List.ext_getElem? λi=>?_
  rw [zzQ,zzQ,List.getElem?_zipWith]
  by_cases hi:i<a.length
  ·have yP:i<b.length:=by omega
   rw [List.getElem?_range hi,zzg hi,zzg yP];simp! [Option.map_some,zzK,zzg hi,zzg yP,Option.getD_some]
  ·rw [List.getElem?_eq_none (by rw [List.length_range];omega),List.getElem?_eq_none (l:=a) (by omega)]
   rfl
 ·have hi:=List.mem_range.1 hi
  have yP:i<b.length:=by omega
  have g1:a.getD i ⟨#[]⟩=a[i]:=by rw [zzK,zzg hi];rfl
  have g2:b.getD i ⟨#[]⟩=b[i]:=by rw [zzK,zzg yP];rfl
  rw [g1,g2];have h1:=ha _ (List.getElem_mem hi)
  have h2:=hb _ (List.getElem_mem yP)
  have h3:a[i].length+b[i].length<=bG:=zzU (m:=24) (by omega) (by decide)
  dsimp! only [h3]
def p8(F:aO){a b:List Str}{w w':Nat}(L:Fl a w)(L':Fl b w')(hl:a.length=b.length):au F bO [fl a,fl b]=.ok (fl (List.zipWith (·++·) a b)):=by
 have Mw:=L.ne
 have Ph:=L'.ne
 have r0:aJ (fl a) (.int 0)=.ok (.str a[0]):=df (j:=0) (zzg L.ne)
 have r1:aJ (fl b) (.int 0)=.ok (.str b[0]):=df (j:=0) (zzg L'.ne)
 have w6:=L.dm.2 _ (List.getElem_mem L.ne)
 have Pw:=L'.dm.2 _ (List.getElem_mem L'.ne)
 have lw:a[0].length<=bG:=zzU (m:=12) (by omega) (by decide)
 have LZ:b[0].length<=bG:=zzU (m:=12) (by omega) (by decide)
 have eq:(((a.map PV.str).length:Int)==((b.map PV.str).length:Int))=true:=by rw [zzl,zzl,hl,beq_self_eq_true]
 have h1:decide ((12:Int)<a[0].length+b[0].length)=false:=by rw [decide_eq_false_iff_not];omega
 have cc:=r6 F (w:=w) hl (λz hz=>zzU (L.dm.2 z hz) (by decide)) (λz hz=>zzU (L'.dm.2 z hz) (by decide))
 have ll:(kb [a.map PV.str,b.map PV.str]).length<bG:=by
  refine zzV (m:=6) ?_ (by decide);show((List.range (min (a.map PV.str).length (b.map PV.str).length)).map _).length<=6;rw [zzl,List.length_range,zzl];have:=L.dm.1
  omega
 have sv:ip [fl a,fl b]=some [a.map .str,b.map .str]:=rfl
 dsimp! only [J] at cc;dsimp! only [bO,eq,r0,r1,lw,LZ,h1,sv,ll,cc]
noncomputable def sB:Ss:=#v[.set 6 (.call "spot_turned" #v[!1,!5]),.ite (.or (.cmp .ne (!6) (.tup #v[.sub (!5) (¬1),.bin .sub (.bin .sub (.blt .len #v[!1]) (¬1)) (.sub (!5) (¬0))])) (.cmp .ne (.sub (.sub (!3) (.sub (!6) (¬0))) (.sub (!6) (¬1))) (.sub (.sub (!1) (.sub (!5) (¬0))) (.sub (!5) (¬1))))) #v[.ret (.cst (.bl false))] .nil,.ite (.cmp .ne (.call "spot_mirrored" #v[!1,!5]) (.tup #v[.sub (!5) (¬0),.bin .sub (.bin .sub (.blt .len #v[.sub (!1) (¬0)]) (¬1)) (.sub (!5) (¬1))])) #v[.ret (.cst (.bl false))] .nil]
noncomputable def l5:Ss:=#v[.par 7 8 #v[.call "set_below" #v[!1,!4],.call "set_beside" #v[!1,!4]],.set 9 (.comp 2 [] (.two 0 1) (.zip #v[!1,!4]) (.bin .add (!0) (!1))),.ite (.or (.cmp .ne (!7) (.bin .add (!1) (!4))) (.cmp .ne (!8) (.blt .tuple #v[!9]))) #v[.ret (.cst (.bl false))] .nil,.ite (.or (.cmp .ne (.call "walls_in" #v[!7]) (.bin .mul (¬2) (.call "walls_in" #v[!1]))) (.cmp .ne (.call "heights_in" #v[!3]) (.call "heights_in" #v[!1]))) #v[.ret (.cst (.bl false))] .nil,.ret (.cmp .eq (.call "turned_floor" #v[!7]) (.call "set_beside" #v[.call "turned_floor" #v[!4],!3]))]
noncomputable def l4:Ss:=.cons (.ite (.cmp .ne (.blt .sorted #v[.comp 1 [1] (.one 0) (.seq (.call "peaks" #v[!1])) (.call "spot_turned" #v[!1,!0])]) (.call "peaks" #v[!3])) #v[.ret (.cst (.bl false))] .nil) (.cons (.ite (.or (.cmp .ne (.call "turned_floor" #v[.call "turned_floor" #v[.call "turned_floor" #v[!3]]]) (!1)) (.cmp .ne (.call "mirrored_floor" #v[!4]) (!1))) #v[.ret (.cst (.bl false))] .nil) l5)
noncomputable def l3:Ss:=.cons (.cQ (.one 5) (.seq (.call "_law_spots" #v[!1])) sB) l4
noncomputable def l2:Ss:=.cons (.ite (.or (.cmp .ne (.call "walls_in" #v[!1]) (.pU .bY (!2) #v[.cst (.str "#")])) (.cmp .ne (.call "peaks" #v[!1]) (.call "_law_high" #v[!1]))) #v[.ret (.cst (.bl false))] .nil) (.cons (.par 3 4 #v[.call "turned_floor" #v[!1],.call "mirrored_floor" #v[!1]]) (.cons (.ite (.or (.cmp .Av (.call "is_floor" #v[!3]) (.cst (.bl true))) (.or (.cmp .Av (.call "is_floor" #v[!4]) (.cst (.bl true))) (.cmp .ne (!4) (.blt .tuple #v[.comp 1 [] (.one 0) (.seq (!1)) (.rev (!0))])))) #v[.ret (.cst (.bl false))] .nil) l3))
noncomputable def l1:Ss:=.cons (.set 1 (.call "_law_floor" #v[!0,¬0,¬6])) (.cons (.set 2 (.pU .join (.cst (.str "")) #v[.blt .list #v[!1]])) (.cons (.ite (.cmp .ne (.call "heights_in" #v[!1]) (.bX 1 [2] (.one 0) (.seq (.cst (.str "0123456789"))) (.cmp .A1 (!0) (!1)) (.tup #v[.blt .int #v[!0],.pU .bY (!1) #v[!0]]))) #v[.ret (.cst (.bl false))] .nil) l2))
theorem EN:mz=⟨["_law_script","_law_floor_here","_law_text","_law_new","_law_other","_law_spot","_law_there","_law_low","_law_wide","_law_both_rows"],1,l1,none⟩:=rfl
def gb:∀(n:Nat) (p:PV),Ci.plain n p=true->gH n p p=true:=by
 have es:∀(n:Nat),(∀p,Ci.plain n p=true->gH n p p=true)->∀l:List PV,l.all (Ci.plain n)=true->eqs (gH n) l l=true:=λn ih l=>by
  induction l with
  |nil=>exact λ_=>rfl
  |cons a l il=>
   intro h;rw [List.all_cons,zza] at h;show(gH n a a&&eqs (gH n) l l)=true
   rw [ih a h.1,il h.2]
   rfl
 intro n
 induction n with
 |zero=>
  intro p h;cases p<;>first|(exact aM h)|(simp [gH])
 |succ n ih=>
  intro p h;cases p with
  |tup xs=>exact es n ih xs h
  |lst xs=>exact es n ih xs h
  |dB _ _=>exact aM h
  |exc _=>exact aM h
  |_=>simp [gH]
def Cm{p:PV}(h:nO p=true):gG p p=.ok (.bl false):=by
 show(if(nO p&&nO p)=true then Res.ok (PV.bl (!eqv p p)) else .bad)=_
 rw [h];show Res.ok (PV.bl (!gH DP p p))=_
 rw [gb DP p h]
 rfl
def Om{p:PV}(h:nO p=true):iA p p=.ok (.bl true):=by
 show(if(nO p&&nO p)=true then Res.ok (PV.bl (eqv p p)) else .bad)=_
 rw [h];show Res.ok (PV.bl (gH DP p p))=_
 rw [gb DP p h]
def rQ(rows:List Str):nO (fl rows)=true:=by
 show(rows.map PV.str).all (Ci.plain 8)=true
 rw [List.all_map,zzT];exact λ_ _=>rfl
def B6(l:List (Int×Int)):nO (.lst (l.map uC))=true:=by
 show(l.map uC).all (Ci.plain 8)=true
 rw [List.all_map,zzT];exact λ_ _=>rfl
def B5(l:List (Nat×Nat)):nO (.lst (l.map cK))=true:=by
 show(l.map cK).all (Ci.plain 8)=true
 rw [List.all_map,zzT];exact λ_ _=>rfl
def xI{rows:List Str}{S S0:List (Nat×Nat)}(h:q8 rows S)(h0:q8 rows S0):S=S0:=by
 have e:S.map kN=S0.map kN:=gj (List.pairwise_map.2 h.up) (List.pairwise_map.2 h0.up) λx=>by
  rw [zzx,zzx];have:∀p,p∈S↔p∈S0:=λp=>(h.mem p.1 p.2).trans (h0.mem p.1 p.2).symm
  constructor
  ·rintro ⟨p,hp,rfl⟩;exact⟨p,(this p).1 hp,rfl⟩
  ·rintro ⟨p,hp,rfl⟩;exact⟨p,(this p).2 hp,rfl⟩
 refine(List.map_inj_right λx y JJ=>?_).1 e;have z1:=(List.cons.inj JJ).1
 have z2:=(List.cons.inj (List.cons.inj JJ).2).1
 exact Prod.ext (by omega) (by omega)
theorem bL{xs:List PV}:cw .list [.tup xs]=.ok (.lst xs):=rfl
structure bS(F:aO)(rows:List Str)(w:Nat)(S:List (Nat×Nat)):Prop where
 L:Fl rows w
 SL:q8 rows S
 HA:F "_law_spots" [fl rows]=.ok (.lst (S.map cK))
 Kl:∀rows w,Fl rows w->F "heights_in" [fl rows]=.ok (.lst ((dF (ff rows)).map uC))
 yA:∀rows:List Str,rows.length<=12->(∀z∈rows,z.length<=12)->F "walls_in" [fl rows]=.ok (.int ((flat rows).count 35:Nat))
 yw:∀rows w,Fl rows w->∃S,q8 rows S/\F "peaks" [fl rows]=.ok (.lst ((S.filter (fR rows)).map cK))
 high:F "_law_high" [fl rows]=.ok (.lst ((S.filter (fR rows)).map cK))
 bw:∀(rows:List Str) w,0<rows.length->rows.length<=12->(∀z∈rows,z.length=w)->w<=12->F "turned_floor" [fl rows]=.ok (fl (bw rows w))
 cX:∀rows:List Str,rows.length<=12->(∀z∈rows,z.length<=12)->F "mirrored_floor" [fl rows]=.ok (fl (cX rows))
 MZ:∀rows w,Fl rows w->F "is_floor" [fl rows]=.ok (.bl true)
 M7:∀r c,cu rows r c=true->F "spot_turned" [fl rows,sp r c]=.ok (sp c ((rows.length:Int)-1-r))
 Od:∀r c,cu rows r c=true->F "spot_mirrored" [fl rows,sp r c]=.ok (sp r ((w:Int)-1-c))
 below:∀rows bJ w,Fl rows w->Fl bJ w->F "set_below" [fl rows,fl bJ]=.ok (fl (rows++bJ))
 yd:∀(a b:List Str) w w',Fl a w->Fl b w'->a.length=b.length->F "set_beside" [fl a,fl b]=.ok (fl (List.zipWith (·++·) a b))
section
variable{F:aO}{rows:List Str}{w:Nat}{S:List (Nat×Nat)}{a0 a2 a5 a6:Ci.Slot}
def bS.w6(A:bS F rows w S):w<=6:=by
 have hn:=A.L.ne
 have:=A.L.dm.2 _ (List.getElem_mem hn)
 have:=A.L.cy _ (List.getElem_mem hn)
 omega
def GC(A:bS F rows w S):aF F l5 [a0,.val (fl rows),a2,.val (fl (K04.bw rows w)),.val (fl (K04.cX rows)),a5,a6,.no,.no,.no]=.ok (.rt (.bl true)):=by
 have n6:=A.L.dm.1
 have w6:=A.w6
 have LM:=qh A.L
 have LT:=ez A.L
 have NN:=ez LM
 rw [cO] at NN;have e1:=A.below rows (K04.cX rows) w A.L LM
 have e2:=A.yd rows (K04.cX rows) w w A.L LM (cO rows).symm
 have cc:=r6 F (a:=rows) (b:=K04.cX rows) (w:=w) (cO rows).symm (λz hz=>zzU (A.L.dm.2 z hz) (by decide)) (λz hz=>zzU (LM.dm.2 z hz) (by decide))
 have ll:(kb [rows.map PV.str,(K04.cX rows).map PV.str]).length<bG:=by
  refine zzV (m:=6) ?_ (by decide);show((List.range (min (rows.map PV.str).length ((K04.cX rows).map PV.str).length)).map _).length<=6;rw [zzl,List.length_range,zzl];omega
 have sv:ip [fl rows,fl (K04.cX rows)]=some [rows.map .str,(K04.cX rows).map .str]:=rfl
 have la:(rows.map PV.str).length+((K04.cX rows).map PV.str).length<=bG:=zzU (m:=12) (by rw [zzl,zzl,cO];omega) (by decide)
 have ea:binOp .add (fl rows) (fl (K04.cX rows))=.ok (fl (rows++K04.cX rows)):=by
  show(if _ then _ else _)=_
  rw [if_pos la];show _=Res.ok (PV.tup ((rows++K04.cX rows).map .str))
  rw [List.map_append]
 have IF:(rows++K04.cX rows).length<=12:=by rw [zzM,cO];omega
 have Gz:∀z∈rows++K04.cX rows,z.length=w:=λz hz=>by
  rcases List.mem_append.1 hz with h|h
  ·exact A.L.cy z h
  ·exact LM.cy z h
 have w1:=A.yA (rows++K04.cX rows) IF (λz hz=>by rw [Gz z hz];omega)
 have w2:=A.yA rows (by omega) (λz hz=>zzU (A.L.dm.2 z hz) (by decide))
 have wc:(((flat (rows++K04.cX rows)).count 35:Nat):Int)=2*(((flat rows).count 35:Nat):Int):=by
  have:flat (rows++K04.cX rows)=flat rows++flat (K04.cX rows):=by unfold flat;rw [List.flatMap_append]
  rw [this,List.count_append,tm];omega
 rw [wc] at w1;have sm:aG 2=true:=by decide
 have h1:=A.Kl _ _ LT
 have hc:ff (K04.bw rows w)=ff rows:=funext λd=>AX (48+d) A.L.cy
 rw [hc] at h1;have h2:=A.Kl _ _ A.L
 have t1:=A.bw (rows++K04.cX rows) w (by rw [zzM];have:=A.L.ne;omega) IF Gz (by omega)
 rw [v8] at t1;have t2:=A.bw (K04.cX rows) w LM.ne (by rw [cO];omega) LM.cy (by omega)
 have e3:=A.yd (K04.bw (K04.cX rows) w) (K04.bw rows w) rows.length rows.length NN LT (by rw [bt,bt])
 have nb:(2*(((flat rows).count 35:Nat):Int)==2*(((flat rows).count 35:Nat):Int))=true:=beq_self_eq_true _
 dsimp! only [J] at cc;dsimp! only [l5,e1,e2,sv,ll,cc,ea,Cm (rQ _),w1,w2,sm,nb,Bool.true_or,h1,h2,Cm (B6 _),t1,t2,e3,Om (rQ _)]
def G6(A:bS F rows w S):aF F l4 [a0,.val (fl rows),a2,.val (fl (K04.bw rows w)),.val (fl (K04.cX rows)),a5,a6,.no,.no,.no]=.ok (.rt (.bl true)):=by
 have n6:=A.L.dm.1
 have w6:=A.w6
 have LT:=ez A.L
 have LM:=qh A.L
 obtain⟨S1,SL1,e1⟩:=A.yw rows w A.L
 cases xI SL1 A.SL;obtain⟨S2,SL2,e2⟩:=A.yw _ _ LT
 have cc:az (λx=>((Tg.one 0).put x [.no,.val (fl rows)]).bind λaj=>(ax F (.call "spot_turned" (.cons (.var 1) (.cons (.var 0) .nil))) aj).bind λy=>.ok (some y)) ((S.filter (fR rows)).map cK)=.ok (((S.filter (fR rows)).map (FW rows.length)).map fg):=by
  rw [List.map_map];refine bf (p:=cK) (g:=λp=>fg (FW rows.length p)) λp hp=>?_
  have:=A.M7 p.1 p.2 (SL1.cu (List.mem_filter.1 hp).1)
  dsimp! only [this]
  rfl
 have ll:((S.filter (fR rows)).map cK).length<bG:=zzV (m:=36) (by rw [zzl];exact zzU (List.length_filter_le ..) SL1.len) (by decide)
 have so:=ur SL1 rows.length
 rw [vz A.L SL1 SL2,show((S2.filter (fR (K04.bw rows w))).map kN).map fg=(S2.filter (fR (K04.bw rows w))).map cK from by rw [List.map_map];rfl] at so;have l1:=bt rows w
 have r1:=cj rows w
 have l2:=bt (K04.bw rows w) rows.length
 have r2:=cj (K04.bw rows w) rows.length
 rw [l1] at r2;have l3:=bt (K04.bw (K04.bw rows w) rows.length) w
 have r3:=cj (K04.bw (K04.bw rows w) rows.length) w
 rw [l2] at r3;have hn:=A.L.ne
 have hw:=A.L.w1
 have t1:=A.bw (K04.bw rows w) rows.length (by omega) (by omega) r1 (by omega)
 have t2:=A.bw (K04.bw (K04.bw rows w) rows.length) w (by omega) (by omega) r2 (by omega)
 have t3:=A.bw (K04.bw (K04.bw (K04.bw rows w) rows.length) w) rows.length (by omega) (by omega) r3 (by omega)
 rw [Lb A.L.cy] at t3;have m1:=A.cX (K04.cX rows) (by rw [cO];omega) (λz hz=>zzU (LM.dm.2 z hz) (by decide))
 rw [BA] at m1;have e5:=GC (a0:=a0) (a2:=a2) (a5:=a5) (a6:=a6) A
 dsimp! only [J] at cc;dsimp! only [l4,e1,ll,cc,so,e2,Cm (B5 _),t1,t2,t3,Cm (rQ _),m1,e5]
theorem mj(A:bS F rows w S):∀(l:List (Nat×Nat)) (s5 s6:Ci.Slot),(∀p∈l,cu rows p.1 p.2=true)->∃Of Lv,forL (λx env=>((Tg.one 5).put x env).bind λaj=>aF F sB aj) (l.map cK) [a0,.val (fl rows),a2,.val (fl (K04.bw rows w)),.val (fl (K04.cX rows)),s5,s6,.no,.no,.no]=.ok (.nx [a0,.val (fl rows),a2,.val (fl (K04.bw rows w)),.val (fl (K04.cX rows)),Of,Lv,.no,.no,.no])
 |[],s5,s6,_=>⟨s5,s6,rfl⟩
 |p::l,s5,s6,ho=>by
  have op:=ho p (zzP ..)
  have hi:=dW A.L op
  obtain⟨i,j,x,h1,h2,h3,h4⟩:=gN op
  have e1:p.1=i:=by omega
  have e2:p.2=j:=by omega
  obtain⟨z,hz,q1,q2⟩:=lJ A.L.dm h3
  rw [<-e1] at q1;rw [<-e2] at q2;have v7:cd (K04.bw rows w) p.2 (rows.length-1-p.1)=some x:=by
   rw [fI A.L.cy (by omega) (by omega),show rows.length-1-(rows.length-1-p.1)=p.1 by omega,e1,e2];exact h3
  obtain⟨z',hz',q3,q4⟩:=lJ (ez A.L).dm v7
  have en:((rows.length-1-p.1:Nat):Int)=(rows.length:Int)-1-(p.1:Int):=by omega
  rw [en] at q4;have t1:=A.M7 p.1 p.2 op
  have t2:=A.Od p.1 p.2 op
  have h0:=A.L.ne
  have r0:aJ (fl rows) (.int 0)=.ok (.str rows[0]):=df (j:=0) (zzg h0)
  have l0:=A.L.cy _ (List.getElem_mem h0)
  have lw:w<=bG:=zzU (m:=12) (by have:=A.w6;omega) (by decide)
  have nn:gG (.str ⟨#[x]⟩) (.str ⟨#[x]⟩)=.ok (.bl false):=Cm rfl
  have b1:((p.1:Int)==(p.1:Int))=true:=beq_self_eq_true _
  have b2:((p.2:Int)==(p.2:Int))=true:=beq_self_eq_true _
  have b3:((rows.length:Int)-1-(p.1:Int)==(rows.length:Int)-1-(p.1:Int))=true:=beq_self_eq_true _
  have b4:((w:Int)-1-(p.2:Int)==(w:Int)-1-(p.2:Int))=true:=beq_self_eq_true _
  obtain⟨a,b,e⟩:=mj A l (.val (cK p)) (.val (sp p.2 ((rows.length:Int)-1-p.1))) λq hq=>ho q (zzI _ hq)
  refine⟨a,b,?_⟩;have eb:(((Tg.one 5).put (cK p) [a0,.val (fl rows),a2,.val (fl (K04.bw rows w)),.val (fl (K04.cX rows)),s5,s6,.no,.no,.no]).bind λaj=>aF F sB aj)=.ok (.nx [a0,.val (fl rows),a2,.val (fl (K04.bw rows w)),.val (fl (K04.cX rows)),.val (cK p),.val (sp p.2 ((rows.length:Int)-1-p.1)),.no,.no,.no]):=by
   dsimp! only [sB,t1,zzl,b1,b2,b3,b4,Bool.and_self,q1,q2,q3,q4,nn,t2,r0,l0,lw]
  rw [zzF,forL,eb,kH];exact e
def IU(A:bS F rows w S):aF F l3 [a0,.val (fl rows),a2,.val (fl (K04.bw rows w)),.val (fl (K04.cX rows)),.no,.no,.no,.no,.no]=.ok (.rt (.bl true)):=by
 obtain⟨s5,s6,e⟩:=mj (a0:=a0) (a2:=a2) A S .no .no λp hp=>A.SL.cu hp
 have e4:=G6 (a0:=a0) (a2:=a2) (a5:=s5) (a6:=s6) A
 have hs:=A.HA
 dsimp! only [sB] at e;dsimp! only [l3,sB,hs,e,e4]
def Hc(A:bS F rows w S):aF F l2 [a0,.val (fl rows),.val (.str (Txt.join "" rows)),.no,.no,.no,.no,.no,.no,.no]=.ok (.rt (.bl true)):=by
 have n6:=A.L.dm.1
 have w6:=A.w6
 have LT:=ez A.L
 have LM:=qh A.L
 have LX:∀z∈rows,z.length<=12:=λz hz=>zzU (A.L.dm.2 z hz) (by decide)
 have w2:=A.yA rows (by omega) LX
 have ct:qV (Txt.join "" rows) "#"=(((flat rows).count 35:Nat):Int):=by rw [hash,mX,fN]
 have nb:((((flat rows).count 35:Nat):Int)==(((flat rows).count 35:Nat):Int))=true:=beq_self_eq_true _
 obtain⟨S1,SL1,e1⟩:=A.yw rows w A.L
 cases xI SL1 A.SL;have eh:=A.high
 have t1:=A.bw rows w A.L.ne (by omega) A.L.cy (by omega)
 have m1:=A.cX rows (by omega) LX
 have f1:=A.MZ _ _ LT
 have f2:=A.MZ _ _ LM
 have ii:j9 (.bl true) (.bl true)=.ok (.bl false):=rfl
 have cc:az (λx=>((Tg.one 0).put x [.no]).bind λaj=>(ax F (.rev (.var 0)) aj).bind λy=>.ok (some y)) (rows.map .str)=.ok ((K04.cX rows).map .str):=by
  unfold K04.cX;rw [List.map_map];refine bf (p:=PV.str) (g:=λz=>.str (fk z)) λz hz=>?_
  have Hx:z.length<=bG:=zzU (LX z hz) (by decide)
  dsimp! only [Hx]
 have ll:(rows.map PV.str).length<bG:=zzV (m:=12) (by rw [zzl];omega) (by decide)
 have e3:=IU (a0:=a0) (a2:=.val (.str (Txt.join "" rows))) A
 dsimp! only [J] at cc;dsimp! only [l2,w2,kS,cS,ct,nb,e1,eh,Cm (B5 _),t1,m1,f1,f2,ii,ll,cc,Cm (rQ _),e3]
def L6:chars ("0123456789":Str)=(List.range 10).map λd=>.str ⟨#[48+d]⟩:=by kernel_rfl
def EY(A:bS F rows w S){ns:List Int}(hf:F "_law_floor" [iL ns,.int 0,.int 6]=.ok (fl rows)):au F mz [iL ns]=.ok (.bl true):=by
 have n6:=A.L.dm.1
 have lj:("":Str).length<=16/\(rows.map (·.length)).sum+rows.length<=bG:=⟨by decide,by
  refine zzU (m:=60) ?_ (by decide);have:∀l:List Str,(∀z∈l,z.length<=6)->(l.map (·.length)).sum<=6*l.length:=λl=>by
   induction l with
   |nil=>exact λ_=>zzE _
   |cons z l ih=>
    intro h;have h1:=h z (zzP ..)
    have h2:=ih λy hy=>h y (zzI _ hy)
    rw [zzF,List.sum_cons,zzL];omega
  have:=this rows A.L.dm.2
  omega⟩
 have ej:mw .join [.str "",.lst (rows.map .str)]=.ok (.str (Txt.join "" rows)):=by rw [mJ,strs_map,Gj,kH,if_pos lj]
 have hh:=A.Kl _ _ A.L
 have cc:az (λx=>((Tg.one 0).put x [.no,.val (.str (Txt.join "" rows))]).bind λaj=>(ax F (.cmp .A1 (.var 0) (.var 1)) aj).bind λt=>qB t λt=>if t then(ax F (.tup (.cons (.blt .int (.cons (.var 0) .nil)) (.cons (.pU .bY (.var 1) (.cons (.var 0) .nil)) .nil))) aj).bind λy=>.ok (some y) else .ok none) (chars ("0123456789":Str))=.ok ((dF (ff rows)).map uC):=by
  have hl:(dF (ff rows)).map uC=((List.range 10).filter λd=>decide (0<ff rows d)).map λd:Nat=>uC ((d:Int),(ff rows d:Int)):=by
   unfold dF;rw [List.map_map]
   rfl
  rw [L6,hl];refine dS λd hd=>?_
  have hd:=List.mem_range.1 hd
  have e1:=xB (Txt.join "" rows) (48+d)
  rw [fN] at e1;have e2:decide (48+d∈flat rows)=decide (0<ff rows d):=by
   rw [decide_eq_decide];unfold ff;exact List.count_pos_iff.symm
  rw [e2] at e1;have e3:qV (Txt.join "" rows) ⟨#[48+d]⟩=(ff rows d:Int):=by rw [mX,fN];rfl
  have e4:=tH (x:=48+d) (by omega) (by omega)
  rw [show((48+d:Nat):Int)-48=(d:Int) by omega] at e4;dsimp! only [e1];cases decide (0<ff rows d)<;>dsimp! only [e4,kS,cS,e3]
 have ll:(chars ("0123456789":Str)).length<bG:=by decide+kernel
 have sq:qp (.cst (.str "0123456789")) (.str "0123456789")=.ok (chars ("0123456789":Str)):=rfl
 have e2:=Hc (a0:=.val (iL ns)) A
 rw [EN];show(aF F l1 [.val (iL ns),.no,.no,.no,.no,.no,.no,.no,.no,.no]).bind _=_
 have eA:aF F l1 [.val (iL ns),.no,.no,.no,.no,.no,.no,.no,.no,.no]=.ok (.rt (.bl true)):=by
  dsimp! only [J] at cc;dsimp! only [l1,hf,bL,mK,ej,hh,sq,ll,cc,Cm (B6 _),e2]
 rw [eA]
 rfl
end
def HQ(ns:List Int)(hl:ns.length<=63):au (den sJ) mz [iL ns]=.ok (.bl true):=by
 have pick:∀F:aO,F "_law_pick"=au (den T2) bI->qJ F:=λF hF ns k q hk hq=>by
  rw [hF];exact Bc (den T2) (λns k hk=>by rw [Hb];exact z9 _ ns k hk) ns k q hk hq
 have B9:∀F:aO,F "is_open"=au (den T8) cf->xG F:=λF hF rows R r c=>by
  rw [hF];exact AN _ (λr c=>by rw [GJ];exact rb _ (λi=>by rw [IW];exact mE _ i) r c) (λrows R r c=>by rw [Im];exact HM _ rows R r c) rows R r c
 have w5:∀F:aO,F "need_open"=au (den T9) aZ->EX F:=λF hF rows R r c h=>by
  rw [hF];exact nV _ (B9 _ IQ) rows R r c h
 have Hj:∀F:aO,F "height_at"=au (den HV) bj->sC F:=λF hF rows w L r c h=>by
  rw [hF];exact u6 _ (w5 _ zQ) L h
 have MK:∀rows,qR rows->∃S,au (den T5) aX [fl rows]=.ok (.lst (S.map cK))/\q8 rows S:=λrows R=>by
  obtain⟨S,e,a,b,c⟩:=wa (den T5) rows R
  exact⟨S,e,a,b,c⟩
 have OL:∀F:aO,F "open_spots_beside"=au (den Jr) aB->BK F:=λF hF rows R r c a b d e=>by
  rw [hF];exact Fi _ (B9 _ Ft) R a b d e
 have pk:∀F:aO,F "is_peak"=au (den F6) cG->∀rows w,Fl rows w->∀r c,cu rows r c=true->F "is_peak" [fl rows,sp r c]=.ok (.bl (Cn rows r c)):=λF hF rows w L r c h=>by
  rw [hF];exact zX _ (Hj _ AV) (OL _ zC) (λr c r' c'=>by rw [zP];exact Bw _ r c r' c') L h
 have KI:∀F:aO,F "mirrored_floor"=au (den Kf) aH->∀rows:List Str,rows.length<=12->(∀z∈rows,z.length<=12)->F "mirrored_floor" [fl rows]=.ok (fl (cX rows)):=λF hF rows h1 h2=>by
  rw [hF];exact oG _ h1 h2
 obtain⟨rows,w,L,ef⟩:=vm (den T3) (pick _ Hr) ns 6 (by decide) (by decide)
 obtain⟨S,es,s1,s2,s3⟩:=yv (den T4) rows L.dm
 have SL:q8 rows S:=⟨s1,s2,s3⟩
 refine EY (rows:=rows) (w:=w) (S:=S) ⟨L,SL,by rw [Dy];exact es,λrows w L=>?_,λrows h1 h2=>?_,λrows w L=>?_,?_,λrows w h1 h2 h3 h4=>?_,KI _ AG,λrows w L=>?_,λr c h=>?_,λr c h=>?_,λrows bJ w L L'=>?_,λa b w w' L L' h=>?_⟩ (by rw [Er];exact ef)
 ·rw [zD];obtain⟨S',e',Cj⟩:=MK rows L.dm
  exact qL _ (Hj _ Bl) L ⟨S',by rw [ED];exact e',Cj⟩
 ·rw [zS];exact x9 _ h1 h2
 ·obtain⟨S',e',Cj⟩:=MK rows L.dm
  refine⟨S',Cj,?_⟩;rw [Bz];exact yz (w:=w) _ (pk _ A6 rows w L) (by rw [DO];exact e') Cj
 ·rw [Bh];exact Ai _ L (by rw [Em];exact es) SL
 ·rw [zG];exact vx _ h1 h2 h3 h4
 ·rw [Ab];exact Bv _ (λz a b c=>by rw [AZ];exact DK _ (λx hx=>by rw [yX];exact Eb _ hx) a b c) L
 ·rw [Bg];exact Et _ (w5 _ Bm rows L.dm r c h)
 ·rw [zE];exact Fc _ L (w5 _ zO rows L.dm r c h)
 ·rw [Ap];exact xu _ L L'
 ·rw [An];exact p8 _ L L' h
end K04
namespace Hd
open PySem PySem.W L2
noncomputable abbrev fo(n:Str)(st:Stmt)(pm:Value)(c:Addr):Obj:=⟨.type "function",none,.func (fnOf n n (cq st) (bM st) (aC st) .none .none .none pm none (.ref c) .none),#[]⟩
noncomputable abbrev co(n:Str)(a:Nat)(L A:Int)(r:Nat)(x y:Value)(q z:Nat):Obj:={cls:=.type "code",data:=.fields #[.str n a,.str n (a+1),.str "/claim/cut.py" (a+2),.int L 0,.int A 0,.int 0 0,.int 0 0,.int 3 0,.ref r,.bool Bool.true,.int 181 0,.ref (r+1),.none,x,y,.ref q,.int z 0,.int L 0,.str "/claim/cut.py" (z+1)]}
noncomputable def Ly(s:Stmt):Pos:=match s with
 |.FunctionDef _ _ _ _ _ _ _ _ _ p=>p
 |_=>⟨0,0,0,0⟩
def ent{K:Frag}{ts:List (Addr×Str)}{n:Str}{st:Stmt}(f c:Addr)(pm:Value)(a:nsIn K mainGlobals n=some (some (.ref f)):=by kernel_rfl)(l:K.lookup f=some (fo n st pm c):=by kernel_rfl)(d:codeIn K (.ref c) n=true:=by kernel_rfl)(k:keepIn K (.ref f)=true:=by kernel_rfl):Ci.vT K ts false n st:=Ci.LV a l d k
def ac{K:Frag}{ts:List (Addr×Str)}{Γ:Ci.Pg}{r:Ci.Row}{l:Ci.dt}(e:Ci.vT K ts r.hl r.h r.st)(s:Ci.bT (Γ.at l r.hl) r.h r.d r.st)(t:Ci.AllK K ts Γ l)(a:(l.map (·.f)).contains r.f=false:=by decide+kernel)(b:(r.d.nZ.isNone==!Ci.fJ r.f)=true:=by decide+kernel)(c:r.d.nZ.isNone=true->r.f=r.h:=by first|exact λ_=>rfl|exact λz=>absurd z (by decide)):Ci.AllK K ts Γ (r::l):=⟨e,s,⟨a,b,c⟩,t⟩
def xF{K L:Frag}{b:Addr}{o:Obj}(e:K.lookup b=some o):(K++L).lookup b=some o:=by
 rw [List.lookup_append,e]
 rfl
end Hd
namespace K04
open PySem L2 Ci
noncomputable abbrev lw:=PySem.Challenge.rw_cellways_k04_whole_grounds
noncomputable def top(i:Nat):Stmt:=PySem.Challenge.pw_cellways_k04_whole_grounds.main.body.getD i (.Pass ⟨0,0,0,0⟩)
noncomputable abbrev m1:Value:=.str "cellways.floors" 239
noncomputable abbrev m2:Value:=.str "cellways.grounds" 335
noncomputable abbrev m3:Value:=.str "law_cellways_k04_whole_grounds" 415
noncomputable def K(P:Params):zz8:=[(2,{cls:=.none,data:=.dict #[]}),
 (3,{cls:=.type "dict",data:=.dict #[Hd.de P "__name__" 165 (.str "law_cellways_k04_whole_grounds" 415),Hd.de P "__doc__" 166 (.none),Hd.de P "__package__" 167 (.none),Hd.de P "__loader__" 168 (.builtin "__main__.__loader__#opaque"),Hd.de P "__spec__" 169 (.none),Hd.de P "__annotations__" 170 (.ref 6),Hd.de P "__builtins__" 171 (.ref 4),Hd.de P "__file__" 173 (.str "/claim/cut.py" 172),Hd.de P "__cached__" 174 (.none),Hd.de P "FloorError" 206 (.ref 24),Hd.de P "NoSpot" 222 (.ref 37),Hd.de P "NoFit" 238 (.ref 49),Hd.de P "WALL" 242 (.str "#" 241),Hd.de P "SIGNS" 244 (.str "#0123456789" 243),Hd.de P "LONGEST" 246 (.int 12 245),Hd.de P "is_whole" 253 (.ref 58),Hd.de P "is_sign" 260 (.ref 65),Hd.de P "is_row" 266 (.ref 70),Hd.de P "is_floor" 272 (.ref 75),Hd.de P "is_spot" 279 (.ref 82),Hd.de P "is_on_floor" 287 (.ref 89),Hd.de P "is_open" 295 (.ref 96),Hd.de P "need_open" 303 (.ref 103),Hd.de P "open_spots" 315 (.ref 110),Hd.de P "height_at" 323 (.ref 117),Hd.de P "open_spots_beside" 334 (.ref 124),Hd.de P "heights_in" 346 (.ref 131),Hd.de P "walls_in" 352 (.ref 136),Hd.de P "share_side" 360 (.ref 143),Hd.de P "is_peak" 366 (.ref 148),Hd.de P "peaks" 372 (.ref 153),Hd.de P "turned_floor" 378 (.ref 158),Hd.de P "mirrored_floor" 384 (.ref 163),Hd.de P "spot_turned" 392 (.ref 170),Hd.de P "spot_mirrored" 400 (.ref 177),Hd.de P "set_below" 408 (.ref 184),Hd.de P "set_beside" 414 (.ref 189),Hd.de P "_law_cell" 424 (.ref 196),Hd.de P "_law_pick" 434 (.ref 203),Hd.de P "_law_floor" 452 (.ref 210),Hd.de P "_law_spots" 458 (.ref 215),Hd.de P "_law_high" 472 (.ref 222),Hd.de P "law" 478 (.ref 227)] 43}),
 (23,{cls:=.type "dict",data:=.dict #[Hd.de P "__module__" 196 (.str "cellways.errors" 187),Hd.de P "__firstlineno__" 200 (.int 2 199),Hd.de P "__static_attributes__" 201 (.ref 22),Hd.de P "__weakref__" 203 (.ref 25),Hd.de P "__doc__" 204 (.none)] 3}),
 (24,{cls:=.type "type",data:=.cls {name:="FloorError",bases:=[.type "ValueError"],mro:=[.ref 24,.type "ValueError",.type "Exception",.type "BaseException",.type "object"],ns:=23,qualname:="FloorError",subclasses:=[.ref 37,.ref 49]},slots:=#[some (.ref 15),none,some (.str "FloorError" 189),some (.str "FloorError" 197),some (.builtin "ValueError.__new__"),some (.bool Bool.true)]}),
 (36,{cls:=.type "dict",data:=.dict #[Hd.de P "__module__" 214 (.str "cellways.errors" 187),Hd.de P "__firstlineno__" 218 (.int 4 217),Hd.de P "__static_attributes__" 219 (.ref 35),Hd.de P "__doc__" 220 (.none)] 2}),
 (37,{cls:=.type "type",data:=.cls {name:="NoSpot",bases:=[.ref 24],mro:=[.ref 37,.ref 24,.type "ValueError",.type "Exception",.type "BaseException",.type "object"],ns:=36,qualname:="NoSpot"},slots:=#[some (.ref 28),none,some (.str "NoSpot" 207),some (.str "NoSpot" 215),some (.builtin "ValueError.__new__"),some (.bool Bool.true)]}),
 (48,{cls:=.type "dict",data:=.dict #[Hd.de P "__module__" 230 (.str "cellways.errors" 187),Hd.de P "__firstlineno__" 234 (.int 6 233),Hd.de P "__static_attributes__" 235 (.ref 47),Hd.de P "__doc__" 236 (.none)] 2}),
 (49,{cls:=.type "type",data:=.cls {name:="NoFit",bases:=[.ref 24],mro:=[.ref 49,.ref 24,.type "ValueError",.type "Exception",.type "BaseException",.type "object"],ns:=48,qualname:="NoFit"},slots:=#[some (.ref 40),none,some (.str "NoFit" 223),some (.str "NoFit" 231),some (.builtin "ValueError.__new__"),some (.bool Bool.true)]}),
 (57,Hd.co "is_whole" 247 12 1 52 (.ref 54) (.ref 55) 56 251),
 (58,Hd.fo "is_whole" (top 8) m1 57),
 (64,Hd.co "is_sign" 254 14 1 59 (.ref 61) (.ref 62) 63 258),
 (65,Hd.fo "is_sign" (top 9) m1 64),
 (69,Hd.co "is_row" 261 16 1 66 .none .none 68 264),
 (70,Hd.fo "is_row" (top 10) m1 69),
 (74,Hd.co "is_floor" 267 20 1 71 .none .none 73 270),
 (75,Hd.fo "is_floor" (top 11) m1 74),
 (81,Hd.co "is_spot" 273 26 1 76 (.ref 78) (.ref 79) 80 277),
 (82,Hd.fo "is_spot" (top 12) m1 81),
 (88,Hd.co "is_on_floor" 280 28 2 83 (.ref 85) (.ref 86) 87 285),
 (89,Hd.fo "is_on_floor" (top 13) m1 88),
 (95,Hd.co "is_open" 288 30 2 90 (.ref 92) (.ref 93) 94 293),
 (96,Hd.fo "is_open" (top 14) m1 95),
 (102,Hd.co "need_open" 296 32 2 97 (.ref 99) (.ref 100) 101 301),
 (103,Hd.fo "need_open" (top 15) m1 102),
 (109,Hd.co "open_spots" 304 35 1 104 (.ref 106) (.ref 107) 108 313),
 (110,Hd.fo "open_spots" (top 16) m1 109),
 (116,Hd.co "height_at" 316 42 2 111 (.ref 113) (.ref 114) 115 321),
 (117,Hd.fo "height_at" (top 17) m1 116),
 (123,Hd.co "open_spots_beside" 324 45 2 118 (.ref 120) (.ref 121) 122 332),
 (124,Hd.fo "open_spots_beside" (top 18) m1 123),
 (130,Hd.co "heights_in" 337 53 1 125 (.ref 127) (.ref 128) 129 344),
 (131,Hd.fo "heights_in" (top 20) m2 130),
 (135,Hd.co "walls_in" 347 59 1 132 .none .none 134 350),
 (136,Hd.fo "walls_in" (top 21) m2 135),
 (142,Hd.co "share_side" 353 61 2 137 (.ref 139) (.ref 140) 141 358),
 (143,Hd.fo "share_side" (top 22) m2 142),
 (147,Hd.co "is_peak" 361 63 2 144 .none .none 146 364),
 (148,Hd.fo "is_peak" (top 23) m2 147),
 (152,Hd.co "peaks" 367 66 1 149 .none .none 151 370),
 (153,Hd.fo "peaks" (top 24) m2 152),
 (157,Hd.co "turned_floor" 373 68 1 154 .none .none 156 376),
 (158,Hd.fo "turned_floor" (top 25) m2 157),
 (162,Hd.co "mirrored_floor" 379 74 1 159 .none .none 161 382),
 (163,Hd.fo "mirrored_floor" (top 26) m2 162),
 (169,Hd.co "spot_turned" 385 76 2 164 (.ref 166) (.ref 167) 168 390),
 (170,Hd.fo "spot_turned" (top 27) m2 169),
 (176,Hd.co "spot_mirrored" 393 79 2 171 (.ref 173) (.ref 174) 175 398),
 (177,Hd.fo "spot_mirrored" (top 28) m2 176),
 (183,Hd.co "set_below" 401 82 2 178 (.ref 180) (.ref 181) 182 406),
 (184,Hd.fo "set_below" (top 29) m2 183),
 (188,Hd.co "set_beside" 409 88 2 185 .none .none 187 412),
 (189,Hd.fo "set_beside" (top 30) m2 188),
 (195,Hd.co "_law_cell" 417 95 2 190 (.ref 192) (.ref 193) 194 422),
 (196,Hd.fo "_law_cell" (top 32) m3 195),
 (202,Hd.co "_law_pick" 425 101 3 197 (.ref 199) (.ref 200) 201 432),
 (203,Hd.fo "_law_pick" (top 33) m3 202),
 (209,Hd.co "_law_floor" 435 104 3 204 (.ref 206) (.ref 207) 208 450),
 (210,Hd.fo "_law_floor" (top 34) m3 209),
 (214,Hd.co "_law_spots" 453 117 1 211 .none .none 213 456),
 (215,Hd.fo "_law_spots" (top 35) m3 214),
 (221,Hd.co "_law_high" 459 122 1 216 (.ref 218) (.ref 219) 220 470),
 (222,Hd.fo "_law_high" (top 36) m3 221),
 (226,Hd.co "law" 473 131 1 223 .none .none 225 476),
 (227,Hd.fo "law" (top 37) m3 226)]
def ts:List (Addr×Str):=[]
noncomputable def K2(P:Params):zz8:=K P++[]
noncomputable def as:List Addr:=[2,3,23,24,36,37,48,49,57,58,64,65,69,70,74,75,81,82,88,89,95,96,102,103,109,110,116,117,123,124,130,131,135,136,142,143,147,148,152,153,157,158,162,163,169,170,176,177,183,184,188,189,195,196,202,203,209,210,214,215,221,222,226,227]
noncomputable def Γ:Pg:=⟨[("WALL",(.str "#")),("SIGNS",(.str "#0123456789")),("LONGEST",(.int 12))],["len","int","str","list","tuple","all","sum","isinstance","bool","range","enumerate","zip","sorted","reversed"],[],[],["NoFit","NoSpot"],[],false,false,[]⟩
def R0:dt:=[]
def pj:bT (Γ.at R0 false) "is_whole" cZ (top 8):=stM λ_ _ _ _ _ _=>Hd.rR λ_=>rfl
noncomputable def R1:dt:=⟨"is_whole","is_whole",cZ,top 8,false⟩::R0
def mV:bT (Γ.at R1 false) "_law_cell" cb (top 32):=stM λ_ _ _ _ _ _=>Hd.vF λ_ _=>rfl
noncomputable def R2:dt:=⟨"_law_cell","_law_cell",cb,top 32,false⟩::R1
def nN:bT (Γ.at R2 false) "_law_pick" bI (top 33):=stM λ_ _ _ _ _ _=>Hd.ND λ_ _ _=>rfl
noncomputable def R3:dt:=⟨"_law_pick","_law_pick",bI,top 33,false⟩::R2
def k8:bT (Γ.at R3 false) "_law_floor" bq (top 34):=stM λ_ _ _ _ _ _=>Hd.ND λ_ _ _=>rfl
noncomputable def R4:dt:=⟨"_law_floor","_law_floor",bq,top 34,false⟩::R3
def kZ:bT (Γ.at R4 false) "_law_spots" br (top 35):=stM λ_ _ _ _ _ _=>Hd.rR λ_=>rfl
noncomputable def R5:dt:=⟨"_law_spots","_law_spots",br,top 35,false⟩::R4
def kB:bT (Γ.at R5 false) "open_spots" aX (top 16):=stM λ_ _ _ _ _ _=>Hd.rR λ_=>rfl
noncomputable def R6:dt:=⟨"open_spots","open_spots",aX,top 16,false⟩::R5
def p5:bT (Γ.at R6 false) "is_spot" cW (top 12):=stM λ_ _ _ _ _ _=>Hd.rR λ_=>rfl
noncomputable def R7:dt:=⟨"is_spot","is_spot",cW,top 12,false⟩::R6
def km:bT (Γ.at R7 false) "is_on_floor" bz (top 13):=stM λ_ _ _ _ _ _=>Hd.vF λ_ _=>rfl
noncomputable def R8:dt:=⟨"is_on_floor","is_on_floor",bz,top 13,false⟩::R7
def qU:bT (Γ.at R8 false) "is_open" cf (top 14):=stM λ_ _ _ _ _ _=>Hd.vF λ_ _=>rfl
noncomputable def R9:dt:=⟨"is_open","is_open",cf,top 14,false⟩::R8
def nR:bT (Γ.at R9 false) "need_open" aZ (top 15):=stM λ_ _ _ _ _ _=>Hd.vF λ_ _=>rfl
noncomputable def NT:dt:=⟨"need_open","need_open",aZ,top 15,false⟩::R9
def mO:bT (Γ.at NT false) "height_at" bj (top 17):=stM λ_ _ _ _ _ _=>Hd.vF λ_ _=>rfl
noncomputable def M3:dt:=⟨"height_at","height_at",bj,top 17,false⟩::NT
def kT:bT (Γ.at M3 false) "heights_in" bo (top 20):=stM λ_ _ _ _ _ _=>Hd.rR λ_=>rfl
noncomputable def MH:dt:=⟨"heights_in","heights_in",bo,top 20,false⟩::M3
def iE:bT (Γ.at MH false) "turned_floor" bg (top 25):=stM λ_ _ _ _ _ _=>Hd.rR λ_=>rfl
noncomputable def N6:dt:=⟨"turned_floor","turned_floor",bg,top 25,false⟩::MH
def f7:bT (Γ.at N6 false) "mirrored_floor" aH (top 26):=stM λ_ _ _ _ _ _=>Hd.rR λ_=>rfl
noncomputable def Mz:dt:=⟨"mirrored_floor","mirrored_floor",aH,top 26,false⟩::N6
def i9:bT (Γ.at Mz false) "spot_turned" bx (top 27):=stM λ_ _ _ _ _ _=>Hd.vF λ_ _=>rfl
noncomputable def NV:dt:=⟨"spot_turned","spot_turned",bx,top 27,false⟩::Mz
def er:bT (Γ.at NV false) "open_spots_beside" aB (top 18):=stM λ_ _ _ _ _ _=>Hd.vF λ_ _=>rfl
noncomputable def Nh:dt:=⟨"open_spots_beside","open_spots_beside",aB,top 18,false⟩::NV
def k9:bT (Γ.at Nh false) "share_side" bQ (top 22):=stM λ_ _ _ _ _ _=>Hd.vF λ_ _=>rfl
noncomputable def MG:dt:=⟨"share_side","share_side",bQ,top 22,false⟩::Nh
def qa:bT (Γ.at MG false) "is_peak" cG (top 23):=stM λ_ _ _ _ _ _=>Hd.vF λ_ _=>rfl
noncomputable def Ni:dt:=⟨"is_peak","is_peak",cG,top 23,false⟩::MG
def wk:bT (Γ.at Ni false) "peaks" e8 (top 24):=stM λ_ _ _ _ _ _=>Hd.rR λ_=>rfl
noncomputable def Nu:dt:=⟨"peaks","peaks",e8,top 24,false⟩::Ni
def nK:bT (Γ.at Nu false) "set_below" b7 (top 29):=stM λ_ _ _ _ _ _=>Hd.vF λ_ _=>rfl
noncomputable def NC:dt:=⟨"set_below","set_below",b7,top 29,false⟩::Nu
def kC:bT (Γ.at NC false) "set_beside" bO (top 30):=stM λ_ _ _ _ _ _=>Hd.vF λ_ _=>rfl
noncomputable def MV:dt:=⟨"set_beside","set_beside",bO,top 30,false⟩::NC
def oZ:bT (Γ.at MV false) "walls_in" cx (top 21):=stM λ_ _ _ _ _ _=>Hd.rR λ_=>rfl
noncomputable def Nl:dt:=⟨"walls_in","walls_in",cx,top 21,false⟩::MV
def nU:bT (Γ.at Nl false) "_law_high" bZ (top 36):=stM λ_ _ _ _ _ _=>Hd.rR λ_=>rfl
noncomputable def MB:dt:=⟨"_law_high","_law_high",bZ,top 36,false⟩::Nl
def rh:bT (Γ.at MB false) "is_sign" cT (top 9):=stM λ_ _ _ _ _ _=>Hd.rR λ_=>rfl
noncomputable def NP:dt:=⟨"is_sign","is_sign",cT,top 9,false⟩::MB
def uW:bT (Γ.at NP false) "is_row" dy (top 10):=stM λ_ _ _ _ _ _=>Hd.rR λ_=>rfl
noncomputable def N4:dt:=⟨"is_row","is_row",dy,top 10,false⟩::NP
def oH:bT (Γ.at N4 false) "is_floor" cA (top 11):=stM λ_ _ _ _ _ _=>Hd.rR λ_=>rfl
noncomputable def NY:dt:=⟨"is_floor","is_floor",cA,top 11,false⟩::N4
def g6:bT (Γ.at NY false) "spot_mirrored" aW (top 28):=stM λ_ _ _ _ _ _=>Hd.vF λ_ _=>rfl
noncomputable def Jt:dt:=⟨"spot_mirrored","spot_mirrored",aW,top 28,false⟩::NY
def Ez:bT (Γ.at Jt false) "law" mz (top 37):=stM λ_ _ _ _ _ _=>Hd.rR λ_=>rfl
def Gi(ns:List Int)(hl:ns.length<=63):au (den (tab Jt)) mz [.lst (ns.map .int)]=.ok (.bl true):=HQ ns hl
def LJ(P:Params):AllK (K P) ts Γ Jt:=
 Hd.ac (Hd.ent 177 176 m2) g6 <| Hd.ac (Hd.ent 75 74 m1) oH <| Hd.ac (Hd.ent 70 69 m1) uW <| Hd.ac (Hd.ent 65 64 m1) rh <| Hd.ac (Hd.ent 222 221 m3) nU <| Hd.ac (Hd.ent 136 135 m2) oZ <| Hd.ac (Hd.ent 189 188 m2) kC <| Hd.ac (Hd.ent 184 183 m2) nK <| Hd.ac (Hd.ent 153 152 m2) wk <| Hd.ac (Hd.ent 148 147 m2) qa <| Hd.ac (Hd.ent 143 142 m2) k9 <| Hd.ac (Hd.ent 124 123 m1) er <| Hd.ac (Hd.ent 170 169 m2) i9 <| Hd.ac (Hd.ent 163 162 m2) f7 <| Hd.ac (Hd.ent 158 157 m2) iE <| Hd.ac (Hd.ent 131 130 m2) kT <| Hd.ac (Hd.ent 117 116 m1) mO <| Hd.ac (Hd.ent 103 102 m1) nR <| Hd.ac (Hd.ent 96 95 m1) qU <| Hd.ac (Hd.ent 89 88 m1) km <| Hd.ac (Hd.ent 82 81 m1) p5 <| Hd.ac (Hd.ent 110 109 m1) kB <| Hd.ac (Hd.ent 215 214 m3) kZ <| Hd.ac (Hd.ent 210 209 m3) k8 <| Hd.ac (Hd.ent 203 202 m3) nN <| Hd.ac (Hd.ent 196 195 m3) mV <| Hd.ac (Hd.ent 58 57 m1) pj trivial
structure CK(K:zz8)(d:Str)(D:Addr):Prop where
 e:PySem.W.nsIn K mainGlobals d=some (some (.ref D))
 xc:Dc K D
 vt:PySem.W.kitOne K (.ref D) (.type "ValueError")=some true
 ex:PySem.W.excIn K D xS "ValueError.__new__"=true
def IK{K:zz8}{d:Str}{D:Addr}(e:PySem.W.nsIn K mainGlobals d=some (some (.ref D)):=by kernel_rfl)(i:PySem.W.isClsIn K D=true:=by kernel_rfl)(v:PySem.W.subIn K (.ref D) (.type "ValueError")=some true:=by kernel_rfl)(ga:PySem.W.findIn K (.ref D) "__getattribute__"=some (some (.builtin "BaseException.__getattribute__")):=by kernel_rfl)(hk:PySem.W.findIn K (.ref D) "__getattr__"=some none:=by kernel_rfl)
 (cl:PySem.W.findIn K (.ref D) "__class__"=some (some (.builtin "object.__class__")):=by kernel_rfl) (mo:PySem.W.mroIn K D (.type "object")=some true:=by kernel_rfl) (mb:PySem.W.mroIn K D (.type "BaseException")=some true:=by kernel_rfl) (ex:PySem.W.excIn K D xS "ValueError.__new__"=true:=by kernel_rfl):CK K d D:=
 ⟨e,⟨ga,hk,cl,mo,mb,i⟩,xR (by decide+kernel) v,ex⟩
def JV(P:Params){mg:Str->Option Value}{h:Heap}(X:(K P).In h)(G:h.Ns mainGlobals mg):qm (K P) mg Γ ⟨K P,mg,["NoFit","NoSpot"],ts⟩:=by
 have Ej:∀{x:Str} {u:Value},PySem.W.nsIn (K P) mainGlobals x=some (some u)->mg x=some u:=λa=>PySem.W.mg_of X G a
 have tO:∀{x:Str},PySem.W.nsIn (K P) mainGlobals x=some none->mg x=none:=λa=>PySem.W.mg_none_of X G a
 have f6:CK (K P) "NoFit" 49:=IK
 have eg:CK (K P) "NoSpot" 37:=IK
 refine⟨rfl,rfl,λq hq=>?_,λg hg=>?_,by decide+kernel,λc hc=>?_,λd hd D hD=>?_,λc hc=>?_,λc hc=>?_,λz=>absurd z (by decide+kernel),λ_=>absurd rfl ‹_›⟩
 ·simp! [Γ,zzm,List.not_mem_nil,or_false] at hq;rcases hq with rfl|rfl|rfl
  ·exact⟨.str "#" 241,.str "#",Ej (by kernel_rfl),⟨_,rfl⟩,λG=>.s⟩
  ·exact⟨.str "#0123456789" 243,.str "#0123456789",Ej (by kernel_rfl),⟨_,rfl⟩,λG=>.s⟩
  ·exact⟨.int 12 245,.int 12,Ej (by kernel_rfl),⟨_,rfl⟩,λG=>.i⟩
 ·simp! [Γ,zzm,List.not_mem_nil,or_false] at hg;rcases hg with rfl|rfl|rfl|rfl|rfl|rfl|rfl|rfl|rfl|rfl|rfl|rfl|rfl|rfl
  ·exact tO (by kernel_rfl)
  ·exact tO (by kernel_rfl)
  ·exact tO (by kernel_rfl)
  ·exact tO (by kernel_rfl)
  ·exact tO (by kernel_rfl)
  ·exact tO (by kernel_rfl)
  ·exact tO (by kernel_rfl)
  ·exact tO (by kernel_rfl)
  ·exact tO (by kernel_rfl)
  ·exact tO (by kernel_rfl)
  ·exact tO (by kernel_rfl)
  ·exact tO (by kernel_rfl)
  ·exact tO (by kernel_rfl)
  ·exact tO (by kernel_rfl)
 ·simp! [Γ,zzm,List.not_mem_nil,or_false] at hc
 ·simp! [zzm,List.not_mem_nil,or_false] at hd;rcases hd with rfl|rfl
  ·cases(Ej f6.e).symm.trans hD;refine⟨f6.xc,λc hc C hC=>?_,f6.vt⟩
   simp! [Γ,zzm,List.not_mem_nil,or_false] at hc
  ·cases(Ej eg.e).symm.trans hD;refine⟨eg.xc,λc hc C hC=>?_,eg.vt⟩
   simp! [Γ,zzm,List.not_mem_nil,or_false] at hc
 ·simp! [Γ,zzn,zzm,List.not_mem_nil,or_false] at hc⊢;exact hc
 ·simp! [Γ,zzn,zzm,List.not_mem_nil,or_false] at hc;rcases hc with rfl|rfl
  ·exact⟨_,Ej f6.e,f6.ex⟩
  ·exact⟨_,Ej eg.e,eg.ex⟩
def hY{P:Params}{h:Heap}(X:(K2 P).In h):(K P).In h/\∀p∈ts.map (·.1),h.get? p=some (PySem.W.tabObj #[]):=⟨λb o e=>X b o (Hd.xF e),λp hp=>by
 simp! [ts,zzF,List.map_nil,zzm,List.not_mem_nil,or_false] at hp
⟩
def hC(P:Params):∀p∈ts.map (·.1),(∃c,ib (K P) c p)/\(K P).lookup p=none:=λp hp=>by
 simp! [ts,zzF,List.map_nil,zzm,List.not_mem_nil,or_false] at hp
noncomputable def keep:List Nat:=[1,2,3,5,6,7,8,9,10,11,12,13,14,15,16,17,18,20,21,22,23,24,25,26,27,28,29,30,32,33,34,35,36,37]
def ka:∀P,as=(K2 P).map (·.1):=λ_=>by kernel_rfl
def left:PySem.W.LeftO lw.row.prog (PySem.W.view lw.row.prog keep) [] (λs=>PySem.W.xlAt (PySem.W.view lw.row.prog keep) [] s&&PySem.W.recOk lw.row.toRowW.records s) (PySem.W.kHook K2 as ka).obs (PySem.W.kHook K2 as ka).val 3124:=by
 refine Hd.Bd (T₀:=λP=>Hd.treeOf (PySem.W.boot_heap P).objs.toList) (m₀:=11) (life:={}) (ann:=some (.ref 6)) (M:=3074) (by kernel_rfl) (by kernel_rfl) (λs=>by kernel_rfl) Hd.IL Hd.HJ (by kernel_rfl) λw os=>?_
 rw [PySem.W.Fast.te10156331382660048174,PySem.W.Fast.te11892475500146522536,PySem.W.Fast.te14364793385576792824,PySem.W.Fast.te6613529449190102663,PySem.W.Fast.te4187177175401517315,PySem.W.Fast.te5923862056798008813]
 kernel_rfl
end K04
open PySem PySem.W PyProof.Rows
set_option maxRecDepth 100000 in
set_option maxHeartbeats 0 in
theorem PySem.Challenge.cw_cellways_k04_whole_grounds_holds : PySem.Challenge.rw_cellways_k04_whole_grounds.Holds := by
 refine Hd.holds (d:=⟨"law",L2.cq (K04.top 37),L2.bM (K04.top 37),L2.aC (K04.top 37),Hd.Ly (K04.top 37)⟩) (by kernel_rfl) K04.ka K04.left (by kernel_rfl) (by kernel_rfl) (by kernel_rfl) (by kernel_rfl) ⟨rfl,rfl,rfl,rfl,rfl,by decide+kernel⟩ ?hw ?hc
 case hw=>w_witness2
 case hc=>exact Ci.walk (l:=PySem.Challenge.rw_cellways_k04_whole_grounds) K04.Jt K04.Γ "_law_script" K04.mz ["NoFit","NoSpot"] K04.ts (K04.top 37) false rfl rfl rfl rfl rfl ⟨λ_=>rfl,by decide,by decide⟩ (λw h Y=>K04.hY (PySem.W.kIn_of Y)) (λw=>K04.hC w.params) (λw mg h KX G=>K04.JV _ KX G) (λw=>Hd.ent 227 226 K04.m3) K04.Ez (List.cons_ne_nil _ _) (λw=>K04.LJ _) K04.Gi
#print axioms PySem.Challenge.cw_cellways_k04_whole_grounds_holds
