import PyProof.Rows.All
import Wide.All
import OpenK.AllK
import Wide.FinOn
import Lean
import PyProof.EqAt
import PyProof.EqKinds
import PyProof.TupleCall
import PySem.Challenge.RW_cellways_k61_is_plan
set_option Elab.async false
set_option linter.all false
set_option genSizeOf false
set_option genSizeOfSpec false
set_option bootstrap.genMatcherCode false
set_option compiler.extract_closed false
set_option compiler.reuse false
set_option maxRecDepth 100000
abbrev zz8:=PySem.W.Frag
local macro_rules | `(zz9 $x) => `(($x).heap.objs.size)
local macro_rules | `(tactic| simp! [$x,*] $[$l:location]?) => `(tactic| simp only [$x,*] $[$l]?)
theorem zzf:¬false=true:=Bool.false_ne_true
theorem zza(a b:Bool):((a&&b)=true)=(a=true/\b=true):=Bool.and_eq_true a b
theorem zzg.{u}{α:Type u}{l:List α}{i:Nat}(h:i<l.length):l[i]?=some l[i]:=List.getElem?_eq_getElem h
theorem zzl.{u,v}{α:Type u}{β:Type v}{l:List α}(f:α->β):(l.map f).length=l.length:=List.length_map f
def zzA:=@PySem.wpAny_bind
def zzB:=@PySem.Heap.get?_push_of_some
def zzC:=@List.size_toArray
def zzD:=@List.mem_of_getElem?
def zzE:=@Nat.le_refl
def zzF:=@List.map_cons
def zzG:=@PySem.wpAny_pure
def zzH:=@List.getElem?_eq_some_iff
def zzI:=@List.mem_cons_of_mem
def zzJ:=@Option.map_eq_some_iff
def zzK:=@List.getD_eq_getElem?_getD
def zzL:=@List.length_cons
def zzM:=@List.length_append
def zzN:=@decide_eq_true_eq
def zzO:=@PySem.Heap.lt_size
def zzP:=@List.mem_cons_self
def zzQ:=@List.getElem?_map
def zzR:=@List.mem_append_right
def zzS:=@List.getElem?_set_ne
def zzT:=@List.all_eq_true
def zzU:=@Nat.le_trans
def zzV:=@Nat.lt_of_le_of_lt
def zzW:=@Nat.lt_of_lt_of_le
def zzX:=@PySem.Heap.get?_push_size
def zzY:=@of_decide_eq_true
def zzZ:=@Option.bind_eq_some_iff
def zzb:=@Nat.ne_of_lt
def zzc:=@List.mem_append_left
def zzd:=@Array.length_toList
def zze:=@Bool.false_eq_true
def zzh:=@decide_eq_true
def zzi:=@List.mem_singleton
def zzj:=@List.any_eq_true
def zzk:=@False.elim
def zzm:=@List.mem_cons
def zzn:=@List.contains_iff_mem
def zzo:=@List.getElem?_set_self
def zzp:=@Option.isSome_iff_exists
def zzq:=@Option.some.inj
def zzr:=@List.getElem?_append_left
def zzs:=@List.getElem?_append_right
def zzt:=@Bool.or_eq_true
def zzu:=@PySem.Heap.SameBut.update
def zzw:=@Int.eq_ofNat_of_zero_le
def zzx:=@List.mem_map
def zzy:=@beq_iff_eq
def zz0:=@decide_eq_false
def zz1:=@List.mem_filterMap
def zz2:=@Array.getElem?_eq_getElem
def zz3:=@List.filter_cons
def zz4:=@Int.toNat_natCast
def zz5:=@List.lookup_cons
def zz6:=@List.append_nil
def zz7:=@PySem.Around.under_plainId
namespace L2
open PySem PySem.Spec PyProof.Rows
abbrev Key:=Sum Int Str
def nJ:Key->Value->Bool
 |.inl k,v=>Value.isInt k v
 |.inr x,v=>Value.isStrOf x v
def O8(w:World):Key->Int
 |.inl k=>hashInt k
 |.inr x=>hashStr w x
theorem bI:∀{k:Key} {v:Value},nJ k v=true->(∃i t,k=Sum.inl i/\v=Value.int i t)\/(∃x t,k=Sum.inr x/\v=Value.str x t)
 |.inl i,v,h=>by
  obtain⟨t,e⟩:=Value.isInt_shape (k:=i) (v:=v) h
  exact .inl ⟨i,t,rfl,e⟩
 |.inr x,v,h=>by
  obtain⟨t,e⟩:=Value.isStrOf_shape (x:=x) (v:=v) h
  exact .inr ⟨x,t,rfl,e⟩
def wb(i:Int)(t:Tok):nJ (.inl i) (.int i t)=true:=by simp [nJ,Value.isInt]
def vv(x:Str)(t:Tok):nJ (.inr x) (.str x t)=true:=by simp [nJ,Value.isStrOf]
def Ht(a b:Int):decide ((Sum.inl a:Key)=Sum.inl b)=(a==b):=by
 by_cases e:a=b
 ·subst e;simp
 ·have h:¬(Sum.inl a:Key)=Sum.inl b:=λq=>e (Sum.inl.inj q)
  rw [zz0 h];exact(beq_eq_false_iff_ne.mpr e).symm
def Iv(a b:Str):decide ((Sum.inr a:Key)=Sum.inr b)=decide (a=b):=by
 by_cases e:a=b
 ·subst e;simp
 ·have h:¬(Sum.inr a:Key)=Sum.inr b:=λq=>e (Sum.inr.inj q)
  rw [zz0 h,zz0 e]
def F6(a:Int)(b:Str):decide ((Sum.inl a:Key)=Sum.inr b)=false:=zz0 (λq=>nomatch q)
def Ff(a:Str)(b:Int):decide ((Sum.inr a:Key)=Sum.inl b)=false:=zz0 (λq=>nomatch q)
noncomputable def bB(prog:Program)(w:World):PySem.KeyKind prog w Key where
 is:=nJ
 hash:=O8 w
 inj:=λv a b ha hb=>by
  rcases bI ha with⟨i,t,rfl,rfl⟩|⟨x,t,rfl,rfl⟩
  ·rcases bI hb with⟨j,u,rfl,e⟩|⟨y,u,rfl,e⟩
   ·injection e with e1 _;rw [e1]
   ·exact nomatch e
  ·rcases bI hb with⟨j,u,rfl,e⟩|⟨y,u,rfl,e⟩
   ·exact nomatch e
   ·injection e with e1 _;rw [e1]
 byValue:=λk v h=>by
  rcases bI h with⟨i,t,rfl,rfl⟩|⟨x,t,rfl,rfl⟩<;>rfl
 pyHash:=λhv h=>by
  rcases bI hv with⟨i,t,rfl,rfl⟩|⟨x,t,rfl,rfl⟩
  ·exact wpAny_pyHash_int h
  ·exact wpAny_pyHash_str h
 eqBool:=λhu hv h=>by
  rcases bI hu with⟨i,t,rfl,rfl⟩|⟨x,t,rfl,rfl⟩
  ·rcases bI hv with⟨j,u,rfl,rfl⟩|⟨y,u,rfl,rfl⟩
   ·rw [Ht] at h;exact wpAny_eqBool_int h
   ·rw [F6] at h;exact SeqAt.EqAt.int_str i t y u _ _ _ _ h
  ·rcases bI hv with⟨j,u,rfl,rfl⟩|⟨y,u,rfl,rfl⟩
   ·rw [Ff] at h;exact SeqAt.EqAt.str_int x t j u _ _ _ _ h
   ·rw [Iv] at h;exact wpAny_eqBool_str h
 «strs»:=λk x t v h=>by
  rcases bI h with⟨i,u,rfl,e⟩|⟨y,u,rfl,e⟩
  ·exact nomatch e
  ·injection e with e1 _
   subst e1;cases v<;>rfl
def rl(prog:Program)(w:World)(i:Int)(t:Tok):(bB prog w).is (.inl i) (.int i t)=true:=wb i t
def qU(prog:Program)(w:World)(x:Str)(t:Tok):(bB prog w).is (.inr x) (.str x t)=true:=vv x t
inductive V where
 |aC|bl (b:Bool)|int (i:Int)|str (x:Str)|K6 (b:Array UInt8)|Po (b:UInt64)|ref (a:Addr)|ty (n:String)
 deriving DecidableEq
def RelV:V->Value->Prop
 |.aC,u=>u=Value.none
 |.bl b,u=>u=Value.bool b
 |.int i,u=>∃t,u=Value.int i t
 |.str x,u=>∃t,u=Value.str x t
 |.K6 b,u=>∃t,u=Value.bytes b t
 |.Po b,u=>∃t,u=Value.float b t
 |.ref a,u=>u=Value.ref a
 |.ty n,u=>u=Value.type n
abbrev Vals:List V->List Value->Prop:=Paired RelV
def Vals.length{xs:List V}{us:List Value}(r:Vals xs us):xs.length=us.length:=Paired.length r
theorem Vals.get:∀{xs:List V} {us:List Value} {i:Nat} {x:V},Vals xs us->xs[i]?=some x->∃u,us[i]?=some u/\RelV x u
 |_,_,_,_,.nil,e=>by simp at e
 |_,_,0,_,.cons r _,e=>by simp at e;subst e;exact⟨_,rfl,r⟩
 |_,_,i+1,x,.cons _ t,e=>by
  obtain⟨u,h1,h2⟩:=Vals.get (i:=i) (x:=x) t (by simpa using e)
  exact⟨u,by simpa using h1,h2⟩
theorem Vals.set{x:V}{u:Value}(r:RelV x u):∀{xs:List V} {us:List Value} (i:Nat),Vals xs us->Vals (xs.set i x) (us.set i u)
 |_,_,_,.nil=>.nil
 |_,_,0,.cons _ t=>.cons r t
 |_,_,i+1,.cons q t=>.cons q (Vals.set r i t)
theorem Vals.append:∀{xs ys:List V} {us ws:List Value},Vals xs us->Vals ys ws->Vals (xs++ys) (us++ws)
 |_,_,_,_,.nil,s=>s
 |_,_,_,_,.cons r t,s=>.cons r (Vals.append t s)
theorem Vals.take:∀{xs:List V} {us:List Value} (n:Nat),Vals xs us->Vals (xs.take n) (us.take n)
 |_,_,0,_=>.nil
 |_,_,_+1,.nil=>.nil
 |_,_,n+1,.cons r t=>.cons r (Vals.take n t)
theorem Vals.drop:∀{xs:List V} {us:List Value} (n:Nat),Vals xs us->Vals (xs.drop n) (us.drop n)
 |_,_,0,r=>r
 |_,_,_+1,.nil=>.nil
 |_,_,n+1,.cons _ t=>Vals.drop n t
def j4:Option V->Option Value->Prop
 |some v,some u=>RelV v u
 |none,none=>True
 |_,_=>False
def KV{κ:Type}:List (κ×V)->List (κ×Value)->Prop:=Paired λ(p:κ×V) (q:κ×Value)=>p.1=q.1/\RelV p.2 q.2
def kV:Key->V
 |.inl i=>.int i
 |.inr x=>.str x
inductive HO where
 |lst (xs:List V)
 |tup (xs:List V)
 |dK (aA:List (Key×V))|dT (aA:List (List Key×V))
 |set (S:Int->Bool) (n:Nat)
 |ins (C dx:Addr) (fs:List (Str×V))
 |own (x:Addr)
 |xd (fs:List (Str×V))
 |met (f x:Addr)
 |mG (lo hi:Int)
 |cX (o:Obj) (u:HO)
 |gq (ps:Array Value)
 |ext (φ:Heap->Prop)
abbrev Hp:=Addr->Option HO
def upd(H:Hp)(a:Addr)(o:HO):Hp:=λb=>if b=a then some o else H b
def ax{H:Hp}{a:Addr}{o:HO}:upd H a o a=some o:=by unfold upd;rw [if_pos rfl]
def aj{H:Hp}{a b:Addr}{o:HO}(h:b≠a):upd H a o b=H b:=by unfold upd;rw [if_neg h]
def vi{H:Hp}{a:Addr}{o u:HO}:upd (upd H a o) a u=upd H a u:=by
 funext b;unfold upd;split<;>rfl
def iZ{H:Hp}{a b:Addr}{o u:HO}(h:H a=some o)(h':H b=some u)(d:o≠u):a≠b:=by
 intro e;subst e;rw [h] at h';exact d (zzq h')
def dt{H:Hp}{a b:Addr}{o:HO}(h:H a=some o)(h':H b=none):a≠b:=by
 intro e;subst e;rw [h] at h';cases h'
section
variable(P:Program)(w:World)
def bT(H:Hp)(h:Heap)(a:Addr):HO->Prop
 |.lst xs=>xs.length<=sizeLine/\∃(ak:List Value) (n:Nat),Vals xs ak/\h.get? a=some {cls:=.type "list",data:=.seq ak.toArray n}
 |.tup xs=>xs.length<=sizeLine/\∃ak:List Value,Vals xs ak/\IsTup h a ak.toArray
 |.dK aA=>aA.length<=sizeLine/\(a==sysModules)=false/\∃vs,KV aA vs/\h.DictOf (bB P w) a vs
 |.dT aA=>aA.length<=sizeLine/\(a==sysModules)=false/\∃xs:List (List Key×Addr×Value),
  Paired (λ(p:List Key×V) (q:List Key×Addr×Value)=>p.1=q.1/\H q.2.1=some (.tup (p.1.map kV))/\RelV p.2 q.2.2) aA xs/\
  ∃o es ep,h.get? a=some o/\o.ExactDict/\o.data=.dict es ep/\es.toList=xs.map (entryOfKey (tupleKind (bB P w)))/\(xs.map (·.1)).Nodup
 |.set S n=>h.SetOf (intKind P w) a S n
 |.ins C dx fs=>H dx=some (.own a)/\fs.length<=1000/\dx≠a/\h.get? a=some (PySem.W.instObj C dx)/\
  ∃mA,h.Ns1 dx mA/\(∀f,j4 (fs.lookup f) (mA f))/\PySem.Within mA (fs.map (·.1))
 |.own _=>∃o,h.get? a=some o
 |.xd fs=>∃mA,h.Ns1 a mA/\∀f,j4 (fs.lookup f) (mA f)
 |.mG lo hi=>∃t u v,h.get? a=some {cls:=.type "range",data:=.fields #[.int lo t,.int hi u,.int 1 v]}
 |.cX o u=>h.get? a=some o/\bT H h a u
 |.gq ps=>h.get? a=some {cls:=.none,data:=.fields ps}
 |.met f x=>h.get? a=some (PySem.W.methodObj (.ref f) (.ref x))
 |.ext φ=>φ h/\(∃o,h.get? a=some o)/\∀h1 h2:Heap,φ h1->(∀o,h1.get? a=some o->h2.get? a=some o)->φ h2
def gG(H:Hp)(h:Heap):Prop:=∀a o,H a=some o->bT P w H h a o
end
section
variable{P:Program}{w:World}{H H':Hp}{h h':Heap}{a:Addr}{o:HO}
def bT.lt(x:bT P w H h a o):a<h.objs.size:=by
 cases o with
 |lst xs=>obtain⟨_,_,_,_,e⟩:=x;exact zzO e
 |tup xs=>obtain⟨_,_,_,p⟩:=x;exact p.lt
 |dK aA=>obtain⟨_,_,_,_,o,_,_,e,_⟩:=x;exact zzO e
 |dT aA=>obtain⟨_,_,_,_,o,_,_,e,_⟩:=x;exact zzO e
 |set S n=>obtain⟨o,_,_,_,e,_⟩:=x;exact zzO e
 |ins C dx fs=>obtain⟨_,_,_,e,_⟩:=x;exact zzO e
 |own y=>obtain⟨_,e⟩:=x;exact zzO e
 |xd fs=>obtain⟨_,⟨_,_,_,e,_⟩,_⟩:=x;exact zzO e
 |mG lo hi=>obtain⟨_,_,_,e⟩:=x;exact zzO e
 |cX ob u=>obtain⟨e,_⟩:=x;exact zzO e
 |gq ps=>exact zzO (show h.get? a=some _ from x)
 |met f y=>exact zzO (show h.get? a=some _ from x)
 |ext φ=>obtain⟨_,⟨_,e⟩,_⟩:=x;exact zzO e
theorem Paired.zV{α β:Type}{F G:α->β->Prop}:∀{l₁:List α} {l₂:List β},Paired F l₁ l₂->(∀a b,F a b->G a b)->Paired G l₁ l₂
 |_,_,.nil,_=>.nil
 |_,_,.cons r t,f=>.cons (f _ _ r) (Paired.zV t f)
def bT.gj(x:bT P w H h a o)(k:∀b u,(b=a\/H b=some (.own a))->h.get? b=some u->h'.get? b=some u)
 (ho:∀b,H b=some (.own a)->H' b=some (.own a)) (ht:∀b xs,H b=some (.tup xs)->H' b=some (.tup xs)):bT P w H' h' a o:=by
 induction o with
 |lst xs=>obtain⟨z,ak,n,r,e⟩:=x;exact⟨z,ak,n,r,k _ _ (.inl rfl) e⟩
 |tup xs=>obtain⟨z,ak,r,ob,e,c⟩:=x;exact⟨z,ak,r,ob,k _ _ (.inl rfl) e,c⟩
 |dK aA=>obtain⟨z,y,vs,r,ob,es,ep,e,c⟩:=x;exact⟨z,y,vs,r,ob,es,ep,k _ _ (.inl rfl) e,c⟩
 |dT aA=>
  obtain⟨z,y,xs,r,ob,es,ep,e,c⟩:=x
  exact⟨z,y,xs,Paired.zV r λp q z=>⟨z.1,ht _ _ z.2.1,z.2.2⟩,ob,es,ep,k _ _ (.inl rfl) e,c⟩
 |set S n=>obtain⟨ob,es,ep,t,e,c⟩:=x;exact⟨ob,es,ep,t,k _ _ (.inl rfl) e,c⟩
 |ins C dx fs=>
  obtain⟨d,z,ne,e,mA,⟨od,es,ep,e2,c⟩,r⟩:=x
  exact⟨ho _ d,z,ne,k _ _ (.inl rfl) e,mA,⟨od,es,ep,k _ _ (.inr d) e2,c⟩,r⟩
 |own y=>obtain⟨ob,e⟩:=x;exact⟨ob,k _ _ (.inl rfl) e⟩
 |xd fs=>obtain⟨mA,⟨od,es,ep,e,c⟩,r⟩:=x;exact⟨mA,⟨od,es,ep,k _ _ (.inl rfl) e,c⟩,r⟩
 |mG lo hi=>obtain⟨t,u,v,e⟩:=x;exact⟨t,u,v,k _ _ (.inl rfl) e⟩
 |cX ob u ih=>obtain⟨e,q⟩:=x;exact⟨k _ _ (.inl rfl) e,ih q⟩
 |gq ps=>
  have e:h.get? a=some {cls:=.none,data:=.fields ps}:=x
  show h'.get? a=some {cls:=.none,data:=.fields ps}
  exact k a _ (.inl rfl) e
 |met f y=>
  have e:h.get? a=some (PySem.W.methodObj (.ref f) (.ref y)):=x
  show h'.get? a=some (PySem.W.methodObj (.ref f) (.ref y))
  exact k a _ (.inl rfl) e
 |ext φ=>obtain⟨p,⟨o,e⟩,st⟩:=x;exact⟨st _ _ p λo q=>k _ _ (.inl rfl) q,⟨o,k _ _ (.inl rfl) e⟩,st⟩
def gG.lt(x:gG P w H h)(e:H a=some o):a<h.objs.size:=(x a o e).lt
def gG.fresh(x:gG P w H h)(e:h.objs.size<=a):H a=none:=by
 cases q:H a with
 |none=>rfl
 |some u=>exact absurd (zzW (x.lt q) e) (Nat.lt_irrefl _)
def gG.kept(x:gG P w H h)(k:∀b u,h.get? b=some u->h'.get? b=some u):gG P w H h':=λa o e=>
 (x a o e).gj (λb u _ q=>k b u q) (λ_ q=>q) λ_ _ q=>q
theorem gG.laid(x:gG P w H h)(k:∀b u,h.get? b=some u->h'.get? b=some u)(hp:h.objs.size<=a)(new:bT P w (upd H a o) h' a o):gG P w (upd H a o) h':=λb u e=>by
 have hn:=x.fresh hp
 by_cases hb:b=a
 ·subst hb;rw [ax] at e;cases e;exact new
 ·rw [aj hb] at e;exact(x b u e).gj (λc v _ q=>k c v q) (λc q=>by rw [aj (dt q hn)];exact q) λc xs q=>by rw [aj (dt q hn)];exact q
end
def Rd(H:Hp)(a:Addr)(u:HO):Prop:=H a=some u\/∃o,H a=some (.cX o u)
def Rd.ok{P:Program}{w:World}{H:Hp}{h:Heap}{a:Addr}{u:HO}(r:Rd H a u)(x:gG P w H h):bT P w H h a u:=by
 rcases r with r|⟨o,r⟩
 ·exact x a u r
 ·obtain⟨_,q⟩:=x a _ r
  exact q
def Mc:Option HO->Prop
 |some (.lst _)=>True
 |some (.dK _)=>True
 |some (.dT _)=>True
 |some (.set _ _)=>True
 |some (.ins _ _ _)=>True
 |some (.ext _)=>True
 |_=>False
section
variable{P:Program}{w:World}{H:Hp}{h h':Heap}{x e:Addr}{o':HO}
def gG.write(ok:gG P w H h)(mu:Mc (H x))(he:e=x\/H e=some (.own x))(k:∀b u,b≠e->h.get? b=some u->h'.get? b=some u)(Ji:∃u,h'.get? e=some u)
 (new:bT P w (upd H x o') h' x o'):gG P w (upd H x o') h':=λb u q=>by
 have Ki:∀c y,H c=some (.own y)->c≠x:=λc y r z=>by subst z;rw [r] at mu;exact mu
 have Pr:∀c xs,H c=some (.tup xs)->c≠x:=λc xs r z=>by subst z;rw [r] at mu;exact mu
 by_cases hb:b=x
 ·subst hb;rw [ax] at q;cases q;exact new
 ·rw [aj hb] at q
  by_cases hbe:b=e
  ·have q':H b=some (.own x):=by
    rcases he with z|z
    ·exact absurd (hbe.trans z) hb
    ·rw [hbe];exact z
   rw [q] at q';cases q';obtain⟨v,hv⟩:=Ji
   exact⟨v,by rw [hbe];exact hv⟩
  ·refine(ok b u q).gj (λc v hc r=>k c v ?_ r) (λc r=>by rw [aj (Ki c b r)];exact r) λc xs r=>by rw [aj (Pr c xs r)];exact r
   rcases hc with rfl|hc
   ·exact hbe
   ·rintro rfl
    rcases he with z|z
    ·exact Ki c b hc z
    ·rw [hc] at z;cases z;exact hb rfl
end
structure Un(fs ex:List Addr)(H H':Hp)(h h':Heap):Prop where
 keep:∀b o,h.get? b=some o->H b=none->b∉fs->b∉ex->h'.get? b=some o
 slot:∀b o,h.get? b=some o->H b=none->b∈fs->b∉ex->∃sl,h'.get? b=some {o with slots:=sl}
 free:∀b o,h.get? b=some o->H b=none->b∉ex->H' b=none
 there:∀b o,h.get? b=some o->b∉ex->∃o',h'.get? b=some o'
 jf:∀b xs,H b=some (.tup xs)->H' b=some (.tup xs)
 iT:∀b o u,H b=some (.cX o u)->H' b=some (.cX o u)
 iM:∀b ps,H b=some (.gq ps)->∃more,H' b=some (.gq (ps++more))
section
variable{fs ex:List Addr}{H H1:Hp}{h h1 h':Heap}{a x e:Addr}{o:HO}
def Un.any(u:Un fs ex H H1 h h1){b:Addr}{ob:Obj}(q:h.get? b=some ob)(n:H b=none)(hx:b∉ex):∃sl,h1.get? b=some {ob with slots:=sl}:=by
 by_cases hb:b∈fs
 ·exact u.slot b ob q n hb hx
 ·exact⟨ob.slots,u.keep b ob q n hb hx⟩
def Un.kept(k:∀b u,h.get? b=some u->h'.get? b=some u):Un fs ex H H h h':=
 ⟨λb ob q _ _ _=>k b ob q,λb ob q _ _ _=>⟨ob.slots,k b ob q⟩,λ_ _ _ n _=>n,λb ob q _=>⟨ob,k b ob q⟩,λ_ _ q=>q,λ_ _ _ q=>q,λ_ ps q=>⟨#[],by rw [q];simp⟩⟩
def Un.refl:Un fs ex H H h h:=Un.kept λ_ _ q=>q
theorem Un.laid(k:∀b u,h.get? b=some u->h'.get? b=some u)(hp:h.objs.size<=a)(hn:H a=none):Un fs ex H (upd H a o) h h' where
 keep:=λb u q _ _ _=>k b u q
 slot:=λb u q _ _ _=>⟨u.slots,k b u q⟩
 free:=λb u q n _=>by rw [aj (zzb (zzW (zzO q) hp))];exact n
 there:=λb u q _=>⟨u,k b u q⟩
 jf:=λb xs q=>by rw [aj (dt q hn)];exact q
 iT:=λb u xs q=>by rw [aj (dt q hn)];exact q
 iM:=λb ps q=>⟨#[],by rw [aj (dt q hn),q];simp⟩
def Un.write(mu:Mc (H x))(he:e=x\/H e=some (.own x))(k:∀b u,b≠e->h.get? b=some u->h'.get? b=some u)(Ji:∃u,h'.get? e=some u):Un fs ex H (upd H x o) h h':=by
 have hx:∀b,H b=none->b≠x:=λb n z=>by subst z;rw [n] at mu;exact mu
 have hb:∀b,H b=none->b≠e:=λb n z=>by
  subst z;rcases he with r|r
  ·exact hx b n r
  ·rw [n] at r;cases r
 have hm:∀b u,H b=some u->¬Mc (some u)->b≠x:=λb u q nm z=>by subst z;rw [q] at mu;exact nm mu
 refine⟨λb u q n _ _=>k b u (hb b n) q,λb u q n _ _=>⟨u.slots,k b u (hb b n) q⟩,λb u q n _=>by rw [aj (hx b n)];exact n,λb u q _=>?_,
  λb xs q=>by rw [aj (hm b _ q λz=>z)];exact q,λb u xs q=>by rw [aj (hm b _ q λz=>z)];exact q,λb ps q=>⟨#[],by rw [aj (hm b _ q λz=>z),q];simp⟩⟩
 by_cases hbe:b=e
 ·subst hbe;exact Ji
 ·exact⟨u,k b u hbe q⟩
end
def Mz(h:Heap)(H:Hp):List Addr:=(List.range h.objs.size).filter λa=>(H a).isSome
def oJ(h:Heap)(H:Hp):Heap:=PySem.W.hideAll h (Mz h H)
def wO(h:Heap)(H:Hp):(oJ h H).objs.size=h.objs.size:=PySem.W.hideAll_size _ _
theorem AO{h:Heap}{H:Hp}{b:Addr}{o:Obj}(e:h.get? b=some o)(n:H b=none):(oJ h H).get? b=some o:=
 PySem.W.hideAll_get _ e λhm=>by
  have q:(H b).isSome=true:=(List.mem_filter.mp hm).2
  rw [n] at q;simp at q
def BA{h:Heap}{H:Hp}{b:Addr}{o:Obj}(e:(oJ h H).get? b=some o):h.get? b=some o/\H b=none:=by
 have e':h.get? b=some o:=PySem.W.of_hideAll (Mz h H) e
 refine⟨e',?_⟩;cases q:H b with
 |none=>rfl
 |some x=>
  have hm:b∈Mz h H:=List.mem_filter.mpr ⟨List.mem_range.mpr (zzO e'),by simp [q]⟩
  have z:(oJ h H).get? b=none:=PySem.W.hideAll_none (Mz h H) hm
  rw [z] at e;cases e
def Cq(g h:Heap)(L:Addr):List (Addr×Obj):=(List.range h.objs.size).filterMap λa=>if a=L\/(g.get? a).isSome=true then none else(h.get? a).map λo=>(a,o)
def rest(g h:Heap)(L d:Addr):List (Addr×Obj):=(Cq g h L).filter λp=>decide (p.1≠d)
structure Mod(K:zz8)(mg:Str->Option Value)(base:Heap):Prop where
 Mp:K.In base
 glob:base.Ns mainGlobals mg
 blt:∃mb,base.Ns builtinsNs mb/\∀x:Str,x≠"__name__"->mb x=bootBuiltins x
 nolimit:base.NoLimit
structure Cx where
 prog:Program
 w:World
 K:zz8
 mg:Str->Option Value
 base:Heap
 A:Around
 N:List Str
 s₀:Shared
 H₀:Hp
 env:Env
 outer:List Env
 stack:List Env
 ex:List Addr
 fn:Str->Bool
 calm:Bool
 pn:List (Addr×Obj)
 xe:Value->Shared->Prop
def iE(l:List Env):List Addr:=l.filterMap (·.frame)
abbrev Cx.fs(X:Cx):List Addr:=iE X.outer
def MZ(sc:Scope)(x:Str):Prop:=sc.names.lookup x=some .local\/sc.names.lookup x=some .cell\/sc.names.lookup x=some .free
def Loc(sc:Scope)(x:Str):Prop:=sc.names.lookup x=some .local\/sc.names.lookup x=some .cell
def Look(env:Env)(h:Heap)(m:Str->Option Value)(x:Str)(u:Value):Prop:=
 (env.kindOf x=some .local/\m x=some u)\/((env.kindOf x=some .cell\/env.kindOf x=some .free)/\∃c,env.cells.lookup x=some c/\h.IsCell c (some u))
structure Cx.Ok(X:Cx):Prop where
 mod:Mod X.K X.mg X.base
 kind:X.env.scope.kind=.function
 glob:X.env.globals=mainGlobals
 blt:X.env.builtins=builtinsNs
 above:X.s₀.heap.objs.size<=X.env.locals
 inj:∀x y c,X.env.cells.lookup x=some c->X.env.cells.lookup y=some c->x=y
 has:∀x,(X.env.kindOf x=some .cell\/X.env.kindOf x=some .free)->∃c,X.env.cells.lookup x=some c
 Mg:∀x c,X.fn x=true->X.env.cells.lookup x=some c->X.s₀.heap.objs.size<=c
 hd:X.calm=true->X.A.handled=none
 frames:X.A.frames=some X.stack
 LJ:X.stack=X.outer\/(X.stack=X.env::X.outer/\X.env.frame=some X.env.locals)
 exf:∀b∈X.ex,b≠X.env.locals/\∀x c,X.env.cells.lookup x=some c->c≠b
 bs:∀b o,X.base.get? b=some o->X.s₀.heap.get? b=some o/\X.H₀ b=none
 Eo:X.base.objs.size<=X.s₀.heap.objs.size
 Cs:∀b o,X.base.get? b=some o->b∉X.ex
 FE:∀b∈X.ex,b∉X.fs
 mM:X.s₀.heap.FunFrames X.base X.outer
 HK:∀b∈X.fs,X.H₀ b=none
structure Inv(X:Cx)(aa:List (Addr×Obj))(σ:List (Option V))(H:Hp)(s:Shared):Prop where
 ok:X.Ok
 os:s.os=X.s₀.os
 bare:AllBare s.gens
 base:Un X.fs X.ex X.H₀ H X.s₀.heap s.heap
 loc:∃m,s.heap.Ns X.env.locals m/\∀(i:Nat) (x:Str) (v:V),X.N[i]?=some x->σ[i]?=some (some v)->MZ X.env.scope x->∃u,RelV v u/\Look X.env s.heap m x u
 cell:∀x c,X.env.cells.lookup x=some c->∃v,s.heap.IsCell c v
 free:H X.env.locals=none
 i9:∀x c,X.env.cells.lookup x=some c->H c=none
 pin:∀p∈X.pn++aa,s.heap.get? p.1=some p.2/\H p.1=none/\p.1≠X.env.locals/\p.1∉X.fs/\∀v,p.2.data≠.cell v
 bu:gG X.prog X.w H s.heap
 len:σ.length=X.N.length
section
variable{X:Cx}{aa:List (Addr×Obj)}{σ:List (Option V)}{H H':Hp}{s:Shared}{h':Heap}
theorem Cx.Ok.NH(ok:X.Ok){b:Addr}{o:Obj}(e:X.base.get? b=some o):b∉X.fs:=λhb=>by
 have:=(ok.mM.mem hb).1
 rw [e] at this;cases this
def Inv.bs(I:Inv X aa σ H s):∀b o,X.base.get? b=some o->s.heap.get? b=some o/\H b=none:=λb o e=>
 ⟨I.base.keep b o (I.ok.bs b o e).1 (I.ok.bs b o e).2 (I.ok.NH e) (I.ok.Cs b o e),I.base.free b o (I.ok.bs b o e).1 (I.ok.bs b o e).2 (I.ok.Cs b o e)⟩
def Inv.bk(I:Inv X aa σ H s):∀b o,X.base.get? b=some o->s.heap.get? b=some o:=λb o e=>(I.bs b o e).1
def Inv.mod(I:Inv X aa σ H s):Mod X.K X.mg X.base:=I.ok.mod
def Inv.sX(I:Inv X aa σ H s):X.K.In s.heap:=I.ok.mod.Mp.keeps I.bk
theorem Inv.fr(I:Inv X aa σ H s):∃m,Fr X.base X.env.locals s.heap m:=
 let⟨m,hn,_⟩:=I.loc
 ⟨m,hn,I.bk,zzU I.ok.Eo I.ok.above⟩
theorem Inv.lt(I:Inv X aa σ H s):X.env.locals<(zz9 s):=let⟨_,hn,_⟩:=I.loc;hn.lt
def Inv.sz(I:Inv X aa σ H s):X.s₀.heap.objs.size<=(zz9 s):=zzU I.ok.above (Nat.le_of_lt I.lt)
theorem Inv.Pu(I:Inv X aa σ H s){a:Addr}(h:(zz9 s)<=a):a∉X.fs:=λhb=>by
 obtain⟨_,o,ho,_⟩:=I.ok.mM.mem hb
 exact absurd (zzW (zzO ho) (zzU I.sz h)) (Nat.lt_irrefl _)
theorem Inv.Fx(I:Inv X aa σ H s):∀x c,X.env.cells.lookup x=some c->c≠X.env.locals:=λx c e z=>by
 obtain⟨v,o,ho,hd⟩:=I.cell x c e
 obtain⟨m,⟨o',es,ep,jq,hd',_⟩,_⟩:=I.loc
 rw [z,jq] at ho;cases ho;rw [hd'] at hd;cases hd
def Inv.mM(I:Inv X aa σ H s):s.heap.FunFrames X.base X.outer:=by
 have all:∀(l:List Env),(∀b∈iE l,b∈X.fs)->X.s₀.heap.FunFrames X.base l->s.heap.FunFrames X.base l:=by
  intro l
  induction l with
  |nil=>intro _ _;trivial
  |cons env r ih=>
   intro hs hl;obtain⟨hk,⟨L,o,hf,hn,ho,hd⟩,hr⟩:=hl
   have hL:L∈X.fs:=hs L (by unfold iE;rw [List.filterMap_cons,hf];exact zzP)
   obtain⟨sl,e⟩:=I.base.slot L o ho (I.ok.HK L hL) hL λz=>I.ok.FE L z hL
   exact⟨hk,⟨L,_,hf,hn,e,hd⟩,ih (λb hb=>hs b (by unfold iE;rw [List.filterMap_cons,hf];exact zzI _ hb)) hr⟩
 exact all X.outer (λ_ hb=>hb) I.ok.mM
def Inv.stack(I:Inv X aa σ H s):s.heap.FunFrames X.base X.stack:=by
 rcases I.ok.LJ with e|⟨e,hf⟩
 ·rw [e];exact I.mM
 ·rw [e];obtain⟨m,hn,_⟩:=I.loc
  refine .cons (by rw [I.ok.kind];decide) hf hn ?_ I.mM;exact Heap.get?_none_of_le (zzU I.ok.Eo I.ok.above)
def Inv.lJ(I:Inv X aa σ H s):∀b∈iE X.stack,b∈X.env.locals::X.fs:=λb hb=>by
 rcases I.ok.LJ with e|⟨e,hf⟩
 ·rw [e] at hb;exact zzI _ hb
 ·rw [e] at hb;unfold iE at hb;rw [List.filterMap_cons,hf] at hb;exact hb
theorem Inv.n6(I:Inv X aa σ H s):∀b∈iE X.stack,H b=none:=λb hb=>by
 rcases zzm.mp (I.lJ b hb) with e|hb
 ·rw [e];exact I.free
 ·obtain⟨_,o,ho,_⟩:=I.ok.mM.mem hb
  exact I.base.free b o ho (I.ok.HK b hb) λz=>I.ok.FE b z hb
def Inv.step{g':Array GenState}{t':Nat}{d':Drawn}{ch:List Addr}(I:Inv X aa σ H s)
 (AR:∀b∈ch,(b∈X.ex\/X.s₀.heap.objs.size<=b)/\b≠X.env.locals/\(∀x c,X.env.cells.lookup x=some c->c≠b)/\∀p∈X.pn++aa,p.1≠b)
 (keep:∀b o,b≠X.env.locals->b∉X.fs->b∉ch->s.heap.get? b=some o->H b=none->h'.get? b=some o)
 (slot:∀b o,b≠X.env.locals->b∈X.fs->b∉ch->s.heap.get? b=some o->H b=none->∃sl,h'.get? b=some {o with slots:=sl}) (free:∀b o,b∉ch->s.heap.get? b=some o->H b=none->H' b=none)
 (there:∀b o,b∉ch->s.heap.get? b=some o->∃o',h'.get? b=some o')
 (jf:∀b xs,H b=some (.tup xs)->H' b=some (.tup xs)) (iT:∀b o u,H b=some (.cX o u)->H' b=some (.cX o u)) (iM:∀b ps,H b=some (.gq ps)->∃more,H' b=some (.gq (ps++more)))
 (ns:∀m,s.heap.Ns X.env.locals m->h'.Ns X.env.locals m) (bu:gG X.prog X.w H' h') (hg:AllBare g'):
 Inv X aa σ H' {s with heap:=h',gens:=g',drawn:=d',toks:=t'}:=by
 have Mi:∀b o,X.s₀.heap.get? b=some o->b≠X.env.locals:=λb o e=>zzb (zzW (zzO e) I.ok.above)
 have FR:∀b o,X.s₀.heap.get? b=some o->b∉X.ex->b∉ch:=λb o e hx hb=>by
  rcases(AR b hb).1 with z|z
  ·exact hx z
  ·exact absurd (zzW (zzO e) z) (Nat.lt_irrefl _)
 have cellK:∀x c,X.env.cells.lookup x=some c->∀v,s.heap.IsCell c v->h'.IsCell c v:=λx c e v ⟨o,ho,hd⟩=>by
  have Kw:c∉ch:=λz=>(AR c z).2.2.1 x c e rfl
  by_cases hc:c∈X.fs
  ·obtain⟨sl,q⟩:=slot c o (I.Fx x c e) hc Kw ho (I.i9 x c e)
   exact⟨_,q,hd⟩
  ·exact⟨o,keep c o (I.Fx x c e) hc Kw ho (I.i9 x c e),hd⟩
 refine⟨I.ok,I.os,hg,⟨λb o e n hb hx=>?_,λb o e n hb hx=>?_,λb o e n hx=>?_,λb o e hx=>?_,λb xs e=>jf b xs (I.base.jf b xs e),λb o xs e=>iT b o xs (I.base.iT b o xs e),λb ps e=>?_⟩,?_,λx c e=>?_,?_,λx c e=>?_,λp hp=>?_,bu,I.len⟩
 ·exact keep b o (Mi b o e) hb (FR b o e hx) (I.base.keep b o e n hb hx) (I.base.free b o e n hx)
 ·obtain⟨sl,e1⟩:=I.base.slot b o e n hb hx
  obtain⟨sl',e2⟩:=slot b _ (Mi b o e) hb (FR b o e hx) e1 (I.base.free b o e n hx)
  exact⟨sl',e2⟩
 ·obtain⟨o',e1⟩:=I.base.there b o e hx
  exact free b o' (FR b o e hx) e1 (I.base.free b o e n hx)
 ·obtain⟨o',e1⟩:=I.base.there b o e hx
  exact there b o' (FR b o e hx) e1
 ·obtain⟨m1,e1⟩:=I.base.iM b ps e
  obtain⟨m2,e2⟩:=iM b _ e1
  exact⟨m1++m2,by rw [e2,Array.append_assoc]⟩
 ·obtain⟨m,hn,hl⟩:=I.loc
  refine⟨m,ns m hn,λi x v e1 e2 e3=>?_⟩
  obtain⟨u,r,l⟩:=hl i x v e1 e2 e3
  refine⟨u,r,?_⟩;rcases l with l|⟨k,c,e,z⟩
  ·exact .inl l
  ·exact .inr ⟨k,c,e,cellK x c e _ z⟩
 ·obtain⟨v,z⟩:=I.cell x c e
  exact⟨v,cellK x c e v z⟩
 ·obtain⟨m,⟨o,_,_,ho,_⟩,_⟩:=I.loc
  exact free _ o (λz=>(AR _ z).2.1 rfl) ho I.free
 ·obtain⟨v,o,ho,hd⟩:=I.cell x c e
  exact free c o (λz=>(AR c z).2.2.1 x c e rfl) ho (I.i9 x c e)
 ·obtain⟨e,n,ne,nf,d⟩:=I.pin p hp
  have Kw:p.1∉ch:=λz=>(AR p.1 z).2.2.2 p hp rfl
  exact⟨keep p.1 p.2 ne nf Kw e n,free p.1 p.2 Kw e n,ne,nf,d⟩
def Inv.un{t':Nat}(I:Inv X aa σ H s)(u:Un X.fs [] H H' s.heap h')(bu:gG X.prog X.w H' h'):Inv X aa σ H' {s with heap:=h',toks:=t'}:=by
 obtain⟨m,⟨o,es,ep,ho,r⟩,_⟩:=id I.loc
 obtain⟨sl,hL⟩:=u.any ho I.free (by simp)
 exact I.step (g':=s.gens) (d':=s.drawn) (ch:=[]) (λ_ z=>nomatch z) (λb o _ hb _ e n=>u.keep b o e n hb (by simp)) (λb o _ hb _ e n=>u.slot b o e n hb (by simp)) (λb o _ e n=>u.free b o e n (by simp)) (λb o _ e=>u.there b o e (by simp)) u.jf u.iT u.iM (λm' hm=>by
  obtain⟨o',es',ep',jq,r'⟩:=hm
  rw [ho] at jq;cases jq;exact⟨_,es',ep',hL,r'⟩) bu I.bare
def Inv.call{g':Array GenState}{t':Nat}{d':Drawn}{ch:List Addr}(I:Inv X aa σ H s)(u:Un (iE X.stack) ch H H' s.heap h')(bu:gG X.prog X.w H' h')(hg:AllBare g')
 (AR:∀b∈ch,(b∈X.ex\/X.s₀.heap.objs.size<=b)/\b≠X.env.locals/\(∀x c,X.env.cells.lookup x=some c->c≠b)/\∀p∈X.pn++aa,p.1≠b):
 Inv X aa σ H' {s with heap:=h',gens:=g',drawn:=d',toks:=t'}:=by
 obtain⟨m,⟨o,es,ep,ho,r⟩,_⟩:=id I.loc
 obtain⟨sl,hL⟩:=u.any ho I.free λz=>(AR _ z).2.1 rfl
 exact I.step (ch:=ch) AR (λb o hL hb hc e n=>u.keep b o e n (λz=>(zzm.mp (I.lJ b z)).elim hL hb) hc) (λb o _ _ hc e n=>u.any e n hc) (λb o hc e n=>u.free b o e n hc) (λb o hc e=>u.there b o e hc) u.jf u.iT u.iM (λm' hm=>by
  obtain⟨o',es',ep',jq,r'⟩:=hm
  rw [ho] at jq;cases jq;exact⟨_,es',ep',hL,r'⟩) bu hg
def Inv.turned{t':Nat}{it:Addr}(I:Inv X aa σ H s)(k:∀b o,b≠it->s.heap.get? b=some o->h'.get? b=some o)(hn:H it=none)(hL:it≠X.env.locals)
 (h1:it∈X.ex\/X.s₀.heap.objs.size<=it) (h2:∀x c,X.env.cells.lookup x=some c->c≠it) (h3:∀p∈X.pn++aa,p.1≠it):Inv X aa σ H {s with heap:=h',toks:=t'}:=by
 have QV:∀b u,H b=some u->b≠it:=λb u e z=>by rw [z,hn] at e;cases e
 refine I.step (g':=s.gens) (d':=s.drawn) (ch:=[it]) (λb hb=>?_) (λb o _ _ hc e _=>k b o (λz=>hc (by simp [z])) e) (λb o _ _ hc e _=>⟨o.slots,k b o (λz=>hc (by simp [z])) e⟩) (λ_ _ _ _ n=>n)
  (λb o hc e=>⟨o,k b o (λz=>hc (by simp [z])) e⟩) (λ_ _ e=>e) (λ_ _ _ e=>e) (λb ps e=>⟨#[],by rw [e];simp⟩) (λm hm=>?_) (λb u e=>?_) I.bare
 ·have e:b=it:=by simpa using hb
  subst e;exact⟨h1,hL,h2,h3⟩
 ·obtain⟨o,es,ep,ho,r⟩:=hm
  exact⟨o,es,ep,k _ o (Ne.symm hL) ho,r⟩
 ·refine(I.bu b u e).gj (λc v hc q=>k c v ?_ q) (λ_ q=>q) λ_ _ q=>q
  rcases hc with z|z
  ·rw [z];exact QV b u e
  ·exact QV c _ z
theorem Inv.tok(I:Inv X aa σ H s)(t:Nat):Inv X aa σ H {s with toks:=t}:=I.un (h':=s.heap) (t':=t) Un.refl I.bu
theorem Inv.kept{t':Nat}(I:Inv X aa σ H s)(k:∀b u,s.heap.get? b=some u->h'.get? b=some u):Inv X aa σ H {s with heap:=h',toks:=t'}:=I.un (Un.kept k) (I.bu.kept k)
theorem Inv.laid{a:Addr}{o:HO}{t':Nat}(I:Inv X aa σ H s)(k:∀b u,s.heap.get? b=some u->h'.get? b=some u)(hp:(zz9 s)<=a)(new:bT X.prog X.w (upd H a o) h' a o):
 Inv X aa σ (upd H a o) {s with heap:=h',toks:=t'}:=I.un (Un.laid k hp (I.bu.fresh hp)) (I.bu.laid k hp new)
theorem Inv.write{x e:Addr}{o:HO}{t':Nat}(I:Inv X aa σ H s)(mu:Mc (H x))(he:e=x\/H e=some (.own x))(k:∀b u,b≠e->s.heap.get? b=some u->h'.get? b=some u)(Ji:∃u,h'.get? e=some u)
 (new:bT X.prog X.w (upd H x o) h' x o):Inv X aa σ (upd H x o) {s with heap:=h',toks:=t'}:=I.un (Un.write mu he k Ji) (I.bu.write mu he k Ji new)
def Inv.jv{EZ:List (Addr×Obj)}(I:Inv X aa σ H s)(h:∀p∈EZ,s.heap.get? p.1=some p.2/\H p.1=none/\p.1≠X.env.locals/\p.1∉X.fs/\∀v,p.2.data≠.cell v):Inv X EZ σ H s:=
 ⟨I.ok,I.os,I.bare,I.base,I.loc,I.cell,I.free,I.i9,λp hp=>(List.mem_append.mp hp).elim (λz=>I.pin p (zzc _ z)) (h p),I.bu,I.len⟩
def kS{N:List Str}(hN:N.Nodup){i j:Nat}{x:Str}(a:N[i]?=some x)(b:N[j]?=some x):i=j:=by
 obtain⟨h1,e1⟩:=zzH.mp a
 obtain⟨h2,e2⟩:=zzH.mp b
 exact(List.getElem_inj hN).mp (e1.trans e2.symm)
def iN{M:Model}{A:Around}{E:Value->Shared->Prop}{i:Nat}{x:Str}{v:V}{u:Value}{Q:Unit->Shared->Prop}(I:Inv X aa σ H s)(hN:X.N.Nodup)(hi:X.N[i]?=some x)(hx:Loc X.env.scope x)(r:RelV v u)
 (h:∀s',Inv X aa (σ.set i (some v)) H s'->(∃a,Heap.SameBut a s.heap s'.heap/\(a=X.env.locals\/X.env.cells.lookup x=some a))->Q () s') (hf:X.fn x=true\/X.env.scope.names.lookup x=some .local:=by first|exact .inl rfl|exact .inr rfl|assumption):wpAny M A (storeName X.env x u) Q E s:=by
 obtain⟨m,hn,hl⟩:=id I.loc
 have NI:(X.env.scope.kind==.class||(X.env.scope.kind==.module&&X.env.locals !=X.env.globals))=false:=by rw [I.ok.kind];rfl
 have hiσ:i<σ.length:=by rw [I.len];exact(zzH.mp hi).1
 have Fx:=I.Fx
 have tracked:∀{a:Addr} {h':Heap},(∃o,s.heap.get? a=some o/\H a=none)->Heap.SameBut a s.heap h'->gG X.prog X.w H h':=λ{a h'} ha hs b ob e=>by
  obtain⟨_,_,hfree⟩:=ha
  refine(I.bu b ob e).gj (λc w' hc q=>(hs.2 c ?_).trans q) (λ_ q=>q) λ_ _ q=>q
  rintro rfl
  rcases hc with rfl|hc
  ·rw [hfree] at e;cases e
  ·rw [hfree] at hc;cases hc
 rcases hx with hk|hk
 ·refine wpAny_storeName_local hk hn (λh' TF hs=>?_) NI;obtain⟨oL,_,_,hoL,_⟩:=id hn
  refine h _ ⟨I.ok,I.os,I.bare,⟨λb o e n hb hx=>?_,λb o e n hb hx=>?_,I.base.free,λb o e hx=>?_,I.base.jf,I.base.iT,I.base.iM⟩,⟨_,TF,λj y v' e1 e2 e3=>?_⟩,λy c e=>?_,I.free,I.i9,λp hp=>?_,tracked ⟨oL,hoL,I.free⟩ hs,by simpa using I.len⟩ ⟨_,hs,.inl rfl⟩
  ·exact(hs.2 b (zzb (zzW (zzO e) I.ok.above))).trans (I.base.keep b o e n hb hx)
  ·obtain⟨sl,e1⟩:=I.base.slot b o e n hb hx
   exact⟨sl,(hs.2 b (zzb (zzW (zzO e) I.ok.above))).trans e1⟩
  ·obtain⟨o',e1⟩:=I.base.there b o e hx
   exact⟨o',(hs.2 b (zzb (zzW (zzO e) I.ok.above))).trans e1⟩
  ·by_cases hj:j=i
   ·subst hj;rw [hi] at e1;cases e1;rw [zzo hiσ] at e2;cases e2;exact⟨u,r,.inl ⟨hk,by simp⟩⟩
   ·rw [zzS (Ne.symm hj)] at e2;obtain⟨u',r',q⟩:=hl j y v' e1 e2 e3
    refine⟨u',r',?_⟩;rcases q with⟨k,e⟩|⟨k,c,e,z⟩
    ·refine .inl ⟨k,?_⟩;have:y≠x:=λe=>hj (kS hN e1 (e▸hi))
     simp [this,e]
    ·exact .inr ⟨k,c,e,z.sameBut hs (Fx y c e)⟩
  ·obtain⟨w',z⟩:=I.cell y c e
   exact⟨w',z.sameBut hs (Fx y c e)⟩
  ·obtain⟨e,n,ne,nf,d⟩:=I.pin p hp
   exact⟨(hs.2 p.1 ne).trans e,n,ne,nf,d⟩
 ·have rR:X.fn x=true:=by
   rcases hf with z|z
   ·exact z
   ·rw [z] at hk;cases hk
  obtain⟨c,hc⟩:=I.ok.has x (.inl hk)
  obtain⟨w',z⟩:=I.cell x c hc
  refine wpAny_storeName_cell I.ok.kind hk hc z (λh' p9 hs=>?_);obtain⟨oc,hoc,hocd⟩:=id z
  refine h {s with heap:=h'} ⟨I.ok,I.os,I.bare,⟨λb o e n hb hx=>?_,λb o e n hb hx=>?_,I.base.free,λb o e hx=>?_,I.base.jf,I.base.iT,I.base.iM⟩,⟨m,hn.sameBut hs (Ne.symm (Fx x c hc)),λj y v' e1 e2 e3=>?_⟩,λy c' e=>?_,I.free,I.i9,λp hp=>?_,tracked ⟨oc,hoc,I.i9 x c hc⟩ hs,by simpa using I.len⟩ ⟨c,hs,.inr hc⟩
  ·exact(hs.2 b (zzb (zzW (zzO e) (I.ok.Mg x c rR hc)))).trans (I.base.keep b o e n hb hx)
  ·obtain⟨sl,e1⟩:=I.base.slot b o e n hb hx
   exact⟨sl,(hs.2 b (zzb (zzW (zzO e) (I.ok.Mg x c rR hc)))).trans e1⟩
  ·obtain⟨o',e1⟩:=I.base.there b o e hx
   exact⟨o',(hs.2 b (zzb (zzW (zzO e) (I.ok.Mg x c rR hc)))).trans e1⟩
  ·by_cases hj:j=i
   ·subst hj;rw [hi] at e1;cases e1;rw [zzo hiσ] at e2;cases e2;exact⟨u,r,.inr ⟨.inl hk,c,hc,p9⟩⟩
   ·rw [zzS (Ne.symm hj)] at e2;obtain⟨u',r',q⟩:=hl j y v' e1 e2 e3
    refine⟨u',r',?_⟩;rcases q with q|⟨k,c',e,z'⟩
    ·exact .inl q
    ·refine .inr ⟨k,c',e,z'.sameBut hs ?_⟩
     rintro rfl
     exact hj (kS hN e1 (I.ok.inj _ _ _ e hc▸hi))
  ·by_cases hcc:c'=c
   ·subst hcc;exact⟨_,p9⟩
   ·obtain⟨w2,z2⟩:=I.cell y c' e
    exact⟨w2,z2.sameBut hs hcc⟩
  ·obtain⟨e,n,ne,nf,d⟩:=I.pin p hp
   refine⟨(hs.2 p.1 ?_).trans e,n,ne,nf,d⟩;intro q;rw [q,hoc] at e;have q':oc=p.2:=zzq e
   exact d w' (by rw [<-q'];exact hocd)
def qC{M:Model}{A:Around}{E:Value->Shared->Prop}{i:Nat}{x:Str}{v:V}{u:Value}{Q:Unit->Shared->Prop}(I:Inv X aa σ H s)(hN:X.N.Nodup)(hi:X.N[i]?=some x)(hx:Loc X.env.scope x)(r:RelV v u)
 (h:∀s',Inv X aa (σ.set i (some v)) H s'->Q () s') (hf:X.fn x=true\/X.env.scope.names.lookup x=some .local:=by first|exact .inl rfl|exact .inr rfl|assumption):wpAny M A (storeName X.env x u) Q E s:=
 iN I hN hi hx r (λs' I' _=>h s' I') hf
def Inv.Kq{s':Shared}{ch:List Addr}(I:Inv X aa σ H s)(ho:s'.os=s.os)(u:Un (iE X.stack) ch H H' s.heap s'.heap)(bu:gG X.prog X.w H' s'.heap)(hg:AllBare s'.gens)
 (AR:∀b∈ch,(b∈X.ex\/X.s₀.heap.objs.size<=b)/\b≠X.env.locals/\(∀x c,X.env.cells.lookup x=some c->c≠b)/\∀p∈X.pn++aa,p.1≠b):Inv X aa σ H' s':=by
 obtain⟨h',g',d',t',o'⟩:=s'
 have e:o'=s.os:=ho
 subst e;exact I.call (g':=g') (t':=t') (d':=d') u bu hg AR
end
abbrev XK:=Value->Option Addr->Hp->Prop
abbrev St:=List (Option V)
abbrev VK:=V->Hp->Prop
abbrev TE:=St->Hp->VK->Prop
abbrev TT:=St->Hp->(Bool->Hp->Prop)->Prop
abbrev TA:=St->Hp->(List V->Hp->Prop)->Prop
structure Ends where
 nx:St->Hp->Prop
 rt:VK
 bk:St->Hp->Prop:=λ_ _=>False
 ct:St->Hp->Prop:=λ_ _=>False
abbrev TS:=Ends->St->Hp->Prop
def EP(X:Cx)(aa:List (Addr×Obj))(σ:St)(Q:VK)(u:Value)(s':Shared):Prop:=∃v H',Inv X aa σ H' s'/\RelV v u/\Q v H'
def TP(X:Cx)(aa:List (Addr×Obj))(σ:St)(Q:Bool->Hp->Prop)(b:Bool)(s':Shared):Prop:=∃H',Inv X aa σ H' s'/\Q b H'
def AP(X:Cx)(aa:List (Addr×Obj))(σ:St)(Q:List V->Hp->Prop)(us:List Value)(s':Shared):Prop:=∃vs H',Inv X aa σ H' s'/\Vals vs us/\Q vs H'
def SP(X:Cx)(aa:List (Addr×Obj))(D:Ends)(f:Flow)(s':Shared):Prop:=
 match f with
 |.next=>∃σ' H',Inv X aa σ' H' s'/\D.nx σ' H'
 |.brk=>∃σ' H',Inv X aa σ' H' s'/\D.bk σ' H'
 |.cont=>∃σ' H',Inv X aa σ' H' s'/\D.ct σ' H'
 |.ret u=>∃v σ' H',Inv X aa σ' H' s'/\RelV v u/\D.rt v H'
def PE(X:Cx)(e:Expr)(t:TE):Prop:=
 ∀(aa:List (Addr×Obj)) (s:Shared) (σ:St) (H:Hp) (Q:VK),Inv X aa σ H s->t σ H Q->wpAny (model X.prog X.w) X.A (eval e X.env) (EP X aa σ Q) X.xe s
def PT(X:Cx)(e:Expr)(t:TT):Prop:=
 ∀(aa:List (Addr×Obj)) (s:Shared) (σ:St) (H:Hp) (Q:Bool->Hp->Prop),Inv X aa σ H s->t σ H Q->wpAny (model X.prog X.w) X.A (isTrue e X.env (eval e X.env)) (TP X aa σ Q) X.xe s
def PW(X:Cx)(e:Expr)(t:TT):Prop:=
 ∀(whole:Sem Value) (aa:List (Addr×Obj)) (s:Shared) (σ:St) (H:Hp) (Q:Bool->Hp->Prop),Inv X aa σ H s->t σ H Q->wpAny (model X.prog X.w) X.A (isTrue e X.env whole) (TP X aa σ Q) X.xe s
def PW.pt{X:Cx}{e:Expr}{t:TT}(h:PW X e t):PT X e t:=h _
def PA(X:Cx)(es:List Expr)(t:TA):Prop:=
 ∀(pos:Pos) (aa:List (Addr×Obj)) (s:Shared) (σ:St) (H:Hp) (Q:List V->Hp->Prop),Inv X aa σ H s->t σ H Q->wpAny (model X.prog X.w) X.A (spliced (backTo pos (starEach es X.env))) (AP X aa σ Q) X.xe s
def PS(X:Cx)(st:Stmt)(t:TS):Prop:=
 ∀(aa:List (Addr×Obj)) (s:Shared) (σ:St) (H:Hp) (D:Ends),Inv X aa σ H s->t D σ H->wpAny (model X.prog X.w) X.A (exec st X.env) (SP X aa D) X.xe s
def uN(X:Cx)(st:List Stmt)(t:TS):Prop:=
 ∀(aa:List (Addr×Obj)) (s:Shared) (σ:St) (H:Hp) (D:Ends),Inv X aa σ H s->t D σ H->wpAny (model X.prog X.w) X.A (execs st X.env) (SP X aa D) X.xe s
def bD{α:Type}{t:Sem α}{Q Q':α->Shared->Prop}{M:Model}{A:Around}{E:Value->Shared->Prop}{s:Shared}(h:wpAny M A t Q E s)(hQ:∀a s,Q a s->Q' a s):wpAny M A t Q' E s:=wpAny_mono h hQ λ_ _ x=>x
section
variable{X:Cx}
def bin{a b:Expr}{ta tb:TE}(ha:PE X a ta)(hb:PE X b tb){aa:List (Addr×Obj)}{s:Shared}{σ:St}{H:Hp}{R:V->V->Hp->Prop}(I:Inv X aa σ H s)(h:ta σ H λx H1=>tb σ H1 λy H2=>R x y H2)
 {α:Type} {Q:α->Shared->Prop} {f:Value->Value->Sem α}
 (hf:∀v u s2 x y H2,Inv X aa σ H2 s2->RelV x v->RelV y u->R x y H2->wpAny (model X.prog X.w) X.A (f v u) Q X.xe s2):
 wpAny (model X.prog X.w) X.A (eval a X.env) (λv s₁=>wpAny (model X.prog X.w) X.A (eval b X.env) (λu s₂=>wpAny (model X.prog X.w) X.A (f v u) Q X.xe s₂) X.xe s₁) X.xe s:=by
 refine bD (ha aa s σ H _ I h) λv s1 ⟨x,H1,I1,r1,q1⟩=>?_
 refine bD (hb aa s1 σ H1 _ I1 q1) λu s2 ⟨y,H2,I2,r2,q2⟩=>?_
 exact hf v u s2 x y H2 I2 r1 r2 q2
def A6(i:Nat):TE:=λσ H Q=>∃v,σ[i]?=some (some v)/\Q v H
def tC(v:V):TE:=λ_ H Q=>Q v H
def lE{i:Nat}{x:Str}{pos:Pos}(hN:X.N[i]?=some x)(hv:MZ X.env.scope x)(hd:(x==("__debug__":Str))=false:=by decide)(yz:(x==("__classdict__":Str))=false:=by decide):PE X (.Name x pos) (A6 i):=by
 intro aa s σ H Q I h;obtain⟨v,e,h⟩:=h
 obtain⟨m,hn,hl⟩:=I.loc
 obtain⟨u,r,l⟩:=hl i x v hN e hv
 have fin:EP X aa σ Q u s:=⟨v,H,I,r,h⟩
 rcases l with⟨hk,hm⟩|⟨hk,c,hc,qN⟩
 ·exact wpAny_Name (wpAny_loadName_local I.ok.kind hk hn hm fin) hd
 ·rcases hk with hk|hk
  ·exact wpAny_Name (wpAny_loadName_cell I.ok.kind hk hc qN fin) hd
  ·exact wpAny_Name (wpAny_loadName_free I.ok.kind hk hc qN fin yz) hd
def sy{i j pos}:PE X (.Constant (.int i) j pos) (tC (.int i)):=λ_ _ _ H _ I h=>wpAny_Constant_int ⟨.int i,H,I.tok _,⟨_,rfl⟩,h⟩
def Ln{b j pos}:PE X (.Constant (.bool b) j pos) (tC (.bl b)):=λ_ _ _ H _ I h=>Constant_bool ⟨.bl b,H,I,rfl,h⟩
def yu{j pos}:PE X (.Constant .none j pos) (tC .aC):=λ_ _ _ H _ I h=>Constant_none ⟨.aC,H,I,rfl,h⟩
def Ax{x j pos}:PE X (.Constant (.str x) j pos) (tC (.str x)):=λ_ _ _ H _ I h=>Calls.Constant_str ⟨.str x,H,I.tok _,⟨_,rfl⟩,h⟩
def Gl(X:Cx)(x:Str):Prop:=X.env.kindOf x=some .globalImplicit
def il{E:Value->Shared->Prop}{aa:List (Addr×Obj)}{s:Shared}{σ:St}{H:Hp}{x:Str}{u:Value}{pos:Pos}{Q:Value->Shared->Prop}(I:Inv X aa σ H s)(hg:Gl X x)(hm:X.mg x=some u)(h:Q u s)
 (hd:(x==("__debug__":Str))=false:=by decide):wpAny (model X.prog X.w) X.A (eval (.Name x pos) X.env) Q E s:=
 Calls.Name_function_global I.ok.kind hg (Calls.loadGlobal_global (by rw [I.ok.glob];exact I.mod.glob.keeps I.bk) hm h) hd
def dq{E:Value->Shared->Prop}{aa:List (Addr×Obj)}{s:Shared}{σ:St}{H:Hp}{x:Str}{u:Value}{pos:Pos}{Q:Value->Shared->Prop}(I:Inv X aa σ H s)(hg:Gl X x)(hm:X.mg x=none)(hv:bootBuiltins x=some u)(h:Q u s)
 (hn:x≠"__name__":=by decide) (hd:(x==("__debug__":Str))=false:=by decide):wpAny (model X.prog X.w) X.A (eval (.Name x pos) X.env) Q E s:=by
 obtain⟨mb,h1,h2⟩:=I.mod.blt
 exact Calls.Name_function_global I.ok.kind hg (Calls.loadGlobal_builtin (by rw [I.ok.glob];exact I.mod.glob.keeps I.bk) hm (by rw [I.ok.blt];exact h1.keeps I.bk) ((h2 x hn).trans hv) h) hd
def CK{x:Str}{v:V}{u:Value}{pos:Pos}(hg:Gl X x)(hm:X.mg x=some u)(r:RelV v u)(hd:(x==("__debug__":Str))=false:=by decide):PE X (.Name x pos) (tC v):=
 λ_ _ _ H _ I h=>il I hg hm ⟨v,H,I,r,h⟩ hd
def DY{x:Str}{v:V}{u:Value}{pos:Pos}(hg:Gl X x)(hm:X.mg x=none)(hv:bootBuiltins x=some u)(r:RelV v u)(hn:x≠"__name__":=by decide)(hd:(x==("__debug__":Str))=false:=by decide):PE X (.Name x pos) (tC v):=
 λ_ _ _ H _ I h=>dq I hg hm hv ⟨v,H,I,r,h⟩ hn hd
variable{a b:Expr}{ta tb:TE}{pos:Pos}
def tB(t:TE):TT:=λσ H Q=>t σ H λx H1=>∃c,x=.bl c/\Q c H1
def Hj{e:Expr}{t:TE}(h:PE X e t)(he:∀whole,isTrue e X.env whole=(do let v<-whole;standAt e.pos;holding [v] (truthy v)):=by intro _;rfl):PT X e (tB t):=by
 intro aa s σ H Q I hw;refine isTrue_plain (bD (h aa s σ H _ I hw) λv s1 ⟨x,H1,I1,r1,q1⟩=>?_) (he _)
 obtain⟨d,rfl,q⟩:=q1
 cases r1;exact wpAny_truthy_bool ⟨H1,I1,q⟩
variable{tA MB:TT}{rest:List Expr}
def Om(t u:TT):TT:=λσ H Q=>t σ H λc H1=>if c=true then u σ H1 Q else Q false H1
def Uh(t u:TT):TT:=λσ H Q=>t σ H λc H1=>if c=true then Q true H1 else u σ H1 Q
def OY(t:TT):TT:=λσ H Q=>t σ H λc H1=>Q (!c) H1
def pw_and1(ha:PT X a tA):PW X (.BoolOp .And [a] pos) tA:=by
 intro wh aa s σ H Q I h;refine isTrue_and (bD (ha aa s σ H Q I h) λc s1 e=>?_)
 cases c with
 |true=>exact isTrue_and_nil e
 |false=>exact e
def pw_or1(ha:PT X a tA):PW X (.BoolOp .Or [a] pos) tA:=by
 intro wh aa s σ H Q I h;refine isTrue_or (bD (ha aa s σ H Q I h) λc s1 e=>?_)
 cases c with
 |false=>exact isTrue_or_nil e
 |true=>exact e
def pw_and(ha:PT X a tA)(hb:PW X (.BoolOp .And (b::rest) pos) MB):PW X (.BoolOp .And (a::b::rest) pos) (Om tA MB):=by
 intro wh aa s σ H Q I h;refine isTrue_and (bD (ha aa s σ H _ I h) λc s1 ⟨H1,I1,q1⟩=>?_)
 cases c with
 |true=>exact hb wh aa s1 σ H1 Q I1 q1
 |false=>exact⟨H1,I1,q1⟩
def pw_or(ha:PT X a tA)(hb:PW X (.BoolOp .Or (b::rest) pos) MB):PW X (.BoolOp .Or (a::b::rest) pos) (Uh tA MB):=by
 intro wh aa s σ H Q I h;refine isTrue_or (bD (ha aa s σ H _ I h) λc s1 ⟨H1,I1,q1⟩=>?_)
 cases c with
 |true=>exact⟨H1,I1,q1⟩
 |false=>exact hb wh aa s1 σ H1 Q I1 q1
def HI(ha:PT X a tA):PT X (.UnaryOp .Not a pos) (OY tA):=by
 intro aa s σ H Q I h;exact isTrue_not (ha aa s σ H (λc H1=>Q (!c) H1) I h)
def Kc(ta tb:TE):TE:=λσ H Q=>ta σ H λx H1=>∃c,x=.bl c/\if c=true then tb σ H1 Q else Q (.bl false) H1
def Pb(ta tb:TE):TE:=λσ H Q=>ta σ H λx H1=>∃c,x=.bl c/\if c=true then Q (.bl true) H1 else tb σ H1 Q
def JT(ta:TE):TE:=λσ H Q=>ta σ H λx H1=>∃c,x=.bl c/\Q (.bl (!c)) H1
def sF{op}{t:TE}(h:PE X a t):PE X (.BoolOp op [a] pos) t:=λaa s σ H Q I hw=>BoolOp_one (h aa s σ H Q I hw)
def Hi(ha:PE X a ta)(hb:PE X (.BoolOp .And (b::rest) pos) tb):PE X (.BoolOp .And (a::b::rest) pos) (Kc ta tb):=by
 intro aa s σ H Q I h;refine BoolOp_and (bD (ha aa s σ H _ I h) λv s1 ⟨x,H1,I1,r1,q1⟩=>?_)
 obtain⟨c,rfl,q1⟩:=q1
 cases r1;refine wpAny_truthy_bool ?_;cases c with
 |true=>exact hb aa s1 σ H1 Q I1 q1
 |false=>exact⟨.bl false,H1,I1,rfl,q1⟩
def K7(ha:PE X a ta)(hb:PE X (.BoolOp .Or (b::rest) pos) tb):PE X (.BoolOp .Or (a::b::rest) pos) (Pb ta tb):=by
 intro aa s σ H Q I h;refine BoolOp_or (bD (ha aa s σ H _ I h) λv s1 ⟨x,H1,I1,r1,q1⟩=>?_)
 obtain⟨c,rfl,q1⟩:=q1
 cases r1;refine wpAny_truthy_bool ?_;cases c with
 |false=>exact hb aa s1 σ H1 Q I1 q1
 |true=>exact⟨.bl true,H1,I1,rfl,q1⟩
def Ir(ha:PE X a ta):PE X (.UnaryOp .Not a pos) (JT ta):=by
 intro aa s σ H Q I h;refine UnaryOp_ (bD (ha aa s σ H _ I h) λv s1 ⟨x,H1,I1,r1,q1⟩=>?_)
 obtain⟨c,rfl,q1⟩:=q1
 cases r1;exact not_of (wpAny_truthy_bool ⟨.bl (!c),H1,I1,rfl,q1⟩)
def Ud(t:TT)(ta tb:TE):TE:=λσ H Q=>t σ H λc H1=>if c=true then ta σ H1 Q else tb σ H1 Q
def y8{c:Expr}(hc:PT X c tA)(ha:PE X a ta)(hb:PE X b tb):PE X (.IfExp c a b pos) (Ud tA ta tb):=by
 intro aa s σ H Q I h;refine wpAny_IfExp (bD (hc aa s σ H _ I h) λd s1 ⟨H1,I1,q1⟩=>?_)
 cases d with
 |true=>exact ha aa s1 σ H1 Q I1 q1
 |false=>exact hb aa s1 σ H1 Q I1 q1
end
def dz(K:zz8)(H:Hp)(a:Addr)(xs:List V):Prop:=
 Rd H a (.lst xs)\/
  ∃(o:Obj) (ak:Array Value) (n:Nat),K.lookup a=some o/\o.cls=.type "list"/\o.dict=none/\o.data=.seq ak n/\ak.size<=sizeLine/\Vals xs ak.toList
def eE(K:zz8)(H:Hp)(a:Addr)(xs:List V):Prop:=
 Rd H a (.tup xs)\/
  ∃(o:Obj) (ak:Array Value) (n:Nat),K.lookup a=some o/\o.cls=.type "tuple"/\o.data=.seq ak n/\ak.size<=sizeLine/\Vals xs ak.toList
noncomputable def OU:Value->Option V
 |.none=>some .aC
 |.bool b=>some (.bl b)
 |.int i _=>some (.int i)
 |.str x _=>some (.str x)
 |.bytes b _=>some (.K6 b)
 |.float b _=>some (.Po b)
 |.ref a=>some (.ref a)
 |.type n=>some (.ty n)
 |_=>none
def RelV.abs{x:V}{u:Value}(r:RelV x u):OU u=some x:=by
 cases x with
 |aC=>cases r;rfl
 |bl _=>cases r;rfl
 |int _=>obtain⟨t,rfl⟩:=r;rfl
 |str _=>obtain⟨t,rfl⟩:=r;rfl
 |K6 _=>obtain⟨t,rfl⟩:=r;rfl
 |Po _=>obtain⟨t,rfl⟩:=r;rfl
 |ref _=>cases r;rfl
 |ty _=>cases r;rfl
def RelV.inj{x y:V}{u:Value}(r:RelV x u)(q:RelV y u):x=y:=zzq (r.abs.symm.trans q.abs)
theorem Vals.inj:∀{xs ys:List V} {us:List Value},Vals xs us->Vals ys us->xs=ys
 |_,_,_,.nil,.nil=>rfl
 |_,_,_,.cons r t,.cons r' t'=>by rw [r.inj r',Vals.inj t t']
section
variable{X:Cx}{aa:List (Addr×Obj)}{σ:St}{H:Hp}{s:Shared}{a:Addr}{xs ys:List V}
def dz.of{K:zz8}(h:H a=some (.lst xs)):dz K H a xs:=.inl (.inl h)
def Inv.list(I:Inv X aa σ H s)(h:dz X.K H a xs):∃ak:List Value,Vals xs ak/\PlainL s.heap a ak.toArray/\xs.length<=sizeLine:=by
 rcases h with h|⟨o,ak,n,hk,hc,hd,hs,hz,r⟩
 ·obtain⟨z,ak,n,r,e⟩:=h.ok I.bu
  exact⟨ak,r,⟨_,n,e,rfl,rfl,rfl⟩,z⟩
 ·refine⟨ak.toList,r,⟨o,n,I.sX a o hk,hc,hd,by simpa using hs⟩,?_⟩;have e:=r.length
  simp! [zzd] at e;omega
def Inv.tuple(I:Inv X aa σ H s)(h:eE X.K H a xs):∃ak:List Value,Vals xs ak/\IsTup s.heap a ak.toArray/\xs.length<=sizeLine:=by
 rcases h with h|⟨o,ak,n,hk,hc,hs,hz,r⟩
 ·obtain⟨z,ak,r,p⟩:=h.ok I.bu
  exact⟨ak,r,p,z⟩
 ·refine⟨ak.toList,r,⟨o,I.sX a o hk,hc,n,by simpa using hs⟩,?_⟩;have e:=r.length
  simp! [zzd] at e;omega
def Inv.rM(I:Inv X aa σ H s)(h:dz X.K H a xs)(h':dz X.K H a ys):xs=ys:=by
 obtain⟨ak,r,⟨o,n,e,_,_,d⟩,_⟩:=I.list h
 obtain⟨its',r',⟨o',n',e',_,_,d'⟩,_⟩:=I.list h'
 rw [e] at e';cases e';rw [d] at d'
 injection d' with d1 _
 have:ak=its':=by simpa using congrArg Array.toList d1
 subst this;exact r.inj r'
def Inv.m9(I:Inv X aa σ H s)(h:eE X.K H a xs)(h':eE X.K H a ys):xs=ys:=by
 obtain⟨ak,r,⟨o,e,_,n,d⟩,_⟩:=I.tuple h
 obtain⟨its',r',⟨o',e',_,n',d'⟩,_⟩:=I.tuple h'
 rw [e] at e';cases e';rw [d] at d'
 injection d' with d1 _
 have:ak=its':=by simpa using congrArg Array.toList d1
 subst this;exact r.inj r'
variable{st:Stmt}{rest:List Stmt}{t u:TS}{e:Expr}{te:TE}{pos:Pos}
def K4:TS:=λD σ H=>D.nx σ H
def Ng(t u:TS):TS:=λD σ H=>t {D with nx:=u D} σ H
def Du:uN X [] K4:=λ_ _ σ H _ I h=>wpAny_execs_nil ⟨σ,H,I,h⟩
def xn(h1:PS X st t)(h2:uN X rest u):uN X (st::rest) (Ng t u):=by
 intro aa s σ H D I h;refine wpAny_execs_cons (bD (h1 aa s σ H {D with nx:=u D} I h) λf s1 q=>?_)
 cases f with
 |next=>
  obtain⟨σ',H',I',q⟩:=q
  exact h2 aa s1 σ' H' D I' q
 |ret v=>exact q
 |brk=>exact q
 |cont=>exact q
def Inv.quiet{aa:List (Addr×Obj)}{σ:St}{H:Hp}{s:Shared}(I:Inv X aa σ H s):interactive X.env=false:=by simp [interactive,I.ok.kind]
def Lg(te:TE):TS:=λD σ H=>te σ H λ_ H1=>D.nx σ H1
theorem jx(he:PE X e te)(hs:swapsWith e none pos.line X.env=pure false:=by rfl):PS X (.Expr e pos) (Lg te):=by
 intro aa s σ H D I h;exact wpAny_Expr_any (bD (he aa s σ H _ I h) λv s1 ⟨x,H1,I1,r1,q1⟩=>⟨σ,H1,I1,q1⟩) I.quiet hs
def NL(te:TE):TS:=λD σ H=>te σ H D.rt
def IU(he:PE X e te):PS X (.Return (some e) pos) (NL te):=by
 intro aa s σ H D I h;exact wpAny_Return_some (bD (he aa s σ H _ I h) λv s1 ⟨x,H1,I1,r1,q1⟩=>⟨x,σ,H1,I1,r1,q1⟩)
def O1(c:TT)(t u:TS):TS:=λD σ H=>c σ H λb H1=>if b=true then t D σ H1 else u D σ H1
def Kz{c:Expr}{a b:List Stmt}{tc:TT}(hc:PT X c tc)(ha:uN X a t)(hb:uN X b u):PS X (.If c a b pos) (O1 tc t u):=by
 intro aa s σ H D I h;refine wpAny_If (bD (hc aa s σ H _ I h) λd s1 ⟨H1,I1,q1⟩=>?_)
 cases d with
 |true=>exact ha aa s1 σ H1 D I1 q1
 |false=>exact hb aa s1 σ H1 D I1 q1
end
abbrev TG:=V->St->Hp->(St->Hp->Prop)->Prop
abbrev Ez:=List V->St->Hp->(St->Hp->Prop)->Prop
def PG(X:Cx)(target:Expr)(t:TG):Prop:=
 ∀(aa:List (Addr×Obj)) (s:Shared) (σ:St) (H:Hp) (v:V) (u:Value) (Q:St->Hp->Prop),Inv X aa σ H s->RelV v u->t v σ H Q->
  wpAny (model X.prog X.w) X.A (assign target X.env u) (λ_ s'=>∃σ' H',Inv X aa σ' H' s'/\Q σ' H') X.xe s
def KG(X:Cx)(ts:List Expr)(t:Ez):Prop:=
 ∀(aa:List (Addr×Obj)) (s:Shared) (σ:St) (H:Hp) (vs:List V) (us:List Value) (Q:St->Hp->Prop),Inv X aa σ H s->Vals vs us->t vs σ H Q->
  wpAny (model X.prog X.w) X.A (assignInOrder ((assignEach ts X.env).map (·.2)) us) (λ_ s'=>∃σ' H',Inv X aa σ' H' s'/\Q σ' H') X.xe s
abbrev Hb:=V->V->V->Hp->(Hp->Prop)->Prop
def L7(X:Cx)(t:Hb):Prop:=
 ∀(aa:List (Addr×Obj)) (s:Shared) (σ:St) (H:Hp) (o i v:V) (ov iv u:Value) (Q:Hp->Prop),Inv X aa σ H s->RelV o ov->RelV i iv->RelV v u->t o i v H Q->
  wpAny (model X.prog X.w) X.A (setItem ov iv u) (λ_ s'=>∃H',Inv X aa σ H' s'/\Q H') X.xe s
section
variable{X:Cx}{pos:Pos}
def dj(i:Nat):TG:=λv σ H Q=>Q (σ.set i (some v)) H
def CQ{i:Nat}{x:Str}(hN:X.N.Nodup)(hi:X.N[i]?=some x)(hx:Loc X.env.scope x)(hf:X.fn x=true\/X.env.scope.names.lookup x=some .local:=by first|exact .inl rfl|exact .inr rfl|assumption):PG X (.Name x pos) (dj i):=by
 intro aa s σ H v u Q I r h;exact wpAny_assign_Name (qC I hN hi hx r (λs' I'=>⟨_,H,I',h⟩) hf)
def zW:Ez:=λvs σ H Q=>vs=[]/\Q σ H
def fR(t:TG)(u:Ez):Ez:=λvs σ H Q=>∃v r,vs=v::r/\t v σ H λσ' H'=>u r σ' H' Q
def BR:KG X [] zW:=by
 intro aa s σ H vs us Q I r h;obtain⟨e,h⟩:=h
 subst e;cases r;exact assignInOrder_nil ⟨σ,H,I,h⟩
theorem zm{e:Expr}{es:List Expr}{t:TG}{u:Ez}(h1:PG X e t)(h2:KG X es u)
 (hs:(assignEach (e::es) X.env).map (·.2)=assign e X.env::(assignEach es X.env).map (·.2):=by rfl):KG X (e::es) (fR t u):=by
 intro aa s σ H vs us Q I r h;obtain⟨v,vr,e1,h⟩:=h
 subst e1;cases r with
 |cons r rr=>
  rw [hs];refine assignInOrder_cons (bD (h1 aa s σ H _ _ _ I r h) λ_ s1 ⟨σ1,H1,I1,q1⟩=>?_)
  exact h2 aa s1 σ1 H1 _ _ Q I1 rr q1
noncomputable def Bj(K:zz8)(n:Nat)(t:Ez):TG:=λv σ H Q=>∃a xs,v=.ref a/\eE K H a xs/\xs.length=n/\t xs σ H Q
theorem tj{es:List Expr}{k:Nat}{t:Ez}{n:Nat}(hc:X.calm=true)(h:KG X es t)
 (hn:(assignEach es X.env).length=n:=by rfl) (cO:(assignEach es X.env).findIdx? (·.1)=none:=by rfl):PG X (.Tuple es k pos) (Bj X.K n t):=by
 intro aa s σ H v u Q I r hw;obtain⟨a,xs,e1,hq,hl,hw⟩:=hw
 subst e1;cases r;obtain⟨ak,rv,ht,hz⟩:=I.tuple hq
 refine assign_Tuple_tuple (I.ok.hd hc) ht (by simp [hn,<-hl,rv.length]) cO λh' hx=>?_
 have I1:Inv X aa σ H {s with heap:=h'}:=I.kept (t':=s.toks) λb o e=>hx b o (zzb (zzO e)) e
 exact h aa _ σ H xs _ Q I1 (by simpa using rv) hw
def Pm(to ti:TE)(t:Hb):TG:=λv σ H Q=>to σ H λo H1=>ti σ H1 λi H2=>t o i v H2 λH3=>Q σ H3
def ID{o i:Expr}{to ti:TE}{t:Hb}(ho:PE X o to)(hi:PE X i ti)(hs:L7 X t)
 (ha:∀v,assign (.Subscript o i pos) X.env v=(do
  let ov<-holding [v] (eval o X.env)
  let iv<-holding [v,ov] (eval i X.env)
  standAt pos
  holding [v,ov,iv] (setItem ov iv v)
  release [v,ov,iv] []):=by intro _;rfl):PG X (.Subscript o i pos) (Pm to ti t):=by
 intro aa s σ H v u Q I r h;rw [ha];refine zzA (wpAny_holding (bD (ho aa s σ H _ I h) λov s1 ⟨x,H1,I1,r1,q1⟩=>?_))
 refine zzA (wpAny_holding (bD (hi aa s1 σ H1 _ I1 q1) λiv s2 ⟨y,H2,I2,r2,q2⟩=>?_))
 refine zzA (wpAny_standAt (zzA (wpAny_holding (bD (hs aa s2 σ H2 x y v ov iv u _ I2 r1 r2 r q2) λ_ s3 ⟨H3,I3,q3⟩=>?_))))
 exact wpAny_release ⟨σ,H3,I3,q3⟩
def BB(te:TE)(g:TG):TS:=λD σ H=>te σ H λx H1=>g x σ H1 D.nx
theorem HM{tg e:Expr}{te:TE}{g:TG}(he:PE X e te)(hg:PG X tg g)(hs:swapsWithSole [tg] e pos.line X.env=pure false:=by rfl)(hw:swappedStores [tg] e X.env=pure none:=by rfl)
 (h1:(assignEach [tg] X.env).map (·.2)=[assign tg X.env]:=by rfl):PS X (.Assign [tg] e pos) (BB te g):=by
 intro aa s σ H D I h;refine wpAny_Assign_stores (bD (he aa s σ H _ I h) λv s1 ⟨x,H1,I1,r1,q1⟩=>?_) hs hw
 rw [h1];exact bD (hg aa s1 σ H1 x v _ I1 r1 q1) λ_ s2 q=>q
theorem pP{i:Nat}{x:Str}{e:Expr}{te:TE}{pos':Pos}(hN:X.N.Nodup)(hi:X.N[i]?=some x)(hx:Loc X.env.scope x)(he:PE X e te)(hs:swapsWith e (some (.Name x pos')) pos.line X.env=pure false:=by rfl)(hf:X.fn x=true\/X.env.scope.names.lookup x=some .local:=by first|exact .inl rfl|exact .inr rfl|assumption):
 PS X (.Assign [.Name x pos'] e pos) (BB te (dj i)):=by
 intro aa s σ H D I h;refine wpAny_Assign_Name (bD (he aa s σ H _ I h) λv s1 ⟨y,H1,I1,r1,q1⟩=>?_) hs
 exact qC I1 hN hi hx r1 (λs2 I2=>⟨_,H1,I2,q1⟩) hf
noncomputable def GC(c:TT)(tb:TS):TS:=λD σ H=>∃W:Nat->St->Hp->Prop,(∃m,W m σ H)/\∀m σ H,W m σ H->
 c σ H λb H1=>if b=true then∃N:St->Hp->Prop,(∀σ' H',N σ' H'->∃m',m'<m/\W m' σ' H')/\tb {D with nx:=N,ct:=N,bk:=D.nx} σ H1 else D.nx σ H1
def Aq{c:Expr}{body:List Stmt}{tc:TT}{tb:TS}(hp:PassesOwn (model X.prog X.w) X.A X.env X.xe)(hc:PT X c tc)(hb:uN X body tb):PS X (.While c body [] pos) (GC tc tb):=by
 intro aa s σ H D I h;obtain⟨W,⟨m0,w0⟩,turn⟩:=h
 refine wpAny_While (codeAny_whileLoop (λn s'=>∃σ' H',Inv X aa σ' H' s'/\W n σ' H') ?_ m0 ⟨σ,H,I,w0⟩)
 rintro n s1 ⟨σ1,H1,I1,w1⟩
 refine wpAny_passesOwn hp (bD (hc aa s1 σ1 H1 _ I1 (turn n σ1 H1 w1)) λb s2 ⟨H2,I2,q2⟩=>?_)
 cases b with
 |true=>
  obtain⟨N,hN,q2⟩:=q2
  rw [if_pos rfl];refine wpAny_passesOwn hp (bD (hb aa s2 σ1 H2 _ I2 q2) λf s3 q3=>?_)
  cases f with
  |next=>
   obtain⟨σ3,H3,I3,n3⟩:=q3
   obtain⟨m',hm,w3⟩:=hN σ3 H3 n3
   exact⟨m',hm,σ3,H3,I3,w3⟩
  |cont=>
   obtain⟨σ3,H3,I3,n3⟩:=q3
   obtain⟨m',hm,w3⟩:=hN σ3 H3 n3
   exact⟨m',hm,σ3,H3,I3,w3⟩
  |brk=>exact q3
  |ret v=>exact q3
 |false=>
  rw [if_neg zzf];exact wpAny_execs_nil ⟨σ1,H2,I2,q2⟩
end
structure It where
 go:Nat->Hp->Prop
 JB:Nat->Hp->V->Hp->Prop
 stop:Nat->Hp->Prop
def gc(X:Cx)(aa:List (Addr×Obj))(H:Hp)(b:Addr):Prop:=
 H b=none/\b≠X.env.locals/\b∉X.fs/\(b∈X.ex\/X.s₀.heap.objs.size<=b)/\(∀x c,X.env.cells.lookup x=some c->c≠b)/\∀p∈X.pn++aa,p.1≠b
def Inv.lK{X:Cx}{aa:List (Addr×Obj)}{σ:St}{H H':Hp}{s:Shared}{b:Addr}(I:Inv X aa σ H s)(hb:(zz9 s)<=b)(hn:H' b=none):gc X aa H' b:=by
 refine⟨hn,Nat.ne_of_gt (zzW I.lt hb),I.Pu hb,.inr (zzU I.sz hb),λx c e z=>?_,λp hp z=>?_⟩
 ·obtain⟨v,q⟩:=I.cell x c e
  exact absurd (zzW q.lt (by rw [z];exact hb)) (Nat.lt_irrefl _)
 ·exact absurd (zzW (zzO (I.pin p hp).1) (by rw [z];exact hb)) (Nat.lt_irrefl _)
structure Turn(P:Program)(w:World)(K:zz8)(tg:Expr)(J:It)(fp:List Addr)(it:Addr)(tn:Nat->Heap->Prop):Prop where
 mem:it∈fp
 obj:∀i h,tn i h->∀b∈fp,∃o,h.get? b=some o/\∀v,o.data≠.cell v
 keep:∀i h h',tn i h->(∀b∈fp,∀o,h.get? b=some o->h'.get? b=some o)->tn i h'
 item:∀(X:Cx),X.prog=P->X.w=w->X.K=K->X.calm=true->∀(i:Nat) (aa:List (Addr×Obj)) (s:Shared) (σ:St) (H:Hp) (E:Value->Shared->Prop),Inv X aa σ H s->(∀b∈fp,gc X aa H b)->tn i s.heap->J.go i H->
  wpAny (model P w) X.A (pyNext (.ref it)) (λr s1=>∃u,r=some u/\
   wpAny (model P w) X.A (letOwnedTupleGo tg (.ref it) u) (λ_ s2=>∃x H',Inv X aa σ H' s2/\RelV x u/\J.JB i H x H'/\tn (i+1) s2.heap/\∀b∈fp,H' b=none) E s1) E s
 done:∀(X:Cx),X.prog=P->X.w=w->X.K=K->X.calm=true->∀(i:Nat) (aa:List (Addr×Obj)) (s:Shared) (σ:St) (H:Hp) (E:Value->Shared->Prop),Inv X aa σ H s->(∀b∈fp,gc X aa H b)->tn i s.heap->J.stop i H->
  wpAny (model P w) X.A (pyNext (.ref it)) (λr s1=>r=none/\Inv X aa σ H s1) E s
 self:∀(A:Around) (i:Nat) (s:Shared) (Q:Value->Shared->Prop) (E:Value->Shared->Prop),tn i s.heap->Q (.ref it) s->wpAny (model P w) A (pyIter (.ref it)) Q E s
abbrev TI:=St->Hp->(It->Hp->Prop)->Prop
def Sj(X:Cx)(aa:List (Addr×Obj))(σ:St)(tg:Expr)(R:It->Hp->Prop)(Ml:Value)(s2:Shared):Prop:=
 ∃(it:Addr) (fp:List Addr) (tn:Nat->Heap->Prop) (J:It) (H':Hp),Ml=.ref it/\Inv X aa σ H' s2/\Turn X.prog X.w X.K tg J fp it tn/\tn 0 s2.heap/\(∀b∈fp,gc X aa H' b)/\R J H'
def PI(X:Cx)(tg iter:Expr)(wi:TI):Prop:=
 ∀(aa:List (Addr×Obj)) (s:Shared) (σ:St) (H:Hp) (R:It->Hp->Prop),Inv X aa σ H s->wi σ H R->
  wpAny (model X.prog X.w) X.A (eval iter X.env) (λv s1=>wpAny (model X.prog X.w) X.A (pyIter v) (Sj X aa σ tg R) X.xe s1) X.xe s
def qB{M:Model}{A:Around}{E:Value->Shared->Prop}{s:Shared}{tg:Expr}{it:Addr}{u:Value}{o:Obj}{n:String}{vs:Array Value}{Q:Unit->Shared->Prop}(ho:s.heap.get? it=some o)(hc:o.cls=.type n)(hd:o.data=.fields vs)
 (hn:["enumerate","zip","dict_itemiterator","dict_reverseitemiterator","odict_iterator","itertools.zip_longest","itertools.pairwise"].contains n=false) (hQ:Q () s):wpAny M A (letOwnedTupleGo tg (.ref it) u) Q E s:=by
 unfold letOwnedTupleGo;cases tg<;>first
  |exact zzG hQ
  |(cases u<;>first
   |exact zzG hQ
   | (refine zzA (wpAny_load ho ?_)
      rw [hc,hd];show wpAny M A (if(["enumerate","zip","dict_itemiterator","dict_reverseitemiterator","odict_iterator","itertools.zip_longest","itertools.pairwise"].contains n&&vs[0]?==some (rawInt _))=true then _ else _) Q E s;rw [if_neg (by intro h;rw [hn,Bool.false_and] at h;cases h)];exact zzG hQ))
noncomputable def OV(K:zz8)(a:Addr):It:=
 ⟨λi H=>∃xs x,dz K H a xs/\xs[i]?=some x,λi H x H'=>H'=H/\∀xs,dz K H a xs->xs[i]?=some x,λi H=>∃xs,dz K H a xs/\xs.length<=i⟩
noncomputable def Nc(K:zz8)(a:Addr):It:=
 ⟨λi H=>∃xs x,eE K H a xs/\xs[i]?=some x,λi H x H'=>H'=H/\∀xs,eE K H a xs->xs[i]?=some x,λi H=>∃xs,eE K H a xs/\xs.length<=i⟩
def Lz(lo:Int)(n:Nat):It:=⟨λi _=>i<n,λi H x H'=>H'=H/\x=.int (lo+i),λi _=>n<=i⟩
def vZ{P:Program}{w:World}{K:zz8}{tg:Expr}(a it:Addr):Turn P w K tg (OV K a) [it] it (λi h=>h.IsListIter it a i) where
 mem:=by simp
 obj:=λi h st b hb=>by
  have e:b=it:=by simpa using hb
  subst e;obtain⟨o,e,c,d⟩:=st
  exact⟨o,e,λv z=>by rw [d] at z;cases z⟩
 keep:=λi h h' st k=>st.at λo e=>k it (by simp) o e
 item:=by
  intro X hP hw hK hc i aa s σ H E I hf st hg;subst hP hw hK;obtain⟨xs,x,hq,hx⟩:=hg
  obtain⟨ak,rv,p,hz⟩:=I.list hq
  obtain⟨u,hu,ru⟩:=rv.get hx
  obtain⟨f0,f1,f2,f3,f4,f5⟩:=hf it (by simp)
  refine wpAny_pyNext_list_item st p.isList (x:=u) (by simpa using hu) λh' iY sb=>?_
  have I1:Inv X aa σ H {s with heap:=h'}:=I.turned (t':=s.toks) (λb o hb e=>(sb.2 b hb).trans e) f0 f1 f3 f4 f5
  obtain⟨o,e,c,d⟩:=id iY
  exact⟨u,rfl,qB (s:={s with heap:=h'}) e c d (by decide) ⟨x,H,I1,ru,⟨rfl,λys hy=>by rw [I.rM hy hq];exact hx⟩,iY,λb hb=>(hf b hb).1⟩⟩
 done:=by
  intro X hP hw hK hc i aa s σ H E I hf st hg;subst hP hw hK;obtain⟨xs,hq,hx⟩:=hg
  obtain⟨ak,rv,p,hz⟩:=I.list hq
  obtain⟨f0,f1,f2,f3,f4,f5⟩:=hf it (by simp)
  have hl:=rv.length
  exact wpAny_pyNext_list_end (I.ok.hd hc) st p.isList (by simp;omega) λh' eb=>⟨rfl,I.turned (t':=s.toks) (λb o hb e=>eb b o hb e) f0 f1 f3 f4 f5⟩
 self:=λ_ _ _ _ _ st h=>wpAny_pyIter_listiter st h
def rT{P:Program}{w:World}{K:zz8}{tg:Expr}(a it:Addr):Turn P w K tg (Nc K a) [it] it (λi h=>h.IsTupleIter it a i) where
 mem:=by simp
 obj:=λi h st b hb=>by
  have e:b=it:=by simpa using hb
  subst e;obtain⟨o,e,c,d⟩:=st
  exact⟨o,e,λv z=>by rw [d] at z;cases z⟩
 keep:=λi h h' st k=>st.at λo e=>k it (by simp) o e
 item:=by
  intro X hP hw hK hc i aa s σ H E I hf st hg;subst hP hw hK;obtain⟨xs,x,hq,hx⟩:=hg
  obtain⟨ak,rv,p,hz⟩:=I.tuple hq
  obtain⟨u,hu,ru⟩:=rv.get hx
  obtain⟨f0,f1,f2,f3,f4,f5⟩:=hf it (by simp)
  refine wpAny_pyNext_tuple_item st (show s.heap.IsTuple a ak.toArray from p) (x:=u) (by simpa using hu) λh' iY sb=>?_
  have I1:Inv X aa σ H {s with heap:=h'}:=I.turned (t':=s.toks) (λb o hb e=>(sb.2 b hb).trans e) f0 f1 f3 f4 f5
  obtain⟨o,e,c,d⟩:=id iY
  exact⟨u,rfl,qB (s:={s with heap:=h'}) e c d (by decide) ⟨x,H,I1,ru,⟨rfl,λys hy=>by rw [I.m9 hy hq];exact hx⟩,iY,λb hb=>(hf b hb).1⟩⟩
 done:=by
  intro X hP hw hK hc i aa s σ H E I hf st hg;subst hP hw hK;obtain⟨xs,hq,hx⟩:=hg
  obtain⟨ak,rv,p,hz⟩:=I.tuple hq
  obtain⟨f0,f1,f2,f3,f4,f5⟩:=hf it (by simp)
  have hl:=rv.length
  exact wpAny_pyNext_tuple_end (I.ok.hd hc) st (show s.heap.IsTuple a ak.toArray from p) (by simp;omega) λh' eb=>⟨rfl,I.turned (t':=s.toks) (λb o hb e=>eb b o hb e) f0 f1 f3 f4 f5⟩
 self:=λ_ _ _ _ _ st h=>wpAny_pyIter_tupleiter st h
def tU{P:Program}{w:World}{K:zz8}{tg:Expr}(it:Addr)(lo:Int)(n:Nat):Turn P w K tg (Lz lo n) [it] it (λi h=>IsRangeIter h it (lo+(i:Nat)*1) ((n:Int)-(i:Nat)) 1) where
 mem:=by simp
 obj:=λi h st b hb=>by
  have e:b=it:=by simpa using hb
  subst e;exact⟨_,st,λv z=>by
   have z':Data.fields _=Data.cell v:=z
   cases z'⟩
 keep:=λi h h' st k=>k it (by simp) _ st
 item:=by
  intro X hP hw hK hc i aa s σ H E I hf st hg;subst hP hw hK;obtain⟨f0,f1,f2,f3,f4,f5⟩:=hf it (by simp)
  have W:=Walks.range (prog:=X.prog) (w:=X.w) (I.ok.hd hc) it lo 1 n
  refine W.item i s _ _ hg st λv h' tk hv iY kk=>?_
  obtain⟨t,rfl⟩:=hv
  have I1:Inv X aa σ H {s with heap:=h',toks:=tk}:=I.turned (λb o hb e=>kk b o (by simpa using hb) e) f0 f1 f3 f4 f5
  refine⟨_,rfl,qB (s:={s with heap:=h',toks:=tk}) (n:="range_iterator") iY rfl rfl (by decide) ⟨.int (lo+i),H,I1,⟨t,?_⟩,⟨rfl,rfl⟩,iY,λb hb=>(hf b hb).1⟩⟩
  rw [Int.mul_one]
 done:=by
  intro X hP hw hK hc i aa s σ H E I hf st hg;subst hP hw hK;obtain⟨f0,f1,f2,f3,f4,f5⟩:=hf it (by simp)
  exact wpAny_pyNext_range_end (I.ok.hd hc) st (by have:n<=i:=hg;omega) λh' eb=>⟨rfl,I.turned (t':=s.toks) (λb o hb e=>eb b o hb e) f0 f1 f3 f4 f5⟩
 self:=λ_ _ _ _ _ st h=>wpAny_pyIter_rangeiter st h
section
variable{X:Cx}{tg:Expr}
noncomputable def LL(K:zz8)(tl:TE):TI:=λσ H R=>tl σ H λx H1=>∃a,x=.ref a/\(∃xs,dz K H1 a xs)/\R (OV K a) H1
noncomputable def Nk(K:zz8)(tl:TE):TI:=λσ H R=>tl σ H λx H1=>∃a,x=.ref a/\(∃xs,eE K H1 a xs)/\R (Nc K a) H1
def vc{l:Expr}{tl:TE}(hl:PE X l tl):PI X tg l (LL X.K tl):=by
 intro aa s σ H R I h;refine bD (hl aa s σ H _ I h) λv s1 ⟨x,H1,I1,r1,q1⟩=>?_
 obtain⟨a,e,⟨xs,hq⟩,q⟩:=q1
 subst e;cases r1;obtain⟨ak,rv,p,hz⟩:=I1.list hq
 refine wpAny_pyIter_list p.isList ?_;refine⟨(zz9 s1),[(zz9 s1)],_,_,H1,rfl,I1.kept (t':=s1.toks) λb o e=>zzB _ e,vZ a _,⟨_,zzX _ rfl,rfl,rfl⟩,λb hb=>?_,q⟩
 have e:b=(zz9 s1):=by simpa using hb
 subst e;exact I1.lK (zzE _) (I1.bu.fresh (zzE _))
def HD{l:Expr}{tl:TE}(hl:PE X l tl):PI X tg l (Nk X.K tl):=by
 intro aa s σ H R I h;refine bD (hl aa s σ H _ I h) λv s1 ⟨x,H1,I1,r1,q1⟩=>?_
 obtain⟨a,e,⟨xs,hq⟩,q⟩:=q1
 subst e;cases r1;obtain⟨ak,rv,p,hz⟩:=I1.tuple hq
 refine wpAny_pyIter_tuple (show s1.heap.IsTuple a ak.toArray from p) ?_;refine⟨(zz9 s1),[(zz9 s1)],_,_,H1,rfl,I1.kept (t':=s1.toks) λb o e=>zzB _ e,rT a _,⟨_,zzX _ rfl,rfl,rfl⟩,λb hb=>?_,q⟩
 have e:b=(zz9 s1):=by simpa using hb
 subst e;exact I1.lK (zzE _) (I1.bu.fresh (zzE _))
def qi{aa:List (Addr×Obj)}{σ:St}{H:Hp}{s:Shared}{R:It->Hp->Prop}{E:Value->Shared->Prop}{lo hi:Int}{t u v:Tok}{tk:Nat}(I:Inv X aa σ H s)(h1: -(2^62)<=lo)(h2:lo<2^62)(h3: -(2^62)<=hi)(h4:hi<2^62)
 (q:R (Lz lo (hi-lo).toNat) H):wpAny (model X.prog X.w) X.A (pyIter (.ref (zz9 s))) (Sj X aa σ tg R) E {s with heap:=s.heap.push {cls:=.type "range",data:=.fields #[.int lo t,.int hi u,.int 1 v]},toks:=tk}:=by
 refine wpAny_pyIter_range (IsRange.new ..) (small_one h1 h2 h3 h4) ?_;have I1:Inv X aa σ H {s with heap:=s.heap.push {cls:=.type "range",data:=.fields #[.int lo t,.int hi u,.int 1 v]},toks:=tk}:=I.kept λb o e=>zzB _ e
 refine⟨(s.heap.push {cls:=.type "range",data:=.fields #[.int lo t,.int hi u,.int 1 v]}).objs.size,[(s.heap.push {cls:=.type "range",data:=.fields #[.int lo t,.int hi u,.int 1 v]}).objs.size],_,_,H,rfl,
  I1.kept (t':=tk) λb o e=>zzB _ e,tU _ lo (hi-lo).toNat,?_,λb hb=>?_,q⟩
 ·have e1:lo+((0:Nat):Int)*1=lo:=by simp
  have e2:(((hi-lo).toNat:Nat):Int)-((0:Nat):Int)=Builtin.Range.rangeSize lo hi 1:=by rw [rangeSize_one];split<;>omega
  show IsRangeIter _ _ (lo+((0:Nat):Int)*1) ((((hi-lo).toNat:Nat):Int)-((0:Nat):Int)) 1
  rw [e1,e2];exact zzX _ rfl
 ·have e:b=(s.heap.push {cls:=.type "range",data:=.fields #[.int lo t,.int hi u,.int 1 v]}).objs.size:=by simpa using hb
  subst e;exact I1.lK (zzE _) (I1.bu.fresh (zzE _))
def KQ(ta:TA):TI:=λσ H R=>ta σ H λvs H1=>∃j:Int,vs=[.int j]/\ -(2^62)<=j/\j<2^62/\R (Lz 0 j.toNat) H1
def Ky(ta:TA):TI:=λσ H R=>ta σ H λvs H1=>∃i j:Int,vs=[.int i,.int j]/\(-(2^62)<=i/\i<2^62/\ -(2^62)<=j/\j<2^62)/\R (Lz i (j-i).toNat) H1
theorem vQ{a:Expr}{ta:TA}{p pos:Pos}(hg:Gl X "range")(hm:X.mg "range"=none)(ha:PA X [a] ta)(hs:starEach [a] X.env=[(false,eval a X.env)]:=by rfl):PI X tg (.Call (.Name "range" p) [a] [] pos) (KQ ta):=by
 intro aa s σ H R I h;refine Call_ (dq I hg hm boot_range (PyProof.Rows.callWith_type1 (bD (ha pos aa s σ H _ I h) λus s1 ⟨vs,H1,I1,r1,q1⟩=>?_) hs rfl))
 obtain⟨j,e,q1,q2,q⟩:=q1
 subst e;cases r1 with
 |cons r rr=>
  cases rr;obtain⟨t,rfl⟩:=r
  exact call_range_1 (qi I1 (by omega) (by omega) q1 q2 (by simpa using q))
theorem vL{a b:Expr}{ta:TA}{p pos:Pos}(hg:Gl X "range")(hm:X.mg "range"=none)(ha:PA X [a,b] ta)(hs:starEach [a,b] X.env=[(false,eval a X.env),(false,eval b X.env)]:=by rfl)(xG:starEach [b] X.env=[(false,eval b X.env)]:=by rfl):
 PI X tg (.Call (.Name "range" p) [a,b] [] pos) (Ky ta):=by
 intro aa s σ H R I h;refine Call_ (dq I hg hm boot_range (PyProof.Rows.callWith_type1 (bD (ha pos aa s σ H _ I h) λus s1 ⟨vs,H1,I1,r1,q1⟩=>?_) (by rw [hs,xG]) (by rw [xG];rfl)))
 obtain⟨i,j,e,⟨q1,q2,q3,q4⟩,q⟩:=q1
 subst e;cases r1 with
 |cons r rr=>
  cases rr with
  |cons r' rr=>
   cases rr;obtain⟨t,rfl⟩:=r
   obtain⟨t',rfl⟩:=r'
   exact call_range_2 (qi I1 q1 q2 q3 q4 q)
noncomputable def Ny(wi:TI)(g:TG)(tb:TS):TS:=λD σ H=>wi σ H λJ H1=>∃W:Nat->Nat->St->Hp->Prop,(∃m,W 0 m σ H1)/\∀i m σ H,W i m σ H->
 (J.stop i H/\D.nx σ H)\/(J.go i H/\∃N:St->Hp->Prop,(∀σ' H',N σ' H'->∃m',m'<m/\W (i+1) m' σ' H')/\∀x H',J.JB i H x H'->g x σ H' λσ2 H2=>tb {D with nx:=N,ct:=N,bk:=D.nx} σ2 H2)
def n8(fp:List Addr)(h:Heap):List (Addr×Obj):=fp.filterMap λb=>(h.get? b).map λo=>(b,o)
def dw{fp:List Addr}{h:Heap}{b:Addr}{o:Obj}(hb:b∈fp)(e:h.get? b=some o):(b,o)∈n8 fp h:=zz1.mpr ⟨b,hb,by rw [e];rfl⟩
def vE{fp:List Addr}{h:Heap}{p:Addr×Obj}(hp:p∈n8 fp h):p.1∈fp/\h.get? p.1=some p.2:=by
 obtain⟨b,hb,e⟩:=zz1.mp hp
 cases q:h.get? b with
 |none=>rw [q] at e;cases e
 |some o=>
  rw [q] at e;have e':(b,o)=p:=zzq e
  subst e';exact⟨hb,q⟩
theorem Inv.pinned{aa:List (Addr×Obj)}{σ:St}{H:Hp}{s:Shared}{fp:List Addr}(I:Inv X aa σ H s)(hf:∀b∈fp,gc X aa H b)(ho:∀b∈fp,∃o,s.heap.get? b=some o/\∀v,o.data≠.cell v):Inv X (aa++n8 fp s.heap) σ H s:=
 I.jv λp hp=>(List.mem_append.mp hp).elim (λz=>I.pin p (zzR _ z)) λz=>by
  obtain⟨hb,e⟩:=vE z
  obtain⟨f0,f1,f2,_⟩:=hf p.1 hb
  obtain⟨o,e',d⟩:=ho p.1 hb
  rw [e] at e';cases e';exact⟨e,f0,f1,f2,d⟩
def Inv.iA{aa pl:List (Addr×Obj)}{σ:St}{H:Hp}{s:Shared}(I:Inv X (aa++pl) σ H s):Inv X aa σ H s:=I.jv λp hp=>I.pin p (zzR _ (zzc _ hp))
def HC{iter:Expr}{body:List Stmt}{wi:TI}{g:TG}{tb:TS}{pos:Pos}(hp:PassesOwn (model X.prog X.w) X.A X.env X.xe)(hc:X.calm=true)(hi:PI X tg iter wi)(hg:PG X tg g)(hb:uN X body tb)
 (hs:∀x,foldedSetIterable iter X.env x=pure x:=by intro _;rfl):PS X (.For tg iter body [] pos) (Ny wi g tb):=by
 intro aa s σ H D I h;refine wpAny_For (bD (hi aa s σ H _ I h) λv s1 h1=>bD h1 λMl s2 h2=>?_) hs
 obtain⟨it,fp,tn,J,H2,e,I2,T,O4,f2,W,⟨m0,w0⟩,turn⟩:=h2
 subst e;have Ft:∀{H':Hp},(∀b∈fp,H' b=none)->∀b∈fp,gc X aa H' b:=λhn b hb=>⟨hn b hb,(f2 b hb).2⟩
 refine codeAny_forLoop_any (λn s'=>∃i σ' H',Inv X aa σ' H' s'/\tn i s'.heap/\(∀b∈fp,H' b=none)/\W i n σ' H') ?_ m0 ⟨0,σ,H2,I2,O4,λb hb=>(f2 b hb).1,w0⟩
 rintro n s3 ⟨i,σ3,H3,I3,st3,fr3,w3⟩
 rcases turn i n σ3 H3 w3 with⟨stop,qn⟩|⟨go,N,hN,step⟩
 ·refine wpAny_passesOwn hp (bD (T.done X rfl rfl rfl hc i aa s3 σ3 H3 X.xe I3 (Ft fr3) st3 stop) λr s4 ⟨hr,I4⟩=>?_)
  subst hr;exact wpAny_execs_nil ⟨σ3,H3,I4,qn⟩
 ·refine wpAny_passesOwn hp (bD (T.item X rfl rfl rfl hc i aa s3 σ3 H3 X.xe I3 (Ft fr3) st3 go) λr s4 ⟨u,hr,h4⟩=>?_)
  subst hr;refine wpAny_passesOwn hp (bD h4 λ_ s5 ⟨x,H5,I5,r5,y5,st5,fr5⟩=>?_);have N0:=I5.pinned (Ft fr5) (T.obj _ _ st5)
  refine wpAny_passesOwn hp (bD (hg _ s5 σ3 H5 x u _ N0 r5 (step x H5 y5)) λ_ s6 ⟨σ6,H6,I6,q6⟩=>?_)
  refine wpAny_passesOwn hp (bD (hb _ s6 σ6 H6 _ I6 q6) λf s7 q7=>?_)
  have again:∀{σ7:St} {H7:Hp},Inv X (aa++n8 fp s5.heap) σ7 H7 s7->N σ7 H7->∃m,m<n/\∃i σ' H',Inv X aa σ' H' s7/\tn i s7.heap/\(∀b∈fp,H' b=none)/\W i m σ' H':=λ{σ7 H7} I7 n7=>by
   obtain⟨m',hm,w7⟩:=hN σ7 H7 n7
   refine⟨m',hm,i+1,σ7,H7,I7.iA,T.keep _ _ _ st5 λb hb o e=>(I7.pin (b,o) (zzR _ (zzR _ (dw hb e)))).1,λb hb=>?_,w7⟩
   obtain⟨o,e,d⟩:=T.obj _ _ st5 b hb
   exact(I7.pin (b,o) (zzR _ (zzR _ (dw hb e)))).2.1
  cases f with
  |next=>obtain⟨σ7,H7,I7,n7⟩:=q7;exact again I7 n7
  |cont=>obtain⟨σ7,H7,I7,n7⟩:=q7;exact again I7 n7
  |brk=>obtain⟨σ7,H7,I7,q7⟩:=q7;exact⟨σ7,H7,I7.iA,q7⟩
  |ret v=>obtain⟨x7,σ7,H7,I7,r7,q7⟩:=q7;exact⟨x7,σ7,H7,I7.iA,r7,q7⟩
end
abbrev R2:=V->V->Hp->VK->Prop
def fw(X:Cx)(f:Value->Value->Sem Value)(r:R2):Prop:=
 ∀(aa:List (Addr×Obj)) (s:Shared) (σ:St) (H:Hp) (x y:V) (v u:Value) (Q:VK),Inv X aa σ H s->RelV x v->RelV y u->r x y H Q->
  wpAny (model X.prog X.w) X.A (f v u) (EP X aa σ Q) X.xe s
def Mm(X:Cx)(f:Value->Sem Value)(r:V->Hp->VK->Prop):Prop:=
 ∀(aa:List (Addr×Obj)) (s:Shared) (σ:St) (H:Hp) (x:V) (v:Value) (Q:VK),Inv X aa σ H s->RelV x v->r x H Q->
  wpAny (model X.prog X.w) X.A (f v) (EP X aa σ Q) X.xe s
def bR(X:Cx)(f:Value)(r:List V->Hp->VK->Prop):Prop:=
 ∀(aa:List (Addr×Obj)) (s:Shared) (σ:St) (H:Hp) (xs:List V) (us:List Value) (Q:VK),Inv X aa σ H s->Vals xs us->r xs H Q->
  wpAny (model X.prog X.w) X.A (call f us) (EP X aa σ Q) X.xe s
def Nf(X:Cx)(r:V->Hp->(Bool->Hp->Prop)->Prop):Prop:=
 ∀(aa:List (Addr×Obj)) (s:Shared) (σ:St) (H:Hp) (x:V) (v:Value) (Q:Bool->Hp->Prop),Inv X aa σ H s->RelV x v->r x H Q->
  wpAny (model X.prog X.w) X.A (truthy v) (TP X aa σ Q) X.xe s
noncomputable def L1(r:R2)(ta tb:TE):TE:=λσ H Q=>ta σ H λx H1=>tb σ H1 λy H2=>r x y H2 Q
def S0(r:V->Hp->VK->Prop)(ta:TE):TE:=λσ H Q=>ta σ H λx H1=>r x H1 Q
noncomputable def rI(C:Int->Int->Prop)(g:Int->Int->V):R2:=λx y H Q=>∃i j,x=.int i/\y=.int j/\C i j/\Q (g i j) H
noncomputable def ET(g:Int->Int->V):R2:=λx y H Q=>∃i j,x=.int i/\y=.int j/\Q (g i j) H
def rU(g:Int->V):V->Hp->VK->Prop:=λx H Q=>∃i,x=.int i/\Q (g i) H
section
variable{X:Cx}{a b:Expr}{ta tb:TE}{pos:Pos}
def Fd(ha:PE X a ta)(hb:PE X b tb){aa:List (Addr×Obj)}{s:Shared}{σ:St}{H:Hp}{R:V->V->Hp->Prop}(I:Inv X aa σ H s)
 (h:ta σ H λx H1=>tb σ H1 λy H2=>R x y H2) {Q:Value->Shared->Prop} {f:Value->Value->Sem Value}
 (hf:∀v u s2 x y H2,Inv X aa σ H2 s2->RelV x v->RelV y u->R x y H2->wpAny (model X.prog X.w) X.A (f v u) Q X.xe s2):
 wpAny (model X.prog X.w) X.A (eval a X.env) (λv s₁=>wpAny (model X.prog X.w) X.A (eval b X.env) (λu s₂=>wpAny (model X.prog X.w) X.A (f v u) Q X.xe s₂) X.xe s₁) X.xe s:=by
 refine bD (ha aa s σ H _ I h) λv s1 ⟨x,H1,I1,r1,q1⟩=>?_
 refine bD (hb aa s1 σ H1 _ I1 q1) λu s2 ⟨y,H2,I2,r2,q2⟩=>?_
 exact hf v u s2 x y H2 I2 r1 r2 q2
def Le{op:Operator}{r:R2}(ho:fw X (binaryOp op) r)(ha:PE X a ta)(hb:PE X b tb):PE X (.BinOp a op b pos) (L1 r ta tb):=by
 intro aa s σ H Q I h;exact wpAny_BinOp (Fd ha hb I h λv u s2 x y H2 I2 rx ry q=>ho aa s2 σ H2 x y v u Q I2 rx ry q)
def K3{op:UnaryOp}{r:V->Hp->VK->Prop}(ho:Mm X (unaryOp op) r)(ha:PE X a ta):PE X (.UnaryOp op a pos) (S0 r ta):=by
 intro aa s σ H Q I h;exact UnaryOp_ (bD (ha aa s σ H _ I h) λv s1 ⟨x,H1,I1,r1,q1⟩=>ho aa s1 σ H1 x v Q I1 r1 q1)
def yv{f:Value->Value->Sem Value}{C:Int->Int->Prop}{g:Int->Int->Int}
 (rule:∀(i j:Int) (t u:Tok) (s:Shared) (Q:Value->Shared->Prop) (E:Value->Shared->Prop),C i j->Q (.int (g i j) s.toks) {s with toks:=s.toks+1}->wpAny (model X.prog X.w) X.A (f (.int i t) (.int j u)) Q E s):
 fw X f (rI C λi j=>.int (g i j)):=by
 intro aa s σ H x y v u Q I rx ry h;obtain⟨i,j,rfl,rfl,hc,q⟩:=h
 obtain⟨t,rfl⟩:=rx
 obtain⟨t',rfl⟩:=ry
 exact rule i j t t' s _ _ hc ⟨.int (g i j),H,I.tok _,⟨_,rfl⟩,q⟩
def JR{f:Value->Value->Sem Value}{g:Int->Int->Int}
 (rule:∀(i j:Int) (t u:Tok) (s:Shared) (Q:Value->Shared->Prop) (E:Value->Shared->Prop),Q (.int (g i j) s.toks) {s with toks:=s.toks+1}->wpAny (model X.prog X.w) X.A (f (.int i t) (.int j u)) Q E s):
 fw X f (ET λi j=>.int (g i j)):=by
 intro aa s σ H x y v u Q I rx ry h;obtain⟨i,j,rfl,rfl,q⟩:=h
 obtain⟨t,rfl⟩:=rx
 obtain⟨t',rfl⟩:=ry
 exact rule i j t t' s _ _ ⟨.int (g i j),H,I.tok _,⟨_,rfl⟩,q⟩
def DX{f:Value->Value->Sem Value}{g:Int->Int->Bool}
 (rule:∀(i j:Int) (t u:Tok) (s:Shared) (Q:Value->Shared->Prop) (E:Value->Shared->Prop),Q (.bool (g i j)) s->wpAny (model X.prog X.w) X.A (f (.int i t) (.int j u)) Q E s):
 fw X f (ET λi j=>.bl (g i j)):=by
 intro aa s σ H x y v u Q I rx ry h;obtain⟨i,j,rfl,rfl,q⟩:=h
 obtain⟨t,rfl⟩:=rx
 obtain⟨t',rfl⟩:=ry
 exact rule i j t t' s _ _ ⟨.bl (g i j),H,I,rfl,q⟩
def Nj(i j:Int):Prop:=0<j/\j<1073741824
def GN(i j:Int):Prop:=(-(2^64)<i/\i<2^64)\/(-(2^64)<j/\j<2^64)
def GN.ok{i j:Int}(h:GN i j):IntMulOk i j:=by
 rcases h with⟨h1,h2⟩|⟨h1,h2⟩
 ·exact .of_left (intBits_le_64 h1 h2)
 ·exact .of_right (intBits_le_64 h1 h2)
def Gh:fw X (binaryOp .Add) (ET λi j=>.int (i+j)):=JR λ_ _ _ _ _ _ _ q=>add_int q
def Hn:fw X (binaryOp .Sub) (ET λi j=>.int (i-j)):=JR λ_ _ _ _ _ _ _ q=>sub_int q
def HA:fw X (binaryOp .Mult) (rI GN λi j=>.int (i*j)):=yv λ_ _ _ _ _ _ _ hc q=>mul_int q hc.ok
theorem A8:fw X (binaryOp .FloorDiv) (rI Nj λi j=>.int (i/j)):=yv λi j _ _ _ _ _ hc q=>by
 have h1:(0:Int)<j:=hc.1
 have h2:j<1073741824:=hc.2
 exact floordiv_int (by omega) (by rw [Int.fdiv_eq_ediv_of_nonneg i (by omega)];exact q) (.inl (PyProof.noPylong_small (by omega)))
theorem Fn:fw X (binaryOp .Mod) (rI (λ_ j=>0<j) λi j=>.int (i%j)):=yv λi j _ _ _ _ _ hc q=>by
 have h1:(0:Int)<j:=hc
 exact mod_int' (by omega) (by rw [Int.fmod_eq_emod_of_nonneg i (by omega)];exact q)
def Ti{f:Value->Sem Value}{g:Int->Int}
 (rule:∀(i:Int) (t:Tok) (s:Shared) (Q:Value->Shared->Prop) (E:Value->Shared->Prop),Q (.int (g i) s.toks) {s with toks:=s.toks+1}->wpAny (model X.prog X.w) X.A (f (.int i t)) Q E s):
 Mm X f (rU λi=>.int (g i)):=by
 intro aa s σ H x v Q I rx h;obtain⟨i,rfl,q⟩:=h
 obtain⟨t,rfl⟩:=rx
 exact rule i t s _ _ ⟨.int (g i),H,I.tok _,⟨_,rfl⟩,q⟩
def Ih:Mm X (unaryOp .USub) (rU λi=>.int (-i)):=Ti λ_ _ _ _ _ q=>neg_int q
variable{c:Expr}{tc:TE}
def pJ{aa:List (Addr×Obj)}{σ:St}{H:Hp}{s:Shared}{Q:VK}{k k':Bool}(I:Inv X aa σ H s)(q:Q (.bl k) H)(e:k=k'):EP X aa σ Q (.bool k') s:=by
 subst e;exact⟨.bl k,H,I,rfl,q⟩
def LC:fw X (compareOp .Lt) (ET λi j=>.bl (decide (i<j))):=DX λ_ _ _ _ _ _ _ q=>lt_int q
def J4:fw X (compareOp .LtE) (ET λi j=>.bl (decide (i<=j))):=DX λ_ _ _ _ _ _ _ q=>le_int q
def KP:fw X (compareOp .Gt) (ET λi j=>.bl (decide (j<i))):=DX λ_ _ _ _ _ _ _ q=>gt_int q
def LY:fw X (compareOp .GtE) (ET λi j=>.bl (decide (j<=i))):=DX λ_ _ _ _ _ _ _ q=>ge_int q
def Iw:fw X (compareOp .Is) (λx y H Q=>y=.aC/\Q (.bl (decide (x=.aC))) H):=by
 intro aa s σ H x y v u Q I rx ry h;obtain⟨rfl,q⟩:=h
 cases ry;refine is_none_gen (pJ I q ?_);cases x<;>first
  |(cases rx;rfl)
  |(obtain⟨t,rfl⟩:=rx;rfl)
def Dv:fw X (compareOp .IsNot) (λx y H Q=>y=.aC/\Q (.bl (!decide (x=.aC))) H):=by
 intro aa s σ H x y v u Q I rx ry h;obtain⟨rfl,q⟩:=h
 cases ry;refine isnot_none_gen (pJ I q ?_);cases x<;>first
  |(cases rx;rfl)
  |(obtain⟨t,rfl⟩:=rx;rfl)
def P1(b:Expr){op:CmpOp}(h:op≠.In:=by decide)(h2:op≠.NotIn:=by decide):behindInMarks op b=false:=by
 have e1:(op==CmpOp.In)=false:=by cases op<;>first|rfl|exact absurd rfl h
 have e2:(op==CmpOp.NotIn)=false:=by cases op<;>first|rfl|exact absurd rfl h2
 cases b<;>simp [behindInMarks,e1,e2]
def Bg{op:CmpOp}{r:R2}(ho:fw X (compareOp op) r)(ha:PE X a ta)(hb:PE X b tb)(hm:behindInMarks op b=false):PE X (.Compare a [op] [b] pos) (L1 r ta tb):=by
 intro aa s σ H Q I h;exact wpAny_Compare1 (Fd ha hb I h λv u s2 x y H2 I2 rx ry q=>ho aa s2 σ H2 x y v u Q I2 rx ry q) hm
def xH(t:TE):TT:=λσ H Q=>t σ H λx H'=>∃k,x=.bl k/\Q k H'
def C9{op:CmpOp}{r:R2}(ho:fw X (compareOp op) r)(ha:PE X a ta)(hb:PE X b tb)(hm:behindInMarks op b=false):PT X (.Compare a [op] [b] pos) (xH (L1 r ta tb)):=by
 intro aa s σ H Q I h;refine wpAny_isTrue_Compare1 (bD (ha aa s σ H _ I h) λv s1 ⟨x,H1,I1,r1,q1⟩=>bD (hb aa s1 σ H1 _ I1 q1) λu s2 ⟨y,H2,I2,r2,q2⟩=>
  bD (ho aa s2 σ H2 x y v u _ I2 r1 r2 q2) λc s3 ⟨z,H3,I3,r3,k,e,q3⟩=>?_) hm
 subst e;cases r3;exact wpAny_truthy_bool ⟨H3,I3,q3⟩
noncomputable def rW(r r':R2)(ta tb tc:TE):TE:=λσ H Q=>ta σ H λx H1=>tb σ H1 λy H2=>r x y H2 λz H3=>∃k,z=.bl k/\
 (if k=true then tc σ H3 λw' H4=>r' y w' H4 Q else Q (.bl false) H3)
def zO{op GX:CmpOp}{r r':R2}(ho:fw X (compareOp op) r)(jq:fw X (compareOp GX) r')(ha:PE X a ta)(hb:PE X b tb)(hc:PE X c tc)
 (hm:lastMarks [op,GX] [b,c]=false:=by with_unfolding_all rfl):PE X (.Compare a [op,GX] [b,c] pos) (rW r r' ta tb tc):=by
 intro aa s σ H Q I h;refine Compare_chain (bD (ha aa s σ H _ I h) λv s1 ⟨x,H1,I1,r1,q1⟩=>chain_link (bD (hb aa s1 σ H1 _ I1 q1) λu s2 ⟨y,H2,I2,r2,q2⟩=>
  bD (ho aa s2 σ H2 x y v u _ I2 r1 r2 q2) λd s3 ⟨z,H3,I3,r3,k,e,q3⟩=>?_)) hm
 subst e;cases r3;refine wpAny_truthy_bool ?_;cases k with
 |false=>exact ite_ff ⟨.bl false,H3,I3,rfl,q3⟩
 |true=>exact ite_tt (chain_last (bD (hc aa s3 σ H3 _ I3 q3) λw' s4 ⟨z',H4,I4,r4,q4⟩=>jq aa s4 σ H4 y z' u w' Q I4 r2 r4 q4))
def AE{op GX:CmpOp}{r r':R2}(ho:fw X (compareOp op) r)(jq:fw X (compareOp GX) r')(ha:PE X a ta)(hb:PE X b tb)(hc:PE X c tc)
 (hm:lastMarks [op,GX] [b,c]=false:=by with_unfolding_all rfl):PT X (.Compare a [op,GX] [b,c] pos) (xH (rW r r' ta tb tc)):=by
 intro aa s σ H Q I h;refine isTrue_chain (bD (ha aa s σ H _ I h) λv s1 ⟨x,H1,I1,r1,q1⟩=>test_link (bD (hb aa s1 σ H1 _ I1 q1) λu s2 ⟨y,H2,I2,r2,q2⟩=>
  bD (ho aa s2 σ H2 x y v u _ I2 r1 r2 q2) λd s3 ⟨z,H3,I3,r3,k,e,q3⟩=>?_)) hm
 subst e;cases r3;refine wpAny_truthy_bool ?_;cases k with
 |false=>
  obtain⟨k',e',q'⟩:=q3
  cases e';exact ite_ff ⟨H3,I3,q'⟩
 |true=>
  refine ite_tt (test_last (bD (hc aa s3 σ H3 _ I3 q3) λw' s4 ⟨z',H4,I4,r4,q4⟩=>bD (jq aa s4 σ H4 y z' u w' _ I4 r2 r4 q4) λd' s5 ⟨z2,H5,I5,r5,k2,e2,q5⟩=>?_))
  subst e2;cases r5;exact wpAny_truthy_bool ⟨H5,I5,q5⟩
def Me(K:zz8)(x:V)(H:Hp)(k:Bool):Prop:=
 match x with
 |.aC=>k=false
 |.bl b=>k=b
 |.int i=>k=(i !=0)
 |.str y=>y.length<=sizeLine/\k=((y.length:Int) !=0)
 |.K6 y=>y.size<=sizeLine/\k=((y.size:Int) !=0)
 |.ref p=>(∃xs,dz K H p xs/\k=!xs.isEmpty)\/(∃xs,eE K H p xs/\k=!xs.isEmpty)\/∃aA,H p=some (.dK aA)/\k=!aA.isEmpty
 |_=>False
def ub{κ:Type}{aA:List (κ×V)}{vs:List (κ×Value)}(r:KV aA vs):(!vs.isEmpty)=!aA.isEmpty:=by
 cases r<;>rfl
def j9{xs:List V}{ak:List Value}(r:Vals xs ak):(!ak.toArray.isEmpty)=!xs.isEmpty:=by
 cases r<;>simp
def iF:(sizeLine:Nat)<2^63:=by rw [sizeLine_eq];decide
def HE:Nf X (λx H Q=>∃k,Me X.K x H k/\Q k H):=by
 intro aa s σ H x v Q I rx h;obtain⟨k,e,q⟩:=h
 have hl:=iF
 have hs:sizeLine=16777216:=sizeLine_eq
 cases x with
 |aC=>
  cases rx;have e':k=false:=e
  subst e';exact truthy_none ⟨H,I,q⟩
 |bl b=>
  cases rx;have e':k=b:=e
  subst e';exact wpAny_truthy_bool ⟨H,I,q⟩
 |int i=>
  obtain⟨t,rfl⟩:=rx
  have e':k=(i !=0):=e
  subst e';exact PySem.P.truthy_int ⟨H,I,q⟩
 |str y=>
  obtain⟨t,rfl⟩:=rx
  obtain⟨hy,e'⟩:y.length<=sizeLine/\k=((y.length:Int) !=0):=e
  subst e';exact PySem.P.truthy_str (by omega) ⟨H,I.tok _,q⟩
 |K6 y=>
  obtain⟨t,rfl⟩:=rx
  obtain⟨hy,e'⟩:y.size<=sizeLine/\k=((y.size:Int) !=0):=e
  subst e';exact PySem.W.truthy_bytes (by omega) ⟨H,I.tok _,q⟩
 |ref p=>
  cases rx;have e':(∃xs,dz X.K H p xs/\k=!xs.isEmpty)\/(∃xs,eE X.K H p xs/\k=!xs.isEmpty)\/∃aA,H p=some (.dK aA)/\k=!aA.isEmpty:=e
  rcases e' with⟨xs,hx,e'⟩|⟨xs,hx,e'⟩|⟨aA,hx,e'⟩
  ·subst e';obtain⟨ak,r,pl,hz⟩:=I.list hx
   have hlen:=r.length
   exact wpAny_truthy_list pl.isList (by simp! [zzC];omega) ⟨H,I.tok _,by rw [j9 r];exact q⟩
  ·subst e';obtain⟨ak,r,pl,hz⟩:=I.tuple hx
   have hlen:=r.length
   exact truthy_tuple pl (by simp! [zzC];omega) ⟨H,I.tok _,by rw [j9 r];exact q⟩
  ·subst e';obtain⟨hz,hS,vs,r,m⟩:aA.length<=sizeLine/\(p==sysModules)=false/\∃vs,KV aA vs/\s.heap.DictOf (bB X.prog X.w) p vs:=I.bu p _ hx
   have hlen:aA.length=vs.length:=Paired.length r
   exact wpAny_truthy_dict hS m (by omega) ⟨H,I.tok _,by rw [ub r];exact q⟩
 |_=>exact(show False from e).elim
def sO:fw X (binaryOp .Add) (λx y H Q=>∃i j,x=.str i/\y=.str j/\i.length+j.length<=sizeLine/\Q (.str (i++j)) H):=by
 intro aa s σ H x y v u Q I rx ry h;obtain⟨i,j,rfl,rfl,hz,q⟩:=h
 obtain⟨t,rfl⟩:=rx
 obtain⟨t',rfl⟩:=ry
 exact add_str (λt' tk=>⟨.str (i++j),H,I.tok _,⟨_,rfl⟩,q⟩) hz
def vals1{x:V}{us:List Value}(r:Vals [x] us):∃u,us=[u]/\RelV x u:=by
 cases r with
 |cons r1 r2=>cases r2;exact⟨_,rfl,r1⟩
def vals2{x y:V}{us:List Value}(r:Vals [x,y] us):∃u w',us=[u,w']/\RelV x u/\RelV y w':=by
 cases r with
 |cons r1 r2=>
  cases r2 with
  |cons r3 r4=>cases r4;exact⟨_,_,rfl,r1,r3⟩
def zg:bR X (.builtin "abs") (λxs H Q=>∃i,xs=[.int i]/\Q (.int (if i<0 then -i else i)) H):=by
 intro aa s σ H xs us Q I r h;obtain⟨i,rfl,q⟩:=h
 obtain⟨u,rfl,t,rfl⟩:=vals1 r
 exact call_abs_int λu tk=>⟨.int (if i<0 then -i else i),H,I.tok _,⟨_,rfl⟩,q⟩
def vI(hc:X.calm=true):bR X (.builtin "max") (λxs H Q=>∃i j,xs=[.int i,.int j]/\Q (.int (if j>i then j else i)) H):=by
 intro aa s σ H xs us Q I r h;obtain⟨i,j,rfl,q⟩:=h
 obtain⟨u,w',rfl,⟨t,rfl⟩,⟨t',rfl⟩⟩:=vals2 r
 refine max_two_ints (I.ok.hd hc) λh' tk k=>⟨_,H,I.kept k,?_,q⟩
 by_cases hj:j>i
 ·rw [if_pos hj,if_pos hj];exact⟨_,rfl⟩
 ·rw [if_neg hj,if_neg hj];exact⟨_,rfl⟩
def vN(hc:X.calm=true):bR X (.builtin "min") (λxs H Q=>∃i j,xs=[.int i,.int j]/\Q (.int (if j<i then j else i)) H):=by
 intro aa s σ H xs us Q I r h;obtain⟨i,j,rfl,q⟩:=h
 obtain⟨u,w',rfl,⟨t,rfl⟩,⟨t',rfl⟩⟩:=vals2 r
 refine min_two_ints (I.ok.hd hc) λh' tk k=>⟨_,H,I.kept k,?_,q⟩
 by_cases hj:j<i
 ·rw [if_pos hj,if_pos hj];exact⟨_,rfl⟩
 ·rw [if_neg hj,if_neg hj];exact⟨_,rfl⟩
def oA:bR X (.type "str") (λxs H Q=>∃i,xs=[.int i]/\i.natAbs.log2<1920/\Q (.str (toString i)) H):=by
 intro aa s σ H xs us Q I r h;obtain⟨i,rfl,hz,q⟩:=h
 obtain⟨u,rfl,t,rfl⟩:=vals1 r
 exact PySem.P.str_of_int hz ⟨.str _,H,I.tok _,⟨_,rfl⟩,q⟩
end
def j4.some_of{v:V}{o:Option Value}(r:j4 (some v) o):∃u,o=some u/\RelV v u:=by
 cases o with
 |none=>exact(show False from r).elim
 |some u=>exact⟨u,rfl,r⟩
structure eJ(k:Nat)(A:Around):Prop where
 hd:A.handled=none
 dp:A.depth+3*k+5<recursionLimit
 un:A.units+16*k+200<cLine
theorem eJ.mono{j k:Nat}{A:Around}(r:eJ k A)(h:j<=k):eJ j A:=⟨r.hd,by have:=r.dp;omega,by have:=r.un;omega⟩
theorem eJ.deeper{k:Nat}{A:Around}(r:eJ (k+1) A)(env:Env):eJ k (A.deeper env):=
 ⟨r.hd,by have:=r.dp;show A.depth+1+3*k+5<_;omega,by have:=r.un;show A.units+3+16*k+200<_;omega⟩
def eJ.depth{k:Nat}{A:Around}(r:eJ k A):A.depth<recursionLimit:=by have:=r.dp;omega
def eJ.units{k:Nat}{A:Around}(r:eJ k A):A.units+64<cLine:=by have:=r.un;omega
def O0:TA:=λ_ H Q=>Q [] H
def LU(ta:TE)(tr:TA):TA:=λσ H Q=>ta σ H λx H1=>tr σ H1 λxs H2=>Q (x::xs) H2
section
variable{X:Cx}{e:Expr}{es:List Expr}{te:TE}{t:TA}{pos:Pos}
def c8:PA X [] O0:=λ_ _ _ _ H Q I h=>Calls.spliced_nil ⟨[],H,I,.nil,h⟩
theorem bS(ha:PE X e te)(hr:PA X es t)(hs:starEach (e::es) X.env=(false,eval e X.env)::starEach es X.env:=by rfl):PA X (e::es) (LU te t):=by
 intro pos aa s σ H Q I h;rw [hs];show wpAny _ _ (spliced ((false,eval e X.env)::backTo pos (starEach es X.env))) _ _ s;refine Calls.spliced_cons (bD (ha aa s σ H _ I h) λu s1 ⟨x,H1,I1,r1,q1⟩=>?_)
 exact bD (hr pos aa s1 σ H1 _ I1 q1) λus s2 ⟨xs,H2,I2,r2,q2⟩=>⟨x::xs,H2,I2,.cons r1 r2,q2⟩
def Pp(t:TA):TE:=λσ H Q=>t σ H λxs H1=>xs.length<=sizeLine/\∀p,H1 p=none->Q (.ref p) (upd H1 p (.tup xs))
def OM(t:TA):TE:=λσ H Q=>t σ H λxs H1=>xs.length<=sizeLine/\∀p,H1 p=none->Q (.ref p) (upd H1 p (.lst xs))
def IB{x1}(h:PA X es t):PE X (.Tuple es x1 pos) (Pp t):=by
 intro aa s σ H Q I hq;refine wpAny_Tuple_spliced (bD (h pos aa s σ H _ I hq) λus s1 ⟨xs,H1,I1,r,z,q⟩=>⟨by rw [<-r.length];exact z,?_⟩)
 have hf:H1 (zz9 s1)=none:=I1.bu.fresh (zzE _)
 refine⟨.ref (zz9 s1),upd H1 (zz9 s1) (.tup xs),I1.laid (t':=s1.toks) (λb u e=>zzB _ e) (zzE _) ?_,rfl,q _ hf⟩;exact⟨z,us,r,⟨_,zzX _ rfl,rfl,_,rfl⟩⟩
def IH(h:PA X es t):PE X (.List es pos) (OM t):=by
 intro aa s σ H Q I hq;refine wpAny_List_spliced (bD (h pos aa s σ H _ I hq) λus s1 ⟨xs,H1,I1,r,z,q⟩=>⟨by rw [<-r.length];exact z,?_⟩)
 have hf:H1 (zz9 s1)=none:=I1.bu.fresh (zzE _)
 refine⟨.ref (zz9 s1),upd H1 (zz9 s1) (.lst xs),I1.laid (t':=s1.toks) (λb u e=>zzB _ e) (zzE _) ?_,rfl,q _ hf⟩;exact⟨z,us,0,r,zzX _ rfl⟩
end
abbrev Sp:=List V->Hp->VK->XK->Prop
abbrev w6:=List Env->Hp->Shared->XK->Value->Shared->Prop
structure CZ(P:Program)(w:World)(K:zz8)(mg:Str->Option Value)(base:Heap)(A:Around)(outer:List Env)(s:Shared)(H:Hp):Prop where
 frames:A.frames=some outer
 mod:Mod K mg base
 bs:∀b o,base.get? b=some o->s.heap.get? b=some o/\H b=none
 Eo:base.objs.size<=(zz9 s)
 mM:s.heap.FunFrames base outer
 HK:∀b∈iE outer,H b=none
 bu:gG P w H s.heap
 bare:AllBare s.gens
def CE(outer:List Env)(P:Program)(w:World)(H:Hp)(s:Shared)(Q:VK)(u:Value)(s':Shared):Prop:=
 ∃v H',s'.os=s.os/\AllBare s'.gens/\Un (iE outer) [] H H' s.heap s'.heap/\gG P w H' s'.heap/\RelV v u/\Q v H'
def CR(CX:w6)(outer:List Env)(P:Program)(w:World)(H:Hp)(s:Shared)(Q:VK)(E:XK)(r:Result)(s':Shared):Prop:=
 match r with
 |.ok (.ret u)=>CE outer P w H s Q u s'
 |.ok _=>False
 |.error e=>CX outer H s E e s'
structure f9(P:Program)(w:World)(K:zz8)(mg:Str->Option Value)(base:Heap)(CX:w6)(k:Nat)(f:Addr)(fd:FuncData)(ps:List Str)(sp:Sp):Prop where
 len:∀vs H Q E,sp vs H Q E->vs.length=ps.length
 run:∀(A:Around) (outer:List Env) (s:Shared) (H:Hp) (args:Args) (us:List Value) (vs:List V) (Q:VK) (E:XK),eJ k A->CZ P w K mg base A outer s H->BindsTo s fd args (ps.zip us)->Vals vs us->sp vs H Q E->
  codeAny (model P w) A (.call (.ref f) args) (CR CX outer P w H s Q E) s
def f9.mono{P:Program}{w:World}{K:zz8}{mg:Str->Option Value}{base:Heap}{CX:w6}{j k:Nat}{f:Addr}{fd:FuncData}{ps:List Str}{sp:Sp}(F:f9 P w K mg base CX j f fd ps sp)(h:j<=k):
 f9 P w K mg base CX k f fd ps sp:=⟨F.len,λA outer s H args us vs Q E hr=>F.run A outer s H args us vs Q E (hr.mono h)⟩
def f9.imp{P:Program}{w:World}{K:zz8}{mg:Str->Option Value}{base:Heap}{CX:w6}{k:Nat}{f:Addr}{fd:FuncData}{ps:List Str}{sp Qr:Sp}(F:f9 P w K mg base CX k f fd ps sp)
 (h:∀vs H Q E,Qr vs H Q E->sp vs H Q E):f9 P w K mg base CX k f fd ps Qr:=
 ⟨λvs H Q E q=>F.len vs H Q E (h _ _ _ _ q),λA outer s H args us vs Q E hr he hb hv hs=>F.run A outer s H args us vs Q E hr he hb hv (h _ _ _ _ hs)⟩
section
variable{X:Cx}{aa:List (Addr×Obj)}{σ:St}{H:Hp}{s s':Shared}
def Inv.Ho(I:Inv X aa σ H s):CZ X.prog X.w X.K X.mg X.base X.A X.stack s H:=
 ⟨I.ok.frames,I.ok.mod,I.bs,zzU I.ok.Eo I.sz,I.stack,I.n6,I.bu,I.bare⟩
def Inv.after{Q:VK}{u:Value}(I:Inv X aa σ H s)(h:CE X.stack X.prog X.w H s Q u s'):EP X aa σ Q u s':=by
 obtain⟨v,H',os,bare,un,bu,r,q⟩:=h
 obtain⟨hh,g,d,t,os'⟩:=s'
 obtain rfl:os'=s.os:=os
 exact⟨v,H',I.call (h':=hh) (g':=g) (d':=d) (t':=t) (ch:=[]) un bu bare (λb z=>absurd z (by simp)),r,q⟩
end
def Binds(K:zz8)(fd:FuncData)(ps:List Str)(ds:List Value):Prop:=
 ∀(s:Shared) (us:List Value),K.In s.heap->(us++ds).length=ps.length->BindsTo s fd ⟨us,[]⟩ (ps.zip (us++ds))
def Binds.all{K:zz8}{fd:FuncData}{ps:List Str}(h:∀us:List Value,us.length=ps.length->bindArgs fd ⟨us,[]⟩=pure (ps.zip us)):Binds K fd ps []:=λs us _ hl=>by
 rw [zz6] at hl⊢;exact .of_eq (h us hl)
def Passes(CX:w6)(X:Cx)(E:XK):Prop:=∀(aa:List (Addr×Obj)) (σ:St) (H:Hp) (s:Shared) (e:Value) (s':Shared),Inv X aa σ H s->CX X.stack H s E e s'->X.xe e s'
structure jw(N P:List Str)(sc:Scope):Prop where
 kind:sc.kind=.function
 co:sc.isCoroutine=false
 gen:sc.isGenerator=false
 nd:N.Nodup
 pre:N.take P.length=P
 par:∀x∈P,sc.names.lookup x=some .local\/sc.names.lookup x=some .cell
 FX:∀y∈sc.names,y.2≠.free
theorem nj{kindOf:Str->Option NameKind}{x:Str}:∀{binds:List (Str×Value)} {m:Str->Option Value},(∀v,(x,v)∉binds)->bindL kindOf binds m x=m x
 |[],_,_=>rfl
 |(n,v)::r,m,h=>by
  unfold bindL;rw [nj λw hw=>h w (zzI _ hw)]
  split
  ·have:x≠n:=by rintro rfl;exact h v zzP
   simp [this]
  ·rfl
theorem nT{kindOf:Str->Option NameKind}{x:Str}:∀{binds:List (Str×Value)} {m:Str->Option Value},(∀v,(x,v)∉binds)->bindC kindOf binds m x=m x
 |[],_,_=>rfl
 |(n,v)::r,m,h=>by
  unfold bindC;rw [nT λw hw=>h w (zzI _ hw)]
  split
  ·rfl
  ·have:x≠n:=by rintro rfl;exact h v zzP
   simp [this]
theorem nY{kindOf:Str->Option NameKind}{x:Str}{v:Value}:∀{P:List Str} {vs:List Value} {i:Nat} {m:Str->Option Value},P.Nodup->P[i]?=some x->vs[i]?=some v->kindOf x=some .local->
 bindL kindOf (P.zip vs) m x=some v
 |[],_,_,_,_,h,_,_=>by simp at h
 |_::_,[],_,_,_,_,h,_=>by simp at h
 |p::P,w::vs,0,m,nd,h1,h2,hk=>by
  simp at h1 h2;subst h1;subst h2;show bindL kindOf ((p,w)::P.zip vs) m p=_
  unfold bindL;rw [nj λv hv=>(List.nodup_cons.mp nd).1 (List.of_mem_zip hv).1,if_pos hk]
  simp
 |p::P,w::vs,i+1,m,nd,h1,h2,hk=>by
  show bindL kindOf ((p,w)::P.zip vs) m x=_
  unfold bindL;exact nY (i:=i) (List.nodup_cons.mp nd).2 (by simpa using h1) (by simpa using h2) hk
theorem nZ{kindOf:Str->Option NameKind}{x:Str}{v:Value}:∀{P:List Str} {vs:List Value} {i:Nat} {m:Str->Option Value},P.Nodup->P[i]?=some x->vs[i]?=some v->kindOf x≠some .local->
 bindC kindOf (P.zip vs) m x=some v
 |[],_,_,_,_,h,_,_=>by simp at h
 |_::_,[],_,_,_,_,h,_=>by simp at h
 |p::P,w::vs,0,m,nd,h1,h2,hk=>by
  simp at h1 h2;subst h1;subst h2;show bindC kindOf ((p,w)::P.zip vs) m p=_
  unfold bindC;rw [nT λv hv=>(List.nodup_cons.mp nd).1 (List.of_mem_zip hv).1,if_neg hk]
  simp
 |p::P,w::vs,i+1,m,nd,h1,h2,hk=>by
  show bindC kindOf ((p,w)::P.zip vs) m x=_
  unfold bindC;exact nZ (i:=i) (List.nodup_cons.mp nd).2 (by simpa using h1) (by simpa using h2) hk
def start(N:List Str)(vs:List V):St:=vs.map some++List.replicate (N.length-vs.length) none
noncomputable def dE(CX:w6)(P:Program)(w:World)(K:zz8)(mg:Str->Option Value)(base:Heap)(N:List Str)(qual:Str)(scope:Scope)(f:Addr)(cd:Value)(A:Around)(outer:List Env)(s:Shared)(H:Hp)(E:XK):Cx where
 prog:=P
 w:=w
 K:=K
 mg:=mg
 base:=base
 A:=A.deeper (envOfC qual scope (zz9 s) f cd)
 N:=N
 s₀:=s
 H₀:=H
 env:=envOfC qual scope (zz9 s) f cd
 outer:=outer
 stack:=envOfC qual scope (zz9 s) f cd::outer
 ex:=[]
 calm:=true
 fn:=λ_=>true
 pn:=[]
 xe:=λe s'=>wpAny (model P w) (A.deeper (envOfC qual scope (zz9 s) f cd)) (leaving (envOfC qual scope (zz9 s) f cd) e) (λ_ O9=>CX outer H s E e O9) (λe' O9=>CX outer H s E e' O9) s'
def qZ{sc:Scope}{n:Nat}{x:Str}(h:sc.names.lookup x=some .cell):∃c,(cellsFrom n sc.names []).lookup x=some c:=by
 have q:=PySem.W.cellsFrom_some sc.names n [] (.inl h)
 exact zzp.mp q
def wW{CX:w6}{P:Program}{w:World}{K:zz8}{mg:Str->Option Value}{base:Heap}{N ps:List Str}{qual:Str}{scope:Scope}{f:Addr}{cd:Value}{A:Around}{outer:List Env}{s s1:Shared}{H:Hp}{E:XK}{us:List Value}{vs:List V}
 (S:jw N ps scope) (hd:A.handled=none) (e0:CZ P w K mg base A outer s H) (hl:vs.length=ps.length) (r:Vals vs us)
 (x:InCallC s (zz9 s) (bindL (envOfC qual scope (zz9 s) f cd).kindOf (ps.zip us) λ_=>none) (cellsFrom ((zz9 s)+1) scope.names []) (bindC (envOfC qual scope (zz9 s) f cd).kindOf (ps.zip us) λ_=>none) s1):
 Inv (dE CX P w K mg base N qual scope f cd A outer s H E) [] (start N vs) H s1:=by
 have hpl:ps.length<=N.length:=by have:=congrArg List.length S.pre;rw [List.length_take] at this;omega
 obtain⟨h1,tk,rfl,hk⟩:=x.done
 have LN:∀b:Addr,b∉(dE CX P w K mg base N qual scope f cd A outer s H E).ex:=λb z=>absurd (show b∈([]:List Addr) from z) (by simp)
 refine⟨⟨e0.mod,S.kind,rfl,rfl,zzE _,λy z c h1 h2=>?_,λy hy=>?_,λy c _ h=>?_,λ_=>hd,Around.frames_deeper e0.frames,.inr ⟨rfl,rfl⟩,λb z=>absurd z (LN b),e0.bs,e0.Eo,λb _ _=>LN b,λb z=>absurd z (LN b),e0.mM,e0.HK⟩,
  rfl,e0.bare,Un.kept hk,⟨_,x.toInCall.ns,λi y v h1 h2 h3=>?_⟩,λy c h=>⟨_,x.cell y c h⟩,e0.bu.fresh (zzE _),λy c h=>?_,λp hp=>absurd (show p∈([]:List (Addr×Obj)) from hp) (by simp),e0.bu.kept hk,?_⟩
 ·exact name_of_addr x.apart (PySem.mem_of_lookup h1) (PySem.mem_of_lookup h2)
 ·have hy:scope.names.lookup y=some .cell\/scope.names.lookup y=some .free:=hy
  rcases hy with hy|hy
  ·exact qZ hy
  ·exact absurd rfl (S.FX _ (PySem.mem_of_lookup hy))
 ·exact Nat.le_of_lt (x.above y c (PySem.mem_of_lookup h))
 ·have hi:i<vs.length:=by
   unfold start at h2
   by_cases hi:i<vs.length
   ·exact hi
   ·rw [zzs (by simpa using hi)] at h2;rw [List.getElem?_replicate] at h2;split at h2<;>cases h2
  have ha:vs[i]?=some v:=by
   unfold start at h2;rw [zzr (by simpa using hi),zzQ] at h2;cases e:vs[i]? with
   |none=>rw [e] at h2;cases h2
   |some a=>rw [e] at h2;cases h2;rfl
  obtain⟨u,hu,rv⟩:=r.get ha
  have hp:ps[i]?=some y:=by
   rw [<-S.pre,List.getElem?_take_of_lt (by omega)];exact h1
  have Rp:ps.Nodup:=by rw [<-S.pre];exact S.nd.sublist (List.take_sublist _ _)
  refine⟨u,rv,?_⟩;rcases S.par y (zzD hp) with k|k
  ·exact .inl ⟨k,nY Rp hp hu k⟩
  ·obtain⟨c,e⟩:=qZ (n:=(zz9 s)+1) k
   refine .inr ⟨.inl k,c,e,?_⟩;have q:=x.cell y c e
   rw [nZ Rp hp hu (by show scope.names.lookup y≠_;rw [k];decide)] at q;exact q
 ·exact e0.bu.fresh (Nat.le_of_lt (x.above y c (PySem.mem_of_lookup h)))
 ·unfold start;show _=N.length
  rw [zzM,zzl,List.length_replicate];omega
def Md{CX:w6}{P:Program}{w:World}{K:zz8}{mg:Str->Option Value}{base:Heap}{k:Nat}{f:Addr}{name qual:Str}{params:Arguments}{body:List Stmt}{scope:Scope}{dV kV doc pm fy ct oc:Value}{an od:Option Addr}
 {tD:Array (Option Value)} {N ps:List Str} {sp:Sp} (lk:K.lookup f=some ⟨oc,od,.func (PySem.W.fnOf name qual params body scope dV kV doc pm an fy ct),tD⟩) (yz:PySem.W.codeIn K fy qual=true) (S:jw N ps scope)
 (len:∀vs H Q E,sp vs H Q E->vs.length=ps.length)
 (JL:∀(A:Around) (outer:List Env) (s:Shared) (H:Hp) (vs:List V) (Q:VK) (E:XK),eJ k (A.deeper (envOfC qual scope (zz9 s) f fy))->sp vs H Q E->
  ∃t,uN (dE CX P w K mg base N qual scope f fy A outer s H E) body t/\t {nx:=λ_ H'=>Q .aC H',rt:=Q} (start N vs) H):
 f9 P w K mg base CX (k+1) f (PySem.W.fnOf name qual params body scope dV kV doc pm an fy ct) ps sp:=by
 refine⟨len,λA outer s H args us vs Q E hr e0 hb r Eu=>?_⟩
 have hl:=len _ _ _ _ Eu
 have KX:K.In s.heap:=e0.mod.Mp.keeps λb o e=>(e0.bs b o e).1
 have lim:s.heap.NoLimit:=e0.mod.nolimit.keeps λb o e=>(e0.bs b o e).1
 have J9:∀y∈ps.zip us,scope.names.lookup y.1=some .local\/(scope.names.lookup y.1=some .cell/\((cellsFrom ((zz9 s)+1) scope.names []).lookup y.1).isSome=true):=λ⟨n,v⟩ hy=>by
  rcases S.par n (List.of_mem_zip hy).1 with q|q
  ·exact .inl q
  ·exact .inr ⟨q,PySem.W.cellsFrom_some _ _ _ (.inl q)⟩
 refine codeAny_call_function hr.depth (KX _ _ lk) rfl S.co S.gen rfl (PySem.W.codeRec_of KX yz) (hb _ _ _ _ ?_);refine wpAny_newFunctionEnv_cells S.kind J9 λenv he s1 x=>?_
 subst he;refine⟨lim.keeps x.toInCall.keep,codeAny_func ?_⟩;obtain⟨t,ht,hq⟩:=JL A outer s H vs Q E (hr.deeper _) Eu
 have I:Inv (dE CX P w K mg base N qual scope f fy A outer s H E) [] (start N vs) H s1:=wW S hr.hd e0 hl r x
 refine wpAny_mono (ht [] s1 (start N vs) H _ I hq) (λfl s' hs=>?_) λe s' hs=>hs
 have fin:∀{σ':St} {H':Hp} {v:V} {u:Value},Inv (dE CX P w K mg base N qual scope f fy A outer s H E) [] σ' H' s'->RelV v u->Q v H'->CE outer P w H s Q u s':=
  λ{σ' H' v u} J rv q=>⟨v,H',J.os,J.bare,J.base,J.bu,rv,q⟩
 cases fl with
 |ret u=>
  obtain⟨v,σ',H',J,rv,q⟩:=hs
  exact fin J rv q
 |next=>
  obtain⟨σ',H',J,q⟩:=hs
  exact fin (v:=V.aC) (u:=Value.none) J rfl q
 |brk=>
  obtain⟨_,_,_,q⟩:=hs
  exact zzk q
 |cont=>
  obtain⟨_,_,_,q⟩:=hs
  exact zzk q
section
variable{X:Cx}{x:Str}{p pos:Pos}{e:Expr}{es:List Expr}{t:TA}{id T:String}{r:List V->Hp->VK->Prop}
def M4(r:List V->Hp->VK->Prop)(t:TA):TE:=λσ H Q=>t σ H λvs H1=>r vs H1 Q
def dS(hc:bR X (.builtin id) r)(hg:Gl X x)(hm:X.mg x=none)(hv:bootBuiltins x=some (.builtin id))(ha:PA X (e::es) t)(hn:x≠"__name__":=by decide)(Nu:(x==("__debug__":Str))=false:=by decide)
 (he:starEach (e::es) X.env=(false,eval e X.env)::starEach es X.env:=by rfl) (hpl:(backTo pos (starEach es X.env)).any (·.1)=false:=by rfl):PE X (.Call (.Name x p) (e::es) [] pos) (M4 r t):=by
 intro aa s σ H Q I h;refine wpAny_Call_Name_kw (dq I hg hm hv ?_ hn Nu);exact PyProof.Rows.callWith_builtin1 (bD (ha pos aa s σ H _ I h) λus s1 ⟨vs,H1,I1,r1,q1⟩=>hc aa s1 σ H1 vs us Q I1 r1 q1) he hpl
def dJ(hc:bR X (.type T) r)(hg:Gl X x)(hm:X.mg x=none)(hv:bootBuiltins x=some (.type T))(ha:PA X (e::es) t)(hn:x≠"__name__":=by decide)(Nu:(x==("__debug__":Str))=false:=by decide)
 (he:starEach (e::es) X.env=(false,eval e X.env)::starEach es X.env:=by rfl) (hpl:(backTo pos (starEach es X.env)).any (·.1)=false:=by rfl):PE X (.Call (.Name x p) (e::es) [] pos) (M4 r t):=by
 intro aa s σ H Q I h;refine wpAny_Call_Name_kw (dq I hg hm hv ?_ hn Nu);exact PyProof.Rows.callWith_type1 (bD (ha pos aa s σ H _ I h) λus s1 ⟨vs,H1,I1,r1,q1⟩=>hc aa s1 σ H1 vs us Q I1 r1 q1) he hpl
end
end L2
namespace HT
open PySem PyProof.Rows
def lexLt:List Int->List Int->Bool
 |[],[]=>false
 |[],_::_=>true
 |_::_,[]=>false
 |x::xs,y::ys=>if x=y then lexLt xs ys else decide (x<y)
section
variable{prog:Program}{w:World}{A:Around}{E:Value->Shared->Prop}{s:Shared}
def nE(n d:Nat):Option Int->Nat
 |none=>d
 |some v=>if v<0 then(v+(n:Int)).toNat else min v.toNat n
theorem xK(n d:Nat):nE n d none=d:=rfl
def C4(n d k:Nat):nE n d (some (k:Int))=min k n:=by
 show(if(k:Int)<0 then((k:Int)+(n:Int)).toNat else min (k:Int).toNat n)=min k n
 rw [if_neg (by omega),zz4]
def rX{v:Value}{o:Option Int}{Q:Option Int->Shared->Prop}(p:IsPart v o)(h:Q o s):wpAny (model prog w) A (Builtin.Slice.slicePartIndex v) Q E s:=by
 cases p with
 |none=>exact slicePart_none h
 |int i t=>exact slicePart_int h
end
end HT
namespace L2
open PySem PySem.Spec PyProof.Rows
abbrev TO:=St->Hp->(Option Int->Hp->Prop)->Prop
def PO(X:Cx)(e:Option Expr)(t:TO):Prop:=
 ∀(aa:List (Addr×Obj)) (s:Shared) (σ:St) (H:Hp) (Q:Option Int->Hp->Prop),Inv X aa σ H s->t σ H Q->
  wpAny (model X.prog X.w) X.A (evalPart e X.env) (λu s'=>∃o H',Inv X aa σ H' s'/\IsPart u o/\Q o H') X.xe s
def Dh:TO:=λ_ H Q=>Q none H
def L8(t:TE):TO:=λσ H Q=>t σ H λx H1=>∃i,x=.int i/\Q (some i) H1
section
variable{X:Cx}{e:Expr}{te:TE}{lo hi:Option Expr}{tl th:TO}{pos p2:Pos}
def Bp:PO X none Dh:=by
 intro aa s σ H Q I h;rw [evalPart_none];exact zzG ⟨none,H,I,.none,h⟩
def BE(h:PE X e te):PO X (some e) (L8 te):=by
 intro aa s σ H Q I hw;rw [evalPart_some];refine bD (h aa s σ H _ I hw) λu s1 ⟨x,H1,I1,r1,q1⟩=>?_
 obtain⟨i,rfl,q⟩:=q1
 obtain⟨t,rfl⟩:=r1
 exact⟨some i,H1,I1,.int i t,q⟩
def ER(X:Cx)(r:V->Option Int->Option Int->Hp->VK->Prop):Prop:=
 ∀(aa:List (Addr×Obj)) (s:Shared) (σ:St) (H:Hp) (x:V) (v vl vu:Value) (lo hi:Option Int) (sl:Addr) (Q:VK),Inv X aa σ H s->RelV x v->s.heap.IsSliceOf sl vl vu .none->IsPart vl lo->IsPart vu hi->r x lo hi H Q->
  ∃T id,typeLookup (.type T) "__getitem__"=pure (some (.builtin id))/\s.TypeIs v T/\wpAny (model X.prog X.w) X.A (getItem v (.ref sl)) (EP X aa σ Q) X.xe s
def Uo(r:V->Option Int->Option Int->Hp->VK->Prop)(te:TE)(tl th:TO):TE:=λσ H Q=>te σ H λx H1=>tl σ H1 λl H2=>th σ H2 λu H3=>r x l u H3 Q
def xN{r:V->Option Int->Option Int->Hp->VK->Prop}(hr:ER X r)(he:PE X e te)(hl:PO X lo tl)(hu:PO X hi th):PE X (.Subscript e (.Slice lo hi none p2) pos) (Uo r te tl th):=by
 intro aa s σ H Q I h;refine Subscript_ (bD (he aa s σ H _ I h) λv s1 ⟨x,H1,I1,r1,q1⟩=>?_)
 refine wpAny_Slice (bD (hl aa s1 σ H1 _ I1 q1) λvl s2 ⟨l,H2,I2,pl,q2⟩=>bD (hu aa s2 σ H2 _ I2 q2) λvu s3 ⟨u,H3,I3,pu,q3⟩=>?_)
 rw [evalPart_none];refine zzG ?_;have I4:Inv X aa σ H3 {s3 with heap:=s3.heap.push {cls:=.type "slice",data:=.fields #[vl,vu,.none]}}:=I3.kept (t':=s3.toks) λb ob q=>zzB _ q
 obtain⟨T,id,hT,ht,hg⟩:=hr aa {s3 with heap:=s3.heap.push {cls:=.type "slice",data:=.fields #[vl,vu,.none]}} σ H3 x v vl vu l u (zz9 s3) Q I4 r1 (Heap.IsSliceOf.new ..) pl pu q3
 show wpAny (model X.prog X.w) X.A (subscriptTail e (.Slice lo hi none p2) v (.ref (zz9 s3))) (EP X aa σ Q) X.xe {s3 with heap:=s3.heap.push {cls:=.type "slice",data:=.fields #[vl,vu,.none]}}
 exact tail_any (ops:=[.ref (zz9 s3),v]) ht hT hg (by with_unfolding_all rfl)
def vV(xs:List V)(lo hi:Option Int):List V:=(xs.drop (HT.nE xs.length 0 lo)).take (HT.nE xs.length xs.length hi-HT.nE xs.length 0 lo)
def qY(xs:List V)(lo hi:Option Int):(vV xs lo hi).length<=xs.length:=by
 unfold vV;rw [List.length_take,List.length_drop];omega
end
def Io(n:Nat)(i:Int):Option Nat:=if 0<=i then(if i<n then some i.toNat else none) else if -(n:Int)<=i then some (i+n).toNat else none
def qc{α:Type}(xs:List α)(i:Int):Option α:=(Io xs.length i).bind λj=>xs[j]?
def Cz{n:Nat}{i:Int}{j:Nat}(h:Io n i=some j):seqIndex? i n=some j/\j<n/\ -(n:Int)<=i/\i<n:=by
 unfold Io at h
 by_cases h0:0<=i
 ·rw [if_pos h0] at h
  by_cases h1:i<n
  ·rw [if_pos h1] at h;have e:i.toNat=j:=zzq h
   exact⟨by rw [seqIndex_of h0 h1,e],by omega,by omega,h1⟩
  ·rw [if_neg h1] at h;cases h
 ·rw [if_neg h0] at h
  by_cases h1: -(n:Int)<=i
  ·rw [if_pos h1] at h;have e:(i+n).toNat=j:=zzq h
   exact⟨by rw [seqIndex_neg (by omega) h1,e],by omega,h1,by omega⟩
  ·rw [if_neg h1] at h;cases h
def oX{α:Type}{xs:List α}{i:Int}{v:α}(h:qc xs i=some v):∃j,seqIndex? i xs.length=some j/\xs[j]?=some v/\j<xs.length/\ -(xs.length:Int)<=i/\i<xs.length:=by
 unfold qc at h;cases e:Io xs.length i with
 |none=>rw [e] at h;cases h
 |some j=>
  rw [e] at h;obtain⟨h1,h2,h3,h4⟩:=Cz e
  exact⟨j,h1,h,h2,h3,h4⟩
def oS(b:Expr):Prop:=∀o i,subscripted b false o i=operate [o,i] (getItem o i)
def Jw(X:Cx)(r:R2):Prop:=
 ∀(value slice:Expr) (aa:List (Addr×Obj)) (s:Shared) (σ:St) (H:Hp) (x y:V) (v u:Value) (Q:VK),Inv X aa σ H s->RelV x v->RelV y u->r x y H Q->
  subscripted slice false v u=operate [v,u] (getItem v u)->wpAny (model X.prog X.w) X.A (subscriptTail value slice v u) (EP X aa σ Q) X.xe s
def RT(X:Cx)(id:String)(r:V->List V->Hp->VK->Prop):Prop:=
 ∀(aa:List (Addr×Obj)) (s:Shared) (σ:St) (H:Hp) (x:V) (xs:List V) (v:Value) (us:List Value) (Q:VK),Inv X aa σ H s->RelV x v->Vals xs us->r x xs H Q->
  wpAny (model X.prog X.w) X.A (call (.builtin id) (v::us)) (EP X aa σ Q) X.xe s
section
variable{X:Cx}{a b:Expr}{ta tb:TE}{pos:Pos}
def K5{r:R2}(hr:Jw X r)(ha:PE X a ta)(hb:PE X b tb)(hs:oS b):PE X (.Subscript a b pos) (L1 r ta tb):=by
 intro aa s σ H Q I h;exact Subscript_ (Fd ha hb I h λv u s2 x y H2 I2 rx ry q=>hr a b aa s2 σ H2 x y v u Q I2 rx ry q (hs _ _))
noncomputable def Ou(K:zz8):R2:=λx y H Q=>∃p xs i v,x=.ref p/\y=.int i/\dz K H p xs/\qc xs i=some v/\Q v H
noncomputable def Pd(K:zz8):R2:=λx y H Q=>∃p xs i v,x=.ref p/\y=.int i/\eE K H p xs/\qc xs i=some v/\Q v H
noncomputable def NN:R2:=λx y H Q=>∃z i c,x=.str z/\y=.int i/\z.length<=sizeLine/\qc z.cps.toList i=some c/\Q (.str ⟨#[c]⟩) H
def Bf:Jw X (Ou X.K):=by
 intro value slice aa s σ H x y v u Q I rx ry h hs;obtain⟨p,xs,i,z,rfl,rfl,hq,he,q⟩:=h
 cases rx;obtain⟨t,rfl⟩:=ry
 obtain⟨ak,r,pl,hz⟩:=I.list hq
 obtain⟨j,h1,h2,h3,h4,h5⟩:=oX he
 obtain⟨w,ew,gu⟩:=r.get h2
 have hl:=r.length
 have hn:=iF
 have fin:EP X aa σ Q w s:=⟨z,H,I,gu,q⟩
 by_cases h0:0<=i
 ·have hj:i.toNat=j:=by
   rw [seqIndex_of h0 h5] at h1;exact zzq h1
  exact item_listR pl.isList h0 (by omega) (by rw [hj];simpa using ew) fin hs
 ·have hj:(i+(ak.toArray.size:Int)).toNat=j:=by
   rw [seqIndex_neg (by omega) h4] at h1;rw [zzC,<-hl];exact zzq h1
  exact subscriptTail_builtinR (x:=w) pl.isList.typeIs slot_list_getitem.lookup
   (wpAny_getItem_list_neg (Q:=λr s'=>r=w/\EP X aa σ Q r s') pl.isList (by omega) (by rw [zzC]<;>omega) (by omega) (by rw [hj];simpa using ew) ⟨rfl,fin⟩) hs
def HL:Jw X (Pd X.K):=by
 intro value slice aa s σ H x y v u Q I rx ry h hs;obtain⟨p,xs,i,z,rfl,rfl,hq,he,q⟩:=h
 cases rx;obtain⟨t,rfl⟩:=ry
 obtain⟨ak,r,pl,hz⟩:=I.tuple hq
 obtain⟨j,h1,h2,h3,h4,h5⟩:=oX he
 obtain⟨w,ew,gu⟩:=r.get h2
 have hl:=r.length
 have hn:=iF
 have fin:EP X aa σ Q w s:=⟨z,H,I,gu,q⟩
 exact subscriptTail_builtinR (x:=w) pl.typeIs slot_tuple_getitem.lookup
  (getItem_tuple (j:=j) (Q:=λr s'=>r=w/\EP X aa σ Q r s') pl (by omega) (by omega) (by rw [zzC,<-hl];exact h1) (by simpa using ew) ⟨rfl,fin⟩) hs
def Ig:Jw X NN:=by
 intro value slice aa s σ H x y v u Q I rx ry h hs;obtain⟨z,i,c,rfl,rfl,hz,he,q⟩:=h
 obtain⟨t,rfl⟩:=rx
 obtain⟨t',rfl⟩:=ry
 obtain⟨j,h1,h2,h3,h4,h5⟩:=oX he
 have hl:z.cps.toList.length=z.length:=by simp [Str.length]
 rw [hl] at h1 h4 h5;have hn:=iF
 exact tail_any (typeIs_str s z t) slot_str_getitem.lookup (getItem_str (c:=c) (by
  have e1:decide (i< -(2^63:Int))=false:=zz0 (by omega)
  have e2:decide (i>=2^63)=false:=zz0 (by omega)
  rw [e1,e2,Bool.or_false]) (by rw [h1];simpa using h2) ⟨.str ⟨#[c]⟩,H,I.tok _,⟨_,rfl⟩,q⟩) hs
def pf(lo hi:Option Int)(n:Nat):(sliceBounds lo hi none n).1=((HT.nE n 0 lo:Nat):Int)/\(sliceBounds lo hi none n).2.1=((HT.nE n n hi:Nat):Int)/\(sliceBounds lo hi none n).2.2=1:=by
 refine⟨?_,?_,rfl⟩
 ·cases lo with
  |none=>simp [sliceBounds,HT.nE]
  |some i=>
   simp! [sliceBounds,HT.nE,Option.getD_none,show(1:Int)>0 by decide,if_true]
   by_cases h:i<0
   ·simp! [h,if_true]<;>omega
   ·simp! [h,if_false]<;>omega
 ·cases hi with
  |none=>simp [sliceBounds,HT.nE]
  |some i=>
   simp! [sliceBounds,HT.nE,Option.getD_none,show(1:Int)>0 by decide,if_true]
   by_cases h:i<0
   ·simp! [h,if_true]<;>omega
   ·simp! [h,if_false]<;>omega
def mI(ak:List Value)(lo hi:Option Int):slicePick ak.toArray lo hi none=((ak.drop (HT.nE ak.length 0 lo)).take (HT.nE ak.length ak.length hi-HT.nE ak.length 0 lo)).toArray:=by
 obtain⟨h1,h2,h3⟩:=pf lo hi ak.toArray.size
 unfold slicePick;rw [h1,h2,h3];simp! [sliceRange_one,pick_run,zzC]<;>rfl
def Ow(K:zz8):V->Option Int->Option Int->Hp->VK->Prop:=λx lo hi H Q=>∃a xs,x=.ref a/\dz K H a xs/\∀p,H p=none->Q (.ref p) (upd H p (.lst (vV xs lo hi)))
def B7:ER X (Ow X.K):=by
 intro aa s σ H x v vl vu lo hi sl Q I rx hs pl pu h;obtain⟨a,xs,rfl,hx,q⟩:=h
 cases rx;obtain⟨ak,r,ht,hz⟩:=I.list hx
 have hlen:=r.length
 refine⟨"list",_,slot_list_getitem.lookup,ht.isList.typeIs,?_⟩;refine wpAny_getItem_list_slice ht.isList hs pl pu .none (by simp) ?_ (by rw [zzC]<;>omega);rw [mI,<-hlen];refine⟨.ref (zz9 s),_,I.laid (t':=s.toks) (o:=.lst (vV xs lo hi)) (λb ob q=>zzB _ q) (zzE _) ?_,rfl,q _ (I.bu.fresh (zzE _))⟩;exact⟨zzU (qY xs lo hi) hz,_,0,(r.drop (HT.nE xs.length 0 lo)).take (HT.nE xs.length xs.length hi-HT.nE xs.length 0 lo),zzX _ rfl⟩
def ix:bR X (.builtin "len") (λxs H Q=>∃p ys,xs=[.ref p]/\(dz X.K H p ys\/eE X.K H p ys)/\Q (.int ys.length) H):=by
 intro aa s σ H xs us Q I r h;obtain⟨p,ys,rfl,hq,q⟩:=h
 obtain⟨u,rfl,rx⟩:=vals1 r
 cases rx;have hn:=iF
 rcases hq with hq|hq
 ·obtain⟨ak,r',pl,hz⟩:=I.list hq
  have hlen:=r'.length
  exact Calls.call_len_list pl.isList (by simp! [zzC]<;>omega) ⟨.int ys.length,H,I.tok _,⟨s.toks+1,by rw [zzC,hlen]⟩,q⟩
 ·obtain⟨ak,r',pl,hz⟩:=I.tuple hq
  have hlen:=r'.length
  exact len_tuple pl (by simp! [zzC]<;>omega) ⟨.int ys.length,H,I.tok _,⟨s.toks+1,by rw [zzC,hlen]⟩,q⟩
def pC:bR X (.builtin "len") (λxs H Q=>∃z,xs=[.str z]/\z.length<=sizeLine/\Q (.int z.length) H):=by
 intro aa s σ H xs us Q I r h;obtain⟨z,rfl,hz,q⟩:=h
 obtain⟨u,rfl,t,rfl⟩:=vals1 r
 have hn:=iF
 exact len_str (by omega) ⟨.int z.length,H,I.tok _,⟨_,rfl⟩,q⟩
def eY:bR X (.type "list") (λxs H Q=>∃p ys,xs=[.ref p]/\(dz X.K H p ys\/eE X.K H p ys)/\∀l,H l=none->Q (.ref l) (upd H l (.lst ys))):=by
 intro aa s σ H xs us Q I r h;obtain⟨p,ys,rfl,hq,q⟩:=h
 obtain⟨u,rfl,rx⟩:=vals1 r
 cases rx;have fin:∀(ak:List Value),Vals ys ak->ys.length<=sizeLine->∀(h':Heap) (c':Nat),(∀b o',s.heap.get? b=some o'->h'.get? b=some o')->
  h'.get? (zz9 s)=some {cls:=.type "list",dict:=none,data:=.seq ak.toArray c',slots:=#[]}->EP X aa σ Q (.ref (zz9 s)) {s with heap:=h'}:=λak r' hz h' c' kp e=>
  ⟨.ref (zz9 s),_,I.laid (t':=s.toks) kp (zzE _) (show bT X.prog X.w _ h' _ (.lst ys) from⟨hz,ak,c',r',e⟩),rfl,q _ (I.bu.fresh (zzE _))⟩
 rcases hq with hq|hq
 ·obtain⟨ak,r',pl,hz⟩:=I.list hq
  have hlen:=r'.length
  obtain⟨o,ho,hc,n,hd⟩:=pl.isList
  exact call_list_seq p (.inl rfl) ho hc hd (λh' c' kp e=>fin ak r' hz h' c' kp e) (by simp! [zzC]<;>omega)
 ·obtain⟨ak,r',pl,hz⟩:=I.tuple hq
  have hlen:=r'.length
  obtain⟨o,ho,hc,n,hd⟩:=pl
  exact call_list_seq p (.inr rfl) ho hc hd (λh' c' kp e=>fin ak r' hz h' c' kp e) (by simp! [zzC]<;>omega)
def md:bR X (.type "tuple") (λxs H Q=>∃p ys,xs=[.ref p]/\((dz X.K H p ys/\∀l,H l=none->Q (.ref l) (upd H l (.tup ys)))\/(eE X.K H p ys/\Q (.ref p) H))):=by
 intro aa s σ H xs us Q I r h;obtain⟨p,ys,rfl,h⟩:=h
 obtain⟨u,rfl,rx⟩:=vals1 r
 cases rx;rcases h with⟨hq,q⟩|⟨hq,q⟩
 ·obtain⟨ak,r',pl,hz⟩:=I.list hq
  have hlen:=r'.length
  refine call_tuple_list pl.isList (λh' kp=>?_) (by simp! [zzC]<;>omega);have I1:Inv X aa σ H {s with heap:=h'}:=I.kept (t':=s.toks) kp
  have I2:Inv X aa σ (upd H h'.objs.size (.tup ys)) {s with heap:=h'.push {cls:=.type "tuple",data:=.seq ak.toArray}}:=
   I1.laid (t':=s.toks) (λb o e=>zzB _ e) (zzE _) (show bT X.prog X.w _ _ _ (.tup ys) from⟨hz,ak,r',IsTup.new _ _⟩)
  exact⟨.ref h'.objs.size,_,I2,rfl,q _ (I1.bu.fresh (zzE _))⟩
 ·obtain⟨ak,r',pl,hz⟩:=I.tuple hq
  exact call_tuple_same pl ⟨.ref p,H,I,rfl,q⟩
def RK(K:zz8)(T:String)(x:V)(H:Hp):Prop:=match x with
 |.str _=>T="str"
 |.int _=>T="int"
 |.ref p=>(T="list"/\∃xs,dz K H p xs)\/(T="tuple"/\∃o,K.lookup p=some o/\o.cls=.type "tuple"/\o.dict=none)\/
  (T="dict"/\((∃aA,H p=some (.dK aA))\/∃aA,H p=some (.dT aA)))\/(T="set"/\∃S n,H p=some (.set S n))
 |_=>False
def Hk{aa:List (Addr×Obj)}{σ:St}{H:Hp}{s:Shared}{T:String}{x:V}{v:Value}(I:Inv X aa σ H s)(r:RelV x v)(ty:RK X.K T x H):
 s.TypeIs v T/\∀a,v=.ref a->∃ob,s.heap.get? a=some ob/\ob.dict=none:=by
 cases x with
 |str z=>
  obtain⟨t,rfl⟩:=r
  cases(show T="str" from ty);exact⟨typeIs_str s z t,λ_ e=>nomatch e⟩
 |int i=>
  obtain⟨t,rfl⟩:=r
  cases(show T="int" from ty);exact⟨typeIs_int s i t,λ_ e=>nomatch e⟩
 |ref p=>
  cases r;rcases ty with⟨rfl,xs,hq⟩|⟨rfl,o,hk,hc,hd⟩|⟨rfl,hk⟩|⟨rfl,S,n,hk⟩
  ·obtain⟨ak,_,pl,_⟩:=I.list hq
   refine⟨pl.isList.typeIs,λa e=>?_⟩
   cases e;obtain⟨o,n,e,c,hd,_⟩:=pl
   exact⟨o,e,hd⟩
  ·refine⟨⟨o,I.sX p o hk,hc⟩,λa e=>?_⟩
   cases e;exact⟨o,I.sX _ o hk,hd⟩
  ·have z:∃o,s.heap.get? p=some o/\o.ExactDict:=by
    rcases hk with⟨aA,hk⟩|⟨aA,hk⟩
    ·obtain⟨_,_,_,_,o,_,_,e,ex,_⟩:=I.bu p _ hk
     exact⟨o,e,ex⟩
    ·obtain⟨_,_,_,_,o,_,_,e,ex,_⟩:=I.bu p _ hk
     exact⟨o,e,ex⟩
   obtain⟨o,e,ex⟩:=z
   refine⟨⟨o,e,ex.1⟩,λa e2=>?_⟩
   cases e2;exact⟨o,e,ex.2.1⟩
  ·obtain⟨o,_,_,_,e,ex,_⟩:=I.bu p _ hk
   refine⟨⟨o,e,ex.1⟩,λa e2=>?_⟩
   cases e2;exact⟨o,e,ex.2.1⟩
 |_=>exact zzk ty
noncomputable def Sz(K:zz8)(T:String)(r:V->List V->Hp->VK->Prop)(to:TE)(t:TA):TE:=λσ H Q=>to σ H λx H1=>RK K T x H1/\t σ H1 λxs H2=>r x xs H2 Q
variable{o e:Expr}{es:List Expr}{to:TE}{t:TA}{name:Str}{apos cb:Pos}{T id:String}{r:V->List V->Hp->VK->Prop}
theorem uX(pa:PlainAttrs T)(slot:Slot T name id)(S1:typeOf (.builtin id)=pure (.type "method_descriptor"))(hm:RT X id r)(ho:PE X o to)(ha:PA X (e::es) t)
 (gy:attributeBase o name X.env (eval o X.env)=eval o X.env:=by rfl)
 (OL:((backTo cb (starEach (e::es) X.env)).all (λx=>!x.1)&&(backToKw cb (keywordEach [] X.env)).all (λx=>x.1.isSome)
  &&decide ((e::es).length+([]:List Keyword).length+(if([]:List Keyword).isEmpty then 0 else 1)<30))=true:=by rfl)
 (lH:(apos.endLine==cb.line)=true:=by rfl) (hs:starEach (e::es) X.env=(false,eval e X.env)::starEach es X.env:=by rfl) (rS:(backTo cb (starEach es X.env)).any (·.1)=false:=by rfl):
 PE X (.Call (.Attribute o name apos) (e::es) [] cb) (Sz X.K T r to t):=by
 intro aa s σ H Q I h;refine wpAny_Call_method_late gy OL lH rfl (bD (ho aa s σ H _ I h) λv s1 ⟨x,H1,I1,r1,ty,q1⟩=>?_)
 obtain⟨h1,h2⟩:=Hk I1 r1 ty
 refine⟨T,id,pa,slot,S1,h1,h2,?_⟩;have hA:=ha cb aa s1 σ H1 _ I1 q1
 rw [hs] at hA⊢;refine Calls.callWith_builtin (by show(false||(backTo cb (starEach es X.env)).any (·.1))=false;rw [rS]<;>rfl) (Calls.evalArgs_plain ?_);exact bD hA λus s2 ⟨vs,H2,I2,r2,q2⟩=>hm aa s2 σ H2 x vs v us Q I2 r1 r2 q2
end
def Qj(X:Cx)(id:String)(r:V->List V->Hp->VK->Prop):Prop:=
 ∀(aa:List (Addr×Obj)) (s:Shared) (σ:St) (H:Hp) (x:V) (xs:List V) (v:Value) (us:List Value) (Q:VK),Inv X aa σ H s->RelV x v->Vals xs us->r x xs H Q->
  wpAny (model X.prog X.w) X.A (call (.builtin id) (v::us)) (EP X aa σ Q) X.xe s
theorem Vals.one:∀{x:V} {us:List Value},Vals [x] us->∃u,us=[u]/\RelV x u
 |_,_,.cons r .nil=>⟨_,rfl,r⟩
def Vals.two{x y:V}{us:List Value}(h:Vals [x,y] us):∃u v,us=[u,v]/\RelV x u/\RelV y v:=by
 cases h with
 |cons r q=>
  cases q with
  |cons q n=>cases n;exact⟨_,_,rfl,r,q⟩
theorem Vals.eraseIdx:∀{xs:List V} {us:List Value} (i:Nat),Vals xs us->Vals (xs.eraseIdx i) (us.eraseIdx i)
 |_,_,_,.nil=>.nil
 |_,_,0,.cons _ t=>t
 |_,_,i+1,.cons r t=>.cons r (Vals.eraseIdx i t)
theorem nh{α:Type}:∀(l:List α) (i:Nat),(l.eraseIdx i).length<=l.length
 |[],_=>zzE _
 |_::_,0=>Nat.le_succ _
 |_::r,i+1=>Nat.succ_le_succ (nh r i)
section
variable{X:Cx}{aa:List (Addr×Obj)}{σ:St}{H:Hp}{s:Shared}{l:Addr}{xs ys:List V}
def Inv.Jb{ak its':List Value}{n:Nat}{f:Array Value->Array Value}{t':Nat}(I:Inv X aa σ H s)(hH:H l=some (.lst xs))
 (e:s.heap.get? l=some {cls:=.type "list",data:=.seq ak.toArray n}) (hf:f ak.toArray=its'.toArray) (hv:Vals ys its') (hz:ys.length<=sizeLine):
 Inv X aa σ (upd H l (.lst ys)) {s with heap:=s.heap.update l (Obj.mapSeq f),toks:=t'}:=by
 have q:=PySem.IsL.update e f
 rw [hf] at q;refine I.write (x:=l) (e:=l) (by rw [hH];exact trivial) (.inl rfl) (λb' u hb hu=>(Heap.get?_update_other s.heap (Obj.mapSeq f) (Ne.symm hb)).trans hu) ⟨_,q⟩ ?_
 exact⟨hz,its',_,hv,q⟩
theorem Inv.NV{ak:List Value}{t':Nat}(I:Inv X aa σ H s)(hv:Vals ys ak)(hz:ys.length<=sizeLine):
 Inv X aa σ (upd H (zz9 s) (.lst ys)) {s with heap:=s.heap.push {cls:=.type "list",data:=.seq ak.toArray},toks:=t'}:=
 I.laid (λ_ _ q=>zzB _ q) (zzE _) ⟨hz,ak,0,hv,zzX _ rfl⟩
def Inv.fresh(I:Inv X aa σ H s):H (zz9 s)=none:=I.bu.fresh (zzE _)
def Inv.G8(I:Inv X aa σ H s)(hH:H l=some (.lst xs)):xs.length<=sizeLine/\∃(ak:List Value) (n:Nat),Vals xs ak/\xs.length=ak.length/\s.heap.get? l=some {cls:=.type "list",data:=.seq ak.toArray n}:=by
 obtain⟨z,ak,n,r,e⟩:=I.bu l _ hH
 exact⟨z,ak,n,r,r.length,e⟩
def yW{n:Nat}(h:n<=sizeLine):Builtin.List.listTooLong n=false:=by
 unfold Builtin.List.listTooLong;exact zz0 (by omega)
def CA:V->List V->Hp->VK->Prop:=λx vs H Q=>∃l xs y,x=.ref l/\vs=[y]/\H l=some (.lst xs)/\xs.length<sizeLine/\Q .aC (upd H l (.lst (xs++[y])))
def nK:Qj X "list.append" CA:=by
 intro aa s σ H x vs v us Q I rx rv h;obtain⟨l,xs,y,rfl,rfl,hH,hz,q⟩:=h
 cases rx;obtain⟨u,rfl,ru⟩:=rv.one
 obtain⟨z,ak,n,r,hl,e⟩:=I.G8 hH
 refine call_meets F.slot_list_append ⟨_,e,rfl⟩ F.entry_list_append (F.args_list_append_2 _ _) (PySem.list_append l ak.toArray n u (by rw [zzC];omega)) ⟨e,?_⟩;refine⟨.aC,_,I.Jb (its':=ak++[u]) hH e (by simp) (r.append (.cons ru .nil)) ?_,rfl,q⟩;rw [zzM,List.length_singleton];omega
def IL:V->List V->Hp->VK->Prop:=λx vs H Q=>∃l xs i k y,x=.ref l/\vs=[.int i]/\H l=some (.lst xs)/\ -(2^63)<=i/\i<2^63/\seqIndex? i xs.length=some k/\xs[k]?=some y/\Q y (upd H l (.lst (xs.eraseIdx k)))
def yD:Qj X "list.pop" IL:=by
 intro aa s σ H x vs v us Q I rx rv h;obtain⟨l,xs,i,k,y,rfl,rfl,hH,h1,h2,hk,hy,q⟩:=h
 cases rx;obtain⟨u,rfl,ru⟩:=rv.one
 obtain⟨t,rfl⟩:=ru
 obtain⟨z,ak,n,r,hl,e⟩:=I.G8 hH
 obtain⟨w,hw,gu⟩:=r.get hy
 refine call_meets F.slot_list_pop ⟨_,e,rfl⟩ F.entry_list_pop (F.args_list_pop_2 _ _)
  (MeetsSeq.list_pop_at l ak.toArray n i t k w (fitsIndex_both h1 h2) (by rw [zzC,<-hl];exact hk) (by rw [<-Array.getElem?_toList];exact hw) (by rw [zzC];omega)) ⟨e,?_⟩
 refine⟨y,_,I.Jb (its':=ak.eraseIdx k) hH e ?_ (r.eraseIdx k) ?_,gu,q⟩
 ·show ak.toArray.eraseIdxIfInBounds k=(ak.eraseIdx k).toArray
  rw [List.eraseIdxIfInBounds_toArray]
 ·have:=nh xs k
  omega
end
end L2
namespace Att
open PySem PySem.W PySem.Calls PyProof.Rows
def jk{P:Params}{h:Heap}:∀(ns:List Int) (vs:List Value),WellAll P h vs (ns.map WData.int)->IntsAre vs ns:=by
 intro ns
 induction ns with
 |nil=>
  intro vs w;rw [List.map_nil] at w;cases w;exact .nil
 |cons n ns ih=>
  intro vs w;rw [zzF] at w;cases w with
  |cons a b=>
   cases a;exact .cons _ _ (ih _ b)
def vS{l:OpenLaw}{n:Nat}(hn:l.most=some n){P:Params}{h:Heap}{args:List WData}{vals:List Value}
 (Cn:l.row.toRowW.claim.pre args=true) (PZ:WellAll P h vals args):
 ∃a vs ns,vals=[Value.ref a]/\args=[WData.list (ns.map WData.int)]/\h.get? a=some {cls:=.type "list",data:=.seq vs.toArray}/\IntsAre vs ns/\ns.length<=n:=by
 have Ue:WShape.hasAll [] args [.list .int]=true:=(pre_splitW Cn).1
 have hc:l.pre.holds [] {args:=args}=true:=(pre_splitW Cn).2
 obtain⟨d,r,rfl,h1,h2⟩:=hasAllW_cons Ue
 obtain rfl:=hasAllW_nil h2
 obtain⟨xs,rfl,h3⟩:=hasW_list h1
 obtain⟨ns,rfl⟩:=items_int h3
 have hlen:ns.length<=n:=by
  unfold OpenLaw.pre at hc;have h4:(WTm.not (.lt (.lit (.int (n:Int))) (.len (.arg 0)))).holds [] {args:=[.list (ns.map .int)]}=true:=by
   have h4:=(holds_andW hc).1
   rw [hn] at h4;exact h4
  have h5:=condW_of h4 (w_not (w_lt w_lit (w_len_list (w_arg rfl))))
  rw [zzl] at h5;refine Nat.le_of_not_lt λq=>?_
  have q':(n:Int)<((ns.length:Nat):Int):=by omega
  first
   |(rw [zzh q'] at h5;exact absurd h5 (by decide))
   |(simp at h5;omega)
 cases PZ with
 |cons w1 w2=>
  cases w2;cases w1 with
  |list ho hall=>exact⟨_,_,ns,rfl,rfl,ho,jk ns _ hall,hlen⟩
theorem wJ(l:OpenLaw)(args:List WData):l.row.toRowW.claim.post args (.bool true) args=true:=
 postW_of (r:=l.row.toRowW) (X:=(true==true))
  (show WShape.has [] (.bool true) .bool=true by first|rfl|decide|simp [WShape.has,WShape.arms,WShape.armsAll])
  (show(WTm.eq .res (.lit (.bool true))).value [] {args:=args,res:=some (.bool true),after:=args}=some (.bool (true==true)) from w_eq_bool (w_res rfl) w_lit) rfl
def qJ{l:OpenLaw}{n:Nat}{q:Program}{loose:List Str}{XP:(Str->Option Value)->Heap->Prop}{YP:World->Heap->Prop}{d:DefRec}
 (hn:l.most=some n) (LS:d.params.defaults=[])
 (call:∀(w:World) (s₀ s₁:Shared) (mg mb:Str->Option Value) (fa:Addr) (o:Obj) (pm cd doc:Value) (a:Addr) (vs:List Value) (ns:List Int),
  Ground q loose [] XP w s₀ mg mb s₁.heap->YP w s₁.heap->
  s₁.heap.get? fa=some o->o.data=.func (docDef d.name d.params d.body d.scope pm cd doc)->s₁.heap.CodeRec cd d.name->mg d.name=some (.ref fa)->
  s₁.heap.get? a=some {cls:=.type "list",data:=.seq vs.toArray}->IntsAre vs ns->ns.length<=n->s₁.gens=#[]->
  codeAny (model l.prog w) callerA (.call (.ref fa) ⟨[.ref a],[]⟩) (λr s'=>r=.ok (.ret (.bool true))/\OldK s₁.heap s'.heap/\s'.os=s₁.os/\AllBare s'.gens) s₁):
 WalkO q loose XP YP l.row.toRowW d [] (λf vs=>PySem.call f vs):=by
 intro w s₀ s₁ mg mb G Y fa o pm cd doc dV kV ho hd yz hD hmg hg args vals as Cn hlay hrd PZ hlo;obtain rfl:dV=.none:=Dflts.none hD LS
 obtain rfl:kV=.none:=Dflts.noKw hD
 obtain⟨a,vs,ns,rfl,rfl,hobj,hints,hlen⟩:=vS hn Cn PZ
 refine enter_call (codeAny_mono (call w s₀ s₁ mg mb fa o pm cd doc a vs ns G Y ho (fd_plain hd) yz hmg hobj hints hlen hg) λr s' hq=>?_)
 obtain⟨rfl,h2,h3,h4⟩:=hq
 exact⟨.inl ⟨.bool true,.bool true,[],rfl,λ_=>rfl,.bool true,wJ l _,λ_=>⟨List.Pairwise.nil,λ_ hm=>(nomatch hm)⟩⟩,h2,h3,h4⟩
section
def ledger(h:Heap)(L d:Addr):List (Addr×Obj):=(List.range h.objs.size).filterMap λa=>if a=L\/a=d then none else(h.get? a).map λo=>(a,o)
end
end Att
namespace L2
open PySem PySem.Spec PyProof.Rows
theorem nk:∀{vs:List Value} {ns:List Int},IntsAre vs ns->Vals (ns.map V.int) vs
 |_,_,.nil=>.nil
 |_,_,.cons n t h=>.cons ⟨t,rfl⟩ (nk h)
noncomputable def df(s:Stmt):Arguments:=match s with
 |.FunctionDef _ a _ _ _ _ _ _ _ _=>a
 |_=>{posonlyargs:=[],args:=[],vararg:=none,kwonlyargs:=[],kw_defaults:=[],kwarg:=none,defaults:=[]}
def cG(s:Stmt):List Stmt:=match s with
 |.FunctionDef _ _ b _ _ _ _ _ _ _=>b
 |_=>[]
def aQ(s:Stmt):Scope:=match s with
 |.FunctionDef _ _ _ _ _ _ sc _ _ _=>sc
 |_=>{kind:=.function,names:=[],isGenerator:=false,isCoroutine:=false}
structure MR(K:zz8)(x qual:Str)(st:Stmt)(f:Addr)(fd:FuncData):Prop where
 ex:∃(oc:Value) (od:Option Addr) (kV doc pm:Value) (an:Option Addr) (fy ct:Value) (tD:Array (Option Value)),
  fd=PySem.W.fnOf x qual (df st) (cG st) (aQ st) .none kV doc pm an fy ct/\K.lookup f=some ⟨oc,od,.func fd,tD⟩/\PySem.W.codeIn K fy qual=true
 kp:PySem.W.keepIn K (.ref f)=true
section
variable{K:zz8}
def MR.binds{x qual:Str}{st:Stmt}{f:Addr}{fd:FuncData}{ps:List Str}(F:MR K x qual st f fd)
 (h:∀(kV doc pm:Value) (an:Option Addr) (fy ct:Value) (us:List Value),us.length=ps.length->bindArgs (PySem.W.fnOf x qual (df st) (cG st) (aQ st) .none kV doc pm an fy ct) ⟨us,[]⟩=pure (ps.zip us)):Binds K fd ps []:=by
 obtain⟨oc,od,kV,doc,pm,an,fy,ct,tD,rfl,lk,yz⟩:=F.ex
 exact .all (h kV doc pm an fy ct)
def Av{x qual:Str}{st:Stmt}{f:Addr}{oc:Value}{od an:Option Addr}{tD:Array (Option Value)}{kV doc pm fy ct:Value}(l:K.lookup f=some ⟨oc,od,.func (PySem.W.fnOf x qual (df st) (cG st) (aQ st) .none kV doc pm an fy ct),tD⟩)
 (c:PySem.W.codeIn K fy qual=true) (k:PySem.W.keepIn K (.ref f)=true):MR K x qual st f (PySem.W.fnOf x qual (df st) (cG st) (aQ st) .none kV doc pm an fy ct):=⟨⟨oc,od,kV,doc,pm,an,fy,ct,tD,rfl,l,c⟩,k⟩
variable{X:Cx}
theorem pv(i:Nat){x:Str}{pos:Pos}(hN:X.N[i]?=some x:=by rfl)(hv:MZ X.env.scope x:=by first|exact Or.inl rfl|exact Or.inr (Or.inl rfl)|exact Or.inr (Or.inr rfl))(hd:(x==("__debug__":Str))=false:=by decide)
 (yz:(x==("__classdict__":Str))=false:=by decide):PE X (.Name x pos) (A6 i):=lE hN hv hd yz
end
def Pe{A B:Prop}(h:B):if false=true then A else B:=by
 rw [if_neg zzf];exact h
def P5{A B:Prop}(h:A):if true=true then A else B:=by
 rw [if_pos rfl];exact h
def az(H H':Hp):Prop:=∀b o,H b=some o->H' b=some o
def az.refl(H:Hp):az H H:=λ_ _ h=>h
def az.trans{H H1 H2:Hp}(a:az H H1)(b:az H1 H2):az H H2:=λc o h=>b c o (a c o h)
def az.free{H H':Hp}(e:az H H'){l:Addr}(h:H' l=Option.none):H l=Option.none:=by
 cases q:H l with
 |none=>rfl
 |some o=>
  rw [e l o q] at h;cases h
def az.seq{K:zz8}{H H':Hp}{a:Addr}{xs:List V}(e:az H H')(h:dz K H a xs):dz K H' a xs:=by
 rcases h with(h|⟨o,h⟩)|h
 ·exact .inl (.inl (e _ _ h))
 ·exact .inl (.inr ⟨o,e _ _ h⟩)
 ·exact .inr h
end L2
set_option maxHeartbeats 8000000
namespace L2
open PySem PySem.Spec PyProof.Rows
open PySem.W (hideAll hideAll_get of_hideAll funFrames_hide)
structure JE(P:Program)(w:World)(outer:List Env)(H:Hp)(s:Shared)(E:XK)(a C t:Addr)(vs:List Value)(H':Hp)(B:Heap)(s':Shared):Prop where
 os:s'.os=s.os
 bare:AllBare s'.gens
 bu:gG P w H' B
 Mh:Heap.FlyingW B outer a (.ref C) (.ref t) s'.heap
 tn:B.get? t=none
 tup:s'.heap.TupAt t vs
 i7:∀b o,s.heap.get? b=some o->H b=none->b∉iE outer->B.get? b=some o
 fJ:∀b o,s.heap.get? b=some o->b∉iE outer->∃o',B.get? b=some o'
 un:Un (iE outer) [] H H' s.heap s'.heap
 ends:E (.ref C) (some a) H'
def gr(P:Program)(w:World):w6:=λouter H s E e s'=>∃a C t vs H' B,e=.ref a/\JE P w outer H s E a C t vs H' B s'
section
variable{P:Program}{w:World}{K:zz8}{mg:Str->Option Value}{base:Heap}{N:List Str}{qual:Str}{scope:Scope}{f:Addr}{cd:Value}{A:Around}{outer:List Env}{s0:Shared}{H0:Hp}{E:XK}
def oU{X:Cx}{aa:List (Addr×Obj)}{σ:St}{H:Hp}{s:Shared}(I:Inv X aa σ H s){b:Addr}{o:Obj}(hl:X.env.locals=X.s₀.heap.objs.size)(q:X.s₀.heap.get? b=some o)(hb:b∉X.fs):b∉iE X.stack:=λz=>by
 rcases zzm.mp (I.lJ b z) with e|e
 ·rw [hl] at e;exact absurd (zzO q) (by rw [e];exact Nat.lt_irrefl _)
 ·exact hb e
def LI:Passes (gr P w) (dE (gr P w) P w K mg base N qual scope f cd A outer s0 H0 E) E:=by
 rintro aa σ H s e s' I ⟨a,C,t,vs,H',B,rfl,F⟩
 have nx:∀b:Addr,b∉(dE (gr P w) P w K mg base N qual scope f cd A outer s0 H0 E).ex:=λb z=>nomatch (show b∈([]:List Addr) from z)
 have i7:∀b o,s0.heap.get? b=some o->H0 b=none->b∉iE outer->B.get? b=some o:=λb o q n hb=>
  F.i7 b o (I.base.keep b o q n hb (nx b)) (I.base.free b o q n (nx b)) (oU I rfl q hb)
 have fJ:∀b o,s0.heap.get? b=some o->b∉iE outer->∃o',B.get? b=some o':=λb o q hb=>by
  obtain⟨o1,q1⟩:=I.base.there b o q (nx b)
  exact F.fJ b o1 q1 (oU I rfl q hb)
 refine wpAny_leaves_onW I.ok.frames rfl F.Mh λh' x1 x2=>⟨a,C,t,vs,H',B,rfl,?_⟩
 have slot:∀b o,s0.heap.get? b=some o->H0 b=none->b∈iE outer->∃sl,h'.get? b=some {o with slots:=sl}:=λb o q n hb=>by
  obtain⟨sl,q1⟩:=I.base.slot b o q n hb (nx b)
  obtain⟨sl2,q2⟩:=F.un.any q1 (I.base.free b o q n (nx b)) (λz=>nomatch z)
  obtain⟨_,o',q3,hd⟩:=F.Mh.2.2.1.mem (b:=b) (zz1.mpr (let⟨v,h1,h2⟩:=zz1.mp hb;⟨v,.tail _ h1,h2⟩))
  rw [q2] at q3;cases q3;obtain⟨sl3,q4⟩:=x2 b _ q2 hd
  exact⟨sl3,q4⟩
 refine⟨F.os.trans I.os,F.bare,F.bu,x1,F.tn,F.tup.of_slots x2,i7,fJ,⟨λb o q n hb _=>x1.1 _ _ (i7 b o q n hb),λb o q n hb _=>slot b o q n hb,λb o q n _=>?_,λb o q _=>?_,λb xs q=>F.un.jf _ _ (I.base.jf _ _ q),λb o u q=>F.un.iT _ _ _ (I.base.iT _ _ _ q),λb ps q=>?_⟩,F.ends⟩
 ·obtain⟨sl,q1⟩:=I.base.any q n (nx b)
  exact F.un.free b _ q1 (I.base.free b o q n (nx b)) (λz=>nomatch z)
 ·by_cases hb:b∈iE outer
  ·obtain⟨sl,q1⟩:=slot b o q (I.ok.HK b hb) hb
   exact⟨_,q1⟩
  ·obtain⟨o',q1⟩:=fJ b o q hb
   exact⟨o',x1.1 _ _ q1⟩
 ·obtain⟨m1,q1⟩:=I.base.iM b ps q
  obtain⟨m2,q2⟩:=F.un.iM b _ q1
  exact⟨m1++m2,by rw [<-Array.append_assoc];exact q2⟩
def GH{aa:List (Addr×Obj)}{σ:St}{H:Hp}{s:Shared}{h1:Heap}{e C:Addr}{us:List Value}(I:Inv (dE (gr P w) P w K mg base N qual scope f cd A outer s0 H0 E) aa σ H s)
 (hx:Heap.MadeExcOf s.heap h1 e (.ref C) us) (hE:E (.ref C) (some e) H):(dE (gr P w) P w K mg base N qual scope f cd A outer s0 H0 E).xe (.ref e) {s with heap:=h1}:=by
 have nx:∀b:Addr,b∉(dE (gr P w) P w K mg base N qual scope f cd A outer s0 H0 E).ex:=λb z=>nomatch (show b∈([]:List Addr) from z)
 have RS:∀env∈(dE (gr P w) P w K mg base N qual scope f cd A outer s0 H0 E).stack,∀b,env.frame=some b->b∈iE (dE (gr P w) P w K mg base N qual scope f cd A outer s0 H0 E).stack:=λenv he b hb=>zz1.mpr ⟨env,he,hb⟩
 refine wpAny_leaves_madeW (h:=s.heap) I.ok.frames rfl (λb o q=>of_hideAll _ q) (funFrames_hide I.stack RS) hx λh' t x1 x2 x3 x4=>⟨e,C,t,us,H,hideAll s.heap (iE (dE (gr P w) P w K mg base N qual scope f cd A outer s0 H0 E).stack),rfl,?_⟩
 have i7:∀b o,s0.heap.get? b=some o->H0 b=none->b∉iE outer->(hideAll s.heap (iE (dE (gr P w) P w K mg base N qual scope f cd A outer s0 H0 E).stack)).get? b=some o:=λb o q n hb=>
  hideAll_get _ (I.base.keep b o q n hb (nx b)) (oU I rfl q hb)
 have fJ:∀b o,s0.heap.get? b=some o->b∉iE outer->∃o',(hideAll s.heap (iE (dE (gr P w) P w K mg base N qual scope f cd A outer s0 H0 E).stack)).get? b=some o':=λb o q hb=>by
  obtain⟨o1,q1⟩:=I.base.there b o q (nx b)
  exact⟨o1,hideAll_get _ q1 (oU I rfl q hb)⟩
 have slot:∀b o,s0.heap.get? b=some o->H0 b=none->b∈iE outer->∃sl,h'.get? b=some {o with slots:=sl}:=λb o q n hb=>by
  obtain⟨sl,q1⟩:=I.base.slot b o q n hb (nx b)
  obtain⟨_,o',q3,hd⟩:=I.stack.mem (b:=b) (zz1.mpr (let⟨v,h1,h2⟩:=zz1.mp hb;⟨v,.tail _ h1,h2⟩))
  rw [q1] at q3;cases q3;obtain⟨sl3,q4⟩:=x4 b _ (hx.keeps _ _ q1) hd
  exact⟨sl3,q4⟩
 refine⟨I.os,I.bare,λb o q=>?_,x1,x3,x2,i7,fJ,⟨λb o q n hb _=>x1.1 _ _ (i7 b o q n hb),λb o q n hb _=>slot b o q n hb,λb o q n _=>I.base.free b o q n (nx b),λb o q _=>?_,I.base.jf,I.base.iT,I.base.iM⟩,hE⟩
 ·refine(I.bu b o q).gj (λc v hc r=>hideAll_get _ r λz=>?_) (λ_ q=>q) λ_ _ q=>q
  have z':=I.n6 c z
  rcases hc with rfl|hc
  ·rw [q] at z';cases z'
  ·rw [hc] at z';cases z'
 ·by_cases hb:b∈iE outer
  ·obtain⟨sl,q1⟩:=slot b o q (I.ok.HK b hb) hb
   exact⟨_,q1⟩
  ·obtain⟨o',q1⟩:=fJ b o q hb
   exact⟨o',x1.1 _ _ q1⟩
end
def i6{P:Program}{w:World}{H:Hp}{h:Heap}{a:Addr}{o:HO}(x:bT P w H h a o):∃o',h.get? a=some o':=by
 cases o with
 |lst xs=>obtain⟨_,_,_,_,e⟩:=x;exact⟨_,e⟩
 |tup xs=>obtain⟨_,_,_,o,e,_⟩:=x;exact⟨_,e⟩
 |dK aA=>obtain⟨_,_,_,_,o,_,_,e,_⟩:=x;exact⟨_,e⟩
 |dT aA=>obtain⟨_,_,_,_,o,_,_,e,_⟩:=x;exact⟨_,e⟩
 |set S n=>obtain⟨o,_,_,_,e,_⟩:=x;exact⟨_,e⟩
 |ins C dx fs=>obtain⟨_,_,_,e,_⟩:=x;exact⟨_,e⟩
 |own y=>exact x
 |xd fs=>obtain⟨_,⟨_,_,_,e,_⟩,_⟩:=x;exact⟨_,e⟩
 |mG lo hi=>obtain⟨_,_,_,e⟩:=x;exact⟨_,e⟩
 |cX ob u=>obtain⟨e,_⟩:=x;exact⟨_,e⟩
 |gq ps=>exact⟨_,x⟩
 |met f y=>exact⟨_,x⟩
 |ext φ=>exact x.2.1
def Hh(C:Addr)(E:XK)(ta:TA):TS:=λ_ σ H=>ta σ H λvs H1=>vs.length<=sizeLine/\∀e,H1 e=none->E (.ref C) (some e) H1
section
variable{P:Program}{w:World}{K:zz8}{mg:Str->Option Value}{base:Heap}{N:List Str}{qual:Str}{scope:Scope}{f:Addr}{cd:Value}{A:Around}{outer:List Env}{s0:Shared}{H0:Hp}{E:XK}
theorem xi{x:Str}{C:Addr}{Bn newId Hy:String}{bm:List Value}{e₀:Expr}{rest:List Expr}{np cb pos:Pos}{ta:TA}(hg:Gl (dE (gr P w) P w K mg base N qual scope f cd A outer s0 H0 E) x)(O:OwnCls x C bm newId mg base)(FB:ExcBaseFacts Bn newId Hy bm)
 (ha:PA (dE (gr P w) P w K mg base N qual scope f cd A outer s0 H0 E) (e₀::rest) ta)
 (he:starEach (e₀::rest) (dE (gr P w) P w K mg base N qual scope f cd A outer s0 H0 E).env=(false,eval e₀ (dE (gr P w) P w K mg base N qual scope f cd A outer s0 H0 E).env)::starEach rest (dE (gr P w) P w K mg base N qual scope f cd A outer s0 H0 E).env:=by rfl)
 (rS:(backTo cb (starEach rest (dE (gr P w) P w K mg base N qual scope f cd A outer s0 H0 E).env)).any (·.1)=false:=by rfl) (hd:(x==("__debug__":Str))=false:=by decide):
 PS (dE (gr P w) P w K mg base N qual scope f cd A outer s0 H0 E) (.Raise (some (.Call (.Name x np) (e₀::rest) [] cb)) none pos) (Hh C E ta):=by
 intro aa s σ H D I h;obtain⟨tl,Nn,nm,q,bs,hdct,sn,sub,ab,col,dd,k0,k1,k2,k3,k5,mN,hC,hN,hni,T⟩:=O.obj
 refine wpAny_Raise_call_subT (C:=C) (nm:=nm) (q:=q) (N:=Nn) (bs:=bs) (bm:=tl) (hdct:=hdct) (sn:=sn) (sub:=sub) (ab:=ab) (col:=col) (dd:=dd) (k0:=k0) (k1:=k1) (k2:=k2) (k3:=k3) (k5:=k5)
  FB (mN:=mN) (T.hasType FB.hasBase) (I.ok.hd rfl) (by rw [he];show(false||(backTo cb (starEach rest (dE (gr P w) P w K mg base N qual scope f cd A outer s0 H0 E).env)).any (·.1))=false;rw [rS];rfl) hni (il I hg O.bound ⟨rfl,?_⟩ hd)
 have h2:=ha cb aa s σ H _ I h
 rw [he] at h2⊢;refine Calls.evalArgs_plain (wpAny_mono h2 (λus s2 ⟨vs,H1,I1,rv,hl,hE⟩=>?_) λ_ _ y=>y)
 refine⟨rfl,by rw [<-rv.length];exact hl,I1.bk _ _ hC,hN.keeps I1.bk,T.keeps I1.bk,λh1 e hx=>GH I1 hx (hE e ?_)⟩
 cases z:H1 e with
 |none=>rfl
 |some o=>
  obtain⟨o',jq⟩:∃o',s2.heap.get? e=some o':=by
   exact i6 (I1.bu _ _ z)
  rw [hx.new] at jq;cases jq
end
def Ot(a C:Addr):HO:=.ext λh=>∃ob vs,h.get? a=some ob/\ob.cls=.ref C/\ob.data=.fields vs
section
variable{P:Program}{w:World}
def JE.fresh{outer:List Env}{H:Hp}{s s':Shared}{E:XK}{a C t:Addr}{vs:List Value}{H':Hp}{B:Heap}(F:JE P w outer H s E a C t vs H' B s'):H' a=none:=by
 cases z:H' a with
 |none=>rfl
 |some o=>
  obtain⟨o',jq⟩:=i6 (F.bu _ _ z)
  rw [F.Mh.2.1] at jq;cases jq
end
def cA(env:Env)(ys:List Str):List (Str×Addr):=ys.map λy=>(y,(env.cells.lookup y).getD 0)
def zk(σ:St)(is:List Nat):St:=is.map λi=>(σ[i]?).join
def lW(scope:Scope)(x:Str):Bool:=scope.names.lookup x==some .cell
theorem tV{x:Str}{c:Addr}:∀(names:List (Str×NameKind)) (n:Nat) (acc:List (Str×Addr)),(x,c)∈cellsFrom n names acc->(x,c)∈acc\/(x,NameKind.cell)∈names/\n<=c
 |[],n,acc,h=>by rw [cellsFrom.eq_def] at h;exact .inl h
 | (y,k)::r,n,acc,h=>by
  rw [cellsFrom.eq_def] at h;dsimp only at h;split at h
  ·rename_i hk;cases eq_of_beq hk;rcases tV r (n+1) _ h with z|⟨z1,z2⟩
   ·rcases zzm.mp z with z|z
    ·cases z;exact .inr ⟨zzP ..,zzE _⟩
    ·exact .inl z
   ·exact .inr ⟨zzI _ z1,Nat.le_of_succ_le z2⟩
  ·rcases tV r n _ h with z|⟨z1,z2⟩
   ·exact .inl z
   ·exact .inr ⟨zzI _ z1,z2⟩
theorem pq{x:Str}{c:Addr}:∀(names:List (Str×NameKind)) (n:Nat) (acc:List (Str×Addr)),(cellsFrom n names acc).lookup x=some c->acc.lookup x=some c\/(x,NameKind.cell)∈names/\n<=c
 |[],n,acc,h=>by rw [cellsFrom.eq_def] at h;exact .inl h
 | (y,k)::r,n,acc,h=>by
  rw [cellsFrom.eq_def] at h;dsimp only at h;split at h
  ·rename_i hk;cases eq_of_beq hk;rcases pq r (n+1) _ h with z|⟨z1,z2⟩
   ·rw [zz5] at z;cases e:x==y with
    |true=>rw [e] at z;cases z;cases eq_of_beq e;exact .inr ⟨zzP ..,zzE _⟩
    |false=>rw [e] at z;exact .inl z
   ·exact .inr ⟨zzI _ z1,Nat.le_of_succ_le z2⟩
  ·rcases pq r n _ h with z|⟨z1,z2⟩
   ·exact .inl z
   ·exact .inr ⟨zzI _ z1,z2⟩
theorem o6{x:Str}:∀(names:List (Str×NameKind)) (n:Nat) (acc:List (Str×Addr)),(x,NameKind.cell)∉names->(cellsFrom n names acc).lookup x=acc.lookup x
 |[],n,acc,_=>by rw [cellsFrom.eq_def]
 |(y,k)::r,n,acc,h=>by
  rw [cellsFrom.eq_def];dsimp only;have hr:(x,NameKind.cell)∉r:=λz=>h (zzI _ z)
  split
  ·rename_i hk;cases eq_of_beq hk;rw [o6 r (n+1) _ hr,zz5];cases e:x==y with
   |true=>cases eq_of_beq e;exact absurd (zzP ..) h
   |false=>rfl
  ·exact o6 r n acc hr
theorem Hg{x:Str}{c:Addr}:∀(names:List (Str×NameKind)) (n:Nat) (acc:List (Str×Addr)),(x,c)∈cellsFrom n names acc->(∀p∈acc,p.2≠c)->(x,c)∈cellsFrom n names []
 |names,n,acc,h,ha=>by
  have key:∀(names:List (Str×NameKind)) (n:Nat) (acc b:List (Str×Addr)),(x,c)∈cellsFrom n names (b++acc)->(∀p∈acc,p.2≠c)->(x,c)∈cellsFrom n names b:=by
   intro names
   induction names with
   |nil=>
    intro n acc b h ha;rw [cellsFrom.eq_def] at h⊢;rcases List.mem_append.mp h with z|z
    ·exact z
    ·exact absurd rfl (ha _ z)
   |cons y r ih=>
    intro n acc b h ha;obtain⟨y,k⟩:=y
    rw [cellsFrom.eq_def] at h⊢;dsimp only at h⊢;split at h
    ·rename_i hk;rw [if_pos hk];exact ih (n+1) acc ((y,n)::b) h ha
    ·rename_i hk;rw [if_neg hk];exact ih n acc b h ha
  exact key names n acc [] h ha
theorem pN{x y:Str}{c:Addr}:∀(names:List (Str×NameKind)) (n:Nat) (acc:List (Str×Addr)),(∀p∈acc,p.2<n)->n<=c->(x,c)∈cellsFrom n names acc->(y,c)∈cellsFrom n names acc->x=y
 |[],n,acc,ha,hc,h1,h2=>by
  rw [cellsFrom.eq_def] at h1;exact absurd (ha _ h1) (Nat.not_lt.mpr hc)
 | (z,k)::r,n,acc,ha,hc,h1,h2=>by
  rw [cellsFrom.eq_def] at h1 h2;dsimp only at h1 h2;split at h1
  ·rename_i hk;rw [if_pos hk] at h2;have ha':∀p∈(z,n)::acc,p.2<n+1:=λp hp=>by
    rcases zzm.mp hp with q|q
    ·rw [q];exact Nat.lt_succ_self _
    ·exact Nat.lt_succ_of_lt (ha p q)
   by_cases hn:n+1<=c
   ·exact pN r (n+1) _ ha' hn h1 h2
   ·have one:∀{w:Str},(w,c)∈cellsFrom (n+1) r ((z,n)::acc)->w=z:=λ{w} h=>by
     rcases tV r (n+1) _ h with q|q
     ·rcases zzm.mp q with q|q
      ·cases q;rfl
      ·exact absurd (ha _ q) (Nat.not_lt.mpr hc)
     ·exact absurd q.2 hn
    rw [one h1,one h2]
  ·rename_i hk;rw [if_neg hk] at h2;exact pN r n acc ha hc h1 h2
def uc{M:Model}{A:Around}{E:Value->Shared->Prop}{s:Shared}{scope:Scope}{g:Addr}{cl:List (Str×Addr)}{qual:Str}{around:Env}{Q:Env->Shared->Prop}
 (h:Q (newEnv scope (zz9 s) g (cellsFrom ((zz9 s)+1) scope.names cl) qual none .none (some around) builtinsNs) {s with heap:=pushCells (s.heap.push {cls:=.type "dict",data:=.dict #[]}) scope.names}):
 wpAny M A (newFunctionEnv scope g cl [] qual none .none (some around)) Q E s:=by
 unfold newFunctionEnv;refine zzA (wpAny_alloc ?_);refine zzA (wpAny_forIn_list _ (λrest b s'=>s'={s with heap:=s'.heap}/\pushCells s'.heap rest=pushCells (s.heap.push {cls:=.type "dict",data:=.dict #[]}) scope.names/\cellsFrom (zz9 s') rest b=cellsFrom ((zz9 s)+1) scope.names cl) _ (λx rest b s' hI=>?_) (λb s' hI=>?_) scope.names cl ⟨rfl,rfl,by rw [Heap.size_push]⟩)
 ·obtain⟨h1,h2,h3⟩:=hI
  obtain⟨nm,k⟩:=x
  rw [pushCells.eq_def] at h2;rw [cellsFrom.eq_def] at h3;dsimp only at h2 h3⊢;split
  ·rename_i hk;rw [if_pos hk] at h2 h3;refine zzA (wpAny_alloc (zzG ⟨by rw [h1],h2,?_⟩));dsimp only;rw [Heap.size_push];exact h3
  ·rename_i hk;rw [if_neg hk] at h2 h3;exact zzG ⟨h1,h2,h3⟩
 ·obtain⟨h1,h2,h3⟩:=hI
  rw [pushCells.eq_def] at h2;rw [cellsFrom.eq_def] at h3;dsimp only at h2 h3;subst h3;rw [h1,h2];exact zzA (zzG (zzG h))
noncomputable def bV(X:Cx)(N':List Str)(scope:Scope)(cl:List (Str×Addr))(fp:List Addr)(s₁:Shared)(H₁:Hp)(C:Addr):Cx where
 prog:=X.prog
 w:=X.w
 K:=X.K
 mg:=X.mg
 base:=X.base
 A:=X.A
 N:=N'
 s₀:=s₁
 H₀:=H₁
 env:=compEnvC scope (cellsFrom (C+1) scope.names cl) C X.env
 outer:=X.stack
 stack:=X.stack
 ex:=fp
 fn:=lW scope
 calm:=true
 pn:=[]
 xe:=λ_ _=>False
theorem fI{env:Env}:∀{ys:List Str},(ys.all λy=>(env.cells.lookup y).isSome)=true->∀(x:Str) (c:Addr),(cA env ys).lookup x=some c->env.cells.lookup x=some c
 |[],_,_,_,h=>by simp [cA] at h
 |y::ys,ha,x,c,h=>by
  rw [List.all_cons,zza] at ha;have ih:=fI (env:=env) ha.2 x c
  unfold cA at h ih;rw [zzF,zz5] at h;cases e:x==y with
  |true=>
   rw [e] at h;have SS:x=y:=zzy.mp e
   subst SS;obtain⟨c',p9⟩:=zzp.mp ha.1
   rw [p9] at h⊢;exact h
  |false=>
   rw [e] at h;exact ih h
theorem lG{env:Env}:∀{ys:List Str} {x:Str},x∈ys->∃c,(cA env ys).lookup x=some c
 |[],_,h=>nomatch h
 |y::ys,x,h=>by
  unfold cA;rw [zzF,zz5];cases e:x==y with
  |true=>exact⟨_,rfl⟩
  |false=>
   have hx:x∈ys:=by
    rcases zzm.mp h with z|z
    ·rw [z] at e;simp at e
    ·exact z
   exact lG (env:=env) hx
def i8{scope:Scope}{env:Env}{x:Str}{k:NameKind}(h:(relabel scope env).names.lookup x=some k)(hk:k=.cell\/k=.free):∃k',(x,k')∈scope.names/\(k'=.cell\/k'=.free):=by
 have hm:=PySem.mem_of_lookup h
 unfold relabel at hm;obtain⟨⟨n,k0⟩,h0,e⟩:=zzx.mp hm
 dsimp only at e;split at e
 ·rename_i hc;cases e;refine⟨k0,h0,.inr ?_⟩;rw [zza,zza] at hc;exact zzy.mp hc.1.1
 ·cases e;exact⟨k,h0,hk⟩
structure eo(X:Cx)(scope:Scope)(xs ys:List Str)(is:List Nat):Prop where
 kind:scope.kind=.function
 NG:closureFor scope X.env=pure (cA X.env ys)
 cells:(ys.all λy=>(X.env.cells.lookup y).isSome)=true
 LG:(scope.names.all λy=>(decide (y.2≠.cell)||!ys.contains y.1)&&(decide (y.2≠.free)||ys.contains y.1))=true
 own:(scope.names.all λy=>decide (y.2≠.cell)||decide (scope.names.lookup y.1=some .cell))=true
 names:(scope.names.all λy=>decide (y.2≠.local)||decide (scope.names.lookup y.1=some .local))=true
 slots:is.map (λi=>X.N[i]?)=ys.map some
 kX:(ys.all λy=>decide (X.env.kindOf y=some .cell))=true
 kY:(ys.all λy=>decide ((relabel scope X.env).names.lookup y=some .cell))=true
section
variable{X:Cx}{aa:List (Addr×Obj)}{σ:St}{H:Hp}{s:Shared}{scope:Scope}{xs ys:List Str}{is:List Nat}
def eo.ji(S:eo X scope xs ys is){x:Str}(h:(x,NameKind.cell)∈scope.names):scope.names.lookup x=some .cell/\x∉ys:=by
 have q:=zzT.mp S.own _ h
 have c:=zzT.mp S.LG _ h
 rw [zza,zzt] at c;rw [zzt] at q;refine⟨zzY (q.resolve_left λz=>zzY z rfl),λhy=>?_⟩
 rcases c.1 with z|z
 ·exact zzY z rfl
 ·rw [zzn.mpr hy] at z;cases z
def fG(I:Inv X aa σ H s)(S:eo X scope xs ys is){C:Addr}(hC:(zz9 s)<=C){x:Str}{c:Addr}(h:(cellsFrom (C+1) scope.names (cA X.env ys)).lookup x=some c):
 (X.env.cells.lookup x=some c/\c<(zz9 s)/\x∈ys)\/((x,NameKind.cell)∈scope.names/\C+1<=c):=by
 rcases pq _ _ _ h with z|z
 ·have e:=fI S.cells x c z
  obtain⟨v,q⟩:=I.cell x c e
  refine .inl ⟨e,q.lt,?_⟩;have hm:=PySem.mem_of_lookup z
  unfold cA at hm;obtain⟨y,hy,e2⟩:=zzx.mp hm
  cases e2;exact hy
 ·exact .inr z
def vP(I:Inv X aa σ H s)(hc:X.calm=true)(S:eo X scope xs ys is){N':List Str}{fp:List Addr}{C:Addr}(hC:(zz9 s)<=C)(hf:∀b∈fp,gc X aa H b)(GV:∀b∈fp,b<(zz9 s)):
 (bV X N' scope (cA X.env ys) fp s H C).Ok where
 mod:=I.ok.mod
 kind:=S.kind
 glob:=I.ok.glob
 blt:=I.ok.blt
 above:=hC
 inj:=λx y c h1 h2=>by
  rcases fG I S hC h1 with z1|z1
  ·rcases fG I S hC h2 with z2|z2
   ·exact I.ok.inj x y c z1.1 z2.1
   ·exact absurd z1.2.1 (Nat.not_lt.mpr (zzU hC (Nat.le_of_succ_le z2.2)))
  ·refine pN scope.names (C+1) (cA X.env ys) (λp hp=>?_) z1.2 (PySem.mem_of_lookup h1) (PySem.mem_of_lookup h2);unfold cA at hp;obtain⟨y,hy,rfl⟩:=zzx.mp hp
   obtain⟨c',p9⟩:=zzp.mp (zzT.mp S.cells y hy)
   obtain⟨v,q⟩:=I.cell y c' p9
   dsimp only;rw [p9];exact Nat.lt_succ_of_le (zzU (Nat.le_of_lt q.lt) hC)
 has:=λx hx=>by
  have p8:(relabel scope X.env).names.lookup x=some .cell\/(relabel scope X.env).names.lookup x=some .free:=hx
  have:∃k',(x,k')∈scope.names/\(k'=.cell\/k'=.free):=by
   rcases p8 with z|z
   ·exact i8 z (.inl rfl)
   ·exact i8 z (.inr rfl)
  obtain⟨k',hm,hk⟩:=this
  have cv:=zzT.mp S.LG _ hm
  rw [zza,zzt,zzt] at cv;rcases hk with z|z
  ·subst z;exact zzp.mp (PySem.W.cellsFrom_some _ _ _ (.inl (S.ji hm).1))
  ·rcases cv.2 with q|q
   ·exact absurd z (zzY q)
   ·refine zzp.mp (PySem.W.cellsFrom_some _ _ _ (.inr ?_));obtain⟨c,e⟩:=lG (env:=X.env) (zzn.mp q)
    rw [e];rfl
 Mg:=λx c h e=>by
  have hm:(x,NameKind.cell)∈scope.names:=PySem.mem_of_lookup (eq_of_beq h)
  rcases fG I S hC e with z|z
  ·exact absurd z.2.2 (S.ji hm).2
  ·exact zzU hC (Nat.le_of_succ_le z.2)
 hd:=λ_=>I.ok.hd hc
 frames:=I.ok.frames
 LJ:=.inl rfl
 exf:=λb hb=>⟨zzb (zzW (GV b hb) hC),λx c h=>(fG I S hC h).elim (λz=>(hf b hb).2.2.2.2.1 x c z.1) λz q=>absurd (GV b hb) (Nat.not_lt.mpr (q▸zzU hC (Nat.le_of_succ_le z.2)))⟩
 bs:=λb o e=>I.bs b o e
 Eo:=zzU I.ok.Eo I.sz
 Cs:=λb o e hb=>by
  rcases(hf b hb).2.2.2.1 with z|z
  ·exact I.ok.Cs b o e z
  ·exact absurd (zzW (zzO e) (zzU I.ok.Eo z)) (Nat.lt_irrefl _)
 FE:=λb hb hs=>(zzm.mp (I.lJ b hs)).elim (hf b hb).2.1 (hf b hb).2.2.1
 mM:=I.stack
 HK:=λb hb=>I.n6 b hb
theorem vm{N:List Str}:∀{is:List Nat} {ys:List Str},is.map (λi=>N[i]?)=ys.map some->∀(j:Nat) (y:Str) (v:V),ys[j]?=some y->(zk σ is)[j]?=some (some v)->∃i:Nat,N[i]?=some y/\σ[i]?=some (some v)
 |[],[],_,_,_,_,h,_=>by simp at h
 |[],_::_,h,_,_,_,_,_=>by simp at h
 |_::_,[],h,_,_,_,_,_=>by simp at h
 |i::is,y0::ys,h,0,y,v,h1,h2=>by
  rw [zzF,zzF] at h;have h0:=(List.cons.inj h).1
  simp! [List.getElem?_cons_zero,Option.some.injEq] at h1;subst h1;refine⟨i,h0,?_⟩;unfold zk at h2;simp! [zzF,List.getElem?_cons_zero,Option.some.injEq] at h2;exact Option.join_eq_some_iff.mp h2
 |i::is,y0::ys,h,j+1,y,v,h1,h2=>by
  rw [zzF,zzF] at h;refine vm (is:=is) (ys:=ys) (List.cons.inj h).2 j y v (by simpa using h1) ?_;unfold zk at h2⊢
  simpa using h2
abbrev lobj(ak:List Value)(n:Nat):Obj:={cls:=.type "list",data:=.seq ak.toArray n}
def vK(ak:List Value)(n:Nat)(v:Option Value):(lobj ak n).data≠.cell v:=λz=>by cases z
abbrev tests(ifs:List Expr)(env:Env):Sem Bool:=forIn ifs true λc r=>if r=true then do let ok<-isTrue c env (eval c env);pure (ForInStep.yield ok) else pure (ForInStep.yield r)
theorem pB{prog:Program}{w:World}{A:Around}{R:Result->Shared->Prop}{s:Shared}{elt target iter:Expr}{ifs:List Expr}{scope:Scope}{pos:Pos}{it acc:Value}{env:Env}(I:Nat->Shared->Prop)
 (turn:∀n s,I n s->wpAny (model prog w) A (pyNext it) (λr s₁=>match r with
  |none=>R (.ok .next) s₁
  |some v=>wpAny (model prog w) A (letOwnedTupleGo target it v) (λ_ s₁'=>wpAny (model prog w) A (assign target env v) (λ_ s₂=>
   wpAny (model prog w) A (tests ifs env) (λok s₃=>if ok=true then wpAny (model prog w) A (eval elt env) (λx s₄=>
    wpAny (model prog w) A (call (.builtin "list.append") [acc,x]) (λ_ s₅=>∃m,m<n/\I m s₅) (notedBy (model prog w) A env λe s'=>R (.error e) s') s₄) (notedBy (model prog w) A env λe s'=>R (.error e) s') s₃
    else∃m,m<n/\I m s₃) (notedBy (model prog w) A env λe s'=>R (.error e) s') s₂)
   (notedBy (model prog w) A env λe s'=>R (.error e) s') s₁') (notedBy (model prog w) A env λe s'=>R (.error e) s') s₁) (notedBy (model prog w) A env λe s'=>R (.error e) s') s)
 (n:Nat) (h:I n s):
 codeAny (model prog w) A (.compLoop (.ListComp elt [⟨target,iter,ifs,0⟩] scope pos) 0 it acc env) R s:=by
 refine codeAny_loop rfl I (λn s hI=>?_) n h;show wpAny _ A ((compTurn (.ListComp elt [⟨target,iter,ifs,0⟩] scope pos) 0 it acc env).onRaise (λx=>do noteFrame x env;theTreesLotGoes x)) _ _ s;refine wpAny_noted ?_;rw [compTurn_list];refine zzA (wpAny_standAt (zzA (wpAny_mono (turn n s hI) (λr s₁ h₁=>?_) λ_ _ h'=>h')))
 cases r with
 |none=>exact zzG h₁
 |some v=>
  refine zzA (wpAny_mono h₁ (λ_ s₁' h₁'=>?_) λ_ _ h'=>h')
  refine zzA (wpAny_mono h₁' (λ_ s₂ h₂=>zzA (wpAny_mono h₂ (λok s₃ h₃=>?_) λ_ _ h'=>h')) λ_ _ h'=>h')
  cases ok with
  |false=>exact zzG ⟨rfl,h₃⟩
  |true=>exact zzA (zzA (wpAny_mono h₃ (λx s₄ h₄=>zzA (wpAny_mono h₄ (λ_ s₅ h₅=>zzG (zzG ⟨rfl,h₅⟩)) λ_ _ h'=>h')) λ_ _ h'=>h'))
def PL(X:Cx)(ifs:List Expr)(t:TT):Prop:=
 ∀(aa:List (Addr×Obj)) (s:Shared) (σ:St) (H:Hp) (Q:Bool->Hp->Prop),Inv X aa σ H s->t σ H Q->wpAny (model X.prog X.w) X.A (tests ifs X.env) (TP X aa σ Q) X.xe s
def u5{X:Cx}:PL X [] (λ_ H q=>q true H):=λ_ _ _ H _ I h=>wpAny_tests_nil ⟨H,I,h⟩
def u7{X:Cx}{e:Expr}{t:TT}(h:PT X e t):PL X [e] t:=λaa s σ H Q I z=>wpAny_tests_one (h aa s σ H Q I z)
def JO(J:It)(k:Nat)(g:TG)(te:TE)(fs:St)(Q:VK)(H1:Hp):Prop:=∃(n:Nat) (W:Nat->List V->St->Hp->Prop),W 0 [] (List.replicate k none++fs) H1/\
 ∀i ys σ' H',W i ys σ' H'->ys.length<sizeLine/\((J.stop i H'/\∀p,H' p=none->Q (.ref p) (upd H' p (.lst ys)))\/
  (J.go i H'/\i<n/\∀x kH,J.JB i H' x kH->g x σ' kH λσ2 H2=>te σ2 H2 λy H3=>W (i+1) (ys++[y]) σ2 H3))
noncomputable def zY(wi:TI)(k:Nat)(g:TG)(te:TE)(is:List Nat):TE:=λσ H Q=>wi σ H λJ H1=>JO J k g te (zk σ is) Q H1
def B2(J:It)(k:Nat)(g:TG)(tt:TT)(te:TE)(fs:St)(Q:VK)(H1:Hp):Prop:=∃(n:Nat) (W:Nat->List V->St->Hp->Prop),W 0 [] (List.replicate k none++fs) H1/\
 ∀i ys σ' H',W i ys σ' H'->ys.length<sizeLine/\((J.stop i H'/\∀p,H' p=none->Q (.ref p) (upd H' p (.lst ys)))\/
  (J.go i H'/\i<n/\∀x kH,J.JB i H' x kH->g x σ' kH λσ2 H2=>tt σ2 H2 λb H3=>if b=true then te σ2 H3 (λy H4=>W (i+1) (ys++[y]) σ2 H4) else W (i+1) ys σ2 H3))
noncomputable def js(wi:TI)(k:Nat)(g:TG)(tt:TT)(te:TE)(is:List Nat):TE:=λσ H Q=>wi σ H λJ H1=>B2 J k g tt te (zk σ is) Q H1
def fW{elt tg iter:Expr}{ifs:List Expr}{pos pp:Pos}{wi:TI}{g:TG}{te:TE}{tt:TT}{use:Option (Value->Sem Unit)}{QQ:Value->Shared->Prop}{Q:VK}(hc:X.calm=true)(S:eo X scope xs ys is)(hi:PI X tg iter wi)
 (hg:∀fp s1 H1 C,PG (bV X (xs++ys) scope (cA X.env ys) fp s1 H1 C) tg g) (ht:∀fp s1 H1 C,PL (bV X (xs++ys) scope (cA X.env ys) fp s1 H1 C) ifs tt) (he:∀fp s1 H1 C,PE (bV X (xs++ys) scope (cA X.env ys) fp s1 H1 C) elt te)
 (hs:∀x,foldedSetIterable iter X.env x=pure x) (I:Inv X aa σ H s) (h:js wi xs.length g tt te is σ H Q)
 (fin:∀(D C:Addr) (s4:Shared) (H4:Hp) (m:Str->Option Value),Inv X aa σ H4 s4->s4.heap.Ns C m->gc X aa H4 C->Q (.ref D) H4->compPost (model X.prog X.w) X.A X.xe use QQ (.ref D) C (.ok .next) s4):
 wpAny (model X.prog X.w) X.A (comprehension (.ListComp elt [⟨tg,iter,ifs,0⟩] scope pos) scope X.env pp (newList []) false (eval iter X.env) use) QQ X.xe s:=by
 have IQ:∀x∈scope.names,x.2=.local->scope.names.lookup x.1=some .local:=λx hx hl=>by
  have q:=zzT.mp S.names x hx
  rw [zzt] at q;rcases q with q|q
  ·exact absurd hl (zzY q)
  ·exact zzY q
 refine wpAny_comprehension_free (use:=use) (Q:=QQ) (g:=⟨tg,iter,ifs,0⟩) (gs:=[]) rfl hs S.NG S.kind IQ (bD (hi aa s σ H _ I h) λxv s0 h0=>bD h0 λMl s1 h1=>?_)
 obtain⟨it,fp,tn,J,H1,rfl,I1,T,xE,f1,n,W,w0,turn⟩:=h1
 refine wpAny_newObj_type (uc ?_);dsimp only;generalize hH2:s1.heap.push {cls:=.type "list",dict:=none,data:=.seq ([]:List Value).toArray}=G2
 generalize hh₁:pushCells (G2.push {cls:=.type "dict",data:=.dict #[]}) scope.names=h₁
 have O5:∀b o,(G2.push {cls:=.type "dict",data:=.dict #[]}).get? b=some o->h₁.get? b=some o:=λb o e=>by rw [<-hh₁];exact pushCells_keeps _ _ b o e
 have hns₁:h₁.Ns G2.objs.size λ_=>none:=(Heap.Ns.new G2 (.type "dict")).keeps O5
 have Qk:G2.objs.size=(zz9 s1)+1:=by rw [<-hH2,Heap.size_push]
 have mE:(zz9 s1)<=G2.objs.size:=by rw [Qk];exact Nat.le_succ _
 have MD:(zz9 s1)≠G2.objs.size:=by rw [Qk];exact zzb (Nat.lt_succ_self _)
 have old:∀b o,s1.heap.get? b=some o->h₁.get? b=some o:=λb o e=>O5 b o (zzB _ (hH2▸zzB _ e))
 have p5:h₁.get? (zz9 s1)=some (lobj [] 0):=O5 _ _ (zzB _ (hH2▸zzX _ rfl))
 have GV:∀b∈fp,b<(zz9 s1):=λb hb=>by
  obtain⟨o,e,_⟩:=T.obj _ _ xE b hb
  exact zzO e
 generalize hY:bV X (xs++ys) scope (cA X.env ys) fp s1 H1 G2.objs.size=Y
 have SI:Y.Ok:=by rw [<-hY];exact vP I1 hc S mE f1 GV
 have RX:∀b∈fp,(zz9 s1)≠b:=λb hb=>Ne.symm (zzb (GV b hb))
 have PX:∀b,b∈Y.fs->b=X.env.locals\/b∈X.fs:=λb hb=>by
  rw [<-hY] at hb;exact zzm.mp (I1.lJ b hb)
 have Oo:∀b∈Y.fs,b<(zz9 s1):=λb hb=>by
  rw [<-hY] at hb;obtain⟨_,o,ho,_⟩:=I1.stack.mem hb
  exact zzO ho
 have OQ:(zz9 s1)∉Y.fs:=λz=>Nat.lt_irrefl _ (Oo _ z)
 have H9:Y.env.locals=G2.objs.size:=by rw [<-hY];rfl
 have MX:∀x c,Y.env.cells.lookup x=some c->(X.env.cells.lookup x=some c/\c<(zz9 s1)/\x∈ys)\/((x,NameKind.cell)∈scope.names/\G2.objs.size+1<=c):=λx c e=>by
  rw [<-hY] at e;exact fG I1 S mE e
 have Td:∀x c,Y.env.cells.lookup x=some c->G2.objs.size+1<=c->h₁.IsCell c none:=λx c e hle=>by
  rw [<-hY] at e;have hm:(x,c)∈cellsFrom (G2.objs.size+1) scope.names []:=Hg scope.names _ _ (PySem.mem_of_lookup e) λp hp=>by
   unfold cA at hp;obtain⟨y,hy,rfl⟩:=zzx.mp hp
   obtain⟨c',p9⟩:=zzp.mp (zzT.mp S.cells y hy)
   obtain⟨v,q⟩:=I1.cell y c' p9
   dsimp only;rw [p9];exact zzb (zzW q.lt (zzU mE (Nat.le_of_succ_le hle)))
  have ck:=cellsFrom_ok scope.names (G2.push {cls:=.type "dict",data:=.dict #[]}) 0 [] ⟨(λ_ _ z=>nomatch z),.nil⟩ (Nat.zero_le _)
  rw [Heap.size_push,hh₁] at ck;exact(ck.empty x c hm).1
 have TJ:∀x c,Y.env.cells.lookup x=some c->c≠(zz9 s1):=λx c e=>(MX x c e).elim (λz=>zzb z.2.1) λz=>Ne.symm (zzb (zzV mE z.2))
 have xT:Y.pn=[]:=by rw [<-hY];rfl
 have KR:Y.ex=fp:=by rw [<-hY];rfl
 have Kp:Y.s₀=s1:=by rw [<-hY];rfl
 have QI:Y.H₀=H1:=by rw [<-hY];rfl
 have LB:Y.prog=X.prog:=by rw [<-hY];rfl
 have JZ:Y.w=X.w:=by rw [<-hY];rfl
 have QF:Y.K=X.K:=by rw [<-hY];rfl
 have Pc:Y.A=X.A:=by rw [<-hY];rfl
 have SV:compEnvC scope (cellsFrom (G2.objs.size+1) scope.names (cA X.env ys)) G2.objs.size X.env=Y.env:=by rw [<-hY];rfl
 have K9:Y.calm=true:=by rw [<-hY];rfl
 have Hl:Y.xe=λ_ _=>False:=by rw [<-hY];rfl
 have Kb:Y.fs=iE X.stack:=by rw [<-hY];rfl
 have JK:∀{H':Hp} {s':Shared} {ak:List Value} {k:Nat},s'.heap.get? (zz9 s1)=some (lobj ak k)->H' (zz9 s1)=none->∀p∈[((zz9 s1),lobj ak k)],s'.heap.get? p.1=some p.2/\H' p.1=none/\p.1≠Y.env.locals/\p.1∉Y.fs/\∀v,p.2.data≠.cell v:=
  λ{H' s' ak k} e hn p hp=>by
   obtain rfl:=zzi.mp hp
   exact⟨e,hn,by rw [H9];exact MD,OQ,λv=>vK ak k v⟩
 have Pl:∀{H':Hp} {ak:List Value} {k:Nat},(∀b∈fp,H' b=none)->∀b∈fp,gc Y [((zz9 s1),lobj ak k)] H' b:=λ{H' ak k} hn b hb=>
  ⟨hn b hb,by rw [H9];exact zzb (zzW (GV b hb) mE),λz=>(PX b z).elim (f1 b hb).2.1 (f1 b hb).2.2.1,.inl (by rw [KR];exact hb),
   λx c e=>(MX x c e).elim (λz=>(f1 b hb).2.2.2.2.1 x c z.1) (λz q=>absurd (GV b hb) (Nat.not_lt.mpr (q▸zzU mE (Nat.le_of_succ_le z.2)))),λp hp=>by
    rw [xT,List.nil_append] at hp;obtain rfl:=zzi.mp hp
    exact RX b hb⟩
 have L6:H1 (zz9 s1)=none:=I1.bu.fresh (zzE _)
 have I2:∀tk,Inv Y [((zz9 s1),lobj [] 0)] (List.replicate xs.length none++zk σ is) H1 {s1 with heap:=h₁,toks:=tk}:=λtk=>by
  refine⟨SI,by rw [Kp],I1.bare,by rw [Kp,QI];exact Un.kept old,⟨_,by rw [H9];exact hns₁,λi x v e1 e2 e3=>?_⟩,λx c e=>?_,?_,λx c e=>(MX x c e).elim (λz=>I1.i9 x c z.1) (λz=>I1.bu.fresh (zzU mE (Nat.le_of_succ_le z.2))),λp hp=>?_,by rw [LB,JZ];exact I1.bu.kept old,?_⟩
  ·
   have OG:Y.N=xs++ys:=by rw [<-hY];rfl
   rw [OG] at e1
   by_cases cQ:i<xs.length
   ·rw [zzr (by rw [List.length_replicate];exact cQ),List.getElem?_replicate,if_pos cQ] at e2;cases e2
   ·have O6:xs.length<=i:=Nat.not_lt.mp cQ
    rw [zzs (by rw [List.length_replicate];exact O6),List.length_replicate] at e2;rw [zzs O6] at e1;obtain⟨i0,h0,h1⟩:=vm S.slots _ x v e1 e2
    have hm:x∈ys:=zzD e1
    have kx:X.env.kindOf x=some .cell:=zzY (zzT.mp S.kX x hm)
    have ky:(relabel scope X.env).names.lookup x=some .cell:=zzY (zzT.mp S.kY x hm)
    obtain⟨m,_,hl⟩:=I1.loc
    obtain⟨u,ru,lk⟩:=hl i0 x v h0 h1 (.inr (.inl kx))
    refine⟨u,ru,.inr ⟨.inl (by rw [<-hY];exact ky),?_⟩⟩;rcases lk with⟨z,_⟩|⟨_,c,hc1,hc2⟩
    ·rw [kx] at z;cases z
    ·obtain⟨c',p9⟩:=lG (env:=X.env) hm
     have KO:=fI S.cells x c' p9
     rw [hc1] at KO;cases KO;refine⟨c,by rw [<-hY];exact(o6 _ _ _ λz=>(S.ji z).2 hm).trans p9,?_⟩
     obtain⟨o,ho,hd⟩:=hc2
     exact⟨o,old _ _ ho,hd⟩
  ·rcases MX x c e with z|z
   ·obtain⟨v,o,ho,hd⟩:=I1.cell x c z.1
    exact⟨v,o,old _ _ ho,hd⟩
   ·exact⟨none,Td x c e z.2⟩
  ·rw [H9];exact I1.bu.fresh mE
  ·rw [xT,List.nil_append] at hp;exact JK (s':={s1 with heap:=h₁,toks:=tk}) p5 L6 p hp
  ·have OG:Y.N=xs++ys:=by rw [<-hY];rfl
   have hl:=congrArg List.length S.slots
   rw [zzl,zzl] at hl;rw [OG,zzM,zzM,List.length_replicate];unfold zk;rw [zzl,hl]
 have loop:∀s₃:Shared,s₃={s1 with heap:=h₁}->
  codeAny (model X.prog X.w) X.A (.compLoop (.ListComp elt [⟨tg,iter,ifs,0⟩] scope pos) 0 (.ref it) (.ref (zz9 s1)) (compEnvC scope (cellsFrom (G2.objs.size+1) scope.names (cA X.env ys)) G2.objs.size X.env))
   (compPost (model X.prog X.w) X.A X.xe use QQ (.ref (zz9 s1)) G2.objs.size) s₃:=by
  rintro s₃ rfl
  rw [SV];refine pB (λk s'=>∃i made σ' H' ak c,Inv Y [((zz9 s1),lobj ak c)] σ' H' s'/\tn i s'.heap/\(∀b∈fp,H' b=none)/\Vals made ak/\k=n-i/\W i made σ' H') ?_ n
   ⟨0,[],_,H1,[],0,I2 _,T.keep _ _ _ xE λb _ o e=>old b o e,λb hb=>(f1 b hb).1,.nil,rfl,w0⟩
  rintro k s' ⟨i,made,σ',H',ak,c,I3,st3,fr3,rv,rfl,w3⟩
  obtain⟨hz,tw⟩:=turn i made σ' H' w3
  have pD:=I3.pin ((zz9 s1),lobj ak c) (by rw [xT];exact zzi.mpr rfl)
  rcases tw with⟨stop,hq⟩|⟨go,RS,step⟩
  ·rw [<-Pc];refine bD (T.done Y LB JZ QF K9 i _ s' σ' H' _ I3 (Pl fr3) st3 stop) λr s4 ⟨hr,I4⟩=>?_
   subst hr;obtain⟨m,hn4,_⟩:=I4.loc
   rw [H9] at hn4;have Ph:=I4.pin ((zz9 s1),lobj ak c) (by rw [xT];exact zzi.mpr rfl)
   have kp:∀b o,b≠G2.objs.size->s4.heap.get? b=some o->s4.heap.get? b=some o:=λb o hb e=>e
   have OW:∀{b o},s1.heap.get? b=some o->b≠G2.objs.size:=λ{b o} e=>zzb (zzW (zzO e) mE)
   have gy:=I4.base
   rw [Kp,QI,KR,Kb] at gy;have P6:∀{b o},H1 b=some o->b≠(zz9 s1):=λ{b o} e=>zzb (I1.bu.lt e)
   have u:Un (iE X.stack) fp H1 (upd H' (zz9 s1) (.lst made)) s1.heap s4.heap:=by
    refine⟨λb o e n hb hx=>kp b o (OW e) (gy.keep b o e n hb hx),λb o e n hb hx=>?_,λb o e n hx=>?_,λb o e hx=>?_,λb xs e=>?_,λb o u e=>?_,λb ps e=>?_⟩
    ·obtain⟨sl,q⟩:=gy.slot b o e n hb hx
     exact⟨sl,kp b _ (OW e) q⟩
    ·rw [aj (zzb (zzO e))];exact gy.free b o e n hx
    ·obtain⟨o',q⟩:=gy.there b o e hx
     exact⟨o',kp b _ (OW e) q⟩
    ·rw [aj (P6 e)];exact gy.jf b xs e
    ·rw [aj (P6 e)];exact gy.iT b o u e
    ·obtain⟨more,q⟩:=gy.iM b ps e
     exact⟨more,by rw [aj (P6 e)];exact q⟩
   have Qo:H' G2.objs.size=none:=by rw [<-H9];exact I4.free
   have D7:gG X.prog X.w (upd H' (zz9 s1) (.lst made)) s4.heap:=λb o e=>by
    by_cases hb:b=(zz9 s1)
    ·subst hb;rw [ax] at e;cases e;exact⟨Nat.le_of_lt hz,ak,c,rv,kp _ _ MD Ph.1⟩
    ·rw [aj hb] at e;have x4:=I4.bu b o e
     rw [LB,JZ] at x4;have FR:∀b' u,H' b'=some u->b'≠G2.objs.size:=λb' u q z=>by rw [z,Qo] at q;cases q
     have Ry:∀b' u,H' b'=some u->b'≠(zz9 s1):=λb' u q z=>by rw [z,Ph.2.1] at q;cases q
     refine x4.gj (λb' u hb' q=>kp b' u ?_ q) (λb' q=>?_) λb' xs q=>?_
     ·rcases hb' with z|z
      ·rw [z];exact FR b o e
      ·exact FR b' _ z
     ·rw [aj (Ry b' _ q)];exact q
     ·rw [aj (Ry b' _ q)];exact q
   have I5:Inv X aa σ (upd H' (zz9 s1) (.lst made)) s4:=I1.Kq (by show s4.os=s1.os;rw [I4.os,Kp]) u D7 I4.bare λb hb=>⟨(f1 b hb).2.2.2.1,(f1 b hb).2.1,(f1 b hb).2.2.2.2.1,(f1 b hb).2.2.2.2.2⟩
   dsimp only;rw [Pc];exact fin (zz9 s1) G2.objs.size s4 _ m I5 hn4 (I1.lK mE (by rw [aj (Ne.symm MD)];exact Qo)) (hq _ Ph.2.1)
  ·rw [<-Pc];refine bD (T.item Y LB JZ QF K9 i _ s' σ' H' _ I3 (Pl fr3) st3 go) λr s4 ⟨u,hr,h4⟩=>?_
   subst hr;dsimp only;refine bD h4 λ_ s5 ⟨x,H5,I5,r5,y5,st5,fr5⟩=>?_
   have N0:=I5.pinned (Pl fr5) (T.obj _ _ st5)
   have RN:=hg fp s1 H1 G2.objs.size
   have QM:=he fp s1 H1 G2.objs.size
   have RY:=ht fp s1 H1 G2.objs.size
   rw [hY] at RN QM RY;rw [<-LB,<-JZ];refine wpAny_mono (RN _ s5 σ' H5 x u _ N0 r5 (step x H5 y5)) (λ_ s6 ⟨σ6,H6,I6,q6⟩=>?_) (λ_ _ f=>by rw [Hl] at f;exact f.elim);refine wpAny_mono (RY _ s6 σ6 H6 _ I6 q6) (λokb sT ⟨HT,IT,qT⟩=>?_) (λ_ _ f=>by rw [Hl] at f;exact f.elim);have Uv:=IT.pin ((zz9 s1),lobj ak c) (zzR _ (zzc _ (zzi.mpr rfl)))
   have TH:tn (i+1) sT.heap:=T.keep _ _ _ st5 λb hb o e=>(IT.pin (b,o) (zzR _ (zzR _ (dw hb e)))).1
   cases okb with
   |false=>
    refine⟨n-(i+1),by omega,i+1,made,σ6,HT,ak,c,IT.iA,TH,λb hb=>?_,rv,rfl,qT⟩
    obtain⟨o,e,d⟩:=T.obj _ _ st5 b hb
    exact(IT.pin (b,o) (zzR _ (zzR _ (dw hb e)))).2.1
   |true=>
   refine wpAny_mono (QM _ sT σ6 HT _ IT qT) (λv s7 ⟨y,H7,I7,r7,q7⟩=>?_) (λ_ _ f=>by rw [Hl] at f;exact f.elim);have Nz:=I7.pin ((zz9 s1),lobj ak c) (zzR _ (zzc _ (zzi.mpr rfl)))
   have e7:s7.heap.get? (zz9 s1)=some {cls:=.type "list",data:=.seq ak.toArray c}:=Nz.1
   refine append_at (hsz:=by rw [zzC,<-rv.length];exact Nat.le_of_lt hz) e7 λh' uC Na=>?_
   have I8:Inv Y [] σ6 H7 s7:=I7.jv λ_ z=>nomatch z
   have I9:Inv Y [] σ6 H7 {s7 with heap:=h'}:=I8.turned (t':=s7.toks) (it:=(zz9 s1)) (λb o hb e=>uC.extBut b o hb e) Nz.2.1 (by rw [H9];exact MD) (.inr (by rw [Kp];exact zzE _))
    (λx c' e=>TJ x c' e) (λp hp=>by rw [xT] at hp;cases hp)
   have eD:h'.get? (zz9 s1)=some (lobj (ak++[v]) (c+1)):=by rw [Na,List.push_toArray]
   have S5:tn (i+1) s7.heap:=T.keep _ _ _ st5 λb hb o e=>(I7.pin (b,o) (zzR _ (zzR _ (dw hb e)))).1
   refine⟨n-(i+1),by omega,i+1,made++[y],σ6,H7,ak++[v],c+1,I9.jv (JK (s':={s7 with heap:=h'}) eD Nz.2.1),T.keep _ _ _ S5 λb hb o e=>uC.extBut b o (Ne.symm (RX b hb)) e,λb hb=>?_,rv.append (.cons r7 .nil),rfl,q7⟩
   obtain⟨o,e,d⟩:=T.obj _ _ st5 b hb
   exact(I7.pin (b,o) (zzR _ (zzR _ (dw hb e)))).2.1
 exact codeAny_compStart_list (loop _ rfl) (T.self _ 0 _ _ _ (T.keep _ _ _ xE λb _ o e=>old b o e) (loop _ rfl))
def DQ{elt tg iter:Expr}{pos:Pos}{wi:TI}{g:TG}{te:TE}(hc:X.calm=true)(S:eo X scope xs ys is)(hi:PI X tg iter wi)
 (hg:∀fp s1 H1 C,PG (bV X (xs++ys) scope (cA X.env ys) fp s1 H1 C) tg g) (he:∀fp s1 H1 C,PE (bV X (xs++ys) scope (cA X.env ys) fp s1 H1 C) elt te)
 (hs:∀x,foldedSetIterable iter X.env x=pure x:=by intro _;rfl):
 PE X (.ListComp elt [⟨tg,iter,[],0⟩] scope pos) (zY wi xs.length g te is):=by
 intro aa s σ H Q I h;rw [eval_ListComp];exact fW (use:=none) (Q:=Q) hc S hi hg (λ_ _ _ _=>u5) he hs I h (λD C s4 H4 m I5 hn ⟨g0,g1,_,g3,g4,g5⟩ q=>⟨m,hn,λh' uC=>⟨.ref D,H4,I5.turned (t':=s4.toks) (it:=C) (λb o hb e=>uC.extBut b o hb e) g0 g1 g3 g4 g5,rfl,q⟩⟩)
def wj{elt tg iter E8:Expr}{pos:Pos}{wi:TI}{g:TG}{te:TE}{tt:TT}(hc:X.calm=true)(S:eo X scope xs ys is)(hi:PI X tg iter wi)
 (hg:∀fp s1 H1 C,PG (bV X (xs++ys) scope (cA X.env ys) fp s1 H1 C) tg g) (ht:∀fp s1 H1 C,PT (bV X (xs++ys) scope (cA X.env ys) fp s1 H1 C) E8 tt) (he:∀fp s1 H1 C,PE (bV X (xs++ys) scope (cA X.env ys) fp s1 H1 C) elt te)
 (hs:∀x,foldedSetIterable iter X.env x=pure x:=by intro _;rfl):
 PE X (.ListComp elt [⟨tg,iter,[E8],0⟩] scope pos) (js wi xs.length g tt te is):=by
 intro aa s σ H Q I h;rw [eval_ListComp];exact fW (use:=none) (Q:=Q) hc S hi hg (λfp s1 H1 C=>u7 (ht fp s1 H1 C)) he hs I h (λD C s4 H4 m I5 hn ⟨g0,g1,_,g3,g4,g5⟩ q=>⟨m,hn,λh' uC=>⟨.ref D,H4,I5.turned (t':=s4.toks) (it:=C) (λb o hb e=>uC.extBut b o hb e) g0 g1 g3 g4 g5,rfl,q⟩⟩)
end
def bf{H:Hp}{p:Addr}{o:HO}(h:H p=none):az H (upd H p o):=λb u e=>by rw [aj (dt e h)];exact e
theorem nV{α β:Type}{R:α->β->Prop}:∀(xs:List α) (us:List β),xs.length=us.length->(∀(j:Nat) x u,xs[j]?=some x->us[j]?=some u->R x u)->Paired R xs us
 |[],[],_,_=>.nil
 |[],_::_,h,_=>by simp at h
 |_::_,[],h,_=>by simp at h
 |x::xs,u::us,h,k=>.cons (k 0 x u rfl rfl) (nV xs us (by simpa using h) λj x' u' h1 h2=>k (j+1) x' u' (by simpa using h1) (by simpa using h2))
section
variable{X:Cx}
def range_all(bs:List Bool):(List.range bs.length).all (λi=>(bs[i]?).getD true)=bs.all id:=by
 rw [Bool.eq_iff_iff,zzT,zzT]
 constructor
 ·intro h b hb;obtain⟨i,hi,e⟩:=List.getElem_of_mem hb
  have q:=h i (List.mem_range.mpr hi)
  rw [zzg hi,Option.getD_some,e] at q;exact q
 ·intro h i hi;have LQ:=List.mem_range.mp hi
  rw [zzg LQ,Option.getD_some];exact h _ (List.getElem_mem LQ)
def Ar(hc:X.calm=true):bR X (.builtin "all") (λxs H Q=>∃(p:Addr) (bs:List Bool),xs=[.ref p]/\dz X.K H p (bs.map V.bl)/\Q (.bl (bs.all id)) H):=by
 intro aa s σ H xs us Q I r h;obtain⟨p,bs,rfl,hp,q⟩:=h
 obtain⟨u,rfl,ru⟩:=vals1 r
 cases ru;obtain⟨ak,rv,pl,hz⟩:=I.list hp
 have cQ:p<(zz9 s):=by obtain⟨_,e,_⟩:=pl.isList;exact zzO e
 have hlen:ak.length=bs.length:=by rw [<-rv.length,zzl]
 refine call_all_walk (wpAny_pyIter_list pl.isList ?_);refine⟨(zz9 s),_,_,ak.toArray.size,_,_,λi=>(bs[i]?).getD true,rfl,Walks.list (A:=X.A.in1) (I.ok.hd hc) (zz9 s) p (zzb cQ) ak.toArray,⟨⟨_,zzX _ rfl,rfl,rfl⟩,pl.isList.push _⟩,λi v s2 Q2 E2 hP hQ=>?_,λh' tk hk=>?_⟩
 ·have hv:ak[i]?=some v:=by simpa using hP
  have hi:i<bs.length:=by rw [<-hlen];exact(zzH.mp hv).1
  obtain⟨u,hu,ru⟩:=rv.get (i:=i) (x:=V.bl bs[i]) (by rw [zzQ,zzg hi];rfl)
  rw [hv] at hu;cases hu;have e:v=Value.bool bs[i]:=ru
  rw [e];have q2:Q2 ((bs[i]?).getD true) s2:=hQ
  rw [zzg hi,Option.getD_some] at q2;exact wpAny_truthy_bool q2
 ·rw [zzC,hlen,range_all];exact⟨.bl (bs.all id),H,I.kept λb o e=>hk b o (by simp;exact zzb (zzO e)) (zzB _ e),rfl,q⟩
def Aj:fw X (compareOp .Is) (λx y H Q=>∃c d,x=.bl c/\y=.bl d/\Q (.bl (c==d)) H):=by
 intro aa s σ H x y v u Q I rx ry h;obtain⟨c,d,rfl,rfl,q⟩:=h
 cases rx;cases ry;exact is_bool (pJ I q rfl)
def qy:fw X (compareOp .IsNot) (λx y H Q=>∃c d,x=.bl c/\y=.bl d/\Q (.bl (c !=d)) H):=by
 intro aa s σ H x y v u Q I rx ry h;obtain⟨c,d,rfl,rfl,q⟩:=h
 cases rx;cases ry;exact isnot_bool (pJ I q rfl)
def iK(hc:X.calm=true):bR X (.type "list") (λxs H Q=>∃z,xs=[.str z]/\z.length<=sizeLine/\∀l,H l=none->Q (.ref l) (upd H l (.lst (z.cps.toList.map λc=>V.str ⟨#[c]⟩)))):=by
 intro aa s σ H xs us Q I r h;obtain⟨z,rfl,hz,q⟩:=h
 obtain⟨u,rfl,rx⟩:=vals1 r
 obtain⟨t,rfl⟩:=rx
 refine call_list_str (I.ok.hd hc) z t (λh' tk dH c' kp e ha=>?_) hz;have rv:Vals (z.cps.toList.map λc=>V.str ⟨#[c]⟩) dH.toList:=by
  refine nV _ _ (by rw [zzl,zzd,zzd];exact ha.1.symm) λj x u h1 h2=>?_
  obtain⟨c,t',hc,rfl⟩:=ha.2 j u (by rw [<-Array.getElem?_toList];exact h2)
  rw [zzQ,Array.getElem?_toList,hc] at h1;have e1:V.str ⟨#[c]⟩=x:=zzq h1
  subst e1;exact⟨t',rfl⟩
 exact⟨.ref (zz9 s),_,I.laid (t':=tk) kp (zzE _) (show bT X.prog X.w _ h' _ (.lst _) from⟨by rw [zzl];exact hz,dH.toList,c',rv,by simpa using e⟩),rfl,q _ (I.bu.fresh (zzE _))⟩
end
end L2
namespace Cw
open PySem L2
def sgn(c:Nat):Bool:=c==35||(48<=c&&c<=57)
def TQ:V->Bool
 |.str z=>decide (1<=z.cps.toList.length)&&decide (z.cps.toList.length<=12)&&z.cps.toList.all sgn
 |_=>false
def L3:V->Nat
 |.str z=>z.cps.toList.length
 |_=>0
section
variable{K:zz8}
abbrev A1(K:zz8)(t n:String)(b:Bool):Prop:=PySem.W.kitOne K (.type t) (.type n)=some b
def yf{K:zz8}(t:String):A1 K t t true:=by unfold A1 PySem.W.kitOne;rw [if_pos (by simp)]
def yK{t n:String}{b:Bool}(h0:(Value.type t==Value.type n)=false)(h1:PySem.W.kitMeta n=true)(h2:(fastBuiltinMro t).map (·.contains (Value.type n))=some b):A1 K t n b:=by
 unfold A1 PySem.W.kitOne;rw [if_neg (by rw [h0];exact zzf)];show(if PySem.W.kitMeta n=true then PySem.W.subIn K (.type t) (.type n) else none)=some b
 rw [if_pos h1];exact h2
end
abbrev QG:Str:="#0123456789"
end Cw
namespace L2
open PySem PySem.Spec PyProof.Rows
structure FK(K:zz8)(C:Addr):Prop where
 ga:PySem.W.findIn K (.ref C) "__getattribute__"=some (some (.builtin "BaseException.__getattribute__"))
 hk:PySem.W.findIn K (.ref C) "__getattr__"=some none
 cl:PySem.W.findIn K (.ref C) "__class__"=some (some (.builtin "object.__class__"))
 mo:PySem.W.mroIn K C (.type "object")=some true
 mb:PySem.W.mroIn K C (.type "BaseException")=some true
 is:(PySem.W.clsIn K C).isSome=true
open PySem.AutoSeq1 (wpAny_loadPart')
end L2
namespace Cw
open PySem L2
end Cw
namespace L2
open PySem PySem.Spec PyProof.Rows
section
variable{X:Cx}
def o7:bR X (.type "int") (λxs H Q=>∃z n,xs=[.str z]/\PySem.intText? z=some n/\z.length<=640/\Q (.int n) H):=by
 intro aa s σ H xs us Q I r h;obtain⟨z,n,rfl,h1,h2,q⟩:=h
 obtain⟨u,rfl,t,rfl⟩:=vals1 r
 exact PySem.W.KIN.call_text h1 h2 ⟨.int n,H,I.tok _,⟨_,rfl⟩,q⟩
end
end L2
namespace Cw
open PySem L2
end Cw
namespace L2
open PySem PySem.Spec PyProof.Rows
theorem nQ{α β:Type}{R:α->β->Prop}:∀{xs:List α} {ys:List β},Paired R xs ys->∀{i:Nat} {x:α},xs[i]?=some x->∃y,ys[i]?=some y/\R x y
 |_,_,.nil,_,_,h=>by simp at h
 |_,_,.cons r t,0,x,h=>by simp at h;subst h;exact⟨_,rfl,r⟩
 |_,_,.cons r t,i+1,x,h=>by
  obtain⟨y,h1,h2⟩:=nQ t (i:=i) (x:=x) (by simpa using h)
  exact⟨y,by simpa using h1,h2⟩
theorem k8{α β:Type}{R:α->β->Prop}:∀{xs:List α} {ys:List β},Paired R xs ys->xs.length=ys.length
 |_,_,.nil=>rfl
 |_,_,.cons _ t=>by simp [k8 t]
section
def x6{vs:List V}{ak:List Value}(r:Vals vs ak){j:Nat}(h:j<ak.toArray.size):∃v,vs[j]?=some v/\RelV v ak.toArray[j]:=by
 have hl:=r.length
 rw [zzC] at h;have hj:j<vs.length:=by omega
 obtain⟨u,hu,ru⟩:=r.get (i:=j) (x:=vs[j]) (zzg hj)
 rw [zzg h] at hu;cases hu;exact⟨_,zzg hj,by simpa using ru⟩
end
abbrev tG:HO:=.ext λ_=>True
def uL(Z:List (Addr×Obj))(H:Hp):Hp:=λb=>match Z.lookup b with
 |some o=>some (.cX o tG)
 |none=>H b
def fN(Z:List (Addr×Obj))(H:Hp):Hp:=λb=>match Z.lookup b with
 |some _=>none
 |none=>H b
section
variable{Z:List (Addr×Obj)}{H:Hp}{b:Addr}{o:Obj}
def JS(e:Z.lookup b=some o):uL Z H b=some (.cX o tG):=by unfold uL;rw [e]
def Ju(e:Z.lookup b=none):uL Z H b=H b:=by unfold uL;rw [e]
def qq(e:Z.lookup b=some o):fN Z H b=none:=by unfold fN;rw [e]
def eO(e:Z.lookup b=none):fN Z H b=H b:=by unfold fN;rw [e]
def tR{u:HO}(e:fN Z H b=some u):Z.lookup b=none/\H b=some u:=by
 cases q:Z.lookup b with
 |none=>rw [eO q] at e;exact⟨rfl,e⟩
 |some o=>rw [qq q] at e;cases e
def sH(h:H b=none):fN Z H b=none:=by
 cases q:Z.lookup b with
 |none=>rw [eO q];exact h
 |some o=>exact qq q
structure Uu(Z:List (Addr×Obj))(H:Hp)(fs:List Addr)(h:Heap):Prop where
 at_:∀b o,Z.lookup b=some o->h.get? b=some o
 no:∀b o,Z.lookup b=some o->H b=none
 fr:∀b o,Z.lookup b=some o->b∉fs
end
def Fs(mg:Str->Option Value)(base:Heap):Prop:=∃bm o,mg "__builtins__"=some (.ref bm)/\bm≠builtinsNs/\bm≠mainGlobals/\base.get? bm=some o/\o.cls=.type "module"/\o.dict=some builtinsNs/\o.data=.plain
section
end
section
end
section
variable{a b:Expr}
end
section
end
section
variable{κ:Type} [DecidableEq κ]
def iS(aA:List (κ×V))(k:κ):Option V:=(aA.find? λkv=>decide (kv.1=k)).map (·.2)
def putK(aA:List (κ×V))(k:κ)(v:V):List (κ×V):=
 if(aA.any λkv=>decide (kv.1=k))=true then aA.map (λkv=>if kv.1=k then(kv.1,v) else kv) else aA++[(k,v)]
def iB{p:κ×V}{r:List (κ×V)}{k:κ}(e:p.1=k):iS (p::r) k=some p.2:=by simp [iS,List.find?_cons,e]
def ik{p:κ×V}{r:List (κ×V)}{k:κ}(e:¬p.1=k):iS (p::r) k=iS r k:=by simp [iS,List.find?_cons,e]
theorem kb(k:κ):∀aA:List (κ×V),(aA.any λkv=>decide (kv.1=k))=(iS aA k).isSome
 |[]=>rfl
 |p::r=>by
  rw [List.any_cons]
  by_cases e:p.1=k
  ·simp! [iB e,zzh e,Bool.true_or,Option.isSome_some]
  ·rw [ik e,zz0 e,Bool.false_or];exact kb k r
def d9(aA:List (κ×V))(k:κ)(v:V):(putK aA k v).length<=aA.length+1:=by
 unfold putK;split
 ·rw [zzl];omega
 ·rw [zzM,zzL,List.length_nil];omega
def j4.eN{o:Option V}{u:Option Value}(r:j4 o u):o.isSome=u.isSome:=by
 cases o with
 |none=>cases u with
  |none=>rfl
  |some _=>exact(show False from r).elim
 |some _=>cases u with
  |none=>exact(show False from r).elim
  |some _=>rfl
def j4.getD{o:Option V}{u:Option Value}{d:V}{d':Value}(r:j4 o u)(rd:RelV d d'):RelV (o.getD d) (u.getD d'):=by
 cases o with
 |none=>cases u with
  |none=>exact rd
  |some _=>exact(show False from r).elim
 |some _=>cases u with
  |none=>exact(show False from r).elim
  |some _=>exact r
def KV.val{aA:List (κ×V)}{vs:List (κ×Value)}(r:KV aA vs)(k:κ):j4 (iS aA k) (valueAt vs k):=by
 unfold KV at r
 induction r with
 |nil=>exact True.intro
 |@cons p q ps qs h t ih=>
  obtain⟨h1,h2⟩:=h
  by_cases e:p.1=k
  ·have e':q.1=k:=h1.symm.trans e
   have b:valueAt (q::qs) k=some q.2:=by simp [valueAt,List.find?_cons,e']
   rw [iB e,b];exact h2
  ·have e':¬q.1=k:=λz=>e (h1.trans z)
   have b:valueAt (q::qs) k=valueAt qs k:=by simp [valueAt,List.find?_cons,e']
   rw [ik e,b];exact ih
def KV.any{aA:List (κ×V)}{vs:List (κ×Value)}(r:KV aA vs)(k:κ):(aA.any λkv=>decide (kv.1=k))=vs.any λkv=>decide (kv.1=k):=by
 unfold KV at r
 induction r with
 |nil=>rfl
 |cons h t ih=>rw [List.any_cons,List.any_cons,ih,h.1]
def KV.IM{aA:List (κ×V)}{vs:List (κ×Value)}(r:KV aA vs)(k:κ){y:V}{u:Value}(ry:RelV y u):
 KV (aA.map λkv=>if kv.1=k then(kv.1,y) else kv) (vs.map λkv=>if kv.1=k then(kv.1,u) else kv):=by
 unfold KV at r⊢
 induction r with
 |nil=>exact .nil
 |@cons p q ps qs h t ih=>
  rw [zzF,zzF];refine .cons ?_ ih;obtain⟨h1,h2⟩:=h
  by_cases e:p.1=k
  ·rw [if_pos e,if_pos (h1.symm.trans e)];exact⟨h1,ry⟩
  ·rw [if_neg e,if_neg (λz=>e (h1.trans z))];exact⟨h1,h2⟩
def KV.put{aA:List (κ×V)}{vs:List (κ×Value)}(r:KV aA vs)(k:κ){y:V}{u:Value}(ry:RelV y u):KV (putK aA k y) (stored vs k u):=by
 unfold putK stored;rw [r.any k]
 by_cases e:(vs.any λkv=>decide (kv.1=k))=true
 ·rw [if_pos e,if_pos e];exact r.IM k ry
 ·rw [if_neg e,if_neg e];exact Paired.snoc r ⟨rfl,ry⟩
def KV.length{aA:List (κ×V)}{vs:List (κ×Value)}(r:KV aA vs):aA.length=vs.length:=Paired.length r
end
def rk{P:Program}{w:World}{k:Key}{u:Value}(r:RelV (kV k) u):(bB P w).is k u=true:=by
 cases k with
 |inl i=>obtain⟨t,e⟩:=(show∃t,u=Value.int i t from r);subst e;exact rl P w i t
 |inr x=>obtain⟨t,e⟩:=(show∃t,u=Value.str x t from r);subst e;exact qU P w x t
theorem ni{P:Program}{w:World}:∀{ks:List Key} {us:List Value},Vals (ks.map kV) us->ItemsAre (bB P w) ks us
 |[],_,r=>by rw [List.map_nil] at r;cases r;exact .nil
 |k::ks,_,r=>by
  rw [zzF] at r;cases r with
  |cons h t=>exact .cons (rk h) (ni t)
abbrev KT(H:Hp):List (List Key×V)->List (List Key×Addr×Value)->Prop:=Paired λp q=>p.1=q.1/\H q.2.1=some (.tup (p.1.map kV))/\RelV p.2 q.2.2
def KT.val{H:Hp}{aA:List (List Key×V)}{xs:List (List Key×Addr×Value)}(r:KT H aA xs)(k:List Key):j4 (iS aA k) ((atKey xs k).map (·.2)):=by
 induction r with
 |nil=>exact True.intro
 |@cons p q ps qs h t ih=>
  obtain⟨h1,_,h2⟩:=h
  by_cases e:p.1=k
  ·have e':q.1=k:=h1.symm.trans e
   have b:atKey (q::qs) k=some q.2:=by simp [atKey,List.find?_cons,e']
   rw [iB e,b];exact h2
  ·have e':¬q.1=k:=λz=>e (h1.trans z)
   have b:atKey (q::qs) k=atKey qs k:=by simp [atKey,List.find?_cons,e']
   rw [ik e,b];exact ih
def KT.IM{H:Hp}{aA:List (List Key×V)}{xs:List (List Key×Addr×Value)}(r:KT H aA xs)(k:List Key){y:V}{u:Value}(ry:RelV y u):
 KT H (aA.map λkv=>if kv.1=k then(kv.1,y) else kv) (xs.map (putAt k u)):=by
 induction r with
 |nil=>exact .nil
 |@cons p q ps qs h t ih=>
  rw [zzF,zzF];refine .cons ?_ ih;obtain⟨h1,h2,h3⟩:=h
  unfold putAt
  by_cases e:p.1=k
  ·rw [if_pos e,if_pos (h1.symm.trans e)];exact⟨h1,h2,ry⟩
  ·rw [if_neg e,if_neg (λz=>e (h1.trans z))];exact⟨h1,h2,h3⟩
def KT.put{H:Hp}{aA:List (List Key×V)}{xs:List (List Key×Addr×Value)}(r:KT H aA xs)(k:List Key){b:Addr}{y:V}{u:Value}(hb:H b=some (.tup (k.map kV)))(ry:RelV y u):
 KT H (putK aA k y) (storedH xs k b u):=by
 have e:(aA.any λkv=>decide (kv.1=k))=(atKey xs k).isSome:=by
  rw [kb,(r.val k).eN,Option.isSome_map]
 unfold putK storedH;rw [e]
 by_cases q:(atKey xs k).isSome=true
 ·rw [if_pos q,if_pos q];exact r.IM k ry
 ·rw [if_neg q,if_neg q];exact Paired.snoc r ⟨rfl,hb,ry⟩
def KT.keeps{H H':Hp}{aA:List (List Key×V)}{xs:List (List Key×Addr×Value)}(r:KT H aA xs)(ht:∀b ys,H b=some (.tup ys)->H' b=some (.tup ys)):KT H' aA xs:=
 Paired.zV r λ_ _ z=>⟨z.1,ht _ _ z.2.1,z.2.2⟩
section
variable{P:Program}{w:World}{H:Hp}{h:Heap}{a:Addr}
def EW{u:HO}(ok:gG P w H h)(e:Rd H a u):bT P w H h a u:=e.ok ok
def rB{aA:List (Key×V)}(ok:gG P w H h)(e:Rd H a (.dK aA)):aA.length<=sizeLine/\(a==sysModules)=false/\∃vs,KV aA vs/\h.DictOf (bB P w) a vs:=
 show bT P w H h a (.dK aA) from EW ok e
def Kl{aA:List (Key×V)}(ok:gG P w H h)(e:H a=some (.dK aA)):aA.length<=sizeLine/\(a==sysModules)=false/\∃vs,KV aA vs/\h.DictOf (bB P w) a vs:=rB ok (.inl e)
def gL{ks:List Key}(ok:gG P w H h)(e:H a=some (.tup (ks.map kV))):(tupleKind (bB P w)).is h ks a:=by
 obtain⟨_,ak,r,o,h1,h2,n,h3⟩:=(show bT P w H h a (.tup (ks.map kV)) from ok a _ e)
 exact⟨o,ak.toArray,n,h1,h2,h3,by simpa using ni r⟩
def kQ{aA:List (List Key×V)}(ok:gG P w H h)(e:Rd H a (.dT aA)):aA.length<=sizeLine/\(a==sysModules)=false/\
 ∃xs,KT H aA xs/\h.DictOfH (tupleKind (bB P w)) a xs:=by
 obtain⟨z,y,xs,r,o,es,ep,h1,h2,h3,h4,h5⟩:=(show bT P w H h a (.dT aA) from EW ok e)
 refine⟨z,y,xs,r,o,es,ep,h1,h2,h3,h4,λx hx=>?_,h5⟩
 have all:∀{l:List (List Key×V)} {m:List (List Key×Addr×Value)},KT H l m->∀x∈m,(tupleKind (bB P w)).is h x.1 x.2.1:=by
  intro l m q
  induction q with
  |nil=>intro x hx;exact nomatch hx
  |@cons p q ps qs hq t ih=>
   intro x hx;rcases zzm.mp hx with e|hx
   ·subst e;exact gL ok (by rw [<-hq.1];exact hq.2.1)
   ·exact ih x hx
 exact all r x hx
def EE{aA:List (List Key×V)}(ok:gG P w H h)(e:H a=some (.dT aA)):aA.length<=sizeLine/\(a==sysModules)=false/\
 ∃xs,KT H aA xs/\h.DictOfH (tupleKind (bB P w)) a xs:=kQ ok (.inl e)
end
def DL(H:Hp)(a:Addr)(y:V)(r:Option V):Prop:=
 (∃aA k,Rd H a (.dK aA)/\y=kV k/\r=iS aA k)\/∃aA k b,Rd H a (.dT aA)/\y=.ref b/\H b=some (.tup (k.map kV))/\r=iS aA k
def zw(H:Hp)(a:Addr)(y v:V)(H':Hp):Prop:=
 (∃aA k,H a=some (.dK aA)/\y=kV k/\aA.length<sizeLine/\H'=upd H a (.dK (putK aA k v)))\/
 ∃aA k b,H a=some (.dT aA)/\y=.ref b/\H b=some (.tup (k.map kV))/\aA.length<sizeLine/\H'=upd H a (.dT (putK aA k v))
def zw.t{H:Hp}{a b:Addr}{aA:List (List Key×V)}{k:List Key}{v:V}(e:H a=some (.dT aA))(eb:H b=some (.tup (k.map kV)))(hl:aA.length<sizeLine):
 zw H a (.ref b) v (upd H a (.dT (putK aA k v))):=.inr ⟨aA,k,b,e,rfl,eb,hl,rfl⟩
section
variable{X:Cx}{aa:List (Addr×Obj)}{σ:St}{H:Hp}{s:Shared}{a:Addr}{y v:V}{u r:Value}{o:Option V}{A:Around}{E:Value->Shared->Prop}
def Inv.big(I:Inv X aa σ H s):sysModules<(zz9 s):=by
 have h:mainGlobals<(zz9 s):=(I.mod.glob.keeps I.bk).lt
 exact Nat.lt_trans (by decide) h
def Oc{Q:Value->Shared->Prop}(hu:A.units+1<cLine)(I:Inv X aa σ H s)(g:DL H a y o)(ry:RelV y u)(h:∀s',Inv X aa σ H s'->Q (.bool o.isSome) s'):
 wpAny (model X.prog X.w) A (compareOp .In u (.ref a)) Q E s:=by
 rcases g with⟨aA,k,e,ey,l⟩|⟨aA,k,b,e,ey,eb,l⟩
 ·subst ey;obtain⟨z,hd,vs,rel,dd⟩:=rB I.bu e
  refine wpAny_in_of (rk ry) hd dd.mapOf ?_;rw [<-(rel.val k).eN,<-l];exact h _ (I.tok _)
 ·subst ey;cases(show u=Value.ref b from ry);obtain⟨z,hd,xs,rel,dd⟩:=kQ I.bu e
  refine wpAny_in_heap (tupleKind_room_in1 hu) (gL I.bu eb) hd dd ?_;have q:=(rel.val k).eN
  rw [Option.isSome_map] at q;rw [<-q,<-l];exact h _ (I.tok _)
def Bc{Q:Value->Shared->Prop}(hu:A.units+1<cLine)(I:Inv X aa σ H s)(g:DL H a y o)(ry:RelV y u)(h:∀s',Inv X aa σ H s'->Q (.bool (!o.isSome)) s'):
 wpAny (model X.prog X.w) A (compareOp .NotIn u (.ref a)) Q E s:=by
 rcases g with⟨aA,k,e,ey,l⟩|⟨aA,k,b,e,ey,eb,l⟩
 ·subst ey;obtain⟨z,hd,vs,rel,dd⟩:=rB I.bu e
  refine wpAny_notIn_of (rk ry) hd dd.mapOf ?_;rw [<-(rel.val k).eN,<-l];exact h _ (I.tok _)
 ·subst ey;cases(show u=Value.ref b from ry);obtain⟨z,hd,xs,rel,dd⟩:=kQ I.bu e
  refine wpAny_notIn_heap (tupleKind_room_in1 hu) (gL I.bu eb) hd dd ?_;have q:=(rel.val k).eN
  rw [Option.isSome_map] at q;rw [<-q,<-l];exact h _ (I.tok _)
theorem jW{h':Heap}{t':Nat}{ob:HO}(I:Inv X aa σ H s)(mu:Mc (H a))(hs:Heap.SameBut a s.heap h')(he:∃q,h'.get? a=some q)(new:bT X.prog X.w (upd H a ob) h' a ob):
 Inv X aa σ (upd H a ob) {s with heap:=h',toks:=t'}:=
 I.write (x:=a) (e:=a) mu (.inl rfl) (λb q hb z=>(hs.2 b hb).trans z) he new
def Ib{P:Program}{w:World}{H':Hp}{h':Heap}{aA:List (Key×V)}{vs:List (Key×Value)}(z:aA.length<=sizeLine)(hd:(a==sysModules)=false)(rel:KV aA vs)(dd:h'.DictOf (bB P w) a vs):
 bT P w H' h' a (.dK aA):=⟨z,hd,vs,rel,dd⟩
def vW{H':Hp}{Q:Unit->Shared->Prop}(hu:A.units+1<cLine)(I:Inv X aa σ H s)(g:zw H a y v H')(ry:RelV y u)(rv:RelV v r)(h:∀s',Inv X aa σ H' s'->Q () s'):
 wpAny (model X.prog X.w) A (setItem (.ref a) u r) Q E s:=by
 rcases g with⟨aA,k,e,ey,l,eH⟩|⟨aA,k,b,e,ey,eb,l,eH⟩
 ·subst ey eH;obtain⟨z,hd,vs,rel,dd⟩:=Kl I.bu e
  have hz:vs.length<=sizeLine:=by rw [<-rel.length];exact z
  have hl:(putK aA k v).length<=sizeLine:=by have:=d9 aA k v;omega
  refine wpAny_setItem_pairs (hsz:=hz) (rk ry) dd λh' Jz hs=>h _ ?_
  have he:∃q,h'.get? a=some q:=let⟨q,_,_,hq,_⟩:=Jz;⟨q,hq⟩
  exact jW I (by rw [e];exact True.intro) hs he (Ib hl hd (rel.put k rv) Jz)
 ·subst ey eH;cases(show u=Value.ref b from ry);obtain⟨z,hd,xs,rel,dd⟩:=EE I.bu e
  have hz:xs.length<=sizeLine:=by rw [<-Paired.length rel];exact z
  have hl:(putK aA k v).length<=sizeLine:=by have:=d9 aA k v;omega
  refine wpAny_setItem_heap (hsz:=hz) (tupleKind_room_in1 hu) (gL I.bu eb) dd λh' Jz hs=>h _ ?_
  obtain⟨q,es,ep,hq,h2,h3,h4,_,h5⟩:=Jz
  refine jW I (by rw [e];exact True.intro) hs ⟨q,hq⟩ ⟨hl,hd,_,(rel.put k eb rv).keeps λc ys ec=>?_,q,es,ep,hq,h2,h3,h4,h5⟩
  rw [aj (iZ ec e (λz=>nomatch z))];exact ec
end
theorem kJ{P:Program}{w:World}{H:Hp}(h:Heap)(hb:sysModules<h.objs.size):bT P w H (h.push {cls:=.type "dict",data:=.dict #[]}) h.objs.size (.dT []):=
 ⟨Nat.zero_le _,beq_eq_false_iff_ne.mpr (Ne.symm (zzb hb)),[],.nil,_,#[],0,zzX _ rfl,⟨rfl,rfl,rfl⟩,rfl,rfl,List.nodup_nil⟩
def HQ:TE:=λ_ H Q=>∀p,H p=none->Q (.ref p) (upd H p (.dT []))
section
variable{X:Cx}{pos:Pos}
theorem AM:PE X (.Dict [] [] pos) HQ:=λaa s σ H Q I h=>
 wpAny_Dict_empty ⟨.ref (zz9 s),_,I.laid (a:=(zz9 s)) (o:=.dT []) (t':=s.toks) (λ_ _ q=>zzB _ q) (zzE _) (kJ s.heap I.big),rfl,h _ (I.bu.fresh (zzE _))⟩
end
structure M1(X:Cx)(o:Expr)(m:Str)(apos:Pos)(e:Expr)(cb:Pos):Prop where
 base:attributeBase o m X.env (eval o X.env)=eval o X.env
 Ub:((backTo cb (starEach [e] X.env)).all (λx=>!x.1)&&(backToKw cb (keywordEach [] X.env)).all (λx=>x.1.isSome)
  &&decide (([e]:List Expr).length+([]:List Keyword).length+(if([]:List Keyword).isEmpty then 0 else 1)<30))=true
 line:(apos.endLine==cb.line)=true
 trees:backTo cb (starEach [e] X.env)=[(false,eval e X.env)]
def Ex(H:Hp)(a:Addr):Prop:=(∃aA,Rd H a (.dK aA))\/∃aA,Rd H a (.dT aA)
def Hz{X:Cx}{aa:List (Addr×Obj)}{σ:St}{H:Hp}{s:Shared}{a:Addr}(I:Inv X aa σ H s)(d:Ex H a):
 s.TypeIs (.ref a) "dict"/\(∀b,Value.ref a=.ref b->∃ob,s.heap.get? b=some ob/\ob.dict=none)/\(a==sysModules)=false:=by
 rcases d with⟨aA,e⟩|⟨aA,e⟩
 ·obtain⟨_,hd,vs,_,dd⟩:=rB I.bu e
  refine⟨dd.typeIs,λb q=>?_,hd⟩
  cases q;obtain⟨ob,_,_,h1,h2,_⟩:=dd
  exact⟨ob,h1,h2.2.1⟩
 ·obtain⟨_,hd,xs,_,dd⟩:=kQ I.bu e
  refine⟨dd.typeIs,λb q=>?_,hd⟩
  cases q;obtain⟨ob,_,_,h1,h2,_⟩:=dd
  exact⟨ob,h1,h2.2.1⟩
section
variable{X:Cx}{aa:List (Addr×Obj)}{σ:St}{H:Hp}{s:Shared}{a:Addr}{y:V}{u:Value}{o:Option V}{A:Around}{E:Value->Shared->Prop}
def GR{Q:Value->Shared->Prop}(hu:A.units+1<cLine)(I:Inv X aa σ H s)(g:DL H a y o)(ry:RelV y u)(h:∀w' s',Inv X aa σ H s'->RelV (o.getD .aC) w'->Q w' s'):
 wpAny (model X.prog X.w) A (call (.builtin "dict.get") [.ref a,u]) Q E s:=by
 rcases g with⟨aA,k,e,ey,l⟩|⟨aA,k,b,e,ey,eb,l⟩
 ·subst ey;obtain⟨z,hd,vs,rel,dd⟩:=rB I.bu e
  refine call_meetsIn PySem.F.slot_dict_get dd.typeIs PySem.F.entry_dict_get (PySem.F.args_dict_get_2 _ _) (meets_dict_get (bB X.prog X.w) a (rk ry) hd) ⟨_,dd.mapOf,h _ _ (I.tok _) ?_⟩;rw [l];exact(rel.val k).getD rfl
 ·subst ey;cases(show u=Value.ref b from ry);obtain⟨z,hd,xs,rel,dd⟩:=kQ I.bu e
  refine call_meetsIn PySem.F.slot_dict_get dd.typeIs PySem.F.entry_dict_get (PySem.F.args_dict_get_2 _ _) (meetsH_dict_get (tupleKind (bB X.prog X.w)) a b hd) ⟨tupleKind_room_in1 hu,k,xs,gL I.bu eb,dd,h _ _ (I.tok _) ?_⟩;rw [l];exact(rel.val k).getD rfl
end
def GO(td ty:TE):TE:=λσ H Q=>td σ H λx H1=>∃a,x=.ref a/\Ex H1 a/\ty σ H1 λy H2=>∃o,DL H2 a y o/\Q (o.getD .aC) H2
section
variable{X:Cx}{o e:Expr}{apos cb:Pos}{td ty:TE}
def xk(hu:X.A.units+1<cLine)(ho:PE X o td)(he:PE X e ty)(m:M1 X o "get" apos e cb):PE X (.Call (.Attribute o "get" apos) [e] [] cb) (GO td ty):=by
 intro aa s σ H Q I h;refine wpAny_Call_method m.base m.Ub m.line PySem.F.plainAttrs_dict PySem.F.slot_dict_get PySem.F.type_dict_get (bD (ho aa s σ H _ I h) λu s1 ⟨x,H1,I1,rx,a,ex,d,q1⟩=>?_)
 subst ex;obtain rfl:u=Value.ref a:=rx
 obtain⟨t1,t2,_⟩:=Hz I1 d
 refine⟨t1,t2,?_⟩;rw [m.trees];refine Calls.callWith_builtin rfl (Calls.evalArgs_plain (Calls.spliced_cons (bD (he aa s1 σ H1 _ I1 q1) λiv s2 ⟨y,H2,I2,ry,ov,g,q2⟩=>Calls.spliced_nil ?_)))
 exact GR hu I2 g ry λw' s3 I3 gu=>⟨_,H2,I3,gu,q2⟩
end
end L2
namespace Att
open PySem PySem.W PySem.Calls PyProof.Rows
section
end
end Att
namespace L2
open PySem PySem.Spec PyProof.Rows
section
variable{prog:Program}{w:World}{κ:Type} [DecidableEq κ]{knd:HeapKind prog w κ}{A:Around}{E:Value->Shared->Prop}{s:Shared}{d a:Addr}{xs:List (κ×Addr×Value)}
theorem pM(d:Addr)(lo:(d==sysModules)=false):MeetsIn prog w (Builtin.«dict.__len__» ⟨[.ref d],[]⟩) (λ_ R s=>∃xs,s.heap.DictOfH knd d xs/\R (.ok (.ret (.int xs.length s.toks))) {s with toks:=s.toks+1}):=
 .of_wp λA R s ⟨xs,⟨o,es,ep,h1,_,h2,h3,_⟩,h⟩=>by
  show wpAny _ _ (dictSize d>>=λn=>_) _ _ s
  unfold dictSize;refine zzA (zzA (wpAny_dictEntries h1 h2 (zzG (zzA (wpAny_pendingCount_other lo (wpAny_ret_mkInt ?_))))));rw [Nat.add_zero,size_of_entries h3];exact h
def Jc{Q:Value->Shared->Prop}(lo:(d==sysModules)=false)(hm:s.heap.DictOfH knd d xs)(hf:(xs.length:Int)<2^63)(h:Q (.int xs.length (s.toks+1)) {s with toks:=s.toks+1+1}):wpAny (model prog w) A (call (.builtin "len") [.ref d]) Q E s:=by
 refine Calls.call_function_entry kind_len plain_len entry_len (args_len1 _) ?_;unfold Builtin.«len»;refine zzA (m:=oneArg "len" _) (zzG (zzA (m:=callSpecial? (.ref d) (Str.ofString "__len__")) (wpAny_callSpecial?_slot (name:=Str.ofString "__len__") hm.typeIs F.slot_dict_len
  (call_meetsIn F.slot_dict_len hm.typeIs F.entry_dict_len (F.args_dict_len_1 _) (pM (knd:=knd) d lo) ⟨xs,hm,?_⟩))))
 show wpAny _ _ (holding _ _>>=λz=>_) _ _ {s with toks:=s.toks+1}
 refine zzA (wpAny_holding (zzG (zzA (wpAny_letGo ?_))));show wpAny _ _ (if((xs.length:Nat):Int)<0 then _ else(if((xs.length:Nat):Int)>=2^63 then _ else _)) _ _ _;rw [if_neg (by omega),if_neg (by omega)];exact zzA (wpAny_mkInt (zzG ⟨_,rfl,h⟩))
def D4{o:Obj}{es:Array DictEntry}{ep:Nat}{Q:Value->Shared->Prop}(lo:(d==sysModules)=false)(h1:s.heap.get? d=some o)(hc:o.ExactDict)(h2:o.data=.dict es ep)
 (hQ:Q (.ref (zz9 s)) {s with heap:=s.heap.push {cls:=.type "dict_keyiterator",data:=.fields #[.ref d,.int 0 0,.int es.size 0,.int ep 0]}}):wpAny (model prog w) A (pyIter (.ref d)) Q E s:=by
 have T:s.TypeIs (.ref d) "dict":=⟨o,h1,hc.1⟩
 refine wpAny_pyIter_slot T F.slot_dict_iter (wpAny_call_entry F.slot_dict_iter T F.entry_dict_iter ?_ (F.args_dict_iter_1 _));unfold Builtin.«dict.__iter__» Builtin.Dict.dictSlotNone;refine zzA (zzA (wpAny_notOrdered_dict T ?_));show wpAny _ _ (pure (Value.ref d):Sem Value) _ _ s;refine zzG ?_;show wpAny _ _ (Builtin.Dict.showsAll d>>=λ_=>_) _ _ s;unfold Builtin.Dict.showsAll;rw [if_neg (by rw [lo];exact zzf)];refine zzA (zzG (zzA (wpAny_dictEntries h1 h2 (zzA (wpAny_dictEpoch h1 h2 ?_)))));refine zzA (wpAny_newObj_type (zzG ⟨_,rfl,"dict_keyiterator",_,⟨_,zzX _ rfl,rfl⟩,F.slot_dict_keyiterator_next.lookup,?_⟩))
 simpa [rawInt] using hQ
def CS{it:Addr}{i ep:Nat}{o:Obj}{es:Array DictEntry}{Q:Option Value->Shared->Prop}(st:s.heap.IsKeyIter it d i es.size ep)(h1:s.heap.get? d=some o)(h2:o.data=.dict es ep)(hi:i<es.size)
 (hQ:∀h',h'.IsKeyIter it d (i+1) es.size ep->Heap.SameBut it s.heap h'->Q (some es[i].key) {s with heap:=h'}):wpAny (model prog w) A (pyNext (.ref it)) Q E s:=by
 obtain⟨oi,g1,g2,g3⟩:=id st
 have own:Builtin.Dict_items.ownsTuple "dict_keyiterator"=false:=by decide
 unfold pyNext;refine zzA (wpAny_attempt (wpAny_callSpecial?_slot (name:=Str.ofString "__next__") st.typeIs F.slot_dict_keyiterator_next (wpAny_call_entry F.slot_dict_keyiterator_next st.typeIs F.entry_dict_keyiterator_next ?_ (F.args_dict_keyiterator_next_1 _))));refine zzA (zzG (zzA (zzA ?_)))
 first|refine zzA (wpAny_typeNameOfWhole_keyiter st.typeIs (zzG (zzA (wpAny_fieldsOf g1 g3 ?_))))|refine zzA (wpAny_typeNameOf_keyiter st.typeIs (zzG (zzA (wpAny_fieldsOf g1 g3 ?_))))
 simp! [own,zze,if_false];show wpAny _ _ (if(Value.ref d==Value.none)=true then _ else _:Sem _) _ _ s;rw [if_neg (show¬((Value.ref d==Value.none)=true) from zzf)];refine zzA (zzG (zzA (wpAny_dictEntries h1 h2 ?_)));rw [if_neg (by simp)];refine zzA (zzG (zzA (wpAny_dictEpoch h1 h2 ?_)));rw [if_neg (by simp)];refine zzG ?_;simp! [show¬((i:Int)<0) from by omega,if_false,zz4,zz2 hi];refine zzA ?_
 first|refine zzA (wpAny_typeNameOfWhole_keyiter st.typeIs (zzG (zzA (wpAny_isOneOf_keyiter st.typeIs ?_))))|refine zzA (wpAny_typeNameOf_keyiter st.typeIs (zzG (zzA (wpAny_isOneOf_keyiter st.typeIs ?_))))
 show wpAny _ _ (setField (.ref it) 1 (rawInt ((i:Int)+1))>>=λ_=>_) _ _ s
 have iY:(s.heap.update it (Obj.mapFields (·.setIfInBounds 1 (rawInt ((i:Int)+1))))).IsKeyIter it d (i+1) es.size ep:=
  ⟨_,Heap.get?_update_self _ g1 (Obj.isFreed_of_fields (Obj.data_mapFields g3 _)),(Obj.cls_mapFields ..).trans g2,by rw [Obj.data_mapFields g3];simp [rawInt]⟩
 refine zzA (wpAny_setField g1 g3 (by simp) (zzA (wpAny_holding (zzA (wpAny_isOneOf_keyiter (s:={s with heap:=s.heap.update it (Obj.mapFields (·.setIfInBounds 1 (rawInt ((i:Int)+1))))}) iY.typeIs ?_)))));show wpAny _ _ (pure es[i].key:Sem Value) _ _ _;exact zzG (zzG ⟨_,rfl,zzG (hQ _ iY (zzu ..))⟩)
def II{it:Addr}{i ep:Nat}{o:Obj}{es:Array DictEntry}{Q:Option Value->Shared->Prop}(hh:A.handled=none)(st:s.heap.IsKeyIter it d i es.size ep)(h1:s.heap.get? d=some o)(h2:o.data=.dict es ep)(hi:es.size<=i)
 (hQ:∀h',Heap.ExtBut it s.heap h'->Q none {s with heap:=h'}):wpAny (model prog w) A (pyNext (.ref it)) Q E s:=by
 obtain⟨oi,g1,g2,g3⟩:=id st
 have own:Builtin.Dict_items.ownsTuple "dict_keyiterator"=false:=by decide
 unfold pyNext;refine zzA (wpAny_attempt (wpAny_callSpecial?_slot (name:=Str.ofString "__next__") st.typeIs F.slot_dict_keyiterator_next (wpAny_call_entry F.slot_dict_keyiterator_next st.typeIs F.entry_dict_keyiterator_next ?_ (F.args_dict_keyiterator_next_1 _))));refine zzA (zzG (zzA (zzA ?_)))
 first|refine zzA (wpAny_typeNameOfWhole_keyiter st.typeIs (zzG (zzA (wpAny_fieldsOf g1 g3 ?_))))|refine zzA (wpAny_typeNameOf_keyiter st.typeIs (zzG (zzA (wpAny_fieldsOf g1 g3 ?_))))
 simp! [own,zze,if_false];show wpAny _ _ (if(Value.ref d==Value.none)=true then _ else _:Sem _) _ _ s;rw [if_neg (show¬((Value.ref d==Value.none)=true) from zzf)];refine zzA (zzG (zzA (wpAny_dictEntries h1 h2 ?_)));rw [if_neg (by simp)];refine zzA (zzG (zzA (wpAny_dictEpoch h1 h2 ?_)));rw [if_neg (by simp)];refine zzG ?_;simp! [show¬((i:Int)<0) from by omega,if_false,zz4,Array.getElem?_eq_none hi];refine zzA ?_
 first|refine zzA (wpAny_typeNameOfWhole_keyiter st.typeIs (zzG ?_))|refine zzA (wpAny_typeNameOf_keyiter st.typeIs (zzG ?_))
 show wpAny _ _ (setField (.ref it) 0 .none>>=λ_=>_) _ _ s
 refine zzA (wpAny_setField g1 g3 (by simp) ?_);show wpAny _ _ (newExc (.type "StopIteration") []>>=λ_=>_) _ _ _
 refine zzA ?_;simp! [newExc,newTuple];refine zzA (wpAny_newObj_type (zzA (m:=firstArgMember _ _) (wpAny_of_eq (a:=Value.none) (by first|rfl|(simp! [firstArgMember];rfl)) (wpAny_newObj_type ?_ (by size_fits)))) (by size_fits));simp! [raiseNew];refine zzA (wpAny_handled ?_);rw [show A.in1.handled=none from hh];refine zzA (zzG (wpAny_throw ?_));refine zzA (wpAny_isInstance (T:="StopIteration") (b:=true) ⟨_,zzX _ rfl,rfl⟩ isSubtype_stop ?_);exact zzG (hQ _ (((zzu ..).extBut.push _).push _))
end
def KT.len{H:Hp}{aA:List (List Key×V)}{xs:List (List Key×Addr×Value)}(r:KT H aA xs):aA.length=xs.length:=Paired.length r
section
variable{X:Cx}{aa:List (Addr×Obj)}{σ:St}{H:Hp}{s:Shared}{a:Addr}{aA:List (List Key×V)}{A:Around}{E:Value->Shared->Prop}
def GU{Q:Value->Shared->Prop}(I:Inv X aa σ H s)(e:Rd H a (.dT aA))(h:∀t s',Inv X aa σ H s'->Q (.int aA.length t) s'):wpAny (model X.prog X.w) A (call (.builtin "len") [.ref a]) Q E s:=by
 obtain⟨z,lo,xs,rel,dd⟩:=kQ I.bu e
 refine Jc lo dd (by rw [<-rel.len];rw [sizeLine_eq] at z;omega) ?_;rw [<-rel.len];exact h _ _ (I.tok _)
def Inv.freeze(I:Inv X aa σ H s)(e:H a=some (.dT aA)):∃o,Inv X aa σ (upd H a (.cX o (.dT aA))) s:=by
 obtain⟨z,lo,xs,rel,o,es,ep,h1,h2,h3,h4,h5⟩:=(show bT X.prog X.w H s.heap a (.dT aA) from I.bu a _ e)
 refine⟨o,jW (h':=s.heap) (t':=s.toks) I (by rw [e];exact True.intro) ⟨rfl,λ_ _=>rfl⟩ ⟨o,h1⟩ ⟨h1,z,lo,xs,?_,o,es,ep,h1,h2,h3,h4,h5⟩⟩
 exact KT.keeps (H:=H) rel λc ys ec=>by rw [aj (iZ ec e (λz=>nomatch z))];exact ec
end
noncomputable def PU(a:Addr)(o:Obj)(aA:List (List Key×V)):It:=
 ⟨λi H=>H a=some (.cX o (.dT aA))/\i<aA.length,λi H x H'=>H'=H/\∃b k v,x=.ref b/\aA[i]?=some (k,v)/\H b=some (.tup (k.map kV)),λi H=>H a=some (.cX o (.dT aA))/\aA.length<=i⟩
def su{α β:Type}{R:α->β->Prop}{l:List α}{m:List β}(r:Paired R l m):∀{i:Nat} {p:α} {q:β},l[i]?=some p->m[i]?=some q->R p q:=by
 induction r with
 |nil=>intro i p q h;simp at h
 |cons h t ih=>
  intro i p q h1 h2;cases i with
  |zero=>simp at h1 h2;subst h1 h2;exact h
  |succ i=>simp at h1 h2;exact ih h1 h2
def Lq{P:Program}{w:World}{H:Hp}{h:Heap}{a:Addr}{aA:List (List Key×V)}(x:bT P w H h a (.dT aA)):(a==sysModules)=false/\(aA.map (·.1)).Nodup/\∃o es ep,h.get? a=some o/\o.ExactDict/\o.data=.dict es ep/\es.size=aA.length/\∀(i:Nat) (hi:i<es.size),∃b k v,es[i].key=.ref b/\aA[i]?=some (k,v)/\H b=some (.tup (k.map kV))/\RelV v es[i].val:=by
 obtain⟨z,lo,xs,rel,o,es,ep,h1,h2,h3,h4,h5⟩:=x
 have hl:es.size=xs.length:=size_of_entries h4
 have hx:aA.length=xs.length:=Paired.length rel
 have ks:aA.map (·.1)=xs.map (·.1):=by
  clear hl hx h4 h5 z
  induction rel with
  |nil=>rfl
  |cons h t ih=>rw [zzF,zzF,h.1,ih]
 refine⟨lo,ks▸h5,o,es,ep,h1,h2,h3,hl.trans hx.symm,λi hi=>?_⟩
 have e1:es[i]?=(xs[i]?).map (entryOfKey (tupleKind (bB P w))):=entry_at h4 i
 rw [zzg (show i<xs.length by omega),zz2 hi] at e1;have q:=su rel (zzg (show i<aA.length by omega)) (zzg (show i<xs.length by omega))
 rw [zzq e1];exact⟨_,_,_,rfl,zzg (show i<aA.length by omega),q.2.1,q.2.2⟩
def lU{X:Cx}{aa:List (Addr×Obj)}{σ:St}{H:Hp}{s:Shared}{a:Addr}{o:Obj}{aA:List (List Key×V)}(I:Inv X aa σ H s)(e:H a=some (.cX o (.dT aA))):
 (a==sysModules)=false/\s.heap.get? a=some o/\o.ExactDict/\∃es ep,o.data=.dict es ep/\es.size=aA.length/\∀(i:Nat) (h:i<es.size),∃b k v,es[i].key=.ref b/\aA[i]?=some (k,v)/\H b=some (.tup (k.map kV)):=by
 obtain⟨h0,ok⟩:=(show bT X.prog X.w H s.heap a (.cX o (.dT aA)) from I.bu a _ e)
 obtain⟨lo,_,o',es,ep,h1,h2,h3,hl,hk⟩:=Lq ok
 rw [h0] at h1;cases h1;exact⟨lo,h0,h2,es,ep,h3,hl,λi hi=>let⟨b,k,v,e1,e2,e3,_⟩:=hk i hi;⟨b,k,v,e1,e2,e3⟩⟩
def wx{P:Program}{w:World}{K:zz8}{tg:Expr}{a it:Addr}{o:Obj}{es:Array DictEntry}{ep:Nat}{aA:List (List Key×V)}(hd:o.data=.dict es ep)(hl:es.size=aA.length):
 Turn P w K tg (PU a o aA) [it] it (λi h=>h.IsKeyIter it a i es.size ep) where
 mem:=by simp
 obj:=λi h st b hb=>by
  have e:b=it:=by simpa using hb
  subst e;obtain⟨q,e,c,d⟩:=st
  exact⟨q,e,λv z=>by rw [d] at z;cases z⟩
 keep:=λi h h' st k=>st.at λo e=>k it (by simp) o e
 item:=by
  intro X hP hw hK hc i aa s σ H E I hf st hg;subst hP hw hK;obtain⟨g1,g2⟩:=hg
  obtain⟨lo,h0,hx,es',ep',h3,rO,hks⟩:=lU I g1
  rw [hd] at h3;cases h3;obtain⟨f0,f1,f2,f3,f4,f5⟩:=hf it (by simp)
  have hi:i<es.size:=by omega
  refine CS st h0 hd hi λh' iY sb=>?_
  obtain⟨b,k,v,e1,e2,e3⟩:=hks i hi
  have I1:Inv X aa σ H {s with heap:=h'}:=I.turned (t':=s.toks) (λb o hb e=>(sb.2 b hb).trans e) f0 f1 f3 f4 f5
  obtain⟨q,e,c,d⟩:=id iY
  refine⟨_,rfl,qB (s:={s with heap:=h'}) e c d (by decide) ⟨.ref b,H,I1,?_,⟨rfl,b,k,v,rfl,e2,e3⟩,iY,λb hb=>(hf b hb).1⟩⟩
  rw [e1];exact rfl
 done:=by
  intro X hP hw hK hc i aa s σ H E I hf st hg;subst hP hw hK;obtain⟨g1,g2⟩:=hg
  obtain⟨lo,h0,hx,es',ep',h3,rO,hks⟩:=lU I g1
  rw [hd] at h3;cases h3;obtain⟨f0,f1,f2,f3,f4,f5⟩:=hf it (by simp)
  exact II (I.ok.hd hc) st h0 hd (by omega) λh' eb=>⟨rfl,I.turned (t':=s.toks) (λb o hb e=>eb b o hb e) f0 f1 f3 f4 f5⟩
 self:=λ_ _ _ _ _ st h=>wpAny_pyIter_keyiter st h
noncomputable def Oa(tl:TE):TI:=λσ H R=>tl σ H λx H1=>∃a o aA,x=.ref a/\H1 a=some (.cX o (.dT aA))/\R (PU a o aA) H1
section
variable{X:Cx}{o e:Expr}
def Gu{tg l:Expr}{tl:TE}(hl:PE X l tl):PI X tg l (Oa tl):=by
 intro aa s σ H R I h;refine bD (hl aa s σ H _ I h) λv s1 ⟨x,H1,I1,r1,q1⟩=>?_
 obtain⟨a,o,aA,e,hq,q⟩:=q1
 subst e;cases r1;obtain⟨lo,h0,hx,es,ep,h3,rO,hks⟩:=lU I1 hq
 refine D4 lo h0 hx h3 ?_;refine⟨(zz9 s1),[(zz9 s1)],_,_,H1,rfl,I1.kept (t':=s1.toks) λb o e=>zzB _ e,wx h3 rO,⟨_,zzX _ rfl,rfl,rfl⟩,λb hb=>?_,q⟩
 have e:b=(zz9 s1):=by simpa using hb
 subst e;exact I1.lK (zzE _) (I1.bu.fresh (zzE _))
end
end L2
namespace L2
open PySem PySem.Spec PyProof.Rows PySem.W
section
variable{n:Nat}(h0:0<n)
include h0
end
end L2
namespace L2
open PySem PySem.Spec PyProof.Rows
def vx:typeLookup (.type "list") "keys"=pure none:=by rw [typeLookup_type,builtinLookup_eq_fast];kernel_rfl
def qo:entryFor table "dict.update.loop"=some Builtin.«dict.update.loop»:=entryFor_of_tree (by kernel_rfl)
def ic:plainId "dict.update.loop"=true:=by decide+kernel
section
variable{prog:Program}{w:World}{A:Around}{E:Value->Shared->Prop}{s:Shared}{a:Addr}{o:Obj}{xs:Array Value}{k:Nat}
def Cb{Q:Option Value->Shared->Prop}(hx:s.heap.get? a=some o)(hc:o.cls=.type "list")(K0:o.data=.seq xs k)(hd:o.dict=none)(hA:A.handled=none)
 (h:∀h' tk,(∀b o,s.heap.get? b=some o->h'.get? b=some o)->Q none {s with heap:=h',toks:=tk}):wpAny (model prog w) A (getAttr? (.ref a) "keys") Q E s:=by
 obtain⟨c,bx,dat,sl⟩:=o
 simp only at hc K0 hd;subst hc K0 hd;obtain⟨hp,g,d,tk,os⟩:=s
 have hT:∀P0,(⟨hp,g,d,P0,os⟩:Shared).TypeIs (.ref a) "list":=λ_=>⟨_,hx,rfl⟩
 have f1:=sub_AttributeError
 have f3:=F.slot_list_getattribute.lookup
 have f4:=F.slot_list_getattribute.bind (.ref a)
 have f5:=am_list_getattr_none
 unfold getAttr? getAttrBy? getAttrBy
 repeat (any_goals (first|assumption|exact hT _|((with_reducible show wpAny _ _ (call (Value.builtin "list.__getattribute__") _ _) _ _ _);refine call_meets F.slot_list_getattribute (hT _) am_entry_list_getattribute (F.args_list_getattribute_2 _ _) (meets_getattribute_miss_list a xs k sl "keys" _ vx (by decide) (by size_fits)) ⟨hx,hA,λh' P0 e p8=>?_⟩)|wp_step))
 obtain⟨t',u',he⟩:=p8.there
 show wpAny _ _ (getattributeRaised _ _ _ _ _ _ _) _ _ _
 unfold getattributeRaised
 repeat (any_goals (first|assumption|wp_step))
 exact h h' P0 p8.keeps
end
def dQ(aA more:List (List Key×V)):List (List Key×V):=more.foldl (λacc kv=>putK acc kv.1 kv.2) aA
abbrev gA(K:zz8)(H:Hp)(vs:List V)(aA:List (List Key×V)):Prop:=Paired (λv kv=>∃q b,v=V.ref q/\eE K H q [.ref b,kv.2]/\H b=some (.tup (kv.1.map kV))) vs aA
section
variable{X:Cx}{aa:List (Addr×Obj)}{σ:St}{l d it:Addr}{vs:List V}{A:Around}{E:Value->Shared->Prop}{R:Result->Shared->Prop}
def As{H:Hp}{s:Shared}{a b:Addr}{aA:List (List Key×V)}{k:List Key}{v:V}{r:Value}{Q:Unit->Shared->Prop}(hu:A.units<cLine)(I:Inv X aa σ H s)(e:H a=some (.dT aA))(eb:H b=some (.tup (k.map kV)))(l:aA.length<sizeLine)(rv:RelV v r)
 (h:∀h' t,Heap.SameBut a s.heap h'->Inv X aa σ (upd H a (.dT (putK aA k v))) {s with heap:=h',toks:=t}->Q () {s with heap:=h',toks:=t}):wpAny (model X.prog X.w) A (dictSet a (.ref b) r) Q E s:=by
 obtain⟨z,lo,xs,rel,dd⟩:=EE I.bu e
 have hz:xs.length<=sizeLine:=by rw [<-rel.len];exact z
 have hl:(putK aA k v).length<=sizeLine:=by have:=d9 aA k v;omega
 refine wpAny_dictSet_heap (hsz:=hz) (knd:=tupleKind (bB X.prog X.w)) hu (gL I.bu eb) dd λh' Jz hs=>h h' _ hs ?_
 obtain⟨q,es,ep,hq,h2,h3,h4,_,h5⟩:=Jz
 refine jW I (by rw [e];exact True.intro) hs ⟨q,hq⟩ ⟨hl,lo,_,(rel.put k eb rv).keeps λc ys ec=>?_,q,es,ep,hq,h2,h3,h4,h5⟩
 rw [aj (iZ ec e (λz=>nomatch z))];exact ec
def eE.gf{K:zz8}{H H':Hp}{a:Addr}{xs:List V}(h:eE K H a xs)(e:∀b,b≠d->H' b=H b){acc:List (List Key×V)}(hd:H d=some (.dT acc)):eE K H' a xs:=by
 rcases h with(h|⟨o,h⟩)|h
 ·exact .inl (.inl (by rw [e a (iZ h hd (λz=>nomatch z))];exact h))
 ·exact .inl (.inr ⟨o,by rw [e a (iZ h hd (λz=>nomatch z))];exact h⟩)
 ·exact .inr h
def dz.gf{K:zz8}{H H':Hp}{a:Addr}{xs:List V}(h:dz K H a xs)(e:∀b,b≠d->H' b=H b){acc:List (List Key×V)}(hd:H d=some (.dT acc)):dz K H' a xs:=by
 rcases h with(h|⟨o,h⟩)|h
 ·exact .inl (.inl (by rw [e a (iZ h hd (λz=>nomatch z))];exact h))
 ·exact .inl (.inr ⟨o,by rw [e a (iZ h hd (λz=>nomatch z))];exact h⟩)
 ·exact .inr h
def gA.gf{K:zz8}{H H':Hp}{aA:List (List Key×V)}(e:∀b,b≠d->H' b=H b){acc:List (List Key×V)}(hd:H d=some (.dT acc)):∀{vs:List V},gA K H vs aA->gA K H' vs aA:=λh=>
 Paired.zV h λ_ _ ⟨q,b,e1,e2,e3⟩=>⟨q,b,e1,eE.gf e2 e hd,by rw [e b (iZ e3 hd (λz=>nomatch z))];exact e3⟩
def BG(hu:A.units+1<cLine)(hh:A.handled=none):∀(rest:List (List Key×V)) (i:Nat) (j:Int) (acc:List (List Key×V)) (H:Hp) (s:Shared),Inv X aa σ H s->gc X aa H it->s.heap.IsListIter it l i->dz X.K H l vs->gA X.K H (vs.drop i) rest->H d=some (.dT acc)->acc.length+rest.length<=sizeLine->
 (∀s' H',Inv X aa σ H' s'->H' d=some (.dT (dQ acc rest))->(∀b,b≠d->H' b=H b)->R (.ok (.ret .none)) s')->codeAny (model X.prog X.w) A (.builtin "dict.update.loop" ⟨[.ref d,.ref it,rawInt j,.none],[]⟩) R s:=by
 intro rest
 induction rest with
 |nil=>
  intro i j acc H s I hf st hl pr hd hz k;obtain⟨ak,rv,p,_⟩:=I.list hl
  obtain⟨f0,f1,f2,f3,f4,f5⟩:=hf
  have hi:vs.length<=i:=List.drop_eq_nil_iff.mp (by cases h:vs.drop i with|nil=>rfl|cons x r=>rw [h] at pr;cases pr)
  have hle:=rv.length
  refine codeAny_builtin qo ?_;rw [zz7 ic _];show wpAny _ A.in1 (pyNext (.ref it)>>=λz=>_) _ _ s
  refine zzA (wpAny_pyNext_list_end hh st p.isList (by simp;omega) λh' eb=>?_)
  show wpAny _ _ (Builtin.Dict.addKeywords d []>>=λ_=>_) _ _ _
  exact zzA (zzG (zzG (k _ H (I.turned (t':=s.toks) (λb o hb e=>eb b o hb e) f0 f1 f3 f4 f5) hd λ_ _=>rfl)))
 |cons kv rest ih=>
  intro i j acc H s I hf st hl pr hd hz k;obtain⟨ak,rv,p,_⟩:=I.list hl
  obtain⟨f0,f1,f2,f3,f4,f5⟩:=id hf
  obtain⟨v,vr,hv,⟨q,b,rfl,hq,hb⟩,pr'⟩:∃v vr,vs.drop i=v::vr/\(∃q b,v=V.ref q/\eE X.K H q [.ref b,kv.2]/\H b=some (.tup (kv.1.map kV)))/\gA X.K H vr rest:=by
   cases h:vs.drop i with
   |nil=>rw [h] at pr;cases pr
   |cons x r=>rw [h] at pr;cases pr with|cons h1 h2=>exact⟨x,r,rfl,h1,h2⟩
  have SH:vs[i]?=some (.ref q):=by rw [<-List.head?_drop,hv];rfl
  have SM:vs.drop (i+1)=vr:=by rw [<-List.drop_drop,hv];rfl
  obtain⟨u,ES,ru⟩:=rv.get SH
  cases(show u=Value.ref q from ru);refine codeAny_builtin qo ?_;rw [zz7 ic _];show wpAny _ A.in1 (pyNext (.ref it)>>=λz=>_) _ _ s
  refine zzA (wpAny_pyNext_list_item st p.isList (x:=Value.ref q) (by simpa using ES) λh' iY sb=>?_)
  have I1:Inv X aa σ H {s with heap:=h'}:=I.turned (t':=s.toks) (λb o hb e=>(sb.2 b hb).trans e) f0 f1 f3 f4 f5
  obtain⟨dR,rv2,p2,_⟩:=I1.tuple hq
  obtain⟨o2,g1,g2,n2,g3⟩:=id p2
  obtain⟨u1,u2,rfl,ru1,ru2⟩:∃u1 u2,dR=[u1,u2]/\RelV (.ref b) u1/\RelV kv.2 u2:=by
   cases rv2 with|cons h1 h2=>cases h2 with|cons h3 h4=>cases h4;exact⟨_,_,rfl,h1,h3⟩
  cases(show u1=Value.ref b from ru1);show wpAny _ A.in1 (holding [Value.ref q] _>>=λz=>_) _ _ {s with heap:=h'};refine zzA (wpAny_holding (zzA (wpAny_tryCatch ?_)));unfold Builtin.Dict.pairItems;refine zzA (wpAny_typeOf (s:={s with heap:=h'}) ⟨o2,g1,g2⟩ ?_);rw [if_pos (by decide)];refine zzA (wpAny_seqItems g1 g3 (zzG ?_));show wpAny _ A.in1 (holding [Value.ref b,u2] (dictSet d (.ref b) u2)) _ _ _;refine wpAny_holding (As hu I1 hd hb (by rw [zzL] at hz;omega) ru2 λh2 t2 SD I2=>?_)
  have gf:∀c,c≠d->upd H d (.dT (putK acc kv.1 kv.2)) c=H c:=λc hc=>aj hc
  have nd:it≠d:=λz=>by rw [z,hd] at f0;cases f0
  refine zzG ⟨plainId_quiet ic _,ih (i+1) (j+1) _ _ _ I2 ⟨by rw [gf _ nd];exact f0,f1,f2,f3,f4,f5⟩ (iY.at λo e=>(SD.2 it nd).trans e) (dz.gf hl gf hd) (gA.gf gf hd (by rw [SM];exact pr')) ax ?_ λs' H' J1 J2 J3=>k s' H' J1 J2 λc hc=>(J3 c hc).trans (gf c hc)⟩
  have:=d9 acc kv.1 kv.2
  rw [zzL] at hz;omega
def sY(hc:X.calm=true)(hu:X.A.units+3<cLine):bR X (.type "dict") (λxs H Q=>∃l vs aA,xs=[V.ref l]/\dz X.K H l vs/\gA X.K H vs aA/\∀p,H p=none->Q (.ref p) (upd H p (.dT (dQ [] aA)))):=by
 intro aa s σ H xs us Q I r h;obtain⟨l,vs,aA,rfl,hl,pr,q⟩:=h
 obtain⟨u,rfl,ru⟩:=vals1 r
 cases ru;have hh:X.A.handled=none:=I.ok.hd hc
 refine callType_codes (Q₁:=λobj s₁=>obj=.ref (zz9 s)/\s₁={s with heap:=s.heap.push {cls:=.type "dict",data:=.dict #[]}}) F.kt_called_dict (F.kt_typeCall_dict_1 _) F.entry_dict_init (kt_code_dict_new _ ⟨rfl,rfl⟩) ?_
 rintro obj s₁ ⟨rfl,rfl⟩
 have hn:H (zz9 s)=none:=I.bu.fresh (zzE _)
 have I1:=I.laid (a:=(zz9 s)) (o:=.dT []) (t':=s.toks) (λ_ _ q=>zzB _ q) (zzE _) (kJ s.heap I.big)
 have T:(⟨s.heap.push {cls:=.type "dict",data:=.dict #[]},s.gens,s.drawn,s.toks,s.os⟩:Shared).TypeIs (.ref (zz9 s)) "dict":=⟨_,zzX _ rfl,rfl⟩
 have gf:∀c,c≠(zz9 s)->upd H (zz9 s) (.dT []) c=H c:=λc hc=>aj hc
 have same:az H (upd H (zz9 s) (.dT [])):=bf hn
 have JV:dz X.K (upd H (zz9 s) (.dT [])) l vs:=same.seq hl
 obtain⟨ak,rv,p,hz⟩:=I1.list JV
 obtain⟨o,n,g1,g2,g3,g4⟩:=id p
 refine⟨T,F.args_dict_init_2 _ _,?_⟩;unfold Builtin.«dict.__init__» Builtin.Dict.selfAndRest;refine zzA (zzA (wpAny_notOrdered_dict T ?_));show wpAny _ _ (pure ((zz9 s),[Value.ref l]):Sem _) _ _ _;refine zzG ?_;show wpAny _ _ (Builtin.Dict.updateFrom "dict.__init__" (zz9 s) (.ref l) [] .none) _ _ _;unfold Builtin.Dict.updateFrom;refine zzA (wpAny_typeOf ⟨o,g1,g2⟩ ?_);rw [if_pos (by decide)];refine zzA (Cb g1 g2 g4 g3 hh λh' tk hk=>?_);rw [if_pos (by decide)];refine zzA (wpAny_rule ?_);have I2:=I1.kept (h':=h') (t':=tk) hk
 obtain⟨its',rv',p',_⟩:=I2.list JV
 refine zzA (wpAny_pyIter_list p'.isList ?_);have I3:=I2.kept (h':=h'.push {cls:=.type "list_iterator",data:=.fields #[.ref l,.int 0 0]}) (t':=tk) λb o e=>zzB _ e
 have SY:(h'.push {cls:=.type "list_iterator",data:=.fields #[.ref l,.int 0 0]}).IsListIter h'.objs.size l 0:=⟨_,zzX _ rfl,rfl,rfl⟩
 have Tb:gc X aa (upd H (zz9 s) (.dT [])) h'.objs.size:=I2.lK (zzE _) (I2.bu.fresh (zzE _))
 refine zzG ⟨plainId_quiet ic _,BG (X:=X) (A:=X.A.in1) (aa:=aa) (σ:=σ) (l:=l) (d:=(zz9 s)) (it:=h'.objs.size) (vs:=vs) (by show X.A.units+1+1<cLine;omega) (show X.A.in1.handled=none from hh) aA 0 0 [] _ _ I3 Tb SY JV ?_ ax ?_ λs' H' J1 J2 J3=>⟨rfl,?_⟩⟩
 ·exact Paired.zV pr λ_ _ ⟨q,b,e1,e2,e3⟩=>⟨q,b,e1,(show eE X.K _ q _ from by
   rcases e2 with(e2|⟨o,e2⟩)|e2
   ·exact .inl (.inl (same _ _ e2))
   ·exact .inl (.inr ⟨o,same _ _ e2⟩)
   ·exact .inr e2),same _ _ e3⟩
 ·have:=Paired.length pr
  rw [List.length_nil];omega
 ·have e:H'=upd H (zz9 s) (.dT (dQ [] aA)):=by
   funext b
   by_cases hb:b=(zz9 s)
   ·rw [hb,ax];exact J2
   ·rw [aj hb,J3 b hb,aj hb]
  rw [e] at J1;exact⟨.ref (zz9 s),_,J1,rfl,q _ hn⟩
def tQ(hc:X.calm=true)(hu:X.A.units+3<cLine):bR X (.type "dict") (λxs H Q=>∃l vs aA,xs=[V.ref l]/\dz X.K H l vs/\gA X.K H vs aA/\∀p o,H p=none->Q (.ref p) (upd H p (.cX o (.dT (dQ [] aA))))):=by
 intro aa s σ H xs us Q I r h;obtain⟨l,vs,aA,rfl,hl,pr,q⟩:=h
 refine wpAny_mono (sY hc hu aa s σ H _ us (λv H'=>∃p,v=.ref p/\H p=none/\H'=upd H p (.dT (dQ [] aA))) I r ⟨l,vs,aA,rfl,hl,pr,λp hp=>⟨p,rfl,hp,rfl⟩⟩) ?_ λ_ _ z=>z
 rintro u s' ⟨v,H',I',rv,p,rfl,hp,rfl⟩
 obtain⟨o,J⟩:=I'.freeze ax
 have e:upd (upd H p (.dT (dQ [] aA))) p (.cX o (.dT (dQ [] aA)))=upd H p (.cX o (.dT (dQ [] aA))):=by
  funext b
  by_cases hb:b=p
  ·rw [hb,ax,ax]
  ·rw [aj hb,aj hb,aj hb]
 rw [e] at J;exact⟨_,_,J,rv,q p o hp⟩
variable{S:Addr}
def uP{h:Heap}{c:Nat}{xs ys:Array Value}(e:h.get? S=some (seqObj "list" xs c)):∃c',(h.update S (Obj.mapSeq λ_=>ys)).get? S=some (seqObj "list" ys c'):=⟨_,get?_update_seq e λ_=>ys⟩
end
end L2
namespace L2
open PySem PySem.Spec PyProof.Rows PySem.W
section
variable{a:Addr}
end
end L2
namespace L2
open PySem PySem.Spec PyProof.Rows
def cP(ns:List Int):Nat->Int
 |0=>ns.getD 0 0
 |k+1=>if cP ns k<ns.getD (k+1) 0 then ns.getD (k+1) 0 else cP ns k
section
variable{X:Cx}
def range_any(bs:List Bool):(List.range bs.length).any (λi=>(bs[i]?).getD true)=bs.any id:=by
 rw [Bool.eq_iff_iff,zzj,zzj]
 constructor
 ·rintro ⟨i,hi,h⟩
  have hi:=List.mem_range.1 hi
  rw [zzg hi] at h;exact⟨_,List.getElem_mem hi,h⟩
 ·rintro ⟨b,hb,h⟩
  obtain⟨i,hi,e⟩:=List.getElem_of_mem hb
  exact⟨i,List.mem_range.2 hi,by rw [zzg hi,e];exact h⟩
def yM(hc:X.calm=true):bR X (.builtin "any") (λxs H Q=>∃(p:Addr) (bs:List Bool),xs=[.ref p]/\dz X.K H p (bs.map V.bl)/\Q (.bl (bs.any id)) H):=by
 intro aa s σ H xs us Q I r h;obtain⟨p,bs,rfl,hp,q⟩:=h
 obtain⟨u,rfl,ru⟩:=vals1 r
 cases ru;obtain⟨ak,rv,pl,hz⟩:=I.list hp
 have cQ:p<(zz9 s):=by obtain⟨_,e,_⟩:=pl.isList;exact zzO e
 have hlen:ak.length=bs.length:=by rw [<-rv.length,zzl]
 refine call_any_walk (wpAny_pyIter_list pl.isList ?_);refine⟨(zz9 s),_,_,ak.toArray.size,_,_,λi=>(bs[i]?).getD true,rfl,Walks.list (A:=X.A.in1) (I.ok.hd hc) (zz9 s) p (zzb cQ) ak.toArray,⟨⟨_,zzX _ rfl,rfl,rfl⟩,pl.isList.push _⟩,λi v s2 Q2 E2 hP hQ=>?_,λh' tk hk=>?_⟩
 ·have hv:ak[i]?=some v:=by simpa using hP
  have hi:i<bs.length:=by rw [<-hlen];exact(zzH.mp hv).1
  obtain⟨u,hu,ru⟩:=rv.get (i:=i) (x:=V.bl bs[i]) (by rw [zzQ,zzg hi];rfl)
  rw [hv] at hu;cases hu;have e:v=Value.bool bs[i]:=ru
  rw [e];have q2:Q2 ((bs[i]?).getD true) s2:=hQ
  rw [zzg hi,Option.getD_some] at q2;exact wpAny_truthy_bool q2
 ·rw [zzC,hlen,range_any];exact⟨.bl (bs.any id),H,I.kept λb o e=>hk b o (by simp;exact zzb (zzO e)) (zzB _ e),rfl,q⟩
end
def maxD(ns:List Int)(d:Int):Int:=if ns=[] then d else cP ns (ns.length-1)
def wZ(a v:Value):argsOk "max" ⟨[a],[(Str.ofString "default",v)]⟩:=by unfold argsOk;kernel_rfl
section
variable{prog:Program}{w:World}{A:Around}{it l S:Addr}{ns:List Int}{ak:List Value}{dv:Value}{R:Result->Shared->Prop}
def vz(hh:A.handled=none)(n1:S≠it)(n2:l≠it)(n3:l≠S)(hv:∀i (h:i<ns.length),∃t,ak[i]?=some (.int ns[i] t))(Uy:ak.length=ns.length){s0:Shared}
 (hR:∀t h' tk,(∀b o,b≠it->b≠S->s0.heap.get? b=some o->h'.get? b=some o)->R (.ok (.ret (.int (cP ns (ns.length-1)) t))) {s0 with heap:=h',toks:=tk}):
 ∀(r j:Nat) (h:Heap) (tk:Nat) (t:Tok) (c:Nat),ns.length-(j+1)=r->j+1<=ns.length->(∀b o,b≠it->b≠S->s0.heap.get? b=some o->h.get? b=some o)->h.IsListIter it l (j+1)->h.IsList l ak.toArray->h.get? S=some (seqObj "list" #[.int (cP ns j) t,.int (cP ns j) t] c)->
  codeAny (model prog w) A (.builtin "max.loop" ⟨[.ref it,.none,.ref S],[(Str.ofString "default",dv)]⟩) R {s0 with heap:=h,toks:=tk}:=by
 have name:(toString "max"++toString ".loop":String)="max.loop":=by decide
 intro r
 induction r with
 |zero=>
  intro j h tk t c hr hj kk st hl hS;refine codeAny_builtin PySem.F.entry_max_loop ?_;rw [zz7 PySem.F.plain_max_loop _];show wpAny _ A.in1 (seqItems? (.ref S)>>=λz=>_) _ _ _
  refine zzA (wpAny_seqItems hS rfl ?_);show wpAny _ A.in1 (tryCatch (pyNext (.ref it)) _>>=λz=>_) _ _ _
  refine zzA (wpAny_tryCatch (wpAny_pyNext_list_end hh st hl (by simp;omega) λh' eb=>?_))
  have rQ:=eb S _ n1 hS
  show wpAny _ A.in1 (updateSeq S (λ_=>#[])>>=λz=>_) _ _ _
  refine zzA (wpAny_updateSeq rQ rfl (zzA (wpAny_letGo (zzG ?_))));have s1:=zzu h' S (Obj.mapSeq λ_=>(#[]:Array Value))
  have e:j=ns.length-1:=by omega
  rw [e];exact hR t _ tk λb o b1 b2 q=>(s1.2 b b2).trans (eb b o b1 (kk b o b1 b2 q))
 |succ r ih=>
  intro j h tk t c hr hj kk st hl hS;have cQ:j+1<ns.length:=by omega
  obtain⟨t2,ht2⟩:=hv (j+1) cQ
  refine codeAny_builtin PySem.F.entry_max_loop ?_;rw [zz7 PySem.F.plain_max_loop _];show wpAny _ A.in1 (seqItems? (.ref S)>>=λz=>_) _ _ _
  refine zzA (wpAny_seqItems hS rfl ?_);show wpAny _ A.in1 (tryCatch (pyNext (.ref it)) _>>=λz=>_) _ _ _
  refine zzA (wpAny_tryCatch (wpAny_pyNext_list_item st hl (x:=.int ns[j+1] t2) (by simpa using ht2) λh' iY sb=>?_))
  have rQ:=(sb.2 S n1).trans hS
  have rO:h'.IsList l ak.toArray:=hl.at λo q=>(sb.2 l n2).trans q
  have QU:∀b o,b≠it->b≠S->s0.heap.get? b=some o->h'.get? b=some o:=λb o b1 b2 q=>(sb.2 b b1).trans (kk b o b1 b2 q)
  refine zzA (zzG ?_);show wpAny _ A.in1 (tryCatch (holding [Value.int ns[j+1] t2,.int ns[j+1] t2] (richCompare .Gt (.int ns[j+1] t2) (.int (cP ns j) t)>>=λz=>_)) _>>=λz=>_) _ _ _
  let cf:Nat->Int:=λk=>if k=0 then cP ns j else ns[j+1]
  refine zzA (wpAny_tryCatch (wpAny_holding (zzA (CmpOf.ints_gt (prog:=prog) (w:=w) (A:=A.in1) (P:=λi v=>∃t,v=.int (cf i) t) cf (λi v h=>h) 1 0 _ _ _ _ _ ⟨t2,rfl⟩ ⟨t,rfl⟩ ?_))))
  refine zzA (wpAny_holding (wpAny_truthy_bool (zzA (wpAny_letGo (zzG ?_)))));have MJ:cP ns (j+1)=if cP ns j<ns[j+1] then ns[j+1] else cP ns j:=by
   rw [cP,zzK,zzg cQ]
   rfl
  by_cases hb:cP ns j<ns[j+1]
  ·rw [if_pos hb] at MJ;obtain⟨c2,hc2⟩:=uP (ys:=#[Value.int ns[j+1] t2,.int ns[j+1] t2]) rQ
   have s1:=zzu h' S (Obj.mapSeq λ_=>#[Value.int ns[j+1] t2,.int ns[j+1] t2])
   have hd:decide (cf 1>cf 0)=true:=zzh hb
   simp! [hd,if_true];refine zzA (wpAny_updateSeq rQ rfl (zzA (wpAny_letGo ?_)));rw [name];refine zzG ⟨plainId_quiet PySem.F.plain_max_loop _,ih (j+1) _ tk t2 c2 (by omega) cQ (λb o b1 b2 q=>(s1.2 b b2).trans (QU b o b1 b2 q)) ?_ ?_ (by rw [MJ];exact hc2)⟩
   ·exact iY.at λo q=>(s1.2 it (Ne.symm n1)).trans q
   ·exact rO.at λo q=>(s1.2 l n3).trans q
  ·rw [if_neg hb] at MJ;have hd:decide (cf 1>cf 0)=false:=zz0 hb
   simp! [hd,zze,if_false];refine zzA (wpAny_letGo ?_);rw [name];exact zzG ⟨plainId_quiet PySem.F.plain_max_loop _,ih (j+1) _ tk t c (by omega) cQ QU iY rO (by rw [MJ];exact rQ)⟩
end
def wG{X:Cx}(hc:X.calm=true){aa:List (Addr×Obj)}{s:Shared}{σ:St}{H:Hp}{p:Addr}{ns:List Int}{d:Int}{t0:Tok}{Q:VK}(I:Inv X aa σ H s)(hp:dz X.K H p (ns.map V.int))(q:Q (.int (maxD ns d)) H):
 wpAny (model X.prog X.w) X.A (call (.builtin "max") [.ref p] [(Str.ofString "default",.int d t0)]) (EP X aa σ Q) X.xe s:=by
 have name:(toString "max"++toString ".loop":String)="max.loop":=by decide
 have hh:X.A.handled=none:=I.ok.hd hc
 obtain⟨ak,rv,pl,hz⟩:=I.list hp
 have cQ:p<(zz9 s):=by obtain⟨_,e,_⟩:=pl.isList;exact zzO e
 have hlen:ak.length=ns.length:=by rw [<-rv.length,zzl]
 have Ld:∀i (h:i<ns.length),∃t,ak[i]?=some (.int ns[i] t):=λi hi=>by
  obtain⟨u,hu,t,ru⟩:=rv.get (i:=i) (x:=V.int ns[i]) (by rw [zzQ,zzg hi];rfl)
  exact⟨t,by rw [hu,ru]⟩
 refine kmk_tree PySem.F.kind_max PySem.F.plain_max PySem.F.entry_max (wZ _ _) ?_;show wpAny _ X.A.in1 (Builtin.Builtins.bindParams "max" ["key","default"] 0 ⟨[],[(Str.ofString "default",.int d t0)]⟩>>=λz=>_) _ _ s
 refine zzA (wpAny_of_eq (show Builtin.Builtins.bindParams "max" ["key","default"] 0 ⟨[],[(Str.ofString "default",.int d t0)]⟩=pure [none,some (.int d t0)] from rfl) (zzA (zzG ?_)));refine zzA (wpAny_pyIter_list pl.isList (zzA (wpAny_newList ?_ (Nat.zero_le _))));rw [name];generalize hit:(zz9 s)=it
 generalize hSS:(s.heap.push {cls:=.type "list_iterator",data:=.fields #[.ref p,.int 0 0]}).objs.size=S
 have eS:S=it+1:=by rw [<-hSS,<-hit];exact size_push' ..
 have nS:S≠it:=by omega
 have np:p≠it:=by rw [<-hit];exact zzb cQ
 have Q7:p≠S:=by rw [eS,<-hit];exact zzb (Nat.lt_succ_of_lt cQ)
 have keep:∀b ob,s.heap.get? b=some ob->((s.heap.push {cls:=.type "list_iterator",data:=.fields #[.ref p,.int 0 0]}).push (seqObj "list" #[] 0)).get? b=some ob:=λb ob e=>zzB _ (zzB _ e)
 have gI:((s.heap.push {cls:=.type "list_iterator",data:=.fields #[.ref p,.int 0 0]}).push (seqObj "list" #[] 0)).IsListIter it p 0:=by
  rw [<-hit];exact⟨_,zzB _ (zzX _ rfl),rfl,rfl⟩
 have gS:((s.heap.push {cls:=.type "list_iterator",data:=.fields #[.ref p,.int 0 0]}).push (seqObj "list" #[] 0)).get? S=some (seqObj "list" #[] 0):=by
  rw [<-hSS];exact zzX _ rfl
 have gl:((s.heap.push {cls:=.type "list_iterator",data:=.fields #[.ref p,.int 0 0]}).push (seqObj "list" #[] 0)).IsList p ak.toArray:=pl.isList.at λo e=>keep _ _ e
 generalize hg:((s.heap.push {cls:=.type "list_iterator",data:=.fields #[.ref p,.int 0 0]}).push (seqObj "list" #[] 0))=g at keep gI gS gl
 have nH:∀b o,s.heap.get? b=some o->b≠it/\b≠S:=λb o e=>by
  have:=zzO e
  rw [hit] at this;exact⟨zzb this,by rw [eS];exact zzb (Nat.lt_succ_of_lt this)⟩
 have fin:∀(z:Int) (t:Tok) (h':Heap) (tk:Nat),z=maxD ns d->(∀b o,b≠it->b≠S->g.get? b=some o->h'.get? b=some o)->EP X aa σ Q (.int z t) {s with heap:=h',toks:=tk}:=λz t h' tk TL kk=>by
  rw [TL];exact⟨.int _,H,I.kept λb o e=>kk b o (nH b o e).1 (nH b o e).2 (keep b o e),⟨_,rfl⟩,q⟩
 refine zzG ⟨plainId_quiet PySem.F.plain_max_loop _,codeAny_builtin PySem.F.entry_max_loop ?_⟩;rw [zz7 PySem.F.plain_max_loop _];show wpAny _ X.A.in1 (seqItems? (.ref S)>>=λz=>_) _ _ _
 refine zzA (wpAny_seqItems gS rfl ?_);show wpAny _ X.A.in1 (tryCatch (pyNext (.ref it)) _>>=λz=>_) _ _ _
 by_cases hn:ns=[]
 ·refine zzA (wpAny_tryCatch (wpAny_pyNext_list_end hh gI gl (by simp [hlen,hn]) λh' eb=>?_))
  refine zzA (wpAny_rule (zzG ?_));exact fin d t0 h' s.toks (by unfold maxD;rw [if_pos hn]) λb o b1 b2 e=>eb b o b1 e
 ·have h0:0<ns.length:=List.length_pos_iff.2 hn
  obtain⟨t,ht⟩:=Ld 0 h0
  refine zzA (wpAny_tryCatch (wpAny_pyNext_list_item gI gl (x:=.int ns[0] t) (by simpa using ht) λh' iY sb=>?_))
  have rQ:=(sb.2 S nS).trans gS
  refine zzA (zzG ?_);obtain⟨c2,hc2⟩:=uP (ys:=#[Value.int ns[0] t,.int ns[0] t]) rQ
  have s1:=zzu h' S (Obj.mapSeq λ_=>#[Value.int ns[0] t,.int ns[0] t])
  show wpAny _ X.A.in1 (updateSeq S (λ_=>#[Value.int ns[0] t,.int ns[0] t])>>=λz=>_) _ _ _
  refine zzA (wpAny_updateSeq rQ rfl ?_);rw [name];have m0:cP ns 0=ns[0]:=by rw [cP,zzK,zzg h0];rfl
  refine zzG ⟨plainId_quiet PySem.F.plain_max_loop _,vz (s0:={s with heap:=g}) hh nS np Q7 Ld hlen (λt h' tk kk=>fin _ t h' tk (by unfold maxD;rw [if_neg hn]) kk) _ 0 _ s.toks t c2 rfl h0 (λb o b1 b2 e=>(s1.2 b b2).trans ((sb.2 b b1).trans e)) (iY.at λo q=>(s1.2 it (Ne.symm nS)).trans q) ((gl.at λo q=>(sb.2 p np).trans q).at λo q=>(s1.2 p Q7).trans q) (by rw [m0];exact hc2)⟩
end L2
namespace Ci
open PySem L2
def bG{p:Prop}(h:false=true):p:=absurd h zzf
inductive PV where
 |aC|bl (b:Bool)|int (i:Int)|str (z:Str)
 |tup (xs:List PV)|lst (xs:List PV)
 |exc (c:Str)
 |bx (ks:List (List Int)) (vs:List PV)
 deriving Inhabited
structure Wd where
 K:zz8
 mg:Str->Option Value
 xs:List Str
 ts:List (Addr×Str):=[]
def nC(K:zz8)(H:Hp)(a:Addr)(vs:List V):Prop:=
 Rd H a (.lst vs)\/∃(ak:Array Value) (n:Nat),K.lookup a=some {cls:=.type "list",data:=.seq ak n}/\ak.size<=sizeLine/\Vals vs ak.toList
def Gk(K:zz8)(G:Hp)(a:Addr)(vs:List V):Prop:=G a=some (.tup vs)\/eE K G a vs/\∃z,V.str z∈vs
theorem Gk.sq{K:zz8}{G:Hp}{a:Addr}{vs:List V}:Gk K G a vs->eE K G a vs
 |.inl h=>.inl (.inl h)
 |.inr h=>h.1
def kz(ks:List (List Int))(us:List V):List (List Key×V):=(ks.map λk=>k.map Sum.inl).zip us
mutual
def Rep(W:Wd)(G:Hp):PV->V->Prop
 |.aC,v=>v=.aC
 |.bl b,v=>v=.bl b
 |.int i,v=>v=.int i
 |.str z,v=>v=.str z
 |.tup xs,v=>∃a vs,v=.ref a/\Gk W.K G a vs/\ah W G xs vs
 |.lst xs,v=>∃a vs,v=.ref a/\nC W.K G a vs/\ah W G xs vs
 |.exc c,v=>∃a C,v=.ref a/\c∈W.xs/\W.mg c=some (.ref C)/\G a=some (Ot a C)
 |.bx ks vs,v=>∃a o us,v=.ref a/\ks.length=us.length/\G a=some (.cX o (.dT (kz ks us)))/\ah W G vs us
def ah(W:Wd)(G:Hp):List PV->List V->Prop
 |[],vs=>vs=[]
 |p::ps,vs=>∃v r,vs=v::r/\Rep W G p v/\ah W G ps r
end
def az.tup{K:zz8}{H H':Hp}{a:Addr}{xs:List V}(e:az H H')(h:eE K H a xs):eE K H' a xs:=by
 rcases h with(h|⟨o,h⟩)|h
 ·exact .inl (.inl (e _ _ h))
 ·exact .inl (.inr ⟨o,e _ _ h⟩)
 ·exact .inr h
def az.tp{K:zz8}{H H':Hp}{a:Addr}{xs:List V}(e:az H H')(h:Gk K H a xs):Gk K H' a xs:=h.elim (λz=>.inl (e _ _ z)) λz=>.inr ⟨az.tup e z.1,z.2⟩
def az.rd{H H':Hp}{a:Addr}{u:HO}(e:az H H')(h:Rd H a u):Rd H' a u:=by
 rcases h with h|⟨o,h⟩
 ·exact .inl (e _ _ h)
 ·exact .inr ⟨o,e _ _ h⟩
def az.ls{K:zz8}{H H':Hp}{a:Addr}{vs:List V}(e:az H H')(h:nC K H a vs):nC K H' a vs:=h.elim (λz=>.inl (az.rd e z)) .inr
section
variable{W:Wd}{G G':Hp}
mutual
theorem Rep.same(s:az G G'):∀(p:PV) {v:V},Rep W G p v->Rep W G' p v
 |.aC,_,h=>by simpa only [Rep] using h
 |.bl b,_,h=>by simpa only [Rep] using h
 |.int i,_,h=>by simpa only [Rep] using h
 |.str z,_,h=>by simpa only [Rep] using h
 |.tup xs,_,h=>by
  simp! [Rep] at h⊢;obtain⟨a,vs,e,q,l⟩:=h
  exact⟨a,vs,e,az.tp s q,ah.same s xs l⟩
 |.lst xs,_,h=>by
  simp! [Rep] at h⊢;obtain⟨a,vs,e,q,l⟩:=h
  exact⟨a,vs,e,az.ls s q,ah.same s xs l⟩
 |.exc c,_,h=>by
  simp! [Rep] at h⊢;obtain⟨a,C,e,x,m,q⟩:=h
  exact⟨a,C,e,x,m,s _ _ q⟩
 |.bx ks vs,_,h=>by
  simp! [Rep] at h⊢;obtain⟨a,o,us,e,n,m,l⟩:=h
  exact⟨a,o,us,e,n,s _ _ m,ah.same s vs l⟩
theorem ah.same(s:az G G'):∀(ps:List PV) {vs:List V},ah W G ps vs->ah W G' ps vs
 |[],_,h=>by simpa only [ah] using h
 |p::ps,_,h=>by
  simp! [ah] at h⊢;obtain⟨v,r,e,h1,h2⟩:=h
  exact⟨v,r,e,Rep.same s p h1,ah.same s ps h2⟩
end
theorem ah.paired:∀{ps:List PV} {vs:List V},ah W G ps vs->Paired (λv p=>Rep W G p v) vs ps
 |[],_,h=>by simp! [ah] at h;subst h;exact .nil
 |p::ps,_,h=>by
  simp! [ah] at h;obtain⟨v,r,rfl,h1,h2⟩:=h
  exact .cons h1 (ah.paired h2)
def ah.length{ps:List PV}{vs:List V}(h:ah W G ps vs):vs.length=ps.length:=k8 h.paired
def ah.nil:ah W G [] []:=by simp! [ah]
def ah.cons{p:PV}{v:V}{ps:List PV}{vs:List V}(h:Rep W G p v)(t:ah W G ps vs):ah W G (p::ps) (v::vs):=by simp! [ah];exact⟨_,_,rfl,h,t⟩
def ah.aR{p:PV}{ps:List PV}{vs:List V}(h:ah W G (p::ps) vs):∃v r,vs=v::r/\Rep W G p v/\ah W G ps r:=by simpa only [ah] using h
theorem ah.append:∀{ps qs:List PV} {vs us:List V},ah W G ps vs->ah W G qs us->ah W G (ps++qs) (vs++us)
 |[],_,_,_,h,k=>by simp! [ah] at h;subst h;exact k
 |p::ps,_,_,_,h,k=>by
  obtain⟨v,r,rfl,h1,h2⟩:=h.aR
  exact .cons h1 (h2.append k)
def ah.get:∀{ps:List PV} {vs:List V} {i:Nat} {v:V},ah W G ps vs->vs[i]?=some v->∃p,ps[i]?=some p/\Rep W G p v:=λh e=>nQ h.paired e
theorem ah.oj:∀{ps:List PV} {vs:List V} {i:Nat} {p:PV},ah W G ps vs->ps[i]?=some p->∃v,vs[i]?=some v/\Rep W G p v
 |[],_,_,_,_,e=>by simp at e
 |p::ps,_,0,q,h,e=>by
  obtain⟨v,r,rfl,h1,h2⟩:=h.aR
  simp at e;subst e;exact⟨v,rfl,h1⟩
 |p::ps,_,i+1,q,h,e=>by
  obtain⟨v,r,rfl,h1,h2⟩:=h.aR
  obtain⟨u,e1,k⟩:=h2.oj (i:=i) (by simpa using e)
  exact⟨u,by simpa using e1,k⟩
theorem ah.drop:∀{ps:List PV} {vs:List V} (n:Nat),ah W G ps vs->ah W G (ps.drop n) (vs.drop n)
 |_,_,0,h=>by simpa using h
 |[],_,n+1,h=>by simp! [ah] at h;subst h;simp! [List.drop_nil];exact .nil
 |p::ps,_,n+1,h=>by
  obtain⟨v,r,rfl,h1,h2⟩:=h.aR
  simpa using h2.drop n
theorem ah.take:∀{ps:List PV} {vs:List V} (n:Nat),ah W G ps vs->ah W G (ps.take n) (vs.take n)
 |_,_,0,h=>by simp! [List.take_zero];exact .nil
 |[],_,n+1,h=>by simp! [ah] at h;subst h;simp! [List.take_nil];exact .nil
 |p::ps,_,n+1,h=>by
  obtain⟨v,r,rfl,h1,h2⟩:=h.aR
  simp! [List.take_succ_cons];exact .cons h1 (h2.take n)
end
def gR(H H':Hp):Prop:=∀b o,H b=some o->(∀ps,o≠.gq ps)/\H' b=some o\/∃ps m,o=.gq ps/\H' b=some (.gq (ps++m))
def gR.refl(H:Hp):gR H H:=λb o h=>by
 cases o with
 |gq ps=>exact .inr ⟨ps,#[],rfl,by simpa using h⟩
 |_=>exact .inl ⟨(λ_ z=>nomatch z),h⟩
def gR.trans{H H1 H2:Hp}(a:gR H H1)(b:gR H1 H2):gR H H2:=λc o h=>by
 rcases a c o h with⟨n,e⟩|⟨ps,m,rfl,e⟩
 ·rcases b c o e with y|⟨ps,m,rfl,e2⟩
  ·exact .inl y
  ·exact absurd rfl (n ps)
 ·rcases b c _ e with⟨n,_⟩|⟨ps',m',e2,e3⟩
  ·exact absurd rfl (n _)
  ·cases e2;exact .inr ⟨ps,m++m',rfl,by rw [e3,Array.append_assoc]⟩
def gR.free{H H':Hp}(e:gR H H'){l:Addr}(h:H' l=Option.none):H l=Option.none:=by
 cases q:H l with
 |none=>rfl
 |some o=>
  rcases e l o q with⟨_,z⟩|⟨_,_,_,z⟩
  ·rw [h] at z;cases z
  ·rw [h] at z;cases z
def gR.at{H H':Hp}(e:gR H H'){b:Addr}{o:HO}(h:H b=some o)(n:∀ps,o≠.gq ps):H' b=some o:=by
 rcases e b o h with⟨_,z⟩|⟨ps,_,rfl,_⟩
 ·exact z
 ·exact absurd rfl (n ps)
def gR.uM{H H':Hp}(e:gR H H'){b:Addr}(h:H b≠none)(n:∀vs,H b≠some (.tup vs)):∀vs,H' b≠some (.tup vs):=λvs z=>by
 cases q:H b with
 |none=>exact h q
 |some o=>
  rcases e b o q with⟨_,y⟩|⟨_,_,_,y⟩
  ·rw [z] at y;cases y;exact n vs q
  ·rw [z] at y;cases y
def gR.of{H H':Hp}(e:az H H'):gR H H':=λb o h=>by
 cases o with
 |gq ps=>exact .inr ⟨ps,#[],rfl,by simpa using e _ _ h⟩
 |_=>exact .inl ⟨(λ_ z=>nomatch z),e _ _ h⟩
def gR.tup{K:zz8}{H H':Hp}{a:Addr}{xs:List V}(e:gR H H')(h:eE K H a xs):eE K H' a xs:=by
 rcases h with(h|⟨o,h⟩)|h
 ·exact .inl (.inl (e.at h (λ_ z=>nomatch z)))
 ·exact .inl (.inr ⟨o,e.at h (λ_ z=>nomatch z)⟩)
 ·exact .inr h
def gR.ls{K:zz8}{H H':Hp}{a:Addr}{vs:List V}(e:gR H H')(h:nC K H a vs):nC K H' a vs:=by
 rcases h with(h|⟨o,h⟩)|h
 ·exact .inl (.inl (e.at h (λ_ z=>nomatch z)))
 ·exact .inl (.inr ⟨o,e.at h (λ_ z=>nomatch z)⟩)
 ·exact .inr h
def cV(W:Wd)(G H:Hp):Prop:=∀P q,(P,q)∈W.ts->G P=none/\∃ps,H P=some (.gq ps)/\TriplesOk ps.toList/\
 ∀pos cv,codeAmong pos ps.toList=some cv->∃c' oc pL t,cv=.ref c'/\G c'=some (.cX oc tG)/\oc.data=.fields pL/\pL[1]?=some (.str q t)
theorem cV.same{W:Wd}{G G' H H':Hp}(t:cV W G H)(g:az G G')(own:∀a,H a≠none->(∀vs,H a≠some (.tup vs))->G a=none->G' a=none)(h:∀P ps,H P=some (.gq ps)->H' P=some (.gq ps)):cV W G' H':=λP q m=>by
 obtain⟨n,ps,e,tr,al⟩:=t P q m
 refine⟨own P (by rw [e];exact λz=>nomatch z) (by rw [e];exact λ_ z=>nomatch z) n,ps,h P ps e,tr,λpos cv y=>?_⟩
 obtain⟨c',oc,pL,t,e1,e2,e3,e4⟩:=al pos cv y
 exact⟨c',oc,pL,t,e1,g _ _ e2,e3,e4⟩
structure aF(W:Wd)(G H G' H':Hp):Prop where
 g:az G G'
 h:gR H H'
 sub:az G' H'
 own:∀a,H a≠none->(∀vs,H a≠some (.tup vs))->G a=none->G' a=none
 tab:cV W G H->cV W G' H'
section
variable{W:Wd}
def aF.refl{G H:Hp}(s:az G H):aF W G H G H:=⟨az.refl _,gR.refl _,s,λ_ _ _ h=>h,id⟩
def aF.trans{G H G1 H1 G2 H2:Hp}(a:aF W G H G1 H1)(b:aF W G1 H1 G2 H2):aF W G H G2 H2:=
 ⟨a.g.trans b.g,a.h.trans b.h,b.sub,λx hx ht hg=>b.own x (λz=>hx (a.h.free z)) (a.h.uM hx ht) (a.own x hx ht hg),λt=>b.tab (a.tab t)⟩
def pX{H:Hp}{p:Addr}{o:HO}(h:∀ps,H p≠some (.gq ps))(P:Addr)(ps:Array Value)(e:H P=some (.gq ps)):upd H p o P=some (.gq ps):=by
 rw [aj (λz=>by subst z;exact h ps e)];exact e
theorem aF.new{G H:Hp}{p:Addr}{o:HO}(s:az G H)(h:H p=none):aF W G H (upd G p o) (upd H p o) where
 g:=bf (s.free h)
 h:=.of (bf h)
 sub:=λb u e=>by
  by_cases hb:b=p
  ·subst hb;rw [ax] at e⊢;exact e
  ·rw [aj hb] at e⊢;exact s _ _ e
 own:=λa ha _ hg=>by
  have:a≠p:=λz=>by subst z;exact ha h
  rw [aj this];exact hg
 tab:=λt=>t.same (bf (s.free h)) (λa ha _ hg=>by
  have:a≠p:=λz=>by subst z;exact ha h
  rw [aj this];exact hg) (pX (λps z=>by rw [h] at z;cases z))
def aF.adopt{G H:Hp}{b:Addr}{vs:List V}(s:az G H)(h:H b=some (.tup vs)):aF W G H (upd G b (.tup vs)) H:=by
 have sm:az G (upd G b (.tup vs)):=λc u e=>by
  by_cases hc:c=b
  ·subst hc;rw [ax];have:=s _ _ e;rw [h] at this;exact this
  ·rw [aj hc];exact e
 have ow:∀a,H a≠none->(∀vs,H a≠some (.tup vs))->G a=none->upd G b (.tup vs) a=none:=λa _ n e=>by
  have:a≠b:=λz=>by subst z;exact n vs h
  rw [aj this];exact e
 exact⟨sm,gR.refl _,λc u e=>by
  by_cases hc:c=b
  ·subst hc;rw [ax] at e;cases e;exact h
  ·rw [aj hc] at e;exact s _ _ e,ow,λt=>t.same sm ow λ_ _ e=>e⟩
def aF.PK{G H:Hp}{p:Addr}{o:HO}(s:az G H)(h:H p=none):aF W G H G (upd H p o):=
 ⟨az.refl _,.of (bf h),s.trans (bf h),λ_ _ _ hg=>hg,λt=>t.same (az.refl _) (λ_ _ _ h=>h) (pX (λps z=>by rw [h] at z;cases z))⟩
end
def mW(scope:Scope):List Str:=((scope.names.filter λp=>p.2==.free).map (·.1)).reverse
def okN(x:Str):Bool:=!(x=="__debug__")&&!(x=="__classdict__")&&!(x=="__name__")
def gX(x:Str):Bool:=x.cps.toList.contains 64
def fZ{α:Type}{a:α}{p:Prop}(h:(none:Option α)=some a):p:=nomatch h
def gF:Expr->Option Str
 |.Name x _=>some x
 |_=>none
def eW{e:Expr}{x:Str}(h:gF e=some x):∃p,e=.Name x p:=by
 cases e with
 |Name y p=>cases h;exact⟨_,rfl⟩
 |_=>exact fZ h
def EX:Expr->Option (Expr×List Expr×List Keyword×Pos)
 |.Call f a k p=>some (f,a,k,p)
 |_=>none
def j7{e:Expr}{q:Expr×List Expr×List Keyword×Pos}(h:EX e=some q):e=.Call q.1 q.2.1 q.2.2.1 q.2.2.2:=by
 cases e with
 |Call f a k p=>cases h;rfl
 |_=>exact fZ h
def PJ:List Arg->Option (List Str)
 |[]=>some []
 |[a]=>some [a.arg]
 |_=>none
noncomputable def NP(p:Arguments):Option (List Str):=if(p.posonlyargs.isEmpty&&p.vararg.isNone&&p.kwonlyargs.isEmpty&&p.kw_defaults.isEmpty&&p.kwarg.isNone&&p.defaults.isEmpty)=true then PJ p.args else none
def xu:List Expr->List (Option Str)->Bool
 |[],[]=>true
 |.Name x _::r,some y::t=>x==y&&okN x&&xu r t
 |_,_=>false
noncomputable def Te(ps:List Str)(scope:Scope):Bool:=
 scope.kind==.function&&!scope.isCoroutine&&!scope.isGenerator&&decide ((ps++mW scope).Nodup)&&(scope.names.all λy=>decide (y.2≠.cell))&&(ps.all λx=>decide (scope.names.lookup x=some .local))&&((mW scope).all λx=>decide (scope.names.lookup x=some .free))
noncomputable def OH(g:Str)(idx:List Nat)(params:Arguments)(body:Expr)(scope:Scope):Bool:=(NP params).any λps=>(EX body).any λq=>gF q.1==some g&&q.2.2.1.isEmpty&&!q.2.1.isEmpty&&decide (idx.head?=some ps.length)&&scope.names.lookup g==some .globalImplicit&&okN g&&!gX g&&xu q.2.1 (idx.tail.map λi=>(ps++mW scope)[i]?)&&Te ps scope
structure OE(W:Wd)(G:Hp)(g:Str)(idx:List Nat)(d5:List PV)(f c':Addr)(oc:Obj)(pL:Array Value)(t:Tok)(KA pm:Value)(params:Arguments)(body:Expr)(scope:Scope)(qual:Str)(cl:List (Str×Addr))(Z:List (Addr×Obj))(ws:List V):Prop where
 lg:OH g idx params body scope=true
 fo:G f=some (.cX (PySem.W.kla_obj "<lambda>" qual params body scope cl pm c' KA) tG)
 co:G c'=some (.cX oc tG)
 cd:oc.data=.fields pL
 cn:pL[1]?=some (.str qual t)
 fz:Z.lookup f=none
 cz:Z.lookup c'=none
 inj:∀x y c,cl.lookup x=some c->cl.lookup y=some c->x=y
 has:∀y∈mW scope,∃c,cl.lookup y=some c
 cells:∀x c,cl.lookup x=some c->∃o v,Z.lookup c=some o/\o.data=.cell v
 zs:∀b o,Z.lookup b=some o->G b=some (.cX o tG)
 zc:∀b o,Z.lookup b=some o->∃v,o.data=.cell v
 vals:∀(i:Nat) y c,(mW scope)[i]?=some y->cl.lookup y=some c->∀v,ws[i]?=some v->∃u o,RelV v u/\Z.lookup c=some o/\o.data=.cell (some u)
 len:ws.length=(mW scope).length
 rep:ah W (fN Z G) d5 ws
def wo(W:Wd)(G:Hp)(g:Str)(idx:List Nat)(d5:List PV)(v:V):Prop:=∃f c' oc pL t KA pm params body scope qual cl Z ws,v=.ref f/\OE W G g idx d5 f c' oc pL t KA pm params body scope qual cl Z ws
theorem v7{Z:List (Addr×Obj)}{G G':Hp}(s:az G G'):az (fN Z G) (fN Z G'):=λb u e=>by
 obtain⟨q,e1⟩:=tR e
 rw [eO q];exact s _ _ e1
def wo.same{W:Wd}{G G':Hp}{g:Str}{idx:List Nat}{d5:List PV}{v:V}(s:az G G')(h:wo W G g idx d5 v):wo W G' g idx d5 v:=by
 obtain⟨f,c',oc,pL,t,KA,pm,params,body,scope,qual,cl,Z,ws,e,d⟩:=h
 exact⟨f,c',oc,pL,t,KA,pm,params,body,scope,qual,cl,Z,ws,e,⟨d.lg,s _ _ d.fo,s _ _ d.co,d.cd,d.cn,d.fz,d.cz,d.inj,d.has,d.cells,λb o q=>s _ _ (d.zs b o q),d.zc,d.vals,d.len,ah.same (v7 s) d5 d.rep⟩⟩
inductive Slot where
 |no|val (p:PV)|own (p:PV)|fn (g:Str) (idx:List Nat) (d5:List PV)
 deriving Inhabited
abbrev Sl:=List Slot
def Own(W:Wd)(H0 G H:Hp):PV->V->Prop
 |.lst xs,v=>∃a vs,v=.ref a/\H a=some (.lst vs)/\G a=none/\H0 a=none/\ah W G xs vs
 |.bx ks ps,v=>∃a us,v=.ref a/\ks.length=us.length/\H a=some (.dT (kz ks us))/\G a=none/\H0 a=none/\ah W G ps us
 |_,_=>False
def Top(W:Wd)(H0 G H:Hp)(p:PV)(v:V):Prop:=Rep W G p v\/Own W H0 G H p v
def ER(W:Wd)(H0 G H:Hp):Slot->Option V->Prop
 |.no,_=>True
 |.val p,o=>∃v,o=some v/\Rep W G p v
 |.own p,o=>∃v,o=some v/\Own W H0 G H p v
 |.fn g idx d5,o=>∃v,o=some v/\wo W G g idx d5 v
structure SR(W:Wd)(H0:Hp)(env:Sl)(σ:St)(G H:Hp):Prop where
 len:env.length=σ.length
 sub:az G H
 base:gR H0 H
 slot:∀(i:Nat) (s:Slot),env[i]?=some s->∃o,σ[i]?=some o/\ER W H0 G H s o
 apart:∀(i j:Nat) (p q:PV) (a:Addr),env[i]?=some (.own p)->env[j]?=some (.own q)->σ[i]?=some (some (.ref a))->σ[j]?=some (some (.ref a))->i=j
 tab:cV W G H
 mF:cV W G H0
section
variable{W:Wd}{H0 G H G' H':Hp}{env:Sl}{σ:St}
theorem Own.grow(g:aF W G H G' H'):∀{p:PV} {v:V},Own W H0 G H p v->Own W H0 G' H' p v
 |.lst xs,_,h=>by
  obtain⟨a,vs,e,h1,h2,h3,l⟩:=h
  exact⟨a,vs,e,g.h.at h1 (λ_ z=>nomatch z),g.own a (by rw [h1];exact λz=>by cases z) (by rw [h1];exact λ_ z=>by cases z) h2,h3,ah.same g.g xs l⟩
 |.bx ks ps,_,h=>by
  obtain⟨a,vs,e,n,h1,h2,h3,l⟩:=h
  exact⟨a,vs,e,n,g.h.at h1 (λ_ z=>nomatch z),g.own a (by rw [h1];exact λz=>by cases z) (by rw [h1];exact λ_ z=>by cases z) h2,h3,ah.same g.g ps l⟩
 |.aC,_,h=>h|.bl _,_,h=>h|.int _,_,h=>h|.str _,_,h=>h|.tup _,_,h=>h|.exc _,_,h=>h
theorem ER.grow(g:aF W G H G' H'):∀{s:Slot} {o:Option V},ER W H0 G H s o->ER W H0 G' H' s o
 |.no,_,_=>trivial
 |.val p,_,h=>by obtain⟨v,e,r⟩:=h;exact⟨v,e,Rep.same g.g p r⟩
 |.own p,_,h=>by obtain⟨v,e,r⟩:=h;exact⟨v,e,r.grow g⟩
 |.fn _ _ _,_,h=>by obtain⟨v,e,r⟩:=h;exact⟨v,e,r.same g.g⟩
theorem SR.grow(r:SR W H0 env σ G H)(g:aF W G H G' H'):SR W H0 env σ G' H':=
 ⟨r.len,g.sub,r.base.trans g.h,λi s e=>by obtain⟨o,h1,h2⟩:=r.slot i s e;exact⟨o,h1,h2.grow g⟩,r.apart,g.tab r.tab,r.mF.same g.g (λa h1 h3 h2=>g.own a (λz=>h1 (r.base.free z)) (r.base.uM h1 h3) h2) λ_ _ h=>h⟩
def Top.grow{p:PV}{v:V}(g:aF W G H G' H')(h:Top W H0 G H p v):Top W H0 G' H' p v:=h.elim (λz=>.inl (Rep.same g.g p z)) λz=>.inr (z.grow g)
def Top.lst{xs:List PV}{v:V}(s:az G H)(h:Top W H0 G H (.lst xs) v):∃a vs,v=.ref a/\nC W.K H a vs/\ah W G xs vs:=by
 rcases h with h|h
 ·simp! [Rep] at h;obtain⟨a,vs,e,q,l⟩:=h
  exact⟨a,vs,e,az.ls s q,l⟩
 ·obtain⟨a,vs,e,h1,_,_,l⟩:=h
  exact⟨a,vs,e,.inl (.inl h1),l⟩
def Top.tup{xs:List PV}{v:V}(s:az G H)(h:Top W H0 G H (.tup xs) v):∃a vs,v=.ref a/\eE W.K H a vs/\ah W G xs vs:=by
 rcases h with h|h
 ·simp! [Rep] at h;obtain⟨a,vs,e,q,l⟩:=h
  exact⟨a,vs,e,az.tup s q.sq,l⟩
 ·exact h.elim
def Top.tupI{xs:List PV}{v:V}{ns:List Int}(s:az G H)(hx:xs=ns.map .int)(h:Top W H0 G H (.tup xs) v):∃a,v=.ref a/\G a=some (.tup (ns.map V.int)):=by
 rcases h with h|h
 ·simp! [Rep] at h;obtain⟨a,vs,e,q,l⟩:=h
  have ev:vs=ns.map V.int:=by
   subst hx
   clear q e
   induction ns generalizing vs with
   |nil=>simp! [List.map_nil,ah] at l;exact l
   |cons n ns ih=>
    obtain⟨u,r,rfl,h1,h2⟩:=l.aR
    simp! [Rep] at h1;rw [h1,ih r h2]
    rfl
  subst ev;rcases q with q|⟨_,z,hz⟩
  ·exact⟨a,e,q⟩
  ·obtain⟨n,_,hn⟩:=zzx.mp hz
   cases hn
 ·exact h.elim
def Top.bx{ks:List (List Int)}{ps:List PV}{v:V}(s:az G H)(h:Top W H0 G H (.bx ks ps) v):∃a us,v=.ref a/\ks.length=us.length/\Rd H a (.dT (kz ks us))/\ah W G ps us:=by
 rcases h with h|h
 ·simp! [Rep] at h;obtain⟨a,o,us,e,n,q,l⟩:=h
  exact⟨a,us,e,n,.inr ⟨o,s _ _ q⟩,l⟩
 ·obtain⟨a,vs,e,n,q,_,_,l⟩:=h
  exact⟨a,vs,e,n,.inl q,l⟩
def Top.int{i:Int}{v:V}(h:Top W H0 G H (.int i) v):v=.int i:=h.elim (λz=>by simpa only [Rep] using z) λz=>z.elim
def Top.bl{b:Bool}{v:V}(h:Top W H0 G H (.bl b) v):v=.bl b:=h.elim (λz=>by simpa only [Rep] using z) λz=>z.elim
def Top.str{b:Str}{v:V}(h:Top W H0 G H (.str b) v):v=.str b:=h.elim (λz=>by simpa only [Rep] using z) λz=>z.elim
def Top.aC{v:V}(h:Top W H0 G H .aC v):v=.aC:=h.elim (λz=>by simpa only [Rep] using z) λz=>z.elim
def Rep.i{i:Int}:Rep W G (.int i) (.int i):=by simp! [Rep]
def Rep.b{i:Bool}:Rep W G (.bl i) (.bl i):=by simp! [Rep]
def Rep.s{i:Str}:Rep W G (.str i) (.str i):=by simp! [Rep]
def Rep.n:Rep W G .aC .aC:=by simp! [Rep]
def Rep.l{a:Addr}{xs:List PV}{vs:List V}(h:nC W.K G a vs)(l:ah W G xs vs):Rep W G (.lst xs) (.ref a):=by simp! [Rep];exact⟨a,vs,rfl,h,l⟩
def Rep.t{a:Addr}{xs:List PV}{vs:List V}(h:Gk W.K G a vs)(l:ah W G xs vs):Rep W G (.tup xs) (.ref a):=by simp! [Rep];exact⟨a,vs,rfl,h,l⟩
end
end Ci
namespace L2
open PySem PySem.Spec PyProof.Rows
end L2
namespace HT
open PySem PySem.Spec PyProof.Rows
section
variable{prog:Program}{w:World}{A:Around}{E:Value->Shared->Prop}{s:Shared}
def rG{sl:Addr}{vk:Value}{n:Nat}{Q:Int×Int×Nat->Shared->Prop}(hs:s.heap.IsSliceOf sl .none .none vk)(pk:IsPart vk (some (-1)))
 (h:Q ((n:Int)-1, -1,n) s):wpAny (model prog w) A (Builtin.Slice.sliceApplied (.ref sl) (pure (n:Int))) Q E s:=by
 obtain⟨os,Em,hcs,hds⟩:=id hs
 unfold Builtin.Slice.sliceApplied Builtin.Slice.sliceFields;refine zzA (zzA (wpAny_field Em hds (x:=.none) rfl (zzA (wpAny_field Em hds (x:=.none) rfl (zzA (wpAny_field Em hds (x:=vk) rfl (zzG ?_)))))));refine zzA (rX pk ?_);show wpAny _ _ (if((-1:Int)==0)=true then _ else _) _ _ s;rw [if_neg (by decide)];refine zzA (slicePart_none (zzA (slicePart_none (zzA (zzG ?_)))));show wpAny _ _ (pure ((n:Int)-1,(-1:Int),Builtin.Slice.slicePlaces ((n:Int)-1) (-1) (-1))) _ _ s;have e:Builtin.Slice.slicePlaces ((n:Int)-1) (-1) (-1)=n:=by
  unfold Builtin.Slice.slicePlaces;rw [if_neg (by decide)];split
  ·have:((n:Int)-1 - -1-1)/(- -1)+1=n:=by rw [show(- -1:Int)=1 from rfl,Int.ediv_one];omega
   rw [this];omega
  ·omega
 rw [e];exact zzG h
theorem qu{α β:Type}{f g:α->Option β}:∀(l:List α),(∀m∈l,f m=g m)->l.filterMap f=l.filterMap g
 |[],_=>rfl
 |a::l,h=>by
  rw [List.filterMap_cons,List.filterMap_cons,h a (zzP ..),qu l λm hm=>h m (zzI _ hm)]
def yQ(xs:Array Value):((List.range xs.size).filterMap λ(m:Nat)=>xs[((xs.size:Int)-1+(m:Int)*(-1)).toNat]?).toArray=xs.toList.reverse.toArray:=by
 congr 1
 refine List.ext_getElem? λi=>?_
 have key:∀k,k<=xs.size->(List.range k).filterMap (λ(m:Nat)=>xs[((xs.size:Int)-1+(m:Int)*(-1)).toNat]?)=(List.range k).filterMap λm=>xs.toList.reverse[m]?:=λk hk=>by
  refine qu _ λm hm=>?_
  have:=List.mem_range.1 hm
  rw [List.getElem?_reverse (by simpa using (by omega:m<xs.size)),Array.getElem?_toList,zzd]
  congr 1
  omega
 rw [key _ (zzE _)];have:∀l:List Value,(List.range l.length).filterMap (λm=>l[m]?)=l:=λl=>by
  have:=PySem.W.krv_all l.toArray
  simpa using this
 have:=this xs.toList.reverse
 rw [List.length_reverse,zzd] at this;rw [this]
def ij{t sl:Addr}{items:Array Value}{vk:Value}{Q:Value->Shared->Prop}(ht:IsTup s.heap t items)(hs:s.heap.IsSliceOf sl .none .none vk)(pk:IsPart vk (some (-1)))
 (h:Q (.ref (zz9 s)) {s with heap:=s.heap.push {cls:=.type "tuple",data:=.seq items.toList.reverse.toArray}})
 (hsz:items.size<=sizeLine):wpAny (model prog w) A (getItem (.ref t) (.ref sl)) Q E s:=by
 have EF:sizeOk (.seq items.toList.reverse.toArray):=by
  show items.toList.reverse.toArray.size<=sizeLine
  rw [zzC,List.length_reverse,zzd];exact hsz
 obtain⟨os,Em,hcs,hds⟩:=id hs
 have Th:s.TypeIs (.ref sl) "slice":=⟨os,Em,hcs⟩
 unfold getItem
 try with_reducible refine wpAny_holding ?_
 first|refine zzA (zzG ?_)|skip
 refine zzA (wpAny_sequenceKey ht.typeIs (by decide) ?_);refine zzA (wpAny_callSpecial?_slot (name:=Str.ofString "__getitem__") ht.typeIs PyProof.Rows.slot_tuple_getitem
  (wpAny_call_entry PyProof.Rows.slot_tuple_getitem ht.typeIs entry_tuple_getitem ?_ (args_tuple_getitem _ _)))
 show wpAny _ _ (Builtin.Tuple.tupleItemsOf (.ref t)>>=_) _ _ s
 refine zzA (tupleItemsOf_ ht ?_);refine zzA (wpAny_typeOf Th ?_);rw [if_pos (by decide)];refine zzA (rG hs pk ?_);have Ll:¬((((items.size:Int)-1)==0&&(-1:Int)==1&&items.size==items.size)=true):=by
  intro q;rw [zza,zza] at q;exact absurd q.1.2 (by decide)
 show wpAny _ _ (if(((items.size:Int)-1)==0&&(-1:Int)==1&&items.size==items.size)=true then _ else _) _ _ s
 rw [if_neg Ll,yQ]
 first
  |exact zzA (m:=Builtin.Tuple.tupleExact _) (wpAny_newObj_type (zzG ⟨_,rfl,zzG h⟩) EF)
  |exact zzA (m:=Builtin.Tuple.tupleExact _) (wpAny_newObj_type (zzA (zzG (zzG ⟨_,rfl,zzG h⟩))) EF)
end
end HT
namespace L2
open PySem PySem.Spec PyProof.Rows
def n0(z:Str):Str:=⟨z.cps.toList.reverse.toArray⟩
def Ed(n:Nat):Builtin.Str.strSliceIndices none none (-1) n=(List.range n).map λk=>n-1-k:=by
 show sliceRange ((n:Int)-1) (-1) (-1)=_
 exact PySem.W.krv_sliceRange n
def nt{vs:List V}{us:List Value}(r:Vals vs us):Vals vs.reverse us.reverse:=by
 induction r with
 |nil=>exact .nil
 |cons h t ih=>
  rw [List.reverse_cons,List.reverse_cons];exact ih.append (.cons h .nil)
section
variable{X:Cx}{e st:Expr}{te ts:TE}{pos p2:Pos}
def AV(X:Cx)(r:V->Hp->VK->Prop):Prop:=
 ∀(aa:List (Addr×Obj)) (s:Shared) (σ:St) (H:Hp) (x:V) (v vk:Value) (sl:Addr) (Q:VK),Inv X aa σ H s->RelV x v->s.heap.IsSliceOf sl .none .none vk->IsPart vk (some (-1))->r x H Q->
  ∃T id,typeLookup (.type T) "__getitem__"=pure (some (.builtin id))/\s.TypeIs v T/\wpAny (model X.prog X.w) X.A (getItem v (.ref sl)) (EP X aa σ Q) X.xe s
def AV.or{r r':V->Hp->VK->Prop}(h:AV X r)(h':AV X r'):AV X (λx H Q=>r x H Q\/r' x H Q):=by
 intro aa s σ H x v vk sl Q I rx hs pk q;rcases q with q|q
 ·exact h aa s σ H x v vk sl Q I rx hs pk q
 ·exact h' aa s σ H x v vk sl Q I rx hs pk q
def IY:AV X (λx H Q=>∃a xs,x=.ref a/\eE X.K H a xs/\∀p,H p=none->Q (.ref p) (upd H p (.tup xs.reverse))):=by
 intro aa s σ H x v vk sl Q I rx hs pk h;obtain⟨a,xs,rfl,hx,q⟩:=h
 cases rx;obtain⟨ak,r,ht,hz⟩:=I.tuple hx
 have hlen:ak.toArray.size=xs.length:=by rw [zzC];exact r.length.symm
 refine⟨"tuple",_,PyProof.Rows.slot_tuple_getitem.lookup,ht.typeIs,HT.ij ht hs pk ?_ (by rw [hlen];exact hz)⟩;refine⟨.ref (zz9 s),_,I.laid (t':=s.toks) (o:=.tup xs.reverse) (λb ob q=>zzB _ q) (zzE _) ?_,rfl,q _ (I.bu.fresh (zzE _))⟩;exact⟨by rw [List.length_reverse];exact hz,_,nt r,IsTup.new _ _⟩
def Hx:AV X (λx H Q=>∃a xs,x=.ref a/\dz X.K H a xs/\∀p,H p=none->Q (.ref p) (upd H p (.lst xs.reverse))):=by
 intro aa s σ H x v vk sl Q I rx hs pk h;obtain⟨a,xs,rfl,hx,q⟩:=h
 cases rx;obtain⟨ak,r,ht,hz⟩:=I.list hx
 refine⟨"list",_,PySem.F.slot_list_getitem.lookup,⟨_,ht.isList.choose_spec.1,ht.isList.choose_spec.2.1⟩,?_⟩;refine wpAny_getItem_list_slice ht.isList hs .none .none pk (by decide) ?_ (by rw [zzC,<-r.length];exact hz);rw [PySem.W.krv_pick];refine⟨.ref (zz9 s),_,I.laid (t':=s.toks) (o:=.lst xs.reverse) (λb ob q=>zzB _ q) (zzE _) ?_,rfl,q _ (I.bu.fresh (zzE _))⟩;exact⟨by rw [List.length_reverse];exact hz,_,0,nt r,zzX _ rfl⟩
def Gj:AV X (λx H Q=>∃z,x=.str z/\z.length<=sizeLine/\Q (.str (n0 z)) H):=by
 intro aa s σ H x v vk sl Q I rx hs pk h;obtain⟨z,rfl,hz,q⟩:=h
 obtain⟨t,rfl⟩:=rx
 refine⟨"str",_,F.slot_str_getitem.lookup,typeIs_str _ _ _,?_⟩;cases pk with
 |int i ui=>
  refine wpAny_getItem_str_slice (l:=none) (u:=none) (st:=some (-1,ui)) hs rfl ?_;have e:sliceMade z t none none (some (-1,ui))=.str (n0 z):=by
   unfold sliceMade;rw [if_neg (λq=>by rw [zza] at q;exact absurd q.1 (show¬((-1:Int)==1)=true by decide))]
   unfold slicePicked n0
   congr 2
   show((Builtin.Str.strSliceIndices none none (-1) z.length).filterMap (z.cps[·]?)).toArray=_
   rw [Ed,PySem.W.krv_range,List.filterMap_reverse]
   congr 2
   have:=PySem.W.krv_all z.cps
   exact this
  rw [e];refine⟨?_,⟨.str _,H,I.tok _,⟨_,rfl⟩,q⟩⟩;show(n0 z).cps.size<=sizeLine;have:(n0 z).cps.size=z.length:=by simp [n0,Str.length]
  rw [this];exact hz
def Sw(r:V->Hp->VK->Prop)(te ts:TE):TE:=λσ H Q=>te σ H λx H1=>ts σ H1 λk H2=>k=.int (-1)/\r x H2 Q
def He{r:V->Hp->VK->Prop}(hr:AV X r)(he:PE X e te)(hs:PE X st ts):PE X (.Subscript e (.Slice none none (some st) p2) pos) (Sw r te ts):=by
 intro aa s σ H Q I h;refine Subscript_ (bD (he aa s σ H _ I h) λv s1 ⟨x,H1,I1,r1,q1⟩=>?_)
 refine wpAny_Slice ?_;rw [evalPart_none];refine zzG (zzG ?_);rw [evalPart_some];refine bD (hs aa s1 σ H1 _ I1 q1) λu s3 ⟨k,H3,I3,r3,q3⟩=>?_
 obtain⟨rfl,q3⟩:=q3
 obtain⟨t,rfl⟩:=r3
 have I4:Inv X aa σ H3 {s3 with heap:=s3.heap.push {cls:=.type "slice",data:=.fields #[.none,.none,.int (-1) t]}}:=I3.kept (t':=s3.toks) λb ob q=>zzB _ q
 obtain⟨T,id,hT,ht,hg⟩:=hr aa {s3 with heap:=s3.heap.push {cls:=.type "slice",data:=.fields #[.none,.none,.int (-1) t]}} σ H3 x v (.int (-1) t) (zz9 s3) Q I4 r1 (Heap.IsSliceOf.new ..) (.int _ _) q3
 show wpAny (model X.prog X.w) X.A (subscriptTail e (.Slice none none (some st) p2) v (.ref (zz9 s3))) (EP X aa σ Q) X.xe {s3 with heap:=s3.heap.push {cls:=.type "slice",data:=.fields #[.none,.none,.int (-1) t]}}
 exact tail_any (ops:=[v,.ref (zz9 s3)]) ht hT hg (by with_unfolding_all rfl)
end
end L2
namespace L2
open PySem PySem.Spec PyProof.Rows PySem.W
end L2
namespace Ci
open PySem L2
inductive Res(α:Type) where
 |ok (a:α)|exc (c:Str)|bad
@[inline] def Res.bind{α β:Type}:Res α->(α->Res β)->Res β
 |.ok a,f=>f a
 |.exc c,_=>.exc c
 |.bad,_=>.bad
instance:Monad Res where
 pure:=.ok
 bind:=Res.bind
def Res.aX{α β:Type}{r:Res α}{f:α->Res β}{b:β}(h:r.bind f=.ok b):∃a,r=.ok a/\f a=.ok b:=by
 cases r with
 |ok a=>exact⟨a,rfl,h⟩
 |exc c=>cases h
 |bad=>cases h
def Res.iw{α β:Type}{r:Res α}{f:α->Res β}{c:Str}(h:r.bind f=.exc c):r=.exc c\/∃a,r=.ok a/\f a=.exc c:=by
 cases r with
 |ok a=>exact .inr ⟨a,rfl,h⟩
 |exc c'=>cases h;exact .inl rfl
 |bad=>cases h
def Res.of{α:Type}:Option α->Res α
 |some a=>.ok a
 |none=>.bad
def Res.well{α:Type}:Res α->Res α
 |.ok a=>.ok a
 |_=>.bad
abbrev cL:Nat:=1000000
def eqs(f:PV->PV->Bool):List PV->List PV->Bool
 |[],[]=>true
 |x::xs,y::ys=>f x y&&eqs f xs ys
 |_,_=>false
noncomputable def ib:Nat->PV->PV->Bool
 |_,.aC,.aC=>true
 |_,.bl a,.bl b=>a==b
 |_,.bl a,.int i=>(if a then 1 else 0)==i
 |_,.int i,.bl a=>i==(if a then 1 else 0)
 |_,.int i,.int j=>i==j
 |_,.str x,.str y=>x==y
 |n+1,.tup xs,.tup ys=>eqs (ib n) xs ys
 |n+1,.lst xs,.lst ys=>eqs (ib n) xs ys
 |_,_,_=>false
noncomputable def plain:Nat->PV->Bool
 |_,.aC=>true
 |_,.bl _=>true
 |_,.int _=>true
 |_,.str _=>true
 |n+1,.tup xs=>xs.all (plain n)
 |n+1,.lst xs=>xs.all (plain n)
 |_,_=>false
abbrev DP:Nat:=9
noncomputable abbrev eqv:PV->PV->Bool:=ib DP
noncomputable abbrev xg:PV->Bool:=plain DP
inductive Jn where|add|sub|mul|mod|fdiv
inductive yt where|eq|ne|lt|le|gt|ge|is|oY|JA|rP
def aO(i:Int):Bool:=decide (-(2^64)<i)&&decide (i<2^64)
noncomputable def binOp:Jn->PV->PV->Res PV
 |.add,.int i,.int j=>.ok (.int (i+j))
 |.add,.str x,.str y=>if x.length+y.length<=cL then .ok (.str (x++y)) else .bad
 |.add,.lst x,.lst y=>if x.length+y.length<=cL then .ok (.lst (x++y)) else .bad
 |.sub,.int i,.int j=>.ok (.int (i-j))
 |.mul,.int i,.int j=>if aO i||aO j then .ok (.int (i*j)) else .bad
 |.mod,.int i,.int j=>if 0<j then .ok (.int (i%j)) else .bad
 |.fdiv,.int i,.int j=>if 0<j/\j<1073741824 then .ok (.int (i/j)) else .bad
 |_,_,_=>.bad
def intsOf:List PV->Option (List Int)
 |[]=>some []
 |.int i::r=>(intsOf r).map (i::·)
 |_=>none
def bo{α:Type}:List (List Int)->List α->List Int->Option α
 |k'::ks,v::vs,k=>if k'=k then some v else bo ks vs k
 |_,_,_=>none
def cZ(ks:List (List Int))(k:List Int):Bool:=ks.any λk'=>decide (k'=k)
def bF(ks:List (List Int))(k:List Int):List (List Int):=if cZ ks k then ks else ks++[k]
def cM{α:Type}(ks:List (List Int))(vs:List α)(k:List Int)(p:α):List α:=if cZ ks k then List.zipWith (λk' v=>if k'=k then p else v) ks vs else vs++[p]
def af(k:List Int):PV:=.tup (k.map .int)
def fh:PV->Option (List Int)
 |.tup xs=>intsOf xs
 |_=>none
def qw:List PV->Option (List (List Int×PV))
 |[]=>some []
 |.tup [x,y]::r=>(fh x).bind λk=>(qw r).map ((k,y)::·)
 |_=>none
def b8{α:Type}:List (List Int×α)->List (List Int)->List α->List (List Int)×List α
 |[],ks,vs=>(ks,vs)
 |p::r,ks,vs=>b8 r (bF ks p.1) (cM ks vs p.1 p.2)
noncomputable def pF(x:PV)(ys:List PV):Bool:=ys.any λy=>eqv y x
noncomputable def d6(a b:PV):Res PV:=if xg a&&xg b then .ok (.bl (eqv a b)) else .bad
noncomputable def fb(a b:PV):Res PV:=if xg a&&xg b then .ok (.bl (!eqv a b)) else .bad
def rE:PV->PV->Res PV
 |.int i,.int j=>.ok (.bl (decide (i<j)))
 |_,_=>.bad
def ql:PV->PV->Res PV
 |.int i,.int j=>.ok (.bl (decide (i<=j)))
 |_,_=>.bad
def rV:PV->PV->Res PV
 |.int i,.int j=>.ok (.bl (decide (j<i)))
 |_,_=>.bad
def rh:PV->PV->Res PV
 |.int i,.int j=>.ok (.bl (decide (j<=i)))
 |_,_=>.bad
def zG:PV->Bool
 |.aC=>true
 |_=>false
def mz:PV->PV->Res PV
 |a,.aC=>.ok (.bl (zG a))
 |.bl a,.bl b=>.ok (.bl (a==b))
 |_,_=>.bad
def di:PV->PV->Res PV
 |a,.aC=>.ok (.bl (!zG a))
 |.bl a,.bl b=>.ok (.bl (a !=b))
 |_,_=>.bad
noncomputable def tW:PV->PV->Res PV
 |a,.lst ys=>if xg a&&ys.all xg then .ok (.bl (pF a ys)) else .bad
 |a,.bx ks _=>(Res.of (fh a)).bind λk=>.ok (.bl (cZ ks k))
 |_,_=>.bad
noncomputable def fK:PV->PV->Res PV
 |a,.lst ys=>if xg a&&ys.all xg then .ok (.bl (!pF a ys)) else .bad
 |a,.bx ks _=>(Res.of (fh a)).bind λk=>.ok (.bl (!cZ ks k))
 |_,_=>.bad
noncomputable def dg:yt->PV->PV->Res PV
 |.eq=>d6|.ne=>fb|.lt=>rE|.le=>ql|.gt=>rV|.ge=>rh|.is=>mz|.oY=>di|.JA=>tW|.rP=>fK
noncomputable def aJ:PV->PV->Res PV
 |.lst xs,.int i=>Res.of (qc xs i)
 |.tup xs,.int i=>Res.of (qc xs i)
 |.str z,.int i=>if z.length<=cL then(Res.of (qc z.cps.toList i)).bind λc=>.ok (.str ⟨#[c]⟩) else .bad
 |.bx ks vs,y=>(Res.of (fh y)).bind λk=>Res.of (bo ks vs k)
 |_,_=>.bad
def me{α:Type}(xs:List α)(lo hi:Option Int):List α:=(xs.drop (HT.nE xs.length 0 lo)).take (HT.nE xs.length xs.length hi-HT.nE xs.length 0 lo)
def dI:PV->Option Int->Option Int->Res PV
 |.lst xs,lo,hi=>.ok (.lst (me xs lo hi))
 |_,_,_=>.bad
inductive B where|len|abs|max2|min2|int|str|list|tuple|all|dict|any
def boolsOf:List PV->Option (List Bool)
 |[]=>some []
 |.bl b::r=>(boolsOf r).map (b::·)
 |_=>none
def chars(z:Str):List PV:=z.cps.toList.map λc=>.str ⟨#[c]⟩
noncomputable def sj:List PV->Res PV
 |[.lst xs]=>.ok (.int xs.length)
 |[.tup xs]=>.ok (.int xs.length)
 |[.str z]=>if z.length<=cL then .ok (.int z.length) else .bad
 |[.bx ks _]=>.ok (.int ks.length)
 |_=>.bad
def yb:List PV->Res PV
 |[.int i]=>.ok (.int (if i<0 then -i else i))
 |_=>.bad
def AG:List PV->Res PV
 |[.int i,.int j]=>.ok (.int (if j>i then j else i))
 |_=>.bad
def Ac:List PV->Res PV
 |[.int i,.int j]=>.ok (.int (if j<i then j else i))
 |_=>.bad
def xl:List PV->Res PV
 |[.str z]=>if z.length<=640 then(Res.of (PySem.intText? z)).bind λn=>.ok (.int n) else .bad
 |_=>.bad
def Ao:List PV->Res PV
 |[.int i]=>if i.natAbs.log2<1920 then .ok (.str (toString i)) else .bad
 |_=>.bad
def rD:List PV->Res PV
 |[.lst xs]=>.ok (.lst xs)
 |[.tup xs]=>.ok (.lst xs)
 |[.str z]=>if z.length<=cL then .ok (.lst (chars z)) else .bad
 |_=>.bad
def la:List PV->Res PV
 |[.lst xs]=>.ok (.tup xs)
 |_=>.bad
def Ag:List PV->Res PV
 |[.lst xs]=>(Res.of (boolsOf xs)).bind λbs=>.ok (.bl (bs.all id))
 |_=>.bad
def xy:List PV->Res PV
 |[.lst xs]=>(Res.of (boolsOf xs)).bind λbs=>.ok (.bl (bs.any id))
 |_=>.bad
def m8:List PV->Res PV
 |[.lst xs]=>(Res.of (qw xs)).bind λps=>.ok (.bx (b8 ps [] []).1 (b8 ps [] []).2)
 |_=>.bad
noncomputable def bC:B->List PV->Res PV
 |.len=>sj|.abs=>yb|.max2=>AG|.min2=>Ac|.int=>xl|.str=>Ao|.list=>rD|.tuple=>la|.all=>Ag|.dict=>m8|.any=>xy
inductive Ty where|int|bool|tuple|list
def gW:Ty->PV->Bool
 |.int,.int _=>true
 |.int,.bl _=>true
 |.bool,.bl _=>true
 |.tuple,.tup _=>true
 |.list,.lst _=>true
 |_,_=>false
def eU(t:Ty):PV->Res PV
 |.exc _=>.bad
 |.bx _ _=>.bad
 |p=>.ok (.bl (gW t p))
inductive Tg where
 |one (i:Nat)|two (i j:Nat)|three (i j k:Nat)
 |four (i j k l:Nat)
mutual
inductive E where
 |var (i:Nat)|hV (i:Nat)
 |cst (p:PV)
 |glob (g:Str) (p:PV)
 |call (f:Str) (as:Es)
 |blt (b:B) (as:Es)
 |ty (t:Ty) (a:E)
 |bin (o:Jn) (a b:E)
 |cmp (o:yt) (a b:E)
 |ch (o1 o2:yt) (a b c:E)
 |not (a:E)
 |neg (a:E)
 |and (a b:E)|or (a b:E)
 |ite (c a b:E)
 |tup (as:Es)|lst (as:Es)
 |sub (a b:E)
 |slice (a:E) (lo hi:Oe)
 |comp (k:Nat) (cF:List Nat) (tg:Tg) (it:I) (elt:E)
 |cN (k:Nat) (cF:List Nat) (tg:Tg) (it:I) (c elt:E)
 |zF (a:E)
 |get (a k:E)
 |maxD (a:E) (n:Int)
 |Lm (n:Nat)
 |mS (f:Str) (as:Es)
 |rev (a:E)
 |EJ (a b:E)
inductive Es where
 |nil|cons (e:E) (es:Es)
inductive Oe where
 |no|some (e:E)
inductive I where
 |seq (e:E)|mG (e:E)|pI (a b:E)|enum (e:E)|zip (as:Es)|sC (e:E)
end
mutual
inductive S where
 |expr (e:E)
 |set (i:Nat) (e:E)
 |own (i:Nat) (e:E)
 |cX (i:Nat)
 |app (i:Nat) (e:E)
 |jj (i:Nat) (e:E)
 |put (i:Nat) (k e:E)
 |fL (i j:Nat) (e:E)
 |ji (i:Nat) (e:E)
 |ret (e:E)
 |ite (c:E) (a b:Ss)
 |bX (tg:Tg) (it:I) (b:Ss)
 |Js (c:E) (b:Ss)
 |raise (c:Str) (m:Str)
 |qP (i:Nat)
inductive Ss where
 |nil|cons (s:S) (ss:Ss)
end
abbrev aH:=Str->List PV->Res PV
def mZ:Option Slot->Res PV
 |some (.val p)=>.ok p
 |_=>.bad
def AL:Option Slot->Res PV
 |some (.val p)=>.ok p
 |some (.own p)=>.ok p
 |_=>.bad
noncomputable def Tg.put:Tg->PV->Sl->Res Sl
 |.one i,p,env=>.ok (env.set i (.val p))
 |.two i j,.tup [a,b],env=>.ok ((env.set i (.val a)).set j (.val b))
 |.three i j k,.tup [a,b,c],env=>.ok (((env.set i (.val a)).set j (.val b)).set k (.val c))
 |.four i j k l,.tup [a,b,c,d],env=>.ok ((((env.set i (.val a)).set j (.val b)).set k (.val c)).set l (.val d))
 |_,_,_=>.bad
def fc(env:Sl)(cF:List Nat):Sl:=cF.map λi=>env.getD i .no
def itemsOf:PV->Res (List PV)
 |.lst xs=>.ok xs
 |.tup xs=>.ok xs
 |.str z=>.ok (chars z)
 |_=>.bad
def rH(e:E)(p:PV):Res (List PV):=match p,e with
 |.bx _ _,.hV _=>.bad
 |.bx ks _,_=>.ok (ks.map af)
 |.lst xs,_=>.ok xs
 |.tup xs,_=>.ok xs
 |_,_=>.bad
def dN(lo:Int)(n:Nat):List PV:=(List.range n).map λi=>.int (lo+(i:Nat))
def aM(i:Int):Bool:=decide (-(2^62)<=i)&&decide (i<2^62)
def Bv:PV->Option (List PV)
 |.lst xs=>some xs
 |.tup xs=>some xs
 |_=>none
def gv:List PV->Option (List (List PV))
 |[]=>some []
 |p::r=>(Bv p).bind λxs=>(gv r).map (xs::·)
def iI:List (List PV)->Nat
 |[]=>0
 |[xs]=>xs.length
 |xs::r=>min xs.length (iI r)
def gk(xss:List (List PV)):List PV:=(List.range (iI xss)).map λi=>.tup (xss.map λxs=>xs.getD i .aC)
def bL(n:Nat):List PV->List PV
 |[]=>[]
 |x::xs=>.tup [.int (n:Nat),x]::bL (n+1) xs
def oc:Option PV->List PV->List PV
 |some y,ys=>y::ys
 |none,ys=>ys
def aE(f:PV->Res (Option PV)):List PV->Res (List PV)
 |[]=>.ok []
 |x::xs=>(f x).well.bind λo=>(aE f xs).bind λys=>.ok (oc o ys)
def jb:PV->Bool
 |.bx _ _=>true
 |_=>false
def gO:PV->Bool
 |.aC=>true
 |.bl _=>true
 |.int _=>true
 |.str _=>true
 |_=>false
def mV{α:Type}(p:PV)(f:Bool->Res α):Res α:=match p with
 |.bl b=>f b
 |_=>.bad
section
variable(F:aH)
mutual
noncomputable def aB:E->Sl->Res PV
 |.var i,env=>mZ env[i]?
 |.hV i,env=>AL env[i]?
 |.cst p,_=>.ok p
 |.glob _ p,_=>.ok p
 |.call f as,env=>(bp as env).bind λps=>F f ps
 |.blt b as,env=>(bp as env).bind λps=>bC b ps
 |.ty t a,env=>(aB a env).bind λp=>eU t p
 |.bin o a b,env=>(aB a env).bind λx=>(aB b env).bind λy=>binOp o x y
 |.cmp o a b,env=>(aB a env).bind λx=>(aB b env).bind λy=>dg o x y
 |.ch o1 o2 a b c,env=>(aB a env).bind λx=>(aB b env).bind λy=>(dg o1 x y).bind λt=>mV t λt=>
  if t then(aB c env).bind λz=>dg o2 y z else .ok (.bl false)
 |.not a,env=>(aB a env).bind λx=>mV x λb=>.ok (.bl (!b))
 |.neg a,env=>(aB a env).bind λx=>match x with|.int i=>.ok (.int (-i))|_=>.bad
 |.and a b,env=>(aB a env).bind λx=>mV x λt=>if t then aB b env else .ok (.bl false)
 |.or a b,env=>(aB a env).bind λx=>mV x λt=>if t then .ok (.bl true) else aB b env
 |.ite c a b,env=>(aB c env).bind λx=>mV x λt=>if t then aB a env else aB b env
 |.tup as,env=>(bp as env).bind λps=>.ok (.tup ps)
 |.lst as,env=>(bp as env).bind λps=>.ok (.lst ps)
 |.sub a b,env=>(aB a env).bind λx=>(aB b env).bind λy=>aJ x y
 |.slice a lo hi,env=>(aB a env).bind λx=>(lh lo env).bind λl=>(lh hi env).bind λh=>dI x l h
 |.comp k cF tg it elt,env=>(oq it env).bind λxs=>if xs.length<cL then(aE (λx=>(tg.put x (List.replicate k .no++fc env cF)).bind λag=>(aB elt ag).bind λy=>.ok (some y)) xs).bind λys=>.ok (.lst ys) else .bad
 |.cN k cF tg it c elt,env=>(oq it env).bind λxs=>if xs.length<cL then(aE (λx=>(tg.put x (List.replicate k .no++fc env cF)).bind λag=>(aB c ag).bind λt=>mV t λt=>if t then(aB elt ag).bind λy=>.ok (some y) else .ok none) xs).bind λys=>.ok (.lst ys) else .bad
 |.zF a,env=>(aB a env).bind λp=>match p with|.lst xs=>.ok (.lst xs.reverse)|_=>.bad
 |.get a k,env=>(aB a env).bind λp=>match p with|.bx ks vs=>(aB k env).bind λq=>(Res.of (fh q)).bind λz=>.ok ((bo ks vs z).getD .aC)|_=>.bad
 |.maxD a n,env=>(aB a env).bind λp=>match p with|.lst xs=>(Res.of (intsOf xs)).bind λns=>.ok (.int (L2.maxD ns n))|_=>.bad
 |.Lm n,env=>(mZ env[n]?).bind λkp=>(Res.of (fh kp)).bind λkk=>.ok (.bx [kk] [.aC])
 |.mS f as,env=>(bp as env).bind λps=>if(ps.all λp=>!jb p)=true then(match F f ps with|.ok r=>if gO r=true then .ok r else .bad|_=>.bad) else .bad
 |.rev a,env=>(aB a env).bind λp=>match p with|.str z=>(if z.length<=cL then .ok (.str (n0 z)) else .bad)|.tup xs=>.ok (.tup xs.reverse)|.lst xs=>.ok (.lst xs.reverse)|_=>.bad
 |.EJ a b,env=>(aB a env).bind λp=>match p with|.aC=>aB b env|.lst xs=>(if xs.isEmpty then aB b env else .ok (.lst xs))|_=>.bad
noncomputable def bp:Es->Sl->Res (List PV)
 |.nil,_=>.ok []
 |.cons e es,env=>(aB e env).bind λp=>(bp es env).bind λps=>.ok (p::ps)
noncomputable def lh:Oe->Sl->Res (Option Int)
 |.no,_=>.ok none
 |.some e,env=>(aB e env).bind λp=>match p with|.int i=>.ok (some i)|_=>.bad
noncomputable def oq:I->Sl->Res (List PV)
 |.seq e,env=>(aB e env).bind (rH e)
 |.mG e,env=>(aB e env).bind λp=>match p with|.int j=>if aM j then .ok (dN 0 j.toNat) else .bad|_=>.bad
 |.pI a b,env=>(aB a env).bind λp=>(aB b env).bind λq=>match p,q with|.int i,.int j=>if aM i&&aM j then .ok (dN i (j-i).toNat) else .bad|_,_=>.bad
 |.enum e,env=>(aB e env).bind λp=>(itemsOf p).bind λxs=>.ok (bL 0 xs)
 |.zip as,env=>(bp as env).bind λps=>(Res.of (gv ps)).bind λxss=>.ok (gk xss)
 |.sC e,env=>(aB e env).bind λp=>match p with|.lst xs=>.ok xs.reverse|_=>.bad
end
end
inductive Fl where
 |nx (env:Sl)|bk (env:Sl)|ct (env:Sl)|rt (p:PV)
def Fl.seq(f:Fl)(k:Sl->Res Fl):Res Fl:=match f with
 |.nx env=>k env
 |f=>.ok f
noncomputable def forL(body:PV->Sl->Res Fl):List PV->Sl->Res Fl
 |[],env=>.ok (.nx env)
 |x::xs,env=>(body x env).bind λf=>match f with
  |.nx ag=>forL body xs ag
  |.ct ag=>forL body xs ag
  |.bk ag=>.ok (.nx ag)
  |.rt p=>.ok (.rt p)
noncomputable def dy(c:Sl->Res PV)(body:Sl->Res Fl):Nat->Sl->Res Fl
 |0,_=>.bad
 |n+1,env=>(c env).bind λt=>mV t λt=>if t then(body env).bind λf=>(match f with
  |.nx ag=>dy c body n ag
  |.ct ag=>dy c body n ag
  |.bk ag=>.ok (.nx ag)
  |.rt p=>.ok (.rt p)) else .ok (.nx env)
abbrev WN:Nat:=1000000
def pV:Slot->Slot
 |.own p=>.val p
 |s=>s
section
variable(F:aH)
mutual
noncomputable def fB:S->Sl->Res Fl
 |.expr e,env=>(aB F e env).bind λ_=>.ok (.nx env)
 |.set i e,env=>(aB F e env).bind λp=>.ok (.nx (env.set i (.val p)))
 |.own i e,env=>(aB F e env).bind λp=>.ok (.nx (env.set i (.own p)))
 |.cX i,env=>.ok (.nx (env.modify i pV))
 |.app i e,env=>match env[i]? with
  |some (.own (.lst xs))=>(aB F e env).bind λp=>if xs.length<cL then .ok (.nx (env.set i (.own (.lst (xs++[p]))))) else .bad
  |_=>.bad
 |.jj i e,env=>match env[i]? with
  |some (.own (.lst xs))=>(aB F e env).bind λp=>match p with
   |.lst ys=>if xs.length+ys.length<=cL then .ok (.nx (env.set i (.own (.lst (xs++ys))))) else .bad
   |_=>.bad
  |_=>.bad
 |.put i k e,env=>(aB F e env).bind λp=>match env[i]? with
  |some (.own (.bx ks vs))=>(aB F k env).bind λkp=>match fh kp with
   |some kk=>if ks.length<cL then .ok (.nx (env.set i (.own (.bx (bF ks kk) (cM ks vs kk p))))) else .bad
   |none=>.bad
  |_=>.bad
 |.ji i e,env=>(aB F e env).bind λp=>(Res.of (Bv p)).bind λxs=>.ok (.nx (env.set i (.own (.lst xs))))
 |.fL i j e,env=>match env[i]?,env[j]? with
  |some (.own (.lst xs)),some (.own (.lst ys))=>(aB F e env).bind λp=>match p with
   |.int n=>if 0<=n/\n<ys.length/\ys.length<cL/\xs.length<cL/\i≠j then(Res.of ys[n.toNat]?).bind λq=>.ok (.nx ((env.set j (.own (.lst (ys.eraseIdx n.toNat)))).set i (.own (.lst (xs++[q]))))) else .bad
   |_=>.bad
  |_,_=>.bad
 |.ret e,env=>(aB F e env).bind λp=>.ok (.rt p)
 |.ite c a b,env=>(aB F c env).bind λp=>mV p λt=>if t then aD a env else aD b env
 |.bX tg it b,env=>(oq F it env).bind λxs=>forL (λx env=>(tg.put x env).bind λag=>aD b ag) xs env
 |.Js c b,env=>dy (aB F c) (aD b) WN env
 |.raise c _,_=>.exc c
 |.qP i,env=>.ok (.nx (env.set i (.own (.bx [] []))))
noncomputable def aD:Ss->Sl->Res Fl
 |.nil,env=>.ok (.nx env)
 |.cons s ss,env=>(fB s env).bind λf=>f.seq (aD ss)
end
end
structure Def where
 N:List Str
 np:Nat
 body:Ss
 rb:Option (Str×List Nat):=none
noncomputable def bP(d:Def)(as:List PV):Sl:=match d.rb with
 |none=>as.map .val++List.replicate (d.N.length-as.length) .no
 |some q=>(as.take (d.np-1)).map .val++.fn q.1 q.2 (as.drop (d.np-1))::List.replicate (d.N.length-d.np) .no
noncomputable def bO(d:Def)(as:List PV):Bool:=match d.rb with
 |none=>as.length==d.np
 |some _=>decide (0<d.np)&&decide (d.np-1<=as.length)
noncomputable def aq(F:aH)(d:Def)(as:List PV):Res PV:=
 if bO d as then(aD F d.body (bP d as)).bind λf=>match f with
  |.nx _=>.ok .aC
  |.rt p=>.ok p
  |_=>.bad
 else .bad
noncomputable def den:List (Str×Def)->aH
 |[],_,_=>.bad
 |(n,d)::r,f,as=>if f==n then aq (den r) d as else den r f as
abbrev ki(k:List Int):List Key:=k.map Sum.inl
def An{a b:List Int}(h:ki a=ki b):a=b:=by
 induction a generalizing b with
 |nil=>cases b with|nil=>rfl|cons=>cases h
 |cons x a ih=>cases b with
  |nil=>cases h
  |cons y b=>simp! [ki,zzF,List.cons.injEq,Sum.inl.injEq] at h;rw [h.1,ih h.2]
def sQ(k:List Int):(ki k).map kV=k.map V.int:=by
 unfold ki;rw [List.map_map]
 rfl
theorem oQ{k:List Int}{ks:List (List Int)}{u:V}{us:List V}:kz (k::ks) (u::us)=(ki k,u)::kz ks us:=rfl
def oH{ks:List (List Int)}{us:List V}(h:ks.length=us.length):(kz ks us).length=ks.length:=by
 unfold kz;rw [List.length_zip,zzl];omega
def BW{ks:List (List Int)}{us:List V}(h:ks.length=us.length):(kz ks us).map (·.1)=ks.map ki:=by
 unfold kz;exact List.map_fst_zip (by rw [zzl];omega)
theorem iU(k:List Int):∀(ks:List (List Int)) (us:List V),iS (kz ks us) (ki k)=bo ks us k
 |[],us=>by unfold bo;rfl
 |a::ks,[]=>by unfold bo;rfl
 |a::ks,u::us=>by
  rw [oQ];unfold bo
  by_cases h:a=k
  ·subst h;rw [if_pos rfl];exact iB rfl
  ·rw [if_neg h,ik (λz=>h (An z))];exact iU k ks us
theorem fV{α:Type}(k:List Int):∀(ks:List (List Int)) (us:List α),ks.length=us.length->(bo ks us k).isSome=cZ ks k
 |[],[],_=>rfl
 |a::ks,u::us,h=>by
  unfold bo cZ;rw [List.any_cons]
  by_cases e:a=k
  ·simp [e]
  ·rw [if_neg e];have:=fV k ks us (by simpa using h)
   unfold cZ at this;rw [this];simp [e]
 |[],_::_,h=>by simp at h
 |_::_,[],h=>by simp at h
def Im(k:List Int):∀(ks:List (List Int)) (us:List V),ks.length=us.length->((kz ks us).any λkv=>decide (kv.1=ki k))=cZ ks k:=λks us h=>by
 rw [kb,iU,fV k ks us h]
def y6{ks:List (List Int)}{us:List V}(h:ks.length=us.length)(k:List Int)(v:V):putK (kz ks us) (ki k) v=kz (bF ks k) (cM ks us k v):=by
 unfold putK bF cM;rw [Im k ks us h];split
 ·have go:∀(ks:List (List Int)) (us:List V),(kz ks us).map (λkv=>if kv.1=ki k then(kv.1,v) else kv)=kz ks (List.zipWith (λk' u=>if k'=k then v else u) ks us):=by
   intro ks
   induction ks with
   |nil=>intro us;simp [kz]
   |cons a ks ih=>
    intro us;cases us with
    |nil=>simp [kz]
    |cons u us=>
     rw [oQ,zzF,List.zipWith_cons_cons,oQ,ih]
     by_cases e:a=k
     ·simp [e]
     ·rw [if_neg (λz=>e (An z)),if_neg e]
  exact go ks us
 ·unfold kz;rw [List.map_append,List.zip_append (by rw [zzl];exact h)]
  rfl
def qA{α:Type}{ks:List (List Int)}{us:List α}(h:ks.length=us.length)(k:List Int)(v:α):(bF ks k).length=(cM ks us k v).length:=by
 unfold bF cM;split
 ·rw [List.length_zipWith];omega
 ·simp [h]
section
variable{W:Wd}{G:Hp}
theorem pU{k:List Int}{p:PV}:∀{ks:List (List Int)} {ps:List PV} {us:List V},ah W G ps us->bo ks ps k=some p->∃v,bo ks us k=some v/\Rep W G p v
 |[],_,_,_,e=>by unfold bo at e;cases e
 |a::ks,[],_,_,e=>by unfold bo at e;cases e
 |a::ks,q::ps,_,l,e=>by
  obtain⟨v,r,rfl,h1,h2⟩:=l.aR
  unfold bo at e⊢
  by_cases h:a=k
  ·rw [if_pos h] at e⊢;cases e;exact⟨v,rfl,h1⟩
  ·rw [if_neg h] at e⊢;exact pU h2 e
theorem zu{k:List Int}{p:PV}{v:V}(hp:Rep W G p v):∀{ks:List (List Int)} {ps:List PV} {us:List V},ah W G ps us->ah W G (List.zipWith (λk' v=>if k'=k then p else v) ks ps) (List.zipWith (λk' u=>if k'=k then v else u) ks us)
 |[],_,_,_=>by simp! [List.zipWith_nil_left];exact .nil
 |a::ks,[],_,l=>by simp! [ah] at l;subst l;simp! [List.zipWith_nil_right];exact .nil
 |a::ks,q::ps,_,l=>by
  obtain⟨u,r,rfl,h1,h2⟩:=l.aR
  rw [List.zipWith_cons_cons,List.zipWith_cons_cons];refine .cons ?_ (zu hp h2);split
  ·exact hp
  ·exact h1
def uE{ks:List (List Int)}{ps:List PV}{us:List V}{k:List Int}{p:PV}{v:V}(l:ah W G ps us)(hp:Rep W G p v):ah W G (cM ks ps k p) (cM ks us k v):=by
 unfold cM;split
 ·exact zu hp l
 ·exact l.append (.cons hp .nil)
end
theorem nU:∀{xs:List PV} {ns:List Int},intsOf xs=some ns->xs=ns.map .int
 |[],_,e=>by cases e;rfl
 |.int i::r,_,e=>by
  unfold intsOf at e;obtain⟨ns,h1,rfl⟩:=zzJ.mp e
  rw [nU h1];rfl
 |.aC::_,_,e=>by cases e
 |.bl _::_,_,e=>by cases e
 |.str _::_,_,e=>by cases e
 |.tup _::_,_,e=>by cases e
 |.lst _::_,_,e=>by cases e
 |.exc _::_,_,e=>by cases e
 |.bx _ _::_,_,e=>by cases e
def fe{p:PV}{k:List Int}(h:fh p=some k):p=af k:=by
 unfold fh at h;split at h
 ·rw [nU h];rfl
 ·cases h
end Ci
namespace L2
open PySem PySem.Spec PyProof.Rows
end L2
namespace Ci
open PySem L2
def gZ{n:Nat}(h:n<=cL):n<=sizeLine:=zzU h (by decide)
section
variable{X:Cx}{W:Wd}{H0 G H:Hp}
def dm(W:Wd)(G H:Hp)(r:PV)(Q:VK):Prop:=∀v G' H',aF W G H G' H'->Rep W G' r v->Q v H'
def dm.at{r:PV}{Q:VK}{v:V}(h:dm W G H r Q)(s:az G H)(k:Rep W G r v):Q v H:=h v G H (.refl s) k
def dm.tup{xs:List PV}{Q:VK}{vs:List V}{p:Addr}(h:dm W G H (.tup xs) Q)(s:az G H)(k:ah W G xs vs)(hp:H p=none):Q (.ref p) (upd H p (.tup vs)):=
 h _ _ _ (.new s hp) (.t (.inl ax) (ah.same (bf (s.free hp)) xs k))
def dm.lst{xs:List PV}{Q:VK}{vs:List V}{p:Addr}(h:dm W G H (.lst xs) Q)(s:az G H)(k:ah W G xs vs)(hp:H p=none):Q (.ref p) (upd H p (.lst vs)):=
 h _ _ _ (.new s hp) (.l (.inl (.inl ax)) (ah.same (bf (s.free hp)) xs k))
theorem j2{f:PV->PV->Bool}:∀{xs ys:List PV},xs.length≠ys.length->eqs f xs ys=false
 |[],[],h=>absurd rfl h
 |_::xs,_::ys,h=>by simp! [eqs];rw [j2 (xs:=xs) (ys:=ys) (λz=>h (by simp [z]))];simp
 |[],_::_,_=>rfl
 |_::_,[],_=>rfl
theorem j0{f:PV->PV->Bool}:∀{xs ys:List PV},xs.length=ys.length->eqs f xs ys=(List.range xs.length).all λj=>f (xs.getD j .aC) (ys.getD j .aC)
 |[],[],_=>rfl
 |x::xs,y::ys,h=>by
  simp! [eqs];rw [j0 (xs:=xs) (ys:=ys) (by simpa using h),zzL,List.range_succ_eq_map,List.all_cons,List.all_map]
  rfl
 |[],_::_,h=>by simp at h
 |_::_,[],h=>by simp at h
def nu{f:PV->PV->Bool}:∀{xs ys:List PV},((List.range (min xs.length ys.length)).all (λj=>f (xs.getD j .aC) (ys.getD j .aC))&&xs.length==ys.length)=eqs f xs ys:=λ{xs ys}=>by
 by_cases h:xs.length=ys.length
 ·rw [j0 h,h,Nat.min_self,beq_self_eq_true,Bool.and_true]
 ·rw [j2 h,beq_eq_false_iff_ne.mpr h,Bool.and_false]
theorem qF{f:PV->PV->Bool}:∀{xs ys:List PV},xs.length=ys.length->(∀(j:Nat) x y,xs[j]?=some x->ys[j]?=some y->f x y=true)->eqs f xs ys=true
 |[],[],_,_=>rfl
 |x::xs,y::ys,h,k=>by
  simp! [eqs];rw [k 0 x y rfl rfl,qF (xs:=xs) (ys:=ys) (by simpa using h) λj a b ha hb=>k (j+1) a b (by simpa using ha) (by simpa using hb)]
  rfl
 |[],_::_,h,_=>by simp at h
 |_::_,[],h,_=>by simp at h
def hZ(hK:W.K=X.K){a:Addr}{vs:List V}(h:nC W.K H a vs):dz X.K H a vs:=by
 rw [hK] at h;rcases h with h|⟨ak,n,h1,h2,h3⟩
 ·exact .inl h
 ·exact .inr ⟨_,ak,n,h1,rfl,rfl,rfl,h2,h3⟩
def qv{aa:List (Addr×Obj)}{σ:St}{s:Shared}(I:Inv X aa σ H s){a:Addr}{vs us:List V}(h1:eE X.K H a vs)(h2:dz X.K H a us):False:=by
 obtain⟨ak,_,⟨o,e,hc,_⟩,_⟩:=I.tuple h1
 obtain⟨dR,_,⟨o2,n,e2,hc2,_⟩,_⟩:=I.list h2
 rw [e] at e2;cases e2;rw [hc] at hc2;exact absurd hc2 (by decide)
theorem iP{α:Type}:∀{xs ys:List α},xs.length=ys.length->(∀(j:Nat) x y,xs[j]?=some x->ys[j]?=some y->x=y)->xs=ys
 |[],[],_,_=>rfl
 |x::xs,y::ys,h,k=>by rw [k 0 x y rfl rfl,iP (xs:=xs) (ys:=ys) (by simpa using h) λj a b ha hb=>k (j+1) a b (by simpa using ha) (by simpa using hb)]
 |[],_::_,h,_=>by simp at h
 |_::_,[],h,_=>by simp at h
def S2(X:Cx)(W:Wd)(G H:Hp):PV->V->Prop
 |.aC,v=>v=.aC
 |.bl b,v=>v=.bl b
 |.int i,v=>v=.int i
 |.str z,v=>v=.str z
 |.tup xs,v=>∃a,v=.ref a/\∃vs,eE X.K H a vs/\ah W G xs vs
 |.lst xs,v=>∃a,v=.ref a/\∃vs,dz X.K H a vs/\ah W G xs vs
 |_,_=>False
def Mu(hK:W.K=X.K)(sg:az G H){n:Nat}{p:PV}{v:V}(hp:plain n p=true)(h:Top W H0 G H p v):S2 X W G H p v:=by
 cases p with
 |aC=>exact h.aC
 |bl b=>exact h.bl
 |int i=>exact h.int
 |str z=>exact h.str
 |tup xs=>
  obtain⟨a,vs,e,sq,l⟩:=h.tup sg
  rw [hK] at sq;exact⟨a,e,vs,sq,l⟩
 |lst xs=>
  obtain⟨a,vs,e,sq,l⟩:=h.lst sg
  exact⟨a,e,vs,hZ hK sq,l⟩
 |exc c=>cases n<;>exact bG hp
 |bx a b=>cases n<;>exact bG hp
def u4{aa:List (Addr×Obj)}{σ:St}{s:Shared}(I:Inv X aa σ H s)(hK:W.K=X.K)(sg:az G H):∀(n:Nat) {p q:PV} {v:V},plain n p=true->plain n q=true->Top W H0 G H p v->Top W H0 G H q v->p=q:=by
 intro n
 induction n with
 |zero=>
  intro p q v hp hq h1 h2;have a:=Mu hK sg hp h1
  have b:=Mu hK sg hq h2
  cases p<;>cases q<;>first|exact bG hp|exact bG hq|(cases a;cases b;rfl)|(cases a;cases b)
 |succ n ih=>
  intro p q v hp hq h1 h2;have a:=Mu hK sg hp h1
  have b:=Mu hK sg hq h2
  have el:∀{xs ys:List PV} {vs:List V},xs.all (plain n)=true->ys.all (plain n)=true->ah W G xs vs->ah W G ys vs->xs=ys:=λ{xs ys vs} a1 a2 l1 l2=>
   iP (by rw [<-l1.length,l2.length]) λj x y ex ey=>by
    obtain⟨u,eu,ku⟩:=l1.oj ex
    obtain⟨y',ey',ky⟩:=l2.get eu
    rw [ey] at ey';cases ey';exact ih (zzT.mp a1 _ (zzD ex)) (zzT.mp a2 _ (zzD ey)) (.inl ku) (.inl ky)
  cases p<;>cases q<;>first|exact bG hp|exact bG hq|(cases a;cases b;done)|(cases a;cases b;rfl)|(obtain⟨_,e1,_⟩:=a;cases b;cases e1;done)|(obtain⟨_,e2,_⟩:=b;cases a;cases e2;done)|(obtain⟨x,rfl,vs,s1,l1⟩:=a;obtain⟨y,e2,us,s2,l2⟩:=b;cases e2;first|exact(qv I s1 s2).elim|exact(qv I s2 s1).elim|(cases I.m9 s1 s2;rw [el hp hq l1 l2])|(cases I.rM s1 s2;rw [el hp hq l1 l2]))
def yB:∀{n:Nat} {p:PV},plain n p=true->ib n p p=true:=by
 intro n
 induction n with
 |zero=>intro p h;cases p<;>first|exact bG h|rfl|exact beq_self_eq_true _
 |succ n ih=>
  intro p h;cases p<;>first|exact bG h|rfl|exact beq_self_eq_true _|exact qF rfl λj x y e1 e2=>by rw [e1] at e2;cases e2;exact ih (zzT.mp h _ (zzD e1))
def u9{aa:List (Addr×Obj)}{σ:St}{s:Shared}(I:Inv X aa σ H s)(hK:W.K=X.K)(sg:az G H):∀(n:Nat) {p q:PV} {v:V},plain n p=true->plain n q=true->Top W H0 G H p v->Top W H0 G H q v->ib n p q=true:=λn {p q v} hp hq h1 h2=>by
 cases u4 I hK sg n hp hq h1 h2;exact yB hp
def ju{x:V}{a:Addr}(r:RelV x (.ref a)):x=.ref a:=by
 cases x<;>first|(cases r;rfl)|(obtain⟨_,h⟩:=r;cases h)|cases r
def Uj(W:Wd)(G:Hp)(h:Heap):PV->Value->Prop
 |.aC,v=>∃_t:Nat,v=.none/\True
 |.bl b,v=>∃_t:Nat,v=.bool b/\True
 |.int i,v=>∃t,v=.int i t/\True
 |.str z,v=>∃t,v=.str z t/\True
 |.tup xs,v=>∃a,v=.ref a/\∃ak vs,ah W G xs vs/\Vals vs ak/\h.IsTuple a ak.toArray
 |.lst xs,v=>∃a,v=.ref a/\∃ak vs,ah W G xs vs/\Vals vs ak/\h.IsList a ak.toArray
 |_,_=>False
def Ej{aa:List (Addr×Obj)}{σ:St}{s:Shared}(I:Inv X aa σ H s)(hK:W.K=X.K)(sg:az G H){n:Nat}{p:PV}{v:V}{v':Value}(hp:plain n p=true)(h:Top W H0 G H p v)(r:RelV v v'):Uj W G s.heap p v':=by
 cases p with
 |aC=>cases h.aC;cases r;exact⟨0,rfl,trivial⟩
 |bl b=>cases h.bl;cases r;exact⟨0,rfl,trivial⟩
 |int i=>cases h.int;obtain⟨t,rfl⟩:=r;exact⟨t,rfl,trivial⟩
 |str z=>cases h.str;obtain⟨t,rfl⟩:=r;exact⟨t,rfl,trivial⟩
 |tup xs=>
  obtain⟨a,vs,rfl,sq,l⟩:=h.tup sg
  rw [hK] at sq;cases r;obtain⟨ak,q,z,_⟩:=I.tuple sq
  exact⟨a,rfl,ak,vs,l,q,z⟩
 |lst xs=>
  obtain⟨a,vs,rfl,sq,l⟩:=h.lst sg
  cases r;obtain⟨ak,q,z,_⟩:=I.list (hZ hK sq)
  exact⟨a,rfl,ak,vs,l,q,z.isList⟩
 |exc c=>cases n<;>exact bG hp
 |bx a b=>cases n<;>exact bG hp
def qh(W:Wd)(G:Hp)(s:Shared)(n:Nat)(A:Around)(xs ys:List PV):Prop:=∀{vs us:List V} {ak dR:List Value},ah W G xs vs->ah W G ys us->Vals vs ak->Vals us dR->∀j (h1:j<ak.toArray.size) (h2:j<dR.toArray.size),SeqAt.EqAt A s ak.toArray[j] dR.toArray[j] (ib n (xs.getD j .aC) (ys.getD j .aC))
theorem ya{s:Shared}{n:Nat}{A:Around}{xs ys:List PV}(h:∀{p q:PV} {v u:V} {v' u':Value},plain n p=true->plain n q=true->Rep W G p v->Rep W G q u->RelV v v'->RelV u u'->SeqAt.EqAt A s v' u' (ib n p q))(a1:xs.all (plain n)=true)(a2:ys.all (plain n)=true):qh W G s n A xs ys:=λ{vs us ak dR} l1 l2 q1 q2 j g1 g2=>by
 obtain⟨x,hx,rx⟩:=x6 q1 g1
 obtain⟨y,hy,ry⟩:=x6 q2 g2
 obtain⟨px,ex,kx⟩:=l1.get hx
 obtain⟨py,ey,ky⟩:=l2.get hy
 rw [zzK,zzK,ex,ey];exact h (zzT.mp a1 _ (zzD ex)) (zzT.mp a2 _ (zzD ey)) kx ky rx ry
def vh{s:Shared}{n:Nat}{A:Around}{a b:Addr}{xs ys:List PV}(hu:A.units<cLine)(el:qh W G s n A.in1 xs ys)(k1:∃ak vs,ah W G xs vs/\Vals vs ak/\s.heap.IsTuple a ak.toArray)(k2:∃ak vs,ah W G ys vs/\Vals vs ak/\s.heap.IsTuple b ak.toArray):SeqAt.RcAt A s (.ref a) (.ref b) (eqs (ib n) xs ys):=by
 obtain⟨ak,vs,l,q1,z1⟩:=k1
 obtain⟨dR,us,l2,q2,z2⟩:=k2
 have m1:ak.length=xs.length:=by rw [<-q1.length,l.length]
 have m2:dR.length=ys.length:=by rw [<-q2.length,l2.length]
 have:=SeqAt.RcAt.tuples (e:=λj=>ib n (xs.getD j .aC) (ys.getD j .aC)) z1 z2 hu (el l l2 q1 q2)
 rw [zzC,zzC,m1,m2,nu] at this;exact this
def uD{s:Shared}{n:Nat}{A:Around}{a b:Addr}{xs ys:List PV}(hu:A.units<cLine)(el:qh W G s n A.in1 xs ys)(k1:∃ak vs,ah W G xs vs/\Vals vs ak/\s.heap.IsList a ak.toArray)(k2:∃ak vs,ah W G ys vs/\Vals vs ak/\s.heap.IsList b ak.toArray):SeqAt.RcAt A s (.ref a) (.ref b) (eqs (ib n) xs ys):=by
 obtain⟨ak,vs,l,q1,z1⟩:=k1
 obtain⟨dR,us,l2,q2,z2⟩:=k2
 have m1:ak.length=xs.length:=by rw [<-q1.length,l.length]
 have m2:dR.length=ys.length:=by rw [<-q2.length,l2.length]
 by_cases hl:xs.length=ys.length
 ·have:=SeqAt.RcAt.lists (e:=λj=>ib n (xs.getD j .aC) (ys.getD j .aC)) z1 z2 (by rw [zzC,zzC];omega) hu (el l l2 q1 q2)
  rw [zzC,m1,<-j0 hl] at this;exact this
 ·have:=SeqAt.RcAt.lists_lengths z1 z2 (by rw [zzC,zzC,m1,m2];simp [hl]) hu
  rw [j2 hl];exact this
open SeqAt.EqAt in
def yl{aa:List (Addr×Obj)}{σ:St}{s:Shared}(I:Inv X aa σ H s)(hK:W.K=X.K)(sg:az G H):∀(n:Nat) {A:Around} {p q:PV} {v u:V} {v' u':Value},A.units+(n+1)<cLine->plain n p=true->plain n q=true->Top W H0 G H p v->Top W H0 G H q u->RelV v v'->RelV u u'->
 SeqAt.EqAt A s v' u' (ib n p q):=by
 intro n
 induction n with
 |zero=>
  intro A p q v u v' u' hu hp hq h1 h2 r1 r2;have a:=Ej I hK sg hp h1 r1
  have b:=Ej I hK sg hq h2 r2
  cases p<;>cases q<;>first|exact bG hp|exact bG hq|(obtain⟨t1,rfl,_⟩:=a;obtain⟨t2,rfl,_⟩:=b)
  exact same _
  exact none_bool _
  exact none_int _ _
  exact none_str _ _
  exact bool_none _
  exact bool_bool _ _
  exact bool_int _ _ _
  exact bool_str _ _ _
  exact int_none _ _
  exact int_bool _ _ _
  exact int_int _ _ _ _
  exact int_str _ _ _ _
  exact str_none _ _
  exact str_bool _ _ _
  exact str_int _ _ _ _
  exact str_str _ _ _ _
 |succ n ih=>
  intro A p q v u v' u' hu hp hq h1 h2 r1 r2;have cW:A.units<cLine:=by omega
  have a:=Ej I hK sg hp h1 r1
  have b:=Ej I hK sg hq h2 r2
  have el:∀{xs ys:List PV},xs.all (plain n)=true->ys.all (plain n)=true->qh W G s n A.in1 xs ys:=λa1 a2=>ya (λhp hq h1 h2 r1 r2=>ih (by show A.units+1+(n+1)<_;omega) hp hq (.inl h1) (.inl h2) r1 r2) a1 a2
  cases p<;>cases q<;>first|exact bG hp|exact bG hq|(obtain⟨t1,rfl,k1⟩:=a;obtain⟨t2,rfl,k2⟩:=b;try obtain⟨_,_,_,_,z1⟩:=id k1;try obtain⟨_,_,_,_,z2⟩:=id k2)
  exact same _
  exact none_bool _
  exact none_int _ _
  exact none_str _ _
  exact none_tuple z2 cW
  exact none_list z2 cW
  exact bool_none _
  exact bool_bool _ _
  exact bool_int _ _ _
  exact bool_str _ _ _
  exact bool_tuple _ z2 cW
  exact bool_list _ z2 cW
  exact int_none _ _
  exact int_bool _ _ _
  exact int_int _ _ _ _
  exact int_str _ _ _ _
  exact int_tuple _ _ z2 cW
  exact int_list _ _ z2 cW
  exact str_none _ _
  exact str_bool _ _ _
  exact str_int _ _ _ _
  exact str_str _ _ _ _
  exact str_tuple _ _ z2 cW
  exact str_list _ _ z2 cW
  exact tuple_none z1 cW
  exact tuple_bool _ z1 cW
  exact tuple_int _ _ z1 cW
  exact tuple_str _ _ z1 cW
  by_cases eB:t1=t2
  ·subst eB;cases ju r1;cases ju r2;rw [u9 I hK sg (n+1) hp hq h1 h2];exact same _
  ·exact of_refs eB (vh cW (el hp hq) k1 k2)
  exact tuple_list z1 z2 cW
  exact list_none z1 cW
  exact list_bool _ z1 cW
  exact list_int _ _ z1 cW
  exact list_str _ _ z1 cW
  exact list_tuple z1 z2 cW
  by_cases eB:t1=t2
  ·subst eB;cases ju r1;cases ju r2;rw [u9 I hK sg (n+1) hp hq h1 h2];exact same _
  ·exact of_refs eB (uD cW (el hp hq) k1 k2)
end
section
variable{X:Cx}{W:Wd}{H0 G H:Hp}
open SeqAt.RcAt in
def KH{aa:List (Addr×Obj)}{σ:St}{s:Shared}(I:Inv X aa σ H s)(hK:W.K=X.K)(sg:az G H)(n:Nat){A:Around}{p q:PV}{v u:V}{v' u':Value}(hu:A.units+(n+2)<cLine)(hp:plain (n+1) p=true)(hq:plain (n+1) q=true)(h1:Top W H0 G H p v)(h2:Top W H0 G H q u)(r1:RelV v v')(r2:RelV u u'):
 SeqAt.RcAt A s v' u' (ib (n+1) p q):=by
 have cW:A.units<cLine:=by omega
 have a:=Ej I hK sg hp h1 r1
 have b:=Ej I hK sg hq h2 r2
 have el:∀{xs ys:List PV},xs.all (plain n)=true->ys.all (plain n)=true->qh W G s n A.in1 xs ys:=λa1 a2=>ya (λhp hq h1 h2 r1 r2=>yl (H0:=H0) I hK sg n (by show A.units+1+(n+1)<_;omega) hp hq (.inl h1) (.inl h2) r1 r2) a1 a2
 cases p<;>cases q<;>first|exact bG hp|exact bG hq|(obtain⟨t1,rfl,k1⟩:=a;obtain⟨t2,rfl,k2⟩:=b;try obtain⟨_,_,_,_,z1⟩:=id k1;try obtain⟨_,_,_,_,z2⟩:=id k2)
 exact none_none
 exact none_bool _
 exact none_int _ _
 exact none_str _ _
 exact none_tuple z2 cW
 exact none_list z2 cW
 exact bool_none _
 exact bool_bool _ _
 exact bool_int _ _ _
 exact bool_str _ _ _
 exact bool_tuple _ z2 cW
 exact bool_list _ z2 cW
 exact int_none _ _
 exact int_bool _ _ _
 exact int_int _ _ _ _
 exact int_str _ _ _ _
 exact int_tuple _ _ z2 cW
 exact int_list _ _ z2 cW
 exact str_none _ _
 exact str_bool _ _ _
 exact str_int _ _ _ _
 exact str_str _ _ _ _
 exact str_tuple _ _ z2 cW
 exact str_list _ _ z2 cW
 exact tuple_none z1 cW
 exact tuple_bool _ z1 cW
 exact tuple_int _ _ z1 cW
 exact tuple_str _ _ z1 cW
 exact vh cW (el hp hq) k1 k2
 exact tuple_list z1 z2 cW
 exact list_none z1 cW
 exact list_bool _ z1 cW
 exact list_int _ _ z1 cW
 exact list_str _ _ z1 cW
 exact list_tuple z1 z2 cW
 exact uD cW (el hp hq) k1 k2
def vT{s:Shared}{n:Nat}{A:Around}{a b:Addr}{xs ys:List PV}(hu:A.units<cLine)(el:qh W G s n A.in1 xs ys)(k1:∃ak vs,ah W G xs vs/\Vals vs ak/\s.heap.IsTuple a ak.toArray)(k2:∃ak vs,ah W G ys vs/\Vals vs ak/\s.heap.IsTuple b ak.toArray):SeqAt.RcNeAt A s (.ref a) (.ref b) (!eqs (ib n) xs ys):=by
 obtain⟨ak,vs,l,q1,z1⟩:=k1
 obtain⟨dR,us,l2,q2,z2⟩:=k2
 have m1:ak.length=xs.length:=by rw [<-q1.length,l.length]
 have m2:dR.length=ys.length:=by rw [<-q2.length,l2.length]
 have:=SeqAt.RcNeAt.tuples (e:=λj=>ib n (xs.getD j .aC) (ys.getD j .aC)) z1 z2 hu (el l l2 q1 q2)
 rw [zzC,zzC,m1,m2,nu] at this;exact this
def vq{s:Shared}{n:Nat}{A:Around}{a b:Addr}{xs ys:List PV}(hu:A.units<cLine)(el:qh W G s n A.in1 xs ys)(k1:∃ak vs,ah W G xs vs/\Vals vs ak/\s.heap.IsList a ak.toArray)(k2:∃ak vs,ah W G ys vs/\Vals vs ak/\s.heap.IsList b ak.toArray):SeqAt.RcNeAt A s (.ref a) (.ref b) (!eqs (ib n) xs ys):=by
 obtain⟨ak,vs,l,q1,z1⟩:=k1
 obtain⟨dR,us,l2,q2,z2⟩:=k2
 have m1:ak.length=xs.length:=by rw [<-q1.length,l.length]
 have m2:dR.length=ys.length:=by rw [<-q2.length,l2.length]
 by_cases hl:xs.length=ys.length
 ·have:=SeqAt.RcNeAt.lists (e:=λj=>ib n (xs.getD j .aC) (ys.getD j .aC)) z1 z2 (by rw [zzC,zzC];omega) hu (el l l2 q1 q2)
  rw [zzC,m1,<-j0 hl] at this;exact this
 ·have:=SeqAt.RcNeAt.lists_lengths z1 z2 (by rw [zzC,zzC,m1,m2];simp [hl]) hu
  rw [j2 hl];exact this
open SeqAt.RcNeAt in
def BV{aa:List (Addr×Obj)}{σ:St}{s:Shared}(I:Inv X aa σ H s)(hK:W.K=X.K)(sg:az G H)(n:Nat){A:Around}{p q:PV}{v u:V}{v' u':Value}(hu:A.units+(n+2)<cLine)(hp:plain (n+1) p=true)(hq:plain (n+1) q=true)(h1:Top W H0 G H p v)(h2:Top W H0 G H q u)(r1:RelV v v')(r2:RelV u u'):
 SeqAt.RcNeAt A s v' u' (!ib (n+1) p q):=by
 have cW:A.units<cLine:=by omega
 have a:=Ej I hK sg hp h1 r1
 have b:=Ej I hK sg hq h2 r2
 have el:∀{xs ys:List PV},xs.all (plain n)=true->ys.all (plain n)=true->qh W G s n A.in1 xs ys:=λa1 a2=>ya (λhp hq h1 h2 r1 r2=>yl (H0:=H0) I hK sg n (by show A.units+1+(n+1)<_;omega) hp hq (.inl h1) (.inl h2) r1 r2) a1 a2
 cases p<;>cases q<;>first|exact bG hp|exact bG hq|(obtain⟨t1,rfl,k1⟩:=a;obtain⟨t2,rfl,k2⟩:=b;try obtain⟨_,_,_,_,z1⟩:=id k1;try obtain⟨_,_,_,_,z2⟩:=id k2)
 exact none_none
 exact none_bool _
 exact none_int _ _
 exact none_str _ _
 exact none_tuple z2 cW
 exact none_list z2 cW
 exact bool_none _
 exact bool_bool _ _
 exact bool_int _ _ _
 exact bool_str _ _ _
 exact bool_tuple _ z2 cW
 exact bool_list _ z2 cW
 exact int_none _ _
 exact int_bool _ _ _
 exact int_int _ _ _ _
 exact int_str _ _ _ _
 exact int_tuple _ _ z2 cW
 exact int_list _ _ z2 cW
 exact str_none _ _
 exact str_bool _ _ _
 exact str_int _ _ _ _
 exact str_str _ _ _ _
 exact str_tuple _ _ z2 cW
 exact str_list _ _ z2 cW
 exact tuple_none z1 cW
 exact tuple_bool _ z1 cW
 exact tuple_int _ _ z1 cW
 exact tuple_str _ _ z1 cW
 exact vT cW (el hp hq) k1 k2
 exact tuple_list z1 z2 cW
 exact list_none z1 cW
 exact list_bool _ z1 cW
 exact list_int _ _ z1 cW
 exact list_str _ _ z1 cW
 exact list_tuple z1 z2 cW
 exact vq cW (el hp hq) k1 k2
end
section
variable{X:Cx}{W:Wd}
def Cg(hK:W.K=X.K){aa:List (Addr×Obj)}{σ:St}{H:Hp}{s:Shared}{a:Addr}{xs:List V}(I:Inv X aa σ H s)(h:nC W.K H a xs):∃(ak:List Value) (n:Nat),Vals xs ak/\xs.length=ak.length/\xs.length<=sizeLine/\s.heap.get? a=some {cls:=.type "list",data:=.seq ak.toArray n}:=by
 rw [hK] at h;rcases h with h|⟨ak,n,h1,h2,h3⟩
 ·obtain⟨z,ak,n,r,e⟩:=h.ok I.bu
  exact⟨ak,n,r,r.length,z,e⟩
 ·refine⟨ak.toList,n,h3,h3.length,?_,by simpa using I.sX a _ h1⟩;rw [h3.length,zzd];exact h2
def BP(hK:W.K=X.K):fw X (binaryOp .Add) (λx y H Q=>∃l b xs zs,x=.ref l/\y=.ref b/\nC W.K H l xs/\nC W.K H b zs/\xs.length+zs.length<=sizeLine/\∀p,H p=none->Q (.ref p) (upd H p (.lst (xs++zs)))):=by
 intro aa s σ H x y v u Q I rx ry h;obtain⟨l,b,xs,zs,rfl,rfl,hH,hB,hz,q⟩:=h
 cases rx;cases ry;obtain⟨ak,n,r,hl,_,e⟩:=Cg hK I hH
 obtain⟨dR,n2,r2,hl2,_,e2⟩:=Cg hK I hB
 refine PySem.P.add_list e e2 ?_ (by rw [zzC,zzC];omega);have ea:ak.toArray++dR.toArray=(ak++dR).toArray:=by simp
 rw [ea];exact⟨.ref _,_,I.NV (t':=s.toks) (r.append r2) (by rw [zzM];omega),rfl,q _ I.fresh⟩
def O3:Jn->Operator
 |.add=>.Add|.sub=>.Sub|.mul=>.Mult|.mod=>.Mod|.fdiv=>.FloorDiv
noncomputable def rN(W:Wd)(f:PV->PV->Res PV):R2:=λx y H Q=>∃H0 G p q r,az G H/\Top W H0 G H p x/\Top W H0 G H q y/\f p q=.ok r/\dm W G H r Q
def F1(hK:W.K=X.K)(o:Jn):fw X (binaryOp (O3 o)) (rN W (binOp o)):=by
 intro aa s σ H x y v u Q I rx ry h;obtain⟨H0,G,p,q,r,sg,t1,t2,e,wq⟩:=h
 unfold binOp at e;split at e
 ·cases e;exact Gh aa s σ H x y v u Q I rx ry ⟨_,_,t1.int,t2.int,wq.at sg .i⟩
 ·split at e
  ·rename_i hl;cases e;exact sO aa s σ H x y v u Q I rx ry ⟨_,_,t1.str,t2.str,gZ hl,wq.at sg .s⟩
  ·cases e
 ·split at e
  ·rename_i hl;cases e;obtain⟨a,vs,rfl,h1,l1⟩:=t1.lst sg
   obtain⟨b,us,rfl,h2,l2⟩:=t2.lst sg
   exact BP hK aa s σ H _ _ v u Q I rx ry ⟨a,b,vs,us,rfl,rfl,h1,h2,by rw [l1.length,l2.length];exact gZ hl,λp hp=>wq.lst sg (l1.append l2) hp⟩
  ·cases e
 ·cases e;exact Hn aa s σ H x y v u Q I rx ry ⟨_,_,t1.int,t2.int,wq.at sg .i⟩
 ·split at e
  ·rename_i hc;cases e;refine HA aa s σ H x y v u Q I rx ry ⟨_,_,t1.int,t2.int,?_,wq.at sg .i⟩;rw [zzt] at hc;unfold aO at hc;simp! [zza,zzN] at hc;exact hc
  ·cases e
 ·split at e
  ·rename_i hc;cases e;exact Fn aa s σ H x y v u Q I rx ry ⟨_,_,t1.int,t2.int,hc,wq.at sg .i⟩
  ·cases e
 ·split at e
  ·rename_i hc;cases e;exact A8 aa s σ H x y v u Q I rx ry ⟨_,_,t1.int,t2.int,hc,wq.at sg .i⟩
  ·cases e
 ·cases e
def Co:Mm X (unaryOp .USub) (λx H Q=>∃(H0 G:Hp) (i:Int),az G H/\Top W H0 G H (.int i) x/\dm W G H (.int (-i)) Q):=by
 intro aa s σ H x v Q I rx h;obtain⟨H0,G,i,sg,t,wq⟩:=h
 exact Ih aa s σ H x v Q I rx ⟨i,t.int,wq.at sg .i⟩
def qd:yt->CmpOp
 |.eq=>.Eq|.ne=>.NotEq|.lt=>.Lt|.le=>.LtE|.gt=>.Gt|.ge=>.GtE|.is=>.Is|.oY=>.IsNot|.JA=>.In|.rP=>.NotIn
def nD{aa:List (Addr×Obj)}{σ:St}{H G:Hp}{s:Shared}{Q:VK}{k:Bool}(I:Inv X aa σ H s)(sg:az G H)(wq:dm W G H (.bl k) Q):EP X aa σ Q (.bool k) s:=⟨.bl k,H,I,rfl,wq.at sg .b⟩
def Ic(hK:W.K=X.K)(hu:X.A.units+64<cLine):fw X (compareOp .Eq) (rN W d6):=by
 intro aa s σ H x y v u Q I rx ry h;obtain⟨H0,G,p,q,r,sg,t1,t2,e,wq⟩:=h
 unfold d6 at e;split at e
 ·rename_i hc;rw [zza] at hc;cases e;exact KH I hK sg 8 (by omega) hc.1 hc.2 t1 t2 rx ry _ _ _ _ (nD I sg wq)
 ·cases e
def IZ(hK:W.K=X.K)(hu:X.A.units+64<cLine):fw X (compareOp .NotEq) (rN W fb):=by
 intro aa s σ H x y v u Q I rx ry h;obtain⟨H0,G,p,q,r,sg,t1,t2,e,wq⟩:=h
 unfold fb at e;split at e
 ·rename_i hc;rw [zza] at hc;cases e;exact BV I hK sg 8 (by omega) hc.1 hc.2 t1 t2 rx ry _ _ _ _ (nD I sg wq)
 ·cases e
theorem j5{G:Hp}:∀{xs:List PV} {vs:List V} {ns:List Int},ah W G xs vs->intsOf xs=some ns->vs=ns.map V.int
 |[],vs,ns,h,e=>by simp! [ah] at h;subst h;cases e;rfl
 |.int i::r,vs,ns,h,e=>by
  obtain⟨v,t,rfl,h1,h2⟩:=h.aR
  simp! [Rep] at h1;subst h1;unfold intsOf at e;obtain⟨m,hm,rfl⟩:=zzJ.mp e
  rw [j5 h2 hm]
  rfl
 |.aC::_,_,_,_,e=>by cases e
 |.bl _::_,_,_,_,e=>by cases e
 |.str _::_,_,_,_,e=>by cases e
 |.tup _::_,_,_,_,e=>by cases e
 |.lst _::_,_,_,_,e=>by cases e
 |.exc _::_,_,_,_,e=>by cases e
 |.bx _ _::_,_,_,_,e=>by cases e
theorem fP{G:Hp}:∀{xs:List PV} {vs:List V} {ns:List Bool},ah W G xs vs->boolsOf xs=some ns->vs=ns.map V.bl
 |[],vs,ns,h,e=>by simp! [ah] at h;subst h;cases e;rfl
 |.bl i::r,vs,ns,h,e=>by
  obtain⟨v,t,rfl,h1,h2⟩:=h.aR
  simp! [Rep] at h1;subst h1;unfold boolsOf at e;obtain⟨m,hm,rfl⟩:=zzJ.mp e
  rw [fP h2 hm]
  rfl
 |.aC::_,_,_,_,e=>by cases e
 |.int _::_,_,_,_,e=>by cases e
 |.str _::_,_,_,_,e=>by cases e
 |.tup _::_,_,_,_,e=>by cases e
 |.lst _::_,_,_,_,e=>by cases e
 |.exc _::_,_,_,_,e=>by cases e
 |.bx _ _::_,_,_,_,e=>by cases e
def Res.of_ok{α:Type}{o:Option α}{a:α}(h:Res.of o=.ok a):o=some a:=by
 cases o with
 |none=>cases h
 |some b=>cases h;rfl
def HR(hK:W.K=X.K)(hu:X.A.units+64<cLine):fw X (compareOp .Lt) (rN W rE):=by
 intro aa s σ H x y v u Q I rx ry h;obtain⟨H0,G,p,q,r,sg,t1,t2,e,wq⟩:=h
 unfold rE at e;split at e
 ·cases e;exact LC aa s σ H x y v u Q I rx ry ⟨_,_,t1.int,t2.int,wq.at sg .b⟩
 ·cases e
def Fh:fw X (compareOp .LtE) (rN W ql):=by
 intro aa s σ H x y v u Q I rx ry h;obtain⟨H0,G,p,q,r,sg,t1,t2,e,wq⟩:=h
 unfold ql at e;split at e
 ·cases e;exact J4 aa s σ H x y v u Q I rx ry ⟨_,_,t1.int,t2.int,wq.at sg .b⟩
 ·cases e
def Fw:fw X (compareOp .Gt) (rN W rV):=by
 intro aa s σ H x y v u Q I rx ry h;obtain⟨H0,G,p,q,r,sg,t1,t2,e,wq⟩:=h
 unfold rV at e;split at e
 ·cases e;exact KP aa s σ H x y v u Q I rx ry ⟨_,_,t1.int,t2.int,wq.at sg .b⟩
 ·cases e
def IK:fw X (compareOp .GtE) (rN W rh):=by
 intro aa s σ H x y v u Q I rx ry h;obtain⟨H0,G,p,q,r,sg,t1,t2,e,wq⟩:=h
 unfold rh at e;split at e
 ·cases e;exact LY aa s σ H x y v u Q I rx ry ⟨_,_,t1.int,t2.int,wq.at sg .b⟩
 ·cases e
def nc{H0 G H:Hp}{p:PV}{x:V}(sg:az G H)(t:Top W H0 G H p x):decide (x=.aC)=zG p:=by
 cases p with
 |aC=>cases t.aC;rfl
 |bl b=>cases t.bl;rfl
 |int b=>cases t.int;rfl
 |str b=>cases t.str;rfl
 |tup b=>obtain⟨a,vs,rfl,_⟩:=t.tup sg;rfl
 |lst b=>obtain⟨a,vs,rfl,_⟩:=t.lst sg;rfl
 |bx b c=>obtain⟨a,vs,rfl,_⟩:=t.bx sg;rfl
 |exc c=>
  rcases t with t|t
  ·simp! [Rep] at t;obtain⟨a,C,rfl,_⟩:=t
   rfl
  ·exact t.elim
def FI:fw X (compareOp .Is) (rN W mz):=by
 intro aa s σ H x y v u Q I rx ry h;obtain⟨H0,G,p,q,r,sg,t1,t2,e,wq⟩:=h
 unfold mz at e;split at e
 ·cases e;refine Iw aa s σ H x y v u Q I rx ry ⟨t2.aC,?_⟩;rw [nc sg t1];exact wq.at sg .b
 ·cases e;exact Aj aa s σ H x y v u Q I rx ry ⟨_,_,t1.bl,t2.bl,wq.at sg .b⟩
 ·cases e
def Bb:fw X (compareOp .IsNot) (rN W di):=by
 intro aa s σ H x y v u Q I rx ry h;obtain⟨H0,G,p,q,r,sg,t1,t2,e,wq⟩:=h
 unfold di at e;split at e
 ·cases e;refine Dv aa s σ H x y v u Q I rx ry ⟨t2.aC,?_⟩;rw [nc sg t1];exact wq.at sg .b
 ·cases e;exact qy aa s σ H x y v u Q I rx ry ⟨_,_,t1.bl,t2.bl,wq.at sg .b⟩
 ·cases e
variable{H0 G H:Hp}
def vb{aa:List (Addr×Obj)}{σ:St}{s:Shared}(I:Inv X aa σ H s)(hK:W.K=X.K)(sg:az G H){A:Around}{a:PV}{x:V}{x':Value}{ys:List PV}{us:List V}{ak:List Value}(hu:A.units+32<cLine)(ha:xg a=true)(hy:ys.all xg=true)(ta:Top W H0 G H a x)(rx:RelV x x')(l:ah W G ys us)(r:Vals us ak):
 ∃e:Value->Bool,(∀y∈ak,SeqAt.EqAt A s y x' (e y))/\∀(j:Nat) (y:Value) (p:PV),ak[j]?=some y->ys[j]?=some p->e y=eqv p a:=by
 classical
 have key:∀(j:Nat) (y:Value),ak[j]?=some y->∃p u,ys[j]?=some p/\us[j]?=some u/\Rep W G p u/\RelV u y/\xg p=true:=λj y e=>by
  have hj:=(zzH.mp e).1
  have hl:=r.length
  obtain⟨u,ES,HY⟩:=r.get (i:=j) (x:=us[j]'(by omega)) (zzg (by omega))
  rw [e] at ES;cases ES;obtain⟨p,hp,kp⟩:=l.get (zzg (show j<us.length by omega))
  exact⟨p,_,hp,zzg (by omega),kp,HY,zzT.mp hy p (zzD hp)⟩
 refine⟨λy=>if h:∃(j:Nat) (p:PV),ak[j]?=some y/\ys[j]?=some p then eqv h.choose_spec.choose a else false,λy D0=>?_,λj y p e1 e2=>?_⟩
 ·obtain⟨j,hj,e⟩:=List.getElem_of_mem D0
  have ej:ak[j]?=some y:=by rw [zzg hj,e]
  obtain⟨p,u,h1,h2,h3,h4,h5⟩:=key j y ej
  have hex:∃(j:Nat) (p:PV),ak[j]?=some y/\ys[j]?=some p:=⟨j,p,ej,h1⟩
  dsimp only;rw [dif_pos hex];have sp:=hex.choose_spec.choose_spec
  obtain⟨p2,u2,g1,g2,g3,g4,g5⟩:=key _ y sp.1
  have e3:hex.choose_spec.choose=p2:=zzq (sp.2.symm.trans g1)
  rw [e3];exact yl (H0:=H0) I hK sg 9 (by omega) g5 ha (.inl g3) ta g4 rx
 ·have hex:∃(j:Nat) (p:PV),ak[j]?=some y/\ys[j]?=some p:=⟨j,p,e1,e2⟩
  dsimp only;rw [dif_pos hex];obtain⟨p1,u1,f1,f2,f3,f4,f5⟩:=key j y e1
  rw [e2] at f1;cases f1;have sp:=hex.choose_spec.choose_spec
  obtain⟨p2,u2,g1,g2,g3,g4,g5⟩:=key _ y sp.1
  have e3:hex.choose_spec.choose=p2:=zzq (sp.2.symm.trans g1)
  have e4:u1=u2:=f4.inj g4
  subst e4;rw [e3,u4 I hK sg DP g5 f5 (.inl g3:Top W H0 G H p2 u1) (.inl f3)]
def zL{ak:List Value}{ys:List PV}{e:Value->Bool}{f:PV->Bool}:ak.length=ys.length->(∀(j:Nat) (y:Value) (p:PV),ak[j]?=some y->ys[j]?=some p->e y=f p)->ak.any e=ys.any f:=by
 intro hl h;have:ak.map e=ys.map f:=iP (by simpa using hl) λj x y hx hy=>by
  rw [zzQ] at hx hy;obtain⟨a,ha,rfl⟩:=zzJ.mp hx
  obtain⟨b,hb,rfl⟩:=zzJ.mp hy
  exact h j a b ha hb
 calc ak.any e=(ak.map e).any id:=by rw [List.any_map];rfl
  _=(ys.map f).any id:=by rw [this]
  _=ys.any f:=by rw [List.any_map];rfl
def HG(hK:W.K=X.K)(hu:X.A.units+64<cLine):fw X (compareOp .In) (rN W tW):=by
 intro aa s σ H x y v u Q I rx ry h;obtain⟨H0,G,p,q,r,sg,t1,t2,e,wq⟩:=h
 have ES:X.A.in1.units+32<cLine:=by show X.A.units+1+32<_;omega
 unfold tW at e;split at e
 ·split at e
  ·rename_i hc;rw [zza] at hc;cases e;obtain⟨b,us,rfl,q2,l2⟩:=t2.lst sg
   cases ry;obtain⟨ak,rv,z,_⟩:=I.list (hZ hK q2)
   obtain⟨e,he,hv⟩:=vb I hK sg ES hc.1 hc.2 t1 rx l2 rv
   refine SeqAt.in_listAt e z.isList (λy hy=>he y (by simpa using hy)) ?_
   have:=zL (by rw [<-rv.length,l2.length]) hv
   rw [List.any_toArray,this];exact nD I sg wq
  ·cases e
 ·obtain⟨k,hk,e⟩:=Res.aX e
  cases e;have hk:=fe (Res.of_ok hk)
  subst hk;obtain⟨b,rfl,hb⟩:=t1.tupI (ns:=k) sg rfl
  obtain⟨a,us,rfl,n,hd,l⟩:=t2.bx sg
  cases ry;refine Oc (show X.A.units+1<cLine by omega) I (.inr ⟨_,ki k,b,hd,rfl,(by rw [sQ];exact sg _ _ hb),rfl⟩) rx λs' I'=>?_
  rw [iU,fV k _ us n];exact nD I' sg wq
 ·cases e
def Dz(hK:W.K=X.K)(hu:X.A.units+64<cLine):fw X (compareOp .NotIn) (rN W fK):=by
 intro aa s σ H x y v u Q I rx ry h;obtain⟨H0,G,p,q,r,sg,t1,t2,e,wq⟩:=h
 have ES:X.A.in1.units+32<cLine:=by show X.A.units+1+32<_;omega
 unfold fK at e;split at e
 ·split at e
  ·rename_i hc;rw [zza] at hc;cases e;obtain⟨b,us,rfl,q2,l2⟩:=t2.lst sg
   cases ry;obtain⟨ak,rv,z,_⟩:=I.list (hZ hK q2)
   obtain⟨e,he,hv⟩:=vb I hK sg ES hc.1 hc.2 t1 rx l2 rv
   refine SeqAt.notIn_listAt e z.isList (λy hy=>he y (by simpa using hy)) ?_
   have:=zL (by rw [<-rv.length,l2.length]) hv
   rw [List.any_toArray,this];exact nD I sg wq
  ·cases e
 ·obtain⟨k,hk,e⟩:=Res.aX e
  cases e;have hk:=fe (Res.of_ok hk)
  subst hk;obtain⟨b,rfl,hb⟩:=t1.tupI (ns:=k) sg rfl
  obtain⟨a,us,rfl,n,hd,l⟩:=t2.bx sg
  cases ry;refine Bc (show X.A.units+1<cLine by omega) I (.inr ⟨_,ki k,b,hd,rfl,(by rw [sQ];exact sg _ _ hb),rfl⟩) rx λs' I'=>?_
  rw [iU,fV k _ us n];exact nD I' sg wq
 ·cases e
theorem fU(hK:W.K=X.K)(hu:X.A.units+64<cLine):∀o:yt,fw X (compareOp (qd o)) (rN W (dg o))
 |.eq=>Ic hK hu|.ne=>IZ hK hu|.lt=>HR hK hu|.le=>Fh|.gt=>Fw|.ge=>IK|.is=>FI|.oY=>Bb|.JA=>HG hK hu|.rP=>Dz hK hu
def uO{ps:List PV}{vs:List V}{i:Int}{p:PV}(l:ah W G ps vs)(h:qc ps i=some p):∃v,qc vs i=some v/\Rep W G p v:=by
 unfold qc at h⊢;rw [l.length];cases e:Io ps.length i with
 |none=>rw [e] at h;cases h
 |some j=>
  rw [e] at h;exact l.oj h
def FH(hu:X.A.units+1<cLine):Jw X (λx y H Q=>∃a aA k b v,x=.ref a/\Rd H a (.dT aA)/\y=.ref b/\H b=some (.tup (k.map kV))/\iS aA k=some v/\Q v H):=by
 intro value slice aa s σ H x y v u Q I rx ry h hs;obtain⟨a,aA,k,b,z,rfl,hd,rfl,hb,hv,q⟩:=h
 cases rx;cases ry;obtain⟨_,_,xs,rel,dd⟩:=kQ I.bu hd
 obtain⟨w',hw,gu⟩:=j4.some_of (v:=z) (o:=(atKey xs k).map (·.2)) (by rw [<-hv];exact rel.val k)
 obtain⟨p,hp,hp2⟩:=zzJ.mp hw
 exact PyProof.Rows.subscriptTail_builtinR (x:=w') dd.typeIs PySem.F.slot_dict_getitem.lookup (wpAny_getItem_heap (Q:=λr s'=>r=w'/\EP X aa σ Q r s') (tupleKind_room_in1 hu) (gL I.bu hb) dd hp ⟨hp2,by rw [hp2];exact⟨z,H,I.tok _,gu,q⟩⟩) hs
def OO(hK:W.K=X.K)(hu:X.A.units+64<cLine):Jw X (rN W aJ):=by
 intro value slice aa s σ H x y v u Q I rx ry h hs;obtain⟨H0,G,p,q,r,sg,t1,t2,e,wq⟩:=h
 unfold aJ at e;split at e
 ·obtain⟨a,vs,rfl,h1,l1⟩:=t1.lst sg
  obtain⟨w,hw,kw⟩:=uO l1 (Res.of_ok e)
  exact Bf value slice aa s σ H _ y v u Q I rx ry ⟨a,vs,_,w,rfl,t2.int,hZ hK h1,hw,wq.at sg kw⟩ hs
 ·obtain⟨a,vs,rfl,h1,l1⟩:=t1.tup sg
  rw [hK] at h1;obtain⟨w,hw,kw⟩:=uO l1 (Res.of_ok e)
  exact HL value slice aa s σ H _ y v u Q I rx ry ⟨a,vs,_,w,rfl,t2.int,h1,hw,wq.at sg kw⟩ hs
 ·split at e
  ·rename_i hl;obtain⟨c,hc,e⟩:=Res.aX e
   cases e;exact Ig value slice aa s σ H x y v u Q I rx ry ⟨_,_,c,t1.str,t2.int,gZ hl,Res.of_ok hc,wq.at sg .s⟩ hs
  ·cases e
 ·obtain⟨k,hk,e2⟩:=Res.aX e
  have hk:=fe (Res.of_ok hk)
  subst hk;obtain⟨b,rfl,hb⟩:=t2.tupI (ns:=k) sg rfl
  obtain⟨a,us,rfl,n,hd,l⟩:=t1.bx sg
  obtain⟨w,hw,kw⟩:=pU l (Res.of_ok e2)
  exact FH (by omega) value slice aa s σ H _ _ v u Q I rx ry ⟨a,_,ki k,b,w,rfl,hd,rfl,(by rw [sQ];exact sg _ _ hb),(by rw [iU];exact hw),wq.at sg kw⟩ hs
 ·cases e
def B3{ps:List PV}{vs:List V}(lo hi:Option Int)(l:ah W G ps vs):ah W G (me ps lo hi) (vV vs lo hi):=by
 unfold me vV;rw [l.length];exact(l.drop _).take _
def OR(hK:W.K=X.K):L2.ER X (λx lo hi H Q=>∃H0 G p r,az G H/\Top W H0 G H p x/\dI p lo hi=.ok r/\dm W G H r Q):=by
 intro aa s σ H x v vl vu lo hi sl Q I rx hs pl pu h;obtain⟨H0,G,p,r,sg,t1,e,wq⟩:=h
 unfold dI at e;split at e
 ·cases e;obtain⟨a,vs,rfl,h1,l1⟩:=t1.lst sg
  exact B7 aa s σ H _ v vl vu _ _ sl Q I rx hs pl pu ⟨a,vs,rfl,hZ hK h1,λp hp=>wq.lst sg (B3 _ _ l1) hp⟩
 ·cases e
def vy(W:Wd)(f:List PV->Res PV):List V->Hp->VK->Prop:=λvs H Q=>∃H0 G ps r,az G H/\Paired (λv p=>Top W H0 G H p v) vs ps/\f ps=.ok r/\dm W G H r Q
def d8{H0 G H:Hp}{vs:List V}{p:PV}(h:Paired (λv p=>Top W H0 G H p v) vs [p]):∃v,vs=[v]/\Top W H0 G H p v:=by
 cases h with
 |cons h t=>cases t;exact⟨_,rfl,h⟩
def E4{H0 G H:Hp}{vs:List V}{p q:PV}(h:Paired (λv p=>Top W H0 G H p v) vs [p,q]):∃v u,vs=[v,u]/\Top W H0 G H p v/\Top W H0 G H q u:=by
 cases h with
 |cons h t=>
  cases t with
  |cons h2 t2=>cases t2;exact⟨_,_,rfl,h,h2⟩
def vD(hK:W.K=X.K):bR X (.builtin "len") (vy W sj):=by
 intro aa s σ H xs us Q I r h;obtain⟨H0,G,ps,rr,sg,tp,e,wq⟩:=h
 unfold sj at e;split at e
 ·cases e;obtain⟨v,rfl,t⟩:=d8 tp
  obtain⟨a,vs,rfl,h1,l1⟩:=t.lst sg
  exact ix aa s σ H _ us Q I r ⟨a,vs,rfl,.inl (hZ hK h1),by rw [l1.length];exact wq.at sg .i⟩
 ·cases e;obtain⟨v,rfl,t⟩:=d8 tp
  obtain⟨a,vs,rfl,h1,l1⟩:=t.tup sg
  rw [hK] at h1;exact ix aa s σ H _ us Q I r ⟨a,vs,rfl,.inr h1,by rw [l1.length];exact wq.at sg .i⟩
 ·split at e
  ·rename_i hl;cases e;obtain⟨v,rfl,t⟩:=d8 tp
   exact pC aa s σ H _ us Q I r ⟨_,by rw [t.str],gZ hl,wq.at sg .i⟩
  ·cases e
 ·cases e;obtain⟨v,rfl,t⟩:=d8 tp
  obtain⟨a,us',rfl,n,hd,l⟩:=t.bx sg
  obtain⟨u,rfl,ru⟩:=vals1 r
  cases ru;exact GU I hd λt s' I'=>⟨.int _,H,I',⟨t,rfl⟩,by rw [oH n];exact wq.at sg .i⟩
 ·cases e
def vF:bR X (.builtin "abs") (vy W yb):=by
 intro aa s σ H xs us Q I r h;obtain⟨H0,G,ps,rr,sg,tp,e,wq⟩:=h
 unfold yb at e;split at e
 ·cases e;obtain⟨v,rfl,t⟩:=d8 tp
  exact zg aa s σ H _ us Q I r ⟨_,by rw [t.int],wq.at sg .i⟩
 ·cases e
def vp(hc:X.calm=true):bR X (.builtin "max") (vy W AG):=by
 intro aa s σ H xs us Q I r h;obtain⟨H0,G,ps,rr,sg,tp,e,wq⟩:=h
 unfold AG at e;split at e
 ·cases e;obtain⟨v,u,rfl,t,t2⟩:=E4 tp
  exact vI hc aa s σ H _ us Q I r ⟨_,_,by rw [t.int,t2.int],wq.at sg .i⟩
 ·cases e
def wA(hc:X.calm=true):bR X (.builtin "min") (vy W Ac):=by
 intro aa s σ H xs us Q I r h;obtain⟨H0,G,ps,rr,sg,tp,e,wq⟩:=h
 unfold Ac at e;split at e
 ·cases e;obtain⟨v,u,rfl,t,t2⟩:=E4 tp
  exact vN hc aa s σ H _ us Q I r ⟨_,_,by rw [t.int,t2.int],wq.at sg .i⟩
 ·cases e
def vR:bR X (.type "int") (vy W xl):=by
 intro aa s σ H xs us Q I r h;obtain⟨H0,G,ps,rr,sg,tp,e,wq⟩:=h
 unfold xl at e;split at e
 ·split at e
  ·rename_i hl;obtain⟨n,hn,e⟩:=Res.aX e
   cases e;obtain⟨v,rfl,t⟩:=d8 tp
   exact o7 aa s σ H _ us Q I r ⟨_,n,by rw [t.str],Res.of_ok hn,hl,wq.at sg .i⟩
  ·cases e
 ·cases e
def vO:bR X (.type "str") (vy W Ao):=by
 intro aa s σ H xs us Q I r h;obtain⟨H0,G,ps,rr,sg,tp,e,wq⟩:=h
 unfold Ao at e;split at e
 ·split at e
  ·rename_i hl;cases e;obtain⟨v,rfl,t⟩:=d8 tp
   exact oA aa s σ H _ us Q I r ⟨_,by rw [t.int],hl,wq.at sg .s⟩
  ·cases e
 ·cases e
def wQ{G:Hp}(z:Str):ah W G (chars z) (z.cps.toList.map λc=>V.str ⟨#[c]⟩):=by
 unfold chars
 induction z.cps.toList with
 |nil=>exact .nil
 |cons c r ih=>exact .cons .s ih
def sR(hc:X.calm=true)(hK:W.K=X.K):bR X (.type "list") (vy W rD):=by
 intro aa s σ H xs us Q I r h;obtain⟨H0,G,ps,rr,sg,tp,e,wq⟩:=h
 unfold rD at e;split at e
 ·cases e;obtain⟨v,rfl,t⟩:=d8 tp
  obtain⟨a,vs,rfl,h1,l1⟩:=t.lst sg
  exact eY aa s σ H _ us Q I r ⟨a,vs,rfl,.inl (hZ hK h1),λp hp=>wq.lst sg l1 hp⟩
 ·cases e;obtain⟨v,rfl,t⟩:=d8 tp
  obtain⟨a,vs,rfl,h1,l1⟩:=t.tup sg
  rw [hK] at h1;exact eY aa s σ H _ us Q I r ⟨a,vs,rfl,.inr h1,λp hp=>wq.lst sg l1 hp⟩
 ·split at e
  ·rename_i hl;cases e;obtain⟨v,rfl,t⟩:=d8 tp
   exact iK hc aa s σ H _ us Q I r ⟨_,by rw [t.str],gZ hl,λp hp=>wq.lst sg (wQ _) hp⟩
  ·cases e
 ·cases e
def qg(hK:W.K=X.K):bR X (.type "tuple") (vy W la):=by
 intro aa s σ H xs us Q I r h;obtain⟨H0,G,ps,rr,sg,tp,e,wq⟩:=h
 unfold la at e;split at e
 ·cases e;obtain⟨v,rfl,t⟩:=d8 tp
  obtain⟨a,vs,rfl,h1,l1⟩:=t.lst sg
  exact md aa s σ H _ us Q I r ⟨a,vs,rfl,.inl ⟨hZ hK h1,λp hp=>wq.tup sg l1 hp⟩⟩
 ·cases e
def wC(hc:X.calm=true)(hK:W.K=X.K):bR X (.builtin "all") (vy W Ag):=by
 intro aa s σ H xs us Q I r h;obtain⟨H0,G,ps,rr,sg,tp,e,wq⟩:=h
 unfold Ag at e;split at e
 ·obtain⟨bs,hb,e⟩:=Res.aX e
  cases e;obtain⟨v,rfl,t⟩:=d8 tp
  obtain⟨a,vs,rfl,h1,l1⟩:=t.lst sg
  cases fP l1 (Res.of_ok hb);exact Ar hc aa s σ H _ us Q I r ⟨a,bs,rfl,hZ hK h1,wq.at sg .b⟩
 ·cases e
def vH(hc:X.calm=true)(hK:W.K=X.K):bR X (.builtin "any") (vy W xy):=by
 intro aa s σ H xs us Q I r h;obtain⟨H0,G,ps,rr,sg,tp,e,wq⟩:=h
 unfold xy at e;split at e
 ·obtain⟨bs,hb,e⟩:=Res.aX e
  cases e;obtain⟨v,rfl,t⟩:=d8 tp
  obtain⟨a,vs,rfl,h1,l1⟩:=t.lst sg
  cases fP l1 (Res.of_ok hb);exact yM hc aa s σ H _ us Q I r ⟨a,bs,rfl,hZ hK h1,wq.at sg .b⟩
 ·cases e
def si:Ty->String
 |.int=>"int"|.bool=>"bool"|.tuple=>"tuple"|.list=>"list"
def Lh{K:zz8}(t:Ty):Cw.A1 K "NoneType" (si t) false/\(∀b,Cw.A1 K "bool" (si t) (gW t (.bl b)))/\(∀i,Cw.A1 K "int" (si t) (gW t (.int i)))/\(∀z,Cw.A1 K "str" (si t) (gW t (.str z)))/\(∀z,Cw.A1 K "tuple" (si t) (gW t (.tup z)))/\(∀z,Cw.A1 K "list" (si t) (gW t (.lst z))):=by
 cases t
 all_goals refine⟨?_,λb=>?_,λb=>?_,λb=>?_,λb=>?_,λb=>?_⟩
 all_goals first
  |exact Cw.yf _
  |exact Cw.yK (b:=false) (by decide+kernel) (by decide+kernel) (by decide+kernel)
  |exact Cw.yK (b:=true) (by decide+kernel) (by decide+kernel) (by decide+kernel)
def yi(hK:W.K=X.K)(t:Ty):bR X (.builtin "isinstance") (λxs H Q=>∃v H0 G p r,xs=[v,.ty (si t)]/\az G H/\Top W H0 G H p v/\eU t p=.ok r/\dm W G H r Q):=by
 intro aa s σ H xs us Q I rr h;obtain⟨v,H0,G,p,r,rfl,sg,tp,e,wq⟩:=h
 obtain⟨u,u2,rfl,ru,ru2⟩:=Vals.two rr
 cases ru2;obtain⟨k1,k2,k3,k4,k5,k6⟩:=Lh (K:=X.K) t
 cases p with
 |exc c=>cases e
 |bx a b=>cases e
 |aC=>cases e;cases tp.aC;cases ru;cases t<;>exact PySem.W.kia_one PySem.W.kitx_none I.sX True.intro k1 (λz=>nomatch z) λtk=>⟨.bl _,H,I.tok tk,rfl,wq.at sg .b⟩
 |bl b=>cases e;cases tp.bl;cases ru;exact PySem.W.kia_one PySem.W.kitx_bool I.sX True.intro (k2 b) (λz=>nomatch z) λtk=>⟨.bl _,H,I.tok tk,rfl,wq.at sg .b⟩
 |int b=>cases e;cases tp.int;obtain⟨t1,rfl⟩:=ru;exact PySem.W.kia_one PySem.W.kitx_int I.sX True.intro (k3 b) (λz=>nomatch z) λtk=>⟨.bl _,H,I.tok tk,rfl,wq.at sg .b⟩
 |str b=>cases e;cases tp.str;obtain⟨t1,rfl⟩:=ru;exact PySem.W.kia_one PySem.W.kitx_str I.sX True.intro (k4 b) (λz=>nomatch z) λtk=>⟨.bl _,H,I.tok tk,rfl,wq.at sg .b⟩
 |tup b=>
  cases e;obtain⟨a,vs,rfl,h1,l1⟩:=tp.tup sg
  rw [hK] at h1;cases ru;obtain⟨ak,_,⟨o,e1,e2,_⟩,_⟩:=I.tuple h1
  exact PySem.W.kia_one PySem.W.kitx_tuple I.sX ⟨o,e1,e2⟩ (k5 b) (λz=>nomatch z) λtk=>⟨.bl _,H,I.tok tk,rfl,wq.at sg .b⟩
 |lst b=>
  cases e;obtain⟨a,vs,rfl,h1,l1⟩:=tp.lst sg
  cases ru;obtain⟨ak,n,_,_,_,e1⟩:=Cg hK I h1
  exact PySem.W.kia_one PySem.W.kitx_list I.sX ⟨_,e1,rfl⟩ (k6 b) (λz=>nomatch z) λtk=>⟨.bl _,H,I.tok tk,rfl,wq.at sg .b⟩
theorem um{k:List Int}{v:V}(h:Rep W G (af k) v):∃b,v=.ref b/\G b=some (.tup (k.map V.int)):=Top.tupI (H0:=G) (az.refl G) rfl (.inl h)
theorem nN:∀{vs:List V} {nss:List (List Int)} {G:Hp},az G H->Paired (λv ns=>∃b,v=V.ref b/\H b=some (.tup (ns.map V.int))) vs nss->∃G',aF W G H G' H/\ah W G' (nss.map af) vs
 |_,_,G,sg,.nil=>⟨G,.refl sg,.nil⟩
 |_,_,G,sg,.cons (b:=ns) h t=>by
  obtain⟨b,rfl,hb⟩:=h
  have g1:=aF.adopt (W:=W) sg hb
  obtain⟨G2,g2,l⟩:=nN g1.sub t
  refine⟨G2,g1.trans g2,.cons (Rep.same g2.g _ ?_) l⟩;refine .t (.inl ax) ?_;have go:∀ns:List Int,ah W (upd G b (.tup (ns.map V.int))) (ns.map .int) (ns.map V.int)/\True:=λ_=>⟨by
   rename_i ns';have all:∀(G':Hp) (l:List Int),ah W G' (l.map .int) (l.map V.int):=λG' l=>by
    induction l with
    |nil=>exact .nil
    |cons x l ih=>exact .cons .i ih
   exact all _ _,trivial⟩
  exact(go ns).1
theorem AH{K:zz8}(hK:W.K=K)(sg:az G H):∀{xs:List PV} {ps:List (List Int×PV)} {vs:List V},qw xs=some ps->ah W G xs vs->∃us,ah W G (ps.map (·.2)) us/\gA K H vs ((ps.map λp=>ki p.1).zip us)
 |[],_,_,e,l=>by cases e;simp! [ah] at l;subst l;exact⟨[],.nil,.nil⟩
 |x::xs,ps,vs,e,l=>by
  obtain⟨v,vr,rfl,h1,h2⟩:=l.aR
  unfold qw at e;split at e
  ·rename_i heq;cases heq
  ·rename_i heq;cases heq;obtain⟨k,hk,e⟩:=zzZ.mp e
   obtain⟨r,hr,rfl⟩:=zzJ.mp e
   obtain⟨us,l2,p2⟩:=AH hK sg hr h2
   simp! [Rep] at h1;obtain⟨q,ws,rfl,tq,lq⟩:=h1
   obtain⟨w1,wr,rfl,k1,lq⟩:=lq.aR
   obtain⟨w2,wr2,rfl,k2,lq⟩:=lq.aR
   simp! [ah] at lq;subst lq;rw [fe hk] at k1;obtain⟨b,rfl,hb⟩:=um k1
   refine⟨w2::us,.cons k2 l2,.cons ⟨q,b,rfl,?_,by rw [sQ];exact sg _ _ hb⟩ p2⟩;rw [<-hK];exact az.tup sg tq.sq
  ·cases e
theorem m5:∀(ps:List (List Int×PV)) {us:List V} {ks:List (List Int)} {qs:List PV} {ws:List V},ah W G (ps.map (·.2)) us->ks.length=ws.length->ah W G qs ws->∃zs,(b8 ps ks qs).1.length=zs.length/\ah W G (b8 ps ks qs).2 zs/\dQ (kz ks ws) ((ps.map λp=>ki p.1).zip us)=kz (b8 ps ks qs).1 zs
 |[],us,ks,qs,ws,_,n,l=>⟨ws,n,l,rfl⟩
 |p::ps,us,ks,qs,ws,lu,n,l=>by
  obtain⟨u,ur,rfl,h1,h2⟩:=lu.aR
  obtain⟨zs,z1,z2,z3⟩:=m5 ps h2 (qA n p.1 u) (uE (ks:=ks) (k:=p.1) l h1)
  refine⟨zs,z1,z2,?_⟩;show dQ (putK (kz ks ws) (ki p.1) u) _=_
  rw [y6 n];exact z3
def yL(hK:W.K=X.K){H0:Hp}{ps:List PV}{q:PV}{xs:List V}(sg:az G H)(tp:Paired (λv p=>Top W H0 G H p v) xs ps)(e:m8 ps=.ok q):∃ks qs,q=.bx ks qs/\∃a vs aA,xs=[V.ref a]/\dz X.K H a vs/\gA X.K H vs aA/\∃zs,ks.length=zs.length/\ah W G qs zs/\dQ [] aA=kz ks zs:=by
 unfold m8 at e;split at e
 ·obtain⟨ps,hp,e⟩:=Res.aX e
  cases e;obtain⟨v,rfl,t⟩:=d8 tp
  obtain⟨a,vs,rfl,h1,l1⟩:=t.lst sg
  obtain⟨ws,lw,pw⟩:=AH hK sg (Res.of_ok hp) l1
  obtain⟨zs,z1,z2,z3⟩:=m5 ps (ks:=[]) (qs:=[]) (ws:=[]) lw rfl .nil
  exact⟨_,_,rfl,a,vs,_,rfl,hZ hK h1,pw,zs,z1,z2,z3⟩
 ·cases e
def rf(hK:W.K=X.K)(hc:X.calm=true)(hu:X.A.units+64<cLine):bR X (.type "dict") (vy W m8):=by
 intro aa s σ H xs us Q I r h;obtain⟨H0,G,ps,rr,sg,tp,e,wq⟩:=h
 obtain⟨ks,qs,rfl,a,vs,aA,rfl,h1,pw,zs,z1,z2,z3⟩:=yL hK sg tp e
 refine tQ hc (by omega) aa s σ H _ us Q I r ⟨a,vs,_,rfl,h1,pw,λp o hn=>?_⟩
 rw [z3];refine wq _ _ _ (.new sg hn) ?_;simp! [Rep];exact⟨p,o,zs,rfl,z1,ax,ah.same (bf (sg.free hn)) _ z2⟩
end
end Ci
namespace L2
open PySem PySem.Spec PyProof.Rows
section
variable{X:Cx}{scope:Scope}{xs ys:List Str}{is:List Nat}
theorem pE{i₀:Nat}{x₀:Str}{pos' gh:Pos}{elt tg iter E8:Expr}{pos:Pos}{wi:TI}{g:TG}{te:TE}{tt:TT}(hN₀:X.N.Nodup)(hi₀:X.N[i₀]?=some x₀)(hx₀:Loc X.env.scope x₀)(hc:X.calm=true)(S:eo X scope xs ys is)(hi:PI X tg iter wi)
 (hg:∀fp s1 H1 C,PG (bV X (xs++ys) scope (cA X.env ys) fp s1 H1 C) tg g) (ht:∀fp s1 H1 C,PT (bV X (xs++ys) scope (cA X.env ys) fp s1 H1 C) E8 tt) (he:∀fp s1 H1 C,PE (bV X (xs++ys) scope (cA X.env ys) fp s1 H1 C) elt te)
 (Au:swapsWith (.ListComp elt [⟨tg,iter,[E8],0⟩] scope pos) (some (.Name x₀ pos')) gh.line X.env=pure true:=by rfl)
 (hs:∀x,foldedSetIterable iter X.env x=pure x:=by intro _;rfl) (hf₀:X.fn x₀=true\/X.env.scope.names.lookup x₀=some .local:=by first|exact .inl rfl|exact .inr rfl|assumption):
 PS X (.Assign [.Name x₀ pos'] (.ListComp elt [⟨tg,iter,[E8],0⟩] scope pos) gh) (BB (js wi xs.length g tt te is) (dj i₀)):=by
 intro aa s σ H D₀ I h;rw [exec_Assign_Name_used _ _ _ _ Au];refine zzA (wpAny_standAt (zzA ?_));show wpAny _ X.A (do let _<-comprehension (.ListComp elt [⟨tg,iter,[E8],0⟩] scope pos) scope X.env _ (newList []) false (eval iter X.env) (some (assign (.Name x₀ pos') X.env))) _ _ s;refine zzA (wpAny_mono (fW (QQ:=λ_ s'=>∃σ2 H2,Inv X aa σ2 H2 s'/\D₀.nx σ2 H2) (Q:=λv H4=>dj i₀ v σ H4 D₀.nx) hc S hi hg (λfp s1 H1 C=>u7 (ht fp s1 H1 C)) he hs I h λD C s4 H4 m I5 hn ⟨g0,g1,_,g3,g4,g5⟩ q=>?_) (λ_ s' hq=>zzG (zzG hq)) λ_ _ e=>e)
 refine wpAny_assign_Name (iN I5 hN₀ hi₀ hx₀ (show RelV (.ref D) (.ref D) from rfl) (λs6 I6 ⟨a6,sb6,ha6⟩=>?_) hf₀);have yX:C≠a6:=by
  rcases ha6 with z|z
  ·rw [z];exact g1
  ·exact λz2=>g4 _ _ z z2.symm
 exact⟨m,hn.sameBut sb6 yX,λh' uC=>⟨_,_,I6.turned (t':=s6.toks) (it:=C) (λb o hb e=>uC.extBut b o hb e) g0 g1 g3 g4 g5,q⟩⟩
end
open PySem.AutoSeq1 (wpAny_loadPart')
section
variable{prog:Program}{w:World}{A:Around}{E:Value->Shared->Prop}{s:Shared}{jt tu:Addr}{i:Nat}{ak:Array Value}{Q:Value->Shared->Prop}
def jc{x:Value}(ih:s.heap.IsTupleIter jt tu i)(th:s.heap.IsTuple tu ak)(hx:ak[i]?=some x)
 (k:∀g,g.IsTupleIter jt tu (i+1)->Heap.SameBut jt s.heap g->Q x {s with heap:=g}):wpAny (model prog w) A (Builtin.SmallTypes.nextOf (.ref jt)) Q E s:=by
 obtain⟨ob,e1,e2,e3⟩:=id ih
 obtain⟨ot,f1,_,nn,f2⟩:=th
 unfold Builtin.SmallTypes.nextOf;refine zzA (wpAny_callSpecial?_slot (name:=Str.ofString "__next__") ih.typeIs F.slot_tuple_iterator_next (wpAny_call_entry F.slot_tuple_iterator_next ih.typeIs F.entry_tuple_iterator_next ?_ (F.args_tuple_iterator_next_1 _)));show wpAny _ _ (field (.ref jt) 0>>=_) _ _ s;refine zzA (wpAny_field e1 e3 (x:=.ref tu) rfl ?_);show wpAny _ _ (if(Value.ref tu==Value.none)=true then _ else _) _ _ s;rw [if_neg (show¬((Value.ref tu==Value.none)=true) from zzf)];show wpAny _ _ (field (.ref jt) 1>>=_) _ _ s;refine zzA (wpAny_field e1 e3 (x:=.int i 0) rfl ?_);show wpAny _ _ (seqItems? (.ref tu)>>=_) _ _ s;refine zzA (wpAny_seqItems f1 f2 ?_);simp! [zz4,hx];refine zzA (wpAny_setField e1 e3 (by simp) (zzG ⟨x,rfl,zzG (k _ ?_ (zzu ..))⟩));exact⟨_,Heap.get?_update_self _ e1 (Obj.isFreed_of_fields (Obj.data_mapFields e3 _)),(Obj.cls_mapFields ..).trans e2,by rw [Obj.data_mapFields e3];simp [rawInt]⟩
def kP(hh:A.handled=none)(ih:s.heap.IsTupleIter jt tu i)(th:s.heap.IsTuple tu ak)(hx:ak[i]?=none)
 (k:∀g e,Heap.ExtBut jt s.heap g->(∃o,g.get? e=some o/\o.cls=.type "StopIteration")->E (.ref e) {s with heap:=g}):wpAny (model prog w) A (Builtin.SmallTypes.nextOf (.ref jt)) Q E s:=by
 obtain⟨ob,e1,e2,e3⟩:=id ih
 obtain⟨ot,f1,_,nn,f2⟩:=th
 unfold Builtin.SmallTypes.nextOf;refine zzA (wpAny_callSpecial?_slot (name:=Str.ofString "__next__") ih.typeIs F.slot_tuple_iterator_next (wpAny_call_entry F.slot_tuple_iterator_next ih.typeIs F.entry_tuple_iterator_next ?_ (F.args_tuple_iterator_next_1 _)));show wpAny _ _ (field (.ref jt) 0>>=_) _ _ s;refine zzA (wpAny_field e1 e3 (x:=.ref tu) rfl ?_);show wpAny _ _ (if(Value.ref tu==Value.none)=true then _ else _) _ _ s;rw [if_neg (show¬((Value.ref tu==Value.none)=true) from zzf)];show wpAny _ _ (field (.ref jt) 1>>=_) _ _ s;refine zzA (wpAny_field e1 e3 (x:=.int i 0) rfl ?_);show wpAny _ _ (seqItems? (.ref tu)>>=_) _ _ s;refine zzA (wpAny_seqItems f1 f2 ?_);simp! [zz4,hx];refine zzA (wpAny_rule (zzA (wpAny_setField e1 e3 (by simp) ?_)));show wpAny _ _ (newExc (.type "StopIteration") []>>=_) _ _ _;refine zzA ?_;simp! [newExc,newTuple];refine zzA (wpAny_newObj_type ?_ (by size_fits));refine zzA (m:=firstArgMember _ _) (wpAny_of_eq (a:=Value.none) (by first|rfl|(simp! [firstArgMember];rfl)) ?_);refine wpAny_newObj_type ?_ (by size_fits);simp! [raiseNew];refine zzA (wpAny_handled ?_)
 first|rw [show A.in1.handled=none from hh]|rw [hh]
 refine zzA (zzG (wpAny_throw ?_));exact k _ _ (((zzu ..).extBut.push _).push _) ⟨_,zzX _ rfl,rfl⟩
end
theorem iO{prog:Program}{w:World}{A:Around}(hh:A.handled=none)(jt tu:Addr)(eB:tu≠jt)(ak:Array Value):
 Draws prog w A jt [jt,tu] ak.size (λi v=>ak[i]?=some v) (λi h=>h.IsTupleIter jt tu i/\h.IsTuple tu ak) where
 live:=λ_ _ st=>let⟨o,ho,_⟩:=st.1;⟨o,ho⟩
 frame:=λ_ _ _ st hk=>⟨st.1.at λo e=>hk jt (by simp) o e,by obtain⟨o,e,r⟩:=st.2;exact⟨o,hk tu (by simp) o e,r⟩⟩
 item:=λi s Q E hi st hQ=>jc st.1 st.2 (x:=ak[i]) (by simp [hi]) λg ig sb=>hQ _ g s.toks (by simp [hi]) ⟨ig,by obtain⟨o,e,r⟩:=st.2;exact⟨o,sb.extBut _ _ eB e,r⟩⟩ sb
 done:=λs Q E st hE=>kP hh st.1 st.2 (by simp) hE
theorem wF(l:Addr)(items:Array Value)(n:Nat)(bx:Option Addr)(sl:Array (Option Value)):
 Meets (Builtin.«enumerate.__new__» ⟨[.type "enumerate",.ref l],[]⟩) (λ_ R s=>s.heap.get? l=some {cls:=.type "tuple",dict:=bx,data:=.seq items n,slots:=sl}/\
  R (.ok (.ret (.ref (s.heap.push {cls:=.type "tuple_iterator",data:=.fields #[.ref l,.int 0 0]}).objs.size)))
   {s with heap:=(s.heap.push {cls:=.type "tuple_iterator",data:=.fields #[.ref l,.int 0 0]}).push {cls:=.type "enumerate",data:=.fields #[.none,.bool false,.ref (zz9 s),rawInt 0,.none,.none]}}):=
 .of_wp λprog w A R s h=>by
  obtain⟨hp,g,d,tk,os⟩:=s
  obtain⟨hl,h⟩:=h
  have OI:=sub_enumerate
  have hL:Heap.IsTuple (Shared.heap ⟨hp,g,d,tk,os⟩) l items:=⟨_,hl,rfl,n,rfl⟩
  wp_walk using wpAny_loadPart' hl
  refine wpAny_stack_any λst=>zzG ?_
  split
  ·rename_i c _ _ _ _ _;cases(c==Value.type "enumerate")<;>(wp_walk using wpAny_loadPart' hl,wpAny_pyIter_tuple hL;exact⟨_,rfl,h⟩)
  ·wp_walk using wpAny_loadPart' hl,wpAny_pyIter_tuple hL
   exact⟨_,rfl,h⟩
def fi{h:Heap}{a b:Addr}{o1 o2:Obj}(h1:h.get? a=some o1)(h2:h.get? b=some o2)(hc:o1.cls≠o2.cls):a≠b:=λz=>by
 subst z;rw [h1] at h2;cases h2;exact hc rfl
def ez(z:Str):strIterType z="str_ascii_iterator"\/strIterType z="str_iterator":=by
 unfold strIterType;split
 ·exact .inl rfl
 ·exact .inr rfl
def iG{X:Cx}{aa:List (Addr×Obj)}{σ:St}{H:Hp}{s:Shared}{E:Value->Shared->Prop}{e it:Addr}{RV:List Addr}{n i:Nat}{Pv:Nat->Value->Prop}{Sv:Nat->Heap->Prop}{old:Value}{Gx:V->Prop}{elts:List Expr}{x1:Nat}{pos:Pos}
 (I:Inv X aa σ H s) (D:Draws X.prog X.w X.A.in1 it RV n Pv Sv) (he:IsEnum s.heap e it i old) (cO:Sv i s.heap) (cQ:i<n) (eB:e≠it) (Qw:e∉RV) (hf:∀b∈[e,it],gc X aa H b) (hP:∀u,Pv i u->∃x,RelV x u/\Gx x):
 wpAny (model X.prog X.w) X.A (pyNext (.ref e)) (λr s1=>∃u,r=some u/\wpAny (model X.prog X.w) X.A (letOwnedTupleGo (.Tuple elts x1 pos) (.ref e) u) (λ_ s2=>∃x p,u=.ref p/\Gx x/\H p=none/\e≠p/\it≠p/\
  Inv X aa σ (upd H p (.tup [.int i,x])) s2/\(∃OA,IsEnum s2.heap e it ((i:Int)+1) OA)/\Sv (i+1) s2.heap) E s1) E s:=by
 refine wpAny_pyNext_enum_itemD D he cO cQ eB Qw λu h' tk pu ho iY ht hz kk=>?_
 obtain⟨x,rx,gx⟩:=hP u pu
 obtain⟨f0,f1,f2,f3,f4,f5⟩:=hf e (by simp)
 obtain⟨g0,g1,g2,g3,g4,g5⟩:=hf it (by simp)
 have vG:H (zz9 s)=none:=I.bu.fresh (zzE _)
 obtain⟨oi,hoi⟩:=D.live _ _ cO
 have Ru:e≠(zz9 s):=zzb (zzO he)
 have TZ:it≠(zz9 s):=zzb (zzO hoi)
 have nX:∀b o,H b=some o->b≠e/\b≠it/\b≠(zz9 s):=λb o q=>⟨(λz=>(by rw [z,f0] at q;cases q)),(λz=>(by rw [z,g0] at q;cases q)),zzb (I.bu.lt q)⟩
 have I1:Inv X aa σ (upd H (zz9 s) (.tup [.int i,x])) {s with heap:=h',toks:=tk+1}:=by
  refine I.step (g':=s.gens) (d':=s.drawn) (ch:=[e,it]) (λb hb=>?_) (λb o _ _ hc q _=>kk b o (λz=>hc (by simp [z])) (λz=>hc (by simp [z])) q)
   (λb o _ _ hc q _=>⟨o.slots,kk b o (λz=>hc (by simp [z])) (λz=>hc (by simp [z])) q⟩) (λb o _ q nb=>by rw [aj (zzb (zzO q))];exact nb)
   (λb o hc q=>⟨o,kk b o (λz=>hc (by simp [z])) (λz=>hc (by simp [z])) q⟩) (λb xs q=>by rw [aj (nX b _ q).2.2];exact q) (λb o u q=>by rw [aj (nX b _ q).2.2];exact q)
   (λb ps q=>⟨#[],by rw [aj (nX b _ q).2.2,q];simp⟩) (λm hm=>?_) (λb o q=>?_) I.bare
  ·rcases zzm.mp hb with z|z
   ·subst z;exact⟨f3,f1,f4,f5⟩
   ·rw [zzi.mp z];exact⟨g3,g1,g4,g5⟩
  ·obtain⟨o,es,ep,q,r⟩:=hm
   exact⟨o,es,ep,kk _ o (Ne.symm f1) (Ne.symm g1) q,r⟩
  ·by_cases hb:b=(zz9 s)
   ·subst hb;rw [ax] at q;cases q;exact⟨(show 2<=sizeLine by decide),[.int i tk,u],.cons ⟨tk,rfl⟩ (.cons rx .nil),⟨_,ht,rfl,_,rfl⟩⟩
   ·rw [aj hb] at q;refine(I.bu b o q).gj (λc v hc z=>kk c v ?_ ?_ z) (λc z=>by rw [aj (nX c _ z).2.2];exact z) λc xs z=>by rw [aj (nX c _ z).2.2];exact z
    ·rcases hc with z'|z'
     ·rw [z'];exact(nX b o q).1
     ·exact(nX c _ z').1
    ·rcases hc with z'|z'
     ·rw [z'];exact(nX b o q).2.1
     ·exact(nX c _ z').2.1
 refine⟨_,rfl,wpAny_letOwnedTupleGo_enum ho λh2 JX sb=>?_⟩
 refine⟨x,(zz9 s),rfl,gx,vG,Ru,TZ,I1.turned (t':=tk+1) (it:=e) (λb o hb q=>sb.extBut b o hb q) (by rw [aj Ru];exact f0) f1 f3 f4 f5,⟨_,JX⟩,D.frame _ _ _ iY λb hb o q=>sb.extBut b o (λz=>Qw (z▸hb)) q⟩
noncomputable def PR(K:zz8)(a:Addr)(xs:List V):It:=
 ⟨λi H=>eE K H a xs/\i<xs.length,λi H v H'=>∃p x,v=.ref p/\H p=none/\H'=upd H p (.tup [.int (i:Nat),x])/\xs[i]?=some x,λi H=>eE K H a xs/\i=xs.length⟩
noncomputable def MK(z:Str):It:=
 ⟨λi _=>i<z.cps.size,λi H v H'=>∃p c,v=.ref p/\H p=none/\H'=upd H p (.tup [.int (i:Nat),.str ⟨#[c]⟩])/\z.cps[i]?=some c,λi _=>i=z.cps.size⟩
def sD{P:Program}{w:World}{K:zz8}{elts:List Expr}{x1:Nat}{pos:Pos}(a e it:Addr)(xs:List V):Turn P w K (.Tuple elts x1 pos) (PR K a xs) [e,it] e (λi h=>(∃old,IsEnum h e it i old)/\h.IsTupleIter it a i) where
 mem:=by simp
 obj:=λi h st b hb=>by
  obtain⟨⟨old,he⟩,o,ho,_,hd⟩:=st
  rcases zzm.mp hb with z|z
  ·subst z;exact⟨_,he,λv q=>by cases q⟩
  ·rw [zzi.mp z];exact⟨o,ho,λv q=>by rw [hd] at q;cases q⟩
 keep:=λi h h' st k=>⟨by obtain⟨old,he⟩:=st.1;exact⟨old,k e (by simp) _ he⟩,st.2.at λo q=>k it (by simp) o q⟩
 item:=by
  intro X hP hw hK hc i aa s σ H E I hf st hg;subst hP hw hK;obtain⟨hq,cQ⟩:=hg
  obtain⟨⟨old,he⟩,hit⟩:=st
  obtain⟨ak,rv,p,hz⟩:=I.tuple hq
  have hl:=rv.length
  have jh:=hit
  obtain⟨oi,e1,e2,_⟩:=hit
  obtain⟨oa,a1,a2,_⟩:=id p
  have yX:a≠it:=fi a1 e1 (by rw [a2,e2];decide+kernel)
  have EL:e≠it:=fi he e1 (by rw [e2];show Value.type "enumerate"≠_;decide+kernel)
  have F2:e≠a:=fi he a1 (by rw [a2];show Value.type "enumerate"≠_;decide+kernel)
  refine bD (iG (Gx:=λx=>xs[i]?=some x) I (iO (A:=X.A.in1) (I.ok.hd hc) it a yX ak.toArray) he ⟨jh,p⟩ (by rw [zzC];omega) EL (by simp [EL,F2]) hf (λu hu=>?_)) λr s1 ⟨u,hr,k⟩=>⟨u,hr,bD k λ_ s2 ⟨x,q,z1,z2,z3,z4,z5,z6,z7,z8⟩=>?_⟩
  ·have Kg:xs[i]?=some xs[i]:=zzg cQ
   obtain⟨u',hu',ru'⟩:=rv.get Kg
   have:ak.toArray[i]?=some u':=by simpa using hu'
   have HY:ak.toArray[i]?=some u:=hu
   rw [this] at HY;cases HY;exact⟨xs[i],ru',Kg⟩
  ·exact⟨.ref q,_,z6,z1.symm▸rfl,⟨q,x,rfl,z3,rfl,z2⟩,⟨z7,z8.1⟩,λb hb=>by
    rcases zzm.mp hb with w|w
    ·rw [w,aj z4];exact(hf e (by simp)).1
    ·rw [zzi.mp w,aj z5];exact(hf it (by simp)).1⟩
 done:=by
  intro X hP hw hK hc i aa s σ H E I hf st hg;subst hP hw hK;obtain⟨hq,rfl⟩:=hg
  obtain⟨⟨old,he⟩,hit⟩:=st
  obtain⟨ak,rv,p,hz⟩:=I.tuple hq
  have hl:=rv.length
  have jh:=hit
  obtain⟨oi,e1,e2,_⟩:=hit
  obtain⟨oa,a1,a2,_⟩:=id p
  have yX:a≠it:=fi a1 e1 (by rw [a2,e2];decide+kernel)
  obtain⟨g0,g1,g2,g3,g4,g5⟩:=hf it (by simp)
  refine wpAny_pyNext_enum_endD (iO (A:=X.A.in1) (I.ok.hd hc) it a yX ak.toArray) he ⟨by rw [zzC,<-hl];exact jh,p⟩ λh' eb=>⟨rfl,I.turned (t':=s.toks) (λb o hb q=>eb b o hb q) g0 g1 g3 g4 g5⟩
 self:=λ_ _ _ _ _ st h=>by obtain⟨⟨old,he⟩,_⟩:=st;exact wpAny_pyIter_enum he h
def mh{prog:Program}{w:World}{A:Around}{E:Value->Shared->Prop}{s:Shared}{l:Addr}{items:Array Value}{Q:Value->Shared->Prop}(hL:IsTup s.heap l items)
 (h:∀g,IsEnum g ((zz9 s)+1) (zz9 s) 0 .none->g.IsTupleIter (zz9 s) l 0->(∀b o,s.heap.get? b=some o->g.get? b=some o)->Q (.ref ((zz9 s)+1)) {s with heap:=g}):
 wpAny (model prog w) A (call (.type "enumerate") [.ref l]) Q E s:=by
 obtain⟨⟨cls,dd,data,sl⟩,ho,hc,n,hd⟩:=id hL
 simp only at hc hd;subst hc hd;have hz:(s.heap.push {cls:=.type "tuple_iterator",data:=.fields #[.ref l,.int 0 0]}).objs.size=(zz9 s)+1:=Heap.size_push ..
 refine callType_new F.called_enumerate (by decide) (F.typeCall_enumerate_1 _) (F.newCall_enumerate_1 _) (λobj=>F.args_object_init_2 obj _) F.entry_enumerate_new (wF l items n dd sl) ⟨ho,?_⟩;show _/\_;rw [hz];have he:IsEnum ((s.heap.push {cls:=.type "tuple_iterator",data:=.fields #[.ref l,.int 0 0]}).push {cls:=.type "enumerate",data:=.fields #[.none,.bool false,.ref (zz9 s),rawInt 0,.none,.none]}) ((zz9 s)+1) (zz9 s) 0 .none:=by
  have q:=zzX (s.heap.push {cls:=.type "tuple_iterator",data:=.fields #[.ref l,.int 0 0]}) (o:={cls:=.type "enumerate",data:=.fields #[.none,.bool false,.ref (zz9 s),rawInt 0,.none,.none]}) rfl
  rw [hz] at q;exact q
 exact⟨⟨_,he,rfl⟩,h _ he ⟨_,zzB _ (zzX _ rfl),rfl,rfl⟩ λb o x=>zzB _ (zzB _ x)⟩
section
variable{X:Cx}{elts:List Expr}{x1:Nat}{jd:Pos}
noncomputable def N9(K:zz8)(ta:TA):TI:=λσ H R=>ta σ H λvs H1=>∃a xs,vs=[.ref a]/\eE K H1 a xs/\R (PR K a xs) H1
theorem x5{a:Expr}{ta:TA}{p pos:Pos}(hg:Gl X "enumerate")(hm:X.mg "enumerate"=none)(ha:PA X [a] ta)(hs:starEach [a] X.env=[(false,eval a X.env)]:=by rfl):PI X (.Tuple elts x1 jd) (.Call (.Name "enumerate" p) [a] [] pos) (N9 X.K ta):=by
 intro aa s σ H R I h;refine Call_ (dq I hg hm boot_enumerate (PyProof.Rows.callWith_type1 (bD (ha pos aa s σ H _ I h) λus s1 ⟨vs,H1,I1,r1,q1⟩=>?_) hs rfl))
 obtain⟨a,xs,e,hq,q⟩:=q1
 subst e;obtain⟨u,rfl,ru⟩:=vals1 r1
 cases ru;obtain⟨ak,rv,pt,hz⟩:=I1.tuple hq
 refine mh pt λg he hi kp=>wpAny_pyIter_enum he ?_
 have I2:Inv X aa σ H1 {s1 with heap:=g}:=I1.kept (t':=s1.toks) kp
 refine⟨(zz9 s1)+1,[(zz9 s1)+1,(zz9 s1)],_,_,H1,rfl,I2,sD a _ (zz9 s1) xs,⟨⟨_,he⟩,hi⟩,λb hb=>?_,q⟩
 have hb':(zz9 s1)<=b:=by
  rcases zzm.mp hb with z|z
  ·rw [z];exact Nat.le_succ _
  ·rw [zzi.mp z];exact zzE _
 exact I1.lK hb' (I1.bu.fresh hb')
end
def ud{P:Program}{w:World}{K:zz8}{elts:List Expr}{x1:Nat}{pos:Pos}(z:Str)(t:Tok)(e it:Addr):Turn P w K (.Tuple elts x1 pos) (MK z) [e,it] e (λi h=>(∃old,IsEnum h e it i old)/\h.IsStrIter it (strIterType z) z t i) where
 mem:=by simp
 obj:=λi h st b hb=>by
  obtain⟨⟨old,he⟩,o,ho,_,hd⟩:=st
  rcases zzm.mp hb with q|q
  ·subst q;exact⟨_,he,λv q=>by cases q⟩
  ·rw [zzi.mp q];exact⟨o,ho,λv q=>by rw [hd] at q;cases q⟩
 keep:=λi h h' st k=>⟨by obtain⟨old,he⟩:=st.1;exact⟨old,k e (by simp) _ he⟩,by obtain⟨o,q,r⟩:=st.2;exact⟨o,k it (by simp) o q,r⟩⟩
 item:=by
  intro X hP hw hK hc i aa s σ H E I hf st hg;subst hP hw hK;have cQ:i<z.cps.size:=hg
  obtain⟨⟨old,he⟩,hit⟩:=st
  have jh:=hit
  obtain⟨oi,e1,e2,_⟩:=hit
  have EL:e≠it:=fi he e1 (by
   rw [e2];show Value.type "enumerate"≠_;rcases ez z with q|q<;>rw [q]<;>decide+kernel)
  have fin:∀{Sv:Nat->Heap->Prop},Draws X.prog X.w X.A.in1 it [it] z.cps.size (λi v=>∃c u,z.cps[i]?=some c/\v=.str ⟨#[c]⟩ u) Sv->Sv i s.heap->(∀h,Sv (i+1) h->h.IsStrIter it (strIterType z) z t (i+1))->
   wpAny (model X.prog X.w) X.A (pyNext (.ref e)) (λr s1=>∃u,r=some u/\wpAny (model X.prog X.w) X.A (letOwnedTupleGo (.Tuple elts x1 pos) (.ref e) u) (λ_ s2=>∃x H',Inv X aa σ H' s2/\RelV x u/\(MK z).JB i H x H'/\((∃old,IsEnum s2.heap e it (((i+1:Nat)):Int) old)/\s2.heap.IsStrIter it (strIterType z) z t (i+1))/\∀b∈[e,it],H' b=none) E s1) E s:=by
   intro Sv D cO back;refine bD (iG (Gx:=λx=>∃c,x=.str ⟨#[c]⟩/\z.cps[i]?=some c) I D he cO cQ EL (by simp [EL]) hf (λu ⟨c,tk,hc,hu⟩=>⟨.str ⟨#[c]⟩,⟨tk,hu⟩,c,rfl,hc⟩)) λr s1 ⟨u,hr,k⟩=>⟨u,hr,bD k λ_ s2 ⟨x,q,z1,⟨c,z2,z2'⟩,z3,z4,z5,z6,z7,z8⟩=>?_⟩
   subst z2;exact⟨.ref q,_,z6,z1.symm▸rfl,⟨q,c,rfl,z3,rfl,z2'⟩,⟨z7,back _ z8⟩,λb hb=>by
    rcases zzm.mp hb with w|w
    ·rw [w,aj z4];exact(hf e (by simp)).1
    ·rw [zzi.mp w,aj z5];exact(hf it (by simp)).1⟩
  rcases ez z with q|q
  ·rw [q] at jh⊢;rw [q] at fin;exact fin (Draws.strAscii (A:=X.A.in1) (I.ok.hd hc) it z t) jh λh st=>st
  ·rw [q] at jh⊢;rw [q] at fin;exact fin (Draws.strWide (A:=X.A.in1) (I.ok.hd hc) it z t) jh λh st=>st
 done:=by
  intro X hP hw hK hc i aa s σ H E I hf st hg;subst hP hw hK;have hi:i=z.cps.size:=hg
  subst hi;obtain⟨⟨old,he⟩,hit⟩:=st
  obtain⟨g0,g1,g2,g3,g4,g5⟩:=hf it (by simp)
  rcases ez z with q|q
  ·rw [q] at hit;exact wpAny_pyNext_enum_endD (Draws.strAscii (A:=X.A.in1) (I.ok.hd hc) it z t) he hit λh' eb=>⟨rfl,I.turned (t':=s.toks) (λb o hb q=>eb b o hb q) g0 g1 g3 g4 g5⟩
  ·rw [q] at hit;exact wpAny_pyNext_enum_endD (Draws.strWide (A:=X.A.in1) (I.ok.hd hc) it z t) he hit λh' eb=>⟨rfl,I.turned (t':=s.toks) (λb o hb q=>eb b o hb q) g0 g1 g3 g4 g5⟩
 self:=λ_ _ _ _ _ st h=>by obtain⟨⟨old,he⟩,_⟩:=st;exact wpAny_pyIter_enum he h
section
variable{X:Cx}{elts:List Expr}{x1:Nat}{jd:Pos}
noncomputable def PF(ta:TA):TI:=λσ H R=>ta σ H λvs H1=>∃z,vs=[.str z]/\R (MK z) H1
theorem za{a:Expr}{ta:TA}{p pos:Pos}(hg:Gl X "enumerate")(hm:X.mg "enumerate"=none)(ha:PA X [a] ta)(hs:starEach [a] X.env=[(false,eval a X.env)]:=by rfl):PI X (.Tuple elts x1 jd) (.Call (.Name "enumerate" p) [a] [] pos) (PF ta):=by
 intro aa s σ H R I h;refine Call_ (dq I hg hm boot_enumerate (PyProof.Rows.callWith_type1 (bD (ha pos aa s σ H _ I h) λus s1 ⟨vs,H1,I1,r1,q1⟩=>?_) hs rfl))
 obtain⟨z,e,q⟩:=q1
 subst e;obtain⟨u,rfl,t,rfl⟩:=vals1 r1
 refine call_enumerate_str λg he hi hz kp=>wpAny_pyIter_enum he ?_
 have I2:Inv X aa σ H1 {s1 with heap:=g}:=I1.kept (t':=s1.toks) kp
 refine⟨(zz9 s1)+1,[(zz9 s1)+1,(zz9 s1)],_,_,H1,rfl,I2,ud z t _ (zz9 s1),⟨⟨_,he⟩,hi⟩,λb hb=>?_,q⟩
 have hb':(zz9 s1)<=b:=by
  rcases zzm.mp hb with z|z
  ·rw [z];exact Nat.le_succ _
  ·rw [zzi.mp z];exact zzE _
 exact I1.lK hb' (I1.bu.fresh hb')
end
noncomputable def Gg(K:zz8)(a:Addr)(xs:List V):It:=
 ⟨λi H=>dz K H a xs/\i<xs.length,λi H v H'=>∃p x,v=.ref p/\H p=none/\H'=upd H p (.tup [.int (i:Nat),x])/\xs[i]?=some x,λi H=>dz K H a xs/\i=xs.length⟩
def ua{P:Program}{w:World}{K:zz8}{elts:List Expr}{x1:Nat}{pos:Pos}(a e it:Addr)(xs:List V):Turn P w K (.Tuple elts x1 pos) (Gg K a xs) [e,it] e (λi h=>(∃old,IsEnum h e it i old)/\h.IsListIter it a i) where
 mem:=by simp
 obj:=λi h st b hb=>by
  obtain⟨⟨old,he⟩,o,ho,_,hd⟩:=st
  rcases zzm.mp hb with z|z
  ·subst z;exact⟨_,he,λv q=>by cases q⟩
  ·rw [zzi.mp z];exact⟨o,ho,λv q=>by rw [hd] at q;cases q⟩
 keep:=λi h h' st k=>⟨by obtain⟨old,he⟩:=st.1;exact⟨old,k e (by simp) _ he⟩,st.2.at λo q=>k it (by simp) o q⟩
 item:=by
  intro X hP hw hK hc i aa s σ H E I hf st hg;subst hP hw hK;obtain⟨hq,cQ⟩:=hg
  obtain⟨⟨old,he⟩,hit⟩:=st
  obtain⟨ak,rv,p,hz⟩:=I.list hq
  have hl:=rv.length
  have jh:=hit
  obtain⟨oi,e1,e2,_⟩:=hit
  obtain⟨oa,a1,a2,_⟩:=p.isList
  have yX:a≠it:=fi a1 e1 (by rw [a2,e2];decide+kernel)
  have EL:e≠it:=fi he e1 (by rw [e2];show Value.type "enumerate"≠_;decide+kernel)
  have F2:e≠a:=fi he a1 (by rw [a2];show Value.type "enumerate"≠_;decide+kernel)
  refine bD (iG (Gx:=λx=>xs[i]?=some x) I (Draws.list (A:=X.A.in1) (I.ok.hd hc) it a yX ak.toArray) he ⟨jh,p.isList⟩ (by rw [zzC];omega) EL (by simp [EL,F2]) hf (λu hu=>?_)) λr s1 ⟨u,hr,k⟩=>⟨u,hr,bD k λ_ s2 ⟨x,q,z1,z2,z3,z4,z5,z6,z7,z8⟩=>?_⟩
  ·have Kg:xs[i]?=some xs[i]:=zzg cQ
   obtain⟨u',hu',ru'⟩:=rv.get Kg
   have:ak.toArray[i]?=some u':=by simpa using hu'
   have HY:ak.toArray[i]?=some u:=hu
   rw [this] at HY;cases HY;exact⟨xs[i],ru',Kg⟩
  ·exact⟨.ref q,_,z6,z1.symm▸rfl,⟨q,x,rfl,z3,rfl,z2⟩,⟨z7,z8.1⟩,λb hb=>by
    rcases zzm.mp hb with w|w
    ·rw [w,aj z4];exact(hf e (by simp)).1
    ·rw [zzi.mp w,aj z5];exact(hf it (by simp)).1⟩
 done:=by
  intro X hP hw hK hc i aa s σ H E I hf st hg;subst hP hw hK;obtain⟨hq,rfl⟩:=hg
  obtain⟨⟨old,he⟩,hit⟩:=st
  obtain⟨ak,rv,p,hz⟩:=I.list hq
  have hl:=rv.length
  have jh:=hit
  obtain⟨oi,e1,e2,_⟩:=hit
  obtain⟨oa,a1,a2,_⟩:=p.isList
  have yX:a≠it:=fi a1 e1 (by rw [a2,e2];decide+kernel)
  obtain⟨g0,g1,g2,g3,g4,g5⟩:=hf it (by simp)
  refine wpAny_pyNext_enum_endD (Draws.list (A:=X.A.in1) (I.ok.hd hc) it a yX ak.toArray) he ⟨by rw [zzC,<-hl];exact jh,p.isList⟩ λh' eb=>⟨rfl,I.turned (t':=s.toks) (λb o hb q=>eb b o hb q) g0 g1 g3 g4 g5⟩
 self:=λ_ _ _ _ _ st h=>by obtain⟨⟨old,he⟩,_⟩:=st;exact wpAny_pyIter_enum he h
section
variable{X:Cx}{elts:List Expr}{x1:Nat}{jd:Pos}
noncomputable def N5(K:zz8)(ta:TA):TI:=λσ H R=>ta σ H λvs H1=>∃a xs,vs=[.ref a]/\dz K H1 a xs/\R (Gg K a xs) H1
theorem qR{a:Expr}{ta:TA}{p pos:Pos}(hg:Gl X "enumerate")(hm:X.mg "enumerate"=none)(ha:PA X [a] ta)(hs:starEach [a] X.env=[(false,eval a X.env)]:=by rfl):PI X (.Tuple elts x1 jd) (.Call (.Name "enumerate" p) [a] [] pos) (N5 X.K ta):=by
 intro aa s σ H R I h;refine Call_ (dq I hg hm boot_enumerate (PyProof.Rows.callWith_type1 (bD (ha pos aa s σ H _ I h) λus s1 ⟨vs,H1,I1,r1,q1⟩=>?_) hs rfl))
 obtain⟨a,xs,e,hq,q⟩:=q1
 subst e;obtain⟨u,rfl,ru⟩:=vals1 r1
 cases ru;obtain⟨ak,rv,pt,hz⟩:=I1.list hq
 refine call_enumerate_list pt.isList λg he hi _ kp=>wpAny_pyIter_enum he ?_
 have I2:Inv X aa σ H1 {s1 with heap:=g}:=I1.kept (t':=s1.toks) kp
 refine⟨(zz9 s1)+1,[(zz9 s1)+1,(zz9 s1)],_,_,H1,rfl,I2,ua a _ (zz9 s1) xs,⟨⟨_,he⟩,hi⟩,λb hb=>?_,q⟩
 have hb':(zz9 s1)<=b:=by
  rcases zzm.mp hb with z|z
  ·rw [z];exact Nat.le_succ _
  ·rw [zzi.mp z];exact zzE _
 exact I1.lK hb' (I1.bu.fresh hb')
variable{aa:List (Addr×Obj)}{σ:St}{H:Hp}{s:Shared}{h':Heap}{ch:List Addr}
def Inv.moved{tk:Nat}(I:Inv X aa σ H s)(hf:∀b∈ch,gc X aa H b)(kk:∀b o,b∉ch->s.heap.get? b=some o->h'.get? b=some o):Inv X aa σ H {s with heap:=h',toks:=tk}:=by
 have nX:∀b o,H b=some o->b∉ch:=λb o q z=>by rw [(hf b z).1] at q;cases q
 refine I.step (g':=s.gens) (d':=s.drawn) (ch:=ch) (λb hb=>?_) (λb o _ _ hc q _=>kk b o hc q) (λb o _ _ hc q _=>⟨o.slots,kk b o hc q⟩) (λ_ _ _ _ n=>n)
  (λb o hc q=>⟨o,kk b o hc q⟩) (λb xs q=>q) (λb o u q=>q) (λb ps q=>⟨#[],by rw [q];simp⟩) (λm hm=>?_) (λb o q=>?_) I.bare
 ·obtain⟨f0,f1,f2,f3,f4,f5⟩:=hf b hb
  exact⟨f3,f1,f4,f5⟩
 ·obtain⟨o,es,ep,q,r⟩:=hm
  exact⟨o,es,ep,kk _ o (λz=>(hf _ z).2.1 rfl) q,r⟩
 ·refine(I.bu b o q).gj (λc v hc z=>kk c v ?_ z) (λc z=>z) λc xs z=>z
  rcases hc with z'|z'
  ·rw [z'];exact nX b o q
  ·exact nX c _ z'
end
structure Zd where
 it:Addr
 fp:List Addr
 n:Nat
 P:Nat->Value->Prop
 St:Nat->Heap->Prop
structure Lw(prog:Program)(w:World)(A:Around)(z TI TO:Addr)(ds:List Zd):Prop where
 D:∀d∈ds,Draws prog w A d.it d.fp d.n d.P d.St
 zf:∀d∈ds,z∉d.fp/\TO∉d.fp/\d.it≠z/\d.it≠TO/\d.it≠TI
 ap:ds.Pairwise λa b=>a.it∉b.fp/\b.it∉a.fp
 tz:TI≠z/\TO≠z/\TI≠TO
abbrev gV(h:Heap)(T:Addr)(xs:Array Value):Prop:=h.get? T=some {cls:=.type "tuple",data:=.seq xs}
section
variable{prog:Program}{w:World}{A:Around}{E:Value->Shared->Prop}{s:Shared}{z TI TO:Addr}{ds:List Zd}{k:Nat}
def NZ(z TI TO:Addr)(k:Nat)(h0:Heap)(ds:List Zd)(rest:List (Value×Nat))(h:Heap):Prop:=
 ∃dn lf xs ys,ds=dn++lf/\rest=(lf.map λd=>Value.ref d.it).zipIdx dn.length/\Paired (λd x=>d.P k x) dn xs/\ys.length=lf.length/\IsZip h z TI TO .ellipsis/\gV h TO (xs++ys).toArray/\
  (∀d∈dn,d.St (k+1) h)/\(∀d∈lf,d.St k h)/\h.objs.size=h0.objs.size/\∀c o,c≠z->c≠TO->(∀d∈ds,c≠d.it)->h0.get? c=some o->h.get? c=some o
def qf{Q:Fin->Shared->Prop}(Z:Lw prog w A z TI TO ds)(hl:ds.length<=9)(eB:ds≠[])(hz:IsZip s.heap z TI TO .none)(Ts:gV s.heap TI (ds.map λd=>Value.ref d.it).toArray)(Tf:∃c,gV s.heap TO c/\c.size=ds.length)(hs:∀d∈ds,d.St k s.heap/\k<=d.n)
 (hQ:∀h' tk xs,Paired (λd x=>d.P k x) ds xs->IsZip h' z TI TO (rawInt (zz9 s))->(∃c,gV h' TO c/\c.size=ds.length)->(∀d∈ds,d.St (k+1) h')->gV h' (zz9 s) xs.toArray->h'.objs.size=(zz9 s)+1->
  (∀c o,c≠z->c≠TO->(∀d∈ds,c≠d.it)->s.heap.get? c=some o->h'.get? c=some o)->Q (.done (.ret (.ref (zz9 s)))) {s with heap:=h',toks:=tk})
 (hE:∀h' tk e,(∃d∈ds,d.n<=k)->(∀c o,c≠z->c≠TO->(∀d∈ds,c≠d.it)->s.heap.get? c=some o->h'.get? c=some o)->(∃o,h'.get? e=some o/\o.cls=.type "StopIteration")->E (.ref e) {s with heap:=h',toks:=tk}):
 wpAny (model prog w) A (Builtin.«zip.__next__» ⟨[.ref z],[]⟩) Q E s:=by
 obtain⟨t1,t2,t3⟩:=Z.tz
 show wpAny _ _ (field (.ref z) 2>>=_) _ _ _
 refine zzA (wpAny_field hz rfl (x:=.bool false) rfl ?_);show wpAny _ _ (field (.ref z) 3>>=_) _ _ _;refine zzA (wpAny_field hz rfl (x:=.ref TI) rfl ?_);refine zzA (wpAny_seqItems Ts rfl ?_);have O7:(ds.map λd=>Value.ref d.it).toArray.isEmpty=false:=by cases ds<;>simp_all
 simp! [O7,zze,if_false];show wpAny _ _ (Builtin.SmallTypes.ownedTupleIsFree (.ref z)>>=_) _ _ _;refine zzA ?_;unfold Builtin.SmallTypes.ownedTupleIsFree;refine zzA (wpAny_field hz rfl (x:=.none) rfl (zzG ?_));simp! [if_true];refine zzA (wpAny_rule ?_);refine zzA (wpAny_field hz rfl (x:=.ref TO) rfl ?_);refine zzA (wpAny_setField_rec hz (by simp) λh₁ hz₁ hs₁=>?_)
 replace hz₁:IsZip h₁ z TI TO .ellipsis:=hz₁
 refine zzA ?_;obtain⟨c,hc,NO⟩:=Tf
 have JG:∀{h h':Heap},Heap.SameBut z h h'->∀d∈ds,∀{i},d.St i h->d.St i h':=λsb d hd i q=>(Z.D d hd).frame _ _ _ q λb hb o e=>sb.extBut b o (λx=>(Z.zf d hd).1 (x▸hb)) e
 refine wpAny_forIn_list _ (λrest b s'=>b=⟨none,PUnit.unit⟩/\∃h tk,s'={s with heap:=h,toks:=tk}/\NZ z TI TO k s.heap ds rest h) _ ?_ ?_ _ _ ⟨rfl,h₁,s.toks,rfl,[],ds,[],c.toList,rfl,rfl,.nil,by simpa using NO,hz₁,?_,(λd hd=>nomatch hd),(λd hd=>JG hs₁ d hd (hs d hd).1),hs₁.1,λc o h1 _ _ e=>hs₁.extBut _ _ h1 e⟩
 ·rintro ⟨Ml,j⟩ rest b s' ⟨rfl,h,tk,rfl,dn,lf,xs,ys,rfl,hr,pr,hyl,hzh,hto,sd,sl,hsz,kk⟩
  cases lf with
  |nil=>cases hr
  |cons d lf=>
   simp! [zzF,List.zipIdx_cons,List.cons.injEq,Prod.mk.injEq] at hr;obtain⟨⟨rfl,rfl⟩,rfl⟩:=hr
   have hd:d∈dn++d::lf:=by simp
   have D:=Z.D d hd
   obtain⟨f1,f2,f3,f4,f5⟩:=Z.zf d hd
   refine zzA (wpAny_onRaise ?_);show wpAny _ _ (Builtin.SmallTypes.nextOf (.ref d.it)>>=_) _ _ _;have Ql:∀a∈dn++lf,d.it∉a.fp/\a.it∉d.fp:=λa ha=>by
    have q:=List.pairwise_append.1 Z.ap
    rcases List.mem_append.1 ha with ha|ha
    ·exact(q.2.2 a ha d (zzP ..)).symm
    ·exact(List.pairwise_cons.1 q.2.1).1 a ha
   by_cases hk:k<d.n
   ·refine zzA (D.item k _ _ _ hk (sl d (zzP ..)) λx h2 Tr px O4 sb=>zzG ?_)
    have G9:gV h2 TO (xs++ys).toArray:=sb.extBut _ _ (Ne.symm f4) hto
    refine zzA (wpAny_seqItems G9 rfl ?_);have lx:=Paired.length pr
    obtain⟨y,yr,rfl⟩:∃y yr,ys=y::yr:=by cases ys with|nil=>cases hyl|cons y yr=>exact⟨y,yr,rfl⟩
    have Km:(xs++y::yr).toArray.size<=sizeLine:=by
     have:(xs++y::yr).toArray.size<=9:=by simp! [zzC,zzM,zzL] at hyl hl⊢;omega
     exact zzU this (by decide)
    refine zzA (wpAny_updateSeq G9 rfl ?_ Km (by rw [Array.size_setIfInBounds];exact Nat.le_succ_of_le Km));refine zzA (wpAny_letGo (zzG ?_));have JD:Heap.SameBut TO h2 (h2.update TO (Obj.mapSeq λv=>v.setIfInBounds dn.length x)):=zzu ..
    have N8:gV (h2.update TO (Obj.mapSeq λv=>v.setIfInBounds dn.length x)) TO (xs++[x]++yr).toArray:=by
     show Heap.get? _ TO=_
     rw [Heap.get?_update_self _ G9 rfl];have:(xs++y::yr).toArray.setIfInBounds dn.length x=(xs++[x]++yr).toArray:=by
      rw [List.setIfInBounds_toArray,lx,List.set_append_right _ _ (zzE _),Nat.sub_self,List.set_cons_zero];simp
     have ls:((xs++[x]++yr).toArray.size==(xs++y::yr).toArray.size)=true:=by simp
     simp! [Obj.mapSeq,this,ls,if_true]
    refine⟨rfl,_,Tr,rfl,dn++[d],lf,xs++[x],yr,by simp,by simp,Paired.snoc pr px,by simpa using hyl,?_,N8,λa ha=>?_,λa ha=>?_,?_,λc o c1 c2 c3 e=>?_⟩
    ·exact JD.extBut _ _ (Ne.symm t2) (sb.extBut _ _ (Ne.symm f3) hzh)
    ·rcases List.mem_append.1 ha with ha|ha
     ·refine(Z.D a (by simp [ha])).frame _ _ _ (sd a ha) λb hb o e=>JD.extBut _ _ (λq=>(Z.zf a (by simp [ha])).2.1 (q▸hb)) (sb.extBut _ _ (λq=>(Ql a (by simp [ha])).1 (q▸hb)) e)
     ·rw [zzi.1 ha];exact D.frame _ _ _ O4 λb hb o e=>JD.extBut _ _ (λq=>f2 (q▸hb)) e
    ·refine(Z.D a (by simp [ha])).frame _ _ _ (sl a (zzI _ ha)) λb hb o e=>JD.extBut _ _ (λq=>(Z.zf a (by simp [ha])).2.1 (q▸hb)) (sb.extBut _ _ (λq=>(Ql a (by simp [ha])).1 (q▸hb)) e)
    ·rw [JD.1,sb.1,hsz]
    ·exact JD.extBut _ _ c2 (sb.extBut _ _ (c3 d hd) (kk c o c1 c2 c3 e))
   ·have hn:d.n=k:=Nat.le_antisymm (Nat.le_of_not_lt hk) (hs d hd).2
    refine zzA (D.done _ _ _ (by rw [hn];exact sl d (zzP ..)) λh2 e eb he=>?_)
    obtain⟨oe,hoe,hce⟩:=he
    have MS:IsZip h2 z TI TO .ellipsis:=eb _ _ (Ne.symm f3) hzh
    have TM:e≠z:=λq=>by subst q;rw [MS] at hoe;cases hoe;simp at hce
    exact wpAny_setField_rec MS (by simp) λh3 _ RR=>hE h3 tk e ⟨d,hd,Nat.le_of_eq hn⟩ (λc o c1 c2 c3 q=>RR.extBut _ _ c1 (eb _ _ (c3 d hd) (kk c o c1 c2 c3 q))) ⟨oe,RR.extBut _ _ TM hoe,hce⟩
 ·rintro b s' ⟨rfl,h,tk,rfl,dn,lf,xs,ys,rfl,hr,pr,hyl,hzh,hto,sd,sl,hsz,kk⟩
  obtain rfl:lf=[]:=by cases lf with|nil=>rfl|cons d lf=>cases hr
  obtain rfl:ys=[]:=List.eq_nil_of_length_eq_zero hyl
  simp! [zz6] at hto hQ Z kk hl;have lx:=Paired.length pr
  refine zzA (wpAny_seqItems hto rfl ?_);refine zzA (wpAny_newTuple ?_ (zzU (m:=9) (by show xs.length<=9;omega) (by decide)));show wpAny _ _ (Builtin.SmallTypes.ownedTupleHandOut (.ref z) (.ref h.objs.size)>>=_) _ _ _;refine zzA ?_;unfold Builtin.SmallTypes.ownedTupleHandOut;have P7:z<h.objs.size:=zzO hzh
  have SJ:IsZip (h.push {cls:=.type "tuple",data:=.seq xs.toArray}) z TI TO .ellipsis:=zzB _ hzh
  refine zzA (wpAny_setField_rec SJ (by simp) λh7 PH Pa=>?_)
  replace PH:IsZip h7 z TI TO (rawInt h.objs.size):=PH
  refine wpAny_setField_rec PH (by simp) λh8 MV Nw=>?_
  replace MV:IsZip h8 z TI TO (rawInt h.objs.size):=MV
  have up:∀c o,c≠z->h.get? c=some o->h8.get? c=some o:=λc o c1 e=>Nw.extBut _ _ c1 (Pa.extBut _ _ c1 (zzB _ e))
  have Rl:gV h8 h.objs.size xs.toArray:=Nw.extBut _ _ (Nat.ne_of_gt P7) (Pa.extBut _ _ (Nat.ne_of_gt P7) (zzX _ rfl))
  have Qu:h8.objs.size=h.objs.size+1:=by rw [Nw.1,Pa.1,Heap.size_push]
  rw [hsz] at MV Rl Qu;refine zzG ?_;show Q (.done (.ret (.ref h.objs.size))) _;rw [hsz];exact hQ h8 tk xs pr MV ⟨_,up _ _ t2 hto,by simp [lx]⟩ (λd hd=>(Z.D d hd).frame _ _ _ (sd d hd) λb hb o e=>up b o (λq=>(Z.zf d hd).1 (q▸hb)) e) Rl Qu λc o c1 c2 c3 e=>up c o c1 (kk c o c1 c2 c3 e)
 ·show gV h₁ TO _
  exact hs₁.extBut _ _ t2 (by simpa using hc)
variable{X:Cx}{aa:List (Addr×Obj)}{σ:St}{H:Hp}{h':Heap}{ch:List Addr}
def Inv.zt{tk:Nat}{xs:List V}{us:List Value}{ob:Obj}{n:Nat}(I:Inv X aa σ H s)(hf:∀b∈ch,gc X aa H b)(kk:∀b o,b∉ch->s.heap.get? b=some o->h'.get? b=some o)
 (hp:h'.get? (zz9 s)=some ob) (hc:ob.cls=.type "tuple") (hd:ob.data=.seq us.toArray n) (rx:Vals xs us) (hl:xs.length<=sizeLine):Inv X aa σ (upd H (zz9 s) (.tup xs)) {s with heap:=h',toks:=tk}:=by
 have nX:∀b o,H b=some o->b∉ch/\b≠(zz9 s):=λb o q=>⟨(λz=>(by rw [(hf b z).1] at q;cases q)),zzb (I.bu.lt q)⟩
 refine I.step (g':=s.gens) (d':=s.drawn) (ch:=ch) (λb hb=>?_) (λb o _ _ hc q _=>kk b o hc q) (λb o _ _ hc q _=>⟨o.slots,kk b o hc q⟩) (λb o _ q nb=>by rw [aj (zzb (zzO q))];exact nb)
  (λb o hc q=>⟨o,kk b o hc q⟩) (λb xs q=>by rw [aj (nX b _ q).2];exact q) (λb o u q=>by rw [aj (nX b _ q).2];exact q) (λb ps q=>⟨#[],by rw [aj (nX b _ q).2,q];simp⟩) (λm hm=>?_) (λb o q=>?_) I.bare
 ·obtain⟨f0,f1,f2,f3,f4,f5⟩:=hf b hb
  exact⟨f3,f1,f4,f5⟩
 ·obtain⟨o,es,ep,q,r⟩:=hm
  exact⟨o,es,ep,kk _ o (λz=>(hf _ z).2.1 rfl) q,r⟩
 ·by_cases hb:b=(zz9 s)
  ·subst hb;rw [ax] at q;cases q;exact⟨hl,us,rx,⟨_,hp,hc,_,hd⟩⟩
  ·rw [aj hb] at q;refine(I.bu b o q).gj (λc v hc z=>kk c v ?_ z) (λc z=>by rw [aj (nX c _ z).2];exact z) λc xs z=>by rw [aj (nX c _ z).2];exact z
   rcases hc with z'|z'
   ·rw [z'];exact(nX b o q).1
   ·exact(nX c _ z').1
end
structure Zs where
 it:Addr
 b:Bool
 a:Addr
 xs:List V
def Zs.iter(q:Zs)(i:Nat)(h:Heap):Prop:=if q.b=true then h.IsListIter q.it q.a i else h.IsTupleIter q.it q.a i
abbrev Zt:=Bool×Addr×List V
def Zs.t(q:Zs):Zt:=(q.b,q.a,q.xs)
def Zq(K:zz8)(H:Hp)(q:Zt):Prop:=if q.1=true then dz K H q.2.1 q.2.2 else eE K H q.2.1 q.2.2
def Zs.sq(K:zz8)(H:Hp)(q:Zs):Prop:=if q.b=true then dz K H q.a q.xs else eE K H q.a q.xs
def Zs.uH{q:Zs}{i:Nat}{h h':Heap}(st:q.iter i h)(k:∀o,h.get? q.it=some o->h'.get? q.it=some o):q.iter i h':=by
 unfold Zs.iter at st⊢;split
 ·rename_i e;rw [if_pos e] at st;exact st.at k
 ·rename_i e;rw [if_neg e] at st;exact st.at k
def Zs.qO{q:Zs}{i:Nat}{h:Heap}(st:q.iter i h):∃o,h.get? q.it=some o/\∀v,o.data≠.cell v:=by
 unfold Zs.iter at st;split at st
 ·obtain⟨o,ho,_,hd⟩:=st;exact⟨o,ho,λv z=>by rw [hd] at z;cases z⟩
 ·obtain⟨o,ho,_,hd⟩:=st;exact⟨o,ho,λv z=>by rw [hd] at z;cases z⟩
noncomputable def OP(K:zz8)(ts:List Zt):It:=
 ⟨λi H=>∀q∈ts,Zq K H q/\i<q.2.2.length,λi H v H'=>∃p ys,v=.ref p/\H p=none/\H'=upd H p (.tup ys)/\Paired (λ(q:Zt) y=>q.2.2[i]?=some y) ts ys,
  λi H=>(∀q∈ts,Zq K H q/\i<=q.2.2.length)/\∃q∈ts,q.2.2.length=i⟩
structure zd(prog:Program)(w:World)(A:Around)(i:Nat)(h:Heap)(q:Zs)(d:Zd):Prop where
 it:d.it=q.it
 fp:d.fp=[q.it,q.a]
 n:d.n=q.xs.length
 D:Draws prog w A d.it d.fp d.n d.P d.St
 st:d.St i h
 back:∀j g,d.St j g->q.iter j g
 val:∀j u,d.P j u->∃x,RelV x u/\q.xs[j]?=some x
section
variable{X:Cx}{aa:List (Addr×Obj)}{σ:St}{H:Hp}{s:Shared}
def xW{xs:List V}{ak:List Value}(rv:Vals xs ak)(j:Nat)(u:Value)(hu:ak.toArray[j]?=some u):∃x,RelV x u/\xs[j]?=some x:=by
 have hu:ak[j]?=some u:=by simpa using hu
 have hj:j<xs.length:=by rw [rv.length];exact(zzH.mp hu).1
 obtain⟨u',hu',ru'⟩:=rv.get (zzg hj)
 rw [hu] at hu';cases hu';exact⟨_,ru',zzg hj⟩
def LM(hc:X.calm=true)(I:Inv X aa σ H s){q:Zs}{i:Nat}(eB:q.a≠q.it)(h:q.sq X.K H)(st:q.iter i s.heap):∃d,zd X.prog X.w X.A.in1 i s.heap q d:=by
 unfold Zs.sq at h;unfold Zs.iter at st;cases hb:q.b with
 |true=>
  rw [if_pos hb] at h st;obtain⟨ak,rv,p,_⟩:=I.list h
  refine⟨⟨q.it,[q.it,q.a],ak.toArray.size,_,_⟩,rfl,rfl,?_,Draws.list (A:=X.A.in1) (I.ok.hd hc) q.it q.a eB ak.toArray,⟨st,p.isList⟩,λj g z=>?_,xW rv⟩
  ·rw [zzC,<-rv.length]
  ·unfold Zs.iter;rw [if_pos hb];exact z.1
 |false=>
  have hb':¬q.b=true:=by rw [hb];exact zzf
  rw [if_neg hb'] at h st;obtain⟨ak,rv,p,_⟩:=I.tuple h
  refine⟨⟨q.it,[q.it,q.a],ak.toArray.size,_,_⟩,rfl,rfl,?_,iO (A:=X.A.in1) (I.ok.hd hc) q.it q.a eB ak.toArray,⟨st,p⟩,λj g z=>?_,xW rv⟩
  ·rw [zzC,<-rv.length]
  ·unfold Zs.iter;rw [if_neg hb'];exact z.1
theorem sE(hc:X.calm=true)(I:Inv X aa σ H s){i:Nat}:∀{qs:List Zs},(∀q∈qs,q.a≠q.it/\q.sq X.K H/\q.iter i s.heap)->∃ds,Paired (zd X.prog X.w X.A.in1 i s.heap) qs ds
 |[],_=>⟨[],.nil⟩
 |q::qs,h=>by
  obtain⟨h1,h2,h3⟩:=h q (zzP ..)
  obtain⟨d,hd⟩:=LM hc I h1 h2 h3
  obtain⟨ds,hds⟩:=sE hc I (qs:=qs) λr hr=>h r (zzI _ hr)
  exact⟨d::ds,.cons hd hds⟩
variable{α β:Type}{R:α->β->Prop}
theorem cC:∀{l:List α} {m:List β},Paired R l m->∀b∈m,∃a∈l,R a b
 |_,_,.cons h t,b,hb=>by
  rcases zzm.1 hb with rfl|hb
  ·exact⟨_,zzP ..,h⟩
  ·obtain⟨a,h1,h2⟩:=cC t b hb
   exact⟨a,zzI _ h1,h2⟩
theorem eR:∀{l:List α} {m:List β},Paired R l m->∀a∈l,∃b∈m,R a b
 |_,_,.cons h t,b,hb=>by
  rcases zzm.1 hb with rfl|hb
  ·exact⟨_,zzP ..,h⟩
  ·obtain⟨a,h1,h2⟩:=eR t b hb
   exact⟨a,zzI _ h1,h2⟩
theorem mU{S:α->α->Prop}{T:β->β->Prop}(h:∀a a' b b',R a b->R a' b'->S a a'->T b b'):∀{l:List α} {m:List β},Paired R l m->l.Pairwise S->m.Pairwise T
 |_,_,.nil,_=>.nil
 |_,_,.cons r t,p=>by
  obtain⟨p1,p2⟩:=List.pairwise_cons.1 p
  refine List.pairwise_cons.2 ⟨λb hb=>?_,mU h t p2⟩
  obtain⟨a,h1,h2⟩:=cC t b hb
  exact h _ _ _ _ r h2 (p1 a h1)
end
structure Od(z TI TO:Addr)(qs:List Zs):Prop where
 tz:TI≠z/\TO≠z/\TI≠TO
 ne:qs≠[]
 len:qs.length<=9
 it:∀q∈qs,q.it≠z/\q.it≠TO/\q.it≠TI
 a:∀q∈qs,q.a≠z/\q.a≠TO/\∀r∈qs,q.a≠r.it
 pw:qs.Pairwise λa b=>a.it≠b.it
def S6(z TI TO:Addr)(qs:List Zs)(i:Nat)(h:Heap):Prop:=IsZip h z TI TO .none/\gV h TI (qs.map λq=>Value.ref q.it).toArray/\(∃c,gV h TO c/\c.size=qs.length)/\∀q∈qs,q.iter i h
def xw{prog:Program}{w:World}{A:Around}{i:Nat}{h:Heap}{z TI TO:Addr}{qs:List Zs}{ds:List Zd}(Z:Od z TI TO qs)(p:Paired (zd prog w A i h) qs ds):Lw prog w A z TI TO ds where
 D:=λd hd=>by obtain⟨q,_,r⟩:=cC p d hd;exact r.D
 zf:=λd hd=>by
  obtain⟨q,hq,r⟩:=cC p d hd
  obtain⟨a1,a2,a3⟩:=Z.it q hq
  obtain⟨b1,b2,_⟩:=Z.a q hq
  rw [r.fp,r.it];simp! [zzm,List.not_mem_nil,or_false,not_or];exact⟨⟨Ne.symm a1,Ne.symm b1⟩,⟨Ne.symm a2,Ne.symm b2⟩,a1,a2,a3⟩
 ap:=by
  have q:qs.Pairwise λa b=>a.it≠b.it/\a.it≠b.a/\b.it≠a.a:=by
   refine List.Pairwise.imp_of_mem (λ{a b} ha hb h=>⟨h,λz=>(Z.a b hb).2.2 a ha z.symm,λz=>(Z.a a ha).2.2 b hb z.symm⟩) Z.pw
  refine mU (λa a' b b' r r' ⟨h1,h2,h3⟩=>?_) p q;rw [r.fp,r'.fp,r.it,r'.it];simp! [zzm,List.not_mem_nil,or_false,not_or];exact⟨⟨h1,h2⟩,Ne.symm h1,h3⟩
 tz:=Z.tz
theorem gJ{prog:Program}{w:World}{A:Around}{i:Nat}{h:Heap}:∀{qs:List Zs} {ds:List Zd},Paired (zd prog w A i h) qs ds->(qs.map λq=>Value.ref q.it)=ds.map λd=>Value.ref d.it
 |_,_,.nil=>rfl
 |_,_,.cons r t=>by rw [zzF,zzF,r.it,gJ t]
theorem kU{prog:Program}{w:World}{A:Around}{i:Nat}{h:Heap}:∀{qs:List Zs} {ds:List Zd} {us:List Value},Paired (zd prog w A i h) qs ds->Paired (λd x=>d.P i x) ds us->∃ys,Vals ys us/\Paired (λ(q:Zt) y=>q.2.2[i]?=some y) (qs.map Zs.t) ys
 |_,_,_,.nil,.nil=>⟨[],.nil,.nil⟩
 |_,_,_,.cons r t,.cons u v=>by
  obtain⟨x,h1,h2⟩:=r.val i _ u
  obtain⟨ys,h3,h4⟩:=kU t v
  exact⟨x::ys,.cons h1 h3,.cons h2 h4⟩
def wu{P:Program}{w:World}{K:zz8}{elts:List Expr}{x1:Nat}{pos:Pos}{z TI TO:Addr}{qs:List Zs}(Z:Od z TI TO qs):
 Turn P w K (.Tuple elts x1 pos) (OP K (qs.map Zs.t)) (z::TI::TO::qs.map (·.it)) z (S6 z TI TO qs) where
 mem:=by simp
 obj:=λi h st c hc=>by
  obtain⟨q1,q2,⟨_,q3,_⟩,q4⟩:=st
  simp! [zzm,zzx] at hc;rcases hc with rfl|rfl|rfl|⟨q,hq,rfl⟩
  ·exact⟨_,q1,λv q=>by cases q⟩
  ·exact⟨_,q2,λv q=>by cases q⟩
  ·exact⟨_,q3,λv q=>by cases q⟩
  ·exact Zs.qO (q4 q hq)
 keep:=λi h h' st k=>by
  obtain⟨q1,q2,⟨c,q3,q5⟩,q4⟩:=st
  exact⟨k z (by simp) _ q1,k TI (by simp) _ q2,⟨c,k TO (by simp) _ q3,q5⟩,λq hq=>Zs.uH (q4 q hq) λo e=>k q.it (by simp;exact .inr (.inr (.inr ⟨q,hq,rfl⟩))) o e⟩
 item:=by
  intro X hP hw hK hc i aa s σ H E I hf st hg;subst hP hw hK;replace hg:∀q∈qs,q.sq X.K H/\i<q.xs.length:=λq hq=>hg q.t (List.mem_map_of_mem hq)
  obtain⟨q1,q2,⟨c,q3,q5⟩,q4⟩:=st
  obtain⟨ds,pd⟩:=sE hc I λq hq=>⟨(Z.a q hq).2.2 q hq,(hg q hq).1,q4 q hq⟩
  have hT:s.TypeIs (.ref z) "zip":=⟨_,q1,rfl⟩
  have len:=Paired.length pd
  have vG:H (zz9 s)=none:=I.bu.fresh (zzE _)
  have lt:∀b∈z::TI::TO::qs.map (·.it),b<(zz9 s):=λb hb=>by
   simp! [zzm,zzx] at hb;rcases hb with rfl|rfl|rfl|⟨q,hq,rfl⟩
   ·exact zzO q1
   ·exact zzO q2
   ·exact zzO q3
   ·obtain⟨o,ho,_⟩:=Zs.qO (q4 q hq);exact zzO ho
  unfold pyNext;refine zzA (wpAny_attempt (wpAny_callSpecial?_slot (name:=Str.ofString "__next__") hT PySem.F.slot_zip_next (wpAny_call_entry PySem.F.slot_zip_next hT PySem.F.entry_zip_next
   (qf (k:=i) (xw Z pd) (by rw [<-len];exact Z.len) (by have:=Z.ne;intro e;subst e;cases pd;exact this rfl) q1 (by rw [<-gJ pd];exact q2) ⟨c,q3,by rw [<-len];exact q5⟩ (λd hd=>by obtain⟨q,hq,r⟩:=cC pd d hd;exact⟨r.st,by rw [r.n];exact Nat.le_of_lt (hg q hq).2⟩)
    (λh' tk us pu z1 z2 z3 z4 z5 kk=>⟨_,rfl,zzG ?_⟩) λh' tk e hex _ _=>?_) (PySem.F.args_zip_next_1 _))))
  ·obtain⟨ys,rv,py⟩:=kU pd pu
   have N7:∀b∈z::TO::qs.map (·.it),gc X aa H b:=λb hb=>hf b (by simp! [zzm] at hb⊢;rcases hb with h|h|h<;>simp [h])
   have I1:=Inv.zt (tk:=tk) (xs:=ys) I N7 (λb o hb e=>kk b o (λq=>hb (by simp [q])) (λq=>hb (by simp [q])) (λd hd q=>hb (by obtain⟨q',l8,r⟩:=cC pd d hd;simp! [zzm,zzx];exact .inr (.inr ⟨q',l8,by rw [q,r.it]⟩))) e) z4 rfl rfl rv (zzU (m:=9) (by have h1:=Paired.length py;have:=Z.len;rw [zzl] at h1;omega) (by decide))
   refine⟨_,rfl,wpAny_letOwnedTupleGo_zip z1 λh2 MS sb=>?_⟩
   obtain⟨f0,f1,f2,f3,f4,f5⟩:=hf z (by simp)
   have nz:z≠(zz9 s):=zzb (lt z (by simp))
   refine⟨.ref (zz9 s),_,I1.turned (t':=tk) (it:=z) (λb o hb q=>sb.extBut b o hb q) (by rw [aj nz];exact f0) f1 f3 f4 f5,rfl,⟨_,_,rfl,vG,rfl,py⟩,⟨MS,?_,?_,λq hq=>?_⟩,λb hb=>?_⟩
   ·exact sb.extBut _ _ Z.tz.1 (kk _ _ Z.tz.1 Z.tz.2.2 (λd hd=>by obtain⟨q,hq,r⟩:=cC pd d hd;rw [r.it];exact Ne.symm (Z.it q hq).2.2) q2)
   ·obtain⟨c',e1,e2⟩:=z2
    exact⟨c',sb.extBut _ _ Z.tz.2.1 e1,by rw [e2,len]⟩
   ·obtain⟨d,hd,r⟩:=eR pd q hq
    exact Zs.uH (r.back _ _ (z3 d hd)) λo e=>sb.extBut _ _ (Z.it q hq).1 e
   ·rw [aj (zzb (lt b hb))];exact(hf b hb).1
  ·obtain⟨d,hd,hn⟩:=hex
   obtain⟨q,hq,r⟩:=cC pd d hd
   have:=(hg q hq).2
   rw [r.n] at hn;omega
 done:=by
  intro X hP hw hK hc i aa s σ H E I hf st hg;subst hP hw hK;obtain⟨hg,t0,ht0,hn0⟩:=hg
  replace hg:∀q∈qs,q.sq X.K H/\i<=q.xs.length:=λq hq=>hg q.t (List.mem_map_of_mem hq)
  obtain⟨q1,q2,⟨c,q3,q5⟩,q4⟩:=st
  obtain⟨ds,pd⟩:=sE hc I λq hq=>⟨(Z.a q hq).2.2 q hq,(hg q hq).1,q4 q hq⟩
  have hT:s.TypeIs (.ref z) "zip":=⟨_,q1,rfl⟩
  have len:=Paired.length pd
  unfold pyNext;refine zzA (wpAny_attempt (wpAny_callSpecial?_slot (name:=Str.ofString "__next__") hT PySem.F.slot_zip_next (wpAny_call_entry PySem.F.slot_zip_next hT PySem.F.entry_zip_next
   (qf (k:=i) (xw Z pd) (by rw [<-len];exact Z.len) (by have:=Z.ne;intro e;subst e;cases pd;exact this rfl) q1 (by rw [<-gJ pd];exact q2) ⟨c,q3,by rw [<-len];exact q5⟩ (λd hd=>by obtain⟨q,hq,r⟩:=cC pd d hd;exact⟨r.st,by rw [r.n];exact(hg q hq).2⟩)
    (λh' tk us pu z1 z2 z3 z4 z5 kk=>?_) λh' tk e hex kk he=>?_) (PySem.F.args_zip_next_1 _))))
  ·obtain⟨ys,rv,py⟩:=kU pd pu
   obtain⟨y,_,hy⟩:=eR py t0 ht0
   have:=(zzH.1 hy).1
   omega
  ·obtain⟨o,ho,p9⟩:=he
   refine zzA (wpAny_isInstance (T:="StopIteration") (b:=true) ⟨o,ho,p9⟩ isSubtype_stop ?_);have N7:∀b∈z::TO::qs.map (·.it),gc X aa H b:=λb hb=>hf b (by simp! [zzm] at hb⊢;rcases hb with h|h|h<;>simp [h])
   exact zzG ⟨rfl,Inv.moved (tk:=tk) I N7 λb o hb e=>kk b o (λq=>hb (by simp [q])) (λq=>hb (by simp [q])) (λd hd q=>hb (by obtain⟨q',l8,r⟩:=cC pd d hd;simp! [zzm,zzx];exact .inr (.inr ⟨q',l8,by rw [q,r.it]⟩))) e⟩
 self:=λ_ _ _ _ _ st h=>wpAny_pyIter_zip st.1 h
def kA(a b c:Value):checkTypeCall "zip" ⟨[a,b,c],[]⟩=pure ():=by kernel_rfl
def mC(a b c:Value):checkBuiltinCall "zip.__new__" ⟨[.type "zip",a,b,c],[]⟩=pure ():=by kernel_rfl
def gE(a b c d:Value):argsOk "object.__init__" ⟨[a,b,c,d],[]⟩:=by
 unfold argsOk;rw [signature?_of (n:=['_','_','t','i','n','i','_','_']) (by kernel_rfl) PySem.F.owner_object]
 kernel_rfl
def Src(h:Heap)(b:Bool)(a:Addr):Prop:=if b=true then∃ak,h.IsList a ak else∃ak,h.IsTuple a ak
def SU(b:Bool):String:=if b=true then "list_iterator" else "tuple_iterator"
def Src.push{h:Heap}{b:Bool}{a:Addr}(q:Src h b a)(o:Obj):Src (h.push o) b a:=by
 unfold Src at q⊢;split
 ·rename_i e;rw [if_pos e] at q;obtain⟨ak,q⟩:=q;exact⟨ak,q.push o⟩
 ·rename_i e;rw [if_neg e] at q;obtain⟨ak,o',e1,r⟩:=q;exact⟨ak,o',zzB _ e1,r⟩
def LV(b:Bool)(a:Addr):Obj:={cls:=.type (SU b),data:=.fields #[.ref a,.int 0 0]}
section
variable{prog:Program}{w:World}{A:Around}{E:Value->Shared->Prop}{s:Shared}
def tm{b:Bool}{a:Addr}{Q:Value->Shared->Prop}(h:Src s.heap b a)(q:Q (.ref (zz9 s)) {s with heap:=s.heap.push (LV b a)}):wpAny (model prog w) A (pyIter (.ref a)) Q E s:=by
 cases b with
 |true=>obtain⟨ak,h⟩:=h;exact wpAny_pyIter_list h q
 |false=>obtain⟨ak,h⟩:=h;exact wpAny_pyIter_tuple h q
end
def fQ(h:Heap)(qs:List (Bool×Addr)):Heap:=qs.foldl (λg q=>g.push (LV q.1 q.2)) h
def gM(qs:List (Bool×Addr)):∀h:Heap,(fQ h qs).objs.size=h.objs.size+qs.length:=by
 induction qs with
 |nil=>exact λh=>rfl
 |cons q qs ih=>intro h;rw [fQ,List.foldl_cons,<-fQ,ih,Heap.size_push,zzL];omega
section
variable{prog:Program}{w:World}{A:Around}{E:Value->Shared->Prop}{s:Shared}
def q9{Q:List Value->Shared->Prop}:∀(qs:List (Bool×Addr)),(∀q∈qs,Src s.heap q.1 q.2)->Q ((List.range qs.length).map λi=>Value.ref ((zz9 s)+i)) {s with heap:=fQ s.heap qs}->
 wpAny (model prog w) A (Builtin.SmallTypes.iterAll (qs.map λq=>Value.ref q.2)) Q E s:=by
 intro qs hq h;unfold Builtin.SmallTypes.iterAll;refine zzA ?_;refine wpAny_forIn_list _ (λrest (b:Array Value) s'=>∃dn lf,qs=dn++lf/\rest=lf.map (λq=>Value.ref q.2)/\b.toList=(List.range dn.length).map (λi=>Value.ref ((zz9 s)+i))/\s'={s with heap:=fQ s.heap dn}) _ ?_ ?_ _ _ ⟨[],qs,rfl,rfl,rfl,rfl⟩
 ·rintro x rest b s' ⟨dn,lf,rfl,hr,hb,rfl⟩
  cases lf with
  |nil=>cases hr
  |cons q lf=>
   simp! [zzF,List.cons.injEq] at hr;obtain⟨rfl,rfl⟩:=hr
   have hs:∀(l:List (Bool×Addr)) (g:Heap),Src g q.1 q.2->Src (fQ g l) q.1 q.2:=λl=>by
    induction l with
    |nil=>exact λg h=>h
    |cons r l ih=>exact λg h=>ih _ (h.push _)
   refine zzA (wpAny_holding (tm (hs dn _ (hq q (by simp))) ?_));refine zzG ⟨dn++[q],lf,by simp,rfl,?_,?_⟩
   ·rw [Array.toList_push,hb,zzM,List.length_singleton,List.range_succ,List.map_append];simp [gM]
   ·simp [fQ,List.foldl_append]
 ·rintro b s' ⟨dn,lf,rfl,hr,hb,rfl⟩
  obtain rfl:lf=[]:=by cases lf with|nil=>rfl|cons q lf=>cases hr
  refine zzG ?_;rw [hb]
  simpa using h
end
theorem pj{h:Heap}{o:Obj}{n:Addr}(e:h.objs.size=n)(f:o.isFreed=false:=by rfl):(h.push o).get? n=some o:=e▸zzX h f
noncomputable def fj(h:Heap)(qs:List (Bool×Addr)):Heap:=
 (((fQ h qs).push {cls:=.type "tuple",data:=.seq ((List.range qs.length).map λi=>Value.ref (h.objs.size+i)).toArray}).push {cls:=.type "tuple",data:=.seq (((List.range qs.length).map λi=>Value.ref (h.objs.size+i)).map λ_=>Value.none).toArray}).push
   {cls:=.type "zip",data:=.fields #[.none,.bool false,.bool false,.ref (h.objs.size+qs.length),.ref (h.objs.size+qs.length+1)]}
theorem z9(qs:List (Bool×Addr))(hl:qs.length<=9):
 Meets (Builtin.«zip.__new__» ⟨.type "zip"::qs.map (λq=>Value.ref q.2),[]⟩) (λ_ R s=>(∀q∈qs,Src s.heap q.1 q.2)/\R (.ok (.ret (.ref ((zz9 s)+qs.length+2)))) {s with heap:=fj s.heap qs}):=
 .of_wp λprog w A R s h=>by
  obtain⟨hs,h⟩:=h
  have OI:=sub_zip
  have fit:∀l:List Value,l.length=qs.length->l.length<=sizeLine:=λl e=>zzU (m:=9) (by omega) (by decide)
  show wpAny _ _ (Builtin.SmallTypes.newClass "zip" _>>=_) _ _ s
  unfold Builtin.SmallTypes.newClass
  wp_walk using q9 qs hs
  rw [if_neg (by rw [zzC];exact Nat.not_lt.2 (fit _ (by simp)))]
  wp_walk
  rw [if_neg (by rw [zzC];exact Nat.not_lt.2 (fit _ (by simp)))]
  wp_walk
  refine⟨_,rfl,?_⟩;simp! [Heap.size_push,gM];exact h
def m6(qs:List (Bool×Addr)):∀(h:Heap) (c:Addr) (o:Obj),h.get? c=some o->(fQ h qs).get? c=some o:=by
 induction qs with
 |nil=>exact λh c o e=>e
 |cons q qs ih=>exact λh c o e=>ih _ c o (zzB _ e)
theorem rj:∀(qs:List (Bool×Addr)) (h:Heap) (i:Nat) (q:Bool×Addr),qs[i]?=some q->(fQ h qs).get? (h.objs.size+i)=some (LV q.1 q.2)
 |q::qs,h,0,r,e=>by
  cases e;exact m6 qs _ _ _ (zzX _ rfl)
 |q::qs,h,i+1,r,e=>by
  have:=rj qs (h.push (LV q.1 q.2)) i r (by simpa using e)
  rw [Heap.size_push] at this;rw [show h.objs.size+(i+1)=h.objs.size+1+i by omega];exact this
section
variable{prog:Program}{w:World}{A:Around}{E:Value->Shared->Prop}{s:Shared}
def wB{qs:List (Bool×Addr)}{Q:Value->Shared->Prop}(hl:qs.length<=9)(hs:∀q∈qs,Src s.heap q.1 q.2)(h1:checkTypeCall "zip" ⟨qs.map (λq=>Value.ref q.2),[]⟩=pure ())(h2:checkBuiltinCall "zip.__new__" ⟨.type "zip"::qs.map (λq=>Value.ref q.2),[]⟩=pure ())(h3:∀obj,argsOk "object.__init__" ⟨obj::qs.map (λq=>Value.ref q.2),[]⟩)
 (h:IsZip (fj s.heap qs) ((zz9 s)+qs.length+2) ((zz9 s)+qs.length) ((zz9 s)+qs.length+1) .none->gV (fj s.heap qs) ((zz9 s)+qs.length) ((List.range qs.length).map λi=>Value.ref ((zz9 s)+i)).toArray->(∃c,gV (fj s.heap qs) ((zz9 s)+qs.length+1) c/\c.size=qs.length)->
  (∀i q,qs[i]?=some q->(fj s.heap qs).get? ((zz9 s)+i)=some (LV q.1 q.2))->(∀c o,s.heap.get? c=some o->(fj s.heap qs).get? c=some o)->Q (.ref ((zz9 s)+qs.length+2)) {s with heap:=fj s.heap qs}):
 wpAny (model prog w) A (call (.type "zip") (qs.map λq=>Value.ref q.2)) Q E s:=by
 have z0:=gM qs s.heap
 have up:∀c o,(fQ s.heap qs).get? c=some o->(fj s.heap qs).get? c=some o:=λc o e=>zzB _ (zzB _ (zzB _ e))
 have g5:IsZip (fj s.heap qs) ((zz9 s)+qs.length+2) ((zz9 s)+qs.length) ((zz9 s)+qs.length+1) .none:=pj (by rw [Heap.size_push,Heap.size_push,z0])
 have g3:gV (fj s.heap qs) ((zz9 s)+qs.length) ((List.range qs.length).map λi=>Value.ref ((zz9 s)+i)).toArray:=zzB _ (zzB _ (pj z0))
 have g4:gV (fj s.heap qs) ((zz9 s)+qs.length+1) (((List.range qs.length).map λi=>Value.ref ((zz9 s)+i)).map λ_=>Value.none).toArray:=zzB _ (pj (by rw [Heap.size_push,z0]))
 exact callType_new PySem.F.called_zip (by decide) h1 h2 h3 PySem.F.entry_zip_new (z9 qs hl) ⟨hs,⟨_,g5,rfl⟩,h g5 g3 ⟨_,g4,by simp⟩ (λi q e=>up _ _ (rj qs _ i q e)) λc o e=>up _ _ (m6 qs _ c o e)⟩
end
theorem mQ:∀{ts:List Zt} {us:List Value},Vals (ts.map λt=>V.ref t.2.1) us->us=ts.map λt=>Value.ref t.2.1
 |[],_,.nil=>rfl
 |t::ts,_,.cons h r=>by
  cases h;rw [mQ r]
  rfl
section
variable{X:Cx}{elts:List Expr}{x1:Nat}{jd:Pos}
noncomputable def Mb(K:zz8)(ta:TA):TI:=λσ H R=>ta σ H λvs H1=>∃ts:List Zt,vs=ts.map (λt=>.ref t.2.1)/\(ts.length=2\/ts.length=3)/\(∀t∈ts,Zq K H1 t)/\R (OP K ts) H1
def D9{e:Expr}{es:List Expr}{ta:TA}{p pos:Pos}(hg:Gl X "zip")(hm:X.mg "zip"=none)(ha:PA X (e::es) ta)(he:starEach (e::es) X.env=(false,eval e X.env)::starEach es X.env)(hp:(backTo pos (starEach es X.env)).any (·.1)=false):
 PI X (.Tuple elts x1 jd) (.Call (.Name "zip" p) (e::es) [] pos) (Mb X.K ta):=by
 intro aa s σ H R I h;refine Call_ (dq I hg hm (show bootBuiltins "zip"=some (.type "zip") by decide+kernel) (PyProof.Rows.callWith_type1 (bD (ha pos aa s σ H _ I h) λus s1 ⟨vs,H1,I1,r1,q1⟩=>?_) he hp))
 obtain⟨ts,rfl,hn,hq,q⟩:=q1
 obtain rfl:=mQ r1
 have l9:ts.length<=9:=by omega
 have lm:(ts.map λt=>(t.1,t.2.1)).length=ts.length:=zzl ..
 have em:(ts.map λt=>Value.ref t.2.1)=(ts.map λt=>(t.1,t.2.1)).map λq=>Value.ref q.2:=by rw [List.map_map];rfl
 have src:∀t∈ts,Src s1.heap t.1 t.2.1/\t.2.1<(zz9 s1):=λt ht=>by
  have:=hq t ht
  unfold Zq at this;unfold Src;cases hb:t.1 with
  |true=>
   rw [if_pos hb] at this;obtain⟨ak,_,pl,_⟩:=I1.list this
   exact⟨⟨_,pl.isList⟩,by obtain⟨_,e,_⟩:=pl.isList;exact zzO e⟩
  |false=>
   rw [if_neg (by rw [hb];exact zzf)] at this;obtain⟨ak,_,pl,_⟩:=I1.tuple this
   exact⟨⟨_,pl⟩,by obtain⟨_,e,_⟩:=pl;exact zzO e⟩
 have go:∀l,(l=2\/l=3)->ts.length=l->checkTypeCall "zip" ⟨ts.map (λt=>Value.ref t.2.1),[]⟩=pure ()/\checkBuiltinCall "zip.__new__" ⟨.type "zip"::ts.map (λt=>Value.ref t.2.1),[]⟩=pure ()/\∀obj,argsOk "object.__init__" ⟨obj::ts.map (λt=>Value.ref t.2.1),[]⟩:=λl hl e=>by
  rcases hl with rfl|rfl
  ·match ts,e with
   |[a,b],_=>exact⟨PySem.F.typeCall_zip_2 _ _,PySem.F.newCall_zip_2 _ _,λobj=>PySem.F.args_object_init_3 obj _ _⟩
  ·match ts,e with
   |[a,b,c],_=>exact⟨kA _ _ _,mC _ _ _,λobj=>gE obj _ _ _⟩
 obtain⟨c1,c2,c3⟩:=go _ hn rfl
 rw [em] at c1 c2 c3⊢;refine wB (by rw [lm];exact l9) (λq l8=>by obtain⟨t,ht,rfl⟩:=zzx.1 l8;exact(src t ht).1) c1 c2 c3 λa1 a2 a3 a4 kk=>wpAny_pyIter_zip a1 ?_
 rw [lm] at a1 a2 a3;have I2:Inv X aa σ H1 {s1 with heap:=fj s1.heap (ts.map λt=>(t.1,t.2.1))}:=I1.kept (t':=s1.toks) kk
 have eqs:(ts.zipIdx.map λp=>(⟨(zz9 s1)+p.2,p.1.1,p.1.2.1,p.1.2.2⟩:Zs)).map Zs.t=ts:=by
  rw [List.map_map];refine List.ext_getElem (by simp) λi h1 h2=>?_
  simp [Zs.t]
 have mq:∀q∈ts.zipIdx.map λp=>(⟨(zz9 s1)+p.2,p.1.1,p.1.2.1,p.1.2.2⟩:Zs),∃i,i<ts.length/\ts[i]?=some q.t/\q.it=(zz9 s1)+i:=λq l8=>by
  obtain⟨⟨t,i⟩,OX,rfl⟩:=zzx.1 l8
  have:=List.mem_zipIdx_iff_getElem?.1 OX
  exact⟨i,(zzH.1 this).1,this,rfl⟩
 have Z:Od ((zz9 s1)+ts.length+2) ((zz9 s1)+ts.length) ((zz9 s1)+ts.length+1) (ts.zipIdx.map λp=>(⟨(zz9 s1)+p.2,p.1.1,p.1.2.1,p.1.2.2⟩:Zs)):=by
  refine⟨⟨zzb (by show _<_;omega),zzb (by show _<_;omega),zzb (by show _<_;omega)⟩,λz=>?_,by simpa using l9,λq l8=>?_,λq l8=>?_,?_⟩
  ·have:=congrArg List.length z
   simp! [zzl,List.length_zipIdx,List.length_nil] at this;omega
  ·obtain⟨i,h1,_,h3⟩:=mq q l8
   rw [h3];exact⟨zzb (by show _<_;omega),zzb (by show _<_;omega),zzb (by show _<_;omega)⟩
  ·obtain⟨i,h1,h2,h3⟩:=mq q l8
   have h4:q.a<(zz9 s1):=(src q.t (zzD h2)).2
   refine⟨zzb (zzW h4 (by show _<=_;omega)),zzb (zzW h4 (by show _<=_;omega)),λr hr=>?_⟩
   obtain⟨j,_,_,h5⟩:=mq r hr
   rw [h5];exact zzb (zzW h4 (by show _<=_;omega))
  ·refine List.pairwise_map.2 ?_;refine List.pairwise_iff_getElem.2 λi j hi hj Hu=>?_
   simp! [List.getElem_zipIdx];exact zzb (by show _<_;omega)
 have T:=wu (P:=X.prog) (w:=X.w) (K:=X.K) (elts:=elts) (x1:=x1) (pos:=jd) Z
 rw [eqs] at T;refine⟨_,_,_,_,H1,by rw [lm],I2,T,⟨a1,?_,?_,λq l8=>?_⟩,λb hb=>?_,q⟩
 ·have:(ts.zipIdx.map λp=>(⟨(zz9 s1)+p.2,p.1.1,p.1.2.1,p.1.2.2⟩:Zs)).map (λq=>Value.ref q.it)=(List.range ts.length).map λi=>Value.ref ((zz9 s1)+i):=by
   refine List.ext_getElem (by simp) λi h1 h2=>?_
   simp
  rw [this];exact a2
 ·obtain⟨c,h1,h2⟩:=a3
  exact⟨c,h1,by simpa using h2⟩
 ·obtain⟨i,h1,h2,h3⟩:=mq q l8
  have:=a4 i (q.b,q.a) (by rw [zzQ,h2];rfl)
  unfold Zs.iter;rw [h3];cases hb:q.b with
  |true=>rw [hb] at this;exact⟨_,this,rfl,rfl⟩
  |false=>rw [hb] at this;exact⟨_,this,rfl,rfl⟩
 ·have hb':(zz9 s1)<=b:=by
   simp! [zzm,zzx] at hb;rcases hb with e|e|e|⟨q,l8,e⟩
   ·rw [e];exact zzU (Nat.le_add_right _ _) (Nat.le_add_right _ _)
   ·rw [e];exact Nat.le_add_right _ _
   ·rw [e];exact zzU (Nat.le_add_right _ _) (Nat.le_add_right _ _)
   ·obtain⟨i,_,_,h3⟩:=mq q (zzx.2 l8)
    rw [<-e,h3];exact Nat.le_add_right _ _
  exact I1.lK hb' (I1.bu.fresh hb')
end
def sI:typeLookup (.type "list_reverseiterator") "__len__"=pure none:=by rw [typeLookup_type,builtinLookup_eq_fast];kernel_rfl
def Ab:typeLookup (.type "list_reverseiterator") "__length_hint__"=pure (some (.builtin "list_reverseiterator.__length_hint__")):=by rw [typeLookup_type,builtinLookup_eq_fast];kernel_rfl
section
variable{prog:Program}{w:World}{A:Around}{E:Value->Shared->Prop}{s:Shared}
def A3{R:Result->Shared->Prop}(hh:A.handled=none){I l:Addr}(eB:l≠I){items:Array Value}(hit:s.heap.IsRevIter I l ((items.size:Int)-1))(hl:s.heap.IsList l items)(S:Addr)(LW:S≠I)(Mr:S≠l)(res:Value)(c₀:Nat)(hS:s.heap.get? S=some {cls:=.type "list",data:=.seq #[] c₀})
 (hR:∀h' tk dH c',(∀b o,b≠S->b≠I->s.heap.get? b=some o->h'.get? b=some o)->h'.get? S=some {cls:=.type "list",dict:=none,data:=.seq dH c',slots:=#[]}->
  ItemsOf (λi v=>items[items.size-1-i]?=some v) dH items.size->R (.ok (.ret res)) {s with heap:=h',toks:=tk}) (hn:items.size<=sizeLine):
 wpAny (model prog w) A.in1 (Builtin.List.listExtendWith (.ref S) (.ref I) res)
  (λfin s'=>match fin with|.done f=>R (.ok f) s'|.again c'=>c'.quiet=true/\codeAny (model prog w) A c' R s') (λe s'=>R (.error e) s') s:=by
 have Tx:S∉[I,l]:=λhm=>by
  rcases zzm.mp hm with e|hm
  ·exact LW e
  ·exact Mr (zzi.mp hm)
 unfold Builtin.List.listExtendWith;refine zzA (wpAny_typeOf hit.typeIs ?_);have h1:Builtin.List.listSameRef (.ref S) (.ref I)=false:=by simp [Builtin.List.listSameRef,LW]
 have h2:(Value.type "list_reverseiterator"==Value.type "list")=false:=by decide
 have h3:(Value.type "list_reverseiterator"==Value.type "tuple")=false:=by decide
 simp! [h1,h2,h3,Bool.or_false,zze,if_false];refine zzA (wpAny_pyIter_revIter hit ?_);refine zzA (wpAny_holding ?_);unfold Builtin.List.listLengthHint;refine zzA (wpAny_specialOf hit.typeIs sI ?_);show wpAny _ A.in1 (specialOf (Value.ref I) (Str.ofString "__length_hint__")>>=_) _ _ _;refine zzA (wpAny_specialOf hit.typeIs Ab ?_)
 wp_delta
 refine zzA (wpAny_isInstance (T:="list_reverseiterator") (v:=.ref I) (b:=true) hit.typeIs (by rw [isSubtype_type];kernel_rfl) ?_);refine zzG ?_;rw [if_neg (by decide)];refine zzG ⟨plainId_quiet F.plain_extend_loop _,codeAny_extend_loopS (Walks.listRev (prog:=prog) (w:=w) (A:=A.in1) hh I l eB items).toS hn _ Tx _ items.size 0 _ _ _ rfl (Nat.zero_le _) ⟨Nat.zero_le _,by simpa using hit,hl⟩ hS (ItemsOf.nil _) λs' dH c' hm rQ p5=>?_⟩
 rw [Moved.eq_with hm];refine hR s'.heap s'.toks dH c' (λb ob hb Ov e=>hm.heap b ob (λhmem=>?_) e) rQ p5
 rcases zzm.mp hmem with e'|hmem
 ·exact hb e'
 ·exact Ov (zzi.mp hmem)
def yG{R:Result->Shared->Prop}(hh:A.handled=none){I l:Addr}(eB:l≠I){items:Array Value}(hit:s.heap.IsRevIter I l ((items.size:Int)-1))(hl:s.heap.IsList l items)(S:Addr)(LW:S≠I)(Mr:S≠l)(hS:s.heap.get? S=some {cls:=.type "list",data:=.seq #[]})
 (hR:∀h' tk dH c',(∀b o,b≠S->b≠I->s.heap.get? b=some o->h'.get? b=some o)->h'.get? S=some {cls:=.type "list",dict:=none,data:=.seq dH c',slots:=#[]}->
  ItemsOf (λi v=>items[items.size-1-i]?=some v) dH items.size->R (.ok (.ret .none)) {s with heap:=h',toks:=tk}) (hn:items.size<=sizeLine):
 wpAny (model prog w) A.in1 (Builtin.«list.__init__» ⟨[.ref S,.ref I],[]⟩)
  (λfin s'=>match fin with|.done f=>R (.ok f) s'|.again c'=>c'.quiet=true/\codeAny (model prog w) A c' R s') (λe s'=>R (.error e) s') s:=by
 show wpAny _ _ (do let old<-Builtin.List.listItems (.ref S);Builtin.List.listUpdate (.ref S) (λ_=>#[]);letGo old.toList.reverse;Builtin.List.listExtendWith (.ref S) (.ref I) .none) _ _ s
 refine zzA ?_;unfold Builtin.List.listItems;refine zzA (wpAny_seqItems hS rfl (zzG ?_));show wpAny _ _ (updateSeq S (λ_=>#[])>>=λ_=>letGo (#[]:Array Value).toList.reverse>>=λ_=>Builtin.List.listExtendWith (.ref S) (.ref I) .none) _ _ s
 refine zzA (wpAny_updateSeq hS rfl ?_);have hS₂:=Heap.get?_update_self (Obj.mapSeq (λ_=>(#[]:Array Value))) hS rfl
 have NM:∀b o,b≠S->s.heap.get? b=some o->(s.heap.update S (Obj.mapSeq (λ_=>(#[]:Array Value)))).get? b=some o:=
  λb o hb e=>(Heap.get?_update_other _ _ (Ne.symm hb)).trans e
 refine zzA (wpAny_letGo ?_);refine A3 (hn:=hn) hh eB (hit.at λo e=>NM _ _ (Ne.symm LW) e) (hl.at λo e=>NM _ _ (Ne.symm Mr) e) S LW Mr .none _ hS₂ λh' tk dH c' hk rQ p5=>?_
 exact hR h' tk dH c' (λb o hb Ov e=>hk b o hb Ov (NM b o hb e)) rQ p5
def mP{Q:Value->Shared->Prop}(hh:A.handled=none){I l:Addr}(eB:l≠I){items:Array Value}(hit:s.heap.IsRevIter I l ((items.size:Int)-1))(hl:s.heap.IsList l items)
 (hQ:∀h' tk dH c',(∀b o,b≠I->s.heap.get? b=some o->h'.get? b=some o)->
  h'.get? (zz9 s)=some {cls:=.type "list",dict:=none,data:=.seq dH c',slots:=#[]}->ItemsOf (λi v=>items[items.size-1-i]?=some v) dH items.size->Q (.ref (zz9 s)) {s with heap:=h',toks:=tk}) (hn:items.size<=sizeLine):
 wpAny (model prog w) A (call (.type "list") [.ref I]) Q E s:=by
 refine callType_codes (Q₁:=λobj s₁=>obj=.ref (zz9 s)/\s₁={s with heap:=s.heap.push {cls:=.type "list",data:=.seq #[]}}) F.called_list (F.typeCall_list_1 _) F.entry_list_init
  (code_list_new _ ⟨rfl,rfl⟩) λobj s₁ h₁=>?_
 obtain⟨rfl,rfl⟩:=h₁
 have hS:(s.heap.push {cls:=.type "list",data:=.seq #[]}).get? (zz9 s)=some {cls:=.type "list",data:=.seq #[]}:=zzX _ rfl
 have n1:(zz9 s)≠I:=λe=>let⟨o,ho,_⟩:=hit;absurd (zzO ho) (by rw [e];exact Nat.lt_irrefl _)
 have n2:(zz9 s)≠l:=λe=>let⟨o,ho,_⟩:=hl;absurd (zzO ho) (by rw [e];exact Nat.lt_irrefl _)
 refine⟨⟨_,hS,rfl⟩,F.args_list_init_2 _ _,yG (A:=A.in1) (hn:=hn) hh eB (hit.at λo e=>zzB _ e) (hl.at λo e=>zzB _ e) _ n1 n2 hS λh' tk dH c' hk rQ p5=>?_⟩
 exact⟨rfl,hQ h' tk dH c' (λb o hb e=>hk b o (zzb (zzO e)) hb (zzB _ e)) rQ p5⟩
variable{X:Cx}{e:Expr}{te:TE}{p1 p2 pos y9:Pos}
noncomputable def Sy(K:zz8)(te:TE):TE:=λσ H Q=>te σ H λx H1=>∃l vs,x=.ref l/\dz K H1 l vs/\∀p,H1 p=none->Q (.ref p) (upd H1 p (.lst vs.reverse))
def Lp(xs:List V)(P:V->Prop):Prop:=match xs with
 |[x]=>P x
 |_=>False
def Dc{xs:List V}{P:V->Prop}(h:Lp xs P):∃x,xs=[x]/\P x:=by
 cases xs with
 |nil=>exact h.elim
 |cons x r=>
  cases r with
  |nil=>exact⟨x,rfl,h⟩
  |cons _ _=>exact h.elim
def zq{vs:List V}{us:List Value}(r:Vals vs us):Vals vs.reverse us.reverse:=by
 induction r with
 |nil=>exact .nil
 |cons h t ih=>
  rw [List.reverse_cons,List.reverse_cons];exact ih.append (.cons h .nil)
def sJ(hc:X.calm=true)(hg:Gl X "list")(hm:X.mg "list"=none)(Pn:Gl X "reversed")(Lu:X.mg "reversed"=none)(h:PE X e te)(he:starEach [e] X.env=(false,eval e X.env)::starEach [] X.env):
 PE X (.Call (.Name "list" p1) [.Call (.Name "reversed" p2) [e] [] y9] [] pos) (Sy X.K te):=by
 intro aa s σ H Q I q;refine wpAny_Call_Name_kw (dq I hg hm (u:=.type "list") (by decide+kernel) ?_);refine PyProof.Rows.callWith_type1 ?_ rfl rfl;show wpAny _ _ (spliced ((false,eval (.Call (.Name "reversed" p2) [e] [] y9) X.env)::backTo pos (starEach [] X.env))) _ _ s;refine Calls.spliced_cons ?_;refine wpAny_Call_Name_kw (dq I Pn Lu (u:=.type "reversed") (by decide+kernel) ?_);refine PyProof.Rows.callWith_type1 (bD (bS h c8 he y9 aa s σ H (λxs H1=>Lp xs λx=>∃l vs,x=.ref l/\dz X.K H1 l vs/\∀p,H1 p=none->Q (.ref p) (upd H1 p (.lst vs.reverse))) I q) λus s1 ⟨xs,H1,I1,r1,q1⟩=>?_) he rfl
 ·obtain⟨x,rfl,l,vs,rfl,hq,q1⟩:=Dc q1
  obtain⟨u,rfl,rx⟩:=vals1 r1
  cases rx;obtain⟨ak,r',pl,hz⟩:=I1.list hq
  have hlen:=r'.length
  refine call_reversed_list pl.isList ?_;refine Calls.spliced_nil ?_;have hn:ak.toArray.size<=sizeLine:=by simp! [zzC]<;>omega
  obtain⟨ol,hol,_⟩:=id pl.isList
  have eB:l≠(zz9 s1):=λz=>absurd (zzO hol) (by rw [z];exact Nat.lt_irrefl _)
  refine mP (I1.ok.hd hc) eB ⟨_,zzX _ rfl,rfl,rfl⟩ (pl.isList.at λo z=>zzB _ z) (λh' tk dH c' kp e ha=>?_) hn;have p5:dH.toList=ak.reverse:=by
   refine List.ext_getElem? λi=>?_
   by_cases hi:i<ak.length
   ·rw [List.getElem?_reverse hi];have hs:dH.size=ak.length:=by rw [ha.1];simp
    have LQ:i<dH.size:=by omega
    have:=ha.2 i dH[i] (zz2 LQ)
    rw [Array.getElem?_toList,zz2 LQ,<-this];simp
   ·rw [List.getElem?_eq_none (by rw [zzd,ha.1];simpa using hi),List.getElem?_eq_none (by rw [List.length_reverse];omega)]
  have rv:Vals vs.reverse dH.toList:=by rw [p5];exact zq r'
  exact⟨.ref ((zz9 s1)+1),_,I1.laid (t':=tk) (a:=(zz9 s1)+1) (λb o z=>kp b o (zzb (zzO z)) (zzB _ z)) (Nat.le_succ _) (show bT X.prog X.w _ h' _ (.lst _) from⟨by rw [List.length_reverse];exact hz,dH.toList,c',rv,by simpa using e⟩),by rw [Heap.size_push];rfl,q1 _ (I1.bu.fresh (Nat.le_succ _))⟩
end
noncomputable def Nd(K:zz8)(a:Addr)(xs:List V):It:=
 ⟨λi H=>dz K H a xs/\i<xs.length,λi H x H'=>H'=H/\xs[xs.length-1-i]?=some x,λi H=>dz K H a xs/\i=xs.length⟩
def xO{P:Program}{w:World}{K:zz8}{tg:Expr}(a it:Addr)(xs:List V):Turn P w K tg (Nd K a xs) [it] it (λi h=>h.IsRevIter it a ((xs.length:Int)-1-i)) where
 mem:=by simp
 obj:=λi h st b hb=>by
  obtain⟨o,e,c,d⟩:=st
  rw [zzi.1 hb];exact⟨o,e,λv z=>by rw [d] at z;cases z⟩
 keep:=λi h h' st k=>st.at λo e=>k it (by simp) o e
 item:=by
  intro X hP hw hK hc i aa s σ H E I hf st hg;subst hP hw hK;obtain⟨hq,cQ⟩:=hg
  have hx:xs[xs.length-1-i]?=some xs[xs.length-1-i]:=zzg (by omega)
  obtain⟨ak,rv,p,hz⟩:=I.list hq
  obtain⟨u,hu,ru⟩:=rv.get hx
  obtain⟨f0,f1,f2,f3,f4,f5⟩:=hf it (by simp)
  have xE:s.heap.IsRevIter it a ((xs.length-1-i:Nat):Int):=by rw [show((xs.length-1-i:Nat):Int)=(xs.length:Int)-1-i by omega];exact st
  refine wpAny_pyNext_rev_item xE p.isList (x:=u) (by simpa using hu) λh' iY sb=>?_
  have I1:Inv X aa σ H {s with heap:=h'}:=I.turned (t':=s.toks) (λb o hb e=>(sb.2 b hb).trans e) f0 f1 f3 f4 f5
  obtain⟨o,e,c,d⟩:=id iY
  refine⟨u,rfl,qB (s:={s with heap:=h'}) e c d (by decide) ⟨_,H,I1,ru,⟨rfl,hx⟩,?_,λb hb=>(hf b hb).1⟩⟩
  rw [show(xs.length:Int)-1-((i+1:Nat):Int)=((xs.length-1-i:Nat):Int)-1 by omega];exact iY
 done:=by
  intro X hP hw hK hc i aa s σ H E I hf st hg;subst hP hw hK;obtain⟨hq,rfl⟩:=hg
  obtain⟨f0,f1,f2,f3,f4,f5⟩:=hf it (by simp)
  have xE:s.heap.IsRevIter it a (-1):=by rw [show(-1:Int)=(xs.length:Int)-1-xs.length by omega];exact st
  exact wpAny_pyNext_rev_end (I.ok.hd hc) xE λh' eb=>⟨rfl,I.turned (t':=s.toks) (λb o hb q=>eb b o hb q) f0 f1 f3 f4 f5⟩
 self:=λ_ _ _ _ _ st h=>wpAny_pyIter_revIter st h
section
variable{X:Cx}{tg:Expr}
noncomputable def Oz(K:zz8)(ta:TA):TI:=λσ H R=>ta σ H λvs H1=>∃a xs,vs=[.ref a]/\dz K H1 a xs/\R (Nd K a xs) H1
def CB{a:Expr}{ta:TA}{p pos:Pos}(hg:Gl X "reversed")(hm:X.mg "reversed"=none)(ha:PA X [a] ta)(hs:starEach [a] X.env=(false,eval a X.env)::starEach [] X.env):PI X tg (.Call (.Name "reversed" p) [a] [] pos) (Oz X.K ta):=by
 intro aa s σ H R I h;refine Call_ (dq I hg hm (show bootBuiltins "reversed"=some (.type "reversed") by decide+kernel) (PyProof.Rows.callWith_type1 (bD (ha pos aa s σ H _ I h) λus s1 ⟨vs,H1,I1,r1,q1⟩=>?_) hs rfl))
 obtain⟨l,xs,rfl,hq,q⟩:=q1
 obtain⟨u,rfl,ru⟩:=vals1 r1
 cases ru;obtain⟨ak,rv,pl,_⟩:=I1.list hq
 refine call_reversed_list pl.isList (wpAny_pyIter_revIter ⟨_,zzX _ rfl,rfl,rfl⟩ ?_);refine⟨(zz9 s1),[(zz9 s1)],_,_,H1,rfl,I1.kept (t':=s1.toks) λb o e=>zzB _ e,xO l _ xs,⟨_,zzX _ rfl,rfl,?_⟩,λb hb=>?_,q⟩
 ·rw [zzC,<-rv.length,show(xs.length:Int)-1-((0:Nat):Int)=(xs.length:Int)-1 by omega]
  rfl
 ·rw [zzi.1 hb];exact I1.lK (zzE _) (I1.bu.fresh (zzE _))
end
end L2
namespace Ci
open PySem L2
structure Hs where
 f:Str
 h:Str
 g:Str
 idx:List Nat
 np:Nat
structure Pg where
 gs:List (Str×PV)
 bs:List Str
 cs:List Str
 fs:List Str
 rs:List Str
 hs:List Hs:=[]
 hl:Bool:=false
def fv(sc:Scope)(x:Str):Bool:=sc.names.lookup x==some .local||sc.names.lookup x==some .cell
def ff(sc:Scope)(x:Str):Bool:=fv sc x||sc.names.lookup x==some .free
def fq(sc:Scope)(x:Str):Bool:=sc.names.lookup x==some .globalImplicit
def litS:List PV->List PV->Bool
 |[],[]=>true
 |.str x::xs,.str y::ys=>x==y&&litS xs ys
 |_,_=>false
def uT:PV->PV->Bool
 |.int i,.int j=>i==j
 |.str x,.str y=>x==y
 |.tup xs,.tup ys=>litS xs ys
 |_,_=>false
theorem litS_eq:∀{xs ys:List PV},litS xs ys=true->xs=ys
 |[],[],_=>rfl
 |.str x::xs,.str y::ys,h=>by
  unfold litS at h;rw [zza] at h;rw [zzy.mp h.1,litS_eq h.2]
def yN{p q:PV}(h:uT p q=true):p=q:=by
 unfold uT at h;split at h
 ·rw [zzy.mp h]
 ·rw [zzy.mp h]
 ·rw [litS_eq h]
 ·cases h
noncomputable def bN:B->Str
 |.len=>"len"|.abs=>"abs"|.max2=>"max"|.min2=>"min"|.int=>"int"|.str=>"str"|.list=>"list"|.tuple=>"tuple"|.all=>"all"|.dict=>"dict"|.any=>"any"
def fk:E->Bool
 |.hV _=>false
 |_=>true
def kK:Es->Bool
 |.nil=>true
 |.cons e es=>fk e&&kK es
def D2:I->Bool
 |.seq e=>fk e
 |.mG _=>true
 |.pI _ _=>true
 |.enum e=>fk e
 |.zip _=>true
 |.sC _=>true
def isNil:Es->Bool
 |.nil=>true
 |_=>false
def gB:Es->Nat
 |.nil=>0
 |.cons _ es=>gB es+1
def zB:Expr->Option (List Expr)
 |.Tuple es _ _=>some es
 |_=>none
def jz{e:Expr}{es:List Expr}(h:zB e=some es):∃k p,e=.Tuple es k p:=by
 cases e with
 |Tuple es k p=>cases h;exact⟨_,_,rfl⟩
 |_=>exact fZ h
def vU{α:Type}:List α->Option (α×α)
 |[a,b]=>some (a,b)
 |_=>none
def CF{α:Type}{ts:List α}{q:α×α}(h:vU ts=some q):ts=[q.1,q.2]:=by
 cases ts with
 |nil=>exact fZ h
 |cons a ts=>
  cases ts with
  |nil=>exact fZ h
  |cons b ts=>
   cases ts with
   |cons _ _=>exact fZ h
   |nil=>cases h;rfl
def N4(N:List Str)(sc:Scope)(fn:Str->Bool)(i:Nat)(p:Expr):Bool:=(gF p).any λx=>N[i]?==some x&&fv sc x&&(fn x||sc.names.lookup x==some .local)
noncomputable def Ae(N:List Str)(sc:Scope)(fn:Str->Bool):List Nat->List Expr->Bool
 |i::is,a::as=>N4 N sc fn i a&&Ae N sc fn is as
 |[],[]=>true
 |_,_=>false
noncomputable def gC(N:List Str)(sc:Scope)(fn:Str->Bool):Tg->Expr->Bool
 |.one i,p=>N4 N sc fn i p
 |.two i j,p=>(zB p).any (Ae N sc fn [i,j])
 |.three i j k,p=>(zB p).any (Ae N sc fn [i,j,k])
 |.four i j k l,p=>(zB p).any (Ae N sc fn [i,j,k,l])
noncomputable def aG:Expr->List Str
 |.Name x _=>[x]
 |.Tuple [.Name x _,.Name y _] _ _=>[x,y]
 |.Tuple [.Name x _,.Name y _,.Name z _] _ _=>[x,y,z]
 |.Tuple [.Name x _,.Tuple [.Name y _,.Name z _] _ _] _ _=>[x,y,z]
 |_=>[]
def c7(scope sc:Scope):Scope:=
 {scope with names:=scope.names.map λ(n,k)=>if(k==.free&&sc.kind==.function&&sc.names.lookup n==some .cell) then(n,.cell) else(n,k)}
def freeOf(scope:Scope):List Str:=((scope.names.filter λp=>p.2==.free).map (·.1)).reverse
noncomputable def uu(N:List Str)(sc scope:Scope)(k:Nat)(cF:List Nat)(xs:List Str):Bool:=
 scope.kind==.function&&xs.length==k&&decide ((xs++freeOf scope).Nodup)
 &&(scope.names.all λy=>(decide (y.2≠.cell)||!(freeOf scope).contains y.1)&&(decide (y.2≠.free)||(freeOf scope).contains y.1))
 &&(scope.names.all λy=>decide (y.2≠.cell)||decide (scope.names.lookup y.1=some .cell))
 &&(scope.names.all λy=>decide (y.2≠.local)||decide (scope.names.lookup y.1=some .local))
 &&decide (cF.map (λi=>N[i]?)=(freeOf scope).map some)
 &&((freeOf scope).all λy=>decide (sc.names.lookup y=some .cell))
 &&((freeOf scope).all λy=>decide ((c7 scope sc).names.lookup y=some .cell))
noncomputable def iR(k:Nat):Tg->Bool
 |.one i=>decide (i<k)
 |.two i j=>decide (i<k)&&decide (j<k)
 |.three i j l=>decide (i<k)&&decide (j<k)&&decide (l<k)
 |.four i j l m=>decide (i<k)&&decide (j<k)&&decide (l<k)&&decide (m<k)
def fu:E->Bool
 |.ite _ _ _=>false
 |.not a=>fu a
 |.and a b=>fu a&&fu b
 |.or a b=>fu a&&fu b
 |.EJ _ _=>false
 |_=>true
def isTup:Expr->Bool
 |.Tuple .. =>true
 |_=>false
noncomputable abbrev Pg.AS(Γ:Pg):Pg:={Γ with hl:=false}
def tP{α β:Type}{o:Option α}{f:α->Option β}{b:β}(h:o.bind f=some b):∃a,o=some a/\f a=some b:=zzZ.1 h
def if1{α:Type}{c:Bool}{a b:α}(h:(if c=true then some a else none)=some b):c=true/\a=b:=by
 cases c with
 |true=>cases h;exact⟨rfl,rfl⟩
 |false=>exact fZ h
def d7{α:Type}:List α->Option α
 |[t]=>some t
 |_=>none
def f6{α:Type}{ts:List α}{t:α}(h:d7 ts=some t):ts=[t]:=by
 cases ts with
 |nil=>exact fZ h
 |cons a ts=>
  cases ts with
  |cons _ _=>exact fZ h
  |nil=>cases h;rfl
def Lk:Expr->Option (Expr×Str×Pos)
 |.Attribute o m p=>some (o,m,p)
 |_=>none
def yU{e:Expr}{q:Expr×Str×Pos}(h:Lk e=some q):e=.Attribute q.1 q.2.1 q.2.2:=by
 cases e with
 |Attribute o m p=>cases h;rfl
 |_=>exact fZ h
def Jp:Expr->Option (Expr×Expr)
 |.Subscript a b _=>some (a,b)
 |_=>none
def yq{e:Expr}{q:Expr×Expr}(h:Jp e=some q):∃p,e=.Subscript q.1 q.2 p:=by
 cases e with
 |Subscript a b p=>cases h;exact⟨_,rfl⟩
 |_=>exact fZ h
def HX:Expr->Option Const
 |.Constant c _ _=>some c
 |_=>none
def yP{e:Expr}{c:Const}(h:HX e=some c):∃p q,e=.Constant c p q:=by
 cases e with
 |Constant c p q=>cases h;exact⟨_,_,rfl⟩
 |_=>exact fZ h
def xE:Const->Option Str
 |.str z=>some z
 |_=>none
def zZ{c:Const}{z:Str}(h:xE c=some z):c=.str z:=by
 cases c with
 |str y=>cases h;rfl
 |_=>exact fZ h
def My:Const->Option Int
 |.int n=>some n
 |_=>none
def uk{c:Const}{n:Int}(h:My c=some n):c=.int n:=by
 cases c with
 |int y=>cases h;rfl
 |_=>exact fZ h
def D1{α:Type}{l:List α}(h:l.isEmpty=true):l=[]:=by
 cases l with
 |nil=>rfl
 |cons _ _=>exact bG h
def FZ{α:Type}{o:Option α}(h:o.isNone=true):o=none:=by
 cases o with
 |none=>rfl
 |some _=>exact bG h
def Qs:Const->Option Bool
 |.bool b=>some b
 |_=>none
def FJ{c:Const}{b:Bool}(h:Qs c=some b):c=.bool b:=by
 cases c with
 |bool y=>cases h;rfl
 |_=>exact fZ h
def P4:Const->Bool
 |.none=>true
 |_=>false
def yw{c:Const}(h:P4 c=true):c=.none:=by
 cases c with
 |none=>rfl
 |_=>exact bG h
def Rx:Expr->Option (Expr×Operator×Expr)
 |.BinOp a o b _=>some (a,o,b)
 |_=>none
def Gz{e:Expr}{q:Expr×Operator×Expr}(h:Rx e=some q):∃p,e=.BinOp q.1 q.2.1 q.2.2 p:=by
 cases e with
 |BinOp a o b p=>cases h;exact⟨_,rfl⟩
 |_=>exact fZ h
def M7:Expr->Option (Expr×List CmpOp×List Expr)
 |.Compare a o b _=>some (a,o,b)
 |_=>none
def FQ{e:Expr}{q:Expr×List CmpOp×List Expr}(h:M7 e=some q):∃p,e=.Compare q.1 q.2.1 q.2.2 p:=by
 cases e with
 |Compare a o b p=>cases h;exact⟨_,rfl⟩
 |_=>exact fZ h
def LR:Expr->Option (UnaryOp×Expr)
 |.UnaryOp o a _=>some (o,a)
 |_=>none
def Fz{e:Expr}{q:UnaryOp×Expr}(h:LR e=some q):∃p,e=.UnaryOp q.1 q.2 p:=by
 cases e with
 |UnaryOp o a p=>cases h;exact⟨_,rfl⟩
 |_=>exact fZ h
def Ep:UnaryOp->Bool
 |.Not=>true
 |_=>false
def xZ{o:UnaryOp}(h:Ep o=true):o=.Not:=by
 cases o with
 |Not=>rfl
 |_=>exact bG h
def isNeg:UnaryOp->Bool
 |.USub=>true
 |_=>false
def qe{o:UnaryOp}(h:isNeg o=true):o=.USub:=by
 cases o with
 |USub=>rfl
 |_=>exact bG h
def qr:BoolOp->Bool
 |.And=>true
 |.Or=>false
def xt{o:BoolOp}(h:qr o=true):o=.And:=by
 cases o with
 |And=>rfl
 |Or=>exact bG h
def vg{o:BoolOp}(h:(!qr o)=true):o=.Or:=by
 cases o with
 |Or=>rfl
 |And=>exact bG h
def Kv:Expr->Option (BoolOp×List Expr×Pos)
 |.BoolOp o vs p=>some (o,vs,p)
 |_=>none
def GJ{e:Expr}{q:BoolOp×List Expr×Pos}(h:Kv e=some q):e=.BoolOp q.1 q.2.1 q.2.2:=by
 cases e with
 |BoolOp o vs p=>cases h;rfl
 |_=>exact fZ h
def MQ(o:BoolOp)(pos:Pos):List Expr->Option (Expr×Expr)
 |a::b::[]=>some (a,b)
 |a::b::c::r=>some (a,.BoolOp o (b::c::r) pos)
 |_=>none
def so{o:BoolOp}{pos:Pos}{vs:List Expr}{q:Expr×Expr}(h:MQ o pos vs=some q):vs=[q.1,q.2]\/∃b c r,vs=q.1::b::c::r/\q.2=.BoolOp o (b::c::r) pos:=by
 cases vs with
 |nil=>exact fZ h
 |cons a vs=>
  cases vs with
  |nil=>exact fZ h
  |cons b vs=>
   cases vs with
   |nil=>cases h;exact .inl rfl
   |cons c r=>cases h;exact .inr ⟨b,c,r,rfl,rfl⟩
def Qp:Expr->Option (Expr×Expr×Expr)
 |.IfExp c a b _=>some (c,a,b)
 |_=>none
def F7{e:Expr}{q:Expr×Expr×Expr}(h:Qp e=some q):∃p,e=.IfExp q.1 q.2.1 q.2.2 p:=by
 cases e with
 |IfExp c a b p=>cases h;exact⟨_,rfl⟩
 |_=>exact fZ h
def QO:Expr->Option (List Expr)
 |.List es _=>some es
 |_=>none
def AK{e:Expr}{es:List Expr}(h:QO e=some es):∃p,e=.List es p:=by
 cases e with
 |List es p=>cases h;exact⟨_,rfl⟩
 |_=>exact fZ h
def HJ:Expr->Option (Option Expr×Option Expr×Option Expr)
 |.Slice a b c _=>some (a,b,c)
 |_=>none
def Hr{e:Expr}{q:Option Expr×Option Expr×Option Expr}(h:HJ e=some q):∃p,e=.Slice q.1 q.2.1 q.2.2 p:=by
 cases e with
 |Slice a b c p=>cases h;exact⟨_,rfl⟩
 |_=>exact fZ h
def MW:Expr->Option (Expr×List Comprehension×Scope)
 |.ListComp e gs s _=>some (e,gs,s)
 |_=>none
def H8{e:Expr}{q:Expr×List Comprehension×Scope}(h:MW e=some q):∃p,e=.ListComp q.1 q.2.1 q.2.2 p:=by
 cases e with
 |ListComp e gs s p=>cases h;exact⟨_,rfl⟩
 |_=>exact fZ h
def vd(e:Expr):Option (Str×List Expr):=(EX e).bind λq=>(gF q.1).bind λg=>if q.2.2.1.isEmpty=true then some (g,q.2.1) else none
def Hc{e:Expr}{q:Str×List Expr}(h:vd e=some q):∃np p,e=.Call (.Name q.1 np) q.2 [] p:=by
 obtain⟨⟨f,a,k,p⟩,h1,h⟩:=tP h
 obtain⟨g,h2,h⟩:=tP h
 obtain⟨h3,rfl⟩:=if1 h
 obtain⟨np,z⟩:=eW h2
 have z3:=D1 h3
 dsimp only at z z3;subst z z3;exact⟨np,p,j7 h1⟩
def Lb:PV->Const->Bool
 |.aC,c=>P4 c
 |.bl b,c=>(Qs c).any λx=>b==x
 |.int i,c=>(My c).any λx=>i==x
 |.str z,c=>(xE c).any λx=>z==x
 |_,_=>false
def Rb:List Keyword->Option (Str×Expr)
 |[⟨some n,v,_⟩]=>some (n,v)
 |_=>none
def GL{ks:List Keyword}{q:Str×Expr}(h:Rb ks=some q):∃p,ks=[⟨some q.1,q.2,p⟩]:=by
 cases ks with
 |nil=>exact fZ h
 |cons k ks=>
  obtain⟨kn,kv,kp⟩:=k
  cases kn with
  |none=>exact fZ h
  |some n=>
   cases ks with
   |cons _ _=>exact fZ h
   |nil=>cases h;exact⟨_,rfl⟩
def Rh:Expr->Option (Expr×Expr)
 |.Dict [some k] [v] _=>some (k,v)
 |_=>none
def Fj{e:Expr}{q:Expr×Expr}(h:Rh e=some q):∃p,e=.Dict [some q.1] [q.2] p:=by
 cases e with
 |Dict ks vs p=>
  cases ks with
  |nil=>exact fZ h
  |cons k ks=>
   cases k with
   |none=>exact fZ h
   |some k=>
    cases ks with
    |cons _ _=>exact fZ h
    |nil=>
     cases vs with
     |nil=>exact fZ h
     |cons v vs=>
      cases vs with
      |cons _ _=>exact fZ h
      |nil=>cases h;exact⟨_,rfl⟩
 |_=>exact fZ h
def Er(p:Expr):Bool:=(EX p).all λq=>!q.2.1.isEmpty
def ay{a b:Bool}(h:(a&&b)=true):a=true/\b=true:=Bool.and_eq_true_iff.mp h
def ai{α:Type}{o:Option α}{f:α->Bool}(h:o.any f=true):∃x,o=some x/\f x=true:=by
 cases o with
 |none=>cases h
 |some x=>exact⟨x,rfl,h⟩
theorem ft{α:Type}{l:List α}{f:α->Bool}(h:(d7 l).any f=true):∃a,l=[a]/\f a=true:=let⟨a,e,h1⟩:=ai h;⟨a,f6 e,h1⟩
theorem Cp{α:Type}{l:List α}{f:α×α->Bool}(h:(vU l).any f=true):∃a b,l=[a,b]/\f (a,b)=true:=let⟨q,e,h1⟩:=ai h;⟨q.1,q.2,CF e,h1⟩
theorem Jk{p:Expr}{f:Str->Bool}(h:(gF p).any f=true):∃x np,p=.Name x np/\f x=true:=let⟨x,e,h1⟩:=ai h;let⟨np,z⟩:=eW e;⟨x,np,z,h1⟩
theorem ME{p:Expr}{f:Const->Bool}(h:(HX p).any f=true):∃x a b,p=.Constant x a b/\f x=true:=let⟨x,e,h1⟩:=ai h;let⟨a,b,z⟩:=yP e;⟨x,a,b,z,h1⟩
theorem w5{p:Expr}{f:Str×List Expr->Bool}(h:(vd p).any f=true):∃g as np pos,p=.Call (.Name g np) as [] pos/\f (g,as)=true:=let⟨q,e,h1⟩:=ai h;let⟨a,b,z⟩:=Hc e;⟨q.1,q.2,a,b,z,h1⟩
theorem OT{p:Expr}{f:Expr×Expr->Bool}(h:(Jp p).any f=true):∃a b pos,p=.Subscript a b pos/\f (a,b)=true:=let⟨q,e,h1⟩:=ai h;let⟨x,z⟩:=yq e;⟨q.1,q.2,x,z,h1⟩
theorem Sq{p:Expr}{f:Option Expr×Option Expr×Option Expr->Bool}(h:(HJ p).any f=true):∃a b c pos,p=.Slice a b c pos/\f (a,b,c)=true:=let⟨q,e,h1⟩:=ai h;let⟨x,z⟩:=Hr e;⟨q.1,q.2.1,q.2.2,x,z,h1⟩
theorem Pj{p:Expr}{f:UnaryOp×Expr->Bool}(h:(LR p).any f=true):∃o a pos,p=.UnaryOp o a pos/\f (o,a)=true:=let⟨q,e,h1⟩:=ai h;let⟨x,z⟩:=Fz e;⟨q.1,q.2,x,z,h1⟩
theorem QS{p:Expr}{f:Expr×List CmpOp×List Expr->Bool}(h:(M7 p).any f=true):∃a o b pos,p=.Compare a o b pos/\f (a,o,b)=true:=let⟨q,e,h1⟩:=ai h;let⟨x,z⟩:=FQ e;⟨q.1,q.2.1,q.2.2,x,z,h1⟩
theorem Mt{p:Expr}{f:Expr×List Comprehension×Scope->Bool}(h:(MW p).any f=true):∃a g s pos,p=.ListComp a g s pos/\f (a,g,s)=true:=let⟨q,e,h1⟩:=ai h;let⟨x,z⟩:=H8 e;⟨q.1,q.2.1,q.2.2,x,z,h1⟩
theorem NQ{p:Expr}{f:BoolOp×List Expr×Pos->Bool}(h:(Kv p).any f=true):∃o vs pos,p=.BoolOp o vs pos/\f (o,vs,pos)=true:=let⟨q,e,h1⟩:=ai h;⟨q.1,q.2.1,q.2.2,GJ e,h1⟩
mutual
noncomputable def aP(Γ:Pg)(N:List Str)(sc:Scope):E->Expr->Bool
 |.var i,p=>(gF p).any λx=>N[i]?==some x&&ff sc x&&okN x
 |.hV i,p=>(gF p).any λx=>N[i]?==some x&&ff sc x&&okN x
 |.cst q,p=>(HX p).any (Lb q)
 |.glob g p,e=>(gF e).any λx=>g==x&&fq sc x&&okN x&&Γ.gs.any λq=>q.1==g&&uT q.2 p
 |.call f as,p=>(vd p).any λq=>f==q.1&&Γ.fs.contains q.1&&fq sc q.1&&okN q.1&&kK as&&gD Γ N sc as q.2
 |.blt b as,p=>(vd p).any λq=>bN b==q.1&&fq sc q.1&&Γ.bs.contains q.1&&!isNil as&&gD Γ N sc as q.2
 |.ty t a,p=>(vd p).any λq=>(vU q.2).any λr=>(gF r.2).any λtn=>q.1==("isinstance":Str)&&fq sc q.1&&Γ.bs.contains q.1&&tn==Str.ofString (si t)&&fq sc tn&&Γ.bs.contains tn&&aP Γ N sc a r.1
 |.bin o a b,p=>(Rx p).any λq=>decide (O3 o=q.2.1)&&aP Γ N sc a q.1&&aP Γ N sc b q.2.2
 |.cmp o a b,p=>(M7 p).any λq=>(d7 q.2.1).any λop=>(d7 q.2.2).any λpb=>decide (qd o=op)&&aP Γ N sc a q.1&&aP Γ N sc b pb
 |.ch o1 o2 a b c,p=>(M7 p).any λq=>(vU q.2.1).any λop=>(vU q.2.2).any λpb=>decide (qd o1=op.1)&&decide (qd o2=op.2)&&aP Γ N sc a q.1&&aP Γ N sc b pb.1&&aP Γ N sc c pb.2
 |.not a,p=>(LR p).any λq=>Ep q.1&&aP Γ N sc a q.2
 |.neg a,p=>(LR p).any λq=>isNeg q.1&&aP Γ N sc a q.2
 |.and a b,p=>(Kv p).any λq=>(MQ q.1 q.2.2 q.2.1).any λr=>qr q.1&&fk b&&aP Γ N sc a r.1&&aP Γ N sc b r.2
 |.or a b,p=>(Kv p).any λq=>(MQ q.1 q.2.2 q.2.1).any λr=>!qr q.1&&fk b&&aP Γ N sc a r.1&&aP Γ N sc b r.2
 |.ite c a b,p=>(Qp p).any λq=>fu c&&fk a&&fk b&&aP Γ N sc c q.1&&aP Γ N sc a q.2.1&&aP Γ N sc b q.2.2
 |.tup as,p=>(zB p).any λps=>kK as&&decide (gB as<1000)&&gD Γ N sc as ps
 |.lst as,p=>(QO p).any λps=>kK as&&decide (gB as<1000)&&gD Γ N sc as ps
 |.sub a b,p=>(Jp p).any λq=>aP Γ N sc a q.1&&aP Γ N sc b q.2
 |.slice a lo hi,p=>(Jp p).any λq=>(HJ q.2).any λr=>r.2.2.isNone&&aP Γ N sc a q.1&&IG Γ N sc lo r.1&&IG Γ N sc hi r.2.1
 |.comp k cF tg it elt,p=>(MW p).any λq=>(d7 q.2.1).any λg=>g.ifs.isEmpty&&(uu N sc q.2.2 k cF (aG g.target)&&iR k tg&&fk elt&&wd Γ N sc g.target it g.iter&&gC (aG g.target++freeOf q.2.2) (c7 q.2.2 sc) (lW q.2.2) tg g.target&&aP Γ.AS (aG g.target++freeOf q.2.2) (c7 q.2.2 sc) elt q.1&&decide (g.is_async=0))
 |.cN k cF tg it c elt,p=>(MW p).any λq=>(d7 q.2.1).any λg=>(d7 g.ifs).any λpc=>fu c&&uu N sc q.2.2 k cF (aG g.target)&&iR k tg&&fk elt&&wd Γ N sc g.target it g.iter&&gC (aG g.target++freeOf q.2.2) (c7 q.2.2 sc) (lW q.2.2) tg g.target&&aP Γ.AS (aG g.target++freeOf q.2.2) (c7 q.2.2 sc) c pc&&aP Γ.AS (aG g.target++freeOf q.2.2) (c7 q.2.2 sc) elt q.1&&decide (g.is_async=0)
 |.EJ a b,p=>(Kv p).any λq=>(MQ q.1 q.2.2 q.2.1).any λr=>!qr q.1&&fk a&&fk b&&aP Γ N sc a r.1&&aP Γ N sc b r.2
 |.rev a,p=>(Jp p).any λq=>(HJ q.2).any λr=>(r.2.2).any λst=>(LR st).any λu=>(HX u.2).any λc=>r.1.isNone&&r.2.1.isNone&&isNeg u.1&&My c==some 1&&aP Γ N sc a q.1
 |.zF a,p=>(vd p).any λq=>(d7 q.2).any λz=>(vd z).any λr=>(d7 r.2).any λpa=>q.1==("list":Str)&&fq sc q.1&&Γ.bs.contains q.1&&r.1==("reversed":Str)&&fq sc r.1&&Γ.bs.contains r.1&&aP Γ N sc a pa
 |.get a k,p=>(EX p).any λq=>(Lk q.1).any λr=>(d7 q.2.1).any λpk=>q.2.2.1.isEmpty&&r.2.1==("get":Str)&&r.2.2.endLine==q.2.2.2.line&&Er r.1&&aP Γ N sc a r.1&&aP Γ N sc k pk
 |.maxD a n,p=>(EX p).any λq=>(gF q.1).any λf=>(d7 q.2.1).any λpa=>(Rb q.2.2.1).any λr=>(HX r.2).any λc=>f==("max":Str)&&fq sc f&&Γ.bs.contains f&&r.1==("default":Str)&&My c==some n&&aP Γ N sc a pa
 |.Lm n,p=>(Rh p).any λq=>(gF q.1).any λz=>(HX q.2).any λc=>N[n]?==some z&&ff sc z&&okN z&&P4 c
 |.mS f as,p=>(vd p).any λq=>f==q.1&&Γ.fs.contains q.1&&fq sc q.1&&okN q.1&&!isNil as&&gD Γ N sc as q.2
noncomputable def gD(Γ:Pg)(N:List Str)(sc:Scope):Es->List Expr->Bool
 |.nil,[]=>true
 |.cons e es,p::ps=>aP Γ N sc e p&&gD Γ N sc es ps
 |_,_=>false
noncomputable def IG(Γ:Pg)(N:List Str)(sc:Scope):Oe->Option Expr->Bool
 |.no,none=>true
 |.some e,some p=>aP Γ N sc e p
 |_,_=>false
noncomputable def wd(Γ:Pg)(N:List Str)(sc:Scope)(tg:Expr):I->Expr->Bool
 |.seq e,p=>aP Γ N sc e p
 |.mG e,p=>(vd p).any λq=>(d7 q.2).any λr=>q.1==("range":Str)&&fq sc q.1&&Γ.bs.contains q.1&&aP Γ N sc e r
 |.pI a b,p=>(vd p).any λq=>(vU q.2).any λr=>q.1==("range":Str)&&fq sc q.1&&Γ.bs.contains q.1&&aP Γ N sc a r.1&&aP Γ N sc b r.2
 |.enum e,p=>(vd p).any λq=>(d7 q.2).any λr=>isTup tg&&q.1==("enumerate":Str)&&fq sc q.1&&Γ.bs.contains q.1&&aP Γ N sc e r
 |.zip as,p=>(vd p).any λq=>isTup tg&&q.1==("zip":Str)&&fq sc q.1&&Γ.bs.contains q.1&&kK as&&(gB as==2||gB as==3)&&gD Γ N sc as q.2
 |.sC e,p=>(vd p).any λq=>(d7 q.2).any λr=>q.1==("reversed":Str)&&fq sc q.1&&Γ.bs.contains q.1&&fk e&&aP Γ N sc e r
end
def XE(W:Wd)(c:Str)(G1 H1:Hp):XK:=λCv ao H'=>∃C a G',Cv=.ref C/\ao=some a/\c∈W.xs/\W.mg c=some (.ref C)/\aF W G1 H1 G' H'
def uj(X:Cx)(W:Wd)(σ:St)(c:Str)(G H:Hp):Prop:=∀(aa:List (Addr×Obj)) (G1 H1:Hp) (s1:Shared) (e:Value) (s':Shared),Inv X aa σ H1 s1->aF W G H G1 H1->gr X.prog X.w X.stack H1 s1 (XE W c G1 H1) e s'->X.xe e s'
def Out{α:Type}(X:Cx)(W:Wd)(r:Res α)(σ:St)(G H:Hp)(k:α->Prop):Prop:=match r with
 |.ok a=>k a
 |.exc c=>uj X W σ c G H
 |.bad=>False
section
variable{X:Cx}{W:Wd}{F:aH}{σ:St}{G H G1 H1:Hp}{α β:Type}
def uj.grow{c:Str}(h:uj X W σ c G H)(g:aF W G H G1 H1):uj X W σ c G1 H1:=λaa G2 H2 s1 e s' I g2 x=>h aa G2 H2 s1 e s' I (g.trans g2) x
def Out.grow{r:Res α}{k:α->Prop}(h:Out X W r σ G H k)(g:aF W G H G1 H1):Out X W r σ G1 H1 k:=by
 cases r with
 |ok a=>exact h
 |exc c=>exact uj.grow h g
 |bad=>exact h
def Out.imp{r:Res α}{k k':α->Prop}(h:Out X W r σ G H k)(i:∀a,k a->k' a):Out X W r σ G H k':=by
 cases r with
 |ok a=>exact i a h
 |exc c=>exact h
 |bad=>exact h
def Out.bind{r:Res α}{f:α->Res β}{k:β->Prop}(h:Out X W (r.bind f) σ G H k):Out X W r σ G H λa=>Out X W (f a) σ G H k:=by
 cases r with
 |ok a=>exact h
 |exc c=>exact h
 |bad=>exact h
def Out.val{r:Res α}{k:α->Prop}(h:Out X W r σ G H k)(n:∀c,r≠.exc c):∃a,r=.ok a/\k a:=by
 cases r with
 |ok a=>exact⟨a,rfl,h⟩
 |exc c=>exact absurd rfl (n c)
 |bad=>exact h.elim
structure Got(W:Wd)(H0 G H:Hp)(e:E)(p:PV)(v:V):Prop where
 top:Top W H0 G H p v
 rep:fk e=true->Rep W G p v
def Got.of{H0:Hp}{e:E}{p:PV}{v:V}(h:Rep W G p v):Got W H0 G H e p v:=⟨.inl h,λ_=>h⟩
noncomputable def tE(X:Cx)(W:Wd)(F:aH)(e:E):TE:=λσ H Q=>∃H0 G env,SR W H0 env σ G H/\Out X W (aB F e env) σ G H λp=>∀v G' H',aF W G H G' H'->Got W H0 G' H' e p v->Q v H'
noncomputable def tT(X:Cx)(W:Wd)(F:aH)(e:E):TT:=λσ H Q=>∃H0 G env,SR W H0 env σ G H/\Out X W (aB F e env) σ G H λp=>∃b,p=.bl b/\∀G' H',aF W G H G' H'->Q b H'
structure Kk(W:Wd)(H0 G H:Hp)(es:Es)(ps:List PV)(vs:List V):Prop where
 top:Paired (λv p=>Top W H0 G H p v) vs ps
 rep:kK es=true->ah W G ps vs
noncomputable def tA(X:Cx)(W:Wd)(F:aH)(es:Es):TA:=λσ H Q=>∃H0 G env,SR W H0 env σ G H/\Out X W (bp F es env) σ G H λps=>∀vs G' H',aF W G H G' H'->Kk W H0 G' H' es ps vs->Q vs H'
noncomputable def ye(X:Cx)(W:Wd)(F:aH)(o:Oe):TO:=λσ H Q=>∃H0 G env,SR W H0 env σ G H/\Out X W (lh F o env) σ G H λi=>∀G' H',aF W G H G' H'->Q i H'
def one{H0:Hp}{env:Sl}{e:E}{f:PV->Res β}{k:β->Prop}{Q:VK}(sr:SR W H0 env σ G H)(o:Out X W ((aB F e env).bind f) σ G H k)
 (h:∀p v G1 H1,aF W G H G1 H1->Got W H0 G1 H1 e p v->SR W H0 env σ G1 H1->Out X W (f p) σ G1 H1 k->Q v H1):tE X W F e σ H Q:=
 ⟨H0,G,env,sr,o.bind.imp λp hp v G1 H1 g t=>h p v G1 H1 g t (sr.grow g) (hp.grow g)⟩
def Dw{H0:Hp}{env:Sl}{e:E}{f:Bool->Res β}{k:β->Prop}{Q:Bool->Hp->Prop}(sr:SR W H0 env σ G H)(o:Out X W ((aB F e env).bind λp=>mV p f) σ G H k)
 (h:∀b G1 H1,aF W G H G1 H1->SR W H0 env σ G1 H1->Out X W (f b) σ G1 H1 k->Q b H1):tT X W F e σ H Q:=by
 refine⟨H0,G,env,sr,o.bind.imp λp hp=>?_⟩
 cases p with
 |bl b=>exact⟨b,rfl,λG1 H1 g=>h b G1 H1 g (sr.grow g) (Out.grow hp g)⟩
 |aC=>exact zzk hp
 |int _=>exact zzk hp
 |str _=>exact zzk hp
 |tup _=>exact zzk hp
 |lst _=>exact zzk hp
 |exc _=>exact zzk hp
 |bx _ _=>exact zzk hp
def args{H0:Hp}{env:Sl}{es:Es}{f:List PV->Res β}{k:β->Prop}{Q:List V->Hp->Prop}(sr:SR W H0 env σ G H)(o:Out X W ((bp F es env).bind f) σ G H k)
 (h:∀ps vs G1 H1,aF W G H G1 H1->Kk W H0 G1 H1 es ps vs->SR W H0 env σ G1 H1->Out X W (f ps) σ G1 H1 k->Q vs H1):tA X W F es σ H Q:=
 ⟨H0,G,env,sr,o.bind.imp λp hp v G1 H1 g t=>h p v G1 H1 g t (sr.grow g) (hp.grow g)⟩
def Got.grow{H0 G2 H2:Hp}{e:E}{p:PV}{v:V}(h:Got W H0 G H e p v)(g:aF W G H G2 H2):Got W H0 G2 H2 e p v:=⟨h.top.grow g,λz=>Rep.same g.g p (h.rep z)⟩
def AJ(W:Wd)(G:Hp):Option (Str×List Nat)->List PV->List V->Prop
 |none,as,vs=>ah W G as vs
 |some q,as,vs=>∃u3 d5 AU v,as=u3++d5/\vs=AU++[v]/\ah W G u3 AU/\wo W G q.1 q.2 d5 v
noncomputable def AB(W:Wd)(F:aH)(f:Str)(n:Nat)(q:Option (Str×List Nat)):Sp:=λvs H Q E=>vs.length=n/\∃G as,az G H/\cV W G H/\AJ W G q as vs/\(match F f as with
 |.ok p=>∀v G' H',aF W G H G' H'->Rep W G' p v->Q v H'
 |.exc c=>∀Cv ao H',XE W c G H Cv ao H'->E Cv ao H'
 |.bad=>False)
structure GZ(X:Cx)(W:Wd)(F:aH)(k:Nat)(f:Str):Prop where
 ex:∃fa fd ps,f9 X.prog X.w X.K X.mg X.base (gr X.prog X.w) k fa fd ps (AB W F f ps.length none)/\X.mg f=some (.ref fa)/\PySem.W.keepIn X.K (.ref fa)=true/\Binds X.K fd ps []/\∀as,F f as≠.bad->as.length=ps.length
structure L5(X:Cx)(W:Wd)(F:aH)(k:Nat)(q:Hs):Prop where
 ex:∃fa fd ps,f9 X.prog X.w X.K X.mg X.base (gr X.prog X.w) k fa fd ps (AB W F q.f ps.length (some (q.g,q.idx)))/\X.mg q.h=some (.ref fa)/\PySem.W.keepIn X.K (.ref fa)=true/\Binds X.K fd ps []/\ps.length=q.np
structure dW(Γ:Pg)(F:aH)(W:Wd)(N:List Str)(sc:Scope)(k:Nat)(X:Cx):Prop where
 hN:X.N=N
 fx:X.env.scope=sc
 calm:X.calm=true
 nd:N.Nodup
 K:W.K=X.K
 mg:W.mg=X.mg
 gs:∀q∈Γ.gs,∃u v,X.mg q.1=some u/\RelV v u/\∀G,Rep W G q.2 v
 bs:∀g∈Γ.bs,X.mg g=none
 room:eJ (k+1) X.A
 fns:∀f,Γ.fs.contains f=true->GZ X W F k f
 Mn:Γ.cs.contains "ValueError"=false
 cls:∀c∈Γ.cs,∃C,X.mg c=some (.ref C)
 xc:∀d∈W.xs,∀D,X.mg d=some (.ref D)->FK X.K D/\(∀c∈Γ.cs,∀C,X.mg c=some (.ref C)->PySem.W.kitOne X.K (.ref D) (.ref C)=some (c==d||c=="FloorError"))/\PySem.W.kitOne X.K (.ref D) (.type "ValueError")=some true
 vY:∀q∈Γ.hs,L5 X W F k q
 any:∀g as,F g as≠.bad->Γ.fs.contains g=true\/gX g=true
 tb:Γ.hl=true->∃c P,X.env.code=.ref c/\PySem.W.CodeHd X.base c P/\(P,X.env.qual++"<lambda>")∈W.ts/\∀q',(P,q')∈W.ts->q'=X.env.qual++"<lambda>"
 bm:Γ.hl=true->Fs X.mg X.base
 fl:Γ.hl=true->∀x,X.fn x=true
variable{Γ:Pg}{N:List Str}{sc:Scope}{k:Nat}
def pR(C:dW Γ F W N sc k X){x:Str}(h:ff sc x=true):MZ X.env.scope x:=by
 rw [C.fx];unfold ff fv at h;simp! [zzt,zzy] at h;rcases h with(h|h)|h
 ·exact .inl h
 ·exact .inr (.inl h)
 ·exact .inr (.inr h)
def dG(C:dW Γ F W N sc k X){x:Str}(h:fq sc x=true):Gl X x:=by
 show X.env.scope.names.lookup x=_
 rw [C.fx];exact zzy.mp h
def fD{x:Str}(h:okN x=true):(x==("__debug__":Str))=false/\(x==("__classdict__":Str))=false/\x≠"__name__":=by
 unfold okN at h;simp! [zza,Bool.not_eq_true',beq_eq_false_iff_ne] at h;exact⟨beq_eq_false_iff_ne.mpr h.1.1,beq_eq_false_iff_ne.mpr h.1.2,h.2⟩
abbrev GE(X:Cx)(W:Wd)(F:aH)(e:E)(p:Expr):Prop:=PE X p (tE X W F e)
abbrev GT(X:Cx)(W:Wd)(F:aH)(e:E)(p:Expr):Prop:=PT X p (tT X W F e)
abbrev GW(X:Cx)(W:Wd)(F:aH)(e:E)(p:Expr):Prop:=PW X p (tT X W F e)
def _root_.L2.PE.imp{p:Expr}{t t':TE}(h:PE X p t)(i:∀σ H Q,t' σ H Q->t σ H Q):PE X p t':=λaa s σ H Q I hw=>h aa s σ H Q I (i σ H Q hw)
def _root_.L2.PT.imp{p:Expr}{t t':TT}(h:PT X p t)(i:∀σ H Q,t' σ H Q->t σ H Q):PT X p t':=λaa s σ H Q I hw=>h aa s σ H Q I (i σ H Q hw)
def _root_.L2.PW.imp{p:Expr}{t t':TT}(h:PW X p t)(i:∀σ H Q,t' σ H Q->t σ H Q):PW X p t':=λw aa s σ H Q I hw=>h w aa s σ H Q I (i σ H Q hw)
def _root_.L2.PA.imp{p:List Expr}{t t':TA}(h:PA X p t)(i:∀σ H Q,t' σ H Q->t σ H Q):PA X p t':=λpos aa s σ H Q I hw=>h pos aa s σ H Q I (i σ H Q hw)
def Ek{e:E}(σ:St)(H:Hp)(Q:Bool->Hp->Prop)(h:tT X W F e σ H Q):tB (tE X W F e) σ H Q:=by
 obtain⟨H0,G,env,sr,o⟩:=h
 refine⟨H0,G,env,sr,o.imp λp hp v G' H' g t=>?_⟩
 obtain⟨b,rfl,q⟩:=hp
 exact⟨b,t.top.bl,q G' H' g⟩
def qI{e:E}(σ:St)(H:Hp)(Q:Bool->Hp->Prop)(h:tT X W F e σ H Q):xH (tE X W F e) σ H Q:=Ek σ H Q h
def HF(C:dW Γ F W N sc k X){i:Nat}{x:Str}{pos:Pos}(h:(N[i]?==some x&&ff sc x&&okN x)=true):GE X W F (.var i) (.Name x pos):=by
 simp! [zza,zzy] at h;obtain⟨h1,h2,h3⟩:=fD h.2
 refine(lE (i:=i) (by rw [C.hN];exact h.1.1) (pR C h.1.2) h1 h2).imp λσ H Q hq=>?_
 obtain⟨H0,G,env,sr,o⟩:=hq
 cases e:env[i]? with
 |none=>unfold aB at o;rw [e] at o;exact o.elim
 |some sl=>
  cases sl with
  |no=>unfold aB at o;rw [e] at o;exact o.elim
  |fn _ _ _=>unfold aB at o;rw [e] at o;exact o.elim
  |own p=>unfold aB at o;rw [e] at o;exact o.elim
  |val p=>
   unfold aB at o;rw [e] at o;obtain⟨o2,hs,v,rfl,r⟩:=sr.slot i _ e
   exact⟨v,hs,o v G H (.refl sr.sub) (.of r)⟩
def GG(C:dW Γ F W N sc k X){i:Nat}{x:Str}{pos:Pos}(h:(N[i]?==some x&&ff sc x&&okN x)=true):GE X W F (.hV i) (.Name x pos):=by
 simp! [zza,zzy] at h;obtain⟨h1,h2,h3⟩:=fD h.2
 refine(lE (i:=i) (by rw [C.hN];exact h.1.1) (pR C h.1.2) h1 h2).imp λσ H Q hq=>?_
 obtain⟨H0,G,env,sr,o⟩:=hq
 cases e:env[i]? with
 |none=>unfold aB at o;rw [e] at o;exact o.elim
 |some sl=>
  cases sl with
  |no=>unfold aB at o;rw [e] at o;exact o.elim
  |fn _ _ _=>unfold aB at o;rw [e] at o;exact o.elim
  |own p=>
   unfold aB at o;rw [e] at o;obtain⟨o2,hs,v,rfl,r⟩:=sr.slot i _ e
   exact⟨v,hs,o v G H (.refl sr.sub) ⟨.inr r,λz=>nomatch z⟩⟩
  |val p=>
   unfold aB at o;rw [e] at o;obtain⟨o2,hs,v,rfl,r⟩:=sr.slot i _ e
   exact⟨v,hs,o v G H (.refl sr.sub) (.of r)⟩
def fT{p:PV}{v:V}{e:Expr}(h:PE X e (tC v))(r:∀G,Rep W G p v):GE X W F (.cst p) e:=by
 refine L2.PE.imp h λσ H Q hq=>?_
 obtain⟨H0,G,env,sr,o⟩:=hq
 exact o v G H (.refl sr.sub) (.of (r G))
def Bu(C:dW Γ F W N sc k X){g x:Str}{p:PV}{pos:Pos}(h:(g==x&&fq sc x&&okN x&&Γ.gs.any λq=>q.1==g&&uT q.2 p)=true):GE X W F (.glob g p) (.Name x pos):=by
 simp! [zza,zzy,zzj] at h;obtain⟨⟨⟨rfl,h2⟩,h3⟩,q,hq,e1,e2⟩:=h
 obtain⟨u,v,hm,rv,hr⟩:=C.gs q hq
 rw [e1] at hm;cases yN e2;refine(CK (dG C h2) hm rv (fD h3).1).imp λσ H Q hq=>?_
 obtain⟨H0,G,env,sr,o⟩:=hq
 exact o v G H (.refl sr.sub) (.of (hr G))
def Res.aK{α:Type}{o:Option α}(c:Str):Res.of o≠.exc c:=by cases o<;>exact λz=>nomatch z
def k9{α β:Type}{o:Option α}{f:α->Res β}{c:Str}(h:∀a,f a≠.exc c):(Res.of o).bind f≠.exc c:=by
 cases o with
 |none=>exact λz=>nomatch z
 |some a=>exact h a
def l5{o:Jn}{p q:PV}(c:Str):binOp o p q≠.exc c:=by
 unfold binOp
 repeat' split
 all_goals exact λz=>nomatch z
def Bw{p q:PV}(c:Str):d6 p q≠.exc c:=by
 unfold d6
 (repeat' first|split|refine k9 λ_=>?_|exact Res.aK c|exact(λz=>nomatch z))
def CV{p q:PV}(c:Str):fb p q≠.exc c:=by
 unfold fb
 (repeat' first|split|refine k9 λ_=>?_|exact Res.aK c|exact(λz=>nomatch z))
def Dl{p q:PV}(c:Str):rE p q≠.exc c:=by
 unfold rE
 (repeat' first|split|refine k9 λ_=>?_|exact Res.aK c|exact(λz=>nomatch z))
def C2{p q:PV}(c:Str):ql p q≠.exc c:=by
 unfold ql
 (repeat' first|split|refine k9 λ_=>?_|exact Res.aK c|exact(λz=>nomatch z))
def Cu{p q:PV}(c:Str):rV p q≠.exc c:=by
 unfold rV
 (repeat' first|split|refine k9 λ_=>?_|exact Res.aK c|exact(λz=>nomatch z))
def DA{p q:PV}(c:Str):rh p q≠.exc c:=by
 unfold rh
 (repeat' first|split|refine k9 λ_=>?_|exact Res.aK c|exact(λz=>nomatch z))
def Cr{p q:PV}(c:Str):mz p q≠.exc c:=by
 unfold mz
 (repeat' first|split|refine k9 λ_=>?_|exact Res.aK c|exact(λz=>nomatch z))
def yF{p q:PV}(c:Str):di p q≠.exc c:=by
 unfold di
 (repeat' first|split|refine k9 λ_=>?_|exact Res.aK c|exact(λz=>nomatch z))
def Dm{p q:PV}(c:Str):tW p q≠.exc c:=by
 unfold tW
 (repeat' first|split|refine k9 λ_=>?_|exact Res.aK c|exact(λz=>nomatch z))
def zD{p q:PV}(c:Str):fK p q≠.exc c:=by
 unfold fK
 (repeat' first|split|refine k9 λ_=>?_|exact Res.aK c|exact(λz=>nomatch z))
def dC{o:yt}{p q:PV}(c:Str):dg o p q≠.exc c:=match o with
 |.eq=>Bw c|.ne=>CV c|.lt=>Dl c|.le=>C2 c|.gt=>Cu c|.ge=>DA c|.is=>Cr c|.oY=>yF c|.JA=>Dm c|.rP=>zD c
def two{op:PV->PV->Res PV}{ea eb:E}{e:E}{σ:St}{H:Hp}{Q:VK}(hn:∀p q c,op p q≠.exc c)(he:∀env,aB F e env=(aB F ea env).bind λx=>(aB F eb env).bind λy=>op x y)
 (h:tE X W F e σ H Q):L1 (rN W op) (tE X W F ea) (tE X W F eb) σ H Q:=by
 obtain⟨H0,G,env,sr,o⟩:=h
 rw [he] at o;refine one sr o λp v G1 H1 g1 t1 bj o1=>one bj o1 λq u G2 H2 g2 t2 gb o2=>?_
 obtain⟨r,hr,kr⟩:=o2.val (hn p q)
 exact⟨H0,G2,p,q,r,gb.sub,t1.top.grow g2,t2.top,hr,λw G' H' g' gu=>kr w G' H' ((g1.trans g2).trans g') (.of gu)⟩
def Gn(C:dW Γ F W N sc k X){o:Jn}{a b:E}{pa pb:Expr}{pos:Pos}(ha:GE X W F a pa)(hb:GE X W F b pb):GE X W F (.bin o a b) (.BinOp pa (O3 o) pb pos):=
 (Le (F1 C.K o) ha hb).imp λσ H Q h=>two (λp q c=>l5 c) (λenv=>by rw [aB]) h
def FD(C:dW Γ F W N sc k X){o:yt}{a b:E}{pa pb:Expr}{pos:Pos}(ha:GE X W F a pa)(hb:GE X W F b pb)(hm:behindInMarks (qd o) pb=false):GE X W F (.cmp o a b) (.Compare pa [qd o] [pb] pos):=
 (Bg (fU C.K C.room.units o) ha hb hm).imp λσ H Q h=>two (λp q c=>dC c) (λenv=>by rw [aB]) h
theorem IP(C:dW Γ F W N sc k X){o:yt}{a b:E}{pa pb:Expr}{pos:Pos}(ha:GE X W F a pa)(hb:GE X W F b pb)(hm:behindInMarks (qd o) pb=false):GT X W F (.cmp o a b) (.Compare pa [qd o] [pb] pos):=
 (C9 (fU C.K C.room.units o) ha hb hm).imp λσ H Q h=>by
  have h2:=qI σ H Q h
  exact two (λp q c=>dC c) (λenv=>by rw [aB]) h2
def Ew{c1 c2:yt}{a b c:E}(σ:St)(H:Hp)(Q:VK)(h:tE X W F (.ch c1 c2 a b c) σ H Q):rW (rN W (dg c1)) (rN W (dg c2)) (tE X W F a) (tE X W F b) (tE X W F c) σ H Q:=by
 obtain⟨H0,G,env,sr,o⟩:=h
 rw [aB] at o;refine one sr o λp v G1 H1 g1 t1 bj o1=>one bj o1 λq u G2 H2 g2 t2 gb o2=>?_
 obtain⟨r,hr,kr⟩:=o2.bind.val (dC)
 refine⟨H0,G2,p,q,r,gb.sub,t1.top.grow g2,t2.top,hr,λw G3 H3 g3 gu=>?_⟩
 cases r with
 |bl t=>
  simp! [Rep] at gu;subst gu;refine⟨t,rfl,?_⟩;cases t with
  |false=>
   rw [if_neg zzf];have NX:Out X W (Res.ok (PV.bl false)) σ G2 H2 _:=kr
   exact NX _ G3 H3 ((g1.trans g2).trans g3) (.of .b)
  |true=>
   rw [if_pos rfl];have NX:Out X W ((aB F c env).bind λz=>dg c2 q z) σ G2 H2 _:=kr
   refine one (gb.grow g3) (NX.grow g3) λz y G4 H4 g4 t4 FN o4=>?_
   obtain⟨r4,hr4,kr4⟩:=o4.val (dC)
   exact⟨H0,G4,q,z,r4,FN.sub,t2.top.grow (g3.trans g4),t4.top,hr4,λw G5 H5 g5 TK=>kr4 w G5 H5 ((((g1.trans g2).trans g3).trans g4).trans g5) (.of TK)⟩
 |aC=>exact zzk kr
 |int _=>exact zzk kr
 |str _=>exact zzk kr
 |tup _=>exact zzk kr
 |lst _=>exact zzk kr
 |exc _=>exact zzk kr
 |bx _ _=>exact zzk kr
def LH(C:dW Γ F W N sc k X){o1 o2:yt}{a b c:E}{pa pb pc:Expr}{pos:Pos}(ha:GE X W F a pa)(hb:GE X W F b pb)(hc:GE X W F c pc)(hm:lastMarks [qd o1,qd o2] [pb,pc]=false):GE X W F (.ch o1 o2 a b c) (.Compare pa [qd o1,qd o2] [pb,pc] pos):=
 (zO (fU C.K C.room.units o1) (fU C.K C.room.units o2) ha hb hc hm).imp Ew
def KL(C:dW Γ F W N sc k X){o1 o2:yt}{a b c:E}{pa pb pc:Expr}{pos:Pos}(ha:GE X W F a pa)(hb:GE X W F b pb)(hc:GE X W F c pc)(hm:lastMarks [qd o1,qd o2] [pb,pc]=false):GT X W F (.ch o1 o2 a b c) (.Compare pa [qd o1,qd o2] [pb,pc] pos):=
 (AE (fU C.K C.room.units o1) (fU C.K C.room.units o2) ha hb hc hm).imp λσ H Q h=>Ew σ H _ (qI σ H Q h)
theorem Am{a:E}{pa:Expr}{pos:Pos}(ha:GE X W F a pa):GE X W F (.neg a) (.UnaryOp .USub pa pos):=
 (K3 (Co (W:=W)) ha).imp λσ H Q h=>by
  obtain⟨H0,G,env,sr,o⟩:=h
  rw [aB] at o;refine one sr o λp v G1 H1 g1 t1 bj o1=>?_
  cases p with
  |int i=>exact⟨H0,G1,i,bj.sub,t1.top,λw G' H' g' gu=>o1 w G' H' (g1.trans g') (.of gu)⟩
  |bl _=>exact zzk o1
  |aC=>exact zzk o1
  |str _=>exact zzk o1
  |tup _=>exact zzk o1
  |lst _=>exact zzk o1
  |exc _=>exact zzk o1
  |bx _ _=>exact zzk o1
theorem IC{a:E}{pa:Expr}{pos:Pos}(ha:GE X W F a pa):GE X W F (.not a) (.UnaryOp .Not pa pos):=
 (Ir ha).imp λσ H Q h=>by
  obtain⟨H0,G,env,sr,o⟩:=h
  rw [aB] at o;refine one sr o λp v G1 H1 g1 t1 bj o1=>?_
  cases p with
  |bl b=>exact⟨b,t1.top.bl,o1 _ G1 H1 g1 (.of .b)⟩
  |int _=>exact zzk o1
  |aC=>exact zzk o1
  |str _=>exact zzk o1
  |tup _=>exact zzk o1
  |lst _=>exact zzk o1
  |exc _=>exact zzk o1
  |bx _ _=>exact zzk o1
theorem Hm{a:E}{pa:Expr}{pos:Pos}(ha:GT X W F a pa):GT X W F (.not a) (.UnaryOp .Not pa pos):=
 (HI ha).imp λσ H Q h=>by
  obtain⟨H0,G,env,sr,o⟩:=h
  rw [aB] at o;refine Dw sr o λb G1 H1 g1 bj o1=>?_
  obtain⟨b',e,q⟩:=o1
  cases e;exact q G1 H1 g1
theorem zo{a b:E}{pa pb:Expr}{r:List Expr}{pos:Pos}(he:fk b=true)(ha:GE X W F a pa)(hb:GE X W F b (.BoolOp .And (pb::r) pos)):GE X W F (.and a b) (.BoolOp .And (pa::pb::r) pos):=
 (Hi ha hb).imp λσ H Q h=>by
  obtain⟨H0,G,env,sr,o⟩:=h
  rw [aB] at o;refine one sr o λp v G1 H1 g1 t1 bj o1=>?_
  cases p with
  |bl t=>
   refine⟨t,t1.top.bl,?_⟩;cases t with
   |true=>
    rw [if_pos rfl];have oh:Out X W (aB F b env) σ G1 H1 _:=o1
    exact⟨H0,G1,env,bj,oh.imp λp hp v G' H' g' t'=>hp v G' H' (g1.trans g') (.of (t'.rep he))⟩
   |false=>
    rw [if_neg zzf];have oh:Out X W (Res.ok (PV.bl false)) σ G1 H1 _:=o1
    exact oh _ G1 H1 g1 (.of .b)
  |int _=>exact zzk o1
  |aC=>exact zzk o1
  |str _=>exact zzk o1
  |tup _=>exact zzk o1
  |lst _=>exact zzk o1
  |exc _=>exact zzk o1
  |bx _ _=>exact zzk o1
theorem EC{a b:E}{pa pb:Expr}{r:List Expr}{pos:Pos}(he:fk b=true)(ha:GE X W F a pa)(hb:GE X W F b (.BoolOp .Or (pb::r) pos)):GE X W F (.or a b) (.BoolOp .Or (pa::pb::r) pos):=
 (K7 ha hb).imp λσ H Q h=>by
  obtain⟨H0,G,env,sr,o⟩:=h
  rw [aB] at o;refine one sr o λp v G1 H1 g1 t1 bj o1=>?_
  cases p with
  |bl t=>
   refine⟨t,t1.top.bl,?_⟩;cases t with
   |false=>
    rw [if_neg zzf];have oh:Out X W (aB F b env) σ G1 H1 _:=o1
    exact⟨H0,G1,env,bj,oh.imp λp hp v G' H' g' t'=>hp v G' H' (g1.trans g') (.of (t'.rep he))⟩
   |true=>
    rw [if_pos rfl];have oh:Out X W (Res.ok (PV.bl true)) σ G1 H1 _:=o1
    exact oh _ G1 H1 g1 (.of .b)
  |int _=>exact zzk o1
  |aC=>exact zzk o1
  |str _=>exact zzk o1
  |tup _=>exact zzk o1
  |lst _=>exact zzk o1
  |exc _=>exact zzk o1
  |bx _ _=>exact zzk o1
theorem zv{a b:E}{pa pb:Expr}{r:List Expr}{pos:Pos}(ha:GT X W F a pa)(hb:GW X W F b (.BoolOp .And (pb::r) pos)):GW X W F (.and a b) (.BoolOp .And (pa::pb::r) pos):=
 (pw_and ha hb).imp λσ H Q h=>by
  obtain⟨H0,G,env,sr,o⟩:=h
  rw [aB] at o;refine Dw sr o λt G1 H1 g1 bj o1=>?_
  cases t with
  |true=>
   rw [if_pos rfl];have oh:Out X W (aB F b env) σ G1 H1 _:=o1
   exact⟨H0,G1,env,bj,oh.imp λp hp=>by obtain⟨c,rfl,q⟩:=hp;exact⟨c,rfl,λG' H' g'=>q G' H' (g1.trans g')⟩⟩
  |false=>
   rw [if_neg zzf];obtain⟨c,e,q⟩:=(show Out X W (Res.ok (PV.bl false)) σ G1 H1 _ from o1)
   cases e;exact q G1 H1 g1
theorem Ey{a b:E}{pa pb:Expr}{r:List Expr}{pos:Pos}(ha:GT X W F a pa)(hb:GW X W F b (.BoolOp .Or (pb::r) pos)):GW X W F (.or a b) (.BoolOp .Or (pa::pb::r) pos):=
 (pw_or ha hb).imp λσ H Q h=>by
  obtain⟨H0,G,env,sr,o⟩:=h
  rw [aB] at o;refine Dw sr o λt G1 H1 g1 bj o1=>?_
  cases t with
  |false=>
   rw [if_neg zzf];have oh:Out X W (aB F b env) σ G1 H1 _:=o1
   exact⟨H0,G1,env,bj,oh.imp λp hp=>by obtain⟨c,rfl,q⟩:=hp;exact⟨c,rfl,λG' H' g'=>q G' H' (g1.trans g')⟩⟩
  |true=>
   rw [if_pos rfl];obtain⟨c,e,q⟩:=(show Out X W (Res.ok (PV.bl true)) σ G1 H1 _ from o1)
   cases e;exact q G1 H1 g1
theorem GY{c a b:E}{pc pa pb:Expr}{pos:Pos}(Oq:fk a=true)(Tj:fk b=true)(hc:GT X W F c pc)(ha:GE X W F a pa)(hb:GE X W F b pb):GE X W F (.ite c a b) (.IfExp pc pa pb pos):=
 (y8 hc ha hb).imp λσ H Q h=>by
  obtain⟨H0,G,env,sr,o⟩:=h
  rw [aB] at o;refine Dw sr o λt G1 H1 g1 bj o1=>?_
  cases t with
  |true=>
   rw [if_pos rfl];have oh:Out X W (aB F a env) σ G1 H1 _:=o1
   exact⟨H0,G1,env,bj,oh.imp λp hp v G' H' g' t'=>hp v G' H' (g1.trans g') (.of (t'.rep Oq))⟩
  |false=>
   rw [if_neg zzf];have oh:Out X W (aB F b env) σ G1 H1 _:=o1
   exact⟨H0,G1,env,bj,oh.imp λp hp v G' H' g' t'=>hp v G' H' (g1.trans g') (.of (t'.rep Tj))⟩
noncomputable def tF(X:Cx)(W:Wd)(F:aH)(e:E):TE:=λσ H Q=>∃H0 G env,SR W H0 env σ G H/\Out X W (aB F e env) σ G H λp=>∃xs,p=.lst xs/\∀a vs G' H',aF W G H G' H'->H' a=none->ah W G' xs vs->Q (.ref a) (upd H' a (.lst vs))
abbrev GF(X:Cx)(W:Wd)(F:aH)(e:E)(p:Expr):Prop:=PE X p (tF X W F e)
theorem GF.ge{e:E}{p:Expr}(h:GF X W F e p)(hl:∀env q,aB F e env=.ok q->∃xs,q=.lst xs):GE X W F e p:=
 L2.PE.imp h λσ H Q hq=>by
  obtain⟨H0,G,env,sr,o⟩:=hq
  refine⟨H0,G,env,sr,?_⟩;cases r:aB F e env with
  |bad=>rw [r] at o;exact o
  |exc c=>rw [r] at o;exact o
  |ok q=>
   rw [r] at o;obtain⟨xs,rfl⟩:=hl env q r
   exact⟨xs,rfl,λa vs G' H' g ha l=>o _ _ _ (g.trans (.new g.sub ha)) (.of (.l (.inl (.inl ax)) (ah.same (bf (g.sub.free ha)) xs l)))⟩
def notStar{e:E}{p:Expr}(h:aP Γ N sc e p=true):∀env ps,starEach (p::ps) env=(false,eval p env)::starEach ps env:=by
 intro env ps;cases p<;>first|rfl|(cases e<;>first|(exact bG h)|(rename_i q;cases q<;>exact bG h))
theorem dY:∀{es:Es} {ps:List Expr},gD Γ N sc es ps=true->∀env pos,(backTo pos (starEach ps env)).any (·.1)=false
 |.nil,[],_,_,_=>rfl
 |.cons e es,p::ps,h,env,pos=>by
  replace h:=ay h
  rw [notStar h.1];show(false||(backTo pos (starEach ps env)).any (·.1))=false
  rw [dY h.2]
  rfl
 |.nil,_::_,h,_,_=>bG h
 |.cons _ _,[],h,_,_=>bG h
abbrev GA(X:Cx)(W:Wd)(F:aH)(es:Es)(ps:List Expr):Prop:=PA X ps (tA X W F es)
theorem FG:GA X W F .nil []:=L2.PA.imp c8 λσ H Q h=>by
 obtain⟨H0,G,env,sr,o⟩:=h
 rw [bp] at o;exact o [] G H (.refl sr.sub) ⟨.nil,λ_=>.nil⟩
theorem CU{e:E}{es:Es}{p:Expr}{ps:List Expr}(he:GE X W F e p)(hs:GA X W F es ps)(cO:starEach (p::ps) X.env=(false,eval p X.env)::starEach ps X.env):GA X W F (.cons e es) (p::ps):=
 L2.PA.imp (bS he hs cO) λσ H Q h=>by
  obtain⟨H0,G,env,sr,o⟩:=h
  rw [bp] at o;refine one sr o λq v G1 H1 g1 t1 bj o1=>args bj o1 λqs vs G2 H2 g2 t2 gb o2=>?_
  refine o2 (v::vs) G2 H2 (g1.trans g2) ⟨.cons (t1.top.grow g2) t2.top,λz=>?_⟩
  unfold kK at z;rw [zza] at z;exact .cons (Rep.same g2.g q (t1.rep z.1)) (t2.rep z.2)
theorem iq:∀{es:Es} {env:Sl} {ps:List PV},bp F es env=.ok ps->ps.length=gB es
 |.nil,env,ps,h=>by rw [bp] at h;cases h;rfl
 |.cons e es,env,ps,h=>by
  rw [bp] at h;obtain⟨p,_,h⟩:=Res.aX h
  obtain⟨qs,hq,h⟩:=Res.aX h
  cases h;rw [zzL,iq hq]
  rfl
theorem Fm{es:Es}{ps:List Expr}{x1:Nat}{pos:Pos}(B8:kK es=true)(hl:gB es<1000)(h:GA X W F es ps):GE X W F (.tup es) (.Tuple ps x1 pos):=
 L2.PE.imp (IB h) λσ H Q hq=>by
  obtain⟨H0,G,env,sr,o⟩:=hq
  rw [aB] at o;have o':=o
  refine⟨H0,G,env,sr,?_⟩;cases r:bp F es env with
  |bad=>rw [r] at o;exact o
  |exc c=>rw [r] at o;exact o
  |ok qs=>
   rw [r] at o;have hlen:=iq r
   intro vs G1 H1 g1 t;have l:=t.rep B8
   refine⟨by rw [l.length,hlen];exact Nat.le_of_lt (Nat.lt_trans hl (by decide)),λp hp=>?_⟩
   exact o _ _ _ (g1.trans (.new g1.sub hp)) (.of (.t (.inl ax) (ah.same (bf (g1.sub.free hp)) qs l)))
theorem ze{es:Es}{ps:List Expr}{pos:Pos}(B8:kK es=true)(hl:gB es<1000)(h:GA X W F es ps):GF X W F (.lst es) (.List ps pos):=
 L2.PE.imp (IH h) λσ H Q hq=>by
  obtain⟨H0,G,env,sr,o⟩:=hq
  rw [aB] at o;refine⟨H0,G,env,sr,?_⟩;cases r:bp F es env with
  |bad=>rw [r] at o;exact o
  |exc c=>rw [r] at o;exact o
  |ok qs=>
   rw [r] at o;have hlen:=iq r
   obtain⟨xs,e,o⟩:=o
   cases e;intro vs G1 H1 g1 t;have l:=t.rep B8
   exact⟨by rw [l.length,hlen];exact Nat.le_of_lt (Nat.lt_trans hl (by decide)),λp hp=>o p vs G1 H1 g1 hp l⟩
theorem lst_is{es:Es}:∀env q,aB F (.lst es) env=.ok q->∃xs,q=.lst xs:=λenv q h=>by
 rw [aB] at h;obtain⟨ps,_,h⟩:=Res.aX h
 cases h;exact⟨_,rfl⟩
def v5{p q:PV}(c:Str):aJ p q≠.exc c:=by
 unfold aJ
 (repeat' first|split|refine k9 λ_=>?_|exact Res.aK c|exact(λz=>nomatch z))
def Ja(C:dW Γ F W N sc k X){a b:E}{pa pb:Expr}{pos:Pos}(ha:GE X W F a pa)(hb:GE X W F b pb)(hs:oS pb):GE X W F (.sub a b) (.Subscript pa pb pos):=
 (K5 (OO C.K C.room.units) ha hb hs).imp λσ H Q h=>two (λp q c=>v5 c) (λenv=>by rw [aB]) h
def zT{e:E}{p:Expr}(h:aP Γ N sc e p=true):oS p:=by
 intro o i;cases p<;>first|rfl|(cases e<;>first|(exact bG h)|(rename_i q;cases q<;>exact bG h))
def pT{e:E}{p:Expr}(h:aP Γ N sc e p=true)(op:CmpOp):behindInMarks op p=false:=by
 cases p<;>first|rfl|(cases e<;>first|(exact bG h)|(rename_i q;cases q<;>exact bG h))
theorem D5:PO X none (ye X W F .no):=λaa s σ H Q I h=>Bp aa s σ H Q I (by
 obtain⟨H0,G,env,sr,o⟩:=h
 rw [lh] at o;exact o G H (.refl sr.sub))
theorem Bq{e:E}{p:Expr}(h:GE X W F e p):PO X (some p) (ye X W F (.some e)):=λaa s σ H Q I hq=>BE h aa s σ H Q I (by
 obtain⟨H0,G,env,sr,o⟩:=hq
 rw [lh] at o;refine one sr o λq v G1 H1 g1 t1 bj o1=>?_
 cases q with
 |int i=>exact⟨i,t1.top.int,o1 G1 H1 g1⟩
 |bl _=>exact zzk o1
 |aC=>exact zzk o1
 |str _=>exact zzk o1
 |tup _=>exact zzk o1
 |lst _=>exact zzk o1
 |exc _=>exact zzk o1
 |bx _ _=>exact zzk o1)
def qE{p:PV}{lo hi:Option Int}(c:Str):dI p lo hi≠.exc c:=by
 unfold dI
 (repeat' first|split|refine k9 λ_=>?_|exact Res.aK c|exact(λz=>nomatch z))
theorem yg(C:dW Γ F W N sc k X){a:E}{lo hi:Oe}{pa:Expr}{pl ph:Option Expr}{p2 pos:Pos}(ha:GE X W F a pa)(hl:PO X pl (ye X W F lo))(hh:PO X ph (ye X W F hi)):GE X W F (.slice a lo hi) (.Subscript pa (.Slice pl ph none p2) pos):=
 (xN (OR C.K) ha hl hh).imp λσ H Q h=>by
  obtain⟨H0,G,env,sr,o⟩:=h
  rw [aB] at o;refine one sr o λp v G1 H1 g1 t1 bj o1=>?_
  refine⟨H0,G1,env,bj,o1.bind.imp λl rO G2 H2 g2=>?_⟩
  refine⟨H0,G2,env,bj.grow g2,(rO.grow g2).bind.imp λh' SN G3 H3 g3=>?_⟩
  obtain⟨r,hr,kr⟩:=(SN.grow g3).val (λc=>qE c)
  exact⟨H0,G3,p,r,((bj.grow g2).grow g3).sub,t1.top.grow (g2.trans g3),hr,λw G' H' g' gu=>kr w G' H' (((g1.trans g2).trans g3).trans g') (.of gu)⟩
def Bm{CX:w6}{f:Addr}{fd:FuncData}{ps:List Str}{sp:Sp}{E:XK}{aa:List (Addr×Obj)}{σ:St}{H:Hp}{s:Shared}{Q:VK}{us:List Value}{vs:List V}(FO:f9 X.prog X.w X.K X.mg X.base CX k f fd ps sp)(hr:eJ k X.A)(hb:Binds X.K fd ps [])
 (hx:∀e s',CX X.stack H s E e s'->X.xe e s') (I:Inv X aa σ H s) (r:Vals vs us) (h:sp vs H Q E):wpAny (model X.prog X.w) X.A (call (.ref f) us) (EP X aa σ Q) X.xe s:=by
 have hl:us.length=ps.length:=by rw [<-r.length];exact FO.len _ _ _ _ h
 have hb':=hb s us I.sX (by rw [zz6];exact hl)
 rw [zz6] at hb';refine wpAny_call (codeAny_mono (FO.run X.A X.stack s H ⟨us,[]⟩ us vs Q E hr I.Ho hb' r h) λr s' hq=>?_)
 cases r with
 |error e=>exact hx e s' hq
 |ok fl=>
  cases fl with
  |ret u=>exact I.after hq
  |next=>exact zzk hq
  |brk=>exact zzk hq
  |cont=>exact zzk hq
def JE.imp{P:Program}{w:World}{outer:List Env}{H:Hp}{s s':Shared}{E E':XK}{e:Value}(h:gr P w outer H s E e s')(i:∀C a H',E C a H'->E' C a H'):gr P w outer H s E' e s':=by
 obtain⟨a,C,t,vs,H',B,rfl,F⟩:=h
 exact⟨a,C,t,vs,H',B,rfl,⟨F.os,F.bare,F.bu,F.Mh,F.tn,F.tup,F.i7,F.fJ,F.un,i _ _ _ F.ends⟩⟩
def lR(hr:eJ k X.A){f:Str}{fa:Addr}{fd:FuncData}{pn:List Str}{q:Option (Str×List Nat)}{aa:List (Addr×Obj)}{σ:St}{G H:Hp}{s:Shared}{Q:VK}{us:List Value}{vs:List V}{as:List PV}
 (FO:f9 X.prog X.w X.K X.mg X.base (gr X.prog X.w) k fa fd pn (AB W F f pn.length q)) (hb:Binds X.K fd pn []) (hlen:F f as≠.bad->vs.length=pn.length)
 (I:Inv X aa σ H s) (sg:az G H) (tb:cV W G H) (l:AJ W G q as vs) (r:Vals vs us) (o:Out X W (F f as) σ G H λp=>dm W G H p Q):wpAny (model X.prog X.w) X.A (call (.ref fa) us) (EP X aa σ Q) X.xe s:=by
 have Np:F f as≠.bad:=λz=>by rw [z] at o;exact o
 refine Bm (E:=λCv ao H'=>∃c,F f as=.exc c/\XE W c G H Cv ao H') FO hr hb (λe s' x=>?_) I r ⟨hlen Np,G,as,sg,tb,l,?_⟩
 ·cases z:F f as with
  |ok q=>
   obtain⟨a,C',t,vs,H',B,rfl,Fl⟩:=x
   obtain⟨c,e1,_⟩:=Fl.ends
   rw [z] at e1;cases e1
  |exc c=>
   rw [z] at o;refine o aa G H s e s' I (.refl sg) (JE.imp x λC1 a H' y=>?_);obtain⟨c',e1,y⟩:=y
   rw [z] at e1;cases e1;exact y
  |bad=>exact absurd z Np
 ·cases z:F f as with
  |ok q=>
   rw [z] at o;exact λv G' H' g' rp=>o v G' H' g' rp
  |exc c=>exact λCv ao H' x=>⟨c,rfl,x⟩
  |bad=>exact absurd z Np
def dW.rm(C:dW Γ F W N sc k X):eJ k X.A:=C.room.mono (Nat.le_succ k)
def Df(C:dW Γ F W N sc k X){f:Str}{e:E}{es:Es}{p:Expr}{ps:List Expr}{np pos:Pos}(hf:Γ.fs.contains f=true)(hg:fq sc f=true)(ho:okN f=true)(B8:kK (.cons e es)=true)(ha:GA X W F (.cons e es) (p::ps))
 (cO:starEach (p::ps) X.env=(false,eval p X.env)::starEach ps X.env) (hpl:(backTo pos (starEach ps X.env)).any (·.1)=false):GE X W F (.call f (.cons e es)) (.Call (.Name f np) (p::ps) [] pos):=by
 intro aa s σ H Q I h;obtain⟨H0,G,env,sr,o⟩:=h
 rw [aB] at o;obtain⟨fa,fd,pn,FO,hm,hk,hb,hlen⟩:=(C.fns f hf).ex
 refine wpAny_Call_Name_kw (il I (dG C hg) hm ?_ (fD ho).1);refine PySem.W.callWith_K (h₀:=X.base) I.ok.mod.Mp hk (bD (ha pos aa s σ H (λvs H1=>∃G1 as,az G1 H1/\cV W G1 H1/\ah W G1 as vs/\Out X W (F f as) σ G1 H1 λp=>dm W G1 H1 p Q) I ?_) λus s1 ⟨vs,H1,I1,r,q⟩=>⟨I1.sX,?_⟩) cO hpl
 ·refine args sr o λas vs G1 H1 g1 t bj o1=>⟨G1,as,bj.sub,bj.tab,t.rep B8,o1.imp λp hp v G' H' g' rp=>hp v G' H' (g1.trans g') (.of rp)⟩
 ·obtain⟨G1,as,sg,tb,l,o1⟩:=q
  exact lR C.rm FO hb (λz=>by rw [l.length];exact hlen as z) I1 sg tb l r o1
def zJ(C:dW Γ F W N sc k X){f:Str}{np pos:Pos}(hf:Γ.fs.contains f=true)(hg:fq sc f=true)(ho:okN f=true):GE X W F (.call f .nil) (.Call (.Name f np) [] [] pos):=by
 intro aa s σ H Q I h;obtain⟨H0,G,env,sr,o⟩:=h
 rw [aB,bp] at o;obtain⟨fa,fd,pn,FO,hm,hk,hb,hlen⟩:=(C.fns f hf).ex
 refine wpAny_Call_Name_kw (il I (dG C hg) hm ?_ (fD ho).1);refine PySem.W.callWith_K0 I.sX hk ?_;have o':Out X W (F f []) σ G H λp=>∀v G' H',aF W G H G' H'->Got W H0 G' H' (.call f .nil) p v->Q v H':=o
 exact lR (us:=[]) (vs:=[]) (as:=[]) (q:=none) C.rm FO hb (λz=>hlen [] z) I sr.sub sr.tab (show ah W G [] [] from .nil) .nil (o'.imp λp hp v G' H' g' rp=>hp v G' H' g' (.of rp))
def CT{ps:List PV}(c:Str):sj ps≠.exc c:=by
 unfold sj
 (repeat' first|split|refine k9 λ_=>?_|exact Res.aK c|exact(λz=>nomatch z))
def Bx{ps:List PV}(c:Str):yb ps≠.exc c:=by
 unfold yb
 (repeat' first|split|refine k9 λ_=>?_|exact Res.aK c|exact(λz=>nomatch z))
def BK{ps:List PV}(c:Str):AG ps≠.exc c:=by
 unfold AG
 (repeat' first|split|refine k9 λ_=>?_|exact Res.aK c|exact(λz=>nomatch z))
def Ee{ps:List PV}(c:Str):Ac ps≠.exc c:=by
 unfold Ac
 (repeat' first|split|refine k9 λ_=>?_|exact Res.aK c|exact(λz=>nomatch z))
def Dx{ps:List PV}(c:Str):xl ps≠.exc c:=by
 unfold xl
 (repeat' first|split|refine k9 λ_=>?_|exact Res.aK c|exact(λz=>nomatch z))
def Ea{ps:List PV}(c:Str):Ao ps≠.exc c:=by
 unfold Ao
 (repeat' first|split|refine k9 λ_=>?_|exact Res.aK c|exact(λz=>nomatch z))
def zA{ps:List PV}(c:Str):rD ps≠.exc c:=by
 unfold rD
 (repeat' first|split|refine k9 λ_=>?_|exact Res.aK c|exact(λz=>nomatch z))
def vM{ps:List PV}(c:Str):la ps≠.exc c:=by
 unfold la
 (repeat' first|split|refine k9 λ_=>?_|exact Res.aK c|exact(λz=>nomatch z))
def Bo{ps:List PV}(c:Str):Ag ps≠.exc c:=by
 unfold Ag
 (repeat' first|split|refine k9 λ_=>?_|exact Res.aK c|exact(λz=>nomatch z))
def xR{ps:List PV}(c:Str):m8 ps≠.exc c:=by
 unfold m8
 (repeat' first|split|refine k9 λ_=>?_|exact Res.aK c|exact(λz=>nomatch z))
def B1{ps:List PV}(c:Str):xy ps≠.exc c:=by
 unfold xy
 (repeat' first|split|refine k9 λ_=>?_|exact Res.aK c|exact(λz=>nomatch z))
def wt{b:B}{ps:List PV}(c:Str):bC b ps≠.exc c:=match b with
 |.len=>CT c|.abs=>Bx c|.max2=>BK c|.min2=>Ee c|.int=>Dx c|.str=>Ea c|.list=>zA c|.tuple=>vM c|.all=>Bo c|.dict=>xR c|.any=>B1 c
def FW(C:dW Γ F W N sc k X)(b:B){e:Expr}{es:List Expr}{t:TA}{np pos:Pos}(hg:fq sc (bN b)=true)(hm:Γ.bs.contains (bN b)=true)(ha:PA X (e::es) t)
 (he:starEach (e::es) X.env=(false,eval e X.env)::starEach es X.env) (hpl:(backTo pos (starEach es X.env)).any (·.1)=false):PE X (.Call (.Name (bN b) np) (e::es) [] pos) (M4 (vy W (bC b)) t):=by
 have p6:=C.bs _ (zzn.mp hm)
 have qa:=dG C hg
 cases b
 case len=>exact dS (vD C.K) qa p6 PySem.boot_len ha (he:=he) (hpl:=hpl)
 case abs=>exact dS vF qa p6 (by decide+kernel) ha (he:=he) (hpl:=hpl)
 case max2=>exact dS (vp C.calm) qa p6 (by decide+kernel) ha (he:=he) (hpl:=hpl)
 case min2=>exact dS (wA C.calm) qa p6 (by decide+kernel) ha (he:=he) (hpl:=hpl)
 case int=>exact dJ vR qa p6 (by decide+kernel) ha (he:=he) (hpl:=hpl)
 case str=>exact dJ vO qa p6 (by decide+kernel) ha (he:=he) (hpl:=hpl)
 case list=>exact dJ (sR C.calm C.K) qa p6 (by decide+kernel) ha (he:=he) (hpl:=hpl)
 case tuple=>exact dJ (qg C.K) qa p6 (by decide+kernel) ha (he:=he) (hpl:=hpl)
 case all=>exact dS (wC C.calm C.K) qa p6 (by decide+kernel) ha (he:=he) (hpl:=hpl)
 case any=>exact dS (vH C.calm C.K) qa p6 (by decide+kernel) ha (he:=he) (hpl:=hpl)
 case dict=>exact dJ (rf C.K C.calm C.room.units) qa p6 (by decide+kernel) ha (he:=he) (hpl:=hpl)
def Fb{op:List PV->Res PV}{es:Es}{e:E}{σ:St}{H:Hp}{Q:VK}(hn:∀ps c,op ps≠.exc c)(he:∀env,aB F e env=(bp F es env).bind λps=>op ps)(h:tE X W F e σ H Q):M4 (vy W op) (tA X W F es) σ H Q:=by
 obtain⟨H0,G,env,sr,o⟩:=h
 rw [he] at o;refine args sr o λps vs G1 H1 g1 t bj o1=>?_
 obtain⟨r,hr,kr⟩:=o1.val (hn ps)
 exact⟨H0,G1,ps,r,bj.sub,t.top,hr,λw G' H' g' gu=>kr w G' H' (g1.trans g') (.of gu)⟩
def FP(C:dW Γ F W N sc k X)(b:B){es:Es}{e:Expr}{ps:List Expr}{np pos:Pos}(hg:fq sc (bN b)=true)(hm:Γ.bs.contains (bN b)=true)(ha:GA X W F es (e::ps))
 (he:starEach (e::ps) X.env=(false,eval e X.env)::starEach ps X.env) (hpl:(backTo pos (starEach ps X.env)).any (·.1)=false):GE X W F (.blt b es) (.Call (.Name (bN b) np) (e::ps) [] pos):=
 (FW C b hg hm ha he hpl).imp λσ H Q h=>Fb (λps c=>wt c) (λenv=>by rw [aB]) h
def Af{t:Ty}{p:PV}(c:Str):eU t p≠.exc c:=by
 cases p<;>exact λz=>nomatch z
def Ip(C:dW Γ F W N sc k X)(t:Ty){pos:Pos}(hg:fq sc (Str.ofString (si t))=true)(hm:Γ.bs.contains (Str.ofString (si t))=true):PE X (.Name (Str.ofString (si t)) pos) (tC (.ty (si t))):=by
 have p6:=C.bs _ (zzn.mp hm)
 have qa:=dG C hg
 cases t
 all_goals exact DY qa p6 (u:=.type _) (by decide+kernel) rfl (by decide+kernel) (by decide+kernel)
def LO(C:dW Γ F W N sc k X){t:Ty}{a:E}{pa:Expr}{np tp pos:Pos}(hi:fq sc "isinstance"=true)(hb:Γ.bs.contains "isinstance"=true)(hg:fq sc (Str.ofString (si t))=true)(hm:Γ.bs.contains (Str.ofString (si t))=true)(ha:GE X W F a pa)
 (cO:∀env ps,starEach (pa::ps) env=(false,eval pa env)::starEach ps env):GE X W F (.ty t a) (.Call (.Name "isinstance" np) [pa,.Name (Str.ofString (si t)) tp] [] pos):=by
 refine(dS (yi C.K t) (dG C hi) (C.bs _ (zzn.mp hb)) (by decide+kernel) (bS ha (bS (Ip C t hg hm) c8) (cO _ _)) (he:=cO _ _)).imp λσ H Q h=>?_
 obtain⟨H0,G,env,sr,o⟩:=h
 rw [aB] at o;refine one sr o λp v G1 H1 g1 t1 bj o1=>?_
 obtain⟨r,hr,kr⟩:=o1.val (λc=>Af c)
 exact⟨v,H0,G1,p,r,rfl,bj.sub,t1.top,hr,λw G' H' g' gu=>kr w G' H' (g1.trans g') (.of gu)⟩
def SR.set{H0 G H:Hp}{env:Sl}{σ:St}{p:PV}{v:V}(i:Nat)(r:SR W H0 env σ G H)(h:Rep W G p v):SR W H0 (env.set i (.val p)) (σ.set i (some v)) G H where
 len:=by simpa using r.len
 sub:=r.sub
 tab:=r.tab
 mF:=r.mF
 base:=r.base
 slot:=λj s e=>by
  by_cases hj:i=j
  ·subst hj;have cQ:i<env.length:=by
    have:=(zzH.mp e).1
    simpa using this
   rw [zzo cQ] at e;cases e;exact⟨some v,zzo (by rw [<-r.len];exact cQ),v,rfl,h⟩
  ·rw [zzS hj] at e;obtain⟨o,h1,h2⟩:=r.slot j s e
   exact⟨o,by rw [zzS hj];exact h1,h2⟩
 apart:=λa b q q' ad e1 e2 e3 e4=>by
  have ne:∀{c:Nat} {q:PV},(env.set i (.val p))[c]?=some (.own q)->i≠c:=λ{c q} e z=>by
   subst z;have cQ:i<env.length:=by
    have:=(zzH.mp e).1
    simpa using this
   rw [zzo cQ] at e;cases e
  have n1:=ne e1
  have n2:=ne e2
  rw [zzS n1] at e1 e3;rw [zzS n2] at e2 e4;exact r.apart a b q q' ad e1 e2 e3 e4
noncomputable def gT(K:zz8):Tg->TG
 |.one i=>dj i
 |.two i j=>Bj K 2 (fR (dj i) (fR (dj j) zW))
 |.three i j l=>Bj K 3 (fR (dj i) (fR (dj j) (fR (dj l) zW)))
 |.four i j l m=>Bj K 4 (fR (dj i) (fR (dj j) (fR (dj l) (fR (dj m) zW))))
def sx{K:zz8}(hK:W.K=K){tg:Tg}{H0 G H:Hp}{env ag:Sl}{σ:St}{p:PV}{v:V}{Q:St->Hp->Prop}(e:Tg.put tg p env=.ok ag)(r:SR W H0 env σ G H)(h:Rep W G p v)(hq:∀σ',SR W H0 ag σ' G H->Q σ' H):gT K tg v σ H Q:=by
 unfold Tg.put at e;split at e
 ·cases e;exact hq _ (r.set _ h)
 ·cases e;simp! [Rep] at h;obtain⟨a,vs,rfl,sq,l⟩:=h
  obtain⟨v1,r1,rfl,h1,l⟩:=l.aR
  obtain⟨v2,r2,rfl,h2,l⟩:=l.aR
  simp! [ah] at l;subst l;rw [hK] at sq;exact⟨a,_,rfl,az.tup r.sub sq.sq,rfl,_,_,rfl,_,_,rfl,rfl,hq _ ((r.set _ h1).set _ h2)⟩
 ·cases e;simp! [Rep] at h;obtain⟨a,vs,rfl,sq,l⟩:=h
  obtain⟨v1,r1,rfl,h1,l⟩:=l.aR
  obtain⟨v2,r2,rfl,h2,l⟩:=l.aR
  obtain⟨v3,r3,rfl,h3,l⟩:=l.aR
  simp! [ah] at l;subst l;rw [hK] at sq;exact⟨a,_,rfl,az.tup r.sub sq.sq,rfl,_,_,rfl,_,_,rfl,_,_,rfl,rfl,hq _ (((r.set _ h1).set _ h2).set _ h3)⟩
 ·cases e;simp! [Rep] at h;obtain⟨a,vs,rfl,sq,l⟩:=h
  obtain⟨v1,r1,rfl,h1,l⟩:=l.aR
  obtain⟨v2,r2,rfl,h2,l⟩:=l.aR
  obtain⟨v3,r3,rfl,h3,l⟩:=l.aR
  obtain⟨v4,r4,rfl,h4,l⟩:=l.aR
  simp! [ah] at l;subst l;rw [hK] at sq;exact⟨a,_,rfl,az.tup r.sub sq.sq,rfl,_,_,rfl,_,_,rfl,_,_,rfl,_,_,rfl,rfl,hq _ ((((r.set _ h1).set _ h2).set _ h3).set _ h4)⟩
 ·cases e
def ym{x:Str}(fx:X.env.scope=sc)(h:fv sc x=true):Loc X.env.scope x:=by
 rw [fx];unfold fv at h;simp! [zzt,zzy] at h;exact h
def E3{fn:Str->Bool}{i:Nat}{p:Expr}(hN:X.N=N)(nd:N.Nodup)(fx:X.env.scope=sc)(rR:∀x,fn x=true->X.fn x=true)(h:N4 N sc fn i p=true):PG X p (dj i)/\∃x q,p=.Name x q:=by
 obtain⟨x,hx,h2⟩:=ai h
 obtain⟨q,rfl⟩:=eW hx
 simp! [zza,zzy,zzt] at h2;refine⟨CQ (by rw [hN];exact nd) (by rw [hN];exact h2.1.1) (ym fx h2.1.2) ?_,x,q,rfl⟩;rcases h2.2 with z|z
 ·exact .inl (rR x z)
 ·exact .inr (by rw [fx];exact z)
def Rv:List Nat->Ez
 |[]=>zW
 |i::is=>fR (dj i) (Rv is)
theorem pA{fn:Str->Bool}(hN:X.N=N)(nd:N.Nodup)(fx:X.env.scope=sc)(rR:∀x,fn x=true->X.fn x=true):∀(is:List Nat) (es:List Expr),Ae N sc fn is es=true->KG X es (Rv is)/\(assignEach es X.env).length=is.length/\(assignEach es X.env).findIdx? (·.1)=none
 |[],[],_=>⟨BR,rfl,rfl⟩
 |i::is,a::as,h=>by
  have h:=ay h
  obtain⟨g1,x,p,rfl⟩:=E3 hN nd fx rR h.1
  obtain⟨g,l,f⟩:=pA hN nd fx rR is as h.2
  have e:assignEach (.Name x p::as) X.env=(false,assign (.Name x p) X.env)::assignEach as X.env:=rfl
  refine⟨zm g1 g,by rw [e,zzL,l,zzL],?_⟩;rw [e,List.findIdx?_cons,f]
  rfl
 |[],_::_,h=>bG h
 |_::_,[],h=>bG h
def yx{fn:Str->Bool}{tg:Tg}{p:Expr}(hN:X.N=N)(nd:N.Nodup)(fx:X.env.scope=sc)(hc:X.calm=true)(rR:∀x,fn x=true->X.fn x=true)(h:gC N sc fn tg p=true):PG X p (gT X.K tg):=by
 cases tg with
 |one i=>exact(E3 hN nd fx rR h).1
 |two i j=>
  obtain⟨es,h1,h2⟩:=ai h
  obtain⟨k,q,rfl⟩:=jz h1
  obtain⟨g,l,f⟩:=pA hN nd fx rR _ _ h2
  exact tj hc g l f
 |three i j l=>
  obtain⟨es,h1,h2⟩:=ai h
  obtain⟨k,q,rfl⟩:=jz h1
  obtain⟨g,l,f⟩:=pA hN nd fx rR _ _ h2
  exact tj hc g l f
 |four i j l m=>
  obtain⟨es,h1,h2⟩:=ai h
  obtain⟨k,q,rfl⟩:=jz h1
  obtain⟨g,l,f⟩:=pA hN nd fx rR _ _ h2
  exact tj hc g l f
def k7(W:Wd)(J:It)(G B:Hp)(ps:List PV):Prop:=∀(i:Nat) (G' H':Hp),az G G'->gR B H'->az G' H'->
 (i=ps.length->J.stop i H')/\∀p,ps[i]?=some p->J.go i H'/\∀x kH,J.JB i H' x kH->∃uR,aF W G' H' uR kH/\Rep W uR p x
structure Iz(W:Wd)(G H:Hp)(it:I)(J:It)(ps:List PV):Prop where
 any:k7 W J G H ps
 cX:D2 it=true->k7 W J G G ps
noncomputable def tI(X:Cx)(W:Wd)(F:aH)(it:I):TI:=λσ H R=>∃H0 G env,SR W H0 env σ G H/\Out X W (oq F it env) σ G H λps=>∀J G' H',aF W G H G' H'->Iz W G' H' it J ps->R J H'
abbrev GI(X:Cx)(W:Wd)(F:aH)(tg:Expr)(it:I)(p:Expr):Prop:=PI X tg p (tI X W F it)
theorem uy(hK:W.K=X.K){G B:Hp}{a:Addr}{vs:List V}{ps:List PV}(h:nC W.K B a vs)(l:ah W G ps vs):k7 W (OV X.K a) G B ps:=λi G' H' sG sB sub=>by
 have hq:dz X.K H' a vs:=hZ hK (gR.ls sB h)
 refine⟨λhi=>⟨vs,hq,by rw [l.length];omega⟩,λp hp=>?_⟩
 obtain⟨v,hv,rv⟩:=l.oj hp
 refine⟨⟨vs,v,hq,hv⟩,λx kH hy=>?_⟩
 obtain⟨rfl,hy⟩:=hy
 have:=hy vs hq
 rw [hv] at this;cases this;exact⟨G',.refl sub,Rep.same sG p rv⟩
theorem yY{K:zz8}{G B:Hp}{a:Addr}{vs:List V}{ps:List PV}(h:eE K B a vs)(l:ah W G ps vs):k7 W (Nc K a) G B ps:=λi G' H' sG sB sub=>by
 have hq:eE K H' a vs:=gR.tup sB h
 refine⟨λhi=>⟨vs,hq,by rw [l.length];omega⟩,λp hp=>?_⟩
 obtain⟨v,hv,rv⟩:=l.oj hp
 refine⟨⟨vs,v,hq,hv⟩,λx kH hy=>?_⟩
 obtain⟨rfl,hy⟩:=hy
 have:=hy vs hq
 rw [hv] at this;cases this;exact⟨G',.refl sub,Rep.same sG p rv⟩
def y7{G B:Hp}{a:Addr}{o:Obj}{ks:List (List Int)}{us:List V}(n:ks.length=us.length)(h:B a=some (.cX o (.dT (kz ks us)))):k7 W (PU a o (kz ks us)) G B (ks.map af):=λi G' H' sG sB sub=>by
 have hq:H' a=some (.cX o (.dT (kz ks us))):=sB.at h (λ_ z=>nomatch z)
 refine⟨λhi=>⟨hq,by rw [oH n];rw [zzl] at hi;omega⟩,λp hp=>?_⟩
 rw [zzQ] at hp;obtain⟨k,hk,rfl⟩:=zzJ.mp hp
 have hi:i<ks.length:=(zzH.mp hk).1
 refine⟨⟨hq,by rw [oH n];exact hi⟩,λx kH hy=>?_⟩
 obtain⟨rfl,b,k',v,rfl,e2,e3⟩:=hy
 have ek:k'=ki k:=by
  have:=congrArg (λl=>l[i]?) (BW (us:=us) n)
  simp! [zzQ,e2,hk,Option.map_some] at this;exact zzq this
 rw [ek,sQ] at e3;obtain⟨G2,g2,l2⟩:=nN (W:=W) (vs:=[.ref b]) (nss:=[k]) sub (.cons ⟨b,rfl,e3⟩ .nil)
 obtain⟨w,r,ew,hw,_⟩:=l2.aR
 cases ew;exact⟨G2,g2,hw⟩
def wD{z:Str}{i:Nat}{p:PV}(h:(chars z)[i]?=some p):∃c,z.cps[i]?=some c/\p=.str ⟨#[c]⟩:=by
 unfold chars at h;rw [zzQ] at h;obtain⟨c,hc,rfl⟩:=zzJ.mp h
 rw [Array.getElem?_toList] at hc;exact⟨c,hc,rfl⟩
def vB(z:Str):(chars z).length=z.cps.size:=by unfold chars;rw [zzl,zzd]
theorem o8{G B:Hp}(lo:Int)(n:Nat):k7 W (Lz lo n) G B (dN lo n):=λi G' H' sG sB sub=>by
 unfold dN;refine⟨λhi=>by rw [zzl,List.length_range] at hi;exact Nat.le_of_eq hi.symm,λp hp=>?_⟩
 rw [zzQ] at hp;obtain⟨c,hc,rfl⟩:=zzJ.mp hp
 obtain⟨h1,h2⟩:=zzH.mp hc
 rw [List.length_range] at h1;rw [List.getElem_range] at h2;subst h2;refine⟨h1,λx kH hy=>?_⟩
 obtain⟨rfl,rfl⟩:=hy
 exact⟨G',.refl sub,.i⟩
def j3{G H:Hp}{p q:PV}{v u:V}{a:Addr}(sub:az G H)(ha:H a=none)(h1:Rep W G p v)(h2:Rep W G q u):∃uR,aF W G H uR (upd H a (.tup [v,u]))/\Rep W uR (.tup [p,q]) (.ref a):=
 ⟨_,.new sub ha,.t (.inl ax) (ah.same (bf (sub.free ha)) _ (.cons h1 (.cons h2 .nil)))⟩
theorem iu:∀{xs:List PV} {n i:Nat} {p:PV},(bL n xs)[i]?=some p->∃x,xs[i]?=some x/\p=.tup [.int ((n+i:Nat):Int),x]
 |[],_,_,_,h=>by simp [bL] at h
 |x::xs,n,0,p,h=>by simp [bL] at h;exact⟨x,rfl,by rw [<-h];simp⟩
 |x::xs,n,i+1,p,h=>by
  simp! [bL,List.getElem?_cons_succ] at h;obtain⟨y,h1,h2⟩:=iu h
  exact⟨y,by simpa using h1,by rw [h2,show n+1+i=n+(i+1) by omega]⟩
theorem bW:∀(xs:List PV) (n:Nat),(bL n xs).length=xs.length
 |[],_=>rfl
 |_::xs,n=>by simp! [bL,zzL,bW xs]
theorem qS{K:zz8}{G B:Hp}{a:Addr}{vs:List V}{ps:List PV}(h:eE K B a vs)(l:ah W G ps vs):k7 W (PR K a vs) G B (bL 0 ps):=λi G' H' sG sB sub=>by
 have hq:eE K H' a vs:=gR.tup sB h
 refine⟨λhi=>⟨hq,by rw [bW] at hi;rw [l.length];exact hi⟩,λp hp=>?_⟩
 obtain⟨x,hx,rfl⟩:=iu hp
 obtain⟨v,hv,rv⟩:=l.oj hx
 refine⟨⟨hq,(zzH.mp hv).1⟩,λy kH hy=>?_⟩
 obtain⟨b,x',rfl,hb,rfl,p8⟩:=hy
 rw [hv] at p8;cases p8;rw [Nat.zero_add];exact j3 sub hb .i (Rep.same sG x rv)
theorem lB(hK:W.K=X.K){G B:Hp}{a:Addr}{vs:List V}{ps:List PV}(h:nC W.K B a vs)(l:ah W G ps vs):k7 W (Gg X.K a vs) G B (bL 0 ps):=λi G' H' sG sB sub=>by
 have hq:dz X.K H' a vs:=hZ hK (gR.ls sB h)
 refine⟨λhi=>⟨hq,by rw [bW] at hi;rw [l.length];exact hi⟩,λp hp=>?_⟩
 obtain⟨x,hx,rfl⟩:=iu hp
 obtain⟨v,hv,rv⟩:=l.oj hx
 refine⟨⟨hq,(zzH.mp hv).1⟩,λy kH hy=>?_⟩
 obtain⟨b,x',rfl,hb,rfl,p8⟩:=hy
 rw [hv] at p8;cases p8;rw [Nat.zero_add];exact j3 sub hb .i (Rep.same sG x rv)
theorem qt{G B:Hp}(z:Str):k7 W (MK z) G B (bL 0 (chars z)):=λi G' H' sG sB sub=>by
 refine⟨λhi=>by rw [bW,vB] at hi;exact hi,λp hp=>?_⟩
 obtain⟨x,hx,rfl⟩:=iu hp
 obtain⟨c,hc,rfl⟩:=wD hx
 refine⟨(Array.getElem?_eq_some_iff.mp hc).1,λy kH hy=>?_⟩
 obtain⟨b,c',rfl,hb,rfl,p9⟩:=hy
 rw [hc] at p9;cases p9;rw [Nat.zero_add];exact j3 sub hb .i .s
def Ni(W:Wd)(G:Hp)(t:Zt)(xs:List PV):Prop:=(if t.1=true then nC W.K G t.2.1 t.2.2 else Gk W.K G t.2.1 t.2.2)/\ah W G xs t.2.2
theorem yh{G:Hp}:∀{ps:List PV} {vs:List V} {xss:List (List PV)},ah W G ps vs->gv ps=some xss->∃ts:List Zt,vs=ts.map (λt=>V.ref t.2.1)/\Paired (Ni W G) ts xss
 |[],vs,xss,l,h=>by
  simp! [ah] at l;subst l;cases h;exact⟨[],rfl,.nil⟩
 |p::ps,vs,xss,l,h=>by
  obtain⟨v,r,rfl,h1,h2⟩:=l.aR
  obtain⟨xs,e1,h⟩:=zzZ.1 (show(Bv p).bind (λxs=>(gv ps).map (xs::·))=some xss from h)
  obtain⟨yss,e2,rfl⟩:=zzJ.1 h
  obtain⟨ts,rfl,pd⟩:=yh h2 e2
  cases p with
  |lst ys=>
   cases e1;simp! [Rep] at h1;obtain⟨a,us,rfl,k,m⟩:=h1
   exact⟨(true,a,us)::ts,rfl,.cons ⟨k,m⟩ pd⟩
  |tup ys=>
   cases e1;simp! [Rep] at h1;obtain⟨a,us,rfl,k,m⟩:=h1
   exact⟨(false,a,us)::ts,rfl,.cons ⟨k,m⟩ pd⟩
  |_=>cases e1
theorem uY:∀{xss:List (List PV)},∀xs∈xss,iI xss<=xs.length
 |[xs],ys,h=>by rw [zzi.1 h];exact zzE _
 |xs::y::r,ys,h=>by
  show min xs.length (iI (y::r))<=_
  rcases zzm.1 h with rfl|h
  ·exact Nat.min_le_left ..
  ·exact zzU (Nat.min_le_right ..) (uY ys h)
theorem u6:∀{xss:List (List PV)},xss≠[]->∃xs∈xss,xs.length=iI xss
 |[xs],_=>⟨xs,zzi.2 rfl,rfl⟩
 |xs::y::r,_=>by
  show∃zs∈xs::y::r,zs.length=min xs.length (iI (y::r))
  rcases Nat.le_total xs.length (iI (y::r)) with h|h
  ·exact⟨xs,zzP ..,(Nat.min_eq_left h).symm⟩
  ·obtain⟨zs,h1,h2⟩:=u6 (xss:=y::r) (List.cons_ne_nil _ _)
   exact⟨zs,zzI _ h1,by rw [h2,Nat.min_eq_right h]⟩
theorem uw{G:Hp}{i:Nat}:∀{ts:List Zt} {xss:List (List PV)} {ys:List V},Paired (Ni W G) ts xss->Paired (λ(q:Zt) y=>q.2.2[i]?=some y) ts ys->ah W G (xss.map λxs=>xs.getD i .aC) ys
 |_,_,_,.nil,.nil=>.nil
 |_,_,_,.cons r t,.cons u v=>by
  obtain⟨p,hp,rp⟩:=r.2.get u
  refine .cons ?_ (uw t v);dsimp only;rw [zzK,hp];exact rp
def zX(hK:W.K=X.K){G B:Hp}{ts:List Zt}{xss:List (List PV)}(hn:ts≠[])(h:Paired (Ni W G) ts xss)(hB:az G B):k7 W (OP X.K ts) G B (gk xss):=λi G' H' sG sB sub=>by
 have sq:∀t∈ts,Zq X.K H' t:=λt ht=>by
  obtain⟨xs,_,r⟩:=eR h t ht
  have:=r.1
  unfold Zq;split
  ·rename_i e;rw [if_pos e] at this;exact hZ hK (az.ls (λa o z=>sub a o (sG a o z)) this)
  ·rename_i e;rw [if_neg e] at this;exact hK▸az.tup (λa o z=>sub a o (sG a o z)) this.sq
 have len:∀t∈ts,iI xss<=t.2.2.length:=λt ht=>by
  obtain⟨xs,h1,r⟩:=eR h t ht
  rw [r.2.length];exact uY xs h1
 have zl:(gk xss).length=iI xss:=by simp [gk]
 refine⟨λhi=>?_,λp hp=>?_⟩
 ·rw [zl] at hi;subst hi;refine⟨λt ht=>⟨sq t ht,len t ht⟩,?_⟩
  have hx:xss≠[]:=λz=>by subst z;cases h;exact hn rfl
  obtain⟨xs,h1,h2⟩:=u6 hx
  obtain⟨t,ht,r⟩:=cC h xs h1
  exact⟨t,ht,by rw [r.2.length,h2]⟩
 ·have hi:i<iI xss:=by rw [<-zl];exact(zzH.1 hp).1
  have OX:p=.tup (xss.map λxs=>xs.getD i .aC):=by
   unfold gk at hp;rw [zzQ,List.getElem?_range hi] at hp;exact(zzq hp).symm
  refine⟨λt ht=>⟨sq t ht,zzW hi (len t ht)⟩,λx kH hy=>?_⟩
  obtain⟨a,ys,rfl,ha,rfl,py⟩:=hy
  subst OX;refine⟨_,.new sub ha,.t (.inl ax) (ah.same (bf (sub.free ha)) _ (ah.same sG _ (uw h py)))⟩
theorem yI(hK:W.K=X.K){G B:Hp}{a:Addr}{vs:List V}{ps:List PV}(h:nC W.K B a vs)(l:ah W G ps vs):k7 W (Nd X.K a vs) G B ps.reverse:=λi G' H' sG sB sub=>by
 have hq:dz X.K H' a vs:=hZ hK (gR.ls sB h)
 refine⟨λhi=>⟨hq,by rw [hi,List.length_reverse,l.length]⟩,λp hp=>?_⟩
 have hi:=(zzH.1 hp).1
 rw [List.length_reverse] at hi;refine⟨⟨hq,by rw [l.length];exact hi⟩,λx kH hy=>?_⟩
 obtain⟨rfl,hy⟩:=hy
 obtain⟨q,l8,rq⟩:=l.get hy
 rw [List.getElem?_reverse hi,<-l.length,l8] at hp;cases hp;exact⟨G',.refl sub,Rep.same sG _ rq⟩
def eK{e:E}{σ:St}{H0 G H:Hp}{env:Sl}{Q:VK}{p:PV}(sr:SR W H0 env σ G H)(e1:aB F e env=.ok p)(h:∀v G1 H1,aF W G H G1 H1->Got W H0 G1 H1 e p v->Q v H1):tE X W F e σ H Q:=⟨H0,G,env,sr,by rw [e1];exact h⟩
def yR{e:E}{σ:St}{H0 G H:Hp}{env:Sl}{Q:VK}{c:Str}(sr:SR W H0 env σ G H)(e1:aB F e env=.exc c)(h:uj X W σ c G H):tE X W F e σ H Q:=⟨H0,G,env,sr,by rw [e1];exact h⟩
def Fp(C:dW Γ F W N sc k X){tg p:Expr}{e:E}(he:GE X W F e p):GI X W F tg (.seq e) p:=by
 intro aa s σ H R I h;obtain⟨H0,G,env,sr,o⟩:=h
 rw [oq] at o;cases r:aB F e env with
 |bad=>rw [r] at o;exact o.elim
 |exc c=>rw [r] at o;exact vc he aa s σ H R I (yR sr r o)
 |ok q=>
  rw [r] at o;cases q with
  |lst xs=>
   refine vc he aa s σ H R I (eK sr r λv G1 H1 g1 t=>?_);have t':=t
   obtain⟨a,vs,rfl,h1,l1⟩:=t.top.lst g1.sub
   refine⟨a,rfl,⟨vs,hZ C.K h1⟩,o _ G1 H1 g1 ⟨uy C.K h1 l1,λz=>?_⟩⟩
   have rp:=t'.rep z
   simp! [Rep] at rp;obtain⟨a',EK,e1,h2,l2⟩:=rp
   cases e1;exact uy C.K h2 l2
  |tup xs=>
   refine HD he aa s σ H R I (eK sr r λv G1 H1 g1 t=>?_);have t':=t
   obtain⟨a,vs,rfl,h1,l1⟩:=t.top.tup g1.sub
   rw [C.K] at h1;refine⟨a,rfl,⟨vs,h1⟩,o _ G1 H1 g1 ⟨yY h1 l1,λz=>?_⟩⟩
   have rp:=t'.rep z
   simp! [Rep] at rp;obtain⟨a',EK,e1,h2,l2⟩:=rp
   cases e1;rw [C.K] at h2;exact yY h2.sq l2
  |str z=>exact zzk o
  |int _=>exact zzk o
  |bl _=>exact zzk o
  |aC=>exact zzk o
  |exc _=>exact zzk o
  |bx ks qs=>
   by_cases JX:fk e=true
   ·have Tq:rH e (.bx ks qs)=.ok (ks.map af):=by
     cases e<;>first|rfl|exact bG JX
    have o2:Out X W (rH e (.bx ks qs)) σ G H λps=>∀(J:It) (G' H':Hp),aF W G H G' H'->Iz W G' H' (Ci.I.seq e) J ps->R J H':=o
    rw [Tq] at o2;refine Gu he aa s σ H R I (eK sr r λv G1 H1 g1 t=>?_);have rp:=t.rep JX
    simp! [Rep] at rp;obtain⟨a,ob,us,rfl,n,h1,l1⟩:=rp
    exact⟨a,ob,_,rfl,g1.sub _ _ h1,o2 _ G1 H1 g1 ⟨y7 n (g1.sub _ _ h1),λ_=>y7 n h1⟩⟩
   ·have:∃i,e=.hV i:=by
     cases e<;>first|exact⟨_,rfl⟩|exact absurd rfl JX
    obtain⟨i,rfl⟩:=this
    exact zzk o
def du{i:Int}(h:aM i=true): -(2^62)<=i/\i<2^62:=by
 unfold aM at h
 simpa using h
def Fg(C:dW Γ F W N sc k X){tg p:Expr}{e:E}{np pos:Pos}(hg:fq sc "range"=true)(hb:Γ.bs.contains "range"=true)(cO:∀env ps,starEach (p::ps) env=(false,eval p env)::starEach ps env)(he:GE X W F e p):GI X W F tg (.mG e) (.Call (.Name "range" np) [p] [] pos):=by
 intro aa s σ H R I h;refine vQ (dG C hg) (C.bs _ (zzn.mp hb)) (bS he c8 (cO _ _)) (cO _ _) aa s σ H R I ?_;obtain⟨H0,G,env,sr,o⟩:=h
 rw [oq] at o;refine one sr o λq v G1 H1 g1 t bj o1=>?_
 cases q with
 |int j=>
  by_cases hj:aM j=true
  ·have o2:Out X W (if aM j=true then Res.ok (dN 0 j.toNat) else .bad) σ G1 H1 _:=o1
   rw [if_pos hj] at o2;exact⟨j,by rw [t.top.int],(du hj).1,(du hj).2,o2 _ G1 H1 g1 ⟨o8 _ _,λ_=>o8 _ _⟩⟩
  ·have o2:Out X W (if aM j=true then Res.ok (dN 0 j.toNat) else .bad) σ G1 H1 _:=o1
   rw [if_neg hj] at o2;exact o2.elim
 |bl _=>exact zzk o1
 |aC=>exact zzk o1
 |str _=>exact zzk o1
 |tup _=>exact zzk o1
 |lst _=>exact zzk o1
 |exc _=>exact zzk o1
 |bx _ _=>exact zzk o1
def D8(C:dW Γ F W N sc k X){tg p q:Expr}{a b:E}{np pos:Pos}(hg:fq sc "range"=true)(hb:Γ.bs.contains "range"=true)(cO:∀env ps,starEach (p::ps) env=(false,eval p env)::starEach ps env)(IA:∀env ps,starEach (q::ps) env=(false,eval q env)::starEach ps env)
 (ha:GE X W F a p) (hb':GE X W F b q):GI X W F tg (.pI a b) (.Call (.Name "range" np) [p,q] [] pos):=by
 intro aa s σ H R I h;refine vL (dG C hg) (C.bs _ (zzn.mp hb)) (bS ha (bS hb' c8 (IA _ _)) (cO _ _)) (by rw [cO,IA];rfl) (IA _ _) aa s σ H R I ?_;obtain⟨H0,G,env,sr,o⟩:=h
 rw [oq] at o;refine one sr o λx v G1 H1 g1 t bj o1=>one bj o1 λy u G2 H2 g2 t2 gb o2=>?_
 cases x<;>cases y<;>first
  |(exact zzk o2)
  | (rename_i i j
     by_cases hj:(aM i&&aM j)=true
     ·have o3:Out X W (if(aM i&&aM j)=true then Res.ok (dN i (j-i).toNat) else .bad) σ G2 H2 _:=o2
      rw [if_pos hj] at o3;rw [zza] at hj;exact⟨i,j,by rw [t.top.int,t2.top.int],⟨(du hj.1).1,(du hj.1).2,(du hj.2).1,(du hj.2).2⟩,o3 _ G2 H2 (g1.trans g2) ⟨o8 _ _,λ_=>o8 _ _⟩⟩
     ·have o3:Out X W (if(aM i&&aM j)=true then Res.ok (dN i (j-i).toNat) else .bad) σ G2 H2 _:=o2
      rw [if_neg hj] at o3;exact o3.elim)
def Bs(C:dW Γ F W N sc k X){elts:List Expr}{x1:Nat}{jd:Pos}{p:Expr}{e:E}{np pos:Pos}(hg:fq sc "enumerate"=true)(hb:Γ.bs.contains "enumerate"=true)(cO:∀env ps,starEach (p::ps) env=(false,eval p env)::starEach ps env)(he:GE X W F e p):
 GI X W F (.Tuple elts x1 jd) (.enum e) (.Call (.Name "enumerate" np) [p] [] pos):=by
 intro aa s σ H R I h;have qa:=dG C hg
 have p6:=C.bs _ (zzn.mp hb)
 have pa:=bS he c8 (cO _ _)
 obtain⟨H0,G,env,sr,o⟩:=h
 rw [oq] at o;cases r:aB F e env with
 |bad=>rw [r] at o;exact o.elim
 |exc c=>rw [r] at o;exact qR qa p6 pa (cO _ _) aa s σ H R I (yR sr r o)
 |ok q=>
  rw [r] at o;cases q with
  |lst xs=>
   refine qR qa p6 pa (cO _ _) aa s σ H R I (eK sr r λv G1 H1 g1 t=>?_)
   by_cases hz:fk e=true
   ·have rp:=t.rep hz
    simp! [Rep] at rp;obtain⟨a,vs,rfl,h2,l2⟩:=rp
    exact⟨a,vs,rfl,hZ C.K (az.ls g1.sub h2),o _ G1 H1 g1 ⟨lB C.K (az.ls g1.sub h2) l2,λ_=>lB C.K h2 l2⟩⟩
   ·obtain⟨a,vs,rfl,h1,l1⟩:=t.top.lst g1.sub
    exact⟨a,vs,rfl,hZ C.K h1,o _ G1 H1 g1 ⟨lB C.K h1 l1,λz=>absurd z hz⟩⟩
  |tup xs=>
   refine x5 qa p6 pa (cO _ _) aa s σ H R I (eK sr r λv G1 H1 g1 t=>?_);have t':=t.top
   rcases t' with rp|z
   ·simp! [Rep] at rp;obtain⟨a,vs,rfl,h2,l2⟩:=rp
    rw [C.K] at h2;exact⟨a,vs,rfl,az.tup g1.sub h2.sq,o _ G1 H1 g1 ⟨qS (az.tup g1.sub h2.sq) l2,λz=>qS h2.sq l2⟩⟩
   ·exact z.elim
  |str z=>exact za qa p6 pa (cO _ _) aa s σ H R I (eK sr r λv G1 H1 g1 t=>⟨z,by rw [t.top.str],o _ G1 H1 g1 ⟨qt z,λ_=>qt z⟩⟩)
  |int _=>exact zzk o
  |bl _=>exact zzk o
  |aC=>exact zzk o
  |exc _=>exact zzk o
  |bx _ _=>exact zzk o
def Iy(C:dW Γ F W N sc k X){elts:List Expr}{x1:Nat}{jd:Pos}{p:Expr}{ps:List Expr}{as:Es}{np pos:Pos}(hg:fq sc "zip"=true)(hb:Γ.bs.contains "zip"=true)(B8:kK as=true)(hn:gB as=2\/gB as=3)(ha:GA X W F as (p::ps))
 (cO:starEach (p::ps) X.env=(false,eval p X.env)::starEach ps X.env) (hpl:(backTo pos (starEach ps X.env)).any (·.1)=false):GI X W F (.Tuple elts x1 jd) (.zip as) (.Call (.Name "zip" np) (p::ps) [] pos):=by
 intro aa s σ H R I h;refine D9 (dG C hg) (C.bs _ (zzn.mp hb)) ha cO hpl aa s σ H R I ?_;obtain⟨H0,G,env,sr,o⟩:=h
 rw [oq] at o;refine⟨H0,G,env,sr,?_⟩;cases r:bp F as env with
 |bad=>rw [r] at o;exact o
 |exc c=>rw [r] at o;exact o
 |ok qs=>
  rw [r] at o;have hlen:=iq r
  intro vs G1 H1 g1 t;have l:=t.rep B8
  have o:Out X W ((Res.of (gv qs)).bind λxss=>.ok (gk xss)) σ G H λps=>∀J G' H',aF W G H G' H'->Iz W G' H' (.zip as) J ps->R J H':=o
  cases e:gv qs with
  |none=>rw [e] at o;exact zzk o
  |some xss=>
   rw [e] at o;obtain⟨ts,rfl,pd⟩:=yh l e
   have lt:ts.length=qs.length:=by have:=l.length;rwa [zzl] at this
   have eB:ts≠[]:=λz=>by subst z;simp at lt;omega
   refine⟨ts,rfl,by omega,λq hq=>?_,o _ G1 H1 g1 ⟨zX C.K eB pd g1.sub,λ_=>zX C.K eB pd (az.refl _)⟩⟩
   obtain⟨xs,_,r⟩:=eR pd q hq
   have:=r.1
   unfold Zq;split
   ·rename_i e;rw [if_pos e] at this;exact hZ C.K (az.ls g1.sub this)
   ·rename_i e;rw [if_neg e] at this;exact C.K▸az.tup g1.sub this.sq
def HS(C:dW Γ F W N sc k X){tg:Expr}{p:Expr}{e:E}{np pos:Pos}(hg:fq sc "reversed"=true)(hb:Γ.bs.contains "reversed"=true)(B8:fk e=true)(ha:GE X W F e p)(cO:∀env ps,starEach (p::ps) env=(false,eval p env)::starEach ps env):GI X W F tg (.sC e) (.Call (.Name "reversed" np) [p] [] pos):=by
 intro aa s σ H R I h;refine CB (dG C hg) (C.bs _ (zzn.mp hb)) (bS ha c8 (cO _ _)) (cO _ _) aa s σ H R I ?_;obtain⟨H0,G,env,sr,o⟩:=h
 rw [oq] at o;refine one sr o λx v G1 H1 g1 t bj o1=>?_
 cases x with
 |lst xs=>
  have rp:=t.rep B8
  simp! [Rep] at rp;obtain⟨a,vs,rfl,h1,l1⟩:=rp
  exact⟨a,vs,rfl,hZ C.K (az.ls bj.sub h1),o1 _ G1 H1 g1 ⟨yI C.K (az.ls bj.sub h1) l1,λ_=>yI C.K h1 l1⟩⟩
 |_=>exact zzk o1
end
def wR{env:Env}{x:Str}{c:Addr}(h:env.cells.lookup x=some c):cellOf env x=pure c:=by
 unfold cellOf;rw [h]
def frees(names:List (Str×NameKind)):List Str:=((names.filter λp=>p.2==.free).map (·.1)).reverse
def sU{scope:Scope}{env:Env}(h:∀y∈scope.names,y.2=.free->∃c,env.cells.lookup y.1=some c):closureFor scope env=pure (cA env (freeOf scope)):=by
 simp! [closureFor];have key:∀(names:List (Str×NameKind)) (acc:List (Str×Addr)),(∀y∈names,y.2=.free->∃c,env.cells.lookup y.1=some c)->
  (forIn (m:=Sem) names acc λx r=>if(x.2==NameKind.free)=true then do
   let c<-cellOf env x.1
   pure (ForInStep.yield ((x.1,c)::r))
   else pure (ForInStep.yield r))=pure (cA env (frees names)++acc):=by
  intro names
  induction names with
  |nil=>intro acc _;rfl
  |cons p r ih=>
   intro acc hh;obtain⟨n,kd⟩:=p
   rw [List.forIn_cons]
   by_cases hk:(kd==NameKind.free)=true
   ·obtain⟨c,hc⟩:=hh (n,kd) (by simp) (zzy.mp hk)
    simp! [hk,if_true,wR hc,pure_bind];rw [ih ((n,c)::acc) λy hy=>hh y (zzI _ hy)]
    have e:frees ((n,kd)::r)=frees r++[n]:=by
     unfold frees;rw [zz3,if_pos hk,zzF,List.reverse_cons]
    rw [e];unfold cA;rw [List.map_append,zzF,List.map_nil,List.append_assoc];show _=pure (_++([(n,(env.cells.lookup n).getD 0)]++acc))
    rw [show env.cells.lookup n=some c from hc]
    rfl
   ·simp! [hk,zze,if_false,pure_bind];rw [ih acc λy hy=>hh y (zzI _ hy)]
    have e:frees ((n,kd)::r)=frees r:=by
     unfold frees;rw [zz3,if_neg hk]
    rw [e]
 have:=key scope.names [] h
 rw [zz6] at this;simp! [bind_pure_comp,map_pure,id_map',bind_pure];exact this
section
variable{X:Cx}{W:Wd}{N:List Str}{sc:Scope}
def eV{scope:Scope}(h:X.env.scope=sc):relabel scope X.env=c7 scope sc:=by
 subst h
 rfl
structure kI(N:List Str)(sc scope:Scope)(kk:Nat)(cF:List Nat)(xs:List Str):Prop where
 kind:scope.kind=.function
 len:xs.length=kk
 nd:(xs++freeOf scope).Nodup
 LG:(scope.names.all λy=>(decide (y.2≠.cell)||!(freeOf scope).contains y.1)&&(decide (y.2≠.free)||(freeOf scope).contains y.1))=true
 own:(scope.names.all λy=>decide (y.2≠.cell)||decide (scope.names.lookup y.1=some .cell))=true
 names:(scope.names.all λy=>decide (y.2≠.local)||decide (scope.names.lookup y.1=some .local))=true
 slots:cF.map (λi=>N[i]?)=(freeOf scope).map some
 kX:((freeOf scope).all λy=>decide (sc.names.lookup y=some .cell))=true
 kY:((freeOf scope).all λy=>decide ((c7 scope sc).names.lookup y=some .cell))=true
def ie{scope:Scope}{kk:Nat}{cF:List Nat}{xs:List Str}(h:uu N sc scope kk cF xs=true):kI N sc scope kk cF xs:=by
 unfold uu at h;simp! [zza] at h;obtain⟨⟨⟨⟨⟨⟨⟨⟨h1,h2⟩,h3⟩,h4⟩,h9⟩,h5⟩,h6⟩,h7⟩,h8⟩:=h
 exact⟨zzy.mp h1,zzy.mp h2,zzY h3,h4,h9,h5,zzY h6,h7,h8⟩
def oV(hN:X.N=N)(fx:X.env.scope=sc)(ok:X.Ok){scope:Scope}{kk:Nat}{cF:List Nat}{xs:List Str}(h:kI N sc scope kk cF xs):eo X scope xs (freeOf scope) cF:=by
 have qN:∀y∈freeOf scope,∃c,X.env.cells.lookup y=some c:=λy hy=>ok.has y (.inl (by
  have:=zzY (zzT.mp h.kX y hy)
  show X.env.scope.names.lookup y=_
  rw [fx];exact this))
 refine⟨h.kind,sU λy hy hf=>?_,zzT.mpr λy hy=>?_,h.LG,h.own,h.names,by rw [hN];exact h.slots,zzT.mpr λy hy=>?_,?_⟩
 ·have c:=zzT.mp h.LG y hy
  rw [zza,zzt,zzt] at c;rcases c.2 with z|z
  ·exact absurd hf (zzY z)
  ·exact qN _ (zzn.mp z)
 ·obtain⟨c,hc⟩:=qN y hy
  rw [hc];rfl
 ·have:=zzY (zzT.mp h.kX y hy)
  refine zzh ?_;show X.env.scope.names.lookup y=_
  rw [fx];exact this
 ·rw [eV fx];exact h.kY
theorem hJ{f:PV->Res (Option PV)}{x:PV}:∀{xs:List PV},aE f (xs++[x])=(aE f xs).bind λys=>(f x).well.bind λo=>.ok (ys++o.toList)
 |[]=>by
  simp! [List.nil_append,aE,Res.bind];cases(f x).well with
  |ok o=>cases o<;>rfl
  |exc c=>rfl
  |bad=>rfl
 |y::xs=>by
  rw [List.cons_append];simp! [aE];rw [hJ (xs:=xs)];cases(f y).well with
  |exc c=>rfl
  |bad=>rfl
  |ok o=>
   show(((aE f xs).bind λys=>(f x).well.bind λo=>.ok (ys++o.toList)).bind λys=>.ok (oc o ys))=((aE f xs).bind λys=>.ok (oc o ys)).bind λys=>(f x).well.bind λo=>.ok (ys++o.toList)
   cases aE f xs with
   |exc c=>rfl
   |bad=>rfl
   |ok zs=>
    show(((f x).well.bind λo=>.ok (zs++o.toList)).bind λys=>.ok (oc o ys))=(f x).well.bind λo2=>.ok ((oc o zs)++o2.toList)
    cases(f x).well with
    |exc c=>rfl
    |bad=>rfl
    |ok o2=>cases o<;>rfl
theorem kG{f:PV->Res (Option PV)}:∀{xs ys:List PV},aE f xs=.ok ys->∀i,∃zs,aE f (xs.take i)=.ok zs/\zs.length<=i
 |_,_,_,0=>⟨[],by simp [aE],zzE _⟩
 |[],ys,h,i+1=>⟨[],by simp [aE],Nat.zero_le _⟩
 |x::xs,ys,h,i+1=>by
  simp! [aE] at h;obtain⟨o,ho,h⟩:=Res.aX h
  obtain⟨zs,hz,h⟩:=Res.aX h
  obtain⟨ws,hw,hl⟩:=kG hz i
  refine⟨oc o ws,?_,?_⟩
  ·rw [List.take_succ_cons];simp! [aE];rw [ho];show((aE f (xs.take i)).bind λys=>.ok (oc o ys))=_
   rw [hw]
   rfl
  ·cases o with
   |none=>exact Nat.le_succ_of_le hl
   |some y=>exact Nat.succ_le_succ hl
def BQ{α:Type}{r:Res α}{a:α}(h:r.well=.ok a):r=.ok a:=by
 cases r with
 |ok b=>cases h;rfl
 |exc c=>cases h
 |bad=>cases h
def qj{f:PV->Res (Option PV)}{xs ys zs:List PV}{i:Nat}{x:PV}(h:aE f xs=.ok ys)(hx:xs[i]?=some x)(hz:aE f (xs.take i)=.ok zs):∃o,f x=.ok o/\aE f (xs.take (i+1))=.ok (zs++o.toList):=by
 have e:xs.take (i+1)=xs.take i++[x]:=by rw [List.take_add_one,hx];rfl
 obtain⟨ws,hw,_⟩:=kG h (i+1)
 rw [e,hJ,hz] at hw;obtain⟨o,ho,hw⟩:=Res.aX (show((f x).well.bind λo=>Res.ok (zs++o.toList))=.ok ws from hw)
 refine⟨o,BQ ho,?_⟩;rw [e,hJ,hz];show((f x).well.bind λo=>Res.ok (zs++o.toList))=_
 rw [ho]
 rfl
def qV{H0 G H:Hp}{env:Sl}{σ:St}{cF:List Nat}{ys:List Str}(kk:Nat)(sr:SR W H0 env σ G H)(hs:cF.map (λi=>N[i]?)=ys.map some)(nd:ys.Nodup):SR W H0 (List.replicate kk .no++fc env cF) (List.replicate kk none++zk σ cF) G H:=by
 have S7:∀(i j:Nat) (a:Nat),cF[i]?=some a->cF[j]?=some a->i=j:=λi j a h1 h2=>by
  have e1:(ys.map some)[i]?=some (N[a]?):=by rw [<-hs,zzQ,h1];rfl
  have e2:(ys.map some)[j]?=some (N[a]?):=by rw [<-hs,zzQ,h2];rfl
  rw [zzQ] at e1 e2;obtain⟨y1,g1,q1⟩:=zzJ.mp e1
  obtain⟨y2,g2,q2⟩:=zzJ.mp e2
  have:y1=y2:=zzq (q1.trans q2.symm)
  subst this;exact kS nd g1 g2
 have inner:∀(j:Nat) (s:Slot),(List.replicate kk Slot.no++fc env cF)[j]?=some s->(j<kk/\s=.no)\/∃a,kk<=j/\cF[j-kk]?=some a/\s=env.getD a .no:=λj s e=>by
  by_cases hj:j<kk
  ·rw [zzr (by simpa using hj),List.getElem?_replicate,if_pos hj] at e;cases e;exact .inl ⟨hj,rfl⟩
  ·rw [zzs (by simpa using hj),List.length_replicate] at e;unfold fc at e;rw [zzQ] at e;obtain⟨a,ha,rfl⟩:=zzJ.mp e
   exact .inr ⟨a,by omega,ha,rfl⟩
 have val:∀(j a:Nat),kk<=j->cF[j-kk]?=some a->(List.replicate kk none++zk σ cF)[j]?=some ((σ[a]?).join):=λj a hj ha=>by
  rw [zzs (by simpa using hj),List.length_replicate];unfold zk;rw [zzQ,ha]
  rfl
 refine⟨by unfold fc zk;simp,sr.sub,sr.base,λj s e=>?_,λi j p q a e1 e2 e3 e4=>?_,sr.tab,sr.mF⟩
 ·rcases inner j s e with⟨hj,rfl⟩|⟨a,hj,ha,rfl⟩
  ·exact⟨none,by rw [zzr (by simpa using hj),List.getElem?_replicate,if_pos hj],trivial⟩
  ·refine⟨_,val j a hj ha,?_⟩;rw [zzK];cases e1:env[a]? with
   |none=>exact trivial
   |some s=>
    obtain⟨o,h1,h2⟩:=sr.slot a s e1
    rw [h1];exact h2
 ·rcases inner i _ e1 with⟨_,z⟩|⟨b,hi,hb,z1⟩
  ·cases z
  rcases inner j _ e2 with⟨_,z⟩|⟨c,hj,hc,z2⟩
  ·cases z
  rw [val i b hi hb] at e3;rw [val j c hj hc] at e4;have f1:env[b]?=some (.own p):=by
   rw [zzK] at z1;cases e:env[b]? with
   |none=>rw [e] at z1;cases z1
   |some s=>rw [e] at z1;exact congrArg some z1.symm
  have f2:env[c]?=some (.own q):=by
   rw [zzK] at z2;cases e:env[c]? with
   |none=>rw [e] at z2;cases z2
   |some s=>rw [e] at z2;exact congrArg some z2.symm
  have g1:σ[b]?=some (some (.ref a)):=Option.join_eq_some_iff.mp (zzq e3)
  have g2:σ[c]?=some (some (.ref a)):=Option.join_eq_some_iff.mp (zzq e4)
  have bc:=sr.apart b c p q a f1 f2 g1 g2
  subst bc;have:=S7 _ _ b hb hc
  omega
def iV{H0 G H:Hp}{kk:Nat}{rest ag:Sl}{σ:St}{tg:Tg}{p:PV}(cQ:iR kk tg=true)(e:Tg.put tg p (List.replicate kk .no++rest)=.ok ag)(r:SR W H0 ag σ G H):SR W H0 (List.replicate kk .no++rest) σ G H:=by
 have key:∀(j:Nat) (s:Slot),(List.replicate kk Slot.no++rest)[j]?=some s->s≠.no->ag[j]?=some s:=λj s h hs=>by
  have O6:¬j<kk:=λz=>by
   rw [zzr (by simpa using z),List.getElem?_replicate,if_pos z] at h;cases h;exact hs rfl
  unfold Tg.put at e;split at e
  ·cases e;unfold iR at cQ;simp! [zzN] at cQ;rw [zzS (by omega)];exact h
  ·cases e;unfold iR at cQ;simp! [zza,zzN] at cQ;rw [zzS (by omega),zzS (by omega)];exact h
  ·cases e;unfold iR at cQ;simp! [zza,zzN] at cQ;rw [zzS (by omega),zzS (by omega),zzS (by omega)];exact h
  ·cases e;unfold iR at cQ;simp! [zza,zzN] at cQ;rw [zzS (by omega),zzS (by omega),zzS (by omega),zzS (by omega)];exact h
  ·cases e
 have hlen:(List.replicate kk Slot.no++rest).length=σ.length:=by
  rw [<-r.len];unfold Tg.put at e;split at e<;>first|(cases e;simp;done)|(cases e;done)
 refine⟨hlen,r.sub,r.base,λj s h=>?_,λi j p q a e1 e2 e3 e4=>r.apart i j p q a (key i _ e1 (λz=>nomatch z)) (key j _ e2 (λz=>nomatch z)) e3 e4,r.tab,r.mF⟩
 by_cases hs:s=.no
 ·subst hs;have:j<σ.length:=by rw [<-hlen];exact(zzH.mp h).1
  exact⟨σ[j],zzg this,trivial⟩
 ·exact r.slot j s (key j s h hs)
variable{Γ:Pg}{F:aH}{k:Nat}
noncomputable def tN(W:Wd)(F:aH)(e:E):TE:=λσ H Q=>∃H0 G env,SR W H0 env σ G H/\∃p,aB F e env=.ok p/\∀v G' H',aF W G H G' H'->Got W H0 G' H' e p v->Q v H'
noncomputable def M5(W:Wd)(F:aH)(e:E):TT:=λσ H Q=>∃H0 G env,SR W H0 env σ G H/\∃b,aB F e env=.ok (.bl b)/\∀G' H',aF W G H G' H'->Q b H'
def uJ{e:E}(σ:St)(H:Hp)(Q:VK)(h:tN W F e σ H Q):tE X W F e σ H Q:=by
 obtain⟨H0,G,env,sr,p,e1,q⟩:=h
 exact⟨H0,G,env,sr,by rw [e1];exact q⟩
def zN{e:E}(σ:St)(H:Hp)(Q:Bool->Hp->Prop)(h:M5 W F e σ H Q):tT X W F e σ H Q:=by
 obtain⟨H0,G,env,sr,p,e1,q⟩:=h
 exact⟨H0,G,env,sr,by rw [e1];exact⟨p,rfl,q⟩⟩
def eQ(C:dW Γ F W N sc k X){scope:Scope}{kk:Nat}{cF:List Nat}{xs:List Str}(h:kI N sc scope kk cF xs)(fp:List Addr)(s1:Shared)(H1:Hp)(A:Addr):dW Γ.AS F W (xs++freeOf scope) (c7 scope sc) k (bV X (xs++freeOf scope) scope (cA X.env (freeOf scope)) fp s1 H1 A):=
 ⟨rfl,eV C.fx,rfl,h.nd,C.K,C.mg,C.gs,C.bs,C.room,λf hf=>⟨(C.fns f hf).ex⟩,C.Mn,C.cls,C.xc,λq hq=>⟨(C.vY q hq).ex⟩,C.any,(λz=>nomatch z),(λz=>nomatch z),(λz=>nomatch z)⟩
def FA{e:E}{p:Expr}(h:aP Γ N sc e p=true)(env:Env):∀x,foldedSetIterable p env x=pure x:=by
 intro x;cases p<;>first|rfl|(cases e<;>first|(exact bG h)|(rename_i q;cases q<;>exact bG h))
def ip{tg:Expr}{it:I}{p:Expr}(h:wd Γ N sc tg it p=true)(env:Env):∀x,foldedSetIterable p env x=pure x:=by
 intro x;cases it with
 |seq e=>exact FA h env x
 |mG e=>cases p<;>first|rfl|(exact bG h)
 |pI a b=>cases p<;>first|rfl|(exact bG h)
 |enum e=>cases p<;>first|rfl|(exact bG h)
 |zip as=>cases p<;>first|rfl|(exact bG h)
 |sC e=>cases p<;>first|rfl|(exact bG h)
def CW(W:Wd)(H0 G1 H1:Hp)(Ho:Sl)(f:PV->Res (Option PV))(ps:List PV)(i:Nat)(ys:List V)(σ':St)(H':Hp):Prop:=
 i<=ps.length/\∃G',aF W G1 H1 G' H'/\SR W H0 Ho σ' G' H'/\∃zs,aE f (ps.take i)=.ok zs/\zs.length<=i/\ah W G' zs ys
def uW(hK:W.K=X.K){kk:Nat}{cF:List Nat}{tg:Tg}{it:I}{elt:E}{ys:List Str}(cQ:iR kk tg=true)(dD:fk elt=true)(hs:cF.map (λi=>N[i]?)=ys.map some)(nd:ys.Nodup)(σ:St)(H:Hp)(Q:VK)(h:tF X W F (.comp kk cF tg it elt) σ H Q):
 zY (tI X W F it) kk (gT X.K tg) (tN W F elt) cF σ H Q:=by
 obtain⟨H0,G,env,sr,o⟩:=h
 rw [aB] at o;refine⟨H0,G,env,sr,o.bind.imp λps mY J G1 H1 g1 gi=>?_⟩
 by_cases rO:¬ps.length<cL
 ·rw [if_neg rO] at mY;exact mY.elim
 have hl:=Decidable.not_not.mp rO
 rw [if_pos hl] at mY;generalize hf:(λx=>(tg.put x (List.replicate kk .no++fc env cF)).bind λag=>(aB F elt ag).bind λy=>Res.ok (some y))=f at mY
 cases hc:aE f ps with
 |bad=>rw [hc] at mY;exact mY.elim
 |exc c=>
  exfalso
  have:∀(l:List PV) (c:Str),aE f l≠.exc c:=λl=>by
   induction l with
   |nil=>intro c z;cases z
   |cons a l ih=>
    intro c z;simp! [aE] at z;rcases Res.iw z with z|⟨o1,_,z⟩
    ·cases e:f a with
     |ok _=>rw [e] at z;cases z
     |exc _=>rw [e] at z;cases z
     |bad=>rw [e] at z;cases z
    ·rcases Res.iw z with z|⟨o2,_,z⟩
     ·exact ih c z
     ·cases z
  exact this _ _ hc
 |ok all=>
  rw [hc] at mY;obtain⟨xs,e1,fin⟩:=mY
  cases e1;have bj:=sr.grow g1
  refine⟨ps.length,CW W H0 G1 H1 (List.replicate kk .no++fc env cF) f ps,⟨Nat.zero_le _,G1,.refl g1.sub,qV kk bj hs nd,[],rfl,zzE _,.nil⟩,?_⟩
  rintro i made σ' H' ⟨hi,G',g',sr',zs,hz,Jh,l⟩
  refine⟨by rw [l.length];exact zzV (zzU Jh hi) (zzW hl (by decide)),?_⟩;obtain⟨ist,igo⟩:=gi.any i G' H' g'.g g'.h g'.sub
  by_cases hlast:i=ps.length
  ·refine .inl ⟨ist hlast,λp hp=>?_⟩
   rw [hlast,List.take_length,hc] at hz;cases hz;exact fin p made G' H' (g1.trans g') hp l
  ·have mH:i<ps.length:=by omega
   obtain⟨hgo,hyld⟩:=igo ps[i] (zzg mH)
   refine .inr ⟨hgo,mH,λx kH hy=>?_⟩
   obtain⟨uR,g'',rx⟩:=hyld x kH hy
   obtain⟨o1,ho,hnext⟩:=qj hc (zzg mH) hz
   rw [<-hf] at ho;obtain⟨ag,he',ho⟩:=Res.aX ho
   obtain⟨y,D0,ho⟩:=Res.aX ho
   cases ho;refine sx hK he' (sr'.grow g'') rx λσ2 gb=>⟨H0,uR,ag,gb,y,D0,λv G3 H3 g3 t=>?_⟩
   refine⟨mH,G3,g'.trans (g''.trans g3),(iV cQ he' gb).grow g3,_,hnext,?_,?_⟩
   ·rw [zzM];show zs.length+1<=i+1;omega
   ·exact(ah.same (g''.trans g3).g zs l).append (.cons (t.rep dD) .nil)
def mR(hK:W.K=X.K){kk:Nat}{cF:List Nat}{tg:Tg}{it:I}{c elt:E}{ys:List Str}(cQ:iR kk tg=true)(dD:fk elt=true)(hs:cF.map (λi=>N[i]?)=ys.map some)(nd:ys.Nodup)(σ:St)(H:Hp)(Q:VK)(h:tF X W F (.cN kk cF tg it c elt) σ H Q):
 js (tI X W F it) kk (gT X.K tg) (M5 W F c) (tN W F elt) cF σ H Q:=by
 obtain⟨H0,G,env,sr,o⟩:=h
 rw [aB] at o;refine⟨H0,G,env,sr,o.bind.imp λps mY J G1 H1 g1 gi=>?_⟩
 by_cases rO:¬ps.length<cL
 ·rw [if_neg rO] at mY;exact mY.elim
 have hl:=Decidable.not_not.mp rO
 rw [if_pos hl] at mY;generalize hf:(λx=>(tg.put x (List.replicate kk .no++fc env cF)).bind λag=>(aB F c ag).bind λt=>mV t λt=>if t then(aB F elt ag).bind λy=>Res.ok (some y) else .ok none)=f at mY
 cases hc:aE f ps with
 |bad=>rw [hc] at mY;exact mY.elim
 |exc c=>
  exfalso
  have:∀(l:List PV) (c:Str),aE f l≠.exc c:=λl=>by
   induction l with
   |nil=>intro c z;cases z
   |cons a l ih=>
    intro c z;simp! [aE] at z;rcases Res.iw z with z|⟨o1,_,z⟩
    ·cases e:f a with
     |ok _=>rw [e] at z;cases z
     |exc _=>rw [e] at z;cases z
     |bad=>rw [e] at z;cases z
    ·rcases Res.iw z with z|⟨o2,_,z⟩
     ·exact ih c z
     ·cases z
  exact this _ _ hc
 |ok all=>
  rw [hc] at mY;obtain⟨xs,e1,fin⟩:=mY
  cases e1;have bj:=sr.grow g1
  refine⟨ps.length,CW W H0 G1 H1 (List.replicate kk .no++fc env cF) f ps,⟨Nat.zero_le _,G1,.refl g1.sub,qV kk bj hs nd,[],rfl,zzE _,.nil⟩,?_⟩
  rintro i made σ' H' ⟨hi,G',g',sr',zs,hz,Jh,l⟩
  refine⟨by rw [l.length];exact zzV (zzU Jh hi) (zzW hl (by decide)),?_⟩;obtain⟨ist,igo⟩:=gi.any i G' H' g'.g g'.h g'.sub
  by_cases hlast:i=ps.length
  ·refine .inl ⟨ist hlast,λp hp=>?_⟩
   rw [hlast,List.take_length,hc] at hz;cases hz;exact fin p made G' H' (g1.trans g') hp l
  ·have mH:i<ps.length:=by omega
   obtain⟨hgo,hyld⟩:=igo ps[i] (zzg mH)
   refine .inr ⟨hgo,mH,λx kH hy=>?_⟩
   obtain⟨uR,g'',rx⟩:=hyld x kH hy
   obtain⟨o1,ho,hnext⟩:=qj hc (zzg mH) hz
   rw [<-hf] at ho;obtain⟨ag,he',ho⟩:=Res.aX ho
   obtain⟨t,ht,ho⟩:=Res.aX ho
   obtain⟨b,rfl⟩:∃b,t=.bl b:=by
    cases t<;>first|exact⟨_,rfl⟩|(cases ho)
   refine sx hK he' (sr'.grow g'') rx λσ2 gb=>⟨H0,uR,ag,gb,b,ht,λG3 H3 g3=>?_⟩
   have jq:(if b=true then(aB F elt ag).bind λy=>Res.ok (some y) else .ok none)=Res.ok o1:=ho
   cases b with
   |true=>
    rw [if_pos rfl] at jq;refine P5 ?_;obtain⟨y,D0,jq⟩:=Res.aX jq
    cases jq;refine⟨H0,G3,ag,gb.grow g3,y,D0,λv G4 H4 g4 t4=>?_⟩
    refine⟨mH,G4,g'.trans (g''.trans (g3.trans g4)),(iV cQ he' gb).grow (g3.trans g4),_,hnext,?_,?_⟩
    ·rw [zzM];show zs.length+1<=i+1;omega
    ·exact(ah.same (g''.trans (g3.trans g4)).g zs l).append (.cons (t4.rep dD) .nil)
   |false=>
    rw [if_neg zzf] at jq;refine Pe ?_;cases jq;refine⟨mH,G3,g'.trans (g''.trans g3),(iV cQ he' gb).grow g3,_,hnext,?_,?_⟩
    ·rw [zzM];show zs.length+0<=i+1;omega
    ·show ah W G3 (zs++[]) made
     rw [zz6];exact ah.same (g''.trans g3).g zs l
def uI(C:dW Γ F W N sc k X){kk:Nat}{cF:List Nat}{tg:Tg}{it:I}{elt:E}{cY fA ef:Expr}{scope:Scope}{pos:Pos}(h:kI N sc scope kk cF (aG cY))(cQ:iR kk tg=true)(dD:fk elt=true)(hi:GI X W F cY it fA)(vY:∀x,foldedSetIterable fA X.env x=pure x)
 (xU:gC (aG cY++freeOf scope) (c7 scope sc) (lW scope) tg cY=true) (he:∀Y,dW Γ.AS F W (aG cY++freeOf scope) (c7 scope sc) k Y->GE Y W F elt ef):GF X W F (.comp kk cF tg it elt) (.ListComp ef [⟨cY,fA,[],0⟩] scope pos):=by
 intro aa s σ H Q I hq;have Fv:(freeOf scope).Nodup:=(List.nodup_append.mp h.nd).2.1
 have rd:=uW (N:=N) C.K cQ dD h.slots Fv σ H Q hq
 have:=DQ (g:=gT X.K tg) (te:=tN W F elt) (xs:=aG cY) (ys:=freeOf scope) (is:=cF) (pos:=pos) C.calm (oV C.hN C.fx I.ok h) hi
  (λfp s1 H1 A=>yx (fn:=lW scope) (X:=bV X (aG cY++freeOf scope) scope (cA X.env (freeOf scope)) fp s1 H1 A) rfl h.nd (eV C.fx) rfl (λ_ z=>z) xU)
  (λfp s1 H1 A=>L2.PE.imp (he _ (eQ C h fp s1 H1 A)) λσ H Q z=>uJ σ H Q z) vY aa s σ H Q I
 rw [h.len] at this;exact this rd
def mT(C:dW Γ F W N sc k X){kk:Nat}{cF:List Nat}{tg:Tg}{it:I}{c elt:E}{cY fA pc ef:Expr}{scope:Scope}{pos:Pos}(h:kI N sc scope kk cF (aG cY))(cQ:iR kk tg=true)(dD:fk elt=true)(hi:GI X W F cY it fA)(vY:∀x,foldedSetIterable fA X.env x=pure x)
 (xU:gC (aG cY++freeOf scope) (c7 scope sc) (lW scope) tg cY=true) (hc:∀Y,dW Γ.AS F W (aG cY++freeOf scope) (c7 scope sc) k Y->GT Y W F c pc) (he:∀Y,dW Γ.AS F W (aG cY++freeOf scope) (c7 scope sc) k Y->GE Y W F elt ef):
 GF X W F (.cN kk cF tg it c elt) (.ListComp ef [⟨cY,fA,[pc],0⟩] scope pos):=by
 intro aa s σ H Q I hq;have Fv:(freeOf scope).Nodup:=(List.nodup_append.mp h.nd).2.1
 have rd:=mR (N:=N) C.K cQ dD h.slots Fv σ H Q hq
 have:=wj (g:=gT X.K tg) (tt:=M5 W F c) (te:=tN W F elt) (xs:=aG cY) (ys:=freeOf scope) (is:=cF) (pos:=pos) C.calm (oV C.hN C.fx I.ok h) hi
  (λfp s1 H1 A=>yx (fn:=lW scope) (X:=bV X (aG cY++freeOf scope) scope (cA X.env (freeOf scope)) fp s1 H1 A) rfl h.nd (eV C.fx) rfl (λ_ z=>z) xU)
  (λfp s1 H1 A=>L2.PT.imp (hc _ (eQ C h fp s1 H1 A)) λσ H Q z=>zN σ H Q z)
  (λfp s1 H1 A=>L2.PE.imp (he _ (eQ C h fp s1 H1 A)) λσ H Q z=>uJ σ H Q z) vY aa s σ H Q I
 rw [h.len] at this;exact this rd
variable{Z:List (Addr×Obj)}{G H:Hp}
theorem LX(t:cV W G H)(sg:az G H)(zs:∀b o,Z.lookup b=some o->G b=some (.cX o tG))(zc:∀b o,Z.lookup b=some o->∃v,o.data=.cell v):cV W (fN Z G) (fN Z H):=λP q m=>by
 obtain⟨n,ps,e,tr,al⟩:=t P q m
 refine⟨sH n,ps,?_,tr,λpos cv y=>?_⟩
 ·cases y:Z.lookup P with
  |none=>rw [eO y];exact e
  |some o=>rw [sg _ _ (zs P o y)] at e;cases e
 ·obtain⟨c',oc,pL,t',e1,e2,e3,e4⟩:=al pos cv y
  refine⟨c',oc,pL,t',e1,?_,e3,e4⟩;cases y:Z.lookup c' with
  |none=>rw [eO y];exact e2
  |some o=>
   rw [zs c' o y] at e2;cases e2;obtain⟨v,hv⟩:=zc c' _ y
   rw [e3] at hv;cases hv
def vo{G:Hp}{p:PV}{v:V}(h:Rep W G p v):∀{ps:List PV} {vs:List V},ah W G ps vs->ah W G (ps++[p]) (vs++[v]):=by
 intro ps
 induction ps with
 |nil=>
  intro vs t;have:=t.length
  cases vs with
  |nil=>exact .cons h .nil
  |cons _ _=>cases this
 |cons q ps ih=>
  intro vs t;obtain⟨u,r,rfl,h1,t⟩:=t.aR
  exact .cons h1 (ih t)
def lC{G:Hp}:∀{ps:List PV} {vs:List V},ah W G ps vs->ah W G ps.reverse vs.reverse:=by
 intro ps
 induction ps with
 |nil=>
  intro vs t;have:=t.length
  cases vs with
  |nil=>exact .nil
  |cons _ _=>cases this
 |cons q ps ih=>
  intro vs t;obtain⟨u,r,rfl,h1,t⟩:=t.aR
  rw [List.reverse_cons,List.reverse_cons];exact vo h1 (ih t)
theorem Cf(C:dW Γ F W N sc k X){a:E}{pa:Expr}{p1 p2 pos y9:Pos}(hg:fq sc "list"=true)(hm:Γ.bs.contains "list"=true)(Pn:fq sc "reversed"=true)(Lu:Γ.bs.contains "reversed"=true)(ha:GE X W F a pa)(he:starEach [pa] X.env=(false,eval pa X.env)::starEach [] X.env):
 GE X W F (.zF a) (.Call (.Name "list" p1) [.Call (.Name "reversed" p2) [pa] [] y9] [] pos):=
 (sJ C.calm (dG C hg) (C.bs _ (zzn.mp hm)) (dG C Pn) (C.bs _ (zzn.mp Lu)) ha he).imp λσ H Q h=>by
  obtain⟨H0,G,env,sr,o⟩:=h
  rw [aB] at o;refine one sr o λp v G1 H1 g t bj o1=>?_
  cases p with
  |lst xs=>
   obtain⟨l,vs,rfl,h1,l1⟩:=t.top.lst bj.sub
   exact⟨l,vs,rfl,hZ C.K h1,λp hp=>dm.lst (W:=W) (G:=G1) (H:=H1) (xs:=xs.reverse) (λw G' H' g' gu=>o1 w G' H' (g.trans g') (.of gu)) bj.sub (lC l1) hp⟩
  |_=>exact zzk o1
def IJ(C:dW Γ F W N sc k X){a:E}{pa st:Expr}{p2 pos:Pos}(ha:GE X W F a pa)(hs:GE X W F (.neg (.cst (.int 1))) st):GE X W F (.rev a) (.Subscript pa (.Slice none none (some st) p2) pos):=
 (He (AV.or (AV.or IY Hx) Gj) ha hs).imp λσ H Q h=>by
  obtain⟨H0,G,env,sr,o⟩:=h
  rw [aB] at o;refine one sr o λp v G1 H1 g t bj o1=>⟨H0,G1,env,bj,?_⟩
  have e:aB F (.neg (.cst (.int 1))) env=.ok (.int (-1)):=by rw [aB,aB];rfl
  rw [e];intro v2 G2 H2 g2 t2;refine⟨t2.top.int,?_⟩;have t3:=t.grow g2
  cases p with
  |str z=>
   by_cases hl:z.length<=cL
   ·have o2:Out X W (if z.length<=cL then Res.ok (PV.str (n0 z)) else .bad) σ G1 H1 _:=o1
    rw [if_pos hl] at o2;exact .inr ⟨z,t3.top.str,gZ hl,o2 _ G2 H2 (g.trans g2) (.of .s)⟩
   ·have o2:Out X W (if z.length<=cL then Res.ok (PV.str (n0 z)) else .bad) σ G1 H1 _:=o1
    rw [if_neg hl] at o2;exact o2.elim
  |tup xs=>
   obtain⟨l,vs,rfl,h1,l1⟩:=t3.top.tup g2.sub
   rw [C.K] at h1;exact .inl (.inl ⟨l,vs,rfl,h1,λp hp=>dm.tup (W:=W) (G:=G2) (H:=H2) (xs:=xs.reverse) (λw G' H' g' gu=>o1 w G' H' ((g.trans g2).trans g') (.of gu)) g2.sub (lC l1) hp⟩)
  |lst xs=>
   obtain⟨l,vs,rfl,h1,l1⟩:=t3.top.lst g2.sub
   exact .inl (.inr ⟨l,vs,rfl,hZ C.K h1,λp hp=>dm.lst (W:=W) (G:=G2) (H:=H2) (xs:=xs.reverse) (λw G' H' g' gu=>o1 w G' H' ((g.trans g2).trans g') (.of gu)) g2.sub (lC l1) hp⟩)
  |_=>exact zzk o1
end
end Ci
namespace L2
open PySem PySem.Spec PyProof.Rows PySem.W
end L2
namespace Ci
open PySem L2
section
variable{Γ:Pg}{X:Cx}{W:Wd}{F:aH}{N:List Str}{sc:Scope}{k:Nat}
theorem IE(C:dW Γ F W N sc k X){a b:E}{pa pk:Expr}{apos cb:Pos}(ha:GE X W F a pa)(hk:GE X W F b pk)(hb:attributeBase pa "get" X.env (eval pa X.env)=eval pa X.env)(hl:(apos.endLine==cb.line)=true)(hs:starEach [pk] X.env=(false,eval pk X.env)::starEach [] X.env):
 GE X W F (.get a b) (.Call (.Attribute pa "get" apos) [pk] [] cb):=
 (xk (by have:=C.room.un;omega) ha hk ⟨hb,by rw [hs];rfl,hl,by rw [hs];rfl⟩).imp λσ H Q h=>by
  obtain⟨H0,G,env,sr,o⟩:=h
  rw [aB] at o;refine one sr o λp v G1 H1 g t bj o1=>?_
  cases p with
  |bx ks vs=>
   obtain⟨d,us,rfl,n,hd,l⟩:=t.top.bx bj.sub
   refine⟨d,rfl,.inr ⟨_,hd⟩,?_⟩;refine one bj o1 λq u G2 H2 g2 t2 gb o2=>?_
   obtain⟨d',us',e,n',hd',l'⟩:=(t.grow g2).top.bx gb.sub
   cases e;cases hq:fh q with
   |none=>
    have o3:Out X W ((Res.of (fh q)).bind _) σ G2 H2 _:=o2
    rw [hq] at o3;exact zzk o3
   |some kk=>
    have o3:Out X W ((Res.of (fh q)).bind _) σ G2 H2 _:=o2
    rw [hq] at o3;have l8:=fe hq
    subst l8;obtain⟨b',rfl,hb'⟩:=Top.tupI gb.sub rfl t2.top
    refine⟨_,.inr ⟨_,kk.map .inl,b',hd',rfl,?_,rfl⟩,?_⟩
    ·rw [gb.sub _ _ hb',List.map_map];rfl
    ·rw [show iS (kz ks us') (kk.map .inl)=_ from iU kk ks us'];cases hv:bo ks vs kk with
     |some pv=>
      obtain⟨w',e1,gu⟩:=pU l' hv
      rw [e1];have o4:Out X W (Res.ok ((bo ks vs kk).getD .aC)) σ G2 H2 _:=o3
      rw [hv] at o4;exact o4 w' G2 H2 (g.trans g2) (.of gu)
     |none=>
      have:bo ks us' kk=none:=by
       have h1:=fV kk ks us' n'
       have h2:=fV kk ks vs (by rw [l'.length] at n';exact n')
       rw [hv] at h2;rw [<-h2] at h1;exact Option.isSome_eq_false_iff.mp h1 |> Option.isNone_iff_eq_none.mp
      rw [this];have o4:Out X W (Res.ok ((bo ks vs kk).getD .aC)) σ G2 H2 _:=o3
      rw [hv] at o4;exact o4 .aC G2 H2 (g.trans g2) (.of .n)
  |_=>exact zzk o1
end
end Ci
namespace L2
open PySem PySem.Spec PyProof.Rows
noncomputable def Ox(tk tv:TE):TE:=λσ H Q=>∀p,H p=none->tk σ (upd H p (.dT [])) λx H1=>tv σ H1 λy H2=>∃b ks,x=.ref b/\H2 p=some (.dT [])/\H2 b=some (.tup (ks.map kV))/\Q (.ref p) (upd H2 p (.dT (putK [] ks y)))
def Hv{X:Cx}{pos:Pos}{k v:Expr}{tk tv:TE}(hu:X.A.units<cLine)(hk:PE X k tk)(hv:PE X v tv):PE X (.Dict [some k] [v] pos) (Ox tk tv):=by
 intro aa s σ H Q I q;have hn:=I.bu.fresh (zzE (zz9 s))
 have I1:=I.laid (a:=(zz9 s)) (o:=.dT []) (h':=s.heap.push {cls:=.type "dict",data:=.dict #[]}) (t':=s.toks) (λ_ _ q=>zzB _ q) (zzE _) (kJ s.heap I.big)
 refine wpAny_Dict_any rfl rfl (by simp) (show 1<=15 by decide) (pairTrees_cons_walk (bD (hk aa _ σ _ _ I1 (q _ hn)) λu s1 ⟨x,H1,I1',rx,q1⟩=>bD (hv aa s1 σ H1 _ I1' q1) λw2 s2 ⟨y,H2,I2,ry,q2⟩=>pairTrees_nil_walk ?_))
 obtain⟨b,ks,rfl,e,hb,q3⟩:=q2
 cases rx;unfold storeAll;refine wpAny_forIn_list _ (λrest _ s'=>(rest=[(Value.ref b,w2)]/\s'=s2)\/(rest=[]/\∃v' H',Inv X aa σ H' s'/\RelV v' (.ref (zz9 s))/\Q v' H')) _ (λx rest _ s' hI=>?_) (λ_ s' hI=>?_) _ _ (.inl ⟨rfl,rfl⟩)
 ·rcases hI with⟨h1,rfl⟩|⟨h1,_⟩
  ·cases h1;refine zzA (As hu I2 e hb (by decide) ry λh' t hs I3=>zzG (.inr ⟨rfl,.ref _,_,I3,rfl,q3⟩))
  ·cases h1
 ·rcases hI with⟨h1,_⟩|⟨_,v',H',I',r',q'⟩
  ·cases h1
  ·exact⟨v',H',I',r',q'⟩
def Bi{X:Cx}{pos:Pos}{k v:Expr}{n:Nat}{y:V}(hu:X.A.units<cLine)(hk:PE X k (A6 n))(hv:PE X v (tC y)):PE X (.Dict [some k] [v] pos) (λσ H Q=>∃b ks,σ[n]?=some (some (.ref b))/\H b=some (.tup (ks.map kV))/\∀p o,H p=none->Q (.ref p) (upd H p (.cX o (.dT (putK [] ks y))))):=by
 intro aa s σ H Q I ⟨b,ks,hb,ht,q⟩;refine wpAny_mono (Hv hu hk hv aa s σ H (λv' H'=>∃p,v'=.ref p/\H p=none/\H'=upd H p (.dT (putK [] ks y))) I λp hp=>⟨_,hb,b,ks,rfl,ax,?_,p,rfl,hp,?_⟩) ?_ λ_ _ z=>z
 ·rw [aj (λz=>by rw [z,hp] at ht;cases ht)];exact ht
 ·exact vi
 ·rintro u s' ⟨v',H',I',rv,p,rfl,hp,rfl⟩
  obtain⟨o,J⟩:=I'.freeze ax
  rw [vi] at J;exact⟨_,_,J,rv,q p o hp⟩
end L2
namespace Ci
open PySem L2
section
variable{Γ:Pg}{X:Cx}{W:Wd}{F:aH}{N:List Str}{sc:Scope}{k:Nat}
def CL(C:dW Γ F W N sc k X){a:E}{n:Int}{pa:Expr}{c1:Nat}{c2 q1 q4 q5:Pos}(hg:fq sc "max"=true)(hm:Γ.bs.contains "max"=true)(ha:GE X W F a pa)(hs:starEach [pa] X.env=(false,eval pa X.env)::starEach [] X.env):
 GE X W F (.maxD a n) (.Call (.Name "max" q1) [pa] [⟨some "default",.Constant (.int n) c1 c2,q4⟩] q5):=by
 intro aa s σ H Q I h;obtain⟨H0,G,env,sr,o⟩:=h
 rw [aB] at o;refine wpAny_Call_Name_kw (dq I (dG C hg) (C.bs _ (zzn.mp hm)) (u:=.builtin "max") (by decide+kernel) ?_);refine PyProof.Rows.callWith_kw (bD ((bS ha c8 hs) q5 aa s σ H (λvs H1=>∃p ns,vs=[.ref p]/\dz X.K H1 p (ns.map V.int)/\Q (.int (maxD ns n)) H1) I ?_) λus s1 ⟨vs,H1,I1,r1,q1⟩=>?_) (by rw [hs];rfl) (by rw [hs];rfl)
 ·refine one sr o λx v G1 H1 g1 t bj o1=>?_
  cases x with
  |lst xs=>
   obtain⟨a',vs,rfl,h1,l1⟩:=t.top.lst bj.sub
   have o2:Out X W ((Res.of (intsOf xs)).bind _) σ G1 H1 _:=o1
   cases e:intsOf xs with
   |none=>rw [e] at o2;exact zzk o2
   |some ns=>
    rw [e] at o2;cases j5 l1 e;exact⟨a',ns,rfl,hZ C.K h1,o2 _ G1 H1 g1 (.of .i)⟩
  |_=>exact zzk o1
 ·obtain⟨p,ns,rfl,hp,q⟩:=q1
  obtain⟨u,rfl,ru⟩:=vals1 r1
  cases ru;refine PyProof.Rows.kws_cons (bD (sy aa s1 σ H1 (λv2 H2=>v2=.int n/\H2=H1) I1 ⟨rfl,rfl⟩) λu s2 hu=>PyProof.Rows.kws_nil ?_)
  obtain⟨v2,H2,I2,ru2,rfl,rfl⟩:=hu
  obtain⟨t,rfl⟩:=ru2
  exact wG C.calm I2 hp q
theorem F3(C:dW Γ F W N sc k X){n:Nat}{z:Str}{zp cp pos:Pos}{j:Nat}(hz:N[n]?=some z)(Ug:ff sc z=true)(QE:okN z=true):GE X W F (.Lm n) (.Dict [some (.Name z zp)] [.Constant .none j cp] pos):=
 (Bi (by have:=C.room.un;omega) (lE (by rw [C.hN];exact hz) (pR C Ug) (fD QE).1 (fD QE).2.1) yu).imp λσ H Q h=>by
  obtain⟨H0,G,env,sr,o⟩:=h
  rw [aB] at o;cases e:env[n]? with
  |none=>rw [e] at o;exact zzk o
  |some sl=>
   rw [e] at o;cases sl with
   |val kp=>
    have o':Out X W ((Res.of (fh kp)).bind λkk=>Res.ok (PV.bx [kk] [.aC])) σ G H _:=o
    cases hk:fh kp with
    |none=>rw [hk] at o';exact zzk o'
    |some kk=>
     rw [hk] at o';have e2:=fe hk
     subst e2;obtain⟨v,hv,rv⟩:=sr.slot n _ e
     obtain⟨v',rfl,rv⟩:=rv
     obtain⟨ad,rfl,hb⟩:=um rv
     refine⟨ad,ki kk,hv,by rw [sQ];exact sr.sub _ _ hb,λp ob hp=>?_⟩
     refine o' _ _ _ (.new sr.sub hp) (.of ?_);simp! [Rep];exact⟨p,ob,[.aC],rfl,rfl,ax,ah.same (bf (sr.sub.free hp)) _ (.cons .n .nil)⟩
   |no=>exact zzk o
   |own _=>exact zzk o
   |fn _ _ _=>exact zzk o
theorem lend{H0 G H:Hp}(sg:az G H):∀{vs:List V} {ps:List PV},Paired (λv p=>Top W H0 G H p v) vs ps->(ps.all λp=>!jb p)=true->∃G',az G G'/\az G' H/\(∀x,G x=none->G' x≠none->∃us,H x=some (.lst us))/\ah W G' ps vs
 |_,_,.nil,_=>⟨G,az.refl _,sg,λx h1 h2=>absurd h1 h2,.nil⟩
 |_,_,.cons (a:=v) (b:=p) h t,hd=>by
  rw [List.all_cons,zza] at hd;obtain⟨G',h1,h2,h3,h4⟩:=lend sg t hd.2
  rcases h with h|h
  ·exact⟨G',h1,h2,h3,.cons (Rep.same h1 p h) h4⟩
  ·cases p with
   |lst xs=>
    obtain⟨a,us,rfl,e1,e2,e3,l⟩:=h
    have s1:az G' (upd G' a (.lst us)):=λb o e=>by
     by_cases hb:b=a
     ·subst hb;have:=h2 _ _ e
      rw [e1] at this;cases this;exact ax
     ·rw [aj hb];exact e
    refine⟨upd G' a (.lst us),λb o e=>s1 _ _ (h1 _ _ e),λb o e=>?_,λx n1 n2=>?_,.cons ?_ (ah.same s1 _ h4)⟩
    ·by_cases hb:b=a
     ·subst hb;rw [ax] at e;cases e;exact e1
     ·rw [aj hb] at e;exact h2 _ _ e
    ·by_cases hb:x=a
     ·subst hb;exact⟨us,e1⟩
     ·rw [aj hb] at n2;exact h3 x n1 n2
    ·exact .l (.inl (.inl ax)) (ah.same (λb o e=>s1 _ _ (h1 _ _ e)) _ l)
   |bx ks qs=>cases hd.1
   |_=>exact h.elim
def xP{G G':Hp}{p:PV}{v:V}(h:gO p=true)(r:Rep W G p v):Rep W G' p v:=by
 cases p<;>first|(exact bG h)|(simpa only [Rep] using r)
def Al(C:dW Γ F W N sc k X){f:Str}{e:E}{es:Es}{p:Expr}{ps:List Expr}{np pos:Pos}(hf:Γ.fs.contains f=true)(hg:fq sc f=true)(ho:okN f=true)(ha:GA X W F (.cons e es) (p::ps))
 (cO:starEach (p::ps) X.env=(false,eval p X.env)::starEach ps X.env) (hpl:(backTo pos (starEach ps X.env)).any (·.1)=false):GE X W F (.mS f (.cons e es)) (.Call (.Name f np) (p::ps) [] pos):=by
 intro aa s σ H Q I h;obtain⟨H0,G,env,sr,o⟩:=h
 rw [aB] at o;obtain⟨fa,fd,pn,FO,hm,hk,hb,hlen⟩:=(C.fns f hf).ex
 refine wpAny_Call_Name_kw (il I (dG C hg) hm ?_ (fD ho).1);refine PySem.W.callWith_K (h₀:=X.base) I.ok.mod.Mp hk (bD (ha pos aa s σ H (λvs H1=>∃G1 as,az G1 H1/\cV W G1 H1/\ah W G1 as vs/\Out X W (F f as) σ G1 H1 λp=>dm W G1 H1 p Q) I ?_) λus s1 ⟨vs,H1,I1,r,q⟩=>⟨I1.sX,?_⟩) cO hpl
 ·refine args sr o λas vs G1 H1 g1 t bj o1=>?_
  cases hd:as.all λp=>!jb p with
  |false=>rw [hd] at o1;exact zzk o1
  |true=>
   rw [hd] at o1;obtain⟨G',l1,l2,l3,l4⟩:=lend bj.sub t.top hd
   have OD:∀a,H1 a≠none->(∀vs,H1 a≠some (.lst vs))->G1 a=none->G' a=none:=λa h1 h2 h3=>by
    cases e:G' a with
    |none=>rfl
    |some o=>obtain⟨us,hu⟩:=l3 a h3 (by rw [e];exact λz=>nomatch z);exact absurd hu (h2 us)
   have tb:cV W G' H1:=λP q m=>by
    obtain⟨n,ps,e,tr,al⟩:=bj.tab P q m
    refine⟨OD P (by rw [e];exact λz=>nomatch z) (by rw [e];exact λ_ z=>nomatch z) n,ps,e,tr,λpos cv y=>?_⟩
    obtain⟨c',oc,pL,t,e1,e2,e3,e4⟩:=al pos cv y
    exact⟨c',oc,pL,t,e1,l1 _ _ e2,e3,e4⟩
   refine⟨G',as,l2,tb,l4,?_⟩;cases z:F f as with
   |bad=>rw [z] at o1;exact zzk o1
   |exc c=>rw [z] at o1;exact zzk o1
   |ok r=>
    rw [z] at o1;cases hs:gO r with
    |false=>
     have o2:Out X W (if gO r=true then Res.ok r else .bad) σ G1 H1 _:=o1
     rw [hs] at o2;exact zzk o2
    |true=>
     have o2:Out X W (if gO r=true then Res.ok r else .bad) σ G1 H1 _:=o1
     rw [hs] at o2;intro v G2 H2 g2 rv
     classical
     let G3:Hp:=λx=>if G1 x=none/\G' x≠none then none else G2 x
     have e3:∀x,¬(G1 x=none/\G' x≠none)->G3 x=G2 x:=λx h=>if_neg h
     have e4:∀x,(G1 x=none/\G' x≠none)->G3 x=none:=λx h=>if_pos h
     refine o2 v G3 H2 (g1.trans ⟨λb ob eb=>?_,g2.h,λb ob eb=>?_,λa h1 h2 h3=>?_,λ_=>?_⟩) (.of (xP hs rv))
     ·rw [e3 b (λz=>by rw [z.1] at eb;cases eb)];exact g2.g _ _ (l1 _ _ eb)
     ·by_cases hb:G1 b=none/\G' b≠none
      ·rw [e4 b hb] at eb;cases eb
      ·rw [e3 b hb] at eb;exact g2.sub _ _ eb
     ·by_cases hb:G1 a=none/\G' a≠none
      ·exact e4 a hb
      ·rw [e3 a hb];exact g2.own a h1 h2 (Classical.byContradiction λz=>hb ⟨h3,z⟩)
     ·have Ta:=g2.tab tb
      intro P q m;obtain⟨n,ps,e,tr,al⟩:=Ta P q m
      have gP:G' P=none:=(tb P q m).1
      refine⟨by rw [e3 P (λz=>z.2 gP)];exact n,ps,e,tr,λpos cv y=>?_⟩
      obtain⟨c',oc,pL,t,q1,q2,q3,q4⟩:=al pos cv y
      refine⟨c',oc,pL,t,q1,?_,q3,q4⟩;rw [e3 c' λz=>?_]
      ·exact q2
      ·obtain⟨us,hu⟩:=l3 c' z.1 z.2
       have w1:=g2.h.at hu (λ_ z=>nomatch z)
       rw [g2.sub _ _ q2] at w1;cases w1
 ·obtain⟨G1,as,sg,tb,l,o1⟩:=q
  exact lR C.rm FO hb (λz=>by rw [l.length];exact hlen as z) I1 sg tb l r o1
end
end Ci
namespace L2
open PySem PySem.Spec PyProof.Rows
variable{X:Cx}{a b:Expr}{rest:List Expr}{pos:Pos}{ta tb:TE}
noncomputable def OC(K:zz8)(ta tb:TE):TE:=λσ H Q=>ta σ H λx H1=>∃c,Me K x H1 c/\if c=true then Q x H1 else tb σ H1 Q
def HN(ha:PE X a ta)(hb:PE X (.BoolOp .Or (b::rest) pos) tb):PE X (.BoolOp .Or (a::b::rest) pos) (OC X.K ta tb):=by
 intro aa s σ H Q I h;refine BoolOp_or (bD (ha aa s σ H _ I h) λv s1 ⟨x,H1,I1,r1,q1⟩=>?_)
 obtain⟨c,tv,q1⟩:=q1
 refine bD (HE aa s1 σ H1 x v (λc' H'=>c'=c/\H'=H1) I1 r1 ⟨c,tv,rfl,rfl⟩) λc' s2 hu=>?_
 obtain⟨H2,I2,rfl,rfl⟩:=hu
 cases c' with
 |false=>exact hb aa s2 σ H2 Q I2 q1
 |true=>exact⟨x,H2,I2,r1,q1⟩
end L2
namespace Ci
open PySem L2
variable{X:Cx}{W:Wd}{F:aH}
theorem xj(hK:W.K=X.K){a b:E}{pa pb:Expr}{r:List Expr}{pos:Pos}(Oq:fk a=true)(he:fk b=true)(ha:GE X W F a pa)(hb:GE X W F b (.BoolOp .Or (pb::r) pos)):GE X W F (.EJ a b) (.BoolOp .Or (pa::pb::r) pos):=
 (HN ha hb).imp λσ H Q h=>by
  obtain⟨H0,G,env,sr,o⟩:=h
  rw [aB] at o;refine one sr o λp v G1 H1 g1 t1 bj o1=>?_
  have fin:Out X W (aB F b env) σ G1 H1 (λp=>∀v G' H',aF W G H G' H'->Got W H0 G' H' (.EJ a b) p v->Q v H')->tE X W F b σ H1 Q:=λoh=>
   ⟨H0,G1,env,bj,oh.imp λp hp v G' H' g' t'=>hp v G' H' (g1.trans g') (.of (t'.rep he))⟩
  cases p with
  |aC=>
   have z:=t1.top.aC
   subst z;exact⟨false,rfl,fin o1⟩
  |lst xs=>
   have rp:=t1.rep Oq
   obtain⟨a',vs,z,h1,l1⟩:=t1.top.lst bj.sub
   subst z;cases xs with
   |nil=>
    simp! [ah] at l1;subst l1;exact⟨false,.inl ⟨_,hZ hK h1,rfl⟩,fin o1⟩
   |cons x xs=>
    obtain⟨v1,r1,rfl,_,_⟩:=l1.aR
    have oh:Out X W (Res.ok (PV.lst (x::xs))) σ G1 H1 _:=o1
    exact⟨true,.inl ⟨_,hZ hK h1,rfl⟩,oh _ G1 H1 g1 (.of rp)⟩
  |_=>exact zzk o1
section
variable{Γ:Pg}{W:Wd}{F:aH}{k:Nat}
def FY{X:Cx}{e:E}{p:Expr}(h:GE X W F e p)(he:∀whole,isTrue p X.env whole=(do let v<-whole;standAt p.pos;holding [v] (truthy v))):GT X W F e p:=
 L2.PT.imp (Hj h he) λσ H Q hq=>Ek σ H Q hq
structure RW(X:Cx)(W:Wd)(F:aH)(e:E)(p:Expr):Prop where
 ge:GE X W F e p
 gt:fu e=true->GT X W F e p
 gw:fu e=true->∀op vs pos,p=.BoolOp op vs pos->GW X W F e p
def aY{X:Cx}{e:E}{p:Expr}(h:GE X W F e p)(he:∀whole,isTrue p X.env whole=(do let v<-whole;standAt p.pos;holding [v] (truthy v)))(hb:∀op vs pos,p≠.BoolOp op vs pos):RW X W F e p:=
 ⟨h,λ_=>FY h he,λ_ op vs pos e=>absurd e (hb op vs pos)⟩
def isTrue_plain{p:Expr}{env:Env}(h:(match p with|.UnaryOp .Not _ _=>false|.BoolOp .. =>false|.IfExp .. =>false|.Compare .. =>false|_=>true)=true):∀whole,isTrue p env whole=(do let v<-whole;standAt p.pos;holding [v] (truthy v)):=by
 intro whole;cases p with
 |UnaryOp op a pos=>cases op<;>first|rfl|(exact bG h)
 |BoolOp _ _ _=>exact bG h
 |IfExp _ _ _ _=>exact bG h
 |Compare _ _ _ _=>exact bG h
 |_=>rfl
def xS{po:Expr}{m:Str}{env:Env}(h:Er po=true):attributeBase po m env (eval po env)=eval po env:=by
 cases po with
 |Call f as kws p=>
  cases as with
  |nil=>exact bG h
  |cons a as=>cases f<;>rfl
 |_=>rfl
def Ga{X:Cx}{q:PV}{c:Const}{kk:Nat}{pos:Pos}(h:Lb q c=true):GE X W F (.cst q) (.Constant c kk pos):=by
 cases q with
 |aC=>cases yw h;exact fT yu λG=>.n
 |bl b=>
  obtain⟨x,e,h⟩:=ai h
  cases FJ e;cases eq_of_beq h;exact fT Ln λG=>.b
 |int i=>
  obtain⟨x,e,h⟩:=ai h
  cases uk e;cases eq_of_beq h;exact fT sy λG=>.i
 |str z=>
  obtain⟨x,e,h⟩:=ai h
  cases zZ e;cases eq_of_beq h;exact fT Ax λG=>.s
 |_=>exact bG h
def xY{α:Type}{r:Res α}{c:α->Prop} [∀a,Decidable (c a)]{f:α->Res (List PV)}{q:PV}(e:(r.bind λa=>if c a then(f a).bind λys=>.ok (.lst ys) else .bad)=.ok q):∃ys,q=.lst ys:=by
 obtain⟨ps,_,e⟩:=Res.aX e
 split at e
 ·obtain⟨ys,_,e⟩:=Res.aX e
  cases e;exact⟨_,rfl⟩
 ·cases e
def ux{kk:Nat}{cF:List Nat}{tg:Tg}{it:I}{elt:E}(env:Sl)(q:PV)(e:aB F (.comp kk cF tg it elt) env=.ok q):∃ys,q=.lst ys:=by
 rw [aB] at e;exact xY e
def nR{kk:Nat}{cF:List Nat}{tg:Tg}{it:I}{c elt:E}(env:Sl)(q:PV)(e:aB F (.cN kk cF tg it c elt) env=.ok q):∃ys,q=.lst ys:=by
 rw [aB] at e;exact xY e
mutual
theorem aW:∀(e:E) {Γ:Pg} {N:List Str} {sc:Scope} {X:Cx} (C:dW Γ F W N sc k X) (p:Expr),aP Γ N sc e p=true->RW X W F e p
 |.var i,Γ,N,sc,X,C,p,h=>by
  obtain⟨x,_,rfl,h9⟩:=Jk h
  clear h
  have h:=h9
  clear h9
  exact aY (HF C h) (λ_=>rfl) (λ_ _ _ z=>nomatch z)
 |.hV i,Γ,N,sc,X,C,p,h=>by
  obtain⟨x,_,rfl,h9⟩:=Jk h
  clear h
  have h:=h9
  clear h9
  exact aY (GG C h) (λ_=>rfl) (λ_ _ _ z=>nomatch z)
 |.cst q,Γ,N,sc,X,C,p,h=>by
  obtain⟨c,_,_,rfl,h9⟩:=ME h
  clear h
  have h:=h9
  clear h9
  refine aY (Ga h) (λ_=>rfl) (λ_ _ _ z=>nomatch z)
 |.glob g q,Γ,N,sc,X,C,p,h=>by
  obtain⟨x,_,rfl,h9⟩:=Jk h
  clear h
  have h:=h9
  clear h9
  exact aY (Bu C h) (λ_=>rfl) (λ_ _ _ z=>nomatch z)
 |.call f as,Γ,N,sc,X,C,p,h=>by
  obtain⟨g,args,_,_,rfl,h9⟩:=w5 h
  clear h
  have h:=h9
  clear h9
  replace h:=ay h
  try simp! [zza,zzy] at h
  obtain⟨⟨⟨⟨⟨rfl,h1⟩,h2⟩,h3⟩,h4⟩,h5⟩:=h
  have ga:=i4 as C args h5
  cases as with
  |nil=>
   cases args with
   |nil=>exact aY (zJ C h1 h2 h3) (λ_=>rfl) (λ_ _ _ z=>nomatch z)
   |cons _ _=>exact bG h5
  |cons e es=>
   cases args with
   |nil=>exact bG h5
   |cons q qs=>
    have h6:=ay h5
    exact aY (Df C h1 h2 h3 h4 ga (notStar h6.1 _ _) (dY h6.2 _ _)) (λ_=>rfl) (λ_ _ _ z=>nomatch z)
 |.mS f as,Γ,N,sc,X,C,p,h=>by
  obtain⟨g,args,_,_,rfl,h9⟩:=w5 h
  clear h
  replace h:=ay h9
  clear h9
  try simp! [zza,zzy] at h
  obtain⟨⟨⟨⟨⟨rfl,h1⟩,h2⟩,h3⟩,h4⟩,h5⟩:=h
  have ga:=i4 as C args h5
  cases as with
  |nil=>exact bG h4
  |cons e es=>
   cases args with
   |nil=>exact bG h5
   |cons q qs=>
    have h6:=ay h5
    exact aY (Al C h1 h2 h3 ga (notStar h6.1 _ _) (dY h6.2 _ _)) (λ_=>rfl) (λ_ _ _ z=>nomatch z)
 |.blt b as,Γ,N,sc,X,C,p,h=>by
  obtain⟨g,args,_,_,rfl,h9⟩:=w5 h
  clear h
  have h:=h9
  clear h9
  replace h:=ay h
  try simp! [zza,zzy] at h
  obtain⟨⟨⟨⟨rfl,h1⟩,h2⟩,h3⟩,h5⟩:=h
  have ga:=i4 as C args h5
  cases as with
  |nil=>exact bG h3
  |cons e es=>
   cases args with
   |nil=>exact bG h5
   |cons q qs=>
    have h6:=ay h5
    exact aY (FP C b h1 h2 ga (notStar h6.1 _ _) (dY h6.2 _ _)) (λ_=>rfl) (λ_ _ _ z=>nomatch z)
 |.ty t a,Γ,N,sc,X,C,p,h=>by
  obtain⟨g,args,_,_,rfl,h9⟩:=w5 h
  clear h
  have h:=h9
  clear h9
  obtain⟨pa,pb,z2,h2⟩:=Cp h
  obtain⟨tn,_,z3,h3⟩:=Jk h2
  dsimp only at z2 z3;subst z2 z3
  clear h h2
  have h:=h3
  clear h3
  replace h:=ay h
  try simp! [zza,zzy] at h
  obtain⟨⟨⟨⟨⟨⟨rfl,h1⟩,h2⟩,rfl⟩,h3⟩,h4⟩,h5⟩:=h
  exact aY (LO C h1 h2 h3 h4 (aW a C pa h5).ge (notStar h5)) (λ_=>rfl) (λ_ _ _ z=>nomatch z)
 |.bin o a b,Γ,N,sc,X,C,p,h=>by
  obtain⟨q,e,h1⟩:=ai h
  obtain⟨_,rfl⟩:=Gz e
  clear h
  have h:=ay h1
  have h0:=ay h.1
  rw [<-zzY h0.1];exact aY (Gn C (aW a C _ h0.2).ge (aW b C _ h.2).ge) (λ_=>rfl) (λ_ _ _ z=>nomatch z)
 |.cmp o a b,Γ,N,sc,X,C,p,h=>by
  obtain⟨pa,ops,cs,_,rfl,h1⟩:=QS h
  obtain⟨op,z2,h2⟩:=ft h1
  obtain⟨pb,z3,h3⟩:=ft h2
  dsimp only at z2 z3;subst z2 z3
  clear h h1 h2
  have h:=h3
  clear h3
  replace h:=ay h
  have h0:=ay h.1
  cases zzY h0.1;have h1:=h0.2
  have h2:=h.2
  exact⟨FD C (aW a C _ h1).ge (aW b C _ h2).ge (pT h2 _),λ_=>IP C (aW a C _ h1).ge (aW b C _ h2).ge (pT h2 _),(λ_ _ _ _ z=>nomatch z)⟩
 |.ch o1 o2 a b c,Γ,N,sc,X,C,p,h=>by
  obtain⟨pa,ops,cs,_,rfl,h1⟩:=QS h
  obtain⟨op1,op2,z2,h2⟩:=Cp h1
  obtain⟨pb,pc,z3,h3⟩:=Cp h2
  dsimp only at z2 z3;subst z2 z3
  clear h h1 h2
  have h:=h3
  clear h3
  replace h:=ay h
  try simp! [zza,zzN] at h
  obtain⟨⟨⟨⟨rfl,rfl⟩,h1⟩,h2⟩,h3⟩:=h
  have hm:lastMarks [qd o1,qd o2] [pb,pc]=false:=pT h3 _
  exact⟨LH C (aW a C _ h1).ge (aW b C _ h2).ge (aW c C _ h3).ge hm,λ_=>KL C (aW a C _ h1).ge (aW b C _ h2).ge (aW c C _ h3).ge hm,(λ_ _ _ _ z=>nomatch z)⟩
 |.not a,Γ,N,sc,X,C,p,h=>by
  obtain⟨o,pa,_,rfl,h1⟩:=Pj h
  clear h
  have h:=ay h1
  cases xZ h.1;have s:=aW a C pa h.2
  exact⟨IC s.ge,λz=>Hm (s.gt (by simpa only [fu] using z)),(λ_ _ _ _ z=>nomatch z)⟩
 |.neg a,Γ,N,sc,X,C,p,h=>by
  obtain⟨o,pa,_,rfl,h1⟩:=Pj h
  clear h
  have h:=ay h1
  cases qe h.1;exact aY (Am (aW a C pa h.2).ge) (λ_=>rfl) (λ_ _ _ z=>nomatch z)
 |.and a b,Γ,N,sc,X,C,p,h=>by
  obtain⟨o,vs,pos,rfl,h1⟩:=NQ h
  obtain⟨⟨pa,pb⟩,e2,h2⟩:=ai h1
  clear h h1
  have h:=ay h2
  clear h2
  try simp! [zza] at h
  obtain⟨⟨⟨h0,he⟩,h1⟩,h2⟩:=h
  cases xt h0;have sa:=aW a C pa h1
  have sb:=aW b C pb h2
  rcases so e2 with z|⟨q,c,r,z,z2⟩
  ·dsimp only at z;subst z;have gw:fu (.and a b)=true->GW X W F (.and a b) (.BoolOp .And [pa,pb] pos):=λz=>by
    have z:=ay z
    exact zv (sa.gt z.1) (pw_and1 (sb.gt z.2))
   exact⟨zo he sa.ge (sF sb.ge),λz=>(gw z).pt,λz _ _ _ _=>gw z⟩
  ·dsimp only at z z2;subst z z2;have gw:fu (.and a b)=true->GW X W F (.and a b) (.BoolOp .And (pa::q::c::r) pos):=λz=>by
    have z:=ay z
    exact zv (sa.gt z.1) (sb.gw z.2 _ _ _ rfl)
   exact⟨zo he sa.ge sb.ge,λz=>(gw z).pt,λz _ _ _ _=>gw z⟩
 |.or a b,Γ,N,sc,X,C,p,h=>by
  obtain⟨o,vs,pos,rfl,h1⟩:=NQ h
  obtain⟨⟨pa,pb⟩,e2,h2⟩:=ai h1
  clear h h1
  have h:=ay h2
  clear h2
  try simp! [zza] at h
  obtain⟨⟨⟨h0,he⟩,h1⟩,h2⟩:=h
  cases vg h0;have sa:=aW a C pa h1
  have sb:=aW b C pb h2
  rcases so e2 with z|⟨q,c,r,z,z2⟩
  ·dsimp only at z;subst z;have gw:fu (.or a b)=true->GW X W F (.or a b) (.BoolOp .Or [pa,pb] pos):=λz=>by
    have z:=ay z
    exact Ey (sa.gt z.1) (pw_or1 (sb.gt z.2))
   exact⟨EC he sa.ge (sF sb.ge),λz=>(gw z).pt,λz _ _ _ _=>gw z⟩
  ·dsimp only at z z2;subst z z2;have gw:fu (.or a b)=true->GW X W F (.or a b) (.BoolOp .Or (pa::q::c::r) pos):=λz=>by
    have z:=ay z
    exact Ey (sa.gt z.1) (sb.gw z.2 _ _ _ rfl)
   exact⟨EC he sa.ge sb.ge,λz=>(gw z).pt,λz _ _ _ _=>gw z⟩
 |.EJ a b,Γ,N,sc,X,C,p,h=>by
  obtain⟨o,vs,pos,rfl,h1⟩:=NQ h
  obtain⟨⟨pa,pb⟩,e2,h2⟩:=ai h1
  clear h h1
  have h:=ay h2
  clear h2
  try simp! [zza] at h
  obtain⟨⟨⟨⟨h0,he1⟩,he⟩,h1⟩,h2⟩:=h
  cases vg h0;have sa:=aW a C pa h1
  have sb:=aW b C pb h2
  rcases so e2 with z|⟨q,c,r,z,z2⟩
  ·dsimp only at z;subst z;exact⟨xj C.K he1 he sa.ge (sF sb.ge),(λz=>nomatch z),(λz=>nomatch z)⟩
  ·dsimp only at z z2;subst z z2;exact⟨xj C.K he1 he sa.ge sb.ge,(λz=>nomatch z),(λz=>nomatch z)⟩
 |.ite c a b,Γ,N,sc,X,C,p,h=>by
  obtain⟨q,e,h1⟩:=ai h
  obtain⟨_,rfl⟩:=F7 e
  clear h
  have h:=ay h1
  clear h1
  try simp! [zza] at h
  obtain⟨⟨⟨⟨⟨h0,h1⟩,h2⟩,h3⟩,h4⟩,h5⟩:=h
  exact⟨GY h1 h2 ((aW c C _ h3).gt h0) (aW a C _ h4).ge (aW b C _ h5).ge,(λz=>nomatch z),(λ_ _ _ _ z=>nomatch z)⟩
 |.tup as,Γ,N,sc,X,C,p,h=>by
  obtain⟨ps,e,h1⟩:=ai h
  obtain⟨_,_,rfl⟩:=jz e
  clear h
  have h:=ay h1
  have h0:=ay h.1
  exact aY (Fm h0.1 (zzY h0.2) (i4 as C _ h.2)) (λ_=>rfl) (λ_ _ _ z=>nomatch z)
 |.lst as,Γ,N,sc,X,C,p,h=>by
  obtain⟨ps,e,h1⟩:=ai h
  obtain⟨_,rfl⟩:=AK e
  clear h
  have h:=ay h1
  have h0:=ay h.1
  exact aY ((ze h0.1 (zzY h0.2) (i4 as C _ h.2)).ge lst_is) (λ_=>rfl) (λ_ _ _ z=>nomatch z)
 |.sub a b,Γ,N,sc,X,C,p,h=>by
  obtain⟨pa,pb,_,rfl,h9⟩:=OT h
  clear h
  have h:=h9
  clear h9
  replace h:=ay h
  exact aY (Ja C (aW a C _ h.1).ge (aW b C _ h.2).ge (zT h.2)) (λ_=>rfl) (λ_ _ _ z=>nomatch z)
 |.rev a,Γ,N,sc,X,C,p,h=>by
  obtain⟨pa,ps,_,rfl,h1⟩:=OT h
  obtain⟨pl,ph,pst,_,z2,h2⟩:=Sq h1
  obtain⟨st,z3,h3⟩:=ai h2
  obtain⟨uo,ue,_,z4,h4⟩:=Pj h3
  obtain⟨cc,_,_,z5,h5⟩:=ME h4
  clear h h1 h2 h3 h4
  have h:=ay h5
  clear h5
  simp! [zza] at h;obtain⟨⟨⟨⟨y1,y2⟩,y3⟩,y4⟩,y5⟩:=h
  have w1:=FZ y1
  have w2:=FZ y2
  have w3:=qe y3
  have w4:=uk (eq_of_beq y4)
  dsimp only at z2 z3 z4 z5 w1 w2 w3 w4;subst z2 z3 z4 z5 w1 w2 w3 w4;exact aY (IJ C (aW a C pa y5).ge (Am (fT sy λG=>.i))) (λ_=>rfl) (λ_ _ _ z=>nomatch z)
 |.get a k,Γ,N,sc,X,C,p,h=>by
  obtain⟨⟨f,as,kws,pos⟩,e3,h3⟩:=ai h
  have z3:=j7 e3
  obtain⟨⟨po,attr,apos⟩,e4,h4⟩:=ai h3
  have z4:=yU e4
  obtain⟨pk,z5,h5⟩:=ft h4
  have g:=ay h5
  simp! [zza] at g;obtain⟨⟨⟨⟨⟨n1,e1⟩,h6⟩,h7⟩,h8⟩,h9⟩:=g
  have z6:=D1 n1
  cases zzy.mp e1;dsimp only at z3 z4 z5 z6;subst z3 z4 z5 z6;exact aY (IE C (aW a C po h8).ge (aW k C pk h9).ge (xS h7) h6 (notStar h9 _ _)) (λ_=>rfl) (λ_ _ _ z=>nomatch z)
 |.maxD a n,Γ,N,sc,X,C,p,h=>by
  obtain⟨⟨f,as,kws,pos⟩,e3,h3⟩:=ai h
  have z3:=j7 e3
  obtain⟨g,gp,z4,h4⟩:=Jk h3
  obtain⟨pa,z5,h5⟩:=ft h4
  obtain⟨⟨kn,kv⟩,e6,h6⟩:=ai h5
  obtain⟨kp,z6⟩:=GL e6
  obtain⟨c,c1,c2,z7,h7⟩:=ME h6
  have g:=ay h7
  simp! [zza] at g;obtain⟨⟨⟨⟨⟨e1,h1⟩,h2⟩,e2⟩,e3⟩,h8⟩:=g
  cases zzy.mp e1;cases zzy.mp e2;have z8:=uk (eq_of_beq e3)
  dsimp only at z3 z4 z5 z6 z7 z8;subst z3 z4 z5 z6 z7 z8;exact aY (CL C h1 h2 (aW a C pa h8).ge (notStar h8 _ _)) (λ_=>rfl) (λ_ _ _ z=>nomatch z)
 |.Lm n,Γ,N,sc,X,C,p,h=>by
  obtain⟨⟨pk,pv⟩,e1,h1⟩:=ai h
  obtain⟨_,z1⟩:=Fj e1
  obtain⟨z,zp,z2,h2⟩:=Jk h1
  obtain⟨c,c1,c2,z3,h3⟩:=ME h2
  have g:=ay h3
  simp! [zza] at g;obtain⟨⟨⟨g1,g2⟩,g3⟩,g4⟩:=g
  have z4:=yw g4
  dsimp only at z1 z2 z3;subst z4 z3 z2 z1;exact aY (F3 C (eq_of_beq g1) g2 g3) (λ_=>rfl) (λ_ _ _ z=>nomatch z)
 |.zF a,Γ,N,sc,X,C,p,h=>by
  obtain⟨g,args,_,_,rfl,h9⟩:=w5 h
  clear h
  have h:=h9
  clear h9
  obtain⟨z,z2,h2⟩:=ft h
  obtain⟨g2,a2,_,_,z3,h3⟩:=w5 h2
  obtain⟨pa,z4,h4⟩:=ft h3
  dsimp only at z2 z3 z4;subst z2 z3 z4
  clear h h2 h3
  have h:=ay h4
  clear h4
  simp! [zza] at h;obtain⟨⟨⟨⟨⟨⟨e1,h1⟩,h2⟩,e2⟩,h3⟩,h4⟩,h5⟩:=h
  cases zzy.mp e1;cases zzy.mp e2;exact aY (Cf C h1 h2 h3 h4 (aW a C pa h5).ge (notStar h5 _ _)) (λ_=>rfl) (λ_ _ _ z=>nomatch z)
 |.slice a lo hi,Γ,N,sc,X,C,p,h=>by
  obtain⟨pa,ps,_,rfl,h1⟩:=OT h
  obtain⟨pl,ph,pst,_,z2,h2⟩:=Sq h1
  clear h h1
  have h:=ay h2
  simp! [zza] at h;have w:=FZ h.1.1.1
  dsimp only at z2 w;subst z2 w;exact aY (yg C (aW a C _ h.1.1.2).ge (K8 lo C pl h.1.2) (K8 hi C ph h.2)) (λ_=>rfl) (λ_ _ _ z=>nomatch z)
 |.comp kk cF tg it elt,Γ,N,sc,X,C,p,h=>by
  obtain⟨ef,gens,scope,_,rfl,h1⟩:=Mt h
  obtain⟨⟨cY,fA,ifs,asy⟩,z2,h2⟩:=ft h1
  have h3:=ay h2
  have z3:=D1 h3.1
  dsimp only at z2 z3;subst z2 z3
  clear h h1 h2
  have h:=ay h3.2
  clear h3
  simp! [zza] at h;obtain⟨⟨⟨⟨⟨⟨h1,h2⟩,h3⟩,h4⟩,h5⟩,h6⟩,gQ⟩:=h
  have gQ:=zzY gQ
  subst gQ;exact aY ((uI C (ie h1) h2 h3 (xo it C cY fA h4) (ip h4 _) h5 λY CY=>(aW elt CY ef h6).ge).ge ux) (λ_=>rfl) (λ_ _ _ z=>nomatch z)
 |.cN kk cF tg it c elt,Γ,N,sc,X,C,p,h=>by
  obtain⟨ef,gens,scope,_,rfl,h1⟩:=Mt h
  obtain⟨⟨cY,fA,ifs,asy⟩,z2,h2⟩:=ft h1
  obtain⟨pc,z3,h3⟩:=ft h2
  dsimp only at z2 z3;subst z2 z3
  clear h h1 h2
  have h:=ay h3
  clear h3
  simp! [zza] at h;obtain⟨⟨⟨⟨⟨⟨⟨⟨h0,h1⟩,h2⟩,h3⟩,h4⟩,h5⟩,h6⟩,h7⟩,gQ⟩:=h
  have gQ:=zzY gQ
  subst gQ;exact aY ((mT C (ie h1) h2 h3 (xo it C cY fA h4) (ip h4 _) h5 (λY CY=>(aW c CY pc h6).gt h0) λY CY=>(aW elt CY ef h7).ge).ge nR) (λ_=>rfl) (λ_ _ _ z=>nomatch z)
theorem i4:∀(es:Es) {Γ:Pg} {N:List Str} {sc:Scope} {X:Cx} (C:dW Γ F W N sc k X) (ps:List Expr),gD Γ N sc es ps=true->GA X W F es ps
 |.nil,Γ,N,sc,X,C,ps,h=>by
  cases ps with
  |nil=>exact FG
  |cons _ _=>exact bG h
 |.cons e es,Γ,N,sc,X,C,ps,h=>by
  cases ps with
  |nil=>exact bG h
  |cons p ps=>
   replace h:=ay h
   exact CU (aW e C p h.1).ge (i4 es C ps h.2) (notStar h.1 _ _)
theorem K8:∀(o:Oe) {Γ:Pg} {N:List Str} {sc:Scope} {X:Cx} (C:dW Γ F W N sc k X) (p:Option Expr),IG Γ N sc o p=true->PO X p (ye X W F o)
 |.no,Γ,N,sc,X,C,p,h=>by
  cases p with
  |none=>exact D5
  |some _=>exact bG h
 |.some e,Γ,N,sc,X,C,p,h=>by
  cases p with
  |none=>exact bG h
  |some p=>
   exact Bq (aW e C p h).ge
theorem xo:∀(it:I) {Γ:Pg} {N:List Str} {sc:Scope} {X:Cx} (C:dW Γ F W N sc k X) (tg p:Expr),wd Γ N sc tg it p=true->GI X W F tg it p
 |.seq e,Γ,N,sc,X,C,tg,p,h=>by
  exact Fp C (aW e C p h).ge
 |.mG e,Γ,N,sc,X,C,tg,p,h=>by
  obtain⟨g,args,_,_,rfl,h9⟩:=w5 h
  clear h
  have h:=h9
  clear h9
  obtain⟨q,z2,h2⟩:=ft h
  dsimp only at z2;subst z2
  clear h
  have h:=ay h2
  clear h2
  simp! [zza] at h;obtain⟨⟨⟨e1,h1⟩,h2⟩,h3⟩:=h
  cases zzy.mp e1;exact Fg C h1 h2 (notStar h3) (aW e C q h3).ge
 |.pI a b,Γ,N,sc,X,C,tg,p,h=>by
  obtain⟨g,args,_,_,rfl,h9⟩:=w5 h
  clear h
  have h:=h9
  clear h9
  obtain⟨q,r,z2,h2⟩:=Cp h
  dsimp only at z2;subst z2
  clear h
  have h:=ay h2
  clear h2
  simp! [zza] at h;obtain⟨⟨⟨⟨e1,h1⟩,h2⟩,h3⟩,h4⟩:=h
  cases zzy.mp e1;exact D8 C h1 h2 (notStar h3) (notStar h4) (aW a C q h3).ge (aW b C r h4).ge
 |.enum e,Γ,N,sc,X,C,tg,p,h=>by
  obtain⟨g,args,_,_,rfl,h9⟩:=w5 h
  clear h
  have h:=h9
  clear h9
  obtain⟨q,z2,h2⟩:=ft h
  dsimp only at z2;subst z2
  clear h
  have h:=ay h2
  clear h2
  simp! [zza] at h;obtain⟨⟨⟨⟨h0,e1⟩,h1⟩,h2⟩,h3⟩:=h
  cases zzy.mp e1;cases tg<;>first|(exact bG h0)|skip
  exact Bs C h1 h2 (notStar h3) (aW e C q h3).ge
 |.sC e,Γ,N,sc,X,C,tg,p,h=>by
  obtain⟨g,args,_,_,rfl,h9⟩:=w5 h
  clear h
  obtain⟨q,z2,h2⟩:=ft h9
  dsimp only at z2;subst z2;have h:=ay h2
  simp! [zza] at h;obtain⟨⟨⟨⟨e1,h1⟩,h2⟩,h3⟩,h4⟩:=h
  cases zzy.mp e1;exact HS C h1 h2 h3 (aW e C q h4).ge (notStar h4)
 |.zip as,Γ,N,sc,X,C,tg,p,h=>by
  obtain⟨g,args,_,_,rfl,h9⟩:=w5 h
  clear h
  replace h:=ay h9
  clear h9
  simp! [zza] at h;obtain⟨⟨⟨⟨⟨⟨h0,e1⟩,h1⟩,h2⟩,h3⟩,h4⟩,h5⟩:=h
  cases zzy.mp e1;cases tg<;>first|(exact bG h0)|skip
  rw [zzt,zzy,zzy] at h4;cases as with
  |nil=>exact absurd h4 (by show¬(0=2\/0=3);omega)
  |cons a as=>
   cases args with
   |nil=>exact bG h5
   |cons q qs=>
    have h6:=ay (show(aP Γ N sc a q&&gD Γ N sc as qs)=true from h5)
    exact Iy C h1 h2 h3 h4 (i4 (.cons a as) C (q::qs) h5) (notStar h6.1 _ _) (dY h6.2 _ _)
end
end
end Ci
namespace L2
open PySem PySem.Spec PyProof.Rows
section
variable{X:Cx}{scope:Scope}{xs ys:List Str}{is:List Nat}
theorem tM{i₀:Nat}{x₀:Str}{pos' gh:Pos}{elt tg iter:Expr}{pos:Pos}{wi:TI}{g:TG}{te:TE}(hN₀:X.N.Nodup)(hi₀:X.N[i₀]?=some x₀)(hx₀:Loc X.env.scope x₀)(hc:X.calm=true)(S:eo X scope xs ys is)(hi:PI X tg iter wi)
 (hg:∀fp s1 H1 C,PG (bV X (xs++ys) scope (cA X.env ys) fp s1 H1 C) tg g) (he:∀fp s1 H1 C,PE (bV X (xs++ys) scope (cA X.env ys) fp s1 H1 C) elt te)
 (Au:swapsWith (.ListComp elt [⟨tg,iter,[],0⟩] scope pos) (some (.Name x₀ pos')) gh.line X.env=pure true:=by rfl)
 (hs:∀x,foldedSetIterable iter X.env x=pure x:=by intro _;rfl) (hf₀:X.fn x₀=true\/X.env.scope.names.lookup x₀=some .local:=by first|exact .inl rfl|exact .inr rfl|assumption):
 PS X (.Assign [.Name x₀ pos'] (.ListComp elt [⟨tg,iter,[],0⟩] scope pos) gh) (BB (zY wi xs.length g te is) (dj i₀)):=by
 intro aa s σ H D₀ I h;rw [exec_Assign_Name_used _ _ _ _ Au];refine zzA (wpAny_standAt (zzA ?_));show wpAny _ X.A (do let _<-comprehension (.ListComp elt [⟨tg,iter,[],0⟩] scope pos) scope X.env _ (newList []) false (eval iter X.env) (some (assign (.Name x₀ pos') X.env))) _ _ s;refine zzA (wpAny_mono (fW (QQ:=λ_ s'=>∃σ2 H2,Inv X aa σ2 H2 s'/\D₀.nx σ2 H2) (Q:=λv H4=>dj i₀ v σ H4 D₀.nx) hc S hi hg (λ_ _ _ _=>u5) he hs I h λD C s4 H4 m I5 hn ⟨g0,g1,_,g3,g4,g5⟩ q=>?_) (λ_ s' hq=>zzG (zzG hq)) λ_ _ e=>e)
 refine wpAny_assign_Name (iN I5 hN₀ hi₀ hx₀ (show RelV (.ref D) (.ref D) from rfl) (λs6 I6 ⟨a6,sb6,ha6⟩=>?_) hf₀);have yX:C≠a6:=by
  rcases ha6 with z|z
  ·rw [z];exact g1
  ·exact λz2=>g4 _ _ z z2.symm
 exact⟨m,hn.sameBut sb6 yX,λh' uC=>⟨_,_,I6.turned (t':=s6.toks) (it:=C) (λb o hb e=>uC.extBut b o hb e) g0 g1 g3 g4 g5,q⟩⟩
end
end L2
namespace Ci
open PySem L2
section
variable{W:Wd}{G0 H0 G H:Hp}{env:Sl}{σ:St}
def Own.E7{p:PV}{v:V}(h:Own W H0 G H p v):∃a o,v=.ref a/\H a=some o/\G a=none/\H0 a=none/\((∀G',az G G'->G' a=some o->Rep W G' p (.ref a))\/∃aA,o=.dT aA/\∀ob G',az G G'->G' a=some (.cX ob (.dT aA))->Rep W G' p (.ref a)):=by
 cases p with
 |lst xs=>
  obtain⟨a,vs,rfl,h1,h2,h3,l⟩:=h
  exact⟨a,_,rfl,h1,h2,h3,.inl λG' s e=>.l (.inl (.inl e)) (ah.same s xs l)⟩
 |bx ks ps=>
  obtain⟨a,us,rfl,n,h1,h2,h3,l⟩:=h
  exact⟨a,_,rfl,h1,h2,h3,.inr ⟨_,rfl,λob G' s e=>by simp! [Rep];exact⟨a,ob,us,rfl,n,e,ah.same s ps l⟩⟩⟩
 |aC=>exact h.elim
 |bl _=>exact h.elim
 |int _=>exact h.elim
 |str _=>exact h.elim
 |tup _=>exact h.elim
 |exc _=>exact h.elim
theorem Own.zh{p:PV}{a:Addr}(h:Own W H0 G H p (.ref a))(ps:Array Value):H a≠some (.gq ps):=λz=>by
 cases p with
 |lst xs=>obtain⟨b,vs,e,h1,_⟩:=h;cases e;rw [z] at h1;cases h1
 |bx ks qs=>
  obtain⟨b,us,e,_,h1,_⟩:=h
  cases e;rw [z] at h1;cases h1
 |aC=>exact h.elim
 |bl _=>exact h.elim
 |int _=>exact h.elim
 |str _=>exact h.elim
 |tup _=>exact h.elim
 |exc _=>exact h.elim
theorem pZ{a:Addr}{ob:HO}{H':Hp}(t:cV W G H)(hG:G a=none)(n:∀ps,H a≠some (.gq ps))(hH:∀b,b≠a->H' b=H b):cV W (upd G a ob) H':=λP q m=>by
 obtain⟨n1,ps,e,tr,al⟩:=t P q m
 have hP:P≠a:=λz=>by subst z;exact n ps e
 refine⟨by rw [aj hP];exact n1,ps,by rw [hH P hP];exact e,tr,λpos cv y=>?_⟩
 obtain⟨c',oc,pL,t',e1,e2,e3,e4⟩:=al pos cv y
 exact⟨c',oc,pL,t',e1,bf hG _ _ e2,e3,e4⟩
def Own.gj{p:PV}{v:V}{a:Addr}{G' H':Hp}(h:Own W H0 G H p v)(hv:v≠.ref a)(sG:az G G')(hG:∀b,b≠a->G' b=G b)(hH:∀b,b≠a->H' b=H b):Own W H0 G' H' p v:=by
 cases p with
 |lst xs=>
  obtain⟨b,vs,rfl,h1,h2,h3,l⟩:=h
  have hb:b≠a:=λz=>hv (by rw [z])
  exact⟨b,vs,rfl,by rw [hH b hb];exact h1,by rw [hG b hb];exact h2,h3,ah.same sG xs l⟩
 |bx ks ps=>
  obtain⟨b,us,rfl,n,h1,h2,h3,l⟩:=h
  have hb:b≠a:=λz=>hv (by rw [z])
  exact⟨b,us,rfl,n,by rw [hH b hb];exact h1,by rw [hG b hb];exact h2,h3,ah.same sG ps l⟩
 |aC=>exact h.elim
 |bl _=>exact h.elim
 |int _=>exact h.elim
 |str _=>exact h.elim
 |tup _=>exact h.elim
 |exc _=>exact h.elim
def getElem?_modify{α:Type}(l:List α)(i j:Nat)(f:α->α):(l.modify i f)[j]?=if i=j then(l[j]?).map f else l[j]?:=by
 rw [List.getElem?_modify];split<;>simp_all
def qM(r:SR W H0 env σ G H)(g:aF W G0 H0 G H){i:Nat}{p:PV}{a:Addr}{ob Jm:HO}{H':Hp}(hp:env[i]?=some (.own p))(ho:σ[i]?=some (some (.ref a)))(Lv:Own W H0 G H p (.ref a))(hH:H a=some ob)(hG:G a=none)(AX:H0 a=none)
 (xJ:∀G',az G G'->G' a=some Jm->Rep W G' p (.ref a)) (h1:H' a=some Jm) (h2:∀b,b≠a->H' b=H b):SR W H0 (env.modify i pV) σ (upd G a Jm) H'/\aF W G0 H0 (upd G a Jm) H':=by
 have sG:az G (upd G a Jm):=bf hG
 have sub:az (upd G a Jm) H':=λb u e=>by
  by_cases hb:b=a
  ·subst hb;rw [ax] at e;cases e;exact h1
  ·rw [aj hb] at e;rw [h2 b hb];exact r.sub _ _ e
 have base:∀{B:Hp},B a=none->gR B H->gR B H':=λhB k b u e=>by
  have hb:b≠a:=λz=>by rw [z,hB] at e;cases e
  rw [h2 b hb];exact k b u e
 refine⟨⟨by rw [List.length_modify];exact r.len,sub,base AX r.base,λj s e=>?_,λj l q q' c e1 e2 e3 e4=>?_,pZ r.tab hG Lv.zh h2,pZ r.mF hG (λps z=>by rw [AX] at z;cases z) λ_ _=>rfl⟩,⟨g.g.trans sG,base AX g.h,sub,λb h3 h5 h4=>?_,λt=>pZ (g.tab t) hG Lv.zh h2⟩⟩
 ·rw [getElem?_modify] at e;split at e
  ·rename_i z;subst z;rw [hp] at e;cases e;exact⟨_,ho,_,rfl,xJ _ sG ax⟩
  ·rename_i z;obtain⟨o2,k1,k2⟩:=r.slot j s e
   refine⟨o2,k1,?_⟩;cases s with
   |no=>exact trivial
   |val q=>
    obtain⟨v2,rfl,rv⟩:=k2
    exact⟨v2,rfl,Rep.same sG q rv⟩
   |fn _ _ _=>
    obtain⟨v2,rfl,rv⟩:=k2
    exact⟨v2,rfl,rv.same sG⟩
   |own q=>
    obtain⟨v2,rfl,ov⟩:=k2
    refine⟨v2,rfl,ov.gj (a:=a) (λzz=>?_) sG (λb hb=>aj hb) h2⟩;subst zz;exact z (r.apart i j p q a hp e ho k1)
 ·rw [getElem?_modify] at e1 e2;have ne:∀{j:Nat} {q:PV},(if i=j then(env[j]?).map pV else env[j]?)=some (.own q)->i≠j/\env[j]?=some (.own q):=λ{j q} e=>by
   split at e
   ·rename_i z;subst z;rw [hp] at e;cases e
   ·rename_i z;exact⟨z,e⟩
  exact r.apart j l q q' c (ne e1).2 (ne e2).2 e3 e4
 ·have hb:b≠a:=λz=>h3 (by rw [z];exact AX)
  rw [aj hb];exact g.own b h3 h5 h4
def I0(r:SR W H0 env σ G H)(g:aF W G0 H0 G H)(i:Nat):(∃G',SR W H0 (env.modify i pV) σ G' H/\aF W G0 H0 G' H)\/∃a aA,H a=some (.dT aA)/\∀o,∃G',SR W H0 (env.modify i pV) σ G' (upd H a (.cX o (.dT aA)))/\aF W G0 H0 G' (upd H a (.cX o (.dT aA))):=by
 have same:(∀p,env[i]?≠some (.own p))->env.modify i pV=env:=λh=>by
  refine List.ext_getElem? λj=>?_
  rw [getElem?_modify];split
  ·rename_i e;subst e;cases q:env[i]? with
   |none=>rfl
   |some s=>
    cases s with
    |own p=>exact absurd q (h p)
    |no=>rfl
    |val p=>rfl
    |fn _ _ _=>rfl
  ·rfl
 by_cases hx:∃p,env[i]?=some (.own p)
 ·obtain⟨p,hp⟩:=hx
  obtain⟨o,ho,v,rfl,ow⟩:=r.slot i _ hp
  have Lv:=ow
  obtain⟨a,ob,rfl,hH,hG,AX,xJ|⟨aA,rfl,xJ⟩⟩:=ow.E7
  ·obtain⟨k1,k2⟩:=qM r g hp ho Lv hH hG AX xJ hH λ_ _=>rfl
   exact .inl ⟨_,k1,k2⟩
  ·refine .inr ⟨a,aA,hH,λo=>?_⟩
   obtain⟨k1,k2⟩:=qM r g hp ho Lv hH hG AX (xJ o) ax λb hb=>aj hb
   exact⟨_,k1,k2⟩
 ·exact .inl ⟨G,by rw [same λp z=>hx ⟨p,z⟩];exact r,g⟩
def kg(r:SR W H0 env σ G H)(g:aF W G0 H0 G H){i:Nat}{p p':PV}{a:Addr}{ob:HO}(hp:env[i]?=some (.own p))(hs:σ[i]?=some (some (.ref a)))(hG:G a=none)(AX:H0 a=none)(hn:Own W H0 G (upd H a ob) p' (.ref a)):
 SR W H0 (env.set i (.own p')) σ G (upd H a ob)/\aF W G0 H0 G (upd H a ob):=by
 have cQ:i<env.length:=(zzH.mp hp).1
 have SA:∀ps,H a≠some (.gq ps):=by
  obtain⟨o2,h1,v2,rfl,ow⟩:=r.slot i _ hp
  rw [hs] at h1;cases h1;exact ow.zh
 have tab:∀{G1:Hp},cV W G1 H->cV W G1 (upd H a ob):=λt=>t.same (az.refl _) (λ_ _ _ h=>h) (pX SA)
 refine⟨⟨by rw [List.length_set];exact r.len,λb u e=>?_,λb u e=>?_,λj s e=>?_,λj l q q' c e1 e2 e3 e4=>?_,tab r.tab,r.mF⟩,⟨g.g,λb u e=>?_,λb u e=>?_,g.own,λt=>tab (g.tab t)⟩⟩
 ·rw [aj (λz=>by subst z;rw [hG] at e;cases e)];exact r.sub _ _ e
 ·rw [aj (λz=>by subst z;rw [AX] at e;cases e)];exact r.base _ _ e
 ·by_cases hj:i=j
  ·subst hj;rw [zzo cQ] at e;cases e;exact⟨_,hs,_,rfl,hn⟩
  ·rw [zzS hj] at e;obtain⟨o2,h1,h2⟩:=r.slot j s e
   refine⟨o2,h1,?_⟩;cases s with
   |no=>exact trivial
   |val q=>exact h2
   |fn _ _ _=>exact h2
   |own q=>
    obtain⟨v2,rfl,ov⟩:=h2
    refine⟨v2,rfl,ov.gj (a:=a) (λzz=>?_) (az.refl _) (λb hb=>rfl) λb hb=>aj hb⟩
    subst zz;exact hj (r.apart i j p q a hp e hs h1)
 ·have tr:∀{j:Nat} {q:PV},(env.set i (.own p'))[j]?=some (.own q)->∃q2,env[j]?=some (.own q2):=λ{j q} e=>by
   by_cases hj:i=j
   ·subst hj;exact⟨p,hp⟩
   ·rw [zzS hj] at e;exact⟨q,e⟩
  obtain⟨q2,f1⟩:=tr e1
  obtain⟨q3,f2⟩:=tr e2
  exact r.apart j l q2 q3 c f1 f2 e3 e4
 ·rw [aj (λz=>by subst z;rw [AX] at e;cases e)];exact g.h _ _ e
 ·rw [aj (λz=>by subst z;rw [hG] at e;cases e)];exact g.sub _ _ e
def uh(r:SR W H0 env σ G H)(g:aF W G0 H0 G H){i:Nat}{p:PV}{a:Addr}{ob:HO}(hi:i<env.length)(ha:H a=none)(hn:Own W H0 G (upd H a ob) p (.ref a)):
 SR W H0 (env.set i (.own p)) (σ.set i (some (.ref a))) G (upd H a ob)/\aF W G0 H0 G (upd H a ob):=by
 have gm:aF W G H G (upd H a ob):=.PK r.sub ha
 have r1:=r.grow gm
 have old:∀{j:Nat} {q:PV},env[j]?=some (.own q)->σ[j]?=some (some (.ref a))->False:=λ{j q} e1 e2=>by
  obtain⟨o2,h1,v2,rfl,ov⟩:=r.slot j _ e1
  rw [e2] at h1;cases h1;obtain⟨a',o',e3,hH,_⟩:=ov.E7
  cases e3;rw [ha] at hH;cases hH
 refine⟨⟨by rw [List.length_set,List.length_set];exact r.len,r1.sub,r1.base,λj s e=>?_,λj l q q' c e1 e2 e3 e4=>?_,r1.tab,r1.mF⟩,g.trans gm⟩
 ·by_cases hj:i=j
  ·subst hj;rw [zzo hi] at e;cases e;exact⟨_,zzo (by rw [<-r.len];exact hi),_,rfl,hn⟩
  ·rw [zzS hj] at e;obtain⟨o2,h1,h2⟩:=r1.slot j s e
   exact⟨o2,by rw [zzS hj];exact h1,h2⟩
 ·by_cases hj:i=j
  ·by_cases hl:i=l
   ·exact hj.symm.trans hl
   ·exfalso
    subst hj;rw [zzo (by rw [<-r.len];exact hi)] at e3;rw [zzS hl] at e2 e4;cases e3;exact old e2 e4
  ·by_cases hl:i=l
   ·exfalso
    subst hl;rw [zzo (by rw [<-r.len];exact hi)] at e4;rw [zzS hj] at e1 e3;cases e4;exact old e1 e3
   ·rw [zzS hj] at e1 e3;rw [zzS hl] at e2 e4;exact r.apart j l q q' c e1 e2 e3 e4
end
def ir:E->Bool
 |.lst _=>true
 |.comp _ _ _ _ _=>true
 |.cN _ _ _ _ _ _=>true
 |_=>false
def pQ:Expr->Bool
 |.ListComp .. =>false
 |.SetComp .. =>false
 |.DictComp .. =>false
 |_=>true
noncomputable def OF(sc:Scope)(x:Str)(xp:Pos):Expr->Bool
 |.ListComp _ _ s p=>sc.names.lookup x==some .local&&xp.line==p.line&&!(s.names.any λ(n,k)=>n==x&&(k==.local||k==.cell))
 |_=>false
def K1(ts:List Expr):Option Str:=(d7 ts).bind gF
noncomputable def Kr(e:Expr):Option (Str×Str×List Expr):=(EX e).bind λq=>(Lk q.1).bind λr=>(gF r.1).bind λx=>if(q.2.2.1.isEmpty&&r.2.2.endLine==q.2.2.2.line)=true then some (x,r.2.1,q.2.1) else none
def Sn(ts:List Expr):Option (Str×Expr):=(d7 ts).bind λt=>(Jp t).bind λq=>(gF q.1).bind λx=>some (x,q.2)
noncomputable def QN(o:Option Expr):Option (Str×Str):=o.bind λe=>(EX e).bind λq=>(gF q.1).bind λx=>(d7 q.2.1).bind λa=>(HX a).bind λc=>(xE c).bind λz=>if q.2.2.1.isEmpty=true then some (x,z) else none
def u3:Stmt->Option (List Expr×Expr×Pos)
 |.Assign ts v p=>some (ts,v,p)
 |_=>none
def pO{ts:List Expr}{x:Str}(h:K1 ts=some x):∃xp,ts=[.Name x xp]:=by
 obtain⟨t,h1,h2⟩:=tP h
 obtain⟨p,rfl⟩:=eW h2
 exact⟨p,f6 h1⟩
def oF{p:Expr}{x m:Str}{args:List Expr}(h:Kr p=some (x,m,args)):∃np apos cb,p=.Call (.Attribute (.Name x np) m apos) args [] cb/\(apos.endLine==cb.line)=true:=by
 obtain⟨⟨f,a,k,cp⟩,h1,h⟩:=tP h
 obtain⟨⟨o,m',ap⟩,h2,h⟩:=tP h
 obtain⟨y,h3,h⟩:=tP h
 obtain⟨h4,h⟩:=if1 h
 cases h;rw [zza] at h4;obtain⟨p3,z3⟩:=eW h3
 have z2:=yU h2
 have z5:=List.isEmpty_iff.1 h4.1
 dsimp only at z2 z3 z5;subst z3 z2 z5;exact⟨_,_,_,j7 h1,h4.2⟩
def F4{ts:List Expr}{x:Str}{pk:Expr}(h:Sn ts=some (x,pk)):∃np sp,ts=[.Subscript (.Name x np) pk sp]:=by
 obtain⟨t,h1,h⟩:=tP h
 obtain⟨⟨a,b⟩,h2,h⟩:=tP h
 obtain⟨y,h3,h⟩:=tP h
 cases h;obtain⟨p3,z3⟩:=eW h3
 obtain⟨p2,z2⟩:=yq h2
 dsimp only at z3;subst z3 z2;exact⟨_,_,f6 h1⟩
def Fe{o:Option Expr}{x z:Str}(h:QN o=some (x,z)):∃np j zp cp,o=some (.Call (.Name x np) [.Constant (.str z) j zp] [] cp):=by
 obtain⟨e,h0,h⟩:=tP h
 obtain⟨⟨f,a,k,cp⟩,h1,h⟩:=tP h
 obtain⟨y,h2,h⟩:=tP h
 obtain⟨t,h3,h⟩:=tP h
 obtain⟨c,h4,h⟩:=tP h
 obtain⟨w,h5,h⟩:=tP h
 obtain⟨h6,h⟩:=if1 h
 cases h;obtain⟨p2,z2⟩:=eW h2
 obtain⟨p4,q4,z4⟩:=yP h4
 have z3:=f6 h3
 have z5:=zZ h5
 have z6:=List.isEmpty_iff.1 h6
 dsimp only at z2 z3 z6;subst z2 z5 z4 z3 z6;exact⟨_,_,_,_,h0.trans (congrArg some (j7 h1))⟩
mutual
noncomputable def eX(Γ:Pg)(N:List Str)(sc:Scope):S->Stmt->Bool
 |.expr e,.Expr p _=>pQ p&&aP Γ N sc e p
 |.set i e,.Assign ts p _=>(K1 ts).any λx=>N[i]?==some x&&fv sc x&&fk e&&aP Γ N sc e p
 |.own i e,.Assign ts p _=>(K1 ts).any λx=>N[i]?==some x&&fv sc x&&ir e&&aP Γ N sc e p
 |.app i e,.Expr v _=>(Kr v).any λc=>N[i]?==some c.1&&ff sc c.1&&okN c.1&&c.2.1==("append":Str)&&fk e&&(d7 c.2.2).any λp=>aP Γ N sc e p
 |.jj i e,.Expr v _=>(Kr v).any λc=>N[i]?==some c.1&&ff sc c.1&&okN c.1&&c.2.1==("extend":Str)&&(d7 c.2.2).any λp=>aP Γ N sc e p
 |.put i kk e,.Assign ts p _=>(Sn ts).any λc=>N[i]?==some c.1&&ff sc c.1&&okN c.1&&fk e&&aP Γ N sc kk c.2&&aP Γ N sc e p
 |.fL i j e,.Expr v _=>(Kr v).any λc=>(d7 c.2.2).any λa=>(Kr a).any λd=>(d7 d.2.2).any λq=>N[i]?==some c.1&&ff sc c.1&&okN c.1&&c.2.1==("append":Str)&&N[j]?==some d.1&&ff sc d.1&&okN d.1&&d.2.1==("pop":Str)&&aP Γ N sc e q
 |.ret e,.Return (some p) _=>fk e&&aP Γ N sc e p
 |.ite c a b,.If p pa pb _=>fu c&&aP Γ N sc c p&&dh Γ N sc a pa&&dh Γ N sc b pb
 |.bX tg it b,.For cY fA pb els _=>els.isEmpty&&gC N sc (λ_=>true) tg cY&&D2 it&&wd Γ N sc cY it fA&&dh Γ N sc b pb
 |.Js c b,.While p pb els _=>els.isEmpty&&fu c&&aP Γ N sc c p&&dh Γ N sc b pb
 |.raise c m,.Raise ex fr _=>fr.isNone&&(QN ex).any λq=>c==q.1&&m==q.2&&Γ.rs.contains c&&fq sc c&&okN c
 |.ji i e,.Assign ts v _=>(K1 ts).any λx=>(vd v).any λq=>(d7 q.2).any λr=>q.1==("list":Str)&&fq sc q.1&&Γ.bs.contains q.1&&N[i]?==some x&&fv sc x&&aP Γ N sc e r
 |.qP i,.Assign ts (.Dict [] [] _) _=>(K1 ts).any λx=>N[i]?==some x&&fv sc x
 |_,_=>false
noncomputable def dh(Γ:Pg)(N:List Str)(sc:Scope):Ss->List Stmt->Bool
 |.nil,[]=>true
 |.cons (.cX _) ss,ps=>dh Γ N sc ss ps
 |.cons s ss,p::ps=>eX Γ N sc s p&&dh Γ N sc ss ps
 |_,_=>false
end
section
variable{Γ:Pg}{X:Cx}{W:Wd}{F:aH}{N:List Str}{sc:Scope}{k:Nat}{H0:Hp}{E:XK}
def SR.go{env:Sl}{σ:St}{G H:Hp}(r:SR W H0 env σ G H):aF W G H0 G H:=⟨az.refl _,r.base,r.sub,λ_ _ _ h=>h,λ_=>r.tab⟩
def aF.then{G G1 H1 G2 H2:Hp}(a:aF W G H0 G1 H1)(b:aF W G1 H0 G2 H2):aF W G H0 G2 H2:=⟨a.g.trans b.g,b.h,b.sub,λx h1 h3 h2=>b.own x h1 h3 (a.own x h1 h3 h2),λt=>b.tab (t.same a.g a.own λ_ _ h=>h)⟩
def SR.on{env:Sl}{σ:St}{G H G1 H1:Hp}(r:SR W H0 env σ G H)(g:aF W G H G1 H1):aF W G H0 G1 H1:=⟨g.g,r.base.trans g.h,g.sub,λx h1 h3 h2=>g.own x (λz=>h1 (r.base.free z)) (r.base.uM h1 h3) h2,λ_=>g.tab r.tab⟩
def Dn(W:Wd)(H0 G:Hp)(D:Ends):Fl->Prop
 |.nx env=>∀σ G' H',SR W H0 env σ G' H'->aF W G H0 G' H'->D.nx σ H'
 |.bk env=>∀σ G' H',SR W H0 env σ G' H'->aF W G H0 G' H'->D.bk σ H'
 |.ct env=>∀σ G' H',SR W H0 env σ G' H'->aF W G H0 G' H'->D.ct σ H'
 |.rt p=>∀v G' H',Rep W G' p v->aF W G H0 G' H'->D.rt v H'
def cj(W:Wd)(H0 G:Hp)(E:XK)(r:Res Fl)(D:Ends):Prop:=match r with
 |.ok f=>Dn W H0 G D f
 |.exc c=>∀Cv ao H',XE W c G H0 Cv ao H'->E Cv ao H'
 |.bad=>False
def Dn.on{G G1 H1:Hp}{D:Ends}{f:Fl}(h:Dn W H0 G D f)(g:aF W G H0 G1 H1):Dn W H0 G1 D f:=by
 cases f with
 |nx env=>exact λσ G' H' r g'=>h σ G' H' r (g.then g')
 |bk env=>exact λσ G' H' r g'=>h σ G' H' r (g.then g')
 |ct env=>exact λσ G' H' r g'=>h σ G' H' r (g.then g')
 |rt p=>exact λv G' H' r g'=>h v G' H' r (g.then g')
def cj.on{G G1 H1:Hp}{D:Ends}{r:Res Fl}(h:cj W H0 G E r D)(g:aF W G H0 G1 H1):cj W H0 G1 E r D:=by
 cases r with
 |ok f=>exact Dn.on h g
 |exc c=>
  intro Cv ao H' x;obtain⟨C,a,G',e1,e2,e3,e4,g2⟩:=x
  exact h Cv ao H' ⟨C,a,G',e1,e2,e3,e4,g.then g2⟩
 |bad=>exact h
noncomputable def tS(W:Wd)(F:aH)(H0:Hp)(E:XK)(s:S):TS:=λD σ H=>∃G env,SR W H0 env σ G H/\cj W H0 G E (fB F s env) D
noncomputable def RI(W:Wd)(F:aH)(H0:Hp)(E:XK)(ss:Ss):TS:=λD σ H=>∃G env,SR W H0 env σ G H/\cj W H0 G E (aD F ss env) D
abbrev GS(X:Cx)(W:Wd)(F:aH)(H0:Hp)(E:XK)(s:S)(p:Stmt):Prop:=PS X p (tS W F H0 E s)
abbrev AZ(X:Cx)(W:Wd)(F:aH)(H0:Hp)(E:XK)(s:Ss)(p:List Stmt):Prop:=uN X p (RI W F H0 E s)
def _root_.L2.PS.imp{p:Stmt}{t t':TS}(h:PS X p t)(i:∀D σ H,t' D σ H->t D σ H):PS X p t':=λaa s σ H D I hw=>h aa s σ H D I (i D σ H hw)
def _root_.L2.uN.imp{p:List Stmt}{t t':TS}(h:uN X p t)(i:∀D σ H,t' D σ H->t D σ H):uN X p t':=λaa s σ H D I hw=>h aa s σ H D I (i D σ H hw)
structure eF(Γ:Pg)(F:aH)(W:Wd)(N:List Str)(sc:Scope)(k:Nat)(E:XK)(X:Cx):Prop where
 C:dW Γ F W N sc k X
 fn:∀x,X.fn x=true
 own:PassesOwn (model X.prog X.w) X.A X.env X.xe
 pass:Passes (gr X.prog X.w) X E
 kind:sc.kind=.function
 LJ:X.stack=X.env::X.outer
 frame:X.env.frame=some X.env.locals
 xs:∀c,Γ.rs.contains c=true->c∈W.xs
 rm:∀c,Γ.rs.contains c=true->∃C,X.mg c=some (.ref C)
 rz:∀(c z:Str) (j:Nat) (np zp cp pos:Pos),Γ.rs.contains c=true->fq sc c=true->okN c=true->PS X (.Raise (some (.Call (.Name c np) [.Constant (.str z) j zp] [] cp)) none pos) (λ_ _ H=>∀C e,X.mg c=some (.ref C)->H e=none->E (.ref C) (some e) H)
 MC:Γ.cs.contains "FloorError"=true->∀c D,c∈W.xs->X.mg c=some (.ref D)->∀T,X.mg "FloorError"=some (.ref T)->PySem.W.exmOne X.K (.ref D) (.ref T)=some true
theorem Dq(S:eF Γ F W N sc k E X){c:Str}{σ:St}{Gs G H:Hp}(g:aF W Gs H0 G H)(h:∀Cv ao H',XE W c Gs H0 Cv ao H'->E Cv ao H'):uj X W σ c G H:=λaa G1 H1 s1 e s' I g1 x=>
 S.pass aa σ H1 s1 e s' I (JE.imp x λCv a H' y=>h Cv a H' (by
  obtain⟨C,a',G',e1,e2,e3,e4,g2⟩:=y
  have g3:=g1.trans g2
  exact⟨C,a',G',e1,e2,e3,e4,g.g.trans g3.g,g.h.trans g3.h,g3.sub,λx h1 h3 h2=>g3.own x (λz=>h1 (g.h.free z)) (g.h.uM h1 h3) (g.own x h1 h3 h2),λt=>g3.tab (g.tab t)⟩))
def cj.bind{α:Type}(S:eF Γ F W N sc k E X){r:Res α}{f:α->Res Fl}{D:Ends}{env:Sl}{σ:St}{G H:Hp}(sr:SR W H0 env σ G H)(h:cj W H0 G E (r.bind f) D):Out X W r σ G H λa=>cj W H0 G E (f a) D:=by
 cases r with
 |ok a=>exact h
 |exc c=>exact Dq S sr.go h
 |bad=>exact h
def mD(S:eF Γ F W N sc k E X){env:Sl}{σ:St}{G H:Hp}{e:Ci.E}{f:PV->Res Fl}{D:Ends}{Q:VK}(sr:SR W H0 env σ G H)(o:cj W H0 G E ((aB F e env).bind f) D)
 (h:∀p v G1 H1,aF W G H G1 H1->Got W H0 G1 H1 e p v->SR W H0 env σ G1 H1->cj W H0 G1 E (f p) D->Q v H1):tE X W F e σ H Q:=
 ⟨H0,G,env,sr,(o.bind S sr).imp λp hp v G1 H1 g1 t=>h p v G1 H1 g1 t (sr.grow g1) (hp.on (sr.on g1))⟩
def EV(S:eF Γ F W N sc k E X){env:Sl}{σ:St}{G H:Hp}{e:Ci.E}{f:Bool->Res Fl}{D:Ends}{Q:Bool->Hp->Prop}(sr:SR W H0 env σ G H)(o:cj W H0 G E ((aB F e env).bind λp=>mV p f) D)
 (h:∀b G1 H1,aF W G H G1 H1->SR W H0 env σ G1 H1->cj W H0 G1 E (f b) D->Q b H1):tT X W F e σ H Q:=by
 refine⟨H0,G,env,sr,(o.bind S sr).imp λp hp=>?_⟩
 cases p with
 |bl b=>exact⟨b,rfl,λG1 H1 g1=>h b G1 H1 g1 (sr.grow g1) (cj.on hp (sr.on g1))⟩
 |aC=>exact zzk hp
 |int _=>exact zzk hp
 |str _=>exact zzk hp
 |tup _=>exact zzk hp
 |lst _=>exact zzk hp
 |exc _=>exact zzk hp
 |bx _ _=>exact zzk hp
def Kn(S:eF Γ F W N sc k E X){env:Sl}{σ:St}{G H:Hp}{e:Ci.E}{f:PV->Res Fl}{D:Ends}{Q:VK}(hl:∀env q,aB F e env=.ok q->∃xs,q=.lst xs)(sr:SR W H0 env σ G H)(o:cj W H0 G E ((aB F e env).bind f) D)
 (h:∀xs a vs G1 H1,aF W G H G1 H1->H1 a=none->ah W G1 xs vs->SR W H0 env σ G1 H1->cj W H0 G1 E (f (.lst xs)) D->Q (.ref a) (upd H1 a (.lst vs))):tF X W F e σ H Q:=by
 refine⟨H0,G,env,sr,?_⟩;have o2:=o.bind S sr
 cases r:aB F e env with
 |bad=>rw [r] at o2;exact o2
 |exc c=>rw [r] at o2;exact o2
 |ok q=>
  rw [r] at o2;obtain⟨xs,rfl⟩:=hl env q r
  exact⟨xs,rfl,λa vs G' H' g ha l=>h xs a vs G' H' g ha l (sr.grow g) (cj.on o2 (sr.on g))⟩
def uK{p:Expr}{t:Option Expr}{l:Nat}{env:Env}(h:pQ p=true):swapsWith p t l env=pure false:=by
 cases p<;>first|rfl|(exact bG h)
def jn{elt:Expr}{gens:List Comprehension}{s:Scope}{p:Pos}{x:Str}{xp:Pos}{l:Nat}(fx:X.env.scope=sc)(hk:sc.kind=.function):swapsWith (.ListComp elt gens s p) (some (.Name x xp)) l X.env=pure (OF sc x xp (.ListComp elt gens s p)):=by
 have hb:X.env.blockKind=.function:=by
  unfold Env.blockKind;rw [fx,hk]
  rfl
 show(pure (X.env.blockKind==.function&&X.env.kindOf x==some .local&&xp.line==p.line&&!(s.names.any λ(n,k)=>n==x&&(k==.local||k==.cell))):Sem Bool)=_
 rw [hb];show(pure (true&&X.env.scope.names.lookup x==some .local&&_&&_):Sem Bool)=_
 rw [fx]
 rfl
theorem Bz(S:eF Γ F W N sc k E X){e:Ci.E}{p:Expr}{pos:Pos}(he:GE X W F e p)(hn:pQ p=true):GS X W F H0 E (.expr e) (.Expr p pos):=
 L2.PS.imp (jx he (uK hn)) λD σ H h=>by
  obtain⟨G,env,sr,o⟩:=h
  rw [fB] at o;exact mD S sr o λq v G1 H1 g t bj o1=>o1 σ G1 H1 bj bj.go
theorem Il(S:eF Γ F W N sc k E X){e:Ci.E}{p:Expr}{pos:Pos}(dD:fk e=true)(he:GE X W F e p):GS X W F H0 E (.ret e) (.Return (some p) pos):=
 L2.PS.imp (IU he) λD σ H h=>by
  obtain⟨G,env,sr,o⟩:=h
  rw [fB] at o;exact mD S sr o λq v G1 H1 g t bj o1=>o1 v G1 H1 (t.rep dD) bj.go
theorem AN(S:eF Γ F W N sc k E X){c m:Str}{j:Nat}{np zp cp pos:Pos}(h1:Γ.rs.contains c=true)(h2:fq sc c=true)(h3:okN c=true):GS X W F H0 E (.raise c m) (.Raise (some (.Call (.Name c np) [.Constant (.str m) j zp] [] cp)) none pos):=
 L2.PS.imp (S.rz c m j np zp cp pos h1 h2 h3) λD σ H h C e hC he=>by
  obtain⟨G,env,sr,o⟩:=h
  rw [fB] at o;exact o _ _ _ ⟨C,e,G,rfl,rfl,S.xs c h1,by rw [S.C.mg];exact hC,sr.go⟩
def eL(S:eF Γ F W N sc k E X){i:Nat}{x:Str}(h:N[i]?=some x)(hl:fv sc x=true):X.N.Nodup/\X.N[i]?=some x/\Loc X.env.scope x:=by
 refine⟨by rw [S.C.hN];exact S.C.nd,by rw [S.C.hN];exact h,ym S.C.fx hl⟩
def Hw(S:eF Γ F W N sc k E X){i:Nat}{x:Str}{e:Ci.E}{p:Expr}{xp pos:Pos}(h:N[i]?=some x)(hl:fv sc x=true)(dD:fk e=true)(he:GE X W F e p)(hs:swapsWith p (some (.Name x xp)) pos.line X.env=pure false):GS X W F H0 E (.set i e) (.Assign [.Name x xp] p pos):=by
 obtain⟨a1,a2,a3⟩:=eL S h hl
 refine L2.PS.imp (pP a1 a2 a3 he hs (.inl (S.fn x))) λD σ H h=>?_
 obtain⟨G,env,sr,o⟩:=h
 rw [fB] at o;exact mD S sr o λq v G1 H1 g t bj o1=>o1 _ G1 H1 (bj.set i (t.rep dD)) bj.go
noncomputable def Jx(X:Cx)(W:Wd)(F:aH)(i:Nat)(e:Ci.E):TS:=λD σ H=>tF X W F e σ H λv H1=>D.nx (σ.set i (some v)) H1
def JN{e:Ci.E}(hl:∀env q,aB F e env=.ok q->∃xs,q=.lst xs)(σ:St)(H:Hp)(Q:VK)(h:tE X W F e σ H Q):tF X W F e σ H Q:=by
 obtain⟨H0,G,env,sr,o⟩:=h
 refine⟨H0,G,env,sr,?_⟩;cases r:aB F e env with
 |bad=>rw [r] at o;exact o
 |exc c=>rw [r] at o;exact o
 |ok q=>
  rw [r] at o;obtain⟨xs,rfl⟩:=hl env q r
  exact⟨xs,rfl,λa vs G' H' g ha l=>o _ _ _ (g.trans (.new g.sub ha)) (.of (.l (.inl (.inl ax)) (ah.same (bf (g.sub.free ha)) xs l)))⟩
theorem Be(S:eF Γ F W N sc k E X){i:Nat}{e:Ci.E}{p:Stmt}(hl:∀env q,aB F e env=.ok q->∃xs,q=.lst xs)(dD:fk e=true)(h:PS X p (Jx X W F i e)):GS X W F H0 E (.set i e) p:=
 L2.PS.imp h λD σ H hq=>by
  obtain⟨G,env,sr,o⟩:=hq
  rw [fB] at o;refine JN hl σ H _ (mD S sr o λq v G1 H1 g t bj o1=>?_);exact o1 _ G1 H1 (bj.set i (t.rep dD)) bj.go
def DW(S:eF Γ F W N sc k E X){i:Nat}{x:Str}{e:Ci.E}{p:Stmt}(hi:N[i]?=some x)(hl:∀env q,aB F e env=.ok q->∃xs,q=.lst xs)(h:PS X p (Jx X W F i e)):GS X W F H0 E (.own i e) p:=by
 intro aa s σ H D I hq;have Ik:i<σ.length:=by rw [I.len,S.C.hN];exact(zzH.mp hi).1
 refine h aa s σ H D I ?_;obtain⟨G,env,sr,o⟩:=hq
 rw [fB] at o;refine Kn S hl sr o λxs a vs G1 H1 g ha l bj o1=>?_
 have hO:Own W H0 G1 (upd H1 a (.lst vs)) (.lst xs) (.ref a):=⟨a,vs,rfl,ax,bj.sub.free ha,bj.base.free ha,l⟩
 obtain⟨r2,g2⟩:=uh bj bj.go (i:=i) (by rw [bj.len];exact Ik) ha hO
 exact o1 _ G1 _ r2 g2
def oM{i:Nat}{x:Str}{e:Ci.E}{p:Expr}{xp pos:Pos}(S:eF Γ F W N sc k E X)(h:N[i]?=some x)(hl:fv sc x=true)(he:GF X W F e p)(hs:swapsWith p (some (.Name x xp)) pos.line X.env=pure false):PS X (.Assign [.Name x xp] p pos) (Jx X W F i e):=by
 obtain⟨a1,a2,a3⟩:=eL S h hl
 exact pP a1 a2 a3 he hs (.inl (S.fn x))
def yA(S:eF Γ F W N sc k E X){i:Nat}{x:Str}{xp gh:Pos}(hx:N[i]?=some x)(BC:fv sc x=true){kk:Nat}{cF:List Nat}{tg:Tg}{it:I}{elt:Ci.E}{cY fA ef:Expr}{scope:Scope}{pos:Pos}(h:kI N sc scope kk cF (aG cY))(cQ:iR kk tg=true)(dD:fk elt=true)(hi:GI X W F cY it fA)(vY:∀x,foldedSetIterable fA X.env x=pure x)
 (xU:gC (aG cY++freeOf scope) (c7 scope sc) (lW scope) tg cY=true) (he:∀Y,dW Γ.AS F W (aG cY++freeOf scope) (c7 scope sc) k Y->GE Y W F elt ef):PS X (.Assign [.Name x xp] (.ListComp ef [⟨cY,fA,[],0⟩] scope pos) gh) (Jx X W F i (.comp kk cF tg it elt)):=by
 obtain⟨a1,a2,a3⟩:=eL S hx BC
 cases Au:OF sc x xp (.ListComp ef [⟨cY,fA,[],0⟩] scope pos) with
 |false=>exact oM S hx BC (uI S.C h cQ dD hi vY xU he) (by rw [jn S.C.fx S.kind,Au])
 |true=>
  intro aa s σ H D I hq;have Fv:(freeOf scope).Nodup:=(List.nodup_append.mp h.nd).2.1
  have rd:=uW (N:=N) S.C.K cQ dD h.slots Fv σ H _ hq
  have:=tM (g:=gT X.K tg) (te:=tN W F elt) (xs:=aG cY) (ys:=freeOf scope) (is:=cF) (pos:=pos) a1 a2 a3 S.C.calm (oV S.C.hN S.C.fx I.ok h) hi
   (λfp s1 H1 A=>yx (fn:=lW scope) (X:=bV X (aG cY++freeOf scope) scope (cA X.env (freeOf scope)) fp s1 H1 A) rfl h.nd (eV S.C.fx) rfl (λ_ z=>z) xU)
   (λfp s1 H1 A=>L2.PE.imp (he _ (eQ S.C h fp s1 H1 A)) λσ H Q z=>uJ σ H Q z) (by rw [jn (l:=gh.line) S.C.fx S.kind,Au]) vY (.inl (S.fn x)) aa s σ H D I
  rw [h.len] at this;exact this rd
def tX(S:eF Γ F W N sc k E X){i:Nat}{x:Str}{xp gh:Pos}(hx:N[i]?=some x)(BC:fv sc x=true){kk:Nat}{cF:List Nat}{tg:Tg}{it:I}{c elt:Ci.E}{cY fA pc ef:Expr}{scope:Scope}{pos:Pos}(h:kI N sc scope kk cF (aG cY))(cQ:iR kk tg=true)(dD:fk elt=true)(hi:GI X W F cY it fA)(vY:∀x,foldedSetIterable fA X.env x=pure x)
 (xU:gC (aG cY++freeOf scope) (c7 scope sc) (lW scope) tg cY=true) (hc:∀Y,dW Γ.AS F W (aG cY++freeOf scope) (c7 scope sc) k Y->GT Y W F c pc) (he:∀Y,dW Γ.AS F W (aG cY++freeOf scope) (c7 scope sc) k Y->GE Y W F elt ef):PS X (.Assign [.Name x xp] (.ListComp ef [⟨cY,fA,[pc],0⟩] scope pos) gh) (Jx X W F i (.cN kk cF tg it c elt)):=by
 obtain⟨a1,a2,a3⟩:=eL S hx BC
 cases Au:OF sc x xp (.ListComp ef [⟨cY,fA,[pc],0⟩] scope pos) with
 |false=>exact oM S hx BC (mT S.C h cQ dD hi vY xU hc he) (by rw [jn S.C.fx S.kind,Au])
 |true=>
  intro aa s σ H D I hq;have Fv:(freeOf scope).Nodup:=(List.nodup_append.mp h.nd).2.1
  have rd:=mR (N:=N) S.C.K cQ dD h.slots Fv σ H _ hq
  have:=pE (g:=gT X.K tg) (tt:=M5 W F c) (te:=tN W F elt) (xs:=aG cY) (ys:=freeOf scope) (is:=cF) (pos:=pos) a1 a2 a3 S.C.calm (oV S.C.hN S.C.fx I.ok h) hi
   (λfp s1 H1 A=>yx (fn:=lW scope) (X:=bV X (aG cY++freeOf scope) scope (cA X.env (freeOf scope)) fp s1 H1 A) rfl h.nd (eV S.C.fx) rfl (λ_ z=>z) xU)
   (λfp s1 H1 A=>L2.PT.imp (hc _ (eQ S.C h fp s1 H1 A)) λσ H Q z=>zN σ H Q z)
   (λfp s1 H1 A=>L2.PE.imp (he _ (eQ S.C h fp s1 H1 A)) λσ H Q z=>uJ σ H Q z) (by rw [jn (l:=gh.line) S.C.fx S.kind,Au]) vY (.inl (S.fn x)) aa s σ H D I
  rw [h.len] at this;exact this rd
def wc{tg:Tg}{p:PV}{env:Sl}(c:Str):Tg.put tg p env≠.exc c:=by
 unfold Tg.put;split<;>exact λz=>nomatch z
theorem G7(S:eF Γ F W N sc k E X){c:Ci.E}{a b:Ss}{p:Expr}{pa pb:List Stmt}{pos:Pos}(hc:GT X W F c p)(ha:AZ X W F H0 E a pa)(hb:AZ X W F H0 E b pb):GS X W F H0 E (.ite c a b) (.If p pa pb pos):=
 L2.PS.imp (Kz hc ha hb) λD σ H h=>by
  obtain⟨G,env,sr,o⟩:=h
  rw [fB] at o;refine EV S sr o λt G1 H1 g bj o1=>?_
  cases t with
  |true=>
   rw [if_pos rfl] at o1⊢;exact⟨G1,env,bj,o1⟩
  |false=>
   rw [if_neg zzf] at o1⊢;exact⟨G1,env,bj,o1⟩
theorem HW(S:eF Γ F W N sc k E X){c:Ci.E}{b:Ss}{p:Expr}{pb:List Stmt}{pos:Pos}(hc:GT X W F c p)(hb:AZ X W F H0 E b pb):GS X W F H0 E (.Js c b) (.While p pb [] pos):=
 L2.PS.imp (Aq S.own hc hb) λD σ H h=>by
  obtain⟨G,env,sr,o⟩:=h
  rw [fB] at o;refine⟨λm σ' H'=>∃G' ag,SR W H0 ag σ' G' H'/\aF W G H0 G' H'/\cj W H0 G' E (dy (aB F c) (aD F b) m ag) D,⟨_,G,env,sr,sr.go,o⟩,?_⟩
  rintro m σ' H' ⟨G',ag,sr',g',o'⟩
  cases m with
  |zero=>exact o'.elim
  |succ m=>
   unfold dy at o';refine EV S sr' o' λt G1 H1 g1 bj o1=>?_
   cases t with
   |false=>
    rw [if_neg zzf] at o1⊢;exact o1 σ' G1 H1 bj bj.go
   |true=>
    rw [if_pos rfl] at o1⊢;refine⟨λσ2 H2=>∃G2 eg,SR W H0 eg σ2 G2 H2/\aF W G H0 G2 H2/\cj W H0 G2 E (dy (aB F c) (aD F b) m eg) D,λσ2 H2 h2=>⟨m,Nat.lt_succ_self _,h2⟩,G1,ag,bj,?_⟩
    have gg:=g'.then (sr'.on g1)
    cases r:aD F b ag with
    |bad=>rw [r] at o1;exact o1.elim
    |exc cc=>rw [r] at o1;exact o1
    |ok f=>
     rw [r] at o1;cases f with
     |nx eg=>exact λσ2 G2 H2 gb g2=>⟨G2,eg,gb,gg.then g2,cj.on (show cj W H0 G1 E (dy (aB F c) (aD F b) m eg) D from o1) g2⟩
     |ct eg=>exact λσ2 G2 H2 gb g2=>⟨G2,eg,gb,gg.then g2,cj.on (show cj W H0 G1 E (dy (aB F c) (aD F b) m eg) D from o1) g2⟩
     |bk eg=>exact λσ2 G2 H2 gb g2=>o1 σ2 G2 H2 gb g2
     |rt q=>exact λv G2 H2 rv g2=>o1 v G2 H2 rv g2
def Ha(S:eF Γ F W N sc k E X){tg:Tg}{it:I}{b:Ss}{cY fA:Expr}{pb:List Stmt}{pos:Pos}(xU:gC N sc (λ_=>true) tg cY=true)(hit:D2 it=true)(hi:GI X W F cY it fA)(vY:∀x,foldedSetIterable fA X.env x=pure x)(hb:AZ X W F H0 E b pb):GS X W F H0 E (.bX tg it b) (.For cY fA pb [] pos):=
 L2.PS.imp (HC S.own S.C.calm hi (yx (fn:=λ_=>true) S.C.hN S.C.nd S.C.fx S.C.calm (λx _=>S.fn x) xU) hb vY) λD σ H h=>by
  obtain⟨G,env,sr,o⟩:=h
  rw [fB] at o;refine⟨H0,G,env,sr,(o.bind S sr).imp λps mY J G1 H1 g1 gi=>?_⟩
  have cX:=gi.cX hit
  generalize hf:(λ(x:PV) (env:Sl)=>(tg.put x env).bind λag=>aD F b ag)=f at mY
  have bj:=sr.grow g1
  refine⟨λi m σ' H'=>i<=ps.length/\m=ps.length-i/\∃G' ag,SR W H0 ag σ' G' H'/\aF W G1 H0 G' H'/\cj W H0 G' E (forL f (ps.drop i) ag) D,⟨_,Nat.zero_le _,rfl,G1,env,bj,bj.go,by rw [List.drop_zero];exact cj.on mY (sr.on g1)⟩,?_⟩
  rintro i m σ' H' ⟨hi2,hm,G',ag,sr',g',o'⟩
  obtain⟨ist,igo⟩:=cX i G' H' g'.g (.of (g'.g.trans sr'.sub)) sr'.sub
  by_cases hlast:i=ps.length
  ·refine .inl ⟨ist hlast,?_⟩;rw [hlast,List.drop_length] at o';exact o' σ' G' H' sr' sr'.go
  ·have cQ:i<ps.length:=by omega
   obtain⟨hgo,hyld⟩:=igo ps[i] (zzg cQ)
   refine .inr ⟨hgo,λσ2 H2=>i+1<=ps.length/\∃G2 eg,SR W H0 eg σ2 G2 H2/\aF W G1 H0 G2 H2/\cj W H0 G2 E (forL f (ps.drop (i+1)) eg) D,λσ2 H2 h2=>⟨ps.length-(i+1),by omega,h2.1,rfl,h2.2⟩,λx kH hy=>?_⟩
   obtain⟨uR,g'',rx⟩:=hyld x kH hy
   rw [List.drop_eq_getElem_cons cQ] at o';unfold forL at o';have TB:f ps[i] ag=(tg.put ps[i] ag).bind λag=>aD F b ag:=by rw [<-hf]
   rw [TB] at o';have gb:=sr'.grow g''
   have g2:=g'.then (sr'.on g'')
   cases r:tg.put ps[i] ag with
   |bad=>rw [r] at o';exact o'.elim
   |exc c=>exact absurd r (wc c)
   |ok eg=>
    rw [r] at o';refine sx S.C.K r gb rx λσ2 sr3=>⟨uR,eg,sr3,?_⟩
    have o2:cj W H0 uR E ((aD F b eg).bind λfl=>match fl with
     |.nx ag=>forL f (ps.drop (i+1)) ag
     |.ct ag=>forL f (ps.drop (i+1)) ag
     |.bk ag=>.ok (.nx ag)
     |.rt p=>.ok (.rt p)) D:=cj.on o' (sr'.on g'')
    cases r2:aD F b eg with
    |bad=>rw [r2] at o2;exact o2.elim
    |exc cc=>rw [r2] at o2;exact o2
    |ok fl=>
     rw [r2] at o2;cases fl with
     |nx env3=>exact λσ3 G3 H3 FN g3=>⟨cQ,G3,env3,FN,g2.then g3,cj.on (show cj W H0 uR E (forL f (ps.drop (i+1)) env3) D from o2) g3⟩
     |ct env3=>exact λσ3 G3 H3 FN g3=>⟨cQ,G3,env3,FN,g2.then g3,cj.on (show cj W H0 uR E (forL f (ps.drop (i+1)) env3) D from o2) g3⟩
     |bk env3=>exact λσ3 G3 H3 FN g3=>o2 σ3 G3 H3 FN g3
     |rt q=>exact λv G3 H3 rv g3=>o2 v G3 H3 rv g3
theorem BU:AZ X W F H0 E .nil []:=L2.uN.imp Du λD σ H h=>by
 obtain⟨G,env,sr,o⟩:=h
 rw [aD] at o;exact o σ G H sr sr.go
theorem yZ{s:Ci.S}{ss:Ss}{p:Stmt}{ps:List Stmt}(h1:GS X W F H0 E s p)(h2:AZ X W F H0 E ss ps):AZ X W F H0 E (.cons s ss) (p::ps):=
 L2.uN.imp (xn h1 h2) λD σ H h=>by
  obtain⟨G,env,sr,o⟩:=h
  rw [aD] at o;refine⟨G,env,sr,?_⟩;cases r:fB F s env with
  |bad=>rw [r] at o;exact o
  |exc c=>rw [r] at o;exact o
  |ok f=>
   rw [r] at o;cases f with
   |nx eg=>exact λσ2 G2 H2 gb g2=>⟨G2,eg,gb,cj.on (show cj W H0 G E (aD F ss eg) D from o) g2⟩
   |bk eg=>exact o
   |ct eg=>exact o
   |rt q=>exact o
def Dr{i:Nat}{ss:Ss}{ps:List Stmt}(h:AZ X W F H0 E ss ps):AZ X W F H0 E (.cons (.cX i) ss) ps:=by
 intro aa s σ H D I hq;obtain⟨G,env,sr,o⟩:=hq
 rw [aD,fB] at o;rcases I0 sr sr.go i with⟨G',sr',g'⟩|⟨a,aA,ha,k⟩
 ·exact h aa s σ H D I ⟨G',_,sr',cj.on (show cj W H0 G E (aD F ss (env.modify i pV)) D from o) g'⟩
 ·obtain⟨ob,J⟩:=I.freeze ha
  obtain⟨G',sr',g'⟩:=k ob
  exact h aa s σ _ D J ⟨G',_,sr',cj.on (show cj W H0 G E (aD F ss (env.modify i pV)) D from o) g'⟩
def sA(hK:W.K=X.K):RT X "list.extend" (λx vs H Q=>∃l b xs zs,x=.ref l/\vs=[.ref b]/\H l=some (.lst xs)/\nC W.K H b zs/\xs.length+zs.length<=sizeLine/\Q .aC (upd H l (.lst (xs++zs)))):=by
 intro aa s σ H x vs v us Q I rx rv h;obtain⟨l,b,xs,zs,rfl,rfl,hH,hB,hz,q⟩:=h
 cases rx;obtain⟨u,rfl,ru⟩:=Vals.one rv
 cases ru;obtain⟨z,ak,n,r,hl,e⟩:=I.G8 hH
 obtain⟨dR,n2,r2,hl2,z2,e2⟩:=Cg hK I hB
 have hsz:ak.toArray.size+dR.toArray.size<=sizeLine:=by rw [zzC,zzC];omega
 have Ka:¬(!ak.toArray.isEmpty&&Builtin.List.listTooLong (ak.toArray.size+dR.toArray.size))=true:=by
  rw [yW hsz,Bool.and_false];exact zzf
 refine PySem.call_meets PySem.F.slot_list_extend ⟨_,e,rfl⟩ PySem.F.entry_list_extend (PySem.F.args_list_extend_2 _ _)
  (PySem.AutoSeq1.list_extend_list_list_0 l ak.toArray n b dR.toArray n2 Ka (by rw [zzC];omega) (by omega)) ⟨e,e2,?_⟩
 refine⟨.aC,_,I.Jb (its':=ak++dR) hH e (by simp) (r.append r2) ?_,rfl,q⟩;rw [zzM];omega
def lP(S:eF Γ F W N sc k E X){i:Nat}{x:Str}{pos:Pos}(h:N[i]?=some x)(hv:ff sc x=true)(ho:okN x=true):PE X (.Name x pos) (A6 i):=
 lE (by rw [S.C.hN];exact h) (pR S.C hv) (fD ho).1 (fD ho).2.1
def jV{env:Sl}{σ:St}{G H:Hp}{i:Nat}{xs:List PV}(sr:SR W H0 env σ G H)(h:env[i]?=some (.own (.lst xs))):∃a vs,σ[i]?=some (some (.ref a))/\H a=some (.lst vs)/\G a=none/\H0 a=none/\ah W G xs vs:=by
 obtain⟨o,ho,v,rfl,a,vs,rfl,h1,h2,h3,l⟩:=sr.slot i _ h
 exact⟨a,vs,ho,h1,h2,h3,l⟩
def Fq(S:eF Γ F W N sc k E X){i:Nat}{x:Str}{e:Ci.E}{p:Expr}{np apos cb pos:Pos}(h:N[i]?=some x)(hv:ff sc x=true)(ho:okN x=true)(lH:(apos.endLine==cb.line)=true)(dD:fk e=true)(he:GE X W F e p)
 (cO:∀env ps,starEach (p::ps) env=(false,eval p env)::starEach ps env):GS X W F H0 E (.app i e) (.Expr (.Call (.Attribute (.Name x np) "append" apos) [p] [] cb) pos):=by
 refine L2.PS.imp (jx (uX PySem.F.plainAttrs_list PySem.F.slot_list_append PySem.F.type_list_append nK (lP S h hv ho) (bS he c8 (cO _ _)) rfl (by rw [cO];rfl) lH (cO _ _) rfl) rfl) λD σ H hq=>?_
 obtain⟨G,env,sr,o⟩:=hq
 rw [fB] at o;split at o
 ·rename_i xs hx;obtain⟨a,vs,hs,h1,h2,h3,l⟩:=jV sr hx
  refine⟨.ref a,hs,.inl ⟨rfl,_,dz.of h1⟩,mD S sr o λq v G1 H1 g t bj o1=>?_⟩
  split at o1
  ·rename_i hl;have w8:=g.h.at h1 (λ_ z=>nomatch z)
   have xh:=g.own a (by rw [h1];exact λz=>nomatch z) (by rw [h1];exact λ_ z=>nomatch z) h2
   have l':=ah.same g.g xs l
   refine⟨a,vs,v,rfl,rfl,w8,by rw [l.length];exact zzW hl (by decide),?_⟩;obtain⟨r2,g2⟩:=kg (p':=.lst (xs++[q])) (ob:=.lst (vs++[v])) bj bj.go hx hs xh h3 ⟨a,_,rfl,ax,xh,h3,l'.append (.cons (t.rep dD) .nil)⟩
   exact o1 _ G1 _ r2 g2
  ·exact o1.elim
 ·exact o.elim
def BM(S:eF Γ F W N sc k E X){i:Nat}{x:Str}{e:Ci.E}{p:Expr}{np apos cb pos:Pos}(h:N[i]?=some x)(hv:ff sc x=true)(ho:okN x=true)(lH:(apos.endLine==cb.line)=true)(he:GE X W F e p)
 (cO:∀env ps,starEach (p::ps) env=(false,eval p env)::starEach ps env):GS X W F H0 E (.jj i e) (.Expr (.Call (.Attribute (.Name x np) "extend" apos) [p] [] cb) pos):=by
 refine L2.PS.imp (jx (uX PySem.F.plainAttrs_list PySem.F.slot_list_extend PySem.F.type_list_extend (sA S.C.K) (lP S h hv ho) (bS he c8 (cO _ _)) rfl (by rw [cO];rfl) lH (cO _ _) rfl) rfl) λD σ H hq=>?_
 obtain⟨G,env,sr,o⟩:=hq
 rw [fB] at o;split at o
 ·rename_i xs hx;obtain⟨a,vs,hs,h1,h2,h3,l⟩:=jV sr hx
  refine⟨.ref a,hs,.inl ⟨rfl,_,dz.of h1⟩,mD S sr o λq v G1 H1 g t bj o1=>?_⟩
  split at o1
  ·rename_i ys;split at o1
   ·rename_i hl;have w8:=g.h.at h1 (λ_ z=>nomatch z)
    have xh:=g.own a (by rw [h1];exact λz=>nomatch z) (by rw [h1];exact λ_ z=>nomatch z) h2
    have l':=ah.same g.g xs l
    obtain⟨b,us,rfl,hb,lb⟩:=t.top.lst bj.sub
    refine⟨a,b,vs,us,rfl,rfl,w8,hb,by rw [l.length,lb.length];exact gZ hl,?_⟩;obtain⟨r2,g2⟩:=kg (p':=.lst (xs++ys)) (ob:=.lst (vs++us)) bj bj.go hx hs xh h3 ⟨a,_,rfl,ax,xh,h3,l'.append lb⟩
    exact o1 _ G1 _ r2 g2
   ·exact o1.elim
  ·exact o1.elim
 ·exact o.elim
def La:V->V->V->Hp->(Hp->Prop)->Prop:=λo i v H Q=>∃a H',o=.ref a/\zw H a i v H'/\Q H'
def Bk(hu:X.A.units+1<cLine):L7 X La:=by
 intro aa s σ H o i v ov iv u Q I ro ri rv h;obtain⟨a,H',rfl,g,q⟩:=h
 cases ro;exact vW hu I g ri rv λs' I'=>⟨H',I',q⟩
def Eg{env:Sl}{σ:St}{G H:Hp}{i:Nat}{ks:List (List Int)}{ps:List PV}(sr:SR W H0 env σ G H)(h:env[i]?=some (.own (.bx ks ps))):∃a us,σ[i]?=some (some (.ref a))/\ks.length=us.length/\H a=some (.dT (kz ks us))/\G a=none/\H0 a=none/\ah W G ps us:=by
 obtain⟨o,ho,v,rfl,a,us,rfl,n,h1,h2,h3,l⟩:=sr.slot i _ h
 exact⟨a,us,ho,n,h1,h2,h3,l⟩
def FV(S:eF Γ F W N sc k E X){i:Nat}{x:Str}{kk e:Ci.E}{pk p:Expr}{np gh pos:Pos}(h:N[i]?=some x)(hv:ff sc x=true)(ho:okN x=true)(dD:fk e=true)(Si:aP Γ N sc kk pk=true)(hk:GE X W F kk pk)(he:GE X W F e p):GS X W F H0 E (.put i kk e) (.Assign [.Subscript (.Name x np) pk gh] p pos):=by
 have Au:swappedStores [.Subscript (.Name x np) pk gh] p X.env=pure none:=by cases p<;>rfl
 have ha:∀v,assign (.Subscript (.Name x np) pk gh) X.env v=(do
  let ov<-holding [v] (eval (.Name x np) X.env)
  let iv<-holding [v,ov] (eval pk X.env)
  standAt gh
  holding [v,ov,iv] (setItem ov iv v)
  release [v,ov,iv] []):=by
  intro v;cases pk<;>first|rfl|(cases kk<;>first|(exact bG Si)|(rename_i q;cases q<;>exact bG Si))
 refine L2.PS.imp (HM he (ID (lP S h hv ho) hk (Bk (by have:=S.C.room.un;omega)) ha) (by cases p<;>rfl) Au) λD σ H hq=>?_
 obtain⟨G,env,sr,o⟩:=hq
 rw [fB] at o;refine mD S sr o λq v G1 H1 g t bj o1=>?_
 split at o1
 ·rename_i ks ps hx;obtain⟨a,us,hs,n,h1,h2,h3,l⟩:=Eg bj hx
  refine⟨.ref a,hs,mD S bj o1 λq2 v2 G2 H2 g2 t2 gb o2=>?_⟩
  split at o2
  ·rename_i kk hkk;split at o2
   ·rename_i Dd;have e2:=fe hkk
    subst e2;obtain⟨b,rfl,hb⟩:=t2.top.tupI (ns:=kk) gb.sub rfl
    have w8:=g2.h.at h1 (λ_ z=>nomatch z)
    have xh:=g2.own a (by rw [h1];exact λz=>nomatch z) (by rw [h1];exact λ_ z=>nomatch z) h2
    have l':=ah.same g2.g ps l
    refine⟨a,upd H2 a (.dT (putK (kz ks us) (ki kk) v)),rfl,zw.t w8 (by rw [sQ];exact gb.sub _ _ hb) (by rw [oH n];exact zzW Dd (by decide)),?_⟩;rw [y6 n];obtain⟨r2,gg⟩:=kg (p':=.bx (bF ks kk) (cM ks ps kk q)) (ob:=.dT (kz (bF ks kk) (cM ks us kk v))) gb gb.go hx hs xh h3 ⟨a,_,rfl,qA n kk v,ax,xh,h3,uE l' (Rep.same g2.g q (t.rep dD))⟩
    exact o2 _ G2 _ r2 gg
   ·exact o2.elim
  ·exact o2.elim
 ·exact o1.elim
def De(S:eF Γ F W N sc k E X){i:Nat}{x:Str}{np dp pos:Pos}(h:N[i]?=some x)(hl:fv sc x=true):GS X W F H0 E (.qP i) (.Assign [.Name x np] (.Dict [] [] dp) pos):=by
 obtain⟨a1,a2,a3⟩:=eL S h hl
 intro aa s σ H D I hq;have Ik:i<σ.length:=by rw [I.len,S.C.hN];exact(zzH.mp h).1
 refine pP a1 a2 a3 AM rfl (.inl (S.fn x)) aa s σ H D I ?_;obtain⟨G,env,sr,o⟩:=hq
 rw [fB] at o;intro p hp;obtain⟨r2,g2⟩:=uh (i:=i) (p:=.bx [] []) (ob:=.dT []) sr sr.go (by rw [sr.len];exact Ik) hp ⟨p,[],rfl,rfl,ax,sr.sub.free hp,sr.base.free hp,.nil⟩
 exact o _ G _ r2 g2
end
end Ci
namespace L2
open PySem PySem.Spec PyProof.Rows
end L2
namespace Ci
open PySem L2
section
variable{Γ:Pg}{X:Cx}{W:Wd}{F:aH}{N:List Str}{sc:Scope}{k:Nat}{H0:Hp}{E:XK}
theorem ah.erase{G:Hp}:∀{ps:List PV} {vs:List V} (n:Nat),ah W G ps vs->ah W G (ps.eraseIdx n) (vs.eraseIdx n)
 |[],_,n,h=>by simp! [ah] at h;subst h;simp! [List.eraseIdx_nil];exact .nil
 |p::ps,_,0,h=>by
  obtain⟨v,r,rfl,h1,h2⟩:=h.aR
  exact h2
 |p::ps,_,n+1,h=>by
  obtain⟨v,r,rfl,h1,h2⟩:=h.aR
  exact .cons h1 (ah.erase n h2)
def wN(S:eF Γ F W N sc k E X){i j:Nat}{x y:Str}{e:Ci.E}{p:Expr}{np apos cb yp yV Aa pos:Pos}(h:N[i]?=some x)(hv:ff sc x=true)(ho:okN x=true)(lH:(apos.endLine==cb.line)=true)(hy:N[j]?=some y)(Tc:ff sc y=true)(Sr:okN y=true)(Fy:(yV.endLine==Aa.line)=true)(he:GE X W F e p)
 (cO:∀env ps,starEach (p::ps) env=(false,eval p env)::starEach ps env):GS X W F H0 E (.fL i j e) (.Expr (.Call (.Attribute (.Name x np) "append" apos) [.Call (.Attribute (.Name y yp) "pop" yV) [p] [] Aa] [] cb) pos):=by
 refine L2.PS.imp (jx (uX PySem.F.plainAttrs_list PySem.F.slot_list_append PySem.F.type_list_append nK (lP S h hv ho) (bS (uX PySem.F.plainAttrs_list PySem.F.slot_list_pop PySem.F.type_list_pop yD (lP S hy Tc Sr) (bS he c8 (cO _ _)) rfl (by rw [cO];rfl) Fy (cO _ _) rfl) c8 rfl) rfl rfl lH rfl rfl) rfl) λD σ H hq=>?_
 obtain⟨G,env,sr,o⟩:=hq
 rw [fB] at o;split at o
 ·rename_i xs ys hx D0;obtain⟨a,vs,hs,h1,h2,h3,l⟩:=jV sr hx
  obtain⟨b,us,uC,w8,xh,h3',l'⟩:=jV sr D0
  refine⟨.ref a,hs,.inl ⟨rfl,_,dz.of h1⟩,.ref b,uC,.inl ⟨rfl,_,dz.of w8⟩,mD S sr o λq v G1 H1 g t bj o1=>?_⟩
  split at o1
  ·rename_i n;split at o1
   ·rename_i hc;obtain⟨c1,c2,c5,c3,c4⟩:=hc
    obtain⟨m,rfl⟩:=zzw c1
    have hm:m<ys.length:=by omega
    have hq:ys[m]?=some ys[m]:=zzg hm
    have l8:(Res.of ys[(m:Int).toNat]?)=.ok ys[m]:=by rw [zz4,hq];rfl
    rw [l8] at o1;obtain⟨w,hw,gu⟩:=l'.oj hq
    have PC:a≠b:=λz=>c4 (sr.apart i j _ _ a hx D0 hs (by rw [z];exact uC))
    have k1:=g.h.at w8 (λ_ z=>nomatch z)
    have k2:=g.own b (by rw [w8];exact λz=>nomatch z) (by rw [w8];exact λ_ z=>nomatch z) xh
    have k3:=ah.same g.g ys l'
    have m1:=g.h.at h1 (λ_ z=>nomatch z)
    have m2:=g.own a (by rw [h1];exact λz=>nomatch z) (by rw [h1];exact λ_ z=>nomatch z) h2
    have m3:=ah.same g.g xs l
    have Ut:m<us.length:=by rw [l'.length];exact hm
    have Dd:cL=1000000:=rfl
    obtain rfl:v=.int (m:Int):=t.top.int
    obtain⟨r1,g1⟩:=kg (p':=.lst (ys.eraseIdx m)) (ob:=.lst (us.eraseIdx m)) bj bj.go D0 uC k2 h3' ⟨b,_,rfl,ax,k2,h3',ah.erase m k3⟩
    have Ul:(env.set j (Slot.own (.lst (ys.eraseIdx m))))[i]?=some (.own (.lst xs)):=by rw [zzS (Ne.symm c4)];exact hx
    have SW:upd H1 b (.lst (us.eraseIdx m)) a=some (.lst vs):=by rw [aj PC];exact m1
    obtain⟨r2,g2⟩:=kg (p':=.lst (xs++[ys[m]])) (ob:=.lst (vs++[w])) r1 g1 Ul hs m2 h3 ⟨a,_,rfl,ax,m2,h3,m3.append (.cons (Rep.same g.g _ gu) .nil)⟩
    refine⟨b,us,(m:Int),m,w,rfl,rfl,k1,by omega,by omega,?_,hw,a,vs,w,rfl,rfl,SW,by rw [l.length];exact zzW c3 (by decide),o1 _ G1 _ r2 g2⟩;unfold seqIndex?;have:¬(m:Int)<0:=by omega
    simp! [this,if_false];rw [if_pos (by rw [zza];exact⟨zzh (by omega),zzh (by omega)⟩)]
    rfl
   ·exact o1.elim
  ·exact o1.elim
 ·exact o.elim
def CO(S:eF Γ F W N sc k E X){i:Nat}{x:Str}{e:Ci.E}{p:Expr}{np gp cp pos:Pos}(h:N[i]?=some x)(hl:fv sc x=true)(hg:fq sc "list"=true)(hm:Γ.bs.contains "list"=true)(he:GE X W F e p)
 (cO:∀env ps,starEach (p::ps) env=(false,eval p env)::starEach ps env):GS X W F H0 E (.ji i e) (.Assign [.Name x np] (.Call (.Name "list" gp) [p] [] cp) pos):=by
 obtain⟨a1,a2,a3⟩:=eL S h hl
 intro aa s σ H D I hq;have Ik:i<σ.length:=by rw [I.len,S.C.hN];exact(zzH.mp h).1
 refine pP a1 a2 a3 (dJ eY (dG S.C hg) (S.C.bs _ (zzn.mp hm)) (by decide+kernel) (bS he c8 (cO _ _)) (he:=cO _ _) (hpl:=rfl)) rfl (.inl (S.fn x)) aa s σ H D I ?_;obtain⟨G,env,sr,o⟩:=hq
 rw [fB] at o;refine mD S sr o λq v G1 H1 g t bj o1=>?_
 have fin:∀xs a vs,v=.ref a->(dz X.K H1 a vs\/eE X.K H1 a vs)->ah W G1 xs vs->cj W H0 G1 E (.ok (.nx (env.set i (.own (.lst xs))))) D->∃p ys,[v]=[V.ref p]/\(dz X.K H1 p ys\/eE X.K H1 p ys)/\∀l,H1 l=none->D.nx (σ.set i (some (.ref l))) (upd H1 l (.lst ys)):=λxs a vs e hs l o2=>by
  subst e;refine⟨a,vs,rfl,hs,λad hp=>?_⟩
  obtain⟨r2,g2⟩:=uh (i:=i) (p:=.lst xs) (ob:=.lst vs) bj bj.go (by rw [bj.len];exact Ik) hp ⟨ad,vs,rfl,ax,bj.sub.free hp,bj.base.free hp,l⟩
  exact o2 _ G1 _ r2 g2
 cases q with
 |lst xs=>
  obtain⟨a,vs,e,h1,l⟩:=t.top.lst bj.sub
  exact fin xs a vs e (.inl (hZ S.C.K h1)) l o1
 |tup xs=>
  obtain⟨a,vs,e,h1,l⟩:=t.top.tup bj.sub
  exact fin xs a vs e (.inr (S.C.K▸h1)) l o1
 |_=>exact o1.elim
def qk{e:Ci.E}(h:ir e=true):∀env q,aB F e env=.ok q->∃xs,q=.lst xs:=by
 cases e<;>first|(exact bG h)|exact lst_is|exact ux|exact nR
def nA(S:eF Γ F W N sc k E X){i:Nat}{x:Str}{xp pos:Pos}(hx:N[i]?=some x)(BC:fv sc x=true)(e:Ci.E)(p:Expr)(hf:ir e=true)(h:aP Γ N sc e p=true):PS X (.Assign [.Name x xp] p pos) (Jx X W F i e):=by
 cases e with
 |lst as=>
  obtain⟨ps,e,h1⟩:=ai h
  obtain⟨_,rfl⟩:=AK e
  have h2:=ay h1
  have h0:=ay h2.1
  exact oM S hx BC (ze h0.1 (zzY h0.2) (i4 as S.C _ h2.2)) rfl
 |comp kk cF tg it elt=>
  obtain⟨ef,gens,scope,_,rfl,h1⟩:=Mt h
  obtain⟨⟨cY,fA,ifs,asy⟩,z2,h2⟩:=ft h1
  have h3:=ay h2
  have z3:=D1 h3.1
  dsimp only at z2 z3;subst z2 z3
  clear h h1 h2
  have h:=ay h3.2
  clear h3
  simp! [zza] at h;obtain⟨⟨⟨⟨⟨⟨h1,h2⟩,h3⟩,h4⟩,h5⟩,h6⟩,gQ⟩:=h
  have gQ:=zzY gQ
  subst gQ;exact yA S hx BC (ie h1) h2 h3 (xo it S.C cY fA h4) (ip h4 _) h5 λY CY=>(aW elt CY ef h6).ge
 |cN kk cF tg it c elt=>
  obtain⟨ef,gens,scope,_,rfl,h1⟩:=Mt h
  obtain⟨⟨cY,fA,ifs,asy⟩,z2,h2⟩:=ft h1
  obtain⟨pc,z3,h3⟩:=ft h2
  dsimp only at z2 z3;subst z2 z3
  clear h h1 h2
  have h:=ay h3
  clear h3
  simp! [zza] at h;obtain⟨⟨⟨⟨⟨⟨⟨⟨h0,h1⟩,h2⟩,h3⟩,h4⟩,h5⟩,h6⟩,h7⟩,gQ⟩:=h
  have gQ:=zzY gQ
  subst gQ;exact tX S hx BC (ie h1) h2 h3 (xo it S.C cY fA h4) (ip h4 _) h5 (λY CY=>(aW c CY pc h6).gt h0) λY CY=>(aW elt CY ef h7).ge
 |_=>exact bG hf
def wU{e:Ci.E}{p:Expr}(h:aP Γ N sc e p=true)(hf:ir e=false):pQ p=true:=by
 cases p<;>first|rfl|(cases e<;>first|(exact bG h)|(rename_i q;cases q<;>exact bG h)|(cases hf;done))
def wI(S:eF Γ F W N sc k E X){i:Nat}{x:Str}{e:Ci.E}{p:Expr}{xp pos:Pos}(h:N[i]?=some x)(hl:fv sc x=true)(dD:fk e=true)(hc:aP Γ N sc e p=true):GS X W F H0 E (.set i e) (.Assign [.Name x xp] p pos):=by
 cases hf:ir e with
 |true=>exact Be S (qk hf) dD (nA S h hl e p hf hc)
 |false=>exact Hw S h hl dD (aW e S.C p hc).ge (uK (wU hc hf))
def xV(S:eF Γ F W N sc k E X)(e:Ci.E)(p:Stmt)(h:eX Γ N sc (.expr e) p=true):GS X W F H0 E (.expr e) p:=by
 cases p<;>first|(exact bG h)|skip
 replace h:=ay h
 try simp! [zza] at h
 exact Bz S (aW e S.C _ h.2).ge h.1
def Ds(S:eF Γ F W N sc k E X)(i:Nat)(e:Ci.E)(p:Stmt)(h:eX Γ N sc (.set i e) p=true):GS X W F H0 E (.set i e) p:=by
 cases p<;>first|(exact bG h)|skip
 replace h:=ai h
 simp! [Option.any_eq_true,zza,zzy] at h;obtain⟨x,h0,h1⟩:=h
 obtain⟨xp,rfl⟩:=pO h0
 exact wI S h1.1.1.1 h1.1.1.2 h1.1.2 h1.2
def A7(S:eF Γ F W N sc k E X)(i:Nat)(e:Ci.E)(p:Stmt)(h:eX Γ N sc (.own i e) p=true):GS X W F H0 E (.own i e) p:=by
 cases p<;>first|(exact bG h)|skip
 replace h:=ai h
 simp! [Option.any_eq_true,zza,zzy] at h;obtain⟨x,h0,h⟩:=h
 obtain⟨xp,rfl⟩:=pO h0
 exact DW S h.1.1.1 (qk h.1.2) (nA S h.1.1.1 h.1.1.2 e _ h.1.2 h.2)
def CI(S:eF Γ F W N sc k E X)(i:Nat)(p:Stmt)(h:eX Γ N sc (.cX i) p=true):GS X W F H0 E (.cX i) p:=by
 cases p<;>exact bG h
def DU(S:eF Γ F W N sc k E X)(i:Nat)(e:Ci.E)(p:Stmt)(h:eX Γ N sc (.app i e) p=true):GS X W F H0 E (.app i e) p:=by
 cases p<;>first|(exact bG h)|skip
 replace h:=ai h
 simp! [Option.any_eq_true,zza,zzy] at h;obtain⟨⟨x,m,args⟩,h0,⟨⟨⟨⟨h1,h2⟩,h3⟩,h4⟩,h5⟩,q,h6,h7⟩:=h
 obtain⟨np,apos,cb,rfl,hl⟩:=oF h0
 cases f6 h6;cases h4;exact Fq S h1 h2 h3 hl h5 (aW e S.C q h7).ge (notStar h7)
def yO(S:eF Γ F W N sc k E X)(i:Nat)(e:Ci.E)(p:Stmt)(h:eX Γ N sc (.jj i e) p=true):GS X W F H0 E (.jj i e) p:=by
 cases p<;>first|(exact bG h)|skip
 replace h:=ai h
 simp! [Option.any_eq_true,zza,zzy] at h;obtain⟨⟨x,m,args⟩,h0,⟨⟨⟨h1,h2⟩,h3⟩,h4⟩,q,h6,h7⟩:=h
 obtain⟨np,apos,cb,rfl,hl⟩:=oF h0
 cases f6 h6;cases h4;exact BM S h1 h2 h3 hl (aW e S.C q h7).ge (notStar h7)
def Bt(S:eF Γ F W N sc k E X)(i:Nat)(kk e:Ci.E)(p:Stmt)(h:eX Γ N sc (.put i kk e) p=true):GS X W F H0 E (.put i kk e) p:=by
 cases p<;>first|(exact bG h)|skip
 replace h:=ai h
 simp! [Option.any_eq_true,zza,zzy] at h;obtain⟨⟨x,pk⟩,h0,⟨⟨⟨⟨h1,h2⟩,h3⟩,h5⟩,h6⟩,h7⟩:=h
 obtain⟨np,sp,rfl⟩:=F4 h0
 exact FV S h1 h2 h3 h5 h6 (aW kk S.C pk h6).ge (aW e S.C _ h7).ge
def zM(S:eF Γ F W N sc k E X)(i:Nat)(p:Stmt)(h:eX Γ N sc (.qP i) p=true):GS X W F H0 E (.qP i) p:=by
 cases p<;>first|(exact bG h)|skip
 rename_i ts v pos;cases v<;>first|(exact bG h)|skip
 rename_i ks vs dp;cases ks<;>first|(exact bG h)|skip
 cases vs<;>first|(exact bG h)|skip
 replace h:=ai h
 simp! [Option.any_eq_true,zza,zzy] at h;obtain⟨x,h0,h1,h2⟩:=h
 obtain⟨yp,rfl⟩:=pO h0
 exact De S h1 h2
def xQ(S:eF Γ F W N sc k E X)(i:Nat)(e:Ci.E)(p:Stmt)(h:eX Γ N sc (.ji i e) p=true):GS X W F H0 E (.ji i e) p:=by
 cases p<;>first|(exact bG h)|skip
 obtain⟨x,h0,h1⟩:=ai h
 obtain⟨g,as,_,_,rfl,h2⟩:=w5 h1
 obtain⟨q,rfl,h3⟩:=ft h2
 obtain⟨yp,rfl⟩:=pO h0
 simp! [zza,zzy] at h3;obtain⟨⟨⟨⟨⟨rfl,h4⟩,h5⟩,h6⟩,h7⟩,h8⟩:=h3
 exact CO S h6 h7 h4 h5 (aW e S.C q h8).ge (notStar h8)
def sk(S:eF Γ F W N sc k E X)(i j:Nat)(e:Ci.E)(p:Stmt)(h:eX Γ N sc (.fL i j e) p=true):GS X W F H0 E (.fL i j e) p:=by
 cases p<;>first|(exact bG h)|skip
 obtain⟨⟨x,m,args⟩,e1,h1⟩:=ai h
 obtain⟨a,z2,h2⟩:=ft h1
 obtain⟨⟨y,m2,args2⟩,e3,h3⟩:=ai h2
 obtain⟨q,z4,h4⟩:=ft h3
 have g:=ay h4
 simp! [zza,zzy] at g;obtain⟨⟨⟨⟨⟨⟨⟨⟨g1,g2⟩,g3⟩,g4⟩,g5⟩,g6⟩,g7⟩,g8⟩,g9⟩:=g
 dsimp only at z2 z4 g4 g8;subst z2 z4 g4 g8;obtain⟨np,apos,cb,rfl,hl⟩:=oF e1
 obtain⟨yp,yV,Aa,rfl,hl2⟩:=oF e3
 exact wN S g1 g2 g3 hl g5 g6 g7 hl2 (aW e S.C q g9).ge (notStar g9)
def BZ(S:eF Γ F W N sc k E X)(e:Ci.E)(p:Stmt)(h:eX Γ N sc (.ret e) p=true):GS X W F H0 E (.ret e) p:=by
 cases p<;>first|(exact bG h)|skip
 rename_i v pos;cases v with
 |none=>exact bG h
 |some v=>
  replace h:=ay h
  try simp! [zza] at h
  exact Il S h.1 (aW e S.C v h.2).ge
def vJ(S:eF Γ F W N sc k E X)(c m:Str)(p:Stmt)(h:eX Γ N sc (.raise c m) p=true):GS X W F H0 E (.raise c m) p:=by
 cases p<;>first|(exact bG h)|skip
 replace h:=ay h
 simp! [Option.any_eq_true,zza,zzy] at h;obtain⟨hn,⟨x,z⟩,h0,⟨⟨⟨h1,h2⟩,h3⟩,h4⟩,h5⟩:=h
 obtain⟨np,j,zp,cp,rfl⟩:=Fe h0
 cases h1;cases h2;rename_i fr pos;cases Option.isNone_iff_eq_none.mp hn;exact AN S h3 h4 h5
def BF{c:Ci.E}{a b:Ss}{p:Stmt}(h:eX Γ N sc (.ite c a b) p=true):∃q pa pb pos,p=.If q pa pb pos/\fu c=true/\aP Γ N sc c q=true/\dh Γ N sc a pa=true/\dh Γ N sc b pb=true:=by
 cases p<;>first|(exact bG h)|skip
 replace h:=ay h
 try simp! [zza] at h
 exact⟨_,_,_,_,rfl,h.1.1.1,h.1.1.2,h.1.2,h.2⟩
def BY{tg:Tg}{it:I}{b:Ss}{p:Stmt}(h:eX Γ N sc (.bX tg it b) p=true):∃cY fA pb pos,p=.For cY fA pb [] pos/\gC N sc (λ_=>true) tg cY=true/\D2 it=true/\wd Γ N sc cY it fA=true/\dh Γ N sc b pb=true:=by
 cases p<;>first|(exact bG h)|skip
 replace h:=ay h
 try simp! [zza] at h
 cases List.isEmpty_iff.mp h.1.1.1.1;exact⟨_,_,_,_,rfl,h.1.1.1.2,h.1.1.2,h.1.2,h.2⟩
def B9{c:Ci.E}{b:Ss}{p:Stmt}(h:eX Γ N sc (.Js c b) p=true):∃q pb pos,p=.While q pb [] pos/\fu c=true/\aP Γ N sc c q=true/\dh Γ N sc b pb=true:=by
 cases p<;>first|(exact bG h)|skip
 replace h:=ay h
 try simp! [zza] at h
 cases List.isEmpty_iff.mp h.1.1.1;exact⟨_,_,_,rfl,h.1.1.2,h.1.2,h.2⟩
def C0{ps:List Stmt}(h:dh Γ N sc .nil ps=true):ps=[]:=by
 cases ps with
 |nil=>rfl
 |cons _ _=>exact bG h
def yT{s:Ci.S}{ss:Ss}{ps:List Stmt}(h:dh Γ N sc (.cons s ss) ps=true):(∃i,s=.cX i/\dh Γ N sc ss ps=true)\/∃q qs,ps=q::qs/\eX Γ N sc s q=true/\dh Γ N sc ss qs=true:=by
 by_cases hz:∃i,s=.cX i
 ·obtain⟨i,rfl⟩:=hz
  exact .inl ⟨i,rfl,h⟩
 ·cases ps with
  |nil=>cases s<;>first|(exact absurd ⟨_,rfl⟩ hz)|(exact bG h)
  |cons p ps=>
   have h2:(eX Γ N sc s p&&dh Γ N sc ss ps)=true:=by
    cases s<;>first|(exact absurd ⟨_,rfl⟩ hz)|(exact h)
   rw [zza] at h2;exact .inr ⟨p,ps,rfl,h2.1,h2.2⟩
mutual
theorem NC(S:eF Γ F W N sc k E X):∀(s:Ci.S) (p:Stmt),eX Γ N sc s p=true->GS X W F H0 E s p
 |.expr e,p,h=>xV S e p h
 |.set i e,p,h=>Ds S i e p h
 |.own i e,p,h=>A7 S i e p h
 |.cX i,p,h=>CI S i p h
 |.app i e,p,h=>DU S i e p h
 |.jj i e,p,h=>yO S i e p h
 |.put i kk e,p,h=>Bt S i kk e p h
 |.fL i j e,p,h=>sk S i j e p h
 |.ji i e,p,h=>xQ S i e p h
 |.qP i,p,h=>zM S i p h
 |.ret e,p,h=>BZ S e p h
 |.ite c a b,p,h=>by
  obtain⟨q,pa,pb,pos,rfl,h1,h2,h3,h4⟩:=BF h
  exact G7 S ((aW c S.C _ h2).gt h1) (lj S a _ h3) (lj S b _ h4)
 |.bX tg it b,p,h=>by
  obtain⟨cY,fA,pb,pos,rfl,h1,h2,h3,h4⟩:=BY h
  exact Ha S h1 h2 (xo it S.C cY fA h3) (ip h3 _) (lj S b _ h4)
 |.Js c b,p,h=>by
  obtain⟨q,pb,pos,rfl,h1,h2,h3⟩:=B9 h
  exact HW S ((aW c S.C _ h2).gt h1) (lj S b _ h3)
 |.raise c m,p,h=>vJ S c m p h
theorem lj(S:eF Γ F W N sc k E X):∀(ss:Ss) (ps:List Stmt),dh Γ N sc ss ps=true->AZ X W F H0 E ss ps
 |.nil,ps,h=>by
  cases C0 h;exact BU
 |.cons s ss,ps,h=>by
  rcases yT h with⟨i,e,h2⟩|⟨q,qs,e,h1,h2⟩
  ·have:=Dr (i:=i) (lj S ss ps h2)
   rw [<-e] at this;exact this
  ·rw [e];exact yZ (NC S s q h1) (lj S ss qs h2)
end
end
end Ci
namespace L2
open PySem PySem.Spec PyProof.Rows
def xm{K:zz8}{C:Addr}{T:String}{b:Bool}(h1:PySem.W.kitMeta T=true)(h3:PySem.W.subIn K (.ref C) (.type T)=some b):PySem.W.kitOne K (.ref C) (.type T)=some b:=by
 unfold PySem.W.kitOne;split
 ·rename_i e;cases zzy.mp e
 ·show(if PySem.W.kitMeta T=true then PySem.W.subIn K (.ref C) (.type T) else none)=some b
  rw [if_pos h1];exact h3
def IV{K:zz8}{h:Heap}{mg:Str->Option Value}{x:Str}{C:Addr}{RA:List Value}{newId:String}(X:K.In h)(hm:mg x=some (.ref C))(q:PySem.W.excIn K C RA newId=true):OwnCls x C RA newId mg h:=by
 constructor
 ·exact hm
 ·unfold PySem.W.excIn at q;split at q
  ·rename_i dd cd sl ho;split at q
   ·rename_i C1 bm1 k0 k1 k2 k3 n1 k5 hm1 EO;simp! [zza,zzy,Bool.not_eq_true'] at q;obtain⟨⟨⟨⟨⟨q1,q2⟩,q3⟩,q4⟩,q5⟩,q6⟩:=q
    subst q1 q2;obtain⟨nm,bs,mro,ns,qn,hd,sn,sub,ab,col,del⟩:=cd
    have Lu:mro=.ref C1::bm1:=hm1
    have hd2:del=false:=q3
    have QB:PySem.W.nsOkIn K ns=true:=q5
    have Su:PySem.W.nsIn K ns "__init__"=some none:=q6
    subst Lu hd2;obtain⟨ls⟩:=sl
    have xG:ls=[k0,k1,k2,k3,some (.builtin n1),k5]:=EO
    subst xG;exact⟨bm1,ns,nm,qn,bs,hd,sn,sub,ab,col,dd,k0,k1,k2,k3,k5,_,X _ _ ho,.of_isNs (PySem.W.isNs_of_in X QB),PySem.W.nsMap_none_of_in X QB Su,PySem.W.tail_of_in X q4⟩
   ·cases q
  ·cases q
end L2
namespace Ci
open PySem L2
abbrev zU:List Value:=[.type "ValueError",.type "Exception",.type "BaseException",.type "object"]
structure rY(K:zz8)(mg:Str->Option Value)(Γ:Pg)(W:Wd):Prop where
 hK:W.K=K
 hm:W.mg=mg
 gs:∀q∈Γ.gs,∃u v,mg q.1=some u/\RelV v u/\∀G,Rep W G q.2 v
 bs:∀g∈Γ.bs,mg g=none
 Mn:Γ.cs.contains "ValueError"=false
 cls:∀c∈Γ.cs,∃C,mg c=some (.ref C)
 xc:∀d∈W.xs,∀D,mg d=some (.ref D)->FK K D/\(∀c∈Γ.cs,∀C,mg c=some (.ref C)->PySem.W.kitOne K (.ref D) (.ref C)=some (c==d||c=="FloorError"))/\PySem.W.kitOne K (.ref D) (.type "ValueError")=some true
 xs:∀c,Γ.rs.contains c=true->c∈W.xs
 rm:∀c,Γ.rs.contains c=true->∃C,mg c=some (.ref C)/\PySem.W.excIn K C zU "ValueError.__new__"=true
 MC:Γ.cs.contains "FloorError"=true->∀c D,c∈W.xs->mg c=some (.ref D)->∀T,mg "FloorError"=some (.ref T)->PySem.W.exmOne K (.ref D) (.ref T)=some true
 bm:W.ts≠[]->∃bm o,mg "__builtins__"=some (.ref bm)/\bm≠builtinsNs/\bm≠mainGlobals/\K.lookup bm=some o/\o.cls=.type "module"/\o.dict=some builtinsNs/\o.data=.plain
structure Row where
 f:Str
 h:Str
 d:Def
 st:Stmt
 hl:Bool:=false
abbrev dA:Type:=List Row
def mO(l:dA):List Str:=l.filterMap λr=>if r.d.rb.isNone then some r.f else none
def wK(l:dA):List Hs:=l.filterMap λr=>r.d.rb.map λq=>⟨r.f,r.h,q.1,q.2,r.d.np⟩
def tab(l:dA):List (Str×Def):=l.map λq=>(q.f,q.d)
noncomputable def Pg.at(Γ:Pg)(l:dA)(hl:Bool):Pg:={Γ with fs:=mO l,hs:=wK l,hl:=hl}
structure bA(Γ:Pg)(n:Str)(d:Def)(st:Stmt):Prop where
 sc:jw d.N (d.N.take d.np) (aQ st)
 np:d.np<=d.N.length
 bind:∀(kV doc pm:Value) (an:Option Addr) (fy ct:Value) (us:List Value),us.length=(d.N.take d.np).length->bindArgs (PySem.W.fnOf n n (df st) (cG st) (aQ st) .none kV doc pm an fy ct) ⟨us,[]⟩=pure ((d.N.take d.np).zip us)
 Uc:dh Γ d.N (aQ st) d.body (cG st)=true
theorem stM{Γ:Pg}{n:Str}{d:Def}{st:Stmt}(b:∀(kV doc pm:Value) (an:Option Addr) (fy ct:Value) (us:List Value),us.length=(d.N.take d.np).length->bindArgs (PySem.W.fnOf n n (df st) (cG st) (aQ st) .none kV doc pm an fy ct) ⟨us,[]⟩=pure ((d.N.take d.np).zip us))
 (a1:(aQ st).kind=.function:=by rfl) (a2:(aQ st).isCoroutine=false:=by rfl) (a3:(aQ st).isGenerator=false:=by rfl) (a4:d.N.Nodup:=by decide+kernel) (a5:d.N.take (d.N.take d.np).length=d.N.take d.np:=by rfl)
 (a6:∀x∈d.N.take d.np,(aQ st).names.lookup x=some .local\/(aQ st).names.lookup x=some .cell:=by decide+kernel) (a7:∀y∈(aQ st).names,y.2≠.free:=by decide+kernel) (a8:d.np<=d.N.length:=by decide+kernel) (a9:dh Γ d.N (aQ st) d.body (cG st)=true:=by decide+kernel):bA Γ n d st:=⟨⟨a1,a2,a3,a4,a5,a6,a7⟩,a8,b,a9⟩
def i5(K:zz8)(c P:Addr):Prop:=∃o vs file tf flags tg NW text tt,K.lookup c=some o/\o.cls=.type "code"/\o.data=.fields vs/\vs[11]?=some (.ref P)/\vs.getD 11 .none=.ref P/\vs.getD 18 .none=.str file tf/\
 vs.getD 7 .none=.int flags tg/\vs.getD 9 .none=.bool NW/\vs.getD 10 .none=.int text tt/\c≠P
def vX(n:Str):Str:=(n++".<locals>.")++"<lambda>"
def AA(K:zz8)(ts:List (Addr×Str))(hl:Bool)(n:Str)(st:Stmt):Prop:=∃(f:Addr) (oc:Value) (od:Option Addr) (kV doc pm:Value) (an:Option Addr) (fy ct:Value) (tD:Array (Option Value)),
 PySem.W.nsIn K mainGlobals n=some (some (.ref f))/\K.lookup f=some ⟨oc,od,.func (PySem.W.fnOf n n (df st) (cG st) (aQ st) .none kV doc pm an fy ct),tD⟩/\PySem.W.codeIn K fy n=true/\PySem.W.keepIn K (.ref f)=true/\
 (hl=true->∃c P,fy=.ref c/\i5 K c P/\(P,vX n)∈ts/\∀q',(P,q')∈ts->q'=vX n)
def NF{K:zz8}{ts:List (Addr×Str)}{n:Str}{st:Stmt}{f:Addr}{oc:Value}{od:Option Addr}{kV doc pm:Value}{an:Option Addr}{fy ct:Value}{tD:Array (Option Value)}(a:PySem.W.nsIn K mainGlobals n=some (some (.ref f)))
 (l:K.lookup f=some ⟨oc,od,.func (PySem.W.fnOf n n (df st) (cG st) (aQ st) .none kV doc pm an fy ct),tD⟩) (c:PySem.W.codeIn K fy n=true) (k:PySem.W.keepIn K (.ref f)=true):AA K ts false n st:=⟨f,oc,od,kV,doc,pm,an,fy,ct,tD,a,l,c,k,(λz=>nomatch z)⟩
structure pW(P:Program)(w:World)(K:zz8)(mg:Str->Option Value)(base:Heap)(W:Wd)(F:aH)(k:Nat)(f:Str):Prop where
 ex:∃fa fd ps,f9 P w K mg base (gr P w) k fa fd ps (AB W F f ps.length none)/\mg f=some (.ref fa)/\PySem.W.keepIn K (.ref fa)=true/\Binds K fd ps []/\∀as,F f as≠.bad->as.length=ps.length
structure F8(P:Program)(w:World)(K:zz8)(mg:Str->Option Value)(base:Heap)(W:Wd)(F:aH)(k:Nat)(q:Hs):Prop where
 ex:∃fa fd ps,f9 P w K mg base (gr P w) k fa fd ps (AB W F q.f ps.length (some (q.g,q.idx)))/\mg q.h=some (.ref fa)/\PySem.W.keepIn K (.ref fa)=true/\Binds K fd ps []/\ps.length=q.np
section
variable{P:Program}{w:World}{K:zz8}{mg:Str->Option Value}{base:Heap}{Γ:Pg}{W:Wd}
def wX{c p:Addr}(KB:K.In base)(h:i5 K c p):PySem.W.CodeHd base c p:=by
 obtain⟨o,vs,file,tf,flags,tg,NW,text,tt,e,r⟩:=h
 exact⟨o,vs,file,tf,flags,tg,NW,text,tt,KB _ _ e,r⟩
theorem FL(M:rY K mg Γ W)(KB:K.In base){F:aH}{k:Nat}{N ps:List Str}{qual:Str}{sc:Scope}(S:jw N ps sc)(hF:∀f,Γ.fs.contains f=true->pW P w K mg base W F k f)(hH:∀q∈Γ.hs,F8 P w K mg base W F k q)(hA:∀g as,F g as≠.bad->Γ.fs.contains g=true\/gX g=true){f:Addr}{cd:Value}
 (hL:Γ.hl=true->∃c p,cd=.ref c/\i5 K c p/\(p,vX qual)∈W.ts/\∀q',(p,q')∈W.ts->q'=vX qual) {A:Around} {outer:List Env} {s:Shared} {H:Hp} {E:XK} (hr:eJ (k+1) (A.deeper (PyProof.Rows.envOfC qual sc (zz9 s) f cd))):
 eF Γ F W N sc k E (dE (gr P w) P w K mg base N qual sc f cd A outer s H E) where
 C:=⟨rfl,rfl,rfl,S.nd,M.hK,M.hm,M.gs,M.bs,hr,λg hg=>⟨(hF g hg).ex⟩,M.Mn,M.cls,M.xc,λq hq=>⟨(hH q hq).ex⟩,hA,λz=>by
  obtain⟨c,p,e1,e2,e3,e4⟩:=hL z
  exact⟨c,p,e1,wX KB e2,e3,e4⟩,λz=>by
  obtain⟨c,p,e1,e2,e3,e4⟩:=hL z
  obtain⟨bm,o,b1,b2,b3,b4,b5⟩:=M.bm (λy=>by rw [y] at e3;cases e3)
  exact⟨bm,o,b1,b2,b3,KB _ _ b4,b5⟩,λ_ _=>rfl⟩
 fn:=λ_=>rfl
 own:=PassesOwn.leaving
 pass:=LI
 kind:=S.kind
 LJ:=rfl
 frame:=rfl
 xs:=M.xs
 rm:=λc hc=>let⟨C,h,_⟩:=M.rm c hc;⟨C,h⟩
 rz:=λc z j np zp cp pos h1 h2 h3=>by
  obtain⟨C,hC,hx⟩:=M.rm c h1
  have hg:Gl (dE (gr P w) P w K mg base N qual sc f cd A outer s H E) c:=zzy.mp h2
  refine L2.PS.imp (xi hg (IV KB hC hx) PySem.F.excBase_ValueError (bS Ax c8) rfl rfl (fD h3).1) λD σ H1 h=>⟨(show 1<=sizeLine by decide),λe he=>h C e hC he⟩
 MC:=M.MC
def rF{H G:Hp}{N:List Str}{as:List PV}{vs:List V}(sg:az G H)(tb:cV W G H)(l:ah W G as vs)(hn:as.length<=N.length):SR W H (as.map .val++List.replicate (N.length-as.length) .no) (start N vs) G H:=by
 have hl:=l.length
 unfold L2.start;refine⟨by simp;omega,sg,gR.refl _,λi s e=>?_,λi j p q a e1 _ _ _=>?_,tb,tb⟩
 ·by_cases hi:i<as.length
  ·rw [zzr (by simpa using hi),zzQ] at e;obtain⟨p,hp,rfl⟩:=zzJ.mp e
   obtain⟨v,hv,rv⟩:=l.oj hp
   exact⟨some v,by rw [zzr (by simpa using (show i<vs.length by omega)),zzQ,hv];rfl,v,rfl,rv⟩
  ·rw [zzs (by simpa using hi),List.getElem?_replicate] at e;split at e
   ·rename_i h2;cases e;rw [zzl] at h2;exact⟨none,by rw [zzs (by simp;omega),List.getElem?_replicate,if_pos (by rw [zzl];omega)],trivial⟩
   ·cases e
 ·exfalso
  by_cases hi:i<as.length
  ·rw [zzr (by simpa using hi),zzQ] at e1;obtain⟨p,hp,e⟩:=zzJ.mp e1
   cases e
  ·rw [zzs (by simpa using hi),List.getElem?_replicate] at e1;split at e1<;>cases e1
def SR.Kf{H0 G H:Hp}{env:Sl}{σ:St}{g:Str}{idx:List Nat}{d5:List PV}{v:V}(i:Nat)(r:SR W H0 env σ G H)(h:wo W G g idx d5 v):SR W H0 (env.set i (.fn g idx d5)) (σ.set i (some v)) G H where
 len:=by simpa using r.len
 sub:=r.sub
 base:=r.base
 tab:=r.tab
 mF:=r.mF
 slot:=λj s e=>by
  by_cases hj:i=j
  ·subst hj;have cQ:i<env.length:=by
    have:=(zzH.mp e).1
    simpa using this
   rw [zzo cQ] at e;cases e;exact⟨some v,zzo (by rw [<-r.len];exact cQ),v,rfl,h⟩
  ·rw [zzS hj] at e;obtain⟨o,h1,h2⟩:=r.slot j s e
   exact⟨o,by rw [zzS hj];exact h1,h2⟩
 apart:=λa b q q' ad e1 e2 e3 e4=>by
  have ne:∀{c:Nat} {q:PV},(env.set i (.fn g idx d5))[c]?=some (.own q)->i≠c:=λ{c q} e z=>by
   subst z;have cQ:i<env.length:=by
    have:=(zzH.mp e).1
    simpa using this
   rw [zzo cQ] at e;cases e
  have n1:=ne e1
  have n2:=ne e2
  rw [zzS n1] at e1 e3;rw [zzS n2] at e2 e4;exact r.apart a b q q' ad e1 e2 e3 e4
def uU{α:Type}{l r:List α}{a b:α}:(l++a::r).set l.length b=l++b::r:=by
 rw [List.set_append_right _ _ (zzE _),Nat.sub_self];rfl
def wz{d:Def}{H G:Hp}{as:List PV}{vs:List V}(S8:d.np<=d.N.length)(sg:az G H)(tb:cV W G H)(l:AJ W G d.rb as vs)(hv:vs.length=d.np):bO d as=true/\SR W H (bP d as) (start d.N vs) G H:=by
 unfold bO bP;cases hc:d.rb with
 |none=>
  rw [hc] at l;have l:ah W G as vs:=l
  exact⟨by rw [<-l.length,hv];simp,rF sg tb l (by rw [<-l.length,hv];exact S8)⟩
 |some q=>
  rw [hc] at l;obtain⟨u3,d5,AU,v,rfl,rfl,l1,cr⟩:=l
  have JV:=l1.length
  have hn:AU.length=d.np-1/\0<d.np:=by rw [zzM] at hv;simp at hv;omega
  have ha:u3.length=d.np-1:=by omega
  refine⟨by simp;omega,?_⟩;have h0:=rF (N:=d.N) sg tb l1 (by omega)
  have h1:=h0.Kf u3.length cr
  have e1:(u3.map Slot.val++List.replicate (d.N.length-u3.length) Slot.no).set u3.length (.fn q.1 q.2 d5)=((u3++d5).take (d.np-1)).map .val++.fn q.1 q.2 ((u3++d5).drop (d.np-1))::List.replicate (d.N.length-d.np) Slot.no:=by
   rw [<-ha,List.take_left',List.drop_left',show d.N.length-u3.length=(d.N.length-d.np)+1 by omega,List.replicate_succ]
   ·have:=uU (l:=u3.map Slot.val) (r:=List.replicate (d.N.length-d.np) Slot.no) (a:=Slot.no) (b:=.fn q.1 q.2 d5)
    rw [zzl] at this;exact this
   ·rfl
   ·rfl
  have e2:(start d.N AU).set u3.length (some v)=start d.N (AU++[v]):=by
   unfold L2.start;rw [zzM,List.length_singleton,show d.N.length-AU.length=(d.N.length-(AU.length+1))+1 by omega,List.replicate_succ,<-JV];have:=uU (l:=AU.map some) (r:=List.replicate (d.N.length-(AU.length+1)) none) (a:=none) (b:=some v)
   rw [zzl] at this;rw [this];simp
  rw [e1,e2] at h1;exact h1
def EG(M:rY K mg Γ W)(KB:K.In base){F:aH}{k:Nat}{n nf:Str}{d:Def}{st:Stmt}{fa:Addr}{fd:FuncData}(St:bA Γ n d st)(Fu:MR K n n st fa fd)(hF:∀f,Γ.fs.contains f=true->pW P w K mg base W F k f)(hH:∀q∈Γ.hs,F8 P w K mg base W F k q)(hA:∀g as,F g as≠.bad->Γ.fs.contains g=true\/gX g=true)
 (hL:Γ.hl=true->∃c p,fd.code=.ref c/\i5 K c p/\(p,vX n)∈W.ts/\∀q',(p,q')∈W.ts->q'=vX n):
 f9 P w K mg base (gr P w) (k+2) fa fd (d.N.take d.np) (AB W (λ_ as=>aq F d as) nf (d.N.take d.np).length d.rb):=by
 have hlen:(d.N.take d.np).length=d.np:=by rw [List.length_take];have:=St.np;omega
 obtain⟨oc,od,kV,doc,pm,an,fy,ct,tD,rfl,lk,yz⟩:=Fu.ex
 refine Md lk yz St.sc (λvs H Q E h=>h.1) λA outer s H vs Q E hr h=>?_
 obtain⟨hl,G,as,sg,tb,l,o⟩:=h
 rw [hlen] at hl;obtain⟨ar,sr⟩:=wz St.np sg tb l hl
 refine⟨RI W F H E d.body,lj (FL M KB St.sc hF hH hA hL hr) d.body _ St.Uc,G,bP d as,sr,?_⟩;dsimp only at o;unfold aq at o;rw [if_pos ar] at o;cases r:aD F d.body (bP d as) with
 |bad=>rw [r] at o;exact o
 |exc c=>rw [r] at o;exact o
 |ok fl=>
  rw [r] at o;cases fl with
  |nx env=>exact λσ' G' H' sr g=>o .aC G' H' g .n
  |rt p=>exact λv G' H' rv g=>o v G' H' g rv
  |bk env=>exact o.elim
  |ct env=>exact o.elim
def AllK(K:zz8)(ts:List (Addr×Str))(Γ:Pg):dA->Prop
 |[]=>True
 |r::l=>AA K ts r.hl r.h r.st/\bA (Γ.at l r.hl) r.h r.d r.st/\((l.map (·.f)).contains r.f=false/\(r.d.rb.isNone==!gX r.f)=true/\(r.d.rb.isNone=true->r.f=r.h))/\AllK K ts Γ l
def uG(M:rY K mg Γ W)(l:dA)(hl:Bool):rY K mg (Γ.at l hl) W:=⟨M.hK,M.hm,M.gs,M.bs,M.Mn,M.cls,M.xc,M.xs,M.rm,M.MC,M.bm⟩
def pW.mono{F:aH}{j k:Nat}{f:Str}(h:pW P w K mg base W F j f)(hk:j<=k):pW P w K mg base W F k f:=by
 obtain⟨fa,fd,ps,h1,h2⟩:=h.ex
 exact⟨fa,fd,ps,h1.mono hk,h2⟩
def kj{F F':aH}{f f':Str}{n:Nat}{q:Option (Str×List Nat)}(e:∀as,F' f' as=F f as):AB W F' f' n q=AB W F f n q:=by
 funext vs H Q E
 unfold AB;simp! [e]
def pW.swap{F F':aH}{k:Nat}{f:Str}(h:pW P w K mg base W F k f)(e:∀as,F' f as=F f as):pW P w K mg base W F' k f:=by
 obtain⟨fa,fd,ps,h1,h2,h3,h4,h5⟩:=h.ex
 refine⟨fa,fd,ps,?_,h2,h3,h4,λas hn=>h5 as (by rw [<-e];exact hn)⟩
 rw [kj e];exact h1
def F8.swap{F F':aH}{j k:Nat}{q:Hs}(h:F8 P w K mg base W F j q)(hk:j<=k)(e:∀as,F' q.f as=F q.f as):F8 P w K mg base W F' k q:=by
 obtain⟨fa,fd,ps,h1,h2,h3,h4,h5⟩:=h.ex
 refine⟨fa,fd,ps,?_,h2,h3,h4,h5⟩;rw [kj e];exact h1.mono hk
def kh{r:Row}{l:dA}{g:Str}(h:(g==r.f)=false)(as:List PV):den (tab (r::l)) g as=den (tab l) g as:=by
 show(if(g==r.f)=true then _ else _)=_
 rw [h]
 rfl
def qQ{r:Row}{l:dA}(as:List PV):den (tab (r::l)) r.f as=aq (den (tab l)) r.d as:=by
 show(if(r.f==r.f)=true then _ else _)=_
 rw [beq_self_eq_true]
 rfl
theorem pz:∀(l:dA) {ts:List (Addr×Str)},AllK K ts Γ l->∀g as,den (tab l) g as≠.bad->(mO l).contains g=true\/gX g=true
 |[],_,_,g,as,h=>absurd rfl h
 |r::l,ts,⟨_,_,⟨_,hn,_⟩,hr⟩,g,as,h=>by
  by_cases e:(g==r.f)=true
  ·have e2:=zzy.mp e
   subst e2;cases hc:r.d.rb with
   |none=>
    left
    unfold mO;rw [List.filterMap_cons,hc];simp
   |some q=>
    right
    rw [hc] at hn
    simpa using hn
  ·rw [kh (by simpa using e)] at h;rcases pz l hr g as h with z|z
   ·left
    unfold mO at z⊢;rw [List.filterMap_cons];split
    ·exact z
    ·rw [List.contains_cons,z,Bool.or_true]
   ·exact .inr z
theorem yy(M:rY K mg Γ W)(KB:K.In base)(G:base.Ns mainGlobals mg):∀(l:dA),AllK K W.ts Γ l->(∀f,(mO l).contains f=true->pW P w K mg base W (den (tab l)) (2*l.length) f)/\∀q∈wK l,F8 P w K mg base W (den (tab l)) (2*l.length) q
 |[],_=>⟨λf hf=>by simp [mO] at hf,λq hq=>by simp [wK] at hq⟩
 |r::l,hall=>by
  obtain⟨he,hs,⟨hfr,hnm,hfh⟩,hr⟩:=hall
  obtain⟨ih,ihH⟩:=yy M KB G l hr
  obtain⟨fa,oc,od,kV,doc,pm,an,fy,ct,tD,e1,e2,e3,e4,e5⟩:=he
  have Fu:=Av (st:=r.st) e2 e3 e4
  have ok:=EG (P:=P) (w:=w) (nf:=r.f) (uG M l r.hl) KB (k:=2*l.length) hs Fu (λg hg=>ih g hg) (λq hq=>ihH q hq) (pz l hr) e5
  have vG:∀g,(l.map (·.f)).contains g=true->(g==r.f)=false:=λg hg=>by
   cases z:g==r.f with
   |false=>rfl
   |true=>rw [zzy.mp z,hfr] at hg;cases hg
  have sp:AB W (λ_ as=>aq (den (tab l)) r.d as) r.f (r.d.N.take r.d.np).length r.d.rb=AB W (den (tab (r::l))) r.f (r.d.N.take r.d.np).length r.d.rb:=kj λas=>(qQ as).symm
  rw [sp] at ok;have hlen:(r.d.N.take r.d.np).length=r.d.np:=by rw [List.length_take];have:=hs.np;omega
  have ml:∀f,(mO l).contains f=true->(l.map (·.f)).contains f=true:=λf hf=>by
   rw [zzn] at hf⊢;unfold mO at hf;obtain⟨x,hx,e⟩:=zz1.mp hf
   split at e
   ·cases e;exact List.mem_map_of_mem (f:=(·.f)) hx
   ·cases e
  refine⟨λf hf=>?_,λq hq=>?_⟩
  ·by_cases rR:(f==r.f)=true/\r.d.rb=none
   ·obtain⟨h1,h2⟩:=rR
    have e:=zzy.mp h1
    subst e;refine⟨fa,_,r.d.N.take r.d.np,by rw [h2] at ok;exact ok,?_,e4,Fu.binds hs.bind,λas hn=>?_⟩
    ·rw [hfh (by rw [h2];rfl)];exact PySem.W.mg_of KB G e1
    ·rw [qQ] at hn;unfold aq at hn
     by_cases ha:bO r.d as=true
     ·unfold bO at ha;rw [h2] at ha;rw [hlen];exact zzy.mp ha
     ·rw [if_neg ha] at hn;exact absurd rfl hn
   ·have RD:(mO l).contains f=true:=by
     unfold mO at hf⊢;rw [List.filterMap_cons] at hf;split at hf
     ·exact hf
     ·rename_i y hy;split at hy
      ·rename_i hc;cases hy;rw [List.contains_cons,zzt] at hf;rcases hf with z|z
       ·exact absurd ⟨z,Option.isNone_iff_eq_none.mp hc⟩ rR
       ·exact z
      ·cases hy
    exact((ih f RD).mono (by rw [zzL];omega)).swap λas=>kh (vG f (ml f RD)) as
  ·unfold wK at hq;rw [List.filterMap_cons] at hq;have tail:q∈wK l->F8 P w K mg base W (den (tab (r::l))) (2*(r::l).length) q:=λhq=>by
    refine(ihH q hq).swap (by rw [zzL];omega) λas=>kh (vG q.f ?_) as
    unfold wK at hq;obtain⟨x,hx,e⟩:=zz1.mp hq
    obtain⟨y,_,rfl⟩:=zzJ.mp e
    rw [zzn];exact List.mem_map_of_mem (f:=(·.f)) hx
   cases hc:r.d.rb with
   |none=>rw [hc] at hq;exact tail hq
   |some y=>
    rw [hc] at hq;rcases zzm.mp hq with z|z
    ·subst z;rw [hc] at ok;exact⟨fa,_,r.d.N.take r.d.np,ok,PySem.W.mg_of KB G e1,e4,Fu.binds hs.bind,hlen⟩
    ·exact tail z
end
end Ci
namespace L2
open PySem PySem.Spec PyProof.Rows
def wL{P:Program}{w:World}{K:zz8}{mg mb:Str->Option Value}{CX:w6}{k:Nat}{fa a:Addr}{fd:FuncData}{x:Str}{sp:Sp}{s₁:Shared}{vs:List Value}{ns:List Int}(l6:List Addr)
 (KX:K.In s₁.heap) (RB:s₁.heap.Ns mainGlobals mg) (hb:s₁.heap.Ns builtinsNs mb) (MI:∀x:Str,x≠"__name__"->mb x=bootBuiltins x) (Dd:s₁.heap.NoLimit) (hg:s₁.gens=#[])
 (hT:∀p∈l6,s₁.heap.get? p=some (PySem.W.tabObj #[])) (hC:∀p∈l6,∃c,Ci.i5 K c p) (TC:∀p∈l6,K.lookup p=none)
 (ha:s₁.heap.get? a=some {cls:=.type "list",data:=.seq vs.toArray}) (hi:IntsAre vs ns) (hl:ns.length<=sizeLine) (hr:eJ k callerA)
 (F:∀base:Heap,K.In base->base.Ns mainGlobals mg->f9 P w K mg base CX k fa fd [x] sp) (Lj:∀(s:Shared) (u:Value),BindsTo s fd ⟨[u],[]⟩ [(x,u)])
 (Eu:∀H:Hp,(∀p∈l6,H p=some (.gq #[]))->Ci.nC K H a (ns.map V.int)->sp [.ref a] H (λv _=>v=.bl true) λ_ _ _=>False)
 (NK:∀H e s',CX [] H s₁ (λ_ _ _=>False) e s'->False):
 codeAny (model P w) callerA (.call (.ref fa) ⟨[.ref a],[]⟩) (λr s'=>r=.ok (.ret (.bool true))/\OldK s₁.heap s'.heap/\s'.os=s₁.os/\AllBare s'.gens) s₁:=by
 have rv:=nk hi
 have L3:=hi.length
 have aT:a∉l6:=λz=>by have:=hT a z;rw [ha] at this;cases this
 have core:∀H:Hp,(∀p∈l6,H p=some (.gq #[]))->Ci.nC K H a (ns.map V.int)->gG P w H s₁.heap->(∀b,H b≠none->b∈l6\/b=a/\∃o xs,H b=some (.cX o xs))->(H a≠none->K.lookup a=none)->
  codeAny (model P w) callerA (.call (.ref fa) ⟨[.ref a],[]⟩) (λr s'=>r=.ok (.ret (.bool true))/\OldK s₁.heap s'.heap/\s'.os=s₁.os/\AllBare s'.gens) s₁:=by
  intro H hO hS bu hA hK;have ve:∀{b:Addr} {o:Obj},s₁.heap.get? b=some o->H b=none->(oJ s₁.heap H).get? b=some o:=λe n=>AO e n
  have LN:∀{b:Addr} {o:Obj} {es:Array DictEntry} {ep:Nat},s₁.heap.get? b=some o->o.data=.dict es ep->H b=none:=λ{b o es ep} e d=>by
   cases q:H b with
   |none=>rfl
   |some u=>
    rcases hA b (by rw [q];simp) with z|⟨z,_⟩
    ·rw [hT b z] at e;cases e;cases d
    ·subst z;rw [ha] at e;cases e;have d':Data.seq vs.toArray _=Data.dict es ep:=d
     cases d'
  have M0:∀{b:Addr} {m:Str->Option Value},s₁.heap.Ns b m->(oJ s₁.heap H).Ns b m:=λ{b m} ⟨o,es,ep,e,d,r⟩=>⟨o,es,ep,ve e (LN e d),d,r⟩
  have Qm:K.In (oJ s₁.heap H):=λb o e=>ve (KX b o e) (by
   cases q:H b with
   |none=>rfl
   |some u=>
    rcases hA b (by rw [q];simp) with z|⟨z,_⟩
    ·rw [TC b z] at e;cases e
    ·subst z;rw [hK (by rw [q];simp)] at e;cases e)
  have hM:Mod K mg (oJ s₁.heap H):=⟨Qm,M0 RB,⟨mb,M0 hb,MI⟩,let⟨mc,h1,h2⟩:=Dd;⟨mc,M0 h1,h2⟩⟩
  have e0:CZ P w K mg (oJ s₁.heap H) callerA [] s₁ H:=⟨rfl,hM,λb o e=>BA e,Nat.le_of_eq (wO _ _),trivial,λb hb=>absurd (show b∈([]:List Addr) from hb) (by simp),bu,.of_eq hg⟩
  refine codeAny_mono ((F _ Qm (M0 RB)).run callerA [] s₁ H ⟨[.ref a],[]⟩ [.ref a] [.ref a] _ _ hr e0 (Lj s₁ (.ref a)) (.cons rfl .nil) (Eu H hO hS)) λr s' h=>?_
  cases r with
  |error e=>exact(NK H e s' h).elim
  |ok fl=>
   cases fl with
   |next=>exact zzk h
   |brk=>exact zzk h
   |cont=>exact zzk h
   |ret u=>
    obtain⟨v,H',os,bare,un,D7,r',q⟩:=h
    have q':v=.bl true:=q
    subst q';obtain rfl:u=Value.bool true:=r'
    have key:∀b o,s₁.heap.get? b=some o->s'.heap.get? b=some o\/b∈l6/\∃m,s'.heap.get? b=some (PySem.W.tabObj m):=λb o e=>by
     cases q:H b with
     |none=>exact .inl (un.keep b o e q (by intro z;exact absurd (show b∈([]:List Addr) from z) (by simp)) (by simp))
     |some u=>
      rcases hA b (by rw [q];simp) with z|⟨z,ob,xs,z2⟩
      ·right
       obtain⟨m,hm⟩:=un.iM b _ (hO b z)
       exact⟨z,_,D7 b _ hm⟩
      ·left
       have z3:=un.iT b ob _ z2
       obtain⟨e1,_⟩:=bu b _ z2
       obtain⟨e2,_⟩:=D7 b _ z3
       rw [e] at e1;cases e1;exact e2
    refine⟨rfl,⟨λb o e=>?_,λb o e=>?_⟩,os,bare⟩
    ·rcases key b o e with z|⟨z,m,z2⟩
     ·exact .inl z
     ·have e':=hT b z
      rw [e] at e';cases e';obtain⟨c,o',EK,_,_,_,_,_,_,_,k1,k2,k3,k4,_⟩:=hC b z
      have tb:s₁.heap.TableAt c b #[]:=⟨⟨o',EK,KX _ _ k1,k2,k3,k4⟩,e⟩
      exact .inr (.inl ⟨tb.isCodeTable,rfl,#[],m,rfl,by rw [z2];simp⟩)
    ·rcases key b o e with z|⟨_,m,z⟩
     ·exact⟨_,z⟩
     ·exact⟨_,z⟩
 cases hk:K.lookup a with
 |some o=>
  have e:=KX a o hk
  rw [ha] at e;cases e;refine core (λb=>if b∈l6 then some (.gq #[]) else none) (λp hp=>if_pos hp) (.inr ⟨vs.toArray,_,hk,by rw [zzC,L3];exact hl,by simpa using rv⟩) (λb u z=>?_) (λb z=>?_) λz=>absurd (if_neg aT) z
  ·by_cases hb:b∈l6
   ·have z':=(if_pos hb).symm.trans z
    cases z';exact hT b hb
   ·have z':=(if_neg hb).symm.trans z
    cases z'
  ·by_cases hb:b∈l6
   ·exact .inl hb
   ·exact absurd (if_neg hb) z
 |none=>
  refine core (λb=>if b=a then some (.cX {cls:=.type "list",data:=.seq vs.toArray} (.lst (ns.map V.int))) else if b∈l6 then some (.gq #[]) else none) (λp hp=>?_) (.inl (.inr ⟨{cls:=.type "list",data:=.seq vs.toArray},if_pos rfl⟩)) (λb u z=>?_) (λb z=>?_) λ_=>hk
  ·show(if p=a then _ else _)=_
   rw [if_neg (show¬p=a from λz=>aT (by rw [<-z];exact hp)),if_pos hp]
  ·by_cases hb:b=a
   ·have z':=(if_pos hb).symm.trans z
    cases z';subst hb;exact⟨ha,by rw [zzl];exact hl,vs,_,rv,ha⟩
   ·replace z:=(if_neg hb).symm.trans z
    by_cases hc:b∈l6
    ·have z':=(if_pos hc).symm.trans z
     cases z';exact hT b hc
    ·have z':=(if_neg hc).symm.trans z
     cases z'
  ·by_cases hb:b=a
   ·exact .inr ⟨hb,_,_,if_pos hb⟩
   ·by_cases hc:b∈l6
    ·exact .inl hc
    ·exact absurd ((if_neg hb).trans (if_neg hc)) z
def Gp{l:PySem.W.OpenLaw}{n k:Nat}{q:Program}{loose:List Str}{XP:(Str->Option Value)->Heap->Prop}{YP:World->Heap->Prop}{d:DefRec}{K:Params->zz8}{CX:World->w6}{sp:World->Sp}{x:Str}(l6:List Addr)
 (hn:l.most=some n) (SK:n<=sizeLine) (LS:d.params.defaults=[]) (hr:eJ k callerA)
 (hY:∀(w:World) (h:Heap),YP w h->(K w.params).In h/\∀p∈l6,h.get? p=some (PySem.W.tabObj #[])) (hC:∀(w:World),∀p∈l6,(∃c,Ci.i5 (K w.params) c p)/\(K w.params).lookup p=none)
 (F:∀(w:World) (mg:Str->Option Value) (fa:Addr) (h:Heap),(K w.params).In h->h.Ns mainGlobals mg->mg d.name=some (.ref fa)->
  ∃fd:FuncData,(∀(s:Shared) (u:Value),BindsTo s fd ⟨[u],[]⟩ [(x,u)])/\
   ∀base:Heap,(K w.params).In base->base.Ns mainGlobals mg->f9 l.prog w (K w.params) mg base (CX w) k fa fd [x] (sp w))
 (Eu:∀(w:World) (H:Hp) (a:Addr) (ns:List Int),ns.length<=n->(∀p∈l6,H p=some (.gq #[]))->Ci.nC (K w.params) H a (ns.map V.int)->sp w [.ref a] H (λv _=>v=.bl true) λ_ _ _=>False)
 (NK:∀(w:World) (H:Hp) (s:Shared) (e:Value) (s':Shared),CX w [] H s (λ_ _ _=>False) e s'->False):
 PySem.W.WalkO q loose XP YP l.row.toRowW d [] (λf vs=>PySem.call f vs):=by
 refine Att.qJ hn LS λw s₀ s₁ mg mb fa o pm cd doc a vs ns G Y ho hd yz hmg hobj hints hlen hg=>?_
 obtain⟨KX,hT⟩:=hY w _ Y
 obtain⟨fd,hb,hF⟩:=F w mg fa _ KX G.T.g hmg
 exact wL l6 KX G.T.g G.T.b G.T.builtins G.T.nolimit hg hT (λp hp=>(hC w p hp).1) (λp hp=>(hC w p hp).2) hobj hints (zzU hlen SK) hr hF hb (λH hO hS=>Eu w H a ns hlen hO hS) λH e s'=>NK w H s₁ e s'
end L2
namespace Ci
open PySem L2
theorem lI{W:Wd}{G:Hp}:∀(ns:List Int),ah W G (ns.map PV.int) (ns.map V.int)
 |[]=>.nil
 |n::ns=>.cons .i (lI ns)
def nW(H:Hp):Hp:=λb=>match H b with
 |some (.gq _)=>none
 |o=>o
def tO(H:Hp):az (nW H) H:=λb o e=>by
 unfold nW at e;split at e
 ·cases e
 ·exact e
def rL{H:Hp}{b:Addr}{o:HO}(h:H b=some o)(n:∀ps,o≠.gq ps):nW H b=some o:=by
 unfold nW;rw [h];cases o with
 |gq ps=>exact absurd rfl (n ps)
 |_=>rfl
noncomputable def JM(K:zz8)(l6:List Addr):Sp:=λvs H Q _=>∃(a:Addr) (ns:List Int),vs=[.ref a]/\(∀p∈l6,H p=some (.gq #[]))/\nC K H a (ns.map V.int)/\ns.length<=63/\∀H',Q (.bl true) H'
def walk{l:PySem.W.OpenLaw}{q:Program}{loose:List Str}{XP:(Str->Option Value)->Heap->Prop}{YP:World->Heap->Prop}{d:DefRec}{K:Params->zz8}(rest:dA)(Γ:Pg)(x:Str)(dl:Def)(xs:List Str)(ts:List (Addr×Str))(st:Stmt)
 (hx:dl.N.take dl.np=[x]) (NO:dl.rb=none) (SO:d.name="law") (hn:l.most=some 63) (LS:d.params.defaults=[]) (hr:eJ (2*rest.length+2) callerA) (hY:∀(w:World) (h:Heap),YP w h->(K w.params).In h/\∀p∈ts.map (·.1),h.get? p=some (PySem.W.tabObj #[]))
 (hC:∀(w:World),∀p∈ts.map (·.1),(∃c,i5 (K w.params) c p)/\(K w.params).lookup p=none)
 (hM:∀(w:World) (mg:Str->Option Value) (h:Heap),(K w.params).In h->h.Ns mainGlobals mg->rY (K w.params) mg Γ ⟨K w.params,mg,xs,ts⟩)
 (hE:∀w:World,AA (K w.params) ts false "law" st) (hS:bA (Γ.at rest false) "law" dl st)
 (hA:∀w:World,AllK (K w.params) ts Γ rest)
 (NA:∀ns:List Int,ns.length<=63->aq (den (tab rest)) dl [.lst (ns.map .int)]=.ok (.bl true)):
 PySem.W.WalkO q loose XP YP l.row.toRowW d [] (λf vs=>PySem.call f vs):=by
 refine L2.Gp (n:=63) (k:=2*rest.length+2) (x:=x) (CX:=λw=>gr l.prog w) (sp:=λw=>JM (K w.params) (ts.map (·.1))) (ts.map (·.1)) hn (by decide) LS hr hY hC ?_ ?_ ?_
 ·intro w mg fa h KX G hmg;rw [SO] at hmg;obtain⟨f,oc,od,kV,doc,pm,an,fy,ct,tD,e1,e2,e3,e4,e5⟩:=hE w
  have hf:fa=f:=by
   have z:=hmg.symm.trans (PySem.W.mg_of KX G e1)
   cases z
   rfl
  subst hf;refine⟨PySem.W.fnOf "law" "law" (df st) (cG st) (aQ st) .none kV doc pm an fy ct,λs u=>?_,λbase KB GB=>?_⟩
  ·have hb:=hS.bind kV doc pm an fy ct [u]
   rw [hx] at hb;exact .of_eq (hb rfl)
  ·have M:=hM w mg base KB GB
   obtain⟨a1,a2⟩:=yy (P:=l.prog) (w:=w) M KB GB rest (hA w)
   have ok:=EG (P:=l.prog) (w:=w) (nf:="law") (uG M rest false) KB (k:=2*rest.length) hS (Av (st:=st) e2 e3 e4) (λg hg=>a1 g hg) (λq hq=>a2 q hq) (pz rest (hA w)) (λz=>nomatch z)
   rw [hx] at ok;refine ok.imp λvs H Q E h=>?_
   obtain⟨a,ns,rfl,ht,hl,hlen,q⟩:=h
   refine⟨rfl,nW H,[.lst (ns.map .int)],tO H,λP q m=>?_,?_,?_⟩
   ·have hP:=ht P (List.mem_map_of_mem (f:=(·.1)) m)
    refine⟨by unfold nW;rw [hP],#[],hP,trivial,λpos cv e=>nomatch e⟩
   ·rw [NO];refine ah.cons (.l ?_ (lI ns)) .nil;rcases hl with(h|⟨o,h⟩)|h
    ·exact .inl (.inl (rL h (λ_ z=>nomatch z)))
    ·exact .inl (.inr ⟨o,rL h (λ_ z=>nomatch z)⟩)
    ·exact .inr h
   ·dsimp only;rw [NA ns hlen];intro v G' H' _ rv;simp! [Rep] at rv;subst rv;exact q H'
 ·intro w H a ns hlen hO rQ;exact⟨a,ns,rfl,hO,rQ,hlen,λ_=>rfl⟩
 ·intro w H s e s' h;obtain⟨a,C,t,vs,H',B,rfl,F⟩:=h
  exact F.ends
end Ci
namespace Hd
open PySem PySem.W PySem.Calls
noncomputable def Iu(st:SharedT->Thread->Option (SharedT×Thread))(ok:Thread->Bool)(n:Nat):SharedT->Thread->Option SharedT:=
 @Nat.rec (λ_=>SharedT->Thread->Option SharedT) (λ_ _=>none) (λ_ ih s t=>match through t with
  |true=>some s
  |false=>match ok t with
   |false=>none
   |true=>match st s t with
    |some (s',t')=>ih s' t'
    |none=>none) n
theorem ny{tb:String->Option Builtin}{p:Program}{w:World}{n₀:Nat}{ann:Option Value}:∀{n:Nat} {s s':SharedT} {t:Thread},Iu (stepT (denote tb) p w) (stepOk n₀ ann) n s t=some s'->topRun tb p w n₀ ann n s.abs t=some s'.abs
 |0,_,_,_,h=>by cases h
 |n+1,s,s',t,h=>by
  have h:(match through t with
   |true=>some s
   |false=>match stepOk n₀ ann t with
    |false=>none
    |true=>match stepT (denote tb) p w s t with
     |some (s',t')=>Iu (stepT (denote tb) p w) (stepOk n₀ ann) n s' t'
     |none=>none)=some s':=h
  unfold topRun;cases ht:through t with
  |true=>rw [ht] at h;cases h;rfl
  |false=>
   rw [ht] at h;cases hk:stepOk n₀ ann t with
   |false=>rw [hk] at h;cases h
   |true=>
    rw [hk] at h;cases hs:stepT (denote tb) p w s t with
    |none=>rw [hs] at h;cases h
    |some r=>obtain⟨s₂,t₂⟩:=r;rw [hs] at h;rw [stepT_spec hs];exact ny h
def treeOf(l:List Obj):BT:=(l.foldl (λ(T,i) o=>(BT.ins T i o,i+1)) (BT.nil,0)).1
def DZ{p q:Program}{loose:List Str}{Xt:Shared->Bool}{α:Type}{Yf:Shared->α}{Ya:World->α}{N:Nat}{g0:Bool}{T₀:Params->BT}{life:Life}{m₀:Nat}{ann:Option Value}{M:Nat}
 (e:opening p=plainProg p.main.scope.names) (hN:Nat.ble 600 N=true) (f:∀s,fenceModules? p s=some s)
 (e0:∀P:Params,absHeap (T₀ P) m₀ life=boot_heap P)
 (size:∀w:World,((boot_heap w.params).isNs mainGlobals,(boot_heap w.params).nsMap mainGlobals "__annotations__")=(true,ann))
 (le:Nat.ble M N=true)
 (run:∀(w:World) (os:OsState),(Iu (stepT (denote treeTable) p w) (stepOk m₀ ann) M ⟨T₀ w.params,m₀,life,Array.mk [],boot_drawn,boot_toks,os⟩ (topStub p)).map (λs=>
  ((staticsOk (importedModules p.main.body) (boot_heap w.params) s.abs.heap&&namesBound p s.abs.heap&&gensDone s.abs&&laidKept (boot_heap w.params) s.abs.heap),openSeen q loose (importedModules p.main.body) Xt g0 s.abs,Yf s.abs))
  =some (true,openGood q loose,Ya w)):LeftO p q loose Xt Yf Ya N g0:=λw=>by
 obtain⟨⟨h,gs,d,k,os⟩,e1,e'⟩:=zzJ.mp (boot_open e hN f w)
 obtain⟨rfl,rfl,rfl,rfl⟩:h=boot_heap w.params/\gs=Array.mk []/\d=boot_drawn/\k=boot_toks:=by simpa using e'
 obtain⟨z1,z3⟩:_/\_:=by simpa only [Prod.mk.injEq] using size w
 obtain⟨s,r,l⟩:=zzJ.mp (run w os)
 obtain⟨l1,l2,l3⟩:_/\_/\_:=by simpa only [Prod.mk.injEq] using l
 have r:=ny r
 have r:=topRun_mono (N-M) _ _ _ _ r
 rw [show M+(N-M)=N by have:=Nat.le_of_ble_eq_true le;omega] at r;have hs:(boot_heap w.params).objs.size=m₀:=by rw [<-e0 w.params];exact absHeap_size _ _ _
 have r:topRun treeTable p w m₀ ann N ⟨boot_heap w.params,Array.mk [],boot_drawn,boot_toks,os⟩ (topStub p)=some s.abs:=by
  have:(⟨T₀ w.params,m₀,life,Array.mk [],boot_drawn,boot_toks,os⟩:SharedT).abs=⟨boot_heap w.params,Array.mk [],boot_drawn,boot_toks,os⟩:=by
   show Shared.mk _ _ _ _ _=_
   rw [show absHeap (T₀ w.params) m₀ life=boot_heap w.params from e0 w.params]
  rw [<-this];exact r
 have t:topFrom treeTable p w N ⟨boot_heap w.params,Array.mk [],boot_drawn,boot_toks,os⟩=some s.abs:=by
  unfold topFrom;dsimp only;rw [z1,z3,hs,r];show(match staticsOk (importedModules p.main.body) (boot_heap w.params) s.abs.heap&&namesBound p s.abs.heap&&gensDone s.abs&&laidKept (boot_heap w.params) s.abs.heap with|true=>_|false=>_)=_
  rw [l1]
 unfold openEnds;rw [e1];show(topFrom treeTable p w N _).map _=_
 rw [t];exact congrArg some (Prod.ext l2 l3)
end Hd
namespace Hd
open PySem PySem.W
def KN:∀P:Params,absHeap (treeOf (boot_heap P).objs.toList) 11 {}=boot_heap P:=λP=>by kernel_rfl
def L4:∀w:World,((boot_heap w.params).isNs mainGlobals,(boot_heap w.params).nsMap mainGlobals "__annotations__")=(true,some (.ref 6)):=λw=>by kernel_rfl
abbrev de(P:Params)(x:Str)(t:Tok)(v:Value):DictEntry:={hash:=PyData.keyHash P x,key:=.str x t,val:=v}
theorem holds{l:OpenLaw}{keep:List Nat}{K:Params->Frag}{as:List Addr}{d:DefRec}{N:Nat}(Og:l.wellSaid=true)
 (ka:∀P,as=(K P).map (·.1))
 (left:LeftO l.row.prog (view l.row.prog keep) [] (λs=>xlAt (view l.row.prog keep) [] s&&recOk l.row.toRowW.records s) (kHook K as ka).obs (kHook K as ka).val N)
 (ON:defOf (view l.row.prog keep) l.row.name=some (d,[])) (hp:l.row.prog.theDef l.row.name=some (d.params,d.body,d.scope)) (hk:kwWritten? d.params.kwonlyargs d.params.kw_defaults=some [])
 (ok:(chainsOk (view l.row.prog keep)&&opensWell l.row.prog&&(frees l.row.toRowW&&l.row.within.isEmpty))=true) (hb:l.row.prog.bare) (hw:l.row.toRowW.promised)
 (call:WalkO (view l.row.prog keep) [] (XL (view l.row.prog keep) []) (kHook K as ka).says l.row.toRowW d [] λf vs=>PySem.call f vs):l.Holds:=
 holds_law Og λk1=>holds_open (N:=N) left (Hook.of (kHook K as ka)) (Hook.keeps (kHook K as ka)) (λs e=>xl_of s (Bool.and_eq_true_iff.mp e).1) XL.keeps ON hp hk (λs e=>recFacts_of (Bool.and_eq_true_iff.mp e).2) (by cases h:l.row.writes<;>rfl) k1 ok hb hw call
theorem Tw{P:List Value->Prop}(h:P []):∀us:List Value,us.length=0->P us
 |[],_=>h
theorem EH{P:List Value->Prop}(h:∀a0,P [a0]):∀us:List Value,us.length=1->P us
 |[a0],_=>h a0
theorem sZ{P:List Value->Prop}(h:∀a0 a1,P [a0,a1]):∀us:List Value,us.length=2->P us
 |[a0,a1],_=>h a0 a1
theorem IS{P:List Value->Prop}(h:∀a0 a1 a2,P [a0,a1,a2]):∀us:List Value,us.length=3->P us
 |[a0,a1,a2],_=>h a0 a1 a2
theorem Gb{P:List Value->Prop}(h:∀a0 a1 a2 a3,P [a0,a1,a2,a3]):∀us:List Value,us.length=4->P us
 |[a0,a1,a2,a3],_=>h a0 a1 a2 a3
theorem O2{P:List Value->Prop}(h:∀a0 a1 a2 a3 a4,P [a0,a1,a2,a3,a4]):∀us:List Value,us.length=5->P us
 |[a0,a1,a2,a3,a4],_=>h a0 a1 a2 a3 a4
theorem Tt{P:List Value->Prop}(h:∀a0 a1 a2 a3 a4 a5,P [a0,a1,a2,a3,a4,a5]):∀us:List Value,us.length=6->P us
 |[a0,a1,a2,a3,a4,a5],_=>h a0 a1 a2 a3 a4 a5
end Hd
namespace KJ
open PySem L2 Ci
theorem iQ{α β:Type}{a:α}{f:α->Res β}:(Res.ok a).bind f=f a:=rfl
theorem A5{α:Type}{a:α}:(Res.ok a).well=.ok a:=rfl
theorem Et{α:Type}{a:α}:Res.of (some a)=.ok a:=rfl
theorem Py{env:Sl}{k:Sl->Res Fl}:(Fl.nx env).seq k=k env:=rfl
theorem Ri{p:PV}{k:Sl->Res Fl}:(Fl.rt p).seq k=.ok (.rt p):=rfl
theorem Sa{env:Sl}{k:Sl->Res Fl}:(Fl.bk env).seq k=.ok (.bk env):=rfl
theorem sv{p:PV}:mZ (some (.val p))=.ok p:=rfl
theorem RP{p:PV}:AL (some (.val p))=.ok p:=rfl
theorem QX{p:PV}:AL (some (.own p))=.ok p:=rfl
theorem JH{α:Type}{b:Bool}{f:Bool->Res α}:mV (.bl b) f=f b:=rfl
theorem EA{i j:Int}:binOp .add (.int i) (.int j)=.ok (.int (i+j)):=rfl
theorem Eh{i j:Str}:binOp .add (.str i) (.str j)=if i.length+j.length<=cL then .ok (.str (i++j)) else .bad:=rfl
theorem Ai{i j:List PV}:binOp .add (.lst i) (.lst j)=if i.length+j.length<=cL then .ok (.lst (i++j)) else .bad:=rfl
theorem Ma{i j:Int}:binOp .sub (.int i) (.int j)=.ok (.int (i-j)):=rfl
theorem Kt{i j:Int}:binOp .mul (.int i) (.int j)=if aO i||aO j then .ok (.int (i*j)) else .bad:=rfl
theorem KI{i j:Int}:binOp .mod (.int i) (.int j)=if 0<j then .ok (.int (i%j)) else .bad:=rfl
theorem KZ{i j:Int}:binOp .fdiv (.int i) (.int j)=if 0<j/\j<1073741824 then .ok (.int (i/j)) else .bad:=rfl
theorem RH:dg .eq=d6:=rfl
theorem Rq:dg .ne=fb:=rfl
theorem QR:dg .lt=rE:=rfl
theorem Sb:dg .le=ql:=rfl
theorem Qf:dg .ge=rh:=rfl
theorem Mq:dg .JA=tW:=rfl
theorem Lc:dg .rP=fK:=rfl
theorem oLt{i j:Int}:rE (.int i) (.int j)=.ok (.bl (decide (i<j))):=rfl
theorem oLe{i j:Int}:ql (.int i) (.int j)=.ok (.bl (decide (i<=j))):=rfl
theorem Sd{i j:Int}:rh (.int i) (.int j)=.ok (.bl (decide (j<=i))):=rfl
theorem lL{xs:List PV}:bC .len [.lst xs]=.ok (.int xs.length):=rfl
theorem lT{xs:List PV}:bC .len [.tup xs]=.ok (.int xs.length):=rfl
theorem lS{z:Str}:bC .len [.str z]=if z.length<=cL then .ok (.int z.length) else .bad:=rfl
theorem tL{xs:List PV}:bC .tuple [.lst xs]=.ok (.tup xs):=rfl
theorem aL{xs:List PV}:bC .all [.lst xs]=(Res.of (boolsOf xs)).bind λbs=>.ok (.bl (bs.all id)):=rfl
theorem RL{i:Nat}{p:PV}{env:Sl}:(Tg.one i).put p env=.ok (env.set i (.val p)):=rfl
theorem Q1{i j:Nat}{a b:PV}{env:Sl}:(Tg.two i j).put (.tup [a,b]) env=.ok ((env.set i (.val a)).set j (.val b)):=rfl
theorem xf{p:PV}:pV (.own p)=.val p:=rfl
theorem jA{α:Type}{a:α}{as:List α}:(a::as).length=as.length+1:=rfl
theorem jB{α:Type}:([]:List α).length=0:=rfl
theorem jC{α β:Type}{f:α->β}{a:α}{l:List α}:(a::l).map f=f a::l.map f:=rfl
theorem jD{α β:Type}{f:α->β}:([]:List α).map f=[]:=rfl
theorem jE{α:Type}{a:α}{as bs:List α}:a::as++bs=a::(as++bs):=rfl
theorem jF{α:Type}{as:List α}:[]++as=as:=rfl
theorem jG{α:Type}{a:α}{l:List α}:(a::l)[0]?=some a:=rfl
theorem jH{α:Type}{a:α}{l:List α}{i:Nat}:(a::l)[i+1]?=l[i]?:=rfl
theorem jI{α:Type}{a b:α}{l:List α}:(a::l).set 0 b=b::l:=rfl
theorem jJ{α:Type}{a b:α}{l:List α}{i:Nat}:(a::l).set (i+1) b=a::l.set i b:=rfl
theorem jK{α:Type}{a d:α}{l:List α}:(a::l).getD 0 d=a:=rfl
theorem jL{α:Type}{a d:α}{l:List α}{i:Nat}:(a::l).getD (i+1) d=l.getD i d:=rfl
def jM{n:Nat}:0+n=n:=Nat.zero_add _
theorem jN:(!true)=false:=rfl
theorem jO:(!false)=true:=rfl
def jP:(false=true)=False:=zze
theorem hZ{e:E}{xs:List PV}:rH e (.lst xs)=.ok xs:=rfl
theorem Sg{e:E}{xs:List PV}:rH e (.tup xs)=.ok xs:=rfl
theorem ML{xs:List PV}:itemsOf (.tup xs)=.ok xs:=rfl
theorem Oi{xs:List PV}:itemsOf (.lst xs)=.ok xs:=rfl
theorem Mx{z:Str}:itemsOf (.str z)=.ok (chars z):=rfl
theorem Sm{i j k:Nat}{a b c:PV}{env:Sl}:(Tg.three i j k).put (.tup [a,b,c]) env=.ok (((env.set i (.val a)).set j (.val b)).set k (.val c)):=rfl
theorem jQ{α:Type}{f:α->α}{a:α}{l:List α}:(a::l).modify 0 f=f a::l:=rfl
def jR{α:Type}{f:α->α}{a:α}{l:List α}{i:Nat}:(a::l).modify (i+1) f=a::l.modify i f:=by simp
theorem jS{α:Type}{a:α}:List.replicate 0 a=[]:=id rfl
theorem jT{α:Type}{a:α}{n:Nat}:List.replicate (n+1) a=a::List.replicate n a:=id rfl
def jU{n:Nat}:(n==n)=true:=beq_self_eq_true n
noncomputable def J:=And.intro @jS (And.intro @jT (And.intro @jU (And.intro @iQ (And.intro @A5 (And.intro @Et (And.intro @Py (And.intro @Ri (And.intro @Sa (And.intro @sv (And.intro @RP (And.intro @QX (And.intro @JH (And.intro @EA (And.intro @Eh (And.intro @Ai (And.intro @Ma (And.intro @Kt (And.intro @KI (And.intro @KZ (And.intro @RH (And.intro @Rq (And.intro @QR (And.intro @Sb (And.intro @Qf (And.intro @Mq (And.intro @Lc (And.intro @oLt (And.intro @oLe (And.intro @Sd (And.intro @lL (And.intro @lT (And.intro @lS (And.intro @tL (And.intro @aL (And.intro @RL (And.intro @Q1 (And.intro @xf (And.intro @jA (And.intro @jB (And.intro @jC (And.intro @jD (And.intro @jE (And.intro @jF (And.intro @jG (And.intro @jH (And.intro @jI (And.intro @jJ (And.intro @jK (And.intro @jL (And.intro @jM (And.intro @jN (And.intro @jO (And.intro @jP (And.intro @hZ (And.intro @Sg (And.intro @ML (And.intro @Oi (And.intro @Mx (And.intro @Sm (And.intro @jQ (@jR)))))))))))))))))))))))))))))))))))))))))))))))))))))))))))))
def HZ{n:Str}{d:Def}{r:List (Str×Def)}:den ((n,d)::r) n=aq (den r) d:=by
 funext as;simp [den]
def Gi{n f:Str}{d:Def}{r:List (Str×Def)}(h:(f==n)=false):den ((n,d)::r) f=den r f:=by
 funext as;simp [den,h]
theorem qK{f:Str}:∀(n:Nat) {T:List (Str×Def)},((T.take n).all λx=>!(f==x.1))=true->den T f=den (T.drop n) f
 |0,_,_=>rfl
 |n+1,[],_=>rfl
 |n+1,(m,d)::r,h=>by
  rw [List.take_succ_cons,List.all_cons,zza,Bool.not_eq_true'] at h;exact(Gi h.1).trans (qK n h.2)
def dk{f:Str}{d:Def}{r T:List (Str×Def)}(k:Nat)(h:((T.take k).all λx=>!(f==x.1))=true:=by decide+kernel)(e:T.drop k=(f,d)::r:=by rfl):den T f=aq (den r) d:=by
 rw [qK k h,e];exact HZ
end KJ
local macro_rules | `(#v[]) => `(.nil) | `(#v[$x]) => `(.cons $x .nil) | `(#v[$x, $xs,*]) => `(.cons $x #v[$xs,*]) | `(!$n:num) => `(.var $n) | `(¬$n:num) => `(.cst (.int $n))
namespace K61
open PySem L2 Ci KJ
noncomputable def cU:Def:=⟨["_law_script","_law_k"],2,#v[.ite (.cmp .lt (!1) (.blt .len #v[!0])) #v[.ret (.sub (!0) (!1))] .nil,.ite (.cmp .eq (!0) (.lst .nil)) #v[.ret (¬0)] .nil,.ret (.bin .add (.bin .mul (.sub (!0) (.bin .mod (!1) (.blt .len #v[!0]))) (¬31)) (!1))],none⟩
noncomputable def bh:Def:=⟨["_law_script","_law_k","_law_many","_law_drawn"],3,#v[.set 3 (.bin .mod (.bin .mul (.bin .add (.call "_law_cell" #v[!0,!1]) (.bin .mul (¬6151) (.bin .add (!1) (¬1)))) (¬40692)) (¬2147483399)),.ret (.bin .mod (.bin .mod (.bin .add (.bin .mul (!3) (!3)) (.bin .fdiv (!3) (¬31))) (¬2147483629)) (!2))],none⟩
noncomputable def b9:Def:=⟨["_law_script","_law_at_here","_law_most","_law_rows","_law_columns","_law_shuts","_law_top","_law_made","_law_row","_law_signs","_law_column","_law_drawn"],3,#v[.set 3 (.bin .add (¬1) (.call "_law_pick" #v[!0,!1,!2])),.set 4 (.bin .add (¬1) (.call "_law_pick" #v[!0,.bin .add (!1) (¬1),!2])),.set 5 (.sub (.lst #v[¬0,¬2,¬4,¬6]) (.call "_law_pick" #v[!0,.bin .add (!1) (¬2),¬4])),.set 6 (.sub (.lst #v[¬1,¬2,¬3,¬10]) (.call "_law_pick" #v[!0,.bin .add (!1) (¬3),¬4])),.own 7 (.lst .nil),.bX (.one 8) (.mG (!3)) #v[.set 9 (.cst (.str "")),.bX (.one 10) (.mG (!4)) #v[.set 11 (.call "_law_pick" #v[!0,.bin .add (.bin .add (.bin .add (!1) (¬4)) (.bin .mul (!2) (!8))) (!10),.bin .mul (¬12) (!6)]),.set 9 (.bin .add (!9) (.ite (.cmp .lt (.bin .mod (!11) (¬12)) (!5)) (.cst (.str "#")) (.blt .str #v[.bin .fdiv (!11) (¬12)])))],.app 7 (!9)],.ret (.blt .tuple #v[.hV 7])],none⟩
noncomputable def cq:Def:=⟨["_law_script","_law_at_here"],2,#v[.ret (.tup #v[.cmp .eq (.call "_law_pick" #v[!0,!1,¬2]) (¬0),.sub (.lst #v[¬0,¬1,¬2,¬9]) (.call "_law_pick" #v[!0,.bin .add (!1) (¬1),¬4]),.call "_law_pick" #v[!0,.bin .add (!1) (¬2),¬4]])],none⟩
noncomputable def bK:Def:=⟨["_law_floor_here","_law_made","_law_row","_law_signs"],1,#v[.own 1 (.lst .nil),.bX (.two 2 3) (.enum (!0)) #v[.jj 1 (.cN 2 [2] (.two 0 1) (.enum (!3)) (.cmp .ne (!1) (.cst (.str "#"))) (.tup #v[!2,!0]))],.cX 1,.ret (!1)],none⟩
noncomputable def bZ:Def:=⟨["_law_script","_law_at_here","_law_spots_here","_law_many","_law_left","_law_made","_law_k"],4,#v[.ji 4 (!2),.own 5 (.lst .nil),.bX (.one 6) (.mG (!3)) #v[.ite (.cmp .ne (.hV 4) (.lst .nil)) #v[.fL 5 4 (.call "_law_pick" #v[!0,.bin .add (!1) (!6),.blt .len #v[.hV 4]])] .nil],.cX 5,.ret (!5)],none⟩
noncomputable def cH:Def:=⟨["floor","spots","row","signs","column","sign"],1,#v[.own 1 (.lst .nil),.bX (.two 2 3) (.enum (!0)) #v[.bX (.two 4 5) (.enum (!3)) #v[.ite (.cmp .ne (!5) (.glob "WALL" (.str "#"))) #v[.app 1 (.tup #v[!2,!4])] .nil]],.cX 1,.ret (!1)],none⟩
def dU:Def:=⟨["thing"],1,#v[.ret (.and (.ty .int (!0)) (.not (.ty .bool (!0))))],none⟩
def cT:Def:=⟨["thing"],1,#v[.ret (.and (.ty .tuple (!0)) (.and (.cmp .eq (.blt .len #v[!0]) (¬2)) (.and (.call "is_whole" #v[.sub (!0) (¬0)]) (.call "is_whole" #v[.sub (!0) (¬1)]))))],none⟩
def cw:Def:=⟨["floor","spot"],2,#v[.ret (.and (.ch .le .lt (¬0) (.sub (!1) (¬0)) (.blt .len #v[!0])) (.ch .le .lt (¬0) (.sub (!1) (¬1)) (.blt .len #v[.sub (!0) (.sub (!1) (¬0))])))],none⟩
noncomputable def bw:Def:=⟨["floor","thing"],2,#v[.ret (.and (.call "is_spot" #v[!1]) (.and (.call "is_on_floor" #v[!0,!1]) (.cmp .ne (.sub (.sub (!0) (.sub (!1) (¬0))) (.sub (!1) (¬1))) (.glob "WALL" (.str "#")))))],none⟩
def bM:Def:=⟨["floor","spot"],2,#v[.ite (.not (.call "is_open" #v[!0,!1])) #v[.raise "NoSpot" "the spot is not on the floor or a wall"] .nil],none⟩
noncomputable def aV:Def:=⟨["floor","spot","beside","row","column"],2,#v[.own 2 (.lst .nil),.bX (.one 3) (.pI (.bin .sub (.sub (!1) (¬0)) (¬1)) (.bin .add (.sub (!1) (¬0)) (¬2))) #v[.bX (.one 4) (.pI (.bin .sub (.sub (!1) (¬1)) (¬1)) (.bin .add (.sub (!1) (¬1)) (¬2))) #v[.ite (.and (.cmp .ne (.tup #v[!3,!4]) (!1)) (.call "is_open" #v[!0,.tup #v[!3,!4]])) #v[.app 2 (.tup #v[!3,!4])] .nil]],.cX 2,.ret (!2)],none⟩
noncomputable def cJ:Def:=⟨["one","other"],2,#v[.ret (.and (.cmp .ne (!0) (!1)) (.and (.cmp .le (.blt .abs #v[.bin .sub (.sub (!0) (¬0)) (.sub (!1) (¬0))]) (¬1)) (.cmp .le (.blt .abs #v[.bin .sub (.sub (!0) (¬1)) (.sub (!1) (¬1))]) (¬1))))],none⟩
def cR:Def:=⟨["floor","spot"],2,#v[.expr (.call "need_open" #v[!0,!1]),.ret (.blt .int #v[.sub (.sub (!0) (.sub (!1) (¬0))) (.sub (!1) (¬1))])],none⟩
def ba:Def:=⟨["floor","one","other"],3,#v[.ret (.and (.call "is_open" #v[!0,.tup #v[.sub (!1) (¬0),.sub (!2) (¬1)]]) (.call "is_open" #v[!0,.tup #v[.sub (!2) (¬0),.sub (!1) (¬1)]]))],none⟩
noncomputable def bg:Def:=⟨["floor","walker","one","other","is_slanting","rise","flat_cost"],4,#v[.ite (.not (.call "are_beside" #v[!2,!3])) #v[.ret (.cst .aC)] .nil,.set 4 (.and (.cmp .ne (.sub (!2) (¬0)) (.sub (!3) (¬0))) (.cmp .ne (.sub (!2) (¬1)) (.sub (!3) (¬1)))),.ite (.and (!4) (.not (.and (.sub (!1) (¬0)) (.call "has_open_corners" #v[!0,!2,!3])))) #v[.ret (.cst .aC)] .nil,.set 5 (.bin .sub (.call "height_at" #v[!0,!3]) (.call "height_at" #v[!0,!2])),.ite (.cmp .gt (.blt .abs #v[!5]) (.sub (!1) (¬1))) #v[.ret (.cst .aC)] .nil,.set 6 (.ite (!4) (.glob "SLANTING_COST" (.int 3)) (.glob "STRAIGHT_COST" (.int 2))),.ret (.bin .add (!6) (.bin .mul (.sub (!1) (¬2)) (.blt .max2 #v[!5,¬0])))],none⟩
noncomputable def cI:Def:=⟨["floor","walker","spot","steps","other","cost"],3,#v[.expr (.call "need_open" #v[!0,!2]),.own 3 (.lst .nil),.bX (.one 4) (.seq (.call "open_spots_beside" #v[!0,!2])) #v[.set 5 (.call "step_cost" #v[!0,!1,!2,!4]),.ite (.cmp .oY (!5) (.cst .aC)) #v[.app 3 (.tup #v[!4,!5])] .nil],.cX 3,.ret (!3)],none⟩
noncomputable def cD:Def:=⟨["floor","walker","onward","spot"],2,#v[.qP 2,.bX (.one 3) (.seq (.call "open_spots" #v[!0])) #v[.put 2 (!3) (.comp 1 [] (.one 0) (.seq (.call "steps_from" #v[!0,!1,!3])) (.sub (!0) (¬0)))],.cX 2,.ret (!2)],none⟩
noncomputable def cS:Def:=⟨["ways","spot","left","way","time","passed"],2,#v[.set 2 (¬0),.bX (.one 3) (.seq (!0)) #v[.bX (.two 4 5) (.enum (!3)) #v[.ite (.cmp .eq (!5) (!1)) #v[.set 2 (.blt .max2 #v[!2,.bin .add (!4) (¬1)])] .nil]],.ret (!2)],none⟩
def br:Def:=⟨["ways"],1,#v[.ret (.maxD (.comp 1 [] (.one 0) (.seq (!0)) (.bin .sub (.blt .len #v[!0]) (¬1))) 0)],none⟩
noncomputable def cx:Def:=⟨["times","goal","way","reached"],2,#v[.own 2 (.lst #v[!1]),.bX (.one 3) (.sC (.slice (!0) (.some (¬1)) .no)) #v[.app 2 (.sub (!3) (.sub (.hV 2) (.neg (¬1))))],.ret (.zF (.hV 2))],none⟩
noncomputable def bU:Def:=⟨["onward","reached","moves","moved","taken","later","spot","other"],3,#v[.set 3 (.blt .dict #v[!2]),.set 4 (.blt .dict #v[.comp 1 [] (.one 0) (.seq (!2)) (.tup #v[.sub (!0) (¬1),.cst (.bl true)])]),.qP 5,.bX (.one 6) (.seq (!1)) #v[.bX (.one 7) (.seq (.bin .add (.lst #v[!6]) (.sub (!0) (!6)))) #v[.ite (.and (.cmp .rP (!7) (!4)) (.cmp .ne (.get (!3) (!7)) (!6))) #v[.put 5 (!7) (!6)] .nil]],.cX 5,.ret (!5)],none⟩
def dM:Def:=⟨["way","time"],2,#v[.ret (.sub (!0) (.blt .min2 #v[!1,.bin .sub (.blt .len #v[!0]) (¬1)]))],none⟩
def cB:Def:=⟨["ways","time"],2,#v[.ret (.comp 1 [1] (.one 0) (.seq (!0)) (.tup #v[.call "spot_at" #v[!0,!1],.call "spot_at" #v[!0,.bin .add (!1) (¬1)]]))],none⟩
noncomputable def bz:Def:=⟨["onward","ahead","start","goal","left","still","times","time","later"],4,#v[.ite (.cmp .JA (!2) (.comp 1 [] (.one 0) (.seq (!1)) (.sub (!0) (¬0)))) #v[.ret (.cst .aC)] .nil,.set 4 (.call "left_from" #v[!1,!3]),.set 5 (.call "still_from" #v[!1]),.own 6 (.lst #v[.Lm 2]),.Js (.or (.cmp .rP (!3) (.sub (.hV 6) (.neg (¬1)))) (.cmp .lt (.bin .sub (.blt .len #v[.hV 6]) (¬1)) (!4))) #v[.set 7 (.bin .sub (.blt .len #v[.hV 6]) (¬1)),.set 8 (.call "reached_next" #v[!0,.sub (.hV 6) (.neg (¬1)),.call "moves_at" #v[!1,!7]]),.ite (.and (.cmp .ge (!7) (!5)) (.cmp .eq (.blt .len #v[!8]) (.blt .len #v[.sub (.hV 6) (.neg (¬1))]))) #v[.ret (.cst .aC)] .nil,.app 6 (!8)],.cX 6,.ret (.call "traced_back" #v[!6,!3])],none⟩
noncomputable def f7:Def:=⟨["floor","walker","starts","goals","spot","onward","told","start","goal","ahead"],4,#v[.bX (.one 4) (.seq (.bin .add (!2) (!3))) #v[.expr (.call "need_open" #v[!0,!4])],.set 5 (.call "steps_over" #v[!0,!1]),.own 6 (.lst .nil),.bX (.two 7 8) (.zip #v[!2,!3]) #v[.set 9 (.cN 1 [] (.one 0) (.seq (.hV 6)) (.cmp .oY (!0) (.cst .aC)) (!0)),.app 6 (.call "earliest_way" #v[!5,!9,!7,!8])],.cX 6,.ret (!6)],none⟩
noncomputable def bH:Def:=⟨["_law_some_here","_law_ways"],0,#v[.own 0 (.lst #v[.tup #v[.tup #v[.cst (.str "00")],.lst #v[.tup #v[¬0,¬0],.tup #v[¬0,¬1]],.lst #v[.tup #v[¬0,¬1],.tup #v[¬0,¬0]],.lst #v[.lst #v[.tup #v[¬0,¬0],.tup #v[¬0,¬1]],.lst #v[.tup #v[¬0,¬1],.tup #v[¬0,¬0]]]]]),.set 1 (.lst #v[.lst #v[.tup #v[¬0,¬1]],.lst #v[.tup #v[¬0,¬0],.tup #v[¬0,¬1],.tup #v[¬0,¬2]]]),.app 0 (.tup #v[.tup #v[.cst (.str "000")],.lst #v[.tup #v[¬0,¬1],.tup #v[¬0,¬0]],.lst #v[.tup #v[¬0,¬1],.tup #v[¬0,¬2]],!1]),.app 0 (.tup #v[.tup #v[.cst (.str "000")],.lst #v[.tup #v[¬0,¬0],.tup #v[¬0,¬1]],.lst #v[.tup #v[¬0,¬1],.tup #v[¬0,¬2]],.lst #v[.lst #v[.tup #v[¬0,¬0],.tup #v[¬0,¬1]],.lst #v[.tup #v[¬0,¬1],.tup #v[¬0,¬2]]]]),.set 1 (.lst #v[.lst #v[.tup #v[¬0,¬0],.tup #v[¬0,¬0],.tup #v[¬0,¬1]],.lst #v[.tup #v[¬0,¬1],.tup #v[¬0,¬2]]]),.app 0 (.tup #v[.tup #v[.cst (.str "000")],.lst #v[.tup #v[¬0,¬0],.tup #v[¬0,¬1]],.lst #v[.tup #v[¬0,¬1],.tup #v[¬0,¬2]],!1]),.cX 0,.ret (!0)],none⟩
noncomputable def bt:Def:=⟨["_law_script","_law_at_here","_law_spots_here","_law_plan","_law_k","_law_way","_law_place","_law_spot","_law_some_here","_law_new"],4,#v[.set 4 (.call "_law_pick" #v[!0,!1,.blt .len #v[!3]]),.set 5 (.EJ (.sub (!3) (!4)) (.lst #v[.sub (!2) (¬0)])),.set 6 (.call "_law_pick" #v[!0,.bin .add (!1) (¬1),.blt .len #v[!5]]),.set 7 (.sub (!2) (.call "_law_pick" #v[!0,.bin .add (!1) (¬2),.blt .len #v[!2]])),.own 8 (.lst #v[.bin .add (.bin .add (.slice (!5) .no (.some (!6))) (.lst #v[!7])) (.slice (!5) (.some (!6)) .no),.bin .add (.slice (!5) .no (.some (!6))) (.slice (!5) (.some (.bin .add (!6) (¬1))) .no),.bin .add (.bin .add (.slice (!5) .no (.some (!6))) (.lst #v[!7])) (.slice (!5) (.some (.bin .add (!6) (¬1))) .no)]),.jj 8 (.lst #v[.bin .add (.bin .add (.slice (!5) .no (.some (!6))) (.slice (!5) (.some (!6)) (.some (.bin .add (!6) (¬1))))) (.slice (!5) (.some (!6)) .no),.cst .aC,.bin .add (!5) (.slice (!5) (.some (.neg (¬1))) .no),.sub (!3) (¬0),.blt .tuple #v[!5]]),.jj 8 (.lst #v[.lst .nil,.rev (!5)]),.jj 8 (.lst #v[.comp 1 [] (.one 0) (.seq (!5)) (.blt .list #v[!0]),.cst (.str "way")]),.set 9 (.bin .add (.bin .add (.slice (!3) .no (.some (!4))) (.lst #v[.sub (.hV 8) (.call "_law_pick" #v[!0,.bin .add (!1) (¬3),¬12])])) (.slice (!3) (.some (.bin .add (!4) (¬1))) .no)),.ret (.sub (.lst #v[!9,!9,!9,!9,.blt .tuple #v[!3],.slice (!3) (.some (¬1)) .no,.bin .add (!3) (.lst #v[.cst .aC]),.cst .aC]) (.call "_law_pick" #v[!0,.bin .add (!1) (¬4),¬8]))],none⟩
noncomputable def aS:Def:=⟨["moves","moved"],1,#v[.set 1 (.blt .dict #v[!0]),.ite (.cmp .lt (.blt .len #v[!1]) (.blt .len #v[!0])) #v[.ret (.cst (.bl false))] .nil,.ret (.not (.blt .any #v[.comp 2 [1] (.two 0 1) (.seq (!0)) (.and (.cmp .ne (!0) (!1)) (.cmp .eq (.get (!2) (!1)) (!0)))]))],none⟩
def cK:Def:=⟨["ways"],1,#v[.ret (.blt .all #v[.comp 1 [0] (.one 0) (.mG (.bin .add (.call "still_from" #v[!0]) (¬1))) (.call "are_moves_apart" #v[.call "moves_at" #v[!1,!0]])])],none⟩
noncomputable def au:Def:=⟨["floor","thing"],2,#v[.ite (.or (.not (.ty .list (!1))) (.cmp .eq (.blt .len #v[!1]) (¬0))) #v[.ret (.cst (.bl false))] .nil,.ret (.blt .all #v[.comp 1 [0] (.one 0) (.seq (!1)) (.call "is_open" #v[!1,!0])])],none⟩
def aU:Def:=⟨["floor","walker","one","other"],4,#v[.ret (.or (.cmp .eq (!2) (!3)) (.cmp .oY (.call "step_cost" #v[!0,!1,!2,!3]) (.cst .aC)))],none⟩
noncomputable def bb:Def:=⟨["floor","walker","thing"],3,#v[.ite (.not (.call "is_list_of_open_spots" #v[!0,!2])) #v[.ret (.cst (.bl false))] .nil,.ret (.blt .all #v[.comp 2 [1,0] (.two 0 1) (.zip #v[!2,.slice (!2) (.some (¬1)) .no]) (.call "is_step_or_wait" #v[!3,!2,!0,!1])])],none⟩
noncomputable def aN:Def:=⟨["floor","walker","start","goal","thing"],5,#v[.ite (.cmp .is (!4) (.cst .aC)) #v[.ret (.cst (.bl true))] .nil,.ret (.and (.call "is_way_in_time" #v[!0,!1,!4]) (.and (.cmp .eq (.sub (!4) (¬0)) (!2)) (.cmp .eq (.sub (!4) (.neg (¬1))) (!3))))],none⟩
noncomputable def cy:Def:=⟨["floor","walker","starts","goals","thing"],5,#v[.ite (.or (.not (.ty .list (!4))) (.cmp .ne (.blt .len #v[!4]) (.blt .len #v[!2]))) #v[.ret (.cst (.bl false))] .nil,.ite (.not (.blt .all #v[.comp 3 [1,0] (.three 0 1 2) (.zip #v[!2,!3,!4]) (.call "fulfils_plan" #v[!4,!3,!0,!1,!2])])) #v[.ret (.cst (.bl false))] .nil,.ret (.call "keep_apart" #v[.cN 1 [] (.one 0) (.seq (!4)) (.cmp .oY (!0) (.cst .aC)) (!0)])],none⟩
noncomputable def bJ:Def:=⟨["_law_floor_here","_law_walker_here","_law_spot","_law_goal","_law_rise","_law_cost_here"],4,#v[.set 4 (.bin .sub (.blt .int #v[.sub (.sub (!0) (.sub (!3) (¬0))) (.sub (!3) (¬1))]) (.blt .int #v[.sub (.sub (!0) (.sub (!2) (¬0))) (.sub (!2) (¬1))])),.set 5 (¬2),.ite (.or (.cmp .gt (!4) (.sub (!1) (¬1))) (.cmp .gt (.bin .sub (¬0) (!4)) (.sub (!1) (¬1)))) #v[.ret (.cst .aC)] .nil,.ite (.and (.cmp .ne (.sub (!2) (¬0)) (.sub (!3) (¬0))) (.cmp .ne (.sub (!2) (¬1)) (.sub (!3) (¬1)))) #v[.ite (.or (.not (.sub (!1) (¬0))) (.or (.cmp .eq (.sub (.sub (!0) (.sub (!2) (¬0))) (.sub (!3) (¬1))) (.cst (.str "#"))) (.cmp .eq (.sub (.sub (!0) (.sub (!3) (¬0))) (.sub (!2) (¬1))) (.cst (.str "#"))))) #v[.ret (.cst .aC)] .nil,.set 5 (¬3)] .nil,.ret (.bin .add (!5) (.ite (.cmp .gt (!4) (¬0)) (.bin .mul (.sub (!1) (¬2)) (!4)) (¬0)))],none⟩
noncomputable def bq:Def:=⟨["_law_floor_here","_law_walker_here","_law_spot","_law_made","_law_k","_law_row","_law_column","_law_cost_here"],3,#v[.own 3 (.lst .nil),.bX (.one 4) (.mG (¬9)) #v[.set 5 (.bin .add (.bin .sub (.sub (!2) (¬0)) (¬1)) (.bin .fdiv (!4) (¬3))),.set 6 (.bin .add (.bin .sub (.sub (!2) (¬1)) (¬1)) (.bin .mod (!4) (¬3))),.ite (.and (.ch .le .lt (¬0) (!5) (.blt .len #v[!0])) (.and (.ch .le .lt (¬0) (!6) (.blt .len #v[.sub (!0) (¬0)])) (.and (.cmp .ne (!4) (¬4)) (.cmp .ne (.sub (.sub (!0) (!5)) (!6)) (.cst (.str "#")))))) #v[.set 7 (.call "_law_cost" #v[!0,!1,!2,.tup #v[!5,!6]]),.ite (.cmp .oY (!7) (.cst .aC)) #v[.app 3 (.tup #v[.tup #v[!5,!6],!7])] .nil] .nil],.cX 3,.ret (!3)],none⟩
def dr:Def:=⟨["_law_way","_law_time"],2,#v[.ret (.ite (.cmp .lt (!1) (.blt .len #v[!0])) (.sub (!0) (!1)) (.sub (!0) (.neg (¬1))))],none⟩
noncomputable def b7:Def:=⟨["_law_floor_here","_law_walker_here","_law_ways","_law_start","_law_goal","_law_way","_law_spots_here","_law_k","_law_there","_law_steps_here","_law_other","_law_time"],6,#v[.set 6 (.call "_law_spots" #v[!0]),.ite (.or (.not (.ty .list (!5))) (.or (.cmp .eq (!5) (.lst .nil)) (.cmp .ne (.cN 1 [6] (.one 0) (.seq (!5)) (.cmp .rP (!0) (!1)) (!0)) (.lst .nil)))) #v[.ret (.cst (.bl false))] .nil,.ite (.or (.cmp .ne (.sub (!5) (¬0)) (!3)) (.cmp .ne (.sub (!5) (.neg (¬1))) (!4))) #v[.ret (.cst (.bl false))] .nil,.bX (.two 7 8) (.enum (.slice (!5) (.some (¬1)) .no)) #v[.set 9 (.comp 1 [] (.one 0) (.seq (.call "_law_steps" #v[!0,!1,.sub (!5) (!7)])) (.sub (!0) (¬0))),.ite (.and (.cmp .ne (!8) (.sub (!5) (!7))) (.cmp .rP (!8) (!9))) #v[.ret (.cst (.bl false))] .nil],.bX (.one 10) (.seq (!2)) #v[.bX (.one 11) (.mG (.bin .add (.blt .max2 #v[.blt .len #v[!5],.blt .len #v[!10]]) (¬1))) #v[.ite (.cmp .eq (.call "_law_at" #v[!5,!11]) (.call "_law_at" #v[!10,!11])) #v[.ret (.cst (.bl false))] .nil,.ite (.and (.cmp .eq (.call "_law_at" #v[!5,.bin .add (!11) (¬1)]) (.call "_law_at" #v[!10,!11])) (.cmp .eq (.call "_law_at" #v[!10,.bin .add (!11) (¬1)]) (.call "_law_at" #v[!5,!11]))) #v[.ret (.cst (.bl false))] .nil]],.ret (.cst (.bl true))],none⟩
noncomputable def bQ:Def:=⟨["_law_floor_here","_law_walker_here","_law_starts","_law_goals","_law_thing","_law_ways","_law_start","_law_goal","_law_way"],5,#v[.ite (.or (.not (.ty .list (!4))) (.cmp .ne (.blt .len #v[!4]) (.blt .len #v[!2]))) #v[.ret (.cst (.bl false))] .nil,.own 5 (.lst .nil),.bX (.three 6 7 8) (.zip #v[!2,!3,!4]) #v[.ite (.cmp .oY (!8) (.cst .aC)) #v[.ite (.not (.mS "_law_fits" #v[!0,!1,.hV 5,!6,!7,!8])) #v[.ret (.cst (.bl false))] .nil,.app 5 (!8)] .nil],.ret (.cst (.bl true))],none⟩
noncomputable def ja:Def:=⟨["_law_script","_law_floor_here","_law_walker_here","_law_spots_here","_law_many","_law_starts","_law_goals","_law_plan","_law_row","_law_begun","_law_ends","_law_ways","_law_thing"],1,#v[.set 1 (.call "_law_floor" #v[!0,¬0,¬4]),.set 2 (.call "_law_walker" #v[!0,¬30]),.set 3 (.call "_law_spots" #v[!1]),.set 4 (.bin .add (¬1) (.call "_law_pick" #v[!0,¬34,¬3])),.set 5 (.call "_law_some" #v[!0,¬35,!3,!4]),.set 6 (.call "_law_some" #v[!0,¬40,!3,!4]),.ite (.cmp .eq (!3) (.lst .nil)) #v[.ret (.cmp .is (.call "is_plan" #v[!1,!2,.lst .nil,.lst .nil,.lst .nil]) (.cst (.bl true)))] .nil,.set 7 (.call "crowd" #v[!1,!2,!5,!6]),.ite (.cmp .oY (.call "is_plan" #v[!1,!2,!5,!6,!7]) (.cst (.bl true))) #v[.ret (.cst (.bl false))] .nil,.bX (.four 8 9 10 11) (.seq (.call "_law_meetings" .nil)) #v[.ite (.cmp .ne (.call "is_plan" #v[!8,!2,!9,!10,!11]) (.call "_law_due" #v[!8,!2,!9,!10,!11])) #v[.ret (.cst (.bl false))] .nil],.set 12 (.call "_law_spoilt" #v[!0,¬50,!3,.blt .list #v[!7]]),.ret (.cmp .eq (.call "is_plan" #v[!1,!2,!5,!6,!12]) (.call "_law_due" #v[!1,!2,!5,!6,!12]))],none⟩
def T0:List (Str×Def):=[]
noncomputable def T1:List (Str×Def):=(("_law_cell":Str),cU)::T0
noncomputable def T2:List (Str×Def):=(("_law_pick":Str),bh)::T1
noncomputable def T3:List (Str×Def):=(("_law_floor":Str),b9)::T2
noncomputable def T4:List (Str×Def):=(("_law_walker":Str),cq)::T3
noncomputable def T5:List (Str×Def):=(("_law_spots":Str),bK)::T4
noncomputable def T6:List (Str×Def):=(("_law_some":Str),bZ)::T5
noncomputable def T7:List (Str×Def):=(("open_spots":Str),cH)::T6
noncomputable def T8:List (Str×Def):=(("is_whole":Str),dU)::T7
noncomputable def T9:List (Str×Def):=(("is_spot":Str),cT)::T8
noncomputable def DN:List (Str×Def):=(("is_on_floor":Str),cw)::T9
noncomputable def Jy:List (Str×Def):=(("is_open":Str),bw)::DN
noncomputable def NB:List (Str×Def):=(("need_open":Str),bM)::Jy
noncomputable def Q5:List (Str×Def):=(("open_spots_beside":Str),aV)::NB
noncomputable def Pt:List (Str×Def):=(("are_beside":Str),cJ)::Q5
noncomputable def Nm:List (Str×Def):=(("height_at":Str),cR)::Pt
noncomputable def E9:List (Str×Def):=(("has_open_corners":Str),ba)::Nm
noncomputable def JC:List (Str×Def):=(("step_cost":Str),bg)::E9
noncomputable def Jl:List (Str×Def):=(("steps_from":Str),cI)::JC
noncomputable def Rm:List (Str×Def):=(("steps_over":Str),cD)::Jl
noncomputable def M8:List (Str×Def):=(("left_from":Str),cS)::Rm
noncomputable def Qn:List (Str×Def):=(("still_from":Str),br)::M8
noncomputable def Rw:List (Str×Def):=(("traced_back":Str),cx)::Qn
noncomputable def RG:List (Str×Def):=(("reached_next":Str),bU)::Rw
noncomputable def JI:List (Str×Def):=(("spot_at":Str),dM)::RG
noncomputable def El:List (Str×Def):=(("moves_at":Str),cB)::JI
noncomputable def Jt:List (Str×Def):=(("earliest_way":Str),bz)::El
noncomputable def RF:List (Str×Def):=(("crowd":Str),f7)::Jt
noncomputable def NU:List (Str×Def):=(("_law_meetings":Str),bH)::RF
noncomputable def Qd:List (Str×Def):=(("_law_spoilt":Str),bt)::NU
noncomputable def Jg:List (Str×Def):=(("are_moves_apart":Str),aS)::Qd
noncomputable def NY:List (Str×Def):=(("keep_apart":Str),cK)::Jg
noncomputable def PM:List (Str×Def):=(("is_list_of_open_spots":Str),au)::NY
noncomputable def LP:List (Str×Def):=(("is_step_or_wait":Str),aU)::PM
noncomputable def Mo:List (Str×Def):=(("is_way_in_time":Str),bb)::LP
noncomputable def L0:List (Str×Def):=(("fulfils_plan":Str),aN)::Mo
noncomputable def RO:List (Str×Def):=(("is_plan":Str),cy)::L0
noncomputable def Ms:List (Str×Def):=(("_law_cost":Str),bJ)::RO
noncomputable def Qv:List (Str×Def):=(("_law_steps":Str),bq)::Ms
noncomputable def Jj:List (Str×Def):=(("_law_at":Str),dr)::Qv
noncomputable def MU:List (Str×Def):=(("_law_fits":Str),b7)::Jj
noncomputable def zr:List (Str×Def):=(("_law_due":Str),bQ)::MU
def Ly:den T1 "_law_cell"=aq (den T0) cU:=dk 0
def J8:den T2 "_law_pick"=aq (den T1) bh:=dk 0
def KS:den T3 "_law_pick"=aq (den T1) bh:=dk 1
def KW:den T5 "_law_pick"=aq (den T1) bh:=dk 3
def L9:den T8 "is_whole"=aq (den T7) dU:=dk 0
def yn:den DN "is_spot"=aq (den T8) cT:=dk 1
def BX:den DN "is_on_floor"=aq (den T9) cw:=dk 0
def BD:den Jy "is_open"=aq (den DN) bw:=dk 0
def DT:den NB "is_open"=aq (den DN) bw:=dk 1
def BL:den Pt "need_open"=aq (den Jy) bM:=dk 2
def B4:den Nm "is_open"=aq (den DN) bw:=dk 4
def DH:den E9 "are_beside"=aq (den Q5) cJ:=dk 2
def DM:den E9 "has_open_corners"=aq (den Nm) ba:=dk 0
def C8:den E9 "height_at"=aq (den Pt) cR:=dk 1
def C5:den JC "need_open"=aq (den Jy) bM:=dk 5
def DC:den JC "open_spots_beside"=aq (den NB) aV:=dk 4
def Cd:den JC "step_cost"=aq (den E9) bg:=dk 0
def Hf:den Jl "open_spots"=aq (den T6) cH:=dk 11
def Dt:den Jl "steps_from"=aq (den JC) cI:=dk 0
def By:den JI "spot_at"=aq (den RG) dM:=dk 0
def A9:den El "left_from"=aq (den Rm) cS:=dk 5
def Dp:den El "still_from"=aq (den M8) br:=dk 4
def DD:den El "reached_next"=aq (den Rw) bU:=dk 2
def CH:den El "moves_at"=aq (den JI) cB:=dk 0
def BS:den El "traced_back"=aq (den Qn) cx:=dk 3
def Eb:den Jt "need_open"=aq (den Jy) bM:=dk 14
def DF:den Jt "steps_over"=aq (den Jl) cD:=dk 7
def Ct:den Jt "earliest_way"=aq (den El) bz:=dk 0
def GP:den NU "_law_pick"=aq (den T1) bh:=dk 26
def C3:den Jg "still_from"=aq (den M8) br:=dk 9
def Dy:den Jg "are_moves_apart"=aq (den Qd) aS:=dk 0
def Cm:den Jg "moves_at"=aq (den JI) cB:=dk 5
def uv:den NY "is_open"=aq (den DN) bw:=dk 20
def DB:den PM "step_cost"=aq (den E9) bg:=dk 15
def BH:den LP "is_list_of_open_spots"=aq (den NY) au:=dk 1
def Bl:den LP "is_step_or_wait"=aq (den PM) aU:=dk 0
def DS:den Mo "is_way_in_time"=aq (den LP) bb:=dk 0
def DV:den L0 "fulfils_plan"=aq (den Mo) aN:=dk 0
def Br:den L0 "keep_apart"=aq (den Jg) cK:=dk 4
def CJ:den Ms "_law_cost"=aq (den RO) bJ:=dk 0
def Gm:den Jj "_law_spots"=aq (den T4) bK:=dk 34
def DK:den Jj "_law_steps"=aq (den Ms) bq:=dk 1
def DE:den Jj "_law_at"=aq (den Qv) dr:=dk 0
def Ca:den MU "_law_fits"=aq (den Jj) b7:=dk 0
def Iq:den zr "_law_floor"=aq (den T2) b9:=dk 38
def Ii:den zr "_law_walker"=aq (den T3) cq:=dk 37
def HP:den zr "_law_spots"=aq (den T4) bK:=dk 36
def GD:den zr "_law_pick"=aq (den T1) bh:=dk 39
def F5:den zr "_law_some"=aq (den T5) bZ:=dk 35
def uA:den zr "is_plan"=aq (den L0) cy:=dk 5
def DO:den zr "crowd"=aq (den Jt) f7:=dk 14
def Di:den zr "_law_meetings"=aq (den RF) bH:=dk 13
def uV:den zr "_law_due"=aq (den MU) bQ:=dk 0
def CM:den zr "_law_spoilt"=aq (den NU) bt:=dk 12
end K61
namespace L2
open PySem PySem.Spec PyProof.Rows PySem.W
abbrev gp(p:Array Nat)(i:Nat):Nat:=p.getD i 0
end L2
namespace K61
open PySem L2 Ci KJ
abbrev sp(r c:Int):PV:=.tup [.int r,.int c]
abbrev eA(ns:List Int):PV:=.lst (ns.map .int)
theorem aI{i:Int}:bC .abs [.int i]=.ok (.int (if i<0 then -i else i)):=rfl
theorem mX{i j:Int}:bC .max2 [.int i,.int j]=.ok (.int (if j>i then j else i)):=rfl
theorem Qy:dg .gt=rV:=rfl
theorem Rg{i j:Int}:rV (.int i) (.int j)=.ok (.bl (decide (j<i))):=rfl
theorem KU:dg .oY=di:=rfl
abbrev wk(sl:Bool)(cl pr:Int):PV:=.tup [.bl sl,.int cl,.int pr]
theorem Kx{r c:Int}:aJ (sp r c) (.int 0)=.ok (.int r):=rfl
theorem JP{r c:Int}:aJ (sp r c) (.int 1)=.ok (.int c):=rfl
theorem QY{sl:Bool}{cl pr:Int}:aJ (wk sl cl pr) (.int 0)=.ok (.bl sl):=rfl
theorem QJ{sl:Bool}{cl pr:Int}:aJ (wk sl cl pr) (.int 1)=.ok (.int cl):=rfl
theorem RM{sl:Bool}{cl pr:Int}:aJ (wk sl cl pr) (.int 2)=.ok (.int pr):=rfl
theorem nI{i j:Int}:fb (.int i) (.int j)=.ok (.bl (!(i==j))):=rfl
theorem eI{i j:Int}:d6 (.int i) (.int j)=.ok (.bl (i==j)):=rfl
theorem nS{r c r' c':Int}:fb (sp r c) (sp r' c')=.ok (.bl (!((r==r')&&((c==c')&&true)))):=rfl
theorem eS{r c r' c':Int}:d6 (sp r c) (sp r' c')=.ok (.bl ((r==r')&&((c==c')&&true))):=rfl
theorem Qa:dg .is=mz:=rfl
theorem Kh{α β:Type}{c:Str}{f:α->Res β}:(Res.exc c:Res α).bind f=.exc c:=rfl
noncomputable def J2:=And.intro @Kx (And.intro @JP (And.intro @QY (And.intro @QJ (And.intro @RM (And.intro @aI (And.intro @mX (And.intro @Qy (And.intro @Rg (And.intro @nI (And.intro @eI (And.intro @nS (And.intro @eS (And.intro @KU (And.intro @Qa (And.intro @Kh (And.intro @Oi (And.intro @ML (@Mx))))))))))))))))))
set_option hygiene false
local macro_rules | `(tactic| simp! only [$x,*] $[$l:location]?) => `(tactic| simp only [aq, bP, bO, aD, fB, aB, bp, lh, oq, fc, eU, gW, List.replicate, Nat.reduceAdd, Nat.reduceSub, reduceIte, ite_true, ite_false, BEq.rfl, beq_self_eq_true, iQ, A5, Et, Py, Ri, Sa, sv, RP, QX, JH, EA, Eh, Ai, Ma, Kt, KI, KZ, RH, Rq, QR, Sb, Qf, Mq, Lc, oLt, oLe, Sd, lL, lT, lS, tL, aL, RL, Q1, xf, jA, jB, jC, jD, jE, jF, jG, jH, jI, jJ, jK, jL, jM, jN, jO, jP, KJ.hZ, Sg, ML, Oi, Mx, Sm, jQ, jR, Kx, JP, QY, QJ, RM, aI, mX, Qy, Rg, nI, eI, nS, eS, KU, Qa, Kh, $x,*] $[$l]?)
local macro_rules | `(tactic| dsimp! only [$x,*] $[$l:location]?) => `(tactic| simp only [aq, bP, bO, aD, fB, aB, bp, lh, oq, fc, eU, gW, List.replicate, Nat.reduceAdd, Nat.reduceSub, reduceIte, ite_true, ite_false, BEq.rfl, beq_self_eq_true, J, J2, $x,*] $[$l]?)
set_option hygiene true
theorem oB(F:aH)(i:Int):aq F dU [.int i]=.ok (.bl true):=by rfl
def iX{α:Type}{xs:List α}{k:Nat}(h:k<xs.length):qc xs (k:Int)=some xs[k]:=by
 unfold qc Io;have:((k:Nat):Int)<(xs.length:Int):=by omega
 simp [this,h]
def uS{ns:List Int}{k:Int}(h0:0<=k)(h:k<ns.length):∃m,qc (ns.map PV.int) k=some (.int m):=by
 obtain⟨j,rfl⟩:=zzw h0
 refine⟨ns[j]'(by omega),?_⟩;rw [iX (k:=j) (by simp;omega)];simp
def zC(ns:List Int)(n:Nat):Ci.plain (n+1) (.lst (ns.map .int))=true:=by
 simp! [Ci.plain,zzT,zzx]
 rintro x ⟨i,_,rfl⟩
 cases n<;>rfl
def eq_nil(ns:List Int):d6 (eA ns) (.lst [])=.ok (.bl (decide (ns=[]))):=by
 have e:xg (eA ns)=true:=zC ns 8
 unfold d6;rw [e];cases ns<;>rfl
def CD(F:aH)(ns:List Int)(k:Int)(hk:0<=k):∃m,aq F cU [eA ns,.int k]=.ok (.int m):=by
 simp! only [cU,zzl,eq_nil]
 by_cases h:k<(ns.length:Int)
 ·obtain⟨m,e⟩:=uS hk h
  refine⟨m,?_⟩;simp! only [h,decide_true,aJ,e]
 ·simp! only [h,decide_false,eq_nil];cases ns with
  |nil=>exact⟨0,rfl⟩
  |cons n ns=>
   have hl:(0:Int)<((n::ns).length:Int):=by simp! [zzL];omega
   obtain⟨m,e⟩:=uS (ns:=n::ns) (k:=k%((n::ns).length:Int)) (Int.emod_nonneg _ (by omega)) (Int.emod_lt_of_pos _ hl)
   refine⟨m*31+k,?_⟩;have e3:(aO m||aO 31)=true:=by rw [zzt];exact .inr (by decide)
   have e4:aJ (eA (n::ns)) (.int (k%((n::ns).length:Int)))=.ok (.int m):=by simp! [aJ,e];rfl
   have e5:decide ((n::ns)=[])=false:=rfl
   simp! [zzL] at hl e4;simp! only [e5,zzl,hl,e4,e3]
def Cj(F:aH)(hc:∀ns k,0<=k->∃m,F "_law_cell" [eA ns,.int k]=.ok (.int m))(ns:List Int)(k q:Int)(hk:0<=k)(hq:0<q):∃m,aq F bh [eA ns,.int k,.int q]=.ok (.int m)/\0<=m/\m<q:=by
 obtain⟨m,e⟩:=hc ns k hk
 have s1:(aO 6151||aO (k+1))=true:=by rw [zzt];exact .inl (by decide)
 have s2:(aO (m+6151*(k+1))||aO 40692)=true:=by rw [zzt];exact .inr (by decide)
 have s3:(0:Int)<2147483399:=by decide
 have s4:(0:Int)<2147483629:=by decide
 have s5:(0:Int)<31/\(31:Int)<1073741824:=by decide
 have a0:=Int.emod_nonneg ((m+6151*(k+1))*40692) (b:=2147483399) (by decide)
 have a1:=Int.emod_lt_of_pos ((m+6151*(k+1))*40692) s3
 refine⟨((((m+6151*(k+1))*40692%2147483399)*((m+6151*(k+1))*40692%2147483399)+((m+6151*(k+1))*40692%2147483399)/31)%2147483629)%q,?_,Int.emod_nonneg _ (by omega),Int.emod_lt_of_pos _ hq⟩;generalize hd:(m+6151*(k+1))*40692%2147483399=d at a0 a1
 have s6:(aO d||aO d)=true:=by
  have:aO d=true:=by simp! [aO,zza,zzN];omega
  rw [this];rfl
 simp! only [bh,eA] at e⊢;simp! only [e,s1,s2,s3,s4,s5,hd,s6,hq,and_self]
def qb(ae:List Str):Prop:=ae.length<=6/\∀z∈ae,z.length<=6
abbrev fl(ae:List Str):PV:=.tup (ae.map .str)
def cd(ae:List Str)(r c:Nat):Option Nat:=(ae[r]?).bind λz=>z.cps.toList[c]?
def wH(ae:List Str)(r c:Nat):Bool:=match cd ae r c with|some x=>x !=35|none=>false
def bY(ae:List Str)(r c:Int):Bool:=decide (0<=r)&&decide (0<=c)&&wH ae r.toNat c.toNat
def sP(F:aH)(h:∀i,F "is_whole" [.int i]=.ok (.bl true))(r c:Int):aq F cT [sp r c]=.ok (.bl true):=by
 have e0:aJ (sp r c) (.int 0)=.ok (.int r):=rfl
 have e1:aJ (sp r c) (.int 1)=.ok (.int c):=rfl
 have e2:d6 (.int ((2:Nat):Int)) (.int 2)=.ok (.bl true):=rfl
 simp! only [cT,sj,h,e0,e1,e2]
def J7(F:aH)(ae:List Str)(R:qb ae)(r c:Int):aq F cw [fl ae,sp r c]=.ok (.bl (decide (0<=r)&&decide (0<=c)&&(cd ae r.toNat c.toNat).isSome)):=by
 have e0:aJ (sp r c) (.int 0)=.ok (.int r):=rfl
 have e1:aJ (sp r c) (.int 1)=.ok (.int c):=rfl
 simp! only [cw,sj,e0,e1,ql,rE,zzl]
 by_cases h0:0<=r
 ·by_cases h1:r<(ae.length:Int)
  ·obtain⟨j,rfl⟩:=zzw h0
   have hj:j<ae.length:=by omega
   have e2:aJ (fl ae) (.int (j:Int))=.ok (.str ae[j]):=by
    simp! [aJ,fl];rw [iX (k:=j) (by simpa using hj)];simp [Res.of]
   have e3:(ae[j]).length<=cL:=zzU (R.2 _ (List.getElem_mem hj)) (by decide)
   have e4:(ae[j]).cps.size=(ae[j]).length:=rfl
   simp! only [h0,h1,decide_true,e2,e3]
   by_cases h2:0<=c
   ·obtain⟨i,rfl⟩:=zzw h2
    simp! only [h2,decide_true,cd,zz4,zzg hj,Option.bind_some,Bool.and_self,Bool.true_and,Res.ok.injEq,PV.bl.injEq];rw [Bool.eq_iff_iff];simp [e4]
   ·simp [aq,bP,bO,aD,fB,aB,bp,lh,oq,fc,eU,gW,List.replicate,Nat.reduceAdd,Nat.reduceSub,reduceIte,ite_true,ite_false,BEq.rfl,beq_self_eq_true,J,h2]
  ·have:cd ae r.toNat c.toNat=none:=by
    unfold cd;rw [List.getElem?_eq_none (by omega)];rfl
   simp [aq,bP,bO,aD,fB,aB,bp,lh,oq,fc,eU,gW,List.replicate,Nat.reduceAdd,Nat.reduceSub,reduceIte,ite_true,ite_false,BEq.rfl,beq_self_eq_true,J,h0,h1,this]
 ·simp [aq,bP,bO,aD,fB,aB,bp,lh,oq,fc,eU,gW,List.replicate,Nat.reduceAdd,Nat.reduceSub,reduceIte,ite_true,ite_false,BEq.rfl,beq_self_eq_true,J,h0]
def yd{ae:List Str}{j:Nat}{z:Str}(h:ae[j]?=some z):aJ (fl ae) (.int (j:Int))=.ok (.str z):=by
 obtain⟨hj,rfl⟩:=zzH.1 h
 simp! [aJ,fl];rw [iX (k:=j) (by simpa using hj)];simp [Res.of]
def Ef{z:Str}{i x:Nat}(hz:z.length<=cL)(h:z.cps.toList[i]?=some x):aJ (.str z) (.int (i:Int))=.ok (.str ⟨#[x]⟩):=by
 obtain⟨hj,rfl⟩:=zzH.1 h
 simp! [aJ,hz,if_true];rw [iX (k:=i) hj]
 rfl
def Ah{ae:List Str}(R:qb ae){j i x:Nat}(h:cd ae j i=some x):∃z,ae[j]?=some z/\aJ (fl ae) (.int (j:Int))=.ok (.str z)/\aJ (.str z) (.int (i:Int))=.ok (.str ⟨#[x]⟩):=by
 unfold cd at h;cases hz:ae[j]? with
 |none=>rw [hz] at h;cases h
 |some z=>
  rw [hz] at h;exact⟨z,rfl,yd hz,Ef (zzU (R.2 _ (zzD hz)) (by decide)) h⟩
def tY(x:Nat):fb (.str ⟨#[x]⟩) (.str "#")=.ok (.bl (x !=35)):=by
 have:(("#":Str))=⟨#[35]⟩:=by decide+kernel
 rw [this];show Res.ok (PV.bl (!((⟨#[x]⟩:Str)==⟨#[35]⟩)))=_
 congr 2
 rw [bne,Bool.eq_iff_iff];simp
def CP(F:aH)(hs:∀r c,F "is_spot" [sp r c]=.ok (.bl true))(ho:∀ae,qb ae->∀r c,F "is_on_floor" [fl ae,sp r c]=.ok (.bl (decide (0<=r)&&decide (0<=c)&&(cd ae r.toNat c.toNat).isSome)))
 (ae:List Str) (R:qb ae) (r c:Int):aq F bw [fl ae,sp r c]=.ok (.bl (bY ae r c)):=by
 have e0:aJ (sp r c) (.int 0)=.ok (.int r):=rfl
 have e1:aJ (sp r c) (.int 1)=.ok (.int c):=rfl
 simp! only [bw,hs,ho ae R,e0,e1];unfold bY wH
 by_cases h0:0<=r
 ·by_cases h1:0<=c
  ·obtain⟨j,rfl⟩:=zzw h0
   obtain⟨i,rfl⟩:=zzw h1
   simp! [h0,h1,decide_true,Bool.true_and,Bool.and_self,zz4];cases hc:cd ae j i with
   |none=>simp [aq,bP,bO,aD,fB,aB,bp,lh,oq,fc,eU,gW,List.replicate,Nat.reduceAdd,Nat.reduceSub,reduceIte,ite_true,ite_false,BEq.rfl,beq_self_eq_true,J]
   |some x=>
    obtain⟨z,_,e2,e3⟩:=Ah R hc
    simp! only [Option.isSome_some,e2,e3,tY]
  ·simp [aq,bP,bO,aD,fB,aB,bp,lh,oq,fc,eU,gW,List.replicate,Nat.reduceAdd,Nat.reduceSub,reduceIte,ite_true,ite_false,BEq.rfl,beq_self_eq_true,J,h1]
 ·simp [aq,bP,bO,aD,fB,aB,bp,lh,oq,fc,eU,gW,List.replicate,Nat.reduceAdd,Nat.reduceSub,reduceIte,ite_true,ite_false,BEq.rfl,beq_self_eq_true,J,h0]
def oC(F:aH)(ho:∀ae,qb ae->∀r c,F "is_open" [fl ae,sp r c]=.ok (.bl (bY ae r c)))(ae:List Str)(R:qb ae)(r c:Int)(h:bY ae r c=true):aq F bM [fl ae,sp r c]=.ok .aC:=by
 simp! only [bM,ho ae R,h]
abbrev Ei(p:Int×Int):PV:=sp p.1 p.2
theorem aZ{α:Type}{f:PV->Res (Option PV)}{p:α->PV}{g:α->PV}:∀{xs:List α},(∀x∈xs,f (p x)=.ok (some (g x)))->aE f (xs.map p)=.ok (xs.map g)
 |[],_=>rfl
 |x::xs,h=>by
  simp! [zzF,aE,h x (zzP ..),Res.well,Res.bind,aZ (xs:=xs) λy hy=>h y (zzI _ hy),oc]
def iz{ae:List Str}{r c:Int}:bY ae r c=true↔0<=r/\0<=c/\wH ae r.toNat c.toNat=true:=by
 simp! [bY,zza,zzN,and_assoc]
theorem cu{body:PV->Sl->Res Fl}{P:Nat->Sl->Prop}:∀(xs:List PV) (k:Nat) (env:Sl),P k env->(∀i x env,xs[i]?=some x->P (k+i) env->∃ag,body x env=.ok (.nx ag)/\P (k+i+1) ag)->∃ag,forL body xs env=.ok (.nx ag)/\P (k+xs.length) ag
 |[],k,env,h,_=>⟨env,rfl,h⟩
 |x::xs,k,env,h,g=>by
  obtain⟨e1,b1,p1⟩:=g 0 x env rfl h
  obtain⟨e2,b2,p2⟩:=cu xs (k+1) e1 p1 λi y env hy hp=>by
   obtain⟨e3,b3,p3⟩:=g (i+1) y env hy (by rw [show k+(i+1)=k+1+i by omega];exact hp)
   exact⟨e3,b3,by rw [show k+1+i+1=k+(i+1)+1 by omega];exact p3⟩
  refine⟨e2,?_,by rw [zzL,show k+(xs.length+1)=k+1+xs.length by omega];exact p2⟩;simp! [forL,b1,iQ,b2]
def xI{n i:Nat}{x:PV}(h:(dN 0 n)[i]?=some x):i<n/\x=.int (i:Int):=by
 simp! [dN,zzQ,zzJ] at h;obtain⟨j,hj,rfl⟩:=h
 obtain⟨h1,h2⟩:=zzH.1 hj
 simp! [List.getElem_range] at h2;subst h2;simp! [List.length_range] at h1;exact⟨h1,by simp⟩
def gY(F:aH):Prop:=∀(ns:List Int) (k q:Int),0<=k->0<q->∃m,F "_law_pick" [eA ns,.int k,.int q]=.ok (.int m)/\0<=m/\m<q
def n4{a b c d m:Int}(h0:0<=m)(h1:m<4):∃v,aJ (.lst [.int a,.int b,.int c,.int d]) (.int m)=.ok (.int v)/\(v=a\/v=b\/v=c\/v=d):=by
 have:m=0\/m=1\/m=2\/m=3:=by omega
 rcases this with rfl|rfl|rfl|rfl
 ·exact⟨a,rfl,.inl rfl⟩
 ·exact⟨b,rfl,.inr (.inl rfl)⟩
 ·exact⟨c,rfl,.inr (.inr (.inl rfl))⟩
 ·exact⟨d,rfl,.inr (.inr (.inr rfl))⟩
noncomputable def EU:Ss:=#v[.set 11 (.call "_law_pick" #v[!0,.bin .add (.bin .add (.bin .add (!1) (¬4)) (.bin .mul (!2) (!8))) (!10),.bin .mul (¬12) (!6)]),.set 9 (.bin .add (!9) (.ite (.cmp .lt (.bin .mod (!11) (¬12)) (!5)) (.cst (.str "#")) (.blt .str #v[.bin .fdiv (!11) (¬12)])))]
noncomputable def IW:Ss:=#v[.set 9 (.cst (.str "")),.bX (.one 10) (.mG (!4)) EU,.app 7 (!9)]
structure Fl(ae:List Str)(w:Nat):Prop where
 vf:qb ae
 ne:0<ae.length
 w1:1<=w
 B5:∀z∈ae,z.length=w
 dig:∀z∈ae,∀x∈z.cps.toList,x=35\/(48<=x/\x<=57)
def Bh{v:Int}(h0:0<=v)(h1:v<10):bC .str [.int v]=.ok (.str ⟨#[48+v.toNat]⟩):=by
 obtain⟨n,rfl⟩:=zzw h0
 have key:∀k:Fin 10,(((k.1:Nat):Int).natAbs.log2<1920)/\((toString ((k.1:Nat):Int)):Str)=⟨#[48+k.1]⟩:=by decide+kernel
 have k:=key ⟨n,Int.ofNat_lt.1 h1⟩
 show(if _ then Res.ok (PV.str _) else _)=_
 rw [if_pos k.1,zz4,k.2]
def C7{x:Nat}(h0:48<=x)(h1:x<=57):bC .int [.str ⟨#[x]⟩]=.ok (.int ((x:Int)-48)):=by
 have key:∀k:Fin 10,PySem.intText? (⟨#[48+k.1]⟩:Str)=some (((48+k.1:Nat):Int)-48):=by decide+kernel
 obtain⟨k,rfl⟩:=Nat.exists_eq_add_of_le h0
 have e:=key ⟨k,Nat.lt_succ_of_le (Nat.le_of_add_le_add_left (a:=48) h1)⟩
 show(if(⟨#[48+k]⟩:Str).length<=640 then(Res.of (PySem.intText? (⟨#[48+k]⟩:Str))).bind λn=>Res.ok (PV.int n) else .bad)=_
 rw [if_pos (show(⟨#[48+k]⟩:Str).length<=640 from(by show 1<=640;decide)),e]
 rfl
def Fo(F:aH)(hp:gY F)(ns:List Int)(q a b sh tp:Int)(Ua:0<=q)(Ra:q<=6)(h1:1<=tp)(h2:tp<=10)(own:PV)(i n:Nat)(hn:n<=6)(sM lY:Ci.Slot):
 ∃(z:Str) (E0 EB:Ci.Slot),z.length=n/\(∀x∈z.cps.toList,x=35\/(48<=x/\x<=57))/\forL (λx env=>((Tg.one 10).put x env).bind λag=>aD F EU ag) (dN 0 n) [.val (eA ns),.val (.int 0),.val (.int q),.val (.int a),.val (.int b),.val (.int sh),.val (.int tp),.own own,.val (.int i),.val (.str ""),sM,lY]=
  .ok (.nx [.val (eA ns),.val (.int 0),.val (.int q),.val (.int a),.val (.int b),.val (.int sh),.val (.int tp),.own own,.val (.int i),.val (.str z),E0,EB]):=by
 obtain⟨ag,e,z,E0,EB,hz,hd,rfl⟩:=cu (body:=λx env=>((Tg.one 10).put x env).bind λag=>aD F EU ag) (P:=λj env=>∃(z:Str) (E0 EB:Ci.Slot),z.length=j/\(∀x∈z.cps.toList,x=35\/(48<=x/\x<=57))/\env=[.val (eA ns),.val (.int 0),.val (.int q),.val (.int a),.val (.int b),.val (.int sh),.val (.int tp),.own own,.val (.int i),.val (.str z),E0,EB]) (dN 0 n) 0 [.val (eA ns),.val (.int 0),.val (.int q),.val (.int a),.val (.int b),.val (.int sh),.val (.int tp),.own own,.val (.int i),.val (.str ""),sM,lY] ⟨_,_,_,by decide+kernel,by decide+kernel,rfl⟩ (by
  intro j x env hx hq;obtain⟨hj,rfl⟩:=xI hx
  obtain⟨z,E0,EB,hz,hd,rfl⟩:=hq
  obtain⟨m,em,m0,m1⟩:=hp ns (0+4+q*(i:Int)+(j:Int)) (12*tp) (by
   have:=Int.mul_nonneg Ua (Int.natCast_nonneg i)
   omega) (by omega)
  have q1:(aO q||aO (i:Int))=true:=by
   have:aO q=true:=by simp! [aO,zza,zzN];omega
   rw [this];rfl
  have q2:(aO 12||aO tp)=true:=by rw [zzt];exact .inl (by decide)
  have q3:(0:Int)<12:=by decide
  have q4:(0:Int)<12/\(12:Int)<1073741824:=by decide
  have ew:=Bh (v:=m/12) (by omega) (by omega)
  have N6:(("#":Str))=⟨#[35]⟩:=by decide+kernel
  by_cases hm:m%12<sh
  ·refine⟨[.val (eA ns),.val (.int 0),.val (.int q),.val (.int a),.val (.int b),.val (.int sh),.val (.int tp),.own own,.val (.int i),.val (.str (z++"#")),.val (.int j),.val (.int m)],?_,_,_,_,?_,?_,rfl⟩
   ·have l:z.length+(("#":Str)).length<=cL:=zzU (show _<=8 by rw [N6];show z.length+1<=8;omega) (by decide)
    simp! only [EU,q1,q2,q3,q4,em,hm,decide_true,l,and_self]
   ·rw [Str.length_append,N6];show z.length+1=_;omega
   ·rw [N6];show∀x∈(z.cps++#[35]).toList,_;intro x hx;simp! [Array.toList_append,List.mem_append,zzi] at hx;rcases hx with hx|hx
    ·exact hd x hx
    ·exact .inl hx
  ·refine⟨[.val (eA ns),.val (.int 0),.val (.int q),.val (.int a),.val (.int b),.val (.int sh),.val (.int tp),.own own,.val (.int i),.val (.str (z++⟨#[48+(m/12).toNat]⟩)),.val (.int j),.val (.int m)],?_,_,_,_,?_,?_,rfl⟩
   ·have l:z.length+(⟨#[48+(m/12).toNat]⟩:Str).length<=cL:=zzU (show z.length+1<=8 by omega) (by decide)
    simp! only [EU,q1,q2,q3,q4,em,hm,decide_false,l,and_self,ew]
   ·rw [Str.length_append];show z.length+1=_;omega
   ·show∀x∈(z.cps++#[48+(m/12).toNat]).toList,_
    intro x hx;simp! [Array.toList_append,List.mem_append,zzi] at hx;rcases hx with hx|hx
    ·exact hd x hx
    ·exact .inr (by omega))
 refine⟨z,E0,EB,?_,hd,e⟩
 simpa [dN] using hz
def vA(F:aH)(hp:gY F)(ns:List Int)(q:Int)(Us:1<=q)(Ra:q<=6):∃ae w,Fl ae w/\aq F b9 [eA ns,.int 0,.int q]=.ok (fl ae):=by
 obtain⟨a,ea,a0,a6⟩:=hp ns 0 q (by decide) (by omega)
 obtain⟨b,eb,b0,b6⟩:=hp ns (0+1) q (by decide) (by omega)
 obtain⟨c,ec,c0,c4⟩:=hp ns (0+2) 4 (by decide) (by decide)
 obtain⟨d,ed,d0,d4⟩:=hp ns (0+3) 4 (by decide) (by decide)
 obtain⟨sh,es,hs⟩:=n4 (a:=0) (b:=2) (c:=4) (d:=6) c0 c4
 obtain⟨tp,et,ht⟩:=n4 (a:=1) (b:=2) (c:=3) (d:=10) d0 d4
 have t1:1<=tp:=by omega
 have t2:tp<=10:=by omega
 have sa:aM (1+a)=true:=by simp! [aM,zza,zzN];omega
 have sb:aM (1+b)=true:=by simp! [aM,zza,zzN];omega
 obtain⟨ag,e,ae,s8,s9,sM,lY,hl,hr,hd,rfl⟩:=cu (body:=λx env=>((Tg.one 8).put x env).bind λag=>aD F IW ag)
  (P:=λi env=>∃(ae:List Str) (s8 s9 sM lY:Ci.Slot),ae.length=i/\(∀z∈ae,z.length=(1+b).toNat)/\(∀z∈ae,∀x∈z.cps.toList,x=35\/(48<=x/\x<=57))/\env=[.val (eA ns),.val (.int 0),.val (.int q),.val (.int (1+a)),.val (.int (1+b)),.val (.int sh),.val (.int tp),.own (.lst (ae.map .str)),s8,s9,sM,lY])
  (dN 0 (1+a).toNat) 0 [.val (eA ns),.val (.int 0),.val (.int q),.val (.int (1+a)),.val (.int (1+b)),.val (.int sh),.val (.int tp),.own (.lst []),.no,.no,.no,.no] ⟨[],_,_,_,_,rfl,(λz hz=>by cases hz),(λz hz=>by cases hz),rfl⟩ (by
  intro i x env hx hq;obtain⟨hi,rfl⟩:=xI hx
  obtain⟨ae,s8,s9,sM,lY,hl,hr,hd,rfl⟩:=hq
  obtain⟨z,E0,EB,hz,hzd,e⟩:=Fo F hp ns q (1+a) (1+b) sh tp (by omega) Ra t1 t2 (.lst (ae.map .str)) i (1+b).toNat (by omega) sM lY
  have l:(ae.map PV.str).length<cL:=zzV (m:=6) (by simp! [zzl];omega) (by decide)
  refine⟨[.val (eA ns),.val (.int 0),.val (.int q),.val (.int (1+a)),.val (.int (1+b)),.val (.int sh),.val (.int tp),.own (.lst ((ae++[z]).map .str)),.val (.int i),.val (.str z),E0,EB],?_,ae++[z],_,_,_,_,by simp;omega,?_,?_,rfl⟩
  ·have e':=e
   simp! only [EU] at e';simp! [zzl] at l;simp! only [IW,EU,sb,e',zzl,l,List.map_append]
  ·intro y hy;simp! [List.mem_append,zzi] at hy;rcases hy with hy|rfl
   ·exact hr y hy
   ·exact hz
  ·intro y hy;simp! [List.mem_append,zzi] at hy;rcases hy with hy|rfl
   ·exact hd y hy
   ·exact hzd)
 have rO:ae.length=(1+a).toNat:=by simpa [dN] using hl
 refine⟨ae,(1+b).toNat,⟨⟨by omega,λz hz=>by rw [hr z hz];omega⟩,by omega,by omega,hr,hd⟩,?_⟩
 simp! only [IW,EU] at e;simp! only [b9,b9,ea,eb,ec,ed,es,et,sa,e]
def cg(ae:List Str)(r c:Int):Int:=match cd ae r.toNat c.toNat with
 |some x=>(x:Int)-48
 |none=>0
def yE{ae:List Str}{r c:Int}(h:bY ae r c=true):∃(i j x:Nat),r=i/\c=j/\cd ae i j=some x/\x≠35:=by
 obtain⟨h0,h1,h2⟩:=iz.1 h
 obtain⟨i,rfl⟩:=zzw h0
 obtain⟨j,rfl⟩:=zzw h1
 simp! [zz4,wH] at h2;cases hc:cd ae i j with
 |none=>rw [hc] at h2;cases h2
 |some x=>
  rw [hc] at h2;exact⟨i,j,x,rfl,rfl,hc,by simpa using h2⟩
def HU{ae:List Str}{w:Nat}(L:Fl ae w){i j x:Nat}(h:cd ae i j=some x):x=35\/(48<=x/\x<=57):=by
 unfold cd at h;cases hz:ae[i]? with
 |none=>rw [hz] at h;cases h
 |some z=>
  rw [hz] at h;exact L.dig z (zzD hz) x (zzD h)
def lQ{ae:List Str}{w:Nat}(L:Fl ae w){r c:Int}(h:bY ae r c=true):∃z x,aJ (fl ae) (.int r)=.ok (.str z)/\aJ (.str z) (.int c)=.ok (.str ⟨#[x]⟩)/\bC .int [.str ⟨#[x]⟩]=.ok (.int (cg ae r c))/\0<=cg ae r c/\cg ae r c<=9:=by
 obtain⟨i,j,x,rfl,rfl,hc,hx⟩:=yE h
 obtain⟨z,_,e1,e2⟩:=Ah L.vf hc
 have hd:=(HU L hc).resolve_left hx
 have hh:cg ae i j=(x:Int)-48:=by simp! [cg,zz4,hc]
 refine⟨z,x,e1,e2,?_,?_⟩
 ·rw [hh];exact C7 hd.1 hd.2
 ·rw [hh];omega
noncomputable def cm(ae:List Str)(sl:Bool)(cl pr:Int)(r c r' c':Int):Option Int:=
 if(r=r'/\c=c')\/1<r-r'\/1<r'-r\/1<c-c'\/1<c'-c then none
 else if(r≠r'/\c≠c')/\¬(sl=true/\bY ae r c'=true/\bY ae r' c=true) then none
 else if cl<cg ae r' c'-cg ae r c\/cl<cg ae r c-cg ae r' c' then none
 else some ((if r≠r'/\c≠c' then 3 else 2)+pr*(if cg ae r' c'-cg ae r c>0 then cg ae r' c'-cg ae r c else 0))
def oP:Option Int->PV
 |none=>.aC
 |some i=>.int i
def gf(r c r' c':Int):Prop:=(r=r'/\c=c')\/1<r-r'\/1<r'-r\/1<c-c'\/1<c'-c
instance(r c r' c':Int):Decidable (gf r c r' c'):=by unfold gf;infer_instance
def vw(F:aH)(r c r' c':Int):aq F cJ [sp r c,sp r' c']=.ok (.bl (!decide (gf r c r' c'))):=by
 simp! only [cJ,Kx,JP,aI,nS];have key:∀(a b d:Bool),(Res.ok (PV.bl a)).bind (λx=>mV x λt=>if t then(Res.ok (PV.bl b)).bind (λx=>mV x λt=>if t then Res.ok (PV.bl d) else Res.ok (PV.bl false)) else Res.ok (PV.bl false))=Res.ok (PV.bl (a&&(b&&d))):=by
  intro a b d;cases a<;>cases b<;>cases d<;>rfl
 by_cases h1:r=r'/\c=c'
 ·obtain⟨rfl,rfl⟩:=h1
  have:gf r c r c:=.inl ⟨rfl,rfl⟩
  simp [aq,bP,bO,aD,fB,aB,bp,lh,oq,fc,eU,gW,List.replicate,Nat.reduceAdd,Nat.reduceSub,reduceIte,ite_true,ite_false,BEq.rfl,beq_self_eq_true,J,this]
 ·have b1:(!((r==r')&&((c==c')&&true)))=true:=by
   cases hh:((r==r')&&((c==c')&&true)) with
   |false=>rfl
   |true=>exact absurd (by simpa using hh) h1
  simp! only [b1]
  by_cases h2:(if r-r'<0 then -(r-r') else r-r')<=1
  ·by_cases h3:(if c-c'<0 then -(c-c') else c-c')<=1
   ·have:¬gf r c r' c':=by
     rintro (h|h|h|h|h)
     ·exact h1 h
     all_goals (split at h2<;>split at h3<;>omega)
    simp! only [h2,h3,this,decide_true,decide_false]
   ·have:gf r c r' c':=by
     unfold gf;split at h3<;>omega
    simp! only [h2,h3,this,decide_true,decide_false]
  ·have:gf r c r' c':=by
    unfold gf;split at h2<;>omega
   simp! only [h2,this,decide_true,decide_false]
def km(F:aH):Prop:=∀ae,qb ae->∀r c,F "is_open" [fl ae,sp r c]=.ok (.bl (bY ae r c))
def wM(F:aH)(hn:∀ae,qb ae->∀r c,bY ae r c=true->F "need_open" [fl ae,sp r c]=.ok .aC){ae:List Str}{w:Nat}(L:Fl ae w){r c:Int}(h:bY ae r c=true):aq F cR [fl ae,sp r c]=.ok (.int (cg ae r c)):=by
 obtain⟨z,x,e1,e2,e3,_⟩:=lQ L h
 simp! only [cR,hn ae L.vf r c h,Kx,JP,e1,e2,e3]
def sW(F:aH)(ho:km F){ae:List Str}(R:qb ae)(r c r' c':Int):aq F ba [fl ae,sp r c,sp r' c']=.ok (.bl (bY ae r c'&&bY ae r' c)):=by
 simp! only [ba,Kx,JP,ho ae R];cases bY ae r c'<;>simp! only [Bool.false_and,Bool.true_and]
def ng{i j:Int}(h0:0<=i)(h1:i<4):(aO i||aO j)=true:=by
 have:aO i=true:=by simp! [aO,zza,zzN];omega
 rw [this];rfl
structure Wk(cl pr:Int):Prop where
 c0:0<=cl
 p0:0<=pr
 p4:pr<4
 c9:cl<=9
def Ck(F:aH)(hb:∀r c r' c',F "are_beside" [sp r c,sp r' c']=.ok (.bl (!decide (gf r c r' c'))))(hk:∀ae,qb ae->∀r c r' c',F "has_open_corners" [fl ae,sp r c,sp r' c']=.ok (.bl (bY ae r c'&&bY ae r' c)))
 (hh:∀ae w,Fl ae w->∀r c,bY ae r c=true->F "height_at" [fl ae,sp r c]=.ok (.int (cg ae r c))) {ae:List Str} {w:Nat} (L:Fl ae w) {sl:Bool} {cl pr:Int} (V:Wk cl pr) {r c r' c':Int} (h:bY ae r c=true) (h':bY ae r' c'=true):
 aq F bg [fl ae,wk sl cl pr,sp r c,sp r' c']=.ok (oP (cm ae sl cl pr r c r' c')):=by
 have e1:=hh ae w L r c h
 have e2:=hh ae w L r' c' h'
 have e3:=hk ae L.vf r c r' c'
 have e4:=hb r c r' c'
 by_cases h1:gf r c r' c'
 ·have:cm ae sl cl pr r c r' c'=none:=if_pos h1
  simp! only [bg,e4,h1,decide_true,this,oP]
 ·have q1:cm ae sl cl pr r c r' c'=_:=if_neg h1
  rw [q1];have ms:=λj=>ng (j:=j) V.p0 V.p4
  obtain⟨s,hs⟩:∃s,((!(r==r'))&&!(c==c'))=s:=⟨_,rfl⟩
  have MY:s=true↔r≠r'/\c≠c':=by rw [<-hs];simp
  have ia:∀{t u:Bool},(if t=true then Res.ok (PV.bl u) else Res.ok (PV.bl false))=Res.ok (PV.bl (t&&u)):=λ{t u}=>by cases t<;>rfl
  have ii:(if s=true then Res.ok (PV.int 3) else Res.ok (PV.int 2))=Res.ok (PV.int (if r≠r'/\c≠c' then 3 else 2)):=by
   by_cases n3:r≠r'/\c≠c'
   ·rw [if_pos (MY.2 n3),if_pos n3]
   ·rw [if_neg (λz=>n3 (MY.1 z)),if_neg n3]
  have mx:(if(0:Int)>cg ae r' c'-cg ae r c then 0 else cg ae r' c'-cg ae r c)=(if cg ae r' c'-cg ae r c>0 then cg ae r' c'-cg ae r c else 0):=by
   split<;>split<;>omega
  have cc:(if sl=true then Res.ok (PV.bl (bY ae r c'&&bY ae r' c)) else Res.ok (PV.bl false))=Res.ok (PV.bl (sl&&(bY ae r c'&&bY ae r' c))):=ia
  by_cases hblk:(r≠r'/\c≠c')/\¬(sl=true/\bY ae r c'=true/\bY ae r' c=true)
  ·rw [if_pos hblk];have hB:(!(sl&&(bY ae r c'&&bY ae r' c)))=true:=by
    rw [Bool.not_eq_true',Bool.eq_false_iff];intro z;rw [zza,zza] at z;exact hblk.2 z
   simp! only [bg,e4,e3,h1,decide_false,ia,hs,MY.2 hblk.1,hB,Bool.and_self,oP]
  ·rw [if_neg hblk];have hB:(s&&!(sl&&(bY ae r c'&&bY ae r' c)))=false:=by
    rw [Bool.eq_false_iff];intro z;rw [zza,Bool.not_eq_true',Bool.eq_false_iff] at z;exact hblk ⟨MY.1 z.1,λy=>z.2 (by rw [zza,zza];exact y)⟩
   by_cases hq:cl<(if cg ae r' c'-cg ae r c<0 then -(cg ae r' c'-cg ae r c) else cg ae r' c'-cg ae r c)
   ·have hz:cl<cg ae r' c'-cg ae r c\/cl<cg ae r c-cg ae r' c':=by split at hq<;>omega
    simp! only [bg,e4,e3,e1,e2,h1,decide_false,ia,hs,hB,oP,hq,decide_true,if_pos hz]
   ·have hz:¬(cl<cg ae r' c'-cg ae r c\/cl<cg ae r c-cg ae r' c'):=by split at hq<;>omega
    simp! only [bg,e4,e3,e1,e2,h1,decide_false,ia,hs,hB,oP,hq,if_neg hz,ii,ms,mx]
def Lx{ae:List Str}{w:Nat}(L:Fl ae w){i j:Nat}(hi:i<ae.length)(hj:j<w):∃x,cd ae i j=some x:=by
 have hz:ae[i]?=some ae[i]:=zzg hi
 have hl:=L.B5 _ (zzD hz)
 refine⟨(ae[i]).cps.toList[j]'(by simp! [zzd];rw [<-hl] at hj;exact hj),?_⟩;unfold cd;rw [hz];exact zzg _
def iJ{ae:List Str}{w:Nat}(L:Fl ae w){r c:Int}(h:bY ae r c=true):0<=r/\r<ae.length/\0<=c/\c<w:=by
 obtain⟨i,j,x,rfl,rfl,hc,_⟩:=yE h
 unfold cd at hc;cases hz:ae[i]? with
 |none=>rw [hz] at hc;cases hc
 |some z=>
  rw [hz] at hc;have h1:=(zzH.1 hz).1
  have h2:=(zzH.1 hc).1
  have hl:=L.B5 _ (zzD hz)
  simp! [zzd] at h2;have:z.cps.size=z.length:=rfl
  omega
abbrev kN(p:Nat×Nat):List Int:=[(p.1:Int),(p.2:Int)]
abbrev Up(L:List (Nat×Nat)):Prop:=L.Pairwise λp q=>HT.lexLt (kN p) (kN q)=true
def tx:Up []:=.nil
def N3{p q:Nat×Nat}(h:p.1<q.1\/p.1=q.1/\p.2<q.2):HT.lexLt (kN p) (kN q)=true:=by
 simp! [HT.lexLt];rcases h with h|⟨h1,h2⟩
 ·rw [if_neg (by omega)];exact zzh (by omega)
 ·rw [if_pos (by omega),if_neg (by omega)];exact zzh (by omega)
abbrev xa(p:Nat×Nat):PV:=sp p.1 p.2
theorem jZ:∀{xs:List PV} {k i:Nat} {x:PV},(bL k xs)[i]?=some x->∃y,xs[i]?=some y/\x=.tup [.int ((k+i:Nat):Int),y]
 |[],_,_,_,h=>by cases h
 |y::ys,k,0,x,h=>by
  simp! [bL,List.getElem?_cons_zero,Option.some.injEq] at h;exact⟨y,rfl,h.symm⟩
 |y::ys,k,i+1,x,h=>by
  simp! [bL,List.getElem?_cons_succ] at h;obtain⟨w,h1,h2⟩:=jZ h
  refine⟨w,h1,?_⟩;rw [h2,show k+1+i=k+(i+1) by omega]
theorem bW:∀(xs:List PV) (k:Nat),(bL k xs).length=xs.length
 |[],_=>rfl
 |x::xs,k=>by simp! [bL,zzL,bW xs]
theorem lA{f:PV->Res (Option PV)}{r:Nat}(hf:∀c x:Nat,f (.tup [.int c,.str ⟨#[x]⟩])=.ok (if x !=35 then some (sp r c) else none)):∀(xs:List Nat) (k:Nat),∃L:List (Nat×Nat),aE f (bL k (xs.map λx=>.str ⟨#[x]⟩))=.ok (L.map xa)/\Up L/\L.length<=xs.length/\∀a b,(a,b)∈L↔a=r/\k<=b/\∃x,xs[b-k]?=some x/\x≠35
 |[],k=>⟨[],rfl,tx,zzE _,λa b=>by simp⟩
 |x::xs,k=>by
  obtain⟨L,e,nd,l,h⟩:=lA hf xs (k+1)
  by_cases hx:x=35
  ·refine⟨L,?_,nd,Nat.le_succ_of_le l,λa b=>?_⟩
   ·have:(x !=35)=false:=by simp [hx]
    simp! [zzF,bL,aE,hf,this,A5,iQ,e,oc]
    rfl
   ·rw [h]
    constructor
    ·rintro ⟨h1,h2,y,h3,h4⟩
     refine⟨h1,by omega,y,?_,h4⟩;rw [show b-k=(b-(k+1))+1 by omega];exact h3
    ·rintro ⟨h1,h2,y,h3,h4⟩
     have:b≠k:=by
      rintro rfl
      simp at h3;omega
     refine⟨h1,by omega,y,?_,h4⟩;rw [show b-k=(b-(k+1))+1 by omega] at h3;exact h3
  ·refine⟨(r,k)::L,?_,List.pairwise_cons.2 ⟨(λp hp=>N3 (by have:=(h p.1 p.2).1 hp;omega)),nd⟩,Nat.succ_le_succ l,λa b=>?_⟩
   ·have:(x !=35)=true:=by simp [hx]
    simp! [zzF,bL,aE,hf,this,A5,iQ,e,oc,if_true]
   ·rw [zzm,h]
    constructor
    ·rintro (h1|⟨h1,h2,y,h3,h4⟩)
     ·cases h1;exact⟨rfl,zzE _,x,by simp,hx⟩
     ·refine⟨h1,by omega,y,?_,h4⟩;rw [show b-k=(b-(k+1))+1 by omega];exact h3
    ·rintro ⟨h1,h2,y,h3,h4⟩
     by_cases hb:b=k
     ·subst hb;subst h1;exact .inl rfl
     ·refine .inr ⟨h1,by omega,y,?_,h4⟩;rw [show b-k=(b-(k+1))+1 by omega] at h3;exact h3
def jr{ae:List Str}{r c:Nat}:wH ae r c=true↔∃z,ae[r]?=some z/\∃x,z.cps.toList[c]?=some x/\x≠35:=by
 unfold wH cd;cases hz:ae[r]? with
 |none=>simp
 |some z=>
  simp! [Option.bind_some];cases hx:z.cps.toList[c]? with
  |none=>
   refine⟨(λh=>by cases h),?_⟩
   rintro ⟨w,hw,x,p8,_⟩
   cases hw;rw [hx] at p8;cases p8
  |some x=>
   refine⟨λh=>⟨z,rfl,x,hx,by simpa using h⟩,?_⟩
   rintro ⟨w,hw,y,hy,h⟩
   cases hw;rw [hx] at hy;cases hy
   simpa using h
def AI:Ss:=#v[.jj 1 (.cN 2 [2] (.two 0 1) (.enum (!3)) (.cmp .ne (!1) (.cst (.str "#"))) (.tup #v[!2,!0]))]
def uB(F:aH):Prop:=∀ae,qb ae->∃L:List (Nat×Nat),F "_law_spots" [fl ae]=.ok (.lst (L.map xa))/\Up L/\L.length<=36/\∀r c,(r,c)∈L↔wH ae r c=true
def zS(F:aH)(ae:List Str)(R:qb ae):∃L:List (Nat×Nat),aq F bK [fl ae]=.ok (.lst (L.map xa))/\Up L/\L.length<=36/\∀r c,(r,c)∈L↔wH ae r c=true:=by
 have TN:=R.1
 obtain⟨ag,e,L,s2,s3,nd,hl,hm,rfl⟩:=cu (body:=λx env=>((Tg.two 2 3).put x env).bind λag=>aD F AI ag) (P:=λi env=>∃(L:List (Nat×Nat)) (s2 s3:Slot),Up L/\L.length<=6*i/\(∀r c,(r,c)∈L↔r<i/\wH ae r c=true)/\env=[.val (fl ae),.own (.lst (L.map xa)),s2,s3])
  (bL 0 (ae.map .str)) 0 [.val (fl ae),.own (.lst []),.no,.no] ⟨[],_,_,tx,zzE _,(λr c=>by simp),rfl⟩ (by
  intro i x env hx hq;obtain⟨y,hy,rfl⟩:=jZ hx
  obtain⟨L,s2,s3,nd,hl,hm,rfl⟩:=hq
  simp! [zzQ,zzJ] at hy;obtain⟨z,hz,rfl⟩:=hy
  have Jh:=R.2 z (zzD hz)
  have hi:i<ae.length:=(zzH.1 hz).1
  obtain⟨M,eM,nM,lM,hM⟩:=lA (f:=λx=>((Tg.two 0 1).put x [.no,.no,.val (.int i)]).bind λag=>((mZ ag[1]?).bind λx=>fb x (.str "#")).bind λt=>mV t λt=>if t then(((mZ ag[2]?).bind λp=>((mZ ag[0]?).bind λp=>.ok [p]).bind λps=>.ok (p::ps)).bind λps=>.ok (.tup ps)).bind λy=>.ok (some y) else .ok none) (r:=i) (λc x=>by
   simp! only [tY];cases(x !=35)<;>rfl) z.cps.toList 0
  have lz:(bL 0 (chars z)).length<cL:=by
   rw [bW];refine zzV (m:=6) ?_ (by decide)
   simpa [chars,Str.length] using Jh
  have ll:(L.map xa).length+(M.map xa).length<=cL:=by
   refine zzU (m:=100) ?_ (by decide);simp! [zzl];have:z.cps.toList.length=z.length:=by simp [Str.length]
   omega
  refine⟨[.val (fl ae),.own (.lst ((L++M).map xa)),.val (.int i),.val (.str z)],?_,L++M,_,_,List.pairwise_append.2 ⟨nd,nM,λa ha b hb=>N3 (.inl (by have h1:=((hm a.1 a.2).1 ha).1;have h2:=((hM b.1 b.2).1 hb).1;omega))⟩,?_,?_,rfl⟩
  ·simp! only [AI,Mx,Nat.zero_add,lz];rw [show chars z=z.cps.toList.map λx=>PV.str ⟨#[x]⟩ from rfl,eM]
   simp! only [ll,List.map_append]
  ·have:z.cps.toList.length=z.length:=by simp [Str.length]
   simp! [zzM];omega
  ·intro r c;rw [List.mem_append,hm,hM,jr]
   constructor
   ·rintro (⟨h1,h2⟩|⟨rfl,_,x,h3,h4⟩)
    ·exact⟨by omega,h2⟩
    ·exact⟨by omega,z,hz,x,h3,h4⟩
   ·rintro ⟨h1,w,h2,x,h3,h4⟩
    by_cases hr:r=i
    ·subst hr;rw [hz] at h2;cases h2;exact .inr ⟨rfl,Nat.zero_le _,x,h3,h4⟩
    ·exact .inl ⟨by omega,w,h2,x,h3,h4⟩)
 refine⟨L,?_,nd,(by rw [bW,zzl] at hl;omega),λr c=>?_⟩
 ·simp! only [AI] at e;simp! only [bK,ML,e,List.modify_succ_cons,List.modify_zero_cons,xf]
 ·rw [hm];refine⟨λh=>h.2,λh=>⟨?_,h⟩⟩
  obtain⟨z,hz,_⟩:=jr.1 h
  have:=(zzH.1 hz).1
  rw [bW,zzl];omega
def wm(F:aH)(hp:gY F)(ns:List Int)(k:Int)(hk:0<=k):∃sl cl pr,Wk cl pr/\aq F cq [eA ns,.int k]=.ok (wk sl cl pr):=by
 obtain⟨a,ea,a0,a2⟩:=hp ns k 2 hk (by decide)
 obtain⟨b,eb,b0,b4⟩:=hp ns (k+1) 4 (by omega) (by decide)
 obtain⟨c,ec,c0,c4⟩:=hp ns (k+2) 4 (by omega) (by decide)
 obtain⟨v,ev,hv⟩:=n4 (a:=0) (b:=1) (c:=2) (d:=9) b0 b4
 refine⟨(a==0),v,c,⟨by omega,c0,c4,by omega⟩,?_⟩;simp! only [cq,ea,eb,ec,ev]
theorem fH{α σ:Type}{body:PV->Sl->Res Ci.Fl}{g:α->PV}{mk:List PV->σ->Sl}{app:α->List PV}{m M:Nat}:∀(l:List α) (acc:List PV) (s:σ),(∀a∈l,(app a).length<=m)->(∀a∈l,∀acc s,acc.length+m<=M->∃s',body (g a) (mk acc s)=.ok (.nx (mk (acc++app a) s')))->acc.length+m*l.length<=M->∃s',forL body (l.map g) (mk acc s)=.ok (.nx (mk (acc++l.flatMap app) s'))
 |[],acc,s,_,_,_=>⟨s,by simp [forL]⟩
 |a::l,acc,s,h1,h2,h3=>by
  have ha:=h1 a (zzP ..)
  rw [zzL,Nat.mul_succ] at h3;obtain⟨s1,e1⟩:=h2 a (zzP ..) acc s (by omega)
  obtain⟨s2,e2⟩:=fH l (acc++app a) s1 (λb hb=>h1 b (zzI _ hb)) (λb hb=>h2 b (zzI _ hb)) (by rw [zzM];omega)
  refine⟨s2,?_⟩;simp! [zzF,forL,e1,iQ,e2,List.flatMap_cons,List.append_assoc]
def fF(x:Int):List Int:=[x-1+(0:Nat),x-1+(1:Nat),x-1+(2:Nat)]
def JY(x:Int):dN (x-1) (x+2-(x-1)).toNat=(fF x).map .int:=by
 rw [show(x+2-(x-1)).toNat=3 by omega]
 rfl
def oI:Ss:=#v[.ite (.and (.cmp .ne (.tup #v[!3,!4]) (!1)) (.call "is_open" #v[!0,.tup #v[!3,!4]])) #v[.app 2 (.tup #v[!3,!4])] .nil]
def oO:Ss:=#v[.bX (.one 4) (.pI (.bin .sub (.sub (!1) (¬1)) (¬1)) (.bin .add (.sub (!1) (¬1)) (¬2))) oI]
def AW(ae:List Str)(r c r' c':Int):Bool:=!((r'==r)&&((c'==c)&&true))&&bY ae r' c'
def qH(ae:List Str)(r c r':Int):List (Int×Int):=(fF c).flatMap λc'=>if AW ae r c r' c' then [(r',c')] else []
def oW(ae:List Str)(r c:Int):List (Int×Int):=(fF r).flatMap (qH ae r c)
def iD(ae:List Str)(r c r':Int):(qH ae r c r').length<=3:=by
 have:∀c',(if AW ae r c r' c' then [(r',c')] else []).length<=1:=λc'=>by split<;>simp
 simp! [qH,fF,List.flatMap_cons,List.flatMap_nil,zzM,List.length_nil];have h1:=this (c-1+(0:Nat));have h2:=this (c-1+(1:Nat));have h3:=this (c-1+(2:Nat))
 omega
def qz(ae:List Str)(r c:Int):(oW ae r c).length<=9:=by
 simp! [oW,fF,List.flatMap_cons,List.flatMap_nil,zzM,List.length_nil];have h1:=iD ae r c (r-1+(0:Nat));have h2:=iD ae r c (r-1+(1:Nat));have h3:=iD ae r c (r-1+(2:Nat))
 omega
def lX{ae:List Str}{r c r' c':Int}:(r',c')∈oW ae r c↔¬gf r c r' c'/\bY ae r' c'=true:=by
 have hn:∀x y:Int,y∈fF x↔¬1<x-y/\¬1<y-x:=by
  intro x y;simp! [fF,zzm,List.not_mem_nil,or_false];omega
 simp! [oW,qH,List.mem_flatMap,hn]
 constructor
 ·rintro ⟨a,ha,b,hb,h⟩
  split at h
  ·rename_i hk;simp! [zzi,Prod.mk.injEq] at h;obtain⟨rfl,rfl⟩:=h
   simp! [AW,zza,Bool.not_eq_true',Bool.and_true] at hk;refine⟨?_,hk.2⟩;unfold gf;have h1:=hk.1
   rw [Bool.and_eq_false_iff] at h1;simp! [beq_eq_false_iff_ne,ne_eq] at h1;omega
  ·cases h
 ·rintro ⟨hf,ho⟩
  unfold gf at hf;refine⟨r',by omega,c',by omega,?_⟩;have:AW ae r c r' c'=true:=by
   simp! [AW,ho,Bool.and_true,Bool.not_eq_true',Bool.and_eq_false_iff,beq_eq_false_iff_ne,ne_eq];omega
  rw [if_pos this];exact zzi.2 rfl
def lO{r:Int}(h0:0<=r)(h6:r<6):(aM (r-1)&&aM (r+2))=true:=by
 simp! [aM,zza,zzN];omega
def Jf(F:aH)(ho:km F){ae:List Str}(R:qb ae){r c:Int}(S3:0<=r)(hr:r<6)(TR:0<=c)(hc:c<6):
 aq F aV [fl ae,sp r c]=.ok (.lst ((oW ae r c).map Ei)):=by
 have inner:∀(r':Int) (acc:List PV) (s4:Ci.Slot),acc.length+3<=50->∃Oj,forL (λx env=>((Tg.one 4).put x env).bind λag=>aD F oI ag) ((fF c).map .int) [.val (fl ae),.val (sp r c),.own (.lst acc),.val (.int r'),s4]=.ok (.nx [.val (fl ae),.val (sp r c),.own (.lst (acc++(qH ae r c r').map Ei)),.val (.int r'),Oj]):=by
  intro r' acc s4 hl;obtain⟨s',e⟩:=fH (body:=λx env=>((Tg.one 4).put x env).bind λag=>aD F oI ag) (g:=PV.int) (mk:=λacc (s:Ci.Slot)=>[.val (fl ae),.val (sp r c),.own (.lst acc),.val (.int r'),s]) (app:=λc'=>if AW ae r c r' c' then [sp r' c'] else []) (m:=1) (M:=60) (fF c) acc s4 (λc' _=>by split<;>simp) (λc' _ acc s hl=>by
   have l:acc.length<cL:=zzV (m:=60) (by omega) (by decide)
   refine⟨.val (.int c'),?_⟩;cases h1:(!((r'==r)&&((c'==c)&&true))) with
   |false=>simp! only [oI,h1,AW,Bool.false_and,zz6]
   |true=>
    cases h2:bY ae r' c' with
    |false=>simp! only [oI,h1,h2,AW,ho ae R,Bool.and_false,zz6]
    |true=>simp! only [oI,h1,h2,AW,ho ae R,Bool.and_self,l]) (by show acc.length+1*3<=60;omega)
  have k:(fF c).flatMap (λc'=>if AW ae r c r' c' then [sp r' c'] else [])=(qH ae r c r').map Ei:=by
   simp! [qH,List.map_flatMap]
   congr 1
   funext c'
   split<;>rfl
  exact⟨s',by rw [e,k]⟩
 obtain⟨s',e⟩:=fH (body:=λx env=>((Tg.one 3).put x env).bind λag=>aD F oO ag) (g:=PV.int) (mk:=λacc (s:Ci.Slot×Ci.Slot)=>[.val (fl ae),.val (sp r c),.own (.lst acc),s.1,s.2]) (app:=λr'=>(qH ae r c r').map Ei) (m:=3) (M:=50) (fF r) [] (.no,.no) (λr' _=>by rw [zzl];exact iD ..) (λr' _ acc s hl=>by
  obtain⟨Oj,e⟩:=inner r' acc s.2 hl
  refine⟨(.val (.int r'),Oj),?_⟩;simp! only [oI] at e;simp! only [oO,oI,lO TR hc,JY,e]) (by show 0+3*3<=50;omega)
 simp! only [oO,oI] at e;simp! only [aV,lO S3 hr,JY,e,xf,oW,List.map_flatMap]
def E1(ae:List Str)(sl:Bool)(cl pr:Int)(u v:List Int)(e:Int):Prop:=∃r c r' c',u=[r,c]/\v=[r',c']/\bY ae r c=true/\bY ae r' c'=true/\cm ae sl cl pr r c r' c'=some e
abbrev tK(t:List Int×Int):PV:=.tup [af t.1,.int t.2]
def tJ(F:aH):Prop:=∀ae w,Fl ae w->∀sl cl pr,Wk cl pr->∀r c r' c',bY ae r c=true->bY ae r' c'=true->F "step_cost" [fl ae,wk sl cl pr,sp r c,sp r' c']=.ok (oP (cm ae sl cl pr r c r' c'))
def EI(F:aH):Prop:=∀ae,qb ae->∀r c,0<=r->r<6->0<=c->c<6->F "open_spots_beside" [fl ae,sp r c]=.ok (.lst ((oW ae r c).map Ei))
def zb(F:aH):Prop:=∀ae,qb ae->∀r c,bY ae r c=true->F "need_open" [fl ae,sp r c]=.ok .aC
def rJ(f:List PV->Res PV):Prop:=∀ae w,Fl ae w->∀sl cl pr,Wk cl pr->∀r c,bY ae r c=true->∃T:List (List Int×Int),f [fl ae,wk sl cl pr,af [r,c]]=.ok (.lst (T.map tK))/\T.length<=9/\∀v e,(v,e)∈T↔E1 ae sl cl pr [r,c] v e
def jX(F:aH):Prop:=rJ (F "steps_from")
def Lr:Ss:=#v[.set 5 (.call "step_cost" #v[!0,!1,!2,!4]),.ite (.cmp .oY (!5) (.cst .aC)) #v[.app 3 (.tup #v[!4,!5])] .nil]
def EN{ae:List Str}{w:Nat}(L:Fl ae w){r c:Int}(h:bY ae r c=true):0<=r/\r<6/\0<=c/\c<6:=by
 have h1:=iJ L h
 have h2:=L.vf.1
 have h3:=L.vf.2 _ (List.getElem_mem L.ne)
 rw [L.B5 _ (List.getElem_mem L.ne)] at h3;omega
def xX(F:aH)(hn:zb F)(hb:EI F)(hs:tJ F):rJ (aq F cI):=by
 intro ae w L sl cl pr V r c h;obtain⟨r0,r6,c0,c6⟩:=EN L h
 have HJ:∀p:Int×Int,((cm ae sl cl pr r c p.1 p.2).toList.map λe=>(([p.1,p.2]:List Int),e)).length<=1:=λp=>by cases cm ae sl cl pr r c p.1 p.2<;>simp
 refine⟨(oW ae r c).flatMap λp=>(cm ae sl cl pr r c p.1 p.2).toList.map λe=>([p.1,p.2],e),?_,?_,?_⟩
 ·obtain⟨s',e⟩:=fH (body:=λx env=>((Tg.one 4).put x env).bind λag=>aD F Lr ag) (g:=Ei) (mk:=λacc (s:Ci.Slot×Ci.Slot)=>[.val (fl ae),.val (wk sl cl pr),.val (sp r c),.own (.lst acc),s.1,s.2]) (app:=λp=>((cm ae sl cl pr r c p.1 p.2).toList.map λe=>(([p.1,p.2]:List Int),e)).map tK) (m:=1) (M:=50) (oW ae r c) [] (.no,.no) (λp _=>by rw [zzl];exact HJ p) (λp hp acc s hl=>by
   have l:acc.length<cL:=zzV (m:=50) (by omega) (by decide)
   have e:=hs ae w L sl cl pr V r c p.1 p.2 h (lX.1 hp).2
   cases hq:cm ae sl cl pr r c p.1 p.2 with
   |none=>
    rw [hq] at e;have e5:di .aC .aC=.ok (.bl false):=rfl
    simp! [oP] at e;exact⟨(.val (Ei p),.val .aC),by simp! only [Lr,e,e5,Option.toList_none,zz6]⟩
   |some v=>
    rw [hq] at e;have e5:di (.int v) .aC=.ok (.bl true):=rfl
    simp! [oP] at e;exact⟨(.val (Ei p),.val (.int v)),by simp! only [Lr,e,e5,Option.toList_some,l];rfl⟩) (by
   have:=qz ae r c
   show 0+1*_<=50
   omega)
  have k:af [r,c]=sp r c:=rfl
  simp! only [Lr] at e;simp! only [k,cI,hn ae L.vf r c h,hb ae L.vf r c r0 r6 c0 c6,e,xf,List.map_flatMap]
 ·have:=qz ae r c
  have key:∀l:List (Int×Int),(l.flatMap λp=>(cm ae sl cl pr r c p.1 p.2).toList.map λe=>(([p.1,p.2]:List Int),e)).length<=l.length:=by
   intro l
   induction l with
   |nil=>exact zzE _
   |cons p l ih=>
    have:=HJ p
    simp! [List.flatMap_cons,zzM,zzL];omega
  exact zzU (key _) this
 ·intro v e;simp! [List.mem_flatMap,zzx,Option.mem_toList,Option.mem_def,Prod.mk.injEq]
  constructor
  ·rintro ⟨p,hp,e',he,rfl,rfl⟩
   exact⟨r,c,p.1,p.2,rfl,rfl,h,(lX.1 hp).2,he⟩
  ·rintro ⟨a,b,r',c',hu,rfl,_,ho,he⟩
   cases hu;refine⟨(r',c'),lX.2 ⟨λhf=>?_,ho⟩,e,he,rfl,rfl⟩
   rw [show cm ae sl cl pr r c r' c'=none from if_pos hf] at he;cases he
abbrev Ks:=List (List Int)
theorem gK:∀k:List Int,intsOf (k.map .int)=some k
 |[]=>rfl
 |i::k=>by simp! [zzF,intsOf,gK k,Option.map_some]
def dF(k:List Int):fh (af k)=some k:=gK k
theorem fY{α:Type}:∀{ks:List (List Int)} {vs:List α} (k:List Int),ks.length=vs.length->cZ ks k=(bo ks vs k).isSome
 |[],[],_,_=>rfl
 |k'::ks,v::vs,k,h=>by
  have ih:=fY (ks:=ks) (vs:=vs) k (by simpa using h)
  by_cases e:k'=k
  ·simp [cZ,bo,e]
  ·simp! [cZ] at ih;simp [cZ,bo,e,ih]
theorem qD{α:Type}(k:List Int)(p:α):∀(ks:List (List Int)) (vs:List α) (x:List Int),bo ks (List.zipWith (λk' v=>if k'=k then p else v) ks vs) x=(bo ks vs x).map λv=>if x=k then p else v
 |[],_,_=>by simp [bo]
 |_::_,[],_=>by simp [bo]
 |k'::ks,v::vs,x=>by
  simp! [List.zipWith_cons_cons,bo,qD k p ks vs x]
  by_cases e:k'=x
  ·subst e;simp
  ·simp [e]
theorem nF{α:Type}(k:List Int)(p:α):∀(ks:List (List Int)) (vs:List α) (x:List Int),ks.length=vs.length->bo (ks++[k]) (vs++[p]) x=(bo ks vs x).or (if k=x then some p else none)
 |[],[],x,_=>by simp [bo]
 |k'::ks,v::vs,x,h=>by
  simp! [List.cons_append,bo,nF k p ks vs x (by simpa using h)];split<;>simp
def lF{α:Type}{ks:List (List Int)}{vs:List α}(h:ks.length=vs.length)(k:List Int)(p:α)(x:List Int):bo (bF ks k) (cM ks vs k p) x=if k=x then some p else bo ks vs x:=by
 have hh:=fY (vs:=vs) k h
 unfold bF cM;cases hk:cZ ks k with
 |true=>
  rw [hk] at hh;simp! [if_true,qD]
  by_cases e:k=x
  ·subst e;obtain⟨v,hv⟩:=zzp.1 hh.symm
   simp [hv]
  ·rw [if_neg e];have e':¬x=k:=λz=>e z.symm
   cases bo ks vs x<;>simp [e']
 |false=>
  rw [hk] at hh;simp! [zze,if_false,nF k p ks vs x h]
  by_cases e:k=x
  ·subst e;have:bo ks vs k=none:=by simpa using hh.symm
   simp [this]
  ·simp [e]
def rA{α:Type}{ks:List (List Int)}{vs:List α}(h:ks.length=vs.length)(k:List Int)(p:α):(bF ks k).length=(cM ks vs k p).length:=by
 unfold bF cM;split<;>simp [h]
def nL(ks:List (List Int))(k:List Int):(bF ks k).length<=ks.length+1:=by
 unfold bF;split<;>simp
def da{ks:List (List Int)}{k:List Int}:cZ ks k=true↔k∈ks:=by
 simp [cZ]
def i3{ks:List (List Int)}(h:ks.Nodup)(k:List Int):(bF ks k).Nodup:=by
 unfold bF;split
 ·exact h
 ·rename_i hk;rw [da] at hk;refine List.nodup_append.2 ⟨h,by simp,?_⟩;intro a ha b hb e;rw [zzi] at hb;exact hk (hb▸e▸ha)
def JF{ks:Ks}{vs:List PV}{k:List Int}:fK (af k) (.bx ks vs)=.ok (.bl (!cZ ks k)):=by
 show(Res.of (fh (af k))).bind (λk=>Res.ok (PV.bl (!cZ ks k)))=_
 rw [dF]
 rfl
theorem D6{ks:Ks}{vs:List PV}:bC .len [.bx ks vs]=.ok (.int ks.length):=rfl
theorem uq:∀{a b:List Int},HT.lexLt a b=true->HT.lexLt b a=false
 |[],[],h=>by cases h
 |[],_::_,_=>rfl
 |_::_,[],h=>by cases h
 |x::a,y::b,h=>by
  simp! [HT.lexLt] at h⊢;split at h
  ·subst x;rw [if_pos rfl];exact uq h
  ·have h:=zzY h
   rw [if_neg (by omega)];exact zz0 (by omega)
def IF(a:List Int):HT.lexLt a a=false:=by
 cases h:HT.lexLt a a with
 |false=>rfl
 |true=>have:=uq h;rw [h] at this;exact this
abbrev Nl(L:Ks):Prop:=L.Pairwise λa b=>HT.lexLt a b=true
def Nl.nodup{L:Ks}(h:Nl L):L.Nodup:=h.imp λ{a b} e z=>by rw [z,IF] at e;cases e
theorem uZ:∀(n:Nat) (a b:List Int),eqs (ib n) (a.map .int) (b.map .int)=decide (a=b)
 |_,[],[]=>rfl
 |_,[],_::_=>rfl
 |_,_::_,[]=>rfl
 |n,x::a,y::b=>by
  have:ib n (.int x) (.int y)=(x==y):=by cases n<;>rfl
  simp! [zzF,eqs,uZ n a b,this];rw [Bool.eq_iff_iff];simp
def kD(n:Nat)(a b:List Int):ib (n+1) (af a) (af b)=decide (a=b):=uZ n a b
theorem kq:∀(n:Nat) (a b:Ks),eqs (ib (n+1)) (a.map af) (b.map af)=decide (a=b)
 |_,[],[]=>rfl
 |_,[],_::_=>rfl
 |_,_::_,[]=>rfl
 |n,x::a,y::b=>by
  simp! [zzF,eqs,kq n a b,kD];rw [Bool.eq_iff_iff];simp
def og(n:Nat)(a:List Int):(a.map PV.int).all (Ci.plain n)=true:=by
 simp! [zzT,zzx]
 rintro x ⟨i,_,rfl⟩
 cases n<;>rfl
def eZ(n:Nat)(a:List Int):Ci.plain (n+1) (af a)=true:=og n a
def j1(n:Nat)(a:Ks):(a.map af).all (Ci.plain (n+1))=true:=by
 simp! [zzT,zzx]
 rintro x ⟨i,_,rfl⟩
 exact eZ n i
def jy(n:Nat)(a:Ks):Ci.plain (n+2) (.lst (a.map af))=true:=j1 n a
def Q3(a b:Ks):d6 (.lst (a.map af)) (.lst (b.map af))=.ok (.bl (decide (a=b))):=by
 show(if(Ci.plain 9 (.lst (a.map af))&&Ci.plain 9 (.lst (b.map af)))=true then Res.ok (PV.bl (ib 9 (.lst (a.map af)) (.lst (b.map af)))) else .bad)=_
 rw [jy 7,jy 7];exact congrArg (λz=>Res.ok (PV.bl z)) (kq 7 a b)
def Mi(a b:Ks):fb (.lst (a.map af)) (.lst (b.map af))=.ok (.bl (!decide (a=b))):=by
 show(if(Ci.plain 9 (.lst (a.map af))&&Ci.plain 9 (.lst (b.map af)))=true then Res.ok (PV.bl (!ib 9 (.lst (a.map af)) (.lst (b.map af)))) else .bad)=_
 rw [jy 7,jy 7];exact congrArg (λz=>Res.ok (PV.bl (!z))) (kq 7 a b)
def mem_keys(k:List Int)(L:Ks):pF (af k) (L.map af)=decide (k∈L):=by
 unfold pF;rw [List.any_map,Bool.eq_iff_iff,zzj,zzN]
 constructor
 ·rintro ⟨x,hx,e⟩
  have:decide (x=k)=true:=(kD 8 x k).symm.trans e
  exact zzY this▸hx
 ·intro h;exact⟨k,h,(kD 8 k k).trans (zzh rfl)⟩
def LF(k:List Int)(L:Ks):fK (af k) (.lst (L.map af))=.ok (.bl (!decide (k∈L))):=by
 show(if(Ci.plain 9 (af k)&&(L.map af).all (Ci.plain 9))=true then Res.ok (PV.bl (!pF (af k) (L.map af))) else .bad)=_
 rw [eZ 8,j1 8,mem_keys]
 rfl
def SG(k:List Int)(L:Ks):tW (af k) (.lst (L.map af))=.ok (.bl (decide (k∈L))):=by
 show(if(Ci.plain 9 (af k)&&(L.map af).all (Ci.plain 9))=true then Res.ok (PV.bl (pF (af k) (L.map af))) else .bad)=_
 rw [eZ 8,j1 8,mem_keys]
 rfl
def fX(ae:List Str)(u:List Int):Prop:=∃r c,u=[r,c]/\bY ae r c=true
def E6:Ks:=(List.range 6).flatMap λ(r:Nat)=>(List.range 6).map λ(c:Nat)=>[(r:Int),(c:Int)]
def C6:E6.length=36:=by decide
def TV{ae:List Str}{w:Nat}(L:Fl ae w){u:List Int}(h:fX ae u):u∈E6:=by
 obtain⟨r,c,rfl,h⟩:=h
 obtain⟨a,b,d,e⟩:=EN L h
 refine List.mem_flatMap.2 ⟨r.toNat,List.mem_range.2 (by omega),zzx.2 ⟨c.toNat,List.mem_range.2 (by omega),?_⟩⟩;rw [Int.toNat_of_nonneg a,Int.toNat_of_nonneg d]
def j8{ae:List Str}{sl:Bool}{cl pr r c r' c' e:Int}:cm ae sl cl pr r c r' c'=some e↔¬gf r c r' c'/\(r≠r'/\c≠c'->sl=true/\bY ae r c'=true/\bY ae r' c=true)/\cg ae r' c'-cg ae r c<=cl/\cg ae r c-cg ae r' c'<=cl/\e=(if r≠r'/\c≠c' then 3 else 2)+pr*(if cg ae r' c'-cg ae r c>0 then cg ae r' c'-cg ae r c else 0):=by
 unfold cm
 by_cases h1:gf r c r' c'
 ·rw [if_pos (show(r=r'/\c=c')\/1<r-r'\/1<r'-r\/1<c-c'\/1<c'-c from h1)];exact⟨(λz=>by cases z),λz=>absurd h1 z.1⟩
 ·have w8:¬((r=r'/\c=c')\/1<r-r'\/1<r'-r\/1<c-c'\/1<c'-c):=h1
  rw [if_neg w8]
  by_cases h2:(r≠r'/\c≠c')/\¬(sl=true/\bY ae r c'=true/\bY ae r' c=true)
  ·rw [if_pos h2];exact⟨(λz=>by cases z),λz=>absurd (z.2.1 h2.1) h2.2⟩
  ·rw [if_neg h2];have xh:r≠r'/\c≠c'->sl=true/\bY ae r c'=true/\bY ae r' c=true:=λa=>Classical.byContradiction λb=>h2 ⟨a,b⟩
   by_cases h3:cl<cg ae r' c'-cg ae r c\/cl<cg ae r c-cg ae r' c'
   ·rw [if_pos h3];exact⟨(λz=>by cases z),λz=>by omega⟩
   ·rw [if_neg h3];refine⟨λz=>⟨h1,xh,by omega,by omega,by cases z;rfl⟩,λz=>by rw [z.2.2.2.2]⟩
def KC{ae:List Str}{w:Nat}(L:Fl ae w){sl:Bool}{cl pr:Int}(V:Wk cl pr){u v:List Int}{e:Int}(h:E1 ae sl cl pr u v e):0<e/\e<=30/\fX ae v:=by
 obtain⟨r,c,r',c',h1,h2,h3,h4,h5⟩:=h
 rw [j8] at h5;obtain⟨_,_,_,_,_,l1,l2⟩:=lQ L h3
 obtain⟨_,_,_,_,_,m1,m2⟩:=lQ L h4
 have p0:=V.p0
 have p4:=V.p4
 have e5:=h5.2.2.2.2
 generalize hm:(if cg ae r' c'-cg ae r c>0 then cg ae r' c'-cg ae r c else 0)=m at e5
 have PN:0<=m/\m<=9:=by rw [<-hm];split<;>omega
 generalize hf:(if r≠r'/\c≠c' then(3:Int) else 2)=f at e5
 have Uw:2<=f/\f<=3:=by rw [<-hf];split<;>omega
 have a1:=Int.mul_nonneg p0 PN.1
 have a2:pr*m<=3*9:=Int.mul_le_mul (by omega) PN.2 PN.1 (by omega)
 exact⟨by omega,by omega,r',c',h2,h4⟩
def Kj(f:List PV->Res PV):Prop:=∀ae,qb ae->∃S:Ks,f [fl ae]=.ok (.lst (S.map af))/\S.length<=36/\Nl S/\∀k,k∈S↔fX ae k
def zi{F:aH}(h:uB F):Kj (F "_law_spots"):=by
 intro ae R;obtain⟨L,e,hu,hl,hm⟩:=h ae R
 refine⟨L.map kN,?_,by simpa using hl,?_,λk=>?_⟩
 ·rw [e,List.map_map]
  rfl
 ·exact List.pairwise_map.2 hu
 ·rw [zzx]
  constructor
  ·rintro ⟨p,hp,rfl⟩
   have:=(hm p.1 p.2).1 hp
   exact⟨_,_,rfl,iz.2 ⟨by omega,by omega,this⟩⟩
  ·rintro ⟨r,c,rfl,h⟩
   obtain⟨a,b,d⟩:=iz.1 h
   refine⟨(r.toNat,c.toNat),(hm _ _).2 d,?_⟩;show [(r.toNat:Int),(c.toNat:Int)]=[r,c]
   rw [Int.toNat_of_nonneg a,Int.toNat_of_nonneg b]
def uf{α:Type}(xs:List α){k:Nat}(h:k<=xs.length):me xs (some (k:Int)) none=xs.drop k:=by
 unfold me;rw [HT.C4,HT.xK,Nat.min_eq_left h];exact List.take_of_length_le (by simp)
def om{ae:List Str}{w:Nat}(L:Fl ae w){r c:Int}(h0:0<=r)(h1:r<ae.length)(h2:0<=c)(h3:c<w):∃z,aJ (fl ae) (.int r)=.ok (.str z)/\∃x:Nat,aJ (.str z) (.int c)=.ok (.str ⟨#[x]⟩)/\(x !=35)=bY ae r c:=by
 obtain⟨i,rfl⟩:=zzw h0
 obtain⟨j,rfl⟩:=zzw h2
 obtain⟨x,hx⟩:=Lx L (i:=i) (j:=j) (by omega) (by omega)
 obtain⟨z,_,e1,e2⟩:=Ah L.vf hx
 exact⟨z,e1,x,e2,by simp [bY,wH,hx]⟩
def Ak(x:Nat):d6 (.str ⟨#[x]⟩) (.str "#")=.ok (.bl (!(x !=35))):=by
 have:(("#":Str))=⟨#[35]⟩:=by decide+kernel
 rw [this];show Res.ok (PV.bl ((⟨#[x]⟩:Str)==⟨#[35]⟩))=_
 congr 2
 rw [bne,Bool.not_not,Bool.eq_iff_iff];simp
def yj{t u:Bool}:(if t=true then Res.ok (PV.bl true) else Res.ok (PV.bl u))=Res.ok (PV.bl (t||u)):=by cases t<;>rfl
def Mk:Ss:=#v[.ret (.bin .add (!5) (.ite (.cmp .gt (!4) (¬0)) (.bin .mul (.sub (!1) (¬2)) (!4)) (¬0)))]
noncomputable def Jq:Ss:=.cons (.ite (.and (.cmp .ne (.sub (!2) (¬0)) (.sub (!3) (¬0))) (.cmp .ne (.sub (!2) (¬1)) (.sub (!3) (¬1)))) #v[.ite (.or (.not (.sub (!1) (¬0))) (.or (.cmp .eq (.sub (.sub (!0) (.sub (!2) (¬0))) (.sub (!3) (¬1))) (.cst (.str "#"))) (.cmp .eq (.sub (.sub (!0) (.sub (!3) (¬0))) (.sub (!2) (¬1))) (.cst (.str "#"))))) #v[.ret (.cst .aC)] .nil,.set 5 (¬3)] .nil) Mk
noncomputable def MG:Ss:=.cons (.ite (.or (.cmp .gt (!4) (.sub (!1) (¬1))) (.cmp .gt (.bin .sub (¬0) (!4)) (.sub (!1) (¬1)))) #v[.ret (.cst .aC)] .nil) Jq
theorem D3:bJ.body=(.cons (.set 4 (.bin .sub (.blt .int #v[.sub (.sub (!0) (.sub (!3) (¬0))) (.sub (!3) (¬1))]) (.blt .int #v[.sub (.sub (!0) (.sub (!2) (¬0))) (.sub (!2) (¬1))]))) (.cons (.set 5 (¬2)) MG)):=rfl
abbrev Pf(A:PV)(sl:Bool)(cl pr r c r' c' ri k:Int):Sl:=[.val A,.val (wk sl cl pr),.val (sp r c),.val (sp r' c'),.val (.int ri),.val (.int k)]
def zj(F:aH)(A:PV)(sl:Bool){cl pr:Int}(V:Wk cl pr)(r c r' c' ri k:Int):aD F Mk (Pf A sl cl pr r c r' c' ri k)=.ok (.rt (.int (k+pr*(if ri>0 then ri else 0)))):=by
 have ms:=ng (j:=ri) V.p0 V.p4
 by_cases hp:0<ri
 ·rw [if_pos hp];simp! only [Mk,hp,decide_true,ms]
 ·rw [if_neg hp,Int.mul_zero];simp! only [Mk,hp,decide_false]
def F0(F:aH){ae:List Str}{w:Nat}(L:Fl ae w){sl:Bool}{cl pr:Int}(V:Wk cl pr){r c r' c':Int}(h:bY ae r c=true)(h':bY ae r' c'=true)(ri:Int):
 aD F Jq (Pf (fl ae) sl cl pr r c r' c' ri 2)=.ok (.rt (if(r≠r'/\c≠c')/\¬(sl=true/\bY ae r c'=true/\bY ae r' c=true) then .aC else .int ((if r≠r'/\c≠c' then 3 else 2)+pr*(if ri>0 then ri else 0)))):=by
 have i1:=iJ L h
 have i2:=iJ L h'
 obtain⟨z3,c1,x3,c2,c3⟩:=om L (r:=r) (c:=c') i1.1 i1.2.1 i2.2.2.1 i2.2.2.2
 obtain⟨z4,d1,x4,d2,d3⟩:=om L (r:=r') (c:=c) i2.1 i2.2.1 i1.2.2.1 i1.2.2.2
 have e3:=zj F (fl ae) sl V r c r' c' ri 3
 have e2:=zj F (fl ae) sl V r c r' c' ri 2
 by_cases n3:r≠r'/\c≠c'
 ·have EO:(!(r==r'))=true:=by simpa using n3.1
  have xG:(!(c==c'))=true:=by simpa using n3.2
  rw [if_pos n3]
  by_cases hb:sl=true/\bY ae r c'=true/\bY ae r' c=true
  ·rw [if_neg λz=>z.2 hb]
   have hB:(!sl||(!bY ae r c'||!bY ae r' c))=false:=by rw [hb.1,hb.2.1,hb.2.2];rfl
   simp! only [Jq,c1,c2,d1,d2,Ak,c3,d3,yj,EO,xG,hB,Bool.true_or,e3]
  ·rw [if_pos ⟨n3,hb⟩];have hB:(!sl||(!bY ae r c'||!bY ae r' c))=true:=by
    cases sl with
    |false=>rfl
    |true=>
     cases o1:bY ae r c' with
     |false=>rfl
     |true=>
      cases o2:bY ae r' c with
      |false=>rfl
      |true=>exact absurd ⟨rfl,o1,o2⟩ hb
   simp! only [Jq,c1,c2,d1,d2,Ak,c3,d3,yj,EO,xG,hB,Bool.true_or]
 ·rw [if_neg λz=>n3 z.1,if_neg n3]
  cases EO:(!(r==r')) with
  |false=>simp! only [Jq,EO,e2]
  |true=>
   have xG:(!(c==c'))=false:=by
    cases xG:(!(c==c')) with
    |false=>rfl
    |true=>exact absurd ⟨by simpa using EO,by simpa using xG⟩ n3
   simp! only [Jq,EO,xG,e2]
def t9(F:aH){ae:List Str}{w:Nat}(L:Fl ae w){sl:Bool}{cl pr:Int}(V:Wk cl pr){r c r' c':Int}(h:bY ae r c=true)(h':bY ae r' c'=true)(hf:¬gf r c r' c'):
 aq F bJ [fl ae,wk sl cl pr,sp r c,sp r' c']=.ok (oP (cm ae sl cl pr r c r' c')):=by
 obtain⟨z1,x1,a1,a2,a3,_⟩:=lQ L h
 obtain⟨z2,x2,b1,b2,b3,_⟩:=lQ L h'
 have q1:cm ae sl cl pr r c r' c'=_:=if_neg hf
 rw [q1];have st:bP bJ [fl ae,wk sl cl pr,sp r c,sp r' c']=[.val (fl ae),.val (wk sl cl pr),.val (sp r c),.val (sp r' c'),.no,.no]:=rfl
 have ar:bO bJ [fl ae,wk sl cl pr,sp r c,sp r' c']=true:=rfl
 have e4:=F0 F L V (sl:=sl) h h' (cg ae r' c'-cg ae r c)
 have go:∀x,aD F MG (Pf (fl ae) sl cl pr r c r' c' (cg ae r' c'-cg ae r c) 2)=.ok (.rt x)->aq F bJ [fl ae,wk sl cl pr,sp r c,sp r' c']=.ok x:=λx e=>by
  unfold aq;rw [ar,if_pos rfl,st,D3];simp! [aD,fB,aB,bp,J,J2,a1,a2,a3,b1,b2,b3,e]
 by_cases hz:cl<cg ae r' c'-cg ae r c\/cl<cg ae r c-cg ae r' c'
 ·have:(if(r≠r'/\c≠c')/\¬(sl=true/\bY ae r c'=true/\bY ae r' c=true) then none else if cl<cg ae r' c'-cg ae r c\/cl<cg ae r c-cg ae r' c' then none else some ((if r≠r'/\c≠c' then 3 else 2)+pr*(if cg ae r' c'-cg ae r c>0 then cg ae r' c'-cg ae r c else 0)))=(none:Option Int):=by
   rw [if_pos hz];split<;>rfl
  rw [this];have hb:(decide (cl<cg ae r' c'-cg ae r c)||decide (cl<0-(cg ae r' c'-cg ae r c)))=true:=by
   rw [zzt,zzN,zzN];omega
  refine go .aC ?_;simp! only [MG,yj,hb]
 ·have hb:(decide (cl<cg ae r' c'-cg ae r c)||decide (cl<0-(cg ae r' c'-cg ae r c)))=false:=by
   rw [Bool.or_eq_false_iff,decide_eq_false_iff_not,decide_eq_false_iff_not];omega
  rw [if_neg hz];refine(go _ ((?_:_=_).trans e4)).trans ?_
  ·simp! only [MG,yj,hb]
  ·split<;>rfl
def nP(F:aH):Prop:=∀ae w,Fl ae w->∀sl cl pr,Wk cl pr->∀r c r' c',bY ae r c=true->bY ae r' c'=true->¬gf r c r' c'->F "_law_cost" [fl ae,wk sl cl pr,sp r c,sp r' c']=.ok (oP (cm ae sl cl pr r c r' c'))
noncomputable def Ia(ae:List Str)(sl:Bool)(cl pr r c:Int)(i:Nat):Option (List Int×Int):=if i≠4/\bY ae (r-1+i/3) (c-1+i%3)=true then(cm ae sl cl pr r c (r-1+i/3) (c-1+i%3)).map λv=>([r-1+(i:Int)/3,c-1+(i:Int)%3],v) else none
noncomputable def Ie(ae:List Str)(sl:Bool)(cl pr r c:Int)(i:Nat):Option PV:=if i≠4/\bY ae (r-1+i/3) (c-1+i%3)=true then(cm ae sl cl pr r c (r-1+i/3) (c-1+i%3)).map λv=>tK ([r-1+(i:Int)/3,c-1+(i:Int)%3],v) else none
noncomputable def kC:E:=.and (.ch .le .lt (¬0) (!5) (.blt .len #v[!0])) (.and (.ch .le .lt (¬0) (!6) (.blt .len #v[.sub (!0) (¬0)])) (.and (.cmp .ne (!4) (¬4)) (.cmp .ne (.sub (.sub (!0) (!5)) (!6)) (.cst (.str "#")))))
def kT:Ss:=#v[.set 7 (.call "_law_cost" #v[!0,!1,!2,.tup #v[!5,!6]]),.ite (.cmp .oY (!7) (.cst .aC)) #v[.app 3 (.tup #v[.tup #v[!5,!6],!7])] .nil]
noncomputable def kR:Ss:=#v[.ite kC kT .nil]
noncomputable def qp:Ss:=.cons (.set 5 (.bin .add (.bin .sub (.sub (!2) (¬0)) (¬1)) (.bin .fdiv (!4) (¬3)))) (.cons (.set 6 (.bin .add (.bin .sub (.sub (!2) (¬1)) (¬1)) (.bin .mod (!4) (¬3)))) kR)
def j6{t u:Bool}:(if t=true then Res.ok (PV.bl u) else Res.ok (PV.bl false))=Res.ok (PV.bl (t&&u)):=by cases t<;>rfl
def Uq{ae:List Str}{w:Nat}(L:Fl ae w):∃z,aJ (fl ae) (.int 0)=.ok (.str z)/\z.length=w/\z.length<=cL:=by
 have hz:ae[0]?=some (ae[0]'L.ne):=zzg L.ne
 have hm:=zzD hz
 exact⟨_,yd (j:=0) hz,L.B5 _ hm,zzU (L.vf.2 _ hm) (by decide)⟩
def Ke(F:aH){ae:List Str}{w:Nat}(L:Fl ae w)(A B:PV)(i:Nat)(s3 s7:Ci.Slot)(r' c':Int):
 aB F kC [.val (fl ae),.val A,.val B,s3,.val (.int i),.val (.int r'),.val (.int c'),s7]=.ok (.bl (decide (i≠4/\bY ae r' c'=true))):=by
 obtain⟨z0,f1,f2,f3⟩:=Uq L
 have QD:(z0.length:Int)=(w:Int):=by rw [f2]
 by_cases hA:0<=r'/\r'<ae.length
 ·by_cases hB:0<=c'/\c'<w
  ·obtain⟨z,g1,x,g2,g3⟩:=om L hA.1 hA.2 hB.1 hB.2
   have e:decide (i≠4/\bY ae r' c'=true)=((!((i:Int)==4))&&bY ae r' c'):=by
    rw [Bool.eq_iff_iff,zza,zzN];simp;omega
   rw [e];simp! only [kC,hA.1,hA.2,hB.1,hB.2,f1,QD,f3,decide_true,zzl,g1,g2,g3,tY,j6,Bool.true_and]
  ·have e:decide (i≠4/\bY ae r' c'=true)=false:=zz0 λz=>hB (iJ L z.2).2.2
   have q:(decide (0<=c')&&decide (c'<(w:Int)))=false:=by
    rw [<-Bool.decide_and];exact zz0 hB
   rw [e];simp! only [kC,hA.1,hA.2,f1,QD,f3,decide_true,zzl,j6,q,Bool.true_and,Bool.false_and]
 ·have e:decide (i≠4/\bY ae r' c'=true)=false:=zz0 λz=>hA ⟨(iJ L z.2).1,(iJ L z.2).2.1⟩
  have q:(decide (0<=r')&&decide (r'<(ae.length:Int)))=false:=by
   rw [<-Bool.decide_and];exact zz0 hA
  rw [e];simp! only [kC,zzl,j6,q,Bool.true_and,Bool.false_and]
def xx(F:aH)(hc:nP F){ae:List Str}{w:Nat}(L:Fl ae w){sl:Bool}{cl pr:Int}(V:Wk cl pr){r c:Int}(h:bY ae r c=true)(i:Nat)(hi:i<9)(acc:List PV)(hT:acc.length<=100)(t4 t5 t6 t7:Ci.Slot):
 ∃(u:Ci.Slot),(((Tg.one 4).put (.int i) [.val (fl ae),.val (wk sl cl pr),.val (sp r c),.own (.lst acc),t4,t5,t6,t7]).bind λag=>aD F qp ag)=
  .ok (.nx [.val (fl ae),.val (wk sl cl pr),.val (sp r c),.own (.lst (acc++(Ie ae sl cl pr r c i).toList)),.val (.int i),.val (.int (r-1+i/3)),.val (.int (c-1+i%3)),u]):=by
 have q3:(0:Int)<3:=by decide
 have q4:(0:Int)<3/\(3:Int)<1073741824:=by decide
 have Oh:acc.length<cL:=zzV hT (by decide)
 have kc:=Ke F L (wk sl cl pr) (sp r c) i (.own (.lst acc)) t7 (r-1+(i:Int)/3) (c-1+(i:Int)%3)
 have go:∀x,aD F kR [.val (fl ae),.val (wk sl cl pr),.val (sp r c),.own (.lst acc),.val (.int i),.val (.int (r-1+i/3)),.val (.int (c-1+i%3)),t7]=x->(((Tg.one 4).put (.int i) [.val (fl ae),.val (wk sl cl pr),.val (sp r c),.own (.lst acc),t4,t5,t6,t7]).bind λag=>aD F qp ag)=x:=λx e=>by
  simp! only [qp,q3,q4,and_self,e]
 unfold Ie
 by_cases hq:i≠4/\bY ae (r-1+i/3) (c-1+i%3)=true
 ·rw [if_pos hq];rw [zzh hq] at kc;have nf:¬gf r c (r-1+i/3) (c-1+i%3):=by unfold gf;omega
  have e:=hc ae w L sl cl pr V r c _ _ h hq.2 nf
  cases hs:cm ae sl cl pr r c (r-1+i/3) (c-1+i%3) with
  |none=>
   rw [hs] at e;simp! [oP] at e;have e5:di .aC .aC=.ok (.bl false):=rfl
   refine⟨.val .aC,go _ ?_⟩;rw [kR,aD,fB,kc];simp! only [kT,e,e5,Option.map_none,Option.toList_none,zz6]
  |some v=>
   rw [hs] at e;simp! [oP] at e;have e5:di (.int v) .aC=.ok (.bl true):=rfl
   refine⟨.val (.int v),go _ ?_⟩;rw [kR,aD,fB,kc];simp! only [kT,e,e5,Oh,Option.map_some,Option.toList_some]
   rfl
 ·rw [if_neg hq];rw [zz0 hq] at kc;refine⟨t7,go _ ?_⟩;rw [kR,aD,fB,kc];simp! only [Option.toList_none,zz6]
def FC(ae:List Str)(sl:Bool)(cl pr r c:Int)(i:Nat):Ie ae sl cl pr r c i=(Ia ae sl cl pr r c i).map tK:=by
 unfold Ie Ia;split
 ·rw [Option.map_map];rfl
 ·rfl
theorem u0{α β:Type}(f:α->Option β):∀l:List α,(l.flatMap λa=>(f a).toList)=l.filterMap f
 |[]=>rfl
 |a::l=>by
  rw [List.flatMap_cons,u0 f l,List.filterMap_cons];cases f a<;>rfl
def nq(f:List PV->Res PV):Prop:=∀ae w,Fl ae w->∀sl cl pr,Wk cl pr->∀r c,bY ae r c=true->∃T:List (List Int×Int),f [fl ae,wk sl cl pr,af [r,c]]=.ok (.lst (T.map tK))/\T.length<=9/\(T.Pairwise λa b=>a.1≠b.1)/\∀v e,(v,e)∈T↔E1 ae sl cl pr [r,c] v e
def iC(F:aH):Prop:=nq (F "_law_steps")
def vC(F:aH)(hc:nP F):nq (aq F bq):=by
 intro ae w L sl cl pr V r c h;refine⟨(List.range 9).filterMap (Ia ae sl cl pr r c),?_,zzU (List.length_filterMap_le _ _) (by simp),?_,λv e=>?_⟩
 ·obtain⟨s',e⟩:=fH (body:=λx env=>((Tg.one 4).put x env).bind λag=>aD F qp ag) (g:=λi:Nat=>PV.int (i:Int)) (mk:=λacc (s:Ci.Slot×Ci.Slot×Ci.Slot×Ci.Slot)=>[.val (fl ae),.val (wk sl cl pr),.val (sp r c),.own (.lst acc),s.1,s.2.1,s.2.2.1,s.2.2.2]) (app:=λi=>(Ie ae sl cl pr r c i).toList) (m:=1) (M:=50) (List.range 9) [] (.no,.no,.no,.no) (λi _=>by cases Ie ae sl cl pr r c i<;>simp) (λi hi acc s hl=>by
   obtain⟨u,e⟩:=xx F hc L V h i (List.mem_range.1 hi) acc (by omega) s.1 s.2.1 s.2.2.1 s.2.2.2
   exact⟨(_,_,_,u),e⟩) (by decide)
  have k:af [r,c]=sp r c:=rfl
  have s:aM 9=true:=by decide
  have rg:dN 0 (9:Int).toNat=(List.range 9).map λi:Nat=>PV.int (i:Int):=by
   unfold dN;refine List.map_congr_left λi _=>?_
   rw [Int.zero_add]
  have fm:((List.range 9).flatMap λi=>(Ie ae sl cl pr r c i).toList)=((List.range 9).filterMap (Ia ae sl cl pr r c)).map tK:=by
   rw [u0,List.map_filterMap]
   congr 1
   funext i
   exact FC ..
  rw [fm,<-rg] at e;have db:bq.body=.cons (.own 3 (.lst .nil)) (.cons (.bX (.one 4) (.mG (.cst (.int 9))) qp) (.cons (.cX 3) (.cons (.ret (.var 3)) .nil))):=rfl
  have st:bP bq [fl ae,wk sl cl pr,sp r c]=[.val (fl ae),.val (wk sl cl pr),.val (sp r c),.no,.no,.no,.no,.no]:=rfl
  have ar:bO bq [fl ae,wk sl cl pr,sp r c]=true:=rfl
  rw [k];unfold aq;rw [ar,if_pos rfl,st,db];simp! only [s] at e⊢;simp! only [e,xf]
 ·refine List.Pairwise.filterMap (S:=λa b:List Int×Int=>a.1≠b.1) (R:=λi j:Nat=>i≠j) _ (λi j Hu a ha b hb A2=>Hu ?_) (List.nodup_range (n:=9));unfold Ia at ha hb;split at ha
  ·split at hb
   ·obtain⟨_,_,rfl⟩:=zzJ.1 ha
    obtain⟨_,_,rfl⟩:=zzJ.1 hb
    simp! [List.cons.injEq,and_true] at A2;omega
   ·cases hb
  ·cases ha
 ·rw [zz1]
  constructor
  ·rintro ⟨i,hi,g⟩
   unfold Ia at g;split at g
   ·rename_i hh;obtain⟨x,hx,g⟩:=zzJ.1 g
    cases g;exact⟨r,c,_,_,rfl,rfl,h,hh.2,hx⟩
   ·cases g
  ·rintro ⟨a,b,r',c',g1,rfl,_,ho,hs⟩
   cases g1;have nf:=(j8.1 hs).1
   unfold gf at nf;refine⟨(3*(r'-r+1)+(c'-c+1)).toNat,List.mem_range.2 (by omega),?_⟩;have e1:r-1+((3*(r'-r+1)+(c'-c+1)).toNat:Int)/3=r':=by omega
   have e2:c-1+((3*(r'-r+1)+(c'-c+1)).toNat:Int)%3=c':=by omega
   unfold Ia;rw [e1,e2,if_pos ⟨by omega,ho⟩,hs]
   rfl
def EM(a b:List Int):d6 (af a) (af b)=.ok (.bl (decide (a=b))):=by
 show(if(Ci.plain 9 (af a)&&Ci.plain 9 (af b))=true then Res.ok (PV.bl (ib 9 (af a) (af b))) else .bad)=_
 rw [eZ 8,eZ 8];exact congrArg (λz=>Res.ok (PV.bl z)) (kD 8 a b)
def J6(a b:List Int):fb (af a) (af b)=.ok (.bl (!decide (a=b))):=by
 show(if(Ci.plain 9 (af a)&&Ci.plain 9 (af b))=true then Res.ok (PV.bl (!ib 9 (af a) (af b))) else .bad)=_
 rw [eZ 8,eZ 8];exact congrArg (λz=>Res.ok (PV.bl (!z))) (kD 8 a b)
theorem kO{α:Type}{f:PV->Res (Option PV)}{p q:α->PV}{g:α->Bool}:∀{xs:List α},(∀x∈xs,f (p x)=.ok (if g x then some (q x) else none))->aE f (xs.map p)=.ok ((xs.filter g).map q)
 |[],_=>rfl
 |x::xs,h=>by
  have h1:=h x (zzP ..)
  have h2:=kO (xs:=xs) λy hy=>h y (zzI _ hy)
  simp! [zzF,aE,h1,A5,iQ,h2];cases hg:g x<;>simp [zz3,hg,oc]
theorem Sx{t:List Int×Int}:aJ (tK t) (.int 0)=.ok (af t.1):=rfl
theorem nr{σ:Type}{f:PV->Res (Option PV)}{body:PV->Sl->Res Ci.Fl}{mk:List PV->σ->Sl}{M:Nat}:∀(xs ys acc:List PV) (s:σ),aE f xs=.ok ys->(∀x∈xs,∀o,f x=.ok o->∀acc s,acc.length+1<=M->∃s',body x (mk acc s)=.ok (.nx (mk (acc++o.toList) s')))->acc.length+xs.length<=M->∃s',forL body xs (mk acc s)=.ok (.nx (mk (acc++ys) s'))
 |[],ys,acc,s,h,_,_=>by cases h;exact⟨s,by simp [forL]⟩
 |x::xs,ys,acc,s,h,hb,hl=>by
  rw [zzL] at hl;simp! [aE] at h;cases hf:f x with
  |bad=>rw [hf] at h;cases h
  |exc c=>rw [hf] at h;cases h
  |ok o=>
   rw [hf,A5,iQ] at h;obtain⟨zs,hz,h⟩:=Res.aX h
   cases h;obtain⟨s1,e1⟩:=hb x (zzP ..) o hf acc s (by omega)
   have lo:o.toList.length<=1:=by cases o<;>simp
   obtain⟨s2,e2⟩:=nr xs zs (acc++o.toList) s1 hz (λy hy=>hb y (zzI _ hy)) (by rw [zzM];omega)
   refine⟨s2,?_⟩;simp! [forL,e1,iQ,e2];cases o<;>simp [oc]
def yv:Ss:=#v[.ite (.cmp .ne (!5) (.glob "WALL" (.str "#"))) #v[.app 1 (.tup #v[!2,!4])] .nil]
def ND:Ss:=#v[.bX (.two 4 5) (.enum (!3)) yv]
theorem qX:∀{xs:List PV} {k:Nat} {x:PV},x∈bL k xs->∃(i:Nat) (y:PV),y∈xs/\x=.tup [.int (i:Int),y]
 |[],_,_,h=>by cases h
 |y::ys,k,x,h=>by
  simp! [bL,zzm] at h;rcases h with h|h
  ·exact⟨k,y,zzP ..,h⟩
  ·obtain⟨i,z,hz,e⟩:=qX h
   exact⟨i,z,zzI _ hz,e⟩
def Ad(f:List PV->Res PV):Prop:=∀ae,qb ae->∃L:List (Nat×Nat),f [fl ae]=.ok (.lst (L.map xa))/\Up L/\L.length<=36/\∀r c,(r,c)∈L↔wH ae r c=true
def xF(F:aH):Ad (aq F cH):=by
 intro ae R;have TN:=R.1
 obtain⟨ag,e,L,s2,s3,s4,s5,nd,hl,hm,rfl⟩:=cu (body:=λx env=>((Tg.two 2 3).put x env).bind λag=>aD F ND ag) (P:=λi env=>∃(L:List (Nat×Nat)) (s2 s3 s4 s5:Ci.Slot),Up L/\L.length<=6*i/\(∀r c,(r,c)∈L↔r<i/\wH ae r c=true)/\env=[.val (fl ae),.own (.lst (L.map xa)),s2,s3,s4,s5])
  (bL 0 (ae.map .str)) 0 [.val (fl ae),.own (.lst []),.no,.no,.no,.no] ⟨[],_,_,_,_,tx,zzE _,(λr c=>by simp),rfl⟩ (by
  intro i x env hx hq;obtain⟨y,hy,rfl⟩:=jZ hx
  obtain⟨L,s2,s3,s4,s5,nd,hl,hm,rfl⟩:=hq
  simp! [zzQ,zzJ] at hy;obtain⟨z,hz,rfl⟩:=hy
  have Jh:=R.2 z (zzD hz)
  have hi:i<ae.length:=(zzH.1 hz).1
  have zc:z.cps.toList.length=z.length:=by simp [Str.length]
  obtain⟨M,eM,nM,lM,hM⟩:=lA (f:=λx=>match x with|.tup [.int c,.str y]=>.ok (if y !="#" then some (sp i c) else none)|_=>.bad) (r:=i) (λc x=>by
   have:((⟨#[x]⟩:Str) !="#")=(x !=35):=by
    have hw:(("#":Str))=⟨#[35]⟩:=by decide+kernel
    rw [hw,bne,bne,Bool.eq_iff_iff];simp
   simp! [this]) z.cps.toList 0
  obtain⟨s',e⟩:=nr (body:=λx env=>((Tg.two 4 5).put x env).bind λag=>aD F yv ag) (mk:=λacc (s:Ci.Slot×Ci.Slot)=>[.val (fl ae),.own (.lst acc),.val (.int i),.val (.str z),s.1,s.2]) (M:=100) _ _ (L.map xa) (s4,s5) eM (λx hx o ho acc s hl=>by
   obtain⟨c,y,hy,rfl⟩:=qX hx
   obtain⟨v,_,rfl⟩:=zzx.1 hy
   have l:acc.length<cL:=zzV (m:=100) (by omega) (by decide)
   refine⟨(.val (.int c),.val (.str ⟨#[v]⟩)),?_⟩;have eB:fb (.str ⟨#[v]⟩) (.str "#")=.ok (.bl ((⟨#[v]⟩:Str) !="#")):=rfl
   cases hv:((⟨#[v]⟩:Str) !="#") with
   |true=>
    rw [hv] at eB;simp! [hv,if_true] at ho;cases ho;simp! only [yv,eB,l,Option.toList_some]
   |false=>
    rw [hv] at eB;simp! [hv,zze,if_false] at ho;cases ho;simp! only [yv,eB,Option.toList_none,zz6]) (by rw [bW,zzl,zzl];omega)
  refine⟨[.val (fl ae),.own (.lst ((L++M).map xa)),.val (.int i),.val (.str z),s'.1,s'.2],?_,L++M,_,_,_,_,List.pairwise_append.2 ⟨nd,nM,λa ha b hb=>N3 (.inl (by have h1:=((hm a.1 a.2).1 ha).1;have h2:=((hM b.1 b.2).1 hb).1;omega))⟩,?_,?_,rfl⟩
  ·rw [show(z.cps.toList.map λx=>PV.str ⟨#[x]⟩)=chars z from rfl] at e;simp! only [yv] at e;simp! only [ND,yv,Nat.zero_add,e,List.map_append]
  ·simp! [zzM];omega
  ·intro r c;rw [List.mem_append,hm,hM,jr]
   constructor
   ·rintro (⟨h1,h2⟩|⟨rfl,_,x,h3,h4⟩)
    ·exact⟨by omega,h2⟩
    ·exact⟨by omega,z,hz,x,h3,h4⟩
   ·rintro ⟨h1,w,h2,x,h3,h4⟩
    by_cases hr:r=i
    ·subst hr;rw [hz] at h2;cases h2;exact .inr ⟨rfl,Nat.zero_le _,x,h3,h4⟩
    ·exact .inl ⟨by omega,w,h2,x,h3,h4⟩)
 refine⟨L,?_,nd,(by rw [bW,zzl] at hl;omega),λr c=>?_⟩
 ·simp! only [ND,yv] at e;simp! only [cH,e,xf]
 ·rw [hm];refine⟨λh=>h.2,λh=>⟨?_,h⟩⟩
  obtain⟨z,hz,_⟩:=jr.1 h
  have:=(zzH.1 hz).1
  rw [bW,zzl];omega
def xB{ae:List Str}{L:List (Nat×Nat)}(hm:∀r c,(r,c)∈L↔wH ae r c=true)(v:List Int):v∈L.map kN↔fX ae v:=by
 rw [zzx]
 constructor
 ·rintro ⟨p,hp,rfl⟩
  exact⟨_,_,rfl,iz.2 ⟨by omega,by omega,by simpa using (hm p.1 p.2).1 hp⟩⟩
 ·rintro ⟨r,c,rfl,h⟩
  obtain⟨h0,h1,h2⟩:=iz.1 h
  exact⟨(r.toNat,c.toNat),(hm _ _).2 h2,by simp [kN,Int.toNat_of_nonneg h0,Int.toNat_of_nonneg h1]⟩
abbrev lp(m:Ks):PV:=.lst (m.map af)
def Gd(E:List Int->List Int->Int->Prop)(ks:Ks)(vs:List PV)(u:List Int):Prop:=∃T:Ks,bo ks vs u=some (lp T)/\(∀v,v∈T↔∃e,E u v e)/\T.length<=9
noncomputable def MN:Ss:=#v[.put 2 (!3) (.comp 1 [] (.one 0) (.seq (.call "steps_from" #v[!0,!1,!3])) (.sub (!0) (¬0)))]
theorem nO(F:aH)(hs:jX F){ae:List Str}{w:Nat}(L:Fl ae w){sl:Bool}{cl pr:Int}(V:Wk cl pr):∀(Q:Ks) (ks:Ks) (vs:List PV) (s3:Ci.Slot),(∀u∈Q,fX ae u)->ks.length=vs.length->ks.length+Q.length<=100->∃MM EK G6,forL (λx env=>((Tg.one 3).put x env).bind λag=>aD F MN ag) (Q.map af) [.val (fl ae),.val (wk sl cl pr),.own (.bx ks vs),s3]=.ok (.nx [.val (fl ae),.val (wk sl cl pr),.own (.bx MM EK),G6])/\∀u,u∈Q\/Gd (E1 ae sl cl pr) ks vs u->Gd (E1 ae sl cl pr) MM EK u
 |[],ks,vs,s3,_,_,_=>⟨ks,vs,s3,rfl,λu h=>h.elim (λz=>by cases z) id⟩
 |k::Q,ks,vs,s3,hO,he,hl=>by
  rw [zzL] at hl;have g:=nL ks k
  obtain⟨a,b,rfl,ho⟩:=hO k (zzP ..)
  obtain⟨T,e1,lT,hT⟩:=hs ae w L sl cl pr V a b ho
  have Oh:T.length<cL:=zzV lT (by decide)
  have lk:ks.length<cL:=zzV (m:=100) (by omega) (by decide)
  have t0:∀t:List Int×Int,aJ (tK t) (.int 0)=.ok (af t.1):=λt=>rfl
  have em:(T.map λt=>af t.1)=(T.map (·.1)).map af:=by rw [List.map_map];rfl
  obtain⟨MM,EK,G6,e,h⟩:=nO F hs L V Q (bF ks [a,b]) (cM ks vs [a,b] (lp (T.map (·.1)))) (.val (af [a,b])) (λu hu=>hO u (zzI _ hu)) (rA he ..) (by omega)
  refine⟨MM,EK,G6,?_,λu hu=>h u ?_⟩
  ·have eb:(((Tg.one 3).put (af [a,b]) [.val (fl ae),.val (wk sl cl pr),.own (.bx ks vs),s3]).bind λag=>aD F MN ag)=.ok (.nx [.val (fl ae),.val (wk sl cl pr),.own (.bx (bF ks [a,b]) (cM ks vs [a,b] (lp (T.map (·.1))))),.val (af [a,b])]):=by
    simp! only [MN,e1,zzl,Oh];rw [aZ (p:=tK) (g:=λt=>af t.1) (λt _=>by simp! only [t0]),em];simp! only [dF,lk]
   rw [zzF,forL,eb,iQ];exact e
  ·by_cases hk:[a,b]=u
   ·subst hk;refine .inr ⟨T.map (·.1),by rw [lF he,if_pos rfl],λv=>?_,by rw [zzl];exact lT⟩
    rw [zzx];exact⟨λ⟨t,ht,q⟩=>⟨t.2,(hT _ _).1 (q▸ht)⟩,λ⟨e,q⟩=>⟨(v,e),(hT v e).2 q,rfl⟩⟩
   ·rcases hu with hu|⟨T',q1,q2⟩
    ·exact .inl ((zzm.1 hu).elim (λz=>absurd z.symm hk) id)
    ·exact .inr ⟨T',by rw [lF he,if_neg hk];exact q1,q2⟩
def Ba(f:List PV->Res PV):Prop:=∀ae w,Fl ae w->∀sl cl pr,Wk cl pr->∃ks vs,f [fl ae,wk sl cl pr]=.ok (.bx ks vs)/\∀u,fX ae u->Gd (E1 ae sl cl pr) ks vs u
def DG(F:aH)(hs:jX F)(ho:Ad (F "open_spots")):Ba (aq F cD):=by
 intro ae w L sl cl pr V;obtain⟨Sp,e1,up,l36,hm⟩:=ho ae L.vf
 have es:Sp.map xa=(Sp.map kN).map af:=by rw [List.map_map];rfl
 obtain⟨ks,vs,s3,e,h⟩:=nO F hs L (sl:=sl) V (Sp.map kN) [] [] .no (λu hu=>(xB hm u).1 hu) rfl (by rw [zzl,List.length_nil];omega)
 refine⟨ks,vs,?_,λu hu=>h u (.inl ((xB hm u).2 hu))⟩
 simp! only [MN] at e;simp! only [cD,e1,es,e,xf]
def av(w:Ks)(t:Nat):List Int:=w.getD (min t (w.length-1)) []
def gU{w:Ks}{t:Nat}(h:t<w.length):av w t=w[t]:=by
 unfold av;rw [Nat.min_eq_left (by omega),zzK,zzg h]
 rfl
def fS{w:Ks}{t:Nat}(h:w.length-1<=t):av w t=av w (w.length-1):=by
 unfold av;rw [Nat.min_eq_right h,Nat.min_self]
def dO{w:Ks}(hw:w≠[])(t:Nat):w[min t (w.length-1)]?=some (av w t):=by
 have h:min t (w.length-1)<w.length:=by have:=List.length_pos_iff.2 hw;omega
 unfold av;rw [zzK,zzg h]
 rfl
def uF{w:Ks}(hw:w≠[])(t:Nat):av w t∈w:=zzD (dO hw t)
section
variable(E:List Int->List Int->Int->Prop)(W:List Ks)
def Nb(p o:List Int):Prop:=o=p\/∃e,E p o e
def Mv(t:Nat)(p o:List Int):Prop:=∀w∈W,av w (t+1)≠o/\¬(av w t=o/\av w (t+1)=p)
def Rc(s:List Int):Nat->List Int->Prop
 |0,x=>x=s
 |t+1,x=>∃p,Rc s t p/\Nb E p x/\Mv W t p x
def wa(g:List Int)(T:Nat):Prop:=∀w∈W,∀i,T<=i->w[i]?≠some g
end
section
variable{E:List Int->List Int->Int->Prop}{W:List Ks}{s:List Int}
theorem oZ{O:List Int->Prop}(hE:∀u v e,E u v e->O v)(hs:O s):∀{t x},Rc E W s t x->O x
 |0,x,h=>by rw [show x=s from h];exact hs
 |t+1,x,⟨p,h,n,_⟩=>by
  rcases n with rfl|⟨e,n⟩
  ·exact oZ hE hs h
  ·exact hE _ _ _ n
theorem DR(h0:∀w∈W,av w 0≠s):∀{t x},Rc E W s t x->∀w∈W,av w t≠x
 |0,x,h,w,hw=>by rw [show x=s from h];exact h0 w hw
 |t+1,x,⟨p,_,_,m⟩,w,hw=>(m w hw).1
def Still(W:List Ks)(st:Nat):Prop:=∀w∈W,w.length-1<=st
def Still.at{st:Nat}(h:Still W st){w:Ks}(hw:w∈W){t:Nat}(ht:st<=t):av w t=av w st:=by
 rw [fS (zzU (h w hw) ht),fS (h w hw)]
def CN{st:Nat}(cO:Still W st)(h0:∀w∈W,av w 0≠s){t:Nat}(ht:st<=t){x:List Int}(h:Rc E W s t x):Rc E W s (t+1) x:=by
 refine⟨x,h,.inl rfl,λw hw=>?_⟩
 have e:av w (t+1)=av w t:=by rw [cO.at hw (Nat.le_succ_of_le ht),cO.at hw ht]
 have:=DR h0 h w hw
 exact⟨by rw [e];exact this,λz=>this z.1⟩
def rK{st:Nat}(cO:Still W st){t t':Nat}(ht:st<=t)(MP:st<=t'){p o:List Int}:Mv W t p o↔Mv W t' p o:=by
 unfold Mv
 constructor<;>intro h w hw<;>have:=h w hw
 ·rw [cO.at hw (Nat.le_succ_of_le ht),cO.at hw ht] at this
  rwa [cO.at hw (Nat.le_succ_of_le MP),cO.at hw MP]
 ·rw [cO.at hw (Nat.le_succ_of_le MP),cO.at hw MP] at this
  rwa [cO.at hw (Nat.le_succ_of_le ht),cO.at hw ht]
theorem kZ{st:Nat}(cO:Still W st){t:Nat}(ht:st<=t)(h:∀x,Rc E W s (t+1) x↔Rc E W s t x):∀(k:Nat) (x:List Int),Rc E W s (t+k) x↔Rc E W s t x
 |0,x=>Iff.rfl
 |k+1,x=>by
  rw [<-h x];show(∃p,Rc E W s (t+k) p/\Nb E p x/\Mv W (t+k) p x)↔∃p,Rc E W s t p/\Nb E p x/\Mv W t p x
  constructor
  ·rintro ⟨p,h1,h2,h3⟩
   exact⟨p,(kZ cO ht h k p).1 h1,h2,(rK cO (by omega) ht).1 h3⟩
  ·rintro ⟨p,h1,h2,h3⟩
   exact⟨p,(kZ cO ht h k p).2 h1,h2,(rK cO ht (by omega)).1 h3⟩
end
def Ap(a b:Ks):Prop:=∀t,av a t≠av b t/\¬(av a t=av b (t+1)/\av a (t+1)=av b t)
def Ap.symm{a b:Ks}(h:Ap a b):Ap b a:=λt=>⟨λz=>(h t).1 z.symm,λz=>(h t).2 ⟨z.2.symm,z.1.symm⟩⟩
structure Wy(E:List Int->List Int->Int->Prop)(O:List Int->Prop)(n:Nat)(W:List Ks)(s g:List Int)(B:Nat)(l:Ks):Prop where
 ne:l≠[]
 len:l.length<=B
 op:∀x∈l,O x
 fst:av l 0=s
 lst:av l (l.length-1)=g
 go:∀j,j+1<l.length->Nb E (av l j) (av l (j+1))/\Mv W j (av l j) (av l (j+1))
 free:wa W g (l.length-1)
 least:∀T,T<l.length-1->¬(Rc E W s T g/\wa W g T)
 bd:∀M,(∀w∈W,w.length<=M)->l.length<=M+n+1
def Q0(E:List Int->List Int->Int->Prop)(O:List Int->Prop)(n:Nat)(W:List Ks)(s g:List Int)(B:Nat):Option Ks->Prop
 |none=>∀T,¬(Rc E W s T g/\wa W g T)
 |some l=>Wy E O n W s g B l
def wa.at{W:List Ks}{g:List Int}{T:Nat}(h:wa W g T){w:Ks}(hw:w∈W)(ne:w≠[])(he:av w (w.length-1)≠g){t:Nat}(ht:T<=t):av w t≠g:=by
 by_cases hl:t<=w.length-1
 ·intro z;have:=dO ne t
  rw [Nat.min_eq_left hl,z] at this;exact h w hw t ht this
 ·rw [fS (by omega)];exact he
def Wy.ap{E:List Int->List Int->Int->Prop}{O:List Int->Prop}{n:Nat}{W:List Ks}{s g:List Int}{B:Nat}{l:Ks}(h:Wy E O n W s g B l){w:Ks}(hw:w∈W)(ne:w≠[])(h0:av w 0≠s)(he:av w (w.length-1)≠g):Ap l w:=by
 have lp:=List.length_pos_iff.2 h.ne
 have Lk:∀t,av w t≠av l t:=λt=>by
  by_cases ht:t<=l.length-1
  ·cases t with
   |zero=>rw [h.fst];exact h0
   |succ t=>exact((h.go t (by omega)).2 w hw).1
  ·rw [fS (w:=l) (by omega),h.lst];exact h.free.at hw ne he (by omega)
 intro t;refine⟨λz=>Lk t z.symm,λz=>?_⟩
 by_cases ht:t+1<l.length
 ·exact((h.go t ht).2 w hw).2 ⟨z.2.symm,z.1.symm⟩
 ·have e1:av l t=g:=by rw [fS (w:=l) (by omega),h.lst]
  exact h.free.at hw ne he (t:=t+1) (by omega) (by rw [<-z.1,e1])
def iH{W:Ks}{k:Nat}{x:List Int}(hk:W[k]?=some x):aJ (lp W) (.int (k:Nat))=.ok (af x):=by
 show Res.of (qc (W.map af) (k:Int))=_
 rw [iX (k:=k) (by simpa using (zzH.1 hk).1),List.getElem_map,(zzH.1 hk).2]
 rfl
theorem Tp{i j:Int}:bC .min2 [.int i,.int j]=.ok (.int (if j<i then j else i)):=rfl
abbrev eC(W:List Ks):PV:=.lst (W.map lp)
def Pz(F:aH):Prop:=∀w:Ks,w≠[]->∀t:Nat,F "spot_at" [lp w,.int (t:Int)]=.ok (af (av w t))
def wg(F:aH)(w:Ks)(hw:w≠[])(t:Nat):aq F dM [lp w,.int (t:Int)]=.ok (af (av w t)):=by
 have h:=List.length_pos_iff.2 hw
 have e:=iH (dO hw t)
 have m:(if((w.map af).length:Int)-1<(t:Int) then((w.map af).length:Int)-1 else(t:Int))=((min t (w.length-1):Nat):Int):=by
  rw [zzl];split<;>omega
 simp! only [dM,Tp,m,e]
def p7(W:List Ks)(t:Nat):PV:=.lst (W.map λw=>.tup [af (av w t),af (av w (t+1))])
def zP(F:aH):Prop:=∀W:List Ks,(∀w∈W,w≠[])->W.length<=100->∀t:Nat,F "moves_at" [eC W,.int (t:Int)]=.ok (p7 W t)
def sf(F:aH)(hs:Pz F)(W:List Ks)(hW:∀w∈W,w≠[])(hl:W.length<=100)(t:Nat):aq F cB [eC W,.int (t:Int)]=.ok (p7 W t):=by
 have l:W.length<cL:=zzV hl (by decide)
 simp! only [cB,zzl,l];rw [aZ (p:=lp) (g:=λw=>.tup [af (av w t),af (av w (t+1))]) λw hw=>?_]
 ·rfl
 ·have e2:=hs w (hW w hw) (t+1)
  rw [Int.natCast_add] at e2;simp! only [hs w (hW w hw) t];rw [show((1:Nat):Int)=1 from rfl] at e2;simp! only [e2]
def GQ:Ss:=#v[.ite (.cmp .eq (!5) (!1)) #v[.set 2 (.blt .max2 #v[!2,.bin .add (!4) (¬1)])] .nil]
def OJ:Ss:=#v[.bX (.two 4 5) (.enum (!3)) GQ]
def Lf(W:List Ks)(g:List Int)(D:Ks->Nat->Prop)(L:Nat):Prop:=(∀w i,D w i->w[i]?=some g->i<L)/\(L=0\/∃w∈W,∃i,w[i]?=some g/\L=i+1)
def BN(F:aH)(W:List Ks)(g:List Int):∃L:Nat,aq F cS [eC W,af g]=.ok (.int (L:Int))/\Lf W g (λw _=>w∈W) L:=by
 obtain⟨ag,e,L,s3,s4,s5,rfl,hL⟩:=cu (body:=λx env=>((Tg.one 3).put x env).bind λag=>aD F OJ ag) (P:=λi env=>∃(L:Nat) (s3 s4 s5:Ci.Slot),env=[.val (eC W),.val (af g),.val (.int (L:Int)),s3,s4,s5]/\Lf W g (λw _=>∃j,j<i/\W[j]?=some w) L)
  (W.map lp) 0 [.val (eC W),.val (af g),.val (.int 0),.no,.no,.no] ⟨0,_,_,_,rfl,(λw i ⟨j,h,_⟩=>absurd h (Nat.not_lt_zero _)),.inl rfl⟩ (by
  intro j x env hx ⟨L,s3,s4,s5,he,hL⟩;subst he;rw [zzQ,zzJ] at hx;obtain⟨w,hw,rfl⟩:=hx
  rw [Nat.zero_add] at hL⊢;obtain⟨ag,e,L',t4,t5,rfl,hL'⟩:=cu (body:=λx env=>((Tg.two 4 5).put x env).bind λag=>aD F GQ ag) (P:=λi env=>∃(L:Nat) (s4 s5:Ci.Slot),env=[.val (eC W),.val (af g),.val (.int (L:Int)),.val (lp w),s4,s5]/\Lf W g (λv m=>(∃k,k<j/\W[k]?=some v)\/(v=w/\m<i)) L)
   (bL 0 (w.map af)) 0 [.val (eC W),.val (af g),.val (.int (L:Int)),.val (lp w),s4,s5] ⟨L,_,_,rfl,(λv m h=>h.elim (λh=>hL.1 v m h) λh=>absurd h.2 (Nat.not_lt_zero _)),hL.2⟩ (by
   intro i y env hy ⟨L,s4,s5,he,hL⟩;subst he;rw [Nat.zero_add] at hL⊢;obtain⟨z,hz,rfl⟩:=jZ hy
   rw [zzQ,zzJ] at hz;obtain⟨x,hx,rfl⟩:=hz
   rw [Nat.zero_add];have eq:=EM x g
   by_cases h:x=g
   ·subst h;rw [zzh rfl] at eq;have m:(if(i:Int)+1>(L:Int) then(i:Int)+1 else(L:Int))=((max L (i+1):Nat):Int):=by split<;>omega
    refine⟨[.val (eC W),.val (af x),.val (.int ((max L (i+1):Nat):Int)),.val (lp w),.val (.int (i:Int)),.val (af x)],?_,max L (i+1),_,_,rfl,λv n hv hn=>?_,?_⟩
    ·simp! only [GQ,eq,m]
    ·rcases hv with hv|⟨rfl,hv⟩
     ·have:=hL.1 v n (.inl hv) hn;omega
     ·by_cases hni:n=i
      ·omega
      ·have:=hL.1 v n (.inr ⟨rfl,by omega⟩) hn;omega
    ·rcases Nat.le_total (i+1) L with hm|hm
     ·rw [Nat.max_eq_left hm];exact hL.2
     ·rw [Nat.max_eq_right hm];exact .inr ⟨w,zzD hw,i,hx,rfl⟩
   ·rw [zz0 h] at eq;refine⟨[.val (eC W),.val (af g),.val (.int (L:Int)),.val (lp w),.val (.int (i:Int)),.val (af x)],?_,L,_,_,rfl,λv n hv hn=>?_,hL.2⟩
    ·simp! only [GQ,eq]
    ·rcases hv with hv|⟨rfl,hv⟩
     ·exact hL.1 v n (.inl hv) hn
     ·by_cases hni:n=i
      ·subst hni;rw [hx] at hn;cases hn;exact absurd rfl h
      ·exact hL.1 v n (.inr ⟨rfl,by omega⟩) hn)
  refine⟨[.val (eC W),.val (af g),.val (.int (L':Int)),.val (lp w),t4,t5],?_,L',_,t4,t5,rfl,λv n hv hn=>?_,hL'.2⟩
  ·simp! only [GQ] at e;simp! only [OJ,GQ,e]
  ·obtain⟨k,hk,hv⟩:=hv
   by_cases hkj:k=j
   ·subst hkj;rw [hw] at hv;cases hv;refine hL'.1 _ n (.inr ⟨rfl,?_⟩) hn;rw [Nat.zero_add,bW,zzl];exact(zzH.1 hn).1
   ·exact hL'.1 v n (.inl ⟨k,by omega,hv⟩) hn)
 refine⟨L,?_,λw i hw hi=>hL.1 w i ?_ hi,hL.2⟩
 ·simp! only [OJ,GQ] at e;simp! only [cS,e]
 ·obtain⟨j,hj⟩:=List.getElem?_of_mem hw
  exact⟨j,by rw [Nat.zero_add,zzl];exact(zzH.1 hj).1,hj⟩
def Lf.free{W:List Ks}{g:List Int}{L:Nat}(h:Lf W g (λw _=>w∈W) L){T:Nat}:wa W g T↔L<=T:=by
 constructor
 ·intro f;rcases h.2 with h0|⟨w,hw,i,hi,hl⟩
  ·omega
  ·have:¬T<=i:=λz=>f w hw i z hi
   omega
 ·intro l w hw i hi z;have:=h.1 w i hw z
  omega
theorem qx{ns:List Int}:∀j,j<ns.length->∃i,i<=j/\cP ns j=ns.getD i 0
 |0,_=>⟨0,zzE _,rfl⟩
 |j+1,h=>by
  obtain⟨i,h1,h2⟩:=qx (ns:=ns) j (by omega)
  rw [cP];split
  ·exact⟨j+1,zzE _,rfl⟩
  ·exact⟨i,by omega,h2⟩
theorem qG{ns:List Int}:∀j i,i<=j->ns.getD i 0<=cP ns j
 |0,i,h=>by rw [Nat.le_zero.1 h];exact Int.le_refl _
 |j+1,i,h=>by
  rw [cP]
  by_cases hi:i=j+1
  ·subst hi;split<;>omega
  ·have:=qG (ns:=ns) j i (by omega)
   split<;>omega
def v8{ns:List Int}(h:ns≠[]):(∀n∈ns,n<=cP ns (ns.length-1))/\cP ns (ns.length-1)∈ns:=by
 have hl:=List.length_pos_iff.2 h
 have gd:∀i (hi:i<ns.length),ns.getD i 0=ns[i]:=λi hi=>by simp [zzK,zzg hi]
 refine⟨λn hn=>?_,?_⟩
 ·obtain⟨i,hi,rfl⟩:=List.getElem_of_mem hn
  rw [<-gd i hi];exact qG _ i (by omega)
 ·obtain⟨i,h1,h2⟩:=qx (ns:=ns) (ns.length-1) (by omega)
  rw [h2,gd i (by omega)];exact List.getElem_mem _
def pH(W:List Ks)(st:Nat):Prop:=Still W st/\(st=0\/∃w∈W,w.length-1=st)
def xM(F:aH)(W:List Ks)(hW:∀w∈W,w≠[])(hl:W.length<=100):∃st:Nat,aq F br [eC W]=.ok (.int (st:Int))/\pH W st:=by
 have l:W.length<cL:=zzV hl (by decide)
 have ev:aq F br [eC W]=.ok (.int (L2.maxD (W.map λw=>(w.length:Int)-1) 0)):=by
  have io:intsOf (W.map λw=>PV.int ((w.length:Int)-1))=some (W.map λw=>(w.length:Int)-1):=by
   have:=gK (W.map λw=>(w.length:Int)-1)
   rwa [List.map_map] at this
  simp! only [br,zzl,l];rw [aZ (p:=lp) (g:=λw=>.int ((w.length:Int)-1)) λw hw=>by simp! only [zzl]]
  simp! only [io]
 rw [ev];unfold L2.maxD
 by_cases h:W=[]
 ·subst h;exact⟨0,rfl,(λw hw=>nomatch hw),.inl rfl⟩
 ·have eB:(W.map λw=>(w.length:Int)-1)≠[]:=λz=>h (List.map_eq_nil_iff.1 z)
  rw [if_neg eB];obtain⟨h1,h2⟩:=v8 eB
  obtain⟨w,hw,e⟩:=zzx.1 h2
  have hp:=List.length_pos_iff.2 (hW w hw)
  refine⟨w.length-1,by rw [<-e,show((w.length-1:Nat):Int)=(w.length:Int)-1 by omega],λv hv=>?_,.inr ⟨w,hw,rfl⟩⟩
  have:=h1 _ (List.mem_map_of_mem hv)
  rw [<-e] at this;omega
theorem nB{α:Type}:∀(ps:List (List Int×α)) (ks:Ks) (vs:List α),(ks++ps.map (·.1)).Nodup->b8 ps ks vs=(ks++ps.map (·.1),vs++ps.map (·.2))
 |[],ks,vs,_=>by simp [b8]
 |p::ps,ks,vs,h=>by
  have hn:cZ ks p.1=false:=by
   cases hx:cZ ks p.1 with
   |false=>rfl
   |true=>
    have:=(List.nodup_append.1 h).2.2 _ (da.1 hx) p.1 (by simp)
    exact absurd rfl this
  have hm:=nB ps (ks++[p.1]) (vs++[p.2]) (by rw [List.append_assoc];exact h)
  rw [b8,bF,cM,hn,if_neg (by simp),if_neg (by simp),hm,List.append_assoc,List.append_assoc]
  rfl
def jo{U:Ks}{ks:Ks}(nd:ks.Nodup)(h:∀k∈ks,k∈U):ks.length<=U.length:=by
 induction ks generalizing U with
 |nil=>exact Nat.zero_le _
 |cons a ks ih=>
  obtain⟨n1,n2⟩:=List.nodup_cons.1 nd
  have ha:=h a (zzP ..)
  have:=ih (U:=U.erase a) n2 λk hk=>(List.mem_erase_of_ne (λz:k=a=>n1 (by rw [<-z];exact hk))).2 (h k (zzI _ hk))
  rw [List.length_erase_of_mem ha] at this;have:=List.length_pos_of_mem ha
  rw [zzL];omega
theorem kL{α:Type}{body:PV->Sl->Res Ci.Fl}{g:α->PV}{P:List α->Sl->Prop}:∀(l pre:List α) (env:Sl),(∀a∈l,∀pre env,P pre env->∃ag,body (g a) env=.ok (.nx ag)/\P (a::pre) ag)->P pre env->∃ag,forL body (l.map g) env=.ok (.nx ag)/\P (l.reverse++pre) ag
 |[],pre,env,_,h=>⟨env,rfl,h⟩
 |a::l,pre,env,h,h0=>by
  obtain⟨e1,b1,p1⟩:=h a (zzP ..) pre env h0
  obtain⟨e2,b2,p2⟩:=kL l (a::pre) e1 (λb hb=>h b (zzI _ hb)) p1
  exact⟨e2,by simp! [zzF,forL,b1,iQ,b2],by rw [List.reverse_cons,List.append_assoc];exact p2⟩
theorem yC:∀L:List (List Int×PV),qw (L.map λq=>.tup [af q.1,q.2])=some L
 |[]=>rfl
 |q::L=>by
  show(fh (af q.1)).bind (λk'=>(qw (L.map λq=>.tup [af q.1,q.2])).map ((k',q.2)::·))=_
  rw [dF,yC L]
  rfl
def se{L:List (List Int×PV)}(nd:(L.map (·.1)).Nodup):bC .dict [.lst (L.map λq=>.tup [af q.1,q.2])]=.ok (.bx (L.map (·.1)) (L.map (·.2))):=by
 show(Res.of (qw _)).bind _=_
 rw [yC];show Res.ok (PV.bx (b8 L [] []).1 (b8 L [] []).2)=_
 rw [nB _ _ _ (by rw [List.nil_append];exact nd)]
 rfl
theorem kF{α β:Type}{f:α->List Int}{g:α->β}:∀{L:List α} {w:α},(L.map f).Nodup->w∈L->bo (L.map f) (L.map g) (f w)=some (g w)
 |a::L,w,nd,h=>by
  obtain⟨n1,n2⟩:=List.nodup_cons.1 nd
  show(if f a=f w then some (g a) else bo (L.map f) (L.map g) (f w))=_
  rcases zzm.1 h with rfl|h
  ·rw [if_pos rfl]
  ·rw [if_neg λz=>n1 (by rw [z];exact List.mem_map_of_mem h)]
   exact kF n2 h
theorem oy{α β:Type}{f:α->List Int}{g:α->β}{o:List Int}:∀{L:List α},(∀w∈L,f w≠o)->bo (L.map f) (L.map g) o=none
 |[],_=>rfl
 |a::L,h=>by
  show(if f a=o then some (g a) else bo (L.map f) (L.map g) o)=_
  rw [if_neg (h a (zzP ..))];exact oy λw hw=>h w (zzI _ hw)
def neN(p:List Int):fb .aC (af p)=.ok (.bl true):=by
 show(if(Ci.plain 9 .aC&&Ci.plain 9 (af p))=true then Res.ok (PV.bl (!ib 9 .aC (af p))) else .bad)=_
 rw [eZ 8]
 rfl
def yo{W:List Ks}(h:W.Pairwise Ap)(t:Nat):(W.map λw=>av w t).Nodup:=List.pairwise_map.2 (h.imp λ{a b} h=>(h t).1)
noncomputable def AY:Ss:=#v[.ite (.and (.cmp .rP (!7) (!4)) (.cmp .ne (.get (!3) (!7)) (!6))) #v[.put 5 (!7) (!6)] .nil]
noncomputable def M3:Ss:=#v[.bX (.one 7) (.seq (.bin .add (.lst #v[!6]) (.sub (!0) (!6)))) AY]
abbrev Jv(W:List Ks)(t:Nat):PV:=.bx (W.map λw=>av w t) (W.map λw=>af (av w (t+1)))
abbrev Oy(W:List Ks)(t:Nat):PV:=.bx (W.map λw=>av w (t+1)) (W.map λ_=>.bl true)
abbrev sV(A B C:PV)(W:List Ks)(t:Nat)(kl:Ks)(vl:List PV)(s6 s7:Ci.Slot):Sl:=[.val A,.val B,.val C,.val (Jv W t),.val (Oy W t),.own (.bx kl vl),s6,s7]
section
variable{O:List Int->Prop}{W:List Ks}{t:Nat}{A B C:PV}
structure Nx(O:List Int->Prop)(D:List Int->List Int->Prop)(kl:Ks)(vl:List PV):Prop where
 len:kl.length=vl.length
 nd:kl.Nodup
 op:∀o∈kl,O o
 val:∀o q,bo kl vl o=some q->∃p,q=af p/\D p o
 all:∀p o,D p o->o∈kl
def Je(F:aH)(hO:∀u,O u->u∈E6)(FT:W.Pairwise Ap){D:List Int->List Int->Prop}{p o:List Int}(ho:O o){kl:Ks}{vl:List PV}(N:Nx O D kl vl)(s7:Ci.Slot):
 ∃zH zI,(((Tg.one 7).put (af o) (sV A B C W t kl vl (.val (af p)) s7)).bind λag=>aD F AY ag)=.ok (.nx (sV A B C W t zH zI (.val (af p)) (.val (af o))))/\Nx O (λp' o'=>D p' o'\/(p'=p/\o'=o/\Mv W t p o)) zH zI:=by
 have Px:=yo FT t
 have e1:fK (af o) (Oy W t)=.ok (.bl (!cZ (W.map λw=>av w (t+1)) o)):=JF
 have l:kl.length<cL:=zzV (zzU (jo N.nd λk hk=>hO k (N.op k hk)) (Nat.le_of_eq C6)) (by decide)
 have gj:¬Mv W t p o->Nx O (λp' o'=>D p' o'\/(p'=p/\o'=o/\Mv W t p o)) kl vl:=λh=>
  ⟨N.len,N.nd,N.op,λo q hq=>(N.val o q hq).imp λp h=>⟨h.1,.inl h.2⟩,λp' o' h'=>h'.elim (N.all p' o') λz=>absurd z.2.2 h⟩
 by_cases h1:∃w∈W,av w (t+1)=o
 ·obtain⟨w,hw,e⟩:=h1
  have hg:cZ (W.map λw=>av w (t+1)) o=true:=da.2 (zzx.2 ⟨w,hw,e⟩)
  rw [hg] at e1;refine⟨kl,vl,?_,gj λm=>(m w hw).1 e⟩
  simp! only [AY,sV,e1]
 ·have hg:cZ (W.map λw=>av w (t+1)) o=false:=by
   cases hx:cZ (W.map λw=>av w (t+1)) o with
   |false=>rfl
   |true=>obtain⟨w,hw,e⟩:=zzx.1 (da.1 hx);exact absurd ⟨w,hw,e⟩ h1
  rw [hg] at e1;have put:Mv W t p o->Nx O (λp' o'=>D p' o'\/(p'=p/\o'=o/\Mv W t p o)) (bF kl o) (cM kl vl o (af p)):=λm=>by
   have gp:=lF N.len o (af p)
   refine⟨rA N.len _ _,i3 N.nd _,λx hx=>?_,λx q hq=>?_,λp' o' h'=>?_⟩
   ·unfold bF at hx;split at hx
    ·exact N.op x hx
    ·rcases List.mem_append.1 hx with hx|hx
     ·exact N.op x hx
     ·rw [zzi.1 hx];exact ho
   ·rw [gp] at hq;split at hq
    ·rename_i z;subst z;cases hq;exact⟨p,rfl,.inr ⟨rfl,rfl,m⟩⟩
    ·exact(N.val x q hq).imp λp h=>⟨h.1,.inl h.2⟩
   ·unfold bF;rcases h' with h'|⟨_,rfl,_⟩
    ·have:=N.all p' o' h'
     split
     ·exact this
     ·exact List.mem_append.2 (.inl this)
    ·split
     ·rename_i z;exact da.1 z
     ·exact List.mem_append.2 (.inr (zzi.2 rfl))
  by_cases h2:∃w∈W,av w t=o
  ·obtain⟨w,hw,e⟩:=h2
   have e2:(bo (W.map λw=>av w t) (W.map λw=>af (av w (t+1))) o).getD .aC=af (av w (t+1)):=by
    rw [<-e,kF (f:=λw=>av w t) (g:=λw=>af (av w (t+1))) Px hw]
    rfl
   have e3:=J6 (av w (t+1)) p
   by_cases h3:av w (t+1)=p
   ·rw [zzh h3] at e3;refine⟨kl,vl,?_,gj λm=>(m w hw).2 ⟨e,h3⟩⟩
    simp! only [AY,sV,e1,dF,e2,e3]
   ·rw [zz0 h3] at e3;have m:Mv W t p o:=λv hv=>⟨λz=>h1 ⟨v,hv,z⟩,λz=>by
     have:v=w:=by
      by_cases hvw:v=w
      ·exact hvw
      ·have g1:=kF (f:=λw=>av w t) (g:=λw=>av w (t+1)) Px hv
       have g2:=kF (f:=λw=>av w t) (g:=λw=>av w (t+1)) Px hw
       rw [show av v t=av w t by rw [z.1,e]] at g1;rw [g1] at g2;exact absurd ((zzq g2).symm.trans z.2) h3
     subst this;exact h3 z.2⟩
    refine⟨_,_,?_,put m⟩;simp! only [AY,sV,e1,dF,e2,e3,l]
  ·have e2:(bo (W.map λw=>av w t) (W.map λw=>af (av w (t+1))) o).getD .aC=.aC:=by
    rw [oy (f:=λw=>av w t) (g:=λw=>af (av w (t+1))) λw hw z=>h2 ⟨w,hw,z⟩]
    rfl
   have e3:=neN p
   have m:Mv W t p o:=λv hv=>⟨λz=>h1 ⟨v,hv,z⟩,λz=>h2 ⟨v,hv,z.1⟩⟩
   refine⟨_,_,?_,put m⟩;simp! only [AY,sV,e1,dF,e2,e3,l]
def IX(F:aH){E:List Int->List Int->Int->Prop}(hE:∀u v e,E u v e->O v)(hO:∀u,O u->u∈E6){ks:Ks}{vs:List PV}(FT:W.Pairwise Ap){D:List Int->List Int->Prop}{p:List Int}(hp:O p)(Ko:Gd E ks vs p){kl:Ks}{vl:List PV}(N:Nx O D kl vl)(s6 s7:Ci.Slot):
 ∃zH zI Fc,(((Tg.one 6).put (af p) (sV (.bx ks vs) B C W t kl vl s6 s7)).bind λag=>aD F M3 ag)=.ok (.nx (sV (.bx ks vs) B C W t zH zI (.val (af p)) Fc))/\Nx O (λp' o'=>D p' o'\/(p'=p/\Nb E p o'/\Mv W t p o')) zH zI:=by
 obtain⟨T,eT,hm,lT⟩:=Ko
 have e1:aJ (.bx ks vs) (af p)=.ok (lp T):=by
  show(Res.of (fh (af p))).bind (λk=>Res.of (bo ks vs k))=_
  rw [dF];show Res.of (bo ks vs p)=_
  rw [eT]
  rfl
 have l:1+(T.map af).length<=cL:=zzU (m:=101) (by rw [zzl];omega) (by decide)
 obtain⟨ag,e2,zH,zI,Fc,rfl,N'⟩:=kL (body:=λx env=>((Tg.one 7).put x env).bind λag=>aD F AY ag) (g:=af) (P:=λpre env=>∃kl vl s7,env=sV (.bx ks vs) B C W t kl vl (.val (af p)) s7/\Nx O (λp' o'=>D p' o'\/(p'=p/\o'∈pre/\Mv W t p o')) kl vl) (p::T) [] (sV (.bx ks vs) B C W t kl vl (.val (af p)) s7) (λo ho pre env hj=>by
  obtain⟨kl,vl,s7,rfl,N⟩:=hj
  have oo:O o:=by
   rcases zzm.1 ho with rfl|ho
   ·exact hp
   ·obtain⟨e,he⟩:=(hm o).1 ho;exact hE _ _ _ he
  obtain⟨zH,zI,e,N'⟩:=Je F (A:=.bx ks vs) (B:=B) (C:=C) hO FT oo (p:=p) N s7
  refine⟨_,e,zH,zI,_,rfl,N'.len,N'.nd,N'.op,λo' q hq=>?_,λp' o' h'=>N'.all p' o' ?_⟩
  ·obtain⟨p',h1,h2⟩:=N'.val o' q hq
   refine⟨p',h1,?_⟩;rcases h2 with(h2|⟨a,b,c⟩)|⟨a,b,c⟩
   ·exact .inl h2
   ·exact .inr ⟨a,zzI _ b,c⟩
   ·exact .inr ⟨a,by rw [b];exact zzP ..,by rw [b];exact c⟩
  ·rcases h' with h'|⟨a,b,c⟩
   ·exact .inl (.inl h')
   ·rcases zzm.1 b with rfl|b
    ·exact .inr ⟨a,rfl,c⟩
    ·exact .inl (.inr ⟨a,b,c⟩)) ⟨kl,vl,s7,rfl,N.len,N.nd,N.op,λo q hq=>(N.val o q hq).imp λp h=>⟨h.1,.inl h.2⟩,λp' o' h'=>N.all p' o' (h'.elim id λz=>nomatch z.2.1)⟩
 refine⟨zH,zI,Fc,?_,N'.len,N'.nd,N'.op,λo q hq=>?_,λp' o' h'=>N'.all p' o' ?_⟩
 ·simp! only [AY,sV,zzF] at e2;simp! only [M3,AY,sV,e1,l,e2]
 ·obtain⟨p',h1,h2⟩:=N'.val o q hq
  refine⟨p',h1,h2.imp_right λ⟨a,b,c⟩=>⟨a,?_,c⟩⟩
  rw [zz6,List.mem_reverse] at b;rcases zzm.1 b with rfl|b
  ·exact .inl rfl
  ·exact .inr ((hm o).1 b)
 ·refine h'.imp_right λ⟨a,b,c⟩=>⟨a,?_,c⟩
  rw [zz6,List.mem_reverse];rcases b with rfl|b
  ·exact zzP ..
  ·exact zzI _ ((hm o').2 b)
end
def CC(F:aH){E:List Int->List Int->Int->Prop}{O:List Int->Prop}(hE:∀u v e,E u v e->O v)(hO:∀u,O u->u∈E6){ks:Ks}{vs:List PV}(Ko:∀u,O u->Gd E ks vs u){W:List Ks}(FT:W.Pairwise Ap)(hl:W.length<=100)(t:Nat){kr:Ks}{vr:List PV}(hk:∀u∈kr,O u):
 ∃kl vl,aq F bU [.bx ks vs,.bx kr vr,p7 W t]=.ok (.bx kl vl)/\Nx O (λp o=>p∈kr/\Nb E p o/\Mv W t p o) kl vl:=by
 have l:W.length<cL:=zzV hl (by decide)
 have d1:bC .dict [p7 W t]=.ok (Jv W t):=by
  have:=se (L:=W.map λw=>(av w t,af (av w (t+1)))) (by rw [List.map_map];exact yo FT t)
  rw [List.map_map,List.map_map,List.map_map] at this;exact this
 have d2:bC .dict [.lst (W.map λw=>.tup [af (av w (t+1)),.bl true])]=.ok (Oy W t):=by
  have:=se (L:=W.map λw=>(av w (t+1),PV.bl true)) (by rw [List.map_map];exact yo FT (t+1))
  rw [List.map_map,List.map_map,List.map_map] at this;exact this
 obtain⟨ag,e2,kl,vl,s6,s7,rfl,N⟩:=kL (body:=λx env=>((Tg.one 6).put x env).bind λag=>aD F M3 ag) (g:=af) (P:=λpre env=>∃kl vl s6 s7,env=sV (.bx ks vs) (.bx kr vr) (p7 W t) W t kl vl s6 s7/\Nx O (λp o=>p∈pre/\Nb E p o/\Mv W t p o) kl vl) kr [] (sV (.bx ks vs) (.bx kr vr) (p7 W t) W t [] [] .no .no) (λp hp pre env hj=>by
  obtain⟨kl,vl,s6,s7,rfl,N⟩:=hj
  obtain⟨zH,zI,Fc,e,N'⟩:=IX F (B:=.bx kr vr) (C:=p7 W t) (t:=t) hE hO FT (hk p hp) (Ko p (hk p hp)) N s6 s7
  refine⟨_,e,zH,zI,_,Fc,rfl,N'.len,N'.nd,N'.op,λo q hq=>?_,λp' o' h'=>N'.all p' o' ?_⟩
  ·obtain⟨p',h1,h2⟩:=N'.val o q hq
   refine⟨p',h1,?_⟩;rcases h2 with⟨a,b⟩|⟨rfl,b⟩
   ·exact⟨zzI _ a,b⟩
   ·exact⟨zzP ..,b⟩
  ·obtain⟨a,b⟩:=h'
   rcases zzm.1 a with rfl|a
   ·exact .inr ⟨rfl,b⟩
   ·exact .inl ⟨a,b⟩) ⟨[],[],.no,.no,rfl,rfl,List.nodup_nil,(λo h=>nomatch h),(λo q h=>by simp [bo] at h),λp o h=>nomatch h.1⟩
 refine⟨kl,vl,?_,N.len,N.nd,N.op,λo q hq=>?_,λp o h=>N.all p o ⟨by simpa using h.1,h.2⟩⟩
 ·have sq:rH (.var 1) (.bx kr vr)=.ok (kr.map af):=rfl
  have c1:aE (λx=>((Tg.one 0).put x [.no]).bind λag=>(aB F (.tup (.cons (.sub (.var 0) (.cst (.int 1))) (.cons (.cst (.bl true)) .nil))) ag).bind λy=>.ok (some y)) (W.map λw=>.tup [af (av w t),af (av w (t+1))])=.ok (W.map λw=>.tup [af (av w (t+1)),.bl true]):=by
   rw [aZ (p:=λw=>.tup [af (av w t),af (av w (t+1))]) (g:=λw=>.tup [af (av w (t+1)),.bl true]) λw hw=>?_]
   have s1:aJ (.tup [af (av w t),af (av w (t+1))]) (.int 1)=.ok (af (av w (t+1))):=rfl
   simp! only [s1]
  have lm:(W.map λw=>PV.tup [af (av w t),af (av w (t+1))]).length<cL:=by rw [zzl];exact l
  have qm:rH (.var 2) (p7 W t)=.ok (W.map λw=>PV.tup [af (av w t),af (av w (t+1))]):=rfl
  simp! only [M3,AY,sV] at e2;simp! only [] at c1;simp! only [bU,d1,qm,lm,c1,d2,sq,e2,xf]
 ·obtain⟨p,h1,h2,h3⟩:=N.val o q hq
  exact⟨p,h1,by simpa using h2,h3⟩
def yc{α:Type}(xs:List α)(x:α):qc (xs++[x]) (-1)=some x:=by
 unfold qc Io;have h1:¬(0:Int)<= -1:=by decide
 have h2: -((xs++[x]).length:Int)<= -1:=by simp! [zzM,List.length_singleton];omega
 rw [if_neg h1,if_pos h2];have h3:(-1+((xs++[x]).length:Int)).toNat=xs.length:=by simp! [zzM,List.length_singleton];omega
 rw [h3];simp
def jY(xs:List PV)(x:PV):aJ (.lst (xs++[x])) (.int (-1))=.ok x:=by
 simp! [aJ,yc]
 rfl
def cE:E:=.or (.cmp .rP (!3) (.sub (.hV 6) (.neg (¬1)))) (.cmp .lt (.bin .sub (.blt .len #v[.hV 6]) (¬1)) (!4))
noncomputable def bE:Ss:=#v[.set 7 (.bin .sub (.blt .len #v[.hV 6]) (¬1)),.set 8 (.call "reached_next" #v[!0,.sub (.hV 6) (.neg (¬1)),.call "moves_at" #v[!1,!7]]),.ite (.and (.cmp .ge (!7) (!5)) (.cmp .eq (.blt .len #v[!8]) (.blt .len #v[.sub (.hV 6) (.neg (¬1))]))) #v[.ret (.cst .aC)] .nil,.app 6 (!8)]
def tB:Ss:=#v[.app 2 (.sub (!3) (.sub (.hV 2) (.neg (¬1))))]
abbrev dP(d:Ks×List PV):PV:=.bx d.1 d.2
section
variable{E:List Int->List Int->Int->Prop}{O:List Int->Prop}{W:List Ks}{s:List Int}
structure Dk(E:List Int->List Int->Int->Prop)(W:List Ks)(s:List Int)(j:Nat)(d:Ks×List PV):Prop where
 key:∀x,x∈d.1↔Rc E W s j x
 nd:d.1.Nodup
 len:d.1.length=d.2.length
 par:∀i,j=i+1->∀o q,bo d.1 d.2 o=some q->∃p,q=af p/\Rc E W s i p/\Nb E p o/\Mv W i p o
inductive Pw(E:List Int->List Int->Int->Prop)(W:List Ks)(s:List Int):Nat->Ks->List Int->Prop
 |one:Pw E W s 0 [s] s
 |snoc {j:Nat} {l:Ks} {p x:List Int}:Pw E W s j l p->Nb E p x->Mv W j p x->Pw E W s (j+1) (l++[x]) x
def jm{l:Ks}{x:List Int}{i:Nat}(h:i<l.length):av (l++[x]) i=av l i:=by
 rw [gU h,gU (by rw [zzM];omega),List.getElem_append_left h]
def zy{l:Ks}{x:List Int}:av (l++[x]) l.length=x:=by
 rw [gU (by simp)];simp
def Pw.all{j:Nat}{l:Ks}{x:List Int}(h:Pw E W s j l x):l.length=j+1/\av l 0=s/\av l j=x/\∀i,i<j->Nb E (av l i) (av l (i+1))/\Mv W i (av l i) (av l (i+1)):=by
 induction h with
 |one=>exact⟨rfl,rfl,rfl,λi h=>absurd h (Nat.not_lt_zero _)⟩
 |@snoc j l p x h n m ih=>
  obtain⟨h1,h2,h3,h4⟩:=ih
  have e:av (l++[x]) (j+1)=x:=by rw [<-h1];exact zy
  refine⟨by simp [h1],by rw [jm (by omega)];exact h2,e,λi hi=>?_⟩
  by_cases Hu:i=j
  ·subst Hu;rw [e,jm (by omega),h3];exact⟨n,m⟩
  ·rw [jm (by omega),jm (by omega)];exact h4 i (by omega)
def Pw.op(hE:∀u v e,E u v e->O v){j:Nat}{l:Ks}{x:List Int}(h:Pw E W s j l x)(hs:O s):(∀y∈l,O y)/\O x:=by
 induction h with
 |one=>exact⟨λy hy=>by rw [zzi.1 hy];exact hs,hs⟩
 |snoc _ n _ ih=>
  have ox:O _:=n.elim (λz=>z▸ih.2) λ⟨e,z⟩=>hE _ _ _ z
  refine⟨λy hy=>?_,ox⟩
  rcases List.mem_append.1 hy with hy|hy
  ·exact ih.1 y hy
  ·rw [zzi.1 hy];exact ox
def dn(D:List (Ks×List PV))(j:Nat):List (Ks×List PV):=((D.take (j+1)).drop 1).reverse
def BJ{D:List (Ks×List PV)}{j:Nat}{d:Ks×List PV}(h:D[j+1]?=some d):dn D (j+1)=d::dn D j:=by
 obtain⟨hl,rfl⟩:=zzH.1 h
 unfold dn;rw [<-List.take_append_getElem hl,List.drop_append_of_le_length (by rw [List.length_take];omega),List.reverse_append]
 rfl
theorem m7(F:aH){D:List (Ks×List PV)}(hD:∀j d,D[j]?=some d->Dk E W s j d)(A G:PV):∀(j:Nat) (x:List Int) (ys:List PV) (s3:Ci.Slot),j<D.length->Rc E W s j x->ys.length+j<=5000->∃l G6,forL (λx env=>((Tg.one 3).put x env).bind λag=>aD F tB ag) ((dn D j).map dP) [.val A,.val G,.own (.lst (ys++[af x])),s3]=.ok (.nx [.val A,.val G,.own (.lst (ys++l.reverse.map af)),G6])/\Pw E W s j l x
 |0,x,ys,s3,hj,hx,hy=>by
  refine⟨[s],s3,?_,?_⟩
  ·have:dn D 0=[]:=by
    unfold dn;cases D<;>rfl
   rw [this,show x=s from hx]
   rfl
  ·rw [show x=s from hx];exact .one
 |j+1,x,ys,s3,hj,hx,hy=>by
  have hd:D[j+1]?=some D[j+1]:=zzg hj
  have K:=hD _ _ hd
  have:(bo D[j+1].1 D[j+1].2 x).isSome=true:=by rw [<-fY x K.len];exact da.2 ((K.key x).2 hx)
  obtain⟨q,hq⟩:=zzp.1 this
  obtain⟨p,rfl,rp,n,m⟩:=K.par j rfl x q hq
  obtain⟨l,G6,e,pw⟩:=m7 F hD A G j p (ys++[af x]) (.val (dP D[j+1])) (by omega) rp (by rw [zzM,List.length_singleton];omega)
  refine⟨l++[x],G6,?_,.snoc pw n m⟩;have e1:=jY ys (af x)
  have e2:aJ (dP D[j+1]) (af x)=.ok (af p):=by
   show(Res.of (fh (af x))).bind (λk=>Res.of (bo _ _ k))=_
   rw [dF];show Res.of (bo _ _ x)=_
   rw [hq]
   rfl
  have l1:(ys++[af x]).length<cL:=zzV (m:=5001) (by rw [zzM,List.length_singleton];omega) (by decide)
  have eb:(((Tg.one 3).put (dP D[j+1]) [.val A,.val G,.own (.lst (ys++[af x])),s3]).bind λag=>aD F tB ag)=.ok (.nx [.val A,.val G,.own (.lst (ys++[af x]++[af p])),.val (dP D[j+1])]):=by
   simp! only [tB,e1,e2,l1]
  rw [BJ hd,zzF,forL,eb,iQ];refine e.trans ?_;simp
def BO(F:aH){D:List (Ks×List PV)}(hD:∀j d,D[j]?=some d->Dk E W s j d){T:Nat}(hT:D.length=T+1)(h5:T<=4000){g:List Int}(hg:Rc E W s T g):∃l,aq F cx [.lst (D.map dP),af g]=.ok (lp l)/\Pw E W s T l g:=by
 obtain⟨l,s3,e,pw⟩:=m7 F hD (.lst (D.map dP)) (af g) T g [] .no (by omega) hg (by simp;omega)
 refine⟨l,?_,pw⟩;have e1:(dn D T).map dP=((D.map dP).drop 1).reverse:=by
  unfold dn;rw [List.take_of_length_le (by omega),List.map_reverse,List.map_drop]
 have e2:dI (.lst (D.map dP)) (some 1) none=.ok (.lst ((D.map dP).drop 1)):=by
  have:=uf (D.map dP) (k:=1) (by rw [zzl];omega)
  exact congrArg (λz=>Res.ok (PV.lst z)) this
 rw [e1] at e;simp! only [tB,List.nil_append] at e;simp! only [cx,e2,e,List.map_reverse,List.reverse_reverse]
end
theorem Fi{ks kl:Ks}(nd:ks.Nodup)(h:∀x∈ks,x∈kl)(hl:kl.length<=ks.length):∀x∈kl,x∈ks:=λx hx=>Classical.byContradiction λz=>by
 have:=jo (U:=kl) (List.nodup_cons.2 ⟨z,nd⟩) λy hy=>by
  rcases zzm.1 hy with rfl|hy
  ·exact hx
  ·exact h y hy
 rw [zzL] at this;omega
structure Jo(F:aH)(E:List Int->List Int->Int->Prop)(O:List Int->Prop)(S:Ks)(W:List Ks)(A:PV)(s g:List Int)(L st:Nat):Prop where
 hE:∀u v e,E u v e->O v
 hO:∀u,O u->u∈E6
 hS:∀u,O u->u∈S
 os:O s
 ne:∀w∈W,w≠[]
 kf:W.length<=100
 ap:W.Pairwise Ap
 h0:∀w∈W,av w 0≠s
 he:∀w∈W,av w (w.length-1)≠g
 lf:Lf W g (λw _=>w∈W) L
 sn:pH W st
 mv:zP F
 nx:∀t kr vr,(∀u∈kr,O u)->∃kl vl,F "reached_next" [A,.bx kr vr,p7 W t]=.ok (.bx kl vl)/\Nx O (λp o=>p∈kr/\Nb E p o/\Mv W t p o) kl vl
section
variable{F:aH}{E:List Int->List Int->Int->Prop}{O:List Int->Prop}{S:Ks}{W:List Ks}{A:PV}{s g:List Int}{L st:Nat}
def Jo.Ol(e:Jo F E O S W A s g L st):L<=st:=by
 rcases e.lf.2 with h|⟨w,hw,i,hi,hl⟩
 ·omega
 ·have h1:=(zzH.1 hi).1
  have h2:=e.sn.1 w hw
  by_cases h3:i=w.length-1
  ·have h4:=dO (e.ne w hw) (w.length-1)
   rw [Nat.min_self,<-h3,hi] at h4;exact absurd (by rw [<-h3];exact(zzq h4).symm) (e.he w hw)
  ·omega
def Dk.step(e:Jo F E O S W A s g L st){t:Nat}{d:Ks×List PV}(k:Dk E W s t d):∃d',F "reached_next" [A,dP d,p7 W t]=.ok (dP d')/\Dk E W s (t+1) d':=by
 obtain⟨kl,vl,e1,N⟩:=e.nx t d.1 d.2 λu hu=>oZ e.hE e.os ((k.key u).1 hu)
 refine⟨(kl,vl),e1,λx=>⟨λhx=>?_,λ⟨p,h1,h2,h3⟩=>N.all p x ⟨(k.key p).2 h1,h2,h3⟩⟩,N.nd,N.len,λi hi o q hq=>?_⟩
 ·have:(bo kl vl x).isSome=true:=by rw [<-fY x N.len];exact da.2 hx
  obtain⟨q,hq⟩:=zzp.1 this
  obtain⟨p,_,h1,h2⟩:=N.val x q hq
  exact⟨p,(k.key p).1 h1,h2⟩
 ·obtain rfl:i=t:=by omega
  obtain⟨p,h1,h2,h3⟩:=N.val o q hq
  exact⟨p,h1,(k.key p).1 h2,h3⟩
def Dk.le(e:Jo F E O S W A s g L st){t:Nat}{d:Ks×List PV}(k:Dk E W s t d):d.1.length<=S.length:=
 jo k.nd λu hu=>e.hS u (oZ e.hE e.os ((k.key u).1 hu))
noncomputable abbrev xb(A:PV)(W:List Ks)(s g:List Int)(L st:Nat)(ts:List PV)(s7 s8:Ci.Slot):Sl:=[.val A,.val (eC W),.val (af s),.val (af g),.val (.int (L:Int)),.val (.int (st:Int)),.own (.lst ts),s7,s8]
theorem vn(e:Jo F E O S W A s g L st)(hb:st<=2000)(hS:S.length<=36):∀(n t:Nat) (ds:List (Ks×List PV)) (d:Ks×List PV) (s7 s8:Ci.Slot),ds.length=t->(∀j d',(ds++[d])[j]?=some d'->Dk E W s j d')->(∀T,T<t->¬(Rc E W s T g/\L<=T))->(st<=t->t-st<=d.1.length)->st+S.length+2<=n+t->
 (dy (aB F cE) (aD F bE) n (xb A W s g L st ((ds++[d]).map dP) s7 s8)=.ok (.rt .aC)/\∀T,¬(Rc E W s T g/\L<=T))\/
 ∃(T:Nat) (D:List (Ks×List PV)) (Fc Tn:Ci.Slot),dy (aB F cE) (aD F bE) n (xb A W s g L st ((ds++[d]).map dP) s7 s8)=.ok (.nx (xb A W s g L st (D.map dP) Fc Tn))/\D.length=T+1/\(∀j d',D[j]?=some d'->Dk E W s j d')/\Rc E W s T g/\L<=T/\(∀T',T'<T->¬(Rc E W s T' g/\L<=T'))/\T<=st+S.length
 |0,t,ds,d,s7,s8,hl,hD,hT,hg,hn=>by
  have K:=hD t d (by rw [<-hl];simp)
  have:=K.le e
  have:=hg (by omega)
  omega
 |n+1,t,ds,d,s7,s8,hl,hD,hT,hg,hn=>by
  have K:=hD t d (by rw [<-hl];simp)
  have kl:=K.le e
  have tb:t<=st+S.length:=by
   by_cases h:st<=t
   ·have:=hg h;omega
   ·omega
  have em:(ds++[d]).map dP=ds.map dP++[dP d]:=by rw [List.map_append];rfl
  have e1:=jY (ds.map dP) (dP d)
  have e2:fK (af g) (dP d)=.ok (.bl (!cZ d.1 g)):=JF
  have Gw:((ds.map dP++[dP d]).length:Int)-1=(t:Int):=by simp! [zzM,zzl,List.length_singleton,hl];omega
  have hc:aB F cE (xb A W s g L st (ds.map dP++[dP d]) s7 s8)=.ok (.bl (!cZ d.1 g||decide ((t:Int)<(L:Int)))):=by
   simp! only [cE,xb,e1,e2,Gw,yj]
  by_cases stop:Rc E W s t g/\L<=t
  ·have hh:(!cZ d.1 g||decide ((t:Int)<(L:Int)))=false:=by
    rw [da.2 ((K.key g).2 stop.1),zz0 (by omega)]
    rfl
   rw [hh] at hc;refine .inr ⟨t,ds++[d],s7,s8,?_,by simp [hl],hD,stop.1,stop.2,hT,tb⟩;rw [em];simp! [dy,hc,iQ,JH,zze,if_false]
  ·have hh:(!cZ d.1 g||decide ((t:Int)<(L:Int)))=true:=by
    cases hx:cZ d.1 g with
    |false=>rfl
    |true=>
     have:=(K.key g).1 (da.1 hx)
     rw [Bool.not_true,Bool.false_or,zzN];have:¬L<=t:=λz=>stop ⟨this,z⟩
     omega
   rw [hh] at hc;obtain⟨d',e3,K'⟩:=K.step e
   have e4:=e.mv W e.ne e.kf t
   have ge:rh (.int (t:Int)) (.int (st:Int))=.ok (.bl (decide (st<=t))):=by
    show Res.ok (PV.bl (decide ((st:Int)<=(t:Int))))=_
    congr 2
    exact decide_eq_decide.2 (by omega)
   have ei:((d'.1.length:Int)==(d.1.length:Int))=decide (d'.1.length=d.1.length):=by
    rw [Bool.eq_iff_iff,zzy,zzN];omega
   have ld:bC .len [dP d]=.ok (.int (d.1.length:Int)):=D6
   have Qe:bC .len [dP d']=.ok (.int (d'.1.length:Int)):=D6
   have ll:(ds.map dP++[dP d]).length<cL:=zzV (m:=5000) (by simp! [zzM,zzl,List.length_singleton,hl];omega) (by decide)
   have grow:st<=t->∀x,Rc E W s t x->Rc E W s (t+1) x:=λh x hx=>CN e.sn.1 e.h0 h hx
   have next:∀T,T<t+1->¬(Rc E W s T g/\L<=T):=λT h=>by
    by_cases hTt:T=t
    ·subst hTt;exact stop
    ·exact hT T (by omega)
   by_cases stuck:st<=t/\d'.1.length=d.1.length
   ·refine .inl ⟨?_,λT hq=>?_⟩
    ·have eb:aD F bE (xb A W s g L st (ds.map dP++[dP d]) s7 s8)=.ok (.rt .aC):=by
      simp! only [bE,xb,Gw,e1,e4,e3,ge,zzh stuck.1,ld,Qe,ei,zzh stuck.2]
     rw [em];simp! [dy,hc,iQ,JH,if_true,eb]
    ·by_cases hTt:T<t+1
     ·exact next T hTt hq
     ·have same:∀x,Rc E W s (t+1) x↔Rc E W s t x:=λx=>⟨λhx=>(K.key x).1 (Fi K.nd (λy hy=>(K'.key y).2 (grow stuck.1 y ((K.key y).1 hy))) (by omega) x ((K'.key x).2 hx)),grow stuck.1 x⟩
      have:=(kZ e.sn.1 stuck.1 same (T-t) g).1 (by rw [show t+(T-t)=T by omega];exact hq.1)
      exact stop ⟨this,zzU e.Ol stuck.1⟩
   ·have cond:(decide (st<=t)&&decide (d'.1.length=d.1.length))=false:=by
     cases h1:decide (st<=t) with
     |false=>rfl
     |true=>rw [Bool.true_and];exact zz0 λz=>stuck ⟨zzY h1,z⟩
    have eb:aD F bE (xb A W s g L st (ds.map dP++[dP d]) s7 s8)=.ok (.nx (xb A W s g L st (ds.map dP++[dP d]++[dP d']) (.val (.int (t:Int))) (.val (dP d')))):=by
     simp! only [bE,xb,Gw,e1,e4,e3,ge,ld,Qe,ei,j6,cond,ll]
    have Na:∀j M6,(ds++[d]++[d'])[j]?=some M6->Dk E W s j M6:=λj M6 h=>by
     by_cases hj:j<(ds++[d]).length
     ·rw [zzr hj] at h;exact hD j M6 h
     ·have Nt:=(zzH.1 h).1
      have:j=t+1:=by simp! [zzM,List.length_singleton,hl] at hj Nt;omega
      subst this;rw [zzs (by simp [hl])] at h;simp! [zzM,List.length_singleton,hl,Nat.sub_self] at h;cases h;exact K'
    have ih:=vn e hb hS n (t+1) (ds++[d]) d' (.val (.int (t:Int))) (.val (dP d')) (by simp [hl]) Na next (λh=>by
     by_cases h2:st<=t
     ·have h3:=hg h2
      have h4:=jo K.nd λx hx=>(K'.key x).2 (grow h2 x ((K.key x).1 hx))
      have h5:d'.1.length≠d.1.length:=λz=>stuck ⟨h2,z⟩
      omega
     ·omega) (by omega)
    have Um:(ds++[d]++[d']).map dP=ds.map dP++[dP d]++[dP d']:=by simp
    rw [Um] at ih;rw [em];simp! [dy,hc,iQ,JH,if_true,eb];exact ih
end
def KD(E:List Int->List Int->Int->Prop)(O:List Int->Prop)(S:Ks)(A:PV)(f:List PV->Res PV):Prop:=∀(W:List Ks) (s g:List Int) (B:Nat),O s->(∀w∈W,w≠[])->W.length<=100->W.Pairwise Ap->(∀w∈W,av w 0≠s)->(∀w∈W,av w (w.length-1)≠g)->(∀w∈W,w.length<=B)->B<=1000->∃o:Option Ks,f [A,eC W,af s,af g]=.ok (o.elim .aC lp)/\Q0 E O S.length W s g (B+S.length+1) o
def Aw(F:aH){E:List Int->List Int->Int->Prop}{O:List Int->Prop}{S:Ks}{A:PV}(hE:∀u v e,E u v e->O v)(hO:∀u,O u->u∈E6)(hS:∀u,O u->u∈S)(lS:S.length<=36)(hl:∀W g,∃L:Nat,F "left_from" [eC W,af g]=.ok (.int (L:Int))/\Lf W g (λw _=>w∈W) L)(cO:∀W,(∀w∈W,w≠[])->W.length<=100->∃st:Nat,F "still_from" [eC W]=.ok (.int (st:Int))/\pH W st)
 (hm:zP F) (hn:∀W,W.Pairwise Ap->W.length<=100->∀t kr vr,(∀u∈kr,O u)->∃kl vl,F "reached_next" [A,.bx kr vr,p7 W t]=.ok (.bx kl vl)/\Nx O (λp o=>p∈kr/\Nb E p o/\Mv W t p o) kl vl)
 (ht:∀(W:List Ks) (s:List Int) (D:List (Ks×List PV)) (T:Nat) (g:List Int),(∀j d,D[j]?=some d->Dk E W s j d)->D.length=T+1->T<=4000->Rc E W s T g->∃l,F "traced_back" [.lst (D.map dP),af g]=.ok (lp l)/\Pw E W s T l g):KD E O S A (aq F bz):=by
 intro W s g B os ne kf ap h0 he hB hB1;obtain⟨L,e1,lf⟩:=hl W g
 obtain⟨st,e2,sn⟩:=cO W ne kf
 have er:Jo F E O S W A s g L st:=⟨hE,hO,hS,os,ne,kf,ap,h0,he,lf,sn,hm,hn W ap kf⟩
 have Lr:st<=B:=by
  rcases sn.2 with h|⟨w,hw,h⟩
  ·omega
  ·have:=hB w hw;omega
 have l:W.length<cL:=zzV kf (by decide)
 have TU:Dk E W s 0 ([s],[.aC]):=⟨λx=>zzi,by simp,rfl,λi h=>by omega⟩
 have lw:=vn er (by omega) lS WN 0 [] ([s],[.aC]) .no .no rfl (λj d' h=>by
  cases j with
  |zero=>cases h;exact TU
  |succ j=>cases h) (λT h=>absurd h (Nat.not_lt_zero _)) (λh=>by omega) (by have:WN=1000000:=rfl;omega)
 have c1:aE (λx=>((Tg.one 0).put x [.no]).bind λag=>(aB F (.sub (.var 0) (.cst (.int 0))) ag).bind λy=>.ok (some y)) (W.map lp)=.ok ((W.map λw=>av w 0).map af):=by
  rw [aZ (p:=lp) (g:=λw=>af (av w 0)) λw hw=>?_,List.map_map]
  ·rfl
  ·have:=iH (dO (ne w hw) 0)
   rw [Nat.zero_min] at this;have this:aJ (lp w) (.int 0)=.ok (af (av w 0)):=this
   simp! only [this]
 have c2:=SG s (W.map λw=>av w 0)
 rw [zz0 λz=>by obtain⟨w,hw,e⟩:=zzx.1 z;exact h0 w hw e] at c2
 have lm:(W.map lp).length<cL:=by rw [zzl];exact l
 simp! only [] at c1;have m1:([]++[([s],[PV.aC])]:List (Ks×List PV)).map dP=[.bx [s] [.aC]]:=rfl
 rw [m1] at lw;rcases lw with⟨e3,Ll⟩|⟨T,D,s7,s8,e3,hD1,hD2,hD3,hD4,hD5,hD6⟩
 ·refine⟨none,?_,λT hq=>Ll T ⟨hq.1,lf.free.1 hq.2⟩⟩
  simp! only [cE,bE,xb] at e3;simp! only [bz,lm,c1,Mq,c2,e1,e2,dF,e3]
  rfl
 ·obtain⟨w,e4,pw⟩:=ht W s D T g hD2 hD1 (by omega) hD3
  obtain⟨p1,p2,p3,p4⟩:=pw.all
  have hp:w.length-1=T:=by omega
  refine⟨some w,?_,⟨(λz=>by rw [z] at p1;cases p1),by omega,(pw.op hE os).1,p2,by rw [hp];exact p3,λj hj=>p4 j (by omega),lf.free.2 (by omega),(λT' h' hq=>hD5 T' (by omega) ⟨hq.1,lf.free.1 hq.2⟩),λM hM=>?_⟩⟩
  ·simp! only [cE,bE,xb] at e3;simp! only [bz,lm,c1,Mq,c2,e1,e2,dF,e3,xf,e4]
   rfl
  ·have:st<=M:=by
    rcases sn.2 with h|⟨v,hv,h⟩
    ·omega
    ·have:=hM v hv;omega
   omega
def oK(o:Option Ks):PV:=o.elim .aC lp
def aw(os:List (Option Ks)):List Ks:=os.filterMap id
def Gy(a b:List (Option Ks)):aw (a++b)=aw a++aw b:=List.filterMap_append
def n5{os:List (Option Ks)}{w:Ks}:w∈aw os↔some w∈os:=by
 unfold aw;rw [zz1];exact⟨λ⟨a,h1,h2⟩=>by rw [show a=some w from h2] at h1;exact h1,λh=>⟨_,h,rfl⟩⟩
def Ge(os:List (Option Ks)):(aw os).length<=os.length:=List.length_filterMap_le ..
theorem va{f:PV->Res (Option PV)}(hf:∀o:Option Ks,f (oK o)=.ok (if o.isSome then some (oK o) else none)):∀os:List (Option Ks),aE f (os.map oK)=.ok ((aw os).map lp)
 |[]=>rfl
 |o::os=>by
  simp! [zzF,aE,hf,A5,iQ,va hf os];cases o<;>rfl
def Pq(o:Option Ks):di (oK o) .aC=.ok (.bl o.isSome):=by cases o<;>rfl
structure ra(E:List Int->List Int->Int->Prop)(O:List Int->Prop)(n:Nat)(ss gs:Ks)(os:List (Option Ks)):Prop where
 LA:∀j o s g,os[j]?=some o->ss[j]?=some s->gs[j]?=some g->Q0 E O n (aw (os.take j)) s g (37*(j+1)) o
 le:os.length<=ss.length
section
variable{E:List Int->List Int->Int->Prop}{O:List Int->Prop}{n:Nat}{ss gs:Ks}{os:List (Option Ks)}
def ra.take(h:ra E O n ss gs os)(i:Nat):ra E O n ss gs (os.take i):=⟨λj o s g h1 h2 h3=>by
 have hj:j<i:=by have:=(zzH.1 h1).1;rw [List.length_take] at this;omega
 rw [List.getElem?_take_of_lt hj] at h1;rw [List.take_take,Nat.min_eq_left (by omega)];exact h.LA j o s g h1 h2 h3,by rw [List.length_take];have:=h.le;omega⟩
def ra.way(h:ra E O n ss gs os)(hl:ss.length=gs.length){w:Ks}(hw:w∈aw os):∃j s g,os[j]?=some (some w)/\ss[j]?=some s/\gs[j]?=some g/\Wy E O n (aw (os.take j)) s g (37*(j+1)) w:=by
 obtain⟨j,hj⟩:=List.getElem?_of_mem (n5.1 hw)
 have h1:=(zzH.1 hj).1
 have h2:=h.le
 have h3:ss[j]?=some ss[j]:=zzg (by omega)
 have h4:gs[j]?=some gs[j]:=zzg (by omega)
 exact⟨j,_,_,hj,h3,h4,h.LA j _ _ _ hj h3 h4⟩
def ra.len(h:ra E O n ss gs os)(hl:ss.length=gs.length){w:Ks}(hw:w∈aw os):w≠[]/\w.length<=37*os.length:=by
 obtain⟨j,s,g,h1,_,_,y⟩:=h.way hl hw
 have:=(zzH.1 h1).1
 exact⟨y.ne,zzU y.len (by omega)⟩
def ED{l:Ks}(nd:l.Nodup){i j:Nat}{a b:List Int}(hi:l[i]?=some a)(hj:l[j]?=some b)(h:i≠j):a≠b:=λe=>by
 subst e;exact h ((List.getElem?_inj (zzH.1 hi).1 nd).1 (hi.trans hj.symm))
def ra.off(h:ra E O n ss gs os)(hl:ss.length=gs.length)(n1:ss.Nodup)(n2:gs.Nodup){i:Nat}{s g:List Int}(hs:ss[i]?=some s)(hg:gs[i]?=some g){w:Ks}(hw:w∈aw (os.take i)):av w 0≠s/\av w (w.length-1)≠g:=by
 obtain⟨j,s',g',h1,h2,h3,y⟩:=(h.take i).way hl hw
 have hj:j<i:=by have:=(zzH.1 h1).1;rw [List.length_take] at this;omega
 rw [y.fst,y.lst];exact⟨ED n1 h2 hs (by omega),ED n2 h3 hg (by omega)⟩
theorem ra.ap(h:ra E O n ss gs os)(hl:ss.length=gs.length)(n1:ss.Nodup)(n2:gs.Nodup):∀i,(aw (os.take i)).Pairwise Ap
 |0=>by rw [List.take_zero];exact .nil
 |i+1=>by
  by_cases hi:i<os.length
  ·rw [<-List.take_append_getElem hi,Gy,List.pairwise_append];refine⟨ra.ap h hl n1 n2 i,?_,λa ha b hb=>?_⟩
   ·cases e:os[i] with
    |none=>exact .nil
    |some w=>exact List.pairwise_singleton ..
   ·have hb':=n5.1 hb
    rw [zzi] at hb';have rO:=h.le
    have h3:ss[i]?=some ss[i]:=zzg (by omega)
    have h4:gs[i]?=some gs[i]:=zzg (by omega)
    have y:Wy E O n (aw (os.take i)) ss[i] gs[i] (37*(i+1)) b:=h.LA i (some b) _ _ (by rw [zzg hi,hb']) h3 h4
    obtain⟨o1,o2⟩:=h.off hl n1 n2 h3 h4 ha
    exact(y.ap ha ((h.take i).len hl ha).1 o1 o2).symm
  ·rw [List.take_of_length_le (by omega)];have:=ra.ap h hl n1 n2 i
   rwa [List.take_of_length_le (by omega)] at this
end
def zip2{ss gs:Ks}(hl:ss.length=gs.length):gk [ss.map af,gs.map af]=(ss.zip gs).map λp=>.tup [af p.1,af p.2]:=by
 have hm:iI [ss.map af,gs.map af]=ss.length:=by
  show min (ss.map af).length (gs.map af).length=_
  rw [zzl,zzl];omega
 unfold gk;rw [hm];refine List.ext_getElem (by simp [hl]) λi h1 h2=>?_
 simp! [zzl,List.length_range] at h1;have h3:i<gs.length:=by omega
 simp [zzK,zzg h1,zzg h3]
def NT:Ss:=#v[.set 9 (.cN 1 [] (.one 0) (.seq (.hV 6)) (.cmp .oY (!0) (.cst .aC)) (!0)),.app 6 (.call "earliest_way" #v[!5,!9,!7,!8])]
def LZ(E:List Int->List Int->Int->Prop)(O:List Int->Prop)(n:Nat)(A B:PV)(f:List PV->Res PV):Prop:=∀ss gs:Ks,ss.length=gs.length->ss.length<=20->ss.Nodup->gs.Nodup->(∀u∈ss,O u)->(∀u∈gs,O u)->∃os,f [A,B,lp ss,lp gs]=.ok (.lst (os.map oK))/\os.length=ss.length/\ra E O n ss gs os
def AD(F:aH){E:List Int->List Int->Int->Prop}{O:List Int->Prop}{S:Ks}{A B C:PV}(lS:S.length<=36)(hn:∀u,O u->F "need_open" [A,af u]=.ok .aC)(ho:F "steps_over" [A,B]=.ok C)(he:KD E O S C (F "earliest_way")):LZ E O S.length A B (aq F f7):=by
 intro ss gs hl MO n1 n2 o1 o2;obtain⟨ag,e1,s4,rfl⟩:=cu (body:=λx env=>((Tg.one 4).put x env).bind λag=>aD F (.cons (.expr (.call "need_open" (.cons (.var 0) (.cons (.var 4) .nil)))) .nil) ag) (P:=λ_ env=>∃s4:Ci.Slot,env=[.val A,.val B,.val (lp ss),.val (lp gs),s4,.no,.no,.no,.no,.no]) (ss.map af++gs.map af) 0 [.val A,.val B,.val (lp ss),.val (lp gs),.no,.no,.no,.no,.no,.no] ⟨_,rfl⟩ (by
  intro i x env hx ⟨s4,he⟩;subst he;have hm:=zzD hx
  rw [<-List.map_append] at hm;obtain⟨u,hu,rfl⟩:=zzx.1 hm
  have:=hn u ((List.mem_append.1 hu).elim (o1 u) (o2 u))
  exact⟨[.val A,.val B,.val (lp ss),.val (lp gs),.val (af u),.no,.no,.no,.no,.no],by simp! only [this],_,rfl⟩)
 obtain⟨ag,e2,os,s7,s8,s9,rfl,hlo,cr⟩:=cu (body:=λx env=>((Tg.two 7 8).put x env).bind λag=>aD F NT ag) (P:=λi env=>∃(os:List (Option Ks)) (s7 s8 s9:Ci.Slot),env=[.val A,.val B,.val (lp ss),.val (lp gs),s4,.val C,.own (.lst (os.map oK)),s7,s8,s9]/\os.length=i/\(i<=ss.length->ra E O S.length ss gs os)) ((ss.zip gs).map λp=>.tup [af p.1,af p.2]) 0 [.val A,.val B,.val (lp ss),.val (lp gs),s4,.val C,.own (.lst []),.no,.no,.no] ⟨[],_,_,_,rfl,rfl,λ_=>⟨(λj o s g h=>by cases h),Nat.zero_le _⟩⟩ (by
  intro i x env hx ⟨os,s7,s8,s9,he',hi,hc⟩;subst he';rw [Nat.zero_add] at hi hc⊢;have Ik:i<ss.length:=by
   have:=(zzH.1 hx).1
   simp! [zzl,List.length_zip] at this;omega
  have hs:ss[i]?=some ss[i]:=zzg Ik
  have hg:gs[i]?=some gs[i]:=zzg (by omega)
  have p8:x=.tup [af ss[i],af gs[i]]:=by
   rw [zzQ,zzJ] at hx;obtain⟨p,hp,rfl⟩:=hx
   rw [List.getElem?_zip_eq_some] at hp;rw [hs,hg] at hp;rw [zzq hp.1,zzq hp.2]
  subst p8;have cr:=hc (by omega)
  have tk:os.take i=os:=List.take_of_length_le (by omega)
  have ap:=cr.ap hl n1 n2 i
  rw [tk] at ap;have off:∀w∈aw os,av w 0≠ss[i]/\av w (w.length-1)≠gs[i]:=λw hw=>cr.off hl n1 n2 hs hg (by rw [tk];exact hw)
  obtain⟨o,e,td⟩:=he (aw os) ss[i] gs[i] (37*i) (o1 _ (List.getElem_mem _)) (λw hw=>(cr.len hl hw).1) (zzU (Ge os) (by omega)) ap (λw hw=>(off w hw).1) (λw hw=>(off w hw).2) (λw hw=>by have:=(cr.len hl hw).2;rw [hi] at this;exact this) (by omega)
  have c1:aE (λx=>((Tg.one 0).put x [.no]).bind λag=>(aB F (.cmp .oY (.var 0) (.cst .aC)) ag).bind λt=>mV t λt=>if t then(aB F (.var 0) ag).bind λy=>.ok (some y) else .ok none) (os.map oK)=.ok ((aw os).map lp):=va (λo=>by
   simp! only [Pq];cases o<;>rfl) os
  have l1:(os.map oK).length<cL:=zzV (m:=20) (by rw [zzl];omega) (by decide)
  refine⟨[.val A,.val B,.val (lp ss),.val (lp gs),s4,.val C,.own (.lst ((os++[o]).map oK)),.val (af ss[i]),.val (af gs[i]),.val (eC (aw os))],?_,os++[o],_,_,_,rfl,by simp [hi],λ_=>⟨λj o' s g h1 h2 h3=>?_,by simp [hi];omega⟩⟩
  ·have e':F "earliest_way" [C,.lst ((aw os).map lp),af ss[i],af gs[i]]=.ok (oK o):=e
   simp! only [] at c1;simp! only [NT,l1,c1,e',List.map_append,zzF,List.map_nil]
  ·by_cases hj:j<os.length
   ·rw [zzr hj] at h1;rw [List.take_append_of_le_length (by omega)];exact cr.LA j o' s g h1 h2 h3
   ·have:j=i:=by have:=(zzH.1 h1).1;simp! [zzM,List.length_singleton] at this;omega
    subst this;rw [zzs (by omega),hi,Nat.sub_self] at h1;cases h1;rw [hs] at h2;rw [hg] at h3;cases h2;cases h3;rw [List.take_append_of_le_length (by omega),tk];cases o with
    |none=>exact td
    |some w=>exact⟨td.ne,zzU td.len (by omega),td.op,td.fst,td.lst,td.go,td.free,td.least,td.bd⟩)
 have hz:(((ss.zip gs).map λp=>PV.tup [af p.1,af p.2])).length=ss.length:=by simp [hl]
 rw [hz,Nat.zero_add] at hlo cr;refine⟨os,?_,hlo,cr (zzE _)⟩;have l2:(ss.map af).length+(gs.map af).length<=cL:=zzU (m:=40) (by rw [zzl,zzl];omega) (by decide)
 have Cy:Res.of (gv [lp ss,lp gs])=.ok [ss.map af,gs.map af]:=rfl
 simp! only [] at e1;simp! only [NT] at e2;simp! only [f7,l2,e1,ho,Cy,zip2 hl,e2,xf]
def xC(F:aH)(w:Ks)(hw:w≠[])(t:Nat):aq F dr [lp w,.int (t:Int)]=.ok (af (av w t)):=by
 have h:=List.length_pos_iff.2 hw
 by_cases ht:t<w.length
 ·have e:=iH (dO hw t)
  rw [Nat.min_eq_left (by omega)] at e;have c:decide ((t:Int)<((w.map af).length:Int))=true:=zzh (by rw [zzl];omega)
  simp! only [dr,c,e]
 ·have e:aJ (lp w) (.int (-1))=.ok (af (av w t)):=by
   have hl:w=w.dropLast++[w.getLast hw]:=(List.dropLast_concat_getLast hw).symm
   rw [fS (by omega),gU (by omega)];have h2:=jY (w.dropLast.map af) (af (w.getLast hw))
   have h3:w.dropLast.map af++[af (w.getLast hw)]=w.map af:=by
    rw [<-List.map_singleton (f:=af),<-List.map_append,<-hl]
   rw [h3] at h2;rw [List.getLast_eq_getElem] at h2;exact h2
  have c:decide ((t:Int)<((w.map af).length:Int))=false:=zz0 (by rw [zzl];omega)
  simp! only [dr,c,e]
def LK(F:aH):Prop:=∀w:Ks,w≠[]->∀t:Nat,F "_law_at" [lp w,.int (t:Int)]=.ok (af (av w t))
def LK.MT{F:aH}(h:LK F){w:Ks}(hw:w≠[])(t:Nat):F "_law_at" [lp w,.int ((t:Int)+1)]=.ok (af (av w (t+1))):=h w hw (t+1)
def kM{i:Int}(h0:0<=i)(h1:i<=100000):aM i=true:=by
 unfold aM;rw [zza];exact⟨zzh (by omega),zzh (by omega)⟩
def kW(t n:Nat):dN (t:Int) n=(List.range n).map λi:Nat=>PV.int ((t+i:Nat):Int):=by
 unfold dN;refine List.map_congr_left λi _=>?_
 rw [Int.natCast_add]
noncomputable def Mf:Ss:=#v[.set 9 (.comp 1 [] (.one 0) (.seq (.call "_law_steps" #v[!0,!1,.sub (!5) (!7)])) (.sub (!0) (¬0))),.ite (.and (.cmp .ne (!8) (.sub (!5) (!7))) (.cmp .rP (!8) (!9))) #v[.ret (.cst (.bl false))] .nil]
noncomputable def B6:Ss:=#v[.ite (.cmp .eq (.call "_law_at" #v[!5,!11]) (.call "_law_at" #v[!10,!11])) #v[.ret (.cst (.bl false))] .nil,.ite (.and (.cmp .eq (.call "_law_at" #v[!5,.bin .add (!11) (¬1)]) (.call "_law_at" #v[!10,!11])) (.cmp .eq (.call "_law_at" #v[!10,.bin .add (!11) (¬1)]) (.call "_law_at" #v[!5,!11]))) #v[.ret (.cst (.bl false))] .nil]
noncomputable def Jr:Ss:=#v[.bX (.one 11) (.mG (.bin .add (.blt .max2 #v[.blt .len #v[!5],.blt .len #v[!10]]) (¬1))) B6]
theorem CG:b7.body=#v[.set 6 (.call "_law_spots" #v[!0]),.ite (.or (.not (.ty .list (!5))) (.or (.cmp .eq (!5) (.lst .nil)) (.cmp .ne (.cN 1 [6] (.one 0) (.seq (!5)) (.cmp .rP (!0) (!1)) (!0)) (.lst .nil)))) #v[.ret (.cst (.bl false))] .nil,.ite (.or (.cmp .ne (.sub (!5) (¬0)) (!3)) (.cmp .ne (.sub (!5) (.neg (¬1))) (!4))) #v[.ret (.cst (.bl false))] .nil,.bX (.two 7 8) (.enum (.slice (!5) (.some (¬1)) .no)) Mf,.bX (.one 10) (.seq (!2)) Jr,.ret (.cst (.bl true))]:=rfl
def zQ{l:Ks}(hw:l≠[]):aJ (lp l) (.int (-1))=.ok (af (av l (l.length-1))):=by
 have h:=List.length_pos_iff.2 hw
 have hl:l=l.dropLast++[l.getLast hw]:=(List.dropLast_concat_getLast hw).symm
 rw [gU (by omega)];have h2:=jY (l.dropLast.map af) (af (l.getLast hw))
 have h3:l.dropLast.map af++[af (l.getLast hw)]=l.map af:=by
  rw [<-List.map_singleton (f:=af),<-List.map_append,<-hl]
 rw [h3] at h2;rw [List.getLast_eq_getElem] at h2;exact h2
def EY{l:Ks}(hw:l≠[]):aJ (lp l) (.int 0)=.ok (af (av l 0)):=by
 have:=iH (dO hw 0)
 rw [Nat.zero_min] at this;exact this
theorem xr{α:Type}:∀L:List α,boolsOf (L.map λ_=>PV.bl true)=some (L.map λ_=>true)
 |[]=>rfl
 |a::L=>by
  show(boolsOf (L.map λ_=>PV.bl true)).map (true::·)=_
  rw [xr L]
  rfl
def allI{α:Type}(L:List α):(L.map λ_=>true).all id=true:=by
 rw [List.all_map];simp
def Cc(F:aH)(ho:km F){ae:List Str}{w:Nat}(L:Fl ae w){l:Ks}(ne:l≠[])(op:∀x∈l,fX ae x)(hl:l.length<=1000):aq F au [fl ae,lp l]=.ok (.bl true):=by
 have hp:=List.length_pos_iff.2 ne
 have ll:(l.map af).length<cL:=zzV (m:=1000) (by rw [zzl];exact hl) (by decide)
 have ty:eU .list (lp l)=.ok (.bl true):=rfl
 have z:(((l.map af).length:Int)==0)=false:=by rw [zzl,beq_eq_false_iff_ne];omega
 have c:aE (λx=>((Tg.one 0).put x [.no,.val (fl ae)]).bind λag=>(aB F (.call "is_open" (.cons (.var 1) (.cons (.var 0) .nil))) ag).bind λy=>.ok (some y)) (l.map af)=.ok (l.map λ_=>.bl true):=by
  rw [aZ (p:=af) (g:=λ_=>.bl true) λx hx=>?_]
  obtain⟨r,c,rfl,h⟩:=op x hx
  have:=ho ae L.vf r c
  rw [h] at this;replace this:F "is_open" [fl ae,af [r,c]]=.ok (.bl true):=this
  simp! only [this]
 simp! only [] at c;simp! only [au,ty,z,ll,c,xr,Et,allI]
def getD_at{l:Ks}{i:Nat}(h:i<l.length):(l.map af).getD i .aC=af (av l i):=by
 rw [gU h,zzK,zzQ,zzg h]
 rfl
def OZ(F:aH)(A B C D:PV):aq F aN [A,B,C,D,.aC]=.ok (.bl true):=by
 have q:mz .aC .aC=.ok (.bl true):=rfl
 simp! only [aN,q]
def MH:Ss:=#v[.ite (.cmp .ne (.hV 4) (.lst .nil)) #v[.fL 5 4 (.call "_law_pick" #v[!0,.bin .add (!1) (!6),.blt .len #v[.hV 4]])] .nil]
theorem B0:bZ.body=#v[.ji 4 (!2),.own 5 (.lst .nil),.bX (.one 6) (.mG (!3)) MH,.cX 5,.ret (!5)]:=rfl
theorem m4{α β:Type}(f:α->β):∀(l:List α) (i:Nat),(l.map f).eraseIdx i=(l.eraseIdx i).map f
 |[],i=>rfl
 |a::l,0=>rfl
 |a::l,i+1=>congrArg (f a::·) (m4 f l i)
theorem ko{α:Type}:∀(l:List α) (i:Nat) (h:i<l.length),(l[i]::l.eraseIdx i).Perm l
 |a::l,0,h=>.refl _
 |a::l,i+1,h=>((List.Perm.swap ..).trans (.cons a (ko l i (Nat.lt_of_succ_lt_succ h))))
def Ce(F:aH)(hp:gY F)(ns:List Int)(a:Int)(h0:0<=a)(ha:a<=1000)(m:Nat)(hm:m<=20)(S:Ks)(nS:S.Nodup)(lS:S.length<=36):∃M:Ks,aq F bZ [eA ns,.int a,lp S,.int (m:Int)]=.ok (lp M)/\M.Nodup/\(∀u∈M,u∈S)/\M.length=min m S.length:=by
 obtain⟨ag,e1,L,M,s6,rfl,pm,hM⟩:=cu (body:=λx env=>((Tg.one 6).put x env).bind λag=>aD F MH ag) (P:=λi env=>∃(L M:Ks) (s6:Ci.Slot),env=[.val (eA ns),.val (.int a),.val (lp S),.val (.int (m:Int)),.own (.lst (L.map af)),.own (.lst (M.map af)),s6]/\(M++L).Perm S/\M.length=min i S.length) ((List.range m).map λi:Nat=>PV.int (i:Int)) 0 [.val (eA ns),.val (.int a),.val (lp S),.val (.int (m:Int)),.own (.lst (S.map af)),.own (.lst []),.no] ⟨S,[],_,rfl,.refl _,by simp⟩ (by
  intro i x env hx ⟨L,M,s6,he,pm,hM⟩;subst he;rw [Nat.zero_add] at hM⊢;have p8:x=.int (i:Int):=by
   rw [zzQ,zzJ] at hx;obtain⟨j,hj,rfl⟩:=hx
   rw [List.getElem?_range (by have:=(zzH.1 hj).1;rwa [List.length_range] at this)] at hj;rw [zzq hj]
  subst p8;have ln:=pm.length_eq
  rw [zzM] at ln;have q:=Mi L []
  by_cases hL:L=[]
  ·rw [zzh hL] at q;replace q:fb (.lst (L.map af)) (.lst [])=.ok (.bl false):=q
   refine⟨[.val (eA ns),.val (.int a),.val (lp S),.val (.int (m:Int)),.own (.lst (L.map af)),.own (.lst (M.map af)),.val (.int (i:Int))],?_,L,M,_,rfl,pm,by rw [hL] at ln;simp at ln;omega⟩;simp! only [MH,q]
  ·rw [zz0 hL] at q;replace q:fb (.lst (L.map af)) (.lst [])=.ok (.bl true):=q
   have Ur:=List.length_pos_iff.2 hL
   obtain⟨p,ep,p0,p1⟩:=hp ns (a+(i:Int)) (L.length:Int) (by omega) (by omega)
   have hn:p.toNat<L.length:=by omega
   have g:(L.map af)[p.toNat]?=some (af L[p.toNat]):=by rw [zzQ,zzg hn];rfl
   have l0:bC .len [.lst (L.map af)]=.ok (.int (L.length:Int)):=by
    show Res.ok (PV.int ((L.map af).length:Int))=_
    rw [zzl]
   have c:0<=p/\p<((L.map af).length:Int)/\(L.map af).length<cL/\(M.map af).length<cL/\(5:Nat)≠4:=by
    rw [zzl,zzl];exact⟨p0,p1,zzV (m:=36) (by omega) (by decide),zzV (m:=36) (by omega) (by decide),by decide⟩
   have er:(L.map af).eraseIdx p.toNat=(L.eraseIdx p.toNat).map af:=m4 ..
   refine⟨[.val (eA ns),.val (.int a),.val (lp S),.val (.int (m:Int)),.own (.lst ((L.eraseIdx p.toNat).map af)),.own (.lst ((M++[L[p.toNat]]).map af)),.val (.int (i:Int))],?_,_,_,_,rfl,?_,by rw [zzM,List.length_singleton];omega⟩
   ·simp! only [MH,q,l0,ep];split
    ·simp! only [g,er,List.map_append,zzF,List.map_nil]
    ·exact absurd c ‹_›
   ·refine List.Perm.trans ?_ pm;rw [List.append_assoc];exact(ko L _ hn).append_left M)
 refine⟨M,?_,?_,λu hu=>pm.subset (zzc _ hu),by simpa using hM⟩
 ·have sm:aM (m:Int)=true:=kM (by omega) (by omega)
  have rg:dN 0 (m:Int).toNat=(List.range m).map λi:Nat=>PV.int (i:Int):=by
   have:=kW 0 m
   simp! [Nat.zero_add] at this;exact this
  have sq:Res.of (Bv (lp S))=.ok (S.map af):=rfl
  have st:bP bZ [eA ns,.int a,lp S,.int (m:Int)]=[.val (eA ns),.val (.int a),.val (lp S),.val (.int (m:Int)),.no,.no,.no]:=rfl
  have ar:bO bZ [eA ns,.int a,lp S,.int (m:Int)]=true:=rfl
  unfold aq;rw [ar,if_pos rfl,st,B0];dsimp! only [J] at e1;dsimp! only [sq,sm,rg,e1,xf]
 ·have:=(List.Perm.nodup_iff pm).2 nS
  exact(List.nodup_append.1 this).1
noncomputable def dc(p:Prop):Bool:=@decide p (Classical.propDecidable p)
def oD{p:Prop}(h:p):dc p=true:=@decide_eq_true p (Classical.propDecidable p) h
def gz{p:Prop}(h:¬p):dc p=false:=@decide_eq_false p (Classical.propDecidable p) h
def nG{p:Prop}{b:Bool}(h:b=true↔p):b=dc p:=by
 by_cases hp:p
 ·rw [oD hp,h.2 hp]
 ·rw [gz hp];cases b with
  |false=>rfl
  |true=>exact absurd (h.1 rfl) hp
def r8{p:Prop}:dc p=true↔p:=⟨λh=>Classical.byContradiction λz=>(by rw [gz z] at h;cases h),oD⟩
def lD{p q:Prop}(h:p↔q):dc p=dc q:=nG (r8.trans h)
def oz{α:Type}(P:α->Prop)(L:List α):(L.map λx=>dc (P x)).all id=dc (∀x∈L,P x):=nG (by
 rw [List.all_map,zzT];exact⟨λh x hx=>r8.1 (h x hx),λh x hx=>oD (h x hx)⟩)
theorem iW{α:Type}(f:α->Bool):∀L:List α,boolsOf (L.map λx=>PV.bl (f x))=some (L.map f)
 |[]=>rfl
 |a::L=>by
  show(boolsOf (L.map λx=>PV.bl (f x))).map (f a::·)=_
  rw [iW f L]
  rfl
inductive En where
 |no|wy (l:Ks)|bad (p:PV)
def eP:En->PV
 |.no=>.aC
 |.wy l=>lp l
 |.bad p=>p
abbrev gN(k:List Int):PV:=.lst (k.map .int)
inductive Bd:PV->Prop
 |tup (xs:List PV):Bd (.tup xs)
 |str (z:Str):Bd (.str z)
 |PB (ks:Ks) (h:ks≠[]) (hl:ks.length<=1000):Bd (.lst (ks.map gN))
def fg(O:List Int->Prop):En->Prop
 |.no=>True
 |.wy l=>(∀x∈l,O x)/\l.length<=1000
 |.bad p=>Bd p
structure Vw(E:List Int->List Int->Int->Prop)(s g:List Int)(l:Ks):Prop where
 ne:l≠[]
 go:∀j,j+1<l.length->Nb E (av l j) (av l (j+1))
 fst:av l 0=s
 lst:av l (l.length-1)=g
def w9(E:List Int->List Int->Int->Prop)(s g:List Int):En->Prop
 |.no=>True
 |.wy l=>Vw E s g l
 |.bad _=>False
def yS(F:aH)(xs:List PV):aq F cT [.lst xs]=.ok (.bl false):=by
 have ty:eU .tuple (.lst xs)=.ok (.bl false):=rfl
 simp! only [cT,ty]
def Ay(F:aH)(hs:∀xs,F "is_spot" [.lst xs]=.ok (.bl false))(A:PV)(xs:List PV):aq F bw [A,.lst xs]=.ok (.bl false):=by
 simp! only [bw,hs]
def JW(F:aH)(ho:km F)(hx:∀A xs,F "is_open" [A,.lst xs]=.ok (.bl false)){ae:List Str}{w:Nat}(L:Fl ae w){e:En}(h:fg (fX ae) e):aq F au [fl ae,eP e]=.ok (.bl (dc (∃l,e=.wy l/\l≠[]))):=by
 cases e with
 |no=>
  rw [gz λ⟨l,h,_⟩=>by cases h]
  have ty:eU .list .aC=.ok (.bl false):=rfl
  simp! only [eP,au,ty]
 |wy l=>
  by_cases hl:l=[]
  ·subst hl;rw [gz λ⟨l,h,h2⟩=>by cases h;exact h2 rfl]
   have ty:eU .list (lp [])=.ok (.bl true):=rfl
   have z:d6 (.int (([].map af).length:Int)) (.int 0)=.ok (.bl true):=rfl
   simp! only [eP,au,ty]
   rfl
  ·rw [oD ⟨l,rfl,hl⟩];exact Cc F ho L hl h.1 h.2
 |bad p=>
  rw [gz λ⟨l,h,_⟩=>by cases h]
  cases h with
  |tup xs=>
   have ty:eU .list (.tup xs)=.ok (.bl false):=rfl
   simp! only [eP,au,ty]
  |str z=>
   have ty:eU .list (.str z)=.ok (.bl false):=rfl
   simp! only [eP,au,ty]
  |PB ks hk hl=>
   have hp:=List.length_pos_iff.2 hk
   have ll:(ks.map gN).length<cL:=zzV (m:=1000) (by rw [zzl];exact hl) (by decide)
   have ty:eU .list (.lst (ks.map gN))=.ok (.bl true):=rfl
   have z:(((ks.map gN).length:Int)==0)=false:=by rw [zzl,beq_eq_false_iff_ne];omega
   have c:aE (λx=>((Tg.one 0).put x [.no,.val (fl ae)]).bind λag=>(aB F (.call "is_open" (.cons (.var 1) (.cons (.var 0) .nil))) ag).bind λy=>.ok (some y)) (ks.map gN)=.ok (ks.map λ_=>.bl false):=by
    rw [aZ (p:=gN) (g:=λ_=>.bl false) λx p8=>?_]
    simp! only [hx]
   have b:=iW (λ_=>false) ks
   have a:(ks.map λ_=>false).all id=false:=by
    cases ks with
    |nil=>exact absurd rfl hk
    |cons=>rfl
   simp! only [] at c;simp! only [eP,au,ty,z,ll,c,b,Et,a]
def NJ(F:aH)(hc:tJ F){ae:List Str}{w:Nat}(L:Fl ae w){sl:Bool}{cl pr:Int}(V:Wk cl pr){a b:List Int}(ha:fX ae a)(hb:fX ae b):aq F aU [fl ae,wk sl cl pr,af a,af b]=.ok (.bl (dc (Nb (E1 ae sl cl pr) a b))):=by
 have q:=EM a b
 by_cases A2:a=b
 ·rw [zzh A2] at q;rw [oD (.inl A2.symm)];simp! only [aU,q]
 ·rw [zz0 A2] at q;obtain⟨r,c,rfl,h3⟩:=ha
  obtain⟨r',c',rfl,h4⟩:=hb
  have:=hc ae w L sl cl pr V r c r' c' h3 h4
  replace this:F "step_cost" [fl ae,wk sl cl pr,af [r,c],af [r',c']]=.ok (oP (cm ae sl cl pr r c r' c')):=this
  have q2:di (oP (cm ae sl cl pr r c r' c')) .aC=.ok (.bl (cm ae sl cl pr r c r' c').isSome):=by
   cases cm ae sl cl pr r c r' c'<;>rfl
  have d:(cm ae sl cl pr r c r' c').isSome=dc (Nb (E1 ae sl cl pr) [r,c] [r',c']):=nG (by
   rw [zzp]
   constructor
   ·rintro ⟨e,he⟩
    exact .inr ⟨e,r,c,r',c',rfl,rfl,h3,h4,he⟩
   ·rintro (h|⟨e,r1,c1,r2,c2,z1,z2,_,_,he⟩)
    ·exact absurd h.symm A2
    ·cases z1;cases z2;exact⟨e,he⟩)
  simp! only [aU,q,this,q2,d]
def Lo(E:List Int->List Int->Int->Prop)(e:En):Prop:=∃l,e=.wy l/\l≠[]/\∀j,j+1<l.length->Nb E (av l j) (av l (j+1))
def OK(F:aH){ae:List Str}{w:Nat}(L:Fl ae w){sl:Bool}{cl pr:Int}(V:Wk cl pr){e:En}(h:fg (fX ae) e)
 (h1:F "is_list_of_open_spots" [fl ae,eP e]=.ok (.bl (dc (∃l,e=.wy l/\l≠[])))) (h2:∀a b,fX ae a->fX ae b->F "is_step_or_wait" [fl ae,wk sl cl pr,af a,af b]=.ok (.bl (dc (Nb (E1 ae sl cl pr) a b)))):aq F bb [fl ae,wk sl cl pr,eP e]=.ok (.bl (dc (Lo (E1 ae sl cl pr) e))):=by
 by_cases hx:∃l,e=.wy l/\l≠[]
 ·rw [oD hx] at h1;obtain⟨l,rfl,ne⟩:=hx
  obtain⟨op,hl⟩:=h
  replace h1:F "is_list_of_open_spots" [fl ae,lp l]=.ok (.bl true):=h1
  have hp:=List.length_pos_iff.2 ne
  have q3:dI (lp l) (some 1) none=.ok (.lst ((l.map af).drop 1)):=by
   have:=uf (l.map af) (k:=1) (by rw [zzl];omega)
   exact congrArg (λz=>Res.ok (PV.lst z)) this
  have Cy:Res.of (gv [lp l,.lst ((l.map af).drop 1)])=.ok [l.map af,(l.map af).drop 1]:=rfl
  have mn:iI [l.map af,(l.map af).drop 1]=l.length-1:=by
   show min (l.map af).length ((l.map af).drop 1).length=_
   rw [List.length_drop,zzl];omega
  have lz:(gk [l.map af,(l.map af).drop 1]).length<cL:=by
   unfold gk;rw [mn,zzl,List.length_range];exact zzV (m:=1000) (by omega) (by decide)
  have c:aE (λx=>((Tg.two 0 1).put x [.no,.no,.val (wk sl cl pr),.val (fl ae)]).bind λag=>(aB F (.call "is_step_or_wait" (.cons (.var 3) (.cons (.var 2) (.cons (.var 0) (.cons (.var 1) .nil))))) ag).bind λy=>.ok (some y)) (gk [l.map af,(l.map af).drop 1])=.ok ((List.range (l.length-1)).map λi=>.bl (dc (Nb (E1 ae sl cl pr) (av l i) (av l (i+1))))):=by
   unfold gk;rw [mn,aZ (g:=λi=>.bl (dc (Nb (E1 ae sl cl pr) (av l i) (av l (i+1))))) λi hi=>?_]
   have hi:=List.mem_range.1 hi
   have g1:=getD_at (l:=l) (i:=i) (by omega)
   have g2:((l.map af).drop 1).getD i .aC=af (av l (i+1)):=by
    rw [<-getD_at (l:=l) (i:=i+1) (by omega),zzK,List.getElem?_drop,zzK,Nat.add_comm]
   have e:=h2 (av l i) (av l (i+1)) (op _ (uF ne _)) (op _ (uF ne _))
   simp! only [zzF,List.map_nil,g1,g2,e]
  have b:=iW (λi=>dc (Nb (E1 ae sl cl pr) (av l i) (av l (i+1)))) (List.range (l.length-1))
  have d:dc (∀i∈List.range (l.length-1),Nb (E1 ae sl cl pr) (av l i) (av l (i+1)))=dc (Lo (E1 ae sl cl pr) (.wy l)):=lD ⟨λh=>⟨l,rfl,ne,λj hj=>h j (List.mem_range.2 (by omega))⟩,λ⟨l',z,_,h⟩ i hi=>by
   cases z;exact h i (by have:=List.mem_range.1 hi;omega)⟩
  simp! only [] at c;simp! only [eP,bb,h1,q3,Cy,lz,c,b,Et,oz,d]
 ·rw [gz hx] at h1;rw [gz λ⟨l,h1,h2,_⟩=>hx ⟨l,h1,h2⟩]
  simp! only [bb,h1]
def PY(F:aH){A B:PV}{E:List Int->List Int->Int->Prop}{e:En}(hb:∀p,e=.bad p->Bd p)(s g:List Int)(h:F "is_way_in_time" [A,B,eP e]=.ok (.bl (dc (Lo E e)))):aq F aN [A,B,af s,af g,eP e]=.ok (.bl (dc (w9 E s g e))):=by
 cases e with
 |no=>
  rw [show dc (w9 E s g .no)=true from oD trivial];exact OZ ..
 |wy l=>
  have q:mz (lp l) .aC=.ok (.bl false):=rfl
  replace h:F "is_way_in_time" [A,B,lp l]=.ok (.bl (dc (Lo E (.wy l)))):=h
  by_cases hx:Lo E (.wy l)
  ·rw [oD hx] at h;obtain⟨l',z,ne,go⟩:=hx
   cases z;have f0:=EY ne
   have f1:=zQ ne
   have n1:=EM (av l 0) s
   have n2:=EM (av l (l.length-1)) g
   have d:(decide (av l 0=s)&&decide (av l (l.length-1)=g))=dc (w9 E s g (.wy l)):=nG (by
    rw [zza,zzN,zzN];exact⟨λz=>⟨ne,go,z.1,z.2⟩,λz=>⟨z.fst,z.lst⟩⟩)
   simp! only [eP,aN,q,h,f0,f1,n1,n2,j6,d,Bool.true_and]
  ·rw [gz hx] at h;rw [gz λz:w9 E s g (.wy l)=>hx ⟨l,rfl,z.ne,z.go⟩]
   simp! only [eP,aN,q,h]
 |bad p=>
  rw [gz (λ⟨l,z,_⟩=>by cases z)] at h;rw [show dc (w9 E s g (.bad p))=false from gz id];have q:mz p .aC=.ok (.bl false):=by cases hb p rfl<;>rfl
  replace h:F "is_way_in_time" [A,B,p]=.ok (.bl false):=h
  simp! only [eP,aN,q,h]
def Rt(t:Nat)(a b:Ks):Prop:=av a t≠av b t/\¬(av a t=av b (t+1)/\av a (t+1)=av b t)
theorem merge_le{α:Type}:∀(ps:List (List Int×α)) (ks:Ks) (vs:List α),(b8 ps ks vs).1.length<=ks.length+ps.length
 |[],_,_=>zzE _
 |p::ps,ks,vs=>by
  have h1:=merge_le ps (bF ks p.1) (cM ks vs p.1 p.2)
  have h2:=nL ks p.1
  rw [b8,zzL];omega
theorem merge_lt{α:Type}:∀(ps:List (List Int×α)) (ks:Ks) (vs:List α),ks.Nodup->¬(ks++ps.map (·.1)).Nodup->(b8 ps ks vs).1.length<ks.length+ps.length
 |[],ks,_,h,n=>absurd (by simpa using h) n
 |p::ps,ks,vs,h,n=>by
  rw [b8,zzL]
  by_cases hx:cZ ks p.1=true
  ·have:=merge_le ps (bF ks p.1) (cM ks vs p.1 p.2)
   have e:bF ks p.1=ks:=by rw [bF,if_pos hx]
   rw [e] at this⊢;omega
  ·have e:bF ks p.1=ks++[p.1]:=by rw [bF,if_neg hx]
   have:=merge_lt ps (bF ks p.1) (cM ks vs p.1 p.2) (i3 h _) (by rw [e,List.append_assoc];exact n)
   have l:(bF ks p.1).length=ks.length+1:=by rw [e,zzM,List.length_singleton]
   omega
def Ro{α:Type}{R:α->α->Prop}{W:List α}(ap:W.Pairwise R){a b:α}(ha:a∈W)(hb:b∈W)(A2:a≠b):R a b\/R b a:=by
 induction W with
 |nil=>cases ha
 |cons c W ih=>
  obtain⟨p1,p2⟩:=List.pairwise_cons.1 ap
  rcases zzm.1 ha with rfl|ha'
  ·rcases zzm.1 hb with rfl|hb'
   ·exact absurd rfl A2
   ·exact .inl (p1 b hb')
  ·rcases zzm.1 hb with rfl|hb'
   ·exact .inr (p1 a ha')
   ·exact ih p2 ha' hb'
abbrev mt(t:Nat)(w:Ks):PV:=PV.tup [af (av w t),af (av w (t+1))]
def F9(F:aH){W:List Ks}(hl:W.length<=100)(t:Nat):aq F aS [p7 W t]=.ok (.bl (dc (W.Pairwise (Rt t)))):=by
 have l2:bC .len [p7 W t]=.ok (.int (W.length:Int)):=by
  show Res.ok (PV.int ((W.map (mt t)).length:Int))=_
  rw [zzl]
 by_cases nd:(W.map λw=>av w t).Nodup
 ·have d1:bC .dict [p7 W t]=.ok (Jv W t):=by
   have:=se (L:=W.map λw=>(av w t,af (av w (t+1)))) (by rw [List.map_map];exact nd)
   rw [List.map_map,List.map_map,List.map_map] at this;exact this
  have l1:bC .len [Jv W t]=.ok (.int (W.length:Int)):=by
   have:bC .len [Jv W t]=.ok (.int ((W.map λw=>av w t).length:Int)):=D6
   rwa [zzl] at this
  have lm:(W.map (mt t)).length<cL:=zzV (m:=100) (by rw [zzl];exact hl) (by decide)
  have qm:rH (.var 0) (p7 W t)=.ok (W.map (mt t)):=rfl
  have lt:decide ((W.length:Int)<(W.length:Int))=false:=zz0 (Int.lt_irrefl _)
  have c:aE (λx=>((Tg.two 0 1).put x [.no,.no,.val (Jv W t)]).bind λag=>(aB F (.and (.cmp .ne (.var 0) (.var 1)) (.cmp .eq (.get (.var 2) (.var 1)) (.var 0))) ag).bind λy=>.ok (some y)) (W.map (mt t))=.ok (W.map λa=>.bl (dc (av a t≠av a (t+1)/\∃b∈W,av b t=av a (t+1)/\av b (t+1)=av a t))):=by
   rw [aZ (p:=mt t) (g:=λa=>.bl (dc (av a t≠av a (t+1)/\∃b∈W,av b t=av a (t+1)/\av b (t+1)=av a t))) λa ha=>?_]
   have q1:=J6 (av a t) (av a (t+1))
   by_cases eB:av a t=av a (t+1)
   ·rw [zzh eB] at q1;rw [gz λz=>z.1 eB]
    simp! only [mt,q1]
   ·rw [zz0 eB] at q1
    by_cases h2:∃b∈W,av b t=av a (t+1)
    ·obtain⟨b,hb,e⟩:=h2
     have e2:(bo (W.map λw=>av w t) (W.map λw=>af (av w (t+1))) (av a (t+1))).getD .aC=af (av b (t+1)):=by
      rw [<-e,kF (f:=λw=>av w t) (g:=λw=>af (av w (t+1))) nd hb]
      rfl
     have q2:=EM (av b (t+1)) (av a t)
     have d:decide (av b (t+1)=av a t)=dc (av a t≠av a (t+1)/\∃b∈W,av b t=av a (t+1)/\av b (t+1)=av a t):=nG (by
      rw [zzN];refine⟨λz=>⟨eB,b,hb,e,z⟩,λ⟨_,b',hb',e',z⟩=>?_⟩
      by_cases MI:b=b'
      ·rw [MI];exact z
      ·have pw:W.Pairwise λa b=>av a t≠av b t:=List.pairwise_map.1 nd
       rcases Ro pw hb hb' MI with y|y
       ·exact absurd (e.trans e'.symm) y
       ·exact absurd (e'.trans e.symm) y)
     simp! only [mt,q1,dF,e2,q2,d]
    ·have e2:(bo (W.map λw=>av w t) (W.map λw=>af (av w (t+1))) (av a (t+1))).getD .aC=.aC:=by
      rw [oy (f:=λw=>av w t) (g:=λw=>af (av w (t+1))) λw hw z=>h2 ⟨w,hw,z⟩]
      rfl
     have q2:d6 .aC (af (av a t))=.ok (.bl false):=by
      show(if(Ci.plain 9 .aC&&Ci.plain 9 (af (av a t)))=true then Res.ok (PV.bl (ib 9 .aC (af (av a t)))) else .bad)=_
      rw [eZ 8]
      rfl
     rw [gz λ⟨_,b,hb,e,_⟩=>h2 ⟨b,hb,e⟩]
     simp! only [mt,q1,dF,e2,q2]
  have an:bC .any [.lst (W.map λa=>.bl (dc (av a t≠av a (t+1)/\∃b∈W,av b t=av a (t+1)/\av b (t+1)=av a t)))]=.ok (.bl (!dc (W.Pairwise (Rt t)))):=by
   show(Res.of (boolsOf _)).bind (λbs=>Res.ok (PV.bl (bs.any id)))=_
   rw [iW];refine congrArg (λz=>Res.ok (PV.bl z)) ?_
   rw [List.any_map]
   by_cases hp:W.Pairwise (Rt t)
   ·rw [oD hp];refine List.any_eq_false.2 λa ha z=>?_
    obtain⟨eB,b,hb,e1,e2⟩:=r8.1 z
    have A2:a≠b:=λz=>eB (by rw [<-e1,z])
    rcases Ro hp ha hb A2 with y|y
    ·exact y.2 ⟨e2.symm,e1.symm⟩
    ·exact y.2 ⟨e1,e2⟩
   ·rw [gz hp];refine Classical.byContradiction λz=>hp ?_
    have pw:W.Pairwise λa b=>av a t≠av b t:=List.pairwise_map.1 nd
    refine List.Pairwise.imp_of_mem (λ{a b} ha hb eB=>⟨eB,λy=>z ?_⟩) pw;refine zzj.2 ⟨a,ha,oD ⟨λx=>eB (x.trans y.2),b,hb,y.2.symm,y.1.symm⟩⟩
  simp! only [] at c;simp! only [aS,d1,l1,l2,lt,qm,lm,c,an,Bool.not_not]
 ·have d1:∃K V',bC .dict [p7 W t]=.ok (.bx K V')/\K.length<W.length:=by
   have ml:=merge_lt (W.map λw=>(av w t,af (av w (t+1)))) [] [] List.nodup_nil (by rw [List.nil_append,List.map_map];exact nd)
   rw [List.length_nil,zzl,Nat.zero_add] at ml;refine⟨(b8 (W.map λw=>(av w t,af (av w (t+1)))) [] []).1,(b8 (W.map λw=>(av w t,af (av w (t+1)))) [] []).2,?_,ml⟩
   have:=yC (W.map λw=>(av w t,af (av w (t+1))))
   rw [List.map_map] at this;show(Res.of (qw _)).bind _=_
   exact congrArg (λz=>(Res.of z).bind λps=>Res.ok (PV.bx (b8 ps [] []).1 (b8 ps [] []).2)) this
  obtain⟨K,V',d1,hK⟩:=d1
  have l1:bC .len [.bx K V']=.ok (.int (K.length:Int)):=D6
  have lt:decide ((K.length:Int)<(W.length:Int))=true:=zzh (by omega)
  rw [gz λhp=>nd (List.pairwise_map.2 (hp.imp λh=>h.1))]
  simp! only [aS,d1,l1,l2,lt]
def LD(F:aH){W:List Ks}(ne:∀w∈W,w≠[])(hl:W.length<=100){st:Nat}(cO:st<=2000)(hs:Still W st)(h1:F "still_from" [eC W]=.ok (.int (st:Int)))(h2:∀t:Nat,F "moves_at" [eC W,.int (t:Int)]=.ok (p7 W t))(h3:∀t,F "are_moves_apart" [p7 W t]=.ok (.bl (dc (W.Pairwise (Rt t))))):aq F cK [eC W]=.ok (.bl (dc (W.Pairwise Ap))):=by
 have s1:aM ((st:Int)+1)=true:=kM (by omega) (by omega)
 have rg:dN 0 ((st:Int)+1).toNat=(List.range (st+1)).map λi:Nat=>PV.int (i:Int):=by
  rw [show((st:Int)+1).toNat=st+1 by omega];have:=kW 0 (st+1)
  simp! [Nat.zero_add] at this;exact this
 have lr:((List.range (st+1)).map λi:Nat=>PV.int (i:Int)).length<cL:=zzV (m:=2001) (by rw [zzl,List.length_range];omega) (by decide)
 have c:aE (λx=>((Tg.one 0).put x [.no,.val (eC W)]).bind λag=>(aB F (.call "are_moves_apart" (.cons (.call "moves_at" (.cons (.var 1) (.cons (.var 0) .nil))) .nil)) ag).bind λy=>.ok (some y)) ((List.range (st+1)).map λi:Nat=>PV.int (i:Int))=.ok ((List.range (st+1)).map λt=>.bl (dc (W.Pairwise (Rt t)))):=by
  rw [aZ (p:=λi:Nat=>PV.int (i:Int)) (g:=λt=>.bl (dc (W.Pairwise (Rt t)))) λi hi=>?_]
  simp! only [h2,h3]
 have b:=iW (λt=>dc (W.Pairwise (Rt t))) (List.range (st+1))
 have d:dc (∀t∈List.range (st+1),W.Pairwise (Rt t))=dc (W.Pairwise Ap):=lD (by
  constructor
  ·intro h;rw [List.pairwise_iff_getElem];intro i j hi hj Hu t
   by_cases ht:t<=st
   ·exact List.pairwise_iff_getElem.1 (h t (List.mem_range.2 (by omega))) i j hi hj Hu
   ·have z:=(List.pairwise_iff_getElem.1 (h st (List.mem_range.2 (by omega))) i j hi hj Hu).1
    have mi:=List.getElem_mem hi
    have mj:=List.getElem_mem hj
    refine⟨?_,λy=>?_⟩
    ·rw [hs.at mi (t:=t) (by omega),hs.at mj (t:=t) (by omega)];exact z
    ·have y:=y.1
     rw [hs.at mi (t:=t) (by omega),hs.at mj (t:=t+1) (by omega)] at y;exact z y
  ·exact λh t _=>h.imp λy=>y t)
 dsimp! only [J] at c;dsimp! only [cK,h1,s1,rg,lr,c,b,Et,oz,d]
def ew(es:List En):List Ks:=es.filterMap λ|.wy l=>some l|_=>none
def AF(a b:List En):ew (a++b)=ew a++ew b:=List.filterMap_append
def oR{es:List En}{w:Ks}:w∈ew es↔.wy w∈es:=by
 unfold ew;rw [zz1]
 constructor
 ·rintro ⟨a,h1,h2⟩
  cases a with
  |wy l=>cases h2;exact h1
  |no=>cases h2
  |bad p=>cases h2
 ·exact λh=>⟨_,h,rfl⟩
def Az(es:List En):(ew es).length<=es.length:=List.length_filterMap_le ..
def wV(E:List Int->List Int->Int->Prop)(ss gs:Ks)(es:List En):Prop:=es.length=ss.length/\(∀i,i<ss.length->w9 E (ss.getD i []) (gs.getD i []) (es.getD i .no))/\(ew es).Pairwise Ap
def JQ{ss gs:Ks}{es:List En}(hl:ss.length=gs.length)(ho:es.length=ss.length):gk [ss.map af,gs.map af,es.map eP]=(List.range ss.length).map λi=>.tup [af (ss.getD i []),af (gs.getD i []),eP (es.getD i .no)]:=by
 have mn:iI [ss.map af,gs.map af,es.map eP]=ss.length:=by
  show min (ss.map af).length (min (gs.map af).length (es.map eP).length)=_
  rw [zzl,zzl,zzl];omega
 unfold gk;rw [mn];refine List.map_congr_left λi hi=>?_
 have hi:=List.mem_range.1 hi
 have e1:ss[i]?=some ss[i]:=zzg hi
 have e2:gs[i]?=some gs[i]:=zzg (by omega)
 have e3:es[i]?=some es[i]:=zzg (by omega)
 simp! [zzF,List.map_nil,zzK,zzQ,e1,e2,e3,Option.map_some,Option.getD_some]
theorem uQ{f:PV->Res (Option PV)}(h0:f .aC=.ok none)(h1:∀l,f (lp l)=.ok (some (lp l))):∀es:List En,(∀e∈es,∀p,e≠.bad p)->aE f (es.map eP)=.ok ((ew es).map lp)
 |[],_=>rfl
 |e::es,h=>by
  have ih:=uQ h0 h1 es λe he=>h e (zzI _ he)
  cases e with
  |no=>simp! [zzF,eP,aE,h0,A5,iQ,ih];rfl
  |wy l=>simp! [zzF,eP,aE,h1,A5,iQ,ih];rfl
  |bad p=>exact absurd rfl (h _ (zzP ..) p)
def Li(F:aH){A B:PV}{E:List Int->List Int->Int->Prop}{O:List Int->Prop}{ss gs:Ks}{es:List En}(hl:ss.length=gs.length)(MO:es.length<=30)(ok:∀e∈es,fg O e)(hf:∀e s g,fg O e->F "fulfils_plan" [A,B,af s,af g,eP e]=.ok (.bl (dc (w9 E s g e))))(hk:∀W:List Ks,(∀w∈W,w≠[]/\w.length<=1000)->W.length<=100->F "keep_apart" [eC W]=.ok (.bl (dc (W.Pairwise Ap)))):aq F cy [A,B,lp ss,lp gs,.lst (es.map eP)]=.ok (.bl (dc (wV E ss gs es))):=by
 have ty:eU .list (.lst (es.map eP))=.ok (.bl true):=rfl
 by_cases ho:es.length=ss.length
 ·have z:(!(((es.map eP).length:Int)==((ss.map af).length:Int)))=false:=by rw [zzl,zzl,ho];simp
  have Cy:Res.of (gv [lp ss,lp gs,.lst (es.map eP)])=.ok [ss.map af,gs.map af,es.map eP]:=rfl
  have zz:=JQ hl ho
  have lz:(gk [ss.map af,gs.map af,es.map eP]).length<cL:=by
   rw [zz,zzl,List.length_range];exact zzV (m:=30) (by omega) (by decide)
  have c:aE (λx=>((Tg.three 0 1 2).put x [.no,.no,.no,.val B,.val A]).bind λag=>(aB F (.call "fulfils_plan" (.cons (.var 4) (.cons (.var 3) (.cons (.var 0) (.cons (.var 1) (.cons (.var 2) .nil)))))) ag).bind λy=>.ok (some y)) (gk [ss.map af,gs.map af,es.map eP])=.ok ((List.range ss.length).map λi=>.bl (dc (w9 E (ss.getD i []) (gs.getD i []) (es.getD i .no)))):=by
   rw [zz,aZ (g:=λi=>.bl (dc (w9 E (ss.getD i []) (gs.getD i []) (es.getD i .no)))) λi hi=>?_]
   have hi:=List.mem_range.1 hi
   have e3:es.getD i .no∈es:=by
    rw [zzK,zzg (show i<es.length by omega)];exact List.getElem_mem _
   simp! only [hf _ _ _ (ok _ e3)]
  have b:=iW (λi=>dc (w9 E (ss.getD i []) (gs.getD i []) (es.getD i .no))) (List.range ss.length)
  simp! only [] at c
  by_cases hv:∀i∈List.range ss.length,w9 E (ss.getD i []) (gs.getD i []) (es.getD i .no)
  ·have dv:=oD hv
   have nb:∀e∈es,(∀p,e≠.bad p)/\∀l,e=.wy l->l≠[]:=λe he=>by
    obtain⟨i,hi,rfl⟩:=List.mem_iff_getElem.1 he
    have:=hv i (List.mem_range.2 (by omega))
    rw [zzK (l:=es),zzg hi,Option.getD_some] at this;exact⟨λp z=>by rw [z] at this;exact this,λl z=>by rw [z] at this;exact this.ne⟩
   have l1:(es.map eP).length<cL:=zzV (m:=30) (by rw [zzl];omega) (by decide)
   have c1:aE (λx=>((Tg.one 0).put x [.no]).bind λag=>(aB F (.cmp .oY (.var 0) (.cst .aC)) ag).bind λt=>mV t λt=>if t then(aB F (.var 0) ag).bind λy=>.ok (some y) else .ok none) (es.map eP)=.ok ((ew es).map lp):=uQ (by
    have q:di .aC .aC=.ok (.bl false):=rfl
    simp! only [q]) (λl=>by
    have q:di (lp l) .aC=.ok (.bl true):=rfl
    simp! only [q]) es λe he=>(nb e he).1
   have hk:=hk (ew es) (λw hw=>⟨(nb _ (oR.1 hw)).2 w rfl,(ok _ (oR.1 hw)).2⟩) (zzU (Az es) (by omega))
   have d:dc ((ew es).Pairwise Ap)=dc (wV E ss gs es):=lD ⟨λh=>⟨ho,λi hi=>hv i (List.mem_range.2 hi),h⟩,λh=>h.2.2⟩
   rw [d] at hk;simp! only [] at c1;simp! only [cy,ty,z,Cy,lz,c,b,Et,oz,dv,l1,c1,hk]
  ·have dv:=gz hv
   rw [gz λh:wV E ss gs es=>hv λi hi=>h.2.1 i (List.mem_range.1 hi)]
   simp! only [cy,ty,z,Cy,lz,c,b,Et,oz,dv]
 ·have z:(!(((es.map eP).length:Int)==((ss.map af).length:Int)))=true:=by
   rw [zzl,zzl,Bool.not_eq_true',beq_eq_false_iff_ne];omega
  rw [gz λh:wV E ss gs es=>ho h.1]
  simp! only [cy,ty,z]
def Ec(F:aH){A B C D p:PV}(h:p=.aC\/∃xs,p=.tup xs):aq F cy [A,B,C,D,p]=.ok (.bl false):=by
 rcases h with rfl|⟨xs,rfl⟩<;>simp! only [cy]
theorem fC{α:Type}{body:PV->Sl->Res Ci.Fl}{g:α->PV}{P:Nat->α->Prop}{I:Nat->Sl->Prop}{v:PV}:∀(l:List α) (i:Nat) (env:Sl),I i env->(∀j a env,l[j]?=some a->I (i+j) env->(P (i+j) a->∃ag,body (g a) env=.ok (.nx ag)/\I (i+j+1) ag)/\(¬P (i+j) a->body (g a) env=.ok (.rt v)))->((∀j a,l[j]?=some a->P (i+j) a)->∃ag,forL body (l.map g) env=.ok (.nx ag)/\I (i+l.length) ag)/\(¬(∀j a,l[j]?=some a->P (i+j) a)->forL body (l.map g) env=.ok (.rt v))
 |[],i,env,h0,_=>⟨λ_=>⟨env,rfl,h0⟩,λz=>absurd (λj a h=>by cases h) z⟩
 |a::l,i,env,h0,h=>by
  obtain⟨h1,h2⟩:=h 0 a env rfl h0
  by_cases hp:P i a
  ·obtain⟨ag,e1,i1⟩:=h1 hp
   obtain⟨r1,r2⟩:=fC (body:=body) (g:=g) (P:=P) (I:=I) (v:=v) l (i+1) ag i1 λj b env hj hI=>by
    have:=h (j+1) b env (by rw [List.getElem?_cons_succ];exact hj) (by rw [show i+(j+1)=i+1+j by omega];exact hI)
    rw [show i+(j+1)=i+1+j by omega] at this;exact this
   have eq:forL body ((a::l).map g) env=forL body (l.map g) ag:=by simp! [zzF,forL,e1,iQ]
   have iff:(∀j b,(a::l)[j]?=some b->P (i+j) b)↔∀j b,l[j]?=some b->P (i+1+j) b:=by
    constructor
    ·intro z j b hj;have:=z (j+1) b (by rw [List.getElem?_cons_succ];exact hj)
     rwa [show i+(j+1)=i+1+j by omega] at this
    ·intro z j b hj;cases j with
     |zero=>cases hj;exact hp
     |succ j=>
      rw [List.getElem?_cons_succ] at hj;have:=z j b hj
      rwa [show i+1+j=i+(j+1) by omega] at this
   rw [eq,iff,zzL,show i+(l.length+1)=i+1+l.length by omega];exact⟨r1,r2⟩
  ·have e1:=h2 hp
   refine⟨λz=>absurd (z 0 a rfl) hp,λ_=>?_⟩
   simp! [zzF,forL,e1,iQ]
def xD(xs:List PV):bL 0 xs=(List.range xs.length).map λi:Nat=>PV.tup [.int (i:Int),xs.getD i .aC]:=by
 have key:∀(xs:List PV) (k:Nat),bL k xs=(List.range xs.length).map λi:Nat=>PV.tup [.int ((k+i:Nat):Int),xs.getD i .aC]:=by
  intro xs
  induction xs with
  |nil=>intro k;rfl
  |cons x xs ih=>
   intro k;rw [bL,ih,zzL,List.range_succ_eq_map,zzF,List.map_map];refine List.cons_eq_cons.2 ⟨rfl,List.map_congr_left λi _=>?_⟩
   show PV.tup [.int ((k+1+i:Nat):Int),_]=PV.tup [.int ((k+(i+1):Nat):Int),_]
   rw [show k+1+i=k+(i+1) by omega]
   rfl
 have:=key xs 0
 simp! [Nat.zero_add] at this;exact this
def M9(F:aH)(ha:LK F){l v:Ks}(nl:l≠[])(nv:v≠[])(t:Nat)(a0 a1 a2 a3 a4 a6 a7 a8 a9 lY:Ci.Slot):
 (((Tg.one 11).put (.int (t:Int)) [a0,a1,a2,a3,a4,.val (lp l),a6,a7,a8,a9,.val (lp v),lY]).bind λag=>aD F B6 ag)=.ok (if dc (Rt t l v)=true then .nx [a0,a1,a2,a3,a4,.val (lp l),a6,a7,a8,a9,.val (lp v),.val (.int (t:Int))] else .rt (.bl false)):=by
 have q1:=EM (av l t) (av v t)
 have q2:=EM (av l (t+1)) (av v t)
 have q3:=EM (av v (t+1)) (av l t)
 by_cases h1:av l t=av v t
 ·rw [zzh h1] at q1;rw [gz λz=>z.1 h1]
  simp! only [B6,ha l nl,ha v nv,q1,if_true]
 ·rw [zz0 h1] at q1
  by_cases h2:av l (t+1)=av v t/\av v (t+1)=av l t
  ·rw [zzh h2.1] at q2;rw [zzh h2.2] at q3;rw [gz λz=>z.2 ⟨h2.2.symm,h2.1⟩]
   simp! only [B6,ha l nl,ha v nv,ha.MT nl,ha.MT nv,q1,q2,q3]
  ·have cond:(decide (av l (t+1)=av v t)&&decide (av v (t+1)=av l t))=false:=by
    rw [Bool.and_eq_false_iff,decide_eq_false_iff_not,decide_eq_false_iff_not]
    by_cases h:av l (t+1)=av v t
    ·exact .inr λz=>h2 ⟨h,z⟩
    ·exact .inl h
   rw [oD ⟨h1,λz=>h2 ⟨z.2,z.1.symm⟩⟩]
   simp! only [B6,ha l nl,ha v nv,ha.MT nl,ha.MT nv,q1,q2,q3,j6,cond]
theorem BI{a b:Ks}{N:Nat}(ha:a.length<=N)(hb:b.length<=N)(h:∀t,t<=N->Rt t a b):Ap a b:=λt=>by
 by_cases ht:t<=N
 ·exact h t ht
 ·have z:=(h N (zzE _)).1
  have e:∀{w:Ks} {t:Nat},w.length<=N->N<=t->av w t=av w N:=λ{w t} h1 h2=>by rw [fS (w:=w) (t:=t) (by omega),fS (w:=w) (t:=N) (by omega)]
  refine⟨?_,λy=>?_⟩
  ·rw [e ha (t:=t) (by omega),e hb (t:=t) (by omega)];exact z
  ·have y:=y.1
   rw [e ha (t:=t) (by omega),e hb (t:=t+1) (by omega)] at y;exact z y
def Of(F:aH)(ha:LK F){l v:Ks}(nl:l≠[])(nv:v≠[])(hl:l.length<=1000)(hv:v.length<=1000)(a0 a1 a2 a3 a4 a6 a7 a8 a9 sM lY:Ci.Slot):
 (Ap l v->∃A4,(((Tg.one 10).put (lp v) [a0,a1,a2,a3,a4,.val (lp l),a6,a7,a8,a9,sM,lY]).bind λag=>aD F Jr ag)=.ok (.nx [a0,a1,a2,a3,a4,.val (lp l),a6,a7,a8,a9,.val (lp v),A4]))/\(¬Ap l v->(((Tg.one 10).put (lp v) [a0,a1,a2,a3,a4,.val (lp l),a6,a7,a8,a9,sM,lY]).bind λag=>aD F Jr ag)=.ok (.rt (.bl false))):=by
 generalize hN:(if((v.map af).length:Int)>((l.map af).length:Int) then((v.map af).length:Int) else((l.map af).length:Int))+1=N
 have Tv:0<=N/\N<=2000/\(l.length:Int)<N/\(v.length:Int)<N:=by rw [<-hN,zzl,zzl];split<;>omega
 have rg:dN 0 N.toNat=(List.range N.toNat).map λi:Nat=>PV.int (i:Int):=by
  have:=kW 0 N.toNat
  simp! [Nat.zero_add] at this;exact this
 have s1:aM N=true:=kM Tv.1 (by omega)
 obtain⟨c1,c2⟩:=fC (body:=λx env=>((Tg.one 11).put x env).bind λag=>aD F B6 ag) (g:=λi:Nat=>PV.int (i:Int)) (P:=λ_ t=>Rt t l v) (I:=λ_ env=>∃lY:Ci.Slot,env=[a0,a1,a2,a3,a4,.val (lp l),a6,a7,a8,a9,.val (lp v),lY]) (v:=.bl false) (List.range N.toNat) 0 [a0,a1,a2,a3,a4,.val (lp l),a6,a7,a8,a9,.val (lp v),lY] ⟨_,rfl⟩ (λj t env hj ⟨lY,he⟩=>by
  subst he;have:=M9 F ha nl nv t a0 a1 a2 a3 a4 a6 a7 a8 a9 lY
  refine⟨λz=>?_,λz=>?_⟩
  ·rw [oD z,if_pos rfl] at this;exact⟨_,this,_,rfl⟩
  ·rw [gz z,if_neg zzf] at this;exact this)
 have iff:(∀(j t:Nat),(List.range N.toNat)[j]?=some t->Rt t l v)↔Ap l v:=by
  constructor
  ·intro h;refine BI (N:=N.toNat-1) (by omega) (by omega) λt ht=>h t t ?_
   rw [List.getElem?_range (by omega)]
  ·exact λh j t _=>h t
 rw [iff] at c1 c2;dsimp! only [B6] at c1 c2;refine⟨λz=>?_,λz=>?_⟩
 ·obtain⟨ag,e,A4,rfl⟩:=c1 z
  refine⟨A4,?_⟩;dsimp! only [Jr,B6,hN,s1,rg,e]
 ·have e:=c2 z
  dsimp! only [Jr,B6,hN,s1,rg,e]
def Ob(F:aH)(hs:iC F){ae:List Str}{w:Nat}(L:Fl ae w){sl:Bool}{cl pr:Int}(V:Wk cl pr){l:Ks}(ne:l≠[])(op:∀x∈l,fX ae x){i:Nat}(hi:i+1<l.length)(a2 a3 a4 a6 a7 a8 a9 Mj Mw:Ci.Slot):
 ∃s9,(((Tg.two 7 8).put (.tup [.int (i:Int),af (av l (i+1))]) [.val (fl ae),.val (wk sl cl pr),a2,a3,a4,.val (lp l),a6,a7,a8,a9,Mj,Mw]).bind λag=>aD F Mf ag)=.ok (if dc (Nb (E1 ae sl cl pr) (av l i) (av l (i+1)))=true then .nx [.val (fl ae),.val (wk sl cl pr),a2,a3,a4,.val (lp l),a6,.val (.int (i:Int)),.val (af (av l (i+1))),s9,Mj,Mw] else .rt (.bl false)):=by
 have hu:l[i]?=some (av l i):=by rw [gU (by omega)];exact zzg (by omega)
 have eu:=iH hu
 obtain⟨r,c,hrc,ho⟩:=op _ (zzD hu)
 obtain⟨T,eT,lT,_,hT⟩:=hs ae w L sl cl pr V r c ho
 rw [<-hrc] at eT hT;have SX:(T.map tK).length<cL:=zzV (m:=9) (by rw [zzl];exact lT) (by decide)
 have cc:aE (λx=>((Tg.one 0).put x [.no]).bind λag=>(aB F (.sub (.var 0) (.cst (.int 0))) ag).bind λy=>.ok (some y)) (T.map tK)=.ok ((T.map (·.1)).map af):=by
  rw [aZ (p:=tK) (g:=λt=>af t.1) λt ht=>?_,List.map_map]
  ·rfl
  ·simp! only [Sx]
 have q1:=J6 (av l (i+1)) (av l i)
 have q2:=LF (av l (i+1)) (T.map (·.1))
 have cond:(!decide (av l (i+1)=av l i)&&!decide (av l (i+1)∈T.map (·.1)))=!dc (Nb (E1 ae sl cl pr) (av l i) (av l (i+1))):=by
  rw [<-Bool.not_or];refine congrArg _ (nG ?_);rw [zzt,zzN,zzN,zzx];refine or_congr_right ⟨?_,?_⟩
  ·rintro ⟨⟨v,e⟩,h1,h2⟩
   dsimp only at h2;subst h2;exact⟨e,(hT _ e).1 h1⟩
  ·rintro ⟨e,h⟩
   exact⟨(_,e),(hT _ e).2 h,rfl⟩
 simp! only [] at cc;refine⟨.val (lp (T.map (·.1))),?_⟩;generalize dc (Nb (E1 ae sl cl pr) (av l i) (av l (i+1)))=b at cond⊢
 generalize av l i=x at *
 generalize av l (i+1)=y at *
 simp! only [Mf,eu,eT,SX,cc,q1,q2,j6,cond];cases b<;>rfl
def zE(n:Nat)(ks:Ks):(ks.map gN).all (Ci.plain (n+1))=true:=by
 simp! [zzT,zzx]
 rintro x ⟨i,_,rfl⟩
 exact og n i
def FF(ks:Ks)(h:ks≠[]):d6 (.lst (ks.map gN)) (.lst [])=.ok (.bl false):=by
 show(if(Ci.plain 9 (.lst (ks.map gN))&&Ci.plain 9 (.lst []))=true then Res.ok (PV.bl (ib 9 (.lst (ks.map gN)) (.lst []))) else .bad)=_
 rw [show Ci.plain 9 (.lst (ks.map gN))=true from zE 7 ks];cases ks with
 |nil=>exact absurd rfl h
 |cons=>rfl
def Hq(ks:Ks)(h:ks≠[]):fb (.lst (ks.map gN)) (.lst [])=.ok (.bl true):=by
 show(if(Ci.plain 9 (.lst (ks.map gN))&&Ci.plain 9 (.lst []))=true then Res.ok (PV.bl (!ib 9 (.lst (ks.map gN)) (.lst []))) else .bad)=_
 rw [show Ci.plain 9 (.lst (ks.map gN))=true from zE 7 ks];cases ks with
 |nil=>exact absurd rfl h
 |cons=>rfl
def HH(k:List Int)(S:Ks):fK (gN k) (lp S)=.ok (.bl true):=by
 show(if(Ci.plain 9 (gN k)&&(S.map af).all (Ci.plain 9))=true then Res.ok (PV.bl (!pF (gN k) (S.map af))) else .bad)=_
 rw [show Ci.plain 9 (gN k)=true from og 8 k,j1 8];have:pF (gN k) (S.map af)=false:=by
  unfold pF;rw [List.any_map];exact List.any_eq_false.2 λx _ z=>by cases z
 rw [this]
 rfl
def J0(E:List Int->List Int->Int->Prop)(W:List Ks)(s g:List Int)(e:En):Prop:=∃l,e=.wy l/\Vw E s g l/\∀w∈W,Ap l w
def Gf{l:Ks}:bL 0 ((l.map af).drop 1)=(List.range (l.length-1)).map λi:Nat=>PV.tup [.int (i:Int),af (av l (i+1))]:=by
 rw [xD,List.length_drop,zzl];refine List.map_congr_left λi hi=>?_
 have hi:=List.mem_range.1 hi
 rw [<-getD_at (l:=l) (i:=i+1) (by omega),zzK,List.getElem?_drop,zzK,Nat.add_comm 1 i]
def JJ(F:aH)(ha:LK F)(hs:iC F){ae:List Str}{w:Nat}(L:Fl ae w){sl:Bool}{cl pr:Int}(V:Wk cl pr){S:Ks}(eS:F "_law_spots" [fl ae]=.ok (lp S))(hm:∀k,k∈S↔fX ae k)
 {W:List Ks} {s g:List Int} (wn:∀w∈W,w≠[]/\w.length<=1000) {e:En} (hn:e≠.no) (ok:fg (fX ae) e):
 aq F b7 [fl ae,wk sl cl pr,eC W,af s,af g,eP e]=.ok (.bl (dc (J0 (E1 ae sl cl pr) W s g e))):=by
 have st:bP b7 [fl ae,wk sl cl pr,eC W,af s,af g,eP e]=[.val (fl ae),.val (wk sl cl pr),.val (eC W),.val (af s),.val (af g),.val (eP e),.no,.no,.no,.no,.no,.no]:=rfl
 have ar:bO b7 [fl ae,wk sl cl pr,eC W,af s,af g,eP e]=true:=rfl
 unfold aq;rw [ar,if_pos rfl,st,CG]
 clear st ar
 cases e with
 |no=>exact absurd rfl hn
 |bad p=>
  rw [gz λ⟨l,h,_⟩=>by cases h]
  cases ok with
  |tup xs=>dsimp! only [eP,eS]
  |str z=>dsimp! only [eP,eS]
  |PB ks hk hl=>
   have ll:(ks.map gN).length<cL:=zzV (m:=1000) (by rw [zzl];exact hl) (by decide)
   have cc:aE (λx=>((Tg.one 0).put x [.no,.val (lp S)]).bind λag=>(aB F (.cmp .rP (.var 0) (.var 1)) ag).bind λt=>mV t λt=>if t then(aB F (.var 0) ag).bind λy=>.ok (some y) else .ok none) (ks.map gN)=.ok (ks.map gN):=by
    rw [aZ (p:=gN) (g:=gN) λx hx=>?_]
    have q:=HH x S
    simp! only [q]
   have q1:=FF ks hk
   have q2:=Hq ks hk
   dsimp! only [J] at cc;dsimp! only [eP,eS,q1,ll,cc,q2]
 |wy l=>
  obtain⟨op,hl⟩:=ok
  show Res.bind (aD F _ [.val (fl ae),.val (wk sl cl pr),.val (eC W),.val (af s),.val (af g),.val (lp l),.no,.no,.no,.no,.no,.no]) _=_
  have q1:=Q3 l []
  by_cases ne:l=[]
  ·rw [zzh ne] at q1;replace q1:d6 (lp l) (.lst [])=.ok (.bl true):=q1
   rw [gz λ⟨l',h,v,_⟩=>by cases h;exact v.ne ne]
   dsimp! only [eS,q1]
  ·rw [zz0 ne] at q1;replace q1:d6 (lp l) (.lst [])=.ok (.bl false):=q1
   have hp:=List.length_pos_iff.2 ne
   have ll:(l.map af).length<cL:=zzV (m:=1000) (by rw [zzl];exact hl) (by decide)
   have cc:aE (λx=>((Tg.one 0).put x [.no,.val (lp S)]).bind λag=>(aB F (.cmp .rP (.var 0) (.var 1)) ag).bind λt=>mV t λt=>if t then(aB F (.var 0) ag).bind λy=>.ok (some y) else .ok none) (l.map af)=.ok []:=by
    have:=kO (f:=λx=>((Tg.one 0).put x [.no,.val (lp S)]).bind λag=>(aB F (.cmp .rP (.var 0) (.var 1)) ag).bind λt=>mV t λt=>if t then(aB F (.var 0) ag).bind λy=>.ok (some y) else .ok none) (p:=af) (q:=af) (g:=λ_=>false) (xs:=l) λx hx=>by
     have q:=LF x S
     rw [zzh ((hm x).2 (op x hx))] at q;simp! only [q]
    rw [this,List.filter_eq_nil_iff.2 (by simp)]
    rfl
   have q2:fb (.lst []) (.lst [])=.ok (.bl false):=rfl
   have f0:=EY ne
   have f1:=zQ ne
   have n1:=J6 (av l 0) s
   have n2:=J6 (av l (l.length-1)) g
   dsimp! only [J] at cc
   by_cases h0:av l 0=s
   ·rw [zzh h0] at n1
    by_cases h1:av l (l.length-1)=g
    ·rw [zzh h1] at n2;have q3:dI (lp l) (some 1) none=.ok (.lst ((l.map af).drop 1)):=by
      have:=uf (l.map af) (k:=1) (by rw [zzl];omega)
      exact congrArg (λz=>Res.ok (PV.lst z)) this
     obtain⟨c1,c2⟩:=fC (body:=λx env=>((Tg.two 7 8).put x env).bind λag=>aD F Mf ag) (g:=λi:Nat=>PV.tup [.int (i:Int),af (av l (i+1))]) (P:=λ_ i=>Nb (E1 ae sl cl pr) (av l i) (av l (i+1))) (I:=λ_ env=>∃s7 s8 s9:Ci.Slot,env=[.val (fl ae),.val (wk sl cl pr),.val (eC W),.val (af s),.val (af g),.val (lp l),.val (lp S),s7,s8,s9,.no,.no]) (v:=.bl false) (List.range (l.length-1)) 0 [.val (fl ae),.val (wk sl cl pr),.val (eC W),.val (af s),.val (af g),.val (lp l),.val (lp S),.no,.no,.no,.no,.no] ⟨_,_,_,rfl⟩ (λj i env hj ⟨s7,s8,s9,he⟩=>by
      subst he;have hi:i+1<l.length:=by have:=List.mem_range.1 (zzD hj);omega
      obtain⟨s9',this⟩:=Ob F hs L V ne op hi (.val (eC W)) (.val (af s)) (.val (af g)) (.val (lp S)) s7 s8 s9 .no .no
      refine⟨λz=>?_,λz=>?_⟩
      ·rw [oD z,if_pos rfl] at this;exact⟨_,this,_,_,_,rfl⟩
      ·rw [gz z,if_neg zzf] at this;exact this)
     rw [<-Gf] at c1 c2
     by_cases hg:∀(j i:Nat),(List.range (l.length-1))[j]?=some i->Nb (E1 ae sl cl pr) (av l i) (av l (i+1))
     ·obtain⟨ag,e1,s7,s8,s9,rfl⟩:=c1 hg
      have go:∀j,j+1<l.length->Nb (E1 ae sl cl pr) (av l j) (av l (j+1)):=λj hj=>hg j j (by rw [List.getElem?_range (by omega)])
      obtain⟨d1,d2⟩:=fC (body:=λx env=>((Tg.one 10).put x env).bind λag=>aD F Jr ag) (g:=lp) (P:=λ_ v=>Ap l v) (I:=λ_ env=>∃sM lY:Ci.Slot,env=[.val (fl ae),.val (wk sl cl pr),.val (eC W),.val (af s),.val (af g),.val (lp l),.val (lp S),s7,s8,s9,sM,lY]) (v:=.bl false) W 0 [.val (fl ae),.val (wk sl cl pr),.val (eC W),.val (af s),.val (af g),.val (lp l),.val (lp S),s7,s8,s9,.no,.no] ⟨_,_,rfl⟩ (λj v env hj ⟨sM,lY,he⟩=>by
       subst he;obtain⟨nv,hv⟩:=wn v (zzD hj)
       obtain⟨k1,k2⟩:=Of F ha ne nv hl hv (.val (fl ae)) (.val (wk sl cl pr)) (.val (eC W)) (.val (af s)) (.val (af g)) (.val (lp S)) s7 s8 s9 sM lY
       refine⟨λz=>?_,k2⟩
       obtain⟨A4,e⟩:=k1 z
       exact⟨_,e,_,_,rfl⟩)
      try dsimp! only [J] at e1
      by_cases hw:∀(j:Nat) (v:Ks),W[j]?=some v->Ap l v
      ·obtain⟨ag,e2,sM,lY,rfl⟩:=d1 hw
       rw [oD ⟨l,rfl,⟨ne,go,h0,h1⟩,λv hv=>by
        obtain⟨j,hj,z⟩:=List.mem_iff_getElem.1 hv
        exact hw j v (by rw [zzg hj,z])⟩]
       try dsimp! only [J] at e2
       dsimp! only [eS,q1,ll,cc,q2,f0,n1,f1,n2,q3,e1,e2]
      ·have e2:=d2 hw
       rw [gz λ⟨l',z,_,h⟩=>hw λj v hj=>by cases z;exact h v (zzD hj)]
       try dsimp! only [J] at e2
       dsimp! only [eS,q1,ll,cc,q2,f0,n1,f1,n2,q3,e1,e2]
     ·have e1:=c2 hg
      rw [gz λ⟨l',z,v,_⟩=>hg λj i hj=>by cases z;exact v.go i (by have:=List.mem_range.1 (zzD hj);omega)]
      try dsimp! only [J] at e1
      dsimp! only [eS,q1,ll,cc,q2,f0,n1,f1,n2,q3,e1]
    ·rw [zz0 h1] at n2;rw [gz λ⟨l',z,v,_⟩=>h1 (by cases z;exact v.lst)]
     dsimp! only [eS,q1,ll,cc,q2,f0,n1,f1,n2]
   ·rw [zz0 h0] at n1;rw [gz λ⟨l',z,v,_⟩=>h0 (by cases z;exact v.fst)]
    dsimp! only [eS,q1,ll,cc,q2,f0,n1]
def dB:Ss:=#v[.ite (.cmp .oY (!8) (.cst .aC)) #v[.ite (.not (.mS "_law_fits" #v[!0,!1,.hV 5,!6,!7,!8])) #v[.ret (.cst (.bl false))] .nil,.app 5 (!8)] .nil]
theorem yJ:bQ.body=#v[.ite (.or (.not (.ty .list (!4))) (.cmp .ne (.blt .len #v[!4]) (.blt .len #v[!2]))) #v[.ret (.cst (.bl false))] .nil,.own 5 (.lst .nil),.bX (.three 6 7 8) (.zip #v[!2,!3,!4]) dB,.ret (.cst (.bl true))]:=rfl
def HV(F:aH){A B C D p:PV}(h:p=.aC\/∃xs,p=.tup xs):aq F bQ [A,B,C,D,p]=.ok (.bl false):=by
 rcases h with rfl|⟨xs,rfl⟩<;>simp! only [bQ]
def Dj(E:List Int->List Int->Int->Prop)(W:List Ks)(s g:List Int):En->Prop
 |.no=>True
 |.wy l=>Vw E s g l/\∀w∈W,Ap l w
 |.bad _=>False
abbrev A0(E:List Int->List Int->Int->Prop)(ss gs:Ks)(es:List En)(i:Nat):Prop:=Dj E (ew (es.take i)) (ss.getD i []) (gs.getD i []) (es.getD i .no)
def DJ{E:List Int->List Int->Int->Prop}{ss gs:Ks}{es:List En}(ho:es.length=ss.length):(∀i,i<ss.length->A0 E ss gs es i)↔wV E ss gs es:=by
 have key:∀n,n<=es.length->((∀i,i<n->A0 E ss gs es i)↔(∀i,i<n->w9 E (ss.getD i []) (gs.getD i []) (es.getD i .no))/\(ew (es.take n)).Pairwise Ap):=by
  intro n
  induction n with
  |zero=>exact λ_=>⟨λ_=>⟨λi hi=>by omega,by rw [List.take_zero];exact .nil⟩,λ_ i hi=>by omega⟩
  |succ n ih=>
   intro hn;have ih:=ih (by omega)
   have tk:ew (es.take (n+1))=ew (es.take n)++ew [es.getD n .no]:=by
    rw [zzK,zzg (show n<es.length by omega),Option.getD_some,<-List.take_append_getElem (show n<es.length by omega),AF]
   have sp:∀P:Nat->Prop,(∀i,i<n+1->P i)↔(∀i,i<n->P i)/\P n:=λP=>⟨λh=>⟨λi hi=>h i (by omega),h n (by omega)⟩,λh i hi=>by
    by_cases z:i=n
    ·rw [z];exact h.2
    ·exact h.1 i (by omega)⟩
   rw [sp,sp,ih,tk,List.pairwise_append];unfold A0;generalize es.getD n .no=e
   generalize ew (es.take n)=W
   cases e with
   |no=>
    constructor
    ·exact λ⟨⟨h1,h2⟩,_⟩=>⟨⟨h1,trivial⟩,h2,.nil,λa _ b hb=>by cases hb⟩
    ·exact λ⟨⟨h1,_⟩,h2,_⟩=>⟨⟨h1,h2⟩,trivial⟩
   |bad p=>
    constructor
    ·exact λ⟨_,h⟩=>zzk h
    ·exact λ⟨⟨_,h⟩,_⟩=>zzk h
   |wy l=>
    constructor
    ·exact λ⟨⟨h1,h2⟩,h3,h4⟩=>⟨⟨h1,h3⟩,h2,List.pairwise_singleton ..,λa ha b hb=>by
      cases zzi.1 hb;exact(h4 a ha).symm⟩
    ·exact λ⟨⟨h1,h3⟩,h2,_,h4⟩=>⟨⟨h1,h2⟩,h3,λw hw=>(h4 w hw l (zzi.2 rfl)).symm⟩
 have:=key es.length (zzE _)
 rw [List.take_length,ho] at this;rw [this];exact⟨λh=>⟨ho,h⟩,λh=>h.2⟩
def Nh(F:aH){A B:PV}{E:List Int->List Int->Int->Prop}{O:List Int->Prop}{ss gs:Ks}{es:List En}(hA:jb A=false)(hB:jb B=false)(hl:ss.length=gs.length)(MO:es.length<=30)(ok:∀e∈es,fg O e)(hf:∀W e s g,(∀w∈W,w≠[]/\w.length<=1000)->e≠.no->fg O e->F "_law_fits" [A,B,eC W,af s,af g,eP e]=.ok (.bl (dc (J0 E W s g e)))):aq F bQ [A,B,lp ss,lp gs,.lst (es.map eP)]=.ok (.bl (dc (wV E ss gs es))):=by
 have st:bP bQ [A,B,lp ss,lp gs,.lst (es.map eP)]=[.val A,.val B,.val (lp ss),.val (lp gs),.val (.lst (es.map eP)),.no,.no,.no,.no]:=rfl
 have ar:bO bQ [A,B,lp ss,lp gs,.lst (es.map eP)]=true:=rfl
 unfold aq;rw [ar,if_pos rfl,st,yJ]
 clear st ar
 by_cases ho:es.length=ss.length
 ·have z:(!(((es.map eP).length:Int)==((ss.map af).length:Int)))=false:=by rw [zzl,zzl,ho];simp
  have Cy:Res.of (gv [lp ss,lp gs,.lst (es.map eP)])=.ok [ss.map af,gs.map af,es.map eP]:=rfl
  have zz:=JQ hl ho
  obtain⟨c1,c2⟩:=fC (body:=λx env=>((Tg.three 6 7 8).put x env).bind λag=>aD F dB ag) (g:=λi:Nat=>PV.tup [af (ss.getD i []),af (gs.getD i []),eP (es.getD i .no)]) (P:=λ_ i=>A0 E ss gs es i) (I:=λi env=>(∃s6 s7 s8:Ci.Slot,env=[.val A,.val B,.val (lp ss),.val (lp gs),.val (.lst (es.map eP)),.own (eC (ew (es.take i))),s6,s7,s8])/\∀k,k<i->A0 E ss gs es k) (v:=.bl false) (List.range ss.length) 0 [.val A,.val B,.val (lp ss),.val (lp gs),.val (.lst (es.map eP)),.own (.lst []),.no,.no,.no] ⟨⟨_,_,_,rfl⟩,λk hk=>by omega⟩ (λj i env hj ⟨⟨s6,s7,s8,he⟩,hk⟩=>by
   subst he;rw [Nat.zero_add] at hk⊢;have Nt:j<ss.length:=by have:=(zzH.1 hj).1;rwa [List.length_range] at this
   rw [List.getElem?_range Nt] at hj;cases hj;have wn:∀w∈ew (es.take j),w≠[]/\w.length<=1000:=λw hw=>by
    obtain⟨i,hi,z⟩:=List.mem_iff_getElem.1 (oR.1 hw)
    rw [List.length_take] at hi;rw [List.getElem_take] at z;have hd:=hk i (by omega)
    have Nq:es.getD i .no=.wy w:=by rw [zzK,zzg (show i<es.length by omega),z];rfl
    unfold A0 at hd;rw [Nq] at hd;have:=ok _ (List.mem_of_mem_take (oR.1 hw))
    exact⟨hd.1.ne,this.2⟩
   have e3:es.getD j .no∈es:=by
    rw [zzK,zzg (show j<es.length by omega)];exact List.getElem_mem _
   have tk:ew (es.take (j+1))=ew (es.take j)++ew [es.getD j .no]:=by
    rw [zzK,zzg (show j<es.length by omega),Option.getD_some,<-List.take_append_getElem (show j<es.length by omega),AF]
   have NR:A0 E ss gs es j->∀k,k<j+1->A0 E ss gs es k:=λh k Ux=>by
    by_cases z:k=j
    ·rw [z];exact h
    ·exact hk k (by omega)
   have lw:((ew (es.take j)).map lp).length<cL:=zzV (m:=30) (by rw [zzl];exact zzU (Az _) (by rw [List.length_take];omega)) (by decide)
   have Gv:=ok _ e3
   rw [tk];unfold A0 at NR⊢;have QZ:=hf (ew (es.take j)) (es.getD j .no) (ss.getD j []) (gs.getD j []) wn
   clear hk tk
   generalize es.getD j .no=e at *
   generalize ew (es.take j)=W at *
   generalize ss.getD j []=s at *
   generalize gs.getD j []=g at *
   cases e with
   |no=>
    refine⟨λh=>⟨_,?_,⟨.val (af s),.val (af g),.val .aC,rfl⟩,NR h⟩,λh=>absurd trivial h⟩
    have q:di .aC .aC=.ok (.bl false):=rfl
    have en:ew [.no]=[]:=rfl
    simp! only [dB,eP,q,en,zz6,eC]
   |wy l=>
    have zx:=QZ (λz=>by cases z) Gv
    have q:di (lp l) .aC=.ok (.bl true):=rfl
    have dd:([A,B,eC W,af s,af g,lp l].all λp=>!jb p)=true:=by
     simp! [List.all_cons,hA,hB]
     rfl
    have iff:Dj E W s g (.wy l)↔J0 E W s g (.wy l):=⟨λh=>⟨l,rfl,h⟩,λ⟨l',z,h⟩=>by cases z;exact h⟩
    have en:ew [.wy l]=[l]:=rfl
    replace zx:F "_law_fits" [A,B,eC W,af s,af g,lp l]=.ok (.bl (dc (J0 E W s g (.wy l)))):=zx
    have sc:∀b,gO (.bl b)=true:=λ_=>rfl
    refine⟨λh=>⟨_,?_,⟨.val (af s),.val (af g),.val (lp l),rfl⟩,NR h⟩,λh=>?_⟩
    ·rw [oD (iff.1 h)] at zx;simp! only [dB,eP,q,dd,zx,sc,en,lw,eC,List.map_append,zzF,List.map_nil]
    ·rw [gz λy=>h (iff.2 y)] at zx
     simp! only [dB,eP,q,dd,zx,sc]
   |bad p=>
    have zx:=QZ (λz=>by cases z) Gv
    have q:di p .aC=.ok (.bl true)/\jb p=false:=by cases Gv<;>exact⟨rfl,rfl⟩
    have dd:([A,B,eC W,af s,af g,p].all λp=>!jb p)=true:=by
     simp! [List.all_cons,hA,hB,q.2]
     rfl
    replace zx:F "_law_fits" [A,B,eC W,af s,af g,p]=.ok (.bl (dc (J0 E W s g (.bad p)))):=zx
    rw [gz λ⟨l,z,_⟩=>by cases z] at zx
    have sc:∀b,gO (.bl b)=true:=λ_=>rfl
    refine⟨λh=>zzk h,λh=>?_⟩
    simp! only [dB,eP,q.1,dd,zx,sc])
  rw [<-zz] at c1 c2;have iff:(∀(j i:Nat),(List.range ss.length)[j]?=some i->A0 E ss gs es i)↔wV E ss gs es:=by
   rw [<-DJ ho];exact⟨λh i hi=>h i i (by rw [List.getElem?_range hi]),λh j i hj=>h i (by have:=List.mem_range.1 (zzD hj);exact this)⟩
  rw [iff] at c1 c2
  by_cases hp:wV E ss gs es
  ·obtain⟨ag,e1,⟨s6,s7,s8,rfl⟩,_⟩:=c1 hp
   rw [oD hp]
   try dsimp! only [J] at e1
   dsimp! only [z,Cy,e1]
  ·have e1:=c2 hp
   rw [gz hp]
   try dsimp! only [J] at e1
   dsimp! only [z,Cy,e1]
 ·have z:(!(((es.map eP).length:Int)==((ss.map af).length:Int)))=true:=by
   rw [zzl,zzl,Bool.not_eq_true',beq_eq_false_iff_ne];omega
  rw [gz λh:wV E ss gs es=>ho h.1]
  dsimp! only [z]
def kB{F:aH}{i:Nat}{e:E}{ss:Ss}{env ag:Sl}{p:PV}(h:aB F e env=.ok p)(he:env.set i (.val p)=ag):aD F (.cons (.set i e) ss) env=aD F ss ag:=by
 rw [aD,fB,h];subst he
 rfl
def GK{F:aH}{i:Nat}{e:E}{ss:Ss}{env ag:Sl}{p:PV}(h:aB F e env=.ok p)(he:env.set i (.own p)=ag):aD F (.cons (.own i e) ss) env=aD F ss ag:=by
 rw [aD,fB,h];subst he
 rfl
def tZ{F:aH}{i:Nat}{e:E}{ss:Ss}{env ag:Sl}{xs ys:List PV}(h0:env[i]?=some (.own (.lst xs)))(h:aB F e env=.ok (.lst ys))(hl:xs.length+ys.length<=cL)(he:env.set i (.own (.lst (xs++ys)))=ag):aD F (.cons (.jj i e) ss) env=aD F ss ag:=by
 rw [aD,fB];simp! [h0,h,iQ,if_pos hl,Py];rw [he]
def HB{F:aH}{e:E}{ss:Ss}{env:Sl}{p:PV}(h:aB F e env=.ok p):aD F (.cons (.ret e) ss) env=.ok (.rt p):=by
 rw [aD,fB,h]
 rfl
def GM{α:Type}(F:aH)(env:Sl)(f:α->PV)(Q:α->Prop)(n:Nat)(e:E):Prop:=∃x:List α,aB F e env=.ok (.lst (x.map f))/\(∀u∈x,Q u)/\x.length<=n
section
variable{α:Type}{F:aH}{env:Sl}{f:α->PV}{Q:α->Prop}{n m:Nat}{a b e:E}
def dX(ha:GM F env f Q n a)(hb:GM F env f Q m b)(h:n+m<=5000:=by omega):GM F env f Q (n+m) (.bin .add a b):=by
 obtain⟨x,e1,q1,l1⟩:=ha
 obtain⟨y,e2,q2,l2⟩:=hb
 refine⟨x++y,?_,λu hu=>(List.mem_append.1 hu).elim (q1 u) (q2 u),by rw [zzM];omega⟩
 have l:(x.map f).length+(y.map f).length<=cL:=zzU (m:=5000) (by rw [zzl,zzl];omega) (by decide)
 rw [aB,e1];simp! [iQ,e2,Ai,if_pos l,List.map_append]
def Dg(x:List α)(lo hi:Option Int):me (x.map f) lo hi=(me x lo hi).map f:=by
 unfold me;rw [zzl,List.map_take,List.map_drop]
def eG{lo hi:Oe}{i j:Option Int}(ha:GM F env f Q n a)(h1:lh F lo env=.ok i)(h2:lh F hi env=.ok j):GM F env f Q n (.slice a lo hi):=by
 obtain⟨x,e1,q1,l1⟩:=ha
 refine⟨me x i j,?_,λu hu=>q1 u (List.mem_of_mem_drop (List.mem_of_mem_take hu)),?_⟩
 ·rw [aB,e1];simp! [iQ,h1,h2,dI,Dg]
 ·unfold me;rw [List.length_take,List.length_drop];omega
def sN{u:α}(h:aB F e env=.ok (f u))(hu:Q u):GM F env f Q 1 (.lst (.cons e .nil)):=by
 refine⟨[u],?_,λv hv=>by rw [zzi.1 hv];exact hu,zzE _⟩
 simp! [aB,bp,h,iQ]
 rfl
def zR{i:Nat}{x:List α}(h:env[i]?=some (.val (.lst (x.map f))))(hq:∀u∈x,Q u)(hl:x.length<=n):GM F env f Q n (.var i):=⟨x,by rw [aB,h];rfl,hq,hl⟩
def Rz{i:Nat}{p:PV}(h:env[i]?=some (.val p)):aB F (.var i) env=.ok p:=by rw [aB,h];rfl
def fE{xs:List PV}{p:Int}(h0:0<=p)(h1:p<xs.length):∃y∈xs,aJ (.lst xs) (.int p)=.ok y:=by
 obtain⟨k,rfl⟩:=zzw h0
 have hk:k<xs.length:=by omega
 refine⟨xs[k],List.getElem_mem hk,?_⟩;show Res.of (qc xs (k:Int))=_
 rw [iX hk]
 rfl
end
def Rn(O:List Int->Prop)(T:PV):Prop:=(T=.aC\/∃xs,T=.tup xs)\/∃es:List En,T=.lst (es.map eP)/\es.length<=30/\∀e∈es,fg O e
abbrev MF:E:=(.slice (.var 5) .no (.some (.var 6)))
abbrev Qq:E:=(.slice (.var 5) (.some (.var 6)) .no)
abbrev Se:E:=(.slice (.var 5) (.some (.bin .add (.var 6) (.cst (.int 1)))) .no)
abbrev S4:E:=(.slice (.var 5) (.some (.var 6)) (.some (.bin .add (.var 6) (.cst (.int 1)))))
abbrev l7:E:=(.lst (.cons (.var 7) .nil))
def dZ(ns:List Int)(S:Ks)(es:List En)(s4 s5 s6 s7 s8 s9:Ci.Slot):Sl:=[.val (eA ns),.val (.int 50),.val (lp S),.val (.lst (es.map eP)),s4,s5,s6,s7,s8,s9]
def wY(F:aH)(hp:gY F)(ns:List Int){O:List Int->Prop}{S:Ks}(nS:S≠[])(hS:∀u∈S,O u){es:List En}(ne:es≠[])(MO:es.length<=10)(he:∀e∈es,e=.no\/∃l,e=.wy l/\l≠[]/\(∀x∈l,O x)/\l.length<=300):∃T,aq F bt [eA ns,.int 50,lp S,.lst (es.map eP)]=.ok T/\Rn O T:=by
 have pe:=List.length_pos_iff.2 ne
 have pS:=List.length_pos_iff.2 nS
 have ok:∀e∈es,fg O e:=λe h=>by
  rcases he e h with rfl|⟨l,rfl,_,h2,h3⟩
  ·trivial
  ·exact⟨h2,by omega⟩
 obtain⟨k,ek,k0,k1⟩:=hp ns 50 (es.length:Int) (by decide) (by omega)
 have e1:aB F (.call "_law_pick" (.cons (.var 0) (.cons (.var 1) (.cons (.blt .len (.cons (.var 3) .nil)) .nil)))) (dZ ns S es .no .no .no .no .no .no)=.ok (.int k):=by
  simp! only [dZ,zzl,ek]
 have e2:∃l:Ks,aB F (.EJ (.sub (.var 3) (.var 4)) (.lst (.cons (.sub (.var 2) (.cst (.int 0))) .nil))) (dZ ns S es (.val (.int k)) .no .no .no .no .no)=.ok (lp l)/\l≠[]/\(∀x∈l,O x)/\l.length<=300:=by
  obtain⟨y,hy,ey⟩:=fE (xs:=es.map eP) k0 (by rw [zzl];exact k1)
  obtain⟨e,hee,rfl⟩:=zzx.1 hy
  rcases he e hee with rfl|⟨l,rfl,h1,h2,h3⟩
  ·obtain⟨u,S',rfl⟩:=List.exists_cons_of_ne_nil nS
   have eu:aJ (lp (u::S')) (.int 0)=.ok (af u):=iH (W:=u::S') (k:=0) rfl
   refine⟨[u],?_,by simp,λx hx=>hS x (by rw [zzi.1 hx];exact zzP ..),by rw [List.length_singleton];decide⟩
   dsimp! only [dZ,eu,ey,eP]
   rfl
  ·refine⟨l,?_,h1,h2,h3⟩;obtain⟨u,l',rfl⟩:=List.exists_cons_of_ne_nil h1
   have em:((u::l').map af).isEmpty=false:=rfl
   dsimp! only [dZ,ey,eP]
   rfl
 obtain⟨l,e2,nl,ol,ll⟩:=e2
 have pl:=List.length_pos_iff.2 nl
 obtain⟨p,ep,p0,p1⟩:=hp ns 51 (l.length:Int) (by decide) (by omega)
 have e3:aB F (.call "_law_pick" (.cons (.var 0) (.cons (.bin .add (.var 1) (.cst (.int 1))) (.cons (.blt .len (.cons (.var 5) .nil)) .nil)))) (dZ ns S es (.val (.int k)) (.val (lp l)) .no .no .no .no)=.ok (.int p):=by
  have z:(50:Int)+1=51:=rfl
  simp! only [dZ,zzl,z,ep]
 obtain⟨q,eq,q0,q1⟩:=hp ns 52 (S.length:Int) (by decide) (by omega)
 have e4:∃u,aB F (.sub (.var 2) (.call "_law_pick" (.cons (.var 0) (.cons (.bin .add (.var 1) (.cst (.int 2))) (.cons (.blt .len (.cons (.var 2) .nil)) .nil))))) (dZ ns S es (.val (.int k)) (.val (lp l)) (.val (.int p)) .no .no .no)=.ok (af u)/\O u:=by
  obtain⟨y,hy,ey⟩:=fE (xs:=S.map af) q0 (by rw [zzl];exact q1)
  obtain⟨u,hu,rfl⟩:=zzx.1 hy
  have z:(50:Int)+2=52:=rfl
  refine⟨u,?_,hS u hu⟩;simp! only [dZ,zzl,z,eq,ey]
 obtain⟨u,e4,hu⟩:=e4
 have gs:∀s8 s9:Ci.Slot,GM F (dZ ns S es (.val (.int k)) (.val (lp l)) (.val (.int p)) (.val (af u)) s8 s9) af O 300 (.var 5):=λs8 s9=>zR (x:=l) rfl ol ll
 have o0:∀env:Sl,lh F .no env=.ok none:=λenv=>by rw [lh]
 have o1:∀s8 s9:Ci.Slot,lh F (.some (.var 6)) (dZ ns S es (.val (.int k)) (.val (lp l)) (.val (.int p)) (.val (af u)) s8 s9)=.ok (some p):=λs8 s9=>by simp! only [dZ]
 have o2:∀s8 s9:Ci.Slot,lh F (.some (.bin .add (.var 6) (.cst (.int 1)))) (dZ ns S es (.val (.int k)) (.val (lp l)) (.val (.int p)) (.val (af u)) s8 s9)=.ok (some (p+1)):=λs8 s9=>by simp! only [dZ]
 have o3:∀s8 s9:Ci.Slot,lh F (.some (.neg (.cst (.int 1)))) (dZ ns S es (.val (.int k)) (.val (lp l)) (.val (.int p)) (.val (af u)) s8 s9)=.ok (some (-1)):=λs8 s9=>by simp! only [dZ]
 have g7:∀s8 s9:Ci.Slot,GM F (dZ ns S es (.val (.int k)) (.val (lp l)) (.val (.int p)) (.val (af u)) s8 s9) af O 1 l7:=λs8 s9=>sN (Rz rfl) hu
 have fin:∀{env:Sl} {n:Nat} {e:E},GM F env af O n e->n<=1000->∃x:Ks,aB F e env=.ok (lp x)/\fg O (.wy x):=λ⟨x,h1,h2,h3⟩ hn=>⟨x,h1,h2,by omega⟩
 obtain⟨a0,h0,b0⟩:=fin (dX (dX (eG (gs .no .no) (o0 _) (o1 _ _)) (g7 .no .no)) (eG (gs .no .no) (o1 _ _) (o0 _))) (by omega)
 obtain⟨a1,h1,b1⟩:=fin (dX (eG (gs .no .no) (o0 _) (o1 _ _)) (eG (gs .no .no) (o2 _ _) (o0 _))) (by omega)
 obtain⟨a2,h2,b2⟩:=fin (dX (dX (eG (gs .no .no) (o0 _) (o1 _ _)) (g7 .no .no)) (eG (gs .no .no) (o2 _ _) (o0 _))) (by omega)
 have e5:aB F (.lst (.cons (.bin .add (.bin .add MF l7) Qq) (.cons (.bin .add MF Se) (.cons (.bin .add (.bin .add MF l7) Se) .nil)))) (dZ ns S es (.val (.int k)) (.val (lp l)) (.val (.int p)) (.val (af u)) .no .no)=.ok (.lst ([En.wy a0,.wy a1,.wy a2].map eP)):=by
  rw [aB,bp,h0,bp,h1,bp,h2,bp]
  rfl
 obtain⟨a3,h3,b3⟩:=fin (dX (dX (eG (gs (.own (.lst ([En.wy a0,.wy a1,.wy a2].map eP))) .no) (o0 _) (o1 _ _)) (eG (gs _ _) (o1 _ _) (o2 _ _))) (eG (gs _ _) (o1 _ _) (o0 _))) (by omega)
 obtain⟨a5,h5,b5⟩:=fin (dX (gs (.own (.lst ([En.wy a0,.wy a1,.wy a2].map eP))) .no) (eG (gs _ _) (o3 _ _) (o0 _))) (by omega)
 have h6:∃e,aB F (.sub (.var 3) (.cst (.int 0))) (dZ ns S es (.val (.int k)) (.val (lp l)) (.val (.int p)) (.val (af u)) (.own (.lst ([En.wy a0,.wy a1,.wy a2].map eP))) .no)=.ok (eP e)/\fg O e:=by
  obtain⟨y,hy,ey⟩:=fE (xs:=es.map eP) (p:=0) (by decide) (by rw [zzl];omega)
  obtain⟨e,hee,rfl⟩:=zzx.1 hy
  refine⟨e,?_,ok e hee⟩;simp! only [dZ,ey]
 obtain⟨a6,h6,b6⟩:=h6
 have e6:aB F (.lst (.cons (.bin .add (.bin .add MF S4) Qq) (.cons (.cst .aC) (.cons (.bin .add (.var 5) (.slice (.var 5) (.some (.neg (.cst (.int 1)))) .no)) (.cons (.sub (.var 3) (.cst (.int 0))) (.cons (.blt .tuple (.cons (.var 5) .nil)) .nil)))))) (dZ ns S es (.val (.int k)) (.val (lp l)) (.val (.int p)) (.val (af u)) (.own (.lst ([En.wy a0,.wy a1,.wy a2].map eP))) .no)=.ok (.lst ([En.wy a3,.no,.wy a5,a6,.bad (.tup (l.map af))].map eP)):=by
  have ht:aB F (.blt .tuple (.cons (.var 5) .nil)) (dZ ns S es (.val (.int k)) (.val (lp l)) (.val (.int p)) (.val (af u)) (.own (.lst ([En.wy a0,.wy a1,.wy a2].map eP))) .no)=.ok (.tup (l.map af)):=by simp! only [dZ]
  rw [aB,bp,h3,bp,aB,bp,h5,bp,h6,bp,ht,bp]
  rfl
 have e7:∀s8:Ci.Slot,aB F (.lst (.cons (.lst .nil) (.cons (.rev (.var 5)) .nil))) (dZ ns S es (.val (.int k)) (.val (lp l)) (.val (.int p)) (.val (af u)) s8 .no)=.ok (.lst ([En.wy [],.wy l.reverse].map eP)):=λs8=>by
  simp! only [dZ,eP,lp,List.map_reverse]
 have e8:∀s8:Ci.Slot,aB F (.lst (.cons (.comp 1 [] (.one 0) (.seq (.var 5)) (.blt .list (.cons (.var 0) .nil))) (.cons (.cst (.str "way")) .nil))) (dZ ns S es (.val (.int k)) (.val (lp l)) (.val (.int p)) (.val (af u)) s8 .no)=.ok (.lst ([En.bad (.lst (l.map gN)),.bad (.str "way")].map eP)):=λs8=>by
  have l1:(l.map af).length<cL:=zzV (m:=300) (by rw [zzl];exact ll) (by decide)
  have c:aE (λx=>((Tg.one 0).put x [.no]).bind λag=>(aB F (.blt .list (.cons (.var 0) .nil)) ag).bind λy=>.ok (some y)) (l.map af)=.ok (l.map gN):=by
   rw [aZ (p:=af) (g:=gN) λx hx=>?_]
   have q:bC .list [af x]=.ok (gN x):=rfl
   simp! only [q]
  simp! only [] at c;simp! only [dZ,l1,c,eP]
 obtain⟨r,er,r0,r1⟩:=hp ns 53 12 (by decide) (by decide)
 obtain⟨y,hy,ey⟩:=fE (xs:=[En.wy a0,.wy a1,.wy a2,.wy a3,.no,.wy a5,a6,.bad (.tup (l.map af)),.wy [],.wy l.reverse,.bad (.lst (l.map gN)),.bad (.str "way")].map eP) r0 r1
 obtain⟨x,hx,rfl⟩:=zzx.1 hy
 have Ui:fg O x:=by
  simp! [zzm,List.not_mem_nil,or_false] at hx;rcases hx with rfl|rfl|rfl|rfl|rfl|rfl|rfl|rfl|rfl|rfl|rfl|rfl
  ·exact b0
  ·exact b1
  ·exact b2
  ·exact b3
  ·trivial
  ·exact b5
  ·exact b6
  ·exact .tup _
  ·exact⟨λx hx=>by(cases hx),Nat.zero_le _⟩
  ·exact⟨λx hx=>ol x (List.mem_reverse.1 hx),by rw [List.length_reverse];omega⟩
  ·exact .PB l nl (by omega)
  ·exact .str _
 generalize hL:[En.wy a0,.wy a1,.wy a2,.wy a3,.no,.wy a5,a6,.bad (.tup (l.map af)),.wy [],.wy l.reverse,.bad (.lst (l.map gN)),.bad (.str "way")]=Ls at ey
 have g3:∀s9:Ci.Slot,GM F (dZ ns S es (.val (.int k)) (.val (lp l)) (.val (.int p)) (.val (af u)) (.own (.lst (Ls.map eP))) s9) eP (fg O) 10 (.var 3):=λs9=>zR (x:=es) rfl ok MO
 have o4:∀s9:Ci.Slot,lh F (.some (.var 4)) (dZ ns S es (.val (.int k)) (.val (lp l)) (.val (.int p)) (.val (af u)) (.own (.lst (Ls.map eP))) s9)=.ok (some k):=λs9=>by simp! only [dZ]
 have o5:∀s9:Ci.Slot,lh F (.some (.bin .add (.var 4) (.cst (.int 1)))) (dZ ns S es (.val (.int k)) (.val (lp l)) (.val (.int p)) (.val (af u)) (.own (.lst (Ls.map eP))) s9)=.ok (some (k+1)):=λs9=>by simp! only [dZ]
 have ex:aB F (.sub (.hV 8) (.call "_law_pick" (.cons (.var 0) (.cons (.bin .add (.var 1) (.cst (.int 3))) (.cons (.cst (.int 12)) .nil))))) (dZ ns S es (.val (.int k)) (.val (lp l)) (.val (.int p)) (.val (af u)) (.own (.lst (Ls.map eP))) .no)=.ok (eP x):=by
  have z:(50:Int)+3=53:=rfl
  simp! only [dZ,z,er,ey]
 have g9:=dX (dX (eG (g3 .no) (o0 _) (o4 _)) (sN ex Ui)) (eG (g3 .no) (o5 _) (o0 _))
 obtain⟨N,e9,oN,lN⟩:=g9
 have w1:GM F (dZ ns S es (.val (.int k)) (.val (lp l)) (.val (.int p)) (.val (af u)) (.own (.lst (Ls.map eP))) (.val (.lst (N.map eP)))) eP (fg O) 10 (.slice (.var 3) (.some (.cst (.int 1))) .no):=eG (g3 _) (i:=some 1) (by simp! only [dZ]) (o0 _)
 have w2:GM F (dZ ns S es (.val (.int k)) (.val (lp l)) (.val (.int p)) (.val (af u)) (.own (.lst (Ls.map eP))) (.val (.lst (N.map eP)))) eP (fg O) (10+1) (.bin .add (.var 3) (.lst (.cons (.cst .aC) .nil))):=dX (g3 _) (sN (u:=En.no) (by rw [aB];rfl) trivial)
 obtain⟨N1,f1,m1,n1⟩:=w1
 obtain⟨N2,f2,m2,n2⟩:=w2
 obtain⟨t,et,t0,t1⟩:=hp ns 54 8 (by decide) (by decide)
 obtain⟨T,hT,eT⟩:=fE (xs:=[.lst (N.map eP),.lst (N.map eP),.lst (N.map eP),.lst (N.map eP),.tup (es.map eP),.lst (N1.map eP),.lst (N2.map eP),.aC]) t0 t1
 have SF:aB F (.sub (.lst (.cons (.var 9) (.cons (.var 9) (.cons (.var 9) (.cons (.var 9) (.cons (.blt .tuple (.cons (.var 3) .nil)) (.cons (.slice (.var 3) (.some (.cst (.int 1))) .no) (.cons (.bin .add (.var 3) (.lst (.cons (.cst .aC) .nil))) (.cons (.cst .aC) .nil))))))))) (.call "_law_pick" (.cons (.var 0) (.cons (.bin .add (.var 1) (.cst (.int 4))) (.cons (.cst (.int 8)) .nil))))) (dZ ns S es (.val (.int k)) (.val (lp l)) (.val (.int p)) (.val (af u)) (.own (.lst (Ls.map eP))) (.val (.lst (N.map eP))))=.ok T:=by
  have v9:aB F (.var 9) (dZ ns S es (.val (.int k)) (.val (lp l)) (.val (.int p)) (.val (af u)) (.own (.lst (Ls.map eP))) (.val (.lst (N.map eP))))=.ok (.lst (N.map eP)):=Rz rfl
  have ht:aB F (.blt .tuple (.cons (.var 3) .nil)) (dZ ns S es (.val (.int k)) (.val (lp l)) (.val (.int p)) (.val (af u)) (.own (.lst (Ls.map eP))) (.val (.lst (N.map eP))))=.ok (.tup (es.map eP)):=by simp! only [dZ]
  have hc:aB F (.call "_law_pick" (.cons (.var 0) (.cons (.bin .add (.var 1) (.cst (.int 4))) (.cons (.cst (.int 8)) .nil)))) (dZ ns S es (.val (.int k)) (.val (lp l)) (.val (.int p)) (.val (af u)) (.own (.lst (Ls.map eP))) (.val (.lst (N.map eP))))=.ok (.int t):=by
   have z:(50:Int)+4=54:=rfl
   simp! only [dZ,z,et]
  have Tz:aB F (.lst (.cons (.var 9) (.cons (.var 9) (.cons (.var 9) (.cons (.var 9) (.cons (.blt .tuple (.cons (.var 3) .nil)) (.cons (.slice (.var 3) (.some (.cst (.int 1))) .no) (.cons (.bin .add (.var 3) (.lst (.cons (.cst .aC) .nil))) (.cons (.cst .aC) .nil))))))))) (dZ ns S es (.val (.int k)) (.val (lp l)) (.val (.int p)) (.val (af u)) (.own (.lst (Ls.map eP))) (.val (.lst (N.map eP))))=.ok (.lst [.lst (N.map eP),.lst (N.map eP),.lst (N.map eP),.lst (N.map eP),.tup (es.map eP),.lst (N1.map eP),.lst (N2.map eP),.aC]):=by
   rw [aB,bp,v9,bp,v9,bp,v9,bp,v9,bp,ht,bp,f1,bp,f2,bp,aB,bp]
   rfl
  rw [aB,Tz,hc];exact eT
 refine⟨T,?_,?_⟩
 ·have run:aD F bt.body (dZ ns S es .no .no .no .no .no .no)=.ok (.rt T):=by
   refine(kB e1 rfl).trans ((kB e2 rfl).trans ((kB e3 rfl).trans ((kB e4 rfl).trans ((GK e5 rfl).trans ((tZ rfl e6 ?_ rfl).trans ((tZ rfl (e7 _) ?_ rfl).trans ((tZ rfl (e8 _) ?_ ?_).trans ((kB e9 rfl).trans (HB SF)))))))))
   ·exact(by decide:8<=cL)
   ·exact(by decide:10<=cL)
   ·exact(by decide:12<=cL)
   ·subst hL
    rfl
  have ar:bO bt [eA ns,.int 50,lp S,.lst (es.map eP)]=true:=rfl
  have st:bP bt [eA ns,.int 50,lp S,.lst (es.map eP)]=dZ ns S es .no .no .no .no .no .no:=rfl
  unfold aq;rw [ar,if_pos rfl,st,run]
  rfl
 ·simp! [zzm,List.not_mem_nil,or_false] at hT;rcases hT with rfl|rfl|rfl|rfl|rfl|rfl|rfl|rfl
  ·exact .inr ⟨N,rfl,by omega,oN⟩
  ·exact .inr ⟨N,rfl,by omega,oN⟩
  ·exact .inr ⟨N,rfl,by omega,oN⟩
  ·exact .inr ⟨N,rfl,by omega,oN⟩
  ·exact .inl (.inr ⟨_,rfl⟩)
  ·exact .inr ⟨N1,rfl,by omega,m1⟩
  ·exact .inr ⟨N2,rfl,by omega,m2⟩
  ·exact .inl (.inl rfl)
theorem Tu{i j k l:Nat}{a b c d:PV}{env:Sl}:(Tg.four i j k l).put (.tup [a,b,c,d]) env=.ok ((((env.set i (.val a)).set j (.val b)).set k (.val c)).set l (.val d)):=rfl
def Uk(b:Bool):fb (.bl b) (.bl b)=.ok (.bl false):=by cases b<;>rfl
def eqB(b:Bool):d6 (.bl b) (.bl b)=.ok (.bl true):=by cases b<;>rfl
abbrev f2:List Str:=["00"]
abbrev f3:List Str:=["000"]
def TX:Fl f2 2:=⟨⟨by decide,λz hz=>by cases zzi.1 hz;decide⟩,by decide,by decide,λz hz=>by cases zzi.1 hz;rfl,λz hz=>by cases zzi.1 hz;decide⟩
def SQ:Fl f3 3:=⟨⟨by decide,λz hz=>by cases zzi.1 hz;decide⟩,by decide,by decide,λz hz=>by cases zzi.1 hz;rfl,λz hz=>by cases zzi.1 hz;decide⟩
abbrev AQ(ae:List Str)(ss gs:Ks)(es:List En):PV:=.tup [fl ae,lp ss,lp gs,.lst (es.map eP)]
theorem qW(F:aH):aq F bH []=.ok (.lst [AQ f2 [[0,0],[0,1]] [[0,1],[0,0]] [.wy [[0,0],[0,1]],.wy [[0,1],[0,0]]],AQ f3 [[0,1],[0,0]] [[0,1],[0,2]] [.wy [[0,1]],.wy [[0,0],[0,1],[0,2]]],AQ f3 [[0,0],[0,1]] [[0,1],[0,2]] [.wy [[0,0],[0,1]],.wy [[0,1],[0,2]]],AQ f3 [[0,0],[0,1]] [[0,1],[0,2]] [.wy [[0,0],[0,0],[0,1]],.wy [[0,1],[0,2]]]]):=rfl
def NS{ae:List Str}{c:Int}(h:bY ae 0 c=true):fX ae [0,c]:=⟨0,c,rfl,h⟩
def PD(F:aH)(ae:List Str)(sl:Bool)(cl pr:Int):Prop:=∀(ss gs:Ks) (es:List En),ss.length=gs.length->es.length<=30->(∀e∈es,fg (fX ae) e)->F "is_plan" [fl ae,wk sl cl pr,lp ss,lp gs,.lst (es.map eP)]=.ok (.bl (dc (wV (E1 ae sl cl pr) ss gs es)))/\F "_law_due" [fl ae,wk sl cl pr,lp ss,lp gs,.lst (es.map eP)]=.ok (.bl (dc (wV (E1 ae sl cl pr) ss gs es)))
def SE:∀l∈[[[(0:Int),0],[0,1]],[[0,1],[0,0]]],(∀x∈l,fX f2 x)/\l.length<=1000:=by
 have o0:fX f2 [0,0]:=NS (by decide)
 have o1:fX f2 [0,1]:=NS (by decide)
 intro l hl;simp! [zzm,List.not_mem_nil,or_false] at hl;rcases hl with rfl|rfl<;>refine⟨λx hx=>?_,by decide⟩<;>simp! [zzm,List.not_mem_nil,or_false] at hx<;>rcases hx with rfl|rfl<;>assumption
def Gv:∀l∈[[[(0:Int),1]],[[0,0],[0,1],[0,2]],[[0,0],[0,1]],[[0,1],[0,2]],[[0,0],[0,0],[0,1]]],(∀x∈l,fX f3 x)/\l.length<=1000:=by
 have o:∀x∈[[(0:Int),0],[0,1],[0,2]],fX f3 x:=by
  intro x hx;simp! [zzm,List.not_mem_nil,or_false] at hx;rcases hx with rfl|rfl|rfl<;>exact NS (by decide)
 intro l hl;simp! [zzm,List.not_mem_nil,or_false] at hl;rcases hl with rfl|rfl|rfl|rfl|rfl<;>exact⟨λx hx=>o x (by revert x;decide),by decide⟩
def mB:Ss:=#v[.ite (.cmp .ne (.call "is_plan" #v[!8,!2,!9,!10,!11]) (.call "_law_due" #v[!8,!2,!9,!10,!11])) #v[.ret (.cst (.bl false))] .nil]
def uz(F:aH){sl:Bool}{cl pr:Int}{ae:List Str}(h:PD F ae sl cl pr){ss gs:Ks}{es:List En}(h1:ss.length=gs.length)(h2:es.length<=30)(h3:∀e∈es,fg (fX ae) e)(a0 a1 a3 a4 a5 a6 a7 a8 a9 Mj Mw QT:Ci.Slot):
 (((Tg.four 8 9 10 11).put (AQ ae ss gs es) [a0,a1,.val (wk sl cl pr),a3,a4,a5,a6,a7,a8,a9,Mj,Mw,QT]).bind λag=>aD F mB ag)=.ok (.nx [a0,a1,.val (wk sl cl pr),a3,a4,a5,a6,a7,.val (fl ae),.val (lp ss),.val (lp gs),.val (.lst (es.map eP)),QT]):=by
 obtain⟨e1,e2⟩:=h ss gs es h1 h2 h3
 have q:=Uk (dc (wV (E1 ae sl cl pr) ss gs es))
 simp! only [mB,AQ,Tu,e1,e2,q]
def oE:Option Ks->En
 |none=>.no
 |some l=>.wy l
def Ij(os:List (Option Ks)):os.map oK=(os.map oE).map eP:=by
 rw [List.map_map];exact List.map_congr_left λo _=>by cases o<;>rfl
theorem zK:∀os:List (Option Ks),ew (os.map oE)=aw os
 |[]=>rfl
 |none::os=>zK os
 |some l::os=>congrArg (l::·) (zK os)
def DI{E:List Int->List Int->Int->Prop}{O:List Int->Prop}{n:Nat}{ss gs:Ks}{os:List (Option Ks)}(hl:ss.length=gs.length)(ho:os.length=ss.length)(n1:ss.Nodup)(n2:gs.Nodup)(cr:ra E O n ss gs os):wV E ss gs (os.map oE):=by
 refine⟨by rw [zzl,ho],λi hi=>?_,?_⟩
 ·have hs:ss[i]?=some ss[i]:=zzg hi
  have hg:gs[i]?=some gs[i]:=zzg (by omega)
  have Em:os[i]?=some os[i]:=zzg (by omega)
  have td:=cr.LA i _ _ _ Em hs hg
  rw [zzK,zzK,zzK,zzQ,hs,hg,Em,Option.map_some,Option.getD_some,Option.getD_some,Option.getD_some];generalize os[i]=o at *
  cases o with
  |none=>trivial
  |some l=>
   have y:Wy E O n (aw (os.take i)) ss[i] gs[i] (37*(i+1)) l:=td
   exact⟨y.ne,λj hj=>(y.go j hj).1,y.fst,y.lst⟩
 ·rw [zK];have:=cr.ap hl n1 n2 os.length
  rwa [List.take_length] at this
theorem Jd{E:List Int->List Int->Int->Prop}{O:List Int->Prop}{n:Nat}{ss gs:Ks}{os:List (Option Ks)}(hl:ss.length=gs.length)(ho:os.length=ss.length)(l3:ss.length<=3)(cr:ra E O n ss gs os):∀e∈os.map oE,e=.no\/∃l,e=.wy l/\l≠[]/\(∀x∈l,O x)/\l.length<=300:=λe he=>by
 obtain⟨o,h,rfl⟩:=zzx.1 he
 cases o with
 |none=>exact .inl rfl
 |some l=>
  obtain⟨j,s,g,_,_,_,y⟩:=cr.way hl (n5.2 h)
  have:=(cr.len hl (n5.2 h)).2
  exact .inr ⟨l,rfl,y.ne,y.op,by omega⟩
noncomputable def Q8:Ss:=#v[.set 7 (.call "crowd" #v[!1,!2,!5,!6]),.ite (.cmp .oY (.call "is_plan" #v[!1,!2,!5,!6,!7]) (.cst (.bl true))) #v[.ret (.cst (.bl false))] .nil,.bX (.four 8 9 10 11) (.seq (.call "_law_meetings" .nil)) mB,.set 12 (.call "_law_spoilt" #v[!0,¬50,!3,.blt .list #v[!7]]),.ret (.cmp .eq (.call "is_plan" #v[!1,!2,!5,!6,!12]) (.call "_law_due" #v[!1,!2,!5,!6,!12]))]
theorem yH:ja.body=(.cons (.set 1 (.call "_law_floor" #v[!0,¬0,¬4])) (.cons (.set 2 (.call "_law_walker" #v[!0,¬30])) (.cons (.set 3 (.call "_law_spots" #v[!1])) (.cons (.set 4 (.bin .add (¬1) (.call "_law_pick" #v[!0,¬34,¬3]))) (.cons (.set 5 (.call "_law_some" #v[!0,¬35,!3,!4])) (.cons (.set 6 (.call "_law_some" #v[!0,¬40,!3,!4])) (.cons (.ite (.cmp .eq (!3) (.lst .nil)) #v[.ret (.cmp .is (.call "is_plan" #v[!1,!2,.lst .nil,.lst .nil,.lst .nil]) (.cst (.bl true)))] .nil) Q8))))))):=rfl
def Gr(F:aH)(hp:gY F)(hf:∀ns,∃ae w,Fl ae w/\F "_law_floor" [eA ns,.int 0,.int 4]=.ok (fl ae))(hw:∀ns,∃sl cl pr,Wk cl pr/\F "_law_walker" [eA ns,.int 30]=.ok (wk sl cl pr))(hk:Kj (F "_law_spots"))
 (Rk:∀ns (a:Int),0<=a->a<=1000->∀m:Nat,m<=20->∀S:Ks,S.Nodup->S.length<=36->∃M:Ks,F "_law_some" [eA ns,.int a,lp S,.int (m:Int)]=.ok (lp M)/\M.Nodup/\(∀u∈M,u∈S)/\M.length=min m S.length)
 (To:∀ae w,Fl ae w->∀sl cl pr,Wk cl pr->∀S:Ks,S.length<=36->(∀k,k∈S↔fX ae k)->LZ (E1 ae sl cl pr) (fX ae) S.length (fl ae) (wk sl cl pr) (F "crowd"))
 (Nv:∀ae w,Fl ae w->∀sl cl pr,Wk cl pr->PD F ae sl cl pr) (Ll:∀A B C D p,(p=.aC\/∃xs,p=.tup xs)->F "is_plan" [A,B,C,D,p]=.ok (.bl false)/\F "_law_due" [A,B,C,D,p]=.ok (.bl false))
 (Nq:F "_law_meetings" []=aq F bH []) (Eu:∀ns (O:List Int->Prop) (S:Ks),S≠[]->(∀u∈S,O u)->∀es:List En,es≠[]->es.length<=10->(∀e∈es,e=.no\/∃l,e=.wy l/\l≠[]/\(∀x∈l,O x)/\l.length<=300)->∃T,F "_law_spoilt" [eA ns,.int 50,lp S,.lst (es.map eP)]=.ok T/\Rn O T) (ns:List Int):aq F ja [eA ns]=.ok (.bl true):=by
 obtain⟨ae,w,L,e1⟩:=hf ns
 obtain⟨sl,cl,pr,V,e2⟩:=hw ns
 obtain⟨S,e3,lS,sS,hm⟩:=hk ae L.vf
 have e3:F "_law_spots" [fl ae]=.ok (lp S):=e3
 have nS:S.Nodup:=sS.nodup
 obtain⟨p,e4,p0,p4⟩:=hp ns 34 3 (by decide) (by decide)
 have ep:(1:Int)+p=((p.toNat+1:Nat):Int):=by omega
 obtain⟨ss,e5,n1,i1,l1⟩:=Rk ns 35 (by decide) (by decide) (p.toNat+1) (by omega) S nS lS
 obtain⟨gs,e6,n2,i2,l2⟩:=Rk ns 40 (by decide) (by decide) (p.toNat+1) (by omega) S nS lS
 have pd:=Nv ae w L sl cl pr V
 have q:=Q3 S []
 have st:bP ja [eA ns]=[.val (eA ns),.no,.no,.no,.no,.no,.no,.no,.no,.no,.no,.no,.no]:=rfl
 have ar:bO ja [eA ns]=true:=rfl
 unfold aq;rw [ar,if_pos rfl,st,yH]
 by_cases hS:S=[]
 ·rw [zzh hS] at q;replace q:d6 (lp S) (.lst [])=.ok (.bl true):=q
  have:=(pd [] [] [] rfl (by decide) (λe he=>by cases he)).1
  rw [oD ⟨rfl,(λi hi=>by cases hi),List.Pairwise.nil⟩] at this;replace this:F "is_plan" [fl ae,wk sl cl pr,.lst [],.lst [],.lst []]=.ok (.bl true):=this
  have r9:mz (.bl true) (.bl true)=.ok (.bl true):=rfl
  dsimp! only [e1,e2,e3,e4,ep,e5,e6,q,this,r9]
 ·rw [zz0 hS] at q;replace q:d6 (lp S) (.lst [])=.ok (.bl false):=q
  have pS:=List.length_pos_iff.2 hS
  have hl:ss.length=gs.length:=by omega
  obtain⟨os,e7,ho,cr⟩:=To ae w L sl cl pr V S lS hm ss gs hl (by omega) n1 n2 (λu hu=>(hm u).1 (i1 u hu)) (λu hu=>(hm u).1 (i2 u hu))
  have ee:=Jd hl ho (by omega) cr
  have pl:=DI hl ho n1 n2 cr
  rw [Ij] at e7;have le:(os.map oE).length=ss.length:=by rw [zzl,ho]
  generalize os.map oE=es at e7 ee pl le
  have ok:∀e∈es,fg (fX ae) e:=λe he=>by
   rcases ee e he with rfl|⟨l,rfl,_,h2,h3⟩
   ·trivial
   ·exact⟨h2,by omega⟩
  have e8:=(pd ss gs es hl (by omega) ok).1
  rw [oD pl] at e8;obtain⟨T,e12,hT⟩:=Eu ns (fX ae) S hS (λu hu=>(hm u).1 hu) es (λz=>by rw [z,List.length_nil] at le;omega) (by omega) ee
  have Nr:∃b,F "is_plan" [fl ae,wk sl cl pr,lp ss,lp gs,T]=.ok (.bl b)/\F "_law_due" [fl ae,wk sl cl pr,lp ss,lp gs,T]=.ok (.bl b):=by
   rcases hT with h|⟨es',rfl,h1,h2⟩
   ·exact⟨false,Ll _ _ _ _ _ h⟩
   ·exact⟨_,pd ss gs es' hl h1 h2⟩
  obtain⟨b,Nr,e14⟩:=Nr
  have r1:di (.bl true) (.bl true)=.ok (.bl false):=rfl
  have r2:=eqB b
  have em:F "_law_meetings" []=.ok _:=Nq.trans (qW F)
  have fn:∀{ae:List Str} {X:List Ks},(∀l∈X,(∀x∈l,fX ae x)/\l.length<=1000)->∀{a b:Ks},a∈X->b∈X->∀e∈[En.wy a,.wy b],fg (fX ae) e:=λhX a b ha hb e he=>by
   simp! [zzm,List.not_mem_nil,or_false] at he;rcases he with rfl|rfl
   ·exact hX _ ha
   ·exact hX _ hb
  generalize hmm:((p.toNat+1:Nat):Int)=mm at *
  have lo:∃a b c d:Ci.Slot,forL (λx env=>((Tg.four 8 9 10 11).put x env).bind λag=>aD F mB ag) [AQ f2 [[0,0],[0,1]] [[0,1],[0,0]] [.wy [[0,0],[0,1]],.wy [[0,1],[0,0]]],AQ f3 [[0,1],[0,0]] [[0,1],[0,2]] [.wy [[0,1]],.wy [[0,0],[0,1],[0,2]]],AQ f3 [[0,0],[0,1]] [[0,1],[0,2]] [.wy [[0,0],[0,1]],.wy [[0,1],[0,2]]],AQ f3 [[0,0],[0,1]] [[0,1],[0,2]] [.wy [[0,0],[0,0],[0,1]],.wy [[0,1],[0,2]]]] [.val (eA ns),.val (fl ae),.val (wk sl cl pr),.val (lp S),.val (.int mm),.val (lp ss),.val (lp gs),.val (.lst (es.map eP)),.no,.no,.no,.no,.no]=.ok (.nx [.val (eA ns),.val (fl ae),.val (wk sl cl pr),.val (lp S),.val (.int mm),.val (lp ss),.val (lp gs),.val (.lst (es.map eP)),a,b,c,d,.no]):=by
   refine⟨.val (fl f3),.val (lp [[0,0],[0,1]]),.val (lp [[0,1],[0,2]]),.val (.lst ([En.wy [[0,0],[0,0],[0,1]],.wy [[0,1],[0,2]]].map eP)),?_⟩;have P2:=Nv f2 2 TX sl cl pr V
   have P3:=Nv f3 3 SQ sl cl pr V
   rw [forL,uz F P2 (ss:=[[0,0],[0,1]]) (gs:=[[0,1],[0,0]]) (es:=[.wy [[0,0],[0,1]],.wy [[0,1],[0,0]]]) rfl (by decide) (fn SE (by decide) (by decide))];simp! [iQ];rw [forL,uz F P3 (ss:=[[0,1],[0,0]]) (gs:=[[0,1],[0,2]]) (es:=[.wy [[0,1]],.wy [[0,0],[0,1],[0,2]]]) rfl (by decide) (fn Gv (by decide) (by decide))];simp! [iQ];rw [forL,uz F P3 (ss:=[[0,0],[0,1]]) (gs:=[[0,1],[0,2]]) (es:=[.wy [[0,0],[0,1]],.wy [[0,1],[0,2]]]) rfl (by decide) (fn Gv (by decide) (by decide))];simp! [iQ];rw [forL,uz F P3 (ss:=[[0,0],[0,1]]) (gs:=[[0,1],[0,2]]) (es:=[.wy [[0,0],[0,0],[0,1]],.wy [[0,1],[0,2]]]) rfl (by decide) (fn Gv (by decide) (by decide))]
   rfl
  obtain⟨x8,x9,x10,x11,lo⟩:=lo
  have bl:bC .list [.lst (es.map eP)]=.ok (.lst (es.map eP)):=rfl
  dsimp! only [Q8,e1,e2,e3,e4,ep,e5,e6,q,e7,e8,r1,em,lo,bl,e12,Nr,e14,r2]
def J5(ns:List Int)(hl:ns.length<=63):aq (den zr) ja [eA ns]=.ok (.bl true):=by
 have pick:∀F:aH,F "_law_pick"=aq (den T1) bh->gY F:=λF hF ns k q hk hq=>by
  rw [hF];exact Cj (den T1) (λns k hk=>by rw [Ly];exact CD _ ns k hk) ns k q hk hq
 have vj:∀F:aH,F "is_open"=aq (den DN) bw->km F:=λF hF ae R r c=>by
  rw [hF];exact CP _ (λr c=>by rw [yn];exact sP _ (λi=>by rw [L9];exact oB _ i) r c) (λae R r c=>by rw [BX];exact J7 _ ae R r c) ae R r c
 have JU:∀F:aH,F "is_open"=aq (den DN) bw->∀A xs,F "is_open" [A,.lst xs]=.ok (.bl false):=λF hF A xs=>by
  rw [hF];exact Ay _ (λxs=>by rw [yn];exact yS _ xs) A xs
 have xA:∀F:aH,F "need_open"=aq (den Jy) bM->zb F:=λF hF ae R r c h=>by
  rw [hF];exact oC _ (vj _ BD) ae R r c h
 have step:∀F:aH,F "step_cost"=aq (den E9) bg->tJ F:=λF hF ae w L sl cl pr V r c r' c' h h'=>by
  rw [hF];exact Ck _ (λr c r' c'=>by rw [DH];exact vw _ r c r' c') (λae R r c r' c'=>by rw [DM];exact sW _ (vj _ B4) R r c r' c') (λae w L r c h=>by rw [C8];exact wM _ (xA _ BL) L h) L V h h'
 have TY:EI (den JC):=λae R r c a b d e=>by
  rw [DC];exact Jf _ (vj _ DT) R a b d e
 have steps:jX (den Jl):=by
  unfold jX;rw [Dt];exact xX _ (xA _ C5) TY (step _ Cd)
 have FU:∀F:aH,F "_law_steps"=aq (den Ms) bq->iC F:=λF hF=>by
  unfold iC;rw [hF];exact vC _ (λae w L sl cl pr V r c r' c' h h' hf=>by rw [CJ];exact t9 _ L V h h' hf)
 have E5:∀F:aH,F "_law_spots"=aq (den T4) bK->uB F:=λF hF ae R=>by
  rw [hF];exact zS _ ae R
 have P8:∀F:aH,F "moves_at"=aq (den JI) cB->zP F:=λF hF W hW hl t=>by
  rw [hF];exact sf _ (λw hw t=>by rw [By];exact wg _ w hw t) W hW hl t
 have QA:∀F:aH,F "still_from"=aq (den M8) br->∀W:List Ks,(∀w∈W,w≠[])->W.length<=100->∃st:Nat,F "still_from" [eC W]=.ok (.int (st:Int))/\pH W st:=λF hF W hW hl=>by
  rw [hF];exact xM _ W hW hl
 refine Gr _ (pick _ GD) (λns=>by rw [Iq];exact vA _ (pick _ J8) ns 4 (by decide) (by decide)) (λns=>by rw [Ii];exact wm _ (pick _ KS) ns 30 (by decide)) (zi (E5 _ HP)) (λns a h0 h1 m hm S nS lS=>by rw [F5];exact Ce _ (pick _ KW) ns a h0 h1 m hm S nS lS) (λae w L sl cl pr V S lS hm=>?_) (λae w L sl cl pr V ss gs es h1 h2 h3=>?_) (λA B C D p h=>⟨by rw [uA];exact Ec _ h,by rw [uV];exact HV _ h⟩) ?_ (λns O S nS hS es ne S9 he=>by rw [CM];exact wY _ (pick _ GP) ns nS hS ne S9 he) ns
 ·have hE:∀u v e,E1 ae sl cl pr u v e->fX ae v:=λu v e h=>(KC L V h).2.2
  have hO:∀u,fX ae u->u∈E6:=λu hu=>TV L hu
  rw [DO];obtain⟨ks,vs,e1,Ko⟩:=DG (den Jl) steps (by rw [Hf];exact xF _) ae w L sl cl pr V
  refine AD (den Jt) lS (λu hu=>?_) (by rw [DF];exact e1) ?_
  ·obtain⟨r,c,rfl,ho⟩:=hu
   exact xA _ Eb ae L.vf r c ho
  ·rw [Ct];exact Aw (den El) hE hO (λu hu=>(hm u).2 hu) lS (λW g=>by rw [A9];exact BN _ W g) (QA _ Dp) (P8 _ CH) (λW ap hl t kr vr hk=>by rw [DD];exact CC _ hE hO Ko ap hl t hk) (λW s D T g hD hT h5 hg=>by rw [BS];exact BO _ hD hT h5 hg)
 ·rw [uA,uV];refine⟨Li (den L0) (O:=fX ae) h1 h2 h3 (λe s g ok=>?_) (λW wn kf=>?_),Nh (den MU) (O:=fX ae) rfl rfl h1 h2 h3 λW e s g wn hn ok=>?_⟩
  ·rw [DV];refine PY (den Mo) (λp z=>by rw [z] at ok;exact ok) s g ?_;rw [DS];refine OK (den LP) L V ok ?_ λa b ha hb=>?_
   ·rw [BH];exact JW _ (vj _ uv) (JU _ uv) L ok
   ·rw [Bl];exact NJ _ (step _ DB) L V ha hb
  ·rw [Br];have ne:∀w∈W,w≠[]:=λw hw=>(wn w hw).1
   obtain⟨st,e1,sn⟩:=QA _ C3 W ne kf
   refine LD (den Jg) ne kf ?_ sn.1 e1 (λt=>P8 _ Cm W ne kf t) λt=>by rw [Dy];exact F9 _ kf t
   rcases sn.2 with z|⟨w,hw,z⟩
   ·omega
   ·have:=(wn w hw).2
    omega
  ·rw [Ca];obtain⟨S,eS,_,_,hm⟩:=zi (E5 _ Gm) ae L.vf
   exact JJ (den Jj) (λw hw t=>by rw [DE];exact xC _ w hw t) (FU _ DK) L V eS hm wn hn ok
 ·rw [Di]
  rfl
end K61
namespace Hd
open PySem PySem.W L2
noncomputable abbrev fo(n:Str)(st:Stmt)(pm:Value)(c:Addr):Obj:=⟨.type "function",none,.func (fnOf n n (df st) (cG st) (aQ st) .none .none .none pm none (.ref c) .none),#[]⟩
noncomputable abbrev co(n:Str)(a:Nat)(L A:Int)(r:Nat)(x y:Value)(q z:Nat):Obj:={cls:=.type "code",data:=.fields #[.str n a,.str n (a+1),.str "/claim/cut.py" (a+2),.int L 0,.int A 0,.int 0 0,.int 0 0,.int 3 0,.ref r,.bool Bool.true,.int 181 0,.ref (r+1),.none,x,y,.ref q,.int z 0,.int L 0,.str "/claim/cut.py" (z+1)]}
def PQ(s:Stmt):Pos:=match s with
 |.FunctionDef _ _ _ _ _ _ _ _ _ p=>p
 |_=>⟨0,0,0,0⟩
def ent{K:Frag}{ts:List (Addr×Str)}{n:Str}{st:Stmt}(f c:Addr)(pm:Value)(a:nsIn K mainGlobals n=some (some (.ref f)):=by kernel_rfl)(l:K.lookup f=some (fo n st pm c):=by kernel_rfl)(d:codeIn K (.ref c) n=true:=by kernel_rfl)(k:keepIn K (.ref f)=true:=by kernel_rfl):Ci.AA K ts false n st:=Ci.NF a l d k
def ac{K:Frag}{ts:List (Addr×Str)}{Γ:Ci.Pg}{r:Ci.Row}{l:Ci.dA}(e:Ci.AA K ts r.hl r.h r.st)(s:Ci.bA (Γ.at l r.hl) r.h r.d r.st)(t:Ci.AllK K ts Γ l)(a:(l.map (·.f)).contains r.f=false:=by decide+kernel)(b:(r.d.rb.isNone==!Ci.gX r.f)=true:=by decide+kernel)(c:r.d.rb.isNone=true->r.f=r.h:=by first|exact λ_=>rfl|exact λz=>absurd z (by decide)):Ci.AllK K ts Γ (r::l):=⟨e,s,⟨a,b,c⟩,t⟩
def xq{K L:Frag}{b:Addr}{o:Obj}(e:K.lookup b=some o):(K++L).lookup b=some o:=by
 rw [List.lookup_append,e]
 rfl
end Hd
namespace K61
open PySem L2 Ci
abbrev lw:=PySem.Challenge.rw_cellways_k61_is_plan
def top(i:Nat):Stmt:=PySem.Challenge.pw_cellways_k61_is_plan.main.body.getD i (.Pass ⟨0,0,0,0⟩)
abbrev m1:Value:=.str "cellways.floors" 223
abbrev m2:Value:=.str "cellways.crowds" 354
abbrev m3:Value:=.str "law_cellways_k61_is_plan" 461
noncomputable def K(P:Params):zz8:=[(2,{cls:=.none,data:=.dict #[]}),
 (3,{cls:=.type "dict",data:=.dict #[Hd.de P "__name__" 165 (.str "law_cellways_k61_is_plan" 461),Hd.de P "__doc__" 166 (.none),Hd.de P "__package__" 167 (.none),Hd.de P "__loader__" 168 (.builtin "__main__.__loader__#opaque"),Hd.de P "__spec__" 169 (.none),Hd.de P "__annotations__" 170 (.ref 6),Hd.de P "__builtins__" 171 (.ref 4),Hd.de P "__file__" 173 (.str "/claim/cut.py" 172),Hd.de P "__cached__" 174 (.none),Hd.de P "FloorError" 206 (.ref 24),Hd.de P "NoSpot" 222 (.ref 37),Hd.de P "WALL" 226 (.str "#" 225),Hd.de P "STRAIGHT_COST" 228 (.int 2 227),Hd.de P "SLANTING_COST" 230 (.int 3 229),Hd.de P "is_whole" 237 (.ref 46),Hd.de P "is_spot" 244 (.ref 53),Hd.de P "is_on_floor" 252 (.ref 60),Hd.de P "is_open" 260 (.ref 67),Hd.de P "need_open" 268 (.ref 74),Hd.de P "open_spots" 280 (.ref 81),Hd.de P "height_at" 288 (.ref 88),Hd.de P "open_spots_beside" 299 (.ref 95),Hd.de P "are_beside" 307 (.ref 102),Hd.de P "has_open_corners" 316 (.ref 109),Hd.de P "step_cost" 329 (.ref 116),Hd.de P "steps_from" 341 (.ref 123),Hd.de P "steps_over" 347 (.ref 128),Hd.de P "is_list_of_open_spots" 353 (.ref 133),Hd.de P "spot_at" 363 (.ref 140),Hd.de P "moves_at" 369 (.ref 145),Hd.de P "still_from" 375 (.ref 150),Hd.de P "left_from" 387 (.ref 157),Hd.de P "reached_next" 393 (.ref 162),Hd.de P "traced_back" 403 (.ref 169),Hd.de P "earliest_way" 409 (.ref 174),Hd.de P "crowd" 415 (.ref 179),Hd.de P "is_step_or_wait" 425 (.ref 186),Hd.de P "is_way_in_time" 431 (.ref 191),Hd.de P "are_moves_apart" 437 (.ref 196),Hd.de P "keep_apart" 443 (.ref 201),Hd.de P "fulfils_plan" 454 (.ref 208),Hd.de P "is_plan" 460 (.ref 213),Hd.de P "_law_cell" 470 (.ref 220),Hd.de P "_law_pick" 480 (.ref 227),Hd.de P "_law_floor" 498 (.ref 234),Hd.de P "_law_walker" 506 (.ref 241),Hd.de P "_law_spots" 512 (.ref 246),Hd.de P "_law_cost" 524 (.ref 253),Hd.de P "_law_steps" 538 (.ref 260),Hd.de P "_law_at" 546 (.ref 267),Hd.de P "_law_soonest" 552 (.ref 272),Hd.de P "_law_fits" 558 (.ref 277),Hd.de P "_law_some" 571 (.ref 284),Hd.de P "_law_spoilt" 577 (.ref 289),Hd.de P "_law_due" 592 (.ref 296),Hd.de P "_law_meetings" 600 (.ref 303),Hd.de P "law" 619 (.ref 310)] 57}),
 (23,{cls:=.type "dict",data:=.dict #[Hd.de P "__module__" 196 (.str "cellways.errors" 187),Hd.de P "__firstlineno__" 200 (.int 2 199),Hd.de P "__static_attributes__" 201 (.ref 22),Hd.de P "__weakref__" 203 (.ref 25),Hd.de P "__doc__" 204 (.none)] 3}),
 (24,{cls:=.type "type",data:=.cls {name:="FloorError",bases:=[.type "ValueError"],mro:=[.ref 24,.type "ValueError",.type "Exception",.type "BaseException",.type "object"],ns:=23,qualname:="FloorError",subclasses:=[.ref 37]},slots:=#[some (.ref 15),none,some (.str "FloorError" 189),some (.str "FloorError" 197),some (.builtin "ValueError.__new__"),some (.bool Bool.true)]}),
 (36,{cls:=.type "dict",data:=.dict #[Hd.de P "__module__" 214 (.str "cellways.errors" 187),Hd.de P "__firstlineno__" 218 (.int 4 217),Hd.de P "__static_attributes__" 219 (.ref 35),Hd.de P "__doc__" 220 (.none)] 2}),
 (37,{cls:=.type "type",data:=.cls {name:="NoSpot",bases:=[.ref 24],mro:=[.ref 37,.ref 24,.type "ValueError",.type "Exception",.type "BaseException",.type "object"],ns:=36,qualname:="NoSpot"},slots:=#[some (.ref 28),none,some (.str "NoSpot" 207),some (.str "NoSpot" 215),some (.builtin "ValueError.__new__"),some (.bool Bool.true)]}),
 (45,Hd.co "is_whole" 231 10 1 40 (.ref 42) (.ref 43) 44 235),
 (46,Hd.fo "is_whole" (top 7) m1 45),
 (52,Hd.co "is_spot" 238 12 1 47 (.ref 49) (.ref 50) 51 242),
 (53,Hd.fo "is_spot" (top 8) m1 52),
 (59,Hd.co "is_on_floor" 245 14 2 54 (.ref 56) (.ref 57) 58 250),
 (60,Hd.fo "is_on_floor" (top 9) m1 59),
 (66,Hd.co "is_open" 253 16 2 61 (.ref 63) (.ref 64) 65 258),
 (67,Hd.fo "is_open" (top 10) m1 66),
 (73,Hd.co "need_open" 261 18 2 68 (.ref 70) (.ref 71) 72 266),
 (74,Hd.fo "need_open" (top 11) m1 73),
 (80,Hd.co "open_spots" 269 21 1 75 (.ref 77) (.ref 78) 79 278),
 (81,Hd.fo "open_spots" (top 12) m1 80),
 (87,Hd.co "height_at" 281 28 2 82 (.ref 84) (.ref 85) 86 286),
 (88,Hd.fo "height_at" (top 13) m1 87),
 (94,Hd.co "open_spots_beside" 289 31 2 89 (.ref 91) (.ref 92) 93 297),
 (95,Hd.fo "open_spots_beside" (top 14) m1 94),
 (101,Hd.co "are_beside" 300 38 2 96 (.ref 98) (.ref 99) 100 305),
 (102,Hd.fo "are_beside" (top 15) m1 101),
 (108,Hd.co "has_open_corners" 308 40 3 103 (.ref 105) (.ref 106) 107 314),
 (109,Hd.fo "has_open_corners" (top 16) m1 108),
 (115,Hd.co "step_cost" 317 42 4 110 (.ref 112) (.ref 113) 114 327),
 (116,Hd.fo "step_cost" (top 17) m1 115),
 (122,Hd.co "steps_from" 330 53 3 117 (.ref 119) (.ref 120) 121 339),
 (123,Hd.fo "steps_from" (top 18) m1 122),
 (127,Hd.co "steps_over" 342 61 2 124 .none .none 126 345),
 (128,Hd.fo "steps_over" (top 19) m1 127),
 (132,Hd.co "is_list_of_open_spots" 348 66 2 129 .none .none 131 351),
 (133,Hd.fo "is_list_of_open_spots" (top 20) m1 132),
 (139,Hd.co "spot_at" 356 71 2 134 (.ref 136) (.ref 137) 138 361),
 (140,Hd.fo "spot_at" (top 22) m2 139),
 (144,Hd.co "moves_at" 364 73 2 141 .none .none 143 367),
 (145,Hd.fo "moves_at" (top 23) m2 144),
 (149,Hd.co "still_from" 370 75 1 146 .none .none 148 373),
 (150,Hd.fo "still_from" (top 24) m2 149),
 (156,Hd.co "left_from" 376 77 2 151 (.ref 153) (.ref 154) 155 385),
 (157,Hd.fo "left_from" (top 25) m2 156),
 (161,Hd.co "reached_next" 388 84 3 158 .none .none 160 391),
 (162,Hd.fo "reached_next" (top 26) m2 161),
 (168,Hd.co "traced_back" 394 93 2 163 (.ref 165) (.ref 166) 167 401),
 (169,Hd.fo "traced_back" (top 27) m2 168),
 (173,Hd.co "earliest_way" 404 98 4 170 .none .none 172 407),
 (174,Hd.fo "earliest_way" (top 28) m2 173),
 (178,Hd.co "crowd" 410 111 4 175 .none .none 177 413),
 (179,Hd.fo "crowd" (top 29) m2 178),
 (185,Hd.co "is_step_or_wait" 416 120 4 180 (.ref 182) (.ref 183) 184 423),
 (186,Hd.fo "is_step_or_wait" (top 30) m2 185),
 (190,Hd.co "is_way_in_time" 426 122 3 187 .none .none 189 429),
 (191,Hd.fo "is_way_in_time" (top 31) m2 190),
 (195,Hd.co "are_moves_apart" 432 126 1 192 .none .none 194 435),
 (196,Hd.fo "are_moves_apart" (top 32) m2 195),
 (200,Hd.co "keep_apart" 438 131 1 197 .none .none 199 441),
 (201,Hd.fo "keep_apart" (top 33) m2 200),
 (207,Hd.co "fulfils_plan" 444 133 5 202 (.ref 204) (.ref 205) 206 452),
 (208,Hd.fo "fulfils_plan" (top 34) m2 207),
 (212,Hd.co "is_plan" 455 137 5 209 .none .none 211 458),
 (213,Hd.fo "is_plan" (top 35) m2 212),
 (219,Hd.co "_law_cell" 463 144 2 214 (.ref 216) (.ref 217) 218 468),
 (220,Hd.fo "_law_cell" (top 37) m3 219),
 (226,Hd.co "_law_pick" 471 150 3 221 (.ref 223) (.ref 224) 225 478),
 (227,Hd.fo "_law_pick" (top 38) m3 226),
 (233,Hd.co "_law_floor" 481 153 3 228 (.ref 230) (.ref 231) 232 496),
 (234,Hd.fo "_law_floor" (top 39) m3 233),
 (240,Hd.co "_law_walker" 499 166 2 235 (.ref 237) (.ref 238) 239 504),
 (241,Hd.fo "_law_walker" (top 40) m3 240),
 (245,Hd.co "_law_spots" 507 168 1 242 .none .none 244 510),
 (246,Hd.fo "_law_spots" (top 41) m3 245),
 (252,Hd.co "_law_cost" 513 173 4 247 (.ref 249) (.ref 250) 251 522),
 (253,Hd.fo "_law_cost" (top 42) m3 252),
 (259,Hd.co "_law_steps" 525 183 3 254 (.ref 256) (.ref 257) 258 536),
 (260,Hd.fo "_law_steps" (top 43) m3 259),
 (266,Hd.co "_law_at" 539 193 2 261 (.ref 263) (.ref 264) 265 544),
 (267,Hd.fo "_law_at" (top 44) m3 266),
 (276,Hd.co "_law_fits" 553 213 6 273 .none .none 275 556),
 (277,Hd.fo "_law_fits" (top 46) m3 276),
 (283,Hd.co "_law_some" 559 230 4 278 (.ref 280) (.ref 281) 282 569),
 (284,Hd.fo "_law_some" (top 47) m3 283),
 (288,Hd.co "_law_spoilt" 572 237 4 285 .none .none 287 575),
 (289,Hd.fo "_law_spoilt" (top 48) m3 288),
 (295,Hd.co "_law_due" 578 248 5 290 (.ref 292) (.ref 293) 294 590),
 (296,Hd.fo "_law_due" (top 49) m3 295),
 (302,Hd.co "_law_meetings" 593 258 0 297 (.ref 299) (.ref 300) 301 598),
 (303,Hd.fo "_law_meetings" (top 50) m3 302),
 (309,Hd.co "law" 601 266 1 304 (.ref 306) (.ref 307) 308 617),
 (310,Hd.fo "law" (top 51) m3 309)]
def ts:List (Addr×Str):=[]
noncomputable def K2(P:Params):zz8:=K P++[]
noncomputable def as:List Addr:=[2,3,23,24,36,37,45,46,52,53,59,60,66,67,73,74,80,81,87,88,94,95,101,102,108,109,115,116,122,123,127,128,132,133,139,140,144,145,149,150,156,157,161,162,168,169,173,174,178,179,185,186,190,191,195,196,200,201,207,208,212,213,219,220,226,227,233,234,240,241,245,246,252,253,259,260,266,267,276,277,283,284,288,289,295,296,302,303,309,310]
noncomputable def Γ:Pg:=⟨[("WALL",(.str "#")),("STRAIGHT_COST",(.int 2)),("SLANTING_COST",(.int 3))],["len","abs","max","min","int","str","list","tuple","all","isinstance","bool","range","enumerate","zip","dict","reversed","any"],[],[],["NoSpot"],[],false⟩
def R0:dA:=[]
def oT:bA (Γ.at R0 false) "_law_cell" cU (top 37):=stM λ_ _ _ _ _ _=>Hd.sZ λ_ _=>rfl
noncomputable def R1:dA:=⟨"_law_cell","_law_cell",cU,top 37,false⟩::R0
def pg:bA (Γ.at R1 false) "_law_pick" bh (top 38):=stM λ_ _ _ _ _ _=>Hd.IS λ_ _ _=>rfl
noncomputable def R2:dA:=⟨"_law_pick","_law_pick",bh,top 38,false⟩::R1
def mJ:bA (Γ.at R2 false) "_law_floor" b9 (top 39):=stM λ_ _ _ _ _ _=>Hd.IS λ_ _ _=>rfl
noncomputable def R3:dA:=⟨"_law_floor","_law_floor",b9,top 39,false⟩::R2
def ly:bA (Γ.at R3 false) "_law_walker" cq (top 40):=stM λ_ _ _ _ _ _=>Hd.sZ λ_ _=>rfl
noncomputable def R4:dA:=⟨"_law_walker","_law_walker",cq,top 40,false⟩::R3
def mK:bA (Γ.at R4 false) "_law_spots" bK (top 41):=stM λ_ _ _ _ _ _=>Hd.EH λ_=>rfl
noncomputable def R5:dA:=⟨"_law_spots","_law_spots",bK,top 41,false⟩::R4
def oG:bA (Γ.at R5 false) "_law_some" bZ (top 47):=stM λ_ _ _ _ _ _=>Hd.Gb λ_ _ _ _=>rfl
noncomputable def R6:dA:=⟨"_law_some","_law_some",bZ,top 47,false⟩::R5
def mf:bA (Γ.at R6 false) "open_spots" cH (top 12):=stM λ_ _ _ _ _ _=>Hd.EH λ_=>rfl
noncomputable def R7:dA:=⟨"open_spots","open_spots",cH,top 12,false⟩::R6
def rn:bA (Γ.at R7 false) "is_whole" dU (top 7):=stM λ_ _ _ _ _ _=>Hd.EH λ_=>rfl
noncomputable def R8:dA:=⟨"is_whole","is_whole",dU,top 7,false⟩::R7
def t8:bA (Γ.at R8 false) "is_spot" cT (top 8):=stM λ_ _ _ _ _ _=>Hd.EH λ_=>rfl
noncomputable def R9:dA:=⟨"is_spot","is_spot",cT,top 8,false⟩::R8
def lV:bA (Γ.at R9 false) "is_on_floor" cw (top 9):=stM λ_ _ _ _ _ _=>Hd.sZ λ_ _=>rfl
noncomputable def RE:dA:=⟨"is_on_floor","is_on_floor",cw,top 9,false⟩::R9
def tH:bA (Γ.at RE false) "is_open" bw (top 10):=stM λ_ _ _ _ _ _=>Hd.sZ λ_ _=>rfl
noncomputable def So:dA:=⟨"is_open","is_open",bw,top 10,false⟩::RE
def pY:bA (Γ.at So false) "need_open" bM (top 11):=stM λ_ _ _ _ _ _=>Hd.sZ λ_ _=>rfl
noncomputable def RQ:dA:=⟨"need_open","need_open",bM,top 11,false⟩::So
def fM:bA (Γ.at RQ false) "open_spots_beside" aV (top 14):=stM λ_ _ _ _ _ _=>Hd.sZ λ_ _=>rfl
noncomputable def Sf:dA:=⟨"open_spots_beside","open_spots_beside",aV,top 14,false⟩::RQ
def my:bA (Γ.at Sf false) "are_beside" cJ (top 15):=stM λ_ _ _ _ _ _=>Hd.sZ λ_ _=>rfl
noncomputable def Rf:dA:=⟨"are_beside","are_beside",cJ,top 15,false⟩::Sf
def o9:bA (Γ.at Rf false) "height_at" cR (top 13):=stM λ_ _ _ _ _ _=>Hd.sZ λ_ _=>rfl
noncomputable def Qi:dA:=⟨"height_at","height_at",cR,top 13,false⟩::Rf
def gn:bA (Γ.at Qi false) "has_open_corners" ba (top 16):=stM λ_ _ _ _ _ _=>Hd.IS λ_ _ _=>rfl
noncomputable def RZ:dA:=⟨"has_open_corners","has_open_corners",ba,top 16,false⟩::Qi
def n9:bA (Γ.at RZ false) "step_cost" bg (top 17):=stM λ_ _ _ _ _ _=>Hd.Gb λ_ _ _ _=>rfl
noncomputable def Q6:dA:=⟨"step_cost","step_cost",bg,top 17,false⟩::RZ
def mL:bA (Γ.at Q6 false) "steps_from" cI (top 18):=stM λ_ _ _ _ _ _=>Hd.IS λ_ _ _=>rfl
noncomputable def Qh:dA:=⟨"steps_from","steps_from",cI,top 18,false⟩::Q6
def lZ:bA (Γ.at Qh false) "steps_over" cD (top 19):=stM λ_ _ _ _ _ _=>Hd.sZ λ_ _=>rfl
noncomputable def QH:dA:=⟨"steps_over","steps_over",cD,top 19,false⟩::Qh
def pG:bA (Γ.at QH false) "left_from" cS (top 25):=stM λ_ _ _ _ _ _=>Hd.sZ λ_ _=>rfl
noncomputable def Sh:dA:=⟨"left_from","left_from",cS,top 25,false⟩::QH
def mw:bA (Γ.at Sh false) "still_from" br (top 24):=stM λ_ _ _ _ _ _=>Hd.EH λ_=>rfl
noncomputable def RJ:dA:=⟨"still_from","still_from",br,top 24,false⟩::Sh
def ke:bA (Γ.at RJ false) "traced_back" cx (top 27):=stM λ_ _ _ _ _ _=>Hd.sZ λ_ _=>rfl
noncomputable def QL:dA:=⟨"traced_back","traced_back",cx,top 27,false⟩::RJ
def jl:bA (Γ.at QL false) "reached_next" bU (top 26):=stM λ_ _ _ _ _ _=>Hd.IS λ_ _ _=>rfl
noncomputable def Q4:dA:=⟨"reached_next","reached_next",bU,top 26,false⟩::QL
def ug:bA (Γ.at Q4 false) "spot_at" dM (top 22):=stM λ_ _ _ _ _ _=>Hd.sZ λ_ _=>rfl
noncomputable def Qg:dA:=⟨"spot_at","spot_at",dM,top 22,false⟩::Q4
def qL:bA (Γ.at Qg false) "moves_at" cB (top 23):=stM λ_ _ _ _ _ _=>Hd.sZ λ_ _=>rfl
noncomputable def RU:dA:=⟨"moves_at","moves_at",cB,top 23,false⟩::Qg
def je:bA (Γ.at RU false) "earliest_way" bz (top 28):=stM λ_ _ _ _ _ _=>Hd.Gb λ_ _ _ _=>rfl
noncomputable def Qt:dA:=⟨"earliest_way","earliest_way",bz,top 28,false⟩::RU
def yk:bA (Γ.at Qt false) "crowd" f7 (top 29):=stM λ_ _ _ _ _ _=>Hd.Gb λ_ _ _ _=>rfl
noncomputable def Sk:dA:=⟨"crowd","crowd",f7,top 29,false⟩::Qt
def iL:bA (Γ.at Sk false) "_law_meetings" bH (top 50):=stM λ_ _ _ _ _ _=>Hd.Tw rfl
noncomputable def QW:dA:=⟨"_law_meetings","_law_meetings",bH,top 50,false⟩::Sk
def kE:bA (Γ.at QW false) "_law_spoilt" bt (top 48):=stM λ_ _ _ _ _ _=>Hd.Gb λ_ _ _ _=>rfl
noncomputable def QK:dA:=⟨"_law_spoilt","_law_spoilt",bt,top 48,false⟩::QW
def hU:bA (Γ.at QK false) "are_moves_apart" aS (top 32):=stM λ_ _ _ _ _ _=>Hd.EH λ_=>rfl
noncomputable def Rr:dA:=⟨"are_moves_apart","are_moves_apart",aS,top 32,false⟩::QK
def mr:bA (Γ.at Rr false) "keep_apart" cK (top 33):=stM λ_ _ _ _ _ _=>Hd.EH λ_=>rfl
noncomputable def Qx:dA:=⟨"keep_apart","keep_apart",cK,top 33,false⟩::Rr
def eh:bA (Γ.at Qx false) "is_list_of_open_spots" au (top 20):=stM λ_ _ _ _ _ _=>Hd.sZ λ_ _=>rfl
noncomputable def Qc:dA:=⟨"is_list_of_open_spots","is_list_of_open_spots",au,top 20,false⟩::Qx
def gH:bA (Γ.at Qc false) "is_step_or_wait" aU (top 30):=stM λ_ _ _ _ _ _=>Hd.Gb λ_ _ _ _=>rfl
noncomputable def QC:dA:=⟨"is_step_or_wait","is_step_or_wait",aU,top 30,false⟩::Qc
def iy:bA (Γ.at QC false) "is_way_in_time" bb (top 31):=stM λ_ _ _ _ _ _=>Hd.IS λ_ _ _=>rfl
noncomputable def Q9:dA:=⟨"is_way_in_time","is_way_in_time",bb,top 31,false⟩::QC
def jg:bA (Γ.at Q9 false) "fulfils_plan" aN (top 34):=stM λ_ _ _ _ _ _=>Hd.O2 λ_ _ _ _ _=>rfl
noncomputable def Qz:dA:=⟨"fulfils_plan","fulfils_plan",aN,top 34,false⟩::Q9
def sL:bA (Γ.at Qz false) "is_plan" cy (top 35):=stM λ_ _ _ _ _ _=>Hd.O2 λ_ _ _ _ _=>rfl
noncomputable def QP:dA:=⟨"is_plan","is_plan",cy,top 35,false⟩::Qz
def pK:bA (Γ.at QP false) "_law_cost" bJ (top 42):=stM λ_ _ _ _ _ _=>Hd.Gb λ_ _ _ _=>rfl
noncomputable def Rj:dA:=⟨"_law_cost","_law_cost",bJ,top 42,false⟩::QP
def ma:bA (Γ.at Rj false) "_law_steps" bq (top 43):=stM λ_ _ _ _ _ _=>Hd.IS λ_ _ _=>rfl
noncomputable def RC:dA:=⟨"_law_steps","_law_steps",bq,top 43,false⟩::Rj
def rZ:bA (Γ.at RC false) "_law_at" dr (top 44):=stM λ_ _ _ _ _ _=>Hd.sZ λ_ _=>rfl
noncomputable def P9:dA:=⟨"_law_at","_law_at",dr,top 44,false⟩::RC
def ou:bA (Γ.at P9 false) "_law_fits" b7 (top 46):=stM λ_ _ _ _ _ _=>Hd.Tt λ_ _ _ _ _ _=>rfl
noncomputable def Qb:dA:=⟨"_law_fits","_law_fits",b7,top 46,false⟩::P9
def q8:bA (Γ.at Qb false) "_law_due" bQ (top 49):=stM λ_ _ _ _ _ _=>Hd.O2 λ_ _ _ _ _=>rfl
noncomputable def MA:dA:=⟨"_law_due","_law_due",bQ,top 49,false⟩::Qb
def Gq:bA (Γ.at MA false) "law" ja (top 51):=stM λ_ _ _ _ _ _=>Hd.EH λ_=>rfl
def Kd(ns:List Int)(hl:ns.length<=63):aq (den (tab MA)) ja [.lst (ns.map .int)]=.ok (.bl true):=J5 ns hl
def OS(P:Params):AllK (K P) ts Γ MA:=
 Hd.ac (Hd.ent 296 295 m3) q8 <| Hd.ac (Hd.ent 277 276 m3) ou <| Hd.ac (Hd.ent 267 266 m3) rZ <| Hd.ac (Hd.ent 260 259 m3) ma <| Hd.ac (Hd.ent 253 252 m3) pK <| Hd.ac (Hd.ent 213 212 m2) sL <| Hd.ac (Hd.ent 208 207 m2) jg <| Hd.ac (Hd.ent 191 190 m2) iy <| Hd.ac (Hd.ent 186 185 m2) gH <| Hd.ac (Hd.ent 133 132 m1) eh <| Hd.ac (Hd.ent 201 200 m2) mr <| Hd.ac (Hd.ent 196 195 m2) hU <| Hd.ac (Hd.ent 289 288 m3) kE <| Hd.ac (Hd.ent 303 302 m3) iL <| Hd.ac (Hd.ent 179 178 m2) yk <| Hd.ac (Hd.ent 174 173 m2) je <| Hd.ac (Hd.ent 145 144 m2) qL <| Hd.ac (Hd.ent 140 139 m2) ug <| Hd.ac (Hd.ent 162 161 m2) jl <| Hd.ac (Hd.ent 169 168 m2) ke <| Hd.ac (Hd.ent 150 149 m2) mw <| Hd.ac (Hd.ent 157 156 m2) pG <| Hd.ac (Hd.ent 128 127 m1) lZ <| Hd.ac (Hd.ent 123 122 m1) mL <| Hd.ac (Hd.ent 116 115 m1) n9 <| Hd.ac (Hd.ent 109 108 m1) gn <| Hd.ac (Hd.ent 88 87 m1) o9 <| Hd.ac (Hd.ent 102 101 m1) my <| Hd.ac (Hd.ent 95 94 m1) fM <| Hd.ac (Hd.ent 74 73 m1) pY <| Hd.ac (Hd.ent 67 66 m1) tH <| Hd.ac (Hd.ent 60 59 m1) lV <| Hd.ac (Hd.ent 53 52 m1) t8 <| Hd.ac (Hd.ent 46 45 m1) rn <| Hd.ac (Hd.ent 81 80 m1) mf <| Hd.ac (Hd.ent 284 283 m3) oG <| Hd.ac (Hd.ent 246 245 m3) mK <| Hd.ac (Hd.ent 241 240 m3) ly <| Hd.ac (Hd.ent 234 233 m3) mJ <| Hd.ac (Hd.ent 227 226 m3) pg <| Hd.ac (Hd.ent 220 219 m3) oT trivial
structure KY(K:zz8)(d:Str)(D:Addr):Prop where
 e:PySem.W.nsIn K mainGlobals d=some (some (.ref D))
 xc:FK K D
 vt:PySem.W.kitOne K (.ref D) (.type "ValueError")=some true
 ex:PySem.W.excIn K D zU "ValueError.__new__"=true
def Pk{K:zz8}{d:Str}{D:Addr}(e:PySem.W.nsIn K mainGlobals d=some (some (.ref D)):=by kernel_rfl)(i:PySem.W.isClsIn K D=true:=by kernel_rfl)(v:PySem.W.subIn K (.ref D) (.type "ValueError")=some true:=by kernel_rfl)(ga:PySem.W.findIn K (.ref D) "__getattribute__"=some (some (.builtin "BaseException.__getattribute__")):=by kernel_rfl)(hk:PySem.W.findIn K (.ref D) "__getattr__"=some none:=by kernel_rfl)
 (cl:PySem.W.findIn K (.ref D) "__class__"=some (some (.builtin "object.__class__")):=by kernel_rfl) (mo:PySem.W.mroIn K D (.type "object")=some true:=by kernel_rfl) (mb:PySem.W.mroIn K D (.type "BaseException")=some true:=by kernel_rfl) (ex:PySem.W.excIn K D zU "ValueError.__new__"=true:=by kernel_rfl):KY K d D:=
 ⟨e,⟨ga,hk,cl,mo,mb,i⟩,xm (by decide+kernel) v,ex⟩
def OB(P:Params){mg:Str->Option Value}{h:Heap}(X:(K P).In h)(G:h.Ns mainGlobals mg):rY (K P) mg Γ ⟨K P,mg,["NoSpot"],ts⟩:=by
 have Ku:∀{x:Str} {u:Value},PySem.W.nsIn (K P) mainGlobals x=some (some u)->mg x=some u:=λa=>PySem.W.mg_of X G a
 have rC:∀{x:Str},PySem.W.nsIn (K P) mainGlobals x=some none->mg x=none:=λa=>PySem.W.mg_none_of X G a
 have fO:KY (K P) "NoSpot" 37:=Pk
 refine⟨rfl,rfl,λq hq=>?_,λg hg=>?_,by decide+kernel,λc hc=>?_,λd hd D hD=>?_,λc hc=>?_,λc hc=>?_,λz=>absurd z (by decide+kernel),λ_=>absurd rfl ‹_›⟩
 ·simp! [Γ,zzm,List.not_mem_nil,or_false] at hq;rcases hq with rfl|rfl|rfl
  ·exact⟨.str "#" 225,.str "#",Ku (by kernel_rfl),⟨_,rfl⟩,λG=>.s⟩
  ·exact⟨.int 2 227,.int 2,Ku (by kernel_rfl),⟨_,rfl⟩,λG=>.i⟩
  ·exact⟨.int 3 229,.int 3,Ku (by kernel_rfl),⟨_,rfl⟩,λG=>.i⟩
 ·simp! [Γ,zzm,List.not_mem_nil,or_false] at hg;rcases hg with rfl|rfl|rfl|rfl|rfl|rfl|rfl|rfl|rfl|rfl|rfl|rfl|rfl|rfl|rfl|rfl|rfl
  ·exact rC (by kernel_rfl)
  ·exact rC (by kernel_rfl)
  ·exact rC (by kernel_rfl)
  ·exact rC (by kernel_rfl)
  ·exact rC (by kernel_rfl)
  ·exact rC (by kernel_rfl)
  ·exact rC (by kernel_rfl)
  ·exact rC (by kernel_rfl)
  ·exact rC (by kernel_rfl)
  ·exact rC (by kernel_rfl)
  ·exact rC (by kernel_rfl)
  ·exact rC (by kernel_rfl)
  ·exact rC (by kernel_rfl)
  ·exact rC (by kernel_rfl)
  ·exact rC (by kernel_rfl)
  ·exact rC (by kernel_rfl)
  ·exact rC (by kernel_rfl)
 ·simp! [Γ,zzm,List.not_mem_nil,or_false] at hc
 ·simp! [zzm,List.not_mem_nil,or_false] at hd;rcases hd with rfl
  ·cases(Ku fO.e).symm.trans hD;refine⟨fO.xc,λc hc C hC=>?_,fO.vt⟩
   simp! [Γ,zzm,List.not_mem_nil,or_false] at hc
 ·simp! [Γ,zzn,zzm,List.not_mem_nil,or_false] at hc⊢;exact hc
 ·simp! [Γ,zzn,zzm,List.not_mem_nil,or_false] at hc;rcases hc with rfl
  ·exact⟨_,Ku fO.e,fO.ex⟩
def hY{P:Params}{h:Heap}(X:(K2 P).In h):(K P).In h/\∀p∈ts.map (·.1),h.get? p=some (PySem.W.tabObj #[]):=⟨λb o e=>X b o (Hd.xq e),λp hp=>by
 simp! [ts,zzF,List.map_nil,zzm,List.not_mem_nil,or_false] at hp
⟩
def hC(P:Params):∀p∈ts.map (·.1),(∃c,i5 (K P) c p)/\(K P).lookup p=none:=λp hp=>by
 simp! [ts,zzF,List.map_nil,zzm,List.not_mem_nil,or_false] at hp
noncomputable def keep:List Nat:=[1,2,4,5,6,7,8,9,10,11,12,13,14,15,16,17,18,19,20,22,23,24,25,26,27,28,29,30,31,32,33,34,35,37,38,39,40,41,42,43,44,45,46,47,48,49,50,51]
def ka:∀P,as=(K2 P).map (·.1):=λ_=>by kernel_rfl
def left:PySem.W.LeftO lw.row.prog (PySem.W.view lw.row.prog keep) [] (λs=>PySem.W.xlAt (PySem.W.view lw.row.prog keep) [] s&&PySem.W.recOk lw.row.toRowW.records s) (PySem.W.kHook K2 as ka).obs (PySem.W.kHook K2 as ka).val 3652:=by
 refine Hd.DZ (T₀:=λP=>Hd.treeOf (PySem.W.boot_heap P).objs.toList) (m₀:=11) (life:={}) (ann:=some (.ref 6)) (M:=3602) (by kernel_rfl) (by kernel_rfl) (λs=>by kernel_rfl) Hd.KN Hd.L4 (by kernel_rfl) λw os=>?_
 rw [PySem.W.Fast.te10156331382660048174,PySem.W.Fast.te11892475500146522536,PySem.W.Fast.te14364793385576792824,PySem.W.Fast.te6613529449190102663,PySem.W.Fast.te4187177175401517315,PySem.W.Fast.te5923862056798008813]
 kernel_rfl
end K61
open PySem PySem.W PyProof.Rows
set_option maxRecDepth 100000 in
set_option maxHeartbeats 0 in
theorem PySem.Challenge.cw_cellways_k61_is_plan_holds : PySem.Challenge.rw_cellways_k61_is_plan.Holds := by
 refine Hd.holds (d:=⟨"law",L2.df (K61.top 51),L2.cG (K61.top 51),L2.aQ (K61.top 51),Hd.PQ (K61.top 51)⟩) (by kernel_rfl) K61.ka K61.left (by kernel_rfl) (by kernel_rfl) (by kernel_rfl) (by kernel_rfl) ⟨rfl,rfl,rfl,rfl,rfl,by decide+kernel⟩ ?hw ?hc
 case hw=>w_witness2
 case hc=>exact Ci.walk (l:=PySem.Challenge.rw_cellways_k61_is_plan) K61.MA K61.Γ "_law_script" K61.ja ["NoSpot"] K61.ts (K61.top 51) rfl rfl rfl rfl rfl ⟨rfl,by decide,by decide⟩ (λw h Y=>K61.hY (PySem.W.kIn_of Y)) (λw=>K61.hC w.params) (λw mg h KX G=>K61.OB _ KX G) (λw=>Hd.ent 310 309 K61.m3) K61.Gq (λw=>K61.OS _) K61.Kd
#print axioms PySem.Challenge.cw_cellways_k61_is_plan_holds
