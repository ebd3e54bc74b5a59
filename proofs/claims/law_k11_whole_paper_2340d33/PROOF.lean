import PyProof.Rows.All
import Wide.All
import OpenK.AllK
import Wide.FinOn
import Lean
import PyProof.EqAt
import PyProof.EqKinds
import PyProof.TupleCall
import PySem.Challenge.RW_cellways_k11_whole_paper
set_option Elab.async false
set_option linter.all false
set_option genSizeOf false
set_option genSizeOfSpec false
set_option bootstrap.genMatcherCode false
set_option compiler.extract_closed false
set_option compiler.reuse false
set_option maxRecDepth 100000
theorem zzf:¬false=true:=Bool.false_ne_true
theorem zza(a b:Bool):((a&&b)=true)=(a=true/\b=true):=Bool.and_eq_true a b
theorem zzg.{u}{α:Type u}{l:List α}{i:Nat}(h:i<l.length):l[i]?=some l[i]:=List.getElem?_eq_getElem h
theorem zzl.{u,v}{α:Type u}{β:Type v}{l:List α}(f:α->β):(l.map f).length=l.length:=List.length_map f
def zzA:=@PySem.wpAny_bind
def zzB:=@PySem.Heap.get?_push_of_some
def zzC:=@List.size_toArray
def zzD:=@List.mem_of_getElem?
def zzE:=@Nat.le_refl
def zzF:=@List.map_cons
def zzG:=@PySem.wpAny_pure
def zzH:=@List.getElem?_eq_some_iff
def zzI:=@List.mem_cons_of_mem
def zzJ:=@Option.map_eq_some_iff
def zzK:=@List.getD_eq_getElem?_getD
def zzL:=@List.length_cons
def zzM:=@List.length_append
def zzN:=@decide_eq_true_eq
def zzO:=@PySem.Heap.lt_size
def zzP:=@List.mem_cons_self
def zzQ:=@List.getElem?_map
def zzR:=@List.mem_append_right
def zzS:=@List.getElem?_set_ne
def zzT:=@List.all_eq_true
def zzU:=@Nat.le_trans
def zzV:=@Nat.lt_of_le_of_lt
def zzW:=@Nat.lt_of_lt_of_le
def zzX:=@PySem.Heap.get?_push_size
def zzY:=@of_decide_eq_true
def zzZ:=@Option.bind_eq_some_iff
def zzb:=@Nat.ne_of_lt
def zzc:=@List.mem_append_left
def zzd:=@Array.length_toList
def zze:=@Bool.false_eq_true
def zzh:=@decide_eq_true
def zzi:=@List.mem_singleton
def zzj:=@List.any_eq_true
namespace L2
open PySem PySem.Spec PyProof.Rows
abbrev Key:=Sum Int Str
def oH:Key->Value->Bool
 |.inl k,v=>Value.isInt k v
 |.inr x,v=>Value.isStrOf x v
def Px(w:World):Key->Int
 |.inl k=>hashInt k
 |.inr x=>hashStr w x
theorem cj:∀{k:Key} {v:Value},oH k v=true->(∃i t,k=Sum.inl i/\v=Value.int i t)\/(∃x t,k=Sum.inr x/\v=Value.str x t)
 |.inl i,v,h=>by
  obtain⟨t,e⟩:=Value.isInt_shape (k:=i) (v:=v) h
  exact .inl ⟨i,t,rfl,e⟩
 |.inr x,v,h=>by
  obtain⟨t,e⟩:=Value.isStrOf_shape (x:=x) (v:=v) h
  exact .inr ⟨x,t,rfl,e⟩
theorem xD(i:Int)(t:Tok):oH (.inl i) (.int i t)=true:=by simp [oH,Value.isInt]
theorem xE(x:Str)(t:Tok):oH (.inr x) (.str x t)=true:=by simp [oH,Value.isStrOf]
theorem Lx(a b:Int):decide ((Sum.inl a:Key)=Sum.inl b)=(a==b):=by
 by_cases e:a=b
 ·subst e;simp
 ·have h:¬(Sum.inl a:Key)=Sum.inl b:=λq=>e (Sum.inl.inj q)
  rw [decide_eq_false h];exact(beq_eq_false_iff_ne.mpr e).symm
theorem Jk(a b:Str):decide ((Sum.inr a:Key)=Sum.inr b)=decide (a=b):=by
 by_cases e:a=b
 ·subst e;simp
 ·have h:¬(Sum.inr a:Key)=Sum.inr b:=λq=>e (Sum.inr.inj q)
  rw [decide_eq_false h,decide_eq_false e]
theorem IP(a:Int)(b:Str):decide ((Sum.inl a:Key)=Sum.inr b)=false:=decide_eq_false (λq=>nomatch q)
theorem Hz(a:Str)(b:Int):decide ((Sum.inr a:Key)=Sum.inl b)=false:=decide_eq_false (λq=>nomatch q)
noncomputable def bY(prog:Program)(w:World):PySem.KeyKind prog w Key where
 is:=oH
 hash:=Px w
 inj:=λv a b ha hb=>by
  rcases cj ha with⟨i,t,rfl,rfl⟩|⟨x,t,rfl,rfl⟩
  ·rcases cj hb with⟨j,u,rfl,e⟩|⟨y,u,rfl,e⟩
   ·injection e with e1 _;rw [e1]
   ·exact nomatch e
  ·rcases cj hb with⟨j,u,rfl,e⟩|⟨y,u,rfl,e⟩
   ·exact nomatch e
   ·injection e with e1 _;rw [e1]
 byValue:=λk v h=>by
  rcases cj h with⟨i,t,rfl,rfl⟩|⟨x,t,rfl,rfl⟩<;>rfl
 pyHash:=λhv h=>by
  rcases cj hv with⟨i,t,rfl,rfl⟩|⟨x,t,rfl,rfl⟩
  ·exact wpAny_pyHash_int h
  ·exact wpAny_pyHash_str h
 eqBool:=λhu hv h=>by
  rcases cj hu with⟨i,t,rfl,rfl⟩|⟨x,t,rfl,rfl⟩
  ·rcases cj hv with⟨j,u,rfl,rfl⟩|⟨y,u,rfl,rfl⟩
   ·rw [Lx] at h;exact wpAny_eqBool_int h
   ·rw [IP] at h;exact SeqAt.EqAt.int_str i t y u _ _ _ _ h
  ·rcases cj hv with⟨j,u,rfl,rfl⟩|⟨y,u,rfl,rfl⟩
   ·rw [Hz] at h;exact SeqAt.EqAt.str_int x t j u _ _ _ _ h
   ·rw [Jk] at h;exact wpAny_eqBool_str h
 «strs»:=λk x t v h=>by
  rcases cj h with⟨i,u,rfl,e⟩|⟨y,u,rfl,e⟩
  ·exact nomatch e
  ·injection e with e1 _
   subst e1;cases v<;>rfl
theorem sj(prog:Program)(w:World)(i:Int)(t:Tok):(bY prog w).is (.inl i) (.int i t)=true:=xD i t
theorem sQ(prog:Program)(w:World)(x:Str)(t:Tok):(bY prog w).is (.inr x) (.str x t)=true:=xE x t
inductive V where
 |az|bl (b:Bool)|int (i:Int)|str (x:Str)|Qm (b:Array UInt8)|Pz (b:UInt64)|ref (a:Addr)|ty (n:String)
 deriving DecidableEq
def RelV:V->Value->Prop
 |.az,u=>u=Value.none
 |.bl b,u=>u=Value.bool b
 |.int i,u=>∃t,u=Value.int i t
 |.str x,u=>∃t,u=Value.str x t
 |.Qm b,u=>∃t,u=Value.bytes b t
 |.Pz b,u=>∃t,u=Value.float b t
 |.ref a,u=>u=Value.ref a
 |.ty n,u=>u=Value.type n
abbrev Vals:List V->List Value->Prop:=Paired RelV
theorem Vals.length{xs:List V}{us:List Value}(r:Vals xs us):xs.length=us.length:=Paired.length r
theorem Vals.get:∀{xs:List V} {us:List Value} {i:Nat} {x:V},Vals xs us->xs[i]?=some x->∃u,us[i]?=some u/\RelV x u
 |_,_,_,_,.nil,e=>by simp at e
 |_,_,0,_,.cons r _,e=>by simp at e;subst e;exact⟨_,rfl,r⟩
 |_,_,i+1,x,.cons _ t,e=>by
  obtain⟨u,h1,h2⟩:=Vals.get (i:=i) (x:=x) t (by simpa using e)
  exact⟨u,by simpa using h1,h2⟩
theorem Vals.append:∀{xs ys:List V} {us ws:List Value},Vals xs us->Vals ys ws->Vals (xs++ys) (us++ws)
 |_,_,_,_,.nil,s=>s
 |_,_,_,_,.cons r t,s=>.cons r (Vals.append t s)
theorem Vals.take:∀{xs:List V} {us:List Value} (n:Nat),Vals xs us->Vals (xs.take n) (us.take n)
 |_,_,0,_=>.nil
 |_,_,_+1,.nil=>.nil
 |_,_,n+1,.cons r t=>.cons r (Vals.take n t)
theorem Vals.drop:∀{xs:List V} {us:List Value} (n:Nat),Vals xs us->Vals (xs.drop n) (us.drop n)
 |_,_,0,r=>r
 |_,_,_+1,.nil=>.nil
 |_,_,n+1,.cons _ t=>Vals.drop n t
def kO:Option V->Option Value->Prop
 |some v,some u=>RelV v u
 |none,none=>True
 |_,_=>False
def KV{κ:Type}:List (κ×V)->List (κ×Value)->Prop:=Paired λ(p:κ×V) (q:κ×Value)=>p.1=q.1/\RelV p.2 q.2
def kV:Key->V
 |.inl i=>.int i
 |.inr x=>.str x
inductive HO where
 |lst (xs:List V)
 |tup (xs:List V)
 |dK (aw:List (Key×V))|dT (aw:List (List Key×V))
 |set (S:Int->Bool) (n:Nat)
 |ins (C dx:Addr) (fs:List (Str×V))
 |own (x:Addr)
 |xd (fs:List (Str×V))
 |met (f x:Addr)
 |rn (lo hi:Int)
 |bK (o:Obj) (u:HO)
 |fX (ps:Array Value)
 |ext (φ:Heap->Prop)
abbrev Hp:=Addr->Option HO
def upd(H:Hp)(a:Addr)(o:HO):Hp:=λb=>if b=a then some o else H b
theorem aq{H:Hp}{a:Addr}{o:HO}:upd H a o a=some o:=by unfold upd;rw [if_pos rfl]
theorem af{H:Hp}{a b:Addr}{o:HO}(h:b≠a):upd H a o b=H b:=by unfold upd;rw [if_neg h]
theorem fA{H:Hp}{a b:Addr}{o u:HO}(h:H a=some o)(h':H b=some u)(d:o≠u):a≠b:=by
 intro e;subst e;rw [h] at h';exact d (Option.some.inj h')
theorem dB{H:Hp}{a b:Addr}{o:HO}(h:H a=some o)(h':H b=none):a≠b:=by
 intro e;subst e;rw [h] at h';cases h'
section
variable(P:Program)(w:World)
def bV(H:Hp)(h:Heap)(a:Addr):HO->Prop
 |.lst xs=>xs.length<=sizeLine/\∃(ax:List Value) (n:Nat),Vals xs ax/\h.get? a=some {cls:=.type "list",data:=.seq ax.toArray n}
 |.tup xs=>xs.length<=sizeLine/\∃ax:List Value,Vals xs ax/\IsTup h a ax.toArray
 |.dK aw=>aw.length<=sizeLine/\(a==sysModules)=false/\∃vs,KV aw vs/\h.DictOf (bY P w) a vs
 |.dT aw=>aw.length<=sizeLine/\(a==sysModules)=false/\∃xs:List (List Key×Addr×Value),
  Paired (λ(p:List Key×V) (q:List Key×Addr×Value)=>p.1=q.1/\H q.2.1=some (.tup (p.1.map kV))/\RelV p.2 q.2.2) aw xs/\
  ∃o es ep,h.get? a=some o/\o.ExactDict/\o.data=.dict es ep/\es.toList=xs.map (entryOfKey (tupleKind (bY P w)))/\(xs.map (·.1)).Nodup
 |.set S n=>h.SetOf (intKind P w) a S n
 |.ins C dx fs=>H dx=some (.own a)/\fs.length<=1000/\dx≠a/\h.get? a=some (PySem.W.instObj C dx)/\
  ∃mA,h.Ns1 dx mA/\(∀f,kO (fs.lookup f) (mA f))/\PySem.Within mA (fs.map (·.1))
 |.own _=>∃o,h.get? a=some o
 |.xd fs=>∃mA,h.Ns1 a mA/\∀f,kO (fs.lookup f) (mA f)
 |.rn lo hi=>∃t u v,h.get? a=some {cls:=.type "range",data:=.fields #[.int lo t,.int hi u,.int 1 v]}
 |.bK o u=>h.get? a=some o/\bV H h a u
 |.fX ps=>h.get? a=some {cls:=.none,data:=.fields ps}
 |.met f x=>h.get? a=some (PySem.W.methodObj (.ref f) (.ref x))
 |.ext φ=>φ h/\(∃o,h.get? a=some o)/\∀h1 h2:Heap,φ h1->(∀o,h1.get? a=some o->h2.get? a=some o)->φ h2
def eJ(H:Hp)(h:Heap):Prop:=∀a o,H a=some o->bV P w H h a o
end
section
variable{P:Program}{w:World}{H H':Hp}{h h':Heap}{a:Addr}{o:HO}
theorem bV.lt(x:bV P w H h a o):a<h.objs.size:=by
 cases o with
 |lst xs=>obtain⟨_,_,_,_,e⟩:=x;exact zzO e
 |tup xs=>obtain⟨_,_,_,p⟩:=x;exact p.lt
 |dK aw=>obtain⟨_,_,_,_,o,_,_,e,_⟩:=x;exact zzO e
 |dT aw=>obtain⟨_,_,_,_,o,_,_,e,_⟩:=x;exact zzO e
 |set S n=>obtain⟨o,_,_,_,e,_⟩:=x;exact zzO e
 |ins C dx fs=>obtain⟨_,_,_,e,_⟩:=x;exact zzO e
 |own y=>obtain⟨_,e⟩:=x;exact zzO e
 |xd fs=>obtain⟨_,⟨_,_,_,e,_⟩,_⟩:=x;exact zzO e
 |rn lo hi=>obtain⟨_,_,_,e⟩:=x;exact zzO e
 |bK ob u=>obtain⟨e,_⟩:=x;exact zzO e
 |fX ps=>exact zzO (show h.get? a=some _ from x)
 |met f y=>exact zzO (show h.get? a=some _ from x)
 |ext φ=>obtain⟨_,⟨_,e⟩,_⟩:=x;exact zzO e
theorem Paired.x6{α β:Type}{F G:α->β->Prop}:∀{l₁:List α} {l₂:List β},Paired F l₁ l₂->(∀a b,F a b->G a b)->Paired G l₁ l₂
 |_,_,.nil,_=>.nil
 |_,_,.cons r t,f=>.cons (f _ _ r) (Paired.x6 t f)
theorem bV.ei(x:bV P w H h a o)(k:∀b u,(b=a\/H b=some (.own a))->h.get? b=some u->h'.get? b=some u)
 (ho:∀b,H b=some (.own a)->H' b=some (.own a)) (ht:∀b xs,H b=some (.tup xs)->H' b=some (.tup xs)):bV P w H' h' a o:=by
 induction o with
 |lst xs=>obtain⟨z,ax,n,r,e⟩:=x;exact⟨z,ax,n,r,k _ _ (.inl rfl) e⟩
 |tup xs=>obtain⟨z,ax,r,ob,e,c⟩:=x;exact⟨z,ax,r,ob,k _ _ (.inl rfl) e,c⟩
 |dK aw=>obtain⟨z,y,vs,r,ob,es,ep,e,c⟩:=x;exact⟨z,y,vs,r,ob,es,ep,k _ _ (.inl rfl) e,c⟩
 |dT aw=>
  obtain⟨z,y,xs,r,ob,es,ep,e,c⟩:=x
  exact⟨z,y,xs,Paired.x6 r λp q z=>⟨z.1,ht _ _ z.2.1,z.2.2⟩,ob,es,ep,k _ _ (.inl rfl) e,c⟩
 |set S n=>obtain⟨ob,es,ep,t,e,c⟩:=x;exact⟨ob,es,ep,t,k _ _ (.inl rfl) e,c⟩
 |ins C dx fs=>
  obtain⟨d,z,ne,e,mA,⟨od,es,ep,e2,c⟩,r⟩:=x
  exact⟨ho _ d,z,ne,k _ _ (.inl rfl) e,mA,⟨od,es,ep,k _ _ (.inr d) e2,c⟩,r⟩
 |own y=>obtain⟨ob,e⟩:=x;exact⟨ob,k _ _ (.inl rfl) e⟩
 |xd fs=>obtain⟨mA,⟨od,es,ep,e,c⟩,r⟩:=x;exact⟨mA,⟨od,es,ep,k _ _ (.inl rfl) e,c⟩,r⟩
 |rn lo hi=>obtain⟨t,u,v,e⟩:=x;exact⟨t,u,v,k _ _ (.inl rfl) e⟩
 |bK ob u ih=>obtain⟨e,q⟩:=x;exact⟨k _ _ (.inl rfl) e,ih q⟩
 |fX ps=>
  have e:h.get? a=some {cls:=.none,data:=.fields ps}:=x
  show h'.get? a=some {cls:=.none,data:=.fields ps}
  exact k a _ (.inl rfl) e
 |met f y=>
  have e:h.get? a=some (PySem.W.methodObj (.ref f) (.ref y)):=x
  show h'.get? a=some (PySem.W.methodObj (.ref f) (.ref y))
  exact k a _ (.inl rfl) e
 |ext φ=>obtain⟨p,⟨o,e⟩,st⟩:=x;exact⟨st _ _ p λo q=>k _ _ (.inl rfl) q,⟨o,k _ _ (.inl rfl) e⟩,st⟩
theorem eJ.lt(x:eJ P w H h)(e:H a=some o):a<h.objs.size:=(x a o e).lt
theorem eJ.fresh(x:eJ P w H h)(e:h.objs.size<=a):H a=none:=by
 cases q:H a with
 |none=>rfl
 |some u=>exact absurd (zzW (x.lt q) e) (Nat.lt_irrefl _)
theorem eJ.kept(x:eJ P w H h)(k:∀b u,h.get? b=some u->h'.get? b=some u):eJ P w H h':=λa o e=>
 (x a o e).ei (λb u _ q=>k b u q) (λ_ q=>q) λ_ _ q=>q
theorem eJ.laid(x:eJ P w H h)(k:∀b u,h.get? b=some u->h'.get? b=some u)(hp:h.objs.size<=a)(new:bV P w (upd H a o) h' a o):eJ P w (upd H a o) h':=λb u e=>by
 have hn:=x.fresh hp
 by_cases hb:b=a
 ·subst hb;rw [aq] at e;cases e;exact new
 ·rw [af hb] at e;exact(x b u e).ei (λc v _ q=>k c v q) (λc q=>by rw [af (dB q hn)];exact q) λc xs q=>by rw [af (dB q hn)];exact q
end
def Rd(H:Hp)(a:Addr)(u:HO):Prop:=H a=some u\/∃o,H a=some (.bK o u)
theorem Rd.ok{P:Program}{w:World}{H:Hp}{h:Heap}{a:Addr}{u:HO}(r:Rd H a u)(x:eJ P w H h):bV P w H h a u:=by
 rcases r with r|⟨o,r⟩
 ·exact x a u r
 ·obtain⟨_,q⟩:=x a _ r
  exact q
def Nv:Option HO->Prop
 |some (.lst _)=>True
 |some (.dK _)=>True
 |some (.dT _)=>True
 |some (.set _ _)=>True
 |some (.ins _ _ _)=>True
 |some (.ext _)=>True
 |_=>False
section
variable{P:Program}{w:World}{H:Hp}{h h':Heap}{x e:Addr}{o':HO}
theorem eJ.write(ok:eJ P w H h)(mu:Nv (H x))(he:e=x\/H e=some (.own x))(k:∀b u,b≠e->h.get? b=some u->h'.get? b=some u)(LJ:∃u,h'.get? e=some u)
 (new:bV P w (upd H x o') h' x o'):eJ P w (upd H x o') h':=λb u q=>by
 have Mi:∀c y,H c=some (.own y)->c≠x:=λc y r z=>by subst z;rw [r] at mu;exact mu
 have QJ:∀c xs,H c=some (.tup xs)->c≠x:=λc xs r z=>by subst z;rw [r] at mu;exact mu
 by_cases hb:b=x
 ·subst hb;rw [aq] at q;cases q;exact new
 ·rw [af hb] at q
  by_cases hbe:b=e
  ·have q':H b=some (.own x):=by
    rcases he with z|z
    ·exact absurd (hbe.trans z) hb
    ·rw [hbe];exact z
   rw [q] at q';cases q';obtain⟨v,hv⟩:=LJ
   exact⟨v,by rw [hbe];exact hv⟩
  ·refine(ok b u q).ei (λc v hc r=>k c v ?_ r) (λc r=>by rw [af (Mi c b r)];exact r) λc xs r=>by rw [af (QJ c xs r)];exact r
   rcases hc with rfl|hc
   ·exact hbe
   ·rintro rfl
    rcases he with z|z
    ·exact Mi c b hc z
    ·rw [hc] at z;cases z;exact hb rfl
end
structure Un(fs ex:List Addr)(H H':Hp)(h h':Heap):Prop where
 keep:∀b o,h.get? b=some o->H b=none->b∉fs->b∉ex->h'.get? b=some o
 slot:∀b o,h.get? b=some o->H b=none->b∈fs->b∉ex->∃sl,h'.get? b=some {o with slots:=sl}
 free:∀b o,h.get? b=some o->H b=none->b∉ex->H' b=none
 there:∀b o,h.get? b=some o->b∉ex->∃o',h'.get? b=some o'
 ib:∀b xs,H b=some (.tup xs)->H' b=some (.tup xs)
 fQ:∀b o u,H b=some (.bK o u)->H' b=some (.bK o u)
 gP:∀b ps,H b=some (.fX ps)->∃more,H' b=some (.fX (ps++more))
section
variable{fs ex:List Addr}{H H1:Hp}{h h1 h':Heap}{a x e:Addr}{o:HO}
theorem Un.any(u:Un fs ex H H1 h h1){b:Addr}{ob:Obj}(q:h.get? b=some ob)(n:H b=none)(hx:b∉ex):∃sl,h1.get? b=some {ob with slots:=sl}:=by
 by_cases hb:b∈fs
 ·exact u.slot b ob q n hb hx
 ·exact⟨ob.slots,u.keep b ob q n hb hx⟩
theorem Un.kept(k:∀b u,h.get? b=some u->h'.get? b=some u):Un fs ex H H h h':=
 ⟨λb ob q _ _ _=>k b ob q,λb ob q _ _ _=>⟨ob.slots,k b ob q⟩,λ_ _ _ n _=>n,λb ob q _=>⟨ob,k b ob q⟩,λ_ _ q=>q,λ_ _ _ q=>q,λ_ ps q=>⟨#[],by rw [q];simp⟩⟩
theorem Un.refl:Un fs ex H H h h:=Un.kept λ_ _ q=>q
theorem Un.laid(k:∀b u,h.get? b=some u->h'.get? b=some u)(hp:h.objs.size<=a)(hn:H a=none):Un fs ex H (upd H a o) h h' where
 keep:=λb u q _ _ _=>k b u q
 slot:=λb u q _ _ _=>⟨u.slots,k b u q⟩
 free:=λb u q n _=>by rw [af (zzb (zzW (zzO q) hp))];exact n
 there:=λb u q _=>⟨u,k b u q⟩
 ib:=λb xs q=>by rw [af (dB q hn)];exact q
 fQ:=λb u xs q=>by rw [af (dB q hn)];exact q
 gP:=λb ps q=>⟨#[],by rw [af (dB q hn),q];simp⟩
theorem Un.write(mu:Nv (H x))(he:e=x\/H e=some (.own x))(k:∀b u,b≠e->h.get? b=some u->h'.get? b=some u)(LJ:∃u,h'.get? e=some u):Un fs ex H (upd H x o) h h':=by
 have hx:∀b,H b=none->b≠x:=λb n z=>by subst z;rw [n] at mu;exact mu
 have hb:∀b,H b=none->b≠e:=λb n z=>by
  subst z;rcases he with r|r
  ·exact hx b n r
  ·rw [n] at r;cases r
 have hm:∀b u,H b=some u->¬Nv (some u)->b≠x:=λb u q nm z=>by subst z;rw [q] at mu;exact nm mu
 refine⟨λb u q n _ _=>k b u (hb b n) q,λb u q n _ _=>⟨u.slots,k b u (hb b n) q⟩,λb u q n _=>by rw [af (hx b n)];exact n,λb u q _=>?_,
  λb xs q=>by rw [af (hm b _ q λz=>z)];exact q,λb u xs q=>by rw [af (hm b _ q λz=>z)];exact q,λb ps q=>⟨#[],by rw [af (hm b _ q λz=>z),q];simp⟩⟩
 by_cases hbe:b=e
 ·subst hbe;exact LJ
 ·exact⟨u,k b u hbe q⟩
end
def O8(h:Heap)(H:Hp):List Addr:=(List.range h.objs.size).filter λa=>(H a).isSome
def pB(h:Heap)(H:Hp):Heap:=PySem.W.hideAll h (O8 h H)
theorem yO(h:Heap)(H:Hp):(pB h H).objs.size=h.objs.size:=PySem.W.hideAll_size _ _
theorem BM{h:Heap}{H:Hp}{b:Addr}{o:Obj}(e:h.get? b=some o)(n:H b=none):(pB h H).get? b=some o:=
 PySem.W.hideAll_get _ e λhm=>by
  have q:(H b).isSome=true:=(List.mem_filter.mp hm).2
  rw [n] at q;simp at q
theorem DK{h:Heap}{H:Hp}{b:Addr}{o:Obj}(e:(pB h H).get? b=some o):h.get? b=some o/\H b=none:=by
 have e':h.get? b=some o:=PySem.W.of_hideAll (O8 h H) e
 refine⟨e',?_⟩;cases q:H b with
 |none=>rfl
 |some x=>
  have hm:b∈O8 h H:=List.mem_filter.mpr ⟨List.mem_range.mpr (zzO e'),by simp [q]⟩
  have z:(pB h H).get? b=none:=PySem.W.hideAll_none (O8 h H) hm
  rw [z] at e;cases e
def Dm(g h:Heap)(L:Addr):List (Addr×Obj):=(List.range h.objs.size).filterMap λa=>if a=L\/(g.get? a).isSome=true then none else(h.get? a).map λo=>(a,o)
def rest(g h:Heap)(L d:Addr):List (Addr×Obj):=(Dm g h L).filter λp=>decide (p.1≠d)
structure Mod(K:PySem.W.Frag)(mg:Str->Option Value)(base:Heap):Prop where
 M0:K.In base
 glob:base.Ns mainGlobals mg
 blt:∃mb,base.Ns builtinsNs mb/\∀x:Str,x≠"__name__"->mb x=bootBuiltins x
 nolimit:base.NoLimit
structure Cx where
 prog:Program
 w:World
 K:PySem.W.Frag
 mg:Str->Option Value
 base:Heap
 A:Around
 N:List Str
 s₀:Shared
 H₀:Hp
 env:Env
 outer:List Env
 stack:List Env
 ex:List Addr
 fn:Str->Bool
 calm:Bool
 pn:List (Addr×Obj)
 xe:Value->Shared->Prop
def eY(l:List Env):List Addr:=l.filterMap (·.frame)
abbrev Cx.fs(X:Cx):List Addr:=eY X.outer
def NA(sc:Scope)(x:Str):Prop:=sc.names.lookup x=some .local\/sc.names.lookup x=some .cell\/sc.names.lookup x=some .free
def Loc(sc:Scope)(x:Str):Prop:=sc.names.lookup x=some .local\/sc.names.lookup x=some .cell
def Look(env:Env)(h:Heap)(m:Str->Option Value)(x:Str)(u:Value):Prop:=
 (env.kindOf x=some .local/\m x=some u)\/((env.kindOf x=some .cell\/env.kindOf x=some .free)/\∃c,env.cells.lookup x=some c/\h.IsCell c (some u))
structure Cx.Ok(X:Cx):Prop where
 mod:Mod X.K X.mg X.base
 kind:X.env.scope.kind=.function
 glob:X.env.globals=mainGlobals
 blt:X.env.builtins=builtinsNs
 above:X.s₀.heap.objs.size<=X.env.locals
 inj:∀x y c,X.env.cells.lookup x=some c->X.env.cells.lookup y=some c->x=y
 has:∀x,(X.env.kindOf x=some .cell\/X.env.kindOf x=some .free)->∃c,X.env.cells.lookup x=some c
 LX:∀x c,X.fn x=true->X.env.cells.lookup x=some c->X.s₀.heap.objs.size<=c
 hd:X.calm=true->X.A.handled=none
 frames:X.A.frames=some X.stack
 Mu:X.stack=X.outer\/(X.stack=X.env::X.outer/\X.env.frame=some X.env.locals)
 exf:∀b∈X.ex,b≠X.env.locals/\∀x c,X.env.cells.lookup x=some c->c≠b
 bs:∀b o,X.base.get? b=some o->X.s₀.heap.get? b=some o/\X.H₀ b=none
 xU:X.base.objs.size<=X.s₀.heap.objs.size
 D8:∀b o,X.base.get? b=some o->b∉X.ex
 Jf:∀b∈X.ex,b∉X.fs
 gO:X.s₀.heap.FunFrames X.base X.outer
 yn:∀b∈X.fs,X.H₀ b=none
structure Inv(X:Cx)(ae:List (Addr×Obj))(σ:List (Option V))(H:Hp)(s:Shared):Prop where
 ok:X.Ok
 os:s.os=X.s₀.os
 bare:AllBare s.gens
 base:Un X.fs X.ex X.H₀ H X.s₀.heap s.heap
 loc:∃m,s.heap.Ns X.env.locals m/\∀(i:Nat) (x:Str) (v:V),X.N[i]?=some x->σ[i]?=some (some v)->NA X.env.scope x->∃u,RelV v u/\Look X.env s.heap m x u
 cell:∀x c,X.env.cells.lookup x=some c->∃v,s.heap.IsCell c v
 free:H X.env.locals=none
 iq:∀x c,X.env.cells.lookup x=some c->H c=none
 pin:∀p∈X.pn++ae,s.heap.get? p.1=some p.2/\H p.1=none/\p.1≠X.env.locals/\p.1∉X.fs/\∀v,p.2.data≠.cell v
 aS:eJ X.prog X.w H s.heap
 len:σ.length=X.N.length
section
variable{X:Cx}{ae:List (Addr×Obj)}{σ:List (Option V)}{H H':Hp}{s:Shared}{h':Heap}
theorem Cx.Ok.Qq(ok:X.Ok){b:Addr}{o:Obj}(e:X.base.get? b=some o):b∉X.fs:=λhb=>by
 have:=(ok.gO.mem hb).1
 rw [e] at this;cases this
theorem Inv.bs(I:Inv X ae σ H s):∀b o,X.base.get? b=some o->s.heap.get? b=some o/\H b=none:=λb o e=>
 ⟨I.base.keep b o (I.ok.bs b o e).1 (I.ok.bs b o e).2 (I.ok.Qq e) (I.ok.D8 b o e),I.base.free b o (I.ok.bs b o e).1 (I.ok.bs b o e).2 (I.ok.D8 b o e)⟩
theorem Inv.bk(I:Inv X ae σ H s):∀b o,X.base.get? b=some o->s.heap.get? b=some o:=λb o e=>(I.bs b o e).1
theorem Inv.mod(I:Inv X ae σ H s):Mod X.K X.mg X.base:=I.ok.mod
theorem Inv.sI(I:Inv X ae σ H s):X.K.In s.heap:=I.ok.mod.M0.keeps I.bk
theorem Inv.fr(I:Inv X ae σ H s):∃m,Fr X.base X.env.locals s.heap m:=
 let⟨m,hn,_⟩:=I.loc
 ⟨m,hn,I.bk,zzU I.ok.xU I.ok.above⟩
theorem Inv.lt(I:Inv X ae σ H s):X.env.locals<s.heap.objs.size:=let⟨_,hn,_⟩:=I.loc;hn.lt
theorem Inv.sz(I:Inv X ae σ H s):X.s₀.heap.objs.size<=s.heap.objs.size:=zzU I.ok.above (Nat.le_of_lt I.lt)
theorem Inv.PB(I:Inv X ae σ H s){a:Addr}(h:s.heap.objs.size<=a):a∉X.fs:=λhb=>by
 obtain⟨_,o,ho,_⟩:=I.ok.gO.mem hb
 exact absurd (zzW (zzO ho) (zzU I.sz h)) (Nat.lt_irrefl _)
theorem Inv.Ef(I:Inv X ae σ H s):∀x c,X.env.cells.lookup x=some c->c≠X.env.locals:=λx c e z=>by
 obtain⟨v,o,ho,hd⟩:=I.cell x c e
 obtain⟨m,⟨o',es,ep,iG,Oz,_⟩,_⟩:=I.loc
 rw [z,iG] at ho;cases ho;rw [Oz] at hd;cases hd
theorem Inv.gO(I:Inv X ae σ H s):s.heap.FunFrames X.base X.outer:=by
 have all:∀(l:List Env),(∀b∈eY l,b∈X.fs)->X.s₀.heap.FunFrames X.base l->s.heap.FunFrames X.base l:=by
  intro l
  induction l with
  |nil=>intro _ _;trivial
  |cons env r ih=>
   intro hs hl;obtain⟨hk,⟨L,o,hf,hn,ho,hd⟩,hr⟩:=hl
   have hL:L∈X.fs:=hs L (by unfold eY;rw [List.filterMap_cons,hf];exact zzP)
   obtain⟨sl,e⟩:=I.base.slot L o ho (I.ok.yn L hL) hL λz=>I.ok.Jf L z hL
   exact⟨hk,⟨L,_,hf,hn,e,hd⟩,ih (λb hb=>hs b (by unfold eY;rw [List.filterMap_cons,hf];exact zzI _ hb)) hr⟩
 exact all X.outer (λ_ hb=>hb) I.ok.gO
theorem Inv.stack(I:Inv X ae σ H s):s.heap.FunFrames X.base X.stack:=by
 rcases I.ok.Mu with e|⟨e,hf⟩
 ·rw [e];exact I.gO
 ·rw [e];obtain⟨m,hn,_⟩:=I.loc
  refine .cons (by rw [I.ok.kind];decide) hf hn ?_ I.gO;exact Heap.get?_none_of_le (zzU I.ok.xU I.ok.above)
theorem Inv.iA(I:Inv X ae σ H s):∀b∈eY X.stack,b∈X.env.locals::X.fs:=λb hb=>by
 rcases I.ok.Mu with e|⟨e,hf⟩
 ·rw [e] at hb;exact zzI _ hb
 ·rw [e] at hb;unfold eY at hb;rw [List.filterMap_cons,hf] at hb;exact hb
theorem Inv.lE(I:Inv X ae σ H s):∀b∈eY X.stack,H b=none:=λb hb=>by
 rcases List.mem_cons.mp (I.iA b hb) with e|hb
 ·rw [e];exact I.free
 ·obtain⟨_,o,ho,_⟩:=I.ok.gO.mem hb
  exact I.base.free b o ho (I.ok.yn b hb) λz=>I.ok.Jf b z hb
theorem Inv.step{g':Array GenState}{t':Nat}{d':Drawn}{ch:List Addr}(I:Inv X ae σ H s)
 (wo:∀b∈ch,(b∈X.ex\/X.s₀.heap.objs.size<=b)/\b≠X.env.locals/\(∀x c,X.env.cells.lookup x=some c->c≠b)/\∀p∈X.pn++ae,p.1≠b)
 (keep:∀b o,b≠X.env.locals->b∉X.fs->b∉ch->s.heap.get? b=some o->H b=none->h'.get? b=some o)
 (slot:∀b o,b≠X.env.locals->b∈X.fs->b∉ch->s.heap.get? b=some o->H b=none->∃sl,h'.get? b=some {o with slots:=sl}) (free:∀b o,b∉ch->s.heap.get? b=some o->H b=none->H' b=none)
 (there:∀b o,b∉ch->s.heap.get? b=some o->∃o',h'.get? b=some o')
 (ib:∀b xs,H b=some (.tup xs)->H' b=some (.tup xs)) (fQ:∀b o u,H b=some (.bK o u)->H' b=some (.bK o u)) (gP:∀b ps,H b=some (.fX ps)->∃more,H' b=some (.fX (ps++more)))
 (ns:∀m,s.heap.Ns X.env.locals m->h'.Ns X.env.locals m) (aS:eJ X.prog X.w H' h') (hg:AllBare g'):
 Inv X ae σ H' {s with heap:=h',gens:=g',drawn:=d',toks:=t'}:=by
 have Q5:∀b o,X.s₀.heap.get? b=some o->b≠X.env.locals:=λb o e=>zzb (zzW (zzO e) I.ok.above)
 have Il:∀b o,X.s₀.heap.get? b=some o->b∉X.ex->b∉ch:=λb o e hx hb=>by
  rcases(wo b hb).1 with z|z
  ·exact hx z
  ·exact absurd (zzW (zzO e) z) (Nat.lt_irrefl _)
 have cellK:∀x c,X.env.cells.lookup x=some c->∀v,s.heap.IsCell c v->h'.IsCell c v:=λx c e v ⟨o,ho,hd⟩=>by
  have M5:c∉ch:=λz=>(wo c z).2.2.1 x c e rfl
  by_cases hc:c∈X.fs
  ·obtain⟨sl,q⟩:=slot c o (I.Ef x c e) hc M5 ho (I.iq x c e)
   exact⟨_,q,hd⟩
  ·exact⟨o,keep c o (I.Ef x c e) hc M5 ho (I.iq x c e),hd⟩
 refine⟨I.ok,I.os,hg,⟨λb o e n hb hx=>?_,λb o e n hb hx=>?_,λb o e n hx=>?_,λb o e hx=>?_,λb xs e=>ib b xs (I.base.ib b xs e),λb o xs e=>fQ b o xs (I.base.fQ b o xs e),λb ps e=>?_⟩,?_,λx c e=>?_,?_,λx c e=>?_,λp hp=>?_,aS,I.len⟩
 ·exact keep b o (Q5 b o e) hb (Il b o e hx) (I.base.keep b o e n hb hx) (I.base.free b o e n hx)
 ·obtain⟨sl,e1⟩:=I.base.slot b o e n hb hx
  obtain⟨sl',e2⟩:=slot b _ (Q5 b o e) hb (Il b o e hx) e1 (I.base.free b o e n hx)
  exact⟨sl',e2⟩
 ·obtain⟨o',e1⟩:=I.base.there b o e hx
  exact free b o' (Il b o e hx) e1 (I.base.free b o e n hx)
 ·obtain⟨o',e1⟩:=I.base.there b o e hx
  exact there b o' (Il b o e hx) e1
 ·obtain⟨m1,e1⟩:=I.base.gP b ps e
  obtain⟨m2,e2⟩:=gP b _ e1
  exact⟨m1++m2,by rw [e2,Array.append_assoc]⟩
 ·obtain⟨m,hn,hl⟩:=I.loc
  refine⟨m,ns m hn,λi x v e1 e2 e3=>?_⟩
  obtain⟨u,r,l⟩:=hl i x v e1 e2 e3
  refine⟨u,r,?_⟩;rcases l with l|⟨k,c,e,z⟩
  ·exact .inl l
  ·exact .inr ⟨k,c,e,cellK x c e _ z⟩
 ·obtain⟨v,z⟩:=I.cell x c e
  exact⟨v,cellK x c e v z⟩
 ·obtain⟨m,⟨o,_,_,ho,_⟩,_⟩:=I.loc
  exact free _ o (λz=>(wo _ z).2.1 rfl) ho I.free
 ·obtain⟨v,o,ho,hd⟩:=I.cell x c e
  exact free c o (λz=>(wo c z).2.2.1 x c e rfl) ho (I.iq x c e)
 ·obtain⟨e,n,ne,nf,d⟩:=I.pin p hp
  have M5:p.1∉ch:=λz=>(wo p.1 z).2.2.2 p hp rfl
  exact⟨keep p.1 p.2 ne nf M5 e n,free p.1 p.2 M5 e n,ne,nf,d⟩
theorem Inv.un{t':Nat}(I:Inv X ae σ H s)(u:Un X.fs [] H H' s.heap h')(aS:eJ X.prog X.w H' h'):Inv X ae σ H' {s with heap:=h',toks:=t'}:=by
 obtain⟨m,⟨o,es,ep,ho,r⟩,_⟩:=id I.loc
 obtain⟨sl,hL⟩:=u.any ho I.free (by simp)
 exact I.step (g':=s.gens) (d':=s.drawn) (ch:=[]) (λ_ z=>nomatch z) (λb o _ hb _ e n=>u.keep b o e n hb (by simp)) (λb o _ hb _ e n=>u.slot b o e n hb (by simp)) (λb o _ e n=>u.free b o e n (by simp)) (λb o _ e=>u.there b o e (by simp)) u.ib u.fQ u.gP (λm' hm=>by
  obtain⟨o',es',ep',iG,r'⟩:=hm
  rw [ho] at iG;cases iG;exact⟨_,es',ep',hL,r'⟩) aS I.bare
theorem Inv.call{g':Array GenState}{t':Nat}{d':Drawn}{ch:List Addr}(I:Inv X ae σ H s)(u:Un (eY X.stack) ch H H' s.heap h')(aS:eJ X.prog X.w H' h')(hg:AllBare g')
 (wo:∀b∈ch,(b∈X.ex\/X.s₀.heap.objs.size<=b)/\b≠X.env.locals/\(∀x c,X.env.cells.lookup x=some c->c≠b)/\∀p∈X.pn++ae,p.1≠b):
 Inv X ae σ H' {s with heap:=h',gens:=g',drawn:=d',toks:=t'}:=by
 obtain⟨m,⟨o,es,ep,ho,r⟩,_⟩:=id I.loc
 obtain⟨sl,hL⟩:=u.any ho I.free λz=>(wo _ z).2.1 rfl
 exact I.step (ch:=ch) wo (λb o hL hb hc e n=>u.keep b o e n (λz=>(List.mem_cons.mp (I.iA b z)).elim hL hb) hc) (λb o _ _ hc e n=>u.any e n hc) (λb o hc e n=>u.free b o e n hc) (λb o hc e=>u.there b o e hc) u.ib u.fQ u.gP (λm' hm=>by
  obtain⟨o',es',ep',iG,r'⟩:=hm
  rw [ho] at iG;cases iG;exact⟨_,es',ep',hL,r'⟩) aS hg
theorem Inv.turned{t':Nat}{it:Addr}(I:Inv X ae σ H s)(k:∀b o,b≠it->s.heap.get? b=some o->h'.get? b=some o)(hn:H it=none)(hL:it≠X.env.locals)
 (h1:it∈X.ex\/X.s₀.heap.objs.size<=it) (h2:∀x c,X.env.cells.lookup x=some c->c≠it) (h3:∀p∈X.pn++ae,p.1≠it):Inv X ae σ H {s with heap:=h',toks:=t'}:=by
 have Tn:∀b u,H b=some u->b≠it:=λb u e z=>by rw [z,hn] at e;cases e
 refine I.step (g':=s.gens) (d':=s.drawn) (ch:=[it]) (λb hb=>?_) (λb o _ _ hc e _=>k b o (λz=>hc (by simp [z])) e) (λb o _ _ hc e _=>⟨o.slots,k b o (λz=>hc (by simp [z])) e⟩) (λ_ _ _ _ n=>n)
  (λb o hc e=>⟨o,k b o (λz=>hc (by simp [z])) e⟩) (λ_ _ e=>e) (λ_ _ _ e=>e) (λb ps e=>⟨#[],by rw [e];simp⟩) (λm hm=>?_) (λb u e=>?_) I.bare
 ·have e:b=it:=by simpa using hb
  subst e;exact⟨h1,hL,h2,h3⟩
 ·obtain⟨o,es,ep,ho,r⟩:=hm
  exact⟨o,es,ep,k _ o (Ne.symm hL) ho,r⟩
 ·refine(I.aS b u e).ei (λc v hc q=>k c v ?_ q) (λ_ q=>q) λ_ _ q=>q
  rcases hc with z|z
  ·rw [z];exact Tn b u e
  ·exact Tn c _ z
theorem Inv.tok(I:Inv X ae σ H s)(t:Nat):Inv X ae σ H {s with toks:=t}:=I.un (h':=s.heap) (t':=t) Un.refl I.aS
theorem Inv.kept{t':Nat}(I:Inv X ae σ H s)(k:∀b u,s.heap.get? b=some u->h'.get? b=some u):Inv X ae σ H {s with heap:=h',toks:=t'}:=I.un (Un.kept k) (I.aS.kept k)
theorem Inv.laid{a:Addr}{o:HO}{t':Nat}(I:Inv X ae σ H s)(k:∀b u,s.heap.get? b=some u->h'.get? b=some u)(hp:s.heap.objs.size<=a)(new:bV X.prog X.w (upd H a o) h' a o):
 Inv X ae σ (upd H a o) {s with heap:=h',toks:=t'}:=I.un (Un.laid k hp (I.aS.fresh hp)) (I.aS.laid k hp new)
theorem Inv.write{x e:Addr}{o:HO}{t':Nat}(I:Inv X ae σ H s)(mu:Nv (H x))(he:e=x\/H e=some (.own x))(k:∀b u,b≠e->s.heap.get? b=some u->h'.get? b=some u)(LJ:∃u,h'.get? e=some u)
 (new:bV X.prog X.w (upd H x o) h' x o):Inv X ae σ (upd H x o) {s with heap:=h',toks:=t'}:=I.un (Un.write mu he k LJ) (I.aS.write mu he k LJ new)
theorem Inv.gU{xt:List (Addr×Obj)}(I:Inv X ae σ H s)(h:∀p∈xt,s.heap.get? p.1=some p.2/\H p.1=none/\p.1≠X.env.locals/\p.1∉X.fs/\∀v,p.2.data≠.cell v):Inv X xt σ H s:=
 ⟨I.ok,I.os,I.bare,I.base,I.loc,I.cell,I.free,I.iq,λp hp=>(List.mem_append.mp hp).elim (λz=>I.pin p (zzc _ z)) (h p),I.aS,I.len⟩
theorem nq{N:List Str}(hN:N.Nodup){i j:Nat}{x:Str}(a:N[i]?=some x)(b:N[j]?=some x):i=j:=by
 obtain⟨h1,e1⟩:=zzH.mp a
 obtain⟨h2,e2⟩:=zzH.mp b
 exact(List.getElem_inj hN).mp (e1.trans e2.symm)
theorem kf{M:Model}{A:Around}{E:Value->Shared->Prop}{i:Nat}{x:Str}{v:V}{u:Value}{Q:Unit->Shared->Prop}(I:Inv X ae σ H s)(hN:X.N.Nodup)(hi:X.N[i]?=some x)(hx:Loc X.env.scope x)(r:RelV v u)
 (h:∀s',Inv X ae (σ.set i (some v)) H s'->(∃a,Heap.SameBut a s.heap s'.heap/\(a=X.env.locals\/X.env.cells.lookup x=some a))->Q () s') (hf:X.fn x=true\/X.env.scope.names.lookup x=some .local:=by first|exact .inl rfl|exact .inr rfl|assumption):wpAny M A (storeName X.env x u) Q E s:=by
 obtain⟨m,hn,hl⟩:=id I.loc
 have QP:(X.env.scope.kind==.class||(X.env.scope.kind==.module&&X.env.locals !=X.env.globals))=false:=by rw [I.ok.kind];rfl
 have hiσ:i<σ.length:=by rw [I.len];exact(zzH.mp hi).1
 have Ef:=I.Ef
 have tracked:∀{a:Addr} {h':Heap},(∃o,s.heap.get? a=some o/\H a=none)->Heap.SameBut a s.heap h'->eJ X.prog X.w H h':=λ{a h'} ha hs b ob e=>by
  obtain⟨_,_,hfree⟩:=ha
  refine(I.aS b ob e).ei (λc w' hc q=>(hs.2 c ?_).trans q) (λ_ q=>q) λ_ _ q=>q
  rintro rfl
  rcases hc with rfl|hc
  ·rw [hfree] at e;cases e
  ·rw [hfree] at hc;cases hc
 rcases hx with hk|hk
 ·refine wpAny_storeName_local hk hn (λh' OE hs=>?_) QP;obtain⟨oL,_,_,Ou,_⟩:=id hn
  refine h _ ⟨I.ok,I.os,I.bare,⟨λb o e n hb hx=>?_,λb o e n hb hx=>?_,I.base.free,λb o e hx=>?_,I.base.ib,I.base.fQ,I.base.gP⟩,⟨_,OE,λj y v' e1 e2 e3=>?_⟩,λy c e=>?_,I.free,I.iq,λp hp=>?_,tracked ⟨oL,Ou,I.free⟩ hs,by simpa using I.len⟩ ⟨_,hs,.inl rfl⟩
  ·exact(hs.2 b (zzb (zzW (zzO e) I.ok.above))).trans (I.base.keep b o e n hb hx)
  ·obtain⟨sl,e1⟩:=I.base.slot b o e n hb hx
   exact⟨sl,(hs.2 b (zzb (zzW (zzO e) I.ok.above))).trans e1⟩
  ·obtain⟨o',e1⟩:=I.base.there b o e hx
   exact⟨o',(hs.2 b (zzb (zzW (zzO e) I.ok.above))).trans e1⟩
  ·by_cases hj:j=i
   ·subst hj;rw [hi] at e1;cases e1;rw [List.getElem?_set_self hiσ] at e2;cases e2;exact⟨u,r,.inl ⟨hk,by simp⟩⟩
   ·rw [zzS (Ne.symm hj)] at e2;obtain⟨u',r',q⟩:=hl j y v' e1 e2 e3
    refine⟨u',r',?_⟩;rcases q with⟨k,e⟩|⟨k,c,e,z⟩
    ·refine .inl ⟨k,?_⟩;have:y≠x:=λe=>hj (nq hN e1 (e▸hi))
     simp [this,e]
    ·exact .inr ⟨k,c,e,z.sameBut hs (Ef y c e)⟩
  ·obtain⟨w',z⟩:=I.cell y c e
   exact⟨w',z.sameBut hs (Ef y c e)⟩
  ·obtain⟨e,n,ne,nf,d⟩:=I.pin p hp
   exact⟨(hs.2 p.1 ne).trans e,n,ne,nf,d⟩
 ·have kI:X.fn x=true:=by
   rcases hf with z|z
   ·exact z
   ·rw [z] at hk;cases hk
  obtain⟨c,hc⟩:=I.ok.has x (.inl hk)
  obtain⟨w',z⟩:=I.cell x c hc
  refine wpAny_storeName_cell I.ok.kind hk hc z (λh' gW hs=>?_);obtain⟨oc,hoc,hocd⟩:=id z
  refine h {s with heap:=h'} ⟨I.ok,I.os,I.bare,⟨λb o e n hb hx=>?_,λb o e n hb hx=>?_,I.base.free,λb o e hx=>?_,I.base.ib,I.base.fQ,I.base.gP⟩,⟨m,hn.sameBut hs (Ne.symm (Ef x c hc)),λj y v' e1 e2 e3=>?_⟩,λy c' e=>?_,I.free,I.iq,λp hp=>?_,tracked ⟨oc,hoc,I.iq x c hc⟩ hs,by simpa using I.len⟩ ⟨c,hs,.inr hc⟩
  ·exact(hs.2 b (zzb (zzW (zzO e) (I.ok.LX x c kI hc)))).trans (I.base.keep b o e n hb hx)
  ·obtain⟨sl,e1⟩:=I.base.slot b o e n hb hx
   exact⟨sl,(hs.2 b (zzb (zzW (zzO e) (I.ok.LX x c kI hc)))).trans e1⟩
  ·obtain⟨o',e1⟩:=I.base.there b o e hx
   exact⟨o',(hs.2 b (zzb (zzW (zzO e) (I.ok.LX x c kI hc)))).trans e1⟩
  ·by_cases hj:j=i
   ·subst hj;rw [hi] at e1;cases e1;rw [List.getElem?_set_self hiσ] at e2;cases e2;exact⟨u,r,.inr ⟨.inl hk,c,hc,gW⟩⟩
   ·rw [zzS (Ne.symm hj)] at e2;obtain⟨u',r',q⟩:=hl j y v' e1 e2 e3
    refine⟨u',r',?_⟩;rcases q with q|⟨k,c',e,z'⟩
    ·exact .inl q
    ·refine .inr ⟨k,c',e,z'.sameBut hs ?_⟩
     rintro rfl
     exact hj (nq hN e1 (I.ok.inj _ _ _ e hc▸hi))
  ·by_cases hcc:c'=c
   ·subst hcc;exact⟨_,gW⟩
   ·obtain⟨w2,z2⟩:=I.cell y c' e
    exact⟨w2,z2.sameBut hs hcc⟩
  ·obtain⟨e,n,ne,nf,d⟩:=I.pin p hp
   refine⟨(hs.2 p.1 ?_).trans e,n,ne,nf,d⟩;intro q;rw [q,hoc] at e;have q':oc=p.2:=Option.some.inj e
   exact d w' (by rw [<-q'];exact hocd)
theorem sk{M:Model}{A:Around}{E:Value->Shared->Prop}{i:Nat}{x:Str}{v:V}{u:Value}{Q:Unit->Shared->Prop}(I:Inv X ae σ H s)(hN:X.N.Nodup)(hi:X.N[i]?=some x)(hx:Loc X.env.scope x)(r:RelV v u)
 (h:∀s',Inv X ae (σ.set i (some v)) H s'->Q () s') (hf:X.fn x=true\/X.env.scope.names.lookup x=some .local:=by first|exact .inl rfl|exact .inr rfl|assumption):wpAny M A (storeName X.env x u) Q E s:=
 kf I hN hi hx r (λs' I' _=>h s' I') hf
theorem Inv.Ol{s':Shared}{ch:List Addr}(I:Inv X ae σ H s)(ho:s'.os=s.os)(u:Un (eY X.stack) ch H H' s.heap s'.heap)(aS:eJ X.prog X.w H' s'.heap)(hg:AllBare s'.gens)
 (wo:∀b∈ch,(b∈X.ex\/X.s₀.heap.objs.size<=b)/\b≠X.env.locals/\(∀x c,X.env.cells.lookup x=some c->c≠b)/\∀p∈X.pn++ae,p.1≠b):Inv X ae σ H' s':=by
 obtain⟨h',g',d',t',o'⟩:=s'
 have e:o'=s.os:=ho
 subst e;exact I.call (g':=g') (t':=t') (d':=d') u aS hg wo
end
abbrev XK:=Value->Option Addr->Hp->Prop
abbrev St:=List (Option V)
abbrev VK:=V->Hp->Prop
abbrev TE:=St->Hp->VK->Prop
abbrev TT:=St->Hp->(Bool->Hp->Prop)->Prop
abbrev TA:=St->Hp->(List V->Hp->Prop)->Prop
structure Ends where
 nx:St->Hp->Prop
 rt:VK
 bk:St->Hp->Prop:=λ_ _=>False
 ct:St->Hp->Prop:=λ_ _=>False
abbrev TS:=Ends->St->Hp->Prop
def EP(X:Cx)(ae:List (Addr×Obj))(σ:St)(Q:VK)(u:Value)(s':Shared):Prop:=∃v H',Inv X ae σ H' s'/\RelV v u/\Q v H'
def TP(X:Cx)(ae:List (Addr×Obj))(σ:St)(Q:Bool->Hp->Prop)(b:Bool)(s':Shared):Prop:=∃H',Inv X ae σ H' s'/\Q b H'
def AP(X:Cx)(ae:List (Addr×Obj))(σ:St)(Q:List V->Hp->Prop)(us:List Value)(s':Shared):Prop:=∃vs H',Inv X ae σ H' s'/\Vals vs us/\Q vs H'
def SP(X:Cx)(ae:List (Addr×Obj))(D:Ends)(f:Flow)(s':Shared):Prop:=
 match f with
 |.next=>∃σ' H',Inv X ae σ' H' s'/\D.nx σ' H'
 |.brk=>∃σ' H',Inv X ae σ' H' s'/\D.bk σ' H'
 |.cont=>∃σ' H',Inv X ae σ' H' s'/\D.ct σ' H'
 |.ret u=>∃v σ' H',Inv X ae σ' H' s'/\RelV v u/\D.rt v H'
def PE(X:Cx)(e:Expr)(t:TE):Prop:=
 ∀(ae:List (Addr×Obj)) (s:Shared) (σ:St) (H:Hp) (Q:VK),Inv X ae σ H s->t σ H Q->wpAny (model X.prog X.w) X.A (eval e X.env) (EP X ae σ Q) X.xe s
def PT(X:Cx)(e:Expr)(t:TT):Prop:=
 ∀(ae:List (Addr×Obj)) (s:Shared) (σ:St) (H:Hp) (Q:Bool->Hp->Prop),Inv X ae σ H s->t σ H Q->wpAny (model X.prog X.w) X.A (isTrue e X.env (eval e X.env)) (TP X ae σ Q) X.xe s
def PW(X:Cx)(e:Expr)(t:TT):Prop:=
 ∀(whole:Sem Value) (ae:List (Addr×Obj)) (s:Shared) (σ:St) (H:Hp) (Q:Bool->Hp->Prop),Inv X ae σ H s->t σ H Q->wpAny (model X.prog X.w) X.A (isTrue e X.env whole) (TP X ae σ Q) X.xe s
theorem PW.pt{X:Cx}{e:Expr}{t:TT}(h:PW X e t):PT X e t:=h _
def PA(X:Cx)(es:List Expr)(t:TA):Prop:=
 ∀(pos:Pos) (ae:List (Addr×Obj)) (s:Shared) (σ:St) (H:Hp) (Q:List V->Hp->Prop),Inv X ae σ H s->t σ H Q->wpAny (model X.prog X.w) X.A (spliced (backTo pos (starEach es X.env))) (AP X ae σ Q) X.xe s
def PS(X:Cx)(st:Stmt)(t:TS):Prop:=
 ∀(ae:List (Addr×Obj)) (s:Shared) (σ:St) (H:Hp) (D:Ends),Inv X ae σ H s->t D σ H->wpAny (model X.prog X.w) X.A (exec st X.env) (SP X ae D) X.xe s
def wx(X:Cx)(st:List Stmt)(t:TS):Prop:=
 ∀(ae:List (Addr×Obj)) (s:Shared) (σ:St) (H:Hp) (D:Ends),Inv X ae σ H s->t D σ H->wpAny (model X.prog X.w) X.A (execs st X.env) (SP X ae D) X.xe s
theorem bX{α:Type}{t:Sem α}{Q Q':α->Shared->Prop}{M:Model}{A:Around}{E:Value->Shared->Prop}{s:Shared}(h:wpAny M A t Q E s)(hQ:∀a s,Q a s->Q' a s):wpAny M A t Q' E s:=wpAny_mono h hQ λ_ _ x=>x
section
variable{X:Cx}
theorem bin{a b:Expr}{ta tb:TE}(ha:PE X a ta)(hb:PE X b tb){ae:List (Addr×Obj)}{s:Shared}{σ:St}{H:Hp}{R:V->V->Hp->Prop}(I:Inv X ae σ H s)(h:ta σ H λx H1=>tb σ H1 λy H2=>R x y H2)
 {α:Type} {Q:α->Shared->Prop} {f:Value->Value->Sem α}
 (hf:∀v u s2 x y H2,Inv X ae σ H2 s2->RelV x v->RelV y u->R x y H2->wpAny (model X.prog X.w) X.A (f v u) Q X.xe s2):
 wpAny (model X.prog X.w) X.A (eval a X.env) (λv s₁=>wpAny (model X.prog X.w) X.A (eval b X.env) (λu s₂=>wpAny (model X.prog X.w) X.A (f v u) Q X.xe s₂) X.xe s₁) X.xe s:=by
 refine bX (ha ae s σ H _ I h) λv s1 ⟨x,H1,I1,r1,q1⟩=>?_
 refine bX (hb ae s1 σ H1 _ I1 q1) λu s2 ⟨y,H2,I2,r2,q2⟩=>?_
 exact hf v u s2 x y H2 I2 r1 r2 q2
def Az(i:Nat):TE:=λσ H Q=>∃v,σ[i]?=some (some v)/\Q v H
def tC(v:V):TE:=λ_ H Q=>Q v H
theorem fK{i:Nat}{x:Str}{pos:Pos}(hN:X.N[i]?=some x)(hv:NA X.env.scope x)(hd:(x==("__debug__":Str))=false:=by decide)(uN:(x==("__classdict__":Str))=false:=by decide):PE X (.Name x pos) (Az i):=by
 intro ae s σ H Q I h;obtain⟨v,e,h⟩:=h
 obtain⟨m,hn,hl⟩:=I.loc
 obtain⟨u,r,l⟩:=hl i x v hN e hv
 have fin:EP X ae σ Q u s:=⟨v,H,I,r,h⟩
 rcases l with⟨hk,hm⟩|⟨hk,c,hc,eo⟩
 ·exact wpAny_Name (wpAny_loadName_local I.ok.kind hk hn hm fin) hd
 ·rcases hk with hk|hk
  ·exact wpAny_Name (wpAny_loadName_cell I.ok.kind hk hc eo fin) hd
  ·exact wpAny_Name (wpAny_loadName_free I.ok.kind hk hc eo fin uN) hd
theorem uS{i j pos}:PE X (.Constant (.int i) j pos) (tC (.int i)):=λ_ _ _ H _ I h=>wpAny_Constant_int ⟨.int i,H,I.tok _,⟨_,rfl⟩,h⟩
theorem M8{b j pos}:PE X (.Constant (.bool b) j pos) (tC (.bl b)):=λ_ _ _ H _ I h=>Constant_bool ⟨.bl b,H,I,rfl,h⟩
theorem HY{j pos}:PE X (.Constant .none j pos) (tC .az):=λ_ _ _ H _ I h=>Constant_none ⟨.az,H,I,rfl,h⟩
theorem B7{x j pos}:PE X (.Constant (.str x) j pos) (tC (.str x)):=λ_ _ _ H _ I h=>Calls.Constant_str ⟨.str x,H,I.tok _,⟨_,rfl⟩,h⟩
def Gl(X:Cx)(x:Str):Prop:=X.env.kindOf x=some .globalImplicit
theorem gX{E:Value->Shared->Prop}{ae:List (Addr×Obj)}{s:Shared}{σ:St}{H:Hp}{x:Str}{u:Value}{pos:Pos}{Q:Value->Shared->Prop}(I:Inv X ae σ H s)(hg:Gl X x)(hm:X.mg x=some u)(h:Q u s)
 (hd:(x==("__debug__":Str))=false:=by decide):wpAny (model X.prog X.w) X.A (eval (.Name x pos) X.env) Q E s:=
 Calls.Name_function_global I.ok.kind hg (Calls.loadGlobal_global (by rw [I.ok.glob];exact I.mod.glob.keeps I.bk) hm h) hd
theorem fb{E:Value->Shared->Prop}{ae:List (Addr×Obj)}{s:Shared}{σ:St}{H:Hp}{x:Str}{u:Value}{pos:Pos}{Q:Value->Shared->Prop}(I:Inv X ae σ H s)(hg:Gl X x)(hm:X.mg x=none)(hv:bootBuiltins x=some u)(h:Q u s)
 (hn:x≠"__name__":=by decide) (hd:(x==("__debug__":Str))=false:=by decide):wpAny (model X.prog X.w) X.A (eval (.Name x pos) X.env) Q E s:=by
 obtain⟨mb,h1,h2⟩:=I.mod.blt
 exact Calls.Name_function_global I.ok.kind hg (Calls.loadGlobal_builtin (by rw [I.ok.glob];exact I.mod.glob.keeps I.bk) hm (by rw [I.ok.blt];exact h1.keeps I.bk) ((h2 x hn).trans hv) h) hd
theorem Fg{x:Str}{v:V}{u:Value}{pos:Pos}(hg:Gl X x)(hm:X.mg x=some u)(r:RelV v u)(hd:(x==("__debug__":Str))=false:=by decide):PE X (.Name x pos) (tC v):=
 λ_ _ _ H _ I h=>gX I hg hm ⟨v,H,I,r,h⟩ hd
theorem FE{x:Str}{v:V}{u:Value}{pos:Pos}(hg:Gl X x)(hm:X.mg x=none)(hv:bootBuiltins x=some u)(r:RelV v u)(hn:x≠"__name__":=by decide)(hd:(x==("__debug__":Str))=false:=by decide):PE X (.Name x pos) (tC v):=
 λ_ _ _ H _ I h=>fb I hg hm hv ⟨v,H,I,r,h⟩ hn hd
variable{a b:Expr}{ta tb:TE}{pos:Pos}
def tB(t:TE):TT:=λσ H Q=>t σ H λx H1=>∃c,x=.bl c/\Q c H1
theorem Iq{e:Expr}{t:TE}(h:PE X e t)(he:∀whole,isTrue e X.env whole=(do let v<-whole;standAt e.pos;holding [v] (truthy v)):=by intro _;rfl):PT X e (tB t):=by
 intro ae s σ H Q I hw;refine isTrue_plain (bX (h ae s σ H _ I hw) λv s1 ⟨x,H1,I1,r1,q1⟩=>?_) (he _)
 obtain⟨d,rfl,q⟩:=q1
 cases r1;exact wpAny_truthy_bool ⟨H1,I1,q⟩
variable{tA OQ:TT}{rest:List Expr}
def P2(t u:TT):TT:=λσ H Q=>t σ H λc H1=>if c=true then u σ H1 Q else Q false H1
def UI(t u:TT):TT:=λσ H Q=>t σ H λc H1=>if c=true then Q true H1 else u σ H1 Q
def QK(t:TT):TT:=λσ H Q=>t σ H λc H1=>Q (!c) H1
theorem pw_and1(ha:PT X a tA):PW X (.BoolOp .And [a] pos) tA:=by
 intro wh ae s σ H Q I h;refine isTrue_and (bX (ha ae s σ H Q I h) λc s1 e=>?_)
 cases c with
 |true=>exact isTrue_and_nil e
 |false=>exact e
theorem pw_or1(ha:PT X a tA):PW X (.BoolOp .Or [a] pos) tA:=by
 intro wh ae s σ H Q I h;refine isTrue_or (bX (ha ae s σ H Q I h) λc s1 e=>?_)
 cases c with
 |false=>exact isTrue_or_nil e
 |true=>exact e
theorem pw_and(ha:PT X a tA)(hb:PW X (.BoolOp .And (b::rest) pos) OQ):PW X (.BoolOp .And (a::b::rest) pos) (P2 tA OQ):=by
 intro wh ae s σ H Q I h;refine isTrue_and (bX (ha ae s σ H _ I h) λc s1 ⟨H1,I1,q1⟩=>?_)
 cases c with
 |true=>exact hb wh ae s1 σ H1 Q I1 q1
 |false=>exact⟨H1,I1,q1⟩
theorem pw_or(ha:PT X a tA)(hb:PW X (.BoolOp .Or (b::rest) pos) OQ):PW X (.BoolOp .Or (a::b::rest) pos) (UI tA OQ):=by
 intro wh ae s σ H Q I h;refine isTrue_or (bX (ha ae s σ H _ I h) λc s1 ⟨H1,I1,q1⟩=>?_)
 cases c with
 |true=>exact⟨H1,I1,q1⟩
 |false=>exact hb wh ae s1 σ H1 Q I1 q1
theorem Kq(ha:PT X a tA):PT X (.UnaryOp .Not a pos) (QK tA):=by
 intro ae s σ H Q I h;exact isTrue_not (ha ae s σ H (λc H1=>Q (!c) H1) I h)
def Nf(ta tb:TE):TE:=λσ H Q=>ta σ H λx H1=>∃c,x=.bl c/\if c=true then tb σ H1 Q else Q (.bl false) H1
def P7(ta tb:TE):TE:=λσ H Q=>ta σ H λx H1=>∃c,x=.bl c/\if c=true then Q (.bl true) H1 else tb σ H1 Q
def Mf(ta:TE):TE:=λσ H Q=>ta σ H λx H1=>∃c,x=.bl c/\Q (.bl (!c)) H1
theorem Cq{op}{t:TE}(h:PE X a t):PE X (.BoolOp op [a] pos) t:=λae s σ H Q I hw=>BoolOp_one (h ae s σ H Q I hw)
theorem JG(ha:PE X a ta)(hb:PE X (.BoolOp .And (b::rest) pos) tb):PE X (.BoolOp .And (a::b::rest) pos) (Nf ta tb):=by
 intro ae s σ H Q I h;refine BoolOp_and (bX (ha ae s σ H _ I h) λv s1 ⟨x,H1,I1,r1,q1⟩=>?_)
 obtain⟨c,rfl,q1⟩:=q1
 cases r1;refine wpAny_truthy_bool ?_;cases c with
 |true=>exact hb ae s1 σ H1 Q I1 q1
 |false=>exact⟨.bl false,H1,I1,rfl,q1⟩
theorem Mt(ha:PE X a ta)(hb:PE X (.BoolOp .Or (b::rest) pos) tb):PE X (.BoolOp .Or (a::b::rest) pos) (P7 ta tb):=by
 intro ae s σ H Q I h;refine BoolOp_or (bX (ha ae s σ H _ I h) λv s1 ⟨x,H1,I1,r1,q1⟩=>?_)
 obtain⟨c,rfl,q1⟩:=q1
 cases r1;refine wpAny_truthy_bool ?_;cases c with
 |false=>exact hb ae s1 σ H1 Q I1 q1
 |true=>exact⟨.bl true,H1,I1,rfl,q1⟩
theorem Ln(ha:PE X a ta):PE X (.UnaryOp .Not a pos) (Mf ta):=by
 intro ae s σ H Q I h;refine UnaryOp_ (bX (ha ae s σ H _ I h) λv s1 ⟨x,H1,I1,r1,q1⟩=>?_)
 obtain⟨c,rfl,q1⟩:=q1
 cases r1;exact not_of (wpAny_truthy_bool ⟨.bl (!c),H1,I1,rfl,q1⟩)
def UT(t:TT)(ta tb:TE):TE:=λσ H Q=>t σ H λc H1=>if c=true then ta σ H1 Q else tb σ H1 Q
theorem zP{c:Expr}(hc:PT X c tA)(ha:PE X a ta)(hb:PE X b tb):PE X (.IfExp c a b pos) (UT tA ta tb):=by
 intro ae s σ H Q I h;refine wpAny_IfExp (bX (hc ae s σ H _ I h) λd s1 ⟨H1,I1,q1⟩=>?_)
 cases d with
 |true=>exact ha ae s1 σ H1 Q I1 q1
 |false=>exact hb ae s1 σ H1 Q I1 q1
end
def eF(K:PySem.W.Frag)(H:Hp)(a:Addr)(xs:List V):Prop:=
 Rd H a (.lst xs)\/
  ∃(o:Obj) (ax:Array Value) (n:Nat),K.lookup a=some o/\o.cls=.type "list"/\o.dict=none/\o.data=.seq ax n/\ax.size<=sizeLine/\Vals xs ax.toList
def eP(K:PySem.W.Frag)(H:Hp)(a:Addr)(xs:List V):Prop:=
 Rd H a (.tup xs)\/
  ∃(o:Obj) (ax:Array Value) (n:Nat),K.lookup a=some o/\o.cls=.type "tuple"/\o.data=.seq ax n/\ax.size<=sizeLine/\Vals xs ax.toList
noncomputable def P6:Value->Option V
 |.none=>some .az
 |.bool b=>some (.bl b)
 |.int i _=>some (.int i)
 |.str x _=>some (.str x)
 |.bytes b _=>some (.Qm b)
 |.float b _=>some (.Pz b)
 |.ref a=>some (.ref a)
 |.type n=>some (.ty n)
 |_=>none
theorem RelV.abs{x:V}{u:Value}(r:RelV x u):P6 u=some x:=by
 cases x with
 |az=>cases r;rfl
 |bl _=>cases r;rfl
 |int _=>obtain⟨t,rfl⟩:=r;rfl
 |str _=>obtain⟨t,rfl⟩:=r;rfl
 |Qm _=>obtain⟨t,rfl⟩:=r;rfl
 |Pz _=>obtain⟨t,rfl⟩:=r;rfl
 |ref _=>cases r;rfl
 |ty _=>cases r;rfl
theorem RelV.inj{x y:V}{u:Value}(r:RelV x u)(q:RelV y u):x=y:=Option.some.inj (r.abs.symm.trans q.abs)
theorem Vals.inj:∀{xs ys:List V} {us:List Value},Vals xs us->Vals ys us->xs=ys
 |_,_,_,.nil,.nil=>rfl
 |_,_,_,.cons r t,.cons r' t'=>by rw [r.inj r',Vals.inj t t']
section
variable{X:Cx}{ae:List (Addr×Obj)}{σ:St}{H:Hp}{s:Shared}{a:Addr}{xs ys:List V}
theorem eF.of{K:PySem.W.Frag}(h:H a=some (.lst xs)):eF K H a xs:=.inl (.inl h)
theorem Inv.list(I:Inv X ae σ H s)(h:eF X.K H a xs):∃ax:List Value,Vals xs ax/\PlainL s.heap a ax.toArray/\xs.length<=sizeLine:=by
 rcases h with h|⟨o,ax,n,hk,hc,hd,hs,hz,r⟩
 ·obtain⟨z,ax,n,r,e⟩:=h.ok I.aS
  exact⟨ax,r,⟨_,n,e,rfl,rfl,rfl⟩,z⟩
 ·refine⟨ax.toList,r,⟨o,n,I.sI a o hk,hc,hd,by simpa using hs⟩,?_⟩;have e:=r.length
  simp only [zzd] at e;omega
theorem Inv.tuple(I:Inv X ae σ H s)(h:eP X.K H a xs):∃ax:List Value,Vals xs ax/\IsTup s.heap a ax.toArray/\xs.length<=sizeLine:=by
 rcases h with h|⟨o,ax,n,hk,hc,hs,hz,r⟩
 ·obtain⟨z,ax,r,p⟩:=h.ok I.aS
  exact⟨ax,r,p,z⟩
 ·refine⟨ax.toList,r,⟨o,I.sI a o hk,hc,n,by simpa using hs⟩,?_⟩;have e:=r.length
  simp only [zzd] at e;omega
theorem Inv.mR(I:Inv X ae σ H s)(h:eF X.K H a xs)(h':eF X.K H a ys):xs=ys:=by
 obtain⟨ax,r,⟨o,n,e,_,_,d⟩,_⟩:=I.list h
 obtain⟨its',r',⟨o',n',e',_,_,d'⟩,_⟩:=I.list h'
 rw [e] at e';cases e';rw [d] at d'
 injection d' with d1 _
 have:ax=its':=by simpa using congrArg Array.toList d1
 subst this;exact r.inj r'
theorem Inv.j7(I:Inv X ae σ H s)(h:eP X.K H a xs)(h':eP X.K H a ys):xs=ys:=by
 obtain⟨ax,r,⟨o,e,_,n,d⟩,_⟩:=I.tuple h
 obtain⟨its',r',⟨o',e',_,n',d'⟩,_⟩:=I.tuple h'
 rw [e] at e';cases e';rw [d] at d'
 injection d' with d1 _
 have:ax=its':=by simpa using congrArg Array.toList d1
 subst this;exact r.inj r'
end
section
variable{X:Cx}{st:Stmt}{rest:List Stmt}{t u:TS}{e:Expr}{te:TE}{pos:Pos}
def MT:TS:=λD σ H=>D.nx σ H
def Qo(t u:TS):TS:=λD σ H=>t {D with nx:=u D} σ H
theorem Fb:wx X [] MT:=λ_ _ σ H _ I h=>wpAny_execs_nil ⟨σ,H,I,h⟩
theorem Ar(h1:PS X st t)(h2:wx X rest u):wx X (st::rest) (Qo t u):=by
 intro ae s σ H D I h;refine wpAny_execs_cons (bX (h1 ae s σ H {D with nx:=u D} I h) λf s1 q=>?_)
 cases f with
 |next=>
  obtain⟨σ',H',I',q⟩:=q
  exact h2 ae s1 σ' H' D I' q
 |ret v=>exact q
 |brk=>exact q
 |cont=>exact q
def Ik:TS:=λD σ H=>D.bk σ H
theorem Au:PS X (.Break pos) Ik:=λ_ _ σ H _ I h=>wpAny_Break ⟨σ,H,I,h⟩
theorem Inv.quiet{ae:List (Addr×Obj)}{σ:St}{H:Hp}{s:Shared}(I:Inv X ae σ H s):interactive X.env=false:=by simp [interactive,I.ok.kind]
def MF(te:TE):TS:=λD σ H=>te σ H λ_ H1=>D.nx σ H1
theorem pX(he:PE X e te)(hs:swapsWith e none pos.line X.env=pure false:=by rfl):PS X (.Expr e pos) (MF te):=by
 intro ae s σ H D I h;exact wpAny_Expr_any (bX (he ae s σ H _ I h) λv s1 ⟨x,H1,I1,r1,q1⟩=>⟨σ,H1,I1,q1⟩) I.quiet hs
def QD(te:TE):TS:=λD σ H=>te σ H D.rt
theorem JV(he:PE X e te):PS X (.Return (some e) pos) (QD te):=by
 intro ae s σ H D I h;exact wpAny_Return_some (bX (he ae s σ H _ I h) λv s1 ⟨x,H1,I1,r1,q1⟩=>⟨x,σ,H1,I1,r1,q1⟩)
def RA(c:TT)(t u:TS):TS:=λD σ H=>c σ H λb H1=>if b=true then t D σ H1 else u D σ H1
theorem N1{c:Expr}{a b:List Stmt}{tc:TT}(hc:PT X c tc)(ha:wx X a t)(hb:wx X b u):PS X (.If c a b pos) (RA tc t u):=by
 intro ae s σ H D I h;refine wpAny_If (bX (hc ae s σ H _ I h) λd s1 ⟨H1,I1,q1⟩=>?_)
 cases d with
 |true=>exact ha ae s1 σ H1 D I1 q1
 |false=>exact hb ae s1 σ H1 D I1 q1
end
abbrev TG:=V->St->Hp->(St->Hp->Prop)->Prop
abbrev Gj:=List V->St->Hp->(St->Hp->Prop)->Prop
def PG(X:Cx)(target:Expr)(t:TG):Prop:=
 ∀(ae:List (Addr×Obj)) (s:Shared) (σ:St) (H:Hp) (v:V) (u:Value) (Q:St->Hp->Prop),Inv X ae σ H s->RelV v u->t v σ H Q->
  wpAny (model X.prog X.w) X.A (assign target X.env u) (λ_ s'=>∃σ' H',Inv X ae σ' H' s'/\Q σ' H') X.xe s
def MO(X:Cx)(ts:List Expr)(t:Gj):Prop:=
 ∀(ae:List (Addr×Obj)) (s:Shared) (σ:St) (H:Hp) (vs:List V) (us:List Value) (Q:St->Hp->Prop),Inv X ae σ H s->Vals vs us->t vs σ H Q->
  wpAny (model X.prog X.w) X.A (assignInOrder ((assignEach ts X.env).map (·.2)) us) (λ_ s'=>∃σ' H',Inv X ae σ' H' s'/\Q σ' H') X.xe s
abbrev Ht:=V->V->V->Hp->(Hp->Prop)->Prop
def L8(X:Cx)(t:Ht):Prop:=
 ∀(ae:List (Addr×Obj)) (s:Shared) (σ:St) (H:Hp) (o i v:V) (ov iv u:Value) (Q:Hp->Prop),Inv X ae σ H s->RelV o ov->RelV i iv->RelV v u->t o i v H Q->
  wpAny (model X.prog X.w) X.A (setItem ov iv u) (λ_ s'=>∃H',Inv X ae σ H' s'/\Q H') X.xe s
section
variable{X:Cx}{pos:Pos}
def dP(i:Nat):TG:=λv σ H Q=>Q (σ.set i (some v)) H
theorem Ez{i:Nat}{x:Str}(hN:X.N.Nodup)(hi:X.N[i]?=some x)(hx:Loc X.env.scope x)(hf:X.fn x=true\/X.env.scope.names.lookup x=some .local:=by first|exact .inl rfl|exact .inr rfl|assumption):PG X (.Name x pos) (dP i):=by
 intro ae s σ H v u Q I r h;exact wpAny_assign_Name (sk I hN hi hx r (λs' I'=>⟨_,H,I',h⟩) hf)
def yL:Gj:=λvs σ H Q=>vs=[]/\Q σ H
def gQ(t:TG)(u:Gj):Gj:=λvs σ H Q=>∃v r,vs=v::r/\t v σ H λσ' H'=>u r σ' H' Q
theorem w8:MO X [] yL:=by
 intro ae s σ H vs us Q I r h;obtain⟨e,h⟩:=h
 subst e;cases r;exact assignInOrder_nil ⟨σ,H,I,h⟩
theorem my{e:Expr}{es:List Expr}{t:TG}{u:Gj}(h1:PG X e t)(h2:MO X es u)
 (hs:(assignEach (e::es) X.env).map (·.2)=assign e X.env::(assignEach es X.env).map (·.2):=by rfl):MO X (e::es) (gQ t u):=by
 intro ae s σ H vs us Q I r h;obtain⟨v,vr,e1,h⟩:=h
 subst e1;cases r with
 |cons r rr=>
  rw [hs];refine assignInOrder_cons (bX (h1 ae s σ H _ _ _ I r h) λ_ s1 ⟨σ1,H1,I1,q1⟩=>?_)
  exact h2 ae s1 σ1 H1 _ _ Q I1 rr q1
noncomputable def Am(K:PySem.W.Frag)(n:Nat)(t:Gj):TG:=λv σ H Q=>∃a xs,v=.ref a/\eP K H a xs/\xs.length=n/\t xs σ H Q
theorem pK{es:List Expr}{k:Nat}{t:Gj}{n:Nat}(hc:X.calm=true)(h:MO X es t)
 (hn:(assignEach es X.env).length=n:=by rfl) (dS:(assignEach es X.env).findIdx? (·.1)=none:=by rfl):PG X (.Tuple es k pos) (Am X.K n t):=by
 intro ae s σ H v u Q I r hw;obtain⟨a,xs,e1,hq,hl,hw⟩:=hw
 subst e1;cases r;obtain⟨ax,rv,ht,hz⟩:=I.tuple hq
 refine assign_Tuple_tuple (I.ok.hd hc) ht (by simp [hn,<-hl,rv.length]) dS λh' hx=>?_
 have I1:Inv X ae σ H {s with heap:=h'}:=I.kept (t':=s.toks) λb o e=>hx b o (zzb (zzO e)) e
 exact h ae _ σ H xs _ Q I1 (by simpa using rv) hw
def RE(to ti:TE)(t:Ht):TG:=λv σ H Q=>to σ H λo H1=>ti σ H1 λi H2=>t o i v H2 λH3=>Q σ H3
theorem AA{o i:Expr}{to ti:TE}{t:Ht}(ho:PE X o to)(hi:PE X i ti)(hs:L8 X t)
 (ha:∀v,assign (.Subscript o i pos) X.env v=(do
  let ov<-holding [v] (eval o X.env)
  let iv<-holding [v,ov] (eval i X.env)
  standAt pos
  holding [v,ov,iv] (setItem ov iv v)
  release [v,ov,iv] []):=by intro _;rfl):PG X (.Subscript o i pos) (RE to ti t):=by
 intro ae s σ H v u Q I r h;rw [ha];refine zzA (wpAny_holding (bX (ho ae s σ H _ I h) λov s1 ⟨x,H1,I1,r1,q1⟩=>?_))
 refine zzA (wpAny_holding (bX (hi ae s1 σ H1 _ I1 q1) λiv s2 ⟨y,H2,I2,r2,q2⟩=>?_))
 refine zzA (wpAny_standAt (zzA (wpAny_holding (bX (hs ae s2 σ H2 x y v ov iv u _ I2 r1 r2 r q2) λ_ s3 ⟨H3,I3,q3⟩=>?_))))
 exact wpAny_release ⟨σ,H3,I3,q3⟩
def Er(te:TE)(g:TG):TS:=λD σ H=>te σ H λx H1=>g x σ H1 D.nx
theorem zL{tg e:Expr}{te:TE}{g:TG}(he:PE X e te)(hg:PG X tg g)(hs:swapsWithSole [tg] e pos.line X.env=pure false:=by rfl)(hw:swappedStores [tg] e X.env=pure none:=by rfl)
 (h1:(assignEach [tg] X.env).map (·.2)=[assign tg X.env]:=by rfl):PS X (.Assign [tg] e pos) (Er te g):=by
 intro ae s σ H D I h;refine wpAny_Assign_stores (bX (he ae s σ H _ I h) λv s1 ⟨x,H1,I1,r1,q1⟩=>?_) hs hw
 rw [h1];exact bX (hg ae s1 σ H1 x v _ I1 r1 q1) λ_ s2 q=>q
theorem mU{i:Nat}{x:Str}{e:Expr}{te:TE}{pos':Pos}(hN:X.N.Nodup)(hi:X.N[i]?=some x)(hx:Loc X.env.scope x)(he:PE X e te)(hs:swapsWith e (some (.Name x pos')) pos.line X.env=pure false:=by rfl)(hf:X.fn x=true\/X.env.scope.names.lookup x=some .local:=by first|exact .inl rfl|exact .inr rfl|assumption):
 PS X (.Assign [.Name x pos'] e pos) (Er te (dP i)):=by
 intro ae s σ H D I h;refine wpAny_Assign_Name (bX (he ae s σ H _ I h) λv s1 ⟨y,H1,I1,r1,q1⟩=>?_) hs
 exact sk I1 hN hi hx r1 (λs2 I2=>⟨_,H1,I2,q1⟩) hf
end
section
variable{X:Cx}{pos:Pos}
noncomputable def Ko(c:TT)(tb:TS):TS:=λD σ H=>∃W:Nat->St->Hp->Prop,(∃m,W m σ H)/\∀m σ H,W m σ H->
 c σ H λb H1=>if b=true then∃N:St->Hp->Prop,(∀σ' H',N σ' H'->∃m',m'<m/\W m' σ' H')/\tb {D with nx:=N,ct:=N,bk:=D.nx} σ H1 else D.nx σ H1
theorem BZ{c:Expr}{body:List Stmt}{tc:TT}{tb:TS}(hp:PassesOwn (model X.prog X.w) X.A X.env X.xe)(hc:PT X c tc)(hb:wx X body tb):PS X (.While c body [] pos) (Ko tc tb):=by
 intro ae s σ H D I h;obtain⟨W,⟨m0,w0⟩,turn⟩:=h
 refine wpAny_While (codeAny_whileLoop (λn s'=>∃σ' H',Inv X ae σ' H' s'/\W n σ' H') ?_ m0 ⟨σ,H,I,w0⟩)
 rintro n s1 ⟨σ1,H1,I1,w1⟩
 refine wpAny_passesOwn hp (bX (hc ae s1 σ1 H1 _ I1 (turn n σ1 H1 w1)) λb s2 ⟨H2,I2,q2⟩=>?_)
 cases b with
 |true=>
  obtain⟨N,hN,q2⟩:=q2
  rw [if_pos rfl];refine wpAny_passesOwn hp (bX (hb ae s2 σ1 H2 _ I2 q2) λf s3 q3=>?_)
  cases f with
  |next=>
   obtain⟨σ3,H3,I3,n3⟩:=q3
   obtain⟨m',hm,w3⟩:=hN σ3 H3 n3
   exact⟨m',hm,σ3,H3,I3,w3⟩
  |cont=>
   obtain⟨σ3,H3,I3,n3⟩:=q3
   obtain⟨m',hm,w3⟩:=hN σ3 H3 n3
   exact⟨m',hm,σ3,H3,I3,w3⟩
  |brk=>exact q3
  |ret v=>exact q3
 |false=>
  rw [if_neg zzf];exact wpAny_execs_nil ⟨σ1,H2,I2,q2⟩
end
structure It where
 go:Nat->Hp->Prop
 KP:Nat->Hp->V->Hp->Prop
 stop:Nat->Hp->Prop
def dZ(X:Cx)(ae:List (Addr×Obj))(H:Hp)(b:Addr):Prop:=
 H b=none/\b≠X.env.locals/\b∉X.fs/\(b∈X.ex\/X.s₀.heap.objs.size<=b)/\(∀x c,X.env.cells.lookup x=some c->c≠b)/\∀p∈X.pn++ae,p.1≠b
theorem Inv.j9{X:Cx}{ae:List (Addr×Obj)}{σ:St}{H H':Hp}{s:Shared}{b:Addr}(I:Inv X ae σ H s)(hb:s.heap.objs.size<=b)(hn:H' b=none):dZ X ae H' b:=by
 refine⟨hn,Nat.ne_of_gt (zzW I.lt hb),I.PB hb,.inr (zzU I.sz hb),λx c e z=>?_,λp hp z=>?_⟩
 ·obtain⟨v,q⟩:=I.cell x c e
  exact absurd (zzW q.lt (by rw [z];exact hb)) (Nat.lt_irrefl _)
 ·exact absurd (zzW (zzO (I.pin p hp).1) (by rw [z];exact hb)) (Nat.lt_irrefl _)
structure Turn(P:Program)(w:World)(K:PySem.W.Frag)(tg:Expr)(J:It)(fp:List Addr)(it:Addr)(tn:Nat->Heap->Prop):Prop where
 mem:it∈fp
 obj:∀i h,tn i h->∀b∈fp,∃o,h.get? b=some o/\∀v,o.data≠.cell v
 keep:∀i h h',tn i h->(∀b∈fp,∀o,h.get? b=some o->h'.get? b=some o)->tn i h'
 item:∀(X:Cx),X.prog=P->X.w=w->X.K=K->X.calm=true->∀(i:Nat) (ae:List (Addr×Obj)) (s:Shared) (σ:St) (H:Hp) (E:Value->Shared->Prop),Inv X ae σ H s->(∀b∈fp,dZ X ae H b)->tn i s.heap->J.go i H->
  wpAny (model P w) X.A (pyNext (.ref it)) (λr s1=>∃u,r=some u/\
   wpAny (model P w) X.A (letOwnedTupleGo tg (.ref it) u) (λ_ s2=>∃x H',Inv X ae σ H' s2/\RelV x u/\J.KP i H x H'/\tn (i+1) s2.heap/\∀b∈fp,H' b=none) E s1) E s
 done:∀(X:Cx),X.prog=P->X.w=w->X.K=K->X.calm=true->∀(i:Nat) (ae:List (Addr×Obj)) (s:Shared) (σ:St) (H:Hp) (E:Value->Shared->Prop),Inv X ae σ H s->(∀b∈fp,dZ X ae H b)->tn i s.heap->J.stop i H->
  wpAny (model P w) X.A (pyNext (.ref it)) (λr s1=>r=none/\Inv X ae σ H s1) E s
 self:∀(A:Around) (i:Nat) (s:Shared) (Q:Value->Shared->Prop) (E:Value->Shared->Prop),tn i s.heap->Q (.ref it) s->wpAny (model P w) A (pyIter (.ref it)) Q E s
abbrev TI:=St->Hp->(It->Hp->Prop)->Prop
def Pj(X:Cx)(ae:List (Addr×Obj))(σ:St)(tg:Expr)(R:It->Hp->Prop)(Q6:Value)(s2:Shared):Prop:=
 ∃(it:Addr) (fp:List Addr) (tn:Nat->Heap->Prop) (J:It) (H':Hp),Q6=.ref it/\Inv X ae σ H' s2/\Turn X.prog X.w X.K tg J fp it tn/\tn 0 s2.heap/\(∀b∈fp,dZ X ae H' b)/\R J H'
def PI(X:Cx)(tg iter:Expr)(wi:TI):Prop:=
 ∀(ae:List (Addr×Obj)) (s:Shared) (σ:St) (H:Hp) (R:It->Hp->Prop),Inv X ae σ H s->wi σ H R->
  wpAny (model X.prog X.w) X.A (eval iter X.env) (λv s1=>wpAny (model X.prog X.w) X.A (pyIter v) (Pj X ae σ tg R) X.xe s1) X.xe s
theorem sF{M:Model}{A:Around}{E:Value->Shared->Prop}{s:Shared}{tg:Expr}{it:Addr}{u:Value}{o:Obj}{n:String}{vs:Array Value}{Q:Unit->Shared->Prop}(ho:s.heap.get? it=some o)(hc:o.cls=.type n)(hd:o.data=.fields vs)
 (hn:["enumerate","zip","dict_itemiterator","dict_reverseitemiterator","odict_iterator","itertools.zip_longest","itertools.pairwise"].contains n=false) (hQ:Q () s):wpAny M A (letOwnedTupleGo tg (.ref it) u) Q E s:=by
 unfold letOwnedTupleGo;cases tg<;>first
  |exact zzG hQ
  |(cases u<;>first
   |exact zzG hQ
   | (refine zzA (wpAny_load ho ?_)
      rw [hc,hd];show wpAny M A (if(["enumerate","zip","dict_itemiterator","dict_reverseitemiterator","odict_iterator","itertools.zip_longest","itertools.pairwise"].contains n&&vs[0]?==some (rawInt _))=true then _ else _) Q E s;rw [if_neg (by intro h;rw [hn,Bool.false_and] at h;cases h)];exact zzG hQ))
noncomputable def Rn(K:PySem.W.Frag)(a:Addr):It:=
 ⟨λi H=>∃xs x,eF K H a xs/\xs[i]?=some x,λi H x H'=>H'=H/\∀xs,eF K H a xs->xs[i]?=some x,λi H=>∃xs,eF K H a xs/\xs.length<=i⟩
noncomputable def PQ(K:PySem.W.Frag)(a:Addr):It:=
 ⟨λi H=>∃xs x,eP K H a xs/\xs[i]?=some x,λi H x H'=>H'=H/\∀xs,eP K H a xs->xs[i]?=some x,λi H=>∃xs,eP K H a xs/\xs.length<=i⟩
def MC(lo:Int)(n:Nat):It:=⟨λi _=>i<n,λi H x H'=>H'=H/\x=.int (lo+i),λi _=>n<=i⟩
theorem xZ{P:Program}{w:World}{K:PySem.W.Frag}{tg:Expr}(a it:Addr):Turn P w K tg (Rn K a) [it] it (λi h=>h.IsListIter it a i) where
 mem:=by simp
 obj:=λi h st b hb=>by
  have e:b=it:=by simpa using hb
  subst e;obtain⟨o,e,c,d⟩:=st
  exact⟨o,e,λv z=>by rw [d] at z;cases z⟩
 keep:=λi h h' st k=>st.at λo e=>k it (by simp) o e
 item:=by
  intro X hP hw hK hc i ae s σ H E I hf st hg;subst hP hw hK;obtain⟨xs,x,hq,hx⟩:=hg
  obtain⟨ax,rv,p,hz⟩:=I.list hq
  obtain⟨u,hu,ru⟩:=rv.get hx
  obtain⟨f0,f1,f2,f3,f4,f5⟩:=hf it (by simp)
  refine wpAny_pyNext_list_item st p.isList (x:=u) (by simpa using hu) λh' gh sb=>?_
  have I1:Inv X ae σ H {s with heap:=h'}:=I.turned (t':=s.toks) (λb o hb e=>(sb.2 b hb).trans e) f0 f1 f3 f4 f5
  obtain⟨o,e,c,d⟩:=id gh
  exact⟨u,rfl,sF (s:={s with heap:=h'}) e c d (by decide) ⟨x,H,I1,ru,⟨rfl,λys hy=>by rw [I.mR hy hq];exact hx⟩,gh,λb hb=>(hf b hb).1⟩⟩
 done:=by
  intro X hP hw hK hc i ae s σ H E I hf st hg;subst hP hw hK;obtain⟨xs,hq,hx⟩:=hg
  obtain⟨ax,rv,p,hz⟩:=I.list hq
  obtain⟨f0,f1,f2,f3,f4,f5⟩:=hf it (by simp)
  have hl:=rv.length
  exact wpAny_pyNext_list_end (I.ok.hd hc) st p.isList (by simp;omega) λh' eb=>⟨rfl,I.turned (t':=s.toks) (λb o hb e=>eb b o hb e) f0 f1 f3 f4 f5⟩
 self:=λ_ _ _ _ _ st h=>wpAny_pyIter_listiter st h
theorem uR{P:Program}{w:World}{K:PySem.W.Frag}{tg:Expr}(a it:Addr):Turn P w K tg (PQ K a) [it] it (λi h=>h.IsTupleIter it a i) where
 mem:=by simp
 obj:=λi h st b hb=>by
  have e:b=it:=by simpa using hb
  subst e;obtain⟨o,e,c,d⟩:=st
  exact⟨o,e,λv z=>by rw [d] at z;cases z⟩
 keep:=λi h h' st k=>st.at λo e=>k it (by simp) o e
 item:=by
  intro X hP hw hK hc i ae s σ H E I hf st hg;subst hP hw hK;obtain⟨xs,x,hq,hx⟩:=hg
  obtain⟨ax,rv,p,hz⟩:=I.tuple hq
  obtain⟨u,hu,ru⟩:=rv.get hx
  obtain⟨f0,f1,f2,f3,f4,f5⟩:=hf it (by simp)
  refine wpAny_pyNext_tuple_item st (show s.heap.IsTuple a ax.toArray from p) (x:=u) (by simpa using hu) λh' gh sb=>?_
  have I1:Inv X ae σ H {s with heap:=h'}:=I.turned (t':=s.toks) (λb o hb e=>(sb.2 b hb).trans e) f0 f1 f3 f4 f5
  obtain⟨o,e,c,d⟩:=id gh
  exact⟨u,rfl,sF (s:={s with heap:=h'}) e c d (by decide) ⟨x,H,I1,ru,⟨rfl,λys hy=>by rw [I.j7 hy hq];exact hx⟩,gh,λb hb=>(hf b hb).1⟩⟩
 done:=by
  intro X hP hw hK hc i ae s σ H E I hf st hg;subst hP hw hK;obtain⟨xs,hq,hx⟩:=hg
  obtain⟨ax,rv,p,hz⟩:=I.tuple hq
  obtain⟨f0,f1,f2,f3,f4,f5⟩:=hf it (by simp)
  have hl:=rv.length
  exact wpAny_pyNext_tuple_end (I.ok.hd hc) st (show s.heap.IsTuple a ax.toArray from p) (by simp;omega) λh' eb=>⟨rfl,I.turned (t':=s.toks) (λb o hb e=>eb b o hb e) f0 f1 f3 f4 f5⟩
 self:=λ_ _ _ _ _ st h=>wpAny_pyIter_tupleiter st h
theorem vf{P:Program}{w:World}{K:PySem.W.Frag}{tg:Expr}(it:Addr)(lo:Int)(n:Nat):Turn P w K tg (MC lo n) [it] it (λi h=>IsRangeIter h it (lo+(i:Nat)*1) ((n:Int)-(i:Nat)) 1) where
 mem:=by simp
 obj:=λi h st b hb=>by
  have e:b=it:=by simpa using hb
  subst e;exact⟨_,st,λv z=>by
   have z':Data.fields _=Data.cell v:=z
   cases z'⟩
 keep:=λi h h' st k=>k it (by simp) _ st
 item:=by
  intro X hP hw hK hc i ae s σ H E I hf st hg;subst hP hw hK;obtain⟨f0,f1,f2,f3,f4,f5⟩:=hf it (by simp)
  have W:=Walks.range (prog:=X.prog) (w:=X.w) (I.ok.hd hc) it lo 1 n
  refine W.item i s _ _ hg st λv h' tk hv gh kk=>?_
  obtain⟨t,rfl⟩:=hv
  have I1:Inv X ae σ H {s with heap:=h',toks:=tk}:=I.turned (λb o hb e=>kk b o (by simpa using hb) e) f0 f1 f3 f4 f5
  refine⟨_,rfl,sF (s:={s with heap:=h',toks:=tk}) (n:="range_iterator") gh rfl rfl (by decide) ⟨.int (lo+i),H,I1,⟨t,?_⟩,⟨rfl,rfl⟩,gh,λb hb=>(hf b hb).1⟩⟩
  rw [Int.mul_one]
 done:=by
  intro X hP hw hK hc i ae s σ H E I hf st hg;subst hP hw hK;obtain⟨f0,f1,f2,f3,f4,f5⟩:=hf it (by simp)
  exact wpAny_pyNext_range_end (I.ok.hd hc) st (by have:n<=i:=hg;omega) λh' eb=>⟨rfl,I.turned (t':=s.toks) (λb o hb e=>eb b o hb e) f0 f1 f3 f4 f5⟩
 self:=λ_ _ _ _ _ st h=>wpAny_pyIter_rangeiter st h
section
variable{X:Cx}{tg:Expr}
noncomputable def MM(K:PySem.W.Frag)(tl:TE):TI:=λσ H R=>tl σ H λx H1=>∃a,x=.ref a/\(∃xs,eF K H1 a xs)/\R (Rn K a) H1
noncomputable def Rx(K:PySem.W.Frag)(tl:TE):TI:=λσ H R=>tl σ H λx H1=>∃a,x=.ref a/\(∃xs,eP K H1 a xs)/\R (PQ K a) H1
theorem vW{l:Expr}{tl:TE}(hl:PE X l tl):PI X tg l (MM X.K tl):=by
 intro ae s σ H R I h;refine bX (hl ae s σ H _ I h) λv s1 ⟨x,H1,I1,r1,q1⟩=>?_
 obtain⟨a,e,⟨xs,hq⟩,q⟩:=q1
 subst e;cases r1;obtain⟨ax,rv,p,hz⟩:=I1.list hq
 refine wpAny_pyIter_list p.isList ?_;refine⟨s1.heap.objs.size,[s1.heap.objs.size],_,_,H1,rfl,I1.kept (t':=s1.toks) λb o e=>zzB _ e,xZ a _,⟨_,zzX _ rfl,rfl,rfl⟩,λb hb=>?_,q⟩
 have e:b=s1.heap.objs.size:=by simpa using hb
 subst e;exact I1.j9 (zzE _) (I1.aS.fresh (zzE _))
theorem IG{l:Expr}{tl:TE}(hl:PE X l tl):PI X tg l (Rx X.K tl):=by
 intro ae s σ H R I h;refine bX (hl ae s σ H _ I h) λv s1 ⟨x,H1,I1,r1,q1⟩=>?_
 obtain⟨a,e,⟨xs,hq⟩,q⟩:=q1
 subst e;cases r1;obtain⟨ax,rv,p,hz⟩:=I1.tuple hq
 refine wpAny_pyIter_tuple (show s1.heap.IsTuple a ax.toArray from p) ?_;refine⟨s1.heap.objs.size,[s1.heap.objs.size],_,_,H1,rfl,I1.kept (t':=s1.toks) λb o e=>zzB _ e,uR a _,⟨_,zzX _ rfl,rfl,rfl⟩,λb hb=>?_,q⟩
 have e:b=s1.heap.objs.size:=by simpa using hb
 subst e;exact I1.j9 (zzE _) (I1.aS.fresh (zzE _))
theorem rj{ae:List (Addr×Obj)}{σ:St}{H:Hp}{s:Shared}{R:It->Hp->Prop}{E:Value->Shared->Prop}{lo hi:Int}{t u v:Tok}{tk:Nat}(I:Inv X ae σ H s)(h1: -(2^62)<=lo)(h2:lo<2^62)(h3: -(2^62)<=hi)(h4:hi<2^62)
 (q:R (MC lo (hi-lo).toNat) H):wpAny (model X.prog X.w) X.A (pyIter (.ref s.heap.objs.size)) (Pj X ae σ tg R) E {s with heap:=s.heap.push {cls:=.type "range",data:=.fields #[.int lo t,.int hi u,.int 1 v]},toks:=tk}:=by
 refine wpAny_pyIter_range (IsRange.new ..) (small_one h1 h2 h3 h4) ?_;have I1:Inv X ae σ H {s with heap:=s.heap.push {cls:=.type "range",data:=.fields #[.int lo t,.int hi u,.int 1 v]},toks:=tk}:=I.kept λb o e=>zzB _ e
 refine⟨(s.heap.push {cls:=.type "range",data:=.fields #[.int lo t,.int hi u,.int 1 v]}).objs.size,[(s.heap.push {cls:=.type "range",data:=.fields #[.int lo t,.int hi u,.int 1 v]}).objs.size],_,_,H,rfl,
  I1.kept (t':=tk) λb o e=>zzB _ e,vf _ lo (hi-lo).toNat,?_,λb hb=>?_,q⟩
 ·have e1:lo+((0:Nat):Int)*1=lo:=by simp
  have e2:(((hi-lo).toNat:Nat):Int)-((0:Nat):Int)=Builtin.Range.rangeSize lo hi 1:=by rw [rangeSize_one];split<;>omega
  show IsRangeIter _ _ (lo+((0:Nat):Int)*1) ((((hi-lo).toNat:Nat):Int)-((0:Nat):Int)) 1
  rw [e1,e2];exact zzX _ rfl
 ·have e:b=(s.heap.push {cls:=.type "range",data:=.fields #[.int lo t,.int hi u,.int 1 v]}).objs.size:=by simpa using hb
  subst e;exact I1.j9 (zzE _) (I1.aS.fresh (zzE _))
def Mq(ta:TA):TI:=λσ H R=>ta σ H λvs H1=>∃j:Int,vs=[.int j]/\ -(2^62)<=j/\j<2^62/\R (MC 0 j.toNat) H1
def N0(ta:TA):TI:=λσ H R=>ta σ H λvs H1=>∃i j:Int,vs=[.int i,.int j]/\(-(2^62)<=i/\i<2^62/\ -(2^62)<=j/\j<2^62)/\R (MC i (j-i).toNat) H1
theorem xQ{a:Expr}{ta:TA}{p pos:Pos}(hg:Gl X "range")(hm:X.mg "range"=none)(ha:PA X [a] ta)(hs:starEach [a] X.env=[(false,eval a X.env)]:=by rfl):PI X tg (.Call (.Name "range" p) [a] [] pos) (Mq ta):=by
 intro ae s σ H R I h;refine Call_ (fb I hg hm boot_range (PyProof.Rows.callWith_type1 (bX (ha pos ae s σ H _ I h) λus s1 ⟨vs,H1,I1,r1,q1⟩=>?_) hs rfl))
 obtain⟨j,e,q1,q2,q⟩:=q1
 subst e;cases r1 with
 |cons r rr=>
  cases rr;obtain⟨t,rfl⟩:=r
  exact call_range_1 (rj I1 (by omega) (by omega) q1 q2 (by simpa using q))
theorem yM{a b:Expr}{ta:TA}{p pos:Pos}(hg:Gl X "range")(hm:X.mg "range"=none)(ha:PA X [a,b] ta)(hs:starEach [a,b] X.env=[(false,eval a X.env),(false,eval b X.env)]:=by rfl)(sV:starEach [b] X.env=[(false,eval b X.env)]:=by rfl):
 PI X tg (.Call (.Name "range" p) [a,b] [] pos) (N0 ta):=by
 intro ae s σ H R I h;refine Call_ (fb I hg hm boot_range (PyProof.Rows.callWith_type1 (bX (ha pos ae s σ H _ I h) λus s1 ⟨vs,H1,I1,r1,q1⟩=>?_) (by rw [hs,sV]) (by rw [sV];rfl)))
 obtain⟨i,j,e,⟨q1,q2,q3,q4⟩,q⟩:=q1
 subst e;cases r1 with
 |cons r rr=>
  cases rr with
  |cons r' rr=>
   cases rr;obtain⟨t,rfl⟩:=r
   obtain⟨t',rfl⟩:=r'
   exact call_range_2 (rj I1 q1 q2 q3 q4 q)
noncomputable def QZ(wi:TI)(g:TG)(tb:TS):TS:=λD σ H=>wi σ H λJ H1=>∃W:Nat->Nat->St->Hp->Prop,(∃m,W 0 m σ H1)/\∀i m σ H,W i m σ H->
 (J.stop i H/\D.nx σ H)\/(J.go i H/\∃N:St->Hp->Prop,(∀σ' H',N σ' H'->∃m',m'<m/\W (i+1) m' σ' H')/\∀x H',J.KP i H x H'->g x σ H' λσ2 H2=>tb {D with nx:=N,ct:=N,bk:=D.nx} σ2 H2)
def qj(fp:List Addr)(h:Heap):List (Addr×Obj):=fp.filterMap λb=>(h.get? b).map λo=>(b,o)
theorem dE{fp:List Addr}{h:Heap}{b:Addr}{o:Obj}(hb:b∈fp)(e:h.get? b=some o):(b,o)∈qj fp h:=List.mem_filterMap.mpr ⟨b,hb,by rw [e];rfl⟩
theorem yY{fp:List Addr}{h:Heap}{p:Addr×Obj}(hp:p∈qj fp h):p.1∈fp/\h.get? p.1=some p.2:=by
 obtain⟨b,hb,e⟩:=List.mem_filterMap.mp hp
 cases q:h.get? b with
 |none=>rw [q] at e;cases e
 |some o=>
  rw [q] at e;have e':(b,o)=p:=Option.some.inj e
  subst e';exact⟨hb,q⟩
theorem Inv.pinned{ae:List (Addr×Obj)}{σ:St}{H:Hp}{s:Shared}{fp:List Addr}(I:Inv X ae σ H s)(hf:∀b∈fp,dZ X ae H b)(ho:∀b∈fp,∃o,s.heap.get? b=some o/\∀v,o.data≠.cell v):Inv X (ae++qj fp s.heap) σ H s:=
 I.gU λp hp=>(List.mem_append.mp hp).elim (λz=>I.pin p (zzR _ z)) λz=>by
  obtain⟨hb,e⟩:=yY z
  obtain⟨f0,f1,f2,_⟩:=hf p.1 hb
  obtain⟨o,e',d⟩:=ho p.1 hb
  rw [e] at e';cases e';exact⟨e,f0,f1,f2,d⟩
theorem Inv.js{ae pl:List (Addr×Obj)}{σ:St}{H:Hp}{s:Shared}(I:Inv X (ae++pl) σ H s):Inv X ae σ H s:=I.gU λp hp=>I.pin p (zzR _ (zzc _ hp))
theorem Jj{iter:Expr}{body:List Stmt}{wi:TI}{g:TG}{tb:TS}{pos:Pos}(hp:PassesOwn (model X.prog X.w) X.A X.env X.xe)(hc:X.calm=true)(hi:PI X tg iter wi)(hg:PG X tg g)(hb:wx X body tb)
 (hs:∀x,foldedSetIterable iter X.env x=pure x:=by intro _;rfl):PS X (.For tg iter body [] pos) (QZ wi g tb):=by
 intro ae s σ H D I h;refine wpAny_For (bX (hi ae s σ H _ I h) λv s1 h1=>bX h1 λQ6 s2 h2=>?_) hs
 obtain⟨it,fp,tn,J,H2,e,I2,T,Pq,f2,W,⟨m0,w0⟩,turn⟩:=h2
 subst e;have Le:∀{H':Hp},(∀b∈fp,H' b=none)->∀b∈fp,dZ X ae H' b:=λhn b hb=>⟨hn b hb,(f2 b hb).2⟩
 refine codeAny_forLoop_any (λn s'=>∃i σ' H',Inv X ae σ' H' s'/\tn i s'.heap/\(∀b∈fp,H' b=none)/\W i n σ' H') ?_ m0 ⟨0,σ,H2,I2,Pq,λb hb=>(f2 b hb).1,w0⟩
 rintro n s3 ⟨i,σ3,H3,I3,st3,fr3,w3⟩
 rcases turn i n σ3 H3 w3 with⟨stop,qn⟩|⟨go,N,hN,step⟩
 ·refine wpAny_passesOwn hp (bX (T.done X rfl rfl rfl hc i ae s3 σ3 H3 X.xe I3 (Le fr3) st3 stop) λr s4 ⟨hr,I4⟩=>?_)
  subst hr;exact wpAny_execs_nil ⟨σ3,H3,I4,qn⟩
 ·refine wpAny_passesOwn hp (bX (T.item X rfl rfl rfl hc i ae s3 σ3 H3 X.xe I3 (Le fr3) st3 go) λr s4 ⟨u,hr,h4⟩=>?_)
  subst hr;refine wpAny_passesOwn hp (bX h4 λ_ s5 ⟨x,H5,I5,r5,y5,st5,fr5⟩=>?_);have RL:=I5.pinned (Le fr5) (T.obj _ _ st5)
  refine wpAny_passesOwn hp (bX (hg _ s5 σ3 H5 x u _ RL r5 (step x H5 y5)) λ_ s6 ⟨σ6,H6,I6,q6⟩=>?_)
  refine wpAny_passesOwn hp (bX (hb _ s6 σ6 H6 _ I6 q6) λf s7 q7=>?_)
  have again:∀{σ7:St} {H7:Hp},Inv X (ae++qj fp s5.heap) σ7 H7 s7->N σ7 H7->∃m,m<n/\∃i σ' H',Inv X ae σ' H' s7/\tn i s7.heap/\(∀b∈fp,H' b=none)/\W i m σ' H':=λ{σ7 H7} I7 n7=>by
   obtain⟨m',hm,w7⟩:=hN σ7 H7 n7
   refine⟨m',hm,i+1,σ7,H7,I7.js,T.keep _ _ _ st5 λb hb o e=>(I7.pin (b,o) (zzR _ (zzR _ (dE hb e)))).1,λb hb=>?_,w7⟩
   obtain⟨o,e,d⟩:=T.obj _ _ st5 b hb
   exact(I7.pin (b,o) (zzR _ (zzR _ (dE hb e)))).2.1
  cases f with
  |next=>obtain⟨σ7,H7,I7,n7⟩:=q7;exact again I7 n7
  |cont=>obtain⟨σ7,H7,I7,n7⟩:=q7;exact again I7 n7
  |brk=>obtain⟨σ7,H7,I7,q7⟩:=q7;exact⟨σ7,H7,I7.js,q7⟩
  |ret v=>obtain⟨x7,σ7,H7,I7,r7,q7⟩:=q7;exact⟨x7,σ7,H7,I7.js,r7,q7⟩
end
abbrev R2:=V->V->Hp->VK->Prop
def gu(X:Cx)(f:Value->Value->Sem Value)(r:R2):Prop:=
 ∀(ae:List (Addr×Obj)) (s:Shared) (σ:St) (H:Hp) (x y:V) (v u:Value) (Q:VK),Inv X ae σ H s->RelV x v->RelV y u->r x y H Q->
  wpAny (model X.prog X.w) X.A (f v u) (EP X ae σ Q) X.xe s
def Ph(X:Cx)(f:Value->Sem Value)(r:V->Hp->VK->Prop):Prop:=
 ∀(ae:List (Addr×Obj)) (s:Shared) (σ:St) (H:Hp) (x:V) (v:Value) (Q:VK),Inv X ae σ H s->RelV x v->r x H Q->
  wpAny (model X.prog X.w) X.A (f v) (EP X ae σ Q) X.xe s
def cg(X:Cx)(f:Value)(r:List V->Hp->VK->Prop):Prop:=
 ∀(ae:List (Addr×Obj)) (s:Shared) (σ:St) (H:Hp) (xs:List V) (us:List Value) (Q:VK),Inv X ae σ H s->Vals xs us->r xs H Q->
  wpAny (model X.prog X.w) X.A (call f us) (EP X ae σ Q) X.xe s
noncomputable def LW(r:R2)(ta tb:TE):TE:=λσ H Q=>ta σ H λx H1=>tb σ H1 λy H2=>r x y H2 Q
def Vt(r:V->Hp->VK->Prop)(ta:TE):TE:=λσ H Q=>ta σ H λx H1=>r x H1 Q
noncomputable def rI(C:Int->Int->Prop)(g:Int->Int->V):R2:=λx y H Q=>∃i j,x=.int i/\y=.int j/\C i j/\Q (g i j) H
noncomputable def He(g:Int->Int->V):R2:=λx y H Q=>∃i j,x=.int i/\y=.int j/\Q (g i j) H
def rU(g:Int->V):V->Hp->VK->Prop:=λx H Q=>∃i,x=.int i/\Q (g i) H
section
variable{X:Cx}{a b:Expr}{ta tb:TE}{pos:Pos}
theorem IL(ha:PE X a ta)(hb:PE X b tb){ae:List (Addr×Obj)}{s:Shared}{σ:St}{H:Hp}{R:V->V->Hp->Prop}(I:Inv X ae σ H s)
 (h:ta σ H λx H1=>tb σ H1 λy H2=>R x y H2) {Q:Value->Shared->Prop} {f:Value->Value->Sem Value}
 (hf:∀v u s2 x y H2,Inv X ae σ H2 s2->RelV x v->RelV y u->R x y H2->wpAny (model X.prog X.w) X.A (f v u) Q X.xe s2):
 wpAny (model X.prog X.w) X.A (eval a X.env) (λv s₁=>wpAny (model X.prog X.w) X.A (eval b X.env) (λu s₂=>wpAny (model X.prog X.w) X.A (f v u) Q X.xe s₂) X.xe s₁) X.xe s:=by
 refine bX (ha ae s σ H _ I h) λv s1 ⟨x,H1,I1,r1,q1⟩=>?_
 refine bX (hb ae s1 σ H1 _ I1 q1) λu s2 ⟨y,H2,I2,r2,q2⟩=>?_
 exact hf v u s2 x y H2 I2 r1 r2 q2
theorem Nd{op:Operator}{r:R2}(ho:gu X (binaryOp op) r)(ha:PE X a ta)(hb:PE X b tb):PE X (.BinOp a op b pos) (LW r ta tb):=by
 intro ae s σ H Q I h;exact wpAny_BinOp (IL ha hb I h λv u s2 x y H2 I2 rx ry q=>ho ae s2 σ H2 x y v u Q I2 rx ry q)
theorem N2{op:UnaryOp}{r:V->Hp->VK->Prop}(ho:Ph X (unaryOp op) r)(ha:PE X a ta):PE X (.UnaryOp op a pos) (Vt r ta):=by
 intro ae s σ H Q I h;exact UnaryOp_ (bX (ha ae s σ H _ I h) λv s1 ⟨x,H1,I1,r1,q1⟩=>ho ae s1 σ H1 x v Q I1 r1 q1)
theorem Ri{f:Value->Value->Sem Value}{C:Int->Int->Prop}{g:Int->Int->Int}
 (rule:∀(i j:Int) (t u:Tok) (s:Shared) (Q:Value->Shared->Prop) (E:Value->Shared->Prop),C i j->Q (.int (g i j) s.toks) {s with toks:=s.toks+1}->wpAny (model X.prog X.w) X.A (f (.int i t) (.int j u)) Q E s):
 gu X f (rI C λi j=>.int (g i j)):=by
 intro ae s σ H x y v u Q I rx ry h;obtain⟨i,j,rfl,rfl,hc,q⟩:=h
 obtain⟨t,rfl⟩:=rx
 obtain⟨t',rfl⟩:=ry
 exact rule i j t t' s _ _ hc ⟨.int (g i j),H,I.tok _,⟨_,rfl⟩,q⟩
theorem Mo{f:Value->Value->Sem Value}{g:Int->Int->Int}
 (rule:∀(i j:Int) (t u:Tok) (s:Shared) (Q:Value->Shared->Prop) (E:Value->Shared->Prop),Q (.int (g i j) s.toks) {s with toks:=s.toks+1}->wpAny (model X.prog X.w) X.A (f (.int i t) (.int j u)) Q E s):
 gu X f (He λi j=>.int (g i j)):=by
 intro ae s σ H x y v u Q I rx ry h;obtain⟨i,j,rfl,rfl,q⟩:=h
 obtain⟨t,rfl⟩:=rx
 obtain⟨t',rfl⟩:=ry
 exact rule i j t t' s _ _ ⟨.int (g i j),H,I.tok _,⟨_,rfl⟩,q⟩
theorem Fe{f:Value->Value->Sem Value}{g:Int->Int->Bool}
 (rule:∀(i j:Int) (t u:Tok) (s:Shared) (Q:Value->Shared->Prop) (E:Value->Shared->Prop),Q (.bool (g i j)) s->wpAny (model X.prog X.w) X.A (f (.int i t) (.int j u)) Q E s):
 gu X f (He λi j=>.bl (g i j)):=by
 intro ae s σ H x y v u Q I rx ry h;obtain⟨i,j,rfl,rfl,q⟩:=h
 obtain⟨t,rfl⟩:=rx
 obtain⟨t',rfl⟩:=ry
 exact rule i j t t' s _ _ ⟨.bl (g i j),H,I,rfl,q⟩
def PK(i j:Int):Prop:=0<j/\j<1073741824
def Ls(i j:Int):Prop:=(-(2^64)<i/\i<2^64)\/(-(2^64)<j/\j<2^64)
theorem Ls.ok{i j:Int}(h:Ls i j):IntMulOk i j:=by
 rcases h with⟨h1,h2⟩|⟨h1,h2⟩
 ·exact .of_left (intBits_le_64 h1 h2)
 ·exact .of_right (intBits_le_64 h1 h2)
theorem JJ:gu X (binaryOp .Add) (He λi j=>.int (i+j)):=Mo λ_ _ _ _ _ _ _ q=>add_int q
theorem HG:gu X (binaryOp .Sub) (He λi j=>.int (i-j)):=Mo λ_ _ _ _ _ _ _ q=>sub_int q
theorem Ih:gu X (binaryOp .Mult) (rI Ls λi j=>.int (i*j)):=Ri λ_ _ _ _ _ _ _ hc q=>mul_int q hc.ok
theorem Fd:gu X (binaryOp .FloorDiv) (rI PK λi j=>.int (i/j)):=Ri λi j _ _ _ _ _ hc q=>by
 have h1:(0:Int)<j:=hc.1
 have h2:j<1073741824:=hc.2
 exact floordiv_int (by omega) (by rw [Int.fdiv_eq_ediv_of_nonneg i (by omega)];exact q) (.inl (PyProof.noPylong_small (by omega)))
theorem JW:gu X (binaryOp .Mod) (rI (λ_ j=>0<j) λi j=>.int (i%j)):=Ri λi j _ _ _ _ _ hc q=>by
 have h1:(0:Int)<j:=hc
 exact mod_int' (by omega) (by rw [Int.fmod_eq_emod_of_nonneg i (by omega)];exact q)
theorem U1{f:Value->Sem Value}{g:Int->Int}
 (rule:∀(i:Int) (t:Tok) (s:Shared) (Q:Value->Shared->Prop) (E:Value->Shared->Prop),Q (.int (g i) s.toks) {s with toks:=s.toks+1}->wpAny (model X.prog X.w) X.A (f (.int i t)) Q E s):
 Ph X f (rU λi=>.int (g i)):=by
 intro ae s σ H x v Q I rx h;obtain⟨i,rfl,q⟩:=h
 obtain⟨t,rfl⟩:=rx
 exact rule i t s _ _ ⟨.int (g i),H,I.tok _,⟨_,rfl⟩,q⟩
theorem IF:Ph X (unaryOp .USub) (rU λi=>.int (-i)):=U1 λ_ _ _ _ _ q=>neg_int q
end
section
variable{X:Cx}{a b c:Expr}{ta tb tc:TE}{pos:Pos}
theorem B4{ae:List (Addr×Obj)}{σ:St}{H:Hp}{s:Shared}{Q:VK}{k k':Bool}(I:Inv X ae σ H s)(q:Q (.bl k) H)(e:k=k'):EP X ae σ Q (.bool k') s:=by
 subst e;exact⟨.bl k,H,I,rfl,q⟩
theorem Om:gu X (compareOp .Lt) (He λi j=>.bl (decide (i<j))):=Fe λ_ _ _ _ _ _ _ q=>lt_int q
theorem NT:gu X (compareOp .LtE) (He λi j=>.bl (decide (i<=j))):=Fe λ_ _ _ _ _ _ _ q=>le_int q
theorem MY:gu X (compareOp .Gt) (He λi j=>.bl (decide (j<i))):=Fe λ_ _ _ _ _ _ _ q=>gt_int q
theorem Mk:gu X (compareOp .GtE) (He λi j=>.bl (decide (j<=i))):=Fe λ_ _ _ _ _ _ _ q=>ge_int q
theorem D6:gu X (compareOp .IsNot) (λx y H Q=>y=.az/\Q (.bl (!decide (x=.az))) H):=by
 intro ae s σ H x y v u Q I rx ry h;obtain⟨rfl,q⟩:=h
 cases ry;refine isnot_none_gen (B4 I q ?_);cases x<;>first
  |(cases rx;rfl)
  |(obtain⟨t,rfl⟩:=rx;rfl)
theorem QM(b:Expr){op:CmpOp}(h:op≠.In:=by decide)(h2:op≠.NotIn:=by decide):behindInMarks op b=false:=by
 have e1:(op==CmpOp.In)=false:=by cases op<;>first|rfl|exact absurd rfl h
 have e2:(op==CmpOp.NotIn)=false:=by cases op<;>first|rfl|exact absurd rfl h2
 cases b<;>simp [behindInMarks,e1,e2]
theorem Dx{op:CmpOp}{r:R2}(ho:gu X (compareOp op) r)(ha:PE X a ta)(hb:PE X b tb)(hm:behindInMarks op b=false):PE X (.Compare a [op] [b] pos) (LW r ta tb):=by
 intro ae s σ H Q I h;exact wpAny_Compare1 (IL ha hb I h λv u s2 x y H2 I2 rx ry q=>ho ae s2 σ H2 x y v u Q I2 rx ry q) hm
def Bp(t:TE):TT:=λσ H Q=>t σ H λx H'=>∃k,x=.bl k/\Q k H'
theorem DE{op:CmpOp}{r:R2}(ho:gu X (compareOp op) r)(ha:PE X a ta)(hb:PE X b tb)(hm:behindInMarks op b=false):PT X (.Compare a [op] [b] pos) (Bp (LW r ta tb)):=by
 intro ae s σ H Q I h;refine wpAny_isTrue_Compare1 (bX (ha ae s σ H _ I h) λv s1 ⟨x,H1,I1,r1,q1⟩=>bX (hb ae s1 σ H1 _ I1 q1) λu s2 ⟨y,H2,I2,r2,q2⟩=>
  bX (ho ae s2 σ H2 x y v u _ I2 r1 r2 q2) λc s3 ⟨z,H3,I3,r3,k,e,q3⟩=>?_) hm
 subst e;cases r3;exact wpAny_truthy_bool ⟨H3,I3,q3⟩
noncomputable def uy(r r':R2)(ta tb tc:TE):TE:=λσ H Q=>ta σ H λx H1=>tb σ H1 λy H2=>r x y H2 λz H3=>∃k,z=.bl k/\
 (if k=true then tc σ H3 λw' H4=>r' y w' H4 Q else Q (.bl false) H3)
theorem Bg{op HK:CmpOp}{r r':R2}(ho:gu X (compareOp op) r)(iG:gu X (compareOp HK) r')(ha:PE X a ta)(hb:PE X b tb)(hc:PE X c tc)
 (hm:lastMarks [op,HK] [b,c]=false:=by with_unfolding_all rfl):PE X (.Compare a [op,HK] [b,c] pos) (uy r r' ta tb tc):=by
 intro ae s σ H Q I h;refine Compare_chain (bX (ha ae s σ H _ I h) λv s1 ⟨x,H1,I1,r1,q1⟩=>chain_link (bX (hb ae s1 σ H1 _ I1 q1) λu s2 ⟨y,H2,I2,r2,q2⟩=>
  bX (ho ae s2 σ H2 x y v u _ I2 r1 r2 q2) λd s3 ⟨z,H3,I3,r3,k,e,q3⟩=>?_)) hm
 subst e;cases r3;refine wpAny_truthy_bool ?_;cases k with
 |false=>exact ite_ff ⟨.bl false,H3,I3,rfl,q3⟩
 |true=>exact ite_tt (chain_last (bX (hc ae s3 σ H3 _ I3 q3) λw' s4 ⟨z',H4,I4,r4,q4⟩=>iG ae s4 σ H4 y z' u w' Q I4 r2 r4 q4))
theorem Ai{op HK:CmpOp}{r r':R2}(ho:gu X (compareOp op) r)(iG:gu X (compareOp HK) r')(ha:PE X a ta)(hb:PE X b tb)(hc:PE X c tc)
 (hm:lastMarks [op,HK] [b,c]=false:=by with_unfolding_all rfl):PT X (.Compare a [op,HK] [b,c] pos) (Bp (uy r r' ta tb tc)):=by
 intro ae s σ H Q I h;refine isTrue_chain (bX (ha ae s σ H _ I h) λv s1 ⟨x,H1,I1,r1,q1⟩=>test_link (bX (hb ae s1 σ H1 _ I1 q1) λu s2 ⟨y,H2,I2,r2,q2⟩=>
  bX (ho ae s2 σ H2 x y v u _ I2 r1 r2 q2) λd s3 ⟨z,H3,I3,r3,k,e,q3⟩=>?_)) hm
 subst e;cases r3;refine wpAny_truthy_bool ?_;cases k with
 |false=>
  obtain⟨k',e',q'⟩:=q3
  cases e';exact ite_ff ⟨H3,I3,q'⟩
 |true=>
  refine ite_tt (test_last (bX (hc ae s3 σ H3 _ I3 q3) λw' s4 ⟨z',H4,I4,r4,q4⟩=>bX (iG ae s4 σ H4 y z' u w' _ I4 r2 r4 q4) λd' s5 ⟨z2,H5,I5,r5,k2,e2,q5⟩=>?_))
  subst e2;cases r5;exact wpAny_truthy_bool ⟨H5,I5,q5⟩
theorem mC:(sizeLine:Nat)<2^63:=by rw [sizeLine_eq];decide
theorem uD:gu X (binaryOp .Add) (λx y H Q=>∃i j,x=.str i/\y=.str j/\i.length+j.length<=sizeLine/\Q (.str (i++j)) H):=by
 intro ae s σ H x y v u Q I rx ry h;obtain⟨i,j,rfl,rfl,hz,q⟩:=h
 obtain⟨t,rfl⟩:=rx
 obtain⟨t',rfl⟩:=ry
 exact add_str (λt' tk=>⟨.str (i++j),H,I.tok _,⟨_,rfl⟩,q⟩) hz
theorem vals1{x:V}{us:List Value}(r:Vals [x] us):∃u,us=[u]/\RelV x u:=by
 cases r with
 |cons r1 r2=>cases r2;exact⟨_,rfl,r1⟩
theorem vals2{x y:V}{us:List Value}(r:Vals [x,y] us):∃u w',us=[u,w']/\RelV x u/\RelV y w':=by
 cases r with
 |cons r1 r2=>
  cases r2 with
  |cons r3 r4=>cases r4;exact⟨_,_,rfl,r1,r3⟩
theorem BR:cg X (.builtin "abs") (λxs H Q=>∃i,xs=[.int i]/\Q (.int (if i<0 then -i else i)) H):=by
 intro ae s σ H xs us Q I r h;obtain⟨i,rfl,q⟩:=h
 obtain⟨u,rfl,t,rfl⟩:=vals1 r
 exact call_abs_int λu tk=>⟨.int (if i<0 then -i else i),H,I.tok _,⟨_,rfl⟩,q⟩
theorem za(hc:X.calm=true):cg X (.builtin "max") (λxs H Q=>∃i j,xs=[.int i,.int j]/\Q (.int (if j>i then j else i)) H):=by
 intro ae s σ H xs us Q I r h;obtain⟨i,j,rfl,q⟩:=h
 obtain⟨u,w',rfl,⟨t,rfl⟩,⟨t',rfl⟩⟩:=vals2 r
 refine max_two_ints (I.ok.hd hc) λh' tk k=>⟨_,H,I.kept k,?_,q⟩
 by_cases hj:j>i
 ·rw [if_pos hj,if_pos hj];exact⟨_,rfl⟩
 ·rw [if_neg hj,if_neg hj];exact⟨_,rfl⟩
theorem pL:cg X (.type "str") (λxs H Q=>∃i,xs=[.int i]/\i.natAbs.log2<1920/\Q (.str (toString i)) H):=by
 intro ae s σ H xs us Q I r h;obtain⟨i,rfl,hz,q⟩:=h
 obtain⟨u,rfl,t,rfl⟩:=vals1 r
 exact PySem.P.str_of_int hz ⟨.str _,H,I.tok _,⟨_,rfl⟩,q⟩
end
theorem kO.some_of{v:V}{o:Option Value}(r:kO (some v) o):∃u,o=some u/\RelV v u:=by
 cases o with
 |none=>exact(show False from r).elim
 |some u=>exact⟨u,rfl,r⟩
structure dM(k:Nat)(A:Around):Prop where
 hd:A.handled=none
 dp:A.depth+3*k+5<recursionLimit
 un:A.units+16*k+200<cLine
theorem dM.mono{j k:Nat}{A:Around}(r:dM k A)(h:j<=k):dM j A:=⟨r.hd,by have:=r.dp;omega,by have:=r.un;omega⟩
theorem dM.deeper{k:Nat}{A:Around}(r:dM (k+1) A)(env:Env):dM k (A.deeper env):=
 ⟨r.hd,by have:=r.dp;show A.depth+1+3*k+5<_;omega,by have:=r.un;show A.units+3+16*k+200<_;omega⟩
theorem dM.in1{k:Nat}{A:Around}(r:dM (k+1) A):dM k A.in1:=
 ⟨r.hd,by have:=r.dp;show A.depth+3*k+5<_;omega,by have:=r.un;show A.units+1+16*k+200<_;omega⟩
theorem dM.depth{k:Nat}{A:Around}(r:dM k A):A.depth<recursionLimit:=by have:=r.dp;omega
theorem dM.units{k:Nat}{A:Around}(r:dM k A):A.units+64<cLine:=by have:=r.un;omega
def Pk:TA:=λ_ H Q=>Q [] H
def L6(ta:TE)(tr:TA):TA:=λσ H Q=>ta σ H λx H1=>tr σ H1 λxs H2=>Q (x::xs) H2
section
variable{X:Cx}{e:Expr}{es:List Expr}{te:TE}{t:TA}{pos:Pos}
theorem dU:PA X [] Pk:=λ_ _ _ _ H Q I h=>Calls.spliced_nil ⟨[],H,I,.nil,h⟩
theorem cx(ha:PE X e te)(hr:PA X es t)(hs:starEach (e::es) X.env=(false,eval e X.env)::starEach es X.env:=by rfl):PA X (e::es) (L6 te t):=by
 intro pos ae s σ H Q I h;rw [hs];show wpAny _ _ (spliced ((false,eval e X.env)::backTo pos (starEach es X.env))) _ _ s;refine Calls.spliced_cons (bX (ha ae s σ H _ I h) λu s1 ⟨x,H1,I1,r1,q1⟩=>?_)
 exact bX (hr pos ae s1 σ H1 _ I1 q1) λus s2 ⟨xs,H2,I2,r2,q2⟩=>⟨x::xs,H2,I2,.cons r1 r2,q2⟩
def PJ(t:TA):TE:=λσ H Q=>t σ H λxs H1=>xs.length<=sizeLine/\∀p,H1 p=none->Q (.ref p) (upd H1 p (.tup xs))
def PM(t:TA):TE:=λσ H Q=>t σ H λxs H1=>xs.length<=sizeLine/\∀p,H1 p=none->Q (.ref p) (upd H1 p (.lst xs))
theorem Ly{x1}(h:PA X es t):PE X (.Tuple es x1 pos) (PJ t):=by
 intro ae s σ H Q I hq;refine wpAny_Tuple_spliced (bX (h pos ae s σ H _ I hq) λus s1 ⟨xs,H1,I1,r,z,q⟩=>⟨by rw [<-r.length];exact z,?_⟩)
 have hf:H1 s1.heap.objs.size=none:=I1.aS.fresh (zzE _)
 refine⟨.ref s1.heap.objs.size,upd H1 s1.heap.objs.size (.tup xs),I1.laid (t':=s1.toks) (λb u e=>zzB _ e) (zzE _) ?_,rfl,q _ hf⟩;exact⟨z,us,r,⟨_,zzX _ rfl,rfl,_,rfl⟩⟩
theorem HB(h:PA X es t):PE X (.List es pos) (PM t):=by
 intro ae s σ H Q I hq;refine wpAny_List_spliced (bX (h pos ae s σ H _ I hq) λus s1 ⟨xs,H1,I1,r,z,q⟩=>⟨by rw [<-r.length];exact z,?_⟩)
 have hf:H1 s1.heap.objs.size=none:=I1.aS.fresh (zzE _)
 refine⟨.ref s1.heap.objs.size,upd H1 s1.heap.objs.size (.lst xs),I1.laid (t':=s1.toks) (λb u e=>zzB _ e) (zzE _) ?_,rfl,q _ hf⟩;exact⟨z,us,0,r,zzX _ rfl⟩
end
abbrev Sp:=List V->Hp->VK->XK->Prop
abbrev zq:=List Env->Hp->Shared->XK->Value->Shared->Prop
structure i9(P:Program)(w:World)(K:PySem.W.Frag)(mg:Str->Option Value)(base:Heap)(A:Around)(outer:List Env)(s:Shared)(H:Hp):Prop where
 frames:A.frames=some outer
 mod:Mod K mg base
 bs:∀b o,base.get? b=some o->s.heap.get? b=some o/\H b=none
 xU:base.objs.size<=s.heap.objs.size
 gO:s.heap.FunFrames base outer
 yn:∀b∈eY outer,H b=none
 aS:eJ P w H s.heap
 bare:AllBare s.gens
def CE(outer:List Env)(P:Program)(w:World)(H:Hp)(s:Shared)(Q:VK)(u:Value)(s':Shared):Prop:=
 ∃v H',s'.os=s.os/\AllBare s'.gens/\Un (eY outer) [] H H' s.heap s'.heap/\eJ P w H' s'.heap/\RelV v u/\Q v H'
def CR(CX:zq)(outer:List Env)(P:Program)(w:World)(H:Hp)(s:Shared)(Q:VK)(E:XK)(r:Result)(s':Shared):Prop:=
 match r with
 |.ok (.ret u)=>CE outer P w H s Q u s'
 |.ok _=>False
 |.error e=>CX outer H s E e s'
structure gq(P:Program)(w:World)(K:PySem.W.Frag)(mg:Str->Option Value)(base:Heap)(CX:zq)(k:Nat)(f:Addr)(fd:FuncData)(ps:List Str)(sp:Sp):Prop where
 len:∀vs H Q E,sp vs H Q E->vs.length=ps.length
 run:∀(A:Around) (outer:List Env) (s:Shared) (H:Hp) (args:Args) (us:List Value) (vs:List V) (Q:VK) (E:XK),dM k A->i9 P w K mg base A outer s H->BindsTo s fd args (ps.zip us)->Vals vs us->sp vs H Q E->
  codeAny (model P w) A (.call (.ref f) args) (CR CX outer P w H s Q E) s
theorem gq.mono{P:Program}{w:World}{K:PySem.W.Frag}{mg:Str->Option Value}{base:Heap}{CX:zq}{j k:Nat}{f:Addr}{fd:FuncData}{ps:List Str}{sp:Sp}(F:gq P w K mg base CX j f fd ps sp)(h:j<=k):
 gq P w K mg base CX k f fd ps sp:=⟨F.len,λA outer s H args us vs Q E hr=>F.run A outer s H args us vs Q E (hr.mono h)⟩
theorem gq.imp{P:Program}{w:World}{K:PySem.W.Frag}{mg:Str->Option Value}{base:Heap}{CX:zq}{k:Nat}{f:Addr}{fd:FuncData}{ps:List Str}{sp SU:Sp}(F:gq P w K mg base CX k f fd ps sp)
 (h:∀vs H Q E,SU vs H Q E->sp vs H Q E):gq P w K mg base CX k f fd ps SU:=
 ⟨λvs H Q E q=>F.len vs H Q E (h _ _ _ _ q),λA outer s H args us vs Q E hr he hb hv hs=>F.run A outer s H args us vs Q E hr he hb hv (h _ _ _ _ hs)⟩
theorem i9.in1{P:Program}{w:World}{K:PySem.W.Frag}{mg:Str->Option Value}{base:Heap}{A:Around}{outer:List Env}{s:Shared}{H:Hp}(e:i9 P w K mg base A outer s H):
 i9 P w K mg base A.in1 outer s H:=⟨e.frames,e.mod,e.bs,e.xU,e.gO,e.yn,e.aS,e.bare⟩
section
variable{X:Cx}{ae:List (Addr×Obj)}{σ:St}{H:Hp}{s s':Shared}
theorem Inv.yi(I:Inv X ae σ H s):i9 X.prog X.w X.K X.mg X.base X.A X.stack s H:=
 ⟨I.ok.frames,I.ok.mod,I.bs,zzU I.ok.xU I.sz,I.stack,I.lE,I.aS,I.bare⟩
theorem Inv.after{Q:VK}{u:Value}(I:Inv X ae σ H s)(h:CE X.stack X.prog X.w H s Q u s'):EP X ae σ Q u s':=by
 obtain⟨v,H',os,bare,un,aS,r,q⟩:=h
 obtain⟨hh,g,d,t,os'⟩:=s'
 obtain rfl:os'=s.os:=os
 exact⟨v,H',I.call (h':=hh) (g':=g) (d':=d) (t':=t) (ch:=[]) un aS bare (λb z=>absurd z (by simp)),r,q⟩
end
def Binds(K:PySem.W.Frag)(fd:FuncData)(ps:List Str)(ds:List Value):Prop:=
 ∀(s:Shared) (us:List Value),K.In s.heap->(us++ds).length=ps.length->BindsTo s fd ⟨us,[]⟩ (ps.zip (us++ds))
theorem Binds.all{K:PySem.W.Frag}{fd:FuncData}{ps:List Str}(h:∀us:List Value,us.length=ps.length->bindArgs fd ⟨us,[]⟩=pure (ps.zip us)):Binds K fd ps []:=λs us _ hl=>by
 rw [List.append_nil] at hl⊢;exact .of_eq (h us hl)
def Passes(CX:zq)(X:Cx)(E:XK):Prop:=∀(ae:List (Addr×Obj)) (σ:St) (H:Hp) (s:Shared) (e:Value) (s':Shared),Inv X ae σ H s->CX X.stack H s E e s'->X.xe e s'
structure lx(N P:List Str)(sc:Scope):Prop where
 kind:sc.kind=.function
 co:sc.isCoroutine=false
 gen:sc.isGenerator=false
 nd:N.Nodup
 pre:N.take P.length=P
 par:∀x∈P,sc.names.lookup x=some .local\/sc.names.lookup x=some .cell
 Kc:∀y∈sc.names,y.2≠.free
theorem n9{kindOf:Str->Option NameKind}{x:Str}:∀{binds:List (Str×Value)} {m:Str->Option Value},(∀v,(x,v)∉binds)->bindL kindOf binds m x=m x
 |[],_,_=>rfl
 |(n,v)::r,m,h=>by
  unfold bindL;rw [n9 λw hw=>h w (zzI _ hw)]
  split
  ·have:x≠n:=by rintro rfl;exact h v zzP
   simp [this]
  ·rfl
theorem oQ{kindOf:Str->Option NameKind}{x:Str}:∀{binds:List (Str×Value)} {m:Str->Option Value},(∀v,(x,v)∉binds)->bindC kindOf binds m x=m x
 |[],_,_=>rfl
 |(n,v)::r,m,h=>by
  unfold bindC;rw [oQ λw hw=>h w (zzI _ hw)]
  split
  ·rfl
  ·have:x≠n:=by rintro rfl;exact h v zzP
   simp [this]
theorem pd{kindOf:Str->Option NameKind}{x:Str}{v:Value}:∀{P:List Str} {vs:List Value} {i:Nat} {m:Str->Option Value},P.Nodup->P[i]?=some x->vs[i]?=some v->kindOf x=some .local->
 bindL kindOf (P.zip vs) m x=some v
 |[],_,_,_,_,h,_,_=>by simp at h
 |_::_,[],_,_,_,_,h,_=>by simp at h
 |p::P,w::vs,0,m,nd,h1,h2,hk=>by
  simp at h1 h2;subst h1;subst h2;show bindL kindOf ((p,w)::P.zip vs) m p=_
  unfold bindL;rw [n9 λv hv=>(List.nodup_cons.mp nd).1 (List.of_mem_zip hv).1,if_pos hk]
  simp
 |p::P,w::vs,i+1,m,nd,h1,h2,hk=>by
  show bindL kindOf ((p,w)::P.zip vs) m x=_
  unfold bindL;exact pd (i:=i) (List.nodup_cons.mp nd).2 (by simpa using h1) (by simpa using h2) hk
theorem oZ{kindOf:Str->Option NameKind}{x:Str}{v:Value}:∀{P:List Str} {vs:List Value} {i:Nat} {m:Str->Option Value},P.Nodup->P[i]?=some x->vs[i]?=some v->kindOf x≠some .local->
 bindC kindOf (P.zip vs) m x=some v
 |[],_,_,_,_,h,_,_=>by simp at h
 |_::_,[],_,_,_,_,h,_=>by simp at h
 |p::P,w::vs,0,m,nd,h1,h2,hk=>by
  simp at h1 h2;subst h1;subst h2;show bindC kindOf ((p,w)::P.zip vs) m p=_
  unfold bindC;rw [oQ λv hv=>(List.nodup_cons.mp nd).1 (List.of_mem_zip hv).1,if_neg hk]
  simp
 |p::P,w::vs,i+1,m,nd,h1,h2,hk=>by
  show bindC kindOf ((p,w)::P.zip vs) m x=_
  unfold bindC;exact oZ (i:=i) (List.nodup_cons.mp nd).2 (by simpa using h1) (by simpa using h2) hk
def start(N:List Str)(vs:List V):St:=vs.map some++List.replicate (N.length-vs.length) none
noncomputable def dW(CX:zq)(P:Program)(w:World)(K:PySem.W.Frag)(mg:Str->Option Value)(base:Heap)(N:List Str)(qual:Str)(scope:Scope)(f:Addr)(cd:Value)(A:Around)(outer:List Env)(s:Shared)(H:Hp)(E:XK):Cx where
 prog:=P
 w:=w
 K:=K
 mg:=mg
 base:=base
 A:=A.deeper (envOfC qual scope s.heap.objs.size f cd)
 N:=N
 s₀:=s
 H₀:=H
 env:=envOfC qual scope s.heap.objs.size f cd
 outer:=outer
 stack:=envOfC qual scope s.heap.objs.size f cd::outer
 ex:=[]
 calm:=true
 fn:=λ_=>true
 pn:=[]
 xe:=λe s'=>wpAny (model P w) (A.deeper (envOfC qual scope s.heap.objs.size f cd)) (leaving (envOfC qual scope s.heap.objs.size f cd) e) (λ_ FG=>CX outer H s E e FG) (λe' FG=>CX outer H s E e' FG) s'
theorem rE{sc:Scope}{n:Nat}{x:Str}(h:sc.names.lookup x=some .cell):∃c,(cellsFrom n sc.names []).lookup x=some c:=by
 have q:=PySem.W.cellsFrom_some sc.names n [] (.inl h)
 exact Option.isSome_iff_exists.mp q
theorem xT{CX:zq}{P:Program}{w:World}{K:PySem.W.Frag}{mg:Str->Option Value}{base:Heap}{N ps:List Str}{qual:Str}{scope:Scope}{f:Addr}{cd:Value}{A:Around}{outer:List Env}{s s1:Shared}{H:Hp}{E:XK}{us:List Value}{vs:List V}
 (S:lx N ps scope) (hd:A.handled=none) (e0:i9 P w K mg base A outer s H) (hl:vs.length=ps.length) (r:Vals vs us)
 (x:InCallC s s.heap.objs.size (bindL (envOfC qual scope s.heap.objs.size f cd).kindOf (ps.zip us) λ_=>none) (cellsFrom (s.heap.objs.size+1) scope.names []) (bindC (envOfC qual scope s.heap.objs.size f cd).kindOf (ps.zip us) λ_=>none) s1):
 Inv (dW CX P w K mg base N qual scope f cd A outer s H E) [] (start N vs) H s1:=by
 have hpl:ps.length<=N.length:=by have:=congrArg List.length S.pre;rw [List.length_take] at this;omega
 obtain⟨h1,tk,rfl,hk⟩:=x.done
 have EI:∀b:Addr,b∉(dW CX P w K mg base N qual scope f cd A outer s H E).ex:=λb z=>absurd (show b∈([]:List Addr) from z) (by simp)
 refine⟨⟨e0.mod,S.kind,rfl,rfl,zzE _,λy z c h1 h2=>?_,λy hy=>?_,λy c _ h=>?_,λ_=>hd,Around.frames_deeper e0.frames,.inr ⟨rfl,rfl⟩,λb z=>absurd z (EI b),e0.bs,e0.xU,λb _ _=>EI b,λb z=>absurd z (EI b),e0.gO,e0.yn⟩,
  rfl,e0.bare,Un.kept hk,⟨_,x.toInCall.ns,λi y v h1 h2 h3=>?_⟩,λy c h=>⟨_,x.cell y c h⟩,e0.aS.fresh (zzE _),λy c h=>?_,λp hp=>absurd (show p∈([]:List (Addr×Obj)) from hp) (by simp),e0.aS.kept hk,?_⟩
 ·exact name_of_addr x.apart (PySem.mem_of_lookup h1) (PySem.mem_of_lookup h2)
 ·have hy:scope.names.lookup y=some .cell\/scope.names.lookup y=some .free:=hy
  rcases hy with hy|hy
  ·exact rE hy
  ·exact absurd rfl (S.Kc _ (PySem.mem_of_lookup hy))
 ·exact Nat.le_of_lt (x.above y c (PySem.mem_of_lookup h))
 ·have hi:i<vs.length:=by
   unfold start at h2
   by_cases hi:i<vs.length
   ·exact hi
   ·rw [List.getElem?_append_right (by simpa using hi)] at h2;rw [List.getElem?_replicate] at h2;split at h2<;>cases h2
  have ha:vs[i]?=some v:=by
   unfold start at h2;rw [List.getElem?_append_left (by simpa using hi),zzQ] at h2;cases e:vs[i]? with
   |none=>rw [e] at h2;cases h2
   |some a=>rw [e] at h2;cases h2;rfl
  obtain⟨u,hu,rv⟩:=r.get ha
  have hp:ps[i]?=some y:=by
   rw [<-S.pre,List.getElem?_take_of_lt (by omega)];exact h1
  have SI:ps.Nodup:=by rw [<-S.pre];exact S.nd.sublist (List.take_sublist _ _)
  refine⟨u,rv,?_⟩;rcases S.par y (zzD hp) with k|k
  ·exact .inl ⟨k,pd SI hp hu k⟩
  ·obtain⟨c,e⟩:=rE (n:=s.heap.objs.size+1) k
   refine .inr ⟨.inl k,c,e,?_⟩;have q:=x.cell y c e
   rw [oZ SI hp hu (by show scope.names.lookup y≠_;rw [k];decide)] at q;exact q
 ·exact e0.aS.fresh (Nat.le_of_lt (x.above y c (PySem.mem_of_lookup h)))
 ·unfold start;show _=N.length
  rw [zzM,zzl,List.length_replicate];omega
theorem ND{CX:zq}{P:Program}{w:World}{K:PySem.W.Frag}{mg:Str->Option Value}{base:Heap}{k:Nat}{f:Addr}{name qual:Str}{params:Arguments}{body:List Stmt}{scope:Scope}{dV kV doc pm fT ct oc:Value}{an od:Option Addr}
 {u4:Array (Option Value)} {N ps:List Str} {sp:Sp} (lk:K.lookup f=some ⟨oc,od,.func (PySem.W.fnOf name qual params body scope dV kV doc pm an fT ct),u4⟩) (uN:PySem.W.codeIn K fT qual=true) (S:lx N ps scope)
 (len:∀vs H Q E,sp vs H Q E->vs.length=ps.length)
 (MX:∀(A:Around) (outer:List Env) (s:Shared) (H:Hp) (vs:List V) (Q:VK) (E:XK),dM k (A.deeper (envOfC qual scope s.heap.objs.size f fT))->sp vs H Q E->
  ∃t,wx (dW CX P w K mg base N qual scope f fT A outer s H E) body t/\t {nx:=λ_ H'=>Q .az H',rt:=Q} (start N vs) H):
 gq P w K mg base CX (k+1) f (PySem.W.fnOf name qual params body scope dV kV doc pm an fT ct) ps sp:=by
 refine⟨len,λA outer s H args us vs Q E hr e0 hb r Hb=>?_⟩
 have hl:=len _ _ _ _ Hb
 have KX:K.In s.heap:=e0.mod.M0.keeps λb o e=>(e0.bs b o e).1
 have lim:s.heap.NoLimit:=e0.mod.nolimit.keeps λb o e=>(e0.bs b o e).1
 have Nt:∀y∈ps.zip us,scope.names.lookup y.1=some .local\/(scope.names.lookup y.1=some .cell/\((cellsFrom (s.heap.objs.size+1) scope.names []).lookup y.1).isSome=true):=λ⟨n,v⟩ hy=>by
  rcases S.par n (List.of_mem_zip hy).1 with q|q
  ·exact .inl q
  ·exact .inr ⟨q,PySem.W.cellsFrom_some _ _ _ (.inl q)⟩
 refine codeAny_call_function hr.depth (KX _ _ lk) rfl S.co S.gen rfl (PySem.W.codeRec_of KX uN) (hb _ _ _ _ ?_);refine wpAny_newFunctionEnv_cells S.kind Nt λenv he s1 x=>?_
 subst he;refine⟨lim.keeps x.toInCall.keep,codeAny_func ?_⟩;obtain⟨t,ht,hq⟩:=MX A outer s H vs Q E (hr.deeper _) Hb
 have I:Inv (dW CX P w K mg base N qual scope f fT A outer s H E) [] (start N vs) H s1:=xT S hr.hd e0 hl r x
 refine wpAny_mono (ht [] s1 (start N vs) H _ I hq) (λfl s' hs=>?_) λe s' hs=>hs
 have fin:∀{σ':St} {H':Hp} {v:V} {u:Value},Inv (dW CX P w K mg base N qual scope f fT A outer s H E) [] σ' H' s'->RelV v u->Q v H'->CE outer P w H s Q u s':=
  λ{σ' H' v u} J rv q=>⟨v,H',J.os,J.bare,J.base,J.aS,rv,q⟩
 cases fl with
 |ret u=>
  obtain⟨v,σ',H',J,rv,q⟩:=hs
  exact fin J rv q
 |next=>
  obtain⟨σ',H',J,q⟩:=hs
  exact fin (v:=V.az) (u:=Value.none) J rfl q
 |brk=>
  obtain⟨_,_,_,q⟩:=hs
  exact False.elim q
 |cont=>
  obtain⟨_,_,_,q⟩:=hs
  exact False.elim q
section
variable{X:Cx}{x:Str}{p pos:Pos}{e:Expr}{es:List Expr}{t:TA}{id T:String}{r:List V->Hp->VK->Prop}
def OF(r:List V->Hp->VK->Prop)(t:TA):TE:=λσ H Q=>t σ H λvs H1=>r vs H1 Q
theorem eG(hc:cg X (.builtin id) r)(hg:Gl X x)(hm:X.mg x=none)(hv:bootBuiltins x=some (.builtin id))(ha:PA X (e::es) t)(hn:x≠"__name__":=by decide)(NL:(x==("__debug__":Str))=false:=by decide)
 (he:starEach (e::es) X.env=(false,eval e X.env)::starEach es X.env:=by rfl) (hpl:(backTo pos (starEach es X.env)).any (·.1)=false:=by rfl):PE X (.Call (.Name x p) (e::es) [] pos) (OF r t):=by
 intro ae s σ H Q I h;refine wpAny_Call_Name_kw (fb I hg hm hv ?_ hn NL);exact PyProof.Rows.callWith_builtin1 (bX (ha pos ae s σ H _ I h) λus s1 ⟨vs,H1,I1,r1,q1⟩=>hc ae s1 σ H1 vs us Q I1 r1 q1) he hpl
theorem d9(hc:cg X (.type T) r)(hg:Gl X x)(hm:X.mg x=none)(hv:bootBuiltins x=some (.type T))(ha:PA X (e::es) t)(hn:x≠"__name__":=by decide)(NL:(x==("__debug__":Str))=false:=by decide)
 (he:starEach (e::es) X.env=(false,eval e X.env)::starEach es X.env:=by rfl) (hpl:(backTo pos (starEach es X.env)).any (·.1)=false:=by rfl):PE X (.Call (.Name x p) (e::es) [] pos) (OF r t):=by
 intro ae s σ H Q I h;refine wpAny_Call_Name_kw (fb I hg hm hv ?_ hn NL);exact PyProof.Rows.callWith_type1 (bX (ha pos ae s σ H _ I h) λus s1 ⟨vs,H1,I1,r1,q1⟩=>hc ae s1 σ H1 vs us Q I1 r1 q1) he hpl
end
end L2
namespace HT
open PySem PyProof.Rows
def lexLt:List Int->List Int->Bool
 |[],[]=>false
 |[],_::_=>true
 |_::_,[]=>false
 |x::xs,y::ys=>if x=y then lexLt xs ys else decide (x<y)
theorem eA(x y:Int)(xs ys:List Int):lexLt (x::xs) (y::ys)=if x=y then lexLt xs ys else decide (x<y):=rfl
theorem fk:lexLt [] []=false:=rfl
theorem m5(y:Int)(ys:List Int):lexLt [] (y::ys)=true:=rfl
theorem mF(x:Int)(xs:List Int):lexLt (x::xs) []=false:=rfl
theorem A0(A:Around)(s:Shared)(a:Int)(t:Tok)(c:Int)(u:Tok):∃e,SeqAt.EqAt A s (.int a t) (.int c u) e/\(e=true↔a=c):=
 ⟨(a==c),SeqAt.EqAt.int_int a t c u,by simp⟩
theorem BJ(A:Around)(s:Shared)(a:Int)(t:Tok)(c:Int)(u:Tok)(prog:Program)(w:World)(E:Value->Shared->Prop)(Q:Value->Shared->Prop)(h:Q (.bool (decide (a<c))) s):
 wpAny (model prog w) A (richCompare .Lt (.int a t) (.int c u)) Q E s:=
 (PyProof.Rows.lt_int h:wpAny (model prog w) A (compareOp .Lt (.int a t) (.int c u)) Q E s)
section
open PySem.SeqAt
open PySem.AutoSeq1 (wpAny_loadPart')
open PySem.MeetsSeq PySem.MeetsSeq2 PySem.MeetsSeq3
theorem nR(l b:Addr)(items eZ:Array Value)(n n2:Nat)(dd Q0:Option Addr)(sl MH:Array (Option Value))(ns ms:List Int)(hi:IntsAre items.toList ns)(hj:IntsAre eZ.toList ms):
 Meets (Builtin.«tuple.__lt__» ⟨[.ref l,.ref b],[]⟩)
  (λ_ R s=>s.heap.get? l=some {cls:=.type "tuple",dict:=dd,data:=.seq items n,slots:=sl}/\s.heap.get? b=some {cls:=.type "tuple",dict:=Q0,data:=.seq eZ n2,slots:=MH}/\
   R (.ok (.ret (.bool (lexLt ns ms)))) s):=
 .of_wp λprog w A R s h=>by
  obtain⟨hp,g,d,tk,os⟩:=s;obtain⟨hl,hb,h⟩:=h
  have f2:=AutoSeq1.sub_tuple_tuple
  have z1:items.size=ns.length:=by rw [<-hi.length];simp
  have z2:eZ.size=ms.length:=by rw [<-hj.length];simp
  wp_walk using wpAny_loadPart' hl,wpAny_loadPart' hb,wpAny_forIn_list _ (λrest b s'=>b.1=none/\s'=⟨hp,g,d,tk,os⟩/\∃(vs ws:List Value) (qX LO:List Int),rest=vs.zip ws/\
   IntsAre vs qX/\IntsAre ws LO/\qX.length+eZ.size=LO.length+items.size/\R (.ok (.ret (.bool (lexLt qX LO)))) ⟨hp,g,d,tk,os⟩) _
  case turn=>
   rintro ⟨y,x⟩ rest b s' ⟨iR,rfl,vs,ws,qX,LO,hz,NI,hwi,hlen,hR⟩
   cases NI with
   |nil=>rw [List.zip_nil_left] at hz;cases hz
   |cons a t hvi'=>
    cases hwi with
    |nil=>rw [List.zip_nil_right] at hz;cases hz
    |cons c u hwi'=>
     rw [List.zip_cons_cons] at hz
     injection hz with hyx hrest
     injection hyx with hy hx
     subst hy hx;rw [eA] at hR;simp only [zzL] at hlen;obtain⟨e,he,hiff⟩:=A0 A.in1 ⟨hp,g,d,tk,os⟩ a t c u
     refine zzA (he prog w _ _ ?_);cases e with
     |true=>
      rw [if_pos (hiff.mp rfl)] at hR
      wp_walk
      exact⟨rfl,rfl,_,_,_,_,hrest,hvi',hwi',by omega,hR⟩
     |false=>
      rw [if_neg (λq=>absurd (hiff.mpr q) zzf)] at hR
      have Ux:=BJ A.in1 ⟨hp,g,d,tk,os⟩ a t c u prog w
      wp_walk using Ux
      exact⟨_,rfl,by simpa using hR⟩
  case fin=>
   rintro ⟨b1,b2⟩ s' ⟨iR,rfl,vs,ws,qX,LO,hz,NI,hwi,hlen,hR⟩
   simp only at iR;subst iR;have hv:lexLt qX LO=decide (items.size<eZ.size):=by
    cases NI with
    |nil=>
     cases hwi with
     |nil=>
      simp only [List.length_nil] at hlen;rw [fk];exact(decide_eq_false (by omega)).symm
     |cons c u hw=>
      simp only [List.length_nil,zzL] at hlen;rw [m5];exact(zzh (by omega)).symm
    |cons a t hv=>
     cases hwi with
     |nil=>
      simp only [List.length_nil,zzL] at hlen;rw [mF];exact(decide_eq_false (by omega)).symm
     |cons c u hw=>
      rw [List.zip_cons_cons] at hz;cases hz
   rw [hv] at hR
   wp_walk
   exact⟨_,rfl,by simpa [Builtin.Tuple.tupleCompareSizes] using hR⟩
  case h=>
   exact⟨rfl,rfl,items.toList,eZ.toList,ns,ms,rfl,hi,hj,by omega,h⟩
end
section
variable{prog:Program}{w:World}{A:Around}{E:Value->Shared->Prop}{s:Shared}
theorem lX{l b:Addr}{items eZ:Array Value}{ns ms:List Int}{Q:Value->Shared->Prop}(hl:IsTup s.heap l items)(hb:IsTup s.heap b eZ)(hi:IntsAre items.toList ns)(hj:IntsAre eZ.toList ms)
 (hu:A.units<cLine) (h:Q (.bool (lexLt ns ms)) s):wpAny (model prog w) A (compareOp .Lt (.ref l) (.ref b)) Q E s:=by
 obtain⟨⟨cls,dd,data,sl⟩,ho,hc,n,hd⟩:=id hl
 obtain⟨⟨cls2,Q0,data2,MH⟩,JX,hc2,n2,hd2⟩:=id hb
 simp only at hc hd hc2 hd2;subst hc hd hc2 hd2;exact richCompare_meets_room (op:=.Lt) ⟨_,ho,rfl⟩ ⟨_,JX,rfl⟩ PySem.F.slot_tuple_lt PySem.F.entry_tuple_lt (PySem.F.args_tuple_lt_2 _ _) (nR l b items eZ n n2 dd Q0 sl MH ns ms hi hj)
  ⟨ho,JX,show Value.bool (lexLt ns ms)≠Value.notImplemented/\Q (.bool (lexLt ns ms)) s from⟨(λx=>nomatch x),h⟩⟩ hu
def oz(n d:Nat):Option Int->Nat
 |none=>d
 |some v=>if v<0 then(v+(n:Int)).toNat else min v.toNat n
theorem rC(n d:Nat):oz n d none=d:=rfl
theorem xa(n d k:Nat):oz n d (some (k:Int))=min k n:=by
 show(if(k:Int)<0 then((k:Int)+(n:Int)).toNat else min (k:Int).toNat n)=min k n
 rw [if_neg (by omega),Int.toNat_natCast]
theorem uq{v:Value}{o:Option Int}{Q:Option Int->Shared->Prop}(p:IsPart v o)(h:Q o s):wpAny (model prog w) A (Builtin.Slice.slicePartIndex v) Q E s:=by
 cases p with
 |none=>exact slicePart_none h
 |int i t=>exact slicePart_int h
end
end HT
namespace L2
open PySem PySem.Spec PyProof.Rows
abbrev TO:=St->Hp->(Option Int->Hp->Prop)->Prop
def PO(X:Cx)(e:Option Expr)(t:TO):Prop:=
 ∀(ae:List (Addr×Obj)) (s:Shared) (σ:St) (H:Hp) (Q:Option Int->Hp->Prop),Inv X ae σ H s->t σ H Q->
  wpAny (model X.prog X.w) X.A (evalPart e X.env) (λu s'=>∃o H',Inv X ae σ H' s'/\IsPart u o/\Q o H') X.xe s
def C8:TO:=λ_ H Q=>Q none H
def Nj(t:TE):TO:=λσ H Q=>t σ H λx H1=>∃i,x=.int i/\Q (some i) H1
theorem intsAre_of{ns:List Int}:∀{us:List Value},Vals (ns.map V.int) us->IntsAre us ns:=by
 induction ns with
 |nil=>intro us r;rw [List.map_nil] at r;cases r;exact .nil
 |cons n ns ih=>
  intro us r;rw [zzF] at r;cases r with
  |cons r1 r2=>
   obtain⟨t,e⟩:=r1
   subst e;exact .cons n t (ih r2)
section
variable{X:Cx}{e:Expr}{te:TE}{lo hi:Option Expr}{tl th:TO}{pos p2:Pos}
theorem FR:PO X none C8:=by
 intro ae s σ H Q I h;rw [evalPart_none];exact zzG ⟨none,H,I,.none,h⟩
theorem Dh(h:PE X e te):PO X (some e) (Nj te):=by
 intro ae s σ H Q I hw;rw [evalPart_some];refine bX (h ae s σ H _ I hw) λu s1 ⟨x,H1,I1,r1,q1⟩=>?_
 obtain⟨i,rfl,q⟩:=q1
 obtain⟨t,rfl⟩:=r1
 exact⟨some i,H1,I1,.int i t,q⟩
def GK(X:Cx)(r:V->Option Int->Option Int->Hp->VK->Prop):Prop:=
 ∀(ae:List (Addr×Obj)) (s:Shared) (σ:St) (H:Hp) (x:V) (v vl vu:Value) (lo hi:Option Int) (sl:Addr) (Q:VK),Inv X ae σ H s->RelV x v->s.heap.IsSliceOf sl vl vu .none->IsPart vl lo->IsPart vu hi->r x lo hi H Q->
  ∃T id,typeLookup (.type T) "__getitem__"=pure (some (.builtin id))/\s.TypeIs v T/\wpAny (model X.prog X.w) X.A (getItem v (.ref sl)) (EP X ae σ Q) X.xe s
def UO(r:V->Option Int->Option Int->Hp->VK->Prop)(te:TE)(tl th:TO):TE:=λσ H Q=>te σ H λx H1=>tl σ H1 λl H2=>th σ H2 λu H3=>r x l u H3 Q
theorem Bf{r:V->Option Int->Option Int->Hp->VK->Prop}(hr:GK X r)(he:PE X e te)(hl:PO X lo tl)(hu:PO X hi th):PE X (.Subscript e (.Slice lo hi none p2) pos) (UO r te tl th):=by
 intro ae s σ H Q I h;refine Subscript_ (bX (he ae s σ H _ I h) λv s1 ⟨x,H1,I1,r1,q1⟩=>?_)
 refine wpAny_Slice (bX (hl ae s1 σ H1 _ I1 q1) λvl s2 ⟨l,H2,I2,pl,q2⟩=>bX (hu ae s2 σ H2 _ I2 q2) λvu s3 ⟨u,H3,I3,pu,q3⟩=>?_)
 rw [evalPart_none];refine zzG ?_;have I4:Inv X ae σ H3 {s3 with heap:=s3.heap.push {cls:=.type "slice",data:=.fields #[vl,vu,.none]}}:=I3.kept (t':=s3.toks) λb ob q=>zzB _ q
 obtain⟨T,id,hT,ht,hg⟩:=hr ae {s3 with heap:=s3.heap.push {cls:=.type "slice",data:=.fields #[vl,vu,.none]}} σ H3 x v vl vu l u s3.heap.objs.size Q I4 r1 (Heap.IsSliceOf.new ..) pl pu q3
 show wpAny (model X.prog X.w) X.A (subscriptTail e (.Slice lo hi none p2) v (.ref s3.heap.objs.size)) (EP X ae σ Q) X.xe {s3 with heap:=s3.heap.push {cls:=.type "slice",data:=.fields #[vl,vu,.none]}}
 exact tail_any (ops:=[.ref s3.heap.objs.size,v]) ht hT hg (by with_unfolding_all rfl)
def yX(xs:List V)(lo hi:Option Int):List V:=(xs.drop (HT.oz xs.length 0 lo)).take (HT.oz xs.length xs.length hi-HT.oz xs.length 0 lo)
theorem rM(xs:List V)(lo hi:Option Int):(yX xs lo hi).length<=xs.length:=by
 unfold yX;rw [List.length_take,List.length_drop];omega
noncomputable def QS(K:PySem.W.Frag):R2:=λx y H Q=>∃a b ns ms,x=.ref a/\y=.ref b/\eP K H a (ns.map V.int)/\eP K H b (ms.map V.int)/\Q (.bl (HT.lexLt ns ms)) H
theorem IZ(hu:X.A.units<cLine):gu X (compareOp .Lt) (QS X.K):=by
 intro ae s σ H x y v u Q I rx ry h;obtain⟨a,b,ns,ms,rfl,rfl,ha,hb,q⟩:=h
 cases rx;cases ry;obtain⟨ax,r1,p1,_⟩:=I.tuple ha
 obtain⟨aF,r2,p2,_⟩:=I.tuple hb
 have i1:IntsAre ax.toArray.toList ns:=intsAre_of r1
 have i2:IntsAre aF.toArray.toList ms:=intsAre_of r2
 exact HT.lX p1 p2 i1 i2 hu ⟨.bl (HT.lexLt ns ms),H,I,rfl,q⟩
end
def KQ(n:Nat)(i:Int):Option Nat:=if 0<=i then(if i<n then some i.toNat else none) else if -(n:Int)<=i then some (i+n).toNat else none
def ub{α:Type}(xs:List α)(i:Int):Option α:=(KQ xs.length i).bind λj=>xs[j]?
theorem FP{n:Nat}{i:Int}{j:Nat}(h:KQ n i=some j):seqIndex? i n=some j/\j<n/\ -(n:Int)<=i/\i<n:=by
 unfold KQ at h
 by_cases h0:0<=i
 ·rw [if_pos h0] at h
  by_cases h1:i<n
  ·rw [if_pos h1] at h;have e:i.toNat=j:=Option.some.inj h
   exact⟨by rw [seqIndex_of h0 h1,e],by omega,by omega,h1⟩
  ·rw [if_neg h1] at h;cases h
 ·rw [if_neg h0] at h
  by_cases h1: -(n:Int)<=i
  ·rw [if_pos h1] at h;have e:(i+n).toNat=j:=Option.some.inj h
   exact⟨by rw [seqIndex_neg (by omega) h1,e],by omega,h1,by omega⟩
  ·rw [if_neg h1] at h;cases h
theorem qd{α:Type}{xs:List α}{i:Int}{v:α}(h:ub xs i=some v):∃j,seqIndex? i xs.length=some j/\xs[j]?=some v/\j<xs.length/\ -(xs.length:Int)<=i/\i<xs.length:=by
 unfold ub at h;cases e:KQ xs.length i with
 |none=>rw [e] at h;cases h
 |some j=>
  rw [e] at h;obtain⟨h1,h2,h3,h4⟩:=FP e
  exact⟨j,h1,h,h2,h3,h4⟩
def qU(b:Expr):Prop:=∀o i,subscripted b false o i=operate [o,i] (getItem o i)
def LK(X:Cx)(r:R2):Prop:=
 ∀(value slice:Expr) (ae:List (Addr×Obj)) (s:Shared) (σ:St) (H:Hp) (x y:V) (v u:Value) (Q:VK),Inv X ae σ H s->RelV x v->RelV y u->r x y H Q->
  subscripted slice false v u=operate [v,u] (getItem v u)->wpAny (model X.prog X.w) X.A (subscriptTail value slice v u) (EP X ae σ Q) X.xe s
def SX(X:Cx)(id:String)(r:V->List V->Hp->VK->Prop):Prop:=
 ∀(ae:List (Addr×Obj)) (s:Shared) (σ:St) (H:Hp) (x:V) (xs:List V) (v:Value) (us:List Value) (Q:VK),Inv X ae σ H s->RelV x v->Vals xs us->r x xs H Q->
  wpAny (model X.prog X.w) X.A (call (.builtin id) (v::us)) (EP X ae σ Q) X.xe s
section
variable{X:Cx}{a b:Expr}{ta tb:TE}{pos:Pos}
theorem Hi{r:R2}(hr:LK X r)(ha:PE X a ta)(hb:PE X b tb)(hs:qU b):PE X (.Subscript a b pos) (LW r ta tb):=by
 intro ae s σ H Q I h;exact Subscript_ (IL ha hb I h λv u s2 x y H2 I2 rx ry q=>hr a b ae s2 σ H2 x y v u Q I2 rx ry q (hs _ _))
noncomputable def Pu(K:PySem.W.Frag):R2:=λx y H Q=>∃p xs i v,x=.ref p/\y=.int i/\eF K H p xs/\ub xs i=some v/\Q v H
noncomputable def Nm(K:PySem.W.Frag):R2:=λx y H Q=>∃p xs i v,x=.ref p/\y=.int i/\eP K H p xs/\ub xs i=some v/\Q v H
noncomputable def PN:R2:=λx y H Q=>∃z i c,x=.str z/\y=.int i/\z.length<=sizeLine/\ub z.cps.toList i=some c/\Q (.str ⟨#[c]⟩) H
theorem E6:LK X (Pu X.K):=by
 intro value slice ae s σ H x y v u Q I rx ry h hs;obtain⟨p,xs,i,z,rfl,rfl,hq,he,q⟩:=h
 cases rx;obtain⟨t,rfl⟩:=ry
 obtain⟨ax,r,pl,hz⟩:=I.list hq
 obtain⟨j,h1,h2,h3,h4,h5⟩:=qd he
 obtain⟨w,ew,ij⟩:=r.get h2
 have hl:=r.length
 have hn:=mC
 have fin:EP X ae σ Q w s:=⟨z,H,I,ij,q⟩
 by_cases h0:0<=i
 ·have hj:i.toNat=j:=by
   rw [seqIndex_of h0 h5] at h1;exact Option.some.inj h1
  exact item_listR pl.isList h0 (by omega) (by rw [hj];simpa using ew) fin hs
 ·have hj:(i+(ax.toArray.size:Int)).toNat=j:=by
   rw [seqIndex_neg (by omega) h4] at h1;rw [zzC,<-hl];exact Option.some.inj h1
  exact subscriptTail_builtinR (x:=w) pl.isList.typeIs slot_list_getitem.lookup
   (wpAny_getItem_list_neg (Q:=λr s'=>r=w/\EP X ae σ Q r s') pl.isList (by omega) (by rw [zzC]<;>omega) (by omega) (by rw [hj];simpa using ew) ⟨rfl,fin⟩) hs
theorem BQ:LK X (Nm X.K):=by
 intro value slice ae s σ H x y v u Q I rx ry h hs;obtain⟨p,xs,i,z,rfl,rfl,hq,he,q⟩:=h
 cases rx;obtain⟨t,rfl⟩:=ry
 obtain⟨ax,r,pl,hz⟩:=I.tuple hq
 obtain⟨j,h1,h2,h3,h4,h5⟩:=qd he
 obtain⟨w,ew,ij⟩:=r.get h2
 have hl:=r.length
 have hn:=mC
 have fin:EP X ae σ Q w s:=⟨z,H,I,ij,q⟩
 exact subscriptTail_builtinR (x:=w) pl.typeIs slot_tuple_getitem.lookup
  (getItem_tuple (j:=j) (Q:=λr s'=>r=w/\EP X ae σ Q r s') pl (by omega) (by omega) (by rw [zzC,<-hl];exact h1) (by simpa using ew) ⟨rfl,fin⟩) hs
theorem Ke:LK X PN:=by
 intro value slice ae s σ H x y v u Q I rx ry h hs;obtain⟨z,i,c,rfl,rfl,hz,he,q⟩:=h
 obtain⟨t,rfl⟩:=rx
 obtain⟨t',rfl⟩:=ry
 obtain⟨j,h1,h2,h3,h4,h5⟩:=qd he
 have hl:z.cps.toList.length=z.length:=by simp [Str.length]
 rw [hl] at h1 h4 h5;have hn:=mC
 exact tail_any (typeIs_str s z t) slot_str_getitem.lookup (getItem_str (c:=c) (by
  have e1:decide (i< -(2^63:Int))=false:=decide_eq_false (by omega)
  have e2:decide (i>=2^63)=false:=decide_eq_false (by omega)
  rw [e1,e2,Bool.or_false]) (by rw [h1];simpa using h2) ⟨.str ⟨#[c]⟩,H,I.tok _,⟨_,rfl⟩,q⟩) hs
theorem qp(lo hi:Option Int)(n:Nat):(sliceBounds lo hi none n).1=((HT.oz n 0 lo:Nat):Int)/\(sliceBounds lo hi none n).2.1=((HT.oz n n hi:Nat):Int)/\(sliceBounds lo hi none n).2.2=1:=by
 refine⟨?_,?_,rfl⟩
 ·cases lo with
  |none=>simp [sliceBounds,HT.oz]
  |some i=>
   simp only [sliceBounds,HT.oz,Option.getD_none,show(1:Int)>0 by decide,if_true]
   by_cases h:i<0
   ·simp only [h,if_true]<;>omega
   ·simp only [h,if_false]<;>omega
 ·cases hi with
  |none=>simp [sliceBounds,HT.oz]
  |some i=>
   simp only [sliceBounds,HT.oz,Option.getD_none,show(1:Int)>0 by decide,if_true]
   by_cases h:i<0
   ·simp only [h,if_true]<;>omega
   ·simp only [h,if_false]<;>omega
theorem nJ(ax:List Value)(lo hi:Option Int):slicePick ax.toArray lo hi none=((ax.drop (HT.oz ax.length 0 lo)).take (HT.oz ax.length ax.length hi-HT.oz ax.length 0 lo)).toArray:=by
 obtain⟨h1,h2,h3⟩:=qp lo hi ax.toArray.size
 unfold slicePick;rw [h1,h2,h3];simp only [sliceRange_one,pick_run,zzC]<;>rfl
def PX(K:PySem.W.Frag):V->Option Int->Option Int->Hp->VK->Prop:=λx lo hi H Q=>∃a xs,x=.ref a/\eF K H a xs/\∀p,H p=none->Q (.ref p) (upd H p (.lst (yX xs lo hi)))
theorem FD:GK X (PX X.K):=by
 intro ae s σ H x v vl vu lo hi sl Q I rx hs pl pu h;obtain⟨a,xs,rfl,hx,q⟩:=h
 cases rx;obtain⟨ax,r,ht,hz⟩:=I.list hx
 have hlen:=r.length
 refine⟨"list",_,slot_list_getitem.lookup,ht.isList.typeIs,?_⟩;refine wpAny_getItem_list_slice ht.isList hs pl pu .none (by simp) ?_ (by rw [zzC]<;>omega);rw [nJ,<-hlen];refine⟨.ref s.heap.objs.size,_,I.laid (t':=s.toks) (o:=.lst (yX xs lo hi)) (λb ob q=>zzB _ q) (zzE _) ?_,rfl,q _ (I.aS.fresh (zzE _))⟩;exact⟨zzU (rM xs lo hi) hz,_,0,(r.drop (HT.oz xs.length 0 lo)).take (HT.oz xs.length xs.length hi-HT.oz xs.length 0 lo),zzX _ rfl⟩
theorem i6:cg X (.builtin "len") (λxs H Q=>∃p ys,xs=[.ref p]/\(eF X.K H p ys\/eP X.K H p ys)/\Q (.int ys.length) H):=by
 intro ae s σ H xs us Q I r h;obtain⟨p,ys,rfl,hq,q⟩:=h
 obtain⟨u,rfl,rx⟩:=vals1 r
 cases rx;have hn:=mC
 rcases hq with hq|hq
 ·obtain⟨ax,r',pl,hz⟩:=I.list hq
  have hlen:=r'.length
  exact Calls.call_len_list pl.isList (by simp only [zzC]<;>omega) ⟨.int ys.length,H,I.tok _,⟨s.toks+1,by rw [zzC,hlen]⟩,q⟩
 ·obtain⟨ax,r',pl,hz⟩:=I.tuple hq
  have hlen:=r'.length
  exact len_tuple pl (by simp only [zzC]<;>omega) ⟨.int ys.length,H,I.tok _,⟨s.toks+1,by rw [zzC,hlen]⟩,q⟩
theorem pG:cg X (.builtin "len") (λxs H Q=>∃z,xs=[.str z]/\z.length<=sizeLine/\Q (.int z.length) H):=by
 intro ae s σ H xs us Q I r h;obtain⟨z,rfl,hz,q⟩:=h
 obtain⟨u,rfl,t,rfl⟩:=vals1 r
 have hn:=mC
 exact len_str (by omega) ⟨.int z.length,H,I.tok _,⟨_,rfl⟩,q⟩
theorem i4:cg X (.type "list") (λxs H Q=>∃p ys,xs=[.ref p]/\(eF X.K H p ys\/eP X.K H p ys)/\∀l,H l=none->Q (.ref l) (upd H l (.lst ys))):=by
 intro ae s σ H xs us Q I r h;obtain⟨p,ys,rfl,hq,q⟩:=h
 obtain⟨u,rfl,rx⟩:=vals1 r
 cases rx;have fin:∀(ax:List Value),Vals ys ax->ys.length<=sizeLine->∀(h':Heap) (c':Nat),(∀b o',s.heap.get? b=some o'->h'.get? b=some o')->
  h'.get? s.heap.objs.size=some {cls:=.type "list",dict:=none,data:=.seq ax.toArray c',slots:=#[]}->EP X ae σ Q (.ref s.heap.objs.size) {s with heap:=h'}:=λax r' hz h' c' kp e=>
  ⟨.ref s.heap.objs.size,_,I.laid (t':=s.toks) kp (zzE _) (show bV X.prog X.w _ h' _ (.lst ys) from⟨hz,ax,c',r',e⟩),rfl,q _ (I.aS.fresh (zzE _))⟩
 rcases hq with hq|hq
 ·obtain⟨ax,r',pl,hz⟩:=I.list hq
  have hlen:=r'.length
  obtain⟨o,ho,hc,n,hd⟩:=pl.isList
  exact call_list_seq p (.inl rfl) ho hc hd (λh' c' kp e=>fin ax r' hz h' c' kp e) (by simp only [zzC]<;>omega)
 ·obtain⟨ax,r',pl,hz⟩:=I.tuple hq
  have hlen:=r'.length
  obtain⟨o,ho,hc,n,hd⟩:=pl
  exact call_list_seq p (.inr rfl) ho hc hd (λh' c' kp e=>fin ax r' hz h' c' kp e) (by simp only [zzC]<;>omega)
theorem nQ:cg X (.type "tuple") (λxs H Q=>∃p ys,xs=[.ref p]/\((eF X.K H p ys/\∀l,H l=none->Q (.ref l) (upd H l (.tup ys)))\/(eP X.K H p ys/\Q (.ref p) H))):=by
 intro ae s σ H xs us Q I r h;obtain⟨p,ys,rfl,h⟩:=h
 obtain⟨u,rfl,rx⟩:=vals1 r
 cases rx;rcases h with⟨hq,q⟩|⟨hq,q⟩
 ·obtain⟨ax,r',pl,hz⟩:=I.list hq
  have hlen:=r'.length
  refine call_tuple_list pl.isList (λh' kp=>?_) (by simp only [zzC]<;>omega);have I1:Inv X ae σ H {s with heap:=h'}:=I.kept (t':=s.toks) kp
  have I2:Inv X ae σ (upd H h'.objs.size (.tup ys)) {s with heap:=h'.push {cls:=.type "tuple",data:=.seq ax.toArray}}:=
   I1.laid (t':=s.toks) (λb o e=>zzB _ e) (zzE _) (show bV X.prog X.w _ _ _ (.tup ys) from⟨hz,ax,r',IsTup.new _ _⟩)
  exact⟨.ref h'.objs.size,_,I2,rfl,q _ (I1.aS.fresh (zzE _))⟩
 ·obtain⟨ax,r',pl,hz⟩:=I.tuple hq
  exact call_tuple_same pl ⟨.ref p,H,I,rfl,q⟩
def Sa(K:PySem.W.Frag)(T:String)(x:V)(H:Hp):Prop:=match x with
 |.str _=>T="str"
 |.int _=>T="int"
 |.ref p=>(T="list"/\∃xs,eF K H p xs)\/(T="tuple"/\∃o,K.lookup p=some o/\o.cls=.type "tuple"/\o.dict=none)\/
  (T="dict"/\((∃aw,H p=some (.dK aw))\/∃aw,H p=some (.dT aw)))\/(T="set"/\∃S n,H p=some (.set S n))
 |_=>False
theorem Kx{ae:List (Addr×Obj)}{σ:St}{H:Hp}{s:Shared}{T:String}{x:V}{v:Value}(I:Inv X ae σ H s)(r:RelV x v)(ty:Sa X.K T x H):
 s.TypeIs v T/\∀a,v=.ref a->∃ob,s.heap.get? a=some ob/\ob.dict=none:=by
 cases x with
 |str z=>
  obtain⟨t,rfl⟩:=r
  cases(show T="str" from ty);exact⟨typeIs_str s z t,λ_ e=>nomatch e⟩
 |int i=>
  obtain⟨t,rfl⟩:=r
  cases(show T="int" from ty);exact⟨typeIs_int s i t,λ_ e=>nomatch e⟩
 |ref p=>
  cases r;rcases ty with⟨rfl,xs,hq⟩|⟨rfl,o,hk,hc,hd⟩|⟨rfl,hk⟩|⟨rfl,S,n,hk⟩
  ·obtain⟨ax,_,pl,_⟩:=I.list hq
   refine⟨pl.isList.typeIs,λa e=>?_⟩
   cases e;obtain⟨o,n,e,c,hd,_⟩:=pl
   exact⟨o,e,hd⟩
  ·refine⟨⟨o,I.sI p o hk,hc⟩,λa e=>?_⟩
   cases e;exact⟨o,I.sI _ o hk,hd⟩
  ·have z:∃o,s.heap.get? p=some o/\o.ExactDict:=by
    rcases hk with⟨aw,hk⟩|⟨aw,hk⟩
    ·obtain⟨_,_,_,_,o,_,_,e,ex,_⟩:=I.aS p _ hk
     exact⟨o,e,ex⟩
    ·obtain⟨_,_,_,_,o,_,_,e,ex,_⟩:=I.aS p _ hk
     exact⟨o,e,ex⟩
   obtain⟨o,e,ex⟩:=z
   refine⟨⟨o,e,ex.1⟩,λa e2=>?_⟩
   cases e2;exact⟨o,e,ex.2.1⟩
  ·obtain⟨o,_,_,_,e,ex,_⟩:=I.aS p _ hk
   refine⟨⟨o,e,ex.1⟩,λa e2=>?_⟩
   cases e2;exact⟨o,e,ex.2.1⟩
 |_=>exact False.elim ty
noncomputable def Um(K:PySem.W.Frag)(T:String)(r:V->List V->Hp->VK->Prop)(to:TE)(t:TA):TE:=λσ H Q=>to σ H λx H1=>Sa K T x H1/\t σ H1 λxs H2=>r x xs H2 Q
variable{o e:Expr}{es:List Expr}{to:TE}{t:TA}{name:Str}{apos cE:Pos}{T id:String}{r:V->List V->Hp->VK->Prop}
theorem G8(pa:PlainAttrs T)(slot:Slot T name id)(GC:typeOf (.builtin id)=pure (.type "method_descriptor"))(hm:SX X id r)(ho:PE X o to)(ha:PA X (e::es) t)
 (ip:attributeBase o name X.env (eval o X.env)=eval o X.env:=by rfl)
 (QG:((backTo cE (starEach (e::es) X.env)).all (λx=>!x.1)&&(backToKw cE (keywordEach [] X.env)).all (λx=>x.1.isSome)
  &&decide ((e::es).length+([]:List Keyword).length+(if([]:List Keyword).isEmpty then 0 else 1)<30))=true:=by rfl)
 (mM:(apos.endLine==cE.line)=true:=by rfl) (hs:starEach (e::es) X.env=(false,eval e X.env)::starEach es X.env:=by rfl) (uW:(backTo cE (starEach es X.env)).any (·.1)=false:=by rfl):
 PE X (.Call (.Attribute o name apos) (e::es) [] cE) (Um X.K T r to t):=by
 intro ae s σ H Q I h;refine wpAny_Call_method_late ip QG mM rfl (bX (ho ae s σ H _ I h) λv s1 ⟨x,H1,I1,r1,ty,q1⟩=>?_)
 obtain⟨h1,h2⟩:=Kx I1 r1 ty
 refine⟨T,id,pa,slot,GC,h1,h2,?_⟩;have hA:=ha cE ae s1 σ H1 _ I1 q1
 rw [hs] at hA⊢;refine Calls.callWith_builtin (by show(false||(backTo cE (starEach es X.env)).any (·.1))=false;rw [uW]<;>rfl) (Calls.evalArgs_plain ?_);exact bX hA λus s2 ⟨vs,H2,I2,r2,q2⟩=>hm ae s2 σ H2 x vs v us Q I2 r1 r2 q2
end
def Uo(X:Cx)(id:String)(r:V->List V->Hp->VK->Prop):Prop:=
 ∀(ae:List (Addr×Obj)) (s:Shared) (σ:St) (H:Hp) (x:V) (xs:List V) (v:Value) (us:List Value) (Q:VK),Inv X ae σ H s->RelV x v->Vals xs us->r x xs H Q->
  wpAny (model X.prog X.w) X.A (call (.builtin id) (v::us)) (EP X ae σ Q) X.xe s
theorem Vals.one:∀{x:V} {us:List Value},Vals [x] us->∃u,us=[u]/\RelV x u
 |_,_,.cons r .nil=>⟨_,rfl,r⟩
theorem Vals.two{x y:V}{us:List Value}(h:Vals [x,y] us):∃u v,us=[u,v]/\RelV x u/\RelV y v:=by
 cases h with
 |cons r q=>
  cases q with
  |cons q n=>cases n;exact⟨_,_,rfl,r,q⟩
section
variable{X:Cx}{ae:List (Addr×Obj)}{σ:St}{H:Hp}{s:Shared}{l:Addr}{xs ys:List V}
theorem Inv.MQ{ax its':List Value}{n:Nat}{f:Array Value->Array Value}{t':Nat}(I:Inv X ae σ H s)(hH:H l=some (.lst xs))
 (e:s.heap.get? l=some {cls:=.type "list",data:=.seq ax.toArray n}) (hf:f ax.toArray=its'.toArray) (hv:Vals ys its') (hz:ys.length<=sizeLine):
 Inv X ae σ (upd H l (.lst ys)) {s with heap:=s.heap.update l (Obj.mapSeq f),toks:=t'}:=by
 have q:=PySem.IsL.update e f
 rw [hf] at q;refine I.write (x:=l) (e:=l) (by rw [hH];exact trivial) (.inl rfl) (λb' u hb hu=>(Heap.get?_update_other s.heap (Obj.mapSeq f) (Ne.symm hb)).trans hu) ⟨_,q⟩ ?_
 exact⟨hz,its',_,hv,q⟩
theorem Inv.Q8{ax:List Value}{t':Nat}(I:Inv X ae σ H s)(hv:Vals ys ax)(hz:ys.length<=sizeLine):
 Inv X ae σ (upd H s.heap.objs.size (.lst ys)) {s with heap:=s.heap.push {cls:=.type "list",data:=.seq ax.toArray},toks:=t'}:=
 I.laid (λ_ _ q=>zzB _ q) (zzE _) ⟨hz,ax,0,hv,zzX _ rfl⟩
theorem Inv.fresh(I:Inv X ae σ H s):H s.heap.objs.size=none:=I.aS.fresh (zzE _)
theorem Inv.NW(I:Inv X ae σ H s)(hH:H l=some (.lst xs)):xs.length<=sizeLine/\∃(ax:List Value) (n:Nat),Vals xs ax/\xs.length=ax.length/\s.heap.get? l=some {cls:=.type "list",data:=.seq ax.toArray n}:=by
 obtain⟨z,ax,n,r,e⟩:=I.aS l _ hH
 exact⟨z,ax,n,r,r.length,e⟩
theorem zM{n:Nat}(h:n<=sizeLine):Builtin.List.listTooLong n=false:=by
 unfold Builtin.List.listTooLong;exact decide_eq_false (by omega)
end
section
variable{X:Cx}
def FX:V->List V->Hp->VK->Prop:=λx vs H Q=>∃l xs y,x=.ref l/\vs=[y]/\H l=some (.lst xs)/\xs.length<sizeLine/\Q .az (upd H l (.lst (xs++[y])))
theorem yF:Uo X "list.append" FX:=by
 intro ae s σ H x vs v us Q I rx rv h;obtain⟨l,xs,y,rfl,rfl,hH,hz,q⟩:=h
 cases rx;obtain⟨u,rfl,ru⟩:=rv.one
 obtain⟨z,ax,n,r,hl,e⟩:=I.NW hH
 refine call_meets F.slot_list_append ⟨_,e,rfl⟩ F.entry_list_append (F.args_list_append_2 _ _) (PySem.list_append l ax.toArray n u (by rw [zzC];omega)) ⟨e,?_⟩;refine⟨.az,_,I.MQ (its':=ax++[u]) hH e (by simp) (r.append (.cons ru .nil)) ?_,rfl,q⟩;rw [zzM,List.length_singleton];omega
end
end L2
namespace Att
open PySem PySem.W PySem.Calls PyProof.Rows
theorem kQ{P:Params}{h:Heap}:∀(ns:List Int) (vs:List Value),WellAll P h vs (ns.map WData.int)->IntsAre vs ns:=by
 intro ns
 induction ns with
 |nil=>
  intro vs w;rw [List.map_nil] at w;cases w;exact .nil
 |cons n ns ih=>
  intro vs w;rw [zzF] at w;cases w with
  |cons a b=>
   cases a;exact .cons _ _ (ih _ b)
theorem yH{l:OpenLaw}{n:Nat}(hn:l.most=some n){P:Params}{h:Heap}{args:List WData}{vals:List Value}
 (Fp:l.row.toRowW.claim.pre args=true) (Pw:WellAll P h vals args):
 ∃a vs ns,vals=[Value.ref a]/\args=[WData.list (ns.map WData.int)]/\h.get? a=some {cls:=.type "list",data:=.seq vs.toArray}/\IntsAre vs ns/\ns.length<=n:=by
 have Uz:WShape.hasAll [] args [.list .int]=true:=(pre_splitW Fp).1
 have hc:l.pre.holds [] {args:=args}=true:=(pre_splitW Fp).2
 obtain⟨d,r,rfl,h1,h2⟩:=hasAllW_cons Uz
 obtain rfl:=hasAllW_nil h2
 obtain⟨xs,rfl,h3⟩:=hasW_list h1
 obtain⟨ns,rfl⟩:=items_int h3
 have hlen:ns.length<=n:=by
  unfold OpenLaw.pre at hc;have h4:(WTm.not (.lt (.lit (.int (n:Int))) (.len (.arg 0)))).holds [] {args:=[.list (ns.map .int)]}=true:=by
   have h4:=(holds_andW hc).1
   rw [hn] at h4;exact h4
  have h5:=condW_of h4 (w_not (w_lt w_lit (w_len_list (w_arg rfl))))
  rw [zzl] at h5;refine Nat.le_of_not_lt λq=>?_
  have q':(n:Int)<((ns.length:Nat):Int):=by omega
  first
   |(rw [zzh q'] at h5;exact absurd h5 (by decide))
   |(simp at h5;omega)
 cases Pw with
 |cons w1 w2=>
  cases w2;cases w1 with
  |list ho hall=>exact⟨_,_,ns,rfl,rfl,ho,kQ ns _ hall,hlen⟩
theorem yh(l:OpenLaw)(args:List WData):l.row.toRowW.claim.post args (.bool true) args=true:=
 postW_of (r:=l.row.toRowW) (X:=(true==true))
  (show WShape.has [] (.bool true) .bool=true by first|rfl|decide|simp [WShape.has,WShape.arms,WShape.armsAll])
  (show(WTm.eq .res (.lit (.bool true))).value [] {args:=args,res:=some (.bool true),after:=args}=some (.bool (true==true)) from w_eq_bool (w_res rfl) w_lit) rfl
theorem rJ{l:OpenLaw}{n:Nat}{q:Program}{loose:List Str}{XP:(Str->Option Value)->Heap->Prop}{YP:World->Heap->Prop}{d:DefRec}
 (hn:l.most=some n) (Mh:d.params.defaults=[])
 (call:∀(w:World) (s₀ s₁:Shared) (mg mb:Str->Option Value) (fa:Addr) (o:Obj) (pm cd doc:Value) (a:Addr) (vs:List Value) (ns:List Int),
  Ground q loose [] XP w s₀ mg mb s₁.heap->YP w s₁.heap->
  s₁.heap.get? fa=some o->o.data=.func (docDef d.name d.params d.body d.scope pm cd doc)->s₁.heap.CodeRec cd d.name->mg d.name=some (.ref fa)->
  s₁.heap.get? a=some {cls:=.type "list",data:=.seq vs.toArray}->IntsAre vs ns->ns.length<=n->s₁.gens=#[]->
  codeAny (model l.prog w) callerA (.call (.ref fa) ⟨[.ref a],[]⟩) (λr s'=>r=.ok (.ret (.bool true))/\OldK s₁.heap s'.heap/\s'.os=s₁.os/\AllBare s'.gens) s₁):
 WalkO q loose XP YP l.row.toRowW d [] (λf vs=>PySem.call f vs):=by
 intro w s₀ s₁ mg mb G Y fa o pm cd doc dV kV ho hd uN hD hmg hg args vals as Fp hlay hrd Pw hlo;obtain rfl:dV=.none:=Dflts.none hD Mh
 obtain rfl:kV=.none:=Dflts.noKw hD
 obtain⟨a,vs,ns,rfl,rfl,hobj,hints,hlen⟩:=yH hn Fp Pw
 refine enter_call (codeAny_mono (call w s₀ s₁ mg mb fa o pm cd doc a vs ns G Y ho (fd_plain hd) uN hmg hobj hints hlen hg) λr s' hq=>?_)
 obtain⟨rfl,h2,h3,h4⟩:=hq
 exact⟨.inl ⟨.bool true,.bool true,[],rfl,λ_=>rfl,.bool true,yh l _,λ_=>⟨List.Pairwise.nil,λ_ hm=>(nomatch hm)⟩⟩,h2,h3,h4⟩
section
def ledger(h:Heap)(L d:Addr):List (Addr×Obj):=(List.range h.objs.size).filterMap λa=>if a=L\/a=d then none else(h.get? a).map λo=>(a,o)
end
end Att
namespace L2
open PySem PySem.Spec PyProof.Rows
theorem oV:∀{vs:List Value} {ns:List Int},IntsAre vs ns->Vals (ns.map V.int) vs
 |_,_,.nil=>.nil
 |_,_,.cons n t h=>.cons ⟨t,rfl⟩ (oV h)
noncomputable def du(s:Stmt):Arguments:=match s with
 |.FunctionDef _ a _ _ _ _ _ _ _ _=>a
 |_=>{posonlyargs:=[],args:=[],vararg:=none,kwonlyargs:=[],kw_defaults:=[],kwarg:=none,defaults:=[]}
def cV(s:Stmt):List Stmt:=match s with
 |.FunctionDef _ _ b _ _ _ _ _ _ _=>b
 |_=>[]
def bh(s:Stmt):Scope:=match s with
 |.FunctionDef _ _ _ _ _ _ sc _ _ _=>sc
 |_=>{kind:=.function,names:=[],isGenerator:=false,isCoroutine:=false}
structure OZ(K:PySem.W.Frag)(x qual:Str)(st:Stmt)(f:Addr)(fd:FuncData):Prop where
 ex:∃(oc:Value) (od:Option Addr) (kV doc pm:Value) (an:Option Addr) (fT ct:Value) (u4:Array (Option Value)),
  fd=PySem.W.fnOf x qual (du st) (cV st) (bh st) .none kV doc pm an fT ct/\K.lookup f=some ⟨oc,od,.func fd,u4⟩/\PySem.W.codeIn K fT qual=true
 kp:PySem.W.keepIn K (.ref f)=true
section
variable{K:PySem.W.Frag}
theorem OZ.binds{x qual:Str}{st:Stmt}{f:Addr}{fd:FuncData}{ps:List Str}(F:OZ K x qual st f fd)
 (h:∀(kV doc pm:Value) (an:Option Addr) (fT ct:Value) (us:List Value),us.length=ps.length->bindArgs (PySem.W.fnOf x qual (du st) (cV st) (bh st) .none kV doc pm an fT ct) ⟨us,[]⟩=pure (ps.zip us)):Binds K fd ps []:=by
 obtain⟨oc,od,kV,doc,pm,an,fT,ct,u4,rfl,lk,uN⟩:=F.ex
 exact .all (h kV doc pm an fT ct)
theorem Ax{x qual:Str}{st:Stmt}{f:Addr}{oc:Value}{od an:Option Addr}{u4:Array (Option Value)}{kV doc pm fT ct:Value}(l:K.lookup f=some ⟨oc,od,.func (PySem.W.fnOf x qual (du st) (cV st) (bh st) .none kV doc pm an fT ct),u4⟩)
 (c:PySem.W.codeIn K fT qual=true) (k:PySem.W.keepIn K (.ref f)=true):OZ K x qual st f (PySem.W.fnOf x qual (du st) (cV st) (bh st) .none kV doc pm an fT ct):=⟨⟨oc,od,kV,doc,pm,an,fT,ct,u4,rfl,l,c⟩,k⟩
end
section
variable{X:Cx}
theorem pv(i:Nat){x:Str}{pos:Pos}(hN:X.N[i]?=some x:=by rfl)(hv:NA X.env.scope x:=by first|exact Or.inl rfl|exact Or.inr (Or.inl rfl)|exact Or.inr (Or.inr rfl))(hd:(x==("__debug__":Str))=false:=by decide)
 (uN:(x==("__classdict__":Str))=false:=by decide):PE X (.Name x pos) (Az i):=fK hN hv hd uN
end
theorem Rq{A B:Prop}(h:B):if false=true then A else B:=by
 rw [if_neg zzf];exact h
theorem PZ{A B:Prop}(h:A):if true=true then A else B:=by
 rw [if_pos rfl];exact h
def aB(H H':Hp):Prop:=∀b o,H b=some o->H' b=some o
theorem aB.refl(H:Hp):aB H H:=λ_ _ h=>h
theorem aB.trans{H H1 H2:Hp}(a:aB H H1)(b:aB H1 H2):aB H H2:=λc o h=>b c o (a c o h)
theorem aB.free{H H':Hp}(e:aB H H'){l:Addr}(h:H' l=Option.none):H l=Option.none:=by
 cases q:H l with
 |none=>rfl
 |some o=>
  rw [e l o q] at h;cases h
theorem aB.seq{K:PySem.W.Frag}{H H':Hp}{a:Addr}{xs:List V}(e:aB H H')(h:eF K H a xs):eF K H' a xs:=by
 rcases h with(h|⟨o,h⟩)|h
 ·exact .inl (.inl (e _ _ h))
 ·exact .inl (.inr ⟨o,e _ _ h⟩)
 ·exact .inr h
end L2
set_option maxHeartbeats 8000000
namespace L2
open PySem PySem.Spec PyProof.Rows
open PySem.W (hideAll hideAll_get of_hideAll funFrames_hide)
structure De(P:Program)(w:World)(outer:List Env)(H:Hp)(s:Shared)(E:XK)(a C t:Addr)(vs:List Value)(H':Hp)(B:Heap)(s':Shared):Prop where
 os:s'.os=s.os
 bare:AllBare s'.gens
 aS:eJ P w H' B
 CK:Heap.FlyingW B outer a (.ref C) (.ref t) s'.heap
 tn:B.get? t=none
 tup:s'.heap.TupAt t vs
 ez:∀b o,s.heap.get? b=some o->H b=none->b∉eY outer->B.get? b=some o
 dv:∀b o,s.heap.get? b=some o->b∉eY outer->∃o',B.get? b=some o'
 un:Un (eY outer) [] H H' s.heap s'.heap
 ends:E (.ref C) (some a) H'
def d8(P:Program)(w:World):zq:=λouter H s E e s'=>∃a C t vs H' B,e=.ref a/\De P w outer H s E a C t vs H' B s'
section
variable{P:Program}{w:World}{K:PySem.W.Frag}{mg:Str->Option Value}{base:Heap}{N:List Str}{qual:Str}{scope:Scope}{f:Addr}{cd:Value}{A:Around}{outer:List Env}{s0:Shared}{H0:Hp}{E:XK}
theorem kh{X:Cx}{ae:List (Addr×Obj)}{σ:St}{H:Hp}{s:Shared}(I:Inv X ae σ H s){b:Addr}{o:Obj}(hl:X.env.locals=X.s₀.heap.objs.size)(q:X.s₀.heap.get? b=some o)(hb:b∉X.fs):b∉eY X.stack:=λz=>by
 rcases List.mem_cons.mp (I.iA b z) with e|e
 ·rw [hl] at e;exact absurd (zzO q) (by rw [e];exact Nat.lt_irrefl _)
 ·exact hb e
theorem Na:Passes (d8 P w) (dW (d8 P w) P w K mg base N qual scope f cd A outer s0 H0 E) E:=by
 rintro ae σ H s e s' I ⟨a,C,t,vs,H',B,rfl,F⟩
 have nx:∀b:Addr,b∉(dW (d8 P w) P w K mg base N qual scope f cd A outer s0 H0 E).ex:=λb z=>nomatch (show b∈([]:List Addr) from z)
 have ez:∀b o,s0.heap.get? b=some o->H0 b=none->b∉eY outer->B.get? b=some o:=λb o q n hb=>
  F.ez b o (I.base.keep b o q n hb (nx b)) (I.base.free b o q n (nx b)) (kh I rfl q hb)
 have dv:∀b o,s0.heap.get? b=some o->b∉eY outer->∃o',B.get? b=some o':=λb o q hb=>by
  obtain⟨o1,q1⟩:=I.base.there b o q (nx b)
  exact F.dv b o1 q1 (kh I rfl q hb)
 refine wpAny_leaves_onW I.ok.frames rfl F.CK λh' x1 x2=>⟨a,C,t,vs,H',B,rfl,?_⟩
 have slot:∀b o,s0.heap.get? b=some o->H0 b=none->b∈eY outer->∃sl,h'.get? b=some {o with slots:=sl}:=λb o q n hb=>by
  obtain⟨sl,q1⟩:=I.base.slot b o q n hb (nx b)
  obtain⟨MH,q2⟩:=F.un.any q1 (I.base.free b o q n (nx b)) (λz=>nomatch z)
  obtain⟨_,o',q3,hd⟩:=F.CK.2.2.1.mem (b:=b) (List.mem_filterMap.mpr (let⟨v,h1,h2⟩:=List.mem_filterMap.mp hb;⟨v,.tail _ h1,h2⟩))
  rw [q2] at q3;cases q3;obtain⟨sl3,q4⟩:=x2 b _ q2 hd
  exact⟨sl3,q4⟩
 refine⟨F.os.trans I.os,F.bare,F.aS,x1,F.tn,F.tup.of_slots x2,ez,dv,⟨λb o q n hb _=>x1.1 _ _ (ez b o q n hb),λb o q n hb _=>slot b o q n hb,λb o q n _=>?_,λb o q _=>?_,λb xs q=>F.un.ib _ _ (I.base.ib _ _ q),λb o u q=>F.un.fQ _ _ _ (I.base.fQ _ _ _ q),λb ps q=>?_⟩,F.ends⟩
 ·obtain⟨sl,q1⟩:=I.base.any q n (nx b)
  exact F.un.free b _ q1 (I.base.free b o q n (nx b)) (λz=>nomatch z)
 ·by_cases hb:b∈eY outer
  ·obtain⟨sl,q1⟩:=slot b o q (I.ok.yn b hb) hb
   exact⟨_,q1⟩
  ·obtain⟨o',q1⟩:=dv b o q hb
   exact⟨o',x1.1 _ _ q1⟩
 ·obtain⟨m1,q1⟩:=I.base.gP b ps q
  obtain⟨m2,q2⟩:=F.un.gP b _ q1
  exact⟨m1++m2,by rw [<-Array.append_assoc];exact q2⟩
theorem KH{ae:List (Addr×Obj)}{σ:St}{H:Hp}{s:Shared}{h1:Heap}{e C:Addr}{us:List Value}(I:Inv (dW (d8 P w) P w K mg base N qual scope f cd A outer s0 H0 E) ae σ H s)
 (hx:Heap.MadeExcOf s.heap h1 e (.ref C) us) (hE:E (.ref C) (some e) H):(dW (d8 P w) P w K mg base N qual scope f cd A outer s0 H0 E).xe (.ref e) {s with heap:=h1}:=by
 have nx:∀b:Addr,b∉(dW (d8 P w) P w K mg base N qual scope f cd A outer s0 H0 E).ex:=λb z=>nomatch (show b∈([]:List Addr) from z)
 have S7:∀env∈(dW (d8 P w) P w K mg base N qual scope f cd A outer s0 H0 E).stack,∀b,env.frame=some b->b∈eY (dW (d8 P w) P w K mg base N qual scope f cd A outer s0 H0 E).stack:=λenv he b hb=>List.mem_filterMap.mpr ⟨env,he,hb⟩
 refine wpAny_leaves_madeW (h:=s.heap) I.ok.frames rfl (λb o q=>of_hideAll _ q) (funFrames_hide I.stack S7) hx λh' t x1 x2 x3 x4=>⟨e,C,t,us,H,hideAll s.heap (eY (dW (d8 P w) P w K mg base N qual scope f cd A outer s0 H0 E).stack),rfl,?_⟩
 have ez:∀b o,s0.heap.get? b=some o->H0 b=none->b∉eY outer->(hideAll s.heap (eY (dW (d8 P w) P w K mg base N qual scope f cd A outer s0 H0 E).stack)).get? b=some o:=λb o q n hb=>
  hideAll_get _ (I.base.keep b o q n hb (nx b)) (kh I rfl q hb)
 have dv:∀b o,s0.heap.get? b=some o->b∉eY outer->∃o',(hideAll s.heap (eY (dW (d8 P w) P w K mg base N qual scope f cd A outer s0 H0 E).stack)).get? b=some o':=λb o q hb=>by
  obtain⟨o1,q1⟩:=I.base.there b o q (nx b)
  exact⟨o1,hideAll_get _ q1 (kh I rfl q hb)⟩
 have slot:∀b o,s0.heap.get? b=some o->H0 b=none->b∈eY outer->∃sl,h'.get? b=some {o with slots:=sl}:=λb o q n hb=>by
  obtain⟨sl,q1⟩:=I.base.slot b o q n hb (nx b)
  obtain⟨_,o',q3,hd⟩:=I.stack.mem (b:=b) (List.mem_filterMap.mpr (let⟨v,h1,h2⟩:=List.mem_filterMap.mp hb;⟨v,.tail _ h1,h2⟩))
  rw [q1] at q3;cases q3;obtain⟨sl3,q4⟩:=x4 b _ (hx.keeps _ _ q1) hd
  exact⟨sl3,q4⟩
 refine⟨I.os,I.bare,λb o q=>?_,x1,x3,x2,ez,dv,⟨λb o q n hb _=>x1.1 _ _ (ez b o q n hb),λb o q n hb _=>slot b o q n hb,λb o q n _=>I.base.free b o q n (nx b),λb o q _=>?_,I.base.ib,I.base.fQ,I.base.gP⟩,hE⟩
 ·refine(I.aS b o q).ei (λc v hc r=>hideAll_get _ r λz=>?_) (λ_ q=>q) λ_ _ q=>q
  have z':=I.lE c z
  rcases hc with rfl|hc
  ·rw [q] at z';cases z'
  ·rw [hc] at z';cases z'
 ·by_cases hb:b∈eY outer
  ·obtain⟨sl,q1⟩:=slot b o q (I.ok.yn b hb) hb
   exact⟨_,q1⟩
  ·obtain⟨o',q1⟩:=dv b o q hb
   exact⟨o',x1.1 _ _ q1⟩
end
theorem kH{P:Program}{w:World}{H:Hp}{h:Heap}{a:Addr}{o:HO}(x:bV P w H h a o):∃o',h.get? a=some o':=by
 cases o with
 |lst xs=>obtain⟨_,_,_,_,e⟩:=x;exact⟨_,e⟩
 |tup xs=>obtain⟨_,_,_,o,e,_⟩:=x;exact⟨_,e⟩
 |dK aw=>obtain⟨_,_,_,_,o,_,_,e,_⟩:=x;exact⟨_,e⟩
 |dT aw=>obtain⟨_,_,_,_,o,_,_,e,_⟩:=x;exact⟨_,e⟩
 |set S n=>obtain⟨o,_,_,_,e,_⟩:=x;exact⟨_,e⟩
 |ins C dx fs=>obtain⟨_,_,_,e,_⟩:=x;exact⟨_,e⟩
 |own y=>exact x
 |xd fs=>obtain⟨_,⟨_,_,_,e,_⟩,_⟩:=x;exact⟨_,e⟩
 |rn lo hi=>obtain⟨_,_,_,e⟩:=x;exact⟨_,e⟩
 |bK ob u=>obtain⟨e,_⟩:=x;exact⟨_,e⟩
 |fX ps=>exact⟨_,x⟩
 |met f y=>exact⟨_,x⟩
 |ext φ=>exact x.2.1
def La(C:Addr)(E:XK)(ta:TA):TS:=λ_ σ H=>ta σ H λvs H1=>vs.length<=sizeLine/\∀e,H1 e=none->E (.ref C) (some e) H1
section
variable{P:Program}{w:World}{K:PySem.W.Frag}{mg:Str->Option Value}{base:Heap}{N:List Str}{qual:Str}{scope:Scope}{f:Addr}{cd:Value}{A:Around}{outer:List Env}{s0:Shared}{H0:Hp}{E:XK}
theorem BU{x:Str}{C:Addr}{Bn newId Kr:String}{bm:List Value}{e₀:Expr}{rest:List Expr}{np cE pos:Pos}{ta:TA}(hg:Gl (dW (d8 P w) P w K mg base N qual scope f cd A outer s0 H0 E) x)(O:OwnCls x C bm newId mg base)(FB:ExcBaseFacts Bn newId Kr bm)
 (ha:PA (dW (d8 P w) P w K mg base N qual scope f cd A outer s0 H0 E) (e₀::rest) ta)
 (he:starEach (e₀::rest) (dW (d8 P w) P w K mg base N qual scope f cd A outer s0 H0 E).env=(false,eval e₀ (dW (d8 P w) P w K mg base N qual scope f cd A outer s0 H0 E).env)::starEach rest (dW (d8 P w) P w K mg base N qual scope f cd A outer s0 H0 E).env:=by rfl)
 (uW:(backTo cE (starEach rest (dW (d8 P w) P w K mg base N qual scope f cd A outer s0 H0 E).env)).any (·.1)=false:=by rfl) (hd:(x==("__debug__":Str))=false:=by decide):
 PS (dW (d8 P w) P w K mg base N qual scope f cd A outer s0 H0 E) (.Raise (some (.Call (.Name x np) (e₀::rest) [] cE)) none pos) (La C E ta):=by
 intro ae s σ H D I h;obtain⟨tl,Nn,nm,q,bs,hdct,sn,sub,ab,col,dd,k0,k1,k2,k3,k5,mN,hC,hN,hni,T⟩:=O.obj
 refine wpAny_Raise_call_subT (C:=C) (nm:=nm) (q:=q) (N:=Nn) (bs:=bs) (bm:=tl) (hdct:=hdct) (sn:=sn) (sub:=sub) (ab:=ab) (col:=col) (dd:=dd) (k0:=k0) (k1:=k1) (k2:=k2) (k3:=k3) (k5:=k5)
  FB (mN:=mN) (T.hasType FB.hasBase) (I.ok.hd rfl) (by rw [he];show(false||(backTo cE (starEach rest (dW (d8 P w) P w K mg base N qual scope f cd A outer s0 H0 E).env)).any (·.1))=false;rw [uW];rfl) hni (gX I hg O.bound ⟨rfl,?_⟩ hd)
 have h2:=ha cE ae s σ H _ I h
 rw [he] at h2⊢;refine Calls.evalArgs_plain (wpAny_mono h2 (λus s2 ⟨vs,H1,I1,rv,hl,hE⟩=>?_) λ_ _ y=>y)
 refine⟨rfl,by rw [<-rv.length];exact hl,I1.bk _ _ hC,hN.keeps I1.bk,T.keeps I1.bk,λh1 e hx=>KH I1 hx (hE e ?_)⟩
 cases z:H1 e with
 |none=>rfl
 |some o=>
  obtain⟨o',iG⟩:∃o',s2.heap.get? e=some o':=by
   exact kH (I1.aS _ _ z)
  rw [hx.new] at iG;cases iG
end
def Mn(a C:Addr):HO:=.ext λh=>∃ob vs,h.get? a=some ob/\ob.cls=.ref C/\ob.data=.fields vs
section
variable{P:Program}{w:World}
theorem De.fresh{outer:List Env}{H:Hp}{s s':Shared}{E:XK}{a C t:Addr}{vs:List Value}{H':Hp}{B:Heap}(F:De P w outer H s E a C t vs H' B s'):H' a=none:=by
 cases z:H' a with
 |none=>rfl
 |some o=>
  obtain⟨o',iG⟩:=kH (F.aS _ _ z)
  rw [F.CK.2.1] at iG;cases iG
end
def bU(env:Env)(ys:List Str):List (Str×Addr):=ys.map λy=>(y,(env.cells.lookup y).getD 0)
def Aq(σ:St)(is:List Nat):St:=is.map λi=>(σ[i]?).join
def mO(scope:Scope)(x:Str):Bool:=scope.names.lookup x==some .cell
theorem uT{x:Str}{c:Addr}:∀(names:List (Str×NameKind)) (n:Nat) (acc:List (Str×Addr)),(x,c)∈cellsFrom n names acc->(x,c)∈acc\/(x,NameKind.cell)∈names/\n<=c
 |[],n,acc,h=>by rw [cellsFrom.eq_def] at h;exact .inl h
 | (y,k)::r,n,acc,h=>by
  rw [cellsFrom.eq_def] at h;dsimp only at h;split at h
  ·rename_i hk;cases eq_of_beq hk;rcases uT r (n+1) _ h with z|⟨z1,z2⟩
   ·rcases List.mem_cons.mp z with z|z
    ·cases z;exact .inr ⟨zzP ..,zzE _⟩
    ·exact .inl z
   ·exact .inr ⟨zzI _ z1,Nat.le_of_succ_le z2⟩
  ·rcases uT r n _ h with z|⟨z1,z2⟩
   ·exact .inl z
   ·exact .inr ⟨zzI _ z1,z2⟩
theorem qq{x:Str}{c:Addr}:∀(names:List (Str×NameKind)) (n:Nat) (acc:List (Str×Addr)),(cellsFrom n names acc).lookup x=some c->acc.lookup x=some c\/(x,NameKind.cell)∈names/\n<=c
 |[],n,acc,h=>by rw [cellsFrom.eq_def] at h;exact .inl h
 | (y,k)::r,n,acc,h=>by
  rw [cellsFrom.eq_def] at h;dsimp only at h;split at h
  ·rename_i hk;cases eq_of_beq hk;rcases qq r (n+1) _ h with z|⟨z1,z2⟩
   ·rw [List.lookup_cons] at z;cases e:x==y with
    |true=>rw [e] at z;cases z;cases eq_of_beq e;exact .inr ⟨zzP ..,zzE _⟩
    |false=>rw [e] at z;exact .inl z
   ·exact .inr ⟨zzI _ z1,Nat.le_of_succ_le z2⟩
  ·rcases qq r n _ h with z|⟨z1,z2⟩
   ·exact .inl z
   ·exact .inr ⟨zzI _ z1,z2⟩
theorem pE{x:Str}:∀(names:List (Str×NameKind)) (n:Nat) (acc:List (Str×Addr)),(x,NameKind.cell)∉names->(cellsFrom n names acc).lookup x=acc.lookup x
 |[],n,acc,_=>by rw [cellsFrom.eq_def]
 |(y,k)::r,n,acc,h=>by
  rw [cellsFrom.eq_def];dsimp only;have hr:(x,NameKind.cell)∉r:=λz=>h (zzI _ z)
  split
  ·rename_i hk;cases eq_of_beq hk;rw [pE r (n+1) _ hr,List.lookup_cons];cases e:x==y with
   |true=>cases eq_of_beq e;exact absurd (zzP ..) h
   |false=>rfl
  ·exact pE r n acc hr
theorem HE{x:Str}{c:Addr}:∀(names:List (Str×NameKind)) (n:Nat) (acc:List (Str×Addr)),(x,c)∈cellsFrom n names acc->(∀p∈acc,p.2≠c)->(x,c)∈cellsFrom n names []
 |names,n,acc,h,ha=>by
  have key:∀(names:List (Str×NameKind)) (n:Nat) (acc b:List (Str×Addr)),(x,c)∈cellsFrom n names (b++acc)->(∀p∈acc,p.2≠c)->(x,c)∈cellsFrom n names b:=by
   intro names
   induction names with
   |nil=>
    intro n acc b h ha;rw [cellsFrom.eq_def] at h⊢;rcases List.mem_append.mp h with z|z
    ·exact z
    ·exact absurd rfl (ha _ z)
   |cons y r ih=>
    intro n acc b h ha;obtain⟨y,k⟩:=y
    rw [cellsFrom.eq_def] at h⊢;dsimp only at h⊢;split at h
    ·rename_i hk;rw [if_pos hk];exact ih (n+1) acc ((y,n)::b) h ha
    ·rename_i hk;rw [if_neg hk];exact ih n acc b h ha
  exact key names n acc [] h ha
theorem pF{x y:Str}{c:Addr}:∀(names:List (Str×NameKind)) (n:Nat) (acc:List (Str×Addr)),(∀p∈acc,p.2<n)->n<=c->(x,c)∈cellsFrom n names acc->(y,c)∈cellsFrom n names acc->x=y
 |[],n,acc,ha,hc,h1,h2=>by
  rw [cellsFrom.eq_def] at h1;exact absurd (ha _ h1) (Nat.not_lt.mpr hc)
 | (z,k)::r,n,acc,ha,hc,h1,h2=>by
  rw [cellsFrom.eq_def] at h1 h2;dsimp only at h1 h2;split at h1
  ·rename_i hk;rw [if_pos hk] at h2;have NK:∀p∈(z,n)::acc,p.2<n+1:=λp hp=>by
    rcases List.mem_cons.mp hp with q|q
    ·rw [q];exact Nat.lt_succ_self _
    ·exact Nat.lt_succ_of_lt (ha p q)
   by_cases hn:n+1<=c
   ·exact pF r (n+1) _ NK hn h1 h2
   ·have one:∀{w:Str},(w,c)∈cellsFrom (n+1) r ((z,n)::acc)->w=z:=λ{w} h=>by
     rcases uT r (n+1) _ h with q|q
     ·rcases List.mem_cons.mp q with q|q
      ·cases q;rfl
      ·exact absurd (ha _ q) (Nat.not_lt.mpr hc)
     ·exact absurd q.2 hn
    rw [one h1,one h2]
  ·rename_i hk;rw [if_neg hk] at h2;exact pF r n acc ha hc h1 h2
theorem uz{M:Model}{A:Around}{E:Value->Shared->Prop}{s:Shared}{scope:Scope}{g:Addr}{cl:List (Str×Addr)}{qual:Str}{around:Env}{Q:Env->Shared->Prop}
 (h:Q (newEnv scope s.heap.objs.size g (cellsFrom (s.heap.objs.size+1) scope.names cl) qual none .none (some around) builtinsNs) {s with heap:=pushCells (s.heap.push {cls:=.type "dict",data:=.dict #[]}) scope.names}):
 wpAny M A (newFunctionEnv scope g cl [] qual none .none (some around)) Q E s:=by
 unfold newFunctionEnv;refine zzA (wpAny_alloc ?_);refine zzA (wpAny_forIn_list _ (λrest b s'=>s'={s with heap:=s'.heap}/\pushCells s'.heap rest=pushCells (s.heap.push {cls:=.type "dict",data:=.dict #[]}) scope.names/\cellsFrom s'.heap.objs.size rest b=cellsFrom (s.heap.objs.size+1) scope.names cl) _ (λx rest b s' hI=>?_) (λb s' hI=>?_) scope.names cl ⟨rfl,rfl,by rw [Heap.size_push]⟩)
 ·obtain⟨h1,h2,h3⟩:=hI
  obtain⟨nm,k⟩:=x
  rw [pushCells.eq_def] at h2;rw [cellsFrom.eq_def] at h3;dsimp only at h2 h3⊢;split
  ·rename_i hk;rw [if_pos hk] at h2 h3;refine zzA (wpAny_alloc (zzG ⟨by rw [h1],h2,?_⟩));dsimp only;rw [Heap.size_push];exact h3
  ·rename_i hk;rw [if_neg hk] at h2 h3;exact zzG ⟨h1,h2,h3⟩
 ·obtain⟨h1,h2,h3⟩:=hI
  rw [pushCells.eq_def] at h2;rw [cellsFrom.eq_def] at h3;dsimp only at h2 h3;subst h3;rw [h1,h2];exact zzA (zzG (zzG h))
noncomputable def cA(X:Cx)(N':List Str)(scope:Scope)(cl:List (Str×Addr))(fp:List Addr)(s₁:Shared)(H₁:Hp)(C:Addr):Cx where
 prog:=X.prog
 w:=X.w
 K:=X.K
 mg:=X.mg
 base:=X.base
 A:=X.A
 N:=N'
 s₀:=s₁
 H₀:=H₁
 env:=compEnvC scope (cellsFrom (C+1) scope.names cl) C X.env
 outer:=X.stack
 stack:=X.stack
 ex:=fp
 fn:=mO scope
 calm:=true
 pn:=[]
 xe:=λ_ _=>False
theorem eR{env:Env}:∀{ys:List Str},(ys.all λy=>(env.cells.lookup y).isSome)=true->∀(x:Str) (c:Addr),(bU env ys).lookup x=some c->env.cells.lookup x=some c
 |[],_,_,_,h=>by simp [bU] at h
 |y::ys,ha,x,c,h=>by
  rw [List.all_cons,zza] at ha;have ih:=eR (env:=env) ha.2 x c
  unfold bU at h ih;rw [zzF,List.lookup_cons] at h;cases e:x==y with
  |true=>
   rw [e] at h;have Rv:x=y:=beq_iff_eq.mp e
   subst Rv;obtain⟨c',gW⟩:=Option.isSome_iff_exists.mp ha.1
   rw [gW] at h⊢;exact h
  |false=>
   rw [e] at h;exact ih h
theorem jb{env:Env}:∀{ys:List Str} {x:Str},x∈ys->∃c,(bU env ys).lookup x=some c
 |[],_,h=>nomatch h
 |y::ys,x,h=>by
  unfold bU;rw [zzF,List.lookup_cons];cases e:x==y with
  |true=>exact⟨_,rfl⟩
  |false=>
   have hx:x∈ys:=by
    rcases List.mem_cons.mp h with z|z
    ·rw [z] at e;simp at e
    ·exact z
   exact jb (env:=env) hx
theorem kq{scope:Scope}{env:Env}{x:Str}{k:NameKind}(h:(relabel scope env).names.lookup x=some k)(hk:k=.cell\/k=.free):∃k',(x,k')∈scope.names/\(k'=.cell\/k'=.free):=by
 have hm:=PySem.mem_of_lookup h
 unfold relabel at hm;obtain⟨⟨n,k0⟩,h0,e⟩:=List.mem_map.mp hm
 dsimp only at e;split at e
 ·rename_i hc;cases e;refine⟨k0,h0,.inr ?_⟩;rw [zza,zza] at hc;exact beq_iff_eq.mp hc.1.1
 ·cases e;exact⟨k,h0,hk⟩
structure fq(X:Cx)(scope:Scope)(xs ys:List Str)(is:List Nat):Prop where
 kind:scope.kind=.function
 Qy:closureFor scope X.env=pure (bU X.env ys)
 cells:(ys.all λy=>(X.env.cells.lookup y).isSome)=true
 JS:(scope.names.all λy=>(decide (y.2≠.cell)||!ys.contains y.1)&&(decide (y.2≠.free)||ys.contains y.1))=true
 own:(scope.names.all λy=>decide (y.2≠.cell)||decide (scope.names.lookup y.1=some .cell))=true
 names:(scope.names.all λy=>decide (y.2≠.local)||decide (scope.names.lookup y.1=some .local))=true
 slots:is.map (λi=>X.N[i]?)=ys.map some
 kX:(ys.all λy=>decide (X.env.kindOf y=some .cell))=true
 kY:(ys.all λy=>decide ((relabel scope X.env).names.lookup y=some .cell))=true
section
variable{X:Cx}{ae:List (Addr×Obj)}{σ:St}{H:Hp}{s:Shared}{scope:Scope}{xs ys:List Str}{is:List Nat}
theorem fq.Ka(S:fq X scope xs ys is){x:Str}(h:(x,NameKind.cell)∈scope.names):scope.names.lookup x=some .cell/\x∉ys:=by
 have q:=zzT.mp S.own _ h
 have c:=zzT.mp S.JS _ h
 rw [zza,Bool.or_eq_true] at c;rw [Bool.or_eq_true] at q;refine⟨zzY (q.resolve_left λz=>zzY z rfl),λhy=>?_⟩
 rcases c.1 with z|z
 ·exact zzY z rfl
 ·rw [List.contains_iff_mem.mpr hy] at z;cases z
theorem gy(I:Inv X ae σ H s)(S:fq X scope xs ys is){C:Addr}(hC:s.heap.objs.size<=C){x:Str}{c:Addr}(h:(cellsFrom (C+1) scope.names (bU X.env ys)).lookup x=some c):
 (X.env.cells.lookup x=some c/\c<s.heap.objs.size/\x∈ys)\/((x,NameKind.cell)∈scope.names/\C+1<=c):=by
 rcases qq _ _ _ h with z|z
 ·have e:=eR S.cells x c z
  obtain⟨v,q⟩:=I.cell x c e
  refine .inl ⟨e,q.lt,?_⟩;have hm:=PySem.mem_of_lookup z
  unfold bU at hm;obtain⟨y,hy,e2⟩:=List.mem_map.mp hm
  cases e2;exact hy
 ·exact .inr z
theorem xH(I:Inv X ae σ H s)(hc:X.calm=true)(S:fq X scope xs ys is){N':List Str}{fp:List Addr}{C:Addr}(hC:s.heap.objs.size<=C)(hf:∀b∈fp,dZ X ae H b)(DS:∀b∈fp,b<s.heap.objs.size):
 (cA X N' scope (bU X.env ys) fp s H C).Ok where
 mod:=I.ok.mod
 kind:=S.kind
 glob:=I.ok.glob
 blt:=I.ok.blt
 above:=hC
 inj:=λx y c h1 h2=>by
  rcases gy I S hC h1 with z1|z1
  ·rcases gy I S hC h2 with z2|z2
   ·exact I.ok.inj x y c z1.1 z2.1
   ·exact absurd z1.2.1 (Nat.not_lt.mpr (zzU hC (Nat.le_of_succ_le z2.2)))
  ·refine pF scope.names (C+1) (bU X.env ys) (λp hp=>?_) z1.2 (PySem.mem_of_lookup h1) (PySem.mem_of_lookup h2);unfold bU at hp;obtain⟨y,hy,rfl⟩:=List.mem_map.mp hp
   obtain⟨c',gW⟩:=Option.isSome_iff_exists.mp (zzT.mp S.cells y hy)
   obtain⟨v,q⟩:=I.cell y c' gW
   dsimp only;rw [gW];exact Nat.lt_succ_of_le (zzU (Nat.le_of_lt q.lt) hC)
 has:=λx hx=>by
  have uc:(relabel scope X.env).names.lookup x=some .cell\/(relabel scope X.env).names.lookup x=some .free:=hx
  have:∃k',(x,k')∈scope.names/\(k'=.cell\/k'=.free):=by
   rcases uc with z|z
   ·exact kq z (.inl rfl)
   ·exact kq z (.inr rfl)
  obtain⟨k',hm,hk⟩:=this
  have cv:=zzT.mp S.JS _ hm
  rw [zza,Bool.or_eq_true,Bool.or_eq_true] at cv;rcases hk with z|z
  ·subst z;exact Option.isSome_iff_exists.mp (PySem.W.cellsFrom_some _ _ _ (.inl (S.Ka hm).1))
  ·rcases cv.2 with q|q
   ·exact absurd z (zzY q)
   ·refine Option.isSome_iff_exists.mp (PySem.W.cellsFrom_some _ _ _ (.inr ?_));obtain⟨c,e⟩:=jb (env:=X.env) (List.contains_iff_mem.mp q)
    rw [e];rfl
 LX:=λx c h e=>by
  have hm:(x,NameKind.cell)∈scope.names:=PySem.mem_of_lookup (eq_of_beq h)
  rcases gy I S hC e with z|z
  ·exact absurd z.2.2 (S.Ka hm).2
  ·exact zzU hC (Nat.le_of_succ_le z.2)
 hd:=λ_=>I.ok.hd hc
 frames:=I.ok.frames
 Mu:=.inl rfl
 exf:=λb hb=>⟨zzb (zzW (DS b hb) hC),λx c h=>(gy I S hC h).elim (λz=>(hf b hb).2.2.2.2.1 x c z.1) λz q=>absurd (DS b hb) (Nat.not_lt.mpr (q▸zzU hC (Nat.le_of_succ_le z.2)))⟩
 bs:=λb o e=>I.bs b o e
 xU:=zzU I.ok.xU I.sz
 D8:=λb o e hb=>by
  rcases(hf b hb).2.2.2.1 with z|z
  ·exact I.ok.D8 b o e z
  ·exact absurd (zzW (zzO e) (zzU I.ok.xU z)) (Nat.lt_irrefl _)
 Jf:=λb hb hs=>(List.mem_cons.mp (I.iA b hs)).elim (hf b hb).2.1 (hf b hb).2.2.1
 gO:=I.stack
 yn:=λb hb=>I.lE b hb
theorem xC{N:List Str}:∀{is:List Nat} {ys:List Str},is.map (λi=>N[i]?)=ys.map some->∀(j:Nat) (y:Str) (v:V),ys[j]?=some y->(Aq σ is)[j]?=some (some v)->∃i:Nat,N[i]?=some y/\σ[i]?=some (some v)
 |[],[],_,_,_,_,h,_=>by simp at h
 |[],_::_,h,_,_,_,_,_=>by simp at h
 |_::_,[],h,_,_,_,_,_=>by simp at h
 |i::is,y0::ys,h,0,y,v,h1,h2=>by
  rw [zzF,zzF] at h;have h0:=(List.cons.inj h).1
  simp only [List.getElem?_cons_zero,Option.some.injEq] at h1;subst h1;refine⟨i,h0,?_⟩;unfold Aq at h2;simp only [zzF,List.getElem?_cons_zero,Option.some.injEq] at h2;exact Option.join_eq_some_iff.mp h2
 |i::is,y0::ys,h,j+1,y,v,h1,h2=>by
  rw [zzF,zzF] at h;refine xC (is:=is) (ys:=ys) (List.cons.inj h).2 j y v (by simpa using h1) ?_;unfold Aq at h2⊢
  simpa using h2
abbrev lobj(ax:List Value)(n:Nat):Obj:={cls:=.type "list",data:=.seq ax.toArray n}
theorem xK(ax:List Value)(n:Nat)(v:Option Value):(lobj ax n).data≠.cell v:=λz=>by cases z
abbrev tests(ifs:List Expr)(env:Env):Sem Bool:=forIn ifs true λc r=>if r=true then do let ok<-isTrue c env (eval c env);pure (ForInStep.yield ok) else pure (ForInStep.yield r)
theorem qB{prog:Program}{w:World}{A:Around}{R:Result->Shared->Prop}{s:Shared}{elt target iter:Expr}{ifs:List Expr}{scope:Scope}{pos:Pos}{it acc:Value}{env:Env}(I:Nat->Shared->Prop)
 (turn:∀n s,I n s->wpAny (model prog w) A (pyNext it) (λr s₁=>match r with
  |none=>R (.ok .next) s₁
  |some v=>wpAny (model prog w) A (letOwnedTupleGo target it v) (λ_ s₁'=>wpAny (model prog w) A (assign target env v) (λ_ s₂=>
   wpAny (model prog w) A (tests ifs env) (λok s₃=>if ok=true then wpAny (model prog w) A (eval elt env) (λx s₄=>
    wpAny (model prog w) A (call (.builtin "list.append") [acc,x]) (λ_ s₅=>∃m,m<n/\I m s₅) (notedBy (model prog w) A env λe s'=>R (.error e) s') s₄) (notedBy (model prog w) A env λe s'=>R (.error e) s') s₃
    else∃m,m<n/\I m s₃) (notedBy (model prog w) A env λe s'=>R (.error e) s') s₂)
   (notedBy (model prog w) A env λe s'=>R (.error e) s') s₁') (notedBy (model prog w) A env λe s'=>R (.error e) s') s₁) (notedBy (model prog w) A env λe s'=>R (.error e) s') s)
 (n:Nat) (h:I n s):
 codeAny (model prog w) A (.compLoop (.ListComp elt [⟨target,iter,ifs,0⟩] scope pos) 0 it acc env) R s:=by
 refine codeAny_loop rfl I (λn s hI=>?_) n h;show wpAny _ A ((compTurn (.ListComp elt [⟨target,iter,ifs,0⟩] scope pos) 0 it acc env).onRaise (λx=>do noteFrame x env;theTreesLotGoes x)) _ _ s;refine wpAny_noted ?_;rw [compTurn_list];refine zzA (wpAny_standAt (zzA (wpAny_mono (turn n s hI) (λr s₁ h₁=>?_) λ_ _ h'=>h')))
 cases r with
 |none=>exact zzG h₁
 |some v=>
  refine zzA (wpAny_mono h₁ (λ_ s₁' h₁'=>?_) λ_ _ h'=>h')
  refine zzA (wpAny_mono h₁' (λ_ s₂ h₂=>zzA (wpAny_mono h₂ (λok s₃ h₃=>?_) λ_ _ h'=>h')) λ_ _ h'=>h')
  cases ok with
  |false=>exact zzG ⟨rfl,h₃⟩
  |true=>exact zzA (zzA (wpAny_mono h₃ (λx s₄ h₄=>zzA (wpAny_mono h₄ (λ_ s₅ h₅=>zzG (zzG ⟨rfl,h₅⟩)) λ_ _ h'=>h')) λ_ _ h'=>h'))
def P9(X:Cx)(ifs:List Expr)(t:TT):Prop:=
 ∀(ae:List (Addr×Obj)) (s:Shared) (σ:St) (H:Hp) (Q:Bool->Hp->Prop),Inv X ae σ H s->t σ H Q->wpAny (model X.prog X.w) X.A (tests ifs X.env) (TP X ae σ Q) X.xe s
theorem vV{X:Cx}:P9 X [] (λ_ H q=>q true H):=λ_ _ _ H _ I h=>wpAny_tests_nil ⟨H,I,h⟩
theorem wD{X:Cx}{e:Expr}{t:TT}(h:PT X e t):P9 X [e] t:=λae s σ H Q I z=>wpAny_tests_one (h ae s σ H Q I z)
def Mg(J:It)(k:Nat)(g:TG)(te:TE)(fs:St)(Q:VK)(H1:Hp):Prop:=∃(n:Nat) (W:Nat->List V->St->Hp->Prop),W 0 [] (List.replicate k none++fs) H1/\
 ∀i ys σ' H',W i ys σ' H'->ys.length<sizeLine/\((J.stop i H'/\∀p,H' p=none->Q (.ref p) (upd H' p (.lst ys)))\/
  (J.go i H'/\i<n/\∀x me,J.KP i H' x me->g x σ' me λσ2 H2=>te σ2 H2 λy H3=>W (i+1) (ys++[y]) σ2 H3))
noncomputable def zQ(wi:TI)(k:Nat)(g:TG)(te:TE)(is:List Nat):TE:=λσ H Q=>wi σ H λJ H1=>Mg J k g te (Aq σ is) Q H1
def DO(J:It)(k:Nat)(g:TG)(tt:TT)(te:TE)(fs:St)(Q:VK)(H1:Hp):Prop:=∃(n:Nat) (W:Nat->List V->St->Hp->Prop),W 0 [] (List.replicate k none++fs) H1/\
 ∀i ys σ' H',W i ys σ' H'->ys.length<sizeLine/\((J.stop i H'/\∀p,H' p=none->Q (.ref p) (upd H' p (.lst ys)))\/
  (J.go i H'/\i<n/\∀x me,J.KP i H' x me->g x σ' me λσ2 H2=>tt σ2 H2 λb H3=>if b=true then te σ2 H3 (λy H4=>W (i+1) (ys++[y]) σ2 H4) else W (i+1) ys σ2 H3))
noncomputable def lC(wi:TI)(k:Nat)(g:TG)(tt:TT)(te:TE)(is:List Nat):TE:=λσ H Q=>wi σ H λJ H1=>DO J k g tt te (Aq σ is) Q H1
theorem g8{elt tg iter:Expr}{ifs:List Expr}{pos pp:Pos}{wi:TI}{g:TG}{te:TE}{tt:TT}{use:Option (Value->Sem Unit)}{QQ:Value->Shared->Prop}{Q:VK}(hc:X.calm=true)(S:fq X scope xs ys is)(hi:PI X tg iter wi)
 (hg:∀fp s1 H1 C,PG (cA X (xs++ys) scope (bU X.env ys) fp s1 H1 C) tg g) (ht:∀fp s1 H1 C,P9 (cA X (xs++ys) scope (bU X.env ys) fp s1 H1 C) ifs tt) (he:∀fp s1 H1 C,PE (cA X (xs++ys) scope (bU X.env ys) fp s1 H1 C) elt te)
 (hs:∀x,foldedSetIterable iter X.env x=pure x) (I:Inv X ae σ H s) (h:lC wi xs.length g tt te is σ H Q)
 (fin:∀(D C:Addr) (s4:Shared) (H4:Hp) (m:Str->Option Value),Inv X ae σ H4 s4->s4.heap.Ns C m->dZ X ae H4 C->Q (.ref D) H4->compPost (model X.prog X.w) X.A X.xe use QQ (.ref D) C (.ok .next) s4):
 wpAny (model X.prog X.w) X.A (comprehension (.ListComp elt [⟨tg,iter,ifs,0⟩] scope pos) scope X.env pp (newList []) false (eval iter X.env) use) QQ X.xe s:=by
 have Kj:∀x∈scope.names,x.2=.local->scope.names.lookup x.1=some .local:=λx hx hl=>by
  have q:=zzT.mp S.names x hx
  rw [Bool.or_eq_true] at q;rcases q with q|q
  ·exact absurd hl (zzY q)
  ·exact zzY q
 refine wpAny_comprehension_free (use:=use) (Q:=QQ) (g:=⟨tg,iter,ifs,0⟩) (gs:=[]) rfl hs S.Qy S.kind Kj (bX (hi ae s σ H _ I h) λxv s0 h0=>bX h0 λQ6 s1 h1=>?_)
 obtain⟨it,fp,tn,J,H1,rfl,I1,T,HW,f1,n,W,w0,turn⟩:=h1
 refine wpAny_newObj_type (uz ?_);dsimp only;generalize hH2:s1.heap.push {cls:=.type "list",dict:=none,data:=.seq ([]:List Value).toArray}=G2
 generalize hh₁:pushCells (G2.push {cls:=.type "dict",data:=.dict #[]}) scope.names=h₁
 have QV:∀b o,(G2.push {cls:=.type "dict",data:=.dict #[]}).get? b=some o->h₁.get? b=some o:=λb o e=>by rw [<-hh₁];exact pushCells_keeps _ _ b o e
 have hns₁:h₁.Ns G2.objs.size λ_=>none:=(Heap.Ns.new G2 (.type "dict")).keeps QV
 have Sb:G2.objs.size=s1.heap.objs.size+1:=by rw [<-hH2,Heap.size_push]
 have nT:s1.heap.objs.size<=G2.objs.size:=by rw [Sb];exact Nat.le_succ _
 have Ov:s1.heap.objs.size≠G2.objs.size:=by rw [Sb];exact zzb (Nat.lt_succ_self _)
 have old:∀b o,s1.heap.get? b=some o->h₁.get? b=some o:=λb o e=>QV b o (zzB _ (hH2▸zzB _ e))
 have JA:h₁.get? s1.heap.objs.size=some (lobj [] 0):=QV _ _ (zzB _ (hH2▸zzX _ rfl))
 have DS:∀b∈fp,b<s1.heap.objs.size:=λb hb=>by
  obtain⟨o,e,_⟩:=T.obj _ _ HW b hb
  exact zzO e
 generalize hY:cA X (xs++ys) scope (bU X.env ys) fp s1 H1 G2.objs.size=Y
 have U7:Y.Ok:=by rw [<-hY];exact xH I1 hc S nT f1 DS
 have TQ:∀b∈fp,s1.heap.objs.size≠b:=λb hb=>Ne.symm (zzb (DS b hb))
 have Q4:∀b,b∈Y.fs->b=X.env.locals\/b∈X.fs:=λb hb=>by
  rw [<-hY] at hb;exact List.mem_cons.mp (I1.iA b hb)
 have Qd:∀b∈Y.fs,b<s1.heap.objs.size:=λb hb=>by
  rw [<-hY] at hb;obtain⟨_,o,ho,_⟩:=I1.stack.mem hb
  exact zzO ho
 have Qn:s1.heap.objs.size∉Y.fs:=λz=>Nat.lt_irrefl _ (Qd _ z)
 have HX:Y.env.locals=G2.objs.size:=by rw [<-hY];rfl
 have OW:∀x c,Y.env.cells.lookup x=some c->(X.env.cells.lookup x=some c/\c<s1.heap.objs.size/\x∈ys)\/((x,NameKind.cell)∈scope.names/\G2.objs.size+1<=c):=λx c e=>by
  rw [<-hY] at e;exact gy I1 S nT e
 have UE:∀x c,Y.env.cells.lookup x=some c->G2.objs.size+1<=c->h₁.IsCell c none:=λx c e hle=>by
  rw [<-hY] at e;have hm:(x,c)∈cellsFrom (G2.objs.size+1) scope.names []:=HE scope.names _ _ (PySem.mem_of_lookup e) λp hp=>by
   unfold bU at hp;obtain⟨y,hy,rfl⟩:=List.mem_map.mp hp
   obtain⟨c',gW⟩:=Option.isSome_iff_exists.mp (zzT.mp S.cells y hy)
   obtain⟨v,q⟩:=I1.cell y c' gW
   dsimp only;rw [gW];exact zzb (zzW q.lt (zzU nT (Nat.le_of_succ_le hle)))
  have ck:=cellsFrom_ok scope.names (G2.push {cls:=.type "dict",data:=.dict #[]}) 0 [] ⟨(λ_ _ z=>nomatch z),.nil⟩ (Nat.zero_le _)
  rw [Heap.size_push,hh₁] at ck;exact(ck.empty x c hm).1
 have U4:∀x c,Y.env.cells.lookup x=some c->c≠s1.heap.objs.size:=λx c e=>(OW x c e).elim (λz=>zzb z.2.1) λz=>Ne.symm (zzb (zzV nT z.2))
 have zG:Y.pn=[]:=by rw [<-hY];rfl
 have NZ:Y.ex=fp:=by rw [<-hY];rfl
 have NM:Y.s₀=s1:=by rw [<-hY];rfl
 have SW:Y.H₀=H1:=by rw [<-hY];rfl
 have NP:Y.prog=X.prog:=by rw [<-hY];rfl
 have Mm:Y.w=X.w:=by rw [<-hY];rfl
 have S3:Y.K=X.K:=by rw [<-hY];rfl
 have RS:Y.A=X.A:=by rw [<-hY];rfl
 have U2:compEnvC scope (cellsFrom (G2.objs.size+1) scope.names (bU X.env ys)) G2.objs.size X.env=Y.env:=by rw [<-hY];rfl
 have Ma:Y.calm=true:=by rw [<-hY];rfl
 have HM:Y.xe=λ_ _=>False:=by rw [<-hY];rfl
 have Ml:Y.fs=eY X.stack:=by rw [<-hY];rfl
 have MK:∀{H':Hp} {s':Shared} {ax:List Value} {k:Nat},s'.heap.get? s1.heap.objs.size=some (lobj ax k)->H' s1.heap.objs.size=none->∀p∈[(s1.heap.objs.size,lobj ax k)],s'.heap.get? p.1=some p.2/\H' p.1=none/\p.1≠Y.env.locals/\p.1∉Y.fs/\∀v,p.2.data≠.cell v:=
  λ{H' s' ax k} e hn p hp=>by
   obtain rfl:=zzi.mp hp
   exact⟨e,hn,by rw [HX];exact Ov,Qn,λv=>xK ax k v⟩
 have QW:∀{H':Hp} {ax:List Value} {k:Nat},(∀b∈fp,H' b=none)->∀b∈fp,dZ Y [(s1.heap.objs.size,lobj ax k)] H' b:=λ{H' ax k} hn b hb=>
  ⟨hn b hb,by rw [HX];exact zzb (zzW (DS b hb) nT),λz=>(Q4 b z).elim (f1 b hb).2.1 (f1 b hb).2.2.1,.inl (by rw [NZ];exact hb),
   λx c e=>(OW x c e).elim (λz=>(f1 b hb).2.2.2.2.1 x c z.1) (λz q=>absurd (DS b hb) (Nat.not_lt.mpr (q▸zzU nT (Nat.le_of_succ_le z.2)))),λp hp=>by
    rw [zG,List.nil_append] at hp;obtain rfl:=zzi.mp hp
    exact TQ b hb⟩
 have Mb:H1 s1.heap.objs.size=none:=I1.aS.fresh (zzE _)
 have I2:∀tk,Inv Y [(s1.heap.objs.size,lobj [] 0)] (List.replicate xs.length none++Aq σ is) H1 {s1 with heap:=h₁,toks:=tk}:=λtk=>by
  refine⟨U7,by rw [NM],I1.bare,by rw [NM,SW];exact Un.kept old,⟨_,by rw [HX];exact hns₁,λi x v e1 e2 e3=>?_⟩,λx c e=>?_,?_,λx c e=>(OW x c e).elim (λz=>I1.iq x c z.1) (λz=>I1.aS.fresh (zzU nT (Nat.le_of_succ_le z.2))),λp hp=>?_,by rw [NP,Mm];exact I1.aS.kept old,?_⟩
  ·
   have QI:Y.N=xs++ys:=by rw [<-hY];rfl
   rw [QI] at e1
   by_cases bZ:i<xs.length
   ·rw [List.getElem?_append_left (by rw [List.length_replicate];exact bZ),List.getElem?_replicate,if_pos bZ] at e2;cases e2
   ·have Im:xs.length<=i:=Nat.not_lt.mp bZ
    rw [List.getElem?_append_right (by rw [List.length_replicate];exact Im),List.length_replicate] at e2;rw [List.getElem?_append_right Im] at e1;obtain⟨i0,h0,h1⟩:=xC S.slots _ x v e1 e2
    have hm:x∈ys:=zzD e1
    have kx:X.env.kindOf x=some .cell:=zzY (zzT.mp S.kX x hm)
    have ky:(relabel scope X.env).names.lookup x=some .cell:=zzY (zzT.mp S.kY x hm)
    obtain⟨m,_,hl⟩:=I1.loc
    obtain⟨u,ru,lk⟩:=hl i0 x v h0 h1 (.inr (.inl kx))
    refine⟨u,ru,.inr ⟨.inl (by rw [<-hY];exact ky),?_⟩⟩;rcases lk with⟨z,_⟩|⟨_,c,hc1,hc2⟩
    ·rw [kx] at z;cases z
    ·obtain⟨c',gW⟩:=jb (env:=X.env) hm
     have NJ:=eR S.cells x c' gW
     rw [hc1] at NJ;cases NJ;refine⟨c,by rw [<-hY];exact(pE _ _ _ λz=>(S.Ka z).2 hm).trans gW,?_⟩
     obtain⟨o,ho,hd⟩:=hc2
     exact⟨o,old _ _ ho,hd⟩
  ·rcases OW x c e with z|z
   ·obtain⟨v,o,ho,hd⟩:=I1.cell x c z.1
    exact⟨v,o,old _ _ ho,hd⟩
   ·exact⟨none,UE x c e z.2⟩
  ·rw [HX];exact I1.aS.fresh nT
  ·rw [zG,List.nil_append] at hp;exact MK (s':={s1 with heap:=h₁,toks:=tk}) JA Mb p hp
  ·have QI:Y.N=xs++ys:=by rw [<-hY];rfl
   have hl:=congrArg List.length S.slots
   rw [zzl,zzl] at hl;rw [QI,zzM,zzM,List.length_replicate];unfold Aq;rw [zzl,hl]
 have loop:∀s₃:Shared,s₃={s1 with heap:=h₁}->
  codeAny (model X.prog X.w) X.A (.compLoop (.ListComp elt [⟨tg,iter,ifs,0⟩] scope pos) 0 (.ref it) (.ref s1.heap.objs.size) (compEnvC scope (cellsFrom (G2.objs.size+1) scope.names (bU X.env ys)) G2.objs.size X.env))
   (compPost (model X.prog X.w) X.A X.xe use QQ (.ref s1.heap.objs.size) G2.objs.size) s₃:=by
  rintro s₃ rfl
  rw [U2];refine qB (λk s'=>∃i made σ' H' ax c,Inv Y [(s1.heap.objs.size,lobj ax c)] σ' H' s'/\tn i s'.heap/\(∀b∈fp,H' b=none)/\Vals made ax/\k=n-i/\W i made σ' H') ?_ n
   ⟨0,[],_,H1,[],0,I2 _,T.keep _ _ _ HW λb _ o e=>old b o e,λb hb=>(f1 b hb).1,.nil,rfl,w0⟩
  rintro k s' ⟨i,made,σ',H',ax,c,I3,st3,fr3,rv,rfl,w3⟩
  obtain⟨hz,tw⟩:=turn i made σ' H' w3
  have pD:=I3.pin (s1.heap.objs.size,lobj ax c) (by rw [zG];exact zzi.mpr rfl)
  rcases tw with⟨stop,hq⟩|⟨go,S7,step⟩
  ·rw [<-RS];refine bX (T.done Y NP Mm S3 Ma i _ s' σ' H' _ I3 (QW fr3) st3 stop) λr s4 ⟨hr,I4⟩=>?_
   subst hr;obtain⟨m,hn4,_⟩:=I4.loc
   rw [HX] at hn4;have Qp:=I4.pin (s1.heap.objs.size,lobj ax c) (by rw [zG];exact zzi.mpr rfl)
   have kp:∀b o,b≠G2.objs.size->s4.heap.get? b=some o->s4.heap.get? b=some o:=λb o hb e=>e
   have Rb:∀{b o},s1.heap.get? b=some o->b≠G2.objs.size:=λ{b o} e=>zzb (zzW (zzO e) nT)
   have ip:=I4.base
   rw [NM,SW,NZ,Ml] at ip;have QF:∀{b o},H1 b=some o->b≠s1.heap.objs.size:=λ{b o} e=>zzb (I1.aS.lt e)
   have u:Un (eY X.stack) fp H1 (upd H' s1.heap.objs.size (.lst made)) s1.heap s4.heap:=by
    refine⟨λb o e n hb hx=>kp b o (Rb e) (ip.keep b o e n hb hx),λb o e n hb hx=>?_,λb o e n hx=>?_,λb o e hx=>?_,λb xs e=>?_,λb o u e=>?_,λb ps e=>?_⟩
    ·obtain⟨sl,q⟩:=ip.slot b o e n hb hx
     exact⟨sl,kp b _ (Rb e) q⟩
    ·rw [af (zzb (zzO e))];exact ip.free b o e n hx
    ·obtain⟨o',q⟩:=ip.there b o e hx
     exact⟨o',kp b _ (Rb e) q⟩
    ·rw [af (QF e)];exact ip.ib b xs e
    ·rw [af (QF e)];exact ip.fQ b o u e
    ·obtain⟨more,q⟩:=ip.gP b ps e
     exact⟨more,by rw [af (QF e)];exact q⟩
   have Ts:H' G2.objs.size=none:=by rw [<-HX];exact I4.free
   have Fo:eJ X.prog X.w (upd H' s1.heap.objs.size (.lst made)) s4.heap:=λb o e=>by
    by_cases hb:b=s1.heap.objs.size
    ·subst hb;rw [aq] at e;cases e;exact⟨Nat.le_of_lt hz,ax,c,rv,kp _ _ Ov Qp.1⟩
    ·rw [af hb] at e;have x4:=I4.aS b o e
     rw [NP,Mm] at x4;have Il:∀b' u,H' b'=some u->b'≠G2.objs.size:=λb' u q z=>by rw [z,Ts] at q;cases q
     have Sm:∀b' u,H' b'=some u->b'≠s1.heap.objs.size:=λb' u q z=>by rw [z,Qp.2.1] at q;cases q
     refine x4.ei (λb' u iR q=>kp b' u ?_ q) (λb' q=>?_) λb' xs q=>?_
     ·rcases iR with z|z
      ·rw [z];exact Il b o e
      ·exact Il b' _ z
     ·rw [af (Sm b' _ q)];exact q
     ·rw [af (Sm b' _ q)];exact q
   have I5:Inv X ae σ (upd H' s1.heap.objs.size (.lst made)) s4:=I1.Ol (by show s4.os=s1.os;rw [I4.os,NM]) u Fo I4.bare λb hb=>⟨(f1 b hb).2.2.2.1,(f1 b hb).2.1,(f1 b hb).2.2.2.2.1,(f1 b hb).2.2.2.2.2⟩
   dsimp only;rw [RS];exact fin s1.heap.objs.size G2.objs.size s4 _ m I5 hn4 (I1.j9 nT (by rw [af (Ne.symm Ov)];exact Ts)) (hq _ Qp.2.1)
  ·rw [<-RS];refine bX (T.item Y NP Mm S3 Ma i _ s' σ' H' _ I3 (QW fr3) st3 go) λr s4 ⟨u,hr,h4⟩=>?_
   subst hr;dsimp only;refine bX h4 λ_ s5 ⟨x,H5,I5,r5,y5,st5,fr5⟩=>?_
   have RL:=I5.pinned (QW fr5) (T.obj _ _ st5)
   have Tz:=hg fp s1 H1 G2.objs.size
   have Sh:=he fp s1 H1 G2.objs.size
   have Sn:=ht fp s1 H1 G2.objs.size
   rw [hY] at Tz Sh Sn;rw [<-NP,<-Mm];refine wpAny_mono (Tz _ s5 σ' H5 x u _ RL r5 (step x H5 y5)) (λ_ s6 ⟨σ6,H6,I6,q6⟩=>?_) (λ_ _ f=>by rw [HM] at f;exact f.elim);refine wpAny_mono (Sn _ s6 σ6 H6 _ I6 q6) (λokb sT ⟨HT,IT,qT⟩=>?_) (λ_ _ f=>by rw [HM] at f;exact f.elim);have VU:=IT.pin (s1.heap.objs.size,lobj ax c) (zzR _ (zzc _ (zzi.mpr rfl)))
   have Ve:tn (i+1) sT.heap:=T.keep _ _ _ st5 λb hb o e=>(IT.pin (b,o) (zzR _ (zzR _ (dE hb e)))).1
   cases okb with
   |false=>
    refine⟨n-(i+1),by omega,i+1,made,σ6,HT,ax,c,IT.js,Ve,λb hb=>?_,rv,rfl,qT⟩
    obtain⟨o,e,d⟩:=T.obj _ _ st5 b hb
    exact(IT.pin (b,o) (zzR _ (zzR _ (dE hb e)))).2.1
   |true=>
   refine wpAny_mono (Sh _ sT σ6 HT _ IT qT) (λv s7 ⟨y,H7,I7,r7,q7⟩=>?_) (λ_ _ f=>by rw [HM] at f;exact f.elim);have Rr:=I7.pin (s1.heap.objs.size,lobj ax c) (zzR _ (zzc _ (zzi.mpr rfl)))
   have e7:s7.heap.get? s1.heap.objs.size=some {cls:=.type "list",data:=.seq ax.toArray c}:=Rr.1
   refine append_at (hsz:=by rw [zzC,<-rv.length];exact Nat.le_of_lt hz) e7 λh' yk Vh=>?_
   have I8:Inv Y [] σ6 H7 s7:=I7.gU λ_ z=>nomatch z
   have I9:Inv Y [] σ6 H7 {s7 with heap:=h'}:=I8.turned (t':=s7.toks) (it:=s1.heap.objs.size) (λb o hb e=>yk.extBut b o hb e) Rr.2.1 (by rw [HX];exact Ov) (.inr (by rw [NM];exact zzE _))
    (λx c' e=>U4 x c' e) (λp hp=>by rw [zG] at hp;cases hp)
   have eD:h'.get? s1.heap.objs.size=some (lobj (ax++[v]) (c+1)):=by rw [Vh,List.push_toArray]
   have VJ:tn (i+1) s7.heap:=T.keep _ _ _ st5 λb hb o e=>(I7.pin (b,o) (zzR _ (zzR _ (dE hb e)))).1
   refine⟨n-(i+1),by omega,i+1,made++[y],σ6,H7,ax++[v],c+1,I9.gU (MK (s':={s7 with heap:=h'}) eD Rr.2.1),T.keep _ _ _ VJ λb hb o e=>yk.extBut b o (Ne.symm (TQ b hb)) e,λb hb=>?_,rv.append (.cons r7 .nil),rfl,q7⟩
   obtain⟨o,e,d⟩:=T.obj _ _ st5 b hb
   exact(I7.pin (b,o) (zzR _ (zzR _ (dE hb e)))).2.1
 exact codeAny_compStart_list (loop _ rfl) (T.self _ 0 _ _ _ (T.keep _ _ _ HW λb _ o e=>old b o e) (loop _ rfl))
theorem C6{elt tg iter:Expr}{pos:Pos}{wi:TI}{g:TG}{te:TE}(hc:X.calm=true)(S:fq X scope xs ys is)(hi:PI X tg iter wi)
 (hg:∀fp s1 H1 C,PG (cA X (xs++ys) scope (bU X.env ys) fp s1 H1 C) tg g) (he:∀fp s1 H1 C,PE (cA X (xs++ys) scope (bU X.env ys) fp s1 H1 C) elt te)
 (hs:∀x,foldedSetIterable iter X.env x=pure x:=by intro _;rfl):
 PE X (.ListComp elt [⟨tg,iter,[],0⟩] scope pos) (zQ wi xs.length g te is):=by
 intro ae s σ H Q I h;rw [eval_ListComp];exact g8 (use:=none) (Q:=Q) hc S hi hg (λ_ _ _ _=>vV) he hs I h (λD C s4 H4 m I5 hn ⟨g0,g1,_,g3,g4,g5⟩ q=>⟨m,hn,λh' yk=>⟨.ref D,H4,I5.turned (t':=s4.toks) (it:=C) (λb o hb e=>yk.extBut b o hb e) g0 g1 g3 g4 g5,rfl,q⟩⟩)
theorem yB{elt tg iter JM:Expr}{pos:Pos}{wi:TI}{g:TG}{te:TE}{tt:TT}(hc:X.calm=true)(S:fq X scope xs ys is)(hi:PI X tg iter wi)
 (hg:∀fp s1 H1 C,PG (cA X (xs++ys) scope (bU X.env ys) fp s1 H1 C) tg g) (ht:∀fp s1 H1 C,PT (cA X (xs++ys) scope (bU X.env ys) fp s1 H1 C) JM tt) (he:∀fp s1 H1 C,PE (cA X (xs++ys) scope (bU X.env ys) fp s1 H1 C) elt te)
 (hs:∀x,foldedSetIterable iter X.env x=pure x:=by intro _;rfl):
 PE X (.ListComp elt [⟨tg,iter,[JM],0⟩] scope pos) (lC wi xs.length g tt te is):=by
 intro ae s σ H Q I h;rw [eval_ListComp];exact g8 (use:=none) (Q:=Q) hc S hi hg (λfp s1 H1 C=>wD (ht fp s1 H1 C)) he hs I h (λD C s4 H4 m I5 hn ⟨g0,g1,_,g3,g4,g5⟩ q=>⟨m,hn,λh' yk=>⟨.ref D,H4,I5.turned (t':=s4.toks) (it:=C) (λb o hb e=>yk.extBut b o hb e) g0 g1 g3 g4 g5,rfl,q⟩⟩)
end
theorem bx{H:Hp}{p:Addr}{o:HO}(h:H p=none):aB H (upd H p o):=λb u e=>by rw [af (dB e h)];exact e
theorem oD{α β:Type}{R:α->β->Prop}:∀(xs:List α) (us:List β),xs.length=us.length->(∀(j:Nat) x u,xs[j]?=some x->us[j]?=some u->R x u)->Paired R xs us
 |[],[],_,_=>.nil
 |[],_::_,h,_=>by simp at h
 |_::_,[],h,_=>by simp at h
 |x::xs,u::us,h,k=>.cons (k 0 x u rfl rfl) (oD xs us (by simpa using h) λj x' u' h1 h2=>k (j+1) x' u' (by simpa using h1) (by simpa using h2))
section
variable{X:Cx}
theorem range_all(bs:List Bool):(List.range bs.length).all (λi=>(bs[i]?).getD true)=bs.all id:=by
 rw [Bool.eq_iff_iff,zzT,zzT]
 constructor
 ·intro h b hb;obtain⟨i,hi,e⟩:=List.getElem_of_mem hb
  have q:=h i (List.mem_range.mpr hi)
  rw [zzg hi,Option.getD_some,e] at q;exact q
 ·intro h i hi;have QE:=List.mem_range.mp hi
  rw [zzg QE,Option.getD_some];exact h _ (List.getElem_mem QE)
theorem AZ(hc:X.calm=true):cg X (.builtin "all") (λxs H Q=>∃(p:Addr) (bs:List Bool),xs=[.ref p]/\eF X.K H p (bs.map V.bl)/\Q (.bl (bs.all id)) H):=by
 intro ae s σ H xs us Q I r h;obtain⟨p,bs,rfl,hp,q⟩:=h
 obtain⟨u,rfl,ru⟩:=vals1 r
 cases ru;obtain⟨ax,rv,pl,hz⟩:=I.list hp
 have bZ:p<s.heap.objs.size:=by obtain⟨_,e,_⟩:=pl.isList;exact zzO e
 have hlen:ax.length=bs.length:=by rw [<-rv.length,zzl]
 refine call_all_walk (wpAny_pyIter_list pl.isList ?_);refine⟨s.heap.objs.size,_,_,ax.toArray.size,_,_,λi=>(bs[i]?).getD true,rfl,Walks.list (A:=X.A.in1) (I.ok.hd hc) s.heap.objs.size p (zzb bZ) ax.toArray,⟨⟨_,zzX _ rfl,rfl,rfl⟩,pl.isList.push _⟩,λi v s2 Q2 E2 hP hQ=>?_,λh' tk hk=>?_⟩
 ·have hv:ax[i]?=some v:=by simpa using hP
  have hi:i<bs.length:=by rw [<-hlen];exact(zzH.mp hv).1
  obtain⟨u,hu,ru⟩:=rv.get (i:=i) (x:=V.bl bs[i]) (by rw [zzQ,zzg hi];rfl)
  rw [hv] at hu;cases hu;have e:v=Value.bool bs[i]:=ru
  rw [e];have q2:Q2 ((bs[i]?).getD true) s2:=hQ
  rw [zzg hi,Option.getD_some] at q2;exact wpAny_truthy_bool q2
 ·rw [zzC,hlen,range_all];exact⟨.bl (bs.all id),H,I.kept λb o e=>hk b o (by simp;exact zzb (zzO e)) (zzB _ e),rfl,q⟩
theorem rY:gu X (compareOp .IsNot) (λx y H Q=>∃c d,x=.bl c/\y=.bl d/\Q (.bl (c !=d)) H):=by
 intro ae s σ H x y v u Q I rx ry h;obtain⟨c,d,rfl,rfl,q⟩:=h
 cases rx;cases ry;exact isnot_bool (B4 I q rfl)
def Ow(z:Str):It:=⟨λi _=>i<z.cps.size,λi H x H'=>H'=H/\∃c,z.cps[i]?=some c/\x=.str ⟨#[c]⟩,λi _=>z.cps.size<=i⟩
theorem Bs{P:Program}{w:World}{K:PySem.W.Frag}{tg:Expr}(z:Str)(t:Tok)(it:Addr)(ty:String)(GC:ty="str_ascii_iterator"\/ty="str_iterator"):Turn P w K tg (Ow z) [it] it (λi h=>h.IsStrIter it ty z t i/\i<=z.cps.size) where
 mem:=by simp
 obj:=λi h st b hb=>by
  have e:b=it:=by simpa using hb
  subst e;obtain⟨⟨o,e,c,d⟩,_⟩:=st
  exact⟨o,e,λv z=>by rw [d] at z;cases z⟩
 keep:=λi h h' st k=>⟨by obtain⟨⟨o,e,r⟩,_⟩:=st;exact⟨o,k it (by simp) o e,r⟩,st.2⟩
 item:=by
  intro X hP hw hK hc i ae s σ H E I hf st hg;subst hP hw hK;obtain⟨f0,f1,f2,f3,f4,f5⟩:=hf it (by simp)
  have hi:i<z.cps.size:=hg
  have fin:∀(v:Value) (h':Heap) (tk:Nat),SignAt z i v->h'.IsStrIter it ty z t (i+1)->(∀b o,b∉[it]->s.heap.get? b=some o->h'.get? b=some o)->
   ∃u,(some v:Option Value)=some u/\wpAny (model X.prog X.w) X.A (letOwnedTupleGo tg (.ref it) u) (λ_ s2=>∃x H',Inv X ae σ H' s2/\RelV x u/\(Ow z).KP i H x H'/\(s2.heap.IsStrIter it ty z t (i+1)/\i+1<=z.cps.size)/\∀b∈[it],H' b=none) E {s with heap:=h',toks:=tk}:=by
   intro v h' tk hv gh kk;obtain⟨c,u,hc,rfl⟩:=hv
   have I1:Inv X ae σ H {s with heap:=h',toks:=tk}:=I.turned (λb o hb e=>kk b o (by simpa using hb) e) f0 f1 f3 f4 f5
   obtain⟨o,e,c',d⟩:=id gh
   exact⟨_,rfl,sF (s:={s with heap:=h',toks:=tk}) e c' d (by rcases GC with rfl|rfl<;>decide) ⟨.str ⟨#[c]⟩,H,I1,⟨u,rfl⟩,⟨rfl,c,hc,rfl⟩,⟨gh,hi⟩,λb hb=>(hf b hb).1⟩⟩
  rcases GC with rfl|rfl
  ·exact(Walks.strAscii (prog:=X.prog) (w:=X.w) (I.ok.hd hc) it z t).item i s _ _ hi st.1 λv h' tk hv gh kk=>fin v h' tk hv gh kk
  ·exact(Walks.strWide (prog:=X.prog) (w:=X.w) (I.ok.hd hc) it z t).item i s _ _ hi st.1 λv h' tk hv gh kk=>fin v h' tk hv gh kk
 done:=by
  intro X hP hw hK hc i ae s σ H E I hf st hg;subst hP hw hK;obtain⟨f0,f1,f2,f3,f4,f5⟩:=hf it (by simp)
  have hi:i=z.cps.size:=Nat.le_antisymm st.2 hg
  subst hi;rcases GC with rfl|rfl
  ·exact(Walks.strAscii (prog:=X.prog) (w:=X.w) (I.ok.hd hc) it z t).done s _ _ st.1 λh' tk kk=>⟨rfl,I.turned (λb o hb e=>kk b o (by simpa using hb) e) f0 f1 f3 f4 f5⟩
  ·exact(Walks.strWide (prog:=X.prog) (w:=X.w) (I.ok.hd hc) it z t).done s _ _ st.1 λh' tk kk=>⟨rfl,I.turned (λb o hb e=>kk b o (by simpa using hb) e) f0 f1 f3 f4 f5⟩
 self:=λA i s Q E st h=>by
  rcases GC with rfl|rfl
  ·exact wpAny_pyIter_striter_ascii st.1 h
  ·exact wpAny_pyIter_striter_wide st.1 h
def Rp(tl:TE):TI:=λσ H R=>tl σ H λx H1=>∃z,x=.str z/\R (Ow z) H1
theorem Lp{tg l:Expr}{tl:TE}(hl:PE X l tl):PI X tg l (Rp tl):=by
 intro ae s σ H R I h;refine bX (hl ae s σ H _ I h) λv s1 ⟨x,H1,I1,r1,q1⟩=>?_
 obtain⟨z,e,q⟩:=q1
 subst e;obtain⟨t,rfl⟩:=r1
 have fin:∀ty:String,(ty="str_ascii_iterator"\/ty="str_iterator")->Pj X ae σ tg R (.ref s1.heap.objs.size) {s1 with heap:=s1.heap.push {cls:=.type ty,data:=.fields #[.str z t,.int 0 0]}}:=λty GC=>by
  refine⟨s1.heap.objs.size,[s1.heap.objs.size],_,_,H1,rfl,I1.kept (t':=s1.toks) λb o e=>zzB _ e,Bs z t _ ty GC,⟨⟨_,zzX _ rfl,rfl,rfl⟩,Nat.zero_le _⟩,λb hb=>?_,q⟩
  have e:b=s1.heap.objs.size:=by simpa using hb
  subst e;exact I1.j9 (zzE _) (I1.aS.fresh (zzE _))
 cases ha:z.cps.all (·<128)
 ·exact wpAny_pyIter_wide ha (fin _ (.inr rfl))
 ·exact wpAny_pyIter_ascii ha (fin _ (.inl rfl))
theorem j5(hc:X.calm=true):cg X (.type "list") (λxs H Q=>∃z,xs=[.str z]/\z.length<=sizeLine/\∀l,H l=none->Q (.ref l) (upd H l (.lst (z.cps.toList.map λc=>V.str ⟨#[c]⟩)))):=by
 intro ae s σ H xs us Q I r h;obtain⟨z,rfl,hz,q⟩:=h
 obtain⟨u,rfl,rx⟩:=vals1 r
 obtain⟨t,rfl⟩:=rx
 refine call_list_str (I.ok.hd hc) z t (λh' tk kZ c' kp e ha=>?_) hz;have rv:Vals (z.cps.toList.map λc=>V.str ⟨#[c]⟩) kZ.toList:=by
  refine oD _ _ (by rw [zzl,zzd,zzd];exact ha.1.symm) λj x u h1 h2=>?_
  obtain⟨c,t',hc,rfl⟩:=ha.2 j u (by rw [<-Array.getElem?_toList];exact h2)
  rw [zzQ,Array.getElem?_toList,hc] at h1;have e1:V.str ⟨#[c]⟩=x:=Option.some.inj h1
  subst e1;exact⟨t',rfl⟩
 exact⟨.ref s.heap.objs.size,_,I.laid (t':=tk) kp (zzE _) (show bV X.prog X.w _ h' _ (.lst _) from⟨by rw [zzl];exact hz,kZ.toList,c',rv,by simpa using e⟩),rfl,q _ (I.aS.fresh (zzE _))⟩
end
end L2
namespace Cw
open PySem L2
def sgn(c:Nat):Bool:=c==35||(48<=c&&c<=57)
def U9:V->Bool
 |.str z=>decide (1<=z.cps.toList.length)&&decide (z.cps.toList.length<=12)&&z.cps.toList.all sgn
 |_=>false
def MV:V->Nat
 |.str z=>z.cps.toList.length
 |_=>0
section
variable{K:PySem.W.Frag}
abbrev CP(K:PySem.W.Frag)(t n:String)(b:Bool):Prop:=PySem.W.kitOne K (.type t) (.type n)=some b
theorem Cf{K:PySem.W.Frag}(t:String):CP K t t true:=by unfold CP PySem.W.kitOne;rw [if_pos (by simp)]
theorem B3{t n:String}{b:Bool}(h0:(Value.type t==Value.type n)=false)(h1:PySem.W.kitMeta n=true)(h2:(fastBuiltinMro t).map (·.contains (Value.type n))=some b):CP K t n b:=by
 unfold CP PySem.W.kitOne;rw [if_neg (by rw [h0];exact zzf)];show(if PySem.W.kitMeta n=true then PySem.W.subIn K (.type t) (.type n) else none)=some b
 rw [if_pos h1];exact h2
end
abbrev Sk:Str:="#0123456789"
end Cw
namespace L2
open PySem PySem.Spec PyProof.Rows
structure K6(K:PySem.W.Frag)(C:Addr):Prop where
 ga:PySem.W.findIn K (.ref C) "__getattribute__"=some (some (.builtin "BaseException.__getattribute__"))
 hk:PySem.W.findIn K (.ref C) "__getattr__"=some none
 cl:PySem.W.findIn K (.ref C) "__class__"=some (some (.builtin "object.__class__"))
 mo:PySem.W.mroIn K C (.type "object")=some true
 mb:PySem.W.mroIn K C (.type "BaseException")=some true
 is:(PySem.W.clsIn K C).isSome=true
open PySem.AutoSeq1 (wpAny_loadPart')
end L2
namespace Cw
open PySem L2
end Cw
namespace L2
open PySem PySem.Spec PyProof.Rows
section
variable{X:Cx}
theorem zE(ns ms:List Int):((List.range (min ns.length ms.length)).all (λj=>ns.getD j 0==ms.getD j 0)&&ns.length==ms.length)=decide (ns=ms):=by
 rw [Bool.eq_iff_iff,zza,decide_eq_true_iff,zzT,beq_iff_eq]
 constructor
 ·rintro ⟨h1,h2⟩
  apply List.ext_getElem h2
  intro i hi hj;have:=beq_iff_eq.mp (h1 i (List.mem_range.mpr (by omega)))
  rw [zzK,zzK,zzg hi,zzg hj] at this;exact this
 ·rintro rfl
  exact⟨λj _=>by simp,rfl⟩
theorem int_at{ns:List Int}{ax:List Value}(r:Vals (ns.map V.int) ax)(j:Nat)(h:j<ax.toArray.size):∃t,ax.toArray[j]=Value.int (ns.getD j 0) t:=by
 have hl:=r.length
 rw [zzl] at hl;rw [zzC] at h;have hj:j<ns.length:=by omega
 obtain⟨u,hu,t,rfl⟩:=r.get (i:=j) (x:=V.int ns[j]) (by rw [zzQ,zzg hj];rfl)
 refine⟨t,?_⟩;rw [zzg h] at hu;have e:=Option.some.inj hu
 rw [zzK,zzg hj]
 simpa using e
theorem pW:cg X (.type "int") (λxs H Q=>∃z n,xs=[.str z]/\PySem.intText? z=some n/\z.length<=640/\Q (.int n) H):=by
 intro ae s σ H xs us Q I r h;obtain⟨z,n,rfl,h1,h2,q⟩:=h
 obtain⟨u,rfl,t,rfl⟩:=vals1 r
 exact PySem.W.KIN.call_text h1 h2 ⟨.int n,H,I.tok _,⟨_,rfl⟩,q⟩
end
end L2
namespace Cw
open PySem L2
end Cw
namespace L2
open PySem PySem.Spec PyProof.Rows
theorem ox{α β:Type}{R:α->β->Prop}:∀{xs:List α} {ys:List β},Paired R xs ys->∀{i:Nat} {x:α},xs[i]?=some x->∃y,ys[i]?=some y/\R x y
 |_,_,.nil,_,_,h=>by simp at h
 |_,_,.cons r t,0,x,h=>by simp at h;subst h;exact⟨_,rfl,r⟩
 |_,_,.cons r t,i+1,x,h=>by
  obtain⟨y,h1,h2⟩:=ox t (i:=i) (x:=x) (by simpa using h)
  exact⟨y,by simpa using h1,h2⟩
theorem m8{α β:Type}{R:α->β->Prop}:∀{xs:List α} {ys:List β},Paired R xs ys->xs.length=ys.length
 |_,_,.nil=>rfl
 |_,_,.cons _ t=>by simp [m8 t]
section
theorem jw{vs:List V}{ax:List Value}(r:Vals vs ax){j:Nat}(h:j<ax.toArray.size):∃v,vs[j]?=some v/\RelV v ax.toArray[j]:=by
 have hl:=r.length
 rw [zzC] at h;have hj:j<vs.length:=by omega
 obtain⟨u,hu,ru⟩:=r.get (i:=j) (x:=vs[j]) (zzg hj)
 rw [zzg h] at hu;cases hu;exact⟨_,zzg hj,by simpa using ru⟩
end
abbrev bT:HO:=.ext λ_=>True
theorem lI{P:Program}{w:World}{H:Hp}{h:Heap}{a:Addr}{o:Obj}(e:h.get? a=some o):bV P w H h a (.bK o bT):=⟨e,trivial,⟨o,e⟩,λ_ _ _ _=>trivial⟩
def aZ(Z:List (Addr×Obj))(H:Hp):Hp:=λb=>match Z.lookup b with
 |some o=>some (.bK o bT)
 |none=>H b
def bp(Z:List (Addr×Obj))(H:Hp):Hp:=λb=>match Z.lookup b with
 |some _=>none
 |none=>H b
section
variable{Z:List (Addr×Obj)}{H H':Hp}{b:Addr}{o:Obj}
theorem br(e:Z.lookup b=some o):aZ Z H b=some (.bK o bT):=by unfold aZ;rw [e]
theorem ak(e:Z.lookup b=none):aZ Z H b=H b:=by unfold aZ;rw [e]
theorem fB(e:Z.lookup b=some o):bp Z H b=none:=by unfold bp;rw [e]
theorem aA(e:Z.lookup b=none):bp Z H b=H b:=by unfold bp;rw [e]
theorem er{u:HO}(e:bp Z H b=some u):Z.lookup b=none/\H b=some u:=by
 cases q:Z.lookup b with
 |none=>rw [aA q] at e;exact⟨rfl,e⟩
 |some o=>rw [fB q] at e;cases e
theorem iL(h:H b=none):bp Z H b=none:=by
 cases q:Z.lookup b with
 |none=>rw [aA q];exact h
 |some o=>exact fB q
structure vA(Z:List (Addr×Obj))(H:Hp)(fs:List Addr)(h:Heap):Prop where
 at_:∀b o,Z.lookup b=some o->h.get? b=some o
 no:∀b o,Z.lookup b=some o->H b=none
 fr:∀b o,Z.lookup b=some o->b∉fs
variable{P:Program}{w:World}{fs:List Addr}{h h':Heap}
theorem vA.aS(z:vA Z H fs h)(k:eJ P w H h):eJ P w (aZ Z H) h:=λb u e=>by
 cases q:Z.lookup b with
 |some o=>rw [br q] at e;cases e;exact lI (z.at_ b o q)
 |none=>
  rw [ak q] at e;have nz:∀c v,H c=some v->Z.lookup c=none:=λc v hv=>by
   cases y:Z.lookup c with
   |none=>rfl
   |some o=>rw [z.no c o y] at hv;cases hv
  exact(k b u e).ei (λc v _ r=>r) (λc r=>by rw [ak (nz c _ r)];exact r) λc xs r=>by rw [ak (nz c _ r)];exact r
theorem vA.wI(z:vA Z H fs h)(u:Un fs [] (aZ Z H) H' h h')(k:eJ P w H' h'):Un fs [] H (bp Z H') h h'/\eJ P w (bp Z H') h':=by
 have zk:∀b o,Z.lookup b=some o->H' b=some (.bK o bT):=λb o q=>u.fQ b o _ (br q)
 have zh:∀b o,Z.lookup b=some o->h'.get? b=some o:=λb o q=>(k b _ (zk b o q)).1
 have nz:∀c v,H c=some v->Z.lookup c=none:=λc v hv=>by
  cases y:Z.lookup c with
  |none=>rfl
  |some o=>rw [z.no c o y] at hv;cases hv
 refine⟨⟨λb o e n hb hx=>?_,λb o e n hb hx=>?_,λb o e n hx=>?_,λb o e hx=>u.there b o e hx,λb xs e=>?_,λb o v e=>?_,λb ps e=>?_⟩,λb v e=>?_⟩
 ·cases q:Z.lookup b with
  |some o'=>
   have e2:=z.at_ b o' q
   rw [e] at e2;cases e2;exact zh b o q
  |none=>exact u.keep b o e (by rw [ak q];exact n) hb hx
 ·cases q:Z.lookup b with
  |some o'=>exact absurd hb (z.fr b o' q)
  |none=>exact u.slot b o e (by rw [ak q];exact n) hb hx
 ·cases q:Z.lookup b with
  |some o'=>exact fB q
  |none=>rw [aA q];exact u.free b o e (by rw [ak q];exact n) hx
 ·rw [aA (nz b _ e)];exact u.ib b xs (by rw [ak (nz b _ e)];exact e)
 ·rw [aA (nz b _ e)];exact u.fQ b o v (by rw [ak (nz b _ e)];exact e)
 ·rw [aA (nz b _ e)];exact u.gP b ps (by rw [ak (nz b _ e)];exact e)
 ·obtain⟨q,e1⟩:=er e
  refine(k b v e1).ei (λc y _ r=>r) (λc r=>?_) λc xs r=>?_
  ·cases y:Z.lookup c with
   |none=>rw [aA y];exact r
   |some o=>rw [zk c o y] at r;cases r
  ·cases y:Z.lookup c with
   |none=>rw [aA y];exact r
   |some o=>rw [zk c o y] at r;cases r
theorem vA.vO(z:vA Z H fs h)(u:Un fs [] H H' h h')(k:eJ P w H' h'):Un fs [] (aZ Z H) (aZ Z H') h h'/\eJ P w (aZ Z H') h':=by
 have zh:∀b o,Z.lookup b=some o->h'.get? b=some o:=λb o q=>u.keep b o (z.at_ b o q) (z.no b o q) (z.fr b o q) (λy=>nomatch y)
 have zn:∀b o,Z.lookup b=some o->H' b=none:=λb o q=>u.free b o (z.at_ b o q) (z.no b o q) (λy=>nomatch y)
 have nz:∀c v,H' c=some v->Z.lookup c=none:=λc v hv=>by
  cases y:Z.lookup c with
  |none=>rfl
  |some o=>rw [zn c o y] at hv;cases hv
 have nw:∀b,aZ Z H b=none->Z.lookup b=none/\H b=none:=λb e=>by
  cases q:Z.lookup b with
  |some o=>rw [br q] at e;cases e
  |none=>rw [ak q] at e;exact⟨rfl,e⟩
 refine⟨⟨λb o e n hb hx=>u.keep b o e (nw b n).2 hb hx,λb o e n hb hx=>u.slot b o e (nw b n).2 hb hx,λb o e n hx=>?_,λb o e hx=>u.there b o e hx,λb xs e=>?_,λb o v e=>?_,λb ps e=>?_⟩,λb v e=>?_⟩
 ·rw [ak (nw b n).1];exact u.free b o e (nw b n).2 hx
 ·cases q:Z.lookup b with
  |some o=>rw [br q] at e;cases e
  |none=>rw [ak q] at e⊢;exact u.ib b xs e
 ·cases q:Z.lookup b with
  |some o'=>rw [br q] at e⊢;exact e
  |none=>rw [ak q] at e⊢;exact u.fQ b o v e
 ·cases q:Z.lookup b with
  |some o=>rw [br q] at e;cases e
  |none=>rw [ak q] at e⊢;exact u.gP b ps e
 ·cases q:Z.lookup b with
  |some o=>rw [br q] at e;cases e;exact lI (zh b o q)
  |none=>
   rw [ak q] at e;exact(k b v e).ei (λc y _ r=>r) (λc r=>by rw [ak (nz c _ r)];exact r) λc xs r=>by rw [ak (nz c _ r)];exact r
end
section
variable{P:Program}{w:World}{K:PySem.W.Frag}{mg:Str->Option Value}{base:Heap}{A:Around}{outer:List Env}{s s':Shared}{H:Hp}{Z:List (Addr×Obj)}
theorem i9.aZ(e:i9 P w K mg base A outer s H)(z:vA Z H (eY outer) s.heap)(zb:∀b o,Z.lookup b=some o->base.get? b=none):i9 P w K mg base A outer s (aZ Z H) where
 frames:=e.frames
 mod:=e.mod
 bs:=λb o q=>⟨(e.bs b o q).1,by
  cases y:Z.lookup b with
  |some o'=>rw [zb b o' y] at q;cases q
  |none=>rw [ak y];exact(e.bs b o q).2⟩
 xU:=e.xU
 gO:=e.gO
 yn:=λb hb=>by
  cases y:Z.lookup b with
  |some o'=>exact absurd hb (z.fr b o' y)
  |none=>rw [ak y];exact e.yn b hb
 aS:=z.aS e.aS
 bare:=e.bare
theorem CE.less{Q:VK}{u:Value}(z:vA Z H (eY outer) s.heap)(h:CE outer P w (aZ Z H) s (λv H'=>Q v (bp Z H')) u s'):CE outer P w H s Q u s':=by
 obtain⟨v,H',os,bare,un,aS,r,q⟩:=h
 obtain⟨u1,k1⟩:=z.wI un aS
 exact⟨v,_,os,bare,u1,k1,r,q⟩
theorem CE.more{Q:VK}{u:Value}(z:vA Z H (eY outer) s.heap)(h:CE outer P w H s (λv H'=>(∀b o,Z.lookup b=some o->H' b=none)->Q v (aZ Z H')) u s'):CE outer P w (aZ Z H) s Q u s':=by
 obtain⟨v,H',os,bare,un,aS,r,q⟩:=h
 obtain⟨u1,k1⟩:=z.vO un aS
 exact⟨v,_,os,bare,u1,k1,r,q λb o y=>un.free b o (z.at_ b o y) (z.no b o y) (λy=>nomatch y)⟩
theorem d8.less{E:XK}{e:Value}(z:vA Z H (eY outer) s.heap)(h:d8 P w outer (aZ Z H) s (λC a H'=>E C a (bp Z H')) e s'):d8 P w outer H s E e s':=by
 obtain⟨a,C,t,vs,H',B,rfl,F⟩:=h
 have zk:∀b o,Z.lookup b=some o->H' b=some (.bK o bT):=λb o q=>F.un.fQ b o _ (br q)
 have kB:∀b o,s.heap.get? b=some o->H b=none->b∉eY outer->B.get? b=some o:=λb o e n hb=>by
  cases q:Z.lookup b with
  |some o'=>
   have e2:=z.at_ b o' q
   rw [e] at e2;cases e2;exact(F.aS b _ (zk b o q)).1
  |none=>exact F.ez b o e (by rw [ak q];exact n) hb
 have hB:eJ P w (bp Z H') B:=λb v e=>by
  obtain⟨q,e1⟩:=er e
  refine(F.aS b v e1).ei (λc y _ r=>r) (λc r=>?_) λc xs r=>?_
  ·cases y:Z.lookup c with
   |none=>rw [aA y];exact r
   |some o=>rw [zk c o y] at r;cases r
  ·cases y:Z.lookup c with
   |none=>rw [aA y];exact r
   |some o=>rw [zk c o y] at r;cases r
 have hs:eJ P w H' s'.heap:=λb v e=>(F.aS b v e).ei (λc y _ r=>F.CK.1 _ _ r) (λ_ r=>r) λ_ _ r=>r
 obtain⟨u1,_⟩:=z.wI (P:=P) (w:=w) F.un hs
 exact⟨a,C,t,vs,_,B,rfl,⟨F.os,F.bare,hB,F.CK,F.tn,F.tup,kB,F.dv,u1,F.ends⟩⟩
theorem d8.more{E:XK}{e:Value}(z:vA Z H (eY outer) s.heap)(h:d8 P w outer H s (λC a H'=>(∀b o,Z.lookup b=some o->H' b=none)->E C a (aZ Z H')) e s'):d8 P w outer (aZ Z H) s E e s':=by
 obtain⟨a,C,t,vs,H',B,rfl,F⟩:=h
 have zB:∀b o,Z.lookup b=some o->B.get? b=some o:=λb o q=>F.ez b o (z.at_ b o q) (z.no b o q) (z.fr b o q)
 have zn:∀b o,Z.lookup b=some o->H' b=none:=λb o q=>F.un.free b o (z.at_ b o q) (z.no b o q) (λy=>nomatch y)
 have nz:∀c v,H' c=some v->Z.lookup c=none:=λc v hv=>by
  cases y:Z.lookup c with
  |none=>rfl
  |some o=>rw [zn c o y] at hv;cases hv
 have hB:eJ P w (aZ Z H') B:=λb v e=>by
  cases q:Z.lookup b with
  |some o=>rw [br q] at e;cases e;exact lI (zB b o q)
  |none=>
   rw [ak q] at e;exact(F.aS b v e).ei (λc y _ r=>r) (λc r=>by rw [ak (nz c _ r)];exact r) λc xs r=>by rw [ak (nz c _ r)];exact r
 have hs:eJ P w H' s'.heap:=λb v e=>(F.aS b v e).ei (λc y _ r=>F.CK.1 _ _ r) (λ_ r=>r) λ_ _ r=>r
 obtain⟨u1,_⟩:=z.vO (P:=P) (w:=w) F.un hs
 refine⟨a,C,t,vs,_,B,rfl,⟨F.os,F.bare,hB,F.CK,F.tn,F.tup,λb o e n hb=>F.ez b o e ?_ hb,F.dv,u1,F.ends zn⟩⟩
 cases q:Z.lookup b with
 |some o=>rw [br q] at n;cases n
 |none=>rw [ak q] at n;exact n
end
structure sJ(ps ys:List Str)(scope:Scope):Prop where
 kind:scope.kind=.function
 co:scope.isCoroutine=false
 gen:scope.isGenerator=false
 nd:(ps++ys).Nodup
 BC:∀x∈scope.names,x.2≠.cell
 par:∀x∈ps,scope.names.lookup x=some .local
 Qz:∀y∈ys,scope.names.lookup y=some .free
 JS:∀x,scope.names.lookup x=some .free->x∈ys
noncomputable def Gp(P:Program)(w:World)(K:PySem.W.Frag)(mg:Str->Option Value)(base:Heap)(N:List Str)(qual:Str)(scope:Scope)(f:Addr)(cd:Value)(cl:List (Str×Addr))(A:Around)(outer:List Env)(s:Shared)(H:Hp)(E:XK):Cx where
 prog:=P
 w:=w
 K:=K
 mg:=mg
 base:=base
 A:=A.deeper (PySem.W.envX qual scope s.heap.objs.size f cd cl)
 N:=N
 s₀:=s
 H₀:=H
 env:=PySem.W.envX qual scope s.heap.objs.size f cd cl
 outer:=outer
 stack:=PySem.W.envX qual scope s.heap.objs.size f cd cl::outer
 ex:=[]
 calm:=true
 fn:=λ_=>false
 pn:=[]
 xe:=λe s'=>wpAny (model P w) (A.deeper (PySem.W.envX qual scope s.heap.objs.size f cd cl)) (leaving (PySem.W.envX qual scope s.heap.objs.size f cd cl) e) (λ_ FG=>d8 P w outer H s E e FG) (λe' FG=>d8 P w outer H s E e' FG) s'
theorem oU{α:Type}:∀{l:List (Str×α)} {x:Str} {v:α},(l.map (·.1)).Nodup->(x,v)∈l->l.lookup x=some v
 |(y,u)::r,x,v,nd,h=>by
  rw [zzF,List.nodup_cons] at nd;rw [List.lookup_cons];rcases List.mem_cons.mp h with e|e
  ·cases e;simp
  ·have mI:(x==y)=false:=beq_eq_false_iff_ne.mpr λz=>nd.1 (by subst z;exact List.mem_map_of_mem (f:=(·.1)) e)
   rw [mI];exact oU nd.2 e
theorem nt{ps:List Str}{us:List Value}{i:Nat}{x:Str}{u:Value}(nd:ps.Nodup)(h1:ps[i]?=some x)(h2:us[i]?=some u):(ps.zip us).reverse.lookup x=some u:=by
 have hs:∀{ps:List Str} {us:List Value},List.Sublist ((ps.zip us).map (·.1)) ps:=λ{ps us}=>by
  induction ps generalizing us with
  |nil=>simp
  |cons p ps ih=>
   cases us with
   |nil=>simp
   |cons q us=>simpa using ih
 refine oU ?_ ?_
 ·rw [List.map_reverse];exact List.pairwise_reverse.mpr ((nd.sublist hs).imp λh=>Ne.symm h)
 ·rw [List.mem_reverse];refine zzD (i:=i) ?_;rw [List.getElem?_zip_eq_some];exact⟨h1,h2⟩
section
variable{P:Program}{w:World}{K:PySem.W.Frag}{mg:Str->Option Value}{base:Heap}{ps ys:List Str}{qual:Str}{scope:Scope}{f:Addr}{cd:Value}{cl:List (Str×Addr)}{A:Around}{outer:List Env}{s:Shared}{H:Hp}{E:XK}
theorem vi{us:List Value}{vs ws:List V}{h':Heap}{tk:Nat}(S:sJ ps ys scope)(hd:A.handled=none)(e0:i9 P w K mg base A outer s H)(LN:∀y∈ys,∃c,cl.lookup y=some c)(inj:∀x y c,cl.lookup x=some c->cl.lookup y=some c->x=y)
 (r:Vals vs us) (hl:vs.length=ps.length) (hw:ws.length=ys.length) (cells:∀(i:Nat) y c,ys[i]?=some y->cl.lookup y=some c->∀v,ws[i]?=some v->∃u,RelV v u/\s.heap.IsCell c (some u)) (Qc:∀x c,cl.lookup x=some c->∃v,s.heap.IsCell c v)
 (Me:∀x c,cl.lookup x=some c->H c=none) (ns:h'.Ns s.heap.objs.size (λx=>(ps.zip us).reverse.lookup x)) (hk:∀b o,s.heap.get? b=some o->h'.get? b=some o):
 Inv (Gp P w K mg base (ps++ys) qual scope f cd cl A outer s H E) [] (vs.map some++ws.map some) H {s with heap:=h',toks:=tk}:=by
 have EI:∀b:Addr,b∉(Gp P w K mg base (ps++ys) qual scope f cd cl A outer s H E).ex:=λb z=>absurd (show b∈([]:List Addr) from z) (by simp)
 have ck:∀c v,s.heap.IsCell c v->h'.IsCell c v:=λc v ⟨o,ho,hd⟩=>⟨o,hk c o ho,hd⟩
 refine⟨⟨e0.mod,S.kind,rfl,rfl,zzE _,inj,λx hx=>?_,(λx c z=>nomatch z),λ_=>hd,Around.frames_deeper e0.frames,.inr ⟨rfl,rfl⟩,λb z=>absurd z (EI b),e0.bs,e0.xU,λb _ _=>EI b,λb z=>absurd z (EI b),e0.gO,e0.yn⟩,
  rfl,e0.bare,Un.kept hk,⟨_,ns,λi x v h1 h2 h3=>?_⟩,λx c h=>let⟨v,z⟩:=Qc x c h;⟨v,ck c v z⟩,e0.aS.fresh (zzE _),Me,λp hp=>absurd (show p∈([]:List (Addr×Obj)) from hp) (by simp),e0.aS.kept hk,?_⟩
 ·have hx:scope.names.lookup x=some .cell\/scope.names.lookup x=some .free:=hx
  rcases hx with hx|hx
  ·exact absurd rfl (S.BC _ (PySem.mem_of_lookup hx))
  ·exact LN x (S.JS x hx)
 ·have h1:(ps++ys)[i]?=some x:=h1
  by_cases hi:i<vs.length
  ·rw [List.getElem?_append_left (by simpa using hi),zzQ] at h2;have ha:vs[i]?=some v:=by
    cases e:vs[i]? with
    |none=>rw [e] at h2;cases h2
    |some a=>rw [e] at h2;cases h2;rfl
   obtain⟨u,hu,rv⟩:=r.get ha
   have hp:ps[i]?=some x:=by rw [List.getElem?_append_left (by omega)] at h1;exact h1
   exact⟨u,rv,.inl ⟨S.par x (zzD hp),nt (S.nd.sublist (List.sublist_append_left _ _)) hp hu⟩⟩
  ·rw [List.getElem?_append_right (by simpa using hi),zzQ,zzl] at h2;rw [List.getElem?_append_right (by omega)] at h1;have ha:ws[i-vs.length]?=some v:=by
    cases e:ws[i-vs.length]? with
    |none=>rw [e] at h2;cases h2
    |some a=>rw [e] at h2;cases h2;rfl
   rw [<-hl] at h1;obtain⟨c,hc⟩:=LN x (zzD h1)
   obtain⟨u,rv,z⟩:=cells _ x c h1 hc v ha
   exact⟨u,rv,.inr ⟨.inr (S.Qz x (zzD h1)),c,hc,ck c _ z⟩⟩
 ·show _=(ps++ys).length
  rw [zzM,zzM,zzl,zzl,hl,hw]
theorem NB{N:List Str}:Passes (d8 P w) (Gp P w K mg base N qual scope f cd cl A outer s H E) E:=by
 rintro ae σ H1 s1 e s' I ⟨a,C,t,vs,H',B,rfl,F⟩
 have nx:∀b:Addr,b∉(Gp P w K mg base N qual scope f cd cl A outer s H E).ex:=λb z=>nomatch (show b∈([]:List Addr) from z)
 have ez:∀b o,s.heap.get? b=some o->H b=none->b∉eY outer->B.get? b=some o:=λb o q n hb=>
  F.ez b o (I.base.keep b o q n hb (nx b)) (I.base.free b o q n (nx b)) (kh I rfl q hb)
 have dv:∀b o,s.heap.get? b=some o->b∉eY outer->∃o',B.get? b=some o':=λb o q hb=>by
  obtain⟨o1,q1⟩:=I.base.there b o q (nx b)
  exact F.dv b o1 q1 (kh I rfl q hb)
 refine wpAny_leaves_onW I.ok.frames rfl F.CK λh' x1 x2=>⟨a,C,t,vs,H',B,rfl,?_⟩
 have slot:∀b o,s.heap.get? b=some o->H b=none->b∈eY outer->∃sl,h'.get? b=some {o with slots:=sl}:=λb o q n hb=>by
  obtain⟨sl,q1⟩:=I.base.slot b o q n hb (nx b)
  obtain⟨MH,q2⟩:=F.un.any q1 (I.base.free b o q n (nx b)) (λz=>nomatch z)
  obtain⟨_,o',q3,hd⟩:=F.CK.2.2.1.mem (b:=b) (List.mem_filterMap.mpr (let⟨v,h1,h2⟩:=List.mem_filterMap.mp hb;⟨v,.tail _ h1,h2⟩))
  rw [q2] at q3;cases q3;obtain⟨sl3,q4⟩:=x2 b _ q2 hd
  exact⟨sl3,q4⟩
 refine⟨F.os.trans I.os,F.bare,F.aS,x1,F.tn,F.tup.of_slots x2,ez,dv,⟨λb o q n hb _=>x1.1 _ _ (ez b o q n hb),λb o q n hb _=>slot b o q n hb,λb o q n _=>?_,λb o q _=>?_,λb xs q=>F.un.ib _ _ (I.base.ib _ _ q),λb o u q=>F.un.fQ _ _ _ (I.base.fQ _ _ _ q),λb ps q=>?_⟩,F.ends⟩
 ·obtain⟨sl,q1⟩:=I.base.any q n (nx b)
  exact F.un.free b _ q1 (I.base.free b o q n (nx b)) (λz=>nomatch z)
 ·by_cases hb:b∈eY outer
  ·obtain⟨sl,q1⟩:=slot b o q (I.ok.yn b hb) hb
   exact⟨_,q1⟩
  ·obtain⟨o',q1⟩:=dv b o q hb
   exact⟨o',x1.1 _ _ q1⟩
 ·obtain⟨m1,q1⟩:=I.base.gP b ps q
  obtain⟨m2,q2⟩:=F.un.gP b _ q1
  exact⟨m1++m2,by rw [<-Array.append_assoc];exact q2⟩
theorem xi{k:Nat}{params:Arguments}{body:Expr}{pm fJ:Value}{c':Addr}{oc:Obj}{dq:Array Value}{ct:Tok}{us:List Value}{vs ws:List V}{Q:VK}{Z:List (Addr×Obj)}{t:TE}
 (S:sJ ps ys scope) (hr:dM k A) (e0:i9 P w K mg base A outer s H) (z:vA Z H (eY outer) s.heap) (zb:∀b o,Z.lookup b=some o->base.get? b=none)
 (ho:s.heap.get? f=some (PySem.W.kla_obj "<lambda>" qual params body scope cl pm c' fJ)) (hc:s.heap.get? c'=some oc) (uN:oc.data=.fields dq) (Hr:dq[1]?=some (.str qual ct))
 (hb:bindArgs (PySem.W.kla_fn "<lambda>" qual params body scope cl pm (.ref c') fJ) ⟨us,[]⟩=pure (ps.zip us)) (r:Vals vs us) (hl:vs.length=ps.length) (hw:ws.length=ys.length)
 (LN:∀y∈ys,∃c,cl.lookup y=some c) (inj:∀x y c,cl.lookup x=some c->cl.lookup y=some c->x=y)
 (cz:∀x c,cl.lookup x=some c->∃o v,Z.lookup c=some o/\o.data=.cell v)
 (cells:∀(i:Nat) y c,ys[i]?=some y->cl.lookup y=some c->∀v,ws[i]?=some v->∃u,RelV v u/\s.heap.IsCell c (some u))
 (ht:PE (Gp P w K mg base (ps++ys) qual scope f (.ref c') cl A outer s H (λC a H'=>(∀b o,Z.lookup b=some o->H' b=none)->E C a (aZ Z H'))) body t)
 (hq:t (vs.map some++ws.map some) H λv H'=>(∀b o,Z.lookup b=some o->H' b=none)->Q v (aZ Z H')):
 codeAny (model P w) A (.call (.ref f) ⟨us,[]⟩) (CR (d8 P w) outer P w (aZ Z H) s Q E) s:=by
 have lim:s.heap.NoLimit:=e0.mod.nolimit.keeps λb o e=>(e0.bs b o e).1
 refine PySem.W.kla_callFunE hr.depth ho rfl S.co S.gen rfl ⟨c',oc,dq,ct,rfl,hc,uN,Hr⟩ ?_;rw [hb];refine zzG (wpAny_newFunctionEnv S.BC (λy hy=>S.par y.1 (List.of_mem_zip hy).1) (λh₁ OR hsb=>?_) S.kind)
 have hk₁:∀b o,s.heap.get? b=some o->h₁.get? b=some o:=λb o e=>hsb.extBut b o (zzb (zzO e)) (zzB _ e)
 refine⟨lim.keeps hk₁,?_⟩;show codeAny _ _ (.expr body (PySem.W.envX qual scope s.heap.objs.size f (.ref c') cl)) _ _;have I:=vi (E:=λC a H'=>(∀b o,Z.lookup b=some o->H' b=none)->E C a (aZ Z H')) (cd:=.ref c') (f:=f) (qual:=qual) (tk:=s.toks+(ps.zip us).length) S hr.hd e0 LN inj r hl hw cells (λx c h=>by
  obtain⟨o,v,h1,h2⟩:=cz x c h
  exact⟨v,o,z.at_ c o h1,h2⟩) (λx c h=>by
  obtain⟨o,v,h1,h2⟩:=cz x c h
  exact z.no c o h1) OR hk₁
 refine PySem.W.kla_codeExpr (wpAny_mono (ht [] _ _ H _ I hq) (λu s' hs=>?_) λe s' hs=>?_)
 ·obtain⟨v,H',J,rv,q⟩:=hs
  exact CE.more z ⟨v,H',J.os,J.bare,J.base,J.aS,rv,q⟩
 ·exact wpAny_mono hs (λ_ FG y=>d8.more z y) λe' FG y=>d8.more z y
end
theorem vE{p:Pos}{a b:Int}{c cv:Value}:∀(l:List Value),TriplesOk l->codeAmong p (l++[rawInt a,rawInt b,c])=some cv->codeAmong p l=some cv\/cv=c:=by
 intro l h e
 fun_induction TriplesOk l with
 |case1=>
  simp only [List.nil_append,codeAmong,rawInt] at e;split at e
  ·cases e;exact .inr rfl
  ·cases e
 |case2 a' t b' u x rest ih=>
  simp only [List.cons_append,codeAmong] at e⊢;split at e
  ·rename_i hc;rw [if_pos hc];exact .inl e
  ·rename_i hc;rw [if_neg hc];exact ih h e
 |case3 l h1 h2=>exact h.elim
def BS(mg:Str->Option Value)(base:Heap):Prop:=∃bm o,mg "__builtins__"=some (.ref bm)/\bm≠builtinsNs/\bm≠mainGlobals/\base.get? bm=some o/\o.cls=.type "module"/\o.dict=some builtinsNs/\o.data=.plain
noncomputable def gH(H:Hp)(P:Addr)(q8:Array Value)(c':Addr)(oc:Obj)(f:Addr)(fo:Obj):Hp:=upd (upd (upd H P (.fX q8)) c' (.bK oc bT)) f (.bK fo bT)
section
variable{X:Cx}{ae:List (Addr×Obj)}{σ:St}{H:Hp}{s:Shared}{c P c' f:Addr}{ps q8:Array Value}{oc fo:Obj}
theorem Inv.lam{h':Heap}{tk:Nat}(I:Inv X ae σ H s)(hP:H P=some (.fX ps))(hx:∀b o,b≠P->s.heap.get? b=some o->h'.get? b=some o)(Pa:h'.get? P=some (PySem.W.tabObj q8))(more:∃m,q8=ps++m)
 (hc:H c'=none/\s.heap.objs.size<=c'\/H c'=some (.bK oc bT)) (Vl:h'.get? c'=some oc) (hf:s.heap.objs.size<=f) (Uw:h'.get? f=some fo) (CO:c'≠f):
 Inv X ae σ (gH H P q8 c' oc f fo) {s with heap:=h',toks:=tk}:=by
 have fr:H f=none:=I.aS.fresh hf
 have nP:∀b u,H b=some u->(∀q,u≠.fX q)->b≠P:=λb u e n z=>by subst z;rw [hP] at e;cases e;exact n _ rfl
 have nf:∀b u,H b=some u->b≠f:=λb u e z=>by subst z;rw [fr] at e;cases e
 have cP:c'≠P:=λz=>by
  subst z;rcases hc with⟨e,_⟩|e
  ·rw [hP] at e;cases e
  ·rw [hP] at e;cases e
 have fP:f≠P:=λz=>by subst z;rw [hP] at fr;cases fr
 have at_:∀b u,H b=some u->(∀q,u≠.fX q)->gH H P q8 c' oc f fo b=some u:=λb u e n=>by
  unfold gH;rw [af (nf b u e)]
  by_cases hb:b=c'
  ·subst hb;rw [aq];rcases hc with⟨z,_⟩|z
   ·rw [z] at e;cases e
   ·rw [z] at e;exact e
  ·rw [af hb,af (nP b u e n)];exact e
 have no:∀b o,s.heap.get? b=some o->H b=none->gH H P q8 c' oc f fo b=none:=λb o e n=>by
  have Gb:b≠f:=λz=>absurd (zzO e) (by rw [z];exact Nat.not_lt.mpr hf)
  have LS:b≠P:=λz=>by subst z;rw [hP] at n;cases n
  have zr:b≠c':=λz=>by
   rcases hc with⟨_,y⟩|y
   ·exact absurd (zzO e) (by rw [z];exact Nat.not_lt.mpr y)
   ·rw [z,y] at n;cases n
  unfold gH;rw [af Gb,af zr,af LS];exact n
 have kp:∀b o,s.heap.get? b=some o->H b=none->h'.get? b=some o:=λb o e n=>hx b o (λz=>by subst z;rw [hP] at n;cases n) e
 refine I.un ⟨λb o e n _ _=>kp b o e n,λb o e n _ _=>⟨o.slots,kp b o e n⟩,λb o e n _=>no b o e n,λb o e _=>?_,λb xs e=>at_ b _ e (λ_ z=>nomatch z),λb o u e=>at_ b _ e (λ_ z=>nomatch z),λb qs e=>?_⟩ λb u e=>?_
 ·by_cases hb:b=P
  ·exact⟨_,by rw [hb];exact Pa⟩
  ·exact⟨o,hx b o hb e⟩
 ·by_cases hb:b=P
  ·subst hb;rw [hP] at e;cases e;obtain⟨m,rfl⟩:=more
   exact⟨m,by unfold gH;rw [af (Ne.symm fP),af (Ne.symm cP),aq]⟩
  ·have zr:b≠c':=λz=>by
    subst z;rcases hc with⟨y,_⟩|y
    ·rw [y] at e;cases e
    ·rw [y] at e;cases e
   exact⟨#[],by unfold gH;rw [af (nf b _ e),af zr,af hb,e];simp⟩
 ·unfold gH at e
  by_cases h1:b=f
  ·subst h1;rw [aq] at e;cases e;exact lI Uw
  ·rw [af h1] at e
   by_cases h2:b=c'
   ·subst h2;rw [aq] at e;cases e;exact lI Vl
   ·rw [af h2] at e
    by_cases h3:b=P
    ·subst h3;rw [aq] at e;cases e;exact Pa
    ·rw [af h3] at e;refine(I.aS b u e).ei (λd v hd q=>hx d v ?_ q) (λd q=>at_ d _ q (λ_ z=>nomatch z)) λd xs q=>at_ d _ q (λ_ z=>nomatch z)
     rcases hd with hd|hd
     ·rw [hd];exact h3
     ·exact nP d _ hd (λ_ z=>nomatch z)
theorem Cb{R:Addr->Obj->Prop}{params:Arguments}{body:Expr}{scope:Scope}{pos:Pos}{cl:List (Str×Addr)}{Q:Value->Shared->Prop}{E:Value->Shared->Prop}(I:Inv X ae σ H s)(hP:H P=some (.fX ps))(ht:TriplesOk ps.toList)(vN:X.env.code=.ref c)(C:PySem.W.CodeHd X.base c P)
 (U0:BS X.mg X.base) (Hk:closureFor scope X.env=pure cl) (J6:defaultsOf params X.env=([],[]))
 (hit:∀cv,codeAmong pos ps.toList=some cv->∃c' oc dq t,cv=.ref c'/\H c'=some (.bK oc bT)/\R c' oc/\oc.data=.fields dq/\dq[1]?=some (.str (X.env.qual++"<lambda>") t))
 (h:∀(f c':Addr) (oc:Obj) (dq:Array Value) (t:Tok) (fJ:Value) (q8:Array Value) (h':Heap) (tk:Nat),H f=none->(H c'=none\/H c'=some (.bK oc bT)/\R c' oc)->c'≠f->f≠P->c'≠P->oc.data=.fields dq->dq[1]?=some (.str (X.env.qual++"<lambda>") t)->TriplesOk q8.toList->
  (∀p cv,codeAmong p q8.toList=some cv->codeAmong p ps.toList=some cv\/cv=.ref c')->(∃m,q8=ps++m)->
  Inv X ae σ (gH H P q8 c' oc f (PySem.W.kla_obj "<lambda>" (X.env.qual++"<lambda>") params body scope cl ((X.mg "__name__").getD .none) c' fJ)) {s with heap:=h',toks:=tk}->Q (.ref f) {s with heap:=h',toks:=tk}):
 wpAny (model X.prog X.w) X.A (eval (.Lambda params body scope pos) X.env) Q E s:=by
 have Qi:s.heap.get? P=some (PySem.W.tabObj ps):=I.aS P _ hP
 have hg:=I.ok.mod.glob.keeps I.bk
 have Uq:mainGlobals≠P:=λq=>by
  obtain⟨o,es,ep,e,_⟩:=I.ok.mod.glob
  have:=(I.bs _ _ e).2
  rw [q,hP] at this;cases this
 obtain⟨bm,ob,b1,b2,b3,b4,b5,b6,b7⟩:=U0
 have hB:s.heap.BuiltinsAt X.mg P:=⟨bm,ob,b1,b2,b3,(λq=>by
  have:=(I.bs _ _ b4).2
  rw [q,hP] at this;cases this),I.bk _ _ b4,b5,b6,b7⟩
 refine PySem.W.kla_eval J6 ?_;cases hm:codeAmong pos ps.toList with
 |none=>
  refine PySem.W.kla_makeFunction (mg:=X.mg) Hk I.ok.glob hg vN (C.keeps I.bk) Qi ht hm Uq hB λc' fJ h' tk hx Im bZ P1 VE=>?_
  obtain⟨c₂,oc,vs,t,e2,hoc,hd,hv⟩:=P1
  cases e2;have Hr:H c'=none:=I.aS.fresh Im
  have hsz:s.heap.objs.size<=h'.objs.size:=zzU Im (Nat.le_of_lt bZ)
  have kI:H h'.objs.size=none:=I.aS.fresh hsz
  refine h h'.objs.size c' oc vs t fJ _ _ tk kI (.inl Hr) (zzb bZ) (λz=>by rw [z,hP] at kI;cases kI) (λz=>by rw [z,hP] at Hr;cases Hr) hd hv ?_ ?_ ⟨_,rfl⟩
   (I.lam hP (λb o hb e=>zzB _ (hx b o hb e)) (zzB _ VE) ⟨_,rfl⟩ (.inl ⟨Hr,Im⟩) (zzB _ hoc) hsz (zzX _ rfl) (zzb bZ))
  ·rw [Array.toList_append];exact TriplesOk_snoc _ _ _ _ ht
  ·intro p cv e;rw [Array.toList_append] at e;exact vE _ ht e
 |some cv=>
  obtain⟨c',oc,dq,t,rfl,gW,hR,hd,hv⟩:=hit cv hm
  refine PySem.W.kla_makeFunctionHit (mg:=X.mg) Hk I.ok.glob hg vN (C.keeps I.bk) Qi ht hm hB λfJ h' tk hk hsz=>?_
  have kI:H h'.objs.size=none:=I.aS.fresh hsz
  have wo:s.heap.get? c'=some oc:=(I.aS c' _ gW).1
  have CO:c'≠h'.objs.size:=λz=>by rw [z,kI] at gW;cases gW
  refine h h'.objs.size c' oc dq t fJ ps _ tk kI (.inr ⟨gW,hR⟩) CO (λz=>by rw [z,hP] at kI;cases kI) (λz=>by rw [z,hP] at gW;cases gW) hd hv ht (λp cv e=>.inl e) ⟨#[],by simp⟩
   (I.lam hP (λb o hb e=>zzB _ (hk b o e)) (zzB _ (hk _ _ Qi)) ⟨#[],by simp⟩ (.inr gW) (zzB _ (hk _ _ wo)) hsz (zzX _ rfl) CO)
end
section
end
section
end
section
variable{a b:Expr}
end
section
end
section
variable{κ:Type} [DecidableEq κ]
def hX(aw:List (κ×V))(k:κ):Option V:=(aw.find? λkv=>decide (kv.1=k)).map (·.2)
def putK(aw:List (κ×V))(k:κ)(v:V):List (κ×V):=
 if(aw.any λkv=>decide (kv.1=k))=true then aw.map (λkv=>if kv.1=k then(kv.1,v) else kv) else aw++[(k,v)]
def fV(aw:List (κ×V))(k:κ):List (κ×V):=aw.filter λkv=>decide (kv.1≠k)
theorem gj{p:κ×V}{r:List (κ×V)}{k:κ}(e:p.1=k):hX (p::r) k=some p.2:=by simp [hX,List.find?_cons,e]
theorem gJ{p:κ×V}{r:List (κ×V)}{k:κ}(e:¬p.1=k):hX (p::r) k=hX r k:=by simp [hX,List.find?_cons,e]
theorem mE(k:κ):∀aw:List (κ×V),(aw.any λkv=>decide (kv.1=k))=(hX aw k).isSome
 |[]=>rfl
 |p::r=>by
  rw [List.any_cons]
  by_cases e:p.1=k
  ·simp only [gj e,zzh e,Bool.true_or,Option.isSome_some]
  ·rw [gJ e,decide_eq_false e,Bool.false_or];exact mE k r
theorem eW(aw:List (κ×V))(k:κ)(v:V):(putK aw k v).length<=aw.length+1:=by
 unfold putK;split
 ·rw [zzl];omega
 ·rw [zzM,zzL,List.length_nil];omega
theorem kO.fD{o:Option V}{u:Option Value}(r:kO o u):o.isSome=u.isSome:=by
 cases o with
 |none=>cases u with
  |none=>rfl
  |some _=>exact(show False from r).elim
 |some _=>cases u with
  |none=>exact(show False from r).elim
  |some _=>rfl
theorem KV.val{aw:List (κ×V)}{vs:List (κ×Value)}(r:KV aw vs)(k:κ):kO (hX aw k) (valueAt vs k):=by
 unfold KV at r
 induction r with
 |nil=>exact True.intro
 |@cons p q ps qs h t ih=>
  obtain⟨h1,h2⟩:=h
  by_cases e:p.1=k
  ·have e':q.1=k:=h1.symm.trans e
   have b:valueAt (q::qs) k=some q.2:=by simp [valueAt,List.find?_cons,e']
   rw [gj e,b];exact h2
  ·have e':¬q.1=k:=λz=>e (h1.trans z)
   have b:valueAt (q::qs) k=valueAt qs k:=by simp [valueAt,List.find?_cons,e']
   rw [gJ e,b];exact ih
theorem KV.any{aw:List (κ×V)}{vs:List (κ×Value)}(r:KV aw vs)(k:κ):(aw.any λkv=>decide (kv.1=k))=vs.any λkv=>decide (kv.1=k):=by
 unfold KV at r
 induction r with
 |nil=>rfl
 |cons h t ih=>rw [List.any_cons,List.any_cons,ih,h.1]
theorem KV.KD{aw:List (κ×V)}{vs:List (κ×Value)}(r:KV aw vs)(k:κ){y:V}{u:Value}(ry:RelV y u):
 KV (aw.map λkv=>if kv.1=k then(kv.1,y) else kv) (vs.map λkv=>if kv.1=k then(kv.1,u) else kv):=by
 unfold KV at r⊢
 induction r with
 |nil=>exact .nil
 |@cons p q ps qs h t ih=>
  rw [zzF,zzF];refine .cons ?_ ih;obtain⟨h1,h2⟩:=h
  by_cases e:p.1=k
  ·rw [if_pos e,if_pos (h1.symm.trans e)];exact⟨h1,ry⟩
  ·rw [if_neg e,if_neg (λz=>e (h1.trans z))];exact⟨h1,h2⟩
theorem KV.put{aw:List (κ×V)}{vs:List (κ×Value)}(r:KV aw vs)(k:κ){y:V}{u:Value}(ry:RelV y u):KV (putK aw k y) (stored vs k u):=by
 unfold putK stored;rw [r.any k]
 by_cases e:(vs.any λkv=>decide (kv.1=k))=true
 ·rw [if_pos e,if_pos e];exact r.KD k ry
 ·rw [if_neg e,if_neg e];exact Paired.snoc r ⟨rfl,ry⟩
theorem KV.length{aw:List (κ×V)}{vs:List (κ×Value)}(r:KV aw vs):aw.length=vs.length:=Paired.length r
theorem Cm(aw:List (κ×V))(k:κ):(fV aw k).length<=aw.length:=List.length_filter_le _ _
end
theorem sf{P:Program}{w:World}{k:Key}{u:Value}(r:RelV (kV k) u):(bY P w).is k u=true:=by
 cases k with
 |inl i=>obtain⟨t,e⟩:=(show∃t,u=Value.int i t from r);subst e;exact sj P w i t
 |inr x=>obtain⟨t,e⟩:=(show∃t,u=Value.str x t from r);subst e;exact sQ P w x t
theorem oG{P:Program}{w:World}:∀{ks:List Key} {us:List Value},Vals (ks.map kV) us->ItemsAre (bY P w) ks us
 |[],_,r=>by rw [List.map_nil] at r;cases r;exact .nil
 |k::ks,_,r=>by
  rw [zzF] at r;cases r with
  |cons h t=>exact .cons (sf h) (oG t)
abbrev KT(H:Hp):List (List Key×V)->List (List Key×Addr×Value)->Prop:=Paired λp q=>p.1=q.1/\H q.2.1=some (.tup (p.1.map kV))/\RelV p.2 q.2.2
theorem KT.val{H:Hp}{aw:List (List Key×V)}{xs:List (List Key×Addr×Value)}(r:KT H aw xs)(k:List Key):kO (hX aw k) ((atKey xs k).map (·.2)):=by
 induction r with
 |nil=>exact True.intro
 |@cons p q ps qs h t ih=>
  obtain⟨h1,_,h2⟩:=h
  by_cases e:p.1=k
  ·have e':q.1=k:=h1.symm.trans e
   have b:atKey (q::qs) k=some q.2:=by simp [atKey,List.find?_cons,e']
   rw [gj e,b];exact h2
  ·have e':¬q.1=k:=λz=>e (h1.trans z)
   have b:atKey (q::qs) k=atKey qs k:=by simp [atKey,List.find?_cons,e']
   rw [gJ e,b];exact ih
theorem KT.KD{H:Hp}{aw:List (List Key×V)}{xs:List (List Key×Addr×Value)}(r:KT H aw xs)(k:List Key){y:V}{u:Value}(ry:RelV y u):
 KT H (aw.map λkv=>if kv.1=k then(kv.1,y) else kv) (xs.map (putAt k u)):=by
 induction r with
 |nil=>exact .nil
 |@cons p q ps qs h t ih=>
  rw [zzF,zzF];refine .cons ?_ ih;obtain⟨h1,h2,h3⟩:=h
  unfold putAt
  by_cases e:p.1=k
  ·rw [if_pos e,if_pos (h1.symm.trans e)];exact⟨h1,h2,ry⟩
  ·rw [if_neg e,if_neg (λz=>e (h1.trans z))];exact⟨h1,h2,h3⟩
theorem KT.put{H:Hp}{aw:List (List Key×V)}{xs:List (List Key×Addr×Value)}(r:KT H aw xs)(k:List Key){b:Addr}{y:V}{u:Value}(hb:H b=some (.tup (k.map kV)))(ry:RelV y u):
 KT H (putK aw k y) (storedH xs k b u):=by
 have e:(aw.any λkv=>decide (kv.1=k))=(atKey xs k).isSome:=by
  rw [mE,(r.val k).fD,Option.isSome_map]
 unfold putK storedH;rw [e]
 by_cases q:(atKey xs k).isSome=true
 ·rw [if_pos q,if_pos q];exact r.KD k ry
 ·rw [if_neg q,if_neg q];exact Paired.snoc r ⟨rfl,hb,ry⟩
theorem KT.keeps{H H':Hp}{aw:List (List Key×V)}{xs:List (List Key×Addr×Value)}(r:KT H aw xs)(ht:∀b ys,H b=some (.tup ys)->H' b=some (.tup ys)):KT H' aw xs:=
 Paired.x6 r λ_ _ z=>⟨z.1,ht _ _ z.2.1,z.2.2⟩
section
variable{P:Program}{w:World}{H:Hp}{h:Heap}{a:Addr}
theorem GG{u:HO}(ok:eJ P w H h)(e:Rd H a u):bV P w H h a u:=e.ok ok
theorem oK{aw:List (Key×V)}(ok:eJ P w H h)(e:Rd H a (.dK aw)):aw.length<=sizeLine/\(a==sysModules)=false/\∃vs,KV aw vs/\h.DictOf (bY P w) a vs:=
 show bV P w H h a (.dK aw) from GG ok e
theorem MG{aw:List (Key×V)}(ok:eJ P w H h)(e:H a=some (.dK aw)):aw.length<=sizeLine/\(a==sysModules)=false/\∃vs,KV aw vs/\h.DictOf (bY P w) a vs:=oK ok (.inl e)
theorem gK{ks:List Key}(ok:eJ P w H h)(e:H a=some (.tup (ks.map kV))):(tupleKind (bY P w)).is h ks a:=by
 obtain⟨_,ax,r,o,h1,h2,n,h3⟩:=(show bV P w H h a (.tup (ks.map kV)) from ok a _ e)
 exact⟨o,ax.toArray,n,h1,h2,h3,by simpa using oG r⟩
theorem kF{aw:List (List Key×V)}(ok:eJ P w H h)(e:Rd H a (.dT aw)):aw.length<=sizeLine/\(a==sysModules)=false/\
 ∃xs,KT H aw xs/\h.DictOfH (tupleKind (bY P w)) a xs:=by
 obtain⟨z,y,xs,r,o,es,ep,h1,h2,h3,h4,h5⟩:=(show bV P w H h a (.dT aw) from GG ok e)
 refine⟨z,y,xs,r,o,es,ep,h1,h2,h3,h4,λx hx=>?_,h5⟩
 have all:∀{l:List (List Key×V)} {m:List (List Key×Addr×Value)},KT H l m->∀x∈m,(tupleKind (bY P w)).is h x.1 x.2.1:=by
  intro l m q
  induction q with
  |nil=>intro x hx;exact nomatch hx
  |@cons p q ps qs hq t ih=>
   intro x hx;rcases List.mem_cons.mp hx with e|hx
   ·subst e;exact gK ok (by rw [<-hq.1];exact hq.2.1)
   ·exact ih x hx
 exact all r x hx
theorem BO{aw:List (List Key×V)}(ok:eJ P w H h)(e:H a=some (.dT aw)):aw.length<=sizeLine/\(a==sysModules)=false/\
 ∃xs,KT H aw xs/\h.DictOfH (tupleKind (bY P w)) a xs:=kF ok (.inl e)
end
def Co(H:Hp)(a:Addr)(y:V)(r:Option V):Prop:=
 (∃aw k,Rd H a (.dK aw)/\y=kV k/\r=hX aw k)\/∃aw k b,Rd H a (.dT aw)/\y=.ref b/\H b=some (.tup (k.map kV))/\r=hX aw k
def y7(H:Hp)(a:Addr)(y v:V)(H':Hp):Prop:=
 (∃aw k,H a=some (.dK aw)/\y=kV k/\aw.length<sizeLine/\H'=upd H a (.dK (putK aw k v)))\/
 ∃aw k b,H a=some (.dT aw)/\y=.ref b/\H b=some (.tup (k.map kV))/\aw.length<sizeLine/\H'=upd H a (.dT (putK aw k v))
theorem y7.t{H:Hp}{a b:Addr}{aw:List (List Key×V)}{k:List Key}{v:V}(e:H a=some (.dT aw))(eb:H b=some (.tup (k.map kV)))(hl:aw.length<sizeLine):
 y7 H a (.ref b) v (upd H a (.dT (putK aw k v))):=.inr ⟨aw,k,b,e,rfl,eb,hl,rfl⟩
section
variable{X:Cx}{ae:List (Addr×Obj)}{σ:St}{H:Hp}{s:Shared}{a:Addr}{y v:V}{u r:Value}{o:Option V}{A:Around}{E:Value->Shared->Prop}
theorem Inv.big(I:Inv X ae σ H s):sysModules<s.heap.objs.size:=by
 have h:mainGlobals<s.heap.objs.size:=(I.mod.glob.keeps I.bk).lt
 exact Nat.lt_trans (by decide) h
theorem yK{Q:Value->Shared->Prop}(hu:A.units+1<cLine)(I:Inv X ae σ H s)(g:Co H a y (some v))(ry:RelV y u)(h:∀w' s',Inv X ae σ H s'->RelV v w'->Q w' s'):
 wpAny (model X.prog X.w) A (getItem (.ref a) u) Q E s:=by
 rcases g with⟨aw,k,e,ey,l⟩|⟨aw,k,b,e,ey,eb,l⟩
 ·subst ey;obtain⟨z,hd,vs,rel,dd⟩:=oK I.aS e
  obtain⟨w',hw,ij⟩:=kO.some_of (v:=v) (o:=valueAt vs k) (by rw [l];exact rel.val k)
  exact wpAny_getItem_of (sf ry) dd.mapOf hw (h w' _ (I.tok _) ij)
 ·subst ey;cases(show u=Value.ref b from ry);obtain⟨z,hd,xs,rel,dd⟩:=kF I.aS e
  obtain⟨w',hw,ij⟩:=kO.some_of (v:=v) (o:=(atKey xs k).map (·.2)) (by rw [l];exact rel.val k)
  obtain⟨p,hp,hp2⟩:=zzJ.mp hw
  refine wpAny_getItem_heap (tupleKind_room_in1 hu) (gK I.aS eb) dd hp ?_;rw [hp2];exact h w' _ (I.tok _) ij
theorem Pl{Q:Value->Shared->Prop}(hu:A.units+1<cLine)(I:Inv X ae σ H s)(g:Co H a y o)(ry:RelV y u)(h:∀s',Inv X ae σ H s'->Q (.bool o.isSome) s'):
 wpAny (model X.prog X.w) A (compareOp .In u (.ref a)) Q E s:=by
 rcases g with⟨aw,k,e,ey,l⟩|⟨aw,k,b,e,ey,eb,l⟩
 ·subst ey;obtain⟨z,hd,vs,rel,dd⟩:=oK I.aS e
  refine wpAny_in_of (sf ry) hd dd.mapOf ?_;rw [<-(rel.val k).fD,<-l];exact h _ (I.tok _)
 ·subst ey;cases(show u=Value.ref b from ry);obtain⟨z,hd,xs,rel,dd⟩:=kF I.aS e
  refine wpAny_in_heap (tupleKind_room_in1 hu) (gK I.aS eb) hd dd ?_;have q:=(rel.val k).fD
  rw [Option.isSome_map] at q;rw [<-q,<-l];exact h _ (I.tok _)
theorem F4{Q:Value->Shared->Prop}(hu:A.units+1<cLine)(I:Inv X ae σ H s)(g:Co H a y o)(ry:RelV y u)(h:∀s',Inv X ae σ H s'->Q (.bool (!o.isSome)) s'):
 wpAny (model X.prog X.w) A (compareOp .NotIn u (.ref a)) Q E s:=by
 rcases g with⟨aw,k,e,ey,l⟩|⟨aw,k,b,e,ey,eb,l⟩
 ·subst ey;obtain⟨z,hd,vs,rel,dd⟩:=oK I.aS e
  refine wpAny_notIn_of (sf ry) hd dd.mapOf ?_;rw [<-(rel.val k).fD,<-l];exact h _ (I.tok _)
 ·subst ey;cases(show u=Value.ref b from ry);obtain⟨z,hd,xs,rel,dd⟩:=kF I.aS e
  refine wpAny_notIn_heap (tupleKind_room_in1 hu) (gK I.aS eb) hd dd ?_;have q:=(rel.val k).fD
  rw [Option.isSome_map] at q;rw [<-q,<-l];exact h _ (I.tok _)
theorem gR{h':Heap}{t':Nat}{ob:HO}(I:Inv X ae σ H s)(mu:Nv (H a))(hs:Heap.SameBut a s.heap h')(he:∃q,h'.get? a=some q)(new:bV X.prog X.w (upd H a ob) h' a ob):
 Inv X ae σ (upd H a ob) {s with heap:=h',toks:=t'}:=
 I.write (x:=a) (e:=a) mu (.inl rfl) (λb q hb z=>(hs.2 b hb).trans z) he new
theorem IE{P:Program}{w:World}{H':Hp}{h':Heap}{aw:List (Key×V)}{vs:List (Key×Value)}(z:aw.length<=sizeLine)(hd:(a==sysModules)=false)(rel:KV aw vs)(dd:h'.DictOf (bY P w) a vs):
 bV P w H' h' a (.dK aw):=⟨z,hd,vs,rel,dd⟩
theorem yy{H':Hp}{Q:Unit->Shared->Prop}(hu:A.units+1<cLine)(I:Inv X ae σ H s)(g:y7 H a y v H')(ry:RelV y u)(rv:RelV v r)(h:∀s',Inv X ae σ H' s'->Q () s'):
 wpAny (model X.prog X.w) A (setItem (.ref a) u r) Q E s:=by
 rcases g with⟨aw,k,e,ey,l,eH⟩|⟨aw,k,b,e,ey,eb,l,eH⟩
 ·subst ey eH;obtain⟨z,hd,vs,rel,dd⟩:=MG I.aS e
  have hz:vs.length<=sizeLine:=by rw [<-rel.length];exact z
  have hl:(putK aw k v).length<=sizeLine:=by have:=eW aw k v;omega
  refine wpAny_setItem_pairs (hsz:=hz) (sf ry) dd λh' GU hs=>h _ ?_
  have he:∃q,h'.get? a=some q:=let⟨q,_,_,hq,_⟩:=GU;⟨q,hq⟩
  exact gR I (by rw [e];exact True.intro) hs he (IE hl hd (rel.put k rv) GU)
 ·subst ey eH;cases(show u=Value.ref b from ry);obtain⟨z,hd,xs,rel,dd⟩:=BO I.aS e
  have hz:xs.length<=sizeLine:=by rw [<-Paired.length rel];exact z
  have hl:(putK aw k v).length<=sizeLine:=by have:=eW aw k v;omega
  refine wpAny_setItem_heap (hsz:=hz) (tupleKind_room_in1 hu) (gK I.aS eb) dd λh' GU hs=>h _ ?_
  obtain⟨q,es,ep,hq,h2,h3,h4,_,h5⟩:=GU
  refine gR I (by rw [e];exact True.intro) hs ⟨q,hq⟩ ⟨hl,hd,_,(rel.put k eb rv).keeps λc ys ec=>?_,q,es,ep,hq,h2,h3,h4,h5⟩
  rw [af (fA ec e (λz=>nomatch z))];exact ec
end
def Nq(i:Expr):Prop:=∀ov iv,subscripted i false ov iv=operate [ov,iv] (getItem ov iv)
theorem Ew{prog:Program}{w:World}{A:Around}{E:Value->Shared->Prop}{s:Shared}{env:Env}{value slice:Expr}{pos:Pos}{T id:String}{Q:Value->Shared->Prop}
 (hl:typeLookup (.type T) "__getitem__"=pure (some (.builtin id))) (hs:Nq slice)
 (h:wpAny (model prog w) A (eval value env) (λo s₁=>wpAny (model prog w) A (eval slice env) (λi s₂=>s₂.TypeIs o T/\wpAny (model prog w) A (getItem o i) Q E s₂) E s₁) E s):
 wpAny (model prog w) A (eval (.Subscript value slice pos) env) Q E s:=by
 refine Subscript_ (wpAny_mono h (λo s₁ h₁=>wpAny_mono h₁ (λi s₂ h₂=>?_) λ_ _ x=>x) λ_ _ x=>x)
 obtain⟨hT,h₂⟩:=h₂
 unfold subscriptTail;refine zzA ?_;rw [getitemInPython_of_ne hT.not_modules];refine zzA (wpAny_specialOf hT hl ?_);have fin:wpAny (model prog w) A (subscripted slice false o i) (λr s₃=>wpAny (model prog w) A (letTemporaryGo value o r>>=λ_=>pure r) Q E s₃) E s₂:=by
  rw [hs o i];exact wpAny_operating (wpAny_mono h₂ (λr s₃ h₃=>zzA (wpAny_letTemporaryGo (zzG h₃))) λ_ _ x=>x)
 first
  |exact zzG (zzA fin)
  |exact zzA (zzG (zzA fin))
  |exact zzA fin
theorem rO{X:Cx}{ae:List (Addr×Obj)}{σ:St}{H:Hp}{s:Shared}{a:Addr}{y:V}{o:Option V}(I:Inv X ae σ H s)(g:Co H a y o):s.TypeIs (.ref a) "dict":=by
 rcases g with⟨aw,k,e,_,_⟩|⟨aw,k,b,e,_,_,_⟩
 ·obtain⟨_,_,vs,_,dd⟩:=oK I.aS e
  exact dd.typeIs
 ·obtain⟨_,_,xs,_,dd⟩:=kF I.aS e
  exact dd.typeIs
def Hg(td ty:TE):TE:=λσ H Q=>td σ H λx H1=>ty σ H1 λy H2=>∃a v,x=.ref a/\Co H2 a y (some v)/\Q v H2
section
variable{X:Cx}{o i:Expr}{pos:Pos}{td ty:TE}
theorem CU(hu:X.A.units+1<cLine)(ho:PE X o td)(hi:PE X i ty)(hs:Nq i):PE X (.Subscript o i pos) (Hg td ty):=by
 intro ae s σ H Q I h;refine Ew PySem.F.slot_dict_getitem.lookup hs (bX (ho ae s σ H _ I h) λu s1 ⟨x,H1,I1,rx,q1⟩=>bX (hi ae s1 σ H1 _ I1 q1) λiv s2 ⟨y,H2,I2,ry,a,v,ex,g,q2⟩=>?_)
 subst ex;obtain rfl:u=Value.ref a:=rx
 exact⟨rO I2 g,yK hu I2 g ry λw' s3 I3 ij=>⟨v,H2,I3,ij,q2⟩⟩
end
theorem so{P:Program}{w:World}{H:Hp}(h:Heap)(hb:sysModules<h.objs.size):bV P w H (h.push {cls:=.type "dict",data:=.dict #[]}) h.objs.size (.dT []):=
 ⟨Nat.zero_le _,beq_eq_false_iff_ne.mpr (Ne.symm (zzb hb)),[],.nil,_,#[],0,zzX _ rfl,⟨rfl,rfl,rfl⟩,rfl,rfl,List.nodup_nil⟩
def HL:TE:=λ_ H Q=>∀p,H p=none->Q (.ref p) (upd H p (.dT []))
section
variable{X:Cx}{pos:Pos}
theorem Ct:PE X (.Dict [] [] pos) HL:=λae s σ H Q I h=>
 wpAny_Dict_empty ⟨.ref s.heap.objs.size,_,I.laid (a:=s.heap.objs.size) (o:=.dT []) (t':=s.toks) (λ_ _ q=>zzB _ q) (zzE _) (so s.heap I.big),rfl,h _ (I.aS.fresh (zzE _))⟩
end
structure M1(X:Cx)(o:Expr)(m:Str)(apos:Pos)(e:Expr)(cE:Pos):Prop where
 base:attributeBase o m X.env (eval o X.env)=eval o X.env
 Te:((backTo cE (starEach [e] X.env)).all (λx=>!x.1)&&(backToKw cE (keywordEach [] X.env)).all (λx=>x.1.isSome)
  &&decide (([e]:List Expr).length+([]:List Keyword).length+(if([]:List Keyword).isEmpty then 0 else 1)<30))=true
 line:(apos.endLine==cE.line)=true
 trees:backTo cE (starEach [e] X.env)=[(false,eval e X.env)]
structure M2(X:Cx)(o:Expr)(m:Str)(apos:Pos)(e f:Expr)(cE:Pos):Prop where
 base:attributeBase o m X.env (eval o X.env)=eval o X.env
 Te:((backTo cE (starEach [e,f] X.env)).all (λx=>!x.1)&&(backToKw cE (keywordEach [] X.env)).all (λx=>x.1.isSome)
  &&decide (([e,f]:List Expr).length+([]:List Keyword).length+(if([]:List Keyword).isEmpty then 0 else 1)<30))=true
 line:(apos.endLine==cE.line)=true
 trees:backTo cE (starEach [e,f] X.env)=[(false,eval e X.env),(false,eval f X.env)]
def Ho(H:Hp)(a:Addr):Prop:=(∃aw,Rd H a (.dK aw))\/∃aw,Rd H a (.dT aw)
theorem JF{X:Cx}{ae:List (Addr×Obj)}{σ:St}{H:Hp}{s:Shared}{a:Addr}(I:Inv X ae σ H s)(d:Ho H a):
 s.TypeIs (.ref a) "dict"/\(∀b,Value.ref a=.ref b->∃ob,s.heap.get? b=some ob/\ob.dict=none)/\(a==sysModules)=false:=by
 rcases d with⟨aw,e⟩|⟨aw,e⟩
 ·obtain⟨_,hd,vs,_,dd⟩:=oK I.aS e
  refine⟨dd.typeIs,λb q=>?_,hd⟩
  cases q;obtain⟨ob,_,_,h1,h2,_⟩:=dd
  exact⟨ob,h1,h2.2.1⟩
 ·obtain⟨_,hd,xs,_,dd⟩:=kF I.aS e
  refine⟨dd.typeIs,λb q=>?_,hd⟩
  cases q;obtain⟨ob,_,_,h1,h2,_⟩:=dd
  exact⟨ob,h1,h2.2.1⟩
end L2
namespace Att
open PySem PySem.W PySem.Calls PyProof.Rows
section
end
end Att
namespace L2
open PySem PySem.Spec PyProof.Rows
section
variable{κ:Type} [DecidableEq κ]
theorem yw{p:κ×V}{r:List (κ×V)}{k:κ}(e:p.1=k):fV (p::r) k=fV r k:=by
 unfold fV;rw [List.filter_cons,if_neg (by simp [e])]
theorem zd{p:κ×V}{r:List (κ×V)}{k:κ}(e:¬p.1=k):fV (p::r) k=p::fV r k:=by
 unfold fV;rw [List.filter_cons,if_pos (by simp [e])]
end
section
variable{prog:Program}{w:World}{κ:Type} [DecidableEq κ]{knd:HeapKind prog w κ}{A:Around}{E:Value->Shared->Prop}{s:Shared}{d a:Addr}{xs:List (κ×Addr×Value)}{k:κ}
theorem qN(d:Addr)(lo:(d==sysModules)=false):MeetsIn prog w (Builtin.«dict.__len__» ⟨[.ref d],[]⟩) (λ_ R s=>∃xs,s.heap.DictOfH knd d xs/\R (.ok (.ret (.int xs.length s.toks))) {s with toks:=s.toks+1}):=
 .of_wp λA R s ⟨xs,⟨o,es,ep,h1,_,h2,h3,_⟩,h⟩=>by
  show wpAny _ _ (dictSize d>>=λn=>_) _ _ s
  unfold dictSize;refine zzA (zzA (wpAny_dictEntries h1 h2 (zzG (zzA (wpAny_pendingCount_other lo (wpAny_ret_mkInt ?_))))));rw [Nat.add_zero,size_of_entries h3];exact h
theorem Hu{Q:Value->Shared->Prop}(lo:(d==sysModules)=false)(hm:s.heap.DictOfH knd d xs)(hf:(xs.length:Int)<2^63)(h:Q (.int xs.length (s.toks+1)) {s with toks:=s.toks+1+1}):wpAny (model prog w) A (call (.builtin "len") [.ref d]) Q E s:=by
 refine Calls.call_function_entry kind_len plain_len entry_len (args_len1 _) ?_;unfold Builtin.«len»;refine zzA (m:=oneArg "len" _) (zzG (zzA (m:=callSpecial? (.ref d) (Str.ofString "__len__")) (wpAny_callSpecial?_slot (name:=Str.ofString "__len__") hm.typeIs F.slot_dict_len
  (call_meetsIn F.slot_dict_len hm.typeIs F.entry_dict_len (F.args_dict_len_1 _) (qN (knd:=knd) d lo) ⟨xs,hm,?_⟩))))
 show wpAny _ _ (holding _ _>>=λz=>_) _ _ {s with toks:=s.toks+1}
 refine zzA (wpAny_holding (zzG (zzA (wpAny_letGo ?_))));show wpAny _ _ (if((xs.length:Nat):Int)<0 then _ else(if((xs.length:Nat):Int)>=2^63 then _ else _)) _ _ _;rw [if_neg (by omega),if_neg (by omega)];exact zzA (wpAny_mkInt (zzG ⟨_,rfl,h⟩))
theorem Ak{l:List (κ×Addr×Value)}:∀{j:Nat} {p:Addr×Value},(l.map (·.1)).Nodup->l[j]?=some (k,p)->l.eraseIdx j=l.filter λx=>decide (x.1≠k):=by
 induction l with
 |nil=>intro j p _ h;simp at h
 |cons x r ih=>
  intro j p nd h;rw [zzF,List.nodup_cons] at nd;cases j with
  |zero=>
   simp only [List.getElem?_cons_zero,Option.some.injEq] at h;subst h;simp only [List.eraseIdx_cons_zero,ne_eq,List.filter_cons,not_true,decide_false,zze,if_false];refine(List.filter_eq_self.mpr λy hy=>?_).symm;exact zzh λe=>nd.1 (e▸List.mem_map_of_mem (f:=(·.1)) hy)
  |succ j=>
   simp only [List.getElem?_cons_succ] at h;have mI:¬x.1=k:=λe=>nd.1 (e▸List.mem_map.mpr ⟨(k,p),zzD h,rfl⟩)
   rw [List.eraseIdx_cons_succ,List.filter_cons,if_pos (by simpa using mI),ih nd.2 h]
theorem oT{α β:Type}(f:α->β):∀(l:List α) (j:Nat),(l.eraseIdx j).map f=(l.map f).eraseIdx j
 |[],_=>by simp
 |x::r,0=>by simp
 |x::r,j+1=>by simp [oT f r j]
theorem ug{p:Addr×Value}{Q:Option DictEntry->Shared->Prop}(hu:knd.room A)(hk:knd.is s.heap k a)(hm:s.heap.DictOfH knd d xs)(hp:atKey xs k=some p)(hz:xs.length<=sizeLine)
 (hQ:∀h' e,e.val=p.2->h'.DictOfH knd d (xs.filter λx=>decide (x.1≠k))->Heap.SameBut d s.heap h'->Q (some e) {s with heap:=h',toks:=s.toks+knd.draws k}):wpAny (model prog w) A (Builtin.Dict.takeOut d (.ref a)) Q E s:=by
 obtain⟨o,es,ep,h1,hc,h2,h3,his,nd⟩:=hm
 unfold Builtin.Dict.takeOut
 try with_reducible refine wpAny_holding ?_
 refine zzA (knd.pyHash hu hk (zzA (wpAny_dictFind_heap (s:={s with toks:=s.toks+knd.draws k}) hu hk h1 h2 h3 his nd (λno=>?_) λj q hj=>?_)))
 ·rw [atKey_none_of_get no] at hp;cases hp
 ·rw [atKey_of_get nd hj] at hp;cases hp;refine zzA (wpAny_dictEntries (s:={s with toks:=s.toks+knd.draws k}) h1 h2 ?_);rw [entry_at h3 j,hj];refine zzA (wpAny_updateDictKeys (hz:=by have e:=size_of_entries h3;omega) (s:={s with toks:=s.toks+knd.draws k}) h1 h2 (zzG (hQ _ _ rfl ⟨_,_,ep+1,Heap.get?_update_self _ h1 (Obj.isFreed_of_dict (Obj.data_mapDictKeys h2 _)),
   hc.mapDictKeys _,Obj.data_mapDictKeys h2 _,?_,λx hx=>knd.keeps (his x (List.mem_filter.mp hx).1) h1 h2 (Heap.SameBut.update ..),nd.sublist (List.filter_sublist.map _)⟩ (Heap.SameBut.update ..))))
  rw [<-Ak nd hj,oT,<-h3];obtain⟨l⟩:=es
  simp [Array.eraseIdxIfInBounds];split
  ·simp
  ·rename_i hh;rw [List.eraseIdx_of_length_le (by simpa using hh)]
theorem qK(d a:Addr):MeetsIn prog w (Builtin.«dict.pop» ⟨[.ref d,.ref a],[]⟩) (λA R s=>knd.room A.in1/\∃k xs p,knd.is s.heap k a/\s.heap.DictOfH knd d xs/\xs.length<=sizeLine/\atKey xs k=some p/\
 ∀h',h'.DictOfH knd d (xs.filter λx=>decide (x.1≠k))->Heap.SameBut d s.heap h'->R (.ok (.ret p.2)) {s with heap:=h',toks:=s.toks+knd.draws k}):=
 .of_wp λA R s ⟨hu,k,xs,p,hk,hm,hz,hp,h⟩=>by
  obtain⟨o,es,ep,h1,_,h2,h3,_⟩:=id hm
  have ne:es.isEmpty=false:=by
   cases xs with
   |nil=>cases hp
   |cons x r=>
    have:=size_of_entries h3
    rw [zzL] at this;rw [Array.isEmpty_eq_false_iff_exists_mem];exact⟨es[0]'(by omega),Array.getElem_mem _⟩
  unfold Builtin.«dict.pop»;refine zzA ?_;unfold Builtin.Dict.keyAndDefault;refine zzA (wpAny_notOrdered_dict hm.typeIs ?_);show wpAny _ _ (pure (d,Value.ref a,Option.none)) _ _ s;refine zzG ?_;have kp:(keyPart (Value.ref a)).isSome=false:=rfl
  simp only [kp,zze,if_false];refine zzA (wpAny_dictEntries h1 h2 (zzA (zzG ?_)));rw [ne];simp only [zze,if_false];refine zzA (ug hu hk hm hp hz λh' e ev nH hs=>?_);simp only [Option.isNone_some,zze,if_false];exact zzA (wpAny_letGo (zzG ⟨e.val,rfl,by rw [ev];exact h h' nH hs⟩))
theorem pY{o:Obj}{es:Array DictEntry}{ep:Nat}{Q:Value->Shared->Prop}(lo:(d==sysModules)=false)(h1:s.heap.get? d=some o)(hc:o.ExactDict)(h2:o.data=.dict es ep)
 (hQ:Q (.ref s.heap.objs.size) {s with heap:=s.heap.push {cls:=.type "dict_keyiterator",data:=.fields #[.ref d,.int 0 0,.int es.size 0,.int ep 0]}}):wpAny (model prog w) A (pyIter (.ref d)) Q E s:=by
 have T:s.TypeIs (.ref d) "dict":=⟨o,h1,hc.1⟩
 refine wpAny_pyIter_slot T F.slot_dict_iter (wpAny_call_entry F.slot_dict_iter T F.entry_dict_iter ?_ (F.args_dict_iter_1 _));unfold Builtin.«dict.__iter__» Builtin.Dict.dictSlotNone;refine zzA (zzA (wpAny_notOrdered_dict T ?_));show wpAny _ _ (pure (Value.ref d):Sem Value) _ _ s;refine zzG ?_;show wpAny _ _ (Builtin.Dict.showsAll d>>=λ_=>_) _ _ s;unfold Builtin.Dict.showsAll;rw [if_neg (by rw [lo];exact zzf)];refine zzA (zzG (zzA (wpAny_dictEntries h1 h2 (zzA (wpAny_dictEpoch h1 h2 ?_)))));refine zzA (wpAny_newObj_type (zzG ⟨_,rfl,"dict_keyiterator",_,⟨_,zzX _ rfl,rfl⟩,F.slot_dict_keyiterator_next.lookup,?_⟩))
 simpa [rawInt] using hQ
theorem k8{it:Addr}{i ep:Nat}{o:Obj}{es:Array DictEntry}{Q:Option Value->Shared->Prop}(st:s.heap.IsKeyIter it d i es.size ep)(h1:s.heap.get? d=some o)(h2:o.data=.dict es ep)(hi:i<es.size)
 (hQ:∀h',h'.IsKeyIter it d (i+1) es.size ep->Heap.SameBut it s.heap h'->Q (some es[i].key) {s with heap:=h'}):wpAny (model prog w) A (pyNext (.ref it)) Q E s:=by
 obtain⟨oi,g1,g2,g3⟩:=id st
 have own:Builtin.Dict_items.ownsTuple "dict_keyiterator"=false:=by decide
 unfold pyNext;refine zzA (wpAny_attempt (wpAny_callSpecial?_slot (name:=Str.ofString "__next__") st.typeIs F.slot_dict_keyiterator_next (wpAny_call_entry F.slot_dict_keyiterator_next st.typeIs F.entry_dict_keyiterator_next ?_ (F.args_dict_keyiterator_next_1 _))));refine zzA (zzG (zzA (zzA ?_)))
 first|refine zzA (wpAny_typeNameOfWhole_keyiter st.typeIs (zzG (zzA (wpAny_fieldsOf g1 g3 ?_))))|refine zzA (wpAny_typeNameOf_keyiter st.typeIs (zzG (zzA (wpAny_fieldsOf g1 g3 ?_))))
 simp only [own,zze,if_false];show wpAny _ _ (if(Value.ref d==Value.none)=true then _ else _:Sem _) _ _ s;rw [if_neg (show¬((Value.ref d==Value.none)=true) from zzf)];refine zzA (zzG (zzA (wpAny_dictEntries h1 h2 ?_)));rw [if_neg (by simp)];refine zzA (zzG (zzA (wpAny_dictEpoch h1 h2 ?_)));rw [if_neg (by simp)];refine zzG ?_;simp only [show¬((i:Int)<0) from by omega,if_false,Int.toNat_natCast,Array.getElem?_eq_getElem hi];refine zzA ?_
 first|refine zzA (wpAny_typeNameOfWhole_keyiter st.typeIs (zzG (zzA (wpAny_isOneOf_keyiter st.typeIs ?_))))|refine zzA (wpAny_typeNameOf_keyiter st.typeIs (zzG (zzA (wpAny_isOneOf_keyiter st.typeIs ?_))))
 show wpAny _ _ (setField (.ref it) 1 (rawInt ((i:Int)+1))>>=λ_=>_) _ _ s
 have gh:(s.heap.update it (Obj.mapFields (·.setIfInBounds 1 (rawInt ((i:Int)+1))))).IsKeyIter it d (i+1) es.size ep:=
  ⟨_,Heap.get?_update_self _ g1 (Obj.isFreed_of_fields (Obj.data_mapFields g3 _)),(Obj.cls_mapFields ..).trans g2,by rw [Obj.data_mapFields g3];simp [rawInt]⟩
 refine zzA (wpAny_setField g1 g3 (by simp) (zzA (wpAny_holding (zzA (wpAny_isOneOf_keyiter (s:={s with heap:=s.heap.update it (Obj.mapFields (·.setIfInBounds 1 (rawInt ((i:Int)+1))))}) gh.typeIs ?_)))));show wpAny _ _ (pure es[i].key:Sem Value) _ _ _;exact zzG (zzG ⟨_,rfl,zzG (hQ _ gh (Heap.SameBut.update ..))⟩)
theorem uB{it:Addr}{i ep:Nat}{o:Obj}{es:Array DictEntry}{Q:Option Value->Shared->Prop}(hh:A.handled=none)(st:s.heap.IsKeyIter it d i es.size ep)(h1:s.heap.get? d=some o)(h2:o.data=.dict es ep)(hi:es.size<=i)
 (hQ:∀h',Heap.ExtBut it s.heap h'->Q none {s with heap:=h'}):wpAny (model prog w) A (pyNext (.ref it)) Q E s:=by
 obtain⟨oi,g1,g2,g3⟩:=id st
 have own:Builtin.Dict_items.ownsTuple "dict_keyiterator"=false:=by decide
 unfold pyNext;refine zzA (wpAny_attempt (wpAny_callSpecial?_slot (name:=Str.ofString "__next__") st.typeIs F.slot_dict_keyiterator_next (wpAny_call_entry F.slot_dict_keyiterator_next st.typeIs F.entry_dict_keyiterator_next ?_ (F.args_dict_keyiterator_next_1 _))));refine zzA (zzG (zzA (zzA ?_)))
 first|refine zzA (wpAny_typeNameOfWhole_keyiter st.typeIs (zzG (zzA (wpAny_fieldsOf g1 g3 ?_))))|refine zzA (wpAny_typeNameOf_keyiter st.typeIs (zzG (zzA (wpAny_fieldsOf g1 g3 ?_))))
 simp only [own,zze,if_false];show wpAny _ _ (if(Value.ref d==Value.none)=true then _ else _:Sem _) _ _ s;rw [if_neg (show¬((Value.ref d==Value.none)=true) from zzf)];refine zzA (zzG (zzA (wpAny_dictEntries h1 h2 ?_)));rw [if_neg (by simp)];refine zzA (zzG (zzA (wpAny_dictEpoch h1 h2 ?_)));rw [if_neg (by simp)];refine zzG ?_;simp only [show¬((i:Int)<0) from by omega,if_false,Int.toNat_natCast,Array.getElem?_eq_none hi];refine zzA ?_
 first|refine zzA (wpAny_typeNameOfWhole_keyiter st.typeIs (zzG ?_))|refine zzA (wpAny_typeNameOf_keyiter st.typeIs (zzG ?_))
 show wpAny _ _ (setField (.ref it) 0 .none>>=λ_=>_) _ _ s
 refine zzA (wpAny_setField g1 g3 (by simp) ?_);show wpAny _ _ (newExc (.type "StopIteration") []>>=λ_=>_) _ _ _
 refine zzA ?_;simp only [newExc,newTuple];refine zzA (wpAny_newObj_type (zzA (m:=firstArgMember _ _) (wpAny_of_eq (a:=Value.none) (by first|rfl|(simp only [firstArgMember];rfl)) (wpAny_newObj_type ?_ (by size_fits)))) (by size_fits));simp only [raiseNew];refine zzA (wpAny_handled ?_);rw [show A.in1.handled=none from hh];refine zzA (zzG (wpAny_throw ?_));refine zzA (wpAny_isInstance (T:="StopIteration") (b:=true) ⟨_,zzX _ rfl,rfl⟩ isSubtype_stop ?_);exact zzG (hQ _ (((Heap.SameBut.update ..).extBut.push _).push _))
end
theorem KT.drop{H:Hp}{aw:List (List Key×V)}{xs:List (List Key×Addr×Value)}(r:KT H aw xs)(k:List Key):KT H (fV aw k) (xs.filter λx=>decide (x.1≠k)):=by
 unfold fV
 induction r with
 |nil=>exact .nil
 |@cons p q ps qs h t ih=>
  rw [List.filter_cons,List.filter_cons,<-h.1];split
  ·exact .cons h ih
  ·exact ih
theorem KT.len{H:Hp}{aw:List (List Key×V)}{xs:List (List Key×Addr×Value)}(r:KT H aw xs):aw.length=xs.length:=Paired.length r
section
variable{X:Cx}{ae:List (Addr×Obj)}{σ:St}{H:Hp}{s:Shared}{a b:Addr}{aw:List (List Key×V)}{k:List Key}{A:Around}{E:Value->Shared->Prop}
theorem IS{Q:Value->Shared->Prop}(I:Inv X ae σ H s)(e:Rd H a (.dT aw))(h:∀t s',Inv X ae σ H s'->Q (.int aw.length t) s'):wpAny (model X.prog X.w) A (call (.builtin "len") [.ref a]) Q E s:=by
 obtain⟨z,lo,xs,rel,dd⟩:=kF I.aS e
 refine Hu lo dd (by rw [<-rel.len];rw [sizeLine_eq] at z;omega) ?_;rw [<-rel.len];exact h _ _ (I.tok _)
theorem Ir{v:V}{Q:Value->Shared->Prop}(hu:A.units+1<cLine)(I:Inv X ae σ H s)(e:H a=some (.dT aw))(eb:H b=some (.tup (k.map kV)))(l:hX aw k=some v)
 (h:∀w' s',Inv X ae σ (upd H a (.dT (fV aw k))) s'->RelV v w'->Q w' s'):wpAny (model X.prog X.w) A (call (.builtin "dict.pop") [.ref a,.ref b]) Q E s:=by
 obtain⟨z,lo,xs,rel,dd⟩:=BO I.aS e
 obtain⟨w',hw,ij⟩:=kO.some_of (v:=v) (o:=(atKey xs k).map (·.2)) (by rw [<-l];exact rel.val k)
 obtain⟨p,hp,hp2⟩:=zzJ.mp hw
 refine call_meetsIn PySem.F.slot_dict_pop dd.typeIs PySem.F.entry_dict_pop (PySem.F.args_dict_pop_2 _ _) (qK (knd:=tupleKind (bY X.prog X.w)) a b) ⟨tupleKind_room_in1 hu,k,xs,p,gK I.aS eb,dd,by rw [<-rel.len];exact z,hp,λh' GU hs=>?_⟩
 rw [hp2];obtain⟨q,es,ep,hq,h2,h3,h4,_,h5⟩:=GU
 refine h w' _ (gR I (by rw [e];exact True.intro) hs ⟨q,hq⟩ ⟨zzU (Cm aw k) z,lo,_,(rel.drop k).keeps λc ys ec=>?_,q,es,ep,hq,h2,h3,h4,h5⟩) ij
 rw [af (fA ec e (λz=>nomatch z))];exact ec
theorem Inv.freeze(I:Inv X ae σ H s)(e:H a=some (.dT aw)):∃o,Inv X ae σ (upd H a (.bK o (.dT aw))) s:=by
 obtain⟨z,lo,xs,rel,o,es,ep,h1,h2,h3,h4,h5⟩:=(show bV X.prog X.w H s.heap a (.dT aw) from I.aS a _ e)
 refine⟨o,gR (h':=s.heap) (t':=s.toks) I (by rw [e];exact True.intro) ⟨rfl,λ_ _=>rfl⟩ ⟨o,h1⟩ ⟨h1,z,lo,xs,?_,o,es,ep,h1,h2,h3,h4,h5⟩⟩
 exact KT.keeps (H:=H) rel λc ys ec=>by rw [af (fA ec e (λz=>nomatch z))];exact ec
end
noncomputable def RI(a:Addr)(o:Obj)(aw:List (List Key×V)):It:=
 ⟨λi H=>H a=some (.bK o (.dT aw))/\i<aw.length,λi H x H'=>H'=H/\∃b k v,x=.ref b/\aw[i]?=some (k,v)/\H b=some (.tup (k.map kV)),λi H=>H a=some (.bK o (.dT aw))/\aw.length<=i⟩
theorem gA{X:Cx}{ae:List (Addr×Obj)}{σ:St}{H:Hp}{s:Shared}{a:Addr}{o:Obj}{aw:List (List Key×V)}(I:Inv X ae σ H s)(e:H a=some (.bK o (.dT aw))):
 (a==sysModules)=false/\s.heap.get? a=some o/\o.ExactDict/\∃es ep,o.data=.dict es ep/\es.size=aw.length/\∀(i:Nat) (h:i<es.size),∃b k v,es[i].key=.ref b/\aw[i]?=some (k,v)/\H b=some (.tup (k.map kV)):=by
 obtain⟨h0,z,lo,xs,rel,o',es,ep,h1,h2,h3,h4,h5⟩:=(show bV X.prog X.w H s.heap a (.bK o (.dT aw)) from I.aS a _ e)
 rw [h0] at h1;cases h1;have hl:es.size=xs.length:=size_of_entries h4
 refine⟨lo,h0,h2,es,ep,h3,hl.trans (KT.len rel).symm,λi hi=>?_⟩
 have hx:i<xs.length:=by omega
 have e1:es[i]?=(xs[i]?).map (entryOfKey (tupleKind (bY X.prog X.w))):=entry_at h4 i
 rw [zzg hx,Array.getElem?_eq_getElem hi] at e1;have hk:i<aw.length:=by have:=KT.len rel;omega
 have pr:∀{l:List (List Key×V)} {m:List (List Key×Addr×Value)},KT H l m->∀(j:Nat) p q,l[j]?=some p->m[j]?=some q->p.1=q.1/\H q.2.1=some (.tup (p.1.map kV)):=by
  intro l m r
  induction r with
  |nil=>intro j p q h;simp at h
  |cons h t ih=>
   intro j p q h1 h2;cases j with
   |zero=>simp at h1 h2;subst h1 h2;exact⟨h.1,h.2.1⟩
   |succ j=>simp at h1 h2;exact ih j p q h1 h2
 obtain⟨g1,g2⟩:=pr (KT.keeps (H':=H) rel λ_ _ z=>z) i aw[i] xs[i] (zzg hk) (zzg hx)
 refine⟨xs[i].2.1,aw[i].1,aw[i].2,?_,zzg hk,g2⟩;have e2:es[i]=entryOfKey (tupleKind (bY X.prog X.w)) xs[i]:=Option.some.inj e1
 rw [e2]
 rfl
theorem yS{P:Program}{w:World}{K:PySem.W.Frag}{tg:Expr}{a it:Addr}{o:Obj}{es:Array DictEntry}{ep:Nat}{aw:List (List Key×V)}(hd:o.data=.dict es ep)(hl:es.size=aw.length):
 Turn P w K tg (RI a o aw) [it] it (λi h=>h.IsKeyIter it a i es.size ep) where
 mem:=by simp
 obj:=λi h st b hb=>by
  have e:b=it:=by simpa using hb
  subst e;obtain⟨q,e,c,d⟩:=st
  exact⟨q,e,λv z=>by rw [d] at z;cases z⟩
 keep:=λi h h' st k=>st.at λo e=>k it (by simp) o e
 item:=by
  intro X hP hw hK hc i ae s σ H E I hf st hg;subst hP hw hK;obtain⟨g1,g2⟩:=hg
  obtain⟨lo,h0,hx,es',ep',h3,qS,xu⟩:=gA I g1
  rw [hd] at h3;cases h3;obtain⟨f0,f1,f2,f3,f4,f5⟩:=hf it (by simp)
  have hi:i<es.size:=by omega
  refine k8 st h0 hd hi λh' gh sb=>?_
  obtain⟨b,k,v,e1,e2,e3⟩:=xu i hi
  have I1:Inv X ae σ H {s with heap:=h'}:=I.turned (t':=s.toks) (λb o hb e=>(sb.2 b hb).trans e) f0 f1 f3 f4 f5
  obtain⟨q,e,c,d⟩:=id gh
  refine⟨_,rfl,sF (s:={s with heap:=h'}) e c d (by decide) ⟨.ref b,H,I1,?_,⟨rfl,b,k,v,rfl,e2,e3⟩,gh,λb hb=>(hf b hb).1⟩⟩
  rw [e1];exact rfl
 done:=by
  intro X hP hw hK hc i ae s σ H E I hf st hg;subst hP hw hK;obtain⟨g1,g2⟩:=hg
  obtain⟨lo,h0,hx,es',ep',h3,qS,xu⟩:=gA I g1
  rw [hd] at h3;cases h3;obtain⟨f0,f1,f2,f3,f4,f5⟩:=hf it (by simp)
  exact uB (I.ok.hd hc) st h0 hd (by omega) λh' eb=>⟨rfl,I.turned (t':=s.toks) (λb o hb e=>eb b o hb e) f0 f1 f3 f4 f5⟩
 self:=λ_ _ _ _ _ st h=>wpAny_pyIter_keyiter st h
noncomputable def QN(tl:TE):TI:=λσ H R=>tl σ H λx H1=>∃a o aw,x=.ref a/\H1 a=some (.bK o (.dT aw))/\R (RI a o aw) H1
section
variable{X:Cx}{o e:Expr}{apos cE:Pos}{td ty:TE}
theorem JQ{tg l:Expr}{tl:TE}(hl:PE X l tl):PI X tg l (QN tl):=by
 intro ae s σ H R I h;refine bX (hl ae s σ H _ I h) λv s1 ⟨x,H1,I1,r1,q1⟩=>?_
 obtain⟨a,o,aw,e,hq,q⟩:=q1
 subst e;cases r1;obtain⟨lo,h0,hx,es,ep,h3,qS,xu⟩:=gA I1 hq
 refine pY lo h0 hx h3 ?_;refine⟨s1.heap.objs.size,[s1.heap.objs.size],_,_,H1,rfl,I1.kept (t':=s1.toks) λb o e=>zzB _ e,yS h3 qS,⟨_,zzX _ rfl,rfl,rfl⟩,λb hb=>?_,q⟩
 have e:b=s1.heap.objs.size:=by simpa using hb
 subst e;exact I1.j9 (zzE _) (I1.aS.fresh (zzE _))
noncomputable def NC(td ty:TE):TE:=λσ H Q=>td σ H λx H1=>∃a,x=.ref a/\Ho H1 a/\ty σ H1 λy H2=>∃aw k b v,H2 a=some (.dT aw)/\y=.ref b/\H2 b=some (.tup (k.map kV))/\hX aw k=some v/\Q v (upd H2 a (.dT (fV aw k)))
theorem Fm(hu:X.A.units+1<cLine)(ho:PE X o td)(he:PE X e ty)(m:M1 X o "pop" apos e cE):PE X (.Call (.Attribute o "pop" apos) [e] [] cE) (NC td ty):=by
 intro ae s σ H Q I h;refine wpAny_Call_method m.base m.Te m.line PySem.F.plainAttrs_dict PySem.F.slot_dict_pop PySem.F.type_dict_pop (bX (ho ae s σ H _ I h) λu s1 ⟨x,H1,I1,rx,a,ex,d,q1⟩=>?_)
 subst ex;obtain rfl:u=Value.ref a:=rx
 obtain⟨t1,t2,_⟩:=JF I1 d
 refine⟨t1,t2,?_⟩;rw [m.trees];refine Calls.callWith_builtin rfl (Calls.evalArgs_plain (Calls.spliced_cons (bX (he ae s1 σ H1 _ I1 q1) λiv s2 ⟨y,H2,I2,ry,aw,k,b,v,ea,ey,eb,l,q2⟩=>Calls.spliced_nil ?_)))
 subst ey;cases(show iv=Value.ref b from ry);exact Ir hu I2 ea eb l λw' s3 I3 ij=>⟨v,_,I3,ij,q2⟩
end
end L2
namespace L2
open PySem PySem.Spec PyProof.Rows PySem.W
def aK{α:Type}(lt:Nat->Nat->Bool):KasT α->α
 |.ret a=>a
 |.ask i j k=>aK lt (k (lt i j))
def dY{α:Type}(n:Nat)(R:α->Prop):KasT α->Prop
 |.ret a=>R a
 |.ask i j k=>i<n/\j<n/\∀b,dY n R (k b)
theorem dY.bind{α β:Type}{n:Nat}{R:α->Prop}{R':β->Prop}{f:α->KasT β}(hf:∀a,R a->dY n R' (f a)):∀(t:KasT α),dY n R t->dY n R' (t.bind f)
 |.ret a,h=>hf a h
 |.ask i j k,h=>⟨h.1,h.2.1,λb=>dY.bind hf (k b) (h.2.2 b)⟩
theorem dY.run{α:Type}{n:Nat}{R:α->Prop}(lt:Nat->Nat->Bool):∀(t:KasT α),dY n R t->R (aK lt t)
 |.ret a,h=>h
 |.ask i j k,h=>dY.run lt (k (lt i j)) (h.2.2 _)
theorem BA{α:Type}{n:Nat}{R:α->Prop}{cmp:Nat->Nat->(Bool->Shared->Prop)->Shared->Prop}{lt:Nat->Nat->Bool}{Q:α->Shared->Prop}{s:Shared}
 (hc:∀i j C,i<n->j<n->C (lt i j) s->cmp i j C s):∀(t:KasT α),dY n R t->Q (aK lt t) s->t.kasWp cmp Q s
 |.ret a,_,h=>h
 |.ask i j k,a,h=>hc i j _ a.1 a.2.1 (BA hc (k (lt i j)) (a.2.2 _) h)
abbrev Pm(n:Nat)(p:Array Nat):Prop:=p.toList.Perm (List.range n)
theorem Pm.lt{n:Nat}{p:Array Nat}(h:Pm n p)(h0:0<n)(i:Nat):p.getD i 0<n:=by
 rw [Array.getD_eq_getD_getElem?];cases e:p[i]? with
 |none=>exact h0
 |some x=>
  have:x∈p.toList:=by rw [Array.mem_toList_iff];exact Array.mem_of_getElem? e
  exact List.mem_range.mp (h.mem_iff.mp this)
theorem Pm.rev{n:Nat}{p:Array Nat}(h:Pm n p)(i j:Nat):Pm n (kas_rev p i j):=(mirror_perm p i j _).toList.trans h
theorem Pm.Uc{n:Nat}{p:Array Nat}(h:Pm n p)(i j:Nat):Pm n (bubble p i j):=(bubble_perm p i j).toList.trans h
section
variable{n:Nat}(h0:0<n)
include h0
theorem mv{p:Array Nat}(h:Pm n p):∀f m,dY n (λ_=>True) (kas_asc p f m)
 |0,m=>trivial
 |f+1,m=>⟨h.lt h0 _,h.lt h0 _,λb=>by dsimp only;split;exact trivial;exact mv h f (m+1)⟩
theorem g9:∀f (p:Array Nat) m q,Pm n p->dY n (λr=>Pm n r.1) (kas_desc f p m q)
 |0,p,m,q,h=>h
 |f+1,p,m,q,h=>⟨h.lt h0 _,h.lt h0 _,λb=>by
  cases b with
  |true=>
   dsimp only;rw [if_pos rfl];split
   ·exact g9 f _ _ _ (h.rev _ _)
   ·exact g9 f _ _ _ h
  |false=>
   dsimp only;rw [if_neg (by simp)];exact⟨h.lt h0 _,h.lt h0 _,λb=>by dsimp only;split;exact h;exact g9 f _ _ _ h⟩⟩
theorem n5{p:Array Nat}(h:Pm n p)(m r:Nat):dY n (λr=>Pm n r.2) (kas_tail3 m r p):=by
 unfold kas_tail3;refine dY.bind (R:=λ_=>True) (λa _=>?_) _ (mv h0 (h.rev _ _) _ _);exact h.rev 0 m
theorem oW{p:Array Nat}(h:Pm n p)(m r:Nat):dY n (λr=>Pm n r.2) (kas_descPart m r p):=dY.bind (λa ha=>by
 split
 ·exact n5 h0 (Pm.rev ha _ _) _ _
 ·exact n5 h0 ha _ _) _ (g9 h0 _ _ _ _ h)
theorem vn{p:Array Nat}(h:Pm n p)(r:Nat):dY n (λr=>Pm n r.2) (kas_count r p):=dY.bind (λa _=>by
 split
 ·exact h
 ·split
  ·exact⟨h.lt h0 _,h.lt h0 _,λb=>by dsimp only;split;exact h;exact oW h0 (h.rev _ _) _ _⟩
  ·exact oW h0 h _ _) _ (mv h0 h _ _)
theorem iO{p:Array Nat}(h:Pm n p)(k:Nat):∀f l r,dY n (λ_=>True) (kas_place p k f l r)
 |0,l,r=>trivial
 |f+1,l,r=>by
  unfold kas_place;split
  ·exact trivial
  ·exact⟨h.lt h0 _,h.lt h0 _,λb=>by dsimp only;split;exact iO h k f _ _;exact iO h k f _ _⟩
theorem tU:∀f (p:Array Nat) k,Pm n p->dY n (Pm n) (kas_bin f p k)
 |0,p,k,h=>h
 |f+1,p,k,h=>dY.bind (λl _=>tU f _ _ (h.Uc _ _)) _ (iO h0 h k _ _ _)
theorem n6:dY n (Pm n) (kas_sort n):=dY.bind (λa ha=>by
 split
 ·exact tU h0 _ _ _ ha
 ·exact ha) _ (vn h0 (List.Perm.refl _) n)
end
def jY(n:Nat)(lt:Nat->Nat->Bool):List Nat:=(aK lt (kas_sort n)).toList
theorem eQ{n:Nat}(h:0<n)(lt:Nat->Nat->Bool):(jY n lt).Perm (List.range n):=dY.run lt _ (n6 h)
section
variable{prog:Program}{w:World}{A:Around}{E:Value->Shared->Prop}{s:Shared}{a:Addr}{vs:List Value}{nss:List (List Int)}
theorem lK{S:Addr}{h:Heap}{c:Nat}{xs ys:Array Value}(e:h.get? S=some (seqObj "list" xs c)):∃c',(h.update S (Obj.mapSeq λ_=>ys)).get? S=some (seqObj "list" ys c'):=⟨_,get?_update_seq e λ_=>ys⟩
theorem fO{α β:Type}{R:α->β->Prop}{l:List α}{m:List β}(r:Paired R l m):∀{i:Nat} {p:α} {q:β},l[i]?=some p->m[i]?=some q->R p q:=by
 induction r with
 |nil=>intro i p q h;simp at h
 |cons h t ih=>
  intro i p q h1 h2;cases i with
  |zero=>simp at h1 h2;subst h1 h2;exact h
  |succ i=>simp at h1 h2;exact ih h1 h2
def mj(h:Heap)(vs:List Value)(nss:List (List Int)):Prop:=Paired (λv ns=>∃b o ax n,v=.ref b/\h.get? b=some o/\o.cls=.type "tuple"/\o.data=.seq ax n/\Vals (ns.map V.int) ax.toList/\ns≠[]) vs nss
theorem mj.keep{h h':Heap}(t:mj h vs nss)(k:∀b o,h.get? b=some o->o.cls=.type "tuple"->h'.get? b=some o):mj h' vs nss:=
 Paired.x6 t λ_ _ ⟨b,o,ax,n,e1,e2,e3,e4,e5,e6⟩=>⟨b,o,ax,n,e1,k b o e2 e3,e3,e4,e5,e6⟩
theorem md{b:Bool}{Q:Bool->Shared->Prop}:∀(ns ms:List Int) (xs ys:List Value) (i:Nat),Vals (ns.map V.int) xs->Vals (ms.map V.int) ys->Q (HT.lexLt ns ms) s->KatLex prog w A b (decide (xs.length<ys.length)) Q (xs.zip ys) i s
 |[],[],_,_,i,.nil,.nil,h=>by simpa [KatLex,HT.fk] using h
 |[],m::ms,_,_,i,.nil,.cons _ _,h=>by simpa [KatLex,HT.lexLt] using h
 |n::ns,[],_,_,i,.cons _ _,.nil,h=>by simpa [KatLex,HT.lexLt] using h
 |n::ns,m::ms,_,_,i,.cons (a:=_) (b:=u) h1 t1,.cons (b:=v) h2 t2,h=>by
  obtain⟨t,rfl⟩:=h1
  obtain⟨t',rfl⟩:=h2
  rw [HT.eA] at h;refine kat_cons (wpAny_eqBool_int ?_)
  by_cases e:n=m
  ·subst e;rw [if_pos rfl] at h;rw [show(n==n)=true from by simp];refine kat_yes ?_;have:=md (b:=b) ns ms _ _ (i+1) t1 t2 h
   simp only [zzL,Nat.add_lt_add_iff_right];exact this
  ·rw [if_neg e] at h;rw [show(n==m)=false from by simpa using e];refine kat_no ?_;cases hb:(b&&i==0) with
   |true=>exact oneLt_int h
   |false=>exact kat_one _ _ (PyProof.Rows.lt_int h)
def LF(prog:Program)(w:World)(A:Around)(E:Value->Shared->Prop)(vs:List Value)(lt:Nat->Nat->Bool)(s:Shared):Prop:=∃κ:SortKind,(∀Q:SortKind->Shared->Prop,Q κ s->wpAny (model prog w) A (keyKind' vs.toArray) Q E s)/\∀i j (C:Bool->Shared->Prop),i<vs.length->j<vs.length->C (lt i j) s->kas_ask prog w A κ vs i j C s
theorem AB(t1:mj s.heap vs nss)(h2:2<=vs.length):LF prog w A E vs (λi j=>HT.lexLt (nss.getD i []) (nss.getD j [])) s:=by
 have hlen:vs.length=nss.length:=Paired.length t1
 have kt:∃fs,KatTups s.heap vs fs/\fs.length=vs.length/\∀v∈fs,∃i t,v=.int i t:=by
  clear hlen h2
  induction t1 with
  |nil=>exact⟨[],trivial,rfl,λv hv=>nomatch hv⟩
  |cons h t ih=>
   obtain⟨fs,i1,i2,i3⟩:=ih
   obtain⟨b,o,ax,n,rfl,g1,g2,g3,g4,g5⟩:=h
   rename_i ns _ _;cases ns with
   |nil=>exact absurd rfl g5
   |cons m ms=>
    rw [zzF] at g4;cases hi:ax.toList with
    |nil=>rw [hi] at g4;cases g4
    |cons f r=>
     rw [hi] at g4;cases g4 with
     |cons r1 r2=>
      obtain⟨tk,rfl⟩:=r1
      have f0:ax[0]?=some (.int m tk):=by rw [<-Array.getElem?_toList,hi];rfl
      exact⟨.int m tk::fs,.cons g1 g2 g3 f0 i1,by simp [i2],λv hv=>by
       rcases List.mem_cons.mp hv with rfl|hv
       ·exact⟨m,tk,rfl⟩
       ·exact i3 v hv⟩
 obtain⟨fs,kt1,kt2,kt3⟩:=kt
 refine⟨_,λQ q=>kat_kind (T:=.type "int") kt1 (by omega) (λv hv=>?_) rfl q,λi j C hi hj hC=>?_⟩
 ·obtain⟨i,t,rfl⟩:=kt3 v hv
  exact .now
 ·unfold kas_ask;obtain⟨b,o,ax,n,e1,g1,g2,g3,g4,_⟩:=fO t1 (zzg hi) (zzg (show i<nss.length by omega))
  obtain⟨b',o',its',n',e1',E5,LY,g3',g4',_⟩:=fO t1 (zzg hj) (zzg (show j<nss.length by omega))
  have v1:vs.getD i Value.none=.ref b:=by simp [hi,e1]
  have v2:vs.getD j Value.none=.ref b':=by simp [hj,e1']
  have n1:nss.getD i []=nss[i]'(by omega):=by simp [show i<nss.length by omega]
  have n2:nss.getD j []=nss[j]'(by omega):=by simp [show j<nss.length by omega]
  rw [v1,v2];dsimp only at hC;rw [n1,n2] at hC;refine kat_lt g1 g3 E5 g3' ?_;have:=md (prog:=prog) (w:=w) (A:=A) (b:=(Value.type "int" !=Value.type "tuple")) _ _ _ _ 0 g4 g4' hC
  simpa using this
theorem yC{n:Nat}{P:PySem.Fin->Shared->Prop}{lt:Nat->Nat->Bool}(ho:s.heap.get? a=some (seqObj "list" vs.toArray n))(h2:2<=vs.length)(CT:vs.length<64)(rd:∀h',(∀b o,b≠a->s.heap.get? b=some o->h'.get? b=some o)->LF prog w A E vs lt {s with heap:=h'})
 (h:∀h' c,(∀b o,b≠a->s.heap.get? b=some o->h'.get? b=some o)->h'.get? a=some (seqObj "list" ((jY vs.length lt).map λi=>vs.getD i Value.none).toArray c)->P (.done (.ret .none)) {s with heap:=h'}):
 wpAny (model prog w) A (Builtin.«list.sort» ⟨[.ref a],[]⟩) P E s:=by
 have s1:=Heap.SameBut.update s.heap a (Obj.mapSeq λ_=>(#[]:Array Value))
 obtain⟨e1,ho1⟩:∃e1,(s.heap.update a (Obj.mapSeq λ_=>(#[]:Array Value))).get? a=some (seqObj "list" #[] e1):=⟨_,get?_update_seq ho λ_=>#[]⟩
 generalize hH:(((s.heap.update a (Obj.mapSeq λ_=>(#[]:Array Value))).push (seqObj "tuple" vs.toArray 0)).push (seqObj "list" #[] 0))=H1
 have k1:∀b o,b≠a->s.heap.get? b=some o->H1.get? b=some o:=λb o hb e=>by rw [<-hH];exact zzB _ (zzB _ ((s1.2 b hb).trans e))
 have a1:H1.get? a=some (seqObj "list" #[] e1):=by rw [<-hH];exact zzB _ (zzB _ ho1)
 obtain⟨κ,kk,lts⟩:=rd H1 k1
 rw [list_sort_plain];refine zzA (listItems_at ho rfl (zzA (listUpdate_at ho rfl ?_ (by rw [zzC,sizeLine_eq];omega) (Nat.zero_le _))));refine zzA (seqEpoch_at ho1 rfl (zzA (wpAny_newTuple ?_ (by show vs.length<=_;rw [sizeLine_eq];omega))));refine zzA (wpAny_newList ?_ (Nat.zero_le _));refine wpAny_holding ?_;show wpAny (model prog w) A _ P E {s with heap:=((s.heap.update a (Obj.mapSeq λ_=>(#[]:Array Value))).push (seqObj "tuple" vs.toArray 0)).push (seqObj "list" #[] 0)}
 rw [hH];dsimp only;have Ip:¬vs.toArray.size<2:=by rw [zzC];omega
 rw [if_neg Ip,if_neg Ip];refine zzA (kk _ ?_);refine zzA (wpAny_mono (kat_run (Q:=λgh s'=>∃p:Array Nat,p.size=vs.length/\arrOf gh=p.map (kas_item (vs.toArray.zip vs.toArray))/\failedOf gh=none/\p=aK lt (kas_sort vs.length)/\s'={s with heap:=H1})
  rfl h2 CT (λp' gh s' a1 a2 a3 a4=>⟨p',a1,a2,a3,a4⟩) (BA lts _ (n6 (by omega)) ⟨rfl,rfl⟩)) ?_ λ_ _ e=>e)
 rintro ⟨⟨⟩,gh⟩ s' ⟨p,hp,har,hf,rfl,rfl⟩
 dsimp only;have IJ:=kat_snds rfl har
 rw [IJ];have s2:=Heap.SameBut.update H1 a (Obj.mapSeq λ_=>List.toArray ((aK lt (kas_sort vs.length)).toList.map λi=>vs.getD i Value.none))
 obtain⟨c2,hc2⟩:=lK (ys:=List.toArray ((aK lt (kas_sort vs.length)).toList.map λi=>vs.getD i Value.none)) a1
 refine zzA (seqEpoch_at a1 rfl (zzA (listUpdate_at a1 rfl ?_ (Nat.zero_le _) (by
  show(List.toArray _).size<=_
  rw [zzC,zzl,zzd,hp,sizeLine_eq];omega))))
 rw [hf];simp only [bne_self_eq_false,zze,if_false];exact zzG (h _ c2 (λb o hb e=>(s2.2 b hb).trans (k1 b o hb e)) hc2)
end
end L2
namespace L2
open PySem PySem.Spec PyProof.Rows
theorem yd:typeLookup (.type "list") "keys"=pure none:=by rw [typeLookup_type,builtinLookup_eq_fast];kernel_rfl
theorem q9:entryFor table "dict.update.loop"=some Builtin.«dict.update.loop»:=entryFor_of_tree (by kernel_rfl)
theorem jo:plainId "dict.update.loop"=true:=by decide+kernel
section
variable{prog:Program}{w:World}{A:Around}{E:Value->Shared->Prop}{s:Shared}{a:Addr}{o:Obj}{xs:Array Value}{k:Nat}
theorem EW{Q:Option Value->Shared->Prop}(hx:s.heap.get? a=some o)(hc:o.cls=.type "list")(L9:o.data=.seq xs k)(hd:o.dict=none)(hA:A.handled=none)
 (h:∀h' tk,(∀b o,s.heap.get? b=some o->h'.get? b=some o)->Q none {s with heap:=h',toks:=tk}):wpAny (model prog w) A (getAttr? (.ref a) "keys") Q E s:=by
 obtain⟨c,aX,dat,sl⟩:=o
 simp only at hc L9 hd;subst hc L9 hd;obtain⟨hp,g,d,tk,os⟩:=s
 have hT:∀OM,(⟨hp,g,d,OM,os⟩:Shared).TypeIs (.ref a) "list":=λ_=>⟨_,hx,rfl⟩
 have f1:=sub_AttributeError
 have f3:=F.slot_list_getattribute.lookup
 have f4:=F.slot_list_getattribute.bind (.ref a)
 have f5:=am_list_getattr_none
 unfold getAttr? getAttrBy? getAttrBy
 repeat (any_goals (first|assumption|exact hT _|((with_reducible show wpAny _ _ (call (Value.builtin "list.__getattribute__") _ _) _ _ _);refine call_meets F.slot_list_getattribute (hT _) am_entry_list_getattribute (F.args_list_getattribute_2 _ _) (meets_getattribute_miss_list a xs k sl "keys" _ yd (by decide) (by size_fits)) ⟨hx,hA,λh' OM e uc=>?_⟩)|wp_step))
 obtain⟨t',u',he⟩:=uc.there
 show wpAny _ _ (getattributeRaised _ _ _ _ _ _ _) _ _ _
 unfold getattributeRaised
 repeat (any_goals (first|assumption|wp_step))
 exact h h' OM uc.keeps
end
def eB(aw more:List (List Key×V)):List (List Key×V):=more.foldl (λacc kv=>putK acc kv.1 kv.2) aw
abbrev il(K:PySem.W.Frag)(H:Hp)(vs:List V)(aw:List (List Key×V)):Prop:=Paired (λv kv=>∃q b,v=V.ref q/\eP K H q [.ref b,kv.2]/\H b=some (.tup (kv.1.map kV))) vs aw
section
variable{X:Cx}{ae:List (Addr×Obj)}{σ:St}{l d it:Addr}{vs:List V}{A:Around}{E:Value->Shared->Prop}{R:Result->Shared->Prop}
theorem Ji{H:Hp}{s:Shared}{a b:Addr}{aw:List (List Key×V)}{k:List Key}{v:V}{r:Value}{Q:Unit->Shared->Prop}(hu:A.units<cLine)(I:Inv X ae σ H s)(e:H a=some (.dT aw))(eb:H b=some (.tup (k.map kV)))(l:aw.length<sizeLine)(rv:RelV v r)
 (h:∀h' t,Heap.SameBut a s.heap h'->Inv X ae σ (upd H a (.dT (putK aw k v))) {s with heap:=h',toks:=t}->Q () {s with heap:=h',toks:=t}):wpAny (model X.prog X.w) A (dictSet a (.ref b) r) Q E s:=by
 obtain⟨z,lo,xs,rel,dd⟩:=BO I.aS e
 have hz:xs.length<=sizeLine:=by rw [<-rel.len];exact z
 have hl:(putK aw k v).length<=sizeLine:=by have:=eW aw k v;omega
 refine wpAny_dictSet_heap (hsz:=hz) (knd:=tupleKind (bY X.prog X.w)) hu (gK I.aS eb) dd λh' GU hs=>h h' _ hs ?_
 obtain⟨q,es,ep,hq,h2,h3,h4,_,h5⟩:=GU
 refine gR I (by rw [e];exact True.intro) hs ⟨q,hq⟩ ⟨hl,lo,_,(rel.put k eb rv).keeps λc ys ec=>?_,q,es,ep,hq,h2,h3,h4,h5⟩
 rw [af (fA ec e (λz=>nomatch z))];exact ec
theorem eP.gk{K:PySem.W.Frag}{H H':Hp}{a:Addr}{xs:List V}(h:eP K H a xs)(e:∀b,b≠d->H' b=H b){acc:List (List Key×V)}(hd:H d=some (.dT acc)):eP K H' a xs:=by
 rcases h with(h|⟨o,h⟩)|h
 ·exact .inl (.inl (by rw [e a (fA h hd (λz=>nomatch z))];exact h))
 ·exact .inl (.inr ⟨o,by rw [e a (fA h hd (λz=>nomatch z))];exact h⟩)
 ·exact .inr h
theorem eF.gk{K:PySem.W.Frag}{H H':Hp}{a:Addr}{xs:List V}(h:eF K H a xs)(e:∀b,b≠d->H' b=H b){acc:List (List Key×V)}(hd:H d=some (.dT acc)):eF K H' a xs:=by
 rcases h with(h|⟨o,h⟩)|h
 ·exact .inl (.inl (by rw [e a (fA h hd (λz=>nomatch z))];exact h))
 ·exact .inl (.inr ⟨o,by rw [e a (fA h hd (λz=>nomatch z))];exact h⟩)
 ·exact .inr h
theorem il.gk{K:PySem.W.Frag}{H H':Hp}{aw:List (List Key×V)}(e:∀b,b≠d->H' b=H b){acc:List (List Key×V)}(hd:H d=some (.dT acc)):∀{vs:List V},il K H vs aw->il K H' vs aw:=λh=>
 Paired.x6 h λ_ _ ⟨q,b,e1,e2,e3⟩=>⟨q,b,e1,eP.gk e2 e hd,by rw [e b (fA e3 hd (λz=>nomatch z))];exact e3⟩
theorem FK(hu:A.units+1<cLine)(hh:A.handled=none):∀(rest:List (List Key×V)) (i:Nat) (j:Int) (acc:List (List Key×V)) (H:Hp) (s:Shared),Inv X ae σ H s->dZ X ae H it->s.heap.IsListIter it l i->eF X.K H l vs->il X.K H (vs.drop i) rest->H d=some (.dT acc)->acc.length+rest.length<=sizeLine->
 (∀s' H',Inv X ae σ H' s'->H' d=some (.dT (eB acc rest))->(∀b,b≠d->H' b=H b)->R (.ok (.ret .none)) s')->codeAny (model X.prog X.w) A (.builtin "dict.update.loop" ⟨[.ref d,.ref it,rawInt j,.none],[]⟩) R s:=by
 intro rest
 induction rest with
 |nil=>
  intro i j acc H s I hf st hl pr hd hz k;obtain⟨ax,rv,p,_⟩:=I.list hl
  obtain⟨f0,f1,f2,f3,f4,f5⟩:=hf
  have hi:vs.length<=i:=List.drop_eq_nil_iff.mp (by cases h:vs.drop i with|nil=>rfl|cons x r=>rw [h] at pr;cases pr)
  have hle:=rv.length
  refine codeAny_builtin q9 ?_;rw [Around.under_plainId jo _];show wpAny _ A.in1 (pyNext (.ref it)>>=λz=>_) _ _ s
  refine zzA (wpAny_pyNext_list_end hh st p.isList (by simp;omega) λh' eb=>?_)
  show wpAny _ _ (Builtin.Dict.addKeywords d []>>=λ_=>_) _ _ _
  exact zzA (zzG (zzG (k _ H (I.turned (t':=s.toks) (λb o hb e=>eb b o hb e) f0 f1 f3 f4 f5) hd λ_ _=>rfl)))
 |cons kv rest ih=>
  intro i j acc H s I hf st hl pr hd hz k;obtain⟨ax,rv,p,_⟩:=I.list hl
  obtain⟨f0,f1,f2,f3,f4,f5⟩:=id hf
  obtain⟨v,vr,hv,⟨q,b,rfl,hq,hb⟩,pr'⟩:∃v vr,vs.drop i=v::vr/\(∃q b,v=V.ref q/\eP X.K H q [.ref b,kv.2]/\H b=some (.tup (kv.1.map kV)))/\il X.K H vr rest:=by
   cases h:vs.drop i with
   |nil=>rw [h] at pr;cases pr
   |cons x r=>rw [h] at pr;cases pr with|cons h1 h2=>exact⟨x,r,rfl,h1,h2⟩
  have NI:vs[i]?=some (.ref q):=by rw [<-List.head?_drop,hv];rfl
  have UJ:vs.drop (i+1)=vr:=by rw [<-List.drop_drop,hv];rfl
  obtain⟨u,ID,ru⟩:=rv.get NI
  cases(show u=Value.ref q from ru);refine codeAny_builtin q9 ?_;rw [Around.under_plainId jo _];show wpAny _ A.in1 (pyNext (.ref it)>>=λz=>_) _ _ s
  refine zzA (wpAny_pyNext_list_item st p.isList (x:=Value.ref q) (by simpa using ID) λh' gh sb=>?_)
  have I1:Inv X ae σ H {s with heap:=h'}:=I.turned (t':=s.toks) (λb o hb e=>(sb.2 b hb).trans e) f0 f1 f3 f4 f5
  obtain⟨aF,rv2,p2,_⟩:=I1.tuple hq
  obtain⟨o2,g1,g2,n2,g3⟩:=id p2
  obtain⟨u1,u2,rfl,ru1,ru2⟩:∃u1 u2,aF=[u1,u2]/\RelV (.ref b) u1/\RelV kv.2 u2:=by
   cases rv2 with|cons h1 h2=>cases h2 with|cons h3 h4=>cases h4;exact⟨_,_,rfl,h1,h3⟩
  cases(show u1=Value.ref b from ru1);show wpAny _ A.in1 (holding [Value.ref q] _>>=λz=>_) _ _ {s with heap:=h'};refine zzA (wpAny_holding (zzA (wpAny_tryCatch ?_)));unfold Builtin.Dict.pairItems;refine zzA (wpAny_typeOf (s:={s with heap:=h'}) ⟨o2,g1,g2⟩ ?_);rw [if_pos (by decide)];refine zzA (wpAny_seqItems g1 g3 (zzG ?_));show wpAny _ A.in1 (holding [Value.ref b,u2] (dictSet d (.ref b) u2)) _ _ _;refine wpAny_holding (Ji hu I1 hd hb (by rw [zzL] at hz;omega) ru2 λh2 t2 UA I2=>?_)
  have gk:∀c,c≠d->upd H d (.dT (putK acc kv.1 kv.2)) c=H c:=λc hc=>af hc
  have nd:it≠d:=λz=>by rw [z,hd] at f0;cases f0
  refine zzG ⟨plainId_quiet jo _,ih (i+1) (j+1) _ _ _ I2 ⟨by rw [gk _ nd];exact f0,f1,f2,f3,f4,f5⟩ (gh.at λo e=>(UA.2 it nd).trans e) (eF.gk hl gk hd) (il.gk gk hd (by rw [UJ];exact pr')) aq ?_ λs' H' J1 J2 J3=>k s' H' J1 J2 λc hc=>(J3 c hc).trans (gk c hc)⟩
  have:=eW acc kv.1 kv.2
  rw [zzL] at hz;omega
theorem m9(hc:X.calm=true)(hu:X.A.units+3<cLine):cg X (.type "dict") (λxs H Q=>∃l vs aw,xs=[V.ref l]/\eF X.K H l vs/\il X.K H vs aw/\∀p,H p=none->Q (.ref p) (upd H p (.dT (eB [] aw)))):=by
 intro ae s σ H xs us Q I r h;obtain⟨l,vs,aw,rfl,hl,pr,q⟩:=h
 obtain⟨u,rfl,ru⟩:=vals1 r
 cases ru;have hh:X.A.handled=none:=I.ok.hd hc
 refine callType_codes (Q₁:=λobj s₁=>obj=.ref s.heap.objs.size/\s₁={s with heap:=s.heap.push {cls:=.type "dict",data:=.dict #[]}}) F.kt_called_dict (F.kt_typeCall_dict_1 _) F.entry_dict_init (kt_code_dict_new _ ⟨rfl,rfl⟩) ?_
 rintro obj s₁ ⟨rfl,rfl⟩
 have hn:H s.heap.objs.size=none:=I.aS.fresh (zzE _)
 have I1:=I.laid (a:=s.heap.objs.size) (o:=.dT []) (t':=s.toks) (λ_ _ q=>zzB _ q) (zzE _) (so s.heap I.big)
 have T:(⟨s.heap.push {cls:=.type "dict",data:=.dict #[]},s.gens,s.drawn,s.toks,s.os⟩:Shared).TypeIs (.ref s.heap.objs.size) "dict":=⟨_,zzX _ rfl,rfl⟩
 have gk:∀c,c≠s.heap.objs.size->upd H s.heap.objs.size (.dT []) c=H c:=λc hc=>af hc
 have same:aB H (upd H s.heap.objs.size (.dT [])):=bx hn
 have Ms:eF X.K (upd H s.heap.objs.size (.dT [])) l vs:=same.seq hl
 obtain⟨ax,rv,p,hz⟩:=I1.list Ms
 obtain⟨o,n,g1,g2,g3,g4⟩:=id p
 refine⟨T,F.args_dict_init_2 _ _,?_⟩;unfold Builtin.«dict.__init__» Builtin.Dict.selfAndRest;refine zzA (zzA (wpAny_notOrdered_dict T ?_));show wpAny _ _ (pure (s.heap.objs.size,[Value.ref l]):Sem _) _ _ _;refine zzG ?_;show wpAny _ _ (Builtin.Dict.updateFrom "dict.__init__" s.heap.objs.size (.ref l) [] .none) _ _ _;unfold Builtin.Dict.updateFrom;refine zzA (wpAny_typeOf ⟨o,g1,g2⟩ ?_);rw [if_pos (by decide)];refine zzA (EW g1 g2 g4 g3 hh λh' tk hk=>?_);rw [if_pos (by decide)];refine zzA (wpAny_rule ?_);have I2:=I1.kept (h':=h') (t':=tk) hk
 obtain⟨its',rv',p',_⟩:=I2.list Ms
 refine zzA (wpAny_pyIter_list p'.isList ?_);have I3:=I2.kept (h':=h'.push {cls:=.type "list_iterator",data:=.fields #[.ref l,.int 0 0]}) (t':=tk) λb o e=>zzB _ e
 have UU:(h'.push {cls:=.type "list_iterator",data:=.fields #[.ref l,.int 0 0]}).IsListIter h'.objs.size l 0:=⟨_,zzX _ rfl,rfl,rfl⟩
 have UK:dZ X ae (upd H s.heap.objs.size (.dT [])) h'.objs.size:=I2.j9 (zzE _) (I2.aS.fresh (zzE _))
 refine zzG ⟨plainId_quiet jo _,FK (X:=X) (A:=X.A.in1) (ae:=ae) (σ:=σ) (l:=l) (d:=s.heap.objs.size) (it:=h'.objs.size) (vs:=vs) (by show X.A.units+1+1<cLine;omega) (show X.A.in1.handled=none from hh) aw 0 0 [] _ _ I3 UK UU Ms ?_ aq ?_ λs' H' J1 J2 J3=>⟨rfl,?_⟩⟩
 ·exact Paired.x6 pr λ_ _ ⟨q,b,e1,e2,e3⟩=>⟨q,b,e1,(show eP X.K _ q _ from by
   rcases e2 with(e2|⟨o,e2⟩)|e2
   ·exact .inl (.inl (same _ _ e2))
   ·exact .inl (.inr ⟨o,same _ _ e2⟩)
   ·exact .inr e2),same _ _ e3⟩
 ·have:=Paired.length pr
  rw [List.length_nil];omega
 ·have e:H'=upd H s.heap.objs.size (.dT (eB [] aw)):=by
   funext b
   by_cases hb:b=s.heap.objs.size
   ·rw [hb,aq];exact J2
   ·rw [af hb,J3 b hb,af hb]
  rw [e] at J1;exact⟨.ref s.heap.objs.size,_,J1,rfl,q _ hn⟩
theorem uQ(hc:X.calm=true)(hu:X.A.units+3<cLine):cg X (.type "dict") (λxs H Q=>∃l vs aw,xs=[V.ref l]/\eF X.K H l vs/\il X.K H vs aw/\∀p o,H p=none->Q (.ref p) (upd H p (.bK o (.dT (eB [] aw))))):=by
 intro ae s σ H xs us Q I r h;obtain⟨l,vs,aw,rfl,hl,pr,q⟩:=h
 refine wpAny_mono (m9 hc hu ae s σ H _ us (λv H'=>∃p,v=.ref p/\H p=none/\H'=upd H p (.dT (eB [] aw))) I r ⟨l,vs,aw,rfl,hl,pr,λp hp=>⟨p,rfl,hp,rfl⟩⟩) ?_ λ_ _ z=>z
 rintro u s' ⟨v,H',I',rv,p,rfl,hp,rfl⟩
 obtain⟨o,J⟩:=I'.freeze aq
 have e:upd (upd H p (.dT (eB [] aw))) p (.bK o (.dT (eB [] aw)))=upd H p (.bK o (.dT (eB [] aw))):=by
  funext b
  by_cases hb:b=p
  ·rw [hb,aq,aq]
  ·rw [af hb,af hb,af hb]
 rw [e] at J;exact⟨_,_,J,rv,q p o hp⟩
end
structure AW(H Hw:Hp)(d:Addr)(o:Obj)(aw:List (List Key×V)):Prop where
 at_:Hw d=some (.bK o (.dT aw))
 dt:H d=some (.dT aw)
 same:∀b u,H b=some u->b≠d->Hw b=some u
 new:∀b u,Hw b=some u->H b=none->∃ob,u=.bK ob bT
section
variable{P:Program}{w:World}{H Hw:Hp}{d:Addr}{o:Obj}{aw:List (List Key×V)}{fs:List Addr}{h h':Heap}
theorem AW.back(z:AW H Hw d o aw)(u:Un fs [] Hw Hw h h')(k:eJ P w Hw h)(k':eJ P w Hw h'):Un fs [] H H h h'/\eJ P w H h'/\h'.get? d=some o:=by
 have fz:∀b ob,Hw b=some (.bK ob bT)->∀o,h.get? b=some o->h'.get? b=some o:=λb ob e o q=>by
  have h1:h.get? b=some ob:=(k b _ e).1
  have h2:h'.get? b=some ob:=(k' b _ e).1
  rw [h1] at q;cases q;exact h2
 have st:∀c v,Hw c=some v->(∀ob u,v≠.bK ob u)->H c=some v:=λc v e n=>by
  cases q:H c with
  |none=>obtain⟨ob,rfl⟩:=z.new c v e q;exact absurd rfl (n ob _)
  |some u=>
   by_cases hc:c=d
   ·subst hc;rw [z.at_] at e;cases e;exact absurd rfl (n _ _)
   ·rw [z.same c u q hc] at e;exact e
 refine⟨⟨λb ob e n hb hx=>?_,λb ob e n hb hx=>?_,λb ob e n hx=>n,λb ob e hx=>u.there b ob e hx,λ_ _ e=>e,λ_ _ _ e=>e,λb ps e=>⟨#[],by simpa using e⟩⟩,λb v e=>?_,(k' d _ z.at_).1⟩
 ·cases q:Hw b with
  |none=>exact u.keep b ob e q hb hx
  |some v=>obtain⟨o',rfl⟩:=z.new b v q n;exact fz b o' q ob e
 ·cases q:Hw b with
  |none=>exact u.slot b ob e q hb hx
  |some v=>obtain⟨o',rfl⟩:=z.new b v q n;exact⟨ob.slots,fz b o' q ob e⟩
 ·have go:∀v,bV P w Hw h' b v->bV P w H h' b v:=λv y=>y.ei (λ_ _ _ r=>r) (λc r=>st c _ r (λ_ _ z=>nomatch z)) λc xs r=>st c _ r (λ_ _ z=>nomatch z)
  by_cases hb:b=d
  ·subst hb;rw [z.dt] at e;cases e;exact go _ (k' b _ z.at_).2
  ·exact go v (k' b v (z.same b v e hb))
end
structure um(p y:Str)(params:Arguments)(body:Expr)(scope:Scope):Prop where
 body:∃q1 q2 q3 q4 q5 j,body=.Subscript (.Subscript (.Name y q1) (.Name p q2) q3) (.Constant (.int 0) j q4) q5
 sc:sJ [p] [y] scope
 d1:(p==("__debug__":Str))=false
 d2:(p==("__classdict__":Str))=false
 d3:(y==("__debug__":Str))=false
 d4:(y==("__classdict__":Str))=false
section
variable{X:Cx}{ae:List (Addr×Obj)}{σ:St}{H:Hp}{s:Shared}{d f c c' b:Addr}{o oc:Obj}{aw:List (List Key×V)}{kk:Nat}{p y qual:Str}{params:Arguments}{body:Expr}{scope:Scope}{pm fJ:Value}{dq:Array Value}{ct:Tok}{k:List Key}{q:Addr}{n:Int}{r:List V}{A:Around}{E:Value->Shared->Prop}
theorem A4(hA:A=X.A.in1)(L:um p y params body scope)(hr:dM (kk+1) X.A)(I:Inv X ae σ H s)(hd:H d=some (.dT aw))(ho:s.heap.get? d=some o)
 (eo:X.env.cells.lookup y=some c) (Pf:X.s₀.heap.objs.size<=c) (U6:s.heap.IsCell c (some (.ref d)))
 (hf:H f=some (.bK (PySem.W.kla_obj "<lambda>" qual params body scope [(y,c)] pm c' fJ) bT)) (gW:H c'=some (.bK oc bT)) (uN:oc.data=.fields dq) (Hr:dq[1]?=some (.str qual ct))
 (hb:∀u,bindArgs (PySem.W.kla_fn "<lambda>" qual params body scope [(y,c)] pm (.ref c') fJ) ⟨[u],[]⟩=pure ([p].zip [u]))
 (MI:H b=some (.tup (k.map kV))) (hv:hX aw k=some (.ref q)) (hq:eP X.K H q (.int n::r)):
 wpAny (model X.prog X.w) A (call (.ref f) [.ref b]) (λu s'=>(∃t,u=.int n t)/\Inv X ae σ H s'/\s'.heap.get? d=some o) E s:=by
 subst hA;obtain⟨q1,q2,q3,q4,q5,j,rfl⟩:=L.body
 obtain⟨ocell,g1,g2⟩:=id U6
 have EL:H c=none:=I.iq y c eo
 obtain⟨z0,lo,xs,rel,o',es,ep,h1,h2,h3,h4,h5⟩:=(show bV X.prog X.w H s.heap d (.dT aw) from I.aS d _ hd)
 rw [ho] at h1;cases h1;have If:Inv X ae σ (upd H d (.bK o (.dT aw))) s:=by
  refine gR (h':=s.heap) (t':=s.toks) I (by rw [hd];exact True.intro) ⟨rfl,λ_ _=>rfl⟩ ⟨o,ho⟩ ⟨ho,z0,lo,xs,?_,o,es,ep,ho,h2,h3,h4,h5⟩
  exact KT.keeps (H:=H) rel λc ys ec=>by rw [af (fA ec hd (λz=>nomatch z))];exact ec
 have Vd:c≠d:=λz=>by rw [z,hd] at EL;cases EL
 have Vn:f≠d:=fA hf hd (λz=>nomatch z)
 have QX:c'≠d:=fA gW hd (λz=>nomatch z)
 have FN:vA [(c,ocell)] (upd H d (.bK o (.dT aw))) (eY X.stack) s.heap:=by
  have lk:∀b o,List.lookup b [(c,ocell)]=some o->b=c/\o=ocell:=λb o e=>by
   rw [List.lookup_cons] at e;cases zr:b==c with
   |true=>rw [zr] at e;cases e;exact⟨beq_iff_eq.mp zr,rfl⟩
   |false=>rw [zr] at e;cases e
  refine⟨λb o e=>?_,λb o e=>?_,λb o e=>?_⟩
  ·obtain⟨rfl,rfl⟩:=lk b o e;exact g1
  ·obtain⟨rfl,rfl⟩:=lk b o e;rw [af Vd];exact EL
  ·obtain⟨rfl,rfl⟩:=lk b o e
   intro QC;rcases List.mem_cons.mp (I.iA b QC) with z|z
   ·exact I.Ef y b eo z
   ·obtain⟨_,o',h4,_⟩:=I.ok.gO.mem z
    exact absurd (zzO h4) (Nat.not_lt.mpr Pf)
 have zc:List.lookup c [(c,ocell)]=some ocell:=by simp
 have OC:∀x c1,List.lookup x [(y,c)]=some c1->x=y/\c1=c:=λx c1 e=>by
  rw [List.lookup_cons] at e;cases hx:x==y with
  |true=>rw [hx] at e;cases e;exact⟨beq_iff_eq.mp hx,rfl⟩
  |false=>rw [hx] at e;cases e
 have zb:∀b o,List.lookup b [(c,ocell)]=some o->X.base.get? b=none:=λb o e=>by
  rw [List.lookup_cons] at e;cases zr:b==c with
  |true=>
   have:=beq_iff_eq.mp zr;subst this
   cases y':X.base.get? b with
   |none=>rfl
   |some o'=>exact absurd (zzO (I.ok.bs b o' y').1) (Nat.not_lt.mpr Pf)
  |false=>rw [zr] at e;cases e
 have U5:eP X.K (upd H d (.bK o (.dT aw))) q (.int n::r):=eP.gk hq (λb hb=>af hb) hd
 have Us:upd H d (.bK o (.dT aw)) b=some (.tup (k.map kV)):=by rw [af (fA MI hd (λz=>nomatch z))];exact MI
 have wd:AW H (aZ [(c,ocell)] (upd H d (.bK o (.dT aw)))) d o aw:=by
  have nz:∀b u,H b=some u->List.lookup b [(c,ocell)]=none:=λb u e=>by
   rw [List.lookup_cons];cases zr:b==c with
   |true=>have:=beq_iff_eq.mp zr;subst this;rw [EL] at e;cases e
   |false=>rfl
  refine⟨by rw [ak (nz d _ hd),aq],hd,λb u e hb=>by rw [ak (nz b u e),af hb];exact e,λb u e n=>?_⟩
  cases hz:List.lookup b [(c,ocell)] with
  |some ob=>rw [br hz] at e;cases e;exact⟨_,rfl⟩
  |none=>
   rw [ak hz] at e;have Vm:b≠d:=λz=>by rw [z,hd] at n;cases n
   rw [af Vm,n] at e;cases e
 refine wpAny_call (codeAny_mono (xi (k:=kk) (E:=λ_ _ _=>False) (Q:=λv H'=>v=.int n/\H'=aZ [(c,ocell)] (upd H d (.bK o (.dT aw)))) (Z:=[(c,ocell)]) (ws:=[.ref d]) (vs:=[.ref b]) (us:=[.ref b])
  (t:=LW (Nm X.K) (Hg (Az 1) (Az 0)) (tC (.int 0))) L.sc hr.in1 If.yi.in1 FN zb ?fo ?co uN Hr (hb _) (.cons rfl .nil) rfl rfl ?LN ?inj ?cz ?cells ?ht ?hq) λrr s' RK=>?_)
 case fo=>
  have z:upd H d (.bK o (.dT aw)) f=H f:=af Vn
  exact(If.aS f _ (z.trans hf)).1
 case co=>
  have z:upd H d (.bK o (.dT aw)) c'=some (.bK oc bT):=by rw [af QX];exact gW
  exact(If.aS c' _ z).1
 case LN=>intro y' CN;exact⟨c,by rw [zzi.mp CN];simp⟩
 case inj=>intro x y' c1 e1 e2;rw [(OC x c1 e1).1,(OC y' c1 e2).1]
 case cz=>intro x c1 e;obtain⟨rfl,rfl⟩:=OC x c1 e;exact⟨ocell,_,zc,g2⟩
 case cells=>
  intro i y' c1 e1 e2 v e3;obtain⟨rfl,rfl⟩:=OC y' c1 e2
  cases i with
  |zero=>cases e3;exact⟨.ref d,rfl,ocell,g1,g2⟩
  |succ i=>cases e3
 case ht=>
  refine Hi BQ (CU ?_ (fK (i:=1) rfl (.inr (.inr (L.sc.Qz y (by simp)))) L.d3 L.d4) (fK (i:=0) rfl (.inl (L.sc.par p (by simp))) L.d1 L.d2) λ_ _=>rfl) uS λ_ _=>rfl
  have:=hr.un
  show X.A.units+1+3+1<cLine
  omega
 case hq=>
  refine⟨_,rfl,_,rfl,d,.ref q,rfl,?_,?_⟩
  ·exact .inr ⟨aw,k,b,.inr ⟨o,aq⟩,rfl,Us,hv.symm⟩
  ·exact⟨q,.int n::r,0,.int n,rfl,rfl,U5,by simp [ub,KQ],λ_=>⟨rfl,rfl⟩⟩
 ·cases rr with
  |error e=>
   obtain⟨a,C,t,vs,H',B,e1,F⟩:=RK
   exact(F.ends).elim
  |ok fl=>
   cases fl with
   |ret u=>
    obtain⟨v,H',os,bare,un,aS,rv,rfl,rfl⟩:=RK
    obtain⟨t,rfl⟩:=rv
    obtain⟨u1,k1,OH⟩:=wd.back un (FN.aS If.aS) aS
    obtain⟨hh,g,dr,tk,os'⟩:=s'
    obtain rfl:os'=s.os:=os
    exact⟨⟨t,rfl⟩,I.call (h':=hh) (g':=g) (d':=dr) (t':=tk) (ch:=[]) u1 k1 bare (λb z=>absurd z (by simp)),OH⟩
   |_=>exact RK.elim
end
structure KM(X:Cx)(σ:St)(H:Hp)(kk:Nat)(d f:Addr)(aw:List (List Key×V))(cf:Nat->Int):Prop where
 room:dM (kk+1) X.A
 dt:H d=some (.dT aw)
 lam:∃(p y:Str) (params:Arguments) (body:Expr) (scope:Scope) (qual:Str) (c c':Addr) (oc:Obj) (dq:Array Value) (ct:Tok) (pm fJ:Value) (iy:Nat),um p y params body scope/\X.env.cells.lookup y=some c/\X.s₀.heap.objs.size<=c/\H f=some (.bK (PySem.W.kla_obj "<lambda>" qual params body scope [(y,c)] pm c' fJ) bT)/\
  H c'=some (.bK oc bT)/\oc.data=.fields dq/\dq[1]?=some (.str qual ct)/\(∀u,bindArgs (PySem.W.kla_fn "<lambda>" qual params body scope [(y,c)] pm (.ref c') fJ) ⟨[u],[]⟩=pure ([p].zip [u]))/\
  X.N[iy]?=some y/\σ[iy]?=some (some (V.ref d))/\X.env.scope.names.lookup y=some .cell
 cost:∀(i:Nat) k v,aw[i]?=some (k,v)->∃q r,v=V.ref q/\eP X.K H q (.int (cf i)::r)
theorem EJ{aw:List (List Key×V)}:∀{i:Nat} {k:List Key} {v:V},(aw.map (·.1)).Nodup->aw[i]?=some (k,v)->hX aw k=some v:=by
 induction aw with
 |nil=>intro i k v _ h;simp at h
 |cons x r ih=>
  intro i k v nd h;rw [zzF,List.nodup_cons] at nd;cases i with
  |zero=>simp at h;subst h;exact gj rfl
  |succ i=>
   simp at h;rw [gJ λe=>nd.1 (e▸List.mem_map.mpr ⟨(k,v),zzD h,rfl⟩)]
   exact ih nd.2 h
section
variable{X:Cx}{ae:List (Addr×Obj)}{σ:St}{H:Hp}{s:Shared}{d f it S:Addr}{o:Obj}{es:Array DictEntry}{ep:Nat}{aw:List (List Key×V)}{kk:Nat}{cf:Nat->Int}{R:Result->Shared->Prop}
theorem wJ(I:Inv X ae σ H s)(e:H d=some (.dT aw)):(d==sysModules)=false/\(aw.map (·.1)).Nodup/\∃o es ep,s.heap.get? d=some o/\o.ExactDict/\o.data=.dict es ep/\es.size=aw.length/\∀(i:Nat) (h:i<es.size),∃b k v,es[i].key=.ref b/\aw[i]?=some (k,v)/\H b=some (.tup (k.map kV)):=by
 obtain⟨o,J⟩:=I.freeze e
 obtain⟨lo,h0,hx,es,ep,h3,hl,hk⟩:=gA J aq
 obtain⟨z,_,xs,rel,_,_,_,_,_,_,_,h5⟩:=(show bV X.prog X.w H s.heap d (.dT aw) from I.aS d _ e)
 refine⟨lo,?_,o,es,ep,h0,hx,h3,hl,λi hi=>?_⟩
 ·have keys:∀{l:List (List Key×V)} {m:List (List Key×Addr×Value)},KT H l m->l.map (·.1)=m.map (·.1):=by
   intro l m r
   induction r with
   |nil=>rfl
   |cons h t ih=>rw [zzF,zzF,h.1,ih]
  rw [keys (KT.keeps (H':=H) rel λ_ _ z=>z)];exact h5
 ·obtain⟨b,k,v,e1,e2,e3⟩:=hk i hi
  refine⟨b,k,v,e1,e2,?_⟩
  by_cases hb:b=d
  ·rw [hb,aq] at e3;cases e3
  ·rw [af hb] at e3;exact e3
theorem dZ.pin{b:Addr}{ob:Obj}(h:dZ X ae H b)(e:s.heap.get? b=some ob)(n:∀v,ob.data≠.cell v):s.heap.get? b=some ob/\H b=none/\b≠X.env.locals/\b∉X.fs/\∀v,ob.data≠.cell v:=⟨e,h.1,h.2.1,h.2.2.1,n⟩
theorem AR(M:KM X σ H kk d f aw cf)(I:Inv X ae σ H s)(fi:dZ X ae H it)(fS:dZ X ae H S)(ho:s.heap.get? d=some o){oi oS:Obj}(hi:s.heap.get? it=some oi)(ci:∀v,oi.data≠.cell v)(hS:s.heap.get? S=some oS)(cS:∀v,oS.data≠.cell v)
 (nd:(aw.map (·.1)).Nodup) {i:Nat} {k:List Key} {v:V} {b:Addr} (hk:aw[i]?=some (k,v)) (hb:H b=some (.tup (k.map kV))) {E:Value->Shared->Prop} {Q:Value->Shared->Prop}
 (h:∀t s',Inv X ae σ H s'->s'.heap.get? d=some o->s'.heap.get? it=some oi->s'.heap.get? S=some oS->Q (.int (cf i) t) s'):wpAny (model X.prog X.w) X.A.in1 (call (.ref f) [.ref b]) Q E s:=by
 obtain⟨p,y,params,body,scope,qual,c,c',oc,dq,ct,pm,fJ,iy,L,l1,l2,l3,l4,l5,l6,l7,l8,l9,l10⟩:=M.lam
 obtain⟨q,r,rfl,hq⟩:=M.cost i k v hk
 have I1:Inv X ((it,oi)::(S,oS)::ae) σ H s:=by
  refine I.gU λp hp=>?_
  rcases List.mem_cons.mp hp with rfl|hp
  ·exact fi.pin hi ci
  ·rcases List.mem_cons.mp hp with rfl|hp
   ·exact fS.pin hS cS
   ·exact I.pin p (zzR _ hp)
 have cell:s.heap.IsCell c (some (.ref d)):=by
  obtain⟨m,_,hloc⟩:=I.loc
  obtain⟨u,ru,lk⟩:=hloc iy y (.ref d) l8 l9 (.inr (.inl l10))
  cases(show u=Value.ref d from ru);rcases lk with⟨z,_⟩|⟨_,c2,hc2,z⟩
  ·have z2:X.env.scope.names.lookup y=some .local:=z
   rw [l10] at z2;cases z2
  ·rw [l1] at hc2;cases hc2;exact z
 refine wpAny_mono (A4 (kk:=kk) rfl L M.room I1 M.dt ho l1 l2 cell l3 l4 l5 l6 l7 hb (EJ nd hk) hq) (λu s' hu=>?_) λ_ _ z=>z
 obtain⟨⟨t,rfl⟩,J,hd⟩:=hu
 refine h t s' (J.gU λp hp=>J.pin p (zzR _ (.tail _ (.tail _ hp)))) hd (J.pin (it,oi) (zzR _ (.head _))).1 (J.pin (S,oS) (zzR _ (.tail _ (.head _)))).1
theorem xg{h:Heap}{c:Nat}{xs ys:Array Value}(e:h.get? S=some (seqObj "list" xs c)):∃c',(h.update S (Obj.mapSeq λ_=>ys)).get? S=some (seqObj "list" ys c'):=⟨_,get?_update_seq e λ_=>ys⟩
theorem ma{xs:Array Value}{c:Nat}:∀v,(seqObj "list" xs c).data≠.cell v:=λv z=>nomatch z
theorem AJ(M:KM X σ H kk d f aw cf)(hh:X.A.handled=none)(hd:o.data=.dict es ep)(hl:es.size=aw.length)(xu:∀(i:Nat) (h:i<es.size),∃b k v,es[i].key=.ref b/\aw[i]?=some (k,v)/\H b=some (.tup (k.map kV)))(nd:(aw.map (·.1)).Nodup)
 (fi:dZ X ae H it) (fS:dZ X ae H S) (nS:S≠it) (hR:∀(i:Nat) (h:i<es.size) s',(∀j,j<es.size->cf i<=cf j/\(j<i->cf i<cf j))->Inv X ae σ H s'->R (.ok (.ret es[i].key)) s'):
 ∀(r j i:Nat) (s:Shared) (t:Tok) (c:Nat) (hi:i<es.size),es.size-(j+1)=r->j+1<=es.size->Inv X ae σ H s->s.heap.get? d=some o->s.heap.IsKeyIter it d (j+1) es.size ep->s.heap.get? S=some (seqObj "list" #[es[i].key,.int (cf i) t] c)->i<=j->(∀j',j'<=j->cf i<=cf j'/\(j'<i->cf i<cf j'))->
  codeAny (model X.prog X.w) X.A (.builtin "min.loop" ⟨[.ref it,.ref f,.ref S],[]⟩) R s:=by
 have name:(toString "min"++toString ".loop":String)="min.loop":=by decide
 have Rc:S≠d:=λz=>by have:=fS.1;rw [z,M.dt] at this;cases this
 have PF:it≠d:=λz=>by have:=fi.1;rw [z,M.dt] at this;cases this
 intro r
 induction r with
 |zero=>
  intro j i s t c hi hr hj I ho st hS xy best;refine codeAny_builtin PySem.F.entry_min_loop ?_;rw [Around.under_plainId PySem.F.plain_min_loop _];show wpAny _ X.A.in1 (seqItems? (.ref S)>>=λz=>_) _ _ _
  refine zzA (wpAny_seqItems hS rfl ?_);show wpAny _ X.A.in1 (tryCatch (pyNext (.ref it)) _>>=λz=>_) _ _ _
  refine zzA (wpAny_tryCatch (uB hh st ho hd (by omega) λh' eb=>?_))
  have v5:=eb S _ nS hS
  have I1:=I.turned (h':=h') (t':=s.toks) (λb o hb e=>eb b o hb e) fi.1 fi.2.1 fi.2.2.2.1 fi.2.2.2.2.1 fi.2.2.2.2.2
  show wpAny _ X.A.in1 (updateSeq S (λ_=>#[])>>=λz=>_) _ _ _
  refine zzA (wpAny_updateSeq v5 rfl (zzA (wpAny_letGo (zzG ?_))));have s1:=Heap.SameBut.update h' S (Obj.mapSeq λ_=>(#[]:Array Value))
  exact hR i hi _ (λj' FV=>best j' (by omega)) (I1.turned (t':=s.toks) (λb o hb e=>(s1.2 b hb).trans e) fS.1 fS.2.1 fS.2.2.2.1 fS.2.2.2.2.1 fS.2.2.2.2.2)
 |succ r ih=>
  intro j i s t c hi hr hj I ho st hS xy best;have bZ:j+1<es.size:=by omega
  refine codeAny_builtin PySem.F.entry_min_loop ?_;rw [Around.under_plainId PySem.F.plain_min_loop _];show wpAny _ X.A.in1 (seqItems? (.ref S)>>=λz=>_) _ _ _
  refine zzA (wpAny_seqItems hS rfl ?_);show wpAny _ X.A.in1 (tryCatch (pyNext (.ref it)) _>>=λz=>_) _ _ _
  refine zzA (wpAny_tryCatch (k8 st ho hd bZ λh' gh sb=>?_));have v5:=(sb.2 S nS).trans hS
  have iG:=(sb.2 d (Ne.symm PF)).trans ho
  have I1:=I.turned (h':=h') (t':=s.toks) (λb o hb e=>(sb.2 b hb).trans e) fi.1 fi.2.1 fi.2.2.2.1 fi.2.2.2.2.1 fi.2.2.2.2.2
  obtain⟨oi,gi,gc,gd⟩:=id gh
  obtain⟨b,k,v,e1,e2,e3⟩:=xu (j+1) bZ
  rw [e1];show wpAny _ X.A.in1 (tryCatch (holding [Value.ref b] (call (.ref f) [Value.ref b])) _>>=λz=>_) _ _ _
  refine zzA (wpAny_tryCatch (wpAny_holding (AR M I1 fi fS iG gi (λv z=>by rw [gd] at z;cases z) v5 ma nd e2 e3 λt2 s2 I2 JX Mc LL=>?_)))
  have Pq:s2.heap.IsKeyIter it d (j+1+1) es.size ep:=⟨oi,Mc,gc,gd⟩
  show wpAny _ X.A.in1 (tryCatch (holding [Value.ref b,.int (cf (j+1)) t2] (richCompare .Lt (.int (cf (j+1)) t2) (.int (cf i) t)>>=λz=>_)) _>>=λz=>_) _ _ _
  refine zzA (wpAny_tryCatch (wpAny_holding (zzA (CmpOf.ints_lt (prog:=X.prog) (w:=X.w) (A:=X.A.in1) (P:=λi v=>∃t,v=.int (cf i) t) cf (λi v h=>h) (j+1) i _ _ _ _ _ ⟨t2,rfl⟩ ⟨t,rfl⟩ ?_))))
  refine zzA (wpAny_holding (wpAny_truthy_bool (zzA (wpAny_letGo (zzG ?_)))))
  by_cases iR:cf (j+1)<cf i
  ·obtain⟨c2,hc2⟩:=xg (ys:=#[Value.ref b,.int (cf (j+1)) t2]) LL
   have s1:=Heap.SameBut.update s2.heap S (Obj.mapSeq λ_=>#[Value.ref b,.int (cf (j+1)) t2])
   simp only [iR,decide_true,if_true];refine zzA (wpAny_updateSeq LL rfl (zzA (wpAny_letGo ?_)));rw [name];rw [<-e1] at hc2 s1⊢;refine zzG ⟨plainId_quiet PySem.F.plain_min_loop _,ih (j+1) (j+1) _ t2 c2 bZ (by omega) bZ (I2.turned (t':=s2.toks) (λb o hb e=>(s1.2 b hb).trans e) fS.1 fS.2.1 fS.2.2.2.1 fS.2.2.2.2.1 fS.2.2.2.2.2) ?_ ?_ ?_ (zzE _) λj' FV=>?_⟩
   ·exact(s1.2 d (Ne.symm Rc)).trans JX
   ·exact⟨oi,(s1.2 it (Ne.symm nS)).trans Mc,gc,gd⟩
   ·exact hc2
   ·by_cases e:j'=j+1
    ·subst e;exact⟨by omega,λ_=>by omega⟩
    ·have:=best j' (by omega)
     exact⟨by omega,λ_=>by omega⟩
  ·simp only [iR,decide_false,zze,if_false];refine zzA (wpAny_letGo ?_);rw [name];refine zzG ⟨plainId_quiet PySem.F.plain_min_loop _,ih (j+1) i _ t c hi (by omega) bZ I2 JX Pq LL (by omega) λj' FV=>?_⟩
   by_cases e:j'=j+1
   ·subst e;exact⟨by omega,λ_=>by omega⟩
   ·exact best j' (by omega)
theorem yq(M:KM X σ H kk d f aw cf)(mI:0<aw.length)(I:Inv X ae σ H s){Q:VK}
 (q:∀i k v b,aw[i]?=some (k,v)->H b=some (.tup (k.map kV))->(∀j,j<aw.length->cf i<=cf j/\(j<i->cf i<cf j))->Q (.ref b) H):wpAny (model X.prog X.w) X.A (call (.builtin "min") [.ref d] [(Str.ofString "key",.ref f)]) (EP X ae σ Q) X.xe s:=by
 have name:(toString "min"++toString ".loop":String)="min.loop":=by decide
 have hh:X.A.handled=none:=M.room.hd
 obtain⟨lo,nd,o,es,ep,ho,hx,hd,hl,xu⟩:=wJ I M.dt
 have fin:∀(i:Nat) (h:i<es.size) s',(∀j,j<es.size->cf i<=cf j/\(j<i->cf i<cf j))->Inv X ae σ H s'->EP X ae σ Q es[i].key s':=λi h s' b J=>by
  obtain⟨a,k,v,e1,e2,e3⟩:=xu i h
  rw [e1];exact⟨.ref a,H,J,rfl,q i k v a e2 e3 λj hj=>b j (by omega)⟩
 refine kmk_tree PySem.F.kind_min PySem.F.plain_min PySem.F.entry_min (kmk_min_key _ _) ?_;show wpAny _ X.A.in1 (Builtin.Builtins.bindParams "min" ["key","default"] 0 ⟨[],[(Str.ofString "key",.ref f)]⟩>>=λz=>_) _ _ s
 refine zzA (wpAny_of_eq (show Builtin.Builtins.bindParams "min" ["key","default"] 0 ⟨[],[(Str.ofString "key",.ref f)]⟩=pure [some (.ref f),none] from rfl) (zzA (zzG ?_)));refine zzA (pY lo ho hx hd (zzA (wpAny_newList ?_ (Nat.zero_le _))));rw [name];generalize hit:s.heap.objs.size=it
 generalize hSS:(s.heap.push {cls:=.type "dict_keyiterator",data:=.fields #[.ref d,.int 0 0,.int es.size 0,.int ep 0]}).objs.size=S
 have eS:S=it+1:=by rw [<-hSS,<-hit];exact size_push' ..
 have nS:S≠it:=by omega
 have hH:s.heap.objs.size<=S:=by omega
 have fi:dZ X ae H it:=by rw [<-hit];exact I.j9 (zzE _) (I.aS.fresh (zzE _))
 have fS:dZ X ae H S:=I.j9 hH (I.aS.fresh hH)
 have keep:∀b ob,s.heap.get? b=some ob->((s.heap.push {cls:=.type "dict_keyiterator",data:=.fields #[.ref d,.int 0 0,.int es.size 0,.int ep 0]}).push (seqObj "list" #[] 0)).get? b=some ob:=λb ob e=>zzB _ (zzB _ e)
 have I1:=I.kept (t':=s.toks) keep
 have gI:((s.heap.push {cls:=.type "dict_keyiterator",data:=.fields #[.ref d,.int 0 0,.int es.size 0,.int ep 0]}).push (seqObj "list" #[] 0)).get? it=some {cls:=.type "dict_keyiterator",data:=.fields #[.ref d,.int 0 0,.int es.size 0,.int ep 0]}:=by
  rw [<-hit];exact zzB _ (zzX _ rfl)
 have gS:((s.heap.push {cls:=.type "dict_keyiterator",data:=.fields #[.ref d,.int 0 0,.int es.size 0,.int ep 0]}).push (seqObj "list" #[] 0)).get? S=some (seqObj "list" #[] 0):=by
  rw [<-hSS];exact zzX _ rfl
 have Rc:S≠d:=λz=>by have:=fS.1;rw [z,M.dt] at this;cases this
 have PF:it≠d:=λz=>by have:=fi.1;rw [z,M.dt] at this;cases this
 refine zzG ⟨plainId_quiet PySem.F.plain_min_loop _,codeAny_builtin PySem.F.entry_min_loop ?_⟩;rw [Around.under_plainId PySem.F.plain_min_loop _];show wpAny _ X.A.in1 (seqItems? (.ref S)>>=λz=>_) _ _ _
 refine zzA (wpAny_seqItems gS rfl ?_);show wpAny _ X.A.in1 (tryCatch (pyNext (.ref it)) _>>=λz=>_) _ _ _
 have h0:0<es.size:=by omega
 refine zzA (wpAny_tryCatch (k8 (i:=0) ⟨_,gI,rfl,rfl⟩ (keep _ _ ho) hd h0 λh' gh sb=>?_))
 have v5:=(sb.2 S nS).trans gS
 have iG:=(sb.2 d (Ne.symm PF)).trans (keep _ _ ho)
 have I2:=I1.turned (h':=h') (t':=s.toks) (λb o hb e=>(sb.2 b hb).trans e) fi.1 fi.2.1 fi.2.2.2.1 fi.2.2.2.2.1 fi.2.2.2.2.2
 obtain⟨oi,gi,gc,gd⟩:=id gh
 obtain⟨b,k,v,e1,e2,e3⟩:=xu 0 h0
 rw [e1];show wpAny _ X.A.in1 (tryCatch (holding [Value.ref b] (call (.ref f) [Value.ref b])) _>>=λz=>_) _ _ _
 refine zzA (wpAny_tryCatch (wpAny_holding (AR M I2 fi fS iG gi (λv z=>by rw [gd] at z;cases z) v5 ma nd e2 e3 λt2 s2 I3 JX Mc LL=>?_)))
 obtain⟨c2,hc2⟩:=xg (ys:=#[Value.ref b,.int (cf 0) t2]) LL
 have s1:=Heap.SameBut.update s2.heap S (Obj.mapSeq λ_=>#[Value.ref b,.int (cf 0) t2])
 show wpAny _ X.A.in1 (updateSeq S (λ_=>#[Value.ref b,.int (cf 0) t2])>>=λz=>_) _ _ _
 refine zzA (wpAny_updateSeq LL rfl ?_);rw [name];rw [<-e1] at hc2 s1⊢;refine zzG ⟨plainId_quiet PySem.F.plain_min_loop _,AJ M hh hd hl xu nd fi fS nS fin _ 0 0 _ t2 c2 h0 rfl h0 (I3.turned (t':=s2.toks) (λb o hb e=>(s1.2 b hb).trans e) fS.1 fS.2.1 fS.2.2.2.1 fS.2.2.2.2.1 fS.2.2.2.2.2) ((s1.2 d (Ne.symm Rc)).trans JX) ⟨oi,(s1.2 it (Ne.symm nS)).trans Mc,gc,gd⟩ hc2 (zzE _) λj' FV=>?_⟩
 have e:j'=0:=by omega
 subst e;exact⟨by omega,λh=>absurd h (Nat.lt_irrefl _)⟩
end
end L2
namespace L2
open PySem PySem.Spec PyProof.Rows PySem.W
noncomputable def ik{α:Type}(dflt:α)(l:List α)(nss:List (List Int)):List α:=if l.length<2 then l else(jY l.length λi j=>HT.lexLt (nss.getD i []) (nss.getD j [])).map λi=>l.getD i dflt
section
variable{prog:Program}{w:World}{A:Around}{E:Value->Shared->Prop}{s:Shared}{a:Addr}{vs:List Value}{nss:List (List Int)}
theorem AV{n:Nat}{P:PySem.Fin->Shared->Prop}(ho:s.heap.get? a=some (seqObj "list" vs.toArray n))(h2:vs.length<2)
 (h:∀h' c,(∀b o,b≠a->s.heap.get? b=some o->h'.get? b=some o)->h'.get? a=some (seqObj "list" vs.toArray c)->P (.done (.ret .none)) {s with heap:=h'}):wpAny (model prog w) A (Builtin.«list.sort» ⟨[.ref a],[]⟩) P E s:=by
 have s1:=Heap.SameBut.update s.heap a (Obj.mapSeq λ_=>(#[]:Array Value))
 obtain⟨e1,ho1⟩:=lK (ys:=(#[]:Array Value)) ho
 generalize hH:(((s.heap.update a (Obj.mapSeq λ_=>(#[]:Array Value))).push (seqObj "tuple" vs.toArray 0)).push (seqObj "list" #[] 0))=H1
 have k1:∀b o,b≠a->s.heap.get? b=some o->H1.get? b=some o:=λb o hb e=>by rw [<-hH];exact zzB _ (zzB _ ((s1.2 b hb).trans e))
 have a1:H1.get? a=some (seqObj "list" #[] e1):=by rw [<-hH];exact zzB _ (zzB _ ho1)
 rw [list_sort_plain];refine zzA (listItems_at ho rfl (zzA (listUpdate_at ho rfl ?_ (by rw [zzC,sizeLine_eq];omega) (Nat.zero_le _))));refine zzA (seqEpoch_at ho1 rfl (zzA (wpAny_newTuple ?_ (by show vs.length<=_;rw [sizeLine_eq];omega))));refine zzA (wpAny_newList ?_ (Nat.zero_le _));refine wpAny_holding ?_;show wpAny (model prog w) A _ P E {s with heap:=((s.heap.update a (Obj.mapSeq λ_=>(#[]:Array Value))).push (seqObj "tuple" vs.toArray 0)).push (seqObj "list" #[] 0)}
 rw [hH];dsimp only;have Ip:vs.toArray.size<2:=by rw [zzC];omega
 rw [if_pos Ip,if_pos Ip];refine zzA (zzG (zzA ?_));show wpAny (model prog w) A (pure ((),SortSt.mk' general' (vs.toArray.zip vs.toArray) #[] 7 none)) _ E _;refine zzG ?_;dsimp only;have IJ:(arrOf (SortSt.mk' general' (vs.toArray.zip vs.toArray) #[] 7 none)).map (·.2)=vs.toArray:=by
  show(vs.toArray.zip vs.toArray).map (·.2)=vs.toArray
  apply Array.toList_inj.mp
  simp only [Array.toList_map,Array.toList_zip];exact List.map_snd_zip (zzE _)
 rw [IJ];have s2:=Heap.SameBut.update H1 a (Obj.mapSeq λ_=>vs.toArray)
 obtain⟨c2,hc2⟩:=lK (ys:=vs.toArray) a1
 refine zzA (seqEpoch_at a1 rfl (zzA (listUpdate_at a1 rfl ?_ (Nat.zero_le _) (by rw [zzC,sizeLine_eq];omega))));simp only [bne_self_eq_false,zze,if_false];exact zzG (h _ c2 (λb o hb e=>(s2.2 b hb).trans (k1 b o hb e)) hc2)
theorem A7{n:Nat}{P:PySem.Fin->Shared->Prop}(ho:s.heap.get? a=some (seqObj "list" vs.toArray n))(CT:vs.length<64)(rd:2<=vs.length->∀h',(∀b o,b≠a->s.heap.get? b=some o->h'.get? b=some o)->LF prog w A E vs (λi j=>HT.lexLt (nss.getD i []) (nss.getD j [])) {s with heap:=h'})
 (h:∀h' c,(∀b o,b≠a->s.heap.get? b=some o->h'.get? b=some o)->h'.get? a=some (seqObj "list" (ik Value.none vs nss).toArray c)->P (.done (.ret .none)) {s with heap:=h'}):wpAny (model prog w) A (Builtin.«list.sort» ⟨[.ref a],[]⟩) P E s:=by
 by_cases h2:vs.length<2
 ·exact AV ho h2 λh' c k e=>h h' c k (by unfold ik;rw [if_pos h2];exact e)
 ·exact yC ho (by omega) CT (rd (by omega)) λh' c k e=>h h' c k (by unfold ik;rw [if_neg h2];exact e)
theorem BP{d:Addr}{o:Obj}{es:Array DictEntry}{ep:Nat}(lo:(d==sysModules)=false)(hx:o.ExactDict)(hd:o.data=.dict es ep):KdlSrc prog w "dict" d d es.size (λi v=>∃h:i<es.size,v=es[i].key) (λh=>h.get? d=some o) where
 type:=λs e=>⟨o,e,hx.1⟩
 there:=λh e=>⟨zzO e,zzO e⟩
 keep:=λh h' e k=>k d (.inl rfl) o e
 notList:=by decide
 notTuple:=by decide
 hint:=λA E s Q e q=>kdl_hint_dict ⟨o,e,hx.1⟩ q
 iter:=λA s hh e=>⟨_,λi h=>h.IsKeyIter s.heap.objs.size d i es.size ep/\h.get? d=some o,(λE Q q=>pY lo e hx hd q),{
  sub:=λb hb=>by simp at hb;simp [hb]
  frame:=λ_ _ _ st hk=>⟨st.1.at λo e=>hk _ (by simp) o e,hk d (by simp) o st.2⟩
  item:=λi s' Q E hi st hQ=>k8 st.1 st.2 hd hi λh' gh sb=>hQ _ h' s'.toks ⟨hi,rfl⟩ ⟨gh,(sb.2 d (zzb (zzO e))).trans st.2⟩ λb o hb z=>(sb.2 b (λy=>hb (by simp [y]))).trans z
  done:=λs' Q E st hQ=>uB hh st.1 st.2 hd (zzE _) λh' eb=>hQ h' s'.toks λb o hb z=>eb b o (λy=>hb (by simp [y])) z
  self:=λ_ _ _ _ st hQ=>wpAny_pyIter_keyiter st.1 hQ},⟨⟨_,zzX _ rfl,rfl,rfl⟩,zzB _ e⟩⟩
theorem rb{Q:List Value->Shared->Prop}{T:String}{r d:Addr}{n:Nat}{P:Nat->Value->Prop}{OK:Heap->Prop}(K:KdlSrc prog w T r d n P OK)(hh:A.handled=none)(aS:OK s.heap)(hn:n<=sizeLine)
 (hQ:∀h' tk (acc:Array Value),(∀b o,s.heap.get? b=some o->h'.get? b=some o)->ItemsOf P acc n->Q acc.toList {s with heap:=h',toks:=tk}):wpAny (model prog w) A (collect (.ref r)) Q E s:=by
 have hS:(s.heap.push (seqObj "list" #[] 0)).get? s.heap.objs.size=some {cls:=.type "list",data:=.seq #[] 0}:=zzX _ rfl
 have bZ:=K.there _ aS
 have main:codeAny (model prog w) A (.builtin "proto.collect" ⟨[.ref r],[]⟩) (λres s'=>∃h' tk kZ c',res=.ok (.ret (.ref s.heap.objs.size))/\s'={s with heap:=h',toks:=tk}/\(∀b o,s.heap.get? b=some o->h'.get? b=some o)/\h'.get? s.heap.objs.size=some {cls:=.type "list",dict:=none,data:=.seq kZ c',slots:=#[]}/\ItemsOf P kZ n) s:=by
  refine codeAny_builtin F.entry_proto_collect ?_;rw [Around.under_plainId F.plain_proto_collect _];show wpAny _ A.in1 (newList []>>=λl=>again (.builtin "list.__iadd__" ⟨[l,.ref r],[]⟩)) _ _ s
  refine zzA (wpAny_newList (zzG ⟨plainId_quiet F.plain_list_iadd _,codeAny_builtin F.entry_list_iadd ?_⟩) (Nat.zero_le _));rw [Around.under_plainId F.plain_list_iadd _];exact kdl_extend (R:=λres s'=>∃h' tk kZ c',res=.ok (.ret (.ref s.heap.objs.size))/\s'={s with heap:=h',toks:=tk}/\(∀b o,s.heap.get? b=some o->h'.get? b=some o)/\h'.get? s.heap.objs.size=some {cls:=.type "list",dict:=none,data:=.seq kZ c',slots:=#[]}/\ItemsOf P kZ n)
   (s:={s with heap:=s.heap.push (seqObj "list" #[] 0)}) (A:=A) K hh (K.keep _ _ aS λb _ o e=>zzB _ e) _ (Nat.ne_of_gt bZ.1) (Nat.ne_of_gt bZ.2) (.ref s.heap.objs.size) 0 hS (λh' tk kZ c' hk v5 JA=>⟨h',tk,kZ,c',rfl,rfl,λb o e=>hk b o (zzb (zzO e)) (zzB _ e),v5,JA⟩) hn
 unfold collect;refine zzA (wpAny_runValue (codeAny_mono main λres s' hr=>?_));obtain⟨h',tk,kZ,c',rfl,rfl,k1,k2,k3⟩:=hr
 show wpAny _ A (load s.heap.objs.size>>=λz=>_) _ _ _
 exact zzA (wpAny_load k2 (zzG (hQ h' tk kZ k1 k3)))
end
abbrev qa(K:PySem.W.Frag)(H:Hp)(vs:List V)(nss:List (List Int)):Prop:=Paired (λv ns=>∃b,v=V.ref b/\eP K H b (ns.map V.int)/\ns≠[]) vs nss
section
variable{X:Cx}{ae:List (Addr×Obj)}{σ:St}{H:Hp}{s:Shared}{vs:List V}{us:List Value}{nss:List (List Int)}{A:Around}{E:Value->Shared->Prop}{Q:VK}
theorem Eg(I:Inv X ae σ H s):∀{vs:List V} {us:List Value} {nss:List (List Int)},Vals vs us->qa X.K H vs nss->mj s.heap us nss:=by
 intro vs us nss r t
 induction t generalizing us with
 |nil=>cases r;exact .nil
 |cons h t ih=>
  obtain⟨b,rfl,hq,mI⟩:=h
  cases r with
  |cons r1 r2=>
   cases(show _=Value.ref b from r1);obtain⟨ax,rv,⟨o,g1,g2,n,g3⟩,_⟩:=I.tuple hq
   exact .cons ⟨b,o,ax.toArray,n,rfl,g1,g2,g3,by simpa using rv,mI⟩ (ih r2)
theorem A2(r:Vals vs us):Vals (ik V.az vs nss) (ik Value.none us nss):=by
 have hl:=r.length
 unfold ik;rw [hl];split
 ·exact r
 ·have go:∀l:List Nat,Vals (l.map λi=>vs.getD i V.az) (l.map λi=>us.getD i Value.none):=by
   intro l
   induction l with
   |nil=>exact .nil
   |cons i l ih=>
    refine .cons ?_ ih;dsimp only
    by_cases hi:i<vs.length
    ·obtain⟨u,hu,ru⟩:=r.get (zzg hi)
     have e1:vs.getD i V.az=vs[i]:=by simp [hi]
     have e2:us.getD i Value.none=u:=by simp [hu]
     rw [e1,e2];exact ru
    ·have e1:vs.getD i V.az=.az:=by simp [Nat.le_of_not_lt hi]
     have e2:us.getD i Value.none=.none:=by simp [Nat.le_of_not_lt (hl▸hi)]
     rw [e1,e2];exact rfl
  exact go _
theorem Dc{α:Type}{d:α}{l:List α}:(ik d l nss).length=l.length:=by
 unfold ik;split
 ·rfl
 ·rename_i h;rw [zzl,(eQ (by omega) _).length_eq,List.length_range]
theorem iE(I:Inv X ae σ H s)(r:Vals vs us)(rd:2<=us.length->∀h',(∀b o,s.heap.get? b=some o->h'.get? b=some o)->LF X.prog X.w A.in1 E us (λi j=>HT.lexLt (nss.getD i []) (nss.getD j [])) {s with heap:=h'})(CT:vs.length<64)(q:∀p,H p=none->Q (.ref p) (upd H p (.lst (ik V.az vs nss)))):
 wpAny (model X.prog X.w) A (newList us>>=λl=>holding [l] (call (.builtin "list.sort") [l] [])>>=λ_=>ret l) (λfin s'=>∃v,fin=.done (.ret v)/\EP X ae σ Q v s') E s:=by
 have hl:=r.length
 refine zzA (wpAny_newList ?_ (by rw [sizeLine_eq];omega));have Ou:(s.heap.push (seqObj "list" us.toArray 0)).get? s.heap.objs.size=some (seqObj "list" us.toArray 0):=zzX _ rfl
 have kp:∀b o,s.heap.get? b=some o->(s.heap.push (seqObj "list" us.toArray 0)).get? b=some o:=λb o e=>zzB _ e
 refine zzA (wpAny_holding (wpAny_call_entry slot_list_sort ⟨_,Ou,rfl⟩ entry_list_sort ?_ (args_list_sort _)));refine A7 (s:={s with heap:=s.heap.push (seqObj "list" us.toArray 0)}) Ou (by omega) (λh2 h' k=>rd h2 h' λb o e=>k b o (zzb (zzO e)) (kp b o e)) λh' c k e=>⟨_,rfl,zzG ⟨_,rfl,.ref s.heap.objs.size,upd H s.heap.objs.size (.lst (ik V.az vs nss)),?_,rfl,q _ (I.aS.fresh (zzE _))⟩⟩
 exact I.laid (a:=s.heap.objs.size) (t':=s.toks) (λb o z=>k b o (zzb (zzO z)) (kp b o z)) (zzE _) ⟨by rw [Dc,sizeLine_eq];omega,_,c,A2 r,e⟩
theorem si(I:Inv X ae σ H s)(r:Vals vs us)(t:qa X.K H vs nss)(h2:2<=us.length)(h':Heap)(k:∀b o,s.heap.get? b=some o->h'.get? b=some o):LF X.prog X.w A E us (λi j=>HT.lexLt (nss.getD i []) (nss.getD j [])) {s with heap:=h'}:=AB (s:={s with heap:=h'}) ((Eg I r t).keep λb o e _=>k b o e) h2
theorem qk:cg X (.builtin "sorted") (λxs H Q=>∃a vs nss,xs=[V.ref a]/\eF X.K H a vs/\qa X.K H vs nss/\vs.length<64/\∀p,H p=none->Q (.ref p) (upd H p (.lst (ik V.az vs nss)))):=by
 intro ae s σ H xs us Q I r h;obtain⟨a,vs,nss,rfl,hl,t,CT,q⟩:=h
 obtain⟨u,rfl,ru⟩:=vals1 r
 cases ru;obtain⟨ax,rv,p,hz⟩:=I.list hl
 refine Calls.call_function_entry kind_sorted plain_sorted entry_sorted (args_sorted1 _) ?_;unfold Builtin.«sorted»;refine zzA (m:=checkCount "sorted" 1 1 _) (zzG (zzA (collect_list p.isList ?_ (by have:=rv.length;rw [sizeLine_eq];omega))));have I1:=I.kept (t':=s.toks) (h':=(s.heap.push (seqObj "list" #[] 0)).update s.heap.objs.size (Obj.mapSeq (·++ax.toArray))) λb o e=>by
  have bZ:b<s.heap.objs.size:=zzO e
  rw [Heap.get?_update_ne _ _ _ _ (zzb bZ),Heap.get?_push_ne _ _ _ (zzb bZ)];exact e
 exact iE I1 rv (si I1 rv t) CT q
theorem Fn{d:Addr}{aw:List (List Key×V)}(I:Inv X ae σ H s)(e:Rd H d (.dT aw)):(d==sysModules)=false/\∃o es ep,s.heap.get? d=some o/\o.ExactDict/\o.data=.dict es ep/\es.size=aw.length/\∀(i:Nat) (h:i<es.size),∃b k v,es[i].key=.ref b/\aw[i]?=some (k,v)/\H b=some (.tup (k.map kV)):=by
 rcases e with e|⟨o,e⟩
 ·obtain⟨h1,_,h2⟩:=wJ I e
  exact⟨h1,h2⟩
 ·obtain⟨h1,h2,h3,h4⟩:=gA I e
  exact⟨h1,o,let⟨es,ep,r⟩:=h4;⟨es,ep,h2,h3,r⟩⟩
theorem Ao(I:Inv X ae σ H s){a:Addr}{aw:List (List Key×V)}{nss:List (List Int)}{es:Array DictEntry}{acc:Array Value}(hk:aw.map (·.1)=nss.map (·.map .inl))(qS:es.size=aw.length)(xu:∀(i:Nat) (h:i<es.size),∃b k v,es[i].key=.ref b/\aw[i]?=some (k,v)/\H b=some (.tup (k.map kV)))(it:ItemsOf (λi v=>∃h:i<es.size,v=es[i].key) acc es.size):∃vs:List V,Vals vs acc.toList/\Paired (λv ns=>∃b,v=V.ref b/\H b=some (.tup (ns.map V.int))) vs nss:=by
 have hn:nss.length=aw.length:=by have:=congrArg List.length hk;simpa using this.symm
 have hs:acc.toList.length=nss.length:=by rw [zzd,it.1];omega
 have ev:∀(i:Nat) v ns,acc.toList[i]?=some v->nss[i]?=some ns->∃b,v=.ref b/\H b=some (.tup (ns.map V.int)):=λi v ns e1 e2=>by
  obtain⟨hi,ev⟩:=it.2 i v (by rw [<-Array.getElem?_toList];exact e1)
  obtain⟨b,k,x,g1,g2,g3⟩:=xu i hi
  refine⟨b,ev.trans g1,?_⟩;have JB:k=ns.map .inl:=by
   have:=congrArg (λl=>l[i]?) hk
   simp only [zzQ,g2,e2,Option.map_some] at this;exact Option.some.inj this
  rw [g3,JB,List.map_map]
  rfl
 clear it xu hk I
 generalize acc.toList=us at hs ev
 clear hn
 induction nss generalizing us with
 |nil=>cases us with
  |nil=>exact⟨[],.nil,.nil⟩
  |cons u us=>simp at hs
 |cons ns nss ih=>
  cases us with
  |nil=>simp at hs
  |cons u us=>
   obtain⟨vs,h1,h2⟩:=ih us (by simpa using hs) λi v ns e1 e2=>ev (i+1) v ns (by simpa using e1) (by simpa using e2)
   obtain⟨b,rfl,hb⟩:=ev 0 u ns rfl rfl
   exact⟨.ref b::vs,.cons rfl h1,.cons ⟨b,rfl,hb⟩ h2⟩
theorem pT(hc:X.calm=true):cg X (.builtin "sorted") (λxs H Q=>∃a aw nss,xs=[V.ref a]/\Rd H a (.dT aw)/\aw.map (·.1)=nss.map (·.map .inl)/\(∀ns∈nss,ns≠[])/\aw.length<64/\
 ∀p vs,H p=none->Paired (λv ns=>∃b,v=V.ref b/\H b=some (.tup (ns.map V.int))) vs nss->Q (.ref p) (upd H p (.lst (ik V.az vs nss)))):=by
 intro ae s σ H xs us Q I r h;obtain⟨a,aw,nss,rfl,hl,hk,mI,CT,q⟩:=h
 obtain⟨u,rfl,ru⟩:=vals1 r
 cases ru;obtain⟨lo,o,es,ep,h0,hx,h3,qS,xu⟩:=Fn I hl
 refine Calls.call_function_entry kind_sorted plain_sorted entry_sorted (args_sorted1 _) ?_;unfold Builtin.«sorted»;refine zzA (m:=checkCount "sorted" 1 1 _) (zzG (zzA (rb (BP lo hx h3) (show X.A.in1.handled=none from I.ok.hd hc) h0 (by rw [sizeLine_eq];omega) λh' tk acc kp it=>?_)))
 have I1:=I.kept (t':=tk) (h':=h') kp
 obtain⟨vs,rv,pv⟩:=Ao I1 (a:=a) hk qS xu it
 have hlen:vs.length<64:=by have:=Paired.length pv;have h9:=congrArg List.length hk;simp at h9;omega
 refine iE I1 rv (si I1 rv ?_) hlen λp hp=>q p vs hp pv
 clear hlen rv hk CT q
 induction pv with
 |nil=>exact .nil
 |cons h t ih=>
  obtain⟨b,rfl,hb⟩:=h
  exact .cons ⟨b,rfl,.inl (.inl hb),mI _ (.head _)⟩ (ih λns hm=>mI ns (.tail _ hm))
end
end L2
namespace Ci
open PySem L2
theorem aE{p:Prop}(h:false=true):p:=absurd h zzf
inductive PV where
 |az|bl (b:Bool)|int (i:Int)|str (z:Str)
 |tup (xs:List PV)|lst (xs:List PV)
 |exc (c:Str)
 |aX (ks:List (List Int)) (vs:List PV)
 deriving Inhabited
structure Wd where
 K:PySem.W.Frag
 mg:Str->Option Value
 xs:List Str
 ts:List (Addr×Str):=[]
def om(K:PySem.W.Frag)(H:Hp)(a:Addr)(vs:List V):Prop:=
 Rd H a (.lst vs)\/∃(ax:Array Value) (n:Nat),K.lookup a=some {cls:=.type "list",data:=.seq ax n}/\ax.size<=sizeLine/\Vals vs ax.toList
def LR(K:PySem.W.Frag)(G:Hp)(a:Addr)(vs:List V):Prop:=G a=some (.tup vs)\/eP K G a vs/\∃z,V.str z∈vs
theorem LR.sq{K:PySem.W.Frag}{G:Hp}{a:Addr}{vs:List V}:LR K G a vs->eP K G a vs
 |.inl h=>.inl (.inl h)
 |.inr h=>h.1
def kz(ks:List (List Int))(us:List V):List (List Key×V):=(ks.map λk=>k.map Sum.inl).zip us
mutual
def Rep(W:Wd)(G:Hp):PV->V->Prop
 |.az,v=>v=.az
 |.bl b,v=>v=.bl b
 |.int i,v=>v=.int i
 |.str z,v=>v=.str z
 |.tup xs,v=>∃a vs,v=.ref a/\LR W.K G a vs/\ai W G xs vs
 |.lst xs,v=>∃a vs,v=.ref a/\om W.K G a vs/\ai W G xs vs
 |.exc c,v=>∃a C,v=.ref a/\c∈W.xs/\W.mg c=some (.ref C)/\G a=some (Mn a C)
 |.aX ks vs,v=>∃a o us,v=.ref a/\ks.length=us.length/\G a=some (.bK o (.dT (kz ks us)))/\ai W G vs us
def ai(W:Wd)(G:Hp):List PV->List V->Prop
 |[],vs=>vs=[]
 |p::ps,vs=>∃v r,vs=v::r/\Rep W G p v/\ai W G ps r
end
theorem aB.tup{K:PySem.W.Frag}{H H':Hp}{a:Addr}{xs:List V}(e:aB H H')(h:eP K H a xs):eP K H' a xs:=by
 rcases h with(h|⟨o,h⟩)|h
 ·exact .inl (.inl (e _ _ h))
 ·exact .inl (.inr ⟨o,e _ _ h⟩)
 ·exact .inr h
theorem aB.tp{K:PySem.W.Frag}{H H':Hp}{a:Addr}{xs:List V}(e:aB H H')(h:LR K H a xs):LR K H' a xs:=h.elim (λz=>.inl (e _ _ z)) λz=>.inr ⟨aB.tup e z.1,z.2⟩
theorem aB.rd{H H':Hp}{a:Addr}{u:HO}(e:aB H H')(h:Rd H a u):Rd H' a u:=by
 rcases h with h|⟨o,h⟩
 ·exact .inl (e _ _ h)
 ·exact .inr ⟨o,e _ _ h⟩
theorem aB.ls{K:PySem.W.Frag}{H H':Hp}{a:Addr}{vs:List V}(e:aB H H')(h:om K H a vs):om K H' a vs:=h.elim (λz=>.inl (aB.rd e z)) .inr
section
variable{W:Wd}{G G':Hp}
mutual
theorem Rep.same(s:aB G G'):∀(p:PV) {v:V},Rep W G p v->Rep W G' p v
 |.az,_,h=>by simpa only [Rep] using h
 |.bl b,_,h=>by simpa only [Rep] using h
 |.int i,_,h=>by simpa only [Rep] using h
 |.str z,_,h=>by simpa only [Rep] using h
 |.tup xs,_,h=>by
  simp only [Rep] at h⊢;obtain⟨a,vs,e,q,l⟩:=h
  exact⟨a,vs,e,aB.tp s q,ai.same s xs l⟩
 |.lst xs,_,h=>by
  simp only [Rep] at h⊢;obtain⟨a,vs,e,q,l⟩:=h
  exact⟨a,vs,e,aB.ls s q,ai.same s xs l⟩
 |.exc c,_,h=>by
  simp only [Rep] at h⊢;obtain⟨a,C,e,x,m,q⟩:=h
  exact⟨a,C,e,x,m,s _ _ q⟩
 |.aX ks vs,_,h=>by
  simp only [Rep] at h⊢;obtain⟨a,o,us,e,n,m,l⟩:=h
  exact⟨a,o,us,e,n,s _ _ m,ai.same s vs l⟩
theorem ai.same(s:aB G G'):∀(ps:List PV) {vs:List V},ai W G ps vs->ai W G' ps vs
 |[],_,h=>by simpa only [ai] using h
 |p::ps,_,h=>by
  simp only [ai] at h⊢;obtain⟨v,r,e,h1,h2⟩:=h
  exact⟨v,r,e,Rep.same s p h1,ai.same s ps h2⟩
end
theorem ai.paired:∀{ps:List PV} {vs:List V},ai W G ps vs->Paired (λv p=>Rep W G p v) vs ps
 |[],_,h=>by simp only [ai] at h;subst h;exact .nil
 |p::ps,_,h=>by
  simp only [ai] at h;obtain⟨v,r,rfl,h1,h2⟩:=h
  exact .cons h1 (ai.paired h2)
theorem ai.length{ps:List PV}{vs:List V}(h:ai W G ps vs):vs.length=ps.length:=m8 h.paired
theorem ai.nil:ai W G [] []:=by simp only [ai]
theorem ai.cons{p:PV}{v:V}{ps:List PV}{vs:List V}(h:Rep W G p v)(t:ai W G ps vs):ai W G (p::ps) (v::vs):=by simp only [ai];exact⟨_,_,rfl,h,t⟩
theorem ai.aW{p:PV}{ps:List PV}{vs:List V}(h:ai W G (p::ps) vs):∃v r,vs=v::r/\Rep W G p v/\ai W G ps r:=by simpa only [ai] using h
theorem ai.append:∀{ps qs:List PV} {vs us:List V},ai W G ps vs->ai W G qs us->ai W G (ps++qs) (vs++us)
 |[],_,_,_,h,k=>by simp only [ai] at h;subst h;exact k
 |p::ps,_,_,_,h,k=>by
  obtain⟨v,r,rfl,h1,h2⟩:=h.aW
  exact .cons h1 (h2.append k)
theorem ai.get:∀{ps:List PV} {vs:List V} {i:Nat} {v:V},ai W G ps vs->vs[i]?=some v->∃p,ps[i]?=some p/\Rep W G p v:=λh e=>ox h.paired e
theorem ai.jW:∀{ps:List PV} {vs:List V} {i:Nat} {p:PV},ai W G ps vs->ps[i]?=some p->∃v,vs[i]?=some v/\Rep W G p v
 |[],_,_,_,_,e=>by simp at e
 |p::ps,_,0,q,h,e=>by
  obtain⟨v,r,rfl,h1,h2⟩:=h.aW
  simp at e;subst e;exact⟨v,rfl,h1⟩
 |p::ps,_,i+1,q,h,e=>by
  obtain⟨v,r,rfl,h1,h2⟩:=h.aW
  obtain⟨u,e1,k⟩:=h2.jW (i:=i) (by simpa using e)
  exact⟨u,by simpa using e1,k⟩
theorem ai.drop:∀{ps:List PV} {vs:List V} (n:Nat),ai W G ps vs->ai W G (ps.drop n) (vs.drop n)
 |_,_,0,h=>by simpa using h
 |[],_,n+1,h=>by simp only [ai] at h;subst h;simp only [List.drop_nil];exact .nil
 |p::ps,_,n+1,h=>by
  obtain⟨v,r,rfl,h1,h2⟩:=h.aW
  simpa using h2.drop n
theorem ai.take:∀{ps:List PV} {vs:List V} (n:Nat),ai W G ps vs->ai W G (ps.take n) (vs.take n)
 |_,_,0,h=>by simp only [List.take_zero];exact .nil
 |[],_,n+1,h=>by simp only [ai] at h;subst h;simp only [List.take_nil];exact .nil
 |p::ps,_,n+1,h=>by
  obtain⟨v,r,rfl,h1,h2⟩:=h.aW
  simp only [List.take_succ_cons];exact .cons h1 (h2.take n)
end
def hJ(H H':Hp):Prop:=∀b o,H b=some o->(∀ps,o≠.fX ps)/\H' b=some o\/∃ps m,o=.fX ps/\H' b=some (.fX (ps++m))
theorem hJ.refl(H:Hp):hJ H H:=λb o h=>by
 cases o with
 |fX ps=>exact .inr ⟨ps,#[],rfl,by simpa using h⟩
 |_=>exact .inl ⟨(λ_ z=>nomatch z),h⟩
theorem hJ.trans{H H1 H2:Hp}(a:hJ H H1)(b:hJ H1 H2):hJ H H2:=λc o h=>by
 rcases a c o h with⟨n,e⟩|⟨ps,m,rfl,e⟩
 ·rcases b c o e with y|⟨ps,m,rfl,e2⟩
  ·exact .inl y
  ·exact absurd rfl (n ps)
 ·rcases b c _ e with⟨n,_⟩|⟨q8,m',e2,e3⟩
  ·exact absurd rfl (n _)
  ·cases e2;exact .inr ⟨ps,m++m',rfl,by rw [e3,Array.append_assoc]⟩
theorem hJ.free{H H':Hp}(e:hJ H H'){l:Addr}(h:H' l=Option.none):H l=Option.none:=by
 cases q:H l with
 |none=>rfl
 |some o=>
  rcases e l o q with⟨_,z⟩|⟨_,_,_,z⟩
  ·rw [h] at z;cases z
  ·rw [h] at z;cases z
theorem hJ.at{H H':Hp}(e:hJ H H'){b:Addr}{o:HO}(h:H b=some o)(n:∀ps,o≠.fX ps):H' b=some o:=by
 rcases e b o h with⟨_,z⟩|⟨ps,_,rfl,_⟩
 ·exact z
 ·exact absurd rfl (n ps)
theorem hJ.wV{H H':Hp}(e:hJ H H'){b:Addr}(h:H b≠none)(n:∀vs,H b≠some (.tup vs)):∀vs,H' b≠some (.tup vs):=λvs z=>by
 cases q:H b with
 |none=>exact h q
 |some o=>
  rcases e b o q with⟨_,y⟩|⟨_,_,_,y⟩
  ·rw [z] at y;cases y;exact n vs q
  ·rw [z] at y;cases y
theorem hJ.of{H H':Hp}(e:aB H H'):hJ H H':=λb o h=>by
 cases o with
 |fX ps=>exact .inr ⟨ps,#[],rfl,by simpa using e _ _ h⟩
 |_=>exact .inl ⟨(λ_ z=>nomatch z),e _ _ h⟩
theorem hJ.tup{K:PySem.W.Frag}{H H':Hp}{a:Addr}{xs:List V}(e:hJ H H')(h:eP K H a xs):eP K H' a xs:=by
 rcases h with(h|⟨o,h⟩)|h
 ·exact .inl (.inl (e.at h (λ_ z=>nomatch z)))
 ·exact .inl (.inr ⟨o,e.at h (λ_ z=>nomatch z)⟩)
 ·exact .inr h
theorem hJ.ls{K:PySem.W.Frag}{H H':Hp}{a:Addr}{vs:List V}(e:hJ H H')(h:om K H a vs):om K H' a vs:=by
 rcases h with(h|⟨o,h⟩)|h
 ·exact .inl (.inl (e.at h (λ_ z=>nomatch z)))
 ·exact .inl (.inr ⟨o,e.at h (λ_ z=>nomatch z)⟩)
 ·exact .inr h
def cU(W:Wd)(G H:Hp):Prop:=∀P q,(P,q)∈W.ts->G P=none/\∃ps,H P=some (.fX ps)/\TriplesOk ps.toList/\
 ∀pos cv,codeAmong pos ps.toList=some cv->∃c' oc dq t,cv=.ref c'/\G c'=some (.bK oc bT)/\oc.data=.fields dq/\dq[1]?=some (.str q t)
theorem cU.same{W:Wd}{G G' H H':Hp}(t:cU W G H)(g:aB G G')(own:∀a,H a≠none->(∀vs,H a≠some (.tup vs))->G a=none->G' a=none)(h:∀P ps,H P=some (.fX ps)->H' P=some (.fX ps)):cU W G' H':=λP q m=>by
 obtain⟨n,ps,e,tr,al⟩:=t P q m
 refine⟨own P (by rw [e];exact λz=>nomatch z) (by rw [e];exact λ_ z=>nomatch z) n,ps,h P ps e,tr,λpos cv y=>?_⟩
 obtain⟨c',oc,dq,t,e1,e2,e3,e4⟩:=al pos cv y
 exact⟨c',oc,dq,t,e1,g _ _ e2,e3,e4⟩
structure aG(W:Wd)(G H G' H':Hp):Prop where
 g:aB G G'
 h:hJ H H'
 sub:aB G' H'
 own:∀a,H a≠none->(∀vs,H a≠some (.tup vs))->G a=none->G' a=none
 tab:cU W G H->cU W G' H'
section
variable{W:Wd}
theorem aG.refl{G H:Hp}(s:aB G H):aG W G H G H:=⟨aB.refl _,hJ.refl _,s,λ_ _ _ h=>h,id⟩
theorem aG.trans{G H G1 H1 G2 H2:Hp}(a:aG W G H G1 H1)(b:aG W G1 H1 G2 H2):aG W G H G2 H2:=
 ⟨a.g.trans b.g,a.h.trans b.h,b.sub,λx hx ht hg=>b.own x (λz=>hx (a.h.free z)) (a.h.wV hx ht) (a.own x hx ht hg),λt=>b.tab (a.tab t)⟩
theorem qr{H:Hp}{p:Addr}{o:HO}(h:∀ps,H p≠some (.fX ps))(P:Addr)(ps:Array Value)(e:H P=some (.fX ps)):upd H p o P=some (.fX ps):=by
 rw [af (λz=>by subst z;exact h ps e)];exact e
theorem aG.new{G H:Hp}{p:Addr}{o:HO}(s:aB G H)(h:H p=none):aG W G H (upd G p o) (upd H p o) where
 g:=bx (s.free h)
 h:=.of (bx h)
 sub:=λb u e=>by
  by_cases hb:b=p
  ·subst hb;rw [aq] at e⊢;exact e
  ·rw [af hb] at e⊢;exact s _ _ e
 own:=λa ha _ hg=>by
  have:a≠p:=λz=>by subst z;exact ha h
  rw [af this];exact hg
 tab:=λt=>t.same (bx (s.free h)) (λa ha _ hg=>by
  have:a≠p:=λz=>by subst z;exact ha h
  rw [af this];exact hg) (qr (λps z=>by rw [h] at z;cases z))
theorem aG.adopt{G H:Hp}{b:Addr}{vs:List V}(s:aB G H)(h:H b=some (.tup vs)):aG W G H (upd G b (.tup vs)) H:=by
 have sm:aB G (upd G b (.tup vs)):=λc u e=>by
  by_cases hc:c=b
  ·subst hc;rw [aq];have:=s _ _ e;rw [h] at this;exact this
  ·rw [af hc];exact e
 have ow:∀a,H a≠none->(∀vs,H a≠some (.tup vs))->G a=none->upd G b (.tup vs) a=none:=λa _ n e=>by
  have:a≠b:=λz=>by subst z;exact n vs h
  rw [af this];exact e
 exact⟨sm,hJ.refl _,λc u e=>by
  by_cases hc:c=b
  ·subst hc;rw [aq] at e;cases e;exact h
  ·rw [af hc] at e;exact s _ _ e,ow,λt=>t.same sm ow λ_ _ e=>e⟩
theorem aG.QH{G H:Hp}{p:Addr}{o:HO}(s:aB G H)(h:H p=none):aG W G H G (upd H p o):=
 ⟨aB.refl _,.of (bx h),s.trans (bx h),λ_ _ _ hg=>hg,λt=>t.same (aB.refl _) (λ_ _ _ h=>h) (qr (λps z=>by rw [h] at z;cases z))⟩
end
def bu(scope:Scope):List Str:=((scope.names.filter λp=>p.2==.free).map (·.1)).reverse
def okN(x:Str):Bool:=!(x=="__debug__")&&!(x=="__classdict__")&&!(x=="__name__")
def gv(x:Str):Bool:=x.cps.toList.contains 64
theorem iP{α:Type}{a:α}{p:Prop}(h:(none:Option α)=some a):p:=nomatch h
theorem A3{α:Type}{o:Option α}{f:α->Bool}(h:o.any f=true):∃x,o=some x/\f x=true:=by
 cases o with
 |none=>cases h
 |some x=>exact⟨x,rfl,h⟩
def fH:Expr->Option Str
 |.Name x _=>some x
 |_=>none
theorem cO{e:Expr}{x:Str}(h:fH e=some x):∃p,e=.Name x p:=by
 cases e with
 |Name y p=>cases h;exact⟨_,rfl⟩
 |_=>exact iP h
def L4:Expr->Option (Expr×List Expr×List Keyword×Pos)
 |.Call f a k p=>some (f,a,k,p)
 |_=>none
theorem mY{e:Expr}{q:Expr×List Expr×List Keyword×Pos}(h:L4 e=some q):e=.Call q.1 q.2.1 q.2.2.1 q.2.2.2:=by
 cases e with
 |Call f a k p=>cases h;rfl
 |_=>exact iP h
def Rf:List Arg->Option (List Str)
 |[]=>some []
 |[a]=>some [a.arg]
 |_=>none
noncomputable def qt(p:Arguments):Option (List Str):=if(p.posonlyargs.isEmpty&&p.vararg.isNone&&p.kwonlyargs.isEmpty&&p.kw_defaults.isEmpty&&p.kwarg.isNone&&p.defaults.isEmpty)=true then Rf p.args else none
theorem vS{p:Arguments}{ps:List Str}(h:qt p=some ps):(p=⟨[],[],none,[],[],none,[]⟩/\ps=[])\/∃a,p=⟨[],[a],none,[],[],none,[]⟩/\ps=[a.arg]:=by
 obtain⟨a,b,c,d,e,f,g⟩:=p
 unfold qt at h;split at h
 ·rename_i q;simp only [zza,List.isEmpty_iff,Option.isNone_iff_eq_none] at q;obtain⟨⟨⟨⟨⟨q1,q2⟩,q3⟩,q4⟩,q5⟩,q6⟩:=q
  subst q1 q2 q3 q4 q5 q6;cases b with
  |nil=>cases h;exact .inl ⟨rfl,rfl⟩
  |cons a b=>
   cases b with
   |nil=>cases h;exact .inr ⟨a,rfl,rfl⟩
   |cons _ _=>exact iP h
 ·exact iP h
def ff:List Expr->List (Option Str)->Bool
 |[],[]=>true
 |.Name x _::r,some y::t=>x==y&&okN x&&ff r t
 |_,_=>false
noncomputable def OX(ps:List Str)(scope:Scope):Bool:=
 scope.kind==.function&&!scope.isCoroutine&&!scope.isGenerator&&decide ((ps++bu scope).Nodup)&&(scope.names.all λy=>decide (y.2≠.cell))&&(ps.all λx=>decide (scope.names.lookup x=some .local))&&((bu scope).all λx=>decide (scope.names.lookup x=some .free))
noncomputable def ED(g:Str)(idx:List Nat)(params:Arguments)(body:Expr)(scope:Scope):Bool:=(qt params).any λps=>(L4 body).any λq=>fH q.1==some g&&q.2.2.1.isEmpty&&!q.2.1.isEmpty&&decide (idx.head?=some ps.length)&&scope.names.lookup g==some .globalImplicit&&okN g&&!gv g&&ff q.2.1 (idx.tail.map λi=>(ps++bu scope)[i]?)&&OX ps scope
structure Qu(W:Wd)(G:Hp)(g:Str)(idx:List Nat)(cZ:List PV)(f c':Addr)(oc:Obj)(dq:Array Value)(t:Tok)(fJ pm:Value)(params:Arguments)(body:Expr)(scope:Scope)(qual:Str)(cl:List (Str×Addr))(Z:List (Addr×Obj))(ws:List V):Prop where
 lg:ED g idx params body scope=true
 fo:G f=some (.bK (PySem.W.kla_obj "<lambda>" qual params body scope cl pm c' fJ) bT)
 co:G c'=some (.bK oc bT)
 cd:oc.data=.fields dq
 cn:dq[1]?=some (.str qual t)
 fz:Z.lookup f=none
 cz:Z.lookup c'=none
 inj:∀x y c,cl.lookup x=some c->cl.lookup y=some c->x=y
 has:∀y∈bu scope,∃c,cl.lookup y=some c
 cells:∀x c,cl.lookup x=some c->∃o v,Z.lookup c=some o/\o.data=.cell v
 zs:∀b o,Z.lookup b=some o->G b=some (.bK o bT)
 zc:∀b o,Z.lookup b=some o->∃v,o.data=.cell v
 vals:∀(i:Nat) y c,(bu scope)[i]?=some y->cl.lookup y=some c->∀v,ws[i]?=some v->∃u o,RelV v u/\Z.lookup c=some o/\o.data=.cell (some u)
 len:ws.length=(bu scope).length
 rep:ai W (bp Z G) cZ ws
def qg(W:Wd)(G:Hp)(g:Str)(idx:List Nat)(cZ:List PV)(v:V):Prop:=∃f c' oc dq t fJ pm params body scope qual cl Z ws,v=.ref f/\Qu W G g idx cZ f c' oc dq t fJ pm params body scope qual cl Z ws
theorem pq{Z:List (Addr×Obj)}{G G':Hp}(s:aB G G'):aB (bp Z G) (bp Z G'):=λb u e=>by
 obtain⟨q,e1⟩:=er e
 rw [aA q];exact s _ _ e1
theorem qg.same{W:Wd}{G G':Hp}{g:Str}{idx:List Nat}{cZ:List PV}{v:V}(s:aB G G')(h:qg W G g idx cZ v):qg W G' g idx cZ v:=by
 obtain⟨f,c',oc,dq,t,fJ,pm,params,body,scope,qual,cl,Z,ws,e,d⟩:=h
 exact⟨f,c',oc,dq,t,fJ,pm,params,body,scope,qual,cl,Z,ws,e,⟨d.lg,s _ _ d.fo,s _ _ d.co,d.cd,d.cn,d.fz,d.cz,d.inj,d.has,d.cells,λb o q=>s _ _ (d.zs b o q),d.zc,d.vals,d.len,ai.same (pq s) cZ d.rep⟩⟩
inductive Slot where
 |no|val (p:PV)|own (p:PV)|fn (g:Str) (idx:List Nat) (cZ:List PV)
 deriving Inhabited
abbrev Sl:=List Slot
def Own(W:Wd)(H0 G H:Hp):PV->V->Prop
 |.lst xs,v=>∃a vs,v=.ref a/\H a=some (.lst vs)/\G a=none/\H0 a=none/\ai W G xs vs
 |.aX ks ps,v=>∃a us,v=.ref a/\ks.length=us.length/\H a=some (.dT (kz ks us))/\G a=none/\H0 a=none/\ai W G ps us
 |_,_=>False
def Top(W:Wd)(H0 G H:Hp)(p:PV)(v:V):Prop:=Rep W G p v\/Own W H0 G H p v
def GK(W:Wd)(H0 G H:Hp):Slot->Option V->Prop
 |.no,_=>True
 |.val p,o=>∃v,o=some v/\Rep W G p v
 |.own p,o=>∃v,o=some v/\Own W H0 G H p v
 |.fn g idx cZ,o=>∃v,o=some v/\qg W G g idx cZ v
structure SR(W:Wd)(H0:Hp)(env:Sl)(σ:St)(G H:Hp):Prop where
 len:env.length=σ.length
 sub:aB G H
 base:hJ H0 H
 slot:∀(i:Nat) (s:Slot),env[i]?=some s->∃o,σ[i]?=some o/\GK W H0 G H s o
 apart:∀(i j:Nat) (p q:PV) (a:Addr),env[i]?=some (.own p)->env[j]?=some (.own q)->σ[i]?=some (some (.ref a))->σ[j]?=some (some (.ref a))->i=j
 tab:cU W G H
 nW:cU W G H0
section
variable{W:Wd}{H0 G H G' H':Hp}{env:Sl}{σ:St}
theorem Own.grow(g:aG W G H G' H'):∀{p:PV} {v:V},Own W H0 G H p v->Own W H0 G' H' p v
 |.lst xs,_,h=>by
  obtain⟨a,vs,e,h1,h2,h3,l⟩:=h
  exact⟨a,vs,e,g.h.at h1 (λ_ z=>nomatch z),g.own a (by rw [h1];exact λz=>by cases z) (by rw [h1];exact λ_ z=>by cases z) h2,h3,ai.same g.g xs l⟩
 |.aX ks ps,_,h=>by
  obtain⟨a,vs,e,n,h1,h2,h3,l⟩:=h
  exact⟨a,vs,e,n,g.h.at h1 (λ_ z=>nomatch z),g.own a (by rw [h1];exact λz=>by cases z) (by rw [h1];exact λ_ z=>by cases z) h2,h3,ai.same g.g ps l⟩
 |.az,_,h=>h|.bl _,_,h=>h|.int _,_,h=>h|.str _,_,h=>h|.tup _,_,h=>h|.exc _,_,h=>h
theorem GK.grow(g:aG W G H G' H'):∀{s:Slot} {o:Option V},GK W H0 G H s o->GK W H0 G' H' s o
 |.no,_,_=>trivial
 |.val p,_,h=>by obtain⟨v,e,r⟩:=h;exact⟨v,e,Rep.same g.g p r⟩
 |.own p,_,h=>by obtain⟨v,e,r⟩:=h;exact⟨v,e,r.grow g⟩
 |.fn _ _ _,_,h=>by obtain⟨v,e,r⟩:=h;exact⟨v,e,r.same g.g⟩
theorem SR.grow(r:SR W H0 env σ G H)(g:aG W G H G' H'):SR W H0 env σ G' H':=
 ⟨r.len,g.sub,r.base.trans g.h,λi s e=>by obtain⟨o,h1,h2⟩:=r.slot i s e;exact⟨o,h1,h2.grow g⟩,r.apart,g.tab r.tab,r.nW.same g.g (λa h1 h3 h2=>g.own a (λz=>h1 (r.base.free z)) (r.base.wV h1 h3) h2) λ_ _ h=>h⟩
theorem Top.grow{p:PV}{v:V}(g:aG W G H G' H')(h:Top W H0 G H p v):Top W H0 G' H' p v:=h.elim (λz=>.inl (Rep.same g.g p z)) λz=>.inr (z.grow g)
theorem Top.lst{xs:List PV}{v:V}(s:aB G H)(h:Top W H0 G H (.lst xs) v):∃a vs,v=.ref a/\om W.K H a vs/\ai W G xs vs:=by
 rcases h with h|h
 ·simp only [Rep] at h;obtain⟨a,vs,e,q,l⟩:=h
  exact⟨a,vs,e,aB.ls s q,l⟩
 ·obtain⟨a,vs,e,h1,_,_,l⟩:=h
  exact⟨a,vs,e,.inl (.inl h1),l⟩
theorem Top.tup{xs:List PV}{v:V}(s:aB G H)(h:Top W H0 G H (.tup xs) v):∃a vs,v=.ref a/\eP W.K H a vs/\ai W G xs vs:=by
 rcases h with h|h
 ·simp only [Rep] at h;obtain⟨a,vs,e,q,l⟩:=h
  exact⟨a,vs,e,aB.tup s q.sq,l⟩
 ·exact h.elim
theorem Top.tupI{xs:List PV}{v:V}{ns:List Int}(s:aB G H)(hx:xs=ns.map .int)(h:Top W H0 G H (.tup xs) v):∃a,v=.ref a/\G a=some (.tup (ns.map V.int)):=by
 rcases h with h|h
 ·simp only [Rep] at h;obtain⟨a,vs,e,q,l⟩:=h
  have ev:vs=ns.map V.int:=by
   subst hx
   clear q e
   induction ns generalizing vs with
   |nil=>simp only [List.map_nil,ai] at l;exact l
   |cons n ns ih=>
    obtain⟨u,r,rfl,h1,h2⟩:=l.aW
    simp only [Rep] at h1;rw [h1,ih r h2]
    rfl
  subst ev;rcases q with q|⟨_,z,hz⟩
  ·exact⟨a,e,q⟩
  ·obtain⟨n,_,hn⟩:=List.mem_map.mp hz
   cases hn
 ·exact h.elim
theorem Top.aX{ks:List (List Int)}{ps:List PV}{v:V}(s:aB G H)(h:Top W H0 G H (.aX ks ps) v):∃a us,v=.ref a/\ks.length=us.length/\Rd H a (.dT (kz ks us))/\ai W G ps us:=by
 rcases h with h|h
 ·simp only [Rep] at h;obtain⟨a,o,us,e,n,q,l⟩:=h
  exact⟨a,us,e,n,.inr ⟨o,s _ _ q⟩,l⟩
 ·obtain⟨a,vs,e,n,q,_,_,l⟩:=h
  exact⟨a,vs,e,n,.inl q,l⟩
theorem Top.int{i:Int}{v:V}(h:Top W H0 G H (.int i) v):v=.int i:=h.elim (λz=>by simpa only [Rep] using z) λz=>z.elim
theorem Top.bl{b:Bool}{v:V}(h:Top W H0 G H (.bl b) v):v=.bl b:=h.elim (λz=>by simpa only [Rep] using z) λz=>z.elim
theorem Top.str{b:Str}{v:V}(h:Top W H0 G H (.str b) v):v=.str b:=h.elim (λz=>by simpa only [Rep] using z) λz=>z.elim
theorem Top.az{v:V}(h:Top W H0 G H .az v):v=.az:=h.elim (λz=>by simpa only [Rep] using z) λz=>z.elim
theorem Rep.i{i:Int}:Rep W G (.int i) (.int i):=by simp only [Rep]
theorem Rep.b{i:Bool}:Rep W G (.bl i) (.bl i):=by simp only [Rep]
theorem Rep.s{i:Str}:Rep W G (.str i) (.str i):=by simp only [Rep]
theorem Rep.n:Rep W G .az .az:=by simp only [Rep]
theorem Rep.l{a:Addr}{xs:List PV}{vs:List V}(h:om W.K G a vs)(l:ai W G xs vs):Rep W G (.lst xs) (.ref a):=by simp only [Rep];exact⟨a,vs,rfl,h,l⟩
theorem Rep.t{a:Addr}{xs:List PV}{vs:List V}(h:LR W.K G a vs)(l:ai W G xs vs):Rep W G (.tup xs) (.ref a):=by simp only [Rep];exact⟨a,vs,rfl,h,l⟩
end
end Ci
namespace L2
open PySem PySem.Spec PyProof.Rows
end L2
namespace HT
open PySem PySem.Spec PyProof.Rows
section
variable{prog:Program}{w:World}{A:Around}{E:Value->Shared->Prop}{s:Shared}
theorem sD{sl:Addr}{vk:Value}{n:Nat}{Q:Int×Int×Nat->Shared->Prop}(hs:s.heap.IsSliceOf sl .none .none vk)(pk:IsPart vk (some (-1)))
 (h:Q ((n:Int)-1, -1,n) s):wpAny (model prog w) A (Builtin.Slice.sliceApplied (.ref sl) (pure (n:Int))) Q E s:=by
 obtain⟨os,hos,hcs,hds⟩:=id hs
 unfold Builtin.Slice.sliceApplied Builtin.Slice.sliceFields;refine zzA (zzA (wpAny_field hos hds (x:=.none) rfl (zzA (wpAny_field hos hds (x:=.none) rfl (zzA (wpAny_field hos hds (x:=vk) rfl (zzG ?_)))))));refine zzA (uq pk ?_);show wpAny _ _ (if((-1:Int)==0)=true then _ else _) _ _ s;rw [if_neg (by decide)];refine zzA (slicePart_none (zzA (slicePart_none (zzA (zzG ?_)))));show wpAny _ _ (pure ((n:Int)-1,(-1:Int),Builtin.Slice.slicePlaces ((n:Int)-1) (-1) (-1))) _ _ s;have e:Builtin.Slice.slicePlaces ((n:Int)-1) (-1) (-1)=n:=by
  unfold Builtin.Slice.slicePlaces;rw [if_neg (by decide)];split
  ·have:((n:Int)-1 - -1-1)/(- -1)+1=n:=by rw [show(- -1:Int)=1 from rfl,Int.ediv_one];omega
   rw [this];omega
  ·omega
 rw [e];exact zzG h
theorem tJ{α β:Type}{f g:α->Option β}:∀(l:List α),(∀m∈l,f m=g m)->l.filterMap f=l.filterMap g
 |[],_=>rfl
 |a::l,h=>by
  rw [List.filterMap_cons,List.filterMap_cons,h a (zzP ..),tJ l λm hm=>h m (zzI _ hm)]
theorem zH(xs:Array Value):((List.range xs.size).filterMap λ(m:Nat)=>xs[((xs.size:Int)-1+(m:Int)*(-1)).toNat]?).toArray=xs.toList.reverse.toArray:=by
 congr 1
 refine List.ext_getElem? λi=>?_
 have key:∀k,k<=xs.size->(List.range k).filterMap (λ(m:Nat)=>xs[((xs.size:Int)-1+(m:Int)*(-1)).toNat]?)=(List.range k).filterMap λm=>xs.toList.reverse[m]?:=λk hk=>by
  refine tJ _ λm hm=>?_
  have:=List.mem_range.1 hm
  rw [List.getElem?_reverse (by simpa using (by omega:m<xs.size)),Array.getElem?_toList,zzd]
  congr 1
  omega
 rw [key _ (zzE _)];have:∀l:List Value,(List.range l.length).filterMap (λm=>l[m]?)=l:=λl=>by
  have:=PySem.W.krv_all l.toArray
  simpa using this
 have:=this xs.toList.reverse
 rw [List.length_reverse,zzd] at this;rw [this]
theorem iY{t sl:Addr}{items:Array Value}{vk:Value}{Q:Value->Shared->Prop}(ht:IsTup s.heap t items)(hs:s.heap.IsSliceOf sl .none .none vk)(pk:IsPart vk (some (-1)))
 (h:Q (.ref s.heap.objs.size) {s with heap:=s.heap.push {cls:=.type "tuple",data:=.seq items.toList.reverse.toArray}})
 (hsz:items.size<=sizeLine):wpAny (model prog w) A (getItem (.ref t) (.ref sl)) Q E s:=by
 have Ha:sizeOk (.seq items.toList.reverse.toArray):=by
  show items.toList.reverse.toArray.size<=sizeLine
  rw [zzC,List.length_reverse,zzd];exact hsz
 obtain⟨os,hos,hcs,hds⟩:=id hs
 have UX:s.TypeIs (.ref sl) "slice":=⟨os,hos,hcs⟩
 unfold getItem
 try with_reducible refine wpAny_holding ?_
 first|refine zzA (zzG ?_)|skip
 refine zzA (wpAny_sequenceKey ht.typeIs (by decide) ?_);refine zzA (wpAny_callSpecial?_slot (name:=Str.ofString "__getitem__") ht.typeIs PyProof.Rows.slot_tuple_getitem
  (wpAny_call_entry PyProof.Rows.slot_tuple_getitem ht.typeIs entry_tuple_getitem ?_ (args_tuple_getitem _ _)))
 show wpAny _ _ (Builtin.Tuple.tupleItemsOf (.ref t)>>=_) _ _ s
 refine zzA (tupleItemsOf_ ht ?_);refine zzA (wpAny_typeOf UX ?_);rw [if_pos (by decide)];refine zzA (sD hs pk ?_);have UG:¬((((items.size:Int)-1)==0&&(-1:Int)==1&&items.size==items.size)=true):=by
  intro q;rw [zza,zza] at q;exact absurd q.1.2 (by decide)
 show wpAny _ _ (if(((items.size:Int)-1)==0&&(-1:Int)==1&&items.size==items.size)=true then _ else _) _ _ s
 rw [if_neg UG,zH]
 first
  |exact zzA (m:=Builtin.Tuple.tupleExact _) (wpAny_newObj_type (zzG ⟨_,rfl,zzG h⟩) Ha)
  |exact zzA (m:=Builtin.Tuple.tupleExact _) (wpAny_newObj_type (zzA (zzG (zzG ⟨_,rfl,zzG h⟩))) Ha)
end
end HT
namespace L2
open PySem PySem.Spec PyProof.Rows
def qy(z:Str):Str:=⟨z.cps.toList.reverse.toArray⟩
theorem D1(n:Nat):Builtin.Str.strSliceIndices none none (-1) n=(List.range n).map λk=>n-1-k:=by
 show sliceRange ((n:Int)-1) (-1) (-1)=_
 exact PySem.W.krv_sliceRange n
theorem ou{vs:List V}{us:List Value}(r:Vals vs us):Vals vs.reverse us.reverse:=by
 induction r with
 |nil=>exact .nil
 |cons h t ih=>
  rw [List.reverse_cons,List.reverse_cons];exact ih.append (.cons h .nil)
section
variable{X:Cx}{e st:Expr}{te ts:TE}{pos p2:Pos}
def CS(X:Cx)(r:V->Hp->VK->Prop):Prop:=
 ∀(ae:List (Addr×Obj)) (s:Shared) (σ:St) (H:Hp) (x:V) (v vk:Value) (sl:Addr) (Q:VK),Inv X ae σ H s->RelV x v->s.heap.IsSliceOf sl .none .none vk->IsPart vk (some (-1))->r x H Q->
  ∃T id,typeLookup (.type T) "__getitem__"=pure (some (.builtin id))/\s.TypeIs v T/\wpAny (model X.prog X.w) X.A (getItem v (.ref sl)) (EP X ae σ Q) X.xe s
theorem CS.or{r r':V->Hp->VK->Prop}(h:CS X r)(h':CS X r'):CS X (λx H Q=>r x H Q\/r' x H Q):=by
 intro ae s σ H x v vk sl Q I rx hs pk q;rcases q with q|q
 ·exact h ae s σ H x v vk sl Q I rx hs pk q
 ·exact h' ae s σ H x v vk sl Q I rx hs pk q
theorem IA:CS X (λx H Q=>∃a xs,x=.ref a/\eP X.K H a xs/\∀p,H p=none->Q (.ref p) (upd H p (.tup xs.reverse))):=by
 intro ae s σ H x v vk sl Q I rx hs pk h;obtain⟨a,xs,rfl,hx,q⟩:=h
 cases rx;obtain⟨ax,r,ht,hz⟩:=I.tuple hx
 have hlen:ax.toArray.size=xs.length:=by rw [zzC];exact r.length.symm
 refine⟨"tuple",_,PyProof.Rows.slot_tuple_getitem.lookup,ht.typeIs,HT.iY ht hs pk ?_ (by rw [hlen];exact hz)⟩;refine⟨.ref s.heap.objs.size,_,I.laid (t':=s.toks) (o:=.tup xs.reverse) (λb ob q=>zzB _ q) (zzE _) ?_,rfl,q _ (I.aS.fresh (zzE _))⟩;exact⟨by rw [List.length_reverse];exact hz,_,ou r,IsTup.new _ _⟩
theorem J9:CS X (λx H Q=>∃a xs,x=.ref a/\eF X.K H a xs/\∀p,H p=none->Q (.ref p) (upd H p (.lst xs.reverse))):=by
 intro ae s σ H x v vk sl Q I rx hs pk h;obtain⟨a,xs,rfl,hx,q⟩:=h
 cases rx;obtain⟨ax,r,ht,hz⟩:=I.list hx
 refine⟨"list",_,PySem.F.slot_list_getitem.lookup,⟨_,ht.isList.choose_spec.1,ht.isList.choose_spec.2.1⟩,?_⟩;refine wpAny_getItem_list_slice ht.isList hs .none .none pk (by decide) ?_ (by rw [zzC,<-r.length];exact hz);rw [PySem.W.krv_pick];refine⟨.ref s.heap.objs.size,_,I.laid (t':=s.toks) (o:=.lst xs.reverse) (λb ob q=>zzB _ q) (zzE _) ?_,rfl,q _ (I.aS.fresh (zzE _))⟩;exact⟨by rw [List.length_reverse];exact hz,_,0,ou r,zzX _ rfl⟩
theorem Jm:CS X (λx H Q=>∃z,x=.str z/\z.length<=sizeLine/\Q (.str (qy z)) H):=by
 intro ae s σ H x v vk sl Q I rx hs pk h;obtain⟨z,rfl,hz,q⟩:=h
 obtain⟨t,rfl⟩:=rx
 refine⟨"str",_,F.slot_str_getitem.lookup,typeIs_str _ _ _,?_⟩;cases pk with
 |int i ui=>
  refine wpAny_getItem_str_slice (l:=none) (u:=none) (st:=some (-1,ui)) hs rfl ?_;have e:sliceMade z t none none (some (-1,ui))=.str (qy z):=by
   unfold sliceMade;rw [if_neg (λq=>by rw [zza] at q;exact absurd q.1 (show¬((-1:Int)==1)=true by decide))]
   unfold slicePicked qy
   congr 2
   show((Builtin.Str.strSliceIndices none none (-1) z.length).filterMap (z.cps[·]?)).toArray=_
   rw [D1,PySem.W.krv_range,List.filterMap_reverse]
   congr 2
   have:=PySem.W.krv_all z.cps
   exact this
  rw [e];refine⟨?_,⟨.str _,H,I.tok _,⟨_,rfl⟩,q⟩⟩;show(qy z).cps.size<=sizeLine;have:(qy z).cps.size=z.length:=by simp [qy,Str.length]
  rw [this];exact hz
def VO(r:V->Hp->VK->Prop)(te ts:TE):TE:=λσ H Q=>te σ H λx H1=>ts σ H1 λk H2=>k=.int (-1)/\r x H2 Q
theorem Hx{r:V->Hp->VK->Prop}(hr:CS X r)(he:PE X e te)(hs:PE X st ts):PE X (.Subscript e (.Slice none none (some st) p2) pos) (VO r te ts):=by
 intro ae s σ H Q I h;refine Subscript_ (bX (he ae s σ H _ I h) λv s1 ⟨x,H1,I1,r1,q1⟩=>?_)
 refine wpAny_Slice ?_;rw [evalPart_none];refine zzG (zzG ?_);rw [evalPart_some];refine bX (hs ae s1 σ H1 _ I1 q1) λu s3 ⟨k,H3,I3,r3,q3⟩=>?_
 obtain⟨rfl,q3⟩:=q3
 obtain⟨t,rfl⟩:=r3
 have I4:Inv X ae σ H3 {s3 with heap:=s3.heap.push {cls:=.type "slice",data:=.fields #[.none,.none,.int (-1) t]}}:=I3.kept (t':=s3.toks) λb ob q=>zzB _ q
 obtain⟨T,id,hT,ht,hg⟩:=hr ae {s3 with heap:=s3.heap.push {cls:=.type "slice",data:=.fields #[.none,.none,.int (-1) t]}} σ H3 x v (.int (-1) t) s3.heap.objs.size Q I4 r1 (Heap.IsSliceOf.new ..) (.int _ _) q3
 show wpAny (model X.prog X.w) X.A (subscriptTail e (.Slice none none (some st) p2) v (.ref s3.heap.objs.size)) (EP X ae σ Q) X.xe {s3 with heap:=s3.heap.push {cls:=.type "slice",data:=.fields #[.none,.none,.int (-1) t]}}
 exact tail_any (ops:=[v,.ref s3.heap.objs.size]) ht hT hg (by with_unfolding_all rfl)
end
end L2
namespace L2
open PySem PySem.Spec PyProof.Rows PySem.W
theorem pg:∀{x y:List Int} (a b:List Int),x.length=y.length->HT.lexLt (x++a) (y++b)=if x=y then HT.lexLt a b else HT.lexLt x y
 |[],[],a,b,_=>by simp
 |[],_::_,_,_,h=>by simp at h
 |_::_,[],_,_,h=>by simp at h
 |x::xs,y::ys,a,b,h=>by
  rw [List.cons_append,List.cons_append,HT.eA,HT.eA,pg a b (by simpa using h)]
  by_cases e:x=y
  ·subst e;simp
  ·simp [e]
section
open PySem.SeqAt
open PySem.AutoSeq1 (wpAny_loadPart')
open PySem.MeetsSeq PySem.MeetsSeq2 PySem.MeetsSeq3
def IC(A:Around)(s:Shared)(y x:Value)(b:Bool):Prop:=∀(prog:Program) (w:World) (E:Value->Shared->Prop) (Q:Value->Shared->Prop),Q (.bool b) s->wpAny (model prog w) A (richCompare .Lt y x) Q E s
end
theorem DT{A:Around}{s:Shared}{b b':Addr}{o o':Obj}{ax its':Array Value}{n n':Nat}{ns ms:List Int}(hu:A.units+2<cLine)(g1:s.heap.get? b=some o)(g2:o.cls=.type "tuple")(g3:o.data=.seq ax n)(g4:Vals (ns.map V.int) ax.toList)(k1:s.heap.get? b'=some o')(k2:o'.cls=.type "tuple")(k3:o'.data=.seq its' n')(k4:Vals (ms.map V.int) its'.toList):
 SeqAt.EqAt A s (.ref b) (.ref b') (decide (ns=ms))/\IC A s (.ref b) (.ref b') (HT.lexLt ns ms):=by
 have p1:IsTup s.heap b ax:=⟨o,g1,g2,n,g3⟩
 have p2:IsTup s.heap b' its':=⟨o',k1,k2,n',k3⟩
 have l1:=g4.length
 have l2:=k4.length
 rw [zzl] at l1 l2;refine⟨?_,λprog w E Q q=>HT.lX p1 p2 (intsAre_of g4) (intsAre_of k4) (by omega) q⟩
 by_cases hb:b=b'
 ·subst hb;rw [g1] at k1;cases k1;rw [g3] at k3;cases k3;have:ns=ms:=by
   refine List.ext_getElem (by omega) λj h1 h2=>?_
   have hj:j<ax.toList.toArray.size:=by simp only [zzC];omega
   obtain⟨t1,e1⟩:=int_at g4 j hj
   obtain⟨t2,e2⟩:=int_at k4 j hj
   rw [e1] at e2
   injection e2 with e3
   simpa [h1,h2] using e3
  rw [zzh this];exact .same _
 ·refine .of_refs hb ?_;have:=SeqAt.RcAt.tuples (A:=A) (e:=λj=>ns.getD j 0==ms.getD j 0) (show s.heap.IsTuple b ax from p1) (show s.heap.IsTuple b' its' from p2) (by omega) (λj h1 h2=>by
   obtain⟨t1,e1⟩:=int_at g4 j h1
   obtain⟨t2,e2⟩:=int_at k4 j h2
   rw [show ax[j]=_ from e1,show its'[j]=_ from e2];exact SeqAt.EqAt.int_int _ _ _ _)
  rw [<-zzd,<-zzd,<-l1,<-l2,zE] at this;exact this
def wc(h:Heap)(vs:List Value)(ps:List (List Int×Int)):Prop:=Paired (λv p=>∃b o ax n kb t,v=.ref b/\h.get? b=some o/\o.cls=.type "tuple"/\o.data=.seq ax n/\ax.toList=[.ref kb,.int p.2 t]/\∃ko x8 kn,h.get? kb=some ko/\ko.cls=.type "tuple"/\ko.data=.seq x8 kn/\Vals (p.1.map V.int) x8.toList) vs ps
def EM(p q:List Int×Int):Bool:=if p.1=q.1 then decide (p.2<q.2) else HT.lexLt p.1 q.1
theorem zi{p q:List Int×Int}(h:p.1.length=q.1.length):EM p q=HT.lexLt (p.1++[p.2]) (q.1++[q.2]):=by
 rw [pg _ _ h,EM]
 congr 1
 rw [HT.eA,HT.fk]
 by_cases e:p.2=q.2
 ·rw [if_pos e,e];exact decide_eq_false (Int.lt_irrefl _)
 ·rw [if_neg e]
section
variable{prog:Program}{w:World}{A:Around}{E:Value->Shared->Prop}{s:Shared}{vs:List Value}{ps:List (List Int×Int)}
theorem xS(hu:A.units+8<cLine)(t1:wc s.heap vs ps)(h2:2<=vs.length):LF prog w A E vs (λi j=>EM (ps.getD i ([],0)) (ps.getD j ([],0))) s:=by
 have hlen:vs.length=ps.length:=Paired.length t1
 have kt:∃fs,KatTups s.heap vs fs/\fs.length=vs.length/\∀v∈fs,∃kb ko,v=.ref kb/\s.heap.get? kb=some ko/\ko.cls=.type "tuple":=by
  clear hlen h2
  induction t1 with
  |nil=>exact⟨[],trivial,rfl,λv hv=>nomatch hv⟩
  |cons h t ih=>
   obtain⟨fs,i1,i2,i3⟩:=ih
   obtain⟨b,o,ax,n,kb,tk,rfl,g1,g2,g3,g4,ko,x8,kn,k1,k2,_⟩:=h
   have f0:ax[0]?=some (.ref kb):=by rw [<-Array.getElem?_toList,g4];rfl
   exact⟨.ref kb::fs,.cons g1 g2 g3 f0 i1,by simp [i2],λv hv=>by
    rcases List.mem_cons.mp hv with rfl|hv
    ·exact⟨kb,ko,rfl,k1,k2⟩
    ·exact i3 v hv⟩
 obtain⟨fs,kt1,kt2,kt3⟩:=kt
 refine⟨_,λQ q=>kat_kind (T:=.type "tuple") kt1 (by omega) (λv hv=>?_) rfl q,λi j C hi hj hC=>?_⟩
 ·obtain⟨kb,ko,rfl,k1,k2⟩:=kt3 v hv
  rw [<-k2];exact λA Q E s' k q=>wpAny_typeOf_ref (k _ _ k1) q
 ·unfold kas_ask;obtain⟨b,o,ax,n,kb,tk,e1,g1,g2,g3,g4,ko,x8,kn,k1,k2,k3,k4⟩:=fO t1 (zzg hi) (zzg (show i<ps.length by omega))
  obtain⟨b',o',its',n',kb',OM,e1',E5,LY,g3',g4',ko',kits',kn',k1',k2',k3',k4'⟩:=fO t1 (zzg hj) (zzg (show j<ps.length by omega))
  have v1:vs.getD i Value.none=.ref b:=by simp [hi,e1]
  have v2:vs.getD j Value.none=.ref b':=by simp [hj,e1']
  have n1:ps.getD i ([],0)=ps[i]'(by omega):=by simp [show i<ps.length by omega]
  have n2:ps.getD j ([],0)=ps[j]'(by omega):=by simp [show j<ps.length by omega]
  rw [v1,v2];dsimp only at hC;rw [n1,n2] at hC;have z:ax.size=2:=by rw [<-zzd,g4];rfl
  have z':its'.size=2:=by rw [<-zzd,g4'];rfl
  refine kat_lt g1 g3 E5 g3' ?_;rw [z,z',g4,g4'];obtain⟨q1,q2⟩:=DT (A:=A) (by omega) k1 k2 k3 k4 k1' k2' k3' k4'
  unfold EM at hC;refine kat_cons (q1 prog w _ _ ?_)
  by_cases ek:(ps[i]'(by omega)).1=(ps[j]'(by omega)).1
  ·rw [zzh ek];rw [if_pos ek] at hC;refine kat_yes (kat_cons (wpAny_eqBool_int ?_))
   by_cases en:(ps[i]'(by omega)).2=(ps[j]'(by omega)).2
   ·rw [show((ps[i]'(by omega)).2==(ps[j]'(by omega)).2)=true by simpa using en];refine kat_yes (kat_nil ?_);rw [en,decide_eq_false (Int.lt_irrefl _)] at hC;exact hC
   ·rw [show((ps[i]'(by omega)).2==(ps[j]'(by omega)).2)=false by simpa using en];exact kat_no (kat_one _ _ (PyProof.Rows.lt_int hC))
  ·rw [decide_eq_false ek];rw [if_neg ek] at hC;exact kat_no (kat_one _ _ (q2 prog w _ _ hC))
end
abbrev Kv(K:PySem.W.Frag)(H:Hp)(vs:List V)(ps:List (List Int×Int)):Prop:=Paired (λv p=>∃b kb,v=V.ref b/\eP K H b [.ref kb,.int p.2]/\eP K H kb (p.1.map V.int)) vs ps
section
variable{X:Cx}{ae:List (Addr×Obj)}{σ:St}{H:Hp}{s:Shared}{A:Around}
theorem pairs_at(I:Inv X ae σ H s):∀{vs:List V} {us:List Value} {ps:List (List Int×Int)},Vals vs us->Kv X.K H vs ps->wc s.heap us ps:=by
 intro vs us ps r t
 induction t generalizing us with
 |nil=>cases r;exact .nil
 |cons h t ih=>
  obtain⟨b,kb,rfl,hq,hk⟩:=h
  cases r with
  |cons r1 r2=>
   cases(show _=Value.ref b from r1);obtain⟨ax,rv,⟨o,g1,g2,n,g3⟩,_⟩:=I.tuple hq
   obtain⟨x8,rk,⟨ko,k1,k2,kn,k3⟩,_⟩:=I.tuple hk
   obtain⟨u,v,e,ru,tk,rv⟩:=Vals.two rv
   cases(show u=Value.ref kb from ru);refine .cons ⟨b,o,ax.toArray,n,kb,tk,rfl,g1,g2,g3,?_,ko,x8.toArray,kn,k1,k2,k3,by simpa using rk⟩ (ih r2);rw [show ax.toArray.toList=ax by simp,e,rv]
theorem nD(hu:X.A.units+64<cLine):cg X (.builtin "sorted") (λxs H Q=>∃a vs ps,xs=[V.ref a]/\eF X.K H a vs/\Kv X.K H vs ps/\(∀p∈ps,p.1.length=2)/\vs.length<64/\∀p,H p=none->Q (.ref p) (upd H p (.lst (ik V.az vs (ps.map λp=>p.1++[p.2]))))):=by
 intro ae s σ H xs us Q I r h;obtain⟨a,vs,ps,rfl,hl,t,h2,CT,q⟩:=h
 obtain⟨u,rfl,ru⟩:=vals1 r
 cases ru;obtain⟨ax,rv,p,hz⟩:=I.list hl
 refine Calls.call_function_entry kind_sorted plain_sorted entry_sorted (args_sorted1 _) ?_;unfold Builtin.«sorted»;refine zzA (m:=checkCount "sorted" 1 1 _) (zzG (zzA (collect_list p.isList ?_ (by have:=rv.length;rw [sizeLine_eq];omega))));have I1:=I.kept (t':=s.toks) (h':=(s.heap.push (seqObj "list" #[] 0)).update s.heap.objs.size (Obj.mapSeq (·++ax.toArray))) λb o e=>by
  have bZ:b<s.heap.objs.size:=zzO e
  rw [Heap.get?_update_ne _ _ _ _ (zzb bZ),Heap.get?_push_ne _ _ _ (zzb bZ)];exact e
 refine iE I1 rv (λhn h' k=>?_) CT q;have hp:ax.length=ps.length:=by rw [<-rv.length];exact Paired.length t
 obtain⟨κ,kk,lts⟩:=xS (prog:=X.prog) (w:=X.w) (A:=X.A.in1.in1) (s:={s with heap:=h'}) (by show X.A.units+1+1+8<_;omega) (pairs_at (I1.kept (t':=s.toks) k) rv t) hn
 have ge:∀i,i<ps.length->(ps.map λp=>p.1++[p.2]).getD i []=(ps.getD i ([],0)).1++[(ps.getD i ([],0)).2]/\(ps.getD i ([],0)).1.length=2:=λi hi=>by
  simp only [zzK,zzQ,zzg hi,Option.map_some,Option.getD_some];exact⟨trivial,h2 _ (List.getElem_mem hi)⟩
 refine⟨κ,kk,λi j C hi hj hC=>lts i j C hi hj ?_⟩
 have a:=ge i (by omega)
 have b:=ge j (by omega)
 dsimp only at hC;rw [a.1,b.1,<-zi (a.2.trans b.2.symm)] at hC;exact hC
end
end L2
namespace L2
open PySem PySem.Spec PyProof.Rows
end L2
namespace Ci
open PySem L2
inductive Res(α:Type) where
 |ok (a:α)|exc (c:Str)|bad
@[inline] def Res.bind{α β:Type}:Res α->(α->Res β)->Res β
 |.ok a,f=>f a
 |.exc c,_=>.exc c
 |.bad,_=>.bad
instance:Monad Res where
 pure:=.ok
 bind:=Res.bind
theorem Res.aR{α β:Type}{r:Res α}{f:α->Res β}{b:β}(h:r.bind f=.ok b):∃a,r=.ok a/\f a=.ok b:=by
 cases r with
 |ok a=>exact⟨a,rfl,h⟩
 |exc c=>cases h
 |bad=>cases h
theorem Res.dJ{α β:Type}{r:Res α}{f:α->Res β}{c:Str}(h:r.bind f=.exc c):r=.exc c\/∃a,r=.ok a/\f a=.exc c:=by
 cases r with
 |ok a=>exact .inr ⟨a,rfl,h⟩
 |exc c'=>cases h;exact .inl rfl
 |bad=>cases h
def Res.of{α:Type}:Option α->Res α
 |some a=>.ok a
 |none=>.bad
def Res.well{α:Type}:Res α->Res α
 |.ok a=>.ok a
 |_=>.bad
abbrev df:Nat:=1000000
def eqs(f:PV->PV->Bool):List PV->List PV->Bool
 |[],[]=>true
 |x::xs,y::ys=>f x y&&eqs f xs ys
 |_,_=>false
noncomputable def iS:Nat->PV->PV->Bool
 |_,.az,.az=>true
 |_,.bl a,.bl b=>a==b
 |_,.bl a,.int i=>(if a then 1 else 0)==i
 |_,.int i,.bl a=>i==(if a then 1 else 0)
 |_,.int i,.int j=>i==j
 |_,.str x,.str y=>x==y
 |n+1,.tup xs,.tup ys=>eqs (iS n) xs ys
 |n+1,.lst xs,.lst ys=>eqs (iS n) xs ys
 |_,_,_=>false
noncomputable def plain:Nat->PV->Bool
 |_,.az=>true
 |_,.bl _=>true
 |_,.int _=>true
 |_,.str _=>true
 |n+1,.tup xs=>xs.all (plain n)
 |n+1,.lst xs=>xs.all (plain n)
 |_,_=>false
abbrev DP:Nat:=9
noncomputable abbrev eqv:PV->PV->Bool:=iS DP
noncomputable abbrev Cz:PV->Bool:=plain DP
inductive LU where|add|sub|mul|mod|fdiv
inductive BN where|eq|ne|lt|le|gt|ge|Aa|Bj|lV
def aV(i:Int):Bool:=decide (-(2^64)<i)&&decide (i<2^64)
noncomputable def binOp:LU->PV->PV->Res PV
 |.add,.int i,.int j=>.ok (.int (i+j))
 |.add,.str x,.str y=>if x.length+y.length<=df then .ok (.str (x++y)) else .bad
 |.add,.lst x,.lst y=>if x.length+y.length<=df then .ok (.lst (x++y)) else .bad
 |.sub,.int i,.int j=>.ok (.int (i-j))
 |.mul,.int i,.int j=>if aV i||aV j then .ok (.int (i*j)) else .bad
 |.mod,.int i,.int j=>if 0<j then .ok (.int (i%j)) else .bad
 |.fdiv,.int i,.int j=>if 0<j/\j<1073741824 then .ok (.int (i/j)) else .bad
 |_,_,_=>.bad
def intsOf:List PV->Option (List Int)
 |[]=>some []
 |.int i::r=>(intsOf r).map (i::·)
 |_=>none
def av{α:Type}:List (List Int)->List α->List Int->Option α
 |k'::ks,v::vs,k=>if k'=k then some v else av ks vs k
 |_,_,_=>none
def bO(ks:List (List Int))(k:List Int):Bool:=ks.any λk'=>decide (k'=k)
def bf(ks:List (List Int))(k:List Int):List (List Int):=if bO ks k then ks else ks++[k]
def bj{α:Type}(ks:List (List Int))(vs:List α)(k:List Int)(p:α):List α:=if bO ks k then List.zipWith (λk' v=>if k'=k then p else v) ks vs else vs++[p]
def cq(ks:List (List Int))(k:List Int):List (List Int):=ks.filter λk'=>decide (k'≠k)
def bb{α:Type}:List (List Int)->List α->List Int->List α
 |k'::ks,v::vs,k=>if k'=k then bb ks vs k else v::bb ks vs k
 |_,_,_=>[]
def ah(k:List Int):PV:=.tup (k.map .int)
def fy:PV->Option (List Int)
 |.tup xs=>intsOf xs
 |_=>none
def w9:List PV->Option (List (List Int))
 |[]=>some []
 |x::r=>(fy x).bind λk=>(w9 r).map (k::·)
def nL:List PV->Option (List (List Int×PV))
 |[]=>some []
 |.tup [x,y]::r=>(fy x).bind λk=>(nL r).map ((k,y)::·)
 |_=>none
def dA{α:Type}:List (List Int×α)->List (List Int)->List α->List (List Int)×List α
 |[],ks,vs=>(ks,vs)
 |p::r,ks,vs=>dA r (bf ks p.1) (bj ks vs p.1 p.2)
noncomputable def ux(x:PV)(ys:List PV):Bool:=ys.any λy=>eqv y x
noncomputable def iz(a b:PV):Res PV:=if Cz a&&Cz b then .ok (.bl (eqv a b)) else .bad
noncomputable def iT(a b:PV):Res PV:=if Cz a&&Cz b then .ok (.bl (!eqv a b)) else .bad
noncomputable def qw:PV->PV->Res PV
 |.int i,.int j=>.ok (.bl (decide (i<j)))
 |.tup xs,.tup ys=>(Res.of (intsOf xs)).bind λns=>(Res.of (intsOf ys)).bind λms=>.ok (.bl (HT.lexLt ns ms))
 |_,_=>.bad
def rS:PV->PV->Res PV
 |.int i,.int j=>.ok (.bl (decide (i<=j)))
 |_,_=>.bad
def vp:PV->PV->Res PV
 |.int i,.int j=>.ok (.bl (decide (j<i)))
 |_,_=>.bad
def vj:PV->PV->Res PV
 |.int i,.int j=>.ok (.bl (decide (j<=i)))
 |_,_=>.bad
def Hc:PV->Bool
 |.az=>true
 |_=>false
def gM:PV->PV->Res PV
 |a,.az=>.ok (.bl (!Hc a))
 |.bl a,.bl b=>.ok (.bl (a !=b))
 |_,_=>.bad
def uP:PV->PV->Res PV
 |a,.aX ks _=>(Res.of (fy a)).bind λk=>.ok (.bl (bO ks k))
 |_,_=>.bad
noncomputable def jc:PV->PV->Res PV
 |a,.lst ys=>if Cz a&&ys.all Cz then .ok (.bl (!ux a ys)) else .bad
 |a,.aX ks _=>(Res.of (fy a)).bind λk=>.ok (.bl (!bO ks k))
 |_,_=>.bad
noncomputable def dN:BN->PV->PV->Res PV
 |.eq=>iz|.ne=>iT|.lt=>qw|.le=>rS|.gt=>vp|.ge=>vj|.Aa=>gM|.Bj=>uP|.lV=>jc
noncomputable def aN:PV->PV->Res PV
 |.lst xs,.int i=>Res.of (ub xs i)
 |.tup xs,.int i=>Res.of (ub xs i)
 |.str z,.int i=>if z.length<=df then(Res.of (ub z.cps.toList i)).bind λc=>.ok (.str ⟨#[c]⟩) else .bad
 |.aX ks vs,y=>(Res.of (fy y)).bind λk=>Res.of (av ks vs k)
 |_,_=>.bad
def ng{α:Type}(xs:List α)(lo hi:Option Int):List α:=(xs.drop (HT.oz xs.length 0 lo)).take (HT.oz xs.length xs.length hi-HT.oz xs.length 0 lo)
def eX:PV->Option Int->Option Int->Res PV
 |.lst xs,lo,hi=>.ok (.lst (ng xs lo hi))
 |_,_,_=>.bad
inductive B where|len|abs|max2|int|str|list|tuple|all|sorted|dict|eU
def boolsOf:List PV->Option (List Bool)
 |[]=>some []
 |.bl b::r=>(boolsOf r).map (b::·)
 |_=>none
def chars(z:Str):List PV:=z.cps.toList.map λc=>.str ⟨#[c]⟩
noncomputable def ve:List PV->Res PV
 |[.lst xs]=>.ok (.int xs.length)
 |[.tup xs]=>.ok (.int xs.length)
 |[.str z]=>if z.length<=df then .ok (.int z.length) else .bad
 |[.aX ks _]=>.ok (.int ks.length)
 |_=>.bad
def Bc:List PV->Res PV
 |[.int i]=>.ok (.int (if i<0 then -i else i))
 |_=>.bad
def Cs:List PV->Res PV
 |[.int i,.int j]=>.ok (.int (if j>i then j else i))
 |_=>.bad
def Aw:List PV->Res PV
 |[.str z]=>if z.length<=640 then(Res.of (PySem.intText? z)).bind λn=>.ok (.int n) else .bad
 |_=>.bad
def Cd:List PV->Res PV
 |[.int i]=>if i.natAbs.log2<1920 then .ok (.str (toString i)) else .bad
 |_=>.bad
def sS:List PV->Res PV
 |[.lst xs]=>.ok (.lst xs)
 |[.tup xs]=>.ok (.lst xs)
 |[.str z]=>if z.length<=df then .ok (.lst (chars z)) else .bad
 |_=>.bad
def mT:List PV->Res PV
 |[.lst xs]=>.ok (.tup xs)
 |_=>.bad
def zA:List PV->Res PV
 |[.lst xs]=>(Res.of (boolsOf xs)).bind λbs=>.ok (.bl (bs.all id))
 |_=>.bad
noncomputable def je:List PV->Res PV
 |[.lst xs]=>(Res.of (w9 xs)).bind λnss=>if decide (xs.length<64)&&nss.all (λk=>!k.isEmpty) then .ok (.lst (ik .az xs nss)) else .bad
 |[.aX ks _]=>if decide (ks.length<64)&&ks.all (λk=>!k.isEmpty) then .ok (.lst (ik .az (ks.map ah) ks)) else .bad
 |_=>.bad
def vy:List PV->Option (List (List Int×Int))
 |[]=>some []
 |.tup [x,.int n]::r=>(fy x).bind λk=>(vy r).map ((k,n)::·)
 |_=>none
noncomputable def gr:List PV->Res PV
 |[.lst xs]=>(Res.of (vy xs)).bind λps=>if decide (xs.length<64)&&ps.all (λp=>p.1.length==2) then .ok (.lst (ik .az xs (ps.map λp=>p.1++[p.2]))) else .bad
 |_=>.bad
def ir:List PV->Res PV
 |[.lst xs]=>(Res.of (nL xs)).bind λps=>.ok (.aX (dA ps [] []).1 (dA ps [] []).2)
 |_=>.bad
noncomputable def cR:B->List PV->Res PV
 |.len=>ve|.abs=>Bc|.max2=>Cs|.int=>Aw|.str=>Cd|.list=>sS|.tuple=>mT|.all=>zA|.sorted=>je|.dict=>ir|.eU=>gr
inductive Ty where|int|bool|tuple|list
def iB:Ty->PV->Bool
 |.int,.int _=>true
 |.int,.bl _=>true
 |.bool,.bl _=>true
 |.tuple,.tup _=>true
 |.list,.lst _=>true
 |_,_=>false
def kM(t:Ty):PV->Res PV
 |.exc _=>.bad
 |.aX _ _=>.bad
 |p=>.ok (.bl (iB t p))
inductive Tg where
 |one (i:Nat)|two (i j:Nat)|three (i j k:Nat)|Iz (i j k:Nat)
mutual
inductive E where
 |var (i:Nat)|hZ (i:Nat)
 |cst (p:PV)
 |glob (g:Str) (p:PV)
 |call (f:Str) (as:Es)
 |ni (i:Nat) (as:Es)
 |tV (f:Str) (as:Es) (g:Str) (idx:List Nat) (bq:List Nat)
 |blt (b:B) (as:Es)
 |ty (t:Ty) (a:E)
 |bin (o:LU) (a b:E)
 |cmp (o:BN) (a b:E)
 |ch (o1 o2:BN) (a b c:E)
 |not (a:E)
 |neg (a:E)
 |and (a b:E)|or (a b:E)
 |ite (c a b:E)
 |tup (as:Es)|lst (as:Es)
 |sub (a b:E)
 |slice (a:E) (lo hi:Oe)
 |comp (k:Nat) (bq:List Nat) (tg:Tg) (it:I) (elt:E)
 |cH (k:Nat) (bq:List Nat) (tg:Tg) (it:I) (c elt:E)
 |rev (a:E)
inductive Es where
 |nil|cons (e:E) (es:Es)
inductive Oe where
 |no|some (e:E)
inductive I where
 |seq (e:E)|rn (e:E)|nk (a b:E)|enum (e:E)|zip (a b:E)
end
mutual
inductive S where
 |expr (e:E)
 |set (i:Nat) (e:E)
 |own (i:Nat) (e:E)
 |bK (i:Nat)
 |app (i:Nat) (e:E)
 |rN (i:Nat) (e:E)
 |put (i:Nat) (k e:E)
 |ret (e:E)
 |ite (c:E) (a b:Ss)
 |dc (tg:Tg) (it:I) (b:Ss)
 |E0 (c:E) (b:Ss)
 |raise (c:Str) (m:Str)
 |brk
 |nV (i:Nat)
 |rT (i:Nat) (e:E)
 |fM (i j n:Nat)
 |qm (m i:Nat)
inductive Ss where
 |nil|cons (s:S) (ss:Ss)
end
def fc:List Int->Nat->Nat->Int->Nat
 |[],_,b,_=>b
 |c::cs,j,b,m=>if c<m then fc cs (j+1) j c else fc cs (j+1) b m
def BE:List Int->Option Nat
 |[]=>none
 |c::cs=>some (fc cs 1 0 c)
def iK:List PV->Option (List Int)
 |[]=>some []
 |.tup (.int c::_)::r=>(iK r).map (c::·)
 |_=>none
abbrev aO:=Str->List PV->Res PV
def oN:Option Slot->Res PV
 |some (.val p)=>.ok p
 |_=>.bad
def A1:Option Slot->Res PV
 |some (.val p)=>.ok p
 |some (.own p)=>.ok p
 |_=>.bad
noncomputable def Tg.put:Tg->PV->Sl->Res Sl
 |.one i,p,env=>.ok (env.set i (.val p))
 |.two i j,.tup [a,b],env=>.ok ((env.set i (.val a)).set j (.val b))
 |.Iz i j k,.tup [a,.tup [b,c]],env=>.ok (((env.set i (.val a)).set j (.val b)).set k (.val c))
 |.three i j k,.tup [a,b,c],env=>.ok (((env.set i (.val a)).set j (.val b)).set k (.val c))
 |_,_,_=>.bad
def kK(env:Sl):List Nat->Res (List PV)
 |[]=>.ok []
 |i::r=>(oN env[i]?).bind λp=>(kK env r).bind λps=>.ok (p::ps)
def fE(l:List PV):List Nat->Res (List PV)
 |[]=>.ok []
 |i::r=>(Res.of l[i]?).bind λp=>(fE l r).bind λps=>.ok (p::ps)
def fR(env:Sl)(bq:List Nat):Sl:=bq.map λi=>env.getD i .no
def itemsOf:PV->Res (List PV)
 |.lst xs=>.ok xs
 |.tup xs=>.ok xs
 |.str z=>.ok (chars z)
 |_=>.bad
def yr(e:E)(p:PV):Res (List PV):=match p,e with
 |.aX _ _,.hZ _=>.bad
 |.aX ks _,_=>.ok (ks.map ah)
 |p,_=>itemsOf p
def eN(lo:Int)(n:Nat):List PV:=(List.range n).map λi=>.int (lo+(i:Nat))
def aY(i:Int):Bool:=decide (-(2^62)<=i)&&decide (i<2^62)
def iV:List PV->List PV->List PV
 |x::xs,y::ys=>.tup [x,y]::iV xs ys
 |_,_=>[]
def cQ(n:Nat):List PV->List PV
 |[]=>[]
 |x::xs=>.tup [.int (n:Nat),x]::cQ (n+1) xs
def oc:Option PV->List PV->List PV
 |some y,ys=>y::ys
 |none,ys=>ys
def bo(f:PV->Res (Option PV)):List PV->Res (List PV)
 |[]=>.ok []
 |x::xs=>(f x).well.bind λo=>(bo f xs).bind λys=>.ok (oc o ys)
def tY{α:Type}(p:PV)(f:Bool->Res α):Res α:=match p with
 |.bl b=>f b
 |_=>.bad
section
variable(F:aO)
mutual
noncomputable def aQ:E->Sl->Res PV
 |.var i,env=>oN env[i]?
 |.hZ i,env=>A1 env[i]?
 |.cst p,_=>.ok p
 |.glob _ p,_=>.ok p
 |.call f as,env=>(da as env).bind λps=>F f ps
 |.ni i as,env=>match env[i]? with
  |some (.fn g idx cZ)=>(da as env).bind λps=>if idx.head?=some ps.length then(fE (ps++cZ) idx.tail).bind λqs=>F g qs else .bad
  |_=>.bad
 |.tV f as _ _ bq,env=>(da as env).bind λps=>(kK env bq).bind λcs=>F f (ps++cs)
 |.blt b as,env=>(da as env).bind λps=>cR b ps
 |.ty t a,env=>(aQ a env).bind λp=>kM t p
 |.bin o a b,env=>(aQ a env).bind λx=>(aQ b env).bind λy=>binOp o x y
 |.cmp o a b,env=>(aQ a env).bind λx=>(aQ b env).bind λy=>dN o x y
 |.ch o1 o2 a b c,env=>(aQ a env).bind λx=>(aQ b env).bind λy=>(dN o1 x y).bind λt=>tY t λt=>
  if t then(aQ c env).bind λz=>dN o2 y z else .ok (.bl false)
 |.not a,env=>(aQ a env).bind λx=>tY x λb=>.ok (.bl (!b))
 |.neg a,env=>(aQ a env).bind λx=>match x with|.int i=>.ok (.int (-i))|_=>.bad
 |.and a b,env=>(aQ a env).bind λx=>tY x λt=>if t then aQ b env else .ok (.bl false)
 |.or a b,env=>(aQ a env).bind λx=>tY x λt=>if t then .ok (.bl true) else aQ b env
 |.ite c a b,env=>(aQ c env).bind λx=>tY x λt=>if t then aQ a env else aQ b env
 |.tup as,env=>(da as env).bind λps=>.ok (.tup ps)
 |.lst as,env=>(da as env).bind λps=>.ok (.lst ps)
 |.sub a b,env=>(aQ a env).bind λx=>(aQ b env).bind λy=>aN x y
 |.slice a lo hi,env=>(aQ a env).bind λx=>(v8 lo env).bind λl=>(v8 hi env).bind λh=>eX x l h
 |.comp k bq tg it elt,env=>(qZ it env).bind λxs=>if xs.length<df then(bo (λx=>(tg.put x (List.replicate k .no++fR env bq)).bind λau=>(aQ elt au).bind λy=>.ok (some y)) xs).bind λys=>.ok (.lst ys) else .bad
 |.cH k bq tg it c elt,env=>(qZ it env).bind λxs=>if xs.length<df then(bo (λx=>(tg.put x (List.replicate k .no++fR env bq)).bind λau=>(aQ c au).bind λt=>tY t λt=>if t then(aQ elt au).bind λy=>.ok (some y) else .ok none) xs).bind λys=>.ok (.lst ys) else .bad
 |.rev a,env=>(aQ a env).bind λp=>match p with|.str z=>(if z.length<=df then .ok (.str (qy z)) else .bad)|.tup xs=>.ok (.tup xs.reverse)|.lst xs=>.ok (.lst xs.reverse)|_=>.bad
noncomputable def da:Es->Sl->Res (List PV)
 |.nil,_=>.ok []
 |.cons e es,env=>(aQ e env).bind λp=>(da es env).bind λps=>.ok (p::ps)
noncomputable def v8:Oe->Sl->Res (Option Int)
 |.no,_=>.ok none
 |.some e,env=>(aQ e env).bind λp=>match p with|.int i=>.ok (some i)|_=>.bad
noncomputable def qZ:I->Sl->Res (List PV)
 |.seq e,env=>(aQ e env).bind (yr e)
 |.rn e,env=>(aQ e env).bind λp=>match p with|.int j=>if aY j then .ok (eN 0 j.toNat) else .bad|_=>.bad
 |.nk a b,env=>(aQ a env).bind λp=>(aQ b env).bind λq=>match p,q with|.int i,.int j=>if aY i&&aY j then .ok (eN i (j-i).toNat) else .bad|_,_=>.bad
 |.enum e,env=>(aQ e env).bind λp=>(itemsOf p).bind λxs=>.ok (cQ 0 xs)
 |.zip a b,env=>(aQ a env).bind λp=>(aQ b env).bind λq=>match p,q with|.lst xs,.lst ys=>.ok (iV xs ys)|_,_=>.bad
end
end
inductive Fl where
 |nx (env:Sl)|bk (env:Sl)|ct (env:Sl)|rt (p:PV)
def Fl.seq(f:Fl)(k:Sl->Res Fl):Res Fl:=match f with
 |.nx env=>k env
 |f=>.ok f
noncomputable def forL(body:PV->Sl->Res Fl):List PV->Sl->Res Fl
 |[],env=>.ok (.nx env)
 |x::xs,env=>(body x env).bind λf=>match f with
  |.nx au=>forL body xs au
  |.ct au=>forL body xs au
  |.bk au=>.ok (.nx au)
  |.rt p=>.ok (.rt p)
noncomputable def dF(c:Sl->Res PV)(body:Sl->Res Fl):Nat->Sl->Res Fl
 |0,_=>.bad
 |n+1,env=>(c env).bind λt=>tY t λt=>if t then(body env).bind λf=>(match f with
  |.nx au=>dF c body n au
  |.ct au=>dF c body n au
  |.bk au=>.ok (.nx au)
  |.rt p=>.ok (.rt p)) else .ok (.nx env)
abbrev WN:Nat:=1000000
def nU:Slot->Slot
 |.own p=>.val p
 |s=>s
section
variable(F:aO)
mutual
noncomputable def g6:S->Sl->Res Fl
 |.expr e,env=>(aQ F e env).bind λ_=>.ok (.nx env)
 |.set i e,env=>(aQ F e env).bind λp=>.ok (.nx (env.set i (.val p)))
 |.own i e,env=>(aQ F e env).bind λp=>.ok (.nx (env.set i (.own p)))
 |.bK i,env=>.ok (.nx (env.modify i nU))
 |.app i e,env=>match env[i]? with
  |some (.own (.lst xs))=>(aQ F e env).bind λp=>if xs.length<df then .ok (.nx (env.set i (.own (.lst (xs++[p]))))) else .bad
  |_=>.bad
 |.rN i e,env=>match env[i]? with
  |some (.own (.lst xs))=>(aQ F e env).bind λp=>match p with
   |.lst ys=>if xs.length+ys.length<=df then .ok (.nx (env.set i (.own (.lst (xs++ys))))) else .bad
   |_=>.bad
  |_=>.bad
 |.put i k e,env=>(aQ F e env).bind λp=>match env[i]? with
  |some (.own (.aX ks vs))=>(aQ F k env).bind λkp=>match fy kp with
   |some kk=>if ks.length<df then .ok (.nx (env.set i (.own (.aX (bf ks kk) (bj ks vs kk p))))) else .bad
   |none=>.bad
  |_=>.bad
 |.ret e,env=>(aQ F e env).bind λp=>.ok (.rt p)
 |.ite c a b,env=>(aQ F c env).bind λp=>tY p λt=>if t then aJ a env else aJ b env
 |.dc tg it b,env=>(qZ F it env).bind λxs=>forL (λx env=>(tg.put x env).bind λau=>aJ b au) xs env
 |.E0 c b,env=>dF (aQ F c) (aJ b) WN env
 |.raise c _,_=>.exc c
 |.brk,env=>.ok (.bk env)
 |.rT i e,env=>(aQ F e env).bind λp=>(ir [p]).bind λq=>.ok (.nx (env.set i (.own q)))
 |.nV i,env=>.ok (.nx (env.set i (.own (.aX [] []))))
 |.fM i j n,env=>match env[j]?,env[i]?,env[n]? with
  |some (.own (.aX ks vs)),some (.own (.aX ks2 vs2)),some (.val kp)=>match fy kp with
   |some kk=>match av ks vs kk with
    |some p=>if ks2.length<df/\i≠j then .ok (.nx ((env.set j (.own (.aX (cq ks kk) (bb ks vs kk)))).set i (.own (.aX (bf ks2 kk) (bj ks2 vs2 kk p))))) else .bad
    |none=>.bad
   |none=>.bad
  |_,_,_=>.bad
 |.qm m i,env=>match env[i]? with
  |some (.own (.aX ks vs))=>match iK vs with
   |some cs=>match(BE cs).bind λx=>ks[x]? with
    |some k=>.ok (.nx (env.set m (.val (ah k))))
    |none=>.bad
   |none=>.bad
  |_=>.bad
noncomputable def aJ:Ss->Sl->Res Fl
 |.nil,env=>.ok (.nx env)
 |.cons s ss,env=>(g6 s env).bind λf=>f.seq (aJ ss)
end
end
structure Def where
 N:List Str
 np:Nat
 body:Ss
 iN:Option (Str×List Nat):=none
noncomputable def cu(d:Def)(as:List PV):Sl:=match d.iN with
 |none=>as.map .val++List.replicate (d.N.length-as.length) .no
 |some q=>(as.take (d.np-1)).map .val++.fn q.1 q.2 (as.drop (d.np-1))::List.replicate (d.N.length-d.np) .no
noncomputable def cm(d:Def)(as:List PV):Bool:=match d.iN with
 |none=>as.length==d.np
 |some _=>decide (0<d.np)&&decide (d.np-1<=as.length)
noncomputable def ay(F:aO)(d:Def)(as:List PV):Res PV:=
 if cm d as then(aJ F d.body (cu d as)).bind λf=>match f with
  |.nx _=>.ok .az
  |.rt p=>.ok p
  |_=>.bad
 else .bad
noncomputable def den:List (Str×Def)->aO
 |[],_,_=>.bad
 |(n,d)::r,f,as=>if f==n then ay (den r) d as else den r f as
abbrev ki(k:List Int):List Key:=k.map Sum.inl
theorem uw{a b:List Int}(h:ki a=ki b):a=b:=by
 induction a generalizing b with
 |nil=>cases b with|nil=>rfl|cons=>cases h
 |cons x a ih=>cases b with
  |nil=>cases h
  |cons y b=>simp only [ki,zzF,List.cons.injEq,Sum.inl.injEq] at h;rw [h.1,ih h.2]
theorem pS(k:List Int):(ki k).map kV=k.map V.int:=by
 unfold ki;rw [List.map_map]
 rfl
theorem jj{k:List Int}{ks:List (List Int)}{u:V}{us:List V}:kz (k::ks) (u::us)=(ki k,u)::kz ks us:=rfl
theorem fF{ks:List (List Int)}{us:List V}(h:ks.length=us.length):(kz ks us).length=ks.length:=by
 unfold kz;rw [List.length_zip,zzl];omega
theorem qi{ks:List (List Int)}{us:List V}(h:ks.length=us.length):(kz ks us).map (·.1)=ks.map ki:=by
 unfold kz;exact List.map_fst_zip (by rw [zzl];omega)
theorem jx(k:List Int):∀(ks:List (List Int)) (us:List V),hX (kz ks us) (ki k)=av ks us k
 |[],us=>by unfold av;rfl
 |a::ks,[]=>by unfold av;rfl
 |a::ks,u::us=>by
  rw [jj];unfold av
  by_cases h:a=k
  ·subst h;rw [if_pos rfl];exact gj rfl
  ·rw [if_neg h,gJ (λz=>h (uw z))];exact jx k ks us
theorem lD{α:Type}(k:List Int):∀(ks:List (List Int)) (us:List α),ks.length=us.length->(av ks us k).isSome=bO ks k
 |[],[],_=>rfl
 |a::ks,u::us,h=>by
  unfold av bO;rw [List.any_cons]
  by_cases e:a=k
  ·simp [e]
  ·rw [if_neg e];have:=lD k ks us (by simpa using h)
   unfold bO at this;rw [this];simp [e]
 |[],_::_,h=>by simp at h
 |_::_,[],h=>by simp at h
theorem JR(k:List Int):∀(ks:List (List Int)) (us:List V),ks.length=us.length->((kz ks us).any λkv=>decide (kv.1=ki k))=bO ks k:=λks us h=>by
 rw [mE,jx,lD k ks us h]
theorem vq{ks:List (List Int)}{us:List V}(h:ks.length=us.length)(k:List Int)(v:V):putK (kz ks us) (ki k) v=kz (bf ks k) (bj ks us k v):=by
 unfold putK bf bj;rw [JR k ks us h];split
 ·have go:∀(ks:List (List Int)) (us:List V),(kz ks us).map (λkv=>if kv.1=ki k then(kv.1,v) else kv)=kz ks (List.zipWith (λk' u=>if k'=k then v else u) ks us):=by
   intro ks
   induction ks with
   |nil=>intro us;simp [kz]
   |cons a ks ih=>
    intro us;cases us with
    |nil=>simp [kz]
    |cons u us=>
     rw [jj,zzF,List.zipWith_cons_cons,jj,ih]
     by_cases e:a=k
     ·simp [e]
     ·rw [if_neg (λz=>e (uw z)),if_neg e]
  exact go ks us
 ·unfold kz;rw [List.map_append,List.zip_append (by rw [zzl];exact h)]
  rfl
theorem lH{α:Type}{ks:List (List Int)}{us:List α}(h:ks.length=us.length)(k:List Int)(v:α):(bf ks k).length=(bj ks us k v).length:=by
 unfold bf bj;split
 ·rw [List.length_zipWith];omega
 ·simp [h]
theorem wK(k:List Int):∀{ks:List (List Int)} {us:List V},ks.length=us.length->fV (kz ks us) (ki k)=kz (cq ks k) (bb ks us k)
 |[],[],_=>rfl
 |a::ks,u::us,h=>by
  have ih:=wK k (ks:=ks) (us:=us) (by simpa using h)
  unfold cq bb;rw [jj,List.filter_cons]
  by_cases e:a=k
  ·subst e;rw [yw rfl,ih];simp [cq]
  ·rw [zd (λz=>e (uw z)),ih,if_neg e,if_pos (by simpa using e),jj]
   rfl
 |[],_::_,h=>by simp at h
 |_::_,[],h=>by simp at h
theorem r9{α:Type}(k:List Int):∀{ks:List (List Int)} {us:List α},ks.length=us.length->(cq ks k).length=(bb ks us k).length
 |[],[],_=>by unfold bb;rfl
 |a::ks,u::us,h=>by
  have ih:=r9 k (ks:=ks) (us:=us) (by simpa using h)
  unfold cq bb;rw [List.filter_cons]
  by_cases e:a=k
  ·subst e;rw [if_neg (by simp),if_pos rfl];exact ih
  ·rw [if_neg e,if_pos (by simpa using e),zzL,zzL];exact congrArg (·+1) ih
 |[],_::_,h=>by simp at h
 |_::_,[],h=>by simp at h
section
variable{W:Wd}{G:Hp}
theorem qA{k:List Int}{p:PV}:∀{ks:List (List Int)} {ps:List PV} {us:List V},ai W G ps us->av ks ps k=some p->∃v,av ks us k=some v/\Rep W G p v
 |[],_,_,_,e=>by unfold av at e;cases e
 |a::ks,[],_,_,e=>by unfold av at e;cases e
 |a::ks,q::ps,_,l,e=>by
  obtain⟨v,r,rfl,h1,h2⟩:=l.aW
  unfold av at e⊢
  by_cases h:a=k
  ·rw [if_pos h] at e⊢;cases e;exact⟨v,rfl,h1⟩
  ·rw [if_neg h] at e⊢;exact qA h2 e
theorem zw{k:List Int}{p:PV}{v:V}(hp:Rep W G p v):∀{ks:List (List Int)} {ps:List PV} {us:List V},ai W G ps us->ai W G (List.zipWith (λk' v=>if k'=k then p else v) ks ps) (List.zipWith (λk' u=>if k'=k then v else u) ks us)
 |[],_,_,_=>by simp only [List.zipWith_nil_left];exact .nil
 |a::ks,[],_,l=>by simp only [ai] at l;subst l;simp only [List.zipWith_nil_right];exact .nil
 |a::ks,q::ps,_,l=>by
  obtain⟨u,r,rfl,h1,h2⟩:=l.aW
  rw [List.zipWith_cons_cons,List.zipWith_cons_cons];refine .cons ?_ (zw hp h2);split
  ·exact hp
  ·exact h1
theorem qx{ks:List (List Int)}{ps:List PV}{us:List V}{k:List Int}{p:PV}{v:V}(l:ai W G ps us)(hp:Rep W G p v):ai W G (bj ks ps k p) (bj ks us k v):=by
 unfold bj;split
 ·exact zw hp l
 ·exact l.append (.cons hp .nil)
theorem mV{k:List Int}:∀{ks:List (List Int)} {ps:List PV} {us:List V},ai W G ps us->ai W G (bb ks ps k) (bb ks us k)
 |[],_,_,_=>by unfold bb;exact .nil
 |a::ks,[],_,l=>by simp only [ai] at l;subst l;unfold bb;exact .nil
 |a::ks,q::ps,_,l=>by
  obtain⟨u,r,rfl,h1,h2⟩:=l.aW
  unfold bb;split
  ·exact mV h2
  ·exact .cons h1 (mV h2)
end
theorem oM:∀{xs:List PV} {ns:List Int},intsOf xs=some ns->xs=ns.map .int
 |[],_,e=>by cases e;rfl
 |.int i::r,_,e=>by
  unfold intsOf at e;obtain⟨ns,h1,rfl⟩:=zzJ.mp e
  rw [oM h1];rfl
 |.az::_,_,e=>by cases e
 |.bl _::_,_,e=>by cases e
 |.str _::_,_,e=>by cases e
 |.tup _::_,_,e=>by cases e
 |.lst _::_,_,e=>by cases e
 |.exc _::_,_,e=>by cases e
 |.aX _ _::_,_,e=>by cases e
theorem eV{p:PV}{k:List Int}(h:fy p=some k):p=ah k:=by
 unfold fy at h;split at h
 ·rw [oM h];rfl
 ·cases h
end Ci
namespace L2
open PySem PySem.Spec PyProof.Rows
end L2
namespace Ci
open PySem L2
theorem iI{n:Nat}(h:n<=df):n<=sizeLine:=zzU h (by decide)
section
variable{X:Cx}{W:Wd}{H0 G H:Hp}
def dm(W:Wd)(G H:Hp)(r:PV)(Q:VK):Prop:=∀v G' H',aG W G H G' H'->Rep W G' r v->Q v H'
theorem dm.at{r:PV}{Q:VK}{v:V}(h:dm W G H r Q)(s:aB G H)(k:Rep W G r v):Q v H:=h v G H (.refl s) k
theorem dm.tup{xs:List PV}{Q:VK}{vs:List V}{p:Addr}(h:dm W G H (.tup xs) Q)(s:aB G H)(k:ai W G xs vs)(hp:H p=none):Q (.ref p) (upd H p (.tup vs)):=
 h _ _ _ (.new s hp) (.t (.inl aq) (ai.same (bx (s.free hp)) xs k))
theorem dm.lst{xs:List PV}{Q:VK}{vs:List V}{p:Addr}(h:dm W G H (.lst xs) Q)(s:aB G H)(k:ai W G xs vs)(hp:H p=none):Q (.ref p) (upd H p (.lst vs)):=
 h _ _ _ (.new s hp) (.l (.inl (.inl aq)) (ai.same (bx (s.free hp)) xs k))
theorem jl{f:PV->PV->Bool}:∀{xs ys:List PV},xs.length≠ys.length->eqs f xs ys=false
 |[],[],h=>absurd rfl h
 |_::xs,_::ys,h=>by simp only [eqs];rw [jl (xs:=xs) (ys:=ys) (λz=>h (by simp [z]))];simp
 |[],_::_,_=>rfl
 |_::_,[],_=>rfl
theorem iW{f:PV->PV->Bool}:∀{xs ys:List PV},xs.length=ys.length->eqs f xs ys=(List.range xs.length).all λj=>f (xs.getD j .az) (ys.getD j .az)
 |[],[],_=>rfl
 |x::xs,y::ys,h=>by
  simp only [eqs];rw [iW (xs:=xs) (ys:=ys) (by simpa using h),zzL,List.range_succ_eq_map,List.all_cons,List.all_map]
  rfl
 |[],_::_,h=>by simp at h
 |_::_,[],h=>by simp at h
theorem jz{f:PV->PV->Bool}:∀{xs ys:List PV},((List.range (min xs.length ys.length)).all (λj=>f (xs.getD j .az) (ys.getD j .az))&&xs.length==ys.length)=eqs f xs ys:=λ{xs ys}=>by
 by_cases h:xs.length=ys.length
 ·rw [iW h,h,Nat.min_self,beq_self_eq_true,Bool.and_true]
 ·rw [jl h,beq_eq_false_iff_ne.mpr h,Bool.and_false]
theorem rW{f:PV->PV->Bool}:∀{xs ys:List PV},xs.length=ys.length->(∀(j:Nat) x y,xs[j]?=some x->ys[j]?=some y->f x y=true)->eqs f xs ys=true
 |[],[],_,_=>rfl
 |x::xs,y::ys,h,k=>by
  simp only [eqs];rw [k 0 x y rfl rfl,rW (xs:=xs) (ys:=ys) (by simpa using h) λj a b ha hb=>k (j+1) a b (by simpa using ha) (by simpa using hb)]
  rfl
 |[],_::_,h,_=>by simp at h
 |_::_,[],h,_=>by simp at h
theorem dR(hK:W.K=X.K){a:Addr}{vs:List V}(h:om W.K H a vs):eF X.K H a vs:=by
 rw [hK] at h;rcases h with h|⟨ax,n,h1,h2,h3⟩
 ·exact .inl h
 ·exact .inr ⟨_,ax,n,h1,rfl,rfl,rfl,h2,h3⟩
theorem iZ{ae:List (Addr×Obj)}{σ:St}{s:Shared}(I:Inv X ae σ H s){a:Addr}{vs us:List V}(h1:eP X.K H a vs)(h2:eF X.K H a us):False:=by
 obtain⟨ax,_,⟨o,e,hc,_⟩,_⟩:=I.tuple h1
 obtain⟨aF,_,⟨o2,n,e2,hc2,_⟩,_⟩:=I.list h2
 rw [e] at e2;cases e2;rw [hc] at hc2;exact absurd hc2 (by decide)
theorem v7{ae:List (Addr×Obj)}{σ:St}{s:Shared}(I:Inv X ae σ H s)(hK:W.K=X.K)(sg:aB G H):∀(n:Nat) {p q:PV} {v:V},plain n p=true->plain n q=true->Top W H0 G H p v->Top W H0 G H q v->iS n p q=true:=by
 intro n
 induction n with
 |zero=>
  intro p q v hp hq h1 h2;cases p with
  |az=>
   cases h1.az;cases q with
   |az=>cases h2.az;rfl
   |bl y=>cases h2.bl
   |int y=>cases h2.int
   |str y=>cases h2.str
   |exc c=>exact aE hq
   |aX a b=>exact aE hq
   |tup xs=>exact aE hq
   |lst xs=>exact aE hq
  |bl x=>
   cases h1.bl;cases q with
   |az=>cases h2.az
   |bl y=>cases h2.bl;exact beq_self_eq_true _
   |int y=>cases h2.int
   |str y=>cases h2.str
   |exc c=>exact aE hq
   |aX a b=>exact aE hq
   |tup xs=>exact aE hq
   |lst xs=>exact aE hq
  |int x=>
   cases h1.int;cases q with
   |az=>cases h2.az
   |bl y=>cases h2.bl
   |int y=>cases h2.int;exact beq_self_eq_true _
   |str y=>cases h2.str
   |exc c=>exact aE hq
   |aX a b=>exact aE hq
   |tup xs=>exact aE hq
   |lst xs=>exact aE hq
  |str x=>
   cases h1.str;cases q with
   |az=>cases h2.az
   |bl y=>cases h2.bl
   |int y=>cases h2.int
   |str y=>cases h2.str;exact beq_self_eq_true _
   |exc c=>exact aE hq
   |aX a b=>exact aE hq
   |tup xs=>exact aE hq
   |lst xs=>exact aE hq
  |exc c=>exact aE hp
  |aX a b=>exact aE hp
  |tup xs=>exact aE hp
  |lst xs=>exact aE hp
 |succ n ih=>
  intro p q v hp hq h1 h2;have el:∀{xs ys:List PV} {vs:List V},xs.all (plain n)=true->ys.all (plain n)=true->ai W G xs vs->ai W G ys vs->eqs (iS n) xs ys=true:=λ{xs ys vs} a1 a2 l1 l2=>
   rW (by rw [<-l1.length,l2.length]) λj x y ex ey=>by
    obtain⟨u,eu,ku⟩:=l1.jW ex
    obtain⟨y',ey',ky⟩:=l2.get eu
    rw [ey] at ey';cases ey';exact ih (zzT.mp a1 _ (zzD ex)) (zzT.mp a2 _ (zzD ey)) (.inl ku) (.inl ky)
  cases p with
  |exc c=>exact aE hp
  |aX a b=>exact aE hp
  |tup xs=>
   obtain⟨a,vs,rfl,sq,l⟩:=h1.tup sg
   rw [hK] at sq;cases q with
   |exc c=>exact aE hq
   |aX a b=>exact aE hq
   |az=>cases h2.az
   |bl b=>cases h2.bl
   |int b=>cases h2.int
   |str b=>cases h2.str
   |lst ys=>
    obtain⟨b,us,e,sq20,l2⟩:=h2.lst sg
    have bA:=dR hK sq20
    cases e;exact(iZ I sq bA).elim
   |tup ys=>
    obtain⟨b,us,e,bA,l2⟩:=h2.tup sg
    rw [hK] at bA;cases e;cases I.j7 sq bA;exact el hp hq l l2
  |lst xs=>
   obtain⟨a,vs,rfl,sq0,l⟩:=h1.lst sg
   have sq:=dR hK sq0
   cases q with
   |exc c=>exact aE hq
   |aX a b=>exact aE hq
   |az=>cases h2.az
   |bl b=>cases h2.bl
   |int b=>cases h2.int
   |str b=>cases h2.str
   |tup ys=>
    obtain⟨b,us,e,bA,l2⟩:=h2.tup sg
    rw [hK] at bA;cases e;exact(iZ I bA sq).elim
   |lst ys=>
    obtain⟨b,us,e,sq20,l2⟩:=h2.lst sg
    have bA:=dR hK sq20
    cases e;cases I.mR sq bA;exact el hp hq l l2
  |az=>
   cases h1.az;cases q with
   |az=>cases h2.az;rfl
   |bl y=>cases h2.bl
   |int y=>cases h2.int
   |str y=>cases h2.str
   |tup ys=>obtain⟨b,us,e,_⟩:=h2.tup sg;cases e
   |lst ys=>obtain⟨b,us,e,_⟩:=h2.lst sg;cases e
   |exc c=>exact aE hq
   |aX a b=>exact aE hq
  |bl x=>
   cases h1.bl;cases q with
   |az=>cases h2.az
   |bl y=>cases h2.bl;exact beq_self_eq_true _
   |int y=>cases h2.int
   |str y=>cases h2.str
   |tup ys=>obtain⟨b,us,e,_⟩:=h2.tup sg;cases e
   |lst ys=>obtain⟨b,us,e,_⟩:=h2.lst sg;cases e
   |exc c=>exact aE hq
   |aX a b=>exact aE hq
  |int x=>
   cases h1.int;cases q with
   |az=>cases h2.az
   |bl y=>cases h2.bl
   |int y=>cases h2.int;exact beq_self_eq_true _
   |str y=>cases h2.str
   |tup ys=>obtain⟨b,us,e,_⟩:=h2.tup sg;cases e
   |lst ys=>obtain⟨b,us,e,_⟩:=h2.lst sg;cases e
   |exc c=>exact aE hq
   |aX a b=>exact aE hq
  |str x=>
   cases h1.str;cases q with
   |az=>cases h2.az
   |bl y=>cases h2.bl
   |int y=>cases h2.int
   |str y=>cases h2.str;exact beq_self_eq_true _
   |tup ys=>obtain⟨b,us,e,_⟩:=h2.tup sg;cases e
   |lst ys=>obtain⟨b,us,e,_⟩:=h2.lst sg;cases e
   |exc c=>exact aE hq
   |aX a b=>exact aE hq
theorem ji{ae:List (Addr×Obj)}{σ:St}{s:Shared}{A:Around}{p q:PV}{v u:V}{v' u':Value}(hp:plain 0 p=true)(hq:plain 0 q=true)(h1:Top W H0 G H p v)(h2:Top W H0 G H q u)(r1:RelV v v')(r2:RelV u u')(n:Nat):SeqAt.EqAt A s v' u' (iS n p q):=by
 cases p with
 |az=>
  cases h1.az;cases r1;cases q with
  |az=>cases h2.az;cases r2;cases n<;>exact SeqAt.EqAt.same _
  |bl y=>cases h2.bl;cases r2;cases n<;>exact SeqAt.EqAt.none_bool _
  |int y=>cases h2.int;obtain⟨t2,rfl⟩:=r2;cases n<;>exact SeqAt.EqAt.none_int _ _
  |str y=>cases h2.str;obtain⟨t2,rfl⟩:=r2;cases n<;>exact SeqAt.EqAt.none_str _ _
  |exc c=>exact aE hq
  |aX a b=>exact aE hq
  |tup xs=>exact aE hq
  |lst xs=>exact aE hq
 |bl x=>
  cases h1.bl;cases r1;cases q with
  |az=>cases h2.az;cases r2;cases n<;>exact SeqAt.EqAt.bool_none _
  |bl y=>cases h2.bl;cases r2;cases n<;>exact SeqAt.EqAt.bool_bool _ _
  |int y=>cases h2.int;obtain⟨t2,rfl⟩:=r2;cases n<;>exact SeqAt.EqAt.bool_int _ _ _
  |str y=>cases h2.str;obtain⟨t2,rfl⟩:=r2;cases n<;>exact SeqAt.EqAt.bool_str _ _ _
  |exc c=>exact aE hq
  |aX a b=>exact aE hq
  |tup xs=>exact aE hq
  |lst xs=>exact aE hq
 |int x=>
  cases h1.int;obtain⟨t1,rfl⟩:=r1
  cases q with
  |az=>cases h2.az;cases r2;cases n<;>exact SeqAt.EqAt.int_none _ _
  |bl y=>cases h2.bl;cases r2;cases n<;>exact SeqAt.EqAt.int_bool _ _ _
  |int y=>cases h2.int;obtain⟨t2,rfl⟩:=r2;cases n<;>exact SeqAt.EqAt.int_int _ _ _ _
  |str y=>cases h2.str;obtain⟨t2,rfl⟩:=r2;cases n<;>exact SeqAt.EqAt.int_str _ _ _ _
  |exc c=>exact aE hq
  |aX a b=>exact aE hq
  |tup xs=>exact aE hq
  |lst xs=>exact aE hq
 |str x=>
  cases h1.str;obtain⟨t1,rfl⟩:=r1
  cases q with
  |az=>cases h2.az;cases r2;cases n<;>exact SeqAt.EqAt.str_none _ _
  |bl y=>cases h2.bl;cases r2;cases n<;>exact SeqAt.EqAt.str_bool _ _ _
  |int y=>cases h2.int;obtain⟨t2,rfl⟩:=r2;cases n<;>exact SeqAt.EqAt.str_int _ _ _ _
  |str y=>cases h2.str;obtain⟨t2,rfl⟩:=r2;cases n<;>exact SeqAt.EqAt.str_str _ _ _ _
  |exc c=>exact aE hq
  |aX a b=>exact aE hq
  |tup xs=>exact aE hq
  |lst xs=>exact aE hq
 |exc c=>exact aE hp
 |aX a b=>exact aE hp
 |tup xs=>exact aE hp
 |lst xs=>exact aE hp
theorem Cc{ae:List (Addr×Obj)}{σ:St}{s:Shared}(I:Inv X ae σ H s)(hK:W.K=X.K)(sg:aB G H):∀(n:Nat) {A:Around} {p q:PV} {v u:V} {v' u':Value},A.units+(n+1)<cLine->plain n p=true->plain n q=true->Top W H0 G H p v->Top W H0 G H q u->RelV v v'->RelV u u'->
 SeqAt.EqAt A s v' u' (iS n p q):=by
 intro n
 induction n with
 |zero=>
  intro A p q v u v' u' hu hp hq h1 h2 r1 r2;exact ji (ae:=ae) (σ:=σ) hp hq h1 h2 r1 r2 0
 |succ n ih=>
  intro A p q v u v' u' hu hp hq h1 h2 r1 r2;have c8:A.units<cLine:=by omega
  have el:∀{xs ys:List PV} {vs us:List V} {ax aF:List Value},xs.all (plain n)=true->ys.all (plain n)=true->ai W G xs vs->ai W G ys us->Vals vs ax->Vals us aF->∀j (h1:j<ax.toArray.size) (h2:j<aF.toArray.size),
   SeqAt.EqAt A.in1 s ax.toArray[j] aF.toArray[j] (iS n (xs.getD j .az) (ys.getD j .az)):=λ{xs ys vs us ax aF} a1 a2 l1 l2 q1 q2 j g1 g2=>by
   obtain⟨x,hx,rx⟩:=jw q1 g1
   obtain⟨y,hy,ry⟩:=jw q2 g2
   obtain⟨px,ex,kx⟩:=l1.get hx
   obtain⟨py,ey,ky⟩:=l2.get hy
   rw [zzK,zzK,ex,ey];exact ih (by show A.units+1+(n+1)<_;omega) (zzT.mp a1 _ (zzD ex)) (zzT.mp a2 _ (zzD ey)) (.inl kx) (.inl ky) rx ry
  cases p with
  |exc c=>exact aE hp
  |aX a b=>exact aE hp
  |tup xs=>
   have pz:=h1
   obtain⟨a,vs,rfl,sq,l⟩:=h1.tup sg
   rw [hK] at sq;cases r1;obtain⟨ax,q1,z1,_⟩:=I.tuple sq
   have gb:s.heap.IsTuple a ax.toArray:=z1
   cases q with
   |exc c=>exact aE hq
   |aX a b=>exact aE hq
   |az=>cases h2.az;cases r2;exact SeqAt.EqAt.tuple_none gb c8
   |bl b=>cases h2.bl;cases r2;exact SeqAt.EqAt.tuple_bool _ gb c8
   |int b=>cases h2.int;obtain⟨t2,rfl⟩:=r2;exact SeqAt.EqAt.tuple_int _ _ gb c8
   |str b=>cases h2.str;obtain⟨t2,rfl⟩:=r2;exact SeqAt.EqAt.tuple_str _ _ gb c8
   |lst ys=>
    obtain⟨b,us,rfl,sq20,l2⟩:=h2.lst sg
    have bA:=dR hK sq20
    cases r2;obtain⟨aF,q2,z2,_⟩:=I.list bA
    exact SeqAt.EqAt.tuple_list gb z2.isList c8
   |tup ys=>
    have v9:=h2
    obtain⟨b,us,rfl,bA,l2⟩:=h2.tup sg
    rw [hK] at bA;cases r2;obtain⟨aF,q2,z2,_⟩:=I.tuple bA
    have m1:ax.length=xs.length:=by rw [<-q1.length,l.length]
    have m2:aF.length=ys.length:=by rw [<-q2.length,l2.length]
    by_cases mI:a=b
    ·subst mI;rw [v7 I hK sg (n+1) hp hq pz v9];exact SeqAt.EqAt.same _
    ·refine SeqAt.EqAt.of_refs mI ?_;have:=SeqAt.RcAt.tuples (e:=λj=>iS n (xs.getD j .az) (ys.getD j .az)) gb (show s.heap.IsTuple b aF.toArray from z2) c8 (el hp hq l l2 q1 q2)
     rw [zzC,zzC,m1,m2,jz] at this;exact this
  |lst xs=>
   have pz:=h1
   obtain⟨a,vs,rfl,sq0,l⟩:=h1.lst sg
   have sq:=dR hK sq0
   cases r1;obtain⟨ax,q1,z1,_⟩:=I.list sq
   cases q with
   |exc c=>exact aE hq
   |aX a b=>exact aE hq
   |az=>cases h2.az;cases r2;exact SeqAt.EqAt.list_none z1.isList c8
   |bl b=>cases h2.bl;cases r2;exact SeqAt.EqAt.list_bool _ z1.isList c8
   |int b=>cases h2.int;obtain⟨t2,rfl⟩:=r2;exact SeqAt.EqAt.list_int _ _ z1.isList c8
   |str b=>cases h2.str;obtain⟨t2,rfl⟩:=r2;exact SeqAt.EqAt.list_str _ _ z1.isList c8
   |tup ys=>
    obtain⟨b,us,rfl,bA,l2⟩:=h2.tup sg
    rw [hK] at bA;cases r2;obtain⟨aF,q2,z2,_⟩:=I.tuple bA
    exact SeqAt.EqAt.list_tuple z1.isList (show s.heap.IsTuple b aF.toArray from z2) c8
   |lst ys=>
    have v9:=h2
    obtain⟨b,us,rfl,sq20,l2⟩:=h2.lst sg
    have bA:=dR hK sq20
    cases r2;obtain⟨aF,q2,z2,_⟩:=I.list bA
    have m1:ax.length=xs.length:=by rw [<-q1.length,l.length]
    have m2:aF.length=ys.length:=by rw [<-q2.length,l2.length]
    by_cases mI:a=b
    ·subst mI;rw [v7 I hK sg (n+1) hp hq pz v9];exact SeqAt.EqAt.same _
    ·refine SeqAt.EqAt.of_refs mI ?_
     by_cases hl:xs.length=ys.length
     ·have:=SeqAt.RcAt.lists (e:=λj=>iS n (xs.getD j .az) (ys.getD j .az)) z1.isList z2.isList (by rw [zzC,zzC];omega) c8 (el hp hq l l2 q1 q2)
      rw [zzC,m1,<-iW hl] at this;exact this
     ·have:=SeqAt.RcAt.lists_lengths z1.isList z2.isList (by rw [zzC,zzC,m1,m2];simp [hl]) c8
      show SeqAt.RcAt _ _ _ _ (eqs (iS n) xs ys)
      rw [jl hl];exact this
  |az=>
   have pz:=h1
   cases h1.az;cases r1;cases q with
   |tup ys=>
    obtain⟨b,us,rfl,bA,l2⟩:=h2.tup sg
    rw [hK] at bA;cases r2;obtain⟨aF,q2,z2,_⟩:=I.tuple bA
    exact SeqAt.EqAt.none_tuple (show s.heap.IsTuple b aF.toArray from z2) c8
   |lst ys=>
    obtain⟨b,us,rfl,sq20,l2⟩:=h2.lst sg
    have bA:=dR hK sq20
    cases r2;obtain⟨aF,q2,z2,_⟩:=I.list bA
    exact SeqAt.EqAt.none_list z2.isList c8
   |exc c=>exact aE hq
   |aX a b=>exact aE hq
   |_=>exact ji (ae:=ae) (σ:=σ) rfl rfl pz h2 rfl r2 (n+1)
  |bl x=>
   have pz:=h1
   cases h1.bl;cases r1;cases q with
   |tup ys=>
    obtain⟨b,us,rfl,bA,l2⟩:=h2.tup sg
    rw [hK] at bA;cases r2;obtain⟨aF,q2,z2,_⟩:=I.tuple bA
    exact SeqAt.EqAt.bool_tuple _ (show s.heap.IsTuple b aF.toArray from z2) c8
   |lst ys=>
    obtain⟨b,us,rfl,sq20,l2⟩:=h2.lst sg
    have bA:=dR hK sq20
    cases r2;obtain⟨aF,q2,z2,_⟩:=I.list bA
    exact SeqAt.EqAt.bool_list _ z2.isList c8
   |exc c=>exact aE hq
   |aX a b=>exact aE hq
   |_=>exact ji (ae:=ae) (σ:=σ) rfl rfl pz h2 rfl r2 (n+1)
  |int x=>
   have pz:=h1
   have Q7:=r1
   cases h1.int;obtain⟨t,rfl⟩:=r1
   cases q with
   |tup ys=>
    obtain⟨b,us,rfl,bA,l2⟩:=h2.tup sg
    rw [hK] at bA;cases r2;obtain⟨aF,q2,z2,_⟩:=I.tuple bA
    exact SeqAt.EqAt.int_tuple _ _ (show s.heap.IsTuple b aF.toArray from z2) c8
   |lst ys=>
    obtain⟨b,us,rfl,sq20,l2⟩:=h2.lst sg
    have bA:=dR hK sq20
    cases r2;obtain⟨aF,q2,z2,_⟩:=I.list bA
    exact SeqAt.EqAt.int_list _ _ z2.isList c8
   |exc c=>exact aE hq
   |aX a b=>exact aE hq
   |_=>exact ji (ae:=ae) (σ:=σ) rfl rfl pz h2 Q7 r2 (n+1)
  |str x=>
   have pz:=h1
   have Q7:=r1
   cases h1.str;obtain⟨t,rfl⟩:=r1
   cases q with
   |tup ys=>
    obtain⟨b,us,rfl,bA,l2⟩:=h2.tup sg
    rw [hK] at bA;cases r2;obtain⟨aF,q2,z2,_⟩:=I.tuple bA
    exact SeqAt.EqAt.str_tuple _ _ (show s.heap.IsTuple b aF.toArray from z2) c8
   |lst ys=>
    obtain⟨b,us,rfl,sq20,l2⟩:=h2.lst sg
    have bA:=dR hK sq20
    cases r2;obtain⟨aF,q2,z2,_⟩:=I.list bA
    exact SeqAt.EqAt.str_list _ _ z2.isList c8
   |exc c=>exact aE hq
   |aX a b=>exact aE hq
   |_=>exact ji (ae:=ae) (σ:=σ) rfl rfl pz h2 Q7 r2 (n+1)
end
section
variable{X:Cx}{W:Wd}{H0 G H:Hp}
theorem Nk{ae:List (Addr×Obj)}{σ:St}{s:Shared}(I:Inv X ae σ H s)(hK:W.K=X.K)(sg:aB G H)(n:Nat){A:Around}{p q:PV}{v u:V}{v' u':Value}(hu:A.units+(n+2)<cLine)(hp:plain (n+1) p=true)(hq:plain (n+1) q=true)(h1:Top W H0 G H p v)(h2:Top W H0 G H q u)(r1:RelV v v')(r2:RelV u u'):
 SeqAt.RcAt A s v' u' (iS (n+1) p q):=by
 have c8:A.units<cLine:=by omega
 have el:∀{xs ys:List PV} {vs us:List V} {ax aF:List Value},xs.all (plain n)=true->ys.all (plain n)=true->ai W G xs vs->ai W G ys us->Vals vs ax->Vals us aF->∀j (h1:j<ax.toArray.size) (h2:j<aF.toArray.size),
  SeqAt.EqAt A.in1 s ax.toArray[j] aF.toArray[j] (iS n (xs.getD j .az) (ys.getD j .az)):=λ{xs ys vs us ax aF} a1 a2 l1 l2 q1 q2 j g1 g2=>by
  obtain⟨x,hx,rx⟩:=jw q1 g1
  obtain⟨y,hy,ry⟩:=jw q2 g2
  obtain⟨px,ex,kx⟩:=l1.get hx
  obtain⟨py,ey,ky⟩:=l2.get hy
  rw [zzK,zzK,ex,ey];exact Cc (H0:=H0) I hK sg n (by show A.units+1+(n+1)<_;omega) (zzT.mp a1 _ (zzD ex)) (zzT.mp a2 _ (zzD ey)) (.inl kx) (.inl ky) rx ry
 cases p with
 |az=>
  cases h1.az;cases r1;cases q with
  |az=>cases h2.az;cases r2;exact SeqAt.RcAt.none_none
  |bl y=>cases h2.bl;cases r2;exact SeqAt.RcAt.none_bool _
  |int y=>cases h2.int;obtain⟨t2,rfl⟩:=r2;exact SeqAt.RcAt.none_int _ _
  |str y=>cases h2.str;obtain⟨t2,rfl⟩:=r2;exact SeqAt.RcAt.none_str _ _
  |tup ys=>
   obtain⟨b,us,rfl,bA,l2⟩:=h2.tup sg
   rw [hK] at bA;cases r2;obtain⟨aF,q2,z2,_⟩:=I.tuple bA
   exact SeqAt.RcAt.none_tuple (show s.heap.IsTuple b aF.toArray from z2) c8
  |lst ys=>
   obtain⟨b,us,rfl,bA,l2⟩:=h2.lst sg
   cases r2;obtain⟨aF,q2,z2,_⟩:=I.list (dR hK bA)
   exact SeqAt.RcAt.none_list z2.isList c8
  |exc c=>exact aE hq
  |aX a b=>exact aE hq
 |bl x=>
  cases h1.bl;cases r1;cases q with
  |az=>cases h2.az;cases r2;exact SeqAt.RcAt.bool_none _
  |bl y=>cases h2.bl;cases r2;exact SeqAt.RcAt.bool_bool _ _
  |int y=>cases h2.int;obtain⟨t2,rfl⟩:=r2;exact SeqAt.RcAt.bool_int _ _ _
  |str y=>cases h2.str;obtain⟨t2,rfl⟩:=r2;exact SeqAt.RcAt.bool_str _ _ _
  |tup ys=>
   obtain⟨b,us,rfl,bA,l2⟩:=h2.tup sg
   rw [hK] at bA;cases r2;obtain⟨aF,q2,z2,_⟩:=I.tuple bA
   exact SeqAt.RcAt.bool_tuple _ (show s.heap.IsTuple b aF.toArray from z2) c8
  |lst ys=>
   obtain⟨b,us,rfl,bA,l2⟩:=h2.lst sg
   cases r2;obtain⟨aF,q2,z2,_⟩:=I.list (dR hK bA)
   exact SeqAt.RcAt.bool_list _ z2.isList c8
  |exc c=>exact aE hq
  |aX a b=>exact aE hq
 |int x=>
  cases h1.int;obtain⟨t1,rfl⟩:=r1
  cases q with
  |az=>cases h2.az;cases r2;exact SeqAt.RcAt.int_none _ _
  |bl y=>cases h2.bl;cases r2;exact SeqAt.RcAt.int_bool _ _ _
  |int y=>cases h2.int;obtain⟨t2,rfl⟩:=r2;exact SeqAt.RcAt.int_int _ _ _ _
  |str y=>cases h2.str;obtain⟨t2,rfl⟩:=r2;exact SeqAt.RcAt.int_str _ _ _ _
  |tup ys=>
   obtain⟨b,us,rfl,bA,l2⟩:=h2.tup sg
   rw [hK] at bA;cases r2;obtain⟨aF,q2,z2,_⟩:=I.tuple bA
   exact SeqAt.RcAt.int_tuple _ _ (show s.heap.IsTuple b aF.toArray from z2) c8
  |lst ys=>
   obtain⟨b,us,rfl,bA,l2⟩:=h2.lst sg
   cases r2;obtain⟨aF,q2,z2,_⟩:=I.list (dR hK bA)
   exact SeqAt.RcAt.int_list _ _ z2.isList c8
  |exc c=>exact aE hq
  |aX a b=>exact aE hq
 |str x=>
  cases h1.str;obtain⟨t1,rfl⟩:=r1
  cases q with
  |az=>cases h2.az;cases r2;exact SeqAt.RcAt.str_none _ _
  |bl y=>cases h2.bl;cases r2;exact SeqAt.RcAt.str_bool _ _ _
  |int y=>cases h2.int;obtain⟨t2,rfl⟩:=r2;exact SeqAt.RcAt.str_int _ _ _ _
  |str y=>cases h2.str;obtain⟨t2,rfl⟩:=r2;exact SeqAt.RcAt.str_str _ _ _ _
  |tup ys=>
   obtain⟨b,us,rfl,bA,l2⟩:=h2.tup sg
   rw [hK] at bA;cases r2;obtain⟨aF,q2,z2,_⟩:=I.tuple bA
   exact SeqAt.RcAt.str_tuple _ _ (show s.heap.IsTuple b aF.toArray from z2) c8
  |lst ys=>
   obtain⟨b,us,rfl,bA,l2⟩:=h2.lst sg
   cases r2;obtain⟨aF,q2,z2,_⟩:=I.list (dR hK bA)
   exact SeqAt.RcAt.str_list _ _ z2.isList c8
  |exc c=>exact aE hq
  |aX a b=>exact aE hq
 |tup xs=>
  obtain⟨a,vs,rfl,sq,l⟩:=h1.tup sg
  cases r1;rw [hK] at sq;obtain⟨ax,q1,z1,_⟩:=I.tuple sq
  have gb:s.heap.IsTuple a ax.toArray:=z1
  cases q with
  |az=>cases h2.az;cases r2;exact SeqAt.RcAt.tuple_none gb c8
  |bl y=>cases h2.bl;cases r2;exact SeqAt.RcAt.tuple_bool _ gb c8
  |int y=>cases h2.int;obtain⟨t2,rfl⟩:=r2;exact SeqAt.RcAt.tuple_int _ _ gb c8
  |str y=>cases h2.str;obtain⟨t2,rfl⟩:=r2;exact SeqAt.RcAt.tuple_str _ _ gb c8
  |exc c=>exact aE hq
  |aX a b=>exact aE hq
  |lst ys=>
   obtain⟨b,us,rfl,bA,l2⟩:=h2.lst sg
   cases r2;obtain⟨aF,q2,z2,_⟩:=I.list (dR hK bA)
   have qh:=z2.isList
   exact SeqAt.RcAt.tuple_list gb qh c8
  |tup ys=>
   obtain⟨b,us,rfl,bA,l2⟩:=h2.tup sg
   cases r2;rw [hK] at bA;obtain⟨aF,q2,z2,_⟩:=I.tuple bA
   have qh:s.heap.IsTuple b aF.toArray:=z2
   have m1:ax.length=xs.length:=by rw [<-q1.length,l.length]
   have m2:aF.length=ys.length:=by rw [<-q2.length,l2.length]
   have:=SeqAt.RcAt.tuples (e:=λj=>iS n (xs.getD j .az) (ys.getD j .az)) gb qh c8 (el hp hq l l2 q1 q2)
   rw [zzC,zzC,m1,m2,jz] at this;exact this
 |lst xs=>
  obtain⟨a,vs,rfl,sq,l⟩:=h1.lst sg
  cases r1;obtain⟨ax,q1,z1,_⟩:=I.list (dR hK sq)
  have gb:=z1.isList
  cases q with
  |az=>cases h2.az;cases r2;exact SeqAt.RcAt.list_none gb c8
  |bl y=>cases h2.bl;cases r2;exact SeqAt.RcAt.list_bool _ gb c8
  |int y=>cases h2.int;obtain⟨t2,rfl⟩:=r2;exact SeqAt.RcAt.list_int _ _ gb c8
  |str y=>cases h2.str;obtain⟨t2,rfl⟩:=r2;exact SeqAt.RcAt.list_str _ _ gb c8
  |exc c=>exact aE hq
  |aX a b=>exact aE hq
  |tup ys=>
   obtain⟨b,us,rfl,bA,l2⟩:=h2.tup sg
   cases r2;rw [hK] at bA;obtain⟨aF,q2,z2,_⟩:=I.tuple bA
   have qh:s.heap.IsTuple b aF.toArray:=z2
   exact SeqAt.RcAt.list_tuple gb qh c8
  |lst ys=>
   obtain⟨b,us,rfl,bA,l2⟩:=h2.lst sg
   cases r2;obtain⟨aF,q2,z2,_⟩:=I.list (dR hK bA)
   have qh:=z2.isList
   have m1:ax.length=xs.length:=by rw [<-q1.length,l.length]
   have m2:aF.length=ys.length:=by rw [<-q2.length,l2.length]
   by_cases hl:xs.length=ys.length
   ·have:=SeqAt.RcAt.lists (e:=λj=>iS n (xs.getD j .az) (ys.getD j .az)) gb qh (by rw [zzC,zzC];omega) c8 (el hp hq l l2 q1 q2)
    rw [zzC,m1,<-iW hl] at this;exact this
   ·have:=SeqAt.RcAt.lists_lengths gb qh (by rw [zzC,zzC,m1,m2];simp [hl]) c8
    show SeqAt.RcAt _ _ _ _ (eqs (iS n) xs ys)
    rw [jl hl];exact this
 |exc c=>exact aE hp
 |aX a b=>exact aE hp
theorem D4{ae:List (Addr×Obj)}{σ:St}{s:Shared}(I:Inv X ae σ H s)(hK:W.K=X.K)(sg:aB G H)(n:Nat){A:Around}{p q:PV}{v u:V}{v' u':Value}(hu:A.units+(n+2)<cLine)(hp:plain (n+1) p=true)(hq:plain (n+1) q=true)(h1:Top W H0 G H p v)(h2:Top W H0 G H q u)(r1:RelV v v')(r2:RelV u u'):
 SeqAt.RcNeAt A s v' u' (!iS (n+1) p q):=by
 have c8:A.units<cLine:=by omega
 have el:∀{xs ys:List PV} {vs us:List V} {ax aF:List Value},xs.all (plain n)=true->ys.all (plain n)=true->ai W G xs vs->ai W G ys us->Vals vs ax->Vals us aF->∀j (h1:j<ax.toArray.size) (h2:j<aF.toArray.size),
  SeqAt.EqAt A.in1 s ax.toArray[j] aF.toArray[j] (iS n (xs.getD j .az) (ys.getD j .az)):=λ{xs ys vs us ax aF} a1 a2 l1 l2 q1 q2 j g1 g2=>by
  obtain⟨x,hx,rx⟩:=jw q1 g1
  obtain⟨y,hy,ry⟩:=jw q2 g2
  obtain⟨px,ex,kx⟩:=l1.get hx
  obtain⟨py,ey,ky⟩:=l2.get hy
  rw [zzK,zzK,ex,ey];exact Cc (H0:=H0) I hK sg n (by show A.units+1+(n+1)<_;omega) (zzT.mp a1 _ (zzD ex)) (zzT.mp a2 _ (zzD ey)) (.inl kx) (.inl ky) rx ry
 cases p with
 |az=>
  cases h1.az;cases r1;cases q with
  |az=>cases h2.az;cases r2;exact SeqAt.RcNeAt.none_none
  |bl y=>cases h2.bl;cases r2;exact SeqAt.RcNeAt.none_bool _
  |int y=>cases h2.int;obtain⟨t2,rfl⟩:=r2;exact SeqAt.RcNeAt.none_int _ _
  |str y=>cases h2.str;obtain⟨t2,rfl⟩:=r2;exact SeqAt.RcNeAt.none_str _ _
  |tup ys=>
   obtain⟨b,us,rfl,bA,l2⟩:=h2.tup sg
   rw [hK] at bA;cases r2;obtain⟨aF,q2,z2,_⟩:=I.tuple bA
   exact SeqAt.RcNeAt.none_tuple (show s.heap.IsTuple b aF.toArray from z2) c8
  |lst ys=>
   obtain⟨b,us,rfl,bA,l2⟩:=h2.lst sg
   cases r2;obtain⟨aF,q2,z2,_⟩:=I.list (dR hK bA)
   exact SeqAt.RcNeAt.none_list z2.isList c8
  |exc c=>exact aE hq
  |aX a b=>exact aE hq
 |bl x=>
  cases h1.bl;cases r1;cases q with
  |az=>cases h2.az;cases r2;exact SeqAt.RcNeAt.bool_none _
  |bl y=>cases h2.bl;cases r2;exact SeqAt.RcNeAt.bool_bool _ _
  |int y=>cases h2.int;obtain⟨t2,rfl⟩:=r2;exact SeqAt.RcNeAt.bool_int _ _ _
  |str y=>cases h2.str;obtain⟨t2,rfl⟩:=r2;exact SeqAt.RcNeAt.bool_str _ _ _
  |tup ys=>
   obtain⟨b,us,rfl,bA,l2⟩:=h2.tup sg
   rw [hK] at bA;cases r2;obtain⟨aF,q2,z2,_⟩:=I.tuple bA
   exact SeqAt.RcNeAt.bool_tuple _ (show s.heap.IsTuple b aF.toArray from z2) c8
  |lst ys=>
   obtain⟨b,us,rfl,bA,l2⟩:=h2.lst sg
   cases r2;obtain⟨aF,q2,z2,_⟩:=I.list (dR hK bA)
   exact SeqAt.RcNeAt.bool_list _ z2.isList c8
  |exc c=>exact aE hq
  |aX a b=>exact aE hq
 |int x=>
  cases h1.int;obtain⟨t1,rfl⟩:=r1
  cases q with
  |az=>cases h2.az;cases r2;exact SeqAt.RcNeAt.int_none _ _
  |bl y=>cases h2.bl;cases r2;exact SeqAt.RcNeAt.int_bool _ _ _
  |int y=>cases h2.int;obtain⟨t2,rfl⟩:=r2;exact SeqAt.RcNeAt.int_int _ _ _ _
  |str y=>cases h2.str;obtain⟨t2,rfl⟩:=r2;exact SeqAt.RcNeAt.int_str _ _ _ _
  |tup ys=>
   obtain⟨b,us,rfl,bA,l2⟩:=h2.tup sg
   rw [hK] at bA;cases r2;obtain⟨aF,q2,z2,_⟩:=I.tuple bA
   exact SeqAt.RcNeAt.int_tuple _ _ (show s.heap.IsTuple b aF.toArray from z2) c8
  |lst ys=>
   obtain⟨b,us,rfl,bA,l2⟩:=h2.lst sg
   cases r2;obtain⟨aF,q2,z2,_⟩:=I.list (dR hK bA)
   exact SeqAt.RcNeAt.int_list _ _ z2.isList c8
  |exc c=>exact aE hq
  |aX a b=>exact aE hq
 |str x=>
  cases h1.str;obtain⟨t1,rfl⟩:=r1
  cases q with
  |az=>cases h2.az;cases r2;exact SeqAt.RcNeAt.str_none _ _
  |bl y=>cases h2.bl;cases r2;exact SeqAt.RcNeAt.str_bool _ _ _
  |int y=>cases h2.int;obtain⟨t2,rfl⟩:=r2;exact SeqAt.RcNeAt.str_int _ _ _ _
  |str y=>cases h2.str;obtain⟨t2,rfl⟩:=r2;exact SeqAt.RcNeAt.str_str _ _ _ _
  |tup ys=>
   obtain⟨b,us,rfl,bA,l2⟩:=h2.tup sg
   rw [hK] at bA;cases r2;obtain⟨aF,q2,z2,_⟩:=I.tuple bA
   exact SeqAt.RcNeAt.str_tuple _ _ (show s.heap.IsTuple b aF.toArray from z2) c8
  |lst ys=>
   obtain⟨b,us,rfl,bA,l2⟩:=h2.lst sg
   cases r2;obtain⟨aF,q2,z2,_⟩:=I.list (dR hK bA)
   exact SeqAt.RcNeAt.str_list _ _ z2.isList c8
  |exc c=>exact aE hq
  |aX a b=>exact aE hq
 |tup xs=>
  obtain⟨a,vs,rfl,sq,l⟩:=h1.tup sg
  cases r1;rw [hK] at sq;obtain⟨ax,q1,z1,_⟩:=I.tuple sq
  have gb:s.heap.IsTuple a ax.toArray:=z1
  cases q with
  |az=>cases h2.az;cases r2;exact SeqAt.RcNeAt.tuple_none gb c8
  |bl y=>cases h2.bl;cases r2;exact SeqAt.RcNeAt.tuple_bool _ gb c8
  |int y=>cases h2.int;obtain⟨t2,rfl⟩:=r2;exact SeqAt.RcNeAt.tuple_int _ _ gb c8
  |str y=>cases h2.str;obtain⟨t2,rfl⟩:=r2;exact SeqAt.RcNeAt.tuple_str _ _ gb c8
  |exc c=>exact aE hq
  |aX a b=>exact aE hq
  |lst ys=>
   obtain⟨b,us,rfl,bA,l2⟩:=h2.lst sg
   cases r2;obtain⟨aF,q2,z2,_⟩:=I.list (dR hK bA)
   have qh:=z2.isList
   exact SeqAt.RcNeAt.tuple_list gb qh c8
  |tup ys=>
   obtain⟨b,us,rfl,bA,l2⟩:=h2.tup sg
   cases r2;rw [hK] at bA;obtain⟨aF,q2,z2,_⟩:=I.tuple bA
   have qh:s.heap.IsTuple b aF.toArray:=z2
   have m1:ax.length=xs.length:=by rw [<-q1.length,l.length]
   have m2:aF.length=ys.length:=by rw [<-q2.length,l2.length]
   have:=SeqAt.RcNeAt.tuples (e:=λj=>iS n (xs.getD j .az) (ys.getD j .az)) gb qh c8 (el hp hq l l2 q1 q2)
   rw [zzC,zzC,m1,m2,jz] at this;exact this
 |lst xs=>
  obtain⟨a,vs,rfl,sq,l⟩:=h1.lst sg
  cases r1;obtain⟨ax,q1,z1,_⟩:=I.list (dR hK sq)
  have gb:=z1.isList
  cases q with
  |az=>cases h2.az;cases r2;exact SeqAt.RcNeAt.list_none gb c8
  |bl y=>cases h2.bl;cases r2;exact SeqAt.RcNeAt.list_bool _ gb c8
  |int y=>cases h2.int;obtain⟨t2,rfl⟩:=r2;exact SeqAt.RcNeAt.list_int _ _ gb c8
  |str y=>cases h2.str;obtain⟨t2,rfl⟩:=r2;exact SeqAt.RcNeAt.list_str _ _ gb c8
  |exc c=>exact aE hq
  |aX a b=>exact aE hq
  |tup ys=>
   obtain⟨b,us,rfl,bA,l2⟩:=h2.tup sg
   cases r2;rw [hK] at bA;obtain⟨aF,q2,z2,_⟩:=I.tuple bA
   have qh:s.heap.IsTuple b aF.toArray:=z2
   exact SeqAt.RcNeAt.list_tuple gb qh c8
  |lst ys=>
   obtain⟨b,us,rfl,bA,l2⟩:=h2.lst sg
   cases r2;obtain⟨aF,q2,z2,_⟩:=I.list (dR hK bA)
   have qh:=z2.isList
   have m1:ax.length=xs.length:=by rw [<-q1.length,l.length]
   have m2:aF.length=ys.length:=by rw [<-q2.length,l2.length]
   by_cases hl:xs.length=ys.length
   ·have:=SeqAt.RcNeAt.lists (e:=λj=>iS n (xs.getD j .az) (ys.getD j .az)) gb qh (by rw [zzC,zzC];omega) c8 (el hp hq l l2 q1 q2)
    rw [zzC,m1,<-iW hl] at this;exact this
   ·have:=SeqAt.RcNeAt.lists_lengths gb qh (by rw [zzC,zzC,m1,m2];simp [hl]) c8
    show SeqAt.RcNeAt _ _ _ _ (!eqs (iS n) xs ys)
    rw [jl hl];exact this
 |exc c=>exact aE hp
 |aX a b=>exact aE hp
end
section
variable{X:Cx}{W:Wd}
theorem EU(hK:W.K=X.K){ae:List (Addr×Obj)}{σ:St}{H:Hp}{s:Shared}{a:Addr}{xs:List V}(I:Inv X ae σ H s)(h:om W.K H a xs):∃(ax:List Value) (n:Nat),Vals xs ax/\xs.length=ax.length/\xs.length<=sizeLine/\s.heap.get? a=some {cls:=.type "list",data:=.seq ax.toArray n}:=by
 rw [hK] at h;rcases h with h|⟨ax,n,h1,h2,h3⟩
 ·obtain⟨z,ax,n,r,e⟩:=h.ok I.aS
  exact⟨ax,n,r,r.length,z,e⟩
 ·refine⟨ax.toList,n,h3,h3.length,?_,by simpa using I.sI a _ h1⟩;rw [h3.length,zzd];exact h2
theorem E3(hK:W.K=X.K):gu X (binaryOp .Add) (λx y H Q=>∃l b xs zs,x=.ref l/\y=.ref b/\om W.K H l xs/\om W.K H b zs/\xs.length+zs.length<=sizeLine/\∀p,H p=none->Q (.ref p) (upd H p (.lst (xs++zs)))):=by
 intro ae s σ H x y v u Q I rx ry h;obtain⟨l,b,xs,zs,rfl,rfl,hH,hB,hz,q⟩:=h
 cases rx;cases ry;obtain⟨ax,n,r,hl,_,e⟩:=EU hK I hH
 obtain⟨aF,n2,r2,PD,_,e2⟩:=EU hK I hB
 refine PySem.P.add_list e e2 ?_ (by rw [zzC,zzC];omega);have ea:ax.toArray++aF.toArray=(ax++aF).toArray:=by simp
 rw [ea];exact⟨.ref _,_,I.Q8 (t':=s.toks) (r.append r2) (by rw [zzM];omega),rfl,q _ I.fresh⟩
def RD:LU->Operator
 |.add=>.Add|.sub=>.Sub|.mul=>.Mult|.mod=>.Mod|.fdiv=>.FloorDiv
noncomputable def uL(W:Wd)(f:PV->PV->Res PV):R2:=λx y H Q=>∃H0 G p q r,aB G H/\Top W H0 G H p x/\Top W H0 G H q y/\f p q=.ok r/\dm W G H r Q
theorem Jy(hK:W.K=X.K)(o:LU):gu X (binaryOp (RD o)) (uL W (binOp o)):=by
 intro ae s σ H x y v u Q I rx ry h;obtain⟨H0,G,p,q,r,sg,t1,t2,e,wq⟩:=h
 unfold binOp at e;split at e
 ·cases e;exact JJ ae s σ H x y v u Q I rx ry ⟨_,_,t1.int,t2.int,wq.at sg .i⟩
 ·split at e
  ·rename_i hl;cases e;exact uD ae s σ H x y v u Q I rx ry ⟨_,_,t1.str,t2.str,iI hl,wq.at sg .s⟩
  ·cases e
 ·split at e
  ·rename_i hl;cases e;obtain⟨a,vs,rfl,h1,l1⟩:=t1.lst sg
   obtain⟨b,us,rfl,h2,l2⟩:=t2.lst sg
   exact E3 hK ae s σ H _ _ v u Q I rx ry ⟨a,b,vs,us,rfl,rfl,h1,h2,by rw [l1.length,l2.length];exact iI hl,λp hp=>wq.lst sg (l1.append l2) hp⟩
  ·cases e
 ·cases e;exact HG ae s σ H x y v u Q I rx ry ⟨_,_,t1.int,t2.int,wq.at sg .i⟩
 ·split at e
  ·rename_i hc;cases e;refine Ih ae s σ H x y v u Q I rx ry ⟨_,_,t1.int,t2.int,?_,wq.at sg .i⟩;rw [Bool.or_eq_true] at hc;unfold aV at hc;simp only [zza,zzN] at hc;exact hc
  ·cases e
 ·split at e
  ·rename_i hc;cases e;exact JW ae s σ H x y v u Q I rx ry ⟨_,_,t1.int,t2.int,hc,wq.at sg .i⟩
  ·cases e
 ·split at e
  ·rename_i hc;cases e;exact Fd ae s σ H x y v u Q I rx ry ⟨_,_,t1.int,t2.int,hc,wq.at sg .i⟩
  ·cases e
 ·cases e
theorem Ey:Ph X (unaryOp .USub) (λx H Q=>∃(H0 G:Hp) (i:Int),aB G H/\Top W H0 G H (.int i) x/\dm W G H (.int (-i)) Q):=by
 intro ae s σ H x v Q I rx h;obtain⟨H0,G,i,sg,t,wq⟩:=h
 exact IF ae s σ H x v Q I rx ⟨i,t.int,wq.at sg .i⟩
def qY:BN->CmpOp
 |.eq=>.Eq|.ne=>.NotEq|.lt=>.Lt|.le=>.LtE|.gt=>.Gt|.ge=>.GtE|.Aa=>.IsNot|.Bj=>.In|.lV=>.NotIn
theorem tj{ae:List (Addr×Obj)}{σ:St}{H G:Hp}{s:Shared}{Q:VK}{k:Bool}(I:Inv X ae σ H s)(sg:aB G H)(wq:dm W G H (.bl k) Q):EP X ae σ Q (.bool k) s:=⟨.bl k,H,I,rfl,wq.at sg .b⟩
theorem Jx(hK:W.K=X.K)(hu:X.A.units+64<cLine):gu X (compareOp .Eq) (uL W iz):=by
 intro ae s σ H x y v u Q I rx ry h;obtain⟨H0,G,p,q,r,sg,t1,t2,e,wq⟩:=h
 unfold iz at e;split at e
 ·rename_i hc;rw [zza] at hc;cases e;exact Nk I hK sg 8 (by omega) hc.1 hc.2 t1 t2 rx ry _ _ _ _ (tj I sg wq)
 ·cases e
theorem HS(hK:W.K=X.K)(hu:X.A.units+64<cLine):gu X (compareOp .NotEq) (uL W iT):=by
 intro ae s σ H x y v u Q I rx ry h;obtain⟨H0,G,p,q,r,sg,t1,t2,e,wq⟩:=h
 unfold iT at e;split at e
 ·rename_i hc;rw [zza] at hc;cases e;exact D4 I hK sg 8 (by omega) hc.1 hc.2 t1 t2 rx ry _ _ _ _ (tj I sg wq)
 ·cases e
theorem iH{G:Hp}:∀{xs:List PV} {vs:List V} {ns:List Int},ai W G xs vs->intsOf xs=some ns->vs=ns.map V.int
 |[],vs,ns,h,e=>by simp only [ai] at h;subst h;cases e;rfl
 |.int i::r,vs,ns,h,e=>by
  obtain⟨v,t,rfl,h1,h2⟩:=h.aW
  simp only [Rep] at h1;subst h1;unfold intsOf at e;obtain⟨m,hm,rfl⟩:=zzJ.mp e
  rw [iH h2 hm]
  rfl
 |.az::_,_,_,_,e=>by cases e
 |.bl _::_,_,_,_,e=>by cases e
 |.str _::_,_,_,_,e=>by cases e
 |.tup _::_,_,_,_,e=>by cases e
 |.lst _::_,_,_,_,e=>by cases e
 |.exc _::_,_,_,_,e=>by cases e
 |.aX _ _::_,_,_,_,e=>by cases e
theorem kG{G:Hp}:∀{xs:List PV} {vs:List V} {ns:List Bool},ai W G xs vs->boolsOf xs=some ns->vs=ns.map V.bl
 |[],vs,ns,h,e=>by simp only [ai] at h;subst h;cases e;rfl
 |.bl i::r,vs,ns,h,e=>by
  obtain⟨v,t,rfl,h1,h2⟩:=h.aW
  simp only [Rep] at h1;subst h1;unfold boolsOf at e;obtain⟨m,hm,rfl⟩:=zzJ.mp e
  rw [kG h2 hm]
  rfl
 |.az::_,_,_,_,e=>by cases e
 |.int _::_,_,_,_,e=>by cases e
 |.str _::_,_,_,_,e=>by cases e
 |.tup _::_,_,_,_,e=>by cases e
 |.lst _::_,_,_,_,e=>by cases e
 |.exc _::_,_,_,_,e=>by cases e
 |.aX _ _::_,_,_,_,e=>by cases e
theorem Res.of_ok{α:Type}{o:Option α}{a:α}(h:Res.of o=.ok a):o=some a:=by
 cases o with
 |none=>cases h
 |some b=>cases h;rfl
theorem Jc(hK:W.K=X.K)(hu:X.A.units+64<cLine):gu X (compareOp .Lt) (uL W qw):=by
 intro ae s σ H x y v u Q I rx ry h;obtain⟨H0,G,p,q,r,sg,t1,t2,e,wq⟩:=h
 unfold qw at e;split at e
 ·cases e;exact Om ae s σ H x y v u Q I rx ry ⟨_,_,t1.int,t2.int,wq.at sg .b⟩
 ·obtain⟨ns,h1,e⟩:=Res.aR e
  obtain⟨ms,h2,e⟩:=Res.aR e
  cases e;obtain⟨a,vs,rfl,q1,l1⟩:=t1.tup sg
  obtain⟨b,us,rfl,q2,l2⟩:=t2.tup sg
  rw [hK] at q1 q2;have e1:=iH l1 (Res.of_ok h1)
  have e2:=iH l2 (Res.of_ok h2)
  subst e1 e2;exact IZ (by omega) ae s σ H _ _ v u Q I rx ry ⟨a,b,ns,ms,rfl,rfl,q1,q2,wq.at sg .b⟩
 ·cases e
theorem Lf:gu X (compareOp .LtE) (uL W rS):=by
 intro ae s σ H x y v u Q I rx ry h;obtain⟨H0,G,p,q,r,sg,t1,t2,e,wq⟩:=h
 unfold rS at e;split at e
 ·cases e;exact NT ae s σ H x y v u Q I rx ry ⟨_,_,t1.int,t2.int,wq.at sg .b⟩
 ·cases e
theorem Ii:gu X (compareOp .Gt) (uL W vp):=by
 intro ae s σ H x y v u Q I rx ry h;obtain⟨H0,G,p,q,r,sg,t1,t2,e,wq⟩:=h
 unfold vp at e;split at e
 ·cases e;exact MY ae s σ H x y v u Q I rx ry ⟨_,_,t1.int,t2.int,wq.at sg .b⟩
 ·cases e
theorem J7:gu X (compareOp .GtE) (uL W vj):=by
 intro ae s σ H x y v u Q I rx ry h;obtain⟨H0,G,p,q,r,sg,t1,t2,e,wq⟩:=h
 unfold vj at e;split at e
 ·cases e;exact Mk ae s σ H x y v u Q I rx ry ⟨_,_,t1.int,t2.int,wq.at sg .b⟩
 ·cases e
theorem xF{H0 G H:Hp}{p:PV}{x:V}(sg:aB G H)(t:Top W H0 G H p x):decide (x=.az)=Hc p:=by
 cases p with
 |az=>cases t.az;rfl
 |bl b=>cases t.bl;rfl
 |int b=>cases t.int;rfl
 |str b=>cases t.str;rfl
 |tup b=>obtain⟨a,vs,rfl,_⟩:=t.tup sg;rfl
 |lst b=>obtain⟨a,vs,rfl,_⟩:=t.lst sg;rfl
 |aX b c=>obtain⟨a,vs,rfl,_⟩:=t.aX sg;rfl
 |exc c=>
  rcases t with t|t
  ·simp only [Rep] at t;obtain⟨a,C,rfl,_⟩:=t
   rfl
  ·exact t.elim
theorem EH:gu X (compareOp .IsNot) (uL W gM):=by
 intro ae s σ H x y v u Q I rx ry h;obtain⟨H0,G,p,q,r,sg,t1,t2,e,wq⟩:=h
 unfold gM at e;split at e
 ·cases e;refine D6 ae s σ H x y v u Q I rx ry ⟨t2.az,?_⟩;rw [xF sg t1];exact wq.at sg .b
 ·cases e;exact rY ae s σ H x y v u Q I rx ry ⟨_,_,t1.bl,t2.bl,wq.at sg .b⟩
 ·cases e
end
theorem jZ{α:Type}:∀{xs ys:List α},xs.length=ys.length->(∀(j:Nat) x y,xs[j]?=some x->ys[j]?=some y->x=y)->xs=ys
 |[],[],_,_=>rfl
 |x::xs,y::ys,h,k=>by rw [k 0 x y rfl rfl,jZ (xs:=xs) (ys:=ys) (by simpa using h) λj a b ha hb=>k (j+1) a b (by simpa using ha) (by simpa using hb)]
 |[],_::_,h,_=>by simp at h
 |_::_,[],h,_=>by simp at h
section
variable{X:Cx}{W:Wd}{H0 G H:Hp}
theorem FU{ae:List (Addr×Obj)}{σ:St}{s:Shared}(I:Inv X ae σ H s)(hK:W.K=X.K)(sg:aB G H):∀(n:Nat) {p q:PV} {v:V},plain n p=true->plain n q=true->Top W H0 G H p v->Top W H0 G H q v->p=q:=by
 intro n
 induction n with
 |zero=>
  intro p q v hp hq h1 h2;cases p with
  |az=>
   cases h1.az;cases q with
   |az=>cases h2.az;rfl
   |bl y=>cases h2.bl
   |int y=>cases h2.int
   |str y=>cases h2.str
   |exc c=>exact aE hq
   |aX a b=>exact aE hq
   |tup xs=>exact aE hq
   |lst xs=>exact aE hq
  |bl x=>
   cases h1.bl;cases q with
   |az=>cases h2.az
   |bl y=>cases h2.bl;rfl
   |int y=>cases h2.int
   |str y=>cases h2.str
   |exc c=>exact aE hq
   |aX a b=>exact aE hq
   |tup xs=>exact aE hq
   |lst xs=>exact aE hq
  |int x=>
   cases h1.int;cases q with
   |az=>cases h2.az
   |bl y=>cases h2.bl
   |int y=>cases h2.int;rfl
   |str y=>cases h2.str
   |exc c=>exact aE hq
   |aX a b=>exact aE hq
   |tup xs=>exact aE hq
   |lst xs=>exact aE hq
  |str x=>
   cases h1.str;cases q with
   |az=>cases h2.az
   |bl y=>cases h2.bl
   |int y=>cases h2.int
   |str y=>cases h2.str;rfl
   |exc c=>exact aE hq
   |aX a b=>exact aE hq
   |tup xs=>exact aE hq
   |lst xs=>exact aE hq
  |exc c=>exact aE hp
  |aX a b=>exact aE hp
  |tup xs=>exact aE hp
  |lst xs=>exact aE hp
 |succ n ih=>
  intro p q v hp hq h1 h2;have el:∀{xs ys:List PV} {vs:List V},xs.all (plain n)=true->ys.all (plain n)=true->ai W G xs vs->ai W G ys vs->xs=ys:=λ{xs ys vs} a1 a2 l1 l2=>
   jZ (by rw [<-l1.length,l2.length]) λj x y ex ey=>by
    obtain⟨u,eu,ku⟩:=l1.jW ex
    obtain⟨y',ey',ky⟩:=l2.get eu
    rw [ey] at ey';cases ey';exact ih (zzT.mp a1 _ (zzD ex)) (zzT.mp a2 _ (zzD ey)) (.inl ku) (.inl ky)
  cases p with
  |exc c=>exact aE hp
  |aX a b=>exact aE hp
  |tup xs=>
   obtain⟨a,vs,rfl,sq,l⟩:=h1.tup sg
   rw [hK] at sq;cases q with
   |exc c=>exact aE hq
   |aX a b=>exact aE hq
   |az=>cases h2.az
   |bl b=>cases h2.bl
   |int b=>cases h2.int
   |str b=>cases h2.str
   |lst ys=>
    obtain⟨b,us,e,sq20,l2⟩:=h2.lst sg
    have bA:=dR hK sq20
    cases e;exact(iZ I sq bA).elim
   |tup ys=>
    obtain⟨b,us,e,bA,l2⟩:=h2.tup sg
    rw [hK] at bA;cases e;cases I.j7 sq bA;rw [el hp hq l l2]
  |lst xs=>
   obtain⟨a,vs,rfl,sq0,l⟩:=h1.lst sg
   have sq:=dR hK sq0
   cases q with
   |exc c=>exact aE hq
   |aX a b=>exact aE hq
   |az=>cases h2.az
   |bl b=>cases h2.bl
   |int b=>cases h2.int
   |str b=>cases h2.str
   |tup ys=>
    obtain⟨b,us,e,bA,l2⟩:=h2.tup sg
    rw [hK] at bA;cases e;exact(iZ I bA sq).elim
   |lst ys=>
    obtain⟨b,us,e,sq20,l2⟩:=h2.lst sg
    have bA:=dR hK sq20
    cases e;cases I.mR sq bA;rw [el hp hq l l2]
  |az=>
   cases h1.az;cases q with
   |az=>cases h2.az;rfl
   |bl y=>cases h2.bl
   |int y=>cases h2.int
   |str y=>cases h2.str
   |tup ys=>obtain⟨b,us,e,_⟩:=h2.tup sg;cases e
   |lst ys=>obtain⟨b,us,e,_⟩:=h2.lst sg;cases e
   |exc c=>exact aE hq
   |aX a b=>exact aE hq
  |bl x=>
   cases h1.bl;cases q with
   |az=>cases h2.az
   |bl y=>cases h2.bl;rfl
   |int y=>cases h2.int
   |str y=>cases h2.str
   |tup ys=>obtain⟨b,us,e,_⟩:=h2.tup sg;cases e
   |lst ys=>obtain⟨b,us,e,_⟩:=h2.lst sg;cases e
   |exc c=>exact aE hq
   |aX a b=>exact aE hq
  |int x=>
   cases h1.int;cases q with
   |az=>cases h2.az
   |bl y=>cases h2.bl
   |int y=>cases h2.int;rfl
   |str y=>cases h2.str
   |tup ys=>obtain⟨b,us,e,_⟩:=h2.tup sg;cases e
   |lst ys=>obtain⟨b,us,e,_⟩:=h2.lst sg;cases e
   |exc c=>exact aE hq
   |aX a b=>exact aE hq
  |str x=>
   cases h1.str;cases q with
   |az=>cases h2.az
   |bl y=>cases h2.bl
   |int y=>cases h2.int
   |str y=>cases h2.str;rfl
   |tup ys=>obtain⟨b,us,e,_⟩:=h2.tup sg;cases e
   |lst ys=>obtain⟨b,us,e,_⟩:=h2.lst sg;cases e
   |exc c=>exact aE hq
   |aX a b=>exact aE hq
theorem EZ{ae:List (Addr×Obj)}{σ:St}{s:Shared}(I:Inv X ae σ H s)(hK:W.K=X.K)(sg:aB G H){A:Around}{a:PV}{x:V}{x':Value}{ys:List PV}{us:List V}{ax:List Value}(hu:A.units+32<cLine)(ha:Cz a=true)(hy:ys.all Cz=true)(ta:Top W H0 G H a x)(rx:RelV x x')(l:ai W G ys us)(r:Vals us ax):
 ∃e:Value->Bool,(∀y∈ax,SeqAt.EqAt A s y x' (e y))/\∀(j:Nat) (y:Value) (p:PV),ax[j]?=some y->ys[j]?=some p->e y=eqv p a:=by
 classical
 have key:∀(j:Nat) (y:Value),ax[j]?=some y->∃p u,ys[j]?=some p/\us[j]?=some u/\Rep W G p u/\RelV u y/\Cz p=true:=λj y e=>by
  have hj:=(zzH.mp e).1
  have hl:=r.length
  obtain⟨u,ID,Lk⟩:=r.get (i:=j) (x:=us[j]'(by omega)) (zzg (by omega))
  rw [e] at ID;cases ID;obtain⟨p,hp,kp⟩:=l.get (zzg (show j<us.length by omega))
  exact⟨p,_,hp,zzg (by omega),kp,Lk,zzT.mp hy p (zzD hp)⟩
 refine⟨λy=>if h:∃(j:Nat) (p:PV),ax[j]?=some y/\ys[j]?=some p then eqv h.choose_spec.choose a else false,λy CN=>?_,λj y p e1 e2=>?_⟩
 ·obtain⟨j,hj,e⟩:=List.getElem_of_mem CN
  have ej:ax[j]?=some y:=by rw [zzg hj,e]
  obtain⟨p,u,h1,h2,h3,h4,h5⟩:=key j y ej
  have hex:∃(j:Nat) (p:PV),ax[j]?=some y/\ys[j]?=some p:=⟨j,p,ej,h1⟩
  dsimp only;rw [dif_pos hex];have sp:=hex.choose_spec.choose_spec
  obtain⟨p2,u2,g1,g2,g3,g4,g5⟩:=key _ y sp.1
  have e3:hex.choose_spec.choose=p2:=Option.some.inj (sp.2.symm.trans g1)
  rw [e3];exact Cc (H0:=H0) I hK sg 9 (by omega) g5 ha (.inl g3) ta g4 rx
 ·have hex:∃(j:Nat) (p:PV),ax[j]?=some y/\ys[j]?=some p:=⟨j,p,e1,e2⟩
  dsimp only;rw [dif_pos hex];obtain⟨p1,u1,f1,f2,f3,f4,f5⟩:=key j y e1
  rw [e2] at f1;cases f1;have sp:=hex.choose_spec.choose_spec
  obtain⟨p2,u2,g1,g2,g3,g4,g5⟩:=key _ y sp.1
  have e3:hex.choose_spec.choose=p2:=Option.some.inj (sp.2.symm.trans g1)
  have e4:u1=u2:=f4.inj g4
  subst e4;rw [e3,FU I hK sg DP g5 f5 (.inl g3:Top W H0 G H p2 u1) (.inl f3)]
theorem JP{ax:List Value}{ys:List PV}{e:Value->Bool}{f:PV->Bool}:ax.length=ys.length->(∀(j:Nat) (y:Value) (p:PV),ax[j]?=some y->ys[j]?=some p->e y=f p)->ax.any e=ys.any f:=by
 intro hl h;have:ax.map e=ys.map f:=jZ (by simpa using hl) λj x y hx hy=>by
  rw [zzQ] at hx hy;obtain⟨a,ha,rfl⟩:=zzJ.mp hx
  obtain⟨b,hb,rfl⟩:=zzJ.mp hy
  exact h j a b ha hb
 calc ax.any e=(ax.map e).any id:=by rw [List.any_map];rfl
  _=(ys.map f).any id:=by rw [this]
  _=ys.any f:=by rw [List.any_map];rfl
theorem Ig(hK:W.K=X.K)(hu:X.A.units+64<cLine):gu X (compareOp .In) (uL W uP):=by
 intro ae s σ H x y v u Q I rx ry h;obtain⟨H0,G,p,q,r,sg,t1,t2,e,wq⟩:=h
 have ID:X.A.in1.units+32<cLine:=by show X.A.units+1+32<_;omega
 unfold uP at e;split at e
 ·obtain⟨k,hk,e⟩:=Res.aR e
  cases e;have hk:=eV (Res.of_ok hk)
  subst hk;obtain⟨b,rfl,hb⟩:=t1.tupI (ns:=k) sg rfl
  obtain⟨a,us,rfl,n,hd,l⟩:=t2.aX sg
  cases ry;refine Pl (show X.A.units+1<cLine by omega) I (.inr ⟨_,ki k,b,hd,rfl,(by rw [pS];exact sg _ _ hb),rfl⟩) rx λs' I'=>?_
  rw [jx,lD k _ us n];exact tj I' sg wq
 ·cases e
theorem Fi(hK:W.K=X.K)(hu:X.A.units+64<cLine):gu X (compareOp .NotIn) (uL W jc):=by
 intro ae s σ H x y v u Q I rx ry h;obtain⟨H0,G,p,q,r,sg,t1,t2,e,wq⟩:=h
 have ID:X.A.in1.units+32<cLine:=by show X.A.units+1+32<_;omega
 unfold jc at e;split at e
 ·split at e
  ·rename_i hc;rw [zza] at hc;cases e;obtain⟨b,us,rfl,q2,l2⟩:=t2.lst sg
   cases ry;obtain⟨ax,rv,z,_⟩:=I.list (dR hK q2)
   obtain⟨e,he,hv⟩:=EZ I hK sg ID hc.1 hc.2 t1 rx l2 rv
   refine SeqAt.notIn_listAt e z.isList (λy hy=>he y (by simpa using hy)) ?_
   have:=JP (by rw [<-rv.length,l2.length]) hv
   rw [List.any_toArray,this];exact tj I sg wq
  ·cases e
 ·obtain⟨k,hk,e⟩:=Res.aR e
  cases e;have hk:=eV (Res.of_ok hk)
  subst hk;obtain⟨b,rfl,hb⟩:=t1.tupI (ns:=k) sg rfl
  obtain⟨a,us,rfl,n,hd,l⟩:=t2.aX sg
  cases ry;refine F4 (show X.A.units+1<cLine by omega) I (.inr ⟨_,ki k,b,hd,rfl,(by rw [pS];exact sg _ _ hb),rfl⟩) rx λs' I'=>?_
  rw [jx,lD k _ us n];exact tj I' sg wq
 ·cases e
theorem gZ(hK:W.K=X.K)(hu:X.A.units+64<cLine):∀o:BN,gu X (compareOp (qY o)) (uL W (dN o))
 |.eq=>Jx hK hu|.ne=>HS hK hu|.lt=>Jc hK hu|.le=>Lf|.gt=>Ii|.ge=>J7|.Aa=>EH|.Bj=>Ig hK hu|.lV=>Fi hK hu
theorem w6{ps:List PV}{vs:List V}{i:Int}{p:PV}(l:ai W G ps vs)(h:ub ps i=some p):∃v,ub vs i=some v/\Rep W G p v:=by
 unfold ub at h⊢;rw [l.length];cases e:KQ ps.length i with
 |none=>rw [e] at h;cases h
 |some j=>
  rw [e] at h;exact l.jW h
theorem Jo(hu:X.A.units+1<cLine):LK X (λx y H Q=>∃a aw k b v,x=.ref a/\Rd H a (.dT aw)/\y=.ref b/\H b=some (.tup (k.map kV))/\hX aw k=some v/\Q v H):=by
 intro value slice ae s σ H x y v u Q I rx ry h hs;obtain⟨a,aw,k,b,z,rfl,hd,rfl,hb,hv,q⟩:=h
 cases rx;cases ry;obtain⟨_,_,xs,rel,dd⟩:=kF I.aS hd
 obtain⟨w',hw,ij⟩:=kO.some_of (v:=z) (o:=(atKey xs k).map (·.2)) (by rw [<-hv];exact rel.val k)
 obtain⟨p,hp,hp2⟩:=zzJ.mp hw
 exact PyProof.Rows.subscriptTail_builtinR (x:=w') dd.typeIs PySem.F.slot_dict_getitem.lookup (wpAny_getItem_heap (Q:=λr s'=>r=w'/\EP X ae σ Q r s') (tupleKind_room_in1 hu) (gK I.aS hb) dd hp ⟨hp2,by rw [hp2];exact⟨z,H,I.tok _,ij,q⟩⟩) hs
theorem PC(hK:W.K=X.K)(hu:X.A.units+64<cLine):LK X (uL W aN):=by
 intro value slice ae s σ H x y v u Q I rx ry h hs;obtain⟨H0,G,p,q,r,sg,t1,t2,e,wq⟩:=h
 unfold aN at e;split at e
 ·obtain⟨a,vs,rfl,h1,l1⟩:=t1.lst sg
  obtain⟨w,hw,kw⟩:=w6 l1 (Res.of_ok e)
  exact E6 value slice ae s σ H _ y v u Q I rx ry ⟨a,vs,_,w,rfl,t2.int,dR hK h1,hw,wq.at sg kw⟩ hs
 ·obtain⟨a,vs,rfl,h1,l1⟩:=t1.tup sg
  rw [hK] at h1;obtain⟨w,hw,kw⟩:=w6 l1 (Res.of_ok e)
  exact BQ value slice ae s σ H _ y v u Q I rx ry ⟨a,vs,_,w,rfl,t2.int,h1,hw,wq.at sg kw⟩ hs
 ·split at e
  ·rename_i hl;obtain⟨c,hc,e⟩:=Res.aR e
   cases e;exact Ke value slice ae s σ H x y v u Q I rx ry ⟨_,_,c,t1.str,t2.int,iI hl,Res.of_ok hc,wq.at sg .s⟩ hs
  ·cases e
 ·obtain⟨k,hk,e2⟩:=Res.aR e
  have hk:=eV (Res.of_ok hk)
  subst hk;obtain⟨b,rfl,hb⟩:=t2.tupI (ns:=k) sg rfl
  obtain⟨a,us,rfl,n,hd,l⟩:=t1.aX sg
  obtain⟨w,hw,kw⟩:=qA l (Res.of_ok e2)
  exact Jo (by omega) value slice ae s σ H _ _ v u Q I rx ry ⟨a,_,ki k,b,w,rfl,hd,rfl,(by rw [pS];exact sg _ _ hb),(by rw [jx];exact hw),wq.at sg kw⟩ hs
 ·cases e
theorem EC{ps:List PV}{vs:List V}(lo hi:Option Int)(l:ai W G ps vs):ai W G (ng ps lo hi) (yX vs lo hi):=by
 unfold ng yX;rw [l.length];exact(l.drop _).take _
theorem Qx(hK:W.K=X.K):L2.GK X (λx lo hi H Q=>∃H0 G p r,aB G H/\Top W H0 G H p x/\eX p lo hi=.ok r/\dm W G H r Q):=by
 intro ae s σ H x v vl vu lo hi sl Q I rx hs pl pu h;obtain⟨H0,G,p,r,sg,t1,e,wq⟩:=h
 unfold eX at e;split at e
 ·cases e;obtain⟨a,vs,rfl,h1,l1⟩:=t1.lst sg
  exact FD ae s σ H _ v vl vu _ _ sl Q I rx hs pl pu ⟨a,vs,rfl,dR hK h1,λp hp=>wq.lst sg (EC _ _ l1) hp⟩
 ·cases e
end
section
variable{X:Cx}{W:Wd}
def yu(W:Wd)(f:List PV->Res PV):List V->Hp->VK->Prop:=λvs H Q=>∃H0 G ps r,aB G H/\Paired (λv p=>Top W H0 G H p v) vs ps/\f ps=.ok r/\dm W G H r Q
theorem dX{H0 G H:Hp}{vs:List V}{p:PV}(h:Paired (λv p=>Top W H0 G H p v) vs [p]):∃v,vs=[v]/\Top W H0 G H p v:=by
 cases h with
 |cons h t=>cases t;exact⟨_,rfl,h⟩
theorem NQ{H0 G H:Hp}{vs:List V}{p q:PV}(h:Paired (λv p=>Top W H0 G H p v) vs [p,q]):∃v u,vs=[v,u]/\Top W H0 G H p v/\Top W H0 G H q u:=by
 cases h with
 |cons h t=>
  cases t with
  |cons h2 t2=>cases t2;exact⟨_,_,rfl,h,h2⟩
theorem y9(hK:W.K=X.K):cg X (.builtin "len") (yu W ve):=by
 intro ae s σ H xs us Q I r h;obtain⟨H0,G,ps,rr,sg,tp,e,wq⟩:=h
 unfold ve at e;split at e
 ·cases e;obtain⟨v,rfl,t⟩:=dX tp
  obtain⟨a,vs,rfl,h1,l1⟩:=t.lst sg
  exact i6 ae s σ H _ us Q I r ⟨a,vs,rfl,.inl (dR hK h1),by rw [l1.length];exact wq.at sg .i⟩
 ·cases e;obtain⟨v,rfl,t⟩:=dX tp
  obtain⟨a,vs,rfl,h1,l1⟩:=t.tup sg
  rw [hK] at h1;exact i6 ae s σ H _ us Q I r ⟨a,vs,rfl,.inr h1,by rw [l1.length];exact wq.at sg .i⟩
 ·split at e
  ·rename_i hl;cases e;obtain⟨v,rfl,t⟩:=dX tp
   exact pG ae s σ H _ us Q I r ⟨_,by rw [t.str],iI hl,wq.at sg .i⟩
  ·cases e
 ·cases e;obtain⟨v,rfl,t⟩:=dX tp
  obtain⟨a,us',rfl,n,hd,l⟩:=t.aX sg
  obtain⟨u,rfl,ru⟩:=vals1 r
  cases ru;exact IS I hd λt s' I'=>⟨.int _,H,I',⟨t,rfl⟩,by rw [fF n];exact wq.at sg .i⟩
 ·cases e
theorem yU:cg X (.builtin "abs") (yu W Bc):=by
 intro ae s σ H xs us Q I r h;obtain⟨H0,G,ps,rr,sg,tp,e,wq⟩:=h
 unfold Bc at e;split at e
 ·cases e;obtain⟨v,rfl,t⟩:=dX tp
  exact BR ae s σ H _ us Q I r ⟨_,by rw [t.int],wq.at sg .i⟩
 ·cases e
theorem yT(hc:X.calm=true):cg X (.builtin "max") (yu W Cs):=by
 intro ae s σ H xs us Q I r h;obtain⟨H0,G,ps,rr,sg,tp,e,wq⟩:=h
 unfold Cs at e;split at e
 ·cases e;obtain⟨v,u,rfl,t,t2⟩:=NQ tp
  exact za hc ae s σ H _ us Q I r ⟨_,_,by rw [t.int,t2.int],wq.at sg .i⟩
 ·cases e
theorem yb:cg X (.type "int") (yu W Aw):=by
 intro ae s σ H xs us Q I r h;obtain⟨H0,G,ps,rr,sg,tp,e,wq⟩:=h
 unfold Aw at e;split at e
 ·split at e
  ·rename_i hl;obtain⟨n,hn,e⟩:=Res.aR e
   cases e;obtain⟨v,rfl,t⟩:=dX tp
   exact pW ae s σ H _ us Q I r ⟨_,n,by rw [t.str],Res.of_ok hn,hl,wq.at sg .i⟩
  ·cases e
 ·cases e
theorem xW:cg X (.type "str") (yu W Cd):=by
 intro ae s σ H xs us Q I r h;obtain⟨H0,G,ps,rr,sg,tp,e,wq⟩:=h
 unfold Cd at e;split at e
 ·split at e
  ·rename_i hl;cases e;obtain⟨v,rfl,t⟩:=dX tp
   exact pL ae s σ H _ us Q I r ⟨_,by rw [t.int],hl,wq.at sg .s⟩
  ·cases e
 ·cases e
theorem yJ{G:Hp}(z:Str):ai W G (chars z) (z.cps.toList.map λc=>V.str ⟨#[c]⟩):=by
 unfold chars
 induction z.cps.toList with
 |nil=>exact .nil
 |cons c r ih=>exact .cons .s ih
theorem vo(hc:X.calm=true)(hK:W.K=X.K):cg X (.type "list") (yu W sS):=by
 intro ae s σ H xs us Q I r h;obtain⟨H0,G,ps,rr,sg,tp,e,wq⟩:=h
 unfold sS at e;split at e
 ·cases e;obtain⟨v,rfl,t⟩:=dX tp
  obtain⟨a,vs,rfl,h1,l1⟩:=t.lst sg
  exact i4 ae s σ H _ us Q I r ⟨a,vs,rfl,.inl (dR hK h1),λp hp=>wq.lst sg l1 hp⟩
 ·cases e;obtain⟨v,rfl,t⟩:=dX tp
  obtain⟨a,vs,rfl,h1,l1⟩:=t.tup sg
  rw [hK] at h1;exact i4 ae s σ H _ us Q I r ⟨a,vs,rfl,.inr h1,λp hp=>wq.lst sg l1 hp⟩
 ·split at e
  ·rename_i hl;cases e;obtain⟨v,rfl,t⟩:=dX tp
   exact j5 hc ae s σ H _ us Q I r ⟨_,by rw [t.str],iI hl,λp hp=>wq.lst sg (yJ _) hp⟩
  ·cases e
 ·cases e
theorem tD(hK:W.K=X.K):cg X (.type "tuple") (yu W mT):=by
 intro ae s σ H xs us Q I r h;obtain⟨H0,G,ps,rr,sg,tp,e,wq⟩:=h
 unfold mT at e;split at e
 ·cases e;obtain⟨v,rfl,t⟩:=dX tp
  obtain⟨a,vs,rfl,h1,l1⟩:=t.lst sg
  exact nQ ae s σ H _ us Q I r ⟨a,vs,rfl,.inl ⟨dR hK h1,λp hp=>wq.tup sg l1 hp⟩⟩
 ·cases e
theorem yN(hc:X.calm=true)(hK:W.K=X.K):cg X (.builtin "all") (yu W zA):=by
 intro ae s σ H xs us Q I r h;obtain⟨H0,G,ps,rr,sg,tp,e,wq⟩:=h
 unfold zA at e;split at e
 ·obtain⟨bs,hb,e⟩:=Res.aR e
  cases e;obtain⟨v,rfl,t⟩:=dX tp
  obtain⟨a,vs,rfl,h1,l1⟩:=t.lst sg
  cases kG l1 (Res.of_ok hb);exact AZ hc ae s σ H _ us Q I r ⟨a,bs,rfl,dR hK h1,wq.at sg .b⟩
 ·cases e
def vm:Ty->String
 |.int=>"int"|.bool=>"bool"|.tuple=>"tuple"|.list=>"list"
theorem M6{K:PySem.W.Frag}(t:Ty):Cw.CP K "NoneType" (vm t) false/\(∀b,Cw.CP K "bool" (vm t) (iB t (.bl b)))/\(∀i,Cw.CP K "int" (vm t) (iB t (.int i)))/\(∀z,Cw.CP K "str" (vm t) (iB t (.str z)))/\(∀z,Cw.CP K "tuple" (vm t) (iB t (.tup z)))/\(∀z,Cw.CP K "list" (vm t) (iB t (.lst z))):=by
 cases t
 all_goals refine⟨?_,λb=>?_,λb=>?_,λb=>?_,λb=>?_,λb=>?_⟩
 all_goals first
  |exact Cw.Cf _
  |exact Cw.B3 (b:=false) (by decide+kernel) (by decide+kernel) (by decide+kernel)
  |exact Cw.B3 (b:=true) (by decide+kernel) (by decide+kernel) (by decide+kernel)
theorem Cj(hK:W.K=X.K)(t:Ty):cg X (.builtin "isinstance") (λxs H Q=>∃v H0 G p r,xs=[v,.ty (vm t)]/\aB G H/\Top W H0 G H p v/\kM t p=.ok r/\dm W G H r Q):=by
 intro ae s σ H xs us Q I rr h;obtain⟨v,H0,G,p,r,rfl,sg,tp,e,wq⟩:=h
 obtain⟨u,u2,rfl,ru,ru2⟩:=Vals.two rr
 cases ru2;obtain⟨k1,k2,k3,k4,k5,k6⟩:=M6 (K:=X.K) t
 cases p with
 |exc c=>cases e
 |aX a b=>cases e
 |az=>cases e;cases tp.az;cases ru;cases t<;>exact PySem.W.kia_one PySem.W.kitx_none I.sI True.intro k1 (λz=>nomatch z) λtk=>⟨.bl _,H,I.tok tk,rfl,wq.at sg .b⟩
 |bl b=>cases e;cases tp.bl;cases ru;exact PySem.W.kia_one PySem.W.kitx_bool I.sI True.intro (k2 b) (λz=>nomatch z) λtk=>⟨.bl _,H,I.tok tk,rfl,wq.at sg .b⟩
 |int b=>cases e;cases tp.int;obtain⟨t1,rfl⟩:=ru;exact PySem.W.kia_one PySem.W.kitx_int I.sI True.intro (k3 b) (λz=>nomatch z) λtk=>⟨.bl _,H,I.tok tk,rfl,wq.at sg .b⟩
 |str b=>cases e;cases tp.str;obtain⟨t1,rfl⟩:=ru;exact PySem.W.kia_one PySem.W.kitx_str I.sI True.intro (k4 b) (λz=>nomatch z) λtk=>⟨.bl _,H,I.tok tk,rfl,wq.at sg .b⟩
 |tup b=>
  cases e;obtain⟨a,vs,rfl,h1,l1⟩:=tp.tup sg
  rw [hK] at h1;cases ru;obtain⟨ax,_,⟨o,e1,e2,_⟩,_⟩:=I.tuple h1
  exact PySem.W.kia_one PySem.W.kitx_tuple I.sI ⟨o,e1,e2⟩ (k5 b) (λz=>nomatch z) λtk=>⟨.bl _,H,I.tok tk,rfl,wq.at sg .b⟩
 |lst b=>
  cases e;obtain⟨a,vs,rfl,h1,l1⟩:=tp.lst sg
  cases ru;obtain⟨ax,n,_,_,_,e1⟩:=EU hK I h1
  exact PySem.W.kia_one PySem.W.kitx_list I.sI ⟨_,e1,rfl⟩ (k6 b) (λz=>nomatch z) λtk=>⟨.bl _,H,I.tok tk,rfl,wq.at sg .b⟩
end
section
variable{W:Wd}{X:Cx}{G H:Hp}
theorem k7{k:List Int}{v:V}(h:Rep W G (ah k) v):∃b,v=.ref b/\G b=some (.tup (k.map V.int)):=Top.tupI (H0:=G) (aB.refl G) rfl (.inl h)
theorem vR{K:PySem.W.Frag}(sg:aB G H):∀{xs:List PV} {nss:List (List Int)} {vs:List V},w9 xs=some nss->ai W G xs vs->nss.all (λk=>!k.isEmpty)=true->qa K H vs nss
 |[],_,_,e,l,_=>by cases e;simp only [ai] at l;subst l;exact .nil
 |x::xs,nss,vs,e,l,ne=>by
  unfold w9 at e;obtain⟨k,hk,e⟩:=zzZ.mp e
  obtain⟨r,hr,rfl⟩:=zzJ.mp e
  obtain⟨v,vr,rfl,h1,h2⟩:=l.aW
  rw [List.all_cons,zza] at ne;rw [eV hk] at h1;obtain⟨b,rfl,hb⟩:=k7 h1
  exact .cons ⟨b,rfl,.inl (.inl (sg _ _ hb)),λz=>by rw [z] at ne;exact absurd ne.1 (by decide)⟩ (vR sg hr h2 ne.2)
theorem qP{ps:List PV}{vs:List V}{nss:List (List Int)}(l:ai W G ps vs):ai W G (ik .az ps nss) (ik V.az vs nss):=by
 unfold ik;rw [l.length];split
 ·exact l
 ·have go:∀ix:List Nat,ai W G (ix.map λi=>ps.getD i .az) (ix.map λi=>vs.getD i V.az):=by
   intro ix
   induction ix with
   |nil=>exact .nil
   |cons i ix ih=>
    refine .cons ?_ ih;dsimp only
    by_cases hi:i<ps.length
    ·obtain⟨v,hv,rv⟩:=l.jW (zzg hi)
     have e1:ps.getD i .az=ps[i]:=by simp [hi]
     have e2:vs.getD i V.az=v:=by simp [hv]
     rw [e1,e2];exact rv
    ·have e1:ps.getD i .az=.az:=by simp [Nat.le_of_not_lt hi]
     have e2:vs.getD i V.az=.az:=by simp [Nat.le_of_not_lt (l.length▸hi)]
     rw [e1,e2];exact .n
  exact go _
theorem gY:∀{vs:List V} {nss:List (List Int)} {G:Hp},aB G H->Paired (λv ns=>∃b,v=V.ref b/\H b=some (.tup (ns.map V.int))) vs nss->∃G',aG W G H G' H/\ai W G' (nss.map ah) vs
 |_,_,G,sg,.nil=>⟨G,.refl sg,.nil⟩
 |_,_,G,sg,.cons (b:=ns) h t=>by
  obtain⟨b,rfl,hb⟩:=h
  have g1:=aG.adopt (W:=W) sg hb
  obtain⟨G2,g2,l⟩:=gY g1.sub t
  refine⟨G2,g1.trans g2,.cons (Rep.same g2.g _ ?_) l⟩;refine .t (.inl aq) ?_;have go:∀ns:List Int,ai W (upd G b (.tup (ns.map V.int))) (ns.map .int) (ns.map V.int)/\True:=λ_=>⟨by
   rename_i qX;have all:∀(G':Hp) (l:List Int),ai W G' (l.map .int) (l.map V.int):=λG' l=>by
    induction l with
    |nil=>exact .nil
    |cons x l ih=>exact .cons .i ih
   exact all _ _,trivial⟩
  exact(go ns).1
theorem pM(hK:W.K=X.K)(hc:X.calm=true):cg X (.builtin "sorted") (yu W je):=by
 intro ae s σ H xs us Q I r h;obtain⟨H0,G,ps,rr,sg,tp,e,wq⟩:=h
 unfold je at e;split at e
 ·obtain⟨nss,hn,e⟩:=Res.aR e
  split at e
  ·rename_i hb;rw [zza,zzN] at hb;cases e;obtain⟨v,rfl,t⟩:=dX tp
   obtain⟨a,vs,rfl,h1,l1⟩:=t.lst sg
   exact qk ae s σ H _ us Q I r ⟨a,vs,nss,rfl,dR hK h1,vR sg (Res.of_ok hn) l1 hb.2,by rw [l1.length];exact hb.1,λp hp=>wq _ _ _ (.new sg hp) (.l (.inl (.inl aq)) (ai.same (bx (sg.free hp)) _ (qP l1)))⟩
  ·cases e
 ·split at e
  ·rename_i ks q8 hb;rw [zza,zzN] at hb;cases e;obtain⟨v,rfl,t⟩:=dX tp
   obtain⟨a,us',rfl,n,hd,l⟩:=t.aX sg
   refine pT hc ae s σ H _ us Q I r ⟨a,_,ks,rfl,hd,qi n,λns hm z=>?_,by rw [fF n];exact hb.1,λp vs hp pv=>?_⟩
   ·have:=zzT.mp hb.2 ns hm
    rw [z] at this;exact absurd this (by decide)
   ·obtain⟨G1,g1,l1⟩:=gY (W:=W) sg pv
    exact wq _ _ _ (g1.trans (.new g1.sub hp)) (.l (.inl (.inl aq)) (ai.same (bx (g1.sub.free hp)) _ (qP l1)))
  ·cases e
 ·cases e
theorem BB(hK:W.K=X.K)(sg:aB G H):∀{xs:List PV} {ps:List (List Int×Int)} {vs:List V},vy xs=some ps->ai W G xs vs->Kv X.K H vs ps
 |[],_,_,e,l=>by cases e;simp only [ai] at l;subst l;exact .nil
 |x::xs,ps,vs,e,l=>by
  obtain⟨v,vr,rfl,h1,h2⟩:=l.aW
  unfold vy at e;split at e
  ·rename_i heq;cases heq
  ·rename_i heq;cases heq;obtain⟨k,hk,e⟩:=zzZ.mp e
   obtain⟨r,hr,rfl⟩:=zzJ.mp e
   simp only [Rep] at h1;obtain⟨q,ws,rfl,tq,lq⟩:=h1
   obtain⟨w1,wr,rfl,k1,lq⟩:=lq.aW
   obtain⟨w2,wr2,rfl,k2,lq⟩:=lq.aW
   simp only [ai] at lq;simp only [Rep] at k2;subst lq k2;rw [eV hk] at k1;obtain⟨b,rfl,hb⟩:=k7 k1
   refine .cons ⟨q,b,rfl,?_,.inl (.inl (sg _ _ hb))⟩ (BB hK sg hr h2);rw [<-hK];exact aB.tup sg tq.sq
  ·cases e
theorem nN(hK:W.K=X.K)(hu:X.A.units+64<cLine):cg X (.builtin "sorted") (yu W gr):=by
 intro ae s σ H xs us Q I r h;obtain⟨H0,G,ps,rr,sg,tp,e,wq⟩:=h
 unfold gr at e;split at e
 ·obtain⟨ns,hn,e⟩:=Res.aR e
  split at e
  ·rename_i hb;rw [zza,zzN] at hb;cases e;obtain⟨v,rfl,t⟩:=dX tp
   obtain⟨a,vs,rfl,h1,l1⟩:=t.lst sg
   exact nD hu ae s σ H _ us Q I r ⟨a,vs,ns,rfl,dR hK h1,BB hK sg (Res.of_ok hn) l1,λk hk=>beq_iff_eq.mp (zzT.mp hb.2 k hk),by rw [l1.length];exact hb.1,λp hp=>wq _ _ _ (.new sg hp) (.l (.inl (.inl aq)) (ai.same (bx (sg.free hp)) _ (qP l1)))⟩
  ·cases e
 ·cases e
theorem zT{K:PySem.W.Frag}(hK:W.K=K)(sg:aB G H):∀{xs:List PV} {ps:List (List Int×PV)} {vs:List V},nL xs=some ps->ai W G xs vs->∃us,ai W G (ps.map (·.2)) us/\il K H vs ((ps.map λp=>ki p.1).zip us)
 |[],_,_,e,l=>by cases e;simp only [ai] at l;subst l;exact⟨[],.nil,.nil⟩
 |x::xs,ps,vs,e,l=>by
  obtain⟨v,vr,rfl,h1,h2⟩:=l.aW
  unfold nL at e;split at e
  ·rename_i heq;cases heq
  ·rename_i heq;cases heq;obtain⟨k,hk,e⟩:=zzZ.mp e
   obtain⟨r,hr,rfl⟩:=zzJ.mp e
   obtain⟨us,l2,p2⟩:=zT hK sg hr h2
   simp only [Rep] at h1;obtain⟨q,ws,rfl,tq,lq⟩:=h1
   obtain⟨w1,wr,rfl,k1,lq⟩:=lq.aW
   obtain⟨w2,wr2,rfl,k2,lq⟩:=lq.aW
   simp only [ai] at lq;subst lq;rw [eV hk] at k1;obtain⟨b,rfl,hb⟩:=k7 k1
   refine⟨w2::us,.cons k2 l2,.cons ⟨q,b,rfl,?_,by rw [pS];exact sg _ _ hb⟩ p2⟩;rw [<-hK];exact aB.tup sg tq.sq
  ·cases e
theorem pj:∀(ps:List (List Int×PV)) {us:List V} {ks:List (List Int)} {qs:List PV} {ws:List V},ai W G (ps.map (·.2)) us->ks.length=ws.length->ai W G qs ws->∃zs,(dA ps ks qs).1.length=zs.length/\ai W G (dA ps ks qs).2 zs/\eB (kz ks ws) ((ps.map λp=>ki p.1).zip us)=kz (dA ps ks qs).1 zs
 |[],us,ks,qs,ws,_,n,l=>⟨ws,n,l,rfl⟩
 |p::ps,us,ks,qs,ws,lu,n,l=>by
  obtain⟨u,ur,rfl,h1,h2⟩:=lu.aW
  obtain⟨zs,z1,z2,z3⟩:=pj ps h2 (lH n p.1 u) (qx (ks:=ks) (k:=p.1) l h1)
  refine⟨zs,z1,z2,?_⟩;show eB (putK (kz ks ws) (ki p.1) u) _=_
  rw [vq n];exact z3
theorem tQ(hK:W.K=X.K){H0:Hp}{ps:List PV}{q:PV}{xs:List V}(sg:aB G H)(tp:Paired (λv p=>Top W H0 G H p v) xs ps)(e:ir ps=.ok q):∃ks qs,q=.aX ks qs/\∃a vs aw,xs=[V.ref a]/\eF X.K H a vs/\il X.K H vs aw/\∃zs,ks.length=zs.length/\ai W G qs zs/\eB [] aw=kz ks zs:=by
 unfold ir at e;split at e
 ·obtain⟨ps,hp,e⟩:=Res.aR e
  cases e;obtain⟨v,rfl,t⟩:=dX tp
  obtain⟨a,vs,rfl,h1,l1⟩:=t.lst sg
  obtain⟨ws,lw,pw⟩:=zT hK sg (Res.of_ok hp) l1
  obtain⟨zs,z1,z2,z3⟩:=pj ps (ks:=[]) (qs:=[]) (ws:=[]) lw rfl .nil
  exact⟨_,_,rfl,a,vs,_,rfl,dR hK h1,pw,zs,z1,z2,z3⟩
 ·cases e
theorem r8(hK:W.K=X.K)(hc:X.calm=true)(hu:X.A.units+64<cLine):cg X (.type "dict") (yu W ir):=by
 intro ae s σ H xs us Q I r h;obtain⟨H0,G,ps,rr,sg,tp,e,wq⟩:=h
 obtain⟨ks,qs,rfl,a,vs,aw,rfl,h1,pw,zs,z1,z2,z3⟩:=tQ hK sg tp e
 refine uQ hc (by omega) ae s σ H _ us Q I r ⟨a,vs,_,rfl,h1,pw,λp o hn=>?_⟩
 rw [z3];refine wq _ _ _ (.new sg hn) ?_;simp only [Rep];exact⟨p,o,zs,rfl,z1,aq,ai.same (bx (sg.free hn)) _ z2⟩
end
end Ci
namespace L2
open PySem PySem.Spec PyProof.Rows
section
variable{X:Cx}{scope:Scope}{xs ys:List Str}{is:List Nat}
theorem p7{i₀:Nat}{x₀:Str}{pos' fW:Pos}{elt tg iter JM:Expr}{pos:Pos}{wi:TI}{g:TG}{te:TE}{tt:TT}(hN₀:X.N.Nodup)(hi₀:X.N[i₀]?=some x₀)(hx₀:Loc X.env.scope x₀)(hc:X.calm=true)(S:fq X scope xs ys is)(hi:PI X tg iter wi)
 (hg:∀fp s1 H1 C,PG (cA X (xs++ys) scope (bU X.env ys) fp s1 H1 C) tg g) (ht:∀fp s1 H1 C,PT (cA X (xs++ys) scope (bU X.env ys) fp s1 H1 C) JM tt) (he:∀fp s1 H1 C,PE (cA X (xs++ys) scope (bU X.env ys) fp s1 H1 C) elt te)
 (B2:swapsWith (.ListComp elt [⟨tg,iter,[JM],0⟩] scope pos) (some (.Name x₀ pos')) fW.line X.env=pure true:=by rfl)
 (hs:∀x,foldedSetIterable iter X.env x=pure x:=by intro _;rfl) (hf₀:X.fn x₀=true\/X.env.scope.names.lookup x₀=some .local:=by first|exact .inl rfl|exact .inr rfl|assumption):
 PS X (.Assign [.Name x₀ pos'] (.ListComp elt [⟨tg,iter,[JM],0⟩] scope pos) fW) (Er (lC wi xs.length g tt te is) (dP i₀)):=by
 intro ae s σ H D₀ I h;rw [exec_Assign_Name_used _ _ _ _ B2];refine zzA (wpAny_standAt (zzA ?_));show wpAny _ X.A (do let _<-comprehension (.ListComp elt [⟨tg,iter,[JM],0⟩] scope pos) scope X.env _ (newList []) false (eval iter X.env) (some (assign (.Name x₀ pos') X.env))) _ _ s;refine zzA (wpAny_mono (g8 (QQ:=λ_ s'=>∃σ2 H2,Inv X ae σ2 H2 s'/\D₀.nx σ2 H2) (Q:=λv H4=>dP i₀ v σ H4 D₀.nx) hc S hi hg (λfp s1 H1 C=>wD (ht fp s1 H1 C)) he hs I h λD C s4 H4 m I5 hn ⟨g0,g1,_,g3,g4,g5⟩ q=>?_) (λ_ s' hq=>zzG (zzG hq)) λ_ _ e=>e)
 refine wpAny_assign_Name (kf I5 hN₀ hi₀ hx₀ (show RelV (.ref D) (.ref D) from rfl) (λs6 I6 ⟨a6,sb6,ha6⟩=>?_) hf₀);have AO:C≠a6:=by
  rcases ha6 with z|z
  ·rw [z];exact g1
  ·exact λz2=>g4 _ _ z z2.symm
 exact⟨m,hn.sameBut sb6 AO,λh' yk=>⟨_,_,I6.turned (t':=s6.toks) (it:=C) (λb o hb e=>yk.extBut b o hb e) g0 g1 g3 g4 g5,q⟩⟩
end
open PySem.AutoSeq1 (wpAny_loadPart')
section
variable{prog:Program}{w:World}{A:Around}{E:Value->Shared->Prop}{s:Shared}{jt tu:Addr}{i:Nat}{ax:Array Value}{Q:Value->Shared->Prop}
theorem kW{x:Value}(ih:s.heap.IsTupleIter jt tu i)(th:s.heap.IsTuple tu ax)(hx:ax[i]?=some x)
 (k:∀g,g.IsTupleIter jt tu (i+1)->Heap.SameBut jt s.heap g->Q x {s with heap:=g}):wpAny (model prog w) A (Builtin.SmallTypes.nextOf (.ref jt)) Q E s:=by
 obtain⟨ob,e1,e2,e3⟩:=id ih
 obtain⟨ot,f1,_,nn,f2⟩:=th
 unfold Builtin.SmallTypes.nextOf;refine zzA (wpAny_callSpecial?_slot (name:=Str.ofString "__next__") ih.typeIs F.slot_tuple_iterator_next (wpAny_call_entry F.slot_tuple_iterator_next ih.typeIs F.entry_tuple_iterator_next ?_ (F.args_tuple_iterator_next_1 _)));show wpAny _ _ (field (.ref jt) 0>>=_) _ _ s;refine zzA (wpAny_field e1 e3 (x:=.ref tu) rfl ?_);show wpAny _ _ (if(Value.ref tu==Value.none)=true then _ else _) _ _ s;rw [if_neg (show¬((Value.ref tu==Value.none)=true) from zzf)];show wpAny _ _ (field (.ref jt) 1>>=_) _ _ s;refine zzA (wpAny_field e1 e3 (x:=.int i 0) rfl ?_);show wpAny _ _ (seqItems? (.ref tu)>>=_) _ _ s;refine zzA (wpAny_seqItems f1 f2 ?_);simp only [Int.toNat_natCast,hx];refine zzA (wpAny_setField e1 e3 (by simp) (zzG ⟨x,rfl,zzG (k _ ?_ (Heap.SameBut.update ..))⟩));exact⟨_,Heap.get?_update_self _ e1 (Obj.isFreed_of_fields (Obj.data_mapFields e3 _)),(Obj.cls_mapFields ..).trans e2,by rw [Obj.data_mapFields e3];simp [rawInt]⟩
theorem mq(hh:A.handled=none)(ih:s.heap.IsTupleIter jt tu i)(th:s.heap.IsTuple tu ax)(hx:ax[i]?=none)
 (k:∀g e,Heap.ExtBut jt s.heap g->(∃o,g.get? e=some o/\o.cls=.type "StopIteration")->E (.ref e) {s with heap:=g}):wpAny (model prog w) A (Builtin.SmallTypes.nextOf (.ref jt)) Q E s:=by
 obtain⟨ob,e1,e2,e3⟩:=id ih
 obtain⟨ot,f1,_,nn,f2⟩:=th
 unfold Builtin.SmallTypes.nextOf;refine zzA (wpAny_callSpecial?_slot (name:=Str.ofString "__next__") ih.typeIs F.slot_tuple_iterator_next (wpAny_call_entry F.slot_tuple_iterator_next ih.typeIs F.entry_tuple_iterator_next ?_ (F.args_tuple_iterator_next_1 _)));show wpAny _ _ (field (.ref jt) 0>>=_) _ _ s;refine zzA (wpAny_field e1 e3 (x:=.ref tu) rfl ?_);show wpAny _ _ (if(Value.ref tu==Value.none)=true then _ else _) _ _ s;rw [if_neg (show¬((Value.ref tu==Value.none)=true) from zzf)];show wpAny _ _ (field (.ref jt) 1>>=_) _ _ s;refine zzA (wpAny_field e1 e3 (x:=.int i 0) rfl ?_);show wpAny _ _ (seqItems? (.ref tu)>>=_) _ _ s;refine zzA (wpAny_seqItems f1 f2 ?_);simp only [Int.toNat_natCast,hx];refine zzA (wpAny_rule (zzA (wpAny_setField e1 e3 (by simp) ?_)));show wpAny _ _ (newExc (.type "StopIteration") []>>=_) _ _ _;refine zzA ?_;simp only [newExc,newTuple];refine zzA (wpAny_newObj_type ?_ (by size_fits));refine zzA (m:=firstArgMember _ _) (wpAny_of_eq (a:=Value.none) (by first|rfl|(simp only [firstArgMember];rfl)) ?_);refine wpAny_newObj_type ?_ (by size_fits);simp only [raiseNew];refine zzA (wpAny_handled ?_)
 first|rw [show A.in1.handled=none from hh]|rw [hh]
 refine zzA (zzG (wpAny_throw ?_));exact k _ _ (((Heap.SameBut.update ..).extBut.push _).push _) ⟨_,zzX _ rfl,rfl⟩
end
theorem oy{prog:Program}{w:World}{A:Around}(hh:A.handled=none)(jt tu:Addr)(mI:tu≠jt)(ax:Array Value):
 Draws prog w A jt [jt,tu] ax.size (λi v=>ax[i]?=some v) (λi h=>h.IsTupleIter jt tu i/\h.IsTuple tu ax) where
 live:=λ_ _ st=>let⟨o,ho,_⟩:=st.1;⟨o,ho⟩
 frame:=λ_ _ _ st hk=>⟨st.1.at λo e=>hk jt (by simp) o e,by obtain⟨o,e,r⟩:=st.2;exact⟨o,hk tu (by simp) o e,r⟩⟩
 item:=λi s Q E hi st hQ=>kW st.1 st.2 (x:=ax[i]) (by simp [hi]) λg ig sb=>hQ _ g s.toks (by simp [hi]) ⟨ig,by obtain⟨o,e,r⟩:=st.2;exact⟨o,sb.extBut _ _ mI e,r⟩⟩ sb
 done:=λs Q E st hE=>mq hh st.1 st.2 (by simp) hE
theorem yz(l:Addr)(items:Array Value)(n:Nat)(aX:Option Addr)(sl:Array (Option Value)):
 Meets (Builtin.«enumerate.__new__» ⟨[.type "enumerate",.ref l],[]⟩) (λ_ R s=>s.heap.get? l=some {cls:=.type "tuple",dict:=aX,data:=.seq items n,slots:=sl}/\
  R (.ok (.ret (.ref (s.heap.push {cls:=.type "tuple_iterator",data:=.fields #[.ref l,.int 0 0]}).objs.size)))
   {s with heap:=(s.heap.push {cls:=.type "tuple_iterator",data:=.fields #[.ref l,.int 0 0]}).push {cls:=.type "enumerate",data:=.fields #[.none,.bool false,.ref s.heap.objs.size,rawInt 0,.none,.none]}}):=
 .of_wp λprog w A R s h=>by
  obtain⟨hp,g,d,tk,os⟩:=s
  obtain⟨hl,h⟩:=h
  have Vi:=sub_enumerate
  have hL:Heap.IsTuple (Shared.heap ⟨hp,g,d,tk,os⟩) l items:=⟨_,hl,rfl,n,rfl⟩
  wp_walk using wpAny_loadPart' hl
  refine wpAny_stack_any λst=>zzG ?_
  split
  ·rename_i c _ _ _ _ _;cases(c==Value.type "enumerate")<;>(wp_walk using wpAny_loadPart' hl,wpAny_pyIter_tuple hL;exact⟨_,rfl,h⟩)
  ·wp_walk using wpAny_loadPart' hl,wpAny_pyIter_tuple hL
   exact⟨_,rfl,h⟩
theorem aH{h:Heap}{a b:Addr}{o1 o2:Obj}(h1:h.get? a=some o1)(h2:h.get? b=some o2)(hc:o1.cls≠o2.cls):a≠b:=λz=>by
 subst z;rw [h1] at h2;cases h2;exact hc rfl
theorem fj(z:Str):strIterType z="str_ascii_iterator"\/strIterType z="str_iterator":=by
 unfold strIterType;split
 ·exact .inl rfl
 ·exact .inr rfl
theorem j3{X:Cx}{ae:List (Addr×Obj)}{σ:St}{H:Hp}{s:Shared}{E:Value->Shared->Prop}{e it:Addr}{Tb:List Addr}{n i:Nat}{Pv:Nat->Value->Prop}{Sv:Nat->Heap->Prop}{old:Value}{Gx:V->Prop}{elts:List Expr}{x1:Nat}{pos:Pos}
 (I:Inv X ae σ H s) (D:Draws X.prog X.w X.A.in1 it Tb n Pv Sv) (he:IsEnum s.heap e it i old) (dS:Sv i s.heap) (bZ:i<n) (mI:e≠it) (Tx:e∉Tb) (hf:∀b∈[e,it],dZ X ae H b) (hP:∀u,Pv i u->∃x,RelV x u/\Gx x):
 wpAny (model X.prog X.w) X.A (pyNext (.ref e)) (λr s1=>∃u,r=some u/\wpAny (model X.prog X.w) X.A (letOwnedTupleGo (.Tuple elts x1 pos) (.ref e) u) (λ_ s2=>∃x p,u=.ref p/\Gx x/\H p=none/\e≠p/\it≠p/\
  Inv X ae σ (upd H p (.tup [.int i,x])) s2/\(∃Rj,IsEnum s2.heap e it ((i:Int)+1) Rj)/\Sv (i+1) s2.heap) E s1) E s:=by
 refine wpAny_pyNext_enum_itemD D he dS bZ mI Tx λu h' tk pu ho gh ht hz kk=>?_
 obtain⟨x,rx,gx⟩:=hP u pu
 obtain⟨f0,f1,f2,f3,f4,f5⟩:=hf e (by simp)
 obtain⟨g0,g1,g2,g3,g4,g5⟩:=hf it (by simp)
 have ze:H s.heap.objs.size=none:=I.aS.fresh (zzE _)
 obtain⟨oi,hoi⟩:=D.live _ _ dS
 have Ua:e≠s.heap.objs.size:=zzb (zzO he)
 have VB:it≠s.heap.objs.size:=zzb (zzO hoi)
 have oC:∀b o,H b=some o->b≠e/\b≠it/\b≠s.heap.objs.size:=λb o q=>⟨(λz=>(by rw [z,f0] at q;cases q)),(λz=>(by rw [z,g0] at q;cases q)),zzb (I.aS.lt q)⟩
 have I1:Inv X ae σ (upd H s.heap.objs.size (.tup [.int i,x])) {s with heap:=h',toks:=tk+1}:=by
  refine I.step (g':=s.gens) (d':=s.drawn) (ch:=[e,it]) (λb hb=>?_) (λb o _ _ hc q _=>kk b o (λz=>hc (by simp [z])) (λz=>hc (by simp [z])) q)
   (λb o _ _ hc q _=>⟨o.slots,kk b o (λz=>hc (by simp [z])) (λz=>hc (by simp [z])) q⟩) (λb o _ q nb=>by rw [af (zzb (zzO q))];exact nb)
   (λb o hc q=>⟨o,kk b o (λz=>hc (by simp [z])) (λz=>hc (by simp [z])) q⟩) (λb xs q=>by rw [af (oC b _ q).2.2];exact q) (λb o u q=>by rw [af (oC b _ q).2.2];exact q)
   (λb ps q=>⟨#[],by rw [af (oC b _ q).2.2,q];simp⟩) (λm hm=>?_) (λb o q=>?_) I.bare
  ·rcases List.mem_cons.mp hb with z|z
   ·subst z;exact⟨f3,f1,f4,f5⟩
   ·rw [zzi.mp z];exact⟨g3,g1,g4,g5⟩
  ·obtain⟨o,es,ep,q,r⟩:=hm
   exact⟨o,es,ep,kk _ o (Ne.symm f1) (Ne.symm g1) q,r⟩
  ·by_cases hb:b=s.heap.objs.size
   ·subst hb;rw [aq] at q;cases q;exact⟨(show 2<=sizeLine by decide),[.int i tk,u],.cons ⟨tk,rfl⟩ (.cons rx .nil),⟨_,ht,rfl,_,rfl⟩⟩
   ·rw [af hb] at q;refine(I.aS b o q).ei (λc v hc z=>kk c v ?_ ?_ z) (λc z=>by rw [af (oC c _ z).2.2];exact z) λc xs z=>by rw [af (oC c _ z).2.2];exact z
    ·rcases hc with z'|z'
     ·rw [z'];exact(oC b o q).1
     ·exact(oC c _ z').1
    ·rcases hc with z'|z'
     ·rw [z'];exact(oC b o q).2.1
     ·exact(oC c _ z').2.1
 refine⟨_,rfl,wpAny_letOwnedTupleGo_enum ho λh2 Jb sb=>?_⟩
 refine⟨x,s.heap.objs.size,rfl,gx,ze,Ua,VB,I1.turned (t':=tk+1) (it:=e) (λb o hb q=>sb.extBut b o hb q) (by rw [af Ua];exact f0) f1 f3 f4 f5,⟨_,Jb⟩,D.frame _ _ _ gh λb hb o q=>sb.extBut b o (λz=>Tx (z▸hb)) q⟩
noncomputable def QB(K:PySem.W.Frag)(a:Addr)(xs:List V):It:=
 ⟨λi H=>eP K H a xs/\i<xs.length,λi H v H'=>∃p x,v=.ref p/\H p=none/\H'=upd H p (.tup [.int (i:Nat),x])/\xs[i]?=some x,λi H=>eP K H a xs/\i=xs.length⟩
noncomputable def OG(z:Str):It:=
 ⟨λi _=>i<z.cps.size,λi H v H'=>∃p c,v=.ref p/\H p=none/\H'=upd H p (.tup [.int (i:Nat),.str ⟨#[c]⟩])/\z.cps[i]?=some c,λi _=>i=z.cps.size⟩
theorem uH{P:Program}{w:World}{K:PySem.W.Frag}{elts:List Expr}{x1:Nat}{pos:Pos}(a e it:Addr)(xs:List V):Turn P w K (.Tuple elts x1 pos) (QB K a xs) [e,it] e (λi h=>(∃old,IsEnum h e it i old)/\h.IsTupleIter it a i) where
 mem:=by simp
 obj:=λi h st b hb=>by
  obtain⟨⟨old,he⟩,o,ho,_,hd⟩:=st
  rcases List.mem_cons.mp hb with z|z
  ·subst z;exact⟨_,he,λv q=>by cases q⟩
  ·rw [zzi.mp z];exact⟨o,ho,λv q=>by rw [hd] at q;cases q⟩
 keep:=λi h h' st k=>⟨by obtain⟨old,he⟩:=st.1;exact⟨old,k e (by simp) _ he⟩,st.2.at λo q=>k it (by simp) o q⟩
 item:=by
  intro X hP hw hK hc i ae s σ H E I hf st hg;subst hP hw hK;obtain⟨hq,bZ⟩:=hg
  obtain⟨⟨old,he⟩,hit⟩:=st
  obtain⟨ax,rv,p,hz⟩:=I.tuple hq
  have hl:=rv.length
  have kL:=hit
  obtain⟨oi,e1,e2,_⟩:=hit
  obtain⟨oa,a1,a2,_⟩:=id p
  have AO:a≠it:=aH a1 e1 (by rw [a2,e2];decide+kernel)
  have GO:e≠it:=aH he e1 (by rw [e2];show Value.type "enumerate"≠_;decide+kernel)
  have KN:e≠a:=aH he a1 (by rw [a2];show Value.type "enumerate"≠_;decide+kernel)
  refine bX (j3 (Gx:=λx=>xs[i]?=some x) I (oy (A:=X.A.in1) (I.ok.hd hc) it a AO ax.toArray) he ⟨kL,p⟩ (by rw [zzC];omega) GO (by simp [GO,KN]) hf (λu hu=>?_)) λr s1 ⟨u,hr,k⟩=>⟨u,hr,bX k λ_ s2 ⟨x,q,z1,z2,z3,z4,z5,z6,z7,z8⟩=>?_⟩
  ·have Nb:xs[i]?=some xs[i]:=zzg bZ
   obtain⟨u',hu',ru'⟩:=rv.get Nb
   have:ax.toArray[i]?=some u':=by simpa using hu'
   have Lk:ax.toArray[i]?=some u:=hu
   rw [this] at Lk;cases Lk;exact⟨xs[i],ru',Nb⟩
  ·exact⟨.ref q,_,z6,z1.symm▸rfl,⟨q,x,rfl,z3,rfl,z2⟩,⟨z7,z8.1⟩,λb hb=>by
    rcases List.mem_cons.mp hb with w|w
    ·rw [w,af z4];exact(hf e (by simp)).1
    ·rw [zzi.mp w,af z5];exact(hf it (by simp)).1⟩
 done:=by
  intro X hP hw hK hc i ae s σ H E I hf st hg;subst hP hw hK;obtain⟨hq,rfl⟩:=hg
  obtain⟨⟨old,he⟩,hit⟩:=st
  obtain⟨ax,rv,p,hz⟩:=I.tuple hq
  have hl:=rv.length
  have kL:=hit
  obtain⟨oi,e1,e2,_⟩:=hit
  obtain⟨oa,a1,a2,_⟩:=id p
  have AO:a≠it:=aH a1 e1 (by rw [a2,e2];decide+kernel)
  obtain⟨g0,g1,g2,g3,g4,g5⟩:=hf it (by simp)
  refine wpAny_pyNext_enum_endD (oy (A:=X.A.in1) (I.ok.hd hc) it a AO ax.toArray) he ⟨by rw [zzC,<-hl];exact kL,p⟩ λh' eb=>⟨rfl,I.turned (t':=s.toks) (λb o hb q=>eb b o hb q) g0 g1 g3 g4 g5⟩
 self:=λ_ _ _ _ _ st h=>by obtain⟨⟨old,he⟩,_⟩:=st;exact wpAny_pyIter_enum he h
theorem nO{prog:Program}{w:World}{A:Around}{E:Value->Shared->Prop}{s:Shared}{l:Addr}{items:Array Value}{Q:Value->Shared->Prop}(hL:IsTup s.heap l items)
 (h:∀g,IsEnum g (s.heap.objs.size+1) s.heap.objs.size 0 .none->g.IsTupleIter s.heap.objs.size l 0->(∀b o,s.heap.get? b=some o->g.get? b=some o)->Q (.ref (s.heap.objs.size+1)) {s with heap:=g}):
 wpAny (model prog w) A (call (.type "enumerate") [.ref l]) Q E s:=by
 obtain⟨⟨cls,dd,data,sl⟩,ho,hc,n,hd⟩:=id hL
 simp only at hc hd;subst hc hd;have hz:(s.heap.push {cls:=.type "tuple_iterator",data:=.fields #[.ref l,.int 0 0]}).objs.size=s.heap.objs.size+1:=Heap.size_push ..
 refine callType_new F.called_enumerate (by decide) (F.typeCall_enumerate_1 _) (F.newCall_enumerate_1 _) (λobj=>F.args_object_init_2 obj _) F.entry_enumerate_new (yz l items n dd sl) ⟨ho,?_⟩;show _/\_;rw [hz];have he:IsEnum ((s.heap.push {cls:=.type "tuple_iterator",data:=.fields #[.ref l,.int 0 0]}).push {cls:=.type "enumerate",data:=.fields #[.none,.bool false,.ref s.heap.objs.size,rawInt 0,.none,.none]}) (s.heap.objs.size+1) s.heap.objs.size 0 .none:=by
  have q:=zzX (s.heap.push {cls:=.type "tuple_iterator",data:=.fields #[.ref l,.int 0 0]}) (o:={cls:=.type "enumerate",data:=.fields #[.none,.bool false,.ref s.heap.objs.size,rawInt 0,.none,.none]}) rfl
  rw [hz] at q;exact q
 exact⟨⟨_,he,rfl⟩,h _ he ⟨_,zzB _ (zzX _ rfl),rfl,rfl⟩ λb o x=>zzB _ (zzB _ x)⟩
section
variable{X:Cx}{elts:List Expr}{x1:Nat}{mG:Pos}
noncomputable def RR(K:PySem.W.Frag)(ta:TA):TI:=λσ H R=>ta σ H λvs H1=>∃a xs,vs=[.ref a]/\eP K H1 a xs/\R (QB K a xs) H1
theorem Cp{a:Expr}{ta:TA}{p pos:Pos}(hg:Gl X "enumerate")(hm:X.mg "enumerate"=none)(ha:PA X [a] ta)(hs:starEach [a] X.env=[(false,eval a X.env)]:=by rfl):PI X (.Tuple elts x1 mG) (.Call (.Name "enumerate" p) [a] [] pos) (RR X.K ta):=by
 intro ae s σ H R I h;refine Call_ (fb I hg hm boot_enumerate (PyProof.Rows.callWith_type1 (bX (ha pos ae s σ H _ I h) λus s1 ⟨vs,H1,I1,r1,q1⟩=>?_) hs rfl))
 obtain⟨a,xs,e,hq,q⟩:=q1
 subst e;obtain⟨u,rfl,ru⟩:=vals1 r1
 cases ru;obtain⟨ax,rv,pt,hz⟩:=I1.tuple hq
 refine nO pt λg he hi kp=>wpAny_pyIter_enum he ?_
 have I2:Inv X ae σ H1 {s1 with heap:=g}:=I1.kept (t':=s1.toks) kp
 refine⟨s1.heap.objs.size+1,[s1.heap.objs.size+1,s1.heap.objs.size],_,_,H1,rfl,I2,uH a _ s1.heap.objs.size xs,⟨⟨_,he⟩,hi⟩,λb hb=>?_,q⟩
 have iR:s1.heap.objs.size<=b:=by
  rcases List.mem_cons.mp hb with z|z
  ·rw [z];exact Nat.le_succ _
  ·rw [zzi.mp z];exact zzE _
 exact I1.j9 iR (I1.aS.fresh iR)
end
theorem uf{P:Program}{w:World}{K:PySem.W.Frag}{elts:List Expr}{x1:Nat}{pos:Pos}(z:Str)(t:Tok)(e it:Addr):Turn P w K (.Tuple elts x1 pos) (OG z) [e,it] e (λi h=>(∃old,IsEnum h e it i old)/\h.IsStrIter it (strIterType z) z t i) where
 mem:=by simp
 obj:=λi h st b hb=>by
  obtain⟨⟨old,he⟩,o,ho,_,hd⟩:=st
  rcases List.mem_cons.mp hb with q|q
  ·subst q;exact⟨_,he,λv q=>by cases q⟩
  ·rw [zzi.mp q];exact⟨o,ho,λv q=>by rw [hd] at q;cases q⟩
 keep:=λi h h' st k=>⟨by obtain⟨old,he⟩:=st.1;exact⟨old,k e (by simp) _ he⟩,by obtain⟨o,q,r⟩:=st.2;exact⟨o,k it (by simp) o q,r⟩⟩
 item:=by
  intro X hP hw hK hc i ae s σ H E I hf st hg;subst hP hw hK;have bZ:i<z.cps.size:=hg
  obtain⟨⟨old,he⟩,hit⟩:=st
  have kL:=hit
  obtain⟨oi,e1,e2,_⟩:=hit
  have GO:e≠it:=aH he e1 (by
   rw [e2];show Value.type "enumerate"≠_;rcases fj z with q|q<;>rw [q]<;>decide+kernel)
  have fin:∀{Sv:Nat->Heap->Prop},Draws X.prog X.w X.A.in1 it [it] z.cps.size (λi v=>∃c u,z.cps[i]?=some c/\v=.str ⟨#[c]⟩ u) Sv->Sv i s.heap->(∀h,Sv (i+1) h->h.IsStrIter it (strIterType z) z t (i+1))->
   wpAny (model X.prog X.w) X.A (pyNext (.ref e)) (λr s1=>∃u,r=some u/\wpAny (model X.prog X.w) X.A (letOwnedTupleGo (.Tuple elts x1 pos) (.ref e) u) (λ_ s2=>∃x H',Inv X ae σ H' s2/\RelV x u/\(OG z).KP i H x H'/\((∃old,IsEnum s2.heap e it (((i+1:Nat)):Int) old)/\s2.heap.IsStrIter it (strIterType z) z t (i+1))/\∀b∈[e,it],H' b=none) E s1) E s:=by
   intro Sv D dS back;refine bX (j3 (Gx:=λx=>∃c,x=.str ⟨#[c]⟩/\z.cps[i]?=some c) I D he dS bZ GO (by simp [GO]) hf (λu ⟨c,tk,hc,hu⟩=>⟨.str ⟨#[c]⟩,⟨tk,hu⟩,c,rfl,hc⟩)) λr s1 ⟨u,hr,k⟩=>⟨u,hr,bX k λ_ s2 ⟨x,q,z1,⟨c,z2,qh⟩,z3,z4,z5,z6,z7,z8⟩=>?_⟩
   subst z2;exact⟨.ref q,_,z6,z1.symm▸rfl,⟨q,c,rfl,z3,rfl,qh⟩,⟨z7,back _ z8⟩,λb hb=>by
    rcases List.mem_cons.mp hb with w|w
    ·rw [w,af z4];exact(hf e (by simp)).1
    ·rw [zzi.mp w,af z5];exact(hf it (by simp)).1⟩
  rcases fj z with q|q
  ·rw [q] at kL⊢;rw [q] at fin;exact fin (Draws.strAscii (A:=X.A.in1) (I.ok.hd hc) it z t) kL λh st=>st
  ·rw [q] at kL⊢;rw [q] at fin;exact fin (Draws.strWide (A:=X.A.in1) (I.ok.hd hc) it z t) kL λh st=>st
 done:=by
  intro X hP hw hK hc i ae s σ H E I hf st hg;subst hP hw hK;have hi:i=z.cps.size:=hg
  subst hi;obtain⟨⟨old,he⟩,hit⟩:=st
  obtain⟨g0,g1,g2,g3,g4,g5⟩:=hf it (by simp)
  rcases fj z with q|q
  ·rw [q] at hit;exact wpAny_pyNext_enum_endD (Draws.strAscii (A:=X.A.in1) (I.ok.hd hc) it z t) he hit λh' eb=>⟨rfl,I.turned (t':=s.toks) (λb o hb q=>eb b o hb q) g0 g1 g3 g4 g5⟩
  ·rw [q] at hit;exact wpAny_pyNext_enum_endD (Draws.strWide (A:=X.A.in1) (I.ok.hd hc) it z t) he hit λh' eb=>⟨rfl,I.turned (t':=s.toks) (λb o hb q=>eb b o hb q) g0 g1 g3 g4 g5⟩
 self:=λ_ _ _ _ _ st h=>by obtain⟨⟨old,he⟩,_⟩:=st;exact wpAny_pyIter_enum he h
section
variable{X:Cx}{elts:List Expr}{x1:Nat}{mG:Pos}
noncomputable def Ru(ta:TA):TI:=λσ H R=>ta σ H λvs H1=>∃z,vs=[.str z]/\R (OG z) H1
theorem BV{a:Expr}{ta:TA}{p pos:Pos}(hg:Gl X "enumerate")(hm:X.mg "enumerate"=none)(ha:PA X [a] ta)(hs:starEach [a] X.env=[(false,eval a X.env)]:=by rfl):PI X (.Tuple elts x1 mG) (.Call (.Name "enumerate" p) [a] [] pos) (Ru ta):=by
 intro ae s σ H R I h;refine Call_ (fb I hg hm boot_enumerate (PyProof.Rows.callWith_type1 (bX (ha pos ae s σ H _ I h) λus s1 ⟨vs,H1,I1,r1,q1⟩=>?_) hs rfl))
 obtain⟨z,e,q⟩:=q1
 subst e;obtain⟨u,rfl,t,rfl⟩:=vals1 r1
 refine call_enumerate_str λg he hi hz kp=>wpAny_pyIter_enum he ?_
 have I2:Inv X ae σ H1 {s1 with heap:=g}:=I1.kept (t':=s1.toks) kp
 refine⟨s1.heap.objs.size+1,[s1.heap.objs.size+1,s1.heap.objs.size],_,_,H1,rfl,I2,uf z t _ s1.heap.objs.size,⟨⟨_,he⟩,hi⟩,λb hb=>?_,q⟩
 have iR:s1.heap.objs.size<=b:=by
  rcases List.mem_cons.mp hb with z|z
  ·rw [z];exact Nat.le_succ _
  ·rw [zzi.mp z];exact zzE _
 exact I1.j9 iR (I1.aS.fresh iR)
end
noncomputable def HD(K:PySem.W.Frag)(a:Addr)(xs:List V):It:=
 ⟨λi H=>eF K H a xs/\i<xs.length,λi H v H'=>∃p x,v=.ref p/\H p=none/\H'=upd H p (.tup [.int (i:Nat),x])/\xs[i]?=some x,λi H=>eF K H a xs/\i=xs.length⟩
theorem ud{P:Program}{w:World}{K:PySem.W.Frag}{elts:List Expr}{x1:Nat}{pos:Pos}(a e it:Addr)(xs:List V):Turn P w K (.Tuple elts x1 pos) (HD K a xs) [e,it] e (λi h=>(∃old,IsEnum h e it i old)/\h.IsListIter it a i) where
 mem:=by simp
 obj:=λi h st b hb=>by
  obtain⟨⟨old,he⟩,o,ho,_,hd⟩:=st
  rcases List.mem_cons.mp hb with z|z
  ·subst z;exact⟨_,he,λv q=>by cases q⟩
  ·rw [zzi.mp z];exact⟨o,ho,λv q=>by rw [hd] at q;cases q⟩
 keep:=λi h h' st k=>⟨by obtain⟨old,he⟩:=st.1;exact⟨old,k e (by simp) _ he⟩,st.2.at λo q=>k it (by simp) o q⟩
 item:=by
  intro X hP hw hK hc i ae s σ H E I hf st hg;subst hP hw hK;obtain⟨hq,bZ⟩:=hg
  obtain⟨⟨old,he⟩,hit⟩:=st
  obtain⟨ax,rv,p,hz⟩:=I.list hq
  have hl:=rv.length
  have kL:=hit
  obtain⟨oi,e1,e2,_⟩:=hit
  obtain⟨oa,a1,a2,_⟩:=p.isList
  have AO:a≠it:=aH a1 e1 (by rw [a2,e2];decide+kernel)
  have GO:e≠it:=aH he e1 (by rw [e2];show Value.type "enumerate"≠_;decide+kernel)
  have KN:e≠a:=aH he a1 (by rw [a2];show Value.type "enumerate"≠_;decide+kernel)
  refine bX (j3 (Gx:=λx=>xs[i]?=some x) I (Draws.list (A:=X.A.in1) (I.ok.hd hc) it a AO ax.toArray) he ⟨kL,p.isList⟩ (by rw [zzC];omega) GO (by simp [GO,KN]) hf (λu hu=>?_)) λr s1 ⟨u,hr,k⟩=>⟨u,hr,bX k λ_ s2 ⟨x,q,z1,z2,z3,z4,z5,z6,z7,z8⟩=>?_⟩
  ·have Nb:xs[i]?=some xs[i]:=zzg bZ
   obtain⟨u',hu',ru'⟩:=rv.get Nb
   have:ax.toArray[i]?=some u':=by simpa using hu'
   have Lk:ax.toArray[i]?=some u:=hu
   rw [this] at Lk;cases Lk;exact⟨xs[i],ru',Nb⟩
  ·exact⟨.ref q,_,z6,z1.symm▸rfl,⟨q,x,rfl,z3,rfl,z2⟩,⟨z7,z8.1⟩,λb hb=>by
    rcases List.mem_cons.mp hb with w|w
    ·rw [w,af z4];exact(hf e (by simp)).1
    ·rw [zzi.mp w,af z5];exact(hf it (by simp)).1⟩
 done:=by
  intro X hP hw hK hc i ae s σ H E I hf st hg;subst hP hw hK;obtain⟨hq,rfl⟩:=hg
  obtain⟨⟨old,he⟩,hit⟩:=st
  obtain⟨ax,rv,p,hz⟩:=I.list hq
  have hl:=rv.length
  have kL:=hit
  obtain⟨oi,e1,e2,_⟩:=hit
  obtain⟨oa,a1,a2,_⟩:=p.isList
  have AO:a≠it:=aH a1 e1 (by rw [a2,e2];decide+kernel)
  obtain⟨g0,g1,g2,g3,g4,g5⟩:=hf it (by simp)
  refine wpAny_pyNext_enum_endD (Draws.list (A:=X.A.in1) (I.ok.hd hc) it a AO ax.toArray) he ⟨by rw [zzC,<-hl];exact kL,p.isList⟩ λh' eb=>⟨rfl,I.turned (t':=s.toks) (λb o hb q=>eb b o hb q) g0 g1 g3 g4 g5⟩
 self:=λ_ _ _ _ _ st h=>by obtain⟨⟨old,he⟩,_⟩:=st;exact wpAny_pyIter_enum he h
section
variable{X:Cx}{elts:List Expr}{x1:Nat}{mG:Pos}
noncomputable def Qj(K:PySem.W.Frag)(ta:TA):TI:=λσ H R=>ta σ H λvs H1=>∃a xs,vs=[.ref a]/\eF K H1 a xs/\R (HD K a xs) H1
theorem rV{a:Expr}{ta:TA}{p pos:Pos}(hg:Gl X "enumerate")(hm:X.mg "enumerate"=none)(ha:PA X [a] ta)(hs:starEach [a] X.env=[(false,eval a X.env)]:=by rfl):PI X (.Tuple elts x1 mG) (.Call (.Name "enumerate" p) [a] [] pos) (Qj X.K ta):=by
 intro ae s σ H R I h;refine Call_ (fb I hg hm boot_enumerate (PyProof.Rows.callWith_type1 (bX (ha pos ae s σ H _ I h) λus s1 ⟨vs,H1,I1,r1,q1⟩=>?_) hs rfl))
 obtain⟨a,xs,e,hq,q⟩:=q1
 subst e;obtain⟨u,rfl,ru⟩:=vals1 r1
 cases ru;obtain⟨ax,rv,pt,hz⟩:=I1.list hq
 refine call_enumerate_list pt.isList λg he hi _ kp=>wpAny_pyIter_enum he ?_
 have I2:Inv X ae σ H1 {s1 with heap:=g}:=I1.kept (t':=s1.toks) kp
 refine⟨s1.heap.objs.size+1,[s1.heap.objs.size+1,s1.heap.objs.size],_,_,H1,rfl,I2,ud a _ s1.heap.objs.size xs,⟨⟨_,he⟩,hi⟩,λb hb=>?_,q⟩
 have iR:s1.heap.objs.size<=b:=by
  rcases List.mem_cons.mp hb with z|z
  ·rw [z];exact Nat.le_succ _
  ·rw [zzi.mp z];exact zzE _
 exact I1.j9 iR (I1.aS.fresh iR)
end
section
variable{X:Cx}{ae:List (Addr×Obj)}{σ:St}{H:Hp}{s:Shared}{h':Heap}{ch:List Addr}
theorem Inv.moved{tk:Nat}(I:Inv X ae σ H s)(hf:∀b∈ch,dZ X ae H b)(kk:∀b o,b∉ch->s.heap.get? b=some o->h'.get? b=some o):Inv X ae σ H {s with heap:=h',toks:=tk}:=by
 have oC:∀b o,H b=some o->b∉ch:=λb o q z=>by rw [(hf b z).1] at q;cases q
 refine I.step (g':=s.gens) (d':=s.drawn) (ch:=ch) (λb hb=>?_) (λb o _ _ hc q _=>kk b o hc q) (λb o _ _ hc q _=>⟨o.slots,kk b o hc q⟩) (λ_ _ _ _ n=>n)
  (λb o hc q=>⟨o,kk b o hc q⟩) (λb xs q=>q) (λb o u q=>q) (λb ps q=>⟨#[],by rw [q];simp⟩) (λm hm=>?_) (λb o q=>?_) I.bare
 ·obtain⟨f0,f1,f2,f3,f4,f5⟩:=hf b hb
  exact⟨f3,f1,f4,f5⟩
 ·obtain⟨o,es,ep,q,r⟩:=hm
  exact⟨o,es,ep,kk _ o (λz=>(hf _ z).2.1 rfl) q,r⟩
 ·refine(I.aS b o q).ei (λc v hc z=>kk c v ?_ z) (λc z=>z) λc xs z=>z
  rcases hc with z'|z'
  ·rw [z'];exact oC b o q
  ·exact oC c _ z'
theorem Inv.xV{tk:Nat}{x y:V}{u v:Value}{ob:Obj}{n:Nat}(I:Inv X ae σ H s)(hf:∀b∈ch,dZ X ae H b)(kk:∀b o,b∉ch->s.heap.get? b=some o->h'.get? b=some o)
 (hp:h'.get? s.heap.objs.size=some ob) (hc:ob.cls=.type "tuple") (hd:ob.data=.seq #[u,v] n) (rx:RelV x u) (ry:RelV y v):Inv X ae σ (upd H s.heap.objs.size (.tup [x,y])) {s with heap:=h',toks:=tk}:=by
 have oC:∀b o,H b=some o->b∉ch/\b≠s.heap.objs.size:=λb o q=>⟨(λz=>(by rw [(hf b z).1] at q;cases q)),zzb (I.aS.lt q)⟩
 refine I.step (g':=s.gens) (d':=s.drawn) (ch:=ch) (λb hb=>?_) (λb o _ _ hc q _=>kk b o hc q) (λb o _ _ hc q _=>⟨o.slots,kk b o hc q⟩) (λb o _ q nb=>by rw [af (zzb (zzO q))];exact nb)
  (λb o hc q=>⟨o,kk b o hc q⟩) (λb xs q=>by rw [af (oC b _ q).2];exact q) (λb o u q=>by rw [af (oC b _ q).2];exact q) (λb ps q=>⟨#[],by rw [af (oC b _ q).2,q];simp⟩) (λm hm=>?_) (λb o q=>?_) I.bare
 ·obtain⟨f0,f1,f2,f3,f4,f5⟩:=hf b hb
  exact⟨f3,f1,f4,f5⟩
 ·obtain⟨o,es,ep,q,r⟩:=hm
  exact⟨o,es,ep,kk _ o (λz=>(hf _ z).2.1 rfl) q,r⟩
 ·by_cases hb:b=s.heap.objs.size
  ·subst hb;rw [aq] at q;cases q;exact⟨(show 2<=sizeLine by decide),[u,v],.cons rx (.cons ry .nil),⟨_,hp,hc,_,hd⟩⟩
  ·rw [af hb] at q;refine(I.aS b o q).ei (λc v hc z=>kk c v ?_ z) (λc z=>by rw [af (oC c _ z).2];exact z) λc xs z=>by rw [af (oC c _ z).2];exact z
   rcases hc with z'|z'
   ·rw [z'];exact(oC b o q).1
   ·exact(oC c _ z').1
end
noncomputable def PU(K:PySem.W.Frag)(a b:Addr)(xs ys:List V):It:=
 ⟨λi H=>eF K H a xs/\eF K H b ys/\i<xs.length/\i<ys.length,λi H v H'=>∃p x y,v=.ref p/\H p=none/\H'=upd H p (.tup [x,y])/\xs[i]?=some x/\ys[i]?=some y,
  λi H=>eF K H a xs/\eF K H b ys/\(xs.length<=i\/ys.length<=i)⟩
theorem Bt{P:Program}{w:World}{K:PySem.W.Frag}{elts:List Expr}{x1:Nat}{pos:Pos}(a b z TI TO i1 i2:Addr)(xs ys:List V)(TM:TI≠TO)(Pb:i1≠i2):
 Turn P w K (.Tuple elts x1 pos) (PU K a b xs ys) [z,TI,TO,i1,i2] z (λi h=>IsZip h z TI TO .none/\IsPair h TI (.ref i1) (.ref i2)/\(∃c d,IsPair h TO c d)/\h.IsListIter i1 a i/\h.IsListIter i2 b i) where
 mem:=by simp
 obj:=λi h st c hc=>by
  obtain⟨q1,q2,⟨_,_,q3⟩,⟨o4,q4,_,d4⟩,⟨o5,q5,_,d5⟩⟩:=st
  simp only [List.mem_cons,List.mem_nil_iff,or_false] at hc;rcases hc with e|e|e|e|e<;>subst e
  ·exact⟨_,q1,λv q=>by cases q⟩
  ·exact⟨_,q2,λv q=>by cases q⟩
  ·exact⟨_,q3,λv q=>by cases q⟩
  ·exact⟨_,q4,λv q=>by rw [d4] at q;cases q⟩
  ·exact⟨_,q5,λv q=>by rw [d5] at q;cases q⟩
 keep:=λi h h' st k=>by
  obtain⟨q1,q2,⟨c,d,q3⟩,⟨o4,q4,r4⟩,⟨o5,q5,r5⟩⟩:=st
  exact⟨k z (by simp) _ q1,k TI (by simp) _ q2,⟨c,d,k TO (by simp) _ q3⟩,⟨o4,k i1 (by simp) _ q4,r4⟩,⟨o5,k i2 (by simp) _ q5,r5⟩⟩
 item:=by
  intro X hP hw hK hc i ae s σ H E I hf st hg;subst hP hw hK;obtain⟨ha,hb,l1,l2⟩:=hg
  obtain⟨its1,rv1,p1,_⟩:=I.list ha
  obtain⟨aF,rv2,p2,_⟩:=I.list hb
  have apart:ZipApart z TI TO i1 i2 a b:=by
   obtain⟨q1,q2,⟨_,_,q3⟩,⟨o4,q4,c4,_⟩,⟨o5,q5,c5,_⟩⟩:=st
   obtain⟨o6,q6,c6,_⟩:=p1.isList
   obtain⟨o7,q7,c7,_⟩:=p2.isList
   refine⟨aH q2 q1 ?_,aH q3 q1 ?_,aH q4 q1 ?_,aH q5 q1 ?_,TM,aH q2 q4 ?_,aH q2 q5 ?_,aH q3 q4 ?_,aH q3 q5 ?_,Pb,aH q6 q1 ?_,aH q6 q3 ?_,aH q6 q4 ?_,aH q6 q5 ?_,aH q7 q1 ?_,aH q7 q3 ?_,aH q7 q4 ?_,aH q7 q5 ?_⟩
   all_goals (try rw [c4]);(try rw [c5]);(try rw [c6]);(try rw [c7])
   all_goals (first|(show Value.type "tuple"≠Value.type "zip";decide+kernel)|(show Value.type "list_iterator"≠Value.type "zip";decide+kernel)|(show Value.type "tuple"≠Value.type "list_iterator";decide+kernel)|(show Value.type "list"≠Value.type "zip";decide+kernel)|(show Value.type "list"≠Value.type "tuple";decide+kernel)|(show Value.type "list"≠Value.type "list_iterator";decide+kernel))
  obtain⟨q1,q2,⟨c,d,q3⟩,q4,q5⟩:=st
  obtain⟨u,hu,ru⟩:=rv1.get (zzg l1)
  obtain⟨v,hv,rv⟩:=rv2.get (zzg l2)
  have ze:H s.heap.objs.size=none:=I.aS.fresh (zzE _)
  have nz:z≠s.heap.objs.size:=zzb (zzO q1)
  refine wpAny_pyNext_zip_item apart q1 q2 q3 q4 q5 p1.isList p2.isList (x:=u) (y:=v) (by simpa using hu) (by simpa using hv) λh' a1 a2 a3 a4 a5 a6 kk=>?_
  have fz:=hf z (by simp)
  have RC:∀b∈[z,TO,i1,i2],dZ X ae H b:=λb hb=>hf b (by simp only [List.mem_cons,List.mem_nil_iff,or_false] at hb⊢;rcases hb with e|e|e|e<;>simp [e])
  have I1:=Inv.xV (tk:=s.toks) (x:=xs[i]) (y:=ys[i]) I RC (λb o hb q=>kk b o (λe=>hb (by simp [e])) (λe=>hb (by simp [e])) (λe=>hb (by simp [e])) (λe=>hb (by simp [e])) q) a5 rfl rfl ru rv
  refine⟨_,rfl,wpAny_letOwnedTupleGo_zip a1 λh2 P8 sb=>?_⟩
  obtain⟨f0,f1,f2,f3,f4,f5⟩:=fz
  refine⟨.ref s.heap.objs.size,_,I1.turned (t':=s.toks) (it:=z) (λb o hb q=>sb.extBut b o hb q) (by rw [af nz];exact f0) f1 f3 f4 f5,rfl,⟨_,_,_,rfl,ze,rfl,zzg l1,zzg l2⟩,?_,λb hb=>?_⟩
  ·exact⟨P8,sb.extBut _ _ apart.TIz (kk _ _ apart.TIz apart.TITO apart.TIi1 apart.TIi2 q2),⟨_,_,sb.extBut _ _ apart.TOz a2⟩,a3.extBut sb.extBut apart.i1z,a4.extBut sb.extBut apart.i2z⟩
  ·have hl:b<s.heap.objs.size:=by
    obtain⟨o4,r4,_⟩:=q4
    obtain⟨o5,r5,_⟩:=q5
    simp only [List.mem_cons,List.mem_nil_iff,or_false] at hb;rcases hb with e|e|e|e|e<;>subst e
    ·exact zzO q1
    ·exact zzO q2
    ·exact zzO q3
    ·exact zzO r4
    ·exact zzO r5
   rw [af (zzb hl)];exact(hf b hb).1
 done:=by
  intro X hP hw hK hc i ae s σ H E I hf st hg;subst hP hw hK;obtain⟨ha,hb,hl⟩:=hg
  obtain⟨its1,rv1,p1,_⟩:=I.list ha
  obtain⟨aF,rv2,p2,_⟩:=I.list hb
  have e1:=rv1.length
  have e2:=rv2.length
  have apart:ZipApart z TI TO i1 i2 a b:=by
   obtain⟨q1,q2,⟨_,_,q3⟩,⟨o4,q4,c4,_⟩,⟨o5,q5,c5,_⟩⟩:=st
   obtain⟨o6,q6,c6,_⟩:=p1.isList
   obtain⟨o7,q7,c7,_⟩:=p2.isList
   refine⟨aH q2 q1 ?_,aH q3 q1 ?_,aH q4 q1 ?_,aH q5 q1 ?_,TM,aH q2 q4 ?_,aH q2 q5 ?_,aH q3 q4 ?_,aH q3 q5 ?_,Pb,aH q6 q1 ?_,aH q6 q3 ?_,aH q6 q4 ?_,aH q6 q5 ?_,aH q7 q1 ?_,aH q7 q3 ?_,aH q7 q4 ?_,aH q7 q5 ?_⟩
   all_goals (try rw [c4]);(try rw [c5]);(try rw [c6]);(try rw [c7])
   all_goals (first|(show Value.type "tuple"≠Value.type "zip";decide+kernel)|(show Value.type "list_iterator"≠Value.type "zip";decide+kernel)|(show Value.type "tuple"≠Value.type "list_iterator";decide+kernel)|(show Value.type "list"≠Value.type "zip";decide+kernel)|(show Value.type "list"≠Value.type "tuple";decide+kernel)|(show Value.type "list"≠Value.type "list_iterator";decide+kernel))
  obtain⟨q1,q2,⟨c,d,q3⟩,q4,q5⟩:=st
  have RC:∀b∈[z,TO,i1,i2],dZ X ae H b:=λb hb=>hf b (by simp only [List.mem_cons,List.mem_nil_iff,or_false] at hb⊢;rcases hb with e|e|e|e<;>simp [e])
  refine wpAny_pyNext_zip_end (I.ok.hd hc) apart q1 q2 q3 q4 q5 p1.isList p2.isList ?_ λh' kk=>⟨rfl,Inv.moved (tk:=s.toks) I RC λb o hb q=>kk b o (λe=>hb (by simp [e])) (λe=>hb (by simp [e])) (λe=>hb (by simp [e])) (λe=>hb (by simp [e])) q⟩
  rcases hl with e|e
  ·exact .inl (by simp;omega)
  ·exact .inr (by simp;omega)
 self:=λ_ _ _ _ _ st h=>wpAny_pyIter_zip st.1 h
section
variable{X:Cx}{elts:List Expr}{x1:Nat}{mG:Pos}
noncomputable def PH(K:PySem.W.Frag)(ta:TA):TI:=λσ H R=>ta σ H λvs H1=>∃a b xs ys,vs=[.ref a,.ref b]/\eF K H1 a xs/\eF K H1 b ys/\R (PU K a b xs ys) H1
theorem Ib{a b:Expr}{ta:TA}{p pos:Pos}(hg:Gl X "zip")(hm:X.mg "zip"=none)(ha:PA X [a,b] ta)(hs:starEach [a,b] X.env=[(false,eval a X.env),(false,eval b X.env)]:=by rfl)(sV:starEach [b] X.env=[(false,eval b X.env)]:=by rfl):
 PI X (.Tuple elts x1 mG) (.Call (.Name "zip" p) [a,b] [] pos) (PH X.K ta):=by
 intro ae s σ H R I h;refine Call_ (fb I hg hm (show bootBuiltins "zip"=some (.type "zip") by decide+kernel) (PyProof.Rows.callWith_type1 (bX (ha pos ae s σ H _ I h) λus s1 ⟨vs,H1,I1,r1,q1⟩=>?_) (by rw [hs,sV]) (by rw [sV];rfl)))
 obtain⟨l1,l2,xs,ys,e,zv,O7,q⟩:=q1
 subst e;obtain⟨u,u2,rfl,ru,ru2⟩:=vals2 r1
 cases ru;cases ru2;obtain⟨its1,rv1,p1,_⟩:=I1.list zv
 obtain⟨aF,rv2,p2,_⟩:=I1.list O7
 refine call_zip_2 p1.isList p2.isList λg a1 a2 a3 a4 a5 a6 kk=>wpAny_pyIter_zip a1 ?_
 have I2:Inv X ae σ H1 {s1 with heap:=g}:=I1.kept (t':=s1.toks) kk
 refine⟨_,_,_,_,H1,rfl,I2,Bt l1 l2 (s1.heap.objs.size+4) (s1.heap.objs.size+2) (s1.heap.objs.size+3) s1.heap.objs.size (s1.heap.objs.size+1) xs ys (zzb (Nat.lt_succ_self _)) (zzb (Nat.lt_succ_self _)),⟨a1,a2,⟨_,_,a3⟩,a4,a5⟩,λb hb=>?_,q⟩
 have iR:s1.heap.objs.size<=b:=by
  simp only [List.mem_cons,List.mem_nil_iff,or_false] at hb;rcases hb with e|e|e|e|e<;>(rw [e];first|exact zzE _|exact Nat.le_add_right _ _)
 exact I1.j9 iR (I1.aS.fresh iR)
end
end L2
namespace Ci
open PySem L2
structure Hs where
 f:Str
 h:Str
 g:Str
 idx:List Nat
 np:Nat
structure Pg where
 gs:List (Str×PV)
 bs:List Str
 cs:List Str
 fs:List Str
 rs:List Str
 hs:List Hs:=[]
 hl:Bool:=false
def fx(sc:Scope)(x:Str):Bool:=sc.names.lookup x==some .local||sc.names.lookup x==some .cell
def fe(sc:Scope)(x:Str):Bool:=fx sc x||sc.names.lookup x==some .free
def iM(sc:Scope)(x:Str):Bool:=sc.names.lookup x==some .globalImplicit
def litS:List PV->List PV->Bool
 |[],[]=>true
 |.str x::xs,.str y::ys=>x==y&&litS xs ys
 |_,_=>false
def vQ:PV->PV->Bool
 |.int i,.int j=>i==j
 |.str x,.str y=>x==y
 |.tup xs,.tup ys=>litS xs ys
 |_,_=>false
theorem litS_eq:∀{xs ys:List PV},litS xs ys=true->xs=ys
 |[],[],_=>rfl
 |.str x::xs,.str y::ys,h=>by
  unfold litS at h;rw [zza] at h;rw [beq_iff_eq.mp h.1,litS_eq h.2]
theorem By{p q:PV}(h:vQ p q=true):p=q:=by
 unfold vQ at h;split at h
 ·rw [beq_iff_eq.mp h]
 ·rw [beq_iff_eq.mp h]
 ·rw [litS_eq h]
 ·cases h
noncomputable def bN:B->Str
 |.len=>"len"|.abs=>"abs"|.max2=>"max"|.int=>"int"|.str=>"str"|.list=>"list"|.tuple=>"tuple"|.all=>"all"|.sorted=>"sorted"|.dict=>"dict"|.eU=>"sorted"
def fY:E->Bool
 |.hZ _=>false
 |_=>true
def ic:Es->Bool
 |.nil=>true
 |.cons e es=>fY e&&ic es
def Ei:I->Bool
 |.seq e=>fY e
 |.rn _=>true
 |.nk _ _=>true
 |.enum e=>fY e
 |.zip a b=>fY a&&fY b
def isNil:Es->Bool
 |.nil=>true
 |_=>false
def jd:Es->Nat
 |.nil=>0
 |.cons _ es=>jd es+1
def yj:Expr->Option (List Expr)
 |.Tuple es _ _=>some es
 |_=>none
theorem jk{e:Expr}{es:List Expr}(h:yj e=some es):∃k p,e=.Tuple es k p:=by
 cases e with
 |Tuple es k p=>cases h;exact⟨_,_,rfl⟩
 |_=>exact iP h
def rD{α:Type}:List α->Option (α×α)
 |[a,b]=>some (a,b)
 |_=>none
theorem wG{α:Type}{ts:List α}{q:α×α}(h:rD ts=some q):ts=[q.1,q.2]:=by
 cases ts with
 |nil=>exact iP h
 |cons a ts=>
  cases ts with
  |nil=>exact iP h
  |cons b ts=>
   cases ts with
   |cons _ _=>exact iP h
   |nil=>cases h;rfl
def O2(N:List Str)(sc:Scope)(fn:Str->Bool)(i:Nat)(p:Expr):Bool:=(fH p).any λx=>N[i]?==some x&&fx sc x&&(fn x||sc.names.lookup x==some .local)
noncomputable def Ck(N:List Str)(sc:Scope)(fn:Str->Bool):List Nat->List Expr->Bool
 |i::is,a::as=>O2 N sc fn i a&&Ck N sc fn is as
 |[],[]=>true
 |_,_=>false
noncomputable def ie(N:List Str)(sc:Scope)(fn:Str->Bool):Tg->Expr->Bool
 |.one i,p=>O2 N sc fn i p
 |.two i j,p=>(yj p).any (Ck N sc fn [i,j])
 |.three i j k,p=>(yj p).any (Ck N sc fn [i,j,k])
 |.Iz i j k,p=>(yj p).any λes=>(rD es).any λq=>O2 N sc fn i q.1&&(yj q.2).any (Ck N sc fn [j,k])
noncomputable def aP:Expr->List Str
 |.Name x _=>[x]
 |.Tuple [.Name x _,.Name y _] _ _=>[x,y]
 |.Tuple [.Name x _,.Name y _,.Name z _] _ _=>[x,y,z]
 |.Tuple [.Name x _,.Tuple [.Name y _,.Name z _] _ _] _ _=>[x,y,z]
 |_=>[]
def dw(scope sc:Scope):Scope:=
 {scope with names:=scope.names.map λ(n,k)=>if(k==.free&&sc.kind==.function&&sc.names.lookup n==some .cell) then(n,.cell) else(n,k)}
def freeOf(scope:Scope):List Str:=((scope.names.filter λp=>p.2==.free).map (·.1)).reverse
noncomputable def wX(N:List Str)(sc scope:Scope)(k:Nat)(bq:List Nat)(xs:List Str):Bool:=
 scope.kind==.function&&xs.length==k&&decide ((xs++freeOf scope).Nodup)
 &&(scope.names.all λy=>(decide (y.2≠.cell)||!(freeOf scope).contains y.1)&&(decide (y.2≠.free)||(freeOf scope).contains y.1))
 &&(scope.names.all λy=>decide (y.2≠.cell)||decide (scope.names.lookup y.1=some .cell))
 &&(scope.names.all λy=>decide (y.2≠.local)||decide (scope.names.lookup y.1=some .local))
 &&decide (bq.map (λi=>N[i]?)=(freeOf scope).map some)
 &&((freeOf scope).all λy=>decide (sc.names.lookup y=some .cell))
 &&((freeOf scope).all λy=>decide ((dw scope sc).names.lookup y=some .cell))
noncomputable def jv(k:Nat):Tg->Bool
 |.one i=>decide (i<k)
 |.two i j=>decide (i<k)&&decide (j<k)
 |.three i j l=>decide (i<k)&&decide (j<k)&&decide (l<k)
 |.Iz i j l=>decide (i<k)&&decide (j<k)&&decide (l<k)
def fZ:E->Bool
 |.ite _ _ _=>false
 |.not a=>fZ a
 |.and a b=>fZ a&&fZ b
 |.or a b=>fZ a&&fZ b
 |_=>true
def isTup:Expr->Bool
 |.Tuple .. =>true
 |_=>false
noncomputable abbrev Pg.CM(Γ:Pg):Pg:={Γ with hl:=false}
theorem ny{α β:Type}{o:Option α}{f:α->Option β}{b:β}(h:o.bind f=some b):∃a,o=some a/\f a=some b:=zzZ.1 h
theorem if1{α:Type}{c:Bool}{a b:α}(h:(if c=true then some a else none)=some b):c=true/\a=b:=by
 cases c with
 |true=>cases h;exact⟨rfl,rfl⟩
 |false=>exact iP h
def f9{α:Type}:List α->Option α
 |[t]=>some t
 |_=>none
theorem dH{α:Type}{ts:List α}{t:α}(h:f9 ts=some t):ts=[t]:=by
 cases ts with
 |nil=>exact iP h
 |cons a ts=>
  cases ts with
  |cons _ _=>exact iP h
  |nil=>cases h;rfl
def OH:Expr->Option (Expr×Str×Pos)
 |.Attribute o m p=>some (o,m,p)
 |_=>none
theorem Iy{e:Expr}{q:Expr×Str×Pos}(h:OH e=some q):e=.Attribute q.1 q.2.1 q.2.2:=by
 cases e with
 |Attribute o m p=>cases h;rfl
 |_=>exact iP h
def RP:Expr->Option (Arguments×Expr×Scope)
 |.Lambda p b s _=>some (p,b,s)
 |_=>none
theorem uk{e:Expr}{q:Arguments×Expr×Scope}(h:RP e=some q):∃p,e=.Lambda q.1 q.2.1 q.2.2 p:=by
 cases e with
 |Lambda p b s x=>cases h;exact⟨_,rfl⟩
 |_=>exact iP h
def Gf:Expr->Option (Expr×Expr)
 |.Subscript a b _=>some (a,b)
 |_=>none
theorem qH{e:Expr}{q:Expr×Expr}(h:Gf e=some q):∃p,e=.Subscript q.1 q.2 p:=by
 cases e with
 |Subscript a b p=>cases h;exact⟨_,rfl⟩
 |_=>exact iP h
def LZ:Expr->Option Const
 |.Constant c _ _=>some c
 |_=>none
theorem va{e:Expr}{c:Const}(h:LZ e=some c):∃p q,e=.Constant c p q:=by
 cases e with
 |Constant c p q=>cases h;exact⟨_,_,rfl⟩
 |_=>exact iP h
def HW:Const->Option Str
 |.str z=>some z
 |_=>none
theorem Bh{c:Const}{z:Str}(h:HW c=some z):c=.str z:=by
 cases c with
 |str y=>cases h;rfl
 |_=>exact iP h
def Pc:Const->Option Int
 |.int n=>some n
 |_=>none
theorem vv{c:Const}{n:Int}(h:Pc c=some n):c=.int n:=by
 cases c with
 |int y=>cases h;rfl
 |_=>exact iP h
theorem Kb{α:Type}{l:List α}(h:l.isEmpty=true):l=[]:=by
 cases l with
 |nil=>rfl
 |cons _ _=>exact aE h
theorem HZ{α:Type}{o:Option α}(h:o.isNone=true):o=none:=by
 cases o with
 |none=>rfl
 |some _=>exact aE h
def SE:Const->Option Bool
 |.bool b=>some b
 |_=>none
theorem KY{c:Const}{b:Bool}(h:SE c=some b):c=.bool b:=by
 cases c with
 |bool y=>cases h;rfl
 |_=>exact iP h
def RW:Const->Bool
 |.none=>true
 |_=>false
theorem Kz{c:Const}(h:RW c=true):c=.none:=by
 cases c with
 |none=>rfl
 |_=>exact aE h
def TU:Expr->Option (Expr×Operator×Expr)
 |.BinOp a o b _=>some (a,o,b)
 |_=>none
theorem KG{e:Expr}{q:Expr×Operator×Expr}(h:TU e=some q):∃p,e=.BinOp q.1 q.2.1 q.2.2 p:=by
 cases e with
 |BinOp a o b p=>cases h;exact⟨_,rfl⟩
 |_=>exact iP h
def O3:Expr->Option (Expr×List CmpOp×List Expr)
 |.Compare a o b _=>some (a,o,b)
 |_=>none
theorem Jr{e:Expr}{q:Expr×List CmpOp×List Expr}(h:O3 e=some q):∃p,e=.Compare q.1 q.2.1 q.2.2 p:=by
 cases e with
 |Compare a o b p=>cases h;exact⟨_,rfl⟩
 |_=>exact iP h
def MU:Expr->Option (UnaryOp×Expr)
 |.UnaryOp o a _=>some (o,a)
 |_=>none
theorem HP{e:Expr}{q:UnaryOp×Expr}(h:MU e=some q):∃p,e=.UnaryOp q.1 q.2 p:=by
 cases e with
 |UnaryOp o a p=>cases h;exact⟨_,rfl⟩
 |_=>exact iP h
def Hh:UnaryOp->Bool
 |.Not=>true
 |_=>false
theorem B1{o:UnaryOp}(h:Hh o=true):o=.Not:=by
 cases o with
 |Not=>rfl
 |_=>exact aE h
def isNeg:UnaryOp->Bool
 |.USub=>true
 |_=>false
theorem rA{o:UnaryOp}(h:isNeg o=true):o=.USub:=by
 cases o with
 |USub=>rfl
 |_=>exact aE h
def wa:BoolOp->Bool
 |.And=>true
 |.Or=>false
theorem AK{o:BoolOp}(h:wa o=true):o=.And:=by
 cases o with
 |And=>rfl
 |Or=>exact aE h
theorem Dv{o:BoolOp}(h:(!wa o)=true):o=.Or:=by
 cases o with
 |Or=>rfl
 |And=>exact aE h
def Pd:Expr->Option (BoolOp×List Expr×Pos)
 |.BoolOp o vs p=>some (o,vs,p)
 |_=>none
theorem KR{e:Expr}{q:BoolOp×List Expr×Pos}(h:Pd e=some q):e=.BoolOp q.1 q.2.1 q.2.2:=by
 cases e with
 |BoolOp o vs p=>cases h;rfl
 |_=>exact iP h
def Qb(o:BoolOp)(pos:Pos):List Expr->Option (Expr×Expr)
 |a::b::[]=>some (a,b)
 |a::b::c::r=>some (a,.BoolOp o (b::c::r) pos)
 |_=>none
theorem zI{o:BoolOp}{pos:Pos}{vs:List Expr}{q:Expr×Expr}(h:Qb o pos vs=some q):vs=[q.1,q.2]\/∃b c r,vs=q.1::b::c::r/\q.2=.BoolOp o (b::c::r) pos:=by
 cases vs with
 |nil=>exact iP h
 |cons a vs=>
  cases vs with
  |nil=>exact iP h
  |cons b vs=>
   cases vs with
   |nil=>cases h;exact .inl rfl
   |cons c r=>cases h;exact .inr ⟨b,c,r,rfl,rfl⟩
def SY:Expr->Option (Expr×Expr×Expr)
 |.IfExp c a b _=>some (c,a,b)
 |_=>none
theorem IV{e:Expr}{q:Expr×Expr×Expr}(h:SY e=some q):∃p,e=.IfExp q.1 q.2.1 q.2.2 p:=by
 cases e with
 |IfExp c a b p=>cases h;exact⟨_,rfl⟩
 |_=>exact iP h
def TX:Expr->Option (List Expr)
 |.List es _=>some es
 |_=>none
theorem Cu{e:Expr}{es:List Expr}(h:TX e=some es):∃p,e=.List es p:=by
 cases e with
 |List es p=>cases h;exact⟨_,rfl⟩
 |_=>exact iP h
def K8:Expr->Option (Option Expr×Option Expr×Option Expr)
 |.Slice a b c _=>some (a,b,c)
 |_=>none
theorem Jz{e:Expr}{q:Option Expr×Option Expr×Option Expr}(h:K8 e=some q):∃p,e=.Slice q.1 q.2.1 q.2.2 p:=by
 cases e with
 |Slice a b c p=>cases h;exact⟨_,rfl⟩
 |_=>exact iP h
def OL:Expr->Option (Expr×List Comprehension×Scope)
 |.ListComp e gs s _=>some (e,gs,s)
 |_=>none
theorem Ja{e:Expr}{q:Expr×List Comprehension×Scope}(h:OL e=some q):∃p,e=.ListComp q.1 q.2.1 q.2.2 p:=by
 cases e with
 |ListComp e gs s p=>cases h;exact⟨_,rfl⟩
 |_=>exact iP h
def zo(e:Expr):Option (Str×List Expr):=(L4 e).bind λq=>(fH q.1).bind λg=>if q.2.2.1.isEmpty=true then some (g,q.2.1) else none
theorem K3{e:Expr}{q:Str×List Expr}(h:zo e=some q):∃np p,e=.Call (.Name q.1 np) q.2 [] p:=by
 obtain⟨⟨f,a,k,p⟩,h1,h⟩:=ny h
 obtain⟨g,h2,h⟩:=ny h
 obtain⟨h3,rfl⟩:=if1 h
 obtain⟨np,z⟩:=cO h2
 have z3:=Kb h3
 dsimp only at z z3;subst z z3;exact⟨np,p,mY h1⟩
def MZ:PV->Const->Bool
 |.az,c=>RW c
 |.bl b,c=>(SE c).any λx=>b==x
 |.int i,c=>(Pc c).any λx=>i==x
 |.str z,c=>(HW c).any λx=>z==x
 |_,_=>false
theorem aC{a b:Bool}(h:(a&&b)=true):a=true/\b=true:=Bool.and_eq_true_iff.mp h
theorem aj{α:Type}{o:Option α}{f:α->Bool}(h:o.any f=true):∃x,o=some x/\f x=true:=by
 cases o with
 |none=>cases h
 |some x=>exact⟨x,rfl,h⟩
theorem lN{α:Type}{l:List α}{f:α->Bool}(h:(f9 l).any f=true):∃a,l=[a]/\f a=true:=let⟨a,e,h1⟩:=aj h;⟨a,dH e,h1⟩
theorem BL{α:Type}{l:List α}{f:α×α->Bool}(h:(rD l).any f=true):∃a b,l=[a,b]/\f (a,b)=true:=let⟨q,e,h1⟩:=aj h;⟨q.1,q.2,wG e,h1⟩
theorem OU{p:Expr}{f:Str->Bool}(h:(fH p).any f=true):∃x np,p=.Name x np/\f x=true:=let⟨x,e,h1⟩:=aj h;let⟨np,z⟩:=cO e;⟨x,np,z,h1⟩
theorem SD{p:Expr}{f:Const->Bool}(h:(LZ p).any f=true):∃x a b,p=.Constant x a b/\f x=true:=let⟨x,e,h1⟩:=aj h;let⟨a,b,z⟩:=va e;⟨x,a,b,z,h1⟩
theorem CI{p:Expr}{f:Str×List Expr->Bool}(h:(zo p).any f=true):∃g as np pos,p=.Call (.Name g np) as [] pos/\f (g,as)=true:=let⟨q,e,h1⟩:=aj h;let⟨a,b,z⟩:=K3 e;⟨q.1,q.2,a,b,z,h1⟩
theorem P5{p:Expr}{f:Expr×Expr->Bool}(h:(Gf p).any f=true):∃a b pos,p=.Subscript a b pos/\f (a,b)=true:=let⟨q,e,h1⟩:=aj h;let⟨x,z⟩:=qH e;⟨q.1,q.2,x,z,h1⟩
theorem Sw{p:Expr}{f:Option Expr×Option Expr×Option Expr->Bool}(h:(K8 p).any f=true):∃a b c pos,p=.Slice a b c pos/\f (a,b,c)=true:=let⟨q,e,h1⟩:=aj h;let⟨x,z⟩:=Jz e;⟨q.1,q.2.1,q.2.2,x,z,h1⟩
theorem RG{p:Expr}{f:UnaryOp×Expr->Bool}(h:(MU p).any f=true):∃o a pos,p=.UnaryOp o a pos/\f (o,a)=true:=let⟨q,e,h1⟩:=aj h;let⟨x,z⟩:=HP e;⟨q.1,q.2,x,z,h1⟩
theorem TB{p:Expr}{f:Expr×List CmpOp×List Expr->Bool}(h:(O3 p).any f=true):∃a o b pos,p=.Compare a o b pos/\f (a,o,b)=true:=let⟨q,e,h1⟩:=aj h;let⟨x,z⟩:=Jr e;⟨q.1,q.2.1,q.2.2,x,z,h1⟩
theorem Pe{p:Expr}{f:Expr×List Comprehension×Scope->Bool}(h:(OL p).any f=true):∃a g s pos,p=.ListComp a g s pos/\f (a,g,s)=true:=let⟨q,e,h1⟩:=aj h;let⟨x,z⟩:=Ja e;⟨q.1,q.2.1,q.2.2,x,z,h1⟩
theorem Sz{p:Expr}{f:BoolOp×List Expr×Pos->Bool}(h:(Pd p).any f=true):∃o vs pos,p=.BoolOp o vs pos/\f (o,vs,pos)=true:=let⟨q,e,h1⟩:=aj h;⟨q.1,q.2.1,q.2.2,KR e,h1⟩
mutual
noncomputable def bz(Γ:Pg)(N:List Str)(sc:Scope):E->Expr->Bool
 |.var i,p=>(fH p).any λx=>N[i]?==some x&&fe sc x&&okN x
 |.hZ i,p=>(fH p).any λx=>N[i]?==some x&&fe sc x&&okN x
 |.cst q,p=>(LZ p).any (MZ q)
 |.glob g p,e=>(fH e).any λx=>g==x&&iM sc x&&okN x&&Γ.gs.any λq=>q.1==g&&vQ q.2 p
 |.call f as,p=>(zo p).any λq=>f==q.1&&Γ.fs.contains q.1&&iM sc q.1&&okN q.1&&ic as&&km Γ N sc as q.2
 |.ni i as,p=>(zo p).any λq=>N[i]?==some q.1&&fe sc q.1&&okN q.1&&ic as&&!isNil as&&km Γ N sc as q.2
 |.tV f as g idx bq,p=>(zo p).any λr=>Γ.hl&&iM sc r.1&&okN r.1&&ic as&&!isNil as&&(Γ.hs.any λq=>q.f==f&&q.h==r.1&&q.g==g&&q.idx==idx&&decide (q.np=jd as+1))&&xw Γ N sc g idx bq as r.2
 |.blt b as,p=>(zo p).any λq=>bN b==q.1&&iM sc q.1&&Γ.bs.contains q.1&&!isNil as&&km Γ N sc as q.2
 |.ty t a,p=>(zo p).any λq=>(rD q.2).any λr=>(fH r.2).any λtn=>q.1==("isinstance":Str)&&iM sc q.1&&Γ.bs.contains q.1&&tn==Str.ofString (vm t)&&iM sc tn&&Γ.bs.contains tn&&bz Γ N sc a r.1
 |.bin o a b,p=>(TU p).any λq=>decide (RD o=q.2.1)&&bz Γ N sc a q.1&&bz Γ N sc b q.2.2
 |.cmp o a b,p=>(O3 p).any λq=>(f9 q.2.1).any λop=>(f9 q.2.2).any λpb=>decide (qY o=op)&&bz Γ N sc a q.1&&bz Γ N sc b pb
 |.ch o1 o2 a b c,p=>(O3 p).any λq=>(rD q.2.1).any λop=>(rD q.2.2).any λpb=>decide (qY o1=op.1)&&decide (qY o2=op.2)&&bz Γ N sc a q.1&&bz Γ N sc b pb.1&&bz Γ N sc c pb.2
 |.not a,p=>(MU p).any λq=>Hh q.1&&bz Γ N sc a q.2
 |.neg a,p=>(MU p).any λq=>isNeg q.1&&bz Γ N sc a q.2
 |.and a b,p=>(Pd p).any λq=>(Qb q.1 q.2.2 q.2.1).any λr=>wa q.1&&fY b&&bz Γ N sc a r.1&&bz Γ N sc b r.2
 |.or a b,p=>(Pd p).any λq=>(Qb q.1 q.2.2 q.2.1).any λr=>!wa q.1&&fY b&&bz Γ N sc a r.1&&bz Γ N sc b r.2
 |.ite c a b,p=>(SY p).any λq=>fZ c&&fY a&&fY b&&bz Γ N sc c q.1&&bz Γ N sc a q.2.1&&bz Γ N sc b q.2.2
 |.tup as,p=>(yj p).any λps=>ic as&&decide (jd as<1000)&&km Γ N sc as ps
 |.lst as,p=>(TX p).any λps=>ic as&&decide (jd as<1000)&&km Γ N sc as ps
 |.sub a b,p=>(Gf p).any λq=>bz Γ N sc a q.1&&bz Γ N sc b q.2
 |.slice a lo hi,p=>(Gf p).any λq=>(K8 q.2).any λr=>r.2.2.isNone&&bz Γ N sc a q.1&&JK Γ N sc lo r.1&&JK Γ N sc hi r.2.1
 |.comp k bq tg it elt,p=>(OL p).any λq=>(f9 q.2.1).any λg=>g.ifs.isEmpty&&(wX N sc q.2.2 k bq (aP g.target)&&jv k tg&&fY elt&&x9 Γ N sc g.target it g.iter&&ie (aP g.target++freeOf q.2.2) (dw q.2.2 sc) (mO q.2.2) tg g.target&&bz Γ.CM (aP g.target++freeOf q.2.2) (dw q.2.2 sc) elt q.1&&decide (g.is_async=0))
 |.cH k bq tg it c elt,p=>(OL p).any λq=>(f9 q.2.1).any λg=>(f9 g.ifs).any λpc=>fZ c&&wX N sc q.2.2 k bq (aP g.target)&&jv k tg&&fY elt&&x9 Γ N sc g.target it g.iter&&ie (aP g.target++freeOf q.2.2) (dw q.2.2 sc) (mO q.2.2) tg g.target&&bz Γ.CM (aP g.target++freeOf q.2.2) (dw q.2.2 sc) c pc&&bz Γ.CM (aP g.target++freeOf q.2.2) (dw q.2.2 sc) elt q.1&&decide (g.is_async=0)
 |.rev a,p=>(Gf p).any λq=>(K8 q.2).any λr=>(r.2.2).any λst=>(MU st).any λu=>(LZ u.2).any λc=>r.1.isNone&&r.2.1.isNone&&isNeg u.1&&Pc c==some 1&&bz Γ N sc a q.1
noncomputable def km(Γ:Pg)(N:List Str)(sc:Scope):Es->List Expr->Bool
 |.nil,[]=>true
 |.cons e es,p::ps=>bz Γ N sc e p&&km Γ N sc es ps
 |_,_=>false
noncomputable def xw(Γ:Pg)(N:List Str)(sc:Scope)(g:Str)(idx bq:List Nat):Es->List Expr->Bool
 |.nil,ps=>(f9 ps).any λp=>(RP p).any λl=>ED g idx l.1 l.2.1 l.2.2&&decide (bq.map (λi=>N[i]?)=(bu l.2.2).map some)&&((bu l.2.2).all λy=>decide (sc.names.lookup y=some .cell))
 |.cons e es,p::ps=>bz Γ N sc e p&&xw Γ N sc g idx bq es ps
 |_,_=>false
noncomputable def JK(Γ:Pg)(N:List Str)(sc:Scope):Oe->Option Expr->Bool
 |.no,none=>true
 |.some e,some p=>bz Γ N sc e p
 |_,_=>false
noncomputable def x9(Γ:Pg)(N:List Str)(sc:Scope)(tg:Expr):I->Expr->Bool
 |.seq e,p=>bz Γ N sc e p
 |.rn e,p=>(zo p).any λq=>(f9 q.2).any λr=>q.1==("range":Str)&&iM sc q.1&&Γ.bs.contains q.1&&bz Γ N sc e r
 |.nk a b,p=>(zo p).any λq=>(rD q.2).any λr=>q.1==("range":Str)&&iM sc q.1&&Γ.bs.contains q.1&&bz Γ N sc a r.1&&bz Γ N sc b r.2
 |.enum e,p=>(zo p).any λq=>(f9 q.2).any λr=>isTup tg&&q.1==("enumerate":Str)&&iM sc q.1&&Γ.bs.contains q.1&&bz Γ N sc e r
 |.zip a b,p=>(zo p).any λq=>(rD q.2).any λr=>isTup tg&&q.1==("zip":Str)&&iM sc q.1&&Γ.bs.contains q.1&&bz Γ N sc a r.1&&bz Γ N sc b r.2
end
def XE(W:Wd)(c:Str)(G1 H1:Hp):XK:=λCv ao H'=>∃C a G',Cv=.ref C/\ao=some a/\c∈W.xs/\W.mg c=some (.ref C)/\aG W G1 H1 G' H'
def vD(X:Cx)(W:Wd)(σ:St)(c:Str)(G H:Hp):Prop:=∀(ae:List (Addr×Obj)) (G1 H1:Hp) (s1:Shared) (e:Value) (s':Shared),Inv X ae σ H1 s1->aG W G H G1 H1->d8 X.prog X.w X.stack H1 s1 (XE W c G1 H1) e s'->X.xe e s'
def Out{α:Type}(X:Cx)(W:Wd)(r:Res α)(σ:St)(G H:Hp)(k:α->Prop):Prop:=match r with
 |.ok a=>k a
 |.exc c=>vD X W σ c G H
 |.bad=>False
section
variable{X:Cx}{W:Wd}{F:aO}{σ:St}{G H G1 H1:Hp}{α β:Type}
theorem vD.grow{c:Str}(h:vD X W σ c G H)(g:aG W G H G1 H1):vD X W σ c G1 H1:=λae G2 H2 s1 e s' I g2 x=>h ae G2 H2 s1 e s' I (g.trans g2) x
theorem Out.grow{r:Res α}{k:α->Prop}(h:Out X W r σ G H k)(g:aG W G H G1 H1):Out X W r σ G1 H1 k:=by
 cases r with
 |ok a=>exact h
 |exc c=>exact vD.grow h g
 |bad=>exact h
theorem Out.imp{r:Res α}{k k':α->Prop}(h:Out X W r σ G H k)(i:∀a,k a->k' a):Out X W r σ G H k':=by
 cases r with
 |ok a=>exact i a h
 |exc c=>exact h
 |bad=>exact h
theorem Out.bind{r:Res α}{f:α->Res β}{k:β->Prop}(h:Out X W (r.bind f) σ G H k):Out X W r σ G H λa=>Out X W (f a) σ G H k:=by
 cases r with
 |ok a=>exact h
 |exc c=>exact h
 |bad=>exact h
theorem Out.val{r:Res α}{k:α->Prop}(h:Out X W r σ G H k)(n:∀c,r≠.exc c):∃a,r=.ok a/\k a:=by
 cases r with
 |ok a=>exact⟨a,rfl,h⟩
 |exc c=>exact absurd rfl (n c)
 |bad=>exact h.elim
structure Got(W:Wd)(H0 G H:Hp)(e:E)(p:PV)(v:V):Prop where
 top:Top W H0 G H p v
 rep:fY e=true->Rep W G p v
theorem Got.of{H0:Hp}{e:E}{p:PV}{v:V}(h:Rep W G p v):Got W H0 G H e p v:=⟨.inl h,λ_=>h⟩
noncomputable def tE(X:Cx)(W:Wd)(F:aO)(e:E):TE:=λσ H Q=>∃H0 G env,SR W H0 env σ G H/\Out X W (aQ F e env) σ G H λp=>∀v G' H',aG W G H G' H'->Got W H0 G' H' e p v->Q v H'
noncomputable def tT(X:Cx)(W:Wd)(F:aO)(e:E):TT:=λσ H Q=>∃H0 G env,SR W H0 env σ G H/\Out X W (aQ F e env) σ G H λp=>∃b,p=.bl b/\∀G' H',aG W G H G' H'->Q b H'
structure Mw(W:Wd)(H0 G H:Hp)(es:Es)(ps:List PV)(vs:List V):Prop where
 top:Paired (λv p=>Top W H0 G H p v) vs ps
 rep:ic es=true->ai W G ps vs
noncomputable def tA(X:Cx)(W:Wd)(F:aO)(es:Es):TA:=λσ H Q=>∃H0 G env,SR W H0 env σ G H/\Out X W (da F es env) σ G H λps=>∀vs G' H',aG W G H G' H'->Mw W H0 G' H' es ps vs->Q vs H'
noncomputable def Cg(X:Cx)(W:Wd)(F:aO)(o:Oe):TO:=λσ H Q=>∃H0 G env,SR W H0 env σ G H/\Out X W (v8 F o env) σ G H λi=>∀G' H',aG W G H G' H'->Q i H'
theorem one{H0:Hp}{env:Sl}{e:E}{f:PV->Res β}{k:β->Prop}{Q:VK}(sr:SR W H0 env σ G H)(o:Out X W ((aQ F e env).bind f) σ G H k)
 (h:∀p v G1 H1,aG W G H G1 H1->Got W H0 G1 H1 e p v->SR W H0 env σ G1 H1->Out X W (f p) σ G1 H1 k->Q v H1):tE X W F e σ H Q:=
 ⟨H0,G,env,sr,o.bind.imp λp hp v G1 H1 g t=>h p v G1 H1 g t (sr.grow g) (hp.grow g)⟩
theorem FI{H0:Hp}{env:Sl}{e:E}{f:Bool->Res β}{k:β->Prop}{Q:Bool->Hp->Prop}(sr:SR W H0 env σ G H)(o:Out X W ((aQ F e env).bind λp=>tY p f) σ G H k)
 (h:∀b G1 H1,aG W G H G1 H1->SR W H0 env σ G1 H1->Out X W (f b) σ G1 H1 k->Q b H1):tT X W F e σ H Q:=by
 refine⟨H0,G,env,sr,o.bind.imp λp hp=>?_⟩
 cases p with
 |bl b=>exact⟨b,rfl,λG1 H1 g=>h b G1 H1 g (sr.grow g) (Out.grow hp g)⟩
 |az=>exact False.elim hp
 |int _=>exact False.elim hp
 |str _=>exact False.elim hp
 |tup _=>exact False.elim hp
 |lst _=>exact False.elim hp
 |exc _=>exact False.elim hp
 |aX _ _=>exact False.elim hp
theorem args{H0:Hp}{env:Sl}{es:Es}{f:List PV->Res β}{k:β->Prop}{Q:List V->Hp->Prop}(sr:SR W H0 env σ G H)(o:Out X W ((da F es env).bind f) σ G H k)
 (h:∀ps vs G1 H1,aG W G H G1 H1->Mw W H0 G1 H1 es ps vs->SR W H0 env σ G1 H1->Out X W (f ps) σ G1 H1 k->Q vs H1):tA X W F es σ H Q:=
 ⟨H0,G,env,sr,o.bind.imp λp hp v G1 H1 g t=>h p v G1 H1 g t (sr.grow g) (hp.grow g)⟩
theorem Got.grow{H0 G2 H2:Hp}{e:E}{p:PV}{v:V}(h:Got W H0 G H e p v)(g:aG W G H G2 H2):Got W H0 G2 H2 e p v:=⟨h.top.grow g,λz=>Rep.same g.g p (h.rep z)⟩
def zR(W:Wd)(G:Hp):Option (Str×List Nat)->List PV->List V->Prop
 |none,as,vs=>ai W G as vs
 |some q,as,vs=>∃xX cZ wA v,as=xX++cZ/\vs=wA++[v]/\ai W G xX wA/\qg W G q.1 q.2 cZ v
noncomputable def zm(W:Wd)(F:aO)(f:Str)(n:Nat)(q:Option (Str×List Nat)):Sp:=λvs H Q E=>vs.length=n/\∃G as,aB G H/\cU W G H/\zR W G q as vs/\(match F f as with
 |.ok p=>∀v G' H',aG W G H G' H'->Rep W G' p v->Q v H'
 |.exc c=>∀Cv ao H',XE W c G H Cv ao H'->E Cv ao H'
 |.bad=>False)
structure Kk(X:Cx)(W:Wd)(F:aO)(k:Nat)(f:Str):Prop where
 ex:∃fa fd ps,gq X.prog X.w X.K X.mg X.base (d8 X.prog X.w) k fa fd ps (zm W F f ps.length none)/\X.mg f=some (.ref fa)/\PySem.W.keepIn X.K (.ref fa)=true/\Binds X.K fd ps []/\∀as,F f as≠.bad->as.length=ps.length
structure MR(X:Cx)(W:Wd)(F:aO)(k:Nat)(q:Hs):Prop where
 ex:∃fa fd ps,gq X.prog X.w X.K X.mg X.base (d8 X.prog X.w) k fa fd ps (zm W F q.f ps.length (some (q.g,q.idx)))/\X.mg q.h=some (.ref fa)/\PySem.W.keepIn X.K (.ref fa)=true/\Binds X.K fd ps []/\ps.length=q.np
structure d6(Γ:Pg)(F:aO)(W:Wd)(N:List Str)(sc:Scope)(k:Nat)(X:Cx):Prop where
 hN:X.N=N
 eK:X.env.scope=sc
 calm:X.calm=true
 nd:N.Nodup
 K:W.K=X.K
 mg:W.mg=X.mg
 gs:∀q∈Γ.gs,∃u v,X.mg q.1=some u/\RelV v u/\∀G,Rep W G q.2 v
 bs:∀g∈Γ.bs,X.mg g=none
 room:dM (k+1) X.A
 fns:∀f,Γ.fs.contains f=true->Kk X W F k f
 O5:Γ.cs.contains "ValueError"=false
 cls:∀c∈Γ.cs,∃C,X.mg c=some (.ref C)
 xc:∀d∈W.xs,∀D,X.mg d=some (.ref D)->K6 X.K D/\(∀c∈Γ.cs,∀C,X.mg c=some (.ref C)->PySem.W.kitOne X.K (.ref D) (.ref C)=some (c==d||c=="FloorError"))/\PySem.W.kitOne X.K (.ref D) (.type "ValueError")=some true
 tZ:∀q∈Γ.hs,MR X W F k q
 any:∀g as,F g as≠.bad->Γ.fs.contains g=true\/gv g=true
 tb:Γ.hl=true->∃c P,X.env.code=.ref c/\PySem.W.CodeHd X.base c P/\(P,X.env.qual++"<lambda>")∈W.ts/\∀q',(P,q')∈W.ts->q'=X.env.qual++"<lambda>"
 bm:Γ.hl=true->BS X.mg X.base
 fl:Γ.hl=true->∀x,X.fn x=true
end
section
variable{Γ:Pg}{X:Cx}{W:Wd}{F:aO}{N:List Str}{sc:Scope}{k:Nat}
theorem qQ(C:d6 Γ F W N sc k X){x:Str}(h:fe sc x=true):NA X.env.scope x:=by
 rw [C.eK];unfold fe fx at h;simp only [Bool.or_eq_true,beq_iff_eq] at h;rcases h with(h|h)|h
 ·exact .inl h
 ·exact .inr (.inl h)
 ·exact .inr (.inr h)
theorem fv(C:d6 Γ F W N sc k X){x:Str}(h:iM sc x=true):Gl X x:=by
 show X.env.scope.names.lookup x=_
 rw [C.eK];exact beq_iff_eq.mp h
theorem dQ{x:Str}(h:okN x=true):(x==("__debug__":Str))=false/\(x==("__classdict__":Str))=false/\x≠"__name__":=by
 unfold okN at h;simp only [zza,Bool.not_eq_true',beq_eq_false_iff_ne] at h;exact⟨beq_eq_false_iff_ne.mpr h.1.1,beq_eq_false_iff_ne.mpr h.1.2,h.2⟩
abbrev GE(X:Cx)(W:Wd)(F:aO)(e:E)(p:Expr):Prop:=PE X p (tE X W F e)
abbrev GT(X:Cx)(W:Wd)(F:aO)(e:E)(p:Expr):Prop:=PT X p (tT X W F e)
abbrev GW(X:Cx)(W:Wd)(F:aO)(e:E)(p:Expr):Prop:=PW X p (tT X W F e)
theorem _root_.L2.PE.imp{p:Expr}{t t':TE}(h:PE X p t)(i:∀σ H Q,t' σ H Q->t σ H Q):PE X p t':=λae s σ H Q I hw=>h ae s σ H Q I (i σ H Q hw)
theorem _root_.L2.PT.imp{p:Expr}{t t':TT}(h:PT X p t)(i:∀σ H Q,t' σ H Q->t σ H Q):PT X p t':=λae s σ H Q I hw=>h ae s σ H Q I (i σ H Q hw)
theorem _root_.L2.PW.imp{p:Expr}{t t':TT}(h:PW X p t)(i:∀σ H Q,t' σ H Q->t σ H Q):PW X p t':=λw ae s σ H Q I hw=>h w ae s σ H Q I (i σ H Q hw)
theorem _root_.L2.PA.imp{p:List Expr}{t t':TA}(h:PA X p t)(i:∀σ H Q,t' σ H Q->t σ H Q):PA X p t':=λpos ae s σ H Q I hw=>h pos ae s σ H Q I (i σ H Q hw)
theorem GV{e:E}(σ:St)(H:Hp)(Q:Bool->Hp->Prop)(h:tT X W F e σ H Q):tB (tE X W F e) σ H Q:=by
 obtain⟨H0,G,env,sr,o⟩:=h
 refine⟨H0,G,env,sr,o.imp λp hp v G' H' g t=>?_⟩
 obtain⟨b,rfl,q⟩:=hp
 exact⟨b,t.top.bl,q G' H' g⟩
theorem sW{e:E}(σ:St)(H:Hp)(Q:Bool->Hp->Prop)(h:tT X W F e σ H Q):Bp (tE X W F e) σ H Q:=GV σ H Q h
theorem Ij(C:d6 Γ F W N sc k X){i:Nat}{x:Str}{pos:Pos}(h:(N[i]?==some x&&fe sc x&&okN x)=true):GE X W F (.var i) (.Name x pos):=by
 simp only [zza,beq_iff_eq] at h;obtain⟨h1,h2,h3⟩:=dQ h.2
 refine(fK (i:=i) (by rw [C.hN];exact h.1.1) (qQ C h.1.2) h1 h2).imp λσ H Q hq=>?_
 obtain⟨H0,G,env,sr,o⟩:=hq
 cases e:env[i]? with
 |none=>unfold aQ at o;rw [e] at o;exact o.elim
 |some sl=>
  cases sl with
  |no=>unfold aQ at o;rw [e] at o;exact o.elim
  |fn _ _ _=>unfold aQ at o;rw [e] at o;exact o.elim
  |own p=>unfold aQ at o;rw [e] at o;exact o.elim
  |val p=>
   unfold aQ at o;rw [e] at o;obtain⟨o2,hs,v,rfl,r⟩:=sr.slot i _ e
   exact⟨v,hs,o v G H (.refl sr.sub) (.of r)⟩
theorem Jg(C:d6 Γ F W N sc k X){i:Nat}{x:Str}{pos:Pos}(h:(N[i]?==some x&&fe sc x&&okN x)=true):GE X W F (.hZ i) (.Name x pos):=by
 simp only [zza,beq_iff_eq] at h;obtain⟨h1,h2,h3⟩:=dQ h.2
 refine(fK (i:=i) (by rw [C.hN];exact h.1.1) (qQ C h.1.2) h1 h2).imp λσ H Q hq=>?_
 obtain⟨H0,G,env,sr,o⟩:=hq
 cases e:env[i]? with
 |none=>unfold aQ at o;rw [e] at o;exact o.elim
 |some sl=>
  cases sl with
  |no=>unfold aQ at o;rw [e] at o;exact o.elim
  |fn _ _ _=>unfold aQ at o;rw [e] at o;exact o.elim
  |own p=>
   unfold aQ at o;rw [e] at o;obtain⟨o2,hs,v,rfl,r⟩:=sr.slot i _ e
   exact⟨v,hs,o v G H (.refl sr.sub) ⟨.inr r,λz=>nomatch z⟩⟩
  |val p=>
   unfold aQ at o;rw [e] at o;obtain⟨o2,hs,v,rfl,r⟩:=sr.slot i _ e
   exact⟨v,hs,o v G H (.refl sr.sub) (.of r)⟩
theorem gG{p:PV}{v:V}{e:Expr}(h:PE X e (tC v))(r:∀G,Rep W G p v):GE X W F (.cst p) e:=by
 refine L2.PE.imp h λσ H Q hq=>?_
 obtain⟨H0,G,env,sr,o⟩:=hq
 exact o v G H (.refl sr.sub) (.of (r G))
theorem EE(C:d6 Γ F W N sc k X){g x:Str}{p:PV}{pos:Pos}(h:(g==x&&iM sc x&&okN x&&Γ.gs.any λq=>q.1==g&&vQ q.2 p)=true):GE X W F (.glob g p) (.Name x pos):=by
 simp only [zza,beq_iff_eq,zzj] at h;obtain⟨⟨⟨rfl,h2⟩,h3⟩,q,hq,e1,e2⟩:=h
 obtain⟨u,v,hm,rv,hr⟩:=C.gs q hq
 rw [e1] at hm;cases By e2;refine(Fg (fv C h2) hm rv (dQ h3).1).imp λσ H Q hq=>?_
 obtain⟨H0,G,env,sr,o⟩:=hq
 exact o v G H (.refl sr.sub) (.of (hr G))
theorem Res.aU{α:Type}{o:Option α}(c:Str):Res.of o≠.exc c:=by cases o<;>exact λz=>nomatch z
theorem nA{α β:Type}{o:Option α}{f:α->Res β}{c:Str}(h:∀a,f a≠.exc c):(Res.of o).bind f≠.exc c:=by
 cases o with
 |none=>exact λz=>nomatch z
 |some a=>exact h a
theorem nZ{o:LU}{p q:PV}(c:Str):binOp o p q≠.exc c:=by
 unfold binOp
 repeat' split
 all_goals exact λz=>nomatch z
theorem DN{p q:PV}(c:Str):iz p q≠.exc c:=by
 unfold iz
 (repeat' first|split|refine nA λ_=>?_|exact Res.aU c|exact(λz=>nomatch z))
theorem Dz{p q:PV}(c:Str):iT p q≠.exc c:=by
 unfold iT
 (repeat' first|split|refine nA λ_=>?_|exact Res.aU c|exact(λz=>nomatch z))
theorem DC{p q:PV}(c:Str):qw p q≠.exc c:=by
 unfold qw
 (repeat' first|split|refine nA λ_=>?_|exact Res.aU c|exact(λz=>nomatch z))
theorem DM{p q:PV}(c:Str):rS p q≠.exc c:=by
 unfold rS
 (repeat' first|split|refine nA λ_=>?_|exact Res.aU c|exact(λz=>nomatch z))
theorem Ej{p q:PV}(c:Str):vp p q≠.exc c:=by
 unfold vp
 (repeat' first|split|refine nA λ_=>?_|exact Res.aU c|exact(λz=>nomatch z))
theorem Ec{p q:PV}(c:Str):vj p q≠.exc c:=by
 unfold vj
 (repeat' first|split|refine nA λ_=>?_|exact Res.aU c|exact(λz=>nomatch z))
theorem BK{p q:PV}(c:Str):gM p q≠.exc c:=by
 unfold gM
 (repeat' first|split|refine nA λ_=>?_|exact Res.aU c|exact(λz=>nomatch z))
theorem DZ{p q:PV}(c:Str):uP p q≠.exc c:=by
 unfold uP
 (repeat' first|split|refine nA λ_=>?_|exact Res.aU c|exact(λz=>nomatch z))
theorem BI{p q:PV}(c:Str):jc p q≠.exc c:=by
 unfold jc
 (repeat' first|split|refine nA λ_=>?_|exact Res.aU c|exact(λz=>nomatch z))
theorem dG{o:BN}{p q:PV}(c:Str):dN o p q≠.exc c:=match o with
 |.eq=>DN c|.ne=>Dz c|.lt=>DC c|.le=>DM c|.gt=>Ej c|.ge=>Ec c|.Aa=>BK c|.Bj=>DZ c|.lV=>BI c
theorem two{op:PV->PV->Res PV}{ea eb:E}{e:E}{σ:St}{H:Hp}{Q:VK}(hn:∀p q c,op p q≠.exc c)(he:∀env,aQ F e env=(aQ F ea env).bind λx=>(aQ F eb env).bind λy=>op x y)
 (h:tE X W F e σ H Q):LW (uL W op) (tE X W F ea) (tE X W F eb) σ H Q:=by
 obtain⟨H0,G,env,sr,o⟩:=h
 rw [he] at o;refine one sr o λp v G1 H1 g1 t1 bW o1=>one bW o1 λq u G2 H2 g2 t2 fU o2=>?_
 obtain⟨r,hr,kr⟩:=o2.val (hn p q)
 exact⟨H0,G2,p,q,r,fU.sub,t1.top.grow g2,t2.top,hr,λw G' H' g' ij=>kr w G' H' ((g1.trans g2).trans g') (.of ij)⟩
theorem IW(C:d6 Γ F W N sc k X){o:LU}{a b:E}{pa pb:Expr}{pos:Pos}(ha:GE X W F a pa)(hb:GE X W F b pb):GE X W F (.bin o a b) (.BinOp pa (RD o) pb pos):=
 (Nd (Jy C.K o) ha hb).imp λσ H Q h=>two (λp q c=>nZ c) (λenv=>by rw [aQ]) h
theorem K0(C:d6 Γ F W N sc k X){o:BN}{a b:E}{pa pb:Expr}{pos:Pos}(ha:GE X W F a pa)(hb:GE X W F b pb)(hm:behindInMarks (qY o) pb=false):GE X W F (.cmp o a b) (.Compare pa [qY o] [pb] pos):=
 (Dx (gZ C.K C.room.units o) ha hb hm).imp λσ H Q h=>two (λp q c=>dG c) (λenv=>by rw [aQ]) h
theorem Lv(C:d6 Γ F W N sc k X){o:BN}{a b:E}{pa pb:Expr}{pos:Pos}(ha:GE X W F a pa)(hb:GE X W F b pb)(hm:behindInMarks (qY o) pb=false):GT X W F (.cmp o a b) (.Compare pa [qY o] [pb] pos):=
 (DE (gZ C.K C.room.units o) ha hb hm).imp λσ H Q h=>by
  have h2:=sW σ H Q h
  exact two (λp q c=>dG c) (λenv=>by rw [aQ]) h2
theorem Hl{c1 c2:BN}{a b c:E}(σ:St)(H:Hp)(Q:VK)(h:tE X W F (.ch c1 c2 a b c) σ H Q):uy (uL W (dN c1)) (uL W (dN c2)) (tE X W F a) (tE X W F b) (tE X W F c) σ H Q:=by
 obtain⟨H0,G,env,sr,o⟩:=h
 rw [aQ] at o;refine one sr o λp v G1 H1 g1 t1 bW o1=>one bW o1 λq u G2 H2 g2 t2 fU o2=>?_
 obtain⟨r,hr,kr⟩:=o2.bind.val (dG)
 refine⟨H0,G2,p,q,r,fU.sub,t1.top.grow g2,t2.top,hr,λw G3 H3 g3 ij=>?_⟩
 cases r with
 |bl t=>
  simp only [Rep] at ij;subst ij;refine⟨t,rfl,?_⟩;cases t with
  |false=>
   rw [if_neg zzf];have vF:Out X W (Res.ok (PV.bl false)) σ G2 H2 _:=kr
   exact vF _ G3 H3 ((g1.trans g2).trans g3) (.of .b)
  |true=>
   rw [if_pos rfl];have vF:Out X W ((aQ F c env).bind λz=>dN c2 q z) σ G2 H2 _:=kr
   refine one (fU.grow g3) (vF.grow g3) λz y G4 H4 g4 t4 JO o4=>?_
   obtain⟨r4,hr4,kr4⟩:=o4.val (dG)
   exact⟨H0,G4,q,z,r4,JO.sub,t2.top.grow (g3.trans g4),t4.top,hr4,λw G5 H5 g5 UY=>kr4 w G5 H5 ((((g1.trans g2).trans g3).trans g4).trans g5) (.of UY)⟩
 |az=>exact False.elim kr
 |int _=>exact False.elim kr
 |str _=>exact False.elim kr
 |tup _=>exact False.elim kr
 |lst _=>exact False.elim kr
 |exc _=>exact False.elim kr
 |aX _ _=>exact False.elim kr
theorem Oh(C:d6 Γ F W N sc k X){o1 o2:BN}{a b c:E}{pa pb pc:Expr}{pos:Pos}(ha:GE X W F a pa)(hb:GE X W F b pb)(hc:GE X W F c pc)(hm:lastMarks [qY o1,qY o2] [pb,pc]=false):GE X W F (.ch o1 o2 a b c) (.Compare pa [qY o1,qY o2] [pb,pc] pos):=
 (Bg (gZ C.K C.room.units o1) (gZ C.K C.room.units o2) ha hb hc hm).imp Hl
theorem Md(C:d6 Γ F W N sc k X){o1 o2:BN}{a b c:E}{pa pb pc:Expr}{pos:Pos}(ha:GE X W F a pa)(hb:GE X W F b pb)(hc:GE X W F c pc)(hm:lastMarks [qY o1,qY o2] [pb,pc]=false):GT X W F (.ch o1 o2 a b c) (.Compare pa [qY o1,qY o2] [pb,pc] pos):=
 (Ai (gZ C.K C.room.units o1) (gZ C.K C.room.units o2) ha hb hc hm).imp λσ H Q h=>Hl σ H _ (sW σ H Q h)
theorem zD{a:E}{pa:Expr}{pos:Pos}(ha:GE X W F a pa):GE X W F (.neg a) (.UnaryOp .USub pa pos):=
 (N2 (Ey (W:=W)) ha).imp λσ H Q h=>by
  obtain⟨H0,G,env,sr,o⟩:=h
  rw [aQ] at o;refine one sr o λp v G1 H1 g1 t1 bW o1=>?_
  cases p with
  |int i=>exact⟨H0,G1,i,bW.sub,t1.top,λw G' H' g' ij=>o1 w G' H' (g1.trans g') (.of ij)⟩
  |bl _=>exact False.elim o1
  |az=>exact False.elim o1
  |str _=>exact False.elim o1
  |tup _=>exact False.elim o1
  |lst _=>exact False.elim o1
  |exc _=>exact False.elim o1
  |aX _ _=>exact False.elim o1
theorem Km{a:E}{pa:Expr}{pos:Pos}(ha:GE X W F a pa):GE X W F (.not a) (.UnaryOp .Not pa pos):=
 (Ln ha).imp λσ H Q h=>by
  obtain⟨H0,G,env,sr,o⟩:=h
  rw [aQ] at o;refine one sr o λp v G1 H1 g1 t1 bW o1=>?_
  cases p with
  |bl b=>exact⟨b,t1.top.bl,o1 _ G1 H1 g1 (.of .b)⟩
  |int _=>exact False.elim o1
  |az=>exact False.elim o1
  |str _=>exact False.elim o1
  |tup _=>exact False.elim o1
  |lst _=>exact False.elim o1
  |exc _=>exact False.elim o1
  |aX _ _=>exact False.elim o1
theorem Li{a:E}{pa:Expr}{pos:Pos}(ha:GT X W F a pa):GT X W F (.not a) (.UnaryOp .Not pa pos):=
 (Kq ha).imp λσ H Q h=>by
  obtain⟨H0,G,env,sr,o⟩:=h
  rw [aQ] at o;refine FI sr o λb G1 H1 g1 bW o1=>?_
  obtain⟨b',e,q⟩:=o1
  cases e;exact q G1 H1 g1
theorem AY{a b:E}{pa pb:Expr}{r:List Expr}{pos:Pos}(he:fY b=true)(ha:GE X W F a pa)(hb:GE X W F b (.BoolOp .And (pb::r) pos)):GE X W F (.and a b) (.BoolOp .And (pa::pb::r) pos):=
 (JG ha hb).imp λσ H Q h=>by
  obtain⟨H0,G,env,sr,o⟩:=h
  rw [aQ] at o;refine one sr o λp v G1 H1 g1 t1 bW o1=>?_
  cases p with
  |bl t=>
   refine⟨t,t1.top.bl,?_⟩;cases t with
   |true=>
    rw [if_pos rfl];have tP:Out X W (aQ F b env) σ G1 H1 _:=o1
    exact⟨H0,G1,env,bW,tP.imp λp hp v G' H' g' t'=>hp v G' H' (g1.trans g') (.of (t'.rep he))⟩
   |false=>
    rw [if_neg zzf];have tP:Out X W (Res.ok (PV.bl false)) σ G1 H1 _:=o1
    exact tP _ G1 H1 g1 (.of .b)
  |int _=>exact False.elim o1
  |az=>exact False.elim o1
  |str _=>exact False.elim o1
  |tup _=>exact False.elim o1
  |lst _=>exact False.elim o1
  |exc _=>exact False.elim o1
  |aX _ _=>exact False.elim o1
theorem GQ{a b:E}{pa pb:Expr}{r:List Expr}{pos:Pos}(he:fY b=true)(ha:GE X W F a pa)(hb:GE X W F b (.BoolOp .Or (pb::r) pos)):GE X W F (.or a b) (.BoolOp .Or (pa::pb::r) pos):=
 (Mt ha hb).imp λσ H Q h=>by
  obtain⟨H0,G,env,sr,o⟩:=h
  rw [aQ] at o;refine one sr o λp v G1 H1 g1 t1 bW o1=>?_
  cases p with
  |bl t=>
   refine⟨t,t1.top.bl,?_⟩;cases t with
   |false=>
    rw [if_neg zzf];have tP:Out X W (aQ F b env) σ G1 H1 _:=o1
    exact⟨H0,G1,env,bW,tP.imp λp hp v G' H' g' t'=>hp v G' H' (g1.trans g') (.of (t'.rep he))⟩
   |true=>
    rw [if_pos rfl];have tP:Out X W (Res.ok (PV.bl true)) σ G1 H1 _:=o1
    exact tP _ G1 H1 g1 (.of .b)
  |int _=>exact False.elim o1
  |az=>exact False.elim o1
  |str _=>exact False.elim o1
  |tup _=>exact False.elim o1
  |lst _=>exact False.elim o1
  |exc _=>exact False.elim o1
  |aX _ _=>exact False.elim o1
theorem Bi{a b:E}{pa pb:Expr}{r:List Expr}{pos:Pos}(ha:GT X W F a pa)(hb:GW X W F b (.BoolOp .And (pb::r) pos)):GW X W F (.and a b) (.BoolOp .And (pa::pb::r) pos):=
 (pw_and ha hb).imp λσ H Q h=>by
  obtain⟨H0,G,env,sr,o⟩:=h
  rw [aQ] at o;refine FI sr o λt G1 H1 g1 bW o1=>?_
  cases t with
  |true=>
   rw [if_pos rfl];have tP:Out X W (aQ F b env) σ G1 H1 _:=o1
   exact⟨H0,G1,env,bW,tP.imp λp hp=>by obtain⟨c,rfl,q⟩:=hp;exact⟨c,rfl,λG' H' g'=>q G' H' (g1.trans g')⟩⟩
  |false=>
   rw [if_neg zzf];obtain⟨c,e,q⟩:=(show Out X W (Res.ok (PV.bl false)) σ G1 H1 _ from o1)
   cases e;exact q G1 H1 g1
theorem Gz{a b:E}{pa pb:Expr}{r:List Expr}{pos:Pos}(ha:GT X W F a pa)(hb:GW X W F b (.BoolOp .Or (pb::r) pos)):GW X W F (.or a b) (.BoolOp .Or (pa::pb::r) pos):=
 (pw_or ha hb).imp λσ H Q h=>by
  obtain⟨H0,G,env,sr,o⟩:=h
  rw [aQ] at o;refine FI sr o λt G1 H1 g1 bW o1=>?_
  cases t with
  |false=>
   rw [if_neg zzf];have tP:Out X W (aQ F b env) σ G1 H1 _:=o1
   exact⟨H0,G1,env,bW,tP.imp λp hp=>by obtain⟨c,rfl,q⟩:=hp;exact⟨c,rfl,λG' H' g'=>q G' H' (g1.trans g')⟩⟩
  |true=>
   rw [if_pos rfl];obtain⟨c,e,q⟩:=(show Out X W (Res.ok (PV.bl true)) σ G1 H1 _ from o1)
   cases e;exact q G1 H1 g1
theorem K1{c a b:E}{pc pa pb:Expr}{pos:Pos}(VF:fY a=true)(Ur:fY b=true)(hc:GT X W F c pc)(ha:GE X W F a pa)(hb:GE X W F b pb):GE X W F (.ite c a b) (.IfExp pc pa pb pos):=
 (zP hc ha hb).imp λσ H Q h=>by
  obtain⟨H0,G,env,sr,o⟩:=h
  rw [aQ] at o;refine FI sr o λt G1 H1 g1 bW o1=>?_
  cases t with
  |true=>
   rw [if_pos rfl];have tP:Out X W (aQ F a env) σ G1 H1 _:=o1
   exact⟨H0,G1,env,bW,tP.imp λp hp v G' H' g' t'=>hp v G' H' (g1.trans g') (.of (t'.rep VF))⟩
  |false=>
   rw [if_neg zzf];have tP:Out X W (aQ F b env) σ G1 H1 _:=o1
   exact⟨H0,G1,env,bW,tP.imp λp hp v G' H' g' t'=>hp v G' H' (g1.trans g') (.of (t'.rep Ur))⟩
end
section
variable{Γ:Pg}{X:Cx}{W:Wd}{F:aO}{N:List Str}{sc:Scope}{k:Nat}
noncomputable def tF(X:Cx)(W:Wd)(F:aO)(e:E):TE:=λσ H Q=>∃H0 G env,SR W H0 env σ G H/\Out X W (aQ F e env) σ G H λp=>∃xs,p=.lst xs/\∀a vs G' H',aG W G H G' H'->H' a=none->ai W G' xs vs->Q (.ref a) (upd H' a (.lst vs))
abbrev GF(X:Cx)(W:Wd)(F:aO)(e:E)(p:Expr):Prop:=PE X p (tF X W F e)
theorem GF.ge{e:E}{p:Expr}(h:GF X W F e p)(hl:∀env q,aQ F e env=.ok q->∃xs,q=.lst xs):GE X W F e p:=
 L2.PE.imp h λσ H Q hq=>by
  obtain⟨H0,G,env,sr,o⟩:=hq
  refine⟨H0,G,env,sr,?_⟩;cases r:aQ F e env with
  |bad=>rw [r] at o;exact o
  |exc c=>rw [r] at o;exact o
  |ok q=>
   rw [r] at o;obtain⟨xs,rfl⟩:=hl env q r
   exact⟨xs,rfl,λa vs G' H' g ha l=>o _ _ _ (g.trans (.new g.sub ha)) (.of (.l (.inl (.inl aq)) (ai.same (bx (g.sub.free ha)) xs l)))⟩
theorem notStar{e:E}{p:Expr}(h:bz Γ N sc e p=true):∀env ps,starEach (p::ps) env=(false,eval p env)::starEach ps env:=by
 intro env ps;cases p<;>first|rfl|(cases e<;>first|(exact aE h)|(rename_i q;cases q<;>exact aE h))
theorem fN:∀{es:Es} {ps:List Expr},km Γ N sc es ps=true->∀env pos,(backTo pos (starEach ps env)).any (·.1)=false
 |.nil,[],_,_,_=>rfl
 |.cons e es,p::ps,h,env,pos=>by
  replace h:=aC h
  rw [notStar h.1];show(false||(backTo pos (starEach ps env)).any (·.1))=false
  rw [fN h.2]
  rfl
 |.nil,_::_,h,_,_=>aE h
 |.cons _ _,[],h,_,_=>aE h
abbrev GA(X:Cx)(W:Wd)(F:aO)(es:Es)(ps:List Expr):Prop:=PA X ps (tA X W F es)
theorem Io:GA X W F .nil []:=L2.PA.imp dU λσ H Q h=>by
 obtain⟨H0,G,env,sr,o⟩:=h
 rw [da] at o;exact o [] G H (.refl sr.sub) ⟨.nil,λ_=>.nil⟩
theorem C9{e:E}{es:Es}{p:Expr}{ps:List Expr}(he:GE X W F e p)(hs:GA X W F es ps)(dS:starEach (p::ps) X.env=(false,eval p X.env)::starEach ps X.env):GA X W F (.cons e es) (p::ps):=
 L2.PA.imp (cx he hs dS) λσ H Q h=>by
  obtain⟨H0,G,env,sr,o⟩:=h
  rw [da] at o;refine one sr o λq v G1 H1 g1 t1 bW o1=>args bW o1 λqs vs G2 H2 g2 t2 fU o2=>?_
  refine o2 (v::vs) G2 H2 (g1.trans g2) ⟨.cons (t1.top.grow g2) t2.top,λz=>?_⟩
  unfold ic at z;rw [zza] at z;exact .cons (Rep.same g2.g q (t1.rep z.1)) (t2.rep z.2)
theorem iX:∀{es:Es} {env:Sl} {ps:List PV},da F es env=.ok ps->ps.length=jd es
 |.nil,env,ps,h=>by rw [da] at h;cases h;rfl
 |.cons e es,env,ps,h=>by
  rw [da] at h;obtain⟨p,_,h⟩:=Res.aR h
  obtain⟨qs,hq,h⟩:=Res.aR h
  cases h;rw [zzL,iX hq]
  rfl
theorem JI{es:Es}{ps:List Expr}{x1:Nat}{pos:Pos}(Bx:ic es=true)(hl:jd es<1000)(h:GA X W F es ps):GE X W F (.tup es) (.Tuple ps x1 pos):=
 L2.PE.imp (Ly h) λσ H Q hq=>by
  obtain⟨H0,G,env,sr,o⟩:=hq
  rw [aQ] at o;have o':=o
  refine⟨H0,G,env,sr,?_⟩;cases r:da F es env with
  |bad=>rw [r] at o;exact o
  |exc c=>rw [r] at o;exact o
  |ok qs=>
   rw [r] at o;have hlen:=iX r
   intro vs G1 H1 g1 t;have l:=t.rep Bx
   refine⟨by rw [l.length,hlen];exact Nat.le_of_lt (Nat.lt_trans hl (by decide)),λp hp=>?_⟩
   exact o _ _ _ (g1.trans (.new g1.sub hp)) (.of (.t (.inl aq) (ai.same (bx (g1.sub.free hp)) qs l)))
theorem Aj{es:Es}{ps:List Expr}{pos:Pos}(Bx:ic es=true)(hl:jd es<1000)(h:GA X W F es ps):GF X W F (.lst es) (.List ps pos):=
 L2.PE.imp (HB h) λσ H Q hq=>by
  obtain⟨H0,G,env,sr,o⟩:=hq
  rw [aQ] at o;refine⟨H0,G,env,sr,?_⟩;cases r:da F es env with
  |bad=>rw [r] at o;exact o
  |exc c=>rw [r] at o;exact o
  |ok qs=>
   rw [r] at o;have hlen:=iX r
   obtain⟨xs,e,o⟩:=o
   cases e;intro vs G1 H1 g1 t;have l:=t.rep Bx
   exact⟨by rw [l.length,hlen];exact Nat.le_of_lt (Nat.lt_trans hl (by decide)),λp hp=>o p vs G1 H1 g1 hp l⟩
theorem lst_is{es:Es}:∀env q,aQ F (.lst es) env=.ok q->∃xs,q=.lst xs:=λenv q h=>by
 rw [aQ] at h;obtain⟨ps,_,h⟩:=Res.aR h
 cases h;exact⟨_,rfl⟩
theorem yV{p q:PV}(c:Str):aN p q≠.exc c:=by
 unfold aN
 (repeat' first|split|refine nA λ_=>?_|exact Res.aU c|exact(λz=>nomatch z))
theorem KI(C:d6 Γ F W N sc k X){a b:E}{pa pb:Expr}{pos:Pos}(ha:GE X W F a pa)(hb:GE X W F b pb)(hs:qU pb):GE X W F (.sub a b) (.Subscript pa pb pos):=
 (Hi (PC C.K C.room.units) ha hb hs).imp λσ H Q h=>two (λp q c=>yV c) (λenv=>by rw [aQ]) h
theorem Al{e:E}{p:Expr}(h:bz Γ N sc e p=true):qU p:=by
 intro o i;cases p<;>first|rfl|(cases e<;>first|(exact aE h)|(rename_i q;cases q<;>exact aE h))
theorem pV{e:E}{p:Expr}(h:bz Γ N sc e p=true)(op:CmpOp):behindInMarks op p=false:=by
 cases p<;>first|rfl|(cases e<;>first|(exact aE h)|(rename_i q;cases q<;>exact aE h))
theorem Fx:PO X none (Cg X W F .no):=λae s σ H Q I h=>FR ae s σ H Q I (by
 obtain⟨H0,G,env,sr,o⟩:=h
 rw [v8] at o;exact o G H (.refl sr.sub))
theorem D0{e:E}{p:Expr}(h:GE X W F e p):PO X (some p) (Cg X W F (.some e)):=λae s σ H Q I hq=>Dh h ae s σ H Q I (by
 obtain⟨H0,G,env,sr,o⟩:=hq
 rw [v8] at o;refine one sr o λq v G1 H1 g1 t1 bW o1=>?_
 cases q with
 |int i=>exact⟨i,t1.top.int,o1 G1 H1 g1⟩
 |bl _=>exact False.elim o1
 |az=>exact False.elim o1
 |str _=>exact False.elim o1
 |tup _=>exact False.elim o1
 |lst _=>exact False.elim o1
 |exc _=>exact False.elim o1
 |aX _ _=>exact False.elim o1)
theorem sP{p:PV}{lo hi:Option Int}(c:Str):eX p lo hi≠.exc c:=by
 unfold eX
 (repeat' first|split|refine nA λ_=>?_|exact Res.aU c|exact(λz=>nomatch z))
theorem zX(C:d6 Γ F W N sc k X){a:E}{lo hi:Oe}{pa:Expr}{pl ph:Option Expr}{p2 pos:Pos}(ha:GE X W F a pa)(hl:PO X pl (Cg X W F lo))(hh:PO X ph (Cg X W F hi)):GE X W F (.slice a lo hi) (.Subscript pa (.Slice pl ph none p2) pos):=
 (Bf (Qx C.K) ha hl hh).imp λσ H Q h=>by
  obtain⟨H0,G,env,sr,o⟩:=h
  rw [aQ] at o;refine one sr o λp v G1 H1 g1 t1 bW o1=>?_
  refine⟨H0,G1,env,bW,o1.bind.imp λl qS G2 H2 g2=>?_⟩
  refine⟨H0,G2,env,bW.grow g2,(qS.grow g2).bind.imp λh' Uu G3 H3 g3=>?_⟩
  obtain⟨r,hr,kr⟩:=(Uu.grow g3).val (λc=>sP c)
  exact⟨H0,G3,p,r,((bW.grow g2).grow g3).sub,t1.top.grow (g2.trans g3),hr,λw G' H' g' ij=>kr w G' H' (((g1.trans g2).trans g3).trans g') (.of ij)⟩
theorem Fc{CX:zq}{f:Addr}{fd:FuncData}{ps:List Str}{sp:Sp}{E:XK}{ae:List (Addr×Obj)}{σ:St}{H:Hp}{s:Shared}{Q:VK}{us:List Value}{vs:List V}(FO:gq X.prog X.w X.K X.mg X.base CX k f fd ps sp)(hr:dM k X.A)(hb:Binds X.K fd ps [])
 (hx:∀e s',CX X.stack H s E e s'->X.xe e s') (I:Inv X ae σ H s) (r:Vals vs us) (h:sp vs H Q E):wpAny (model X.prog X.w) X.A (call (.ref f) us) (EP X ae σ Q) X.xe s:=by
 have hl:us.length=ps.length:=by rw [<-r.length];exact FO.len _ _ _ _ h
 have iR:=hb s us I.sI (by rw [List.append_nil];exact hl)
 rw [List.append_nil] at iR;refine wpAny_call (codeAny_mono (FO.run X.A X.stack s H ⟨us,[]⟩ us vs Q E hr I.yi iR r h) λr s' hq=>?_)
 cases r with
 |error e=>exact hx e s' hq
 |ok fl=>
  cases fl with
  |ret u=>exact I.after hq
  |next=>exact False.elim hq
  |brk=>exact False.elim hq
  |cont=>exact False.elim hq
theorem De.imp{P:Program}{w:World}{outer:List Env}{H:Hp}{s s':Shared}{E E':XK}{e:Value}(h:d8 P w outer H s E e s')(i:∀C a H',E C a H'->E' C a H'):d8 P w outer H s E' e s':=by
 obtain⟨a,C,t,vs,H',B,rfl,F⟩:=h
 exact⟨a,C,t,vs,H',B,rfl,⟨F.os,F.bare,F.aS,F.CK,F.tn,F.tup,F.ez,F.dv,F.un,i _ _ _ F.ends⟩⟩
theorem mr(hr:dM k X.A){f:Str}{fa:Addr}{fd:FuncData}{pn:List Str}{q:Option (Str×List Nat)}{ae:List (Addr×Obj)}{σ:St}{G H:Hp}{s:Shared}{Q:VK}{us:List Value}{vs:List V}{as:List PV}
 (FO:gq X.prog X.w X.K X.mg X.base (d8 X.prog X.w) k fa fd pn (zm W F f pn.length q)) (hb:Binds X.K fd pn []) (hlen:F f as≠.bad->vs.length=pn.length)
 (I:Inv X ae σ H s) (sg:aB G H) (tb:cU W G H) (l:zR W G q as vs) (r:Vals vs us) (o:Out X W (F f as) σ G H λp=>dm W G H p Q):wpAny (model X.prog X.w) X.A (call (.ref fa) us) (EP X ae σ Q) X.xe s:=by
 have Bl:F f as≠.bad:=λz=>by rw [z] at o;exact o
 refine Fc (E:=λCv ao H'=>∃c,F f as=.exc c/\XE W c G H Cv ao H') FO hr hb (λe s' x=>?_) I r ⟨hlen Bl,G,as,sg,tb,l,?_⟩
 ·cases z:F f as with
  |ok q=>
   obtain⟨a,C',t,vs,H',B,rfl,Fl⟩:=x
   obtain⟨c,e1,_⟩:=Fl.ends
   rw [z] at e1;cases e1
  |exc c=>
   rw [z] at o;refine o ae G H s e s' I (.refl sg) (De.imp x λC1 a H' y=>?_);obtain⟨c',e1,y⟩:=y
   rw [z] at e1;cases e1;exact y
  |bad=>exact absurd z Bl
 ·cases z:F f as with
  |ok q=>
   rw [z] at o;exact λv G' H' g' rp=>o v G' H' g' rp
  |exc c=>exact λCv ao H' x=>⟨c,rfl,x⟩
  |bad=>exact absurd z Bl
theorem d6.rm(C:d6 Γ F W N sc k X):dM k X.A:=C.room.mono (Nat.le_succ k)
theorem D2(C:d6 Γ F W N sc k X){f:Str}{e:E}{es:Es}{p:Expr}{ps:List Expr}{np pos:Pos}(hf:Γ.fs.contains f=true)(hg:iM sc f=true)(ho:okN f=true)(Bx:ic (.cons e es)=true)(ha:GA X W F (.cons e es) (p::ps))
 (dS:starEach (p::ps) X.env=(false,eval p X.env)::starEach ps X.env) (hpl:(backTo pos (starEach ps X.env)).any (·.1)=false):GE X W F (.call f (.cons e es)) (.Call (.Name f np) (p::ps) [] pos):=by
 intro ae s σ H Q I h;obtain⟨H0,G,env,sr,o⟩:=h
 rw [aQ] at o;obtain⟨fa,fd,pn,FO,hm,hk,hb,hlen⟩:=(C.fns f hf).ex
 refine wpAny_Call_Name_kw (gX I (fv C hg) hm ?_ (dQ ho).1);refine PySem.W.callWith_K (h₀:=X.base) I.ok.mod.M0 hk (bX (ha pos ae s σ H (λvs H1=>∃G1 as,aB G1 H1/\cU W G1 H1/\ai W G1 as vs/\Out X W (F f as) σ G1 H1 λp=>dm W G1 H1 p Q) I ?_) λus s1 ⟨vs,H1,I1,r,q⟩=>⟨I1.sI,?_⟩) dS hpl
 ·refine args sr o λas vs G1 H1 g1 t bW o1=>⟨G1,as,bW.sub,bW.tab,t.rep Bx,o1.imp λp hp v G' H' g' rp=>hp v G' H' (g1.trans g') (.of rp)⟩
 ·obtain⟨G1,as,sg,tb,l,o1⟩:=q
  exact mr C.rm FO hb (λz=>by rw [l.length];exact hlen as z) I1 sg tb l r o1
theorem Cy(C:d6 Γ F W N sc k X){f:Str}{np pos:Pos}(hf:Γ.fs.contains f=true)(hg:iM sc f=true)(ho:okN f=true):GE X W F (.call f .nil) (.Call (.Name f np) [] [] pos):=by
 intro ae s σ H Q I h;obtain⟨H0,G,env,sr,o⟩:=h
 rw [aQ,da] at o;obtain⟨fa,fd,pn,FO,hm,hk,hb,hlen⟩:=(C.fns f hf).ex
 refine wpAny_Call_Name_kw (gX I (fv C hg) hm ?_ (dQ ho).1);refine PySem.W.callWith_K0 I.sI hk ?_;have o':Out X W (F f []) σ G H λp=>∀v G' H',aG W G H G' H'->Got W H0 G' H' (.call f .nil) p v->Q v H':=o
 exact mr (us:=[]) (vs:=[]) (as:=[]) (q:=none) C.rm FO hb (λz=>hlen [] z) I sr.sub sr.tab (show ai W G [] [] from .nil) .nil (o'.imp λp hp v G' H' g' rp=>hp v G' H' g' (.of rp))
theorem DQ{ps:List PV}(c:Str):ve ps≠.exc c:=by
 unfold ve
 (repeat' first|split|refine nA λ_=>?_|exact Res.aU c|exact(λz=>nomatch z))
theorem EO{ps:List PV}(c:Str):Bc ps≠.exc c:=by
 unfold Bc
 (repeat' first|split|refine nA λ_=>?_|exact Res.aU c|exact(λz=>nomatch z))
theorem E4{ps:List PV}(c:Str):Cs ps≠.exc c:=by
 unfold Cs
 (repeat' first|split|refine nA λ_=>?_|exact Res.aU c|exact(λz=>nomatch z))
theorem Fz{ps:List PV}(c:Str):Aw ps≠.exc c:=by
 unfold Aw
 (repeat' first|split|refine nA λ_=>?_|exact Res.aU c|exact(λz=>nomatch z))
theorem F7{ps:List PV}(c:Str):Cd ps≠.exc c:=by
 unfold Cd
 (repeat' first|split|refine nA λ_=>?_|exact Res.aU c|exact(λz=>nomatch z))
theorem A5{ps:List PV}(c:Str):sS ps≠.exc c:=by
 unfold sS
 (repeat' first|split|refine nA λ_=>?_|exact Res.aU c|exact(λz=>nomatch z))
theorem xO{ps:List PV}(c:Str):mT ps≠.exc c:=by
 unfold mT
 (repeat' first|split|refine nA λ_=>?_|exact Res.aU c|exact(λz=>nomatch z))
theorem Em{ps:List PV}(c:Str):zA ps≠.exc c:=by
 unfold zA
 (repeat' first|split|refine nA λ_=>?_|exact Res.aU c|exact(λz=>nomatch z))
theorem vh{ps:List PV}(c:Str):je ps≠.exc c:=by
 unfold je
 (repeat' first|split|refine nA λ_=>?_|exact Res.aU c|exact(λz=>nomatch z))
theorem rG{ps:List PV}(c:Str):ir ps≠.exc c:=by
 unfold ir
 (repeat' first|split|refine nA λ_=>?_|exact Res.aU c|exact(λz=>nomatch z))
theorem sH{ps:List PV}(c:Str):gr ps≠.exc c:=by
 unfold gr
 (repeat' first|split|refine nA λ_=>?_|exact Res.aU c|exact(λz=>nomatch z))
theorem yR{b:B}{ps:List PV}(c:Str):cR b ps≠.exc c:=match b with
 |.len=>DQ c|.abs=>EO c|.max2=>E4 c|.int=>Fz c|.str=>F7 c|.list=>A5 c|.tuple=>xO c|.all=>Em c|.sorted=>vh c|.dict=>rG c|.eU=>sH c
theorem Lq(C:d6 Γ F W N sc k X)(b:B){e:Expr}{es:List Expr}{t:TA}{np pos:Pos}(hg:iM sc (bN b)=true)(hm:Γ.bs.contains (bN b)=true)(ha:PA X (e::es) t)
 (he:starEach (e::es) X.env=(false,eval e X.env)::starEach es X.env) (hpl:(backTo pos (starEach es X.env)).any (·.1)=false):PE X (.Call (.Name (bN b) np) (e::es) [] pos) (OF (yu W (cR b)) t):=by
 have nH:=C.bs _ (List.contains_iff_mem.mp hm)
 have mS:=fv C hg
 cases b
 case len=>exact eG (y9 C.K) mS nH PySem.boot_len ha (he:=he) (hpl:=hpl)
 case abs=>exact eG yU mS nH (by decide+kernel) ha (he:=he) (hpl:=hpl)
 case max2=>exact eG (yT C.calm) mS nH (by decide+kernel) ha (he:=he) (hpl:=hpl)
 case int=>exact d9 yb mS nH (by decide+kernel) ha (he:=he) (hpl:=hpl)
 case str=>exact d9 xW mS nH (by decide+kernel) ha (he:=he) (hpl:=hpl)
 case list=>exact d9 (vo C.calm C.K) mS nH (by decide+kernel) ha (he:=he) (hpl:=hpl)
 case tuple=>exact d9 (tD C.K) mS nH (by decide+kernel) ha (he:=he) (hpl:=hpl)
 case all=>exact eG (yN C.calm C.K) mS nH (by decide+kernel) ha (he:=he) (hpl:=hpl)
 case sorted=>exact eG (pM C.K C.calm) mS nH (by decide+kernel) ha (he:=he) (hpl:=hpl)
 case dict=>exact d9 (r8 C.K C.calm C.room.units) mS nH (by decide+kernel) ha (he:=he) (hpl:=hpl)
 case eU=>exact eG (nN C.K C.room.units) mS nH (by decide+kernel) ha (he:=he) (hpl:=hpl)
theorem JL{op:List PV->Res PV}{es:Es}{e:E}{σ:St}{H:Hp}{Q:VK}(hn:∀ps c,op ps≠.exc c)(he:∀env,aQ F e env=(da F es env).bind λps=>op ps)(h:tE X W F e σ H Q):OF (yu W op) (tA X W F es) σ H Q:=by
 obtain⟨H0,G,env,sr,o⟩:=h
 rw [he] at o;refine args sr o λps vs G1 H1 g1 t bW o1=>?_
 obtain⟨r,hr,kr⟩:=o1.val (hn ps)
 exact⟨H0,G1,ps,r,bW.sub,t.top,hr,λw G' H' g' ij=>kr w G' H' (g1.trans g') (.of ij)⟩
theorem K4(C:d6 Γ F W N sc k X)(b:B){es:Es}{e:Expr}{ps:List Expr}{np pos:Pos}(hg:iM sc (bN b)=true)(hm:Γ.bs.contains (bN b)=true)(ha:GA X W F es (e::ps))
 (he:starEach (e::ps) X.env=(false,eval e X.env)::starEach ps X.env) (hpl:(backTo pos (starEach ps X.env)).any (·.1)=false):GE X W F (.blt b es) (.Call (.Name (bN b) np) (e::ps) [] pos):=
 (Lq C b hg hm ha he hpl).imp λσ H Q h=>JL (λps c=>yR c) (λenv=>by rw [aQ]) h
end
section
variable{Γ:Pg}{X:Cx}{W:Wd}{F:aO}{N:List Str}{sc:Scope}{k:Nat}
theorem Ah{t:Ty}{p:PV}(c:Str):kM t p≠.exc c:=by
 cases p<;>exact λz=>nomatch z
theorem IM(C:d6 Γ F W N sc k X)(t:Ty){pos:Pos}(hg:iM sc (Str.ofString (vm t))=true)(hm:Γ.bs.contains (Str.ofString (vm t))=true):PE X (.Name (Str.ofString (vm t)) pos) (tC (.ty (vm t))):=by
 have nH:=C.bs _ (List.contains_iff_mem.mp hm)
 have mS:=fv C hg
 cases t
 all_goals exact FE mS nH (u:=.type _) (by decide+kernel) rfl (by decide+kernel) (by decide+kernel)
theorem Nh(C:d6 Γ F W N sc k X){t:Ty}{a:E}{pa:Expr}{np tp pos:Pos}(hi:iM sc "isinstance"=true)(hb:Γ.bs.contains "isinstance"=true)(hg:iM sc (Str.ofString (vm t))=true)(hm:Γ.bs.contains (Str.ofString (vm t))=true)(ha:GE X W F a pa)
 (dS:∀env ps,starEach (pa::ps) env=(false,eval pa env)::starEach ps env):GE X W F (.ty t a) (.Call (.Name "isinstance" np) [pa,.Name (Str.ofString (vm t)) tp] [] pos):=by
 refine(eG (Cj C.K t) (fv C hi) (C.bs _ (List.contains_iff_mem.mp hb)) (by decide+kernel) (cx ha (cx (IM C t hg hm) dU) (dS _ _)) (he:=dS _ _)).imp λσ H Q h=>?_
 obtain⟨H0,G,env,sr,o⟩:=h
 rw [aQ] at o;refine one sr o λp v G1 H1 g1 t1 bW o1=>?_
 obtain⟨r,hr,kr⟩:=o1.val (λc=>Ah c)
 exact⟨v,H0,G1,p,r,rfl,bW.sub,t1.top,hr,λw G' H' g' ij=>kr w G' H' (g1.trans g') (.of ij)⟩
end
section
variable{Γ:Pg}{X:Cx}{W:Wd}{F:aO}{N:List Str}{sc:Scope}{k:Nat}
theorem SR.set{H0 G H:Hp}{env:Sl}{σ:St}{p:PV}{v:V}(i:Nat)(r:SR W H0 env σ G H)(h:Rep W G p v):SR W H0 (env.set i (.val p)) (σ.set i (some v)) G H where
 len:=by simpa using r.len
 sub:=r.sub
 tab:=r.tab
 nW:=r.nW
 base:=r.base
 slot:=λj s e=>by
  by_cases hj:i=j
  ·subst hj;have bZ:i<env.length:=by
    have:=(zzH.mp e).1
    simpa using this
   rw [List.getElem?_set_self bZ] at e;cases e;exact⟨some v,List.getElem?_set_self (by rw [<-r.len];exact bZ),v,rfl,h⟩
  ·rw [zzS hj] at e;obtain⟨o,h1,h2⟩:=r.slot j s e
   exact⟨o,by rw [zzS hj];exact h1,h2⟩
 apart:=λa b q q' ad e1 e2 e3 e4=>by
  have ne:∀{c:Nat} {q:PV},(env.set i (.val p))[c]?=some (.own q)->i≠c:=λ{c q} e z=>by
   subst z;have bZ:i<env.length:=by
    have:=(zzH.mp e).1
    simpa using this
   rw [List.getElem?_set_self bZ] at e;cases e
  have n1:=ne e1
  have n2:=ne e2
  rw [zzS n1] at e1 e3;rw [zzS n2] at e2 e4;exact r.apart a b q q' ad e1 e2 e3 e4
noncomputable def gT(K:PySem.W.Frag):Tg->TG
 |.one i=>dP i
 |.two i j=>Am K 2 (gQ (dP i) (gQ (dP j) yL))
 |.three i j l=>Am K 3 (gQ (dP i) (gQ (dP j) (gQ (dP l) yL)))
 |.Iz i j l=>Am K 2 (gQ (dP i) (gQ (Am K 2 (gQ (dP j) (gQ (dP l) yL))) yL))
theorem uv{K:PySem.W.Frag}(hK:W.K=K){tg:Tg}{H0 G H:Hp}{env au:Sl}{σ:St}{p:PV}{v:V}{Q:St->Hp->Prop}(e:Tg.put tg p env=.ok au)(r:SR W H0 env σ G H)(h:Rep W G p v)(hq:∀σ',SR W H0 au σ' G H->Q σ' H):gT K tg v σ H Q:=by
 unfold Tg.put at e;split at e
 ·cases e;exact hq _ (r.set _ h)
 ·cases e;simp only [Rep] at h;obtain⟨a,vs,rfl,sq,l⟩:=h
  obtain⟨v1,r1,rfl,h1,l⟩:=l.aW
  obtain⟨v2,r2,rfl,h2,l⟩:=l.aW
  simp only [ai] at l;subst l;rw [hK] at sq;exact⟨a,_,rfl,aB.tup r.sub sq.sq,rfl,_,_,rfl,_,_,rfl,rfl,hq _ ((r.set _ h1).set _ h2)⟩
 ·cases e;simp only [Rep] at h;obtain⟨a,vs,rfl,sq,l⟩:=h
  obtain⟨v1,r1,rfl,h1,l⟩:=l.aW
  obtain⟨v2,r2,rfl,h2,l⟩:=l.aW
  simp only [ai] at l;subst l;simp only [Rep] at h2;obtain⟨a2,vs2,rfl,bA,l2⟩:=h2
  obtain⟨v3,r3,rfl,h3,l2⟩:=l2.aW
  obtain⟨v4,r4,rfl,h4,l2⟩:=l2.aW
  simp only [ai] at l2;subst l2;rw [hK] at sq bA;exact⟨a,_,rfl,aB.tup r.sub sq.sq,rfl,_,_,rfl,_,_,rfl,a2,_,rfl,aB.tup r.sub bA.sq,rfl,_,_,rfl,_,_,rfl,rfl,rfl,hq _ (((r.set _ h1).set _ h3).set _ h4)⟩
 ·cases e;simp only [Rep] at h;obtain⟨a,vs,rfl,sq,l⟩:=h
  obtain⟨v1,r1,rfl,h1,l⟩:=l.aW
  obtain⟨v2,r2,rfl,h2,l⟩:=l.aW
  obtain⟨v3,r3,rfl,h3,l⟩:=l.aW
  simp only [ai] at l;subst l;rw [hK] at sq;exact⟨a,_,rfl,aB.tup r.sub sq.sq,rfl,_,_,rfl,_,_,rfl,_,_,rfl,rfl,hq _ (((r.set _ h1).set _ h2).set _ h3)⟩
 ·cases e
theorem B5{x:Str}(eK:X.env.scope=sc)(h:fx sc x=true):Loc X.env.scope x:=by
 rw [eK];unfold fx at h;simp only [Bool.or_eq_true,beq_iff_eq] at h;exact h
theorem zx{fn:Str->Bool}{i:Nat}{p:Expr}(hN:X.N=N)(nd:N.Nodup)(eK:X.env.scope=sc)(kI:∀x,fn x=true->X.fn x=true)(h:O2 N sc fn i p=true):PG X p (dP i)/\∃x q,p=.Name x q:=by
 obtain⟨x,hx,h2⟩:=aj h
 obtain⟨q,rfl⟩:=cO hx
 simp only [zza,beq_iff_eq,Bool.or_eq_true] at h2;refine⟨Ez (by rw [hN];exact nd) (by rw [hN];exact h2.1.1) (B5 eK h2.1.2) ?_,x,q,rfl⟩;rcases h2.2 with z|z
 ·exact .inl (kI x z)
 ·exact .inr (by rw [eK];exact z)
def TZ:List Nat->Gj
 |[]=>yL
 |i::is=>gQ (dP i) (TZ is)
theorem qL{fn:Str->Bool}(hN:X.N=N)(nd:N.Nodup)(eK:X.env.scope=sc)(kI:∀x,fn x=true->X.fn x=true):∀(is:List Nat) (es:List Expr),Ck N sc fn is es=true->MO X es (TZ is)/\(assignEach es X.env).length=is.length/\(assignEach es X.env).findIdx? (·.1)=none
 |[],[],_=>⟨w8,rfl,rfl⟩
 |i::is,a::as,h=>by
  have h:=aC h
  obtain⟨g1,x,p,rfl⟩:=zx hN nd eK kI h.1
  obtain⟨g,l,f⟩:=qL hN nd eK kI is as h.2
  have e:assignEach (.Name x p::as) X.env=(false,assign (.Name x p) X.env)::assignEach as X.env:=rfl
  refine⟨my g1 g,by rw [e,zzL,l,zzL],?_⟩;rw [e,List.findIdx?_cons,f]
  rfl
 |[],_::_,h=>aE h
 |_::_,[],h=>aE h
theorem BF{fn:Str->Bool}{tg:Tg}{p:Expr}(hN:X.N=N)(nd:N.Nodup)(eK:X.env.scope=sc)(hc:X.calm=true)(kI:∀x,fn x=true->X.fn x=true)(h:ie N sc fn tg p=true):PG X p (gT X.K tg):=by
 cases tg with
 |one i=>exact(zx hN nd eK kI h).1
 |two i j=>
  obtain⟨es,h1,h2⟩:=aj h
  obtain⟨k,q,rfl⟩:=jk h1
  obtain⟨g,l,f⟩:=qL hN nd eK kI _ _ h2
  exact pK hc g l f
 |three i j l=>
  obtain⟨es,h1,h2⟩:=aj h
  obtain⟨k,q,rfl⟩:=jk h1
  obtain⟨g,l,f⟩:=qL hN nd eK kI _ _ h2
  exact pK hc g l f
 |Iz i j l=>
  obtain⟨es,h1,h2⟩:=aj h
  obtain⟨k,q,rfl⟩:=jk h1
  obtain⟨⟨a,b⟩,h3,h4⟩:=aj h2
  have z3:=wG h3
  have h5:=aC h4
  obtain⟨fs,h6,h7⟩:=aj h5.2
  obtain⟨k2,q2,z6⟩:=jk h6
  obtain⟨g0,x,xp,z5⟩:=zx hN nd eK kI h5.1
  dsimp only at z3 z6 z5 g0;subst z3 z6 z5;obtain⟨g,l,f⟩:=qL hN nd eK kI _ _ h7
  exact pK hc (my g0 (my (pK hc g l f) w8)) rfl rfl
def lO(W:Wd)(J:It)(G B:Hp)(ps:List PV):Prop:=∀(i:Nat) (G' H':Hp),aB G G'->hJ B H'->aB G' H'->
 (i=ps.length->J.stop i H')/\∀p,ps[i]?=some p->J.go i H'/\∀x me,J.KP i H' x me->∃wL,aG W G' H' wL me/\Rep W wL p x
structure Mv(W:Wd)(G H:Hp)(it:I)(J:It)(ps:List PV):Prop where
 any:lO W J G H ps
 bK:Ei it=true->lO W J G G ps
noncomputable def tI(X:Cx)(W:Wd)(F:aO)(it:I):TI:=λσ H R=>∃H0 G env,SR W H0 env σ G H/\Out X W (qZ F it env) σ G H λps=>∀J G' H',aG W G H G' H'->Mv W G' H' it J ps->R J H'
abbrev GI(X:Cx)(W:Wd)(F:aO)(tg:Expr)(it:I)(p:Expr):Prop:=PI X tg p (tI X W F it)
theorem vK(hK:W.K=X.K){G B:Hp}{a:Addr}{vs:List V}{ps:List PV}(h:om W.K B a vs)(l:ai W G ps vs):lO W (Rn X.K a) G B ps:=λi G' H' sG sB sub=>by
 have hq:eF X.K H' a vs:=dR hK (hJ.ls sB h)
 refine⟨λhi=>⟨vs,hq,by rw [l.length];omega⟩,λp hp=>?_⟩
 obtain⟨v,hv,rv⟩:=l.jW hp
 refine⟨⟨vs,v,hq,hv⟩,λx me hy=>?_⟩
 obtain⟨rfl,hy⟩:=hy
 have:=hy vs hq
 rw [hv] at this;cases this;exact⟨G',.refl sub,Rep.same sG p rv⟩
theorem B8{K:PySem.W.Frag}{G B:Hp}{a:Addr}{vs:List V}{ps:List PV}(h:eP K B a vs)(l:ai W G ps vs):lO W (PQ K a) G B ps:=λi G' H' sG sB sub=>by
 have hq:eP K H' a vs:=hJ.tup sB h
 refine⟨λhi=>⟨vs,hq,by rw [l.length];omega⟩,λp hp=>?_⟩
 obtain⟨v,hv,rv⟩:=l.jW hp
 refine⟨⟨vs,v,hq,hv⟩,λx me hy=>?_⟩
 obtain⟨rfl,hy⟩:=hy
 have:=hy vs hq
 rw [hv] at this;cases this;exact⟨G',.refl sub,Rep.same sG p rv⟩
theorem Ae{G B:Hp}{a:Addr}{o:Obj}{ks:List (List Int)}{us:List V}(n:ks.length=us.length)(h:B a=some (.bK o (.dT (kz ks us)))):lO W (RI a o (kz ks us)) G B (ks.map ah):=λi G' H' sG sB sub=>by
 have hq:H' a=some (.bK o (.dT (kz ks us))):=sB.at h (λ_ z=>nomatch z)
 refine⟨λhi=>⟨hq,by rw [fF n];rw [zzl] at hi;omega⟩,λp hp=>?_⟩
 rw [zzQ] at hp;obtain⟨k,hk,rfl⟩:=zzJ.mp hp
 have hi:i<ks.length:=(zzH.mp hk).1
 refine⟨⟨hq,by rw [fF n];exact hi⟩,λx me hy=>?_⟩
 obtain⟨rfl,b,k',v,rfl,e2,e3⟩:=hy
 have ek:k'=ki k:=by
  have:=congrArg (λl=>l[i]?) (qi (us:=us) n)
  simp only [zzQ,e2,hk,Option.map_some] at this;exact Option.some.inj this
 rw [ek,pS] at e3;obtain⟨G2,g2,l2⟩:=gY (W:=W) (vs:=[.ref b]) (nss:=[k]) sub (.cons ⟨b,rfl,e3⟩ .nil)
 obtain⟨w,r,ew,hw,_⟩:=l2.aW
 cases ew;exact⟨G2,g2,hw⟩
theorem oY{z:Str}{i:Nat}{p:PV}(h:(chars z)[i]?=some p):∃c,z.cps[i]?=some c/\p=.str ⟨#[c]⟩:=by
 unfold chars at h;rw [zzQ] at h;obtain⟨c,hc,rfl⟩:=zzJ.mp h
 rw [Array.getElem?_toList] at hc;exact⟨c,hc,rfl⟩
theorem oE(z:Str):(chars z).length=z.cps.size:=by unfold chars;rw [zzl,zzd]
theorem zK{G B:Hp}(z:Str):lO W (Ow z) G B (chars z):=λi G' H' sG sB sub=>by
 refine⟨λhi=>by rw [oE] at hi;exact Nat.le_of_eq hi.symm,λp hp=>?_⟩
 obtain⟨c,hc,rfl⟩:=oY hp
 refine⟨(Array.getElem?_eq_some_iff.mp hc).1,λx me hy=>?_⟩
 obtain⟨rfl,c',gW,rfl⟩:=hy
 rw [hc] at gW;cases gW;exact⟨G',.refl sub,.s⟩
theorem qI{G B:Hp}(lo:Int)(n:Nat):lO W (MC lo n) G B (eN lo n):=λi G' H' sG sB sub=>by
 unfold eN;refine⟨λhi=>by rw [zzl,List.length_range] at hi;exact Nat.le_of_eq hi.symm,λp hp=>?_⟩
 rw [zzQ] at hp;obtain⟨c,hc,rfl⟩:=zzJ.mp hp
 obtain⟨h1,h2⟩:=zzH.mp hc
 rw [List.length_range] at h1;rw [List.getElem_range] at h2;subst h2;refine⟨h1,λx me hy=>?_⟩
 obtain⟨rfl,rfl⟩:=hy
 exact⟨G',.refl sub,.i⟩
theorem ja{G H:Hp}{p q:PV}{v u:V}{a:Addr}(sub:aB G H)(ha:H a=none)(h1:Rep W G p v)(h2:Rep W G q u):∃wL,aG W G H wL (upd H a (.tup [v,u]))/\Rep W wL (.tup [p,q]) (.ref a):=
 ⟨_,.new sub ha,.t (.inl aq) (ai.same (bx (sub.free ha)) _ (.cons h1 (.cons h2 .nil)))⟩
theorem jg:∀{xs:List PV} {n i:Nat} {p:PV},(cQ n xs)[i]?=some p->∃x,xs[i]?=some x/\p=.tup [.int ((n+i:Nat):Int),x]
 |[],_,_,_,h=>by simp [cQ] at h
 |x::xs,n,0,p,h=>by simp [cQ] at h;exact⟨x,rfl,by rw [<-h];simp⟩
 |x::xs,n,i+1,p,h=>by
  simp only [cQ,List.getElem?_cons_succ] at h;obtain⟨y,h1,h2⟩:=jg h
  exact⟨y,by simpa using h1,by rw [h2,show n+1+i=n+(i+1) by omega]⟩
theorem dy:∀(xs:List PV) (n:Nat),(cQ n xs).length=xs.length
 |[],_=>rfl
 |_::xs,n=>by simp only [cQ,zzL,dy xs]
theorem tH{K:PySem.W.Frag}{G B:Hp}{a:Addr}{vs:List V}{ps:List PV}(h:eP K B a vs)(l:ai W G ps vs):lO W (QB K a vs) G B (cQ 0 ps):=λi G' H' sG sB sub=>by
 have hq:eP K H' a vs:=hJ.tup sB h
 refine⟨λhi=>⟨hq,by rw [dy] at hi;rw [l.length];exact hi⟩,λp hp=>?_⟩
 obtain⟨x,hx,rfl⟩:=jg hp
 obtain⟨v,hv,rv⟩:=l.jW hx
 refine⟨⟨hq,(zzH.mp hv).1⟩,λy me hy=>?_⟩
 obtain⟨b,x',rfl,hb,rfl,uc⟩:=hy
 rw [hv] at uc;cases uc;rw [Nat.zero_add];exact ja sub hb .i (Rep.same sG x rv)
theorem lJ(hK:W.K=X.K){G B:Hp}{a:Addr}{vs:List V}{ps:List PV}(h:om W.K B a vs)(l:ai W G ps vs):lO W (HD X.K a vs) G B (cQ 0 ps):=λi G' H' sG sB sub=>by
 have hq:eF X.K H' a vs:=dR hK (hJ.ls sB h)
 refine⟨λhi=>⟨hq,by rw [dy] at hi;rw [l.length];exact hi⟩,λp hp=>?_⟩
 obtain⟨x,hx,rfl⟩:=jg hp
 obtain⟨v,hv,rv⟩:=l.jW hx
 refine⟨⟨hq,(zzH.mp hv).1⟩,λy me hy=>?_⟩
 obtain⟨b,x',rfl,hb,rfl,uc⟩:=hy
 rw [hv] at uc;cases uc;rw [Nat.zero_add];exact ja sub hb .i (Rep.same sG x rv)
theorem tv{G B:Hp}(z:Str):lO W (OG z) G B (cQ 0 (chars z)):=λi G' H' sG sB sub=>by
 refine⟨λhi=>by rw [dy,oE] at hi;exact hi,λp hp=>?_⟩
 obtain⟨x,hx,rfl⟩:=jg hp
 obtain⟨c,hc,rfl⟩:=oY hx
 refine⟨(Array.getElem?_eq_some_iff.mp hc).1,λy me hy=>?_⟩
 obtain⟨b,c',rfl,hb,rfl,gW⟩:=hy
 rw [hc] at gW;cases gW;rw [Nat.zero_add];exact ja sub hb .i .s
theorem zip_get:∀{xs ys:List PV} {i:Nat} {p:PV},(iV xs ys)[i]?=some p->∃x y,xs[i]?=some x/\ys[i]?=some y/\p=.tup [x,y]
 |[],_,_,_,h=>by simp [iV] at h
 |_::_,[],_,_,h=>by simp [iV] at h
 |x::xs,y::ys,0,p,h=>by simp [iV] at h;exact⟨x,y,rfl,rfl,h.symm⟩
 |x::xs,y::ys,i+1,p,h=>by
  simp only [iV,List.getElem?_cons_succ] at h;obtain⟨a,b,h1,h2,h3⟩:=zip_get h
  exact⟨a,b,by simpa using h1,by simpa using h2,h3⟩
theorem wQ:∀(xs ys:List PV),(iV xs ys).length=min xs.length ys.length
 |[],_=>by simp [iV]
 |_::_,[]=>by simp [iV]
 |_::xs,_::ys=>by simp only [iV,zzL,wQ xs ys];omega
theorem uC(hK:W.K=X.K){G B:Hp}{a b:Addr}{vs us:List V}{ps qs:List PV}(h:om W.K B a vs)(h2:om W.K B b us)(l:ai W G ps vs)(l2:ai W G qs us):lO W (PU X.K a b vs us) G B (iV ps qs):=λi G' H' sG sB sub=>by
 have hq:eF X.K H' a vs:=dR hK (hJ.ls sB h)
 have O7:eF X.K H' b us:=dR hK (hJ.ls sB h2)
 refine⟨λhi=>⟨hq,O7,by rw [wQ] at hi;rw [l.length,l2.length];omega⟩,λp hp=>?_⟩
 obtain⟨x,y,hx,hy,rfl⟩:=zip_get hp
 obtain⟨v,hv,rv⟩:=l.jW hx
 obtain⟨u,hu,ru⟩:=l2.jW hy
 refine⟨⟨hq,O7,(zzH.mp hv).1,(zzH.mp hu).1⟩,λw me hy=>?_⟩
 obtain⟨b',x',y',rfl,hb,rfl,uc,CN⟩:=hy
 rw [hv] at uc;cases uc;rw [hu] at CN;cases CN;exact ja sub hb (Rep.same sG x rv) (Rep.same sG y ru)
theorem eh{e:E}{σ:St}{H0 G H:Hp}{env:Sl}{Q:VK}{p:PV}(sr:SR W H0 env σ G H)(e1:aQ F e env=.ok p)(h:∀v G1 H1,aG W G H G1 H1->Got W H0 G1 H1 e p v->Q v H1):tE X W F e σ H Q:=⟨H0,G,env,sr,by rw [e1];exact h⟩
theorem AE{e:E}{σ:St}{H0 G H:Hp}{env:Sl}{Q:VK}{c:Str}(sr:SR W H0 env σ G H)(e1:aQ F e env=.exc c)(h:vD X W σ c G H):tE X W F e σ H Q:=⟨H0,G,env,sr,by rw [e1];exact h⟩
theorem H9(C:d6 Γ F W N sc k X){tg p:Expr}{e:E}(he:GE X W F e p):GI X W F tg (.seq e) p:=by
 intro ae s σ H R I h;obtain⟨H0,G,env,sr,o⟩:=h
 rw [qZ] at o;cases r:aQ F e env with
 |bad=>rw [r] at o;exact o.elim
 |exc c=>rw [r] at o;exact vW he ae s σ H R I (AE sr r o)
 |ok q=>
  rw [r] at o;cases q with
  |lst xs=>
   refine vW he ae s σ H R I (eh sr r λv G1 H1 g1 t=>?_);have t':=t
   obtain⟨a,vs,rfl,h1,l1⟩:=t.top.lst g1.sub
   refine⟨a,rfl,⟨vs,dR C.K h1⟩,o _ G1 H1 g1 ⟨vK C.K h1 l1,λz=>?_⟩⟩
   have rp:=t'.rep z
   simp only [Rep] at rp;obtain⟨a',vs',e1,h2,l2⟩:=rp
   cases e1;exact vK C.K h2 l2
  |tup xs=>
   refine IG he ae s σ H R I (eh sr r λv G1 H1 g1 t=>?_);have t':=t
   obtain⟨a,vs,rfl,h1,l1⟩:=t.top.tup g1.sub
   rw [C.K] at h1;refine⟨a,rfl,⟨vs,h1⟩,o _ G1 H1 g1 ⟨B8 h1 l1,λz=>?_⟩⟩
   have rp:=t'.rep z
   simp only [Rep] at rp;obtain⟨a',vs',e1,h2,l2⟩:=rp
   cases e1;rw [C.K] at h2;exact B8 h2.sq l2
  |str z=>exact Lp he ae s σ H R I (eh sr r λv G1 H1 g1 t=>⟨z,t.top.str,o _ G1 H1 g1 ⟨zK z,λ_=>zK z⟩⟩)
  |int _=>exact False.elim o
  |bl _=>exact False.elim o
  |az=>exact False.elim o
  |exc _=>exact False.elim o
  |aX ks qs=>
   by_cases Jb:fY e=true
   ·have Uv:yr e (.aX ks qs)=.ok (ks.map ah):=by
     cases e<;>first|rfl|exact aE Jb
    have o2:Out X W (yr e (.aX ks qs)) σ G H λps=>∀(J:It) (G' H':Hp),aG W G H G' H'->Mv W G' H' (Ci.I.seq e) J ps->R J H':=o
    rw [Uv] at o2;refine JQ he ae s σ H R I (eh sr r λv G1 H1 g1 t=>?_);have rp:=t.rep Jb
    simp only [Rep] at rp;obtain⟨a,ob,us,rfl,n,h1,l1⟩:=rp
    exact⟨a,ob,_,rfl,g1.sub _ _ h1,o2 _ G1 H1 g1 ⟨Ae n (g1.sub _ _ h1),λ_=>Ae n h1⟩⟩
   ·have:∃i,e=.hZ i:=by
     cases e<;>first|exact⟨_,rfl⟩|exact absurd rfl Jb
    obtain⟨i,rfl⟩:=this
    exact False.elim o
theorem dC{i:Int}(h:aY i=true): -(2^62)<=i/\i<2^62:=by
 unfold aY at h
 simpa using h
theorem Iu(C:d6 Γ F W N sc k X){tg p:Expr}{e:E}{np pos:Pos}(hg:iM sc "range"=true)(hb:Γ.bs.contains "range"=true)(dS:∀env ps,starEach (p::ps) env=(false,eval p env)::starEach ps env)(he:GE X W F e p):GI X W F tg (.rn e) (.Call (.Name "range" np) [p] [] pos):=by
 intro ae s σ H R I h;refine xQ (fv C hg) (C.bs _ (List.contains_iff_mem.mp hb)) (cx he dU (dS _ _)) (dS _ _) ae s σ H R I ?_;obtain⟨H0,G,env,sr,o⟩:=h
 rw [qZ] at o;refine one sr o λq v G1 H1 g1 t bW o1=>?_
 cases q with
 |int j=>
  by_cases hj:aY j=true
  ·have o2:Out X W (if aY j=true then Res.ok (eN 0 j.toNat) else .bad) σ G1 H1 _:=o1
   rw [if_pos hj] at o2;exact⟨j,by rw [t.top.int],(dC hj).1,(dC hj).2,o2 _ G1 H1 g1 ⟨qI _ _,λ_=>qI _ _⟩⟩
  ·have o2:Out X W (if aY j=true then Res.ok (eN 0 j.toNat) else .bad) σ G1 H1 _:=o1
   rw [if_neg hj] at o2;exact o2.elim
 |bl _=>exact False.elim o1
 |az=>exact False.elim o1
 |str _=>exact False.elim o1
 |tup _=>exact False.elim o1
 |lst _=>exact False.elim o1
 |exc _=>exact False.elim o1
 |aX _ _=>exact False.elim o1
theorem Fy(C:d6 Γ F W N sc k X){tg p q:Expr}{a b:E}{np pos:Pos}(hg:iM sc "range"=true)(hb:Γ.bs.contains "range"=true)(dS:∀env ps,starEach (p::ps) env=(false,eval p env)::starEach ps env)(uO:∀env ps,starEach (q::ps) env=(false,eval q env)::starEach ps env)
 (ha:GE X W F a p) (iR:GE X W F b q):GI X W F tg (.nk a b) (.Call (.Name "range" np) [p,q] [] pos):=by
 intro ae s σ H R I h;refine yM (fv C hg) (C.bs _ (List.contains_iff_mem.mp hb)) (cx ha (cx iR dU (uO _ _)) (dS _ _)) (by rw [dS,uO];rfl) (uO _ _) ae s σ H R I ?_;obtain⟨H0,G,env,sr,o⟩:=h
 rw [qZ] at o;refine one sr o λx v G1 H1 g1 t bW o1=>one bW o1 λy u G2 H2 g2 t2 fU o2=>?_
 cases x<;>cases y<;>first
  |(exact False.elim o2)
  | (rename_i i j
     by_cases hj:(aY i&&aY j)=true
     ·have o3:Out X W (if(aY i&&aY j)=true then Res.ok (eN i (j-i).toNat) else .bad) σ G2 H2 _:=o2
      rw [if_pos hj] at o3;rw [zza] at hj;exact⟨i,j,by rw [t.top.int,t2.top.int],⟨(dC hj.1).1,(dC hj.1).2,(dC hj.2).1,(dC hj.2).2⟩,o3 _ G2 H2 (g1.trans g2) ⟨qI _ _,λ_=>qI _ _⟩⟩
     ·have o3:Out X W (if(aY i&&aY j)=true then Res.ok (eN i (j-i).toNat) else .bad) σ G2 H2 _:=o2
      rw [if_neg hj] at o3;exact o3.elim)
theorem ER(C:d6 Γ F W N sc k X){elts:List Expr}{x1:Nat}{mG:Pos}{p:Expr}{e:E}{np pos:Pos}(hg:iM sc "enumerate"=true)(hb:Γ.bs.contains "enumerate"=true)(dS:∀env ps,starEach (p::ps) env=(false,eval p env)::starEach ps env)(he:GE X W F e p):
 GI X W F (.Tuple elts x1 mG) (.enum e) (.Call (.Name "enumerate" np) [p] [] pos):=by
 intro ae s σ H R I h;have mS:=fv C hg
 have nH:=C.bs _ (List.contains_iff_mem.mp hb)
 have pa:=cx he dU (dS _ _)
 obtain⟨H0,G,env,sr,o⟩:=h
 rw [qZ] at o;cases r:aQ F e env with
 |bad=>rw [r] at o;exact o.elim
 |exc c=>rw [r] at o;exact rV mS nH pa (dS _ _) ae s σ H R I (AE sr r o)
 |ok q=>
  rw [r] at o;cases q with
  |lst xs=>
   refine rV mS nH pa (dS _ _) ae s σ H R I (eh sr r λv G1 H1 g1 t=>?_)
   by_cases hz:fY e=true
   ·have rp:=t.rep hz
    simp only [Rep] at rp;obtain⟨a,vs,rfl,h2,l2⟩:=rp
    exact⟨a,vs,rfl,dR C.K (aB.ls g1.sub h2),o _ G1 H1 g1 ⟨lJ C.K (aB.ls g1.sub h2) l2,λ_=>lJ C.K h2 l2⟩⟩
   ·obtain⟨a,vs,rfl,h1,l1⟩:=t.top.lst g1.sub
    exact⟨a,vs,rfl,dR C.K h1,o _ G1 H1 g1 ⟨lJ C.K h1 l1,λz=>absurd z hz⟩⟩
  |tup xs=>
   refine Cp mS nH pa (dS _ _) ae s σ H R I (eh sr r λv G1 H1 g1 t=>?_);have t':=t.top
   rcases t' with rp|z
   ·simp only [Rep] at rp;obtain⟨a,vs,rfl,h2,l2⟩:=rp
    rw [C.K] at h2;exact⟨a,vs,rfl,aB.tup g1.sub h2.sq,o _ G1 H1 g1 ⟨tH (aB.tup g1.sub h2.sq) l2,λz=>tH h2.sq l2⟩⟩
   ·exact z.elim
  |str z=>exact BV mS nH pa (dS _ _) ae s σ H R I (eh sr r λv G1 H1 g1 t=>⟨z,by rw [t.top.str],o _ G1 H1 g1 ⟨tv z,λ_=>tv z⟩⟩)
  |int _=>exact False.elim o
  |bl _=>exact False.elim o
  |az=>exact False.elim o
  |exc _=>exact False.elim o
  |aX _ _=>exact False.elim o
theorem Kt(C:d6 Γ F W N sc k X){elts:List Expr}{x1:Nat}{mG:Pos}{p q:Expr}{a b:E}{np pos:Pos}(hg:iM sc "zip"=true)(hb:Γ.bs.contains "zip"=true)(dS:∀env ps,starEach (p::ps) env=(false,eval p env)::starEach ps env)(uO:∀env ps,starEach (q::ps) env=(false,eval q env)::starEach ps env)
 (ha:GE X W F a p) (iR:GE X W F b q):GI X W F (.Tuple elts x1 mG) (.zip a b) (.Call (.Name "zip" np) [p,q] [] pos):=by
 intro ae s σ H R I h;refine Ib (fv C hg) (C.bs _ (List.contains_iff_mem.mp hb)) (cx ha (cx iR dU (uO _ _)) (dS _ _)) (by rw [dS,uO];rfl) (uO _ _) ae s σ H R I ?_;obtain⟨H0,G,env,sr,o⟩:=h
 rw [qZ] at o;refine one sr o λx v G1 H1 g1 t bW o1=>one bW o1 λy u G2 H2 g2 t2 fU o2=>?_
 cases x<;>cases y<;>first
  |(exact False.elim o2)
  | (rename_i xs ys
     have tt:=t.grow g2
     by_cases hz:(fY a&&fY b)=true
     ·have z':=hz
      rw [zza] at z';have rp:=tt.rep z'.1
      have SK:=t2.rep z'.2
      simp only [Rep] at rp SK;obtain⟨b1,vs,rfl,k1,m1⟩:=rp
      obtain⟨b2,us,rfl,k2,m2⟩:=SK
      exact⟨b1,b2,vs,us,rfl,dR C.K (aB.ls g2.sub k1),dR C.K (aB.ls g2.sub k2),o2 _ G2 H2 (g1.trans g2) ⟨uC C.K (aB.ls g2.sub k1) (aB.ls g2.sub k2) m1 m2,λ_=>uC C.K k1 k2 m1 m2⟩⟩
     ·obtain⟨a1,vs,rfl,h1,l1⟩:=tt.top.lst g2.sub
      obtain⟨a2,us,rfl,h2,l2⟩:=t2.top.lst g2.sub
      exact⟨a1,a2,vs,us,rfl,dR C.K h1,dR C.K h2,o2 _ G2 H2 (g1.trans g2) ⟨uC C.K h1 h2 l1 l2,λz=>absurd z hz⟩⟩)
end
theorem zj{env:Env}{x:Str}{c:Addr}(h:env.cells.lookup x=some c):cellOf env x=pure c:=by
 unfold cellOf;rw [h]
def frees(names:List (Str×NameKind)):List Str:=((names.filter λp=>p.2==.free).map (·.1)).reverse
theorem iD{scope:Scope}{env:Env}(h:∀y∈scope.names,y.2=.free->∃c,env.cells.lookup y.1=some c):closureFor scope env=pure (bU env (freeOf scope)):=by
 simp only [closureFor];have key:∀(names:List (Str×NameKind)) (acc:List (Str×Addr)),(∀y∈names,y.2=.free->∃c,env.cells.lookup y.1=some c)->
  (forIn (m:=Sem) names acc λx r=>if(x.2==NameKind.free)=true then do
   let c<-cellOf env x.1
   pure (ForInStep.yield ((x.1,c)::r))
   else pure (ForInStep.yield r))=pure (bU env (frees names)++acc):=by
  intro names
  induction names with
  |nil=>intro acc _;rfl
  |cons p r ih=>
   intro acc hh;obtain⟨n,kd⟩:=p
   rw [List.forIn_cons]
   by_cases hk:(kd==NameKind.free)=true
   ·obtain⟨c,hc⟩:=hh (n,kd) (by simp) (beq_iff_eq.mp hk)
    simp only [hk,if_true,zj hc,pure_bind];rw [ih ((n,c)::acc) λy hy=>hh y (zzI _ hy)]
    have e:frees ((n,kd)::r)=frees r++[n]:=by
     unfold frees;rw [List.filter_cons,if_pos hk,zzF,List.reverse_cons]
    rw [e];unfold bU;rw [List.map_append,zzF,List.map_nil,List.append_assoc];show _=pure (_++([(n,(env.cells.lookup n).getD 0)]++acc))
    rw [show env.cells.lookup n=some c from hc]
    rfl
   ·simp only [hk,zze,if_false,pure_bind];rw [ih acc λy hy=>hh y (zzI _ hy)]
    have e:frees ((n,kd)::r)=frees r:=by
     unfold frees;rw [List.filter_cons,if_neg hk]
    rw [e]
 have:=key scope.names [] h
 rw [List.append_nil] at this;simp only [bind_pure_comp,map_pure,id_map',bind_pure];exact this
section
variable{X:Cx}{W:Wd}{N:List Str}{sc:Scope}
theorem fC{scope:Scope}(h:X.env.scope=sc):relabel scope X.env=dw scope sc:=by
 subst h
 rfl
structure nv(N:List Str)(sc scope:Scope)(kk:Nat)(bq:List Nat)(xs:List Str):Prop where
 kind:scope.kind=.function
 len:xs.length=kk
 nd:(xs++freeOf scope).Nodup
 JS:(scope.names.all λy=>(decide (y.2≠.cell)||!(freeOf scope).contains y.1)&&(decide (y.2≠.free)||(freeOf scope).contains y.1))=true
 own:(scope.names.all λy=>decide (y.2≠.cell)||decide (scope.names.lookup y.1=some .cell))=true
 names:(scope.names.all λy=>decide (y.2≠.local)||decide (scope.names.lookup y.1=some .local))=true
 slots:bq.map (λi=>N[i]?)=(freeOf scope).map some
 kX:((freeOf scope).all λy=>decide (sc.names.lookup y=some .cell))=true
 kY:((freeOf scope).all λy=>decide ((dw scope sc).names.lookup y=some .cell))=true
theorem jn{scope:Scope}{kk:Nat}{bq:List Nat}{xs:List Str}(h:wX N sc scope kk bq xs=true):nv N sc scope kk bq xs:=by
 unfold wX at h;simp only [zza] at h;obtain⟨⟨⟨⟨⟨⟨⟨⟨h1,h2⟩,h3⟩,h4⟩,h9⟩,h5⟩,h6⟩,h7⟩,h8⟩:=h
 exact⟨beq_iff_eq.mp h1,beq_iff_eq.mp h2,zzY h3,h4,h9,h5,zzY h6,h7,h8⟩
theorem pO(hN:X.N=N)(eK:X.env.scope=sc)(ok:X.Ok){scope:Scope}{kk:Nat}{bq:List Nat}{xs:List Str}(h:nv N sc scope kk bq xs):fq X scope xs (freeOf scope) bq:=by
 have eo:∀y∈freeOf scope,∃c,X.env.cells.lookup y=some c:=λy hy=>ok.has y (.inl (by
  have:=zzY (zzT.mp h.kX y hy)
  show X.env.scope.names.lookup y=_
  rw [eK];exact this))
 refine⟨h.kind,iD λy hy hf=>?_,zzT.mpr λy hy=>?_,h.JS,h.own,h.names,by rw [hN];exact h.slots,zzT.mpr λy hy=>?_,?_⟩
 ·have c:=zzT.mp h.JS y hy
  rw [zza,Bool.or_eq_true,Bool.or_eq_true] at c;rcases c.2 with z|z
  ·exact absurd hf (zzY z)
  ·exact eo _ (List.contains_iff_mem.mp z)
 ·obtain⟨c,hc⟩:=eo y hy
  rw [hc];rfl
 ·have:=zzY (zzT.mp h.kX y hy)
  refine zzh ?_;show X.env.scope.names.lookup y=_
  rw [eK];exact this
 ·rw [fC eK];exact h.kY
theorem iu{f:PV->Res (Option PV)}{x:PV}:∀{xs:List PV},bo f (xs++[x])=(bo f xs).bind λys=>(f x).well.bind λo=>.ok (ys++o.toList)
 |[]=>by
  simp only [List.nil_append,bo,Res.bind];cases(f x).well with
  |ok o=>cases o<;>rfl
  |exc c=>rfl
  |bad=>rfl
 |y::xs=>by
  rw [List.cons_append];simp only [bo];rw [iu (xs:=xs)];cases(f y).well with
  |exc c=>rfl
  |bad=>rfl
  |ok o=>
   show(((bo f xs).bind λys=>(f x).well.bind λo=>.ok (ys++o.toList)).bind λys=>.ok (oc o ys))=((bo f xs).bind λys=>.ok (oc o ys)).bind λys=>(f x).well.bind λo=>.ok (ys++o.toList)
   cases bo f xs with
   |exc c=>rfl
   |bad=>rfl
   |ok zs=>
    show(((f x).well.bind λo=>.ok (zs++o.toList)).bind λys=>.ok (oc o ys))=(f x).well.bind λo2=>.ok ((oc o zs)++o2.toList)
    cases(f x).well with
    |exc c=>rfl
    |bad=>rfl
    |ok o2=>cases o<;>rfl
theorem lY{f:PV->Res (Option PV)}:∀{xs ys:List PV},bo f xs=.ok ys->∀i,∃zs,bo f (xs.take i)=.ok zs/\zs.length<=i
 |_,_,_,0=>⟨[],by simp [bo],zzE _⟩
 |[],ys,h,i+1=>⟨[],by simp [bo],Nat.zero_le _⟩
 |x::xs,ys,h,i+1=>by
  simp only [bo] at h;obtain⟨o,ho,h⟩:=Res.aR h
  obtain⟨zs,hz,h⟩:=Res.aR h
  obtain⟨ws,hw,hl⟩:=lY hz i
  refine⟨oc o ws,?_,?_⟩
  ·rw [List.take_succ_cons];simp only [bo];rw [ho];show((bo f (xs.take i)).bind λys=>.ok (oc o ys))=_
   rw [hw]
   rfl
  ·cases o with
   |none=>exact Nat.le_succ_of_le hl
   |some y=>exact Nat.succ_le_succ hl
theorem F6{α:Type}{r:Res α}{a:α}(h:r.well=.ok a):r=.ok a:=by
 cases r with
 |ok b=>cases h;rfl
 |exc c=>cases h
 |bad=>cases h
theorem ra{f:PV->Res (Option PV)}{xs ys zs:List PV}{i:Nat}{x:PV}(h:bo f xs=.ok ys)(hx:xs[i]?=some x)(hz:bo f (xs.take i)=.ok zs):∃o,f x=.ok o/\bo f (xs.take (i+1))=.ok (zs++o.toList):=by
 have e:xs.take (i+1)=xs.take i++[x]:=by rw [List.take_add_one,hx];rfl
 obtain⟨ws,hw,_⟩:=lY h (i+1)
 rw [e,iu,hz] at hw;obtain⟨o,ho,hw⟩:=Res.aR (show((f x).well.bind λo=>Res.ok (zs++o.toList))=.ok ws from hw)
 refine⟨o,F6 ho,?_⟩;rw [e,iu,hz];show((f x).well.bind λo=>Res.ok (zs++o.toList))=_
 rw [ho]
 rfl
theorem sY{H0 G H:Hp}{env:Sl}{σ:St}{bq:List Nat}{ys:List Str}(kk:Nat)(sr:SR W H0 env σ G H)(hs:bq.map (λi=>N[i]?)=ys.map some)(nd:ys.Nodup):SR W H0 (List.replicate kk .no++fR env bq) (List.replicate kk none++Aq σ bq) G H:=by
 have Vv:∀(i j:Nat) (a:Nat),bq[i]?=some a->bq[j]?=some a->i=j:=λi j a h1 h2=>by
  have e1:(ys.map some)[i]?=some (N[a]?):=by rw [<-hs,zzQ,h1];rfl
  have e2:(ys.map some)[j]?=some (N[a]?):=by rw [<-hs,zzQ,h2];rfl
  rw [zzQ] at e1 e2;obtain⟨y1,g1,q1⟩:=zzJ.mp e1
  obtain⟨y2,g2,q2⟩:=zzJ.mp e2
  have:y1=y2:=Option.some.inj (q1.trans q2.symm)
  subst this;exact nq nd g1 g2
 have inner:∀(j:Nat) (s:Slot),(List.replicate kk Slot.no++fR env bq)[j]?=some s->(j<kk/\s=.no)\/∃a,kk<=j/\bq[j-kk]?=some a/\s=env.getD a .no:=λj s e=>by
  by_cases hj:j<kk
  ·rw [List.getElem?_append_left (by simpa using hj),List.getElem?_replicate,if_pos hj] at e;cases e;exact .inl ⟨hj,rfl⟩
  ·rw [List.getElem?_append_right (by simpa using hj),List.length_replicate] at e;unfold fR at e;rw [zzQ] at e;obtain⟨a,ha,rfl⟩:=zzJ.mp e
   exact .inr ⟨a,by omega,ha,rfl⟩
 have val:∀(j a:Nat),kk<=j->bq[j-kk]?=some a->(List.replicate kk none++Aq σ bq)[j]?=some ((σ[a]?).join):=λj a hj ha=>by
  rw [List.getElem?_append_right (by simpa using hj),List.length_replicate];unfold Aq;rw [zzQ,ha]
  rfl
 refine⟨by unfold fR Aq;simp,sr.sub,sr.base,λj s e=>?_,λi j p q a e1 e2 e3 e4=>?_,sr.tab,sr.nW⟩
 ·rcases inner j s e with⟨hj,rfl⟩|⟨a,hj,ha,rfl⟩
  ·exact⟨none,by rw [List.getElem?_append_left (by simpa using hj),List.getElem?_replicate,if_pos hj],trivial⟩
  ·refine⟨_,val j a hj ha,?_⟩;rw [zzK];cases e1:env[a]? with
   |none=>exact trivial
   |some s=>
    obtain⟨o,h1,h2⟩:=sr.slot a s e1
    rw [h1];exact h2
 ·rcases inner i _ e1 with⟨_,z⟩|⟨b,hi,hb,z1⟩
  ·cases z
  rcases inner j _ e2 with⟨_,z⟩|⟨c,hj,hc,z2⟩
  ·cases z
  rw [val i b hi hb] at e3;rw [val j c hj hc] at e4;have f1:env[b]?=some (.own p):=by
   rw [zzK] at z1;cases e:env[b]? with
   |none=>rw [e] at z1;cases z1
   |some s=>rw [e] at z1;exact congrArg some z1.symm
  have f2:env[c]?=some (.own q):=by
   rw [zzK] at z2;cases e:env[c]? with
   |none=>rw [e] at z2;cases z2
   |some s=>rw [e] at z2;exact congrArg some z2.symm
  have g1:σ[b]?=some (some (.ref a)):=Option.join_eq_some_iff.mp (Option.some.inj e3)
  have g2:σ[c]?=some (some (.ref a)):=Option.join_eq_some_iff.mp (Option.some.inj e4)
  have bc:=sr.apart b c p q a f1 f2 g1 g2
  subst bc;have:=Vv _ _ b hb hc
  omega
theorem jy{H0 G H:Hp}{kk:Nat}{rest au:Sl}{σ:St}{tg:Tg}{p:PV}(bZ:jv kk tg=true)(e:Tg.put tg p (List.replicate kk .no++rest)=.ok au)(r:SR W H0 au σ G H):SR W H0 (List.replicate kk .no++rest) σ G H:=by
 have key:∀(j:Nat) (s:Slot),(List.replicate kk Slot.no++rest)[j]?=some s->s≠.no->au[j]?=some s:=λj s h hs=>by
  have Im:¬j<kk:=λz=>by
   rw [List.getElem?_append_left (by simpa using z),List.getElem?_replicate,if_pos z] at h;cases h;exact hs rfl
  unfold Tg.put at e;split at e
  ·cases e;unfold jv at bZ;simp only [zzN] at bZ;rw [zzS (by omega)];exact h
  ·cases e;unfold jv at bZ;simp only [zza,zzN] at bZ;rw [zzS (by omega),zzS (by omega)];exact h
  ·cases e;unfold jv at bZ;simp only [zza,zzN] at bZ;rw [zzS (by omega),zzS (by omega),zzS (by omega)];exact h
  ·cases e;unfold jv at bZ;simp only [zza,zzN] at bZ;rw [zzS (by omega),zzS (by omega),zzS (by omega)];exact h
  ·cases e
 have hlen:(List.replicate kk Slot.no++rest).length=σ.length:=by
  rw [<-r.len];unfold Tg.put at e;split at e<;>first|(cases e;simp;done)|(cases e;done)
 refine⟨hlen,r.sub,r.base,λj s h=>?_,λi j p q a e1 e2 e3 e4=>r.apart i j p q a (key i _ e1 (λz=>nomatch z)) (key j _ e2 (λz=>nomatch z)) e3 e4,r.tab,r.nW⟩
 by_cases hs:s=.no
 ·subst hs;have:j<σ.length:=by rw [<-hlen];exact(zzH.mp h).1
  exact⟨σ[j],zzg this,trivial⟩
 ·exact r.slot j s (key j s h hs)
end
section
variable{Γ:Pg}{X:Cx}{W:Wd}{F:aO}{N:List Str}{sc:Scope}{k:Nat}
noncomputable def tN(W:Wd)(F:aO)(e:E):TE:=λσ H Q=>∃H0 G env,SR W H0 env σ G H/\∃p,aQ F e env=.ok p/\∀v G' H',aG W G H G' H'->Got W H0 G' H' e p v->Q v H'
noncomputable def Ot(W:Wd)(F:aO)(e:E):TT:=λσ H Q=>∃H0 G env,SR W H0 env σ G H/\∃b,aQ F e env=.ok (.bl b)/\∀G' H',aG W G H G' H'->Q b H'
theorem xx{e:E}(σ:St)(H:Hp)(Q:VK)(h:tN W F e σ H Q):tE X W F e σ H Q:=by
 obtain⟨H0,G,env,sr,p,e1,q⟩:=h
 exact⟨H0,G,env,sr,by rw [e1];exact q⟩
theorem BH{e:E}(σ:St)(H:Hp)(Q:Bool->Hp->Prop)(h:Ot W F e σ H Q):tT X W F e σ H Q:=by
 obtain⟨H0,G,env,sr,p,e1,q⟩:=h
 exact⟨H0,G,env,sr,by rw [e1];exact⟨p,rfl,q⟩⟩
theorem fw(C:d6 Γ F W N sc k X){scope:Scope}{kk:Nat}{bq:List Nat}{xs:List Str}(h:nv N sc scope kk bq xs)(fp:List Addr)(s1:Shared)(H1:Hp)(A:Addr):d6 Γ.CM F W (xs++freeOf scope) (dw scope sc) k (cA X (xs++freeOf scope) scope (bU X.env (freeOf scope)) fp s1 H1 A):=
 ⟨rfl,fC C.eK,rfl,h.nd,C.K,C.mg,C.gs,C.bs,C.room,λf hf=>⟨(C.fns f hf).ex⟩,C.O5,C.cls,C.xc,λq hq=>⟨(C.tZ q hq).ex⟩,C.any,(λz=>nomatch z),(λz=>nomatch z),(λz=>nomatch z)⟩
theorem K7{e:E}{p:Expr}(h:bz Γ N sc e p=true)(env:Env):∀x,foldedSetIterable p env x=pure x:=by
 intro x;cases p<;>first|rfl|(cases e<;>first|(exact aE h)|(rename_i q;cases q<;>exact aE h))
theorem i7{tg:Expr}{it:I}{p:Expr}(h:x9 Γ N sc tg it p=true)(env:Env):∀x,foldedSetIterable p env x=pure x:=by
 intro x;cases it with
 |seq e=>exact K7 h env x
 |rn e=>cases p<;>first|rfl|(exact aE h)
 |nk a b=>cases p<;>first|rfl|(exact aE h)
 |enum e=>cases p<;>first|rfl|(exact aE h)
 |zip a b=>cases p<;>first|rfl|(exact aE h)
def CW(W:Wd)(H0 G1 H1:Hp)(yi:Sl)(f:PV->Res (Option PV))(ps:List PV)(i:Nat)(ys:List V)(σ':St)(H':Hp):Prop:=
 i<=ps.length/\∃G',aG W G1 H1 G' H'/\SR W H0 yi σ' G' H'/\∃zs,bo f (ps.take i)=.ok zs/\zs.length<=i/\ai W G' zs ys
theorem wM(hK:W.K=X.K){kk:Nat}{bq:List Nat}{tg:Tg}{it:I}{elt:E}{ys:List Str}(bZ:jv kk tg=true)(dI:fY elt=true)(hs:bq.map (λi=>N[i]?)=ys.map some)(nd:ys.Nodup)(σ:St)(H:Hp)(Q:VK)(h:tF X W F (.comp kk bq tg it elt) σ H Q):
 zQ (tI X W F it) kk (gT X.K tg) (tN W F elt) bq σ H Q:=by
 obtain⟨H0,G,env,sr,o⟩:=h
 rw [aQ] at o;refine⟨H0,G,env,sr,o.bind.imp λps lF J G1 H1 g1 gi=>?_⟩
 by_cases qS:¬ps.length<df
 ·rw [if_neg qS] at lF;exact lF.elim
 have hl:=Decidable.not_not.mp qS
 rw [if_pos hl] at lF;generalize hf:(λx=>(tg.put x (List.replicate kk .no++fR env bq)).bind λau=>(aQ F elt au).bind λy=>Res.ok (some y))=f at lF
 cases hc:bo f ps with
 |bad=>rw [hc] at lF;exact lF.elim
 |exc c=>
  exfalso
  have:∀(l:List PV) (c:Str),bo f l≠.exc c:=λl=>by
   induction l with
   |nil=>intro c z;cases z
   |cons a l ih=>
    intro c z;simp only [bo] at z;rcases Res.dJ z with z|⟨o1,_,z⟩
    ·cases e:f a with
     |ok _=>rw [e] at z;cases z
     |exc _=>rw [e] at z;cases z
     |bad=>rw [e] at z;cases z
    ·rcases Res.dJ z with z|⟨o2,_,z⟩
     ·exact ih c z
     ·cases z
  exact this _ _ hc
 |ok all=>
  rw [hc] at lF;obtain⟨xs,e1,fin⟩:=lF
  cases e1;have bW:=sr.grow g1
  refine⟨ps.length,CW W H0 G1 H1 (List.replicate kk .no++fR env bq) f ps,⟨Nat.zero_le _,G1,.refl g1.sub,sY kk bW hs nd,[],rfl,zzE _,.nil⟩,?_⟩
  rintro i made σ' H' ⟨hi,G',g',sr',zs,hz,Og,l⟩
  refine⟨by rw [l.length];exact zzV (zzU Og hi) (zzW hl (by decide)),?_⟩;obtain⟨ist,igo⟩:=gi.any i G' H' g'.g g'.h g'.sub
  by_cases hlast:i=ps.length
  ·refine .inl ⟨ist hlast,λp hp=>?_⟩
   rw [hlast,List.take_length,hc] at hz;cases hz;exact fin p made G' H' (g1.trans g') hp l
  ·have nK:i<ps.length:=by omega
   obtain⟨hgo,hyld⟩:=igo ps[i] (zzg nK)
   refine .inr ⟨hgo,nK,λx me hy=>?_⟩
   obtain⟨wL,g'',rx⟩:=hyld x me hy
   obtain⟨o1,ho,hnext⟩:=ra hc (zzg nK) hz
   rw [<-hf] at ho;obtain⟨au,he',ho⟩:=Res.aR ho
   obtain⟨y,CN,ho⟩:=Res.aR ho
   cases ho;refine uv hK he' (sr'.grow g'') rx λσ2 fU=>⟨H0,wL,au,fU,y,CN,λv G3 H3 g3 t=>?_⟩
   refine⟨nK,G3,g'.trans (g''.trans g3),(jy bZ he' fU).grow g3,_,hnext,?_,?_⟩
   ·rw [zzM];show zs.length+1<=i+1;omega
   ·exact(ai.same (g''.trans g3).g zs l).append (.cons (t.rep dI) .nil)
theorem oq(hK:W.K=X.K){kk:Nat}{bq:List Nat}{tg:Tg}{it:I}{c elt:E}{ys:List Str}(bZ:jv kk tg=true)(dI:fY elt=true)(hs:bq.map (λi=>N[i]?)=ys.map some)(nd:ys.Nodup)(σ:St)(H:Hp)(Q:VK)(h:tF X W F (.cH kk bq tg it c elt) σ H Q):
 lC (tI X W F it) kk (gT X.K tg) (Ot W F c) (tN W F elt) bq σ H Q:=by
 obtain⟨H0,G,env,sr,o⟩:=h
 rw [aQ] at o;refine⟨H0,G,env,sr,o.bind.imp λps lF J G1 H1 g1 gi=>?_⟩
 by_cases qS:¬ps.length<df
 ·rw [if_neg qS] at lF;exact lF.elim
 have hl:=Decidable.not_not.mp qS
 rw [if_pos hl] at lF;generalize hf:(λx=>(tg.put x (List.replicate kk .no++fR env bq)).bind λau=>(aQ F c au).bind λt=>tY t λt=>if t then(aQ F elt au).bind λy=>Res.ok (some y) else .ok none)=f at lF
 cases hc:bo f ps with
 |bad=>rw [hc] at lF;exact lF.elim
 |exc c=>
  exfalso
  have:∀(l:List PV) (c:Str),bo f l≠.exc c:=λl=>by
   induction l with
   |nil=>intro c z;cases z
   |cons a l ih=>
    intro c z;simp only [bo] at z;rcases Res.dJ z with z|⟨o1,_,z⟩
    ·cases e:f a with
     |ok _=>rw [e] at z;cases z
     |exc _=>rw [e] at z;cases z
     |bad=>rw [e] at z;cases z
    ·rcases Res.dJ z with z|⟨o2,_,z⟩
     ·exact ih c z
     ·cases z
  exact this _ _ hc
 |ok all=>
  rw [hc] at lF;obtain⟨xs,e1,fin⟩:=lF
  cases e1;have bW:=sr.grow g1
  refine⟨ps.length,CW W H0 G1 H1 (List.replicate kk .no++fR env bq) f ps,⟨Nat.zero_le _,G1,.refl g1.sub,sY kk bW hs nd,[],rfl,zzE _,.nil⟩,?_⟩
  rintro i made σ' H' ⟨hi,G',g',sr',zs,hz,Og,l⟩
  refine⟨by rw [l.length];exact zzV (zzU Og hi) (zzW hl (by decide)),?_⟩;obtain⟨ist,igo⟩:=gi.any i G' H' g'.g g'.h g'.sub
  by_cases hlast:i=ps.length
  ·refine .inl ⟨ist hlast,λp hp=>?_⟩
   rw [hlast,List.take_length,hc] at hz;cases hz;exact fin p made G' H' (g1.trans g') hp l
  ·have nK:i<ps.length:=by omega
   obtain⟨hgo,hyld⟩:=igo ps[i] (zzg nK)
   refine .inr ⟨hgo,nK,λx me hy=>?_⟩
   obtain⟨wL,g'',rx⟩:=hyld x me hy
   obtain⟨o1,ho,hnext⟩:=ra hc (zzg nK) hz
   rw [<-hf] at ho;obtain⟨au,he',ho⟩:=Res.aR ho
   obtain⟨t,ht,ho⟩:=Res.aR ho
   obtain⟨b,rfl⟩:∃b,t=.bl b:=by
    cases t<;>first|exact⟨_,rfl⟩|(cases ho)
   refine uv hK he' (sr'.grow g'') rx λσ2 fU=>⟨H0,wL,au,fU,b,ht,λG3 H3 g3=>?_⟩
   have iG:(if b=true then(aQ F elt au).bind λy=>Res.ok (some y) else .ok none)=Res.ok o1:=ho
   cases b with
   |true=>
    rw [if_pos rfl] at iG;refine PZ ?_;obtain⟨y,CN,iG⟩:=Res.aR iG
    cases iG;refine⟨H0,G3,au,fU.grow g3,y,CN,λv G4 H4 g4 t4=>?_⟩
    refine⟨nK,G4,g'.trans (g''.trans (g3.trans g4)),(jy bZ he' fU).grow (g3.trans g4),_,hnext,?_,?_⟩
    ·rw [zzM];show zs.length+1<=i+1;omega
    ·exact(ai.same (g''.trans (g3.trans g4)).g zs l).append (.cons (t4.rep dI) .nil)
   |false=>
    rw [if_neg zzf] at iG;refine Rq ?_;cases iG;refine⟨nK,G3,g'.trans (g''.trans g3),(jy bZ he' fU).grow g3,_,hnext,?_,?_⟩
    ·rw [zzM];show zs.length+0<=i+1;omega
    ·show ai W G3 (zs++[]) made
     rw [List.append_nil];exact ai.same (g''.trans g3).g zs l
theorem xr(C:d6 Γ F W N sc k X){kk:Nat}{bq:List Nat}{tg:Tg}{it:I}{elt:E}{dn gf fg:Expr}{scope:Scope}{pos:Pos}(h:nv N sc scope kk bq (aP dn))(bZ:jv kk tg=true)(dI:fY elt=true)(hi:GI X W F dn it gf)(tZ:∀x,foldedSetIterable gf X.env x=pure x)
 (Ap:ie (aP dn++freeOf scope) (dw scope sc) (mO scope) tg dn=true) (he:∀Y,d6 Γ.CM F W (aP dn++freeOf scope) (dw scope sc) k Y->GE Y W F elt fg):GF X W F (.comp kk bq tg it elt) (.ListComp fg [⟨dn,gf,[],0⟩] scope pos):=by
 intro ae s σ H Q I hq;have J8:(freeOf scope).Nodup:=(List.nodup_append.mp h.nd).2.1
 have rd:=wM (N:=N) C.K bZ dI h.slots J8 σ H Q hq
 have:=C6 (g:=gT X.K tg) (te:=tN W F elt) (xs:=aP dn) (ys:=freeOf scope) (is:=bq) (pos:=pos) C.calm (pO C.hN C.eK I.ok h) hi
  (λfp s1 H1 A=>BF (fn:=mO scope) (X:=cA X (aP dn++freeOf scope) scope (bU X.env (freeOf scope)) fp s1 H1 A) rfl h.nd (fC C.eK) rfl (λ_ z=>z) Ap)
  (λfp s1 H1 A=>L2.PE.imp (he _ (fw C h fp s1 H1 A)) λσ H Q z=>xx σ H Q z) tZ ae s σ H Q I
 rw [h.len] at this;exact this rd
theorem oj(C:d6 Γ F W N sc k X){kk:Nat}{bq:List Nat}{tg:Tg}{it:I}{c elt:E}{dn gf pc fg:Expr}{scope:Scope}{pos:Pos}(h:nv N sc scope kk bq (aP dn))(bZ:jv kk tg=true)(dI:fY elt=true)(hi:GI X W F dn it gf)(tZ:∀x,foldedSetIterable gf X.env x=pure x)
 (Ap:ie (aP dn++freeOf scope) (dw scope sc) (mO scope) tg dn=true) (hc:∀Y,d6 Γ.CM F W (aP dn++freeOf scope) (dw scope sc) k Y->GT Y W F c pc) (he:∀Y,d6 Γ.CM F W (aP dn++freeOf scope) (dw scope sc) k Y->GE Y W F elt fg):
 GF X W F (.cH kk bq tg it c elt) (.ListComp fg [⟨dn,gf,[pc],0⟩] scope pos):=by
 intro ae s σ H Q I hq;have J8:(freeOf scope).Nodup:=(List.nodup_append.mp h.nd).2.1
 have rd:=oq (N:=N) C.K bZ dI h.slots J8 σ H Q hq
 have:=yB (g:=gT X.K tg) (tt:=Ot W F c) (te:=tN W F elt) (xs:=aP dn) (ys:=freeOf scope) (is:=bq) (pos:=pos) C.calm (pO C.hN C.eK I.ok h) hi
  (λfp s1 H1 A=>BF (fn:=mO scope) (X:=cA X (aP dn++freeOf scope) scope (bU X.env (freeOf scope)) fp s1 H1 A) rfl h.nd (fC C.eK) rfl (λ_ z=>z) Ap)
  (λfp s1 H1 A=>L2.PT.imp (hc _ (fw C h fp s1 H1 A)) λσ H Q z=>BH σ H Q z)
  (λfp s1 H1 A=>L2.PE.imp (he _ (fw C h fp s1 H1 A)) λσ H Q z=>xx σ H Q z) tZ ae s σ H Q I
 rw [h.len] at this;exact this rd
end
section
variable{W:Wd}{Z:List (Addr×Obj)}{G H:Hp}
mutual
theorem Rep.less(zs:∀b o,Z.lookup b=some o->G b=some (.bK o bT)):∀(p:PV) {v:V},Rep W G p v->Rep W (bp Z G) p v
 |.az,_,h=>by simpa only [Rep] using h
 |.bl b,_,h=>by simpa only [Rep] using h
 |.int i,_,h=>by simpa only [Rep] using h
 |.str z,_,h=>by simpa only [Rep] using h
 |.tup xs,_,h=>by
  simp only [Rep] at h⊢;obtain⟨a,vs,e,q,l⟩:=h
  refine⟨a,vs,e,?_,ai.less zs xs l⟩;rcases q with q|⟨(q|⟨o,q⟩)|q,z⟩
  ·cases y:Z.lookup a with
   |none=>exact .inl (by rw [aA y];exact q)
   |some o'=>rw [zs a o' y] at q;cases q
  ·cases y:Z.lookup a with
   |none=>exact .inl (by rw [aA y];exact q)
   |some o'=>rw [zs a o' y] at q;cases q
  ·cases y:Z.lookup a with
   |none=>exact .inr ⟨.inl (.inr ⟨o,by rw [aA y];exact q⟩),z⟩
   |some o'=>rw [zs a o' y] at q;cases q
  ·exact .inr ⟨.inr q,z⟩
 |.lst xs,_,h=>by
  simp only [Rep] at h⊢;obtain⟨a,vs,e,q,l⟩:=h
  refine⟨a,vs,e,?_,ai.less zs xs l⟩;rcases q with(q|⟨o,q⟩)|q
  ·cases y:Z.lookup a with
   |none=>exact .inl (.inl (by rw [aA y];exact q))
   |some o'=>rw [zs a o' y] at q;cases q
  ·cases y:Z.lookup a with
   |none=>exact .inl (.inr ⟨o,by rw [aA y];exact q⟩)
   |some o'=>rw [zs a o' y] at q;cases q
  ·exact .inr q
 |.exc c,_,h=>by
  simp only [Rep] at h⊢;obtain⟨a,C,e,x,m,q⟩:=h
  cases y:Z.lookup a with
  |none=>exact⟨a,C,e,x,m,by rw [aA y];exact q⟩
  |some o'=>
   rw [zs a o' y] at q;unfold Mn at q;cases q
 |.aX ks vs,_,h=>by
  simp only [Rep] at h⊢;obtain⟨a,o,us,e,n,m,l⟩:=h
  refine⟨a,o,us,e,n,?_,ai.less zs vs l⟩;cases y:Z.lookup a with
  |none=>rw [aA y];exact m
  |some o'=>rw [zs a o' y] at m;cases m
theorem ai.less(zs:∀b o,Z.lookup b=some o->G b=some (.bK o bT)):∀(ps:List PV) {vs:List V},ai W G ps vs->ai W (bp Z G) ps vs
 |[],_,h=>by simpa only [ai] using h
 |p::ps,_,h=>by
  simp only [ai] at h⊢;obtain⟨v,r,e,h1,h2⟩:=h
  exact⟨v,r,e,Rep.less zs p h1,ai.less zs ps h2⟩
end
theorem mz(t:cU W G H)(sg:aB G H)(zs:∀b o,Z.lookup b=some o->G b=some (.bK o bT))(zc:∀b o,Z.lookup b=some o->∃v,o.data=.cell v):cU W (bp Z G) (bp Z H):=λP q m=>by
 obtain⟨n,ps,e,tr,al⟩:=t P q m
 refine⟨iL n,ps,?_,tr,λpos cv y=>?_⟩
 ·cases y:Z.lookup P with
  |none=>rw [aA y];exact e
  |some o=>rw [sg _ _ (zs P o y)] at e;cases e
 ·obtain⟨c',oc,dq,t',e1,e2,e3,e4⟩:=al pos cv y
  refine⟨c',oc,dq,t',e1,?_,e3,e4⟩;cases y:Z.lookup c' with
  |none=>rw [aA y];exact e2
  |some o=>
   rw [zs c' o y] at e2;cases e2;obtain⟨v,hv⟩:=zc c' _ y
   rw [e3] at hv;cases hv
theorem aG.wz{G3 H3:Hp}(g:aG W (bp Z G) (bp Z H) G3 H3)(sg:aB G H)(zs:∀b o,Z.lookup b=some o->G b=some (.bK o bT))(zc:∀b o,Z.lookup b=some o->∃v,o.data=.cell v)(zn:∀b o,Z.lookup b=some o->H3 b=none):aG W G H (aZ Z G3) (aZ Z H3) where
 g:=λb u e=>by
  cases y:Z.lookup b with
  |none=>rw [ak y];exact g.g _ _ (by rw [aA y];exact e)
  |some o=>rw [br y];rw [zs b o y] at e;exact e
 h:=λb u e=>by
  cases y:Z.lookup b with
  |none=>rw [ak y];exact g.h _ _ (by rw [aA y];exact e)
  |some o=>
   rw [sg _ _ (zs b o y)] at e;cases e;exact .inl ⟨(λ_ z=>nomatch z),br y⟩
 sub:=λb u e=>by
  cases y:Z.lookup b with
  |none=>rw [ak y] at e⊢;exact g.sub _ _ e
  |some o=>rw [br y] at e⊢;exact e
 own:=λa h1 h3 h2=>by
  cases y:Z.lookup a with
  |none=>rw [ak y];exact g.own a (by rw [aA y];exact h1) (by rw [aA y];exact h3) (by rw [aA y];exact h2)
  |some o=>rw [zs a o y] at h2;cases h2
 tab:=λt P q m=>by
  obtain⟨n,ps,e,tr,al⟩:=g.tab (mz t sg zs zc) P q m
  refine⟨?_,ps,?_,tr,λpos cv y=>?_⟩
  ·cases y:Z.lookup P with
   |none=>rw [ak y];exact n
   |some o=>rw [zn P o y] at e;cases e
  ·cases y:Z.lookup P with
   |none=>rw [ak y];exact e
   |some o=>rw [zn P o y] at e;cases e
  ·obtain⟨c',oc,dq,t',e1,e2,e3,e4⟩:=al pos cv y
   refine⟨c',oc,dq,t',e1,?_,e3,e4⟩;cases y:Z.lookup c' with
   |none=>rw [ak y];exact e2
   |some o=>have:=g.sub _ _ e2;rw [zn c' o y] at this;cases this
theorem tR(t:cU W G H)(sg:aB G H)(zn:∀b o,Z.lookup b=some o->H b=none):cU W (aZ Z G) (aZ Z H):=λP q m=>by
 obtain⟨n,ps,e,tr,al⟩:=t P q m
 refine⟨?_,ps,?_,tr,λpos cv y=>?_⟩
 ·cases y:Z.lookup P with
  |none=>rw [ak y];exact n
  |some o=>rw [zn P o y] at e;cases e
 ·cases y:Z.lookup P with
  |none=>rw [ak y];exact e
  |some o=>rw [zn P o y] at e;cases e
 ·obtain⟨c',oc,dq,t',e1,e2,e3,e4⟩:=al pos cv y
  refine⟨c',oc,dq,t',e1,?_,e3,e4⟩;cases y:Z.lookup c' with
  |none=>rw [ak y];exact e2
  |some o=>have:=sg _ _ e2;rw [zn c' o y] at this;cases this
theorem aG.lz{G' H':Hp}(g:aG W (aZ Z G) (aZ Z H) G' H')(sg:aB G H)(zc:∀b o,Z.lookup b=some o->∃v,o.data=.cell v)(zn:∀b o,Z.lookup b=some o->H b=none):aG W G H (bp Z G') (bp Z H') where
 g:=λb u e=>by
  cases y:Z.lookup b with
  |none=>rw [aA y];exact g.g _ _ (by rw [ak y];exact e)
  |some o=>have:=sg _ _ e;rw [zn b o y] at this;cases this
 h:=λb u e=>by
  cases y:Z.lookup b with
  |none=>rw [aA y];exact g.h _ _ (by rw [ak y];exact e)
  |some o=>rw [zn b o y] at e;cases e
 sub:=λb u e=>by
  obtain⟨q,e1⟩:=er e
  rw [aA q];exact g.sub _ _ e1
 own:=λa h1 h3 h2=>by
  cases y:Z.lookup a with
  |none=>rw [aA y];exact g.own a (by rw [ak y];exact h1) (by rw [ak y];exact h3) (by rw [ak y];exact h2)
  |some o=>exact fB y
 tab:=λt=>mz (g.tab (tR t sg zn)) g.sub (λb o q=>g.g _ _ (br q)) zc
theorem yt(sg:aB G H):aB (aZ Z G) (aZ Z H):=λb u e=>by
 cases y:Z.lookup b with
 |none=>rw [ak y] at e⊢;exact sg _ _ e
 |some o=>rw [br y] at e⊢;exact e
theorem uj{G3 H3:Hp}(s:aB G3 H3)(zn:∀b o,Z.lookup b=some o->H3 b=none):aB G3 (aZ Z G3):=λb u e=>by
 cases y:Z.lookup b with
 |none=>rw [ak y];exact e
 |some o=>have:=s _ _ e;rw [zn b o y] at this;cases this
theorem sy(zs:∀b o,Z.lookup b=some o->H b=some (.bK o bT)):aZ Z (bp Z H)=H:=by
 funext b
 cases y:Z.lookup b with
 |none=>rw [ak y,aA y]
 |some o=>rw [br y,zs b o y]
theorem rf(zs:∀b o,Z.lookup b=some o->H b=none):bp Z (aZ Z H)=H:=by
 funext b
 cases y:Z.lookup b with
 |none=>rw [aA y,ak y]
 |some o=>rw [fB y,zs b o y]
theorem Bq{P:Program}{w:World}{h:Heap}(k:eJ P w H h)(zs:∀b o,Z.lookup b=some o->H b=some (.bK o bT)):eJ P w (bp Z H) h:=λb v e=>by
 obtain⟨q,e1⟩:=er e
 refine(k b v e1).ei (λc y _ r=>r) (λc r=>?_) λc xs r=>?_
 ·cases y:Z.lookup c with
  |none=>rw [aA y];exact r
  |some o=>rw [zs c o y] at r;cases r
 ·cases y:Z.lookup c with
  |none=>rw [aA y];exact r
  |some o=>rw [zs c o y] at r;cases r
theorem ye{P:Program}{w:World}{K:PySem.W.Frag}{mg:Str->Option Value}{base:Heap}{A:Around}{outer:List Env}{s:Shared}(e:i9 P w K mg base A outer s H)(zs:∀b o,Z.lookup b=some o->H b=some (.bK o bT)):i9 P w K mg base A outer s (bp Z H):=
 ⟨e.frames,e.mod,λb o q=>⟨(e.bs b o q).1,iL (e.bs b o q).2⟩,e.xU,e.gO,λb hb=>iL (e.yn b hb),Bq e.aS zs,e.bare⟩
theorem Av{ps:List Str}{scope:Scope}(h:OX ps scope=true):sJ ps (bu scope) scope:=by
 unfold OX at h;simp only [zza,beq_iff_eq,Bool.not_eq_true',zzN,zzT] at h;obtain⟨⟨⟨⟨⟨⟨h1,h2⟩,h3⟩,h4⟩,h5⟩,h6⟩,h7⟩:=h
 refine⟨h1,h2,h3,h4,h5,h6,h7,λx hx=>?_⟩
 unfold bu;rw [List.mem_reverse,List.mem_map];exact⟨(x,.free),List.mem_filter.mpr ⟨PySem.mem_of_lookup hx,rfl⟩,rfl⟩
theorem vT{params:Arguments}{ps:List Str}{qual:Str}{body:Expr}{scope:Scope}{cl:List (Str×Addr)}{pm fT ct:Value}(h:qt params=some ps)(us:List Value)(hl:us.length=ps.length):bindArgs (PySem.W.kla_fn "<lambda>" qual params body scope cl pm fT ct) ⟨us,[]⟩=pure (ps.zip us):=by
 rcases vS h with⟨rfl,rfl⟩|⟨a,rfl,rfl⟩
 ·match us,hl with
  |[],_=>rfl
 ·match us,hl with
  |[u],_=>
   simp [bindArgs,seqItems?,PySem.W.kla_fn]
   rfl
theorem Ff{params:Arguments}{ps:List Str}{env:Env}(h:qt params=some ps):defaultsOf params env=([],[]):=by
 rcases vS h with⟨rfl,rfl⟩|⟨a,rfl,rfl⟩
 ·rfl
 ·rfl
theorem oo:∀{idx:List Nat} {l qs:List PV} {us:List V},fE l idx=.ok qs->ai W G l us->∃vs:List V,ai W G qs vs/\vs.length=idx.length/\∀(j i:Nat),idx[j]?=some i->∃v,us[i]?=some v/\vs[j]?=some v
 |[],l,qs,us,h,r=>by
  unfold fE at h;cases h;exact⟨[],.nil,rfl,λj i e=>by simp at e⟩
 |i::idx,l,qs,us,h,r=>by
  unfold fE at h;obtain⟨p,hp,h⟩:=Res.aR h
  obtain⟨ps,lF,h⟩:=Res.aR h
  cases h;obtain⟨v,hv,rv⟩:=r.jW (Res.of_ok hp)
  obtain⟨vs,l1,l2,l3⟩:=oo lF r
  refine⟨v::vs,.cons rv l1,by simp [l2],λj k e=>?_⟩
  cases j with
  |zero=>simp at e;subst e;exact⟨v,hv,rfl⟩
  |succ j=>simpa using l3 j k (by simpa using e)
theorem kE{l:List PV}(c:Str):∀{idx:List Nat},fE l idx≠.exc c
 |[]=>λz=>nomatch z
 |i::idx=>λz=>by
  unfold fE at z;rcases Res.dJ z with z|⟨p,_,z⟩
  ·exact Res.aU c z
  ·rcases Res.dJ z with z|⟨ps,_,z⟩
   ·exact kE c z
   ·cases z
end
def An(idx:List Nat):TA:=λσ H Q=>∃vs:List V,vs.length=idx.length/\(∀(j i:Nat),idx[j]?=some i->∃v,σ[i]?=some (some v)/\vs[j]?=some v)/\Q vs H
theorem tO{a:Expr}{as:List Expr}{xs:List (Option Str)}(h:ff (a::as) xs=true):∃x np,a=.Name x np/\∃NV,ff as NV=true:=by
 cases xs with
 |nil=>cases a<;>exact aE h
 |cons y ys=>
  cases y with
  |none=>cases a<;>exact aE h
  |some y=>
   cases a with
   |Name x np=>exact⟨x,np,rfl,ys,(Bool.and_eq_true_iff.mp h).2⟩
   |_=>exact aE h
theorem mw{env:Env}:∀{as:List Expr} {xs:List (Option Str)} {pos:Pos},ff as xs=true->(backTo pos (starEach as env)).any (·.1)=false
 |[],_,_,_=>rfl
 |a::as,xs,pos,h=>by
  obtain⟨x,np,rfl,NV,h2⟩:=tO h
  show(false||(backTo pos (starEach as env)).any (·.1))=false
  rw [mw h2]
  rfl
theorem rP{X:Cx}(hv:∀(i:Nat) (x:Str),X.N[i]?=some x->NA X.env.scope x):∀{as:List Expr} {idx:List Nat},ff as (idx.map λi=>X.N[i]?)=true->PA X as (An idx)
 |[],[],_=>L2.PA.imp dU λσ H Q h=>by
  obtain⟨vs,h1,_,h3⟩:=h
  cases vs with
  |nil=>exact h3
  |cons _ _=>simp at h1
 |a::as,i::idx,h=>by
  rw [zzF] at h;cases e:X.N[i]? with
  |none=>rw [e] at h;cases a<;>exact aE h
  |some y=>
   rw [e] at h;cases a<;>first|(exact aE h)|skip
   rename_i x np;unfold ff at h;rw [zza,zza] at h;have Rv:=beq_iff_eq.mp h.1.1
   subst Rv;have SJ:(x==("__debug__":Str))=false/\(x==("__classdict__":Str))=false:=by
    have h2:=h.1.2
    unfold okN at h2;simp only [zza,Bool.not_eq_true'] at h2;exact⟨h2.1.1,h2.1.2⟩
   refine L2.PA.imp (cx (fK (i:=i) e (hv i x e) SJ.1 SJ.2) (rP hv h.2) rfl) λσ H Q hq=>?_
   obtain⟨vs,h1,h2,h3⟩:=hq
   cases vs with
   |nil=>simp at h1
   |cons v vs=>
    obtain⟨v',hv1,hv2⟩:=h2 0 i rfl
    simp at hv2;subst hv2;exact⟨v,hv1,vs,by simpa using h1,λj k ej=>by simpa using h2 (j+1) k (by simpa using ej),h3⟩
 |[],_::_,h=>by cases h
 |a::_,[],h=>by cases a<;>cases h
section
variable{Γ:Pg}{X:Cx}{W:Wd}{F:aO}{N:List Str}{sc:Scope}{k:Nat}
theorem vJ{g:Str}{idx:List Nat}{params:Arguments}{body:Expr}{scope:Scope}(h:ED g idx params body scope=true):∃ps a as np pos,qt params=some ps/\idx.head?=some ps.length/\body=.Call (.Name g np) (a::as) [] pos/\scope.names.lookup g=some .globalImplicit/\okN g=true/\gv g=false/\ff (a::as) (idx.tail.map λi=>(ps++bu scope)[i]?)=true/\sJ ps (bu scope) scope:=by
 obtain⟨ps,e1,h⟩:=A3 h
 obtain⟨⟨f,args,kws,pos⟩,e2,h⟩:=A3 h
 simp only [zza,beq_iff_eq,Bool.not_eq_true',zzN] at h;obtain⟨⟨⟨⟨⟨⟨⟨⟨h1,h7⟩,h8⟩,h0⟩,h2⟩,h3⟩,h4⟩,h5⟩,h6⟩:=h
 obtain⟨np,z1⟩:=cO h1
 have z7:=List.isEmpty_iff.1 h7
 try dsimp only at z1 z7
 subst z1 z7;cases args with
 |nil=>cases h8
 |cons a as=>exact⟨ps,a,as,np,pos,e1,h0,mY e2,h2,h3,h4,h5,Av h6⟩
theorem vb{a:Expr}{as:List Expr}{xs:List (Option Str)}{env:Env}(h:ff (a::as) xs=true):∃x np,a=.Name x np/\∃NV,ff as NV=true:=tO h
theorem Ep(C:d6 Γ F W N sc k X){g:Str}{idx:List Nat}{cZ as qs:List PV}{f:Addr}{ae:List (Addr×Obj)}{σ:St}{G H:Hp}{s:Shared}{Q:VK}{us:List Value}{vs:List V}
 (I:Inv X ae σ H s) (sg:aB G H) (tb:cU W G H) (cr:qg W G g idx cZ (.ref f)) (l:ai W G as vs) (r:Vals vs us) (hn:idx.head?=some as.length) (hq:fE (as++cZ) idx.tail=.ok qs)
 (o:Out X W (F g qs) σ G H λp=>dm W G H p Q):wpAny (model X.prog X.w) X.A (call (.ref f) us) (EP X ae σ Q) X.xe s:=by
 obtain⟨f',c',oc,dq,t,fJ,pm,params,body,scope,qual,cl,Z,ws,e,d⟩:=cr
 cases e;obtain⟨ps,a,as',np,pos,e1,e0,rfl,e2,e3,e4,e5,S⟩:=vJ d.lg
 have Bl:F g qs≠.bad:=λz=>by rw [z] at o;exact o
 have hlen:as.length=ps.length:=Option.some.inj (hn.symm.trans e0)
 have NU:∀b o,Z.lookup b=some o->H b=some (.bK o bT):=λb o q=>sg _ _ (d.zs b o q)
 have UL:aZ Z (bp Z H)=H:=sy NU
 have FN:vA Z (bp Z H) (eY X.stack) s.heap:=⟨λb o q=>(I.aS b _ (NU b o q)).1,λb o q=>fB q,λb o q hb=>by have:=I.lE b hb;rw [NU b o q] at this;cases this⟩
 have rl:ai W (bp Z G) (as++cZ) (vs++ws):=(ai.less d.zs as l).append d.rep
 obtain⟨ys,ry,ly,py⟩:=oo hq rl
 have tZ:Γ.fs.contains g=true:=by
  rcases C.any g qs Bl with z|z
  ·exact z
  ·rw [e4] at z;cases z
 obtain⟨fa,fd,pn,FO,hm,hk,hb,hal⟩:=(C.fns g tZ).ex
 have Vp:aB (bp Z G) (bp Z H):=pq sg
 refine wpAny_call (codeAny_mono (L2.xi (E:=λCv ao H'=>∃c,F g qs=.exc c/\XE W c G H Cv ao H') (Q:=Q) (Z:=Z) (ws:=ws) (vs:=vs) (t:=λσ' H1 Q1=>H1=bp Z H/\An idx.tail σ' H1 λzs H2=>H2=H1/\zs=ys/\∀u H3,(match F g qs with
  |.ok p=>∃G3,aG W (bp Z G) (bp Z H) G3 H3/\Rep W G3 p u
  |_=>False)->Q1 u H3) S C.room (ye I.yi NU) FN ?zb (I.aS _ _ (sg _ _ d.fo)).1 (I.aS _ _ (sg _ _ d.co)).1 d.cd d.cn (vT e1 us (by rw [<-r.length,l.length,hlen])) r (by rw [l.length,hlen]) d.len d.has d.inj d.cells ?cells ?ht ?hq) λrr s' hr=>?end_)
 case zb=>
  intro b o q;cases y:X.base.get? b with
  |none=>rfl
  |some o'=>have:=(I.bs b o' y).2;rw [NU b o q] at this;cases this
 case cells=>
  intro i y c h1 h2 v h3;obtain⟨u,o',q1,q2,q3⟩:=d.vals i y c h1 h2 v h3
  exact⟨u,q1,o',FN.at_ c o' q2,q3⟩
 case hq=>
  refine⟨rfl,ys,ly,λj i ej=>?_,rfl,rfl,λu H3 h3 zn=>?_⟩
  ·obtain⟨v,h1,h2⟩:=py j i ej
   refine⟨v,?_,h2⟩;rw [<-List.map_append,zzQ,h1]
   rfl
  ·cases z:F g qs with
   |ok p=>
    rw [z] at h3 o;obtain⟨G3,g3,r3⟩:=h3
    exact o u _ _ (g3.wz sg d.zs d.zc zn) (Rep.same (uj g3.sub zn) p r3)
   |exc c=>rw [z] at h3;exact h3.elim
   |bad=>exact absurd z Bl
 case ht=>
  intro xt s1 σ' H1 Q1 I1 h1;obtain⟨rfl,h1⟩:=h1
  obtain⟨x0,np0,rfl,NV,hrest⟩:=vb (env:=X.env) e5
  refine wpAny_Call_Name_kw (gX (X:=Gp X.prog X.w X.K X.mg X.base (ps++bu scope) qual scope f (.ref c') cl X.A X.stack s (bp Z H) _) I1 e2 hm ?_ (dQ e3).1);refine PySem.W.callWith_K (h₀:=X.base) I.ok.mod.M0 hk (bX (rP (X:=Gp X.prog X.w X.K X.mg X.base (ps++bu scope) qual scope f (.ref c') cl X.A X.stack s (bp Z H) _) (λi x hx=>?_) e5 pos xt s1 σ' _ _ I1 h1) λus2 s2 ⟨vs2,H2,I2,r2,q2⟩=>⟨I2.sI,?_⟩) rfl (mw hrest)
  ·rcases List.mem_append.mp (zzD hx) with z|z
   ·exact .inl (S.par x z)
   ·exact .inr (.inr (S.Qz x z))
  ·obtain⟨rfl,rfl,q2⟩:=q2
   refine mr (X:=Gp X.prog X.w X.K X.mg X.base (ps++bu scope) qual scope f (.ref c') cl X.A X.stack s (bp Z H) _) (q:=none) (as:=qs) (G:=bp Z G) (C.room.deeper _) FO hb (λz=>by rw [ry.length];exact hal qs z) I2 Vp (mz tb sg d.zs d.zc) ry r2 ?_;cases z:F g qs with
   |ok p=>
    rw [z] at q2;exact λv G' H' g' rp=>q2 v H' ⟨G',g',rp⟩
   |exc c=>
    intro pins3 G3 H3 s3 e s' I3 g3 x3;refine NB pins3 σ' H3 s3 e s' I3 (De.imp x3 λCv ao H' y zn=>?_);obtain⟨C4,a4,G4,y1,y2,y3,y4,y5⟩:=y
    exact⟨c,rfl,C4,a4,_,y1,y2,y3,y4,(g3.trans y5).wz sg d.zs d.zc zn⟩
   |bad=>exact absurd z Bl
 case end_=>
  rw [UL] at hr;cases rr with
  |error e=>
   have hr:d8 X.prog X.w X.stack H s (λCv ao H'=>∃c,F g qs=.exc c/\XE W c G H Cv ao H') e s':=hr
   cases z:F g qs with
   |ok q=>
    obtain⟨a,C',t,vs,H',B,rfl,Fl⟩:=hr
    obtain⟨c,e1,_⟩:=Fl.ends
    rw [z] at e1;cases e1
   |exc c=>
    rw [z] at o;refine o ae G H s e s' I (.refl sg) (De.imp hr λC1 a H' y=>?_);obtain⟨c',e1,y⟩:=y
    rw [z] at e1;cases e1;exact y
   |bad=>exact absurd z Bl
  |ok fl=>
   cases fl with
   |ret u=>exact I.after hr
   |next=>exact False.elim hr
   |brk=>exact False.elim hr
   |cont=>exact False.elim hr
end
section
variable{Γ:Pg}{X:Cx}{W:Wd}{F:aO}{N:List Str}{sc:Scope}{k:Nat}
theorem AS(C:d6 Γ F W N sc k X){i:Nat}{x:Str}{e:E}{es:Es}{p:Expr}{ps:List Expr}{np pos:Pos}(h:(N[i]?==some x&&fe sc x&&okN x)=true)(Bx:ic (.cons e es)=true)(ha:GA X W F (.cons e es) (p::ps))
 (dS:starEach (p::ps) X.env=(false,eval p X.env)::starEach ps X.env) (hpl:(backTo pos (starEach ps X.env)).any (·.1)=false):GE X W F (.ni i (.cons e es)) (.Call (.Name x np) (p::ps) [] pos):=by
 simp only [zza,beq_iff_eq] at h;obtain⟨h1,h2,h3⟩:=dQ h.2
 intro ae s σ H Q I hq;obtain⟨H0,G,env,sr,o⟩:=hq
 rw [aQ] at o;cases e1:env[i]? with
 |none=>rw [e1] at o;exact o.elim
 |some sl=>
  cases sl with
  |no=>rw [e1] at o;exact o.elim
  |val _=>rw [e1] at o;exact o.elim
  |own _=>rw [e1] at o;exact o.elim
  |fn g idx cZ=>
   rw [e1] at o;obtain⟨o2,hs,v,rfl,cr⟩:=sr.slot i _ e1
   have VL:=cr
   obtain⟨f,c',oc,dq,t,fJ,pm,params,body,scope,qual,cl,Z,ws,e2,d⟩:=VL
   subst e2;refine wpAny_Call_Name_kw (wpAny_mono (fK (i:=i) (by rw [C.hN];exact h.1.1) (qQ C h.1.2) h1 h2 ae s σ H (λv' H1=>v'=.ref f/\H1=H) I ⟨_,hs,rfl,rfl⟩) (λu s1 hu=>?_) λ_ _ y=>y)
   obtain⟨v',H1,I1,ru,rfl,rfl⟩:=hu
   cases ru;refine PySem.W.callWith_F ⟨_,_,_,_,(I1.aS _ _ (sr.sub _ _ d.fo)).1⟩ (bX (ha pos ae s1 σ H1 (λvs H2=>∃G2 as qs,aB G2 H2/\cU W G2 H2/\ai W G2 as vs/\qg W G2 g idx cZ (.ref f)/\G2 f=some (.bK (PySem.W.kla_obj "<lambda>" qual params body scope cl pm c' fJ) bT)/\idx.head?=some as.length/\fE (as++cZ) idx.tail=.ok qs/\Out X W (F g qs) σ G2 H2 λp=>dm W G2 H2 p Q) I1 ?_) λus s2 ⟨vs,H2,I2,r,q⟩=>?_) dS hpl
   ·refine args sr o λas vs G1 H2 g1 t1 bW o1=>?_
    split at o1
    ·rename_i hn;cases hq:fE (as++cZ) idx.tail with
     |ok qs=>
      rw [hq] at o1;have tP:Out X W (F g qs) σ G1 H2 _:=o1
      exact⟨G1,as,qs,bW.sub,bW.tab,t1.rep Bx,cr.same g1.g,g1.g _ _ d.fo,hn,hq,tP.imp λp hp v G' H' g' rp=>hp v G' H' (g1.trans g') (.of rp)⟩
     |exc c=>exact absurd hq (kE c)
     |bad=>rw [hq] at o1;exact o1.elim
    ·exact o1.elim
   ·obtain⟨G2,as,qs,sg,tb,l,cr2,fo2,hn,hqs,o2⟩:=q
    exact⟨⟨_,_,_,_,(I2.aS _ _ (sg _ _ fo2)).1⟩,Ep C I2 sg tb cr2 l r hn hqs o2⟩
def qM(X:Cx)(W:Wd)(params:Arguments)(body:Expr)(scope:Scope)(cl:List (Str×Addr))(G1 H1 G2 H2:Hp)(f:Addr):Prop:=aG W G1 H1 G2 H2/\∃c' oc dq t fJ pm,G2 f=some (.bK (PySem.W.kla_obj "<lambda>" (X.env.qual++"<lambda>") params body scope cl pm c' fJ) bT)/\G2 c'=some (.bK oc bT)/\oc.data=.fields dq/\dq[1]?=some (.str (X.env.qual++"<lambda>") t)
theorem Ba(C:d6 Γ F W N sc k X)(hl:Γ.hl=true){params:Arguments}{ps:List Str}{body:Expr}{scope:Scope}{pos:Pos}{cl:List (Str×Addr)}(hp:qt params=some ps)(Hk:closureFor scope X.env=pure cl):
 PE X (.Lambda params body scope pos) (λσ H Q=>∃G,aB G H/\cU W G H/\∀f G2 H2,qM X W params body scope cl G H G2 H2 f->Q (.ref f) H2):=by
 intro ae s σ H Q I h;obtain⟨G,sg,tb,q⟩:=h
 obtain⟨c,P,vN,CH,hts,huq⟩:=C.tb hl
 obtain⟨nG,mW,hP,tr,al⟩:=tb P _ hts
 refine L2.Cb (R:=λc' oc=>G c'=some (.bK oc bT)) I hP tr vN CH (C.bm hl) Hk (Ff hp) (λcv e=>?_) λf c' oc dq t fJ q8 h' tk hf hc CO VI UQ hd hv Vx Vz more I'=>?_
 ·obtain⟨c',oc,dq,t,e1,e2,e3,e4⟩:=al pos cv e
  exact⟨c',oc,dq,t,e1,sg _ _ e2,e2,e3,e4⟩
 ·have VQ:G f=none:=sg.free hf
  have Vq:G c'=none\/G c'=some (.bK oc bT):=by
   rcases hc with z|z
   ·exact .inl (sg.free z)
   ·exact .inr z.2
  have fo:∀fo,gH H P q8 c' oc f fo f=some (.bK fo bT):=λfo=>by unfold gH;rw [aq]
  have sG:∀fo,aB G (upd (upd G c' (.bK oc bT)) f (.bK fo bT)):=λfo b u e=>by
   have Gb:b≠f:=λz=>by rw [z,VQ] at e;cases e
   rw [af Gb]
   by_cases hb:b=c'
   ·subst hb;rw [aq];rcases Vq with z|z
    ·rw [z] at e;cases e
    ·rw [z] at e;exact e
   ·rw [af hb];exact e
  have QL:∀fo a,H a≠none->(∀vs,H a≠some (.tup vs))->G a=none->(upd (upd G c' (.bK oc bT)) f (.bK fo bT)) a=none:=λfo a h1 _ h2=>by
   have VN:a≠f:=λz=>h1 (by rw [z];exact hf)
   rw [af VN]
   by_cases ha:a=c'
   ·subst ha;rcases hc with z|z
    ·exact absurd z h1
    ·rw [z.2] at h2;cases h2
   ·rw [af ha];exact h2
  refine⟨.ref f,_,I',rfl,q f (upd (upd G c' (.bK oc bT)) f (.bK _ bT)) _ ⟨⟨sG _,λb u e=>?_,λb u e=>?_,QL _,λ_ P' q' m=>?_⟩,c',oc,dq,t,fJ,(X.mg "__name__").getD .none,aq,by rw [af CO,aq],hd,hv⟩⟩
  ·have Gb:b≠f:=λz=>by rw [z,hf] at e;cases e
   by_cases LS:b=P
   ·subst LS;rw [hP] at e;cases e;obtain⟨m,rfl⟩:=more
    exact .inr ⟨mW,m,rfl,by unfold gH;rw [af (Ne.symm VI),af (Ne.symm UQ),aq]⟩
   ·have e2:gH H P q8 c' oc f (PySem.W.kla_obj "<lambda>" (X.env.qual++"<lambda>") params body scope cl ((X.mg "__name__").getD .none) c' fJ) b=H b:=by
     unfold gH;rw [af Gb]
     by_cases hb:b=c'
     ·subst hb;rw [aq];rcases hc with z|z
      ·rw [z] at e;cases e
      ·rw [z.1]
     ·rw [af hb,af LS]
    rw [e2];exact hJ.refl H b u e
  ·by_cases Gb:b=f
   ·subst Gb;rw [aq] at e;rw [fo];exact e
   ·rw [af Gb] at e;unfold gH;rw [af Gb]
    by_cases hb:b=c'
    ·subst hb;rw [aq] at e⊢;exact e
    ·rw [af hb] at e⊢;have LS:b≠P:=λz=>by rw [z,nG] at e;cases e
     rw [af LS];exact sg _ _ e
  ·obtain⟨n1,qs,zv,tr1,al1⟩:=tb P' q' m
   have N4:P'≠f:=λz=>by rw [z,hf] at zv;cases zv
   have gW:P'≠c':=λz=>by
    rcases hc with y|y
    ·rw [z,y] at zv;cases zv
    ·rw [z,y.1] at zv;cases zv
   refine⟨by rw [af N4,af gW];exact n1,?_⟩
   by_cases hPP:P'=P
   ·subst hPP;rw [hP] at zv;cases zv;refine⟨q8,by unfold gH;rw [af N4,af gW,aq],Vx,λpos' cv y=>?_⟩
    rcases Vz pos' cv y with y|y
    ·obtain⟨c2,oc2,cvs2,t2,e1,e2,e3,e4⟩:=al1 pos' cv y
     exact⟨c2,oc2,cvs2,t2,e1,sG _ _ _ e2,e3,e4⟩
    ·exact⟨c',oc,dq,t,y,by rw [af CO,aq],hd,by rw [huq q' m];exact hv⟩
   ·refine⟨qs,by unfold gH;rw [af N4,af gW,af hPP];exact zv,tr1,λpos' cv y=>?_⟩
    obtain⟨c2,oc2,cvs2,t2,e1,e2,e3,e4⟩:=al1 pos' cv y
    exact⟨c2,oc2,cvs2,t2,e1,sG _ _ _ e2,e3,e4⟩
end
section
variable{Γ:Pg}{X:Cx}{W:Wd}{F:aO}{N:List Str}{sc:Scope}{k:Nat}
structure AF(N:List Str)(sc:Scope)(g:Str)(idx bq:List Nat)(params:Arguments)(body:Expr)(scope:Scope):Prop where
 lb:ED g idx params body scope=true
 cn:bq.map (λi=>N[i]?)=(bu scope).map some
 cc:∀y∈bu scope,sc.names.lookup y=some .cell
noncomputable def M7(X:Cx)(W:Wd)(F:aO)(N:List Str)(sc:Scope)(g:Str)(idx bq:List Nat)(es:Es):TA:=λσ H Q=>∃H0 G env,SR W H0 env σ G H/\Out X W (da F es env) σ G H λas=>∀vs G1 H1,aG W G H G1 H1->ai W G1 as vs->∀params body scope f G2 H2,AF N sc g idx bq params body scope->qM X W params body scope (bU X.env (bu scope)) G1 H1 G2 H2 f->Q (vs++[.ref f]) H2
theorem zC(C:d6 Γ F W N sc k X)(ok:X.Ok){g:Str}{idx bq:List Nat}{params:Arguments}{body:Expr}{scope:Scope}(a:AF N sc g idx bq params body scope):closureFor scope X.env=pure (bU X.env (bu scope)):=by
 refine iD λy hy hf=>ok.has y.1 (.inl ?_)
 show X.env.scope.names.lookup y.1=_
 rw [C.eK];refine a.cc y.1 ?_;unfold bu;rw [List.mem_reverse,List.mem_map];exact⟨y,List.mem_filter.mpr ⟨hy,by rw [hf];rfl⟩,rfl⟩
theorem DG(C:d6 Γ F W N sc k X)(hl:Γ.hl=true){g:Str}{idx bq:List Nat}{params:Arguments}{body:Expr}{scope:Scope}{pos:Pos}(a:AF N sc g idx bq params body scope):PA X [.Lambda params body scope pos] (M7 X W F N sc g idx bq .nil):=by
 obtain⟨ps,_,_,_,_,e1,_⟩:=vJ a.lb
 intro pos' ae s σ H Q I h;refine cx (Ba C hl e1 (zC C I.ok a)) dU rfl pos' ae s σ H Q I ?_;obtain⟨H0,G,env,sr,o⟩:=h
 rw [da] at o;refine⟨G,sr.sub,sr.tab,λf G2 H2 m=>?_⟩
 exact o [] G H (.refl sr.sub) .nil params body scope f G2 H2 a m
theorem AD{g:Str}{idx bq:List Nat}{e:E}{es:Es}{p:Expr}{ps:List Expr}(Bx:ic (.cons e es)=true)(he:GE X W F e p)(hs:PA X ps (M7 X W F N sc g idx bq es))(dS:starEach (p::ps) X.env=(false,eval p X.env)::starEach ps X.env):PA X (p::ps) (M7 X W F N sc g idx bq (.cons e es)):=
 L2.PA.imp (cx he hs dS) λσ H Q h=>by
  obtain⟨H0,G,env,sr,o⟩:=h
  rw [da] at o;unfold ic at Bx;rw [zza] at Bx;refine one sr o λq v G1 H1 g1 t1 bW o1=>⟨H0,G1,env,bW,o1.bind.imp λas ha vs G2 H2 g2 l=>?_⟩
  intro params body scope f G3 H3 la lm;have:=ha (v::vs) G2 H2 (g1.trans g2) (.cons (Rep.same g2.g q (t1.rep Bx.1)) l) params body scope f G3 H3 la lm
  simpa using this
theorem lookup_all{Z:List (Addr×Obj)}{h:Heap}(ha:∀q∈Z,h.get? q.1=some q.2):∀{c:Addr} {o:Obj},(c,o)∈Z->Z.lookup c=some o:=by
 induction Z with
 |nil=>intro c o m;cases m
 |cons q Z ih=>
  intro c o m;obtain⟨c1,o1⟩:=q
  rw [List.lookup_cons];cases e:c==c1 with
  |true=>
   have e2:=beq_iff_eq.mp e
   subst e2;have h1:=ha (c,o1) zzP
   have h2:h.get? c=some o:=ha (c,o) m
   rw [h1] at h2;exact h2
  |false=>
   rcases List.mem_cons.mp m with z|z
   ·cases z;simp at e
   ·exact ih (λq hq=>ha q (zzI _ hq)) z
theorem rQ{H0 G H:Hp}{env:Sl}{σ:St}(sr:SR W H0 env σ G H):∀{bq:List Nat} {cs:List PV},kK env bq=.ok cs->∃ws:List V,ai W G cs ws/\ws.length=bq.length/\∀(j:Nat) (i:Nat),bq[j]?=some i->∃v,ws[j]?=some v/\σ[i]?=some (some v)
 |[],cs,h=>by
  unfold kK at h;cases h;exact⟨[],.nil,rfl,λj i e=>by simp at e⟩
 |i::bq,cs,h=>by
  unfold kK at h;obtain⟨p,hp,h⟩:=Res.aR h
  obtain⟨ps,lF,h⟩:=Res.aR h
  cases h;have hs:env[i]?=some (.val p):=by
   cases e:env[i]? with
   |none=>rw [e] at hp;cases hp
   |some s=>rw [e] at hp;cases s<;>cases hp;rfl
  obtain⟨o,h1,v,rfl,rv⟩:=sr.slot i _ hs
  obtain⟨ws,l1,l2,l3⟩:=rQ sr lF
  refine⟨v::ws,.cons rv l1,by simp [l2],λj k e=>?_⟩
  cases j with
  |zero=>simp at e;subst e;exact⟨v,rfl,h1⟩
  |succ j=>simpa using l3 j k (by simpa using e)
theorem nh{env:Sl}(c:Str):∀{bq:List Nat},kK env bq≠.exc c
 |[]=>λz=>nomatch z
 |i::bq=>λz=>by
  unfold kK at z;rcases Res.dJ z with z|⟨p,_,z⟩
  ·cases e:env[i]? with
   |none=>rw [e] at z;cases z
   |some s=>rw [e] at z;cases s<;>cases z
  ·rcases Res.dJ z with z|⟨ps,_,z⟩
   ·exact nh c z
   ·cases z
theorem ym(C:d6 Γ F W N sc k X)(hl:Γ.hl=true){q:Hs}{bq:List Nat}{fa:Addr}{fd:FuncData}{pn:List Str}(FO:gq X.prog X.w X.K X.mg X.base (d8 X.prog X.w) k fa fd pn (zm W F q.f pn.length (some (q.g,q.idx))))(hb:Binds X.K fd pn []){ae:List (Addr×Obj)}{σ:St}{H0 G H:Hp}{env:Sl}{s:Shared}{Q:VK}{us:List Value}{vs:List V}{as cs:List PV}{params:Arguments}{body:Expr}{scope:Scope}{f c':Addr}{oc:Obj}{dq:Array Value}{t:Tok}{fJ pm:Value}
 (I:Inv X ae σ H s) (sr:SR W H0 env σ G H) (a:AF N sc q.g q.idx bq params body scope) (P4:kK env bq=.ok cs) (l:ai W G as vs) (fo:G f=some (.bK (PySem.W.kla_obj "<lambda>" (X.env.qual++"<lambda>") params body scope (bU X.env (bu scope)) pm c' fJ) bT)) (co:G c'=some (.bK oc bT)) (cd:oc.data=.fields dq) (cn:dq[1]?=some (.str (X.env.qual++"<lambda>") t))
 (hlen:(vs++[V.ref f]).length=pn.length) (r:Vals (vs++[.ref f]) us) (o:Out X W (F q.f (as++cs)) σ G H λp=>dm W G H p Q):wpAny (model X.prog X.w) X.A (call (.ref fa) us) (EP X ae σ Q) X.xe s:=by
 have Bl:F q.f (as++cs)≠.bad:=λz=>by rw [z] at o;exact o
 obtain⟨ws,rws,lws,pws⟩:=rQ sr P4
 have eo:∀y∈bu scope,∃c,X.env.cells.lookup y=some c:=λy hy=>I.ok.has y (.inl (by show X.env.scope.names.lookup y=_;rw [C.eK];exact a.cc y hy))
 have call:((bu scope).all λy=>(X.env.cells.lookup y).isSome)=true:=zzT.mpr λy hy=>by obtain⟨c,e⟩:=eo y hy;rw [e];rfl
 let Z:List (Addr×Obj):=(bu scope).filterMap λy=>(X.env.cells.lookup y).bind λc=>(s.heap.get? c).map λo=>(c,o)
 have M9:∀q∈Z,∃y,y∈bu scope/\X.env.cells.lookup y=some q.1/\s.heap.get? q.1=some q.2:=λq hq=>by
  obtain⟨y,hy,e⟩:=List.mem_filterMap.mp hq
  obtain⟨c,hc,e⟩:=zzZ.mp e
  obtain⟨o,ho,rfl⟩:=zzJ.mp e
  exact⟨y,hy,hc,ho⟩
 have RJ:∀q∈Z,s.heap.get? q.1=some q.2:=λq hq=>let⟨_,_,_,h⟩:=M9 q hq;h
 have RY:∀y c o,y∈bu scope->X.env.cells.lookup y=some c->s.heap.get? c=some o->Z.lookup c=some o:=λy c o hy hc ho=>lookup_all RJ (List.mem_filterMap.mpr ⟨y,hy,by rw [hc];show(s.heap.get? c).map _=_;rw [ho];rfl⟩)
 have Mj:∀b o,Z.lookup b=some o->∃y,y∈bu scope/\X.env.cells.lookup y=some b/\s.heap.get? b=some o:=λb o e=>by
  obtain⟨y,h1,h2,h3⟩:=M9 (b,o) (PySem.W.mem_of_lookupK e)
  exact⟨y,h1,h2,h3⟩
 have zc:∀b o,Z.lookup b=some o->∃v,o.data=.cell v:=λb o e=>by
  obtain⟨y,_,h2,h3⟩:=Mj b o e
  obtain⟨v,o',h4,h5⟩:=I.cell y b h2
  rw [h3] at h4;cases h4;exact⟨v,h5⟩
 have My:∀b o,Z.lookup b=some o->H b=none:=λb o e=>by obtain⟨y,_,h2,_⟩:=Mj b o e;exact I.iq y b h2
 have Ue:∀b o,Z.lookup b=some o->G b=none:=λb o e=>sr.sub.free (My b o e)
 have rh:∀b u,G b=some u->Z.lookup b=none:=λb u e=>by
  cases y:Z.lookup b with
  |none=>rfl
  |some o=>rw [Ue b o y] at e;cases e
 have MD:∀x c,(bU X.env (bu scope)).lookup x=some c->X.env.cells.lookup x=some c:=eR call
 have Qr:∀x c,(bU X.env (bu scope)).lookup x=some c->x∈bu scope:=λx c e=>by
  have:=PySem.mem_of_lookup e
  unfold bU at this;obtain⟨y,hy,e2⟩:=List.mem_map.mp this
  cases e2;exact hy
 have S4:∀b o,Z.lookup b=some o->X.s₀.heap.objs.size<=b:=λb o e=>by
  obtain⟨y,_,h2,_⟩:=Mj b o e
  exact I.ok.LX y b (C.fl hl y) h2
 have FN:vA Z H (eY X.stack) s.heap:=⟨λb o e=>let⟨_,_,_,h⟩:=Mj b o e;h,My,λb o e QC=>by
  obtain⟨y,_,h2,h3⟩:=Mj b o e
  rcases List.mem_cons.mp (I.iA b QC) with z|z
  ·exact I.Ef y b h2 z
  ·obtain⟨_,o',h4,_⟩:=I.ok.gO.mem z
   exact absurd (zzO h4) (Nat.not_lt.mpr (S4 b o e))⟩
 have zb:∀b o,Z.lookup b=some o->X.base.get? b=none:=λb o e=>by
  cases y:X.base.get? b with
  |none=>rfl
  |some o'=>exact absurd (zzO (I.ok.bs b o' y).1) (Nat.not_lt.mpr (S4 b o e))
 have VG:(bu scope).length=bq.length:=by have:=congrArg List.length a.cn;simpa using this.symm
 have cr:qg W (aZ Z G) q.g q.idx cs (.ref f):=by
  refine⟨f,c',oc,dq,t,fJ,pm,params,body,scope,_,bU X.env (bu scope),Z,ws,rfl,⟨a.lb,by rw [ak (rh f _ fo)];exact fo,by rw [ak (rh c' _ co)];exact co,cd,cn,rh f _ fo,rh c' _ co,λx y c h1 h2=>I.ok.inj x y c (MD x c h1) (MD y c h2),λy hy=>jb hy,λx c h=>?_,λb o e=>br e,zc,λi y c h1 h2 v h3=>?_,by rw [lws,VG],by rw [rf Ue];exact rws⟩⟩
  ·obtain⟨v,o,h1,h2⟩:=I.cell x c (MD x c h)
   exact⟨o,v,RY x c o (Qr x c h) (MD x c h) h1,h2⟩
  ·have hi:i<bq.length:=by rw [<-lws];exact(zzH.mp h3).1
   obtain⟨v',q1,q2⟩:=pws i bq[i] (zzg hi)
   rw [h3] at q1;cases q1;have VH:X.N[bq[i]]?=some y:=by
    rw [C.hN];have:=congrArg (λl=>l[i]?) a.cn
    simp only [zzQ,h1,zzg hi,Option.map_some] at this;exact Option.some.inj this
   obtain⟨m,_,hloc⟩:=I.loc
   obtain⟨u,ru,lk⟩:=hloc bq[i] y v VH q2 (.inr (.inl (by rw [C.eK];exact a.cc y (zzD h1))))
   have TN:=MD y c h2
   rcases lk with⟨z,_⟩|⟨_,c2,hc2,o,ho,hd⟩
   ·have z2:X.env.scope.names.lookup y=some .local:=z
    rw [C.eK,a.cc y (zzD h1)] at z2;cases z2
   ·rw [TN] at hc2;cases hc2;exact⟨u,o,ru,RY y c o (zzD h1) TN ho,hd⟩
 have PD:us.length=pn.length:=by rw [<-r.length];exact hlen
 have iR:=hb s us I.sI (by rw [List.append_nil];exact PD)
 rw [List.append_nil] at iR;have Vk:ai W (aZ Z G) as vs:=ai.same (λb u e=>by rw [ak (rh b u e)];exact e) as l
 have VP:∀G' H',aG W (aZ Z G) (aZ Z H) G' H'->∀b o,Z.lookup b=some o->G' b=some (.bK o bT):=λG' H' g b o e=>g.g _ _ (br e)
 refine wpAny_call (codeAny_mono (FO.run X.A X.stack s (aZ Z H) ⟨us,[]⟩ us _ (λv H'=>Q v (bp Z H')) (λCv ao H'=>∃c,F q.f (as++cs)=.exc c/\XE W c G H Cv ao (bp Z H')) C.rm (I.yi.aZ FN zb) iR r ⟨hlen,aZ Z G,as++cs,yt sr.sub,tR sr.tab sr.sub My,⟨as,cs,vs,.ref f,rfl,rfl,Vk,cr⟩,?_⟩) λrr s' hr=>?_)
 ·cases z:F q.f (as++cs) with
  |ok p=>
   rw [z] at o;exact λv G' H' g' rp=>o v _ _ (g'.lz sr.sub zc My) (Rep.less (VP G' H' g') p rp)
  |exc c=>
   intro Cv ao H' y;obtain⟨C4,a4,G4,y1,y2,y3,y4,y5⟩:=y
   exact⟨c,rfl,C4,a4,_,y1,y2,y3,y4,y5.lz sr.sub zc My⟩
  |bad=>exact absurd z Bl
 ·cases rr with
  |error e=>
   have hr:d8 X.prog X.w X.stack H s (λCv ao H'=>∃c,F q.f (as++cs)=.exc c/\XE W c G H Cv ao H') e s':=d8.less FN hr
   cases z:F q.f (as++cs) with
   |ok q=>
    obtain⟨a,C',t,vs,H',B,rfl,Fl⟩:=hr
    obtain⟨c,e1,_⟩:=Fl.ends
    rw [z] at e1;cases e1
   |exc c=>
    rw [z] at o;refine o ae G H s e s' I (.refl sr.sub) (De.imp hr λC1 a H' y=>?_);obtain⟨c',e1,y⟩:=y
    rw [z] at e1;cases e1;exact y
   |bad=>exact absurd z Bl
  |ok fl=>
   cases fl with
   |ret u=>exact I.after (CE.less FN hr)
   |next=>exact False.elim hr
   |brk=>exact False.elim hr
   |cont=>exact False.elim hr
theorem zS(C:d6 Γ F W N sc k X)(hl:Γ.hl=true){q:Hs}(hq:q∈Γ.hs){bq:List Nat}{es:Es}{p:Expr}{ps:List Expr}{np pos:Pos}(hg:iM sc q.h=true)(ho:okN q.h=true)(hn:q.np=jd es+1)(ha:PA X (p::ps) (M7 X W F N sc q.g q.idx bq es))
 (dS:starEach (p::ps) X.env=(false,eval p X.env)::starEach ps X.env) (hpl:(backTo pos (starEach ps X.env)).any (·.1)=false):GE X W F (.tV q.f es q.g q.idx bq) (.Call (.Name q.h np) (p::ps) [] pos):=by
 intro ae s σ H Q I h;obtain⟨H0,G,env,sr,o⟩:=h
 rw [aQ] at o;obtain⟨fa,fd,pn,FO,hm,hk,hb,hpn⟩:=(C.tZ q hq).ex
 refine wpAny_Call_Name_kw (gX I (fv C hg) hm ?_ (dQ ho).1);refine PySem.W.callWith_K (h₀:=X.base) I.ok.mod.M0 hk (bX (ha pos ae s σ H (λvs H2=>∃G2 as cs wA params body scope f c' oc dq t fJ pm,vs=wA++[.ref f]/\as.length=jd es/\SR W H0 env σ G2 H2/\AF N sc q.g q.idx bq params body scope/\kK env bq=.ok cs/\ai W G2 as wA/\G2 f=some (.bK (PySem.W.kla_obj "<lambda>" (X.env.qual++"<lambda>") params body scope (bU X.env (bu scope)) pm c' fJ) bT)/\G2 c'=some (.bK oc bT)/\oc.data=.fields dq/\dq[1]?=some (.str (X.env.qual++"<lambda>") t)/\Out X W (F q.f (as++cs)) σ G2 H2 λp=>dm W G2 H2 p Q) I ?_) λus s1 ⟨vs,H1,I1,r,y⟩=>⟨I1.sI,?_⟩) dS hpl
 ·refine⟨H0,G,env,sr,?_⟩;cases e1:da F es env with
  |bad=>rw [e1] at o;exact o
  |exc c=>rw [e1] at o;exact o
  |ok as=>
   rw [e1] at o;have o:Out X W ((kK env bq).bind λcs=>F q.f (as++cs)) σ G H _:=o
   cases e2:kK env bq with
   |bad=>rw [e2] at o;exact o.elim
   |exc c=>exact absurd e2 (nh c)
   |ok cs=>
    rw [e2] at o;have o:Out X W (F q.f (as++cs)) σ G H _:=o
    intro vs G1 H1 g1 l params body scope f G2 H2 la lm;obtain⟨g2,c',oc,dq,t,fJ,pm,m1,m2,m3,m4⟩:=lm
    exact⟨G2,as,cs,vs,params,body,scope,f,c',oc,dq,t,fJ,pm,rfl,iX e1,(sr.grow g1).grow g2,la,rfl,ai.same g2.g as l,m1,m2,m3,m4,(o.grow (g1.trans g2)).imp λp hp v G' H' g' rp=>hp v G' H' ((g1.trans g2).trans g') (.of rp)⟩
 ·obtain⟨G2,as,cs,wA,params,body,scope,f,c',oc,dq,t,fJ,pm,rfl,hal,fU,la,hcs,l,m1,m2,m3,m4,o2⟩:=y
  exact ym C hl FO hb I1 fU la hcs l m1 m2 m3 m4 (by rw [zzM,l.length,hal,hpn,hn];rfl) r o2
end
end Ci
namespace L2
open PySem PySem.Spec PyProof.Rows
end L2
namespace Ci
open PySem L2
section
variable{Γ:Pg}{X:Cx}{W:Wd}{F:aO}{N:List Str}{sc:Scope}{k:Nat}
theorem xM{G:Hp}{p:PV}{v:V}(h:Rep W G p v):∀{ps:List PV} {vs:List V},ai W G ps vs->ai W G (ps++[p]) (vs++[v]):=by
 intro ps
 induction ps with
 |nil=>
  intro vs t;have:=t.length
  cases vs with
  |nil=>exact .cons h .nil
  |cons _ _=>cases this
 |cons q ps ih=>
  intro vs t;obtain⟨u,r,rfl,h1,t⟩:=t.aW
  exact .cons h1 (ih t)
theorem sE{G:Hp}:∀{ps:List PV} {vs:List V},ai W G ps vs->ai W G ps.reverse vs.reverse:=by
 intro ps
 induction ps with
 |nil=>
  intro vs t;have:=t.length
  cases vs with
  |nil=>exact .nil
  |cons _ _=>cases this
 |cons q ps ih=>
  intro vs t;obtain⟨u,r,rfl,h1,t⟩:=t.aW
  rw [List.reverse_cons,List.reverse_cons];exact xM h1 (ih t)
theorem JU(C:d6 Γ F W N sc k X){a:E}{pa st:Expr}{p2 pos:Pos}(ha:GE X W F a pa)(hs:GE X W F (.neg (.cst (.int 1))) st):GE X W F (.rev a) (.Subscript pa (.Slice none none (some st) p2) pos):=
 (Hx (CS.or (CS.or IA J9) Jm) ha hs).imp λσ H Q h=>by
  obtain⟨H0,G,env,sr,o⟩:=h
  rw [aQ] at o;refine one sr o λp v G1 H1 g t bW o1=>⟨H0,G1,env,bW,?_⟩
  have e:aQ F (.neg (.cst (.int 1))) env=.ok (.int (-1)):=by rw [aQ,aQ];rfl
  rw [e];intro v2 G2 H2 g2 t2;refine⟨t2.top.int,?_⟩;have t3:=t.grow g2
  cases p with
  |str z=>
   by_cases hl:z.length<=df
   ·have o2:Out X W (if z.length<=df then Res.ok (PV.str (qy z)) else .bad) σ G1 H1 _:=o1
    rw [if_pos hl] at o2;exact .inr ⟨z,t3.top.str,iI hl,o2 _ G2 H2 (g.trans g2) (.of .s)⟩
   ·have o2:Out X W (if z.length<=df then Res.ok (PV.str (qy z)) else .bad) σ G1 H1 _:=o1
    rw [if_neg hl] at o2;exact o2.elim
  |tup xs=>
   obtain⟨l,vs,rfl,h1,l1⟩:=t3.top.tup g2.sub
   rw [C.K] at h1;exact .inl (.inl ⟨l,vs,rfl,h1,λp hp=>dm.tup (W:=W) (G:=G2) (H:=H2) (xs:=xs.reverse) (λw G' H' g' ij=>o1 w G' H' ((g.trans g2).trans g') (.of ij)) g2.sub (sE l1) hp⟩)
  |lst xs=>
   obtain⟨l,vs,rfl,h1,l1⟩:=t3.top.lst g2.sub
   exact .inl (.inr ⟨l,vs,rfl,dR C.K h1,λp hp=>dm.lst (W:=W) (G:=G2) (H:=H2) (xs:=xs.reverse) (λw G' H' g' ij=>o1 w G' H' ((g.trans g2).trans g') (.of ij)) g2.sub (sE l1) hp⟩)
  |_=>exact False.elim o1
end
section
variable{Γ:Pg}{W:Wd}{F:aO}{k:Nat}
theorem IU{X:Cx}{e:E}{p:Expr}(h:GE X W F e p)(he:∀whole,isTrue p X.env whole=(do let v<-whole;standAt p.pos;holding [v] (truthy v))):GT X W F e p:=
 L2.PT.imp (Iq h he) λσ H Q hq=>GV σ H Q hq
structure TK(X:Cx)(W:Wd)(F:aO)(e:E)(p:Expr):Prop where
 ge:GE X W F e p
 gt:fZ e=true->GT X W F e p
 gw:fZ e=true->∀op vs pos,p=.BoolOp op vs pos->GW X W F e p
theorem bP{X:Cx}{e:E}{p:Expr}(h:GE X W F e p)(he:∀whole,isTrue p X.env whole=(do let v<-whole;standAt p.pos;holding [v] (truthy v)))(hb:∀op vs pos,p≠.BoolOp op vs pos):TK X W F e p:=
 ⟨h,λ_=>IU h he,λ_ op vs pos e=>absurd e (hb op vs pos)⟩
theorem isTrue_plain{p:Expr}{env:Env}(h:(match p with|.UnaryOp .Not _ _=>false|.BoolOp .. =>false|.IfExp .. =>false|.Compare .. =>false|_=>true)=true):∀whole,isTrue p env whole=(do let v<-whole;standAt p.pos;holding [v] (truthy v)):=by
 intro whole;cases p with
 |UnaryOp op a pos=>cases op<;>first|rfl|(exact aE h)
 |BoolOp _ _ _=>exact aE h
 |IfExp _ _ _ _=>exact aE h
 |Compare _ _ _ _=>exact aE h
 |_=>rfl
theorem kD{N:List Str}{sc:Scope}{g:Str}{idx bq:List Nat}:∀{es:Es} {ps:List Expr},xw Γ N sc g idx bq es ps=true->∀env pos,(backTo pos (starEach ps env)).any (·.1)=false
 |.cons e es,p::ps,h,env,pos=>by
  replace h:=aC h
  rw [notStar h.1];show(false||(backTo pos (starEach ps env)).any (·.1))=false
  rw [kD h.2]
  rfl
 |.nil,ps,h,env,pos=>by
  obtain⟨p,e1,h⟩:=aj h
  obtain⟨l,e2,_⟩:=aj h
  rw [dH e1];obtain⟨_,rfl⟩:=uk e2
  rfl
 |.cons _ _,[],h,_,_=>aE h
theorem Jl{X:Cx}{q:PV}{c:Const}{kk:Nat}{pos:Pos}(h:MZ q c=true):GE X W F (.cst q) (.Constant c kk pos):=by
 cases q with
 |az=>cases Kz h;exact gG HY λG=>.n
 |bl b=>
  obtain⟨x,e,h⟩:=aj h
  cases KY e;cases eq_of_beq h;exact gG M8 λG=>.b
 |int i=>
  obtain⟨x,e,h⟩:=aj h
  cases vv e;cases eq_of_beq h;exact gG uS λG=>.i
 |str z=>
  obtain⟨x,e,h⟩:=aj h
  cases Bh e;cases eq_of_beq h;exact gG B7 λG=>.s
 |_=>exact aE h
theorem A8{α:Type}{r:Res α}{c:α->Prop} [∀a,Decidable (c a)]{f:α->Res (List PV)}{q:PV}(e:(r.bind λa=>if c a then(f a).bind λys=>.ok (.lst ys) else .bad)=.ok q):∃ys,q=.lst ys:=by
 obtain⟨ps,_,e⟩:=Res.aR e
 split at e
 ·obtain⟨ys,_,e⟩:=Res.aR e
  cases e;exact⟨_,rfl⟩
 ·cases e
theorem wY{kk:Nat}{bq:List Nat}{tg:Tg}{it:I}{elt:E}(env:Sl)(q:PV)(e:aQ F (.comp kk bq tg it elt) env=.ok q):∃ys,q=.lst ys:=by
 rw [aQ] at e;exact A8 e
theorem oR{kk:Nat}{bq:List Nat}{tg:Tg}{it:I}{c elt:E}(env:Sl)(q:PV)(e:aQ F (.cH kk bq tg it c elt) env=.ok q):∃ys,q=.lst ys:=by
 rw [aQ] at e;exact A8 e
mutual
theorem bJ:∀(e:E) {Γ:Pg} {N:List Str} {sc:Scope} {X:Cx} (C:d6 Γ F W N sc k X) (p:Expr),bz Γ N sc e p=true->TK X W F e p
 |.var i,Γ,N,sc,X,C,p,h=>by
  obtain⟨x,_,rfl,h9⟩:=OU h
  clear h
  have h:=h9
  clear h9
  exact bP (Ij C h) (λ_=>rfl) (λ_ _ _ z=>nomatch z)
 |.hZ i,Γ,N,sc,X,C,p,h=>by
  obtain⟨x,_,rfl,h9⟩:=OU h
  clear h
  have h:=h9
  clear h9
  exact bP (Jg C h) (λ_=>rfl) (λ_ _ _ z=>nomatch z)
 |.cst q,Γ,N,sc,X,C,p,h=>by
  obtain⟨c,_,_,rfl,h9⟩:=SD h
  clear h
  have h:=h9
  clear h9
  refine bP (Jl h) (λ_=>rfl) (λ_ _ _ z=>nomatch z)
 |.glob g q,Γ,N,sc,X,C,p,h=>by
  obtain⟨x,_,rfl,h9⟩:=OU h
  clear h
  have h:=h9
  clear h9
  exact bP (EE C h) (λ_=>rfl) (λ_ _ _ z=>nomatch z)
 |.call f as,Γ,N,sc,X,C,p,h=>by
  obtain⟨g,args,_,_,rfl,h9⟩:=CI h
  clear h
  have h:=h9
  clear h9
  replace h:=aC h
  try simp only [zza,beq_iff_eq] at h
  obtain⟨⟨⟨⟨⟨rfl,h1⟩,h2⟩,h3⟩,h4⟩,h5⟩:=h
  have ga:=lU as C args h5
  cases as with
  |nil=>
   cases args with
   |nil=>exact bP (Cy C h1 h2 h3) (λ_=>rfl) (λ_ _ _ z=>nomatch z)
   |cons _ _=>exact aE h5
  |cons e es=>
   cases args with
   |nil=>exact aE h5
   |cons q qs=>
    have h6:=aC h5
    exact bP (D2 C h1 h2 h3 h4 ga (notStar h6.1 _ _) (fN h6.2 _ _)) (λ_=>rfl) (λ_ _ _ z=>nomatch z)
 |.ni i as,Γ,N,sc,X,C,p,h=>by
  obtain⟨g,args,_,_,rfl,h9⟩:=CI h
  clear h
  have h:=h9
  clear h9
  replace h:=aC h
  simp only [zza] at h;obtain⟨⟨⟨⟨⟨h1,h2⟩,h3⟩,h4⟩,h6⟩,h5⟩:=h
  have ga:=lU as C args h5
  cases as with
  |nil=>exact aE h6
  |cons e es=>
   cases args with
   |nil=>exact aE h5
   |cons q qs=>
    have h6:=aC h5
    exact bP (AS C (by rw [h1,h2,h3];rfl) h4 ga (notStar h6.1 _ _) (fN h6.2 _ _)) (λ_=>rfl) (λ_ _ _ z=>nomatch z)
 |.tV f as g idx bq,Γ,N,sc,X,C,p,h=>by
  obtain⟨hN,args,_,_,rfl,h9⟩:=CI h
  clear h
  have h:=h9
  clear h9
  replace h:=aC h
  simp only [zza,zzj,beq_iff_eq] at h;obtain⟨⟨⟨⟨⟨⟨h1,h2⟩,h3⟩,h4⟩,h6⟩,q,hq,⟨⟨⟨rfl,rfl⟩,rfl⟩,rfl⟩,hd⟩,h5⟩:=h
  have Pt:=zzY hd
  have ga:=Hq as C h1 q.g q.idx bq args h4 h5
  cases as with
  |nil=>exact aE h6
  |cons e es=>
   cases args with
   |nil=>exact aE h5
   |cons p qs=>
    have h6:=aC h5
    exact bP (zS C h1 hq h2 h3 Pt ga (notStar h6.1 _ _) (kD h6.2 _ _)) (λ_=>rfl) (λ_ _ _ z=>nomatch z)
 |.blt b as,Γ,N,sc,X,C,p,h=>by
  obtain⟨g,args,_,_,rfl,h9⟩:=CI h
  clear h
  have h:=h9
  clear h9
  replace h:=aC h
  try simp only [zza,beq_iff_eq] at h
  obtain⟨⟨⟨⟨rfl,h1⟩,h2⟩,h3⟩,h5⟩:=h
  have ga:=lU as C args h5
  cases as with
  |nil=>exact aE h3
  |cons e es=>
   cases args with
   |nil=>exact aE h5
   |cons q qs=>
    have h6:=aC h5
    exact bP (K4 C b h1 h2 ga (notStar h6.1 _ _) (fN h6.2 _ _)) (λ_=>rfl) (λ_ _ _ z=>nomatch z)
 |.ty t a,Γ,N,sc,X,C,p,h=>by
  obtain⟨g,args,_,_,rfl,h9⟩:=CI h
  clear h
  have h:=h9
  clear h9
  obtain⟨pa,pb,z2,h2⟩:=BL h
  obtain⟨tn,_,z3,h3⟩:=OU h2
  dsimp only at z2 z3;subst z2 z3
  clear h h2
  have h:=h3
  clear h3
  replace h:=aC h
  try simp only [zza,beq_iff_eq] at h
  obtain⟨⟨⟨⟨⟨⟨rfl,h1⟩,h2⟩,rfl⟩,h3⟩,h4⟩,h5⟩:=h
  exact bP (Nh C h1 h2 h3 h4 (bJ a C pa h5).ge (notStar h5)) (λ_=>rfl) (λ_ _ _ z=>nomatch z)
 |.bin o a b,Γ,N,sc,X,C,p,h=>by
  obtain⟨q,e,h1⟩:=aj h
  obtain⟨_,rfl⟩:=KG e
  clear h
  have h:=aC h1
  have h0:=aC h.1
  rw [<-zzY h0.1];exact bP (IW C (bJ a C _ h0.2).ge (bJ b C _ h.2).ge) (λ_=>rfl) (λ_ _ _ z=>nomatch z)
 |.cmp o a b,Γ,N,sc,X,C,p,h=>by
  obtain⟨pa,ops,cs,_,rfl,h1⟩:=TB h
  obtain⟨op,z2,h2⟩:=lN h1
  obtain⟨pb,z3,h3⟩:=lN h2
  dsimp only at z2 z3;subst z2 z3
  clear h h1 h2
  have h:=h3
  clear h3
  replace h:=aC h
  have h0:=aC h.1
  cases zzY h0.1;have h1:=h0.2
  have h2:=h.2
  exact⟨K0 C (bJ a C _ h1).ge (bJ b C _ h2).ge (pV h2 _),λ_=>Lv C (bJ a C _ h1).ge (bJ b C _ h2).ge (pV h2 _),(λ_ _ _ _ z=>nomatch z)⟩
 |.ch o1 o2 a b c,Γ,N,sc,X,C,p,h=>by
  obtain⟨pa,ops,cs,_,rfl,h1⟩:=TB h
  obtain⟨op1,op2,z2,h2⟩:=BL h1
  obtain⟨pb,pc,z3,h3⟩:=BL h2
  dsimp only at z2 z3;subst z2 z3
  clear h h1 h2
  have h:=h3
  clear h3
  replace h:=aC h
  try simp only [zza,zzN] at h
  obtain⟨⟨⟨⟨rfl,rfl⟩,h1⟩,h2⟩,h3⟩:=h
  have hm:lastMarks [qY o1,qY o2] [pb,pc]=false:=pV h3 _
  exact⟨Oh C (bJ a C _ h1).ge (bJ b C _ h2).ge (bJ c C _ h3).ge hm,λ_=>Md C (bJ a C _ h1).ge (bJ b C _ h2).ge (bJ c C _ h3).ge hm,(λ_ _ _ _ z=>nomatch z)⟩
 |.not a,Γ,N,sc,X,C,p,h=>by
  obtain⟨o,pa,_,rfl,h1⟩:=RG h
  clear h
  have h:=aC h1
  cases B1 h.1;have s:=bJ a C pa h.2
  exact⟨Km s.ge,λz=>Li (s.gt (by simpa only [fZ] using z)),(λ_ _ _ _ z=>nomatch z)⟩
 |.neg a,Γ,N,sc,X,C,p,h=>by
  obtain⟨o,pa,_,rfl,h1⟩:=RG h
  clear h
  have h:=aC h1
  cases rA h.1;exact bP (zD (bJ a C pa h.2).ge) (λ_=>rfl) (λ_ _ _ z=>nomatch z)
 |.and a b,Γ,N,sc,X,C,p,h=>by
  obtain⟨o,vs,pos,rfl,h1⟩:=Sz h
  obtain⟨⟨pa,pb⟩,e2,h2⟩:=aj h1
  clear h h1
  have h:=aC h2
  clear h2
  try simp only [zza] at h
  obtain⟨⟨⟨h0,he⟩,h1⟩,h2⟩:=h
  cases AK h0;have sa:=bJ a C pa h1
  have sb:=bJ b C pb h2
  rcases zI e2 with z|⟨q,c,r,z,z2⟩
  ·dsimp only at z;subst z;have gw:fZ (.and a b)=true->GW X W F (.and a b) (.BoolOp .And [pa,pb] pos):=λz=>by
    have z:=aC z
    exact Bi (sa.gt z.1) (pw_and1 (sb.gt z.2))
   exact⟨AY he sa.ge (Cq sb.ge),λz=>(gw z).pt,λz _ _ _ _=>gw z⟩
  ·dsimp only at z z2;subst z z2;have gw:fZ (.and a b)=true->GW X W F (.and a b) (.BoolOp .And (pa::q::c::r) pos):=λz=>by
    have z:=aC z
    exact Bi (sa.gt z.1) (sb.gw z.2 _ _ _ rfl)
   exact⟨AY he sa.ge sb.ge,λz=>(gw z).pt,λz _ _ _ _=>gw z⟩
 |.or a b,Γ,N,sc,X,C,p,h=>by
  obtain⟨o,vs,pos,rfl,h1⟩:=Sz h
  obtain⟨⟨pa,pb⟩,e2,h2⟩:=aj h1
  clear h h1
  have h:=aC h2
  clear h2
  try simp only [zza] at h
  obtain⟨⟨⟨h0,he⟩,h1⟩,h2⟩:=h
  cases Dv h0;have sa:=bJ a C pa h1
  have sb:=bJ b C pb h2
  rcases zI e2 with z|⟨q,c,r,z,z2⟩
  ·dsimp only at z;subst z;have gw:fZ (.or a b)=true->GW X W F (.or a b) (.BoolOp .Or [pa,pb] pos):=λz=>by
    have z:=aC z
    exact Gz (sa.gt z.1) (pw_or1 (sb.gt z.2))
   exact⟨GQ he sa.ge (Cq sb.ge),λz=>(gw z).pt,λz _ _ _ _=>gw z⟩
  ·dsimp only at z z2;subst z z2;have gw:fZ (.or a b)=true->GW X W F (.or a b) (.BoolOp .Or (pa::q::c::r) pos):=λz=>by
    have z:=aC z
    exact Gz (sa.gt z.1) (sb.gw z.2 _ _ _ rfl)
   exact⟨GQ he sa.ge sb.ge,λz=>(gw z).pt,λz _ _ _ _=>gw z⟩
 |.ite c a b,Γ,N,sc,X,C,p,h=>by
  obtain⟨q,e,h1⟩:=aj h
  obtain⟨_,rfl⟩:=IV e
  clear h
  have h:=aC h1
  clear h1
  try simp only [zza] at h
  obtain⟨⟨⟨⟨⟨h0,h1⟩,h2⟩,h3⟩,h4⟩,h5⟩:=h
  exact⟨K1 h1 h2 ((bJ c C _ h3).gt h0) (bJ a C _ h4).ge (bJ b C _ h5).ge,(λz=>nomatch z),(λ_ _ _ _ z=>nomatch z)⟩
 |.tup as,Γ,N,sc,X,C,p,h=>by
  obtain⟨ps,e,h1⟩:=aj h
  obtain⟨_,_,rfl⟩:=jk e
  clear h
  have h:=aC h1
  have h0:=aC h.1
  exact bP (JI h0.1 (zzY h0.2) (lU as C _ h.2)) (λ_=>rfl) (λ_ _ _ z=>nomatch z)
 |.lst as,Γ,N,sc,X,C,p,h=>by
  obtain⟨ps,e,h1⟩:=aj h
  obtain⟨_,rfl⟩:=Cu e
  clear h
  have h:=aC h1
  have h0:=aC h.1
  exact bP ((Aj h0.1 (zzY h0.2) (lU as C _ h.2)).ge lst_is) (λ_=>rfl) (λ_ _ _ z=>nomatch z)
 |.sub a b,Γ,N,sc,X,C,p,h=>by
  obtain⟨pa,pb,_,rfl,h9⟩:=P5 h
  clear h
  have h:=h9
  clear h9
  replace h:=aC h
  exact bP (KI C (bJ a C _ h.1).ge (bJ b C _ h.2).ge (Al h.2)) (λ_=>rfl) (λ_ _ _ z=>nomatch z)
 |.rev a,Γ,N,sc,X,C,p,h=>by
  obtain⟨pa,ps,_,rfl,h1⟩:=P5 h
  obtain⟨pl,ph,pst,_,z2,h2⟩:=Sw h1
  obtain⟨st,z3,h3⟩:=aj h2
  obtain⟨uo,ue,_,z4,h4⟩:=RG h3
  obtain⟨cc,_,_,z5,h5⟩:=SD h4
  clear h h1 h2 h3 h4
  have h:=aC h5
  clear h5
  simp only [zza] at h;obtain⟨⟨⟨⟨y1,y2⟩,y3⟩,y4⟩,y5⟩:=h
  have w1:=HZ y1
  have w2:=HZ y2
  have w3:=rA y3
  have w4:=vv (eq_of_beq y4)
  dsimp only at z2 z3 z4 z5 w1 w2 w3 w4;subst z2 z3 z4 z5 w1 w2 w3 w4;exact bP (JU C (bJ a C pa y5).ge (zD (gG uS λG=>.i))) (λ_=>rfl) (λ_ _ _ z=>nomatch z)
 |.slice a lo hi,Γ,N,sc,X,C,p,h=>by
  obtain⟨pa,ps,_,rfl,h1⟩:=P5 h
  obtain⟨pl,ph,pst,_,z2,h2⟩:=Sw h1
  clear h h1
  have h:=aC h2
  simp only [zza] at h;have w:=HZ h.1.1.1
  dsimp only at z2 w;subst z2 w;exact bP (zX C (bJ a C _ h.1.1.2).ge (ME lo C pl h.1.2) (ME hi C ph h.2)) (λ_=>rfl) (λ_ _ _ z=>nomatch z)
 |.comp kk bq tg it elt,Γ,N,sc,X,C,p,h=>by
  obtain⟨fg,gens,scope,_,rfl,h1⟩:=Pe h
  obtain⟨⟨dn,gf,ifs,asy⟩,z2,h2⟩:=lN h1
  have h3:=aC h2
  have z3:=Kb h3.1
  dsimp only at z2 z3;subst z2 z3
  clear h h1 h2
  have h:=aC h3.2
  clear h3
  simp only [zza] at h;obtain⟨⟨⟨⟨⟨⟨h1,h2⟩,h3⟩,h4⟩,h5⟩,h6⟩,iw⟩:=h
  have iw:=zzY iw
  subst iw;exact bP ((xr C (jn h1) h2 h3 (B6 it C dn gf h4) (i7 h4 _) h5 λY CY=>(bJ elt CY fg h6).ge).ge wY) (λ_=>rfl) (λ_ _ _ z=>nomatch z)
 |.cH kk bq tg it c elt,Γ,N,sc,X,C,p,h=>by
  obtain⟨fg,gens,scope,_,rfl,h1⟩:=Pe h
  obtain⟨⟨dn,gf,ifs,asy⟩,z2,h2⟩:=lN h1
  obtain⟨pc,z3,h3⟩:=lN h2
  dsimp only at z2 z3;subst z2 z3
  clear h h1 h2
  have h:=aC h3
  clear h3
  simp only [zza] at h;obtain⟨⟨⟨⟨⟨⟨⟨⟨h0,h1⟩,h2⟩,h3⟩,h4⟩,h5⟩,h6⟩,h7⟩,iw⟩:=h
  have iw:=zzY iw
  subst iw;exact bP ((oj C (jn h1) h2 h3 (B6 it C dn gf h4) (i7 h4 _) h5 (λY CY=>(bJ c CY pc h6).gt h0) λY CY=>(bJ elt CY fg h7).ge).ge oR) (λ_=>rfl) (λ_ _ _ z=>nomatch z)
theorem lU:∀(es:Es) {Γ:Pg} {N:List Str} {sc:Scope} {X:Cx} (C:d6 Γ F W N sc k X) (ps:List Expr),km Γ N sc es ps=true->GA X W F es ps
 |.nil,Γ,N,sc,X,C,ps,h=>by
  cases ps with
  |nil=>exact Io
  |cons _ _=>exact aE h
 |.cons e es,Γ,N,sc,X,C,ps,h=>by
  cases ps with
  |nil=>exact aE h
  |cons p ps=>
   replace h:=aC h
   exact C9 (bJ e C p h.1).ge (lU es C ps h.2) (notStar h.1 _ _)
theorem Hq:∀(es:Es) {Γ:Pg} {N:List Str} {sc:Scope} {X:Cx} (C:d6 Γ F W N sc k X) (hl:Γ.hl=true) (g:Str) (idx bq:List Nat) (ps:List Expr),ic es=true->xw Γ N sc g idx bq es ps=true->PA X ps (M7 X W F N sc g idx bq es)
 |.nil,Γ,N,sc,X,C,hl,g,idx,bq,ps,he,h=>by
  obtain⟨p,e1,h⟩:=aj h
  obtain⟨l,e2,h⟩:=aj h
  rw [dH e1];obtain⟨_,rfl⟩:=uk e2
  replace h:=aC h
  have h1:=aC h.1
  exact DG C hl ⟨h1.1,zzY h1.2,λy hy=>zzY (zzT.mp h.2 y hy)⟩
 |.cons e es,Γ,N,sc,X,C,hl,g,idx,bq,ps,he,h=>by
  cases ps with
  |nil=>exact aE h
  |cons p ps=>
   replace h:=aC h
   have Jb:=aC (show(fY e&&ic es)=true from he)
   exact AD he (bJ e C p h.1).ge (Hq es C hl g idx bq ps Jb.2 h.2) (notStar h.1 _ _)
theorem ME:∀(o:Oe) {Γ:Pg} {N:List Str} {sc:Scope} {X:Cx} (C:d6 Γ F W N sc k X) (p:Option Expr),JK Γ N sc o p=true->PO X p (Cg X W F o)
 |.no,Γ,N,sc,X,C,p,h=>by
  cases p with
  |none=>exact Fx
  |some _=>exact aE h
 |.some e,Γ,N,sc,X,C,p,h=>by
  cases p with
  |none=>exact aE h
  |some p=>
   exact D0 (bJ e C p h).ge
theorem B6:∀(it:I) {Γ:Pg} {N:List Str} {sc:Scope} {X:Cx} (C:d6 Γ F W N sc k X) (tg p:Expr),x9 Γ N sc tg it p=true->GI X W F tg it p
 |.seq e,Γ,N,sc,X,C,tg,p,h=>by
  exact H9 C (bJ e C p h).ge
 |.rn e,Γ,N,sc,X,C,tg,p,h=>by
  obtain⟨g,args,_,_,rfl,h9⟩:=CI h
  clear h
  have h:=h9
  clear h9
  obtain⟨q,z2,h2⟩:=lN h
  dsimp only at z2;subst z2
  clear h
  have h:=aC h2
  clear h2
  simp only [zza] at h;obtain⟨⟨⟨e1,h1⟩,h2⟩,h3⟩:=h
  cases beq_iff_eq.mp e1;exact Iu C h1 h2 (notStar h3) (bJ e C q h3).ge
 |.nk a b,Γ,N,sc,X,C,tg,p,h=>by
  obtain⟨g,args,_,_,rfl,h9⟩:=CI h
  clear h
  have h:=h9
  clear h9
  obtain⟨q,r,z2,h2⟩:=BL h
  dsimp only at z2;subst z2
  clear h
  have h:=aC h2
  clear h2
  simp only [zza] at h;obtain⟨⟨⟨⟨e1,h1⟩,h2⟩,h3⟩,h4⟩:=h
  cases beq_iff_eq.mp e1;exact Fy C h1 h2 (notStar h3) (notStar h4) (bJ a C q h3).ge (bJ b C r h4).ge
 |.enum e,Γ,N,sc,X,C,tg,p,h=>by
  obtain⟨g,args,_,_,rfl,h9⟩:=CI h
  clear h
  have h:=h9
  clear h9
  obtain⟨q,z2,h2⟩:=lN h
  dsimp only at z2;subst z2
  clear h
  have h:=aC h2
  clear h2
  simp only [zza] at h;obtain⟨⟨⟨⟨h0,e1⟩,h1⟩,h2⟩,h3⟩:=h
  cases beq_iff_eq.mp e1;cases tg<;>first|(exact aE h0)|skip
  exact ER C h1 h2 (notStar h3) (bJ e C q h3).ge
 |.zip a b,Γ,N,sc,X,C,tg,p,h=>by
  obtain⟨g,args,_,_,rfl,h9⟩:=CI h
  clear h
  have h:=h9
  clear h9
  obtain⟨q,r,z2,h2⟩:=BL h
  dsimp only at z2;subst z2
  clear h
  have h:=aC h2
  clear h2
  simp only [zza] at h;obtain⟨⟨⟨⟨⟨h0,e1⟩,h1⟩,h2⟩,h3⟩,h4⟩:=h
  cases beq_iff_eq.mp e1;cases tg<;>first|(exact aE h0)|skip
  exact Kt C h1 h2 (notStar h3) (notStar h4) (bJ a C q h3).ge (bJ b C r h4).ge
end
end
end Ci
namespace L2
open PySem PySem.Spec PyProof.Rows
section
variable{X:Cx}{scope:Scope}{xs ys:List Str}{is:List Nat}
theorem uU{i₀:Nat}{x₀:Str}{pos' fW:Pos}{elt tg iter:Expr}{pos:Pos}{wi:TI}{g:TG}{te:TE}(hN₀:X.N.Nodup)(hi₀:X.N[i₀]?=some x₀)(hx₀:Loc X.env.scope x₀)(hc:X.calm=true)(S:fq X scope xs ys is)(hi:PI X tg iter wi)
 (hg:∀fp s1 H1 C,PG (cA X (xs++ys) scope (bU X.env ys) fp s1 H1 C) tg g) (he:∀fp s1 H1 C,PE (cA X (xs++ys) scope (bU X.env ys) fp s1 H1 C) elt te)
 (B2:swapsWith (.ListComp elt [⟨tg,iter,[],0⟩] scope pos) (some (.Name x₀ pos')) fW.line X.env=pure true:=by rfl)
 (hs:∀x,foldedSetIterable iter X.env x=pure x:=by intro _;rfl) (hf₀:X.fn x₀=true\/X.env.scope.names.lookup x₀=some .local:=by first|exact .inl rfl|exact .inr rfl|assumption):
 PS X (.Assign [.Name x₀ pos'] (.ListComp elt [⟨tg,iter,[],0⟩] scope pos) fW) (Er (zQ wi xs.length g te is) (dP i₀)):=by
 intro ae s σ H D₀ I h;rw [exec_Assign_Name_used _ _ _ _ B2];refine zzA (wpAny_standAt (zzA ?_));show wpAny _ X.A (do let _<-comprehension (.ListComp elt [⟨tg,iter,[],0⟩] scope pos) scope X.env _ (newList []) false (eval iter X.env) (some (assign (.Name x₀ pos') X.env))) _ _ s;refine zzA (wpAny_mono (g8 (QQ:=λ_ s'=>∃σ2 H2,Inv X ae σ2 H2 s'/\D₀.nx σ2 H2) (Q:=λv H4=>dP i₀ v σ H4 D₀.nx) hc S hi hg (λ_ _ _ _=>vV) he hs I h λD C s4 H4 m I5 hn ⟨g0,g1,_,g3,g4,g5⟩ q=>?_) (λ_ s' hq=>zzG (zzG hq)) λ_ _ e=>e)
 refine wpAny_assign_Name (kf I5 hN₀ hi₀ hx₀ (show RelV (.ref D) (.ref D) from rfl) (λs6 I6 ⟨a6,sb6,ha6⟩=>?_) hf₀);have AO:C≠a6:=by
  rcases ha6 with z|z
  ·rw [z];exact g1
  ·exact λz2=>g4 _ _ z z2.symm
 exact⟨m,hn.sameBut sb6 AO,λh' yk=>⟨_,_,I6.turned (t':=s6.toks) (it:=C) (λb o hb e=>yk.extBut b o hb e) g0 g1 g3 g4 g5,q⟩⟩
end
end L2
namespace Ci
open PySem L2
section
variable{W:Wd}{G0 H0 G H:Hp}{env:Sl}{σ:St}
theorem Own.G9{p:PV}{v:V}(h:Own W H0 G H p v):∃a o,v=.ref a/\H a=some o/\G a=none/\H0 a=none/\((∀G',aB G G'->G' a=some o->Rep W G' p (.ref a))\/∃aw,o=.dT aw/\∀ob G',aB G G'->G' a=some (.bK ob (.dT aw))->Rep W G' p (.ref a)):=by
 cases p with
 |lst xs=>
  obtain⟨a,vs,rfl,h1,h2,h3,l⟩:=h
  exact⟨a,_,rfl,h1,h2,h3,.inl λG' s e=>.l (.inl (.inl e)) (ai.same s xs l)⟩
 |aX ks ps=>
  obtain⟨a,us,rfl,n,h1,h2,h3,l⟩:=h
  exact⟨a,_,rfl,h1,h2,h3,.inr ⟨_,rfl,λob G' s e=>by simp only [Rep];exact⟨a,ob,us,rfl,n,e,ai.same s ps l⟩⟩⟩
 |az=>exact h.elim
 |bl _=>exact h.elim
 |int _=>exact h.elim
 |str _=>exact h.elim
 |tup _=>exact h.elim
 |exc _=>exact h.elim
theorem Own.zY{p:PV}{a:Addr}(h:Own W H0 G H p (.ref a))(ps:Array Value):H a≠some (.fX ps):=λz=>by
 cases p with
 |lst xs=>obtain⟨b,vs,e,h1,_⟩:=h;cases e;rw [z] at h1;cases h1
 |aX ks qs=>
  obtain⟨b,us,e,_,h1,_⟩:=h
  cases e;rw [z] at h1;cases h1
 |az=>exact h.elim
 |bl _=>exact h.elim
 |int _=>exact h.elim
 |str _=>exact h.elim
 |tup _=>exact h.elim
 |exc _=>exact h.elim
theorem qJ{a:Addr}{ob:HO}{H':Hp}(t:cU W G H)(hG:G a=none)(n:∀ps,H a≠some (.fX ps))(hH:∀b,b≠a->H' b=H b):cU W (upd G a ob) H':=λP q m=>by
 obtain⟨n1,ps,e,tr,al⟩:=t P q m
 have hP:P≠a:=λz=>by subst z;exact n ps e
 refine⟨by rw [af hP];exact n1,ps,by rw [hH P hP];exact e,tr,λpos cv y=>?_⟩
 obtain⟨c',oc,dq,t',e1,e2,e3,e4⟩:=al pos cv y
 exact⟨c',oc,dq,t',e1,bx hG _ _ e2,e3,e4⟩
theorem Own.ei{p:PV}{v:V}{a:Addr}{G' H':Hp}(h:Own W H0 G H p v)(hv:v≠.ref a)(sG:aB G G')(hG:∀b,b≠a->G' b=G b)(hH:∀b,b≠a->H' b=H b):Own W H0 G' H' p v:=by
 cases p with
 |lst xs=>
  obtain⟨b,vs,rfl,h1,h2,h3,l⟩:=h
  have hb:b≠a:=λz=>hv (by rw [z])
  exact⟨b,vs,rfl,by rw [hH b hb];exact h1,by rw [hG b hb];exact h2,h3,ai.same sG xs l⟩
 |aX ks ps=>
  obtain⟨b,us,rfl,n,h1,h2,h3,l⟩:=h
  have hb:b≠a:=λz=>hv (by rw [z])
  exact⟨b,us,rfl,n,by rw [hH b hb];exact h1,by rw [hG b hb];exact h2,h3,ai.same sG ps l⟩
 |az=>exact h.elim
 |bl _=>exact h.elim
 |int _=>exact h.elim
 |str _=>exact h.elim
 |tup _=>exact h.elim
 |exc _=>exact h.elim
theorem getElem?_modify{α:Type}(l:List α)(i j:Nat)(f:α->α):(l.modify i f)[j]?=if i=j then(l[j]?).map f else l[j]?:=by
 rw [List.getElem?_modify];split<;>simp_all
theorem sx(r:SR W H0 env σ G H)(g:aG W G0 H0 G H){i:Nat}{p:PV}{a:Addr}{ob LA:HO}{H':Hp}(hp:env[i]?=some (.own p))(ho:σ[i]?=some (some (.ref a)))(Oo:Own W H0 G H p (.ref a))(hH:H a=some ob)(hG:G a=none)(CL:H0 a=none)
 (As:∀G',aB G G'->G' a=some LA->Rep W G' p (.ref a)) (h1:H' a=some LA) (h2:∀b,b≠a->H' b=H b):SR W H0 (env.modify i nU) σ (upd G a LA) H'/\aG W G0 H0 (upd G a LA) H':=by
 have sG:aB G (upd G a LA):=bx hG
 have sub:aB (upd G a LA) H':=λb u e=>by
  by_cases hb:b=a
  ·subst hb;rw [aq] at e;cases e;exact h1
  ·rw [af hb] at e;rw [h2 b hb];exact r.sub _ _ e
 have base:∀{B:Hp},B a=none->hJ B H->hJ B H':=λhB k b u e=>by
  have hb:b≠a:=λz=>by rw [z,hB] at e;cases e
  rw [h2 b hb];exact k b u e
 refine⟨⟨by rw [List.length_modify];exact r.len,sub,base CL r.base,λj s e=>?_,λj l q q' c e1 e2 e3 e4=>?_,qJ r.tab hG Oo.zY h2,qJ r.nW hG (λps z=>by rw [CL] at z;cases z) λ_ _=>rfl⟩,⟨g.g.trans sG,base CL g.h,sub,λb h3 h5 h4=>?_,λt=>qJ (g.tab t) hG Oo.zY h2⟩⟩
 ·rw [getElem?_modify] at e;split at e
  ·rename_i z;subst z;rw [hp] at e;cases e;exact⟨_,ho,_,rfl,As _ sG aq⟩
  ·rename_i z;obtain⟨o2,k1,k2⟩:=r.slot j s e
   refine⟨o2,k1,?_⟩;cases s with
   |no=>exact trivial
   |val q=>
    obtain⟨v2,rfl,rv⟩:=k2
    exact⟨v2,rfl,Rep.same sG q rv⟩
   |fn _ _ _=>
    obtain⟨v2,rfl,rv⟩:=k2
    exact⟨v2,rfl,rv.same sG⟩
   |own q=>
    obtain⟨v2,rfl,ov⟩:=k2
    refine⟨v2,rfl,ov.ei (a:=a) (λzz=>?_) sG (λb hb=>af hb) h2⟩;subst zz;exact z (r.apart i j p q a hp e ho k1)
 ·rw [getElem?_modify] at e1 e2;have ne:∀{j:Nat} {q:PV},(if i=j then(env[j]?).map nU else env[j]?)=some (.own q)->i≠j/\env[j]?=some (.own q):=λ{j q} e=>by
   split at e
   ·rename_i z;subst z;rw [hp] at e;cases e
   ·rename_i z;exact⟨z,e⟩
  exact r.apart j l q q' c (ne e1).2 (ne e2).2 e3 e4
 ·have hb:b≠a:=λz=>h3 (by rw [z];exact CL)
  rw [af hb];exact g.own b h3 h5 h4
theorem HF(r:SR W H0 env σ G H)(g:aG W G0 H0 G H)(i:Nat):(∃G',SR W H0 (env.modify i nU) σ G' H/\aG W G0 H0 G' H)\/∃a aw,H a=some (.dT aw)/\∀o,∃G',SR W H0 (env.modify i nU) σ G' (upd H a (.bK o (.dT aw)))/\aG W G0 H0 G' (upd H a (.bK o (.dT aw))):=by
 have same:(∀p,env[i]?≠some (.own p))->env.modify i nU=env:=λh=>by
  refine List.ext_getElem? λj=>?_
  rw [getElem?_modify];split
  ·rename_i e;subst e;cases q:env[i]? with
   |none=>rfl
   |some s=>
    cases s with
    |own p=>exact absurd q (h p)
    |no=>rfl
    |val p=>rfl
    |fn _ _ _=>rfl
  ·rfl
 by_cases hx:∃p,env[i]?=some (.own p)
 ·obtain⟨p,hp⟩:=hx
  obtain⟨o,ho,v,rfl,ow⟩:=r.slot i _ hp
  have Oo:=ow
  obtain⟨a,ob,rfl,hH,hG,CL,As|⟨aw,rfl,As⟩⟩:=ow.G9
  ·obtain⟨k1,k2⟩:=sx r g hp ho Oo hH hG CL As hH λ_ _=>rfl
   exact .inl ⟨_,k1,k2⟩
  ·refine .inr ⟨a,aw,hH,λo=>?_⟩
   obtain⟨k1,k2⟩:=sx r g hp ho Oo hH hG CL (As o) aq λb hb=>af hb
   exact⟨_,k1,k2⟩
 ·exact .inl ⟨G,by rw [same λp z=>hx ⟨p,z⟩];exact r,g⟩
theorem mK(r:SR W H0 env σ G H)(g:aG W G0 H0 G H){i:Nat}{p p':PV}{a:Addr}{ob:HO}(hp:env[i]?=some (.own p))(hs:σ[i]?=some (some (.ref a)))(hG:G a=none)(CL:H0 a=none)(hn:Own W H0 G (upd H a ob) p' (.ref a)):
 SR W H0 (env.set i (.own p')) σ G (upd H a ob)/\aG W G0 H0 G (upd H a ob):=by
 have bZ:i<env.length:=(zzH.mp hp).1
 have UN:∀ps,H a≠some (.fX ps):=by
  obtain⟨o2,h1,v2,rfl,ow⟩:=r.slot i _ hp
  rw [hs] at h1;cases h1;exact ow.zY
 have tab:∀{G1:Hp},cU W G1 H->cU W G1 (upd H a ob):=λt=>t.same (aB.refl _) (λ_ _ _ h=>h) (qr UN)
 refine⟨⟨by rw [List.length_set];exact r.len,λb u e=>?_,λb u e=>?_,λj s e=>?_,λj l q q' c e1 e2 e3 e4=>?_,tab r.tab,r.nW⟩,⟨g.g,λb u e=>?_,λb u e=>?_,g.own,λt=>tab (g.tab t)⟩⟩
 ·rw [af (λz=>by subst z;rw [hG] at e;cases e)];exact r.sub _ _ e
 ·rw [af (λz=>by subst z;rw [CL] at e;cases e)];exact r.base _ _ e
 ·by_cases hj:i=j
  ·subst hj;rw [List.getElem?_set_self bZ] at e;cases e;exact⟨_,hs,_,rfl,hn⟩
  ·rw [zzS hj] at e;obtain⟨o2,h1,h2⟩:=r.slot j s e
   refine⟨o2,h1,?_⟩;cases s with
   |no=>exact trivial
   |val q=>exact h2
   |fn _ _ _=>exact h2
   |own q=>
    obtain⟨v2,rfl,ov⟩:=h2
    refine⟨v2,rfl,ov.ei (a:=a) (λzz=>?_) (aB.refl _) (λb hb=>rfl) λb hb=>af hb⟩
    subst zz;exact hj (r.apart i j p q a hp e hs h1)
 ·have tr:∀{j:Nat} {q:PV},(env.set i (.own p'))[j]?=some (.own q)->∃q2,env[j]?=some (.own q2):=λ{j q} e=>by
   by_cases hj:i=j
   ·subst hj;exact⟨p,hp⟩
   ·rw [zzS hj] at e;exact⟨q,e⟩
  obtain⟨q2,f1⟩:=tr e1
  obtain⟨q3,f2⟩:=tr e2
  exact r.apart j l q2 q3 c f1 f2 e3 e4
 ·rw [af (λz=>by subst z;rw [CL] at e;cases e)];exact g.h _ _ e
 ·rw [af (λz=>by subst z;rw [hG] at e;cases e)];exact g.sub _ _ e
theorem uM(r:SR W H0 env σ G H)(g:aG W G0 H0 G H){i:Nat}{p:PV}{a:Addr}{ob:HO}(hi:i<env.length)(ha:H a=none)(hn:Own W H0 G (upd H a ob) p (.ref a)):
 SR W H0 (env.set i (.own p)) (σ.set i (some (.ref a))) G (upd H a ob)/\aG W G0 H0 G (upd H a ob):=by
 have gm:aG W G H G (upd H a ob):=.QH r.sub ha
 have r1:=r.grow gm
 have old:∀{j:Nat} {q:PV},env[j]?=some (.own q)->σ[j]?=some (some (.ref a))->False:=λ{j q} e1 e2=>by
  obtain⟨o2,h1,v2,rfl,ov⟩:=r.slot j _ e1
  rw [e2] at h1;cases h1;obtain⟨a',o',e3,hH,_⟩:=ov.G9
  cases e3;rw [ha] at hH;cases hH
 refine⟨⟨by rw [List.length_set,List.length_set];exact r.len,r1.sub,r1.base,λj s e=>?_,λj l q q' c e1 e2 e3 e4=>?_,r1.tab,r1.nW⟩,g.trans gm⟩
 ·by_cases hj:i=j
  ·subst hj;rw [List.getElem?_set_self hi] at e;cases e;exact⟨_,List.getElem?_set_self (by rw [<-r.len];exact hi),_,rfl,hn⟩
  ·rw [zzS hj] at e;obtain⟨o2,h1,h2⟩:=r1.slot j s e
   exact⟨o2,by rw [zzS hj];exact h1,h2⟩
 ·by_cases hj:i=j
  ·by_cases hl:i=l
   ·exact hj.symm.trans hl
   ·exfalso
    subst hj;rw [List.getElem?_set_self (by rw [<-r.len];exact hi)] at e3;rw [zzS hl] at e2 e4;cases e3;exact old e2 e4
  ·by_cases hl:i=l
   ·exfalso
    subst hl;rw [List.getElem?_set_self (by rw [<-r.len];exact hi)] at e4;rw [zzS hj] at e1 e3;cases e4;exact old e1 e3
   ·rw [zzS hj] at e1 e3;rw [zzS hl] at e2 e4;exact r.apart j l q q' c e1 e2 e3 e4
end
def i8:E->Bool
 |.lst _=>true
 |.comp _ _ _ _ _=>true
 |.cH _ _ _ _ _ _=>true
 |_=>false
def pP:Expr->Bool
 |.ListComp .. =>false
 |.SetComp .. =>false
 |.DictComp .. =>false
 |_=>true
noncomputable def QU(sc:Scope)(x:Str)(xp:Pos):Expr->Bool
 |.ListComp _ _ s p=>sc.names.lookup x==some .local&&xp.line==p.line&&!(s.names.any λ(n,k)=>n==x&&(k==.local||k==.cell))
 |_=>false
def LG(ts:List Expr):Option Str:=(f9 ts).bind fH
def LC:List Keyword->Option (Str×Expr)
 |[⟨some n,v,_⟩]=>some (n,v)
 |_=>none
theorem H8{ks:List Keyword}{q:Str×Expr}(h:LC ks=some q):∃p,ks=[⟨some q.1,q.2,p⟩]:=by
 cases ks with
 |nil=>exact iP h
 |cons k ks=>
  obtain⟨kn,kv,kp⟩:=k
  cases kn with
  |none=>exact iP h
  |some n=>
   cases ks with
   |cons _ _=>exact iP h
   |nil=>cases h;exact⟨_,rfl⟩
noncomputable def OV(e:Expr):Option (Str×Str×List Expr):=(L4 e).bind λq=>(OH q.1).bind λr=>(fH r.1).bind λx=>if(q.2.2.1.isEmpty&&r.2.2.endLine==q.2.2.2.line)=true then some (x,r.2.1,q.2.1) else none
noncomputable def Tc(e:Expr):Option (Str×Arguments×Expr×Scope):=(L4 e).bind λq=>(fH q.1).bind λf=>(f9 q.2.1).bind λa=>(fH a).bind λx=>(LC q.2.2.1).bind λr=>(RP r.2).bind λl=>if(f=="min"&&r.1=="key")=true then some (x,l.1,l.2.1,l.2.2) else none
theorem Lj{e:Expr}{c:Str×Arguments×Expr×Scope}(h:Tc e=some c):∃q1 q2 q3 q4 q5,e=.Call (.Name "min" q1) [.Name c.1 q2] [⟨some "key",.Lambda c.2.1 c.2.2.1 c.2.2.2 q3,q4⟩] q5:=by
 obtain⟨⟨f,a,k,p⟩,h1,h⟩:=ny h
 obtain⟨g,h2,h⟩:=ny h
 obtain⟨b,h3,h⟩:=ny h
 obtain⟨x,h4,h⟩:=ny h
 obtain⟨⟨n,v⟩,h5,h⟩:=ny h
 obtain⟨⟨l1,l2,l3⟩,h6,h⟩:=ny h
 obtain⟨h7,rfl⟩:=if1 h
 rw [zza,beq_iff_eq,beq_iff_eq] at h7;obtain⟨rfl,z8⟩:=h7
 obtain⟨p2,z2⟩:=cO h2
 obtain⟨p4,z4⟩:=cO h4
 obtain⟨p5,z5⟩:=H8 h5
 obtain⟨p6,z6⟩:=uk h6
 have z3:=dH h3
 dsimp only at z2 z3 z4 z5 z6 z8;subst z2 z3 z4 z5 z6 z8;exact⟨_,_,_,_,_,mY h1⟩
def FA(x p:Str)(e:Expr):Bool:=(Gf e).any λq=>(Gf q.1).any λr=>fH r.1==some x&&fH r.2==some p&&(LZ q.2).bind Pc==some 0
noncomputable def wR(x:Str)(params:Arguments)(body:Expr)(scope:Scope):Bool:=match qt params with
 |some [p]=>FA x p body&&decide (bu scope=[x])&&OX [p] scope&&okN p&&okN x
 |_=>false
theorem Ac{x:Str}{params:Arguments}{body:Expr}{scope:Scope}(h:wR x params body scope=true):∃p,qt params=some [p]/\um p x params body scope/\bu scope=[x]/\okN x=true:=by
 unfold wR at h;split at h
 ·rename_i p e;simp only [zza,zzN] at h;obtain⟨⟨⟨⟨h1,h2⟩,h3⟩,h4⟩,h5⟩:=h
  refine⟨p,e,⟨?_,by rw [<-h2];exact Av h3,(dQ h4).1,(dQ h4).2.1,(dQ h5).1,(dQ h5).2.1⟩,h2,h5⟩;obtain⟨⟨a,b⟩,e1,h6⟩:=aj h1
  obtain⟨⟨c,d⟩,e2,h7⟩:=aj h6
  simp only [zza,beq_iff_eq] at h7;obtain⟨p1,rfl⟩:=qH e1
  obtain⟨p2,z2⟩:=qH e2
  obtain⟨p3,z3⟩:=cO h7.1.1
  obtain⟨p4,z4⟩:=cO h7.1.2
  obtain⟨c5,y5,y6⟩:=ny h7.2
  obtain⟨p5,p6,z5⟩:=va y5
  cases vv y6;dsimp only at z2 z3 z4 z5;subst z3 z4 z5 z2;exact⟨_,_,_,_,_,_,rfl⟩
 ·cases h
def Q3(ts:List Expr):Option (Str×Expr):=(f9 ts).bind λt=>(Gf t).bind λq=>(fH q.1).bind λx=>some (x,q.2)
noncomputable def SS(o:Option Expr):Option (Str×Str):=o.bind λe=>(L4 e).bind λq=>(fH q.1).bind λx=>(f9 q.2.1).bind λa=>(LZ a).bind λc=>(HW c).bind λz=>if q.2.2.1.isEmpty=true then some (x,z) else none
theorem mZ{ts:List Expr}{x:Str}(h:LG ts=some x):∃xp,ts=[.Name x xp]:=by
 obtain⟨t,h1,h2⟩:=ny h
 obtain⟨p,rfl⟩:=cO h2
 exact⟨p,dH h1⟩
theorem uu{p:Expr}{x m:Str}{args:List Expr}(h:OV p=some (x,m,args)):∃np apos cE,p=.Call (.Attribute (.Name x np) m apos) args [] cE/\(apos.endLine==cE.line)=true:=by
 obtain⟨⟨f,a,k,cp⟩,h1,h⟩:=ny h
 obtain⟨⟨o,m',ap⟩,h2,h⟩:=ny h
 obtain⟨y,h3,h⟩:=ny h
 obtain⟨h4,h⟩:=if1 h
 cases h;rw [zza] at h4;obtain⟨p3,z3⟩:=cO h3
 have z2:=Iy h2
 have z5:=List.isEmpty_iff.1 h4.1
 dsimp only at z2 z3 z5;subst z3 z2 z5;exact⟨_,_,_,mY h1,h4.2⟩
theorem zF{ts:List Expr}{x:Str}{pk:Expr}(h:Q3 ts=some (x,pk)):∃np sp,ts=[.Subscript (.Name x np) pk sp]:=by
 obtain⟨t,h1,h⟩:=ny h
 obtain⟨⟨a,b⟩,h2,h⟩:=ny h
 obtain⟨y,h3,h⟩:=ny h
 cases h;obtain⟨p3,z3⟩:=cO h3
 obtain⟨p2,z2⟩:=qH h2
 dsimp only at z3;subst z3 z2;exact⟨_,_,dH h1⟩
theorem Lu{o:Option Expr}{x z:Str}(h:SS o=some (x,z)):∃np j zp cp,o=some (.Call (.Name x np) [.Constant (.str z) j zp] [] cp):=by
 obtain⟨e,h0,h⟩:=ny h
 obtain⟨⟨f,a,k,cp⟩,h1,h⟩:=ny h
 obtain⟨y,h2,h⟩:=ny h
 obtain⟨t,h3,h⟩:=ny h
 obtain⟨c,h4,h⟩:=ny h
 obtain⟨w,h5,h⟩:=ny h
 obtain⟨h6,h⟩:=if1 h
 cases h;obtain⟨p2,z2⟩:=cO h2
 obtain⟨p4,q4,z4⟩:=va h4
 have z3:=dH h3
 have z5:=Bh h5
 have z6:=List.isEmpty_iff.1 h6
 dsimp only at z2 z3 z6;subst z2 z5 z4 z3 z6;exact⟨_,_,_,_,h0.trans (congrArg some (mY h1))⟩
mutual
noncomputable def fh(Γ:Pg)(N:List Str)(sc:Scope):S->Stmt->Bool
 |.expr e,.Expr p _=>pP p&&bz Γ N sc e p
 |.set i e,.Assign ts p _=>(LG ts).any λx=>N[i]?==some x&&fx sc x&&fY e&&bz Γ N sc e p
 |.own i e,.Assign ts p _=>(LG ts).any λx=>N[i]?==some x&&fx sc x&&i8 e&&bz Γ N sc e p
 |.app i e,.Expr v _=>(OV v).any λc=>N[i]?==some c.1&&fe sc c.1&&okN c.1&&c.2.1==("append":Str)&&fY e&&(f9 c.2.2).any λp=>bz Γ N sc e p
 |.rN i e,.Expr v _=>(OV v).any λc=>N[i]?==some c.1&&fe sc c.1&&okN c.1&&c.2.1==("extend":Str)&&(f9 c.2.2).any λp=>bz Γ N sc e p
 |.put i kk e,.Assign ts p _=>(Q3 ts).any λc=>N[i]?==some c.1&&fe sc c.1&&okN c.1&&fY e&&bz Γ N sc kk c.2&&bz Γ N sc e p
 |.ret e,.Return (some p) _=>fY e&&bz Γ N sc e p
 |.ite c a b,.If p pa pb _=>fZ c&&bz Γ N sc c p&&dz Γ N sc a pa&&dz Γ N sc b pb
 |.dc tg it b,.For dn gf pb els _=>els.isEmpty&&ie N sc (λ_=>true) tg dn&&Ei it&&x9 Γ N sc dn it gf&&dz Γ N sc b pb
 |.E0 c b,.While p pb els _=>els.isEmpty&&fZ c&&bz Γ N sc c p&&dz Γ N sc b pb
 |.raise c m,.Raise ex fr _=>fr.isNone&&(SS ex).any λq=>c==q.1&&m==q.2&&Γ.rs.contains c&&iM sc c&&okN c
 |.brk,.Break _=>true
 |.rT i e,.Assign ts v _=>(LG ts).any λx=>(zo v).any λq=>(f9 q.2).any λr=>q.1==("dict":Str)&&iM sc q.1&&Γ.bs.contains q.1&&N[i]?==some x&&fx sc x&&bz Γ N sc e r
 |.nV i,.Assign ts (.Dict [] [] _) _=>(LG ts).any λx=>N[i]?==some x&&fx sc x
 |.fM i j n,.Assign ts v _=>(Q3 ts).any λc=>(fH c.2).any λz=>N[i]?==some c.1&&fe sc c.1&&okN c.1&&N[n]?==some z&&fe sc z&&okN z&&(OV v).any λd=>d.2.1==("pop":Str)&&(f9 d.2.2).any λe=>(fH e).any λz2=>z==z2&&N[j]?==some d.1&&fe sc d.1&&okN d.1
 |.qm m i,.Assign ts v _=>(LG ts).any λy=>(Tc v).any λc=>N[m]?==some y&&fx sc y&&N[i]?==some c.1&&sc.names.lookup c.1==some .cell&&iM sc "min"&&Γ.bs.contains "min"&&Γ.hl&&wR c.1 c.2.1 c.2.2.1 c.2.2.2
 |_,_=>false
noncomputable def dz(Γ:Pg)(N:List Str)(sc:Scope):Ss->List Stmt->Bool
 |.nil,[]=>true
 |.cons (.bK _) ss,ps=>dz Γ N sc ss ps
 |.cons s ss,p::ps=>fh Γ N sc s p&&dz Γ N sc ss ps
 |_,_=>false
end
section
variable{Γ:Pg}{X:Cx}{W:Wd}{F:aO}{N:List Str}{sc:Scope}{k:Nat}{H0:Hp}{E:XK}
theorem SR.go{env:Sl}{σ:St}{G H:Hp}(r:SR W H0 env σ G H):aG W G H0 G H:=⟨aB.refl _,r.base,r.sub,λ_ _ _ h=>h,λ_=>r.tab⟩
theorem aG.then{G G1 H1 G2 H2:Hp}(a:aG W G H0 G1 H1)(b:aG W G1 H0 G2 H2):aG W G H0 G2 H2:=⟨a.g.trans b.g,b.h,b.sub,λx h1 h3 h2=>b.own x h1 h3 (a.own x h1 h3 h2),λt=>b.tab (t.same a.g a.own λ_ _ h=>h)⟩
theorem SR.on{env:Sl}{σ:St}{G H G1 H1:Hp}(r:SR W H0 env σ G H)(g:aG W G H G1 H1):aG W G H0 G1 H1:=⟨g.g,r.base.trans g.h,g.sub,λx h1 h3 h2=>g.own x (λz=>h1 (r.base.free z)) (r.base.wV h1 h3) h2,λ_=>g.tab r.tab⟩
def Dn(W:Wd)(H0 G:Hp)(D:Ends):Fl->Prop
 |.nx env=>∀σ G' H',SR W H0 env σ G' H'->aG W G H0 G' H'->D.nx σ H'
 |.bk env=>∀σ G' H',SR W H0 env σ G' H'->aG W G H0 G' H'->D.bk σ H'
 |.ct env=>∀σ G' H',SR W H0 env σ G' H'->aG W G H0 G' H'->D.ct σ H'
 |.rt p=>∀v G' H',Rep W G' p v->aG W G H0 G' H'->D.rt v H'
def cN(W:Wd)(H0 G:Hp)(E:XK)(r:Res Fl)(D:Ends):Prop:=match r with
 |.ok f=>Dn W H0 G D f
 |.exc c=>∀Cv ao H',XE W c G H0 Cv ao H'->E Cv ao H'
 |.bad=>False
theorem Dn.on{G G1 H1:Hp}{D:Ends}{f:Fl}(h:Dn W H0 G D f)(g:aG W G H0 G1 H1):Dn W H0 G1 D f:=by
 cases f with
 |nx env=>exact λσ G' H' r g'=>h σ G' H' r (g.then g')
 |bk env=>exact λσ G' H' r g'=>h σ G' H' r (g.then g')
 |ct env=>exact λσ G' H' r g'=>h σ G' H' r (g.then g')
 |rt p=>exact λv G' H' r g'=>h v G' H' r (g.then g')
theorem cN.on{G G1 H1:Hp}{D:Ends}{r:Res Fl}(h:cN W H0 G E r D)(g:aG W G H0 G1 H1):cN W H0 G1 E r D:=by
 cases r with
 |ok f=>exact Dn.on h g
 |exc c=>
  intro Cv ao H' x;obtain⟨C,a,G',e1,e2,e3,e4,g2⟩:=x
  exact h Cv ao H' ⟨C,a,G',e1,e2,e3,e4,g.then g2⟩
 |bad=>exact h
noncomputable def tS(W:Wd)(F:aO)(H0:Hp)(E:XK)(s:S):TS:=λD σ H=>∃G env,SR W H0 env σ G H/\cN W H0 G E (g6 F s env) D
noncomputable def So(W:Wd)(F:aO)(H0:Hp)(E:XK)(ss:Ss):TS:=λD σ H=>∃G env,SR W H0 env σ G H/\cN W H0 G E (aJ F ss env) D
abbrev GS(X:Cx)(W:Wd)(F:aO)(H0:Hp)(E:XK)(s:S)(p:Stmt):Prop:=PS X p (tS W F H0 E s)
abbrev CQ(X:Cx)(W:Wd)(F:aO)(H0:Hp)(E:XK)(s:Ss)(p:List Stmt):Prop:=wx X p (So W F H0 E s)
theorem _root_.L2.PS.imp{p:Stmt}{t t':TS}(h:PS X p t)(i:∀D σ H,t' D σ H->t D σ H):PS X p t':=λae s σ H D I hw=>h ae s σ H D I (i D σ H hw)
theorem _root_.L2.wx.imp{p:List Stmt}{t t':TS}(h:wx X p t)(i:∀D σ H,t' D σ H->t D σ H):wx X p t':=λae s σ H D I hw=>h ae s σ H D I (i D σ H hw)
structure eO(Γ:Pg)(F:aO)(W:Wd)(N:List Str)(sc:Scope)(k:Nat)(E:XK)(X:Cx):Prop where
 C:d6 Γ F W N sc k X
 fn:∀x,X.fn x=true
 own:PassesOwn (model X.prog X.w) X.A X.env X.xe
 pass:Passes (d8 X.prog X.w) X E
 kind:sc.kind=.function
 Mu:X.stack=X.env::X.outer
 frame:X.env.frame=some X.env.locals
 xs:∀c,Γ.rs.contains c=true->c∈W.xs
 rm:∀c,Γ.rs.contains c=true->∃C,X.mg c=some (.ref C)
 rz:∀(c z:Str) (j:Nat) (np zp cp pos:Pos),Γ.rs.contains c=true->iM sc c=true->okN c=true->PS X (.Raise (some (.Call (.Name c np) [.Constant (.str z) j zp] [] cp)) none pos) (λ_ _ H=>∀C e,X.mg c=some (.ref C)->H e=none->E (.ref C) (some e) H)
 OS:Γ.cs.contains "FloorError"=true->∀c D,c∈W.xs->X.mg c=some (.ref D)->∀T,X.mg "FloorError"=some (.ref T)->PySem.W.exmOne X.K (.ref D) (.ref T)=some true
theorem DD(S:eO Γ F W N sc k E X){c:Str}{σ:St}{Gs G H:Hp}(g:aG W Gs H0 G H)(h:∀Cv ao H',XE W c Gs H0 Cv ao H'->E Cv ao H'):vD X W σ c G H:=λae G1 H1 s1 e s' I g1 x=>
 S.pass ae σ H1 s1 e s' I (De.imp x λCv a H' y=>h Cv a H' (by
  obtain⟨C,a',G',e1,e2,e3,e4,g2⟩:=y
  have g3:=g1.trans g2
  exact⟨C,a',G',e1,e2,e3,e4,g.g.trans g3.g,g.h.trans g3.h,g3.sub,λx h1 h3 h2=>g3.own x (λz=>h1 (g.h.free z)) (g.h.wV h1 h3) (g.own x h1 h3 h2),λt=>g3.tab (g.tab t)⟩))
theorem cN.bind{α:Type}(S:eO Γ F W N sc k E X){r:Res α}{f:α->Res Fl}{D:Ends}{env:Sl}{σ:St}{G H:Hp}(sr:SR W H0 env σ G H)(h:cN W H0 G E (r.bind f) D):Out X W r σ G H λa=>cN W H0 G E (f a) D:=by
 cases r with
 |ok a=>exact h
 |exc c=>exact DD S sr.go h
 |bad=>exact h
theorem qO(S:eO Γ F W N sc k E X){env:Sl}{σ:St}{G H:Hp}{e:Ci.E}{f:PV->Res Fl}{D:Ends}{Q:VK}(sr:SR W H0 env σ G H)(o:cN W H0 G E ((aQ F e env).bind f) D)
 (h:∀p v G1 H1,aG W G H G1 H1->Got W H0 G1 H1 e p v->SR W H0 env σ G1 H1->cN W H0 G1 E (f p) D->Q v H1):tE X W F e σ H Q:=
 ⟨H0,G,env,sr,(o.bind S sr).imp λp hp v G1 H1 g1 t=>h p v G1 H1 g1 t (sr.grow g1) (hp.on (sr.on g1))⟩
theorem GH(S:eO Γ F W N sc k E X){env:Sl}{σ:St}{G H:Hp}{e:Ci.E}{f:Bool->Res Fl}{D:Ends}{Q:Bool->Hp->Prop}(sr:SR W H0 env σ G H)(o:cN W H0 G E ((aQ F e env).bind λp=>tY p f) D)
 (h:∀b G1 H1,aG W G H G1 H1->SR W H0 env σ G1 H1->cN W H0 G1 E (f b) D->Q b H1):tT X W F e σ H Q:=by
 refine⟨H0,G,env,sr,(o.bind S sr).imp λp hp=>?_⟩
 cases p with
 |bl b=>exact⟨b,rfl,λG1 H1 g1=>h b G1 H1 g1 (sr.grow g1) (cN.on hp (sr.on g1))⟩
 |az=>exact False.elim hp
 |int _=>exact False.elim hp
 |str _=>exact False.elim hp
 |tup _=>exact False.elim hp
 |lst _=>exact False.elim hp
 |exc _=>exact False.elim hp
 |aX _ _=>exact False.elim hp
theorem MJ(S:eO Γ F W N sc k E X){env:Sl}{σ:St}{G H:Hp}{e:Ci.E}{f:PV->Res Fl}{D:Ends}{Q:VK}(hl:∀env q,aQ F e env=.ok q->∃xs,q=.lst xs)(sr:SR W H0 env σ G H)(o:cN W H0 G E ((aQ F e env).bind f) D)
 (h:∀xs a vs G1 H1,aG W G H G1 H1->H1 a=none->ai W G1 xs vs->SR W H0 env σ G1 H1->cN W H0 G1 E (f (.lst xs)) D->Q (.ref a) (upd H1 a (.lst vs))):tF X W F e σ H Q:=by
 refine⟨H0,G,env,sr,?_⟩;have o2:=o.bind S sr
 cases r:aQ F e env with
 |bad=>rw [r] at o2;exact o2
 |exc c=>rw [r] at o2;exact o2
 |ok q=>
  rw [r] at o2;obtain⟨xs,rfl⟩:=hl env q r
  exact⟨xs,rfl,λa vs G' H' g ha l=>h xs a vs G' H' g ha l (sr.grow g) (cN.on o2 (sr.on g))⟩
end
section
variable{Γ:Pg}{X:Cx}{W:Wd}{F:aO}{N:List Str}{sc:Scope}{k:Nat}{H0:Hp}{E:XK}
theorem qF{p:Expr}{t:Option Expr}{l:Nat}{env:Env}(h:pP p=true):swapsWith p t l env=pure false:=by
 cases p<;>first|rfl|(exact aE h)
theorem lj{elt:Expr}{gens:List Comprehension}{s:Scope}{p:Pos}{x:Str}{xp:Pos}{l:Nat}(eK:X.env.scope=sc)(hk:sc.kind=.function):swapsWith (.ListComp elt gens s p) (some (.Name x xp)) l X.env=pure (QU sc x xp (.ListComp elt gens s p)):=by
 have hb:X.env.blockKind=.function:=by
  unfold Env.blockKind;rw [eK,hk]
  rfl
 show(pure (X.env.blockKind==.function&&X.env.kindOf x==some .local&&xp.line==p.line&&!(s.names.any λ(n,k)=>n==x&&(k==.local||k==.cell))):Sem Bool)=_
 rw [hb];show(pure (true&&X.env.scope.names.lookup x==some .local&&_&&_):Sem Bool)=_
 rw [eK]
 rfl
theorem DV(S:eO Γ F W N sc k E X){e:Ci.E}{p:Expr}{pos:Pos}(he:GE X W F e p)(hn:pP p=true):GS X W F H0 E (.expr e) (.Expr p pos):=
 L2.PS.imp (pX he (qF hn)) λD σ H h=>by
  obtain⟨G,env,sr,o⟩:=h
  rw [g6] at o;exact qO S sr o λq v G1 H1 g t bW o1=>o1 σ G1 H1 bW bW.go
theorem Kd(S:eO Γ F W N sc k E X){e:Ci.E}{p:Expr}{pos:Pos}(dI:fY e=true)(he:GE X W F e p):GS X W F H0 E (.ret e) (.Return (some p) pos):=
 L2.PS.imp (JV he) λD σ H h=>by
  obtain⟨G,env,sr,o⟩:=h
  rw [g6] at o;exact qO S sr o λq v G1 H1 g t bW o1=>o1 v G1 H1 (t.rep dI) bW.go
theorem JC{pos:Pos}:GS X W F H0 E .brk (.Break pos):=
 L2.PS.imp Au λD σ H h=>by
  obtain⟨G,env,sr,o⟩:=h
  rw [g6] at o;exact o σ G H sr sr.go
theorem AN(S:eO Γ F W N sc k E X){c m:Str}{j:Nat}{np zp cp pos:Pos}(h1:Γ.rs.contains c=true)(h2:iM sc c=true)(h3:okN c=true):GS X W F H0 E (.raise c m) (.Raise (some (.Call (.Name c np) [.Constant (.str m) j zp] [] cp)) none pos):=
 L2.PS.imp (S.rz c m j np zp cp pos h1 h2 h3) λD σ H h C e hC he=>by
  obtain⟨G,env,sr,o⟩:=h
  rw [g6] at o;exact o _ _ _ ⟨C,e,G,rfl,rfl,S.xs c h1,by rw [S.C.mg];exact hC,sr.go⟩
theorem eE(S:eO Γ F W N sc k E X){i:Nat}{x:Str}(h:N[i]?=some x)(hl:fx sc x=true):X.N.Nodup/\X.N[i]?=some x/\Loc X.env.scope x:=by
 refine⟨by rw [S.C.hN];exact S.C.nd,by rw [S.C.hN];exact h,B5 S.C.eK hl⟩
theorem Kl(S:eO Γ F W N sc k E X){i:Nat}{x:Str}{e:Ci.E}{p:Expr}{xp pos:Pos}(h:N[i]?=some x)(hl:fx sc x=true)(dI:fY e=true)(he:GE X W F e p)(hs:swapsWith p (some (.Name x xp)) pos.line X.env=pure false):GS X W F H0 E (.set i e) (.Assign [.Name x xp] p pos):=by
 obtain⟨a1,a2,a3⟩:=eE S h hl
 refine L2.PS.imp (mU a1 a2 a3 he hs (.inl (S.fn x))) λD σ H h=>?_
 obtain⟨G,env,sr,o⟩:=h
 rw [g6] at o;exact qO S sr o λq v G1 H1 g t bW o1=>o1 _ G1 H1 (bW.set i (t.rep dI)) bW.go
noncomputable def LQ(X:Cx)(W:Wd)(F:aO)(i:Nat)(e:Ci.E):TS:=λD σ H=>tF X W F e σ H λv H1=>D.nx (σ.set i (some v)) H1
theorem Oa{e:Ci.E}(hl:∀env q,aQ F e env=.ok q->∃xs,q=.lst xs)(σ:St)(H:Hp)(Q:VK)(h:tE X W F e σ H Q):tF X W F e σ H Q:=by
 obtain⟨H0,G,env,sr,o⟩:=h
 refine⟨H0,G,env,sr,?_⟩;cases r:aQ F e env with
 |bad=>rw [r] at o;exact o
 |exc c=>rw [r] at o;exact o
 |ok q=>
  rw [r] at o;obtain⟨xs,rfl⟩:=hl env q r
  exact⟨xs,rfl,λa vs G' H' g ha l=>o _ _ _ (g.trans (.new g.sub ha)) (.of (.l (.inl (.inl aq)) (ai.same (bx (g.sub.free ha)) xs l)))⟩
theorem Fh(S:eO Γ F W N sc k E X){i:Nat}{e:Ci.E}{p:Stmt}(hl:∀env q,aQ F e env=.ok q->∃xs,q=.lst xs)(dI:fY e=true)(h:PS X p (LQ X W F i e)):GS X W F H0 E (.set i e) p:=
 L2.PS.imp h λD σ H hq=>by
  obtain⟨G,env,sr,o⟩:=hq
  rw [g6] at o;refine Oa hl σ H _ (qO S sr o λq v G1 H1 g t bW o1=>?_);exact o1 _ G1 H1 (bW.set i (t.rep dI)) bW.go
theorem CV(S:eO Γ F W N sc k E X){i:Nat}{x:Str}{e:Ci.E}{p:Stmt}(hi:N[i]?=some x)(hl:∀env q,aQ F e env=.ok q->∃xs,q=.lst xs)(h:PS X p (LQ X W F i e)):GS X W F H0 E (.own i e) p:=by
 intro ae s σ H D I hq;have NF:i<σ.length:=by rw [I.len,S.C.hN];exact(zzH.mp hi).1
 refine h ae s σ H D I ?_;obtain⟨G,env,sr,o⟩:=hq
 rw [g6] at o;refine MJ S hl sr o λxs a vs G1 H1 g ha l bW o1=>?_
 have hO:Own W H0 G1 (upd H1 a (.lst vs)) (.lst xs) (.ref a):=⟨a,vs,rfl,aq,bW.sub.free ha,bW.base.free ha,l⟩
 obtain⟨r2,g2⟩:=uM bW bW.go (i:=i) (by rw [bW.len];exact NF) ha hO
 exact o1 _ G1 _ r2 g2
theorem qo{i:Nat}{x:Str}{e:Ci.E}{p:Expr}{xp pos:Pos}(S:eO Γ F W N sc k E X)(h:N[i]?=some x)(hl:fx sc x=true)(he:GF X W F e p)(hs:swapsWith p (some (.Name x xp)) pos.line X.env=pure false):PS X (.Assign [.Name x xp] p pos) (LQ X W F i e):=by
 obtain⟨a1,a2,a3⟩:=eE S h hl
 exact mU a1 a2 a3 he hs (.inl (S.fn x))
theorem BX(S:eO Γ F W N sc k E X){i:Nat}{x:Str}{xp fW:Pos}(hx:N[i]?=some x)(CZ:fx sc x=true){kk:Nat}{bq:List Nat}{tg:Tg}{it:I}{elt:Ci.E}{dn gf fg:Expr}{scope:Scope}{pos:Pos}(h:nv N sc scope kk bq (aP dn))(bZ:jv kk tg=true)(dI:fY elt=true)(hi:GI X W F dn it gf)(tZ:∀x,foldedSetIterable gf X.env x=pure x)
 (Ap:ie (aP dn++freeOf scope) (dw scope sc) (mO scope) tg dn=true) (he:∀Y,d6 Γ.CM F W (aP dn++freeOf scope) (dw scope sc) k Y->GE Y W F elt fg):PS X (.Assign [.Name x xp] (.ListComp fg [⟨dn,gf,[],0⟩] scope pos) fW) (LQ X W F i (.comp kk bq tg it elt)):=by
 obtain⟨a1,a2,a3⟩:=eE S hx CZ
 cases B2:QU sc x xp (.ListComp fg [⟨dn,gf,[],0⟩] scope pos) with
 |false=>exact qo S hx CZ (xr S.C h bZ dI hi tZ Ap he) (by rw [lj S.C.eK S.kind,B2])
 |true=>
  intro ae s σ H D I hq;have J8:(freeOf scope).Nodup:=(List.nodup_append.mp h.nd).2.1
  have rd:=wM (N:=N) S.C.K bZ dI h.slots J8 σ H _ hq
  have:=uU (g:=gT X.K tg) (te:=tN W F elt) (xs:=aP dn) (ys:=freeOf scope) (is:=bq) (pos:=pos) a1 a2 a3 S.C.calm (pO S.C.hN S.C.eK I.ok h) hi
   (λfp s1 H1 A=>BF (fn:=mO scope) (X:=cA X (aP dn++freeOf scope) scope (bU X.env (freeOf scope)) fp s1 H1 A) rfl h.nd (fC S.C.eK) rfl (λ_ z=>z) Ap)
   (λfp s1 H1 A=>L2.PE.imp (he _ (fw S.C h fp s1 H1 A)) λσ H Q z=>xx σ H Q z) (by rw [lj (l:=fW.line) S.C.eK S.kind,B2]) tZ (.inl (S.fn x)) ae s σ H D I
  rw [h.len] at this;exact this rd
theorem vz(S:eO Γ F W N sc k E X){i:Nat}{x:Str}{xp fW:Pos}(hx:N[i]?=some x)(CZ:fx sc x=true){kk:Nat}{bq:List Nat}{tg:Tg}{it:I}{c elt:Ci.E}{dn gf pc fg:Expr}{scope:Scope}{pos:Pos}(h:nv N sc scope kk bq (aP dn))(bZ:jv kk tg=true)(dI:fY elt=true)(hi:GI X W F dn it gf)(tZ:∀x,foldedSetIterable gf X.env x=pure x)
 (Ap:ie (aP dn++freeOf scope) (dw scope sc) (mO scope) tg dn=true) (hc:∀Y,d6 Γ.CM F W (aP dn++freeOf scope) (dw scope sc) k Y->GT Y W F c pc) (he:∀Y,d6 Γ.CM F W (aP dn++freeOf scope) (dw scope sc) k Y->GE Y W F elt fg):PS X (.Assign [.Name x xp] (.ListComp fg [⟨dn,gf,[pc],0⟩] scope pos) fW) (LQ X W F i (.cH kk bq tg it c elt)):=by
 obtain⟨a1,a2,a3⟩:=eE S hx CZ
 cases B2:QU sc x xp (.ListComp fg [⟨dn,gf,[pc],0⟩] scope pos) with
 |false=>exact qo S hx CZ (oj S.C h bZ dI hi tZ Ap hc he) (by rw [lj S.C.eK S.kind,B2])
 |true=>
  intro ae s σ H D I hq;have J8:(freeOf scope).Nodup:=(List.nodup_append.mp h.nd).2.1
  have rd:=oq (N:=N) S.C.K bZ dI h.slots J8 σ H _ hq
  have:=p7 (g:=gT X.K tg) (tt:=Ot W F c) (te:=tN W F elt) (xs:=aP dn) (ys:=freeOf scope) (is:=bq) (pos:=pos) a1 a2 a3 S.C.calm (pO S.C.hN S.C.eK I.ok h) hi
   (λfp s1 H1 A=>BF (fn:=mO scope) (X:=cA X (aP dn++freeOf scope) scope (bU X.env (freeOf scope)) fp s1 H1 A) rfl h.nd (fC S.C.eK) rfl (λ_ z=>z) Ap)
   (λfp s1 H1 A=>L2.PT.imp (hc _ (fw S.C h fp s1 H1 A)) λσ H Q z=>BH σ H Q z)
   (λfp s1 H1 A=>L2.PE.imp (he _ (fw S.C h fp s1 H1 A)) λσ H Q z=>xx σ H Q z) (by rw [lj (l:=fW.line) S.C.eK S.kind,B2]) tZ (.inl (S.fn x)) ae s σ H D I
  rw [h.len] at this;exact this rd
theorem yx{tg:Tg}{p:PV}{env:Sl}(c:Str):Tg.put tg p env≠.exc c:=by
 unfold Tg.put;split<;>exact λz=>nomatch z
theorem HI(S:eO Γ F W N sc k E X){c:Ci.E}{a b:Ss}{p:Expr}{pa pb:List Stmt}{pos:Pos}(hc:GT X W F c p)(ha:CQ X W F H0 E a pa)(hb:CQ X W F H0 E b pb):GS X W F H0 E (.ite c a b) (.If p pa pb pos):=
 L2.PS.imp (N1 hc ha hb) λD σ H h=>by
  obtain⟨G,env,sr,o⟩:=h
  rw [g6] at o;refine GH S sr o λt G1 H1 g bW o1=>?_
  cases t with
  |true=>
   rw [if_pos rfl] at o1⊢;exact⟨G1,env,bW,o1⟩
  |false=>
   rw [if_neg zzf] at o1⊢;exact⟨G1,env,bW,o1⟩
theorem IK(S:eO Γ F W N sc k E X){c:Ci.E}{b:Ss}{p:Expr}{pb:List Stmt}{pos:Pos}(hc:GT X W F c p)(hb:CQ X W F H0 E b pb):GS X W F H0 E (.E0 c b) (.While p pb [] pos):=
 L2.PS.imp (BZ S.own hc hb) λD σ H h=>by
  obtain⟨G,env,sr,o⟩:=h
  rw [g6] at o;refine⟨λm σ' H'=>∃G' au,SR W H0 au σ' G' H'/\aG W G H0 G' H'/\cN W H0 G' E (dF (aQ F c) (aJ F b) m au) D,⟨_,G,env,sr,sr.go,o⟩,?_⟩
  rintro m σ' H' ⟨G',au,sr',g',o'⟩
  cases m with
  |zero=>exact o'.elim
  |succ m=>
   unfold dF at o';refine GH S sr' o' λt G1 H1 g1 bW o1=>?_
   cases t with
   |false=>
    rw [if_neg zzf] at o1⊢;exact o1 σ' G1 H1 bW bW.go
   |true=>
    rw [if_pos rfl] at o1⊢;refine⟨λσ2 H2=>∃G2 ft,SR W H0 ft σ2 G2 H2/\aG W G H0 G2 H2/\cN W H0 G2 E (dF (aQ F c) (aJ F b) m ft) D,λσ2 H2 h2=>⟨m,Nat.lt_succ_self _,h2⟩,G1,au,bW,?_⟩
    have gg:=g'.then (sr'.on g1)
    cases r:aJ F b au with
    |bad=>rw [r] at o1;exact o1.elim
    |exc cc=>rw [r] at o1;exact o1
    |ok f=>
     rw [r] at o1;cases f with
     |nx ft=>exact λσ2 G2 H2 fU g2=>⟨G2,ft,fU,gg.then g2,cN.on (show cN W H0 G1 E (dF (aQ F c) (aJ F b) m ft) D from o1) g2⟩
     |ct ft=>exact λσ2 G2 H2 fU g2=>⟨G2,ft,fU,gg.then g2,cN.on (show cN W H0 G1 E (dF (aQ F c) (aJ F b) m ft) D from o1) g2⟩
     |bk ft=>exact λσ2 G2 H2 fU g2=>o1 σ2 G2 H2 fU g2
     |rt q=>exact λv G2 H2 rv g2=>o1 v G2 H2 rv g2
theorem Jh(S:eO Γ F W N sc k E X){tg:Tg}{it:I}{b:Ss}{dn gf:Expr}{pb:List Stmt}{pos:Pos}(Ap:ie N sc (λ_=>true) tg dn=true)(hit:Ei it=true)(hi:GI X W F dn it gf)(tZ:∀x,foldedSetIterable gf X.env x=pure x)(hb:CQ X W F H0 E b pb):GS X W F H0 E (.dc tg it b) (.For dn gf pb [] pos):=
 L2.PS.imp (Jj S.own S.C.calm hi (BF (fn:=λ_=>true) S.C.hN S.C.nd S.C.eK S.C.calm (λx _=>S.fn x) Ap) hb tZ) λD σ H h=>by
  obtain⟨G,env,sr,o⟩:=h
  rw [g6] at o;refine⟨H0,G,env,sr,(o.bind S sr).imp λps lF J G1 H1 g1 gi=>?_⟩
  have bK:=gi.bK hit
  generalize hf:(λ(x:PV) (env:Sl)=>(tg.put x env).bind λau=>aJ F b au)=f at lF
  have bW:=sr.grow g1
  refine⟨λi m σ' H'=>i<=ps.length/\m=ps.length-i/\∃G' au,SR W H0 au σ' G' H'/\aG W G1 H0 G' H'/\cN W H0 G' E (forL f (ps.drop i) au) D,⟨_,Nat.zero_le _,rfl,G1,env,bW,bW.go,by rw [List.drop_zero];exact cN.on lF (sr.on g1)⟩,?_⟩
  rintro i m σ' H' ⟨Mc,hm,G',au,sr',g',o'⟩
  obtain⟨ist,igo⟩:=bK i G' H' g'.g (.of (g'.g.trans sr'.sub)) sr'.sub
  by_cases hlast:i=ps.length
  ·refine .inl ⟨ist hlast,?_⟩;rw [hlast,List.drop_length] at o';exact o' σ' G' H' sr' sr'.go
  ·have bZ:i<ps.length:=by omega
   obtain⟨hgo,hyld⟩:=igo ps[i] (zzg bZ)
   refine .inr ⟨hgo,λσ2 H2=>i+1<=ps.length/\∃G2 ft,SR W H0 ft σ2 G2 H2/\aG W G1 H0 G2 H2/\cN W H0 G2 E (forL f (ps.drop (i+1)) ft) D,λσ2 H2 h2=>⟨ps.length-(i+1),by omega,h2.1,rfl,h2.2⟩,λx me hy=>?_⟩
   obtain⟨wL,g'',rx⟩:=hyld x me hy
   rw [List.drop_eq_getElem_cons bZ] at o';unfold forL at o';have Vj:f ps[i] au=(tg.put ps[i] au).bind λau=>aJ F b au:=by rw [<-hf]
   rw [Vj] at o';have fU:=sr'.grow g''
   have g2:=g'.then (sr'.on g'')
   cases r:tg.put ps[i] au with
   |bad=>rw [r] at o';exact o'.elim
   |exc c=>exact absurd r (yx c)
   |ok ft=>
    rw [r] at o';refine uv S.C.K r fU rx λσ2 sr3=>⟨wL,ft,sr3,?_⟩
    have o2:cN W H0 wL E ((aJ F b ft).bind λfl=>match fl with
     |.nx au=>forL f (ps.drop (i+1)) au
     |.ct au=>forL f (ps.drop (i+1)) au
     |.bk au=>.ok (.nx au)
     |.rt p=>.ok (.rt p)) D:=cN.on o' (sr'.on g'')
    cases r2:aJ F b ft with
    |bad=>rw [r2] at o2;exact o2.elim
    |exc cc=>rw [r2] at o2;exact o2
    |ok fl=>
     rw [r2] at o2;cases fl with
     |nx env3=>exact λσ3 G3 H3 JO g3=>⟨bZ,G3,env3,JO,g2.then g3,cN.on (show cN W H0 wL E (forL f (ps.drop (i+1)) env3) D from o2) g3⟩
     |ct env3=>exact λσ3 G3 H3 JO g3=>⟨bZ,G3,env3,JO,g2.then g3,cN.on (show cN W H0 wL E (forL f (ps.drop (i+1)) env3) D from o2) g3⟩
     |bk env3=>exact λσ3 G3 H3 JO g3=>o2 σ3 G3 H3 JO g3
     |rt q=>exact λv G3 H3 rv g3=>o2 v G3 H3 rv g3
theorem DU:CQ X W F H0 E .nil []:=L2.wx.imp Fb λD σ H h=>by
 obtain⟨G,env,sr,o⟩:=h
 rw [aJ] at o;exact o σ G H sr sr.go
theorem zZ{s:Ci.S}{ss:Ss}{p:Stmt}{ps:List Stmt}(h1:GS X W F H0 E s p)(h2:CQ X W F H0 E ss ps):CQ X W F H0 E (.cons s ss) (p::ps):=
 L2.wx.imp (Ar h1 h2) λD σ H h=>by
  obtain⟨G,env,sr,o⟩:=h
  rw [aJ] at o;refine⟨G,env,sr,?_⟩;cases r:g6 F s env with
  |bad=>rw [r] at o;exact o
  |exc c=>rw [r] at o;exact o
  |ok f=>
   rw [r] at o;cases f with
   |nx ft=>exact λσ2 G2 H2 fU g2=>⟨G2,ft,fU,cN.on (show cN W H0 G E (aJ F ss ft) D from o) g2⟩
   |bk ft=>exact o
   |ct ft=>exact o
   |rt q=>exact o
theorem DB{i:Nat}{ss:Ss}{ps:List Stmt}(h:CQ X W F H0 E ss ps):CQ X W F H0 E (.cons (.bK i) ss) ps:=by
 intro ae s σ H D I hq;obtain⟨G,env,sr,o⟩:=hq
 rw [aJ,g6] at o;rcases HF sr sr.go i with⟨G',sr',g'⟩|⟨a,aw,ha,k⟩
 ·exact h ae s σ H D I ⟨G',_,sr',cN.on (show cN W H0 G E (aJ F ss (env.modify i nU)) D from o) g'⟩
 ·obtain⟨ob,J⟩:=I.freeze ha
  obtain⟨G',sr',g'⟩:=k ob
  exact h ae s σ _ D J ⟨G',_,sr',cN.on (show cN W H0 G E (aJ F ss (env.modify i nU)) D from o) g'⟩
end
end Ci
namespace L2
open PySem PySem.Spec PyProof.Rows
end L2
namespace Ci
open PySem L2
section
variable{Γ:Pg}{X:Cx}{W:Wd}{F:aO}{N:List Str}{sc:Scope}{k:Nat}{H0:Hp}{E:XK}
theorem vB(hK:W.K=X.K):SX X "list.extend" (λx vs H Q=>∃l b xs zs,x=.ref l/\vs=[.ref b]/\H l=some (.lst xs)/\om W.K H b zs/\xs.length+zs.length<=sizeLine/\Q .az (upd H l (.lst (xs++zs)))):=by
 intro ae s σ H x vs v us Q I rx rv h;obtain⟨l,b,xs,zs,rfl,rfl,hH,hB,hz,q⟩:=h
 cases rx;obtain⟨u,rfl,ru⟩:=Vals.one rv
 cases ru;obtain⟨z,ax,n,r,hl,e⟩:=I.NW hH
 obtain⟨aF,n2,r2,PD,z2,e2⟩:=EU hK I hB
 have hsz:ax.toArray.size+aF.toArray.size<=sizeLine:=by rw [zzC,zzC];omega
 have MP:¬(!ax.toArray.isEmpty&&Builtin.List.listTooLong (ax.toArray.size+aF.toArray.size))=true:=by
  rw [zM hsz,Bool.and_false];exact zzf
 refine PySem.call_meets PySem.F.slot_list_extend ⟨_,e,rfl⟩ PySem.F.entry_list_extend (PySem.F.args_list_extend_2 _ _)
  (PySem.AutoSeq1.list_extend_list_list_0 l ax.toArray n b aF.toArray n2 MP (by rw [zzC];omega) (by omega)) ⟨e,e2,?_⟩
 refine⟨.az,_,I.MQ (its':=ax++aF) hH e (by simp) (r.append r2) ?_,rfl,q⟩;rw [zzM];omega
theorem iJ(S:eO Γ F W N sc k E X){i:Nat}{x:Str}{pos:Pos}(h:N[i]?=some x)(hv:fe sc x=true)(ho:okN x=true):PE X (.Name x pos) (Az i):=
 fK (by rw [S.C.hN];exact h) (qQ S.C hv) (dQ ho).1 (dQ ho).2.1
theorem wb{env:Sl}{σ:St}{G H:Hp}{i:Nat}{xs:List PV}(sr:SR W H0 env σ G H)(h:env[i]?=some (.own (.lst xs))):∃a vs,σ[i]?=some (some (.ref a))/\H a=some (.lst vs)/\G a=none/\H0 a=none/\ai W G xs vs:=by
 obtain⟨o,ho,v,rfl,a,vs,rfl,h1,h2,h3,l⟩:=sr.slot i _ h
 exact⟨a,vs,ho,h1,h2,h3,l⟩
theorem Lg(S:eO Γ F W N sc k E X){i:Nat}{x:Str}{e:Ci.E}{p:Expr}{np apos cE pos:Pos}(h:N[i]?=some x)(hv:fe sc x=true)(ho:okN x=true)(mM:(apos.endLine==cE.line)=true)(dI:fY e=true)(he:GE X W F e p)
 (dS:∀env ps,starEach (p::ps) env=(false,eval p env)::starEach ps env):GS X W F H0 E (.app i e) (.Expr (.Call (.Attribute (.Name x np) "append" apos) [p] [] cE) pos):=by
 refine L2.PS.imp (pX (G8 PySem.F.plainAttrs_list PySem.F.slot_list_append PySem.F.type_list_append yF (iJ S h hv ho) (cx he dU (dS _ _)) rfl (by rw [dS];rfl) mM (dS _ _) rfl) rfl) λD σ H hq=>?_
 obtain⟨G,env,sr,o⟩:=hq
 rw [g6] at o;split at o
 ·rename_i xs hx;obtain⟨a,vs,hs,h1,h2,h3,l⟩:=wb sr hx
  refine⟨.ref a,hs,.inl ⟨rfl,_,eF.of h1⟩,qO S sr o λq v G1 H1 g t bW o1=>?_⟩
  split at o1
  ·rename_i hl;have pz:=g.h.at h1 (λ_ z=>nomatch z)
   have v9:=g.own a (by rw [h1];exact λz=>nomatch z) (by rw [h1];exact λ_ z=>nomatch z) h2
   have l':=ai.same g.g xs l
   refine⟨a,vs,v,rfl,rfl,pz,by rw [l.length];exact zzW hl (by decide),?_⟩;obtain⟨r2,g2⟩:=mK (p':=.lst (xs++[q])) (ob:=.lst (vs++[v])) bW bW.go hx hs v9 h3 ⟨a,_,rfl,aq,v9,h3,l'.append (.cons (t.rep dI) .nil)⟩
   exact o1 _ G1 _ r2 g2
  ·exact o1.elim
 ·exact o.elim
theorem F9(S:eO Γ F W N sc k E X){i:Nat}{x:Str}{e:Ci.E}{p:Expr}{np apos cE pos:Pos}(h:N[i]?=some x)(hv:fe sc x=true)(ho:okN x=true)(mM:(apos.endLine==cE.line)=true)(he:GE X W F e p)
 (dS:∀env ps,starEach (p::ps) env=(false,eval p env)::starEach ps env):GS X W F H0 E (.rN i e) (.Expr (.Call (.Attribute (.Name x np) "extend" apos) [p] [] cE) pos):=by
 refine L2.PS.imp (pX (G8 PySem.F.plainAttrs_list PySem.F.slot_list_extend PySem.F.type_list_extend (vB S.C.K) (iJ S h hv ho) (cx he dU (dS _ _)) rfl (by rw [dS];rfl) mM (dS _ _) rfl) rfl) λD σ H hq=>?_
 obtain⟨G,env,sr,o⟩:=hq
 rw [g6] at o;split at o
 ·rename_i xs hx;obtain⟨a,vs,hs,h1,h2,h3,l⟩:=wb sr hx
  refine⟨.ref a,hs,.inl ⟨rfl,_,eF.of h1⟩,qO S sr o λq v G1 H1 g t bW o1=>?_⟩
  split at o1
  ·rename_i ys;split at o1
   ·rename_i hl;have pz:=g.h.at h1 (λ_ z=>nomatch z)
    have v9:=g.own a (by rw [h1];exact λz=>nomatch z) (by rw [h1];exact λ_ z=>nomatch z) h2
    have l':=ai.same g.g xs l
    obtain⟨b,us,rfl,hb,lb⟩:=t.top.lst bW.sub
    refine⟨a,b,vs,us,rfl,rfl,pz,hb,by rw [l.length,lb.length];exact iI hl,?_⟩;obtain⟨r2,g2⟩:=mK (p':=.lst (xs++ys)) (ob:=.lst (vs++us)) bW bW.go hx hs v9 h3 ⟨a,_,rfl,aq,v9,h3,l'.append lb⟩
    exact o1 _ G1 _ r2 g2
   ·exact o1.elim
  ·exact o1.elim
 ·exact o.elim
def Np:V->V->V->Hp->(Hp->Prop)->Prop:=λo i v H Q=>∃a H',o=.ref a/\y7 H a i v H'/\Q H'
theorem vY(hu:X.A.units+1<cLine):L8 X Np:=by
 intro ae s σ H o i v ov iv u Q I ro ri rv h;obtain⟨a,H',rfl,g,q⟩:=h
 cases ro;exact yy hu I g ri rv λs' I'=>⟨H',I',q⟩
theorem jq{env:Sl}{σ:St}{G H:Hp}{i:Nat}{ks:List (List Int)}{ps:List PV}(sr:SR W H0 env σ G H)(h:env[i]?=some (.own (.aX ks ps))):∃a us,σ[i]?=some (some (.ref a))/\ks.length=us.length/\H a=some (.dT (kz ks us))/\G a=none/\H0 a=none/\ai W G ps us:=by
 obtain⟨o,ho,v,rfl,a,us,rfl,n,h1,h2,h3,l⟩:=sr.slot i _ h
 exact⟨a,us,ho,n,h1,h2,h3,l⟩
theorem JY(S:eO Γ F W N sc k E X){i:Nat}{x:Str}{kk e:Ci.E}{pk p:Expr}{np fW pos:Pos}(h:N[i]?=some x)(hv:fe sc x=true)(ho:okN x=true)(dI:fY e=true)(Se:bz Γ N sc kk pk=true)(hk:GE X W F kk pk)(he:GE X W F e p):GS X W F H0 E (.put i kk e) (.Assign [.Subscript (.Name x np) pk fW] p pos):=by
 have B2:swappedStores [.Subscript (.Name x np) pk fW] p X.env=pure none:=by cases p<;>rfl
 have ha:∀v,assign (.Subscript (.Name x np) pk fW) X.env v=(do
  let ov<-holding [v] (eval (.Name x np) X.env)
  let iv<-holding [v,ov] (eval pk X.env)
  standAt fW
  holding [v,ov,iv] (setItem ov iv v)
  release [v,ov,iv] []):=by
  intro v;cases pk<;>first|rfl|(cases kk<;>first|(exact aE Se)|(rename_i q;cases q<;>exact aE Se))
 refine L2.PS.imp (zL he (AA (iJ S h hv ho) hk (vY (by have:=S.C.room.un;omega)) ha) (by cases p<;>rfl) B2) λD σ H hq=>?_
 obtain⟨G,env,sr,o⟩:=hq
 rw [g6] at o;refine qO S sr o λq v G1 H1 g t bW o1=>?_
 split at o1
 ·rename_i ks ps hx;obtain⟨a,us,hs,n,h1,h2,h3,l⟩:=jq bW hx
  refine⟨.ref a,hs,qO S bW o1 λq2 v2 G2 H2 g2 t2 fU o2=>?_⟩
  split at o2
  ·rename_i kk JB;split at o2
   ·rename_i yv;have e2:=eV JB
    subst e2;obtain⟨b,rfl,hb⟩:=t2.top.tupI (ns:=kk) fU.sub rfl
    have pz:=g2.h.at h1 (λ_ z=>nomatch z)
    have v9:=g2.own a (by rw [h1];exact λz=>nomatch z) (by rw [h1];exact λ_ z=>nomatch z) h2
    have l':=ai.same g2.g ps l
    refine⟨a,upd H2 a (.dT (putK (kz ks us) (ki kk) v)),rfl,y7.t pz (by rw [pS];exact fU.sub _ _ hb) (by rw [fF n];exact zzW yv (by decide)),?_⟩;rw [vq n];obtain⟨r2,gg⟩:=mK (p':=.aX (bf ks kk) (bj ks ps kk q)) (ob:=.dT (kz (bf ks kk) (bj ks us kk v))) fU fU.go hx hs v9 h3 ⟨a,_,rfl,lH n kk v,aq,v9,h3,qx l' (Rep.same g2.g q (t.rep dI))⟩
    exact o2 _ G2 _ r2 gg
   ·exact o2.elim
  ·exact o2.elim
 ·exact o1.elim
theorem FQ(S:eO Γ F W N sc k E X){i:Nat}{x:Str}{np dp pos:Pos}(h:N[i]?=some x)(hl:fx sc x=true):GS X W F H0 E (.nV i) (.Assign [.Name x np] (.Dict [] [] dp) pos):=by
 obtain⟨a1,a2,a3⟩:=eE S h hl
 intro ae s σ H D I hq;have NF:i<σ.length:=by rw [I.len,S.C.hN];exact(zzH.mp h).1
 refine mU a1 a2 a3 Ct rfl (.inl (S.fn x)) ae s σ H D I ?_;obtain⟨G,env,sr,o⟩:=hq
 rw [g6] at o;intro p hp;obtain⟨r2,g2⟩:=uM (i:=i) (p:=.aX [] []) (ob:=.dT []) sr sr.go (by rw [sr.len];exact NF) hp ⟨p,[],rfl,rfl,aq,sr.sub.free hp,sr.base.free hp,.nil⟩
 exact o _ G _ r2 g2
theorem Ek(S:eO Γ F W N sc k E X){i:Nat}{x:Str}{e:Ci.E}{p:Expr}{np gp cp pos:Pos}(h:N[i]?=some x)(hl:fx sc x=true)(hg:iM sc "dict"=true)(hm:Γ.bs.contains "dict"=true)(he:GE X W F e p)
 (dS:∀env ps,starEach (p::ps) env=(false,eval p env)::starEach ps env):GS X W F H0 E (.rT i e) (.Assign [.Name x np] (.Call (.Name "dict" gp) [p] [] cp) pos):=by
 obtain⟨a1,a2,a3⟩:=eE S h hl
 intro ae s σ H D I hq;have NF:i<σ.length:=by rw [I.len,S.C.hN];exact(zzH.mp h).1
 refine mU a1 a2 a3 (d9 (m9 S.C.calm (by have:=S.C.room.un;omega)) (fv S.C hg) (S.C.bs _ (List.contains_iff_mem.mp hm)) (by decide+kernel) (cx he dU (dS _ _)) (he:=dS _ _) (hpl:=rfl)) rfl (.inl (S.fn x)) ae s σ H D I ?_;obtain⟨G,env,sr,o⟩:=hq
 rw [g6] at o;refine qO S sr o λq v G1 H1 g t bW o1=>?_
 cases hb:ir [q] with
 |exc c=>exact absurd hb (rG c)
 |bad=>rw [hb] at o1;exact o1.elim
 |ok r=>
  rw [hb] at o1;obtain⟨ks,qs,rfl,a,vs,aw,e1,h1,pw,zs,z1,z2,z3⟩:=tQ (X:=X) S.C.K bW.sub (.cons t.top .nil) hb
  refine⟨a,vs,aw,e1,h1,pw,λad hp=>?_⟩
  rw [z3];obtain⟨r2,g2⟩:=uM (i:=i) (p:=.aX ks qs) (ob:=.dT (kz ks zs)) bW bW.go (by rw [bW.len];exact NF) hp ⟨ad,zs,rfl,z1,aq,bW.sub.free hp,bW.base.free hp,z2⟩
  exact o1 _ G1 _ r2 g2
theorem x5(S:eO Γ F W N sc k E X){i j n:Nat}{x y z:Str}{np zp fW yp apos SA cE pos:Pos}(h:N[i]?=some x)(hv:fe sc x=true)(ho:okN x=true)(hz:N[n]?=some z)(Td:fe sc z=true)(S9:okN z=true)(hy:N[j]?=some y)(UD:fe sc y=true)(UZ:okN y=true)
 (mM:(apos.endLine==cE.line)=true):GS X W F H0 E (.fM i j n) (.Assign [.Subscript (.Name x np) (.Name z zp) fW] (.Call (.Attribute (.Name y yp) "pop" apos) [.Name z SA] [] cE) pos):=by
 have hu:X.A.units+1<cLine:=by have:=S.C.room.un;omega
 refine L2.PS.imp (zL (Fm hu (iJ S hy UD UZ) (iJ S hz Td S9) ⟨rfl,rfl,mM,rfl⟩) (AA (iJ S h hv ho) (iJ S hz Td S9) (vY hu) λ_=>rfl) (by unfold swapsWithSole;exact qF rfl) rfl) λD σ H hq=>?_
 obtain⟨G,env,sr,o⟩:=hq
 rw [g6] at o;split at o
 ·rename_i ks ps ks2 ps2 kp e1 e2 e3;split at o
  ·rename_i kk JB;split at o
   ·rename_i p hp;split at o
    ·rename_i yv;have ek:=eV JB
     subst ek;obtain⟨a,us,hs,nn,h1,h2,h3,l⟩:=jq sr e1
     obtain⟨ok,hk1,v,rfl,rv⟩:=sr.slot n _ e3
     obtain⟨b,rfl,hb⟩:=k7 rv
     obtain⟨w,hw,kw⟩:=qA l hp
     refine⟨.ref a,hs,a,rfl,.inr ⟨_,.inl h1⟩,.ref b,hk1,_,ki kk,b,w,h1,rfl,(by rw [pS];exact sr.sub _ _ hb),(by rw [jx];exact hw),?_⟩;rw [wK kk nn];obtain⟨r1,g1⟩:=mK (p':=.aX (cq ks kk) (bb ks ps kk)) (ob:=.dT (kz (cq ks kk) (bb ks us kk))) sr sr.go e1 hs h2 h3 ⟨a,_,rfl,r9 kk nn,aq,h2,h3,mV l⟩
     have S6:(env.set j (.own (.aX (cq ks kk) (bb ks ps kk))))[i]?=some (.own (.aX ks2 ps2)):=by rw [zzS (Ne.symm yv.2)];exact e2
     obtain⟨a2,us2,sV,n2,k1,k2,k3,l2⟩:=jq r1 S6
     refine⟨.ref a2,sV,.ref b,hk1,a2,_,rfl,y7.t k1 (by rw [pS];exact r1.sub _ _ hb) (by rw [fF n2];exact zzW yv.1 (by decide)),?_⟩;rw [vq n2];obtain⟨r2,g2⟩:=mK (p':=.aX (bf ks2 kk) (bj ks2 ps2 kk p)) (ob:=.dT (kz (bf ks2 kk) (bj ks2 us2 kk w))) r1 g1 S6 sV k2 k3 ⟨a2,_,rfl,lH n2 kk w,aq,k2,k3,qx l2 kw⟩
     exact o _ G _ r2 g2
    ·exact o.elim
   ·exact o.elim
  ·exact o.elim
 ·exact o.elim
end
end Ci
namespace L2
open PySem PySem.Spec PyProof.Rows
end L2
namespace Ci
open PySem L2
theorem ql:∀(cs:List Int) (all:List Int) (j b:Nat) (m:Int),all.drop j=cs->all[b]?=some m->b<j->(∀i c,all[i]?=some c->i<j->m<=c/\(i<b->m<c))->
 ∃m',all[fc cs j b m]?=some m'/\∀i c,all[i]?=some c->m'<=c/\(i<fc cs j b m->m'<c)
 |[],all,j,b,m,hd,hb,_,best=>by
  unfold fc;have hl:all.length<=j:=List.drop_eq_nil_iff.mp hd
  exact⟨m,hb,λi c e=>best i c e (zzW (zzH.mp e).1 hl)⟩
 |x::cs,all,j,b,m,hd,hb,hbj,best=>by
  have hx:all[j]?=some x:=by rw [<-List.head?_drop,hd];rfl
  have Oz:all.drop (j+1)=cs:=by rw [<-List.drop_drop,hd];rfl
  unfold fc;split
  ·rename_i bZ;refine ql cs all (j+1) j x Oz hx (by omega) λi c e hi=>?_
   by_cases h:i=j
   ·subst h;rw [hx] at e;cases e;exact⟨Int.le_refl _,λz=>absurd z (Nat.lt_irrefl _)⟩
   ·have:=best i c e (by omega)
    exact⟨by omega,λ_=>by omega⟩
  ·rename_i bZ;refine ql cs all (j+1) b m Oz hb (by omega) λi c e hi=>?_
   by_cases h:i=j
   ·subst h;rw [hx] at e;cases e;exact⟨by omega,λz=>by omega⟩
   ·exact best i c e (by omega)
theorem Fw{cs:List Int}{x:Nat}(h:BE cs=some x):∃m,cs[x]?=some m/\∀i c,cs[i]?=some c->m<=c/\(i<x->m<c):=by
 cases cs with
 |nil=>cases h
 |cons c cs=>
  cases h;refine ql cs (c::cs) 1 0 c rfl rfl (by omega) λi d e hi=>?_
  have:i=0:=by omega
  subst this;cases e;exact⟨Int.le_refl _,λz=>absurd z (Nat.not_lt_zero _)⟩
theorem n8{W:Wd}{G H:Hp}{K:PySem.W.Frag}(hK:W.K=K)(sg:aB G H):∀{ps:List PV} {us:List V} {cs:List Int},iK ps=some cs->ai W G ps us->cs.length=ps.length/\∀(i:Nat) v,us[i]?=some v->∃q r,v=V.ref q/\eP K H q (.int (cs.getD i 0)::r)
 |[],_,_,e,l=>by cases e;simp only [ai] at l;subst l;exact⟨rfl,λi v h=>by simp at h⟩
 |p::ps,us,cs,e,l=>by
  obtain⟨u,ur,rfl,h1,h2⟩:=l.aW
  unfold iK at e;split at e
  ·rename_i heq;cases heq
  ·rename_i heq;cases heq;obtain⟨r,hr,rfl⟩:=zzJ.mp e
   obtain⟨i1,i2⟩:=n8 hK sg hr h2
   refine⟨by simp [i1],λi v hv=>?_⟩
   cases i with
   |zero=>
    cases hv;simp only [Rep] at h1;obtain⟨q,ws,rfl,tq,lq⟩:=h1
    obtain⟨w,wr,rfl,k1,lq⟩:=lq.aW
    simp only [Rep] at k1;subst k1;exact⟨q,wr,rfl,by rw [<-hK];simpa using aB.tup sg tq.sq⟩
   |succ i=>simpa using i2 i v (by simpa using hv)
  ·cases e
section
variable{Γ:Pg}{X:Cx}{W:Wd}{F:aO}{N:List Str}{sc:Scope}{k:Nat}{H0:Hp}{E:XK}
theorem EN(S:eO Γ F W N sc k E X){m i:Nat}{x y:Str}{params:Arguments}{body:Expr}{scope:Scope}{yp q1 q2 q3 q4 q5 pos:Pos}(h1:N[m]?=some y)(h2:fx sc y=true)(h3:N[i]?=some x)(h4:sc.names.lookup x=some .cell)(h5:iM sc "min"=true)(h6:Γ.bs.contains "min"=true)(h7:Γ.hl=true)
 (h8:wR x params body scope=true):GS X W F H0 E (.qm m i) (.Assign [.Name y yp] (.Call (.Name "min" q1) [.Name x q2] [⟨some "key",.Lambda params body scope q3,q4⟩] q5) pos):=by
 obtain⟨a1,a2,a3⟩:=eE S h1 h2
 obtain⟨p,ep,L,hfr,hox⟩:=Ac h8
 have pe:PE X (.Call (.Name "min" q1) [.Name x q2] [⟨some "key",.Lambda params body scope q3,q4⟩] q5) (λσ H Q=>∃G env ks ps cs ix kk,SR W H0 env σ G H/\env[i]?=some (.own (.aX ks ps))/\iK ps=some cs/\BE cs=some ix/\ks[ix]?=some kk/\∀v G' H',aG W G H G' H'->Rep W G' (ah kk) v->Q v H'):=by
  intro ae s σ H Q I hq;obtain⟨G,env,ks,ps,cs,ix,kk,sr,e1,e2,e3,e4,q⟩:=hq
  obtain⟨d,us,hs,n,k1,k2,k3,l⟩:=jq sr e1
  obtain⟨c,eo⟩:=I.ok.has x (.inl (by show X.env.scope.names.lookup x=_;rw [S.C.eK];exact h4))
  have Hk:closureFor scope X.env=pure [(x,c)]:=by
   rw [iD λy hy hf=>?_]
   ·show pure (bU X.env (bu scope))=_
    rw [hfr];simp [bU,eo]
   ·have:y.1∈bu scope:=by
     unfold bu;rw [List.mem_reverse,List.mem_map];exact⟨y,List.mem_filter.mpr ⟨hy,by rw [hf];rfl⟩,rfl⟩
    rw [hfr] at this;rw [zzi.mp this];exact⟨c,eo⟩
  refine wpAny_Call_Name_kw (fb I (fv S.C h5) (S.C.bs _ (List.contains_iff_mem.mp h6)) (u:=.builtin "min") (by decide+kernel) ?_);refine PyProof.Rows.callWith_kw ?_;refine Calls.spliced_cons (bX (fK (i:=i) (by rw [S.C.hN];exact h3) (.inr (.inl (by show X.env.scope.names.lookup x=_;rw [S.C.eK];exact h4))) (dQ hox).1 (dQ hox).2.1 ae s σ H (λv' H1=>v'=.ref d/\H1=H) I ⟨_,hs,rfl,rfl⟩) λu s1 hu=>Calls.spliced_nil ?_)
  obtain⟨v',H1,I1,ru,rfl,rfl⟩:=hu
  cases ru;refine PyProof.Rows.kws_cons (bX (Ba S.C h7 ep Hk ae s1 σ H1 (λv2 H2=>∃f G2,v2=.ref f/\qM X W params body scope [(x,c)] G H1 G2 H2 f) I1 ⟨G,sr.sub,sr.tab,λf G2 H2 lm=>⟨f,G2,rfl,lm⟩⟩) λu s2 hu=>PyProof.Rows.kws_nil ?_)
  obtain⟨v2,H2,I2,ru,f,G2,rfl,g2,c',oc,dq,t,fJ,pm,fo,co,cd,cn⟩:=hu
  cases ru;have fU:=sr.grow g2
  obtain⟨d',us',yk,n',k1',k2',k3',l'⟩:=jq fU e1
  rw [hs] at yk;cases yk;obtain⟨cl1,cl2⟩:=n8 (K:=X.K) S.C.K fU.sub e2 l'
  have M:KM X σ H2 k d f (kz ks us') (λi=>cs.getD i 0):=by
   refine⟨S.C.room,k1',⟨p,x,params,body,scope,_,c,c',oc,dq,t,pm,fJ,i,L,eo,I.ok.LX x c (S.C.fl h7 x) eo,fU.sub _ _ fo,fU.sub _ _ co,cd,cn,λu=>vT ep [u] rfl,by rw [S.C.hN];exact h3,hs,by rw [S.C.eK];exact h4⟩,λj kx v e=>?_⟩
   have:us'[j]?=some v:=by
    unfold kz at e;rw [List.getElem?_zip_eq_some] at e;exact e.2
   exact cl2 j v this
  obtain⟨mm,L5,RF⟩:=Fw e3
  have RH:ix<ks.length:=(zzH.mp e4).1
  have Vg:cs.length=ks.length:=by rw [cl1,<-l'.length,n']
  refine yq M (by rw [fF n'];omega) I2 λj kx v b e hb best=>?_
  rw [fF n'] at best;have hj:j<ks.length:=by
   have:=(zzH.mp e).1
   rw [fF n'] at this;exact this
  have ej:j=ix:=by
   have ca:∀a,a<cs.length->cs[a]?=some (cs.getD a 0):=λa ha=>by simp [ha]
   have b1:=best ix RH
   have b2:=RF j _ (ca j (by omega))
   have em:mm=cs.getD ix 0:=by rw [ca ix (by omega)] at L5;exact(Option.some.inj L5).symm
   rw [em] at b2;rcases Nat.lt_trichotomy j ix with z|z|z
   ·have:=b2.2 z;have:=b1.1;omega
   ·exact z
   ·have:=b1.2 z;have:=b2.1;omega
  subst ej;have ek:kx=ki kk:=by
   have:=congrArg (λl=>l[j]?) (qi (us:=us') n')
   simp only [zzQ,e,e4,Option.map_some] at this;exact Option.some.inj this
  rw [ek,pS] at hb;obtain⟨G3,g3,l3⟩:=gY (W:=W) (vs:=[.ref b]) (nss:=[kk]) fU.sub (.cons ⟨b,rfl,hb⟩ .nil)
  obtain⟨w,r,ew,hw,_⟩:=l3.aW
  cases ew;exact q _ _ _ (g2.trans g3) hw
 refine L2.PS.imp (mU a1 a2 a3 pe rfl (.inl (S.fn y))) λD σ H hq=>?_
 obtain⟨G,env,sr,o⟩:=hq
 rw [g6] at o;split at o
 ·rename_i ks ps hx;split at o
  ·rename_i cs hcs;split at o
   ·rename_i kk JB;obtain⟨ix,GJ,hk2⟩:=zzZ.mp JB
    exact⟨G,env,ks,ps,cs,ix,kk,sr,hx,hcs,GJ,hk2,λv G' H' g' rp=>o _ G' _ ((sr.grow g').set m rp) (sr.on g')⟩
   ·exact o.elim
  ·exact o.elim
 ·exact o.elim
end
section
variable{Γ:Pg}{X:Cx}{W:Wd}{F:aO}{N:List Str}{sc:Scope}{k:Nat}{H0:Hp}{E:XK}
theorem tx{e:Ci.E}(h:i8 e=true):∀env q,aQ F e env=.ok q->∃xs,q=.lst xs:=by
 cases e<;>first|(exact aE h)|exact lst_is|exact wY|exact oR
theorem oA(S:eO Γ F W N sc k E X){i:Nat}{x:Str}{xp pos:Pos}(hx:N[i]?=some x)(CZ:fx sc x=true)(e:Ci.E)(p:Expr)(hf:i8 e=true)(h:bz Γ N sc e p=true):PS X (.Assign [.Name x xp] p pos) (LQ X W F i e):=by
 cases e with
 |lst as=>
  obtain⟨ps,e,h1⟩:=aj h
  obtain⟨_,rfl⟩:=Cu e
  have h2:=aC h1
  have h0:=aC h2.1
  exact qo S hx CZ (Aj h0.1 (zzY h0.2) (lU as S.C _ h2.2)) rfl
 |comp kk bq tg it elt=>
  obtain⟨fg,gens,scope,_,rfl,h1⟩:=Pe h
  obtain⟨⟨dn,gf,ifs,asy⟩,z2,h2⟩:=lN h1
  have h3:=aC h2
  have z3:=Kb h3.1
  dsimp only at z2 z3;subst z2 z3
  clear h h1 h2
  have h:=aC h3.2
  clear h3
  simp only [zza] at h;obtain⟨⟨⟨⟨⟨⟨h1,h2⟩,h3⟩,h4⟩,h5⟩,h6⟩,iw⟩:=h
  have iw:=zzY iw
  subst iw;exact BX S hx CZ (jn h1) h2 h3 (B6 it S.C dn gf h4) (i7 h4 _) h5 λY CY=>(bJ elt CY fg h6).ge
 |cH kk bq tg it c elt=>
  obtain⟨fg,gens,scope,_,rfl,h1⟩:=Pe h
  obtain⟨⟨dn,gf,ifs,asy⟩,z2,h2⟩:=lN h1
  obtain⟨pc,z3,h3⟩:=lN h2
  dsimp only at z2 z3;subst z2 z3
  clear h h1 h2
  have h:=aC h3
  clear h3
  simp only [zza] at h;obtain⟨⟨⟨⟨⟨⟨⟨⟨h0,h1⟩,h2⟩,h3⟩,h4⟩,h5⟩,h6⟩,h7⟩,iw⟩:=h
  have iw:=zzY iw
  subst iw;exact vz S hx CZ (jn h1) h2 h3 (B6 it S.C dn gf h4) (i7 h4 _) h5 (λY CY=>(bJ c CY pc h6).gt h0) λY CY=>(bJ elt CY fg h7).ge
 |_=>exact aE hf
theorem yA{e:Ci.E}{p:Expr}(h:bz Γ N sc e p=true)(hf:i8 e=false):pP p=true:=by
 cases p<;>first|rfl|(cases e<;>first|(exact aE h)|(rename_i q;cases q<;>exact aE h)|(cases hf;done))
theorem zf(S:eO Γ F W N sc k E X){i:Nat}{x:Str}{e:Ci.E}{p:Expr}{xp pos:Pos}(h:N[i]?=some x)(hl:fx sc x=true)(dI:fY e=true)(hc:bz Γ N sc e p=true):GS X W F H0 E (.set i e) (.Assign [.Name x xp] p pos):=by
 cases hf:i8 e with
 |true=>exact Fh S (tx hf) dI (oA S h hl e p hf hc)
 |false=>exact Kl S h hl dI (bJ e S.C p hc).ge (qF (yA hc hf))
theorem zO(S:eO Γ F W N sc k E X)(e:Ci.E)(p:Stmt)(h:fh Γ N sc (.expr e) p=true):GS X W F H0 E (.expr e) p:=by
 cases p<;>first|(exact aE h)|skip
 replace h:=aC h
 try simp only [zza] at h
 exact DV S (bJ e S.C _ h.2).ge h.1
theorem Ga(S:eO Γ F W N sc k E X)(i:Nat)(e:Ci.E)(p:Stmt)(h:fh Γ N sc (.set i e) p=true):GS X W F H0 E (.set i e) p:=by
 cases p<;>first|(exact aE h)|skip
 replace h:=aj h
 simp only [Option.any_eq_true,zza,beq_iff_eq] at h;obtain⟨x,h0,h1⟩:=h
 obtain⟨xp,rfl⟩:=mZ h0
 exact zf S h1.1.1.1 h1.1.1.2 h1.1.2 h1.2
theorem EV(S:eO Γ F W N sc k E X)(i:Nat)(e:Ci.E)(p:Stmt)(h:fh Γ N sc (.own i e) p=true):GS X W F H0 E (.own i e) p:=by
 cases p<;>first|(exact aE h)|skip
 replace h:=aj h
 simp only [Option.any_eq_true,zza,beq_iff_eq] at h;obtain⟨x,h0,h⟩:=h
 obtain⟨xp,rfl⟩:=mZ h0
 exact CV S h.1.1.1 (tx h.1.2) (oA S h.1.1.1 h.1.1.2 e _ h.1.2 h.2)
theorem EK(S:eO Γ F W N sc k E X)(i:Nat)(p:Stmt)(h:fh Γ N sc (.bK i) p=true):GS X W F H0 E (.bK i) p:=by
 cases p<;>exact aE h
theorem FT(S:eO Γ F W N sc k E X)(i:Nat)(e:Ci.E)(p:Stmt)(h:fh Γ N sc (.app i e) p=true):GS X W F H0 E (.app i e) p:=by
 cases p<;>first|(exact aE h)|skip
 replace h:=aj h
 simp only [Option.any_eq_true,zza,beq_iff_eq] at h;obtain⟨⟨x,m,args⟩,h0,⟨⟨⟨⟨h1,h2⟩,h3⟩,h4⟩,h5⟩,q,h6,h7⟩:=h
 obtain⟨np,apos,cE,rfl,hl⟩:=uu h0
 cases dH h6;cases h4;exact Lg S h1 h2 h3 hl h5 (bJ e S.C q h7).ge (notStar h7)
theorem AG(S:eO Γ F W N sc k E X)(i:Nat)(e:Ci.E)(p:Stmt)(h:fh Γ N sc (.rN i e) p=true):GS X W F H0 E (.rN i e) p:=by
 cases p<;>first|(exact aE h)|skip
 replace h:=aj h
 simp only [Option.any_eq_true,zza,beq_iff_eq] at h;obtain⟨⟨x,m,args⟩,h0,⟨⟨⟨h1,h2⟩,h3⟩,h4⟩,q,h6,h7⟩:=h
 obtain⟨np,apos,cE,rfl,hl⟩:=uu h0
 cases dH h6;cases h4;exact F9 S h1 h2 h3 hl (bJ e S.C q h7).ge (notStar h7)
theorem FY(S:eO Γ F W N sc k E X)(i:Nat)(kk e:Ci.E)(p:Stmt)(h:fh Γ N sc (.put i kk e) p=true):GS X W F H0 E (.put i kk e) p:=by
 cases p<;>first|(exact aE h)|skip
 replace h:=aj h
 simp only [Option.any_eq_true,zza,beq_iff_eq] at h;obtain⟨⟨x,pk⟩,h0,⟨⟨⟨⟨h1,h2⟩,h3⟩,h5⟩,h6⟩,h7⟩:=h
 obtain⟨np,sp,rfl⟩:=zF h0
 exact JY S h1 h2 h3 h5 h6 (bJ kk S.C pk h6).ge (bJ e S.C _ h7).ge
theorem A9(S:eO Γ F W N sc k E X)(i:Nat)(p:Stmt)(h:fh Γ N sc (.nV i) p=true):GS X W F H0 E (.nV i) p:=by
 cases p<;>first|(exact aE h)|skip
 rename_i ts v pos;cases v<;>first|(exact aE h)|skip
 rename_i ks vs dp;cases ks<;>first|(exact aE h)|skip
 cases vs<;>first|(exact aE h)|skip
 replace h:=aj h
 simp only [Option.any_eq_true,zza,beq_iff_eq] at h;obtain⟨x,h0,h1,h2⟩:=h
 obtain⟨yp,rfl⟩:=mZ h0
 exact FQ S h1 h2
theorem AH(S:eO Γ F W N sc k E X)(i:Nat)(e:Ci.E)(p:Stmt)(h:fh Γ N sc (.rT i e) p=true):GS X W F H0 E (.rT i e) p:=by
 cases p<;>first|(exact aE h)|skip
 obtain⟨x,h0,h1⟩:=aj h
 obtain⟨g,as,_,_,rfl,h2⟩:=CI h1
 obtain⟨q,rfl,h3⟩:=lN h2
 obtain⟨yp,rfl⟩:=mZ h0
 simp only [zza,beq_iff_eq] at h3;obtain⟨⟨⟨⟨⟨rfl,h4⟩,h5⟩,h6⟩,h7⟩,h8⟩:=h3
 exact Ek S h6 h7 h4 h5 (bJ e S.C q h8).ge (notStar h8)
theorem uh(S:eO Γ F W N sc k E X)(i j n:Nat)(p:Stmt)(h:fh Γ N sc (.fM i j n) p=true):GS X W F H0 E (.fM i j n) p:=by
 cases p<;>first|(exact aE h)|skip
 replace h:=aj h
 simp only [Option.any_eq_true,zza,beq_iff_eq] at h;obtain⟨⟨x,pk⟩,h0,z,hz,⟨⟨⟨⟨⟨h1,h2⟩,h3⟩,h4⟩,h5⟩,h6⟩,⟨y,m,args⟩,h7,h8,e,he,z2,P8,⟨⟨h9,h10⟩,h11⟩,Pb⟩:=h
 obtain⟨np,sp,rfl⟩:=zF h0
 obtain⟨zp,rfl⟩:=cO hz
 obtain⟨yp,apos,cE,rfl,hl⟩:=uu h7
 cases h8;cases dH he;obtain⟨SA,rfl⟩:=cO P8
 subst h9;exact x5 S h1 h2 h3 h4 h5 h6 h10 h11 Pb hl
theorem BY(S:eO Γ F W N sc k E X)(m i:Nat)(p:Stmt)(h:fh Γ N sc (.qm m i) p=true):GS X W F H0 E (.qm m i) p:=by
 cases p<;>first|(exact aE h)|skip
 replace h:=aj h
 simp only [Option.any_eq_true,zza,beq_iff_eq] at h;obtain⟨y,hy,c,hc,⟨⟨⟨⟨⟨⟨h1,h2⟩,h3⟩,h4⟩,h5⟩,h6⟩,h7⟩,h8⟩:=h
 obtain⟨yp,rfl⟩:=mZ hy
 obtain⟨q1,q2,q3,q4,q5,rfl⟩:=Lj hc
 exact EN S h1 h2 h3 h4 h5 h6 h7 h8
theorem DI(S:eO Γ F W N sc k E X)(e:Ci.E)(p:Stmt)(h:fh Γ N sc (.ret e) p=true):GS X W F H0 E (.ret e) p:=by
 cases p<;>first|(exact aE h)|skip
 rename_i v pos;cases v with
 |none=>exact aE h
 |some v=>
  replace h:=aC h
  try simp only [zza] at h
  exact Kd S h.1 (bJ e S.C v h.2).ge
theorem yQ(S:eO Γ F W N sc k E X)(c m:Str)(p:Stmt)(h:fh Γ N sc (.raise c m) p=true):GS X W F H0 E (.raise c m) p:=by
 cases p<;>first|(exact aE h)|skip
 replace h:=aC h
 simp only [Option.any_eq_true,zza,beq_iff_eq] at h;obtain⟨hn,⟨x,z⟩,h0,⟨⟨⟨h1,h2⟩,h3⟩,h4⟩,h5⟩:=h
 obtain⟨np,j,zp,cp,rfl⟩:=Lu h0
 cases h1;cases h2;rename_i fr pos;cases Option.isNone_iff_eq_none.mp hn;exact AN S h3 h4 h5
theorem Du(S:eO Γ F W N sc k E X)(p:Stmt)(h:fh Γ N sc (.brk) p=true):GS X W F H0 E (.brk) p:=by
 cases p<;>first|(exact aE h)|skip
 exact JC
theorem FL{c:Ci.E}{a b:Ss}{p:Stmt}(h:fh Γ N sc (.ite c a b) p=true):∃q pa pb pos,p=.If q pa pb pos/\fZ c=true/\bz Γ N sc c q=true/\dz Γ N sc a pa=true/\dz Γ N sc b pb=true:=by
 cases p<;>first|(exact aE h)|skip
 replace h:=aC h
 try simp only [zza] at h
 exact⟨_,_,_,_,rfl,h.1.1.1,h.1.1.2,h.1.2,h.2⟩
theorem C3{tg:Tg}{it:I}{b:Ss}{p:Stmt}(h:fh Γ N sc (.dc tg it b) p=true):∃dn gf pb pos,p=.For dn gf pb [] pos/\ie N sc (λ_=>true) tg dn=true/\Ei it=true/\x9 Γ N sc dn it gf=true/\dz Γ N sc b pb=true:=by
 cases p<;>first|(exact aE h)|skip
 replace h:=aC h
 try simp only [zza] at h
 cases List.isEmpty_iff.mp h.1.1.1.1;exact⟨_,_,_,_,rfl,h.1.1.1.2,h.1.1.2,h.1.2,h.2⟩
theorem DW{c:Ci.E}{b:Ss}{p:Stmt}(h:fh Γ N sc (.E0 c b) p=true):∃q pb pos,p=.While q pb [] pos/\fZ c=true/\bz Γ N sc c q=true/\dz Γ N sc b pb=true:=by
 cases p<;>first|(exact aE h)|skip
 replace h:=aC h
 try simp only [zza] at h
 cases List.isEmpty_iff.mp h.1.1.1;exact⟨_,_,_,rfl,h.1.1.2,h.1.2,h.2⟩
theorem F8{ps:List Stmt}(h:dz Γ N sc .nil ps=true):ps=[]:=by
 cases ps with
 |nil=>rfl
 |cons _ _=>exact aE h
theorem AI{s:Ci.S}{ss:Ss}{ps:List Stmt}(h:dz Γ N sc (.cons s ss) ps=true):(∃i,s=.bK i/\dz Γ N sc ss ps=true)\/∃q qs,ps=q::qs/\fh Γ N sc s q=true/\dz Γ N sc ss qs=true:=by
 by_cases hz:∃i,s=.bK i
 ·obtain⟨i,rfl⟩:=hz
  exact .inl ⟨i,rfl,h⟩
 ·cases ps with
  |nil=>cases s<;>first|(exact absurd ⟨_,rfl⟩ hz)|(exact aE h)
  |cons p ps=>
   have h2:(fh Γ N sc s p&&dz Γ N sc ss ps)=true:=by
    cases s<;>first|(exact absurd ⟨_,rfl⟩ hz)|(exact h)
   rw [zza] at h2;exact .inr ⟨p,ps,rfl,h2.1,h2.2⟩
mutual
theorem Po(S:eO Γ F W N sc k E X):∀(s:Ci.S) (p:Stmt),fh Γ N sc s p=true->GS X W F H0 E s p
 |.expr e,p,h=>zO S e p h
 |.set i e,p,h=>Ga S i e p h
 |.own i e,p,h=>EV S i e p h
 |.bK i,p,h=>EK S i p h
 |.app i e,p,h=>FT S i e p h
 |.rN i e,p,h=>AG S i e p h
 |.put i kk e,p,h=>FY S i kk e p h
 |.rT i e,p,h=>AH S i e p h
 |.nV i,p,h=>A9 S i p h
 |.fM i j n,p,h=>uh S i j n p h
 |.qm m i,p,h=>BY S m i p h
 |.ret e,p,h=>DI S e p h
 |.ite c a b,p,h=>by
  obtain⟨q,pa,pb,pos,rfl,h1,h2,h3,h4⟩:=FL h
  exact HI S ((bJ c S.C _ h2).gt h1) (mB S a _ h3) (mB S b _ h4)
 |.dc tg it b,p,h=>by
  obtain⟨dn,gf,pb,pos,rfl,h1,h2,h3,h4⟩:=C3 h
  exact Jh S h1 h2 (B6 it S.C dn gf h3) (i7 h3 _) (mB S b _ h4)
 |.E0 c b,p,h=>by
  obtain⟨q,pb,pos,rfl,h1,h2,h3⟩:=DW h
  exact IK S ((bJ c S.C _ h2).gt h1) (mB S b _ h3)
 |.raise c m,p,h=>yQ S c m p h
 |.brk,p,h=>Du S p h
theorem mB(S:eO Γ F W N sc k E X):∀(ss:Ss) (ps:List Stmt),dz Γ N sc ss ps=true->CQ X W F H0 E ss ps
 |.nil,ps,h=>by
  cases F8 h;exact DU
 |.cons s ss,ps,h=>by
  rcases AI h with⟨i,e,h2⟩|⟨q,qs,e,h1,h2⟩
  ·have:=DB (i:=i) (mB S ss ps h2)
   rw [<-e] at this;exact this
  ·rw [e];exact zZ (Po S s q h1) (mB S ss qs h2)
end
end
end Ci
namespace L2
open PySem PySem.Spec PyProof.Rows
theorem Ad{K:PySem.W.Frag}{C:Addr}{T:String}{b:Bool}(h1:PySem.W.kitMeta T=true)(h3:PySem.W.subIn K (.ref C) (.type T)=some b):PySem.W.kitOne K (.ref C) (.type T)=some b:=by
 unfold PySem.W.kitOne;split
 ·rename_i e;cases beq_iff_eq.mp e
 ·show(if PySem.W.kitMeta T=true then PySem.W.subIn K (.ref C) (.type T) else none)=some b
  rw [if_pos h1];exact h3
theorem Lr{K:PySem.W.Frag}{h:Heap}{mg:Str->Option Value}{x:Str}{C:Addr}{Tf:List Value}{newId:String}(X:K.In h)(hm:mg x=some (.ref C))(q:PySem.W.excIn K C Tf newId=true):OwnCls x C Tf newId mg h:=by
 constructor
 ·exact hm
 ·unfold PySem.W.excIn at q;split at q
  ·rename_i dd cd sl ho;split at q
   ·rename_i C1 bm1 k0 k1 k2 k3 n1 k5 L5 GR;simp only [zza,beq_iff_eq,Bool.not_eq_true'] at q;obtain⟨⟨⟨⟨⟨q1,q2⟩,q3⟩,q4⟩,q5⟩,q6⟩:=q
    subst q1 q2;obtain⟨nm,bs,mro,ns,qn,hd,sn,sub,ab,col,del⟩:=cd
    have RF:mro=.ref C1::bm1:=L5
    have hd2:del=false:=q3
    have Tq:PySem.W.nsOkIn K ns=true:=q5
    have Vy:PySem.W.nsIn K ns "__init__"=some none:=q6
    subst RF hd2;obtain⟨ls⟩:=sl
    have sV:ls=[k0,k1,k2,k3,some (.builtin n1),k5]:=GR
    subst sV;exact⟨bm1,ns,nm,qn,bs,hd,sn,sub,ab,col,dd,k0,k1,k2,k3,k5,_,X _ _ ho,.of_isNs (PySem.W.isNs_of_in X Tq),PySem.W.nsMap_none_of_in X Tq Vy,PySem.W.tail_of_in X q4⟩
   ·cases q
  ·cases q
end L2
namespace Ci
open PySem L2
abbrev Bm:List Value:=[.type "ValueError",.type "Exception",.type "BaseException",.type "object"]
structure uA(K:PySem.W.Frag)(mg:Str->Option Value)(Γ:Pg)(W:Wd):Prop where
 hK:W.K=K
 hm:W.mg=mg
 gs:∀q∈Γ.gs,∃u v,mg q.1=some u/\RelV v u/\∀G,Rep W G q.2 v
 bs:∀g∈Γ.bs,mg g=none
 O5:Γ.cs.contains "ValueError"=false
 cls:∀c∈Γ.cs,∃C,mg c=some (.ref C)
 xc:∀d∈W.xs,∀D,mg d=some (.ref D)->K6 K D/\(∀c∈Γ.cs,∀C,mg c=some (.ref C)->PySem.W.kitOne K (.ref D) (.ref C)=some (c==d||c=="FloorError"))/\PySem.W.kitOne K (.ref D) (.type "ValueError")=some true
 xs:∀c,Γ.rs.contains c=true->c∈W.xs
 rm:∀c,Γ.rs.contains c=true->∃C,mg c=some (.ref C)/\PySem.W.excIn K C Bm "ValueError.__new__"=true
 OS:Γ.cs.contains "FloorError"=true->∀c D,c∈W.xs->mg c=some (.ref D)->∀T,mg "FloorError"=some (.ref T)->PySem.W.exmOne K (.ref D) (.ref T)=some true
 bm:W.ts≠[]->∃bm o,mg "__builtins__"=some (.ref bm)/\bm≠builtinsNs/\bm≠mainGlobals/\K.lookup bm=some o/\o.cls=.type "module"/\o.dict=some builtinsNs/\o.data=.plain
structure Row where
 f:Str
 h:Str
 d:Def
 st:Stmt
 hl:Bool:=false
abbrev eL:Type:=List Row
def n0(l:eL):List Str:=l.filterMap λr=>if r.d.iN.isNone then some r.f else none
def yE(l:eL):List Hs:=l.filterMap λr=>r.d.iN.map λq=>⟨r.f,r.h,q.1,q.2,r.d.np⟩
def tab(l:eL):List (Str×Def):=l.map λq=>(q.f,q.d)
noncomputable def Pg.at(Γ:Pg)(l:eL)(hl:Bool):Pg:={Γ with fs:=n0 l,hs:=yE l,hl:=hl}
structure cJ(Γ:Pg)(n:Str)(d:Def)(st:Stmt):Prop where
 sc:lx d.N (d.N.take d.np) (bh st)
 np:d.np<=d.N.length
 bind:∀(kV doc pm:Value) (an:Option Addr) (fT ct:Value) (us:List Value),us.length=(d.N.take d.np).length->bindArgs (PySem.W.fnOf n n (du st) (cV st) (bh st) .none kV doc pm an fT ct) ⟨us,[]⟩=pure ((d.N.take d.np).zip us)
 Va:dz Γ d.N (bh st) d.body (cV st)=true
theorem stM{Γ:Pg}{n:Str}{d:Def}{st:Stmt}(b:∀(kV doc pm:Value) (an:Option Addr) (fT ct:Value) (us:List Value),us.length=(d.N.take d.np).length->bindArgs (PySem.W.fnOf n n (du st) (cV st) (bh st) .none kV doc pm an fT ct) ⟨us,[]⟩=pure ((d.N.take d.np).zip us))
 (a1:(bh st).kind=.function:=by rfl) (a2:(bh st).isCoroutine=false:=by rfl) (a3:(bh st).isGenerator=false:=by rfl) (a4:d.N.Nodup:=by decide+kernel) (a5:d.N.take (d.N.take d.np).length=d.N.take d.np:=by rfl)
 (a6:∀x∈d.N.take d.np,(bh st).names.lookup x=some .local\/(bh st).names.lookup x=some .cell:=by decide+kernel) (a7:∀y∈(bh st).names,y.2≠.free:=by decide+kernel) (a8:d.np<=d.N.length:=by decide+kernel) (a9:dz Γ d.N (bh st) d.body (cV st)=true:=by decide+kernel):cJ Γ n d st:=⟨⟨a1,a2,a3,a4,a5,a6,a7⟩,a8,b,a9⟩
def gL(K:PySem.W.Frag)(c P:Addr):Prop:=∃o vs file tf flags tg RO text tt,K.lookup c=some o/\o.cls=.type "code"/\o.data=.fields vs/\vs[11]?=some (.ref P)/\vs.getD 11 .none=.ref P/\vs.getD 18 .none=.str file tf/\
 vs.getD 7 .none=.int flags tg/\vs.getD 9 .none=.bool RO/\vs.getD 10 .none=.int text tt/\c≠P
def n4(n:Str):Str:=(n++".<locals>.")++"<lambda>"
def yD(K:PySem.W.Frag)(ts:List (Addr×Str))(hl:Bool)(n:Str)(st:Stmt):Prop:=∃(f:Addr) (oc:Value) (od:Option Addr) (kV doc pm:Value) (an:Option Addr) (fT ct:Value) (u4:Array (Option Value)),
 PySem.W.nsIn K mainGlobals n=some (some (.ref f))/\K.lookup f=some ⟨oc,od,.func (PySem.W.fnOf n n (du st) (cV st) (bh st) .none kV doc pm an fT ct),u4⟩/\PySem.W.codeIn K fT n=true/\PySem.W.keepIn K (.ref f)=true/\
 (hl=true->∃c P,fT=.ref c/\gL K c P/\(P,n4 n)∈ts/\∀q',(P,q')∈ts->q'=n4 n)
theorem Ro{K:PySem.W.Frag}{ts:List (Addr×Str)}{n:Str}{st:Stmt}{f:Addr}{oc:Value}{od:Option Addr}{kV doc pm:Value}{an:Option Addr}{fT ct:Value}{u4:Array (Option Value)}(a:PySem.W.nsIn K mainGlobals n=some (some (.ref f)))
 (l:K.lookup f=some ⟨oc,od,.func (PySem.W.fnOf n n (du st) (cV st) (bh st) .none kV doc pm an fT ct),u4⟩) (c:PySem.W.codeIn K fT n=true) (k:PySem.W.keepIn K (.ref f)=true):yD K ts false n st:=⟨f,oc,od,kV,doc,pm,an,fT,ct,u4,a,l,c,k,(λz=>nomatch z)⟩
structure pQ(P:Program)(w:World)(K:PySem.W.Frag)(mg:Str->Option Value)(base:Heap)(W:Wd)(F:aO)(k:Nat)(f:Str):Prop where
 ex:∃fa fd ps,gq P w K mg base (d8 P w) k fa fd ps (zm W F f ps.length none)/\mg f=some (.ref fa)/\PySem.W.keepIn K (.ref fa)=true/\Binds K fd ps []/\∀as,F f as≠.bad->as.length=ps.length
structure Lh(P:Program)(w:World)(K:PySem.W.Frag)(mg:Str->Option Value)(base:Heap)(W:Wd)(F:aO)(k:Nat)(q:Hs):Prop where
 ex:∃fa fd ps,gq P w K mg base (d8 P w) k fa fd ps (zm W F q.f ps.length (some (q.g,q.idx)))/\mg q.h=some (.ref fa)/\PySem.W.keepIn K (.ref fa)=true/\Binds K fd ps []/\ps.length=q.np
section
variable{P:Program}{w:World}{K:PySem.W.Frag}{mg:Str->Option Value}{base:Heap}{Γ:Pg}{W:Wd}
theorem yW{c p:Addr}(KB:K.In base)(h:gL K c p):PySem.W.CodeHd base c p:=by
 obtain⟨o,vs,file,tf,flags,tg,RO,text,tt,e,r⟩:=h
 exact⟨o,vs,file,tf,flags,tg,RO,text,tt,KB _ _ e,r⟩
theorem JZ(M:uA K mg Γ W)(KB:K.In base){F:aO}{k:Nat}{N ps:List Str}{qual:Str}{sc:Scope}(S:lx N ps sc)(hF:∀f,Γ.fs.contains f=true->pQ P w K mg base W F k f)(hH:∀q∈Γ.hs,Lh P w K mg base W F k q)(hA:∀g as,F g as≠.bad->Γ.fs.contains g=true\/gv g=true){f:Addr}{cd:Value}
 (hL:Γ.hl=true->∃c p,cd=.ref c/\gL K c p/\(p,n4 qual)∈W.ts/\∀q',(p,q')∈W.ts->q'=n4 qual) {A:Around} {outer:List Env} {s:Shared} {H:Hp} {E:XK} (hr:dM (k+1) (A.deeper (PyProof.Rows.envOfC qual sc s.heap.objs.size f cd))):
 eO Γ F W N sc k E (dW (d8 P w) P w K mg base N qual sc f cd A outer s H E) where
 C:=⟨rfl,rfl,rfl,S.nd,M.hK,M.hm,M.gs,M.bs,hr,λg hg=>⟨(hF g hg).ex⟩,M.O5,M.cls,M.xc,λq hq=>⟨(hH q hq).ex⟩,hA,λz=>by
  obtain⟨c,p,e1,e2,e3,e4⟩:=hL z
  exact⟨c,p,e1,yW KB e2,e3,e4⟩,λz=>by
  obtain⟨c,p,e1,e2,e3,e4⟩:=hL z
  obtain⟨bm,o,b1,b2,b3,b4,b5⟩:=M.bm (λy=>by rw [y] at e3;cases e3)
  exact⟨bm,o,b1,b2,b3,KB _ _ b4,b5⟩,λ_ _=>rfl⟩
 fn:=λ_=>rfl
 own:=PassesOwn.leaving
 pass:=Na
 kind:=S.kind
 Mu:=rfl
 frame:=rfl
 xs:=M.xs
 rm:=λc hc=>let⟨C,h,_⟩:=M.rm c hc;⟨C,h⟩
 rz:=λc z j np zp cp pos h1 h2 h3=>by
  obtain⟨C,hC,hx⟩:=M.rm c h1
  have hg:Gl (dW (d8 P w) P w K mg base N qual sc f cd A outer s H E) c:=beq_iff_eq.mp h2
  refine L2.PS.imp (BU hg (Lr KB hC hx) PySem.F.excBase_ValueError (cx B7 dU) rfl rfl (dQ h3).1) λD σ H1 h=>⟨(show 1<=sizeLine by decide),λe he=>h C e hC he⟩
 OS:=M.OS
theorem rF{H G:Hp}{N:List Str}{as:List PV}{vs:List V}(sg:aB G H)(tb:cU W G H)(l:ai W G as vs)(hn:as.length<=N.length):SR W H (as.map .val++List.replicate (N.length-as.length) .no) (start N vs) G H:=by
 have hl:=l.length
 unfold L2.start;refine⟨by simp;omega,sg,hJ.refl _,λi s e=>?_,λi j p q a e1 _ _ _=>?_,tb,tb⟩
 ·by_cases hi:i<as.length
  ·rw [List.getElem?_append_left (by simpa using hi),zzQ] at e;obtain⟨p,hp,rfl⟩:=zzJ.mp e
   obtain⟨v,hv,rv⟩:=l.jW hp
   exact⟨some v,by rw [List.getElem?_append_left (by simpa using (show i<vs.length by omega)),zzQ,hv];rfl,v,rfl,rv⟩
  ·rw [List.getElem?_append_right (by simpa using hi),List.getElem?_replicate] at e;split at e
   ·rename_i h2;cases e;rw [zzl] at h2;exact⟨none,by rw [List.getElem?_append_right (by simp;omega),List.getElem?_replicate,if_pos (by rw [zzl];omega)],trivial⟩
   ·cases e
 ·exfalso
  by_cases hi:i<as.length
  ·rw [List.getElem?_append_left (by simpa using hi),zzQ] at e1;obtain⟨p,hp,e⟩:=zzJ.mp e1
   cases e
  ·rw [List.getElem?_append_right (by simpa using hi),List.getElem?_replicate] at e1;split at e1<;>cases e1
theorem SR.ML{H0 G H:Hp}{env:Sl}{σ:St}{g:Str}{idx:List Nat}{cZ:List PV}{v:V}(i:Nat)(r:SR W H0 env σ G H)(h:qg W G g idx cZ v):SR W H0 (env.set i (.fn g idx cZ)) (σ.set i (some v)) G H where
 len:=by simpa using r.len
 sub:=r.sub
 base:=r.base
 tab:=r.tab
 nW:=r.nW
 slot:=λj s e=>by
  by_cases hj:i=j
  ·subst hj;have bZ:i<env.length:=by
    have:=(zzH.mp e).1
    simpa using this
   rw [List.getElem?_set_self bZ] at e;cases e;exact⟨some v,List.getElem?_set_self (by rw [<-r.len];exact bZ),v,rfl,h⟩
  ·rw [zzS hj] at e;obtain⟨o,h1,h2⟩:=r.slot j s e
   exact⟨o,by rw [zzS hj];exact h1,h2⟩
 apart:=λa b q q' ad e1 e2 e3 e4=>by
  have ne:∀{c:Nat} {q:PV},(env.set i (.fn g idx cZ))[c]?=some (.own q)->i≠c:=λ{c q} e z=>by
   subst z;have bZ:i<env.length:=by
    have:=(zzH.mp e).1
    simpa using this
   rw [List.getElem?_set_self bZ] at e;cases e
  have n1:=ne e1
  have n2:=ne e2
  rw [zzS n1] at e1 e3;rw [zzS n2] at e2 e4;exact r.apart a b q q' ad e1 e2 e3 e4
theorem wH{α:Type}{l r:List α}{a b:α}:(l++a::r).set l.length b=l++b::r:=by
 rw [List.set_append_right _ _ (zzE _),Nat.sub_self];rfl
theorem zl{d:Def}{H G:Hp}{as:List PV}{vs:List V}(Pt:d.np<=d.N.length)(sg:aB G H)(tb:cU W G H)(l:zR W G d.iN as vs)(hv:vs.length=d.np):cm d as=true/\SR W H (cu d as) (start d.N vs) G H:=by
 unfold cm cu;cases hc:d.iN with
 |none=>
  rw [hc] at l;have l:ai W G as vs:=l
  exact⟨by rw [<-l.length,hv];simp,rF sg tb l (by rw [<-l.length,hv];exact Pt)⟩
 |some q=>
  rw [hc] at l;obtain⟨xX,cZ,wA,v,rfl,rfl,l1,cr⟩:=l
  have Ms:=l1.length
  have hn:wA.length=d.np-1/\0<d.np:=by rw [zzM] at hv;simp at hv;omega
  have ha:xX.length=d.np-1:=by omega
  refine⟨by simp;omega,?_⟩;have h0:=rF (N:=d.N) sg tb l1 (by omega)
  have h1:=h0.ML xX.length cr
  have e1:(xX.map Slot.val++List.replicate (d.N.length-xX.length) Slot.no).set xX.length (.fn q.1 q.2 cZ)=((xX++cZ).take (d.np-1)).map .val++.fn q.1 q.2 ((xX++cZ).drop (d.np-1))::List.replicate (d.N.length-d.np) Slot.no:=by
   rw [<-ha,List.take_left',List.drop_left',show d.N.length-xX.length=(d.N.length-d.np)+1 by omega,List.replicate_succ]
   ·have:=wH (l:=xX.map Slot.val) (r:=List.replicate (d.N.length-d.np) Slot.no) (a:=Slot.no) (b:=.fn q.1 q.2 cZ)
    rw [zzl] at this;exact this
   ·rfl
   ·rfl
  have e2:(start d.N wA).set xX.length (some v)=start d.N (wA++[v]):=by
   unfold L2.start;rw [zzM,List.length_singleton,show d.N.length-wA.length=(d.N.length-(wA.length+1))+1 by omega,List.replicate_succ,<-Ms];have:=wH (l:=wA.map some) (r:=List.replicate (d.N.length-(wA.length+1)) none) (a:=none) (b:=some v)
   rw [zzl] at this;rw [this];simp
  rw [e1,e2] at h1;exact h1
theorem Gh(M:uA K mg Γ W)(KB:K.In base){F:aO}{k:Nat}{n nf:Str}{d:Def}{st:Stmt}{fa:Addr}{fd:FuncData}(St:cJ Γ n d st)(Fu:OZ K n n st fa fd)(hF:∀f,Γ.fs.contains f=true->pQ P w K mg base W F k f)(hH:∀q∈Γ.hs,Lh P w K mg base W F k q)(hA:∀g as,F g as≠.bad->Γ.fs.contains g=true\/gv g=true)
 (hL:Γ.hl=true->∃c p,fd.code=.ref c/\gL K c p/\(p,n4 n)∈W.ts/\∀q',(p,q')∈W.ts->q'=n4 n):
 gq P w K mg base (d8 P w) (k+2) fa fd (d.N.take d.np) (zm W (λ_ as=>ay F d as) nf (d.N.take d.np).length d.iN):=by
 have hlen:(d.N.take d.np).length=d.np:=by rw [List.length_take];have:=St.np;omega
 obtain⟨oc,od,kV,doc,pm,an,fT,ct,u4,rfl,lk,uN⟩:=Fu.ex
 refine ND lk uN St.sc (λvs H Q E h=>h.1) λA outer s H vs Q E hr h=>?_
 obtain⟨hl,G,as,sg,tb,l,o⟩:=h
 rw [hlen] at hl;obtain⟨ar,sr⟩:=zl St.np sg tb l hl
 refine⟨So W F H E d.body,mB (JZ M KB St.sc hF hH hA hL hr) d.body _ St.Va,G,cu d as,sr,?_⟩;dsimp only at o;unfold ay at o;rw [if_pos ar] at o;cases r:aJ F d.body (cu d as) with
 |bad=>rw [r] at o;exact o
 |exc c=>rw [r] at o;exact o
 |ok fl=>
  rw [r] at o;cases fl with
  |nx env=>exact λσ' G' H' sr g=>o .az G' H' g .n
  |rt p=>exact λv G' H' rv g=>o v G' H' g rv
  |bk env=>exact o.elim
  |ct env=>exact o.elim
def AllK(K:PySem.W.Frag)(ts:List (Addr×Str))(Γ:Pg):eL->Prop
 |[]=>True
 |r::l=>yD K ts r.hl r.h r.st/\cJ (Γ.at l r.hl) r.h r.d r.st/\((l.map (·.f)).contains r.f=false/\(r.d.iN.isNone==!gv r.f)=true/\(r.d.iN.isNone=true->r.f=r.h))/\AllK K ts Γ l
theorem wO(M:uA K mg Γ W)(l:eL)(hl:Bool):uA K mg (Γ.at l hl) W:=⟨M.hK,M.hm,M.gs,M.bs,M.O5,M.cls,M.xc,M.xs,M.rm,M.OS,M.bm⟩
theorem pQ.mono{F:aO}{j k:Nat}{f:Str}(h:pQ P w K mg base W F j f)(hk:j<=k):pQ P w K mg base W F k f:=by
 obtain⟨fa,fd,ps,h1,h2⟩:=h.ex
 exact⟨fa,fd,ps,h1.mono hk,h2⟩
theorem mP{F F':aO}{f f':Str}{n:Nat}{q:Option (Str×List Nat)}(e:∀as,F' f' as=F f as):zm W F' f' n q=zm W F f n q:=by
 funext vs H Q E
 unfold zm;simp only [e]
theorem pQ.swap{F F':aO}{k:Nat}{f:Str}(h:pQ P w K mg base W F k f)(e:∀as,F' f as=F f as):pQ P w K mg base W F' k f:=by
 obtain⟨fa,fd,ps,h1,h2,h3,h4,h5⟩:=h.ex
 refine⟨fa,fd,ps,?_,h2,h3,h4,λas hn=>h5 as (by rw [<-e];exact hn)⟩
 rw [mP e];exact h1
theorem Lh.swap{F F':aO}{j k:Nat}{q:Hs}(h:Lh P w K mg base W F j q)(hk:j<=k)(e:∀as,F' q.f as=F q.f as):Lh P w K mg base W F' k q:=by
 obtain⟨fa,fd,ps,h1,h2,h3,h4,h5⟩:=h.ex
 refine⟨fa,fd,ps,?_,h2,h3,h4,h5⟩;rw [mP e];exact h1.mono hk
theorem mQ{r:Row}{l:eL}{g:Str}(h:(g==r.f)=false)(as:List PV):den (tab (r::l)) g as=den (tab l) g as:=by
 show(if(g==r.f)=true then _ else _)=_
 rw [h]
 rfl
theorem sM{r:Row}{l:eL}(as:List PV):den (tab (r::l)) r.f as=ay (den (tab l)) r.d as:=by
 show(if(r.f==r.f)=true then _ else _)=_
 rw [beq_self_eq_true]
 rfl
theorem pU:∀(l:eL) {ts:List (Addr×Str)},AllK K ts Γ l->∀g as,den (tab l) g as≠.bad->(n0 l).contains g=true\/gv g=true
 |[],_,_,g,as,h=>absurd rfl h
 |r::l,ts,⟨_,_,⟨_,hn,_⟩,hr⟩,g,as,h=>by
  by_cases e:(g==r.f)=true
  ·have e2:=beq_iff_eq.mp e
   subst e2;cases hc:r.d.iN with
   |none=>
    left
    unfold n0;rw [List.filterMap_cons,hc];simp
   |some q=>
    right
    rw [hc] at hn
    simpa using hn
  ·rw [mQ (by simpa using e)] at h;rcases pU l hr g as h with z|z
   ·left
    unfold n0 at z⊢;rw [List.filterMap_cons];split
    ·exact z
    ·rw [List.contains_cons,z,Bool.or_true]
   ·exact .inr z
theorem Cn(M:uA K mg Γ W)(KB:K.In base)(G:base.Ns mainGlobals mg):∀(l:eL),AllK K W.ts Γ l->(∀f,(n0 l).contains f=true->pQ P w K mg base W (den (tab l)) (2*l.length) f)/\∀q∈yE l,Lh P w K mg base W (den (tab l)) (2*l.length) q
 |[],_=>⟨λf hf=>by simp [n0] at hf,λq hq=>by simp [yE] at hq⟩
 |r::l,hall=>by
  obtain⟨he,hs,⟨hfr,hnm,hfh⟩,hr⟩:=hall
  obtain⟨ih,ihH⟩:=Cn M KB G l hr
  obtain⟨fa,oc,od,kV,doc,pm,an,fT,ct,u4,e1,e2,e3,e4,e5⟩:=he
  have Fu:=Ax (st:=r.st) e2 e3 e4
  have ok:=Gh (P:=P) (w:=w) (nf:=r.f) (wO M l r.hl) KB (k:=2*l.length) hs Fu (λg hg=>ih g hg) (λq hq=>ihH q hq) (pU l hr) e5
  have ze:∀g,(l.map (·.f)).contains g=true->(g==r.f)=false:=λg hg=>by
   cases z:g==r.f with
   |false=>rfl
   |true=>rw [beq_iff_eq.mp z,hfr] at hg;cases hg
  have sp:zm W (λ_ as=>ay (den (tab l)) r.d as) r.f (r.d.N.take r.d.np).length r.d.iN=zm W (den (tab (r::l))) r.f (r.d.N.take r.d.np).length r.d.iN:=mP λas=>(sM as).symm
  rw [sp] at ok;have hlen:(r.d.N.take r.d.np).length=r.d.np:=by rw [List.length_take];have:=hs.np;omega
  have ml:∀f,(n0 l).contains f=true->(l.map (·.f)).contains f=true:=λf hf=>by
   rw [List.contains_iff_mem] at hf⊢;unfold n0 at hf;obtain⟨x,hx,e⟩:=List.mem_filterMap.mp hf
   split at e
   ·cases e;exact List.mem_map_of_mem (f:=(·.f)) hx
   ·cases e
  refine⟨λf hf=>?_,λq hq=>?_⟩
  ·by_cases kI:(f==r.f)=true/\r.d.iN=none
   ·obtain⟨h1,h2⟩:=kI
    have e:=beq_iff_eq.mp h1
    subst e;refine⟨fa,_,r.d.N.take r.d.np,by rw [h2] at ok;exact ok,?_,e4,Fu.binds hs.bind,λas hn=>?_⟩
    ·rw [hfh (by rw [h2];rfl)];exact PySem.W.mg_of KB G e1
    ·rw [sM] at hn;unfold ay at hn
     by_cases ha:cm r.d as=true
     ·unfold cm at ha;rw [h2] at ha;rw [hlen];exact beq_iff_eq.mp ha
     ·rw [if_neg ha] at hn;exact absurd rfl hn
   ·have Tt:(n0 l).contains f=true:=by
     unfold n0 at hf⊢;rw [List.filterMap_cons] at hf;split at hf
     ·exact hf
     ·rename_i y hy;split at hy
      ·rename_i hc;cases hy;rw [List.contains_cons,Bool.or_eq_true] at hf;rcases hf with z|z
       ·exact absurd ⟨z,Option.isNone_iff_eq_none.mp hc⟩ kI
       ·exact z
      ·cases hy
    exact((ih f Tt).mono (by rw [zzL];omega)).swap λas=>mQ (ze f (ml f Tt)) as
  ·unfold yE at hq;rw [List.filterMap_cons] at hq;have tail:q∈yE l->Lh P w K mg base W (den (tab (r::l))) (2*(r::l).length) q:=λhq=>by
    refine(ihH q hq).swap (by rw [zzL];omega) λas=>mQ (ze q.f ?_) as
    unfold yE at hq;obtain⟨x,hx,e⟩:=List.mem_filterMap.mp hq
    obtain⟨y,_,rfl⟩:=zzJ.mp e
    rw [List.contains_iff_mem];exact List.mem_map_of_mem (f:=(·.f)) hx
   cases hc:r.d.iN with
   |none=>rw [hc] at hq;exact tail hq
   |some y=>
    rw [hc] at hq;rcases List.mem_cons.mp hq with z|z
    ·subst z;rw [hc] at ok;exact⟨fa,_,r.d.N.take r.d.np,ok,PySem.W.mg_of KB G e1,e4,Fu.binds hs.bind,hlen⟩
    ·exact tail z
end
end Ci
namespace L2
open PySem PySem.Spec PyProof.Rows
theorem yl{P:Program}{w:World}{K:PySem.W.Frag}{mg mb:Str->Option Value}{CX:zq}{k:Nat}{fa a:Addr}{fd:FuncData}{x:Str}{sp:Sp}{s₁:Shared}{vs:List Value}{ns:List Int}(mW:List Addr)
 (KX:K.In s₁.heap) (OR:s₁.heap.Ns mainGlobals mg) (hb:s₁.heap.Ns builtinsNs mb) (U8:∀x:Str,x≠"__name__"->mb x=bootBuiltins x) (yv:s₁.heap.NoLimit) (hg:s₁.gens=#[])
 (hT:∀p∈mW,s₁.heap.get? p=some (PySem.W.tabObj #[])) (hC:∀p∈mW,∃c,Ci.gL K c p) (VM:∀p∈mW,K.lookup p=none)
 (ha:s₁.heap.get? a=some {cls:=.type "list",data:=.seq vs.toArray}) (hi:IntsAre vs ns) (hl:ns.length<=sizeLine) (hr:dM k callerA)
 (F:∀base:Heap,K.In base->base.Ns mainGlobals mg->gq P w K mg base CX k fa fd [x] sp) (Ni:∀(s:Shared) (u:Value),BindsTo s fd ⟨[u],[]⟩ [(x,u)])
 (Hb:∀H:Hp,(∀p∈mW,H p=some (.fX #[]))->Ci.om K H a (ns.map V.int)->sp [.ref a] H (λv _=>v=.bl true) λ_ _ _=>False)
 (Qf:∀H e s',CX [] H s₁ (λ_ _ _=>False) e s'->False):
 codeAny (model P w) callerA (.call (.ref fa) ⟨[.ref a],[]⟩) (λr s'=>r=.ok (.ret (.bool true))/\OldK s₁.heap s'.heap/\s'.os=s₁.os/\AllBare s'.gens) s₁:=by
 have rv:=oV hi
 have MV:=hi.length
 have aT:a∉mW:=λz=>by have:=hT a z;rw [ha] at this;cases this
 have core:∀H:Hp,(∀p∈mW,H p=some (.fX #[]))->Ci.om K H a (ns.map V.int)->eJ P w H s₁.heap->(∀b,H b≠none->b∈mW\/b=a/\∃o xs,H b=some (.bK o xs))->(H a≠none->K.lookup a=none)->
  codeAny (model P w) callerA (.call (.ref fa) ⟨[.ref a],[]⟩) (λr s'=>r=.ok (.ret (.bool true))/\OldK s₁.heap s'.heap/\s'.os=s₁.os/\AllBare s'.gens) s₁:=by
  intro H hO hS aS hA hK;have xq:∀{b:Addr} {o:Obj},s₁.heap.get? b=some o->H b=none->(pB s₁.heap H).get? b=some o:=λe n=>BM e n
  have EI:∀{b:Addr} {o:Obj} {es:Array DictEntry} {ep:Nat},s₁.heap.get? b=some o->o.data=.dict es ep->H b=none:=λ{b o es ep} e d=>by
   cases q:H b with
   |none=>rfl
   |some u=>
    rcases hA b (by rw [q];simp) with z|⟨z,_⟩
    ·rw [hT b z] at e;cases e;cases d
    ·subst z;rw [ha] at e;cases e;have d':Data.seq vs.toArray _=Data.dict es ep:=d
     cases d'
  have O1:∀{b:Addr} {m:Str->Option Value},s₁.heap.Ns b m->(pB s₁.heap H).Ns b m:=λ{b m} ⟨o,es,ep,e,d,r⟩=>⟨o,es,ep,xq e (EI e d),d,r⟩
  have Ul:K.In (pB s₁.heap H):=λb o e=>xq (KX b o e) (by
   cases q:H b with
   |none=>rfl
   |some u=>
    rcases hA b (by rw [q];simp) with z|⟨z,_⟩
    ·rw [VM b z] at e;cases e
    ·subst z;rw [hK (by rw [q];simp)] at e;cases e)
  have hM:Mod K mg (pB s₁.heap H):=⟨Ul,O1 OR,⟨mb,O1 hb,U8⟩,let⟨mc,h1,h2⟩:=yv;⟨mc,O1 h1,h2⟩⟩
  have e0:i9 P w K mg (pB s₁.heap H) callerA [] s₁ H:=⟨rfl,hM,λb o e=>DK e,Nat.le_of_eq (yO _ _),trivial,λb hb=>absurd (show b∈([]:List Addr) from hb) (by simp),aS,.of_eq hg⟩
  refine codeAny_mono ((F _ Ul (O1 OR)).run callerA [] s₁ H ⟨[.ref a],[]⟩ [.ref a] [.ref a] _ _ hr e0 (Ni s₁ (.ref a)) (.cons rfl .nil) (Hb H hO hS)) λr s' h=>?_
  cases r with
  |error e=>exact(Qf H e s' h).elim
  |ok fl=>
   cases fl with
   |next=>exact False.elim h
   |brk=>exact False.elim h
   |cont=>exact False.elim h
   |ret u=>
    obtain⟨v,H',os,bare,un,Fo,r',q⟩:=h
    have q':v=.bl true:=q
    subst q';obtain rfl:u=Value.bool true:=r'
    have key:∀b o,s₁.heap.get? b=some o->s'.heap.get? b=some o\/b∈mW/\∃m,s'.heap.get? b=some (PySem.W.tabObj m):=λb o e=>by
     cases q:H b with
     |none=>exact .inl (un.keep b o e q (by intro z;exact absurd (show b∈([]:List Addr) from z) (by simp)) (by simp))
     |some u=>
      rcases hA b (by rw [q];simp) with z|⟨z,ob,xs,z2⟩
      ·right
       obtain⟨m,hm⟩:=un.gP b _ (hO b z)
       exact⟨z,_,Fo b _ hm⟩
      ·left
       have z3:=un.fQ b ob _ z2
       obtain⟨e1,_⟩:=aS b _ z2
       obtain⟨e2,_⟩:=Fo b _ z3
       rw [e] at e1;cases e1;exact e2
    refine⟨rfl,⟨λb o e=>?_,λb o e=>?_⟩,os,bare⟩
    ·rcases key b o e with z|⟨z,m,z2⟩
     ·exact .inl z
     ·have e':=hT b z
      rw [e] at e';cases e';obtain⟨c,o',vs',_,_,_,_,_,_,_,k1,k2,k3,k4,_⟩:=hC b z
      have tb:s₁.heap.TableAt c b #[]:=⟨⟨o',vs',KX _ _ k1,k2,k3,k4⟩,e⟩
      exact .inr (.inl ⟨tb.isCodeTable,rfl,#[],m,rfl,by rw [z2];simp⟩)
    ·rcases key b o e with z|⟨_,m,z⟩
     ·exact⟨_,z⟩
     ·exact⟨_,z⟩
 cases hk:K.lookup a with
 |some o=>
  have e:=KX a o hk
  rw [ha] at e;cases e;refine core (λb=>if b∈mW then some (.fX #[]) else none) (λp hp=>if_pos hp) (.inr ⟨vs.toArray,_,hk,by rw [zzC,MV];exact hl,by simpa using rv⟩) (λb u z=>?_) (λb z=>?_) λz=>absurd (if_neg aT) z
  ·by_cases hb:b∈mW
   ·have z':=(if_pos hb).symm.trans z
    cases z';exact hT b hb
   ·have z':=(if_neg hb).symm.trans z
    cases z'
  ·by_cases hb:b∈mW
   ·exact .inl hb
   ·exact absurd (if_neg hb) z
 |none=>
  refine core (λb=>if b=a then some (.bK {cls:=.type "list",data:=.seq vs.toArray} (.lst (ns.map V.int))) else if b∈mW then some (.fX #[]) else none) (λp hp=>?_) (.inl (.inr ⟨{cls:=.type "list",data:=.seq vs.toArray},if_pos rfl⟩)) (λb u z=>?_) (λb z=>?_) λ_=>hk
  ·show(if p=a then _ else _)=_
   rw [if_neg (show¬p=a from λz=>aT (by rw [<-z];exact hp)),if_pos hp]
  ·by_cases hb:b=a
   ·have z':=(if_pos hb).symm.trans z
    cases z';subst hb;exact⟨ha,by rw [zzl];exact hl,vs,_,rv,ha⟩
   ·replace z:=(if_neg hb).symm.trans z
    by_cases hc:b∈mW
    ·have z':=(if_pos hc).symm.trans z
     cases z';exact hT b hc
    ·have z':=(if_neg hc).symm.trans z
     cases z'
  ·by_cases hb:b=a
   ·exact .inr ⟨hb,_,_,if_pos hb⟩
   ·by_cases hc:b∈mW
    ·exact .inl hc
    ·exact absurd ((if_neg hb).trans (if_neg hc)) z
theorem Iv{l:PySem.W.OpenLaw}{n k:Nat}{q:Program}{loose:List Str}{XP:(Str->Option Value)->Heap->Prop}{YP:World->Heap->Prop}{d:DefRec}{K:Params->PySem.W.Frag}{CX:World->zq}{sp:World->Sp}{x:Str}(mW:List Addr)
 (hn:l.most=some n) (Ip:n<=sizeLine) (Mh:d.params.defaults=[]) (hr:dM k callerA)
 (hY:∀(w:World) (h:Heap),YP w h->(K w.params).In h/\∀p∈mW,h.get? p=some (PySem.W.tabObj #[])) (hC:∀(w:World),∀p∈mW,(∃c,Ci.gL (K w.params) c p)/\(K w.params).lookup p=none)
 (F:∀(w:World) (mg:Str->Option Value) (fa:Addr) (h:Heap),(K w.params).In h->h.Ns mainGlobals mg->mg d.name=some (.ref fa)->
  ∃fd:FuncData,(∀(s:Shared) (u:Value),BindsTo s fd ⟨[u],[]⟩ [(x,u)])/\
   ∀base:Heap,(K w.params).In base->base.Ns mainGlobals mg->gq l.prog w (K w.params) mg base (CX w) k fa fd [x] (sp w))
 (Hb:∀(w:World) (H:Hp) (a:Addr) (ns:List Int),ns.length<=n->(∀p∈mW,H p=some (.fX #[]))->Ci.om (K w.params) H a (ns.map V.int)->sp w [.ref a] H (λv _=>v=.bl true) λ_ _ _=>False)
 (Qf:∀(w:World) (H:Hp) (s:Shared) (e:Value) (s':Shared),CX w [] H s (λ_ _ _=>False) e s'->False):
 PySem.W.WalkO q loose XP YP l.row.toRowW d [] (λf vs=>PySem.call f vs):=by
 refine Att.rJ hn Mh λw s₀ s₁ mg mb fa o pm cd doc a vs ns G Y ho hd uN hmg hobj hints hlen hg=>?_
 obtain⟨KX,hT⟩:=hY w _ Y
 obtain⟨fd,hb,hF⟩:=F w mg fa _ KX G.T.g hmg
 exact yl mW KX G.T.g G.T.b G.T.builtins G.T.nolimit hg hT (λp hp=>(hC w p hp).1) (λp hp=>(hC w p hp).2) hobj hints (zzU hlen Ip) hr hF hb (λH hO hS=>Hb w H a ns hlen hO hS) λH e s'=>Qf w H s₁ e s'
end L2
namespace Ci
open PySem L2
theorem lQ{W:Wd}{G:Hp}:∀(ns:List Int),ai W G (ns.map PV.int) (ns.map V.int)
 |[]=>.nil
 |n::ns=>.cons .i (lQ ns)
def oJ(H:Hp):Hp:=λb=>match H b with
 |some (.fX _)=>none
 |o=>o
theorem uE(H:Hp):aB (oJ H) H:=λb o e=>by
 unfold oJ at e;split at e
 ·cases e
 ·exact e
theorem rX{H:Hp}{b:Addr}{o:HO}(h:H b=some o)(n:∀ps,o≠.fX ps):oJ H b=some o:=by
 unfold oJ;rw [h];cases o with
 |fX ps=>exact absurd rfl (n ps)
 |_=>rfl
noncomputable def NX(K:PySem.W.Frag)(mW:List Addr):Sp:=λvs H Q _=>∃(a:Addr) (ns:List Int),vs=[.ref a]/\(∀p∈mW,H p=some (.fX #[]))/\om K H a (ns.map V.int)/\ns.length<=63/\∀H',Q (.bl true) H'
theorem walk{l:PySem.W.OpenLaw}{q:Program}{loose:List Str}{XP:(Str->Option Value)->Heap->Prop}{YP:World->Heap->Prop}{d:DefRec}{K:Params->PySem.W.Frag}(rest:eL)(Γ:Pg)(x:Str)(dl:Def)(xs:List Str)(ts:List (Addr×Str))(st:Stmt)
 (hx:dl.N.take dl.np=[x]) (Hk:dl.iN=none) (VA:d.name="law") (hn:l.most=some 63) (Mh:d.params.defaults=[]) (hr:dM (2*rest.length+2) callerA) (hY:∀(w:World) (h:Heap),YP w h->(K w.params).In h/\∀p∈ts.map (·.1),h.get? p=some (PySem.W.tabObj #[]))
 (hC:∀(w:World),∀p∈ts.map (·.1),(∃c,gL (K w.params) c p)/\(K w.params).lookup p=none)
 (hM:∀(w:World) (mg:Str->Option Value) (h:Heap),(K w.params).In h->h.Ns mainGlobals mg->uA (K w.params) mg Γ ⟨K w.params,mg,xs,ts⟩)
 (hE:∀w:World,yD (K w.params) ts false "law" st) (hS:cJ (Γ.at rest false) "law" dl st)
 (hA:∀w:World,AllK (K w.params) ts Γ rest)
 (QR:∀ns:List Int,ns.length<=63->ay (den (tab rest)) dl [.lst (ns.map .int)]=.ok (.bl true)):
 PySem.W.WalkO q loose XP YP l.row.toRowW d [] (λf vs=>PySem.call f vs):=by
 refine L2.Iv (n:=63) (k:=2*rest.length+2) (x:=x) (CX:=λw=>d8 l.prog w) (sp:=λw=>NX (K w.params) (ts.map (·.1))) (ts.map (·.1)) hn (by decide) Mh hr hY hC ?_ ?_ ?_
 ·intro w mg fa h KX G hmg;rw [VA] at hmg;obtain⟨f,oc,od,kV,doc,pm,an,fT,ct,u4,e1,e2,e3,e4,e5⟩:=hE w
  have hf:fa=f:=by
   have z:=hmg.symm.trans (PySem.W.mg_of KX G e1)
   cases z
   rfl
  subst hf;refine⟨PySem.W.fnOf "law" "law" (du st) (cV st) (bh st) .none kV doc pm an fT ct,λs u=>?_,λbase KB GB=>?_⟩
  ·have hb:=hS.bind kV doc pm an fT ct [u]
   rw [hx] at hb;exact .of_eq (hb rfl)
  ·have M:=hM w mg base KB GB
   obtain⟨a1,a2⟩:=Cn (P:=l.prog) (w:=w) M KB GB rest (hA w)
   have ok:=Gh (P:=l.prog) (w:=w) (nf:="law") (wO M rest false) KB (k:=2*rest.length) hS (Ax (st:=st) e2 e3 e4) (λg hg=>a1 g hg) (λq hq=>a2 q hq) (pU rest (hA w)) (λz=>nomatch z)
   rw [hx] at ok;refine ok.imp λvs H Q E h=>?_
   obtain⟨a,ns,rfl,ht,hl,hlen,q⟩:=h
   refine⟨rfl,oJ H,[.lst (ns.map .int)],uE H,λP q m=>?_,?_,?_⟩
   ·have hP:=ht P (List.mem_map_of_mem (f:=(·.1)) m)
    refine⟨by unfold oJ;rw [hP],#[],hP,trivial,λpos cv e=>nomatch e⟩
   ·rw [Hk];refine ai.cons (.l ?_ (lQ ns)) .nil;rcases hl with(h|⟨o,h⟩)|h
    ·exact .inl (.inl (rX h (λ_ z=>nomatch z)))
    ·exact .inl (.inr ⟨o,rX h (λ_ z=>nomatch z)⟩)
    ·exact .inr h
   ·dsimp only;rw [QR ns hlen];intro v G' H' _ rv;simp only [Rep] at rv;subst rv;exact q H'
 ·intro w H a ns hlen hO v5;exact⟨a,ns,rfl,hO,v5,hlen,λ_=>rfl⟩
 ·intro w H s e s' h;obtain⟨a,C,t,vs,H',B,rfl,F⟩:=h
  exact F.ends
end Ci
namespace Hd
open PySem PySem.W PySem.Calls
noncomputable def Kw(st:SharedT->Thread->Option (SharedT×Thread))(ok:Thread->Bool)(n:Nat):SharedT->Thread->Option SharedT:=
 @Nat.rec (λ_=>SharedT->Thread->Option SharedT) (λ_ _=>none) (λ_ ih s t=>match through t with
  |true=>some s
  |false=>match ok t with
   |false=>none
   |true=>match st s t with
    |some (s',t')=>ih s' t'
    |none=>none) n
theorem og{tb:String->Option Builtin}{p:Program}{w:World}{n₀:Nat}{ann:Option Value}:∀{n:Nat} {s s':SharedT} {t:Thread},Kw (stepT (denote tb) p w) (stepOk n₀ ann) n s t=some s'->topRun tb p w n₀ ann n s.abs t=some s'.abs
 |0,_,_,_,h=>by cases h
 |n+1,s,s',t,h=>by
  have h:(match through t with
   |true=>some s
   |false=>match stepOk n₀ ann t with
    |false=>none
    |true=>match stepT (denote tb) p w s t with
     |some (s',t')=>Kw (stepT (denote tb) p w) (stepOk n₀ ann) n s' t'
     |none=>none)=some s':=h
  unfold topRun;cases ht:through t with
  |true=>rw [ht] at h;cases h;rfl
  |false=>
   rw [ht] at h;cases hk:stepOk n₀ ann t with
   |false=>rw [hk] at h;cases h
   |true=>
    rw [hk] at h;cases hs:stepT (denote tb) p w s t with
    |none=>rw [hs] at h;cases h
    |some r=>obtain⟨s₂,t₂⟩:=r;rw [hs] at h;rw [stepT_spec hs];exact og h
def treeOf(l:List Obj):BT:=(l.foldl (λ(T,i) o=>(BT.ins T i o,i+1)) (BT.nil,0)).1
theorem Dk{p q:Program}{loose:List Str}{Xt:Shared->Bool}{α:Type}{Yf:Shared->α}{Ya:World->α}{N:Nat}{g0:Bool}{T₀:Params->BT}{life:Life}{m₀:Nat}{ann:Option Value}{M:Nat}
 (e:opening p=plainProg p.main.scope.names) (hN:Nat.ble 600 N=true) (f:∀s,fenceModules? p s=some s)
 (e0:∀P:Params,absHeap (T₀ P) m₀ life=boot_heap P)
 (size:∀w:World,((boot_heap w.params).isNs mainGlobals,(boot_heap w.params).nsMap mainGlobals "__annotations__")=(true,ann))
 (le:Nat.ble M N=true)
 (run:∀(w:World) (os:OsState),(Kw (stepT (denote treeTable) p w) (stepOk m₀ ann) M ⟨T₀ w.params,m₀,life,Array.mk [],boot_drawn,boot_toks,os⟩ (topStub p)).map (λs=>
  ((staticsOk (importedModules p.main.body) (boot_heap w.params) s.abs.heap&&namesBound p s.abs.heap&&gensDone s.abs&&laidKept (boot_heap w.params) s.abs.heap),openSeen q loose (importedModules p.main.body) Xt g0 s.abs,Yf s.abs))
  =some (true,openGood q loose,Ya w)):LeftO p q loose Xt Yf Ya N g0:=λw=>by
 obtain⟨⟨h,gs,d,k,os⟩,e1,e'⟩:=zzJ.mp (boot_open e hN f w)
 obtain⟨rfl,rfl,rfl,rfl⟩:h=boot_heap w.params/\gs=Array.mk []/\d=boot_drawn/\k=boot_toks:=by simpa using e'
 obtain⟨z1,z3⟩:_/\_:=by simpa only [Prod.mk.injEq] using size w
 obtain⟨s,r,l⟩:=zzJ.mp (run w os)
 obtain⟨l1,l2,l3⟩:_/\_/\_:=by simpa only [Prod.mk.injEq] using l
 have r:=og r
 have r:=topRun_mono (N-M) _ _ _ _ r
 rw [show M+(N-M)=N by have:=Nat.le_of_ble_eq_true le;omega] at r;have hs:(boot_heap w.params).objs.size=m₀:=by rw [<-e0 w.params];exact absHeap_size _ _ _
 have r:topRun treeTable p w m₀ ann N ⟨boot_heap w.params,Array.mk [],boot_drawn,boot_toks,os⟩ (topStub p)=some s.abs:=by
  have:(⟨T₀ w.params,m₀,life,Array.mk [],boot_drawn,boot_toks,os⟩:SharedT).abs=⟨boot_heap w.params,Array.mk [],boot_drawn,boot_toks,os⟩:=by
   show Shared.mk _ _ _ _ _=_
   rw [show absHeap (T₀ w.params) m₀ life=boot_heap w.params from e0 w.params]
  rw [<-this];exact r
 have t:topFrom treeTable p w N ⟨boot_heap w.params,Array.mk [],boot_drawn,boot_toks,os⟩=some s.abs:=by
  unfold topFrom;dsimp only;rw [z1,z3,hs,r];show(match staticsOk (importedModules p.main.body) (boot_heap w.params) s.abs.heap&&namesBound p s.abs.heap&&gensDone s.abs&&laidKept (boot_heap w.params) s.abs.heap with|true=>_|false=>_)=_
  rw [l1]
 unfold openEnds;rw [e1];show(topFrom treeTable p w N _).map _=_
 rw [t];exact congrArg some (Prod.ext l2 l3)
end Hd
namespace Hd
open PySem PySem.W
theorem MB:∀P:Params,absHeap (treeOf (boot_heap P).objs.toList) 11 {}=boot_heap P:=λP=>by kernel_rfl
theorem N7:∀w:World,((boot_heap w.params).isNs mainGlobals,(boot_heap w.params).nsMap mainGlobals "__annotations__")=(true,some (.ref 6)):=λw=>by kernel_rfl
abbrev de(P:Params)(x:Str)(t:Tok)(v:Value):DictEntry:={hash:=PyData.keyHash P x,key:=.str x t,val:=v}
theorem holds{l:OpenLaw}{keep:List Nat}{K:Params->Frag}{as:List Addr}{d:DefRec}{N:Nat}(Pr:l.wellSaid=true)
 (ka:∀P,as=(K P).map (·.1))
 (left:LeftO l.row.prog (view l.row.prog keep) [] (λs=>xlAt (view l.row.prog keep) [] s&&recOk l.row.toRowW.records s) (kHook K as ka).obs (kHook K as ka).val N)
 (J6:defOf (view l.row.prog keep) l.row.name=some (d,[])) (hp:l.row.prog.theDef l.row.name=some (d.params,d.body,d.scope)) (hk:kwWritten? d.params.kwonlyargs d.params.kw_defaults=some [])
 (ok:(chainsOk (view l.row.prog keep)&&opensWell l.row.prog&&(frees l.row.toRowW&&l.row.within.isEmpty))=true) (hb:l.row.prog.bare) (hw:l.row.toRowW.promised)
 (call:WalkO (view l.row.prog keep) [] (XL (view l.row.prog keep) []) (kHook K as ka).says l.row.toRowW d [] λf vs=>PySem.call f vs):l.Holds:=
 holds_law Pr λk1=>holds_open (N:=N) left (Hook.of (kHook K as ka)) (Hook.keeps (kHook K as ka)) (λs e=>xl_of s (Bool.and_eq_true_iff.mp e).1) XL.keeps J6 hp hk (λs e=>recFacts_of (Bool.and_eq_true_iff.mp e).2) (by cases h:l.row.writes<;>rfl) k1 ok hb hw call
theorem LI{P:List Value->Prop}(h:∀a0,P [a0]):∀us:List Value,us.length=1->P us
 |[a0],_=>h a0
theorem zt{P:List Value->Prop}(h:∀a0 a1,P [a0,a1]):∀us:List Value,us.length=2->P us
 |[a0,a1],_=>h a0 a1
theorem Dj{P:List Value->Prop}(h:∀a0 a1 a2,P [a0,a1,a2]):∀us:List Value,us.length=3->P us
 |[a0,a1,a2],_=>h a0 a1 a2
theorem LM{P:List Value->Prop}(h:∀a0 a1 a2 a3,P [a0,a1,a2,a3]):∀us:List Value,us.length=4->P us
 |[a0,a1,a2,a3],_=>h a0 a1 a2 a3
end Hd
namespace KJ
open PySem L2 Ci
theorem qV{α β:Type}{a:α}{f:α->Res β}:(Res.ok a).bind f=f a:=rfl
theorem L0{α:Type}{a:α}:(Res.ok a).well=.ok a:=rfl
theorem Tp{α:Type}{a:α}:Res.of (some a)=.ok a:=rfl
theorem Tw{env:Sl}{k:Sl->Res Fl}:(Fl.nx env).seq k=k env:=rfl
theorem Ud{p:PV}{k:Sl->Res Fl}:(Fl.rt p).seq k=.ok (.rt p):=rfl
theorem Sd{env:Sl}{k:Sl->Res Fl}:(Fl.bk env).seq k=.ok (.bk env):=rfl
theorem sv{p:PV}:oN (some (.val p))=.ok p:=rfl
theorem TH{p:PV}:A1 (some (.val p))=.ok p:=rfl
theorem SO{p:PV}:A1 (some (.own p))=.ok p:=rfl
theorem M4{α:Type}{b:Bool}{f:Bool->Res α}:tY (.bl b) f=f b:=rfl
theorem Gm{i j:Int}:binOp .add (.int i) (.int j)=.ok (.int (i+j)):=rfl
theorem GN{i j:Str}:binOp .add (.str i) (.str j)=if i.length+j.length<=df then .ok (.str (i++j)) else .bad:=rfl
theorem Gv{i j:List PV}:binOp .add (.lst i) (.lst j)=if i.length+j.length<=df then .ok (.lst (i++j)) else .bad:=rfl
theorem Nc{i j:Int}:binOp .sub (.int i) (.int j)=.ok (.int (i-j)):=rfl
theorem NR{i j:Int}:binOp .mul (.int i) (.int j)=if aV i||aV j then .ok (.int (i*j)) else .bad:=rfl
theorem Oi{i j:Int}:binOp .mod (.int i) (.int j)=if 0<j then .ok (.int (i%j)) else .bad:=rfl
theorem MA{i j:Int}:binOp .fdiv (.int i) (.int j)=if 0<j/\j<1073741824 then .ok (.int (i/j)) else .bad:=rfl
theorem RU:dN .eq=iz:=rfl
theorem Ui:dN .ne=iT:=rfl
theorem SF:dN .lt=qw:=rfl
theorem Sr:dN .le=rS:=rfl
theorem Rk:dN .ge=vj:=rfl
theorem SN:dN .Bj=uP:=rfl
theorem MN:dN .lV=jc:=rfl
theorem oLt{i j:Int}:qw (.int i) (.int j)=.ok (.bl (decide (i<j))):=rfl
theorem oLe{i j:Int}:rS (.int i) (.int j)=.ok (.bl (decide (i<=j))):=rfl
theorem Qw{i j:Int}:vj (.int i) (.int j)=.ok (.bl (decide (j<=i))):=rfl
theorem lL{xs:List PV}:cR .len [.lst xs]=.ok (.int xs.length):=rfl
theorem lT{xs:List PV}:cR .len [.tup xs]=.ok (.int xs.length):=rfl
theorem lS{z:Str}:cR .len [.str z]=if z.length<=df then .ok (.int z.length) else .bad:=rfl
theorem tL{xs:List PV}:cR .tuple [.lst xs]=.ok (.tup xs):=rfl
theorem aL{xs:List PV}:cR .all [.lst xs]=(Res.of (boolsOf xs)).bind λbs=>.ok (.bl (bs.all id)):=rfl
theorem Ox{i:Nat}{p:PV}{env:Sl}:(Tg.one i).put p env=.ok (env.set i (.val p)):=rfl
theorem RV{i j:Nat}{a b:PV}{env:Sl}:(Tg.two i j).put (.tup [a,b]) env=.ok ((env.set i (.val a)).set j (.val b)):=rfl
theorem El{p:PV}:nU (.own p)=.val p:=rfl
theorem jA{α:Type}{a:α}{as:List α}:(a::as).length=as.length+1:=rfl
theorem jB{α:Type}:([]:List α).length=0:=rfl
theorem jC{α β:Type}{f:α->β}{a:α}{l:List α}:(a::l).map f=f a::l.map f:=rfl
theorem jD{α β:Type}{f:α->β}:([]:List α).map f=[]:=rfl
theorem jE{α:Type}{a:α}{as bs:List α}:a::as++bs=a::(as++bs):=rfl
theorem jF{α:Type}{as:List α}:[]++as=as:=rfl
theorem jG{α:Type}{a:α}{l:List α}:(a::l)[0]?=some a:=rfl
theorem jH{α:Type}{a:α}{l:List α}{i:Nat}:(a::l)[i+1]?=l[i]?:=rfl
theorem jI{α:Type}{a b:α}{l:List α}:(a::l).set 0 b=b::l:=rfl
theorem jJ{α:Type}{a b:α}{l:List α}{i:Nat}:(a::l).set (i+1) b=a::l.set i b:=rfl
theorem jK{α:Type}{a d:α}{l:List α}:(a::l).getD 0 d=a:=rfl
theorem jL{α:Type}{a d:α}{l:List α}{i:Nat}:(a::l).getD (i+1) d=l.getD i d:=rfl
theorem jM{n:Nat}:0+n=n:=Nat.zero_add _
theorem jN:(!true)=false:=rfl
theorem jO:(!false)=true:=rfl
theorem jP:(false=true)=False:=zze
theorem dR{e:E}{xs:List PV}:yr e (.lst xs)=.ok xs:=rfl
theorem RX{e:E}{xs:List PV}:yr e (.tup xs)=.ok xs:=rfl
theorem OY{xs:List PV}:itemsOf (.tup xs)=.ok xs:=rfl
theorem OO{xs:List PV}:itemsOf (.lst xs)=.ok xs:=rfl
theorem OP{z:Str}:itemsOf (.str z)=.ok (chars z):=rfl
theorem S1{i j k:Nat}{a b c:PV}{env:Sl}:(Tg.three i j k).put (.tup [a,b,c]) env=.ok (((env.set i (.val a)).set j (.val b)).set k (.val c)):=rfl
theorem jQ{α:Type}{f:α->α}{a:α}{l:List α}:(a::l).modify 0 f=f a::l:=rfl
theorem jR{α:Type}{f:α->α}{a:α}{l:List α}{i:Nat}:(a::l).modify (i+1) f=a::l.modify i f:=by simp
theorem jS{α:Type}{a:α}:List.replicate 0 a=[]:=id rfl
theorem jT{α:Type}{a:α}{n:Nat}:List.replicate (n+1) a=a::List.replicate n a:=id rfl
theorem jU{n:Nat}:(n==n)=true:=beq_self_eq_true n
noncomputable def J:=And.intro @jS (And.intro @jT (And.intro @jU (And.intro @qV (And.intro @L0 (And.intro @Tp (And.intro @Tw (And.intro @Ud (And.intro @Sd (And.intro @sv (And.intro @TH (And.intro @SO (And.intro @M4 (And.intro @Gm (And.intro @GN (And.intro @Gv (And.intro @Nc (And.intro @NR (And.intro @Oi (And.intro @MA (And.intro @RU (And.intro @Ui (And.intro @SF (And.intro @Sr (And.intro @Rk (And.intro @SN (And.intro @MN (And.intro @oLt (And.intro @oLe (And.intro @Qw (And.intro @lL (And.intro @lT (And.intro @lS (And.intro @tL (And.intro @aL (And.intro @Ox (And.intro @RV (And.intro @El (And.intro @jA (And.intro @jB (And.intro @jC (And.intro @jD (And.intro @jE (And.intro @jF (And.intro @jG (And.intro @jH (And.intro @jI (And.intro @jJ (And.intro @jK (And.intro @jL (And.intro @jM (And.intro @jN (And.intro @jO (And.intro @jP (And.intro @dR (And.intro @RX (And.intro @OY (And.intro @OO (And.intro @OP (And.intro @S1 (And.intro @jQ (@jR)))))))))))))))))))))))))))))))))))))))))))))))))))))))))))))
theorem JH{n:Str}{d:Def}{r:List (Str×Def)}:den ((n,d)::r) n=ay (den r) d:=by
 funext as;simp [den]
theorem HU{n f:Str}{d:Def}{r:List (Str×Def)}(h:(f==n)=false):den ((n,d)::r) f=den r f:=by
 funext as;simp [den,h]
theorem sL{f:Str}:∀(n:Nat) {T:List (Str×Def)},((T.take n).all λx=>!(f==x.1))=true->den T f=den (T.drop n) f
 |0,_,_=>rfl
 |n+1,[],_=>rfl
 |n+1,(m,d)::r,h=>by
  rw [List.take_succ_cons,List.all_cons,zza,Bool.not_eq_true'] at h;exact(HU h.1).trans (sL n h.2)
theorem dk{f:Str}{d:Def}{r T:List (Str×Def)}(k:Nat)(h:((T.take k).all λx=>!(f==x.1))=true:=by decide+kernel)(e:T.drop k=(f,d)::r:=by rfl):den T f=ay (den r) d:=by
 rw [sL k h,e];exact JH
end KJ
namespace K11
open PySem L2 Ci KJ
section
local macro_rules | `(#[]) => `(.nil) | `(#[$x]) => `(.cons $x .nil) | `(#[$x, $xs,*]) => `(.cons $x #[$xs,*]) | `(!$n:num) => `(.var $n) | `(¬$n:num) => `(.cst (.int $n))
noncomputable def dj:Def:=⟨["_law_script","_law_k"],2,#[.ite (.cmp .lt (!1) (.blt .len #[!0])) #[.ret (.sub (!0) (!1))] .nil,.ite (.cmp .eq (!0) (.lst .nil)) #[.ret (¬0)] .nil,.ret (.bin .add (.bin .mul (.sub (!0) (.bin .mod (!1) (.blt .len #[!0]))) (¬31)) (!1))],none⟩
noncomputable def bR:Def:=⟨["_law_script","_law_k","_law_many","_law_drawn"],3,#[.set 3 (.bin .mod (.bin .mul (.bin .add (.call "_law_cell" #[!0,!1]) (.bin .mul (¬6151) (.bin .add (!1) (¬1)))) (¬40692)) (¬2147483399)),.ret (.bin .mod (.bin .mod (.bin .add (.bin .mul (!3) (!3)) (.bin .fdiv (!3) (¬31))) (¬2147483629)) (!2))],none⟩
noncomputable def cG:Def:=⟨["_law_script","_law_at","_law_most","_law_rows","_law_columns","_law_shuts","_law_top","_law_made","_law_row","_law_signs","_law_column","_law_drawn"],3,#[.set 3 (.bin .add (¬1) (.call "_law_pick" #[!0,!1,!2])),.set 4 (.bin .add (¬1) (.call "_law_pick" #[!0,.bin .add (!1) (¬1),!2])),.set 5 (.sub (.lst #[¬0,¬2,¬4,¬6]) (.call "_law_pick" #[!0,.bin .add (!1) (¬2),¬4])),.set 6 (.sub (.lst #[¬1,¬2,¬3,¬10]) (.call "_law_pick" #[!0,.bin .add (!1) (¬3),¬4])),.own 7 (.lst .nil),.dc (.one 8) (.rn (!3)) #[.set 9 (.cst (.str "")),.dc (.one 10) (.rn (!4)) #[.set 11 (.call "_law_pick" #[!0,.bin .add (.bin .add (.bin .add (!1) (¬4)) (.bin .mul (!2) (!8))) (!10),.bin .mul (¬12) (!6)]),.set 9 (.bin .add (!9) (.ite (.cmp .lt (.bin .mod (!11) (¬12)) (!5)) (.cst (.str "#")) (.blt .str #[.bin .fdiv (!11) (¬12)])))],.app 7 (!9)],.ret (.blt .tuple #[.hZ 7])],none⟩
noncomputable def cM:Def:=⟨["_law_script","_law_at"],2,#[.ret (.tup #[.cmp .eq (.call "_law_pick" #[!0,!1,¬2]) (¬0),.sub (.lst #[¬0,¬1,¬2,¬9]) (.call "_law_pick" #[!0,.bin .add (!1) (¬1),¬4]),.call "_law_pick" #[!0,.bin .add (!1) (¬2),¬4]])],none⟩
noncomputable def bQ:Def:=⟨["_law_floor_here","_law_made","_law_row","_law_signs"],1,#[.own 1 (.lst .nil),.dc (.two 2 3) (.enum (!0)) #[.rN 1 (.cH 2 [2] (.two 0 1) (.enum (!3)) (.cmp .ne (!1) (.cst (.str "#"))) (.tup #[!2,!0]))],.bK 1,.ret (!1)],none⟩
def cC:Def:=⟨["reached"],1,#[.ret (.comp 1 [0] (.one 0) (.seq (.blt .sorted #[!0])) (.tup #[!0,.sub (.sub (!1) (!0)) (¬0)]))],none⟩
noncomputable def cX:Def:=⟨["one","other"],2,#[.ret (.and (.cmp .ne (!0) (!1)) (.and (.cmp .le (.blt .abs #[.bin .sub (.sub (!0) (¬0)) (.sub (!1) (¬0))]) (¬1)) (.cmp .le (.blt .abs #[.bin .sub (.sub (!0) (¬1)) (.sub (!1) (¬1))]) (¬1))))],none⟩
def dD:Def:=⟨["thing"],1,#[.ret (.and (.ty .int (!0)) (.not (.ty .bool (!0))))],none⟩
def d7:Def:=⟨["thing"],1,#[.ret (.and (.ty .tuple (!0)) (.and (.cmp .eq (.blt .len #[!0]) (¬2)) (.and (.call "is_whole" #[.sub (!0) (¬0)]) (.call "is_whole" #[.sub (!0) (¬1)]))))],none⟩
def cL:Def:=⟨["floor","spot"],2,#[.ret (.and (.ch .le .lt (¬0) (.sub (!1) (¬0)) (.blt .len #[!0])) (.ch .le .lt (¬0) (.sub (!1) (¬1)) (.blt .len #[.sub (!0) (.sub (!1) (¬0))])))],none⟩
noncomputable def cK:Def:=⟨["floor","thing"],2,#[.ret (.and (.call "is_spot" #[!1]) (.and (.call "is_on_floor" #[!0,!1]) (.cmp .ne (.sub (.sub (!0) (.sub (!1) (¬0))) (.sub (!1) (¬1))) (.glob "WALL" (.str "#")))))],none⟩
def b9:Def:=⟨["floor","spot"],2,#[.ite (.not (.call "is_open" #[!0,!1])) #[.raise "NoSpot" "the spot is not on the floor or a wall"] .nil],none⟩
def dh:Def:=⟨["floor","spot"],2,#[.expr (.call "need_open" #[!0,!1]),.ret (.blt .int #[.sub (.sub (!0) (.sub (!1) (¬0))) (.sub (!1) (¬1))])],none⟩
def bC:Def:=⟨["floor","one","other"],3,#[.ret (.and (.call "is_open" #[!0,.tup #[.sub (!1) (¬0),.sub (!2) (¬1)]]) (.call "is_open" #[!0,.tup #[.sub (!2) (¬0),.sub (!1) (¬1)]]))],none⟩
noncomputable def bF:Def:=⟨["floor","walker","one","other","is_slanting","rise","flat_cost"],4,#[.ite (.not (.call "are_beside" #[!2,!3])) #[.ret (.cst .az)] .nil,.set 4 (.and (.cmp .ne (.sub (!2) (¬0)) (.sub (!3) (¬0))) (.cmp .ne (.sub (!2) (¬1)) (.sub (!3) (¬1)))),.ite (.and (!4) (.not (.and (.sub (!1) (¬0)) (.call "has_open_corners" #[!0,!2,!3])))) #[.ret (.cst .az)] .nil,.set 5 (.bin .sub (.call "height_at" #[!0,!3]) (.call "height_at" #[!0,!2])),.ite (.cmp .gt (.blt .abs #[!5]) (.sub (!1) (¬1))) #[.ret (.cst .az)] .nil,.set 6 (.ite (!4) (.glob "SLANTING_COST" (.int 3)) (.glob "STRAIGHT_COST" (.int 2))),.ret (.bin .add (!6) (.bin .mul (.sub (!1) (¬2)) (.blt .max2 #[!5,¬0])))],none⟩
noncomputable def bt:Def:=⟨["floor","spot","beside","row","column"],2,#[.own 2 (.lst .nil),.dc (.one 3) (.nk (.bin .sub (.sub (!1) (¬0)) (¬1)) (.bin .add (.sub (!1) (¬0)) (¬2))) #[.dc (.one 4) (.nk (.bin .sub (.sub (!1) (¬1)) (¬1)) (.bin .add (.sub (!1) (¬1)) (¬2))) #[.ite (.and (.cmp .ne (.tup #[!3,!4]) (!1)) (.call "is_open" #[!0,.tup #[!3,!4]])) #[.app 2 (.tup #[!3,!4])] .nil]],.bK 2,.ret (!2)],none⟩
noncomputable def cW:Def:=⟨["floor","walker","spot","steps","other","cost"],3,#[.expr (.call "need_open" #[!0,!2]),.own 3 (.lst .nil),.dc (.one 4) (.seq (.call "open_spots_beside" #[!0,!2])) #[.set 5 (.call "step_cost" #[!0,!1,!2,!4]),.ite (.cmp .Aa (!5) (.cst .az)) #[.app 3 (.tup #[!4,!5])] .nil],.bK 3,.ret (!3)],none⟩
noncomputable def cT:Def:=⟨["floor","walker","spot"],3,#[.ret (.comp 1 [1,2,0] (.one 0) (.seq (.call "steps_from" #[!0,!1,!2])) (.tup #[.sub (!0) (¬0),.call "step_cost" #[!3,!1,.sub (!0) (¬0),!2]]))],none⟩
noncomputable def bH:Def:=⟨["starts","steps","reached","waiting","start","spot","other","cost","together"],2,#[.nV 2,.nV 3,.dc (.one 4) (.seq (!0)) #[.put 3 (!4) (.tup #[¬0,.cst .az])],.E0 (.cmp .gt (.blt .len #[.hZ 3]) (¬0)) #[.qm 5 3,.fM 2 3 5,.dc (.two 6 7) (.seq (.ni 1 #[!5])) #[.set 8 (.bin .add (.sub (.sub (.hZ 2) (!5)) (¬0)) (!7)),.ite (.and (.cmp .lV (!6) (.hZ 2)) (.or (.cmp .lV (!6) (.hZ 3)) (.cmp .lt (!8) (.sub (.sub (.hZ 3) (!6)) (¬0))))) #[.put 3 (!6) (.tup #[!8,!5])] .nil]],.bK 2,.ret (!2)],some ("steps_to",[1,2,1,0])⟩
def di:Def:=⟨["floor","walker","goals","goal"],3,#[.dc (.one 3) (.seq (!2)) #[.expr (.call "need_open" #[!0,!3])],.ret (.tV "spread@steps_to" #[!2] "steps_to" [1,2,1,0] [1,0])],none⟩
def cB:Def:=⟨["floor","walker","goal"],3,#[.ret (.call "rising_costs" #[.call "spread_to" #[!0,!1,.lst #[!2]]])],none⟩
noncomputable def bI:Def:=⟨["_law_script","_law_at","_law_spots_here","_law_paper","_law_way","_law_place","_law_spot","_law_by","_law_whole","_law_some"],4,#[.set 4 (.call "_law_pick" #[!0,!1,¬12]),.set 5 (.call "_law_pick" #[!0,.bin .add (!1) (¬1),.blt .len #[!3]]),.set 6 (.sub (!2) (.call "_law_pick" #[!0,.bin .add (!1) (¬2),.blt .len #[!2]])),.ite (.cmp .lt (!4) (¬6)) #[.set 7 (.sub (.lst #[.neg (¬1),.neg (¬2),¬1,.neg (¬9)]) (.call "_law_pick" #[!0,.bin .add (!1) (¬3),¬4])),.set 8 (.cmp .eq (.call "_law_pick" #[!0,.bin .add (!1) (¬4),¬3]) (¬0)),.ret (.comp 3 [8,5,7] (.Iz 0 1 2) (.enum (!3)) (.tup #[!1,.bin .add (!2) (.ite (.or (!3) (.cmp .eq (!0) (!4))) (!5) (¬0))]))] .nil,.ite (.cmp .eq (!4) (¬6)) #[.ret (.comp 2 [] (.two 0 1) (.seq (!3)) (.tup #[!0,¬0]))] .nil,.ite (.cmp .eq (!4) (¬7)) #[.ret (.bin .add (.slice (!3) .no (.some (!5))) (.slice (!3) (.some (.bin .add (!5) (¬1))) .no))] .nil,.ite (.cmp .eq (!4) (¬8)) #[.ret (.blt .eU #[.bin .add (!3) (.lst #[.tup #[!6,.call "_law_pick" #[!0,.bin .add (!1) (¬3),¬5]]])])] .nil,.ite (.cmp .eq (!4) (¬9)) #[.ret (.comp 2 [] (.two 0 1) (.seq (!3)) (.tup #[!0,.bin .fdiv (!1) (¬2)]))] .nil,.own 9 (.lst #[.blt .tuple #[!3],.rev (!3),.cst .az,.bin .add (!3) (.lst #[.cst .az]),.bin .add (!3) (.lst #[.tup #[!6,.cst (.bl true)]]),.lst .nil]),.app 9 (.comp 1 [] (.one 0) (.seq (!3)) (.blt .list #[!0])),.ret (.sub (.hZ 9) (.call "_law_pick" #[!0,.bin .add (!1) (¬3),¬7]))],none⟩
noncomputable def bS:Def:=⟨["floor","thing"],2,#[.ite (.or (.not (.ty .tuple (!1))) (.cmp .ne (.blt .len #[!1]) (¬2))) #[.ret (.cst (.bl false))] .nil,.ret (.and (.call "is_open" #[!0,.sub (!1) (¬0)]) (.and (.call "is_whole" #[.sub (!1) (¬1)]) (.cmp .ge (.sub (!1) (¬1)) (¬0))))],none⟩
noncomputable def aD:Def:=⟨["floor","thing"],2,#[.ite (.or (.not (.ty .list (!1))) (.not (.blt .all #[.comp 1 [0] (.one 0) (.seq (!1)) (.call "is_entry" #[!1,!0])]))) #[.ret (.cst (.bl false))] .nil,.ret (.blt .all #[.comp 2 [] (.two 0 1) (.zip (!1) (.slice (!1) (.some (¬1)) .no)) (.cmp .lt (.sub (!0) (¬0)) (.sub (!1) (¬0)))])],none⟩
noncomputable def bg:Def:=⟨["floor","walker","numbers","spot","other","cost"],4,#[.dc (.two 4 5) (.seq (.call "steps_to" #[!0,!1,!3])) #[.ite (.or (.cmp .lV (!4) (!2)) (.cmp .gt (.sub (!2) (!4)) (.bin .add (!5) (.sub (!2) (!3))))) #[.ret (.cst (.bl false))] .nil],.ret (.cst (.bl true))],none⟩
noncomputable def bM:Def:=⟨["floor","walker","goal","thing","numbers"],4,#[.ite (.not (.call "has_rising_entries" #[!0,!3])) #[.ret (.cst (.bl false))] .nil,.set 4 (.blt .dict #[!3]),.ite (.or (.cmp .lV (!2) (!4)) (.cmp .ne (.sub (!4) (!2)) (¬0))) #[.ret (.cst (.bl false))] .nil,.ret (.blt .all #[.comp 1 [1,4,0] (.one 0) (.seq (!4)) (.call "keeps_steps_to" #[!3,!1,!2,!0])])],none⟩
noncomputable def cb:Def:=⟨["_law_floor_here","_law_walker_here","_law_spot","_law_goal","_law_rise","_law_cost_here"],4,#[.set 4 (.bin .sub (.blt .int #[.sub (.sub (!0) (.sub (!3) (¬0))) (.sub (!3) (¬1))]) (.blt .int #[.sub (.sub (!0) (.sub (!2) (¬0))) (.sub (!2) (¬1))])),.set 5 (¬2),.ite (.or (.cmp .gt (!4) (.sub (!1) (¬1))) (.cmp .gt (.bin .sub (¬0) (!4)) (.sub (!1) (¬1)))) #[.ret (.cst .az)] .nil,.ite (.and (.cmp .ne (.sub (!2) (¬0)) (.sub (!3) (¬0))) (.cmp .ne (.sub (!2) (¬1)) (.sub (!3) (¬1)))) #[.ite (.or (.not (.sub (!1) (¬0))) (.or (.cmp .eq (.sub (.sub (!0) (.sub (!2) (¬0))) (.sub (!3) (¬1))) (.cst (.str "#"))) (.cmp .eq (.sub (.sub (!0) (.sub (!3) (¬0))) (.sub (!2) (¬1))) (.cst (.str "#"))))) #[.ret (.cst .az)] .nil,.set 5 (¬3)] .nil,.ret (.bin .add (!5) (.ite (.cmp .gt (!4) (¬0)) (.bin .mul (.sub (!1) (¬2)) (!4)) (¬0)))],none⟩
noncomputable def bE:Def:=⟨["_law_floor_here","_law_walker_here","_law_spot","_law_made","_law_k","_law_row","_law_column","_law_cost_here"],3,#[.own 3 (.lst .nil),.dc (.one 4) (.rn (¬9)) #[.set 5 (.bin .add (.bin .sub (.sub (!2) (¬0)) (¬1)) (.bin .fdiv (!4) (¬3))),.set 6 (.bin .add (.bin .sub (.sub (!2) (¬1)) (¬1)) (.bin .mod (!4) (¬3))),.ite (.and (.ch .le .lt (¬0) (!5) (.blt .len #[!0])) (.and (.ch .le .lt (¬0) (!6) (.blt .len #[.sub (!0) (¬0)])) (.and (.cmp .ne (!4) (¬4)) (.cmp .ne (.sub (.sub (!0) (!5)) (!6)) (.cst (.str "#")))))) #[.set 7 (.call "_law_cost" #[!0,!1,!2,.tup #[!5,!6]]),.ite (.cmp .Aa (!7) (.cst .az)) #[.app 3 (.tup #[.tup #[!5,!6],!7])] .nil] .nil],.bK 3,.ret (!3)],none⟩
noncomputable def bw:Def:=⟨["_law_floor_here","_law_walker_here","_law_goals","_law_spots_here","_law_steps_here","_law_costs_here","_law_again","_law_spot","_law_goal","_law_cost_here","_law_new"],3,#[.set 3 (.call "_law_spots" #[!0]),.set 4 (.blt .dict #[.comp 1 [1,0] (.one 0) (.seq (!3)) (.tup #[!0,.call "_law_steps" #[!2,!1,!0]])]),.rT 5 (.comp 1 [] (.one 0) (.seq (!2)) (.tup #[!0,¬0])),.set 6 (.cst (.bl true)),.E0 (!6) #[.set 6 (.cst (.bl false)),.dc (.one 7) (.seq (!3)) #[.dc (.two 8 9) (.seq (.sub (!4) (!7))) #[.ite (.cmp .Bj (!8) (.hZ 5)) #[.set 10 (.bin .add (.sub (.hZ 5) (!8)) (!9)),.ite (.or (.cmp .lV (!7) (.hZ 5)) (.cmp .lt (!10) (.sub (.hZ 5) (!7)))) #[.put 5 (!7) (!10),.set 6 (.cst (.bl true))] .nil] .nil]]],.bK 5,.ret (!5)],none⟩
noncomputable def aM:Def:=⟨["_law_spots_here","_law_thing"],2,#[.ite (.or (.not (.ty .tuple (!1))) (.or (.cmp .ne (.blt .len #[!1]) (¬2)) (.cmp .lV (.sub (!1) (¬0)) (!0)))) #[.ret (.cst (.bl false))] .nil,.ret (.and (.ty .int (.sub (!1) (¬1))) (.and (.not (.ty .bool (.sub (!1) (¬1)))) (.cmp .ge (.sub (!1) (¬1)) (¬0))))],none⟩
noncomputable def ba:Def:=⟨["_law_floor_here","_law_walker_here","_law_goal","_law_thing","_law_spots_here","_law_names","_law_book","_law_spot","_law_other","_law_cost_here"],4,#[.set 4 (.call "_law_spots" #[!0]),.ite (.or (.not (.ty .list (!3))) (.cmp .ne (.cH 1 [4] (.one 0) (.seq (!3)) (.not (.call "_law_is_entry" #[!1,!0])) (!0)) (.lst .nil))) #[.ret (.cst (.bl false))] .nil,.set 5 (.comp 1 [] (.one 0) (.seq (!3)) (.sub (!0) (¬0))),.ite (.or (.cmp .ne (.cH 1 [5] (.one 0) (.nk (¬1) (.blt .len #[!5])) (.not (.cmp .lt (.sub (!1) (.bin .sub (!0) (¬1))) (.sub (!1) (!0)))) (!0)) (.lst .nil)) (.cmp .lV (.tup #[!2,¬0]) (!3))) #[.ret (.cst (.bl false))] .nil,.set 6 (.blt .dict #[!3]),.dc (.one 7) (.seq (!4)) #[.dc (.two 8 9) (.seq (.call "_law_steps" #[!0,!1,!7])) #[.ite (.and (.cmp .Bj (!8) (!6)) (.or (.cmp .lV (!7) (!6)) (.cmp .gt (.sub (!6) (!7)) (.bin .add (!9) (.sub (!6) (!8)))))) #[.ret (.cst (.bl false))] .nil]],.ret (.cst (.bl true))],none⟩
noncomputable def cF:Def:=⟨["_law_script","_law_floor_here","_law_walker_here","_law_spots_here","_law_goal","_law_paper","_law_thing","_law_answer","_law_costs_here","_law_book"],1,#[.set 1 (.call "_law_floor" #[!0,¬0,¬5]),.set 2 (.call "_law_walker" #[!0,¬40]),.set 3 (.call "_law_spots" #[!1]),.ite (.cmp .eq (!3) (.lst .nil)) #[.ret (.cst (.bl true))] .nil,.set 4 (.sub (!3) (.call "_law_pick" #[!0,¬49,.blt .len #[!3]])),.set 5 (.call "distances_to" #[!1,!2,!4]),.ite (.cmp .Aa (.call "is_paper" #[!1,!2,!4,!5]) (.cst (.bl true))) #[.ret (.cst (.bl false))] .nil,.set 6 (.call "_law_changed" #[!0,¬50,!3,.blt .list #[!5]]),.set 7 (.call "is_paper" #[!1,!2,!4,!6]),.ite (.cmp .ne (!7) (.call "_law_due" #[!1,!2,!4,!6])) #[.ret (.cst (.bl false))] .nil,.ite (.not (!7)) #[.ret (.cst (.bl true))] .nil,.set 8 (.call "_law_costs_to" #[!1,!2,.lst #[!4]]),.set 9 (.blt .dict #[!6]),.ite (.cmp .ne (.cH 1 [8,9] (.one 0) (.seq (!9)) (.and (.cmp .Bj (!0) (!1)) (.cmp .gt (.sub (!2) (!0)) (.sub (!1) (!0)))) (!0)) (.lst .nil)) #[.ret (.cst (.bl false))] .nil,.ret (.cmp .eq (.cH 1 [9] (.one 0) (.seq (!8)) (.cmp .lV (!0) (!1)) (!0)) (.lst .nil))],none⟩
noncomputable def oe:Def:=⟨["_law_script","_law_turn"],1,#[.dc (.one 1) (.rn (¬9)) #[.ite (.not (.call "_law_once" #[.comp 1 [1] (.one 0) (.seq (!0)) (.bin .add (!0) (.bin .mul (¬7919) (!1)))])) #[.ret (.cst (.bl false))] .nil,.ite (.cmp .eq (!0) (.lst .nil)) #[.brk] .nil],.ret (.cst (.bl true))],none⟩
end
def T0:List (Str×Def):=[]
noncomputable def T1:List (Str×Def):=(("_law_cell":Str),dj)::T0
noncomputable def T2:List (Str×Def):=(("_law_pick":Str),bR)::T1
noncomputable def T3:List (Str×Def):=(("_law_floor":Str),cG)::T2
noncomputable def T4:List (Str×Def):=(("_law_walker":Str),cM)::T3
noncomputable def T5:List (Str×Def):=(("_law_spots":Str),bQ)::T4
noncomputable def T6:List (Str×Def):=(("rising_costs":Str),cC)::T5
noncomputable def T7:List (Str×Def):=(("are_beside":Str),cX)::T6
noncomputable def T8:List (Str×Def):=(("is_whole":Str),dD)::T7
noncomputable def T9:List (Str×Def):=(("is_spot":Str),d7)::T8
noncomputable def GY:List (Str×Def):=(("is_on_floor":Str),cL)::T9
noncomputable def LP:List (Str×Def):=(("is_open":Str),cK)::GY
noncomputable def Rm:List (Str×Def):=(("need_open":Str),b9)::LP
noncomputable def Pp:List (Str×Def):=(("height_at":Str),dh)::Rm
noncomputable def Jp:List (Str×Def):=(("has_open_corners":Str),bC)::Pp
noncomputable def RM:List (Str×Def):=(("step_cost":Str),bF)::Jp
noncomputable def L3:List (Str×Def):=(("open_spots_beside":Str),bt)::RM
noncomputable def JD:List (Str×Def):=(("steps_from":Str),cW)::L3
noncomputable def Ql:List (Str×Def):=(("steps_to":Str),cT)::JD
noncomputable def NS:List (Str×Def):=(("spread@steps_to":Str),bH)::Ql
noncomputable def OD:List (Str×Def):=(("spread_to":Str),di)::NS
noncomputable def Qa:List (Str×Def):=(("distances_to":Str),cB)::OD
noncomputable def Oy:List (Str×Def):=(("_law_changed":Str),bI)::Qa
noncomputable def Nw:List (Str×Def):=(("is_entry":Str),bS)::Oy
noncomputable def QT:List (Str×Def):=(("has_rising_entries":Str),aD)::Nw
noncomputable def Nx:List (Str×Def):=(("keeps_steps_to":Str),bg)::QT
noncomputable def SM:List (Str×Def):=(("is_paper":Str),bM)::Nx
noncomputable def L7:List (Str×Def):=(("_law_cost":Str),cb)::SM
noncomputable def O9:List (Str×Def):=(("_law_steps":Str),bE)::L7
noncomputable def Sx:List (Str×Def):=(("_law_costs_to":Str),bw)::O9
noncomputable def M3:List (Str×Def):=(("_law_is_entry":Str),aM)::Sx
noncomputable def tX:List (Str×Def):=(("_law_due":Str),ba)::M3
noncomputable def Uj:List (Str×Def):=(("_law_once":Str),cF)::tX
theorem Ob:den T1 "_law_cell"=ay (den T0) dj:=dk 0
theorem N5:den T2 "_law_pick"=ay (den T1) bR:=dk 0
theorem NG:den T3 "_law_pick"=ay (den T1) bR:=dk 1
theorem MW:den T8 "is_whole"=ay (den T7) dD:=dk 0
theorem HH:den GY "is_spot"=ay (den T8) d7:=dk 1
theorem Ex:den GY "is_on_floor"=ay (den T9) cL:=dk 0
theorem Gd:den LP "is_open"=ay (den GY) cK:=dk 0
theorem DL:den Rm "need_open"=ay (den LP) b9:=dk 0
theorem EB:den Pp "is_open"=ay (den GY) cK:=dk 2
theorem K5:den Jp "are_beside"=ay (den T6) cX:=dk 7
theorem Ds:den Jp "has_open_corners"=ay (den Pp) bC:=dk 0
theorem FZ:den Jp "height_at"=ay (den Rm) dh:=dk 1
theorem D3:den RM "is_open"=ay (den GY) cK:=dk 4
theorem Df:den L3 "need_open"=ay (den LP) b9:=dk 4
theorem EA:den L3 "open_spots_beside"=ay (den RM) bt:=dk 0
theorem EF:den L3 "step_cost"=ay (den Jp) bF:=dk 1
theorem Dp:den JD "steps_from"=ay (den L3) cW:=dk 0
theorem Fj:den JD "step_cost"=ay (den Jp) bF:=dk 2
theorem Eb:den Ql "steps_to"=ay (den JD) cT:=dk 0
theorem E7:den NS "need_open"=ay (den LP) b9:=dk 7
theorem FH:den NS "spread@steps_to"=ay (den Ql) bH:=dk 0
theorem Ju:den OD "rising_costs"=ay (den T5) cC:=dk 14
theorem D7:den OD "spread_to"=ay (den NS) di:=dk 0
theorem Lz:den Qa "_law_pick"=ay (den T1) bR:=dk 19
theorem Dr:den Oy "is_open"=ay (den GY) cK:=dk 11
theorem BW:den Oy "is_whole"=ay (den T7) dD:=dk 14
theorem E8:den Nw "is_entry"=ay (den Oy) bS:=dk 0
theorem EX:den QT "steps_to"=ay (den JD) cT:=dk 6
theorem wZ:den Nx "has_rising_entries"=ay (den Nw) aD:=dk 1
theorem Dt:den Nx "keeps_steps_to"=ay (den QT) bg:=dk 0
theorem D9:den L7 "_law_cost"=ay (den SM) cb:=dk 0
theorem Lm:den O9 "_law_spots"=ay (den T4) bQ:=dk 23
theorem Fv:den O9 "_law_steps"=ay (den L7) bE:=dk 0
theorem Lb:den M3 "_law_spots"=ay (den T4) bQ:=dk 25
theorem DH:den M3 "_law_is_entry"=ay (den Sx) aM:=dk 0
theorem EY:den M3 "_law_steps"=ay (den L7) bE:=dk 2
theorem Iw:den tX "_law_floor"=ay (den T2) cG:=dk 28
theorem KA:den tX "_law_walker"=ay (den T3) cM:=dk 27
theorem Jv:den tX "_law_spots"=ay (den T4) bQ:=dk 26
theorem Je:den tX "_law_pick"=ay (den T1) bR:=dk 29
theorem E9:den tX "distances_to"=ay (den OD) cB:=dk 10
theorem wm:den tX "is_paper"=ay (den Nx) bM:=dk 5
theorem EG:den tX "_law_changed"=ay (den Qa) bI:=dk 9
theorem DA:den tX "_law_due"=ay (den M3) ba:=dk 0
theorem En:den tX "_law_costs_to"=ay (den O9) bw:=dk 2
theorem Ge:den Uj "_law_once"=ay (den tX) cF:=dk 0
end K11
namespace L2
open PySem PySem.Spec PyProof.Rows PySem.W
theorem run_bind{α β:Type}(lt:Nat->Nat->Bool)(f:α->KasT β):∀t:KasT α,aK lt (t.bind f)=aK lt (f (aK lt t))
 |.ret a=>rfl
 |.ask i j k=>run_bind lt f (k (lt i j))
structure Lo(n:Nat)(lt:Nat->Nat->Bool):Prop where
 t:∀a b,a<n->b<n->a≠b->lt a b=true\/lt b a=true
 a:∀a b,lt a b=true->lt b a=false
 r:∀a b c,lt a b=true->lt b c=true->lt a c=true
abbrev gp(p:Array Nat)(i:Nat):Nat:=p.getD i 0
def Sg(lt:Nat->Nat->Bool)(p:Array Nat)(r:Nat):Prop:=∀i j,i<j->j<r->lt (gp p i) (gp p j)=true
section
variable{n:Nat}{lt:Nat->Nat->Bool}
theorem Pm.size{p:Array Nat}(h:Pm n p):p.size=n:=by
 have:=h.length_eq
 simpa using this
theorem Pm.ne{p:Array Nat}(h:Pm n p){i j:Nat}(hi:i<n)(hj:j<n)(hn:i≠j):gp p i≠gp p j:=by
 have nd:p.toList.Nodup:=h.nodup_iff.2 List.nodup_range
 have sz:=h.size
 intro e;rw [gp,gp,Array.getD_eq_getD_getElem?,Array.getD_eq_getD_getElem?,Array.getElem?_eq_getElem (by omega),Array.getElem?_eq_getElem (by omega)] at e;simp only [Option.getD_some] at e;have:=(List.getElem_inj nd (h₀:=by simpa [sz] using hi) (h₁:=by simpa [sz] using hj)).1 (by simpa using e)
 exact hn this
theorem Pm.or{p:Array Nat}(L:Lo n lt)(h:Pm n p){i j:Nat}(hi:i<n)(hj:j<n)(hn:i≠j)(f:lt (gp p i) (gp p j)=false):lt (gp p j) (gp p i)=true:=
 (L.t _ _ (h.lt (by omega) i) (h.lt (by omega) j) (h.ne hi hj hn)).resolve_left (by rw [f];exact zzf)
theorem Sg.one(p:Array Nat):Sg lt p 1:=λi j h1 h2=>by omega
theorem Sg.snoc(L:Lo n lt){p:Array Nat}{m:Nat}(h1:1<=m)(h:Sg lt p m)(e:lt (gp p (m-1)) (gp p m)=true):Sg lt p (m+1):=λi j xy hj=>by
 by_cases hm:j=m
 ·subst hm
  by_cases hi:i=j-1
  ·subst hi;exact e
  ·exact L.r _ _ _ (h i (j-1) (by omega) (by omega)) e
 ·exact h i j xy (by omega)
theorem qE(L:Lo n lt){p:Array Nat}(P:Pm n p):∀f m,1<=m->m+f<=n->Sg lt p m->m<=aK lt (kas_asc p f m)/\aK lt (kas_asc p f m)<=m+f/\Sg lt p (aK lt (kas_asc p f m))/\(aK lt (kas_asc p f m)<m+f->lt (gp p (aK lt (kas_asc p f m))) (gp p (aK lt (kas_asc p f m)-1))=true)
 |0,m,h1,h2,h3=>⟨zzE _,zzE _,h3,λz=>absurd z (Nat.lt_irrefl _)⟩
 |f+1,m,h1,h2,h3=>by
  unfold kas_asc;simp only [aK];cases e:lt (gp p m) (gp p (m-1)) with
  |true=>rw [if_pos rfl];exact⟨zzE _,Nat.le_add_right _ _,h3,λ_=>e⟩
  |false=>
   rw [if_neg zzf];have e2:=P.or L (by omega) (by omega) (by omega) e
   obtain⟨a,b,c,d⟩:=qE L P f (m+1) (by omega) (by omega) (h3.snoc L h1 e2)
   exact⟨by omega,by omega,c,λz=>d (by omega)⟩
def Dg(lt:Nat->Nat->Bool)(p:Array Nat)(r:Nat):Prop:=∀i j,i<j->j<r->lt (gp p j) (gp p i)=true
theorem tM(L:Lo n lt){p:Array Nat}(P:Pm n p):∀f m,1<=m->m+f<=n->Dg lt p m->∃m',aK lt (kas_desc f p m 0)=(p,m',0)/\m<=m'/\m'<=m+f/\Dg lt p m'
 |0,m,h1,h2,h3=>⟨m,rfl,zzE _,zzE _,h3⟩
 |f+1,m,h1,h2,h3=>by
  unfold kas_desc;simp only [aK];cases e:lt (gp p m) (gp p (m-1)) with
  |true=>
   rw [if_pos rfl,if_neg (Nat.lt_irrefl 0)];obtain⟨m',a,b,c,d⟩:=tM L P f (m+1) (by omega) (by omega) (λi j xy hj=>by
    by_cases hm:j=m
    ·subst hm
     by_cases hi:i=j-1
     ·subst hi;exact e
     ·exact L.r _ _ _ e (h3 i (j-1) (by omega) (by omega))
    ·exact h3 i j xy (by omega))
   exact⟨m',a,by omega,by omega,d⟩
  |false=>
   have e2:=P.or L (by omega) (by omega) (by omega) e
   rw [if_neg zzf];simp only [aK];rw [show lt (p.getD (m-1) 0) (p.getD m 0)=true from e2,if_pos rfl];exact⟨m,rfl,zzE _,by omega,h3⟩
theorem xA{p:Array Nat}{m:Nat}(h:m<=p.size)(k:Nat):gp (kas_rev p 0 m) k=if k<m then gp p (m-1-k) else gp p k:=by
 unfold kas_rev gp;rw [Array.getD_eq_getD_getElem?,getElem?_mirror_all h];simp only [Nat.zero_le,true_and,Nat.zero_add];split<;>rw [Array.getD_eq_getD_getElem?]
theorem Dg.rev{p:Array Nat}{m:Nat}(h:m<=p.size)(d:Dg lt p m):Sg lt (kas_rev p 0 m) m:=λi j xy hj=>by
 rw [xA h,xA h,if_pos (by omega),if_pos hj];exact d _ _ (by omega) (by omega)
theorem yg(L:Lo n lt)(h0:0<n){p:Array Nat}(P:Pm n p):Sg lt (aK lt (kas_count n p)).2 (aK lt (kas_count n p)).1/\Pm n (aK lt (kas_count n p)).2/\1<=(aK lt (kas_count n p)).1/\(aK lt (kas_count n p)).1<=n:=by
 unfold kas_count;rw [run_bind];obtain⟨a,b,c,d⟩:=qE L P (n-1) 1 (zzE _) (by omega) (Sg.one p)
 generalize aK lt (kas_asc p (n-1) 1)=m at a b c d
 split
 ·exact⟨c,P,a,by show m<=n;omega⟩
 ·rename_i hm;have nH:m≠n:=λz=>hm (by rw [z];exact beq_self_eq_true n)
  split
  ·rename_i h1;simp only [aK];rw [show lt (p.getD 0 0) (p.getD (m-1) 0)=true from c 0 (m-1) (by omega) (by omega),if_pos rfl];exact⟨c,P,a,by show m<=n;omega⟩
  ·have L5:m=1:=by omega
   subst L5;have e:=d (by omega)
   unfold kas_descPart;rw [run_bind];obtain⟨m',r,r1,r2,r3⟩:=tM L P (n-(1+1)) (1+1) (by omega) (by omega) (λi j xy hj=>by
    have UW:i=0:=by omega
    have UM:j=1:=by omega
    subst UW;subst UM;exact e)
   rw [r];dsimp only;rw [if_neg (Nat.lt_irrefl 0)];unfold kas_tail3;rw [run_bind];have P':=P.rev 0 m'
   obtain⟨a',b',c',_⟩:=qE L P' (n-m') m' (by omega) (by omega) (r3.rev (by rw [P.size];omega))
   simp only [aK];exact⟨c',P',by omega,by omega⟩
theorem j0(L:Lo n lt){p:Array Nat}(P:Pm n p){k:Nat}(hk:k<n)(S:Sg lt p k):∀f l r,r-l<=f->l<=r->r<=k->(∀i,i<l->lt (gp p i) (gp p k)=true)->(∀i,r<=i->i<k->lt (gp p k) (gp p i)=true)->
 aK lt (kas_place p k f l r)<=k/\(∀i,i<aK lt (kas_place p k f l r)->lt (gp p i) (gp p k)=true)/\∀i,aK lt (kas_place p k f l r)<=i->i<k->lt (gp p k) (gp p i)=true
 |0,l,r,h1,h2,h3,h4,h5=>by
  have hl:l=r:=by omega
  subst hl;exact⟨h3,h4,h5⟩
 |f+1,l,r,h1,h2,h3,h4,h5=>by
  unfold kas_place;split
  ·have hl:l=r:=by omega
   subst hl;exact⟨h3,h4,h5⟩
  ·simp only [aK];have bZ:l<r:=by omega
   have m1:l<=(l+r)/2:=by omega
   have m2:(l+r)/2<r:=by omega
   generalize hm:(l+r)/2=m at m1 m2
   cases e:lt (gp p k) (gp p m) with
   |true=>
    rw [if_pos rfl];refine j0 L P hk S f l m (by omega) m1 (by omega) h4 λi hi UC=>?_
    by_cases z:i=m
    ·subst z;exact e
    ·exact L.r _ _ _ e (S m i (by omega) UC)
   |false=>
    rw [if_neg zzf];have e2:=P.or L hk (by omega) (by omega) e
    refine j0 L P hk S f (m+1) r (by omega) (by omega) h3 (λi hi=>?_) h5
    by_cases z:i=m
    ·subst z;exact e2
    ·exact L.r _ _ _ (S i m (by omega) (by omega)) e2
theorem wg{p:Array Nat}{k x:Nat}(hk:k<p.size)(hx:x<=k)(i:Nat):gp (bubble p k (k-x)) i=if i=x then gp p k else if x<i/\i<=k then gp p (i-1) else gp p i:=by
 have g:∀(q:Array Nat) j,gp q j=(q[j]?).getD 0:=λq j=>Array.getD_eq_getD_getElem? ..
 rw [g,g,g,g,getElem?_bubble hk (k-x) (by omega),show k-(k-x)=x by omega];split
 ·rfl
 ·split<;>rfl
theorem xB(L:Lo n lt):∀f (p:Array Nat) k,k+f=n->Pm n p->Sg lt p k->Sg lt (aK lt (kas_bin f p k)) n
 |0,p,k,h,P,S=>by
  have:k=n:=by omega
  subst this;exact S
 |f+1,p,k,h,P,S=>by
  unfold kas_bin;rw [run_bind];obtain⟨a,b,c⟩:=j0 L P (k:=k) (by omega) S k 0 k (by omega) (Nat.zero_le _) (zzE _) (λi hi=>absurd hi (Nat.not_lt_zero _)) (λi h1 h2=>by omega)
  generalize aK lt (kas_place p k k 0 k)=x at a b c
  refine xB L f _ (k+1) (by omega) (P.Uc _ _) λi j xy hj=>?_
  have hs:k<p.size:=by rw [P.size];omega
  rw [wg hs a,wg hs a]
  by_cases hi:i=x
  ·rw [if_pos hi,if_neg (by omega),if_pos (by omega)];exact c _ (by omega) (by omega)
  ·rw [if_neg hi]
   by_cases FV:j=x
   ·rw [if_pos FV,if_neg (by omega)];exact b _ (by omega)
   ·rw [if_neg FV]
    by_cases i2:x<i/\i<=k
    ·rw [if_pos i2,if_pos (by omega)];exact S _ _ (by omega) (by omega)
    ·rw [if_neg i2]
     by_cases j2:x<j/\j<=k
     ·rw [if_pos j2]
      by_cases z:i=j-1
      ·omega
      ·exact S _ _ (by omega) (by omega)
     ·rw [if_neg j2];exact S _ _ xy (by omega)
theorem nY(L:Lo n lt)(h0:0<n):(jY n lt).Pairwise λa b=>lt a b=true:=by
 have key:Sg lt (aK lt (kas_sort n)) n:=by
  unfold kas_sort;rw [run_bind];obtain⟨a,b,c,d⟩:=yg L h0 (p:=(List.range n).toArray) (List.Perm.refl _)
  generalize aK lt (kas_count n (List.range n).toArray)=r at a b c d
  split
  ·rw [Nat.max_eq_left c];exact xB L _ _ _ (by omega) b a
  ·have:r.1=n:=by omega
   rw [this] at a;exact a
 have P:Pm n (aK lt (kas_sort n)):=eQ h0 lt
 have sz:=P.size
 rw [List.pairwise_iff_getElem];intro i j hi hj xy;have FV:j<(aK lt (kas_sort n)).size:=by simpa [jY] using hj
 have:=key i j xy (by omega)
 simpa [gp,jY,Array.getD_eq_getD_getElem?,Array.getElem?_eq_getElem FV,Array.getElem?_eq_getElem (Nat.lt_trans xy FV)] using this
end
end L2
namespace K11
open PySem L2 Ci KJ
abbrev sp(r c:Int):PV:=.tup [.int r,.int c]
abbrev ef(ns:List Int):PV:=.lst (ns.map .int)
theorem aI{i:Int}:cR .abs [.int i]=.ok (.int (if i<0 then -i else i)):=rfl
theorem mX{i j:Int}:cR .max2 [.int i,.int j]=.ok (.int (if j>i then j else i)):=rfl
theorem TL:dN .gt=vp:=rfl
theorem Uh{i j:Int}:vp (.int i) (.int j)=.ok (.bl (decide (j<i))):=rfl
theorem Oc:dN .Aa=gM:=rfl
abbrev wk(sl:Bool)(cl pr:Int):PV:=.tup [.bl sl,.int cl,.int pr]
theorem NH{r c:Int}:aN (sp r c) (.int 0)=.ok (.int r):=rfl
theorem N9{r c:Int}:aN (sp r c) (.int 1)=.ok (.int c):=rfl
theorem Tr{sl:Bool}{cl pr:Int}:aN (wk sl cl pr) (.int 0)=.ok (.bl sl):=rfl
theorem SH{sl:Bool}{cl pr:Int}:aN (wk sl cl pr) (.int 1)=.ok (.int cl):=rfl
theorem Tu{sl:Bool}{cl pr:Int}:aN (wk sl cl pr) (.int 2)=.ok (.int pr):=rfl
theorem nI{i j:Int}:iT (.int i) (.int j)=.ok (.bl (!(i==j))):=rfl
theorem eI{i j:Int}:iz (.int i) (.int j)=.ok (.bl (i==j)):=rfl
theorem nS{r c r' c':Int}:iT (sp r c) (sp r' c')=.ok (.bl (!((r==r')&&((c==c')&&true)))):=rfl
theorem eS{r c r' c':Int}:iz (sp r c) (sp r' c')=.ok (.bl ((r==r')&&((c==c')&&true))):=rfl
noncomputable def J2:=And.intro @NH (And.intro @N9 (And.intro @Tr (And.intro @SH (And.intro @Tu (And.intro @aI (And.intro @mX (And.intro @TL (And.intro @Uh (And.intro @nI (And.intro @eI (And.intro @nS (And.intro @eS (And.intro @Oc (And.intro @OO (And.intro @OY (@OP))))))))))))))))
set_option hygiene false
local macro_rules | `(tactic| simp! only [$x,*] $[$l:location]?) => `(tactic| simp only [ay, cu, cm, aJ, g6, aQ, da, v8, qZ, fR, kM, iB, List.replicate, Nat.reduceAdd, Nat.reduceSub, reduceIte, ite_true, ite_false, BEq.rfl, beq_self_eq_true, qV, L0, Tp, Tw, Ud, Sd, sv, TH, SO, M4, Gm, GN, Gv, Nc, NR, Oi, MA, RU, Ui, SF, Sr, Rk, SN, MN, oLt, oLe, Qw, lL, lT, lS, tL, aL, Ox, RV, El, jA, jB, jC, jD, jE, jF, jG, jH, jI, jJ, jK, jL, jM, jN, jO, jP, KJ.dR, RX, OY, OO, OP, S1, jQ, jR, NH, N9, Tr, SH, Tu, aI, mX, TL, Uh, nI, eI, nS, eS, Oc, $x,*] $[$l]?)
local macro_rules | `(tactic| dsimp! only [$x,*] $[$l:location]?) => `(tactic| simp only [ay, cu, cm, aJ, g6, aQ, da, v8, qZ, fR, kM, iB, List.replicate, Nat.reduceAdd, Nat.reduceSub, reduceIte, ite_true, ite_false, BEq.rfl, beq_self_eq_true, J, J2, $x,*] $[$l]?)
set_option hygiene true
theorem i5(F:aO)(i:Int):ay F dD [.int i]=.ok (.bl true):=by rfl
theorem lP{α:Type}{xs:List α}{k:Nat}(h:k<xs.length):ub xs (k:Int)=some xs[k]:=by
 unfold ub KQ;have:((k:Nat):Int)<(xs.length:Int):=by omega
 simp [this,h]
theorem vX{ns:List Int}{k:Int}(h0:0<=k)(h:k<ns.length):∃m,ub (ns.map PV.int) k=some (.int m):=by
 obtain⟨j,rfl⟩:=Int.eq_ofNat_of_zero_le h0
 refine⟨ns[j]'(by omega),?_⟩;rw [lP (k:=j) (by simp;omega)];simp
theorem Bb(ns:List Int)(n:Nat):Ci.plain (n+1) (.lst (ns.map .int))=true:=by
 simp only [Ci.plain,zzT,List.mem_map]
 rintro x ⟨i,_,rfl⟩
 cases n<;>rfl
theorem eq_nil(ns:List Int):iz (ef ns) (.lst [])=.ok (.bl (decide (ns=[]))):=by
 have e:Cz (ef ns)=true:=Bb ns 8
 unfold iz;rw [e];cases ns<;>rfl
theorem D5(F:aO)(ns:List Int)(k:Int)(hk:0<=k):∃m,ay F dj [ef ns,.int k]=.ok (.int m):=by
 simp! only [dj,zzl,eq_nil]
 by_cases h:k<(ns.length:Int)
 ·obtain⟨m,e⟩:=vX hk h
  refine⟨m,?_⟩;simp! only [h,decide_true,aN,e]
 ·simp! only [h,decide_false,eq_nil];cases ns with
  |nil=>exact⟨0,rfl⟩
  |cons n ns=>
   have hl:(0:Int)<((n::ns).length:Int):=by simp only [zzL];omega
   obtain⟨m,e⟩:=vX (ns:=n::ns) (k:=k%((n::ns).length:Int)) (Int.emod_nonneg _ (by omega)) (Int.emod_lt_of_pos _ hl)
   refine⟨m*31+k,?_⟩;have e3:(aV m||aV 31)=true:=by rw [Bool.or_eq_true];exact .inr (by decide)
   have e4:aN (ef (n::ns)) (.int (k%((n::ns).length:Int)))=.ok (.int m):=by simp only [aN,e];rfl
   have e5:decide ((n::ns)=[])=false:=rfl
   simp only [zzL] at hl e4;simp! only [e5,zzl,hl,e4,e3]
theorem Fs(F:aO)(hc:∀ns k,0<=k->∃m,F "_law_cell" [ef ns,.int k]=.ok (.int m))(ns:List Int)(k q:Int)(hk:0<=k)(hq:0<q):∃m,ay F bR [ef ns,.int k,.int q]=.ok (.int m)/\0<=m/\m<q:=by
 obtain⟨m,e⟩:=hc ns k hk
 have s1:(aV 6151||aV (k+1))=true:=by rw [Bool.or_eq_true];exact .inl (by decide)
 have s2:(aV (m+6151*(k+1))||aV 40692)=true:=by rw [Bool.or_eq_true];exact .inr (by decide)
 have s3:(0:Int)<2147483399:=by decide
 have s4:(0:Int)<2147483629:=by decide
 have s5:(0:Int)<31/\(31:Int)<1073741824:=by decide
 have a0:=Int.emod_nonneg ((m+6151*(k+1))*40692) (b:=2147483399) (by decide)
 have a1:=Int.emod_lt_of_pos ((m+6151*(k+1))*40692) s3
 refine⟨((((m+6151*(k+1))*40692%2147483399)*((m+6151*(k+1))*40692%2147483399)+((m+6151*(k+1))*40692%2147483399)/31)%2147483629)%q,?_,Int.emod_nonneg _ (by omega),Int.emod_lt_of_pos _ hq⟩;generalize hd:(m+6151*(k+1))*40692%2147483399=d at a0 a1
 have s6:(aV d||aV d)=true:=by
  have:aV d=true:=by simp only [aV,zza,zzN];omega
  rw [this];rfl
 simp! only [bR,ef] at e⊢;simp! only [e,s1,s2,s3,s4,s5,hd,s6,hq,and_self]
def mD(aa:List Str):Prop:=aa.length<=6/\∀z∈aa,z.length<=6
abbrev fl(aa:List Str):PV:=.tup (aa.map .str)
def cd(aa:List Str)(r c:Nat):Option Nat:=(aa[r]?).bind λz=>z.cps.toList[c]?
def CC(aa:List Str)(r c:Nat):Bool:=match cd aa r c with|some x=>x !=35|none=>false
def cy(aa:List Str)(r c:Int):Bool:=decide (0<=r)&&decide (0<=c)&&CC aa r.toNat c.toNat
theorem u0(F:aO)(h:∀i,F "is_whole" [.int i]=.ok (.bl true))(r c:Int):ay F d7 [sp r c]=.ok (.bl true):=by
 have e0:aN (sp r c) (.int 0)=.ok (.int r):=rfl
 have e1:aN (sp r c) (.int 1)=.ok (.int c):=rfl
 have e2:iz (.int ((2:Nat):Int)) (.int 2)=.ok (.bl true):=rfl
 simp! only [d7,ve,h,e0,e1,e2]
theorem Mz(F:aO)(aa:List Str)(R:mD aa)(r c:Int):ay F cL [fl aa,sp r c]=.ok (.bl (decide (0<=r)&&decide (0<=c)&&(cd aa r.toNat c.toNat).isSome)):=by
 have e0:aN (sp r c) (.int 0)=.ok (.int r):=rfl
 have e1:aN (sp r c) (.int 1)=.ok (.int c):=rfl
 simp! only [cL,ve,e0,e1,rS,qw,zzl]
 by_cases h0:0<=r
 ·by_cases h1:r<(aa.length:Int)
  ·obtain⟨j,rfl⟩:=Int.eq_ofNat_of_zero_le h0
   have hj:j<aa.length:=by omega
   have e2:aN (fl aa) (.int (j:Int))=.ok (.str aa[j]):=by
    simp only [aN,fl];rw [lP (k:=j) (by simpa using hj)];simp [Res.of]
   have e3:(aa[j]).length<=df:=zzU (R.2 _ (List.getElem_mem hj)) (by decide)
   have e4:(aa[j]).cps.size=(aa[j]).length:=rfl
   simp! only [h0,h1,decide_true,e2,e3]
   by_cases h2:0<=c
   ·obtain⟨i,rfl⟩:=Int.eq_ofNat_of_zero_le h2
    simp! only [h2,decide_true,cd,Int.toNat_natCast,zzg hj,Option.bind_some,Bool.and_self,Bool.true_and,Res.ok.injEq,PV.bl.injEq];rw [Bool.eq_iff_iff];simp [e4]
   ·simp [ay,cu,cm,aJ,g6,aQ,da,v8,qZ,fR,kM,iB,List.replicate,Nat.reduceAdd,Nat.reduceSub,reduceIte,ite_true,ite_false,BEq.rfl,beq_self_eq_true,J,h2]
  ·have:cd aa r.toNat c.toNat=none:=by
    unfold cd;rw [List.getElem?_eq_none (by omega)];rfl
   simp [ay,cu,cm,aJ,g6,aQ,da,v8,qZ,fR,kM,iB,List.replicate,Nat.reduceAdd,Nat.reduceSub,reduceIte,ite_true,ite_false,BEq.rfl,beq_self_eq_true,J,h0,h1,this]
 ·simp [ay,cu,cm,aJ,g6,aQ,da,v8,qZ,fR,kM,iB,List.replicate,Nat.reduceAdd,Nat.reduceSub,reduceIte,ite_true,ite_false,BEq.rfl,beq_self_eq_true,J,h0]
theorem AQ{aa:List Str}{j:Nat}{z:Str}(h:aa[j]?=some z):aN (fl aa) (.int (j:Int))=.ok (.str z):=by
 obtain⟨hj,rfl⟩:=zzH.1 h
 simp only [aN,fl];rw [lP (k:=j) (by simpa using hj)];simp [Res.of]
theorem Ed{z:Str}{i x:Nat}(hz:z.length<=df)(h:z.cps.toList[i]?=some x):aN (.str z) (.int (i:Int))=.ok (.str ⟨#[x]⟩):=by
 obtain⟨hj,rfl⟩:=zzH.1 h
 simp only [aN,hz,if_true];rw [lP (k:=i) hj]
 rfl
theorem BG{aa:List Str}(R:mD aa){j i x:Nat}(h:cd aa j i=some x):∃z,aa[j]?=some z/\aN (fl aa) (.int (j:Int))=.ok (.str z)/\aN (.str z) (.int (i:Int))=.ok (.str ⟨#[x]⟩):=by
 unfold cd at h;cases hz:aa[j]? with
 |none=>rw [hz] at h;cases h
 |some z=>
  rw [hz] at h;exact⟨z,rfl,AQ hz,Ed (zzU (R.2 _ (zzD hz)) (by decide)) h⟩
theorem uY(x:Nat):iT (.str ⟨#[x]⟩) (.str "#")=.ok (.bl (x !=35)):=by
 have:(("#":Str))=⟨#[35]⟩:=by decide+kernel
 rw [this];show Res.ok (PV.bl (!((⟨#[x]⟩:Str)==⟨#[35]⟩)))=_
 congr 2
 rw [bne,Bool.eq_iff_iff];simp
theorem Ee(F:aO)(hs:∀r c,F "is_spot" [sp r c]=.ok (.bl true))(ho:∀aa,mD aa->∀r c,F "is_on_floor" [fl aa,sp r c]=.ok (.bl (decide (0<=r)&&decide (0<=c)&&(cd aa r.toNat c.toNat).isSome)))
 (aa:List Str) (R:mD aa) (r c:Int):ay F cK [fl aa,sp r c]=.ok (.bl (cy aa r c)):=by
 have e0:aN (sp r c) (.int 0)=.ok (.int r):=rfl
 have e1:aN (sp r c) (.int 1)=.ok (.int c):=rfl
 simp! only [cK,hs,ho aa R,e0,e1];unfold cy CC
 by_cases h0:0<=r
 ·by_cases h1:0<=c
  ·obtain⟨j,rfl⟩:=Int.eq_ofNat_of_zero_le h0
   obtain⟨i,rfl⟩:=Int.eq_ofNat_of_zero_le h1
   simp only [h0,h1,decide_true,Bool.true_and,Bool.and_self,Int.toNat_natCast];cases hc:cd aa j i with
   |none=>simp [ay,cu,cm,aJ,g6,aQ,da,v8,qZ,fR,kM,iB,List.replicate,Nat.reduceAdd,Nat.reduceSub,reduceIte,ite_true,ite_false,BEq.rfl,beq_self_eq_true,J]
   |some x=>
    obtain⟨z,_,e2,e3⟩:=BG R hc
    simp! only [Option.isSome_some,e2,e3,uY]
  ·simp [ay,cu,cm,aJ,g6,aQ,da,v8,qZ,fR,kM,iB,List.replicate,Nat.reduceAdd,Nat.reduceSub,reduceIte,ite_true,ite_false,BEq.rfl,beq_self_eq_true,J,h1]
 ·simp [ay,cu,cm,aJ,g6,aQ,da,v8,qZ,fR,kM,iB,List.replicate,Nat.reduceAdd,Nat.reduceSub,reduceIte,ite_true,ite_false,BEq.rfl,beq_self_eq_true,J,h0]
theorem pJ(F:aO)(ho:∀aa,mD aa->∀r c,F "is_open" [fl aa,sp r c]=.ok (.bl (cy aa r c)))(aa:List Str)(R:mD aa)(r c:Int)(h:cy aa r c=true):ay F b9 [fl aa,sp r c]=.ok .az:=by
 simp! only [b9,ho aa R,h]
abbrev GD(p:Int×Int):PV:=sp p.1 p.2
theorem bL{α:Type}{f:PV->Res (Option PV)}{p:α->PV}{g:α->PV}:∀{xs:List α},(∀x∈xs,f (p x)=.ok (some (g x)))->bo f (xs.map p)=.ok (xs.map g)
 |[],_=>rfl
 |x::xs,h=>by
  simp only [zzF,bo,h x (zzP ..),Res.well,Res.bind,bL (xs:=xs) λy hy=>h y (zzI _ hy),oc]
theorem qv{aa:List Str}{r c:Int}:cy aa r c=true↔0<=r/\0<=c/\CC aa r.toNat c.toNat=true:=by
 simp only [cy,zza,zzN,and_assoc]
theorem g7{body:PV->Sl->Res Fl}{P:Nat->Sl->Prop}:∀(xs:List PV) (k:Nat) (env:Sl),P k env->(∀i x env,xs[i]?=some x->P (k+i) env->∃au,body x env=.ok (.nx au)/\P (k+i+1) au)->∃au,forL body xs env=.ok (.nx au)/\P (k+xs.length) au
 |[],k,env,h,_=>⟨env,rfl,h⟩
 |x::xs,k,env,h,g=>by
  obtain⟨e1,b1,p1⟩:=g 0 x env rfl h
  obtain⟨e2,b2,p2⟩:=g7 xs (k+1) e1 p1 λi y env hy hp=>by
   obtain⟨e3,b3,p3⟩:=g (i+1) y env hy (by rw [show k+(i+1)=k+1+i by omega];exact hp)
   exact⟨e3,b3,by rw [show k+1+i+1=k+(i+1)+1 by omega];exact p3⟩
  refine⟨e2,?_,by rw [zzL,show k+(xs.length+1)=k+1+xs.length by omega];exact p2⟩;simp only [forL,b1,qV,b2]
theorem B9{n i:Nat}{x:PV}(h:(eN 0 n)[i]?=some x):i<n/\x=.int (i:Int):=by
 simp only [eN,zzQ,zzJ] at h;obtain⟨j,hj,rfl⟩:=h
 obtain⟨h1,h2⟩:=zzH.1 hj
 simp only [List.getElem_range] at h2;subst h2;simp only [List.length_range] at h1;exact⟨h1,by simp⟩
def fL(F:aO):Prop:=∀(ns:List Int) (k q:Int),0<=k->0<q->∃m,F "_law_pick" [ef ns,.int k,.int q]=.ok (.int m)/\0<=m/\m<q
theorem lA{a b c d m:Int}(h0:0<=m)(h1:m<4):∃v,aN (.lst [.int a,.int b,.int c,.int d]) (.int m)=.ok (.int v)/\(v=a\/v=b\/v=c\/v=d):=by
 have:m=0\/m=1\/m=2\/m=3:=by omega
 rcases this with rfl|rfl|rfl|rfl
 ·exact⟨a,rfl,.inl rfl⟩
 ·exact⟨b,rfl,.inr (.inl rfl)⟩
 ·exact⟨c,rfl,.inr (.inr (.inl rfl))⟩
 ·exact⟨d,rfl,.inr (.inr (.inr rfl))⟩
noncomputable def GX:Ss:=(.cons (.set 11 (.call "_law_pick" (.cons (.var 0) (.cons (.bin .add (.bin .add (.bin .add (.var 1) (.cst (.int 4))) (.bin .mul (.var 2) (.var 8))) (.var 10)) (.cons (.bin .mul (.cst (.int 12)) (.var 6)) .nil)))))
 (.cons (.set 9 (.bin .add (.var 9) (.ite (.cmp .lt (.bin .mod (.var 11) (.cst (.int 12))) (.var 5)) (.cst (.str "#")) (.blt .str (.cons (.bin .fdiv (.var 11) (.cst (.int 12))) .nil)))))
 .nil))
noncomputable def II:Ss:=(.cons (.set 9 (.cst (.str "")))
 (.cons (.dc (.one 10) (.rn (.var 4)) GX)
 (.cons (.app 7 (.var 9))
 .nil)))
structure Fl(aa:List Str)(w:Nat):Prop where
 vd:mD aa
 ne:0<aa.length
 w1:1<=w
 FW:∀z∈aa,z.length=w
 dig:∀z∈aa,∀x∈z.cps.toList,x=35\/(48<=x/\x<=57)
theorem Eu{v:Int}(h0:0<=v)(h1:v<10):cR .str [.int v]=.ok (.str ⟨#[48+v.toNat]⟩):=by
 obtain⟨n,rfl⟩:=Int.eq_ofNat_of_zero_le h0
 have key:∀k:Fin 10,(((k.1:Nat):Int).natAbs.log2<1920)/\((toString ((k.1:Nat):Int)):Str)=⟨#[48+k.1]⟩:=by decide+kernel
 have k:=key ⟨n,Int.ofNat_lt.1 h1⟩
 show(if _ then Res.ok (PV.str _) else _)=_
 rw [if_pos k.1,Int.toNat_natCast,k.2]
theorem F0{x:Nat}(h0:48<=x)(h1:x<=57):cR .int [.str ⟨#[x]⟩]=.ok (.int ((x:Int)-48)):=by
 have key:∀k:Fin 10,PySem.intText? (⟨#[48+k.1]⟩:Str)=some (((48+k.1:Nat):Int)-48):=by decide+kernel
 obtain⟨k,rfl⟩:=Nat.exists_eq_add_of_le h0
 have e:=key ⟨k,Nat.lt_succ_of_le (Nat.le_of_add_le_add_left (a:=48) h1)⟩
 show(if(⟨#[48+k]⟩:Str).length<=640 then(Res.of (PySem.intText? (⟨#[48+k]⟩:Str))).bind λn=>Res.ok (PV.int n) else .bad)=_
 rw [if_pos (show(⟨#[48+k]⟩:Str).length<=640 from(by show 1<=640;decide)),e]
 rfl
theorem IB(F:aO)(hp:fL F)(ns:List Int)(q a b sh tp:Int)(US:0<=q)(SQ:q<=6)(h1:1<=tp)(h2:tp<=10)(own:PV)(i n:Nat)(hn:n<=6)(kl KL:Ci.Slot):
 ∃(z:Str) (qe Gq:Ci.Slot),z.length=n/\(∀x∈z.cps.toList,x=35\/(48<=x/\x<=57))/\forL (λx env=>((Tg.one 10).put x env).bind λau=>aJ F GX au) (eN 0 n) [.val (ef ns),.val (.int 0),.val (.int q),.val (.int a),.val (.int b),.val (.int sh),.val (.int tp),.own own,.val (.int i),.val (.str ""),kl,KL]=
  .ok (.nx [.val (ef ns),.val (.int 0),.val (.int q),.val (.int a),.val (.int b),.val (.int sh),.val (.int tp),.own own,.val (.int i),.val (.str z),qe,Gq]):=by
 obtain⟨au,e,z,qe,Gq,hz,hd,rfl⟩:=g7 (body:=λx env=>((Tg.one 10).put x env).bind λau=>aJ F GX au) (P:=λj env=>∃(z:Str) (qe Gq:Ci.Slot),z.length=j/\(∀x∈z.cps.toList,x=35\/(48<=x/\x<=57))/\env=[.val (ef ns),.val (.int 0),.val (.int q),.val (.int a),.val (.int b),.val (.int sh),.val (.int tp),.own own,.val (.int i),.val (.str z),qe,Gq]) (eN 0 n) 0 [.val (ef ns),.val (.int 0),.val (.int q),.val (.int a),.val (.int b),.val (.int sh),.val (.int tp),.own own,.val (.int i),.val (.str ""),kl,KL] ⟨_,_,_,by decide+kernel,by decide+kernel,rfl⟩ (by
  intro j x env hx hq;obtain⟨hj,rfl⟩:=B9 hx
  obtain⟨z,qe,Gq,hz,hd,rfl⟩:=hq
  obtain⟨m,em,m0,m1⟩:=hp ns (0+4+q*(i:Int)+(j:Int)) (12*tp) (by
   have:=Int.mul_nonneg US (Int.natCast_nonneg i)
   omega) (by omega)
  have q1:(aV q||aV (i:Int))=true:=by
   have:aV q=true:=by simp only [aV,zza,zzN];omega
   rw [this];rfl
  have q2:(aV 12||aV tp)=true:=by rw [Bool.or_eq_true];exact .inl (by decide)
  have q3:(0:Int)<12:=by decide
  have q4:(0:Int)<12/\(12:Int)<1073741824:=by decide
  have ew:=Eu (v:=m/12) (by omega) (by omega)
  have Rl:(("#":Str))=⟨#[35]⟩:=by decide+kernel
  by_cases hm:m%12<sh
  ·refine⟨[.val (ef ns),.val (.int 0),.val (.int q),.val (.int a),.val (.int b),.val (.int sh),.val (.int tp),.own own,.val (.int i),.val (.str (z++"#")),.val (.int j),.val (.int m)],?_,_,_,_,?_,?_,rfl⟩
   ·have l:z.length+(("#":Str)).length<=df:=zzU (show _<=8 by rw [Rl];show z.length+1<=8;omega) (by decide)
    simp! only [GX,q1,q2,q3,q4,em,hm,decide_true,l,and_self]
   ·rw [Str.length_append,Rl];show z.length+1=_;omega
   ·rw [Rl];show∀x∈(z.cps++#[35]).toList,_;intro x hx;simp only [Array.toList_append,List.mem_append,zzi] at hx;rcases hx with hx|hx
    ·exact hd x hx
    ·exact .inl hx
  ·refine⟨[.val (ef ns),.val (.int 0),.val (.int q),.val (.int a),.val (.int b),.val (.int sh),.val (.int tp),.own own,.val (.int i),.val (.str (z++⟨#[48+(m/12).toNat]⟩)),.val (.int j),.val (.int m)],?_,_,_,_,?_,?_,rfl⟩
   ·have l:z.length+(⟨#[48+(m/12).toNat]⟩:Str).length<=df:=zzU (show z.length+1<=8 by omega) (by decide)
    simp! only [GX,q1,q2,q3,q4,em,hm,decide_false,l,and_self,ew]
   ·rw [Str.length_append];show z.length+1=_;omega
   ·show∀x∈(z.cps++#[48+(m/12).toNat]).toList,_
    intro x hx;simp only [Array.toList_append,List.mem_append,zzi] at hx;rcases hx with hx|hx
    ·exact hd x hx
    ·exact .inr (by omega))
 refine⟨z,qe,Gq,?_,hd,e⟩
 simpa [eN] using hz
theorem yZ(F:aO)(hp:fL F)(ns:List Int)(q:Int)(zv:1<=q)(SQ:q<=6):∃aa w,Fl aa w/\ay F cG [ef ns,.int 0,.int q]=.ok (fl aa):=by
 obtain⟨a,ea,a0,a6⟩:=hp ns 0 q (by decide) (by omega)
 obtain⟨b,eb,b0,b6⟩:=hp ns (0+1) q (by decide) (by omega)
 obtain⟨c,ec,c0,c4⟩:=hp ns (0+2) 4 (by decide) (by decide)
 obtain⟨d,ed,d0,d4⟩:=hp ns (0+3) 4 (by decide) (by decide)
 obtain⟨sh,es,hs⟩:=lA (a:=0) (b:=2) (c:=4) (d:=6) c0 c4
 obtain⟨tp,et,ht⟩:=lA (a:=1) (b:=2) (c:=3) (d:=10) d0 d4
 have t1:1<=tp:=by omega
 have t2:tp<=10:=by omega
 have sa:aY (1+a)=true:=by simp only [aY,zza,zzN];omega
 have sb:aY (1+b)=true:=by simp only [aY,zza,zzN];omega
 obtain⟨au,e,aa,s8,s9,kl,KL,hl,hr,hd,rfl⟩:=g7 (body:=λx env=>((Tg.one 8).put x env).bind λau=>aJ F II au)
  (P:=λi env=>∃(aa:List Str) (s8 s9 kl KL:Ci.Slot),aa.length=i/\(∀z∈aa,z.length=(1+b).toNat)/\(∀z∈aa,∀x∈z.cps.toList,x=35\/(48<=x/\x<=57))/\env=[.val (ef ns),.val (.int 0),.val (.int q),.val (.int (1+a)),.val (.int (1+b)),.val (.int sh),.val (.int tp),.own (.lst (aa.map .str)),s8,s9,kl,KL])
  (eN 0 (1+a).toNat) 0 [.val (ef ns),.val (.int 0),.val (.int q),.val (.int (1+a)),.val (.int (1+b)),.val (.int sh),.val (.int tp),.own (.lst []),.no,.no,.no,.no] ⟨[],_,_,_,_,rfl,(λz hz=>by cases hz),(λz hz=>by cases hz),rfl⟩ (by
  intro i x env hx hq;obtain⟨hi,rfl⟩:=B9 hx
  obtain⟨aa,s8,s9,kl,KL,hl,hr,hd,rfl⟩:=hq
  obtain⟨z,qe,Gq,hz,hzd,e⟩:=IB F hp ns q (1+a) (1+b) sh tp (by omega) SQ t1 t2 (.lst (aa.map .str)) i (1+b).toNat (by omega) kl KL
  have l:(aa.map PV.str).length<df:=zzV (m:=6) (by simp only [zzl];omega) (by decide)
  refine⟨[.val (ef ns),.val (.int 0),.val (.int q),.val (.int (1+a)),.val (.int (1+b)),.val (.int sh),.val (.int tp),.own (.lst ((aa++[z]).map .str)),.val (.int i),.val (.str z),qe,Gq],?_,aa++[z],_,_,_,_,by simp;omega,?_,?_,rfl⟩
  ·have e':=e
   simp! only [GX] at e';simp only [zzl] at l;simp! only [II,GX,sb,e',zzl,l,List.map_append]
  ·intro y hy;simp only [List.mem_append,zzi] at hy;rcases hy with hy|rfl
   ·exact hr y hy
   ·exact hz
  ·intro y hy;simp only [List.mem_append,zzi] at hy;rcases hy with hy|rfl
   ·exact hd y hy
   ·exact hzd)
 have qS:aa.length=(1+a).toNat:=by simpa [eN] using hl
 refine⟨aa,(1+b).toNat,⟨⟨by omega,λz hz=>by rw [hr z hz];omega⟩,by omega,by omega,hr,hd⟩,?_⟩
 simp! only [II,GX] at e;simp! only [cG,cG,ea,eb,ec,ed,es,et,sa,e]
def cI(aa:List Str)(r c:Int):Int:=match cd aa r.toNat c.toNat with
 |some x=>(x:Int)-48
 |none=>0
theorem zV{aa:List Str}{r c:Int}(h:cy aa r c=true):∃(i j x:Nat),r=i/\c=j/\cd aa i j=some x/\x≠35:=by
 obtain⟨h0,h1,h2⟩:=qv.1 h
 obtain⟨i,rfl⟩:=Int.eq_ofNat_of_zero_le h0
 obtain⟨j,rfl⟩:=Int.eq_ofNat_of_zero_le h1
 simp only [Int.toNat_natCast,CC] at h2;cases hc:cd aa i j with
 |none=>rw [hc] at h2;cases h2
 |some x=>
  rw [hc] at h2;exact⟨i,j,x,rfl,rfl,hc,by simpa using h2⟩
theorem IQ{aa:List Str}{w:Nat}(L:Fl aa w){i j x:Nat}(h:cd aa i j=some x):x=35\/(48<=x/\x<=57):=by
 unfold cd at h;cases hz:aa[i]? with
 |none=>rw [hz] at h;cases h
 |some z=>
  rw [hz] at h;exact L.dig z (zzD hz) x (zzD h)
theorem lZ{aa:List Str}{w:Nat}(L:Fl aa w){r c:Int}(h:cy aa r c=true):∃z x,aN (fl aa) (.int r)=.ok (.str z)/\aN (.str z) (.int c)=.ok (.str ⟨#[x]⟩)/\cR .int [.str ⟨#[x]⟩]=.ok (.int (cI aa r c))/\0<=cI aa r c/\cI aa r c<=9:=by
 obtain⟨i,j,x,rfl,rfl,hc,hx⟩:=zV h
 obtain⟨z,_,e1,e2⟩:=BG L.vd hc
 have hd:=(IQ L hc).resolve_left hx
 have hh:cI aa i j=(x:Int)-48:=by simp only [cI,Int.toNat_natCast,hc]
 refine⟨z,x,e1,e2,?_,?_⟩
 ·rw [hh];exact F0 hd.1 hd.2
 ·rw [hh];omega
noncomputable def cY(aa:List Str)(sl:Bool)(cl pr:Int)(r c r' c':Int):Option Int:=
 if(r=r'/\c=c')\/1<r-r'\/1<r'-r\/1<c-c'\/1<c'-c then none
 else if(r≠r'/\c≠c')/\¬(sl=true/\cy aa r c'=true/\cy aa r' c=true) then none
 else if cl<cI aa r' c'-cI aa r c\/cl<cI aa r c-cI aa r' c' then none
 else some ((if r≠r'/\c≠c' then 3 else 2)+pr*(if cI aa r' c'-cI aa r c>0 then cI aa r' c'-cI aa r c else 0))
def oP:Option Int->PV
 |none=>.az
 |some i=>.int i
def gk(r c r' c':Int):Prop:=(r=r'/\c=c')\/1<r-r'\/1<r'-r\/1<c-c'\/1<c'-c
instance(r c r' c':Int):Decidable (gk r c r' c'):=by unfold gk;infer_instance
theorem yc(F:aO)(r c r' c':Int):ay F cX [sp r c,sp r' c']=.ok (.bl (!decide (gk r c r' c'))):=by
 simp! only [cX,NH,N9,aI,nS];have key:∀(a b d:Bool),(Res.ok (PV.bl a)).bind (λx=>tY x λt=>if t then(Res.ok (PV.bl b)).bind (λx=>tY x λt=>if t then Res.ok (PV.bl d) else Res.ok (PV.bl false)) else Res.ok (PV.bl false))=Res.ok (PV.bl (a&&(b&&d))):=by
  intro a b d;cases a<;>cases b<;>cases d<;>rfl
 by_cases h1:r=r'/\c=c'
 ·obtain⟨rfl,rfl⟩:=h1
  have:gk r c r c:=.inl ⟨rfl,rfl⟩
  simp [ay,cu,cm,aJ,g6,aQ,da,v8,qZ,fR,kM,iB,List.replicate,Nat.reduceAdd,Nat.reduceSub,reduceIte,ite_true,ite_false,BEq.rfl,beq_self_eq_true,J,this]
 ·have b1:(!((r==r')&&((c==c')&&true)))=true:=by
   cases hh:((r==r')&&((c==c')&&true)) with
   |false=>rfl
   |true=>exact absurd (by simpa using hh) h1
  simp! only [b1]
  by_cases h2:(if r-r'<0 then -(r-r') else r-r')<=1
  ·by_cases h3:(if c-c'<0 then -(c-c') else c-c')<=1
   ·have:¬gk r c r' c':=by
     rintro (h|h|h|h|h)
     ·exact h1 h
     all_goals (split at h2<;>split at h3<;>omega)
    simp! only [h2,h3,this,decide_true,decide_false]
   ·have:gk r c r' c':=by
     unfold gk;split at h3<;>omega
    simp! only [h2,h3,this,decide_true,decide_false]
  ·have:gk r c r' c':=by
    unfold gk;split at h2<;>omega
   simp! only [h2,this,decide_true,decide_false]
def jX(F:aO):Prop:=∀aa,mD aa->∀r c,F "is_open" [fl aa,sp r c]=.ok (.bl (cy aa r c))
theorem xR(F:aO)(hn:∀aa,mD aa->∀r c,cy aa r c=true->F "need_open" [fl aa,sp r c]=.ok .az){aa:List Str}{w:Nat}(L:Fl aa w){r c:Int}(h:cy aa r c=true):ay F dh [fl aa,sp r c]=.ok (.int (cI aa r c)):=by
 obtain⟨z,x,e1,e2,e3,_⟩:=lZ L h
 simp! only [dh,hn aa L.vd r c h,NH,N9,e1,e2,e3]
theorem uJ(F:aO)(ho:jX F){aa:List Str}(R:mD aa)(r c r' c':Int):ay F bC [fl aa,sp r c,sp r' c']=.ok (.bl (cy aa r c'&&cy aa r' c)):=by
 simp! only [bC,NH,N9,ho aa R];cases cy aa r c'<;>simp! only [Bool.false_and,Bool.true_and]
theorem o9{i j:Int}(h0:0<=i)(h1:i<4):(aV i||aV j)=true:=by
 have:aV i=true:=by simp only [aV,zza,zzN];omega
 rw [this];rfl
structure Wk(cl pr:Int):Prop where
 c0:0<=cl
 p0:0<=pr
 p4:pr<4
 c9:cl<=9
theorem Fq(F:aO)(hb:∀r c r' c',F "are_beside" [sp r c,sp r' c']=.ok (.bl (!decide (gk r c r' c'))))(hk:∀aa,mD aa->∀r c r' c',F "has_open_corners" [fl aa,sp r c,sp r' c']=.ok (.bl (cy aa r c'&&cy aa r' c)))
 (hh:∀aa w,Fl aa w->∀r c,cy aa r c=true->F "height_at" [fl aa,sp r c]=.ok (.int (cI aa r c))) {aa:List Str} {w:Nat} (L:Fl aa w) {sl:Bool} {cl pr:Int} (V:Wk cl pr) {r c r' c':Int} (h:cy aa r c=true) (h':cy aa r' c'=true):
 ay F bF [fl aa,wk sl cl pr,sp r c,sp r' c']=.ok (oP (cY aa sl cl pr r c r' c')):=by
 have e1:=hh aa w L r c h
 have e2:=hh aa w L r' c' h'
 have e3:=hk aa L.vd r c r' c'
 have e4:=hb r c r' c'
 by_cases h1:gk r c r' c'
 ·have:cY aa sl cl pr r c r' c'=none:=if_pos h1
  simp! only [bF,e4,h1,decide_true,this,oP]
 ·have q1:cY aa sl cl pr r c r' c'=_:=if_neg h1
  rw [q1];have ms:=λj=>o9 (j:=j) V.p0 V.p4
  obtain⟨s,hs⟩:∃s,((!(r==r'))&&!(c==c'))=s:=⟨_,rfl⟩
  have O4:s=true↔r≠r'/\c≠c':=by rw [<-hs];simp
  have ia:∀{t u:Bool},(if t=true then Res.ok (PV.bl u) else Res.ok (PV.bl false))=Res.ok (PV.bl (t&&u)):=λ{t u}=>by cases t<;>rfl
  have ii:(if s=true then Res.ok (PV.int 3) else Res.ok (PV.int 2))=Res.ok (PV.int (if r≠r'/\c≠c' then 3 else 2)):=by
   by_cases n3:r≠r'/\c≠c'
   ·rw [if_pos (O4.2 n3),if_pos n3]
   ·rw [if_neg (λz=>n3 (O4.1 z)),if_neg n3]
  have mx:(if(0:Int)>cI aa r' c'-cI aa r c then 0 else cI aa r' c'-cI aa r c)=(if cI aa r' c'-cI aa r c>0 then cI aa r' c'-cI aa r c else 0):=by
   split<;>split<;>omega
  have cc:(if sl=true then Res.ok (PV.bl (cy aa r c'&&cy aa r' c)) else Res.ok (PV.bl false))=Res.ok (PV.bl (sl&&(cy aa r c'&&cy aa r' c))):=ia
  by_cases hblk:(r≠r'/\c≠c')/\¬(sl=true/\cy aa r c'=true/\cy aa r' c=true)
  ·rw [if_pos hblk];have hB:(!(sl&&(cy aa r c'&&cy aa r' c)))=true:=by
    rw [Bool.not_eq_true',Bool.eq_false_iff];intro z;rw [zza,zza] at z;exact hblk.2 z
   simp! only [bF,e4,e3,h1,decide_false,ia,hs,O4.2 hblk.1,hB,Bool.and_self,oP]
  ·rw [if_neg hblk];have hB:(s&&!(sl&&(cy aa r c'&&cy aa r' c)))=false:=by
    rw [Bool.eq_false_iff];intro z;rw [zza,Bool.not_eq_true',Bool.eq_false_iff] at z;exact hblk ⟨O4.1 z.1,λy=>z.2 (by rw [zza,zza];exact y)⟩
   by_cases hq:cl<(if cI aa r' c'-cI aa r c<0 then -(cI aa r' c'-cI aa r c) else cI aa r' c'-cI aa r c)
   ·have hz:cl<cI aa r' c'-cI aa r c\/cl<cI aa r c-cI aa r' c':=by split at hq<;>omega
    simp! only [bF,e4,e3,e1,e2,h1,decide_false,ia,hs,hB,oP,hq,decide_true,if_pos hz]
   ·have hz:¬(cl<cI aa r' c'-cI aa r c\/cl<cI aa r c-cI aa r' c'):=by split at hq<;>omega
    simp! only [bF,e4,e3,e1,e2,h1,decide_false,ia,hs,hB,oP,hq,if_neg hz,ii,ms,mx]
theorem Od{aa:List Str}{w:Nat}(L:Fl aa w){i j:Nat}(hi:i<aa.length)(hj:j<w):∃x,cd aa i j=some x:=by
 have hz:aa[i]?=some aa[i]:=zzg hi
 have hl:=L.FW _ (zzD hz)
 refine⟨(aa[i]).cps.toList[j]'(by simp only [zzd];rw [<-hl] at hj;exact hj),?_⟩;unfold cd;rw [hz];exact zzg _
theorem ju{aa:List Str}{w:Nat}(L:Fl aa w){r c:Int}(h:cy aa r c=true):0<=r/\r<aa.length/\0<=c/\c<w:=by
 obtain⟨i,j,x,rfl,rfl,hc,_⟩:=zV h
 unfold cd at hc;cases hz:aa[i]? with
 |none=>rw [hz] at hc;cases hc
 |some z=>
  rw [hz] at hc;have h1:=(zzH.1 hz).1
  have h2:=(zzH.1 hc).1
  have hl:=L.FW _ (zzD hz)
  simp only [zzd] at h2;have:z.cps.size=z.length:=rfl
  omega
abbrev kN(p:Nat×Nat):List Int:=[(p.1:Int),(p.2:Int)]
abbrev Up(L:List (Nat×Nat)):Prop:=L.Pairwise λp q=>HT.lexLt (kN p) (kN q)=true
theorem Ce:Up []:=.nil
theorem Sy{p q:Nat×Nat}(h:p.1<q.1\/p.1=q.1/\p.2<q.2):HT.lexLt (kN p) (kN q)=true:=by
 simp only [HT.lexLt];rcases h with h|⟨h1,h2⟩
 ·rw [if_neg (by omega)];exact zzh (by omega)
 ·rw [if_pos (by omega),if_neg (by omega)];exact zzh (by omega)
abbrev HN(p:Nat×Nat):PV:=sp p.1 p.2
theorem wN:∀{xs:List PV} {k i:Nat} {x:PV},(cQ k xs)[i]?=some x->∃y,xs[i]?=some y/\x=.tup [.int ((k+i:Nat):Int),y]
 |[],_,_,_,h=>by cases h
 |y::ys,k,0,x,h=>by
  simp only [cQ,List.getElem?_cons_zero,Option.some.injEq] at h;exact⟨y,rfl,h.symm⟩
 |y::ys,k,i+1,x,h=>by
  simp only [cQ,List.getElem?_cons_succ] at h;obtain⟨w,h1,h2⟩:=wN h
  refine⟨w,h1,?_⟩;rw [h2,show k+1+i=k+(i+1) by omega]
theorem dy:∀(xs:List PV) (k:Nat),(cQ k xs).length=xs.length
 |[],_=>rfl
 |x::xs,k=>by simp only [cQ,zzL,dy xs]
theorem tm{f:PV->Res (Option PV)}{r:Nat}(hf:∀c x:Nat,f (.tup [.int c,.str ⟨#[x]⟩])=.ok (if x !=35 then some (sp r c) else none)):∀(xs:List Nat) (k:Nat),∃L:List (Nat×Nat),bo f (cQ k (xs.map λx=>.str ⟨#[x]⟩))=.ok (L.map HN)/\Up L/\L.length<=xs.length/\∀a b,(a,b)∈L↔a=r/\k<=b/\∃x,xs[b-k]?=some x/\x≠35
 |[],k=>⟨[],rfl,Ce,zzE _,λa b=>by simp⟩
 |x::xs,k=>by
  obtain⟨L,e,nd,l,h⟩:=tm hf xs (k+1)
  by_cases hx:x=35
  ·refine⟨L,?_,nd,Nat.le_succ_of_le l,λa b=>?_⟩
   ·have:(x !=35)=false:=by simp [hx]
    simp only [zzF,cQ,bo,hf,this,L0,qV,e,oc]
    rfl
   ·rw [h]
    constructor
    ·rintro ⟨h1,h2,y,h3,h4⟩
     refine⟨h1,by omega,y,?_,h4⟩;rw [show b-k=(b-(k+1))+1 by omega];exact h3
    ·rintro ⟨h1,h2,y,h3,h4⟩
     have:b≠k:=by
      rintro rfl
      simp at h3;omega
     refine⟨h1,by omega,y,?_,h4⟩;rw [show b-k=(b-(k+1))+1 by omega] at h3;exact h3
  ·refine⟨(r,k)::L,?_,List.pairwise_cons.2 ⟨(λp hp=>Sy (by have:=(h p.1 p.2).1 hp;omega)),nd⟩,Nat.succ_le_succ l,λa b=>?_⟩
   ·have:(x !=35)=true:=by simp [hx]
    simp only [zzF,cQ,bo,hf,this,L0,qV,e,oc,if_true]
   ·rw [List.mem_cons,h]
    constructor
    ·rintro (h1|⟨h1,h2,y,h3,h4⟩)
     ·cases h1;exact⟨rfl,zzE _,x,by simp,hx⟩
     ·refine⟨h1,by omega,y,?_,h4⟩;rw [show b-k=(b-(k+1))+1 by omega];exact h3
    ·rintro ⟨h1,h2,y,h3,h4⟩
     by_cases hb:b=k
     ·subst hb;subst h1;exact .inl rfl
     ·refine .inr ⟨h1,by omega,y,?_,h4⟩;rw [show b-k=(b-(k+1))+1 by omega] at h3;exact h3
theorem vU{aa:List Str}{r c:Nat}:CC aa r c=true↔∃z,aa[r]?=some z/\∃x,z.cps.toList[c]?=some x/\x≠35:=by
 unfold CC cd;cases hz:aa[r]? with
 |none=>simp
 |some z=>
  simp only [Option.bind_some];cases hx:z.cps.toList[c]? with
  |none=>
   refine⟨(λh=>by cases h),?_⟩
   rintro ⟨w,hw,x,uc,_⟩
   cases hw;rw [hx] at uc;cases uc
  |some x=>
   refine⟨λh=>⟨z,rfl,x,hx,by simpa using h⟩,?_⟩
   rintro ⟨w,hw,y,hy,h⟩
   cases hw;rw [hx] at hy;cases hy
   simpa using h
def Bo:Ss:=(.cons (.rN 1 (.cH 2 [2] (.two 0 1) (.enum (.var 3)) (.cmp .ne (.var 1) (.cst (.str "#"))) (.tup (.cons (.var 2) (.cons (.var 0) .nil)))))
 .nil)
def DR(F:aO):Prop:=∀aa,mD aa->∃L:List (Nat×Nat),F "_law_spots" [fl aa]=.ok (.lst (L.map HN))/\Up L/\L.length<=36/\∀r c,(r,c)∈L↔CC aa r c=true
theorem zU(F:aO)(aa:List Str)(R:mD aa):∃L:List (Nat×Nat),ay F bQ [fl aa]=.ok (.lst (L.map HN))/\Up L/\L.length<=36/\∀r c,(r,c)∈L↔CC aa r c=true:=by
 have VR:=R.1
 obtain⟨au,e,L,s2,s3,nd,hl,hm,rfl⟩:=g7 (body:=λx env=>((Tg.two 2 3).put x env).bind λau=>aJ F Bo au) (P:=λi env=>∃(L:List (Nat×Nat)) (s2 s3:Slot),Up L/\L.length<=6*i/\(∀r c,(r,c)∈L↔r<i/\CC aa r c=true)/\env=[.val (fl aa),.own (.lst (L.map HN)),s2,s3])
  (cQ 0 (aa.map .str)) 0 [.val (fl aa),.own (.lst []),.no,.no] ⟨[],_,_,Ce,zzE _,(λr c=>by simp),rfl⟩ (by
  intro i x env hx hq;obtain⟨y,hy,rfl⟩:=wN hx
  obtain⟨L,s2,s3,nd,hl,hm,rfl⟩:=hq
  simp only [zzQ,zzJ] at hy;obtain⟨z,hz,rfl⟩:=hy
  have Og:=R.2 z (zzD hz)
  have hi:i<aa.length:=(zzH.1 hz).1
  obtain⟨M,eM,nM,lM,hM⟩:=tm (f:=λx=>((Tg.two 0 1).put x [.no,.no,.val (.int i)]).bind λau=>((oN au[1]?).bind λx=>iT x (.str "#")).bind λt=>tY t λt=>if t then(((oN au[2]?).bind λp=>((oN au[0]?).bind λp=>.ok [p]).bind λps=>.ok (p::ps)).bind λps=>.ok (.tup ps)).bind λy=>.ok (some y) else .ok none) (r:=i) (λc x=>by
   simp! only [uY];cases(x !=35)<;>rfl) z.cps.toList 0
  have lz:(cQ 0 (chars z)).length<df:=by
   rw [dy];refine zzV (m:=6) ?_ (by decide)
   simpa [chars,Str.length] using Og
  have ll:(L.map HN).length+(M.map HN).length<=df:=by
   refine zzU (m:=100) ?_ (by decide);simp only [zzl];have:z.cps.toList.length=z.length:=by simp [Str.length]
   omega
  refine⟨[.val (fl aa),.own (.lst ((L++M).map HN)),.val (.int i),.val (.str z)],?_,L++M,_,_,List.pairwise_append.2 ⟨nd,nM,λa ha b hb=>Sy (.inl (by have h1:=((hm a.1 a.2).1 ha).1;have h2:=((hM b.1 b.2).1 hb).1;omega))⟩,?_,?_,rfl⟩
  ·simp! only [Bo,OP,Nat.zero_add,lz];rw [show chars z=z.cps.toList.map λx=>PV.str ⟨#[x]⟩ from rfl,eM]
   simp! only [ll,List.map_append]
  ·have:z.cps.toList.length=z.length:=by simp [Str.length]
   simp only [zzM];omega
  ·intro r c;rw [List.mem_append,hm,hM,vU]
   constructor
   ·rintro (⟨h1,h2⟩|⟨rfl,_,x,h3,h4⟩)
    ·exact⟨by omega,h2⟩
    ·exact⟨by omega,z,hz,x,h3,h4⟩
   ·rintro ⟨h1,w,h2,x,h3,h4⟩
    by_cases hr:r=i
    ·subst hr;rw [hz] at h2;cases h2;exact .inr ⟨rfl,Nat.zero_le _,x,h3,h4⟩
    ·exact .inl ⟨by omega,w,h2,x,h3,h4⟩)
 refine⟨L,?_,nd,(by rw [dy,zzl] at hl;omega),λr c=>?_⟩
 ·simp! only [Bo] at e;simp! only [bQ,OY,e,List.modify_succ_cons,List.modify_zero_cons,El]
 ·rw [hm];refine⟨λh=>h.2,λh=>⟨?_,h⟩⟩
  obtain⟨z,hz,_⟩:=vU.1 h
  have:=(zzH.1 hz).1
  rw [dy,zzl];omega
theorem ya(F:aO)(hp:fL F)(ns:List Int)(k:Int)(hk:0<=k):∃sl cl pr,Wk cl pr/\ay F cM [ef ns,.int k]=.ok (wk sl cl pr):=by
 obtain⟨a,ea,a0,a2⟩:=hp ns k 2 hk (by decide)
 obtain⟨b,eb,b0,b4⟩:=hp ns (k+1) 4 (by omega) (by decide)
 obtain⟨c,ec,c0,c4⟩:=hp ns (k+2) 4 (by omega) (by decide)
 obtain⟨v,ev,hv⟩:=lA (a:=0) (b:=1) (c:=2) (d:=9) b0 b4
 refine⟨(a==0),v,c,⟨by omega,c0,c4,by omega⟩,?_⟩;simp! only [cM,ea,eb,ec,ev]
theorem gF{α σ:Type}{body:PV->Sl->Res Ci.Fl}{g:α->PV}{mk:List PV->σ->Sl}{app:α->List PV}{m M:Nat}:∀(l:List α) (acc:List PV) (s:σ),(∀a∈l,(app a).length<=m)->(∀a∈l,∀acc s,acc.length+m<=M->∃s',body (g a) (mk acc s)=.ok (.nx (mk (acc++app a) s')))->acc.length+m*l.length<=M->∃s',forL body (l.map g) (mk acc s)=.ok (.nx (mk (acc++l.flatMap app) s'))
 |[],acc,s,_,_,_=>⟨s,by simp [forL]⟩
 |a::l,acc,s,h1,h2,h3=>by
  have ha:=h1 a (zzP ..)
  rw [zzL,Nat.mul_succ] at h3;obtain⟨s1,e1⟩:=h2 a (zzP ..) acc s (by omega)
  obtain⟨s2,e2⟩:=gF l (acc++app a) s1 (λb hb=>h1 b (zzI _ hb)) (λb hb=>h2 b (zzI _ hb)) (by rw [zzM];omega)
  refine⟨s2,?_⟩;simp only [zzF,forL,e1,qV,e2,List.flatMap_cons,List.append_assoc]
def gD(x:Int):List Int:=[x-1+(0:Nat),x-1+(1:Nat),x-1+(2:Nat)]
theorem Oj(x:Int):eN (x-1) (x+2-(x-1)).toNat=(gD x).map .int:=by
 rw [show(x+2-(x-1)).toNat=3 by omega]
 rfl
noncomputable def oI:Ss:=(.cons (.ite (.and (.cmp .ne (.tup (.cons (.var 3) (.cons (.var 4) .nil))) (.var 1)) (.call "is_open" (.cons (.var 0) (.cons (.tup (.cons (.var 3) (.cons (.var 4) .nil))) .nil))))
 (.cons (.app 2 (.tup (.cons (.var 3) (.cons (.var 4) .nil))))
 .nil)
 .nil)
 .nil)
noncomputable def oO:Ss:=(.cons (.dc (.one 4) (.nk (.bin .sub (.sub (.var 1) (.cst (.int 1))) (.cst (.int 1))) (.bin .add (.sub (.var 1) (.cst (.int 1))) (.cst (.int 2)))) oI) .nil)
def CD(aa:List Str)(r c r' c':Int):Bool:=!((r'==r)&&((c'==c)&&true))&&cy aa r' c'
def sd(aa:List Str)(r c r':Int):List (Int×Int):=(gD c).flatMap λc'=>if CD aa r c r' c' then [(r',c')] else []
def pN(aa:List Str)(r c:Int):List (Int×Int):=(gD r).flatMap (sd aa r c)
theorem jf(aa:List Str)(r c r':Int):(sd aa r c r').length<=3:=by
 have:∀c',(if CD aa r c r' c' then [(r',c')] else []).length<=1:=λc'=>by split<;>simp
 simp only [sd,gD,List.flatMap_cons,List.flatMap_nil,zzM,List.length_nil];have h1:=this (c-1+(0:Nat));have h2:=this (c-1+(1:Nat));have h3:=this (c-1+(2:Nat))
 omega
theorem rZ(aa:List Str)(r c:Int):(pN aa r c).length<=9:=by
 simp only [pN,gD,List.flatMap_cons,List.flatMap_nil,zzM,List.length_nil];have h1:=jf aa r c (r-1+(0:Nat));have h2:=jf aa r c (r-1+(1:Nat));have h3:=jf aa r c (r-1+(2:Nat))
 omega
theorem lR{aa:List Str}{r c r' c':Int}:(r',c')∈pN aa r c↔¬gk r c r' c'/\cy aa r' c'=true:=by
 have hn:∀x y:Int,y∈gD x↔¬1<x-y/\¬1<y-x:=by
  intro x y;simp only [gD,List.mem_cons,List.not_mem_nil,or_false];omega
 simp only [pN,sd,List.mem_flatMap,hn]
 constructor
 ·rintro ⟨a,ha,b,hb,h⟩
  split at h
  ·rename_i hk;simp only [zzi,Prod.mk.injEq] at h;obtain⟨rfl,rfl⟩:=h
   simp only [CD,zza,Bool.not_eq_true',Bool.and_true] at hk;refine⟨?_,hk.2⟩;unfold gk;have h1:=hk.1
   rw [Bool.and_eq_false_iff] at h1;simp only [beq_eq_false_iff_ne,ne_eq] at h1;omega
  ·cases h
 ·rintro ⟨hf,ho⟩
  unfold gk at hf;refine⟨r',by omega,c',by omega,?_⟩;have:CD aa r c r' c'=true:=by
   simp only [CD,ho,Bool.and_true,Bool.not_eq_true',Bool.and_eq_false_iff,beq_eq_false_iff_ne,ne_eq];omega
  rw [if_pos this];exact zzi.2 rfl
theorem mL{r:Int}(h0:0<=r)(h6:r<6):(aY (r-1)&&aY (r+2))=true:=by
 simp only [aY,zza,zzN];omega
theorem JE(F:aO)(ho:jX F){aa:List Str}(R:mD aa){r c:Int}(Vo:0<=r)(hr:r<6)(UR:0<=c)(hc:c<6):
 ay F bt [fl aa,sp r c]=.ok (.lst ((pN aa r c).map GD)):=by
 have inner:∀(r':Int) (acc:List PV) (s4:Ci.Slot),acc.length+3<=50->∃Qv,forL (λx env=>((Tg.one 4).put x env).bind λau=>aJ F oI au) ((gD c).map .int) [.val (fl aa),.val (sp r c),.own (.lst acc),.val (.int r'),s4]=.ok (.nx [.val (fl aa),.val (sp r c),.own (.lst (acc++(sd aa r c r').map GD)),.val (.int r'),Qv]):=by
  intro r' acc s4 hl;obtain⟨s',e⟩:=gF (body:=λx env=>((Tg.one 4).put x env).bind λau=>aJ F oI au) (g:=PV.int) (mk:=λacc (s:Ci.Slot)=>[.val (fl aa),.val (sp r c),.own (.lst acc),.val (.int r'),s]) (app:=λc'=>if CD aa r c r' c' then [sp r' c'] else []) (m:=1) (M:=60) (gD c) acc s4 (λc' _=>by split<;>simp) (λc' _ acc s hl=>by
   have l:acc.length<df:=zzV (m:=60) (by omega) (by decide)
   refine⟨.val (.int c'),?_⟩;cases h1:(!((r'==r)&&((c'==c)&&true))) with
   |false=>simp! only [oI,h1,CD,Bool.false_and,List.append_nil]
   |true=>
    cases h2:cy aa r' c' with
    |false=>simp! only [oI,h1,h2,CD,ho aa R,Bool.and_false,List.append_nil]
    |true=>simp! only [oI,h1,h2,CD,ho aa R,Bool.and_self,l]) (by show acc.length+1*3<=60;omega)
  have k:(gD c).flatMap (λc'=>if CD aa r c r' c' then [sp r' c'] else [])=(sd aa r c r').map GD:=by
   simp only [sd,List.map_flatMap]
   congr 1
   funext c'
   split<;>rfl
  exact⟨s',by rw [e,k]⟩
 obtain⟨s',e⟩:=gF (body:=λx env=>((Tg.one 3).put x env).bind λau=>aJ F oO au) (g:=PV.int) (mk:=λacc (s:Ci.Slot×Ci.Slot)=>[.val (fl aa),.val (sp r c),.own (.lst acc),s.1,s.2]) (app:=λr'=>(sd aa r c r').map GD) (m:=3) (M:=50) (gD r) [] (.no,.no) (λr' _=>by rw [zzl];exact jf ..) (λr' _ acc s hl=>by
  obtain⟨Qv,e⟩:=inner r' acc s.2 hl
  refine⟨(.val (.int r'),Qv),?_⟩;simp! only [oI] at e;simp! only [oO,oI,mL UR hc,Oj,e]) (by show 0+3*3<=50;omega)
 simp! only [oO,oI] at e;simp! only [bt,mL Vo hr,Oj,e,El,pN,List.map_flatMap]
def E1(aa:List Str)(sl:Bool)(cl pr:Int)(u v:List Int)(e:Int):Prop:=∃r c r' c',u=[r,c]/\v=[r',c']/\cy aa r c=true/\cy aa r' c'=true/\cY aa sl cl pr r c r' c'=some e
abbrev tK(t:List Int×Int):PV:=.tup [ah t.1,.int t.2]
def uF(F:aO):Prop:=∀aa w,Fl aa w->∀sl cl pr,Wk cl pr->∀r c r' c',cy aa r c=true->cy aa r' c'=true->F "step_cost" [fl aa,wk sl cl pr,sp r c,sp r' c']=.ok (oP (cY aa sl cl pr r c r' c'))
def Gg(F:aO):Prop:=∀aa,mD aa->∀r c,0<=r->r<6->0<=c->c<6->F "open_spots_beside" [fl aa,sp r c]=.ok (.lst ((pN aa r c).map GD))
def uK(F:aO):Prop:=∀aa,mD aa->∀r c,cy aa r c=true->F "need_open" [fl aa,sp r c]=.ok .az
def rK(f:List PV->Res PV):Prop:=∀aa w,Fl aa w->∀sl cl pr,Wk cl pr->∀r c,cy aa r c=true->∃T:List (List Int×Int),f [fl aa,wk sl cl pr,ah [r,c]]=.ok (.lst (T.map tK))/\T.length<=9/\∀v e,(v,e)∈T↔E1 aa sl cl pr [r,c] v e
def qC(F:aO):Prop:=rK (F "steps_from")
noncomputable def ON:Ss:=(.cons (.set 5 (.call "step_cost" (.cons (.var 0) (.cons (.var 1) (.cons (.var 2) (.cons (.var 4) .nil))))))
 (.cons (.ite (.cmp .Aa (.var 5) (.cst .az))
  (.cons (.app 3 (.tup (.cons (.var 4) (.cons (.var 5) .nil))))
  .nil)
  .nil)
 .nil))
theorem GP{aa:List Str}{w:Nat}(L:Fl aa w){r c:Int}(h:cy aa r c=true):0<=r/\r<6/\0<=c/\c<6:=by
 have h1:=ju L h
 have h2:=L.vd.1
 have h3:=L.vd.2 _ (List.getElem_mem L.ne)
 rw [L.FW _ (List.getElem_mem L.ne)] at h3;omega
theorem zN(F:aO)(hn:uK F)(hb:Gg F)(hs:uF F):rK (ay F cW):=by
 intro aa w L sl cl pr V r c h;obtain⟨r0,r6,c0,c6⟩:=GP L h
 have K8:∀p:Int×Int,((cY aa sl cl pr r c p.1 p.2).toList.map λe=>(([p.1,p.2]:List Int),e)).length<=1:=λp=>by cases cY aa sl cl pr r c p.1 p.2<;>simp
 refine⟨(pN aa r c).flatMap λp=>(cY aa sl cl pr r c p.1 p.2).toList.map λe=>([p.1,p.2],e),?_,?_,?_⟩
 ·obtain⟨s',e⟩:=gF (body:=λx env=>((Tg.one 4).put x env).bind λau=>aJ F ON au) (g:=GD) (mk:=λacc (s:Ci.Slot×Ci.Slot)=>[.val (fl aa),.val (wk sl cl pr),.val (sp r c),.own (.lst acc),s.1,s.2]) (app:=λp=>((cY aa sl cl pr r c p.1 p.2).toList.map λe=>(([p.1,p.2]:List Int),e)).map tK) (m:=1) (M:=50) (pN aa r c) [] (.no,.no) (λp _=>by rw [zzl];exact K8 p) (λp hp acc s hl=>by
   have l:acc.length<df:=zzV (m:=50) (by omega) (by decide)
   have e:=hs aa w L sl cl pr V r c p.1 p.2 h (lR.1 hp).2
   cases hq:cY aa sl cl pr r c p.1 p.2 with
   |none=>
    rw [hq] at e;have e5:gM .az .az=.ok (.bl false):=rfl
    simp only [oP] at e;exact⟨(.val (GD p),.val .az),by simp! only [ON,e,e5,Option.toList_none,List.append_nil]⟩
   |some v=>
    rw [hq] at e;have e5:gM (.int v) .az=.ok (.bl true):=rfl
    simp only [oP] at e;exact⟨(.val (GD p),.val (.int v)),by simp! only [ON,e,e5,Option.toList_some,l];rfl⟩) (by
   have:=rZ aa r c
   show 0+1*_<=50
   omega)
  have k:ah [r,c]=sp r c:=rfl
  simp! only [ON] at e;simp! only [k,cW,hn aa L.vd r c h,hb aa L.vd r c r0 r6 c0 c6,e,El,List.map_flatMap]
 ·have:=rZ aa r c
  have key:∀l:List (Int×Int),(l.flatMap λp=>(cY aa sl cl pr r c p.1 p.2).toList.map λe=>(([p.1,p.2]:List Int),e)).length<=l.length:=by
   intro l
   induction l with
   |nil=>exact zzE _
   |cons p l ih=>
    have:=K8 p
    simp only [List.flatMap_cons,zzM,zzL];omega
  exact zzU (key _) this
 ·intro v e;simp only [List.mem_flatMap,List.mem_map,Option.mem_toList,Option.mem_def,Prod.mk.injEq]
  constructor
  ·rintro ⟨p,hp,e',he,rfl,rfl⟩
   exact⟨r,c,p.1,p.2,rfl,rfl,h,(lR.1 hp).2,he⟩
  ·rintro ⟨a,b,r',c',hu,rfl,_,ho,he⟩
   cases hu;refine⟨(r',c'),lR.2 ⟨λhf=>?_,ho⟩,e,he,rfl,rfl⟩
   rw [show cY aa sl cl pr r c r' c'=none from if_pos hf] at he;cases he
theorem fG:∀k:List Int,intsOf (k.map .int)=some k
 |[]=>rfl
 |i::k=>by simp only [zzF,intsOf,fG k,Option.map_some]
theorem dg(k:List Int):fy (ah k)=some k:=fG k
theorem bB{α:Type}:∀{ks:List (List Int)} {vs:List α} (k:List Int),ks.length=vs.length->bO ks k=(av ks vs k).isSome
 |[],[],_,_=>rfl
 |k'::ks,v::vs,k,h=>by
  have ih:=bB (ks:=ks) (vs:=vs) k (by simpa using h)
  by_cases e:k'=k
  ·simp [bO,av,e]
  ·simp only [bO] at ih;simp [bO,av,e,ih]
theorem gC{α β:Type}(f:α->β):∀(ks:List (List Int)) (vs:List α) (k:List Int),av ks (vs.map f) k=(av ks vs k).map f
 |[],_,_=>by simp [av]
 |_::_,[],_=>by simp [av]
 |k'::ks,v::vs,k=>by
  simp only [zzF,av,gC f ks vs k];split<;>rfl
theorem nu{α β:Type}(f:α->β):∀(ks:List (List Int)) (vs:List α) (k:List Int),bb ks (vs.map f) k=(bb ks vs k).map f
 |[],_,_=>by simp [bb]
 |_::_,[],_=>by simp [bb]
 |k'::ks,v::vs,k=>by
  simp only [zzF,bb,nu f ks vs k];split<;>rfl
theorem kj{α β:Type}(f:α->β)(ks:List (List Int))(vs:List α)(k:List Int)(p:α):bj ks (vs.map f) k (f p)=(bj ks vs k p).map f:=by
 unfold bj;split
 ·rw [List.zipWith_map_right,List.map_zipWith]
  congr 1
  funext a b
  split<;>rfl
 ·simp
theorem sX{α:Type}(k:List Int)(p:α):∀(ks:List (List Int)) (vs:List α) (x:List Int),av ks (List.zipWith (λk' v=>if k'=k then p else v) ks vs) x=(av ks vs x).map λv=>if x=k then p else v
 |[],_,_=>by simp [av]
 |_::_,[],_=>by simp [av]
 |k'::ks,v::vs,x=>by
  simp only [List.zipWith_cons_cons,av,sX k p ks vs x]
  by_cases e:k'=x
  ·subst e;simp
  ·simp [e]
theorem oh{α:Type}(k:List Int)(p:α):∀(ks:List (List Int)) (vs:List α) (x:List Int),ks.length=vs.length->av (ks++[k]) (vs++[p]) x=(av ks vs x).or (if k=x then some p else none)
 |[],[],x,_=>by simp [av]
 |k'::ks,v::vs,x,h=>by
  simp only [List.cons_append,av,oh k p ks vs x (by simpa using h)];split<;>simp
theorem bG{α:Type}{ks:List (List Int)}{vs:List α}(h:ks.length=vs.length)(k:List Int)(p:α)(x:List Int):av (bf ks k) (bj ks vs k p) x=if k=x then some p else av ks vs x:=by
 have hh:=bB (vs:=vs) k h
 unfold bf bj;cases hk:bO ks k with
 |true=>
  rw [hk] at hh;simp only [if_true,sX]
  by_cases e:k=x
  ·subst e;obtain⟨v,hv⟩:=Option.isSome_iff_exists.1 hh.symm
   simp [hv]
  ·rw [if_neg e];have e':¬x=k:=λz=>e z.symm
   cases av ks vs x<;>simp [e']
 |false=>
  rw [hk] at hh;simp only [zze,if_false,oh k p ks vs x h]
  by_cases e:k=x
  ·subst e;have:av ks vs k=none:=by simpa using hh.symm
   simp [this]
  ·simp [e]
theorem nj{α:Type}{ks:List (List Int)}{vs:List α}(h:ks.length=vs.length)(k:List Int)(p:α):(bf ks k).length=(bj ks vs k p).length:=by
 unfold bf bj;split<;>simp [h]
theorem yf(ks:List (List Int))(k:List Int):(bf ks k).length<=ks.length+1:=by
 unfold bf;split<;>simp
theorem cD{ks:List (List Int)}{k:List Int}:bO ks k=true↔k∈ks:=by
 simp [bO]
theorem gE{ks:List (List Int)}(h:ks.Nodup)(k:List Int):(bf ks k).Nodup:=by
 unfold bf;split
 ·exact h
 ·rename_i hk;rw [cD] at hk;refine List.nodup_append.2 ⟨h,by simp,?_⟩;intro a ha b hb e;rw [zzi] at hb;exact hk (hb▸e▸ha)
theorem eg{α:Type}(k:List Int):∀(ks:List (List Int)) (vs:List α) (x:List Int),ks.length=vs.length->av (cq ks k) (bb ks vs k) x=if k=x then none else av ks vs x
 |[],[],x,_=>by simp [cq,bb,av]
 |k'::ks,v::vs,x,h=>by
  have ih:=eg k ks vs x (by simpa using h)
  simp only [cq] at ih
  by_cases e:k'=k
  ·subst e;simp only [cq,bb,av,List.filter_cons,ne_eq,not_true_eq_false,decide_false,zze,if_false,if_true,ih];split<;>simp_all
  ·simp only [cq,bb,av,List.filter_cons,ne_eq,e,not_false_eq_true,decide_true,if_true,if_false]
   by_cases e2:k'=x
   ·subst e2;have:¬k=k':=λz=>e z.symm
    simp [av,this]
   ·simp only [av,e2,if_false];exact ih
theorem oX{α:Type}(k:List Int):∀(ks:List (List Int)) (vs:List α),ks.length=vs.length->(cq ks k).length=(bb ks vs k).length
 |[],[],_=>rfl
 |k'::ks,v::vs,h=>by
  have ih:=oX k ks vs (by simpa using h)
  simp only [cq] at ih
  by_cases e:k'=k
  ·simpa [cq,bb,e] using ih
  ·simpa [cq,bb,e] using ih
theorem vP{α:Type}:∀{ks:List (List Int)} {vs:List α} {i:Nat} {k:List Int} {q:α},ks.Nodup->ks[i]?=some k->vs[i]?=some q->av ks vs k=some q
 |[],_,_,_,_,_,h,_=>by simp at h
 |_::_,[],_,_,_,_,_,h=>by simp at h
 |k'::ks,v::vs,0,k,q,_,h1,h2=>by
  simp only [List.getElem?_cons_zero,Option.some.injEq] at h1 h2;simp [av,h1,h2]
 |k'::ks,v::vs,i+1,k,q,nd,h1,h2=>by
  simp only [List.getElem?_cons_succ] at h1 h2;have NY:=List.nodup_cons.1 nd
  have:¬k'=k:=λz=>NY.1 (z▸zzD h1)
  simp only [av,this,if_false];exact vP NY.2 h1 h2
theorem sR{α:Type}:∀{ks:List (List Int)} {vs:List α} {k:List Int} {q:α},av ks vs k=some q->q∈vs
 |[],_,_,_,h=>by simp [av] at h
 |_::_,[],_,_,h=>by simp [av] at h
 |k'::ks,v::vs,k,q,h=>by
  simp only [av] at h;split at h
  ·cases h;exact zzP ..
  ·exact zzI _ (sR h)
theorem j1:∀(cs:List Int) (b:Nat) (m:Int) (pre:List Int),pre[b]?=some m->(∀x∈pre,m<=x)->∃y,(pre++cs)[fc cs pre.length b m]?=some y/\∀x∈pre++cs,y<=x
 |[],b,m,pre,h1,h2=>⟨m,by simpa [fc] using h1,by simpa using h2⟩
 |c::cs,b,m,pre,h1,h2=>by
  have hb:=(zzH.1 h1).1
  simp only [fc];have hl:pre.length+1=(pre++[c]).length:=by simp
  split
  ·rename_i hc;have:=j1 cs pre.length c (pre++[c]) (by simp) (λx hx=>by
    simp only [List.mem_append,zzi] at hx;rcases hx with hx|hx
    ·have:=h2 x hx;omega
    ·omega)
   rw [<-hl] at this
   simpa using this
  ·rename_i hc;have:=j1 cs b m (pre++[c]) (by rw [List.getElem?_append_left hb];exact h1) (λx hx=>by
    simp only [List.mem_append,zzi] at hx;rcases hx with hx|hx
    ·exact h2 x hx
    ·omega)
   rw [<-hl] at this
   simpa using this
theorem Dl{cs:List Int}(h:cs≠[]):∃i y,BE cs=some i/\cs[i]?=some y/\∀x∈cs,y<=x:=by
 cases cs with
 |nil=>exact absurd rfl h
 |cons c cs=>
  obtain⟨y,h1,h2⟩:=j1 cs 0 c [c] rfl (by simp)
  exact⟨_,y,rfl,h1,h2⟩
abbrev val(q:Int×PV):PV:=.tup [.int q.1,q.2]
theorem pf:∀V:List (Int×PV),iK (V.map val)=some (V.map (·.1))
 |[]=>rfl
 |q::V=>by simp only [zzF,iK,pf V,Option.map_some]
theorem xY{ks:List (List Int)}{V:List (Int×PV)}(h:ks.length=V.length)(nd:ks.Nodup)(mI:ks≠[]):∃k q,((BE (V.map (·.1))).bind λx=>ks[x]?)=some k/\av ks V k=some q/\∀x q',av ks V x=some q'->q.1<=q'.1:=by
 have hV:V.map (·.1)≠[]:=by
  intro z;rw [List.map_eq_nil_iff] at z;rw [z] at h;exact mI (List.eq_nil_of_length_eq_zero h)
 obtain⟨i,y,h1,h2,h3⟩:=Dl hV
 rw [zzQ,zzJ] at h2;obtain⟨q,hq,rfl⟩:=h2
 have hi:=(zzH.1 hq).1
 have hk:ks[i]?=some (ks[i]'(by omega)):=zzg _
 refine⟨_,q,by rw [h1];exact hk,vP nd hk hq,λx q' hx=>h3 _ (List.mem_map.2 ⟨q',sR hx,rfl⟩)⟩
inductive Ft(E:List Int->List Int->Int->Prop)(s:List Int):List Int->Int->Prop
 |here:Ft E s s 0
 |go {u v:List Int} {d e:Int}:Ft E s u d->E u v e->Ft E s v (d+e)
abbrev Ks:=List (List Int)
abbrev Vs:=List (Int×PV)
def Kn(kr:Ks)(Vr:Vs)(kw:Ks)(Vw:Vs)(k:List Int)(c:Int):Prop:=(∃q,av kr Vr k=some q/\q.1<=c)\/∃q,av kw Vw k=some q/\q.1<=c
structure qW(E:List Int->List Int->Int->Prop)(O:List Int->Prop)(s:List Int)(kr:Ks)(Vr:Vs)(kw:Ks)(Vw:Vs)(X:List Int->List Int->Int->Prop)(n:Nat)(b:Int):Prop where
 lr:kr.length=Vr.length
 lw:kw.length=Vw.length
 nw:kw.Nodup
 L1:∀k q q',av kr Vr k=some q->av kw Vw k=some q'->False
 wr:∀k q,av kr Vr k=some q->O k/\Ft E s k q.1
 ww:∀k q,av kw Vw k=some q->O k/\Ft E s k q.1
 mono:∀k q k' q',av kr Vr k=some q->av kw Vw k'=some q'->q.1<=q'.1
 iN:∀u q,av kr Vr u=some q->∀v e,X u v e->Kn kr Vr kw Vw v (q.1+e)
 st:Kn kr Vr kw Vw s 0
 cw:kw.length<=n
 pre:∀k q,av kr Vr k=some q\/av kw Vw k=some q->(q.2=.az/\k=s/\q.1=0)\/∃y q' e,q.2=ah y/\av kr Vr y=some q'/\E y k e/\q.1=q'.1+e
 bd:∀k q,av kr Vr k=some q\/av kw Vw k=some q->0<=q.1/\q.1<=b
 nr:kr.Nodup
theorem Kn.put{kr:Ks}{Vr:Vs}{kw:Ks}{Vw:Vs}(h:kw.length=Vw.length){v:List Int}{c:Int}{p:PV}(hv:∀q,av kw Vw v=some q->c<=q.1){k:List Int}{x:Int}(H:Kn kr Vr kw Vw k x):Kn kr Vr (bf kw v) (bj kw Vw v (c,p)) k x:=by
 rcases H with H|⟨q,h1,h2⟩
 ·exact .inl H
 ·refine .inr ?_;rw [bG h]
  by_cases e:v=k
  ·subst e;exact⟨(c,p),if_pos rfl,Int.le_trans (hv q h1) h2⟩
  ·exact⟨q,by rw [if_neg e];exact h1,h2⟩
theorem qW.put{E:List Int->List Int->Int->Prop}{O:List Int->Prop}{s:List Int}{kr:Ks}{Vr:Vs}{kw:Ks}{Vw:Vs}{X:List Int->List Int->Int->Prop}{n:Nat}{b:Int}(M:qW E O s kr Vr kw Vw X n b){u v:List Int}{d e:Int}{p0:PV}(hu:av kr Vr u=some (d,p0))(hd:∀k q,av kr Vr k=some q->q.1<=d)(he:E u v e)(h0:0<e)(hb:d+e<=b)(ho:O v)
 (hv:av kr Vr v=none) (hw:∀q,av kw Vw v=some q->d+e<=q.1):qW E O s kr Vr (bf kw v) (bj kw Vw v (d+e,ah u)) (λa b c=>X a b c\/a=u/\b=v/\c=e) (n+1) b where
 lr:=M.lr
 lw:=nj M.lw _ _
 nw:=gE M.nw _
 L1:=λk q q' h1 h2=>by
  rw [bG M.lw] at h2;split at h2
  ·rename_i z;subst z;rw [hv] at h1;cases h1
  ·exact M.L1 k q q' h1 h2
 wr:=M.wr
 ww:=λk q h=>by
  rw [bG M.lw] at h;split at h
  ·rename_i z;subst z;cases h;exact⟨ho,.go (M.wr u _ hu).2 he⟩
  ·exact M.ww k q h
 mono:=λk q k' q' h1 h2=>by
  rw [bG M.lw] at h2;split at h2
  ·cases h2;have:=hd k q h1;show q.1<=d+e;omega
  ·exact M.mono k q k' q' h1 h2
 iN:=λa q h1 b c hx=>by
  rcases hx with hx|⟨rfl,rfl,rfl⟩
  ·exact(M.iN a q h1 b c hx).put M.lw hw
  ·rw [hu] at h1;cases h1;exact .inr ⟨(d+c,ah a),by rw [bG M.lw,if_pos rfl],Int.le_refl _⟩
 st:=M.st.put M.lw hw
 cw:=by have:=yf kw v;have:=M.cw;omega
 pre:=λk q h=>by
  rcases h with h|h
  ·exact M.pre k q (.inl h)
  ·rw [bG M.lw] at h;split at h
   ·rename_i z;subst z;cases h;exact .inr ⟨u,(d,p0),e,rfl,hu,he,rfl⟩
   ·exact M.pre k q (.inr h)
 bd:=λk q h=>by
  rcases h with h|h
  ·exact M.bd k q (.inl h)
  ·rw [bG M.lw] at h;split at h
   ·cases h;have:=(M.bd u _ (.inl hu)).1;exact⟨by show 0<=d+e;omega,hb⟩
   ·exact M.bd k q (.inr h)
 nr:=M.nr
theorem qW.keep{E:List Int->List Int->Int->Prop}{O:List Int->Prop}{s:List Int}{kr:Ks}{Vr:Vs}{kw:Ks}{Vw:Vs}{X Y:List Int->List Int->Int->Prop}{n m:Nat}{b b':Int}(M:qW E O s kr Vr kw Vw X n b)(hm:n<=m)(hb:b<=b')(h:∀u q,av kr Vr u=some q->∀v e,Y u v e->Kn kr Vr kw Vw v (q.1+e)):qW E O s kr Vr kw Vw Y m b':=
 ⟨M.lr,M.lw,M.nw,M.L1,M.wr,M.ww,M.mono,h,M.st,zzU M.cw hm,M.pre,λk q z=>⟨(M.bd k q z).1,Int.le_trans (M.bd k q z).2 hb⟩,M.nr⟩
theorem Kn.move{kr:Ks}{Vr:Vs}{kw:Ks}{Vw:Vs}(hr:kr.length=Vr.length)(hw:kw.length=Vw.length){k:List Int}{q0:Int×PV}(h0:av kw Vw k=some q0)(hk:av kr Vr k=none){x:List Int}{c:Int}(H:Kn kr Vr kw Vw x c):Kn (bf kr k) (bj kr Vr k q0) (cq kw k) (bb kw Vw k) x c:=by
 unfold Kn;rw [bG hr,eg k kw Vw x hw]
 by_cases e:k=x
 ·subst e;rcases H with⟨q,h1,_⟩|⟨q,h1,h2⟩
  ·rw [hk] at h1;cases h1
  ·rw [h0] at h1;cases h1;exact .inl ⟨q0,if_pos rfl,h2⟩
 ·simp only [e,if_false];exact H
theorem qW.move{E:List Int->List Int->Int->Prop}{O:List Int->Prop}{s:List Int}{kr:Ks}{Vr:Vs}{kw:Ks}{Vw:Vs}{n:Nat}{b:Int}(M:qW E O s kr Vr kw Vw E n b){k:List Int}{q0:Int×PV}(h0:av kw Vw k=some q0)(hl:∀x q',av kw Vw x=some q'->q0.1<=q'.1):
 qW E O s (bf kr k) (bj kr Vr k q0) (cq kw k) (bb kw Vw k) (λa b c=>E a b c/\a≠k) n b/\av (bf kr k) (bj kr Vr k q0) k=some q0/\∀x q,av (bf kr k) (bj kr Vr k q0) x=some q->q.1<=q0.1:=by
 have hk:av kr Vr k=none:=by
  cases h:av kr Vr k with
  |none=>rfl
  |some q=>exact(M.L1 k q q0 h h0).elim
 have old:∀x q,av (bf kr k) (bj kr Vr k q0) x=some q\/av (cq kw k) (bb kw Vw k) x=some q->av kr Vr x=some q\/av kw Vw x=some q:=λx q h=>by
  rcases h with h|h
  ·rw [bG M.lr] at h;split at h
   ·rename_i z;subst z;cases h;exact .inr h0
   ·exact .inl h
  ·rw [eg k kw Vw x M.lw] at h;split at h
   ·cases h
   ·exact .inr h
 refine⟨?_,by rw [bG M.lr,if_pos rfl],λx q h=>?_⟩
 ·refine⟨nj M.lr _ _,oX k kw Vw M.lw,M.nw.filter _,λx q q' h1 h2=>?_,λx q h=>?_,λx q h=>?_,λx q x' q' h1 h2=>?_,λu q h1 v e hx=>?_,M.st.move M.lr M.lw h0 hk,zzU (List.length_filter_le ..) M.cw,λx q h=>?_,λx q h=>M.bd x q (old x q h),gE M.nr _⟩
  ·rw [bG M.lr] at h1;rw [eg k kw Vw x M.lw] at h2;split at h2
   ·cases h2
   ·rename_i z;rw [if_neg z] at h1;exact M.L1 x q q' h1 h2
  ·rw [bG M.lr] at h;split at h
   ·rename_i z;subst z;cases h;exact M.ww k _ h0
   ·exact M.wr x q h
  ·rw [eg k kw Vw x M.lw] at h;split at h
   ·cases h
   ·exact M.ww x q h
  ·rw [bG M.lr] at h1;rw [eg k kw Vw x' M.lw] at h2;split at h2
   ·cases h2
   ·split at h1
    ·cases h1;exact hl x' q' h2
    ·exact M.mono x q x' q' h1 h2
  ·rw [bG M.lr,if_neg (λz=>hx.2 z.symm)] at h1;exact(M.iN u q h1 v e hx.1).move M.lr M.lw h0 hk
  ·rcases M.pre x q (old x q h) with z|⟨y,q',e,z1,z2,z3⟩
   ·exact .inl z
   ·refine .inr ⟨y,q',e,z1,?_,z3⟩;rw [bG M.lr,if_neg (λz=>by rw [<-z,hk] at z2;cases z2)];exact z2
 ·rw [bG M.lr] at h;split at h
  ·cases h;exact Int.le_refl _
  ·exact M.mono x q k q0 h h0
theorem Hv{ks:Ks}{V:Vs}{k:List Int}{q:Int×PV}(h:av ks V k=some q):aN (.aX ks (V.map val)) (ah k)=.ok (val q):=by
 show(Res.of (fy (ah k))).bind (λk=>Res.of (av ks (V.map val) k))=_
 rw [dg];show Res.of (av ks (V.map val) k)=_
 rw [gC,h]
 rfl
theorem BD{q:Int×PV}:aN (val q) (.int 0)=.ok (.int q.1):=rfl
theorem gB{ks:Ks}{vs:List PV}{k:List Int}:jc (ah k) (.aX ks vs)=.ok (.bl (!bO ks k)):=by
 show(Res.of (fy (ah k))).bind (λk=>Res.ok (PV.bl (!bO ks k)))=_
 rw [dg]
 rfl
theorem Rw{ks:Ks}{vs:List PV}:cR .len [.aX ks vs]=.ok (.int ks.length):=rfl
noncomputable def wS:Ss:=(.cons (.set 8 (.bin .add (.sub (.sub (.hZ 2) (.var 5)) (.cst (.int 0))) (.var 7)))
 (.cons (.ite (.and (.cmp .lV (.var 6) (.hZ 2)) (.or (.cmp .lV (.var 6) (.hZ 3)) (.cmp .lt (.var 8) (.sub (.sub (.hZ 3) (.var 6)) (.cst (.int 0))))))
  (.cons (.put 3 (.var 6) (.tup (.cons (.var 8) (.cons (.var 5) .nil))))
  .nil)
  .nil)
 .nil))
noncomputable abbrev tG(gn:Str)(ix:List Nat)(cp:List PV)(z:PV)(kr:Ks)(Vr:Vs)(kw:Ks)(Vw:Vs)(s4 s5 s6 s7 s8:Ci.Slot):Sl:=[.val z,.fn gn ix cp,.own (.aX kr (Vr.map val)),.own (.aX kw (Vw.map val)),s4,s5,s6,s7,s8]
theorem vM(kw:Ks)(Vw:Vs)(v:List Int)(c:Int)(p:PV):bj kw (Vw.map val) v (.tup [.int c,p])=(bj kw Vw v (c,p)).map val:=kj val kw Vw v (c,p)
theorem NO(F:aO){gn:Str}{ix:List Nat}{cp:List PV}{z:PV}{E:List Int->List Int->Int->Prop}{O:List Int->Prop}{s:List Int}{kr:Ks}{Vr:Vs}{kw:Ks}{Vw:Vs}{X:List Int->List Int->Int->Prop}{n:Nat}{b:Int}(M:qW E O s kr Vr kw Vw X n b)(hn:n<=3000){u v:List Int}{d e:Int}{p0:PV}(hu:av kr Vr u=some (d,p0))(hd:∀k q,av kr Vr k=some q->q.1<=d)(he:E u v e)(h0:0<e)(hb:d+e<=b)(ho:O v)(s4 s6 s7 s8:Ci.Slot):
 ∃Hn Gw JT Hy Js,(((Tg.two 6 7).put (tK (v,e)) (tG gn ix cp z kr Vr kw Vw s4 (.val (ah u)) s6 s7 s8)).bind λau=>aJ F wS au)=.ok (.nx (tG gn ix cp z kr Vr Hn Gw s4 (.val (ah u)) JT Hy Js))/\qW E O s kr Vr Hn Gw (λa b c=>X a b c\/a=u/\b=v/\c=e) (n+1) b:=by
 have e1:=Hv hu
 have l:kw.length<df:=zzV (zzU M.cw hn) (by decide)
 have g1:=bB (vs:=Vr) v M.lr
 have g2:=bB (vs:=Vw) v M.lw
 cases hv:av kr Vr v with
 |some q=>
  rw [hv] at g1;have E5:bO kr v=true:=g1
  refine⟨kw,Vw,.val (ah v),.val (.int e),.val (.int (d+e)),by simp! only [wS,tG,e1,BD,gB,E5],M.keep (Nat.le_succ n) (Int.le_refl _) ?_⟩
  rintro a q' ha b c (hx|⟨rfl,rfl,rfl⟩)
  ·exact M.iN a q' ha b c hx
  ·rw [hu] at ha;cases ha;refine .inl ⟨q,hv,?_⟩;have:=hd _ q hv
   show q.1<=d+c
   omega
 |none=>
  rw [hv] at g1;have E5:bO kr v=false:=g1
  cases hw:av kw Vw v with
  |none=>
   rw [hw] at g2;have LY:bO kw v=false:=g2
   refine⟨_,_,.val (ah v),.val (.int e),.val (.int (d+e)),?_,M.put hu hd he h0 hb ho hv (λq h=>by rw [hw] at h;cases h)⟩;simp! only [wS,tG,e1,BD,gB,E5,LY,dg,l,vM]
  |some q=>
   rw [hw] at g2;have LY:bO kw v=true:=g2
   have e2:=Hv hw
   by_cases bZ:d+e<q.1
   ·refine⟨_,_,.val (ah v),.val (.int e),.val (.int (d+e)),?_,M.put hu hd he h0 hb ho hv (λq' h=>by rw [hw] at h;cases h;omega)⟩;simp! only [wS,tG,e1,e2,BD,gB,E5,LY,bZ,decide_true,dg,l,vM]
   ·refine⟨kw,Vw,.val (ah v),.val (.int e),.val (.int (d+e)),by simp! only [wS,tG,e1,e2,BD,gB,E5,LY,bZ,decide_false],M.keep (Nat.le_succ n) (Int.le_refl _) ?_⟩
    rintro a q' ha b c (hx|⟨rfl,rfl,rfl⟩)
    ·exact M.iN a q' ha b c hx
    ·rw [hu] at ha;cases ha;exact .inr ⟨q,hw,by show q.1<=d+c;omega⟩
theorem GZ(F:aO){gn:Str}{ix:List Nat}{cp:List PV}{z:PV}{E:List Int->List Int->Int->Prop}{O:List Int->Prop}{s:List Int}{b:Int}(hE:∀u v e,E u v e->0<e/\e<=30/\O v){kr:Ks}{Vr:Vs}{u:List Int}{d:Int}{p0:PV}(hu:av kr Vr u=some (d,p0))(hd:∀k q,av kr Vr k=some q->q.1<=d)(NL:d+30<=b)(s4:Ci.Slot):
 ∀(T:List (List Int×Int)) (kw:Ks) (Vw:Vs) (X:List Int->List Int->Int->Prop) (n:Nat) (s6 s7 s8:Ci.Slot),(∀t∈T,E u t.1 t.2)->qW E O s kr Vr kw Vw X n b->n+T.length<=3000->∃Hn Gw JT Hy Js,forL (λx env=>((Tg.two 6 7).put x env).bind λau=>aJ F wS au) (T.map tK) (tG gn ix cp z kr Vr kw Vw s4 (.val (ah u)) s6 s7 s8)=.ok (.nx (tG gn ix cp z kr Vr Hn Gw s4 (.val (ah u)) JT Hy Js))/\qW E O s kr Vr Hn Gw (λa b c=>X a b c\/a=u/\(b,c)∈T) (n+T.length) b
 |[],kw,Vw,X,n,s6,s7,s8,_,M,_=>⟨kw,Vw,s6,s7,s8,rfl,M.keep (zzE _) (Int.le_refl _) (λa q ha b c hx=>M.iN a q ha b c (hx.resolve_right λz=>by cases z.2))⟩
 |t::T,kw,Vw,X,n,s6,s7,s8,hT,M,hn=>by
  have ht:=hT t (zzP ..)
  rw [zzL] at hn;obtain⟨LC,Vw1,a6,a7,a8,e1,M1⟩:=NO F (gn:=gn) (ix:=ix) (cp:=cp) (z:=z) M (by omega) hu hd ht (hE _ _ _ ht).1 (by have:=(hE _ _ _ ht).2.1;omega) (hE _ _ _ ht).2.2 s4 s6 s7 s8
  obtain⟨kw2,Vw2,b6,b7,b8,e2,M2⟩:=GZ F hE hu hd NL s4 T LC Vw1 _ (n+1) a6 a7 a8 (λx hx=>hT x (zzI _ hx)) M1 (by omega)
  refine⟨kw2,Vw2,b6,b7,b8,?_,M2.keep (by rw [zzL];omega) (Int.le_refl _) λa q ha b c hx=>M2.iN a q ha b c ?_⟩
  ·rw [zzF,forL,e1,qV];exact e2
  ·rcases hx with hx|⟨h1,h2⟩
   ·exact .inl (.inl hx)
   ·rcases List.mem_cons.1 h2 with h2|h2
    ·exact .inl (.inr ⟨h1,by rw [<-h2],by rw [<-h2]⟩)
    ·exact .inr ⟨h1,h2⟩
def CJ(U kr:Ks):Nat:=(U.filter λx=>!bO kr x).length
theorem Dd{U kr:Ks}{k:List Int}(hk:k∈U)(hn:bO kr k=false):CJ U (bf kr k)<CJ U kr:=by
 have hh:∀x,bO (bf kr k) x=(bO kr x||decide (x=k)):=by
  intro x;rw [Bool.eq_iff_iff,Bool.or_eq_true,cD,cD,zzN];unfold bf;rw [hn];simp
 unfold CJ;simp only [hh]
 induction U with
 |nil=>cases hk
 |cons y U ih=>
  have mono:(U.filter λx=>!(bO kr x||decide (x=k))).length<=(U.filter λx=>!bO kr x).length:=by
   rw [<-List.countP_eq_length_filter,<-List.countP_eq_length_filter];refine List.countP_mono_left λx _ h=>?_
   simp only [Bool.not_or,zza] at h;exact h.1
  rw [List.filter_cons,List.filter_cons]
  by_cases e:y=k
  ·subst e;simp only [hn,decide_true,Bool.or_true,Bool.not_true,zze,if_false,Bool.not_false,if_true,zzL];omega
  ·have:=ih ((List.mem_cons.1 hk).resolve_left λz=>e z.symm)
   simp only [e,decide_false,Bool.or_false];cases bO kr y<;>simp only [Bool.not_true,Bool.not_false,zze,if_true,if_false,zzL]<;>omega
def wC:E:=.cmp .gt (.blt .len (.cons (.hZ 3) .nil)) (.cst (.int 0))
noncomputable def wB:Ss:=(.cons (.qm 5 3)
 (.cons (.fM 2 3 5)
 (.cons (.dc (.two 6 7) (.seq (.ni 1 (.cons (.var 5) .nil))) wS)
 .nil)))
theorem Dw(F:aO){gn:Str}{ix:List Nat}{cp:List PV}{z:PV}{as:List Int->List PV}(GJ:ix.head?=some 1)(LV:∀u,fE (ah u::cp) ix.tail=.ok (as u)){E:List Int->List Int->Int->Prop}{O:List Int->Prop}{s:List Int}{U:Ks}(hU:∀u,O u->u∈U)(Ia:U.length<=36)(hE:∀u v e,E u v e->0<e/\e<=30/\O v)(dS:∀u,O u->∃T:List (List Int×Int),F gn (as u)=.ok (.lst (T.map tK))/\T.length<=60/\∀v e,(v,e)∈T↔E u v e)
 {kr:Ks} {Vr:Vs} {kw:Ks} {Vw:Vs} (M:qW E O s kr Vr kw Vw E (1+60*kr.length) (30*kr.length)) (hc:kr.length+CJ U kr<=U.length) (mI:kw≠[]) (s4 s5 s6 s7 s8:Ci.Slot):
 ∃vF N8 Hn Gw Qk JT Hy Js,aJ F wB (tG gn ix cp z kr Vr kw Vw s4 s5 s6 s7 s8)=.ok (.nx (tG gn ix cp z vF N8 Hn Gw s4 Qk JT Hy Js))/\qW E O s vF N8 Hn Gw E (1+60*vF.length) (30*vF.length)/\vF.length+CJ U vF<=U.length/\CJ U vF<CJ U kr:=by
 obtain⟨k,q,h1,h2,h3⟩:=xY M.lw M.nw mI
 obtain⟨M1,h4,h5⟩:=M.move h2 h3
 obtain⟨ho,_⟩:=M.ww k q h2
 have hk:bO kr k=false:=by
  rw [bB (vs:=Vr) k M.lr];cases h:av kr Vr k with
  |none=>rfl
  |some q'=>exact(M.L1 k q' q h h2).elim
 have hl:(bf kr k).length=kr.length+1:=by unfold bf;rw [hk];simp
 have bZ:=Dd (hU k ho) hk
 obtain⟨T,e1,hT,hT2⟩:=dS k ho
 obtain⟨d,p0⟩:=q
 obtain⟨kw2,Vw2,b6,b7,b8,e2,M2⟩:=GZ F (gn:=gn) (ix:=ix) (cp:=cp) (z:=z) (b:=30*kr.length+30) hE h4 h5 (by have:=(M.bd k (d,p0) (.inr h2)).2;show d+30<=_;omega) s4 T _ _ _ _ s6 s7 s8 (λt ht=>(hT2 t.1 t.2).1 ht) (M1.keep (zzE _) (by omega) M1.iN) (by omega)
 refine⟨_,_,kw2,Vw2,.val (ah k),b6,b7,b8,?_,M2.keep (by omega) (by omega) (λa q ha b c hx=>M2.iN a q ha b c ?_),by omega,bZ⟩
 ·have l:kr.length<df/\2≠3:=⟨zzV (m:=36) (by omega) (by decide),by decide⟩
  have gm:av kw (Vw.map val) k=some (val (d,p0)):=by rw [gC,h2];rfl
  have gp:bj kr (Vr.map val) k (val (d,p0))=(bj kr Vr k (d,p0)).map val:=kj val kr Vr k (d,p0)
  have ha:=LV k
  simp! only [wS,tG] at e2;simp! only [wB,wS,tG,pf,h1,dg,gm,l,and_self,nu,gp,GJ,ha,e1,e2,ne_eq,not_false_eq_true]
 ·by_cases e:a=k
  ·subst e;exact .inr ⟨rfl,(hT2 b c).2 hx⟩
  ·exact .inl ⟨hx,e⟩
theorem xh(F:aO){gn:Str}{ix:List Nat}{cp:List PV}{z:PV}{as:List Int->List PV}(GJ:ix.head?=some 1)(LV:∀u,fE (ah u::cp) ix.tail=.ok (as u)){E:List Int->List Int->Int->Prop}{O:List Int->Prop}{s:List Int}{U:Ks}(hU:∀u,O u->u∈U)(Ia:U.length<=36)(hE:∀u v e,E u v e->0<e/\e<=30/\O v)(dS:∀u,O u->∃T:List (List Int×Int),F gn (as u)=.ok (.lst (T.map tK))/\T.length<=60/\∀v e,(v,e)∈T↔E u v e)(s4:Ci.Slot):
 ∀(n:Nat) (kr:Ks) (Vr:Vs) (kw:Ks) (Vw:Vs) (s5 s6 s7 s8:Ci.Slot),qW E O s kr Vr kw Vw E (1+60*kr.length) (30*kr.length)->kr.length+CJ U kr<=U.length->CJ U kr<n->∃vF N8 VC Qk JT Hy Js,dF (aQ F wC) (aJ F wB) n (tG gn ix cp z kr Vr kw Vw s4 s5 s6 s7 s8)=.ok (.nx [.val z,.fn gn ix cp,.own (.aX vF (N8.map val)),VC,s4,Qk,JT,Hy,Js])/\vF.length<=36/\∃m,qW E O s vF N8 [] [] E m 1080
 |0,_,_,_,_,_,_,_,_,_,_,h=>absurd h (Nat.not_lt_zero _)
 |n+1,kr,Vr,kw,Vw,s5,s6,s7,s8,M,hc,hn=>by
  have ec:aQ F wC (tG gn ix cp z kr Vr kw Vw s4 s5 s6 s7 s8)=.ok (.bl (decide ((0:Int)<kw.length))):=by simp! only [wC,tG,Rw]
  by_cases hk:kw=[]
  ·subst hk;have hv:Vw=[]:=List.eq_nil_of_length_eq_zero M.lw.symm
   subst hv;refine⟨kr,Vr,.own (.aX [] []),s5,s6,s7,s8,?_,by omega,_,M.keep (zzE _) (by omega) M.iN⟩;have:decide ((0:Int)<(([]:Ks).length:Nat))=false:=rfl
   rw [this] at ec;simp only [dF,ec,qV,M4,zze,if_false,tG]
   rfl
  ·obtain⟨kr1,Vr1,LC,Vw1,t5,t6,t7,t8,e1,M1,hc1,bZ⟩:=Dw F (gn:=gn) (z:=z) GJ LV hU Ia hE dS M hc hk s4 s5 s6 s7 s8
   obtain⟨kr2,Vr2,u3,u5,u6,u7,u8,e2,h2⟩:=xh F (gn:=gn) (z:=z) GJ LV hU Ia hE dS s4 n kr1 Vr1 LC Vw1 t5 t6 t7 t8 M1 hc1 (by omega)
   refine⟨kr2,Vr2,u3,u5,u6,u7,u8,?_,h2⟩;have:decide ((0:Int)<(kw.length:Nat))=true:=by
    have:=List.length_pos_iff.2 hk
    simp;omega
   rw [this] at ec;simp only [dF,ec,qV,M4,if_true,e1,e2]
structure DF(E:List Int->List Int->Int->Prop)(s:List Int)(kr:Ks)(Vr:Vs):Prop where
 len:kr.length=Vr.length
 le:kr.length<=36
 CB:∀k q,av kr Vr k=some q->k.length=2/\Ft E s k q.1
 iN:∀u q,av kr Vr u=some q->∀v e,E u v e->∃q',av kr Vr v=some q'/\q'.1<=q.1+e
 st:∃q,av kr Vr s=some q/\q.1<=0
 pre:∀k q,av kr Vr k=some q->(q.2=.az/\k=s/\q.1=0)\/∃y q' e,q.2=ah y/\av kr Vr y=some q'/\E y k e/\q.1=q'.1+e
 bd:∀k q,av kr Vr k=some q->0<=q.1/\q.1<=1080
 nr:kr.Nodup
noncomputable def Gr(gn:Str)(ix:List Nat):Def:=⟨["starts","steps","reached","waiting","start","spot","other","cost","together"],2,(.cons (.nV 2)
 (.cons (.nV 3)
 (.cons (.dc (.one 4) (.seq (.var 0))
  (.cons (.put 3 (.var 4) (.tup (.cons (.cst (.int 0)) (.cons (.cst .az) .nil))))
  .nil))
 (.cons (.E0 (.cmp .gt (.blt .len (.cons (.hZ 3) .nil)) (.cst (.int 0)))
  (.cons (.qm 5 3)
  (.cons (.fM 2 3 5)
  (.cons (.dc (.two 6 7) (.seq (.ni 1 (.cons (.var 5) .nil)))
   (.cons (.set 8 (.bin .add (.sub (.sub (.hZ 2) (.var 5)) (.cst (.int 0))) (.var 7)))
   (.cons (.ite (.and (.cmp .lV (.var 6) (.hZ 2)) (.or (.cmp .lV (.var 6) (.hZ 3)) (.cmp .lt (.var 8) (.sub (.sub (.hZ 3) (.var 6)) (.cst (.int 0))))))
    (.cons (.put 3 (.var 6) (.tup (.cons (.var 8) (.cons (.var 5) .nil))))
    .nil)
    .nil)
   .nil)))
  .nil))))
 (.cons (.bK 2)
 (.cons (.ret (.var 2))
 .nil)))))),some (gn,ix)⟩
theorem zg(F:aO)(gn:Str){ix:List Nat}{cp:List PV}{as:List Int->List PV}(GJ:ix.head?=some 1)(LV:∀u,fE (ah u::cp) ix.tail=.ok (as u)){E:List Int->List Int->Int->Prop}{O:List Int->Prop}{s:List Int}{U:Ks}(hU:∀u,O u->u∈U)(Ia:U.length<=36)(h2:∀u,O u->u.length=2)(hE:∀u v e,E u v e->0<e/\e<=30/\O v)(dS:∀u,O u->∃T:List (List Int×Int),F gn (as u)=.ok (.lst (T.map tK))/\T.length<=60/\∀v e,(v,e)∈T↔E u v e)(hs:O s):
 ∃kr Vr,ay F (Gr gn ix) (.lst [ah s]::cp)=.ok (.aX kr (Vr.map val))/\DF E s kr Vr:=by
 have g:∀x q,av [s] [((0:Int),PV.az)] x=some q->s=x/\q=(0,.az):=λx q h=>by
  simp only [av] at h;split at h
  ·rename_i z;cases h;exact⟨z,rfl⟩
  ·cases h
 have M:qW E O s [] [] [s] [(0,.az)] E (1+60*([]:Ks).length) (30*(([]:Ks).length:Nat)):=⟨rfl,rfl,by simp,(λk q q' h=>by simp [av] at h),(λk q h=>by simp [av] at h),(λk q h=>by obtain⟨rfl,rfl⟩:=g k q h;exact⟨hs,.here⟩),(λk q k' q' h=>by simp [av] at h),(λu q h=>by simp [av] at h),.inr ⟨(0,.az),by simp [av],Int.le_refl _⟩,by simp,(λk q h=>h.elim (λh=>by simp [av] at h) λh=>by obtain⟨z,rfl⟩:=g k q h;exact .inl ⟨rfl,z.symm,rfl⟩),(λk q h=>h.elim (λh=>by simp [av] at h) λh=>by obtain⟨_,rfl⟩:=g k q h;exact⟨Int.le_refl _,Int.le_refl _⟩),List.nodup_nil⟩
 have hl:CJ U []<=U.length:=List.length_filter_le ..
 obtain⟨kr,Vr,u3,u5,u6,u7,u8,e,h3,m,M'⟩:=xh F (gn:=gn) (z:=.lst [ah s]) GJ LV hU Ia hE dS (.val (ah s)) WN [] [] [s] [(0,.az)] .no .no .no .no M (by simpa using hl) (zzV (zzU hl Ia) (by decide))
 refine⟨kr,Vr,?_,M'.lr,h3,λk q h=>⟨h2 k (M'.wr k q h).1,(M'.wr k q h).2⟩,λu q h v c hx=>?_,?_,?_,?_,?_⟩
 ·have l:(0:Nat)<df:=by decide
  have p1:bf [] s=[s]:=rfl
  have p2:∀p:PV,bj ([]:Ks) [] s p=[p]:=λp=>rfl
  have a2:List.take 1 (PV.lst [ah s]::cp)=[.lst [ah s]]:=rfl
  have a3:List.drop 1 (PV.lst [ah s]::cp)=cp:=rfl
  simp! only [wC,wB,wS,tG] at e;simp! only [Gr,a2,a3,forL,dg,l,p1,p2,e,El];exact if_pos rfl
 ·rcases M'.iN u q h v c hx with h|⟨q',h,_⟩
  ·exact h
  ·simp [av] at h
 ·rcases M'.st with h|⟨q',h,_⟩
  ·exact h
  ·simp [av] at h
 ·exact λk q h=>M'.pre k q (.inl h)
 ·exact λk q h=>M'.bd k q (.inl h)
 ·exact M'.nr
theorem m6:∀{a b c:List Int},HT.lexLt a b=true->HT.lexLt b c=true->HT.lexLt a c=true
 |[],[],_,h,_=>by cases h
 |[],_::_,[],_,h=>by cases h
 |[],_::_,_::_,_,_=>rfl
 |_::_,[],_,h,_=>by cases h
 |_::_,_::_,[],_,h=>by cases h
 |x::a,y::b,z::c,h,k=>by
  simp only [HT.lexLt] at h k⊢;split at h
  ·subst x;split at k
   ·subst y;rw [if_pos rfl];exact m6 h k
   ·rw [if_neg ‹_›];exact k
  ·have h:=zzY h
   split at k
   ·subst y;rw [if_neg ‹_›];exact zzh h
   ·have k:=zzY k
    rw [if_neg (by omega)];exact zzh (by omega)
theorem pI:∀{a b:List Int},HT.lexLt a b=true->HT.lexLt b a=false
 |[],[],h=>by cases h
 |[],_::_,_=>rfl
 |_::_,[],h=>by cases h
 |x::a,y::b,h=>by
  simp only [HT.lexLt] at h⊢;split at h
  ·subst x;rw [if_pos rfl];exact pI h
  ·have h:=zzY h
   rw [if_neg (by omega)];exact decide_eq_false (by omega)
theorem Bd:∀{a b:List Int},a≠b->HT.lexLt a b=true\/HT.lexLt b a=true
 |[],[],h=>absurd rfl h
 |[],_::_,_=>.inl rfl
 |_::_,[],_=>.inr rfl
 |x::a,y::b,h=>by
  simp only [HT.lexLt]
  by_cases e:x=y
  ·subst x;rw [if_pos rfl,if_pos rfl];exact Bd λz=>h (by rw [z])
  ·rw [if_neg e,if_neg (λz=>e z.symm)]
   by_cases l:x<y
   ·exact .inl (zzh l)
   ·exact .inr (zzh (by omega))
theorem Lw(a:List Int):HT.lexLt a a=false:=by
 cases h:HT.lexLt a a with
 |false=>rfl
 |true=>have:=pI h;rw [h] at this;exact this
abbrev xl(L:Ks):Prop:=L.Pairwise λa b=>HT.lexLt a b=true
theorem xl.nodup{L:Ks}(h:xl L):L.Nodup:=h.imp λ{a b} e z=>by rw [z,Lw] at e;cases e
theorem range_getD{α:Type}(d:α)(l:List α):(List.range l.length).map (λi=>l.getD i d)=l:=by
 refine List.ext_getElem (by simp) λi h1 h2=>?_
 simp [zzK,zzg h2]
theorem C7{α:Type}(d:α)(f:α->PV)(g:α->List Int){l:List α}(nd:(l.map g).Nodup):ik PV.az (l.map f) (l.map g)=(ik d l (l.map g)).map f/\(ik d l (l.map g)).Perm l/\xl ((ik d l (l.map g)).map g):=by
 by_cases h:l.length<2
 ·unfold ik;rw [if_pos h,if_pos (by simpa using h)];refine⟨rfl,.refl _,?_⟩
  match l,h with
  |[],_=>exact .nil
  |[a],_=>exact List.pairwise_singleton ..
  |_::_::_,h=>simp only [zzL] at h;omega
 ·have gl:∀i,i<l.length->(l.map g).getD i []=g (l.getD i d):=λi hi=>by simp [zzK,zzg hi]
  have P:=eQ (n:=l.length) (by omega) λi j=>HT.lexLt ((l.map g).getD i []) ((l.map g).getD j [])
  have U:=nY (n:=l.length) (lt:=λi j=>HT.lexLt ((l.map g).getD i []) ((l.map g).getD j [])) ⟨λa b ha hb hn=>Bd λz=>hn (by
   have ha:a<(l.map g).length:=by simpa using ha
   have hb:b<(l.map g).length:=by simpa using hb
   simp only [zzK,zzg ha,zzg hb,Option.getD_some] at z;exact(List.getElem_inj nd).1 z),λa b=>pI,λa b c=>m6⟩ (by omega)
  unfold ik;rw [if_neg h,if_neg (by simpa using h),zzl,List.map_map];refine⟨List.map_congr_left λi hi=>?_,?_,List.pairwise_map.2 (List.pairwise_map.2 (List.Pairwise.imp_of_mem (λ{a b} ha hb e=>?_) U))⟩
  ·have hl:i<l.length:=List.mem_range.1 (P.mem_iff.1 hi)
   simp [zzK,zzg hl]
  ·have Q:=P.map λi=>l.getD i d
   rw [range_getD] at Q;exact Q
  ·rw [gl a (List.mem_range.1 (P.mem_iff.1 ha)),gl b (List.mem_range.1 (P.mem_iff.1 hb))] at e;exact e
theorem KS{ks:Ks}(nd:ks.Nodup):∃S:Ks,ik PV.az (ks.map ah) ks=S.map ah/\S.length=ks.length/\(∀k,k∈S↔k∈ks)/\xl S:=by
 obtain⟨e,P,s⟩:=C7 ([]:List Int) ah id (l:=ks) (by rwa [List.map_id])
 simp only [List.map_id] at e s P;exact⟨_,e,P.length_eq,λk=>P.mem_iff,s⟩
theorem uG{ks:Ks}{vs:List PV}(nd:ks.Nodup)(hl:ks.length<64)(h2:∀k∈ks,k≠[]):∃S:Ks,cR .sorted [.aX ks vs]=.ok (.lst (S.map ah))/\(∀k,k∈S↔k∈ks)/\xl S:=by
 obtain⟨S,e,_,hm,hs⟩:=KS nd
 refine⟨S,?_,hm,hs⟩;show(if(decide (ks.length<64)&&ks.all λk=>!k.isEmpty)=true then Res.ok (PV.lst (ik .az (ks.map ah) ks)) else .bad)=_
 rw [if_pos,e];rw [zza];refine⟨zzh hl,zzT.2 λk hk=>?_⟩
 have:=h2 k hk
 cases k with
 |nil=>exact absurd rfl this
 |cons a b=>rfl
theorem xn:∀(n:Nat) (a b:List Int),eqs (iS n) (a.map .int) (b.map .int)=decide (a=b)
 |_,[],[]=>rfl
 |_,[],_::_=>rfl
 |_,_::_,[]=>rfl
 |n,x::a,y::b=>by
  have:iS n (.int x) (.int y)=(x==y):=by cases n<;>rfl
  simp only [zzF,eqs,xn n a b,this];rw [Bool.eq_iff_iff];simp
theorem pH(n:Nat)(a b:List Int):iS (n+1) (ah a) (ah b)=decide (a=b):=xn n a b
theorem nc:∀(n:Nat) (a b:Ks),eqs (iS (n+1)) (a.map ah) (b.map ah)=decide (a=b)
 |_,[],[]=>rfl
 |_,[],_::_=>rfl
 |_,_::_,[]=>rfl
 |n,x::a,y::b=>by
  simp only [zzF,eqs,nc n a b,pH];rw [Bool.eq_iff_iff];simp
theorem Dy(n:Nat)(a:List Int):(a.map PV.int).all (Ci.plain n)=true:=by
 simp only [zzT,List.mem_map]
 rintro x ⟨i,_,rfl⟩
 cases n<;>rfl
theorem mH(n:Nat)(a:List Int):Ci.plain (n+1) (ah a)=true:=Dy n a
theorem vL(n:Nat)(a:Ks):(a.map ah).all (Ci.plain (n+1))=true:=by
 simp only [zzT,List.mem_map]
 rintro x ⟨i,_,rfl⟩
 exact mH n i
theorem lB(n:Nat)(a:Ks):Ci.plain (n+2) (.lst (a.map ah))=true:=vL n a
theorem Vf(a b:Ks):iz (.lst (a.map ah)) (.lst (b.map ah))=.ok (.bl (decide (a=b))):=by
 show(if(Ci.plain 9 (.lst (a.map ah))&&Ci.plain 9 (.lst (b.map ah)))=true then Res.ok (PV.bl (iS 9 (.lst (a.map ah)) (.lst (b.map ah)))) else .bad)=_
 rw [lB 7,lB 7];exact congrArg (λz=>Res.ok (PV.bl z)) (nc 7 a b)
theorem Q5(a b:Ks):iT (.lst (a.map ah)) (.lst (b.map ah))=.ok (.bl (!decide (a=b))):=by
 show(if(Ci.plain 9 (.lst (a.map ah))&&Ci.plain 9 (.lst (b.map ah)))=true then Res.ok (PV.bl (!iS 9 (.lst (a.map ah)) (.lst (b.map ah)))) else .bad)=_
 rw [lB 7,lB 7];exact congrArg (λz=>Res.ok (PV.bl (!z))) (nc 7 a b)
theorem mem_keys(k:List Int)(L:Ks):ux (ah k) (L.map ah)=decide (k∈L):=by
 unfold ux;rw [List.any_map,Bool.eq_iff_iff,zzj,zzN]
 constructor
 ·rintro ⟨x,hx,e⟩
  have:decide (x=k)=true:=(pH 8 x k).symm.trans e
  exact zzY this▸hx
 ·intro h;exact⟨k,h,(pH 8 k k).trans (zzh rfl)⟩
theorem Nl(k:List Int)(L:Ks):jc (ah k) (.lst (L.map ah))=.ok (.bl (!decide (k∈L))):=by
 show(if(Ci.plain 9 (ah k)&&(L.map ah).all (Ci.plain 9))=true then Res.ok (PV.bl (!ux (ah k) (L.map ah))) else .bad)=_
 rw [mH 8,vL 8,mem_keys]
 rfl
def cst(kr:Ks)(Vr:Vs)(k:List Int):Int:=((av kr Vr k).map (·.1)).getD 0
theorem yI(F:aO){E:List Int->List Int->Int->Prop}{s:List Int}{kr:Ks}{Vr:Vs}(R:DF E s kr Vr)(h2:∀k∈kr,k≠[]):∃S:Ks,ay F cC [.aX kr (Vr.map val)]=.ok (.lst (S.map λk=>tK (k,cst kr Vr k)))/\S.length<=36/\(∀k,k∈S↔k∈kr)/\xl S:=by
 obtain⟨S,e,hm,hs⟩:=uG (vs:=Vr.map val) R.nr (by have:=R.le;omega) h2
 have hl:S.length<=36:=by
  have:=(List.perm_ext_iff_of_nodup hs.nodup R.nr).2 hm
  rw [this.length_eq];exact R.le
 refine⟨S,?_,hl,hm,hs⟩;have ll:S.length<df:=zzV hl (by decide)
 simp! only [cC,e,zzl,ll];rw [bL (p:=ah) (g:=λk=>tK (k,cst kr Vr k)) (λk hk=>by
  have:(av kr Vr k).isSome=true:=by rw [<-bB k R.len];exact cD.2 ((hm k).1 hk)
  obtain⟨q,hq⟩:=Option.isSome_iff_exists.1 this
  have ec:cst kr Vr k=q.1:=by unfold cst;rw [hq];rfl
  simp! only [Hv hq,BD,ec])]
 rfl
def fu(aa:List Str)(u:List Int):Prop:=∃r c,u=[r,c]/\cy aa r c=true
def xG:Ks:=(List.range 6).flatMap λ(r:Nat)=>(List.range 6).map λ(c:Nat)=>[(r:Int),(c:Int)]
theorem xk:xG.length=36:=by decide
theorem PR{aa:List Str}{w:Nat}(L:Fl aa w){u:List Int}(h:fu aa u):u∈xG:=by
 obtain⟨r,c,rfl,h⟩:=h
 obtain⟨a,b,d,e⟩:=GP L h
 refine List.mem_flatMap.2 ⟨r.toNat,List.mem_range.2 (by omega),List.mem_map.2 ⟨c.toNat,List.mem_range.2 (by omega),?_⟩⟩;rw [Int.toNat_of_nonneg a,Int.toNat_of_nonneg d]
theorem fI{aa:List Str}{sl:Bool}{cl pr r c r' c' e:Int}:cY aa sl cl pr r c r' c'=some e↔¬gk r c r' c'/\(r≠r'/\c≠c'->sl=true/\cy aa r c'=true/\cy aa r' c=true)/\cI aa r' c'-cI aa r c<=cl/\cI aa r c-cI aa r' c'<=cl/\e=(if r≠r'/\c≠c' then 3 else 2)+pr*(if cI aa r' c'-cI aa r c>0 then cI aa r' c'-cI aa r c else 0):=by
 unfold cY
 by_cases h1:gk r c r' c'
 ·rw [if_pos (show(r=r'/\c=c')\/1<r-r'\/1<r'-r\/1<c-c'\/1<c'-c from h1)];exact⟨(λz=>by cases z),λz=>absurd h1 z.1⟩
 ·have pz:¬((r=r'/\c=c')\/1<r-r'\/1<r'-r\/1<c-c'\/1<c'-c):=h1
  rw [if_neg pz]
  by_cases h2:(r≠r'/\c≠c')/\¬(sl=true/\cy aa r c'=true/\cy aa r' c=true)
  ·rw [if_pos h2];exact⟨(λz=>by cases z),λz=>absurd (z.2.1 h2.1) h2.2⟩
  ·rw [if_neg h2];have v9:r≠r'/\c≠c'->sl=true/\cy aa r c'=true/\cy aa r' c=true:=λa=>Classical.byContradiction λb=>h2 ⟨a,b⟩
   by_cases h3:cl<cI aa r' c'-cI aa r c\/cl<cI aa r c-cI aa r' c'
   ·rw [if_pos h3];exact⟨(λz=>by cases z),λz=>by omega⟩
   ·rw [if_neg h3];refine⟨λz=>⟨h1,v9,by omega,by omega,by cases z;rfl⟩,λz=>by rw [z.2.2.2.2]⟩
theorem z9{aa:List Str}{sl:Bool}{cl pr:Int}{u v:List Int}{e:Int}(h:E1 aa sl cl pr u v e):∃e',E1 aa sl cl pr v u e':=by
 obtain⟨r,c,r',c',h1,h2,h3,h4,h5⟩:=h
 rw [fI] at h5;refine⟨_,r',c',r,c,h2,h1,h4,h3,fI.2 ⟨?_,λz=>?_,h5.2.2.2.1,h5.2.2.1,rfl⟩⟩
 ·have:=h5.1
  unfold gk at this⊢;omega
 ·obtain⟨a,b,d⟩:=h5.2.1 ⟨λx=>z.1 x.symm,λx=>z.2 x.symm⟩
  exact⟨a,d,b⟩
theorem wF{aa:List Str}{w:Nat}(L:Fl aa w){sl:Bool}{cl pr:Int}(V:Wk cl pr){u v:List Int}{e:Int}(h:E1 aa sl cl pr u v e):0<e/\e<=30/\fu aa v:=by
 obtain⟨r,c,r',c',h1,h2,h3,h4,h5⟩:=h
 rw [fI] at h5;obtain⟨_,_,_,_,_,l1,l2⟩:=lZ L h3
 obtain⟨_,_,_,_,_,m1,m2⟩:=lZ L h4
 have p0:=V.p0
 have p4:=V.p4
 have e5:=h5.2.2.2.2
 generalize hm:(if cI aa r' c'-cI aa r c>0 then cI aa r' c'-cI aa r c else 0)=m at e5
 have Rh:0<=m/\m<=9:=by rw [<-hm];split<;>omega
 generalize hf:(if r≠r'/\c≠c' then(3:Int) else 2)=f at e5
 have VS:2<=f/\f<=3:=by rw [<-hf];split<;>omega
 have a1:=Int.mul_nonneg p0 Rh.1
 have a2:pr*m<=3*9:=Int.mul_le_mul (by omega) Rh.2 Rh.1 (by omega)
 exact⟨by omega,by omega,r',c',h2,h4⟩
def Et(aa:List Str)(sl:Bool)(cl pr:Int)(u v:List Int)(e:Int):Prop:=E1 aa sl cl pr v u e
def rH(f:List PV->Res PV):Prop:=∀aa w,Fl aa w->∀sl cl pr,Wk cl pr->∀r c,cy aa r c=true->∃T:List (List Int×Int),f [fl aa,wk sl cl pr,ah [r,c]]=.ok (.lst (T.map tK))/\T.length<=9/\∀v e,(v,e)∈T↔Et aa sl cl pr [r,c] v e
def lG(F:aO):Prop:=rH (F "steps_to")
def Gu(f:List PV->Res PV):Prop:=∀aa w,Fl aa w->∀sl cl pr,Wk cl pr->∀r c,cy aa r c=true->∃kr Vr,f [.lst [sp r c],wk sl cl pr,fl aa]=.ok (.aX kr (Vr.map val))/\DF (Et aa sl cl pr) [r,c] kr Vr
def Lc(F:aO):Prop:=Gu (F "spread@steps_to")
theorem vc(F:aO)(hs:qC F)(hc:uF F):rH (ay F cT):=by
 intro aa w L sl cl pr V r c h;obtain⟨T,e1,hl,hT⟩:=hs aa w L sl cl pr V r c h
 have key:∀t∈T,∃e,Et aa sl cl pr [r,c] t.1 e/\F "step_cost" [fl aa,wk sl cl pr,ah t.1,ah [r,c]]=.ok (.int e):=λt ht=>by
  obtain⟨e',he⟩:=z9 ((hT t.1 t.2).1 ht)
  refine⟨e',he,?_⟩;obtain⟨a,b,a',b',g1,g2,g3,g4,g5⟩:=he
  cases g2;have:=hc aa w L sl cl pr V a b r c g3 g4
  rw [g5] at this;rw [g1];exact this
 let cf:List Int->Int:=λv=>match v with
  |[a,b]=>(cY aa sl cl pr a b r c).getD 0
  |_=>0
 have CO:∀v e,Et aa sl cl pr [r,c] v e->cf v=e:=by
  rintro v e ⟨a,b,a',b',rfl,h2,_,_,g⟩
  cases h2;show(cY aa sl cl pr a b r c).getD 0=e
  rw [g]
  rfl
 refine⟨T.map λt=>(t.1,cf t.1),?_,by simpa using hl,λv e=>?_⟩
 ·have l:T.length<df:=zzV hl (by decide)
  have t0:∀t:List Int×Int,aN (tK t) (.int 0)=.ok (ah t.1):=λt=>rfl
  simp! only [cT,e1,zzl,l];rw [bL (p:=tK) (g:=λt=>tK (t.1,cf t.1)) (λt ht=>by
   obtain⟨e,he,ee⟩:=key t ht
   simp! only [t0,ee,CO _ _ he])]
  simp! only [List.map_map]
  rfl
 ·rw [List.mem_map]
  constructor
  ·rintro ⟨t,ht,z⟩
   cases z;obtain⟨e,he,_⟩:=key t ht
   rw [CO _ _ he];exact he
  ·intro he;obtain⟨e',h'⟩:=z9 he
   exact⟨(v,e'),(hT v e').2 h',by rw [CO _ _ he]⟩
theorem FC(F:aO)(hs:lG F):Gu (ay F bH):=λaa w L sl cl pr V r c h=>
 zg F "steps_to" (ix:=[1,2,1,0]) (cp:=[wk sl cl pr,fl aa]) (as:=λu=>[fl aa,wk sl cl pr,ah u]) rfl (λ_=>rfl) (E:=Et aa sl cl pr) (O:=fu aa) (s:=[r,c]) (U:=xG) (λu hu=>PR L hu) (Nat.le_of_eq xk) (λu hu=>by obtain⟨_,_,rfl,_⟩:=hu;rfl) (λu v e he=>⟨(wF L V he).1,(wF L V he).2.1,by obtain⟨a,b,_,_,h1,_,h3,_⟩:=he;exact⟨a,b,h1,h3⟩⟩)
  (λu hu=>by obtain⟨a,b,rfl,ho⟩:=hu;obtain⟨T,e,hl,hT⟩:=hs aa w L sl cl pr V a b ho;exact⟨T,e,by omega,hT⟩) ⟨r,c,rfl,h⟩
theorem rL(F:aO)(hn:uK F)(hs:Lc F){aa:List Str}{w:Nat}(L:Fl aa w){sl:Bool}{cl pr:Int}(V:Wk cl pr){r c:Int}(h:cy aa r c=true):∃kr Vr,ay F di [fl aa,wk sl cl pr,.lst [sp r c]]=.ok (.aX kr (Vr.map val))/\DF (Et aa sl cl pr) [r,c] kr Vr:=by
 obtain⟨kr,Vr,e,R⟩:=hs aa w L sl cl pr V r c h
 exact⟨kr,Vr,by simp! only [di,forL,hn aa L.vd r c h,kK,e],R⟩
theorem Af{α:Type}(xs:List α){k:Nat}(h:k<=xs.length):ng xs (some (k:Int)) none=xs.drop k:=by
 unfold ng;rw [HT.xa,HT.rC,Nat.min_eq_left h];exact List.take_of_length_le (by simp)
theorem qD{aa:List Str}{w:Nat}(L:Fl aa w){r c:Int}(h0:0<=r)(h1:r<aa.length)(h2:0<=c)(h3:c<w):∃z,aN (fl aa) (.int r)=.ok (.str z)/\∃x:Nat,aN (.str z) (.int c)=.ok (.str ⟨#[x]⟩)/\(x !=35)=cy aa r c:=by
 obtain⟨i,rfl⟩:=Int.eq_ofNat_of_zero_le h0
 obtain⟨j,rfl⟩:=Int.eq_ofNat_of_zero_le h2
 obtain⟨x,hx⟩:=Od L (i:=i) (j:=j) (by omega) (by omega)
 obtain⟨z,_,e1,e2⟩:=BG L.vd hx
 exact⟨z,e1,x,e2,by simp [cy,CC,hx]⟩
theorem AX(x:Nat):iz (.str ⟨#[x]⟩) (.str "#")=.ok (.bl (!(x !=35))):=by
 have:(("#":Str))=⟨#[35]⟩:=by decide+kernel
 rw [this];show Res.ok (PV.bl ((⟨#[x]⟩:Str)==⟨#[35]⟩))=_
 congr 2
 rw [bne,Bool.not_not,Bool.eq_iff_iff];simp
theorem C5{t u:Bool}:(if t=true then Res.ok (PV.bl true) else Res.ok (PV.bl u))=Res.ok (PV.bl (t||u)):=by cases t<;>rfl
def OB:Ss:=(.cons (.ret (.bin .add (.var 5) (.ite (.cmp .gt (.var 4) (.cst (.int 0))) (.bin .mul (.sub (.var 1) (.cst (.int 2))) (.var 4)) (.cst (.int 0))))) .nil)
noncomputable def LD:Ss:=(.cons (.ite (.and (.cmp .ne (.sub (.var 2) (.cst (.int 0))) (.sub (.var 3) (.cst (.int 0)))) (.cmp .ne (.sub (.var 2) (.cst (.int 1))) (.sub (.var 3) (.cst (.int 1)))))
 (.cons (.ite (.or (.not (.sub (.var 1) (.cst (.int 0)))) (.or (.cmp .eq (.sub (.sub (.var 0) (.sub (.var 2) (.cst (.int 0)))) (.sub (.var 3) (.cst (.int 1)))) (.cst (.str "#"))) (.cmp .eq (.sub (.sub (.var 0) (.sub (.var 3) (.cst (.int 0)))) (.sub (.var 2) (.cst (.int 1)))) (.cst (.str "#")))))
  (.cons (.ret (.cst .az))
  .nil)
  .nil)
 (.cons (.set 5 (.cst (.int 3)))
 .nil))
 .nil) OB)
noncomputable def OA:Ss:=(.cons (.ite (.or (.cmp .gt (.var 4) (.sub (.var 1) (.cst (.int 1)))) (.cmp .gt (.bin .sub (.cst (.int 0)) (.var 4)) (.sub (.var 1) (.cst (.int 1)))))
 (.cons (.ret (.cst .az))
 .nil)
 .nil) LD)
theorem Ea:cb.body=(.cons (.set 4 (.bin .sub (.blt .int (.cons (.sub (.sub (.var 0) (.sub (.var 3) (.cst (.int 0)))) (.sub (.var 3) (.cst (.int 1)))) .nil)) (.blt .int (.cons (.sub (.sub (.var 0) (.sub (.var 2) (.cst (.int 0)))) (.sub (.var 2) (.cst (.int 1)))) .nil)))) (.cons (.set 5 (.cst (.int 2))) OA)):=rfl
abbrev Ra(A:PV)(sl:Bool)(cl pr r c r' c' ri k:Int):Sl:=[.val A,.val (wk sl cl pr),.val (sp r c),.val (sp r' c'),.val (.int ri),.val (.int k)]
theorem zJ(F:aO)(A:PV)(sl:Bool){cl pr:Int}(V:Wk cl pr)(r c r' c' ri k:Int):aJ F OB (Ra A sl cl pr r c r' c' ri k)=.ok (.rt (.int (k+pr*(if ri>0 then ri else 0)))):=by
 have ms:=o9 (j:=ri) V.p0 V.p4
 by_cases hp:0<ri
 ·rw [if_pos hp];simp! only [OB,hp,decide_true,ms]
 ·rw [if_neg hp,Int.mul_zero];simp! only [OB,hp,decide_false]
theorem HC(F:aO){aa:List Str}{w:Nat}(L:Fl aa w){sl:Bool}{cl pr:Int}(V:Wk cl pr){r c r' c':Int}(h:cy aa r c=true)(h':cy aa r' c'=true)(ri:Int):
 aJ F LD (Ra (fl aa) sl cl pr r c r' c' ri 2)=.ok (.rt (if(r≠r'/\c≠c')/\¬(sl=true/\cy aa r c'=true/\cy aa r' c=true) then .az else .int ((if r≠r'/\c≠c' then 3 else 2)+pr*(if ri>0 then ri else 0)))):=by
 have i1:=ju L h
 have i2:=ju L h'
 obtain⟨z3,c1,x3,c2,c3⟩:=qD L (r:=r) (c:=c') i1.1 i1.2.1 i2.2.2.1 i2.2.2.2
 obtain⟨z4,d1,x4,d2,d3⟩:=qD L (r:=r') (c:=c) i2.1 i2.2.1 i1.2.2.1 i1.2.2.2
 have e3:=zJ F (fl aa) sl V r c r' c' ri 3
 have e2:=zJ F (fl aa) sl V r c r' c' ri 2
 by_cases n3:r≠r'/\c≠c'
 ·have GR:(!(r==r'))=true:=by simpa using n3.1
  have sV:(!(c==c'))=true:=by simpa using n3.2
  rw [if_pos n3]
  by_cases hb:sl=true/\cy aa r c'=true/\cy aa r' c=true
  ·rw [if_neg λz=>z.2 hb]
   have hB:(!sl||(!cy aa r c'||!cy aa r' c))=false:=by rw [hb.1,hb.2.1,hb.2.2];rfl
   simp! only [LD,c1,c2,d1,d2,AX,c3,d3,C5,GR,sV,hB,Bool.true_or,e3]
  ·rw [if_pos ⟨n3,hb⟩];have hB:(!sl||(!cy aa r c'||!cy aa r' c))=true:=by
    cases sl with
    |false=>rfl
    |true=>
     cases o1:cy aa r c' with
     |false=>rfl
     |true=>
      cases o2:cy aa r' c with
      |false=>rfl
      |true=>exact absurd ⟨rfl,o1,o2⟩ hb
   simp! only [LD,c1,c2,d1,d2,AX,c3,d3,C5,GR,sV,hB,Bool.true_or]
 ·rw [if_neg λz=>n3 z.1,if_neg n3]
  cases GR:(!(r==r')) with
  |false=>simp! only [LD,GR,e2]
  |true=>
   have sV:(!(c==c'))=false:=by
    cases sV:(!(c==c')) with
    |false=>rfl
    |true=>exact absurd ⟨by simpa using GR,by simpa using sV⟩ n3
   simp! only [LD,GR,sV,e2]
theorem uZ(F:aO){aa:List Str}{w:Nat}(L:Fl aa w){sl:Bool}{cl pr:Int}(V:Wk cl pr){r c r' c':Int}(h:cy aa r c=true)(h':cy aa r' c'=true)(hf:¬gk r c r' c'):
 ay F cb [fl aa,wk sl cl pr,sp r c,sp r' c']=.ok (oP (cY aa sl cl pr r c r' c')):=by
 obtain⟨z1,x1,a1,a2,a3,_⟩:=lZ L h
 obtain⟨z2,x2,b1,b2,b3,_⟩:=lZ L h'
 have q1:cY aa sl cl pr r c r' c'=_:=if_neg hf
 rw [q1];have st:cu cb [fl aa,wk sl cl pr,sp r c,sp r' c']=[.val (fl aa),.val (wk sl cl pr),.val (sp r c),.val (sp r' c'),.no,.no]:=rfl
 have ar:cm cb [fl aa,wk sl cl pr,sp r c,sp r' c']=true:=rfl
 have e4:=HC F L V (sl:=sl) h h' (cI aa r' c'-cI aa r c)
 have go:∀x,aJ F OA (Ra (fl aa) sl cl pr r c r' c' (cI aa r' c'-cI aa r c) 2)=.ok (.rt x)->ay F cb [fl aa,wk sl cl pr,sp r c,sp r' c']=.ok x:=λx e=>by
  unfold ay;rw [ar,if_pos rfl,st,Ea];simp only [aJ,g6,aQ,da,J,J2,a1,a2,a3,b1,b2,b3,e]
 by_cases hz:cl<cI aa r' c'-cI aa r c\/cl<cI aa r c-cI aa r' c'
 ·have:(if(r≠r'/\c≠c')/\¬(sl=true/\cy aa r c'=true/\cy aa r' c=true) then none else if cl<cI aa r' c'-cI aa r c\/cl<cI aa r c-cI aa r' c' then none else some ((if r≠r'/\c≠c' then 3 else 2)+pr*(if cI aa r' c'-cI aa r c>0 then cI aa r' c'-cI aa r c else 0)))=(none:Option Int):=by
   rw [if_pos hz];split<;>rfl
  rw [this];have hb:(decide (cl<cI aa r' c'-cI aa r c)||decide (cl<0-(cI aa r' c'-cI aa r c)))=true:=by
   rw [Bool.or_eq_true,zzN,zzN];omega
  refine go .az ?_;simp! only [OA,C5,hb]
 ·have hb:(decide (cl<cI aa r' c'-cI aa r c)||decide (cl<0-(cI aa r' c'-cI aa r c)))=false:=by
   rw [Bool.or_eq_false_iff,decide_eq_false_iff_not,decide_eq_false_iff_not];omega
  rw [if_neg hz];refine(go _ ((?_:_=_).trans e4)).trans ?_
  ·simp! only [OA,C5,hb]
  ·split<;>rfl
def o8(F:aO):Prop:=∀aa w,Fl aa w->∀sl cl pr,Wk cl pr->∀r c r' c',cy aa r c=true->cy aa r' c'=true->¬gk r c r' c'->F "_law_cost" [fl aa,wk sl cl pr,sp r c,sp r' c']=.ok (oP (cY aa sl cl pr r c r' c'))
noncomputable def J5(aa:List Str)(sl:Bool)(cl pr r c:Int)(i:Nat):Option (List Int×Int):=if i≠4/\cy aa (r-1+i/3) (c-1+i%3)=true then(cY aa sl cl pr r c (r-1+i/3) (c-1+i%3)).map λv=>([r-1+(i:Int)/3,c-1+(i:Int)%3],v) else none
noncomputable def Jd(aa:List Str)(sl:Bool)(cl pr r c:Int)(i:Nat):Option PV:=if i≠4/\cy aa (r-1+i/3) (c-1+i%3)=true then(cY aa sl cl pr r c (r-1+i/3) (c-1+i%3)).map λv=>tK ([r-1+(i:Int)/3,c-1+(i:Int)%3],v) else none
noncomputable def kC:E:=(.and (.ch .le .lt (.cst (.int 0)) (.var 5) (.blt .len (.cons (.var 0) .nil))) (.and (.ch .le .lt (.cst (.int 0)) (.var 6) (.blt .len (.cons (.sub (.var 0) (.cst (.int 0))) .nil))) (.and (.cmp .ne (.var 4) (.cst (.int 4))) (.cmp .ne (.sub (.sub (.var 0) (.var 5)) (.var 6)) (.cst (.str "#"))))))
noncomputable def kT:Ss:=(.cons (.set 7 (.call "_law_cost" (.cons (.var 0) (.cons (.var 1) (.cons (.var 2) (.cons (.tup (.cons (.var 5) (.cons (.var 6) .nil))) .nil))))))
 (.cons (.ite (.cmp .Aa (.var 7) (.cst .az))
  (.cons (.app 3 (.tup (.cons (.tup (.cons (.var 5) (.cons (.var 6) .nil))) (.cons (.var 7) .nil))))
  .nil)
  .nil)
 .nil))
noncomputable def kR:Ss:=(.cons (.ite kC kT .nil) .nil)
noncomputable def sC:Ss:=(.cons (.set 5 (.bin .add (.bin .sub (.sub (.var 2) (.cst (.int 0))) (.cst (.int 1))) (.bin .fdiv (.var 4) (.cst (.int 3)))))
 (.cons (.set 6 (.bin .add (.bin .sub (.sub (.var 2) (.cst (.int 1))) (.cst (.int 1))) (.bin .mod (.var 4) (.cst (.int 3))))) kR))
theorem Bz{t u:Bool}:(if t=true then Res.ok (PV.bl u) else Res.ok (PV.bl false))=Res.ok (PV.bl (t&&u)):=by cases t<;>rfl
theorem UH{aa:List Str}{w:Nat}(L:Fl aa w):∃z,aN (fl aa) (.int 0)=.ok (.str z)/\z.length=w/\z.length<=df:=by
 have hz:aa[0]?=some (aa[0]'L.ne):=zzg L.ne
 have hm:=zzD hz
 exact⟨_,AQ (j:=0) hz,L.FW _ hm,zzU (L.vd.2 _ hm) (by decide)⟩
theorem Nu(F:aO){aa:List Str}{w:Nat}(L:Fl aa w)(A B:PV)(i:Nat)(s3 s7:Ci.Slot)(r' c':Int):
 aQ F kC [.val (fl aa),.val A,.val B,s3,.val (.int i),.val (.int r'),.val (.int c'),s7]=.ok (.bl (decide (i≠4/\cy aa r' c'=true))):=by
 obtain⟨z0,f1,f2,f3⟩:=UH L
 have Uk:(z0.length:Int)=(w:Int):=by rw [f2]
 by_cases hA:0<=r'/\r'<aa.length
 ·by_cases hB:0<=c'/\c'<w
  ·obtain⟨z,g1,x,g2,g3⟩:=qD L hA.1 hA.2 hB.1 hB.2
   have e:decide (i≠4/\cy aa r' c'=true)=((!((i:Int)==4))&&cy aa r' c'):=by
    rw [Bool.eq_iff_iff,zza,zzN];simp;omega
   rw [e];simp! only [kC,hA.1,hA.2,hB.1,hB.2,f1,Uk,f3,decide_true,zzl,g1,g2,g3,uY,Bz,Bool.true_and]
  ·have e:decide (i≠4/\cy aa r' c'=true)=false:=decide_eq_false λz=>hB (ju L z.2).2.2
   have q:(decide (0<=c')&&decide (c'<(w:Int)))=false:=by
    rw [<-Bool.decide_and];exact decide_eq_false hB
   rw [e];simp! only [kC,hA.1,hA.2,f1,Uk,f3,decide_true,zzl,Bz,q,Bool.true_and,Bool.false_and]
 ·have e:decide (i≠4/\cy aa r' c'=true)=false:=decide_eq_false λz=>hA ⟨(ju L z.2).1,(ju L z.2).2.1⟩
  have q:(decide (0<=r')&&decide (r'<(aa.length:Int)))=false:=by
   rw [<-Bool.decide_and];exact decide_eq_false hA
  rw [e];simp! only [kC,zzl,Bz,q,Bool.true_and,Bool.false_and]
theorem Bk(F:aO)(hc:o8 F){aa:List Str}{w:Nat}(L:Fl aa w){sl:Bool}{cl pr:Int}(V:Wk cl pr){r c:Int}(h:cy aa r c=true)(i:Nat)(hi:i<9)(acc:List PV)(hT:acc.length<=100)(t4 t5 t6 t7:Ci.Slot):
 ∃(u:Ci.Slot),(((Tg.one 4).put (.int i) [.val (fl aa),.val (wk sl cl pr),.val (sp r c),.own (.lst acc),t4,t5,t6,t7]).bind λau=>aJ F sC au)=
  .ok (.nx [.val (fl aa),.val (wk sl cl pr),.val (sp r c),.own (.lst (acc++(Jd aa sl cl pr r c i).toList)),.val (.int i),.val (.int (r-1+i/3)),.val (.int (c-1+i%3)),u]):=by
 have q3:(0:Int)<3:=by decide
 have q4:(0:Int)<3/\(3:Int)<1073741824:=by decide
 have Vc:acc.length<df:=zzV hT (by decide)
 have kc:=Nu F L (wk sl cl pr) (sp r c) i (.own (.lst acc)) t7 (r-1+(i:Int)/3) (c-1+(i:Int)%3)
 have go:∀x,aJ F kR [.val (fl aa),.val (wk sl cl pr),.val (sp r c),.own (.lst acc),.val (.int i),.val (.int (r-1+i/3)),.val (.int (c-1+i%3)),t7]=x->(((Tg.one 4).put (.int i) [.val (fl aa),.val (wk sl cl pr),.val (sp r c),.own (.lst acc),t4,t5,t6,t7]).bind λau=>aJ F sC au)=x:=λx e=>by
  simp! only [sC,q3,q4,and_self,e]
 unfold Jd
 by_cases hq:i≠4/\cy aa (r-1+i/3) (c-1+i%3)=true
 ·rw [if_pos hq];rw [zzh hq] at kc;have nf:¬gk r c (r-1+i/3) (c-1+i%3):=by unfold gk;omega
  have e:=hc aa w L sl cl pr V r c _ _ h hq.2 nf
  cases hs:cY aa sl cl pr r c (r-1+i/3) (c-1+i%3) with
  |none=>
   rw [hs] at e;simp only [oP] at e;have e5:gM .az .az=.ok (.bl false):=rfl
   refine⟨.val .az,go _ ?_⟩;rw [kR,aJ,g6,kc];simp! only [kT,e,e5,Option.map_none,Option.toList_none,List.append_nil]
  |some v=>
   rw [hs] at e;simp only [oP] at e;have e5:gM (.int v) .az=.ok (.bl true):=rfl
   refine⟨.val (.int v),go _ ?_⟩;rw [kR,aJ,g6,kc];simp! only [kT,e,e5,Vc,Option.map_some,Option.toList_some]
   rfl
 ·rw [if_neg hq];rw [decide_eq_false hq] at kc;refine⟨t7,go _ ?_⟩;rw [kR,aJ,g6,kc];simp! only [Option.toList_none,List.append_nil]
theorem J4(aa:List Str)(sl:Bool)(cl pr r c:Int)(i:Nat):Jd aa sl cl pr r c i=(J5 aa sl cl pr r c i).map tK:=by
 unfold Jd J5;split
 ·rw [Option.map_map];rfl
 ·rfl
theorem wj{α β:Type}(f:α->Option β):∀l:List α,(l.flatMap λa=>(f a).toList)=l.filterMap f
 |[]=>rfl
 |a::l=>by
  rw [List.flatMap_cons,wj f l,List.filterMap_cons];cases f a<;>rfl
def oB(f:List PV->Res PV):Prop:=∀aa w,Fl aa w->∀sl cl pr,Wk cl pr->∀r c,cy aa r c=true->∃T:List (List Int×Int),f [fl aa,wk sl cl pr,ah [r,c]]=.ok (.lst (T.map tK))/\T.length<=9/\(T.Pairwise λa b=>a.1≠b.1)/\∀v e,(v,e)∈T↔E1 aa sl cl pr [r,c] v e
def dO(F:aO):Prop:=oB (F "_law_steps")
theorem y8(F:aO)(hc:o8 F):oB (ay F bE):=by
 intro aa w L sl cl pr V r c h;refine⟨(List.range 9).filterMap (J5 aa sl cl pr r c),?_,zzU (List.length_filterMap_le _ _) (by simp),?_,λv e=>?_⟩
 ·obtain⟨s',e⟩:=gF (body:=λx env=>((Tg.one 4).put x env).bind λau=>aJ F sC au) (g:=λi:Nat=>PV.int (i:Int)) (mk:=λacc (s:Ci.Slot×Ci.Slot×Ci.Slot×Ci.Slot)=>[.val (fl aa),.val (wk sl cl pr),.val (sp r c),.own (.lst acc),s.1,s.2.1,s.2.2.1,s.2.2.2]) (app:=λi=>(Jd aa sl cl pr r c i).toList) (m:=1) (M:=50) (List.range 9) [] (.no,.no,.no,.no) (λi _=>by cases Jd aa sl cl pr r c i<;>simp) (λi hi acc s hl=>by
   obtain⟨u,e⟩:=Bk F hc L V h i (List.mem_range.1 hi) acc (by omega) s.1 s.2.1 s.2.2.1 s.2.2.2
   exact⟨(_,_,_,u),e⟩) (by decide)
  have k:ah [r,c]=sp r c:=rfl
  have s:aY 9=true:=by decide
  have rg:eN 0 (9:Int).toNat=(List.range 9).map λi:Nat=>PV.int (i:Int):=by
   unfold eN;refine List.map_congr_left λi _=>?_
   rw [Int.zero_add]
  have fm:((List.range 9).flatMap λi=>(Jd aa sl cl pr r c i).toList)=((List.range 9).filterMap (J5 aa sl cl pr r c)).map tK:=by
   rw [wj,List.map_filterMap]
   congr 1
   funext i
   exact J4 ..
  rw [fm,<-rg] at e;have db:bE.body=.cons (.own 3 (.lst .nil)) (.cons (.dc (.one 4) (.rn (.cst (.int 9))) sC) (.cons (.bK 3) (.cons (.ret (.var 3)) .nil))):=rfl
  have st:cu bE [fl aa,wk sl cl pr,sp r c]=[.val (fl aa),.val (wk sl cl pr),.val (sp r c),.no,.no,.no,.no,.no]:=rfl
  have ar:cm bE [fl aa,wk sl cl pr,sp r c]=true:=rfl
  rw [k];unfold ay;rw [ar,if_pos rfl,st,db];simp! only [s] at e⊢;simp! only [e,El]
 ·refine List.Pairwise.filterMap (S:=λa b:List Int×Int=>a.1≠b.1) (R:=λi j:Nat=>i≠j) _ (λi j xy a ha b hb Pf=>xy ?_) (List.nodup_range (n:=9));unfold J5 at ha hb;split at ha
  ·split at hb
   ·obtain⟨_,_,rfl⟩:=zzJ.1 ha
    obtain⟨_,_,rfl⟩:=zzJ.1 hb
    simp only [List.cons.injEq,and_true] at Pf;omega
   ·cases hb
  ·cases ha
 ·rw [List.mem_filterMap]
  constructor
  ·rintro ⟨i,hi,g⟩
   unfold J5 at g;split at g
   ·rename_i hh;obtain⟨x,hx,g⟩:=zzJ.1 g
    cases g;exact⟨r,c,_,_,rfl,rfl,h,hh.2,hx⟩
   ·cases g
  ·rintro ⟨a,b,r',c',g1,rfl,_,ho,hs⟩
   cases g1;have nf:=(fI.1 hs).1
   unfold gk at nf;refine⟨(3*(r'-r+1)+(c'-c+1)).toNat,List.mem_range.2 (by omega),?_⟩;have e1:r-1+((3*(r'-r+1)+(c'-c+1)).toNat:Int)/3=r':=by omega
   have e2:c-1+((3*(r'-r+1)+(c'-c+1)).toNat:Int)%3=c':=by omega
   unfold J5;rw [e1,e2,if_pos ⟨by omega,ho⟩,hs]
   rfl
def pR(f:List PV->Res PV):Prop:=∀aa w,Fl aa w->∀sl cl pr,Wk cl pr->∀r c,cy aa r c=true->∃kr Vr S,f [fl aa,wk sl cl pr,sp r c]=.ok (.lst (S.map λk=>tK (k,cst kr Vr k)))/\DF (Et aa sl cl pr) [r,c] kr Vr/\S.length<=36/\(∀k,k∈S↔k∈kr)/\xl S
theorem yP(F:aO)(hs:∀aa w,Fl aa w->∀sl cl pr,Wk cl pr->∀r c,cy aa r c=true->∃kr Vr,F "spread_to" [fl aa,wk sl cl pr,.lst [sp r c]]=.ok (.aX kr (Vr.map val))/\DF (Et aa sl cl pr) [r,c] kr Vr)
 (hr:∀E s kr Vr,DF E s kr Vr->(∀k∈kr,k≠[])->∃S:Ks,F "rising_costs" [.aX kr (Vr.map val)]=.ok (.lst (S.map λk=>tK (k,cst kr Vr k)))/\S.length<=36/\(∀k,k∈S↔k∈kr)/\xl S):pR (ay F cB):=by
 intro aa w L sl cl pr V r c h;obtain⟨kr,Vr,e,R⟩:=hs aa w L sl cl pr V r c h
 obtain⟨S,e2,hl,hm,hS⟩:=hr _ _ _ _ R λk hk=>by
  have:(av kr Vr k).isSome=true:=by rw [<-bB k R.len];exact cD.2 hk
  obtain⟨q,hq⟩:=Option.isSome_iff_exists.1 this
  have:=(R.CB k q hq).1
  rintro rfl
  cases this
 exact⟨kr,Vr,S,by simp! only [cB,e,e2],R,hl,hm,hS⟩
theorem qc:(!((2:Nat):Int)==2)=false:=rfl
section
variable{aa:List Str}
theorem Br(F:aO)(ho:jX F)(hw:∀i,F "is_whole" [.int i]=.ok (.bl true))(R:mD aa){k:List Int}(hk:fu aa k)(n:Int):ay F bS [fl aa,tK (k,n)]=.ok (.bl (decide (0<=n))):=by
 obtain⟨r,c,rfl,h⟩:=hk
 have e:=ho aa R r c
 rw [h] at e;have t0:aN (tK ([r,c],n)) (.int 0)=.ok (sp r c):=rfl
 have t1:aN (tK ([r,c],n)) (.int 1)=.ok (.int n):=rfl
 simp! only [bS,qc,t0,t1,e,hw n,Rk,Qw]
theorem xN(F:aO):ay F bS [fl aa,.az]=.ok (.bl false):=rfl
theorem xP(F:aO)(xs:List PV):ay F bS [fl aa,.lst xs]=.ok (.bl false):=rfl
theorem A6(F:aO)(ho:jX F)(hw:∀b,F "is_whole" [.bl b]=.ok (.bl false))(R:mD aa){k:List Int}(hk:fu aa k)(b:Bool):ay F bS [fl aa,.tup [ah k,.bl b]]=.ok (.bl false):=by
 obtain⟨r,c,rfl,h⟩:=hk
 have e:=ho aa R r c
 rw [h] at e;have t0:aN (.tup [ah [r,c],.bl b]) (.int 0)=.ok (sp r c):=rfl
 have t1:aN (.tup [ah [r,c],.bl b]) (.int 1)=.ok (.bl b):=rfl
 simp! only [bS,qc,t0,t1,e,hw b]
def Nz(F:aO)(aa:List Str)(b:PV->Bool)(xs:List PV):Prop:=∀p∈xs,F "is_entry" [fl aa,p]=.ok (.bl (b p))
theorem kJ{α:Type}(f:α->Bool):∀l:List α,boolsOf (l.map λa=>.bl (f a))=some (l.map f)
 |[]=>rfl
 |a::l=>by simp only [zzF,boolsOf,kJ f l,Option.map_some]
theorem all_map{α:Type}(f:α->Bool)(l:List α):cR .all [.lst (l.map λa=>.bl (f a))]=.ok (.bl (l.all f)):=by
 show(Res.of (boolsOf _)).bind _=_
 rw [kJ];show Res.ok (PV.bl ((l.map f).all id))=_
 rw [List.all_map]
 rfl
theorem Su(a b:List Int):qw (ah a) (ah b)=.ok (.bl (HT.lexLt a b)):=by
 show(Res.of (intsOf _)).bind _=_
 rw [fG];show(Res.of (intsOf _)).bind _=_
 rw [fG]
 rfl
def Ab:Ks->Bool
 |a::b::r=>HT.lexLt a b&&Ab (b::r)
 |_=>true
def Gn(T:List (List Int×Int)):Bool:=T.all λt=>decide (0<=t.2)
theorem jh:∀{l:Ks},Ab l=true↔xl l
 |[]=>⟨λ_=>.nil,λ_=>rfl⟩
 |[a]=>⟨λ_=>List.pairwise_singleton ..,λ_=>rfl⟩
 |a::b::r=>by
  rw [Ab,zza,jh (l:=b::r)]
  constructor
  ·rintro ⟨h1,h2⟩
   refine List.pairwise_cons.2 ⟨λx hx=>?_,h2⟩
   rcases List.mem_cons.1 hx with rfl|hx
   ·exact h1
   ·exact m6 h1 ((List.pairwise_cons.1 h2).1 x hx)
  ·intro h;exact⟨(List.pairwise_cons.1 h).1 b (.head _),(List.pairwise_cons.1 h).2⟩
theorem Ay:∀T:List (List Int×Int),iV (T.map tK) ((T.map tK).drop 1)=(T.zip (T.drop 1)).map λq=>.tup [tK q.1,tK q.2]
 |[]=>rfl
 |[a]=>rfl
 |a::b::r=>by
  have:=Ay (b::r)
  simp only [zzF,List.drop_succ_cons,List.drop_zero,List.zip_cons_cons,iV] at this⊢;rw [this]
theorem xb:∀T:List (List Int×Int),((T.zip (T.drop 1)).all λq=>HT.lexLt q.1.1 q.2.1)=Ab (T.map (·.1))
 |[]=>rfl
 |[a]=>rfl
 |a::b::r=>by
  have:=xb (b::r)
  simp only [List.drop_succ_cons,List.drop_zero,List.zip_cons_cons,List.all_cons,zzF,Ab] at this⊢;rw [this]
theorem QY{α:Type}(xs:List α):ng xs (some 1) none=xs.drop 1:=by
 cases xs with
 |nil=>rfl
 |cons a xs=>exact Af (a::xs) (k:=1) (by simp)
theorem AU(F:aO){xs:List PV}{b:PV->Bool}(hE:Nz F aa b xs)(hl:xs.length<df)(h:xs.all b=false):ay F aD [fl aa,.lst xs]=.ok (.bl false):=by
 simp! only [aD,hl];rw [show xs=xs.map id by simp,bL (p:=id) (g:=λp=>.bl (b p)) (λp hp=>by
  have e:=hE p hp
  simp! only [id,e])]
 have:=all_map b xs
 rw [h] at this;simp! only [this]
theorem wW(F:aO){T:List (List Int×Int)}(hE:∀t∈T,F "is_entry" [fl aa,tK t]=.ok (.bl (decide (0<=t.2))))(hl:T.length<df):ay F aD [fl aa,.lst (T.map tK)]=.ok (.bl (Gn T&&Ab (T.map (·.1)))):=by
 simp! only [aD,zzl,hl];rw [bL (p:=tK) (g:=λt=>.bl (decide (0<=t.2))) (λt ht=>by
  have e:=hE t ht
  simp! only [e])]
 have e1:=all_map (λt:List Int×Int=>decide (0<=t.2)) T
 have hz:(T.zip (T.drop 1)).length<df:=by
  rw [List.length_zip];omega
 cases hn:Gn T with
 |false=>
  have:(T.all λt=>decide (0<=t.2))=false:=hn
  rw [this] at e1;simp! only [e1,Bool.false_and]
 |true=>
  have:(T.all λt=>decide (0<=t.2))=true:=hn
  rw [this] at e1;have es:eX (.lst (T.map tK)) (some 1) none=.ok (.lst ((T.map tK).drop 1)):=by
   show Res.ok (PV.lst (ng _ _ _))=_
   rw [QY]
  simp! only [e1,es,Ay,zzl,hz];rw [bL (p:=λq:(List Int×Int)×(List Int×Int)=>.tup [tK q.1,tK q.2]) (g:=λq=>.bl (HT.lexLt q.1.1 q.2.1)) (λq hq=>by
   have t0:∀t:List Int×Int,aN (tK t) (.int 0)=.ok (ah t.1):=λt=>rfl
   simp! only [t0,Su])]
  have e2:=all_map (λq:(List Int×Int)×(List Int×Int)=>HT.lexLt q.1.1 q.2.1) (T.zip (T.drop 1))
  rw [xb] at e2;simp! only [e2,Bool.true_and]
end
noncomputable def eC(P:Prop):Bool:=@decide P (Classical.propDecidable P)
theorem qu{P:Prop}(h:P):eC P=true:=@decide_eq_true P (Classical.propDecidable P) h
theorem iC{P:Prop}(h:¬P):eC P=false:=@decide_eq_false P (Classical.propDecidable P) h
theorem mJ{P:Prop}:eC P=true↔P:=⟨(λh=>Classical.byContradiction λz=>by rw [iC z] at h;cases h),qu⟩
theorem iU{b:Bool}{P:Prop}(h:b=true↔P):b=eC P:=by
 rw [Bool.eq_iff_iff,mJ];exact h
theorem gV{α σ:Type}{body:PV->Sl->Res Ci.Fl}{g:α->PV}{mk:σ->Sl}{t:α->Bool}{p:PV}:∀(l:List α) (s:σ),(∀a∈l,∀s,(t a=true->∃s',body (g a) (mk s)=.ok (.nx (mk s')))/\(t a=false->body (g a) (mk s)=.ok (.rt p)))->(l.all t=true->∃s',forL body (l.map g) (mk s)=.ok (.nx (mk s')))/\(l.all t=false->forL body (l.map g) (mk s)=.ok (.rt p))
 |[],s,_=>⟨λ_=>⟨s,rfl⟩,λh=>by cases h⟩
 |a::l,s,h=>by
  have h1:=h a (zzP ..) s
  rw [List.all_cons];cases ha:t a with
  |false=>
   refine⟨(λz=>by cases z),λ_=>?_⟩
   simp only [zzF,forL,h1.2 ha,qV]
  |true=>
   obtain⟨s',e⟩:=h1.1 ha
   have h2:=gV l s' λb hb=>h b (zzI _ hb)
   rw [Bool.true_and];refine⟨λz=>?_,λz=>?_⟩
   ·obtain⟨s2,e2⟩:=h2.1 z
    exact⟨s2,by simp only [zzF,forL,e,qV,e2]⟩
   ·simp only [zzF,forL,e,qV,h2.2 z]
abbrev kk(T:List (List Int×Int)):Ks:=T.map (·.1)
abbrev bD(T:List (List Int×Int)):PV:=.aX (kk T) ((T.map (·.2)).map .int)
def bv(T:List (List Int×Int))(k:List Int):Option Int:=av (kk T) (T.map (·.2)) k
theorem j4(T:List (List Int×Int))(k:List Int):bO (kk T) k=(bv T k).isSome:=bB k (by simp)
theorem j8{T:List (List Int×Int)}{k:List Int}{n:Int}(h:bv T k=some n):aN (bD T) (ah k)=.ok (.int n):=by
 show(Res.of (fy (ah k))).bind (λk=>Res.of (av _ _ k))=_
 rw [dg];show Res.of (av _ _ k)=_
 rw [gC,show av (kk T) (T.map (·.2)) k=some n from h]
 rfl
theorem inD{ks:Ks}{vs:List PV}{k:List Int}:uP (ah k) (.aX ks vs)=.ok (.bl (bO ks k)):=by
 show(Res.of (fy (ah k))).bind _=_
 rw [dg]
 rfl
theorem mi{T:List (List Int×Int)}(nd:(kk T).Nodup){k:List Int}{n:Int}:bv T k=some n↔(k,n)∈T:=by
 induction T with
 |nil=>exact⟨(λh=>by cases h),λh=>by cases h⟩
 |cons t T ih=>
  obtain⟨k',n'⟩:=t
  have NY:k'∉kk T/\(kk T).Nodup:=List.nodup_cons.1 nd
  show(if k'=k then some n' else bv T k)=some n↔_
  rw [List.mem_cons,Prod.mk.injEq]
  by_cases hk:k'=k
  ·rw [if_pos hk,Option.some.injEq];refine⟨λh=>.inl ⟨hk.symm,h.symm⟩,λh=>h.elim (λz=>z.2.symm) λz=>absurd (List.mem_map.2 ⟨_,z,rfl⟩) (hk▸NY.1)⟩
  ·rw [if_neg hk,ih NY.2];exact⟨.inr,λh=>h.resolve_left λz=>hk z.1.symm⟩
theorem ke{α:Type}:∀(ps:List (List Int×α)) (ks:Ks) (vs:List α),(ks++ps.map (·.1)).Nodup->dA ps ks vs=(ks++ps.map (·.1),vs++ps.map (·.2))
 |[],ks,vs,_=>by simp [dA]
 |p::ps,ks,vs,h=>by
  have hn:bO ks p.1=false:=by
   cases hx:bO ks p.1 with
   |false=>rfl
   |true=>
    have:=(List.nodup_append.1 h).2.2 _ (cD.1 hx) p.1 (by simp)
    exact absurd rfl this
  have hm:=ke ps (ks++[p.1]) (vs++[p.2]) (by rw [List.append_assoc];exact h)
  rw [dA,bf,bj,hn,if_neg (by simp),if_neg (by simp),hm,List.append_assoc,List.append_assoc]
  rfl
theorem G6:∀T:List (List Int×Int),nL (T.map tK)=some (T.map λt=>(t.1,.int t.2))
 |[]=>rfl
 |t::T=>by
  show(fy (ah t.1)).bind (λk=>(nL (T.map tK)).map ((k,PV.int t.2)::·))=_
  rw [dg,G6 T]
  rfl
theorem xm{T:List (List Int×Int)}(nd:(kk T).Nodup):ir [.lst (T.map tK)]=.ok (bD T):=by
 show(Res.of (nL (T.map tK))).bind _=_
 rw [G6];show Res.ok (PV.aX (dA (T.map λt=>(t.1,PV.int t.2)) [] []).1 (dA (T.map λt=>(t.1,PV.int t.2)) [] []).2)=_
 rw [ke _ _ _ (by simpa [Function.comp_def] using nd)];simp [Function.comp_def]
theorem RN{i:Nat}{ks:Ks}{vs:List PV}:yr (.var i) (.aX ks vs)=.ok (ks.map ah):=rfl
section
variable{aa:List Str}{w:Nat}{sl:Bool}{cl pr:Int}
def Jq:Ss:=(.cons (.ite (.or (.cmp .lV (.var 4) (.var 2)) (.cmp .gt (.sub (.var 2) (.var 4)) (.bin .add (.var 5) (.sub (.var 2) (.var 3)))))
 (.cons (.ret (.cst (.bl false)))
 .nil)
 .nil)
 .nil)
def Hj(T:List (List Int×Int))(n:Int)(t:List Int×Int):Bool:=match bv T t.1 with
 |some m=>decide (m<=t.2+n)
 |none=>false
theorem G7{T:List (List Int×Int)}{n:Int}{t:List Int×Int}:Hj T n t=true↔∃m,bv T t.1=some m/\m<=t.2+n:=by
 unfold Hj;cases bv T t.1<;>simp
abbrev GL(A B:PV)(T:List (List Int×Int))(u:List Int)(s:Ci.Slot×Ci.Slot):Sl:=[.val A,.val B,.val (bD T),.val (ah u),s.1,s.2]
theorem J0(F:aO)(A B:PV){T:List (List Int×Int)}{u:List Int}{n:Int}(hu:bv T u=some n)(t:List Int×Int)(s:Ci.Slot×Ci.Slot):
 (Hj T n t=true->∃s',(((Tg.two 4 5).put (tK t) (GL A B T u s)).bind λau=>aJ F Jq au)=.ok (.nx (GL A B T u s')))/\(Hj T n t=false->(((Tg.two 4 5).put (tK t) (GL A B T u s)).bind λau=>aJ F Jq au)=.ok (.rt (.bl false))):=by
 have e1:=j8 hu
 have g:=j4 T t.1
 unfold Hj;cases hv:bv T t.1 with
 |none=>
  rw [hv] at g;have g':bO (kk T) t.1=false:=g
  refine⟨(λz=>by cases z),λ_=>?_⟩
  simp! only [Jq,GL,gB,g']
 |some m=>
  rw [hv] at g;have g':bO (kk T) t.1=true:=g
  have e2:=j8 hv
  refine⟨λz=>⟨(.val (ah t.1),.val (.int t.2)),?_⟩,λz=>?_⟩
  ·have:¬(t.2+n<m):=by have:=zzY z;omega
   simp! only [Jq,GL,gB,g',e1,e2,this,decide_false]
  ·have:t.2+n<m:=by have:=of_decide_eq_false z;omega
   simp! only [Jq,GL,gB,g',e1,e2,this,decide_true]
def Kp(aa:List Str)(sl:Bool)(cl pr:Int)(T:List (List Int×Int))(v:List Int):Prop:=∀n,bv T v=some n->∀u e,E1 aa sl cl pr u v e->∃m,bv T u=some m/\m<=e+n
def pC(f:List PV->Res PV):Prop:=∀aa w,Fl aa w->∀sl cl pr,Wk cl pr->∀T v n,fu aa v->bv T v=some n->f [fl aa,wk sl cl pr,bD T,ah v]=.ok (.bl (eC (Kp aa sl cl pr T v)))
theorem Ca(F:aO)(hs:lG F):pC (ay F bg):=by
 intro aa w L sl cl pr V T v n ho hv;obtain⟨r,c,rfl,ho⟩:=ho
 obtain⟨S,e,hl,hS⟩:=hs aa w L sl cl pr V r c ho
 have hf:=gV (body:=λx env=>((Tg.two 4 5).put x env).bind λau=>aJ F Jq au) (g:=tK) (mk:=GL (fl aa) (wk sl cl pr) T [r,c]) (t:=Hj T n) (p:=.bl false) S (.no,.no) λa _ s=>J0 F _ _ hv a s
 have hb:S.all (Hj T n)=eC (Kp aa sl cl pr T [r,c]):=iU (by
  rw [zzT]
  constructor
  ·intro h n' hn u e he;rw [hv] at hn;cases hn;exact G7.1 (h (u,e) ((hS u e).2 he))
  ·intro h t ht;exact G7.2 (h n hv t.1 t.2 ((hS t.1 t.2).1 ht)))
 have db:bg.body=.cons (.dc (.two 4 5) (.seq (.call "steps_to" (.cons (.var 0) (.cons (.var 1) (.cons (.var 3) .nil))))) Jq) (.cons (.ret (.cst (.bl true))) .nil):=rfl
 have st:cu bg [fl aa,wk sl cl pr,bD T,ah [r,c]]=GL (fl aa) (wk sl cl pr) T [r,c] (.no,.no):=rfl
 have ar:cm bg [fl aa,wk sl cl pr,bD T,ah [r,c]]=true:=rfl
 unfold ay;rw [ar,if_pos rfl,st,db,<-hb];cases hx:S.all (Hj T n) with
 |true=>
  obtain⟨s',e2⟩:=hf.1 hx
  simp! only [e] at e2⊢;simp! only [e2]
 |false=>
  have e2:=hf.2 hx
  simp! only [e] at e2⊢;simp! only [e2]
def FF(aa:List Str)(sl:Bool)(cl pr:Int)(g:List Int)(T:List (List Int×Int)):Prop:=Gn T=true/\xl (kk T)/\bv T g=some 0/\∀v,Kp aa sl cl pr T v
def HA(F:aO):Prop:=∀aa,mD aa->∀T:List (List Int×Int),T.length<df->(∀t∈T,fu aa t.1)->F "has_rising_entries" [fl aa,.lst (T.map tK)]=.ok (.bl (Gn T&&Ab (kk T)))
def vC(f:List PV->Res PV):Prop:=∀aa w,Fl aa w->∀sl cl pr,Wk cl pr->∀g T,T.length<df->(∀t∈T,fu aa t.1)->f [fl aa,wk sl cl pr,ah g,.lst (T.map tK)]=.ok (.bl (eC (FF aa sl cl pr g T)))
theorem sO(F:aO)(hr:HA F)(hk:pC (F "keeps_steps_to")):vC (ay F bM):=by
 intro aa w L sl cl pr V g T hl ho;have e1:=hr aa L.vd T hl ho
 cases h1:Gn T&&Ab (kk T) with
 |false=>
  rw [h1] at e1;rw [iC λz=>by rw [z.1,jh.2 z.2.1] at h1;cases h1]
  simp! only [bM,e1]
 |true=>
  rw [h1] at e1;rw [zza] at h1;have hS:=jh.1 h1.2
  have e2:cR .dict [.lst (T.map tK)]=.ok (bD T):=xm hS.nodup
  have hg:=j4 T g
  cases hv:bv T g with
  |none=>
   rw [hv] at hg;have mS:bO (kk T) g=false:=hg
   rw [iC λz=>by have:=z.2.2.1;rw [hv] at this;cases this]
   simp! only [bM,e1,e2,gB,mS]
  |some n=>
   rw [hv] at hg;have mS:bO (kk T) g=true:=hg
   have e3:=j8 hv
   cases hn:n==0 with
   |false=>
    rw [iC λz=>by have:=z.2.2.1;rw [hv] at this;cases this;cases hn]
    simp! only [bM,e1,e2,gB,mS,e3,nI,hn]
   |true=>
    have h0:n=0:=by simpa using hn
    have lk:((kk T).map ah).length<df:=by simpa using hl
    simp! only [bM,e1,e2,gB,mS,e3,nI,hn,RN,lk];rw [bL (p:=ah) (g:=λk=>.bl (eC (Kp aa sl cl pr T k))) (λk UP=>by
     obtain⟨t,ht,rfl⟩:=List.mem_map.1 UP
     have e4:=hk aa w L sl cl pr V T t.1 t.2 (ho t ht) ((mi hS.nodup).2 ht)
     simp! only [e4])]
    have e5:=all_map (λk=>eC (Kp aa sl cl pr T k)) (kk T)
    have e6:(kk T).all (λk=>eC (Kp aa sl cl pr T k))=eC (FF aa sl cl pr g T):=iU (by
     rw [zzT]
     constructor
     ·intro h;refine⟨h1.1,hS,by rw [hv,h0],λv n' OE=>?_⟩
      have:=mJ.1 (h v (cD.1 (by rw [j4,OE];rfl)))
      exact this n' OE
     ·intro h k _;exact qu (h.2.2.2 k))
    rw [e6] at e5;simp! only [e5]
end
theorem iF{α:Type}{f:PV->Res (Option PV)}{p q:α->PV}{g:α->Bool}:∀{xs:List α},(∀x∈xs,f (p x)=.ok (if g x then some (q x) else none))->bo f (xs.map p)=.ok ((xs.filter g).map q)
 |[],_=>rfl
 |x::xs,h=>by
  have h1:=h x (zzP ..)
  have h2:=iF (xs:=xs) λy hy=>h y (zzI _ hy)
  simp only [zzF,bo,h1,L0,qV,h2];cases hg:g x<;>simp [List.filter_cons,hg,oc]
abbrev Ny(p:PV):Prop:=Ci.plain 8 p=true
theorem ne_nil{ys:List PV}(h:∀y∈ys,Ny y):iT (.lst ys) (.lst [])=.ok (.bl (!ys.isEmpty)):=by
 show(if(ys.all (Ci.plain 8)&&true)=true then Res.ok (PV.bl (!eqs (iS 8) ys [])) else .bad)=_
 rw [zzT.2 h];cases ys<;>rfl
theorem xf(t:List Int×Int)(n:Nat):Ci.plain (n+2) (tK t)=true:=by
 show(Ci.plain (n+1) (ah t.1)&&(Ci.plain (n+1) (.int t.2)&&true))=true
 rw [mH]
 rfl
theorem Hf(a b:List Int×Int):iS 9 (tK a) (tK b)=decide (a=b):=by
 show(iS 8 (ah a.1) (ah b.1)&&((a.2==b.2)&&true))=_
 rw [pH,Bool.and_true];obtain⟨a1,a2⟩:=a
 obtain⟨b1,b2⟩:=b
 rw [Bool.eq_iff_iff];simp
theorem KC(a:List Int×Int)(T:List (List Int×Int)):jc (tK a) (.lst (T.map tK))=.ok (.bl (!decide (a∈T))):=by
 show(if(Ci.plain 9 (tK a)&&(T.map tK).all (Ci.plain 9))=true then Res.ok (PV.bl (!ux (tK a) (T.map tK))) else .bad)=_
 have h:(T.map tK).all (Ci.plain 9)=true:=by
  rw [List.all_map,zzT];exact λt _=>xf t 7
 have hm:ux (tK a) (T.map tK)=decide (a∈T):=by
  unfold ux;rw [List.any_map,Bool.eq_iff_iff,zzj,zzN]
  constructor
  ·rintro ⟨x,hx,e⟩
   have:decide (x=a)=true:=(Hf x a).symm.trans e
   exact zzY this▸hx
  ·intro h;exact⟨a,h,(Hf a a).trans (zzh rfl)⟩
 rw [xf a 7,h,hm]
 rfl
theorem qG{α:Type}(t:α->Bool)(l:List α):(l.filter λa=>!t a).isEmpty=l.all t:=by
 rw [Bool.eq_iff_iff,List.isEmpty_iff,List.filter_eq_nil_iff,zzT];simp
theorem AM:∀K:Ks,((List.range (K.length-1)).all λi=>HT.lexLt (K.getD i []) (K.getD (i+1) []))=Ab K
 |[]=>rfl
 |[a]=>rfl
 |a::b::r=>by
  have:=AM (b::r)
  simp only [zzL,Nat.add_sub_cancel] at this⊢;rw [List.range_succ_eq_map,List.all_cons,List.all_map,Ab,<-this]
  rfl
section
theorem yG(F:aO){S:Ks}{t:List Int×Int}(h:t.1∈S):ay F aM [.lst (S.map ah),tK t]=.ok (.bl (decide (0<=t.2))):=by
 have t0:aN (tK t) (.int 0)=.ok (ah t.1):=rfl
 have t1:aN (tK t) (.int 1)=.ok (.int t.2):=rfl
 have e:=Nl t.1 S
 rw [zzh h] at e;simp! only [aM,qc,t0,t1,e]
theorem xJ(F:aO){S:Ks}{k:List Int}(h:k∈S)(b:Bool):ay F aM [.lst (S.map ah),.tup [ah k,.bl b]]=.ok (.bl false):=by
 have t0:aN (.tup [ah k,.bl b]) (.int 0)=.ok (ah k):=rfl
 have t1:aN (.tup [ah k,.bl b]) (.int 1)=.ok (.bl b):=rfl
 have e:=Nl k S
 rw [zzh h] at e;simp! only [aM,qc,t0,t1,e]
theorem uI(F:aO)(A:PV):ay F aM [A,.az]=.ok (.bl false):=rfl
theorem vx(F:aO)(A:PV)(xs:List PV):ay F aM [A,.lst xs]=.ok (.bl false):=rfl
end
def zy(f:List PV->Res PV):Prop:=∀aa,mD aa->∃S:Ks,f [fl aa]=.ok (.lst (S.map ah))/\S.length<=36/\xl S/\∀k,k∈S↔fu aa k
theorem HV{F:aO}(h:DR F):zy (F "_law_spots"):=by
 intro aa R;obtain⟨L,e,hu,hl,hm⟩:=h aa R
 refine⟨L.map kN,?_,by simpa using hl,?_,λk=>?_⟩
 ·rw [e,List.map_map]
  rfl
 ·exact List.pairwise_map.2 hu
 ·rw [List.mem_map]
  constructor
  ·rintro ⟨p,hp,rfl⟩
   have:=(hm p.1 p.2).1 hp
   exact⟨_,_,rfl,qv.2 ⟨by omega,by omega,this⟩⟩
  ·rintro ⟨r,c,rfl,h⟩
   obtain⟨a,b,d⟩:=qv.1 h
   refine⟨(r.toNat,c.toNat),(hm _ _).2 d,?_⟩;show [(r.toNat:Int),(c.toNat:Int)]=[r,c]
   rw [Int.toNat_of_nonneg a,Int.toNat_of_nonneg b]
section
variable{aa:List Str}{w:Nat}{sl:Bool}{cl pr:Int}
noncomputable def Hm:Ss:=(.cons (.ite (.and (.cmp .Bj (.var 8) (.var 6)) (.or (.cmp .lV (.var 7) (.var 6)) (.cmp .gt (.sub (.var 6) (.var 7)) (.bin .add (.var 9) (.sub (.var 6) (.var 8))))))
 (.cons (.ret (.cst (.bl false)))
 .nil)
 .nil)
 .nil)
noncomputable def LB:Ss:=(.cons (.dc (.two 8 9) (.seq (.call "_law_steps" (.cons (.var 0) (.cons (.var 1) (.cons (.var 7) .nil))))) Hm) .nil)
noncomputable def OT:Ss:=(.cons (.dc (.one 7) (.seq (.var 4)) LB) (.cons (.ret (.cst (.bl true))) .nil))
def Ki(T:List (List Int×Int))(u:List Int)(t:List Int×Int):Bool:=match bv T t.1,bv T u with
 |some n,some m=>decide (m<=t.2+n)
 |some _,none=>false
 |none,_=>true
theorem Gy{T:List (List Int×Int)}{u:List Int}{t:List Int×Int}:Ki T u t=true↔∀n,bv T t.1=some n->∃m,bv T u=some m/\m<=t.2+n:=by
 unfold Ki;cases bv T t.1<;>cases bv T u<;>simp
abbrev rq(A B C D S N:PV)(T:List (List Int×Int))(s:Ci.Slot×Ci.Slot×Ci.Slot):Sl:=[.val A,.val B,.val C,.val D,.val S,.val N,.val (bD T),s.1,s.2.1,s.2.2]
theorem Ll(F:aO)(A B C D S N:PV){T:List (List Int×Int)}(u:List Int)(t:List Int×Int)(s:Ci.Slot×Ci.Slot):
 (Ki T u t=true->∃s',(((Tg.two 8 9).put (tK t) (rq A B C D S N T (.val (ah u),s))).bind λau=>aJ F Hm au)=.ok (.nx (rq A B C D S N T (.val (ah u),s'))))/\(Ki T u t=false->(((Tg.two 8 9).put (tK t) (rq A B C D S N T (.val (ah u),s))).bind λau=>aJ F Hm au)=.ok (.rt (.bl false))):=by
 have g1:=j4 T t.1
 have g2:=j4 T u
 unfold Ki;cases hv:bv T t.1 with
 |none=>
  rw [hv] at g1;have g':bO (kk T) t.1=false:=g1
  refine⟨λ_=>⟨(.val (ah t.1),.val (.int t.2)),?_⟩,(λz=>by cases z)⟩
  simp! only [Hm,rq,inD,g']
 |some n=>
  rw [hv] at g1;have g':bO (kk T) t.1=true:=g1
  have e1:=j8 hv
  cases hu:bv T u with
  |none=>
   rw [hu] at g2;have g3:bO (kk T) u=false:=g2
   refine⟨(λz=>by cases z),λ_=>?_⟩
   simp! only [Hm,rq,inD,gB,g',g3]
  |some m=>
   rw [hu] at g2;have g3:bO (kk T) u=true:=g2
   have e2:=j8 hu
   refine⟨λz=>⟨(.val (ah t.1),.val (.int t.2)),?_⟩,λz=>?_⟩
   ·have:¬(t.2+n<m):=by have:=zzY z;omega
    simp! only [Hm,rq,inD,gB,g',g3,e1,e2,this,decide_false]
   ·have:t.2+n<m:=by have:=of_decide_eq_false z;omega
    simp! only [Hm,rq,inD,gB,g',g3,e1,e2,this,decide_true]
def Ku(aa:List Str)(sl:Bool)(cl pr:Int)(T:List (List Int×Int))(u:List Int):Prop:=∀v e,E1 aa sl cl pr u v e->∀n,bv T v=some n->∃m,bv T u=some m/\m<=e+n
theorem IY(F:aO)(hs:dO F)(L:Fl aa w)(V:Wk cl pr)(C D S N:PV){T:List (List Int×Int)}{u:List Int}(hu:fu aa u)(s:Ci.Slot×Ci.Slot×Ci.Slot):
 (eC (Ku aa sl cl pr T u)=true->∃s',(((Tg.one 7).put (ah u) (rq (fl aa) (wk sl cl pr) C D S N T s)).bind λau=>aJ F LB au)=.ok (.nx (rq (fl aa) (wk sl cl pr) C D S N T s')))/\(eC (Ku aa sl cl pr T u)=false->(((Tg.one 7).put (ah u) (rq (fl aa) (wk sl cl pr) C D S N T s)).bind λau=>aJ F LB au)=.ok (.rt (.bl false))):=by
 obtain⟨r,c,rfl,ho⟩:=hu
 obtain⟨Q,e,hl,_,hQ⟩:=hs aa w L sl cl pr V r c ho
 have hf:=gV (body:=λx env=>((Tg.two 8 9).put x env).bind λau=>aJ F Hm au) (g:=tK) (mk:=λs:Ci.Slot×Ci.Slot=>rq (fl aa) (wk sl cl pr) C D S N T (.val (ah [r,c]),s)) (t:=Ki T [r,c]) (p:=.bl false) Q s.2 λa _ s=>Ll F _ _ C D S N _ a s
 have hb:Q.all (Ki T [r,c])=eC (Ku aa sl cl pr T [r,c]):=iU (by
  rw [zzT]
  constructor
  ·intro h v e he;exact Gy.1 (h (v,e) ((hQ v e).2 he))
  ·intro h t ht;exact Gy.2 (h t.1 t.2 ((hQ t.1 t.2).1 ht)))
 rw [<-hb];refine⟨λhx=>?_,λhx=>?_⟩
 ·obtain⟨s',e2⟩:=hf.1 hx
  refine⟨(.val (ah [r,c]),s'),?_⟩;simp! only [LB,rq,e] at e2⊢;simp! only [e2]
 ·have e2:=hf.2 hx
  simp! only [LB,rq,e] at e2⊢;simp! only [e2]
theorem KW(F:aO)(hs:dO F)(L:Fl aa w)(V:Wk cl pr)(C D N:PV){S:Ks}(hS:∀k,k∈S↔fu aa k){T:List (List Int×Int)}:aJ F OT (rq (fl aa) (wk sl cl pr) C D (.lst (S.map ah)) N T (.no,.no,.no))=.ok (.rt (.bl (eC (∀v,Kp aa sl cl pr T v)))):=by
 have hf:=gV (body:=λx env=>((Tg.one 7).put x env).bind λau=>aJ F LB au) (g:=ah) (mk:=rq (fl aa) (wk sl cl pr) C D (.lst (S.map ah)) N T) (t:=λu=>eC (Ku aa sl cl pr T u)) (p:=.bl false) S (.no,.no,.no) λa ha s=>IY F hs L V C D _ N ((hS a).1 ha) s
 have hb:S.all (λu=>eC (Ku aa sl cl pr T u))=eC (∀v,Kp aa sl cl pr T v):=iU (by
  rw [zzT]
  constructor
  ·intro h v n hn u e he;obtain⟨r,c,_,_,h1,_,h3,_⟩:=id he
   exact mJ.1 (h u ((hS u).2 ⟨r,c,h1,h3⟩)) v e he n hn
  ·intro h u _;exact qu λv e he n hn=>h v n hn u e he)
 rw [<-hb];cases hx:S.all (λu=>eC (Ku aa sl cl pr T u)) with
 |true=>
  obtain⟨s',e2⟩:=hf.1 hx
  simp! only [OT,rq] at e2⊢;simp! only [e2]
 |false=>
  have e2:=hf.2 hx
  simp! only [OT,rq] at e2⊢;simp! only [e2]
end
def pb:PV->Bool
 |.tup [_,.int n]=>decide (0<=n)
 |_=>false
theorem kA{f:PV->Res (Option PV)}{g:PV->Bool}{xs:List PV}(h:∀x∈xs,f x=.ok (if g x then some x else none)):bo f xs=.ok (xs.filter g):=by
 have:=iF (p:=id) (q:=id) (g:=g) (xs:=xs) h
 simpa using this
theorem zW(T:List (List Int×Int)):(T.map tK).all pb=Gn T:=by
 rw [List.all_map]
 rfl
section
variable{aa:List Str}{w:Nat}{sl:Bool}{cl pr:Int}
theorem w5(F:aO){S:Ks}(es:F "_law_spots" [fl aa]=.ok (.lst (S.map ah)))(g:PV){xs:List PV}(hE:∀p∈xs,F "_law_is_entry" [.lst (S.map ah),p]=.ok (.bl (pb p))/\Ny p)(hl:xs.length<df)(h:xs.all pb=false):ay F ba [fl aa,wk sl cl pr,g,.lst xs]=.ok (.bl false):=by
 have e1:=ne_nil (ys:=xs.filter λp=>!pb p) λp hp=>(hE p (List.mem_filter.1 hp).1).2
 rw [qG,h] at e1;simp! only [ba,es,hl];rw [kA (g:=λp=>!pb p) λp hp=>by
  have e:=(hE p hp).1
  cases hb:pb p<;>rw [hb] at e<;>simp! only [e]]
 simp! only [e1]
theorem Dq(F:aO){p:PV}(es:F "_law_spots" [fl aa]=.ok p)(g:PV)(xs:List PV):ay F ba [fl aa,wk sl cl pr,g,.tup xs]=.ok (.bl false):=by
 simp! only [ba,es]
theorem DX(F:aO){p:PV}(es:F "_law_spots" [fl aa]=.ok p)(g:PV):ay F ba [fl aa,wk sl cl pr,g,.az]=.ok (.bl false):=by
 simp! only [ba,es]
noncomputable def Mx:Ss:=(.cons (.ite (.or (.cmp .ne (.cH 1 [5] (.one 0) (.nk (.cst (.int 1)) (.blt .len (.cons (.var 5) .nil))) (.not (.cmp .lt (.sub (.var 1) (.bin .sub (.var 0) (.cst (.int 1)))) (.sub (.var 1) (.var 0)))) (.var 0)) (.lst .nil)) (.cmp .lV (.tup (.cons (.var 2) (.cons (.cst (.int 0)) .nil))) (.var 3)))
 (.cons (.ret (.cst (.bl false)))
 .nil)
 .nil)
 (.cons (.set 6 (.blt .dict (.cons (.var 3) .nil))) OT))
theorem lh{K:Ks}{i:Nat}{j:Int}(h:j=i)(hi:i<K.length):aN (.lst (K.map ah)) (.int j)=.ok (ah (K.getD i [])):=by
 subst h;show Res.of (ub (K.map ah) (i:Int))=_
 rw [lP (show i<(K.map ah).length by simpa using hi),List.getElem_map,zzK,zzg hi]
 rfl
theorem I0(F:aO)(hs:dO F)(L:Fl aa w)(V:Wk cl pr){S:Ks}(hS:∀k,k∈S↔fu aa k)(g:List Int){T:List (List Int×Int)}(hn:Gn T=true)(hl:T.length<df):aJ F Mx [.val (fl aa),.val (wk sl cl pr),.val (ah g),.val (.lst (T.map tK)),.val (.lst (S.map ah)),.val (.lst ((kk T).map ah)),.no,.no,.no,.no]=.ok (.rt (.bl (eC (FF aa sl cl pr g T)))):=by
 have lk:(((kk T).map ah).length:Int)=(T.length:Int):=by simp
 have sm:(aY 1&&aY (T.length:Int))=true:=by
  have:(df:Nat)=1000000:=rfl
  simp only [aY,zza,zzN];omega
 have rg:eN 1 ((T.length:Int)-1).toNat=(List.range ((kk T).length-1)).map λi:Nat=>PV.int (1+(i:Int)):=by
  rw [eN,zzl,show((T.length:Int)-1).toNat=T.length-1 by omega]
 have lr:((List.range ((kk T).length-1)).map λi:Nat=>PV.int (1+(i:Int))).length<df:=by
  simp;omega
 have e1:=ne_nil (ys:=((List.range ((kk T).length-1)).filter λi=>!HT.lexLt ((kk T).getD i []) ((kk T).getD (i+1) [])).map λi:Nat=>PV.int (1+(i:Int))) λp hp=>by
  obtain⟨i,_,rfl⟩:=List.mem_map.1 hp
  rfl
 rw [List.isEmpty_map,qG (λi=>HT.lexLt ((kk T).getD i []) ((kk T).getD (i+1) [])),AM] at e1
 have ec:∀x:PV,bo (λx=>((Tg.one 0).put x (List.replicate 1 Ci.Slot.no++[Ci.Slot.val (.lst ((kk T).map ah))])).bind λau=>(aQ F (.not (.cmp .lt (.sub (.var 1) (.bin .sub (.var 0) (.cst (.int 1)))) (.sub (.var 1) (.var 0)))) au).bind λt=>tY t λt=>if t then(aQ F (.var 0) au).bind λy=>.ok (some y) else .ok none) ((List.range ((kk T).length-1)).map λi:Nat=>PV.int (1+(i:Int)))=.ok (((List.range ((kk T).length-1)).filter λi=>!HT.lexLt ((kk T).getD i []) ((kk T).getD (i+1) [])).map λi:Nat=>PV.int (1+(i:Int))):=λ_=>by
  refine iF λi hi=>?_
  have QE:=List.mem_range.1 hi
  have a1:=lh (K:=kk T) (i:=i) (j:=1+(i:Int)-1) (by omega) (by omega)
  have a2:=lh (K:=kk T) (i:=i+1) (j:=1+(i:Int)) (by omega) (by omega)
  cases hx:HT.lexLt ((kk T).getD i []) ((kk T).getD (i+1) [])<;>dsimp! only [a1,a2,Su,hx]
 have e2:=KC (g,0) T
 cases hr:Ab (kk T) with
 |false=>
  rw [hr] at e1;rw [iC λz=>by rw [jh.2 z.2.1] at hr;cases hr]
  dsimp! only [J] at ec;dsimp! only [Mx,lk,sm,rg,lr,ec .az,e1]
 |true=>
  rw [hr] at e1;have v5:=jh.1 hr
  by_cases hg:(g,(0:Int))∈T
  ·rw [zzh hg] at e2;have e3:cR .dict [.lst (T.map tK)]=.ok (bD T):=xm v5.nodup
   have e4:=KW F hs L V (sl:=sl) (ah g) (.lst (T.map tK)) (.lst ((kk T).map ah)) hS (T:=T)
   have e5:eC (∀v,Kp aa sl cl pr T v)=eC (FF aa sl cl pr g T):=iU (by
    rw [mJ];exact⟨λh=>⟨hn,v5,(mi v5.nodup).2 hg,h⟩,λh=>h.2.2.2⟩)
   rw [e5] at e4;dsimp! only [J] at ec;dsimp! only [Mx,lk,sm,rg,lr,ec .az,e1,e2,e3,e4]
  ·rw [decide_eq_false hg] at e2;rw [iC λz=>hg ((mi v5.nodup).1 z.2.2.1)]
   dsimp! only [J] at ec;dsimp! only [Mx,lk,sm,rg,lr,ec .az,e1,e2]
theorem K9(F:aO)(hs:dO F)(L:Fl aa w)(V:Wk cl pr){S:Ks}(es:F "_law_spots" [fl aa]=.ok (.lst (S.map ah)))(hS:∀k,k∈S↔fu aa k)(g:List Int){T:List (List Int×Int)}(hE:∀t∈T,F "_law_is_entry" [.lst (S.map ah),tK t]=.ok (.bl (decide (0<=t.2))))(hl:T.length<df):ay F ba [fl aa,wk sl cl pr,ah g,.lst (T.map tK)]=.ok (.bl (eC (FF aa sl cl pr g T))):=by
 have Qg:∀p∈T.map tK,F "_law_is_entry" [.lst (S.map ah),p]=.ok (.bl (pb p))/\Ny p:=λp hp=>by
  obtain⟨t,ht,rfl⟩:=List.mem_map.1 hp
  exact⟨hE t ht,xf t 6⟩
 have qS:(T.map tK).length<df:=by simpa using hl
 cases hn:Gn T with
 |false=>
  rw [iC λz=>by have:=z.1;rw [hn] at this;cases this]
  exact w5 F es _ Qg qS (by rw [zW,hn])
 |true=>
  have e1:=ne_nil (ys:=(T.map tK).filter λp=>!pb p) λp hp=>(Qg p (List.mem_filter.1 hp).1).2
  rw [qG,zW,hn] at e1;have t0:∀t:List Int×Int,aN (tK t) (.int 0)=.ok (ah t.1):=λt=>rfl
  have db:ba.body=(.cons (.set 4 (.call "_law_spots" (.cons (.var 0) .nil)))
 (.cons (.ite (.or (.not (.ty .list (.var 3))) (.cmp .ne (.cH 1 [4] (.one 0) (.seq (.var 3)) (.not (.call "_law_is_entry" (.cons (.var 1) (.cons (.var 0) .nil)))) (.var 0)) (.lst .nil)))
  (.cons (.ret (.cst (.bl false)))
  .nil)
  .nil)
 (.cons (.set 5 (.comp 1 [] (.one 0) (.seq (.var 3)) (.sub (.var 0) (.cst (.int 0))))) Mx))):=rfl
  have st:cu ba [fl aa,wk sl cl pr,ah g,.lst (T.map tK)]=[.val (fl aa),.val (wk sl cl pr),.val (ah g),.val (.lst (T.map tK)),.no,.no,.no,.no,.no,.no]:=rfl
  have ar:cm ba [fl aa,wk sl cl pr,ah g,.lst (T.map tK)]=true:=rfl
  unfold ay;rw [ar,if_pos rfl,st,db];dsimp! only [es,qS];rw [kA (g:=λp=>!pb p) λp hp=>by
   have e:=(Qg p hp).1
   cases hb:pb p<;>rw [hb] at e<;>dsimp! only [e]]
  dsimp! only [e1];rw [bL (p:=tK) (g:=λt=>ah t.1) λt ht=>by dsimp! only [t0]]
  have e2:=I0 F hs L V (sl:=sl) hS g hn hl
  rw [List.map_map] at e2;have e3:(T.map λt=>ah t.1)=T.map (ah∘λt=>t.1):=rfl
  rw [e3];dsimp! only [qS,e2]
end
def Itm(aa:List Str)(x:PV):Prop:=(∃t,x=tK t/\fu aa t.1)\/x=.az\/(∃k b,x=.tup [ah k,.bl b]/\fu aa k)\/∃k n,x=.lst [ah k,.int n]
def CG(aa:List Str)(p:PV):Prop:=(∃T:List (List Int×Int),p=.lst (T.map tK)/\T.length<=40/\∀t∈T,fu aa t.1)\/(∃xs,p=.lst xs/\xs.length<=40/\xs.all pb=false/\∀x∈xs,Itm aa x)\/(∃xs,p=.tup xs)\/p=.az
theorem Jw{α:Type}(xs:List α){k:Nat}(h:k<=xs.length):ng xs none (some (k:Int))=xs.take k:=by
 unfold ng;rw [HT.xa,HT.rC,Nat.min_eq_left h]
 rfl
theorem KO{α:Type}(d:α)(f:α->PV)(g:α->List Int)(l:List α):∃l':List α,ik PV.az (l.map f) (l.map g)=l'.map f/\l'.Perm l:=by
 by_cases h:l.length<2
 ·unfold ik;rw [if_pos (by simpa using h)];exact⟨l,rfl,.refl _⟩
 ·have P:=eQ (n:=l.length) (by omega) λi j=>HT.lexLt ((l.map g).getD i []) ((l.map g).getD j [])
  unfold ik;rw [if_neg (by simpa using h),zzl];have Q:=P.map λi=>l.getD i d
  rw [range_getD] at Q;refine⟨_,?_,Q⟩;rw [List.map_map];refine List.map_congr_left λi hi=>?_
  have hl:i<l.length:=List.mem_range.1 (P.mem_iff.1 hi)
  simp [zzK,zzg hl]
theorem Gi:∀T:List (List Int×Int),vy (T.map tK)=some T
 |[]=>rfl
 |t::T=>by
  show(fy (ah t.1)).bind (λk=>(vy (T.map tK)).map ((k,t.2)::·))=_
  rw [dg,Gi T]
  rfl
theorem vw{aa:List Str}{T:List (List Int×Int)}(hl:T.length<64)(ho:∀t∈T,fu aa t.1):∃T':List (List Int×Int),cR .eU [.lst (T.map tK)]=.ok (.lst (T'.map tK))/\T'.Perm T:=by
 obtain⟨T',e,P⟩:=KO (([]:List Int),(0:Int)) tK (λt=>t.1++[t.2]) T
 refine⟨T',?_,P⟩;show(Res.of (vy (T.map tK))).bind (λps=>if(decide ((T.map tK).length<64)&&ps.all (λp=>p.1.length==2))=true then Res.ok (PV.lst (ik .az (T.map tK) (ps.map λp=>p.1++[p.2]))) else .bad)=_
 rw [Gi];show(if(decide ((T.map tK).length<64)&&T.all (λp=>p.1.length==2))=true then Res.ok (PV.lst (ik .az (T.map tK) (T.map λp=>p.1++[p.2]))) else .bad)=_
 rw [if_pos,e];rw [zzl,zzh hl,Bool.true_and,zzT];intro t ht;obtain⟨r,c,h,_⟩:=ho t ht
 rw [h]
 rfl
theorem vH:∀(T:List (List Int×Int)) (n:Nat),cQ n (T.map tK)=(T.zipIdx n).map λq=>.tup [.int (q.2:Int),tK q.1]
 |[],_=>rfl
 |t::T,n=>by
  show PV.tup [.int (n:Nat),tK t]::cQ (n+1) (T.map tK)=_
  rw [vH T (n+1)]
  rfl
section
variable{aa:List Str}
noncomputable abbrev zu(A B:PV)(S:Ks)(T:List (List Int×Int))(wy pl:Int)(k:List Int):Sl:=[.val A,.val B,.val (.lst (S.map ah)),.val (.lst (T.map tK)),.val (.int wy),.val (.int pl),.val (ah k),.no,.no,.no]
noncomputable def Rt:Ss:=(.cons (.set 7 (.sub (.lst (.cons (.neg (.cst (.int 1))) (.cons (.neg (.cst (.int 2))) (.cons (.cst (.int 1)) (.cons (.neg (.cst (.int 9))) .nil))))) (.call "_law_pick" (.cons (.var 0) (.cons (.bin .add (.var 1) (.cst (.int 3))) (.cons (.cst (.int 4)) .nil))))))
 (.cons (.set 8 (.cmp .eq (.call "_law_pick" (.cons (.var 0) (.cons (.bin .add (.var 1) (.cst (.int 4))) (.cons (.cst (.int 3)) .nil)))) (.cst (.int 0))))
 (.cons (.ret (.comp 3 [8,5,7] (.Iz 0 1 2) (.enum (.var 3)) (.tup (.cons (.var 1) (.cons (.bin .add (.var 2) (.ite (.or (.var 3) (.cmp .eq (.var 0) (.var 4))) (.var 5) (.cst (.int 0)))) .nil)))))
 .nil)))
def PL:Ss:=(.cons (.ret (.comp 2 [] (.two 0 1) (.seq (.var 3)) (.tup (.cons (.var 0) (.cons (.cst (.int 0)) .nil)))))
 .nil)
def RB:Ss:=(.cons (.ret (.bin .add (.slice (.var 3) .no (.some (.var 5))) (.slice (.var 3) (.some (.bin .add (.var 5) (.cst (.int 1)))) .no)))
 .nil)
noncomputable def QO:Ss:=(.cons (.ret (.blt .eU (.cons (.bin .add (.var 3) (.lst (.cons (.tup (.cons (.var 6) (.cons (.call "_law_pick" (.cons (.var 0) (.cons (.bin .add (.var 1) (.cst (.int 3))) (.cons (.cst (.int 5)) .nil)))) .nil))) .nil))) .nil)))
 .nil)
def Qh:Ss:=(.cons (.ret (.comp 2 [] (.two 0 1) (.seq (.var 3)) (.tup (.cons (.var 0) (.cons (.bin .fdiv (.var 1) (.cst (.int 2))) .nil)))))
 .nil)
noncomputable def Rz:Ss:=(.cons (.own 9 (.lst (.cons (.blt .tuple (.cons (.var 3) .nil)) (.cons (.rev (.var 3)) (.cons (.cst .az) (.cons (.bin .add (.var 3) (.lst (.cons (.cst .az) .nil))) (.cons (.bin .add (.var 3) (.lst (.cons (.tup (.cons (.var 6) (.cons (.cst (.bl true)) .nil))) .nil))) (.cons (.lst .nil) .nil))))))))
 (.cons (.app 9 (.comp 1 [] (.one 0) (.seq (.var 3)) (.blt .list (.cons (.var 0) .nil))))
 (.cons (.ret (.sub (.hZ 9) (.call "_law_pick" (.cons (.var 0) (.cons (.bin .add (.var 1) (.cst (.int 3))) (.cons (.cst (.int 7)) .nil))))))
 .nil)))
theorem Eo:bI.body=(.cons (.set 4 (.call "_law_pick" (.cons (.var 0) (.cons (.var 1) (.cons (.cst (.int 12)) .nil)))))
 (.cons (.set 5 (.call "_law_pick" (.cons (.var 0) (.cons (.bin .add (.var 1) (.cst (.int 1))) (.cons (.blt .len (.cons (.var 3) .nil)) .nil)))))
 (.cons (.set 6 (.sub (.var 2) (.call "_law_pick" (.cons (.var 0) (.cons (.bin .add (.var 1) (.cst (.int 2))) (.cons (.blt .len (.cons (.var 2) .nil)) .nil))))))
 (.cons (.ite (.cmp .lt (.var 4) (.cst (.int 6))) Rt .nil)
 (.cons (.ite (.cmp .eq (.var 4) (.cst (.int 6))) PL .nil)
 (.cons (.ite (.cmp .eq (.var 4) (.cst (.int 7))) RB .nil)
 (.cons (.ite (.cmp .eq (.var 4) (.cst (.int 8))) QO .nil)
 (.cons (.ite (.cmp .eq (.var 4) (.cst (.int 9))) Qh .nil) Rz)))))))):=rfl
theorem k9{T:List (List Int×Int)}(hl:T.length<=36):(T.map tK).length<df:=by
 rw [zzl];exact zzV hl (by decide)
theorem Ld(F:aO)(A B:PV)(S:Ks){T:List (List Int×Int)}(hl:T.length<=36)(ho:∀t∈T,fu aa t.1)(wy pl:Int)(k:List Int):∃p,aJ F PL (zu A B S T wy pl k)=.ok (.rt p)/\CG aa p:=by
 have h:=k9 hl
 refine⟨_,?_,.inl ⟨T.map λt=>(t.1,0),rfl,by simp;omega,λt ht=>by obtain⟨x,hx,rfl⟩:=List.mem_map.1 ht;exact ho x hx⟩⟩
 simp! only [PL,zu,h];rw [bL (p:=tK) (g:=λt=>tK (t.1,0)) λt ht=>by simp! only [],List.map_map]
 rfl
theorem Ie(F:aO)(A B:PV)(S:Ks){T:List (List Int×Int)}(hl:T.length<=36)(ho:∀t∈T,fu aa t.1)(wy pl:Int)(k:List Int):∃p,aJ F Qh (zu A B S T wy pl k)=.ok (.rt p)/\CG aa p:=by
 have h:=k9 hl
 have d2:(0:Int)<2/\(2:Int)<1073741824:=by decide
 refine⟨_,?_,.inl ⟨T.map λt=>(t.1,t.2/2),rfl,by simp;omega,λt ht=>by obtain⟨x,hx,rfl⟩:=List.mem_map.1 ht;exact ho x hx⟩⟩
 simp! only [Qh,zu,h];rw [bL (p:=tK) (g:=λt=>tK (t.1,t.2/2)) λt ht=>by simp! only [d2,and_self],List.map_map]
 rfl
theorem Kf(F:aO)(A B:PV)(S:Ks){T:List (List Int×Int)}(hl:T.length<=36)(ho:∀t∈T,fu aa t.1)(wy:Int){pl:Int}(h0:0<=pl)(h1:pl<T.length)(k:List Int):∃p,aJ F RB (zu A B S T wy pl k)=.ok (.rt p)/\CG aa p:=by
 obtain⟨i,rfl⟩:=Int.eq_ofNat_of_zero_le h0
 have e1:eX (.lst (T.map tK)) none (some (i:Int))=.ok (.lst ((T.take i).map tK)):=by
  show Res.ok (PV.lst (ng _ _ _))=_
  rw [Jw _ (by simp;omega),List.map_take]
 have e2:eX (.lst (T.map tK)) (some ((i:Int)+1)) none=.ok (.lst ((T.drop (i+1)).map tK)):=by
  show Res.ok (PV.lst (ng _ (some ((i+1:Nat):Int)) _))=_
  rw [Af _ (by simp;omega),List.map_drop]
 have l:((T.take i).map tK).length+((T.drop (i+1)).map tK).length<=df:=by
  have:(df:Nat)=1000000:=rfl
  simp;omega
 refine⟨_,?_,.inl ⟨T.take i++T.drop (i+1),rfl,by simp;omega,λt ht=>ho t ((List.mem_append.1 ht).elim List.mem_of_mem_take List.mem_of_mem_drop)⟩⟩
 simp! only [RB,zu,e1,e2,l,List.map_append]
theorem KU(F:aO)(hp:fL F)(ns:List Int){S:Ks}{T:List (List Int×Int)}(hl:T.length<=36)(ho:∀t∈T,fu aa t.1)(wy pl:Int){k:List Int}(hk:fu aa k):∃p,aJ F QO (zu (ef ns) (.int 50) S T wy pl k)=.ok (.rt p)/\CG aa p:=by
 obtain⟨m,e1,_⟩:=hp ns (50+3) 5 (by decide) (by decide)
 have iG:∀t∈T++[(k,m)],fu aa t.1:=λt ht=>by
  rcases List.mem_append.1 ht with h|h
  ·exact ho t h
  ·cases zzi.1 h;exact hk
 obtain⟨T',e2,P⟩:=vw (T:=T++[(k,m)]) (by simp;omega) iG
 have l:(T.map tK).length+1<=df:=k9 hl
 rw [List.map_append] at e2;have e3:cR .eU [.lst (T.map tK++[.tup [ah k,.int m]])]=.ok (.lst (T'.map tK)):=e2
 refine⟨_,?_,.inl ⟨T',rfl,by rw [P.length_eq];simp;omega,λt ht=>iG t (P.mem_iff.1 ht)⟩⟩
 simp! only [QO,zu,e1,l,e3]
theorem HQ(F:aO)(hp:fL F)(ns:List Int){S:Ks}{T:List (List Int×Int)}(hl:T.length<=36)(ho:∀t∈T,fu aa t.1)(wy pl:Int)(k:List Int):∃p,aJ F Rt (zu (ef ns) (.int 50) S T wy pl k)=.ok (.rt p)/\CG aa p:=by
 obtain⟨m,e1,m0,m4⟩:=hp ns (50+3) 4 (by decide) (by decide)
 obtain⟨m',e2,_⟩:=hp ns (50+4) 3 (by decide) (by decide)
 obtain⟨y,e3,_⟩:=lA (a:= -1) (b:= -2) (c:=1) (d:= -9) m0 m4
 have h:(cQ 0 (T.map tK)).length<df:=by
  rw [vH,zzl,List.length_zipIdx];exact zzV hl (by decide)
 refine⟨_,?_,.inl ⟨(T.zipIdx 0).map λq=>(q.1.1,q.1.2+if((m'==0)||((q.2:Int)==pl))=true then y else 0),rfl,by simp;omega,λt ht=>by
  obtain⟨q,hq,rfl⟩:=List.mem_map.1 ht
  exact ho q.1 (List.fst_mem_of_mem_zipIdx hq)⟩⟩
 simp! only [Rt,zu,e1,e2,e3,h];rw [vH,bL (g:=λq=>tK (q.1.1,q.1.2+if((m'==0)||((q.2:Int)==pl))=true then y else 0)) λq hq=>by
  cases h1:(m'==0)<;>cases h2:((q.2:Int)==pl)<;>(simp! only [Tg.put,List.set,h2];rfl),List.map_map]
 rfl
theorem JN(F:aO)(hp:fL F)(ns:List Int){S:Ks}{T:List (List Int×Int)}(hl:T.length<=36)(ho:∀t∈T,fu aa t.1)(wy pl:Int){k:List Int}(hk:fu aa k):∃p,aJ F Rz (zu (ef ns) (.int 50) S T wy pl k)=.ok (.rt p)/\CG aa p:=by
 obtain⟨m,e1,m0,m7⟩:=hp ns (50+3) 7 (by decide) (by decide)
 have h:=k9 hl
 have l:(T.map tK).length+1<=df:=h
 have e2:bo (λx=>((Tg.one 0).put x [Ci.Slot.no]).bind λau=>(aQ F (.blt .list (.cons (.var 0) .nil)) au).bind λy=>.ok (some y)) (T.map tK)=.ok (T.map λt=>.lst [ah t.1,.int t.2]):=bL λt ht=>rfl
 have hI:∀x∈T.map tK,Itm aa x:=λx hx=>by
  obtain⟨t,ht,rfl⟩:=List.mem_map.1 hx
  exact .inl ⟨t,rfl,ho t ht⟩
 have SG:∀q,Itm aa q->∀x∈T.map tK++[q],Itm aa x:=λq hq x hx=>by
  rcases List.mem_append.1 hx with z|z
  ·exact hI x z
  ·cases zzi.1 z;exact hq
 have go:∃p,aN (.lst [.tup (T.map tK),.lst (T.map tK).reverse,.az,.lst (T.map tK++[.az]),.lst (T.map tK++[.tup [ah k,.bl true]]),.lst [],.lst (T.map λt=>.lst [ah t.1,.int t.2])]) (.int m)=.ok p/\CG aa p:=by
  have:m=0\/m=1\/m=2\/m=3\/m=4\/m=5\/m=6:=by omega
  rcases this with rfl|rfl|rfl|rfl|rfl|rfl|rfl
  ·exact⟨_,rfl,.inr (.inr (.inl ⟨_,rfl⟩))⟩
  ·exact⟨_,rfl,.inl ⟨T.reverse,by rw [List.map_reverse],by simp;omega,λt ht=>ho t (List.mem_reverse.1 ht)⟩⟩
  ·exact⟨_,rfl,.inr (.inr (.inr rfl))⟩
  ·exact⟨_,rfl,.inr (.inl ⟨_,rfl,by simp;omega,by simp [pb],SG _ (.inr (.inl rfl))⟩)⟩
  ·exact⟨_,rfl,.inr (.inl ⟨_,rfl,by simp;omega,by simp [pb],SG _ (.inr (.inr (.inl ⟨k,true,rfl,hk⟩)))⟩)⟩
  ·exact⟨_,rfl,.inl ⟨[],rfl,by simp,λt ht=>by cases ht⟩⟩
  ·cases T with
   |nil=>exact⟨_,rfl,.inl ⟨[],rfl,by simp,λt ht=>by cases ht⟩⟩
   |cons t T=>
    refine⟨_,rfl,.inr (.inl ⟨_,rfl,by simp at hl⊢;omega,rfl,λx hx=>?_⟩)⟩;obtain⟨t,_,rfl⟩:=List.mem_map.1 hx
    exact .inr (.inr (.inr ⟨t.1,t.2,rfl⟩))
 obtain⟨p,e3,hc⟩:=go
 refine⟨p,?_,hc⟩;have l6:6<df:=by decide
 simp! only [] at e2;simp! only [Rz,zu,e1,l,h,e2,e3,l6,List.modify_succ_cons,List.modify_zero_cons,List.cons_append,List.nil_append,El]
theorem KZ(F:aO)(hp:fL F)(ns:List Int){S:Ks}(VT:0<S.length)(hS:∀k∈S,fu aa k){T:List (List Int×Int)}(h0:0<T.length)(hl:T.length<=36)(ho:∀t∈T,fu aa t.1):∃p,ay F bI [ef ns,.int 50,.lst (S.map ah),.lst (T.map tK)]=.ok p/\CG aa p:=by
 obtain⟨wy,e1,w0,w1⟩:=hp ns 50 12 (by decide) (by decide)
 obtain⟨pl,e2,p0,p1⟩:=hp ns (50+1) T.length (by decide) (by omega)
 obtain⟨m,e3,m0,m1⟩:=hp ns (50+2) S.length (by decide) (by omega)
 obtain⟨i,rfl⟩:=Int.eq_ofNat_of_zero_le m0
 have hi:i<S.length:=by omega
 have e4:=lh (K:=S) (i:=i) (j:=(i:Int)) rfl hi
 have hk:fu aa (S.getD i []):=hS _ (by rw [zzK,zzg hi];exact List.getElem_mem hi)
 generalize S.getD i []=k at e4 hk
 have lS:((S.map ah).length:Int)=(S.length:Int):=by simp
 have lT:((T.map tK).length:Int)=(T.length:Int):=by simp
 have st:cu bI [ef ns,.int 50,.lst (S.map ah),.lst (T.map tK)]=[.val (ef ns),.val (.int 50),.val (.lst (S.map ah)),.val (.lst (T.map tK)),.no,.no,.no,.no,.no,.no]:=rfl
 have ar:cm bI [ef ns,.int 50,.lst (S.map ah),.lst (T.map tK)]=true:=rfl
 unfold ay;rw [ar,if_pos rfl,st,Eo];have key:wy<6\/wy=6\/wy=7\/wy=8\/wy=9\/9<wy:=by omega
 rcases key with h|rfl|rfl|rfl|rfl|h
 ·obtain⟨p,e,c⟩:=HQ F hp ns (S:=S) hl ho wy pl k
  exact⟨p,by dsimp! only [e1,e2,e3,e4,lS,lT,h,decide_true,e],c⟩
 ·obtain⟨p,e,c⟩:=Ld F (ef ns) (.int 50) S hl ho 6 pl k
  have a:decide ((6:Int)<6)=false:=rfl
  exact⟨p,by dsimp! only [e1,e2,e3,e4,lS,lT,a,e],c⟩
 ·obtain⟨p,e,c⟩:=Kf F (ef ns) (.int 50) S hl ho 7 p0 p1 k
  have a:decide ((7:Int)<6)=false:=rfl
  have b:((7:Int)==6)=false:=rfl
  exact⟨p,by dsimp! only [e1,e2,e3,e4,lS,lT,a,b,e],c⟩
 ·obtain⟨p,e,c⟩:=KU F hp ns (S:=S) hl ho 8 pl hk
  have a:decide ((8:Int)<6)=false:=rfl
  have b:((8:Int)==6)=false:=rfl
  have d:((8:Int)==7)=false:=rfl
  exact⟨p,by dsimp! only [e1,e2,e3,e4,lS,lT,a,b,d,e],c⟩
 ·obtain⟨p,e,c⟩:=Ie F (ef ns) (.int 50) S hl ho 9 pl k
  have a:decide ((9:Int)<6)=false:=rfl
  have b:((9:Int)==6)=false:=rfl
  have d:((9:Int)==7)=false:=rfl
  have f:((9:Int)==8)=false:=rfl
  exact⟨p,by dsimp! only [e1,e2,e3,e4,lS,lT,a,b,d,f,e],c⟩
 ·obtain⟨p,e,c⟩:=JN F hp ns (S:=S) hl ho wy pl hk
  have a:decide (wy<6)=false:=decide_eq_false (by omega)
  have b:(wy==6)=false:=by simp;omega
  have d:(wy==7)=false:=by simp;omega
  have f:(wy==8)=false:=by simp;omega
  have g:(wy==9)=false:=by simp;omega
  exact⟨p,by dsimp! only [e1,e2,e3,e4,lS,lT,a,b,d,f,g,e],c⟩
end
theorem mn{α:Type}{body:PV->Sl->Res Ci.Fl}{g:α->PV}{P:Sl->Prop}:∀(l:List α) (env:Sl),(∀a∈l,∀env,P env->∃au,body (g a) env=.ok (.nx au)/\P au)->P env->∃au,forL body (l.map g) env=.ok (.nx au)/\P au
 |[],env,_,h=>⟨env,rfl,h⟩
 |a::l,env,h,h0=>by
  obtain⟨e1,b1,p1⟩:=h a (zzP ..) env h0
  obtain⟨e2,b2,p2⟩:=mn l e1 (λb hb=>h b (zzI _ hb)) p1
  exact⟨e2,by simp only [zzF,forL,b1,qV,b2],p2⟩
theorem uX{ks:Ks}{ns:List Int}{k:List Int}{n:Int}(h:av ks ns k=some n):aN (.aX ks (ns.map .int)) (ah k)=.ok (.int n):=by
 show(Res.of (fy (ah k))).bind (λk=>Res.of (av _ _ k))=_
 rw [dg];show Res.of (av _ _ k)=_
 rw [gC,h]
 rfl
def wt(ks:Ks)(ns:List Int)(k:List Int):Nat:=match av ks ns k with
 |some n=>n.toNat
 |none=>1081
def F5(ks:Ks)(ns:List Int):Nat:=(xG.map (wt ks ns)).sum
theorem uV{α:Type}{f g:α->Nat}:∀{l:List α},(∀a∈l,f a<=g a)->(l.map f).sum<=(l.map g).sum
 |[],_=>zzE _
 |a::l,h=>by
  have:=uV (l:=l) λb hb=>h b (zzI _ hb)
  have:=h a (zzP ..)
  simp only [zzF,List.sum_cons];omega
theorem Bv{α:Type}{f g:α->Nat}{x:α}:∀{l:List α},(∀a∈l,f a<=g a)->x∈l->f x<g x->(l.map f).sum<(l.map g).sum
 |a::l,h,hx,hl=>by
  have h1:=uV (l:=l) λb hb=>h b (zzI _ hb)
  have h2:=h a (zzP ..)
  simp only [zzF,List.sum_cons];rcases List.mem_cons.1 hx with rfl|hx
  ·omega
  ·have:=Bv (l:=l) (λb hb=>h b (zzI _ hb)) hx hl
   omega
theorem Di(ks:Ks)(ns:List Int)(h:∀k n,av ks ns k=some n->n<=1081):F5 ks ns<=38916:=by
 have h1:(xG.map (wt ks ns)).sum<=(xG.map λ_=>1081).sum:=uV λk _=>by
  unfold wt;cases hg:av ks ns k with
  |none=>exact zzE _
  |some n=>have:=h k n hg;show n.toNat<=1081;omega
 have h2:(xG.map λ_=>1081).sum=38916:=by decide+kernel
 exact h2▸h1
structure vZ(E:List Int->List Int->Int->Prop)(O:List Int->Prop)(g:List Int)(ks:Ks)(ns:List Int):Prop where
 len:ks.length=ns.length
 nd:ks.Nodup
 CB:∀k n,av ks ns k=some n->O k/\Ft E g k n/\0<=n/\n+30<=30*ks.length
theorem ES{U:Ks}{ks:Ks}(nd:ks.Nodup)(h:∀k∈ks,k∈U):ks.length<=U.length:=by
 induction ks generalizing U with
 |nil=>exact Nat.zero_le _
 |cons a ks ih=>
  obtain⟨n1,n2⟩:=List.nodup_cons.1 nd
  have ha:=h a (zzP ..)
  have:=ih (U:=U.erase a) n2 λk hk=>(List.mem_erase_of_ne (λz:k=a=>n1 (by rw [<-z];exact hk))).2 (h k (zzI _ hk))
  rw [List.length_erase_of_mem ha] at this;have:=List.length_pos_of_mem ha
  rw [zzL];omega
theorem vZ.has{E:List Int->List Int->Int->Prop}{O:List Int->Prop}{g:List Int}{ks:Ks}{ns:List Int}(C:vZ E O g ks ns){k:List Int}(h:k∈ks):∃n,av ks ns k=some n:=by
 have:=bB (vs:=ns) k C.len
 rw [cD.2 h] at this;exact Option.isSome_iff_exists.1 this.symm
theorem vZ.le{E:List Int->List Int->Int->Prop}{O:List Int->Prop}{g:List Int}{ks:Ks}{ns:List Int}(C:vZ E O g ks ns)(hO:∀k,O k->k∈xG):ks.length<=36:=by
 rw [<-xk];exact ES C.nd λk hk=>by
  obtain⟨n,hn⟩:=C.has hk
  exact hO k (C.CB k n hn).1
theorem vZ.put{E:List Int->List Int->Int->Prop}{O:List Int->Prop}{g:List Int}{ks:Ks}{ns:List Int}(C:vZ E O g ks ns)(hO:∀k,O k->k∈xG){u v:List Int}{n e:Int}(hv:av ks ns v=some n)(hu:O u)(he:E v u e)(e0:0<e)(S2:e<=30)(hb:∀m,av ks ns u=some m->n+e<m):vZ E O g (bf ks u) (bj ks ns u (n+e))/\F5 (bf ks u) (bj ks ns u (n+e))<F5 ks ns:=by
 have gp:=bG C.len u (n+e)
 obtain⟨_,w1,w2,w3⟩:=C.CB v n hv
 have Ia:=C.le hO
 have lp:ks.length<=(bf ks u).length:=by
  unfold bf;split
  ·exact zzE _
  ·rw [zzM];omega
 have wu:n+e+30<=30*(bf ks u).length:=by
  unfold bf;cases hx:bO ks u with
  |true=>
   obtain⟨m,hm⟩:=C.has (cD.1 hx)
   have a:=hb m hm
   have b:=(C.CB u m hm).2.2.2
   simp only [if_true];omega
  |false=>
   simp only [zze,if_false,zzM,zzL,List.length_nil];omega
 refine⟨⟨nj C.len u _,gE C.nd u,λk m hk=>?_⟩,?_⟩
 ·rw [gp] at hk;split at hk
  ·rename_i h;subst h;cases hk;exact⟨hu,w1.go he,by omega,wu⟩
  ·obtain⟨a,b,c,d⟩:=C.CB k m hk
   exact⟨a,b,c,by omega⟩
 ·have bZ:wt (bf ks u) (bj ks ns u (n+e)) u<wt ks ns u:=by
   unfold wt;rw [gp,if_pos rfl];cases hx:av ks ns u with
   |some m=>have:=hb m hx;show(n+e).toNat<m.toNat;omega
   |none=>show(n+e).toNat<1081;omega
  refine Bv (x:=u) (λa _=>?_) (hO u hu) bZ
  by_cases h:u=a
  ·subst h;exact Nat.le_of_lt bZ
  ·unfold wt;rw [gp,if_neg h];exact zzE _
noncomputable def IH:Ss:=(.cons (.ite (.cmp .Bj (.var 8) (.hZ 5))
 (.cons (.set 10 (.bin .add (.sub (.hZ 5) (.var 8)) (.var 9)))
 (.cons (.ite (.or (.cmp .lV (.var 7) (.hZ 5)) (.cmp .lt (.var 10) (.sub (.hZ 5) (.var 7))))
  (.cons (.put 5 (.var 7) (.var 10))
  (.cons (.set 6 (.cst (.bl true)))
  .nil))
  .nil)
 .nil))
 .nil)
 .nil)
noncomputable def O0:Ss:=(.cons (.dc (.two 8 9) (.seq (.sub (.var 4) (.var 7))) IH) .nil)
noncomputable def OJ:Ss:=(.cons (.set 6 (.cst (.bl false))) (.cons (.dc (.one 7) (.seq (.var 3)) O0) .nil))
abbrev tW(A B G S Q:PV)(ks:Ks)(ns:List Int)(ag:Bool)(s7 s8 s9 kl:Ci.Slot):Sl:=[.val A,.val B,.val G,.val S,.val Q,.own (.aX ks (ns.map .int)),.val (.bl ag),s7,s8,s9,kl]
def Jn(E:List Int->List Int->Int->Prop)(O:List Int->Prop)(g:List Int)(A B G S Q:PV)(p0:Nat)(s:Option Ci.Slot)(env:Sl):Prop:=∃ks ns ag s7 s8 s9 kl,env=tW A B G S Q ks ns ag s7 s8 s9 kl/\(∀x,s=some x->s7=x)/\vZ E O g ks ns/\F5 ks ns<=p0/\(ag=true->F5 ks ns<p0)
section
variable{E:List Int->List Int->Int->Prop}{O:List Int->Prop}{g:List Int}{A B G S Q:PV}
theorem rR(ks:Ks)(ns:List Int)(u:List Int)(n:Int):bj ks (ns.map .int) u (PV.int n)=(bj ks ns u n).map .int:=kj PV.int ks ns u n
theorem Jt(F:aO)(hO:∀k,O k->k∈xG)(p0:Nat){u:List Int}(hu:O u)(t:List Int×Int)(he:E t.1 u t.2)(e0:0<t.2)(S2:t.2<=30)(env:Sl)(h:Jn E O g A B G S Q p0 (some (.val (ah u))) env):∃au,(((Tg.two 8 9).put (tK t) env).bind λau=>aJ F IH au)=.ok (.nx au)/\Jn E O g A B G S Q p0 (some (.val (ah u))) au:=by
 obtain⟨ks,ns,ag,s7,s8,s9,kl,rfl,h7,C,hp,ha⟩:=h
 cases h7 _ rfl;have l:ks.length<df:=zzV (C.le hO) (by decide)
 have g1:=bB (vs:=ns) t.1 C.len
 have g2:=bB (vs:=ns) u C.len
 cases hv:av ks ns t.1 with
 |none=>
  rw [hv] at g1;have g':bO ks t.1=false:=g1
  refine⟨_,?_,ks,ns,ag,_,.val (ah t.1),.val (.int t.2),kl,rfl,(λx z=>by cases z;rfl),C,hp,ha⟩;simp! only [IH,tW,inD,g']
 |some n=>
  rw [hv] at g1;have g':bO ks t.1=true:=g1
  have e1:=uX hv
  have done:(∀m,av ks ns u=some m->n+t.2<m)->Jn E O g A B G S Q p0 (some (.val (ah u))) (tW A B G S Q (bf ks u) (bj ks ns u (n+t.2)) true (.val (ah u)) (.val (ah t.1)) (.val (.int t.2)) (.val (.int (n+t.2)))):=λhb=>by
   obtain⟨C',hl⟩:=C.put hO hv hu he e0 S2 hb
   exact⟨_,_,true,_,_,_,_,rfl,(λx z=>by cases z;rfl),C',by omega,λ_=>by omega⟩
  cases hw:av ks ns u with
  |none=>
   rw [hw] at g2;have g3:bO ks u=false:=g2
   refine⟨_,?_,done λm hm=>by rw [hw] at hm;cases hm⟩
   simp! only [IH,tW,inD,gB,g',g3,e1,dg,l,rR]
  |some m=>
   rw [hw] at g2;have g3:bO ks u=true:=g2
   have e2:=uX hw
   by_cases bZ:n+t.2<m
   ·refine⟨_,?_,done λm' hm=>by rw [hw] at hm;cases hm;exact bZ⟩
    simp! only [IH,tW,inD,gB,g',g3,e1,e2,bZ,decide_true,dg,l,rR]
   ·refine⟨_,?_,ks,ns,ag,_,.val (ah t.1),.val (.int t.2),.val (.int (n+t.2)),rfl,(λx z=>by cases z;rfl),C,hp,ha⟩;simp! only [IH,tW,inD,gB,g',g3,e1,e2,bZ,decide_false]
end
theorem sU{α:Type}(f:List Int->α):∀{ks:Ks} {k:List Int},k∈ks->av ks (ks.map f) k=some (f k)
 |a::ks,k,h=>by
  show(if a=k then some (f a) else av ks (ks.map f) k)=_
  by_cases ha:a=k
  ·rw [if_pos ha,ha]
  ·rw [if_neg ha];exact sU f ((List.mem_cons.1 h).resolve_left λz=>ha z.symm)
section
variable{E:List Int->List Int->Int->Prop}{O:List Int->Prop}{g:List Int}{A B G:PV}{S:Ks}{f:List Int->List (List Int×Int)}
abbrev yo(S:Ks)(f:List Int->List (List Int×Int)):PV:=.aX S (S.map λk=>.lst ((f k).map tK))
theorem IX{k:List Int}(h:k∈S):aN (yo S f) (ah k)=.ok (.lst ((f k).map tK)):=by
 show(Res.of (fy (ah k))).bind (λk=>Res.of (av _ _ k))=_
 rw [dg];show Res.of (av _ _ k)=_
 rw [sU _ h]
 rfl
theorem Kg(F:aO)(hO:∀k,O k->k∈xG)(hf:∀u∈S,O u/\∀t∈f u,E t.1 u t.2/\0<t.2/\t.2<=30)(p0:Nat){u:List Int}(hu:u∈S)(env:Sl)(h:Jn E O g A B G (.lst (S.map ah)) (yo S f) p0 none env):∃au,(((Tg.one 7).put (ah u) env).bind λau=>aJ F O0 au)=.ok (.nx au)/\Jn E O g A B G (.lst (S.map ah)) (yo S f) p0 none au:=by
 obtain⟨ks,ns,ag,s7,s8,s9,kl,rfl,_,C,hp,ha⟩:=h
 have e1:=IX (f:=f) hu
 obtain⟨ho,ht⟩:=hf u hu
 obtain⟨au,e2,J2⟩:=mn (body:=λx env=>((Tg.two 8 9).put x env).bind λau=>aJ F IH au) (g:=tK) (P:=Jn E O g A B G (.lst (S.map ah)) (yo S f) p0 (some (.val (ah u)))) (f u) (tW A B G (.lst (S.map ah)) (yo S f) ks ns ag (.val (ah u)) s8 s9 kl) (λt h env hj=>Jt F hO p0 ho t (ht t h).1 (ht t h).2.1 (ht t h).2.2 env hj) ⟨ks,ns,ag,_,s8,s9,kl,rfl,(λx z=>by cases z;rfl),C,hp,ha⟩
 obtain⟨CF,qX,Gk,t7,t8,t9,qe,rfl,_,C',Pa,NK⟩:=J2
 refine⟨_,?_,CF,qX,Gk,t7,t8,t9,qe,rfl,(λx z=>by cases z),C',Pa,NK⟩;simp! only [O0,tW,e1] at e2⊢;simp! only [e2]
theorem Ky(F:aO)(hO:∀k,O k->k∈xG)(hf:∀u∈S,O u/\∀t∈f u,E t.1 u t.2/\0<t.2/\t.2<=30){ks:Ks}{ns:List Int}(C:vZ E O g ks ns)(ag:Bool)(s7 s8 s9 kl:Ci.Slot):∃CF qX Gk t7 t8 t9 qe,aJ F OJ (tW A B G (.lst (S.map ah)) (yo S f) ks ns ag s7 s8 s9 kl)=.ok (.nx (tW A B G (.lst (S.map ah)) (yo S f) CF qX Gk t7 t8 t9 qe))/\vZ E O g CF qX/\(Gk=true->F5 CF qX<F5 ks ns):=by
 obtain⟨au,e2,J2⟩:=mn (body:=λx env=>((Tg.one 7).put x env).bind λau=>aJ F O0 au) (g:=ah) (P:=Jn E O g A B G (.lst (S.map ah)) (yo S f) (F5 ks ns) none) S (tW A B G (.lst (S.map ah)) (yo S f) ks ns false s7 s8 s9 kl) (λu hu env hj=>Kg F hO hf _ hu env hj) ⟨ks,ns,false,s7,s8,s9,kl,rfl,(λx z=>by cases z),C,zzE _,λz=>by cases z⟩
 obtain⟨CF,qX,Gk,t7,t8,t9,qe,rfl,_,C',_,NK⟩:=J2
 refine⟨CF,qX,Gk,t7,t8,t9,qe,?_,C',NK⟩;simp! only [OJ,tW] at e2⊢;simp! only [e2]
theorem xj(F:aO)(hO:∀k,O k->k∈xG)(hf:∀u∈S,O u/\∀t∈f u,E t.1 u t.2/\0<t.2/\t.2<=30):∀(n:Nat) (ks:Ks) (ns:List Int) (ag:Bool) (s7 s8 s9 kl:Ci.Slot),vZ E O g ks ns->0<n->(ag=true->F5 ks ns+1<n)->∃CF qX Gk t7 t8 t9 qe,dF (aQ F (.var 6)) (aJ F OJ) n (tW A B G (.lst (S.map ah)) (yo S f) ks ns ag s7 s8 s9 kl)=.ok (.nx (tW A B G (.lst (S.map ah)) (yo S f) CF qX Gk t7 t8 t9 qe))/\vZ E O g CF qX
 |0,_,_,_,_,_,_,_,_,h,_=>absurd h (Nat.lt_irrefl _)
 |n+1,ks,ns,false,s7,s8,s9,kl,C,_,_=>⟨ks,ns,false,s7,s8,s9,kl,rfl,C⟩
 |n+1,ks,ns,true,s7,s8,s9,kl,C,_,h=>by
  have h':=h rfl
  obtain⟨ks1,ns1,ag1,t7,t8,t9,qe,e1,C1,p1⟩:=Ky F (A:=A) (B:=B) (G:=G) hO hf C true s7 s8 s9 kl
  obtain⟨ks2,ns2,ag2,u7,u8,u9,u10,e2,C2⟩:=xj F hO hf n ks1 ns1 ag1 t7 t8 t9 qe C1 (by omega) (λz=>by have:=p1 z;omega)
  refine⟨ks2,ns2,ag2,u7,u8,u9,u10,?_,C2⟩;have ec:aQ F (.var 6) (tW A B G (.lst (S.map ah)) (yo S f) ks ns true s7 s8 s9 kl)=.ok (.bl true):=rfl
  simp only [dF,ec,qV,M4,if_true,e1,e2]
end
theorem Bu(f:List Int->PV):∀S:Ks,nL (S.map λk=>.tup [ah k,f k])=some (S.map λk=>(k,f k))
 |[]=>rfl
 |k::S=>by
  show(fy (ah k)).bind (λk'=>(nL (S.map λk=>.tup [ah k,f k])).map ((k',f k)::·))=_
  rw [dg,Bu f S]
  rfl
theorem FJ{S:Ks}(nd:S.Nodup)(f:List Int->PV):cR .dict [.lst (S.map λk=>.tup [ah k,f k])]=.ok (.aX S (S.map f)):=by
 show(Res.of (nL _)).bind _=_
 rw [Bu];show Res.ok (PV.aX (dA (S.map λk=>(k,f k)) [] []).1 (dA (S.map λk=>(k,f k)) [] []).2)=_
 rw [ke _ _ _ (by simpa [Function.comp_def] using nd)];simp [Function.comp_def]
def ET(f:List PV->Res PV):Prop:=∀aa w,Fl aa w->∀sl cl pr,Wk cl pr->∀g,fu aa g->∃ks ns,f [fl aa,wk sl cl pr,.lst [ah g]]=.ok (.aX ks (ns.map .int))/\vZ (Et aa sl cl pr) (fu aa) g ks ns
theorem Ic(F:aO)(hk:zy (F "_law_spots"))(hs:dO F):ET (ay F bw):=by
 intro aa w L sl cl pr V g hg;obtain⟨S,e1,hl,hS,hm⟩:=hk aa L.vd
 have:∀k,∃T:List (List Int×Int),k∈S->F "_law_steps" [fl aa,wk sl cl pr,ah k]=.ok (.lst (T.map tK))/\∀t∈T,E1 aa sl cl pr k t.1 t.2:=λk=>by
  by_cases h:k∈S
  ·obtain⟨r,c,rfl,ho⟩:=(hm k).1 h
   obtain⟨T,e,_,_,hT⟩:=hs aa w L sl cl pr V r c ho
   exact⟨T,λ_=>⟨e,λt ht=>(hT t.1 t.2).1 ht⟩⟩
  ·exact⟨[],λz=>absurd z h⟩
 obtain⟨f,hf⟩:=Classical.skolem.1 this
 have N4:∀u∈S,fu aa u/\∀t∈f u,Et aa sl cl pr t.1 u t.2/\0<t.2/\t.2<=30:=λu hu=>⟨(hm u).1 hu,λt ht=>by
  have:=(hf u hu).2 t ht
  exact⟨this,(wF L V this).1,(wF L V this).2.1⟩⟩
 have C0:vZ (Et aa sl cl pr) (fu aa) g [g] [0]:=⟨rfl,by simp,λk n h=>by
  by_cases hk:g=k
  ·subst hk;have:(if g=g then some (0:Int) else none)=some n:=h
   rw [if_pos rfl] at this;cases this;exact⟨hg,.here,by omega,by simp⟩
  ·have:(if g=k then some (0:Int) else none)=some n:=h
   rw [if_neg hk] at this;cases this⟩
 have hp:=Di [g] [0] λk n h=>by have:=(C0.CB k n h).2.2.2;simp at this;omega
 obtain⟨ks,ns,ag,t7,t8,t9,qe,e2,C⟩:=xj F (A:=fl aa) (B:=wk sl cl pr) (G:=.lst [ah g]) (S:=S) (f:=f) (λk hk=>PR L hk) N4 WN [g] [0] true .no .no .no .no C0 (by decide) (λ_=>by have:WN=1000000:=rfl;omega)
 refine⟨ks,ns,?_,C⟩;have l:(S.map ah).length<df:=by
  rw [zzl];exact zzV hl (by decide)
 have e3:=FJ hS.nodup λk=>.lst ((f k).map tK)
 have e4:ir [.lst [.tup [ah g,.int 0]]]=.ok (.aX [g] [.int 0]):=xm (T:=[(g,0)]) (by simp)
 have e6:bo (λx=>Res.ok (some (PV.tup [x,PV.int 0]))) [ah g]=.ok [.tup [ah g,.int 0]]:=rfl
 have l1:1<df:=by decide
 have db:bw.body=(.cons (.set 3 (.call "_law_spots" (.cons (.var 0) .nil))) (.cons (.set 4 (.blt .dict (.cons (.comp 1 [1,0] (.one 0) (.seq (.var 3)) (.tup (.cons (.var 0) (.cons (.call "_law_steps" (.cons (.var 2) (.cons (.var 1) (.cons (.var 0) .nil)))) .nil)))) .nil))) (.cons (.rT 5 (.comp 1 [] (.one 0) (.seq (.var 2)) (.tup (.cons (.var 0) (.cons (.cst (.int 0)) .nil))))) (.cons (.set 6 (.cst (.bl true))) (.cons (.E0 (.var 6) OJ) (.cons (.bK 5) (.cons (.ret (.var 5)) .nil))))))):=rfl
 have st:cu bw [fl aa,wk sl cl pr,.lst [ah g]]=[.val (fl aa),.val (wk sl cl pr),.val (.lst [ah g]),.no,.no,.no,.no,.no,.no,.no,.no]:=rfl
 have ar:cm bw [fl aa,wk sl cl pr,.lst [ah g]]=true:=rfl
 unfold ay;rw [ar,if_pos rfl,st,db];dsimp! only [e1,l];rw [bL (p:=ah) (g:=λk=>.tup [ah k,.lst ((f k).map tK)]) λk hk=>by dsimp! only [(hf k hk).1]]
 dsimp! only [tW,yo,zzF,List.map_nil] at e2;dsimp! only [e3,e4,e6,l1,zzL,List.length_nil,Nat.zero_add,e2,List.modify_succ_cons,List.modify_zero_cons,nU,El]
section
variable{aa:List Str}{sl:Bool}{cl pr:Int}
theorem Ag{g:List Int}{T:List (List Int×Int)}(P:FF aa sl cl pr g T){k:List Int}{c:Int}(h:Ft (Et aa sl cl pr) g k c):∃n,bv T k=some n/\n<=c:=by
 induction h with
 |here=>exact⟨0,P.2.2.1,Int.le_refl _⟩
 |go _ he ih=>
  obtain⟨n,h1,h2⟩:=ih
  obtain⟨m,h3,h4⟩:=P.2.2.2 _ n h1 _ _ he
  exact⟨m,h3,by omega⟩
theorem DY{g:List Int}(hg:fu aa g){k:List Int}{c:Int}(h:Ft (Et aa sl cl pr) g k c):fu aa k:=by
 cases h with
 |here=>exact hg
 |go _ he=>
  obtain⟨r,c,_,_,h1,_,h3,_⟩:=he
  exact⟨r,c,h1,h3⟩
theorem Qe{kr:Ks}{Vr:Vs}(hl:kr.length=Vr.length){S:Ks}(hm:∀k,k∈S↔k∈kr)(hS:xl S)(k:List Int)(n:Int):bv (S.map λk=>(k,cst kr Vr k)) k=some n↔∃q,av kr Vr k=some q/\q.1=n:=by
 have e:kk (S.map λk=>(k,cst kr Vr k))=S:=by simp [Function.comp_def]
 rw [mi (by rw [e];exact hS.nodup),List.mem_map];have hh:=bB (vs:=Vr) k hl
 constructor
 ·rintro ⟨x,hx,z⟩
  cases z;rw [cD.2 ((hm k).1 hx)] at hh;obtain⟨q,hq⟩:=Option.isSome_iff_exists.1 hh.symm
  exact⟨q,hq,by simp [cst,hq]⟩
 ·rintro ⟨q,hq,rfl⟩
  rw [hq] at hh;exact⟨k,(hm k).2 (cD.1 hh),by simp [cst,hq]⟩
theorem xI{g:List Int}{kr:Ks}{Vr:Vs}(R:DF (Et aa sl cl pr) g kr Vr){S:Ks}(hm:∀k,k∈S↔k∈kr)(hS:xl S):FF aa sl cl pr g (S.map λk=>(k,cst kr Vr k)):=by
 have e:kk (S.map λk=>(k,cst kr Vr k))=S:=by simp [Function.comp_def]
 have hb:=Qe R.len hm hS
 refine⟨zzT.2 λt ht=>?_,by rw [e];exact hS,?_,λv n hn u x he=>?_⟩
 ·have:bv (S.map λk=>(k,cst kr Vr k)) t.1=some t.2:=(mi (by rw [e];exact hS.nodup)).2 ht
  obtain⟨q,hq,h⟩:=(hb _ _).1 this
  exact zzh (h▸(R.bd _ q hq).1)
 ·obtain⟨q,hq,h⟩:=R.st
  have:=(R.bd _ q hq).1
  exact(hb _ _).2 ⟨q,hq,by omega⟩
 ·obtain⟨q,hq,rfl⟩:=(hb _ _).1 hn
  obtain⟨q',h1,h2⟩:=R.iN v q hq u x he
  exact⟨q'.1,(hb _ _).2 ⟨q',h1,rfl⟩,by omega⟩
theorem Ng(F:aO)(ho:jX F)(hw:∀i,F "is_whole" [.int i]=.ok (.bl true))(Uy:∀b,F "is_whole" [.bl b]=.ok (.bl false))(R:mD aa){x:PV}(h:Itm aa x):ay F bS [fl aa,x]=.ok (.bl (pb x)):=by
 rcases h with⟨t,rfl,h⟩|rfl|⟨k,b,rfl,h⟩|⟨k,n,rfl⟩
 ·exact Br F ho hw R h t.2
 ·exact xN F
 ·exact A6 F ho Uy R h b
 ·exact xP F _
theorem Mp(F:aO){S:Ks}(hS:∀k,k∈S↔fu aa k){x:PV}(h:Itm aa x):ay F aM [.lst (S.map ah),x]=.ok (.bl (pb x))/\Ny x:=by
 rcases h with⟨t,rfl,h⟩|rfl|⟨k,b,rfl,h⟩|⟨k,n,rfl⟩
 ·exact⟨yG F ((hS _).2 h),xf t 6⟩
 ·exact⟨uI F _,rfl⟩
 ·refine⟨xJ F ((hS _).2 h) b,?_⟩;show(Ci.plain 7 (ah k)&&(Ci.plain 7 (.bl b)&&true))=true
  rw [mH 6]
  rfl
 ·refine⟨vx F _ _,?_⟩;show(Ci.plain 7 (ah k)&&(Ci.plain 7 (.int n)&&true))=true
  rw [mH 6]
  rfl
theorem j6(F:aO){g p:PV}(e:F "has_rising_entries" [fl aa,p]=.ok (.bl false)):ay F bM [fl aa,wk sl cl pr,g,p]=.ok (.bl false):=by
 simp! only [bM,e]
theorem Bw(F:aO)(xs:List PV):ay F aD [fl aa,.tup xs]=.ok (.bl false):=rfl
theorem Cr(F:aO):ay F aD [fl aa,.az]=.ok (.bl false):=rfl
end
def PY(f1 f2:List PV->Res PV):Prop:=∀aa w,Fl aa w->∀sl cl pr,Wk cl pr->∀g p,CG aa p->∃b,f1 [fl aa,wk sl cl pr,ah g,p]=.ok (.bl b)/\f2 [fl aa,wk sl cl pr,ah g,p]=.ok (.bl b)/\(b=true->∃T:List (List Int×Int),p=.lst (T.map tK)/\T.length<=40/\FF aa sl cl pr g T)
theorem mh{n:Nat}(h:n<=40):n<df:=zzV h (by decide)
theorem Mr(F1 F2 F3:aO)(O6:F1 "has_rising_entries"=ay F3 aD)(hk:pC (F1 "keeps_steps_to"))(he:∀aa,mD aa->∀x,Itm aa x->F3 "is_entry" [fl aa,x]=.ok (.bl (pb x)))(hs:dO F2)(hp:zy (F2 "_law_spots"))(hl:∀aa (S:Ks),(∀k,k∈S↔fu aa k)->∀x,Itm aa x->F2 "_law_is_entry" [.lst (S.map ah),x]=.ok (.bl (pb x))/\Ny x):PY (ay F1 bM) (ay F2 ba):=by
 intro aa w L sl cl pr V g p hc;obtain⟨S,e1,_,_,hS⟩:=hp aa L.vd
 rcases hc with⟨T,rfl,CA,ho⟩|⟨xs,rfl,CA,hb,hi⟩|⟨xs,rfl⟩|rfl
 ·refine⟨_,sO F1 (λaa R T hT ho=>?_) hk aa w L sl cl pr V g T (mh CA) ho,K9 F2 hs L V e1 hS g (λt ht=>(hl aa S hS _ (.inl ⟨t,rfl,ho t ht⟩)).1) (mh CA),λh=>⟨T,rfl,CA,mJ.1 h⟩⟩
  rw [O6];exact wW F3 (λt ht=>he aa R _ (.inl ⟨t,rfl,ho t ht⟩)) hT
 ·refine⟨false,j6 F1 ?_,w5 F2 e1 _ (λx hx=>hl aa S hS x (hi x hx)) (mh CA) hb,λz=>by cases z⟩
  rw [O6];exact AU F3 (b:=pb) (λx hx=>he aa L.vd x (hi x hx)) (mh CA) hb
 ·exact⟨false,j6 F1 (by rw [O6];exact Bw F3 xs),Dq F2 e1 _ xs,λz=>by cases z⟩
 ·exact⟨false,j6 F1 (by rw [O6];exact Cr F3),DX F2 e1 _,λz=>by cases z⟩
noncomputable def xo:Ss:=(.cons (.ite (.not (.call "_law_once" (.cons (.comp 1 [1] (.one 0) (.seq (.var 0)) (.bin .add (.var 0) (.bin .mul (.cst (.int 7919)) (.var 1)))) .nil)))
 (.cons (.ret (.cst (.bl false)))
 .nil)
 .nil)
 (.cons (.ite (.cmp .eq (.var 0) (.lst .nil))
  (.cons .brk
  .nil)
  .nil)
 .nil))
theorem rB(F:aO)(ho:∀ns,F "_law_once" [ef ns]=.ok (.bl true))(ns:List Int)(hl:ns.length<=63)(t:Int):aJ F xo [.val (ef ns),.val (.int t)]=.ok (if ns=[] then .bk [.val (ef ns),.val (.int t)] else .nx [.val (ef ns),.val (.int t)]):=by
 have l:ns.length<df:=zzV hl (by decide)
 have s:(aV 7919||aV t)=true:=by rw [Bool.or_eq_true];exact .inl (by decide)
 dsimp! only [xo,OO,zzl,l];rw [bL (g:=λn:Int=>.int (n+7919*t)) (λn _=>by dsimp! only [s])]
 have e:=ho (ns.map λn=>n+7919*t)
 simp only [ef,List.map_map,Function.comp_def] at e;dsimp! only [e,eq_nil]
 by_cases h:ns=[]
 ·dsimp! only [h,decide_true]
 ·dsimp! only [h,decide_false]
theorem HJ(F:aO)(ho:∀ns,F "_law_once" [ef ns]=.ok (.bl true))(ns:List Int)(hl:ns.length<=63):ay F oe [ef ns]=.ok (.bl true):=by
 have e:∃t:Int,forL (λx env=>((Tg.one 1).put x env).bind λau=>aJ F xo au) (eN 0 (9:Int).toNat) [.val (ef ns),.no]=.ok (.nx [.val (ef ns),.val (.int t)]):=by
  rw [show eN 0 (9:Int).toNat=[.int 0,.int 1,.int 2,.int 3,.int 4,.int 5,.int 6,.int 7,.int 8] from rfl]
  by_cases h:ns=[]
  ·refine⟨0,?_⟩;simp only [forL,Ox,qV,List.set_cons_succ,List.set_cons_zero,rB F ho ns hl,if_pos h]
  ·refine⟨8,?_⟩;simp only [forL,Ox,qV,List.set_cons_succ,List.set_cons_zero,rB F ho ns hl,h,if_false]
 obtain⟨t,e⟩:=e
 have s:aY 9=true:=by decide
 dsimp! only [xo] at e;dsimp! only [oe,s,e]
theorem iQ{α:Type}{f:PV->Res (Option PV)}{p:α->PV}:∀{xs:List α},(∀x∈xs,f (p x)=.ok none)->bo f (xs.map p)=.ok []
 |[],_=>rfl
 |x::xs,h=>by
  simp only [zzF,bo,h x (zzP ..),L0,qV,iQ (xs:=xs) λy hy=>h y (zzI _ hy),oc]
theorem TR(b:Bool):iT (.bl b) (.bl b)=.ok (.bl false):=by cases b<;>rfl
theorem Rg:gM (.bl true) (.bl true)=.ok (.bl false):=rfl
theorem N3:iz (.lst []) (.lst [])=.ok (.bl true):=rfl
theorem NN:iT (.lst []) (.lst [])=.ok (.bl false):=rfl
theorem Sq(xs:List PV):cR .list [.lst xs]=.ok (.lst xs):=rfl
noncomputable def RQ:Ss:=(.cons (.set 8 (.call "_law_costs_to" (.cons (.var 1) (.cons (.var 2) (.cons (.lst (.cons (.var 4) .nil)) .nil)))))
 (.cons (.set 9 (.blt .dict (.cons (.var 6) .nil)))
 (.cons (.ite (.cmp .ne (.cH 1 [8,9] (.one 0) (.seq (.var 9)) (.and (.cmp .Bj (.var 0) (.var 1)) (.cmp .gt (.sub (.var 2) (.var 0)) (.sub (.var 1) (.var 0)))) (.var 0)) (.lst .nil))
  (.cons (.ret (.cst (.bl false)))
  .nil)
  .nil)
 (.cons (.ret (.cmp .eq (.cH 1 [9] (.one 0) (.seq (.var 8)) (.cmp .lV (.var 0) (.var 1)) (.var 0)) (.lst .nil)))
 .nil))))
noncomputable def OI:Ss:=(.cons (.set 6 (.call "_law_changed" (.cons (.var 0) (.cons (.cst (.int 50)) (.cons (.var 3) (.cons (.blt .list (.cons (.var 5) .nil)) .nil))))))
 (.cons (.set 7 (.call "is_paper" (.cons (.var 1) (.cons (.var 2) (.cons (.var 4) (.cons (.var 6) .nil))))))
 (.cons (.ite (.cmp .ne (.var 7) (.call "_law_due" (.cons (.var 1) (.cons (.var 2) (.cons (.var 4) (.cons (.var 6) .nil))))))
  (.cons (.ret (.cst (.bl false)))
  .nil)
  .nil)
 (.cons (.ite (.not (.var 7))
  (.cons (.ret (.cst (.bl true)))
  .nil)
  .nil) RQ))))
theorem Eh:cF.body=(.cons (.set 1 (.call "_law_floor" (.cons (.var 0) (.cons (.cst (.int 0)) (.cons (.cst (.int 5)) .nil)))))
 (.cons (.set 2 (.call "_law_walker" (.cons (.var 0) (.cons (.cst (.int 40)) .nil))))
 (.cons (.set 3 (.call "_law_spots" (.cons (.var 1) .nil)))
 (.cons (.ite (.cmp .eq (.var 3) (.lst .nil))
  (.cons (.ret (.cst (.bl true)))
  .nil)
  .nil)
 (.cons (.set 4 (.sub (.var 3) (.call "_law_pick" (.cons (.var 0) (.cons (.cst (.int 49)) (.cons (.blt .len (.cons (.var 3) .nil)) .nil))))))
 (.cons (.set 5 (.call "distances_to" (.cons (.var 1) (.cons (.var 2) (.cons (.var 4) .nil)))))
 (.cons (.ite (.cmp .Aa (.call "is_paper" (.cons (.var 1) (.cons (.var 2) (.cons (.var 4) (.cons (.var 5) .nil))))) (.cst (.bl true)))
  (.cons (.ret (.cst (.bl false)))
  .nil)
  .nil) OI))))))):=rfl
theorem Kh(F:aO)(hc:ET (F "_law_costs_to")){aa:List Str}{w:Nat}(L:Fl aa w){sl:Bool}{cl pr:Int}(V:Wk cl pr){g:List Int}(hg:fu aa g){T:List (List Int×Int)}(CA:T.length<=40)(P:FF aa sl cl pr g T)(A S D:PV):aJ F RQ [.val A,.val (fl aa),.val (wk sl cl pr),.val S,.val (ah g),.val D,.val (.lst (T.map tK)),.val (.bl true),.no,.no]=.ok (.rt (.bl true)):=by
 obtain⟨ks,ns,e1,C⟩:=hc aa w L sl cl pr V g hg
 have e2:cR .dict [.lst (T.map tK)]=.ok (bD T):=xm P.2.1.nodup
 have l1:((kk T).map ah).length<df:=by
  rw [zzl,zzl];exact mh CA
 have l2:(ks.map ah).length<df:=by
  rw [zzl];exact mh (zzU (C.le λk hk=>PR L hk) (by decide))
 dsimp! only [RQ,e1,e2,RN,l1];rw [iQ λk hk=>by
  have g2:=bB (vs:=ns) k C.len
  cases hm:av ks ns k with
  |none=>
   rw [hm] at g2;have g3:bO ks k=false:=g2
   dsimp! only [inD,g3]
  |some m=>
   rw [hm] at g2;have g3:bO ks k=true:=g2
   obtain⟨n,hn,hle⟩:=Ag P (C.CB k m hm).2.1
   have e3:=j8 hn
   have e4:=uX hm
   have:¬(m<n):=by omega
   dsimp! only [inD,g3,e3,e4,this,decide_false]]
 dsimp! only [NN,RN,l2];rw [iQ λk hk=>by
  obtain⟨m,hm⟩:=C.has hk
  obtain⟨n,hn,_⟩:=Ag P (C.CB k m hm).2.1
  have g3:bO (kk T) k=true:=by rw [j4,hn];rfl
  dsimp! only [gB,g3]]
 dsimp! only [N3]
theorem DJ(F:aO)(hp:fL F)(DS:∀ns,∃aa w,Fl aa w/\F "_law_floor" [ef ns,.int 0,.int 5]=.ok (fl aa))(U3:∀ns,∃sl cl pr,Wk cl pr/\F "_law_walker" [ef ns,.int 40]=.ok (wk sl cl pr))(Hb:zy (F "_law_spots"))(hd:pR (F "distances_to"))(wo:∀aa ns (S:Ks),0<S.length->(∀k∈S,fu aa k)->∀T:List (List Int×Int),0<T.length->T.length<=36->(∀t∈T,fu aa t.1)->∃p,F "_law_changed" [ef ns,.int 50,.lst (S.map ah),.lst (T.map tK)]=.ok p/\CG aa p)(Vu:PY (F "is_paper") (F "_law_due"))(Vb:vC (F "is_paper"))(hc:ET (F "_law_costs_to"))(ns:List Int):ay F cF [ef ns]=.ok (.bl true):=by
 obtain⟨aa,w,L,e1⟩:=DS ns
 obtain⟨sl,cl,pr,V,e2⟩:=U3 ns
 obtain⟨S,e3,l36,_,hS⟩:=Hb aa L.vd
 have q0:iz (.lst (S.map ah)) (.lst [])=.ok (.bl (decide (S=[]))):=Vf S []
 have st:cu cF [ef ns]=[.val (ef ns),.no,.no,.no,.no,.no,.no,.no,.no,.no]:=rfl
 have ar:cm cF [ef ns]=true:=rfl
 unfold ay;rw [ar,if_pos rfl,st,Eh]
 by_cases h2:S=[]
 ·rw [zzh h2] at q0;dsimp! only [e1,e2,e3,q0]
 ·rw [decide_eq_false h2] at q0;have Pn:=List.length_pos_iff.2 h2
  obtain⟨m,p0,m0,m1⟩:=hp ns 49 S.length (by decide) (by omega)
  obtain⟨i,rfl⟩:=Int.eq_ofNat_of_zero_le m0
  have hi:i<S.length:=by omega
  have e4:=lh (K:=S) (i:=i) (j:=(i:Int)) rfl hi
  have hg:fu aa (S.getD i []):=(hS _).1 (by rw [zzK,zzg hi];exact List.getElem_mem hi)
  generalize S.getD i []=g at e4 hg
  obtain⟨kr,Vr,K,e5,R,k36,hm,hK⟩:∃kr Vr K,F "distances_to" [fl aa,wk sl cl pr,ah g]=.ok (.lst (K.map λk=>tK (k,cst kr Vr k)))/\DF (Et aa sl cl pr) g kr Vr/\K.length<=36/\(∀k,k∈K↔k∈kr)/\xl K:=by
   obtain⟨r,c,rfl,ho⟩:=hg
   exact hd aa w L sl cl pr V r c ho
  have eT:(K.map λk=>tK (k,cst kr Vr k))=(K.map λk=>(k,cst kr Vr k)).map tK:=by rw [List.map_map];rfl
  rw [eT] at e5;have P0:=xI R hm hK
  have hO:∀t∈K.map λk=>(k,cst kr Vr k),fu aa t.1:=λt ht=>by
   obtain⟨k,hk,rfl⟩:=List.mem_map.1 ht
   have hh:=bB (vs:=Vr) k R.len
   rw [cD.2 ((hm k).1 hk)] at hh;obtain⟨q,hq⟩:=Option.isSome_iff_exists.1 hh.symm
   exact DY hg (R.CB k q hq).2
  have l0:0<(K.map λk=>(k,cst kr Vr k)).length:=by
   rw [zzl];obtain⟨q,hq,_⟩:=R.st
   have hh:=bB (vs:=Vr) g R.len
   rw [hq] at hh;exact List.length_pos_of_mem ((hm g).2 (cD.1 hh))
  have l1:(K.map λk=>(k,cst kr Vr k)).length<=36:=by rw [zzl];exact k36
  generalize (K.map λk=>(k,cst kr Vr k))=T at e5 P0 hO l0 l1
  have e6:=Vb aa w L sl cl pr V g T (mh (by omega)) hO
  rw [qu P0] at e6;obtain⟨p,e7,hp7⟩:=wo aa ns S Pn (λk hk=>(hS k).1 hk) T l0 l1 hO
  obtain⟨b,e8,e9,hb⟩:=Vu aa w L sl cl pr V g p hp7
  have lS:((S.map ah).length:Int)=(S.length:Int):=by simp
  have eM:aJ F OI [.val (ef ns),.val (fl aa),.val (wk sl cl pr),.val (.lst (S.map ah)),.val (ah g),.val (.lst (T.map tK)),.no,.no,.no,.no]=.ok (.rt (.bl true)):=by
   cases b with
   |false=>dsimp! only [OI,Sq,e7,e8,e9,TR]
   |true=>
    obtain⟨T',rfl,CA,P⟩:=hb rfl
    have UB:=Kh F hc L V hg CA P (ef ns) (.lst (S.map ah)) (.lst (T.map tK))
    dsimp! only [OI,Sq,e7,e8,e9,TR,UB]
  dsimp! only [e1,e2,e3,q0,lS,p0,e4,e5,e6,Rg,eM]
theorem Of(ns:List Int)(hl:ns.length<=63):ay (den Uj) oe [ef ns]=.ok (.bl true):=by
 have pick:∀F:aO,F "_law_pick"=ay (den T1) bR->fL F:=λF hF ns k q hk hq=>by
  rw [hF];exact Fs (den T1) (λns k hk=>by rw [Ob];exact D5 _ ns k hk) ns k q hk hq
 have vI:∀F:aO,F "is_open"=ay (den GY) cK->jX F:=λF hF aa R r c=>by
  rw [hF];exact Ee _ (λr c=>by rw [HH];exact u0 _ (λi=>by rw [MW];exact i5 _ i) r c) (λaa R r c=>by rw [Ex];exact Mz _ aa R r c) aa R r c
 have Be:∀F:aO,F "need_open"=ay (den LP) b9->uK F:=λF hF aa R r c h=>by
  rw [hF];exact pJ _ (vI _ Gd) aa R r c h
 have step:∀F:aO,F "step_cost"=ay (den Jp) bF->uF F:=λF hF aa w L sl cl pr V r c r' c' h h'=>by
  rw [hF];exact Fq _ (λr c r' c'=>by rw [K5];exact yc _ r c r' c') (λaa R r c r' c'=>by rw [Ds];exact uJ _ (vI _ EB) R r c r' c') (λaa w L r c h=>by rw [FZ];exact xR _ (Be _ DL) L h) L V h h'
 have VD:Gg (den L3):=λaa R r c a b d e=>by
  rw [EA];exact JE _ (vI _ D3) R a b d e
 have steps:qC (den JD):=by
  unfold qC;rw [Dp];exact zN _ (Be _ Df) VD (step _ EF)
 have wU:∀F:aO,F "steps_to"=ay (den JD) cT->lG F:=λF hF=>by
  unfold lG;rw [hF];exact vc _ steps (step _ Fj)
 have QA:Lc (den NS):=by
  unfold Lc;rw [FH];exact FC _ (wU _ Eb)
 have dist:pR (den tX "distances_to"):=by
  rw [E9];exact yP _ (λaa w L sl cl pr V r c h=>by rw [D7];exact rL _ (Be _ E7) QA L V h) (λE s kr Vr R h=>by rw [Ju];exact yI _ R h)
 have AL:∀F:aO,F "_law_steps"=ay (den L7) bE->dO F:=λF hF=>by
  unfold dO;rw [hF];exact y8 _ (λaa w L sl cl pr V r c r' c' h h' hf=>by rw [D9];exact uZ _ L V h h' hf)
 have Qs:∀F:aO,F "_law_spots"=ay (den T4) bQ->zy (F "_law_spots"):=λF hF=>HV λaa R=>by
  rw [hF];exact zU _ aa R
 have keeps:pC (den Nx "keeps_steps_to"):=by
  rw [Dt];exact Ca _ (wU _ EX)
 have ent:∀aa,mD aa->∀x,Itm aa x->den Nw "is_entry" [fl aa,x]=.ok (.bl (pb x)):=λaa R x hx=>by
  rw [E8];exact Ng _ (vI _ Dr) (λi=>by rw [BW];exact i5 _ i) (λb=>by rw [BW];rfl) R hx
 have th:PY (den tX "is_paper") (den tX "_law_due"):=by
  rw [wm,DA];exact Mr _ _ (den Nw) wZ keeps ent (AL _ EY) (Qs _ Lb) λaa S hS x hx=>by
   rw [DH];exact Mp _ hS hx
 have pap:vC (den tX "is_paper"):=by
  rw [wm];exact sO _ (λaa R T hT ho=>by rw [wZ];exact wW _ (λt ht=>ent aa R _ (.inl ⟨t,rfl,ho t ht⟩)) hT) keeps
 have Ut:ET (den tX "_law_costs_to"):=by
  rw [En];exact Ic _ (Qs _ Lm) (AL _ Fv)
 refine HJ _ (λns=>?_) ns hl;rw [Ge];exact DJ _ (pick _ Je) (λns=>by rw [Iw];exact yZ _ (pick _ N5) ns 5 (by decide) (by decide)) (λns=>by rw [KA];exact ya _ (pick _ NG) ns 40 (by decide)) (Qs _ Jv) dist (λaa ns S h0 hS T t0 tl ho=>by rw [EG];exact KZ _ (pick _ Lz) ns h0 hS t0 tl ho) th pap Ut ns
end K11
namespace Hd
open PySem PySem.W L2
noncomputable abbrev fo(n:Str)(st:Stmt)(pm:Value)(c:Addr):Obj:=⟨.type "function",none,.func (fnOf n n (du st) (cV st) (bh st) .none .none .none pm none (.ref c) .none),#[]⟩
noncomputable abbrev co(n:Str)(a:Nat)(L A:Int)(r:Nat)(x y:Value)(q z:Nat):Obj:={cls:=.type "code",data:=.fields #[.str n a,.str n (a+1),.str "/claim/cut.py" (a+2),.int L 0,.int A 0,.int 0 0,.int 0 0,.int 3 0,.ref r,.bool Bool.true,.int 181 0,.ref (r+1),.none,x,y,.ref q,.int z 0,.int L 0,.str "/claim/cut.py" (z+1)]}
def Ry(s:Stmt):Pos:=match s with
 |.FunctionDef _ _ _ _ _ _ _ _ _ p=>p
 |_=>⟨0,0,0,0⟩
theorem ent{K:Frag}{ts:List (Addr×Str)}{n:Str}{st:Stmt}(f c:Addr)(pm:Value)(a:nsIn K mainGlobals n=some (some (.ref f)):=by kernel_rfl)(l:K.lookup f=some (fo n st pm c):=by kernel_rfl)(d:codeIn K (.ref c) n=true:=by kernel_rfl)(k:keepIn K (.ref f)=true:=by kernel_rfl):Ci.yD K ts false n st:=Ci.Ro a l d k
theorem MS{K:Frag}{ts:List (Addr×Str)}{n:Str}{st:Stmt}(f c p:Addr)(pm:Value)(ck:Ci.gL K c p)(m:(p,Ci.n4 n)∈ts)(u:∀q∈ts,q.1=p->q.2=Ci.n4 n)(a:nsIn K mainGlobals n=some (some (.ref f)):=by kernel_rfl)(l:K.lookup f=some (fo n st pm c):=by kernel_rfl)(d:codeIn K (.ref c) n=true:=by kernel_rfl)(k:keepIn K (.ref f)=true:=by kernel_rfl):Ci.yD K ts true n st:=⟨f,_,_,_,_,_,_,_,_,_,a,l,d,k,λ_=>⟨c,p,rfl,ck,m,λq' h=>u _ h rfl⟩⟩
theorem ac{K:Frag}{ts:List (Addr×Str)}{Γ:Ci.Pg}{r:Ci.Row}{l:Ci.eL}(e:Ci.yD K ts r.hl r.h r.st)(s:Ci.cJ (Γ.at l r.hl) r.h r.d r.st)(t:Ci.AllK K ts Γ l)(a:(l.map (·.f)).contains r.f=false:=by decide+kernel)(b:(r.d.iN.isNone==!Ci.gv r.f)=true:=by decide+kernel)(c:r.d.iN.isNone=true->r.f=r.h:=by first|exact λ_=>rfl|exact λz=>absurd z (by decide)):Ci.AllK K ts Γ (r::l):=⟨e,s,⟨a,b,c⟩,t⟩
theorem B0{K L:Frag}{b:Addr}{o:Obj}(e:K.lookup b=some o):(K++L).lookup b=some o:=by
 rw [List.lookup_append,e]
 rfl
end Hd
namespace K11
open PySem L2 Ci
abbrev lw:=PySem.Challenge.rw_cellways_k11_whole_paper
def top(i:Nat):Stmt:=PySem.Challenge.pw_cellways_k11_whole_paper.main.body.getD i (.Pass ⟨0,0,0,0⟩)
noncomputable def K(P:Params):PySem.W.Frag:=[(2,{cls:=.none,data:=.dict #[]}),
 (3,{cls:=.type "dict",data:=.dict #[Hd.de P "__name__" 165 (.str "law_cellways_k11_whole_paper" 412),Hd.de P "__doc__" 166 (.none),Hd.de P "__package__" 167 (.none),Hd.de P "__loader__" 168 (.builtin "__main__.__loader__#opaque"),Hd.de P "__spec__" 169 (.none),Hd.de P "__annotations__" 170 (.ref 6),Hd.de P "__builtins__" 171 (.ref 4),Hd.de P "__file__" 173 (.str "/claim/cut.py" 172),Hd.de P "__cached__" 174 (.none),Hd.de P "FloorError" 206 (.ref 24),Hd.de P "NoSpot" 222 (.ref 37),Hd.de P "WALL" 226 (.str "#" 225),Hd.de P "STRAIGHT_COST" 228 (.int 2 227),Hd.de P "SLANTING_COST" 230 (.int 3 229),Hd.de P "is_whole" 237 (.ref 46),Hd.de P "is_spot" 244 (.ref 53),Hd.de P "is_on_floor" 252 (.ref 60),Hd.de P "is_open" 260 (.ref 67),Hd.de P "need_open" 268 (.ref 74),Hd.de P "height_at" 276 (.ref 81),Hd.de P "open_spots_beside" 287 (.ref 88),Hd.de P "are_beside" 295 (.ref 95),Hd.de P "has_open_corners" 304 (.ref 102),Hd.de P "step_cost" 317 (.ref 109),Hd.de P "steps_from" 329 (.ref 116),Hd.de P "steps_to" 335 (.ref 121),Hd.de P "spread" 352 (.ref 128),Hd.de P "spread_to" 364 (.ref 135),Hd.de P "rising_costs" 370 (.ref 140),Hd.de P "distances_to" 379 (.ref 147),Hd.de P "is_entry" 387 (.ref 154),Hd.de P "has_rising_entries" 393 (.ref 159),Hd.de P "is_paper" 399 (.ref 164),Hd.de P "keeps_steps_to" 411 (.ref 171),Hd.de P "_law_cell" 421 (.ref 178),Hd.de P "_law_pick" 431 (.ref 185),Hd.de P "_law_floor" 449 (.ref 192),Hd.de P "_law_walker" 457 (.ref 199),Hd.de P "_law_spots" 463 (.ref 204),Hd.de P "_law_cost" 475 (.ref 211),Hd.de P "_law_steps" 489 (.ref 218),Hd.de P "_law_costs" 495 (.ref 223),Hd.de P "_law_costs_to" 501 (.ref 228),Hd.de P "_law_is_entry" 509 (.ref 235),Hd.de P "_law_due" 515 (.ref 240),Hd.de P "_law_changed" 521 (.ref 245),Hd.de P "_law_once" 527 (.ref 250),Hd.de P "law" 533 (.ref 255)] 48}),
 (4,{cls:=.type "module",dict:=some builtinsNs,data:=.plain}),
 (23,{cls:=.type "dict",data:=.dict #[Hd.de P "__module__" 196 (.str "cellways.errors" 187),Hd.de P "__firstlineno__" 200 (.int 2 199),Hd.de P "__static_attributes__" 201 (.ref 22),Hd.de P "__weakref__" 203 (.ref 25),Hd.de P "__doc__" 204 (.none)] 3}),
 (24,{cls:=.type "type",data:=.cls {name:="FloorError",bases:=[.type "ValueError"],mro:=[.ref 24,.type "ValueError",.type "Exception",.type "BaseException",.type "object"],ns:=23,qualname:="FloorError",subclasses:=[.ref 37]},slots:=#[some (.ref 15),none,some (.str "FloorError" 189),some (.str "FloorError" 197),some (.builtin "ValueError.__new__"),some (.bool Bool.true)]}),
 (36,{cls:=.type "dict",data:=.dict #[Hd.de P "__module__" 214 (.str "cellways.errors" 187),Hd.de P "__firstlineno__" 218 (.int 4 217),Hd.de P "__static_attributes__" 219 (.ref 35),Hd.de P "__doc__" 220 (.none)] 2}),
 (37,{cls:=.type "type",data:=.cls {name:="NoSpot",bases:=[.ref 24],mro:=[.ref 37,.ref 24,.type "ValueError",.type "Exception",.type "BaseException",.type "object"],ns:=36,qualname:="NoSpot"},slots:=#[some (.ref 28),none,some (.str "NoSpot" 207),some (.str "NoSpot" 215),some (.builtin "ValueError.__new__"),some (.bool Bool.true)]}),
 (45,Hd.co "is_whole" 231 10 1 40 (.ref 42) (.ref 43) 44 235),
 (46,Hd.fo "is_whole" (top 7) (.str "cellways.floors" 223) 45),
 (52,Hd.co "is_spot" 238 12 1 47 (.ref 49) (.ref 50) 51 242),
 (53,Hd.fo "is_spot" (top 8) (.str "cellways.floors" 223) 52),
 (59,Hd.co "is_on_floor" 245 14 2 54 (.ref 56) (.ref 57) 58 250),
 (60,Hd.fo "is_on_floor" (top 9) (.str "cellways.floors" 223) 59),
 (66,Hd.co "is_open" 253 16 2 61 (.ref 63) (.ref 64) 65 258),
 (67,Hd.fo "is_open" (top 10) (.str "cellways.floors" 223) 66),
 (73,Hd.co "need_open" 261 18 2 68 (.ref 70) (.ref 71) 72 266),
 (74,Hd.fo "need_open" (top 11) (.str "cellways.floors" 223) 73),
 (80,Hd.co "height_at" 269 21 2 75 (.ref 77) (.ref 78) 79 274),
 (81,Hd.fo "height_at" (top 12) (.str "cellways.floors" 223) 80),
 (87,Hd.co "open_spots_beside" 277 24 2 82 (.ref 84) (.ref 85) 86 285),
 (88,Hd.fo "open_spots_beside" (top 13) (.str "cellways.floors" 223) 87),
 (94,Hd.co "are_beside" 288 31 2 89 (.ref 91) (.ref 92) 93 293),
 (95,Hd.fo "are_beside" (top 14) (.str "cellways.floors" 223) 94),
 (101,Hd.co "has_open_corners" 296 33 3 96 (.ref 98) (.ref 99) 100 302),
 (102,Hd.fo "has_open_corners" (top 15) (.str "cellways.floors" 223) 101),
 (108,Hd.co "step_cost" 305 35 4 103 (.ref 105) (.ref 106) 107 315),
 (109,Hd.fo "step_cost" (top 16) (.str "cellways.floors" 223) 108),
 (115,Hd.co "steps_from" 318 46 3 110 (.ref 112) (.ref 113) 114 327),
 (116,Hd.fo "steps_from" (top 17) (.str "cellways.floors" 223) 115),
 (120,Hd.co "steps_to" 330 54 3 117 .none .none 119 333),
 (121,Hd.fo "steps_to" (top 18) (.str "cellways.floors" 223) 120),
 (127,Hd.co "spread" 338 57 2 122 (.ref 124) (.ref 125) 126 350),
 (128,Hd.fo "spread" (top 20) (.str "cellways.ways" 336) 127),
 (134,Hd.co "spread_to" 353 70 3 129 (.ref 131) (.ref 132) 133 362),
 (135,Hd.fo "spread_to" (top 21) (.str "cellways.ways" 336) 134),
 (139,Hd.co "rising_costs" 365 74 1 136 .none .none 138 368),
 (140,Hd.fo "rising_costs" (top 22) (.str "cellways.ways" 336) 139),
 (146,Hd.co "distances_to" 371 76 3 141 (.ref 143) (.ref 144) 145 377),
 (147,Hd.fo "distances_to" (top 23) (.str "cellways.ways" 336) 146),
 (153,Hd.co "is_entry" 380 78 2 148 (.ref 150) (.ref 151) 152 385),
 (154,Hd.fo "is_entry" (top 24) (.str "cellways.ways" 336) 153),
 (158,Hd.co "has_rising_entries" 388 82 2 155 .none .none 157 391),
 (159,Hd.fo "has_rising_entries" (top 25) (.str "cellways.ways" 336) 158),
 (163,Hd.co "is_paper" 394 86 4 160 .none .none 162 397),
 (164,Hd.fo "is_paper" (top 26) (.str "cellways.ways" 336) 163),
 (170,Hd.co "keeps_steps_to" 400 93 4 165 (.ref 167) (.ref 168) 169 409),
 (171,Hd.fo "keeps_steps_to" (top 27) (.str "cellways.ways" 336) 170),
 (177,Hd.co "_law_cell" 414 99 2 172 (.ref 174) (.ref 175) 176 419),
 (178,Hd.fo "_law_cell" (top 29) (.str "law_cellways_k11_whole_paper" 412) 177),
 (184,Hd.co "_law_pick" 422 105 3 179 (.ref 181) (.ref 182) 183 429),
 (185,Hd.fo "_law_pick" (top 30) (.str "law_cellways_k11_whole_paper" 412) 184),
 (191,Hd.co "_law_floor" 432 108 3 186 (.ref 188) (.ref 189) 190 447),
 (192,Hd.fo "_law_floor" (top 31) (.str "law_cellways_k11_whole_paper" 412) 191),
 (198,Hd.co "_law_walker" 450 121 2 193 (.ref 195) (.ref 196) 197 455),
 (199,Hd.fo "_law_walker" (top 32) (.str "law_cellways_k11_whole_paper" 412) 198),
 (203,Hd.co "_law_spots" 458 123 1 200 .none .none 202 461),
 (204,Hd.fo "_law_spots" (top 33) (.str "law_cellways_k11_whole_paper" 412) 203),
 (210,Hd.co "_law_cost" 464 128 4 205 (.ref 207) (.ref 208) 209 473),
 (211,Hd.fo "_law_cost" (top 34) (.str "law_cellways_k11_whole_paper" 412) 210),
 (217,Hd.co "_law_steps" 476 138 3 212 (.ref 214) (.ref 215) 216 487),
 (218,Hd.fo "_law_steps" (top 35) (.str "law_cellways_k11_whole_paper" 412) 217),
 (227,Hd.co "_law_costs_to" 496 160 3 224 .none .none 226 499),
 (228,Hd.fo "_law_costs_to" (top 37) (.str "law_cellways_k11_whole_paper" 412) 227),
 (234,Hd.co "_law_is_entry" 502 175 2 229 (.ref 231) (.ref 232) 233 507),
 (235,Hd.fo "_law_is_entry" (top 38) (.str "law_cellways_k11_whole_paper" 412) 234),
 (239,Hd.co "_law_due" 510 179 4 236 .none .none 238 513),
 (240,Hd.fo "_law_due" (top 39) (.str "law_cellways_k11_whole_paper" 412) 239),
 (244,Hd.co "_law_changed" 516 192 4 241 .none .none 243 519),
 (245,Hd.fo "_law_changed" (top 40) (.str "law_cellways_k11_whole_paper" 412) 244),
 (249,Hd.co "_law_once" 522 211 1 246 .none .none 248 525),
 (250,Hd.fo "_law_once" (top 41) (.str "law_cellways_k11_whole_paper" 412) 249),
 (254,Hd.co "law" 528 232 1 251 .none .none 253 531),
 (255,Hd.fo "law" (top 42) (.str "law_cellways_k11_whole_paper" 412) 254)]
def ts:List (Addr×Str):=[(123,n4 "spread"),(130,n4 "spread_to")]
noncomputable def K2(P:Params):PySem.W.Frag:=K P++[(123,PySem.W.tabObj #[]),(130,PySem.W.tabObj #[])]
noncomputable def as:List Addr:=[2,3,4,23,24,36,37,45,46,52,53,59,60,66,67,73,74,80,81,87,88,94,95,101,102,108,109,115,116,120,121,127,128,134,135,139,140,146,147,153,154,158,159,163,164,170,171,177,178,184,185,191,192,198,199,203,204,210,211,217,218,227,228,234,235,239,240,244,245,249,250,254,255,123,130]
noncomputable def Γ:Pg:=⟨[("WALL",(.str "#")),("STRAIGHT_COST",(.int 2)),("SLANTING_COST",(.int 3))],["len","abs","max","min","int","str","list","tuple","all","isinstance","bool","range","enumerate","zip","sorted","dict"],[],[],["NoSpot"],[],false⟩
def R0:eL:=[]
theorem qz:cJ (Γ.at R0 false) "_law_cell" dj (top 29):=stM λ_ _ _ _ _ _=>Hd.zt λ_ _=>rfl
noncomputable def R1:eL:=⟨"_law_cell","_law_cell",dj,top 29,false⟩::R0
theorem p9:cJ (Γ.at R1 false) "_law_pick" bR (top 30):=stM λ_ _ _ _ _ _=>Hd.Dj λ_ _ _=>rfl
noncomputable def R2:eL:=⟨"_law_pick","_law_pick",bR,top 30,false⟩::R1
theorem nF:cJ (Γ.at R2 false) "_law_floor" cG (top 31):=stM λ_ _ _ _ _ _=>Hd.Dj λ_ _ _=>rfl
noncomputable def R3:eL:=⟨"_law_floor","_law_floor",cG,top 31,false⟩::R2
theorem mf:cJ (Γ.at R3 false) "_law_walker" cM (top 32):=stM λ_ _ _ _ _ _=>Hd.zt λ_ _=>rfl
noncomputable def R4:eL:=⟨"_law_walker","_law_walker",cM,top 32,false⟩::R3
theorem nX:cJ (Γ.at R4 false) "_law_spots" bQ (top 33):=stM λ_ _ _ _ _ _=>Hd.LI λ_=>rfl
noncomputable def R5:eL:=⟨"_law_spots","_law_spots",bQ,top 33,false⟩::R4
theorem kP:cJ (Γ.at R5 false) "rising_costs" cC (top 22):=stM λ_ _ _ _ _ _=>Hd.LI λ_=>rfl
noncomputable def R6:eL:=⟨"rising_costs","rising_costs",cC,top 22,false⟩::R5
theorem nE:cJ (Γ.at R6 false) "are_beside" cX (top 14):=stM λ_ _ _ _ _ _=>Hd.zt λ_ _=>rfl
noncomputable def R7:eL:=⟨"are_beside","are_beside",cX,top 14,false⟩::R6
theorem su:cJ (Γ.at R7 false) "is_whole" dD (top 7):=stM λ_ _ _ _ _ _=>Hd.LI λ_=>rfl
noncomputable def R8:eL:=⟨"is_whole","is_whole",dD,top 7,false⟩::R7
theorem vg:cJ (Γ.at R8 false) "is_spot" d7 (top 8):=stM λ_ _ _ _ _ _=>Hd.LI λ_=>rfl
noncomputable def R9:eL:=⟨"is_spot","is_spot",d7,top 8,false⟩::R8
theorem lW:cJ (Γ.at R9 false) "is_on_floor" cL (top 9):=stM λ_ _ _ _ _ _=>Hd.zt λ_ _=>rfl
noncomputable def TC:eL:=⟨"is_on_floor","is_on_floor",cL,top 9,false⟩::R9
theorem vG:cJ (Γ.at TC false) "is_open" cK (top 10):=stM λ_ _ _ _ _ _=>Hd.zt λ_ _=>rfl
noncomputable def TJ:eL:=⟨"is_open","is_open",cK,top 10,false⟩::TC
theorem qb:cJ (Γ.at TJ false) "need_open" b9 (top 11):=stM λ_ _ _ _ _ _=>Hd.zt λ_ _=>rfl
noncomputable def Ta:eL:=⟨"need_open","need_open",b9,top 11,false⟩::TJ
theorem qR:cJ (Γ.at Ta false) "height_at" dh (top 12):=stM λ_ _ _ _ _ _=>Hd.zt λ_ _=>rfl
noncomputable def Tj:eL:=⟨"height_at","height_at",dh,top 12,false⟩::Ta
theorem hW:cJ (Γ.at Tj false) "has_open_corners" bC (top 15):=stM λ_ _ _ _ _ _=>Hd.Dj λ_ _ _=>rfl
noncomputable def S0:eL:=⟨"has_open_corners","has_open_corners",bC,top 15,false⟩::Tj
theorem p8:cJ (Γ.at S0 false) "step_cost" bF (top 16):=stM λ_ _ _ _ _ _=>Hd.LM λ_ _ _ _=>rfl
noncomputable def SV:eL:=⟨"step_cost","step_cost",bF,top 16,false⟩::S0
theorem gz:cJ (Γ.at SV false) "open_spots_beside" bt (top 13):=stM λ_ _ _ _ _ _=>Hd.zt λ_ _=>rfl
noncomputable def Ub:eL:=⟨"open_spots_beside","open_spots_beside",bt,top 13,false⟩::SV
theorem nC:cJ (Γ.at Ub false) "steps_from" cW (top 17):=stM λ_ _ _ _ _ _=>Hd.Dj λ_ _ _=>rfl
noncomputable def To:eL:=⟨"steps_from","steps_from",cW,top 17,false⟩::Ub
theorem sZ:cJ (Γ.at To false) "steps_to" cT (top 18):=stM λ_ _ _ _ _ _=>Hd.Dj λ_ _ _=>rfl
noncomputable def TF:eL:=⟨"steps_to","steps_to",cT,top 18,false⟩::To
theorem f7:cJ (Γ.at TF true) "spread" bH (top 20):=stM λ_ _ _ _ _ _=>Hd.zt λ_ _=>rfl
noncomputable def RZ:eL:=⟨"spread@steps_to","spread",bH,top 20,true⟩::TF
theorem qf:cJ (Γ.at RZ true) "spread_to" di (top 21):=stM λ_ _ _ _ _ _=>Hd.Dj λ_ _ _=>rfl
noncomputable def Ug:eL:=⟨"spread_to","spread_to",di,top 21,true⟩::RZ
theorem kU:cJ (Γ.at Ug false) "distances_to" cB (top 23):=stM λ_ _ _ _ _ _=>Hd.Dj λ_ _ _=>rfl
noncomputable def Th:eL:=⟨"distances_to","distances_to",cB,top 23,false⟩::Ug
theorem kS:cJ (Γ.at Th false) "_law_changed" bI (top 40):=stM λ_ _ _ _ _ _=>Hd.LM λ_ _ _ _=>rfl
noncomputable def Tv:eL:=⟨"_law_changed","_law_changed",bI,top 40,false⟩::Th
theorem sN:cJ (Γ.at Tv false) "is_entry" bS (top 24):=stM λ_ _ _ _ _ _=>Hd.zt λ_ _=>rfl
noncomputable def Si:eL:=⟨"is_entry","is_entry",bS,top 24,false⟩::Tv
theorem f6:cJ (Γ.at Si false) "has_rising_entries" aD (top 25):=stM λ_ _ _ _ _ _=>Hd.zt λ_ _=>rfl
noncomputable def Sj:eL:=⟨"has_rising_entries","has_rising_entries",aD,top 25,false⟩::Si
theorem jm:cJ (Γ.at Sj false) "keeps_steps_to" bg (top 27):=stM λ_ _ _ _ _ _=>Hd.LM λ_ _ _ _=>rfl
noncomputable def TV:eL:=⟨"keeps_steps_to","keeps_steps_to",bg,top 27,false⟩::Sj
theorem se:cJ (Γ.at TV false) "is_paper" bM (top 26):=stM λ_ _ _ _ _ _=>Hd.LM λ_ _ _ _=>rfl
noncomputable def Sf:eL:=⟨"is_paper","is_paper",bM,top 26,false⟩::TV
theorem pA:cJ (Γ.at Sf false) "_law_cost" cb (top 34):=stM λ_ _ _ _ _ _=>Hd.LM λ_ _ _ _=>rfl
noncomputable def S5:eL:=⟨"_law_cost","_law_cost",cb,top 34,false⟩::Sf
theorem nB:cJ (Γ.at S5 false) "_law_steps" bE (top 35):=stM λ_ _ _ _ _ _=>Hd.Dj λ_ _ _=>rfl
noncomputable def RT:eL:=⟨"_law_steps","_law_steps",bE,top 35,false⟩::S5
theorem jV:cJ (Γ.at RT false) "_law_costs_to" bw (top 37):=stM λ_ _ _ _ _ _=>Hd.Dj λ_ _ _=>rfl
noncomputable def Ti:eL:=⟨"_law_costs_to","_law_costs_to",bw,top 37,false⟩::RT
theorem kg:cJ (Γ.at Ti false) "_law_is_entry" aM (top 38):=stM λ_ _ _ _ _ _=>Hd.zt λ_ _=>rfl
noncomputable def S8:eL:=⟨"_law_is_entry","_law_is_entry",aM,top 38,false⟩::Ti
theorem sA:cJ (Γ.at S8 false) "_law_due" ba (top 39):=stM λ_ _ _ _ _ _=>Hd.LM λ_ _ _ _=>rfl
noncomputable def TY:eL:=⟨"_law_due","_law_due",ba,top 39,false⟩::S8
theorem pZ:cJ (Γ.at TY false) "_law_once" cF (top 41):=stM λ_ _ _ _ _ _=>Hd.LI λ_=>rfl
noncomputable def Oq:eL:=⟨"_law_once","_law_once",cF,top 41,false⟩::TY
theorem HR:cJ (Γ.at Oq false) "law" oe (top 42):=stM λ_ _ _ _ _ _=>Hd.LI λ_=>rfl
theorem oF(P:Params):gL (K P) 127 123:=⟨Hd.co "spread" 338 57 2 122 (.ref 124) (.ref 125) 126 350,_,_,_,_,_,_,_,_,by kernel_rfl,rfl,rfl,rfl,rfl,rfl,rfl,rfl,rfl,by decide⟩
theorem jr(P:Params):gL (K P) 134 130:=⟨Hd.co "spread_to" 353 70 3 129 (.ref 131) (.ref 132) 133 362,_,_,_,_,_,_,_,_,by kernel_rfl,rfl,rfl,rfl,rfl,rfl,rfl,rfl,rfl,by decide⟩
theorem Nr(ns:List Int)(hl:ns.length<=63):ay (den (tab Oq)) oe [.lst (ns.map .int)]=.ok (.bl true):=Of ns hl
theorem Qt(P:Params):AllK (K P) ts Γ Oq:=
 Hd.ac (Hd.ent 250 249 (.str "law_cellways_k11_whole_paper" 412)) pZ <| Hd.ac (Hd.ent 240 239 (.str "law_cellways_k11_whole_paper" 412)) sA <| Hd.ac (Hd.ent 235 234 (.str "law_cellways_k11_whole_paper" 412)) kg <| Hd.ac (Hd.ent 228 227 (.str "law_cellways_k11_whole_paper" 412)) jV <| Hd.ac (Hd.ent 218 217 (.str "law_cellways_k11_whole_paper" 412)) nB <| Hd.ac (Hd.ent 211 210 (.str "law_cellways_k11_whole_paper" 412)) pA <| Hd.ac (Hd.ent 164 163 (.str "cellways.ways" 336)) se <| Hd.ac (Hd.ent 171 170 (.str "cellways.ways" 336)) jm <| Hd.ac (Hd.ent 159 158 (.str "cellways.ways" 336)) f6 <| Hd.ac (Hd.ent 154 153 (.str "cellways.ways" 336)) sN <| Hd.ac (Hd.ent 245 244 (.str "law_cellways_k11_whole_paper" 412)) kS <| Hd.ac (Hd.ent 147 146 (.str "cellways.ways" 336)) kU <| Hd.ac (Hd.MS 135 134 130 (.str "cellways.ways" 336) (jr P) (by decide+kernel) (by decide+kernel)) qf <| Hd.ac (Hd.MS 128 127 123 (.str "cellways.ways" 336) (oF P) (by decide+kernel) (by decide+kernel)) f7 <| Hd.ac (Hd.ent 121 120 (.str "cellways.floors" 223)) sZ <| Hd.ac (Hd.ent 116 115 (.str "cellways.floors" 223)) nC <| Hd.ac (Hd.ent 88 87 (.str "cellways.floors" 223)) gz <| Hd.ac (Hd.ent 109 108 (.str "cellways.floors" 223)) p8 <| Hd.ac (Hd.ent 102 101 (.str "cellways.floors" 223)) hW <| Hd.ac (Hd.ent 81 80 (.str "cellways.floors" 223)) qR <| Hd.ac (Hd.ent 74 73 (.str "cellways.floors" 223)) qb <| Hd.ac (Hd.ent 67 66 (.str "cellways.floors" 223)) vG <| Hd.ac (Hd.ent 60 59 (.str "cellways.floors" 223)) lW <| Hd.ac (Hd.ent 53 52 (.str "cellways.floors" 223)) vg <| Hd.ac (Hd.ent 46 45 (.str "cellways.floors" 223)) su <| Hd.ac (Hd.ent 95 94 (.str "cellways.floors" 223)) nE <| Hd.ac (Hd.ent 140 139 (.str "cellways.ways" 336)) kP <| Hd.ac (Hd.ent 204 203 (.str "law_cellways_k11_whole_paper" 412)) nX <| Hd.ac (Hd.ent 199 198 (.str "law_cellways_k11_whole_paper" 412)) mf <| Hd.ac (Hd.ent 192 191 (.str "law_cellways_k11_whole_paper" 412)) nF <| Hd.ac (Hd.ent 185 184 (.str "law_cellways_k11_whole_paper" 412)) p9 <| Hd.ac (Hd.ent 178 177 (.str "law_cellways_k11_whole_paper" 412)) qz trivial
structure N6(K:PySem.W.Frag)(d:Str)(D:Addr):Prop where
 e:PySem.W.nsIn K mainGlobals d=some (some (.ref D))
 xc:K6 K D
 vt:PySem.W.kitOne K (.ref D) (.type "ValueError")=some true
 ex:PySem.W.excIn K D Bm "ValueError.__new__"=true
theorem Py{K:PySem.W.Frag}{d:Str}{D:Addr}(e:PySem.W.nsIn K mainGlobals d=some (some (.ref D)):=by kernel_rfl)(i:PySem.W.isClsIn K D=true:=by kernel_rfl)(v:PySem.W.subIn K (.ref D) (.type "ValueError")=some true:=by kernel_rfl)(ga:PySem.W.findIn K (.ref D) "__getattribute__"=some (some (.builtin "BaseException.__getattribute__")):=by kernel_rfl)(hk:PySem.W.findIn K (.ref D) "__getattr__"=some none:=by kernel_rfl)
 (cl:PySem.W.findIn K (.ref D) "__class__"=some (some (.builtin "object.__class__")):=by kernel_rfl) (mo:PySem.W.mroIn K D (.type "object")=some true:=by kernel_rfl) (mb:PySem.W.mroIn K D (.type "BaseException")=some true:=by kernel_rfl) (ex:PySem.W.excIn K D Bm "ValueError.__new__"=true:=by kernel_rfl):N6 K d D:=
 ⟨e,⟨ga,hk,cl,mo,mb,i⟩,Ad (by decide+kernel) v,ex⟩
theorem Q9(P:Params){mg:Str->Option Value}{h:Heap}(X:(K P).In h)(G:h.Ns mainGlobals mg):uA (K P) mg Γ ⟨K P,mg,["NoSpot"],ts⟩:=by
 have LH:∀{x:Str} {u:Value},PySem.W.nsIn (K P) mainGlobals x=some (some u)->mg x=some u:=λa=>PySem.W.mg_of X G a
 have ua:∀{x:Str},PySem.W.nsIn (K P) mainGlobals x=some none->mg x=none:=λa=>PySem.W.mg_none_of X G a
 have gN:N6 (K P) "NoSpot" 37:=Py
 refine⟨rfl,rfl,λq hq=>?_,λg hg=>?_,by decide+kernel,λc hc=>?_,λd hd D hD=>?_,λc hc=>?_,λc hc=>?_,λz=>absurd z (by decide+kernel),λ_=>⟨4,⟨.type "module",some builtinsNs,.plain,#[]⟩,LH (by kernel_rfl),by decide,by decide,by kernel_rfl,rfl,rfl,rfl⟩⟩
 ·simp only [Γ,List.mem_cons,List.not_mem_nil,or_false] at hq;rcases hq with rfl|rfl|rfl
  ·exact⟨.str "#" 225,.str "#",LH (by kernel_rfl),⟨_,rfl⟩,λG=>.s⟩
  ·exact⟨.int 2 227,.int 2,LH (by kernel_rfl),⟨_,rfl⟩,λG=>.i⟩
  ·exact⟨.int 3 229,.int 3,LH (by kernel_rfl),⟨_,rfl⟩,λG=>.i⟩
 ·simp only [Γ,List.mem_cons,List.not_mem_nil,or_false] at hg;rcases hg with rfl|rfl|rfl|rfl|rfl|rfl|rfl|rfl|rfl|rfl|rfl|rfl|rfl|rfl|rfl|rfl
  ·exact ua (by kernel_rfl)
  ·exact ua (by kernel_rfl)
  ·exact ua (by kernel_rfl)
  ·exact ua (by kernel_rfl)
  ·exact ua (by kernel_rfl)
  ·exact ua (by kernel_rfl)
  ·exact ua (by kernel_rfl)
  ·exact ua (by kernel_rfl)
  ·exact ua (by kernel_rfl)
  ·exact ua (by kernel_rfl)
  ·exact ua (by kernel_rfl)
  ·exact ua (by kernel_rfl)
  ·exact ua (by kernel_rfl)
  ·exact ua (by kernel_rfl)
  ·exact ua (by kernel_rfl)
  ·exact ua (by kernel_rfl)
 ·simp only [Γ,List.mem_cons,List.not_mem_nil,or_false] at hc
 ·simp only [List.mem_cons,List.not_mem_nil,or_false] at hd;rcases hd with rfl
  ·cases(LH gN.e).symm.trans hD;refine⟨gN.xc,λc hc C hC=>?_,gN.vt⟩
   simp only [Γ,List.mem_cons,List.not_mem_nil,or_false] at hc
 ·simp only [Γ,List.contains_iff_mem,List.mem_cons,List.not_mem_nil,or_false] at hc⊢;exact hc
 ·simp only [Γ,List.contains_iff_mem,List.mem_cons,List.not_mem_nil,or_false] at hc;rcases hc with rfl
  ·exact⟨_,LH gN.e,gN.ex⟩
theorem hY{P:Params}{h:Heap}(X:(K2 P).In h):(K P).In h/\∀p∈ts.map (·.1),h.get? p=some (PySem.W.tabObj #[]):=⟨λb o e=>X b o (Hd.B0 e),λp hp=>by
 simp only [ts,zzF,List.map_nil,List.mem_cons,List.not_mem_nil,or_false] at hp;rcases hp with rfl|rfl
 ·exact X _ _ (by kernel_rfl)
 ·exact X _ _ (by kernel_rfl)
⟩
theorem hC(P:Params):∀p∈ts.map (·.1),(∃c,gL (K P) c p)/\(K P).lookup p=none:=λp hp=>by
 simp only [ts,zzF,List.map_nil,List.mem_cons,List.not_mem_nil,or_false] at hp;rcases hp with rfl|rfl
 ·exact⟨⟨_,oF P⟩,by kernel_rfl⟩
 ·exact⟨⟨_,jr P⟩,by kernel_rfl⟩
def keep:List Nat:=[1,2,4,5,6,7,8,9,10,11,12,13,14,15,16,17,18,20,21,22,23,24,25,26,27,29,30,31,32,33,34,35,36,37,38,39,40,41,42]
theorem ka:∀P,as=(K2 P).map (·.1):=λ_=>by kernel_rfl
theorem left:PySem.W.LeftO lw.row.prog (PySem.W.view lw.row.prog keep) [] (λs=>PySem.W.xlAt (PySem.W.view lw.row.prog keep) [] s&&PySem.W.recOk lw.row.toRowW.records s) (PySem.W.kHook K2 as ka).obs (PySem.W.kHook K2 as ka).val 3100:=by
 refine Hd.Dk (T₀:=λP=>Hd.treeOf (PySem.W.boot_heap P).objs.toList) (m₀:=11) (life:={}) (ann:=some (.ref 6)) (M:=3050) (by kernel_rfl) (by kernel_rfl) (λs=>by kernel_rfl) Hd.MB Hd.N7 (by kernel_rfl) λw os=>?_
 rw [PySem.W.Fast.te10156331382660048174,PySem.W.Fast.te11892475500146522536,PySem.W.Fast.te14364793385576792824,PySem.W.Fast.te6613529449190102663,PySem.W.Fast.te4187177175401517315,PySem.W.Fast.te5923862056798008813]
 kernel_rfl
end K11
open PySem PySem.W PyProof.Rows
set_option maxRecDepth 100000 in
set_option maxHeartbeats 0 in
theorem PySem.Challenge.cw_cellways_k11_whole_paper_holds : PySem.Challenge.rw_cellways_k11_whole_paper.Holds := by
 refine Hd.holds (d:=⟨"law",L2.du (K11.top 42),L2.cV (K11.top 42),L2.bh (K11.top 42),Hd.Ry (K11.top 42)⟩) (by kernel_rfl) K11.ka K11.left (by kernel_rfl) (by kernel_rfl) (by kernel_rfl) (by kernel_rfl) ⟨rfl,rfl,rfl,rfl,rfl,by decide+kernel⟩ ?hw ?hc
 case hw=>w_witness2
 case hc=>exact Ci.walk (l:=PySem.Challenge.rw_cellways_k11_whole_paper) K11.Oq K11.Γ "_law_script" K11.oe ["NoSpot"] K11.ts (K11.top 42) rfl rfl rfl rfl rfl ⟨rfl,by decide,by decide⟩ (λw h Y=>K11.hY (PySem.W.kIn_of Y)) (λw=>K11.hC w.params) (λw mg h KX G=>K11.Q9 _ KX G) (λw=>Hd.ent 255 254 (.str "law_cellways_k11_whole_paper" 412)) K11.HR (λw=>K11.Qt _) K11.Nr
#print axioms PySem.Challenge.cw_cellways_k11_whole_paper_holds
